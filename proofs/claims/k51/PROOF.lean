import PyProof.Rows.All
import Wide.All
import OpenK.AllK
import Wide.FinOn
import Lean
import PyProof.EqAt
import PyProof.EqKinds
import PyProof.TupleCall
import KE.KRevIter
import PyProof.ListRange
import PyProof.TupleOfGen
import PyProof.Draws
import PyProof.EnumMake
import PyProof.EnumFor
import PyProof.NeKinds
import KE.KDictList
import PyProof.Rows.TupDisplay
import PyProof.ZipIter
import PyProof.Rows.ZipGen
import KE.KItemsList
import PyProof.Rows.SumAny
import PyProof.StrWalks
import PyProof.StrCalls
import PyProof.StrCalls3
import PyProof.StrLawsFirst
import PyProof.StrLawsIn
import PyProof.SliceStr2
import PyProof.StrBlockI
import PyProof.Rows.StrWeight2
import PyProof.ListNew
import PyProof.DictRoadsH
import PyProof.WalkInts
import PyProof.Rows.MinMaxN
import KE.KDictLaws
import PyProof.StrCalls2
import PyProof.StrLawsChain
import KE.KIntText
import KE.KxText
import KE.KMinKey
import KE.KPairComp
import PyProof.MaxThree
import PyProof.DictValues
import OpenK.KCls
import PyProof.Rows.SortShellK
import KE.KSortTup
import KE.KLam
import KE.KNestM
import PyProof.AttrMissHeap
import KE.KDictOf
import PyProof.TupleKey
import PyProof.SetKind
import PyProof.IsRules
import PyProof.Rows.SetFrom
import PyProof.Rows.Range3
import PySem.Challenge.RW_guessroom_k51_whole_askers_papers
set_option compiler.extract_closed false
local macro_rules | `(s!$_) => `(by lia)
local macro_rules|`(tactic|exists $[$x],*)=>`(tactic|refine ⟨$x,*, ?_⟩)
local macro_rules|`(#[$x,*])=>`(⟨$x,*⟩)
namespace Al
abbrev jH_:=@decide_eq_true
abbrev jQ_:=@decide_eq_false
abbrev j0_:=@of_decide_eq_true
abbrev j6_:=@decide_eq_true_eq
abbrev qx_:=@congrArg
abbrev qM_:=@if_false
abbrev xA_:=@beq_eq_false_iff_ne
abbrev x1_:=@if_true
abbrev zX_:=@ne_true_of_eq_false
abbrev z3_:=@beq_iff_eq
abbrev α0:=List (List (List Int))
abbrev α1:=List (List Int)
abbrev α2:=List Int
abbrev α5:=Option PySem.Value
abbrev α7:=List (PySem.Addr×PySem.Obj)
abbrev jR_:=@PySem.PassesOwn.never
abbrev j4_:=@Decidable.byContradiction
abbrev qk_:=@Iff.rfl
abbrev qs_:=@Ne.symm
abbrev xe_:=@PySem.Heap.SameBut.update
abbrev xr_:=@PySem.Around.under_plainId
abbrev xX_:=@List.cons.inj
abbrev x6_:=@PyProof.Rows.F.plain_set_update_loop
abbrev zf_:=@PySem.AutoSeq1.wpAny_loadPart'
abbrev zj_:=@PySem.Paired.length
abbrev zy_:=@List.Pairwise.map
abbrev zB_:=@PySem.Str.cps_append
end Al
open Al
open List renaming length_map->ja_,getElem?_eq_some_iff->jb_,mem_singleton->jd_,mem_of_getElem?->je_,getElem?_eq_getElem->jg_,getElem?_map->jh_,getElem?_append_left->ji_,length_append->jk_,size_toArray->jm_,map_append->jn_,mem_cons_of_mem->jo_,mem_map->jp_,mem_append->jr_,mem_cons_self->jt_,getElem?_append_right->ju_,mem_cons->jw_,getD_eq_getElem?_getD->jx_,take_length->jz_,length_singleton->jB_,length_take->jC_,take_add_one->jF_,length_cons->jG_,map_congr_left->jI_,map_map->jJ_,mem_iff_getElem?->jN_,map_cons->jT_,mem_range->jU_,mem_append_left->jY_,getElem_of_mem->j3_,getElem?_eq_none->j5_,mem_append_right->j9_,nodup_cons->qb_,getElem_mem->qd_,any_eq_true->qe_,find?_eq_none->qf_,take_of_length_le->qg_,length_eq_zero_iff->ql_,nodup_append->qm_,all_eq_true->qw_,mem_of_find?_eq_some->qC_,ext_getElem?->qH_,foldl_append->qJ_,length_range->qL_,mem_filter->qO_,lookup_cons->qS_,length_pos_of_mem->qU_,getElem?_range->qW_,mem_map_of_mem->qX_,find?_cons->q0_,map_inj_right->q2_,length_erase_of_mem->q3_,getElem?_take->q5_,countP_append->q6_,getElem?_cons_zero->q9_,getElem?_cons_succ->xb_,filterMap_cons->xd_,foldl_cons->xf_,find?_some->xg_,range_succ->xh_,length_drop->xl_,getElem_idxOf->xm_,map_singleton->xn_,drop_zero->xo_,pairwise_iff_getElem->xp_,length_nil->xu_,append_assoc->xx_,length_flatMap->xD_,mem_flatMap->xE_,take_zero->xG_,append_nil->xO_,idxOf_lt_length_of_mem->xQ_,pairwise_map->xW_,nodup_iff_pairwise_ne->x0_,mem_erase_of_ne->x5_,countP_cons->x7_,length_pos_iff->za_,all_map->ze_,idxOf_lt_length_iff->zi_,mem_filterMap->zk_,drop_of_length_le->zp_,sum_replicate_nat->zq_,nodup_nil->zz_,getElem?_toArray->zJ_,countP_singleton->zM_,getElem_map->zN_,mem_of_mem_drop->zO_,any_cons->zP_,toList_toArray->zY_,nil_append->zZ_,drop_succ_cons->z0_,range->oN,range'->oY,lookup->oZ,take_append_of_le_length->pD,replicate->pG,drop_eq_getElem_cons->pH,length->pJ,countP->pK,filterMap_cons_some->pM,getElem_inj->pQ,range'_succ->pU,filter_cons_of_pos->pV,filter_cons_of_neg->pW,drop_length->pX,getElem?_set_self->p9,of_mem_zip->qq,forIn_cons->qt,map_const'->qy,take_left'->qz,take_eq_take_iff->qB,getElem?_set_ne->qF,flatMap_append->qP,take_succ_cons->qQ,map_take->qS,sum_cons->qT,getElem?_drop->qX,take_sublist->rk,map_nil->rn,any_map->rp,flatMap_cons->rB,getElem_take->rC,find?_append->rE,not_mem_nil->rN,length_map->rT,drop_left'->rV,map->r6,all_cons->tq,foldl->uo
open PySem renaming wpAny_bind->jc_,wpAny_pure->jl_,boot_len->jO_,wpAny_holding->qq_,wpAny_callSpecial?_slot->qy_,wpAny_call_entry->qE_,mem_of_lookup->qF_,wpAny_newObj_type->qG_,wpAny_truthy_bool->qV_,wpAny_setField_rec->q4_,wpAny_typeNameOfWhole_keyiter->q8_,wpAny_passesOwn->xs_,codeAny_builtin->xv_,wpAny_typeNameOf_keyiter->xw_,wpAny_typeNameOfWhole_itemiter->xz_,wpAny_mono->xF_,wpAny_pyIter_tuple->xI_,wpAny_Call_Name_kw->xK_,tupleKind_room_in1->xN_,wpAny_pyIter_list->xU_,call_meets->xV_,codeAny_call_builtin->x2_,codeAny_mono->zb_,wpAny_typeOf->zd_,wpAny_pyIter_enum->zv_,wpAny_dictEntries->zw_,wpAny_setState_of->zx_,wpAny_fieldsOf->zA_,call_meetsIn->zE_,wpAny_notOrdered_dict->zG_,wpAny_isOneOf_keyiter->zH_,wpAny_attempt->zQ_,plainId_quiet->zR_,wpAny_execs_nil->zT_,sizeLine_eq->zU_,wpAny_specialOf->zW_,typeIs_str->z5_,FuncData->α6,Within->q9,list_append->rm,call->rX
open Nat renaming le_refl->jf_,lt_of_lt_of_le->jM_,ne_of_lt->jP_,zero_le->j8_,pow_le_pow_right->qh_,mul_le_mul->qn_,le_trans->qo_,lt_irrefl->qp_,le_of_not_lt->qv_,ne_of_gt->qz_,sub_self->qK_,not_lt_zero->q1_,lt_succ_self->q7_,lt_succ_of_lt->xc_,lt_or_ge->zg_,sub_zero->zh_,le_of_lt->zC_,zero_add->z1_,lt_trans->qb,min_self->qc,toDigits->qg,succ_mul->qk,strongRecOn->qu,min_eq_left->qx,lt_of_sub_eq_succ->qA,le_succ->qH,lt_of_le_of_lt->qW,pos_of_ne_zero->qZ,succ_pos->rA,succ_le_succ->rH,succ_ne_self->rJ,le_add_right->rL,min_eq_right->rM,mod_lt->rY,digitChar->tG,le_of_eq->tP,mul_succ->tS,add_comm->tV
open PySem.Heap renaming get?_push_of_some->jj_,get?_push_size->js_,lt_size->jv_,get?_update_self->qI_,get?_update_other->qT_,size_push->qZ_
open PySem.W renaming mg_of->jq_,mg_none_of->j7_,kia_one->qj_,callWith_K->xL_,methodCall_KW->zD_,plainGet_of->zV_,kitx_list->z4_,Frag->α3,findIn->oP,emptyDict->oT,excIn->oU,instObj->oX,plainGet->pb,hasDictIn->pj,plainOver->pk,lookIn->pF,methodObj->pI,cellsFrom_some->qa,hideAll->qo,takerIn->qp,OpenLaw->qr,codeIn->qI,hideAll_get->qN,of_hideAll->qU,kitx_tuple->qV,isFn->rh,specialIn->ri,kitx_dict->rj,handedIn->rF,makesIn->rP,WalkO->tD,funFrames_hide->tQ,kdl_hint_dict->tW,hideAll_size->uc,hideAll_none->ud,looks_findIn->ue,findObj_own->ug,looks_clsIn->uh,callWith_K0->ui,kitx_float->uj,codeRec_of->uk,method_cls->um,get_value->ur,method_fn->uu,set_plain->uv,make_core->uw,kitx_none->ux,kitx_bool->uy,cls_value->uz,eq_bytes->uA,ne_bytes->uB,osa_open->uC,any_some->uD,InitBack->uE,makes_of->uF,kitx_int->uG,kitx_str->uH,kitx_own->uI,kdl_call->uJ,bind_fn->uK,takesIn->uL,readsIn->uM,findCls->uN,InstAt->uO,typeIn->uP,KdlSrc->uQ,mroIn->uR
open Bool renaming false_ne_true->jy_,eq_iff_iff->j1_,false_eq_true->j2_,and_eq_true->qi_,not_true->zS_,false_and->qG,true_and->qR,or_eq_true->rQ,and_false->rW,not_false->rZ,or_false->tj
open Int renaming toNat_natCast->jA_,emod_lt_of_pos->qR_,eq_ofNat_of_zero_le->xa_,emod_nonneg->xi_,mul_le_mul_of_nonneg_right->xy_,le_refl->xP_,zero_add->xT_,add_mul_ediv_right->qe,ediv_eq_zero_of_lt->qf,add_comm->tR
open Option.some renaming inj->jD_,injEq->zu_
open PyProof.Rows renaming boot_tuple->jE_,slot_tuple_getitem->qa_,boot_isinstance->qr_,boot_list->qA_,callWith_type1->qP_,boot_all->xS_,boot_dict->zr_,len_partsBetween->pC,boot_any->qC,boot_int->qD,boot_str->qE,callWith_builtin1->rG,tuple_addW0->tE,digit_range->tH,boot_bool->tT,boot_set->tX,boot_max->ub
open PySem.F renaming plainAttrs_list->jK_,slot_list_append->jW_,type_list_append->jX_,slot_dict_get->qt_,plainAttrs_str->qB_,slot_dict_keyiterator_next->qN_,entry_dict_get->xk_,plainAttrs_dict->xB_,called_set->xR_,excBase_ValueError->xY_,slot_NoneType_hash->x3_,plain_extend_loop->x8_,slot_dict_itemiterator_next->x9_,args_tuple_add_2->zc_,entry_tuple_add->zl_,args_dict_get_2->zm_,slot_tuple_add->zo_,type_dict_get->zF_,slot_str_join->zK_,type_str_join->zL_,slot_list_extend->pO,type_list_extend->pP,args_dict_get_3->pS,slot_dict_items->pT,slot_list_count->pZ,type_list_count->p8,slot_str_split->ql,type_str_split->qm,args_dict_itemiterator_next_1->qM,entry_dict_itemiterator_next->qO,args_dict_items_iter_1->rK,entry_dict_items_iter->rO,slot_dict_items_iter->rR,slot_str_partition->r9,type_str_partition->sd,args_dict_items_1->sI,entry_dict_items->tF,type_dict_items->tJ,slot_list_index->tM,type_list_index->tN,slot_list_pop->tY,type_list_pop->tZ,slot_str_find->t7,type_str_find->ua
open Array renaming length_toList->jL_,getElem?_eq_some_iff->jS_,getElem?_eq_getElem->jV_,getElem?_toList->jZ_,getD_eq_getD_getElem?->qQ_,toList_append->xC_,getElem?_eq_none_iff->xZ_,getElem_toList->x4_,getElem_mem_toList->pN,getElem?_eq_none->qd,getD->qh,toList_replicate->qi,toList_filterMap->qj,size_map->qJ,forIn_toList->qY,toList_push->rq,replicate->rS,toList->tO
open Option renaming map_eq_some_iff->qc_,isSome_iff_exists->xt_,isSome_some->xM_,toList_some->zn_,map_eq_none_iff->zs_,isSome_none->z2_,getD_none->pR,getD_some->pY,map_some->qw,isSome->tI,none->uf
open PySem.StrLaws renaming glued_eq_join->qu_,subAt_one->qY_,join_length_le->xH_
open Classical renaming byContradiction->qD_,choose_spec->zI_,propDecidable->oS,choose->pB,not_forall->qK
open PySem.Calls renaming callWith_builtin->xj_,evalArgs_plain->xq_,spliced_cons->xJ_,spliced_nil->zt_
open True renaming intro->oO
open Or renaming inl->oQ,inr->o9
open ForInStep renaming yield->oR
open False renaming elim->oW
open List.Pairwise renaming nil->pq,imp_of_mem->pL,imp->rD,filterMap->tK
open Sum renaming inl->pE,inr->qL
open PySem.EqNone renaming eq_none_none->se,eq_none_bool->sf,eq_bool_none->si,ne_none_none->sm,ne_none_bool->sr,ne_bool_none->su,eq_none_int->sJ,eq_none_str->sL,eq_int_none->sO,eq_str_none->sQ,ne_none_int->sS,ne_none_str->sV,ne_int_none->sX,ne_str_none->tf
open PySem.EqMixed renaming eq_bool_str->sj,eq_str_bool->sk,ne_bool_str->sx,ne_str_bool->sG,eq_int_str->sP,eq_str_int->sR,ne_int_str->sY,ne_str_int->ti
open PySem.W (nsIn keepIn fnOf kitOne)
set_option Elab.async false
set_option linter.all false
set_option maxRecDepth 100000
namespace L2
open PySem PySem.Spec PyProof.Rows
abbrev Key:=Sum Int Str
noncomputable def Pj:Key->Value->Bool
 |.inl k,v=>Value.isInt k v
 |.inr x,v=>Value.isStrOf x v
noncomputable def keyH (w:World):Key->Int
 |.inl k=>hashInt k
 |.inr x=>hashStr w x
def Bx:∀{k:Key} {v:Value},Pj k v=true->(∃i t,k=pE i/\v=Value.int i t)\/(∃x t,k=qL x/\v=Value.str x t)
 |.inl i,v,h=>by
  obtain⟨t,e⟩:=Value.isInt_shape (k:=i) (v:=v) h;exact .inl #[i,t,rfl,e]
 |.inr x,v,h=>by
  obtain⟨t,e⟩:=Value.isStrOf_shape (x:=x) (v:=v) h;exact .inr #[x,t,rfl,e]
def GA (i:Int)(t:Tok):Pj (.inl i) (.int i t)=true:=by simp[Pj,Value.isInt]
def GC (x:Str)(t:Tok):Pj (.inr x) (.str x t)=true:=by simp[Pj,Value.isStrOf]
def Aa_ (a b:Int):decide ((pE a:Key)=pE b)=(a==b):=by
 by_cases e:a=b
 ·subst e;simp
 ·have h:¬ (pE a:Key)=pE b:=λq=>e (Sum.inl.inj q);rw[jQ_ h];exact (xA_.mpr e).symm
def Ab_ (a b:Str):decide ((qL a:Key)=qL b)=decide (a=b):=by
 by_cases e:a=b
 ·subst e;simp
 ·have h:¬ (qL a:Key)=qL b:=λq=>e (Sum.inr.inj q);rw[jQ_ h,jQ_ e]
def Ac_ (a:Int)(b:Str):decide ((pE a:Key)=qL b)=false:=jQ_ (λq=>nomatch q)
def Ad_ (a:Str)(b:Int):decide ((qL a:Key)=pE b)=false:=jQ_ (λq=>nomatch q)
noncomputable def Bc (prog:Program)(w:World):PySem.KeyKind prog w Key where
 is:=Pj
 hash:=keyH w
 inj:=λv a b f d=>by
  rcases Bx f with ⟨i,t,rfl,rfl⟩|⟨x,t,rfl,rfl⟩
  ·rcases Bx d with ⟨j,u,rfl,e⟩|⟨y,u,rfl,e⟩
   ·injection e with e1 _;rw[e1]
   ·exact nomatch e
  ·rcases Bx d with ⟨j,u,rfl,e⟩|⟨y,u,rfl,e⟩
   ·exact nomatch e
   ·injection e with e1 _;rw[e1]
 byValue:=λk v h=>by
  rcases Bx h with ⟨i,t,rfl,rfl⟩|⟨x,t,rfl,rfl⟩<;>rfl
 pyHash:=λc h=>by
  rcases Bx c with ⟨i,t,rfl,rfl⟩|⟨x,t,rfl,rfl⟩
  ·exact wpAny_pyHash_int h
  ·exact wpAny_pyHash_str h
 eqBool:=λg c h=>by
  rcases Bx g with ⟨i,t,rfl,rfl⟩|⟨x,t,rfl,rfl⟩
  ·rcases Bx c with ⟨j,u,rfl,rfl⟩|⟨y,u,rfl,rfl⟩
   ·rw[Aa_]at h;exact wpAny_eqBool_int h
   ·rw[Ac_]at h;exact SeqAt.EqAt.int_str i t y u _ _ _ _ h
  ·rcases Bx c with ⟨j,u,rfl,rfl⟩|⟨y,u,rfl,rfl⟩
   ·rw[Ad_]at h;exact SeqAt.EqAt.str_int x t j u _ _ _ _ h
   ·rw[Ab_]at h;exact wpAny_eqBool_str h
 «strs» := λk x t v h=>by
  rcases Bx h with ⟨i,u,rfl,e⟩|⟨y,u,rfl,e⟩
  ·exact nomatch e
  ·injection e with e1 _;subst e1;cases v<;>rfl
def QF (prog:Program)(w:World)(i:Int)(t:Tok):(Bc prog w).is (.inl i) (.int i t)=true:=GA i t
def QG (prog:Program)(w:World)(x:Str)(t:Tok):(Bc prog w).is (.inr x) (.str x t)=true:=GC x t
inductive V where
 | non|bl (b:Bool)|int (i:Int)|str (x:Str)|byt (b:Array UInt8)|flt (b:UInt64)|ref (a:Addr)|ty (n:String)
 deriving DecidableEq
def RelV:V->Value->Prop
 |.non,u=>u=Value.none
 |.bl b,u=>u=Value.bool b
 |.int i,u=>∃t,u=Value.int i t
 |.str x,u=>∃t,u=Value.str x t
 |.byt b,u=>∃t,u=Value.bytes b t
 |.flt b,u=>∃t,u=Value.float b t
 |.ref a,u=>u=Value.ref a
 |.ty n,u=>u=Value.type n
abbrev Vals:List V->List Value->Prop:=Paired RelV
def Vals.length (r:Vals xs us):xs.length=us.length:=zj_ r
def Vals.get:∀{xs:List V} {us:List Value} {i:Nat} {x:V},Vals xs us->xs[i]?=some x->∃u,us[i]?=some u/\RelV x u
 |_,_,_,_,.nil,e=>by simp at e
 |_,_,0,_,.cons r _,e=>by simp at e;subst e;exact#[_,rfl,r]
 |_,_,i+1,x,.cons _ t,e=>by
  obtain⟨u,h1,h2⟩:=Vals.get (i:=i) (x:=x) t (by simpa using e);exact#[u,by simpa using h1,h2]
def Vals.append:∀{xs ys:List V} {us ws:List Value},Vals xs us->Vals ys ws->Vals (xs++ys) (us++ws)
 |_,_,_,_,.nil,s=>s
 |_,_,_,_,.cons r t,s=>.cons r (Vals.append t s)
def Vals.take:∀{xs:List V} {us:List Value} (n:Nat),Vals xs us->Vals (xs.take n) (us.take n)
 |_,_,0,_=>.nil
 |_,_,_+1,.nil=>.nil
 |_,_,n+1,.cons r t=>.cons r (Vals.take n t)
def Vals.drop:∀{xs:List V} {us:List Value} (n:Nat),Vals xs us->Vals (xs.drop n) (us.drop n)
 |_,_,0,r=>r
 |_,_,_+1,.nil=>.nil
 |_,_,n+1,.cons _ t=>Vals.drop n t
def RelO:Option V->α5->Prop
 |some v,some u=>RelV v u
 |none,none=>True
 |_,_=>False
def KV {κ:Type}:List (κ×V)->List (κ×Value)->Prop:=Paired λ(p:κ×V) (q:κ×Value)=>p.1=q.1/\RelV p.2 q.2
noncomputable def kV:Key->V
 |.inl i=>.int i
 |.inr x=>.str x
inductive HO where
 | lst (xs:List V)
 | tup (xs:List V)
 | dK (kvs:List (Key×V))|dT (kvs:List (List Key×V))
 | set (S:Int->Bool) (n:Nat)
 | ins (C dx:Addr) (fs:List (Str×V))
 | own (x:Addr)
 | xd (fs:List (Str×V))
 | met (f x:Addr)
 | rng (lo hi:Int)
 | frz (o:Obj) (u:HO)
 | tbl (ps:Array Value)
 | ext (φ:Heap->Prop)
abbrev Hp:=Addr->Option HO
noncomputable def upd (H:Hp)(a:Addr)(o:HO):Hp:=λb=>if b=a then some o else H b
def Ab : upd H a o a=some o:=by unfold upd;rw[if_pos rfl]
def Ak (h:b≠a):upd H a o b=H b:=by unfold upd;rw[if_neg h]
def YQ {H:Hp}{a b:Addr}{o u:HO}(h:H a=some o)(h':H b=some u)(d:o≠u):a≠b:=by
 intro e;subst e;rw[h]at h';exact d (jD_ h')
def Bg {H:Hp}{a b:Addr}{o:HO}(h:H a=some o)(h':H b=none):a≠b:=by
 intro e;subst e;rw[h]at h';cases h'
section
variable (P:Program) (w:World)
def Bm (H:Hp)(h:Heap)(a:Addr):HO->Prop
 |.lst xs=>xs.length<=sizeLine/\∃(its:List Value) (n:Nat),Vals xs its/\h.get? a=some {cls:=.type "list",data:=.seq its.toArray n}
 |.tup xs=>xs.length<=sizeLine/\∃its:List Value,Vals xs its/\IsTup h a its.toArray
 |.dK kvs=>kvs.length<=sizeLine/\(a==sysModules)=false/\∃vs,KV kvs vs/\h.DictOf (Bc P w) a vs
 |.dT kvs=>kvs.length<=sizeLine/\(a==sysModules)=false/\∃xs:List (List Key×Addr×Value),
   Paired (λ(p:List Key×V) (q:List Key×Addr×Value)=>p.1=q.1/\H q.2.1=some (.tup (p.1.map kV))/\RelV p.2 q.2.2) kvs xs /\
   ∃o es ep,h.get? a=some o/\o.ExactDict/\o.data=.dict es ep/\es.toList=xs.map (entryOfKey (tupleKind (Bc P w)))/\(xs.map (·.1)).Nodup
 |.set S n=>h.SetOf (intKind P w) a S n
 |.ins C dx fs=>H dx=some (.own a)/\fs.length<=1000/\dx≠a/\h.get? a=some (oX C dx) /\
   ∃mA,h.Ns1 dx mA/\(∀f,RelO (fs.lookup f) (mA f))/\q9 mA (fs.map (·.1))
 |.own _=>∃o,h.get? a=some o
 |.xd fs=>∃mA,h.Ns1 a mA/\∀f,RelO (fs.lookup f) (mA f)
 |.rng lo hi=>∃t u v,h.get? a=some {cls:=.type "range",data:=.fields (List.toArray [.int lo t,.int hi u,.int 1 v])}
 |.frz o u=>h.get? a=some o/\Bm H h a u
 |.tbl ps=>h.get? a=some {cls:=.none,data:=.fields ps}
 |.met f x=>h.get? a=some (pI (.ref f) (.ref x))
 |.ext b=>b h/\(∃o,h.get? a=some o)/\∀h1 h2:Heap,b h1->(∀o,h1.get? a=some o->h2.get? a=some o)->b h2
def HOk (H:Hp)(h:Heap):Prop:=∀a o,H a=some o->Bm P w H h a o
end
section
variable {P:Program} {w:World} {H H':Hp} {h h':Heap} {a:Addr} {o:HO}
def Bm.lt (x:Bm P w H h a o):a<h.objs.size:=by
 cases o with
 |lst xs=>obtain⟨_,_,_,_,e⟩:=x;exact jv_ e
 |tup xs=>obtain⟨_,_,_,p⟩:=x;exact p.lt
 |dK b=>obtain⟨_,_,_,_,o,_,_,e,_⟩:=x;exact jv_ e
 |dT b=>obtain⟨_,_,_,_,o,_,_,e,_⟩:=x;exact jv_ e
 |set S n=>obtain⟨o,_,_,_,e,_⟩:=x;exact jv_ e
 |ins C dx fs=>obtain⟨_,_,_,e,_⟩:=x;exact jv_ e
 |own y=>obtain⟨_,e⟩:=x;exact jv_ e
 |xd fs=>obtain⟨_,⟨_,_,_,e,_⟩,_⟩:=x;exact jv_ e
 |rng lo hi=>obtain⟨_,_,_,e⟩:=x;exact jv_ e
 |frz c u=>obtain⟨e,_⟩:=x;exact jv_ e
 |tbl ps=>exact jv_ (show h.get? a=some _ from x)
 |met f y=>exact jv_ (show h.get? a=some _ from x)
 |ext d=>obtain⟨_,⟨_,e⟩,_⟩:=x;exact jv_ e
def Paired.mapP {α β:Type}{F G:α->β->Prop}:∀{c:List α} {l₂:List β},Paired F c l₂->(∀a b,F a b->G a b)->Paired G c l₂
 |_,_,.nil,_=>.nil
 |_,_,.cons r t,f=>.cons (f _ _ r) (Paired.mapP t f)
def Bm.stay (x:Bm P w H h a o)(k:∀b u,(b=a\/H b=some (.own a))->h.get? b=some u->h'.get? b=some u)
  (j:∀b,H b=some (.own a)->H' b=some (.own a)) (l:∀b xs,H b=some (.tup xs)->H' b=some (.tup xs)):Bm P w H' h' a o:=by
 induction o with
 |lst xs=>obtain⟨z,i,n,r,e⟩:=x;exact#[z,i,n,r,k _ _ (.inl rfl) e]
 |tup xs=>obtain⟨z,i,r,g,e,c⟩:=x;exact#[z,i,r,g,k _ _ (.inl rfl) e,c]
 |dK m=>obtain⟨z,y,s,r,g,es,ep,e,c⟩:=x;exact#[z,y,s,r,g,es,ep,k _ _ (.inl rfl) e,c]
 |dT m=>
  obtain⟨z,y,xs,r,g,es,ep,e,c⟩:=x;exact#[z,y,xs,Paired.mapP r λp q z=>#[z.1,l _ _ z.2.1,z.2.2],g,es,ep,k _ _ (.inl rfl) e,c]
 |set S n=>obtain⟨g,es,ep,t,e,c⟩:=x;exact#[g,es,ep,t,k _ _ (.inl rfl) e,c]
 |ins C dx fs=>
  obtain⟨d,z,A,e,mA,⟨od,es,ep,B,c⟩,r⟩:=x;exact#[j _ d,z,A,k _ _ (.inl rfl) e,mA,#[od,es,ep,k _ _ (.inr d) B,c],r]
 |own y=>obtain⟨g,e⟩:=x;exact#[g,k _ _ (.inl rfl) e]
 |xd fs=>obtain⟨mA,⟨od,es,ep,e,c⟩,r⟩:=x;exact#[mA,#[od,es,ep,k _ _ (.inl rfl) e,c],r]
 |rng lo hi=>obtain⟨t,u,v,e⟩:=x;exact#[t,u,v,k _ _ (.inl rfl) e]
 |frz g u D=>obtain⟨e,q⟩:=x;exact#[k _ _ (.inl rfl) e,D q]
 |tbl ps=>
  have e:h.get? a=some {cls:=.none,data:=.fields ps}:=x;show h'.get? a=some {cls:=.none,data:=.fields ps};exact k a _ (.inl rfl) e
 |met f y=>
  have e:h.get? a=some (pI (.ref f) (.ref y)):=x;show h'.get? a=some (pI (.ref f) (.ref y));exact k a _ (.inl rfl) e
 |ext E=>obtain⟨p,⟨o,e⟩,st⟩:=x;exact#[st _ _ p λo q=>k _ _ (.inl rfl) q,#[o,k _ _ (.inl rfl) e],st]
def HOk.lt (x:HOk P w H h)(e:H a=some o):a<h.objs.size:=(x a o e).lt
def HOk.fresh (x:HOk P w H h)(e:h.objs.size<=a):H a=none:=by
 cases q:H a with
 |none=>rfl
 |some u=>exact absurd (jM_ (x.lt q) e) (qp_ _)
def HOk.kept (x:HOk P w H h)(k:∀b u,h.get? b=some u->h'.get? b=some u):HOk P w H h':=λa o e=>
 (x a o e).stay (λb u _ q=>k b u q) (λ_ q=>q) λ_ _ q=>q
def HOk.laid (x:HOk P w H h)(k:∀b u,h.get? b=some u->h'.get? b=some u)(g:h.objs.size<=a)(i:Bm P w (upd H a o) h' a o):HOk P w (upd H a o) h':=λb u e=>by
 have d:=x.fresh g;by_cases f:b=a
 ·subst f;rw[Ab]at e;cases e;exact i
 ·rw[Ak f]at e;exact (x b u e).stay (λc v _ q=>k c v q) (λc q=>by rw[Ak (Bg q d)];exact q) λc xs q=>by rw[Ak (Bg q d)];exact q
end
def Rd (H:Hp)(a:Addr)(u:HO):Prop:=H a=some u \/ ∃o,H a=some (.frz o u)
def Rd.ok (r:Rd H a u)(x:HOk P w H h):Bm P w H h a u:=by
 rcases r with r|⟨o,r⟩
 ·exact x a u r
 ·obtain⟨_,q⟩:=x a _ r;exact q
def Mut:Option HO->Prop
 |some (.lst _)=>True
 |some (.dK _)=>True
 |some (.dT _)=>True
 |some (.set _ _)=>True
 |some (.ins _ _ _)=>True
 |some (.ext _)=>True
 |_=>False
section
variable {P:Program} {w:World} {H:Hp} {h h':Heap} {x e:Addr} {o':HO}
def HOk.write (ok:HOk P w H h)(a:Mut (H x))(i:e=x\/H e=some (.own x))(k:∀b u,b≠e->h.get? b=some u->h'.get? b=some u)(m:∃u,h'.get? e=some u)
  (n:Bm P w (upd H x o') h' x o'):HOk P w (upd H x o') h':=λb u q=>by
 have j:∀c y,H c=some (.own y)->c≠x:=λc y r z=>by subst z;rw[r]at a;exact a
 have o:∀c xs,H c=some (.tup xs)->c≠x:=λc xs r z=>by subst z;rw[r]at a;exact a
 by_cases d:b=x
 ·subst d;rw[Ab]at q;cases q;exact n
 ·rw[Ak d]at q;by_cases f:b=e
  ·have l:H b=some (.own x):=by
    rcases i with z|z
    ·exact absurd (f.trans z) d
    ·rw[f];exact z
   rw[q]at l;cases l;obtain⟨v,p⟩:=m;exact#[v,by rw[f];exact p]
  ·refine (ok b u q).stay (λc v g r=>k c v ?_ r) (λc r=>by rw[Ak (j c b r)];exact r) λc xs r=>by rw[Ak (o c xs r)];exact r
   rcases g with rfl|g
   ·exact f
   ·rintro rfl;rcases i with z|z
    ·exact j c b g z
    ·rw[g]at z;cases z;exact d rfl
end
structure Un (fs ex:List Addr)(H H':Hp)(h h':Heap):Prop where
 keep:∀b o,h.get? b=some o->H b=none->b∉fs->b∉ex->h'.get? b=some o
 slot:∀b o,h.get? b=some o->H b=none->b∈fs->b∉ex->∃sl,h'.get? b=some {o with slots:=sl}
 free:∀b o,h.get? b=some o->H b=none->b∉ex->H' b=none
 there:∀b o,h.get? b=some o->b∉ex->∃o',h'.get? b=some o'
 tups:∀b xs,H b=some (.tup xs)->H' b=some (.tup xs)
 frzs:∀b o u,H b=some (.frz o u)->H' b=some (.frz o u)
 tbls:∀b ps,H b=some (.tbl ps)->∃more,H' b=some (.tbl (ps++more))
section
variable {fs fs' ex ex':List Addr} {H H1 H2:Hp} {h h1 h2 h':Heap} {a x e:Addr} {o:HO}
def Un.any (u:Un fs ex H H1 h h1) (q:h.get? b=some ob)(n:H b=none)(a:b∉ex):∃d,h1.get? b=some {ob with slots:=d}:=by
 by_cases c:b∈fs
 ·exact u.slot b ob q n c a
 ·exact#[ob.slots,u.keep b ob q n c a]
def Un.kept (k:∀b u,h.get? b=some u->h'.get? b=some u):Un fs ex H H h h' :=
 #[λb a q _ _ _=>k b a q,λb a q _ _ _=>#[a.slots,k b a q],λ_ _ _ n _=>n,λb a q _=>#[a,k b a q],λ_ _ q=>q,λ_ _ _ q=>q,λ_ ps q=>#[(List.toArray []),by rw[q];simp]]
def Un.refl:Un fs ex H H h h:=Un.kept λ_ _ q=>q
def Un.laid (k:∀b u,h.get? b=some u->h'.get? b=some u)(d:h.objs.size<=a)(c:H a=none):Un fs ex H (upd H a o) h h' where
 keep:=λb u q _ _ _=>k b u q
 slot:=λb u q _ _ _=>#[u.slots,k b u q]
 free:=λb u q n _=>by rw[Ak (jP_ (jM_ (jv_ q) d))];exact n
 there:=λb u q _=>#[u,k b u q]
 tups:=λb xs q=>by rw[Ak (Bg q c)];exact q
 frzs:=λb u xs q=>by rw[Ak (Bg q c)];exact q
 tbls:=λb ps q=>#[(List.toArray []),by rw[Ak (Bg q c),q];simp]
def Un.write (a:Mut (H x))(g:e=x\/H e=some (.own x))(k:∀b u,b≠e->h.get? b=some u->h'.get? b=some u)(i:∃u,h'.get? e=some u):Un fs ex H (upd H x o) h h':=by
 have c:∀b,H b=none->b≠x:=λb n z=>by subst z;rw[n]at a;exact a
 have d:∀b,H b=none->b≠e:=λb n z=>by
  subst z;rcases g with r|r
  ·exact c b n r
  ·rw[n]at r;cases r
 have hm:∀b u,H b=some u->¬ Mut (some u)->b≠x:=λb u q j z=>by subst z;rw[q]at a;exact j a
 refine#[λb u q n _ _=>k b u (d b n) q,λb u q n _ _=>#[u.slots,k b u (d b n) q],λb u q n _=>by rw[Ak (c b n)];exact n,λb u q _=>?_,
  λb xs q=>by rw[Ak (hm b _ q λz=>z)];exact q,λb u xs q=>by rw[Ak (hm b _ q λz=>z)];exact q,λb ps q=>#[(List.toArray []),by rw[Ak (hm b _ q λz=>z),q];simp]]
 by_cases f:b=e
 ·subst f;exact i
 ·exact#[u,k b u f q]
end
noncomputable def trk (h:Heap)(H:Hp):List Addr:=(oN h.objs.size).filter λa=>(H a).isSome
noncomputable def hidT (h:Heap)(H:Hp):Heap:=qo h (trk h H)
def TX (h:Heap)(H:Hp):(hidT h H).objs.size=h.objs.size:=uc _ _
def Wc (e:h.get? b=some o)(n:H b=none):(hidT h H).get? b=some o:=
 qN _ e λhm=>by
  have q:(H b).isSome=true:=(qO_.mp hm).2;rw[n]at q;simp at q
def YR (e:(hidT h H).get? b=some o):h.get? b=some o/\H b=none:=by
 have a:h.get? b=some o:=qU (trk h H) e;exists a;cases q:H b with
 |none=>rfl
 |some x=>
  have hm:b∈trk h H:=qO_.mpr #[jU_.mpr (jv_ a),by simp[q]];have z:(hidT h H).get? b=none:=ud (trk h H) hm;rw[z]at e;cases e
noncomputable def YS (g h:Heap)(L:Addr):α7:=(oN h.objs.size).filterMap λa=>if a=L\/(g.get? a).isSome=true then none else (h.get? a).map λo=>(a,o)
noncomputable def rest (g h:Heap)(L d:Addr):α7:=(YS g h L).filter λp=>decide (p.1≠d)
end L2
namespace L2
open PySem PySem.Spec PyProof.Rows
structure Mod (K:α3)(mg:Str->α5)(base:Heap):Prop where
 kin:K.In base
 glob:base.Ns mainGlobals mg
 blt:∃mb,base.Ns builtinsNs mb/\∀x:Str,x ≠ "__name__" -> mb x=bootBuiltins x
 nolimit:base.NoLimit
structure Cx where
 prog:Program
 w:World
 K:α3
 mg:Str->α5
 base:Heap
 A:Around
 N:List Str
 s₀:Shared
 H₀:Hp
 env:Env
 outer:List Env
 stack:List Env
 ex:List Addr
 fn:Str->Bool
 calm:Bool
 pn:α7
 xe:Value->Shared->Prop
noncomputable def frs (l:List Env):List Addr:=l.filterMap (·.frame)
noncomputable abbrev Cx.fs (X:Cx):List Addr:=frs X.outer
def Vis (sc:Scope)(x:Str):Prop:=sc.names.lookup x=some .local\/sc.names.lookup x=some .cell\/sc.names.lookup x=some .free
def Loc (sc:Scope)(x:Str):Prop:=sc.names.lookup x=some .local\/sc.names.lookup x=some .cell
def Look (env:Env)(h:Heap)(m:Str->α5)(x:Str)(u:Value):Prop:=
 (env.kindOf x=some .local/\m x=some u)\/((env.kindOf x=some .cell\/env.kindOf x=some .free)/\∃c,env.cells.lookup x=some c/\h.IsCell c (some u))
structure Cx.Ok (X:Cx):Prop where
 mod:Mod X.K X.mg X.base
 kind:X.env.scope.kind=.function
 glob:X.env.globals=mainGlobals
 blt:X.env.builtins=builtinsNs
 above:X.s₀.heap.objs.size<=X.env.locals
 inj:∀x y c,X.env.cells.lookup x=some c->X.env.cells.lookup y=some c->x=y
 has:∀x,(X.env.kindOf x=some .cell\/X.env.kindOf x=some .free)->∃c,X.env.cells.lookup x=some c
 cab:∀x c,X.fn x=true->X.env.cells.lookup x=some c->X.s₀.heap.objs.size<=c
 hd:X.calm=true->X.A.handled=none
 frames:X.A.frames=some X.stack
 stk:X.stack=X.outer\/(X.stack=X.env::X.outer/\X.env.frame=some X.env.locals)
 exf:∀b∈X.ex,b≠X.env.locals/\∀x c,X.env.cells.lookup x=some c->c≠b
 bs:∀b o,X.base.get? b=some o->X.s₀.heap.get? b=some o/\X.H₀ b=none
 bsz:X.base.objs.size<=X.s₀.heap.objs.size
 noex:∀b o,X.base.get? b=some o->b∉X.ex
 exfs:∀b∈X.ex,b∉X.fs
 funs:X.s₀.heap.FunFrames X.base X.outer
 frf:∀b∈X.fs,X.H₀ b=none
structure Inv (X:Cx)(ae:α7)(σ:List (Option V))(H:Hp)(s:Shared):Prop where
 ok:X.Ok
 os:s.os=X.s₀.os
 bare:AllBare s.gens
 base:Un X.fs X.ex X.H₀ H X.s₀.heap s.heap
 loc:∃m,s.heap.Ns X.env.locals m/\∀(i:Nat) (x:Str) (v:V),X.N[i]?=some x->σ[i]?=some (some v)->Vis X.env.scope x->∃u,RelV v u/\Look X.env s.heap m x u
 cell:∀x c,X.env.cells.lookup x=some c->∃v,s.heap.IsCell c v
 free:H X.env.locals=none
 freeC:∀x c,X.env.cells.lookup x=some c->H c=none
 pin:∀p∈X.pn++ae,s.heap.get? p.1=some p.2/\H p.1=none/\p.1≠X.env.locals/\p.1∉X.fs/\∀v,p.2.data ≠ .cell v
 hok:HOk X.prog X.w H s.heap
 len:σ.length=X.N.length
section
variable {X:Cx} {ae:α7} {σ:List (Option V)} {H H':Hp} {s:Shared} {h':Heap}
def Cx.Ok.nofr (ok:X.Ok) (e:X.base.get? b=some o):b∉X.fs:=λa=>by
 have:=(ok.funs.mem a).1;rw[e]at this;cases this
def Inv.bs (I:Inv X ae σ H s):∀b o,X.base.get? b=some o->s.heap.get? b=some o/\H b=none:=λb o e=>
 #[I.base.keep b o (I.ok.bs b o e).1 (I.ok.bs b o e).2 (I.ok.nofr e) (I.ok.noex b o e),I.base.free b o (I.ok.bs b o e).1 (I.ok.bs b o e).2 (I.ok.noex b o e)]
def Inv.bk (I:Inv X ae σ H s):∀b o,X.base.get? b=some o->s.heap.get? b=some o:=λb o e=>(I.bs b o e).1
def Inv.mod (I:Inv X ae σ H s):Mod X.K X.mg X.base:=I.ok.mod
def Inv.kIn (I:Inv X ae σ H s):X.K.In s.heap:=I.ok.mod.kin.keeps I.bk
def Inv.lt (I:Inv X ae σ H s):X.env.locals<s.heap.objs.size:=let ⟨_,a,_⟩:=I.loc;a.lt
def Inv.sz (I:Inv X ae σ H s):X.s₀.heap.objs.size<=s.heap.objs.size:=qo_ I.ok.above (zC_ I.lt)
def Inv.nofs (I:Inv X ae σ H s) (h:s.heap.objs.size<=a):a∉X.fs:=λb=>by
 obtain⟨_,o,c,_⟩:=I.ok.funs.mem b;exact absurd (jM_ (jv_ c) (qo_ I.sz h)) (qp_ _)
def Inv.cne (I:Inv X ae σ H s):∀x c,X.env.cells.lookup x=some c->c≠X.env.locals:=λx c e z=>by
 obtain⟨v,o,a,b⟩:=I.cell x c e;obtain⟨m,⟨o',es,ep,d,f,_⟩,_⟩:=I.loc;rw[z,d]at a;cases a;rw[f]at b;cases b
def Inv.funs (I:Inv X ae σ H s):s.heap.FunFrames X.base X.outer:=by
 have g:∀(l:List Env),(∀b∈frs l,b∈X.fs)->X.s₀.heap.FunFrames X.base l->s.heap.FunFrames X.base l:=by
  intro l
  induction l with
  |nil=>intro _ _;trivial
  |cons q r h=>
   intro f i;obtain⟨j,⟨L,o,a,k,m,n⟩,p⟩:=i;have c:L∈X.fs:=f L (by unfold frs;rw[xd_,a];exact jt_);obtain⟨t,e⟩:=I.base.slot L o m (I.ok.frf L c) c λz=>I.ok.exfs L z c;exact#[j,#[L,_,a,k,e,n],h (λb d=>f b (by unfold frs;rw[xd_,a];exact jo_ _ d)) p]
 exact g X.outer (λ_ d=>d) I.ok.funs
def Inv.stack (I:Inv X ae σ H s):s.heap.FunFrames X.base X.stack:=by
 rcases I.ok.stk with e|⟨e,a⟩
 ·rw[e];exact I.funs
 ·rw[e];obtain⟨m,b,_⟩:=I.loc;refine .cons (by rw[I.ok.kind];decide) a b ?_ I.funs;exact Heap.get?_none_of_le (qo_ I.ok.bsz I.ok.above)
def Inv.stkSub (I:Inv X ae σ H s):∀b∈frs X.stack,b∈X.env.locals::X.fs:=λb a=>by
 rcases I.ok.stk with e|⟨e,c⟩
 ·rw[e]at a;exact jo_ _ a
 ·rw[e]at a;unfold frs at a;rw[xd_,c]at a;exact a
def Inv.stkFree (I:Inv X ae σ H s):∀b∈frs X.stack,H b=none:=λb a=>by
 rcases jw_.mp (I.stkSub b a) with e|a
 ·rw[e];exact I.free
 ·obtain⟨_,o,c,_⟩:=I.ok.funs.mem a;exact I.base.free b o c (I.ok.frf b a) λz=>I.ok.exfs b z a
def Inv.step {g':Array GenState}{t':Nat}{d':Drawn}{ch:List Addr}(I:Inv X ae σ H s)
  (j:∀b∈ch,(b∈X.ex\/X.s₀.heap.objs.size<=b)/\b≠X.env.locals/\(∀x c,X.env.cells.lookup x=some c->c≠b)/\∀p∈X.pn++ae,p.1≠b)
  (C:∀b o,b≠X.env.locals->b∉X.fs->b∉ch->s.heap.get? b=some o->H b=none->h'.get? b=some o)
  (F:∀b o,b≠X.env.locals->b∈X.fs->b∉ch->s.heap.get? b=some o->H b=none->∃D,h'.get? b=some {o with slots:=D}) (A:∀b o,b∉ch->s.heap.get? b=some o->H b=none->H' b=none)
  (O:∀b o,b∉ch->s.heap.get? b=some o->∃o',h'.get? b=some o')
  (P:∀b xs,H b=some (.tup xs)->H' b=some (.tup xs)) (Q:∀b o u,H b=some (.frz o u)->H' b=some (.frz o u)) (R:∀b ps,H b=some (.tbl ps)->∃S,H' b=some (.tbl (ps++S)))
  (ns:∀m,s.heap.Ns X.env.locals m->h'.Ns X.env.locals m) (T:HOk X.prog X.w H' h') (U:AllBare g'):
  Inv X ae σ H' {s with heap:=h',gens:=g',drawn:=d',toks:=t' }:=by
 have G:∀b o,X.s₀.heap.get? b=some o->b≠X.env.locals:=λb o e=>jP_ (jM_ (jv_ e) I.ok.above);have B:∀b o,X.s₀.heap.get? b=some o->b∉X.ex->b∉ch:=λb o e a g=>by
  rcases (j b g).1 with z|z
  ·exact a z
  ·exact absurd (jM_ (jv_ e) z) (qp_ _)
 have J:∀x c,X.env.cells.lookup x=some c->∀v,s.heap.IsCell c v->h'.IsCell c v:=λx c e v ⟨o,h,E⟩=>by
  have t:c∉ch:=λz=>(j c z).2.2.1 x c e rfl;by_cases K:c∈X.fs
  ·obtain⟨D,q⟩:=F c o (I.cne x c e) K t h (I.freeC x c e);exact#[_,q,E]
  ·exact#[o,C c o (I.cne x c e) K t h (I.freeC x c e),E]
 refine#[I.ok,I.os,U,#[λb o e n g a=>?_,λb o e n g a=>?_,λb o e n a=>?_,λb o e a=>?_,λb xs e=>P b xs (I.base.tups b xs e),λb o xs e=>Q b o xs (I.base.frzs b o xs e),λb ps e=>?_],?_,λx c e=>?_,?_,λx c e=>?_,λp L=>?_,T,I.len]
 ·exact C b o (G b o e) g (B b o e a) (I.base.keep b o e n g a) (I.base.free b o e n a)
 ·obtain⟨D,f⟩:=I.base.slot b o e n g a;obtain⟨V,y⟩:=F b _ (G b o e) g (B b o e a) f (I.base.free b o e n a);exact#[V,y]
 ·obtain⟨o',f⟩:=I.base.there b o e a;exact A b o' (B b o e a) f (I.base.free b o e n a)
 ·obtain⟨o',f⟩:=I.base.there b o e a;exact O b o' (B b o e a) f
 ·obtain⟨W,f⟩:=I.base.tbls b ps e;obtain⟨Y,y⟩:=R b _ f;exact#[W++Y,by rw[y,Array.append_assoc]]
 ·obtain⟨m,Z,aa⟩:=I.loc;refine#[m,ns m Z,λi x v f y ab=>?_];obtain⟨u,r,l⟩:=aa i x v f y ab;exists u,r;rcases l with l|⟨k,c,e,z⟩
  ·exact .inl l
  ·exact .inr #[k,c,e,J x c e _ z]
 ·obtain⟨v,z⟩:=I.cell x c e;exact#[v,J x c e v z]
 ·obtain⟨m,⟨o,_,_,h,_⟩,_⟩:=I.loc;exact A _ o (λz=>(j _ z).2.1 rfl) h I.free
 ·obtain⟨v,o,h,E⟩:=I.cell x c e;exact A c o (λz=>(j c z).2.2.1 x c e rfl) h (I.freeC x c e)
 ·obtain⟨e,n,M,N,d⟩:=I.pin p L;have t:p.1∉ch:=λz=>(j p.1 z).2.2.2 p L rfl;exact#[C p.1 p.2 M N t e n,A p.1 p.2 t e n,M,N,d]
def Inv.un (I:Inv X ae σ H s)(u:Un X.fs [] H H' s.heap h')(f:HOk X.prog X.w H' h'):Inv X ae σ H' {s with heap:=h',toks:=t' }:=by
 obtain⟨m,⟨o,es,ep,c,r⟩,_⟩:=id I.loc;obtain⟨j,g⟩:=u.any c I.free (by simp);exact I.step (g':=s.gens) (d':=s.drawn) (ch:=[]) (λ_ z=>nomatch z) (λb o _ a _ e n=>u.keep b o e n a (by simp)) (λb o _ a _ e n=>u.slot b o e n a (by simp)) (λb o _ e n=>u.free b o e n (by simp)) (λb o _ e=>u.there b o e (by simp)) u.tups u.frzs u.tbls (λk hm=>by
  obtain⟨o',h,i,d,r'⟩:=hm;rw[c]at d;cases d;exact#[_,h,i,g,r']) f I.bare
def Inv.call (I:Inv X ae σ H s)(u:Un (frs X.stack) ch H H' s.heap h')(i:HOk X.prog X.w H' h')(j:AllBare g')
  (f:∀b∈ch,(b∈X.ex\/X.s₀.heap.objs.size<=b)/\b≠X.env.locals/\(∀x c,X.env.cells.lookup x=some c->c≠b)/\∀p∈X.pn++ae,p.1≠b):
  Inv X ae σ H' {s with heap:=h',gens:=g',drawn:=d',toks:=t' }:=by
 obtain⟨m,⟨o,es,ep,g,r⟩,_⟩:=id I.loc;obtain⟨t,d⟩:=u.any g I.free λz=>(f _ z).2.1 rfl;exact I.step (ch:=ch) f (λb o d k a e n=>u.keep b o e n (λz=>(jw_.mp (I.stkSub b z)).elim d k) a) (λb o _ _ a e n=>u.any e n a) (λb o a e n=>u.free b o e n a) (λb o a e=>u.there b o e a) u.tups u.frzs u.tbls (λv hm=>by
  obtain⟨o',l,q,h,r'⟩:=hm;rw[g]at h;cases h;exact#[_,l,q,d,r']) i j
def Inv.turned {it:Addr}(I:Inv X ae σ H s)(k:∀b o,b≠it->s.heap.get? b=some o->h'.get? b=some o)(g:H it=none)(d:it≠X.env.locals)
  (h1:it∈X.ex\/X.s₀.heap.objs.size<=it) (h2:∀x c,X.env.cells.lookup x=some c->c≠it) (h:∀p∈X.pn++ae,p.1≠it):Inv X ae σ H {s with heap:=h',toks:=t' }:=by
 have f:∀b u,H b=some u->b≠it:=λb u e z=>by rw[z,g]at e;cases e
 refine I.step (g':=s.gens) (d':=s.drawn) (ch:=[it]) (λb i=>?_) (λb o _ _ a e _=>k b o (λz=>a (by simp[z])) e) (λb o _ _ a e _=>#[o.slots,k b o (λz=>a (by simp[z])) e]) (λ_ _ _ _ n=>n)
  (λb o a e=>#[o,k b o (λz=>a (by simp[z])) e]) (λ_ _ e=>e) (λ_ _ _ e=>e) (λb ps e=>#[(List.toArray []),by rw[e];simp]) (λm hm=>?_) (λb u e=>?_) I.bare
 ·have e:b=it:=by simpa using i
  subst e;exact#[h1,d,h2,h]
 ·obtain⟨o,es,ep,j,r⟩:=hm;exact#[o,es,ep,k _ o (qs_ d) j,r]
 ·refine (I.hok b u e).stay (λc v a q=>k c v ?_ q) (λ_ q=>q) λ_ _ q=>q;rcases a with z|z
  ·rw[z];exact f b u e
  ·exact f c _ z
def Inv.tok (I:Inv X ae σ H s)(t:Nat):Inv X ae σ H {s with toks:=t}:=I.un (h':=s.heap) (t':=t) Un.refl I.hok
def Inv.kept (I:Inv X ae σ H s)(k:∀b u,s.heap.get? b=some u->h'.get? b=some u):Inv X ae σ H {s with heap:=h',toks:=t' }:=I.un (Un.kept k) (I.hok.kept k)
def Inv.laid (I:Inv X ae σ H s)(k:∀b u,s.heap.get? b=some u->h'.get? b=some u)(c:s.heap.objs.size<=a)(d:Bm X.prog X.w (upd H a o) h' a o):
  Inv X ae σ (upd H a o) {s with heap:=h',toks:=t' }:=I.un (Un.laid k c (I.hok.fresh c)) (I.hok.laid k c d)
def Inv.write (I:Inv X ae σ H s)(a:Mut (H x))(c:e=x\/H e=some (.own x))(k:∀b u,b≠e->s.heap.get? b=some u->h'.get? b=some u)(d:∃u,h'.get? e=some u)
  (f:Bm X.prog X.w (upd H x o) h' x o):Inv X ae σ (upd H x o) {s with heap:=h',toks:=t' }:=I.un (Un.write a c k d) (I.hok.write a c k d f)
def Inv.pins_of (I:Inv X ae σ H s)(h:∀p∈bS,s.heap.get? p.1=some p.2/\H p.1=none/\p.1≠X.env.locals/\p.1∉X.fs/\∀v,p.2.data ≠ .cell v):Inv X bS σ H s:=
 #[I.ok,I.os,I.bare,I.base,I.loc,I.cell,I.free,I.freeC,λp a=>(jr_.mp a).elim (λz=>I.pin p (jY_ _ z)) (h p),I.hok,I.len]
def Rz {N:List Str}(c:N.Nodup){i j:Nat}{x:Str}(a:N[i]?=some x)(b:N[j]?=some x):i=j:=by
 obtain⟨h1,d⟩:=jb_.mp a;obtain⟨h2,e⟩:=jb_.mp b;exact (pQ c).mp (d.trans e.symm)
def Pl (I:Inv X ae σ H s)(Y:X.N.Nodup)(hi:X.N[i]?=some x)(t:Loc X.env.scope x)(r:RelV v u)
  (h:∀s',Inv X ae (σ.set i (some v)) H s'->(∃a,Heap.SameBut a s.heap s'.heap/\(a=X.env.locals\/X.env.cells.lookup x=some a))->Q () s') (ai:X.fn x=true\/X.env.scope.names.lookup x=some .local:=by first|exact .inl rfl|exact .inr rfl|assumption):wpAny M A (storeName X.env x u) Q E s:=by
 obtain⟨m,L,Z⟩:=id I.loc;have aj:(X.env.scope.kind == .class||(X.env.scope.kind == .module&&X.env.locals != X.env.globals))=false:=by rw[I.ok.kind];rfl
 have aa:i<σ.length:=by rw[I.len];exact (jb_.mp hi).1
 have O:=I.cne;have ab:∀{a:Addr} {h':Heap},(∃o,s.heap.get? a=some o/\H a=none)->Heap.SameBut a s.heap h'->HOk X.prog X.w H h':=λ{a h'} ak f b al e=>by
  obtain⟨_,_,ac⟩:=ak;refine (I.hok b al e).stay (λc G l q=>(f.2 c ?_).trans q) (λ_ q=>q) λ_ _ q=>q;rintro rfl;rcases l with rfl|l
  ·rw[ac]at e;cases e
  ·rw[ac]at l;cases l
 rcases t with C|C
 ·refine wpAny_storeName_local C L (λh' am f=>?_) aj;obtain⟨an,_,_,ao,_⟩:=id L;refine h _ #[I.ok,I.os,I.bare,#[λb o e n D t=>?_,λb o e n D t=>?_,I.base.free,λb o e t=>?_,I.base.tups,I.base.frzs,I.base.tbls],#[_,am,λj y P g B R=>?_],λy c e=>?_,I.free,I.freeC,λp S=>?_,ab #[an,ao,I.free] f,by simpa using I.len] #[_,f,.inl rfl]
  ·exact (f.2 b (jP_ (jM_ (jv_ e) I.ok.above))).trans (I.base.keep b o e n D t)
  ·obtain⟨T,g⟩:=I.base.slot b o e n D t;exact#[T,(f.2 b (jP_ (jM_ (jv_ e) I.ok.above))).trans g]
  ·obtain⟨o',g⟩:=I.base.there b o e t;exact#[o',(f.2 b (jP_ (jM_ (jv_ e) I.ok.above))).trans g]
  ·by_cases F:j=i
   ·subst F;rw[hi]at g;cases g;rw[p9 aa]at B;cases B;exact#[u,r,.inl #[C,by simp]]
   ·rw[qF (qs_ F)]at B;obtain⟨U,r',q⟩:=Z j y P g B R;exists U,r';rcases q with ⟨k,e⟩|⟨k,c,e,z⟩
    ·refine .inl #[k,?_];have:y≠x:=λe=>F (Rz Y g (e ▸ hi));simp[this,e]
    ·exact .inr #[k,c,e,z.sameBut f (O y c e)]
  ·obtain⟨G,z⟩:=I.cell y c e;exact#[G,z.sameBut f (O y c e)]
  ·obtain⟨e,n,J,V,d⟩:=I.pin p S;exact#[(f.2 p.1 J).trans e,n,J,V,d]
 ·have W:X.fn x=true:=by
   rcases ai with z|z
   ·exact z
   ·rw[z]at C;cases C
  obtain⟨c,l⟩:=I.ok.has x (.inl C);obtain⟨G,z⟩:=I.cell x c l;refine wpAny_storeName_cell I.ok.kind C l z (λh' ad f=>?_);obtain⟨af,ag,ap⟩:=id z;refine h {s with heap:=h' } #[I.ok,I.os,I.bare,#[λb o e n D t=>?_,λb o e n D t=>?_,I.base.free,λb o e t=>?_,I.base.tups,I.base.frzs,I.base.tbls],#[m,L.sameBut f (qs_ (O x c l)),λj y P g B R=>?_],λy K e=>?_,I.free,I.freeC,λp S=>?_,ab #[af,ag,I.freeC x c l] f,by simpa using I.len] #[c,f,.inr l]
  ·exact (f.2 b (jP_ (jM_ (jv_ e) (I.ok.cab x c W l)))).trans (I.base.keep b o e n D t)
  ·obtain⟨T,g⟩:=I.base.slot b o e n D t;exact#[T,(f.2 b (jP_ (jM_ (jv_ e) (I.ok.cab x c W l)))).trans g]
  ·obtain⟨o',g⟩:=I.base.there b o e t;exact#[o',(f.2 b (jP_ (jM_ (jv_ e) (I.ok.cab x c W l)))).trans g]
  ·by_cases F:j=i
   ·subst F;rw[hi]at g;cases g;rw[p9 aa]at B;cases B;exact#[u,r,.inr #[.inl C,c,l,ad]]
   ·rw[qF (qs_ F)]at B;obtain⟨U,r',q⟩:=Z j y P g B R;exists U,r';rcases q with q|⟨k,K,e,aq⟩
    ·exact .inl q
    ·refine .inr #[k,K,e,aq.sameBut f ?_];rintro rfl;exact F (Rz Y g (I.ok.inj _ _ _ e l ▸ hi))
  ·by_cases ah:K=c
   ·subst ah;exact#[_,ad]
   ·obtain⟨ar,as⟩:=I.cell y K e;exact#[ar,as.sameBut f ah]
  ·obtain⟨e,n,J,V,d⟩:=I.pin p S;refine#[(f.2 p.1 ?_).trans e,n,J,V,d];intro q;rw[q,ag]at e;have au:af=p.2:=jD_ e;exact d G (by rw[<-au];exact ap)
def RA (I:Inv X ae σ H s)(a:X.N.Nodup)(hi:X.N[i]?=some x)(b:Loc X.env.scope x)(r:RelV v u)
  (h:∀s',Inv X ae (σ.set i (some v)) H s'->Q () s') (c:X.fn x=true\/X.env.scope.names.lookup x=some .local:=by first|exact .inl rfl|exact .inr rfl|assumption):wpAny M A (storeName X.env x u) Q E s:=
 Pl I a hi b r (λs' d _=>h s' d) c
def Inv.call' (I:Inv X ae σ H s)(a:s'.os=s.os)(u:Un (frs X.stack) ch H H' s.heap s'.heap)(d:HOk X.prog X.w H' s'.heap)(f:AllBare s'.gens)
  (g:∀b∈ch,(b∈X.ex\/X.s₀.heap.objs.size<=b)/\b≠X.env.locals/\(∀x c,X.env.cells.lookup x=some c->c≠b)/\∀p∈X.pn++ae,p.1≠b):Inv X ae σ H' s':=by
 obtain⟨h',g',d',t',o'⟩:=s';have e:o'=s.os:=a;subst e;exact I.call (g':=g') (t':=t') (d':=d') u d f g
end
abbrev XK:=Value->Option Addr->Hp->Prop
abbrev St:=List (Option V)
abbrev VK:=V->Hp->Prop
abbrev TE:=St->Hp->VK->Prop
abbrev TT:=St->Hp->(Bool->Hp->Prop)->Prop
abbrev TA:=St->Hp->(List V->Hp->Prop)->Prop
structure Ends where
 nx:St->Hp->Prop
 rt:VK
 bk:St->Hp->Prop:=λ_ _=>False
 ct:St->Hp->Prop:=λ_ _=>False
abbrev TS:=Ends->St->Hp->Prop
def EP (X:Cx)(ae:α7)(σ:St)(Q:VK)(u:Value)(s':Shared):Prop:=∃v H',Inv X ae σ H' s'/\RelV v u/\Q v H'
def TP (X:Cx)(ae:α7)(σ:St)(Q:Bool->Hp->Prop)(b:Bool)(s':Shared):Prop:=∃H',Inv X ae σ H' s'/\Q b H'
def AP (X:Cx)(ae:α7)(σ:St)(Q:List V->Hp->Prop)(us:List Value)(s':Shared):Prop:=∃a H',Inv X ae σ H' s'/\Vals a us/\Q a H'
def SP (X:Cx)(ae:α7)(D:Ends)(f:Flow)(s':Shared):Prop:=
 match f with
 |.next=>∃a H',Inv X ae a H' s'/\D.nx a H'
 |.brk=>∃a H',Inv X ae a H' s'/\D.bk a H'
 |.cont=>∃a H',Inv X ae a H' s'/\D.ct a H'
 |.ret u=>∃v a H',Inv X ae a H' s'/\RelV v u/\D.rt v H'
def PE (X:Cx)(e:Expr)(t:TE):Prop:=
 ∀(ae:α7) (s:Shared) (σ:St) (H:Hp) (Q:VK),Inv X ae σ H s->t σ H Q->wpAny (model X.prog X.w) X.A (eval e X.env) (EP X ae σ Q) X.xe s
def PT (X:Cx)(e:Expr)(t:TT):Prop:=
 ∀(ae:α7) (s:Shared) (σ:St) (H:Hp) (Q:Bool->Hp->Prop),Inv X ae σ H s->t σ H Q->wpAny (model X.prog X.w) X.A (isTrue e X.env (eval e X.env)) (TP X ae σ Q) X.xe s
def PW (X:Cx)(e:Expr)(t:TT):Prop:=
 ∀(a:Sem Value) (ae:α7) (s:Shared) (σ:St) (H:Hp) (Q:Bool->Hp->Prop),Inv X ae σ H s->t σ H Q->wpAny (model X.prog X.w) X.A (isTrue e X.env a) (TP X ae σ Q) X.xe s
def PW.pt (h:PW X e t):PT X e t:=h _
def PA (X:Cx)(es:List Expr)(t:TA):Prop:=
 ∀(pos:Pos) (ae:α7) (s:Shared) (σ:St) (H:Hp) (Q:List V->Hp->Prop),Inv X ae σ H s->t σ H Q->wpAny (model X.prog X.w) X.A (spliced (backTo pos (starEach es X.env))) (AP X ae σ Q) X.xe s
def PS (X:Cx)(st:Stmt)(t:TS):Prop:=
 ∀(ae:α7) (s:Shared) (σ:St) (H:Hp) (D:Ends),Inv X ae σ H s->t D σ H->wpAny (model X.prog X.w) X.A (exec st X.env) (SP X ae D) X.xe s
def PSs (X:Cx)(st:List Stmt)(t:TS):Prop:=
 ∀(ae:α7) (s:Shared) (σ:St) (H:Hp) (D:Ends),Inv X ae σ H s->t D σ H->wpAny (model X.prog X.w) X.A (execs st X.env) (SP X ae D) X.xe s
def thn (h:wpAny M A t Q E s)(b:∀a s,Q a s->Q' a s):wpAny M A t Q' E s:=xF_ h b λ_ _ x=>x
end L2
namespace L2
open PySem PySem.Spec PyProof.Rows
section
variable {X:Cx}
noncomputable def tVar (i:Nat):TE:=λ σ H Q=>∃v,σ[i]?=some (some v)/\Q v H
noncomputable def tC (v:V):TE:=λ_ H Q=>Q v H
def Ae_ (j:X.N[i]?=some x)(k:Vis X.env.scope x)(b:(x==("__debug__" : Str))=false:=by decide)(n:(x==("__classdict__" : Str))=false:=by decide):PE X (.Name x pos) (tVar i):=by
 intro ae s σ H Q I h;obtain⟨v,e,h⟩:=h;obtain⟨m,o,p⟩:=I.loc;obtain⟨u,r,l⟩:=p i x v j e k;have d:EP X ae σ Q u s:=#[v,H,I,r,h];rcases l with ⟨a,hm⟩|⟨a,c,f,g⟩
 ·exact wpAny_Name (wpAny_loadName_local I.ok.kind a o hm d) b
 ·rcases a with a|a
  ·exact wpAny_Name (wpAny_loadName_cell I.ok.kind a f g d) b
  ·exact wpAny_Name (wpAny_loadName_free I.ok.kind a f g d n) b
def Af {i j pos}:PE X (.Constant (.int i) j pos) (tC (.int i)):=λ_ _ _ H _ I h=>wpAny_Constant_int #[.int i,H,I.tok _,#[_,rfl],h]
def E9 {b j pos}:PE X (.Constant (.bool b) j pos) (tC (.bl b)):=λ_ _ _ H _ I h=>Constant_bool #[.bl b,H,I,rfl,h]
def Ck {j pos}:PE X (.Constant .none j pos) (tC .non):=λ_ _ _ H _ I h=>Constant_none #[.non,H,I,rfl,h]
def A0 {x j pos}:PE X (.Constant (.str x) j pos) (tC (.str x)):=λ_ _ _ H _ I h=>Calls.Constant_str #[.str x,H,I.tok _,#[_,rfl],h]
def Gl (X:Cx)(x:Str):Prop:=X.env.kindOf x=some .globalImplicit
def L8 (I:Inv X ae σ H s)(a:Gl X x)(hm:X.mg x=some u)(h:Q u s)
  (b:(x==("__debug__" : Str))=false:=by decide):wpAny (model X.prog X.w) X.A (eval (.Name x pos) X.env) Q E s:=
 Calls.Name_function_global I.ok.kind a (Calls.loadGlobal_global (by rw[I.ok.glob];exact I.mod.glob.keeps I.bk) hm h) b
def L9 (I:Inv X ae σ H s)(a:Gl X x)(hm:X.mg x=none)(b:bootBuiltins x=some u)(h:Q u s)
  (c:x ≠ "__name__" := by decide) (d:(x==("__debug__" : Str))=false:=by decide):wpAny (model X.prog X.w) X.A (eval (.Name x pos) X.env) Q E s:=by
 obtain⟨e,h1,h2⟩:=I.mod.blt;exact Calls.Name_function_global I.ok.kind a (Calls.loadGlobal_builtin (by rw[I.ok.glob];exact I.mod.glob.keeps I.bk) hm (by rw[I.ok.blt];exact h1.keeps I.bk) ((h2 x c).trans b) h) d
def QH (a:Gl X x)(hm:X.mg x=some u)(r:RelV v u)(b:(x==("__debug__" : Str))=false:=by decide):PE X (.Name x pos) (tC v):=
 λ_ _ _ H _ I h=>L8 I a hm #[v,H,I,r,h] b
def KG (a:Gl X x)(hm:X.mg x=none)(b:bootBuiltins x=some u)(r:RelV v u)(c:x ≠ "__name__" := by decide)(d:(x==("__debug__" : Str))=false:=by decide):PE X (.Name x pos) (tC v):=
 λ_ _ _ H _ I h=>L9 I a hm b #[v,H,I,r,h] c d
variable {a b:Expr} {ta tb:TE} {pos:Pos}
noncomputable def tB (t:TE):TT:=λ σ H Q=>t σ H λx H1=>∃c,x=.bl c/\Q c H1
def Cd (h:PE X e t)(b:∀a,isTrue e X.env a=(do let v <- a;standAt e.pos;holding [v] (truthy v)):=by intro _;rfl):PT X e (tB t):=by
 intro ae s σ H Q I hw;refine isTrue_plain (thn (h ae s σ H _ I hw) λv i ⟨x,H1,c,f,g⟩=>?_) (b _);obtain⟨d,rfl,q⟩:=g;cases f;exact qV_ #[H1,c,q]
variable {tA kU:TT} {rest:List Expr}
noncomputable def tAnd (t u:TT):TT:=λ σ H Q=>t σ H λc H1=>if c=true then u σ H1 Q else Q false H1
noncomputable def tOr (t u:TT):TT:=λ σ H Q=>t σ H λc H1=>if c=true then Q true H1 else u σ H1 Q
noncomputable def tNot (t:TT):TT:=λ σ H Q=>t σ H λc H1=>Q (!c) H1
def TY (b:PT X a tA):PW X (.BoolOp .And [a] pos) tA:=by
 intro d ae s σ H Q I h;refine isTrue_and (thn (b ae s σ H Q I h) λc f e=>?_);cases c with
 |true=>exact isTrue_and_nil e
 |false=>exact e
def Ir (b:PT X a tA):PW X (.BoolOp .Or [a] pos) tA:=by
 intro d ae s σ H Q I h;refine isTrue_or (thn (b ae s σ H Q I h) λc f e=>?_);cases c with
 |false=>exact isTrue_or_nil e
 |true=>exact e
def XE (f:PT X a tA)(g:PW X (.BoolOp .And (b::rest) pos) kU):PW X (.BoolOp .And (a::b::rest) pos) (tAnd tA kU):=by
 intro i ae s σ H Q I h;refine isTrue_and (thn (f ae s σ H _ I h) λc j ⟨H1,d,e⟩=>?_);cases c with
 |true=>exact g i ae j σ H1 Q d e
 |false=>exact#[H1,d,e]
def JK (f:PT X a tA)(g:PW X (.BoolOp .Or (b::rest) pos) kU):PW X (.BoolOp .Or (a::b::rest) pos) (tOr tA kU):=by
 intro i ae s σ H Q I h;refine isTrue_or (thn (f ae s σ H _ I h) λc j ⟨H1,d,e⟩=>?_);cases c with
 |true=>exact#[H1,d,e]
 |false=>exact g i ae j σ H1 Q d e
def Cm (b:PT X a tA):PT X (.UnaryOp .Not a pos) (tNot tA):=by
 intro ae s σ H Q I h;exact isTrue_not (b ae s σ H (λc H1=>Q (!c) H1) I h)
noncomputable def Af_ (ta tb:TE):TE:=λ σ H Q=>ta σ H λx H1=>∃c,x=.bl c/\if c=true then tb σ H1 Q else Q (.bl false) H1
noncomputable def Ag_ (ta:TE):TE:=λ σ H Q=>ta σ H λx H1=>∃c,x=.bl c/\Q (.bl (!c)) H1
def Pm {op} (h:PE X a t):PE X (.BoolOp op [a] pos) t:=λae s σ H Q I hw=>BoolOp_one (h ae s σ H Q I hw)
def Nz (f:PE X a ta)(g:PE X (.BoolOp .And (b::rest) pos) tb):PE X (.BoolOp .And (a::b::rest) pos) (Af_ ta tb):=by
 intro ae s σ H Q I h;refine BoolOp_and (thn (f ae s σ H _ I h) λv i ⟨x,H1,e,j,d⟩=>?_);obtain⟨c,rfl,d⟩:=d;cases j;refine qV_ ?_;cases c with
 |true=>exact g ae i σ H1 Q e d
 |false=>exact#[.bl false,H1,e,rfl,d]
def Ah_ (d:PE X a ta):PE X (.UnaryOp .Not a pos) (Ag_ ta):=by
 intro ae s σ H Q I h;refine UnaryOp_ (thn (d ae s σ H _ I h) λv g ⟨x,H1,e,f,b⟩=>?_);obtain⟨c,rfl,b⟩:=b;cases f;exact not_of (qV_ #[.bl (!c),H1,e,rfl,b])
end
end L2
namespace L2
open PySem PySem.Spec PyProof.Rows
def SqL (K:α3)(H:Hp)(a:Addr)(xs:List V):Prop:=
 Rd H a (.lst xs) \/
  ∃(o:Obj) (b:Array Value) (n:Nat),K.lookup a=some o/\o.cls=.type "list" /\ o.dict=none/\o.data=.seq b n/\b.size<=sizeLine/\Vals xs b.toList
def SqT (K:α3)(H:Hp)(a:Addr)(xs:List V):Prop:=
 Rd H a (.tup xs) \/
  ∃(o:Obj) (b:Array Value) (n:Nat),K.lookup a=some o/\o.cls=.type "tuple" /\ o.data=.seq b n/\b.size<=sizeLine/\Vals xs b.toList
noncomputable def absV:Value->Option V
 |.none=>some .non
 |.bool b=>some (.bl b)
 |.int i _=>some (.int i)
 |.str x _=>some (.str x)
 |.bytes b _=>some (.byt b)
 |.float b _=>some (.flt b)
 |.ref a=>some (.ref a)
 |.type n=>some (.ty n)
 |_=>none
def RelV.abs (r:RelV x u):absV u=some x:=by
 cases x with
 |non=>cases r;rfl
 |bl _=>cases r;rfl
 |int _=>obtain⟨t,rfl⟩:=r;rfl
 |str _=>obtain⟨t,rfl⟩:=r;rfl
 |byt _=>obtain⟨t,rfl⟩:=r;rfl
 |flt _=>obtain⟨t,rfl⟩:=r;rfl
 |ref _=>cases r;rfl
 |ty _=>cases r;rfl
def RelV.inj (r:RelV x u)(q:RelV y u):x=y:=jD_ (r.abs.symm.trans q.abs)
def Vals.inj:∀{xs ys:List V} {us:List Value},Vals xs us->Vals ys us->xs=ys
 |_,_,_,.nil,.nil=>rfl
 |_,_,_,.cons r t,.cons r' t'=>by rw[r.inj r',Vals.inj t t']
section
variable {X:Cx} {ae:α7} {σ:St} {H:Hp} {s:Shared} {a:Addr} {xs ys:List V}
def SqL.of {K:α3}(h:H a=some (.lst xs)):SqL K H a xs:=.inl (.inl h)
def SqT.of {K:α3}(h:H a=some (.tup xs)):SqT K H a xs:=.inl (.inl h)
def Inv.list (I:Inv X ae σ H s)(h:SqL X.K H a xs):∃its:List Value,Vals xs its/\PlainL s.heap a its.toArray/\xs.length<=sizeLine:=by
 rcases h with h|⟨o,its,n,b,c,d,f,g,r⟩
 ·obtain⟨z,its,n,r,e⟩:=h.ok I.hok;exact#[its,r,#[_,n,e,rfl,rfl,rfl],z]
 ·refine#[its.toList,r,#[o,n,I.kIn a o b,c,d,by simpa using f],?_];have e:=r.length;simp only[jL_]at e;lia
def Inv.tuple (I:Inv X ae σ H s)(h:SqT X.K H a xs):∃its:List Value,Vals xs its/\IsTup s.heap a its.toArray/\xs.length<=sizeLine:=by
 rcases h with h|⟨o,its,n,b,c,d,f,r⟩
 ·obtain⟨z,its,r,p⟩:=h.ok I.hok;exact#[its,r,p,z]
 ·refine#[its.toList,r,#[o,I.kIn a o b,c,n,by simpa using d],?_];have e:=r.length;simp only[jL_]at e;lia
def Inv.list_inj (I:Inv X ae σ H s)(h:SqL X.K H a xs)(h':SqL X.K H a ys):xs=ys:=by
 obtain⟨f,r,⟨o,n,e,_,_,d⟩,_⟩:=I.list h;obtain⟨g,r',⟨o',i,b,_,_,c⟩,_⟩:=I.list h';rw[e]at b;cases b;rw[d]at c;injection c with d1 _;have:f=g:=by simpa using qx_ tO d1
 subst this;exact r.inj r'
def Inv.tuple_inj (I:Inv X ae σ H s)(h:SqT X.K H a xs)(h':SqT X.K H a ys):xs=ys:=by
 obtain⟨f,r,⟨o,e,_,n,d⟩,_⟩:=I.tuple h;obtain⟨g,r',⟨o',b,_,i,c⟩,_⟩:=I.tuple h';rw[e]at b;cases b;rw[d]at c;injection c with d1 _;have:f=g:=by simpa using qx_ tO d1
 subst this;exact r.inj r'
end
noncomputable abbrev Cx.wish (X:Cx)(E:Value->Shared->Prop):Cx:={X with xe:=E}
noncomputable abbrev Cx.nox (X:Cx):Cx:=X.wish λ_ _=>False
def Cx.Ok.wish {X:Cx}(ok:X.Ok)(E:Value->Shared->Prop):(X.wish E).Ok:=
 #[ok.mod,ok.kind,ok.glob,ok.blt,ok.above,ok.inj,ok.has,ok.cab,ok.hd,ok.frames,ok.stk,ok.exf,ok.bs,ok.bsz,ok.noex,ok.exfs,ok.funs,ok.frf]
def Cx.Ok.unwish {X:Cx}{E:Value->Shared->Prop}(ok:(X.wish E).Ok):X.Ok:=
 #[ok.mod,ok.kind,ok.glob,ok.blt,ok.above,ok.inj,ok.has,ok.cab,ok.hd,ok.frames,ok.stk,ok.exf,ok.bs,ok.bsz,ok.noex,ok.exfs,ok.funs,ok.frf]
section
variable {X:Cx} {ae:α7} {σ:St} {H:Hp} {s:Shared} {E:Value->Shared->Prop}
def Inv.wish (I:Inv X ae σ H s)(E:Value->Shared->Prop):Inv (X.wish E) ae σ H s:=#[I.ok.wish E,I.os,I.bare,I.base,I.loc,I.cell,I.free,I.freeC,I.pin,I.hok,I.len]
def Inv.unwish (I:Inv (X.wish E) ae σ H s):Inv X ae σ H s:=#[I.ok.unwish,I.os,I.bare,I.base,I.loc,I.cell,I.free,I.freeC,I.pin,I.hok,I.len]
def SP.unwish (h:SP (X.wish E) ae D f s'):SP X ae D f s':=by
 cases f with
 |next=>obtain⟨a,H',I,q⟩:=h;exact#[a,H',I.unwish,q]
 |brk=>obtain⟨a,H',I,q⟩:=h;exact#[a,H',I.unwish,q]
 |cont=>obtain⟨a,H',I,q⟩:=h;exact#[a,H',I.unwish,q]
 |ret u=>obtain⟨v,a,H',I,r,q⟩:=h;exact#[v,a,H',I.unwish,r,q]
def PSs.nox {st:List Stmt} (h:PSs X.nox st t):PSs X st t:=λae s σ H D I hw=>
 xF_ (h ae s σ H D (I.wish _) hw) (λ_ _ q=>q.unwish) λ_ _ z=>oW z
end
section
variable {X:Cx} {st:Stmt} {rest:List Stmt} {t u:TS} {e:Expr} {te:TE} {pos:Pos}
noncomputable def Ai_:TS:=λD σ H=>D.nx σ H
noncomputable def tSeq (t u:TS):TS:=λD σ H=>t {D with nx:=u D} σ H
def Az:PSs X [] Ai_:=λ_ _ σ H _ I h=>zT_ #[σ,H,I,h]
def Ac (h1:PS X st t)(h2:PSs X rest u):PSs X (st::rest) (tSeq t u):=by
 intro ae s σ H D I h;refine wpAny_execs_cons (thn (h1 ae s σ H {D with nx:=u D} I h) λf a q=>?_);cases f with
 |next=>
  obtain⟨b,H',c,q⟩:=q;exact h2 ae a b H' D c q
 |ret v=>exact q
 |brk=>exact q
 |cont=>exact q
def Ae (h1:PS X st t):PSs X [st] t:=by
 intro ae s σ H D I h;refine wpAny_execs_cons (thn (h1 ae s σ H D I h) λf a q=>?_);cases f with
 |next=>exact zT_ q
 |ret v=>exact q
 |brk=>exact q
 |cont=>exact q
def Inv.quiet (I:Inv X ae σ H s):interactive X.env=false:=by simp[interactive,I.ok.kind]
noncomputable def Aj_ (te:TE):TS:=λD σ H=>te σ H λ_ H1=>D.nx σ H1
def AN (a:PE X e te)(hs:swapsWith e none pos.line X.env=pure false:=by rfl):PS X (.Expr e pos) (Aj_ te):=by
 intro ae s σ H D I h;exact wpAny_Expr_any (thn (a ae s σ H _ I h) λv d ⟨x,H1,b,f,c⟩=>#[σ,H1,b,c]) I.quiet hs
noncomputable def tRet (te:TE):TS:=λD σ H=>te σ H D.rt
def Ao (a:PE X e te):PS X (.Return (some e) pos) (tRet te):=by
 intro ae s σ H D I h;exact wpAny_Return_some (thn (a ae s σ H _ I h) λv f ⟨x,H1,b,c,d⟩=>#[x,σ,H1,b,c,d])
noncomputable def tIfS (c:TT)(t u:TS):TS:=λD σ H=>c σ H λb H1=>if b=true then t D σ H1 else u D σ H1
def Bb (hc:PT X c tc)(i:PSs X a t)(j:PSs X b u):PS X (.If c a b pos) (tIfS tc t u):=by
 intro ae s σ H D I h;refine wpAny_If (thn (hc ae s σ H _ I h) λd e ⟨H1,f,g⟩=>?_);cases d with
 |true=>exact i ae e σ H1 D f g
 |false=>exact j ae e σ H1 D f g
noncomputable def Ak_:TS:=λ_ _ _=>False
def Fz:PS X st Ak_:=λ_ _ _ _ _ _ h=>h.elim
end
abbrev TG:=V->St->Hp->(St->Hp->Prop)->Prop
abbrev TGs:=List V->St->Hp->(St->Hp->Prop)->Prop
def PG (X:Cx)(b:Expr)(t:TG):Prop:=
 ∀(ae:α7) (s:Shared) (σ:St) (H:Hp) (v:V) (u:Value) (Q:St->Hp->Prop),Inv X ae σ H s->RelV v u->t v σ H Q ->
  wpAny (model X.prog X.w) X.A (assign b X.env u) (λ_ s'=>∃a H',Inv X ae a H' s'/\Q a H') X.xe s
def PGs (X:Cx)(ts:List Expr)(t:TGs):Prop:=
 ∀(ae:α7) (s:Shared) (σ:St) (H:Hp) (a:List V) (us:List Value) (Q:St->Hp->Prop),Inv X ae σ H s->Vals a us->t a σ H Q ->
  wpAny (model X.prog X.w) X.A (assignInOrder ((assignEach ts X.env).map (·.2)) us) (λ_ s'=>∃b H',Inv X ae b H' s'/\Q b H') X.xe s
section
variable {X:Cx} {pos:Pos}
noncomputable def Po (i:Nat):TG:=λv σ H Q=>Q (σ.set i (some v)) H
def As (a:X.N.Nodup)(hi:X.N[i]?=some x)(b:Loc X.env.scope x)(c:X.fn x=true\/X.env.scope.names.lookup x=some .local:=by first|exact .inl rfl|exact .inr rfl|assumption):PG X (.Name x pos) (Po i):=by
 intro ae s σ H v u Q I r h;exact wpAny_assign_Name (RA I a hi b r (λs' d=>#[_,H,d,h]) c)
noncomputable def gNil:TGs:=λa σ H Q=>a=[]/\Q σ H
noncomputable def Al_ (t:TG)(u:TGs):TGs:=λa σ H Q=>∃v r,a=v::r/\t v σ H λb H'=>u r b H' Q
def Ma:PGs X [] gNil:=by
 intro ae s σ H a us Q I r h;obtain⟨e,h⟩:=h;subst e;cases r;exact assignInOrder_nil #[σ,H,I,h]
def Dr (h1:PG X e t)(h2:PGs X es u)
  (hs:(assignEach (e::es) X.env).map (·.2)=assign e X.env::(assignEach es X.env).map (·.2):=by rfl):PGs X (e::es) (Al_ t u):=by
 intro ae s σ H i us Q I r h;obtain⟨v,j,a,h⟩:=h;subst a;cases r with
 |cons r b=>
  rw[hs];refine assignInOrder_cons (thn (h1 ae s σ H _ _ _ I r h) λ_ c ⟨d,H1,f,g⟩=>?_);exact h2 ae c d H1 _ _ Q f b g
noncomputable def gTup (K:α3)(n:Nat)(t:TGs):TG:=λv σ H Q=>∃a xs,v=.ref a/\SqT K H a xs/\xs.length=n/\t xs σ H Q
def Pp (hc:X.calm=true)(h:PGs X es t)
  (c:(assignEach es X.env).length=n:=by rfl) (d:(assignEach es X.env).findIdx? (·.1)=none:=by rfl):PG X (.Tuple es k pos) (gTup X.K n t):=by
 intro ae s σ H v u Q I r hw;obtain⟨a,xs,f,g,i,hw⟩:=hw;subst f;cases r;obtain⟨p,rv,j,q⟩:=I.tuple g;refine assign_Tuple_tuple (I.ok.hd hc) j (by simp[c,<-i,rv.length]) d λh' l=>?_;have m:Inv X ae σ H {s with heap:=h' }:=I.kept (t':=s.toks) λb o e=>l b o (jP_ (jv_ e)) e;exact h ae _ σ H xs _ Q m (by simpa using rv) hw
noncomputable def tAsg (te:TE)(g:TG):TS:=λD σ H=>te σ H λx H1=>g x σ H1 D.nx
def Am_ (a:PE X e te)(b:PG X tg g)(hs:swapsWithSole [tg] e pos.line X.env=pure false:=by rfl)(hw:swappedStores [tg] e X.env=pure none:=by rfl)
  (h1:(assignEach [tg] X.env).map (·.2)=[assign tg X.env]:=by rfl):PS X (.Assign [tg] e pos) (tAsg te g):=by
 intro ae s σ H D I h;refine wpAny_Assign_stores (thn (a ae s σ H _ I h) λv c ⟨x,H1,d,f,i⟩=>?_) hs hw;rw[h1];exact thn (b ae c σ H1 x v _ d f i) λ_ j q=>q
def Dz (a:X.N.Nodup)(hi:X.N[i]?=some x)(b:Loc X.env.scope x)(c:PE X e te)(hs:swapsWith e (some (.Name x bY)) pos.line X.env=pure false:=by rfl)(d:X.fn x=true\/X.env.scope.names.lookup x=some .local:=by first|exact .inl rfl|exact .inr rfl|assumption):
  PS X (.Assign [.Name x bY] e pos) (tAsg te (Po i)):=by
 intro ae s σ H D I h;refine wpAny_Assign_Name (thn (c ae s σ H _ I h) λv l ⟨y,H1,f,g,j⟩=>?_) hs;exact RA f a hi b g (λm k=>#[_,H1,k,j]) d
end
section
variable {X:Cx} {pos:Pos}
noncomputable def XF (c:TT)(tb:TS):TS:=λD σ H=>∃W:Nat->St->Hp->Prop,(∃m,W m σ H)/\∀m σ H,W m σ H ->
 c σ H λb H1=>if b=true then ∃N:St->Hp->Prop,(∀a H',N a H'->∃d,d<m/\W d a H')/\tb {D with nx:=N,ct:=N,bk:=D.nx} σ H1 else D.nx σ H1
def LU (o:PassesOwn (model X.prog X.w) X.A X.env X.xe)(hc:PT X c tc)(t:PSs X body tb):PS X (.While c body [] pos) (XF tc tb):=by
 intro ae s σ H D I h;obtain⟨W,⟨u,x⟩,y⟩:=h;refine wpAny_While (codeAny_whileLoop (λn s'=>∃p H',Inv X ae p H' s'/\W n p H') ?_ u #[σ,H,I,x]);rintro n z ⟨e,H1,B,C⟩;refine xs_ o (thn (hc ae z e H1 _ B (y n e H1 C)) λb E ⟨H2,q,g⟩=>?_);cases b with
 |true=>
  obtain⟨N,r,g⟩:=g;rw[if_pos rfl];refine xs_ o (thn (t ae E e H2 _ q g) λf F i=>?_);cases f with
  |next=>
   obtain⟨a,d,j,k⟩:=i;obtain⟨l,hm,m⟩:=r a d k;exact#[l,hm,a,d,j,m]
  |cont=>
   obtain⟨a,d,j,k⟩:=i;obtain⟨l,hm,m⟩:=r a d k;exact#[l,hm,a,d,j,m]
  |brk=>exact i
  |ret v=>exact i
 |false=>
  rw[if_neg jy_];exact zT_ #[e,H2,q,g]
end
structure It where
 go:Nat->Hp->Prop
 yld:Nat->Hp->V->Hp->Prop
 stop:Nat->Hp->Prop
def FpOk (X:Cx)(ae:α7)(H:Hp)(b:Addr):Prop:=
 H b=none/\b≠X.env.locals/\b∉X.fs/\(b∈X.ex\/X.s₀.heap.objs.size<=b)/\(∀x c,X.env.cells.lookup x=some c->c≠b)/\∀p∈X.pn++ae,p.1≠b
def Inv.fpOk (I:Inv X ae σ H s)(a:s.heap.objs.size<=b)(d:H' b=none):FpOk X ae H' b:=by
 refine#[d,qz_ (jM_ I.lt a),I.nofs a,.inr (qo_ I.sz a),λx c e z=>?_,λp f z=>?_]
 ·obtain⟨v,q⟩:=I.cell x c e;exact absurd (jM_ q.lt (by rw[z];exact a)) (qp_ _)
 ·exact absurd (jM_ (jv_ (I.pin p f).1) (by rw[z];exact a)) (qp_ _)
structure Turn (P:Program)(w:World)(K:α3)(tg:Expr)(J:It)(fp:List Addr)(it:Addr)(tn:Nat->Heap->Prop):Prop where
 mem:it∈fp
 obj:∀i h,tn i h->∀b∈fp,∃o,h.get? b=some o/\∀v,o.data ≠ .cell v
 keep:∀i h h',tn i h->(∀b∈fp,∀o,h.get? b=some o->h'.get? b=some o)->tn i h'
 item:∀(X:Cx),X.prog=P->X.w=w->X.K=K->X.calm=true->∀(i:Nat) (ae:α7) (s:Shared) (σ:St) (H:Hp) (E:Value->Shared->Prop),Inv X ae σ H s->(∀b∈fp,FpOk X ae H b)->tn i s.heap->J.go i H ->
  wpAny (model P w) X.A (pyNext (.ref it)) (λr s1=>∃u,r=some u /\
   wpAny (model P w) X.A (letOwnedTupleGo tg (.ref it) u) (λ_ s2=>∃x H',Inv X ae σ H' s2/\RelV x u/\J.yld i H x H'/\tn (i+1) s2.heap/\∀b∈fp,H' b=none) E s1) E s
 done:∀(X:Cx),X.prog=P->X.w=w->X.K=K->X.calm=true->∀(i:Nat) (ae:α7) (s:Shared) (σ:St) (H:Hp) (E:Value->Shared->Prop),Inv X ae σ H s->(∀b∈fp,FpOk X ae H b)->tn i s.heap->J.stop i H ->
  wpAny (model P w) X.A (pyNext (.ref it)) (λr s1=>r=none/\Inv X ae σ H s1) E s
 self:∀(A:Around) (i:Nat) (s:Shared) (Q:Value->Shared->Prop) (E:Value->Shared->Prop),tn i s.heap->Q (.ref it) s->wpAny (model P w) A (pyIter (.ref it)) Q E s
abbrev TI:=St->Hp->(It->Hp->Prop)->Prop
def PIE (X:Cx)(ae:α7)(σ:St)(tg:Expr)(R:It->Hp->Prop)(d:Value)(a:Shared):Prop:=
 ∃(it:Addr) (fp:List Addr) (c:Nat->Heap->Prop) (J:It) (H':Hp),d=.ref it/\Inv X ae σ H' a/\Turn X.prog X.w X.K tg J fp it c/\c 0 a.heap/\(∀b∈fp,FpOk X ae H' b)/\R J H'
def PI (X:Cx)(tg iter:Expr)(wi:TI):Prop:=
 ∀(ae:α7) (s:Shared) (σ:St) (H:Hp) (R:It->Hp->Prop),Inv X ae σ H s->wi σ H R ->
  wpAny (model X.prog X.w) X.A (eval iter X.env) (λv a=>wpAny (model X.prog X.w) X.A (pyIter v) (PIE X ae σ tg R) X.xe a) X.xe s
def Sw {it:Addr} (b:s.heap.get? it=some o)(hc:o.cls=.type n)(c:o.data=.fields vs)
    (d:["enumerate","zip","dict_itemiterator","dict_reverseitemiterator","odict_iterator","itertools.zip_longest","itertools.pairwise"].contains n=false) (a:Q () s):wpAny M A (letOwnedTupleGo tg (.ref it) u) Q E s:=by
  unfold letOwnedTupleGo;cases tg<;>first
    | exact jl_ a
    | (cases u<;>first
        | exact jl_ a
        | (refine jc_ (wpAny_load b ?_)
           rw[hc,c];show wpAny M A (if (["enumerate","zip","dict_itemiterator","dict_reverseitemiterator","odict_iterator","itertools.zip_longest","itertools.pairwise"].contains n&&vs[0]? == some (rawInt _))=true then _ else _) Q E s;rw[if_neg (by intro h;rw[d,qG]at h;cases h)];exact jl_ a))
noncomputable def Itl (K:α3)(a:Addr):It:=
 #[λi H=>∃xs x,SqL K H a xs/\xs[i]?=some x,λi H x H'=>H'=H/\∀xs,SqL K H a xs->xs[i]?=some x,λi H=>∃xs,SqL K H a xs/\xs.length<=i]
noncomputable def Itt (K:α3)(a:Addr):It:=
 #[λi H=>∃xs x,SqT K H a xs/\xs[i]?=some x,λi H x H'=>H'=H/\∀xs,SqT K H a xs->xs[i]?=some x,λi H=>∃xs,SqT K H a xs/\xs.length<=i]
noncomputable def Itr (lo:Int)(n:Nat):It:=#[λi _=>i<n,λi H x H'=>H'=H/\x=.int (lo+i),λi _=>n<=i]
def Pq {P:Program}{w:World}{K:α3}{tg:Expr}(a it:Addr):Turn P w K tg (Itl K a) [it] it (λi h=>h.IsListIter it a i) where
 mem:=by simp
 obj:=λi h st b f=>by
  have e:b=it:=by simpa using f
  subst e;obtain⟨o,e,c,d⟩:=st;exact#[o,e,λv z=>by rw[d]at z;cases z]
 keep:=λi h h' st k=>st.at λo e=>k it (by simp) o e
 item:=by
  intro X l hw m C i ae s σ H E I g st n;subst l hw m;obtain⟨xs,x,j,q⟩:=n;obtain⟨F,rv,p,G⟩:=I.list j;obtain⟨u,J,L⟩:=rv.get q;obtain⟨r,t,M,y,A,B⟩:=g it (by simp);refine wpAny_pyNext_list_item st p.isList (x:=u) (by simpa using J) λh' D N=>?_;have O:Inv X ae σ H {s with heap:=h' }:=I.turned (t':=s.toks) (λb o f e=>(N.2 b f).trans e) r t y A B;obtain⟨o,e,c,d⟩:=id D;exact#[u,rfl,Sw (s:={s with heap:=h' }) e c d (by decide) #[x,H,O,L,#[rfl,λys Q=>by rw[I.list_inj Q j];exact q],D,λb f=>(g b f).1]]
 done:=by
  intro X l hw m C i ae s σ H E I g st n;subst l hw m;obtain⟨xs,j,q⟩:=n;obtain⟨F,rv,p,G⟩:=I.list j;obtain⟨r,t,M,y,A,B⟩:=g it (by simp);have S:=rv.length;exact wpAny_pyNext_list_end (I.ok.hd C) st p.isList (by simp;lia) λh' R=>#[rfl,I.turned (t':=s.toks) (λb o f e=>R b o f e) r t y A B]
 self:=λ_ _ _ _ _ st h=>wpAny_pyIter_listiter st h
def NA {P:Program}{w:World}{K:α3}{tg:Expr}(a it:Addr):Turn P w K tg (Itt K a) [it] it (λi h=>h.IsTupleIter it a i) where
 mem:=by simp
 obj:=λi h st b f=>by
  have e:b=it:=by simpa using f
  subst e;obtain⟨o,e,c,d⟩:=st;exact#[o,e,λv z=>by rw[d]at z;cases z]
 keep:=λi h h' st k=>st.at λo e=>k it (by simp) o e
 item:=by
  intro X l hw m D i ae s σ H E I g st n;subst l hw m;obtain⟨xs,x,j,q⟩:=n;obtain⟨r,rv,p,G⟩:=I.tuple j;obtain⟨u,J,L⟩:=rv.get q;obtain⟨t,y,M,A,B,C⟩:=g it (by simp);refine wpAny_pyNext_tuple_item st (show s.heap.IsTuple a r.toArray from p) (x:=u) (by simpa using J) λh' F N=>?_;have O:Inv X ae σ H {s with heap:=h' }:=I.turned (t':=s.toks) (λb o f e=>(N.2 b f).trans e) t y A B C;obtain⟨o,e,c,d⟩:=id F;exact#[u,rfl,Sw (s:={s with heap:=h' }) e c d (by decide) #[x,H,O,L,#[rfl,λys Q=>by rw[I.tuple_inj Q j];exact q],F,λb f=>(g b f).1]]
 done:=by
  intro X l hw m D i ae s σ H E I g st n;subst l hw m;obtain⟨xs,j,q⟩:=n;obtain⟨r,rv,p,G⟩:=I.tuple j;obtain⟨t,y,M,A,B,C⟩:=g it (by simp);have S:=rv.length;exact wpAny_pyNext_tuple_end (I.ok.hd D) st (show s.heap.IsTuple a r.toArray from p) (by simp;lia) λh' R=>#[rfl,I.turned (t':=s.toks) (λb o f e=>R b o f e) t y A B C]
 self:=λ_ _ _ _ _ st h=>wpAny_pyIter_tupleiter st h
def Sx {P:Program}{w:World}{K:α3}{tg:Expr}(it:Addr)(lo:Int)(n:Nat):Turn P w K tg (Itr lo n) [it] it (λi h=>IsRangeIter h it (lo+(i:Nat)*1) ((n:Int)-(i:Nat)) 1) where
 mem:=by simp
 obj:=λi h st b a=>by
  have e:b=it:=by simpa using a
  subst e;exact#[_,st,λv z=>by
   have y:Data.fields _=Data.cell v:=z;cases y]
 keep:=λi h h' st k=>k it (by simp) _ st
 item:=by
  intro X d hw f g i ae s σ H E I c st j;subst d hw f;obtain⟨l,m,A,p,q,r⟩:=c it (by simp);have W:=Walks.range (prog:=X.prog) (w:=X.w) (I.ok.hd g) it lo 1 n;refine W.item i s _ _ j st λv h' u B x C=>?_;obtain⟨t,rfl⟩:=B;have D:Inv X ae σ H {s with heap:=h',toks:=u}:=I.turned (λb o a e=>C b o (by simpa using a) e) l m p q r;refine#[_,rfl,Sw (s:={s with heap:=h',toks:=u}) (n := "range_iterator") x rfl rfl (by decide) #[.int (lo+i),H,D,#[t,?_],#[rfl,rfl],x,λb a=>(c b a).1]];rw[Int.mul_one]
 done:=by
  intro X d hw f g i ae s σ H E I c st j;subst d hw f;obtain⟨l,m,A,p,q,r⟩:=c it (by simp);exact wpAny_pyNext_range_end (I.ok.hd g) st (by have:n<=i:=j;lia) λh' F=>#[rfl,I.turned (t':=s.toks) (λb o a e=>F b o a e) l m p q r]
 self:=λ_ _ _ _ _ st h=>wpAny_pyIter_rangeiter st h
end L2
namespace L2
open PySem PySem.Spec PyProof.Rows
section
variable {X:Cx} {tg:Expr}
noncomputable def An_ (K:α3)(tl:TE):TI:=λ σ H R=>tl σ H λx H1=>∃a,x=.ref a/\(∃xs,SqL K H1 a xs)/\R (Itl K a) H1
noncomputable def iTup (K:α3)(tl:TE):TI:=λ σ H R=>tl σ H λx H1=>∃a,x=.ref a/\(∃xs,SqT K H1 a xs)/\R (Itt K a) H1
def BZ (f:PE X l tl):PI X tg l (An_ X.K tl):=by
 intro ae s σ H R I h;refine thn (f ae s σ H _ I h) λv c ⟨x,H1,d,g,i⟩=>?_;obtain⟨a,e,⟨xs,j⟩,q⟩:=i;subst e;cases g;obtain⟨m,rv,p,n⟩:=d.list j;refine xU_ p.isList ?_;refine#[c.heap.objs.size,[c.heap.objs.size],_,_,H1,rfl,d.kept (t':=c.toks) λb o e=>jj_ _ e,Pq a _,#[_,js_ _ rfl,rfl,rfl],λb k=>?_,q];have e:b=c.heap.objs.size:=by simpa using k
 subst e;exact d.fpOk (jf_ _) (d.hok.fresh (jf_ _))
def D8 (f:PE X l tl):PI X tg l (iTup X.K tl):=by
 intro ae s σ H R I h;refine thn (f ae s σ H _ I h) λv c ⟨x,H1,d,g,i⟩=>?_;obtain⟨a,e,⟨xs,j⟩,q⟩:=i;subst e;cases g;obtain⟨k,rv,p,n⟩:=d.tuple j;refine xI_ (show c.heap.IsTuple a k.toArray from p) ?_;refine#[c.heap.objs.size,[c.heap.objs.size],_,_,H1,rfl,d.kept (t':=c.toks) λb o e=>jj_ _ e,NA a _,#[_,js_ _ rfl,rfl,rfl],λb m=>?_,q];have e:b=c.heap.objs.size:=by simpa using m
 subst e;exact d.fpOk (jf_ _) (d.hok.fresh (jf_ _))
def RC {lo hi:Int} (I:Inv X ae σ H s)(h1 : -(2 ^ 62)<=lo)(h2:lo<2 ^ 62)(c : -(2 ^ 62)<=hi)(d:hi<2 ^ 62)
  (q:R (Itr lo (hi-lo).toNat) H):wpAny (model X.prog X.w) X.A (pyIter (.ref s.heap.objs.size)) (PIE X ae σ tg R) E {s with heap:=s.heap.push {cls:=.type "range",data:=.fields (List.toArray [.int lo t,.int hi u,.int 1 v])},toks:=tk}:=by
 refine wpAny_pyIter_range (IsRange.new ..) (small_one h1 h2 c d) ?_;have a:Inv X ae σ H {s with heap:=s.heap.push {cls:=.type "range",data:=.fields (List.toArray [.int lo t,.int hi u,.int 1 v])},toks:=tk}:=I.kept λb o e=>jj_ _ e;refine#[(s.heap.push {cls:=.type "range",data:=.fields (List.toArray [.int lo t,.int hi u,.int 1 v])}).objs.size,[(s.heap.push {cls:=.type "range",data:=.fields (List.toArray [.int lo t,.int hi u,.int 1 v])}).objs.size],_,_,H,rfl,
  a.kept (t':=tk) λb o e=>jj_ _ e,Sx _ lo (hi-lo).toNat,?_,λb f=>?_,q]
 ·have g:lo+((0:Nat):Int)*1=lo:=by simp
  have h:(((hi-lo).toNat:Nat):Int)-((0:Nat):Int)=Builtin.Range.rangeSize lo hi 1:=by rw[rangeSize_one];split<;>lia
  show IsRangeIter _ _ (lo+((0:Nat):Int)*1) ((((hi-lo).toNat:Nat):Int)-((0:Nat):Int)) 1;rw[g,h];exact js_ _ rfl
 ·have e:b=(s.heap.push {cls:=.type "range",data:=.fields (List.toArray [.int lo t,.int hi u,.int 1 v])}).objs.size:=by simpa using f
  subst e;exact a.fpOk (jf_ _) (a.hok.fresh (jf_ _))
noncomputable def Ao_ (ta:TA):TI:=λ σ H R=>ta σ H λa H1=>∃j:Int,a=[.int j] /\ -(2 ^ 62)<=j/\j<2 ^ 62/\R (Itr 0 j.toNat) H1
noncomputable def Ap_ (ta:TA):TI:=λ σ H R=>ta σ H λa H1=>∃i j:Int,a=[.int i,.int j]/\(-(2 ^ 62)<=i/\i<2 ^ 62 /\ -(2 ^ 62)<=j/\j<2 ^ 62)/\R (Itr i (j-i).toNat) H1
def BJ (c:Gl X "range")(hm:X.mg "range"=none)(d:PA X [a] ta)(hs:starEach [a] X.env=[(false,eval a X.env)]:=by rfl):PI X tg (.Call (.Name "range" p) [a] [] pos) (Ao_ ta):=by
 intro ae s σ H R I h;refine Call_ (L9 I c hm boot_range (qP_ (thn (d pos ae s σ H _ I h) λus l ⟨m,H1,f,g,b⟩=>?_) hs rfl));obtain⟨j,e,b,i,q⟩:=b;subst e;cases g with
 |cons r k=>
  cases k;obtain⟨t,rfl⟩:=r;exact call_range_1 (RC f s!"" s!"" b i (by simpa using q))
def TZ (g:Gl X "range")(hm:X.mg "range"=none)(k:PA X [a,b] ta)(hs:starEach [a,b] X.env=[(false,eval a X.env),(false,eval b X.env)]:=by rfl)(f:starEach [b] X.env=[(false,eval b X.env)]:=by rfl):
  PI X tg (.Call (.Name "range" p) [a,b] [] pos) (Ap_ ta):=by
 intro ae s σ H R I h;refine Call_ (L9 I g hm boot_range (qP_ (thn (k pos ae s σ H _ I h) λus v ⟨w,H1,l,m,c⟩=>?_) (by rw[hs,f]) (by rw[f];rfl)));obtain⟨i,j,e,⟨c,n,o,u⟩,q⟩:=c;subst e;cases m with
 |cons r d=>
  cases d with
  |cons r' d=>
   cases d;obtain⟨t,rfl⟩:=r;obtain⟨x,rfl⟩:=r';exact call_range_2 (RC l c n o u q)
noncomputable def tFor (wi:TI)(g:TG)(tb:TS):TS:=λD σ H=>wi σ H λJ H1=>∃W:Nat->Nat->St->Hp->Prop,(∃m,W 0 m σ H1)/\∀i m σ H,W i m σ H ->
 (J.stop i H/\D.nx σ H)\/(J.go i H/\∃N:St->Hp->Prop,(∀a H',N a H'->∃b,b<m/\W (i+1) b a H')/\∀x H',J.yld i H x H'->g x σ H' λc H2=>tb {D with nx:=N,ct:=N,bk:=D.nx} c H2)
noncomputable def Pt (fp:List Addr)(h:Heap):α7:=fp.filterMap λb=>(h.get? b).map λo=>(b,o)
def HY (a:b∈fp)(e:h.get? b=some o):(b,o)∈Pt fp h:=zk_.mpr #[b,a,by rw[e];rfl]
def T1 (a:p∈Pt fp h):p.1∈fp/\h.get? p.1=some p.2:=by
 obtain⟨b,c,e⟩:=zk_.mp a;cases q:h.get? b with
 |none=>rw[q]at e;cases e
 |some o=>
  rw[q]at e;have d:(b,o)=p:=jD_ e;subst d;exact#[c,q]
def Inv.pinned (I:Inv X ae σ H s)(f:∀b∈fp,FpOk X ae H b)(g:∀b∈fp,∃o,s.heap.get? b=some o/\∀v,o.data ≠ .cell v):Inv X (ae++Pt fp s.heap) σ H s:=
 I.pins_of λp h=>(jr_.mp h).elim (λz=>I.pin p (j9_ _ z)) λz=>by
  obtain⟨a,e⟩:=T1 z;obtain⟨i,j,k,_⟩:=f p.1 a;obtain⟨o,c,d⟩:=g p.1 a;rw[e]at c;cases c;exact#[e,i,j,k,d]
def Inv.unpinned (I:Inv X (ae++pl) σ H s):Inv X ae σ H s:=I.pins_of λp a=>I.pin p (j9_ _ (jY_ _ a))
def BU {iter:Expr} {wi:TI} (p:PassesOwn (model X.prog X.w) X.A X.env X.xe)(hc:X.calm=true)(hi:PI X tg iter wi)(U:PG X tg g)(a:PSs X body tb)
  (hs:∀x,foldedSetIterable iter X.env x=pure x:=by intro _;rfl):PS X (.For tg iter body [] pos) (tFor wi g tb):=by
 intro ae s σ H D I h;refine wpAny_For (thn (hi ae s σ H _ I h) λv aB h1=>thn h1 λaC aD h2=>?_) hs;obtain⟨it,fp,G,J,H2,e,V,T,Y,K,W,⟨Z,aa⟩,ab⟩:=h2;subst e
 -- what stays true of jv iterator's objects through jv loop
 have B:∀{H':Hp},(∀b∈fp,H' b=none)->∀b∈fp,FpOk X ae H' b:=λac b a=>#[ac b a,(K b a).2];refine codeAny_forLoop_any (λn s'=>∃i q H',Inv X ae q H' s'/\G i s'.heap/\(∀b∈fp,H' b=none)/\W i n q H') ?_ Z #[0,σ,H2,V,Y,λb a=>(K b a).1,aa];rintro n L ⟨i,t,z,M,O,P,ad⟩;rcases ab i n t z ad with ⟨af,ag⟩|⟨ah,N,ai,step⟩
 ·refine xs_ p (thn (T.done X rfl rfl rfl hc i ae L t z X.xe M (B P) O af) λr aj ⟨C,ak⟩=>?_);subst C;exact zT_ #[t,z,ak,ag]
 ·refine xs_ p (thn (T.item X rfl rfl rfl hc i ae L t z X.xe M (B P) O ah) λr aj ⟨u,C,al⟩=>?_);subst C;refine xs_ p (thn al λ_ Q ⟨x,R,am,an,ao,E,ap⟩=>?_);have aq:=am.pinned (B ap) (T.obj _ _ E);refine xs_ p (thn (U _ Q t R x u _ aq an (step x R ao)) λ_ ar ⟨as,au,av,aw⟩=>?_);refine xs_ p (thn (a _ ar as au _ av aw) λf F l=>?_);have S:∀{c:St} {j:Hp},Inv X (ae++Pt fp Q.heap) c j F->N c j->∃m,m<n/\∃i q H',Inv X ae q H' F/\G i F.heap/\(∀b∈fp,H' b=none)/\W i m q H':=λ{c j} k y=>by
   obtain⟨ax,hm,ay⟩:=ai c j y;refine#[ax,hm,i+1,c,j,k.unpinned,T.keep _ _ _ E λb a o e=>(k.pin (b,o) (j9_ _ (j9_ _ (HY a e)))).1,λb a=>?_,ay];obtain⟨o,e,d⟩:=T.obj _ _ E b a;exact (k.pin (b,o) (j9_ _ (j9_ _ (HY a e)))).2.1
  cases f with
  |next=>obtain⟨c,j,k,y⟩:=l;exact S k y
  |cont=>obtain⟨c,j,k,y⟩:=l;exact S k y
  |brk=>obtain⟨c,j,k,l⟩:=l;exact#[c,j,k.unpinned,l]
  |ret v=>obtain⟨az,c,j,k,aA,l⟩:=l;exact#[az,c,j,k.unpinned,aA,l]
end
def We {K:α3}{a:Addr}{xs:List V}{g:TG}{tb:TS}{D:Ends}{σ:St}{H:Hp}(b:Nat->St->Hp->Prop)(h:b 0 σ H)(j:∀i σ H,i<=xs.length->b i σ H->SqL K H a xs)
  (hs:∀i x σ H,xs[i]?=some x->b i σ H->g x σ H λc H2=>tb {D with nx:=b (i+1),ct:=b (i+1),bk:=D.nx} c H2) (k:∀σ H,b xs.length σ H->D.nx σ H):
  ∃W:Nat->Nat->St->Hp->Prop,(∃m,W 0 m σ H)/\∀i m σ H,W i m σ H ->
   ((Itl K a).stop i H/\D.nx σ H)\/((Itl K a).go i H/\∃N:St->Hp->Prop,(∀ag H',N ag H'->∃d,d<m/\W (i+1) d ag H')/\∀x H',(Itl K a).yld i H x H'->g x σ H' λc H2=>tb {D with nx:=N,ct:=N,bk:=D.nx} c H2):=by
 refine#[λi m σ H=>m=xs.length-i/\i<=xs.length/\b i σ H,#[xs.length,by simp,j8_ _,h],?_];rintro i m σ H ⟨rfl,hi,p⟩;have q:=j i σ H hi p;by_cases f:i<xs.length
 ·refine .inr #[#[xs,xs[i],q,by simp[f]],b (i+1),λag H' l=>#[xs.length-(i+1),by lia,rfl,f,l],λx H' y=>?_];obtain⟨e,y⟩:=y;subst e;exact hs i x σ _ (y xs q) p
 ·have e:i=xs.length:=by lia
  subst e;exact .inl #[#[xs,q,jf_ _],k σ H p]
def YT {K:α3}{a:Addr}{xs:List V}{g:TG}{tb:TS}{D:Ends}{σ:St}{H:Hp}(b:Nat->St->Hp->Prop)(h:b 0 σ H)(j:∀i σ H,i<=xs.length->b i σ H->SqT K H a xs)
  (hs:∀i x σ H,xs[i]?=some x->b i σ H->g x σ H λc H2=>tb {D with nx:=b (i+1),ct:=b (i+1),bk:=D.nx} c H2) (k:∀σ H,b xs.length σ H->D.nx σ H):
  ∃W:Nat->Nat->St->Hp->Prop,(∃m,W 0 m σ H)/\∀i m σ H,W i m σ H ->
   ((Itt K a).stop i H/\D.nx σ H)\/((Itt K a).go i H/\∃N:St->Hp->Prop,(∀ag H',N ag H'->∃d,d<m/\W (i+1) d ag H')/\∀x H',(Itt K a).yld i H x H'->g x σ H' λc H2=>tb {D with nx:=N,ct:=N,bk:=D.nx} c H2):=by
 refine#[λi m σ H=>m=xs.length-i/\i<=xs.length/\b i σ H,#[xs.length,by simp,j8_ _,h],?_];rintro i m σ H ⟨rfl,hi,p⟩;have q:=j i σ H hi p;by_cases f:i<xs.length
 ·refine .inr #[#[xs,xs[i],q,by simp[f]],b (i+1),λag H' l=>#[xs.length-(i+1),by lia,rfl,f,l],λx H' y=>?_];obtain⟨e,y⟩:=y;subst e;exact hs i x σ _ (y xs q) p
 ·have e:i=xs.length:=by lia
  subst e;exact .inl #[#[xs,q,jf_ _],k σ H p]
def T2 {lo:Int}{n:Nat}{g:TG}{tb:TS}{D:Ends}{σ:St}{H:Hp}(a:Nat->St->Hp->Prop)(f:a 0 σ H)
  (hs:∀i σ H,i<n->a i σ H->g (.int (lo+i)) σ H λb H2=>tb {D with nx:=a (i+1),ct:=a (i+1),bk:=D.nx} b H2) (h:∀σ H,a n σ H->D.nx σ H):
  ∃W:Nat->Nat->St->Hp->Prop,(∃m,W 0 m σ H)/\∀i m σ H,W i m σ H ->
   ((Itr lo n).stop i H/\D.nx σ H)\/((Itr lo n).go i H/\∃N:St->Hp->Prop,(∀ag H',N ag H'->∃d,d<m/\W (i+1) d ag H')/\∀x H',(Itr lo n).yld i H x H'->g x σ H' λb H2=>tb {D with nx:=N,ct:=N,bk:=D.nx} b H2):=by
 refine#[λi m σ H=>m=n-i/\i<=n/\a i σ H,#[n,by simp,j8_ _,f],?_];rintro i m σ H ⟨rfl,hi,p⟩;by_cases c:i<n
 ·refine .inr #[c,a (i+1),λag H' j=>#[n-(i+1),by lia,rfl,c,j],λx H' y=>?_];obtain⟨e,y⟩:=y;subst e y;exact hs i σ _ c p
 ·have e:i=n:=by lia
  subst e;exact .inl #[jf_ _,h σ H p]
end L2
namespace L2
open PySem PySem.Spec PyProof.Rows
abbrev R2:=V->V->Hp->VK->Prop
def OpR (X:Cx)(f:Value->Value->Sem Value)(r:R2):Prop:=
 ∀(ae:α7) (s:Shared) (σ:St) (H:Hp) (x y:V) (v u:Value) (Q:VK),Inv X ae σ H s->RelV x v->RelV y u->r x y H Q ->
  wpAny (model X.prog X.w) X.A (f v u) (EP X ae σ Q) X.xe s
def UnR (X:Cx)(f:Value->Sem Value)(r:V->Hp->VK->Prop):Prop:=
 ∀(ae:α7) (s:Shared) (σ:St) (H:Hp) (x:V) (v:Value) (Q:VK),Inv X ae σ H s->RelV x v->r x H Q ->
  wpAny (model X.prog X.w) X.A (f v) (EP X ae σ Q) X.xe s
def DU (X:Cx)(f:Value)(r:List V->Hp->VK->Prop):Prop:=
 ∀(ae:α7) (s:Shared) (σ:St) (H:Hp) (xs:List V) (us:List Value) (Q:VK),Inv X ae σ H s->Vals xs us->r xs H Q ->
  wpAny (model X.prog X.w) X.A (call f us) (EP X ae σ Q) X.xe s
noncomputable def tOp (r:R2)(ta tb:TE):TE:=λ σ H Q=>ta σ H λx H1=>tb σ H1 λy H2=>r x y H2 Q
noncomputable def tUn (r:V->Hp->VK->Prop)(ta:TE):TE:=λ σ H Q=>ta σ H λx H1=>r x H1 Q
noncomputable def rI (C:Int->Int->Prop)(g:Int->Int->V):R2:=λx y H Q=>∃i j,x=.int i/\y=.int j/\C i j/\Q (g i j) H
noncomputable def rI0 (g:Int->Int->V):R2:=λx y H Q=>∃i j,x=.int i/\y=.int j/\Q (g i j) H
def rU (g:Int->V):V->Hp->VK->Prop:=λx H Q=>∃i,x=.int i/\Q (g i) H
section
variable {X:Cx} {a b c:Expr} {ta tb tc:TE} {pos:Pos}
def binT (d:PE X a ta)(e:PE X b tb){ae:α7}{s:Shared}{σ:St}{H:Hp}{R:V->V->Hp->Prop}(I:Inv X ae σ H s)
  (h:ta σ H λx H1=>tb σ H1 λy H2=>R x y H2) {Q:Value->Shared->Prop} {f:Value->Value->Sem Value}
  (g:∀v u c x y H2,Inv X ae σ H2 c->RelV x v->RelV y u->R x y H2->wpAny (model X.prog X.w) X.A (f v u) Q X.xe c):
  wpAny (model X.prog X.w) X.A (eval a X.env) (λv i=>wpAny (model X.prog X.w) X.A (eval b X.env) (λu j=>wpAny (model X.prog X.w) X.A (f v u) Q X.xe j) X.xe i) X.xe s:=by
 refine thn (d ae s σ H _ I h) λv k ⟨x,H1,l,m,n⟩=>?_;refine thn (e ae k σ H1 _ l n) λu c ⟨y,H2,o,p,q⟩=>?_;exact g v u c x y H2 o m p q
def AW (c:OpR X (binaryOp op) r)(d:PE X a ta)(e:PE X b tb):PE X (.BinOp a op b pos) (tOp r ta tb):=by
 intro ae s σ H Q I h;exact wpAny_BinOp (binT d e I h λv u f x y H2 g i j q=>c ae f σ H2 x y v u Q g i j q)
def T3 (b:UnR X (unaryOp op) r)(c:PE X a ta):PE X (.UnaryOp op a pos) (tUn r ta):=by
 intro ae s σ H Q I h;exact UnaryOp_ (thn (c ae s σ H _ I h) λv d ⟨x,H1,e,f,g⟩=>b ae d σ H1 x v Q e f g)
def opI {f:Value->Value->Sem Value}{C:Int->Int->Prop}{g:Int->Int->Int}
  (a:∀(i j:Int) (t u:Tok) (s:Shared) (Q:Value->Shared->Prop) (E:Value->Shared->Prop),C i j->Q (.int (g i j) s.toks) {s with toks:=s.toks+1}->wpAny (model X.prog X.w) X.A (f (.int i t) (.int j u)) Q E s):
  OpR X f (rI C λi j=>.int (g i j)):=by
 intro ae s σ H x y v u Q I b c h;obtain⟨i,j,rfl,rfl,d,q⟩:=h;obtain⟨t,rfl⟩:=b;obtain⟨e,rfl⟩:=c;exact a i j t e s _ _ d #[.int (g i j),H,I.tok _,#[_,rfl],q]
def opI0 {f:Value->Value->Sem Value}{g:Int->Int->Int}
  (a:∀(i j:Int) (t u:Tok) (s:Shared) (Q:Value->Shared->Prop) (E:Value->Shared->Prop),Q (.int (g i j) s.toks) {s with toks:=s.toks+1}->wpAny (model X.prog X.w) X.A (f (.int i t) (.int j u)) Q E s):
  OpR X f (rI0 λi j=>.int (g i j)):=by
 intro ae s σ H x y v u Q I b c h;obtain⟨i,j,rfl,rfl,q⟩:=h;obtain⟨t,rfl⟩:=b;obtain⟨d,rfl⟩:=c;exact a i j t d s _ _ #[.int (g i j),H,I.tok _,#[_,rfl],q]
def opB0 {f:Value->Value->Sem Value}{g:Int->Int->Bool}
  (a:∀(i j:Int) (t u:Tok) (s:Shared) (Q:Value->Shared->Prop) (E:Value->Shared->Prop),Q (.bool (g i j)) s->wpAny (model X.prog X.w) X.A (f (.int i t) (.int j u)) Q E s):
  OpR X f (rI0 λi j=>.bl (g i j)):=by
 intro ae s σ H x y v u Q I b c h;obtain⟨i,j,rfl,rfl,q⟩:=h;obtain⟨t,rfl⟩:=b;obtain⟨d,rfl⟩:=c;exact a i j t d s _ _ #[.bl (g i j),H,I,rfl,q]
def CDiv (i j:Int):Prop:=0<j/\j<1073741824
def CMul (i j:Int):Prop:=(-(2 ^ 64)<i/\i<2 ^ 64)\/(-(2 ^ 64)<j/\j<2 ^ 64)
def CMul.ok (h:CMul i j):IntMulOk i j:=by
 rcases h with ⟨h1,h2⟩|⟨h1,h2⟩
 ·exact .of_left (intBits_le_64 h1 h2)
 ·exact .of_right (intBits_le_64 h1 h2)
def Cn:OpR X (binaryOp .Add) (rI0 λi j=>.int (i+j)):=opI0 λ_ _ _ _ _ _ _ q=>add_int q
def RD:OpR X (binaryOp .Sub) (rI0 λi j=>.int (i-j)):=opI0 λ_ _ _ _ _ _ _ q=>sub_int q
def NB:OpR X (binaryOp .Mult) (rI CMul λi j=>.int (i*j)):=opI λ_ _ _ _ _ _ _ a q=>mul_int q a.ok
def Jd:OpR X (binaryOp .FloorDiv) (rI CDiv λi j=>.int (i / j)):=opI λi j _ _ _ _ _ a q=>by
 have h1:(0:Int)<j:=a.1;have h2:j<1073741824:=a.2;exact floordiv_int s!"" (by rw[Int.fdiv_eq_ediv_of_nonneg i s!""];exact q) (.inl (PyProof.noPylong_small s!""))
def CH:OpR X (binaryOp .Mod) (rI (λ_ j=>0<j) λi j=>.int (i%j)):=opI λi j _ _ _ _ _ a q=>by
 have h1:(0:Int)<j:=a;exact mod_int' s!"" (by rw[Int.fmod_eq_emod_of_nonneg i s!""];exact q)
def unI {f:Value->Sem Value}{g:Int->Int}
  (a:∀(i:Int) (t:Tok) (s:Shared) (Q:Value->Shared->Prop) (E:Value->Shared->Prop),Q (.int (g i) s.toks) {s with toks:=s.toks+1}->wpAny (model X.prog X.w) X.A (f (.int i t)) Q E s):
  UnR X f (rU λi=>.int (g i)):=by
 intro ae s σ H x v Q I b h;obtain⟨i,rfl,q⟩:=h;obtain⟨t,rfl⟩:=b;exact a i t s _ _ #[.int (g i),H,I.tok _,#[_,rfl],q]
def Pu:UnR X (unaryOp .USub) (rU λi=>.int (-i)):=unI λ_ _ _ _ _ q=>neg_int q
end
noncomputable def scal:V->V->Bool
 |.non,.non=>true | .non,.int _=>true | .int _,.non=>true | .non,.bl _=>true | .bl _,.non=>true | .non,.str _=>true | .str _,.non=>true
 |.int _,.int _=>true | .bl _,.bl _=>true | .str _,.str _=>true | .byt _,.byt _=>true
 |.int _,.str _=>true | .str _,.int _=>true | .bl _,.str _=>true | .str _,.bl _=>true
 |_,_=>false
noncomputable def rEq:R2:=λx y H Q=>scal x y=true/\Q (.bl (decide (x=y))) H
noncomputable def rNe:R2:=λx y H Q=>scal x y=true/\Q (.bl (!decide (x=y))) H
def T4 : decide (V.int i=V.int j)=(i==j):=by
 rw[j1_];simp
def XG : decide (V.bl i=V.bl j)=(i==j):=by
 rw[j1_];simp
def T5 : decide (V.str i=V.str j)=(i==j):=by
 rw[j1_];simp
def T6 : decide (V.byt i=V.byt j)=(i.toList==j.toList):=by
 rw[j1_];cases i;cases j;simp
section
variable {X:Cx} {a b c:Expr} {ta tb tc:TE} {pos:Pos}
def Bi (I:Inv X ae σ H s)(q:Q (.bl k) H)(e:k=k'):EP X ae σ Q (.bool k') s:=by
 subst e;exact#[.bl k,H,I,rfl,q]
def EA:OpR X (compareOp .Eq) rEq:=by
 intro ae s σ H x y v u Q I d a h;obtain⟨c,q⟩:=h;cases x with
 |non=>
  cases d;cases y with
  |non=>cases a;exact se (Bi I q (by simp))
  |bl j=>cases a;exact sf (Bi I q (by simp))
  |int j=>obtain⟨b,rfl⟩:=a;exact sJ (Bi I q (by simp))
  |str j=>obtain⟨b,rfl⟩:=a;exact sL (Bi I q (by simp))
  |_=>exact absurd (show false=true from c) jy_
 |bl i=>
  cases d;cases y with
  |non=>cases a;exact si (Bi I q (by simp))
  |bl j=>cases a;exact eq_bool (Bi I q XG)
  |str j=>obtain⟨b,rfl⟩:=a;exact sj (Bi I q (by simp))
  |_=>exact absurd (show false=true from c) jy_
 |int i=>
  obtain⟨t,rfl⟩:=d;cases y with
  |non=>cases a;exact sO (Bi I q (by simp))
  |int j=>obtain⟨b,rfl⟩:=a;exact eq_int (Bi I q T4)
  |str j=>obtain⟨b,rfl⟩:=a;exact sP (Bi I q (by simp))
  |_=>exact absurd (show false=true from c) jy_
 |str i=>
  obtain⟨t,rfl⟩:=d;cases y with
  |non=>cases a;exact sQ (Bi I q (by simp))
  |bl j=>cases a;exact sk (Bi I q (by simp))
  |int j=>obtain⟨b,rfl⟩:=a;exact sR (Bi I q (by simp))
  |str j=>obtain⟨b,rfl⟩:=a;exact eq_str (Bi I q T5)
  |_=>exact absurd (show false=true from c) jy_
 |byt i=>
  obtain⟨t,rfl⟩:=d;cases y with
  |byt j=>obtain⟨b,rfl⟩:=a;exact uA (Bi I q T6)
  |_=>exact absurd (show false=true from c) jy_
 |_=>cases y<;>exact absurd (show false=true from c) jy_
def KH:OpR X (compareOp .NotEq) rNe:=by
 intro ae s σ H x y v u Q I d a h;obtain⟨c,q⟩:=h;cases x with
 |non=>
  cases d;cases y with
  |non=>cases a;exact sm (Bi I q (by simp))
  |bl j=>cases a;exact sr (Bi I q (by simp))
  |int j=>obtain⟨b,rfl⟩:=a;exact sS (Bi I q (by simp))
  |str j=>obtain⟨b,rfl⟩:=a;exact sV (Bi I q (by simp))
  |_=>exact absurd (show false=true from c) jy_
 |bl i=>
  cases d;cases y with
  |non=>cases a;exact su (Bi I q (by simp))
  |bl j=>cases a;exact ne_bool (Bi I q (qx_ not XG))
  |str j=>obtain⟨b,rfl⟩:=a;exact sx (Bi I q (by simp))
  |_=>exact absurd (show false=true from c) jy_
 |int i=>
  obtain⟨t,rfl⟩:=d;cases y with
  |non=>cases a;exact sX (Bi I q (by simp))
  |int j=>obtain⟨b,rfl⟩:=a;exact ne_int (Bi I q (qx_ not T4))
  |str j=>obtain⟨b,rfl⟩:=a;exact sY (Bi I q (by simp))
  |_=>exact absurd (show false=true from c) jy_
 |str i=>
  obtain⟨t,rfl⟩:=d;cases y with
  |non=>cases a;exact tf (Bi I q (by simp))
  |bl j=>cases a;exact sG (Bi I q (by simp))
  |int j=>obtain⟨b,rfl⟩:=a;exact ti (Bi I q (by simp))
  |str j=>obtain⟨b,rfl⟩:=a;exact ne_str (Bi I q (qx_ not T5))
  |_=>exact absurd (show false=true from c) jy_
 |byt i=>
  obtain⟨t,rfl⟩:=d;cases y with
  |byt j=>obtain⟨b,rfl⟩:=a;exact uB (Bi I q (qx_ not T6))
  |_=>exact absurd (show false=true from c) jy_
 |_=>cases y<;>exact absurd (show false=true from c) jy_
def QI:OpR X (compareOp .Lt) (rI0 λi j=>.bl (decide (i<j))):=opB0 λ_ _ _ _ _ _ _ q=>lt_int q
def QJ:OpR X (compareOp .LtE) (rI0 λi j=>.bl (decide (i<=j))):=opB0 λ_ _ _ _ _ _ _ q=>le_int q
def Aq_:OpR X (compareOp .Gt) (rI0 λi j=>.bl (decide (j<i))):=opB0 λ_ _ _ _ _ _ _ q=>gt_int q
def Ck_:OpR X (compareOp .GtE) (rI0 λi j=>.bl (decide (j<=i))):=opB0 λ_ _ _ _ _ _ _ q=>ge_int q
def T7:OpR X (compareOp .In) (λx y H Q=>∃i j,x=.str i/\y=.str j/\Q (.bl (!(Builtin.Str.occurrences j i 0 j.length 1).isEmpty)) H):=by
 intro ae s σ H x y v u Q I a b h;obtain⟨i,j,rfl,rfl,q⟩:=h;obtain⟨t,rfl⟩:=a;obtain⟨c,rfl⟩:=b;exact in_str (Bi I q rfl)
def Mb:OpR X (compareOp .Is) (λx y H Q=>y=.non/\Q (.bl (decide (x=.non))) H):=by
 intro ae s σ H x y v u Q I a b h;obtain⟨rfl,q⟩:=h;cases b;refine is_none_gen (Bi I q ?_);cases x<;>first
  | (cases a;rfl)
  | (obtain⟨t,rfl⟩:=a;rfl)
def YU:OpR X (compareOp .IsNot) (λx y H Q=>y=.non/\Q (.bl (!decide (x=.non))) H):=by
 intro ae s σ H x y v u Q I a b h;obtain⟨rfl,q⟩:=h;cases b;refine isnot_none_gen (Bi I q ?_);cases x<;>first
  | (cases a;rfl)
  | (obtain⟨t,rfl⟩:=a;rfl)
def AL (b:Expr) (h:op ≠ .In:=by decide)(h2:op ≠ .NotIn:=by decide):behindInMarks op b=false:=by
 have a:(op==CmpOp.In)=false:=by cases op<;>first|rfl|exact absurd rfl h
 have c:(op==CmpOp.NotIn)=false:=by cases op<;>first|rfl|exact absurd rfl h2
 cases b<;>simp[behindInMarks,a,c]
def D9 (c:OpR X (compareOp op) r)(d:PE X a ta)(e:PE X b tb)(hm:behindInMarks op b=false):PE X (.Compare a [op] [b] pos) (tOp r ta tb):=by
 intro ae s σ H Q I h;exact wpAny_Compare1 (binT d e I h λv u f x y H2 g i j q=>c ae f σ H2 x y v u Q g i j q) hm
noncomputable def T8 (t:TE):TT:=λ σ H Q=>t σ H λx H'=>∃k,x=.bl k/\Q k H'
def Ay (d:OpR X (compareOp op) r)(f:PE X a ta)(g:PE X b tb)(hm:behindInMarks op b=false):PT X (.Compare a [op] [b] pos) (T8 (tOp r ta tb)):=by
 intro ae s σ H Q I h;refine wpAny_isTrue_Compare1 (thn (f ae s σ H _ I h) λv i ⟨x,H1,j,l,m⟩=>thn (g ae i σ H1 _ j m) λu n ⟨y,H2,o,p,q⟩ =>
  thn (d ae n σ H2 x y v u _ o l p q) λc C ⟨z,t,w,A,k,e,B⟩=>?_) hm
 subst e;cases A;exact qV_ #[t,w,B]
noncomputable def T9 (r r':R2)(ta tb tc:TE):TE:=λ σ H Q=>ta σ H λx H1=>tb σ H1 λy H2=>r x y H2 λz a=>∃k,z=.bl k /\
 (if k=true then tc σ a λb c=>r' y b c Q else Q (.bl false) a)
def RE (l:OpR X (compareOp op) r)(m:OpR X (compareOp jy) r')(n:PE X a ta)(o:PE X b tb)(hc:PE X c tc)
  (hm:lastMarks [op,jy] [b,c]=false:=by with_unfolding_all rfl):PE X (.Compare a [op,jy] [b,c] pos) (T9 r r' ta tb tc):=by
 intro ae s σ H Q I h;refine Compare_chain (thn (n ae s σ H _ I h) λv p ⟨x,H1,q,t,w⟩=>chain_link (thn (o ae p σ H1 _ q w) λu A ⟨y,H2,B,f,C⟩ =>
  thn (l ae A σ H2 x y v u _ B t f C) λd D ⟨z,g,i,E,k,e,j⟩=>?_)) hm
 subst e;cases E;refine qV_ ?_;cases k with
 |false=>exact ite_ff #[.bl false,g,i,rfl,j]
 |true=>exact ite_tt (chain_last (thn (hc ae D σ g _ i j) λF G ⟨J,K,L,M,N⟩=>m ae G σ K y J u F Q L f M N))
def RF (l:OpR X (compareOp op) r)(m:OpR X (compareOp jy) r')(n:PE X a ta)(o:PE X b tb)(hc:PE X c tc)
  (hm:lastMarks [op,jy] [b,c]=false:=by with_unfolding_all rfl):PT X (.Compare a [op,jy] [b,c] pos) (T8 (T9 r r' ta tb tc)):=by
 intro ae s σ H Q I h;refine isTrue_chain (thn (n ae s σ H _ I h) λv p ⟨x,H1,q,t,w⟩=>test_link (thn (o ae p σ H1 _ q w) λu A ⟨y,H2,B,f,C⟩ =>
  thn (l ae A σ H2 x y v u _ B t f C) λd D ⟨z,g,i,E,k,e,j⟩=>?_)) hm
 subst e;cases E;refine qV_ ?_;cases k with
 |false=>
  obtain⟨k',F,G⟩:=j;cases F;exact ite_ff #[g,i,G]
 |true=>
  refine ite_tt (test_last (thn (hc ae D σ g _ i j) λJ K ⟨L,M,N,O,P⟩=>thn (m ae K σ M y L u J _ N f O P) λW Y ⟨Z,R,S,T,aa,U,V⟩=>?_));subst U;cases T;exact qV_ #[R,S,V]
def NC:(sizeLine:Nat)<2 ^ 63:=by rw[zU_];decide
def Sy:OpR X (binaryOp .Add) (λx y H Q=>∃i j,x=.str i/\y=.str j/\i.length+j.length<=sizeLine/\Q (.str (i++j)) H):=by
 intro ae s σ H x y v u Q I a b h;obtain⟨i,j,rfl,rfl,c,q⟩:=h;obtain⟨t,rfl⟩:=a;obtain⟨d,rfl⟩:=b;exact add_str (λd e=>#[.str (i++j),H,I.tok _,#[_,rfl],q]) c
def vals1 (r:Vals [x] us):∃u,us=[u]/\RelV x u:=by
 cases r with
 |cons a b=>cases b;exact#[_,rfl,a]
def vals2 (r:Vals [x,y] us):∃u a,us=[u,a]/\RelV x u/\RelV y a:=by
 cases r with
 |cons b c=>
  cases c with
  |cons d e=>cases e;exact#[_,_,rfl,b,d]
def Ua (hc:X.calm=true):DU X (.builtin "max") (λxs H Q=>∃i j,xs=[.int i,.int j]/\Q (.int (if j > i then j else i)) H):=by
 intro ae s σ H xs us Q I r h;obtain⟨i,j,rfl,q⟩:=h;obtain⟨u,b,rfl,⟨t,rfl⟩,⟨c,rfl⟩⟩:=vals2 r;refine max_two_ints (I.ok.hd hc) λh' d k=>#[_,H,I.kept k,?_,q];by_cases a:j > i
 ·rw[if_pos a,if_pos a];exact#[_,rfl]
 ·rw[if_neg a,if_neg a];exact#[_,rfl]
end
end L2
namespace L2
open PySem PySem.Spec PyProof.Rows
structure ObjM (h:Heap)(x dx C:Addr)(mA:Str->α5):Prop where
 obj:h.get? x=some (oX C dx)
 ns:h.Ns1 dx mA
 ne:dx≠x
def Ub {h:Heap}{dx:Addr}{mA:Str->α5}(n:h.Ns1 dx mA):∃od,h.get? dx=some od/\∀name,pF name od=some (mA name):=by
 obtain⟨o,es,ep,b,c,d,_,hm⟩:=n;refine#[o,b,λname=>?_];have e:=hm name;unfold nsFind findBy at e;rw[<-Array.find?_toList]at e;unfold pF;rw[c];dsimp only;split
 ·rename_i y q
  rw[q]at e;exact qx_ some e
 ·rename_i q
  rw[q]at e;have a:es.toList.any (·.refKey)=false:=by
   rw[List.any_eq_false];intro y f;obtain⟨z,t,g⟩:=d y (Array.mem_toList_iff.mp f);simp[DictEntry.refKey,g]
  have i:¬ es.toList.any (·.refKey)=true:=by rw[a];exact jy_
  rw[if_neg i];exact qx_ some e
def ObjM.look (I:ObjM h x dx C mA):∃od,uO h x (oX C dx) C (some od)/\∀name,pF name od=some (mA name):=
 let ⟨od,a,b⟩:=Ub I.ns
 #[od,#[I.obj,rfl,rfl,a],b]
section
variable {prog:Program} {w:World} {A:Around} {E:Value->Shared->Prop} {s:Shared} {K:α3} {x dx C f:Addr} {mA:Str->α5} {name:Str} {v:Value}
def YV (X:K.In s.heap)(I:ObjM s.heap x dx C mA)(a:pb K C name=true)(b:pj K C=true)
  (c:oP K (.ref C) name=some none) (d:mA name=some v) (e:rF v=true) (h:Q v {s with toks:=s.toks+1}):
  wpAny (model prog w) A (getAttr (.ref x) name expr) Q E s:=by
 obtain⟨od,J,f⟩:=I.look;exact ur X J (zV_ a).1 (ug b c rfl (by rw[f,d])) e h
def Wg (X:K.In s.heap)(I:ObjM s.heap x dx C mA)(a:pb K C name=true)
  (b:oP K (.ref C) name=some (some (.ref f))) (c:rh K (.ref f)=true) (d:mA name=none) (h:Q (.ref f,[.ref x]) s):
  wpAny (model prog w) A (getMethod (.ref x) name pl) Q E s:=by
 obtain⟨od,J,e⟩:=I.look;exact uu X J (zV_ a).1 (zV_ a).2 b (z3_.mp c) (by show (pF name od).map (·.isSome)=some false;rw[e,d];rfl) h
def YW (X:K.In s.heap)(I:ObjM s.heap x dx C mA)
  (hs:oP K (.ref C) "__setattr__"=some (some (.builtin "object.__setattr__"))) (e:pk K C=true) (f:qp K C name=some none) (g:pj K C=true)
  (hw:q9 mA ns) (hsz:ns.length<=sizeLine)
  (h:∀h',ObjM h' x dx C (λy=>if y=name then some v else mA y)->Heap.SameBut dx s.heap h'->Q () {s with heap:=h',toks:=s.toks+2}):
  wpAny (model prog w) A (setAttr (.ref x) name v) Q E s:=by
 obtain⟨od,J,o⟩:=I.look;refine uv X J hs (uC (s:={s with toks:=s.toks+1}) (r:=none) X J e f λb=>?_);obtain⟨cd,i,j⟩:=uD g;have k:s.heap.get? x=some #[.ref C,some dx,.plain,(List.toArray [])]:=I.obj;refine jc_ (jl_ (jc_ (jc_ (wpAny_loadPart k (jc_ (PySem.W.Looks.here (s:={s with toks:=s.toks+1}) (uh X i) ?_))))));rw[j];refine jl_ (a:=some dx) (jc_ (jl_ (jc_ ?_)));refine wpAny_nsSet1 (s:={s with toks:=s.toks+1}) I.ns λh' c d=>?_;obtain⟨p,q,t,l,m,n⟩:=c.count (PySem.Within.cons name v hw);refine jc_ (wpAny_lookBehind l (by rw[m];exact pastItsLine_dict (qo_ n (by rw[jG_];lia))) ?_);exact jl_ (h _ #[(d.2 _ (qs_ I.ne)).trans I.obj,c,I.ne] d)
def Wi {a:List (Str×Value)}(X:K.In s.heap)(hm:rP K C=true)
  (hi:oP K (.ref C) "__init__"=some (some (.ref f))) (b:uP K (.ref f)=some (.type "function"))
  (h:codeAny (model prog w) (A.under (.builtin "type.__call__" #[.ref C::vs,a])) (.call (.ref f) #[.ref (s.heap.objs.size+1)::vs,a]) (uE (s.heap.objs.size+1) R)
   {s with heap:=(s.heap.push oT).push (oX C s.heap.objs.size)}):
  codeAny (model prog w) A (.call (.ref C) #[vs,a]) R s:=by
 obtain⟨e,g,d,t,i⟩:=s;exact uw (uF X hm) (ue X hi) (λc=>uK X c b) (.inl rfl) h
end
noncomputable def putF (f:Str)(v:V):List (Str×V)->List (Str×V)
 |[]=>[(f,v)]
 | (g,x)::r=>if g=f then (g,v)::r else (g,x)::putF f v r
def Cr (f g:Str)(v:V):∀fs:List (Str×V),(putF f v fs).lookup g=if g=f then some v else fs.lookup g
 |[]=>by
  show oZ g [(f,v)]=_;by_cases h:g=f
  ·have a:(g==f)=true:=z3_.mpr h;simp only[oZ,a,if_pos h]
  ·have a:(g==f)=false:=xA_.mpr h;simp only[oZ,a,if_neg h]
 | (k,x)::r=>by
  have c:=Cr f g v r;rw[show putF f v ((k,x)::r)=(if k=f then (k,v)::r else (k,x)::putF f v r) from rfl];by_cases b:k=f
  ·rw[if_pos b];by_cases h:g=k
   ·have a:(g==k)=true:=z3_.mpr h;simp only[oZ,a,if_pos (h.trans b)]
   ·have a:(g==k)=false:=xA_.mpr h;simp only[oZ,a,if_neg (λe:g=f=>h (e.trans b.symm))]
  ·rw[if_neg b];by_cases h:g=k
   ·have a:(g==k)=true:=z3_.mpr h;simp only[oZ,a,if_neg (λe:g=f=>b (h.symm.trans e))]
   ·have a:(g==k)=false:=xA_.mpr h;simp only[oZ,a];exact c
def Mc (f:Str)(v:V):∀fs:List (Str×V),f∈(putF f v fs).map (·.1)/\∀g,g∈fs.map (·.1)->g∈(putF f v fs).map (·.1)
 |[]=>#[by simp[putF],λg h=>by simp at h]
 | (k,x)::r=>by
  obtain⟨b,c⟩:=Mc f v r;rw[show putF f v ((k,x)::r)=(if k=f then (k,v)::r else (k,x)::putF f v r) from rfl];by_cases a:k=f
  ·rw[if_pos a];subst a;exact#[by simp,λg h=>by simpa using h]
  ·rw[if_neg a];refine#[?_,λg h=>?_]
   ·rw[jT_];exact jo_ _ b
   ·rw[jT_]at h ⊢;rcases jw_.mp h with e|e
    ·exact jw_.mpr (.inl e)
    ·exact jo_ _ (c g e)
def Md (f:Str)(v:V):∀fs:List (Str×V),(putF f v fs).length<=fs.length+1
 |[]=>by simp[putF]
 | (k,x)::r=>by
  have b:=Md f v r;rw[show putF f v ((k,x)::r)=(if k=f then (k,v)::r else (k,x)::putF f v r) from rfl];by_cases a:k=f
  ·rw[if_pos a,jG_,jG_];lia
  ·rw[if_neg a,jG_,jG_];lia
def RelO.some_of (r:RelO (some v) o):∃u,o=some u/\RelV v u:=by
 cases o with
 |none=>exact (show False from r).elim
 |some u=>exact#[u,rfl,r]
def RelO.none_of (r:RelO none o):o=none:=by
 cases o with
 |none=>rfl
 |some u=>exact (show False from r).elim
def Uc (r:RelV v u):rF u=true:=by
 cases v with
 |non=>cases (show u=Value.none from r);rfl
 |bl b=>cases (show u=Value.bool b from r);rfl
 |int i=>obtain⟨t,e⟩:=(show ∃t,u=Value.int i t from r);cases e;rfl
 |str x=>obtain⟨t,e⟩:=(show ∃t,u=Value.str x t from r);cases e;rfl
 |byt b=>obtain⟨t,e⟩:=(show ∃t,u=Value.bytes b t from r);cases e;rfl
 |flt b=>obtain⟨t,e⟩:=(show ∃t,u=Value.float b t from r);cases e;rfl
 |ref a=>cases (show u=Value.ref a from r);rfl
 |ty n=>cases (show u=Value.type n from r);rfl
section
variable {P:Program} {w:World} {H H':Hp} {h h':Heap} {a C dx:Addr} {fs fs':List (Str×V)}
def Oe (b:HOk P w H h)(e:H a=some (.ins C dx fs)):∃mA,ObjM h a dx C mA/\(∀f,RelO (fs.lookup f) (mA f))/\q9 mA (fs.map (·.1))/\fs.length<=1000/\H dx=some (.own a):=by
 obtain⟨d,z,c,g,mA,n,r,q⟩:=(show Bm P w H h a (.ins C dx fs) from b a _ e);exact#[mA,#[g,n,c],r,q,z,d]
end
structure Cls (K:α3)(C:Addr):Prop where
 pg:pb K C Str.empty=true
 hd:pj K C=true
 po:pk K C=true
 sa:oP K (.ref C) "__setattr__"=some (some (.builtin "object.__setattr__"))
def Cls.get {K:α3} (c:Cls K C)(f:Str):pb K C f=true:=c.pg
def Cy (K:α3)(C:Addr)(f:Str):Prop:=oP K (.ref C) f=some none
def Cy.taker {K:α3} (n:Cy K C f):qp K C f=some none:=by
 unfold qp;rw[show oP K (.ref C) f=some none from n];rfl
structure Meth (K:α3)(C:Addr)(m:Str)(f:Addr):Prop where
 at_:oP K (.ref C) m=some (some (.ref f))
 fn:rh K (.ref f)=true
 kp:keepIn K (.ref f)=true
section
variable {X:Cx} {ae:α7} {σ:St} {H:Hp} {s:Shared} {a C dx:Addr} {fs:List (Str×V)} {f:Str} {v:V} {A:Around} {E:Value->Shared->Prop}
def SA (I:Inv X ae σ H s)(e:H a=some (.ins C dx fs))(c:Cls X.K C)(n:Cy X.K C f)(l:fs.lookup f=some v)
  (h:∀u s',Inv X ae σ H s'->RelV v u->Q u s'):wpAny (model X.prog X.w) A (getAttr (.ref a) f b) Q E s:=by
 obtain⟨mA,O,r,_,_,_⟩:=Oe I.hok e;obtain⟨u,g,d⟩:=RelO.some_of (v:=v) (o:=mA f) (by rw[<-l];exact r f);exact YV I.kIn O (c.get f) c.hd n g (Uc d) (h u _ (I.tok _) d)
def NF (I:Inv X ae σ H s)(e:H a=some (.ins C dx fs))(c:Cls X.K C)(k:Meth X.K C m g)(l:fs.lookup m=none)
  (h:Q (.ref g,[.ref a]) s):wpAny (model X.prog X.w) A (getMethod (.ref a) m pl) Q E s:=by
 obtain⟨mA,O,r,_,_,_⟩:=Oe I.hok e;have b:mA m=none:=RelO.none_of (by rw[<-l];exact r m);exact Wg I.kIn O (c.get m) k.at_ k.fn b h
def SD (I:Inv X ae σ H s)(e:H a=some (.ins C dx fs))(c:Cls X.K C)(n:Cy X.K C f)(B:fs.length<1000)(j:RelV y u)
  (h:∀s',Inv X ae σ (upd H a (.ins C dx (putF f y fs))) s'->Q () s'):wpAny (model X.prog X.w) A (setAttr (.ref a) f u) Q E s:=by
 obtain⟨mA,O,r,wi,_,i⟩:=Oe I.hok e;have k:(fs.map (·.1)).length<=sizeLine:=by rw[ja_,zU_];lia
 refine YW I.kIn O c.sa c.po n.taker c.hd wi k λh' d l=>h _ ?_;have m:∃o,h'.get? dx=some o:=let ⟨o,_,_,p,_⟩:=d.ns;#[o,p];refine I.write (x:=a) (e:=dx) (by rw[e];exact oO) (.inr i) (λb q t z=>(l.2 b t).trans z) m ?_;refine#[by rw[Ak O.ne];exact i,?_,O.ne,d.obj,_,d.ns,λg=>?_,λg v=>?_]
 ·have:=Md f y fs;lia
 ·show RelO ((putF f y fs).lookup g) (if g=f then some u else mA g);rw[Cr];by_cases q:g=f
  ·rw[if_pos q,if_pos q];exact j
  ·rw[if_neg q,if_neg q];exact r g
 ·by_cases q:g=f
  ·rw[q];exact (Mc f y fs).1
  ·refine (Mc f y fs).2 g (wi g λz=>v ?_);show (if g=f then some u else mA g)=none;rw[if_neg q];exact z
def Inv.made (I:Inv X ae σ H s):Inv X ae σ (upd (upd H s.heap.objs.size (.own (s.heap.objs.size+1))) (s.heap.objs.size+1) (.ins C s.heap.objs.size []))
  {s with heap:=(s.heap.push oT).push (oX C s.heap.objs.size)}:=by
 have c:(s.heap.push oT).get? s.heap.objs.size=some oT:=js_ s.heap rfl;have f:((s.heap.push oT).push (oX C s.heap.objs.size)).get? (s.heap.objs.size+1)=some (oX C s.heap.objs.size):=by
  have:=js_ (s.heap.push oT) (o:=oX C s.heap.objs.size) rfl
  rwa [qZ_]at this
 have g:(s.heap.push oT).Ns s.heap.objs.size (λ_=>none):=#[oT,(List.toArray []),_,c,rfl,(λe h=>absurd h (by simp)),λ_=>rfl];have i:=I.laid (a:=s.heap.objs.size) (o:=.own (s.heap.objs.size+1)) (h':=s.heap.push oT) (t':=s.toks) (λb u q=>jj_ _ q) (jf_ _) #[_,c];refine i.laid (a:=s.heap.objs.size+1) (o:=.ins C s.heap.objs.size []) (t':=s.toks) (λb u q=>jj_ _ q) (tP (qZ_ _ _)) ?_;have d:s.heap.objs.size≠s.heap.objs.size+1:=jP_ (q7_ _);refine#[by rw[Ak d,Ab],j8_ _,d,f,λ_=>none,(Heap.Ns1.of_empty g).at λo q=>jj_ _ q,λ_=>oO,λy j=>absurd rfl j]
def YX (a:attributeBase e f env (eval e env)=eval e env)
  (h:wpAny (model prog w) A (eval e env) (λo b=>wpAny (model prog w) A (getAttr o f true) Q E b) E s):wpAny (model prog w) A (eval (.Attribute e f pos) env) Q E s:=
 Attribute_any_ h (by rw[arm_eval_Attribute,a])
end
noncomputable def tFld (K:α3)(ta:TE)(f:Str):TE:=λ σ H Q=>ta σ H λx H1=>∃a C dx fs v,x=.ref a/\H1 a=some (.ins C dx fs)/\Cls K C/\Cy K C f/\fs.lookup f=some v/\Q v H1
noncomputable def sFld (K:α3)(ta tv:TE)(f:Str):TS:=λD σ H=>tv σ H λy H1=>ta σ H1 λx H2=>∃a C dx fs,x=.ref a/\H2 a=some (.ins C dx fs)/\Cls K C/\Cy K C f/\fs.length<1000 /\
 D.nx σ (upd H2 a (.ins C dx (putF f y fs)))
section
variable {X:Cx} {o e value:Expr} {f:Str} {pos bY cN:Pos} {ta tv:TE}
def AR (b:PE X e ta)(d:attributeBase e f X.env (eval e X.env)=eval e X.env):PE X (.Attribute e f pos) (tFld X.K ta f):=by
 intro ae s σ H Q I h;refine YX d (thn (b ae s σ H _ I h) λu o ⟨x,H1,g,i,a,C,dx,fs,v,ex,j,c,n,l,q⟩=>?_);subst ex;obtain rfl:u=Value.ref a:=i;exact SA g j c n l λp r k m=>#[v,H1,k,m,q]
def C8 (b:PE X o ta)(d:PE X value tv)(hs:swapsWith value (some (.Attribute o f bY)) pos.line X.env=pure false):PS X (.Assign [.Attribute o f bY] value pos) (sFld X.K ta tv f):=by
 intro ae s σ H D I h;refine plainObj_wpAny_Assign_Attribute (thn (d ae s σ H _ I h) λu e ⟨y,H1,g,i,q⟩=>thn (b ae e σ H1 _ g q) λj v ⟨x,H2,k,m,a,C,dx,fs,ex,p,c,n,l,r⟩=>?_) hs;subst ex;obtain rfl:j=Value.ref a:=m;exact SD k p c n l i λw t=>#[σ,_,t,r]
end
section
variable {X:Cx} {ae:α7} {σ:St} {H:Hp} {s:Shared} {A:Around} {E:Value->Shared->Prop} {Q:Value->Shared->Prop} {c:Value} {b:Bool}
inductive TyOf (K:α3)(H:Hp):V->Value->Prop where
 | non:TyOf K H .non (.type "NoneType")
 | bl (x:Bool):TyOf K H (.bl x) (.type "bool")
 | int (i:Int):TyOf K H (.int i) (.type "int")
 | str (x:Str):TyOf K H (.str x) (.type "str")
 | flt (x:UInt64):TyOf K H (.flt x) (.type "float")
 | lst {a:Addr} {xs:List V} (e:H a=some (.lst xs)):TyOf K H (.ref a) (.type "list")
 | frz {a:Addr} {o:Obj} {xs:List V} (e:H a=some (.frz o (.lst xs))):TyOf K H (.ref a) (.type "list")
 | tup {a:Addr} {xs:List V} (e:H a=some (.tup xs)):TyOf K H (.ref a) (.type "tuple")
 | dK {a:Addr} {kvs:List (Key×V)} (e:H a=some (.dK kvs)):TyOf K H (.ref a) (.type "dict")
 | dT {a:Addr} {kvs:List (List Key×V)} (e:H a=some (.dT kvs)):TyOf K H (.ref a) (.type "dict")
 | ins {a C dx:Addr} {fs:List (Str×V)} (e:H a=some (.ins C dx fs)) (cl:Cls K C) (ha:oP K (.ref C) "__class__"=some (some (.builtin "object.__class__")))
   (hn:ri K (.builtin "object.__class__") "__get__"=some (some (.builtin "getset_descriptor.__get__"))) (jz:uL K (.builtin "object.__class__")=some true)
   (hm:uR K C (.type "object")=some true):TyOf K H (.ref a) (.ref C)
def Ud (I:Inv X ae σ H s)(d:RelV x u)(ty:TyOf X.K H x t)(e:kitOne X.K t c=some b)(h:∀j,Q (.bool b) {s with toks:=j}):
  wpAny (model X.prog X.w) A (call (.builtin "isinstance") [u,c]) Q E s:=by
 cases ty with
 |non=>cases (show u=Value.none from d);exact qj_ ux I.kIn oO e (λz=>nomatch z) h
 |bl y=>cases (show u=Value.bool y from d);exact qj_ uy I.kIn oO e (λz=>nomatch z) h
 |int i=>obtain⟨t,q⟩:=(show ∃t,u=Value.int i t from d);cases q;exact qj_ uG I.kIn oO e (λz=>nomatch z) h
 |str y=>obtain⟨t,q⟩:=(show ∃t,u=Value.str y t from d);cases q;exact qj_ uH I.kIn oO e (λz=>nomatch z) h
 |flt y=>obtain⟨t,q⟩:=(show ∃t,u=Value.float y t from d);cases q;exact qj_ uj I.kIn oO e (λz=>nomatch z) h
 |@lst a xs f=>
  cases (show u=Value.ref a from d);obtain⟨_,_,n,_,h1⟩:=(show Bm X.prog X.w H s.heap a (.lst xs) from I.hok a _ f);exact qj_ z4_ I.kIn #[_,h1,rfl] e (λz=>nomatch z) h
 |@frz a k xs f=>
  cases (show u=Value.ref a from d);obtain⟨_,_,_,n,_,h1⟩:=(show Bm X.prog X.w H s.heap a (.frz k (.lst xs)) from I.hok a _ f);exact qj_ z4_ I.kIn #[_,h1,rfl] e (λz=>nomatch z) h
 |@tup a xs f=>
  cases (show u=Value.ref a from d);obtain⟨_,_,_,p⟩:=(show Bm X.prog X.w H s.heap a (.tup xs) from I.hok a _ f);obtain⟨o,h1,h2,_⟩:=p;exact qj_ qV I.kIn #[o,h1,h2] e (λz=>nomatch z) h
 |@dK a g f=>
  cases (show u=Value.ref a from d);obtain⟨_,_,v,_,p⟩:=(show Bm X.prog X.w H s.heap a (.dK g) from I.hok a _ f);obtain⟨o,es,ep,h1,h2,_⟩:=p;exact qj_ rj I.kIn #[o,h1,h2.1] e (λz=>nomatch z) h
 |@dT a g f=>
  cases (show u=Value.ref a from d);obtain⟨_,_,xs,_,o,es,ep,h1,h2,_⟩:=(show Bm X.prog X.w H s.heap a (.dT g) from I.hok a _ f);exact qj_ rj I.kIn #[o,h1,h2.1] e (λz=>nomatch z) h
 |@ins a C dx fs f cl l m r hm=>
  cases (show u=Value.ref a from d);obtain⟨mA,O,_⟩:=Oe I.hok f;obtain⟨od,J,_⟩:=O.look;exact qj_ (uI (cl.get _) cl.hd l m r hm) I.kIn J e (λz=>nomatch z) h
end
end L2
namespace L2
open PySem PySem.Spec PyProof.Rows
structure Room (k:Nat)(A:Around):Prop where
 hd:A.handled=none
 dp:A.depth+3*k+5<recursionLimit
 un:A.units+16*k+200<cLine
def Room.mono (r:Room k A)(h:j<=k):Room j A:=#[r.hd,by have:=r.dp;lia,by have:=r.un;lia]
def Room.deeper (r:Room (k+1) A)(env:Env):Room k (A.deeper env):=
 #[r.hd,by have:=r.dp;show A.depth+1+3*k+5<_;lia,by have:=r.un;show A.units+3+16*k+200<_;lia]
def SE {A:Around}{C:Addr}{us:List Value}{a:List (Str×Value)}:(A.under (.builtin "type.__call__" #[.ref C::us,a])).depth=A.depth+1:=by
 first|rfl|simp[Around.under,Code.weight,Code.isCreation,Code.isGuard,Code.isCaller,Code.frames,Code.isFrame,guardIds]
def SF {A:Around}{C:Addr}{us:List Value}{a:List (Str×Value)}:(A.under (.builtin "type.__call__" #[.ref C::us,a])).units=A.units+1:=by
 first|rfl|simp[Around.under,Code.cUnits,Code.frames,Code.isFrame]
def Room.make (r:Room (k+1) A)(C:Addr)(us:List Value)(a:List (Str×Value)):Room k (A.under (.builtin "type.__call__" #[.ref C::us,a])):=
 #[r.hd,by have:=r.dp;rw[SE];lia,by have:=r.un;rw[SF];lia]
def Room.depth (r:Room k A):A.depth<recursionLimit:=by have:=r.dp;lia
def Room.units (r:Room k A):A.units+64<cLine:=by have:=r.un;lia
noncomputable def tNil:TA:=λ_ H Q=>Q [] H
noncomputable def Ar_ (ta:TE)(tr:TA):TA:=λ σ H Q=>ta σ H λx H1=>tr σ H1 λxs H2=>Q (x::xs) H2
section
variable {X:Cx} {e:Expr} {es:List Expr} {te:TE} {t:TA} {pos:Pos}
def Ad:PA X [] tNil:=λ_ _ _ _ H Q I h=>zt_ #[[],H,I,.nil,h]
def Aa (a:PE X e te)(b:PA X es t)(hs:starEach (e::es) X.env=(false,eval e X.env)::starEach es X.env:=by rfl):PA X (e::es) (Ar_ te t):=by
 intro pos ae s σ H Q I h;rw[hs];show wpAny _ _ (spliced ((false,eval e X.env)::backTo pos (starEach es X.env))) _ _ s;refine xJ_ (thn (a ae s σ H _ I h) λu c ⟨x,H1,d,f,g⟩=>?_);exact thn (b pos ae c σ H1 _ d g) λus l ⟨xs,H2,i,j,k⟩=>#[x::xs,H2,i,.cons f j,k]
noncomputable def tTup (t:TA):TE:=λ σ H Q=>t σ H λxs H1=>xs.length<=sizeLine/\∀p,H1 p=none->Q (.ref p) (upd H1 p (.tup xs))
noncomputable def tLst (t:TA):TE:=λ σ H Q=>t σ H λxs H1=>xs.length<=sizeLine/\∀p,H1 p=none->Q (.ref p) (upd H1 p (.lst xs))
def BK {x1}(h:PA X es t):PE X (.Tuple es x1 pos) (tTup t):=by
 intro ae s σ H Q I d;refine wpAny_Tuple_spliced (thn (h pos ae s σ H _ I d) λus a ⟨xs,H1,c,r,z,q⟩=>#[by rw[<-r.length];exact z,?_]);have f:H1 a.heap.objs.size=none:=c.hok.fresh (jf_ _);refine#[.ref a.heap.objs.size,upd H1 a.heap.objs.size (.tup xs),c.laid (t':=a.toks) (λb u e=>jj_ _ e) (jf_ _) ?_,rfl,q _ f];exact#[z,us,r,#[_,js_ _ rfl,rfl,_,rfl]]
def Co (h:PA X es t):PE X (.List es pos) (tLst t):=by
 intro ae s σ H Q I d;refine wpAny_List_spliced (thn (h pos ae s σ H _ I d) λus a ⟨xs,H1,c,r,z,q⟩=>#[by rw[<-r.length];exact z,?_]);have f:H1 a.heap.objs.size=none:=c.hok.fresh (jf_ _);refine#[.ref a.heap.objs.size,upd H1 a.heap.objs.size (.lst xs),c.laid (t':=a.toks) (λb u e=>jj_ _ e) (jf_ _) ?_,rfl,q _ f];exact#[z,us,0,r,js_ _ rfl]
end
abbrev Sp:=List V->Hp->VK->XK->Prop
abbrev CXT:=List Env->Hp->Shared->XK->Value->Shared->Prop
structure Env0 (P:Program)(w:World)(K:α3)(mg:Str->α5)(base:Heap)(A:Around)(outer:List Env)(s:Shared)(H:Hp):Prop where
 frames:A.frames=some outer
 mod:Mod K mg base
 bs:∀b o,base.get? b=some o->s.heap.get? b=some o/\H b=none
 bsz:base.objs.size<=s.heap.objs.size
 funs:s.heap.FunFrames base outer
 frf:∀b∈frs outer,H b=none
 hok:HOk P w H s.heap
 bare:AllBare s.gens
def CE (outer:List Env)(P:Program)(w:World)(H:Hp)(s:Shared)(Q:VK)(u:Value)(s':Shared):Prop:=
 ∃v H',s'.os=s.os/\AllBare s'.gens/\Un (frs outer) [] H H' s.heap s'.heap/\HOk P w H' s'.heap/\RelV v u/\Q v H'
def CR (CX:CXT)(outer:List Env)(P:Program)(w:World)(H:Hp)(s:Shared)(Q:VK)(E:XK)(r:Result)(s':Shared):Prop:=
 match r with
 |.ok (.ret u)=>CE outer P w H s Q u s'
 |.ok _=>False
 |.error e=>CX outer H s E e s'
structure FnOk (P:Program)(w:World)(K:α3)(mg:Str->α5)(base:Heap)(CX:CXT)(k:Nat)(f:Addr)(fd:α6)(ps:List Str)(sp:Sp):Prop where
 len:∀vs H Q E,sp vs H Q E->vs.length=ps.length
 run:∀(A:Around) (outer:List Env) (s:Shared) (H:Hp) (args:Args) (us:List Value) (vs:List V) (Q:VK) (E:XK),Room k A->Env0 P w K mg base A outer s H->BindsTo s fd args (ps.zip us)->Vals vs us->sp vs H Q E ->
  codeAny (model P w) A (.call (.ref f) args) (CR CX outer P w H s Q E) s
def Env0.make {K:α3} (e:Env0 P w K mg base A outer s H)(C:Addr)(us:List Value)(a:List (Str×Value)):
  Env0 P w K mg base (A.under (.builtin "type.__call__" #[.ref C::us,a])) outer s H:=#[by first|exact e.frames|(simpa [Around.under,Code.envs,Code.isFrame,pushEnvs] using e.frames),e.mod,e.bs,e.bsz,e.funs,e.frf,e.hok,e.bare]
section
variable {X:Cx} {ae:α7} {σ:St} {H:Hp} {s s':Shared}
def Inv.env0 (I:Inv X ae σ H s):Env0 X.prog X.w X.K X.mg X.base X.A X.stack s H:=
 #[I.ok.frames,I.ok.mod,I.bs,qo_ I.ok.bsz I.sz,I.stack,I.stkFree,I.hok,I.bare]
def Inv.after (I:Inv X ae σ H s)(h:CE X.stack X.prog X.w H s Q u s'):EP X ae σ Q u s':=by
 obtain⟨v,H',a,c,e,f,r,q⟩:=h;obtain⟨i,g,d,t,j⟩:=s';obtain rfl:j=s.os:=a;exact#[v,H',I.call (h':=i) (g':=g) (d':=d) (t':=t) (ch:=[]) e f c (λb z=>absurd z (by simp)),r,q]
end
noncomputable def Wj (sp:Sp)(aK:List V)(E:XK)(t:TA):TE:=λ σ H Q=>t σ H λa H1=>sp (a++aK) H1 Q E
noncomputable def YY (C:Addr)(m:Str)(sp:Sp)(aK:List V)(E:XK)(ta:TE)(t:TA):TE:=λ σ H Q=>ta σ H λx H1=>∃a dx fs,x=.ref a/\H1 a=some (.ins C dx fs)/\fs.lookup m=none /\
 t σ H1 λb H2=>sp (x::(b++aK)) H2 Q E
noncomputable def As_ (C:Addr)(sp:Sp)(aK:List V)(E:XK)(t:TA):TE:=λ σ H Q=>t σ H λa H1=>∀x dx,H1 x=none->H1 dx=none->dx≠x ->
 sp (.ref x::(a++aK)) (upd (upd H1 dx (.own x)) x (.ins C dx [])) (λv H2=>v=.non/\Q (.ref x) H2) E
def Binds (K:α3)(fd:α6)(ps:List Str)(ds:List Value):Prop:=
 ∀(s:Shared) (us:List Value),K.In s.heap->(us++ds).length=ps.length->BindsTo s fd #[us,[]] (ps.zip (us++ds))
def Binds.all {K:α3} (h:∀us:List Value,us.length=ps.length->bindArgs fd #[us,[]]=pure (ps.zip us)):Binds K fd ps []:=λs us _ a=>by
 rw[xO_]at a ⊢;exact .of_eq (h us a)
def Gj (CX:CXT)(X:Cx)(E:XK):Prop:=∀(ae:α7) (σ:St) (H:Hp) (s:Shared) (e:Value) (s':Shared),Inv X ae σ H s->CX X.stack H s E e s'->X.xe e s'
section
variable {X:Cx} {CX:CXT} {k:Nat} {f C:Addr} {fd:α6} {ps:List Str} {sp:Sp} {aK:List V} {ds:List Value} {E:XK} {x m:Str} {p pos aA:Pos} {e o:Expr} {es:List Expr} {ta:TE} {t:TA}
def Px (F:FnOk X.prog X.w X.K X.mg X.base CX k f fd ps sp)(c:Room k X.A)(d:Binds X.K fd ps ds)(g:Vals aK ds)(i:Gj CX X E)
  (I:Inv X ae σ H s) (r:Vals vs us) (h:sp (vs++aK) H Q E):wpAny (model X.prog X.w) X.A (call (.ref f) us) (EP X ae σ Q) X.xe s:=by
 have b:Vals (vs++aK) (us++ds):=r.append g;have j:(us++ds).length=ps.length:=by rw[<-b.length];exact F.len _ _ _ _ h
 refine wpAny_call (zb_ (F.run X.A X.stack s H #[us,[]] (us++ds) (vs++aK) Q E c I.env0 (d s us I.kIn j) b h) λr s' a=>?_);cases r with
 |error e=>exact i ae σ H s e s' I a
 |ok l=>
  cases l with
  |ret u=>exact I.after a
  |next=>exact oW a
  |brk=>exact oW a
  |cont=>exact oW a
def YZ (F:FnOk X.prog X.w X.K X.mg X.base CX k f fd ps sp)(b:Room k X.A)(c:Gl X x)(hm:X.mg x=some (.ref f))(d:keepIn X.K (.ref f)=true)(g:Binds X.K fd ps ds)(i:Vals aK ds)(j:Gj CX X E)
  (l:PA X (e::es) t) (m:(x==("__debug__" : Str))=false:=by decide) (n:starEach (e::es) X.env=(false,eval e X.env)::starEach es X.env:=by rfl) (o:(backTo pos (starEach es X.env)).any (·.1)=false:=by rfl):
  PE X (.Call (.Name x p) (e::es) [] pos) (Wj sp aK E t):=by
 intro ae s σ H Q I h;refine xK_ (L8 I c hm ?_ m);refine xL_ (h₀:=X.base) I.ok.mod.kin d (thn (l pos ae s σ H _ I h) λus u ⟨v,H1,a,r,q⟩=>#[a.kIn,?_]) n o;exact Px F b g i j a r q
def BF (i:PE X o ta)(c:Cls X.K C)(hm:Meth X.K C m f)(F:FnOk X.prog X.w X.K X.mg X.base CX k f fd ps sp)(j:Room k X.A)(n:Binds X.K fd ps ds)(p:Vals aK ds)(v:Gj CX X E)(y:PA X (e::es) t)
  (z:starEach (e::es) X.env=(false,eval e X.env)::starEach es X.env:=by rfl) (B:(backTo pos (starEach es X.env)).any (·.1)=false:=by rfl)
  (D:eval (.Call (.Attribute o m aA) (e::es) [] pos) X.env=(do
   let b <- eval o X.env
   standAt aA.atName
   let (f,first) <- holding [b] (getMethod b m pl)
   callWith pos f first (backTo pos (starEach (e::es) X.env)) (backToKw pos (keywordEach [] X.env))):=by rfl):
  PE X (.Call (.Attribute o m aA) (e::es) [] pos) (YY C m sp aK E ta t):=by
 intro ae s σ H Q I h;refine zD_ (pl:=pl) (thn (i ae s σ H _ I h) λu G ⟨x,H1,d,J,a,dx,fs,ex,L,l,q⟩=>?_) D;subst ex;obtain rfl:u=Value.ref a:=J;refine NF d L c hm l ?_;refine xL_ (first:=[.ref a]) (h₀:=X.base) I.ok.mod.kin hm.kp (thn (y pos ae G σ H1 _ d q) λus N ⟨vs,H2,g,r,M⟩=>#[g.kIn,?_]) z B;exact Px (us:=.ref a::us) (vs:=.ref a::vs) F j n p v g (.cons rfl r) M
def A2 (e:PE X o ta)(c:Cls X.K C)(hm:Meth X.K C m f)(F:FnOk X.prog X.w X.K X.mg X.base CX k f fd ps sp)(g:Room k X.A)(i:Binds X.K fd ps ds)(j:Vals aK ds)(n:Gj CX X E)
  (p:eval (.Call (.Attribute o m aA) [] [] pos) X.env=(do
   let d <- eval o X.env
   standAt aA.atName
   let (f,first) <- holding [d] (getMethod d m pl)
   callWith pos f first (backTo pos (starEach [] X.env)) (backToKw pos (keywordEach [] X.env))):=by rfl):
  PE X (.Call (.Attribute o m aA) [] [] pos) (YY C m sp aK E ta tNil):=by
 intro ae s σ H Q I h;refine zD_ (pl:=pl) (thn (e ae s σ H _ I h) λu v ⟨x,H1,b,r,a,dx,fs,ex,t,l,q⟩=>?_) p;subst ex;obtain rfl:u=Value.ref a:=r;refine NF b t c hm l ?_;exact ui (first:=[.ref a]) b.kIn hm.kp (Px (us:=[.ref a]) (vs:=[.ref a]) F g i j n b (.cons rfl .nil) q)
structure Mk (K:α3)(C f:Addr):Prop where
 makes:rP K C=true
 init:oP K (.ref C) "__init__"=some (some (.ref f))
 fn:rh K (.ref f)=true
 kp:keepIn K (.ref C)=true
def Wk (M:Mk X.K C f)(F:FnOk X.prog X.w X.K X.mg X.base CX k f fd ps sp)(g:Room (k+1) X.A)(i:Binds X.K fd ps ds)(j:Vals aK ds)
  (l:Gj CX X E) (I:Inv X ae σ H s) (r:Vals vs us)
  (h:∀x dx,H x=none->H dx=none->dx≠x->sp (.ref x::(vs++aK)) (upd (upd H dx (.own x)) x (.ins C dx [])) (λv H2=>v=.non/\Q (.ref x) H2) E):
  wpAny (model X.prog X.w) X.A (call (.ref C) us) (EP X ae σ Q) X.xe s:=by
 have c:=h (s.heap.objs.size+1) s.heap.objs.size (I.hok.fresh (qH _)) (I.hok.fresh (jf_ _)) (jP_ (q7_ _));have b:=Inv.made (C:=C) I;have d:Vals (V.ref (s.heap.objs.size+1)::(vs++aK)) (Value.ref (s.heap.objs.size+1)::(us++ds)):=.cons rfl (r.append j);have m:(Value.ref (s.heap.objs.size+1)::us++ds).length=ps.length:=by
  have e:=d.length;rw[F.len _ _ _ _ c]at e;exact e.symm
 refine wpAny_call (Wi (f:=f) I.kIn M.makes M.init (z3_.mp M.fn) (zb_ (F.run _ X.stack _ _ #[Value.ref (s.heap.objs.size+1)::us,[]] (Value.ref (s.heap.objs.size+1)::(us++ds)) _ _ E (g.make C us [])
  (b.env0.make C us []) (i _ (Value.ref (s.heap.objs.size+1)::us) b.kIn m) d c) λr s' a=>?_))
 cases r with
 |error e=>exact l ae σ _ _ e s' b a
 |ok n=>
  cases n with
  |ret u=>
   obtain⟨v,H',o,rv,p,q⟩:=b.after a;subst p;exact#[rv,#[V.ref (s.heap.objs.size+1),H',o,rfl,q]]
  |next=>exact oW a
  |brk=>exact oW a
  |cont=>exact oW a
def Ue (M:Mk X.K C f)(F:FnOk X.prog X.w X.K X.mg X.base CX k f fd ps sp)(b:Room (k+1) X.A)(c:Gl X x)(hm:X.mg x=some (.ref C))(d:Binds X.K fd ps ds)(g:Vals aK ds)(i:Gj CX X E)
  (j:PA X (e::es) t) (l:(x==("__debug__" : Str))=false:=by decide) (m:starEach (e::es) X.env=(false,eval e X.env)::starEach es X.env:=by rfl) (n:(backTo pos (starEach es X.env)).any (·.1)=false:=by rfl):
  PE X (.Call (.Name x p) (e::es) [] pos) (As_ C sp aK E t):=by
 intro ae s σ H Q I h;refine xK_ (L8 I c hm ?_ l);refine xL_ (h₀:=X.base) I.ok.mod.kin M.kp (thn (j pos ae s σ H _ I h) λus o ⟨u,H1,a,r,q⟩=>#[a.kIn,?_]) m n;exact Wk M F b d g i a r q
end
structure FnScope (N P:List Str)(sc:Scope):Prop where
 kind:sc.kind=.function
 co:sc.isCoroutine=false
 gen:sc.isGenerator=false
 nd:N.Nodup
 pre:N.take P.length=P
 par:∀x∈P,sc.names.lookup x=some .local\/sc.names.lookup x=some .cell
 nofree:∀y∈sc.names,y.2 ≠ .free
def Pz {b:Str->Option NameKind}{x:Str}:∀{a:List (Str×Value)} {m:Str->α5},(∀v,(x,v)∉a)->bindL b a m x=m x
 |[],_,_=>rfl
 | (n,v)::r,m,h=>by
  unfold bindL;rw[Pz λw hw=>h w (jo_ _ hw)];split
  ·have:x≠n:=by rintro rfl;exact h v jt_
   simp[this]
  ·rfl
def PD {b:Str->Option NameKind}{x:Str}:∀{a:List (Str×Value)} {m:Str->α5},(∀v,(x,v)∉a)->bindC b a m x=m x
 |[],_,_=>rfl
 | (n,v)::r,m,h=>by
  unfold bindC;rw[PD λw hw=>h w (jo_ _ hw)];split
  ·rfl
  ·have:x≠n:=by rintro rfl;exact h v jt_
   simp[this]
def PH {a:Str->Option NameKind}{x:Str}{v:Value}:∀{P:List Str} {vs:List Value} {i:Nat} {m:Str->α5},P.Nodup->P[i]?=some x->vs[i]?=some v->a x=some .local ->
  bindL a (P.zip vs) m x=some v
 |[],_,_,_,_,h,_,_=>by simp at h
 |_::_,[],_,_,_,_,h,_=>by simp at h
 |p::P,w::vs,0,m,b,h1,h2,c=>by
  simp at h1 h2;subst h1;subst h2;show bindL a ((p,w)::P.zip vs) m p=_;unfold bindL;rw[Pz λv d=>(qb_.mp b).1 (qq d).1,if_pos c];simp
 |p::P,w::vs,i+1,m,b,h1,h2,c=>by
  show bindL a ((p,w)::P.zip vs) m x=_;unfold bindL;exact PH (i:=i) (qb_.mp b).2 (by simpa using h1) (by simpa using h2) c
def PJ {a:Str->Option NameKind}{x:Str}{v:Value}:∀{P:List Str} {vs:List Value} {i:Nat} {m:Str->α5},P.Nodup->P[i]?=some x->vs[i]?=some v->a x≠some .local ->
  bindC a (P.zip vs) m x=some v
 |[],_,_,_,_,h,_,_=>by simp at h
 |_::_,[],_,_,_,_,h,_=>by simp at h
 |p::P,w::vs,0,m,b,h1,h2,c=>by
  simp at h1 h2;subst h1;subst h2;show bindC a ((p,w)::P.zip vs) m p=_;unfold bindC;rw[PD λv d=>(qb_.mp b).1 (qq d).1,if_neg c];simp
 |p::P,w::vs,i+1,m,b,h1,h2,c=>by
  show bindC a ((p,w)::P.zip vs) m x=_;unfold bindC;exact PJ (i:=i) (qb_.mp b).2 (by simpa using h1) (by simpa using h2) c
noncomputable def start (N:List Str)(vs:List V):St:=vs.map some++pG (N.length-vs.length) none
noncomputable def cxOf (CX:CXT)(P:Program)(w:World)(K:α3)(mg:Str->α5)(base:Heap)(N:List Str)(qual:Str)(scope:Scope)(f:Addr)(cd:Value)(A:Around)(outer:List Env)(s:Shared)(H:Hp)(E:XK):Cx where
 prog:=P
 w:=w
 K:=K
 mg:=mg
 base:=base
 A:=A.deeper (envOfC qual scope s.heap.objs.size f cd)
 N:=N
 s₀:=s
 H₀:=H
 env:=envOfC qual scope s.heap.objs.size f cd
 outer:=outer
 stack:=envOfC qual scope s.heap.objs.size f cd::outer
 ex:=[]
 calm:=true
 fn:=λ_=>true
 pn:=[]
 xe:=λe s'=>wpAny (model P w) (A.deeper (envOfC qual scope s.heap.objs.size f cd)) (leaving (envOfC qual scope s.heap.objs.size f cd) e) (λ_ a=>CX outer H s E e a) (λb a=>CX outer H s E b a) s'
def RG {sc:Scope}{n:Nat}{x:Str}(h:sc.names.lookup x=some .cell):∃c,(cellsFrom n sc.names []).lookup x=some c:=by
 have q:=qa sc.names n [] (.inl h);exact xt_.mp q
def Ug {K:α3}
  (S:FnScope N ps scope) (B:A.handled=none) (d:Env0 P w K mg base A outer s H) (D:vs.length=ps.length) (r:Vals vs us)
  (x:InCallC s s.heap.objs.size (bindL (envOfC qual scope s.heap.objs.size f cd).kindOf (ps.zip us) λ_=>none) (cellsFrom (s.heap.objs.size+1) scope.names []) (bindC (envOfC qual scope s.heap.objs.size f cd).kindOf (ps.zip us) λ_=>none) s1):
  Inv (cxOf CX P w K mg base N qual scope f cd A outer s H E) [] (start N vs) H s1:=by
 have F:ps.length<=N.length:=by have:=qx_ pJ S.pre;rw[jC_]at this;lia
 obtain⟨h1,G,rfl,m⟩:=x.done;have l:∀b:Addr,b∉(cxOf CX P w K mg base N qual scope f cd A outer s H E).ex:=λb z=>absurd (show b∈([]:List Addr) from z) (by simp);exists #[d.mod,S.kind,rfl,rfl,jf_ _,λy z c h1 h2=>?_,λy g=>?_,λy c _ h=>?_,λ_=>B,Around.frames_deeper d.frames,.inr #[rfl,rfl],λb z=>absurd z (l b),d.bs,d.bsz,λb _ _=>l b,λb z=>absurd z (l b),d.funs,d.frf],
  rfl,d.bare,Un.kept m,#[_,x.toInCall.ns,λi y v h1 h2 I=>?_],λy c h=>#[_,x.cell y c h],d.hok.fresh (jf_ _),λy c h=>?_,λp j=>absurd (show p∈([]:α7) from j) (by simp),d.hok.kept m
 ·exact name_of_addr x.apart (qF_ h1) (qF_ h2)
 ·have g:scope.names.lookup y=some .cell\/scope.names.lookup y=some .free:=g;rcases g with g|g
  ·exact RG g
  ·exact absurd rfl (S.nofree _ (qF_ g))
 ·exact zC_ (x.above y c (qF_ h))
 ·have hi:i<vs.length:=by
   unfold start at h2;by_cases hi:i<vs.length
   ·exact hi
   ·rw[ju_ (by simpa using hi)]at h2;rw[List.getElem?_replicate]at h2;split at h2<;>cases h2
  have C:vs[i]?=some v:=by
   unfold start at h2;rw[ji_ (by simpa using hi),jh_]at h2;cases e:vs[i]? with
   |none=>rw[e]at h2;cases h2
   |some a=>rw[e]at h2;cases h2;rfl
  obtain⟨u,o,rv⟩:=r.get C;have j:ps[i]?=some y:=by
   rw[<-S.pre,List.getElem?_take_of_lt s!""];exact h1
  have t:ps.Nodup:=by rw[<-S.pre];exact S.nd.sublist (rk _ _)
  exists u,rv;rcases S.par y (je_ j) with k|k
  ·exact .inl #[k,PH t j o k]
  ·obtain⟨c,e⟩:=RG (n:=s.heap.objs.size+1) k;refine .inr #[.inl k,c,e,?_];have q:=x.cell y c e;rw[PJ t j o (by show scope.names.lookup y≠_;rw[k];decide)]at q;exact q
 ·exact d.hok.fresh (zC_ (x.above y c (qF_ h)))
 ·unfold start;show _=N.length;rw[jk_,ja_,List.length_replicate];lia
def At_ {K:α3} {i j l m a p G:Value}
       (L:K.lookup f=some #[G,od,.func (fnOf name qual params body scope i j l m an a p),gE]) (M:qI K a qual=true) (S:FnScope N ps scope)
    (z:∀vs H Q E,sp vs H Q E->vs.length=ps.length)
    (O:∀(A:Around) (outer:List Env) (s:Shared) (H:Hp) (vs:List V) (Q:VK) (E:XK),Room k (A.deeper (envOfC qual scope s.heap.objs.size f a))->sp vs H Q E ->
      ∃t,PSs (cxOf CX P w K mg base N qual scope f a A outer s H E) body t/\t {nx:=λ_ H'=>Q .non H',rt:=Q} (start N vs) H):
    FnOk P w K mg base CX (k+1) f (fnOf name qual params body scope i j l m an a p) ps sp:=by
  refine#[z,λA outer s H ac us vs Q E h d R r B=>?_];have T:=z _ _ _ _ B;have C:K.In s.heap:=d.mod.kin.keeps λb o e=>(d.bs b o e).1;have U:s.heap.NoLimit:=d.mod.nolimit.keeps λb o e=>(d.bs b o e).1;have W:∀y∈ps.zip us,scope.names.lookup y.1=some .local\/(scope.names.lookup y.1=some .cell/\((cellsFrom (s.heap.objs.size+1) scope.names []).lookup y.1).isSome=true):=λ⟨n,v⟩ X=>by
    rcases S.par n (qq X).1 with q|q
    . exact .inl q
    . exact .inr #[q,qa _ _ _ (.inl q)]
  refine codeAny_call_function h.depth (C _ _ L) rfl S.co S.gen rfl (uk C M) (R _ _ _ _ ?_);refine wpAny_newFunctionEnv_cells S.kind W λad Y D x=>?_;subst Y;refine#[U.keeps x.toInCall.keep,codeAny_func ?_];obtain⟨t,Z,aa⟩:=O A outer s H vs Q E (h.deeper _) B;have I:Inv (cxOf CX P w K mg base N qual scope f a A outer s H E) [] (start N vs) H D:=Ug S h.hd d T r x;refine xF_ (Z [] D (start N vs) H _ I aa) (λab s' c=>?_) λe s' c=>c;have F:∀{g:St} {H':Hp} {v:V} {u:Value},Inv (cxOf CX P w K mg base N qual scope f a A outer s H E) [] g H' s'->RelV v u->Q v H'->CE outer P w H s Q u s' :=
    λ{g H' v u} J rv q=>#[v,H',J.os,J.bare,J.base,J.hok,rv,q]
  cases ab with
  |ret u=>
    obtain⟨v,g,H',J,rv,q⟩:=c;exact F J rv q
  |next=>
    obtain⟨g,H',J,q⟩:=c;exact F (v:=V.non) (u:=Value.none) J rfl q
  |brk=>
    obtain⟨_,_,_,q⟩:=c;exact oW q
  |cont=>
    obtain⟨_,_,_,q⟩:=c;exact oW q
end L2
namespace L2
open PySem PySem.Spec PyProof.Rows
section
variable {X:Cx} {x:Str} {p pos:Pos} {e:Expr} {es:List Expr} {t:TA} {id T:String} {r:List V->Hp->VK->Prop}
noncomputable def tCB (r:List V->Hp->VK->Prop)(t:TA):TE:=λ σ H Q=>t σ H λa H1=>r a H1 Q
def Av (hc:DU X (.builtin id) r)(a:Gl X x)(hm:X.mg x=none)(b:bootBuiltins x=some (.builtin id))(c:PA X (e::es) t)(d:x ≠ "__name__" := by decide)(f:(x==("__debug__" : Str))=false:=by decide)
  (g:starEach (e::es) X.env=(false,eval e X.env)::starEach es X.env:=by rfl) (i:(backTo pos (starEach es X.env)).any (·.1)=false:=by rfl):PE X (.Call (.Name x p) (e::es) [] pos) (tCB r t):=by
 intro ae s σ H Q I h;refine xK_ (L9 I a hm b ?_ d f);exact rG (thn (c pos ae s σ H _ I h) λus j ⟨k,H1,l,m,n⟩=>hc ae j σ H1 k us Q l m n) g i
def AA (hc:DU X (.type T) r)(a:Gl X x)(hm:X.mg x=none)(b:bootBuiltins x=some (.type T))(c:PA X (e::es) t)(d:x ≠ "__name__" := by decide)(f:(x==("__debug__" : Str))=false:=by decide)
  (g:starEach (e::es) X.env=(false,eval e X.env)::starEach es X.env:=by rfl) (i:(backTo pos (starEach es X.env)).any (·.1)=false:=by rfl):PE X (.Call (.Name x p) (e::es) [] pos) (tCB r t):=by
 intro ae s σ H Q I h;refine xK_ (L9 I a hm b ?_ d f);exact qP_ (thn (c pos ae s σ H _ I h) λus j ⟨k,H1,l,m,n⟩=>hc ae j σ H1 k us Q l m n) g i
end
end L2
namespace HT
open PySem PyProof.Rows
section
variable {prog:Program} {w:World} {A:Around} {E:Value->Shared->Prop} {s:Shared}
def cat_tup (p:IsTup s.heap t vs.toArray)(q:IsTup s.heap b ws.toArray)(d:vs ≠ [])
  (h1:ws=[]->Q (.ref t) s) (h2:ws ≠ []->Q (.ref s.heap.objs.size) {s with heap:=s.heap.push {cls:=.type "tuple",data:=.seq (vs++ws).toArray} })
  (hsz:vs.length+ws.length<=sizeLine):wpAny (model prog w) A (binaryOp .Add (.ref t) (.ref b)) Q E s:=by
 obtain⟨⟨cls,f,data,g⟩,a,h,n,i⟩:=id p;obtain⟨⟨r,j,u,k⟩,c,l,m,o⟩:=id q;simp only at h i l o;subst h i l o;have e:vs.toArray++ws.toArray=(vs++ws).toArray:=by simp
 by_cases hw:ws=[]
 ·exact concat_meets #[_,a,rfl] #[_,c,rfl] noFill_tuple_add seq_tuple_add zo_ zl_ (zc_ _ _)
   (tuple_addW1 t b vs.toArray ws.toArray n m f j g k (by simpa using d) (by simp[hw])) #[a,c,h1 hw]
 ·refine concat_meets #[_,a,rfl] #[_,c,rfl] noFill_tuple_add seq_tuple_add zo_ zl_ (zc_ _ _)
   (tuple_addW2 t b vs.toArray ws.toArray n m f j g k (by simpa using d) (by simpa using hw) (by rw[jm_,jm_];exact hsz)) #[a,c,?_]
  rw[e];exact h2 hw
noncomputable def sIx (n d:Nat):Option Int->Nat
 |none=>d
 |some v=>if v<0 then (v+(n:Int)).toNat else min v.toNat n
def sIx_none (n d:Nat):sIx n d none=d:=rfl
def sIx_nat (n d k:Nat):sIx n d (some (k:Int))=min k n:=by
 show (if (k:Int)<0 then ((k:Int)+(n:Int)).toNat else min (k:Int).toNat n)=min k n;rw[if_neg s!"",jA_]
def Au_ (n d:Nat)(b:d<=n)(o:Option Int):sIx n d o<=n:=by
 cases o with
 |none=>exact b
 |some v=>
  show (if v<0 then (v+(n:Int)).toNat else min v.toNat n)<=n;by_cases a:v<0
  ·rw[if_pos a];lia
  ·rw[if_neg a];exact Nat.min_le_right _ _
def Uh (v:Int)(n d:Nat):(if v<0 then max (v+(n:Int)) 0 else min v (n:Int))=((sIx n d (some v):Nat):Int):=by
 show (if v<0 then max (v+(n:Int)) 0 else min v (n:Int))=(((if v<0 then (v+(n:Int)).toNat else min v.toNat n):Nat):Int);by_cases a:v<0
 ·simp only[if_pos a];lia
 ·simp only[if_neg a];lia
def SH (lo hi:Option Int)(n:Nat):Builtin.Slice.sliceAdjust lo hi 1 (n:Int)=(((sIx n 0 lo:Nat):Int),((sIx n n hi:Nat):Int)):=by
 have h1:¬ ((1:Int)<0):=by lia
 unfold Builtin.Slice.sliceAdjust;simp only[h1,qM_];refine Prod.ext ?_ ?_
 ·cases lo with
  |none=>rfl
  |some v=>exact Uh v n 0
 ·cases hi with
  |none=>rfl
  |some v=>exact Uh v n n
def SI (i j:Nat):Builtin.Slice.slicePlaces (i:Int) (j:Int) 1=j-i:=by
 unfold Builtin.Slice.slicePlaces;have h1:(1:Int) > 0:=by lia
 simp only[h1,x1_,Int.ediv_one];split<;>lia
def NG (p:IsPart v o)(h:Q o s):wpAny (model prog w) A (Builtin.Slice.slicePartIndex v) Q E s:=by
 cases p with
 |none=>exact slicePart_none h
 |int i t=>exact slicePart_int h
def Gk {e:Addr}{a b:Value}{lo hi:Option Int}{n:Nat}{Q:Int×Int×Nat->Shared->Prop}(hs:s.heap.IsSliceOf e a b .none)(pl:IsPart a lo)(f:IsPart b hi)
  (h:Q (((sIx n 0 lo:Nat):Int),1,sIx n n hi-sIx n 0 lo) s):wpAny (model prog w) A (Builtin.Slice.sliceApplied (.ref e) (pure (n:Int))) Q E s:=by
 obtain⟨g,c,i,d⟩:=id hs;unfold Builtin.Slice.sliceApplied Builtin.Slice.sliceFields;refine jc_ (jc_ (wpAny_field c d (x:=a) rfl (jc_ (wpAny_field c d (x:=b) rfl (jc_ (wpAny_field c d (x:=.none) rfl (jl_ ?_)))))));refine jc_ (slicePart_none ?_);show wpAny _ _ (if ((1:Int)==0)=true then _ else _) _ _ s;rw[if_neg (by decide)];refine jc_ (NG pl (jc_ (NG f (jc_ (jl_ ?_)))));show wpAny _ _ (match Builtin.Slice.sliceAdjust lo hi 1 (n:Int) with|(lo,hi)=>pure (lo,(1:Int),Builtin.Slice.slicePlaces lo hi 1)) _ _ s;rw[SH lo hi n];show wpAny _ _ (pure (((sIx n 0 lo:Nat):Int),(1:Int),Builtin.Slice.slicePlaces ((sIx n 0 lo:Nat):Int) ((sIx n n hi:Nat):Int) 1)) _ _ s;rw[SI];exact jl_ h
def Wl (xs:Array Value)(i k:Nat):((oN k).filterMap λ(m:Nat)=>xs[((i:Int)+(m:Int)*1).toNat]?).toArray=((xs.toList.drop i).take k).toArray:=by
 have e:(λ(m:Nat)=>xs[((i:Int)+(m:Int)*1).toNat]?)=λm=>xs[i+m]?:=by
  funext m
  have:((i:Int)+(m:Int)*1).toNat=i+m:=by lia
  rw[this]
 rw[e];have:=pick_run xs i k;rw[List.filterMap_map]at this;have a:((λx=>xs[x]?) ∘ λx=>i+x)=λm=>xs[i+m]?:=rfl;rw[a]at this;rw[this]
def getItem_tuple_cut {t b:Addr} {lo hi:Option Int} (a:IsTup s.heap t items)(hs:s.heap.IsSliceOf b vl vu .none)(pl:IsPart vl lo)(c:IsPart vu hi)
  (hw:¬ (sIx items.size 0 lo=0/\sIx items.size items.size hi=items.size))
  (h:Q (.ref s.heap.objs.size) {s with heap:=s.heap.push {cls:=.type "tuple",data:=.seq ((items.toList.drop (sIx items.size 0 lo)).take (sIx items.size items.size hi-sIx items.size 0 lo)).toArray} })
  (hsz:items.size<=sizeLine):wpAny (model prog w) A (getItem (.ref t) (.ref b)) Q E s:=by
 have c7:sizeOk (.seq ((items.toList.drop (sIx items.size 0 lo)).take (sIx items.size items.size hi-sIx items.size 0 lo)).toArray):=by
  show ((items.toList.drop (sIx items.size 0 lo)).take (sIx items.size items.size hi-sIx items.size 0 lo)).toArray.size<=sizeLine;rw[jm_,jC_,xl_,jL_];lia
 have j:sIx items.size items.size hi<=items.size:=Au_ _ _ (jf_ _) hi;obtain⟨d,e,f,k⟩:=id hs;have g:s.TypeIs (.ref b) "slice" := #[d,e,f];unfold getItem
 try with_reducible refine qq_ ?_
 first|refine jc_ (jl_ ?_)|skip
 refine jc_ (wpAny_sequenceKey a.typeIs (by decide) ?_);refine jc_ (qy_ (name:=Str.ofString "__getitem__") a.typeIs qa_
  (qE_ qa_ a.typeIs entry_tuple_getitem ?_ (args_tuple_getitem _ _)))
 show wpAny _ _ (Builtin.Tuple.tupleItemsOf (.ref t) >>= _) _ _ s;refine jc_ (tupleItemsOf_ a ?_);refine jc_ (zd_ g ?_);rw[if_pos (by decide)];refine jc_ (Gk hs pl c ?_);have i:¬ ((((sIx items.size 0 lo:Nat):Int)==0&&(1:Int)==1&&(sIx items.size items.size hi-sIx items.size 0 lo)==items.size)=true):=by
  intro q;rw[qi_,qi_]at q;have l:((sIx items.size 0 lo:Nat):Int)=0:=eq_of_beq q.1.1;have n:sIx items.size items.size hi-sIx items.size 0 lo=items.size:=eq_of_beq q.2;exact hw #[by lia,by lia]
 show wpAny _ _ (if (((sIx items.size 0 lo:Nat):Int)==0&&(1:Int)==1&&(sIx items.size items.size hi-sIx items.size 0 lo)==items.size)=true then _ else _) _ _ s;rw[if_neg i,Wl]
 first
  | exact jc_ (m:=Builtin.Tuple.tupleExact _) (qG_ (jl_ ⟨_,rfl,jl_ h⟩) c7)
  | exact jc_ (m:=Builtin.Tuple.tupleExact _) (qG_ (jc_ (jl_ (jl_ ⟨_,rfl,jl_ h⟩))) c7)
  | exact jc_ (jc_ (m:=Builtin.Tuple.tupleExact _) (qG_ (jl_ (jl_ ⟨_,rfl,jl_ h⟩)) c7))
  | exact jc_ (jc_ (m:=Builtin.Tuple.tupleExact _) (qG_ (jl_ ⟨_,rfl,jl_ h⟩) c7))
end
end HT
namespace L2
open PySem PySem.Spec PyProof.Rows
abbrev TO:=St->Hp->(Option Int->Hp->Prop)->Prop
def PO (X:Cx)(e:Option Expr)(t:TO):Prop:=
 ∀(ae:α7) (s:Shared) (σ:St) (H:Hp) (Q:Option Int->Hp->Prop),Inv X ae σ H s->t σ H Q ->
  wpAny (model X.prog X.w) X.A (evalPart e X.env) (λu s'=>∃o H',Inv X ae σ H' s'/\IsPart u o/\Q o H') X.xe s
noncomputable def Ui:TO:=λ_ H Q=>Q none H
noncomputable def Av_ (t:TE):TO:=λ σ H Q=>t σ H λx H1=>∃i,x=.int i/\Q (some i) H1
section
variable {X:Cx} {e:Expr} {te:TE} {lo hi:Option Expr} {tl th:TO} {pos p2:Pos}
def EK:PO X none Ui:=by
 intro ae s σ H Q I h;rw[evalPart_none];exact jl_ #[none,H,I,.none,h]
def BR (h:PE X e te):PO X (some e) (Av_ te):=by
 intro ae s σ H Q I hw;rw[evalPart_some];refine thn (h ae s σ H _ I hw) λu d ⟨x,H1,a,b,c⟩=>?_;obtain⟨i,rfl,q⟩:=c;obtain⟨t,rfl⟩:=b;exact#[some i,H1,a,.int i t,q]
def SlR (X:Cx)(r:V->Option Int->Option Int->Hp->VK->Prop):Prop:=
 ∀(ae:α7) (s:Shared) (σ:St) (H:Hp) (x:V) (v a b:Value) (lo hi:Option Int) (c:Addr) (Q:VK),Inv X ae σ H s->RelV x v->s.heap.IsSliceOf c a b .none->IsPart a lo->IsPart b hi->r x lo hi H Q ->
  ∃T id,typeLookup (.type T) "__getitem__"=pure (some (.builtin id))/\s.TypeIs v T/\wpAny (model X.prog X.w) X.A (getItem v (.ref c)) (EP X ae σ Q) X.xe s
noncomputable def tSl (r:V->Option Int->Option Int->Hp->VK->Prop)(te:TE)(tl th:TO):TE:=λ σ H Q=>te σ H λx H1=>tl σ H1 λl H2=>th σ H2 λu a=>r x l u a Q
def BV (g:SlR X r)(i:PE X e te)(j:PO X lo tl)(k:PO X hi th):PE X (.Subscript e (.Slice lo hi none p2) pos) (tSl r te tl th):=by
 intro ae s σ H Q I h;refine Subscript_ (thn (i ae s σ H _ I h) λv m ⟨x,H1,n,o,p⟩=>?_);refine wpAny_Slice (thn (j ae m σ H1 _ n p) λc t ⟨l,H2,y,z,B⟩=>thn (k ae t σ H2 _ y B) λd a ⟨u,f,C,D,E⟩=>?_);rw[evalPart_none];refine jl_ ?_;have F:Inv X ae σ f {a with heap:=a.heap.push {cls:=.type "slice",data:=.fields (List.toArray [c,d,.none])} }:=C.kept (t':=a.toks) λb L q=>jj_ _ q;obtain⟨T,id,G,J,K⟩:=g ae {a with heap:=a.heap.push {cls:=.type "slice",data:=.fields (List.toArray [c,d,.none])} } σ f x v c d l u a.heap.objs.size Q F o (Heap.IsSliceOf.new ..) z D E;show wpAny (model X.prog X.w) X.A (subscriptTail e (.Slice lo hi none p2) v (.ref a.heap.objs.size)) (EP X ae σ Q) X.xe {a with heap:=a.heap.push {cls:=.type "slice",data:=.fields (List.toArray [c,d,.none])} };exact tail_any (ops:=[.ref a.heap.objs.size,v]) J G K (by with_unfolding_all rfl)
noncomputable def cutV (xs:List V)(lo hi:Option Int):List V:=(xs.drop (HT.sIx xs.length 0 lo)).take (HT.sIx xs.length xs.length hi-HT.sIx xs.length 0 lo)
def Je (xs:List V)(lo hi:Option Int):(cutV xs lo hi).length<=xs.length:=by
 unfold cutV;rw[jC_,xl_];lia
def rSlT (K:α3):V->Option Int->Option Int->Hp->VK->Prop:=λx lo hi H Q=>∃a xs,x=.ref a/\SqT K H a xs /\
 ¬ (HT.sIx xs.length 0 lo=0/\HT.sIx xs.length xs.length hi=xs.length)/\∀p,H p=none->Q (.ref p) (upd H p (.tup (cutV xs lo hi)))
def RH:SlR X (rSlT X.K):=by
 intro ae s σ H x v m n lo hi p Q I f g i j h;obtain⟨a,xs,rfl,k,hw,q⟩:=h;cases f;obtain⟨l,r,d,e⟩:=I.tuple k;have c:l.toArray.size=xs.length:=by rw[jm_];exact r.length.symm
 exists "tuple",_,qa_.lookup,d.typeIs;refine HT.getItem_tuple_cut d g i j (by rw[c];exact hw) ?_ (by rw[c];exact e);rw[c];refine#[.ref s.heap.objs.size,_,I.laid (t':=s.toks) (o:=.tup (cutV xs lo hi)) (λb t q=>jj_ _ q) (jf_ _) ?_,rfl,q _ (I.hok.fresh (jf_ _))];exact#[qo_ (Je xs lo hi) e,_,(r.drop (HT.sIx xs.length 0 lo)).take (HT.sIx xs.length xs.length hi-HT.sIx xs.length 0 lo),IsTup.new _ _]
noncomputable def Cl_ (K:α3):R2:=λx y H Q=>∃a b xs ys,x=.ref a/\y=.ref b/\SqT K H a xs/\SqT K H b ys/\xs ≠ []/\xs.length+ys.length<=sizeLine /\
 (ys=[]->Q (.ref a) H)/\(ys ≠ []->∀p,H p=none->Q (.ref p) (upd H p (.tup (xs++ys))))
def Vals.nil_iff (r:Vals xs us):us=[]↔xs=[]:=by
 cases r with
 |nil=>simp
 |cons _ _=>simp
def Y0:OpR X (binaryOp .Add) (Cl_ X.K):=by
 intro ae s σ H x y v u Q I f g h;obtain⟨a,b,xs,ys,rfl,rfl,i,j,k,e,l,m⟩:=h;cases f;cases g;obtain⟨p,d,n,_⟩:=I.tuple i;obtain⟨r,c,p2,_⟩:=I.tuple j;refine HT.cat_tup n p2 (λz=>k (d.nil_iff.mp z)) (λz=>#[.ref a,H,I,rfl,l (c.nil_iff.mp z)]) (λz=>?_) (by rw[<-d.length,<-c.length];exact e);refine#[.ref s.heap.objs.size,_,I.laid (t':=s.toks) (o:=.tup (xs++ys)) (λb t q=>jj_ _ q) (jf_ _) ?_,rfl,m (λw=>z (c.nil_iff.mpr w)) _ (I.hok.fresh (jf_ _))];exact#[by rw[jk_];exact e,_,d.append c,IsTup.new _ _]
end
end L2
namespace L2
open PySem PySem.Spec PyProof.Rows
noncomputable def ixN (n:Nat)(i:Int):Option Nat:=if 0<=i then (if i<n then some i.toNat else none) else if -(n:Int)<=i then some (i+n).toNat else none
noncomputable def atI {α:Type}(xs:List α)(i:Int):Option α:=(ixN xs.length i).bind λj=>xs[j]?
def Y1 (h:ixN n i=some j):seqIndex? i n=some j/\j<n /\ -(n:Int)<=i/\i<n:=by
 unfold ixN at h;by_cases a:0<=i
 ·rw[if_pos a]at h;by_cases h1:i<n
  ·rw[if_pos h1]at h;have e:i.toNat=j:=jD_ h;exact#[by rw[seqIndex_of a h1,e],by lia,by lia,h1]
  ·rw[if_neg h1]at h;cases h
 ·rw[if_neg a]at h;by_cases h1 : -(n:Int)<=i
  ·rw[if_pos h1]at h;have e:(i+n).toNat=j:=jD_ h;exact#[by rw[seqIndex_neg s!"" h1,e],by lia,h1,by lia]
  ·rw[if_neg h1]at h;cases h
def QK (h:atI xs i=some v):∃j,seqIndex? i xs.length=some j/\xs[j]?=some v/\j<xs.length /\ -(xs.length:Int)<=i/\i<xs.length:=by
 unfold atI at h;cases e:ixN xs.length i with
 |none=>rw[e]at h;cases h
 |some j=>
  rw[e]at h;obtain⟨h1,h2,a,b⟩:=Y1 e;exact#[j,h1,h,h2,a,b]
def GD {α:Type}{xs:List α}{j:Nat}{v:α}(h:xs[j]?=some v):atI xs (j:Int)=some v:=by
 have a:j<xs.length:=(jb_.mp h).1;have e:ixN xs.length (j:Int)=some j:=by
  unfold ixN;rw[if_pos s!"",if_pos s!""];simp
 unfold atI;rw[e];exact h
def Uj (b:Expr):Prop:=∀o i,subscripted b false o i=operate [o,i] (getItem o i)
def IxR (X:Cx)(r:R2):Prop:=
 ∀(value a:Expr) (ae:α7) (s:Shared) (σ:St) (H:Hp) (x y:V) (v u:Value) (Q:VK),Inv X ae σ H s->RelV x v->RelV y u->r x y H Q ->
  subscripted a false v u=operate [v,u] (getItem v u)->wpAny (model X.prog X.w) X.A (subscriptTail value a v u) (EP X ae σ Q) X.xe s
def MtR (X:Cx)(id:String)(r:V->List V->Hp->VK->Prop):Prop:=
 ∀(ae:α7) (s:Shared) (σ:St) (H:Hp) (x:V) (xs:List V) (v:Value) (us:List Value) (Q:VK),Inv X ae σ H s->RelV x v->Vals xs us->r x xs H Q ->
  wpAny (model X.prog X.w) X.A (call (.builtin id) (v::us)) (EP X ae σ Q) X.xe s
section
variable {X:Cx} {a b:Expr} {ta tb:TE} {pos:Pos}
def Y2 (c:IxR X r)(d:PE X a ta)(e:PE X b tb)(hs:Uj b):PE X (.Subscript a b pos) (tOp r ta tb):=by
 intro ae s σ H Q I h;exact Subscript_ (binT d e I h λv u f x y H2 g i j q=>c a b ae f σ H2 x y v u Q g i j q (hs _ _))
noncomputable def rIxL (K:α3):R2:=λx y H Q=>∃p xs i v,x=.ref p/\y=.int i/\SqL K H p xs/\atI xs i=some v/\Q v H
noncomputable def rIxT (K:α3):R2:=λx y H Q=>∃p xs i v,x=.ref p/\y=.int i/\SqT K H p xs/\atI xs i=some v/\Q v H
noncomputable def rIxS:R2:=λx y H Q=>∃z i c,x=.str z/\y=.int i/\z.length<=sizeLine/\atI z.cps.toList i=some c/\Q (.str #[(List.toArray [c])]) H
def Bo:IxR X (rIxL X.K):=by
 intro value D ae s σ H x y v u Q I g k h c;obtain⟨p,xs,i,z,rfl,rfl,l,m,q⟩:=h;cases g;obtain⟨t,rfl⟩:=k;obtain⟨n,r,a,E⟩:=I.list l;obtain⟨j,h1,h2,F,o,A⟩:=QK m;obtain⟨w,d,B⟩:=r.get h2;have C:=r.length;have G:=NC;have e:EP X ae σ Q w s:=#[z,H,I,B,q];by_cases f:0<=i
 ·have b:i.toNat=j:=by
   rw[seqIndex_of f A]at h1;exact jD_ h1
  exact item_listR a.isList f s!"" (by rw[b];simpa using d) e c
 ·have b:(i+(n.toArray.size:Int)).toNat=j:=by
   rw[seqIndex_neg s!"" o]at h1;rw[jm_,<-C];exact jD_ h1
  exact subscriptTail_builtinR (x:=w) a.isList.typeIs slot_list_getitem.lookup
   (wpAny_getItem_list_neg (Q:=λr s'=>r=w/\EP X ae σ Q r s') a.isList s!"" (by rw[jm_]<;>lia) s!"" (by rw[b];simpa using d) #[rfl,e]) c
def Ap:IxR X (rIxT X.K):=by
 intro value n ae s σ H x y v u Q I b c h d;obtain⟨p,xs,i,z,rfl,rfl,e,f,q⟩:=h;cases b;obtain⟨t,rfl⟩:=c;obtain⟨o,r,a,A⟩:=I.tuple e;obtain⟨j,h1,h2,B,C,D⟩:=QK f;obtain⟨w,g,k⟩:=r.get h2;have l:=r.length;have E:=NC;have m:EP X ae σ Q w s:=#[z,H,I,k,q];exact subscriptTail_builtinR (x:=w) a.typeIs slot_tuple_getitem.lookup
  (getItem_tuple (j:=j) (Q:=λr s'=>r=w/\EP X ae σ Q r s') a s!"" s!"" (by rw[jm_,<-l];exact h1) (by simpa using g) #[rfl,m]) d
def XH:IxR X rIxS:=by
 intro value n ae s σ H x y v u Q I a b h d;obtain⟨z,i,c,rfl,rfl,o,e,q⟩:=h;obtain⟨t,rfl⟩:=a;obtain⟨p,rfl⟩:=b;obtain⟨j,h1,h2,r,f,g⟩:=QK e;have k:z.cps.toList.length=z.length:=by simp[Str.length]
 rw[k]at h1 f g;have w:=NC;exact tail_any (z5_ s z t) slot_str_getitem.lookup (getItem_str (c:=c) (by
  have l:decide (i < -(2 ^ 63:Int))=false:=jQ_ s!"";have m:decide (i >= 2 ^ 63)=false:=jQ_ s!"";rw[l,m,tj]) (by rw[h1];simpa using h2) #[.str #[(List.toArray [c])],H,I.tok _,#[_,rfl],q]) d
def PL (lo hi:Option Int)(n:Nat):(sliceBounds lo hi none n).1=((HT.sIx n 0 lo:Nat):Int)/\(sliceBounds lo hi none n).2.1=((HT.sIx n n hi:Nat):Int)/\(sliceBounds lo hi none n).2.2=1:=by
 refine#[?_,?_,rfl]
 ·cases lo with
  |none=>simp[sliceBounds,HT.sIx]
  |some i=>
   simp only[sliceBounds,HT.sIx,pR,show (1:Int) > 0 by decide,x1_];by_cases h:i<0
   ·simp only[h,x1_]<;>lia
   ·simp only[h,qM_]<;>lia
 ·cases hi with
  |none=>simp[sliceBounds,HT.sIx]
  |some i=>
   simp only[sliceBounds,HT.sIx,pR,show (1:Int) > 0 by decide,x1_];by_cases h:i<0
   ·simp only[h,x1_]<;>lia
   ·simp only[h,qM_]<;>lia
def Of (its:List Value)(lo hi:Option Int):slicePick its.toArray lo hi none=((its.drop (HT.sIx its.length 0 lo)).take (HT.sIx its.length its.length hi-HT.sIx its.length 0 lo)).toArray:=by
 obtain⟨h1,h2,a⟩:=PL lo hi its.toArray.size;unfold slicePick;rw[h1,h2,a];simp only[sliceRange_one,pick_run,jm_]<;>rfl
def rSlL (K:α3):V->Option Int->Option Int->Hp->VK->Prop:=λx lo hi H Q=>∃a xs,x=.ref a/\SqL K H a xs/\∀p,H p=none->Q (.ref p) (upd H p (.lst (cutV xs lo hi)))
def Jf:SlR X (rSlL X.K):=by
 intro ae s σ H x v l m lo hi n Q I d e f g h;obtain⟨a,xs,rfl,i,q⟩:=h;cases d;obtain⟨p,r,c,j⟩:=I.list i;have k:=r.length;exists "list",_,slot_list_getitem.lookup,c.isList.typeIs;refine wpAny_getItem_list_slice c.isList e f g .none (by simp) ?_ (by rw[jm_]<;>lia);rw[Of,<-k];refine#[.ref s.heap.objs.size,_,I.laid (t':=s.toks) (o:=.lst (cutV xs lo hi)) (λb t q=>jj_ _ q) (jf_ _) ?_,rfl,q _ (I.hok.fresh (jf_ _))];exact#[qo_ (Je xs lo hi) j,_,0,(r.drop (HT.sIx xs.length 0 lo)).take (HT.sIx xs.length xs.length hi-HT.sIx xs.length 0 lo),js_ _ rfl]
noncomputable def EB:V->Bool
 |.non=>true
 |.bl _=>true
 |.int _=>true
 |.str _=>true
 |_=>false
noncomputable def eqV:V->V->Bool
 |.non,.non=>true
 |.bl a,.bl b=>a==b
 |.bl a,.int b=>(if a then 1 else 0)==b
 |.int a,.bl b=>a==(if b then 1 else 0)
 |.int a,.int b=>a==b
 |.str a,.str b=>a==b
 |_,_=>false
def Uk (e:RelV y u)(c:RelV x v)(g:EB y=true)(f:EB x=true):SeqAt.EqAt A s u v (eqV y x):=by
 cases y with
 |non=>
  cases e;cases x with
  |non=>cases c;exact SeqAt.EqAt.same _
  |bl b=>cases c;exact SeqAt.EqAt.none_bool b
  |int b=>obtain⟨t,rfl⟩:=c;exact SeqAt.EqAt.none_int b t
  |str b=>obtain⟨t,rfl⟩:=c;exact SeqAt.EqAt.none_str b t
  |_=>exact absurd (show false=true from f) jy_
 |bl a=>
  cases e;cases x with
  |non=>cases c;exact SeqAt.EqAt.bool_none a
  |bl b=>cases c;exact SeqAt.EqAt.bool_bool a b
  |int b=>obtain⟨t,rfl⟩:=c;exact SeqAt.EqAt.bool_int a b t
  |str b=>obtain⟨t,rfl⟩:=c;exact SeqAt.EqAt.bool_str a b t
  |_=>exact absurd (show false=true from f) jy_
 |int a=>
  obtain⟨d,rfl⟩:=e;cases x with
  |non=>cases c;exact SeqAt.EqAt.int_none a d
  |bl b=>cases c;exact SeqAt.EqAt.int_bool a d b
  |int b=>obtain⟨t,rfl⟩:=c;exact SeqAt.EqAt.int_int a d b t
  |str b=>obtain⟨t,rfl⟩:=c;exact SeqAt.EqAt.int_str a d b t
  |_=>exact absurd (show false=true from f) jy_
 |str a=>
  obtain⟨d,rfl⟩:=e;cases x with
  |non=>cases c;exact SeqAt.EqAt.str_none a d
  |bl b=>cases c;exact SeqAt.EqAt.str_bool a d b
  |int b=>obtain⟨t,rfl⟩:=c;exact SeqAt.EqAt.str_int a d b t
  |str b=>obtain⟨t,rfl⟩:=c;exact SeqAt.EqAt.str_str a d b t
  |_=>exact absurd (show false=true from f) jy_
 |_=>exact absurd (show false=true from g) jy_
noncomputable def eqU (x:V)(u:Value):Bool:=match u with
 |.none=>eqV .non x
 |.bool b=>eqV (.bl b) x
 |.int i _=>eqV (.int i) x
 |.str z _=>eqV (.str z) x
 |_=>false
def XI (r:RelV y u)(f:EB y=true):eqU x u=eqV y x:=by
 cases y with
 |non=>cases r;rfl
 |bl b=>cases r;rfl
 |int i=>obtain⟨t,rfl⟩:=r;rfl
 |str z=>obtain⟨t,rfl⟩:=r;rfl
 |_=>exact absurd (show false=true from f) jy_
def KI {x:V}:∀{xs:List V} {us:List Value},Vals xs us->xs.all EB=true->us.any (eqU x)=xs.any λy=>eqV y x
 |_,_,.nil,_=>rfl
 |y::xs,u::us,.cons r t,f=>by
  rw[tq,qi_]at f;rw[zP_,zP_,XI r f.1,KI t f.2]
def HZ {A:Around}{s:Shared}{x:V}{v:Value}(b:RelV x v)(c:EB x=true):∀{xs:List V} {us:List Value},Vals xs us->xs.all EB=true->∀u∈us,SeqAt.EqAt A s u v (eqU x u)
 |_,_,.nil,_=>λu a=>by cases a
 |y::xs,u::us,.cons r t,f=>λd a=>by
  rw[tq,qi_]at f;rcases jw_.mp a with rfl|a
  ·rw[XI r f.1];exact Uk r b f.1 c
  ·exact HZ b c t f.2 d a
noncomputable def inV (x:V)(xs:List V):Bool:=xs.any λy=>eqV y x
noncomputable def rIn (K:α3)(a:Bool):R2:=λx y H Q=>∃p xs,y=.ref p/\(SqL K H p xs\/SqT K H p xs)/\EB x=true/\xs.all EB=true/\Q (.bl (if a then !inV x xs else inV x xs)) H
def Ul:OpR X (compareOp .In) (rIn X.K false):=by
 intro ae s σ H x y v u Q I d f h;obtain⟨p,xs,rfl,a,e,fs,q⟩:=h;cases f;rcases a with a|a
 ·obtain⟨b,r,c,g⟩:=I.list a;refine SeqAt.in_listAt (eqU x) c.isList (λw hw=>HZ d e r fs w (by simpa using hw)) #[.bl _,H,I,rfl,?_];rw[show b.toArray.any (eqU x)=b.any (eqU x) by simp,KI r fs];exact q
 ·obtain⟨b,r,c,g⟩:=I.tuple a;refine SeqAt.in_tupleAt (eqU x) c (λw hw=>HZ d e r fs w (by simpa using hw)) #[.bl _,H,I,rfl,?_];rw[show b.toArray.any (eqU x)=b.any (eqU x) by simp,KI r fs];exact q
def Lj:OpR X (compareOp .NotIn) (rIn X.K true):=by
 intro ae s σ H x y v u Q I d f h;obtain⟨p,xs,rfl,a,e,fs,q⟩:=h;cases f;rcases a with a|a
 ·obtain⟨b,r,c,g⟩:=I.list a;refine SeqAt.notIn_listAt (eqU x) c.isList (λw hw=>HZ d e r fs w (by simpa using hw)) #[.bl _,H,I,rfl,?_];rw[show b.toArray.any (eqU x)=b.any (eqU x) by simp,KI r fs];exact q
 ·obtain⟨b,r,c,g⟩:=I.tuple a;refine SeqAt.notIn_tupleAt (eqU x) c (λw hw=>HZ d e r fs w (by simpa using hw)) #[.bl _,H,I,rfl,?_];rw[show b.toArray.any (eqU x)=b.any (eqU x) by simp,KI r fs];exact q
def Aq:DU X (.builtin "len") (λxs H Q=>∃p ys,xs=[.ref p]/\(SqL X.K H p ys\/SqT X.K H p ys)/\Q (.int ys.length) H):=by
 intro ae s σ H xs us Q I r h;obtain⟨p,ys,rfl,a,q⟩:=h;obtain⟨u,rfl,d⟩:=vals1 r;cases d;have g:=NC;rcases a with a|a
 ·obtain⟨e,r',b,f⟩:=I.list a;have c:=r'.length;exact Calls.call_len_list b.isList (by simp only[jm_]<;>lia) #[.int ys.length,H,I.tok _,#[s.toks+1,by rw[jm_,c]],q]
 ·obtain⟨e,r',b,f⟩:=I.tuple a;have c:=r'.length;exact len_tuple b (by simp only[jm_]<;>lia) #[.int ys.length,H,I.tok _,#[s.toks+1,by rw[jm_,c]],q]
def PM:DU X (.builtin "len") (λxs H Q=>∃z,xs=[.str z]/\z.length<=sizeLine/\Q (.int z.length) H):=by
 intro ae s σ H xs us Q I r h;obtain⟨z,rfl,a,q⟩:=h;obtain⟨u,rfl,t,rfl⟩:=vals1 r;have b:=NC;exact len_str s!"" #[.int z.length,H,I.tok _,#[_,rfl],q]
def GF:DU X (.type "list") (λxs H Q=>∃p ys,xs=[.ref p]/\(SqL X.K H p ys\/SqT X.K H p ys)/\∀l,H l=none->Q (.ref l) (upd H l (.lst ys))):=by
 intro ae s σ H xs us Q I r h;obtain⟨p,ys,rfl,d,q⟩:=h;obtain⟨u,rfl,v⟩:=vals1 r;cases v;have t:∀(a:List Value),Vals ys a->ys.length<=sizeLine->∀(h':Heap) (c:Nat),(∀b o',s.heap.get? b=some o'->h'.get? b=some o') ->
   h'.get? s.heap.objs.size=some {cls:=.type "list",dict:=none,data:=.seq a.toArray c,slots := (List.toArray [])}->EP X ae σ Q (.ref s.heap.objs.size) {s with heap:=h' }:=λa r' f h' c g e=>
  #[.ref s.heap.objs.size,_,I.laid (t':=s.toks) g (jf_ _) (show Bm X.prog X.w _ h' _ (.lst ys) from #[f,a,c,r',e]),rfl,q _ (I.hok.fresh (jf_ _))]
 rcases d with d|d
 ·obtain⟨a,r',i,f⟩:=I.list d;have x:=r'.length;obtain⟨o,j,k,n,m⟩:=i.isList;exact call_list_seq p (.inl rfl) j k m (λh' c g e=>t a r' f h' c g e) (by simp only[jm_]<;>lia)
 ·obtain⟨a,r',i,f⟩:=I.tuple d;have x:=r'.length;obtain⟨o,j,k,n,m⟩:=i;exact call_list_seq p (.inr rfl) j k m (λh' c g e=>t a r' f h' c g e) (by simp only[jm_]<;>lia)
def Og:DU X (.type "tuple") (λxs H Q=>∃p ys,xs=[.ref p]/\((SqL X.K H p ys/\∀l,H l=none->Q (.ref l) (upd H l (.tup ys)))\/(SqT X.K H p ys/\Q (.ref p) H))):=by
 intro ae s σ H xs us Q I r h;obtain⟨p,ys,rfl,h⟩:=h;obtain⟨u,rfl,i⟩:=vals1 r;cases i;rcases h with ⟨a,q⟩|⟨a,q⟩
 ·obtain⟨c,r',d,f⟩:=I.list a;have m:=r'.length;refine call_tuple_list d.isList (λh' j=>?_) (by simp only[jm_]<;>lia);have g:Inv X ae σ H {s with heap:=h' }:=I.kept (t':=s.toks) j;have k:Inv X ae σ (upd H h'.objs.size (.tup ys)) {s with heap:=h'.push {cls:=.type "tuple",data:=.seq c.toArray} }:=
   g.laid (t':=s.toks) (λb o e=>jj_ _ e) (jf_ _) (show Bm X.prog X.w _ _ _ (.tup ys) from #[f,c,r',IsTup.new _ _])
  exact#[.ref h'.objs.size,_,k,rfl,q _ (g.hok.fresh (jf_ _))]
 ·obtain⟨c,r',d,f⟩:=I.tuple a;exact call_tuple_same d #[.ref p,H,I,rfl,q]
def tyV (K:α3)(T:String)(x:V)(H:Hp):Prop:=match x with
 |.str _=>T = "str"
 |.int _=>T = "int"
 |.ref p=>(T = "list" /\ ∃xs,SqL K H p xs)\/(T = "tuple" /\ ∃o,K.lookup p=some o/\o.cls=.type "tuple" /\ o.dict=none) \/
   (T = "dict" /\ ((∃a,H p=some (.dK a)) \/ ∃a,H p=some (.dT a)))\/(T = "set" /\ ∃S n,H p=some (.set S n))
 |_=>False
def Aw_ (I:Inv X ae σ H s)(r:RelV x v)(ty:tyV X.K T x H):
  s.TypeIs v T/\∀a,v=.ref a->∃ob,s.heap.get? a=some ob/\ob.dict=none:=by
 cases x with
 |str z=>
  obtain⟨t,rfl⟩:=r;cases (show T = "str" from ty);exact#[z5_ s z t,λ_ e=>nomatch e]
 |int i=>
  obtain⟨t,rfl⟩:=r;cases (show T = "int" from ty);exact#[typeIs_int s i t,λ_ e=>nomatch e]
 |ref p=>
  cases r;rcases ty with ⟨rfl,xs,h⟩|⟨rfl,o,b,j,d⟩|⟨rfl,b⟩|⟨rfl,S,n,b⟩
  ·obtain⟨l,_,g,_⟩:=I.list h;refine#[g.isList.typeIs,λa e=>?_];cases e;obtain⟨o,n,e,c,d,_⟩:=g;exact#[o,e,d]
  ·refine#[#[o,I.kIn p o b,j],λa e=>?_];cases e;exact#[o,I.kIn _ o b,d]
  ·have z:∃o,s.heap.get? p=some o/\o.ExactDict:=by
    rcases b with ⟨k,b⟩|⟨k,b⟩
    ·obtain⟨_,_,_,_,o,_,_,e,ex,_⟩:=I.hok p _ b;exact#[o,e,ex]
    ·obtain⟨_,_,_,_,o,_,_,e,ex,_⟩:=I.hok p _ b;exact#[o,e,ex]
   obtain⟨o,e,ex⟩:=z;refine#[#[o,e,ex.1],λa f=>?_];cases f;exact#[o,e,ex.2.1]
  ·obtain⟨o,_,_,_,e,ex,_⟩:=I.hok p _ b;refine#[#[o,e,ex.1],λa f=>?_];cases f;exact#[o,e,ex.2.1]
 |_=>exact oW ty
noncomputable def tBM (K:α3)(T:String)(r:V->List V->Hp->VK->Prop)(to:TE)(t:TA):TE:=λ σ H Q=>to σ H λx H1=>tyV K T x H1/\t σ H1 λxs H2=>r x xs H2 Q
variable {o e:Expr} {es:List Expr} {to:TE} {t:TA} {name:Str} {aA ax:Pos} {T id:String} {r:V->List V->Hp->VK->Prop}
def DV (d:PlainAttrs T)(f:Slot T name id)(g:typeOf (.builtin id)=pure (.type "method_descriptor"))(hm:MtR X id r)(i:PE X o to)(j:PA X (e::es) t)
  (k:attributeBase o name X.env (eval o X.env)=eval o X.env:=by rfl)
  (l:((backTo ax (starEach (e::es) X.env)).all (λx => !x.1)&&(backToKw ax (keywordEach [] X.env)).all (λx=>x.1.isSome)
   && decide ((e::es).length+([]:List Keyword).length+(if ([]:List Keyword).isEmpty then 0 else 1)<30))=true:=by rfl)
  (m:(aA.endLine==ax.line)=true:=by rfl) (hs:starEach (e::es) X.env=(false,eval e X.env)::starEach es X.env:=by rfl) (n:(backTo ax (starEach es X.env)).any (·.1)=false:=by rfl):
  PE X (.Call (.Attribute o name aA) (e::es) [] ax) (tBM X.K T r to t):=by
 intro ae s σ H Q I h;refine wpAny_Call_method_late k l m rfl (thn (i ae s σ H _ I h) λv p ⟨x,H1,a,b,ty,q⟩=>?_);obtain⟨h1,h2⟩:=Aw_ a b ty;exists T,id,d,f,g,h1,h2;have c:=j ax ae p σ H1 _ a q;rw[hs]at c ⊢;refine xj_ (by show (false||(backTo ax (starEach es X.env)).any (·.1))=false;rw[n]<;>rfl) (xq_ ?_);exact thn c λus u ⟨w,H2,y,z,A⟩=>hm ae u σ H2 x w v us Q y b z A
/- xs.append(e),list.index on a module's tuple .. are MtR facts of 06m -/
end
end L2
namespace L2
open PySem PySem.Spec PyProof.Rows
def MtM (X:Cx)(id:String)(r:V->List V->Hp->VK->Prop):Prop:=
 ∀(ae:α7) (s:Shared) (σ:St) (H:Hp) (x:V) (xs:List V) (v:Value) (us:List Value) (Q:VK),Inv X ae σ H s->RelV x v->Vals xs us->r x xs H Q ->
  wpAny (model X.prog X.w) X.A (call (.builtin id) (v::us)) (EP X ae σ Q) X.xe s
def Vals.one:∀{x:V} {us:List Value},Vals [x] us->∃u,us=[u]/\RelV x u
 |_,_,.cons r .nil=>#[_,rfl,r]
def Vals.eraseIdx:∀{xs:List V} {us:List Value} (i:Nat),Vals xs us->Vals (xs.eraseIdx i) (us.eraseIdx i)
 |_,_,_,.nil=>.nil
 |_,_,0,.cons _ t=>t
 |_,_,i+1,.cons r t=>.cons r (Vals.eraseIdx i t)
def PN {α:Type}:∀(l:List α) (i:Nat),(l.eraseIdx i).length<=l.length
 |[],_=>jf_ _
 |_::_,0=>qH _
 |_::r,i+1=>rH (PN r i)
section
variable {X:Cx} {ae:α7} {σ:St} {H:Hp} {s:Shared} {l b:Addr} {xs ys zs:List V}
def Inv.lset {its its':List Value} (I:Inv X ae σ H s)(a:H l=some (.lst xs))
  (e:s.heap.get? l=some {cls:=.type "list",data:=.seq its.toArray n}) (b:f its.toArray=its'.toArray) (c:Vals ys its') (hz:ys.length<=sizeLine):
  Inv X ae σ (upd H l (.lst ys)) {s with heap:=s.heap.update l (Obj.mapSeq f),toks:=t' }:=by
 have q:=PySem.IsL.update e f;rw[b]at q;refine I.write (x:=l) (e:=l) (by rw[a];exact trivial) (.inl rfl) (λh u d g=>(qT_ s.heap (Obj.mapSeq f) (qs_ d)).trans g) #[_,q] ?_;exact#[hz,its',_,c,q]
def Inv.lnew {its:List Value} (I:Inv X ae σ H s)(a:Vals ys its)(hz:ys.length<=sizeLine):
  Inv X ae σ (upd H s.heap.objs.size (.lst ys)) {s with heap:=s.heap.push {cls:=.type "list",data:=.seq its.toArray},toks:=t' }:=
 I.laid (λ_ _ q=>jj_ _ q) (jf_ _) #[hz,its,0,a,js_ _ rfl]
def Inv.fresh (I:Inv X ae σ H s):H s.heap.objs.size=none:=I.hok.fresh (jf_ _)
def Inv.lstM (I:Inv X ae σ H s)(a:H l=some (.lst xs)):xs.length<=sizeLine/\∃(its:List Value) (n:Nat),Vals xs its/\xs.length=its.length/\s.heap.get? l=some {cls:=.type "list",data:=.seq its.toArray n}:=by
 obtain⟨z,its,n,r,e⟩:=I.hok l _ a;exact#[z,its,n,r,r.length,e]
def Wm (h:n<=sizeLine):Builtin.List.listTooLong n=false:=by
 unfold Builtin.List.listTooLong;exact jQ_ s!""
end
section
variable {X:Cx}
def Um:V->List V->Hp->VK->Prop:=λx a H Q=>∃l xs y,x=.ref l/\a=[y]/\H l=some (.lst xs)/\xs.length<sizeLine/\Q .non (upd H l (.lst (xs++[y])))
def BB:MtM X "list.append" Um:=by
 intro ae s σ H x f v us Q I c rv h;obtain⟨l,xs,y,rfl,rfl,a,g,q⟩:=h;cases c;obtain⟨u,rfl,d⟩:=rv.one;obtain⟨z,b,n,r,i,e⟩:=I.lstM a;refine xV_ F.slot_list_append #[_,e,rfl] F.entry_list_append (F.args_list_append_2 _ _) (rm l b.toArray n u (by rw[jm_];lia)) #[e,?_];refine#[.non,_,I.lset (its':=b++[u]) a e (by simp) (r.append (.cons d .nil)) ?_,rfl,q];rw[jk_,jB_];lia
def Uo:V->List V->Hp->VK->Prop:=λx a H Q=>∃l b xs zs,x=.ref l/\a=[.ref b]/\H l=some (.lst xs)/\H b=some (.lst zs)/\xs.length+zs.length<=sizeLine/\Q .non (upd H l (.lst (xs++zs)))
def PQ:MtM X "list.extend" Uo:=by
 intro ae s σ H x t v us Q I f rv h;obtain⟨l,b,xs,zs,rfl,rfl,d,g,w,q⟩:=h;cases f;obtain⟨u,rfl,i⟩:=rv.one;cases i;obtain⟨z,a,n,r,y,e⟩:=I.lstM d;obtain⟨A,c,j,k,B,m⟩:=I.lstM g;have o:a.toArray.size+c.toArray.size<=sizeLine:=by rw[jm_,jm_];lia
 have p:¬ (!a.toArray.isEmpty&&Builtin.List.listTooLong (a.toArray.size+c.toArray.size))=true:=by
  rw[Wm o,rW];exact jy_
 refine xV_ F.slot_list_extend #[_,e,rfl] F.entry_list_extend (F.args_list_extend_2 _ _)
  (AutoSeq1.list_extend_list_list_0 l a.toArray n b c.toArray j p (by rw[jm_];lia) s!"") #[e,m,?_]
 refine#[.non,_,I.lset (its':=a++c) d e (by simp) (r.append k) ?_,rfl,q];rw[jk_];lia
def XJ:V->List V->Hp->VK->Prop:=λx a H Q=>∃l xs i k y,x=.ref l/\a=[.int i]/\H l=some (.lst xs) /\ -(2 ^ 63)<=i/\i<2 ^ 63/\seqIndex? i xs.length=some k/\xs[k]?=some y/\Q y (upd H l (.lst (xs.eraseIdx k)))
def Wn:MtM X "list.pop" XJ:=by
 intro ae s σ H x o v us Q I c rv h;obtain⟨l,xs,i,k,y,rfl,rfl,b,h1,h2,d,f,q⟩:=h;cases c;obtain⟨u,rfl,g⟩:=rv.one;obtain⟨t,rfl⟩:=g;obtain⟨z,a,n,r,j,e⟩:=I.lstM b;obtain⟨w,hw,m⟩:=r.get f;refine xV_ F.slot_list_pop #[_,e,rfl] F.entry_list_pop (F.args_list_pop_2 _ _)
  (MeetsSeq.list_pop_at l a.toArray n i t k w (fitsIndex_both h1 h2) (by rw[jm_,<-j];exact d) (by rw[<-jZ_];exact hw) (by rw[jm_];lia)) #[e,?_]
 refine#[y,_,I.lset (its':=a.eraseIdx k) b e ?_ (r.eraseIdx k) ?_,m,q]
 ·show a.toArray.eraseIdxIfInBounds k=(a.eraseIdx k).toArray;rw[List.eraseIdxIfInBounds_toArray]
 ·have:=PN xs k;lia
noncomputable def rCat:R2:=λx y H Q=>∃l b xs zs,x=.ref l/\y=.ref b/\H l=some (.lst xs)/\H b=some (.lst zs)/\xs.length+zs.length<=sizeLine/\∀p,H p=none->Q (.ref p) (upd H p (.lst (xs++zs)))
def XM:OpR X (binaryOp .Add) rCat:=by
 intro ae s σ H x y v u Q I d f h;obtain⟨l,b,xs,zs,rfl,rfl,g,i,o,q⟩:=h;cases d;cases f;obtain⟨z,a,n,r,p,e⟩:=I.lstM g;obtain⟨t,c,w,j,A,k⟩:=I.lstM i;refine PySem.P.add_list e k ?_ (by rw[jm_,jm_];lia);have m:a.toArray++c.toArray=(a++c).toArray:=by simp
 rw[m];exact#[.ref _,_,I.lnew (t':=s.toks) (r.append j) (by rw[jk_];lia),rfl,q _ I.fresh]
end
end L2
namespace Att
open PySem PySem.W PySem.Calls PyProof.Rows
def Me : ∀(ns:α2) (vs:List Value),WellAll P h vs (ns.map WData.int)->IntsAre vs ns:=by
 intro ns
 induction ns with
 |nil=>
  intro vs w;rw[rn]at w;cases w;exact .nil
 |cons n ns c=>
  intro vs w;rw[jT_]at w;cases w with
  |cons a b=>
   cases a;exact .cons _ _ (c _ b)
def Uq {l:OpenLaw}{n:Nat}(i:l.most=some n){P:Params}{h:Heap}{args:List WData}{e:List Value}
  (f:l.row.toRowW.claim.pre args=true) (j:WellAll P h e args):
  ∃a vs ns,e=[Value.ref a]/\args=[WData.list (ns.map WData.int)]/\h.get? a=some {cls:=.type "list",data:=.seq vs.toArray}/\IntsAre vs ns/\ns.length<=n:=by
 have k:WShape.hasAll [] args [.list .int]=true:=(pre_splitW f).1;have g:l.pre.holds [] {args:=args}=true:=(pre_splitW f).2;obtain⟨d,r,rfl,h1,h2⟩:=hasAllW_cons k;obtain rfl:=hasAllW_nil h2;obtain⟨xs,rfl,m⟩:=hasW_list h1;obtain⟨ns,rfl⟩:=items_int m;have o:ns.length<=n:=by
  unfold OpenLaw.pre at g;have b:(WTm.not (.lt (.lit (.int (n:Int))) (.len (.arg 0)))).holds [] {args:=[.list (ns.map .int)]}=true:=by
   have b:=(holds_andW g).1;rw[i]at b;exact b
  have c:=condW_of b (w_not (w_lt w_lit (w_len_list (w_arg rfl))));rw[ja_]at c;refine qv_ λq=>?_;have p:(n:Int)<((ns.length:Nat):Int):=by lia
  first
   | (rw[jH_ p]at c;exact absurd c (by decide))
   | (simp at c;lia)
 cases j with
 |cons s t=>
  cases t;cases s with
  |list u v=>exact#[_,_,ns,rfl,rfl,u,Me ns _ v,o]
def Ur (l:OpenLaw)(args:List WData):l.row.toRowW.claim.post args (.bool true) args=true:=
 postW_of (r:=l.row.toRowW) (X:=(true==true))
  (show WShape.has [] (.bool true) .bool=true by first|rfl|decide|simp[WShape.has,WShape.arms,WShape.armsAll])
  (show (WTm.eq .res (.lit (.bool true))).value [] {args:=args,res:=some (.bool true),after:=args}=some (.bool (true==true)) from w_eq_bool (w_res rfl) w_lit) rfl
def attach_call {l:OpenLaw}{n:Nat}{q:Program}{j:List Str}{k:(Str->α5)->Heap->Prop}{m:World->Heap->Prop}{d:DefRec}
  (s:l.most=some n) (t:d.params.defaults=[])
  (u:∀(w:World) (e b:Shared) (mg g:Str->α5) (c:Addr) (o:Obj) (h cd i:Value) (a:Addr) (vs:List Value) (ns:α2),
   Ground q j [] k w e mg g b.heap->m w b.heap ->
   b.heap.get? c=some o->o.data=.func (docDef d.name d.params d.body d.scope h cd i)->b.heap.CodeRec cd d.name->mg d.name=some (.ref c) ->
   b.heap.get? a=some {cls:=.type "list",data:=.seq vs.toArray}->IntsAre vs ns->ns.length<=n->b.gens = (List.toArray []) ->
   codeAny (model l.prog w) callerA (.call (.ref c) #[[.ref a],[]]) (λr s'=>r=.ok (.ret (.bool true))/\OldK b.heap s'.heap/\s'.os=b.os/\AllBare s'.gens) b):
  WalkO q j k m l.row.toRowW d [] (λf vs=>rX f vs):=by
 intro w e b mg g G Y c o h cd i v x y z A p B C M N O D P Q E R;obtain rfl:v=.none:=Dflts.none p t;obtain rfl:x=.none:=Dflts.noKw p;obtain⟨a,vs,ns,rfl,rfl,F,H,I⟩:=Uq s D E;refine enter_call (zb_ (u w e b mg g c o h cd i a vs ns G Y y (fd_plain z) A B F H I C) λr s' J=>?_);obtain⟨rfl,h2,K,L⟩:=J;exact#[.inl #[.bool true,.bool true,[],rfl,λ_=>rfl,.bool true,Ur l _,λ_=>#[pq,λ_ hm=>(nomatch hm)]],h2,K,L]
end Att
namespace L2
open PySem PySem.Spec PyProof.Rows
def PR:∀{vs:List Value} {ns:α2},IntsAre vs ns->Vals (ns.map V.int) vs
 |_,_,.nil=>.nil
 |_,_,.cons n t h=>.cons #[t,rfl] (PR h)
def Only (H:Hp):Prop:=∀b,H b=none \/ ∃o xs,H b=some (.frz o (.lst xs))
def Wo {K:α3}
  (p:K.In s₁.heap) (t:s₁.heap.Ns mainGlobals mg) (c:s₁.heap.Ns builtinsNs mb) (L:∀x:Str,x ≠ "__name__" -> mb x=bootBuiltins x) (M:s₁.heap.NoLimit) (N:s₁.gens = (List.toArray []))
  (g:s₁.heap.get? a=some {cls:=.type "list",data:=.seq vs.toArray}) (hi:IntsAre vs ns) (y:ns.length<=sizeLine) (O:Room k callerA)
  (F:∀base:Heap,K.In base->base.Ns mainGlobals mg->FnOk P w K mg base CX k fa fd [x] sp) (Q:∀(s:Shared) (u:Value),BindsTo s fd #[[u],[]] [(x,u)])
  (R:∀H:Hp,Only H->SqL K H a (ns.map V.int)->sp [.ref a] H (λv _=>v=.bl true) λ_ _ _=>False)
  (S:∀H e s',CX [] H s₁ (λ_ _ _=>False) e s'->False):
  codeAny (model P w) callerA (.call (.ref fa) #[[.ref a],[]]) (λr s'=>r=.ok (.ret (.bool true))/\OldK s₁.heap s'.heap/\s'.os=s₁.os/\AllBare s'.gens) s₁:=by
 have rv:=PR hi;have T:=hi.length
 -- from an abstract heap in which nothing but jv script may be bV
 have A:∀H:Hp,Only H->SqL K H a (ns.map V.int)->HOk P w H s₁.heap->(∀b,H b≠none->b=a)->(H a≠none->K.lookup a=none) ->
   codeAny (model P w) callerA (.call (.ref fa) #[[.ref a],[]]) (λr s'=>r=.ok (.ret (.bool true))/\OldK s₁.heap s'.heap/\s'.os=s₁.os/\AllBare s'.gens) s₁:=by
  intro H B U C D W;have E:∀{b:Addr} {o:Obj},s₁.heap.get? b=some o->H b=none->(hidT s₁.heap H).get? b=some o:=λe n=>Wc e n;have X:∀{b:Addr} {o:Obj} {es:Array DictEntry} {ep:Nat},s₁.heap.get? b=some o->o.data=.dict es ep->H b=none:=λ{b o es ep} e d=>by
   cases q:H b with
   |none=>rfl
   |some u=>
    have j:b=a:=D b (by rw[q];simp);subst j;rw[g]at e;cases e;have Y:Data.seq vs.toArray _=Data.dict es ep:=d;cases Y
  have i:∀{b:Addr} {m:Str->α5},s₁.heap.Ns b m->(hidT s₁.heap H).Ns b m:=λ{b m} ⟨o,es,ep,e,d,r⟩=>#[o,es,ep,E e (X e d),d,r];have G:K.In (hidT s₁.heap H):=λb o e=>E (p b o e) (by
   cases q:H b with
   |none=>rfl
   |some u=>
    have j:b=a:=D b (by rw[q];simp);subst j;rw[W (by rw[q];simp)]at e;cases e)
  have Z:Mod K mg (hidT s₁.heap H):=#[G,i t,#[mb,i c,L],let ⟨aa,h1,h2⟩:=M;#[aa,i h1,h2]];have ab:Env0 P w K mg (hidT s₁.heap H) callerA [] s₁ H:=#[rfl,Z,λb o e=>YR e,tP (TX _ _),trivial,λb c=>absurd (show b∈([]:List Addr) from c) (by simp),C,.of_eq N];refine zb_ ((F _ G (i t)).run callerA [] s₁ H #[[.ref a],[]] [.ref a] [.ref a] _ _ O ab (Q s₁ (.ref a)) (.cons rfl .nil) (R H B U)) λr s' h=>?_;cases r with
  |error e=>exact (S H e s' h).elim
  |ok ac=>
   cases ac with
   |next=>exact oW h
   |brk=>exact oW h
   |cont=>exact oW h
   |ret u=>
    obtain⟨v,H',ad,ae,I,af,r',q⟩:=h;have ag:v=.bl true:=q;subst ag;obtain rfl:u=Value.bool true:=r';refine#[rfl,OldK.of_keep λb o e=>?_,ad,ae];cases q:H b with
    |none=>exact I.keep b o e q (by intro z;exact absurd (show b∈([]:List Addr) from z) (by simp)) (by simp)
    |some u=>
     rcases B b with z|⟨ah,xs,z⟩
     ·rw[q]at z;cases z
     ·have ai:=I.frzs b ah _ z;obtain⟨J,_⟩:=C b _ z;obtain⟨aj,_⟩:=af b _ ai;rw[e]at J;cases J;exact aj
 cases l:K.lookup a with
 |some o=>
  -- jv script is one of jv module's own objects
  have e:=p a o l;rw[g]at e;cases e;refine A (λ_=>none) (λ_=>.inl rfl) (.inr #[_,vs.toArray,_,l,rfl,rfl,rfl,by rw[jm_,T];exact y,by simpa using rv]) (λb u z=>by have f:(none:Option HO)=some u:=z;cases f) (λb z=>absurd rfl z) λz=>absurd rfl z
 |none=>
  refine A (λb=>if b=a then some (.frz {cls:=.type "list",data:=.seq vs.toArray} (.lst (ns.map V.int))) else none) (λb=>?_) (.inl (.inr #[{cls:=.type "list",data:=.seq vs.toArray},if_pos rfl])) (λb u z=>?_) (λb z=>?_) λ_=>l
  ·by_cases c:b=a
   ·exact .inr #[_,_,if_pos c]
   ·exact .inl (if_neg c)
  ·by_cases c:b=a
   ·have f:=(if_pos c).symm.trans z;cases f;subst c;exact#[g,by rw[ja_];exact y,vs,_,rv,g]
   ·have f:=(if_neg c).symm.trans z;cases f
  ·by_cases c:b=a
   ·exact c
   ·exact absurd (if_neg c) z
def walk_of {l:qr}{n k:Nat}{q:Program}{p:List Str}{r:(Str->α5)->Heap->Prop}{i:World->Heap->Prop}{d:DefRec}{K:Params->α3}{CX:World->CXT}{sp:World->Sp}{x:Str}
  (t:l.most=some n) (y:n<=sizeLine) (z:d.params.defaults=[]) (A:Room k callerA)
  (B:∀(w:World) (h:Heap),i w h->(K w.params).In h)
  (F:∀(w:World) (mg:Str->α5) (c:Addr) (h:Heap),(K w.params).In h->h.Ns mainGlobals mg->mg d.name=some (.ref c) ->
   ∃fd:α6,(∀(s:Shared) (u:Value),BindsTo s fd #[[u],[]] [(x,u)]) /\
    ∀base:Heap,(K w.params).In base->base.Ns mainGlobals mg->FnOk l.prog w (K w.params) mg base (CX w) k c fd [x] (sp w))
  (C:∀(w:World) (H:Hp) (a:Addr) (ns:α2),ns.length<=n->Only H->SqL (K w.params) H a (ns.map V.int)->sp w [.ref a] H (λv _=>v=.bl true) λ_ _ _=>False)
  (D:∀(w:World) (H:Hp) (s:Shared) (e:Value) (s':Shared),CX w [] H s (λ_ _ _=>False) e s'->False):
  tD q p r i l.row.toRowW d [] (λf vs=>rX f vs):=by
 refine Att.attach_call t z λw R E mg S c o U cd W a vs ns G Y X Z aa I J L j M=>?_;have m:=B w _ Y;obtain⟨fd,N,O⟩:=F w mg c _ m G.T.g I;exact Wo m G.T.g G.T.b G.T.builtins G.T.nolimit M J L (qo_ j y) A O N (λH P Q=>C w H a ns j P Q) λH e s'=>D w H E e s'
noncomputable def A9 (s:Stmt)(j:Nat):Stmt:=match s with
 |.ClassDef _ _ _ a _ _ _ _ _ _ _=>a.getD j (.Pass #[0,0,0,0])
 |_=>.Pass #[0,0,0,0]
noncomputable def KJ (s:Stmt):Arguments:=match s with
 |.FunctionDef _ a _ _ _ _ _ _ _ _=>a
 |_=>{posonlyargs:=[],args:=[],vararg:=none,kwonlyargs:=[],kw_defaults:=[],kwarg:=none,defaults:=[]}
noncomputable def EL (s:Stmt):List Stmt:=match s with
 |.FunctionDef _ _ b _ _ _ _ _ _ _=>b
 |_=>[]
noncomputable def Ag (s:Stmt):Scope:=match s with
 |.FunctionDef _ _ _ _ _ _ sc _ _ _=>sc
 |_=>{kind:=.function,names:=[],isGenerator:=false,isCoroutine:=false}
noncomputable abbrev CX0:CXT:=λ_ _ _ _ _ _=>False
noncomputable abbrev E0:XK:=λ_ _ _=>False
def Au : Gj CX0 X E0:=λ_ _ _ _ _ _ _ h=>h.elim
structure Fun (K:α3)(x qual:Str)(st:Stmt)(f:Addr)(fd:α6):Prop where
 ex:∃(oc:Value) (od:Option Addr) (kV bB pm:Value) (an:Option Addr) (ao ct:Value) (gE:Array (α5)),
  fd=fnOf x qual (KJ st) (EL st) (Ag st) .none kV bB pm an ao ct/\K.lookup f=some #[oc,od,.func fd,gE]/\qI K ao qual=true
 kp:keepIn K (.ref f)=true
section
variable {P:Program} {w:World} {K:α3} {mg:Str->α5} {base:Heap}
def Fun.ok {st:Stmt} (F:Fun K x qual st f fd)(S:FnScope N ps (Ag st))(b:∀vs H Q E,sp vs H Q E->vs.length=ps.length)
  (c:∀(a:Value) (A:Around) (outer:List Env) (s:Shared) (H:Hp) (vs:List V) (Q:VK) (E:XK),Room k (A.deeper (envOfC qual (Ag st) s.heap.objs.size f a))->sp vs H Q E ->
   ∃t,PSs (cxOf CX0 P w K mg base N qual (Ag st) f a A outer s H E).nox (EL st) t/\t {nx:=λ_ H'=>Q .non H',rt:=Q} (start N vs) H):FnOk P w K mg base CX0 (k+1) f fd ps sp:=by
 obtain⟨j,od,l,m,n,o,a,p,r,rfl,d,e⟩:=F.ex;refine At_ d e S b λA outer s H vs Q E g i=>?_;obtain⟨t,h,q⟩:=c a A outer s H vs Q E g i;exact#[t,h.nox,q]
def Fun.binds {st:Stmt} (F:Fun K x qual st f fd)
  (h:∀(a b c:Value) (d:Option Addr) (e g:Value) (us:List Value),us.length=ps.length->bindArgs (fnOf x qual (KJ st) (EL st) (Ag st) .none a b c d e g) #[us,[]]=pure (ps.zip us)):Binds K fd ps []:=by
 obtain⟨i,od,a,b,c,d,e,g,j,rfl,k,l⟩:=F.ex;exact .all (h a b c d e g)
def fun_mk {st:Stmt} {b d e a g:Value}(l:K.lookup f=some #[oc,od,.func (fnOf x qual (KJ st) (EL st) (Ag st) .none b d e an a g),gE])
  (c:qI K a qual=true) (k:keepIn K (.ref f)=true):Fun K x qual st f (fnOf x qual (KJ st) (EL st) (Ag st) .none b d e an a g):=#[#[oc,od,b,d,e,an,a,g,gE,rfl,l,c],k]
end
def GG (a:Room k A):A.units+1<cLine:=qW (Nat.add_le_add_left (by decide:1<=64) _) a.units
section
variable {X:Cx}
def pv (i:Nat) (a:X.N[i]?=some x:=by rfl)(b:Vis X.env.scope x:=by first|exact oQ rfl|exact o9 (oQ rfl)|exact o9 (o9 rfl))(c:(x==("__debug__" : Str))=false:=by decide)
  (d:(x==("__classdict__" : Str))=false:=by decide):PE X (.Name x pos) (tVar i):=Ae_ a b c d
end
def ite2 {c A B:Prop}[Decidable c](h1:c->A)(h2:¬ c->B):if c then A else B:=by
 by_cases h:c
 ·rw[if_pos h];exact h1 h
 ·rw[if_neg h];exact h2 h
def Same (H H':Hp):Prop:=∀b o,H b=some o->H' b=some o
def Same.refl (H:Hp):Same H H:=λ_ _ h=>h
def Same.trans {H H1 H2:Hp}(a:Same H H1)(b:Same H1 H2):Same H H2:=λc o h=>b c o (a c o h)
def Same.free (e:Same H H') (h:H' l=uf):H l=uf:=by
 cases q:H l with
 |none=>rfl
 |some o=>
  rw[e l o q]at h;cases h
def Same.seq {K:α3} (e:Same H H')(h:SqL K H a xs):SqL K H' a xs:=by
 rcases h with (h|⟨o,h⟩)|h
 ·exact .inl (.inl (e _ _ h))
 ·exact .inl (.inr #[o,e _ _ h])
 ·exact .inr h
end L2
set_option maxHeartbeats 4000000
namespace L2
open PySem PySem.Spec PyProof.Rows
section
variable {κ:Type} [DecidableEq κ]
noncomputable def valV (kvs:List (κ×V))(k:κ):Option V:=(kvs.find? λa=>decide (a.1=k)).map (·.2)
noncomputable def putK (kvs:List (κ×V))(k:κ)(v:V):List (κ×V):=
 if (kvs.any λa=>decide (a.1=k))=true then kvs.map (λa=>if a.1=k then (a.1,v) else a) else kvs++[(k,v)]
def Oh {p:κ×V}{r:List (κ×V)}{k:κ}(e:p.1=k):valV (p::r) k=some p.2:=by simp[valV,q0_,e]
def Oi {p:κ×V}{r:List (κ×V)}{k:κ}(e:¬ p.1=k):valV (p::r) k=valV r k:=by simp[valV,q0_,e]
def FA (k:κ):∀kvs:List (κ×V),(kvs.any λa=>decide (a.1=k))=(valV kvs k).isSome
 |[]=>rfl
 |p::r=>by
  rw[zP_];by_cases e:p.1=k
  ·simp only[Oh e,jH_ e,Bool.true_or,xM_]
  ·rw[Oi e,jQ_ e,Bool.false_or];exact FA k r
def FC (kvs:List (κ×V))(k:κ)(v:V):(putK kvs k v).length<=kvs.length+1:=by
 unfold putK;split
 ·rw[ja_];lia
 ·rw[jk_,jG_,xu_];lia
def RI {kvs:List (κ×V)}{k:κ}(v:V)(h:valV kvs k=none):putK kvs k v=kvs++[(k,v)]:=by
 unfold putK;rw[FA,h];exact if_neg (by decide)
def RelO.isSome_eq (r:RelO o u):o.isSome=u.isSome:=by
 cases o with
 |none=>cases u with
  |none=>rfl
  |some _=>exact (show False from r).elim
 |some _=>cases u with
  |none=>exact (show False from r).elim
  |some _=>rfl
def RelO.getD (r:RelO o u)(a:RelV d d'):RelV (o.getD d) (u.getD d'):=by
 cases o with
 |none=>cases u with
  |none=>exact a
  |some _=>exact (show False from r).elim
 |some _=>cases u with
  |none=>exact (show False from r).elim
  |some _=>exact r
def KV.val (r:KV kvs vs)(k:κ):RelO (valV kvs k) (valueAt vs k):=by
 unfold KV at r
 induction r with
 |nil=>exact oO
 |@cons p q ps a h t d=>
  obtain⟨h1,h2⟩:=h;by_cases e:p.1=k
  ·have c:q.1=k:=h1.symm.trans e;have b:valueAt (q::a) k=some q.2:=by simp[valueAt,q0_,c]
   rw[Oh e,b];exact h2
  ·have c:¬ q.1=k:=λz=>e (h1.trans z);have b:valueAt (q::a) k=valueAt a k:=by simp[valueAt,q0_,c]
   rw[Oi e,b];exact d
def KV.any (r:KV kvs vs)(k:κ):(kvs.any λa=>decide (a.1=k))=vs.any λa=>decide (a.1=k):=by
 unfold KV at r
 induction r with
 |nil=>rfl
 |cons h t b=>rw[zP_,zP_,b,h.1]
def KV.repl (r:KV kvs vs)(k:κ) (b:RelV y u):
  KV (kvs.map λa=>if a.1=k then (a.1,y) else a) (vs.map λa=>if a.1=k then (a.1,u) else a):=by
 unfold KV at r ⊢
 induction r with
 |nil=>exact .nil
 |@cons p q ps d h t c=>
  rw[jT_,jT_];refine .cons ?_ c;obtain⟨h1,h2⟩:=h;by_cases e:p.1=k
  ·rw[if_pos e,if_pos (h1.symm.trans e)];exact#[h1,b]
  ·rw[if_neg e,if_neg (λz=>e (h1.trans z))];exact#[h1,h2]
def KV.put (r:KV kvs vs)(k:κ) (a:RelV y u):KV (putK kvs k y) (stored vs k u):=by
 unfold putK stored;rw[r.any k];by_cases e:(vs.any λb=>decide (b.1=k))=true
 ·rw[if_pos e,if_pos e];exact r.repl k a
 ·rw[if_neg e,if_neg e];exact Paired.snoc r #[rfl,a]
def KV.length {kvs:List (κ×V)}{vs:List (κ×Value)}(r:KV kvs vs):kvs.length=vs.length:=zj_ r
end
def SJ (r:RelV (kV k) u):(Bc P w).is k u=true:=by
 cases k with
 |inl i=>obtain⟨t,e⟩:=(show ∃t,u=Value.int i t from r);subst e;exact QF P w i t
 |inr x=>obtain⟨t,e⟩:=(show ∃t,u=Value.str x t from r);subst e;exact QG P w x t
def PU {P:Program}{w:World}:∀{ks:List Key} {us:List Value},Vals (ks.map kV) us->ItemsAre (Bc P w) ks us
 |[],_,r=>by rw[rn]at r;cases r;exact .nil
 |k::ks,_,r=>by
  rw[jT_]at r;cases r with
  |cons h t=>exact .cons (SJ h) (PU t)
abbrev KT (H:Hp):List (List Key×V)->List (List Key×Addr×Value)->Prop:=Paired λp q=>p.1=q.1/\H q.2.1=some (.tup (p.1.map kV))/\RelV p.2 q.2.2
def KT.val (r:KT H kvs xs)(k:List Key):RelO (valV kvs k) ((atKey xs k).map (·.2)):=by
 induction r with
 |nil=>exact oO
 |@cons p q ps a h t d=>
  obtain⟨h1,_,h2⟩:=h;by_cases e:p.1=k
  ·have c:q.1=k:=h1.symm.trans e;have b:atKey (q::a) k=some q.2:=by simp[atKey,q0_,c]
   rw[Oh e,b];exact h2
  ·have c:¬ q.1=k:=λz=>e (h1.trans z);have b:atKey (q::a) k=atKey a k:=by simp[atKey,q0_,c]
   rw[Oi e,b];exact d
def KT.repl (r:KT H kvs xs)(k:List Key) (b:RelV y u):
  KT H (kvs.map λa=>if a.1=k then (a.1,y) else a) (xs.map (putAt k u)):=by
 induction r with
 |nil=>exact .nil
 |@cons p q ps f h t c=>
  rw[jT_,jT_];refine .cons ?_ c;obtain⟨h1,h2,d⟩:=h;unfold putAt;by_cases e:p.1=k
  ·rw[if_pos e,if_pos (h1.symm.trans e)];exact#[h1,h2,b]
  ·rw[if_neg e,if_neg (λz=>e (h1.trans z))];exact#[h1,h2,d]
def KT.put (r:KT H kvs xs)(k:List Key) (c:H b=some (.tup (k.map kV)))(a:RelV y u):
  KT H (putK kvs k y) (storedH xs k b u):=by
 have e:(kvs.any λd=>decide (d.1=k))=(atKey xs k).isSome:=by
  rw[FA,(r.val k).isSome_eq,Option.isSome_map]
 unfold putK storedH;rw[e];by_cases q:(atKey xs k).isSome=true
 ·rw[if_pos q,if_pos q];exact r.repl k a
 ·rw[if_neg q,if_neg q];exact Paired.snoc r #[rfl,c,a]
def KT.keeps (r:KT H kvs xs)(a:∀b ys,H b=some (.tup ys)->H' b=some (.tup ys)):KT H' kvs xs:=
 Paired.mapP r λ_ _ z=>#[z.1,a _ _ z.2.1,z.2.2]
section
variable {P:Program} {w:World} {H:Hp} {h:Heap} {a:Addr}
def Wq (ok:HOk P w H h)(e:Rd H a u):Bm P w H h a u:=e.ok ok
def SK (ok:HOk P w H h)(e:Rd H a (.dK kvs)):kvs.length<=sizeLine/\(a==sysModules)=false/\∃vs,KV kvs vs/\h.DictOf (Bc P w) a vs:=
 show Bm P w H h a (.dK kvs) from Wq ok e
def Cm_ (ok:HOk P w H h)(e:H a=some (.dK kvs)):kvs.length<=sizeLine/\(a==sysModules)=false/\∃vs,KV kvs vs/\h.DictOf (Bc P w) a vs:=SK ok (.inl e)
def Mf (ok:HOk P w H h)(e:H a=some (.tup (ks.map kV))):(tupleKind (Bc P w)).is h ks a:=by
 obtain⟨_,b,r,o,h1,h2,n,c⟩:=(show Bm P w H h a (.tup (ks.map kV)) from ok a _ e);exact#[o,b.toArray,n,h1,h2,c,by simpa using PU r]
def QL (ok:HOk P w H h)(e:Rd H a (.dT kvs)):kvs.length<=sizeLine/\(a==sysModules)=false /\
  ∃xs,KT H kvs xs/\h.DictOfH (tupleKind (Bc P w)) a xs:=by
 obtain⟨z,y,xs,r,o,es,ep,h1,h2,d,f,g⟩:=(show Bm P w H h a (.dT kvs) from Wq ok e);refine#[z,y,xs,r,o,es,ep,h1,h2,d,f,λx b=>?_,g];have i:∀{l:List (List Key×V)} {m:List (List Key×Addr×Value)},KT H l m->∀x∈m,(tupleKind (Bc P w)).is h x.1 x.2.1:=by
  intro l m q
  induction q with
  |nil=>intro x b;exact nomatch b
  |@cons p q ps k c t j=>
   intro x b;rcases jw_.mp b with e|b
   ·subst e;exact Mf ok (by rw[<-c.1];exact c.2.1)
   ·exact j x b
 exact i r x b
def Y3 (ok:HOk P w H h)(e:H a=some (.dT kvs)):kvs.length<=sizeLine/\(a==sysModules)=false /\
  ∃xs,KT H kvs xs/\h.DictOfH (tupleKind (Bc P w)) a xs:=QL ok (.inl e)
end
def DGet (H:Hp)(a:Addr)(y:V)(r:Option V):Prop:=
 (∃c k,Rd H a (.dK c)/\y=kV k/\r=valV c k) \/ ∃c k b,Rd H a (.dT c)/\y=.ref b/\H b=some (.tup (k.map kV))/\r=valV c k
def DPut (H:Hp)(a:Addr)(y v:V)(H':Hp):Prop:=
 (∃c k,H a=some (.dK c)/\y=kV k/\c.length<sizeLine/\H'=upd H a (.dK (putK c k v))) \/
 ∃c k b,H a=some (.dT c)/\y=.ref b/\H b=some (.tup (k.map kV))/\c.length<sizeLine/\H'=upd H a (.dT (putK c k v))
def DGet.t (e:H a=some (.dT kvs))(c:H b=some (.tup (k.map kV))):DGet H a (.ref b) (valV kvs k):=.inr #[kvs,k,b,.inl e,rfl,c,rfl]
def DPut.t (e:H a=some (.dT kvs))(c:H b=some (.tup (k.map kV)))(d:kvs.length<sizeLine):
  DPut H a (.ref b) v (upd H a (.dT (putK kvs k v))):=.inr #[kvs,k,b,e,rfl,c,d,rfl]
section
variable {X:Cx} {ae:α7} {σ:St} {H:Hp} {s:Shared} {a:Addr} {y v:V} {u r:Value} {o:Option V} {A:Around} {E:Value->Shared->Prop}
def Inv.big (I:Inv X ae σ H s):sysModules<s.heap.objs.size:=by
 have h:mainGlobals<s.heap.objs.size:=(I.mod.glob.keeps I.bk).lt;exact qb (by decide) h
def Us (n:A.units+1<cLine)(I:Inv X ae σ H s)(g:DGet H a y (some v))(m:RelV y u)(h:∀c s',Inv X ae σ H s'->RelV v c->Q c s'):
  wpAny (model X.prog X.w) A (getItem (.ref a) u) Q E s:=by
 rcases g with ⟨q,k,e,d,l⟩|⟨q,k,b,e,d,r,l⟩
 ·subst d;obtain⟨z,t,x,f,i⟩:=SK I.hok e;obtain⟨c,hw,j⟩:=RelO.some_of (v:=v) (o:=valueAt x k) (by rw[l];exact f.val k);exact wpAny_getItem_of (SJ m) i.mapOf hw (h c _ (I.tok _) j)
 ·subst d;cases (show u=Value.ref b from m);obtain⟨z,t,xs,f,i⟩:=QL I.hok e;obtain⟨c,hw,j⟩:=RelO.some_of (v:=v) (o:=(atKey xs k).map (·.2)) (by rw[l];exact f.val k);obtain⟨p,B,C⟩:=qc_.mp hw;refine wpAny_getItem_heap (xN_ n) (Mf I.hok r) i B ?_;rw[C];exact h c _ (I.tok _) j
def Oj (I:Inv X ae σ H s)(c:Mut (H a))(hs:Heap.SameBut a s.heap h')(d:∃q,h'.get? a=some q)(f:Bm X.prog X.w (upd H a ob) h' a ob):
  Inv X ae σ (upd H a ob) {s with heap:=h',toks:=t' }:=
 I.write (x:=a) (e:=a) c (.inl rfl) (λb q g z=>(hs.2 b g).trans z) d f
def Ax_ (z:kvs.length<=sizeLine)(b:(a==sysModules)=false)(c:KV kvs vs)(dd:h'.DictOf (Bc P w) a vs):
  Bm P w H' h' a (.dK kvs):=#[z,b,vs,c,dd]
def Ut (G:A.units+1<cLine)(I:Inv X ae σ H s)(g:DPut H a y v H')(C:RelV y u)(rv:RelV v r)(h:∀s',Inv X ae σ H' s'->Q () s'):
  wpAny (model X.prog X.w) A (setItem (.ref a) u r) Q E s:=by
 rcases g with ⟨d,k,e,m,l,n⟩|⟨d,k,b,e,m,D,l,n⟩
 ·subst m n;obtain⟨z,o,J,f,p⟩:=Cm_ I.hok e;have t:J.length<=sizeLine:=by rw[<-f.length];exact z
  have x:(putK d k v).length<=sizeLine:=by have:=FC d k v;lia
  refine wpAny_setItem_pairs (hsz:=t) (SJ C) p λh' i B=>h _ ?_;have K:∃q,h'.get? a=some q:=let ⟨q,_,_,j,_⟩:=i;#[q,j];exact Oj I (by rw[e];exact oO) B K (Ax_ x o (f.put k rv) i)
 ·subst m n;cases (show u=Value.ref b from C);obtain⟨z,o,xs,f,p⟩:=Y3 I.hok e;have t:xs.length<=sizeLine:=by rw[<-zj_ f];exact z
  have x:(putK d k v).length<=sizeLine:=by have:=FC d k v;lia
  refine wpAny_setItem_heap (hsz:=t) (xN_ G) (Mf I.hok D) p λh' i B=>h _ ?_;obtain⟨q,es,ep,j,h2,L,M,_,N⟩:=i;refine Oj I (by rw[e];exact oO) B #[q,j] #[x,o,_,(f.put k D rv).keeps λc ys F=>?_,q,es,ep,j,h2,L,M,N];rw[Ak (YQ F e (λz=>nomatch z))];exact F
end
def NoSl (i:Expr):Prop:=∀a b,subscripted i false a b=operate [a,b] (getItem a b)
def Y4 {T id:String}
  (f:typeLookup (.type T) "__getitem__"=pure (some (.builtin id))) (hs:NoSl bc)
  (h:wpAny (model prog w) A (eval value env) (λo c=>wpAny (model prog w) A (eval bc env) (λi a=>a.TypeIs o T/\wpAny (model prog w) A (getItem o i) Q E a) E c) E s):
  wpAny (model prog w) A (eval (.Subscript value bc pos) env) Q E s:=by
 refine Subscript_ (xF_ h (λo c g=>xF_ g (λi a b=>?_) λ_ _ x=>x) λ_ _ x=>x);obtain⟨d,b⟩:=b;unfold subscriptTail;refine jc_ ?_;rw[getitemInPython_of_ne d.not_modules];refine jc_ (zW_ d f ?_);have fin:wpAny (model prog w) A (subscripted bc false o i) (λr e=>wpAny (model prog w) A (letTemporaryGo value o r >>= λ_=>pure r) Q E e) E a:=by
  rw[hs o i];exact wpAny_operating (xF_ b (λr e j=>jc_ (wpAny_letTemporaryGo (jl_ j))) λ_ _ x=>x)
 first
  | exact jl_ (jc_ fin)
  | exact jc_ (jl_ (jc_ fin))
  | exact jc_ fin
def QM (I:Inv X ae σ H s)(g:DGet H a y o):s.TypeIs (.ref a) "dict" := by
 rcases g with ⟨d,k,e,_,_⟩|⟨d,k,b,e,_,_,_⟩
 ·obtain⟨_,_,f,_,c⟩:=SK I.hok e;exact c.typeIs
 ·obtain⟨_,_,xs,_,c⟩:=QL I.hok e;exact c.typeIs
noncomputable def Ay_ (td ty:TE):TE:=λ σ H Q=>td σ H λx H1=>ty σ H1 λy H2=>∃a v,x=.ref a/\DGet H2 a y (some v)/\Q v H2
noncomputable def Az_ (td ty tv:TE):TS:=λD σ H=>tv σ H λv H1=>td σ H1 λx H2=>ty σ H2 λy c=>∃a b,x=.ref a/\DPut c a y v b/\D.nx σ b
section
variable {X:Cx} {o i e value:Expr} {pos bY cN:Pos} {td ty tv:TE}
def Mg (c:X.A.units+1<cLine)(d:PE X o td)(hi:PE X i ty)(hs:NoSl i):PE X (.Subscript o i pos) (Ay_ td ty):=by
 intro ae s σ H Q I h;refine Y4 PySem.F.slot_dict_getitem.lookup hs (thn (d ae s σ H _ I h) λu e ⟨x,H1,f,j,k⟩=>thn (hi ae e σ H1 _ f k) λq r ⟨y,H2,b,l,a,v,ex,g,m⟩=>?_);subst ex;obtain rfl:u=Value.ref a:=j;exact#[QM b g,Us c b g l λt w n p=>#[v,H2,n,p,m]]
def GH (b:X.A.units+1<cLine)(c:PE X o td)(hi:PE X i ty)(d:PE X value tv)(hs:swapsWith value (some (.Subscript o i bY)) pos.line X.env=pure false):
  PS X (.Assign [.Subscript o i bY] value pos) (Az_ td ty tv):=by
 intro ae s σ H D I h;refine wpAny_Assign_Subscript (thn (d ae s σ H _ I h) λr e ⟨v,H1,f,rv,j⟩=>thn (c ae e σ H1 _ f j) λu k ⟨x,H2,l,m,n⟩=>thn (hi ae k σ H2 _ l n) λB C ⟨y,E,p,q,a,t,ex,g,w⟩=>?_) hs;subst ex;obtain rfl:u=Value.ref a:=m;exact Ut b p g q rv λF z=>#[σ,t,z,w]
end
def RJ (h:Heap)(a:sysModules<h.objs.size):Bm P w H (h.push {cls:=.type "dict",data:=.dict (List.toArray [])}) h.objs.size (.dT []):=
 #[j8_ _,xA_.mpr (qs_ (jP_ a)),[],.nil,_,(List.toArray []),0,js_ _ rfl,#[rfl,rfl,rfl],rfl,rfl,zz_]
noncomputable def XN:TE:=λ_ H Q=>∀p,H p=none->Q (.ref p) (upd H p (.dT []))
section
variable {X:Cx} {pos:Pos}
def FD:PE X (.Dict [] [] pos) XN:=λae s σ H Q I h=>
 wpAny_Dict_empty #[.ref s.heap.objs.size,_,I.laid (a:=s.heap.objs.size) (o:=.dT []) (t':=s.toks) (λ_ _ q=>jj_ _ q) (jf_ _) (RJ s.heap I.big),rfl,h _ (I.hok.fresh (jf_ _))]
end
structure M1 (X:Cx)(o:Expr)(m:Str)(aA:Pos)(e:Expr)(ax:Pos):Prop where
 base:attributeBase o m X.env (eval o X.env)=eval o X.env
 few:((backTo ax (starEach [e] X.env)).all (λx => !x.1)&&(backToKw ax (keywordEach [] X.env)).all (λx=>x.1.isSome)
  && decide (([e]:List Expr).length+([]:List Keyword).length+(if ([]:List Keyword).isEmpty then 0 else 1)<30))=true
 line:(aA.endLine==ax.line)=true
 trees:backTo ax (starEach [e] X.env)=[(false,eval e X.env)]
structure M2 (X:Cx)(o:Expr)(m:Str)(aA:Pos)(e f:Expr)(ax:Pos):Prop where
 base:attributeBase o m X.env (eval o X.env)=eval o X.env
 few:((backTo ax (starEach [e,f] X.env)).all (λx => !x.1)&&(backToKw ax (keywordEach [] X.env)).all (λx=>x.1.isSome)
  && decide (([e,f]:List Expr).length+([]:List Keyword).length+(if ([]:List Keyword).isEmpty then 0 else 1)<30))=true
 line:(aA.endLine==ax.line)=true
 trees:backTo ax (starEach [e,f] X.env)=[(false,eval e X.env),(false,eval f X.env)]
def IsD (H:Hp)(a:Addr):Prop:=(∃b,Rd H a (.dK b)) \/ ∃b,Rd H a (.dT b)
def Uu (I:Inv X ae σ H s)(d:IsD H a):
  s.TypeIs (.ref a) "dict" /\ (∀b,Value.ref a=.ref b->∃ob,s.heap.get? b=some ob/\ob.dict=none)/\(a==sysModules)=false:=by
 rcases d with ⟨g,e⟩|⟨g,e⟩
 ·obtain⟨_,f,h,_,c⟩:=SK I.hok e;refine#[c.typeIs,λb q=>?_,f];cases q;obtain⟨ob,_,_,h1,h2,_⟩:=c;exact#[ob,h1,h2.2.1]
 ·obtain⟨_,f,xs,_,c⟩:=QL I.hok e;refine#[c.typeIs,λb q=>?_,f];cases q;obtain⟨ob,_,_,h1,h2,_⟩:=c;exact#[ob,h1,h2.2.1]
section
variable {X:Cx} {ae:α7} {σ:St} {H:Hp} {s:Shared} {a:Addr} {y d:V} {u r:Value} {o:Option V} {A:Around} {E:Value->Shared->Prop}
def XO (n:A.units+1<cLine)(I:Inv X ae σ H s)(g:DGet H a y o)(j:RelV y u)(h:∀m s',Inv X ae σ H s'->RelV (o.getD .non) m->Q m s'):
  wpAny (model X.prog X.w) A (call (.builtin "dict.get") [.ref a,u]) Q E s:=by
 rcases g with ⟨p,k,e,d,l⟩|⟨p,k,b,e,d,q,l⟩
 ·subst d;obtain⟨z,f,r,i,c⟩:=SK I.hok e;refine zE_ qt_ c.typeIs xk_ (zm_ _ _) (meets_dict_get (Bc X.prog X.w) a (SJ j) f) #[_,c.mapOf,h _ _ (I.tok _) ?_];rw[l];exact (i.val k).getD rfl
 ·subst d;cases (show u=Value.ref b from j);obtain⟨z,f,xs,i,c⟩:=QL I.hok e;refine zE_ qt_ c.typeIs xk_ (zm_ _ _) (meetsH_dict_get (tupleKind (Bc X.prog X.w)) a b f) #[xN_ n,k,xs,Mf I.hok q,c,h _ _ (I.tok _) ?_];rw[l];exact (i.val k).getD rfl
def AA_ (q:A.units+1<cLine)(I:Inv X ae σ H s)(g:DGet H a y o)(m:RelV y u)(n:RelV d r)(h:∀p s',Inv X ae σ H s'->RelV (o.getD d) p->Q p s'):
  wpAny (model X.prog X.w) A (call (.builtin "dict.get") [.ref a,u,r]) Q E s:=by
 rcases g with ⟨t,k,e,f,l⟩|⟨t,k,b,e,f,v,l⟩
 ·subst f;obtain⟨z,i,x,j,c⟩:=SK I.hok e;refine zE_ qt_ c.typeIs xk_ (pS _ _ _) (meets_dict_get_default (Bc X.prog X.w) a (SJ m) i r) #[_,c.mapOf,h _ _ (I.tok _) ?_];rw[l];exact (j.val k).getD n
 ·subst f;cases (show u=Value.ref b from m);obtain⟨z,i,xs,j,c⟩:=QL I.hok e;refine zE_ qt_ c.typeIs xk_ (pS _ _ _) (meetsH_dict_get_default (tupleKind (Bc X.prog X.w)) a b i r) #[xN_ q,k,xs,Mf I.hok v,c,h _ _ (I.tok _) ?_];rw[l];exact (j.val k).getD n
end
noncomputable def XQ (td ty:TE):TE:=λ σ H Q=>td σ H λx H1=>∃a,x=.ref a/\IsD H1 a/\ty σ H1 λy H2=>∃o,DGet H2 a y o/\Q (o.getD .non) H2
noncomputable def XR (td ty tx:TE):TE:=λ σ H Q=>td σ H λx H1=>∃a,x=.ref a/\IsD H1 a/\ty σ H1 λy H2=>tx σ H2 λz b=>∃o,DGet b a y o/\Q (o.getD z) b
section
variable {X:Cx} {o e f:Expr} {aA ax:Pos} {td ty tx:TE}
def RK (c:X.A.units+1<cLine)(f:PE X o td)(i:PE X e ty)(m:M1 X o "get" aA e ax):PE X (.Call (.Attribute o "get" aA) [e] [] ax) (XQ td ty):=by
 intro ae s σ H Q I h;refine wpAny_Call_method m.base m.few m.line xB_ qt_ zF_ (thn (f ae s σ H _ I h) λu j ⟨x,H1,b,k,a,ex,d,l⟩=>?_);subst ex;obtain rfl:u=Value.ref a:=k;obtain⟨n,p,_⟩:=Uu b d;exists n,p;rw[m.trees];refine xj_ rfl (xq_ (xJ_ (thn (i ae j σ H1 _ b l) λz B ⟨y,H2,q,r,C,g,t⟩=>zt_ ?_)));exact XO c q g r λD E v w=>#[_,H2,v,w,t]
def Wr (c:X.A.units+1<cLine)(i:PE X o td)(j:PE X e ty)(k:PE X f tx)(m:M2 X o "get" aA e f ax):PE X (.Call (.Attribute o "get" aA) [e,f] [] ax) (XR td ty tx):=by
 intro ae s σ H Q I h;refine wpAny_Call_method m.base m.few m.line xB_ qt_ zF_ (thn (i ae s σ H _ I h) λu l ⟨x,H1,b,n,a,ex,d,p⟩=>?_);subst ex;obtain rfl:u=Value.ref a:=n;obtain⟨q,r,_⟩:=Uu b d;exists q,r;rw[m.trees];refine xj_ rfl (xq_ (xJ_ (thn (j ae l σ H1 _ b p) λK t ⟨y,H2,v,w,B⟩ =>
  xJ_ (thn (k ae t σ H2 _ v B) λL M ⟨z,C,D,E,N,g,F⟩=>zt_ ?_))))
 exact AA_ c D g w E λO P G J=>#[_,C,G,J,F]
end
end L2
namespace L2
open PySem PySem.Spec PyProof.Rows
noncomputable def clOf (env:Env):List (Str×NameKind)->List (Str×Addr)->List (Str×Addr)
 |[],acc=>acc
 | (n,k)::r,acc=>if (k == .free)=true then clOf env r ((n,(env.cells.lookup n).getD 0)::acc) else clOf env r acc
def NH (h:∀p∈scope.names,p.2=.free->∃c,env.cells.lookup p.1=some c):closureFor scope env=pure (clOf env scope.names []):=by
 have o:∀(l:List (Str×NameKind)) (a:List (Str×Addr)),(∀p∈l,p.2=.free->∃c,env.cells.lookup p.1=some c) ->
   (forIn l a λ(x:Str×NameKind) (b:List (Str×Addr))=>(if (x.2 == .free)=true then do let c <- cellOf env x.1;pure (oR ((x.1,c)::b)) else pure (oR b):Sem (ForInStep (List (Str×Addr)))))=(pure (clOf env l a):Sem (List (Str×Addr))):=by
  intro l
  induction l with
  |nil=>intro a _;rfl
  |cons p r j=>
   intro a f;obtain⟨n,k⟩:=p;rw[qt];by_cases d:(k == .free)=true
   ·obtain⟨c,m⟩:=f (n,k) jt_ (by simpa using d);have s:cellOf env n=pure c:=by unfold cellOf;rw[m]
    have g:=j ((n,c)::a) λq i=>f q (jo_ _ i);show ((if (k == .free)=true then do let c <- cellOf env n;pure (oR ((n,c)::a)) else pure (oR a):Sem _) >>= _)=_;rw[if_pos d,s];show (forIn r ((n,c)::a) _:Sem _)=_;rw[clOf,if_pos d,m];exact g
   ·have g:=j a λq i=>f q (jo_ _ i);show ((if (k == .free)=true then do let c <- cellOf env n;pure (oR ((n,c)::a)) else pure (oR a):Sem _) >>= _)=_;rw[if_neg d];show (forIn r a _:Sem _)=_;rw[clOf,if_neg d];exact g
 have e:=o scope.names [] h;unfold closureFor;show (forIn scope.names [] _ >>= λb=>pure b:Sem _)=_;have t:(forIn scope.names [] (λ(x:Str×NameKind) (r:List (Str×Addr))=>(match x with
   | (name,u)=>if (u == .free)=true then do let c <- cellOf env name;pure (oR ((name,c)::r)) else do pure PUnit.unit;pure (oR r):Sem (ForInStep (List (Str×Addr))))))=(pure (clOf env scope.names []):Sem (List (Str×Addr))):=e
 exact qx_ (λz=>z >>= λb=>pure b) t
def Ol {env:Env}:∀(l:List (Str×NameKind)) (acc:List (Str×Addr)),(∀p∈l,p.2=.free->∃c,env.cells.lookup p.1=some c)->(∀q∈acc,env.cells.lookup q.1=some q.2)->∀q∈clOf env l acc,env.cells.lookup q.1=some q.2
 |[],_,_,d,q,a=>d q a
 | (n,k)::r,acc,e,d,q,a=>by
  unfold clOf at a;by_cases f:(k == .free)=true
  ·rw[if_pos f]at a;obtain⟨c,hc⟩:=e (n,k) jt_ (by simpa using f);refine Ol r _ (λp b=>e p (jo_ _ b)) (λp b=>?_) q a;rcases jw_.mp b with rfl|b
   ·show env.cells.lookup n=some ((env.cells.lookup n).getD 0);rw[hc];rfl
   ·exact d p b
  ·rw[if_neg f]at a;exact Ol r _ (λp b=>e p (jo_ _ b)) d q a
def LV {env:Env}:∀(l:List (Str×NameKind)) (acc:List (Str×Addr)) (x:Str),((x,NameKind.free)∈l \/ ∃c,(x,c)∈acc)->∃c,(x,c)∈clOf env l acc
 |[],_,_,h=>by
  rcases h with h|h
  ·cases h
  ·exact h
 | (n,k)::r,acc,x,h=>by
  unfold clOf;by_cases a:(k == .free)=true
  ·rw[if_pos a];refine LV r _ x ?_;rcases h with h|⟨c,h⟩
   ·rcases jw_.mp h with h|h
    ·cases h;exact .inr #[_,jt_]
    ·exact .inl h
   ·exact .inr #[c,jo_ _ h]
  ·rw[if_neg a];refine LV r _ x ?_;rcases h with h|h
   ·rcases jw_.mp h with h|h
    ·cases h;exact absurd rfl a
    ·exact .inl h
   ·exact .inr h
def CI {β:Type}:∀{l:List (Str×β)} {x:Str} {c:β},(x,c)∈l->∃b,l.lookup x=some b
 |[],_,_,h=>by cases h
 | (n,d)::r,x,c,h=>by
  by_cases a:(x==n)=true
  ·exact#[d,by rw[qS_,a]]
  ·rcases jw_.mp h with h|h
   ·cases h;exact absurd (beq_self_eq_true _) a
   ·obtain⟨b,e⟩:=CI h;exact#[b,by rw[qS_];simp only[Bool.not_eq_true]at a;rw[a];exact e]
noncomputable def relF (env:Env):Str×NameKind->Str×NameKind:=λ(n,k)=>if (k==NameKind.free&&env.scope.kind == .function&&env.kindOf n==some .cell) then (n,NameKind.cell) else (n,k)
def Om (h:(k==NameKind.free&&env.scope.kind == .function&&env.kindOf n==some .cell)=true):relF env (n,k)=(n,.cell):=if_pos h
def QN (h:¬ (k==NameKind.free&&env.scope.kind == .function&&env.kindOf n==some .cell)=true):relF env (n,k)=(n,k):=if_neg h
def GI {env:Env}:∀{c:List (Str×NameKind)} {x:Str} {k:NameKind},(∀y∈c,y.2 ≠ .cell) ->
  (c.map (relF env)).lookup x=some k->(k=.cell\/k=.free)->(x,NameKind.free)∈c
 |[],_,_,_,h,_=>by simp at h
 | (n,k')::r,x,k,hc,h,d=>by
  have g := @GI env r x k (λy i=>hc y (jo_ _ i));rw[jT_]at h;by_cases b:(k'==NameKind.free&&env.scope.kind == .function&&env.kindOf n==some .cell)=true
  ·rw[Om b,qS_]at h;cases a:x==n with
   |true=>
    have e:x=n:=by simpa using a
    subst e;have f:k'=.free:=by
     simp only[qi_]at b;simpa using b.1.1
    subst f;exact jt_
   |false=>
    rw[a]at h;exact jo_ _ (g h d)
  ·rw[QN b,qS_]at h;cases a:x==n with
   |true=>
    rw[a]at h;have e:x=n:=by simpa using a
    subst e;have f:k'=k:=jD_ h;subst f;rcases d with rfl|rfl
    ·exact absurd rfl (hc _ jt_)
    ·exact jt_
   |false=>
    rw[a]at h;exact jo_ _ (g h d)
def Lk {env:Env}:∀{c:List (Str×NameKind)} {x:Str},c.lookup x=some .free ->
  ∃k,(k=NameKind.cell\/k=NameKind.free)/\(c.map (relF env)).lookup x=some k
 |[],_,h=>by simp at h
 | (n,k')::r,x,h=>by
  have d := @Lk env r x;rw[qS_]at h;rw[jT_];cases a:x==n with
  |true=>
   rw[a]at h;have f:k'=.free:=jD_ h;subst f;by_cases b:((NameKind.free:NameKind)==NameKind.free&&env.scope.kind == .function&&env.kindOf n==some .cell)=true
   ·exact#[.cell,.inl rfl,by rw[Om b,qS_,a]]
   ·exact#[.free,.inr rfl,by rw[QN b,qS_,a]]
  |false=>
   rw[a]at h;obtain⟨k,g,e⟩:=d h;exists k,g;by_cases b:(k'==NameKind.free&&env.scope.kind == .function&&env.kindOf n==some .cell)=true
   ·rw[Om b,qS_,a];exact e
   ·rw[QN b,qS_,a];exact e
end L2
namespace L2
open PySem PySem.Spec PyProof.Rows
section
variable {prog:Program} {w:World} {A:Around} {R:Result->Shared->Prop} {s:Shared}
abbrev cpW (prog:Program)(w:World)(A:Around)(R:Result->Shared->Prop)(env:Env){α:Type}(m:Sem α)(Q:α->Shared->Prop):Shared->Prop:=wpAny (model prog w) A m Q (notedBy (model prog w) A env λe t=>R (.error e) t)
def PV {dN d iter:Expr} {it acc:Value} (I:Nat->Shared->Prop)
  (j:∀n s,I n s->cpW prog w A R env (pyNext it) (λr s=>match r with
   |none=>R (.ok .next) s
   |some v=>cpW prog w A R env (letOwnedTupleGo d it v) (λ_=>cpW prog w A R env (assign d env v) λ_=>cpW prog w A R env (forIn du true λc r=>if r=true then do let ok <- isTrue c env (eval c env);pure (oR ok) else pure (oR r)) λok s=>
     if ok=true then cpW prog w A R env (eval dN env) (λx=>cpW prog w A R env (call (.builtin "list.append") [acc,x]) λ_ t=>∃m,m<n/\I m t) s else ∃m,m<n/\I m s) s) s)
  (n:Nat) (h:I n s):codeAny (model prog w) A (.compLoop (.ListComp dN [#[d,iter,du,0]] scope pos) 0 it acc env) R s:=by
 have b:∀{α β:Type} {m:Sem α} {f:α->Sem β} {Q:α->Shared->Prop} {g:β->Shared->Prop} {s:Shared},cpW prog w A R env m Q s->(∀a t,Q a t->cpW prog w A R env (f a) g t)->cpW prog w A R env (m >>= f) g s:=λh k=>jc_ (xF_ h k λ_ _ e=>e);refine codeAny_loop rfl I (λn s l=>wpAny_noted ?_) n h;rw[compTurn_list];refine jc_ (wpAny_standAt (b (j n s l) λr u h1=>?_));cases r with
 |none=>exact jl_ h1
 |some v=>
  refine b h1 λ_ _ h2=>b h2 λ_ _ o=>b o λok y i=>?_;cases ok with
  |false=>exact jl_ #[rfl,i]
  |true=>exact jc_ (b i λ_ _ p=>b p λ_ _ q=>jl_ (jl_ #[rfl,q]))
end
noncomputable abbrev Cx.blk (X:Cx)(N:List Str)(sc:Scope)(C:Addr)(s₀:Shared)(H₀:Hp)(ex:List Addr):Cx:=
 {X with N:=N,env:=compEnvC sc (clOf X.env sc.names []) C X.env,outer:=X.stack,s₀:=s₀,H₀:=H₀,ex:=ex,fn:=λ_=>false,pn:=[],xe:=λ_ _=>False}
structure BlkSc (X:Cx)(sc:Scope):Prop where
 kind:sc.kind=.function
 nocell:∀y∈sc.names,y.2 ≠ .cell
 loc:∀y∈sc.names,y.2=.local->sc.names.lookup y.1=some .local
 free:∀y∈sc.names,y.2=.free->X.env.kindOf y.1=some .cell\/X.env.kindOf y.1=some .free
abbrev Caps:=List (Str×Option Nat)
noncomputable def Caps.names (c:Caps):List Str:=c.map (·.1)
noncomputable def Caps.st (c:Caps)(σ:St):St:=c.map λp=>p.2.bind λj=>(σ[j]?).join
def GJ (N:List Str)(sc:Scope):Caps->Prop
 |[]=>True
 | (_,none)::r=>GJ N sc r
 | (x,some j)::r=>(N[j]?=some x/\sc.names.lookup x=some .free)/\GJ N sc r
def GJ.get {N:List Str}{sc:Scope}:∀{c:Caps} {i:Nat} {x:Str} {j:Nat},GJ N sc c->c[i]?=some (x,some j)->N[j]?=some x/\sc.names.lookup x=some .free
 |[],_,_,_,_,h=>by simp at h
 | (y,none)::r,0,x,j,_,h=>by simp at h
 | (y,none)::r,i+1,x,j,ok,h=>GJ.get (c:=r) (i:=i) ok (by simpa using h)
 | (y,some k)::r,0,x,j,ok,h=>by
  simp only[q9_,zu_,Prod.mk.injEq]at h;obtain⟨rfl,rfl⟩:=h;exact ok.1
 | (y,some k)::r,i+1,x,j,ok,h=>GJ.get (c:=r) (i:=i) ok.2 (by simpa using h)
section
variable {X:Cx} {ae:α7} {σ:St} {H:Hp} {s:Shared} {sc:Scope} {fp:List Addr}
def Mh (I:Inv X ae σ H s)(S:BlkSc X sc):∀p∈sc.names,p.2=.free->∃c,X.env.cells.lookup p.1=some c:=λp a e=>I.ok.has p.1 (S.free p a e)
def Cz (I:Inv X ae σ H s)(S:BlkSc X sc) (h:(clOf X.env sc.names []).lookup x=some c):X.env.cells.lookup x=some c:=
 Ol sc.names [] (Mh I S) (λq a=>by cases a) (x,c) (qF_ h)
def AB_ {N:List Str}{C:Addr}(I:Inv X ae σ H s)(S:BlkSc X sc)(i:s.heap.objs.size<=C)(f:∀b∈fp,FpOk X ae H b)(g:∀b∈fp,∃o,s.heap.get? b=some o):(X.blk N sc C s H fp).Ok where
 mod:=I.ok.mod
 kind:=S.kind
 glob:=I.ok.glob
 blt:=I.ok.blt
 above:=i
 inj:=λx y c h1 h2=>I.ok.inj x y c (Cz I S h1) (Cz I S h2)
 has:=λx d=>by
  have j:(x,NameKind.free)∈sc.names:=by
   rcases d with d|d
   ·exact GI (env:=X.env) S.nocell d (.inl rfl)
   ·exact GI (env:=X.env) S.nocell d (.inr rfl)
  obtain⟨c,k⟩:=LV (env:=X.env) sc.names [] x (.inl j);exact CI k
 cab:=λx c h=>absurd (show false=true from h) jy_
 hd:=I.ok.hd
 frames:=I.ok.frames
 stk:=.inl rfl
 exf:=λb a=>by
  obtain⟨o,g⟩:=g b a;refine#[jP_ (jM_ (jv_ g) i),λx c h=>(f b a).2.2.2.2.1 x c (Cz I S h)]
 bs:=I.bs
 bsz:=qo_ I.ok.bsz I.sz
 noex:=λb o e a=>by
  rcases (f b a).2.2.2.1 with z|z
  ·exact I.ok.noex b o e z
  ·exact absurd (jM_ (jv_ (I.ok.bs b o e).1) z) (qp_ _)
 exfs:=λb a z=>by
  rcases jw_.mp (I.stkSub b z) with e|e
  ·exact (f b a).2.1 e
  ·exact (f b a).2.2.1 e
 funs:=I.stack
 frf:=I.stkFree
def Uv {c:Caps}{C:Addr}{d:Shared}{m:Str->α5}(I:Inv X ae σ H s)(S:BlkSc X sc)(hc:GJ X.N sc c)(E:s.heap.objs.size<=C)(O:∀b∈fp,FpOk X ae H b)(P:∀b∈fp,∃o,s.heap.get? b=some o)
  (Q:d.os=s.os) (R:d.gens=s.gens) (g:∀b o,s.heap.get? b=some o->d.heap.get? b=some o) (T:d.heap.Ns C m):Inv (X.blk c.names sc C s H fp) [] (c.st σ) H d where
 ok:=AB_ I S E O P
 os:=Q
 bare:=by rw[R];exact I.bare
 base:=Un.kept g
 loc:=by
  refine#[m,T,λi x v h1 h2 aj=>?_];have f:(c.map (·.1))[i]?=some x:=h1;have t:(c.map λp=>p.2.bind λj=>(σ[j]?).join)[i]?=some (some v):=h2;rw[jh_]at f t;cases e:c[i]? with
  |none=>rw[e]at f;cases f
  |some p=>
   obtain⟨y,F⟩:=p;rw[e]at f t;have U:y=x:=jD_ f;subst U;have G:(F.bind λj=>(σ[j]?).join)=some v:=jD_ t;cases F with
   |none=>cases G
   |some j=>
    have n:(σ[j]?).join=some v:=G;have V:σ[j]?=some (some v):=by
     cases q:σ[j]? with
     |none=>rw[q]at n;cases n
     |some z=>rw[q]at n;exact qx_ some n
    obtain⟨W,w⟩:=GJ.get hc e;have J:X.env.kindOf y=some .cell\/X.env.kindOf y=some .free:=S.free (y,.free) (qF_ w) rfl;have Y:Vis X.env.scope y:=by
     rcases J with k|k
     ·exact .inr (.inl k)
     ·exact .inr (.inr k)
    obtain⟨ak,al,Z⟩:=I.loc;obtain⟨u,r,l⟩:=Z j y v W V Y;exists u,r;rcases l with ⟨k,_⟩|⟨_,a,aa,z⟩
    ·rcases J with k' | k'<;>(rw[k]at k';cases k')
    ·obtain⟨ab,ac,ad⟩:=Lk (env:=X.env) w;have K:(compEnvC sc (clOf X.env sc.names []) C X.env).kindOf y=some ab:=ad;obtain⟨am,af⟩:=LV (env:=X.env) sc.names [] y (.inl (qF_ w));obtain⟨ag,L⟩:=CI af;have M:=Cz I S L;rw[aa]at M;have ah:a=ag:=jD_ M;subst ah;refine .inr #[?_,a,L,?_]
     ·rcases ac with rfl|rfl
      ·exact .inl K
      ·exact .inr K
     ·obtain⟨A,B,D⟩:=z;exact#[A,g _ _ B,D]
 cell:=λx a h=>by
  obtain⟨v,A,B,D⟩:=I.cell x a (Cz I S h);exact#[v,A,g _ _ B,D]
 free:=I.hok.fresh E
 freeC:=λx a h=>I.freeC x a (Cz I S h)
 pin:=λp ai=>absurd (show p∈([]:α7) from ai) (by simp)
 hok:=I.hok.kept g
 len:=by show (c.map _).length=(c.map _).length;rw[ja_,ja_]
def HOk.track (x:HOk P w H h)(d:H a=none)(g:Bm P w (upd H a o) h a o):HOk P w (upd H a o) h:=λb u e=>by
 by_cases f:b=a
 ·subst f;rw[Ab]at e;cases e;exact g
 ·rw[Ak f]at e;exact (x b u e).stay (λc v _ q=>q) (λc q=>by rw[Ak (Bg q d)];exact q) λc xs q=>by rw[Ak (Bg q d)];exact q
def Un.track {fs ex:List Addr}{H H':Hp}{h h':Heap}{a:Addr}{o:HO}(u:Un fs ex H H' h h')(f:h.objs.size<=a)(d:H' a=none):Un fs ex H (upd H' a o) h h' where
 keep:=u.keep
 slot:=u.slot
 free:=λb c q n g=>by rw[Ak (jP_ (jM_ (jv_ q) f))];exact u.free b c q n g
 there:=u.there
 tups:=λb xs q=>by rw[Ak (Bg (u.tups b xs q) d)];exact u.tups b xs q
 frzs:=λb c xs q=>by rw[Ak (Bg (u.frzs b c xs q) d)];exact u.frzs b c xs q
 tbls:=λb ps q=>by
  obtain⟨i,e⟩:=u.tbls b ps q;exact#[i,by rw[Ak (Bg e d)];exact e]
def Y5 {c:Caps}{C D:Addr}{s':Shared}{ag:St}{H':Hp}{o:HO}(I:Inv X ae σ H s)(J:Inv (X.blk c.names sc C s H fp) [] ag H' s')(a:∀b∈fp,FpOk X ae H b)(f:s.heap.objs.size<=D)(e:H' D=none)
  (g:Bm X.prog X.w (upd H' D o) s'.heap D o):Inv X ae σ (upd H' D o) s':=by
 have u:Un (frs X.stack) fp H H' s.heap s'.heap:=J.base;exact I.call' J.os (u.track f e) (J.hok.track e g) J.bare λb d=>#[(a b d).2.2.2.1,(a b d).2.1,(a b d).2.2.2.2.1,(a b d).2.2.2.2.2]
end
def PF (X:Cx)(du:List Expr)(t:TT):Prop:=
 ∀(ae:α7) (s:Shared) (σ:St) (H:Hp) (Q:Bool->Hp->Prop),Inv X ae σ H s->t σ H Q ->
  wpAny (model X.prog X.w) X.A (forIn du true λc r=>if r=true then do let ok <- isTrue c X.env (eval c X.env);pure (oR ok) else pure (oR r)) (TP X ae σ Q) X.xe s
noncomputable def Ws:TT:=λ_ H Q=>Q true H
def By : PF X [] Ws:=λ_ _ _ H _ I h=>wpAny_tests_nil #[H,I,h]
noncomputable def Y6 (wi:TI)(cp:Caps)(g:TG)(tc:TT)(te:TE):TE:=λ σ H Q=>wi σ H λJ H1=>∃W:Nat->Nat->List V->St->Hp->Prop,(∃m,W 0 m [] (cp.st σ) H1)/\∀i m ys c H',W i m ys c H' ->
 ys.length<sizeLine/\((J.stop i H'/\∀D,H' D=none->Q (.ref D) (upd H' D (.lst ys)))\/(J.go i H'/\∃N:List V->St->Hp->Prop,(∀zs a H2,N zs a H2->∃d,d<m/\W (i+1) d zs a H2)/\∀x H2,J.yld i H' x H2->g x c H2 λa f=>tc a f λb e=>
  if b=true then te a e λv h=>N (ys++[v]) a h else N ys a e))
section
variable {X:Cx} {tg iter dN:Expr} {du:List Expr} {sc:Scope} {pos:Pos} {wi:TI} {cp:Caps} {g:TG} {tc:TT} {te:TE}
def PX (hc:X.calm=true)(S:BlkSc X sc)(aS:GJ X.N sc cp)
  (aT:∀C R U ex,PG (X.blk cp.names sc C R U ex) tg g) (aU:∀C R U ex,PF (X.blk cp.names sc C R U ex) du tc) (aV:∀C R U ex,PE (X.blk cp.names sc C R U ex) dN te)
  {ae:α7} {σ:St} {H:Hp} {s:Shared} {J:It} {it:Addr} {fp:List Addr} {ac:Nat->Heap->Prop} {Q:VK} {RR:Value->Addr->Result->Shared->Prop} {E:Value->Shared->Prop}
  (I:Inv X ae σ H s) (T:Turn X.prog X.w X.K tg J fp it ac) (st:ac 0 s.heap) (G:∀b∈fp,FpOk X ae H b)
  (hw:∃W:Nat->Nat->List V->St->Hp->Prop,(∃m,W 0 m [] (cp.st σ) H)/\∀i m ys ag H',W i m ys ag H' ->
   ys.length<sizeLine/\((J.stop i H'/\∀D,H' D=none->Q (.ref D) (upd H' D (.lst ys)))\/(J.go i H'/\∃N:List V->St->Hp->Prop,(∀zs l H2,N zs l H2->∃L,L<m/\W (i+1) L zs l H2)/\∀x H2,J.yld i H' x H2->g x ag H2 λl j=>tc l j λb aA=>
    if b=true then te l aA λv ad=>N (ys++[v]) l ad else N ys l aA)))
  (aW:∀D C s' H' (m:Str->α5),Inv X ae σ H' s'->Q (.ref D) H'->s'.heap.Ns C m->H' C=none->C≠X.env.locals->X.s₀.heap.objs.size<=C->(∀x c,X.env.cells.lookup x=some c->c≠C)->(∀p∈X.pn++ae,p.1≠C)->RR (.ref D) C (.ok .next) s'):
  wpAny (model X.prog X.w) X.A (newList []) (λacc Y=>wpAny (model X.prog X.w) X.A (newFunctionEnv sc X.env.globals (clOf X.env sc.names []) [] X.env.qual none .none (some X.env)) (λaB aX=>
   codeAny (model X.prog X.w) X.A (.compStart (.ListComp dN [#[tg,iter,du,0]] sc pos) 0 (.ref it) acc {aB with scope:=relabel sc X.env}) (RR acc aB.locals) aX) E Y) E s:=by
 obtain⟨W,⟨aY,aZ⟩,a0⟩:=hw;refine qG_ (wpAny_newFunctionEnv S.nocell (by intro y a1;simp at a1) (λZ ap af=>?_) S.kind);dsimp only at ap af ⊢;generalize aq:s.heap.push {cls:=.type "list",dict:=none,data:=.seq ([]:List Value).toArray}=H2 at ap af ⊢;have ar:H2.objs.size=s.heap.objs.size+1:=by rw[<-aq,qZ_]
 have ah:s.heap.objs.size≠H2.objs.size:=by rw[ar];exact jP_ (q7_ _)
 have aa:s.heap.objs.size<=H2.objs.size:=by rw[ar];exact qH _
 have aC:∀b,b<s.heap.objs.size->b≠H2.objs.size:=λb a=>by rw[ar];exact jP_ (xc_ a)
 have aD:∀b o,s.heap.get? b=some o->Z.get? b=some o:=λb o e=>af.extBut b o (aC b (jv_ e)) (jj_ _ (aq ▸ jj_ _ e));have a2:Z.get? s.heap.objs.size=some {cls:=.type "list",data:=.seq ([]:List Value).toArray 0}:=af.extBut _ _ ah (jj_ _ (aq ▸ js_ _ rfl));have aE:ac 0 Z:=T.keep 0 _ _ st λb _ o e=>aD b o e;have ai:∀b∈fp,∃o,s.heap.get? b=some o:=λb a=>let ⟨o,e,_⟩:=T.obj 0 _ st b a;#[o,e];have a3:Inv (X.blk cp.names sc H2.objs.size s H fp) [] (cp.st σ) H {s with heap:=Z,toks:=s.toks+([]:List (Str×Value)).length}:=Uv I S aS aa G ai rfl rfl aD ap;have a4:∀b,s.heap.objs.size<=b->b∉frs X.stack:=λb a z=>by
  rcases jw_.mp (I.stkSub b z) with e|e
  ·exact absurd (jM_ I.lt (by rw[<-e];exact a)) (qp_ _)
  ·exact I.nofs a e
 have aF:∀b,s.heap.objs.size<=b->∀x c,X.env.cells.lookup x=some c->c≠b:=λb a x c e z=>by
  obtain⟨v,q⟩:=I.cell x c e;exact absurd (jM_ q.lt (by rw[z];exact a)) (qp_ _)
 have aG:∀{aj:α7} {H':Hp},(∀b∈fp,H' b=none)->(∀p∈aj,p.1∉fp)->∀b∈fp,FpOk (X.blk cp.names sc H2.objs.size s H fp) aj H' b:=λ{aj H'} a5 f b a=>by
  obtain⟨o,e⟩:=ai b a;refine#[a5 b a,aC b (jv_ e),λz=>?_,.inl a,λx c h=>(G b a).2.2.2.2.1 x c (Cz I S h),λp a6 z=>?_]
  ·rcases jw_.mp (I.stkSub b z) with e|e
   ·exact (G b a).2.1 e
   ·exact (G b a).2.2.1 e
  ·have a7:p∈aj:=by simpa using a6
   exact f p a7 (by rw[z];exact a)
 have aH:∀Y:Shared,Y={s with heap:=Z,toks:=s.toks+([]:List (Str×Value)).length} ->
   codeAny (model X.prog X.w) X.A (.compLoop (.ListComp dN [#[tg,iter,du,0]] sc pos) 0 (.ref it) (.ref s.heap.objs.size) (compEnvC sc (clOf X.env sc.names []) H2.objs.size X.env))
    (RR (.ref s.heap.objs.size) H2.objs.size) Y:=by
  rintro Y rfl;refine PV (λn s'=>∃i ag H' ys d k,Inv (X.blk cp.names sc H2.objs.size s H fp) [] ag H' s'/\ac i s'.heap/\(∀b∈fp,H' b=none)/\H' s.heap.objs.size=none /\
   s'.heap.get? s.heap.objs.size=some {cls:=.type "list",data:=.seq d.toArray k}/\Vals ys d/\W i n ys ag H') ?_ aY
   #[0,_,H,[],[],0,a3,aE,λb a=>(G b a).1,I.hok.fresh (jf_ _),a2,.nil,aZ]
  rintro n as ⟨i,M,j,ys,d,k,a8,aI,a9,ba,bb,rv,bc⟩;obtain⟨bd,be⟩:=a0 i n ys M j bc;have bI:=rv.length
  -- jv accumulator stands dS while anything else runs
  have aJ:∀p ∈ [(s.heap.objs.size,({cls:=.type "list",data:=.seq d.toArray k}:Obj))],p.1∉fp:=λp f z=>by
   have e:p=_:=jd_.mp f;subst e;obtain⟨o,e⟩:=ai _ z;exact absurd (jv_ e) (qp_ _)
  have aK:Inv (X.blk cp.names sc H2.objs.size s H fp) [(s.heap.objs.size,({cls:=.type "list",data:=.seq d.toArray k}:Obj))] M j as:=a8.pins_of λp f=>by
   have e:p=_:=jd_.mp f;subst e;exact#[bb,ba,ah,a4 _ (jf_ _),λv z=>by cases z]
  have aL:∀b∈fp,FpOk (X.blk cp.names sc H2.objs.size s H fp) [(s.heap.objs.size,({cls:=.type "list",data:=.seq d.toArray k}:Obj))] j b:=aG a9 aJ;rcases be with ⟨bf,bg⟩|⟨bh,N,aM,step⟩
  ·refine thn (T.done (X.blk cp.names sc H2.objs.size s H fp) rfl rfl rfl hc i _ as M j _ aK aL aI bf) λr ak ⟨au,al⟩=>?_;subst au;obtain⟨bi,aN,_⟩:=al.pin (s.heap.objs.size,({cls:=.type "list",data:=.seq d.toArray k}:Obj)) (by simp);have bj:Bm X.prog X.w (upd j s.heap.objs.size (.lst ys)) ak.heap s.heap.objs.size (.lst ys):=#[zC_ bd,d,k,rv,bi];obtain⟨bk,bl,_⟩:=al.loc;have bm:Inv (X.blk cp.names sc H2.objs.size s H fp) [] M j ak:=al.pins_of λp f=>by cases f
   have av:=Y5 I bm G (jf_ _) aN bj;refine aW _ _ ak _ bk av (bg _ aN) bl ?_ (qz_ (jM_ I.lt aa)) (qo_ I.sz aa) (aF _ aa) λp f z=>?_
   ·rw[Ak (qs_ ah)];exact al.free
   ·exact absurd (jM_ (jv_ (I.pin p f).1) (by rw[z];exact aa)) (qp_ _)
  ·refine thn (T.item (X.blk cp.names sc H2.objs.size s H fp) rfl rfl rfl hc i _ as M j _ aK aL aI bh) λr ak ⟨u,au,bn⟩=>?_;subst au;refine thn bn λ_ am ⟨x,ad,av,bo,bp,an,bq⟩=>?_;have br:=av.pinned (aG bq aJ) (T.obj _ _ an);have aO:∀{aP:St} {t:Hp} {O:Shared},Inv (X.blk cp.names sc H2.objs.size s H fp) ([(s.heap.objs.size,({cls:=.type "list",data:=.seq d.toArray k}:Obj))]++Pt fp am.heap) aP t O ->
     O.heap.get? s.heap.objs.size=some {cls:=.type "list",data:=.seq d.toArray k}/\t s.heap.objs.size=none/\(∀b∈fp,t b=none)/\∀b∈fp,∀o,am.heap.get? b=some o->O.heap.get? b=some o:=λ{aP t O} B=>by
    obtain⟨aw,ax,_⟩:=B.pin (s.heap.objs.size,({cls:=.type "list",data:=.seq d.toArray k}:Obj)) (by simp);refine#[aw,ax,λb a=>?_,λb a o e=>?_]
    ·obtain⟨o,e,_⟩:=T.obj _ _ an b a;exact (B.pin (b,o) (j9_ _ (j9_ _ (HY a e)))).2.1
    ·exact (B.pin (b,o) (j9_ _ (j9_ _ (HY a e)))).1
   refine xF_ (aT _ _ _ _ _ am M ad x u _ br bo (step x ad bp)) (λ_ bs ⟨P,bt,bu,bv⟩=>?_) λ_ _ z=>oW z;refine xF_ (aU _ _ _ _ _ bs P bt _ bu bv) (λok O ⟨t,B,ao⟩=>?_) λ_ _ z=>oW z;cases ok with
   |false=>
    rw[if_neg jy_];rw[if_neg jy_]at ao;obtain⟨L,hm,bw⟩:=aM _ _ _ ao;obtain⟨aw,ax,bx,bz⟩:=aO B;exact#[L,hm,i+1,P,t,ys,d,k,B.pins_of (λp f=>by cases f),T.keep _ _ _ an bz,bx,ax,aw,rv,bw]
   |true=>
    rw[if_pos rfl];rw[if_pos rfl]at ao;refine xF_ (aV _ _ _ _ _ O P t _ B ao) (λv ab ⟨y,ay,aQ,bA,bB⟩=>?_) λ_ _ z=>oW z;obtain⟨L,hm,bC⟩:=aM _ _ _ bB;obtain⟨az,aR,bD,bE⟩:=aO aQ;refine xV_ F.slot_list_append #[_,az,rfl] F.entry_list_append (F.args_list_append_2 _ _) (rm s.heap.objs.size d.toArray k v (by rw[jm_];lia)) #[az,?_];obtain⟨k',q⟩:∃k',(ab.heap.update s.heap.objs.size (Obj.mapSeq λx=>x.push v)).get? s.heap.objs.size=some {cls:=.type "list",data:=.seq (d++[v]).toArray k' }:=#[_,by
     have q:=PySem.IsL.update az λx=>x.push v;have e:(d++[v]).toArray=d.toArray.push v:=by simp
     rw[e];exact q]
    have bF:Inv (X.blk cp.names sc H2.objs.size s H fp) [] P ay ab:=aQ.pins_of λp f=>by cases f
    have bG:Inv (X.blk cp.names sc H2.objs.size s H fp) [] P ay {ab with heap:=ab.heap.update s.heap.objs.size (Obj.mapSeq λx=>x.push v),toks:=ab.toks}:=
     bF.turned (it:=s.heap.objs.size) (λb o a e=>(qT_ _ _ (qs_ a)).trans e) aR ah (.inr (jf_ _)) (λx c e=>aF _ (jf_ _) x c (Cz I S e)) (λp f=>by cases f)
    refine#[L,hm,i+1,P,ay,ys++[y],d++[v],k',bG,T.keep (i+1) am.heap _ an (λb a o e=>?_),bD,aR,q,rv.append (.cons bA .nil),bC]
    ·refine (qT_ _ _ ?_).trans (bE b a o e);intro z;obtain⟨bJ,bH⟩:=ai b a;exact absurd (jv_ bH) (by rw[<-z];exact qp_ _)
 exact codeAny_compStart_list (aH _ rfl) (T.self _ 0 _ _ _ aE (aH _ rfl))
def Bh (hc:X.calm=true)(S:BlkSc X sc)(d:GJ X.N sc cp)(hi:PI X tg iter wi)
  (f:∀C a c ex,PG (X.blk cp.names sc C a c ex) tg g) (i:∀C a c ex,PF (X.blk cp.names sc C a c ex) du tc) (j:∀C a c ex,PE (X.blk cp.names sc C a c ex) dN te)
  (hs:∀x,foldedSetIterable iter X.env x=pure x:=by intro _;rfl):PE X (.ListComp dN [#[tg,iter,du,0]] sc pos) (Y6 wi cp g tc te):=by
 intro ae s σ H Q I h;rw[eval_ListComp];refine wpAny_comprehension_free (use:=none) rfl hs (NH (Mh I S)) S.kind S.loc (thn (hi ae s σ H _ I h) λL M k=>thn k λO P l=>?_);obtain⟨it,fp,R,J,H2,e,n,T,p,r,hw⟩:=l;subst e;refine PX (RR:=λt C=>compPost (model X.prog X.w) X.A X.xe none (EP X ae σ Q) t C) hc S d f i j n T p r hw ?_;intro D C s' H' m u q v y z B E F;exact#[m,v,λh' G=>#[.ref D,H',u.turned (t':=s'.toks) (it:=C) (λb o K e=>G.extBut b o K e) y z (.inr B) E F,rfl,q]]
def QO (p:X.N.Nodup)(hi:X.N[i]?=some x)(j:X.env.scope.names.lookup x=some .local)(hc:X.calm=true)(S:BlkSc X sc)(r:GJ X.N sc cp)(t:PI X tg iter wi)
  (u:∀C c d ex,PG (X.blk cp.names sc C c d ex) tg g) (y:∀C c d ex,PF (X.blk cp.names sc C c d ex) du tc) (z:∀C c d ex,PE (X.blk cp.names sc C c d ex) dN te)
  (B:swapsWith (.ListComp dN [#[tg,iter,du,0]] sc pos) (some (.Name x px)) spos.line X.env=pure true:=by rfl)
  (hs:∀x,foldedSetIterable iter X.env x=pure x:=by intro _;rfl):PS X (.Assign [.Name x px] (.ListComp dN [#[tg,iter,du,0]] sc pos) spos) (tAsg (Y6 wi cp g tc te) (Po i)):=by
 intro ae s σ H D I h;rw[exec_Assign_Name_used _ _ _ _ B];refine jc_ (wpAny_standAt (jc_ ?_));show wpAny _ X.A (do let _ <- comprehension (.ListComp dN [⟨tg,iter,du,0⟩] sc pos) sc X.env _ (newList []) false (eval iter X.env) (some (assign (.Name x px) X.env))) _ _ s;refine jc_ (xF_ (wpAny_comprehension_free (use:=some (assign (.Name x px) X.env)) (Q:=λ_ s'=>SP X ae D .next s') rfl hs (NH (Mh I S)) S.kind S.loc
  (thn (t ae s σ H _ I h) λag ah E=>thn E λai aj F=>?_)) (λ_ s' G=>jl_ (jl_ G)) λ_ _ e=>e)
 obtain⟨it,fp,ak,J,H2,e,K,T,L,M,hw⟩:=F;subst e;refine PX (RR:=λO C=>compPost (model X.prog X.w) X.A X.xe (some (assign (.Name x px) X.env)) (λ_ s'=>SP X ae D .next s') O C) (Q:=λv H1=>Po i v σ H1 D.nx) hc S r u y z K T L M hw ?_;intro k C s' H' m P q R U l V n W;show wpAny _ X.A (assign (.Name x px) X.env (.ref k)) _ _ _;refine wpAny_assign_Name (Pl P p hi (.inl j) (v:=.ref k) rfl (λY Z ⟨a,aa,f⟩=>?_) (.inr j));have ab:C≠a:=by
  rcases f with rfl|f
  ·exact l
  ·exact λac=>n _ _ f ac.symm
 refine#[m,R.sameBut aa ab,λh' ad=>#[_,H',Z.turned (t':=Y.toks) (it:=C) (λb o af e=>ad.extBut b o af e) U l (.inr V) n W,q]]
end
def Uw {K:α3}{a:Addr}{xs:List V}{g:TG}{tc:TT}{te:TE}{Q:VK}{σ:St}{H:Hp}(d:Nat->List V->St->Hp->Prop)(l:d 0 [] σ H)(hz:xs.length<sizeLine)
  (n:∀i ys σ H,i<=xs.length->d i ys σ H->SqL K H a xs/\ys.length<=i)
  (hs:∀i x ys σ H,xs[i]?=some x->d i ys σ H->g x σ H λc H2=>tc c H2 λb f=>if b=true then te c f λv h=>d (i+1) (ys++[v]) c h else d (i+1) ys c f)
  (o:∀ys σ H,d xs.length ys σ H->∀D,H D=none->Q (.ref D) (upd H D (.lst ys))):
  ∃W:Nat->Nat->List V->St->Hp->Prop,(∃m,W 0 m [] σ H)/\∀i m ys ag H',W i m ys ag H' ->
   ys.length<sizeLine/\(((Itl K a).stop i H'/\∀D,H' D=none->Q (.ref D) (upd H' D (.lst ys)))\/((Itl K a).go i H'/\∃N:List V->St->Hp->Prop,(∀zs c H2,N zs c H2->∃j,j<m/\W (i+1) j zs c H2)/\∀x H2,(Itl K a).yld i H' x H2->g x ag H2 λc f=>tc c f λb h=>
    if b=true then te c h λv r=>N (ys++[v]) c r else N ys c h)):=by
 refine#[λi m ys σ H=>m=xs.length-i/\i<=xs.length/\d i ys σ H,#[xs.length,by simp,j8_ _,l],?_];rintro i m ys σ H ⟨rfl,hi,p⟩;obtain⟨q,t⟩:=n i ys σ H hi p;refine#[by lia,?_];by_cases k:i<xs.length
 ·refine .inr #[#[xs,xs[i],q,by simp[k]],d (i+1),λzs ag H' s=>#[xs.length-(i+1),by lia,rfl,k,s],λx H' y=>?_];obtain⟨e,y⟩:=y;subst e;exact hs i x ys σ _ (y xs q) p
 ·have e:i=xs.length:=by lia
  subst e;exact .inl #[#[xs,q,jf_ _],o ys σ H p]
def Wt {K:α3}{a:Addr}{xs:List V}{g:TG}{tc:TT}{te:TE}{Q:VK}{σ:St}{H:Hp}(d:Nat->List V->St->Hp->Prop)(l:d 0 [] σ H)(hz:xs.length<sizeLine)
  (n:∀i ys σ H,i<=xs.length->d i ys σ H->SqT K H a xs/\ys.length<=i)
  (hs:∀i x ys σ H,xs[i]?=some x->d i ys σ H->g x σ H λc H2=>tc c H2 λb f=>if b=true then te c f λv h=>d (i+1) (ys++[v]) c h else d (i+1) ys c f)
  (o:∀ys σ H,d xs.length ys σ H->∀D,H D=none->Q (.ref D) (upd H D (.lst ys))):
  ∃W:Nat->Nat->List V->St->Hp->Prop,(∃m,W 0 m [] σ H)/\∀i m ys ag H',W i m ys ag H' ->
   ys.length<sizeLine/\(((Itt K a).stop i H'/\∀D,H' D=none->Q (.ref D) (upd H' D (.lst ys)))\/((Itt K a).go i H'/\∃N:List V->St->Hp->Prop,(∀zs c H2,N zs c H2->∃j,j<m/\W (i+1) j zs c H2)/\∀x H2,(Itt K a).yld i H' x H2->g x ag H2 λc f=>tc c f λb h=>
    if b=true then te c h λv r=>N (ys++[v]) c r else N ys c h)):=by
 refine#[λi m ys σ H=>m=xs.length-i/\i<=xs.length/\d i ys σ H,#[xs.length,by simp,j8_ _,l],?_];rintro i m ys σ H ⟨rfl,hi,p⟩;obtain⟨q,t⟩:=n i ys σ H hi p;refine#[by lia,?_];by_cases k:i<xs.length
 ·refine .inr #[#[xs,xs[i],q,by simp[k]],d (i+1),λzs ag H' s=>#[xs.length-(i+1),by lia,rfl,k,s],λx H' y=>?_];obtain⟨e,y⟩:=y;subst e;exact hs i x ys σ _ (y xs q) p
 ·have e:i=xs.length:=by lia
  subst e;exact .inl #[#[xs,q,jf_ _],o ys σ H p]
def SM {lo:Int}{n:Nat}{g:TG}{tc:TT}{te:TE}{Q:VK}{σ:St}{H:Hp}(c:Nat->List V->St->Hp->Prop)(k:c 0 [] σ H)(hz:n<sizeLine)
  (l:∀i ys σ H,i<=n->c i ys σ H->ys.length<=i)
  (hs:∀i ys σ H,i<n->c i ys σ H->g (.int (lo+i)) σ H λa H2=>tc a H2 λb d=>if b=true then te a d λv f=>c (i+1) (ys++[v]) a f else c (i+1) ys a d)
  (o:∀ys σ H,c n ys σ H->∀D,H D=none->Q (.ref D) (upd H D (.lst ys))):
  ∃W:Nat->Nat->List V->St->Hp->Prop,(∃m,W 0 m [] σ H)/\∀i m ys ag H',W i m ys ag H' ->
   ys.length<sizeLine/\(((Itr lo n).stop i H'/\∀D,H' D=none->Q (.ref D) (upd H' D (.lst ys)))\/((Itr lo n).go i H'/\∃N:List V->St->Hp->Prop,(∀zs a H2,N zs a H2->∃j,j<m/\W (i+1) j zs a H2)/\∀x H2,(Itr lo n).yld i H' x H2->g x ag H2 λa d=>tc a d λb f=>
    if b=true then te a f λv q=>N (ys++[v]) a q else N ys a f)):=by
 refine#[λi m ys σ H=>m=n-i/\i<=n/\c i ys σ H,#[n,by simp,j8_ _,k],?_];rintro i m ys σ H ⟨rfl,hi,p⟩;have s:=l i ys σ H hi p;refine#[by lia,?_];by_cases h:i<n
 ·refine .inr #[h,c (i+1),λzs ag H' r=>#[n-(i+1),by lia,rfl,h,r],λx H' y=>?_];obtain⟨e,y⟩:=y;subst e y;exact hs i ys σ _ h p
 ·have e:i=n:=by lia
  subst e;exact .inl #[jf_ _,o ys σ H p]
end L2
namespace L2
open PySem PySem.Spec PyProof.Rows
section
variable {X:Cx}
def Oo {bs:List Bool}{its:List Value}(r:Vals (bs.map V.bl) its){i:Nat}{v:Value}(h:its[i]?=some v):∃b,bs[i]?=some b/\v=.bool b:=by
 have hi:i<its.length:=(jb_.mp h).1;have c:=r.length;rw[ja_]at c;obtain⟨u,a,d⟩:=r.get (i:=i) (x:=V.bl bs[i]) (by rw[jh_];simp[show i<bs.length by lia]);rw[h]at a;cases a;exact#[bs[i],by simp[show i<bs.length by lia],d]
def XS (bs:List Bool):(oN bs.length).map (λi=>bs.getD i false)=bs:=
 List.ext_getElem (by simp) λi _ h=>by simp[h]
def range_all {bs:List Bool}:(oN bs.length).all (λi=>bs.getD i false)=bs.all id:=by
 have e:=qx_ (λl=>l.all id) (XS bs);rw[ze_]at e;exact e
def Ux {bs:List Bool}:(oN bs.length).any (λi=>bs.getD i false)=bs.any id:=by
 have e:=qx_ (λl=>l.any id) (XS bs);rw[rp]at e;exact e
def Mi {bs:List Bool}{its:List Value}{A:Around}{P:Program}{w:World}(r:Vals (bs.map V.bl) its):TruthOf P w A (λi v=>its.toArray[i]?=some v) (λi=>bs.getD i false):=by
 intro i v s Q E c d;obtain⟨b,f,e⟩:=Oo r (by simpa using c);subst e;refine qV_ ?_;have e:bs.getD i false=b:=by rw[jx_,f];rfl
 have a:Q (bs.getD i false) s:=d;rw[e]at a;exact a
def LW (hc:X.calm=true):DU X (.builtin "all") (λxs H Q=>∃(p:Addr) (bs:List Bool),xs=[.ref p]/\SqL X.K H p (bs.map V.bl)/\Q (.bl (bs.all id)) H):=by
 intro ae s σ H xs us Q I r h;obtain⟨p,bs,rfl,f,q⟩:=h;obtain⟨u,rfl,g⟩:=vals1 r;cases g;obtain⟨c,rv,a,w⟩:=I.list f;have d:=rv.length;rw[ja_]at d;have j:X.A.in1.handled=none:=I.ok.hd hc;obtain⟨o,k,_⟩:=id a.isList;have l:p≠s.heap.objs.size:=jP_ (jv_ k);refine call_all_walk (xU_ a.isList ?_);refine#[s.heap.objs.size,_,_,c.toArray.size,_,_,λi=>bs.getD i false,rfl,Walks.list j _ p l c.toArray,#[#[_,js_ _ rfl,rfl,rfl],a.isList.at λo e=>jj_ _ e],Mi rv,λh' m n=>?_];refine#[.bl (bs.all id),H,I.kept (t':=m) λb o e=>n b o ?_ (jj_ _ e),?_,q]
 ·intro t;have v:b=s.heap.objs.size:=by simpa using t
  exact absurd (jv_ e) (by rw[v];exact qp_ _)
 ·rw[jm_,<-d,range_all];rfl
def RL (hc:X.calm=true):DU X (.builtin "any") (λxs H Q=>∃(p:Addr) (bs:List Bool),xs=[.ref p]/\SqL X.K H p (bs.map V.bl)/\Q (.bl (bs.any id)) H):=by
 intro ae s σ H xs us Q I r h;obtain⟨p,bs,rfl,f,q⟩:=h;obtain⟨u,rfl,g⟩:=vals1 r;cases g;obtain⟨c,rv,a,w⟩:=I.list f;have d:=rv.length;rw[ja_]at d;have j:X.A.in1.handled=none:=I.ok.hd hc;obtain⟨o,k,_⟩:=id a.isList;have l:p≠s.heap.objs.size:=jP_ (jv_ k);refine call_any_walk (xU_ a.isList ?_);refine#[s.heap.objs.size,_,_,c.toArray.size,_,_,λi=>bs.getD i false,rfl,Walks.list j _ p l c.toArray,#[#[_,js_ _ rfl,rfl,rfl],a.isList.at λo e=>jj_ _ e],Mi rv,λh' m n=>?_];refine#[.bl (bs.any id),H,I.kept (t':=m) λb o e=>n b o ?_ (jj_ _ e),?_,q]
 ·intro t;have v:b=s.heap.objs.size:=by simpa using t
  exact absurd (jv_ e) (by rw[v];exact qp_ _)
 ·rw[jm_,<-d,Ux];rfl
def FE:DU X (.builtin "isinstance") (λxs H Q=>∃x c cv t b,xs=[x,c]/\TyOf X.K H x t/\(∀u,RelV c u->u=cv)/\kitOne X.K t cv=some b/\Q (.bl b) H):=by
 intro ae s σ H xs us Q I r h;obtain⟨x,c,cv,t,b,rfl,ty,a,d,q⟩:=h;obtain⟨u,i,rfl,e,f⟩:=vals2 r;rw[a _ f];exact Ud I e ty d λg=>#[.bl b,H,I.tok g,rfl,q]
def EqD (K:α3)(H:Hp):Nat->V->V->Bool->Prop
 |0,x,y,b=>EB x=true/\EB y=true/\b=eqV x y
 |n+1,x,y,b=>(EB x=true/\EB y=true/\b=eqV x y) \/ ∃a c xs ys,x=.ref a/\y=.ref c/\((SqL K H a xs/\SqL K H c ys)\/(SqT K H a xs/\SqT K H c ys)) /\
   ∃e:Nat->Bool,(∀i x y,xs[i]?=some x->ys[i]?=some y->EqD K H n x y (e i))/\b=(decide (xs.length=ys.length)&&(oN (min xs.length ys.length)).all e)
def in1_units (A:Around):A.in1.units=A.units+1:=rfl
def RM (h:EB x=true):eqV x x=true:=by
 cases x<;>first|rfl|(simp[eqV];done)|exact absurd (show false=true from h) jy_
def EqD.self (I:Inv X ae σ H s):∀(n:Nat) {x:V} {b:Bool},EqD X.K H n x x b->b=true:=by
 intro n
 induction n with
 |zero=>
  rintro x b ⟨d,_,rfl⟩;exact RM d
 |succ n f=>
  rintro x b (⟨d,_,rfl⟩|⟨a,c,xs,ys,rfl,g,h,e,j,rfl⟩)
  ·exact RM d
  ·cases g;have k:xs=ys:=by
    rcases h with ⟨h1,h2⟩|⟨h1,h2⟩
    ·exact I.list_inj h1 h2
    ·exact I.tuple_inj h1 h2
   subst k;simp only[decide_true,qR,qc,qw_,jU_];intro i hi;exact f (j i xs[i] xs[i] (by simp[hi]) (by simp[hi]))
def Uy : ((oN (min n m)).all e&&n==m)=(decide (n=m)&&(oN (min n m)).all e):=by
 rw[Bool.and_comm]
 congr 1
def EqD.at (I:Inv X ae σ H s):∀(n:Nat) (A:Around) {x y:V} {u v:Value} {b:Bool},A.units+n<cLine->RelV x u->RelV y v->EqD X.K H n x y b ->
  SeqAt.EqAt A s u v b/\∀a c,x=.ref a->y=.ref c->SeqAt.RcAt A s u v b:=by
 intro n
 induction n with
 |zero=>
  intro A x y u v b D m o h;obtain⟨l,r,rfl⟩:=h;exists Uk m o l r;rintro a c rfl rfl;exact absurd (show false=true from l) jy_
 |succ n E=>
  intro A x y u v b D m o h;have F:=h;rcases h with ⟨l,r,rfl⟩|⟨a,c,xs,ys,rfl,rfl,G,e,J,rfl⟩
  ·exists Uk m o l r;rintro a c rfl rfl;exact absurd (show false=true from l) jy_
  ·cases m;cases o;have z:∀(d f:List Value),Vals xs d->Vals ys f->∀j (h1:j<d.toArray.size) (h2:j<f.toArray.size),SeqAt.EqAt A.in1 s d.toArray[j] f.toArray[j] (e j):=λd f g k j h1 h2=>by
    have p:=g.length;have t:=k.length;rw[jm_]at h1 h2;obtain⟨L,M,N⟩:=g.get (i:=j) (x:=xs[j]'s!"") (by simp[show j<xs.length by lia]);obtain⟨O,P,Q⟩:=k.get (i:=j) (x:=ys[j]'s!"") (by simp[show j<ys.length by lia]);have R:d.toArray[j]'(by rw[jm_];exact h1)=L:=by
     have:=(jb_.mp M).2;simpa using this
    have S:f.toArray[j]'(by rw[jm_];exact h2)=O:=by
     have:=(jb_.mp P).2;simpa using this
    rw[R,S];exact (E A.in1 (by rw[in1_units];lia) N Q (J j _ _ (by simp[show j<xs.length by lia]) (by simp[show j<ys.length by lia]))).1
   have B:SeqAt.RcAt A s (.ref a) (.ref c) (decide (xs.length=ys.length)&&(oN (min xs.length ys.length)).all e):=by
    rcases G with ⟨h1,h2⟩|⟨h1,h2⟩
    ·obtain⟨d,g,q,_⟩:=I.list h1;obtain⟨f,k,p2,_⟩:=I.list h2;have p:=g.length;have t:=k.length;by_cases w:xs.length=ys.length
     ·have:=SeqAt.RcAt.lists (e:=e) q.isList p2.isList (by rw[jm_,jm_];lia) s!"" (z d f g k);rw[jm_,<-p]at this;rw[jH_ w,qR,<-w,qc];exact this
     ·rw[jQ_ w,qG];exact SeqAt.RcAt.lists_lengths q.isList p2.isList (by rw[jm_,jm_];simp;lia) s!""
    ·obtain⟨d,g,q,_⟩:=I.tuple h1;obtain⟨f,k,p2,_⟩:=I.tuple h2;have p:=g.length;have t:=k.length;have:=SeqAt.RcAt.tuples (e:=e) (show s.heap.IsTuple a d.toArray from q) (show s.heap.IsTuple c f.toArray from p2) s!"" (z d f g k);rw[jm_,jm_,<-p,<-t,Uy]at this;exact this
   refine#[?_,λT U _ _=>B];by_cases C:a=c
   ·subst C;rw[EqD.self I (n+1) F];exact SeqAt.EqAt.same _
   ·exact SeqAt.EqAt.of_refs C B
noncomputable def rEqD (K:α3)(n:Nat):R2:=λx y H Q=>∃a c b,x=.ref a/\y=.ref c/\EqD K H n x y b/\Q (.bl b) H
def AC_ (n:Nat)(d:X.A.units+n<cLine):OpR X (compareOp .Eq) (rEqD X.K n):=by
 intro ae s σ H x y v u Q I e f h;obtain⟨a,c,b,ex,g,h,q⟩:=h;exact (EqD.at I n X.A d e f h).2 a c ex g _ _ _ _ #[.bl b,H,I,rfl,q]
def EqD.flat {K:α3} (g:(SqL K H a xs/\SqL K H c ys)\/(SqT K H a xs/\SqT K H c ys))(e:∀x∈xs,EB x=true)(f:∀y∈ys,EB y=true)(hi:∀x∈xs,∀y∈ys,eqV x y=decide (x=y))(n:Nat):
  EqD K H (n+1) (.ref a) (.ref c) (decide (xs=ys)):=by
 have base:∀m i x y,xs[i]?=some x->ys[i]?=some y->EqD K H m x y (decide (x=y)):=λm i x y h1 h2=>by
  have b:=je_ h1;have d:=je_ h2;cases m with
  |zero=>exact#[e _ b,f _ d,(hi _ b _ d).symm]
  |succ m=>exact .inl #[e _ b,f _ d,(hi _ b _ d).symm]
 refine .inr #[a,c,xs,ys,rfl,rfl,g,λi=>match xs[i]?,ys[i]? with|some x,some y=>decide (x=y)|_,_=>true,λi x y h1 h2=>?_,?_]
 ·simp only[h1,h2];exact base n i x y h1 h2
 ·rw[j1_];simp only[j6_,qi_,qw_,jU_];constructor
  ·rintro rfl;refine#[rfl,λi hi=>?_];have hi:i<xs.length:=by lia
   simp[hi]
  ·rintro⟨j,h⟩;refine qH_ λi=>?_;by_cases hi:i<xs.length
   ·have:=h i s!"";simp[hi,show i<ys.length by lia]at this;simp[hi,show i<ys.length by lia,this]
   ·rw[j5_ s!"",j5_ s!""]
end
end L2
namespace L2
open PySem PySem.Spec PyProof.Rows
noncomputable def AD_ (outer:List (Str×NameKind))(sc:Scope):Bool:=
 sc.kind == .function&&sc.names.all (λy=>y.2 != .cell&&(y.2 != .local||sc.names.lookup y.1==some .local)&&(y.2 != .free||outer.lookup y.1==some .cell||outer.lookup y.1==some .free))
def Bz (h:AD_ X.env.scope.names sc=true):BlkSc X sc:=by
 unfold AD_ at h;rw[qi_,qw_]at h;obtain⟨h1,h2⟩:=h;refine#[by simpa using h1,λy a z=>?_,λy a z=>?_,λy a z=>?_]
 ·have:=h2 y a;simp only[qi_]at this;have:=this.1.1;rw[z]at this;exact absurd this (by decide)
 ·have:=h2 y a;simp only[qi_]at this;have:=this.1.2;rw[z]at this;simpa using this
 ·have:=h2 y a;simp only[qi_]at this;have:=this.2;rw[z]at this;have t:(X.env.scope.names.lookup y.1==some .cell||X.env.scope.names.lookup y.1==some .free)=true:=by simpa using this
  rw[rQ]at t;rcases t with t|t
  ·exact .inl (by show X.env.scope.names.lookup y.1=some .cell;simpa using t)
  ·exact .inr (by show X.env.scope.names.lookup y.1=some .free;simpa using t)
section
variable {t u:TS} {te ta tb tc':TE} {tt tu:TT} {A B:TA} {D:Ends} {σ:St} {H:Hp} {Q:VK} {R:Bool->Hp->Prop} {S:List V->Hp->Prop} {i:Nat} {v:V} {g:TG} {r r':R2} {K:α3} {wi:TI} {cp:Caps}
theorem AE_:tSeq t u D σ H=t {D with nx:=u D} σ H:=rfl
theorem XT:Ai_ D σ H=D.nx σ H:=rfl
theorem AF_:tAsg te g D σ H=te σ H λx H1=>g x σ H1 D.nx:=rfl
theorem Uz : Po i v σ H N=N (σ.set i (some v)) H:=rfl
theorem AG_:tVar i σ H Q=∃v,σ[i]?=some (some v)/\Q v H:=rfl
theorem r_c:tC v σ H Q=Q v H:=rfl
theorem r_op:tOp r ta tb σ H Q=ta σ H λx H1=>tb σ H1 λy H2=>r x y H2 Q:=rfl
theorem r_un : tUn f ta σ H Q=ta σ H λx H1=>f x H1 Q:=rfl
theorem r_I : rI C f x y H Q=∃i j,x=.int i/\y=.int j/\C i j/\Q (f i j) H:=rfl
theorem r_I0 : rI0 f x y H Q=∃i j,x=.int i/\y=.int j/\Q (f i j) H:=rfl
theorem r_U : rU f x H Q=∃i,x=.int i/\Q (f i) H:=rfl
theorem XU : Wj sp aK E A σ H Q=A σ H λvs H1=>sp (vs++aK) H1 Q E:=rfl
theorem XW:Ar_ te A σ H S=te σ H λx H1=>A σ H1 λxs H2=>S (x::xs) H2:=rfl
theorem AH_:tNil σ H S=S [] H:=rfl
theorem AI_:tRet te D σ H=te σ H D.rt:=rfl
theorem XX:Aj_ te D σ H=te σ H λ_ H1=>D.nx σ H1:=rfl
theorem r_if:tIfS tt t u D σ H=tt σ H λb H1=>if b=true then t D σ H1 else u D σ H1:=rfl
theorem r_B:tB te σ H R=te σ H λx H1=>∃c,x=.bl c/\R c H1:=rfl
theorem XY:T8 te σ H R=te σ H λx H1=>∃c,x=.bl c/\R c H1:=rfl
theorem AJ_:tAnd tt tu σ H R=tt σ H λc H1=>if c=true then tu σ H1 R else R false H1:=rfl
theorem r_or:tOr tt tu σ H R=tt σ H λc H1=>if c=true then R true H1 else tu σ H1 R:=rfl
theorem AK_:tNot tt σ H R=tt σ H λc H1=>R (!c) H1:=rfl
theorem XZ:Af_ ta tb σ H Q=ta σ H λx H1=>∃c,x=.bl c/\if c=true then tb σ H1 Q else Q (.bl false) H1:=rfl
theorem X0:Ag_ ta σ H Q=ta σ H λx H1=>∃c,x=.bl c/\Q (.bl (!c)) H1:=rfl
theorem UA:T9 r r' ta tb tc' σ H Q=ta σ H λx H1=>tb σ H1 λy H2=>r x y H2 λz a=>∃k,z=.bl k/\(if k=true then tc' σ a λb c=>r' y b c Q else Q (.bl false) a):=rfl
theorem r_CB : tCB f A σ H Q=A σ H λvs H1=>f vs H1 Q:=rfl
theorem AL_:tLst A σ H Q=A σ H λxs H1=>xs.length<=sizeLine/\∀p,H1 p=none->Q (.ref p) (upd H1 p (.lst xs)):=rfl
theorem AM_:tTup A σ H Q=A σ H λxs H1=>xs.length<=sizeLine/\∀p,H1 p=none->Q (.ref p) (upd H1 p (.tup xs)):=rfl
theorem AN_ : rIxL K x y H Q=∃p xs i v,x=.ref p/\y=.int i/\SqL K H p xs/\atI xs i=some v/\Q v H:=rfl
theorem AO_ : rIxT K x y H Q=∃p xs i v,x=.ref p/\y=.int i/\SqT K H p xs/\atI xs i=some v/\Q v H:=rfl
theorem r_sl : tSl f te tl th σ H Q=te σ H λx H1=>tl σ H1 λl H2=>th σ H2 λu a=>f x l u a Q:=rfl
theorem X1 : Av_ te σ H U=te σ H λx H1=>∃i,x=.int i/\U (some i) H1:=rfl
theorem RO : Ui σ H U=U none H:=rfl
theorem AP_ {lo hi:Option Int}:rSlL K x lo hi H Q=∃a xs,x=.ref a/\SqL K H a xs/\∀p,H p=none->Q (.ref p) (upd H p (.lst (cutV xs lo hi))):=rfl
theorem r_BM : tBM K T f te A σ H Q=te σ H λx H1=>tyV K T x H1/\A σ H1 λxs H2=>f x xs H2 Q:=rfl
theorem RP : Um x vs H Q=∃l xs y,x=.ref l/\vs=[y]/\H l=some (.lst xs)/\xs.length<sizeLine/\Q .non (upd H l (.lst (xs++[y]))):=rfl
theorem r_Eq : rEq x y H Q=(scal x y=true/\Q (.bl (decide (x=y))) H):=rfl
theorem r_Ne : rNe x y H Q=(scal x y=true/\Q (.bl (!decide (x=y))) H):=rfl
theorem AQ_ : rEqD K n x y H Q=∃a c b,x=.ref a/\y=.ref c/\EqD K H n x y b/\Q (.bl b) H:=rfl
theorem UB : An_ K te σ H Z=te σ H λx H1=>∃a,x=.ref a/\(∃xs,SqL K H1 a xs)/\Z (Itl K a) H1:=rfl
theorem X2 : iTup K te σ H Z=te σ H λx H1=>∃a,x=.ref a/\(∃xs,SqT K H1 a xs)/\Z (Itt K a) H1:=rfl
theorem UC : Ao_ A σ H Z=A σ H λvs H1=>∃j:Int,vs=[.int j] /\ -(2 ^ 62)<=j/\j<2 ^ 62/\Z (Itr 0 j.toNat) H1:=rfl
theorem X3:Ws σ H R=R true H:=rfl
end
def Same.new (h:H p=none):Same H (upd H p o):=λb u e=>by rw[Ak (Bg e h)];exact e
def Same.newT (s:Same H H')(h:H' p=none):Same H (upd H' p o):=s.trans (Same.new h)
def Same.over (s:Same H H')(h:H p=none):Same H (upd H' p o):=λb u e=>by rw[Ak (Bg e h)];exact s b u e
def Ea (h:upd H p o D=none):H D=none/\D≠p:=by
 by_cases e:D=p
 ·subst e;rw[Ab]at h;cases h
 ·rw[Ak e]at h;exact#[h,e]
def Same.seqT {K:α3} (e:Same H H')(h:SqT K H a xs):SqT K H' a xs:=by
 rcases h with (h|⟨o,h⟩)|h
 ·exact .inl (.inl (e _ _ h))
 ·exact .inl (.inr #[o,e _ _ h])
 ·exact .inr h
def hu9 (a:Room k A):A.units+8<cLine:=by have:=a.units;lia
section
variable {K:α3} {wi:TI} {cp:Caps} {g:TG} {tc:TT} {te:TE} {σ:St} {H:Hp} {Q:VK}
theorem AR_ : (cxOf CX P w K mg base N qual scope f cd A outer s H E).K=K:=rfl
def QP (J:It)(cp:Caps)(g:TG)(tc:TT)(te:TE)(σ:St)(H1:Hp)(Q:VK):Prop:=∃W:Nat->Nat->List V->St->Hp->Prop,(∃m,W 0 m [] (cp.st σ) H1)/\∀i m ys c H',W i m ys c H' ->
 ys.length<sizeLine/\((J.stop i H'/\∀D,H' D=none->Q (.ref D) (upd H' D (.lst ys)))\/(J.go i H'/\∃N:List V->St->Hp->Prop,(∀zs a H2,N zs a H2->∃d,d<m/\W (i+1) d zs a H2)/\∀x H2,J.yld i H' x H2->g x c H2 λa f=>tc a f λb e=>
  if b=true then te a e λv h=>N (ys++[v]) a h else N ys a e))
theorem X4:Y6 wi cp g tc te σ H Q=wi σ H λJ H1=>QP J cp g tc te σ H1 Q:=rfl
def ForW (J:It)(g:TG)(tb:TS)(D:Ends)(σ:St)(H1:Hp):Prop:=∃W:Nat->Nat->St->Hp->Prop,(∃m,W 0 m σ H1)/\∀i m σ H,W i m σ H ->
 (J.stop i H/\D.nx σ H)\/(J.go i H/\∃N:St->Hp->Prop,(∀a H',N a H'->∃b,b<m/\W (i+1) b a H')/\∀x H',J.yld i H x H'->g x σ H' λc H2=>tb {D with nx:=N,ct:=N,bk:=D.nx} c H2)
theorem AS_ : tFor wi g tb D σ H=wi σ H λJ H1=>ForW J g tb D σ H1:=rfl
def forL (b:Nat->St->Hp->Prop)(c:b 0 σ H)(d:∀i σ H,i<=xs.length->b i σ H->SqL K H a xs)
  (hs:∀i x σ H,xs[i]?=some x->b i σ H->g x σ H λe H2=>tb {D with nx:=b (i+1),ct:=b (i+1),bk:=D.nx} e H2) (f:∀σ H,b xs.length σ H->D.nx σ H):ForW (Itl K a) g tb D σ H:=We b c d hs f
def forT (b:Nat->St->Hp->Prop)(c:b 0 σ H)(d:∀i σ H,i<=xs.length->b i σ H->SqT K H a xs)
  (hs:∀i x σ H,xs[i]?=some x->b i σ H->g x σ H λe H2=>tb {D with nx:=b (i+1),ct:=b (i+1),bk:=D.nx} e H2) (f:∀σ H,b xs.length σ H->D.nx σ H):ForW (Itt K a) g tb D σ H:=YT b c d hs f
def forR {lo:Int} (a:Nat->St->Hp->Prop)(b:a 0 σ H)
  (hs:∀i σ H,i<n->a i σ H->g (.int (lo+i)) σ H λc H2=>tb {D with nx:=a (i+1),ct:=a (i+1),bk:=D.nx} c H2) (d:∀σ H,a n σ H->D.nx σ H):ForW (Itr lo n) g tb D σ H:=T2 a b hs d
def Nb (c:Nat->List V->St->Hp->Prop)(f:c 0 [] (cp.st σ) H)(hz:xs.length<sizeLine)
  (h:∀i ys σ H,i<=xs.length->c i ys σ H->SqL K H a xs/\ys.length<=i)
  (hs:∀i x ys σ H,xs[i]?=some x->c i ys σ H->g x σ H λd H2=>tc d H2 λb e=>if b=true then te d e λv j=>c (i+1) (ys++[v]) d j else c (i+1) ys d e)
  (k:∀ys σ H,c xs.length ys σ H->∀D,H D=none->Q (.ref D) (upd H D (.lst ys))):QP (Itl K a) cp g tc te σ H Q:=Uw c f hz h hs k
def QQ (c:Nat->List V->St->Hp->Prop)(f:c 0 [] (cp.st σ) H)(hz:xs.length<sizeLine)
  (h:∀i ys σ H,i<=xs.length->c i ys σ H->SqT K H a xs/\ys.length<=i)
  (hs:∀i x ys σ H,xs[i]?=some x->c i ys σ H->g x σ H λd H2=>tc d H2 λb e=>if b=true then te d e λv j=>c (i+1) (ys++[v]) d j else c (i+1) ys d e)
  (k:∀ys σ H,c xs.length ys σ H->∀D,H D=none->Q (.ref D) (upd H D (.lst ys))):QP (Itt K a) cp g tc te σ H Q:=Wt c f hz h hs k
def SN {lo:Int} (a:Nat->List V->St->Hp->Prop)(e:a 0 [] (cp.st σ) H)(hz:n<sizeLine)
  (f:∀i ys σ H,i<=n->a i ys σ H->ys.length<=i)
  (hs:∀i ys σ H,i<n->a i ys σ H->g (.int (lo+i)) σ H λc H2=>tc c H2 λb d=>if b=true then te c d λv h=>a (i+1) (ys++[v]) c h else a (i+1) ys c d)
  (j:∀ys σ H,a n ys σ H->∀D,H D=none->Q (.ref D) (upd H D (.lst ys))):QP (Itr lo n) cp g tc te σ H Q:=SM a e hz f hs j
def Oq (f:V->V)(e:cp.st σ=none::ag)(d:SqT K H a xs)(hz:xs.length<sizeLine)(hs:∀x∈xs,∀R:VK,R (f x) H->te (some x::ag) H R)(g:∀D,H D=none->Q (.ref D) (upd H D (.lst (xs.map f)))):
  QP (Itt K a) cp (Po 0) Ws te σ H Q:=by
 refine QQ (xs:=xs) (λi ys b H2=>H2=H/\ys=(xs.take i).map f/\∃o,b=o::ag) #[rfl,by simp,none,e] hz (λi ys b H2 hi h=>?_) (λi x ys b H2 c h=>?_) (λys b H2 h=>?_)
 ·obtain⟨rfl,rfl,_⟩:=h;exact#[d,by rw[ja_,jC_];lia]
 ·obtain⟨rfl,rfl,o,rfl⟩:=h;refine hs x (je_ c) _ #[rfl,?_,some x,rfl];rw[jF_,c];simp
 ·obtain⟨rfl,rfl,_⟩:=h;rw[jz_];exact g
end
noncomputable def tCut (t u:TS):TS:=λD σ H=>∃R:St->Hp->Prop,t {D with nx:=R} σ H/\∀a H',R a H'->u D a H'
def QR {st:Stmt}{rest:List Stmt} (h1:PS X st t)(h2:PSs X rest u):PSs X (st::rest) (tCut t u):=by
 intro ae s σ H D I h;obtain⟨R,b,c⟩:=h;refine wpAny_execs_cons (thn (h1 ae s σ H {D with nx:=R} I b) λf d q=>?_);cases f with
 |next=>
  obtain⟨a,H',e,q⟩:=q;exact h2 ae d a H' D e (c a H' q)
 |ret v=>exact q
 |brk=>exact q
 |cont=>exact q
def Al:1000000<sizeLine:=by rw[zU_];decide
def Ia {ns:α2}{x:V}(h:x∈ns.map V.int):∃n,n∈ns/\x=.int n:=by
 obtain⟨n,a,e⟩:=jp_.mp h;exact#[n,a,e.symm]
def JL {ns:α2}{i:Nat}{x:V}(h:(ns.map V.int)[i]?=some x):∃n,ns[i]?=some n/\x=.int n:=by
 rw[jh_]at h;cases e:ns[i]? with
 |none=>rw[e]at h;cases h
 |some n=>rw[e]at h;exact#[n,rfl,(jD_ h).symm]
noncomputable def cutI (ns:α2)(lo hi:Option Int):α2:=(ns.drop (HT.sIx ns.length 0 lo)).take (HT.sIx ns.length ns.length hi-HT.sIx ns.length 0 lo)
def LX (ns:α2)(lo hi:Option Int):cutV (ns.map V.int) lo hi=(cutI ns lo hi).map V.int:=by
 unfold cutV cutI;rw[ja_,<-List.map_drop,<-qS]
def Fb (a:0<=i)(h:xs[i.toNat]?=some v):atI xs i=some v:=by
 have:=GD h
 rwa [show ((i.toNat:Nat):Int)=i by lia]at this
def FF {K:α3} : kitOne K t t=some true:=by unfold kitOne;rw[if_pos (by simp)]
def PY {K:α3}:kitOne K (.type "int") (.type "bool")=some false:=by
 first|rfl|decide +kernel|(unfold kitOne;kernel_rfl)
def Ll : ∀u,RelV (V.ty n) u->u=.type n:=λ_ h=>h
end L2
namespace L2
open PySem PySem.W PySem.Spec PySem.Calls PyProof.Rows
section
variable {prog:Program} {w:World} {A:Around} {E:Value->Shared->Prop} {s:Shared} {K:Frag} {x D:Addr} {ox:Obj}
structure ExcCls (K:Frag)(D:Addr):Prop where
 ga:findIn K (.ref D) "__getattribute__"=some (some (.builtin "BaseException.__getattribute__"))
 hk:findIn K (.ref D) "__getattr__"=some none
 cl:(clsIn K D).isSome=true
 ca:findIn K (.ref D) "__class__"=some (some (.builtin "object.__class__"))
 gs:specialIn K (.builtin "object.__class__") "__get__"=some (some (.builtin "getset_descriptor.__get__"))
 tk:takesIn K (.builtin "object.__class__")=some true
 mo:mroIn K D (.type "object")=some true
 mb:mroIn K D (.type "BaseException")=some true
def ExcAt (x D:Addr)(h:Heap):Prop:=∃ox,h.get? x=some ox/\ox.cls=.ref D
def ExcAt.type (I:ExcAt x D h):Looks M h (typeOf (.ref x)) (.ref D):=by
 obtain⟨ox,h1,h2⟩:=I;exact h2 ▸ (Looks.ld h1).andThen .now
def Wu (X:K.In h)(C:ExcCls K D):Looks M h (Builtin.ObjectAttr.find (.ref x) (.ref D) "__class__") (.bind (.builtin "getset_descriptor.__get__") (.builtin "object.__class__")):=
 (looks_findIn X C.ca).andThen ((show Looks M h (Builtin.ObjectAttr.getOf (some (.builtin "object.__class__"))) _ from looks_specialIn X C.gs).andThen
  ((show Looks M h (Builtin.ObjectAttr.dataDescriptor? (some (.builtin "object.__class__")) (some (.builtin "getset_descriptor.__get__"))) (some (.builtin "getset_descriptor.__get__",.builtin "object.__class__")) from (looks_takesIn X C.tk).andThen .now).andThen (Looks.tag .now)))
open Builtin Builtin.ObjectAttr Builtin.Getset_descriptor in
def Y7 {R:Result->Shared->Prop}{tp:Value}(X:K.In s.heap)(I:ExcAt x D s.heap)(hm:mroIn K D (.type "object")=some true)(h:R (.ok (.ret (.ref D))) s):codeAny (model prog w) A (.call (.builtin "getset_descriptor.__get__") #[[.builtin "object.__class__",.ref x,tp],[]]) R s:=by
 have l0:=I.type (M:=model prog w);have l1:=looks_mroIn (M:=model prog w) X hm;obtain⟨_,_,_,_,_⟩:=s;have sg:=KF.slot_gs;refine x2_ sg.plain KF.entry_gs (sg.check _ _ _ _ _ _ _ _ KF.type_class (KF.args_gs _ _ _) ?_);unfold Builtin.«getset_descriptor.__get__» descrGet;rw[dga_obj];unfold descrGetter descrCheckInstance isInstance descrNameAndClass;refine jc_ (jl_ ?_);simp only[KF.owner_class]
 repeat lk
 refine#[Code.quiet_builtin _ (by decide +kernel),xv_ KF.entry_class ?_];unfold Builtin.«object.__class__» shownTypeOf
 repeat lk
 exact h
def UD (X:K.In s.heap)(I:ExcAt x D s.heap)(C:ExcCls K D)(a:Q () s):wpAny M A (checkBuiltinCall "BaseException.__getattribute__" #[[.ref x,nameV],[]]) Q E s:=by
 have b:=F.args_bexc_ga (.ref x) nameV;have c:=I.type (M:=M);have d:=looks_mroIn (M:=M) X C.mb;obtain⟨_,_,_,_,_⟩:=s;simp only[checkBuiltinCall,show builtinKind "BaseException.__getattribute__"=some .slot by decide +kernel,show splitId "BaseException.__getattribute__"=some ("BaseException","__getattribute__") by decide +kernel,isInstance]
 repeat (first|lk|wp_step)
 exact a
def UE (X:K.In s.heap)(I:ExcAt x D s.heap)(C:ExcCls K D)(a:Q (.done (.ret (.ref D))) s):wpAny (model prog w) A (Builtin.«object.__getattribute__» #[[.ref x,.str "__class__" tk],[]]) Q E s:=by
 obtain⟨b,g,d,t,c⟩:=s;have e:=I.type (M:=model prog w);have f:=Wu (M:=model prog w) (x:=x) X C;unfold Builtin.«object.__getattribute__»;refine jc_ (jl_ ?_);refine jc_ (jl_ ?_);refine jc_ (e.at ?_);refine jc_ (f.at ?_);show wpAny _ _ (Builtin.ObjectAttr.bindTo _ _ _ _) _ _ _;unfold Builtin.ObjectAttr.bindTo;dsimp only;refine jc_ (qq_ (wpAny_call (Y7 (K:=K) (s:=#[b,g,d,t,c]) X I C.mo ?_)));exact jl_ a
def UG (X:K.In s.heap)(I:ExcAt x D s.heap)(C:ExcCls K D)(h:Q (some (.ref D)) {s with toks:=s.toks+1}):wpAny (model prog w) A (getAttr? (.ref x) "__class__") Q E s:=by
 obtain⟨a,g,d,t,b⟩:=s;have c:=I.type (M:=model prog w);have e:=looks_findIn (M:=model prog w) X C.ga;have L2:=looks_findIn (M:=model prog w) X C.hk;unfold getAttr? getAttrBy? getAttrBy;refine jc_ (wpAny_mkText (jc_ (zQ_ (qq_ (jc_ (c.at (jc_ (e.at ?_))))))));show wpAny _ _ (getAttrByItsOwn _ _ _ _ _ _) _ _ _;unfold getAttrByItsOwn hookBefore;refine jc_ ?_;rw[if_pos (by rfl)];refine L2.at (jc_ (zQ_ (qq_ ?_)));unfold callGetattribute;rw[if_neg (by decide)];unfold boundAndCalled;have f:=PySem.F.attr_ValueError.ga.bind (.ref x);refine jc_ (wpAny_of_eq f ?_);refine wpAny_call (x2_ PySem.F.attr_ValueError.ga.plain F.entry_bexc_ga (UD (K:=K) (s:=#[a,g,d,t+1,b]) X I C (UE (K:=K) (s:=#[a,g,d,t+1,b]) X I C ?_)));exact jl_ (jl_ h)
def Wv (C:ExcCls K D):KitX K (.ref x) (.ref D) (ExcAt x D):=by
 have cl:=C.cl;unfold clsIn at cl;refine#[λ_ _ _ I=>I.type,λ_ _ X _=>?_,λh b e f n g X c=>?_,λX I k=>UG X I C k]
 ·split at cl
  ·rename_i a
   intro i j l s' k q;exact jc_ (wpAny_loadPart (k _ _ (X _ _ a)) (jl_ q))
  ·cases cl
 ·split at cl
  ·rename_i a
   cases d:(Value.ref D==Value.ref b) with
   |false=>rfl
   |true=>
    obtain rfl:D=b:=Value.ref.inj (z3_.mp d);cases (X _ _ a).symm.trans c
  ·cases cl
end
section
variable {P:Program} {w:World}
def Bm.there (x:Bm P w H h a o):∃ob,h.get? a=some ob:=by
 induction o with
 |lst xs=>obtain⟨_,_,_,_,e⟩:=x;exact#[_,e]
 |tup xs=>obtain⟨_,_,_,ob,e,_⟩:=x;exact#[_,e]
 |dK b=>obtain⟨_,_,_,_,o,_,_,e,_⟩:=x;exact#[_,e]
 |dT b=>obtain⟨_,_,_,_,o,_,_,e,_⟩:=x;exact#[_,e]
 |set S n=>obtain⟨o,_,_,_,e,_⟩:=x;exact#[_,e]
 |ins C dx fs=>obtain⟨_,_,_,e,_⟩:=x;exact#[_,e]
 |own y=>obtain⟨_,e⟩:=x;exact#[_,e]
 |xd fs=>obtain⟨_,⟨_,_,_,e,_⟩,_⟩:=x;exact#[_,e]
 |rng lo hi=>obtain⟨_,_,_,e⟩:=x;exact#[_,e]
 |frz ob u c=>obtain⟨e,_⟩:=x;exact#[_,e]
 |tbl ps=>exact#[_,(show h.get? a=some _ from x)]
 |met f y=>exact#[_,(show h.get? a=some _ from x)]
 |ext d=>obtain⟨_,⟨_,e⟩,_⟩:=x;exact#[_,e]
structure Fly (P:Program)(w:World)(fs:List Addr)(H1 H':Hp)(h1 g B:Heap):Prop where
 un:Un fs [] H1 H' h1 g
 hok:HOk P w H' g
 cov:∀b o,g.get? b=some o->(H' b≠none \/ ∃o',h1.get? b=some o')->b∉fs->B.get? b=some o
def Fly.move {H1 H':Hp}{h1 g B h2:Heap}(x:Fly P w fs H1 H' h1 g B)(t:∀b∈fs,H' b=none)(st:B.StaysIn h2)(l:∀b∈fs,∀o,g.get? b=some o->∃m,h2.get? b=some {o with slots:=m}):Fly P w fs H1 H' h1 h2 B:=by
 have j:∀b o,g.get? b=some o->(H' b≠none \/ ∃o',h1.get? b=some o')->b∉fs->h2.get? b=some o:=λb o e h n=>st b o (x.cov b o e h n);have p:∀b u,H' b=some u->b∉fs:=λb u e z=>by rw[t b z]at e;cases e
 refine#[#[λb o e n a d=>?_,λb o e n a d=>?_,λb o e n d=>x.un.free b o e n d,λb o e d=>?_,x.un.tups,x.un.frzs,x.un.tbls],λb u e=>?_,λb o e h n=>?_]
 ·exact j b o (x.un.keep b o e n a d) (.inr #[o,e]) a
 ·obtain⟨m,f⟩:=x.un.slot b o e n a d;obtain⟨r,i⟩:=l b a _ f;exact#[r,i]
 ·obtain⟨o',f⟩:=x.un.there b o e d;by_cases a:b∈fs
  ·obtain⟨r,i⟩:=l b a _ f;exact#[_,i]
  ·exact#[o',j b o' f (.inr #[o,e]) a]
 ·refine (x.hok b u e).stay (λc v k q=>?_) (λ_ q=>q) λ_ _ q=>q;rcases k with rfl|k
  ·exact j c v q (.inl (by rw[e];simp)) (p c u e)
  ·exact j c v q (.inl (by rw[k];simp)) (p c _ k)
 ·-- B has it dS
  have ⟨o1,f⟩:∃o1,g.get? b=some o1:=by
   rcases h with h|⟨o',h⟩
   ·cases q:H' b with
    |none=>exact absurd q h
    |some u=>exact (x.hok b u q).there
   ·exact x.un.there b o' h (by simp)
  have i:=x.cov b o1 f h n;have s:=st b o1 i;rw[e]at s;cases s;exact i
noncomputable def CXe (P:Program)(w:World):CXT:=λouter H s E e s'=>∃(a:Addr) (b c:Value) (H':Hp) (B:Heap),e=.ref a/\s'.os=s.os/\AllBare s'.gens/\Fly P w (frs outer) H H' s.heap s'.heap B/\Heap.FlyingW B outer a b c s'.heap/\E b none H'
def PZ {H1 H':Hp} {g B:Heap}(I:Inv X ae σ H1 s1)(x:Fly P w (frs X.stack) H1 H' s1.heap g B):∀b∈frs X.stack,H' b=none:=λb a=>by
 obtain⟨_,o,c,_⟩:=I.stack.mem a;exact x.un.free b o c (I.stkFree b a) (by simp)
def JN {K:α3} (r:∀c d H',E' c d H'->E c d H'):
  Gj (CXe P w) (cxOf (CXe P w) P w K mg base N qual scope f cd A outer s H E) E':=by
 intro ae σ H1 M e s' I t;obtain⟨u,v,x,H',B,rfl,y,C,k,l,q⟩:=t;have D:(cxOf (CXe P w) P w K mg base N qual scope f cd A outer s H E).A.frames=some (envOfC qual scope s.heap.objs.size f cd::outer):=I.ok.frames;refine wpAny_leaves_onW D rfl l λh' m F=>?_;have i:=k.move (PZ I k) m.1 (λb j o e=>by
  obtain⟨_,o',p,G⟩:=l.2.2.1.mem j;rw[e]at p;cases p;exact F b o e G)
 have a:Inv (cxOf (CXe P w) P w K mg base N qual scope f cd A outer s H E) ae σ H' {s' with heap:=h' }:=I.call' (s':={s' with heap:=h' }) y i.un i.hok C (λb j=>by cases j);refine#[u,v,x,H',B,rfl,a.os,a.bare,#[a.base,a.hok,λb o e h n=>i.cov b o e ?_ (λz=>?_)],m,r _ _ _ q]
 ·rcases h with h|⟨o',h⟩
  ·exact .inl h
  ·obtain⟨J,L⟩:=I.base.there b o' h (by show b∉([]:List Addr);simp);exact .inr #[J,L]
 ·rcases jw_.mp (I.stkSub b z) with g | g
  ·rcases h with h|⟨o',h⟩
   ·exact h (by rw[g];exact a.free)
   ·have:=jv_ h;rw[g]at this;exact absurd (jM_ this I.ok.above) (qp_ _)
  ·exact n g
def AT_ {K:α3}
   {H1:Hp}
  (I:Inv (cxOf (CXe P w) P w K mg base N qual scope f cd A outer s H E) ae σ H1 s1) (j:Heap.MadeExcOf s1.heap h' ea cls vs) (q:E cls none H1):
  (cxOf (CXe P w) P w K mg base N qual scope f cd A outer s H E).xe (.ref ea) {s1 with heap:=h' }:=by
 have u:(cxOf (CXe P w) P w K mg base N qual scope f cd A outer s H E).A.frames=some (envOfC qual scope s.heap.objs.size f cd::outer):=I.ok.frames;have v:∀g∈(envOfC qual scope s.heap.objs.size f cd::outer),∀b,g.frame=some b->b∈frs (envOfC qual scope s.heap.objs.size f cd::outer):=λg x b a=>zk_.mpr #[g,x,a];have k:=I.stack;have l:Fly P w (frs (envOfC qual scope s.heap.objs.size f cd::outer)) H1 H1 s1.heap s1.heap (qo s1.heap (frs (envOfC qual scope s.heap.objs.size f cd::outer))):=#[Un.refl,I.hok,λb o e _ n=>qN _ e n];refine wpAny_leaves_madeW (base:=qo s1.heap (frs (envOfC qual scope s.heap.objs.size f cd::outer))) (h:=s1.heap) u rfl (λb o q=>qU _ q) ?_ j λm t p F G y=>?_
 ·exact tQ k v
 ·have i:=l.move (PZ (X:=cxOf (CXe P w) P w K mg base N qual scope f cd A outer s H E) I l) p.1 (λb a o e=>by
   obtain⟨_,o',r,B⟩:=k.mem a;rw[e]at r;cases r;exact y b o (j.keeps b o e) B)
  have c:Inv (cxOf (CXe P w) P w K mg base N qual scope f cd A outer s H E) ae σ H1 {s1 with heap:=m }:=I.call' (s':={s1 with heap:=m }) rfl i.un i.hok I.bare (λb a=>by cases a);refine#[ea,cls,.ref t,H1,_,rfl,c.os,c.bare,#[c.base,c.hok,λb o e h n=>i.cov b o e ?_ (λz=>?_)],p,q]
  ·rcases h with h|⟨o',h⟩
   ·exact .inl h
   ·obtain⟨C,D⟩:=I.base.there b o' h (by show b∉([]:List Addr);simp);exact .inr #[C,D]
  ·rcases jw_.mp (I.stkSub b z) with d | d
   ·rcases h with h|⟨o',h⟩
    ·exact h (by rw[d];exact c.free)
    ·have:=jv_ h;rw[d]at this;exact absurd (jM_ this I.ok.above) (qp_ _)
   ·exact n d
end
def Y8 {K:Frag} (X:K.In h)(q:excIn K C bmB dU=true):
  ∃bm N nm q bs hdct sn sub ab col dd k0 k1 k2 k3 k5 mN,h.get? C=some (excClassObj nm q C N bs bm hdct sn sub ab col dd k0 k1 k2 k3 k5 dU)/\h.Ns N mN/\mN "__init__"=none/\OwnTail h bmB bm:=by
 unfold excIn at q;split at q
 case h_2=>cases q
 rename_i c d e f
 split at q
 case h_2=>cases q
 rename_i B tl i j k l F m n es
 have g:=X C _ f
 repeat rw[qi_]at q
 rcases q with ⟨⟨⟨⟨⟨o,p⟩,r⟩,s⟩,a⟩,t⟩;cases eq_of_beq o;cases eq_of_beq p;rcases e with ⟨G⟩;cases es;rcases d with ⟨u,v,H,b,w,x,y,z,A,D,E⟩;cases n;cases E
 ·exact#[tl,b,u,w,v,x,y,z,A,D,c,i,j,k,l,m,h.nsMap b,g,.of_isNs (isNs_of_in X a),nsMap_none_of_in X a (eq_of_beq t),tail_of_in X s]
 ·cases r
def bmV:List Value:=[.type "ValueError",.type "Exception",.type "BaseException",.type "object"]
section
variable {P:Program} {w:World} {K:α3} {mg:Str->α5} {base:Heap} {N:List Str} {qual:Str} {scope:Scope} {f:Addr} {cd:Value} {A:Around} {outer:List Env} {s:Shared} {H:Hp} {E:XK}
noncomputable def X5 (C:Addr)(E:XK)(ta:TA):TS:=λ_ σ H=>ta σ H λa H1=>a.length<=sizeLine/\E (.ref C) none H1
def EC {rest:List Expr} (hm:mg x=some (.ref C))(d:excIn K C bmV dU=true)(g:Gl (cxOf (CXe P w) P w K mg base N qual scope f cd A outer s H E) x)
  (i:dU = "ValueError.__new__") (j:PA (cxOf (CXe P w) P w K mg base N qual scope f cd A outer s H E) (gL::rest) ta)
  (b:starEach (gL::rest) (cxOf (CXe P w) P w K mg base N qual scope f cd A outer s H E).env=(false,eval gL (cxOf (CXe P w) P w K mg base N qual scope f cd A outer s H E).env)::starEach rest (cxOf (CXe P w) P w K mg base N qual scope f cd A outer s H E).env:=by rfl)
  (k:(backTo ax (starEach rest (cxOf (CXe P w) P w K mg base N qual scope f cd A outer s H E).env)).any (·.1)=false:=by rfl) (l:(x==("__debug__" : Str))=false:=by decide):
  PS (cxOf (CXe P w) P w K mg base N qual scope f cd A outer s H E) (.Raise (some (.Call (.Name x np) (gL::rest) [] ax)) none pos) (X5 C E ta):=by
 intro ae m σ H1 D I h;subst i;obtain⟨bm,n,nm,q,bs,hdct,sn,sub,ab,col,dd,k0,k1,k2,k3,k5,mN,o,p,r,T⟩:=Y8 I.mod.kin d;refine wpAny_Raise_call_subU (C:=C) (nm:=nm) (q:=q) (N:=n) (bs:=bs) (bm:=bm) (hdct:=hdct) (sn:=sn) (sub:=sub) (ab:=ab) (col:=col) (dd:=dd) (k0:=k0) (k1:=k1) (k2:=k2) (k3:=k3) (k5:=k5)
  xY_ (bmB:=bmV) (by decide +kernel) xY_ (mN:=mN) (T.hasType xY_.hasBase) (I.ok.hd rfl) (by rw[b];show (false||(backTo ax (starEach rest _)).any (·.1))=false;rw[k];rfl) r (L8 I g hm #[rfl,?_] l)
 have c:=j ax ae m σ H1 _ I h;rw[b]at c ⊢;refine xq_ (thn c λus y ⟨z,H2,a,t,u,v⟩=>#[rfl,by rw[<-t.length];exact u,a.bk _ _ o,p.keeps a.bk,T.keeps a.bk,λh' e hm=>AT_ a hm v])
end
end L2
namespace L2
open PySem PySem.Spec PyProof.Rows
noncomputable def excO (ea C:Addr):HO:=.ext (ExcAt ea C)
def P0 : DU X (.builtin "isinstance") (λxs H Q=>∃ea C c cv b,xs=[.ref ea,c]/\H ea=some (excO ea C)/\ExcCls X.K C/\(∀u,RelV c u->u=cv)/\kitOne X.K (.ref C) cv=some b/\Q (.bl b) H):=by
 intro ae s σ H xs us Q I r h;obtain⟨ea,C,c,cv,b,rfl,a,d,e,f,q⟩:=h;obtain⟨u,k,rfl,g,i⟩:=vals2 r;rw[e _ i];cases g;obtain⟨p,_,_⟩:=(show Bm X.prog X.w H s.heap ea (.ext (ExcAt ea C)) from I.hok ea _ a);exact qj_ (Wv d) I.kIn p f (λz=>nomatch z) λj=>#[.bl b,H,I.tok j,rfl,q]
section
variable {X:Cx}
noncomputable def Eb (K:α3):R2:=λx y H Q=>∃a b xs ys,x=.ref a/\y=.ref b/\SqT K H a xs/\SqT K H b ys/\xs.length+ys.length<=sizeLine /\
 (xs=[]->Q (.ref b) H)/\(xs ≠ []->ys=[]->Q (.ref a) H)/\(xs ≠ []->ys ≠ []->∀p,H p=none->Q (.ref p) (upd H p (.tup (xs++ys))))
def FG:OpR X (binaryOp .Add) (Eb X.K):=by
 intro ae s σ H x y v u Q I d e h;obtain⟨a,b,xs,ys,rfl,rfl,f,g,p,q,r,t⟩:=h;by_cases c:xs=[]
 ·subst c;cases d;cases e;obtain⟨w,z,A,_⟩:=I.tuple f;obtain⟨G,J,p2,_⟩:=I.tuple g;have:w=[]:=z.nil_iff.mpr rfl;subst this;obtain⟨⟨L,B,M,C⟩,i,j,n,k⟩:=id A;obtain⟨⟨N,D,O,E⟩,l,m,F,o⟩:=id p2;simp only at j k m o;subst j k m o;exact concat_meets #[_,i,rfl] #[_,l,rfl] noFill_tuple_add seq_tuple_add zo_ zl_ (zc_ _ _)
   (tE a b _ _ n F B D C E rfl) #[i,l,#[.ref b,H,I,rfl,q rfl]]
 ·exact Y0 ae s σ H _ _ v u Q I d e #[a,b,xs,ys,rfl,rfl,f,g,c,p,r c,t c]
end
def RQ (a:Nat->St->Hp->Prop)(e:∃m,a m σ H)
  (hs:∀m σ H,a m σ H->c σ H λb H1=>if b=true then ∃N:St->Hp->Prop,(∀ag H',N ag H'->∃d,d<m/\a d ag H')/\tb {D with nx:=N,ct:=N,bk:=D.nx} σ H1 else D.nx σ H1):XF c tb D σ H:=#[a,e,hs]
section
variable {K:α3} {H:Hp} {Q:VK}
def Eb.of (c:SqT K H a xs)(d:SqT K H b ys)(hz:xs.length+ys.length<=sizeLine)(h:∀p H',Same H H'->SqT K H' p (xs++ys)->Q (.ref p) H'):Eb K (.ref a) (.ref b) H Q:=by
 refine#[a,b,xs,ys,rfl,rfl,c,d,hz,λe=>?_,λ_ e=>?_,λ_ _ p f=>h p _ (Same.new f) (SqT.of Ab)]
 ·subst e;exact h b H (Same.refl _) (by simpa using d)
 ·subst e;exact h a H (Same.refl _) (by simpa using c)
end
theorem AU_ {K:α3} {lo hi:Option Int}:rSlT K x lo hi H Q=∃a xs,x=.ref a/\SqT K H a xs /\
 ¬ (HT.sIx xs.length 0 lo=0/\HT.sIx xs.length xs.length hi=xs.length)/\∀p,H p=none->Q (.ref p) (upd H p (.tup (cutV xs lo hi))):=rfl
inductive TyW (K:α3)(H:Hp):V->Value->Prop where
 | non:TyW K H .non (.type "NoneType")
 | bl (x:Bool):TyW K H (.bl x) (.type "bool")
 | int (i:Int):TyW K H (.int i) (.type "int")
 | str (x:Str):TyW K H (.str x) (.type "str")
 | lst {a:Addr} {xs:List V} (e:SqL K H a xs):TyW K H (.ref a) (.type "list")
 | tup {a:Addr} {xs:List V} (e:SqT K H a xs):TyW K H (.ref a) (.type "tuple")
 | exc {a C:Addr} (e:H a=some (excO a C)) (c:ExcCls K C):TyW K H (.ref a) (.ref C)
def CC : DU X (.builtin "isinstance") (λxs H Q=>∃x c cv t b,xs=[x,c]/\TyW X.K H x t/\(∀u,RelV c u->u=cv)/\kitOne X.K t cv=some b/\Q (.bl b) H):=by
 intro ae s σ H xs us Q I r h;obtain⟨x,c,cv,t,b,rfl,ty,d,f,q⟩:=h;cases ty with
 |non=>exact FE ae s σ H _ us Q I r #[_,c,cv,_,b,rfl,.non,d,f,q]
 |bl y=>exact FE ae s σ H _ us Q I r #[_,c,cv,_,b,rfl,.bl y,d,f,q]
 |int y=>exact FE ae s σ H _ us Q I r #[_,c,cv,_,b,rfl,.int y,d,f,q]
 |str y=>exact FE ae s σ H _ us Q I r #[_,c,cv,_,b,rfl,.str y,d,f,q]
 |exc e m=>exact P0 ae s σ H _ us Q I r #[_,_,c,cv,b,rfl,e,m,d,f,q]
 |@lst a xs e=>
  obtain⟨u,n,rfl,g,i⟩:=vals2 r;rw[d _ i];cases g;obtain⟨p,_,v,_⟩:=I.list e;obtain⟨o,j,k,_⟩:=v.isList;exact qj_ z4_ I.kIn #[o,j,k] f (λz=>nomatch z) λl=>#[.bl b,H,I.tok l,rfl,q]
 |@tup a xs e=>
  obtain⟨u,n,rfl,g,i⟩:=vals2 r;rw[d _ i];cases g;obtain⟨p,_,⟨o,j,k,_⟩,_⟩:=I.tuple e;exact qj_ qV I.kIn #[o,j,k] f (λz=>nomatch z) λl=>#[.bl b,H,I.tok l,rfl,q]
end L2
namespace GW
noncomputable def AV_ (L:Int):α2->α2
 |[]=>[0]
 |x::r=>if x=L-1 then 0::AV_ L r else (x+1)::r
noncomputable def BG (L:Int)(w:α2):α2:=(AV_ L w.reverse).reverse
noncomputable def RS (L:Int):α2->Int
 |[]=>0
 |x::r=>RS L r*L+x+1
noncomputable def place (L:Int)(w:α2):Int:=RS L w.reverse
noncomputable def inW (L x:Int):Bool:=decide (0<=x)&&decide (x<L)
noncomputable def isW (L:Int)(ws:α2):Bool:=ws.all (inW L)
def QS : inW L x=true↔0<=x/\x<L:=by simp[inW]
def AE : isW L ws=true ↔ ∀x∈ws,0<=x/\x<L:=by simp[isW,QS]
noncomputable def many (L:Int):Nat->Int
 |0=>0
 |k+1=>many L k*L+1
noncomputable def val (L:Int):α2->Int
 |[]=>0
 |x::r=>val L r*L+x
def KL (L:Int)(w:α2)(x:Int):place L (w++[x])=place L w*L+x+1:=by
 unfold place;rw[List.reverse_append];rfl
end GW
namespace PySem
section
variable {prog:Program} {w:World} {A:Around} {E:Value->Shared->Prop} {s:Shared}
noncomputable abbrev lsO (acc:Array Value)(c:Nat):Obj:={cls:=.type "list",dict:=none,data:=.seq acc c,slots := (List.toArray [])}
def KP (wr:Addr->Prop)(h h':Heap):Prop:=∀b o,¬ wr b->h.get? b=some o->h'.get? b=some o
structure Gat (prog:Program)(w:World)(s:Shared)(r I:Addr)(T:String)(n:Nat)(wr:Addr->Prop)(J:Nat->List Value->Heap->Prop)(Fn:List Value->Heap->Prop):Prop where
 type:s.TypeIs (.ref r) T
 nl:(Value.type T==Value.type "list")=false
 nt:(Value.type T==Value.type "tuple")=false
 le:n<=sizeLine
 hint:∀(A:Around) (t:Shared) (Q:Bool->Shared->Prop) (E:Value->Shared->Prop),(∀b o,s.heap.get? b=some o->t.heap.get? b=some o)->(∀b tk,Q b {t with toks:=tk})->wpAny (model prog w) A (Builtin.List.listLengthHint (.ref r)) Q E t
 iter:∀(A:Around) (h1:Heap) (Q:Value->Shared->Prop) (E:Value->Shared->Prop),(∀b o,s.heap.get? b=some o->h1.get? b=some o)->h1.objs.size=s.heap.objs.size+1->(∀h',J 0 [] h'->(∀b o,h1.get? b=some o->h'.get? b=some o)->Q (.ref I) {s with heap:=h' })->wpAny (model prog w) A (pyIter (.ref r)) Q E {s with heap:=h1}
 next:∀(A:Around) i acc (t:Shared) (Q:α5->Shared->Prop) (E:Value->Shared->Prop),A.handled=none->J i acc t.heap->acc.length=i->i<=n->s.heap.objs.size<t.heap.objs.size ->
  (∀v h' tk,i<n->J (i+1) (acc++[v]) h'->KP wr t.heap h'->Q (some v) {t with heap:=h',toks:=tk})->(∀h' tk,i=n->Fn acc h'->KP wr t.heap h'->Q none {t with heap:=h',toks:=tk})->wpAny (model prog w) A (pyNext (.ref I)) Q E t
 frame:∀i acc h h',J i acc h->(∀b o,b≠s.heap.objs.size->h.get? b=some o->h'.get? b=some o)->J i acc h'
 nw:¬ wr s.heap.objs.size
variable {I r:Addr} {T:String} {n:Nat} {wr:Addr->Prop} {J:Nat->List Value->Heap->Prop} {Fn:List Value->Heap->Prop} {R:Result->Shared->Prop} {res:Value}
def Gat.loop (G:Gat prog w s r I T n wr J Fn)(t:A.handled=none)
  (y:∀h' a acc c,Fn acc h'->acc.length=n->h'.get? s.heap.objs.size=some (lsO acc.toArray c)->KP wr s.heap h'->R (.ok (.ret res)) {s with heap:=h',toks:=a}):
  ∀(k:Nat) (h:Heap) (a c:Nat) (acc:List Value),n-acc.length=k->acc.length<=n->J acc.length acc h->h.get? s.heap.objs.size=some (lsO acc.toArray c)->KP wr s.heap h->codeAny (model prog w) A (.builtin "list.extend.loop" #[[.ref s.heap.objs.size,.ref I,res],[]]) R {s with heap:=h,toks:=a}:=by
 intro k
 induction k with
 |zero=>
  intro h a c acc z hi j d g;refine xv_ F.entry_extend_loop ?_;rw[xr_ x8_ _];refine jc_ (G.next A.in1 _ acc {s with heap:=h,toks:=a} _ _ t j rfl hi (jv_ d) (λv h' a l=>by lia) λh' a e i f=>?_);exact jl_ (y h' a acc c i s!"" (f _ _ G.nw d) λb o m q=>f b o m (g b o m q))
 |succ k B=>
  intro h a c acc z hi j d g;refine xv_ F.entry_extend_loop ?_;rw[xr_ x8_ _];refine jc_ (G.next A.in1 _ acc {s with heap:=h,toks:=a} _ _ t j rfl hi (jv_ d) (λv h' a l i f=>?_) λh' a e=>by lia);have u:=f _ _ G.nw d;have x:∀b o,b≠s.heap.objs.size->h'.get? b=some o->(h'.update s.heap.objs.size (Obj.mapSeq (·.push v))).get? b=some o:=λb o m q=>(qT_ _ _ (qs_ m)).trans q;have C:(acc++[v]).length=acc.length+1:=by simp
  have:=G.le;obtain⟨p,D⟩:∃p,(h'.update s.heap.objs.size (Obj.mapSeq (·.push v))).get? s.heap.objs.size=some (lsO (acc++[v]).toArray p):=#[_,by rw[<-List.push_toArray];exact qI_ _ u rfl];exact jc_ (wpAny_updateSeq u rfl (jl_ #[zR_ x8_ _,B _ a p (acc++[v]) s!"" s!"" (by rw[C];exact G.frame _ _ _ _ i x) D λb o m q=>x b o (jP_ (jv_ q)) (f b o m (g b o m q))]) (by simp;lia))
def Gat.extend (G:Gat prog w s r I T n wr J Fn)(p:A.handled=none)(k1:∀b o,s.heap.get? b=some o->h1.get? b=some o)(hz:h1.objs.size=s.heap.objs.size+1)(u:h1.get? s.heap.objs.size=some (lsO (List.toArray []) c₀))
  (v:∀c t,c.quiet=true->codeAny (model prog w) A c R t->Z (.again c) t)
  (y:∀h' a acc c,Fn acc h'->acc.length=n->h'.get? s.heap.objs.size=some (lsO acc.toArray c)->KP wr s.heap h'->R (.ok (.ret res)) {s with heap:=h',toks:=a}):
  wpAny (model prog w) A.in1 (Builtin.List.listExtendWith (.ref s.heap.objs.size) (.ref r) res) Z E {s with heap:=h1}:=by
 have z:r<s.heap.objs.size:=let ⟨_,g,_⟩:=G.type;jv_ g;have B:Builtin.List.listSameRef (.ref s.heap.objs.size) (.ref r)=false:=by simp[Builtin.List.listSameRef,qz_ z]
 have C:Shared.TypeIs {s with heap:=h1} (.ref r) T:=let ⟨o,g,x⟩:=G.type;#[o,k1 _ _ g,x];have d:∀(h:Heap) f b o,b≠s.heap.objs.size->h.get? b=some o->(h.update s.heap.objs.size f).get? b=some o:=λh f b o n q=>(qT_ _ _ (qs_ n)).trans q;have i:∀(h:Heap) c a,J 0 [] h->h.get? s.heap.objs.size=some (lsO (List.toArray []) c)->(∀b o,b≠s.heap.objs.size->h1.get? b=some o->h.get? b=some o)->Z (.again (.builtin "list.extend.loop" #[[.ref s.heap.objs.size,.ref I,res],[]])) {s with heap:=h,toks:=a}:=λh c a j q k=>
  v _ _ (zR_ x8_ _) (G.loop p y n h a c [] rfl (j8_ _) j q λb o _ x=>k b o (jP_ (jv_ x)) (k1 b o x))
 unfold Builtin.List.listExtendWith;refine jc_ (zd_ C ?_);simp only[B,G.nl,G.nt,tj,j2_,qM_];refine jc_ (G.iter A.in1 h1 _ _ k1 hz λh' j e=>jc_ (qq_ (G.hint A.in1 _ _ _ (λb o q=>e b o (k1 b o q)) λD a=>?_)));have l:=e _ _ u;refine wpAny_ite_split (λ_=>?_) λ_=>jl_ (i h' c₀ a j l λb o _ q=>e b o q)
 wp_walk
 exact i _ _ a (G.frame _ _ _ _ (G.frame _ _ _ _ j λb o m q=>d _ _ b o m q) λb o m q=>d _ _ b o m q) (qI_ _ (qI_ _ l rfl) rfl) λb o m q=>d _ _ b o m (d _ _ b o m (e b o q))
def Gat.list (G:Gat prog w s r I T n wr J Fn)(h:A.handled=none)
  (i:∀h' d acc c,Fn acc h'->acc.length=n->h'.get? s.heap.objs.size=some (lsO acc.toArray c)->KP wr s.heap h'->Q (.ref s.heap.objs.size) {s with heap:=h',toks:=d}):wpAny (model prog w) A (call (.type "list") [.ref r]) Q E s:=by
 have e:(s.heap.push (lsO (List.toArray []) 0)).get? s.heap.objs.size=some (lsO (List.toArray []) 0):=js_ _ rfl;refine callType_codes (Q₁:=λf g=>f=.ref s.heap.objs.size/\g={s with heap:=s.heap.push (lsO (List.toArray []) 0)}) F.called_list (F.typeCall_list_1 _) F.entry_list_init (code_list_new _ #[rfl,rfl]) λf g j=>?_;obtain⟨rfl,rfl⟩:=j;have k:∀b o,s.heap.get? b=some o->((s.heap.push (lsO (List.toArray []) 0)).update s.heap.objs.size (Obj.mapSeq λ_ => (List.toArray []))).get? b=some o:=λb o q=>(qT_ _ _ (qz_ (jv_ q))).trans (jj_ _ q);obtain⟨l,m⟩:∃c,((s.heap.push (lsO (List.toArray []) 0)).update s.heap.objs.size (Obj.mapSeq λ_ => (List.toArray []))).get? s.heap.objs.size=some (lsO (List.toArray []) c):=#[_,qI_ _ e rfl];have p:((s.heap.push (lsO (List.toArray []) 0)).update s.heap.objs.size (Obj.mapSeq λ_ => (List.toArray []))).objs.size=s.heap.objs.size+1:=by rw[Heap.size_after_update,qZ_]
 exists #[_,e,rfl],F.args_list_init_2 _ _
 wp_walk using Gat.extend (A:=A.in1) (R:=wants (λr t=>r=.none/\Q (.ref s.heap.objs.size) t) E) (c₀:=l) G h k p m
 ·exact λ_ _ a b=>#[a,b]
 exact λh' d acc c u v x y=>#[rfl,i h' d acc c u v x y]
end
end PySem
namespace L2
open PySem PySem.Spec PyProof.Rows
section
variable {P:Program} {w:World} {K:α3} {mg:Str->α5} {base:Heap}
def Fun.okE {st:Stmt} (F:Fun K x qual st f fd)(S:FnScope N ps (Ag st))(b:∀vs H Q E,sp vs H Q E->vs.length=ps.length)
  (c:∀(a:Value) (A:Around) (outer:List Env) (s:Shared) (H:Hp) (vs:List V) (Q:VK) (E:XK),Room k (A.deeper (envOfC qual (Ag st) s.heap.objs.size f a))->sp vs H Q E ->
   ∃t,PSs (cxOf (CXe P w) P w K mg base N qual (Ag st) f a A outer s H E) (EL st) t/\t {nx:=λ_ H'=>Q .non H',rt:=Q} (start N vs) H):FnOk P w K mg base (CXe P w) (k+1) f fd ps sp:=by
 obtain⟨i,od,j,l,m,n,a,o,p,rfl,d,e⟩:=F.ex;exact At_ d e S b λA outer s H vs Q E g h=>c a A outer s H vs Q E g h
def FH : Gj (CXe P w) X E0:=λ_ _ _ _ _ _ _ h=>by
 obtain⟨_,_,_,_,_,_,_,_,_,_,q⟩:=h;exact q.elim
end
section
variable {te ta tb:TE} {A:TA} {D:Ends} {σ:St} {H:Hp} {Q:VK} {K:α3} {tbd ts:TS}
theorem RT : Uo x vs H Q=∃l b xs zs,x=.ref l/\vs=[.ref b]/\H l=some (.lst xs)/\H b=some (.lst zs)/\xs.length+zs.length<=sizeLine/\Q .non (upd H l (.lst (xs++zs))):=rfl
theorem AW_ : rCat x y H Q=∃l b xs zs,x=.ref l/\y=.ref b/\H l=some (.lst xs)/\H b=some (.lst zs)/\xs.length+zs.length<=sizeLine/\∀p,H p=none->Q (.ref p) (upd H p (.lst (xs++zs))):=rfl
theorem UH : X5 C E A D σ H=A σ H λvs H1=>vs.length<=sizeLine/\E (.ref C) none H1:=rfl
end
end L2
namespace L2
open PySem PySem.Spec PyProof.Rows
def Y9 (x y:Int):eqV (.int x) (.int y)=decide (V.int x=V.int y):=by
 by_cases h:x=y
 ·subst h;simp[eqV]
 ·rw[jQ_ (λz=>h (by injection z))];simp[eqV,h]
def EqD.ints {K:α3}{H:Hp}{a c:Addr}{xs ys:α2}(f:(SqL K H a (xs.map V.int)/\SqL K H c (ys.map V.int))\/(SqT K H a (xs.map V.int)/\SqT K H c (ys.map V.int)))(n:Nat):EqD K H (n+1) (.ref a) (.ref c) (decide (xs=ys)):=by
 have:=EqD.flat f (λx d=>by obtain⟨_,_,rfl⟩:=Ia d;rfl) (λx d=>by obtain⟨_,_,rfl⟩:=Ia d;rfl) (λx d y g=>by obtain⟨_,_,rfl⟩:=Ia d;obtain⟨_,_,rfl⟩:=Ia g;exact Y9 _ _) n;have e:decide (xs.map V.int=ys.map V.int)=decide (xs=ys):=by
  rw[j1_];simp only[j6_];constructor
  ·intro h;exact (q2_ (λa b h=>by injection h)).mp h
  ·intro h;rw[h]
 rw[e]at this;exact this
end L2
namespace L2
open PySem PySem.Spec PyProof.Rows
noncomputable def iSeq (K:α3)(tl:TE):TI:=λ σ H R=>tl σ H λx H1=>∃a,x=.ref a/\(((∃xs,SqL K H1 a xs)/\R (Itl K a) H1)\/((∃xs,SqT K H1 a xs)/\R (Itt K a) H1))
theorem X6 {K:α3} : iSeq K te σ H Z=te σ H λx H1=>∃a,x=.ref a/\(((∃xs,SqL K H1 a xs)/\Z (Itl K a) H1)\/((∃xs,SqT K H1 a xs)/\Z (Itt K a) H1)):=rfl
def UI (j:PE X l tl):PI X tg l (iSeq X.K tl):=by
 intro ae s σ H R I h;refine thn (j ae s σ H _ I h) λv c ⟨x,H1,d,k,m⟩=>?_;obtain⟨a,e,q⟩:=m;subst e;cases k;rcases q with ⟨⟨xs,f⟩,q⟩|⟨⟨xs,f⟩,q⟩
 ·obtain⟨i,rv,p,n⟩:=d.list f;refine xU_ p.isList ?_;refine#[c.heap.objs.size,[c.heap.objs.size],_,_,H1,rfl,d.kept (t':=c.toks) λb o e=>jj_ _ e,Pq a _,#[_,js_ _ rfl,rfl,rfl],λb g=>?_,q];have e:b=c.heap.objs.size:=by simpa using g
  subst e;exact d.fpOk (jf_ _) (d.hok.fresh (jf_ _))
 ·obtain⟨i,rv,p,n⟩:=d.tuple f;refine xI_ (show c.heap.IsTuple a i.toArray from p) ?_;refine#[c.heap.objs.size,[c.heap.objs.size],_,_,H1,rfl,d.kept (t':=c.toks) λb o e=>jj_ _ e,NA a _,#[_,js_ _ rfl,rfl,rfl],λb g=>?_,q];have e:b=c.heap.objs.size:=by simpa using g
  subst e;exact d.fpOk (jf_ _) (d.hok.fresh (jf_ _))
def UJ {K:α3}{T id:String} (a:X.K=K)(b:PlainAttrs T)(c:Slot T name id)(d:typeOf (.builtin id)=pure (.type "method_descriptor"))(hm:MtR X id r)(f:PE X o to)(g:PA X (e::es) t)
  (h:attributeBase o name X.env (eval o X.env)=eval o X.env:=by rfl)
  (i:((backTo ax (starEach (e::es) X.env)).all (λx => !x.1)&&(backToKw ax (keywordEach [] X.env)).all (λx=>x.1.isSome)
   && decide ((e::es).length+([]:List Keyword).length+(if ([]:List Keyword).isEmpty then 0 else 1)<30))=true:=by rfl)
  (j:(aA.endLine==ax.line)=true:=by rfl) (hs:starEach (e::es) X.env=(false,eval e X.env)::starEach es X.env:=by rfl) (k:(backTo ax (starEach es X.env)).any (·.1)=false:=by rfl):
  PE X (.Call (.Attribute o name aA) (e::es) [] ax) (tBM K T r to t):=by
 subst a;exact DV b c d hm f g h i j hs k
section
variable {X:Cx} {K:α3}
def GK (h:X.K=K):IxR X (rIxT K):=by subst h;exact Ap
def Ot (h:X.K=K):IxR X (rIxL K):=by subst h;exact Bo
end
end L2
namespace GW
noncomputable def Di (ways:α1)(r x:Int):Int:=(ways.getD r.toNat []).getD x.toNat 0
noncomputable def Ax (ways:α1)(ws:α2):Int:=ws.foldl (Di ways) 0
noncomputable def Lm (ways:α1)(ws:α2):α2:=(oN (ws.length+1)).map λj=>Ax ways (ws.take j)
structure Wf (L:Int)(af:α2)(ways:α1):Prop where
 l1:1<=L
 l6:L<=6
 n1:1<=af.length
 n40:af.length<=40
 len:ways.length=af.length
 rows:∀row∈ways,(row.length:Int)=L/\∀x∈row,0<=x/\x<af.length
 mks:∀m∈af,0<=m/\m<=1000000000
def LY (h1:ways[r.toNat]?=some row)(h2:row[x.toNat]?=some g):Di ways r x=g:=by
 unfold Di;have e:ways.getD r.toNat []=row:=by rw[jx_,h1];rfl
 rw[e,jx_,h2];rfl
def Wf.row {L:Int}{af:α2}{ways:α1}(b:Wf L af ways){r:Int}(c:0<=r)(h1:r<af.length):∃row,ways[r.toNat]?=some row/\row∈ways/\(row.length:Int)=L:=by
 have a:r.toNat<ways.length:=by rw[b.len];lia
 exact#[ways[r.toNat],by simp[a],qd_ a,(b.rows _ (qd_ a)).1]
def Wf.step {L:Int}{af:α2}{ways:α1}(a:Wf L af ways){r x:Int}(e:0<=r)(h1:r<af.length)(f:0<=x)(h:x<L):∃row g,ways[r.toNat]?=some row/\row[x.toNat]?=some g/\Di ways r x=g/\0<=g/\g<af.length:=by
 obtain⟨row,b,hm,i⟩:=a.row e h1;have c:x.toNat<row.length:=by lia
 have d:row[x.toNat]?=some row[x.toNat]:=by simp[c]
 exact#[row,row[x.toNat],b,d,LY b d,(a.rows row hm).2 _ (qd_ c)]
def NJ (ways:α1)(ws:α2)(x:Int):Ax ways (ws++[x])=Di ways (Ax ways ws) x:=by
 unfold Ax;rw[qJ_];rfl
def Ib {ways:α1}{ws:α2}{i:Nat}{x:Int}(h:ws[i]?=some x):Ax ways (ws.take (i+1))=Di ways (Ax ways (ws.take i)) x:=by
 rw[jF_,h];exact NJ _ _ _
def Wf.walk (b:Wf L af ways) (hw:isW L ws=true):∀i,0<=Ax ways (ws.take i)/\Ax ways (ws.take i)<af.length:=by
 intro i
 induction i with
 |zero=>have:=b.n1;simp[Ax];lia
 |succ i a=>
  cases e:ws[i]? with
  |none=>
   have d:=List.getElem?_eq_none_iff.mp e;rw[qg_ s!""];rw[qg_ d]at a;exact a
  |some x=>
   rw[Ib e];have c:=AE.mp hw x (je_ e);obtain⟨_,g,_,_,h,f,h1⟩:=b.step a.1 a.2 c.1 c.2;rw[h];exact#[f,h1]
def Ou (ways:α1)(ws:α2):(Lm ways ws).length=ws.length+1:=by simp[Lm]
def SR (h:i<=ws.length):(Lm ways ws)[i]?=some (Ax ways (ws.take i)):=by
 unfold Lm;rw[jh_,qW_ s!""];rfl
def QT (ways:α1)(ws:α2):(Lm ways ws)[ws.length]?=some (Ax ways ws):=by
 rw[SR (jf_ _),jz_]
end GW
namespace L2
open PySem PySem.Spec PyProof.Rows GW
def Rows (K:α3)(H:Hp)(w:Addr)(ways:α1):Prop:=∃ts:List Addr,SqT K H w (ts.map V.ref)/\ts.length=ways.length/\∀(i:Nat) (t:Addr) (a:α2),ts[i]?=some t->ways[i]?=some a->SqT K H t (a.map V.int)
def Cp (K:α3)(H:Hp)(h:Addr)(L:Int)(af:α2)(ways:α1):Prop:=∃m w:Addr,SqT K H h [.int L,.ref m,.ref w]/\SqT K H m (af.map V.int)/\Rows K H w ways
def Rows.mono {K:α3} (h:Rows K H w ways)(e:Same H H'):Rows K H' w ways:=by
 obtain⟨ts,h1,h2,c⟩:=h;exact#[ts,e.seqT h1,h2,λi t r a b=>e.seqT (c i t r a b)]
def Cp.mono {K:α3} (x:Cp K H h L af ways)(e:Same H H'):Cp K H' h L af ways:=by
 obtain⟨m,w,h1,h2,a⟩:=x;exact#[m,w,e.seqT h1,e.seqT h2,a.mono e]
def Rows.at {K:α3}{H:Hp}{w:Addr}{ways:α1}(h:Rows K H w ways){i:Nat}{row:α2}(a:ways[i]?=some row):∃xs t,SqT K H w xs/\atI xs (i:Int)=some (V.ref t)/\SqT K H t (row.map V.int):=by
 obtain⟨ts,h1,h2,c⟩:=h;have d:i<ts.length:=by rw[h2];exact (jb_.mp a).1
 have b:ts[i]?=some ts[i]:=by simp[d]
 exact#[_,ts[i],h1,GD (by rw[jh_,b];rfl),c i _ _ b a]
def Rows.atZ {K:α3} (h:Rows K H w ways) (e:0<=r)(d:ways[r.toNat]?=some row):∃xs t,SqT K H w xs/\atI xs r=some (V.ref t)/\SqT K H t (row.map V.int):=by
 obtain⟨xs,t,a,b,c⟩:=h.at d;exact#[xs,t,a,by rw[<-b];congr 1;lia,c]
def QU (h:xs[xs.length-1]?=some v):atI xs (-1)=some v:=by
 have a:=(jb_.mp h).1;unfold atI ixN;rw[if_neg s!"",if_pos s!""];show xs[(-1+(xs.length:Int)).toNat]?=some v;rw[show (-1+(xs.length:Int)).toNat=xs.length-1 by lia];exact h
def Cf {ns:α2}{i:Int}{v:Int}(a:0<=i)(h:ns[i.toNat]?=some v):atI (ns.map V.int) i=some (V.int v):=Fb a (by rw[jh_,h];rfl)
def RU {K:α3} (a:H p=some (.lst zs))(h:SqT K H t xs):SqT K (upd H p (.lst ys)) t xs:=by
 rcases h with (q|⟨o,q⟩)|q
 ·refine .inl (.inl ?_);rw[Ak (λz=>by rw[z,a]at q;cases q)];exact q
 ·refine .inl (.inr #[o,?_]);rw[Ak (λz=>by rw[z,a]at q;cases q)];exact q
 ·exact .inr q
def Jg (K:α3)(H:Hp)(l:Addr)(ws:α1):Prop:=∃ts:List Addr,H l=some (.lst (ts.map V.ref))/\ts.length=ws.length/\∀(i:Nat) (t:Addr) (w:α2),ts[i]?=some t->ws[i]?=some w->SqT K H t (w.map V.int)
def Jg.mono {K:α3} (h:Jg K H l ws)(e:Same H H'):Jg K H' l ws:=by
 obtain⟨ts,h1,h2,c⟩:=h;exact#[ts,e _ _ h1,h2,λi t w a b=>e.seqT (c i t w a b)]
def Jg.off {K:α3} (h:Jg K H l ws)(c:H p=some (.lst zs))(d:l≠p):Jg K (upd H p (.lst ys)) l ws:=by
 obtain⟨ts,h1,h2,e⟩:=h;exact#[ts,by rw[Ak d];exact h1,h2,λi t w a b=>RU c (e i t w a b)]
def Jg.push {K:α3} (h:Jg K H l ws)(hw:SqT K H t (w.map V.int)):∃xs,H l=some (.lst xs)/\xs.length=ws.length/\Jg K (upd H l (.lst (xs++[V.ref t]))) l (ws++[w]):=by
 obtain⟨ts,h1,h2,c⟩:=h;refine#[ts.map V.ref,h1,by rw[ja_,h2],ts++[t],by rw[Ab,jn_];rfl,by simp[h2],λi d f a b=>RU h1 ?_];by_cases hi:i<ts.length
 ·rw[ji_ hi]at a;rw[ji_ s!""]at b;exact c i d f a b
 ·have g:=(jb_.mp a).1;rw[jk_,jB_]at g;have e:i=ts.length:=by lia
  subst e;rw[ju_ (jf_ _),qK_]at a;rw[ju_ s!"",h2,qK_]at b;simp at a b;subst a b;exact hw
def Jg.nil {K:α3} (h:H l=some (.lst [])):Jg K H l []:=#[[],h,rfl,λi t w a _=>by simp at a]
def Jg.rows {K:α3} (h:Jg K H l ws):∃xs,H l=some (.lst xs)/\∀t,H t=none->Rows K (upd H t (.tup xs)) t ws:=by
 obtain⟨ts,h1,h2,c⟩:=h;exact#[_,h1,λt d=>#[ts,SqT.of Ab,h2,λi e w a b=>(Same.new d).seqT (c i e w a b)]]
end L2
namespace PySem
open Sem (wp)
open AutoSeq1 (wpAny_loadPart')
section
variable {prog:Program} {w:World} {A:Around} {E:Value->Shared->Prop} {s:Shared}
def newT (a:l.length<=sizeLine)(h:∀h',s.heap.push {cls:=.type "tuple",data:=.seq l.toArray}=h'->Q (.ref s.heap.objs.size) {s with heap:=h' }):wpAny (model prog w) A (newTuple l) Q E s:=wpAny_newTuple (h _ rfl)
def NL {it l:Addr} (b:s.heap.IsTupleIter it l i)(m:s.heap.IsTuple l items)
  (n:∀x h',items[i]?=some x->h'.IsTupleIter it l (i+1)->Heap.SameBut it s.heap h'->Q x {s with heap:=h' })
  (d:items[i]?=none->A.handled=none/\∀h' e,Heap.ExtBut it s.heap h'->(∃o,h'.get? e=some o/\o.cls=.type "StopIteration")->E (.ref e) {s with heap:=h' }):wpAny (model prog w) A (Builtin.SmallTypes.nextOf (.ref it)) Q E s:=by
 obtain⟨⟨c,v,p,y⟩,q,f,g⟩:=id b;obtain⟨⟨r,z,t,B⟩,C,h,D,j⟩:=m;replace f:c=_:=f;replace g:p=_:=g;replace h:r=_:=h;replace j:t=_:=j;subst f g h j;have k:=F.slot_tuple_iterator_next;unfold Builtin.SmallTypes.nextOf;refine jc_ (qy_ b.typeIs k (qE_ k b.typeIs F.entry_tuple_iterator_next ?_ (F.args_tuple_iterator_next_1 _)))
 wp_walk
 cases a:items[i]? with
 |some x=>
  simp only[jA_,a]
  wp_walk
  exact#[x,rfl,jl_ (n x _ a #[_,qI_ _ q (by simp[Obj.mapFields,Obj.isFreed]),rfl,by simp[Obj.mapFields,rawInt]] (xe_ ..))]
 |none=>
  obtain⟨u,d⟩:=d a;have h1:A.in1.handled=none:=u;simp only[jA_,a]
  wp_walk
  unfold raiseNew
  wp_walk
  exact d _ _ (((xe_ ..).extBut.push _).push _) #[_,js_ _ rfl,rfl]
def Draws.tuple (c:A.handled=none)(it l:Addr)(d:l≠it)(items:Array Value):
  Draws prog w A it [it,l] items.size (λi v=>items[i]?=some v) (λi h=>h.IsTupleIter it l i/\h.IsTuple l items) where
 live:=λ_ _ st=>let ⟨o,e,_⟩:=st.1;#[o,e]
 frame:=λ_ _ _ st k=>#[st.1.at λo e=>k it (by simp) o e,let ⟨o,e,r⟩:=st.2;#[o,k l (by simp) o e,r]]
 item:=λi t Q E hi st q=>NL st.1 st.2 (λx h' a f b=>q x h' t.toks a #[f,st.2.extBut b.extBut d] b) λz=>by rw[xZ_]at z;lia
 done:=λt Q E st q=>NL st.1 st.2 (λx h' a=>by have:=(jS_.mp a).1;lia) λ_=>#[c,q]
def Im (p:s.heap.IsTuple l items)
  (h:∀h',IsEnum h' (s.heap.objs.size+1) s.heap.objs.size 0 .none->h'.IsTupleIter s.heap.objs.size l 0->h'.objs.size=s.heap.objs.size+2->(∀b o,s.heap.get? b=some o->h'.get? b=some o)->Q (.ref (s.heap.objs.size+1)) {s with heap:=h' }):
  wpAny (model prog w) A (call (.type "enumerate") [.ref l]) Q E s:=by
 have M:Meets (Builtin.«enumerate.__new__» #[[.type "enumerate",.ref l],[]]) λ_ R t=>t.heap.IsTuple l items/\∀h',IsEnum h' (t.heap.objs.size+1) t.heap.objs.size 0 .none->h'.IsTupleIter t.heap.objs.size l 0->h'.objs.size=t.heap.objs.size+2->(∀b o,t.heap.get? b=some o->h'.get? b=some o)->R (.ok (.ret (.ref (t.heap.objs.size+1)))) {t with heap:=h' }:=.of_wp λprog w A R t ⟨i,q⟩=>by
  have B:=sub_enumerate;obtain⟨e,g,d,r,u⟩:=t;obtain⟨⟨c,C,D,G⟩,j,H,n,I⟩:=id i;have k:∀f,f=Fin.done (.ret (.ref (e.push {cls:=.type "tuple_iterator",data:=.fields (List.toArray [.ref l,.int 0 0])}).objs.size))->∃x,f=.done (.ret x)/\R (.ok (.ret x)) #[(e.push {cls:=.type "tuple_iterator",data:=.fields (List.toArray [.ref l,.int 0 0])}).push {cls:=.type "enumerate",data:=.fields (List.toArray [.none,.bool false,.ref e.objs.size,rawInt 0,.none,.none])},g,d,r,u]:=λf m=>by
   have z:=qZ_ e {cls:=.type "tuple_iterator",data:=.fields (List.toArray [.ref l,.int 0 0])};rw[z]at m;have y:=js_ (e.push {cls:=.type "tuple_iterator",data:=.fields (List.toArray [.ref l,.int 0 0])}) (o:={cls:=.type "enumerate",data:=.fields (List.toArray [.none,.bool false,.ref e.objs.size,rawInt 0,.none,.none])}) rfl;rw[z]at y;exact#[_,m,q _ y #[_,jj_ _ (js_ _ rfl),rfl,rfl] (by rw[qZ_,z]) λb o x=>jj_ _ (jj_ _ x)]
  wp_walk using zf_ j
  refine wpAny_stack_any λst=>jl_ ?_;split
  ·rename_i c _ _ _ _ _
   cases (c==Value.type "enumerate")<;>(wp_walk using zf_ j,xI_ i;exact k _ rfl)
  ·wp_walk using zf_ j,xI_ i
   exact k _ rfl
 exact callType_new F.called_enumerate (by decide) (F.typeCall_enumerate_1 _) (F.newCall_enumerate_1 _) (λv=>F.args_object_init_2 v _) F.entry_enumerate_new M #[p,λh' a b c d=>#[#[_,a,rfl],h h' a b c d]]
end
end PySem
namespace L2
open PySem PySem.Spec PyProof.Rows
section
variable {X:Cx} {ae:α7} {σ:St} {H:Hp} {s:Shared}
def Inv.un2 {e it:Addr}(I:Inv X ae σ H s)(k:∀b o,b≠e->b≠it->s.heap.get? b=some o->h'.get? b=some o)(i:FpOk X ae H e)(j:FpOk X ae H it):Un (frs X.stack) [e,it] H H s.heap h'/\HOk X.prog X.w H h':=by
 have g:∀b u,H b=some u->b≠e/\b≠it:=λb u q=>#[(λz=>by rw[z,i.1]at q;cases q),(λz=>by rw[z,j.1]at q;cases q)];have d:∀{b:Addr},b ∉ [e,it]->b≠e/\b≠it:=λa=>by simpa using a
 refine#[#[λb o q _ _ a=>k b o (d a).1 (d a).2 q,λb o q _ _ a=>#[o.slots,k b o (d a).1 (d a).2 q],λ_ _ _ n _=>n,λb o q a=>#[o,k b o (d a).1 (d a).2 q],λ_ _ q=>q,λ_ _ _ q=>q,λb ps q=>#[(List.toArray []),by rw[q];simp]],λb u q=>?_];refine (I.hok b u q).stay (λc v f l=>?_) (λ_ q=>q) λ_ _ q=>q;have h:c≠e/\c≠it:=by
  rcases f with rfl|f
  ·exact g _ _ q
  ·exact g _ _ f
 exact k c v h.1 h.2 l
def FpOk.ch (f:FpOk X ae H b):(b∈X.ex\/X.s₀.heap.objs.size<=b)/\b≠X.env.locals/\(∀x c,X.env.cells.lookup x=some c->c≠b)/\∀p∈X.pn++ae,p.1≠b:=#[f.2.2.2.1,f.2.1,f.2.2.2.2.1,f.2.2.2.2.2]
end
noncomputable def Itn (K:α3)(a:Addr)(xs:List V):It:=#[λi H=>i<xs.length/\SqT K H a xs,λi H x H'=>∃t v,H t=none/\xs[i]?=some v/\x=.ref t/\H'=upd H t (.tup [.int i,v]),λi H=>i=xs.length/\SqT K H a xs]
def SS {P:Program}{w:World}{K:α3}{Y:List Expr}{x1}{cN:Pos}(a e it:Addr)(x:e≠it)(R:a≠it)(Z:a≠e)(xs:List V):Turn P w K (.Tuple Y x1 cN) (Itn K a xs) [e,it] e (λi h=>∃g,IsEnum h e it (i:Nat) g/\h.IsTupleIter it a i) where
 mem:=by simp
 obj:=λi h st b f=>by
  obtain⟨g,h1,o,h2,c,d⟩:=st;rcases jw_.mp f with rfl|f
  ·exact#[_,h1,λv z=>by cases z]
  ·rw[jd_.mp f];exact#[o,h2,λv z=>by rw[d]at z;cases z]
 keep:=λi h h' st k=>by
  obtain⟨g,h1,h2⟩:=st;exact#[g,k e (by simp) _ h1,h2.at λo q=>k it (by simp) o q]
 item:=by
  intro X y hw B C i ae s σ H E I l st D;subst y hw B;obtain⟨hi,F⟩:=D;obtain⟨g,j,n⟩:=st;obtain⟨m,rv,p,aa⟩:=I.tuple F;have S:=rv.length;have G:s.heap.IsTuple a m.toArray:=p;have J:=l e (by simp);have T:=l it (by simp);have L:=Draws.tuple (prog:=X.prog) (w:=X.w) (A:=X.A.in1) (I.ok.hd C) it a R m.toArray;refine wpAny_pyNext_enum_itemD L j #[n,G] (by simp;lia) x (by simp[x,qs_ Z]) λu h' r ab ac ad af az ag=>?_;have ah:s.heap.objs.size≠e:=qz_ (jv_ j);refine#[_,rfl,wpAny_letOwnedTupleGo_enum ac λh2 ai M=>?_];have aj:∀b o,b≠e->b≠it->s.heap.get? b=some o->h2.get? b=some o:=λb o h1 ak q=>(M.2 b h1).trans (ag b o h1 ak q);obtain⟨al,am⟩:=I.un2 aj J T;have N:H s.heap.objs.size=none:=I.hok.fresh (jf_ _);have U:xs[i]?=some xs[i]:=by simp[hi]
  obtain⟨t,an,ao⟩:=rv.get U;have ap:t=u:=by
   have W:m[i]?=some u:=by simpa using ab
   rw[an]at W;exact jD_ W
  subst ap;have aq:h2.get? s.heap.objs.size=some {cls:=.type "tuple",data:=.seq (List.toArray [.int i r,t])}:=(M.2 _ ah).trans af;have ar:Bm X.prog X.w (upd H s.heap.objs.size (.tup [.int i,xs[i]])) h2 s.heap.objs.size (.tup [.int i,xs[i]]):=#[by have:=Al;simp;lia,[.int i r,t],.cons #[r,rfl] (.cons ao .nil),_,aq,rfl,_,rfl];refine#[.ref s.heap.objs.size,upd H s.heap.objs.size (.tup [.int i,xs[i]]),I.call' (s':={s with heap:=h2,toks:=r+1}) (ch:=[e,it]) rfl (al.track (jf_ _) N) (am.track N ar) I.bare (λb f=>?_),rfl,#[_,_,N,U,rfl,rfl],?_,λb f=>?_]
  ·exact (l b f).ch
  ·refine#[t,by simpa using ai,?_];exact ad.1.at λo q=>(M.2 it (qs_ x)).trans q
  ·have as:=l b f;have:∃o,s.heap.get? b=some o:=by
    rcases jw_.mp f with rfl|f
    ·exact#[_,j]
    ·rw[jd_.mp f];obtain⟨o,O,_⟩:=n;exact#[o,O]
   obtain⟨o,O⟩:=this;rw[Ak (jP_ (jv_ O))];exact as.1
 done:=by
  intro X y hw B C i ae s σ H E I l st D;subst y hw B;obtain⟨hi,F⟩:=D;subst hi;obtain⟨g,j,n⟩:=st;obtain⟨m,rv,p,aa⟩:=I.tuple F;have S:=rv.length;have G:s.heap.IsTuple a m.toArray:=p;have L:=Draws.tuple (prog:=X.prog) (w:=X.w) (A:=X.A.in1) (I.ok.hd C) it a R m.toArray;obtain⟨au,J,T,av,aw,ax⟩:=l it (by simp);refine wpAny_pyNext_enum_endD L j #[by rw[jm_,<-S];exact n,G] λh' ay=>#[rfl,I.turned (t':=s.toks) (λb o f e=>ay b o f e) au J av aw ax]
 self:=λA i s Q E st h=>by
  obtain⟨g,j,_⟩:=st;exact zv_ j h
noncomputable def X7 (K:α3)(tl:TE):TI:=λ σ H R=>tl σ H λx H1=>∃a xs,x=.ref a/\SqT K H1 a xs/\R (Itn K a xs) H1
theorem RW {K:α3} : X7 K te σ H Z=te σ H λx H1=>∃a xs,x=.ref a/\SqT K H1 a xs/\Z (Itn K a xs) H1:=rfl
theorem X8 {K:α3} : gTup K n t v σ H N=∃a xs,v=.ref a/\SqT K H a xs/\xs.length=n/\t xs σ H N:=rfl
theorem UK : Al_ t u vs σ H N=∃v r,vs=v::r/\t v σ H λag H'=>u r ag H' N:=rfl
theorem X9 : gNil vs σ H N=(vs=[]/\N σ H):=rfl
def Ww {x1} (m:Gl X "enumerate")(hm:X.mg "enumerate"=none)(n:PE X e te)(hs:starEach [e] X.env=[(false,eval e X.env)]:=by rfl):PI X (.Tuple dW x1 cN) (.Call (.Name "enumerate" p) [e] [] pos) (X7 X.K te):=by
 intro ae s σ H R I h;refine Call_ (L9 I m hm boot_enumerate (qP_ (thn (Aa n Ad hs pos ae s σ H (λg H1=>∃a xs,g=[.ref a]/\SqT X.K H1 a xs/\R (Itn X.K a xs) H1) I ?_) λus c ⟨g,H1,d,o,t⟩=>?_) hs rfl))
 ·show te σ H _;have:(λx H1=>∃a xs,x=V.ref a/\SqT X.K H1 a xs/\R (Itn X.K a xs) H1)=(λx H1=>tNil σ H1 λxs H2=>∃a ys,x::xs=[V.ref a]/\SqT X.K H2 a ys/\R (Itn X.K a ys) H2):=by
   funext x H1
   simp[tNil]
  rw[<-this];exact h
 ·obtain⟨a,xs,rfl,u,q⟩:=t;cases o with
  |cons r v=>
   cases v;cases r;obtain⟨w,rv,p,C⟩:=d.tuple u;have i:c.heap.IsTuple a w.toArray:=p;obtain⟨D,y,_⟩:=id i;have j:=jv_ y;refine Im i λh' k z E A=>?_;refine zv_ (s:={c with heap:=h' }) k ?_;have B:Inv X ae σ H1 {c with heap:=h' }:=d.kept (t':=c.toks) A;refine#[c.heap.objs.size+1,[c.heap.objs.size+1,c.heap.objs.size],_,_,H1,rfl,B,SS a (c.heap.objs.size+1) c.heap.objs.size (rJ _) (jP_ j) (jP_ (xc_ j)) xs,#[_,k,z],λb f=>?_,q];have l:c.heap.objs.size<=b:=by
    rcases jw_.mp f with rfl|f
    ·lia
    ·rw[jd_.mp f];exact jf_ _
   exact d.fpOk l (d.hok.fresh l)
def forN {K:α3} (b:Nat->St->Hp->Prop)(f:b 0 σ H)(c:∀i σ H,i<=xs.length->b i σ H->SqT K H a xs)
  (hs:∀i v σ H t,xs[i]?=some v->b i σ H->H t=none->g (.ref t) σ (upd H t (.tup [.int i,v])) λh H2=>tb {D with nx:=b (i+1),ct:=b (i+1),bk:=D.nx} h H2) (j:∀σ H,b xs.length σ H->D.nx σ H):ForW (Itn K a xs) g tb D σ H:=by
 refine#[λi m σ H=>m=xs.length-i/\i<=xs.length/\b i σ H,#[xs.length,by simp,j8_ _,f],?_];rintro i m σ H ⟨rfl,hi,p⟩;by_cases d:i<xs.length
 ·refine .inr #[#[d,c i σ H hi p],b (i+1),λo H' k=>#[xs.length-(i+1),by lia,rfl,d,k],λx H' y=>?_];obtain⟨t,v,l,n,rfl,rfl⟩:=y;exact hs i v σ H t n p l
 ·have e:i=xs.length:=by lia
  subst e;exact .inl #[#[rfl,c _ σ H hi p],j σ H p]
section
variable {td ty tv tx:TE} {D:Ends} {σ:St} {H:Hp} {Q:VK}
theorem Ya:Ay_ td ty σ H Q=td σ H λx H1=>ty σ H1 λy H2=>∃a v,x=.ref a/\DGet H2 a y (some v)/\Q v H2:=rfl
theorem Yb:Az_ td ty tv D σ H=tv σ H λv H1=>td σ H1 λx H2=>ty σ H2 λy c=>∃a b,x=.ref a/\DPut c a y v b/\D.nx σ b:=rfl
theorem UL:XQ td ty σ H Q=td σ H λx H1=>∃a,x=.ref a/\IsD H1 a/\ty σ H1 λy H2=>∃o,DGet H2 a y o/\Q (o.getD .non) H2:=rfl
end
end L2
namespace GW
noncomputable def Yc (w:α2):List (Int×α2)->Nat->α2->List (Int×α2)
 |ents,_,[]=>ents
 |ents,x,g::r=>Yc w (if g∈ents.map (·.1) then ents else ents++[(g,w++[(x:Int)])]) (x+1) r
noncomputable def bfs (ways:α1):Nat->List (Int×α2)->Nat->List (Int×α2)
 |0,ents,_=>ents
 |f+1,ents,i=>match ents[i]? with
  |none=>ents
  |some e=>bfs ways f (Yc e.2 ents 0 (ways.getD e.1.toNat [])) (i+1)
noncomputable def UM (ways:α1):List (Int×α2):=bfs ways (ways.length+1) [(0,[])] 0
def Fc:∀(n:Nat) {l:α2},l.Nodup->(∀x∈l,0<=x/\x<(n:Int))->l.length<=n
 |0,l,_,h=>by
  cases l with
  |nil=>simp
  |cons x r=>have:=h x jt_;lia
 |n+1,l,b,h=>by
  by_cases hm:(n:Int)∈l
  ·have e:=q3_ hm;have:=Fc n (l:=l.erase (n:Int)) (b.erase _) (λx a=>by
    have h1:=(b.mem_erase_iff).mp a;have h2:=h x h1.2;have c:=h1.1;lia)
   lia
  ·have:=Fc n b (λx a=>by
    have h2:=h x a;have:x≠n:=λz=>hm (z ▸ a);lia)
   lia
end GW
namespace L2
open PySem PySem.Spec PyProof.Rows
noncomputable def ups (n:Nat):α2:=(oN n).map λi:Nat=>(i:Int)
noncomputable def rNeD (K:α3)(n:Nat):R2:=λx y H Q=>∃a c b,x=.ref a/\y=.ref c/\EqD K H n x y b/\Q (.bl (!b)) H
theorem AX_ {K:α3} : rNeD K n x y H Q=∃a c b,x=.ref a/\y=.ref c/\EqD K H n x y b/\Q (.bl (!b)) H:=rfl
def RX (n:Nat)(S:X.A.units+n<cLine):OpR X (compareOp .NotEq) (rNeD X.K n):=by
 intro ae s σ H x y v u Q I w z h;obtain⟨a,c,b,rfl,rfl,h,q⟩:=h;cases w;cases z;cases n with
 |zero=>exact absurd (show false=true from h.1) jy_
 |succ n=>
  rcases h with ⟨B,_⟩|⟨T,U,xs,ys,C,D,E,e,F,rfl⟩
  ·exact absurd (show false=true from B) jy_
  ·cases C;cases D;have t:∀(d f:List Value),Vals xs d->Vals ys f->∀j (h1:j<d.toArray.size) (h2:j<f.toArray.size),SeqAt.EqAt X.A.in1 s d.toArray[j] f.toArray[j] (e j):=λd f g k j h1 h2=>by
    have m:=g.length;have p:=k.length;rw[jm_]at h1 h2;obtain⟨G,J,L⟩:=g.get (i:=j) (x:=xs[j]'s!"") (by simp[show j<xs.length by lia]);obtain⟨M,N,O⟩:=k.get (i:=j) (x:=ys[j]'s!"") (by simp[show j<ys.length by lia]);have P:d.toArray[j]'(by rw[jm_];exact h1)=G:=by
     have:=(jb_.mp J).2;simpa using this
    have R:f.toArray[j]'(by rw[jm_];exact h2)=M:=by
     have:=(jb_.mp N).2;simpa using this
    rw[P,R];exact (EqD.at I n X.A.in1 (by rw[in1_units];lia) L O (F j _ _ (by simp[show j<xs.length by lia]) (by simp[show j<ys.length by lia]))).1
   have l:EP X ae σ Q (.bool (!(decide (xs.length=ys.length)&&(oN (min xs.length ys.length)).all e))) s:=#[.bl _,H,I,rfl,q];rcases E with ⟨h1,h2⟩|⟨h1,h2⟩
   ·obtain⟨d,g,o,_⟩:=I.list h1;obtain⟨f,k,p2,_⟩:=I.list h2;have m:=g.length;have p:=k.length;by_cases r:xs.length=ys.length
    ·have:=SeqAt.RcNeAt.lists (e:=e) o.isList p2.isList (by rw[jm_,jm_];lia) s!"" (t d f g k);rw[jm_,<-m]at this;rw[jH_ r,qR,<-r,qc]at l;exact this _ _ _ _ l
    ·have:=SeqAt.RcNeAt.lists_lengths (A:=X.A) o.isList p2.isList (by rw[jm_,jm_];simp;lia) s!"";rw[jQ_ r,qG]at l;exact this _ _ _ _ l
   ·obtain⟨d,g,o,_⟩:=I.tuple h1;obtain⟨f,k,p2,_⟩:=I.tuple h2;have m:=g.length;have p:=k.length;have:=SeqAt.RcNeAt.tuples (e:=e) (show s.heap.IsTuple a d.toArray from o) (show s.heap.IsTuple c f.toArray from p2) s!"" (t d f g k);rw[jm_,jm_,<-m,<-p,Uy]at this;exact this _ _ _ _ l
end L2
namespace L2
open PySem GW
noncomputable def mkW (af:α2)(r:Int):Int:=af.getD r.toNat 0
def AY_ (b:0<=r)(h1:r<af.length):mkW af r∈af:=by
 have a:r.toNat<af.length:=by lia
 unfold mkW;rw[jx_,jg_ a];exact qd_ a
def P4 (a:0<=r)(h1:r<af.length):atI (af.map V.int) r=some (V.int (mkW af r)):=by
 have b:r.toNat<af.length:=by lia
 refine Cf a ?_;unfold mkW;rw[jx_,jg_ b];rfl
end L2
namespace L2
open PySem PySem.Spec PyProof.Rows
def Vals.ofIx:∀{xs:List V} {us:List Value},us.length=xs.length->(∀(i:Nat) (v:Value),us[i]?=some v->∃x,xs[i]?=some x/\RelV x v)->Vals xs us
 |[],[],_,_=>.nil
 |[],_::_,h,_=>by simp at h
 |_::_,[],h,_=>by simp at h
 |x::xs,u::us,h,k=>by
  refine .cons ?_ (Vals.ofIx (by simpa using h) λi v a=>?_)
  ·obtain⟨y,e,r⟩:=k 0 u rfl;cases e;exact r
  ·obtain⟨y,e,r⟩:=k (i+1) v (by simpa using a);exact#[y,by simpa using e,r]
end L2
namespace L2
theorem r_in {K:α3} : rIn K gF x y H Q=∃p xs,y=.ref p/\(SqL K H p xs\/SqT K H p xs)/\EB x=true/\xs.all EB=true/\Q (.bl (if gF then !inV x xs else inV x xs)) H:=rfl
def LZ (g:Int)(ns:α2):inV (.int g) (ns.map V.int)=decide (g∈ns):=by
 unfold inV;rw[rp,j1_,qe_,j6_];constructor
 ·rintro⟨n,a,e⟩;have e:decide (n=g)=true:=by simpa [eqV] using e
  rw[<-j0_ e];exact a
 ·exact λh=>#[g,h,by simp[eqV]]
end L2
namespace GW
noncomputable def cnt (keys:α2)(j:Nat):Nat:=((oN j).filter λr:Nat=>decide ((r:Int)∈keys)).length
end GW
namespace L2
open PySem PySem.Spec PyProof.Rows
noncomputable def Itm (K:α3)(a:Addr)(xs:List V):It:=#[λi H=>i<xs.length/\SqL K H a xs,λi H x H'=>∃t v,H t=none/\xs[i]?=some v/\x=.ref t/\H'=upd H t (.tup [.int i,v]),λi H=>i=xs.length/\SqL K H a xs]
def SU {P:Program}{w:World}{K:α3}{Y:List Expr}{x1}{cN:Pos}(a e it:Addr)(x:e≠it)(R:a≠it)(Z:a≠e)(xs:List V):Turn P w K (.Tuple Y x1 cN) (Itm K a xs) [e,it] e (λi h=>∃g,IsEnum h e it (i:Nat) g/\h.IsListIter it a i) where
 mem:=by simp
 obj:=λi h st b f=>by
  obtain⟨g,h1,o,h2,c,d⟩:=st;rcases jw_.mp f with rfl|f
  ·exact#[_,h1,λv z=>by cases z]
  ·rw[jd_.mp f];exact#[o,h2,λv z=>by rw[d]at z;cases z]
 keep:=λi h h' st k=>by
  obtain⟨g,h1,h2⟩:=st;exact#[g,k e (by simp) _ h1,h2.at λo q=>k it (by simp) o q]
 item:=by
  intro X y hw B C i ae s σ H E I l st D;subst y hw B;obtain⟨hi,F⟩:=D;obtain⟨g,j,n⟩:=st;obtain⟨m,rv,p,aa⟩:=I.list F;have S:=rv.length;have G:s.heap.IsList a m.toArray:=p.isList;have J:=l e (by simp);have T:=l it (by simp);have L:=Draws.list (prog:=X.prog) (w:=X.w) (A:=X.A.in1) (I.ok.hd C) it a R m.toArray;refine wpAny_pyNext_enum_itemD L j #[n,G] (by simp;lia) x (by simp[x,qs_ Z]) λu h' r ab ac ad af az ag=>?_;have ah:s.heap.objs.size≠e:=qz_ (jv_ j);refine#[_,rfl,wpAny_letOwnedTupleGo_enum ac λh2 ai M=>?_];have aj:∀b o,b≠e->b≠it->s.heap.get? b=some o->h2.get? b=some o:=λb o h1 ak q=>(M.2 b h1).trans (ag b o h1 ak q);obtain⟨al,am⟩:=I.un2 aj J T;have N:H s.heap.objs.size=none:=I.hok.fresh (jf_ _);have U:xs[i]?=some xs[i]:=by simp[hi]
  obtain⟨t,an,ao⟩:=rv.get U;have ap:t=u:=by
   have W:m[i]?=some u:=by simpa using ab
   rw[an]at W;exact jD_ W
  subst ap;have aq:h2.get? s.heap.objs.size=some {cls:=.type "tuple",data:=.seq (List.toArray [.int i r,t])}:=(M.2 _ ah).trans af;have ar:Bm X.prog X.w (upd H s.heap.objs.size (.tup [.int i,xs[i]])) h2 s.heap.objs.size (.tup [.int i,xs[i]]):=#[by have:=Al;simp;lia,[.int i r,t],.cons #[r,rfl] (.cons ao .nil),_,aq,rfl,_,rfl];refine#[.ref s.heap.objs.size,upd H s.heap.objs.size (.tup [.int i,xs[i]]),I.call' (s':={s with heap:=h2,toks:=r+1}) (ch:=[e,it]) rfl (al.track (jf_ _) N) (am.track N ar) I.bare (λb f=>?_),rfl,#[_,_,N,U,rfl,rfl],?_,λb f=>?_]
  ·exact (l b f).ch
  ·refine#[t,by simpa using ai,?_];exact ad.1.at λo q=>(M.2 it (qs_ x)).trans q
  ·have as:=l b f;have:∃o,s.heap.get? b=some o:=by
    rcases jw_.mp f with rfl|f
    ·exact#[_,j]
    ·rw[jd_.mp f];obtain⟨o,O,_⟩:=n;exact#[o,O]
   obtain⟨o,O⟩:=this;rw[Ak (jP_ (jv_ O))];exact as.1
 done:=by
  intro X y hw B C i ae s σ H E I l st D;subst y hw B;obtain⟨hi,F⟩:=D;subst hi;obtain⟨g,j,n⟩:=st;obtain⟨m,rv,p,aa⟩:=I.list F;have S:=rv.length;have G:s.heap.IsList a m.toArray:=p.isList;have L:=Draws.list (prog:=X.prog) (w:=X.w) (A:=X.A.in1) (I.ok.hd C) it a R m.toArray;obtain⟨au,J,T,av,aw,ax⟩:=l it (by simp);refine wpAny_pyNext_enum_endD L j #[by rw[jm_,<-S];exact n,G] λh' ay=>#[rfl,I.turned (t':=s.toks) (λb o f e=>ay b o f e) au J av aw ax]
 self:=λA i s Q E st h=>by
  obtain⟨g,j,_⟩:=st;exact zv_ j h
noncomputable def Yd (K:α3)(tl:TE):TI:=λ σ H R=>tl σ H λx H1=>∃a xs,x=.ref a/\SqL K H1 a xs/\R (Itm K a xs) H1
theorem RY {K:α3} : Yd K te σ H Z=te σ H λx H1=>∃a xs,x=.ref a/\SqL K H1 a xs/\Z (Itm K a xs) H1:=rfl
def Wx {x1} (m:Gl X "enumerate")(hm:X.mg "enumerate"=none)(n:PE X e te)(hs:starEach [e] X.env=[(false,eval e X.env)]:=by rfl):PI X (.Tuple dW x1 cN) (.Call (.Name "enumerate" p) [e] [] pos) (Yd X.K te):=by
 intro ae s σ H R I h;refine Call_ (L9 I m hm boot_enumerate (qP_ (thn (Aa n Ad hs pos ae s σ H (λg H1=>∃a xs,g=[.ref a]/\SqL X.K H1 a xs/\R (Itm X.K a xs) H1) I ?_) λus c ⟨g,H1,d,o,t⟩=>?_) hs rfl))
 ·show te σ H _;have:(λx H1=>∃a xs,x=V.ref a/\SqL X.K H1 a xs/\R (Itm X.K a xs) H1)=(λx H1=>tNil σ H1 λxs H2=>∃a ys,x::xs=[V.ref a]/\SqL X.K H2 a ys/\R (Itm X.K a ys) H2):=by
   funext x H1
   simp[tNil]
  rw[<-this];exact h
 ·obtain⟨a,xs,rfl,u,q⟩:=t;cases o with
  |cons r v=>
   cases v;cases r;obtain⟨w,rv,p,C⟩:=d.list u;have i:c.heap.IsList a w.toArray:=p.isList;obtain⟨D,y,_⟩:=id i;have j:=jv_ y;refine call_enumerate_list i λh' k z E A=>?_;refine zv_ (s:={c with heap:=h' }) k ?_;have B:Inv X ae σ H1 {c with heap:=h' }:=d.kept (t':=c.toks) A;refine#[c.heap.objs.size+1,[c.heap.objs.size+1,c.heap.objs.size],_,_,H1,rfl,B,SU a (c.heap.objs.size+1) c.heap.objs.size (rJ _) (jP_ j) (jP_ (xc_ j)) xs,#[_,k,z],λb f=>?_,q];have l:c.heap.objs.size<=b:=by
    rcases jw_.mp f with rfl|f
    ·lia
    ·rw[jd_.mp f];exact jf_ _
   exact d.fpOk l (d.hok.fresh l)
def forM {K:α3} (b:Nat->St->Hp->Prop)(f:b 0 σ H)(c:∀i σ H,i<=xs.length->b i σ H->SqL K H a xs)
  (hs:∀i v σ H t,xs[i]?=some v->b i σ H->H t=none->g (.ref t) σ (upd H t (.tup [.int i,v])) λh H2=>tb {D with nx:=b (i+1),ct:=b (i+1),bk:=D.nx} h H2) (j:∀σ H,b xs.length σ H->D.nx σ H):ForW (Itm K a xs) g tb D σ H:=by
 refine#[λi m σ H=>m=xs.length-i/\i<=xs.length/\b i σ H,#[xs.length,by simp,j8_ _,f],?_];rintro i m σ H ⟨rfl,hi,p⟩;by_cases d:i<xs.length
 ·refine .inr #[#[d,c i σ H hi p],b (i+1),λo H' k=>#[xs.length-(i+1),by lia,rfl,d,k],λx H' y=>?_];obtain⟨t,v,l,n,rfl,rfl⟩:=y;exact hs i v σ H t n p l
 ·have e:i=xs.length:=by lia
  subst e;exact .inl #[#[rfl,c _ σ H hi p],j σ H p]
theorem UN : XJ x vs H Q=∃l xs i k y,x=.ref l/\vs=[.int i]/\H l=some (.lst xs) /\ -(2 ^ 63)<=i/\i<2 ^ 63/\seqIndex? i xs.length=some k/\xs[k]?=some y/\Q y (upd H l (.lst (xs.eraseIdx k))):=rfl
noncomputable def rng (i j:Int):α2:=(oN (j-i).toNat).map λk:Nat=>i+(k:Int)
end L2
namespace PySem
open Sem (wp)
def Heap.DEnt (h:Heap)(d:Addr)(es:Array DictEntry)(ep:Nat):Prop:=∃o,h.get? d=some o/\o.ExactDict/\o.data=.dict es ep
section
variable {prog:Program} {w:World} {A:Around} {E:Value->Shared->Prop} {s:Shared} {d it:Addr} {es:Array DictEntry} {i ep:Nat}
def Heap.DEnt.typeIs (h:s.heap.DEnt d es ep):s.TypeIs (.ref d) "dict" := let ⟨o,a,b,_⟩:=h;#[o,a,b.1]
def Heap.DEnt.at {h h':Heap}(x:h.DEnt d es ep)(e:∀o,h.get? d=some o->h'.get? d=some o):h'.DEnt d es ep:=let ⟨o,a,r⟩:=x;#[o,e _ a,r]
def Heap.DEnt.lt_size {h:Heap}(x:h.DEnt d es ep):d<h.objs.size:=let ⟨_,a,_⟩:=x;jv_ a
def Mj (e:(d==sysModules)=false)(hm:s.heap.DEnt d es ep)
  (f:Q (.ref s.heap.objs.size) {s with heap:=s.heap.push {cls:=.type "dict_keyiterator",data:=.fields (List.toArray [.ref d,.int 0 0,.int es.size 0,.int ep 0])} }):wpAny (model prog w) A (pyIter (.ref d)) Q E s:=by
 have a:=hm.typeIs;obtain⟨o,b,g,c⟩:=id hm;refine wpAny_pyIter_slot a F.slot_dict_iter (qE_ F.slot_dict_iter a F.entry_dict_iter (?_:wpAny _ _ (Builtin.«dict.__iter__» _) _ _ s) (F.args_dict_iter_1 _));unfold Builtin.«dict.__iter__»;refine wpAny_bind ?_;unfold Builtin.Dict.dictSlotNone;refine wpAny_bind (wpAny_notOrdered_dict a ?_);show wpAny _ _ (pure (Value.ref d)) _ _ s;refine jl_ ?_;show wpAny _ _ (Builtin.Dict.showsAll d >>= _) _ _ s;unfold Builtin.Dict.showsAll;rw[if_neg (λz=>by rw[e]at z;cases z)];refine jc_ (jl_ (jc_ (zw_ b c (jc_ (wpAny_dictEpoch b c ?_)))));refine jc_ (qG_ (jl_ #[_,rfl,"dict_keyiterator",_,#[_,js_ _ rfl,rfl],qN_.lookup,?_]));simpa [rawInt] using f
def Gm (aF:s.heap.IsKeyIter it d i es.size ep)(hm:s.heap.DEnt d es ep)(e:i<es.size)
  (f:∀h',h'.IsKeyIter it d (i+1) es.size ep->Heap.SameBut it s.heap h'->Q (some es[i].key) {s with heap:=h' }):wpAny (model prog w) A (pyNext (.ref it)) Q E s:=by
 obtain⟨o,ho,g,hd⟩:=id aF;obtain⟨od,a,j,b⟩:=id hm;have h:Builtin.Dict_items.ownsTuple "dict_keyiterator"=false:=by decide
 unfold pyNext;refine jc_ (zQ_ (qy_ (name:=Str.ofString "__next__") aF.typeIs qN_ (qE_ qN_ aF.typeIs F.entry_dict_keyiterator_next ?_ (F.args_dict_keyiterator_next_1 _))));refine jc_ (jl_ (jc_ (jc_ ?_)))
 first|refine jc_ (q8_ aF.typeIs (jl_ (jc_ (zA_ ho hd ?_))))|refine jc_ (xw_ aF.typeIs (jl_ (jc_ (zA_ ho hd ?_))))
 simp only[h,j2_,qM_];show wpAny _ _ (if (Value.ref d==Value.none)=true then _ else _) _ _ s;rw[if_neg (show ¬ ((Value.ref d==Value.none)=true) from λz=>jy_ z)];refine jc_ (jl_ (jc_ (zw_ a b ?_)));rw[if_neg (by simp)];refine jc_ (jl_ (jc_ (wpAny_dictEpoch a b ?_)));rw[if_neg (by simp)];refine jl_ ?_;simp only[show ¬ ((i:Int)<0) from by lia,qM_,jA_,jV_ e];refine jc_ ?_
 first|refine jc_ (q8_ aF.typeIs (jl_ (jc_ (zH_ aF.typeIs ?_))))|refine jc_ (xw_ aF.typeIs (jl_ (jc_ (zH_ aF.typeIs ?_))))
 show wpAny _ _ (setField (.ref it) 1 (rawInt ((i:Int)+1)) >>= _) _ _ s;refine jc_ (wpAny_setField ho hd (by simp) ?_);have c:(s.heap.update it (Obj.mapFields (·.setIfInBounds 1 (rawInt ((i:Int)+1))))).IsKeyIter it d (i+1) es.size ep:=#[_,qI_ _ ho (Obj.isFreed_of_fields (Obj.data_mapFields hd _)),(Obj.cls_mapFields ..).trans g,by rw[Obj.data_mapFields hd];simp[rawInt]];refine jc_ (qq_ (jc_ (zH_ (s:={s with heap:=s.heap.update it (Obj.mapFields (·.setIfInBounds 1 (rawInt ((i:Int)+1))))}) c.typeIs ?_)));show wpAny _ _ (pure es[i].key) _ _ _;exact jl_ (jl_ #[_,rfl,jl_ (f _ c (xe_ ..))])
def GL (f:A.handled=none)(aF:s.heap.IsKeyIter it d i es.size ep)(hm:s.heap.DEnt d es ep)(g:es.size<=i)
  (h:∀h',Heap.ExtBut it s.heap h'->Q none {s with heap:=h' }):wpAny (model prog w) A (pyNext (.ref it)) Q E s:=by
 obtain⟨o,ho,k,hd⟩:=id aF;obtain⟨od,c,l,e⟩:=id hm;have j:Builtin.Dict_items.ownsTuple "dict_keyiterator"=false:=by decide
 unfold pyNext;refine jc_ (zQ_ (qy_ (name:=Str.ofString "__next__") aF.typeIs qN_ (qE_ qN_ aF.typeIs F.entry_dict_keyiterator_next ?_ (F.args_dict_keyiterator_next_1 _))));refine jc_ (jl_ (jc_ (jc_ ?_)))
 first|refine jc_ (q8_ aF.typeIs (jl_ (jc_ (zA_ ho hd ?_))))|refine jc_ (xw_ aF.typeIs (jl_ (jc_ (zA_ ho hd ?_))))
 simp only[j,j2_,qM_];show wpAny _ _ (if (Value.ref d==Value.none)=true then _ else _) _ _ s;rw[if_neg (show ¬ ((Value.ref d==Value.none)=true) from λz=>jy_ z)];refine jc_ (jl_ (jc_ (zw_ c e ?_)));rw[if_neg (by simp)];refine jc_ (jl_ (jc_ (wpAny_dictEpoch c e ?_)));rw[if_neg (by simp)];refine jl_ ?_;simp only[show ¬ ((i:Int)<0) from by lia,qM_,jA_,qd g];refine jc_ ?_
 first|refine jc_ (q8_ aF.typeIs (jl_ ?_))|refine jc_ (xw_ aF.typeIs (jl_ ?_))
 show wpAny _ _ (setField (.ref it) 0 .none >>= _) _ _ s;refine jc_ (wpAny_setField ho hd (by simp) ?_);show wpAny _ _ (newExc (.type "StopIteration") [] >>= _) _ _ _;refine jc_ ?_;simp only[newExc,newTuple];refine jc_ (qG_ ?_ (by size_fits));refine jc_ (m:=firstArgMember _ _) (wpAny_of_eq (a:=Value.none) (by first|rfl|(simp only[firstArgMember];rfl)) (qG_ ?_ (by size_fits)));simp only[raiseNew];refine jc_ (wpAny_handled ?_);rw[show A.in1.handled=none from f];refine jc_ (jl_ (wpAny_throw ?_));refine jc_ (wpAny_isInstance (T := "StopIteration") (b:=true) #[_,js_ _ rfl,rfl] isSubtype_stop (jl_ (h _ (((xe_ ..).extBut.push _).push _))))
def Walks.dent (j:A.handled=none)(I:Addr)(k:d≠I):Walks prog w A I [I,d] [I] es.size (λi v=>∃e,es[i]?=some e/\v=e.key) (λi h=>h.IsKeyIter I d i es.size ep/\h.DEnt d es ep) where
 sub:=λb a=>by simp at a;simp[a]
 frame:=λ_ _ _ st f=>#[st.1.at λo e=>f I (by simp) o e,st.2.at λo e=>f d (by simp) o e]
 item:=λi s Q E hi st c=>by
  refine Gm st.1 st.2 hi λh' l g=>?_;exact c _ h' s.toks #[es[i],by simp[hi],rfl] #[l,st.2.at λo e=>g.extBut d o k e] λb o a e=>g.extBut b o (λz=>a (by simp[z])) e
 done:=λs Q E st c=>GL j st.1 st.2 (jf_ _) λh' m=>c h' s.toks λb o a e=>m b o (λz=>a (by simp[z])) e
 self:=λ_ _ _ _ st c=>wpAny_pyIter_keyiter st.1 c
def Wy (lo:(d==sysModules)=false):uQ prog w "dict" d d es.size (λi v=>∃e,es[i]?=some e/\v=e.key) (λh=>h.DEnt d es ep) where
 type:=λ_ hm=>hm.typeIs
 there:=λ_ hm=>#[hm.lt_size,hm.lt_size]
 keep:=λ_ _ hm b=>hm.at λo e=>b d (.inl rfl) o e
 notList:=by decide
 notTuple:=by decide
 hint:=λ_ _ _ _ hm a=>tW hm.typeIs a
 iter:=λ_ _ c hm=>#[_,_,(λ_ _ a=>Mj lo hm a),Walks.dent c _ (jP_ hm.lt_size),#[#[_,js_ _ rfl,rfl,rfl],hm.at λo e=>jj_ _ e]]
end
end PySem
namespace L2
open PySem PySem.Spec PyProof.Rows
def KN {α β:Type}{F:α->β->Prop}:∀{l:List α} {m:List β} {i:Nat} {a:α},Paired F l m->l[i]?=some a->∃b,m[i]?=some b/\F a b
 |_,_,_,_,.nil,e=>by simp at e
 |_,_,0,_,.cons r _,e=>by simp at e;subst e;exact#[_,rfl,r]
 |_,_,i+1,a,.cons _ t,e=>by
  obtain⟨b,h1,h2⟩:=KN (i:=i) (a:=a) t (by simpa using e);exact#[b,by simpa using h1,h2]
def QV (ok:HOk P w H h)(e:Rd H a (.dT kvs)):
  ∃o es ep,h.get? a=some o/\o.ExactDict/\o.data=.dict es ep/\es.size=kvs.length/\(a==sysModules)=false/\kvs.length<=sizeLine /\
   ∀(i:Nat) (k:List Key) (v:V),kvs[i]?=some (k,v)->∃b c,es[i]?=some c/\c.key=.ref b/\H b=some (.tup (k.map kV)):=by
 obtain⟨z,y,xs,r,o,es,ep,h1,h2,f,d,p⟩:=(show Bm P w H h a (.dT kvs) from Wq ok e);have g:=zj_ r;have j:es.size=kvs.length:=by rw[<-jL_,d,ja_,g]
 refine#[o,es,ep,h1,h2,f,j,y,z,λi k v l=>?_];obtain⟨q,m,s,n,_⟩:=KN r l;refine#[q.2.1,entryOfKey (tupleKind (Bc P w)) q,?_,rfl,n];rw[<-jZ_,d,jh_,m];rfl
section
variable {X:Cx} {ae:α7} {σ:St} {H:Hp} {s:Shared} {a:Addr}
def Inv.freeze (I:Inv X ae σ H s)(e:H a=some (.dT kvs))(c:s.heap.get? a=some o):Inv X ae σ (upd H a (.frz o (.dT kvs))) s:=by
 refine Oj (h':=s.heap) (t':=s.toks) I (by rw[e];exact oO) #[rfl,λ_ _=>rfl] #[o,c] ?_;obtain⟨z,y,xs,r,q⟩:=(show Bm X.prog X.w H s.heap a (.dT kvs) from I.hok a _ e);refine#[c,z,y,xs,Paired.mapP r λp x b=>#[b.1,?_,b.2.2],q];rw[Ak (λz=>by have h1:=b.2.1;rw[z,e]at h1;cases h1)];exact b.2.1
end
noncomputable def Itd (o:Obj)(a:Addr)(kvs:List (List Key×V)):It:=#[λi H=>i<kvs.length/\H a=some (.frz o (.dT kvs)),λi H x H'=>H'=H/\∃b k v,kvs[i]?=some (k,v)/\x=.ref b/\H b=some (.tup (k.map kV)),λi H=>kvs.length<=i/\H a=some (.frz o (.dT kvs))]
def SV {P:Program}{w:World}{K:α3}{tg:Expr}{o:Obj}{a it:Addr}{kvs:List (List Key×V)}{es:Array DictEntry}{ep:Nat}(Y:a≠it)(hc:o.ExactDict)(m:o.data=.dict es ep)(hs:es.size=kvs.length):
  Turn P w K tg (Itd o a kvs) [it] it (λi h=>h.IsKeyIter it a i es.size ep) where
 mem:=by simp
 obj:=λi h st b f=>by
  have e:b=it:=by simpa using f
  subst e;obtain⟨o,e,c,d⟩:=st;exact#[o,e,λv z=>by rw[d]at z;cases z]
 keep:=λi h h' st k=>st.at λo e=>k it (by simp) o e
 item:=by
  intro X n hw p B i ae s σ H E I g st q;subst n hw p;obtain⟨hi,j⟩:=q;obtain⟨l,_⟩:=(show Bm X.prog X.w H s.heap a (.frz o (.dT kvs)) from I.hok a _ j);obtain⟨o',Z,aa,C,ab,D,ac,ad,af,M⟩:=QV I.hok (.inr #[o,j]);rw[l]at C;cases C;rw[m]at D;cases D;obtain⟨r,F⟩:∃r,kvs[i]?=some r:=#[kvs[i],by simp[hi]];obtain⟨k,v⟩:=r;obtain⟨b,N,G,O,Q⟩:=M i k v F;obtain⟨t,u,R,x,y,A⟩:=g it (by simp);have J:i<es.size:=by lia
  have S:es[i]=N:=by rw[jV_ J]at G;exact jD_ G
  refine Gm st #[o,l,hc,m] J λh' L T=>?_;have U:Inv X ae σ H {s with heap:=h' }:=I.turned (t':=s.toks) (λb o f e=>(T.2 b f).trans e) t u x y A;obtain⟨ag,e,c,d⟩:=id L;exact#[_,rfl,Sw (s:={s with heap:=h' }) e c d (by decide) #[.ref b,H,U,(by rw[S,O];rfl),#[rfl,b,k,v,F,rfl,Q],L,λb f=>(g b f).1]]
 done:=by
  intro X n hw p B i ae s σ H E I g st q;subst n hw p;obtain⟨hi,j⟩:=q;obtain⟨l,_⟩:=(show Bm X.prog X.w H s.heap a (.frz o (.dT kvs)) from I.hok a _ j);obtain⟨t,u,R,x,y,A⟩:=g it (by simp);exact GL (I.ok.hd B) st #[o,l,hc,m] s!"" λh' W=>#[rfl,I.turned (t':=s.toks) (λb o f e=>W b o f e) t u x y A]
 self:=λ_ _ _ _ _ st h=>wpAny_pyIter_keyiter st h
noncomputable def Ye (td:TE):TI:=λ σ H R=>td σ H λx H1=>∃a b,x=.ref a/\H1 a=some (.dT b)/\∀o,R (Itd o a b) (upd H1 a (.frz o (.dT b)))
theorem RZ : Ye te σ H Z=te σ H λx H1=>∃a kvs,x=.ref a/\H1 a=some (.dT kvs)/\∀o,Z (Itd o a kvs) (upd H1 a (.frz o (.dT kvs))):=rfl
def Wz (m:PE X l tl):PI X tg l (Ye tl):=by
 intro ae s σ H R I h;refine thn (m ae s σ H _ I h) λv c ⟨x,H1,g,n,p⟩=>?_;obtain⟨a,kvs,e,i,q⟩:=p;subst e;cases n;obtain⟨o,es,ep,d,j,k,r,t,w,y⟩:=QV g.hok (.inl i);have f:=g.freeze i d;refine Mj t #[o,d,j,k] ?_;refine#[c.heap.objs.size,[c.heap.objs.size],_,_,_,rfl,f.kept (t':=c.toks) λb o e=>jj_ _ e,SV (o:=o) (kvs:=kvs) (jP_ (jv_ d)) j k r,#[_,js_ _ rfl,rfl,rfl],λb u=>?_,q o];have e:b=c.heap.objs.size:=by simpa using u
 subst e;exact f.fpOk (jf_ _) (f.hok.fresh (jf_ _))
def forD (c:Nat->St->Hp->Prop)(j:c 0 σ H)(l:∀i σ H,i<=kvs.length->c i σ H->H a=some (.frz o (.dT kvs)))
  (hs:∀i k v b σ H,kvs[i]?=some (k,v)->c i σ H->H b=some (.tup (k.map kV))->g (.ref b) σ H λn H2=>tb {D with nx:=c (i+1),ct:=c (i+1),bk:=D.nx} n H2) (p:∀σ H,c kvs.length σ H->D.nx σ H):ForW (Itd o a kvs) g tb D σ H:=by
 refine#[λi m σ H=>m+i=kvs.length/\c i σ H,#[kvs.length,by lia,j],λi m σ H ⟨hm,d⟩=>?_];have f:=l i σ H s!"" d;by_cases hi:i<kvs.length
 ·refine .inr #[#[hi,f],c (i+1),λt H' h=>#[m-1,by lia,by lia,h],λx H' q=>?_];obtain⟨rfl,b,k,v,r,rfl,s⟩:=q;exact hs i k v b σ _ r d s
 ·have e:i=kvs.length:=by lia
  subst e;exact .inl #[#[jf_ _,f],p σ H d]
def Ec (hc:X.calm=true):DU X (.type "list") (λxs H Q=>∃p kvs,xs=[.ref p]/\Rd H p (.dT kvs)/\∀l rs,H l=none->rs.length=kvs.length ->
  (∀(i:Nat) (k:List Key) (v:V),kvs[i]?=some (k,v)->∃b,rs[i]?=some (V.ref b)/\H b=some (.tup (k.map kV)))->Q (.ref l) (upd H l (.lst rs))):=by
 intro ae s σ H xs us Q I r h;obtain⟨p,kvs,rfl,A,q⟩:=h;obtain⟨u,rfl,B⟩:=vals1 r;cases B;obtain⟨o,es,ep,C,D,E,d,F,G,n⟩:=QV I.hok A;refine uJ (Wy (es:=es) (ep:=ep) F) (I.ok.hd hc) #[o,C,D,E] s!"" λh' J t K L M x=>?_
 let f:DictEntry->V:=λe=>match e.key with | .ref b=>V.ref b|_=>.non
 have N:∀(i:Nat) (k:List Key) (v:V),kvs[i]?=some (k,v)->∃b,(es.toList.map f)[i]?=some (V.ref b)/\H b=some (.tup (k.map kV)):=λi k v O=>by
  obtain⟨b,y,a,c,z⟩:=n i k v O;refine#[b,?_,z];rw[jh_,jZ_,a];show some (f y)=_;simp only[f,c]
 have g:(es.toList.map f).length=kvs.length:=by rw[ja_,jL_,d]
 have j:Vals (es.toList.map f) t.toList:=by
  refine Vals.ofIx (by rw[g,<-d];simpa using x.1) λi v j=>?_;obtain⟨e,m,rfl⟩:=x.2 i v (by simpa using j);have hi:i<kvs.length:=by rw[<-d];exact (jS_.mp m).1
  obtain⟨b,y,a,c,z⟩:=n i kvs[i].1 kvs[i].2 (by simp[hi]);rw[m]at a;cases a;refine#[V.ref b,?_,by rw[c];rfl];rw[jh_,jZ_,m];show some (f e)=_;simp only[f,c]
 exact#[.ref _,_,I.laid (t':=J) L (jf_ _) (show Bm X.prog X.w _ h' _ (.lst (es.toList.map f)) from #[by rw[g];exact G,t.toList,K,j,by simpa using M]),rfl,q _ _ (I.hok.fresh (jf_ _)) g N]
end L2
namespace GB
open GW
variable {α:Type} [DecidableEq α]
noncomputable def KO (step:α->Int->α)(a:α)(ws:α2):α:=ws.foldl step a
def NM (step:α->Int->α)(a:α)(ws:α2)(x:Int):KO step a (ws++[x])=step (KO step a ws) x:=by
 unfold KO;rw[qJ_];rfl
def SW (step:α->Int->α)(a:α)(ws:α2)(x:Int):KO step a (x::ws)=KO step (step a x) ws:=rfl
noncomputable def put (step:α->Int->α)(r:α)(w:α2)(ents:List (α×α2))(x:Nat):List (α×α2):=if step r x∈ents.map (·.1) then ents else ents++[(step r x,w++[(x:Int)])]
structure B (L:Int)(step:α->Int->α)(st:α)(ok:α->Prop)(ents:List (α×α2))(i:Nat)(top:Int):Prop where
 hd:ents[0]?=some (st,[])
 il:i<=ents.length
 sh:∀(j:Nat) (e:α×α2),ents[j]?=some e->e.2.length<=j
 nod:(ents.map (·.1)).Nodup
 rng:∀e∈ents,ok e.1
 wd:∀e∈ents,isW L e.2=true/\KO step st e.2=e.1
 inc:∀(j k:Nat) (a b:α×α2),j<k->ents[j]?=some a->ents[k]?=some b->place L a.2<place L b.2
 bnd:∀e∈ents,place L e.2<top
 don:∀j,j<i->∀e,ents[j]?=some e->∀x:Int,0<=x->x<L->∃e'∈ents,e'.1=step e.1 x/\place L e'.2<=place L (e.2++[x])
variable {L:Int} {step:α->Int->α} {st:α} {ok:α->Prop} {ents:List (α×α2)} {i:Nat} {top:Int}
def B.start (L:Int)(step:α->Int->α){st:α} (h:ok st):B L step st ok [(st,[])] 0 1:=by
 refine#[rfl,by simp,(λj e c=>by cases j with|zero=>(simp at c;subst c;simp)|succ j=>simp at c),by simp,λe c=>?_,λe c=>?_,λj k a b h h1 h2=>?_,λe c=>?_,λj d=>absurd d (q1_ _)]
 ·simp at c;subst c;exact h
 ·simp at c;subst c;exact#[rfl,rfl]
 ·have:=(jb_.mp h2).1;simp at this;lia
 ·simp at c;subst c;simp[place,RS]
def B.up (h:B L step st ok ents i top)(a:top<=top'):B L step st ok ents i top' :=
 #[h.hd,h.il,h.sh,h.nod,h.rng,h.wd,h.inc,λe b=>Int.lt_of_lt_of_le (h.bnd e b) a,h.don]
def B.add (h:B L step st ok ents i top) (hw:(r,w)∈ents)(s:0<=x/\x<L)(P:top<=place L w*L+x+1)
  (t:ok (step r x)) (u:step r x∉ents.map (·.1)):B L step st ok (ents++[(step r x,w++[x])]) i (place L w*L+x+2):=by
 obtain⟨l,v⟩:=h.wd _ hw;have n:=KL L w x;have A:0<ents.length:=by have:=(jb_.mp h.hd).1;lia
 refine#[?_,by have:=h.il;simp;lia,λj e c=>?_,?_,λe c=>?_,λe c=>?_,λj k a b C h1 h2=>?_,λe c=>?_,λj g e c y D E=>?_]
 ·rw[ji_ A];exact h.hd
 ·have g:=(jb_.mp c).1;rw[jk_,jB_]at g;by_cases d:j<ents.length
  ·rw[ji_ d]at c;exact h.sh j e c
  ·have F:j=ents.length:=by lia
   subst F;rw[ju_ (jf_ _),qK_]at c;simp at c;subst c;obtain⟨o,G,H⟩:=j3_ hw;have:=h.sh o (r,w) (by rw[jg_ G,H]);have Q:w.length<=o:=this;show (w++[x]).length<=ents.length;simp;lia
 ·rw[jn_,qm_];refine#[h.nod,by simp,λa I b p=>?_];simp at p;subst p;exact λz=>u (z ▸ I)
 ·rcases jr_.mp c with c|c
  ·exact h.rng e c
  ·rw[jd_.mp c];exact t
 ·rcases jr_.mp c with c|c
  ·exact h.wd e c
  ·rw[jd_.mp c];exists ?_
   ·rw[AE]at l ⊢;intro z f;rcases jr_.mp f with f|f
    ·exact l z f
    ·rw[jd_.mp f];exact s
   ·show KO step st (w++[x])=step r x;rw[NM];have J:KO step st w=r:=v;rw[J]
 ·have K:=(jb_.mp h2).1;rw[jk_,jB_]at K;by_cases M:k<ents.length
  ·rw[ji_ M]at h2;rw[ji_ s!""]at h1;exact h.inc j k a b C h1 h2
  ·have N:k=ents.length:=by lia
   subst N;rw[ji_ s!""]at h1;rw[ju_ (jf_ _),qK_]at h2;simp at h2;subst h2;have:=h.bnd a (je_ h1);show place L a.2<place L (w++[x]);rw[n];lia
 ·rcases jr_.mp c with c|c
  ·have:=h.bnd e c;lia
  ·rw[jd_.mp c];show place L (w++[x])<_;rw[n];lia
 ·have d:j<ents.length\/j=ents.length:=by
   have:=(jb_.mp c).1;rw[jk_,jB_]at this;lia
  rcases d with d|d
  ·rw[ji_ d]at c;obtain⟨O,m,q⟩:=h.don j g e c y D E;exact#[O,jY_ _ m,q]
  ·exact absurd d (by have:=h.il;lia)
def WA (L:Int)(step:α->Int->α)(ents:List (α×α2))(r:α)(w:α2)(x:Nat):Prop:=∀y:Int,0<=y->y<x->∃a∈ents,a.1=step r y/\place L a.2<=place L (w++[y])
def B.letter {x:Nat}{w:α2}{r:α}(h:B L step st ok ents i (place L w*L+x+1))(hs:WA L step ents r w x)(hw:(r,w)∈ents)(g:(x:Int)<L)
  (j:ok (step r x)):B L step st ok (put step r w ents x) i (place L w*L+((x+1:Nat):Int)+1)/\WA L step (put step r w ents x) r w (x+1):=by
 unfold put;by_cases hm:step r x∈ents.map (·.1)
 ·rw[if_pos hm];refine#[h.up (by push_cast;lia),λy b c=>?_];by_cases d:y<x
  ·exact hs y b d
  ·have e:y=x:=by push_cast at c;lia
   subst e;obtain⟨a,f,k⟩:=jp_.mp hm;exists a,f,k;have:=h.bnd a f;rw[KL];lia
 ·rw[if_neg hm];refine#[(h.add hw #[by lia,g] (xP_ _) j hm).up (by push_cast;lia),λy b c=>?_];by_cases d:y<x
  ·obtain⟨a,m,q⟩:=hs y b d;exact#[a,jY_ _ m,q]
  ·have e:y=x:=by push_cast at c;lia
   subst e;exact#[_,j9_ _ jt_,rfl,xP_ _]
def B.next (c:0<L){m:Nat}{w:α2}{r:α}(h:B L step st ok ents i (place L w*L+m+1))(hm:(m:Int)=L)(hs:WA L step ents r w m)(hw:ents[i]?=some (r,w)):
  B L step st ok ents (i+1) (place L w*L+L+1)/\∀e,ents[i+1]?=some e->place L w*L+L+1<=place L e.2*L+1:=by
 have hi:=(jb_.mp hw).1;rw[hm]at h;refine#[#[h.hd,hi,h.sh,h.nod,h.rng,h.wd,h.inc,h.bnd,λj g e a x b h1=>?_],λe a=>?_]
 ·by_cases d:j<i
  ·exact h.don j d e a x b h1
  ·have f:j=i:=by lia
   subst f;rw[hw]at a;cases a;exact hs x b s!""
 ·have:=h.inc i (i+1) _ _ (q7_ _) hw a;have h2:=xy_ (show place L w+1<=place L e.2 from this) (Int.le_of_lt c);rw[Int.add_mul]at h2;lia
def WB {r:α}{w:α2}{x j:Nat}{e:α×α2}(h:ents[j]?=some e):(put step r w ents x)[j]?=some e:=by
 unfold put;split
 ·exact h
 ·rw[ji_ (jb_.mp h).1];exact h
def B.least (h:B L step st ok ents ents.length top){ws:α2}(d:isW L ws=true):∀i,i<=ws.length->∃a,(KO step st (ws.take i),a)∈ents/\place L a<=place L (ws.take i)
 |0,_=>#[[],by simpa [KO] using je_ h.hd,by simp]
 |i+1,hi=>by
  obtain⟨a,m,l⟩:=B.least h d i s!"";have n:ws[i]?=some ws[i]:=by simp
  have e:=AE.mp d ws[i] (qd_ _);obtain⟨j,f,o⟩:=j3_ m;obtain⟨p,q,b,c⟩:=h.don j f _ (by rw[jg_ f,o]) ws[i] e.1 e.2;obtain⟨g,v⟩:=p;have b:g=step (KO step st (ws.take i)) ws[i]:=b;have c:place L v<=place L (a++[ws[i]]):=c;have k:ws.take (i+1)=ws.take i++[ws[i]]:=by rw[jF_,n];rfl
  have r:0<=L:=by lia
  exists v,?_
  ·rw[k,NM,<-b];exact q
  ·rw[k];rw[KL]at c ⊢;have:=xy_ l r;lia
def B.leastW (h:B L step st ok ents ents.length top) (b:isW L ws=true):∃a,(KO step st ws,a)∈ents/\place L a<=place L ws:=by
 have:=h.least b ws.length (jf_ _)
 rwa [jz_]at this
noncomputable def Ov (a b:α1)(p:Int×Int)(x:Int):Int×Int:=(Di a p.1 x,Di b p.2 x)
def okP (n m:Nat)(p:Int×Int):Prop:=(0<=p.1/\p.1<(n:Int))/\(0<=p.2/\p.2<(m:Int))
noncomputable def BY (ways:α1)(r:Int)(ws:α2):Int:=ws.foldl (Di ways) r
def CD (ways:α1)(ws:α2):BY ways 0 ws=Ax ways ws:=rfl
def Dj (ways:α1)(r x:Int)(ws:α2):BY ways r (x::ws)=BY ways (Di ways r x) ws:=rfl
def SX (ways:α1)(r x:Int)(ws:α2):BY ways r (ws++[x])=Di ways (BY ways r ws) x:=by
 unfold BY;rw[qJ_];rfl
def KQ {ways:α1}{ws:α2}{i:Nat}{x r:Int}(h:ws[i]?=some x):BY ways r (ws.take (i+1))=Di ways (BY ways r (ws.take i)) x:=by
 rw[jF_,h];exact SX _ _ _ _
def Za (a b:α1):∀(ws:α2) (p:Int×Int),KO (Ov a b) p ws=(BY a p.1 ws,BY b p.2 ws)
 |[],p=>rfl
 |x::ws,p=>by rw[SW,Za a b ws,Dj,Dj];rfl
def FJ {L:Int}{af:α2}{ways:α1}(b:Wf L af ways):∀(ws:α2) {r:Int},isW L ws=true->0<=r->r<af.length->0<=BY ways r ws/\BY ways r ws<af.length
 |[],r,_,a,h1=>#[a,h1]
 |x::ws,r,c,a,h1=>by
  have d:=AE.mp c x jt_;obtain⟨_,g,_,_,h,e,f⟩:=b.step a h1 d.1 d.2;rw[Dj,h];exact FJ b ws (AE.mpr λy i=>AE.mp c y (jo_ _ i)) e f
def WD (n m:Nat){l:List (Int×Int)}(g:l.Nodup)(h:∀p∈l,okP n m p):l.length<=n*m:=by
 have i:∀p∈l.map (λp:Int×Int=>p.1*m+p.2),0<=p/\p<((n*m:Nat):Int):=λq j=>by
  obtain⟨p,k,rfl⟩:=jp_.mp j;obtain⟨⟨c,o⟩,d,e⟩:=h p k;have h1:=Int.mul_nonneg c (show (0:Int)<=m by lia);have h2:=xy_ (show p.1<=(n:Int)-1 by lia) (show (0:Int)<=m by lia);rw[Int.sub_mul]at h2;push_cast;exact#[by show 0<=p.1*m+p.2;lia,by show p.1*m+p.2<_;lia]
 have r:(l.map (λp:Int×Int=>p.1*m+p.2)).Nodup:=by
  refine xW_.mpr (pL (λ{a b} s t u z=>u ?_) g);obtain⟨⟨c,o⟩,d,e⟩:=h a s;obtain⟨⟨A,B⟩,v,w⟩:=h b t;have z:a.1*m+a.2=b.1*m+b.2:=z;have f:a.1=b.1:=by
   have x:(a.1*m+a.2) / m=a.1:=by rw[tR,qe _ _ s!"",qf d e];lia
   have y:(b.1*m+b.2) / m=b.1:=by rw[tR,qe _ _ s!"",qf v w];lia
   rw[<-x,<-y,z]
  rw[f]at z;exact Prod.ext f s!""
 have:=Fc (n*m) r i;simpa using this
def B.lenP {st:Int×Int}{ents:List ((Int×Int)×α2)} (h:B L (Ov w1 w2) st (okP n m) ents i top):ents.length<=n*m:=by
 have:=WD n m h.nod (λp a=>by
  obtain⟨e,b,rfl⟩:=jp_.mp a;exact h.rng e b)
 simpa using this
end GB
namespace L2
open PySem PySem.Spec PyProof.Rows GW GB
def TK (H H':Hp):Prop:=∀b xs,H b=some (.tup xs)->H' b=some (.tup xs)
def TK.refl (H:Hp):TK H H:=λ_ _ h=>h
def TK.of (s:Same H H'):TK H H':=λb xs h=>s b _ h
def TK.trans (a:TK H H')(b:TK H' H''):TK H H'':=λc xs h=>b c xs (a c xs h)
def TK.new (h:H p=none):TK H (upd H p o):=TK.of (Same.new h)
def TK.lst {H:Hp}{p:Addr}{o:HO}{xs:List V}(h:H p=some (.lst xs)):TK H (upd H p o):=λb ys e=>by rw[Ak (λz=>by rw[z,h]at e;cases e)];exact e
def TK.dT {H:Hp}{p:Addr}{o:HO}{kvs:List (List Key×V)}(h:H p=some (.dT kvs)):TK H (upd H p o):=λb ys e=>by rw[Ak (λz=>by rw[z,h]at e;cases e)];exact e
def Fd (H:Hp)(ps:List (Int×Int))(rs:List V):Prop:=rs.length=ps.length/\∀(i:Nat) (p:Int×Int),ps[i]?=some p->∃b,rs[i]?=some (.ref b)/\H b=some (.tup [.int p.1,.int p.2])
def Fd.mono (h:Fd H ps rs)(k:TK H H'):Fd H' ps rs:=by
 refine#[h.1,λi p a=>?_];obtain⟨b,h1,h2⟩:=h.2 i p a;exact#[b,h1,k _ _ h2]
def Fd.snoc (h:Fd H ps rs) (c:H b=some (.tup [.int p.1,.int p.2])):Fd H (ps++[p]) (rs++[.ref b]):=by
 refine#[by rw[jk_,jk_,h.1];rfl,λi q hi=>?_];by_cases a:i<ps.length
 ·rw[ji_ a]at hi;rw[ji_ (by rw[h.1];exact a)];exact h.2 i q hi
 ·have:=(jb_.mp hi).1;rw[jk_,jB_]at this;have d:i=ps.length:=by lia
  subst d;rw[ju_ (jf_ _),qK_]at hi;simp at hi;subst hi;refine#[b,?_,c];rw[ju_ (by rw[h.1];exact jf_ _),h.1,qK_];rfl
end L2
namespace L2
theorem UO : XN σ H Q=∀p,H p=none->Q (.ref p) (upd H p (.dT [])):=rfl
end L2
namespace GB
open GW
def FK (h:isW L w=true)(j:Nat):isW L (w.take j)=true:=AE.mpr λx a=>AE.mp h x (List.mem_of_mem_take a)
end GB
namespace L2
open PySem PySem.Spec PyProof.Rows GW
def Same.none (s:Same H H') (h:H' p=none):H p=none:=by
 cases e:H p with
 |none=>rfl
 |some u=>rw[s _ _ e]at h;cases h
def Am (K:α3)(H:Hp)(xs:List V)(ws:α1):Prop:=xs.length=ws.length/\∀(i:Nat) (w:α2),ws[i]?=some w->∃t,xs[i]?=some (.ref t)/\H t=some (.tup (w.map V.int))
def Am.nil {K:α3} : Am K H [] []:=#[rfl,λi w h=>by simp at h]
def Am.mono {K:α3} (h:Am K H xs ws)(k:TK H H'):Am K H' xs ws:=by
 refine#[h.1,λi w hw=>?_];obtain⟨t,a,b⟩:=h.2 i w hw;exact#[t,a,k _ _ b]
def Am.snoc {K:α3} (h:Am K H xs ws) (b:H t=some (.tup (w.map V.int))):Am K H (xs++[.ref t]) (ws++[w]):=by
 refine#[by rw[jk_,jk_,h.1];rfl,λi v hi=>?_];by_cases a:i<ws.length
 ·rw[ji_ a]at hi;rw[ji_ (by rw[h.1];exact a)];exact h.2 i v hi
 ·have:=(jb_.mp hi).1;rw[jk_,jB_]at this;have c:i=ws.length:=by lia
  subst c;rw[ju_ (jf_ _),qK_]at hi;simp at hi;subst hi;refine#[t,?_,b];rw[ju_ (by rw[h.1];exact jf_ _),h.1,qK_];rfl
def Am.at {K:α3}{H:Hp}{xs:List V}{ws:α1}(h:Am K H xs ws){i:Nat}{x:V}(c:xs[i]?=some x):∃t w,ws[i]?=some w/\x=.ref t/\H t=some (.tup (w.map V.int)):=by
 have hi:i<ws.length:=by rw[<-h.1];exact (jb_.mp c).1
 obtain⟨t,a,b⟩:=h.2 i ws[i] (by simp[hi]);rw[c]at a;exact#[t,ws[i],by simp[hi],jD_ a,b]
noncomputable def rInW (K:α3)(a:Bool):R2:=λx y H Q=>∃p t xs w ws,y=.ref p/\x=.ref t/\SqL K H p xs/\Am K H xs ws/\SqT K H t (w.map V.int)/\Q (.bl (if a then !decide (w∈ws) else decide (w∈ws))) H
theorem AZ_ {K:α3} : rInW K gF x y H Q=∃p t xs w ws,y=.ref p/\x=.ref t/\SqL K H p xs/\Am K H xs ws/\SqT K H t (w.map V.int)/\Q (.bl (if gF then !decide (w∈ws) else decide (w∈ws))) H:=rfl
def WE (Q:X.A.units+8<cLine)(I:Inv X ae σ H s)(E:SqL X.K H p xs)(hw:Am X.K H xs ws)(F:SqT X.K H t (w.map V.int)):
  ∃(its:Array Value) (e:Value->Bool),s.heap.IsList p its/\(∀y,y∈its->SeqAt.EqAt X.A.in1 s y (.ref t) (e y))/\its.any e=decide (w∈ws):=by
 obtain⟨its,r,G,_⟩:=I.list E;have R:=r.length
 let e:Value->Bool:=λy => @decide (∃(i:Nat) (a:Addr),y=.ref a/\xs[i]?=some (.ref a)/\ws[i]?=some w) (oS _)
 have l:∀(i:Nat) (a:Addr) (v:α2),xs[i]?=some (.ref a)->ws[i]?=some v->e (.ref a)=decide (v=w):=λi a v m n=>by
  obtain⟨S,c,o⟩:=hw.2 i v n;rw[m]at c;cases c;rw[j1_];show @decide _ (oS _)=true↔_;rw[@decide_eq_true_iff _ (oS _),j6_];constructor
  ·rintro⟨j,b,J,L,h⟩;cases J;obtain⟨T,q,B⟩:=hw.2 j w h;rw[L]at q;cases q;rw[o]at B;have:=jD_ B;injection this with this;exact (q2_ (λx y z=>V.int.inj z)).mp this
  ·rintro rfl;exact#[i,a,rfl,m,n]
 exists its.toArray,e,G.isList,λy C=>?_
 ·have M:y∈its:=by simpa using C
  obtain⟨i,hi,d⟩:=j3_ M;have k:i<xs.length:=by lia
  obtain⟨u,f,g⟩:=r.get (i:=i) (x:=xs[i]) (by simp[k]);rw[jg_ hi,d]at f;cases f;obtain⟨a,v,N,D,O⟩:=hw.at (i:=i) (x:=xs[i]) (by simp[k]);rw[D]at g;cases g;rw[l i a v (by rw[jg_ k,D]) N];exact (EqD.at (x:=V.ref a) (y:=V.ref t) I 2 X.A.in1 (by rw[in1_units];lia) rfl rfl (EqD.ints (xs:=v) (ys:=w) (.inr #[SqT.of O,F]) 1)).1
 ·rw[j1_,j6_];rw[show its.toArray.any e=its.any e by simp,qe_];constructor
  ·rintro⟨y,C,P⟩;obtain⟨j,b,_,_,h⟩:=(@decide_eq_true_iff _ (oS _)).mp P;exact je_ h
  ·intro hm;obtain⟨i,hi,d⟩:=j3_ hm;obtain⟨a,c,o⟩:=hw.2 i w (by rw[jg_ hi,d]);obtain⟨u,f,g⟩:=r.get c;cases g;exists .ref a,je_ f;rw[l i a w c (by rw[jg_ hi,d])];simp
def P5 (a:X.A.units+8<cLine):OpR X (compareOp .NotIn) (rInW X.K true):=by
 intro ae s σ H x y v u Q I b c h;obtain⟨p,t,xs,w,ws,rfl,rfl,d,hw,f,q⟩:=h;cases c;cases b;obtain⟨i,e,h1,h2,g⟩:=WE a I d hw f;refine SeqAt.notIn_listAt e h1 h2 #[.bl _,H,I,rfl,?_];rw[g];exact q
def Eb.ofS {K:α3} (c:H a=some (.tup xs))(d:H b=some (.tup ys))(hz:xs.length+ys.length<=sizeLine)(h:∀p H',Same H H'->H' p=some (.tup (xs++ys))->Q (.ref p) H'):Eb K (.ref a) (.ref b) H Q:=by
 refine#[a,b,xs,ys,rfl,rfl,SqT.of c,SqT.of d,hz,λe=>?_,λ_ e=>?_,λ_ _ p f=>h p _ (Same.new f) Ab]
 ·subst e;exact h b H (Same.refl _) (by simpa using d)
 ·subst e;exact h a H (Same.refl _) (by simpa using c)
end L2
namespace GW
noncomputable def ins (s:α1)(w:α2):α1:=if w∈s then s else s++[w]
def Zb (s:α1)(w:α2):(ins s w).length<=s.length+1:=by
 unfold ins;split
 ·lia
 ·simp
def Bn:∀(l s:α1),(l.foldl ins s).length<=s.length+l.length
 |[],s=>by simp
 |w::l,s=>by
  have h1:=Bn l (ins s w);have h2:=Zb s w;rw[xf_,jG_];lia
noncomputable def extW (n:Nat)(w:α2):α1:=(oN n).map λx:Nat=>w++[(x:Int)]
noncomputable def AU (n:Nat)(acc:α1):α1:=(acc.flatMap (extW n)).foldl ins (acc.foldl ins [])
noncomputable def Ed (rows a:α1):α1:=(rows.flatMap λr=>a.map (r ++ ·)).foldl ins []
end GW
namespace L2
open PySem PySem.Spec PyProof.Rows GW
noncomputable def wkey (w:α2):List Key:=w.map pE
def Bq (w:α2):(wkey w).map kV=w.map V.int:=by unfold wkey;rw[jJ_];rfl
def FL (h:wkey v=wkey w):v=w:=(q2_ (λx y z=>Sum.inl.inj z)).mp h
def DH (ws:α1)(kvs:List (List Key×V)):Prop:=kvs.map (·.1)=ws.map wkey
def DH.len (h:DH ws kvs):kvs.length=ws.length:=by
 have:=qx_ pJ h;simpa using this
def DH.some_iff (h:DH ws kvs)(w:α2):(valV kvs (wkey w)).isSome=decide (w∈ws):=by
 rw[<-FA,j1_,j6_,qe_];constructor
 ·rintro⟨a,b,e⟩;have e:=j0_ e;have:wkey w∈ws.map wkey:=by rw[<-h,<-e];exact jp_.mpr #[a,b,rfl]
  obtain⟨q,c,d⟩:=jp_.mp this;exact FL d ▸ c
 ·intro hw;have:wkey w∈kvs.map (·.1):=by rw[h];exact jp_.mpr #[w,hw,rfl]
  obtain⟨a,b,e⟩:=jp_.mp this;exact#[a,b,jH_ e]
def DH.put (h:DH ws kvs)(w:α2)(v:V):DH (ins ws w) (putK kvs (wkey w) v):=by
 have b:=h.some_iff w;unfold putK ins;rw[FA,b];by_cases hw:w∈ws
 ·rw[if_pos hw,if_pos (show decide (w∈ws)=true from jH_ hw)];unfold DH;rw[<-h,jJ_];refine jI_ λa _=>?_;show (if a.1=wkey w then (a.1,v) else a).1=a.1;split<;>rfl
 ·rw[if_neg hw,if_neg (show ¬ decide (w∈ws)=true by simp[hw])];unfold DH;rw[jn_,jn_,h];rfl
def DH.nil:DH [] []:=rfl
def DH.words {K:α3} (h:DH ws kvs)(a:rs.length=kvs.length)(c:∀(i:Nat) (k:List Key) (v:V),kvs[i]?=some (k,v)->∃b,rs[i]?=some (V.ref b)/\H b=some (.tup (k.map kV))):Am K H rs ws:=by
 refine#[by rw[a,h.len],λi w hw=>?_];have hi:i<kvs.length:=by rw[h.len];exact (jb_.mp hw).1
 have e:(kvs.map (·.1))[i]?=some (wkey w):=by rw[h,jh_,hw];rfl
 rw[jh_,jg_ hi]at e;have e:kvs[i].1=wkey w:=jD_ e;obtain⟨b,d,f⟩:=c i kvs[i].1 kvs[i].2 (by simp[hi]);exact#[b,d,by rw[f,e,Bq]]
end L2
namespace PySem.W
open PySem PySem.Calls PyProof.Rows PyProof.V PySem.Spec
section
variable {prog:Program} {w:World} {A:Around} {E:Value->Shared->Prop} {s:Shared}
noncomputable abbrev itO (x:Value)(f:Bool)(d:Addr)(i n ep:Nat)(ok a:Value):Obj:={cls:=.type "dict_itemiterator",dict:=none,data:=.fields (List.toArray [x,.bool f,.ref d,.int i 0,.int n 0,.int ep 0,ok,a]),slots := (List.toArray [])}
noncomputable abbrev tpO (e:DictEntry):Obj:={cls:=.type "tuple",data:=.seq (List.toArray [e.key,e.val])}
def WG {it d:Addr} (u:s.heap.get? it=some (itO x f d i n ep ok ov))
  (H:x=.none \/ ∃a:Addr,∃o,x=rawInt a/\s.heap.get? a=some o/\a≠it)
  (j:∀h' k f' v y,h'.get? it=some (itO k f' d i n ep v y)->(x=.none->k=rawInt s.heap.objs.size/\f'=false/\v=e.key/\y=e.val)->(x ≠ .none->k=x)->h'.get? s.heap.objs.size=some (tpO e)->h'.objs.size=s.heap.objs.size+1->(∀b o,b≠it->s.heap.get? b=some o->h'.get? b=some o) ->
   Q (.ref s.heap.objs.size) {s with heap:=h' }):wpAny (model prog w) A (Builtin.Dict_items.pairFromOwner (.ref it) 6 e.key e.val) Q E s:=by
 have B:=jv_ u;obtain⟨l,N,O,P,R⟩:=s
 wp_walk using newT
 ·show 2<=sizeLine;decide
 intro h2 g;have h:∀b o,l.get? b=some o->h2.get? b=some o:=λb o q=>by rw[<-g];exact jj_ _ q
 have m:=h it _ u;have p:h2.get? l.objs.size=some (tpO e):=by rw[<-g];exact js_ _ rfl
 have r:h2.objs.size=l.objs.size+1:=by rw[<-g];exact qZ_ ..
 rcases H with rfl|⟨a,o,rfl,I,S⟩
 ·(wp_walk using q4_ m;(focus simp);intro _ t c)
  (wp_walk using q4_ t;(focus simp);intro _ J C)
  (wp_walk using q4_ J;(focus simp);intro _ K D)
  (wp_walk using q4_ K;(focus simp);intro _ L F)
  wp_walk
  have G:=((c.extBut.trans C.extBut).trans D.extBut).trans F.extBut;exact j _ _ _ _ _ L (λ_=>#[rfl,rfl,rfl,rfl]) (λz=>absurd rfl z) (G _ _ (qz_ B) p) ((F.1.trans (D.1.trans (C.1.trans c.1))).trans r) λb o n q=>G b o n (h b o q)
 ·have M:=h a o I;have e:((a:Int)).toNat=a:=jA_ a
  wp_walk
  refine kdx_alive (a:=(a:Int).toNat) (by rw[e];exact M) ?_;cases f
  ·(wp_walk using q4_ m;(focus simp);intro _ t c)
   wp_walk
   exact j _ _ _ _ _ t (λz=>by cases z) (λ_=>rfl) (c.extBut _ _ (qz_ B) p) (c.1.trans r) λb o n q=>c.extBut b o n (h b o q)
  ·wp_walk
   exact j _ _ _ _ _ m (λz=>by cases z) (λ_=>rfl) p r λb o n q=>h b o q
def itm {it d:Addr} (u:A.handled=none)(m:s.heap.get? it=some (itO x f d i es.size ep ok ov))
  (M:s.heap.get? d=some od) (t:od.data=.dict es ep) (h:x=.none \/ ∃a:Addr,∃o,x=rawInt a/\s.heap.get? a=some o/\a≠it)
  (C:∀e h' j f' p r,es[i]?=some e->h'.get? it=some (itO j f' d (i+1) es.size ep p r)->(x=.none->j=rawInt s.heap.objs.size/\f'=false/\p=e.key/\r=e.val)->(x ≠ .none->j=x)->h'.get? s.heap.objs.size=some (tpO e)->h'.objs.size=s.heap.objs.size+1->(∀b o,b≠it->s.heap.get? b=some o->h'.get? b=some o) ->
   Q (some (.ref s.heap.objs.size)) {s with heap:=h' })
  (D:es[i]?=none->∀h',Heap.ExtBut it s.heap h'->Q none {s with heap:=h' }):wpAny (model prog w) A (pyNext (.ref it)) Q E s:=by
 have g:s.TypeIs (.ref it) "dict_itemiterator" := #[_,m,rfl];have v:=x9_;have h1:A.in1.handled=none:=u;obtain⟨c,N,F,O⟩:=od;replace t:F=_:=t;subst t;unfold pyNext;refine jc_ (zQ_ (qy_ g v (qE_ v g qO ?_ (qM _))))
 wp_walk using xz_ g,zA_ m rfl
 cases hi:es[i]? with
 |some e=>
  simp only[show ¬ ((i:Int)<0) from by lia,qM_,jA_,hi]
  wp_walk using xz_ g,wpAny_isOneOf_itemiter g,q4_ m
  ·exact qA rfl
  intro h1 k l;replace k:h1.get? it=some (itO x f d (i+1) es.size ep ok ov):=k;have G:Shared.TypeIs {s with heap:=h1} (.ref it) "dict_itemiterator" := #[_,k,rfl];have H:h1.objs.size=s.heap.objs.size:=l.1
  wp_walk using wpAny_isOneOf_itemiter G,WG k
  ·rcases h with h|⟨a,o,h,I,n⟩
   ·exact .inl h
   ·exact .inr #[a,o,h,l.extBut a o n I,n]
  intro h' j f' p r J y K z B L
  wp_walk
  simp only[H]at y z B ⊢;exact#[_,rfl,jl_ (C e h' j f' p r hi J y K z B λb o n q=>L b o n (l.extBut b o n q))]
 |none=>
  simp only[show ¬ ((i:Int)<0) from by lia,qM_,jA_,hi]
  wp_walk using xz_ g,q4_ m
  ·exact qA rfl
  intro h1 k l
  wp_walk
  exact wpAny_raiseNew_none u (jc_ (wpAny_isInstance (T := "StopIteration") (b:=true) #[_,js_ _ rfl,rfl] isSubtype_stop (jl_ (D hi _ ((l.extBut.push _).push _)))))
def ItS (h:Heap)(it d S:Addr)(i n ep:Nat):Prop:=∃x f ok b,h.get? it=some (itO x f d i n ep ok b)/\(x=.none \/ ∃a:Addr,∃o,x=rawInt a/\h.get? a=some o/\a≠it/\a≠S)
def ItS.keep {it d S:Addr} (x:ItS h it d S i n ep)(g:it≠S)(k:∀b o,b≠S->h.get? b=some o->h'.get? b=some o):ItS h' it d S i n ep:=by
 obtain⟨x,f,ok,j,e,r⟩:=x;refine#[x,f,ok,j,k _ _ g e,r.imp_right ?_];rintro⟨a,o,l,m,p,c⟩;exact#[a,o,l,k _ _ c m,p,c]
def its {it d S:Addr} (m:A.handled=none)(st:ItS s.heap it d S i es.size ep)(n:S<s.heap.objs.size)(p:s.heap.get? d=some od)(q:od.data=.dict es ep)
  (r:∀e h',es[i]?=some e->ItS h' it d S (i+1) es.size ep->h'.get? s.heap.objs.size=some (tpO e)->h'.objs.size=s.heap.objs.size+1->(∀b o,b≠it->s.heap.get? b=some o->h'.get? b=some o)->Q (some (.ref s.heap.objs.size)) {s with heap:=h' })
  (t:es[i]?=none->∀h',Heap.ExtBut it s.heap h'->Q none {s with heap:=h' }):wpAny (model prog w) A (pyNext (.ref it)) Q E s:=by
 obtain⟨x,f,ok,J,h,j⟩:=st;refine itm m h p q (j.imp_right λ⟨a,o,u,g,c,_⟩=>#[a,o,u,g,c]) (λe h' v f' y B C D F G k H l=>r e h' C #[v,f',y,B,D,?_] k H l) t;rcases j with rfl|⟨a,o,rfl,g,c,I⟩
 ·exact .inr #[_,_,(F rfl).1,k,qz_ (jv_ h),qz_ n]
 ·exact .inr #[a,o,G (λz=>by cases z),l a o c g,c,I]
def Tps (es:Array DictEntry)(lo:Addr)(h:Heap)(as:List Addr):Prop:=as.Pairwise (· < ·)/\∀(j:Nat) a,as[j]?=some a->lo<a/\∃e,es[j]?=some e/\h.get? a=some (tpO e)
def Tps.low {lo b:Addr} (g:Tps es lo h as)(l:b<=lo):Tps es b h as:=#[g.1,λj a e=>#[qW l (g.2 j a e).1,(g.2 j a e).2]]
def Tps.keep {lo:Addr} (g:Tps es lo h as)(k:∀b o,lo<b->h.get? b=some o->h'.get? b=some o):Tps es lo h' as:=#[g.1,λj a q=>let ⟨l,e,c,d⟩:=g.2 j a q;#[l,e,c,k a _ l d]]
def Tps.snoc {lo b:Addr} (g:Tps es lo h as)(i:lo<b)(k:∀a o,h.get? a=some o->a∈as->a<b)(m:es[as.length]?=some e)(p:h.get? b=some (tpO e)):Tps es lo h (as++[b]):=by
 refine#[List.pairwise_append.mpr #[g.1,List.pairwise_singleton _ _,λa d c r=>?_],λj a q=>?_]
 ·obtain⟨j,s⟩:=jN_.mp d;obtain⟨_,e,_,t⟩:=g.2 j a s;rw[jd_.mp r];exact k a _ t d
 ·rcases zg_ j as.length with l|l
  ·rw[ji_ l]at q;exact g.2 j a q
  ·rw[ju_ l]at q;obtain⟨z,rfl⟩:j-as.length=0/\a=b:=by
    cases f:j-as.length with
    |zero=>rw[f]at q;exact#[rfl,by simpa using q.symm]
    |succ n=>rw[f]at q;simp at q
   obtain rfl:j=as.length:=by lia
   exact#[i,e,m,p]
end
section
variable {prog:Program} {w:World} {A:Around} {E:Value->Shared->Prop} {s:Shared} {r d:Addr} {es:Array DictEntry} {ep:Nat} {od:Obj}
def WH (e:s.heap.IsItemsView v d)(k:s.heap.get? d=some od)(a:od.data=.dict es ep)
  (h:Q (.ref s.heap.objs.size) {s with heap:=s.heap.push (itO .none false d 0 es.size ep .none .none)}):wpAny (model prog w) A (pyIter (.ref v)) Q E s:=by
 have f:=e.typeIs;obtain⟨⟨l,m,i,n⟩,o,p,b⟩:=e;replace b:i=_:=b;obtain⟨c,q,j,r⟩:=od;replace a:j=_:=a;subst a b;have g:=rR;refine wpAny_pyIter_slot f g (qE_ g f rO ?_ (rK _))
 wp_walk
 exact#[_,rfl,_,_,#[_,js_ _ rfl,rfl],x9_.lookup,h]
def Zc (u:s.heap.IsItemsView r d)(f:s.heap.get? d=some od)(y:od.data=.dict es ep)(C:es.size<=sizeLine):
  Gat prog w s r (s.heap.objs.size+1) "dict_items" es.size (· = s.heap.objs.size+1) (λi acc h=>∃as,acc=as.map Value.ref/\as.length=i/\Tps es (s.heap.objs.size+1) h as/\ItS h (s.heap.objs.size+1) d s.heap.objs.size i es.size ep/\h.get? d=some od) (λacc h=>∃as,acc=as.map Value.ref/\as.length=es.size/\Tps es s.heap.objs.size h as) where
 type:=u.typeIs
 nl:=by decide
 nt:=by decide
 le:=C
 hint:=λA t Q E k q=>kdx_hint (let ⟨o,v,D,_⟩:=u;#[o,k _ o v,D]) (q false t.toks)
 iter:=λA h1 Q E k z q=>by
  refine WH (s:={s with heap:=h1}) (let ⟨o,v,x⟩:=u;#[o,k _ o v,x]) (k d od f) y ?_;show Q (.ref h1.objs.size) _;rw[z];refine q _ #[[],rfl,rfl,#[.nil,λj a e=>by simp at e],#[.none,false,.none,.none,?_,.inl rfl],jj_ _ (k d od f)] λb o e=>jj_ _ e;rw[<-z];exact js_ _ rfl
 next:=λA i acc t Q E F j P hi G H I=>by
  obtain⟨as,rfl,h2,c,g,p⟩:=j;have J:s.heap.objs.size+1<t.heap.objs.size:=let ⟨_,_,_,_,e,_⟩:=g;jv_ e;have K:∀h':Heap,(∀b o,b≠s.heap.objs.size+1->t.heap.get? b=some o->h'.get? b=some o)->h'.get? d=some od:=λh' k=>k d od (jP_ (xc_ (jv_ f))) p;refine its F g G p y (λe h' B st L R k=>?_) λe h' x=>I h' t.toks (by have:=xZ_.mp e;lia) #[as,rfl,by have:=xZ_.mp e;lia,(c.keep λb o l q=>x b o (qz_ l) q).low (qH _)] λb o n q=>x b o n q;have M:=c.keep λb o l q=>k b o (qz_ l) q;refine H _ h' t.toks (jS_.mp B).1 #[as++[t.heap.objs.size],by simp,by simp[h2],M.snoc J (λa o _ m=>?_) (by rw[h2];exact B) L,st,K h' k] λb o n q=>k b o n q;obtain⟨j,N⟩:=jN_.mp m;obtain⟨_,_,_,O⟩:=c.2 j a N;exact jv_ O
 frame:=λi acc h h' ⟨as,h1,h2,c,g,p⟩ k=>#[as,h1,h2,c.keep λb o l q=>k b o (qz_ (qb (q7_ _) l)) q,g.keep (qz_ (q7_ _)) k,k d od (jP_ (jv_ f)) p]
 nw:=λz=>absurd z (jP_ (q7_ _))
def itm_list (e:A.handled=none)(f:s.heap.IsItemsView r d)(g:s.heap.get? d=some od)(h:od.data=.dict es ep)(i:es.size<=sizeLine)
  (j:∀h' a acc c as,(∀b o,s.heap.get? b=some o->h'.get? b=some o)->h'.get? s.heap.objs.size=some (lsO acc c)->as.length=es.size->Tps es s.heap.objs.size h' as->acc.toList=as.map Value.ref->Q (.ref s.heap.objs.size) {s with heap:=h',toks:=a}):
  wpAny (model prog w) A (call (.type "list") [.ref r]) Q E s:=
 (Zc f g h i).list e λh' a acc c ⟨as,k,l,m⟩ _ n p=>j h' a acc.toArray c as (λb o q=>p b o (jP_ (xc_ (jv_ q))) q) n l m (by simpa using k)
end
end PySem.W
namespace L2
open PySem PySem.Spec PyProof.Rows
def R0 (ok:HOk P w H h)(e:Rd H a (.dT kvs)):
  ∃o es ep,h.get? a=some o/\o.ExactDict/\o.data=.dict es ep/\es.size=kvs.length/\(a==sysModules)=false/\kvs.length<=sizeLine /\
   ∀(i:Nat) (k:List Key) (v:V),kvs[i]?=some (k,v)->∃b c,es[i]?=some c/\c.key=.ref b/\H b=some (.tup (k.map kV))/\RelV v c.val:=by
 obtain⟨z,y,xs,r,o,es,ep,h1,h2,f,d,s⟩:=(show Bm P w H h a (.dT kvs) from Wq ok e);have g:=zj_ r;have j:es.size=kvs.length:=by rw[<-jL_,d,ja_,g]
 refine#[o,es,ep,h1,h2,f,j,y,z,λi k v l=>?_];obtain⟨q,m,t,n,p⟩:=KN r l;refine#[q.2.1,entryOfKey (tupleKind (Bc P w)) q,?_,rfl,n,p];rw[<-jZ_,d,jh_,m];rfl
noncomputable def QW (v d:Addr):HO:=.ext (λh=>h.IsItemsView v d)
noncomputable def Yf (td:TE):TE:=λ σ H Q=>td σ H λx H1=>∃d a,x=.ref d/\Rd H1 d (.dT a)/\∀v,H1 v=none->Q (.ref v) (upd H1 v (QW v d))
theorem UP : Yf td σ H Q=td σ H λx H1=>∃d kvs,x=.ref d/\Rd H1 d (.dT kvs)/\∀v,H1 v=none->Q (.ref v) (upd H1 v (QW v d)):=rfl
def WI (j:PE X o td)(l:attributeBase o "items" X.env (eval o X.env)=eval o X.env:=by rfl)(m:(aA.endLine==ax.line)=true:=by rfl):PE X (.Call (.Attribute o "items" aA) [] [] ax) (Yf td):=by
 intro ae s σ H Q I h;refine wpAny_Call_method0_late l m (thn (j ae s σ H _ I h) λv a ⟨x,H1,c,n,d,z,ex,p,q⟩=>?_);subst ex;obtain rfl:v=Value.ref d:=n;obtain⟨od,es,ep,g,i,A,B,t,C,D⟩:=R0 c.hok p;have f:a.TypeIs (.ref d) "dict" := #[od,g,i.1];refine#["dict","dict.items",xB_,pT,tJ,f,λb e=>?_,xj_ rfl (PySem.evalArgs_none ?_)]
 ·cases e;exact#[od,g,i.2.1]
 refine qE_ pT f tF (?_:wpAny _ _ (Builtin.«dict.items» _) _ _ a) (sI _);unfold Builtin.«dict.items»;refine jc_ ?_;unfold Builtin.Dict.noArgs;refine jc_ (zG_ f ?_);show wpAny _ _ (pure d) _ _ a;refine jl_ ?_;show wpAny _ _ (Builtin.Dict.showsAll d >>= _) _ _ a;unfold Builtin.Dict.showsAll;rw[if_neg (by rw[t];exact jy_)];refine jc_ (jl_ ?_);refine jc_ (qG_ (jl_ #[_,rfl,?_]));have y:Bm X.prog X.w (upd H1 a.heap.objs.size (QW a.heap.objs.size d)) (a.heap.push {cls:=.type "dict_items",data:=.fields (List.toArray [.ref d])}) a.heap.objs.size (QW a.heap.objs.size d):=
  #[#[_,js_ _ rfl,rfl,rfl],#[_,js_ _ rfl],λh1 h2 ⟨o,e,r⟩ k=>#[o,k o e,r]]
 exact#[.ref _,_,c.laid (t':=a.toks) (λb u e=>jj_ _ e) (jf_ _) y,rfl,q _ (c.hok.fresh (jf_ _))]
def R1 {P:Program}{w:World}{fs:List Addr}{H0:Hp}{d h':Heap}:∀(as:List (Addr×List V)),(as.map (·.1)).Nodup ->
  (∀p∈as,d.objs.size<=p.1/\p.2.length<=sizeLine/\∃its:List Value,Vals p.2 its/\IsTup h' p.1 its.toArray)->∀H,Un fs [] H0 H d h'->HOk P w H h'->(∀p∈as,H p.1=none) ->
  ∃H2,Un fs [] H0 H2 d h'/\HOk P w H2 h'/\Same H H2/\(∀p∈as,H2 p.1=some (.tup p.2))/\∀b,b∉as.map (·.1)->H2 b=H b
 |[],_,_,H,u,k,_=>#[H,u,k,Same.refl _,(λp c=>by simp at c),λb _=>rfl]
 |p::r,e,c,H,u,k,h=>by
  rw[jT_,qb_]at e;obtain⟨h1,h2,its,j,l⟩:=c p jt_;have f:=h p jt_;have m:HOk P w (upd H p.1 (.tup p.2)) h':=k.track f #[h2,its,j,l];obtain⟨H2,n,o,i,s,t⟩:=R1 r e.2 (λq a=>c q (jo_ _ a)) (upd H p.1 (.tup p.2)) (u.track h1 f) m (λq a=>by
   have v:q.1≠p.1:=λz=>e.1 (by rw[<-z];exact qX_ a);rw[Ak v];exact h q (jo_ _ a))
  refine#[H2,n,o,(Same.new f).trans i,λq a=>?_,λb g=>?_]
  ·rcases jw_.mp a with rfl|a
   ·exact i _ _ Ab
   ·exact s q a
  ·rw[jT_,jw_,not_or]at g;rw[t b g.2,Ak g.1]
def Vals.two' (h1:RelV x u)(h2:RelV y v):Vals [x,y] [u,v]:=.cons h1 (.cons h2 .nil)
def Ba_:∀as:List Addr,Vals (as.map V.ref) (as.map Value.ref)
 |[]=>.nil
 |_::r=>.cons rfl (Ba_ r)
def UQ {X:Cx}{ae:α7}{σ:St}{H:Hp}{s:Shared}{kvs:List (List Key×V)}{es:Array DictEntry}{h':Heap}{as:List Addr}(I:Inv X ae σ H s)(h:∀b o,s.heap.get? b=some o->h'.get? b=some o)(m:as.length=kvs.length)(g:PySem.W.Tps es s.heap.objs.size h' as)
  (G:∀(i:Nat) (k:List Key) (v:V),kvs[i]?=some (k,v)->∃b c,es[i]?=some c/\c.key=.ref b/\H b=some (.tup (k.map kV))/\RelV v c.val):
  ∃H2,Un X.fs [] H H2 s.heap h'/\HOk X.prog X.w H2 h'/\Same H H2/\(∀b,b<=s.heap.objs.size->H2 b=H b)/\Vals (as.map V.ref) (as.map Value.ref)/\∀(i:Nat) (k:List Key) (x:V),kvs[i]?=some (k,x)->∃t b,(as.map V.ref)[i]?=some (V.ref t)/\H2 t=some (.tup [.ref b,x])/\H b=some (.tup (k.map kV)):=by
 have ex:∀i:Fin kvs.length,∃b:Addr,∃c,es[i.1]?=some c/\c.key=.ref b/\H b=some (.tup (kvs[i.1].1.map kV))/\RelV kvs[i.1].2 c.val:=λi=>G i.1 kvs[i.1].1 kvs[i.1].2 (by simp)
 let d:List (List V):=List.ofFn λi:Fin kvs.length=>[V.ref (pB (ex i)),kvs[i.1].2]
 have J:d.length=kvs.length:=by simp[d]
 have n:∀i:Fin kvs.length,d[i.1]?=some [V.ref (pB (ex i)),kvs[i.1].2]:=λi=>by simp[d]
 have q:(as.zip d).map (·.1)=as:=List.map_fst_zip (by rw[m,J];exact jf_ _);have r:∀p∈as.zip d,∃i:Fin kvs.length,as[i.1]?=some p.1/\p.2=[V.ref (pB (ex i)),kvs[i.1].2]:=λp f=>by
  obtain⟨i,hi⟩:=jN_.mp f;obtain⟨h1,h2⟩:=List.getElem?_zip_eq_some.mp hi;have l:i<kvs.length:=by rw[<-m];exact (jb_.mp h1).1
  rw[n #[i,l]]at h2;exact#[#[i,l],h1,(jD_ h2).symm]
 obtain⟨H2,K,L,M,N,O⟩:=R1 (as.zip d) (by rw[q];exact g.1.imp λa=>jP_ a) (λp f=>by
  obtain⟨i,h1,h2⟩:=r p f;obtain⟨c,u,y,A,B⟩:=zI_ (ex i);obtain⟨l,e,C,P⟩:=g.2 i.1 p.1 h1;rw[u]at C;cases C;refine#[zC_ l,by rw[h2];have:=Al;simp;lia,[c.key,c.val],?_,#[_,P,rfl,0,rfl]];rw[h2,y];exact Vals.two' rfl B) H (Un.kept h) (I.hok.kept h) (λp f=>by
  obtain⟨i,h1,h2⟩:=r p f;exact I.hok.fresh (zC_ (g.2 i.1 p.1 h1).1))
 refine#[H2,K,L,M,λb Q=>O b ?_,?_,λi k x D=>?_]
 ·rw[q];intro z;obtain⟨j,R⟩:=jN_.mp z;exact absurd (g.2 j b R).1 (Nat.not_lt.mpr Q)
 ·exact Ba_ as
 ·have l:=(jb_.mp D).1;obtain⟨c,u,y,A,B⟩:=zI_ (ex #[i,l]);have E:kvs[i]=(k,x):=(jb_.mp D).2;have F:as[i]?=some (as[i]'s!""):=by simp
  refine#[_,_,by rw[jh_,F];rfl,?_,by simpa [E] using A];have:=N (as[i]'s!"",_) (jN_.mpr #[i,List.getElem?_zip_eq_some.mpr #[F,n #[i,l]]]);simpa [E] using this
def Ml (hc:X.calm=true):DU X (.type "list") (λxs H Q=>∃v d kvs,xs=[.ref v]/\H v=some (QW v d)/\Rd H d (.dT kvs)/\∀l rs H',Same H H'->H' l=none->rs.length=kvs.length ->
  (∀(i:Nat) (k:List Key) (x:V),kvs[i]?=some (k,x)->∃t b,rs[i]?=some (V.ref t)/\H' t=some (.tup [.ref b,x])/\H b=some (.tup (k.map kV)))->Q (.ref l) (upd H' l (.lst rs))):=by
 intro ae s σ H xs us Q I r h;obtain⟨p,d,kvs,rfl,a,n,q⟩:=h;obtain⟨u,rfl,y⟩:=vals1 r;cases y;obtain⟨o,es,ep,z,T,A,g,U,j,B⟩:=R0 I.hok n;obtain⟨C,_⟩:=(show Bm X.prog X.w H s.heap p (QW p d) from I.hok p _ a);refine PySem.W.itm_list (I.ok.hd hc) C z A (by rw[g];exact j) λh' D E c m F G J K L=>?_;have e:=J.trans g;obtain⟨H2,M,N,O,P,a,R⟩:=UQ I F e K B;have f:H2 s.heap.objs.size=none:=(P _ (jf_ _)).trans (I.hok.fresh (jf_ _));have S:Bm X.prog X.w (upd H2 s.heap.objs.size (.lst (m.map V.ref))) h' s.heap.objs.size (.lst (m.map V.ref)):=#[by rw[ja_,e];exact j,E.toList,c,by rw[L];exact a,by simpa using G];exact#[.ref _,_,I.un (t':=D) (M.track (jf_ _) f) (N.track f S),rfl,q _ _ H2 O f (by rw[ja_,e]) R]
def Zd (a:Gl X x)(hm:∃t,X.mg x=some (.int n t))(b:(x==("__debug__" : Str))=false:=by decide):PE X (.Name x pos) (tC (.int n)):=by
 obtain⟨t,hm⟩:=hm;exact QH a hm #[_,rfl] b
section
variable {K:α3} {ta tv td ty tx:TE} {t:TA} {f m:Str} {σ:St} {H:Hp} {Q:VK} {D:Ends} {C:Addr} {sp:Sp} {aK:List V} {E:XK}
theorem Bb_:tFld K ta f σ H Q=ta σ H λx H1=>∃a C dx fs v,x=.ref a/\H1 a=some (.ins C dx fs)/\Cls K C/\Cy K C f/\fs.lookup f=some v/\Q v H1:=rfl
theorem Yg:sFld K ta tv f D σ H=tv σ H λy H1=>ta σ H1 λx H2=>∃a C dx fs,x=.ref a/\H2 a=some (.ins C dx fs)/\Cls K C/\Cy K C f/\fs.length<1000/\D.nx σ (upd H2 a (.ins C dx (putF f y fs))):=rfl
theorem Yh:YY C m sp aK E ta t σ H Q=ta σ H λx H1=>∃a dx fs,x=.ref a/\H1 a=some (.ins C dx fs)/\fs.lookup m=none/\t σ H1 λvs H2=>sp (x::(vs++aK)) H2 Q E:=rfl
theorem Yi:As_ C sp aK E t σ H Q=t σ H λvs H1=>∀x dx,H1 x=none->H1 dx=none->dx≠x->sp (.ref x::(vs++aK)) (upd (upd H1 dx (.own x)) x (.ins C dx [])) (λv H2=>v=.non/\Q (.ref x) H2) E:=rfl
theorem UR:XR td ty tx σ H Q=td σ H λx H1=>∃a,x=.ref a/\IsD H1 a/\ty σ H1 λy H2=>tx σ H2 λz b=>∃o,DGet b a y o/\Q (o.getD z) b:=rfl
end
def JO (K:α3)(H:Hp)(xs:List V)(b:List (α2×Int)):Prop:=xs.length=b.length/\∀(i:Nat) (a:α2×Int),b[i]?=some a->∃t c,xs[i]?=some (.ref t)/\SqT K H t [.ref c,.int a.2]/\SqT K H c (a.1.map V.int)/\a.1.length<=600
def JO.mono {K:α3} (h:JO K H xs fU)(s:Same H H'):JO K H' xs fU:=by
 refine#[h.1,λi e f=>?_];obtain⟨t,g,a,b,c,d⟩:=h.2 i e f;exact#[t,g,a,s.seqT b,s.seqT c,d]
noncomputable def ents (es:List (α2×Int)):List (List Key×V):=es.map λe=>(wkey e.1,V.int e.2)
def US (es:List (α2×Int)):DH (es.map (·.1)) (ents es):=by unfold DH ents;rw[jJ_,jJ_];rfl
def GN (h:w∉es.map (·.1)):valV (ents es) (wkey w)=none:=by
 have:=(US es).some_iff w;rw[jQ_ h]at this;cases q:valV (ents es) (wkey w) with
 |none=>rfl
 |some v=>rw[q]at this;cases this
def Ds:∀{es:List (α2×Int)} {w:α2} {m:Int},(es.map (·.1)).Nodup->(w,m)∈es->valV (ents es) (wkey w)=some (.int m)
 |[],_,_,_,h=>by cases h
 |e::r,w,m,a,h=>by
  rw[jT_,qb_]at a;unfold valV ents;rw[jT_,q0_];by_cases hw:e.1=w
  ·have b:e.2=m:=by
    rcases jw_.mp h with q|q
    ·rw[<-q]
    ·exact absurd (jp_.mpr #[_,q,hw.symm]) a.1
   rw[show decide ((wkey e.1,V.int e.2).1=wkey w)=true from jH_ (by rw[hw]),<-b];rfl
  ·rw[show decide ((wkey e.1,V.int e.2).1=wkey w)=false from jQ_ λz=>hw (FL z)];rcases jw_.mp h with q|q
   ·exact absurd (by rw[<-q]) hw
   ·exact Ds a.2 q
def R3 (h:w∉es.map (·.1)):putK (ents es) (wkey w) (.int m)=ents (es++[(w,m)]):=by
 unfold putK;rw[FA,GN h,if_neg (by simp)];unfold ents;rw[jn_];rfl
def SY:¬ (("letters" : Str) = "marks"):=by decide +kernel
noncomputable def QX (L:Int)(d:Addr):List (Str×V):=putF "marks" (.ref d) (putF "letters" (.int L) [])
def Ow (L:Int)(d:Addr):(QX L d).lookup ("letters" : Str)=some (.int L):=by
 unfold QX;rw[Cr,if_neg SY,Cr,if_pos rfl]
def Dk (L:Int)(d:Addr):(QX L d).lookup ("marks" : Str)=some (.ref d):=by
 unfold QX;rw[Cr,if_pos rfl]
def CJ (L:Int)(d:Addr){m:Str}(h1:¬ m = "marks")(h2:¬ m = "letters"):(QX L d).lookup m=none:=by
 unfold QX;rw[Cr,if_neg h1,Cr,if_neg h2];rfl
structure BookAt (C:Addr)(H:Hp)(p d:Addr)(L:Int)(es:List (α2×Int)):Prop where
 ob:∃dx,H p=some (.ins C dx (QX L d))
 dc:H d=some (.dT (ents es))
 nd:(es.map (·.1)).Nodup
def BookAt.mono (h:BookAt C H p d L es)(s:Same H H'):BookAt C H' p d L es:=by
 obtain⟨⟨dx,a⟩,b,c⟩:=h;exact#[#[dx,s _ _ a],s _ _ b,c]
end L2
namespace L2
open PySem PySem.Spec PyProof.Rows
def Ze (r:RelV z u)(f:EB z=true):eqU x u=eqV z x:=by
 have:=KI (x:=x) (xs:=[z]) (us:=[u]) (.cons r .nil) (by simp[f]);simpa using this
noncomputable def Yj (i:Nat)(f:Addr)(sp:Sp)(aK:List V)(E:XK)(t:TA):TE:=λ σ H Q=>tVar i σ H λv H1=>v=.ref f/\t σ H1 λa H2=>sp (a++aK) H2 Q E
theorem UT : Yj i f sp aK E t σ H Q=tVar i σ H λv H1=>v=.ref f/\t σ H1 λvs H2=>sp (vs++aK) H2 Q E:=rfl
theorem UU : Ap_ A σ H Z=A σ H λvs H1=>∃i j:Int,vs=[.int i,.int j]/\(-(2 ^ 62)<=i/\i<2 ^ 62 /\ -(2 ^ 62)<=j/\j<2 ^ 62)/\Z (Itr i (j-i).toNat) H1:=rfl
section
variable {X:Cx} {CX CX':CXT} {k k':Nat} {f f':Addr} {fd fd':α6} {ps ps':List Str} {sp sp':Sp} {aK dvs':List V} {ds ds':List Value} {x:Str} {p pos:Pos} {e:Expr} {es:List Expr} {t:TA}
def WJ (i:Nat)(F:FnOk X.prog X.w X.K X.mg X.base CX k f fd ps sp)(b:Room k X.A)(c:keepIn X.K (.ref f)=true)(d:Binds X.K fd ps ds)(g:Vals aK ds)(j:Gj CX X E)(l:PA X (e::es) t)
  (m:X.N[i]?=some x:=by rfl) (n:Vis X.env.scope x:=by first|exact oQ rfl|exact o9 (oQ rfl)|exact o9 (o9 rfl)) (o:(x==("__debug__" : Str))=false:=by decide) (y:(x==("__classdict__" : Str))=false:=by decide)
  (z:starEach (e::es) X.env=(false,eval e X.env)::starEach es X.env:=by rfl) (B:(backTo pos (starEach es X.env)).any (·.1)=false:=by rfl):
  PE X (.Call (.Name x p) (e::es) [] pos) (Yj i f sp aK E t):=by
 intro ae s σ H Q I h;refine xK_ (thn (pv i m n o y ae s σ H _ I h) λu C ⟨v,H1,D,rv,G,q⟩=>?_);subst G;obtain rfl:u=Value.ref f:=rv;refine xL_ (h₀:=X.base) I.ok.mod.kin c (thn (l pos ae C σ H1 _ D q) λus L ⟨M,H2,a,r,J⟩=>#[a.kIn,?_]) z B;exact Px F b d g j a r J
end
end L2
namespace L2
open PySem PySem.Spec PyProof.Rows GW
def SqB (K:α3)(H:Hp)(t:Bool)(a:Addr)(xs:List V):Prop:=match t with|false=>SqL K H a xs|true=>SqT K H a xs
def SqB.mono {K:α3} (h:SqB K H t a xs)(s:Same H H'):SqB K H' t a xs:=by
 cases t
 ·exact s.seq h
 ·exact s.seqT h
end L2
namespace Nest
noncomputable def sl (row:α2)(b i:Nat):α2:=(row.take i).drop b
noncomputable def dl (p e x:Int):Int:=if x=e then -1 else if p<=x then 1 else 0
noncomputable def outF (p e:Int)(s:α2×Int)(x:Int):α2×Int:=if x=e then (s.1,s.2-1) else (if s.2=0 then s.1++[x] else s.1,if p<=x then s.2+1 else s.2)
noncomputable def outS (p e:Int)(l:α2):α2×Int:=l.foldl (outF p e) ([],0)
noncomputable def outW (p e:Int)(l:α2):α2:=(outS p e l).1
noncomputable def prtF (p e:Int)(s:List (Int×α2)×α2×α1)(x:Int):List (Int×α2)×α2×α1:=
 if x=e then (s.1++[(s.2.1.getLastD 0,s.2.2.getLastD [])],s.2.1.dropLast,s.2.2.dropLast)
 else if p<=x then (s.1,s.2.1++[x-p],s.2.2.dropLast++[s.2.2.getLastD []++[x]]++[[]])
 else (s.1,s.2.1,s.2.2.dropLast++[s.2.2.getLastD []++[x]])
noncomputable def prtS (p e:Int)(ws:α2):List (Int×α2)×α2×α1:=ws.foldl (prtF p e) ([],[],[[]])
noncomputable def wd (p e:Int)(row:α2)(i a:Nat):α2:=outW p e (sl row (a+1) i)
noncomputable def gt (p:Int)(row:α2)(a:Nat):Int:=row.getD a 0-p
end Nest
namespace HT
open PySem PySem.Spec PyProof.Rows L2
section
variable {prog:Program} {w:World} {A:Around} {E:Value->Shared->Prop} {s:Shared}
def getItem_tuple_whole {t b:Addr} {lo hi:Option Int} (a:IsTup s.heap t items)(hs:s.heap.IsSliceOf b vl vu .none)(pl:IsPart vl lo)(c:IsPart vu hi)
  (hw:sIx items.size 0 lo=0/\sIx items.size items.size hi=items.size) (h:Q (.ref t) s):wpAny (model prog w) A (getItem (.ref t) (.ref b)) Q E s:=by
 obtain⟨d,e,f,i⟩:=id hs;have g:s.TypeIs (.ref b) "slice" := #[d,e,f];unfold getItem
 try with_reducible refine qq_ ?_
 first|refine jc_ (jl_ ?_)|skip
 refine jc_ (wpAny_sequenceKey a.typeIs (by decide) ?_);refine jc_ (qy_ (name:=Str.ofString "__getitem__") a.typeIs qa_
  (qE_ qa_ a.typeIs entry_tuple_getitem ?_ (args_tuple_getitem _ _)))
 show wpAny _ _ (Builtin.Tuple.tupleItemsOf (.ref t) >>= _) _ _ s;refine jc_ (tupleItemsOf_ a ?_);refine jc_ (zd_ g ?_);rw[if_pos (by decide)];refine jc_ (Gk hs pl c ?_);rw[hw.1,hw.2];show wpAny _ _ (if ((((0:Nat):Int)==0&&(1:Int)==1&&(items.size-0)==items.size)=true) then _ else _) _ _ s;rw[if_pos (by simp)];refine jc_ ?_;unfold Builtin.Tuple.tupleIsExact;refine jc_ (zd_ a.typeIs (jl_ ?_));rw[if_pos (by decide)];refine jc_ (wpAny_rule ?_);exact jl_ #[_,rfl,jl_ h]
end
end HT
namespace L2
open PySem PySem.Spec PyProof.Rows GW
def Zf (K:α3):V->Option Int->Option Int->Hp->VK->Prop:=λx lo hi H Q=>∃a xs,x=.ref a/\SqT K H a xs/\∀p H',Same H H'->SqT K H' p (cutV xs lo hi)->Q (.ref p) H'
theorem Yk {K:α3} {lo hi:Option Int} : Zf K x lo hi H Q=∃a xs,x=.ref a/\SqT K H a xs/\∀p H',Same H H'->SqT K H' p (cutV xs lo hi)->Q (.ref p) H':=rfl
def QY : SlR X (Zf X.K):=by
 intro ae s σ H x v i j lo hi k Q I c d e f h;obtain⟨a,xs,rfl,b,q⟩:=h;by_cases hw:HT.sIx xs.length 0 lo=0/\HT.sIx xs.length xs.length hi=xs.length
 ·cases c;obtain⟨l,r,g,o⟩:=I.tuple b;have m:l.toArray.size=xs.length:=by rw[jm_];exact r.length.symm
  exists "tuple",_,qa_.lookup,g.typeIs;refine HT.getItem_tuple_whole g d e f (by rw[m];exact hw) #[.ref a,H,I,rfl,q a H (Same.refl _) ?_];unfold cutV;rw[hw.1,hw.2,xo_,zh_,jz_];exact b
 ·exact RH ae s σ H (.ref a) v i j lo hi k Q I c d e f #[a,xs,rfl,b,hw,λp n=>q p _ (Same.new n) (SqT.of Ab)]
def R4 {K:α3}(h:X.K=K):SlR X (Zf K):=by subst h;exact QY
def Zg {K:α3} (a:X.K=K)(b:PE X l tl):PI X tg l (iTup K tl):=by subst a;exact D8 b
end L2
namespace L2
open PySem PySem.Spec PyProof.Rows
def Mm {K:α3}(h:X.K=K):OpR X (binaryOp .Add) (Eb K):=by subst h;exact FG
end L2
namespace L2
open PySem PySem.W PySem.Spec PySem.Calls PyProof.Rows
def S1 [DecidableEq κ](knd:HeapKind prog w κ) (a:(d==sysModules)=false):
  MeetsIn prog w (Builtin.«dict.__len__» #[[.ref d],[]]) (λ_ R s=>∃xs,s.heap.DictOfH knd d xs/\R (.ok (.ret (.int (xs.length:Nat) s.toks))) {s with toks:=s.toks+1}):=
 .of_wp λA R s ⟨xs,⟨o,es,ep,b,_,c,e,_⟩,h⟩=>by
  show wpAny _ _ (dictSize d >>= _) _ _ s;unfold dictSize;refine jc_ (jc_ (zw_ b c (jl_ ?_)));refine jc_ (wpAny_pendingCount_other a (wpAny_ret_mkInt ?_));rw[Nat.add_zero,size_of_entries e];exact h
def Bc_ {prog:Program}{w:World}{κ:Type}[DecidableEq κ]{knd:HeapKind prog w κ}{A:Around}{E:Value->Shared->Prop}{s:Shared}{d:Addr}{xs:List (κ×Addr×Value)}{Q:Value->Shared->Prop}(a:(d==sysModules)=false)(hm:s.heap.DictOfH knd d xs)(b:(xs.length:Int)<2 ^ 63)
  (h:Q (.int xs.length (s.toks+1)) {s with toks:=s.toks+1+1}):wpAny (model prog w) A (call (.builtin "len") [.ref d]) Q E s:=by
 refine Calls.call_function_entry kind_len plain_len entry_len (args_len1 _) ?_;unfold Builtin.«len»;refine jc_ (m:=oneArg "len" _) (jl_ (jc_ (m:=callSpecial? (.ref d) (Str.ofString "__len__")) (qy_ (name:=Str.ofString "__len__") hm.typeIs F.slot_dict_len (zE_ F.slot_dict_len hm.typeIs F.entry_dict_len (F.args_dict_len_1 _) (S1 knd a) #[xs,hm,?_]))));show wpAny _ _ _ _ _ {s with toks:=s.toks+1};refine jc_ (qq_ (jl_ (jc_ (wpAny_letGo ?_))));show wpAny _ _ (if ((xs.length:Nat):Int)<0 then _ else _) _ _ _;rw[if_neg s!""];show wpAny _ _ (if ((xs.length:Nat):Int) >= 2 ^ 63 then _ else _) _ _ _;rw[if_neg s!""];exact jc_ (wpAny_mkInt (jl_ #[_,rfl,h]))
def Nd : DU X (.builtin "len") (λxs H Q=>∃p kvs,xs=[.ref p]/\H p=some (.dT kvs)/\Q (.int kvs.length) H):=by
 intro ae s σ H xs us Q I r h;obtain⟨p,kvs,rfl,e,q⟩:=h;obtain⟨u,rfl,a⟩:=vals1 r;cases a;obtain⟨z,b,xs,c,d⟩:=Y3 I.hok e;have g:=NC;have f:kvs.length=xs.length:=c.length;exact Bc_ b d s!"" #[.int kvs.length,H,I.tok _,#[_,by rw[f]],q]
end L2
set_option maxHeartbeats 1000000
namespace L2
open PySem PySem.Spec PyProof.Rows
noncomputable def Its (x:Str):It:=#[λi _=>i<x.cps.size,λi H v H'=>H'=H/\∃c,x.cps[i]?=some c/\v=.str #[(List.toArray [c])],λi _=>x.cps.size<=i]
def R5 {P:Program}{w:World}{K:α3}{tg:Expr}(ty:String)(y:ty = "str_ascii_iterator" \/ ty = "str_iterator")(x:Str)(t:Tok)(it:Addr):Turn P w K tg (Its x) [it] it (λi h=>h.IsStrIter it ty x t i) where
 mem:=by simp
 obj:=λi h st b a=>by
  have e:b=it:=by simpa using a
  subst e;obtain⟨o,e,c,d⟩:=st;exact#[o,e,λv z=>by rw[d]at z;cases z]
 keep:=λi h h' st k=>by
  obtain⟨o,L,r⟩:=st;exact#[o,k it (by simp) o L,r]
 item:=by
  intro X A hw B C i ae s σ H E I f st D;subst A hw B;obtain⟨g,j,M,l,m,n⟩:=f it (by simp);have q:i<x.cps.size:=D;have u:x.cps[i]?=some x.cps[i]:=by simp[q]
  rcases y with rfl|rfl
  ·refine wpAny_pyNext_ascii_item st u λh' p F=>?_;have G:Inv X ae σ H {s with heap:=h',toks:=s.toks+1}:=I.turned (t':=s.toks+1) (λb o a e=>(F.2 b a).trans e) g j l m n;obtain⟨o,e,c,d⟩:=id p;exact#[_,rfl,Sw (s:={s with heap:=h',toks:=s.toks+1}) e c d (by decide) #[.str #[(List.toArray [x.cps[i]])],H,G,#[_,rfl],#[rfl,_,u,rfl],p,λb a=>(f b a).1]]
  ·refine wpAny_pyNext_wide_item st u λh' p F=>?_;have G:Inv X ae σ H {s with heap:=h',toks:=s.toks+1}:=I.turned (t':=s.toks+1) (λb o a e=>(F.2 b a).trans e) g j l m n;obtain⟨o,e,c,d⟩:=id p;exact#[_,rfl,Sw (s:={s with heap:=h',toks:=s.toks+1}) e c d (by decide) #[.str #[(List.toArray [x.cps[i]])],H,G,#[_,rfl],#[rfl,_,u,rfl],p,λb a=>(f b a).1]]
 done:=by
  intro X A hw B C i ae s σ H E I f st D;subst A hw B;obtain⟨g,j,M,l,m,n⟩:=f it (by simp);have q:x.cps.size<=i:=D;rcases y with rfl|rfl
  ·exact wpAny_pyNext_ascii_end (I.ok.hd C) st (by simp[q]) λh' J=>#[rfl,I.turned (t':=s.toks) (λb o a e=>J b o a e) g j l m n]
  ·exact wpAny_pyNext_wide_end (I.ok.hd C) st (by simp[q]) λh' J=>#[rfl,I.turned (t':=s.toks) (λb o a e=>J b o a e) g j l m n]
 self:=λ_ _ _ _ _ st h=>by
  rcases y with rfl|rfl
  ·exact wpAny_pyIter_striter_ascii st h
  ·exact wpAny_pyIter_striter_wide st h
noncomputable def iStr (tl:TE):TI:=λ σ H R=>tl σ H λx H1=>∃z,x=.str z/\R (Its z) H1
theorem Yl : iStr te σ H Z=te σ H λx H1=>∃z,x=.str z/\Z (Its z) H1:=rfl
def Ym (g:PE X l tl):PI X tg l (iStr tl):=by
 intro ae s σ H R I h;refine thn (g ae s σ H _ I h) λv a ⟨x,H1,c,i,j⟩=>?_;obtain⟨z,e,q⟩:=j;subst e;obtain⟨t,rfl⟩:=i;have d:∀b ∈ [a.heap.objs.size],FpOk X ae H1 b:=λb d=>by
  have e:b=a.heap.objs.size:=by simpa using d
  subst e;exact c.fpOk (jf_ _) (c.hok.fresh (jf_ _))
 cases f:z.cps.all (· < 128)
 ·exact wpAny_pyIter_wide f #[a.heap.objs.size,[a.heap.objs.size],_,_,H1,rfl,c.kept (t':=a.toks) λb o e=>jj_ _ e,R5 "str_iterator" (.inr rfl) z t _,#[_,js_ _ rfl,rfl,rfl],d,q]
 ·exact wpAny_pyIter_ascii f #[a.heap.objs.size,[a.heap.objs.size],_,_,H1,rfl,c.kept (t':=a.toks) λb o e=>jj_ _ e,R5 "str_ascii_iterator" (.inl rfl) z t _,#[_,js_ _ rfl,rfl,rfl],d,q]
def Yn (a:Nat->List V->St->Hp->Prop)(j:a 0 [] (cp.st σ) H)(hz:z.cps.size<sizeLine)
  (k:∀i ys σ H,i<=z.cps.size->a i ys σ H->ys.length<=i)
  (hs:∀i c ys σ H,z.cps[i]?=some c->a i ys σ H->g (.str #[(List.toArray [c])]) σ H λd H2=>tc d H2 λb f=>if b=true then te d f λv l=>a (i+1) (ys++[v]) d l else a (i+1) ys d f)
  (n:∀ys σ H,a z.cps.size ys σ H->∀D,H D=none->Q (.ref D) (upd H D (.lst ys))):QP (Its z) cp g tc te σ H Q:=by
 refine#[λi m ys σ H=>m=z.cps.size-i/\i<=z.cps.size/\a i ys σ H,#[z.cps.size,by simp,j8_ _,j],?_];rintro i m ys σ H ⟨rfl,hi,p⟩;have r:=k i ys σ H hi p;refine#[by lia,?_];by_cases h:i<z.cps.size
 ·refine .inr #[h,a (i+1),λzs s H' o=>#[z.cps.size-(i+1),by lia,rfl,h,o],λx H' y=>?_];obtain⟨rfl,c,q,rfl⟩:=y;exact hs i c ys σ _ q p
 ·have e:i=z.cps.size:=by lia
  subst e;exact .inl #[jf_ _,n ys σ H p]
def Yo:V->List V->Hp->VK->Prop:=λx xs H Q=>∃z y,x=.str z/\xs=[.str y]/\Q (.int (Txt.find z y)) H
def WK : MtR X "str.find" Yo:=by
 intro ae s σ H x xs v us Q I a rv h;obtain⟨z,y,rfl,rfl,q⟩:=h;obtain⟨t,rfl⟩:=a;obtain⟨u,rfl,b⟩:=vals1 rv;obtain⟨c,rfl⟩:=b;exact SC.find #[.int _,H,I.tok _,#[_,rfl],q]
def R6:∀{ys:List Str} {us:List Value},Vals (ys.map V.str) us->StrsAre us ys
 |[],us,r=>by cases r;exact .nil
 |y::ys,us,r=>by
  cases r with
  |cons a b=>
   obtain⟨t,rfl⟩:=a;exact .cons y t (R6 b)
def Yp (K:α3):V->List V->Hp->VK->Prop:=λx xs H Q=>∃z l ys,x=.str z/\xs=[.ref l]/\SqL K H l (ys.map V.str)/\z.length<=16/\(ys.map (·.length)).sum+ys.length<=1048576/\Q (.str (Txt.join z ys)) H
def Ox : MtR X "str.join" (Yp X.K):=by
 intro ae s σ H x xs v us Q I a rv h;obtain⟨z,l,ys,rfl,rfl,b,c,hw,q⟩:=h;obtain⟨t,rfl⟩:=a;obtain⟨u,rfl,d⟩:=vals1 rv;cases d;obtain⟨e,r,p,f⟩:=I.list b;exact join_listW p.isList (by simpa using R6 r) c hw λg k=>#[.str _,H,I.tok _,#[_,rfl],q]
section
variable {K:α3} {x:V} {xs:List V} {lo hi:Option Int} {H:Hp} {Q:VK}
theorem UW:Yo x xs H Q=∃z y,x=.str z/\xs=[.str y]/\Q (.int (Txt.find z y)) H:=rfl
theorem UX:Yp K x xs H Q=∃z l ys,x=.str z/\xs=[.ref l]/\SqL K H l (ys.map V.str)/\z.length<=16/\(ys.map (·.length)).sum+ys.length<=1048576/\Q (.str (Txt.join z ys)) H:=rfl
theorem Bd_ : rIxS x y H Q=∃z i c,x=.str z/\y=.int i/\z.length<=sizeLine/\atI z.cps.toList i=some c/\Q (.str #[(List.toArray [c])]) H:=rfl
end
def P6 (a:Gl X x)(hm:∃t,X.mg x=some (.str z t))(b:(x==("__debug__" : Str))=false:=by decide):PE X (.Name x pos) (tC (.str z)):=by
 obtain⟨t,hm⟩:=hm;exact QH a hm #[_,rfl] b
def P7:∀{ws:List Nat} {m:Nat} {w:Nat},ws[m]?=some w->ws.idxOf w<=m
 |[],m,w,h=>by simp at h
 |v::ws,m,w,h=>by
  rw[List.idxOf_cons];cases m with
  |zero=>
   have:v=w:=by simpa using h
   simp[this]
  |succ m=>
   have:=P7 (ws:=ws) (m:=m) (w:=w) (by simpa using h);cases e:(v==w) with
   |true=>exact j8_ _
   |false=>exact rH this
def WL (z:Str)(c:Nat):(c∈z.cps.toList/\Txt.find z #[(List.toArray [c])]=(z.cps.toList.idxOf c:Nat)/\∃r,Builtin.Str.occurrences z #[(List.toArray [c])] 0 z.length 1=z.cps.toList.idxOf c::r)\/(c∉z.cps.toList/\Txt.find z #[(List.toArray [c])] = -1):=by
 unfold Txt.find;rcases StrLaws.occ_head z #[(List.toArray [c])] 1 (jf_ _) with ⟨a,b⟩|⟨i,r,a,d,b⟩
 ·refine .inr #[λhm=>?_,by rw[a]];obtain⟨i,hi⟩:=jN_.mp hm;exact b i ((qY_ z c i).mpr hi)
 ·have hi:=(qY_ z c i).mp d;have hm:c∈z.cps.toList:=je_ hi;have e:z.cps.toList.idxOf c=i:=by
   have h:=P7 (ws:=z.cps.toList) (m:=i) (w:=c) hi;rcases zg_ (z.cps.toList.idxOf c) i with f|j
   ·refine absurd ((qY_ z c _).mpr ?_) (b _ f);have g:=xQ_ hm;rw[jg_ g,xm_]
   ·lia
  exact .inl #[hm,by rw[a,e],r,by rw[a,e]]
end L2
set_option maxHeartbeats 4000000
namespace L2
section
variable {α:Type} [DecidableEq α]
noncomputable def ins1 (acc:List α)(x:α):List α:=if x∈acc then acc else acc++[x]
noncomputable def Zh (acc row:List α):List α:=row.foldl ins1 acc
noncomputable def UY (row:List α):List α:=Zh [] row
noncomputable def num (row:List α):α2:=row.map λx=>((UY row).idxOf x:Int)
noncomputable def ncl (row:List α):Nat:=(UY row).length
end
noncomputable def rowB (n:Nat)(b:α2->Nat->Int)(w:α2):α2:=(oN n).map (b w)
abbrev StC:=α1×α2
noncomputable def Cn_ (n:Nat)(b:α2->Nat->Int)(w:α2)(st:StC)(x:Nat):StC:=if ncl st.2<ncl (st.2.zip (rowB n b ((x:Int)::w))) then (st.1++[(x:Int)::w],num (st.2.zip (rowB n b ((x:Int)::w)))) else st
noncomputable def Be_ (n:Nat)(b:α2->Nat->Int)(w:α2)(L:Nat)(st:StC):StC:=(oN L).foldl (Cn_ n b w) st
noncomputable def Yq (n:Nat)(b:α2->Nat->Int)(L:Nat):Nat->Nat->StC->StC
 |0,_,st=>st
 |f+1,k,st=>if k<st.1.length then Yq n b L f (k+1) (Be_ n b (st.1.getD k []) L st) else st
section
variable {n L:Nat} {b:α2->Nat->Int} {w:α2} {st:StC}
noncomputable def wcOf (n L:Nat)(b:α2->Nat->Int):StC:=Yq n b L 41 0 ([[]],num (rowB n b []))
end
end L2
namespace L2
open GW GB
noncomputable def bW (af:α2)(ways:α1)(w:α2)(r:Nat):Int:=af.getD (BY ways (r:Int) w).toNat 0
noncomputable def cf (c:α2)(r:Int):Int:=c.getD r.toNat 0
noncomputable def hm (c R:α2)(r:Int):Int:=(((UY (R.map (cf c))).idxOf (cf c r):Nat):Int)
noncomputable def Bf_ (c acc:α2)(r:Int):α2:=if cf c r∈acc.map (cf c) then acc else acc++[r]
noncomputable def FR (c R:α2):α2:=R.foldl (Bf_ c) []
noncomputable def hrow (c R:α2)(ways:α1)(r:Int):α2:=(ways.getD r.toNat []).map (hm c R)
noncomputable def cOf (L:Nat)(af:α2)(ways:α1):α2:=(wcOf af.length L (bW af ways)).2
noncomputable def rOf (ways:α1):α2:=(UM ways).map (·.1)
noncomputable def sF (L:Nat)(af:α2)(ways:α1):α2:=FR (cOf L af ways) (rOf ways)
noncomputable def hO (L:Nat)(af:α2)(ways:α1)(r:Int):Int:=hm (cOf L af ways) (rOf ways) r
section
variable {L:Nat} {af:α2} {ways:α1}
noncomputable def wi (ways:α1)(r:Int):α2:=(((UM ways).find? λe=>decide (e.1=r)).map (·.2)).getD []
end
def P8 (ways:α1)(r:Int)(u v:α2):BY ways r (u++v)=BY ways (BY ways r u) v:=by unfold BY;rw[qJ_]
end L2
namespace L2
open PySem PySem.Spec PyProof.Rows GW GB
def Rows.eqD {K:α3} (h:Rows K H w ws)(g:Rows K H w' br)(n:Nat):EqD K H (n+2) (.ref w) (.ref w') (decide (ws=br)):=by
 obtain⟨ts,m,d,o⟩:=h;obtain⟨p,q,f,r⟩:=g;refine .inr #[w,w',_,_,rfl,rfl,.inr #[m,q],λi=>decide (ws[i]?=br[i]?),λi x y a b=>?_,?_]
 ·rw[jh_]at a b;cases hi:ts[i]? with
  |none=>rw[hi]at a;cases a
  |some t=>
   cases c:p[i]? with
   |none=>rw[c]at b;cases b
   |some j =>
    rw[hi]at a;rw[c]at b;cases a;cases b;have s:i<ws.length:=by rw[<-d];exact (jb_.mp hi).1
    have u:i<br.length:=by rw[<-f];exact (jb_.mp c).1
    have k:ws[i]?=some ws[i]:=by simp[s]
    have l:br[i]?=some br[i]:=by simp[u]
    have:=EqD.ints (.inr #[o i t _ hi k,r i j _ c l]) n;have e:decide (ws[i]?=br[i]?)=decide (ws[i]=br[i]):=by rw[k,l];simp
    show EqD K H (n+1) (V.ref t) (V.ref j) (decide (ws[i]?=br[i]?));rw[e];exact this
 ·rw[ja_,ja_,d,f,j1_];simp only[j6_,qi_,qw_,jU_];constructor
  ·rintro rfl;exact#[rfl,λi hi=>rfl]
  ·rintro⟨z,v⟩;refine qH_ λi=>?_;by_cases hi:i<ws.length
   ·exact v i s!""
   ·rw[j5_ s!"",j5_ s!""]
def Cp.eqD {K:α3} (h:Cp K H a L ms ws)(g:Cp K H b L' ms' br):EqD K H 8 (.ref a) (.ref b) (decide (L=L'/\ms=ms'/\ws=br)):=by
 obtain⟨m,w,f,k,l⟩:=h;obtain⟨t,u,n,o,p⟩:=g;refine .inr #[a,b,_,_,rfl,rfl,.inr #[f,n],λi=>match i with|0=>decide (L=L')|1=>decide (ms=ms')|_=>decide (ws=br),λi x y c d=>?_,?_]
 ·match i,c,d with
  |0,c,d=>
   cases c;cases d;refine .inl #[rfl,rfl,?_];show decide (L=L')=(L==L');rw[j1_];simp
  |1,c,d=>
   cases c;cases d;exact EqD.ints (.inr #[k,o]) 6
  |2,c,d=>
   cases c;cases d;exact l.eqD p 5
  |j+3,c,d=>simp at c
 ·rw[j1_];simp only[jG_,xu_,j6_,qi_,qw_,jU_,true_and,qc];constructor
  ·rintro⟨q,r,s⟩ i hi
   match i,hi with
   |0,_=>exact jH_ q
   |1,_=>exact jH_ r
   |2,_=>exact jH_ s
  ·intro e;exact#[j0_ (e 0 s!""),j0_ (e 1 s!""),j0_ (e 2 s!"")]
end L2
set_option maxHeartbeats 1000000
namespace L2
open PySem PySem.Spec PyProof.Rows
def P9:∀{l:List (Str×Tok)} {ys:List Str},l.map (·.1)=ys->Vals (ys.map V.str) (strValues l)
 |[],_,rfl=>.nil
 | (x,t)::l,_,rfl=>.cons #[t,rfl] (P9 rfl)
def Yr:V->List V->Hp->VK->Prop:=λx xs H Q=>∃z y,x=.str z/\xs=[.str y]/\(y.length==0)=false/\z.length<=900000/\∀l,H l=none->Q (.ref l) (upd H l (.lst ((Txt.split z y).map V.str)))
theorem UZ : Yr x xs H Q=∃z y,x=.str z/\xs=[.str y]/\(y.length==0)=false/\z.length<=900000/\∀l,H l=none->Q (.ref l) (upd H l (.lst ((Txt.split z y).map V.str))):=rfl
def Qa : MtR X "str.split" Yr:=by
 intro ae s σ H x xs v us Q I g rv h;obtain⟨z,y,rfl,rfl,d,m,q⟩:=h;obtain⟨t,rfl⟩:=g;obtain⟨n,rfl,i⟩:=vals1 rv;obtain⟨u,rfl⟩:=i;have o:=Al;have a:H s.heap.objs.size=none:=I.hok.fresh (jf_ _);have f:(Builtin.Str.partsBetween z (Builtin.Str.occurrences z y 0 z.length (z.length+1)) y.length).length<=sizeLine:=by
  rw[pC];have:=StrLaws.occ_length_le z y 0 z.length (z.length+1);lia
 have c:∀(l:List (Str×Tok)) (k:Nat),l.map (·.1)=Txt.split z y->l.length<=sizeLine->EP X ae σ Q (.ref s.heap.objs.size) {s with heap:=s.heap.push {cls:=.type "list",data:=.seq (strValues l).toArray},toks:=k}:=λl k e j=>
  #[.ref s.heap.objs.size,upd H s.heap.objs.size (.lst ((Txt.split z y).map V.str)),I.laid (t':=k) (λb u e=>jj_ _ e) (jf_ _) #[by rw[ja_,<-e,ja_];exact j,strValues l,0,P9 e,js_ _ rfl],rfl,q _ a]
 cases h1:(decide (z.length<y.length)||decide (Builtin.Str.strKind z<Builtin.Str.strKind y))
 ·cases a:(Builtin.Str.occurrences z y 0 z.length (z.length+1)).isEmpty
  ·refine xV_ F.slot_str_split (z5_ _ _ _) F.entry_str_split (F.args_str_split_2 _ _) (meets_str_split_sep z y t u h1 d a s!"" f) ?_;show wants _ _ _ {s with toks:=_,heap:=s.heap.push {cls:=.type "list",data:=.seq (strsFrom s.toks (Builtin.Str.partsBetween z (Builtin.Str.occurrences z y 0 z.length (z.length+1)) y.length)).toArray} };rw[strsFrom_eq];exact c (numbered s.toks _) _ ((numbered_texts _ _).trans ((if_neg (zX_ h1)).trans (if_neg (zX_ a))).symm) (by
    have:=qx_ pJ (numbered_texts s.toks (Builtin.Str.partsBetween z (Builtin.Str.occurrences z y 0 z.length (z.length+1)) y.length));rw[ja_]at this;rw[this];exact f)
  ·exact xV_ F.slot_str_split (z5_ _ _ _) F.entry_str_split (F.args_str_split_2 _ _) (meets_str_split_not_found z y t u h1 d a)
    (c [(z,t)] s.toks ((if_neg (zX_ h1)).trans (if_pos a)).symm (by show 1<=sizeLine;lia))
 ·exact xV_ F.slot_str_split (z5_ _ _ _) F.entry_str_split (F.args_str_split_2 _ _) (meets_str_split_cannot_occur z y t u h1)
   (c [(z,t)] s.toks (if_pos h1).symm (by show 1<=sizeLine;lia))
noncomputable def nt (n:Int):Str:=Str.ofString (toString n)
def Qb : DU X (.type "str") (λxs H Q=>∃i:Int,xs=[.int i]/\0<=i/\i<10 ^ 10/\Q (.str (nt i)) H):=by
 intro ae s σ H xs us Q I r h;obtain⟨i,rfl,b,h1,q⟩:=h;obtain⟨u,rfl,t,rfl⟩:=vals1 r;refine P.str_of_int ?_ #[.str (nt i),H,I.tok _,#[_,rfl],q];by_cases a:i.natAbs=0
 ·rw[a];decide
 ·have c:(2:Nat) ^ 34=17179869184:=by decide
  have:=(Nat.log2_lt a (k:=34)).mpr s!"";lia
def U0 : DU X (.type "int") (λxs H Q=>∃i:Int,xs=[.str (nt i)]/\0<=i/\i<10 ^ 10/\Q (.int i) H):=by
 intro ae s σ H xs us Q I r h;obtain⟨i,rfl,a,h1,q⟩:=h;obtain⟨u,rfl,t,rfl⟩:=vals1 r;exact PySem.W.KIN.call_num a h1 #[.int i,H,I.tok _,#[_,rfl],q]
noncomputable def jn (c:Nat):List (List Nat)->List Nat
 |[]=>[]
 |[p]=>p
 |p::q::r=>p++c::jn c (q::r)
def U1 {c:Nat}:∀{p q A B:List Nat},c∉p->c∉q->p++c::A=q++c::B->p=q/\A=B
 |[],[],A,B,_,_,h=>#[rfl,(xX_ h).2]
 |[],y::q,A,B,_,d,h=>absurd (xX_ h).1 (λe=>d (e ▸ jt_ ..))
 |x::p,[],A,B,f,_,h=>absurd (xX_ h).1 (λe=>f (e ▸ jt_ ..))
 |x::p,y::q,A,B,f,d,h=>by
  obtain⟨e,h⟩:=xX_ h;obtain⟨a,b⟩:=U1 (λz=>f (jo_ _ z)) (λz=>d (jo_ _ z)) h;exact#[by rw[e,a],b]
def Ys {c:Nat}:∀{xs ys:List (List Nat)},xs ≠ []->ys ≠ []->(∀p∈xs,c∉p)->(∀p∈ys,c∉p)->jn c xs=jn c ys->xs=ys
 |[],_,h,_,_,_,_=>absurd rfl h
 |_,[],_,h,_,_,_=>absurd rfl h
 |[p],[q],_,_,_,_,h=>by rw[show p=q from h]
 |[p],q::f::r,_,_,d,_,h=>absurd (show c∈p by rw[show p=q++c::jn c (f::r) from h];simp) (d p (jt_ ..))
 |p::g::r,[q],_,_,_,e,h=>absurd (show c∈q by rw[<-show p++c::jn c (g::r)=q from h];simp) (e q (jt_ ..))
 |p::g::r,q::f::r',_,_,d,e,h=>by
  obtain⟨a,b⟩:=U1 (d p (jt_ ..)) (e q (jt_ ..)) (show p++c::jn c (g::r)=q++c::jn c (f::r') from h);rw[a,Ys (by simp) (by simp) (λx i=>d x (jo_ _ i)) (λx i=>e x (jo_ _ i)) b]
def Mn (c:Nat):∀ps:List Str,(Str.join #[(List.toArray [c])] ps).cps.toList=jn c (ps.map (·.cps.toList))
 |[]=>rfl
 |[p]=>rfl
 |p::q::r=>by
  show (p++(#[(List.toArray [c])]:Str)++Str.join #[(List.toArray [c])] (q::r)).cps.toList=_;rw[zB_,zB_,xC_,xC_,Mn c (q::r)];simp[jn]
def Oy (x:Str)(c b:Nat):∀(n a:Nat) (st:Array Nat×Nat),st.snd<=a->st.fst.size+n<=b->(forIn (oY a n) st (StrLaws.occBody x #[(List.toArray [c])] x.length b)).run.fst.toList=st.fst.toList++(oY a n).filter (λi=>decide (x.cps.toList[i]?=some c))
 |0,a,st,_,_=>by simp
 |n+1,a,st,h1,h2=>by
  rw[pU,qt];unfold StrLaws.occBody;by_cases hc:x.cps.toList[a]?=some c
  ·have hs:=(qY_ x c a).mpr hc;rw[if_pos #[#[#[by lia,h1],hs.1],hs.2]];have:=Oy x c b n (a+1) (st.fst.push a,a+1) (jf_ _) (by rw[Array.size_push];lia);unfold StrLaws.occBody at this;refine Eq.trans this ?_;rw[rq,pV (by simpa using hc),xx_];rfl
  ·rw[if_neg (λz=>hc ((qY_ x c a).mp #[z.1.2,z.2]))];have:=Oy x c b n (a+1) st s!"" s!"";unfold StrLaws.occBody at this;refine Eq.trans this ?_;rw[pW (by simpa using hc)]
def Zi (x:Str)(c:Nat):Builtin.Str.occurrences x #[(List.toArray [c])] 0 x.length (x.length+1)=(oY 0 (x.length+1)).filter (λi=>decide (x.cps.toList[i]?=some c)):=by
 rw[StrLaws.occ_eq,Oy x c _ _ 0 ((List.toArray []),0) (jf_ _) (by simp)];simp
def R7 (h:∀i,a<=i->i<b->x.cps.toList[i]? ≠ some c):c∉(Builtin.Str.strSub x a b).cps.toList:=λhm=>by
 rw[StrLaws.strSub_toList]at hm;obtain⟨i,hi⟩:=jN_.mp hm;rw[q5_]at hi;split at hi
 ·rw[qX]at hi;exact h (a+i) s!"" s!"" hi
 ·cases hi
def KR (x:Str)(c:Nat):∀(n a:Nat),a+n=x.length+1->∀b,b<=a->(∀i,b<=i->i<a->x.cps.toList[i]? ≠ some c)->∀p∈StrLaws.partsFrom x 1 b ((oY a n).filter (λi=>decide (x.cps.toList[i]?=some c))),c∉p.cps.toList
 |0,a,e,b,h,f,p,d=>by
  have d:p=Builtin.Str.strSub x b x.length:=by simpa [StrLaws.partsFrom] using d
  rw[d];exact R7 λi h1 h2=>f i h1 s!""
 |n+1,a,e,b,h,f,p,d=>by
  rw[pU]at d;by_cases g:x.cps.toList[a]?=some c
  ·rw[pV (by simpa using g)]at d;rcases jw_.mp (show p∈Builtin.Str.strSub x b a::StrLaws.partsFrom x 1 (a+1) ((oY (a+1) n).filter (λi=>decide (x.cps.toList[i]?=some c))) from d) with rfl|d
   ·exact R7 f
   ·exact KR x c n (a+1) s!"" (a+1) (jf_ _) (λi h1 h2=>by lia) p d
  ·rw[pW (by simpa using g)]at d;refine KR x c n (a+1) s!"" b s!"" (λi h1 h2=>?_) p d;by_cases e:i=a
   ·rw[e];exact g
   ·exact f i h1 s!""
def S2 (x:Str)(c:Nat)(b:Builtin.Str.strKind #[(List.toArray [c])]<=Builtin.Str.strKind x\/c∉x.cps.toList):∀p∈Txt.split x #[(List.toArray [c])],c∉p.cps.toList:=by
 have d:x.cps.toList.length=x.length:=by simp[Str.length]
 intro p a;unfold Txt.split at a;split at a
 ·rename_i h
  rw[jd_.mp a];rw[rQ,j6_,j6_]at h;rcases h with h|h
  ·have:x.length=0:=by have h':x.length<1:=h;lia
   intro z;have:=qU_ z;lia
  ·rcases b with b|b
   ·lia
   ·exact b
 ·rw[Zi]at a;split at a
  ·rename_i h
   rw[jd_.mp a];intro z;obtain⟨i,hi⟩:=jN_.mp z;have e:=(jb_.mp hi).1;have:i∈(oY 0 (x.length+1)).filter (λi=>decide (x.cps.toList[i]?=some c)):=qO_.mpr #[by simp[List.mem_range'];lia,by simpa using hi];rw[List.isEmpty_iff.mp h]at this;cases this
  ·rw[StrLaws.partsBetween_eq]at a;exact KR x c (x.length+1) 0 s!"" 0 (jf_ _) (λi h1 h2=>by lia) p a
def WM (x y:Str):Txt.split x y ≠ []:=by
 unfold Txt.split;split
 ·simp
 ·split
  ·simp
  ·intro z;have:=qx_ pJ z;rw[pC]at this;simp at this
def WN (hc:c<128)(x:Str):Builtin.Str.strKind #[(List.toArray [c])]<=Builtin.Str.strKind x:=by
 have e:Builtin.Str.strKind #[(List.toArray [c])]=1:=by
  unfold Builtin.Str.strKind;rw[if_pos];simp;lia
 rw[e];unfold Builtin.Str.strKind;split
 ·exact jf_ _
 ·split<;>decide
def NN (hc:c<128) (h:ps ≠ [])(i:∀p∈ps,c∉p.cps.toList):Txt.split (Txt.join #[(List.toArray [c])] ps) #[(List.toArray [c])]=ps:=by
 have h1:=StrLaws.join_split (Txt.join #[(List.toArray [c])] ps) #[(List.toArray [c])];have h2:Txt.join #[(List.toArray [c])] ps=Str.join #[(List.toArray [c])] ps:=qu_ _ _;have g:=qx_ (λx:Str=>x.cps.toList) h1;rw[Mn,h2,Mn]at g;have j:=Ys (by simpa using WM _ _) (by simpa using h) (λp d=>by
  obtain⟨q,f,rfl⟩:=jp_.mp d;exact S2 _ c (.inl (WN hc _)) q f) (λp d=>by
  obtain⟨q,f,rfl⟩:=jp_.mp d;exact i q f) g
 rw[h2];exact (q2_ (λa b e=>Str.ext' (Array.toList_inj.mp e))).mp j
def Oz {m:Nat}:(nt (m:Int)).cps.toList=(qg 10 m).map Char.toNat:=PySem.W.KIN.signs_num m
def Yt (m:Nat):qg 10 m ≠ []:=Nat.toDigits_ne_nil
def WO:∀m:Nat,m≠0->(qg 10 m)[0]? ≠ some '0':=by
 intro m
 induction m using qu with
 |_ m a=>
  intro hm;by_cases h:m<10
  ·rw[Nat.toDigits_of_lt_base h];intro z;have z:tG m = '0':=by simpa using z
   have:∀d:Nat,d<10->tG d = '0'->d=0:=by decide
   exact hm (this m h z)
  ·rw[Nat.toDigits_of_base_le (by decide) s!""];rw[ji_ (za_.mpr (Yt _))];exact a (m / 10) s!"" s!""
def R8 (a:0<=n) (hc:c∈(nt n).cps.toList):48<=c/\c<=57:=by
 obtain⟨m,rfl⟩:=xa_ a;rw[Oz]at hc;obtain⟨d,b,e⟩:=jp_.mp hc;have r:=tH (Nat.isDigit_of_mem_toDigits (by decide) (by decide) b);rw[<-e];exact r
def Mo (a:0<=n)(h1:n<10 ^ 10):1<=(nt n).length/\(nt n).length<=10:=by
 refine#[?_,PySem.W.KT.len_num a h1];obtain⟨m,rfl⟩:=xa_ a;have e:(nt (m:Int)).cps.toList.length=(nt (m:Int)).length:=by simp[Str.length]
 rw[<-e,Oz,ja_];exact za_.mpr (Yt _)
def Zj (a:0<=n)(h:(nt n).cps.toList[0]?=some 48):n=0:=by
 obtain⟨m,rfl⟩:=xa_ a;rw[Oz,jh_]at h;by_cases hm:m=0
 ·subst hm;rfl
 ·exfalso;cases e:(qg 10 m)[0]? with
  |none=>rw[e]at h;cases h
  |some b=>
   rw[e]at h;have h:b.toNat=48:=jD_ h;refine WO m hm ?_;rw[e]
   congr 1
   exact Char.toNat_inj.mp h
def Zk:nt 0=#[(List.toArray [48])]:=by decide +kernel
noncomputable def ptS (x y:Str):Str×Str×Str:=match Builtin.Str.occurrences x y 0 x.length 1 with
 |i::_=>(Builtin.Str.strSub x 0 i,y,Builtin.Str.strSub x (i+y.length) x.length)
 |[]=>(x,Str.empty,Str.empty)
def Bg_:V->List V->Hp->VK->Prop:=λx xs H Q=>∃z y,x=.str z/\xs=[.str y]/\(y.length==0)=false/\z.length<=900000/\∀l,H l=none->Q (.ref l) (upd H l (.tup [.str (ptS z y).1,.str (ptS z y).2.1,.str (ptS z y).2.2]))
theorem U2 : Bg_ x xs H Q=∃z y,x=.str z/\xs=[.str y]/\(y.length==0)=false/\z.length<=900000/\∀l,H l=none->Q (.ref l) (upd H l (.tup [.str (ptS z y).1,.str (ptS z y).2.1,.str (ptS z y).2.2])):=rfl
def OA : MtR X "str.partition" Bg_:=by
 intro ae s σ H x xs v us Q I j rv h;obtain⟨z,y,rfl,rfl,l,o,q⟩:=h;obtain⟨t,rfl⟩:=j;obtain⟨p,rfl,m⟩:=vals1 rv;obtain⟨u,rfl⟩:=m;have w:=Al;have n:H s.heap.objs.size=none:=I.hok.fresh (jf_ _);have d:∀(a b c:Str) (ta tb tc:Tok) (k:Nat),(a,b,c)=ptS z y->EP X ae σ Q (.ref s.heap.objs.size) {s with heap:=s.heap.push {cls:=.type "tuple",data:=.seq [.str a ta,.str b tb,.str c tc].toArray},toks:=k}:=λa b c ta tb tc k e=>by
  have f:=q _ n;rw[<-e]at f;exact#[.ref s.heap.objs.size,upd H s.heap.objs.size (.tup [.str a,.str b,.str c]),I.laid (t':=k) (λb u e=>jj_ _ e) (jf_ _) #[by show 3<=sizeLine;lia,[.str a ta,.str b tb,.str c tc],.cons #[_,rfl] (.cons #[_,rfl] (.cons #[_,rfl] .nil)),#[_,js_ _ rfl,rfl,_,rfl]],rfl,f]
 refine xV_ F.slot_str_partition (z5_ _ _ _) F.entry_str_partition (F.args_str_partition_2 _ _) (meets_str_partition z y t u l s!"") ?_;cases g:Builtin.Str.occurrences z y 0 z.length 1 with
 |nil=>exact d _ _ _ _ _ _ _ (by unfold ptS;rw[g])
 |cons i r=>exact d _ _ _ _ _ _ _ (by unfold ptS;rw[g])
def WQ (e:c∉a) (hz:z.cps.toList=a++c::r):(ptS z #[(List.toArray [c])]).1.cps.toList=a:=by
 have k:z.cps.toList.length=z.length:=by simp[Str.length]
 unfold ptS;rcases StrLaws.occ_head z #[(List.toArray [c])] 1 (jf_ _) with ⟨d,b⟩|⟨i,r',d,f,b⟩
 ·exfalso;refine b a.length ((qY_ z c a.length).mpr ?_);rw[hz];simp
 ·have hi:=(qY_ z c i).mp f;have l:¬ i<a.length:=λg=>by
   rw[hz,ji_ g]at hi;exact e (je_ hi)
  have m:¬ a.length<i:=λh=>b a.length h ((qY_ z c a.length).mpr (by rw[hz];simp));have j:i=a.length:=by lia
  rw[d];show (Builtin.Str.strSub z 0 i).cps.toList=a;rw[StrLaws.strSub_toList,hz,j];simp
def U3:V->List V->Hp->VK->Prop:=λx a H Q=>∃(l:Addr) (ys:List Str) (y:Str),x=.ref l/\a=[.str y]/\H l=some (.lst (ys.map V.str))/\Q (.int (ys.countP (λs=>decide (s=y)):Nat)) H
theorem R9 : U3 x vs H Q=∃(l:Addr) (ys:List Str) (y:Str),x=.ref l/\vs=[.str y]/\H l=some (.lst (ys.map V.str))/\Q (.int (ys.countP (λs=>decide (s=y)):Nat)) H:=rfl
def Qc {y:Str}:∀{ys:List Str} {its:List Value},Vals (ys.map V.str) its->its.countP (eqU (.str y))=ys.countP (λs=>decide (s=y))
 |[],_,.nil=>rfl
 |x::ys,_,.cons r rs=>by
  rw[x7_,x7_,Qc rs,Ze r rfl];have e:eqV (V.str x) (V.str y)=decide (x=y):=by
   show (x==y)=_;rw[j1_];simp
  rw[e]
def Qd : MtM X "list.count" U3:=by
 intro ae s σ H x f v us Q I a rv h;obtain⟨l,ys,y,rfl,rfl,b,q⟩:=h;cases a;obtain⟨u,rfl,c⟩:=vals1 rv;obtain⟨g,d,n,r,i,e⟩:=I.lstM b;refine xV_ F.slot_list_count #[_,e,rfl] F.entry_list_count (F.args_list_count_2 _ _) (SeqAt.list_countAt l d.toArray n none (List.toArray []) u (eqU (.str y))) #[e,λw hw=>HZ c rfl r (by simp[EB]) w (by simpa using hw),?_];exists .int _,H,I.tok _,#[_,rfl];rw[zY_,Qc r];exact q
end L2
set_option maxHeartbeats 4000000
namespace L2
open PySem PySem.Spec PyProof.Rows
noncomputable def iOr (t u:TI):TI:=λ σ H R=>t σ H R\/u σ H R
theorem Bh_ : iOr t u σ H Z=(t σ H Z\/u σ H Z):=rfl
def Co_ (h:PI X tg e t)(g:PI X tg e u):PI X tg e (iOr t u):=λae s σ H R I q=>q.elim (λq=>h ae s σ H R I q) (λq=>g ae s σ H R I q)
def forE {K:α3} (h:SqB K H t a xs)(b:Nat->St->Hp->Prop)(c:b 0 σ H)(d:∀i σ H,i<=xs.length->b i σ H->SqB K H t a xs)
  (hs:∀i v σ H q,xs[i]?=some v->b i σ H->H q=none->g (.ref q) σ (upd H q (.tup [.int i,v])) λf H2=>tb {D with nx:=b (i+1),ct:=b (i+1),bk:=D.nx} f H2) (e:∀σ H,b xs.length σ H->D.nx σ H):
  (∃ys,SqL K H a ys/\ForW (Itm K a ys) g tb D σ H) \/ ∃ys,SqT K H a ys/\ForW (Itn K a ys) g tb D σ H:=by
 cases t
 ·exact .inl #[xs,h,forM b c d hs e]
 ·exact .inr #[xs,h,forN b c d hs e]
def AM : DU X (.type "tuple") (λxs H Q=>∃p ys,xs=[.ref p]/\((SqL X.K H p ys/\∀l,H l=none->Q (.ref l) (upd H l (.tup ys)))\/False)):=λae s σ H xs us Q I r h=>by
 obtain⟨p,ys,e,h|h⟩:=h
 ·exact Og ae s σ H xs us Q I r #[p,ys,e,.inl h]
 ·exact h.elim
def len1 {α:Type}{us:List α}(h:us.length=1):∃a,us=[a]:=by match us,h with|[a],_=>exact#[a,rfl]
def len2 {α:Type}{us:List α}(h:us.length=2):∃a b,us=[a,b]:=by match us,h with|[a,b],_=>exact#[a,b,rfl]
def len3 {α:Type}{us:List α}(h:us.length=3):∃a b c,us=[a,b,c]:=by match us,h with|[a,b,c],_=>exact#[a,b,c,rfl]
def len4 {α:Type}{us:List α}(h:us.length=4):∃a b c d,us=[a,b,c,d]:=by match us,h with|[a,b,c,d],_=>exact#[a,b,c,d,rfl]
def len6 {α:Type}{us:List α}(h:us.length=6):∃a b c d e f,us=[a,b,c,d,e,f]:=by match us,h with|[a,b,c,d,e,f],_=>exact#[a,b,c,d,e,f,rfl]
def U4 (u:TS)(D:Ends):St->Hp->Prop:=u D
noncomputable def Bi_ (t u:TS):TS:=λD σ H=>t {D with nx:=U4 u D} σ H
theorem Yu : Bi_ t u D σ H=t {D with nx:=U4 u D} σ H:=rfl
def FN (h:u D σ H):U4 u D σ H:=h
def Ic {st:Stmt}{rest:List Stmt} (h1:PS X st t)(h2:PSs X rest u):PSs X (st::rest) (Bi_ t u):=Ac h1 h2
end L2
set_option maxHeartbeats 1000000
set_option maxHeartbeats 4000000
namespace PySem.W
open PySem PySem.Calls PyProof.Rows PyProof.V PySem.Spec
end PySem.W
namespace L2
open PySem PySem.W PySem.Spec PySem.Calls PyProof.Rows
structure CMeth (K:α3)(C:Addr)(m:Str)(f:Addr):Prop where
 sg:ri K (.ref C) "__getattribute__"=some (some (.builtin "type.__getattribute__"))
 rd:uM K C (.type "type")=true
 fc:uN K (.ref C) (.type "type") m=some (.val (.ref f))
 kp:keepIn K (.ref f)=true
section
variable {X:Cx} {CX:CXT} {k:Nat} {f C:Addr} {fd:α6} {ps:List Str} {sp:Sp} {aK:List V} {ds:List Value} {E:XK} {x m:Str} {np aA pos:Pos} {e:Expr} {es:List Expr} {t:TA}
def Bj_ (c:Gl X x)(d:X.mg x=some (.ref C))(hm:CMeth X.K C m f)(F:FnOk X.prog X.w X.K X.mg X.base CX k f fd ps sp)(g:Room k X.A)(i:Binds X.K fd ps ds)(j:Vals aK ds)(l:Gj CX X E)(n:PA X (e::es) t)
  (o:(x==("__debug__" : Str))=false:=by decide) (p:starEach (e::es) X.env=(false,eval e X.env)::starEach es X.env:=by rfl) (q:(backTo pos (starEach es X.env)).any (·.1)=false:=by rfl)
  (u:eval (.Call (.Attribute (.Name x np) m aA) (e::es) [] pos) X.env=(do
   let a <- eval (.Name x np) X.env
   standAt aA.atName
   let (f,first) <- holding [a] (getMethod a m pl)
   callWith pos f first (backTo pos (starEach (e::es) X.env)) (backToKw pos (keywordEach [] X.env))):=by rfl):
  PE X (.Call (.Attribute (.Name x np) m aA) (e::es) [] pos) (Wj sp aK E t):=by
 intro ae s σ H Q I h;refine zD_ (pl:=pl) (L8 I c d ?_ o) u;refine um I.kIn hm.sg (uz I.kIn hm.rd hm.fc rfl ?_);refine xL_ (first:=[]) (h₀:=X.base) I.ok.mod.kin hm.kp (thn (n pos ae _ σ H _ (I.tok _) h) λus y ⟨z,H2,b,r,v⟩=>#[b.kIn,?_]) p q;exact Px F g i j l b r v
end
end L2
namespace L2
open PySem PySem.W PySem.Spec PySem.Calls PyProof.Rows
def vD:Option (Option V)->(V->Prop)->Prop
 |some (some v),q=>q v
 |_,_=>False
theorem U5 : vD (some (some v)) q=q v:=rfl
def Cp_ (h:vD o q):∃v,o=some (some v)/\q v:=by
 match o,h with
 |some (some v),h=>exact#[v,rfl,h]
noncomputable def Bk_ (i:Nat):TE:=λ σ H Q=>vD σ[i]? λv=>Q v H
theorem Yv : Bk_ i σ H Q=vD σ[i]? λv=>Q v H:=rfl
def pvD (i:Nat) (a:X.N[i]?=some x:=by rfl)(b:Vis X.env.scope x:=by first|exact oQ rfl|exact o9 (oQ rfl)|exact o9 (o9 rfl))(c:(x==("__debug__" : Str))=false:=by decide)
  (d:(x==("__classdict__" : Str))=false:=by decide):PE X (.Name x pos) (Bk_ i):=λae s σ H Q I h=>pv i a b c d ae s σ H Q I (Cp_ h)
def iD:V->V->(Int->Int->Prop)->Prop
 |.int i,.int j,q=>q i j
 |x,y,q=>∃i j,x=.int i/\y=.int j/\q i j
theorem Yw : iD (.int i) (.int j) q=q i j:=rfl
def Zl : iD x y q=∃i j,x=.int i/\y=.int j/\q i j:=by
 cases x<;>cases y<;>first|rfl|(simp[iD])
noncomputable def rID (C:Int->Int->Prop)(g:Int->Int->V):R2:=λx y H Q=>iD x y λi j=>C i j/\Q (g i j) H
noncomputable def rI0D (g:Int->Int->V):R2:=λx y H Q=>iD x y λi j=>Q (g i j) H
theorem r_ID : rID C f x y H Q=iD x y λi j=>C i j/\Q (f i j) H:=rfl
theorem Bl_ : rI0D f x y H Q=iD x y λi j=>Q (f i j) H:=rfl
def Bm_ : rID C g=rI C g:=by
 funext x y H Q;exact Zl
def Zm : rI0D g=rI0 g:=by
 funext x y H Q;exact Zl
def opD (h:OpR X f (rI C g)):OpR X f (rID C g):=by rw[Bm_];exact h
def opD0 (h:OpR X f (rI0 g)):OpR X f (rI0D g):=by rw[Zm];exact h
def bD:V->(Bool->Prop)->Prop
 |.bl c,q=>q c
 |x,q=>∃c,x=.bl c/\q c
theorem Bn_ : bD (.bl c) q=q c:=rfl
def Bo_ : bD x q=∃c,x=.bl c/\q c:=by
 cases x<;>first|rfl|(simp[bD])
noncomputable def tBD (t:TE):TT:=λ σ H Q=>t σ H λx H1=>bD x λc=>Q c H1
theorem r_BD : tBD te σ H R=te σ H λx H1=>bD x λc=>R c H1:=rfl
def Yx : tBD t=tB t:=by
 funext σ H Q
 show t σ H _=t σ H _
 congr 1
 funext x H1;exact Bo_
def Zn : tBD t=T8 t:=Yx
def ptB (h:PT X e (tB t)):PT X e (tBD t):=by rw[Yx];exact h
def ptT (h:PT X e (T8 t)):PT X e (tBD t):=by rw[Zn];exact h
def eD:V->V->Prop->Prop
 |.int _,.int _,q=>q
 |.str _,.str _,q=>q
 |.non,.non,q=>q
 |.bl _,.bl _,q=>q
 |x,y,q=>scal x y=true/\q
theorem Yy : eD (.int i) (.int j) q=q:=rfl
theorem Yz : eD (.str i) (.str j) q=q:=rfl
theorem YA : eD .non .non q=q:=rfl
theorem Bp_ : eD (.bl i) (.bl j) q=q:=rfl
def Zo : eD x y q=(scal x y=true/\q):=by
 cases x<;>cases y<;>first|rfl|(simp[eD,scal])
noncomputable def rEqF:R2:=λx y H Q=>eD x y (Q (.bl (decide (x=y))) H)
noncomputable def rNeF:R2:=λx y H Q=>eD x y (Q (.bl (!decide (x=y))) H)
theorem Bq_ : rEqF x y H Q=eD x y (Q (.bl (decide (x=y))) H):=rfl
theorem Br_ : rNeF x y H Q=eD x y (Q (.bl (!decide (x=y))) H):=rfl
def Zp:rEqF=rEq:=by funext x y H Q;exact Zo
def Zq:rNeF=rNe:=by funext x y H Q;exact Zo
def opE (h:OpR X f rEq):OpR X f rEqF:=by rw[Zp];exact h
def opN (h:OpR X f rNe):OpR X f rNeF:=by rw[Zq];exact h
def aD:V->(Addr->Prop)->Prop
 |.ref a,q=>q a
 |x,q=>∃a,x=.ref a/\q a
theorem YB : aD (.ref a) q=q a:=rfl
def WR : aD x q=∃a,x=.ref a/\q a:=by
 cases x<;>first|rfl|(simp[aD])
def nD:V->(Int->Prop)->Prop
 |.int a,q=>q a
 |x,q=>∃a,x=.int a/\q a
theorem YC : nD (.int a) q=q a:=rfl
def U6 : nD x q=∃a,x=.int a/\q a:=by
 cases x<;>first|rfl|(simp[nD])
noncomputable def Zr (K:α3):R2:=λx y H Q=>aD x λp=>∃xs,nD y λi=>SqT K H p xs/\∃v,atI xs i=some v/\Q v H
noncomputable def Zs (K:α3):R2:=λx y H Q=>aD x λp=>∃xs,nD y λi=>SqL K H p xs/\∃v,atI xs i=some v/\Q v H
theorem YD {K:α3} : Zr K x y H Q=aD x λp=>∃xs,nD y λi=>SqT K H p xs/\∃v,atI xs i=some v/\Q v H:=rfl
theorem YE {K:α3} : Zs K x y H Q=aD x λp=>∃xs,nD y λi=>SqL K H p xs/\∃v,atI xs i=some v/\Q v H:=rfl
def WT {K:α3}:Zr K=rIxT K:=by
 funext x y H Q
 show aD x _=∃p xs i v,_;rw[WR];refine propext #[λ⟨p,e,h⟩=>?_,λ⟨p,xs,i,v,f,a,b,c,d⟩=>#[p,f,?_]]
 ·obtain⟨xs,h⟩:=h;rw[U6]at h;obtain⟨i,a,b,v,c,d⟩:=h;exact#[p,xs,i,v,e,a,b,c,d]
 ·exists xs;rw[U6];exact#[i,a,b,v,c,d]
def WU {K:α3}:Zs K=rIxL K:=by
 funext x y H Q
 show aD x _=∃p xs i v,_;rw[WR];refine propext #[λ⟨p,e,h⟩=>?_,λ⟨p,xs,i,v,f,a,b,c,d⟩=>#[p,f,?_]]
 ·obtain⟨xs,h⟩:=h;rw[U6]at h;obtain⟨i,a,b,v,c,d⟩:=h;exact#[p,xs,i,v,e,a,b,c,d]
 ·exists xs;rw[U6];exact#[i,a,b,v,c,d]
def ixTD {K:α3}(h:IxR X (rIxT K)):IxR X (Zr K):=by rw[WT];exact h
def ixLD {K:α3}(h:IxR X (rIxL K)):IxR X (Zs K):=by rw[WU];exact h
def lD1:List V->(V->Prop)->Prop
 |[x],q=>q x
 |xs,q=>∃x,xs=[x]/\q x
theorem U7 : lD1 [x] q=q x:=rfl
def Bs_ : lD1 xs q=∃x,xs=[x]/\q x:=by
 match xs with
 |[]=>rfl
 |[x]=>simp[lD1]
 |x::y::r=>rfl
def Zt (K:α3):List V->Hp->VK->Prop:=λxs H Q=>lD1 xs λx=>aD x λp=>∃ys,(SqL K H p ys\/SqT K H p ys)/\Q (.int ys.length) H
theorem YF {K:α3} : Zt K xs H Q=lD1 xs λx=>aD x λp=>∃ys,(SqL K H p ys\/SqT K H p ys)/\Q (.int ys.length) H:=rfl
def lenD {K:α3} (h:DU X f (λxs H Q=>∃p ys,xs=[.ref p]/\(SqL K H p ys\/SqT K H p ys)/\Q (.int ys.length) H)):DU X f (Zt K):=by
 have e:Zt K=λxs H Q=>∃p ys,xs=[.ref p]/\(SqL K H p ys\/SqT K H p ys)/\Q (.int ys.length) H:=by
  funext xs H Q
  show lD1 xs _=_;rw[Bs_];refine propext #[λ⟨x,e,h⟩=>?_,λ⟨p,ys,e,h1,h2⟩=>#[_,e,ys,h1,h2]];rw[WR]at h;obtain⟨p,rfl,ys,h1,h2⟩:=h;exact#[p,ys,e,h1,h2]
 rw[e];exact h
def An (a:X.N.Nodup)(b:PE X e te)(hi:X.N[i]?=some x:=by rfl)(c:Loc X.env.scope x:=by exact oQ rfl)(hs:swapsWith e (some (.Name x bY)) pos.line X.env=pure false:=by rfl)(d:X.fn x=true\/X.env.scope.names.lookup x=some .local:=by first|exact .inl rfl|exact .inr rfl|assumption):PS X (.Assign [.Name x bY] e pos) (tAsg te (Po i)):=Dz a hi c b hs d
def Aj (c:IxR X r)(d:PE X a ta)(e:PE X b tb)(hs:Uj b:=by exact λ_ _=>rfl):PE X (.Subscript a b pos) (tOp r ta tb):=Y2 c d e hs
end L2
namespace PySem
open Sem (wp)
structure VKind (prog:Program)(w:World)(K:Type)[DecidableEq K] where
 is:Heap->K->Value->Prop
 hash:K->Int
 draws:K->Nat
 room:Around->Prop
 inj:∀{h:Heap} {a:Value} {x y:K},is h x a->is h y a->x=y
 keeps:∀{h h':Heap} {k:K} {a:Value} {d:Addr} {o:Obj} {es ep},is h k a->h.get? d=some o->o.data=.dict es ep->Heap.SameBut d h h'->is h' k a
 pyHash:∀{A:Around} {E:Value->Shared->Prop} {s:Shared} {k:K} {a:Addr} {Q:Int->Shared->Prop},room A->is s.heap k (.ref a)->Q (hash k) {s with toks:=s.toks+draws k}->wpAny (model prog w) A (PySem.pyHash (.ref a)) Q E s
 eqBool:∀{A:Around} {E:Value->Shared->Prop} {s:Shared} {x y:K} {u:Value} {b:Addr} {Q:Bool->Shared->Prop},room A->is s.heap x u->is s.heap y (.ref b)->Q (decide (x=y)) s->wpAny (model prog w) A (PySem.eqBool u (.ref b)) Q E s
 quiet:∀{A:Around} {E:Value->Shared->Prop} {s:Shared} {k:K} {a:Value} {Q:Bool->Shared->Prop},room A->is s.heap k a->Q true s->wpAny (model prog w) A (eqIsQuiet 8 a) Q E s
abbrev NI:=Int ⊕ α2
abbrev NK:=Option (List NI)
noncomputable def Zu:Value->Bool
 |.none=>true
 |_=>false
def Ee (h:Zu v=true):v=.none:=by
 cases v<;>first|rfl|exact nomatch h
def Fe (h:Q 0xFCA86420 {s with toks:=s.toks+1}):wpAny (model prog w) A (pyHash .none) Q E s:=by
 have a:s.TypeIs .none "NoneType" := rfl;unfold pyHash
 first|unfold pyHashByItsType|skip
 have b:[Value.none].any Value.onHeap=false:=rfl;refine jc_ ?_;rw[cRoomFor,if_neg (by rw[b];exact jy_)];refine jl_ ?_;refine jc_ (zW_ a x3_.lookup ?_);show wpAny _ _ (if (some (Value.builtin "NoneType.__hash__")==some Value.none)=true then _ else _) Q E s;rw[if_neg (by rw[beq_builtin_none];exact jy_)];refine jc_ (zW_ a x3_.lookup ?_);show wpAny _ _ (callSpecialIfBoundUnlessNone? .none "__hash__" _ >>= _) Q E s;refine jc_ (wpAny_callSpecialIfBoundUnlessNone?_slot a x3_
  (qE_ x3_ a F.entry_NoneType_hash
   (show wpAny _ _ (do ret ( <- mkInt 0xFCA86420)) _ _ s from wpAny_ret_mkInt ?_) (F.args_NoneType_hash_1 _)))
 show wpAny _ _ (if (decide (-(2:Int) ^ 63<=0xFCA86420)&&decide ((0xFCA86420:Int)<2 ^ 63))=true then _ else _) Q E _;rw[if_pos (by decide)];exact jl_ h
noncomputable def WW (prog:Program)(w:World):KeyKind prog w Unit where
 is:=λ_ v=>Zu v
 hash:=λ_=>0xFCA86420
 inj:=λ_ _ _ _ _=>rfl
 byValue:=λk v h=>by cases Ee h;rfl
 pyHash:=λc h=>by cases Ee c;exact Fe h
 eqBool:=λ{A E s a b u v Q} d c h=>by
  cases Ee d;cases Ee c;unfold eqBool
  try with_reducible refine qq_ ?_
  show wpAny _ _ (if (Value.none==Value.none)=true then _ else _) Q E s;rw[if_pos (show (Value.none==Value.none)=true from rfl)];exact jc_ (wpAny_rule (jl_ (by simpa using h)))
 «strs» := λk x t v h=>(nomatch h)
end PySem
namespace L2
open PySem PySem.Spec PyProof.Rows
def EqsD (K:α3)(H:Hp)(n:Nat)(xs:List V)(x:V)(e:Nat->Bool):Prop:=(∀(i:Nat) (v:V),xs[i]?=some v->∃a,v=.ref a/\EqD K H n v x (e i))/\∀(i j:Nat) (v:V),xs[i]?=some v->xs[j]?=some v->e i=e j
noncomputable def evG (xs:List V)(e:Nat->Bool)(y:Value):Bool := @decide (∃(i:Nat) (a:Addr),y=.ref a/\xs[i]?=some (.ref a)/\e i=true) (oS _)
def Qe {K:α3} (h:EqsD K H n xs x e) (c:xs[i]?=some (.ref a)):evG xs e (.ref a)=e i:=by
 rw[j1_];unfold evG;rw[@decide_eq_true_iff _ (oS _)];constructor
 ·rintro⟨j,b,d,f,g⟩;cases d;rw[h.2 i j _ c f];exact g
 ·intro k;exact#[i,a,rfl,c,k]
def hu46 (h:u+8<cLine):u+4+2<cLine:=by lia
def QZ (K:α3)(n:Nat):V->List V->Hp->VK->Prop:=λx a H Q=>∃l xs t e m,x=.ref l/\a=[.ref t]/\H l=some (.lst xs)/\EqsD K H n xs (.ref t) e/\m<xs.length/\e m=true/\(∀j,j<m->e j=false)/\xs.length<1000000/\Q (.int (m:Nat)) H
theorem Sa {K:α3} : QZ K n x vs H Q=∃l xs t e m,x=.ref l/\vs=[.ref t]/\H l=some (.lst xs)/\EqsD K H n xs (.ref t) e/\m<xs.length/\e m=true/\(∀j,j<m->e j=false)/\xs.length<1000000/\Q (.int (m:Nat)) H:=rfl
def U8 (n:Nat)(T:X.A.units+n+2<cLine):MtM X "list.index" (QZ X.K n):=by
 intro ae s σ H x U v us Q I C rv h;obtain⟨l,xs,t,e,m,rfl,rfl,D,i,hm,E,G,W,q⟩:=h;cases C;obtain⟨u,rfl,J⟩:=vals1 rv;cases J;obtain⟨Y,b,k,r,Z,p⟩:=I.lstM D;have aa:xs.length=b.length:=r.length;have o:∀(j:Nat) (c:j<b.toArray.size),∃(a:Addr),b.toArray[j]=.ref a/\xs[j]?=some (.ref a)/\EqD X.K H n (.ref a) (.ref t) (e j):=λj c=>by
  have w:j<xs.length:=by rw[jm_]at c;lia
  obtain⟨a,d,f⟩:=i.1 j xs[j] (by simp[w]);rw[d]at f;have z:xs[j]?=some (.ref a):=by rw[jg_ w,d]
  obtain⟨L,M,N⟩:=r.get z;have O:b.toArray[j]=L:=by
   have:b[j]?=some b.toArray[j]:=by simp at c;simp[c]
   rw[M]at this;exact (jD_ this).symm
  cases N;exact#[a,O,z,f]
 have B:m<b.toArray.size:=by rw[jm_];lia
 refine xV_ F.slot_list_index #[_,p,rfl] F.entry_list_index (F.args_list_index_2 _ _) (SeqAt.list_indexAt l b.toArray k none (List.toArray []) (.ref t) (evG xs e) m B s!"" ?_ λj c P=>?_) #[p,λy R=>?_,?_]
 ·obtain⟨a,g,d,f⟩:=o _ B;rw[g,Qe i d];exact E
 ·obtain⟨a,g,d,f⟩:=o j c;rw[g,Qe i d];exact G j P
 ·obtain⟨j,c,S⟩:=j3_ (show y∈b by simpa using R);obtain⟨a,g,d,f⟩:=o j (by rw[jm_];exact c);have:y=.ref a:=by rw[<-S,<-g];simp
  rw[this,Qe i d];exact (EqD.at (x:=V.ref a) (y:=V.ref t) I n _ (by rw[in1_units];lia) rfl rfl f).1
 ·exact#[.int (m:Nat),H,I.tok _,#[_,rfl],q]
def S9 {K:α3}(h:X.K=K)(n:Nat)(a:X.A.units+n+2<cLine):MtR X "list.index" (QZ K n):=by subst h;exact U8 n a
def Room.d (r:Room k A)(h:j<=k:=by decide):Room j A:=r.mono h
structure HF (K:α3)(x:Str)(st:Stmt)(f:Addr)(fd:α6):Prop where
 a:nsIn K mainGlobals x=some (some (.ref f))
 F:Fun K x x st f fd
def HF.b {K:α3} {st:Stmt} (h:HF K x st f fd)(e:∀(a c d:Value) (g:Option Addr) (i j v:Value),bindArgs (fnOf x x (KJ st) (EL st) (Ag st) .none a c d g i j) #[[v],[]]=pure [(p,v)])(s:Shared)(v:Value):BindsTo s fd #[[v],[]] [(p,v)]:=by
 obtain⟨_,_,_,_,_,_,_,_,_,rfl,_,_⟩:=h.F.ex;exact .of_eq (e _ _ _ _ _ _ _)
end L2
namespace PySem
def Ta {id:String}{B:Builtin} {rest:List Value} (a:Slot T name id)(b:s.TypeIs self T)(c:entryFor table id=some B)(d:argsOk id #[self::rest,[]])(g:Meets (B #[self::rest,[]]) S)(h:S A R s):codeAny (model prog w) A (.call (.builtin id) #[self::rest,[]]) R s:=
 x2_ a.plain c (a.check _ _ _ _ _ _ _ _ b d (g prog w A R s h))
def Jh
  (f:s.heap.get? a=some o) (hc:o.cls=.type "tuple") (j:o.data=.seq xs k) (l:o.dict=none) (m:typeLookup (.type "tuple") name=pure none) (n:(["__module__","__name__","__qualname__","__doc__","__annotations__"]:List Str).contains name=false) (p:A.handled=none)
  (h:∀h' b e,Heap.NewExcOf s.heap h' e "AttributeError" -> Q none {s with heap:=h',toks:=b}) (hsz:name.length+100<=sizeLine:=by size_fits):wpAny (model prog w) A (getAttr? (.ref a) name) Q E s:=by
 obtain⟨c,q,r,t⟩:=o;obtain rfl:c=_:=hc;obtain rfl:r=_:=j;obtain rfl:q=_:=l;obtain⟨u,g,d,b,v⟩:=s;have T:∀b,Shared.TypeIs #[u,g,d,b,v] (.ref a) "tuple" := λ_=>#[_,f,rfl];have e:=F.slot_tuple_getattribute;have x:=sub_AttributeError;have y:=e.bind (.ref a);have z:=am_tuple_getattr_none;unfold getAttr? getAttrBy? getAttrBy
 wp_walk
 refine wpAny_of_eq e.lookup ?_
 wp_walk
 refine Ta e (T _) am_entry_tuple_getattribute (F.args_tuple_getattribute_2 _ _) (meets_getattribute_miss_tuple a xs k t name _ m n hsz) #[f,p,λh' B C i=>?_];obtain⟨D,G,H⟩:=i.there
 wp_walk
 exact h _ _ _ i.of
end PySem
namespace L2
open PySem PySem.Spec PyProof.Rows
namespace DP
def entry_loop:entryFor table "dict.update.loop"=some Builtin.«dict.update.loop» := entryFor_of_tree (by kernel_rfl)
def plain_loop:plainId "dict.update.loop"=true:=by decide +kernel
end DP
noncomputable def Cq (kvs:List (List Key×V))(ps:List (List Key×V)):List (List Key×V):=ps.foldl (λa p=>putK a p.1 p.2) kvs
def Rd.upd_dT (b:H d=some (.dT kvs))(h:Rd H a u)(c:∀z,u ≠ .dT z):Rd (upd H d (.dT kvs')) a u:=by
 have e:a≠d:=by
  rintro rfl;rcases h with h|⟨o,h⟩<;>rw[b]at h<;>injection h with h
  ·exact c _ h.symm
  ·cases h
 unfold Rd;rw[Ak e];exact h
section
variable {X:Cx} {ae:α7} {σ:St}
def PrsAt (H:Hp)(ts:List Addr)(ps:List (List Key×V)):Prop:=
 ts.length=ps.length/\∀(j:Nat) (p:List Key×V) (q:Addr),ps[j]?=some p->ts[j]?=some q->∃b,Rd H q (.tup [.ref b,p.2])/\H b=some (.tup (p.1.map kV))
def WX {d a it:Addr} (aN:A.units+20<cLine)(T:A.handled=none):
  ∀(n i:Nat) (s:Shared) (H:Hp) (kvs:List (List Key×V)) (t:Tok),ps.length-i=n->i<=ps.length->Inv X ae σ H s->H d=some (.dT kvs)->kvs.length+n<sizeLine->s.heap.IsTupleIter it a i->FpOk X ae H it->Rd H a (.tup (ts.map V.ref))->PrsAt H ts ps ->
   (∀s',Inv X ae σ (upd H d (.dT (Cq kvs (ps.drop i)))) s'->R (.ok (.ret .none)) s') ->
   codeAny (model X.prog X.w) A (.builtin "dict.update.loop" #[[.ref d,.ref it,.int i t,.none],[]]) R s:=by
 intro n
 induction n with
 |zero=>
  intro i s H kvs t U hi I f W st E m g v;have Y:i=ps.length:=by lia
  subst Y;obtain⟨l,y,G,B,C,D⟩:=E;obtain⟨F,rv,p,Z⟩:=I.tuple (.inl m);have J:=rv.length;refine xv_ DP.entry_loop ?_;rw[xr_ DP.plain_loop _];show wpAny _ A.in1 (pyNext (.ref it) >>= _) _ _ s;refine jc_ (wpAny_pyNext_tuple_end T st (show s.heap.IsTuple a F.toArray from p) (by have:=g.1;simp at J ⊢;lia) λh' aa=>?_);have h:Inv X ae σ H {s with heap:=h' }:=I.turned (t':=s.toks) (λb o k e=>aa b o k e) l y B C D;have ab:upd H d (.dT (Cq kvs (ps.drop ps.length)))=H:=by
   rw[pX];show upd H d (.dT kvs)=H
   funext b;unfold upd;split
   ·rename_i q;rw[q];exact f.symm
   ·rfl
  rw[ab]at v;exact jc_ (jl_ (jl_ (v _ h)))
 |succ n ac=>
  intro i s H kvs t U hi I f W st E m g v;obtain⟨l,y,G,B,C,D⟩:=id E;obtain⟨F,rv,p,Z⟩:=I.tuple (.inl m);have K:i<ps.length:=by lia
  have ad:i<ts.length:=by rw[g.1];exact K
  obtain⟨u,af,ag⟩:=rv.get (i:=i) (x:=V.ref ts[i]) (by simp[ad]);cases (show u=Value.ref ts[i] from ag);obtain⟨b,ah,k⟩:=g.2 i ps[i] ts[i] (by simp) (by simp);refine xv_ DP.entry_loop ?_;rw[xr_ DP.plain_loop _];show wpAny _ A.in1 (pyNext (.ref it) >>= _) _ _ s;refine jc_ (wpAny_pyNext_tuple_item st (show s.heap.IsTuple a F.toArray from p) (x:=.ref ts[i]) (by simpa using af) λh' ai aj=>?_);have h:Inv X ae σ H {s with heap:=h' }:=I.turned (t':=s.toks) (λb o k e=>(aj.2 b k).trans e) l y B C D;refine jc_ (qq_ ?_);obtain⟨aO,ak,⟨al,L,am,aP,an⟩,_⟩:=h.tuple (.inl ah);refine jc_ (wpAny_tryCatch ?_);unfold Builtin.Dict.pairItems;refine jc_ (zd_ #[al,L,am] ?_);rw[if_pos (by decide)];refine jc_ (wpAny_seqItems L an (jl_ ?_));cases ak with
  |cons ao ap=>
  cases ap with
  |cons aq ar=>
  cases ar
  rename_i as aQ
  cases (show as=Value.ref b from ao);refine qq_ ?_;obtain⟨z,au,xs,M,av⟩:=Y3 h.hok f;have aw:xs.length<=sizeLine:=by rw[<-zj_ M];exact z
  have J:(putK kvs ps[i].1 ps[i].2).length<=kvs.length+1:=FC kvs _ _;refine wpAny_dictSet_heap (hsz:=aw) (xN_ s!"") (Mf h.hok k) av λh2 ax N=>?_;obtain⟨q,es,ep,O,ay,az,aA,_,aB⟩:=ax;have aC:=λt'=>Oj (t':=t') (ob:=.dT (putK kvs ps[i].1 ps[i].2)) h (by rw[f];exact oO) N #[q,O] #[by lia,au,_,(M.put ps[i].1 k aq).keeps λc ys P=>by
   rw[Ak (YQ P f (λz=>nomatch z))];exact P,q,es,ep,O,ay,az,aA,aB]
  refine jl_ #[zR_ DP.plain_loop _,?_];have Q:d≠it:=Bg f l;refine ac (i+1) _ _ (putK kvs ps[i].1 ps[i].2) _ s!"" s!"" (aC _) (by unfold upd;rw[if_pos rfl]) s!"" ?_ ?_ (m.upd_dT f (λz e=>nomatch e)) #[g.1,λj aD aE aF aG=>?_] ?_
  ·obtain⟨o,aH,r⟩:=ai;exact#[o,(N.2 it (qs_ Q)).trans aH,r]
  ·exact#[by rw[Ak (qs_ Q)];exact l,y,G,B,C,D]
  ·obtain⟨aI,aJ,S⟩:=g.2 j aD aE aF aG;exact#[aI,aJ.upd_dT f (λz e=>nomatch e),by rw[Ak (YQ S f (λz=>nomatch z))];exact S]
  ·intro s' aK;refine v s' ?_;have aL:Cq kvs (ps.drop i)=Cq (putK kvs ps[i].1 ps[i].2) (ps.drop (i+1)):=by
    rw[pH K];rfl
   have aM:upd (upd H d (.dT (putK kvs ps[i].1 ps[i].2))) d (.dT (Cq (putK kvs ps[i].1 ps[i].2) (ps.drop (i+1))))=upd H d (.dT (Cq kvs (ps.drop i))):=by
    rw[aL];funext c;unfold upd;split<;>rfl
   rw[<-aM];exact aK
end
end L2
namespace L2
open PySem PySem.Spec PyProof.Rows
namespace DP
def keys_none:typeLookup (.type "tuple") "keys"=pure none:=by rw[typeLookup_type,builtinLookup_eq_fast];kernel_rfl
end DP
section
variable {X:Cx} {ae:α7} {σ:St} {H:Hp} {s:Shared} {A:Around} {E:Value->Shared->Prop}
def Tc (I:Inv X ae σ H s)(f:H a=some (.frz o (.tup (ts.map V.ref))))(D:o.dict=none)(m:PrsAt H ts ps)(G:ps.length<sizeLine)(T:A.units+30<cLine)(n:A.handled=none)
  (h:∀s',Inv X ae σ (upd H s.heap.objs.size (.dT (Cq [] ps))) s'->Q (.ref s.heap.objs.size) s'):wpAny (model X.prog X.w) A (call (.type "dict") [.ref a]) Q E s:=by
 refine callType_codes (Q₁:=λr t=>r=.ref s.heap.objs.size/\t={s with heap:=s.heap.push {cls:=.type "dict",data:=.dict (List.toArray [])} }) F.kt_called_dict (F.kt_typeCall_dict_1 _) F.entry_dict_init (kt_code_dict_new _ #[rfl,rfl]) ?_;rintro r t ⟨rfl,rfl⟩;have J:Inv X ae σ (upd H s.heap.objs.size (.dT [])) {s with heap:=s.heap.push {cls:=.type "dict",data:=.dict (List.toArray [])} }:=I.laid (a:=s.heap.objs.size) (o:=.dT []) (t':=s.toks) (λ_ _ q=>jj_ _ q) (jf_ _) (RJ s.heap I.big);have K:H s.heap.objs.size=none:=I.hok.fresh (jf_ _);have v:Shared.TypeIs {s with heap:=s.heap.push {cls:=.type "dict",data:=.dict (List.toArray [])} } (.ref s.heap.objs.size) "dict" := #[_,js_ _ rfl,rfl];obtain⟨x,U,W,rv,o',y,g,k',B⟩:=(show Bm X.prog X.w H s.heap a (.frz o (.tup (ts.map V.ref))) from I.hok a _ f);rw[x]at y;cases y;have i:(s.heap.push {cls:=.type "dict",data:=.dict (List.toArray [])}).get? a=some o:=jj_ _ x;exists v,F.args_dict_init_2 _ _;unfold Builtin.«dict.__init__»;refine jc_ ?_;unfold Builtin.Dict.selfAndRest;refine jc_ (zG_ v ?_);show wpAny _ _ (pure (s.heap.objs.size,[Value.ref a])) _ _ _;refine jl_ ?_;show wpAny _ _ (Builtin.Dict.updateFrom "dict.__init__" s.heap.objs.size (.ref a) [] .none) _ _ _;unfold Builtin.Dict.updateFrom;refine jc_ (zd_ #[o,i,g] ?_);rw[if_pos (by decide)];refine jc_ ?_;refine Jh (A:=A.in1.in1) (s:={s with heap:=s.heap.push {cls:=.type "dict",data:=.dict (List.toArray [])} }) i g B D DP.keys_none (by decide) (show A.in1.in1.handled=none from n) λh2 d e C=>?_;rw[if_pos (show (none:α5).isNone=true from rfl)];refine jc_ (wpAny_rule (jc_ ?_));have k:Inv X ae σ (upd H s.heap.objs.size (.dT [])) {s with heap:=h2,toks:=d}:=J.kept (t':=d) (λb u q=>C.keeps b u q);have L:h2.get? a=some o:=C.keeps _ _ i;refine xI_ (s:={s with heap:=h2,toks:=d}) #[o,L,g,_,B] ?_;have M:Inv X ae σ (upd H s.heap.objs.size (.dT [])) {s with heap:=h2.push {cls:=.type "tuple_iterator",data:=.fields (List.toArray [.ref a,.int 0 0])},toks:=d}:=k.kept (t':=d) (λb u q=>jj_ _ q);refine jl_ #[zR_ DP.plain_loop _,?_];have l:∀b,H b≠none->b≠s.heap.objs.size:=λb N e=>N (by rw[e];exact K);refine WX (A:=A.in1) (a:=a) (ts:=ts) (ps:=ps) (by show A.units+1+20<cLine;lia) (show A.in1.handled=none from n) ps.length 0 _ _ [] _ s!"" s!"" M (by unfold upd;rw[if_pos rfl]) (by simpa using G) #[_,js_ _ rfl,rfl,rfl] (k.fpOk (jf_ _) ?_) ?_ #[m.1,λj p q O P=>?_] λs' R=>?_
 ·exact k.hok.fresh (jf_ _)
 ·exact .inr #[o,by rw[Ak (l a (by rw[f];exact λz=>nomatch z))];exact f]
 ·obtain⟨b,h1,h2⟩:=m.2 j p q O P;refine#[b,?_,by rw[Ak (l b (by rw[h2];exact λz=>nomatch z))];exact h2];unfold Rd;rw[Ak (l q (by rcases h1 with h1|⟨Y,h1⟩<;>rw[h1]<;>exact λz=>nomatch z))];exact h1
 ·refine#[rfl,h s' ?_];have S:upd (upd H s.heap.objs.size (.dT [])) s.heap.objs.size (.dT (Cq [] (ps.drop 0)))=upd H s.heap.objs.size (.dT (Cq [] ps)):=by
   rw[xo_];funext c;unfold upd;split<;>rfl
  rw[<-S];exact R
end
end L2
namespace L2
open PySem PySem.Spec PyProof.Rows
section
variable {X:Cx}
def Ln:DU X (.type "tuple") (λxs H Q=>∃p ys,xs=[.ref p]/\SqL X.K H p ys/\∀l o,H l=none->o.dict=none->Q (.ref l) (upd H l (.frz o (.tup ys)))):=by
 intro ae s σ H xs us Q I r h;obtain⟨p,ys,rfl,d,q⟩:=h;obtain⟨u,rfl,f⟩:=vals1 r;cases f;obtain⟨a,r',g,i⟩:=I.list d;have m:=r'.length;refine call_tuple_list g.isList (λh' j=>?_) (by simp only[jm_]<;>lia);have c:Inv X ae σ H {s with heap:=h' }:=I.kept (t':=s.toks) j;have k:Inv X ae σ (upd H h'.objs.size (.frz {cls:=.type "tuple",data:=.seq a.toArray} (.tup ys))) {s with heap:=h'.push {cls:=.type "tuple",data:=.seq a.toArray} }:=
  c.laid (t':=s.toks) (λb o e=>jj_ _ e) (jf_ _) (show Bm X.prog X.w _ _ _ (.frz _ (.tup ys)) from #[js_ _ rfl,i,a,r',IsTup.new _ _])
 exact#[.ref h'.objs.size,_,k,rfl,q _ _ (c.hok.fresh (jf_ _)) rfl]
abbrev Bt_:List V->Hp->VK->Prop:=λxs H Q=>∃(a:Addr) (o:Obj) (ts:List Addr) (ps:List (List Key×V)),xs=[.ref a]/\H a=some (.frz o (.tup (ts.map V.ref)))/\o.dict=none/\PrsAt H ts ps/\ps.length<sizeLine/\∀p,H p=none->Q (.ref p) (upd H p (.dT (Cq [] ps)))
def Ji (hc:X.calm=true)(b:Room k X.A):DU X (.type "dict") Bt_:=by
 intro ae s σ H xs us Q I r h;obtain⟨a,o,ts,ps,rfl,c,d,e,f,q⟩:=h;obtain⟨u,rfl,g⟩:=vals1 r;cases g;exact Tc I c d e f (by have:=b.units;lia) (I.ok.hd hc) λs' i=>#[.ref s.heap.objs.size,_,i,rfl,q _ (I.hok.fresh (jf_ _))]
end
def Lo:∀(ps kvs:List (List Key×V)),((kvs++ps).map (·.1)).Nodup->Cq kvs ps=kvs++ps
 |[],kvs,_=>by simp[Cq]
 |p::ps,kvs,h=>by
  have b:putK kvs p.1 p.2=kvs++[p]:=by
   unfold putK;rw[if_neg];intro a;rw[qe_]at a;obtain⟨q,c,e⟩:=a;have e:=j0_ e;rw[jn_,jT_,qm_]at h;exact h.2.2 q.1 (jp_.mpr #[q,c,rfl]) p.1 (by simp) e
  show Cq (putK kvs p.1 p.2) ps=kvs++p::ps;rw[b,Lo ps (kvs++[p]) (by simpa using h)];simp
end L2
namespace PySem
namespace TS
noncomputable def it (m:Nat):Nat->Nat×Nat->Nat×Nat
 |0,x=>x
 |n+1,x=>it m n (SetTable.leap m x.1 x.2)
def Q0 (m:Nat):∀(n:Nat) (x:Nat×Nat),it m (n+1) x=SetTable.leap m (it m n x).1 (it m n x).2
 |0,x=>rfl
 |n+1,x=>by show it m (n+1) _=_;rw[Q0 m n];rfl
def U9 (m:Nat):∀(a b:Nat) (x:Nat×Nat),it m (a+b) x=it m b (it m a x)
 |0,b,x=>by rw[z1_];rfl
 |a+1,b,x=>by rw[show a+1+b=(a+b)+1 by lia];exact U9 m a b _
def Va (m:Nat):∀(n:Nat) (x:Nat×Nat),(it m n x).2=x.2 / 32 ^ n
 |0,x=>by simp[it]
 |n+1,x=>by
  rw[Q0];show (it m n x).2 / 32=_;rw[Va m n,Nat.div_div_eq_div_mul,Nat.pow_succ]
def Bu_ (m:Nat)(n:Nat)(x:Nat×Nat):(it m (n+1) x).1<m+1:=by
 rw[Q0];exact rY _ (rA _)
def gone (h:p<2 ^ 64):p / 32 ^ 13=0:=Nat.div_eq_of_lt (jM_ h (by decide))
def Bv_:∀i:_root_.Fin 8,∀j:_root_.Fin 8,(oN 8).any λn=>(it 7 n (i.val,0)).1==j.val:=by decide +kernel
def Zv:∀i:_root_.Fin 32,∀j:_root_.Fin 32,(oN 32).any λn=>(it 31 n (i.val,0)).1==j.val:=by decide +kernel
def Zw (b:p<2 ^ 64)(c:j<8):∃n,n<21/\(it 7 n (i,p)).1=j:=by
 have h1:(it 7 13 (i,p)).1<8:=Bu_ 7 12 _;have h2:(it 7 13 (i,p)).2=0:=by rw[Va];exact gone b
 have a:=Bv_ #[_,h1] #[j,c];rw[qe_]at a;obtain⟨n,d,e⟩:=a;refine#[13+n,by have:=jU_.mp d;lia,?_];rw[U9];have f:it 7 13 (i,p)=((it 7 13 (i,p)).1,0):=Prod.ext rfl h2;rw[f];simpa using e
def Sb (b:p<2 ^ 64)(c:j<32):∃n,n<45/\(it 31 n (i,p)).1=j:=by
 have h1:(it 31 13 (i,p)).1<32:=Bu_ 31 12 _;have h2:(it 31 13 (i,p)).2=0:=by rw[Va];exact gone b
 have a:=Zv #[_,h1] #[j,c];rw[qe_]at a;obtain⟨n,d,e⟩:=a;refine#[13+n,by have:=jU_.mp d;lia,?_];rw[U9];have f:it 31 13 (i,p)=((it 31 13 (i,p)).1,0):=Prod.ext rfl h2;rw[f];simpa using e
def Q1 (h:Int):SetTable.bits h<2 ^ 64:=by unfold SetTable.bits;lia
def Td {t:SetTable}(a:t.dummies = (List.toArray []))(j:Nat):t.slot j=.empty \/ ∃i,t.slot j=.live i/\t.place[i]?=some j:=by
 unfold SetTable.slot;dsimp only;by_cases h:t.place[SetTable.below t.place j]?=some j
 ·right;refine#[_,?_,h];rw[if_pos (by rw[h];simp)]
 ·left;rw[if_neg (by simpa using h),a];rfl
def least {p:Nat->Prop}:∀(n:Nat),p n->∃N,N<=n/\p N/\∀m,m<N->¬ p m:=by
 intro n
 induction n using qu with
 |_ n e=>
  intro h;by_cases d:∃m,m<n/\p m
  ·obtain⟨m,h1,h2⟩:=d;obtain⟨N,a,b,c⟩:=e m h1 h2;exact#[N,by lia,b,c]
  ·exact#[n,jf_ _,h,λm hm f=>d #[m,hm,f]]
def Jj (xs:Array Nat)(j:Nat):∀(f lo hi:Nat),lo<=hi->SetTable.below.go xs j f lo hi<=hi
 |0,lo,hi,h=>by unfold SetTable.below.go;exact h
 |f+1,lo,hi,h=>by
  unfold SetTable.below.go;split
  ·dsimp only;split
   ·exact Jj xs j f _ _ s!""
   ·exact qo_ (Jj xs j f _ _ s!"") s!""
  ·exact h
def WY (xs:Array Nat)(j:Nat):SetTable.below xs j<=xs.size:=Jj xs j _ _ _ (j8_ _)
def DW (xs:Array α)(p:Nat)(x:α):(SetTable.insertAt xs p x).size=xs.size+1:=by
 rw[<-jL_,(SetTable.insertAt_perm xs p x).length_eq];simp
end TS
end PySem
namespace PySem
namespace TS
def fmc {α β:Type}{f g:α->Option β}:∀{l:List α},(∀x∈l,f x=g x)->l.filterMap f=l.filterMap g
 |[],_=>rfl
 |x::r,h=>by
  rw[xd_,xd_,h x jt_,fmc λy a=>h y (jo_ _ a)]
noncomputable def cnt (o:Array (Option Nat)):Nat:=o.toList.countP tI
def Vb {o:Array (Option Nat)}:∀(F n i p:Nat) (_:n<F) (_:(o.getD (it 31 n (i,p)).1 (some 0)).isNone=true),∃j,SetTable.layClean.free 31 o F i p=some j/\(o.getD j (some 0)).isNone=true
 |0,n,i,p,h,_=>by lia
 |F+1,n,i,p,h,b=>by
  unfold SetTable.layClean.free;split
  ·rename_i k a
   exact#[_,rfl,xg_ (p:=λk=>(o.getD (i+k) (some 0)).isNone) a]
  ·rename_i a
   cases n with
   |zero=>
    exfalso;have:=qf_.mp a 0 (jU_.mpr (by unfold SetTable.runEnd;split<;>lia));exact this b
   |succ n=>
    dsimp only;exact Vb F n _ _ s!"" b
def Qf {o:Array (Option Nat)}{j:Nat}(h:(o.getD j (some 0)).isNone=true):∃a:j<o.size,o[j]=none:=by
 unfold qh at h;split at h
 ·rename_i a
  exact#[a,by simpa using h]
 ·cases h
def WZ (hs:o.size=32)(hc:cnt o<32):∃j,j<32/\(o.getD j (some 0)).isNone=true:=by
 by_cases h:∃j,j<32/\(o.getD j (some 0)).isNone=true
 ·exact h
 exfalso;have:cnt o=o.toList.length:=by
  unfold cnt;rw[List.countP_eq_length];intro x b;obtain⟨j,a,e⟩:=j3_ b;rw[jL_]at a;cases c:x with
  |some v=>rfl
  |none=>
   exfalso;refine h #[j,by lia,?_];unfold qh;rw[dif_pos a];rw[x4_]at e;show o[j].isNone=true;rw[e,c];rfl
 rw[jL_,hs]at this;lia
def Zx (h:(o.getD j (some 0)).isNone=true):cnt (o.setIfInBounds j (some k))=cnt o+1:=by
 obtain⟨a,e⟩:=Qf h;unfold cnt;rw[Array.toList_setIfInBounds,List.countP_set]
 ·rw[x4_,e];simp
 ·rw[jL_];exact a
def Lay (o:Array (Option Nat))(m:Nat):Prop:=o.size=32/\cnt o=m/\∀x∈o.toList,∀k,x=some k->k<m
def Vc:Lay (rS (31+1) none) 0:=by
 refine#[by simp,by unfold cnt;rw[qi,List.countP_replicate];simp,λx a k b=>?_];rw[qi]at a;rw[(List.mem_replicate.mp a).2]at b;cases b
def Vd (o:List (Option Nat)):∀(a:Nat),((oY a o.length).filterMap λj=>((o[j-a]?).getD none).map λk=>(j,k)).length=o.countP tI/\∀q∈((oY a o.length).filterMap λj=>((o[j-a]?).getD none).map λk=>(j,k)),some q.2∈o:=by
 induction o with
 |nil=>intro a;exact#[rfl,λq b=>by simp at b]
 |cons x r f=>
  intro a;obtain⟨c,d⟩:=f (a+1);rw[jG_,pU,xd_];have e:(oY (a+1) r.length).filterMap (λj=>(((x::r)[j-a]?).getD none).map λk=>(j,k))=(oY (a+1) r.length).filterMap (λj=>((r[j-(a+1)]?).getD none).map λk=>(j,k)):=by
   refine fmc λj g=>?_;have:=List.mem_range'.mp g;have h:j-a=(j-(a+1))+1:=by lia
   rw[h,xb_]
  rw[e,qK_,q9_];cases x with
  |none=>exact#[by simpa using c,λq b=>jo_ _ (d q (by simpa using b))]
  |some k=>
   refine#[by simpa using c,λq b=>?_];simp only[pY,qw,jw_]at b;rcases b with rfl|b
   ·exact jt_
   ·exact jo_ _ (d q b)
def Nf {es:Array (Int×Value)}{a:Array Nat}(h:∀i∈a.toList,i<es.size):(a.filterMap (es[·]?)).size=a.size:=by
 rw[<-jL_,qj,<-jL_];generalize a.toList=l at h
 induction l with
 |nil=>rfl
 |cons i r c=>
  have hi:=h i jt_;rw[pM (b:=es[i]) (by simp[hi]),jG_,jG_,c (λj d=>h j (jo_ _ d))]
end TS
end PySem
namespace PySem
namespace TS
section
variable {prog:Program} {w:World} {K:Type} [DecidableEq K] {knd:KeyKind prog w K}
variable {A:Around} {E:Value->Shared->Prop} {s:Shared}
def OB
  (b:s.heap.get? a=some o) (c:o.data=.set es ep t) (d:t.fits es.size=true) (h:Q (es,ep,t) s):wpAny (model prog w) A (setState a) Q E s:=zx_ b c d h
def idle {α β:Type}{c:β}{f:α->β->Sem (ForInStep β)}:∀{l:List α},(∀v∈l,f v c=pure (.yield c))->forIn l c f=(pure c:Sem β)
 |[],_=>rfl
 |v::l,h=>by
  rw[qt,h v jt_];exact idle λu m=>h u (jo_ _ m)
def oac (a:IsTupleKey knd s.heap ks b)(h:Q false s):wpAny (model prog w) A (ofAClassStatement 8 (.ref b)) Q E s:=by
 have T:=a.typeIs;obtain⟨o,items,n,g,_,d,i⟩:=a;have e:∀v∈items.toList,ofAClassStatement 7 v=pure false:=λv m=>by
  have c:=i.byValue v m;cases v<;>first|rfl|cases c
 unfold ofAClassStatement;refine jc_ (zd_ T (jc_ (jl_ (jc_ (wpAny_seqItems g d (jc_ ?_))))));refine (?_:wpAny _ _ (forIn items _ _) _ _ s);rw[<-qY,idle λv m=>by rw[e v m];rfl];exact jl_ (jl_ h)
def Zy (d:IsTupleKey knd s.heap ks b)(st:List Value)(g:∀y∈st,∃(k:List K) (c:Addr),y=.ref c/\IsTupleKey knd s.heap k c)(h:Q false s):wpAny (model prog w) A (searchCouldBeSeen (.ref b) st) Q E s:=by
 unfold searchCouldBeSeen;refine jc_ ?_;refine wpAny_forIn_list _ (λrest r s'=>r.1=none/\s'=s/\∀y∈rest,∃(k:List K) (c:Addr),y=.ref c/\IsTupleKey knd s.heap k c) _ ?_ ?_ _ _ #[rfl,rfl,g]
 ·rintro v rest r s' ⟨a,rfl,e⟩;obtain⟨k,c,rfl,f⟩:=e v jt_;dsimp only;have tl:∀u∈rest,∃(k:List K) (c:Addr),u=.ref c/\IsTupleKey knd s'.heap k c:=λu i=>e u (jo_ _ i);split
  ·exact jl_ #[rfl,rfl,tl]
  ·refine jc_ (wpAny_eqIsQuiet_tuple d ?_);simp only[zS_,j2_,qM_];refine jc_ (wpAny_eqIsQuiet_tuple f ?_);simp only[zS_,j2_,qM_];refine jc_ (oac d ?_);simp only[j2_,qM_];refine jc_ (oac f ?_);simp only[j2_,qM_];exact jl_ #[rfl,rfl,tl]
 ·rintro⟨j,l⟩ s' ⟨a,rfl,_⟩;simp only at a;subst a;exact jl_ h
end
end TS
end PySem
namespace PySem
namespace TS
section
variable {prog:Program} {w:World} {K:Type} [DecidableEq K] {knd:KeyKind prog w K}
variable {A:Around} {E:Value->Shared->Prop} {s:Shared}
def Te (d:IsTupleKey knd s.heap ks b)(h:∀r,Q r s):wpAny (model prog w) A (hashByValue 8 (.ref b)) Q E s:=by
 have f:=d.typeIs;obtain⟨o,items,n,g,k,i,hi⟩:=d;unfold hashByValue;refine jc_ (zW_ f F.slot_tuple_hash.lookup ?_);dsimp only;refine jc_ (wpAny_seqItems g i ?_);rw[pY];refine jc_ ?_;show wpAny _ _ (forIn items _ _) _ _ s;rw[<-qY];refine wpAny_forIn_list _ (λrest r s'=>r.1=none/\s'=s/\∀v∈rest,carriedByValue v=true) _ ?_ ?_ _ _ #[rfl,rfl,hi.byValue]
 ·rintro v rest r s' ⟨a,rfl,e⟩;have c:∃z,hashByValue 7 v=pure z:=by
   have:=e v jt_;cases v<;>first|exact⟨_,rfl⟩|cases this
  obtain⟨z,c⟩:=c;rw[c];refine jc_ (jl_ ?_);cases z
  ·exact jl_ (jl_ (h _))
  ·exact jl_ #[rfl,rfl,λu j=>e u (jo_ _ j)]
 ·rintro⟨l,m⟩ s' ⟨a,rfl,_⟩;simp only at a;subst a;exact jl_ (h _)
def Cnt (h:Heap)(a:Addr)(n:Nat):Prop:=∃o es ep t,h.get? a=some o/\o.ExactSet/\o.data=.set es ep t/\t.fits es.size=true/\es.size=n
def stored (c:s.heap.get? a=some o)(b:o.data=.set es ep t):(s.heap.update a (Obj.putSet es' t')).get? a=some {o with data:=.set es' (ep+1) t' }:=by
 have:=qI_ (Obj.putSet es' t') c (by rw[putSet_of es' t' b];rfl);rw[putSet_of es' t' b]at this;exact this
def Qg {es ep t}(x:IsTupleKey knd h k b)(d:h.get? a=some o)(e:o.data=.set es ep t)(hs:Heap.SameBut a h h'):IsTupleKey knd h' k b:=by
 obtain⟨o',items,n,h1,h2,c,f⟩:=x;refine#[o',items,n,?_,h2,c,f];have g:b≠a:=λz=>by rw[z,d]at h1;cases h1;rw[e]at c;cases c
 rw[hs.2 b g];exact h1
def YG:SetTable.sizeAbove 20=32:=by decide +kernel
end
end TS
end PySem
namespace PySem
namespace TS
section
variable {prog:Program} {w:World} {K:Type} [DecidableEq K] {knd:KeyKind prog w K}
def Zz (x:IsTupleKey knd h k b)(e:∀o,h.get? b=some o->h'.get? b=some o):IsTupleKey knd h' k b:=by
 obtain⟨o',items,n,h1,h2⟩:=x;exact#[o',items,n,e _ h1,h2]
def Ks (knd:KeyKind prog w K)(keys:List (List K))(bs:List Addr)(h:Heap):Prop:=keys.length=bs.length/\∀(j:Nat) (k:List K) (b:Addr),keys[j]?=some k->bs[j]?=some b->IsTupleKey knd h k b
def Ks.keep (x:Ks knd keys bs h)(e:∀b∈bs,∀o,h.get? b=some o->h'.get? b=some o):Ks knd keys bs h' :=
 #[x.1,λj k b h1 h2=>Zz (x.2 j k b h1 h2) (e b (je_ h2))]
variable {A:Around} {R:Result->Shared->Prop} {I:Addr} {fp wr:List Addr} {G:Array GenState->Array GenState->Prop} {n:Nat} {P:Nat->Value->Prop} {St:Nat->Shared->Prop}
def Sd (W:WalksS prog w A.in1 I fp wr G n P St)(S:Addr)(o:S∉fp)(J:Nat->Heap->Prop)(a:∀{i h h'},J i h->(∀b u,b∉wr->h.get? b=some u->h'.get? b=some u)->J i h')
    (step:∀{i v} {t:Shared} {Q:Bool->Shared->Prop} {E:Value->Shared->Prop},i<n->P i v->J i t.heap->(∀c h' k,J (i+1) h'->Heap.SameBut S t.heap h'->Q c {t with heap:=h',toks:=t.toks+k})->wpAny (model prog w) A.in1 (setAdd S v) Q E t)
    (i:Nat) (t:Shared) (l:i<=n) (st:St i t) (j:J i t.heap) (fin:∀t',Moved (S::wr) G t t'->J n t'.heap->R (.ok (.ret .none)) t'):codeAny (model prog w) A (.builtin "set.update.loop" #[[.ref S,.ref I],[]]) R t:=by
  have q:∀{b},b∉S::wr->b≠S/\b∉wr:=λh=>#[λe=>h (e ▸ jt_),λm=>h (jo_ _ m)];refine xv_ PyProof.Rows.F.entry_set_update_loop ?_;rw[xr_ x6_ _];refine jc_ (m:=pyNext (.ref I)) ?_;rcases Nat.eq_or_lt_of_le l with rfl|d
  . exact W.done t _ _ st λt' m=>jl_ (fin t' (m.mono λb=>jo_ _) (a j m.heap))
  . refine W.item i t _ _ d st λv t' p r m=>jc_ (qq_ (step d p (a j m.heap) λc h' k s g=>jl_ #[zR_ x6_ _,?_]))
    exact Sd W S o J a step (i+1) _ d (W.frame _ t' _ _ r (rL _ _) λb f u e=>(g.2 b λz=>o (z ▸ f)).trans e) s λx y B=>
      fin x (Moved.trans W.gtrans ((m.mono λb=>jo_ _).then_heap (rL _ _) λb u f e=>(g.2 b (q f).1).trans e) y) B
 termination_by n-i
end
end TS
end PySem
namespace PySem
section
variable {prog:Program} {w:World} {A:Around} {E:Value->Shared->Prop} {s:Shared}
noncomputable abbrev TS.set0 (led:Bool):Obj:=#[.type "set",none,.set (List.toArray []) 0 (.fresh 0 0 led),(List.toArray [])]
noncomputable abbrev TS.it0 (l:Addr):Obj:=#[.type "list_iterator",none,.fields (List.toArray [.ref l,.int 0 0]),(List.toArray [])]
def TS.set_open (m:A.handled=none)(d:s.heap.IsList l items)
  (k:∀led,codeAny (model prog w) A.in1.in1 (.builtin "set.update.loop" #[[.ref s.heap.objs.size,.ref (s.heap.push (TS.set0 led)).objs.size],[]]) (wants (λ_ s'=>Q (.ref s.heap.objs.size) s') E) {s with heap:=(s.heap.push (TS.set0 led)).push (TS.it0 l)}):
  wpAny (model prog w) A (call (.type "set") [.ref l]) Q E s:=by
 have o:=xR_.notType;have p:=xR_.canCreate;have u:=xR_.made;have x:=xR_.sub;have y:=F.typeCall_set_1 (.ref l);obtain⟨c,tl,z⟩:=xR_.mro;refine wpAny_call (codeAny_of_tree ?_);refine jl_ #[Code.quiet_builtin _ (by decide +kernel),xv_ F.entry_type_call ?_];rw[Around.under_plain (weight_type_call_type "set" [.ref l] []) rfl]
 wp_walk
 refine zb_ (code_set_new_1 (.ref l) (E:=E) (Q₁:=λv t=>∃led,v=.ref s.heap.objs.size/\t={s with heap:=s.heap.push (TS.set0 led)}) λled=>#[led,rfl,rfl]) λr t a=>?_;rcases r with e|f
 ·exact a
 cases f<;>try exact a
 obtain⟨led,rfl,rfl⟩:=a;have g:(s.heap.push (TS.set0 led)).get? s.heap.objs.size=some (TS.set0 led):=js_ _ rfl;have h:Shared.TypeIs {s with heap:=s.heap.push (TS.set0 led)} (.ref s.heap.objs.size) "set" := #[_,g,rfl];have B:=xR_.init.lookup;have C:=xR_.init.bind (.ref s.heap.objs.size)
 wp_walk
 refine zb_ (x2_ (R:=wants (λv t=>v=.none/\Q (.ref s.heap.objs.size) t) E) xR_.init.plain F.entry_set_init (check_set_init_1 h ?_)) λr t a=>?_
 ·have b:(s.heap.push (TS.set0 led)).IsList l items:=d.push _;have D:=F.sub_list_set;have G:=F.sub_list_frozenset;obtain⟨⟨H,od,I,J⟩,K,i,n,j⟩:=id b;cases i;cases j;unfold Builtin.«set.__init__» Builtin.Frozenset.updateFrom
  wp_walk using xU_ b
  exact zb_ (k led) λr t a=>by
   rcases r with e|f
   ·exact a
   cases f<;>try exact a
   exact jl_ (jl_ #[rfl,a])
 ·rcases r with e|f
  ·exact a
  cases f<;>try exact a
  obtain⟨rfl,q⟩:=a;exact jl_ (jl_ q)
section
variable {K:Type} [DecidableEq K] {knd:KeyKind prog w K} {l:Addr} {items:Array Value} {keys:List (List K)} {bs:List Addr} {led:Bool}
def TS.at_of (hi:items=(bs.map Value.ref).toArray)(i:Nat)(v:Value)(q:items[i]?=some v):∃b,bs[i]?=some b/\v=.ref b:=by
 subst hi;cases h:bs[i]? with
 |none=>simp[h]at q
 |some b=>exact#[b,rfl,by simpa [h] using q.symm]
def TS.Ks.lt (a:TS.Ks knd keys bs h) (m:b∈bs):b<h.objs.size:=by
 obtain⟨j,o,rfl⟩:=List.mem_iff_getElem.mp m;obtain⟨o',_,_,g,_⟩:=a.2 j (keys[j]'(a.1 ▸ o)) bs[j] (by simp) (by simp);exact jv_ g
def TS.old (o:b<s.heap.objs.size):b ∉ [s.heap.objs.size,(s.heap.push (TS.set0 led)).objs.size]/\b ∉ [(s.heap.push (TS.set0 led)).objs.size]/\b≠s.heap.objs.size:=by
 rw[qZ_];have n:=jP_ (xc_ o);exact#[λm=>(jw_.mp m).elim (jP_ o) λm=>n (jd_.mp m),λm=>n (jd_.mp m),jP_ o]
end
end
end PySem
namespace L2
open PySem PySem.Spec PyProof.Rows
noncomputable def setO (a:Addr)(n:Nat):HO:=.ext (λh=>TS.Cnt h a n)
section
variable {X:Cx}
def Qh:DU X (.builtin "len") (λxs H Q=>∃p n,xs=[.ref p]/\H p=some (setO p n)/\n<=1000/\Q (.int n) H):=by
 intro ae s σ H xs us Q I r h;obtain⟨p,n,rfl,a,i,q⟩:=h;obtain⟨u,rfl,b⟩:=vals1 r;cases b;obtain⟨⟨o,es,ep,t,c,d,e,f,g⟩,_⟩:=(show Bm X.prog X.w H s.heap p (setO p n) from I.hok _ _ a);exact PySem.call_len_set c d e f s!"" #[.int n,H,I.tok _,#[s.toks+1,by rw[g]],q]
end
end L2
namespace L2
open PySem PySem.Spec PyProof.Rows
def NO {K:α3}(h:X.K=K):OpR X (compareOp .In) (rIn K false):=by subst h;exact Ul
noncomputable def rInT (K:α3):R2:=λx y H Q=>∃p t xs w ws,y=.ref p/\x=.ref t/\SqT K H p xs/\Am K H xs ws/\SqT K H t (w.map V.int)/\Q (.bl (decide (w∈ws))) H
theorem Bw_ {K:α3} : rInT K x y H Q=∃p t xs w ws,y=.ref p/\x=.ref t/\SqT K H p xs/\Am K H xs ws/\SqT K H t (w.map V.int)/\Q (.bl (decide (w∈ws))) H:=rfl
def Ve {K:α3} (hw:Am K H xs ws)(f:SqT K H t (w.map V.int)):EqsD K H 2 xs (.ref t) (λi=>decide (ws[i]?=some w)):=by
 refine#[λi v g=>?_,λi j v hi h=>?_]
 ·obtain⟨a,u,c,rfl,d⟩:=hw.at g;exists a,rfl;have:=EqD.ints (K:=K) (H:=H) (xs:=u) (ys:=w) (.inr #[SqT.of d,f]) 1;show EqD K H 2 (.ref a) (.ref t) (decide (ws[i]?=some w));rw[show decide (ws[i]?=some w)=decide (u=w) by rw[c];simp];exact this
 ·obtain⟨a,u,c,rfl,d⟩:=hw.at hi;obtain⟨b,l,k,z,e⟩:=hw.at h;cases z;rw[d]at e;have:=jD_ e;injection this with this;have:=(q2_ (λx y z=>V.int.inj z)).mp this;show decide (ws[i]?=some w)=decide (ws[j]?=some w);rw[c,k,this]
def Bx_ (L:X.A.units+8<cLine):OpR X (compareOp .In) (rInT X.K):=by
 intro ae s σ H x y v u Q I o z h;obtain⟨p,t,xs,w,ws,rfl,rfl,B,hw,C,q⟩:=h;cases z;cases o;have f:=Ve hw C;obtain⟨c,r,D,_⟩:=I.tuple B;have M:=r.length;refine SeqAt.in_tupleAt (evG xs λi=>decide (ws[i]?=some w)) D (λy k=>?_) #[.bl _,H,I,rfl,?_]
 ·have E:y∈c:=by simpa using k
  obtain⟨i,hi,F⟩:=j3_ E;have g:i<xs.length:=by lia
  obtain⟨u,d,e⟩:=r.get (i:=i) (x:=xs[i]) (by simp[g]);rw[jg_ hi,F]at d;cases d;obtain⟨a,l,m⟩:=f.1 i xs[i] (by simp[g]);rw[l]at e m;cases e;rw[Qe f (i:=i) (by rw[jg_ g,l])];exact (EqD.at (x:=V.ref a) (y:=V.ref t) I 2 X.A.in1 (by rw[in1_units];lia) rfl rfl m).1
 ·have:c.toArray.any (evG xs λi=>decide (ws[i]?=some w))=decide (w∈ws):=by
   rw[show c.toArray.any (evG xs λi=>decide (ws[i]?=some w))=c.any (evG xs λi=>decide (ws[i]?=some w)) by simp,j1_,qe_,j6_];constructor
   ·rintro⟨y,k,G⟩;obtain⟨j,b,_,N,J⟩:=(@decide_eq_true_iff _ (oS _)).mp G;exact je_ (j0_ J)
   ·intro hm;obtain⟨i,hi⟩:=jN_.mp hm;obtain⟨a,n,_⟩:=hw.2 i w hi;obtain⟨u,d,e⟩:=r.get n;cases e;exact#[.ref a,je_ d,by rw[Qe f n];exact jH_ hi]
  rw[this];exact q
def ZA {K:α3}(h:X.K=K)(a:X.A.units+8<cLine):OpR X (compareOp .In) (rInT K):=by subst h;exact Bx_ a
def Am.append {K:α3} (h:Am K H xs as)(g:Am K H ys bs):Am K H (xs++ys) (as++bs):=by
 refine#[by rw[jk_,jk_,h.1,g.1],λi u c=>?_];by_cases hi:i<as.length
 ·rw[ji_ hi]at c;obtain⟨t,a,b⟩:=h.2 i u c;exact#[t,by rw[ji_ (by rw[h.1];exact hi)];exact a,b]
 ·rw[ju_ s!""]at c;obtain⟨t,a,b⟩:=g.2 _ u c;exact#[t,by rw[ju_ (by rw[h.1];lia),h.1];exact a,b]
def Am.takeN {K:α3} (h:Am K H xs ws)(n:Nat):Am K H (xs.take n) (ws.take n):=by
 refine#[by rw[jC_,jC_,h.1],λi u a=>?_];rw[q5_]at a ⊢;by_cases hi:i<n
 ·rw[if_pos hi]at a ⊢;exact h.2 i u a
 ·rw[if_neg hi]at a;cases a
def Am.rowsN {K:α3} (h:Am K H zs ws):∃ts:List Addr,zs=ts.map V.ref/\ts.length=ws.length/\∀(i:Nat) (t:Addr) (row:α2),ts[i]?=some t->ws[i]?=some row->H t=some (.tup (row.map V.int)):=by
 refine#[zs.map λv=>match v with | .ref t=>t|_=>0,?_,by rw[ja_,h.1],λi t row h1 h2=>?_]
 ·refine qH_ λi=>?_;rw[jJ_,jh_];cases c:zs[i]? with
  |none=>rfl
  |some v=>
   obtain⟨t,u,_,rfl,_⟩:=h.at c;rfl
 ·obtain⟨d,a,b⟩:=h.2 i row h2;rw[jh_,a]at h1;cases h1;exact b
end L2
namespace PySem
namespace TS
def Up (xs:Array Nat):Prop:=∀i j (hi:i<xs.size) (a:j<xs.size),i<j->xs[i]<xs[j]
def OC {xs:Array Nat}(a:Up xs)(v:Nat):∀(f lo hi:Nat),lo<=hi->hi<=xs.size->hi-lo<=f->(∀i (h:i<xs.size),i<lo->xs[i]<v)->(∀i (h:i<xs.size),hi<=i->v<=xs[i]) ->
  SetTable.below.go xs v f lo hi<=xs.size/\(∀i (h:i<xs.size),i<SetTable.below.go xs v f lo hi->xs[i]<v)/\(∀i (h:i<xs.size),SetTable.below.go xs v f lo hi<=i->v<=xs[i])
 |0,lo,hi,h1,h2,j,b,c=>by
  unfold SetTable.below.go;have:lo=hi:=by lia
  subst this;exact#[h2,b,c]
 |f+1,lo,hi,h1,h2,j,b,c=>by
  unfold SetTable.below.go;by_cases g:lo<hi
  ·rw[if_pos g];dsimp only;have hm:(lo+hi) / 2<xs.size:=by lia
   have k:xs.getD ((lo+hi) / 2) v=xs[(lo+hi) / 2]:=by unfold qh;rw[dif_pos hm];rfl
   rw[k];by_cases d:xs[(lo+hi) / 2]<v
   ·rw[if_pos d];refine OC a v f _ _ s!"" h2 s!"" (λi h l=>?_) c;rcases zg_ i ((lo+hi) / 2) with e | m
    ·exact qb (a i _ h hm e) d
    ·have:i=(lo+hi) / 2:=by lia
     subst this;exact d
   ·rw[if_neg d];refine OC a v f _ _ s!"" s!"" s!"" b (λi h l=>?_);rcases zg_ ((lo+hi) / 2) i with e | m
    ·have:=a _ i hm h e;lia
    ·have:i=(lo+hi) / 2:=by lia
     subst this;lia
  ·rw[if_neg g];have:lo=hi:=by lia
   subst this;exact#[h2,b,c]
def OD (a:Up xs)(v:Nat):SetTable.below xs v<=xs.size/\(∀i (h:i<xs.size),i<SetTable.below xs v->xs[i]<v)/\(∀i (h:i<xs.size),SetTable.below xs v<=i->v<=xs[i]):=
 OC a v _ _ _ (j8_ _) (jf_ _) s!"" (λi h hi=>absurd hi (q1_ _)) (λi h hi=>by lia)
def Qi (a:Up xs) (b:v∈xs.toList):xs[SetTable.below xs v]?=some v:=by
 obtain⟨g,c,d⟩:=OD a v;obtain⟨i,hi,e⟩:=j3_ b;rw[jL_]at hi;rw[x4_]at e;have h1:¬ i<SetTable.below xs v:=λz=>by have:=c i hi z;lia
 have h2:SetTable.below xs v<xs.size:=by lia
 have f:i=SetTable.below xs v:=by
  refine j4_ λh=>?_;have j:=a (SetTable.below xs v) i h2 hi s!"";have k:=d _ h2 (jf_ _);lia
 subst f;rw[jV_ hi,e]
def Se {t:SetTable}(a:Up t.place)(b:t.dummies = (List.toArray []))(j:Nat):(j∈t.place.toList/\∃i,t.slot j=.live i/\t.place[i]?=some j)\/(j∉t.place.toList/\t.slot j=.empty):=by
 by_cases h:j∈t.place.toList
 ·left;refine#[h,SetTable.below t.place j,?_,Qi a h];unfold SetTable.slot;dsimp only;rw[if_pos (by rw[Qi a h];simp)]
 ·right;exists h;rcases Td b j with e|⟨i,e,f⟩
  ·exact e
  ·rw[<-jZ_]at f;exact absurd (je_ f) h
def B0 (xs:Array α)(p:Nat)(a:p<=xs.size)(x:α)(i:Nat):(SetTable.insertAt xs p x)[i]?=if i<p then xs[i]? else if i=p then some x else xs[i-1]?:=by
 rw[<-jZ_,SetTable.toList_insertAt];by_cases h1:i<p
 ·rw[if_pos h1,ji_ (by rw[jC_,jL_];lia),q5_,if_pos h1,jZ_]
 ·rw[if_neg h1,ju_ (by rw[jC_,jL_];lia),jC_,jL_,qx a];by_cases h2:i=p
  ·rw[if_pos h2,h2,qK_,q9_]
  ·rw[if_neg h2,show i-p=(i-p-1)+1 by lia,xb_,qX,jZ_]
   congr 1;lia
def Up.iff : Up xs ↔ ∀i j a b:Nat,xs[i]?=some a->xs[j]?=some b->i<j->a<b:=by
 constructor
 ·intro h i j a b d e c;obtain⟨h1,rfl⟩:=jS_.mp d;obtain⟨h2,rfl⟩:=jS_.mp e;exact h i j h1 h2 c
 ·intro h i j hi f c;exact h i j _ _ (jV_ hi) (jV_ f) c
def Up.ins {xs:Array Nat}(e:Up xs){v:Nat}(n:v∉xs.toList):Up (SetTable.insertAt xs (SetTable.below xs v) v):=by
 obtain⟨o,p,q⟩:=OD e v;have f:∀i a,xs[i]?=some a->i<SetTable.below xs v->a<v:=λi a c hi=>by
  obtain⟨h1,rfl⟩:=jS_.mp c;exact p i h1 hi
 have g:∀i a,xs[i]?=some a->SetTable.below xs v<=i->v<a:=λi a c hi=>by
  obtain⟨h1,rfl⟩:=jS_.mp c;have:=q i h1 hi;rcases zg_ v xs[i] with h|h
  ·exact h
  ·exact absurd (show v∈xs.toList by rw[show v=xs[i] by lia];exact pN h1) n
 rw[Up.iff]at e ⊢;intro i j a b c d r;rw[B0 _ _ o]at c d;by_cases hi:i<SetTable.below xs v
 ·rw[if_pos hi]at c;by_cases k:j<SetTable.below xs v
  ·rw[if_pos k]at d;exact e i j a b c d r
  ·rw[if_neg k]at d;by_cases l:j=SetTable.below xs v
   ·rw[if_pos l]at d;cases d;exact f i a c hi
   ·rw[if_neg l]at d;exact qb (f i a c hi) (g (j-1) b d s!"")
 ·rw[if_neg hi]at c;rw[if_neg s!"",if_neg s!""]at d;by_cases m:i=SetTable.below xs v
  ·rw[if_pos m]at c;cases c;exact g (j-1) b d s!""
  ·rw[if_neg m]at c;exact e (i-1) (j-1) a b c d s!""
def ZC : y∈(SetTable.insertAt xs p x).toList↔y∈xs.toList\/y=x:=by
 rw[(SetTable.insertAt_perm xs p x).mem_iff,rq,jr_,jd_]
noncomputable def adv (m:Nat)(p:SetTable.Probe):SetTable.Probe:=if p.more > 0 then {p with j:=p.j+1,more:=p.more-1} else
 {p with j:=(SetTable.leap m p.i p.perturb).1,more:=SetTable.runEnd m (SetTable.leap m p.i p.perturb).1-(SetTable.leap m p.i p.perturb).1,i:=(SetTable.leap m p.i p.perturb).1,perturb:=(SetTable.leap m p.i p.perturb).2}
def By_ (t:SetTable)(p:SetTable.Probe):t.advance p=adv t.mask p:=by
 unfold SetTable.advance adv;split<;>rfl
noncomputable def stt (m i perturb:Nat):SetTable.Probe:={j:=i,more:=SetTable.runEnd m i-i,i,perturb,dummy:=none}
noncomputable def advs (m:Nat):Nat->SetTable.Probe->SetTable.Probe
 |0,p=>p
 |n+1,p=>advs m n (adv m p)
def JQ (m:Nat):∀(n:Nat) (p:SetTable.Probe),advs m (n+1) p=adv m (advs m n p)
 |0,p=>rfl
 |n+1,p=>by show advs m (n+1) _=_;rw[JQ m n];rfl
def L3 (m:Nat):∀(a b:Nat) (p:SetTable.Probe),advs m (a+b) p=advs m b (advs m a p)
 |0,b,p=>by rw[z1_];rfl
 |a+1,b,p=>by rw[show a+1+b=(a+b)+1 by lia];exact L3 m a b _
def Vf (m:Nat)(p:SetTable.Probe):(adv m p).dummy=p.dummy:=by unfold adv;split<;>rfl
def NQ (m:Nat):∀(n:Nat) (p:SetTable.Probe),(advs m n p).dummy=p.dummy
 |0,p=>rfl
 |n+1,p=>by show (advs m n _).dummy=_;rw[NQ m n,Vf]
def Qj (m i q:Nat):∀k,k<=SetTable.runEnd m i-i->advs m k (stt m i q)={j:=i+k,more:=SetTable.runEnd m i-i-k,i,perturb:=q,dummy:=none}
 |0,_=>rfl
 |k+1,h=>by
  rw[JQ,Qj m i q k s!""];unfold adv;rw[if_pos (by show SetTable.runEnd m i-i-k > 0;lia)];rfl
def Vg (m i q:Nat):advs m (SetTable.runEnd m i-i+1) (stt m i q)=stt m (SetTable.leap m i q).1 (SetTable.leap m i q).2:=by
 rw[JQ,Qj m i q _ (jf_ _)];unfold adv;rw[if_neg (by show ¬ (SetTable.runEnd m i-i-(SetTable.runEnd m i-i) > 0);lia)];rfl
def Bz_ (m i:Nat):SetTable.runEnd m i-i<=9:=by unfold SetTable.runEnd;split<;>lia
def Q2 (m:Nat):∀(n i q:Nat),∃k,k<=10*n/\advs m k (stt m i q)=stt m (it m n (i,q)).1 (it m n (i,q)).2
 |0,i,q=>#[0,by lia,rfl]
 |n+1,i,q=>by
  obtain⟨k,h1,h2⟩:=Q2 m n (SetTable.leap m i q).1 (SetTable.leap m i q).2;have:=Bz_ m i;refine#[SetTable.runEnd m i-i+1+k,by lia,?_];rw[L3,Vg,h2];rfl
noncomputable def pth (m:Nat)(h:Int)(n:Nat):Nat:=(advs m n (stt m (SetTable.bits h%(m+1)) (SetTable.bits h))).j
noncomputable def prb (m:Nat)(h:Int)(n:Nat):SetTable.Probe:=advs m n (stt m (SetTable.bits h%(m+1)) (SetTable.bits h))
def Vh (t:SetTable)(h:Int):t.probeStart h=prb t.mask h 0:=rfl
def Vi (t:SetTable)(h:Int)(n:Nat):t.advance (prb t.mask h n)=prb t.mask h (n+1):=by rw[By_];unfold prb;rw[JQ]
def Vj (m:Nat)(h:Int)(n:Nat):(prb m h n).dummy=none:=by unfold prb;rw[NQ];rfl
def Qk {m:Nat}{o:Array (Option Nat)}:∀(F i q j:Nat),SetTable.layClean.free m o F i q=some j->∃n,j=(advs m n (stt m i q)).j/\(o.getD j (some 0)).isNone=true/\∀k,k<n->(o.getD (advs m k (stt m i q)).j (some 0)).isNone=false
 |0,i,q,j,h=>by unfold SetTable.layClean.free at h;cases h
 |F+1,i,q,j,h=>by
  unfold SetTable.layClean.free at h;split at h
  ·rename_i k a
   cases h;have h1:=xg_ (p:=λk=>(o.getD (i+k) (some 0)).isNone) a;have h2:=jU_.mp (qC_ a);have g:i<=SetTable.runEnd m i:=by unfold SetTable.runEnd;split<;>lia
   refine#[k,by rw[Qj m i q k s!""],h1,λk' r=>?_];rw[Qj m i q k' s!""];have:=List.find?_eq_some_iff_append.mp a;obtain⟨_,b,bs,e,s⟩:=this;have hm:k'∈b:=by
    have v:b.length=k:=by
     have c:=qx_ (λl:List Nat=>l[b.length]?) e;simp only[ju_ (jf_ _),qK_,q9_]at c;rw[qW_]at c
     ·exact jD_ c
     ·have:=qx_ pJ e;rw[qL_,jk_,jG_]at this;lia
    have d:=qx_ (λl:List Nat=>l[k']?) e;simp only[ji_ (show k'<b.length by lia)]at d;rw[qW_ s!""]at d;exact je_ d.symm
   have:=s k' hm;simpa using this
  ·rename_i a
   dsimp only at h;obtain⟨n,h1,h2,t⟩:=Qk F _ _ j h;refine#[SetTable.runEnd m i-i+1+n,by rw[L3,Vg];exact h1,h2,λk r=>?_];by_cases u:k<=SetTable.runEnd m i-i
   ·rw[Qj m i q k u];have g:i<=SetTable.runEnd m i:=by unfold SetTable.runEnd;split<;>lia
    have:=qf_.mp a k (jU_.mpr s!"");show (o.getD (i+k) (some 0)).isNone=false;exact Bool.eq_false_iff.mpr this
   ·obtain⟨f,rfl⟩:∃f,k=SetTable.runEnd m i-i+1+f:=#[k-(SetTable.runEnd m i-i+1),by lia];rw[L3,Vg];exact t f s!""
end TS
end PySem
namespace PySem
namespace TS
def ZD {m:Nat}{xs:Array Nat}(hs:xs.size<m):∃j,j<m/\j∉xs.toList:=by
 by_cases h:∃j,j<m/\j∉xs.toList
 ·exact h
 exfalso;have b:∀j,j<m->j∈xs.toList:=λj a=>j4_ λc=>h #[j,a,c];have:=(List.nodup_range (n:=m)).length_le_of_subset (λj a=>b j (jU_.mp a));rw[qL_,jL_]at this;lia
def Mk (m:Nat):Prop:=m=7\/m=31
def W0 (hm:Mk m)(h:Int) (c:j<m+1):∃n,n+10<10*SetTable.turns m/\pth m h n=j:=by
 rcases hm with rfl|rfl
 ·obtain⟨n,d,a⟩:=Zw (i:=SetTable.bits h%(7+1)) (Q1 h) c;obtain⟨k,e,b⟩:=Q2 7 n (SetTable.bits h%(7+1)) (SetTable.bits h);exact#[k,by unfold SetTable.turns;lia,by unfold pth;rw[b];exact a]
 ·obtain⟨n,d,a⟩:=Sb (i:=SetTable.bits h%(31+1)) (Q1 h) c;obtain⟨k,e,b⟩:=Q2 31 n (SetTable.bits h%(31+1)) (SetTable.bits h);exact#[k,by unfold SetTable.turns;lia,by unfold pth;rw[b];exact a]
def Fst (t:SetTable)(h:Int)(N:Nat):Prop:=pth t.mask h N∉t.place.toList/\∀n,n<N->pth t.mask h n∈t.place.toList
def BA_ (hm:Mk t.mask)(hs:t.place.size<t.mask+1)(h:Int):∃N,N+10<10*SetTable.turns t.mask/\Fst t h N:=by
 obtain⟨j,a,b⟩:=ZD hs;obtain⟨n,f,c⟩:=W0 hm h a;obtain⟨N,h1,h2,d⟩:=least (p:=λN=>pth t.mask h N∉t.place.toList) n (by rw[c];exact b);exact#[N,by lia,h2,λm hm=>j4_ λe=>d m hm e]
def go3 {t:SetTable}(g:Up t.place)(l:t.dummies = (List.toArray [])){h:Int}{N:Nat}(o:Fst t h N)(f:Nat->Int):∀(k n F:Nat),N-n=k->n<=N->k<F ->
  (SetTable.probe.go t f h F (prb t.mask h n)=some (.empty (pth t.mask h N) none)/\∀m,n<=m->m<N->∃i,t.place[i]?=some (pth t.mask h m)/\f i≠h) \/
  (∃m i,n<=m/\m<N/\t.slot (pth t.mask h m)=.live i/\t.place[i]?=some (pth t.mask h m)/\SetTable.probe.go t f h F (prb t.mask h n)=some (.candidate (pth t.mask h m) i (prb t.mask h (m+1)))/\∀c,n<=c->c<m->∃i,t.place[i]?=some (pth t.mask h c)/\f i≠h)
 |0,n,F,u,v,w=>by
  have e:n=N:=by lia
  subst e;obtain⟨d,rfl⟩:∃d,F=d+1:=#[F-1,by lia];left;refine#[?_,λm h1 h2=>by lia];unfold SetTable.probe.go;have:t.slot (prb t.mask h n).j=.empty:=by
   rcases Se g l (pth t.mask h n) with ⟨h1,_⟩|⟨_,h2⟩
   ·exact absurd h1 o.1
   ·exact h2
  rw[this];dsimp only;rw[Vj];rfl
 |k+1,n,F,u,v,w=>by
  obtain⟨d,rfl⟩:∃d,F=d+1:=#[F-1,by lia];have x:=o.2 n s!"";rcases Se g l (pth t.mask h n) with ⟨_,i,hi,r⟩|⟨h1,_⟩
  ·unfold SetTable.probe.go;rw[show t.slot (prb t.mask h n).j=.live i from hi];dsimp only;by_cases p:f i=h
   ·right;exact#[n,i,jf_ _,by lia,hi,r,by rw[if_pos (by simp[p]),Vi];rfl,λc h1 h2=>by lia]
   ·rw[if_neg (by simpa using p),Vi];have s:∀c,n<=c->c<n+1->∃i,t.place[i]?=some (pth t.mask h c)/\f i≠h:=λc h1 h2=>by
     have:c=n:=by lia
     subst this;exact#[i,r,p]
    rcases go3 g l o f k (n+1) d s!"" s!"" s!"" with ⟨h1,h2⟩|⟨m,y,h1,h2,z,A,B,C⟩
    ·exact .inl #[h1,λm a b=>by
      by_cases q:m<n+1
      ·exact s m a q
      ·exact h2 m s!"" b]
    ·exact .inr #[m,y,by lia,h2,z,A,B,λc a b=>by
      by_cases q:c<n+1
      ·exact s c a q
      ·exact C c s!"" b]
  ·exact absurd x h1
def go4 (b:Up t.place)(c:t.dummies = (List.toArray [])) (d:Fst t h N) (e:SetTable.probe.go t f h F (prb t.mask h n)=r)(g:N-n=k)(j:n<=N)(l:k<F):
  (r=some (.empty (pth t.mask h N) none)/\∀m,n<=m->m<N->∃i,t.place[i]?=some (pth t.mask h m)/\f i≠h) \/
  (∃m i,n<=m/\m<N/\t.slot (pth t.mask h m)=.live i/\t.place[i]?=some (pth t.mask h m)/\r=some (.candidate (pth t.mask h m) i (prb t.mask h (m+1)))/\∀a,n<=a->a<m->∃i,t.place[i]?=some (pth t.mask h a)/\f i≠h):=by
 rcases go3 b c d f k n F g j l with ⟨h1,h2⟩|⟨m,i,h1,h2,o,p,q,s⟩
 ·exact .inl #[e.symm.trans h1,h2]
 ·exact .inr #[m,i,h1,h2,o,p,e.symm.trans q,s]
section
variable {prog:Program} {w:World} {K:Type} [DecidableEq K] {knd:KeyKind prog w K}
variable {A:Around} {E:Value->Shared->Prop} {s:Shared}
structure Tb (knd:KeyKind prog w K)(B:Addr->Prop)(h:Heap)(a:Addr)(ks:List (List K))(o:Obj)(es:Array (Int×Value))(ep:Nat)(t:SetTable):Prop where
 ho:h.get? a=some o
 hx:o.ExactSet
 hd:o.data=.set es ep t
 hm:(t.mask=7/\es.size<5)\/(t.mask=31/\es.size<10)
 hz:t.dummies = (List.toArray [])
 hs:t.place.size=es.size
 up:Up t.place
 hn:es.size=ks.length
 nd:ks.Nodup
 he:∀(i:Nat) (e:Int×Value) (p:Nat),es[i]?=some e->t.place[i]?=some p->∃k b,k∈ks/\e.1=tupleKeyHash knd k/\e.2=.ref b/\IsTupleKey knd h k b/\B b/\∃n,p=pth t.mask e.1 n/\∀m,m<n->pth t.mask e.1 m∈t.place.toList
 al:∀k∈ks,∃(i:Nat) (e:Int×Value) (b:Addr),es[i]?=some e/\e.1=tupleKeyHash knd k/\e.2=.ref b/\IsTupleKey knd h k b
def Tb.mk2 {B:Addr->Prop} (I:Tb knd B h a ks o es ep t):Mk t.mask:=by
 rcases I.hm with ⟨h,_⟩|⟨h,_⟩
 ·exact .inl h
 ·exact .inr h
def Tb.room {B:Addr->Prop} (I:Tb knd B h a ks o es ep t):t.place.size<t.mask:=by
 rw[I.hs];rcases I.hm with ⟨h,_⟩|⟨h,_⟩<;>lia
def Tb.fit {B:Addr->Prop} (I:Tb knd B h a ks o es ep t):t.fits es.size=true:=by
 have:=I.room;unfold SetTable.fits SetTable.fill;rw[I.hz,I.hs];rw[I.hs]at this;simp;lia
def srch {B:Addr->Prop} (ar:A.units<cLine)(I:Tb knd B s.heap a ks o es ep t)(U:IsTupleKey knd s.heap k b) (aL:N+10<10*SetTable.turns t.mask)(V:Fst t (tupleKeyHash knd k) N)
  (as:k∉ks->Q (.free (pth t.mask (tupleKeyHash knd k) N) false) s) (h1:k∈ks->Q (.there none) s):∀(c n F:Nat) (st:Option SetTable.Probe),N-n=c->n<=N->c<F->st.getD (t.probeStart (tupleKeyHash knd k))=prb t.mask (tupleKeyHash knd k) n ->
  (k∈ks->∃(d i:Nat) (e:Int×Value) (W:Addr),n<=d/\d<N/\t.place[i]?=some (pth t.mask (tupleKeyHash knd k) d)/\es[i]?=some e/\e.1=tupleKeyHash knd k/\e.2=.ref W/\IsTupleKey knd s.heap k W) ->
  wpAny (model prog w) A (setSearchFrom a (.ref b) (tupleKeyHash knd k) true F st) Q E s:=by
 have X:∀{i:Nat} {e:Int×Value},es[i]?=some e->∀{f:Nat->Int},(f=λi=>((es[i]?.map (·.1)).getD 0))->f i=e.1:=λ{i e} g {f} r=>by rw[r];show (es[i]?.map _).getD 0=_;rw[g];rfl
 have G:∀{i j p:Nat},t.place[i]?=some p->t.place[j]?=some p->i=j:=λ{i j p} hi Y=>by
  have Z:=Up.iff.mp I.up;rcases Nat.lt_trichotomy i j with h|h|h
  ·have:=Z i j p p hi Y h;lia
  ·exact h
  ·have:=Z j i p p Y hi h;lia
 intro c
 induction c using qu with
 |_ c au=>
  intro n F st aa ab aM av ac;obtain⟨l,rfl⟩:∃l,F=l+1:=#[F-1,by lia];unfold setSearchFrom;refine jc_ (OB I.ho I.hd I.fit ?_);dsimp only;rw[if_neg (by unfold SetTable.gaveWay;rcases I.hm with ⟨h,_⟩|⟨h,_⟩<;>rw[h]<;>decide),av];unfold SetTable.probe;have ad:c<10*SetTable.turns t.mask:=by lia
  split
  case h_2 H=>
   have aw:∀{f:Nat->Int},(∀ae,SetTable.probe.go t f (tupleKeyHash knd k) (10*SetTable.turns t.mask) (prb t.mask (tupleKeyHash knd k) n)=some ae->False)->False:=λ{f} r=>by
    rcases go3 I.up I.hz V f c n _ aa ab ad with ⟨e,_⟩|⟨m,i,h1,h2,af,aN,e,_⟩
    ·exact r _ e
    ·exact r _ e
   exact (aw H).elim
  rename_i ae H
  rcases go4 I.up I.hz V H aa ab ad with ⟨e,J⟩|⟨m,i,aO,h2,af,K,e,J⟩
  ·cases e;refine jl_ (as λL=>?_);obtain⟨d,ag,ah,ai,M,ax,aj,q,u,_⟩:=ac L;obtain⟨ay,O,P⟩:=J d M ax;have:=G O aj;subst this;exact P ((X q rfl).trans u)
  ·cases e;dsimp only;have hi:i<es.size:=by rw[<-I.hs];exact (jS_.mp K).1
   have v:es[i]?=some es[i]:=jV_ hi;obtain⟨k',aP,M,aj,q,u,_⟩:=I.he i es[i] _ v K;have rest:wpAny (model prog w) A (do
     let some (_,y):=es[i]? | unsupported "internal:set-entry"
     let ak <- holding [y] (eqBool y (.ref b))
     let (az,_,al) <- setState a
     if true&&ak then return .there none
     let some aA:=al.sameMemory t.moves t.mask|unsupported "set.changed-during-lookup:is-the-new-block-at-the-old-address"
     let aB <- match (if aA then al.slot (pth t.mask (tupleKeyHash knd k) m) else .empty) with
      |.live x=>match az[x]? with
       |some (_,aC)=>do pure (if <- isSame aC y then some x else none)
       |none=>pure none
      |_=>pure none
     match aB with
     |none=>rule "set.search.anew";setSearchFrom a (.ref b) (tupleKeyHash knd k) true l none
     |some x=>if ak then return .there (some x) else setSearchFrom a (.ref b) (tupleKeyHash knd k) true l (some (prb t.mask (tupleKeyHash knd k) (m+1)))) Q E s:=by
    rw[v];dsimp only;rw[q];refine jc_ (qq_ (wpAny_eqBool_tuple ar u U ?_));by_cases z:k'=k
    ·rw[jH_ z];refine jc_ (OB I.ho I.hd I.fit ?_);simp only[Bool.and_true,x1_];exact jl_ (h1 (z ▸ M))
    ·rw[jQ_ z];refine jc_ (OB I.ho I.hd I.fit ?_);simp only[rW,j2_,qM_];have aD:t.sameMemory t.moves t.mask=some true:=by unfold SetTable.sameMemory;simp
     rw[aD];dsimp only;rw[if_pos rfl,af];dsimp only;rw[v];dsimp only;rw[q];refine jc_ (wpAny_isSame_ref_self (jc_ (jl_ ?_)));simp only[x1_];refine au (N-(m+1)) s!"" (m+1) l _ rfl s!"" s!"" rfl λL=>?_;obtain⟨d,ag,ah,ai,aE,aF,R,C,am,S,an⟩:=ac L;refine#[d,ag,ah,ai,?_,aF,R,C,am,S,an];refine j4_ λaQ=>?_;rcases zg_ d m with ao|aR
     ·obtain⟨ay,O,P⟩:=J d aE ao;have:=G O R;subst this;exact P ((X C rfl).trans am)
     ·have:d=m:=by lia
      subst this;have:=G K R;subst this;rw[v]at C;cases C;rw[q]at S;cases S;exact z (u.inj an)
   cases ao:t.led with
   |true=>
    simp only[zS_,j2_,qM_];exact rest
   |false=>
    simp only[rZ,x1_];refine jc_ (Zy U _ (λy aG=>?_) ?_)
    ·obtain⟨e,g,rfl⟩:=jp_.mp aG;rw[Array.toList_filter]at g;have g:=(qO_.mp g).1;obtain⟨D,T,ap⟩:=j3_ g;rw[jL_]at T;rw[x4_]at ap;have aH:D<t.place.size:=by rw[I.hs];exact T
     obtain⟨aI,aJ,_,_,aq,aK,_⟩:=I.he D es[D] t.place[D] (jV_ T) (jV_ aH);rw[ap]at aq;exact#[aI,aJ,aq,aK]
    ·simp only[j2_,qM_];exact rest
def Tb.to {B:Addr->Prop} (I:Tb knd B h a ks o es ep t) (g:Fst t (tupleKeyHash knd k) N)(j:k∈ks):∃(c i:Nat) (e:Int×Value) (d:Addr),0<=c/\c<N/\t.place[i]?=some (pth t.mask (tupleKeyHash knd k) c)/\es[i]?=some e/\e.1=tupleKeyHash knd k/\e.2=.ref d/\IsTupleKey knd h k d:=by
 obtain⟨i,e,b,h1,h2,l,m⟩:=I.al k j;have hi:i<t.place.size:=by rw[I.hs];exact (jS_.mp h1).1
 obtain⟨k',d,_,_,_,_,_,n,f,hm⟩:=I.he i e t.place[i] h1 (jV_ hi);rw[h2]at f hm;refine#[n,i,e,b,j8_ _,?_,by rw[jV_ hi,f],h1,h2,l,m];refine j4_ λq=>g.1 ?_;rcases zg_ N n with p|r
 ·exact hm N p
 ·have:n=N:=by lia
  rw[<-this,<-f];exact pN hi
end
end TS
end PySem
namespace PySem
namespace TS
def BB_ (h:p.j+p.more<=m):(adv m p).j+(adv m p).more<=m:=by
 unfold adv;split
 ·dsimp only;lia
 ·dsimp only;have h1:(SetTable.leap m p.i p.perturb).1<m+1:=rY _ (rA _);generalize (SetTable.leap m p.i p.perturb).1=i at h1;unfold SetTable.runEnd;split<;>lia
def Vk {m:Nat}:∀(n:Nat) {p:SetTable.Probe},p.j+p.more<=m->(advs m n p).j+(advs m n p).more<=m
 |0,p,h=>h
 |n+1,p,h=>Vk n (BB_ h)
def BC_ (m:Nat)(h:Int)(n:Nat):pth m h n<m+1:=by
 have:=Vk (m:=m) n (p:=stt m (SetTable.bits h%(m+1)) (SetTable.bits h)) (by
  unfold stt;dsimp only;have h1:SetTable.bits h%(m+1)<m+1:=rY _ (rA _);generalize SetTable.bits h%(m+1)=i at h1;unfold SetTable.runEnd;split<;>lia)
 unfold pth;lia
noncomputable def ow (o:Array (Option Nat))(j:Nat):Option Nat:=o.getD j none
def ZE (hs:o.size=32) (b:j<32)(h:(o.getD j (some 0)).isNone=false):∃k,ow o j=some k:=by
 have a:j<o.size:=by lia
 unfold ow;unfold qh at h ⊢;rw[dif_pos a]at h ⊢;cases e:o[j] with
 |none=>rw[show o.getInternal j a=o[j] from rfl,e]at h;cases h
 |some k=>exact#[k,e]
structure Ly (o:Array (Option Nat))(hs:α2)(m:Nat):Prop where
 sz:o.size=32
 ct:cnt o=m
 at':∀j k,ow o j=some k->k<m/\∃h n,hs[k]?=some h/\j=pth 31 h n/\∀m',m'<n->∃k',ow o (pth 31 h m')=some k'
 al:∀k,k<m->∃j,ow o j=some k
def Vl (a:j<o.size)(k i:Nat):ow (o.setIfInBounds j (some k)) i=if i=j then some k else ow o i:=by
 unfold ow;rw[qQ_,qQ_,Array.getElem?_setIfInBounds];by_cases h:j=i
 ·subst h;rw[if_pos rfl,if_pos rfl,if_pos a];rfl
 ·rw[if_neg h,if_neg (qs_ h)]
def Vm (a:α2):∀(hs:α2) (o:Array (Option Nat)) (m:Nat),Ly o a m->(∀i h,hs[i]?=some h->a[m+i]?=some h)->m+hs.length<=5 ->
  ∃o',hs.foldl (λacc h=>do
   let (owner,k) <- acc
   let j <- SetTable.layClean.free 31 owner (SetTable.turns 31) (SetTable.bits h%(31+1)) (SetTable.bits h)
   pure (owner.setIfInBounds j (some k),k+1)) (some (o,m))=some (o',m+hs.length)/\Ly o' a (m+hs.length)
 |[],o,m,L,_,_=>#[o,rfl,L]
 |h::hs,o,m,L,q,hm=>by
  rw[jG_]at hm;obtain⟨j,s,t⟩:=WZ L.sz (by have:=L.ct;lia);obtain⟨n,I,u⟩:=Sb (i:=SetTable.bits h%(31+1)) (Q1 h) s;obtain⟨b,r,f'⟩:=Vb (o:=o) (SetTable.turns 31) n (SetTable.bits h%(31+1)) (SetTable.bits h) (by unfold SetTable.turns;lia) (by rw[u];exact t);obtain⟨np,v,p2,w⟩:=Qk _ _ _ _ r;obtain⟨d,x⟩:=Qf f';have y:ow o b=none:=by unfold ow qh;rw[dif_pos d];exact x
  have f:∀{i k:Nat},ow o i=some k->ow (o.setIfInBounds b (some m)) i=some k:=λ{i k} h=>by
   rw[Vl d,if_neg (λz=>by rw[z,y]at h;cases h)];exact h
  have A:Ly (o.setIfInBounds b (some m)) a (m+1):=#[by rw[Array.size_setIfInBounds];exact L.sz,by rw[Zx f',L.ct],λi k c=>by
   rw[Vl d]at c;by_cases g:i=b
   ·rw[if_pos g]at c;cases c;refine#[by lia,h,np,by have:=q 0 h rfl;simpa using this,by rw[g];exact v,λe l=>?_];obtain⟨k',p⟩:=ZE L.sz (BC_ 31 h e) (w e l);exact#[k',f p]
   ·rw[if_neg g]at c;obtain⟨h1,h',B,C,D,E⟩:=L.at' i k c;exact#[by lia,h',B,C,D,λe l=>let ⟨k',p⟩:=E e l;#[k',f p]],λk J=>by
   by_cases F:k<m
   ·obtain⟨i,hi⟩:=L.al k F;exact#[i,f hi]
   ·have:k=m:=by lia
    subst this;exact#[b,by rw[Vl d,if_pos rfl]]]
  obtain⟨o',G,H⟩:=Vm a hs _ _ A (λi h' hi=>by have:=q (i+1) h' (by simpa using hi);rw[show m+1+i=m+(i+1) by lia];exact this) s!"";exists o',?_
  ·rw[xf_];show uo _ (do let j <- SetTable.layClean.free 31 o (SetTable.turns 31) (SetTable.bits h%(31+1)) (SetTable.bits h);pure (o.setIfInBounds j (some m),m+1)) hs=_;rw[r];refine Eq.trans G ?_;rw[show m+1+hs.length=m+(h::hs).length by rw[jG_];lia]
  ·rw[show m+(h::hs).length=m+1+hs.length by rw[jG_];lia];exact H
def W2 (c:α2):Ly (rS (31+1) none) c 0:=by
 obtain⟨a,b,_⟩:=Vc;refine#[a,b,λj k h=>?_,λk d=>absurd d (q1_ _)];unfold ow at h;rw[qQ_,Array.getElem?_replicate]at h;split at h<;>cases h
noncomputable def livs (o:Array (Option Nat)):List (Nat×Nat):=(oN (31+1)).filterMap λj=>(o.getD j none).map λx=>(j,x)
def OE (hs:o.size=32) : (j,k)∈livs o↔ow o j=some k:=by
 unfold livs;rw[zk_];constructor
 ·rintro⟨c,_,e⟩;obtain⟨x,a,b⟩:=qc_.mp e;cases b;exact a
 ·intro h;refine#[j,jU_.mpr ?_,by rw[show o.getD j none=some k from h];rfl];refine j4_ λd=>?_;unfold ow at h;rw[qQ_,qd s!""]at h;cases h
def ZF (o:Array (Option Nat)):(livs o).Pairwise λa b=>a.1<b.1:=by
 unfold livs;refine tK _ (λa e h b c f d=>?_) List.pairwise_lt_range;obtain⟨x,_,rfl⟩:=qc_.mp c;obtain⟨y,_,rfl⟩:=qc_.mp d;exact h
def ZG {t:SetTable}{hs:Array Int}{n:Nat}(h:hs.size<=5)(hw:SetTable.sizeAbove n=32):∃t' c,t.relaid hs n=some (t',c)/\t'.place.size=hs.size/\t'.dummies = (List.toArray [])/\t'.mask=31/\Up t'.place/\c.size=hs.size /\
  (∀(i k p:Nat),c[i]?=some k->t'.place[i]?=some p->∃g n,hs[k]?=some g/\p=pth 31 g n/\∀m,m<n->pth 31 g m∈t'.place.toList)/\∀k,k<hs.size->∃i:Nat,c[i]?=some k:=by
 obtain⟨o,r,L⟩:=Vm hs.toList hs.toList _ 0 (W2 hs.toList) (λi h hi=>by rw[z1_];exact hi) (by rw[jL_];lia);rw[z1_,jL_]at r L;have e:SetTable.layClean 31 hs=some o:=by
  unfold SetTable.layClean;rw[<-Array.foldl_toList];rw[show (uo _ _ hs.toList)=some (o,hs.size) from r];rfl
 have s:(livs o).length=hs.size:=by
  obtain⟨w,_⟩:=Vd o.toList 0;have z:livs o=(oY 0 o.toList.length).filterMap λj=>((o.toList[j-0]?).getD none).map λk=>(j,k):=by
   unfold livs;rw[jL_,L.sz,List.range_eq_range'];refine fmc λj d=>?_;rw[zh_,jZ_,qQ_]
  rw[z,w];exact L.ct
 unfold SetTable.relaid;rw[hw];unfold SetTable.laid;rw[show (32:Nat)-1=31 from rfl,e];exists _,_,rfl;dsimp only;show ((livs o).map (·.1)).toArray.size=_/\_/\_/\Up ((livs o).map (·.1)).toArray/\((livs o).map (·.2)).toArray.size=_/\(∀(i k p:Nat),((livs o).map (·.2)).toArray[i]?=some k->((livs o).map (·.1)).toArray[i]?=some p->∃g n,hs[k]?=some g/\p=pth 31 g n/\∀m,m<n->pth 31 g m∈(((livs o).map (·.1)).toArray).toList)/\∀k,k<hs.size->∃i:Nat,((livs o).map (·.2)).toArray[i]?=some k;refine#[by rw[jm_,ja_,s],rfl,rfl,?_,by rw[jm_,ja_,s],λi k p f q=>?_,λk f=>?_]
 ·rw[Up.iff];intro i j a b u v A;rw[zJ_,jh_]at u v;obtain⟨x,l,rfl⟩:=qc_.mp u;obtain⟨y,B,rfl⟩:=qc_.mp v;obtain⟨hi,rfl⟩:=jb_.mp l;obtain⟨d,rfl⟩:=jb_.mp B;exact xp_.mp (ZF o) i j hi d A
 ·rw[zJ_,jh_]at f q;obtain⟨x,l,rfl⟩:=qc_.mp f;rw[l]at q;cases q;have hm:(x.1,x.2)∈livs o:=je_ l;obtain⟨_,g,n,C,D,E⟩:=L.at' _ _ ((OE L.sz).mp hm);refine#[g,n,by rw[<-jZ_];exact C,D,λm F=>?_];obtain⟨k',G⟩:=E m F;exact jp_.mpr #[_,(OE L.sz).mpr G,rfl]
 ·obtain⟨j,d⟩:=L.al k f;obtain⟨i,hi⟩:=jN_.mp ((OE L.sz).mpr d);exact#[i,by rw[zJ_,jh_,hi];rfl]
def Vn {es:Array (Int×Value)}{a:Array Nat}(h:∀i∈a.toList,i<es.size)(i:Nat):(a.filterMap (es[·]?))[i]?=(a[i]?).bind (es[·]?):=by
 rw[<-jZ_,qj,<-jZ_];generalize a.toList=l at h
 induction l generalizing i with
 |nil=>rfl
 |cons x r d=>
  have c:=h x jt_;rw[pM (b:=es[x]) (by simp[c])];cases i with
  |zero=>simp[c]
  |succ i=>
   rw[xb_,xb_];exact d i (λj e=>h j (jo_ _ e))
end TS
end PySem
namespace PySem
namespace TS
section
variable {prog:Program} {w:World} {K:Type} [DecidableEq K] {knd:KeyKind prog w K}
variable {A:Around} {E:Value->Shared->Prop} {s:Shared}
structure En (knd:KeyKind prog w K)(B:Addr->Prop)(h:Heap)(ks:List (List K))(es:Array (Int×Value)):Prop where
 hn:es.size=ks.length
 he:∀(i:Nat) (e:Int×Value),es[i]?=some e->∃k b,k∈ks/\e.1=tupleKeyHash knd k/\e.2=.ref b/\IsTupleKey knd h k b/\B b
 al:∀k∈ks,∃(i:Nat) (e:Int×Value) (b:Addr),es[i]?=some e/\e.1=tupleKeyHash knd k/\e.2=.ref b/\IsTupleKey knd h k b
def Pa (t:SetTable)(es:Array (Int×Value)):Prop:=∀(i:Nat) (e:Int×Value) (p:Nat),es[i]?=some e->t.place[i]?=some p->∃n,p=pth t.mask e.1 n/\∀m,m<n->pth t.mask e.1 m∈t.place.toList
def Tb.en {B:Addr->Prop} (I:Tb knd B h a ks o es ep t):En knd B h ks es/\Pa t es:=by
 refine#[#[I.hn,λi e c=>?_,I.al],λi e p c d=>?_]
 ·have hi:i<t.place.size:=by rw[I.hs];exact (jS_.mp c).1
  obtain⟨k,b,h1,h2,f,g,j,_⟩:=I.he i e _ c (jV_ hi);exact#[k,b,h1,h2,f,g,j]
 ·obtain⟨k,b,_,_,_,_,_,l⟩:=I.he i e p c d;exact l
def Tb.of {B:Addr->Prop} (f:h.get? a=some o)(g:o.ExactSet)(j:o.data=.set es ep t)(hm:(t.mask=7/\es.size<5)\/(t.mask=31/\es.size<10))(hz:t.dummies = (List.toArray []))(hs:t.place.size=es.size)(l:Up t.place)(m:ks.Nodup)(c:En knd B h ks es)(n:Pa t es):Tb knd B h a ks o es ep t:=
 #[f,g,j,hm,hz,hs,l,c.hn,m,λi e p d q=>by
  obtain⟨k,b,h1,h2,r,s,u⟩:=c.he i e d;exact#[k,b,h1,h2,r,s,u,n i e p d q],c.al]
def En.heap {B:Addr->Prop} (a:En knd B h ks es)(f:∀k b,IsTupleKey knd h k b->IsTupleKey knd h' k b):En knd B h' ks es:=
 #[a.hn,λi e g=>let ⟨k,b,h1,h2,c,d,j⟩:=a.he i e g;#[k,b,h1,h2,c,f _ _ d,j],λk l=>let ⟨i,e,b,h1,h2,c,d⟩:=a.al k l;#[i,e,b,h1,h2,c,f _ _ d]]
def En.ins {B:Addr->Prop}{h:Heap}{ks:List (List K)}{es:Array (Int×Value)}(g:En knd B h ks es){p:Nat}(f:p<=es.size){k:List K}{b:Addr}(j:IsTupleKey knd h k b)(m:B b):En knd B h (ks++[k]) (SetTable.insertAt es p (tupleKeyHash knd k,.ref b)):=by
 refine#[by rw[DW,g.hn,jk_];rfl,λi e a=>?_,λk' d=>?_]
 ·rw[B0 _ _ f]at a;have l:∀i,es[i]?=some e->∃k' c,k'∈ks++[k]/\e.1=tupleKeyHash knd k'/\e.2=.ref c/\IsTupleKey knd h k' c/\B c:=λi a=>by
   obtain⟨k',c,h1,h2⟩:=g.he i e a;exact#[k',c,jY_ _ h1,h2]
  split at a
  ·exact l _ a
  ·split at a
   ·cases a;exact#[k,b,by simp,rfl,rfl,j,m]
   ·exact l _ a
 ·rcases jr_.mp d with d | d
  ·obtain⟨i,e,c,h1,h2⟩:=g.al k' d;by_cases hi:i<p
   ·exact#[i,e,c,by rw[B0 _ _ f,if_pos hi];exact h1,h2]
   ·exact#[i+1,e,c,by rw[B0 _ _ f,if_neg s!"",if_neg s!"",Nat.add_sub_cancel];exact h1,h2]
  ·rw[jd_.mp d];exact#[p,_,b,by rw[B0 _ _ f,if_neg s!"",if_pos rfl],rfl,rfl,j]
def Pa.ins {t:SetTable}{es:Array (Int×Value)}(q:Pa t es)(hs:t.place.size=es.size)(r:Up t.place){h:Int}{x:Value}{N:Nat}(s:Fst t h N){t':SetTable}(hm:t'.mask=t.mask)(g:t'.place=SetTable.insertAt t.place (SetTable.below t.place (pth t.mask h N)) (pth t.mask h N)):Pa t' (SetTable.insertAt es (SetTable.below t.place (pth t.mask h N)) (h,x)):=by
 have k:=(OD r (pth t.mask h N)).1;have l:∀j,j∈t.place.toList->j∈t'.place.toList:=λj u=>by rw[g];exact ZC.mpr (.inl u)
 intro i e p d c;rw[g]at c;rw[B0 _ _ (by rw[<-hs];exact k)]at d;rw[B0 _ _ k]at c;have o:∀i,es[i]?=some e->t.place[i]?=some p->∃n,p=pth t'.mask e.1 n/\∀m,m<n->pth t'.mask e.1 m∈t'.place.toList:=λi a b=>by
  obtain⟨n,h1,h2⟩:=q i e p a b;rw[hm];exact#[n,h1,λm f=>l _ (h2 m f)]
 by_cases h1:i<SetTable.below t.place (pth t.mask h N)
 ·rw[if_pos h1]at d c;exact o i d c
 ·rw[if_neg h1]at d c;by_cases h2:i=SetTable.below t.place (pth t.mask h N)
  ·rw[if_pos h2]at d c;cases d;cases c;rw[hm];exact#[N,rfl,λm f=>l _ (s.2 m f)]
  ·rw[if_neg h2]at d c;exact o _ d c
def addB {B:Addr->Prop} (ao:A.units<cLine)(ap:B b)(I:Tb knd B s.heap a ks o es ep t)(aO:es.size<8)(S:IsTupleKey knd s.heap k b)
  (h1:k∈ks->Q false s)
  (K:k∉ks->∀h',Heap.SameBut a s.heap h'->(∃o' es' aq t',Tb knd B h' a (ks++[k]) o' es' aq t')->Q true {s with heap:=h' }):
  wpAny (model prog w) A (setAddHashed a (.ref b) (tupleKeyHash knd k)) Q E s:=by
 have aP:=I.hn;obtain⟨N,ar,L⟩:=BA_ I.mk2 (by have:=I.room;lia) (tupleKeyHash knd k);unfold setAddHashed setAddHashedIn;refine qq_ (jc_ (zx_ I.ho I.hd I.fit ?_));dsimp only;rw[if_neg (by unfold byScan Value.scannable;simp)];have aQ:SetTable.turns t.mask<=1000:=by unfold SetTable.turns;rcases I.hm with ⟨h,_⟩|⟨h,_⟩<;>lia
 refine jc_ (srch ao I S ar L (λab=>?_) (λT=>jl_ (h1 T)) N 0 100000 none s!"" s!"" s!"" (by rw[pR];exact Vh t _) (λT=>I.to L T));have K:=K ab;dsimp only;refine jc_ (zx_ I.ho I.hd I.fit ?_);dsimp only;obtain⟨p,C⟩:∃p,p=SetTable.below t.place (pth t.mask (tupleKeyHash knd k) N):=#[_,rfl];have as:p<=es.size:=by rw[C,<-I.hs];exact WY _ _
 have au:t.put (pth t.mask (tupleKeyHash knd k) N)=({t with place:=SetTable.insertAt t.place p (pth t.mask (tupleKeyHash knd k) N),dummies := (List.toArray [])},p):=by
  unfold SetTable.put;dsimp only;rw[<-C,I.hz];rfl
 rw[au];dsimp only;obtain⟨av,aw⟩:=I.en;have l:(SetTable.insertAt es p (tupleKeyHash knd k,Value.ref b)).size=ks.length+1:=by rw[DW,I.hn]
 have ac:(ks++[k]).Nodup:=by
  rw[qm_];exact#[I.nd,by simp,λx ad y ax ae=>by rw[jd_.mp ax]at ae;rw[ae]at ad;exact ab ad]
 have U:∀M:Bool,wpAny (model prog w) A (do
   storeSet a (SetTable.insertAt es p (tupleKeyHash knd k,Value.ref b)) ({t with place:=SetTable.insertAt t.place p (pth t.mask (tupleKeyHash knd k) N),dummies := (List.toArray []),plain:=M})
   if !false&&({t with place:=SetTable.insertAt t.place p (pth t.mask (tupleKeyHash knd k) N),dummies := (List.toArray []),plain:=M}:SetTable).tooFull then setRelay a (SetTable.grown (es.size+1))
   return true) Q E s:=λM=>by
  obtain⟨d,D⟩:∃d:SetTable,d={t with place:=SetTable.insertAt t.place p (pth t.mask (tupleKeyHash knd k) N),dummies := (List.toArray []),plain:=M}:=#[_,rfl];obtain⟨c,z⟩:∃c,c=SetTable.insertAt es p (tupleKeyHash knd k,Value.ref b):=#[_,rfl];rw[<-D,<-z];rw[<-z]at l;have F:d.mask=t.mask:=by rw[D]
  have af:d.dummies = (List.toArray []):=by rw[D]
  have O:d.place=SetTable.insertAt t.place p (pth t.mask (tupleKeyHash knd k) N):=by rw[D]
  have V:d.place.size=c.size:=by rw[O,z,DW,DW,I.hs]
  have ay:Up d.place:=by rw[O,C];exact I.up.ins L.1
  have ag:En knd B s.heap (ks++[k]) c:=by rw[z];exact av.ins as S ap
  have az:Pa d c:=by rw[z,C];exact aw.ins I.hs I.up L F (by rw[O,C])
  clear D z O;refine jc_ (wpAny_storeSet_of I.ho I.hd ?_ (by rw[l];have:=zU_;lia));have G:=stored (es':=c) (t':=d) I.ho I.hd;have W:=xe_ s.heap a (Obj.putSet c d);have ah:∀k' m,IsTupleKey knd s.heap k' m->IsTupleKey knd (s.heap.update a (Obj.putSet c d)) k' m:=λk' m h=>Qg h I.ho I.hd W;have X:d.fill=ks.length+1:=by unfold SetTable.fill;rw[af,V,l];rfl
  have aA:d.fits c.size=true:=by
   unfold SetTable.fits;rw[X,V,F];have:=I.room;rw[I.hs]at this;simp;lia
  by_cases f:d.tooFull=true
  ·rw[if_pos (by rw[f];rfl)];have aB:t.mask=7/\es.size+1=5:=by
    have f:=j0_ f;rw[X,F]at f;rcases I.hm with ⟨h,Y⟩|⟨h,Y⟩
    ·rw[h]at f;exact#[h,by lia]
    ·rw[h]at f;lia
   refine jc_ ?_;unfold setRelay;refine jc_ (zx_ G rfl aA ?_);dsimp only;have aC:SetTable.grown (es.size+1)=20:=by rw[aB.2];rfl
   rw[aC,if_neg (by rw[YG];have:=zU_;lia)];obtain⟨t',P,aD,Z,aE,ai,aF,u,aj,ak⟩:=ZG (t:=d) (hs:=c.map (·.1)) (n:=20) (by rw[qJ,l];lia) YG;rw[qJ]at Z u ak;have R:∀i∈P.toList,i<c.size:=λi hi=>by
    obtain⟨j,v⟩:=jN_.mp hi;rw[jZ_]at v;have aG:j<t'.place.size:=by rw[Z,<-u];exact (jS_.mp v).1
    obtain⟨g,n,h1,_⟩:=aj j i _ v (jV_ aG);have:=(jS_.mp h1).1;rw[qJ]at this;exact this
   have H:=Nf (es:=c) R;refine jc_ ?_;rw[aD];show wpAny _ _ (if ((P.filterMap (c[·]?)).size != _)=true then _ else _) _ _ _;rw[if_neg (by rw[H,u];simp)];refine jl_ ?_;dsimp only;refine wpAny_storeSet_of (s:={s with heap:=_}) G rfl ?_ (by rw[H,u,l];have:=zU_;lia);have aH:=stored (s:={s with heap:=s.heap.update a (Obj.putSet c d)}) (es':=P.filterMap (c[·]?)) (t':=t') G rfl;have am:=xe_ (s.heap.update a (Obj.putSet c d)) a (Obj.putSet (P.filterMap (c[·]?)) t');refine jl_ (K _ (W.trans am) #[_,_,_,_,Tb.of aH I.hx rfl (.inr #[ai,by rw[H,u,l];lia]) aE (by rw[Z,H,u]) aF ac ?_ ?_])
   ·have aa:=ag.heap (λk' m h=>Qg (ah k' m h) G rfl am);refine#[by rw[H,u,aa.hn],λi e J=>?_,λk' aI=>?_]
    ·rw[Vn R]at J;obtain⟨j,_,v⟩:=Option.bind_eq_some_iff.mp J;exact aa.he j e v
    ·obtain⟨j,e,m,h1,h2⟩:=aa.al k' aI;obtain⟨i,hi⟩:=ak j (jS_.mp h1).1;exact#[i,e,m,by rw[Vn R,hi];exact h1,h2]
   ·intro i e q J aJ;rw[Vn R]at J;obtain⟨j,v,aK⟩:=Option.bind_eq_some_iff.mp J;obtain⟨g,n,an,aL,aM⟩:=aj i j q v aJ;rw[Array.getElem?_map,aK]at an;cases an;rw[ai];exact#[n,aL,aM]
  ·rw[if_neg (by simpa using f)];have aN:c.size=es.size+1:=by rw[l,I.hn]
   refine jl_ (K _ W #[_,_,_,_,Tb.of G I.hx rfl ?_ af V ay ac (ag.heap ah) az]);rw[F,aN];rcases I.hm with ⟨h,Y⟩|⟨h,Y⟩
   ·refine .inl #[h,?_];refine j4_ λaR=>f (jH_ ?_);rw[X,F,h];lia
   ·exact .inr #[h,by lia]
 cases aS:t.plain with
 |true=>
  simp only[x1_];refine jc_ (Te S λr=>?_);cases r with
  |true=>exact U true
  |false=>exact U false
 |false=>
  simp only[j2_,qM_];refine jc_ (jl_ ?_);exact U false
end
end TS
end PySem
namespace PySem
namespace TS
section
variable {prog:Program} {w:World} {K:Type} [DecidableEq K] {knd:KeyKind prog w K}
def HasB (knd:KeyKind prog w K)(keys:List (List K))(bs:List Addr)(S:Addr)(i:Nat)(h:Heap):Prop:=
 ∃a o es ep t,Tb knd (· ∈ bs) h S a o es ep t/\(∀x,x∈a↔x∈keys.take i)/\a.length<=i
def HasB.keep (x:HasB knd keys bs S i h)(e:∀b∈bs,∀o,h.get? b=some o->h'.get? b=some o)(m:∀o,h.get? S=some o->h'.get? S=some o):HasB knd keys bs S i h':=by
 obtain⟨n,o,es,ep,t,I,h1,h2⟩:=x;refine#[n,o,es,ep,t,#[m _ I.ho,I.hx,I.hd,I.hm,I.hz,I.hs,I.up,I.hn,I.nd,λi c p q r=>?_,λk s=>?_],h1,h2]
 ·obtain⟨k,b,a,f,d,g,j,u⟩:=I.he i c p q r;exact#[k,b,a,f,d,Zz g (e b j),j,u]
 ·obtain⟨i,c,b,a,f,d,g⟩:=I.al k s;have hi:i<t.place.size:=by rw[I.hs];exact (jS_.mp a).1
  obtain⟨_,w,_,_,l,_,v,_⟩:=I.he i c _ a (jV_ hi);rw[d]at l;cases l;exact#[i,c,b,a,f,d,Zz g (e b v)]
def HasB.cnt (x:HasB knd keys bs S i h):∃ks:List (List K),ks.Nodup/\(∀x,x∈ks↔x∈keys.take i)/\Cnt h S ks.length:=by
 obtain⟨ks,o,es,ep,t,I,h1,h2⟩:=x;exact#[ks,I.nd,h1,o,es,ep,t,I.ho,I.hx,I.hd,I.fit,I.hn]
def hasB0 (a:h.get? S=some {cls:=.type "set",dict:=none,data:=.set (List.toArray []) 0 (.fresh 0 0 led)}):HasB knd keys bs S 0 h:=
 #[[],_,_,_,_,#[a,#[rfl,rfl,rfl],rfl,.inl #[rfl,by show 0<5;lia],rfl,rfl,λi j hi=>absurd hi (q1_ _),rfl,pq,λi e p b=>by simp at b,λk c=>by cases c],λx=>by simp,jf_ _]
variable {A:Around} {R:Result->Shared->Prop} {I:Addr} {fp wr:List Addr} {G:Array GenState->Array GenState->Prop} {n:Nat} {P:Nat->Value->Prop} {St:Nat->Shared->Prop}
def loopB (W:WalksS prog w A.in1 I fp wr G n P St)(S:Addr)(c:S∉fp)(d:A.in1.units<cLine) (D:∀i v,P i v->∃b,bs[i]?=some b/\v=.ref b)(f:keys.length=n)(ab:n<=7)(hw:∀b∈bs,b∉wr/\b≠S)
  (s:Shared) (st:St 0 s) (F:Ks knd keys bs s.heap) (H:HasB knd keys bs S 0 s.heap) (L:∀s' (ks:List (List K)),Moved (S::wr) G s s'->ks.Nodup->(∀x,x∈ks↔x∈keys)->Cnt s'.heap S ks.length->R (.ok (.ret .none)) s'):
  codeAny (model prog w) A (.builtin "set.update.loop" #[[.ref S,.ref I],[]]) R s:=by
 refine Sd W S c (λi h=>Ks knd keys bs h/\HasB knd keys bs S i h) (λx e=>#[x.1.keep λb m u g=>e b u (hw b m).1 g,x.2.keep (λb m u g=>e b u (hw b m).1 g) λu g=>e S u (λm=>c (W.sub _ m)) g]) (λ{i v t Q E} M p x k=>?_) 0 s (j8_ _) st #[F,H] λN m x=>?_
 ·obtain⟨b,j,rfl⟩:=D i v p;have l:i<keys.length:=f ▸ M;have q:=x.1.2 i keys[i] b (jg_ l) j;obtain⟨ks,o,es,ep,tb,J,a,ac⟩:=x.2;have r:keys.take (i+1)=keys.take i++[keys[i]]:=(List.take_append_getElem l).symm;unfold setAdd;refine qq_ (jc_ (wpAny_pyHash_tuple d q (addB (s:={t with toks:=t.toks+(keys[i].length+1)}) d (je_ j) J (by rw[J.hn];lia) q (λO=>?_) λad h' B T=>?_)))
  ·refine k _ t.heap _ #[x.1,ks,o,es,ep,tb,J,λy=>?_,by lia] (Heap.SameBut.refl S t.heap);rw[r,jr_,jd_,a];exact#[.inl,λz=>z.elim id λz=>z ▸ (a _).mp O]
  ·obtain⟨o',U,V,X,Y⟩:=T;refine k _ h' _ #[x.1.keep λb m u g=>(B.2 b (hw b m).2).trans g,_,o',U,V,X,Y,λy=>?_,by rw[jk_,jB_];lia] B;rw[r,jr_,jr_,a]
 ·obtain⟨ks,Z,C,aa⟩:=x.2.cnt;rw[<-f,jz_]at C;exact L N ks m Z C aa
end
end TS
end PySem
namespace PySem
section
variable {prog:Program} {w:World} {A:Around} {E:Value->Shared->Prop} {s:Shared}
def call_set_tupsB {K:Type}[DecidableEq K]{knd:KeyKind prog w K}{l:Addr}{items:Array Value}{keys:List (List K)}{bs:List Addr}{Q:Value->Shared->Prop}
  (d:A.handled=none) (a:s.heap.IsList l items) (F:A.units+10<cLine) (c:TS.Ks knd keys bs s.heap) (hi:items=(bs.map Value.ref).toArray) (i:items.size<=7)
  (h:∀(h':Heap) (j:Nat),(∃ks:List (List K),ks.Nodup/\(∀x,x∈ks↔x∈keys)/\TS.Cnt h' s.heap.objs.size ks.length) ->
   (∀b o,b<s.heap.objs.size->s.heap.get? b=some o->h'.get? b=some o)->Q (.ref s.heap.objs.size) {s with heap:=h',toks:=j}):
  wpAny (model prog w) A (call (.type "set") [.ref l]) Q E s:=by
 refine TS.set_open d a λled=>?_;obtain⟨G,k,_⟩:=id a;have f:=jv_ k;have n:l≠(s.heap.push (TS.set0 led)).objs.size:=by rw[qZ_];exact jP_ (xc_ f)
 have p:s.heap.objs.size ∉ [(s.heap.push (TS.set0 led)).objs.size,l]:=by rw[qZ_];exact λm=>(jw_.mp m).elim (jP_ (q7_ _)) λm=>qz_ f (jd_.mp m)
 have q:((s.heap.push (TS.set0 led)).push (TS.it0 l)).get? s.heap.objs.size=some (TS.set0 led):=jj_ _ (js_ _ rfl);have g:∀b o,s.heap.get? b=some o->((s.heap.push (TS.set0 led)).push (TS.it0 l)).get? b=some o:=λb o e=>jj_ _ (jj_ _ e);refine TS.loopB (knd:=knd) ((Walks.list (show A.in1.in1.in1.handled=none from d) _ l n items).toS) s.heap.objs.size p (by show A.units+3<cLine;lia) (TS.at_of hi) (by rw[c.1,hi];simp) i (λb m=>(TS.old (c.lt m)).2)
  _ #[#[_,js_ _ rfl,rfl,rfl],(a.push _).push _] (c.keep λb _ o e=>g b o e) ?_ λt ks hm r u v=>?_
 ·exact TS.hasB0 q
 ·obtain⟨h',y,z,B,C⟩:=t;cases (show y=s.gens from hm.gens);cases (show z=s.drawn from hm.drawn);cases (show C=s.os from hm.os);exact h h' B #[ks,r,u,v] λb o D e=>hm.heap b o (TS.old D).1 (g b o e)
end
end PySem
namespace L2
open PySem PySem.Spec PyProof.Rows
noncomputable def okIs:Option Key->Value->Bool
 |none,v=>Zu v
 |some k,v=>Pj k v
def FO (h:okIs k v=true):(k=none/\v=.none)\/(∃i t,k=some (.inl i)/\v=.int i t) \/ ∃x t,k=some (.inr x)/\v=.str x t:=by
 cases k with
 |none=>exact .inl #[rfl,Ee h]
 |some k=>
  rcases Bx (show Pj k v=true from h) with ⟨i,t,rfl,rfl⟩|⟨x,t,rfl,rfl⟩
  ·exact .inr (.inl #[i,t,rfl,rfl])
  ·exact .inr (.inr #[x,t,rfl,rfl])
noncomputable def Mp (prog:Program)(w:World):KeyKind prog w (Option Key) where
 is:=okIs
 hash:=λk=>match k with|none=>0xFCA86420|some k=>keyH w k
 inj:=λv a b f g=>by
  rcases FO f with ⟨rfl,rfl⟩|⟨i,t,rfl,rfl⟩|⟨x,t,rfl,rfl⟩<;>rcases FO g with ⟨rfl,e⟩|⟨j,u,rfl,e⟩|⟨y,u,rfl,e⟩<;>first|rfl|cases e<;>rfl
 byValue:=λk v h=>by
  rcases FO h with ⟨rfl,rfl⟩|⟨i,t,rfl,rfl⟩|⟨x,t,rfl,rfl⟩<;>rfl
 pyHash:=λd h=>by
  rcases FO d with ⟨rfl,rfl⟩|⟨i,t,rfl,rfl⟩|⟨x,t,rfl,rfl⟩
  ·exact Fe h
  ·exact wpAny_pyHash_int h
  ·exact wpAny_pyHash_str h
 eqBool:=λ{A E s a b u v Q} l d h=>by
  rcases FO l with ⟨rfl,rfl⟩|⟨i,t,rfl,rfl⟩|⟨x,t,rfl,rfl⟩<;>rcases FO d with ⟨rfl,rfl⟩|⟨j,c,rfl,rfl⟩|⟨y,c,rfl,rfl⟩
  ·exact (WW prog w).eqBool (a:=()) (b:=()) rfl rfl (by simpa using h)
  ·exact SeqAt.EqAt.none_int j c _ _ _ _ (by simpa using h)
  ·exact SeqAt.EqAt.none_str y c _ _ _ _ (by simpa using h)
  ·exact SeqAt.EqAt.int_none i t _ _ _ _ (by simpa using h)
  ·refine (Bc prog w).eqBool (a:=.inl i) (b:=.inl j) (GA i t) (GA j c) ?_;simpa using h
  ·refine (Bc prog w).eqBool (a:=.inl i) (b:=.inr y) (GA i t) (GC y c) ?_;simpa using h
  ·exact SeqAt.EqAt.str_none x t _ _ _ _ (by simpa using h)
  ·refine (Bc prog w).eqBool (a:=.inr x) (b:=.inl j) (GC x t) (GA j c) ?_;simpa using h
  ·refine (Bc prog w).eqBool (a:=.inr x) (b:=.inr y) (GC x t) (GC y c) ?_;simpa using h
 «strs» := λk x t v h=>by
  rcases FO h with ⟨rfl,e⟩|⟨i,u,rfl,e⟩|⟨y,u,rfl,e⟩
  ·exact nomatch e
  ·exact nomatch e
  ·injection e with e1 _;subst e1;cases v<;>rfl
noncomputable def oK:Option Key->V
 |none=>.non
 |some k=>kV k
def NR {P:Program}{w:World}:∀{ks:List Key} {vs:List Value},ItemsAre (Bc P w) ks vs->ItemsAre (Mp P w) (ks.map some) vs
 |_,_,.nil=>.nil
 |_,_,.cons h r=>.cons h (NR r)
def Vo (ks:List Key):tupleKeyHash (Mp P w) (ks.map some)=tupleKeyHash (Bc P w) ks:=by
 unfold tupleKeyHash;rw[jJ_];rfl
def Vp (ok:HOk P w H h) (c:H b=some (.tup (a.map oK))):IsTupleKey (Mp P w) h a b:=by
 obtain⟨z,d,rv,o,e,f,n,g⟩:=(show Bm P w H h b (.tup (a.map oK)) from ok b _ c);exists o,d.toArray,n,e,f,g;clear c e f g z;rw[zY_]
 induction a generalizing d with
 |nil=>cases rv;exact .nil
 |cons k a i=>
  cases rv with
  |cons h1 h2=>
   rename_i u us
   refine .cons ?_ (i _ h2);cases k with
   |none=>cases (show u=Value.none from h1);rfl
   |some k=>exact SJ (P:=P) (w:=w) h1
def W3 {P:Program}{w:World}{h:Heap}{a:Addr}{xs:List (List Key×Addr×Value)}(d:h.DictOfH (tupleKind (Bc P w)) a xs):h.DictOfH (tupleKind (Mp P w)) a (xs.map λx=>(x.1.map some,x.2)):=by
 obtain⟨o,es,ep,h1,h2,c,f,g,i⟩:=d;exists o,es,ep,h1,h2,c,?_,λx j=>?_
 ·rw[f,jJ_];refine jI_ λx _=>?_;show (#[_,_,_]:DictEntry)=#[_,_,_]
  congr 1
  exact (Vo x.1).symm
 ·obtain⟨y,k,rfl⟩:=jp_.mp j;obtain⟨o',items,n,m,p,q,r⟩:=g y k;exact#[o',items,n,m,p,q,NR r]
 ·rw[jJ_];have:((λx:List (Option Key)×Addr×Value=>x.1) ∘ λx:List Key×Addr×Value=>(x.1.map some,x.2))=(λl:List Key=>l.map some) ∘ λx=>x.1:=rfl;rw[this,<-jJ_];exact zy_ _ (λx y s z=>s ((q2_ (λa b e=>jD_ e)).mp z)) i
def ZH (H:Hp)(a:Addr)(y:V)(r:Option V):Prop:=DGet H a y r \/ ∃(d:List (List Key×V)) (b:Addr) (c:List (Option Key)),Rd H a (.dT d)/\y=.ref b/\H b=some (.tup (c.map oK))/\none∈c/\r=none
noncomputable def YH (td ty:TE):TE:=λ σ H Q=>td σ H λx H1=>∃a,x=.ref a/\IsD H1 a/\ty σ H1 λy H2=>∃o,ZH H2 a y o/\Q (o.getD .non) H2
theorem Vq : YH td ty σ H Q=td σ H λx H1=>∃a,x=.ref a/\IsD H1 a/\ty σ H1 λy H2=>∃o,ZH H2 a y o/\Q (o.getD .non) H2:=rfl
def BD_ (k:A.units+1<cLine)(I:Inv X ae σ H s)(g:ZH H a y o)(c:RelV y u)(h:∀d s',Inv X ae σ H s'->RelV (o.getD .non) d->Q d s'):
  wpAny (model X.prog X.w) A (call (.builtin "dict.get") [.ref a,u]) Q E s:=by
 rcases g with g|⟨r,b,f,e,m,n,i,l⟩
 ·exact XO k I g c h
 ·subst m;cases (show u=Value.ref b from c);obtain⟨z,p,xs,t,j⟩:=QL I.hok e;refine zE_ qt_ j.typeIs xk_ (zm_ _ _) (meetsH_dict_get (tupleKind (Mp X.prog X.w)) a b p) #[show _<cLine from (by have:A.in1.units=A.units+1:=rfl;lia),f,_,Vp I.hok n,W3 j,h _ _ (I.tok _) ?_];rw[l];have:atKey (xs.map λx=>(x.1.map some,x.2)) f=none:=by
   unfold atKey;rw[qf_.mpr λx q z=>?_];rfl;obtain⟨y,_,rfl⟩:=jp_.mp q;have:=j0_ z;rw[<-this]at i;obtain⟨_,_,e⟩:=jp_.mp i;cases e
  rw[this];rfl
def W4 (c:X.A.units+1<cLine)(f:PE X o td)(i:PE X e ty)(m:M1 X o "get" aA e ax):PE X (.Call (.Attribute o "get" aA) [e] [] ax) (YH td ty):=by
 intro ae s σ H Q I h;refine wpAny_Call_method m.base m.few m.line xB_ qt_ zF_ (thn (f ae s σ H _ I h) λu j ⟨x,H1,b,k,a,ex,d,l⟩=>?_);subst ex;obtain rfl:u=Value.ref a:=k;obtain⟨n,p,_⟩:=Uu b d;exists n,p;rw[m.trees];refine xj_ rfl (xq_ (xJ_ (thn (i ae j σ H1 _ b l) λz B ⟨y,H2,q,r,C,g,t⟩=>zt_ ?_)));exact BD_ c q g r λD E v w=>#[_,H2,v,w,t]
section
variable {X:Cx}
def Vr (hc:X.calm=true)(y:Room k X.A):DU X (.type "set") (λxs H Q=>∃(p:Addr) (ts:List Addr) (keys:List (List Key)),xs=[.ref p]/\SqL X.K H p (ts.map V.ref)/\keys.length=ts.length/\(∀(j:Nat) (q:List Key) (b:Addr),keys[j]?=some q->ts[j]?=some b->H b=some (.tup (q.map kV)))/\keys.length<=7/\∀a (ks:List (List Key)),H a=none->ks.Nodup->(∀x,x∈ks↔x∈keys)->Q (.ref a) (upd H a (setO a ks.length))):=by
 intro ae s σ H xs us Q I r h;obtain⟨p,ts,keys,rfl,d,f,g,z,q⟩:=h;obtain⟨u,rfl,B⟩:=vals1 r;cases B;obtain⟨c,r',i,_⟩:=I.list d;have m:c=ts.map Value.ref:=by
  clear d f g z i q;generalize ts=l at r'
  induction l generalizing c with
  |nil=>cases r';rfl
  |cons a l C=>
   cases r' with
   |cons h1 h2=>
    rename_i u us
    rw[show u=Value.ref a from h1];rw[jT_,C _ h2]
 refine PySem.call_set_tupsB (knd:=Bc X.prog X.w) (items:=c.toArray) (keys:=keys) (bs:=ts) (I.ok.hd hc) i.isList (by have:=y.units;lia) #[f,λj q b h1 h2=>Mf I.hok (g j q b h1 h2)] (by rw[m]) (by rw[m];simp;lia) λh' D ⟨ks,E,F,n⟩ G=>?_;exact#[.ref _,_,I.laid (t':=D) (o:=setO s.heap.objs.size ks.length) (λb o v=>G b o (jv_ v) v) (jf_ _) #[n,(let ⟨o,_,_,_,h1,_⟩:=n;#[o,h1]),λh1 h2 ⟨o,es,ep,t,e,r⟩ k=>#[o,es,ep,t,k o e,r]],rfl,q _ ks (I.hok.fresh (jf_ _)) E F]
end
end L2
namespace L2
open PySem PySem.Spec PyProof.Rows
section
variable {X:Cx} {ae:α7} {σ:L2.St} {A:Around}
abbrev ends (Q E:Value->Shared->Prop):Result->Shared->Prop:=λr s'=>match r with | .ok (.ret v)=>Q v s' | .ok _=>False | .error e=>E e s'
end
end L2
namespace N80
open Nest L2 GW
noncomputable def val (b:Nat)(v:α2):Nat:=v.foldl (λa x=>a*b+x.toNat) 0
noncomputable def cod (b:Nat)(v:α2):Nat:=b ^ v.length+val b v
inductive Nst (p e:Int):α2->Prop
 | nil:Nst p e []
 | pl {x:Int} {row:α2}:0<=x->x<p->Nst p e row->Nst p e (x::row)
 | ca {c:Int} {jT row:α2}:p<=c->c<e->Nst p e jT->Nst p e row->Nst p e (c::jT++e::row)
def Okr (A:Int->α2->Prop)(p e:Int)(row:α2):Prop:=∀q∈(prtS p e row).1,A q.1 q.2
structure Acc (A:Int->α2->Prop)(p e:Int)(j:Int)(row:α2):Prop where
 n:Nst p e row
 o:Okr A p e row
 a:A j (outW p e row)
open Classical in
noncomputable def cnt (A:Int->α2->Prop)(p e:Int)(b h n:Nat):Nat:=(oN h).countP λi:Nat=>decide (∃jT,Acc A p e (i:Int) jT/\cod b jT<n)
structure Turn {R:Type}(A:Int->α2->Prop)(p e:Int)(b:Nat)(fin:R->Prop)(best:R->Option (α2))(res:Option (α2)):Prop where
 s:∀t,res=some t->∃r,best r=some t/\fin r
 l:∀r t,best r=some t->fin r->∃t',res=some t'/\cod b t'<=cod b t
end N80
namespace HT
open PySem PyProof.Rows
inductive LtE (A:Around)(s:Shared)(f:Bool):List Value->List Value->Bool->Prop
 | endL {ws:List Value}:LtE A s f [] ws f
 | endR {vs:List Value}:LtE A s f vs [] f
 | eq {v w:Value} {vs ws:List Value} {b:Bool}:SeqAt.EqAt A s v w true->LtE A s f vs ws b->LtE A s f (v::vs) (w::ws) b
 | ne {v w:Value} {vs ws:List Value} {b:Bool}:SeqAt.EqAt A s v w false->(∀(prog:Program) (wd:World) (E:Value->Shared->Prop) (Q:Value->Shared->Prop),Q (.bool b) s->wpAny (model prog wd) A (richCompare .Lt v w) Q E s)->LtE A s f (v::vs) (w::ws) b
end HT
namespace L2
open PySem PySem.Spec PyProof.Rows
structure HG (K:α3)(x q:Str)(st:Stmt)(f:Addr)(fd:α6)(M:Prop):Prop where
 m:M
 F:Fun K x q st f fd
section
variable {P:Program} {w:World} {K:α3} {mg:Str->α5} {base:Heap} {CX:CXT} {k:Nat} {x q:Str} {st:Stmt} {N ps:List Str} {sp:Sp} {f:Addr} {fd:α6} {M:Prop}
structure CalH (P:Program)(w:World)(mg:Str->α5)(base:Heap)(CX:CXT){K:α3}{x q:Str}{st:Stmt}{f:Addr}{fd:α6}{M:Prop}(h:HG K x q st f fd M)(k:Nat)(ps:List Str)(sp:Sp):Prop where
 g:FnOk P w K mg base CX k f fd ps sp
 b:Binds K fd ps []
abbrev Bnd (x q:Str)(st:Stmt)(ps:List Str):Prop:=∀(a b c:Value) (d:Option Addr) (e f:Value) (us:List Value),us.length=ps.length->bindArgs (fnOf x q (KJ st) (EL st) (Ag st) .none a b c d e f) #[us,[]]=pure (ps.zip us)
def HG.ok (h:HG K x q st f fd M)(S:FnScope N ps (Ag st))(b:∀vs H Q E,sp vs H Q E->vs.length=ps.length)
  (c:∀(a:Value) (A:Around) (outer:List Env) (s:Shared) (H:Hp) (vs:List V) (Q:VK) (E:XK),Room k (A.deeper (envOfC q (Ag st) s.heap.objs.size f a))->sp vs H Q E ->
   ∃t,PSs (cxOf CX0 P w K mg base N q (Ag st) f a A outer s H E).nox (EL st) t/\t {nx:=λ_ H'=>Q .non H',rt:=Q} (start N vs) H)
  (e:Bnd x q st ps:=by
   intro _ _ _ _ _ _ us hl;first|(obtain⟨_,rfl⟩:=len1 hl;rfl)|(obtain⟨_,_,rfl⟩:=len2 hl;rfl)|(obtain⟨_,_,_,rfl⟩:=len3 hl;rfl)|(obtain⟨_,_,_,_,rfl⟩:=len4 hl;rfl)|(obtain⟨_,_,_,_,_,rfl⟩:=len5 hl;rfl)|(obtain⟨_,_,_,_,_,_,rfl⟩:=len6 hl;rfl)):CalH P w mg base CX0 h (k+1) ps sp:=#[h.F.ok S b c,h.F.binds e]
def HG.okE (h:HG K x q st f fd M)(S:FnScope N ps (Ag st))(b:∀vs H Q E,sp vs H Q E->vs.length=ps.length)
  (c:∀(a:Value) (A:Around) (outer:List Env) (s:Shared) (H:Hp) (vs:List V) (Q:VK) (E:XK),Room k (A.deeper (envOfC q (Ag st) s.heap.objs.size f a))->sp vs H Q E ->
   ∃t,PSs (cxOf (CXe P w) P w K mg base N q (Ag st) f a A outer s H E) (EL st) t/\t {nx:=λ_ H'=>Q .non H',rt:=Q} (start N vs) H)
  (e:Bnd x q st ps:=by
   intro _ _ _ _ _ _ us hl;first|(obtain⟨_,rfl⟩:=len1 hl;rfl)|(obtain⟨_,_,rfl⟩:=len2 hl;rfl)|(obtain⟨_,_,_,rfl⟩:=len3 hl;rfl)|(obtain⟨_,_,_,_,rfl⟩:=len4 hl;rfl)|(obtain⟨_,_,_,_,_,rfl⟩:=len5 hl;rfl)|(obtain⟨_,_,_,_,_,_,rfl⟩:=len6 hl;rfl)):CalH P w mg base (CXe P w) h (k+1) ps sp:=#[h.F.okE S b c,h.F.binds e]
abbrev HP (K:α3)(mg:Str->α5)(fA:Nat->Addr)(fD:Nat->α6)(x:Str)(st:Stmt)(i:Nat):Prop:=HG K x x st (fA i) (fD i) (mg x=some (.ref (fA i)))
abbrev HQ (K:α3)(fA:Nat->Addr)(fD:Nat->α6)(x q:Str)(st:Stmt)(i:Nat)(M:Addr->Prop):Prop:=HG K x q st (fA i) (fD i) (M (fA i))
def Ah {X:Cx}{h:HG X.K x x st f fd (X.mg x=some (.ref f))}{E:XK}{p pos:Pos}{e:Expr}{es:List Expr}{t:TA}(q:CalH X.prog X.w X.mg X.base CX h k ps sp)(a:Room k X.A)(c:Gj CX X E)
  (d:PA X (e::es) t) (i:Gl X x:=by rfl) (j:(x==("__debug__" : Str))=false:=by decide) (l:starEach (e::es) X.env=(false,eval e X.env)::starEach es X.env:=by rfl) (n:(backTo pos (starEach es X.env)).any (·.1)=false:=by rfl):
  PE X (.Call (.Name x p) (e::es) [] pos) (Wj sp [] E t):=YZ q.g a i h.m h.F.kp q.b .nil c d j l n
end
end L2
namespace L2
open PySem
section
variable {α β:Type} {f:α->β} {a b:α} {l m:List α} {n:Nat}
theorem mp_C:r6 f (a::l)=f a::r6 f l:=rfl
theorem mp_N:r6 f []=[]:=rfl
theorem ap_C:a::l++m=a::(l++m):=rfl
theorem ap_N:[]++m=m:=rfl
theorem gt_Z:(a::l)[0]?=some a:=rfl
theorem gt_S:(a::l)[n+1]?=l[n]?:=rfl
theorem st_Z:(a::l).set 0 b=b::l:=rfl
theorem st_S:(a::l).set (n+1) b=a::l.set n b:=rfl
theorem rp_Z:pG 0 a=[]:=rfl
theorem rp_S:pG (n+1) a=a::pG n a:=rfl
theorem ln_N:([]:List α).length=0:=rfl
theorem ln_C:(a::l).length=l.length+1:=rfl
end
end L2
namespace L2
open PySem
section
variable {i j:Int} {x y:Str} {b c:Bool}
theorem BE_:scal (.int i) (.int j)=true:=rfl
theorem BF_:scal (.str x) (.str y)=true:=rfl
theorem BG_:scal (.bl b) (.bl c)=true:=rfl
theorem BH_:scal (.non) (.non)=true:=rfl
theorem BI_:scal (.non) (.int i)=true:=rfl
theorem BJ_:scal (.int i) (.non)=true:=rfl
theorem BK_:scal (.non) (.bl b)=true:=rfl
theorem BL_:scal (.bl b) (.non)=true:=rfl
theorem BM_:scal (.non) (.str x)=true:=rfl
theorem BN_:scal (.str x) (.non)=true:=rfl
theorem BO_:scal (.int i) (.str x)=true:=rfl
theorem BP_:scal (.str x) (.int i)=true:=rfl
theorem BQ_:scal (.bl b) (.str x)=true:=rfl
theorem BR_:scal (.str x) (.bl b)=true:=rfl
end
end L2
namespace Mine
open PySem L2 GW GB
local macro_rules | `(tactic| walk_at "rd") => `(tactic| (try dsimp only[↓Yv,U5,↓r_ID,↓Bl_,Yw,↓r_BD,Bn_,↓Bq_,↓Br_,Yy,Yz,YA,Bp_,↓YD,↓YE,YB,YC,↓YF,U7,↓AE_,↓XT,↓AF_,↓Uz,↓AG_,↓r_c,↓r_op,↓r_un,↓r_I,↓r_I0,↓r_U,↓XU,↓XW,↓AH_,↓AI_,↓XX,↓r_if,↓r_B,↓XY,↓AJ_,↓r_or,↓AK_,↓XZ,↓X0,↓UA,↓r_CB,↓AL_,↓AM_,↓AN_,↓AO_,↓r_sl,↓X1,↓RO,↓AP_,↓AU_,↓r_BM,↓RP,↓r_Eq,↓r_Ne,↓AQ_,↓UB,↓X2,↓UC,↓X3,↓X4,↓AS_,↓RT,↓AW_,↓UH,↓RW,↓AX_,↓X8,↓UK,↓X9,↓Ya,↓Yb,↓UL,↓r_in,↓UN,↓RY,↓X6,↓Yl,UW,UX,UZ,U2,R9,Bd_,Sa,↓Vq,↓Bw_,↓Bh_,↓Yu,↓RZ,↓UO,↓AZ_,↓Bb_,↓Yg,↓Yh,↓Yi,↓UR,↓UP,↓UU,↓Yk,↓UT,AR_,L2.start,BE_,BF_,BG_,BH_,BI_,BJ_,BK_,BL_,BM_,BN_,BO_,BP_,BQ_,BR_,mp_C,mp_N,ap_C,ap_N,gt_Z,gt_S,st_Z,st_S,rp_Z,rp_S,ln_N,ln_C,Nat.reduceAdd,Nat.reduceSub])<;>(try simp only[↓Yv,U5,↓r_ID,↓Bl_,Yw,↓r_BD,Bn_,↓Bq_,↓Br_,Yy,Yz,YA,Bp_,↓YD,↓YE,YB,YC,↓YF,U7,Zl,Bo_,Zo,WR,U6,↓AE_,↓XT,↓AF_,↓Uz,↓AG_,↓r_c,↓r_op,↓r_un,↓r_I,↓r_I0,↓r_U,↓XU,↓XW,↓AH_,↓AI_,↓XX,↓r_if,↓r_B,↓XY,↓AJ_,↓r_or,↓AK_,↓XZ,↓X0,↓UA,↓r_CB,↓AL_,↓AM_,↓AN_,↓AO_,↓r_sl,↓X1,↓RO,↓AP_,↓AU_,↓r_BM,↓RP,↓r_Eq,↓r_Ne,↓AQ_,↓UB,↓X2,↓UC,↓X3,↓X4,↓AS_,↓RT,↓AW_,↓UH,↓RW,↓AX_,↓X8,↓UK,↓X9,↓Ya,↓Yb,↓UL,↓r_in,↓UN,↓RY,↓X6,↓Yl,UW,UX,UZ,U2,R9,Bd_,Sa,↓Vq,↓Bw_,↓Bh_,↓Yu,↓RZ,↓UO,↓AZ_,↓Bb_,↓Yg,↓Yh,↓Yi,↓UR,↓UP,↓UU,↓Yk,↓UT,AR_,L2.start,jT_,rn,jG_,xu_,List.cons_append,zZ_,xO_,pG,q9_,xb_,List.set_cons_zero,List.set_cons_succ,zu_,V.int.injEq,V.str.injEq,V.ref.injEq,V.bl.injEq,List.cons.injEq,and_true,true_and,and_assoc,exists_and_left,exists_eq_left',exists_eq_left,exists_eq_right,exists_eq,x1_,qM_,j2_,j6_,BE_,BF_,BG_,BH_,BI_,BJ_,BK_,BL_,BM_,BN_,BO_,BP_,BQ_,BR_,Nat.reduceAdd,Nat.reduceSub,reduceCtorEq,zS_,rZ]))
local macro_rules|`(tactic|nofun)=>`(tactic|walk_at "rd")
set_option hygiene false in
local macro_rules|`(tactic|delta $x:ident $y:ident)=>`(tactic|refine HG.ok $x $y (λvs H Q E h=>?_) (λao A outer s H vs Q E hr h=>?_))
set_option hygiene false in
local macro_rules|`(⋯)=>`(CalH P w mg base CX0)
local macro_rules | `(tactic| walk_at "sc") => `(tactic| exact⟨rfl,rfl,rfl,by decide +kernel,rfl,by decide +kernel,by decide +kernel⟩)
noncomputable def top (i:Nat):Stmt:=PySem.Challenge.pw_guessroom_k51_whole_askers_papers.main.body.getD i (.Pass #[0,0,0,0])
noncomputable abbrev FP:Stmt:=A9 (top 43) 1
def Ng:FnScope ["self"] ["self"] (Ag FP):=by walk_at "sc"
noncomputable abbrev FQ:Stmt:=A9 (top 44) 4
def Nh:FnScope ["self"] ["self"] (Ag FQ):=by walk_at "sc"
noncomputable abbrev Dm:Stmt:=top 30
def CK:FnScope ["asker","access","wish"] ["asker"] (Ag Dm):=by walk_at "sc"
noncomputable abbrev EM:Stmt:=A9 (top 44) 5
def Mq:FnScope ["self"] ["self"] (Ag EM):=by walk_at "sc"
noncomputable abbrev GO:Stmt:=A9 (top 41) 4
def OF:FnScope ["self"] ["self"] (Ag GO):=by walk_at "sc"
noncomputable abbrev GP:Stmt:=A9 (top 44) 6
def OG:FnScope ["self"] ["self"] (Ag GP):=by walk_at "sc"
noncomputable abbrev KS:Stmt:=top 31
def Q3:FnScope ["asker"] ["asker"] (Ag KS):=by walk_at "sc"
noncomputable abbrev Mr:Stmt:=top 10
def Tf:FnScope ["letters","word"] ["letters","word"] (Ag Mr):=by walk_at "sc"
noncomputable abbrev Cs:Stmt:=top 32
def DQ:FnScope ["letters","parts","words"] ["letters","parts"] (Ag Cs):=by walk_at "sc"
noncomputable abbrev FT:Stmt:=top 33
def Ni:FnScope ["heard","word","ends"] ["heard","word","ends"] (Ag FT):=by walk_at "sc"
noncomputable abbrev FU:Stmt:=top 34
def EO:FnScope ["paper","heard","rows"] ["paper"] (Ag FU):=by walk_at "sc"
noncomputable abbrev KU:Stmt:=top 35
def Q4:FnScope ["paper"] ["paper"] (Ag KU):=by walk_at "sc"
noncomputable abbrev Jk:Stmt:=A9 (top 41) 0
def Ql:FnScope ["self","letters"] ["self","letters"] (Ag Jk):=by walk_at "sc"
noncomputable abbrev GQ:Stmt:=top 11
def OH:FnScope ["letters","word"] ["letters","word"] (Ag GQ):=by walk_at "sc"
noncomputable abbrev Q5:Stmt:=top 16
def L4:FnScope ["house","word","ways","rooms","letter"] ["house","word"] (Ag Q5):=by walk_at "sc"
noncomputable abbrev Jl:Stmt:=A9 (top 41) 3
def Qm:FnScope ["self","word"] ["self","word"] (Ag Jl):=by walk_at "sc"
noncomputable abbrev OI:Stmt:=top 46
def CL:FnScope ["book","access","guess","word","mark","last","rooms","low","high","middle","asked","told"] ["book","access","guess","word","mark","last"] (Ag OI):=by walk_at "sc"
noncomputable abbrev Ms:Stmt:=top 20
def Ff:FnScope ["letters","access","rows","word","letter"] ["letters","access"] (Ag Ms):=by walk_at "sc"
noncomputable abbrev Q6:Stmt:=top 21
def L5:FnScope ["letters","access","ends","words","row","end"] ["letters","access","ends"] (Ag Q6):=by walk_at "sc"
noncomputable abbrev ER:Stmt:=A9 (top 44) 8
def Ef:FnScope ["self","words","left","word"] ["self","words"] (Ag ER):=by walk_at "sc"
noncomputable abbrev B2:Stmt:=A9 (top 47) 3
def Gy:FnScope ["self"] ["self"] (Ag B2):=by walk_at "sc"
noncomputable abbrev FV:Stmt:=top 17
def Nj:FnScope ["house","word"] ["house","word"] (Ag FV):=by walk_at "sc"
noncomputable abbrev FW:Stmt:=top 18
def Nk:FnScope ["house","word"] ["house","word"] (Ag FW):=by walk_at "sc"
noncomputable abbrev ES:Stmt:=A9 (top 47) 7
def Mt:FnScope ["self","house","word"] ["self","house","word"] (Ag ES):=by walk_at "sc"
noncomputable abbrev FX:Stmt:=A9 (top 47) 4
def Dt:FnScope ["self","mark","last","found"] ["self"] (Ag FX):=by walk_at "sc"
noncomputable abbrev KW:Stmt:=top 22
def Q7:FnScope ["book","word","ends"] ["book","word","ends"] (Ag KW):=by walk_at "sc"
noncomputable abbrev ET:Stmt:=top 23
def Eg:FnScope ["book","letters","access","ends","marks","row"] ["book","letters","access","ends"] (Ag ET):=by walk_at "sc"
noncomputable abbrev KY:Stmt:=top 24
def FY:FnScope ["book","letters","access","ends","marks","known","row"] ["book","letters","access","ends"] (Ag KY):=by walk_at "sc"
noncomputable abbrev Eh:Stmt:=top 25
def Bs:FnScope ["letters","access","marks","rooms","room","word","ways"] ["letters","access","marks"] (Ag Eh):=by walk_at "sc"
noncomputable abbrev KZ:Stmt:=top 26
def Jm:FnScope ["book","letters","access","ends","marks","room_marks"] ["book","letters","access","ends"] (Ag KZ):=by walk_at "sc"
noncomputable abbrev CM:Stmt:=A9 (top 47) 8
def Jn:FnScope ["self"] ["self"] (Ag CM):=by walk_at "sc"
noncomputable abbrev EU:Stmt:=top 27
def Ei:FnScope ["heard","answer","house","word","told"] ["heard","answer","house"] (Ag EU):=by walk_at "sc"
noncomputable abbrev FZ:Stmt:=top 28
def Nl:FnScope ["book","house"] ["book","house"] (Ag FZ):=by walk_at "sc"
noncomputable abbrev CN:Stmt:=A9 (top 47) 9
def Jo:FnScope ["self"] ["self"] (Ag CN):=by walk_at "sc"
noncomputable abbrev Cg:Stmt:=A9 (top 44) 9
def GR:FnScope ["self"] ["self"] (Ag Cg):=by walk_at "sc"
noncomputable abbrev B3:Stmt:=A9 (top 47) 5
def C9:FnScope ["self","row"] ["self"] (Ag B3):=by walk_at "sc"
noncomputable abbrev DI:Stmt:=A9 (top 44) 7
def K0:FnScope ["self"] ["self"] (Ag DI):=by walk_at "sc"
noncomputable abbrev F0:Stmt:=A9 (top 43) 3
def Nm:FnScope ["self"] ["self"] (Ag F0):=by walk_at "sc"
noncomputable abbrev GS:Stmt:=A9 (top 43) 0
def OJ:FnScope ["self"] ["self"] (Ag GS):=by walk_at "sc"
noncomputable abbrev Jq:Stmt:=A9 (top 44) 0
def Qn:FnScope ["self","letters","most","book","ways","ends"] ["self","letters","most","book","ways","ends"] (Ag Jq):=by walk_at "sc"
noncomputable abbrev CP:Stmt:=A9 (top 47) 6
def Jr:FnScope ["self","letters"] ["self","letters"] (Ag CP):=by walk_at "sc"
noncomputable abbrev GU:Stmt:=A9 (top 47) 0
def OK:FnScope ["self","letters","most"] ["self","letters","most"] (Ag GU):=by walk_at "sc"
noncomputable abbrev EV:Stmt:=top 66
def Mu:FnScope ["script","k"] ["script","k"] (Ag EV):=by walk_at "sc"
noncomputable abbrev GX:Stmt:=top 67
def OL:FnScope ["found"] ["found"] (Ag GX):=by walk_at "sc"
noncomputable abbrev Js:Stmt:=top 68
def GY:FnScope ["flow","k","many","cell","mixed"] ["flow","k","many"] (Ag Js):=by walk_at "sc"
noncomputable abbrev F1:Stmt:=top 69
def BO:FnScope ["flow","letters","rooms","marks","ways","k","at","mark"] ["flow","letters","rooms"] (Ag F1):=by walk_at "sc"
noncomputable abbrev EW:Stmt:=top 73
def AV:FnScope ["house","rooms","at","room","kinds","turn","shapes","found"] ["house"] (Ag EW):=by walk_at "sc"
noncomputable abbrev Jt:Stmt:=top 53
def Qo:FnScope ["word"] ["word"] (Ag Jt):=by walk_at "sc"
noncomputable abbrev K1:Stmt:=top 56
def Q8:FnScope ["parts"] ["parts"] (Ag K1):=by walk_at "sc"
noncomputable abbrev GZ:Stmt:=top 61
def DX:FnScope ["paper","rows","word","mark"] ["paper"] (Ag GZ):=by walk_at "sc"
noncomputable abbrev Mv:Stmt:=top 57
def NS:FnScope ["text","rows"] ["text"] (Ag Mv):=by walk_at "sc"
noncomputable abbrev EX:Stmt:=top 58
def G0:FnScope ["first","count","row","parts"] ["first","count","row"] (Ag EX):=by walk_at "sc"
noncomputable abbrev F2:Stmt:=top 55
def Nn:FnScope ["text"] ["text"] (Ag F2):=by walk_at "sc"
noncomputable abbrev G1:Stmt:=top 59
def JR:FnScope ["text","most","count"] ["text","most"] (Ag G1):=by walk_at "sc"
noncomputable abbrev EY:Stmt:=top 60
def Mw:FnScope ["first","row"] ["first","row"] (Ag EY):=by walk_at "sc"
noncomputable abbrev My:Stmt:=top 15
def Tg:FnScope ["number"] ["number"] (Ag My):=by walk_at "sc"
noncomputable abbrev Ju:Stmt:=top 54
def Lp:FnScope ["letters","text","word"] ["letters","text"] (Ag Ju):=by walk_at "sc"
noncomputable abbrev G2:Stmt:=top 62
def F3:FnScope ["letters","row","parts","mark"] ["letters","row"] (Ag G2):=by walk_at "sc"
noncomputable abbrev G3:Stmt:=top 63
def OM:FnScope ["first","letters","rows"] ["first","letters","rows"] (Ag G3):=by walk_at "sc"
noncomputable abbrev G4:Stmt:=top 64
def Bl:FnScope ["text","rows","letters","begins","ways_end","ends_end","access","ends","heard"] ["text"] (Ag G4):=by walk_at "sc"
noncomputable abbrev F4:Stmt:=top 70
def Du:FnScope ["house","word","room","letter"] ["house","word"] (Ag F4):=by walk_at "sc"
noncomputable abbrev DJ:Stmt:=top 74
def Ca:FnScope ["asker","letters","last","note","due","k"] ["asker","letters","last"] (Ag DJ):=by walk_at "sc"
noncomputable abbrev Dn:Stmt:=top 75
def Bv:FnScope ["asker","hidden","last","note","word","mark","other"] ["asker","hidden","last"] (Ag Dn):=by walk_at "sc"
noncomputable abbrev CQ:Stmt:=top 36
def Jv:FnScope ["words"] ["words"] (Ag CQ):=by walk_at "sc"
noncomputable abbrev G8:Stmt:=top 37
def DY:FnScope ["paper","heard","marks","row"] ["paper"] (Ag G8):=by walk_at "sc"
noncomputable abbrev ON:Stmt:=top 38
def Mz:FnScope ["paper","ways","heard"] ["paper"] (Ag ON):=by walk_at "sc"
noncomputable abbrev Dp:Stmt:=top 76
def CS:FnScope ["asker","hidden","house","found","many"] ["asker","hidden","house"] (Ag Dp):=by walk_at "sc"
noncomputable abbrev Ct:Stmt:=A9 (top 43) 2
def Io:FnScope ["self","deed"] ["self","deed"] (Ag Ct):=by walk_at "sc"
noncomputable abbrev G9:Stmt:=A9 (top 44) 2
def OO:FnScope ["self"] ["self"] (Ag G9):=by walk_at "sc"
noncomputable abbrev Ha:Stmt:=top 40
def OP:FnScope ["mark"] ["mark"] (Ag Ha):=by walk_at "sc"
noncomputable abbrev Hb:Stmt:=A9 (top 41) 1
def OQ:FnScope ["self","word","mark"] ["self","word","mark"] (Ag Hb):=by walk_at "sc"
noncomputable abbrev K2:Stmt:=A9 (top 41) 2
def Q9:FnScope ["self","word","mark"] ["self","word","mark"] (Ag K2):=by walk_at "sc"
noncomputable abbrev CT:Stmt:=A9 (top 44) 1
def Jw:FnScope ["self","number"] ["self","number"] (Ag CT):=by walk_at "sc"
noncomputable abbrev Hc:Stmt:=A9 (top 47) 1
def OR:FnScope ["self","mark"] ["self","mark"] (Ag Hc):=by walk_at "sc"
noncomputable abbrev B4:Stmt:=A9 (top 44) 3
def Gz:FnScope ["self","word","number"] ["self","word","number"] (Ag B4):=by walk_at "sc"
noncomputable abbrev EZ:Stmt:=A9 (top 47) 2
def MA:FnScope ["self","word","mark"] ["self","word","mark"] (Ag EZ):=by walk_at "sc"
noncomputable abbrev F5:Stmt:=top 71
def Be:FnScope ["house","other","couples","words","at","one","two","letter","pair"] ["house","other"] (Ag F5):=by walk_at "sc"
noncomputable abbrev DK:Stmt:=top 72
def A4:FnScope ["house","other","long_word","first","one","two","best","k"] ["house","other","long_word","first"] (Ag DK):=by walk_at "sc"
noncomputable abbrev F6:Stmt:=top 77
def Dv:FnScope ["asker","hidden","long_word","first","turn","wish","word"] ["asker","hidden","long_word","first"] (Ag F6):=by walk_at "sc"
noncomputable abbrev ZI:Stmt:=top 78
def Fg:FnScope ["script","letters","rooms","cut","hidden","long_word","cell","many","most","asker","wish"] ["script"] (Ag ZI):=by walk_at "sc"
noncomputable def MB:Caps:=[("letter",none),("letters",some 0)]
def Np:(Caps.names MB).Nodup:=by decide +kernel
noncomputable def DA:Caps:=[("pair",none)]
def Fh:(Caps.names DA).Nodup:=by decide +kernel
noncomputable def DB:Caps:=[("word",none),("letters",some 0)]
def Fi:(Caps.names DB).Nodup:=by decide +kernel
noncomputable def He:Caps:=[("end",none),("heard",some 0),("word",some 1)]
def JS:(Caps.names He).Nodup:=by decide +kernel
noncomputable def Hf:Caps:=[("word",none),("heard",some 1),("paper",some 0)]
def JT:(Caps.names Hf).Nodup:=by decide +kernel
noncomputable def Hg:Caps:=[("row",none)]
def JU:(Caps.names Hg).Nodup:=by decide +kernel
noncomputable def Lq:Caps:=[("end",none),("book",some 0),("word",some 1)]
def MC:(Caps.names Lq).Nodup:=by decide +kernel
noncomputable def Lr:Caps:=[("word",none),("marks",some 4)]
def ME:(Caps.names Lr).Nodup:=by decide +kernel
noncomputable def Fj:Caps:=[("letter",none),("rooms",some 3),("marks",some 2),("word",some 5)]
def Ip:(Caps.names Fj).Nodup:=by decide +kernel
noncomputable def Ls:Caps:=[("word",none),("book",some 0)]
def MF:(Caps.names Ls).Nodup:=by decide +kernel
noncomputable def Hh:Caps:=[("letter",none),("flow",some 0),("rooms",some 2),("at",some 6)]
def JV:(Caps.names Hh).Nodup:=by decide +kernel
noncomputable def Gn:Caps:=[("room",none),("house",some 0)]
def Jx:(Caps.names Gn).Nodup:=by decide +kernel
noncomputable def Gp:Caps:=[("room",none),("kinds",some 4),("house",some 0)]
def Jy:(Caps.names Gp).Nodup:=by decide +kernel
noncomputable def Gq:Caps:=[("to",none),("kinds",some 1)]
def Jz:(Caps.names Gq).Nodup:=by decide +kernel
noncomputable def Gr:Caps:=[("shape",none),("shapes",some 6)]
def JA:(Caps.names Gr).Nodup:=by decide +kernel
noncomputable def JW:Caps:=[("letter",none)]
def LR:(Caps.names JW).Nodup:=by decide +kernel
noncomputable def Iu:Caps:=[("word",none)]
def K3:(Caps.names Iu).Nodup:=by decide +kernel
noncomputable def Iv:Caps:=[("word",none)]
def K4:(Caps.names Iv).Nodup:=by decide +kernel
noncomputable def Hi:Caps:=[("sign",none)]
def JX:(Caps.names Hi).Nodup:=by decide +kernel
noncomputable def JY:Caps:=[("sign",none)]
def LS:(Caps.names JY).Nodup:=by decide +kernel
noncomputable def Iw:Caps:=[("row",none),("letters",some 1),("first",some 0)]
def K5:(Caps.names Iw).Nodup:=by decide +kernel
noncomputable def Iy:Caps:=[("row",none)]
def K6:(Caps.names Iy).Nodup:=by decide +kernel
noncomputable def Iz:Caps:=[("row",none),("letters",some 2)]
def K7:(Caps.names Iz).Nodup:=by decide +kernel
noncomputable def DR:Caps:=[("place",none),("words",some 0)]
def F7:(Caps.names DR).Nodup:=by decide +kernel
noncomputable def NT:Caps:=[("goals",none)]
def OS:(Caps.names NT).Nodup:=by decide +kernel
noncomputable def NU:Caps:=[("word",none),("heard",some 2)]
def OU:(Caps.names NU).Nodup:=by decide +kernel
noncomputable def Vs:Caps:=[("number",none),("letters",some 1)]
def Th:(Caps.names Vs).Nodup:=by decide +kernel
noncomputable def Vt:Caps:=[("k",none),("letters",some 1),("cell",some 6)]
def Ti:(Caps.names Vt).Nodup:=by decide +kernel
structure Txt (mg:Str->α5):Prop where
 all:mg "all"=none
 any:mg "any"=none
 bool:mg "bool"=none
 dict:mg "dict"=none
 enumerate:mg "enumerate"=none
 int:mg "int"=none
 isinstance:mg "isinstance"=none
 len:mg "len"=none
 list:mg "list"=none
 max:mg "max"=none
 range:mg "range"=none
 set:mg "set"=none
 str:mg "str"=none
 tuple:mg "tuple"=none
structure Own (K:α3)(mg:Str->α5)(ak cc cg ah:Addr):Prop where
 m_j1:mg "Book"=some (.ref ak)
 cl_j1:Cls K ak
 n_Book_letters:Cy K ak "letters"
 n_Book_marks:Cy K ak "marks"
 m_ja:mg "Turns"=some (.ref cc)
 m_jc:mg "Hunt"=some (.ref cg)
 m_j0:mg "Asker"=some (.ref ah)
 cl_j0:Cls K ah
 n_Asker_book:Cy K ah "book"
 n_Asker_ends:Cy K ah "ends"
 n_Asker_gaps:Cy K ah "gaps"
 n_Asker_guess:Cy K ah "guess"
 n_Asker_letters:Cy K ah "letters"
 n_Asker_most:Cy K ah "most"
 n_Asker_ways:Cy K ah "ways"
 n_Asker_wish:Cy K ah "wish"
 n_Asker_wrong:Cy K ah "wrong"
 q_jf:∃t,mg "EMPTY"=some (.str "." t)
 q_jd:∃t,mg "FIGURES"=some (.str "0123456789" t)
 q_j9:∃t,mg "MOST_FIGURES"=some (.int 10 t)
 q_j8:∃t,mg "MOST_LETTERS"=some (.int 6 t)
 q_jb:∃t,mg "MOST_MARK"=some (.int 1000000000 t)
 q_je:∃t,mg "SIGNS"=some (.str "abcdef" t)
structure Exs (K:α3)(mg:Str->α5)(aP aQ aW bE bu bF:Addr):Prop where
 m_j5:mg "BadWord"=some (.ref aP)
 m_j6:mg "BadMark"=some (.ref aQ)
 m_j4:mg "OutOfTurn"=some (.ref aW)
 m_j3:mg "NoDifference"=some (.ref bE)
 m_j2:mg "Contradiction"=some (.ref bu)
 m_j7:mg "NoPaper"=some (.ref bF)
 x_j5:oU K aP bmV "ValueError.__new__"=true
 x_j6:oU K aQ bmV "ValueError.__new__"=true
 x_j4:oU K aW bmV "ValueError.__new__"=true
 x_j3:oU K bE bmV "ValueError.__new__"=true
 x_j2:oU K bu bmV "ValueError.__new__"=true
 x_j7:oU K bF bmV "ValueError.__new__"=true
structure En (P:Program)(w:World)(K:α3)(mg:Str->α5)(base:Heap)(aP aQ aW bE bu bF ak cc cg ah:Addr)(fA:Nat->Addr)(fD:Nat->α6):Prop extends Txt mg,Own K mg ak cc cg ah,Exs K mg aP aQ aW bE bu bF where
 j0:HQ K fA fD "wants" "Turns.wants" FP 0 (Meth K ah "wants")
 j1:HQ K fA fD "access" "Hunt.access" FQ 1 (Meth K ah "access")
 j2:HP K mg fA fD "access_and_over" Dm 2
 j3:HQ K fA fD "tellers" "Hunt.tellers" EM 3 (Meth K ah "tellers")
 j4:HQ K fA fD "heard" "Book.heard" GO 4 (Meth K ak "heard")
 j5:HQ K fA fD "heard" "Hunt.heard" GP 5 (Meth K ah "heard")
 j6:HP K mg fA fD "paper_of" KS 6
 j7:HP K mg fA fD "is_word" Mr 7
 j8:HP K mg fA fD "has_letters_alone" Cs 8
 j9:HP K mg fA fD "marks_heard" FT 9
 j10:HP K mg fA fD "tells_apart" FU 10
 j11:HP K mg fA fD "at_least" KU 11
 j12:HQ K fA fD "__init__" "Book.__init__" Jk 12 (Mk K ak)
 j13:HP K mg fA fD "check_word" GQ 13
 j14:HP K mg fA fD "trail" Q5 14
 j15:HQ K fA fD "told" "Book.told" Jl 15 (Meth K ak "told")
 j16:HP K mg fA fD "halved" OI 16
 j17:HP K mg fA fD "rows_of" Ms 17
 j18:HP K mg fA fD "cells" Q6 18
 j19:HQ K fA fD "ask_for" "Hunt.ask_for" ER 19 (Meth K ah "ask_for")
 j20:HQ K fA fD "look_for_gaps" "Asker.look_for_gaps" B2 20 (Meth K ah "look_for_gaps")
 j21:HP K mg fA fD "room_behind" FV 21
 j22:HP K mg fA fD "mark_behind" FW 22
 j23:HQ K fA fD "answer" "Asker.answer" ES 23 (Meth K ah "answer")
 j24:HQ K fA fD "halve" "Asker.halve" FX 24 (Meth K ah "halve")
 j25:HP K mg fA fD "marks_of" KW 25
 j26:HP K mg fA fD "marks_by_row" ET 26
 j27:HP K mg fA fD "stranger" KY 27
 j28:HP K mg fA fD "ways_by_marks" Eh 28
 j29:HP K mg fA fD "guess_of" KZ 29
 j30:HQ K fA fD "make_guess" "Asker.make_guess" CM 30 (Meth K ah "make_guess")
 j31:HP K mg fA fD "first_unlike" EU 31
 j32:HP K mg fA fD "first_wrong" FZ 32
 j33:HQ K fA fD "wrong_word" "Asker.wrong_word" CN 33 (Meth K ah "wrong_word")
 j34:HQ K fA fD "look_at_guess" "Hunt.look_at_guess" Cg 34 (Meth K ah "look_at_guess")
 j35:HQ K fA fD "look_at_words" "Asker.look_at_words" B3 35 (Meth K ah "look_at_words")
 j36:HQ K fA fD "next_wish" "Hunt.next_wish" DI 36 (Meth K ah "next_wish")
 j37:HQ K fA fD "go_on" "Turns.go_on" F0 37 (Meth K ah "go_on")
 j38:HQ K fA fD "__init__" "Turns.__init__" GS 38 (CMeth K cc "__init__")
 j39:HQ K fA fD "__init__" "Hunt.__init__" Jq 39 (CMeth K cg "__init__")
 j40:HQ K fA fD "first_ends" "Asker.first_ends" CP 40 (Meth K ah "first_ends")
 j41:HQ K fA fD "__init__" "Asker.__init__" GU 41 (Mk K ah)
 j42:HP K mg fA fD "_law_cell_at" EV 42
 j43:HP K mg fA fD "_law_whole" GX 43
 j44:HP K mg fA fD "_law_draw" Js 44
 j45:HP K mg fA fD "_law_hidden" F1 45
 j46:HP K mg fA fD "_law_classes" EW 46
 j47:HP K mg fA fD "word_text" Jt 47
 j48:HP K mg fA fD "row_text" K1 48
 j49:HP K mg fA fD "paper_text" GZ 49
 j50:HP K mg fA fD "rows_in" Mv 50
 j51:HP K mg fA fD "parts_behind" EX 51
 j52:HP K mg fA fD "read_number" F2 52
 j53:HP K mg fA fD "read_count" G1 53
 j54:HP K mg fA fD "read_letters" EY 54
 j55:HP K mg fA fD "is_mark" My 55
 j56:HP K mg fA fD "read_word" Ju 56
 j57:HP K mg fA fD "read_heard" G2 57
 j58:HP K mg fA fD "read_words" G3 58
 j59:HP K mg fA fD "read_paper" G4 59
 j60:HP K mg fA fD "_law_answer" F4 60
 j61:HP K mg fA fD "_law_paper_now" DJ 61
 j62:HP K mg fA fD "_law_paper_good" Dn 62
 j63:HP K mg fA fD "are_access_words" CQ 63
 j64:HP K mg fA fD "ways_heard" G8 64
 j65:HP K mg fA fD "judged" ON 65
 j66:HP K mg fA fD "_law_shown_good" Dp 66
 j67:HQ K fA fD "check_wants" "Turns.check_wants" Ct 67 (Meth K ah "check_wants")
 j68:HQ K fA fD "agree" "Hunt.agree" G9 68 (Meth K ah "agree")
 j69:HP K mg fA fD "check_mark" Ha 69
 j70:HQ K fA fD "check" "Book.check" Hb 70 (Meth K ak "check")
 j71:HQ K fA fD "put" "Book.put" K2 71 (Meth K ak "put")
 j72:HQ K fA fD "keep_answer" "Hunt.keep_answer" CT 72 (Meth K ah "keep_answer")
 j73:HQ K fA fD "hear" "Asker.hear" Hc 73 (Meth K ah "hear")
 j74:HQ K fA fD "keep_objection" "Hunt.keep_objection" B4 74 (Meth K ah "keep_objection")
 j75:HQ K fA fD "differ" "Asker.differ" EZ 75 (Meth K ah "differ")
 j76:HP K mg fA fD "_law_unlike" F5 76
 j77:HP K mg fA fD "_law_objection" DK 77
 j78:HP K mg fA fD "_law_played" F6 78
 j79:HP K mg fA fD "law" ZI 79
def q_AA (a:p0)(h1:p1)(z:r):p0/\p1/\r:=#[a,h1,z]
def AK (a:p0)(h1:p1)(h2:p2)(z:r):p0/\p1/\p2/\r:=#[a,h1,h2,z]
def AF (a:p0)(h1:p1)(h2:p2)(b:p3)(c:p4)(d:p5)(z:r):p0/\p1/\p2/\p3/\p4/\p5/\r:=#[a,h1,h2,b,c,d,z]
def Br {b:Prop}{c:Prop}{t2:Sort _}{r:t2->Prop}(d:b)(h1:c)(a:t2)(z:r a):b/\c/\∃a,r a:=#[d,h1,a,z]
def Dq {b:Prop}{t1:Sort _}{p2:t1->Prop}{r:t1->Prop}(c:b)(a:t1)(h2:p2 a)(z:r a):b/\∃a,p2 a/\r a:=#[c,a,h2,z]
def q_EA {b:Sort _}{c:b->Prop}{r:b->Prop}(a:b)(h1:c a)(z:r a):∃a,c a/\r a:=#[a,h1,z]
def A7 {b:Sort _}{c:b->Prop}{p2:b->Prop}{r:b->Prop}(a:b)(h1:c a)(h2:p2 a)(z:r a):∃a,c a/\p2 a/\r a:=#[a,h1,h2,z]
def Dx {b:Sort _}{c:b->Prop}{p2:b->Prop}{d:b->Prop}{e:b->Prop}{f:b->Prop}{r:b->Prop}(a:b)(h1:c a)(h2:p2 a)(g:d a)(h:e a)(i:f a)(z:r a):∃a,c a/\p2 a/\d a/\e a/\f a/\r a:=#[a,h1,h2,g,h,i,z]
def OV {b:Sort _}{e:b->Prop}{p2:b->Prop}{f:b->Prop}{d:Sort _}{g:b->d->Prop}{r:b->d->Prop}(a:b)(h1:e a)(h2:p2 a)(h:f a)(c:d)(i:g a c)(z:r a c):∃a,e a/\p2 a/\f a/\∃c,g a c/\r a c:=#[a,h1,h2,h,c,i,z]
def DL {c:Sort _}{d:c->Prop}{t2:Sort _}{r:c->t2->Prop}(a:c)(h1:d a)(b:t2)(z:r a b):∃a,d a/\∃b,r a b:=#[a,h1,b,z]
def Ar {c:Sort _}{d:c->Prop}{t2:Sort _}{e:c->t2->Prop}{r:c->t2->Prop}(a:c)(h1:d a)(b:t2)(f:e a b)(z:r a b):∃a,d a/\∃b,e a b/\r a b:=#[a,h1,b,f,z]
def AH {d:Sort _}{f:d->Prop}{t2:Sort _}{g:d->t2->Prop}{e:Sort _}{h:d->t2->e->Prop}{r:d->t2->e->Prop}(a:d)(h1:f a)(b:t2)(i:g a b)(c:e)(j:h a b c)(z:r a b c):∃a,f a/\∃b,g a b/\∃c,h a b c/\r a b c:=#[a,h1,b,i,c,j,z]
def BH {d:Sort _}{f:d->Prop}{t2:Sort _}{e:Sort _}{g:d->t2->e->Prop}{h:d->t2->e->Prop}{r:d->t2->e->Prop}(a:d)(h1:f a)(b:t2)(c:e)(i:g a b c)(j:h a b c)(z:r a b c):∃a,f a/\∃b,∃c,g a b c/\h a b c/\r a b c:=#[a,h1,b,c,i,j,z]
def AB {c:Sort _}{t1:Sort _}{p2:c->t1->Prop}{d:c->t1->Prop}{r:c->t1->Prop}(a:c)(b:t1)(h2:p2 a b)(e:d a b)(z:r a b):∃a,∃b,p2 a b/\d a b/\r a b:=#[a,b,h2,e,z]
def BS {c:Sort _}{t1:Sort _}{p2:c->t1->Prop}{d:c->t1->Prop}{e:c->t1->Prop}{r:c->t1->Prop}(a:c)(b:t1)(h2:p2 a b)(f:d a b)(g:e a b)(z:r a b):∃a,∃b,p2 a b/\d a b/\e a b/\r a b:=#[a,b,h2,f,g,z]
def AO {c:Sort _}{t1:Sort _}{p2:c->t1->Prop}{d:c->t1->Prop}{e:c->t1->Prop}{f:c->t1->Prop}{r:c->t1->Prop}(a:c)(b:t1)(h2:p2 a b)(g:d a b)(h:e a b)(i:f a b)(z:r a b):∃a,∃b,p2 a b/\d a b/\e a b/\f a b/\r a b:=#[a,b,h2,g,h,i,z]
def BC {d:Sort _}{t1:Sort _}{t2:Sort _}{e:d->t1->t2->Prop}{r:d->t1->t2->Prop}(a:d)(b:t1)(c:t2)(f:e a b c)(z:r a b c):∃a,∃b,∃c,e a b c/\r a b c:=#[a,b,c,f,z]
def Ai {d:Sort _}{t1:Sort _}{t2:Sort _}{e:d->t1->t2->Prop}{f:d->t1->t2->Prop}{g:d->t1->t2->Prop}{r:d->t1->t2->Prop}(a:d)(b:t1)(c:t2)(h:e a b c)(i:f a b c)(j:g a b c)(z:r a b c):∃a,∃b,∃c,e a b c/\f a b c/\g a b c/\r a b c:=#[a,b,c,h,i,j,z]
def Bj {e:Sort _}{t1:Sort _}{t2:Sort _}{f:Sort _}{r:e->t1->t2->f->Prop}(a:e)(b:t1)(c:t2)(d:f)(z:r a b c d):∃a,∃b,∃c,∃d,r a b c d:=#[a,b,c,d,z]
def AY {e:Sort _}{t1:Sort _}{t2:Sort _}{f:Sort _}{g:e->t1->t2->f->Prop}{h:e->t1->t2->f->Prop}{r:e->t1->t2->f->Prop}(a:e)(b:t1)(c:t2)(d:f)(i:g a b c d)(j:h a b c d)(z:r a b c d):∃a,∃b,∃c,∃d,g a b c d/\h a b c d/\r a b c d:=#[a,b,c,d,i,j,z]
def AI {f:Sort _}{t1:Sort _}{t2:Sort _}{g:Sort _}{h:Sort _}{r:f->t1->t2->g->h->Prop}(a:f)(b:t1)(c:t2)(d:g)(e:h)(z:r a b c d e):∃a,∃b,∃c,∃d,∃e,r a b c d e:=#[a,b,c,d,e,z]
def CU {f:Sort _}{t1:Sort _}{t2:Sort _}{g:Sort _}{h:Sort _}{i:f->t1->t2->g->h->Prop}{r:f->t1->t2->g->h->Prop}(a:f)(b:t1)(c:t2)(d:g)(e:h)(j:i a b c d e)(z:r a b c d e):∃a,∃b,∃c,∃d,∃e,i a b c d e/\r a b c d e:=#[a,b,c,d,e,j,z]
def BX {g:Sort _}{t1:Sort _}{t2:Sort _}{h:Sort _}{i:Sort _}{j:Sort _}{r:g->t1->t2->h->i->j->Prop}(a:g)(b:t1)(c:t2)(d:h)(e:i)(f:j)(z:r a b c d e f):∃a,∃b,∃c,∃d,∃e,∃f,r a b c d e f:=#[a,b,c,d,e,f,z]
def e_A {a:Prop}{r:Prop}{g:Prop}(h:a/\r)(k:a->r->g):g:=let ⟨b,z⟩:=h;k b z
def B5 {a:Prop}{b:Prop}{p2:Prop}{c:Prop}{d:Prop}{r:Prop}{g:Prop}(h:a/\b/\p2/\c/\d/\r)(k:a->b->p2->c->d->r->g):g:=let ⟨e,h1,h2,f,i,z⟩:=h;k e h1 h2 f i z
def K8 {a:Prop}{b:Prop}{p2:Prop}{c:Prop}{d:Prop}{e:Prop}{f:Prop}{i:Prop}{r:Prop}{g:Prop}(h:a/\b/\p2/\c/\d/\e/\f/\i/\r)(k:a->b->p2->c->d->e->f->i->r->g):g:=let ⟨j,h1,h2,l,m,n,o,p,z⟩:=h;k j h1 h2 l m n o p z
def BI {b:Prop}{c:Prop}{t2:Sort _}{r:t2->Prop}{g:Prop}(h:b/\c/\∃a,r a)(k:b->c->(a:t2)->r a->g):g:=let ⟨d,h1,a,z⟩:=h;k d h1 a z
def e_E {b:Sort _}{r:b->Prop}{g:Prop}(h:∃a,r a)(k:(a:b)->r a->g):g:=let ⟨a,z⟩:=h;k a z
def AJ {c:Sort _}{t1:Sort _}{p2:c->t1->Prop}{d:c->t1->Prop}{r:c->t1->Prop}{g:Prop}(h:∃a,∃b,p2 a b/\d a b/\r a b)(k:(a:c)->(b:t1)->p2 a b->d a b->r a b->g):g:=let ⟨a,b,h2,e,z⟩:=h;k a b h2 e z
def Ie {c:Sort _}{t1:Sort _}{p2:c->t1->Prop}{d:c->t1->Prop}{e:c->t1->Prop}{f:c->t1->Prop}{i:c->t1->Prop}{j:c->t1->Prop}{r:c->t1->Prop}{g:Prop}(h:∃a,∃b,p2 a b/\d a b/\e a b/\f a b/\i a b/\j a b/\r a b)(k:(a:c)->(b:t1)->p2 a b->d a b->e a b->f a b->i a b->j a b->r a b->g):g:=let ⟨a,b,h2,l,m,n,o,p,z⟩:=h;k a b h2 l m n o p z
def CV {d:Sort _}{t1:Sort _}{t2:Sort _}{e:d->t1->t2->Prop}{f:d->t1->t2->Prop}{i:d->t1->t2->Prop}{r:d->t1->t2->Prop}{g:Prop}(h:∃a,∃b,∃c,e a b c/\f a b c/\i a b c/\r a b c)(k:(a:d)->(b:t1)->(c:t2)->e a b c->f a b c->i a b c->r a b c->g):g:=let ⟨a,b,c,j,l,m,z⟩:=h;k a b c j l m z
def Ej {d:Sort _}{t1:Sort _}{t2:Sort _}{e:d->t1->t2->Prop}{f:d->t1->t2->Prop}{i:d->t1->t2->Prop}{j:d->t1->t2->Prop}{r:d->t1->t2->Prop}{g:Prop}(h:∃a,∃b,∃c,e a b c/\f a b c/\i a b c/\j a b c/\r a b c)(k:(a:d)->(b:t1)->(c:t2)->e a b c->f a b c->i a b c->j a b c->r a b c->g):g:=let ⟨a,b,c,l,m,n,o,z⟩:=h;k a b c l m n o z
def AX {e:Sort _}{t1:Sort _}{t2:Sort _}{f:Sort _}{r:e->t1->t2->f->Prop}{g:Prop}(h:∃a,∃b,∃c,∃d,r a b c d)(k:(a:e)->(b:t1)->(c:t2)->(d:f)->r a b c d->g):g:=let ⟨a,b,c,d,z⟩:=h;k a b c d z
def Fl {e:Sort _}{t1:Sort _}{t2:Sort _}{f:Sort _}{i:e->t1->t2->f->Prop}{j:e->t1->t2->f->Prop}{l:e->t1->t2->f->Prop}{r:e->t1->t2->f->Prop}{g:Prop}(h:∃a,∃b,∃c,∃d,i a b c d/\j a b c d/\l a b c d/\r a b c d)(k:(a:e)->(b:t1)->(c:t2)->(d:f)->i a b c d->j a b c d->l a b c d->r a b c d->g):g:=let ⟨a,b,c,d,m,n,o,z⟩:=h;k a b c d m n o z
def CW {f:Sort _}{t1:Sort _}{t2:Sort _}{i:Sort _}{j:Sort _}{l:f->t1->t2->i->j->Prop}{r:f->t1->t2->i->j->Prop}{g:Prop}(h:∃a,∃b,∃c,∃d,∃e,l a b c d e/\r a b c d e)(k:(a:f)->(b:t1)->(c:t2)->(d:i)->(e:j)->l a b c d e->r a b c d e->g):g:=let ⟨a,b,c,d,e,m,z⟩:=h;k a b c d e m z
def AQ {j:Sort _}{t1:Sort _}{t2:Sort _}{l:Sort _}{m:Sort _}{n:Sort _}{o:Sort _}{p:j->t1->t2->l->m->n->o->Prop}{r:j->t1->t2->l->m->n->o->Prop}{g:Prop}(h:∃a,∃b,∃c,∃d,∃e,∃f,∃i,p a b c d e f i/\r a b c d e f i)(k:(a:j)->(b:t1)->(c:t2)->(d:l)->(e:m)->(f:n)->(i:o)->p a b c d e f i->r a b c d e f i->g):g:=let ⟨a,b,c,d,e,f,i,q,z⟩:=h;k a b c d e f i q z
def f_A {a:Prop}{r:Prop}{g:Prop}(k:a->r->g):(a/\r)->g:=λ⟨b,z⟩=>k b z
def A5 {a:Prop}{b:Prop}{p2:Prop}{c:Prop}{d:Prop}{r:Prop}{g:Prop}(k:a->b->p2->c->d->r->g):(a/\b/\p2/\c/\d/\r)->g:=λ⟨e,h1,h2,f,h,z⟩=>k e h1 h2 f h z
def Bt {a:Prop}{b:Prop}{p2:Prop}{c:Prop}{d:Prop}{e:Prop}{f:Prop}{h:Prop}{r:Prop}{g:Prop}(k:a->b->p2->c->d->e->f->h->r->g):(a/\b/\p2/\c/\d/\e/\f/\h/\r)->g:=λ⟨i,h1,h2,j,l,m,n,o,z⟩=>k i h1 h2 j l m n o z
def Ra {b:Prop}{c:Prop}{t2:Sort _}{r:t2->Prop}{g:Prop}(k:b->c->(a:t2)->r a->g):(b/\c/\∃a,r a)->g:=λ⟨d,h1,a,z⟩=>k d h1 a z
def f_E {b:Sort _}{r:b->Prop}{g:Prop}(k:(a:b)->r a->g):(∃a,r a)->g:=λ⟨a,z⟩=>k a z
def CF {b:Sort _}{c:b->Prop}{p2:b->Prop}{d:b->Prop}{e:b->Prop}{f:b->Prop}{h:b->Prop}{i:b->Prop}{r:b->Prop}{g:Prop}(k:(a:b)->c a->p2 a->d a->e a->f a->h a->i a->r a->g):(∃a,c a/\p2 a/\d a/\e a/\f a/\h a/\i a/\r a)->g:=λ⟨a,h1,h2,j,l,m,n,o,z⟩=>k a h1 h2 j l m n o z
def B6 {c:Sort _}{t1:Sort _}{p2:c->t1->Prop}{d:c->t1->Prop}{r:c->t1->Prop}{g:Prop}(k:(a:c)->(b:t1)->p2 a b->d a b->r a b->g):(∃a,∃b,p2 a b/\d a b/\r a b)->g:=λ⟨a,b,h2,e,z⟩=>k a b h2 e z
def Tj {c:Sort _}{t1:Sort _}{p2:c->t1->Prop}{d:c->t1->Prop}{e:c->t1->Prop}{f:c->t1->Prop}{h:c->t1->Prop}{i:c->t1->Prop}{r:c->t1->Prop}{g:Prop}(k:(a:c)->(b:t1)->p2 a b->d a b->e a b->f a b->h a b->i a b->r a b->g):(∃a,∃b,p2 a b/\d a b/\e a b/\f a b/\h a b/\i a b/\r a b)->g:=λ⟨a,b,h2,j,l,m,n,o,z⟩=>k a b h2 j l m n o z
def Sf {d:Sort _}{t1:Sort _}{t2:Sort _}{e:d->t1->t2->Prop}{f:d->t1->t2->Prop}{h:d->t1->t2->Prop}{r:d->t1->t2->Prop}{g:Prop}(k:(a:d)->(b:t1)->(c:t2)->e a b c->f a b c->h a b c->r a b c->g):(∃a,∃b,∃c,e a b c/\f a b c/\h a b c/\r a b c)->g:=λ⟨a,b,c,i,j,l,z⟩=>k a b c i j l z
def BL {d:Sort _}{t1:Sort _}{t2:Sort _}{e:d->t1->t2->Prop}{f:d->t1->t2->Prop}{h:d->t1->t2->Prop}{i:d->t1->t2->Prop}{r:d->t1->t2->Prop}{g:Prop}(k:(a:d)->(b:t1)->(c:t2)->e a b c->f a b c->h a b c->i a b c->r a b c->g):(∃a,∃b,∃c,e a b c/\f a b c/\h a b c/\i a b c/\r a b c)->g:=λ⟨a,b,c,j,l,m,n,z⟩=>k a b c j l m n z
def CY {e:Sort _}{t1:Sort _}{t2:Sort _}{f:Sort _}{r:e->t1->t2->f->Prop}{g:Prop}(k:(a:e)->(b:t1)->(c:t2)->(d:f)->r a b c d->g):(∃a,∃b,∃c,∃d,r a b c d)->g:=λ⟨a,b,c,d,z⟩=>k a b c d z
def Vu {e:Sort _}{t1:Sort _}{t2:Sort _}{f:Sort _}{h:e->t1->t2->f->Prop}{i:e->t1->t2->f->Prop}{j:e->t1->t2->f->Prop}{r:e->t1->t2->f->Prop}{g:Prop}(k:(a:e)->(b:t1)->(c:t2)->(d:f)->h a b c d->i a b c d->j a b c d->r a b c d->g):(∃a,∃b,∃c,∃d,h a b c d/\i a b c d/\j a b c d/\r a b c d)->g:=λ⟨a,b,c,d,l,m,n,z⟩=>k a b c d l m n z
def CZ {f:Sort _}{t1:Sort _}{t2:Sort _}{h:Sort _}{i:Sort _}{j:f->t1->t2->h->i->Prop}{r:f->t1->t2->h->i->Prop}{g:Prop}(k:(a:f)->(b:t1)->(c:t2)->(d:h)->(e:i)->j a b c d e->r a b c d e->g):(∃a,∃b,∃c,∃d,∃e,j a b c d e/\r a b c d e)->g:=λ⟨a,b,c,d,e,l,z⟩=>k a b c d e l z
def Fm {i:Sort _}{t1:Sort _}{t2:Sort _}{j:Sort _}{l:Sort _}{m:Sort _}{n:Sort _}{o:i->t1->t2->j->l->m->n->Prop}{r:i->t1->t2->j->l->m->n->Prop}{g:Prop}(k:(a:i)->(b:t1)->(c:t2)->(d:j)->(e:l)->(f:m)->(h:n)->o a b c d e f h->r a b c d e f h->g):(∃a,∃b,∃c,∃d,∃e,∃f,∃h,o a b c d e f h/\r a b c d e f h)->g:=λ⟨a,b,c,d,e,f,h,p,z⟩=>k a b c d e f h p z
def DZ (h:c)(x:a) : @ite Prop c d a b:=by rw[if_pos h];exact x
def Bw (h:¬ c)(x:b) : @ite Prop c d a b:=by rw[if_neg h];exact x
section
def byc (k:¬ P->False):P:=qD_ k
set_option hygiene false in
local macro_rules | `(tactic| left) => `(tactic| refine byc λhQq9=>?_)
set_option hygiene false in
local macro_rules | `(tactic| right) => `(tactic| refine hQq9 ?_)
variable {P:Program} {w:World} {K:α3} {mg:Str->α5} {base:Heap}
variable {aP aQ aW bE bu bF ak cc cg ah:Addr} {fA:Nat->Addr} {fD:Nat->α6} (EE:En P w K mg base aP aQ aW bE bu bF ak cc cg ah fA fD)
noncomputable def Tn (K:α3):Sp:=λb H Q _=>∃(L:Int) (a:Addr) (ws:α2),b=[.int L,.ref a]/\SqT K H a (ws.map V.int)/\ws.length<=1000/\∀H',Same H H'->Q (.bl (isW L ws)) H'
def K9:⋯ EE.j7 1 ["letters","word"] (Tn K):=by
 delta EE.j7 Tf
 ·refine e_E h λL=>f_E λa=>f_E λws=>f_A λd _=>?_;try clear h;subst d;rfl
 ·left;refine CV h λL a ws e hw j k=>?_;try clear h;subst e
  right;have l:=Al;refine q_EA _ (Ae (Ao (Av (LW rfl) rfl EE.all xS_ (Aa (Bh rfl (Bz rfl) (cp:=MB) #[#[rfl,rfl],oO] (D8 (pvD 1)) (λ_ _ _ _=>(As (i:=0) Np rfl (oQ rfl))) (λ_ _ _ _=>By) (λ_ _ _ _=>(RE QJ QI Af (pvD 0) (pvD 1)))) Ad)))) ?_;nofun;refine#[#[_,hw],Oq (ag:=[some (.int L)]) (λx=>match x with | .int n=>.bl (inW L n)|_=>.non) rfl hw (by rw[ja_];lia) (λx f R c=>?_) (λD g=>?_)]
  ·left;obtain⟨n,_,rfl⟩:=Ia f;right;nofun;by_cases b:0<=n
   ·simp only[b,x1_];simpa [inW,b] using c
   ·simp only[b,qM_];simpa [inW,b] using c
  ·refine Ar D rfl (ws.map (inW L)) (.inl (.inl ?_)) ?_
   ·rw[Ab,jJ_,jJ_];rfl
   ·have:=k _ (Same.new g (o:=.lst ((ws.map V.int).map λx=>match x with | .int n=>.bl (inW L n)|_=>.non)));simpa [isW,ze_] using this
noncomputable def W5 (K:α3)(b:Addr):Sp:=λc H Q E=>∃(L:Int) (a:Addr) (ws:α2),c=[.int L,.ref a]/\SqT K H a (ws.map V.int)/\ws.length<=1000/\(isW L ws=true->∀H',Same H H'->Q .non H')/\(isW L ws=false->∀H',Same H H'->E (.ref b) none H')
def JZ:CalH P w mg base (CXe P w) EE.j13 2 ["letters","word"] (W5 K aP):=by
 refine HG.okE EE.j13 OH (λc H Q E h=>?_) (λl A outer s H c Q E e h=>?_)
 ·refine e_E h λL=>f_E λa=>f_E λws=>f_A λf _=>?_;try clear h;subst f;rfl
 ·left;refine Ej h λL a ws g hw i k j=>?_;try clear h;subst g
  right;have m:=Al;refine q_EA _ (Ae (Bb (Cm (ptB (Cd (Ah (K9 EE) e.d Au (Aa (pvD 0) (Aa (pvD 1) Ad))))))
   (Ae (EC EE.m_j5 EE.x_j5 rfl rfl (Aa A0 Ad)))
   Az)) ?_
  nofun;refine Ai L a ws rfl hw i λH' s'=>?_;nofun;cases b:isW L ws with
  |true=>
   simp only[zS_,j2_,qM_];exact k b H' s'
  |false=>
   simp only[rZ,x1_];exact#[by lia,j b H' s']
noncomputable def To:Sp:=λa H Q _=>∃n:Int,a=[.int n]/\Q (.bl (decide (0<=n)&&decide (n<=1000000000))) H
def NV:⋯ EE.j55 1 ["number"] (To):=by
 delta EE.j55 Tg
 ·obtain⟨n,rfl,_⟩:=h;rfl
 ·left;obtain⟨n,rfl,k⟩:=h;right;refine q_EA _ (Ae (Ao (RE QJ QJ Af (pvD 0) (Zd rfl EE.q_jb)))) ?_;nofun;by_cases a:0<=n
  ·simp only[a,x1_];simpa [a] using k
  ·simp only[a,qM_];simpa [a] using k
noncomputable def Nq (a:Addr):Sp:=λb H Q E=>∃n:Int,b=[.int n]/\(0<=n->n<=1000000000->Q .non H)/\(¬ (0<=n/\n<=1000000000)->E (.ref a) none H)
def OW:CalH P w mg base (CXe P w) EE.j69 2 ["mark"] (Nq aQ):=by
 refine HG.okE EE.j69 OP (λb H Q E h=>?_) (λg A outer s H b Q E c h=>?_)
 ·obtain⟨n,rfl,_⟩:=h;rfl
 ·left;refine e_E h λn=>f_A λe=>f_A λk f=>?_;try clear h;subst e
  right;refine q_EA _ (Ae (Bb (Cm (ptB (Cd (Ah (NV EE) c.d Au (Aa (pvD 0) Ad)))))
   (Ae (EC EE.m_j6 EE.x_j6 rfl rfl (Aa A0 Ad)))
   Az)) ?_
  nofun;refine q_EA n rfl ?_;nofun;by_cases a:0<=n/\n<=1000000000
  ·refine Bw (by simp[a.1,a.2]) ?_;exact k a.1 a.2
  ·refine DZ (by simp only[Bool.not_eq_true',Bool.and_eq_false_iff,decide_eq_false_iff_not];lia) ?_;exact#[by have:=Al;lia,f a]
noncomputable def W6 (K:α3)(b:Addr):Sp:=λc H Q E=>∃(h a:Addr) (L:Int) (af:α2) (ways:α1) (ws:α2),c=[.ref h,.ref a]/\Cp K H h L af ways/\Wf L af ways/\SqT K H a (ws.map V.int)/\ws.length<=600/\(isW L ws=true->∀p H',Same H H'->H p=none->H' p=some (.lst ((Lm ways ws).map V.int))->Q (.ref p) H')/\(isW L ws=false->∀H',Same H H'->E (.ref b) none H')
def Sg:CalH P w mg base (CXe P w) EE.j14 3 ["house","word"] (W6 K aP):=by
 refine HG.okE EE.j14 L4 (λD H Q E h=>?_) (λW A outer s H D Q E F h=>?_)
 ·obtain⟨h,a,L,af,ways,ws,rfl,_⟩:=h;rfl
 ·left;obtain⟨h,a,L,af,ways,ws,rfl,G,z,hw,X,k,I⟩:=h;right;have Y:=Al;exists _,(Ac (AN (Ah (JZ EE) F.d (JN λ_ _ _ h=>h) (Aa (Aj (ixTD Ap) (pvD 0) Af) (Aa (pvD 1) Ad))))
   (PSs.nox (Ac (An (i:=2) L4.nd (Aj (ixTD Ap) (pvD 0) Af))
   (Ac (An (i:=3) L4.nd (Co (Aa Af Ad)))
   (Ac (BU jR_ rfl (D8 (pvD 1)) (As (i:=4) L4.nd rfl (oQ rfl))
   (Ae (AN (DV jK_ jW_ jX_ BB (pvD 3) (Aa (Aj (ixTD Ap) (Aj (ixTD Ap) (pvD 2) (Aj (ixLD Bo) (pvD 3) (T3 Pu Af))) (pvD 4)) Ad)))))
   (Ae (Ao (pvD 3))))))))
  nofun;left;obtain⟨m,wv,h1,h2,J⟩:=G;right;refine#[_,h1,_,rfl,L,a,ws,rfl,hw,by lia,λq H1 c=>?_,I];nofun;have B:=c.seqT hw;have M:=J.mono c;refine#[_,c.seqT h1,_,rfl,by lia,λp r=>?_];have C:=Same.new r (o:=.lst [V.int 0]);refine#[#[_,C.seqT B],forT (xs:=ws.map V.int) (λi f H2=>Same H1 H2/\H2 p=some (.lst (((oN (i+1)).map λj=>Ax ways (ws.take j)).map V.int))/\∃o,f=[some (.ref h),some (.ref a),some (.ref wv),some (.ref p),o]) #[C,by rw[Ab];simp[Ax],none,rfl] (λi f H2 _ h=>h.1.seqT B) (λi x f H2 e h=>?_) (λf H2 h=>?_)]
  ·left;obtain⟨l,b,o,rfl⟩:=h;obtain⟨n,u,rfl⟩:=JL e;have hi:=(jb_.mp u).1;have e:=AE.mp q n (je_ u);have y:=z.walk q i;obtain⟨Z,g,N,O,R,aa,ab⟩:=z.step y.1 y.2 e.1 e.2;obtain⟨xs,t,S,T,U⟩:=(M.mono l).atZ y.1 N;right;nofun;refine#[.inl #[rfl,_,SqL.of b],_,SqL.of b,_,QU (v:=V.int (Ax ways (ws.take i))) (by simp),?_];nofun;exists _,S,_,T;nofun;refine#[_,U,_,Cf e.1 O,_,b,by simp;lia,l.over r,?_,_,rfl];rw[Ab,show oN (i+1+1)=oN (i+1)++[i+1] from xh_,jn_,jn_,<-R,<-Ib u];rfl
  ·left;obtain⟨l,b,o,rfl⟩:=h;right;nofun;rw[ja_]at b;exact k q p H2 (c.trans l) (c.free r) b
noncomputable def ZJ (K:α3)(b:Addr):Sp:=λc H Q E=>∃(h a:Addr) (L:Int) (af:α2) (ways:α1) (ws:α2),c=[.ref h,.ref a]/\Cp K H h L af ways/\Wf L af ways/\SqT K H a (ws.map V.int)/\ws.length<=600/\(isW L ws=true->∀H',Same H H'->Q (.int (Ax ways ws)) H')/\(isW L ws=false->∀H',Same H H'->E (.ref b) none H')
def Nr:CalH P w mg base (CXe P w) EE.j21 4 ["house","word"] (ZJ K aP):=by
 refine HG.okE EE.j21 Nj (λb H Q E h=>?_) (λn A outer s H b Q E c h=>?_)
 ·obtain⟨h,a,L,af,ways,ws,rfl,_⟩:=h;rfl
 ·left;obtain⟨h,a,L,af,ways,ws,rfl,e,f,hw,g,k,i⟩:=h;right;have o:=Al;exists _,(Ae (Ao (Aj (ixLD Bo) (Ah (Sg EE) c.d (JN λ_ _ _ h=>h) (Aa (pvD 0) (Aa (pvD 1) Ad))) (T3 Pu Af))));nofun;refine#[h,a,L,af,ways,ws,rfl,e,f,hw,g,λj p H1 l _ m=>?_,i];nofun;refine#[_,SqL.of m,_,QU (v:=V.int (Ax ways ws)) ?_,k j H1 l];rw[jh_,ja_,Ou,show ws.length+1-1=ws.length by lia,QT];rfl
noncomputable def Bf (af:α2)(r:Int):Int:=af.getD r.toNat 0
def W7 (a:0<=r)(h1:r<af.length):atI (af.map V.int) r=some (V.int (Bf af r)):=by
 have b:r.toNat<af.length:=by lia
 refine Cf a ?_;unfold Bf;rw[jx_];simp[b]
noncomputable def ZK (K:α3)(b:Addr):Sp:=λc H Q E=>∃(h a:Addr) (L:Int) (af:α2) (ways:α1) (ws:α2),c=[.ref h,.ref a]/\Cp K H h L af ways/\Wf L af ways/\SqT K H a (ws.map V.int)/\ws.length<=600/\(isW L ws=true->∀H',Same H H'->Q (.int (Bf af (Ax ways ws))) H')/\(isW L ws=false->∀H',Same H H'->E (.ref b) none H')
def E1:CalH P w mg base (CXe P w) EE.j22 5 ["house","word"] (ZK K aP):=by
 refine HG.okE EE.j22 Nk (λi H Q E h=>?_) (λp A outer s H i Q E j h=>?_)
 ·obtain⟨h,a,L,af,ways,ws,rfl,_⟩:=h;rfl
 ·left;obtain⟨h,a,L,af,ways,ws,rfl,c,e,hw,l,k,n⟩:=h;right;have q:=Al;exists _,(Ae (Ao (Aj (ixTD Ap) (Aj (ixTD Ap) (pvD 0) Af) (Ah (Nr EE) j.d (JN λ_ _ _ h=>h) (Aa (pvD 0) (Aa (pvD 1) Ad))))));nofun;have o:=c;left;obtain⟨m,wv,h1,h2,r⟩:=c;right;exists _,h1,_,rfl;nofun;refine#[h,a,L,af,ways,ws,rfl,o,e,hw,l,λf H1 g=>?_,n];nofun;have b:=e.walk f ws.length;rw[jz_]at b;exact#[_,g.seqT h2,_,W7 b.1 b.2,k f H1 g]
noncomputable def Qp (C:Addr):Sp:=λa H Q _=>∃(p dx:Addr) (L:Int),a=[.ref p,.int L]/\H p=some (.ins C dx [])/\∀(d:Addr) (H':Hp),H d=none->BookAt C H' p d L []->(∀b o,H b=some o->b≠p->H' b=some o)->Q .non H'
def Lu:⋯ EE.j12 1 ["self","letters"] (Qp ak):=by
 delta EE.j12 Ql
 ·refine e_E h λp=>f_E λdx=>f_E λL=>f_A λg _=>?_;try clear h;subst g;rfl
 ·left;refine e_E h λp=>B6 λdx L i j k=>?_;try clear h;subst i
  right;refine q_EA _ (Ac (C8 (pvD 0) (pvD 1) rfl)
   (Ae (C8 (pvD 0) FD rfl))) ?_
  nofun;refine BC _ _ _ j (AK EE.cl_j1 EE.n_Book_letters (by decide) λd a=>?_);have c:d≠p:=λz=>by rw[z,Ab]at a;cases a
  rw[Ak c]at a;refine BC _ _ _ (by rw[Ak (qs_ c)];exact Ab) (AK EE.cl_j1 EE.n_Book_marks (by simp[putF]) ?_);refine k d _ a #[#[_,Ab],by rw[Ak c];exact Ab,by simp] λb o e f=>?_;rw[Ak f,Ak (Bg e a),Ak f];exact e
noncomputable def Nt (C a b:Addr):Sp:=λc H Q E=>∃(p d t:Addr) (L m:Int) (w:α2) (es:List (α2×Int)),c=[.ref p,.ref t,.int m]/\BookAt C H p d L es/\H t=some (.tup (w.map V.int))/\w.length<=900 /\
 (isW L w=false->∀H',Same H H'->E (.ref a) none H') /\
 (isW L w=true->¬ (0<=m/\m<=1000000000)->∀H',Same H H'->E (.ref b) none H') /\
 (isW L w=true->0<=m->m<=1000000000->∀H',Same H H'->Q .non H')
def D0:CalH P w mg base (CXe P w) EE.j70 3 ["self","word","mark"] (Nt ak aP aQ):=by
 refine HG.okE EE.j70 OQ (λe H Q E h=>?_) (λq A outer s H e Q E b h=>?_)
 ·refine AQ h λp d t L m c es f _=>?_;try clear h;subst f;rfl
 ·left;refine AQ h λp d t L m c es g=>A5 λB i r j l k=>?_;try clear h;subst g
  right;have u:=Al;refine q_EA _ (Ac (AN (Ah (JZ EE) b.d (JN λ_ _ _ h=>h) (Aa (AR (pvD 0) rfl) (Aa (pvD 1) Ad))))
   (Ae (AN (Ah (OW EE) b.d (JN λ_ _ _ h=>h) (Aa (pvD 2) Ad))))) ?_
  left;obtain⟨⟨dx,n⟩,v,x⟩:=id B;right;nofun;refine Ai _ _ _ n EE.cl_j1 EE.n_Book_letters (q_EA _ (Ow _ _) ?_);refine BC L t c rfl (AK (SqT.of i) s!"" (λhw H1 a=>?_) λhw H1 a=>j hw H1 a);nofun;exact A7 m rfl (λo h1=>k hw o h1 _ a) λhm=>l hw hm H1 a
noncomputable def putE (es:List (α2×Int))(v:α2)(m:Int):List (α2×Int):=if v∈es.map (·.1) then es else es++[(v,m)]
def Tp (a:(es.map (·.1)).Nodup)(h:(v,m)∈es):putK (ents es) (wkey v) (.int m)=ents es:=by
 unfold putK;rw[FA,Ds a h,if_pos (by simp)];unfold ents;rw[jJ_];refine jI_ λe b=>?_;show (if wkey e.1=wkey v then (wkey e.1,V.int m) else (wkey e.1,V.int e.2))=(wkey e.1,V.int e.2);split
 ·rename_i z
  have c:e.1=v:=FL z;have h1:=Ds a (show (e.1,e.2)∈es from b);rw[c,Ds a h]at h1;rw[jD_ h1]
 ·rfl
noncomputable def Qq (C a c e:Addr):Sp:=λf H Q E=>∃(p d t:Addr) (L m:Int) (w:α2) (es:List (α2×Int)),f=[.ref p,.ref t,.int m]/\BookAt C H p d L es/\H t=some (.tup (w.map V.int))/\w.length<=900/\es.length<=100000 /\
 (isW L w=false->∀H',Same H H'->E (.ref a) none H') /\
 (isW L w=true->¬ (0<=m/\m<=1000000000)->∀H',Same H H'->E (.ref c) none H') /\
 (isW L w=true->0<=m->m<=1000000000->∀n,(w,n)∈es->n≠m->∀H',Same H H'->E (.ref e) none H') /\
 (isW L w=true->0<=m->m<=1000000000->(∀n,(w,n)∈es->n=m)->∀H',BookAt C H' p d L (putE es w m)->(∀b o,H b=some o->b≠d->H' b=some o)->Q .non H')
def F8:CalH P w mg base (CXe P w) EE.j71 4 ["self","word","mark"] (Qq ak aP aQ bu):=by
 refine HG.okE EE.j71 Q9 (λM H Q E h=>?_) (λY A outer s H M Q E v h=>?_)
 ·refine AQ h λp d t L m w es N _=>?_;try clear h;subst N;rfl
 ·left;refine AX h λp d t L=>Sf λm r es O B G=>A5 λR Z S T U k=>?_;try clear h;subst O
  right;have aa:=Al;refine q_EA _ (Ac (AN (BF (pvD 0) EE.cl_j1 EE.j70.m (D0 EE).g v.d (D0 EE).b .nil (JN λ_ _ _ h=>h) (Aa (pvD 1) (Aa (pvD 2) Ad))))
   (Ac (Bb (ptT (Ay (opN KH) (Wr (GG v) (AR (pvD 0) rfl) (pvD 1) (pvD 2) #[by rfl,by rfl,by rfl,by rfl]) (pvD 2) (AL _)))
   (Ae (EC EE.m_j2 EE.x_j2 rfl rfl (Aa A0 Ad)))
   Az)
   (Ae (GH (GG v) (AR (pvD 0) rfl) (pvD 1) (pvD 2) rfl)))) ?_
  left;obtain⟨⟨dx,I⟩,V,q⟩:=id B;right;nofun;refine AB _ _ I (CJ _ _ (by decide +kernel) (by decide +kernel)) (Bj p d t L (Ai m r es rfl B G (AK R (λhw H1 c=>S hw H1 c) (λhw hm H1 c=>T hw hm H1 c) λhw x h1 H1 c=>?_)));have i:=c _ _ I;have j:=c _ _ V;have y:H1 t=some (.tup ((wkey r).map kV)):=by rw[Bq];exact c _ _ G
  have ab:(ents es).length=es.length:=by unfold ents;rw[ja_]
  have J:p≠d:=λz=>by rw[z,j]at i;cases i
  have u:=DGet.t j y;nofun;by_cases f:r∈es.map (·.1)
  ·left;obtain⟨e,C,rfl⟩:=jp_.mp f;right;have K:=Ds q (show (e.1,e.2)∈es from C);rw[K]at u;refine Ai _ _ _ i EE.cl_j1 EE.n_Book_marks (q_EA _ (Dk _ _) (A7 d rfl (.inr #[_,.inl j]) (A7 _ u rfl ?_)));by_cases hm:e.2=m
   ·refine Bw (by simp[hm]) ?_;refine Ai _ _ _ i EE.cl_j1 EE.n_Book_marks (AH _ (Dk _ _) d rfl _ (DPut.t j y s!"") ?_);rw[Tp q (show (e.1,m)∈es from hm ▸ C)];refine k hw x h1 (λn D=>?_) _ #[#[dx,by rw[Ak J];exact i],by unfold putE;rw[if_pos f];exact Ab,by unfold putE;rw[if_pos f];exact q] λb o l F=>by rw[Ak F];exact c _ _ l
    have h2:=Ds q D;rw[K]at h2;have W:=jD_ h2;simp at W;lia
   ·refine DZ (by simp[hm]) ?_;exact#[by lia,U hw x h1 e.2 C hm H1 c]
  ·rw[GN f]at u;refine Ai _ _ _ i EE.cl_j1 EE.n_Book_marks (q_EA _ (Dk _ _) (A7 d rfl (.inr #[_,.inl j]) (A7 _ u rfl ?_)));refine Bw (by simp) ?_;refine Ai _ _ _ i EE.cl_j1 EE.n_Book_marks (AH _ (Dk _ _) d rfl _ (DPut.t j y s!"") ?_);rw[R3 f];refine k hw x h1 (λn D=>absurd (jp_.mpr (q_EA _ D rfl)) f) _ #[#[dx,by rw[Ak J];exact i],by unfold putE;rw[if_neg f];exact Ab,?_] λb o l F=>by rw[Ak F];exact c _ _ l
   unfold putE;rw[if_neg f,jn_,qm_];refine q_AA q (by simp) λa X b l z=>?_;rw[xn_,jd_]at l;exact f (by have e:a=r:=z.trans l;rw[<-e];exact X)
noncomputable def Qr (C:Addr):Sp:=λa H Q _=>∃(p d t:Addr) (L:Int) (w:α2) (es:List (α2×Int)),a=[.ref p,.ref t]/\BookAt C H p d L es/\H t=some (.tup (w.map V.int))/\(w∉es.map (·.1)->Q .non H)/\∀m,(w,m)∈es->Q (.int m) H
def BD:⋯ EE.j15 1 ["self","word"] (Qr ak):=by
 delta EE.j15 Qm
 ·refine e_E h λp=>CZ λd t L a es f _=>?_;try clear h;subst f;rfl
 ·left;refine AX h λp d t L=>B6 λa es g B=>f_A λi=>f_A λj k=>?_;try clear h;subst g
  right;refine q_EA _ (Ae (Ao (RK (GG hr) (AR (pvD 0) rfl) (pvD 1) #[by rfl,by rfl,by rfl,by rfl]))) ?_;left;obtain⟨⟨dx,l⟩,b,m⟩:=id B;right;have n:H t=some (.tup ((wkey a).map kV)):=by rw[Bq];exact i
  nofun;refine Ai _ _ _ l EE.cl_j1 EE.n_Book_marks (Ar _ (Dk _ _) d rfl (Dq (.inr #[_,.inl b]) _ (DGet.t b n) ?_));by_cases hm:a∈es.map (·.1)
  ·left;obtain⟨e,c,rfl⟩:=jp_.mp hm;right;rw[Ds m (show (e.1,e.2)∈es from c)];exact k e.2 c
  ·rw[GN hm];exact j hm
def Ek (H:Hp)(rs:List V)(es:List (α2×Int)):Prop:=rs.length=es.length/\∀(i:Nat) (a:α2×Int),es[i]?=some a->∃t b,rs[i]?=some (V.ref t)/\H t=some (.tup [.ref b,.int a.2])/\H b=some (.tup (a.1.map V.int))
def Ek.mono (h:Ek H rs es)(k:∀b xs,H b=some (.tup xs)->H' b=some (.tup xs)):Ek H' rs es:=#[h.1,λi a hi=>by
 obtain⟨t,b,c,d,e⟩:=h.2 i a hi;exact AB t b c (k _ _ d) (k _ _ e)]
noncomputable def OX (K:α3)(C:Addr):Sp:=λa H Q _=>∃(p d:Addr) (L:Int) (es:List (α2×Int)),a=[.ref p]/\BookAt C H p d L es/\∀l rs H',Same H H'->H l=none->H' l=some (.lst rs)->Ek H' rs es->Q (.ref l) H'
def D1:⋯ EE.j4 1 ["self"] (OX K ak):=by
 delta EE.j4 OF
 ·refine AX h λp d L es=>f_A λm _=>?_;try clear h;subst m;rfl
 ·left;refine e_E h λp=>f_E λd=>B6 λL es n B k=>?_;try clear h;subst n
  right;refine q_EA _ (Ae (Ao (AA (Ml rfl) rfl EE.list qA_ (Aa (WI (AR (pvD 0) rfl)) Ad)))) ?_;left;obtain⟨⟨dx,q⟩,f,y⟩:=id B;right;nofun;refine Ai _ _ _ q EE.cl_j1 EE.n_Book_marks (AH _ (Dk _ _) d rfl _ (.inl f) λv r=>?_);have c:=Same.new (o:=QW v d) r;refine Ar d Ab _ (.inl (c _ _ f)) λl rs H2 e a s hr=>?_;have u:=c.trans (e.newT (o:=.lst rs) a);refine k l rs _ u (Same.none (c.trans e) a) Ab #[by rw[s];unfold ents;rw[ja_],λi g hi=>?_];refine e_E (hr i (wkey g.1) (.int g.2) (by unfold ents;rw[jh_,hi];rfl)) λt=>f_A λw=>f_E λb=>f_A λx j=>?_;rw[Bq]at j;exact AB t b w ((Same.new a) _ _ x) ((e.newT a) _ _ j)
def W8 (b:α3):V->Option Int->Option Int->Hp->VK->Prop:=λx lo hi H Q=>∃a xs,x=.ref a/\H a=some (.tup xs)/\∀p H',Same H H'->H' p=some (.tup (cutV xs lo hi))->Q (.ref p) H'
def ZL : SlR X (W8 X.K):=by
 intro ae s σ H x v i j lo hi k Q I c d e f h;refine AJ h λa xs l b q=>?_;try clear h;subst l
 by_cases hw:HT.sIx xs.length 0 lo=0/\HT.sIx xs.length xs.length hi=xs.length
 ·cases c;refine e_E (I.tuple (SqT.of b)) λm=>f_A λr=>f_A λg t=>?_;have n:m.toArray.size=xs.length:=by rw[jm_];exact r.length.symm
  refine AB "tuple" _ qa_.lookup g.typeIs ?_;refine HT.getItem_tuple_whole g d e f (by rw[n];exact hw) (AB (.ref a) H I rfl (q a H (Same.refl _) ?_));unfold cutV;rw[hw.1,hw.2,xo_,zh_,jz_];exact b
 ·exact RH ae s σ H (.ref a) v i j lo hi k Q I c d e f (BS a xs rfl (SqT.of b) hw λp o=>q p _ (Same.new o) Ab)
def W8.of {K:α3}{a:Addr}{xs:List V}{m:Nat}{H:Hp}{Q:VK}(b:H a=some (.tup xs))(q:∀p H',Same H H'->H' p=some (.tup (xs.take m))->Q (.ref p) H'):W8 K (.ref a) none (some (m:Int)) H Q:=by
 refine AB a xs rfl b λp H' s' h=>q p H' s' ?_;rw[h];unfold cutV;rw[HT.sIx_nat,HT.sIx_none,xo_,zh_]
 congr 2
 rw[qB];lia
def NW (ys:α2)(m:Nat):cutV (ys.map V.int) (some (m:Int)) none=(ys.drop m).map V.int:=by
 rw[LX];unfold cutI;rw[HT.sIx_nat,HT.sIx_none]
 congr 1
 by_cases h:m<=ys.length
 ·rw[qx h,qg_ (by rw[xl_];lia)]
 ·rw[rM s!"",pX,zp_ s!"",List.take_nil]
def forB {K:α3} (b:Nat->St->Hp->Prop)(c:b 0 σ H)(d:∀i σ H,i<=xs.length->b i σ H->SqB K H t a xs)
  (hs:∀i x σ H,xs[i]?=some x->b i σ H->g x σ H λf H2=>tb {D with nx:=b (i+1),ct:=b (i+1),bk:=D.nx} f H2) (e:∀σ H,b xs.length σ H->D.nx σ H):((∃xs,SqL K H a xs)/\ForW (Itl K a) g tb D σ H)\/((∃xs,SqT K H a xs)/\ForW (Itt K a) g tb D σ H):=by
 cases t
 ·exact .inl #[#[_,d 0 σ H (j8_ _) c],forL b c d hs e]
 ·exact .inr #[#[_,d 0 σ H (j8_ _) c],forT b c d hs e]
noncomputable def Tq (K:α3):Sp:=λc H Q _=>∃(L:Nat) (tb:Bool) (a:Addr) (xs:List V) (b:α1),c=[.int L,.ref a]/\L<=6/\SqB K H tb a xs/\Am K H xs b/\b.length<=100/\(∀w∈b,w.length<=100)/\∀l rs H',Same H H'->H l=none->H' l=some (.lst rs)->Am K H' rs (AU L b)->Q (.ref l) H'
def La:⋯ EE.j17 1 ["letters","access"] (Tq K):=by
 delta EE.j17 Ff
 ·refine CW h λL tb a xs c G _=>?_;try clear h;subst G;rfl
 ·left;refine CW h λL tb a xs c I=>A5 λJ D hw ak M k=>?_;try clear h;subst I
  right;have al:=Al;refine q_EA _ (Ac (Dz (i:=2) Ff.nd rfl (oQ rfl) FD)
   (Ac (BU jR_ rfl (UI (pvD 1)) (As (i:=3) Ff.nd rfl (oQ rfl))
   (Ae (GH (GG hr) (pvD 2) (pvD 3) E9 rfl)))
   (Ac (BU jR_ rfl (UI (pvD 1)) (As (i:=3) Ff.nd rfl (oQ rfl))
   (Ae (BU jR_ rfl (BJ rfl EE.range (Aa (pvD 0) Ad)) (As (i:=4) Ff.nd rfl (oQ rfl))
   (Ae (GH (GG hr) (pvD 2) (AW FG (pvD 3) (BK (Aa (pvD 4) Ad))) E9 rfl)))))
   (Ae (Ao (AA (Ec rfl) rfl EE.list qA_ (Aa (pvD 2) Ad))))))) ?_
  nofun;intro p A;have sp:=Same.new (o:=.dT []) A;obtain⟨g,m⟩:∃g:Nat->St->Hp->Prop,∀i e H',g i e H'↔(∃(b:List (List Key×V)) (o:Option V),Same H H'/\H' p=some (.dT b)/\DH ((c.take i).foldl ins []) b/\e=[some (.int L),some (.ref a),some (.ref p),o,none]):=#[_,λ_ _ _=>qk_];refine forB (t:=tb) (xs:=xs) g ((m _ _ _).mpr (BS ([]) none sp Ab (by rw[xG_];exact DH.nil) rfl)) (λi e H' _ h'=>by refine e_E ((m _ _ _).mp h') λ_=>f_E λ_=>f_A λs' _=>?_;exact D.mono s') (λi x e H' B h'=>?_) (λe H' h'=>?_)
  ·left;refine AJ ((m _ _ _).mp h') λb o s' f=>f_A λd N=>?_;subst N;refine AJ (hw.at B) λt w u O v=>?_;subst O;right;have P:b.length<=100:=by
    have:=Bn (c.take i) [];rw[d.len];simp at this ⊢;lia
   nofun;refine q_EA _ (DPut.t (k:=wkey w) f (by rw[Bq];exact s' _ _ v) s!"") ((m _ _ _).mpr (BS _ _ (s'.over A) Ab ?_ rfl));rw[jF_,u,zn_,qJ_];exact d.put w _
  ·left;refine AJ ((m _ _ _).mp h') λb o s' f=>f_A λd Q=>?_;subst Q;right;rw[hw.1,jz_]at d;nofun;obtain⟨R,n⟩:∃g:Nat->St->Hp->Prop,∀i e H',g i e H'↔(∃(b:List (List Key×V)) (o o':Option V),Same H H'/\H' p=some (.dT b)/\DH (((c.take i).flatMap (extW L)).foldl ins (c.foldl ins [])) b/\e=[some (.int L),some (.ref a),some (.ref p),o,o']):=#[_,λ_ _ _=>qk_];refine forB (t:=tb) (xs:=xs) R ((n _ _ _).mpr (Ai b _ _ s' f (by rw[xG_];exact d) rfl)) (λi e H' _ h'=>by refine e_E ((n _ _ _).mp h') λ_=>f_E λ_=>f_E λ_=>f_A λs' _=>?_;exact D.mono s') (λi x S H2 B h2=>?_) (λS H2 h2=>?_)
   ·left;refine CV ((n _ _ _).mp h2) λb o o' r f d T=>?_;subst T;refine AJ (hw.at B) λt w u U v=>?_;subst U;right;have am:=M w (je_ u);have an:=r _ _ v;nofun;refine q_AA s!"" s!"" ?_;rw[jA_];obtain⟨W,y⟩:∃g:Nat->St->Hp->Prop,∀j e H',g j e H'↔(∃(b:List (List Key×V)) (o':Option V),Same H H'/\H' p=some (.dT b)/\DH (((oN j).map λx:Nat=>w++[(x:Int)]).foldl ins (((c.take i).flatMap (extW L)).foldl ins (c.foldl ins []))) b/\e=[some (.int L),some (.ref a),some (.ref p),some (.ref t),o']):=#[_,λ_ _ _=>qk_];refine forR W ((y _ _ _).mpr (BS b _ r f d rfl)) (λj X Y ao s=>?_) (λX Y s=>?_)
    ·left;refine AJ ((y _ _ _).mp s) λb o' z f=>f_A λd Z=>?_;subst Z;right;have aa:(0:Int)+(j:Nat)=(j:Int):=by lia
     rw[aa];have ab:=z _ _ v;have P:b.length<=10000:=by
      have h1:=Bn ((oN j).map λx:Nat=>w++[(x:Int)]) (((c.take i).flatMap (extW L)).foldl ins (c.foldl ins []));have h2:=Bn ((c.take i).flatMap (extW L)) (c.foldl ins []);have s:=Bn c [];have ap:((c.take i).flatMap (extW L)).length<=600:=by
       rw[xD_];have:(c.take i).map (λa=>(extW L a).length)=(c.take i).map (λ_=>L):=jI_ λa _=>by simp[extW]
       rw[this,qy,zq_];have:(c.take i).length<=100:=by rw[jC_];lia
       exact qo_ (qn_ this J) s!""
      rw[d.len];simp at h1 s;lia
     nofun;refine#[by lia,λaq E=>?_];refine Eb.ofS (Same.new E _ _ ab) Ab (by simp;lia) λq ac ad ae=>?_;have F:=(Same.new (o:=.tup [V.int (j:Int)]) E).trans ad;have af:ac q=some (.tup ((wkey (w++[(j:Int)])).map kV)):=by rw[Bq,ae];simp
     refine q_EA _ (DPut.t (k:=wkey (w++[(j:Int)])) (F _ _ f) af s!"") ((y _ _ _).mpr (BS _ _ ((z.trans F).over A) Ab ?_ rfl));rw[xh_,jn_,qJ_];exact d.put _ _
    ·left;refine AJ ((y _ _ _).mp s) λb o' z f=>f_A λd ag=>?_;subst ag;right;refine (n _ _ _).mpr (Ai b _ _ z f ?_ rfl);rw[jF_,u,zn_,qP,qJ_];simpa [extW] using d
   ·left;refine CV ((n _ _ _).mp h2) λb o o' r f d ah=>?_;subst ah;right;rw[hw.1,jz_]at d;nofun;refine q_EA b (.inl f) λl rs C ai aj=>?_;exact k l rs _ (r.newT C) (Same.none r C) Ab ((d.words (K:=K) ai aj).mono (TK.new C))
noncomputable def W9 (K:α3):Sp:=λd H Q _=>∃(L:Nat) (a e:Addr) (xs ys:List V) (b c:α1),d=[.int L,.ref a,.ref e]/\L<=6/\SqL K H a xs/\Am K H xs b/\b.length<=100/\(∀w∈b,w.length<=100)/\SqL K H e ys/\Am K H ys c/\c.length<=100/\(∀w∈c,w.length<=500)/\∀l rs H',Same H H'->H l=none->H' l=some (.lst rs)->Am K H' rs (Ed (AU L b) c)->Q (.ref l) H'
def Rb (d:L<=6)(e:acc.length<=100)(b:∀w∈acc,w.length<=100):(AU L acc).length<=700/\∀w∈AU L acc,w.length<=101:=by
 have c:∀(l s:α1) (w:α2),w∈l.foldl ins s->w∈s\/w∈l:=by
  intro l
  induction l with
  |nil=>intro s w h;exact .inl h
  |cons v l f=>
   intro s w h;rw[xf_]at h;rcases f _ _ h with h|h
   ·unfold ins at h;split at h
    ·exact .inl h
    ·rcases jr_.mp h with h|h
     ·exact .inl h
     ·rw[jd_.mp h];exact .inr jt_
   ·exact .inr (jo_ _ h)
 refine#[?_,λw hw=>?_]
 ·have h2:=Bn (acc.flatMap (extW L)) (acc.foldl ins []);have g:=Bn acc [];have j:(acc.flatMap (extW L)).length<=600:=by
   rw[xD_];have:acc.map (λa=>(extW L a).length)=acc.map (λ_=>L):=jI_ λa _=>by simp[extW]
   rw[this,qy,zq_];exact qo_ (qn_ e d) s!""
  unfold AU;simp at g;lia
 ·unfold AU at hw;rcases c _ _ _ hw with h|h
  ·rcases c _ _ _ h with h|h
   ·simp at h
   ·have:=b w h;lia
  ·obtain⟨v,i,h⟩:=xE_.mp h;obtain⟨x,_,rfl⟩:=jp_.mp h;have:=b v i;simp;lia
def Xa:⋯ EE.j18 2 ["letters","access","ends"] (W9 K):=by
 delta EE.j18 L5
 ·refine AQ h λL a e xs ys D c af _=>?_;try clear h;subst af;rfl
 ·left;refine AQ h λL a e xs ys D c ag=>f_A λQ=>Bt λah hw R S T U ai aj k=>?_;try clear h;subst ag
  have aJ:=Al;obtain⟨ak,W⟩:=Rb Q R S;right;refine q_EA _ (Ac (Dz (i:=3) L5.nd rfl (oQ rfl) FD)
   (Ac (BU jR_ rfl (BZ (Ah (La EE) hr.d Au (Aa (pvD 0) (Aa (pvD 1) Ad)))) (As (i:=4) L5.nd rfl (oQ rfl))
   (Ae (BU jR_ rfl (BZ (pvD 2)) (As (i:=5) L5.nd rfl (oQ rfl))
   (Ae (GH (GG hr) (pvD 3) (AW FG (pvD 4) (pvD 5)) E9 rfl)))))
   (Ae (Ao (AA (Ec rfl) rfl EE.list qA_ (Aa (pvD 3) Ad)))))) ?_
  nofun;intro p X;have sp:=Same.new (o:=.dT []) X;refine AI L false a xs D (AF rfl Q (sp.seq ah) (hw.mono (TK.of sp)) R S λr rs H1 Y Z hr E=>?_);generalize AU L D=f at ak W E k;have al:=sp.trans Y;have aK:H r=none:=Same.none sp Z;have am:=Y _ _ (Ab (H:=H) (a:=p) (o:=.dT []));nofun;exists #[_,SqL.of hr];have an:r≠p:=(Ea Z).2;obtain⟨ao,s⟩:∃F:Nat->St->Hp->Prop,∀i m H',F i m H'↔(∃(b:List (List Key×V)) (o o':Option V),Same H H'/\H' r=some (.lst rs)/\Am K H' rs f/\H' p=some (.dT b)/\DH (((f.take i).flatMap λr=>c.map (r ++ ·)).foldl ins []) b/\m=[some (.int L),some (.ref a),some (.ref e),some (.ref p),o,o']):=#[_,λ_ _ _=>qk_];refine forL (xs:=rs) ao ((s _ _ _).mpr (Ai ([]) _ _ al hr E (q_AA am (by rw[xG_];exact DH.nil) rfl))) (λi m H' _ h'=>by refine e_E ((s _ _ _).mp h') λ_=>B6 λ_ _ _ q _=>?_;exact SqL.of q) (λi x ap H2 aq h2=>?_) (λap H2 h2=>?_)
  ·left;refine Ej ((s _ _ _).mp h2) λb o o' z aa G n=>f_A λg ar=>?_;subst ar;refine AJ (G.at aq) λt w ab as au=>?_;subst as;right;have aL:=W w (je_ ab);nofun;exists #[_,z.seq T];obtain⟨av,A⟩:∃F:Nat->St->Hp->Prop,∀j m H',F j m H'↔(∃(b:List (List Key×V)) (o':Option V),Same H H'/\H' r=some (.lst rs)/\Am K H' rs f/\H' t=some (.tup (w.map V.int))/\H' p=some (.dT b)/\DH (((c.take j).map (w ++ ·)).foldl ins (((f.take i).flatMap λr=>c.map (r ++ ·)).foldl ins [])) b/\m=[some (.int L),some (.ref a),some (.ref e),some (.ref p),some (.ref t),o']):=#[_,λ_ _ _=>qk_];refine forL (xs:=ys) av ((A _ _ _).mpr (BS b _ z aa G (AK au n (by rw[xG_];exact g) rfl))) (λj m H' _ h'=>by refine e_E ((A _ _ _).mp h') λ_=>f_E λ_=>f_A λs' _=>?_;exact s'.seq T) (λj y aw ax ay I=>?_) (λaw ax I=>?_)
   ·left;refine Ie ((A _ _ _).mp I) λb o' C J M N n g az=>?_;subst az;refine AJ (U.at ay) λu v ac aA aB=>?_;subst aA;right;have aM:=aj v (je_ ac);have aN:b.length<=100000:=by
     have h1:=Bn ((c.take j).map (w ++ ·)) (((f.take i).flatMap λr=>c.map (r ++ ·)).foldl ins []);have h2:=Bn ((f.take i).flatMap λr=>c.map (r ++ ·)) [];have aO:((f.take i).flatMap λr=>c.map (r ++ ·)).length<=70000:=by
      rw[xD_];have:(f.take i).map (λa=>(c.map (a ++ ·)).length)=(f.take i).map (λ_=>c.length):=jI_ λa _=>by simp
      rw[this,qy,zq_];have:(f.take i).length<=700:=by rw[jC_];lia
      exact qo_ (qn_ this ai) s!""
     rw[g.len];rw[ja_,jC_]at h1;rw[xu_,z1_]at h2;lia
    nofun;refine Eb.ofS N (C _ _ aB) (by simp;lia) λq O B aC=>?_;have aD:O q=some (.tup ((wkey (w++v)).map kV)):=by rw[Bq,aC];simp
    have ad:=B _ _ n;have ae:TK O (upd O p (.dT (putK b (wkey (w++v)) (V.bl true)))):=TK.dT ad;refine q_EA _ (DPut.t (k:=wkey (w++v)) ad aD s!"") ((A _ _ _).mpr (BS _ _ ((C.trans B).over X) (by rw[Ak an];exact B _ _ J) ((M.mono (TK.of B)).mono ae) (AK (ae _ _ (B _ _ N)) Ab ?_ rfl)));rw[jF_,ac,zn_,jn_,qJ_];exact g.put _ _
   ·left;refine Ie ((A _ _ _).mp I) λb o' C J M N n g aE=>?_;subst aE;right;rw[U.1,jz_]at g;refine (s _ _ _).mpr (Ai b _ _ C J M (q_AA n ?_ rfl));rw[jF_,ab,zn_,qP,qJ_];simpa using g
  ·left;refine Ej ((s _ _ _).mp h2) λb o o' z aa G n=>f_A λg aF=>?_;subst aF;right;rw[E.1,jz_]at g;nofun;refine q_EA b (.inl n) λl aG P aH aI=>?_;exact k l aG _ (z.newT P) (Same.none z P) Ab ((g.words (K:=K) aH aI).mono (TK.new P))
noncomputable def mkO (es:List (α2×Int))(w:α2):Option Int:=(es.find? λe=>decide (e.1=w)).map (·.2)
noncomputable def oV:Option Int->V
 |some m=>.int m
 |none=>.non
def D5:∀{es:List (α2×Int)} {w:α2} {m:Int},(es.map (·.1)).Nodup->(w,m)∈es->mkO es w=some m
 |[],_,_,_,h=>by cases h
 |e::es,w,m,a,h=>by
  rw[jT_,qb_]at a;unfold mkO;rw[q0_];rcases jw_.mp h with h|h
  ·subst h;simp
  ·have b:e.1≠w:=λz=>a.1 (by rw[z];exact qX_ (f:=(·.1)) h);rw[jQ_ b];exact D5 a.2 h
def Ig {es:List (α2×Int)}{w:α2}(h:w∉es.map (·.1)):mkO es w=none:=by
 unfold mkO;rw[qf_.mpr λe a z=>h (by have:=j0_ z;rw[<-this];exact qX_ (f:=(·.1)) a)];rfl
noncomputable def Tr (K:α3)(C:Addr):Sp:=λc H Q _=>∃(p d t a:Addr) (L:Int) (w:α2) (es:List (α2×Int)) (xs:List V) (b:α1),c=[.ref p,.ref t,.ref a]/\BookAt C H p d L es/\H t=some (.tup (w.map V.int))/\w.length<=100/\SqL K H a xs/\Am K H xs b/\b.length<=100/\(∀e∈b,e.length<=500)/\∀l H',Same H H'->H' l=some (.lst (b.map λe=>oV (mkO es (w++e))))->Q (.ref l) H'
def Rc:⋯ EE.j25 2 ["book","word","ends"] (Tr K ak):=by
 delta EE.j25 Q7
 ·refine AX h λp d t a=>CZ λL l es xs f w _=>?_;try clear h;subst w;rfl
 ·left;refine e_E h λp=>CY λd t a L=>CY λl es xs f=>Bt λy B z S s n T A k=>?_;try clear h;subst y
  right;have U:=Al;refine q_EA _ (Ae (Ao (Bh rfl (Bz rfl) (cp:=Lq) #[#[rfl,rfl],#[#[rfl,rfl],oO]] (BZ (pvD 2)) (λ_ _ _ _=>(As (i:=0) MC rfl (oQ rfl))) (λ_ _ _ _=>By) (λ_ _ _ _=>(BF (pvD 1) EE.cl_j1 EE.j15.m (BD EE).g hr.d (BD EE).b .nil Au (Aa (AW (Mm (K:=K) rfl) (pvD 2) (pvD 0)) Ad)))))) ?_;nofun;left;obtain⟨⟨dx,C⟩,V,E⟩:=id B;right;refine#[#[_,s],Nb (xs:=xs) (λi ys j H'=>Same H H'/\ys=(f.take i).map (λe=>oV (mkO es (l++e)))/\∃o,j=[o,some (.ref p),some (.ref t)]) (Br (Same.refl _) rfl none rfl) (by rw[n.1];lia) (λi ys j H' hi h'=>#[h'.1.seq s,by rw[h'.2.1,ja_,jC_];lia]) (λi x ys j H' F h'=>?_) (λys j H' h' D G=>?_)]
  ·left;refine BI h' λc I o J=>?_;try clear h';subst I;subst J
   refine AJ (n.at F) λte e u M N=>?_;subst M;right;have W:=A e (je_ u);have v:f.take (i+1)=f.take i++[e]:=by rw[jF_,u];rfl
   nofun;refine AB _ _ (c _ _ C) (CJ _ _ (by decide +kernel) (by decide +kernel)) (Eb.ofS (c _ _ z) (c _ _ N) (by simp;lia) λq H2 O P=>?_);have r:=c.trans O;refine Bj p d q L (AO (l++e) es rfl (B.mono r) (by rw[jn_];exact P) (λhm=>Br r ?_ _ rfl) λm hm=>Br r ?_ _ rfl)
   ·rw[v,jn_,xn_,Ig hm];rfl
   ·rw[v,jn_,xn_,D5 E hm];rfl
  ·left;refine BI h' λc Q o R=>?_;try clear h';subst Q;subst R
   right;rw[n.1,jz_];exact k D _ (c.newT G) Ab
def C0 (H:Hp)(f:α2->List V)(ks:α1)(kvs:List (List Key×V)):Prop:=kvs.length=ks.length/\∀(i:Nat) (w:α2),ks[i]?=some w->∃t,kvs[i]?=some (wkey w,.ref t)/\H t=some (.tup (f w))
def C0.nil : C0 H f [] []:=#[rfl,λi w h=>by simp at h]
def C0.mono (h:C0 H f ks kvs)(s:∀t ys,H t=some (.tup ys)->H' t=some (.tup ys)):C0 H' f ks kvs:=#[h.1,λi w hi=>by
 obtain⟨t,a,b⟩:=h.2 i w hi;exact q_EA t a (s _ _ b)]
def C0.snoc {H:Hp}{f:α2->List V}{ks:α1}{kvs:List (List Key×V)}{w:α2}{t:Addr}(h:C0 H f ks kvs)(b:H t=some (.tup (f w))):C0 H f (ks++[w]) (kvs++[(wkey w,.ref t)]):=by
 refine#[by simp[h.1],λi r hi=>?_];by_cases a:i<ks.length
 ·rw[ji_ a]at hi;rw[ji_ (by rw[h.1];exact a)];exact h.2 i r hi
 ·have:=(jb_.mp hi).1;rw[jk_,jB_]at this;have e:i=ks.length:=by lia
  subst e;rw[ju_ (jf_ _),qK_]at hi;simp at hi;subst hi;exact q_EA t (by rw[<-h.1];simp) b
def C0.keys (h:C0 H f ks kvs):DH ks kvs:=by
 refine qH_ λi=>?_;rw[jh_,jh_];cases e:ks[i]? with
 |none=>
  have:kvs[i]?=none:=j5_ (by rw[h.1];exact List.getElem?_eq_none_iff.mp e);rw[this];rfl
 |some w=>
  obtain⟨t,a,_⟩:=h.2 i w e;rw[a];rfl
def Vv {s:α1}{w:α2}(h:s.Nodup):(ins s w).Nodup:=by
 unfold ins;split
 ·exact h
 ·rename_i hw
  rw[qm_];refine q_AA h (by simp) λa c b d z=>?_;rw[jd_.mp d]at z;exact hw (z ▸ c)
def CG:∀{l s:α1},s.Nodup->(l.foldl ins s).Nodup
 |[],_,h=>h
 |w::l,s,h=>by rw[xf_];exact CG (Vv h)
def MG (n:Nat)(acc:α1):(AU n acc).Nodup:=CG (CG zz_)
def Vw (n:Nat):∀(acc:α1),(acc.flatMap (extW n)).length<=acc.length*n
 |[]=>by simp
 |w::acc=>by
  rw[rB,jk_,jG_,qk];have h1:=Vw n acc;have h2:(extW n w).length=n:=by unfold extW;simp
  lia
def MK (n:Nat)(acc:α1):(AU n acc).length<=acc.length+acc.length*n:=by
 unfold AU;have h1:=Bn (acc.flatMap (extW n)) (acc.foldl ins []);have h2:=Bn acc [];have a:=Vw n acc;simp at h2;lia
def Xb {s:α1}{w:α2}{m:Nat}(h:∀v∈s,v.length<=m)(hw:w.length<=m):∀v∈ins s w,v.length<=m:=λv a=>by
 unfold ins at a;split at a
 ·exact h v a
 ·rcases jr_.mp a with a|a
  ·exact h v a
  ·rw[jd_.mp a];exact hw
def JC {m:Nat}:∀{l s:α1},(∀v∈s,v.length<=m)->(∀v∈l,v.length<=m)->∀v∈l.foldl ins s,v.length<=m
 |[],_,h,_=>h
 |w::l,s,h,a=>by rw[xf_];exact JC (Xb h (a w (by simp))) (λv b=>a v (by simp[b]))
def NX (h:∀w∈acc,w.length<=m):∀w∈AU n acc,w.length<=m+1:=by
 unfold AU;refine JC (JC (by simp) λv a=>by have:=h v a;lia) λv a=>?_;obtain⟨u,b,a⟩:=xE_.mp a;unfold extW at a;obtain⟨x,_,rfl⟩:=jp_.mp a;have:=h u b;rw[jk_,jB_];lia
noncomputable def BS_ (K:α3)(C:Addr):Sp:=λh H Q _=>∃(p d a b:Addr) (L:Int) (N:Nat) (es:List (α2×Int)) (xs ys:List V) (c f:α1),h=[.ref p,.int N,.ref a,.ref b]/\BookAt C H p d L es/\N<=6/\SqL K H a xs/\Am K H xs c/\c.length<=64/\(∀w∈c,w.length<=64)/\SqL K H b ys/\Am K H ys f/\f.length<=50/\(∀e∈f,e.length<=500)/\∀l g H',Same H H'->H l=none->H' l=some (.dT g)->C0 H' (λw=>f.map λe=>oV (mkO es (w++e))) (AU N c) g->Q (.ref l) H'
def Hj:⋯ EE.j26 3 ["book","letters","access","ends"] (BS_ K ak):=by
 delta EE.j26 Eg
 ·refine AX h λp d a b=>Fm λL N es xs ys g E Y _=>?_;try clear h;subst Y;rfl
 ·left;refine AX h λp d a b=>CY λL N es xs=>Sf λys g E Z B O=>Bt λaa ab ac P ad ae az af k=>?_;try clear h;subst Z
  right;have aA:=Al;refine q_EA _ (Ac (Dz (i:=4) Eg.nd rfl (oQ rfl) FD)
   (Ac (BU jR_ rfl (BZ (Ah (La EE) hr.d Au (Aa (pvD 1) (Aa (pvD 2) Ad)))) (As (i:=5) Eg.nd rfl (oQ rfl))
   (Ae (GH (GG hr) (pvD 4) (pvD 5) (AA AM rfl EE.tuple jE_ (Aa (Ah (Rc EE) hr.d Au (Aa (pvD 0) (Aa (pvD 5) (Aa (pvD 3) Ad)))) Ad)) rfl)))
   (Ae (Ao (pvD 4))))) ?_
  nofun;intro m hm;have I:=Same.new hm (o:=.dT []);refine AI N false a xs g (AF rfl O (I.seq aa) (ab.mono (λ_ _ z=>I _ _ z)) s!"" (λw hw=>by have:=P w hw;lia) λr rs H1 Q aB R J=>A7 r rfl #[_,SqL.of R] ?_);have ag:=Q _ _ (show upd H m (.dT []) m=some (.dT []) from Ab);have ah:=I.trans Q;have ai:=MK N g;have S:=NX (n:=N) P;have T:=MG N g;have aj:(AU N g).length<=500:=by
   have:g.length*N<=64*6:=qn_ ac O;lia
  have U:=k;generalize AU N g=y at J aj S T U;clear k ai;obtain⟨M,A⟩:∃M:Nat->St->Hp->Prop,∀i C H',M i C H'↔(∃(f:List (List Key×V)) (o:Option V),Same H H'/\H' r=some (.lst rs)/\TK H1 H'/\H' m=some (.dT f)/\C0 H' (λw=>E.map λe=>oV (mkO es (w++e))) (y.take i) f/\C=[some (.ref p),some (.int N),some (.ref a),some (.ref b),some (.ref m),o]):=#[_,λ_ _ _=>qk_];refine forL (xs:=rs) M ((A _ _ _).mpr (AB ([]) none ah R (AK (TK.refl _) ag (by rw[xG_];exact C0.nil) rfl))) (λi C H' _ h'=>by refine AJ ((A _ _ _).mp h') λ_ _ _ h2 _=>?_;exact SqL.of h2) (λi x C H' al h'=>?_) (λC H' h'=>?_)
  ·left;refine e_E ((A _ _ _).mp h') λf=>f_E λo=>A5 λs' F D s u am=>?_;subst am;refine AJ (J.at al) λt w G an W=>?_;subst an;right;have hi:=(jb_.mp G).1;have aC:=S w (je_ G);have ao:y.take (i+1)=y.take i++[w]:=by rw[jF_,G];rfl
   have ap:w∉y.take i:=λz=>by
    obtain⟨j,aq,X⟩:=j3_ z;rw[jC_]at aq;rw[rC]at X;have:=(pQ (h₀:=(show j<y.length by lia)) (h₁:=hi) T).mp (by rw[X];exact ((jb_.mp G).2).symm);lia
   have ar:valV f (wkey w)=none:=by
    have:=u.keys.some_iff w;rw[jQ_ ap]at this;cases e:valV f (wkey w) with
    |none=>rfl
    |some v=>rw[e]at this;cases this
   have aD:f.length<=500:=by rw[u.1,jC_];lia
   nofun;refine AI p d t b L (AY w es ys E rfl (B.mono s') (AF (D _ _ W) s!"" (s'.seq ad) (ae.mono (λ_ _ z=>s' _ _ z)) s!"" (λe as=>by have:=af e as;lia) λl H2 au av=>DL l rfl _ (.inl #[SqL.of av,λaw ax=>?_])));have q:=au.newT ax (o:=.tup (E.map λe=>oV (mkO es (w++e))));refine q_EA _ (DPut.t (k:=wkey w) (q _ _ s) (by rw[Bq];exact q _ _ (D _ _ W)) s!"") ((A _ _ _).mpr (AB _ _ ((s'.trans q).over hm) ?_ (AK (λc zs z=>?_) Ab ?_ rfl)))
   ·rw[Ak (λz=>by rw[z,s]at F;cases F)];exact q _ _ F
   ·rw[Ak (λe=>by have:=D _ _ z;rw[e,s]at this;cases this)];exact q _ _ (D _ _ z)
   ·rw[RI _ ar,ao];exact ((u.mono λc zs z=>q _ _ z).snoc (t:=aw) Ab).mono λc zs z=>by
     rw[Ak (λe=>by rw[e,q _ _ s]at z;cases z)];exact z
  ·left;refine e_E ((A _ _ _).mp h') λf=>f_E λo=>A5 λs' F D s u ay=>?_;subst ay;right;rw[J.1,jz_]at u;nofun;exact U m f _ s' hm s u
def C0.get {H:Hp}{f:α2->List V}{ks:α1}{kvs:List (List Key×V)}(h:C0 H f ks kvs){w:α2}(hw:w∈ks):∃t,valV kvs (wkey w)=some (.ref t)/\H t=some (.tup (f w)):=by
 have c:=h.keys.some_iff w;rw[jH_ hw]at c;unfold valV at c ⊢;cases e:kvs.find? (λd=>decide (d.1=wkey w)) with
 |none=>rw[e]at c;cases c
 |some d=>
  have h1:d.1=wkey w:=by have:=xg_ e;simpa using this
  obtain⟨i,hi,j⟩:=j3_ (qC_ e);have k:i<ks.length:=by rw[<-h.1];exact hi
  obtain⟨t,a,b⟩:=h.2 i ks[i] (by simp[k]);rw[jg_ hi,j]at a;have g:=jD_ a;rw[g]at h1;have:ks[i]=w:=FL h1;rw[this]at b;exact q_EA t (by rw[g];rfl) b
def Xc {s:α1}{w v:α2}:v∈ins s w↔v∈s\/v=w:=by
 unfold ins;split
 ·rename_i h
  exact#[.inl,λz=>z.elim id λe=>e ▸ h]
 ·simp
def F9:∀{l s:α1} {v:α2},v∈l.foldl ins s↔v∈s\/v∈l
 |[],s,v=>by simp
 |w::l,s,v=>by
  rw[xf_,F9,Xc,jw_,or_assoc]
def Ga {n:Nat}{acc:α1}{w:α2}(h:w∈acc):w∈AU n acc:=by
 unfold AU;exact F9.mpr (.inl (F9.mpr (.inr h)))
noncomputable def Ts (K:α3)(C:Addr):Sp:=λh H Q _=>∃(p d a b:Addr) (L:Int) (N:Nat) (es:List (α2×Int)) (xs ys:List V) (c f:α1) (g:α2->α2),h=[.ref p,.int N,.ref a,.ref b]/\BookAt C H p d L es/\N<=6/\SqL K H a xs/\Am K H xs c/\c.length<=64/\(∀w∈c,w.length<=64)/\SqL K H b ys/\Am K H ys f/\f.length<=50/\(∀e∈f,e.length<=500)/\(∀w∈AU N c,(f.map λe=>oV (mkO es (w++e)))=(g w).map V.int)/\(∀w t H',(AU N c).find? (λw=>decide (g w∉c.map g))=some w->Same H H'->H' t=some (.tup (w.map V.int))->Q (.ref t) H')/\∀H',(AU N c).find? (λw=>decide (g w∉c.map g))=none->Same H H'->Q .non H'
def Rf:⋯ EE.j27 4 ["book","letters","access","ends"] (Ts K ak):=by
 delta EE.j27 FY
 ·refine e_E h λp=>CY λd a b L=>Fm λN es xs ys l Y g ao _=>?_;try clear h;subst ao;rfl
 ·left;refine AX h λp d a b=>CY λL N es xs=>CY λys l Y g=>A5 λap B aq Z E=>Bt λar as au av aw ax F k aa=>?_;try clear h;subst ap
  right;have aT:=Al;refine q_EA _ (Ac (Dz (i:=4) FY.nd rfl (o9 rfl) (Ah (Hj EE) hr.d Au (Aa (pvD 0) (Aa (pvD 1) (Aa (pvD 2) (Aa (pvD 3) Ad))))))
   (Ac (QO (i:=5) FY.nd rfl rfl rfl (Bz rfl) (cp:=Lr) #[#[rfl,rfl],oO] (BZ (pvD 2)) (λ_ _ _ _=>(As (i:=0) ME rfl (oQ rfl))) (λ_ _ _ _=>By) (λ_ _ _ _=>(Mg (GG hr) (pvD 1) (pvD 0) (λ_ _=>rfl))))
   (Ac (BU jR_ rfl (Wz (pvD 4)) (As (i:=6) FY.nd rfl (oQ rfl))
   (Ae (Bb (ptT (Ay (P5 (hu9 hr)) (Mg (GG hr) (pvD 4) (pvD 6) (λ_ _=>rfl)) (pvD 5) rfl))
   (Ae (Ao (pvD 6)))
   Az)))
   (Ae (Ao Ck))))) ?_
  nofun;refine Bj p d a b (BX L N es xs ys l (Dx Y rfl B aq Z E (AF ar as au av aw ax λm G H1 M ay hm r=>?_)));nofun;have ab:=k;have ac:=aa;have O:∀w∈l,w∈AU N l:=λw h=>Ga h;generalize AU N l=f at r F ab ac O;clear k aa;have ad:=M.seq Z;have az:Am K H1 xs l:=E.mono (TK.of M);refine#[#[_,ad],Nb (xs:=xs) (λi ys n H'=>H'=H1/\Am K H1 ys ((l.take i).map g)/\∃o,n=[o,some (.ref m)]) (Br rfl Am.nil none rfl) (by rw[E.1];lia) (λi ys n H' hi h'=>#[by rw[h'.1];exact ad,by rw[h'.2.1.1,ja_,jC_];lia]) (λi x ys n H' aA h'=>?_) (λys n H' h' D P=>?_)]
  ·left;refine BI h' λaB I o aC=>?_;try clear h';subst aB;subst aC
   refine AJ (az.at aA) λt w s aD aE=>?_;subst aD;have v:=je_ s;obtain⟨u,aF,ae⟩:=r.get (O w v);right;have Q:l.take (i+1)=l.take i++[w]:=by rw[jF_,s];rfl
   rw[F w (O w v)]at ae;nofun;have aG:DGet H' m (.ref t) (some (.ref u)):=by rw[<-aF];exact DGet.t (k:=wkey w) hm (by rw[Bq];exact aE)
   refine#[_,Br aG ?_ _ rfl];rw[Q,jn_];exact I.snoc ae
  ·left;refine BI h' λaH I o aI=>?_;try clear h';subst aH;subst aI
   right;rw[E.1,jz_]at I;have R:=Same.new P (o:=.lst ys);have aJ:=R _ _ hm;refine q_EA G aJ λS=>?_;have aK:D≠m:=λz=>by rw[z,hm]at P;cases P
   obtain⟨q,y⟩:∃q:Hp,q=upd (upd H' D (.lst ys)) m (.frz S (.dT G)):=#[_,rfl];rw[<-y];have af:q m=some (.frz S (.dT G)):=by rw[y];exact Ab
   have ag:TK H' q:=λc zs z=>by rw[y,Ak (λe=>by rw[e,hm]at z;cases z)];exact R _ _ z
   have aL:q D=some (.lst ys):=by rw[y,Ak aK];exact Ab
   have ah:Same H q:=by rw[y];exact (M.trans R).over ay
   obtain⟨T,A⟩:∃T:Nat->St->Hp->Prop,∀i n H',T i n H'↔(H'=q/\(∀w∈f.take i,g w∈l.map g)/\∃o,n=[some (.ref p),some (.int N),some (.ref a),some (.ref b),some (.ref m),some (.ref D),o]):=#[_,λ_ _ _=>qk_];refine forD T ((A _ _ _).mpr (Br rfl (λw hw=>by rw[xG_]at hw;cases hw) none rfl)) (λi ai H2 _ h2=>by rw[((A _ _ _).mp h2).1];exact af) (λi aU aV aj ai H2 al h2 U=>?_) (λai H2 h2=>?_)
   ·refine BI ((A _ _ _).mp h2) λaM C aN aO=>?_;subst aM;subst aO;have hi:i<f.length:=by rw[<-r.1];exact (jb_.mp al).1
    have s:f[i]?=some f[i]:=by simp[hi]
    obtain⟨t,am,an⟩:=r.2 i _ s;have v:=je_ s;rw[al]at am;cases am;replace an:H' t=some (.tup ((g f[i]).map V.int)):=by rw[<-F _ v];exact an
    rw[Bq]at U;have Q:f.take (i+1)=f.take i++[f[i]]:=by rw[jF_,s];rfl
    nofun;obtain⟨W,aP,X⟩:=r.get v;replace X:H' W=some (.tup ((g f[i]).map V.int)):=by rw[<-F _ v];exact X
    refine Ar (V.ref W) (.inr (Ai G (wkey f[i]) aj (.inr #[S,af]) rfl (by rw[Bq];exact U) aP.symm)) W rfl (BH _ (SqL.of aL) (g f[i]) (l.map g) (I.mono ag) (SqT.of (ag _ _ X)) ?_);by_cases J:g f[i]∈l.map g
    ·refine Bw (by rw[jH_ J];decide) ?_;refine (A _ _ _).mpr (Br rfl (λw hw=>?_) _ rfl);rw[Q]at hw;rcases jr_.mp hw with hw|hw
     ·exact C w hw
     ·rw[jd_.mp hw];exact J
    ·refine DZ (by rw[jQ_ J];rfl) ?_;refine ab f[i] aj _ (List.find?_eq_some_iff_getElem.mpr #[jH_ J,i,q_EA hi rfl λj aQ=>?_]) ah U;have:=C f[j] (jN_.mpr #[j,by rw[q5_,if_pos aQ];simp[show j<f.length by lia]]);rw[jQ_ (not_not_intro this)];rfl
   ·left;refine BI ((A _ _ _).mp h2) λaR C aN aS=>?_;subst aR;subst aS;right;rw[r.1,jz_]at C;nofun;refine ac _ (qf_.mpr λw hw=>?_) ah;simp[C w hw]
def ML (xs:List V)(m:Nat):cutV xs none (some (m:Int))=xs.take m:=by
 unfold cutV;rw[HT.sIx_nat,HT.sIx_none,xo_,zh_,qB];lia
def Rg (u:α2):cutV (u.map V.int) none (some (-1))=u.dropLast.map V.int:=by
 unfold cutV;rw[HT.sIx_none,xo_,zh_];have:HT.sIx (u.map V.int).length (u.map V.int).length (some (-1))=u.length-1:=by
  unfold HT.sIx;simp;lia
 rw[this,List.dropLast_eq_take,qS]
def ZM (a:(es.map (·.1)).Nodup)(w:α2):(valV (ents es) (wkey w)).getD V.non=oV (mkO es w):=by
 by_cases h:w∈es.map (·.1)
 ·obtain⟨e,b,rfl⟩:=jp_.mp h;rw[Ds a (show (e.1,e.2)∈es from b),D5 a (show (e.1,e.2)∈es from b)];rfl
 ·rw[GN h,Ig h];rfl
def Vx (h:mkO es v=some m):(v,m)∈es:=by
 unfold mkO at h;cases a:es.find? λe=>decide (e.1=v) with
 |none=>rw[a]at h;cases h
 |some e=>
  rw[a]at h;cases h;have h1:=qC_ a;have h2:e.1=v:=j0_ (xg_ (p:=λe:α2×Int=>decide (e.1=v)) a);rw[<-h2];exact h1
noncomputable def rowO (es:List (α2×Int))(a:α1)(u:α2):List (Option Int):=a.map λe=>mkO es (u++e)
noncomputable def gI (es:List (α2×Int))(a:α1)(u:α2):α2:=a.map λe=>(mkO es (u++e)).getD 0
def Ful (es:List (α2×Int))(a:α1)(u:α2):Prop:=∀e∈a,(mkO es (u++e)).isSome=true
def Rh {a:α1} (h:Ful es a u):(rowO es a u).map oV=(gI es a u).map V.int:=by
 unfold rowO gI;rw[jJ_,jJ_];refine jI_ λe b=>?_;obtain⟨m,hm⟩:=xt_.mp (h e b);show oV (mkO es (u++e))=V.int ((mkO es (u++e)).getD 0);rw[hm];rfl
def OY {b:α1} : Ful es b u↔none∉rowO es b u:=by
 unfold rowO;constructor
 ·intro h z;obtain⟨e,a,c⟩:=jp_.mp z;have:=h e a;rw[c]at this;cases this
 ·intro h e a;cases hm:mkO es (u++e) with
  |some m=>rfl
  |none=>exact absurd (jp_.mpr (q_EA e a hm)) h
noncomputable instance (es:List (α2×Int)) (a:α1) (u:α2):Decidable (Ful es a u):=decidable_of_iff _ OY.symm
def YI (l:List (Option Int)):inV .non (l.map oV)=decide (none∈l):=by
 unfold inV;rw[rp,j1_,qe_,j6_];constructor
 ·rintro⟨x,a,e⟩;cases x with
  |none=>exact a
  |some m=>cases e
 ·intro h;exact q_EA none h rfl
def Vy (l:List (Option Int)):(l.map oV).all EB=true:=by
 rw[ze_,qw_];intro x _;cases x<;>rfl
noncomputable def Vz (K:α3):Sp:=λc H Q _=>∃(d t a:Addr) (w:α2) (es:List (α2×Int)) (xs:List V) (b:α1),c=[.ref d,.ref t,.ref a]/\H d=some (.dT (ents es))/\(es.map (·.1)).Nodup/\H t=some (.tup (w.map V.int))/\w.length<=100/\SqT K H a xs/\Am K H xs b/\b.length<=100/\(∀e∈b,e.length<=500)/\∀l H',Same H H'->H' l=some (.tup ((rowO es b w).map oV))->Q (.ref l) H'
def IA:⋯ EE.j9 1 ["heard","word","ends"] (Vz K):=by
 delta EE.j9 Ni
 ·refine AQ h λd t a g es xs c s _=>?_;try clear h;subst s;rfl
 ·left;refine AQ h λd t a g es xs c u=>Bt λm v w O n j P y k=>?_;try clear h;subst u
  right;have Q:=Al;refine q_EA _ (Ae (Ao (AA AM rfl EE.tuple jE_ (Aa (Bh rfl (Bz rfl) (cp:=He) #[#[rfl,rfl],#[#[rfl,rfl],oO]] (D8 (pvD 2)) (λ_ _ _ _=>(As (i:=0) JS rfl (oQ rfl))) (λ_ _ _ _=>By) (λ_ _ _ _=>(RK (GG hr) (pvD 1) (AW (Mm (K:=K) rfl) (pvD 2) (pvD 0)) #[by rfl,by rfl,by rfl,by rfl]))) Ad)))) ?_;nofun;refine#[#[_,n],QQ (xs:=xs) (λi ys f H'=>Same H H'/\ys=(c.take i).map (λe=>oV (mkO es (g++e)))/\∃o,f=[o,some (.ref d),some (.ref t)]) (Br (Same.refl _) rfl none rfl) (by rw[j.1];lia) (λi ys f H' hi h'=>#[h'.1.seqT n,by rw[h'.2.1,ja_,jC_];lia]) (λi x ys f H' z h'=>?_) (λys f H' h' D A=>?_)]
  ·left;refine BI h' λb B o C=>?_;try clear h';subst B;subst C
   refine AJ (j.at z) λte e p E F=>?_;subst E;right;have R:=y e (je_ p);have G:c.take (i+1)=c.take i++[e]:=by rw[jF_,p];rfl
   nofun;refine#[.inr #[_,.inl (b _ _ m)],Eb.ofS (b _ _ w) (b _ _ F) (by simp;lia) λq H2 I J=>?_];have r:=b.trans I;refine q_EA _ (DGet.t (k:=wkey (g++e)) (r _ _ m) (by rw[Bq,jn_];exact J)) (Br r ?_ _ rfl);rw[G,jn_,xn_,ZM v]
  ·left;refine BI h' λb L o M=>?_;try clear h';subst L;subst M
   right;rw[j.1,jz_];refine DL D rfl _ (.inl #[SqL.of Ab,λl N=>k l _ ((b.newT A).newT N) ?_]);rw[Ab];unfold rowO;rw[jJ_];rfl
def Ppr (K:α3)(H:Hp)(a:Addr)(L:Int)(xs ys:List V)(acc b:α1)(es:List (α2×Int)):Prop:=∃(ta te th:Addr) (o:Obj) (ts:List Addr),SqT K H a [.int L,.ref ta,.ref te,.ref th]/\SqT K H ta xs/\Am K H xs acc/\SqT K H te ys/\Am K H ys b/\H th=some (.frz o (.tup (ts.map V.ref)))/\o.dict=none/\PrsAt H ts (ents es)
def _root_.L2.PrsAt.mono {H H':Hp}{ts:List Addr}{ps:List (List Key×V)}(h:PrsAt H ts ps)(s:Same H H'):PrsAt H' ts ps:=#[h.1,λj p q a b=>by
 obtain⟨c,d,e⟩:=h.2 j p q a b;refine q_EA c ?_ (s _ _ e);rcases d with d|⟨o,d⟩
 ·exact .inl (s _ _ d)
 ·exact .inr #[o,s _ _ d]]
def Ppr.mono {K:α3} {acc b:α1} (h:Ppr K H a L xs ys acc b es)(s:Same H H'):Ppr K H' a L xs ys acc b es:=by
 refine AX h λta te th o=>CF λts h1 h2 c d e f g i=>?_;try clear h
 exact CU ta te th o ts (s.seqT h1) (AF (s.seqT h2) (c.mono (TK.of s)) (s.seqT d) (e.mono (TK.of s)) (s _ _ f) g (i.mono s))
def OZ (c:(es.map (·.1)).Nodup):Cq [] (ents es)=ents es:=by
 rw[Lo _ _ ?_,zZ_];rw[zZ_];unfold ents;rw[jJ_];have:((λx:List Key×V=>x.1) ∘ λe:α2×Int=>(wkey e.1,V.int e.2))=wkey ∘ λe=>e.1:=rfl;rw[this,<-jJ_];exact zy_ _ (λa b h z=>h (FL z)) c
def Lb:∀(ps kvs:List (List Key×V)),(Cq kvs ps).length<=kvs.length+ps.length
 |[],kvs=>by simp[Cq]
 |p::ps,kvs=>by
  have h1:=Lb ps (putK kvs p.1 p.2);have h2:=FC kvs p.1 p.2;show (Cq (putK kvs p.1 p.2) ps).length<=_;rw[jG_];lia
def MM:∀(ps kvs:List (List Key×V)),(kvs.map (·.1)).Nodup->¬ ((kvs++ps).map (·.1)).Nodup->(Cq kvs ps).length<kvs.length+ps.length
 |[],kvs,h1,h2=>absurd (by rw[xO_];exact h1) h2
 |p::ps,kvs,h1,h2=>by
  by_cases c:p.1∈kvs.map (·.1)
  ·have e1:(putK kvs p.1 p.2).length=kvs.length:=by
    obtain⟨q,d,e⟩:=jp_.mp c;unfold putK;rw[if_pos (qe_.mpr (q_EA q d (jH_ e))),ja_]
   have:=Lb ps (putK kvs p.1 p.2);show (Cq (putK kvs p.1 p.2) ps).length<_;rw[jG_];lia
  ·have e1:putK kvs p.1 p.2=kvs++[p]:=by
    unfold putK;rw[if_neg];intro h;obtain⟨q,d,e⟩:=qe_.mp h;exact c (jp_.mpr (q_EA q d (j0_ e)))
   have:=MM ps (kvs++[p]) (by
    rw[jn_,qm_];exact q_AA h1 (by simp) λa f b g z=>by
     simp only[jT_,rn,jd_]at g;rw[z,g]at f;exact c f) (by rw[xx_];exact h2)
   show (Cq (putK kvs p.1 p.2) ps).length<_;rw[e1,jG_];rw[jk_,jB_]at this;lia
def ZN : ((ents es).map (·.1)).Nodup↔(es.map (·.1)).Nodup:=by
 unfold ents;rw[jJ_];have:((λx:List Key×V=>x.1) ∘ λe:α2×Int=>(wkey e.1,V.int e.2))=wkey ∘ λe=>e.1:=rfl;rw[this,<-jJ_];constructor
 ·intro h;exact rD (λh z=>h (by rw[z])) (xW_.mp h)
 ·intro h;exact zy_ _ (λa b h z=>h (FL z)) h
structure B49 (N:Nat)(acc ends:α1)(es:List (α2×Int)):Prop where
 n1:1<=N
 n6:N<=6
 al:acc.length<=6
 el:ends.length<=12
 hl:es.length<=505
 wa:∀w∈acc,w.length<=60
 we:∀e∈ends,e.length<=500
 wh:∀p∈es,p.1.length<=600
def Lal (N:Nat)(acc a:α1)(es:List (α2×Int)):Prop:=∀u∈acc++a++es.map (·.1),isW N u=true
def Tt (N:Nat)(acc a:α1)(es:List (α2×Int)):Prop:=acc ≠ []/\(es.map (·.1)).Nodup/\Lal N acc a es/\(∀u∈acc,Ful es a u)/\(acc.map (gI es a)).Nodup
noncomputable def Xd (K:α3):Sp:=λd H Q _=>∃(N:Nat) (a ta te th:Addr) (xs ys:List V) (b c:α1) (es:List (α2×Int)) (ts:List Addr),d=[.int N,.ref a]/\SqT K H a [.ref ta,.ref te,.ref th]/\SqT K H ta xs/\Am K H xs b/\SqT K H te ys/\Am K H ys c/\SqT K H th (ts.map V.ref)/\PrsAt H ts (ents es)/\B49 N b c es/\(∀H',Same H H'->Lal N b c es->Q (.bl true) H')/\(∀H',Same H H'->¬ Lal N b c es->Q (.bl false) H')
def Iq:⋯ EE.j8 2 ["letters","parts"] (Xd K):=by
 delta EE.j8 DQ
 ·refine AX h λN a ta te=>Fm λth xs ys A C es ts ac _=>?_;try clear h;subst ac;rfl
 ·left;refine AX h λN a ta te=>Fm λth xs ys A C es ts ad=>f_A λG=>Bt λae I af J W X B L M=>?_;try clear h;subst ad
  right;have aB:=Al;have aC:=B.al;have aD:=B.el;have aE:=B.hl;refine q_EA _ (Ac (An (i:=2) DQ.nd (AW XM (AA GF rfl EE.list qA_ (Aa (AW FG (Aj (ixTD Ap) (pvD 1) Af) (Aj (ixTD Ap) (pvD 1) Af)) Ad)) (Bh rfl (Bz rfl) (cp:=DA) oO (D8 (Aj (ixTD Ap) (pvD 1) Af)) (λ_ _ _ _=>(As (i:=0) Fh rfl (oQ rfl))) (λ_ _ _ _=>By) (λ_ _ _ _=>(Aj (ixTD (GK (K:=K) rfl)) (pvD 0) Af)))))
   (Ae (Ao (Av (LW rfl) rfl EE.all xS_ (Aa (Bh rfl (Bz rfl) (cp:=DB) #[#[rfl,rfl],oO] (BZ (pvD 2)) (λ_ _ _ _=>(As (i:=0) Fi rfl (oQ rfl))) (λ_ _ _ _=>By) (λ_ _ _ _=>(Ah (K9 EE) hr.d Au (Aa (pvD 1) (Aa (pvD 0) Ad))))) Ad))))) ?_
  nofun;refine q_EA _ G (AH _ rfl _ G _ rfl (Eb.of ae af (by rw[I.1,J.1];lia) λag H1 O h1=>Ar ag rfl _ (.inr h1) λl P=>Ar _ ((O.newT P).seqT G) _ rfl (A7 th rfl #[_,(O.newT P).seqT W] ?_)));have E:=O.newT P (o:=.lst (xs++ys));have Y:ts.length=es.length:=by rw[X.1];unfold ents;rw[ja_]
  have ah:∀(i:Nat) (x:V),(ts.map V.ref)[i]?=some x->∃(q b:Addr) (p:α2×Int),x=.ref q/\es[i]?=some p/\Rd H q (.tup [.ref b,.int p.2])/\H b=some (.tup (p.1.map V.int)):=λi x e=>by
   rw[jh_]at e;cases k:ts[i]? with
   |none=>rw[k]at e;cases e
   |some q=>
    rw[k]at e;have hi:i<es.length:=by rw[<-Y];exact (jb_.mp k).1
    obtain⟨b,Q,F⟩:=X.2 i (wkey es[i].1,.int es[i].2) q (by unfold ents;rw[jh_,jg_ hi];rfl) k;rw[Bq]at F;exact Ai q b (es[i]) (jD_ e).symm (jg_ hi) Q F
  obtain⟨s,v⟩:∃s:Nat->List V->St->Hp->Prop,∀i us f H',s i us f H'↔(H'=upd H1 l (.lst (xs++ys))/\Am K H' us ((es.take i).map (·.1))/\∃o,f=[o]):=#[_,λ_ _ _ _=>qk_];refine QQ (xs:=ts.map V.ref) s ((v _ _ _ _).mpr (Br rfl Am.nil none rfl)) (by rw[ja_];lia) (λi us f H' hi h'=>?_) (λi x us f H' e h'=>?_) (λus f H' h' D ai=>?_)
  ·left;obtain⟨rfl,g,_⟩:=(v _ _ _ _).mp h';right;exact#[E.seqT W,by rw[g.1,ja_,jC_];lia]
  ·left;refine BI ((v _ _ _ _).mp h') λaj g o ak=>?_;subst aj;subst ak;refine CV (ah i x e) λq b p am m Q F=>?_;subst am;right;have R:es.take (i+1)=es.take i++[p]:=by rw[jF_,m];rfl
   nofun;refine Ar _ (E.seqT (.inl Q)) _ rfl ((v _ _ _ _).mpr (Br rfl ?_ _ rfl));rw[R,jn_];exact g.snoc (E _ _ F)
  ·left;refine BI ((v _ _ _ _).mp h') λan g o ao=>?_;subst an;subst ao;right;rw[ja_,Y,jz_]at g;have S:=Same.new ai (o:=.lst us);refine Ar D rfl (xs++ys) (S _ _ Ab) (A7 us Ab (by rw[jk_,I.1,J.1,g.1,ja_];lia) λp m=>#[#[_,SqL.of Ab],?_]);have n:=E.trans (S.newT m (o:=.lst (xs++ys++us)));have T:=S.newT m (o:=.lst (xs++ys++us));have r:Am K (upd (upd (upd H1 l (.lst (xs++ys))) D (.lst us)) p (.lst (xs++ys++us))) (xs++ys++us) (A++C++es.map (·.1)):=((I.mono (TK.of n)).append (J.mono (TK.of n))).append (g.mono (TK.of T));have Z:∀u∈A++C++es.map (·.1),u.length<=600:=λu c=>by
    rcases jr_.mp c with c|c
    ·rcases jr_.mp c with c|c
     ·have:=B.wa u c;lia
     ·have:=B.we u c;lia
    ·left;obtain⟨p,m,rfl⟩:=jp_.mp c;right;exact B.wh p m
   have ap:(xs++ys++us).length<=600:=by rw[r.1,jk_,jk_,ja_];lia
   unfold Lal at L M;generalize xs++ys++us=U at r ap n T ⊢;generalize A++C++es.map (·.1)=w at r Z L M;generalize aq:upd (upd (upd H1 l (.lst (xs++ys))) D (.lst us)) p (.lst U)=aa at r n T ⊢;have ar:aa p=some (.lst U):=by rw[<-aq];exact Ab
   obtain⟨as,y⟩:∃s:Nat->List V->St->Hp->Prop,∀i us f H',s i us f H'↔(Same aa H'/\us=((w.take i).map (isW (N:Int))).map V.bl/\∃o,f=[o,some (.int N)]):=#[_,λ_ _ _ _=>qk_];refine Nb (xs:=U) as ((y _ _ _ _).mpr (Br (Same.refl _) rfl none rfl)) s!"" (λi us f H' hi h'=>?_) (λi x us f H' e h'=>?_) (λus f H' h' au ab=>?_)
   ·left;obtain⟨j,rfl,_⟩:=(y _ _ _ _).mp h';right;exact#[SqL.of (j _ _ ar),by rw[ja_,ja_,jC_];lia]
   ·left;refine BI ((y _ _ _ _).mp h') λj av o aw=>?_;subst av;subst aw;refine AJ (r.at e) λt u c ax k=>?_;subst ax;right;have aF:=Z u (je_ c);have R:w.take (i+1)=w.take i++[u]:=by rw[jF_,c];rfl
    nofun;refine Ai N t u rfl (SqT.of (j _ _ k)) s!"" λH' ay=>(y _ _ _ _).mpr (Br (j.trans ay) ?_ _ rfl);rw[R,jn_,jn_];rfl
   ·left;refine BI ((y _ _ _ _).mp h') λj az o aA=>?_;subst az;subst aA;right;rw[r.1,jz_];refine Ar au rfl _ (SqL.of Ab) ?_;cases z:((w.map (isW (N:Int))).all id) with
    |true=>
     refine L _ ((n.trans j).newT ab) λu c=>?_;rw[ze_,qw_]at z;exact z u c
    |false=>
     refine M _ ((n.trans j).newT ab) λe=>?_;rw[ze_]at z;have:w.all (id ∘ isW (N:Int))=true:=qw_.mpr e;rw[this]at z;cases z
def O0 {α:Type}[DecidableEq α]{ks l:List α}(c:ks.Nodup)(hm:∀x,x∈ks↔x∈l):ks.length=l.length↔l.Nodup:=by
 constructor
 ·intro h;have j:∀(n:Nat) (ks l:List α),l.length=n->ks.Nodup->(∀x∈ks,x∈l)->ks.length=l.length->l.Nodup:=by
   intro n
   induction n with
   |zero=>intro ks l d _ _ _;rw[ql_.mp d];exact pq
   |succ n k=>
    intro ks l d c f e;cases ks with
    |nil=>rw[xu_]at e;lia
    |cons a r=>
     rw[qb_]at c;have g:=f a jt_;have i:∀x∈r,x∈l.erase a:=λx b=>(x5_ (λz=>c.1 (by rw[<-z];exact b))).mpr (f x (jo_ _ b));have m:(l.erase a).length=n:=by rw[q3_ g];lia
     have h1:=k r (l.erase a) m c.2 i (by rw[jG_]at e;lia);have h2:a∉l.erase a:=λz=>by
      have:(a::r).Nodup:=qb_.mpr c;have:=this.length_le_of_subset (l₂:=l.erase a) (λx b=>by
       rcases jw_.mp b with rfl|b
       ·exact z
       ·exact i x b)
      rw[jG_]at this e;lia
     exact (List.perm_cons_erase g).nodup_iff.mpr (qb_.mpr #[h2,h1])
  exact j _ ks l rfl c (λx b=>(hm x).mp b) h
 ·intro d;have h1:=c.length_le_of_subset (λx b=>(hm x).mp b);have h2:=d.length_le_of_subset (λx b=>(hm x).mpr b);lia
def WV (H:Hp)(us:List V)(a:List (List V)):Prop:=us.length=a.length/\∀(i:Nat) (b:List V),a[i]?=some b->∃t,us[i]?=some (.ref t)/\H t=some (.tup b)
def WV.nil : WV H [] []:=#[rfl,λi a h=>by simp at h]
def WV.mono (h:WV H us dC)(s:∀t ys,H t=some (.tup ys)->H' t=some (.tup ys)):WV H' us dC:=#[h.1,λi c hi=>let ⟨t,a,b⟩:=h.2 i c hi;#[t,a,s _ _ b]]
def WV.snoc (h:WV H us dC) (e:H t=some (.tup vs)):WV H (us++[.ref t]) (dC++[vs]):=by
 refine#[by rw[jk_,jk_,h.1];rfl,λi v c=>?_];by_cases hi:i<dC.length
 ·rw[ji_ hi]at c;obtain⟨f,a,b⟩:=h.2 i v c;exact q_EA f (by rw[ji_ (by rw[h.1];exact hi)];exact a) b
 ·rw[ju_ s!""]at c;have d:i-dC.length=0:=by
   have:=(jb_.mp c).1;simpa using this
  rw[d]at c;have c:vs=v:=by simpa using c
  subst c;exact q_EA t (by rw[ju_ (by rw[h.1];lia),h.1,d];rfl) e
def WV.at {H:Hp}{us:List V}{c:List (List V)}(h:WV H us c){i:Nat}{x:V}(d:us[i]?=some x):∃t vs,c[i]?=some vs/\x=.ref t/\H t=some (.tup vs):=by
 have hi:i<c.length:=by rw[<-h.1];exact (jb_.mp d).1
 obtain⟨t,a,b⟩:=h.2 i c[i] (by simp[hi]);rw[d]at a;exact AB t _ (by simp[hi]) (jD_ a) b
def WV.words {K:α3} (h:WV H us (ws.map λu=>u.map V.int)):Am K H us ws:=#[by rw[h.1,ja_],λi u a=>h.2 i _ (by rw[jh_,a];rfl)]
noncomputable def Tu (K:α3):Sp:=λd H Q _=>∃(a:Addr) (N:Nat) (xs ys:List V) (b c:α1) (es:List (α2×Int)),d=[.ref a]/\Ppr K H a N xs ys b c es/\B49 N b c es/\(∀H',Same H H'->Tt N b c es->Q (.bl true) H')/\(∀H',Same H H'->¬ Tt N b c es->Q (.bl false) H')
def IB:⋯ EE.j10 3 ["paper"] (Tu K):=by
 delta EE.j10 EO
 ·refine AQ h λa N xs ys c f es au _=>?_;try clear h;subst au;rfl
 ·left;refine AX h λa N xs ys=>BL λc f es av P G aw A=>?_;try clear h;subst av
  right;have a1:=Al;refine q_EA _ (Ac (Dz (i:=1) EO.nd rfl (o9 rfl) (AA (Ji rfl hr) rfl EE.dict zr_ (Aa (Aj (ixTD Ap) (pvD 0) Af) Ad)))
   (Ac (Bb (PW.pt (JK (ptT (Ay (opE EA) (Av (lenD Aq) (by rfl) EE.len jO_ (Aa (Aj (ixTD Ap) (pvD 0) Af) Ad)) Af (AL _))) (JK (ptT (Ay (opD0 QI) (Av Nd (by rfl) EE.len jO_ (Aa (pvD 1) Ad)) (Av (lenD Aq) (by rfl) EE.len jO_ (Aa (Aj (ixTD Ap) (pvD 0) Af) Ad)) (AL _))) (Ir (Cm (ptB (Cd (Ah (Iq EE) hr.d Au (Aa (Aj (ixTD Ap) (pvD 0) Af) (Aa (BV QY (pvD 0) (BR Af) EK) Ad))))))))))
   (Ae (Ao E9))
   Az)
   (Ac (QO (i:=2) EO.nd rfl rfl rfl (Bz rfl) (cp:=Hf) #[#[rfl,rfl],#[#[rfl,rfl],oO]] (D8 (Aj (ixTD Ap) (pvD 0) Af)) (λ_ _ _ _=>(As (i:=0) JT rfl (oQ rfl))) (λ_ _ _ _=>By) (λ_ _ _ _=>(Ah (IA EE) hr.d Au (Aa (pvD 1) (Aa (pvD 0) (Aa (Aj (ixTD (GK (K:=K) rfl)) (pvD 2) Af) Ad))))))
   (Ac (Bb (ptB (Cd (Av (RL rfl) rfl EE.any qC (Aa (Bh rfl (Bz rfl) (cp:=Hg) oO (BZ (pvD 2)) (λ_ _ _ _=>(As (i:=0) JU rfl (oQ rfl))) (λ_ _ _ _=>By) (λ_ _ _ _=>(D9 (NO (K:=K) rfl) Ck (pvD 0) rfl))) Ad))))
   (Ae (Ao E9))
   Az)
   (Ae (Ao (D9 (opE EA) (Av Qh (by rfl) EE.len jO_ (Aa (AA (Vr rfl hr) rfl EE.set tX (Aa (pvD 2) Ad)) Ad)) (Av (lenD Aq) (by rfl) EE.len jO_ (Aa (pvD 2) Ad)) (AL _)))))))) ?_
  left;refine AX (id P) λta te th o=>CF λts h1 h2 w ae af S ax T=>?_;right;nofun;have a2:ts.length=es.length:=by rw[T.1];unfold ents;rw[ja_]
  have a3:=G.hl;have a4:=G.al;have a5:=G.el;have a6:=Lb (ents es) [];have a7:(ents es).length=es.length:=by unfold ents;rw[ja_]
  refine Ar _ h1 _ rfl (AY th o ts (ents es) rfl S (AK ax T s!"" λp ay=>?_));have k:=Same.new ay (o:=.dT (Cq [] (ents es)));refine q_EA _ (k.seqT h1) (AH _ rfl ta rfl _ (.inr (k.seqT h2)) ?_);by_cases ag:c.length=0
  ·refine DZ (by rw[w.1];lia) ?_;exact A _ k λz=>z.1 (ql_.mp ag)
  refine Bw (by rw[w.1];lia) ?_;refine AH p rfl _ Ab _ (k.seqT h1) (AH _ rfl th rfl (ts.map V.ref) (.inr (k.seqT (.inl (.inr #[o,S])))) ?_);by_cases B:(es.map (·.1)).Nodup
  rotate_left
  ·have:=MM (ents es) [] pq (by rw[zZ_];exact λz=>B (ZN.mp z));rw[if_pos (by rw[ja_];simp at this;lia)];exact A _ k λz=>B z.2.1
  rw[OZ B]at k ⊢;refine Bw (by rw[ja_];lia) ?_;refine AH _ (k.seqT h1) _ rfl _ (k.seqT h1) λaz H1 ah aA=>?_;have r:=k.trans ah;have aB:H1 p=some (.dT (ents es)):=ah _ _ Ab;refine Bj N az ta te (AI th xs ys c f (AO es ts rfl aA (r.seqT h2) (w.mono (TK.of r)) (AF (r.seqT ae) (af.mono (TK.of r)) (r.seqT (.inl (.inr #[o,S]))) (T.mono r) G (λH2 M U=>q_EA true rfl ?_) λH2 M U=>q_EA false rfl ?_)))
  rotate_left
  ·refine DZ (by simp) ?_;exact A _ (r.trans M) λz=>U z.2.2.1
  refine Bw (by simp) ?_;have C:=r.trans M;refine Ar _ (C.seqT h1) _ rfl (A7 ta rfl #[_,C.seqT h2] ?_);have aC:H2 p=some (.dT (ents es)):=M _ _ aB;obtain⟨E,F⟩:∃E:Nat->List V->St->Hp->Prop,∀i us g H',E i us g H'↔(Same H2 H'/\WV H' us ((c.take i).map λu=>(rowO es f u).map oV)/\∃o,g=[o,some (.ref p),some (.ref a)]):=#[_,λ_ _ _ _=>qk_];refine QQ (xs:=xs) E ((F _ _ _ _).mpr (Br (Same.refl _) WV.nil none rfl)) (by rw[w.1];lia) (λi us g H' hi h'=>?_) (λi x us g H' n h'=>?_) (λus g W h' D aD=>?_)
  ·obtain⟨s,v,_⟩:=(F _ _ _ _).mp h';exact#[(C.trans s).seqT h2,by rw[v.1,ja_,jC_];lia]
  ·left;refine BI ((F _ _ _ _).mp h') λs v X aE=>?_;subst aE;have O:=C.trans s;refine AJ (w.at n) λai u m aF Y=>?_;subst aF;right;have aG:=je_ m;have aj:=G.wa u aG;have Z:c.take (i+1)=c.take i++[u]:=by rw[jF_,m];rfl
   nofun;refine Ar _ (O.seqT h1) _ rfl (Bj p ai te u (Ai es ys f rfl (s _ _ aC) B (AF (O _ _ Y) s!"" (O.seqT ae) (af.mono (TK.of O)) s!"" (λe aH=>by have:=G.we e aH;lia) λl a8 y aI=>(F _ _ _ _).mpr (Br (s.trans y) ?_ _ rfl))));rw[Z,jn_];exact (v.mono λt ys e=>y _ _ e).snoc aI
  ·left;refine BI ((F _ _ _ _).mp h') λs v X aJ=>?_;subst aJ;right;rw[w.1,jz_]at v;have ak:=Same.new aD (o:=.lst us);have y:=(C.trans s).trans ak;have am:=v.mono λt ys e=>ak _ _ e;have aj:us.length=c.length:=by rw[v.1,ja_]
   refine A7 D rfl #[_,SqL.of Ab] ?_;obtain⟨aK,H⟩:∃E:Nat->List V->St->Hp->Prop,∀i vs g H',E i vs g H'↔(H'=upd W D (.lst us)/\vs=((c.take i).map λu=>decide (none∈rowO es f u)).map V.bl/\∃o,g=[o]):=#[_,λ_ _ _ _=>qk_];refine Nb (xs:=us) aK ((H _ _ _ _).mpr (Br rfl rfl none rfl)) s!"" (λi vs g H' hi h'=>?_) (λi x vs g H' n h'=>?_) (λvs g H' h' an aL=>?_)
   ·left;obtain⟨rfl,rfl,_⟩:=(H _ _ _ _).mp h';right;exact#[SqL.of Ab,by rw[ja_,ja_,jC_];lia]
   ·left;refine BI ((H _ _ _ _).mp h') λaM aN X aO=>?_;subst aM;subst aN;subst aO;refine AJ (am.at n) λai vs ao aP Y=>?_;subst aP;rw[jh_]at ao;obtain⟨u,m,rfl⟩:=qc_.mp ao;right;have Z:c.take (i+1)=c.take i++[u]:=by rw[jF_,m];rfl
    nofun;refine q_EA _ (.inr (SqT.of Y)) (q_AA rfl (Vy _) ((H _ _ _ _).mpr (Br rfl ?_ _ rfl)));rw[YI,Z,jn_,jn_];rfl
   ·left;refine BI ((H _ _ _ _).mp h') λaQ aR X aS=>?_;subst aQ;subst aR;subst aS;right;rw[aj,jz_];refine Ar an rfl _ (SqL.of Ab) ?_;have I:=Same.new aL (o:=.lst ((c.map λu=>decide (none∈rowO es f u)).map V.bl));by_cases J:∀u∈c,Ful es f u
    rotate_left
    ·rw[if_pos (by
      refine j4_ λn=>J λu m=>OY.mpr λz=>n ?_;exact qe_.mpr (q_EA true (jp_.mpr (q_EA u m (jH_ z))) rfl))]
     exact A _ (y.trans I) λz=>J z.2.2.2.1
    rw[if_neg (by
     intro n;left;obtain⟨b,aa,e⟩:=qe_.mp n;obtain⟨u,m,rfl⟩:=jp_.mp aa;right;exact OY.mp (J u m) (j0_ e))]
    have aT:WV (upd W D (.lst us)) us ((c.map (gI es f)).map λu=>u.map V.int):=by
     have:(c.map λu=>(rowO es f u).map oV)=(c.map (gI es f)).map λu=>u.map V.int:=by
      rw[jJ_];exact jI_ λu m=>Rh (J u m)
     rw[<-this];exact am
    have aU:=(aT.mono λt ys e=>I _ _ e).words (K:=K);left;refine e_E aU.rowsN λaV=>f_A λaW=>f_A λaX aY=>?_;right;have ap:upd (upd W D (.lst us)) an (.lst ((c.map λu=>decide (none∈rowO es f u)).map V.bl)) D=some (.lst us):=I _ _ Ab;refine AH D rfl aV (by rw[<-aW];exact SqL.of ap) ((c.map (gI es f)).map wkey) (by rw[ja_,aX]) (q_AA (λj q b L aa=>?_) (by rw[ja_,ja_];lia) λaZ Q a0 aq ar=>?_)
    ·rw[jh_]at L;cases ab:(c.map (gI es f))[j]? with
     |none=>rw[ab]at L;cases L
     |some u=>
      rw[ab]at L;cases L;rw[Bq];exact aY j b u aa ab
    ·have ac:=Same.new a0 (o:=setO aZ Q.length);have a9:Q.length<=6:=by
      have:=aq.length_le_of_subset (λx n=>(ar x).mp n);rw[ja_,ja_]at this;lia
     refine A7 _ Ab s!"" (Ar D rfl us (.inl (SqL.of (ac _ _ ap))) ?_);have ad:=O0 aq ar;rw[ja_,ja_]at ad;have as:((c.map (gI es f)).map wkey).Nodup↔(c.map (gI es f)).Nodup:=#[λh=>rD (λh z=>h (by rw[z])) (xW_.mp h),λh=>zy_ _ (λa b h z=>h (FL z)) h];by_cases R:(c.map (gI es f)).Nodup
     ·have:decide (((Q.length:Nat):Int)=(us.length:Int))=true:=jH_ (by have:=ad.mpr (as.mpr R);lia);rw[this];exact aw _ ((y.trans I).trans ac) (q_AA (λz=>ag (by rw[z];rfl)) B (q_AA U J R))
     ·have:decide (((Q.length:Nat):Int)=(us.length:Int))=false:=jQ_ (λz=>R (as.mp (ad.mp s!"")));rw[this];exact A _ ((y.trans I).trans ac) λz=>R z.2.2.2.2
noncomputable def Tv (K:α3)(d:Addr):Sp:=λe H Q E=>∃(a:Addr) (N:Nat) (xs ys:List V) (b c:α1) (es:List (α2×Int)),e=[.ref a]/\Ppr K H a N xs ys b c es/\B49 N b c es/\(∀H',Same H H'->Tt N b c es->Q (.int b.length) H')/\(∀H',Same H H'->¬ Tt N b c es->E (.ref d) none H')
def MN:CalH P w mg base (CXe P w) EE.j11 4 ["paper"] (Tv K bF):=by
 refine HG.okE EE.j11 Q4 (λg H Q E h=>?_) (λp A outer s H g Q E i h=>?_)
 ·refine AQ h λa N xs ys e f es j _=>?_;try clear h;subst j;rfl
 ·left;refine AX h λa N xs ys=>BL λe f es k P G l m=>?_;try clear h;subst k
  right;have q:=Al;refine q_EA _ (Ac (Bb (Cm (ptB (Cd (Ah (IB EE) i.d Au (Aa (pvD 0) Ad)))))
   (Ae (EC EE.m_j7 EE.x_j7 rfl rfl (Aa A0 Ad)))
   Az)
   (Ae (Ao (Av (lenD Aq) (by rfl) EE.len jO_ (Aa (Aj (ixTD Ap) (pvD 0) Af) Ad))))) ?_
  nofun;refine AI a N xs ys e (AO f es rfl P G (λH1 b c=>q_EA true rfl ?_) λH1 b c=>q_EA false rfl ?_)
  ·refine Bw (by simp) ?_;left;refine AX (id (P.mono b)) λta te th o=>CF λts h1 h2 n r t u v x=>?_;right;nofun;refine q_EA _ h1 (AH _ rfl ta rfl _ (.inr h2) ?_);rw[n.1];exact l _ b c
  ·refine DZ (by simp) ?_;exact#[by lia,m _ b c]
def Aw (acc:α1):Prop:=acc[0]?=some []/\∀(i:Nat) (u:α2),0<i->acc[i]?=some u->u.dropLast∈acc.take i
noncomputable def Ri (K:α3):Sp:=λc H Q _=>∃(a:Addr) (xs:List V) (b:α1),c=[.ref a]/\SqT K H a xs/\Am K H xs b/\b.length<=50/\b ≠ []/\(∀H',Same H H'->Aw b->Q (.bl true) H')/\(∀H',Same H H'->¬ Aw b->Q (.bl false) H')
def JD:⋯ EE.j63 1 ["words"] (Ri K):=by
 delta EE.j63 Jv
 ·refine e_E h λa=>f_E λxs=>f_E λb=>f_A λB _=>?_;try clear h;subst B;rfl
 ·left;refine e_E h λa=>Tj λxs b C h1 h2 X D E q=>?_;try clear h;subst C
  right;have Y:=Al;refine q_EA _ (Ac (Bb (ptT (Ay (RX 8 (hu9 hr)) (Aj (ixTD Ap) (pvD 0) Af) (BK Ad) (AL _)))
   (Ae (Ao E9))
   Az)
   (Ae (Ao (Av (LW rfl) rfl EE.all xS_ (Aa (Bh rfl (Bz rfl) (cp:=DR) #[#[rfl,rfl],oO] (TZ rfl EE.range (Aa Af (Aa (Av (lenD Aq) (by rfl) EE.len jO_ (Aa (pvD 0) Ad)) Ad))) (λ_ _ _ _=>(As (i:=0) F7 rfl (oQ rfl))) (λ_ _ _ _=>By) (λ_ _ _ _=>(D9 (ZA (K:=K) rfl (hu9 hr)) (BV (R4 (K:=K) rfl) (Aj (ixTD (GK (K:=K) rfl)) (pvD 1) (pvD 0)) EK (BR (T3 Pu Af))) (BV (R4 (K:=K) rfl) (pvD 1) EK (BR (pvD 0))) rfl))) Ad))))) ?_
  nofun;have k:0<b.length:=za_.mpr D;obtain⟨F,G,I⟩:=h2.2 0 b[0] (jg_ k);refine q_EA _ h1 (A7 _ (GD (j:=0) G) s!"" λp r=>Ar F rfl _ (EqD.ints (xs:=b[0]) (ys:=[]) (.inr #[SqT.of (Same.new r _ _ I),SqT.of Ab]) 7) ?_);have l:=Same.new r (o:=.tup []);by_cases f:b[0]=[]
  rotate_left
  ·rw[if_pos (by rw[jQ_ f];rfl)];exact q _ l λz=>f (by have:=z.1;rw[jg_ k]at this;exact jD_ this)
  rw[if_neg (by rw[jH_ f];simp)];refine Dx _ (.inr (l.seqT h1)) (by decide) (by decide) s!"" (by rw[h2.1];lia) ?_;have J:((xs.length:Int)-1).toNat=b.length-1:=by rw[h2.1];lia
  rw[J];obtain⟨L,d⟩:∃M:Nat->List V->St->Hp->Prop,∀i vs e H',M i vs e H'↔(Same H H'/\vs=((oN i).map λj=>decide (((b[1+j]?).getD []).dropLast∈b.take (1+j))).map V.bl/\∃o,e=[o,some (.ref a)]):=#[_,λ_ _ _ _=>qk_];refine SN L ((d _ _ _ _).mpr (Br l rfl none rfl)) s!"" (λi vs e H' hi h'=>?_) (λi vs e H' hi h'=>?_) (λvs e H' h' N s=>?_)
  ·left;obtain⟨_,rfl,_⟩:=(d _ _ _ _).mp h';right;simp
  ·left;refine BI ((d _ _ _ _).mp h') λc O P Q=>?_;subst O;subst Q;have t:1+i<b.length:=by lia
   obtain⟨tu,R,S⟩:=h2.2 (1+i) b[1+i] (jg_ t);right;have T:(1:Int)+(i:Int)=((1+i:Nat):Int):=by lia
   nofun;rw[T];refine q_EA _ (c.seqT h1) (AH _ (GD R) tu rfl _ (c.seqT (SqT.of S)) λZ aa m v=>q_EA _ ((c.trans m).seqT h1) λab ac n w=>?_);rw[Rg]at v;rw[ML]at w;refine BH _ w b[1+i].dropLast (b.take (1+i)) ((h2.mono (TK.of ((c.trans m).trans n))).takeN _) (n.seqT v) ((d _ _ _ _).mpr (Br ((c.trans m).trans n) ?_ _ rfl));rw[xh_,jn_,jn_];show _=_++[V.bl (decide (((b[1+i]?).getD []).dropLast∈b.take (1+i)))];rw[jg_ t];rfl
  ·left;refine BI ((d _ _ _ _).mp h') λc U P W=>?_;subst U;subst W;right;refine Ar N rfl _ (SqL.of Ab) ?_;cases g:(((oN (b.length-1)).map λj=>decide (((b[1+j]?).getD []).dropLast∈b.take (1+j))).all id) with
   |true=>
    rw[ze_,qw_]at g;refine E _ (c.newT s) #[by rw[jg_ k,f],λi u hi x=>?_];have ad:=(jb_.mp x).1;have:=j0_ (g (i-1) (jU_.mpr s!""));rw[show 1+(i-1)=i by lia,x]at this;exact this
   |false=>
    refine q _ (c.newT s) λz=>?_;have:((oN (b.length-1)).map λj=>decide (((b[1+j]?).getD []).dropLast∈b.take (1+j))).all id=true:=by
     rw[ze_,qw_];intro j y;have y:=jU_.mp y;have A:1+j<b.length:=by lia
     refine jH_ ?_;rw[jg_ A];exact z.2 (1+j) _ s!"" (jg_ A)
    rw[this]at g;cases g
noncomputable def eI (g:α2->α2)(acc:α1)(i:Nat):List (α2×Int):=(oN i).map λj=>(g (acc.getD j []),(j:Int))
def ZO (g:α2->α2)(acc:α1)(i:Nat):eI g acc (i+1)=eI g acc i++[(g (acc.getD i []),(i:Int))]:=by unfold eI;rw[xh_,jn_];rfl
def Rj (g:α2->α2)(acc:α1) (hi:i<=acc.length):(eI g acc i).map (·.1)=(acc.map g).take i:=by
 refine qH_ λj=>?_;unfold eI;rw[jJ_,jh_,q5_,jh_];by_cases a:j<i
 ·rw[if_pos a,qW_ a];have b:j<acc.length:=by lia
  simp[jx_,b]
 ·rw[if_neg a,j5_ (by simp;lia)];rfl
def BT_ (b:x∈acc.map g):(x,(((acc.map g).idxOf x:Nat):Int))∈eI g acc acc.length:=by
 unfold eI;have a:(acc.map g).idxOf x<(acc.map g).length:=xQ_ b;rw[ja_]at a;refine jp_.mpr (q_EA ((acc.map g).idxOf x) (jU_.mpr a) ?_);have h1:(acc.map g)[(acc.map g).idxOf x]'(by rw[ja_];exact a)=x:=xm_ _;rw[zN_]at h1;rw[jx_,jg_ a];show (g _,_)=_;rw[pY,h1]
def MO {n:Nat}{acc:α1}{w:α2}{x:Nat}(h:w∈acc)(a:x<n):w++[(x:Int)]∈AU n acc:=by
 unfold AU;refine F9.mpr (.inr (xE_.mpr (q_EA w h ?_)));unfold extW;exact jp_.mpr (q_EA x (jU_.mpr a) rfl)
def Lv {l:α1}{i:Nat}(hi:i<l.length)(b:l.Nodup):l[i]∉l.take i:=λz=>by
 obtain⟨j,c,a⟩:=j3_ z;rw[jC_]at c;rw[rC]at a;have:=(pQ (h₀:=(show j<l.length by lia)) (h₁:=hi) b).mp a;lia
noncomputable def ixO (es:List (α2×Int))(a acc:α1)(u:α2):Option Int:=if Ful es a u/\gI es a u∈acc.map (gI es a) then some (((acc.map (gI es a)).idxOf (gI es a u):Nat):Int) else none
def BU_ (l:List (Option Int)):(l.map λo=>o.map (pE:Int->Key)).map oK=l.map oV:=by
 rw[jJ_];refine jI_ λo _=>?_;cases o<;>rfl
noncomputable def VA (K:α3):Sp:=λe H Q _=>∃(N:Nat) (tb:Bool) (a m:Addr) (xs:List V) (b:α1) (d:List (List Key×V)) (es:List (α2×Int)) (c:α1),e=[.int N,.ref a,.ref m]/\N<=6/\SqB K H tb a xs/\Am K H xs b/\b.length<=64/\(∀w∈b,w.length<=64)/\H m=some (.dT d)/\C0 H (λw=>(rowO es c w).map oV) (AU N b) d/\(∀u∈b,Ful es c u)/\(b.map (gI es c)).Nodup/\∀t ys H',Same H H'->H' t=some (.tup ys)->WV H' ys (b.map λw=>(oN N).map λx:Nat=>oV (ixO es c b (w++[(x:Int)])))->Q (.ref t) H'
def Gs:⋯ EE.j28 1 ["letters","access","marks"] (VA K):=by
 delta EE.j28 Bs
 ·refine AX h λN tb a m=>CZ λxs b an es c aw _=>?_;try clear h;subst aw;rfl
 ·left;refine AX h λN tb a m=>CZ λxs b an es c ax=>f_A λa3=>Bt λah R a4 ay hm ao az ai k=>?_;try clear h;subst ax
  right;obtain⟨g,B⟩:∃g,g=gI es c:=#[_,rfl];rw[<-B]at ai;have aA:∀{w:α2},w∈b->∃t,valV an (wkey w)=some (.ref t)/\H t=some (.tup ((g w).map V.int)):=λ{w} hw=>by
   obtain⟨t,aB,ap⟩:=ao.get (Ga (n:=N) hw);rw[Rh (az w hw)]at ap;exact q_EA t aB (by rw[B];exact ap)
  have a5:=Al;refine q_EA _ (Ac (Dz (i:=3) Bs.nd rfl (o9 rfl) FD)
   (Ac (BU jR_ rfl (Co_ (Wx rfl EE.enumerate (pvD 1)) (Ww rfl EE.enumerate (pvD 1))) (Pp rfl (Dr (As (i:=4) Bs.nd rfl (oQ rfl)) (Dr (As (i:=5) Bs.nd rfl (o9 rfl)) Ma)))
   (Ae (GH (GG hr) (pvD 3) (Mg (GG hr) (pvD 2) (pvD 5) (λ_ _=>rfl)) (pvD 4) rfl)))
   (Ac (An (i:=6) Bs.nd (Co Ad))
   (Ac (BU jR_ rfl (UI (pvD 1)) (As (i:=5) Bs.nd rfl (o9 rfl))
   (Ae (AN (DV jK_ jW_ jX_ BB (pvD 6) (Aa (AA AM rfl EE.tuple jE_ (Aa (Bh rfl (Bz rfl) (cp:=Fj) #[#[rfl,rfl],#[#[rfl,rfl],#[#[rfl,rfl],oO]]] (BJ rfl EE.range (Aa (pvD 0) Ad)) (λ_ _ _ _=>(As (i:=0) Ip rfl (oQ rfl))) (λ_ _ _ _=>By) (λ_ _ _ _=>(W4 (GG hr) (pvD 1) (Mg (GG hr) (pvD 2) (AW (Mm (K:=K) rfl) (pvD 3) (BK (Aa (pvD 0) Ad))) (λ_ _=>rfl)) #[by rfl,by rfl,by rfl,by rfl]))) Ad)) Ad)))))
   (Ae (Ao (AA AM rfl EE.tuple jE_ (Aa (pvD 6) Ad)))))))) ?_
  nofun;intro p S;have aq:=Same.new S (o:=.dT []);have aC:∀i,i<=b.length->((eI g b i).map (·.1)).Nodup:=λi hi=>by rw[Rj g b hi];exact ai.sublist (rk _ _)
  obtain⟨C,E⟩:∃C:Nat->St->Hp->Prop,∀i F H',C i F H'↔(∃T aj:Option V,Same H H'/\H' p=some (.dT (ents (eI g b i)))/\F=[some (.int N),some (.ref a),some (.ref m),some (.ref p),T,aj,none]):=#[_,λ_ _ _=>qk_];have a6:p≠m:=λz=>by rw[z,hm]at S;cases S
  refine forE (t:=tb) (xs:=xs) (ah.mono aq) C ((E _ _ _).mpr (AB none none aq Ab rfl)) (λi F H' _ h'=>by refine e_E ((E _ _ _).mp h') λ_=>f_E λ_=>f_A λs' _=>?_;exact ah.mono s') (λi v F H' t aD h' d=>?_) (λF H' h'=>?_)
  ·left;refine AJ ((E _ _ _).mp h') λT aj s' y aE=>?_;subst aE;refine AJ (R.at aD) λf w r aF ak=>?_;subst aF;have U:=je_ r;have hi:=(jb_.mp r).1;have W:=s'.newT d (o:=.tup [.int i,.ref f]);obtain⟨u,al,X⟩:=aA U;right;have aG:b.getD i []=w:=by rw[jx_,r];rfl
   have aH:g w∉(eI g b i).map (·.1):=by
    rw[Rj g b s!""];have:=Lv (l:=b.map g) (i:=i) (by rw[ja_];exact hi) ai;rw[zN_,(jb_.mp r).2]at this;exact this
   nofun;have Y:DGet (upd H' t (.tup [V.int i,V.ref f])) m (.ref f) (some (.ref u)):=by rw[<-al];exact DGet.t (k:=wkey w) (W _ _ hm) (by rw[Bq];exact W _ _ ak)
   have a7:(ents (eI g b i)).length=i:=by unfold ents eI;rw[ja_,ja_,qL_]
   refine#[_,Br (SqT.of Ab) rfl (V.int i) (BH _ rfl (V.ref f) _ rfl rfl (Ar (V.ref u) Y _ (DPut.t (k:=wkey (g w)) (Same.new d _ _ y) (by rw[Bq];exact W _ _ X) s!"") ((E _ _ _).mpr (AB _ _ (W.over S) (by rw[Ab,R3 aH,ZO,aG]) rfl))))]
  ·left;refine AJ ((E _ _ _).mp h') λT aj s' y aI=>?_;subst aI;right;rw[R.1]at y;nofun;refine#[by lia,λq Z=>?_];have aJ:=s'.newT Z (o:=.lst []);have aK:H q=none:=s'.none Z;have aL:p≠q:=λz=>by rw[z,Z]at y;cases y
   obtain⟨aM,G⟩:∃C:Nat->St->Hp->Prop,∀i I H2,C i I H2↔(∃(ys:List V) (o:Option V),Same H H2/\H2 p=some (.dT (ents (eI g b b.length)))/\H2 q=some (.lst ys)/\WV H2 ys ((b.take i).map λw=>(oN N).map λx:Nat=>oV (ixO es c b (w++[(x:Int)])))/\I=[some (.int N),some (.ref a),some (.ref m),some (.ref p),T,o,some (.ref q)]):=#[_,λ_ _ _=>qk_];refine forB (t:=tb) (xs:=xs) aM ((G _ _ _).mpr (AO ([]) _ aJ (Same.new Z _ _ y) Ab WV.nil rfl)) (λi I H2 _ h2=>by refine e_E ((G _ _ _).mp h2) λ_=>f_E λ_=>f_A λA _=>?_;exact ah.mono A) (λi x I H2 aN h2=>?_) (λI H2 h2=>?_)
   ·left;refine AJ ((G _ _ _).mp h2) λys o A J=>f_A λaa=>f_A λL aO=>?_;subst aO;refine AJ (R.at aN) λf w r aP ak=>?_;subst aP;right;have U:=je_ r;have a8:=ay w U;have aQ:b.take (i+1)=b.take i++[w]:=by rw[jF_,r];rfl
    have a9:ys.length<=64:=by rw[L.1,ja_,jC_];lia
    nofun;refine AK (.inl #[rfl,_,SqL.of aa]) s!"" s!"" ?_;rw[jA_];obtain⟨ab,M⟩:∃ab:Nat->List V->St->Hp->Prop,∀j us O P,ab j us O P↔(Same H2 P/\us=((oN j).map λx:Nat=>oV (ixO es c b (w++[(x:Int)])))/\∃o,O=[o,some (.ref p),some (.ref m),some (.ref f)]):=#[_,λ_ _ _ _=>qk_];refine SN ab ((M _ _ _ _).mpr (Br (Same.refl _) rfl none rfl)) s!"" (λj us O P _ Q=>?_) (λj us O P aR Q=>?_) (λus O P Q D aS=>?_)
    ·left;obtain⟨_,rfl,_⟩:=(M _ _ _ _).mp Q;right;rw[ja_,qL_];lia
    ·left;refine BI ((M _ _ _ _).mp Q) λs aT aU aV=>?_;subst aT;subst aV;right;rw[xT_];have ar:=A.trans s;obtain⟨u,al,X⟩:=ao.get (MO (n:=N) U aR);nofun;refine q_AA (.inr #[_,.inl (s _ _ J)]) s!"" λba as=>Eb.ofS (Same.new as _ _ (ar _ _ ak)) Ab (by simp;lia) λaW au aX ac=>?_;have ad:=(Same.new as (o:=.tup [V.int j])).trans aX;have am:=ar.trans ad;have Y:DGet au m (.ref aW) (some (.ref u)):=by rw[<-al];exact DGet.t (k:=wkey (w++[(j:Int)])) (am _ _ hm) (by rw[Bq,jn_];exact ac)
     have av:∀o:Option V,o.getD .non=oV (ixO es c b (w++[(j:Int)]))->ab (j+1) (((oN j).map λx:Nat=>oV (ixO es c b (w++[(x:Int)])))++[o.getD .non]) [some (.int j),some (.ref p),some (.ref m),some (.ref f)] au:=λo aY=>(M _ _ _ _).mpr (Br (s.trans ad) (by rw[aY,xh_,jn_];rfl) _ rfl);by_cases ae:Ful es c (w++[(j:Int)])
     ·have aZ:H u=some (.tup ((g (w++[(j:Int)])).map V.int)):=by rw[B,<-Rh ae];exact X
      refine Ar _ Y _ (.inl (DGet.t (k:=wkey (g (w++[(j:Int)]))) ((s.trans ad) _ _ J) (by rw[Bq];exact am _ _ aZ))) (av _ ?_);by_cases af:g (w++[(j:Int)])∈b.map g
      ·rw[Ds (aC _ (jf_ _)) (BT_ af)];unfold ixO;rw[<-B,if_pos #[ae,af]];rfl
      ·rw[GN (by rw[Rj g b (jf_ _),qg_ (by rw[ja_];exact jf_ _)];exact af)];unfold ixO;rw[<-B,if_neg (λz=>af z.2)];rfl
     ·refine Ar _ Y none (.inr (BC _ u ((rowO es c (w++[(j:Int)])).map λo=>o.map (pE:Int->Key)) (.inl ((s.trans ad) _ _ J)) (AK rfl (by rw[BU_];exact am _ _ X) ?_ rfl))) (av _ ?_)
      ·have:none∈rowO es c (w++[(j:Int)]):=j4_ λz=>ae (OY.mpr z);exact jp_.mpr (q_EA none this rfl)
      ·unfold ixO;rw[if_neg (λz=>ae z.1)];rfl
    ·left;refine BI ((M _ _ _ _).mp Q) λs a0 aU a1=>?_;subst a0;subst a1;right;refine DL D rfl _ (.inl #[SqL.of Ab,λt d=>?_]);have ag:=(s.newT aS).newT d (o:=.tup ((oN N).map λx:Nat=>oV (ixO es c b (w++[(x:Int)]))));have ac:=ag _ _ aa;refine A7 _ ac s!"" ((G _ _ _).mpr (AO (ys++[.ref t]) _ ((A.trans ag).over aK) (by rw[Ak aL];exact ag _ _ J) Ab ?_ rfl));rw[aQ,jn_];exact ((L.mono λt ys e=>ag _ _ e).snoc Ab).mono λt ys e=>by rw[Ak (λz=>by rw[z,ac]at e;cases e)];exact e
   ·left;refine AJ ((G _ _ _).mp h2) λys o A J=>f_A λaa=>f_A λL a2=>?_;subst a2;right;rw[R.1,jz_]at L;nofun;exact#[_,.inl #[SqL.of aa,λt d=>k t ys _ (A.newT d) Ab (L.mono λt ys e=>Same.new d _ _ e)]]
def NY:∀{l:List (Option Int)} {r:α2},l.map oV=r.map V.int->l.map (·.getD 0)=r/\∀o∈l,o.isSome=true
 |[],[],_=>#[rfl,λo c=>by cases c]
 |[],_::_,h=>by cases h
 |_::_,[],h=>by cases h
 |o::l,x::r,h=>by
  rw[jT_,jT_]at h;injection h with h1 h2;obtain⟨a,b⟩:=NY h2;cases o with
  |none=>cases h1
  |some m=>
   cases h1;exact#[by rw[jT_,a];rfl,λo c=>by
    rcases jw_.mp c with rfl|c
    ·rfl
    ·exact b o c]
noncomputable def Xe (K:α3)(C:Addr):Sp:=λl H Q _=>∃(p d a b:Addr) (L:Int) (N:Nat) (es:List (α2×Int)) (xs ys:List V) (c i:α1) (g:α2->α2) (f:α2->Int),l=[.ref p,.int N,.ref a,.ref b]/\BookAt C H p d L es/\N<=6/\SqL K H a xs/\Am K H xs c/\c.length<=64/\(∀w∈c,w.length<=64)/\SqL K H b ys/\Am K H ys i/\i.length<=50/\(∀e∈i,e.length<=500)/\(∀w∈AU N c,(i.map λe=>oV (mkO es (w++e)))=(g w).map V.int)/\(c.map g).Nodup/\(∀w∈c,∀x:Nat,x<N->g (w++[(x:Int)])∈c.map g)/\(∀w∈c,mkO es w=some (f w))/\∀h j k zs H',Same H H'->H' h=some (.tup [.int N,.ref j,.ref k])->H' j=some (.tup ((c.map f).map V.int))->H' k=some (.tup zs)->Am K H' zs (c.map λw=>(oN N).map λx:Nat=>(((c.map g).idxOf (g (w++[(x:Int)])):Nat):Int))->Q (.ref h) H'
def Rk:⋯ EE.j29 4 ["book","letters","access","ends"] (Xe K ak):=by
 delta EE.j29 Jm
 ·refine AX h λp d a b=>CY λL N es xs=>CZ λys c j g f Z _=>?_;try clear h;subst Z;rfl
 ·left;refine AX h λp d a b=>CY λL N es xs=>CY λys c j g=>CF λf aa B J z s M O=>Bt λab ac ad ae af ag ah ai k=>?_;try clear h;subst aa
  right;have aO:=Al;refine q_EA _ (Ac (An (i:=4) Jm.nd (Ah (Hj EE) hr.d Au (Aa (pvD 0) (Aa (pvD 1) (Aa (pvD 2) (Aa (pvD 3) Ad))))))
   (Ac (An (i:=5) Jm.nd (AA AM rfl EE.tuple jE_ (Aa (Bh rfl (Bz rfl) (cp:=Ls) #[#[rfl,rfl],oO] (BZ (pvD 2)) (λ_ _ _ _=>(As (i:=0) MF rfl (oQ rfl))) (λ_ _ _ _=>By) (λ_ _ _ _=>(BF (pvD 1) EE.cl_j1 EE.j15.m (BD EE).g hr.d (BD EE).b .nil Au (Aa (pvD 0) Ad)))) Ad)))
   (Ae (Ao (BK (Aa (pvD 1) (Aa (pvD 5) (Aa (Ah (Gs EE) hr.d Au (Aa (pvD 1) (Aa (pvD 2) (Aa (pvD 4) Ad)))) Ad)))))))) ?_
  nofun;refine Bj p d a b (BX L N es xs ys c (Dx j rfl B J z s (AF M O ab ac ad ae λm aj H1 y aP hm P=>?_)));have al:Am K H1 xs c:=s.mono (TK.of y);have Q:=B.mono y;left;obtain⟨⟨dx,am⟩,aQ,an⟩:=id Q;right;refine#[#[_,y.seq z],Nb (xs:=xs) (λi us A H'=>H'=H1/\us=((c.take i).map f).map V.int/\∃o,A=[o,some (.ref p)]) (Br rfl rfl none rfl) (by rw[s.1];lia) (λi us A H' hi h'=>#[by rw[h'.1];exact y.seq z,by rw[h'.2.1,ja_,ja_,jC_];lia]) (λi x us A H' C h'=>?_) (λus A H' h' D ao=>?_)]
  ·left;refine BI h' λap aq o ar=>?_;try clear h';subst ap;subst aq;subst ar
   refine AJ (al.at C) λt w R as au=>?_;subst as;right;have E:=ai w (je_ R);have av:c.take (i+1)=c.take i++[w]:=by rw[jF_,R];rfl
   nofun;refine AB _ _ am (CJ _ _ (by decide +kernel) (by decide +kernel)) (Bj p d t L (AO w es rfl Q au (λaw=>?_) λv ax=>?_))
   ·rw[Ig aw]at E;cases E
   ·rw[D5 an ax]at E;cases E;refine Br rfl ?_ _ rfl;rw[av,jn_,jn_];rfl
  ·left;refine BI h' λay az o aA=>?_;try clear h';subst ay;subst az;subst aA
   right;rw[s.1,jz_];refine DL D rfl _ (.inl #[SqL.of Ab,λS aB=>?_]);have G:=(Same.new ao (o:=.lst ((c.map f).map V.int))).newT aB (o:=.tup ((c.map f).map V.int));have H:=y.trans G;have I:∀w∈AU N c,gI es j w=g w/\Ful es j w:=λw hw=>by
    have:=NY (l:=j.map λe=>mkO es (w++e)) (r:=g w) (by rw[jJ_];exact af w hw);refine#[?_,λe aC=>this.2 _ (jp_.mpr (q_EA e aC rfl))];rw[<-this.1,jJ_];rfl
   have T:c.map (gI es j)=c.map g:=jI_ λw hw=>(I w (Ga hw)).1;refine Bj N false a m (CU xs c aj es j rfl (AF J (H.seq z) (s.mono (TK.of H)) M O (G _ _ hm) (AK #[P.1,λi w hi=>?_] (λu q=>(I u (Ga q)).2) (by rw[T];exact ag) λU zs aD W aE X=>#[by lia,λh aF=>?_])))
   ·obtain⟨t,aG,aH⟩:=P.2 i w hi;refine q_EA t aG ?_;have:=G _ _ aH;have aI:(rowO es j w).map oV=j.map λe=>oV (mkO es (w++e)):=by unfold rowO;rw[jJ_];rfl
    show _=some (HO.tup ((rowO es j w).map oV));rw[aI];exact this
   ·have F:=Same.new aF (o:=.tup [.int N,.ref S,.ref U]);have aJ:Am K aD zs (c.map λw=>(oN N).map λx:Nat=>(((c.map g).idxOf (g (w++[(x:Int)])):Nat):Int)):=by
     refine#[by rw[X.1,ja_,ja_],λi w hi=>?_];rw[jh_]at hi;cases q:c[i]? with
     |none=>rw[q]at hi;cases hi
     |some u=>
      rw[q]at hi;cases hi;have Y:=je_ q;obtain⟨t,aK,aL⟩:=X.2 i _ (by rw[jh_,q];rfl);refine q_EA t aK ?_;rw[aL,jJ_]
      congr 2
      refine jI_ λx C=>?_;have hr:=MO (n:=N) Y (jU_.mp C);obtain⟨aM,aN⟩:=I _ hr;show oV (ixO es j c (u++[(x:Int)]))=_;unfold ixO;rw[T,aM,if_pos #[aN,ah u Y x (jU_.mp C)]];rfl
    exact k h S U zs _ (H.trans (W.trans F)) Ab ((W.trans F) _ _ Ab) (F _ _ aE) (aJ.mono (TK.of F))
noncomputable def Rl (K:α3):Sp:=λd H Q _=>∃(a:Addr) (N:Nat) (xs ys:List V) (b c:α1) (es:List (α2×Int)),d=[.ref a]/\Ppr K H a N xs ys b c es/\B49 N b c es/\Tt N b c es/\∀t zs H',Same H H'->H' t=some (.tup zs)->WV H' zs (b.map λw=>(oN N).map λx:Nat=>oV (ixO es c b (w++[(x:Int)])))->Q (.ref t) H'
def O1:⋯ EE.j64 2 ["paper"] (Rl K):=by
 delta EE.j64 DY
 ·refine AQ h λa N xs ys acc r es aa _=>?_;try clear h;subst aa;rfl
 ·left;refine AX h λa N xs ys=>BL λacc r es ab P G Q k=>?_;try clear h;subst ab
  right;have aK:=Al;refine q_EA _ (Ac (An (i:=1) DY.nd (AA (Ji rfl hr) rfl EE.dict zr_ (Aa (Aj (ixTD Ap) (pvD 0) Af) Ad)))
   (Ac (Dz (i:=2) DY.nd rfl (oQ rfl) FD)
   (Ac (BU jR_ rfl (BZ (Ah (La EE) hr.d Au (Aa (Aj (ixTD Ap) (pvD 0) Af) (Aa (Aj (ixTD Ap) (pvD 0) Af) Ad)))) (As (i:=3) DY.nd rfl (oQ rfl))
   (Ae (GH (GG hr) (pvD 2) (pvD 3) (Ah (IA EE) hr.d Au (Aa (pvD 1) (Aa (pvD 3) (Aa (Aj (ixTD Ap) (pvD 0) Af) Ad)))) rfl)))
   (Ae (Ao (Ah (Gs EE) hr.d Au (Aa (Aj (ixTD Ap) (pvD 0) Af) (Aa (Aj (ixTD Ap) (pvD 0) Af) (Aa (pvD 2) Ad))))))))) ?_
  left;refine AX (id P) λta te th o=>CF λts h1 h2 R ac ad ae af S=>?_;right;nofun;have aL:ts.length=es.length:=by rw[S.1];unfold ents;rw[ja_]
  have aM:=G.hl;have ag:=G.al;have aN:=G.el;have F:=G.n6;left;refine e_A Q λaO=>f_A λT=>f_A λaP=>f_A λah ai=>?_;try clear Q
  right;refine Ar _ h1 _ rfl (AY th o ts (ents es) rfl ae (AK af S (by unfold ents;rw[ja_];lia) λp aj j s=>?_));rw[OZ T]at s ⊢;have y:=(Same.new aj (o:=.dT (ents es))).newT s (o:=.dT []);have ak:upd (upd H p (.dT (ents es))) j (.dT []) p=some (.dT (ents es)):=Same.new s _ _ Ab;refine Ar _ (y.seqT h1) _ rfl (Ar _ (y.seqT h1) _ rfl (AI N true ta xs acc (AF rfl F (y.seqT h2) (R.mono (TK.of y)) s!"" (λw hw=>by have:=G.wa w hw;lia) λl rs H2 I U W am=>A7 l rfl #[_,SqL.of W] ?_)));have an:=y.trans I;have ao:H j=none:=(Ea s).1;have ap:j≠p:=(Ea s).2;have aq:l≠j:=λz=>by rw[z,Ab]at U;cases U
  have ar:H2 j=some (.dT []):=I _ _ Ab;obtain⟨J,A⟩:∃J:Nat->St->Hp->Prop,∀i B H',J i B H'↔(∃(b:List (List Key×V)) (L:Option V),Same H H'/\H' j=some (.dT b)/\H' p=some (.dT (ents es))/\H' l=some (.lst rs)/\Am K H' rs (AU N acc)/\C0 H' (λw=>(rowO es r w).map oV) ((AU N acc).take i) b/\B=[some (.ref a),some (.ref p),some (.ref j),L]):=#[_,λ_ _ _=>qk_];have aQ:(AU N acc).length<=100:=by
   have:=MK N acc;have:acc.length*N<=6*6:=qn_ ag F;lia
  have as:=NX (n:=N) (m:=60) (acc:=acc) λw hw=>G.wa w hw;refine forL (xs:=rs) J ((A _ _ _).mpr (BS ([]) none an ar (I _ _ ak) (AK W am C0.nil rfl))) (λi B H' _ h'=>by refine AJ ((A _ _ _).mp h') λ_ _ _ _=>f_A λ_=>f_A λh _=>?_;exact SqL.of h) (λi x B H' au h'=>?_) (λB H' h'=>?_)
  ·left;refine Ie ((A _ _ _).mp h') λb L g C M X D q av=>?_;subst av;refine AJ (D.at au) λaw u E ax Y=>?_;subst ax;right;have ay:=je_ E;have az:=(jb_.mp E).1;have aA:(AU N acc).take (i+1)=(AU N acc).take i++[u]:=by rw[jF_,E];rfl
   nofun;refine Ar _ (g.seqT h1) _ rfl (Bj p aw te u (Ai es ys r rfl M T (AF Y (by have:=as u ay;lia) (g.seqT ac) (ad.mono (TK.of g)) s!"" (λe aB=>by have:=G.we e aB;lia) λZ O f aC=>?_)));have aD:u∉(AU N acc).take i:=by
    have:=Lv az (MG N acc);rw[(jb_.mp E).2]at this;exact this
   have aR:b.length<=100:=by rw[q.1,jC_];lia
   have aE:C0 O (λw=>(rowO es r w).map oV) ((AU N acc).take i) b:=q.mono λt ys e=>f _ _ e;have aF:valV b (wkey u)=none:=by
    have:=q.keys.some_iff u;rw[jQ_ aD]at this;cases e:valV b (wkey u) with
    |none=>rfl
    |some v=>rw[e]at this;cases this
   have aG:putK b (wkey u) (.ref Z)=b++[(wkey u,.ref Z)]:=RI _ aF;refine q_EA _ (DPut.t (k:=wkey u) (f _ _ C) (by rw[Bq];exact f _ _ Y) s!"") ((A _ _ _).mpr (BS _ _ ((g.trans f).over ao) Ab (by rw[Ak (qs_ ap)];exact f _ _ M) (AK (by rw[Ak aq];exact f _ _ X) ((D.mono (TK.of f)).mono λc zs e=>by rw[Ak (λz=>by rw[z,f _ _ C]at e;cases e)];exact e) ?_ rfl)));rw[aG,aA];exact (aE.snoc aC).mono λt ys e=>by rw[Ak (λz=>by rw[z,f _ _ C]at e;cases e)];exact e
  ·left;refine Ie ((A _ _ _).mp h') λb L g C M X D q aH=>?_;subst aH;right;rw[D.1,jz_]at q;nofun;refine AH _ (g.seqT h1) _ rfl _ (g.seqT h1) (DL _ rfl N (BX true ta j xs acc b (AO es r rfl F (g.seqT h2) (R.mono (TK.of g)) (AF s!"" (λw hw=>by have:=G.wa w hw;lia) C q ah ai λt zs O f aI aJ=>k t zs O (g.trans f) aI aJ))))
noncomputable def fW (N:Nat)(g:α2->α2)(acc:α1):α1:=acc.map λu=>(oN N).map λx:Nat=>(((acc.map g).idxOf (g (u++[(x:Int)])):Nat):Int)
def Jp (N:Nat)(acc a:α1)(es:List (α2×Int)):Prop:=Tt N acc a es/\Aw acc/\a[0]?=some []/\∀u∈acc,∀x:Nat,x<N->(ixO es a acc (u++[(x:Int)])).isSome=true
noncomputable def mk49 (es:List (α2×Int))(u:α2):Int:=(mkO es u).getD 0
def ZP {acc a:α1} (h:∀u∈acc,∀x:Nat,x<N->(ixO es a acc (u++[(x:Int)])).isSome=true):(acc.map λw=>(oN N).map λx:Nat=>oV (ixO es a acc (w++[(x:Int)])))=(fW N (gI es a) acc).map λu=>u.map V.int:=by
 unfold fW;rw[jJ_];refine jI_ λu b=>?_;show _=r6 V.int _;rw[jJ_];refine jI_ λx c=>?_;have:=h u b x (jU_.mp c);unfold ixO at this ⊢;split at this
 ·rename_i d;rw[if_pos d];rfl
 ·cases this
def Sh {acc a:α1} : (∀x:Nat,x<N->(ixO es a acc (u++[(x:Int)])).isSome=true)↔none∉(oN N).map λx:Nat=>ixO es a acc (u++[(x:Int)]):=by
 constructor
 ·intro h z;obtain⟨x,b,e⟩:=jp_.mp z;have:=h x (jU_.mp b);rw[e]at this;cases this
 ·intro h x b;cases e:ixO es a acc (u++[(x:Int)]) with
  |some m=>rfl
  |none=>exact absurd (jp_.mpr (q_EA x (jU_.mpr b) e)) h
noncomputable def Rm (K:α3)(f:Addr):Sp:=λg H Q E=>∃(a:Addr) (N:Nat) (xs ys:List V) (b c:α1) (es:List (α2×Int)),g=[.ref a]/\Ppr K H a N xs ys b c es/\B49 N b c es/\(∀h d e zs H',Same H H'->Jp N b c es->H' h=some (.tup [.int N,.ref d,.ref e])->H' d=some (.tup ((b.map (mk49 es)).map V.int))->H' e=some (.tup zs)->Am K H' zs (fW N (gI es c) b)->Q (.ref h) H')/\(∀H',Same H H'->¬ Jp N b c es->E (.ref f) none H')
def VB:CalH P w mg base (CXe P w) EE.j65 4 ["paper"] (Rm K bF):=by
 refine HG.okE EE.j65 Mz (λg H Q E h=>?_) (λbo A outer s H g Q E B h=>?_)
 ·refine AQ h λa N xs ys c j es aE _=>?_;try clear h;subst aE;rfl
 ·left;refine AX h λa N xs ys=>BL λc j es aF P G k T=>?_;try clear h;subst aF
  right;have bp:=Al;refine q_EA _ (Ac (Bb (PW.pt (JK (Cm (ptB (Cd (Ah (IB EE) B.d Au (Aa (pvD 0) Ad))))) (JK (Cm (ptB (Cd (Ah (JD EE) B.d Au (Aa (Aj (ixTD Ap) (pvD 0) Af) Ad))))) (Ir (ptT (Ay (RX 8 (hu9 B)) (BV QY (Aj (ixTD Ap) (pvD 0) Af) EK (BR Af)) (BK (Aa (BK Ad) Ad)) (AL _)))))))
   (Ae (EC EE.m_j7 EE.x_j7 rfl rfl (Aa A0 Ad)))
   Az)
   (Ac (An (i:=1) Mz.nd (Ah (O1 EE) B.d Au (Aa (pvD 0) Ad)))
   (Ac (Bb (ptB (Cd (Av (RL rfl) rfl EE.any qC (Aa (Bh rfl (Bz rfl) (cp:=NT) oO (D8 (pvD 1)) (λ_ _ _ _=>(As (i:=0) OS rfl (oQ rfl))) (λ_ _ _ _=>By) (λ_ _ _ _=>(D9 (NO (K:=K) rfl) Ck (pvD 0) rfl))) Ad))))
   (Ae (EC EE.m_j7 EE.x_j7 rfl rfl (Aa A0 Ad)))
   Az)
   (Ac (Dz (i:=2) Mz.nd rfl (o9 rfl) (AA (Ji rfl B) rfl EE.dict zr_ (Aa (Aj (ixTD Ap) (pvD 0) Af) Ad)))
   (Ae (Ao (BK (Aa (Aj (ixTD Ap) (pvD 0) Af) (Aa (AA AM rfl EE.tuple jE_ (Aa (Bh rfl (Bz rfl) (cp:=NU) #[#[rfl,rfl],oO] (D8 (Aj (ixTD Ap) (pvD 0) Af)) (λ_ _ _ _=>(As (i:=0) OU rfl (oQ rfl))) (λ_ _ _ _=>By) (λ_ _ _ _=>(Mg (GG B) (pvD 1) (pvD 0) (λ_ _=>rfl)))) Ad)) (Aa (pvD 1) Ad)))))))))) ?_
  left;refine AX (id P) λta te th o=>CF λts h1 h2 U aG an aH aI ao=>?_;right;have bq:=G.al;have br:=G.hl;have bs:=G.el;nofun;refine AI a N xs ys c (AO j es rfl P G (λH1 n q=>q_EA true rfl ?_) λH1 n q=>q_EA false rfl ?_)
  rotate_left
  ·refine DZ (by simp) ?_;exact#[by lia,T _ n λz=>q z.1]
  refine Bw (by simp) ?_;refine Ar _ (n.seqT h1) _ rfl (Ai ta xs c rfl (n.seqT h2) (U.mono (TK.of n)) (AK s!"" q.1 (λH2 aa ab=>q_EA true rfl ?_) λH2 aa ab=>q_EA false rfl ?_))
  rotate_left
  ·refine DZ (by simp) ?_;exact#[by lia,T _ (n.trans aa) λz=>ab z.2.1]
  refine Bw (by simp) ?_;have ac:=n.trans aa;refine q_EA _ (ac.seqT h1) (AH _ rfl te rfl _ (ac.seqT aG) λad ap aJ C=>#[by lia,λD aK=>#[by lia,λF aq=>?_]]);have aL:cutV ys none (some 1)=ys.take 1:=ML ys 1;rw[aL]at C;have aM:=ac.trans aJ;have ae:=(Same.new aK (o:=.tup [])).newT aq (o:=.tup [V.ref D]);have W:=aM.trans ae;have aN:EqD K (upd (upd ap D (.tup [])) F (.tup [V.ref D])) 8 (.ref ad) (.ref F) (decide (j[0]?=some [])):=by
   cases ar:j with
   |nil=>
    have aO:ys=[]:=ql_.mp (by rw[an.1,ar];rfl);rw[aO]at C;exact .inr (AY ad F _ _ rfl rfl (Dq (.inr #[ae.seqT C,SqT.of Ab]) (λ_=>true) (λi x y f I=>by simp at f) (by simp)))
   |cons e r=>
    obtain⟨aP,as,aQ⟩:=an.2 0 e (by rw[ar];rfl);have aR:ys.take 1=[.ref aP]:=by
     cases ys with
     |nil=>cases as
     |cons y r=>cases as;rfl
    rw[aR]at C;refine .inr (AY ad F _ _ rfl rfl (Dq (.inr #[ae.seqT C,SqT.of Ab]) (λ_=>decide (e=[])) (λi x y f I=>?_) (by simp)))
    match i,f,I with
    |0,f,I=>
     cases f;cases I;have:=EqD.ints (K:=K) (H:=upd (upd ap D (.tup [])) F (.tup [V.ref D])) (xs:=e) (ys:=[]) (.inr #[SqT.of (W _ _ aQ),SqT.of (Same.new aq _ _ Ab)]) 6;exact this
    |i+1,f,I=>simp at f
  refine q_EA _ aN ?_;by_cases J:j[0]?=some []
  rotate_left
  ·refine DZ (by rw[jQ_ J];rfl) ?_;exact#[by lia,T _ W λz=>J z.2.2.1]
  refine Bw (by rw[jH_ J];simp) ?_;refine AI a N xs ys c (AO j es rfl (P.mono W) G q λaf zs aS aT ag X=>A7 af rfl #[_,SqT.of ag] ?_);have aU:=W.trans aT;have aV:zs.length=c.length:=by rw[X.1,ja_]
  have bt:ts.length=es.length:=by rw[ao.1];unfold ents;rw[ja_]
  obtain⟨aW,L⟩:∃M:Nat->List V->St->Hp->Prop,∀i g l H',M i g l H'↔(H'=aS/\g=((c.take i).map λu=>decide (none∈(oN N).map λx:Nat=>ixO es j c (u++[(x:Int)]))).map V.bl/\∃o,l=[o]):=#[_,λ_ _ _ _=>qk_];refine QQ (xs:=zs) aW ((L _ _ _ _).mpr (Br rfl rfl none rfl)) s!"" (λi g l H' hi h'=>?_) (λi x g l H' f h'=>?_) (λg l H' h' ah aX=>?_)
  ·left;obtain⟨rfl,rfl,_⟩:=(L _ _ _ _).mp h';right;exact#[SqT.of ag,by rw[ja_,ja_,jC_];lia]
  ·left;refine BI ((L _ _ _ _).mp h') λaY aZ ai a0=>?_;subst aY;subst aZ;subst a0;refine AJ (X.at f) λtu g Y a1 Z=>?_;subst a1;rw[jh_]at Y;obtain⟨u,m,rfl⟩:=qc_.mp Y;right;have aj:c.take (i+1)=c.take i++[u]:=by rw[jF_,m];rfl
   have a2:((oN N).map λx:Nat=>oV (ixO es j c (u++[(x:Int)])))=((oN N).map λx:Nat=>ixO es j c (u++[(x:Int)])).map oV:=by rw[jJ_];rfl
   rw[a2]at Z;nofun;refine q_EA _ (.inr (SqT.of Z)) (q_AA rfl (Vy _) ((L _ _ _ _).mpr (Br rfl ?_ _ rfl)));rw[YI,aj,jn_,jn_];rfl
  ·left;refine BI ((L _ _ _ _).mp h') λa3 a4 ai a5=>?_;subst a3;subst a4;subst a5;right;rw[aV,jz_];refine Ar ah rfl _ (SqL.of Ab) ?_;have au:=Same.new aX (o:=.lst ((c.map λu=>decide (none∈(oN N).map λx:Nat=>ixO es j c (u++[(x:Int)]))).map V.bl));have O:=aU.trans au;by_cases R:∀u∈c,∀x:Nat,x<N->(ixO es j c (u++[(x:Int)])).isSome=true
   rotate_left
   ·rw[if_pos (by
     refine j4_ λf=>R λu m=>Sh.mpr λz=>f ?_;exact qe_.mpr (q_EA true (jp_.mpr (q_EA u m (jH_ z))) rfl))]
    exact#[by lia,T _ O λz=>R z.2.2.2]
   rw[if_neg (by
    intro f;left;obtain⟨b,a6,e⟩:=qe_.mp f;obtain⟨u,m,rfl⟩:=jp_.mp a6;right;exact Sh.mp (R u m) (j0_ e))]
   have a7:Jp N c j es:=AK q ab J R;have av:=q.2.1;refine Ar _ (O.seqT h1) _ rfl (AY th o ts (ents es) rfl (O _ _ aH) (AK aI (ao.mono O) (by unfold ents;rw[ja_];lia) λp aw=>?_));rw[OZ av];have v:=O.newT aw (o:=.dT (ents es));have ak:=au.newT aw (o:=.dT (ents es));refine q_EA _ (v.seqT h1) (AH _ rfl _ (v.seqT h1) _ rfl (A7 ta rfl #[_,v.seqT h2] ?_));rw[ZP R]at X;have ax:=(X.mono λt ys e=>ak _ _ e).words (K:=K);have ay:=ak _ _ ag;have az:upd (upd H' ah (.lst ((c.map λu=>decide (none∈(oN N).map λx:Nat=>ixO es j c (u++[(x:Int)]))).map V.bl))) p (.dT (ents es)) p=some (.dT (ents es)):=Ab;generalize upd (upd H' ah (.lst ((c.map λu=>decide (none∈(oN N).map λx:Nat=>ixO es j c (u++[(x:Int)]))).map V.bl))) p (.dT (ents es))=a8 at v ak az ax ay ⊢;obtain⟨M,S⟩:∃M:Nat->List V->St->Hp->Prop,∀i g l H',M i g l H'↔(H'=a8/\g=((c.take i).map (mk49 es)).map V.int/\∃o,l=[o,some (.ref p)]):=#[_,λ_ _ _ _=>qk_];refine QQ (xs:=xs) M ((S _ _ _ _).mpr (Br rfl rfl none rfl)) (by rw[U.1];lia) (λi g l H' hi h'=>?_) (λi x g l H' f h'=>?_) (λg l H' h' a9 ba=>?_)
   ·left;obtain⟨rfl,rfl,_⟩:=(S _ _ _ _).mp h';right;exact#[v.seqT h2,by rw[ja_,ja_,jC_];lia]
   ·left;refine BI ((S _ _ _ _).mp h') λbb bc ai bd=>?_;subst bb;subst bc;subst bd;refine AJ (U.at f) λtu u m be Z=>?_;subst be;have bf:=je_ m;have aA:=q.2.2.2.1 u bf [] (je_ J);rw[xO_]at aA;obtain⟨bu,aB⟩:=xt_.mp aA;right;have aj:c.take (i+1)=c.take i++[u]:=by rw[jF_,m];rfl
    have Y:valV (ents es) (wkey u)=some (.int (mk49 es u)):=by
     have:=Ds av (Vx aB);unfold mk49;rw[aB];exact this
    nofun;have bg:DGet H' p (.ref tu) (some (.int (mk49 es u))):=by rw[<-Y];exact DGet.t (k:=wkey u) az (by rw[Bq];exact v _ _ Z)
    refine q_EA _ bg ((S _ _ _ _).mpr (Br rfl ?_ _ rfl));rw[aj,jn_,jn_];rfl
   ·left;refine BI ((S _ _ _ _).mp h') λbh bi ai bj=>?_;subst bh;subst bi;subst bj;right;rw[U.1,jz_];refine DL a9 rfl _ (.inl #[SqL.of Ab,λaC bk=>#[by lia,λbm aD=>?_]]);have bn:=(Same.new ba (o:=.lst ((c.map (mk49 es)).map V.int))).newT bk (o:=.tup ((c.map (mk49 es)).map V.int));have am:=bn.newT aD (o:=.tup [.int N,.ref aC,.ref af]);exact k bm aC af zs _ (v.trans am) a7 Ab (Same.new aD _ _ Ab) (am _ _ ay) (ax.mono (TK.of am))
noncomputable def IC (af:α2)(ways:α1)(tr:α2×Int):Bool:=decide (Bf af (Ax ways tr.1)≠tr.2)
noncomputable def MQ (K:α3)(b:Addr):Sp:=λc H Q _=>∃(l h:Addr) (L:Int) (af:α2) (ways:α1) (rs:List V) (es:List (α2×Int)),c=[.ref l,.ref b,.ref h]/\SqL K H l rs/\Ek H rs es/\Cp K H h L af ways/\Wf L af ways/\(∀e∈es,isW L e.1=true/\e.1.length<=600) /\
 ∀H',Same H H'->((∀e∈es,IC af ways e=false)->Q .non H')/\∀(i:Nat) (e:α2×Int) (t:Addr),(∀j,j<i->∀a,es[j]?=some a->IC af ways a=false)->es[i]?=some e->IC af ways e=true->H' t=some (.tup (e.1.map V.int))->Q (.ref t) H'
def MR:⋯ EE.j31 6 ["heard","answer","house"] (MQ K (fA 22)):=by
 delta EE.j31 Ei
 ·obtain⟨l,h,L,af,ways,rs,es,rfl,_⟩:=h;rfl
 ·left;obtain⟨l,h,L,af,ways,rs,es,rfl,A,p,J,M,N,k⟩:=h;right;exists _,(Ac (BU jR_ rfl (BZ (pvD 0)) (Pp rfl (Dr (As (i:=3) Ei.nd rfl (oQ rfl)) (Dr (As (i:=4) Ei.nd rfl (oQ rfl)) Ma)))
   (Ae (Bb (ptT (Ay (opN KH) (WJ 1 (E1 EE).g hr.d EE.j22.F.kp (E1 EE).b .nil (FH (P:=P) (w:=w)) (Aa (pvD 2) (Aa (pvD 3) Ad))) (pvD 4) (AL _)))
   (Ae (Ao (pvD 3)))
   Az)))
   (Ae (Ao Ck)))
  nofun;exists #[_,A];obtain⟨q,c⟩:∃q:Nat->St->Hp->Prop,∀i B H',q i B H'↔(Same H H'/\(∀j,j<i->∀e,es[j]?=some e->IC af ways e=false)/\∃o o',B=[some (.ref l),some (.ref (fA 22)),some (.ref h),o,o']):=#[_,λ_ _ _=>qk_];refine forL (xs:=rs) q ((c _ _ _).mpr #[Same.refl _,λj f=>absurd f (q1_ _),none,none,rfl]) (λi C H2 _ h2=>((c _ _ _).mp h2).1.seq A) (λi x C H2 D h2=>?_) (λC H2 h2=>?_)
  ·obtain⟨a,n,o,o',rfl⟩:=(c _ _ _).mp h2;have hi:i<es.length:=by rw[<-p.1];exact (jb_.mp D).1
   have m:es[i]?=some es[i]:=by simp[hi]
   left;obtain⟨t,E,G,I,r⟩:=p.2 i _ m;right;rw[D]at G;cases G;have s:=N _ (je_ m);generalize es[i]=e at m I r s;nofun;refine#[_,SqT.of (a _ _ I),rfl,_,_,rfl,_,_,rfl,rfl,h,E,L,af,ways,e.1,rfl,J.mono a,M,SqT.of (a _ _ r),s.2,λ_ S u=>#[rfl,?_],λz=>by rw[s.1]at z;cases z];by_cases hw:Bf af (Ax ways e.1)=e.2
   ·rw[if_neg (by rw[hw];simp)];refine (c _ _ _).mpr #[a.trans u,λj f O v=>?_,_,_,rfl];by_cases Q:j<i
    ·exact n j Q O v
    ·have y:j=i:=by lia
     subst y;rw[m]at v;cases v;exact jQ_ λz=>z hw
   ·rw[if_pos (by simp[hw])];exact (k _ (a.trans u)).2 i e E n m (jH_ hw) ((a.trans u) _ _ r)
  ·left;obtain⟨a,n,o,o',rfl⟩:=(c _ _ _).mp h2;right;nofun;refine (k _ a).1 λe R=>?_;obtain⟨j,f,y⟩:=j3_ R;exact n j (by rw[p.1];exact f) e (by rw[jg_ f,y])
noncomputable def Nu (K:α3)(C:Addr):Sp:=λb H Q _=>∃(p d h:Addr) (L:Int) (af:α2) (ways:α1) (es:List (α2×Int)),b=[.ref p,.ref h]/\Cp K H h L af ways/\Wf L af ways/\BookAt C H p d L es/\(∀e∈es,isW L e.1=true/\e.1.length<=600) /\
 ∀H',Same H H'->((∀e∈es,IC af ways e=false)->Q .non H')/\∀(i:Nat) (e:α2×Int) (t:Addr),(∀j,j<i->∀a,es[j]?=some a->IC af ways a=false)->es[i]?=some e->IC af ways e=true->H' t=some (.tup (e.1.map V.int))->Q (.ref t) H'
def Nv:⋯ EE.j32 7 ["book","house"] (Nu K ak):=by
 delta EE.j32 Nl
 ·obtain⟨p,d,h,L,af,ways,es,rfl,_⟩:=h;rfl
 ·left;obtain⟨p,d,h,L,af,ways,es,rfl,c,e,B,f,k⟩:=h;right;exists _,(Ae (Ao (Ah (MR EE) hr.d Au (Aa (A2 (pvD 0) EE.cl_j1 EE.j4.m (D1 EE).g hr.d (D1 EE).b .nil Au) (Aa (QH (v:=.ref (fA 22)) rfl EE.j22.m rfl) (Aa (pvD 1) Ad))))));left;obtain⟨⟨dx,i⟩,q,r⟩:=id B;right;nofun;refine#[_,_,i,CJ _ _ (by decide +kernel) (by decide +kernel),p,d,L,es,rfl,B,λl rs H1 a s j n=>?_];exact#[l,h,L,af,ways,rs,es,rfl,SqL.of j,n,c.mono a,e,f,λH2 o=>k _ (a.trans o)]
def O2 (l:α1):∀(s:α1) (v:α2),v∈l.foldl ins s↔v∈s\/v∈l:=by
 induction l with
 |nil=>intro s v;simp
 |cons a l b=>
  intro s v;rw[xf_,b];unfold ins;split
  ·rename_i h
   constructor
   ·rintro (h1|h1)
    ·exact .inl h1
    ·exact .inr (jo_ _ h1)
   ·rintro (h1|h1)
    ·exact .inl h1
    ·rcases jw_.mp h1 with rfl|h1
     ·exact .inl h
     ·exact .inr h1
  ·constructor
   ·rintro (h1|h1)
    ·rcases jr_.mp h1 with h1|h1
     ·exact .inl h1
     ·rw[jd_.mp h1];exact .inr (jt_ ..)
    ·exact .inr (jo_ _ h1)
   ·rintro (h1|h1)
    ·exact .inl (jY_ _ h1)
    ·rcases jw_.mp h1 with rfl|h1
     ·exact .inl (by simp)
     ·exact .inr h1
def AG : v∈AU L W↔v∈W \/ ∃a∈W,∃x:Nat,x<L/\v=a++[(x:Int)]:=by
 unfold AU;rw[O2,O2];simp only[rN,false_or,xE_,extW,jp_,jU_];constructor
 ·rintro (h|⟨a,b,x,c,rfl⟩)
  ·exact .inl h
  ·exact .inr (Ar a b x c rfl)
 ·rintro (h|⟨a,b,x,c,rfl⟩)
  ·exact .inl h
  ·exact .inr (Ar a b x c rfl)
def A3 : c∈Ed R E ↔ ∃r∈R,∃e∈E,c=r++e:=by
 unfold Ed;rw[O2];simp only[rN,false_or,xE_,jp_];constructor
 ·rintro⟨r,a,e,b,rfl⟩;exact Ar r a e b rfl
 ·rintro⟨r,a,e,b,rfl⟩;exact Ar r a e b rfl
abbrev Bk:=List (α2×Int)
def Grow (es es':Bk):Prop:=∀v m,mkO es v=some m->mkO es' v=some m
def Grow.refl (es:Bk):Grow es es:=λ_ _ h=>h
def Grow.snoc (es:Bk)(v:α2)(m:Int):Grow es (es++[(v,m)]):=λu n h=>by
 unfold mkO at h ⊢;rw[rE];cases a:es.find? (λe=>decide (e.1=u)) with
 |none=>rw[a]at h;cases h
 |some e=>rw[a]at h;exact h
def O3 (h:mkO es v=some m):(v,m)∈es:=by
 unfold mkO at h;cases a:es.find? (λe=>decide (e.1=v)) with
 |none=>rw[a]at h;cases h
 |some e=>
  rw[a]at h;have h1:=qC_ a;have h2:=xg_ a;simp at h h2;subst h h2;exact h1
def O4 : v∈es.map (·.1) ↔ ∃m,mkO es v=some m:=by
 constructor
 ·intro h;cases hm:mkO es v with
  |some m=>exact#[m,rfl]
  |none=>
   obtain⟨e,a,rfl⟩:=jp_.mp h;unfold mkO at hm;rw[zs_,qf_]at hm;exact absurd (jH_ rfl) (hm e a)
 ·rintro⟨m,hm⟩;exact jp_.mpr (q_EA _ (O3 hm) rfl)
def J2 (E:α1)(es:Bk)(v u:α2):Prop:=∃e∈E,∃m n,mkO es (v++e)=some m/\mkO es (u++e)=some n/\m≠n
def J2.symm (h:J2 E es v u):J2 E es u v:=by
 refine e_E h λe=>f_A λd=>B6 λm n a b c=>?_;try clear h
 exact BH e d n m b a (qs_ c)
def J2.mono (h:J2 E es v u)(d:∀e∈E,e∈E')(g:Grow es es'):J2 E' es' v u:=by
 refine e_E h λe=>f_A λf=>B6 λm n a b c=>?_;try clear h
 exact BH e (d e f) m n (g _ _ a) (g _ _ b) c
def Pend (L:Nat)(W E:α1)(es:Bk):Prop:=∃a∈W,∃x:Nat,x<L/\∀u∈W,J2 E es (a++[(x:Int)]) u
def Pend.mono (h:Pend L W E es)(g:Grow es es'):Pend L W E es':=by
 refine e_E h λa=>f_A λb=>f_E λx=>f_A λc k=>?_;try clear h
 exact Ar a b x c λu d=>(k u d).mono (λ_ z=>z) g
structure Tb (L most:Nat)(W E:α1)(es:Bk):Prop where
 l1:1<=L
 l6:L<=6
 m12:most<=12
 w0:W[0]?=some []
 wW:∀v∈W,isW L v=true/\v.length<W.length
 wn:W.length<=most
 e0:E[0]?=some []
 eW:∀e∈E,isW L e=true
 nd:(es.map (·.1)).Nodup
 bW:∀p∈es,isW L p.1=true/\0<=p.2/\p.2<=1000000000
 dist:∀(i j:Nat) (v u:α2),W[i]?=some v->W[j]?=some u->i≠j->J2 E es v u
 jj:E.length<=W.length\/(E.length=W.length+1/\Pend L W E es)
def Tb.en (t:Tb L most W E es):E.length<=most+1:=by
 have:=t.wn;rcases t.jj with h|h
 ·lia
 ·lia
def Tb.put {L most:Nat}{W E:α1}{es:Bk}(t:Tb L most W E es){v:α2}{m:Int}(d:v∉es.map (·.1))(e:isW L v=true)(f:0<=m)(g:m<=1000000000):Tb L most W E (es++[(v,m)]) where
 l1:=t.l1
 l6:=t.l6
 m12:=t.m12
 w0:=t.w0
 wW:=t.wW
 wn:=t.wn
 e0:=t.e0
 eW:=t.eW
 nd:=by
  rw[jn_,qm_];exact q_AA t.nd (by simp) λa k b l=>by rw[jd_.mp l];intro z;subst z;exact d k
 bW:=λp c=>by
  rcases jr_.mp c with c|c
  ·exact t.bW p c
  ·rw[jd_.mp c];exact q_AA e f g
 dist:=λi j n u h1 h2 o=>(t.dist i j n u h1 h2 o).mono (λ_ z=>z) (Grow.snoc es v m)
 jj:=by
  rcases t.jj with h|h
  ·exact .inl h
  ·exact .inr #[h.1,h.2.mono (Grow.snoc es v m)]
def Full (L:Nat)(W E:α1)(es:Bk):Prop:=∀c∈Ed (AU L W) E,∃m,mkO es c=some m
noncomputable def gOf (E:α1)(es:Bk)(v:α2):α2:=E.map λe=>(mkO es (v++e)).getD 0
def YJ (f:Full L W E es) (a:v∈AU L W):(E.map λe=>oV (mkO es (v++e)))=(gOf E es v).map V.int:=by
 unfold gOf;rw[jJ_];refine jI_ λe b=>?_;obtain⟨m,hm⟩:=f (v++e) (A3.mpr (Ar v a e b rfl));show oV (mkO es (v++e))=V.int ((mkO es (v++e)).getD 0);rw[hm];rfl
def Hk (f:Full L W E es) (g:v∈AU L W)(i:u∈AU L W):gOf E es v≠gOf E es u↔J2 E es v u:=by
 constructor
 ·intro h;refine qD_ λj=>h ?_;unfold gOf;refine jI_ λe a=>?_;obtain⟨m,hm⟩:=f (v++e) (A3.mpr (Ar v g e a rfl));obtain⟨n,b⟩:=f (u++e) (A3.mpr (Ar u i e a rfl));rw[hm,b];exact qD_ λc=>j (BH e a m n hm b c)
 ·rintro⟨e,a,m,n,hm,b,c⟩ d;unfold gOf at d;have:=List.map_inj_left.mp d e a;rw[hm,b]at this;exact c this
def Tb.nodup (t:Tb L most W E es)(f:Full L W E es):(W.map (gOf E es)).Nodup:=by
 rw[x0_,xW_,xp_];intro i j hi a b;exact (Hk f (AG.mpr (.inl (qd_ hi))) (AG.mpr (.inl (qd_ a)))).mpr (t.dist i j _ _ (jg_ hi) (jg_ a) s!"")
def Tb.more (t:Tb L most W E es)(f:Full L W E es) (h:(AU L W).find? (λv=>decide (gOf E es v∉W.map (gOf E es)))=some v):(v∈AU L W/\v∉W/\isW L v=true/\v.length<=W.length)/\(W.length<most->Tb L most (W++[v]) E es):=by
 have h1:=qC_ h;have h2:=xg_ h;have h2:gOf E es v∉W.map (gOf E es):=j0_ h2;have k:v∉W:=λz=>h2 (qX_ z);have l:∀u∈W,J2 E es v u:=λu c=>(Hk f h1 (AG.mpr (.inl c))).mp λz=>h2 (by rw[z];exact qX_ c);have g:isW L v=true/\v.length<=W.length:=by
  rcases AG.mp h1 with h|⟨a,m,x,s,rfl⟩
  ·exact absurd h k
  ·have:=t.wW a m;exact#[AE.mpr λy e=>by
    rcases jr_.mp e with e|e
    ·exact AE.mp this.1 y e
    ·rw[jd_.mp e];lia,by rw[jk_,jB_];lia]
 refine#[(AK h1 k g.1 g.2),λhm=>#[t.l1,t.l6,t.m12,?_,λu c=>?_,by simp;lia,t.e0,t.eW,t.nd,t.bW,λi j a b hi d n=>?_,?_]]
 ·have:=(jb_.mp t.w0).1;rw[ji_ this];exact t.w0
 ·rw[jk_,jB_];rcases jr_.mp c with c|c
  ·have:=t.wW u c;exact#[this.1,by lia]
  ·rw[jd_.mp c];exact#[g.1,by lia]
 ·have o:=(jb_.mp hi).1;have p:=(jb_.mp d).1;rw[jk_,jB_]at o p;by_cases q:i<W.length
  ·rw[ji_ q]at hi;by_cases r:j<W.length
   ·rw[ji_ r]at d;exact t.dist i j a b hi d n
   ·rw[ju_ s!"",show j-W.length=0 by lia]at d;cases d;exact (l a (je_ hi)).symm
  ·rw[ju_ s!"",show i-W.length=0 by lia]at hi;cases hi;rw[ji_ s!""]at d;exact l b (je_ d)
 ·rw[jk_,jB_];rcases t.jj with h|h
  ·exact .inl s!""
  ·exact .inl s!""
def Tb.none (t:Tb L most W E es)(f:Full L W E es)(h:(AU L W).find? (λv=>decide (gOf E es v∉W.map (gOf E es)))=none):¬ Pend L W E es/\(∀a∈W,∀x:Nat,x<L->gOf E es (a++[(x:Int)])∈W.map (gOf E es)):=by
 have d:∀v∈AU L W,gOf E es v∈W.map (gOf E es):=λv j=>by
  have:=qf_.mp h v j;simpa using this
 refine#[λ⟨a,b,x,c,k⟩=>?_,λa b x c=>d _ (AG.mpr (.inr #[a,b,x,c,rfl]))];have g:=AG.mpr (.inr #[a,b,x,c,rfl]);obtain⟨u,i,e⟩:=jp_.mp (d _ g);exact (Hk f g (AG.mpr (.inl i))).mpr (k u i) e.symm
structure GuessOk (L:Nat)(W E:α1)(es:Bk)(af:α2)(ways:α1):Prop where
 ml:af.length=W.length
 m:∀(i:Nat) (v:α2),W[i]?=some v->∃y,af[i]?=some y/\mkO es v=some y
 wl:ways.length=W.length
 rl:∀row∈ways,row.length=L
 go:∀(i:Nat) (v:α2) (x:Nat),W[i]?=some v->x<L->∃(row:α2) (k:Nat) (u:α2),ways[i]?=some row/\row[x]?=some (k:Int)/\W[k]?=some u/\∀e∈E,∃y,mkO es (v++[(x:Int)]++e)=some y/\mkO es (u++e)=some y
def GuessOk.mono (g:GuessOk L W E es af ways)(h:Grow es es'):GuessOk L W E es' af ways:=by
 refine#[g.ml,λi v f=>?_,g.wl,g.rl,λi v x f j=>?_]
 ·obtain⟨y,a,b⟩:=g.m i v f;exact q_EA y a (h _ _ b)
 ·refine CV (g.go i v x f j) λl k u a b c d=>?_;refine Ai l k u a b c λe n=>?_;obtain⟨y,o,p⟩:=d e n;exact q_EA y (h _ _ o) (h _ _ p)
def BV_ {α:Type}[BEq α][LawfulBEq α]{l:List α}{a:α}(h:a∈l):l[l.idxOf a]?=some a/\l.idxOf a<l.length:=by
 have h1:=zi_.mpr h;exact#[by rw[jg_ h1,xm_],h1]
def Tb.guess (t:Tb L most W E es)(f:Full L W E es)(h:∀a∈W,∀x:Nat,x<L->gOf E es (a++[(x:Int)])∈W.map (gOf E es)):GuessOk L W E es (W.map λv=>(mkO es v).getD 0) (W.map λv=>(oN L).map λx:Nat=>(((W.map (gOf E es)).idxOf (gOf E es (v++[(x:Int)])):Nat):Int)):=by
 have q:([]:α2)∈E:=je_ t.e0;refine#[by rw[ja_],λi v b=>?_,by rw[ja_],λA r=>?_,λi v x b d=>?_]
 ·obtain⟨m,hm⟩:=f v (A3.mpr (Ar v (AG.mpr (.inl (je_ b))) ([]) q (by simp)));exact q_EA m (by rw[jh_,b];show some ((mkO es v).getD 0)=_;rw[hm];rfl) hm
 ·obtain⟨v,_,rfl⟩:=jp_.mp r;rw[ja_,qL_]
 ·have l:=je_ b;have s:=h v l x d;obtain⟨g,c⟩:=BV_ s;obtain⟨k,n⟩:∃k,k=(W.map (gOf E es)).idxOf (gOf E es (v++[(x:Int)])):=#[_,rfl];rw[<-n]at g c;rw[ja_]at c;rw[jh_,jg_ c]at g;have u:gOf E es W[k]=gOf E es (v++[(x:Int)]):=jD_ g;refine Ai _ k (W[k]) (by rw[jh_,b];rfl) (by rw[jh_,qW_ d,n];rfl) (jg_ c) λe j=>?_;obtain⟨y,o⟩:=f (v++[(x:Int)]++e) (A3.mpr (Ar _ (AG.mpr (.inr (Ar v l x d rfl))) e j rfl));obtain⟨z,p⟩:=f (W[k]++e) (A3.mpr (Ar _ (AG.mpr (.inl (qd_ c))) e j rfl));have:=List.map_inj_left.mp u e j;rw[o,p]at this;have w:z=y:=this;exact q_EA y o (by rw[p,w])
def Tb.wf (t:Tb L most W E es) (g:GuessOk L W E es af ways):Wf L af ways:=by
 have n:=(jb_.mp t.w0).1;have:=t.wn;have:=t.m12;have:=t.l1;have:=t.l6;refine#[by lia,by lia,by rw[g.ml];lia,by rw[g.ml];lia,by rw[g.wl,g.ml],λf e=>?_,λm hm=>?_]
 ·refine#[by rw[g.rl f e],λy l=>?_];obtain⟨i,hi⟩:=jN_.mp e;have d:=(jb_.mp hi).1;rw[g.wl]at d;obtain⟨x,h⟩:=jN_.mp l;have j:=(jb_.mp h).1;rw[g.rl f e]at j;refine CV (g.go i _ x (jg_ d) j) λo k u a b c _=>?_;rw[hi]at a;cases a;rw[h]at b;cases b;have:=(jb_.mp c).1;rw[g.ml];lia
 ·obtain⟨i,hi⟩:=jN_.mp hm;have d:=(jb_.mp hi).1;rw[g.ml]at d;obtain⟨y,a,b⟩:=g.m i _ (jg_ d);rw[hi]at a;cases a;exact (t.bW _ (O3 b)).2
def GuessOk.room (t:Tb L most W E es) (g:GuessOk L W E es af ways) (b:isW L v=true):∀i:Nat,∃(k:Nat) (u:α2),Ax ways (v.take i)=(k:Int)/\W[k]?=some u:=λi=>by
 have c:=t.wf g;obtain⟨d,h1⟩:=c.walk b i;rw[g.ml]at h1;obtain⟨k,a⟩:=xa_ d;rw[a]at h1;exact#[k,q_EA (W[k]'s!"") a (jg_ s!"")]
def GuessOk.step {L most:Nat}{W E:α1}{es:Bk}(t:Tb L most W E es){af:α2}{ways:α1}(g:GuessOk L W E es af ways){v:α2}(c:isW L v=true){i k:Nat}{a:α2}{y:Int}(b:v[i]?=some y)(d:Ax ways (v.take i)=(k:Int))(f:W[k]?=some a):∃(x k':Nat) (u:α2),y=(x:Int)/\x<L/\Ax ways (v.take (i+1))=(k':Int)/\W[k']?=some u/\∀e∈E,∃m,mkO es (a++[(x:Int)]++e)=some m/\mkO es (u++e)=some m:=by
 have h:=AE.mp c y (je_ b);obtain⟨x,rfl⟩:=xa_ h.1;refine CV (g.go k a x f s!"") λp k' u j l n o=>?_;refine BC x k' u rfl (AK s!"" ?_ n o);rw[Ib b,d];exact LY (by rw[show ((k:Int)).toNat=k by lia];exact j) (by rw[show ((x:Int)).toNat=x by lia];exact l)
def Tb.halved {L most:Nat}{W E:α1}{es:Bk}(t:Tb L most W E es)(Q:E.length<=W.length){af:α2}{ways:α1}(g:GuessOk L W E es af ways){v:α2}(o:isW L v=true){i k k':Nat}(hi:i<v.length){a u:α2}{mk b:Int}(A:Ax ways (v.take i)=(k:Int))(p:W[k]?=some a)(h1:mkO es (a++v.drop i)=some b)(B:b≠mk)(C:Ax ways (v.take (i+1))=(k':Int))(f:W[k']?=some u)(h2:mkO es (u++v.drop (i+1))=some mk):Tb L most W (E++[v.drop (i+1)]) es/\Pend L W (E++[v.drop (i+1)]) es:=by
 obtain⟨y,d⟩:∃y,v[i]?=some y:=#[v[i],by simp];refine Ej (g.step t o d A p) λx h R D F q r G=>?_;subst D;have H:h=k':=by rw[C]at q;exact (Int.ofNat.inj q).symm
 subst H;rw[f]at r;cases r;have I:v.drop i=(x:Int)::v.drop (i+1):=by
  have:=(jb_.mp d);rw[pH hi,this.2]
 have s:Pend L W (E++[v.drop (i+1)]) es:=by
  refine Ar a (je_ p) x F λS J=>?_;obtain⟨j,l⟩:=jN_.mp J;by_cases w:j=h
  ·subst w;rw[f]at l;cases l;refine BH (v.drop (i+1)) (by simp) b mk ?_ h2 B;rw[I]at h1;rw[xx_];exact h1
  ·refine e_E (t.dist j h _ _ l f w) λe=>f_A λc=>B6 λm n K M N=>?_;obtain⟨T,O,z⟩:=G e c;rw[M]at z;cases z;exact BH e (jY_ _ c) n m O K (qs_ N)
 refine#[#[t.l1,t.l6,t.m12,t.w0,t.wW,t.wn,?_,λe c=>?_,t.nd,t.bW,λi j v u h1 h2 P=>(t.dist i j v u h1 h2 P).mono (λe c=>jY_ _ c) (Grow.refl _),?_],s]
 ·have:=(jb_.mp t.e0).1;rw[ji_ this];exact t.e0
 ·rcases jr_.mp c with c|c
  ·exact t.eW e c
  ·rw[jd_.mp c];exact AE.mpr λy d=>AE.mp o y (zO_ d)
 ·rw[jk_,jB_];by_cases U:E.length<W.length
  ·exact .inl s!""
  ·exact .inr #[by lia,s]
structure AS where
 L:Nat
 most:Nat
 W:α1
 E:α1
 G:α1
 gs:Option (α2×α1)
 wr:Option (α2)
 es:Bk
inductive Wish where
 | ask (c:α2)
 | shown (m:α2) (ws:α1)
 | done (m:α2) (ws:α1)
 | spent (c:α2)
inductive HR where
 | ask (c:α2)
 | fin (hi:Nat)
noncomputable def Gu (L:Nat)(W E:α1)(es:Bk):α1:=(Ed (AU L W) E).filter λc=>(mkO es c).isNone
noncomputable def BE (W:α1)(es:Bk):α2:=W.map λv=>(mkO es v).getD 0
noncomputable def DC (L:Nat)(W E:α1)(es:Bk):α1:=W.map λv=>(oN L).map λx:Nat=>(((W.map (gOf E es)).idxOf (gOf E es (v++[(x:Int)])):Nat):Int)
noncomputable def Bu (es:Bk)(m:α2)(ws:α1):Option (α2):=(es.find? λe=>decide (Bf m (Ax ws e.1)≠e.2)).map (·.1)
noncomputable def Hl (W ws:α1)(v:α2)(i:Nat):α2:=W.getD (Ax ws (v.take i)).toNat []
noncomputable def E2 (es:Bk)(W ws:α1)(v:α2)(mk:Int):Nat->Nat->Nat->HR
 |0,_,hi=>.fin hi
 |f+1,lo,hi=>if hi-lo > 1 then (match mkO es (Hl W ws v ((lo+hi) / 2)++v.drop ((lo+hi) / 2)) with
   |none=>.ask (Hl W ws v ((lo+hi) / 2)++v.drop ((lo+hi) / 2))
   |some t=>if t=mk then E2 es W ws v mk f lo ((lo+hi) / 2) else E2 es W ws v mk f ((lo+hi) / 2) hi) else .fin hi
noncomputable def C1 (L:Nat)(W E:α1)(es:Bk):Option (α2):=(AU L W).find? λv=>decide (gOf E es v∉W.map (gOf E es))
noncomputable def DM (s:AS):AS×Option Wish:=match C1 s.L s.W s.E s.es with
 |some r=>if s.W.length=s.most then (s,some (.spent r)) else ({s with W:=s.W++[r],G:=Gu s.L (s.W++[r]) s.E s.es},none)
 |none=>match Bu s.es (BE s.W s.es) (DC s.L s.W s.E s.es) with
  |none=>({s with gs:=some (BE s.W s.es,DC s.L s.W s.E s.es),wr:=none},some (.shown (BE s.W s.es) (DC s.L s.W s.E s.es)))
  |some v=>({s with gs:=some (BE s.W s.es,DC s.L s.W s.E s.es),wr:=some v},none)
noncomputable def ID (s:AS)(v m:α2)(ws:α1):AS×Option Wish:=match E2 s.es s.W ws v (Bf m (Ax ws v)) v.length 0 v.length with
 |.ask c=>(s,some (.ask c))
 |.fin hi=>({s with wr:=none,E:=s.E++[v.drop hi],G:=Gu s.L s.W (s.E++[v.drop hi]) s.es},none)
noncomputable def BG (s:AS):AS×Option Wish:=match s.G with
 |c::r=>({s with G:=r},some (.ask c))
 |[]=>match s.wr with
  |some v=>match s.gs with
   |some (m,ws)=>ID s v m ws
   |none=>(s,none)
  |none=>DM s
structure OkX (x:Option (α2))(B:Nat)(s:AS):Prop where
 tb:Tb s.L s.most s.W s.E s.es
 cov:∀c∈Ed (AU s.L s.W) s.E,(∃m,mkO s.es c=some m)\/c∈s.G\/x=some c
 gn:s.G.Nodup
 gW:∀c∈s.G,isW s.L c=true/\mkO s.es c=none/\c.length<=B+(s.most+1)*s.E.length
 le:∀e∈s.E,e.length+(s.most+1)<=B+(s.most+1)*s.E.length
 lb:∀p∈s.es,p.1.length<=B+(s.most+1)*s.E.length+(if s.wr.isSome then s.most else 0)
 wr:∀v,s.wr=some v->s.G=[]/\s.E.length<=s.W.length/\isW s.L v=true/\v.length<=B+(s.most+1)*s.E.length/\∃m ws t,s.gs=some (m,ws)/\GuessOk s.L s.W s.E s.es m ws/\mkO s.es v=some t/\t≠Bf m (Ax ws v)
def OkX.full {B:Nat} (o:OkX none B s)(h:s.G=[]):Full s.L s.W s.E s.es:=λc a=>by
 rcases o.cov c a with z|z|z
 ·exact z
 ·rw[h]at z;cases z
 ·cases z
def OkX.lens {B:Nat} (o:OkX x B s):(s.most+1)*s.E.length<=(s.most+1)*(s.most+1):=Nat.mul_le_mul_left _ o.tb.en
def OkX.cell {x:Option (α2)}{B:Nat}{s:AS}{W:α1}{E:α1}(d:∀v∈W,isW s.L v=true/\v.length<W.length)(l:W.length<=s.most)(f:∀e∈E,isW s.L e=true/\e.length+(s.most+1)<=B+(s.most+1)*E.length){c:α2}(hc:c∈Ed (AU s.L W) E):isW s.L c=true/\c.length<=B+(s.most+1)*E.length:=by
 refine e_E (A3.mp hc) λr=>f_A λg=>f_E λe=>f_A λi j=>?_;subst j;have h2:=f e i;have h1:isW s.L r=true/\r.length<=W.length:=by
  rcases AG.mp g with h|⟨a,k,y,m,rfl⟩
  ·have:=d r h;exact#[this.1,by lia]
  ·have:=d a k;exact#[AE.mpr λz b=>by
    rcases jr_.mp b with b|b
    ·exact AE.mp this.1 z b
    ·rw[jd_.mp b];lia,by rw[jk_,jB_];lia]
 refine#[AE.mpr λz b=>?_,by rw[jk_];lia];rcases jr_.mp b with b|b
 ·exact AE.mp h1.1 z b
 ·exact AE.mp h2.1 z b
def MS (R E:α1):(Ed R E).Nodup:=CG zz_
def Ro {B:Nat}{s:AS}{W E:α1}(b:∀v∈W,isW s.L v=true/\v.length<W.length)(d:W.length<=s.most)(f:∀e∈E,isW s.L e=true/\e.length+(s.most+1)<=B+(s.most+1)*E.length):(∀c∈Ed (AU s.L W) E,(∃m,mkO s.es c=some m)\/c∈Gu s.L W E s.es\/(none:Option (α2))=some c)/\(Gu s.L W E s.es).Nodup/\∀c∈Gu s.L W E s.es,isW s.L c=true/\mkO s.es c=none/\c.length<=B+(s.most+1)*E.length:=by
 refine q_AA (λc a=>?_) ((MS _ _).filter _) λc a=>?_
 ·cases hm:mkO s.es c with
  |some m=>exact .inl #[m,rfl]
  |none=>exact .inr (.inl (qO_.mpr #[a,by rw[hm];rfl]))
 ·obtain⟨h1,h2⟩:=qO_.mp a;have:=OkX.cell (x:=none) (s:=s) b d f h1;exact q_AA this.1 (by simpa using h2) this.2
def Rp {L most:Nat}{W E:α1}{es:Bk}(t:Tb L most W E es){m:α2}{ws:α1}(g:GuessOk L W E es m ws){v:α2}(k:isW L v=true){mk:Int}:∀(f lo hi:Nat),hi-lo<=f+1->lo<hi->hi<=v.length->(∃b,mkO es (Hl W ws v lo++v.drop lo)=some b/\b≠mk)->mkO es (Hl W ws v hi++v.drop hi)=some mk->match E2 es W ws v mk f lo hi with
   |.ask c=>mkO es c=none/\∃i,i<v.length/\c=Hl W ws v i++v.drop i
   |.fin h=>0<h/\h<=v.length/\(∃b,mkO es (Hl W ws v (h-1)++v.drop (h-1))=some b/\b≠mk)/\mkO es (Hl W ws v h++v.drop h)=some mk
 |0,lo,hi,h1,h2,a,d,e=>by
  have:lo=hi-1:=by lia
  subst this;exact AK s!"" a d e
 |f+1,lo,hi,h1,h2,a,d,e=>by
  unfold E2;by_cases l:hi-lo > 1
  ·rw[if_pos l];cases hm:mkO es (Hl W ws v ((lo+hi) / 2)++v.drop ((lo+hi) / 2)) with
   |none=>exact Dq hm ((lo+hi) / 2) s!"" rfl
   |some b=>
    dsimp only;by_cases j:b=mk
    ·rw[if_pos j];subst j;exact Rp t g k f lo ((lo+hi) / 2) s!"" s!"" s!"" d hm
    ·rw[if_neg j];exact Rp t g k f ((lo+hi) / 2) hi s!"" s!"" a (q_EA b hm j) e
  ·rw[if_neg l];have:lo=hi-1:=by lia
   subst this;exact AK s!"" a d e
def NZ (t:Tb L most W E es) (g:GuessOk L W E es m ws) (a:isW L v=true)(i:Nat):∃k:Nat,Ax ws (v.take i)=(k:Int)/\W[k]?=some (Hl W ws v i):=by
 refine e_E (g.room t a i) λk=>f_E λu=>f_A λh1 h2=>?_;refine q_EA k h1 ?_;unfold Hl;rw[h1,show ((k:Int)).toNat=k by lia,jx_,h2];rfl
open Classical in
noncomputable def mu (s:AS):Nat:=4*(s.most-s.W.length)+(if s.wr.isSome then 2 else if Pend s.L s.W s.E s.es then 1 else 3)
def WOk (B:Nat)(s:AS):Wish->Prop
 |.ask c=>OkX (some c) B s/\mkO s.es c=none/\isW s.L c=true/\c.length<=B+(s.most+1)*s.E.length+(if s.wr.isSome then s.most else 0)/\c∉s.G
 |.shown m ws=>OkX none B s/\s.G=[]/\s.wr=none/\s.gs=some (m,ws)/\GuessOk s.L s.W s.E s.es m ws/\∀p∈s.es,Bf m (Ax ws p.1)=p.2
 |.done m ws=>OkX none B s/\s.G=[]/\s.wr=none/\s.gs=some (m,ws)/\GuessOk s.L s.W s.E s.es m ws/\∀p∈s.es,Bf m (Ax ws p.1)=p.2
 |.spent r=>OkX none B s/\s.G=[]/\s.wr=none/\s.W.length=s.most/\r∈AU s.L s.W/\r∉s.W/\isW s.L r=true/\r.length<=s.W.length/\∀u∈s.W,J2 s.E s.es r u
structure Kept (s s':AS):Prop where
 l:s'.L=s.L
 m:s'.most=s.most
 e:s'.es=s.es
def Xf {B:Nat} (o:OkX none B s) (n:s.wr=some v)(K:s.gs=some (m,ws)):(∀s',ID s v m ws=(s',none)->OkX none B s'/\Kept s s'/\mu s'<mu s)/\∀s' x,ID s v m ws=(s',some x)->WOk B s' x/\Kept s s':=by
 refine e_A (o.wr v n) λM=>f_A λN=>Ra λa af ag=>B6 λah t h g=>f_A λA C=>?_;rw[K]at h;cases h;have tb:=o.tb;have D:=tb.w0;have O:0<v.length:=by
  refine qZ λz=>C ?_;have:v=[]:=ql_.mp z;subst this;obtain⟨y,u,q⟩:=g.m 0 [] D;rw[A]at q;cases q;show t=m.getD 0 0;rw[jx_,u];rfl
 have P:Hl s.W ws v 0=[]:=by
  obtain⟨k,j,r⟩:=NZ tb g a 0;have:(k:Int)=0:=by rw[<-j];rfl
  have:k=0:=by lia
  subst this;rw[D]at r;exact (jD_ r).symm
 have Q:mkO s.es (Hl s.W ws v v.length++v.drop v.length)=some (Bf m (Ax ws v)):=by
  obtain⟨k,j,r⟩:=NZ tb g a v.length;rw[jz_]at j;obtain⟨y,u,q⟩:=g.m k _ r;rw[pX,xO_,q,j];show some y=some (m.getD ((k:Int)).toNat 0);rw[show ((k:Int)).toNat=k by lia,jx_,u];rfl
 have l:=Rp tb g a (mk:=Bf m (Ax ws v)) v.length 0 v.length s!"" O (jf_ _) (q_EA t (by rw[P];exact A) C) Q;unfold ID;cases F:E2 s.es s.W ws v (Bf m (Ax ws v)) v.length 0 v.length with
 |ask c=>
  rw[F]at l;refine e_A l λj=>f_E λi=>f_A λhi R=>?_;try clear l;subst R
  refine#[λs' z=>(by cases z),λs' x z=>?_];cases z;obtain⟨k,G,w⟩:=NZ tb g a i;have S:=tb.wW _ (je_ w);have ai:=tb.wn;refine#[(q_AA #[tb,λc T=>?_,o.gn,o.gW,o.le,o.lb,o.wr] j (q_AA (AE.mpr λy f=>?_) ?_ (by rw[M];simp))),#[rfl,rfl,rfl]]
  ·rcases o.cov c T with z|z|z
   ·exact .inl z
   ·exact .inr (.inl z)
   ·cases z
  ·rcases jr_.mp f with f|f
   ·exact AE.mp S.1 y f
   ·exact AE.mp a y (zO_ f)
  ·rw[n,jk_,xl_];simp only[xM_,x1_];lia
 |fin hi=>
  rw[F]at l;refine e_A l λaj=>f_A λh1=>f_A λU V=>?_;try clear l;obtain⟨b,X,Y⟩:=U
  refine#[λs' z=>?_,λs' x z=>(by cases z)];cases z;obtain⟨k,G,w⟩:=NZ tb g a (hi-1);obtain⟨k',Z,aa⟩:=NZ tb g a hi;have h:hi-1+1=hi:=by lia
  obtain⟨H,I⟩:=tb.halved N g a (i:=hi-1) s!"" G w X Y (by rw[h];exact Z) aa (by rw[h];exact V);rw[h]at H I;have J:∀e∈s.E++[v.drop hi],isW s.L e=true/\e.length+(s.most+1)<=B+(s.most+1)*(s.E++[v.drop hi]).length:=λe d=>by
   rw[jk_,jB_,tS];rcases jr_.mp d with d|d
   ·have:=o.le e d;exact#[tb.eW e d,by lia]
   ·rw[jd_.mp d,xl_];exact#[AE.mpr λy f=>AE.mp a y (zO_ f),by lia]
  obtain⟨ab,ac,ad⟩:=Ro (B:=B) (s:=s) (W:=s.W) (E:=s.E++[v.drop hi]) tb.wW tb.wn J;refine q_AA #[H,ab,ac,ad,λe d=>(J e d).2,λp ae=>?_,λak z=>(by cases z)] #[rfl,rfl,rfl] ?_
  ·have:=o.lb p ae;rw[n]at this;simp only[xM_,x1_]at this;show p.1.length<=B+(s.most+1)*(s.E++[v.drop hi]).length+0;rw[jk_,jB_,tS];lia
  ·unfold mu;rw[n];simp only[xM_,x1_,z2_,j2_,qM_];rw[if_pos I];lia
def VC {B:Nat} (o:OkX none B s)(c:s.G=[])(hw:s.wr=none):(∀s',DM s=(s',none)->OkX none B s'/\Kept s s'/\mu s'<mu s)/\∀s' x,DM s=(s',some x)->WOk B s' x/\Kept s s':=by
 have tb:=o.tb;have d:=o.full c;have i:∀p∈s.es,p.1.length<=B+(s.most+1)*s.E.length:=λp b=>by
  have:=o.lb p b;rw[hw]at this;exact this
 unfold DM;cases j:C1 s.L s.W s.E s.es with
 |some r=>
  obtain⟨⟨l,q,t,w⟩,y⟩:=tb.more d j;have A:∀u∈s.W,J2 s.E s.es r u:=λu m=>by
   have h2:=xg_ j;have h2:gOf s.E s.es r∉s.W.map (gOf s.E s.es):=j0_ h2;exact (Hk d l (AG.mpr (.inl m))).mp λz=>h2 (by rw[z];exact qX_ m)
  dsimp only;by_cases hm:s.W.length=s.most
  ·rw[if_pos hm];refine#[λs' z=>(by cases z),λs' x z=>?_];cases z;exact#[(q_AA o c (AF hw hm l q t w A)),#[rfl,rfl,rfl]]
  ·rw[if_neg hm];refine#[λs' z=>?_,λs' x z=>(by cases z)];cases z;have C:s.W.length<s.most:=by have:=tb.wn;lia
   have k:=y C;obtain⟨D,F,H⟩:=Ro (B:=B) (s:=s) (W:=s.W++[r]) (E:=s.E) k.wW k.wn (λe n=>#[tb.eW e n,o.le e n]);refine q_AA #[k,D,F,H,o.le,o.lb,λv z=>?_] #[rfl,rfl,rfl] ?_
   ·rw[show s.wr=some v from z]at hw;cases hw
   ·unfold mu;show 4*(s.most-(s.W++[r]).length)+(if s.wr.isSome then 2 else _)<_;rw[jk_,jB_,hw];simp only[z2_,j2_,qM_];split<;>split<;>lia
 |none=>
  obtain⟨np,cl⟩:=tb.none d j;have g:GuessOk s.L s.W s.E s.es (BE s.W s.es) (DC s.L s.W s.E s.es):=tb.guess d cl;have I:s.E.length<=s.W.length:=by
   rcases tb.jj with h|h
   ·exact h
   ·exact absurd h.2 np
  dsimp only;cases a:Bu s.es (BE s.W s.es) (DC s.L s.W s.E s.es) with
  |none=>
   refine#[λs' z=>(by cases z),λs' x z=>?_];cases z;refine#[(q_AA #[tb,o.cov,o.gn,o.gW,o.le,λp b=>by have:=i p b;exact this,λv z=>(by cases z)] c (AK rfl rfl g λp b=>?_)),#[rfl,rfl,rfl]];unfold Bu at a;rw[zs_,qf_]at a;have:=a p b;simpa using this
  |some v=>
   refine#[λs' z=>?_,λs' x z=>(by cases z)];cases z;unfold Bu at a;cases f:s.es.find? (λe=>decide (Bf (BE s.W s.es) (Ax (DC s.L s.W s.E s.es) e.1)≠e.2)) with
   |none=>rw[f]at a;cases a
   |some e=>
    rw[f]at a;cases a;have h1:=qC_ f;have h2:=xg_ f;have h2:Bf (BE s.W s.es) (Ax (DC s.L s.W s.E s.es) e.1)≠e.2:=j0_ h2;refine q_AA #[tb,o.cov,o.gn,o.gW,o.le,λp b=>by have:=i p b;show p.1.length<=B+(s.most+1)*s.E.length+s.most;lia,λv z=>?_] #[rfl,rfl,rfl] ?_
    ·cases z;exact q_AA c I (q_AA (tb.bW e h1).1 (i e h1) (Ai _ _ e.2 rfl g (D5 tb.nd h1) (qs_ h2)))
    ·unfold mu;rw[hw];simp only[xM_,x1_,z2_,j2_,qM_];rw[if_neg np];lia
def JE {B:Nat} (o:OkX none B s):(∀s',BG s=(s',none)->OkX none B s'/\Kept s s'/\mu s'<mu s)/\∀s' x,BG s=(s',some x)->WOk B s' x/\Kept s s':=by
 unfold BG;cases a:s.G with
 |cons c r=>
  refine#[λs' z=>(by cases z),λs' x z=>?_];cases z;have g:s.wr=none:=by
   cases h:s.wr with
   |none=>rfl
   |some v=>have:=(o.wr v h).1;rw[a]at this;cases this
  have d:=o.gn;rw[a,qb_]at d;have e:=o.gW c (by rw[a];exact jt_ ..);refine#[(q_AA #[o.tb,λb f=>?_,d.2,λb f=>o.gW b (by rw[a];exact jo_ _ f),o.le,o.lb,λv z=>?_] e.2.1 (q_AA e.1 (by have:=e.2.2;show c.length<=B+(s.most+1)*s.E.length+(if s.wr.isSome=true then s.most else 0);lia) d.1)),#[rfl,rfl,rfl]]
  ·rcases o.cov b f with z|z|z
   ·exact .inl z
   ·rw[a]at z;rcases jw_.mp z with rfl|z
    ·exact .inr (.inr rfl)
    ·exact .inr (.inl z)
   ·cases z
  ·rw[show s.wr=some v from z]at g;cases g
 |nil=>
  cases hw:s.wr with
  |none=>exact VC o a hw
  |some v=>
   refine e_A (o.wr v hw) λ_=>f_A λ_=>Ra λ_ _ m=>f_E λws=>f_E λt=>f_A λi _=>?_;rw[i];exact Xf o hw i
noncomputable def afl (wv:V)(L most:Int)(b pw pe pg:Addr)(gv rv:V):List (Str×V):=[("wish",wv),("letters",.int L),("most",.int most),("book",.ref b),("ways",.ref pw),("ends",.ref pe),("gaps",.ref pg),("guess",gv),("wrong",rv)]
section
variable (wv:V) (L most:Int) (b pw pe pg:Addr) (gv rv y:V)
def JF:(afl wv L most b pw pe pg gv rv).lookup ("wish" : Str)=some wv:=by kernel_rfl
def Ih:(afl wv L most b pw pe pg gv rv).lookup ("letters" : Str)=some (.int L):=by kernel_rfl
def ZQ:(afl wv L most b pw pe pg gv rv).lookup ("most" : Str)=some (.int most):=by kernel_rfl
def Gb:(afl wv L most b pw pe pg gv rv).lookup ("book" : Str)=some (.ref b):=by kernel_rfl
def JG:(afl wv L most b pw pe pg gv rv).lookup ("ways" : Str)=some (.ref pw):=by kernel_rfl
def Lc:(afl wv L most b pw pe pg gv rv).lookup ("ends" : Str)=some (.ref pe):=by kernel_rfl
def VD:(afl wv L most b pw pe pg gv rv).lookup ("gaps" : Str)=some (.ref pg):=by kernel_rfl
def L6:(afl wv L most b pw pe pg gv rv).lookup ("guess" : Str)=some gv:=by kernel_rfl
def Ii:(afl wv L most b pw pe pg gv rv).lookup ("wrong" : Str)=some rv:=by kernel_rfl
def Si:putF "wish" y (afl wv L most b pw pe pg gv rv)=afl y L most b pw pe pg gv rv:=by kernel_rfl
def Xg (q:Addr):putF "gaps" (.ref q) (afl wv L most b pw pe pg gv rv)=afl wv L most b pw pe q gv rv:=by kernel_rfl
def VE:putF "guess" y (afl wv L most b pw pe pg gv rv)=afl wv L most b pw pe pg y rv:=by kernel_rfl
def MT:putF "wrong" y (afl wv L most b pw pe pg gv rv)=afl wv L most b pw pe pg gv y:=by kernel_rfl
def Xh:putF "wrong" .non (putF "guess" .non (putF "gaps" (.ref pg) (putF "ends" (.ref pe) (putF "ways" (.ref pw) (putF "book" (.ref b) (putF "most" (.int most) (putF "letters" (.int L) (putF "wish" .non []))))))))=afl .non L most b pw pe pg .non .non:=by kernel_rfl
end
structure AD where
 dx:Addr
 b:Addr
 d:Addr
 pw:Addr
 pe:Addr
 pg:Addr
def HouT (K:α3)(H:Hp)(h:Addr)(L:Int)(m:α2)(ws:α1):Prop:=∃a b zs,H h=some (.tup [.int L,.ref a,.ref b])/\H a=some (.tup (m.map V.int))/\H b=some (.tup zs)/\Am K H zs ws
def HouT.mono {K:α3} (x:HouT K H h L m ws)(k:TK H H'):HouT K H' h L m ws:=by
 refine CV x λe f zs a b c d=>?_;try clear x
 exact Ai e f zs (k _ _ a) (k _ _ b) (k _ _ c) (d.mono k)
def Am.rows39 {K:α3} (h:Am K H zs ws)(hw:SqT K H t zs):Rows K H t ws:=by
 refine A7 (zs.map (λv=>match v with | .ref t=>t|_=>0)) ?_ (by rw[ja_];exact h.1) λi t r hi c=>?_
 ·have e:(zs.map (λv=>match v with | .ref t=>t|_=>0)).map V.ref=zs:=by
   rw[jJ_];refine qH_ λi=>?_;rw[jh_];by_cases hi:i<ws.length
   ·obtain⟨t,a,_⟩:=h.2 i ws[i] (by simp[hi]);rw[a];rfl
   ·rw[j5_ (by rw[h.1];lia)];rfl
  rw[e];exact hw
 ·obtain⟨d,a,b⟩:=h.2 i r c;rw[jh_,a]at hi;cases hi;exact SqT.of b
def HouT.house {K:α3} (x:HouT K H h L m ws):Cp K H h L m ws:=by
 refine CV x λe f zs a b c d=>?_;try clear x
 exact AB e f (SqT.of a) (SqT.of b) (Am.rows39 d (SqT.of c))
def GV (K:α3)(H:Hp)(L:Int)(gv:V):Option (α2×α1)->Prop
 |none=>gv=.non
 |some (m,ws)=>∃h,gv=.ref h/\HouT K H h L m ws
def RV (H:Hp)(rv:V):Option (α2)->Prop
 |none=>rv=.non
 |some v=>∃t,rv=.ref t/\H t=some (.tup (v.map V.int))
def GV.mono {K:α3} (x:GV K H L gv o)(k:TK H H'):GV K H' L gv o:=by
 match o,x with
 |none,x=>exact x
 |some (m,ws),⟨h,a,b⟩=>exact#[h,a,b.mono k]
def RV.mono (x:RV H rv o)(k:TK H H'):RV H' rv o:=by
 match o,x with
 |none,x=>exact x
 |some v,⟨t,a,b⟩=>exact#[t,a,k _ _ b]
noncomputable def Wish.tag:Wish->Str
 |.ask _ => "ask"
 |.shown _ _ => "show"
 |.done _ _ => "done"
 |.spent _ => "spent"
def Cq_ (K:α3)(H:Hp)(L:Int)(u:Addr):Wish->Prop
 |.ask c=>H u=some (.tup (c.map V.int))
 |.shown m ws=>HouT K H u L m ws
 |.done m ws=>HouT K H u L m ws
 |.spent c=>H u=some (.tup (c.map V.int))
def Ce (K:α3)(H:Hp)(L:Int)(wv:V)(x:Wish):Prop:=∃t u,wv=.ref t/\H t=some (.tup [.str x.tag,.ref u])/\Cq_ K H L u x
def Ce.mono {K:α3} {wv:V} (h:Ce K H L wv x)(k:TK H H'):Ce K H' L wv x:=by
 refine AJ h λt u a b c=>?_;try clear h
 refine AB t u a (k _ _ b) ?_;cases x with
 |ask d=>exact k _ _ c
 |spent d=>exact k _ _ c
 |shown m ws=>exact HouT.mono c k
 |done m ws=>exact HouT.mono c k
structure AskAt (K:α3)(CA CB:Addr)(H:Hp)(a:Addr)(ad:AD)(s:AS)(wv gv rv:V)(zs ys us:List V):Prop where
 ob:H a=some (.ins CA ad.dx (afl wv s.L s.most ad.b ad.pw ad.pe ad.pg gv rv))
 bk:BookAt CB H ad.b ad.d s.L s.es
 w:H ad.pw=some (.lst zs)
 wW:Am K H zs s.W
 e:H ad.pe=some (.lst ys)
 eW:Am K H ys s.E
 g:H ad.pg=some (.lst us)
 gW:Am K H us s.G
 we:ad.pw≠ad.pe
 wg:ad.pw≠ad.pg
 eg:ad.pe≠ad.pg
 gv:GV K H s.L gv s.gs
 rv:RV H rv s.wr
def Asks (K:α3)(CA CB:Addr)(H:Hp)(a:Addr)(ad:AD)(s:AS)(wv:V):Prop:=∃gv rv zs ys us,AskAt K CA CB H a ad s wv gv rv zs ys us
def BookAt.tk (h:BookAt C H p d L es)(e:∀o,H p=some o->H' p=some o)(f:∀o,H d=some o->H' d=some o):BookAt C H' p d L es:=by
 obtain⟨⟨dx,a⟩,b,c⟩:=h;exact#[#[dx,e _ a],f _ b,c]
def Frm (H H':Hp)(a:Addr)(ad:AD):Prop:=(∀x o,H x=some o->x≠a->x≠ad.d->x≠ad.pw->x≠ad.pe->x≠ad.pg->H' x=some o)/\∀x,H' x=none->H x=none
def AdOk (H:Hp)(ad a:AD):Prop:=a.dx=ad.dx/\a.b=ad.b/\a.d=ad.d/\a.pw=ad.pw/\a.pe=ad.pe/\(a.pg=ad.pg\/H a.pg=none)
def AdOk.refl (H:Hp)(ad:AD):AdOk H ad ad:=q_AA rfl rfl (AK rfl rfl rfl (.inl rfl))
def Frm.of (s:Same H H')(a:Addr)(ad:AD):Frm H H' a ad:=#[λx o h _ _ _ _ _=>s _ _ h,λx h=>s.none h]
def Frm.trans {H H1 H2:Hp} {ad c:AD}(f:Frm H H1 a ad)(k:AdOk H ad c)(g:Frm H1 H2 a c):Frm H H2 a ad:=by
 refine B5 k λq r m n p b=>?_;try clear k
 refine#[λx o h d e i j l=>g.1 x o (f.1 x o h d e i j l) d (by rw[m];exact e) (by rw[n];exact i) (by rw[p];exact j) (λz=>?_),λx h=>f.2 x (g.2 x h)];rcases b with b|b
 ·exact l (z.trans b)
 ·rw[z,b]at h;cases h
def AdOk.trans {H H1:Hp} {ad c d:AD}(f:Frm H H1 a ad)(k:AdOk H ad c)(g:AdOk H1 c d):AdOk H ad d:=by
 refine B5 k λe h i j l m=>?_;try clear k
 refine B5 g λn o p q r b=>?_;try clear g
 refine q_AA (n.trans e) (o.trans h) (AK (p.trans i) (q.trans j) (r.trans l) ?_);rcases b with b|b
 ·rw[b];exact m
 ·exact .inr (f.2 _ b)
section
variable {K:α3} {CA CB:Addr} {H H':Hp} {a:Addr} {ad:AD} {s:AS} {wv gv rv:V} {zs ys us:List V}
def AskAt.same (x:AskAt K CA CB H a ad s wv gv rv zs ys us)(k:Same H H'):AskAt K CA CB H' a ad s wv gv rv zs ys us:=
 #[k _ _ x.ob,x.bk.mono k,k _ _ x.w,x.wW.mono (TK.of k),k _ _ x.e,x.eW.mono (TK.of k),k _ _ x.g,x.gW.mono (TK.of k),x.we,x.wg,x.eg,x.gv.mono (TK.of k),x.rv.mono (TK.of k)]
def AskAt.tkob (x:AskAt K CA CB H a ad s wv gv rv zs ys us)(o:HO):TK H (upd H a o):=λt ts h=>by rw[Ak (λz=>by rw[z,x.ob]at h;cases h)];exact h
def AskAt.na (x:AskAt K CA CB H a ad s wv gv rv zs ys us):ad.pw≠a/\ad.pe≠a/\ad.pg≠a/\ad.d≠a/\ad.b≠ad.d/\ad.pw≠ad.d/\ad.pe≠ad.d/\ad.pg≠ad.d/\ad.b≠ad.pw/\ad.b≠ad.pe/\ad.b≠ad.pg:=by
 obtain⟨dx,c⟩:=x.bk.ob;refine q_AA (λz=>?_) (λz=>?_) (q_AA (λz=>?_) (λz=>?_) (AF (λz=>?_) (λz=>?_) (λz=>?_) (λz=>?_) (λz=>?_) (λz=>?_) λz=>?_))
 ·have:=x.w;rw[z,x.ob]at this;cases this
 ·have:=x.e;rw[z,x.ob]at this;cases this
 ·have:=x.g;rw[z,x.ob]at this;cases this
 ·have:=x.bk.dc;rw[z,x.ob]at this;cases this
 ·rw[z,x.bk.dc]at c;cases c
 ·have:=x.w;rw[z,x.bk.dc]at this;cases this
 ·have:=x.e;rw[z,x.bk.dc]at this;cases this
 ·have:=x.g;rw[z,x.bk.dc]at this;cases this
 ·rw[z,x.w]at c;cases c
 ·rw[z,x.e]at c;cases c
 ·rw[z,x.g]at c;cases c
def AskAt.nb (x:AskAt K CA CB H a ad s wv gv rv zs ys us):ad.b≠a:=λz=>by
 obtain⟨dx,hb⟩:=x.bk.ob;rw[z,x.ob]at hb;injection hb with hb;injection hb with _ _ hb;have h1:=qx_ (λl=>oZ ("wish" : Str) l) hb;rw[JF,CJ _ _ (by decide +kernel) (by decide +kernel)]at h1;cases h1
def AskAt.put (x:AskAt K CA CB H a ad s wv gv rv zs ys us) (d:s'.L=s.L)(hm:s'.most=s.most)(f:s'.W=s.W)(i:s'.E=s.E)(j:s'.G=s.G)(k:s'.es=s.es)(g':GV K H s'.L gv' s'.gs)(r':RV H rv' s'.wr):AskAt K CA CB (upd H a (.ins CA ad.dx (afl wv' s.L s.most ad.b ad.pw ad.pe ad.pg gv' rv'))) a ad s' wv' gv' rv' zs ys us:=by
 refine B5 x.na λl m n p q=>A5 λr t u v y z=>?_;have c:=x.tkob (.ins CA ad.dx (afl wv' s.L s.most ad.b ad.pw ad.pe ad.pg gv' rv'));exact#[by rw[Ab,d,hm],by rw[d,k];exact BookAt.tk x.bk (λo h=>by rw[Ak x.nb];exact h) (λo h=>by rw[Ak p];exact h),by rw[Ak l];exact x.w,by rw[f];exact x.wW.mono c,by rw[Ak m];exact x.e,by rw[i];exact x.eW.mono c,by rw[Ak n];exact x.g,by rw[j];exact x.gW.mono c,x.we,x.wg,x.eg,g'.mono c,r'.mono c]
def AskAt.putF (x:AskAt K CA CB H a ad s wv gv rv zs ys us)(o:HO):Frm H (upd H a o) a ad:=#[λy o' h n _ _ _ _=>by rw[Ak n];exact h,λy h=>by
 by_cases z:y=a
 ·rw[z,Ab]at h;cases h
 ·rwa [Ak z]at h]
end
inductive Goes:AS->AS->Wish->Prop where
 | stop {s s':AS} {x:Wish}:BG s=(s',some x)->Goes s s' x
 | more {s s1 s':AS} {x:Wish}:BG s=(s1,none)->Goes s1 s' x->Goes s s' x
def Goes.ok {B:Nat} (g:Goes s s' x)(o:OkX none B s):WOk B s' x/\Kept s s':=by
 induction g with
 |stop h=>exact (JE o).2 _ _ h
 |more h _ c=>
  obtain⟨d,a,_⟩:=(JE o).1 _ h;obtain⟨f,b⟩:=c d;exact#[f,#[b.l.trans a.l,b.m.trans a.m,b.e.trans a.e]]
structure Sz (s:AS):Prop where
 l6:s.L<=6
 w:s.W.length<=13/\∀v∈s.W,v.length<=50
 e:s.E.length<=14/\∀v∈s.E,v.length<=500
 b:∀p∈s.es,p.1.length<=600
def VF (ws:α1)(v:α2) (hi:i<=v.length):((Lm ws v).map V.int)[i]?=some (V.int (Ax ws (v.take i))):=by
 unfold Lm;rw[jh_,jh_,qW_ s!""];rfl
def Frm.seq {H H1 H2:Hp} {ad:AD}(f:Frm H H1 a ad)(g:Frm H1 H2 a ad):Frm H H2 a ad:=f.trans (AdOk.refl H ad) g
def Bd (B:Nat)(s:AS):Prop:=B+(s.most+1)*(s.most+1)+s.most<=500
def OkX.sz {B:Nat} (o:OkX y B s)(h:Bd B s):Sz s:=by
 have tb:=o.tb;have h1:=tb.wn;have h2:=tb.m12;have c:=tb.en;have d:=o.lens;unfold Bd at h;refine#[tb.l6,#[by lia,λv a=>by have:=(tb.wW v a).2;lia],#[by lia,λv a=>by have:=o.le v a;lia],λp b=>?_];have:=o.lb p b;split at this<;>lia
def Ld (wv:V)(L most:Int)(b pw pe pg:Addr)(gv rv:V):(afl wv L most b pw pe pg gv rv).length<1000:=by unfold afl;simp
section
variable {K:α3} {CA CB:Addr} {H H':Hp} {a:Addr} {ad:AD} {s:AS} {wv gv rv:V} {zs ys us:List V}
def AskAt.putW (x:AskAt K CA CB H a ad s wv gv rv zs ys us) (h:Am K H eU W'):AskAt K CA CB (upd H ad.pw (.lst eU)) a ad {s with W:=W' } wv gv rv eU ys us:=by
 refine B5 x.na λc i j k l=>A5 λd m n f p q=>?_;have b:=TK.lst x.w (o:=.lst eU);exact#[by rw[Ak (qs_ c)];exact x.ob,BookAt.tk x.bk (λo h=>by rw[Ak f];exact h) (λo h=>by rw[Ak (qs_ d)];exact h),Ab,h.mono b,by rw[Ak (qs_ x.we)];exact x.e,x.eW.mono b,by rw[Ak (qs_ x.wg)];exact x.g,x.gW.mono b,x.we,x.wg,x.eg,x.gv.mono b,x.rv.mono b]
def AskAt.putE (x:AskAt K CA CB H a ad s wv gv rv zs ys us) (h:Am K H nG E'):AskAt K CA CB (upd H ad.pe (.lst nG)) a ad {s with E:=E' } wv gv rv zs nG us:=by
 refine B5 x.na λi c j k l=>A5 λm d n p f q=>?_;have b:=TK.lst x.e (o:=.lst nG);exact#[by rw[Ak (qs_ c)];exact x.ob,BookAt.tk x.bk (λo h=>by rw[Ak f];exact h) (λo h=>by rw[Ak (qs_ d)];exact h),by rw[Ak x.we];exact x.w,x.wW.mono b,Ab,h.mono b,by rw[Ak (qs_ x.eg)];exact x.g,x.gW.mono b,x.we,x.wg,x.eg,x.gv.mono b,x.rv.mono b]
def AskAt.putG (x:AskAt K CA CB H a ad s wv gv rv zs ys us) (h:Am K H dF G'):AskAt K CA CB (upd H ad.pg (.lst dF)) a ad {s with G:=G' } wv gv rv zs ys dF:=by
 refine B5 x.na λi j c k l=>A5 λm n d p q f=>?_;have b:=TK.lst x.g (o:=.lst dF);exact#[by rw[Ak (qs_ c)];exact x.ob,BookAt.tk x.bk (λo h=>by rw[Ak f];exact h) (λo h=>by rw[Ak (qs_ d)];exact h),by rw[Ak x.wg];exact x.w,x.wW.mono b,by rw[Ak x.eg];exact x.e,x.eW.mono b,Ab,h.mono b,x.we,x.wg,x.eg,x.gv.mono b,x.rv.mono b]
def Frm.put (h:q=ad.pw\/q=ad.pe\/q=ad.pg\/q=ad.d)(c:∃o,H q=some o):Frm H (upd H q o) a ad:=by
 refine#[λy o' b e f g i j=>?_,λy b=>?_]
 ·rw[Ak (λz=>by rcases h with h|h|h|h<;>subst h<;>contradiction)];exact b
 ·by_cases z:y=q
  ·rw[z,Ab]at b;cases b
  ·rwa [Ak z]at b
end
def BW_ {i n:Nat}(h:i<n):seqIndex? (i:Int) n=some i:=by
 unfold seqIndex?;simp[show ¬ (i:Int)<0 by lia,h]
def Am.tail39 {K:α3} (h:Am K H us (c::r)):Am K H (us.eraseIdx 0) r:=by
 cases us with
 |nil=>have:=h.1;cases this
 |cons u us=>
  refine#[?_,λi w hi=>?_]
  ·have:=h.1;simpa using this
  ·exact h.2 (i+1) w (by simpa using hi)
def Tw (h:mkO es b=none)(d:b≠c):mkO (es++[(c,m)]) b=none:=by
 refine Ig λz=>?_;rw[jn_]at z;rcases jr_.mp z with z|z
 ·obtain⟨n,a⟩:=O4.mp z;rw[h]at a;cases a
 ·exact d (jd_.mp z)
def OkX.told {B:Nat} (o:OkX y B s) (j:∀b,y=some b->b=c)(g:c∉s.es.map (·.1))(hc:isW s.L c=true)(h:0<=m)(i:m<=1000000000)(k:c.length<=B+(s.most+1)*s.E.length+(if s.wr.isSome then s.most else 0))(l:c∉s.G):OkX none B {s with es:=s.es++[(c,m)]}:=by
 have e:=Grow.snoc s.es c m;refine#[o.tb.put g hc h i,λb d=>?_,o.gn,λb d=>?_,o.le,λp a=>?_,λv n=>?_]
 ·rcases o.cov b d with ⟨z,q⟩|z|z
  ·exact .inl #[z,e _ _ q]
  ·exact .inr (.inl z)
  ·have:=j b z;subst this;exact .inl #[m,D5 (o.tb.put g hc h i).nd (by simp)]
 ·obtain⟨h1,h2,f⟩:=o.gW b d;exact q_AA h1 (Tw h2 (λz=>l (z ▸ d))) f
 ·rcases jr_.mp a with a|a
  ·exact o.lb p a
  ·rw[jd_.mp a];exact k
 ·refine e_A (o.wr v n) λh1=>f_A λh2=>Ra λf r u=>B6 λws t w x=>f_A λA C=>?_;exact q_AA h1 h2 (q_AA f r (Ai u ws t w (x.mono e) (e _ _ A) C))
section
variable {K:α3} {CA CB:Addr} {H H':Hp} {a:Addr} {ad:AD} {s:AS} {wv gv rv:V} {zs ys us:List V}
def AskAt.putB (x:AskAt K CA CB H a ad s wv gv rv zs ys us) (i:BookAt CB H' ad.b ad.d s.L es')(c:∀b o,H b=some o->b≠ad.d->H' b=some o):AskAt K CA CB H' a ad {s with es:=es' } wv gv rv zs ys us/\Frm H H' a ad/\TK H H':=by
 refine B5 x.na λq r u j v=>A5 λk l m A B C=>?_;have f:TK H H':=λt ts h=>c t _ h (λz=>by rw[z,x.bk.dc]at h;cases h);refine q_AA #[c _ _ x.ob (qs_ j),i,c _ _ x.w k,x.wW.mono f,c _ _ x.e l,x.eW.mono f,c _ _ x.g m,x.gW.mono f,x.we,x.wg,x.eg,x.gv.mono f,x.rv.mono f] #[λy o h _ n _ _ _=>c _ _ h n,λy h=>?_] f;cases p:H y with
 |none=>rfl
 |some o=>
  by_cases z:y=ad.d
  ·rw[z,i.dc]at h;cases h
  ·rw[c _ _ p z]at h;cases h
end
noncomputable def s039 (L most:Nat):AS:={L:=L,most:=most,W:=[[]],E:=[[]],G:=Gu L [[]] [[]] [],gs:=none,wr:=none,es:=[]}
def VG (B:Nat)(g:1<=L)(h:L<=6)(o:1<=most)(k:most<=12):OkX none B (s039 L most):=by
 have hw:∀v ∈ [([]:α2)],isW (L:Int) v=true/\v.length < [([]:α2)].length:=λv a=>by
  rw[jd_.mp a];exact#[AE.mpr λx b=>(by cases b),by simp]
 have c:∀e ∈ [([]:α2)],isW (L:Int) e=true/\e.length+(most+1)<=B+(most+1) * [([]:α2)].length:=λv a=>by
  rw[jd_.mp a];exact#[AE.mpr λx b=>(by cases b),by simp]
 obtain⟨l,m,n⟩:=Ro (B:=B) (s:=s039 L most) (W:=[[]]) (E:=[[]]) hw (by show 1<=most;lia) c;refine#[#[g,h,k,rfl,hw,by show 1<=most;lia,rfl,λe d=>(c e d).1,zz_,λp f=>(by cases f),λi j v u h1 h2 q=>?_,.inl (jf_ _)],l,m,n,λe d=>(c e d).2,λp f=>(by cases f),λv a=>(by cases a)];have h1:=(jb_.mp h1).1;have h2:=(jb_.mp h2).1;have h1:i<1:=h1;have h2:j<1:=h2;lia
def Sj (f:Str)(v:V):∀fs:List (Str×V),(putF f v fs).length<=fs.length+1
 |[]=>by simp[putF]
 | (g,x)::r=>by
  unfold putF;split
  ·simp
  ·have:=Sj f v r;rw[jG_,jG_];lia
def VH (b:W.length<=100)(c:L<=6)(d:E.length<=100):(Ed (AU L W) E).length<=100000:=by
 unfold Ed;have h1:=Bn ((AU L W).flatMap λr=>E.map (r ++ ·)) [];have h2:((AU L W).flatMap λr=>E.map (r ++ ·)).length=(AU L W).length*E.length:=by
  rw[xD_];generalize AU L W=l
  induction l with
  |nil=>simp
  |cons a l e=>rw[jT_,qT,e,ja_,jG_,qk];lia
 have f:=MK L W;have g:W.length*L<=100*6:=qn_ b c;have h:(AU L W).length*E.length<=700*100:=qn_ s!"" d;rw[h2,xu_]at h1;lia
noncomputable def Xi (CA:Addr):Sp:=λb H Q _=>∃(a dx:Addr) (fs:List (Str×V)),b=[.ref a]/\H a=some (.ins CA dx fs)/\fs.length<1000/\Q .non (upd H a (.ins CA dx (putF "wish" .non fs)))
def J6:⋯ EE.j38 1 ["self"] (Xi ah):=by
 delta EE.j38 OJ
 ·refine e_E h λa=>f_E λdx=>f_E λfs=>f_A λb _=>?_;try clear h;subst b;rfl
 ·left;refine CV h λa dx fs c d e k=>?_;try clear h;subst c
  right;refine q_EA _ (Ae (C8 (pvD 0) Ck rfl)) ?_;nofun;exact BC _ _ _ d (AK EE.cl_j0 EE.n_Asker_wish e k)
noncomputable def Xj (CA:Addr):Sp:=λc H Q _=>∃(a dx b pw pe:Addr) (L most:Int),c=[.ref a,.int L,.int most,.ref b,.ref pw,.ref pe]/\H a=some (.ins CA dx [])/\∀(pg:Addr) (H':Hp),H pg=none->H' a=some (.ins CA dx (afl .non L most b pw pe pg .non .non))->H' pg=some (.lst [])->(∀x o,H x=some o->x≠a->H' x=some o)->(∀x,H' x=none->H x=none)->Q .non H'
def Lw:⋯ EE.j39 3 ["self","letters","most","book","ways","ends"] (Xj ah):=by
 delta EE.j39 Qn
 ·refine AQ h λa dx b pw pe L most r _=>?_;try clear h;subst r;rfl
 ·left;refine AQ h λa dx b pw pe L most s=>f_A λt k=>?_;try clear h;subst s
  right;have E:=Al;refine q_EA _ (Ac (AN (Bj_ rfl EE.m_ja EE.j38.m (J6 EE).g hr.d (J6 EE).b .nil Au (Aa (pvD 0) Ad)))
   (Ac (C8 (pvD 0) (pvD 1) rfl)
   (Ac (C8 (pvD 0) (pvD 2) rfl)
   (Ac (C8 (pvD 0) (pvD 3) rfl)
   (Ac (C8 (pvD 0) (pvD 4) rfl)
   (Ac (C8 (pvD 0) (pvD 5) rfl)
   (Ac (C8 (pvD 0) (Co Ad) rfl)
   (Ac (C8 (pvD 0) Ck rfl)
   (Ae (C8 (pvD 0) Ck rfl)))))))))) ?_
  nofun;have c:∀(f:Str) (v:V) (fs:List (Str×V)) (n:Nat),fs.length<n->(putF f v fs).length<n+1:=λf v fs n h=>by have:=Sj f v fs;lia
  have u:=c "wish" .non [] 1 (by simp);have w:=c "letters" (.int L) _ _ u;have x:=c "most" (.int most) _ _ w;have A:=c "book" (.ref b) _ _ x;have B:=c "ways" (.ref pw) _ _ A;have C:=c "ends" (.ref pe) _ _ B;refine BC a dx ([]) rfl (Br t (by simp) _ (AB _ _ Ab EE.cl_j0 (Br EE.n_Asker_letters s!"" _ (AB _ _ Ab EE.cl_j0 (Br EE.n_Asker_most s!"" _ (AO _ _ Ab EE.cl_j0 EE.n_Asker_book s!"" (BC _ _ _ Ab (AK EE.cl_j0 EE.n_Asker_ways s!"" (Ai _ _ _ Ab EE.cl_j0 EE.n_Asker_ends (q_AA s!"" s!"" λpg i=>?_))))))))));have p:pg≠a:=λz=>by rw[z,Ab]at i;cases i
  have D:=c "gaps" (.ref pg) _ _ C;have F:=c "guess" .non _ _ D;refine BC _ _ _ (by rw[Ak (qs_ p)];exact Ab) (AK EE.cl_j0 EE.n_Asker_gaps s!"" (BC _ _ _ Ab (AK EE.cl_j0 EE.n_Asker_guess s!"" (BC _ _ _ Ab (AK EE.cl_j0 EE.n_Asker_wrong s!"" ?_)))));have q:H pg=none:=by
   simp only[Ak p]at i;exact i
  refine k pg _ q (by rw[Ab,Xh]) (by simp only[Ak p];exact Ab) (λy o e j=>?_) (λy e=>?_)
  ·have l:y≠pg:=λz=>by rw[z,q]at e;cases e
   simp only[Ak j,Ak l];exact e
  ·by_cases j:y=a
   ·rw[j,Ab]at e;cases e
   ·by_cases l:y=pg
    ·rw[l];exact q
    ·simp only[Ak j,Ak l]at e;exact e
noncomputable def Xk (K:α3)(CA CB:Addr):Sp:=λb H Q _=>∃(a:Addr) (ad:AD) (s:AS) (wv:V),b=[.ref a]/\Asks K CA CB H a ad s wv/\Q wv H
def BP:⋯ EE.j0 1 ["self"] (Xk K ah ak):=by
 delta EE.j0 Ng
 ·refine AX h λa ad s wv=>f_A λb _=>?_;try clear h;subst b;rfl
 ·left;refine e_E h λa=>f_E λad=>B6 λs wv c d k=>?_;try clear h;subst c;obtain⟨gv,rv,zs,ys,us,x⟩:=d
  right;refine q_EA _ (Ae (Ao (AR (pvD 0) rfl))) ?_;nofun;exact Ai _ _ _ x.ob EE.cl_j0 EE.n_Asker_wish (q_EA _ (JF ..) k)
noncomputable def VI (K:α3)(CA CB b:Addr):Sp:=λc H Q E=>∃(a:Addr) (ad:AD) (s:AS) (wv:V) (x:Wish) (d:Str),c=[.ref a,.str d]/\Asks K CA CB H a ad s wv/\Ce K H s.L wv x/\(x.tag=d->Q .non H)/\(x.tag≠d->E (.ref b) none H)
def Ba:CalH P w mg base (CXe P w) EE.j67 1 ["self","deed"] (VI K ah ak aW):=by
 refine HG.okE EE.j67 Io (λc H Q E h=>?_) (λn A outer s H c Q E o h=>?_)
 ·refine e_E h λa=>CZ λad s wv x d e _=>?_;try clear h;subst e;rfl
 ·left;refine AX h λa ad s wv=>B6 λx d f g=>f_A λhw=>f_A λk i=>?_;try clear h;subst f;obtain⟨gv,rv,zs,ys,us,j⟩:=g
  right;have p:=Al;refine q_EA _ (Ae (Bb (ptT (Ay (opN KH) (Aj (ixTD Ap) (AR (pvD 0) rfl) Af) (pvD 1) (AL _)))
   (Ae (EC EE.m_j4 EE.x_j4 rfl rfl (Aa A0 Ad)))
   Az)) ?_
  nofun;left;refine AJ hw λt u l m _=>?_;try clear hw;subst l
  right;refine Ai _ _ _ j.ob EE.cl_j0 EE.n_Asker_wish (AH _ (JF ..) t rfl _ (SqT.of m) (A7 (V.str x.tag) rfl rfl ?_));by_cases b:x.tag=d
  ·refine Bw (by simp[b]) ?_;exact k b
  ·refine DZ (by simp[b]) ?_;exact#[by lia,i b]
noncomputable def Qs (K:α3)(CA CB:Addr)(f:AS->α1):Sp:=λb H Q _=>∃(a:Addr) (ad:AD) (s:AS) (wv:V),b=[.ref a]/\Asks K CA CB H a ad s wv/\∀l ts H',Same H H'->H l=none->H' l=some (.lst ts)->Am K H' ts (f s)->Q (.ref l) H'
def Dy:⋯ EE.j1 1 ["self"] (Qs K ah ak AS.W):=by
 delta EE.j1 Nh
 ·refine AX h λa ad s wv=>f_A λc _=>?_;try clear h;subst c;rfl
 ·left;refine e_E h λa=>f_E λad=>B6 λs wv d e k=>?_;try clear h;subst d;obtain⟨gv,rv,zs,ys,us,x⟩:=e
  right;refine q_EA _ (Ae (Ao (AA GF rfl EE.list qA_ (Aa (AR (pvD 0) rfl) Ad)))) ?_;nofun;exact Ai _ _ _ x.ob EE.cl_j0 EE.n_Asker_ways (AH _ (JG ..) ad.pw rfl zs (.inl (SqL.of x.w)) λl b=>k l zs _ (Same.new b) b Ab (x.wW.mono (TK.new b)))
def C2:⋯ EE.j3 1 ["self"] (Qs K ah ak AS.E):=by
 delta EE.j3 Mq
 ·refine AX h λa ad s wv=>f_A λc _=>?_;try clear h;subst c;rfl
 ·left;refine e_E h λa=>f_E λad=>B6 λs wv d f k=>?_;try clear h;subst d;obtain⟨gv,rv,zs,ys,us,x⟩:=f
  right;refine q_EA _ (Ae (Ao (AA GF rfl EE.list qA_ (Aa (AR (pvD 0) rfl) Ad)))) ?_;nofun;exact Ai _ _ _ x.ob EE.cl_j0 EE.n_Asker_ends (AH _ (Lc ..) ad.pe rfl ys (.inl (SqL.of x.e)) λl b=>k l ys _ (Same.new b) b Ab (x.eW.mono (TK.new b)))
noncomputable def Tx (K:α3)(CA CB:Addr):Sp:=λb H Q _=>∃(a:Addr) (ad:AD) (s:AS) (wv:V),b=[.ref a]/\Asks K CA CB H a ad s wv/\∀l rs H',Same H H'->H l=none->H' l=some (.lst rs)->Ek H' rs s.es->Q (.ref l) H'
def D6:⋯ EE.j5 2 ["self"] (Tx K ah ak):=by
 delta EE.j5 OG
 ·refine AX h λa ad s wv=>f_A λc _=>?_;try clear h;subst c;rfl
 ·left;refine e_E h λa=>f_E λad=>B6 λs wv e f k=>?_;try clear h;subst e;obtain⟨gv,rv,zs,ys,us,x⟩:=f
  right;refine q_EA _ (Ae (Ao (A2 (AR (pvD 0) rfl) EE.cl_j1 EE.j4.m (D1 EE).g hr.d (D1 EE).b .nil Au))) ?_;nofun;obtain⟨j,i⟩:=x.bk.ob;exact Ai _ _ _ x.ob EE.cl_j0 EE.n_Asker_book (q_EA _ (Gb ..) (BH ad.b rfl _ _ i (CJ _ _ (by decide +kernel) (by decide +kernel)) (AY ad.b ad.d _ s.es rfl x.bk k)))
noncomputable def VJ (K:α3)(CA CB:Addr):Sp:=λd H Q _=>∃(a l:Addr) (ad:AD) (s:AS) (wv:V) (ts:List V) (ws:α1),d=[.ref a,.ref l]/\Asks K CA CB H a ad s wv/\SqL K H l ts/\Am K H ts ws/\ws.Nodup/\ws.length<=100000/\∀b H',Asks K CA CB H' a b {s with G:=ws.filter λc=>(mkO s.es c).isNone} wv->Frm H H' a ad->AdOk H ad b->Q .non H'
def Hm:⋯ EE.j19 2 ["self","words"] (VJ K ah ak):=by
 delta EE.j19 Ef
 ·refine AQ h λa l ad s wv ts ws U _=>?_;try clear h;subst U;rfl
 ·left;refine AQ h λa l ad s wv ts ws W=>A5 λX N O Y au k=>?_;try clear h;subst W;obtain⟨gv,rv,zs,ys,us,x⟩:=X
  right;have av:=Al;refine q_EA _ (Ac (Dz (i:=2) Ef.nd rfl (oQ rfl) FD)
   (Ac (BU jR_ rfl (BZ (pvD 1)) (As (i:=3) Ef.nd rfl (oQ rfl))
   (Ae (Bb (ptT (Ay Mb (BF (AR (pvD 0) rfl) EE.cl_j1 EE.j15.m (BD EE).g hr.d (BD EE).b .nil Au (Aa (pvD 3) Ad)) Ck (AL _)))
   (Ae (GH (GG hr) (pvD 2) (pvD 3) E9 rfl))
   Az)))
   (Ae (C8 (pvD 0) (AA (Ec rfl) rfl EE.list qA_ (Aa (pvD 2) Ad)) rfl)))) ?_
  nofun;intro p P;have sp:=Same.new (o:=.dT []) P;obtain⟨aw,Z⟩:=x.bk.ob;obtain⟨I,u⟩:∃I:Nat->St->Hp->Prop,∀i A H',I i A H'↔(∃(r:List (List Key×V)) (o:Option V),Same H H'/\H' p=some (.dT r)/\DH ((ws.take i).filter λc=>(mkO s.es c).isNone) r/\A=[some (.ref a),some (.ref l),some (.ref p),o]):=#[_,λ_ _ _=>qk_];refine#[#[_,sp.seq N],forL (xs:=ts) I ((u _ _ _).mpr (BS ([]) none sp Ab (by rw[xG_];exact DH.nil) rfl)) (λi A H' _ h'=>by obtain⟨_,_,s',_⟩:=(u _ _ _).mp h';exact s'.seq N) (λi y A H' n h'=>?_) (λA H' h'=>?_)]
  ·left;refine AJ ((u _ _ _).mp h') λr o s' D=>f_A λv aa=>?_;subst aa;refine AJ (O.at n) λt c J ab ac=>?_;subst ab;right;have ax:i<ws.length:=(jb_.mp J).1;have ay:r.length<=100000:=by
    rw[v.len];have h1:=List.length_filter_le (λc=>(mkO s.es c).isNone) (ws.take i);rw[jC_]at h1;lia
   have Q:=s' _ _ ac;have ae:c∉ws.take i:=λz=>by
    obtain⟨j,E⟩:=jN_.mp z;rw[q5_]at E;split at E
    ·rename_i af
     have h1:=jb_.mp E;have h2:=jb_.mp J;have:=(xp_.mp (x0_.mp Y)) j i h1.1 h2.1 af;exact this (h1.2.trans h2.2.symm)
    ·cases E
   have R:(ws.take (i+1)).filter (λc=>(mkO s.es c).isNone)=(ws.take i).filter (λc=>(mkO s.es c).isNone)++(if (mkO s.es c).isNone then [c] else []):=by
    rw[jF_,J,List.filter_append]
    congr 1
    show List.filter _ [c]=_;rw[List.filter_cons];rfl
   nofun;refine Ai _ _ _ (s' _ _ x.ob) EE.cl_j0 EE.n_Asker_book (Ar _ (Gb ..) ad.b rfl (AB _ _ (s' _ _ Z) (CJ _ _ (by decide +kernel) (by decide +kernel)) (Bj ad.b ad.d t _ (AO c s.es rfl (x.bk.mono s') Q (λag=>?_) λm hm=>?_))))
   ·dsimp only;refine DZ rfl ?_;have ai:(mkO s.es c).isNone=true:=by rw[Ig ag];rfl
    refine q_EA _ (DPut.t (k:=wkey c) D (by rw[Bq];exact Q) s!"") ((u _ _ _).mpr (BS _ _ (s'.over P) Ab ?_ rfl));rw[R,if_pos ai];have:=v.put c (.bl true);unfold ins at this;rw[if_neg (λz=>ae (qO_.mp z).1)]at this;exact this
   ·dsimp only;refine Bw (by simp) ?_;have aj:(mkO s.es c).isNone=false:=by rw[D5 x.bk.nd hm];rfl
    refine (u _ _ _).mpr (BS r _ s' D ?_ rfl);rw[R,aj];simpa using v
  ·left;refine AJ ((u _ _ _).mp h') λr o s' D=>f_A λv al=>?_;subst al;right;rw[O.1,jz_]at v;nofun;refine q_EA r (.inl D) λq rs F am an=>?_;have f:=x.same (s'.newT F (o:=.lst rs));have G:upd H' q (.lst rs) q=some (.lst rs):=Ab;have S:=(v.words (K:=K) am an).mono (TK.new F (o:=.lst rs));have M:=s'.newT F (o:=.lst rs);have B:H q=none:=s'.none F;generalize upd H' q (.lst rs)=H1 at f G S M ⊢;left;refine B5 f.na λao ap az aq aA=>A5 λaB aC aD aE aF aG=>?_;right;have ar:q≠a:=λz=>by rw[z,f.ob]at G;cases G
   refine BC _ _ _ f.ob (AK EE.cl_j0 EE.n_Asker_gaps (by unfold afl;simp) ?_);rw[Xg];refine k {ad with pg:=q} _ (AI gv rv zs ys rs ?_) #[λy o n as aH aI aJ aK=>by rw[Ak as];exact M _ _ n,λy n=>?_] (q_AA rfl rfl (AK rfl rfl rfl (.inr B)))
   ·have C:=f.tkob (.ins ah ad.dx (afl wv s.L s.most ad.b ad.pw ad.pe q gv rv));refine#[Ab,BookAt.tk f.bk (λo h=>by rw[Ak f.nb];exact h) (λo h=>by rw[Ak aq];exact h),by rw[Ak ao];exact f.w,f.wW.mono C,by rw[Ak ap];exact f.e,f.eW.mono C,by rw[Ak ar];exact G,S.mono C,x.we,λz=>?_,λz=>?_,f.gv.mono C,f.rv.mono C]
    ·rw[show q=ad.pw from z.symm,x.w]at B;cases B
    ·rw[show q=ad.pe from z.symm,x.e]at B;cases B
   ·by_cases T:y=a
    ·rw[T,Ab]at n;cases n
    ·rw[Ak T]at n;exact M.none n
noncomputable def Xl (K:α3)(CA CB:Addr):Sp:=λc H Q _=>∃(a:Addr) (ad:AD) (s:AS) (wv:V),c=[.ref a]/\Asks K CA CB H a ad s wv/\Sz s/\∀b H',Asks K CA CB H' a b {s with G:=Gu s.L s.W s.E s.es} wv->Frm H H' a ad->AdOk H ad b->Q .non H'
def AZ:⋯ EE.j20 3 ["self"] (Xl K ah ak):=by
 delta EE.j20 Gy
 ·refine AX h λa ad s wv=>f_A λi _=>?_;try clear h;subst i;rfl
 ·left;refine Fl h λa ad s wv j n c k=>?_;try clear h;subst j;obtain⟨gv,rv,zs,ys,us,x⟩:=n
  right;have z:=Al;refine q_EA _ (Ae (AN (BF (pvD 0) EE.cl_j0 EE.j19.m (Hm EE).g hr.d (Hm EE).b .nil Au (Aa (Ah (Xa EE) hr.d Au (Aa (AR (pvD 0) rfl) (Aa (AR (pvD 0) rfl) (Aa (AR (pvD 0) rfl) Ad)))) Ad)))) ?_;nofun;have A:=c.w.1;have B:=c.e.1;refine AB _ _ x.ob (by kernel_rfl) (Ai _ _ _ x.ob EE.cl_j0 EE.n_Asker_letters (q_EA _ (Ih ..) (Ai _ _ _ x.ob EE.cl_j0 EE.n_Asker_ways (q_EA _ (JG ..) (Ai _ _ _ x.ob EE.cl_j0 EE.n_Asker_ends (DL _ (Lc ..) s.L (Bj ad.pw ad.pe zs ys (AO s.W s.E rfl c.l6 (SqL.of x.w) x.wW (AF s!"" (λv o=>by have:=c.w.2 v o;lia) (SqL.of x.e) x.eW s!"" c.e.2 λl rs H1 f C p hw=>?_)))))))));have q:(Ed (AU s.L s.W) s.E).length<=100000:=VH s!"" c.l6 s!"";exact Bj a l ad s (Ai wv rs _ rfl (AI _ _ _ _ _ (x.same f)) (SqL.of p) (AK hw (MS _ _) q λr H2 t u y=>k r H2 t ((Frm.of f a ad).trans (AdOk.refl H ad) u) (AdOk.trans (Frm.of f a ad) (AdOk.refl H ad) y)))
noncomputable def Xm (K:α3):Sp:=λb H Q _=>∃(a:Addr) (L:Int),b=[.ref a,.int L]/\∀l t H',Same H H'->H l=none->H' l=some (.lst [.ref t])->H' t=some (.tup [])->Q (.ref l) H'
def El:⋯ EE.j40 1 ["self","letters"] (Xm K):=by
 delta EE.j40 Jr
 ·refine e_E h λa=>f_E λL=>f_A λd _=>?_;try clear h;subst d;rfl
 ·left;refine e_E h λa=>f_E λL=>f_A λe k=>?_;try clear h;subst e
  right;have f:=Al;refine q_EA _ (Ae (Ao (Co (Aa (BK Ad) Ad)))) ?_;nofun;refine#[by lia,λt c=>#[by lia,λl b=>?_]];exact k l t _ ((Same.new c).newT b) ((Same.new c).none b) Ab (Same.new b _ _ Ab)
noncomputable def Rq (K:α3):Sp:=λb H Q _=>∃(a h t:Addr) (L:Int) (m:α2) (ws:α1) (v:α2),b=[.ref a,.ref h,.ref t]/\Cp K H h L m ws/\Wf L m ws/\SqT K H t (v.map V.int)/\v.length<=600/\isW L v=true/\∀H',Same H H'->Q (.int (Bf m (Ax ws v))) H'
def C3:⋯ EE.j23 6 ["self","house","word"] (Rq K):=by
 delta EE.j23 Mt
 ·obtain⟨a,h,t,L,m,ws,v,rfl,_⟩:=h;rfl
 ·left;obtain⟨a,h,t,L,m,ws,v,rfl,b,c,e,f,g,k⟩:=h;right;exists _,(Ae (Ao (Ah (E1 EE) hr.d (FH (P:=P) (w:=w)) (Aa (pvD 1) (Aa (pvD 2) Ad)))));nofun;exact#[h,t,L,m,ws,v,rfl,b,c,e,f,λ_ H' s'=>k H' s',λz=>by rw[g]at z;cases z]
noncomputable def BX_ (K:α3)(CA CB:Addr):Sp:=λb H Q _=>∃(a:Addr) (ad:AD) (s:AS) (wv:V),b=[.ref a]/\Asks K CA CB H a ad s wv/\Sz s/\Tb s.L s.most s.W s.E s.es/\Full s.L s.W s.E s.es/\C1 s.L s.W s.E s.es=none/\∀h H',Same H H'->HouT K H' h s.L (BE s.W s.es) (DC s.L s.W s.E s.es)->Q (.ref h) H'
def Em:⋯ EE.j30 5 ["self"] (BX_ K ah ak):=by
 delta EE.j30 Jn
 ·refine AX h λa ad s wv=>f_A λi _=>?_;try clear h;subst i;rfl
 ·left;refine AX h λa ad s wv=>f_A λj=>A5 λl c tb g n k=>?_;try clear h;subst j;obtain⟨gv,rv,zs,ys,us,x⟩:=l
  right;refine q_EA _ (Ae (Ao (Ah (Rk EE) hr.d Au (Aa (AR (pvD 0) rfl) (Aa (AR (pvD 0) rfl) (Aa (AR (pvD 0) rfl) (Aa (AR (pvD 0) rfl) Ad))))))) ?_;nofun;have y:=c.w.1;have z:=c.e.1;obtain⟨np,cl⟩:=tb.none g n;have o:([]:α2)∈s.E:=je_ tb.e0;refine Ai _ _ _ x.ob EE.cl_j0 EE.n_Asker_book (q_EA _ (Gb ..) (Ai _ _ _ x.ob EE.cl_j0 EE.n_Asker_letters (q_EA _ (Ih ..) (Ai _ _ _ x.ob EE.cl_j0 EE.n_Asker_ways (q_EA _ (JG ..) (Ai _ _ _ x.ob EE.cl_j0 EE.n_Asker_ends (q_EA _ (Lc ..) (BX ad.b ad.d ad.pw ad.pe s.L s.L (Bj s.es zs ys s.W (Ai s.E (gOf s.E s.es) (λv=>(mkO s.es v).getD 0) rfl x.bk c.l6 (AF (SqL.of x.w) x.wW s!"" (λv f=>by have:=c.w.2 v f;lia) (SqL.of x.e) x.eW (AF s!"" c.e.2 (λv f=>YJ g f) (tb.nodup g) cl (λv f=>?_) λh p q r H' s' h1 h2 t u=>k h H' s' (Ai p q r h1 h2 t u)))))))))))));obtain⟨m,hm⟩:=g v (A3.mpr (Ar v (AG.mpr (.inl f)) ([]) o (by simp)));show mkO s.es v=some ((mkO s.es v).getD 0);rw[hm];rfl
noncomputable def BY_ (K:α3)(CA CB:Addr):Sp:=λb H Q _=>∃(a:Addr) (ad:AD) (s:AS) (wv:V) (m:α2) (ws:α1),b=[.ref a]/\Asks K CA CB H a ad s wv/\s.gs=some (m,ws)/\Wf s.L m ws/\(∀e∈s.es,isW s.L e.1=true/\e.1.length<=600)/\∀H',Same H H'->(Bu s.es m ws=none->Q .non H')/\∀v t,Bu s.es m ws=some v->H' t=some (.tup (v.map V.int))->Q (.ref t) H'
def Eo:⋯ EE.j33 8 ["self"] (BY_ K ah ak):=by
 delta EE.j33 Jo
 ·refine e_E h λa=>CZ λad s wv m ws n _=>?_;try clear h;subst n;rfl
 ·left;refine e_E h λa=>f_E λad=>CY λs wv m ws=>A5 λo q r u v k=>?_;try clear h;subst o;obtain⟨gv,rv,zs,ys,us,x⟩:=q
  right;refine q_EA _ (Ae (Ao (Ah (Nv EE) hr.d Au (Aa (AR (pvD 0) rfl) (Aa (AR (pvD 0) rfl) Ad))))) ?_;nofun;have g:=x.gv;rw[r]at g;left;obtain⟨h,rfl,w⟩:=g;right;refine Ai _ _ _ x.ob EE.cl_j0 EE.n_Asker_book (DL _ (Gb ..) _ (AB _ _ x.ob EE.cl_j0 (Dq EE.n_Asker_guess _ (L6 ..) (BX ad.b ad.d h s.L m ws (Dx s.es rfl w.house u x.bk v λH' s'=>#[λf=>(k H' s').1 ?_,λi e t f hi l y=>?_])))))
  ·unfold Bu;rw[zs_,qf_];intro e z;have:=f e z;unfold IC at this;rw[this];simp
  ·refine (k H' s').2 e.1 t ?_ y
   ·unfold Bu;have D:=(jb_.mp hi).1;have A:s.es=s.es.take i++(e::s.es.drop (i+1)):=by
     have h1:=(List.take_append_drop (i+1) s.es).symm;rw[jF_,hi,xx_]at h1;exact h1
    rw[A,rE,qf_.mpr λp B=>?_,q0_]
    ·unfold IC at l;rw[l];rfl
    ·obtain⟨j,c⟩:=jN_.mp B;rw[q5_]at c;split at c
     ·rename_i C
      have:=f j C p c;unfold IC at this;rw[this];simp
     ·cases c
noncomputable def VL (K:α3)(CB:Addr):Sp:=λf H Q _=>∃(b d pw h t:Addr) (L:Nat) (es:Bk) (zs:List V) (W:α1) (m:α2) (ws:α1) (v:α2) (e:Int),f=[.ref b,.ref pw,.ref h,.ref t,.int e,.int v.length]/\BookAt CB H b d L es/\H pw=some (.lst zs)/\Am K H zs W/\Cp K H h L m ws/\Wf L m ws/\H t=some (.tup (v.map V.int))/\isW L v=true/\0<v.length/\v.length<=600/\(∀u∈W,u.length<=50)/\(∀i,i<=v.length->∃k:Nat,Ax ws (v.take i)=(k:Int)/\W[k]?=some (Hl W ws v i))/\∀H',Same H H'->(∀c u a,E2 es W ws v e v.length 0 v.length=.ask c->H' u=some (.tup (c.map V.int))->H' a=some (.tup [.str "ask",.ref u])->Q (.ref a) H')/\(∀hi u a,E2 es W ws v e v.length 0 v.length=.fin hi->H' u=some (.tup ((v.drop hi).map V.int))->H' a=some (.tup [.str "end",.ref u])->Q (.ref a) H')
def VM:⋯ EE.j16 4 ["book","access","guess","word","mark","last"] (VL K ak):=by
 delta EE.j16 CL
 ·obtain⟨b,d,pw,h,t,L,es,zs,c,m,ws,v,a,rfl,_⟩:=h;rfl
 ·left;obtain⟨b,d,pw,h,t,L,es,zs,c,m,ws,v,a,rfl,I,W,X,Y,Z,B,aa,aq,ab,ac,ad,k⟩:=h;right;have ar:=Al;exists _,(Ac (An (i:=6) CL.nd (Ah (Sg EE) hr.d (FH (P:=P) (w:=w)) (Aa (pvD 2) (Aa (pvD 3) Ad))))
   (Ac (An (i:=7) CL.nd Af)
   (Ac (An (i:=8) CL.nd (pvD 5))
   (Ac (LU jR_ (ptT (Ay (opD0 Aq_) (AW (opD0 RD) (pvD 8) (pvD 7)) Af (AL _)))
   (Ac (An (i:=9) CL.nd (AW (opD Jd) (AW (opD0 Cn) (pvD 7) (pvD 8)) Af))
   (Ac (An (i:=10) CL.nd (AW FG (Aj (ixLD Bo) (pvD 1) (Aj (ixLD Bo) (pvD 6) (pvD 9))) (BV RH (pvD 3) (BR (pvD 9)) EK)))
   (Ac (An (i:=11) CL.nd (BF (pvD 0) EE.cl_j1 EE.j15.m (BD EE).g hr.d (BD EE).b .nil Au (Aa (pvD 10) Ad)))
   (Ac (Bb (ptT (Ay Mb (pvD 11) Ck (AL _)))
   (Ae (Ao (BK (Aa A0 (Aa (pvD 10) Ad)))))
   Az)
   (Ae (Bb (ptT (Ay (opE EA) (pvD 11) (pvD 4) (AL _)))
   (Ae (An (i:=8) CL.nd (pvD 9)))
   (Ae (An (i:=7) CL.nd (pvD 9))))))))))
   (Ae (Ao (BK (Aa A0 (Aa (BV RH (pvD 3) (BR (pvD 8)) EK) Ad)))))))))
  left;obtain⟨⟨as,ae⟩,au,af⟩:=id I;right;nofun;refine#[h,t,L,m,ws,v,rfl,Y,Z,SqT.of B,ab,λ_ p H1 j av ag=>?_,λz=>by rw[aa]at z;cases z];obtain⟨s,y⟩:∃s:Nat->St->Hp->Prop,∀n C H',s n C H'↔(∃(lo hi:Nat) (f:Nat) (J M N:Option V),Same H1 H'/\n=hi-lo/\hi-lo<=f+1/\lo<hi/\hi<=v.length/\E2 es c ws v a v.length 0 v.length=E2 es c ws v a f lo hi/\C=[some (.ref b),some (.ref pw),some (.ref h),some (.ref t),some (.int a),some (.int v.length),some (.ref p),some (.int lo),some (.int hi),J,M,N]):=#[_,λ_ _ _=>qk_];refine RQ s #[v.length,(y _ _ _).mpr #[0,v.length,v.length,none,none,none,Same.refl _,by lia,by lia,by lia,by lia,rfl,rfl]] λn C H' h'=>?_;left;obtain⟨lo,hi,f,J,M,N,s',aw,ax,ay,az,e,rfl⟩:=(y _ _ _).mp h';right;nofun;by_cases D:hi-lo > 1
  ·rw[if_pos s!""];exists λah H2=>∃O,O<n/\s O ah H2,λ_ _ z=>z;have ai:((lo:Int)+(hi:Int)) / 2=(((lo+hi) / 2:Nat):Int):=by lia
   simp only[ai];have Q:(lo+hi) / 2<=v.length:=by lia
   left;obtain⟨aj,al,R⟩:=ad _ Q;obtain⟨ta,am,an⟩:=(X.mono (TK.of (j.trans s'))).2 aj _ R;right;have E:=(j.trans s') _ _ B;refine#[by show CDiv _ _;unfold CDiv;lia,_,SqL.of (s' _ _ ag),_,GD (VF ws v Q),zs,_,rfl,SqL.of ((j.trans s') _ _ W),_,(by rw[al];exact GD am),_,SqT.of E,?_,λq F=>?_]
   ·rw[HT.sIx_nat,HT.sIx_none,ja_];lia
   rw[NW];have r:=Same.new (o:=.tup ((v.drop ((lo+hi) / 2)).map V.int)) F;have aA:=ac _ (je_ R);refine Eb.ofS (r _ _ an) Ab (by rw[ja_,ja_,xl_];lia) λu H2 S G=>?_;rw[<-jn_]at G;have H:=(j.trans s').trans (r.trans S);have T:=s'.trans (r.trans S);refine#[_,_,H _ _ ae,CJ _ _ (by decide +kernel) (by decide +kernel),b,d,u,L,_,es,rfl,I.mono H,G,λao=>?_,λU hm=>?_]
   ·dsimp only;rw[if_pos rfl];refine#[by lia,λx l=>?_];obtain⟨f',rfl⟩:∃f',f=f'+1:=#[f-1,by lia];refine (k _ (H.newT l)).1 _ u x ?_ (Same.new l _ _ G) Ab;rw[e];unfold E2;rw[if_pos D,Ig ao]
   ·dsimp only;rw[if_neg (by simp)];obtain⟨f',rfl⟩:∃f',f=f'+1:=#[f-1,by lia];have ap:E2 es c ws v a (f'+1) lo hi=if U=a then E2 es c ws v a f' lo ((lo+hi) / 2) else E2 es c ws v a f' ((lo+hi) / 2) hi:=by
     conv=>lhs;unfold E2
     rw[if_pos D,D5 af hm]
    rw[ap]at e;exists rfl;by_cases A:U=a
    ·rw[if_pos (by rw[A])];rw[if_pos A]at e;exact#[_,by lia,(y _ _ _).mpr #[lo,(lo+hi) / 2,f',_,_,_,T,rfl,by lia,by lia,by lia,e,rfl]]
    ·rw[if_neg (λz=>A (V.int.inj z))];rw[if_neg A]at e;exact#[_,by lia,(y _ _ _).mpr #[(lo+hi) / 2,hi,f',_,_,_,T,rfl,by lia,by lia,by lia,e,rfl]]
  ·rw[if_neg s!""];have E:=(j.trans s') _ _ B;refine#[_,SqT.of E,?_,λq F=>#[by lia,λx l=>?_]]
   ·rw[HT.sIx_nat,HT.sIx_none,ja_];lia
   rw[NW]at l ⊢;have r:=Same.new (o:=.tup ((v.drop hi).map V.int)) F;refine (k _ (((j.trans s').trans r).newT l)).2 hi q x ?_ (Same.new l _ _ Ab) Ab;rw[e];cases f with
   |zero=>rfl
   |succ f=>unfold E2;rw[if_neg D]
noncomputable def VN (K:α3)(CA CB:Addr):Sp:=λb H Q _=>∃(a:Addr) (ad:AD) (s:AS) (wv:V) (B:Nat),b=[.ref a]/\Asks K CA CB H a ad s wv/\OkX none B s/\s.G=[]/\Bd B s/\C1 s.L s.W s.E s.es=none/\∀H' r,Asks K CA CB H' a ad (DM s).1 wv->Frm H H' a ad->((DM s).2=none->r=.non)->(∀x,(DM s).2=some x->Ce K H' s.L r x)->Q r H'
def DD:⋯ EE.j34 9 ["self"] (VN K ah ak):=by
 delta EE.j34 GR
 ·obtain⟨a,ad,s,wv,B,rfl,_⟩:=h;rfl
 ·left;obtain⟨a,ad,s,wv,B,rfl,⟨gv,rv,zs,ys,us,x⟩,ok,q,F,j,k⟩:=h;have P:=Al;have w:=ok.sz F;have tb:=ok.tb;obtain⟨np,cl⟩:=tb.none (ok.full q) j;right;have g:GuessOk s.L s.W s.E s.es (BE s.W s.es) (DC s.L s.W s.E s.es):=tb.guess (ok.full q) cl;have G:=tb.wf g;exists _,(Ac (C8 (pvD 0) (A2 (pvD 0) EE.cl_j0 EE.j30.m (Em EE).g hr.d (Em EE).b .nil Au) rfl)
   (Ac (C8 (pvD 0) (A2 (pvD 0) EE.cl_j0 EE.j33.m (Eo EE).g hr.d (Eo EE).b .nil Au) rfl)
   (Ac (Bb (ptT (Ay Mb (AR (pvD 0) rfl) Ck (AL _)))
   (Ae (Ao (BK (Aa A0 (Aa (AR (pvD 0) rfl) Ad)))))
   Az)
   (Ae (Ao Ck)))))
  nofun;refine#[_,_,x.ob,by kernel_rfl,a,ad,s,wv,rfl,#[_,_,_,_,_,x],w,tb,ok.full q,j,λh H1 A H=>?_];have l:=x.same A;exists _,_,_,l.ob,EE.cl_j0,EE.n_Asker_guess,Ld ..;rw[VE];have n:=l.put (wv':=wv) (gv':=.ref h) (rv':=rv) (s':={s with gs:=some (BE s.W s.es,DC s.L s.W s.E s.es)}) rfl rfl rfl rfl rfl rfl #[h,rfl,H] l.rv;have C:=(Frm.of A a ad).seq (l.putF (.ins ah ad.dx (afl wv s.L s.most ad.b ad.pw ad.pe ad.pg (.ref h) rv)));refine#[_,_,n.ob,by kernel_rfl,a,ad,_,wv,_,_,rfl,#[_,_,_,_,_,n],rfl,G,λe D=>#[(tb.bW e D).1,w.b e D],λQ o=>#[λI=>?_,λv t J M=>?_]]
  ·have f:DM s=({s with gs:=some (BE s.W s.es,DC s.L s.W s.E s.es),wr:=none},some (.shown (BE s.W s.es) (DC s.L s.W s.E s.es))):=by
    unfold DM;rw[j];dsimp only;rw[I]
   have c:=n.same o;exists _,_,_,c.ob,EE.cl_j0,EE.n_Asker_wrong,Ld ..;rw[MT];have i:=c.put (wv':=wv) (gv':=.ref h) (rv':=.non) (s':={s with gs:=some (BE s.W s.es,DC s.L s.W s.E s.es),wr:=none}) rfl rfl rfl rfl rfl rfl c.gv rfl;have r:=(C.seq (Frm.of o a ad)).seq (c.putF (.ins ah ad.dx (afl wv s.L s.most ad.b ad.pw ad.pe ad.pg (.ref h) .non)));exists _,_,_,i.ob,EE.cl_j0,EE.n_Asker_wrong,_,Ii ..;rw[if_pos rfl];refine#[_,_,_,i.ob,EE.cl_j0,EE.n_Asker_guess,_,L6 ..,by lia,λp u=>?_];refine k _ _ ?_ (r.seq (Frm.of (Same.new u) a ad)) ?_ ?_
   ·rw[f];exact#[_,_,_,_,_,i.same (Same.new u)]
   ·rw[f];exact λz=>by cases z
   ·rw[f];intro y z;cases z;exists p,h,rfl,Ab;obtain⟨h',N,O⟩:=(i.same (Same.new u)).gv;cases N;exact O
  ·have f:DM s=({s with gs:=some (BE s.W s.es,DC s.L s.W s.E s.es),wr:=some v},none):=by
    unfold DM;rw[j];dsimp only;rw[J]
   have c:=n.same o;exists _,_,_,c.ob,EE.cl_j0,EE.n_Asker_wrong,Ld ..;rw[MT];have i:=c.put (wv':=wv) (gv':=.ref h) (rv':=.ref t) (s':={s with gs:=some (BE s.W s.es,DC s.L s.W s.E s.es),wr:=some v}) rfl rfl rfl rfl rfl rfl c.gv #[t,rfl,M];have r:=(C.seq (Frm.of o a ad)).seq (c.putF (.ins ah ad.dx (afl wv s.L s.most ad.b ad.pw ad.pe ad.pg (.ref h) (.ref t))));exists _,_,_,i.ob,EE.cl_j0,EE.n_Asker_wrong,_,Ii ..;rw[if_neg (by simp)];refine k _ _ ?_ r ?_ ?_
   ·rw[f];exact#[_,_,_,_,_,i]
   ·rw[f];exact λ_=>rfl
   ·rw[f];exact λy z=>by cases z
noncomputable def O5 (K:α3)(CA CB:Addr)(pre:AS->Prop)(f:AS->AS×Option Wish):Sp:=λc H Q _=>∃(a:Addr) (ad:AD) (s:AS) (wv:V) (B:Nat),c=[.ref a]/\Asks K CA CB H a ad s wv/\OkX none B s/\Bd B s/\pre s/\∀b H' r,Asks K CA CB H' a b (f s).1 wv->Frm H H' a ad->AdOk H ad b->((f s).2=none->r=.non)->(∀x,(f s).2=some x->Ce K H' s.L r x)->Q r H'
def Dc:⋯ EE.j35 10 ["self"] (O5 K ah ak (λs=>s.G=[]/\s.wr=none) DM):=by
 delta EE.j35 C9
 ·refine CW h λa ad s wv B R _=>?_;try clear h;subst R;rfl
 ·left;refine e_E h λa=>CY λad s wv B=>A5 λS T ok C U k=>?_;try clear h;subst S;obtain⟨gv,rv,zs,ys,us,x⟩:=T;obtain⟨D,X⟩:=U
  right;have ab:=Al;have j:=ok.sz C;have tb:=ok.tb;have ac:=j.w.1;have ae:=j.e.1;refine q_EA _ (Ac (An (i:=1) C9.nd (Ah (Rf EE) hr.d Au (Aa (AR (pvD 0) rfl) (Aa (AR (pvD 0) rfl) (Aa (AR (pvD 0) rfl) (Aa (AR (pvD 0) rfl) Ad))))))
   (Ac (Bb (ptT (Ay Mb (pvD 1) Ck (AL _)))
   (Ae (Ao (A2 (pvD 0) EE.cl_j0 EE.j34.m (DD EE).g hr.d (DD EE).b .nil Au)))
   Az)
   (Ac (Bb (ptT (Ay (opE EA) (Av (lenD Aq) (by rfl) EE.len jO_ (Aa (AR (pvD 0) rfl) Ad)) (AR (pvD 0) rfl) (AL _)))
   (Ae (Ao (BK (Aa A0 (Aa (pvD 1) Ad)))))
   Az)
   (Ac (AN (DV jK_ jW_ jX_ BB (AR (pvD 0) rfl) (Aa (pvD 1) Ad)))
   (Ac (AN (A2 (pvD 0) EE.cl_j0 EE.j20.m (AZ EE).g hr.d (AZ EE).b .nil Au))
   (Ae (Ao Ck))))))) ?_
  nofun;refine Ai _ _ _ x.ob EE.cl_j0 EE.n_Asker_book (q_EA _ (Gb ..) (Ai _ _ _ x.ob EE.cl_j0 EE.n_Asker_letters (q_EA _ (Ih ..) (Ai _ _ _ x.ob EE.cl_j0 EE.n_Asker_ways (q_EA _ (JG ..) (Ai _ _ _ x.ob EE.cl_j0 EE.n_Asker_ends (DL _ (Lc ..) ad.b (BX ad.d ad.pw ad.pe s.L s.L s.es (CU zs ys s.W s.E (gOf s.E s.es) rfl (AF x.bk j.l6 (SqL.of x.w) x.wW s!"" (λv F=>by have:=j.w.2 v F;lia) (AF (SqL.of x.e) x.eW s!"" j.e.2 (λv F=>YJ (ok.full D) F) (λr t H1 q l O=>?_) λH1 q l=>?_)))))))))))
  ·dsimp only;refine Bw (by simp) ?_;have c:=x.same l;have u:=Frm.of l a ad;have n:=AdOk.refl H ad;refine Ai _ _ _ c.ob EE.cl_j0 EE.n_Asker_ways (AH _ (JG ..) ad.pw rfl _ (.inl (SqL.of c.w)) (Ai _ _ _ c.ob EE.cl_j0 EE.n_Asker_most (A7 _ (ZQ ..) rfl ?_)));rw[c.wW.1];by_cases hm:s.W.length=s.most
   ·refine DZ (by rw[hm]) ?_;have f:DM s=(s,some (.spent r)):=by
     unfold DM;rw[show C1 s.L s.W s.E s.es=some r from q];dsimp only;rw[if_pos hm]
    refine#[by lia,λp I=>?_];refine k ad _ _ ?_ (u.seq (Frm.of (Same.new I) a ad)) n ?_ ?_
    ·rw[f];exact AI _ _ _ _ _ (c.same (Same.new I))
    ·rw[f];exact λz=>by cases z
    ·rw[f];intro y z;cases z;exact AB p t rfl Ab (Same.new I _ _ O)
   ·refine Bw (λz=>hm (by have:=V.int.inj z;lia)) ?_;have f:DM s=({s with W:=s.W++[r],G:=Gu s.L (s.W++[r]) s.E s.es},none):=by
     unfold DM;rw[show C1 s.L s.W s.E s.es=some r from q];dsimp only;rw[if_neg hm]
    have P:=c.putW (c.wW.snoc O);have Q:=u.seq (Frm.put (a:=a) (o:=.lst (zs++[.ref t])) (.inl rfl) #[_,c.w]);obtain⟨Y,af,_⟩:=(VC ok D X).1 _ f;have A:=Y.sz (B:=B) C;refine Ai _ _ _ c.ob EE.cl_j0 EE.n_Asker_ways (q_EA _ (JG ..) (Dq (.inl #[rfl,_,SqL.of c.w]) ad.pw rfl (A7 _ c.w (by rw[c.wW.1];lia) (AB _ _ P.ob (by kernel_rfl) (Bj a ad _ wv (AK rfl (AI _ _ _ _ _ P) #[A.l6,A.w,A.e,A.b] λZ J M N aa=>?_))))));refine k Z J _ ?_ (Q.trans n N) (AdOk.trans Q n aa) ?_ ?_
    ·rw[f];exact M
    ·rw[f];exact λ_=>rfl
    ·rw[f];exact λy z=>by cases z
  ·dsimp only;refine DZ rfl ?_;have c:=x.same l;have u:=Frm.of l a ad;have n:=AdOk.refl H ad;exact AB _ _ c.ob (by kernel_rfl) (AI a ad s wv B (AF rfl (AI _ _ _ _ _ c) ok D C q λJ r M N=>k ad J r M (u.seq N) n))
def IE:⋯ EE.j24 7 ["self"] (O5 K ah ak (λs=>s.G=[]/\s.wr≠none) BG):=by
 delta EE.j24 Dt
 ·refine CW h λa ad s wv B ai _=>?_;try clear h;subst ai;rfl
 ·left;refine e_E h λa=>CY λad s wv B=>A5 λaj al ok F am k=>?_;try clear h;subst aj;obtain⟨gv,rv,zs,ys,us,x⟩:=al;obtain⟨an,ao⟩:=am
  have aH:=Al;have I:=ok.sz F;have tb:=ok.tb;have aI:=I.w.1;have aJ:=I.e.1;obtain⟨v,J⟩:=Option.ne_none_iff_exists'.mp ao;refine e_A (ok.wr v J) λ_=>f_A λaK=>Ra λM aL m=>B6 λws tt Q g=>f_A λap aq=>?_;right;have R:BG s=ID s v m ws:=by
   unfold BG;rw[an,J,Q]
  have S:=tb.wf g;have T:=x.gv;rw[Q]at T;left;obtain⟨h,rfl,U⟩:=T;have X:=x.rv;rw[J]at X;obtain⟨t,rfl,Y⟩:=X;right;refine q_EA _ (Ac (An (i:=1) Dt.nd (BF (pvD 0) EE.cl_j0 EE.j23.m (C3 EE).g hr.d (C3 EE).b .nil Au (Aa (AR (pvD 0) rfl) (Aa (AR (pvD 0) rfl) Ad))))
   (Ac (An (i:=2) Dt.nd (AW (opD0 RD) (Av (lenD Aq) (by rfl) EE.len jO_ (Aa (AR (pvD 0) rfl) Ad)) (Av (lenD Aq) (by rfl) EE.len jO_ (Aa (Aj (ixLD Bo) (AR (pvD 0) rfl) Af) Ad))))
   (Ac (An (i:=3) Dt.nd (Ah (VM EE) hr.d Au (Aa (AR (pvD 0) rfl) (Aa (AR (pvD 0) rfl) (Aa (AR (pvD 0) rfl) (Aa (AR (pvD 0) rfl) (Aa (pvD 1) (Aa (pvD 2) Ad))))))))
   (Ac (Bb (ptT (Ay (opE EA) (Aj (ixTD Ap) (pvD 3) Af) A0 (AL _)))
   (Ae (Ao (pvD 3)))
   Az)
   (Ac (C8 (pvD 0) Ck rfl)
   (Ac (AN (DV jK_ jW_ jX_ BB (AR (pvD 0) rfl) (Aa (Aj (ixTD Ap) (pvD 3) Af) Ad)))
   (Ac (AN (A2 (pvD 0) EE.cl_j0 EE.j20.m (AZ EE).g hr.d (AZ EE).b .nil Au))
   (Ae (Ao Ck))))))))) ?_
  nofun;have ar:0<v.length:=by
   refine qZ λz=>aq ?_;have:v=[]:=ql_.mp z;subst this;obtain⟨y,as,Z⟩:=g.m 0 [] tb.w0;rw[ap]at Z;cases Z;show tt=m.getD 0 0;rw[jx_,as];rfl
  have aa:v.length<=600:=by
   have:=ok.lens;unfold Bd at F;lia
  refine AB _ _ x.ob (by kernel_rfl) (Ai _ _ _ x.ob EE.cl_j0 EE.n_Asker_guess (q_EA _ (L6 ..) (Ai _ _ _ x.ob EE.cl_j0 EE.n_Asker_wrong (DL _ (Ii ..) a (BX h t s.L m ws v (AF rfl U.house S (SqT.of Y) aa M λH1 A=>?_))))));have f:=x.same A;have ab:=Frm.of A a ad;have N:=AdOk.refl H ad;obtain⟨au,av,aw⟩:=f.eW.2 0 [] tb.e0;have ac:=A _ _ Y;refine Ai _ _ _ f.ob EE.cl_j0 EE.n_Asker_wrong (AH _ (Ii ..) t rfl _ (.inr (SqT.of ac)) (Ai _ _ _ f.ob EE.cl_j0 EE.n_Asker_ends (AH _ (Lc ..) ad.pe rfl _ (SqL.of f.e) (AH _ (GD (j:=0) av) au rfl _ (.inr (SqT.of aw)) (Ai _ _ _ f.ob EE.cl_j0 EE.n_Asker_book (q_EA _ (Gb ..) (Ai _ _ _ f.ob EE.cl_j0 EE.n_Asker_ways (q_EA _ (JG ..) (Ai _ _ _ f.ob EE.cl_j0 EE.n_Asker_guess (q_EA _ (L6 ..) (Ai _ _ _ f.ob EE.cl_j0 EE.n_Asker_wrong (DL _ (Ii ..) ad.b (BX ad.d ad.pw h t s.L s.es (BX zs s.W m ws v (Bf m (Ax ws v)) (AF (by simp) f.bk f.w f.wW (U.mono (TK.of A)).house S (AF ac M ar aa I.w.2 (λi _=>NZ tb g M i) λH2 C=>#[λc u p O P q=>?_,λhi u p O P q=>?_]))))))))))))))))
  ·have l:BG s=(s,some (.ask c)):=by
    rw[R];unfold ID;rw[O]
   refine Ar p rfl _ (SqT.of q) (A7 _ rfl rfl ?_);refine DZ rfl ?_;refine k ad H2 _ ?_ (ab.seq (Frm.of C a ad)) N ?_ ?_
   ·rw[l];exact AI _ _ _ _ _ (f.same C)
   ·rw[l];exact λz=>by cases z
   ·rw[l];intro y z;cases z;exact AB p u rfl q P
  ·have l:BG s=({s with wr:=none,E:=s.E++[v.drop hi],G:=Gu s.L s.W (s.E++[v.drop hi]) s.es},none):=by
    rw[R];unfold ID;rw[O]
   have r:=f.same C;have ax:=ab.seq (Frm.of C a ad);refine Ar p rfl _ (SqT.of q) (A7 _ rfl rfl ?_);refine Bw (λz=>absurd (V.str.inj z) (by decide +kernel)) ?_;refine BC _ _ _ r.ob (AK EE.cl_j0 EE.n_Asker_wrong (Ld ..) ?_);rw[MT];have n:=r.put (wv':=wv) (gv':=.ref h) (rv':=.non) (s':={s with wr:=none}) rfl rfl rfl rfl rfl rfl r.gv rfl;have ay:=ax.seq (r.putF (.ins ah ad.dx (afl wv s.L s.most ad.b ad.pw ad.pe ad.pg (.ref h) .non)));have ae:=r.tkob (.ins ah ad.dx (afl wv s.L s.most ad.b ad.pw ad.pe ad.pg (.ref h) .non));have az:=ae _ _ q;have aA:=ae _ _ P;have af:=n.putE (n.eW.snoc aA);have ag:=ay.seq (Frm.put (a:=a) (o:=.lst (ys++[.ref u])) (.inr (.inl rfl)) #[_,n.e]);obtain⟨aB,aM,_⟩:=(JE ok).1 _ l;have D:=aB.sz (B:=B) F;refine Ai _ _ _ n.ob EE.cl_j0 EE.n_Asker_ends (q_EA _ (Lc ..) (Dq (.inl #[rfl,_,SqL.of n.e]) p rfl (AH _ (SqT.of az) _ rfl ad.pe rfl (A7 _ n.e (by rw[n.eW.1];show s.E.length<_;lia) (AB _ _ af.ob (by kernel_rfl) (Bj a ad _ wv (AK rfl (AI _ _ _ _ _ af) #[D.l6,D.w,D.e,D.b] λaC aD aE aF aG=>?_)))))));refine k aC aD _ ?_ (ag.trans N aF) (AdOk.trans ag N aG) ?_ ?_
   ·rw[l];exact aE
   ·rw[l];exact λ_=>rfl
   ·rw[l];exact λy z=>by cases z
def Cb:⋯ EE.j36 11 ["self"] (O5 K ah ak (λ_=>True) BG):=by
 delta EE.j36 K0
 ·refine CW h λa ad s wv B w _=>?_;try clear h;subst w;rfl
 ·left;refine e_E h λa=>CY λad s wv B=>A5 λA C ok u _ k=>?_;try clear h;subst A;obtain⟨gv,rv,zs,ys,us,x⟩:=C
  right;have M:=Al;refine q_EA _ (Ac (Bb (ptT (Ay (opD0 Aq_) (Av (lenD Aq) (by rfl) EE.len jO_ (Aa (AR (pvD 0) rfl) Ad)) Af (AL _)))
   (Ae (Ao (BK (Aa A0 (Aa (DV jK_ tY tZ Wn (AR (pvD 0) rfl) (Aa Af Ad)) Ad)))))
   Az)
   (Ac (Bb (ptT (Ay YU (AR (pvD 0) rfl) Ck (AL _)))
   (Ae (Ao (A2 (pvD 0) EE.cl_j0 EE.j24.m (IE EE).g hr.d (IE EE).b .nil Au)))
   Az)
   (Ae (Ao (A2 (pvD 0) EE.cl_j0 EE.j35.m (Dc EE).g hr.d (Dc EE).b .nil Au))))) ?_
  nofun;refine Ai _ _ _ x.ob EE.cl_j0 EE.n_Asker_gaps (AH _ (VD ..) ad.pg rfl _ (.inl (SqL.of x.g)) ?_);cases e:s.G with
  |cons c r=>
   have N:us.length=r.length+1:=by rw[x.gW.1,e];rfl
   have l:=x.gW;rw[e]at l;obtain⟨tc,D,E⟩:=l.2 0 c rfl;rw[if_pos s!""];have n:BG s=({s with G:=r},some (.ask c)):=by
    unfold BG;rw[e]
   have F:=x.putG (Am.tail39 l);have I:Frm H (upd H ad.pg (.lst (us.eraseIdx 0))) a ad:=Frm.put (.inr (.inr (.inl rfl))) #[_,x.g];have J:=TK.lst x.g (o:=.lst (us.eraseIdx 0));refine Ai _ _ _ x.ob EE.cl_j0 EE.n_Asker_gaps (q_EA _ (VD ..) (Dq (.inl #[rfl,_,SqL.of x.g]) ad.pg rfl (OV _ x.g (by decide) (by decide) 0 (BW_ (i:=0) s!"") (A7 _ D s!"" λp q=>?_))));refine k ad _ _ ?_ (I.seq (Frm.of (Same.new q) a ad)) (AdOk.refl H ad) ?_ ?_
   ·rw[n];exact AI _ _ _ _ _ (F.same (Same.new q))
   ·rw[n];exact λz=>by cases z
   ·rw[n];intro y z;cases z;exact AB p tc rfl Ab (Same.new q _ _ (J _ _ E))
  |nil=>
   refine Bw (by rw[x.gW.1,e];simp) ?_;refine Ai _ _ _ x.ob EE.cl_j0 EE.n_Asker_wrong (q_EA _ (Ii ..) ?_);cases j:s.wr with
   |none=>
    have f:=x.rv;rw[j]at f;have f:rv=.non:=f;subst f;have L:BG s=DM s:=by
     unfold BG;rw[e,j]
    rw[L]at k;rw[if_neg (by simp)];exact AB _ _ x.ob (by kernel_rfl) (Bj a ad s wv (Dx B rfl (AI _ _ _ _ _ x) ok u #[e,j] k))
   |some v=>
    have f:=x.rv;rw[j]at f;left;obtain⟨t,rfl,O⟩:=f;right;rw[if_pos (by simp)];exact AB _ _ x.ob (by kernel_rfl) (Bj a ad s wv (Dx B rfl (AI _ _ _ _ _ x) ok u #[e,by rw[j];simp] k))
noncomputable def ZR (K:α3)(CA CB:Addr):Sp:=λd H Q _=>∃(a:Addr) (ad:AD) (s:AS) (wv:V) (B:Nat),d=[.ref a]/\Asks K CA CB H a ad s wv/\OkX none B s/\Bd B s/\∀b H' s' x c,Goes s s' x->Asks K CA CB H' a b s' c->Ce K H' s.L c x->Frm H H' a ad->AdOk H ad b->Q .non H'
def BQ:⋯ EE.j37 12 ["self"] (ZR K ah ak):=by
 delta EE.j37 Nm
 ·refine CW h λa ad s wv B ae _=>?_;try clear h;subst ae;rfl
 ·left;refine e_E h λa=>f_E λad=>BL λs wv B af ag ok W k=>?_;try clear h;subst af;obtain⟨gv,rv,zs,ys,us,x⟩:=ag
  right;have aL:=Al;refine q_EA _ (Ac (C8 (pvD 0) (A2 (pvD 0) EE.cl_j0 EE.j36.m (Cb EE).g hr.d (Cb EE).b .nil Au) rfl)
   (Ae (LU jR_ (ptT (Ay Mb (AR (pvD 0) rfl) Ck (AL _)))
   (Ae (C8 (pvD 0) (A2 (pvD 0) EE.cl_j0 EE.j36.m (Cb EE).g hr.d (Cb EE).b .nil Au) rfl))))) ?_
  nofun;obtain⟨F,J⟩:∃F:Nat->St->Hp->Prop,∀n N H',F n N H'↔(∃(i:AD) (c:AS) (o:V),Asks K ah ak H' a i c o/\Frm H H' a ad/\AdOk H ad i/\N=[some (.ref a)]/\((o=.non/\OkX none B c/\Kept s c/\(∀s' y,Goes c s' y->Goes s s' y)/\n=mu c+1) \/ ∃y,Ce K H' s.L o y/\Goes s c y/\n=0)):=#[_,λ_ _ _=>qk_];have step:∀(c:AS) (i:AD) (o:V) (H1:Hp) (M:Nat),Asks K ah ak H1 a i c o->Frm H H1 a ad->AdOk H ad i->OkX none B c->Kept s c->(∀s' y,Goes c s' y->Goes s s' y)->mu c<=M->∃x X,H1 a=some (HO.ins ah x X)/\oZ ("next_wish" : Str) X=none/\O5 K ah ak (λx=>True) BG [V.ref a] H1 (λy H1=>∃x Y O,H1 a=some (HO.ins x Y O)/\Cls K x/\Cy K x ("wish" : Str)/\O.length<1000/\∃p,p<M+1/\F p [some (V.ref a)] (upd H1 a (HO.ins x Y (putF ("wish" : Str) y O)))) E0:=by
   rintro c i o H1 M ⟨gv,rv,zs,ys,us,w⟩ A C G q D aM;refine AB _ _ w.ob (by kernel_rfl) (Bj a i c o (Dx B rfl (AI _ _ _ _ _ w) G (by unfold Bd at W ⊢;rw[q.m];exact W) trivial λf H2 r j P I Q R=>?_));left;obtain⟨S,T,aN,aO,aP,j⟩:=j;right;refine BC _ _ _ j.ob (AK EE.cl_j0 EE.n_Asker_wish (Ld ..) ?_);rw[Si];have Z:=j.put (wv':=r) (gv':=S) (rv':=T) (s':=(BG c).1) rfl rfl rfl rfl rfl rfl j.gv j.rv;have aa:=(A.trans C P).trans (AdOk.trans A C I) (j.putF (.ins ah f.dx (afl r (BG c).1.L (BG c).1.most f.b f.pw f.pe f.pg S T)));have ai:=j.tkob (.ins ah f.dx (afl r (BG c).1.L (BG c).1.most f.b f.pw f.pe f.pg S T));have ab:=AdOk.trans A C I;cases v:(BG c).2 with
   |none=>
    have E:BG c=((BG c).1,none):=by rw[<-v]
    obtain⟨aj,U,aQ⟩:=(JE G).1 _ E;refine q_EA (mu (BG c).1+1) s!"" ((J _ _ _).mpr (BC f _ r (AI _ _ _ _ _ Z) (AK aa ab rfl (.inl (q_AA (Q v) aj (q_AA #[U.l.trans q.l,U.m.trans q.m,U.e.trans q.e] (λs' y al=>D s' y (.more E al)) rfl))))))
   |some y=>
    have E:BG c=((BG c).1,some y):=by rw[<-v]
    have hw:=(R y v).mono ai;rw[q.l]at hw;exact q_EA 0 s!"" ((J _ _ _).mpr (BC f _ r (AI _ _ _ _ _ Z) (AK aa ab rfl (.inr (A7 y hw (D _ _ (.stop E)) rfl)))))
  left;refine AJ (step s ad wv H (mu s+1) (AI _ _ _ _ _ x) (Frm.of (Same.refl _) a ad) (AdOk.refl H ad) ok #[rfl,rfl,rfl] (λ_ _ z=>z) s!"") λam an ao ap ac=>?_;right;refine AB am an ao ap ?_;left;refine e_E ac λaq=>CY λar s' wv' as=>A5 λE au av aw ax ay=>?_;try clear ac
  right;refine Bj aq ar s' wv' (Dx as E au av aw ax λf H2 r j P I Q R=>?_);left;refine Ej (ay f H2 r j P I Q R) λaz aA aB aC aD aE aF=>f_E λp=>f_A λ_ aG=>?_;right;refine BC az aA aB aC (AK aD aE aF (RQ F #[p,aG] λn N H' h'=>?_));left;refine Ej ((J _ _ _).mp h') λi c o aH A C aI aJ=>?_;obtain⟨gv,rv,zs,ys,us,w⟩:=aH;subst aI;right;nofun;refine Ai _ _ _ w.ob EE.cl_j0 EE.n_Asker_wish (q_EA _ (JF ..) ?_);rcases aJ with ⟨rfl,G,q,D,v⟩|⟨y,hw,D,v⟩
  ·refine DZ rfl ?_;refine q_EA (λaK H2=>∃p,p<n/\F p aK H2) (λ_ _ z=>z) ?_;subst v;exact step c i _ H' (mu c) (AI _ _ _ _ _ w) A C G q D s!""
  ·left;refine e_E (id hw) λt=>f_E λu=>f_A λe _=>?_;right;refine Bw (by rw[e];simp) ?_;exact k i _ c y o D (AI _ _ _ _ _ w) hw A C
def YK (K:α3)(CA CB:Addr)(H:Hp)(a:Addr)(ad:AD)(s:AS)(Q:VK):Prop:=∀b H' s' c d,Goes s s' c->Asks K CA CB H' a b s' d->Ce K H' s.L d c->Frm H H' a ad->AdOk H ad b->Q .non H'
noncomputable def Rr (K:α3)(CA CB b d:Addr):Sp:=λe H Q E=>∃(a:Addr) (ad:AD) (s:AS) (wv:V) (x:Wish) (B:Nat) (m:Int),e=[.ref a,.int m]/\Asks K CA CB H a ad s wv/\Ce K H s.L wv x/\WOk B s x/\Bd B s/\s.es.length<=100000/\(x.tag ≠ "ask" -> E (.ref b) none H)/\∀c,x=.ask c->(¬ (0<=m/\m<=1000000000)->∀H',Same H H'->E (.ref d) none H')/\(0<=m->m<=1000000000->YK K CA CB H a ad {s with es:=s.es++[(c,m)]} Q)
def Ep:CalH P w mg base (CXe P w) EE.j72 13 ["self","number"] (Rr K ah ak aW aQ):=by
 refine HG.okE EE.j72 Jw (λI H Q E h=>?_) (λap A outer s H I Q E e h=>?_)
 ·refine AQ h λa ad s wv x B m J _=>?_;try clear h;subst J;rfl
 ·left;refine AQ h λa ad s wv y B m M=>f_A λN=>A5 λhw ok o O R k=>?_;try clear h;subst M;obtain⟨gv,rv,zs,ys,us,x⟩:=N
  right;have aq:=Al;refine q_EA _ (Ac (AN (BF (pvD 0) EE.cl_j0 EE.j67.m (Ba EE).g e.d (Ba EE).b .nil (JN λ_ _ _ h=>h) (Aa A0 Ad)))
   (Ac (AN (BF (AR (pvD 0) rfl) EE.cl_j1 EE.j71.m (F8 EE).g e.d (F8 EE).b .nil (JN λ_ _ _ h=>h) (Aa (Aj (ixTD Ap) (AR (pvD 0) rfl) Af) (Aa (pvD 1) Ad))))
   (Ae (AN (A2 (pvD 0) EE.cl_j0 EE.j37.m (BQ EE).g e.d (BQ EE).b .nil Au))))) ?_
  nofun;refine AB _ _ x.ob (by kernel_rfl) (Bj a ad s wv (AO y "ask" rfl (AI _ _ _ _ _ x) hw (λf=>?_) R));cases y with
  |shown S ws=>exact absurd f (show ¬ ("show" : Str) = "ask" by decide +kernel)
  |done S ws=>exact absurd f (show ¬ ("done" : Str) = "ask" by decide +kernel)
  |spent c=>exact absurd f (show ¬ ("spent" : Str) = "ask" by decide +kernel)
  |ask c=>
   left;refine AJ hw λt u T U V=>?_;try clear hw;subst T
   obtain⟨W,X⟩:=k c rfl;refine e_A ok λp=>f_A λY=>f_A λq=>f_A λr Z=>?_;try clear ok
   obtain⟨ar,i⟩:=x.bk.ob;right;have j:c∉s.es.map (·.1):=λz=>by
    obtain⟨n,v⟩:=O4.mp z;rw[Y]at v;cases v
   have aa:c.length<=900:=by
    have h1:=p.lens;unfold Bd at o;split at r<;>lia
   refine Ai _ _ _ x.ob EE.cl_j0 EE.n_Asker_book (q_EA _ (Gb ..) (BH ad.b rfl _ _ i (CJ _ _ (by decide +kernel) (by decide +kernel)) (Ai _ _ _ x.ob EE.cl_j0 EE.n_Asker_wish (AH _ (JF ..) t rfl _ (SqT.of U) (DL _ rfl ad.b (AI ad.d u s.L m c (Dx s.es rfl x.bk V aa O (AK (λz=>(by rw[q]at z;cases z)) (λ_ hm H' s'=>W hm H' s') (λ_ _ _ n ab _ _ _=>absurd (jp_.mpr (q_EA _ ab rfl)) j) λ_ C D _ H' l ac=>?_))))))));unfold putE at l;rw[if_neg j]at l;obtain⟨F,G,as⟩:=x.putB l ac;exact AB _ _ F.ob (by kernel_rfl) (CU a ad _ _ B rfl (AK (AI _ _ _ _ _ F) (p.told (λb i=>(jD_ i).symm) j q C D r Z) o λae af s' ag ai aj al am an ao=>X C D ae af s' ag ai aj al am (G.trans (AdOk.refl H ad) an) (AdOk.trans G (AdOk.refl H ad) ao)))
noncomputable def Xn (K:α3)(CA CB d:Addr):Sp:=λe H Q E=>∃(a:Addr) (ad:AD) (s:AS) (wv:V) (x:Wish),e=[.ref a]/\Asks K CA CB H a ad s wv/\Ce K H s.L wv x/\(x.tag ≠ "show" -> E (.ref d) none H)/\∀b ws,x=.shown b ws->∀H' c,Asks K CA CB H' a ad s c->Ce K H' s.L c (.done b ws)->Frm H H' a ad->Q .non H'
def J7:CalH P w mg base (CXe P w) EE.j68 2 ["self"] (Xn K ah ak aW):=by
 refine HG.okE EE.j68 OO (λn H Q E h=>?_) (λI A outer s H n Q E q h=>?_)
 ·refine CW h λa ad s wv x r _=>?_;try clear h;subst r;rfl
 ·left;refine e_E h λa=>f_E λad=>BL λs wv y v z hw B k=>?_;try clear h;subst v;obtain⟨gv,rv,zs,ys,us,x⟩:=z
  right;have J:=Al;refine q_EA _ (Ac (AN (BF (pvD 0) EE.cl_j0 EE.j67.m (Ba EE).g q.d (Ba EE).b .nil (JN λ_ _ _ h=>h) (Aa A0 Ad)))
   (Ae (C8 (pvD 0) (BK (Aa A0 (Aa (Aj (ixTD Ap) (AR (pvD 0) rfl) Af) Ad))) rfl))) ?_
  nofun;refine AB _ _ x.ob (by kernel_rfl) (Bj a ad s wv (AO y "show" rfl (AI _ _ _ _ _ x) hw (λf=>?_) B));cases y with
  |ask c=>exact absurd f (show ¬ ("ask" : Str) = "show" by decide +kernel)
  |done j ws=>exact absurd f (show ¬ ("done" : Str) = "show" by decide +kernel)
  |spent c=>exact absurd f (show ¬ ("spent" : Str) = "show" by decide +kernel)
  |shown j ws=>
   left;refine AJ hw λt u C D F=>?_;try clear hw;subst C
   right;refine Ai _ _ _ x.ob EE.cl_j0 EE.n_Asker_wish (AH _ (JF ..) t rfl _ (SqT.of D) (A7 _ rfl s!"" λp i=>?_));have e:=x.same (Same.new i (o:=.tup [.str "done",.ref u]));refine BC _ _ _ e.ob (AK EE.cl_j0 EE.n_Asker_wish (Ld ..) ?_);rw[Si];have G:=e.put (wv':=.ref p) (gv':=gv) (rv':=rv) (s':=s) rfl rfl rfl rfl rfl rfl e.gv e.rv;have l:=e.tkob (.ins ah ad.dx (afl (.ref p) s.L s.most ad.b ad.pw ad.pe ad.pg gv rv));exact k j ws rfl _ _ (AI _ _ _ _ _ G) (AB p u rfl (l _ _ Ab) (HouT.mono F (TK.trans (TK.new i) l))) ((Frm.of (Same.new i) a ad).seq (e.putF _))
noncomputable def YL (K:α3)(CA CB c d e f g:Addr):Sp:=λh H Q E=>∃(a t:Addr) (ad:AD) (s:AS) (wv:V) (x:Wish) (B:Nat) (w:α2) (m:Int),h=[.ref a,.ref t,.int m]/\Asks K CA CB H a ad s wv/\Ce K H s.L wv x/\WOk B s x/\Bd B s/\s.es.length<=100000/\H t=some (.tup (w.map V.int))/\w.length<=600/\(x.tag ≠ "show" -> E (.ref c) none H)/\∀b ws,x=.shown b ws->(isW s.L w=false->∀H',Same H H'->E (.ref d) none H')/\(isW s.L w=true->¬ (0<=m/\m<=1000000000)->∀H',Same H H'->E (.ref e) none H')/\(isW s.L w=true->0<=m->m<=1000000000->(Bf b (Ax ws w)=m->∀H',Same H H'->E (.ref f) none H')/\(Bf b (Ax ws w)≠m->w∈s.es.map (·.1)->∀H',Same H H'->E (.ref g) none H')/\(Bf b (Ax ws w)≠m->w∉s.es.map (·.1)->w.length<=B+(s.most+1)*s.E.length/\YK K CA CB H a ad {s with es:=s.es++[(w,m)]} Q))
def Dd:CalH P w mg base (CXe P w) EE.j74 13 ["self","word","number"] (YL K ah ak aW aP aQ bE bu):=by
 refine HG.okE EE.j74 Gz (λW H Q E h=>?_) (λaL A outer s H W Q E j h=>?_)
 ·refine AX h λa t ad s=>CZ λwv x B e m X _=>?_;try clear h;subst X;rfl
 ·left;refine AX h λa t ad s=>CZ λwv y B e m Y=>Bt λZ hw ok aa ab v ac ae k=>?_;try clear h;subst Y;obtain⟨gv,rv,zs,ys,us,x⟩:=Z
  right;have aM:=Al;refine q_EA _ (Ac (AN (BF (pvD 0) EE.cl_j0 EE.j67.m (Ba EE).g j.d (Ba EE).b .nil (JN λ_ _ _ h=>h) (Aa A0 Ad)))
   (Ac (AN (BF (AR (pvD 0) rfl) EE.cl_j1 EE.j70.m (D0 EE).g j.d (D0 EE).b .nil (JN λ_ _ _ h=>h) (Aa (pvD 1) (Aa (pvD 2) Ad))))
   (Ac (Bb (ptT (Ay (opE EA) (BF (pvD 0) EE.cl_j0 EE.j23.m (C3 EE).g j.d (C3 EE).b .nil Au (Aa (Aj (ixTD Ap) (AR (pvD 0) rfl) Af) (Aa (pvD 1) Ad))) (pvD 2) (AL _)))
   (Ae (EC EE.m_j3 EE.x_j3 rfl rfl (Aa A0 Ad)))
   Az)
   (Ac (AN (BF (AR (pvD 0) rfl) EE.cl_j1 EE.j71.m (F8 EE).g j.d (F8 EE).b .nil (JN λ_ _ _ h=>h) (Aa (pvD 1) (Aa (pvD 2) Ad))))
   (Ae (AN (A2 (pvD 0) EE.cl_j0 EE.j37.m (BQ EE).g j.d (BQ EE).b .nil Au))))))) ?_
  nofun;refine AB _ _ x.ob (by kernel_rfl) (Bj a ad s wv (AO y "show" rfl (AI _ _ _ _ _ x) hw (λC=>?_) ae));cases y with
  |ask c=>exact absurd C (show ¬ ("ask" : Str) = "show" by decide +kernel)
  |done l ws=>exact absurd C (show ¬ ("done" : Str) = "show" by decide +kernel)
  |spent c=>exact absurd C (show ¬ ("spent" : Str) = "show" by decide +kernel)
  |shown l ws=>
   left;refine AJ hw λaf u ag ai aj=>?_;try clear hw;subst ag
   obtain⟨al,am,an⟩:=k l ws rfl;refine B5 ok λO ao aN aO g ap=>?_;try clear ok
   obtain⟨aR,o⟩:=x.bk.ob;right;have aq:=O.tb.wf g;refine Ai _ _ _ x.ob EE.cl_j0 EE.n_Asker_book (q_EA _ (Gb ..) (BH ad.b rfl _ _ o (CJ _ _ (by decide +kernel) (by decide +kernel)) (Bj ad.b ad.d t s.L (Ai m e s.es rfl x.bk v (AK s!"" al am λq D F H1 f=>?_)))));obtain⟨ar,as,au⟩:=an q D F;have G:=x.same f;have av:=f _ _ v;refine AB _ _ G.ob (by kernel_rfl) (Ai _ _ _ G.ob EE.cl_j0 EE.n_Asker_wish (AH _ (JF ..) af rfl _ (SqT.of (f _ _ ai)) (DL _ rfl a (BX u t s.L l ws e (AF rfl (HouT.house (HouT.mono aj (TK.of f))) aq (SqT.of av) ac q λH2 I=>#[rfl,?_])))));by_cases i:Bf l (Ax ws e)=m
   ·refine DZ (by rw[i]) ?_;exact#[by lia,ar i _ (f.trans I)]
   ·refine Bw (λz=>i (V.int.inj z)) ?_;have J:=G.same I;have r:=f.trans I;refine Ai _ _ _ J.ob EE.cl_j0 EE.n_Asker_book (q_EA _ (Gb ..) (BH ad.b rfl _ _ (r _ _ o) (CJ _ _ (by decide +kernel) (by decide +kernel)) (BX ad.b ad.d t s.L m e (Dx s.es rfl J.bk (r _ _ v) s!"" ab (AK (λz=>(by rw[q]at z;cases z)) (λ_ z=>absurd #[D,F] z) (λ_ _ _ n aw _ R ax=>as i (jp_.mpr (q_EA _ aw rfl)) R (r.trans ax)) λ_ _ _ ay R M az=>?_)))));have N:e∉s.es.map (·.1):=λz=>by
     left;obtain⟨p,S,rfl⟩:=jp_.mp z;right;have h1:=ay p.2 S;exact i ((ap p S).trans h1)
    unfold putE at M;rw[if_neg N]at M;left;obtain⟨aS,aA⟩:=au i N;obtain⟨T,aB,aT⟩:=J.putB M az;right;have U:=(Frm.of r a ad).seq aB;exact AB _ _ T.ob (by kernel_rfl) (CU a ad _ _ B rfl (AK (AI _ _ _ _ _ T) (O.told (λb o=>(by cases o)) N q D F s!"" (by rw[ao];simp)) aa λaC aD s' aE aF aG aH aI aJ aK=>aA aC aD s' aE aF aG aH aI (U.trans (AdOk.refl H ad) aJ) (AdOk.trans U (AdOk.refl H ad) aK)))
def J8:CalH P w mg base (CXe P w) EE.j73 14 ["self","mark"] (Rr K ah ak aW aQ):=by
 refine HG.okE EE.j73 OR (λc H Q E h=>?_) (λp A outer s H c Q E e h=>?_)
 ·refine AQ h λa ad s wv x B m f _=>?_;try clear h;subst f;rfl
 ·left;refine AQ h λa ad s wv y B m i=>f_A λj=>A5 λhw ok l n o k=>?_;try clear h;subst i;obtain⟨gv,rv,zs,ys,us,x⟩:=j
  right;have q:=Al;refine q_EA _ (Ae (AN (BF (pvD 0) EE.cl_j0 EE.j72.m (Ep EE).g e.d (Ep EE).b .nil (JN λ_ _ _ h=>h) (Aa (pvD 1) Ad)))) ?_;nofun;exact AB _ _ x.ob (by kernel_rfl) (AI a ad s wv y (AO B m rfl (AI _ _ _ _ _ x) hw ok (AK l n o k)))
def Hn:CalH P w mg base (CXe P w) EE.j75 14 ["self","word","mark"] (YL K ah ak aW aP aQ bE bu):=by
 refine HG.okE EE.j75 MA (λe H Q E h=>?_) (λu A outer s H e Q E f h=>?_)
 ·refine AX h λa t ad s=>CZ λwv x B c m i _=>?_;try clear h;subst i;rfl
 ·left;refine AX h λa t ad s=>CZ λwv y B c m j=>Bt λl hw ok n o p q r k=>?_;try clear h;subst j;obtain⟨gv,rv,zs,ys,us,x⟩:=l
  right;have v:=Al;refine q_EA _ (Ae (AN (BF (pvD 0) EE.cl_j0 EE.j74.m (Dd EE).g f.d (Dd EE).b .nil (JN λ_ _ _ h=>h) (Aa (pvD 1) (Aa (pvD 2) Ad))))) ?_;nofun;exact AB _ _ x.ob (by kernel_rfl) (BX a t ad s wv y (Ai B c m rfl (AI _ _ _ _ _ x) hw (AF ok n o p q r k)))
noncomputable def Xo (K:α3)(CA CB:Addr):Sp:=λb H Q _=>∃(a dx:Addr) (L most:Nat),b=[.ref a,.int L,.int most]/\H a=some (.ins CA dx [])/\1<=L/\L<=6/\1<=most/\most<=12/\∀ad H' s x wv,Goes (s039 L most) s x->Asks K CA CB H' a ad s wv->Ce K H' L wv x->(∀y o,H y=some o->y≠a->H' y=some o)->(∀y,H' y=none->H y=none)->(H ad.d=none/\H ad.pw=none/\H ad.pe=none/\H ad.pg=none)->Q .non H'
def J9:⋯ EE.j41 13 ["self","letters","most"] (Xo K ah ak):=by
 delta EE.j41 OK
 ·refine AX h λa dx L most=>f_A λae _=>?_;try clear h;subst ae;rfl
 ·left;refine AX h λa dx L most=>f_A λaf=>A5 λl ag ai aj al k=>?_;try clear h;subst af
  right;have aJ:=Al;refine q_EA _ (Ac (AN (Bj_ rfl EE.m_jc EE.j39.m (Lw EE).g hr.d (Lw EE).b .nil Au (Aa (pvD 0) (Aa (pvD 1) (Aa (pvD 2) (Aa (Ue EE.j12.m (Lu EE).g hr.d rfl EE.m_j1 (Lu EE).b .nil Au (Aa (pvD 1) Ad)) (Aa (Co (Aa (BK Ad) Ad)) (Aa (BF (pvD 0) EE.cl_j0 EE.j40.m (El EE).g hr.d (El EE).b .nil Au (Aa (pvD 1) Ad)) Ad))))))))
   (Ac (AN (A2 (pvD 0) EE.cl_j0 EE.j20.m (AZ EE).g hr.d (AZ EE).b .nil Au))
   (Ae (AN (A2 (pvD 0) EE.cl_j0 EE.j37.m (BQ EE).g hr.d (BQ EE).b .nil Au))))) ?_
  nofun;intro b D u P aK;have am:a≠b:=λz=>by rw[<-z,l]at u;cases u
  refine#[b,AB D L rfl Ab λd H2 Q an ao=>q_AA rfl s!"" λp R=>#[by lia,λpw E=>?_]];have j:Same H H2:=λy o f=>by
   have v:y≠b:=λz=>by rw[z,u]at f;cases f
   have F:y≠D:=λz=>by rw[z,P]at f;cases f
   exact ao y o (by rw[Ak v,Ak F];exact f) v
  have I:H d=none:=by
   cases h:H d with
   |none=>rfl
   |some o=>
    have v:d≠b:=λz=>by rw[z,u]at h;cases h
    have F:d≠D:=λz=>by rw[z,P]at h;cases h
    rw[Ak v,Ak F,h]at Q;cases Q
  have sp:=Same.new (o:=.tup []) R;have n:=sp.trans (Same.new (o:=.lst [.ref p]) E);have S:=(Same.new (o:=.lst [.ref p]) E) _ _ (show upd H2 p (.tup []) p=some (.tup []) from Ab);have x:upd (upd H2 p (.tup [])) pw (.lst [.ref p]) pw=some (.lst [.ref p]):=Ab;generalize upd (upd H2 p (.tup [])) pw (.lst [.ref p])=aL at n S x ⊢;have J:H pw=none:=j.none (sp.none E);refine AB _ _ (n _ _ (j _ _ l)) (by kernel_rfl) #[a,q_EA L rfl λpe te aM q M T N=>?_];refine BX a dx b pw pe L (A7 most rfl (q _ _ (n _ _ (j _ _ l))) λpg ap r aq ar i U=>?_);have V:=n.trans q;have s:=j.trans V;have as:=an.mono V;have A:∀y,H y=none->y≠a:=λy f z=>by rw[z,l]at f;cases f
  have O:H pe=none:=j.none (n.none M);have W:H pg=none:=s.none r;have au:=q _ _ S;have av:H p=none:=j.none R;have aw:te≠a:=λz=>by
   have:=s _ _ l;rw[z,this]at N;cases N
  have X:AskAt K ah ak ap a #[dx,b,d,pw,pe,pg] {s039 L most with G:=[]} .non .non .non [.ref p] [.ref te] []:=
   #[aq,BookAt.tk as (λo h=>i _ _ h (qs_ am)) (λo h=>i _ _ h (A _ I)),i _ _ (q _ _ x) (A _ J),Am.nil.snoc (w:=[]) (i _ _ au (A _ av)),i _ _ T (A _ O),Am.nil.snoc (w:=[]) (i _ _ N aw),ar,Am.nil,λz=>(by rw[show pe=pw from z.symm,x]at M;cases M),λz=>(by rw[show pg=pw from z.symm,q _ _ x]at r;cases r),λz=>(by rw[show pg=pe from z.symm,T]at r;cases r),rfl,rfl]
  have aN:(most+1)*(most+1)<=13*13:=qn_ s!"" s!"";have Y:Bd 0 (s039 L most):=by
   show 0+(most+1)*(most+1)+most<=500;lia
  have ok:=VG 0 ag ai aj al;have B:=ok.sz Y;refine AB _ _ X.ob (by kernel_rfl) (Bj a _ _ (.non) (AK rfl (AI _ _ _ _ _ X) #[B.l6,B.w,B.e,B.b] λax aO C Z aa=>?_));left;obtain⟨aP,aQ,aR,aS,aT,C⟩:=C;right;refine AB _ _ C.ob (by kernel_rfl) (CU a ax (s039 L most) (.non) 0 rfl (AK (AI _ _ _ _ _ C) ok Y λay ab s' y az aA aB aC aD aE=>?_));have ac:=Z.trans aa aD;left;refine B5 (AdOk.trans Z aa aE) λaU aV aF aG aH t=>?_;right;have aI:∀y,ab y=none->H y=none:=λy f=>s.none (U y (ac.2 y f));refine k ay ab s' y az aA aB aC (λz o c ad=>?_) aI (AK (by rw[aF];exact I) (by rw[aG];exact J) (by rw[aH];exact O) ?_)
  ·exact ac.1 z o (i _ _ (s _ _ c) ad) ad (λe=>by rw[e]at c;rw[show H d=none from I]at c;cases c) (λe=>by rw[e]at c;rw[show H pw=none from J]at c;cases c) (λe=>by rw[e]at c;rw[show H pe=none from O]at c;cases c) (λe=>by rw[e]at c;rw[show H pg=none from W]at c;cases c)
  ·rcases t with t|t
   ·rw[t];exact W
   ·exact s.none (U _ t)
def Rt {l k:α1}(h:l.Nodup)(hs:∀x∈l,x∈k):l.length<=k.length:=by
 induction l generalizing k with
 |nil=>simp
 |cons a l d=>
  rw[qb_]at h;have b:=hs a jt_;have h1:∀x∈l,x∈k.erase a:=λx c=>by
   refine (x5_ ?_).mpr (hs x (jo_ _ c));intro z;subst z;exact h.1 c
  have:=d h.2 h1;rw[q3_ b]at this;have e:=qU_ b;rw[jG_];lia
noncomputable def Cu (s:AS):α1:=Ed (AU s.L s.W) s.E
noncomputable def nonC (s:AS):Nat:=s.es.countP λp=>decide (p.1∉Cu s)
def JX42 (s:AS):Wish->Prop
 |.ask c=>(s.wr=none->c∈Cu s)/\∀v m ws,s.wr=some v->s.gs=some (m,ws)->E2 s.es s.W ws v (Bf m (Ax ws v)) v.length 0 v.length=.ask c
 |.shown m ws=>C1 s.L s.W s.E s.es=none/\m=BE s.W s.es/\ws=DC s.L s.W s.E s.es
 |_=>True
def Qt (a:s'.es=s.es)(hc:∀c∈Cu s,c∈Cu s'):nonC s'<=nonC s:=by
 unfold nonC;rw[a];refine List.countP_mono_left λp _ h=>?_;simp only[j6_]at h ⊢;exact λz=>h (hc _ z)
def Le (h:c∈Gu L W E es):c∈Ed (AU L W) E:=(qO_.mp h).1
def Ru (h:v∈AU L W):v∈AU L (W++[r]):=by
 rcases AG.mp h with h|⟨a,b,y,c,e⟩
 ·exact AG.mpr (.inl (jY_ _ h))
 ·exact AG.mpr (.inr (Ar a (jY_ _ b) y c e))
def O6 (f:Full L W E es)(g:Grow es es') (a:r∈AU L W):gOf E es' r=gOf E es r:=by
 unfold gOf;refine jI_ λe b=>?_;obtain⟨m,hm⟩:=f (r++e) (A3.mpr (Ar r a e b rfl));rw[hm,g _ _ hm]
def BZ_ {L:Int}{af:α2}{ways:α1}(a:Wf L af ways){w:α2}(hw:isW L w=true):0<=Ax ways w/\Ax ways w<af.length:=by
 have:=a.walk hw w.length
 rwa [jz_]at this
def N0 (ways:α1)(u e:α2):Ax ways (u++e)=BY ways (Ax ways u) e:=by
 rw[<-CD,P8,CD]
def Qu (es:Bk)(hm:α2)(hw:α1):Prop:=∀p∈es,Bf hm (Ax hw p.1)=p.2
def EqD.all43 {K:α3} (b:(SqL K H a xs/\SqL K H c ys)\/(SqT K H a xs/\SqT K H c ys))(d:xs.length=ys.length)(h:∀(i:Nat) (x y:V),xs[i]?=some x->ys[i]?=some y->EqD K H n x y true):EqD K H (n+1) (.ref a) (.ref c) true:=
 .inr (AY a c xs ys rfl rfl (Dq b (λ_=>true) h (by simp[d])))
def EqD.int43 {K:α3} (n:Nat)(i:Int):EqD K H n (.int i) (.int i) true:=by
 cases n with
 |zero=>exact q_AA rfl rfl (by simp[eqV])
 |succ n=>exact .inl (q_AA rfl rfl (by simp[eqV]))
def EqD.word43 {K:α3}{H:Hp}(n:Nat){a b:Addr}{w:α2}(h:SqT K H a (w.map V.int))(g:SqT K H b (w.map V.int)):EqD K H (n+1) (.ref a) (.ref b) true:=by
 have:=EqD.ints (K:=K) (H:=H) (a:=a) (c:=b) (xs:=w) (ys:=w) (.inr #[h,g]) n;rw[jH_ rfl]at this;exact this
def Cr_ {α:Type}{P:Nat->α->α->Prop}{a b c d:α}(g:P 0 a c)(h1:P 1 b d):∀i x y,[a,b][i]?=some x->[c,d][i]?=some y->P i x y:=by
 intro i x y e f
 match i with
 |0=>simp at e f;subst e f;exact g
 |1=>simp at e f;subst e f;exact h1
 |i+2=>simp at e
def ZS (K:α3)(H:Hp)(a:Addr)(L:Int)(acc b:α1)(es:Bk):Prop:=∃(ta te th:Addr) (o:Obj) (xs ys rs:List V),H a=some (.tup [.int L,.ref ta,.ref te,.ref th])/\SqT K H ta xs/\Am K H xs acc/\SqT K H te ys/\Am K H ys b/\H th=some (.frz o (.tup rs))/\o.dict=none/\Ek H rs es
def Ek.prs51 (h:Ek H rs es):∃ts:List Addr,rs=ts.map V.ref/\PrsAt H ts (ents es):=by
 refine A7 (rs.map (λv=>match v with | .ref t=>t|_=>0)) ?_ ?_ λj p q a f=>?_
 ·rw[jJ_];refine (qH_ λi=>?_);rw[jh_];by_cases hi:i<es.length
  ·refine e_E (h.2 i es[i] (by simp[hi])) λt=>f_E λb=>f_A λc _=>?_;rw[c];rfl
  ·rw[j5_ (by rw[h.1];lia)];rfl
 ·unfold ents;rw[rT,rT,h.1]
 ·unfold ents at a;rw[jh_]at a;cases d:es[j]? with
  |none=>rw[d]at a;cases a
  |some e=>
   rw[d]at a;cases a;refine AJ (h.2 j e d) λt b c g k=>?_;rw[jh_,c]at f;cases f;exact q_EA b (.inl g) (by show H b=some (.tup ((wkey e.1).map kV));rw[Bq];exact k)
def ZS.ppr {K:α3} {acc b:α1} (h:ZS K H a L acc b es):∃xs ys,Ppr K H a L xs ys acc b es:=by
 refine AQ h λta te th o xs ys rs h1=>f_A λh2=>A5 λc d e f g i=>?_;try clear h
 obtain⟨ts,rfl,j⟩:=i.prs51;exact AI xs ys ta te th (AO o ts (SqT.of h1) h2 c d (AK e f g j))
def Asks.same {K:α3} {ad:AD} {wv:V}(x:Asks K CA CB H a ad s wv)(e:Same H H'):Asks K CA CB H' a ad s wv:=by
 obtain⟨gv,rv,zs,ys,us,x⟩:=x;exact AI _ _ _ _ _ (x.same e)
noncomputable def accX (s:AS):Wish->α1
 |.spent c=>s.W++[c]
 |_=>s.W
noncomputable def Ca_ (K:α3)(CA CB:Addr):Sp:=λb H Q _=>∃(a:Addr) (ad:AD) (s:AS) (wv:V) (x:Wish),b=[.ref a]/\Asks K CA CB H a ad s wv/\Ce K H s.L wv x/\s.W.length<=100/\∀t xs H',Same H H'->H' t=some (.tup xs)->Am K H' xs (accX s x)->Q (.ref t) H'
def Ka:⋯ EE.j2 2 ["asker"] (Ca_ K ah ak):=by
 delta EE.j2 CK
 ·refine CW h λa ad s wv x A _=>?_;try clear h;subst A;rfl
 ·left;refine e_E h λa=>f_E λad=>BL λs wv y B S hw L k=>?_;try clear h;subst B
  refine e_E (id S) λM=>CY λN O P Q C=>?_;right;have p:=C.ob;have R:=Al;refine q_EA _ (Ac (An (i:=1) CK.nd (A2 (pvD 0) EE.cl_j0 EE.j1.m (Dy EE).g hr.d (Dy EE).b .nil Au))
   (Ac (An (i:=2) CK.nd (A2 (pvD 0) EE.cl_j0 EE.j0.m (BP EE).g hr.d (BP EE).b .nil Au))
   (QR (Bb (ptT (Ay (opE EA) (Aj (ixTD Ap) (pvD 2) Af) A0 (AL _)))
   (Ae (AN (DV jK_ jW_ jX_ BB (pvD 1) (Aa (Aj (ixTD Ap) (pvD 2) Af) Ad))))
   Az)
   (Ae (Ao (AA AM rfl EE.tuple jE_ (Aa (pvD 1) Ad))))))) ?_
  nofun;refine AB _ _ p (by kernel_rfl) (AY a ad s wv rfl S λn xs H1 f D h1 j=>?_);refine AB _ _ (f _ _ p) (by kernel_rfl) (AY a ad s wv rfl (S.same f) ?_);left;refine AJ (id hw) λt u E e o=>?_;subst E;right;nofun;refine q_EA (λq H'=>∃l,q=[some (.ref a),some (.ref n),some (.ref t)]/\Same H H'/\H' n=some (.lst l)/\Am K H' l (accX s y)) ?_ λq H' r=>?_
  ·cases y with
   |ask c=>
    have e:H t=some (.tup [.str ("ask" : Str),.ref u]):=e;nofun;refine q_EA _ (SqT.of (f _ _ e)) (A7 _ rfl rfl ?_);refine Bw (λz=>absurd (V.str.inj z) (by decide +kernel)) ?_;exact Dq f _ h1 j
   |shown m ws=>
    have e:H t=some (.tup [.str ("show" : Str),.ref u]):=e;nofun;refine q_EA _ (SqT.of (f _ _ e)) (A7 _ rfl rfl ?_);refine Bw (λz=>absurd (V.str.inj z) (by decide +kernel)) ?_;exact Dq f _ h1 j
   |done m ws=>
    have e:H t=some (.tup [.str ("done" : Str),.ref u]):=e;nofun;refine q_EA _ (SqT.of (f _ _ e)) (A7 _ rfl rfl ?_);refine Bw (λz=>absurd (V.str.inj z) (by decide +kernel)) ?_;exact Dq f _ h1 j
   |spent c=>
    have e:H t=some (.tup [.str ("spent" : Str),.ref u]):=e;have o:H u=some (.tup (c.map V.int)):=o;nofun;refine q_EA _ (SqT.of (f _ _ e)) (A7 _ rfl rfl ?_);refine DZ rfl ?_;have v:TK H1 (upd H1 n (.lst (xs++[V.ref u]))):=TK.lst h1;exact Dq (.inl #[rfl,_,SqL.of h1]) _ (SqT.of (f _ _ e)) (q_EA _ rfl (OV _ h1 (by rw[j.1];lia) (f.over D) _ Ab ((j.mono v).snoc (v _ _ (f _ _ o)))))
  ·left;refine e_E r λl=>f_A λF=>f_A λG=>f_A λI J=>?_;try clear r;subst F
   right;nofun;exact#[l,.inl #[SqL.of I,λtt w=>k tt l _ (G.newT w) Ab (J.mono (TK.new w))]]
noncomputable def Xp (K:α3)(CA CB:Addr):Sp:=λb H Q _=>∃(a:Addr) (ad:AD) (s:AS) (wv:V) (x:Wish),b=[.ref a]/\Asks K CA CB H a ad s wv/\Ce K H s.L wv x/\s.W.length<=100/\∀t H',Same H H'->ZS K H' t s.L (accX s x) s.E s.es->Q (.ref t) H'
def Er:⋯ EE.j6 3 ["asker"] (Xp K ah ak):=by
 delta EE.j6 Q3
 ·refine CW h λa ad s wv x t _=>?_;try clear h;subst t;rfl
 ·left;refine e_E h λa=>f_E λad=>BL λs wv y u S hw v k=>?_;try clear h;subst u
  refine e_E (id S) λP=>CY λQ R T U w=>?_;right;have e:=w.ob;have W:=Al;refine q_EA _ (Ae (Ao (BK (Aa (AR (pvD 0) rfl) (Aa (Ah (Ka EE) hr.d Au (Aa (pvD 0) Ad)) (Aa (AA Ln rfl EE.tuple jE_ (Aa (A2 (pvD 0) EE.cl_j0 EE.j3.m (C2 EE).g hr.d (C2 EE).b .nil Au) Ad)) (Aa (AA Ln rfl EE.tuple jE_ (Aa (A2 (pvD 0) EE.cl_j0 EE.j5.m (D6 EE).g hr.d (D6 EE).b .nil Au) Ad)) Ad))))))) ?_;nofun;refine Ai _ _ _ e EE.cl_j0 EE.n_Asker_letters (q_EA _ (Ih ..) (CU a ad s wv y rfl (AK S hw v λta xs H1 f h1 z=>?_)));refine AB _ _ (f _ _ e) (by kernel_rfl) (AY a ad s wv rfl (S.same f) λA ys H2 n X h2 B=>?_);refine Ar A rfl _ (SqL.of h2) λte C D _=>?_;have i:=Same.new D (o:=.frz C (.tup ys));have j:=f.trans (n.trans i);refine AB _ _ (j _ _ e) (by kernel_rfl) (AY a ad s wv rfl (S.same j) λE rs Y F Z G H=>?_);refine Ar E rfl _ (SqL.of G) λth p I J=>#[by lia,λM N=>?_];have q:=Same.new I (o:=.frz p (.tup rs));have l:=Same.new N (o:=.tup [V.int s.L,V.ref ta,V.ref te,V.ref th]);have c:=F.trans (q.trans l);have O:=q.trans l;have r:=n.trans (i.trans c);refine k M _ (j.trans c) (AI ta te th p xs (AO ys rs Ab (SqT.of (r _ _ h1)) (z.mono (TK.of r)) (c.seqT (.inl (.inr #[_,Ab]))) (AK (B.mono (TK.of (i.trans c))) (l _ _ Ab) J (H.mono (TK.of O)))))
noncomputable def cell (ns:α2)(k:Nat):Int:=ns.getD k 0
noncomputable def ZT (K:α3):Sp:=λc H Q _=>∃(a:Addr) (b:α2) (k:Nat),c=[.ref a,.int k]/\SqL K H a (b.map V.int)/\Q (.int (cell b k)) H
def Bp:⋯ EE.j42 1 ["script","k"] (ZT K):=by
 delta EE.j42 Mu
 ·refine e_E h λa=>f_E λb=>f_E λk=>f_A λf _=>?_;try clear h;subst f;rfl
 ·left;refine e_E h λa=>B6 λb k g d q=>?_;try clear h;subst g
  right;refine q_EA _ (Ac (Bb (ptT (Ay (opD0 QI) (pvD 1) (Av (lenD Aq) (by rfl) EE.len jO_ (Aa (pvD 0) Ad)) (AL _)))
   (Ae (Ao (Aj (ixLD Bo) (pvD 0) (pvD 1))))
   Az)
   (Ae (Ao Af))) ?_
  nofun;refine q_EA _ (.inl d) ?_;rw[ja_];refine ite2 (λc=>?_) (λc=>?_)
  ·have e:k<b.length:=by simpa using c
   refine Ar _ d (V.int (cell b k)) ?_ q;refine GD ?_;rw[jh_];unfold cell;rw[jx_];simp[e]
  ·have e:¬ k<b.length:=by simpa using c
   have:cell b k=0:=by
    unfold cell;rw[jx_,j5_ s!""];rfl
   rw[<-this];exact q
noncomputable def Xq:Sp:=λa H Q _=>∃n:Int,a=[.int n]/\Q (.bl true) H
def Gd:⋯ EE.j43 1 ["found"] (Xq):=by
 delta EE.j43 OL
 ·obtain⟨n,rfl,_⟩:=h;rfl
 ·left;obtain⟨n,rfl,q⟩:=h;right;refine q_EA _ (Ae (Ao (Nz (Av CC rfl EE.isinstance qr_ (Aa (pvD 0) (Aa (KG (v:=.ty "int") rfl EE.int qD rfl) Ad))) (Pm (Ah_ (Av CC rfl EE.isinstance qr_ (Aa (pvD 0) (Aa (KG (v:=.ty "bool") rfl EE.bool tT rfl) Ad)))))))) ?_;nofun;refine AB _ _ (.int _) Ll (q_EA _ FF ?_);refine DZ rfl ?_;refine AB _ _ (.int _) Ll (q_EA _ PY ?_);exact q
def Cb_ {K:α3} (f:SqT K H a xs)(g:SqT K H b ys)(c:Am K H xs ws)(d:Am K H ys ws)(n:Nat):EqD K H (n+2) (.ref a) (.ref b) true:=by
 refine EqD.all43 (.inr #[f,g]) (by rw[c.1,d.1]) (λi x y ex h=>?_);refine AJ (c.at ex) λt w hw j k=>?_;subst j;refine AJ (d.at h) λu o e l m=>?_;subst l;rw[hw]at e;cases e;exact EqD.word43 n (SqT.of k) (SqT.of m)
def Cs_ {K:α3} (j:SqT K H a xs)(k:SqT K H b ys)(e:Ek H xs es)(f:Ek H ys es)(n:Nat):EqD K H (n+3) (.ref a) (.ref b) true:=by
 refine EqD.all43 (.inr #[j,k]) (by rw[e.1,f.1]) (λi x y ex l=>?_);have hi:i<es.length:=by rw[<-e.1];exact (jb_.mp ex).1
 refine AJ (e.2 i es[i] (by simp[hi])) λt c g m o=>?_;refine AJ (f.2 i es[i] (by simp[hi])) λu d h p q=>?_;rw[ex]at g;cases g;rw[l]at h;cases h;exact EqD.all43 (.inr #[SqT.of m,SqT.of p]) rfl (Cr_ (P:=λ_=>λx y=>EqD K H (n+1) x y true) (EqD.word43 n (SqT.of o) (SqT.of q)) (EqD.int43 (n+1) _))
def Am.cat51 {K:α3} (a:Am K H xs ws)(d:Am K H ys vs):Am K H (xs++ys) (ws++vs):=by
 refine#[by rw[jk_,jk_,a.1,d.1],λi w hi=>?_];by_cases h:i<ws.length
 ·rw[ji_ h]at hi;obtain⟨t,b,c⟩:=a.2 i w hi;exact q_EA t (by rw[ji_ (by rw[a.1];exact h)];exact b) c
 ·rw[ju_ s!""]at hi;obtain⟨t,b,c⟩:=d.2 _ w hi;exact q_EA t (by rw[ju_ (by rw[a.1];lia),a.1];exact b) c
noncomputable def VO (K:α3)(CA CB:Addr):Sp:=λc H Q _=>∃(a l:Addr) (ad:AD) (s:AS) (wv:V) (x:Wish) (xs:List V) (b:α1),c=[.ref a,.int s.L,.ref l]/\Asks K CA CB H a ad s wv/\Ce K H s.L wv x/\s.W.length<=90/\H l=some (.lst xs)/\Am K H xs b/\b.length<=5/\accX s x=s.W++b/\∀H',Same H H'->Q (.bl true) H'
def Fo:⋯ EE.j61 4 ["asker","letters","last"] (VO K ah ak):=by
 delta EE.j61 Ca
 ·refine e_E h λa=>Fm λl ad s wv x xs U ar _=>?_;try clear h;subst ar;rfl
 ·left;refine AX h λa l ad s=>CY λwv x xs U=>Bt λas S hw aW au X aX av k=>?_;try clear h;subst as
  refine e_E (id S) λaY=>CY λaZ a0 a1 a2 aw=>?_;right;have G:=aw.ob;have a3:=Al;refine q_EA _ (Ac (An (i:=3) Ca.nd (Ah (Er EE) hr.d Au (Aa (pvD 0) Ad)))
   (Ac (Bb (PW.pt (JK (Cm (ptB (Cd (Av CC rfl EE.isinstance qr_ (Aa (pvD 3) (Aa (KG (v:=.ty "tuple") rfl EE.tuple jE_ rfl) Ad)))))) (JK (ptT (Ay (opN KH) (Av (lenD Aq) (by rfl) EE.len jO_ (Aa (pvD 3) Ad)) Af (AL _))) (JK (Cm (ptB (Cd (Ah (Gd EE) hr.d Au (Aa (Aj (ixTD Ap) (pvD 3) Af) Ad))))) (Ir (ptT (Ay (opN KH) (Aj (ixTD Ap) (pvD 3) Af) (pvD 1) (AL _))))))))
   (Ae (Ao E9))
   Az)
   (Ac (An (i:=4) Ca.nd (Co (Aa (AA AM rfl EE.tuple jE_ (Aa (AW XM (A2 (pvD 0) EE.cl_j0 EE.j1.m (Dy EE).g hr.d (Dy EE).b .nil Au) (pvD 2)) Ad)) (Aa (AA AM rfl EE.tuple jE_ (Aa (A2 (pvD 0) EE.cl_j0 EE.j3.m (C2 EE).g hr.d (C2 EE).b .nil Au) Ad)) (Aa (AA AM rfl EE.tuple jE_ (Aa (A2 (pvD 0) EE.cl_j0 EE.j5.m (D6 EE).g hr.d (D6 EE).b .nil Au) Ad)) Ad)))))
   (Ac (BU jR_ rfl (BJ rfl EE.range (Aa Af Ad)) (As (i:=5) Ca.nd rfl (oQ rfl))
   (Ae (Bb (PW.pt (JK (Cm (ptB (Cd (Av CC rfl EE.isinstance qr_ (Aa (Aj (ixTD Ap) (pvD 3) (AW (opD0 Cn) (pvD 5) Af)) (Aa (KG (v:=.ty "tuple") rfl EE.tuple jE_ rfl) Ad)))))) (Ir (ptT (Ay (RX 8 (hu9 hr)) (Aj (ixTD Ap) (pvD 3) (AW (opD0 Cn) (pvD 5) Af)) (Aj (ixLD Bo) (pvD 4) (pvD 5)) (AL _))))))
   (Ae (Ao E9))
   Az)))
   (Ae (Ao E9)))))) ?_
  nofun;refine CU a ad s wv x rfl (AK S hw s!"" λt H1 u ax=>?_);dsimp only;left;refine AQ (id ax) λta te th o a4 a5 ay w=>f_A λaz=>A5 λaA aB aC aD a6 aE=>?_;right;refine AB _ _ (.tup (SqT.of w)) Ll (q_EA _ FF ?_);refine Bw (by decide) ?_;refine Ar t rfl _ (.inr (SqT.of w)) ?_;refine Bw (by simp) ?_;refine Ar t rfl _ (SqT.of w) (AH _ rfl (s.L:Int) rfl true rfl ?_);refine Bw (by decide) ?_;refine Ar t rfl _ (SqT.of w) (A7 _ rfl rfl ?_);refine Bw (by simp) ?_;refine AB _ _ (u _ _ G) (by kernel_rfl) (AY a ad s wv rfl (S.same u) λaF c H2 H a7 h2 Y=>Ar aF rfl c h2 (A7 xs ((u.trans H) _ _ au) (by rw[Y.1,X.1];lia) λp aG=>#[_,.inl #[SqL.of Ab,λq aH=>?_]]));have C:=(Same.new aG (o:=.lst (c++xs))).newT aH (o:=.tup (c++xs));have y:=u.trans (H.trans C);have Z:upd (upd H2 p (.lst (c++xs))) q (.tup (c++xs)) q=some (.tup (c++xs)):=Ab;have aa:Am K (upd (upd H2 p (.lst (c++xs))) q (.tup (c++xs))) (c++xs) (s.W++U):=Am.cat51 (Y.mono (TK.of C)) (X.mono (TK.of y));generalize upd (upd H2 p (.lst (c++xs))) q (.tup (c++xs))=a8 at C y Z aa ⊢;refine AB _ _ (y _ _ G) (by kernel_rfl) (AY a ad s wv rfl (S.same y) λaI I aJ D a9 aK aL=>DL aI rfl I (.inl #[SqL.of aK,λf aM=>?_]));have z:=Same.new aM (o:=.tup I);have ab:=y.trans (D.trans z);refine AB _ _ (ab _ _ G) (by kernel_rfl) (AY a ad s wv rfl (S.same ab) λaN A J aO ba aP aQ=>DL aN rfl A (.inl #[SqL.of aP,λe aR=>#[by lia,λE ac=>q_AA s!"" s!"" ?_]]));have ae:=(Same.new aR (o:=.tup A)).newT ac (o:=.lst [V.ref q,V.ref f,V.ref e]);have B:=aO.trans ae;have j:=(H.trans C).trans ((D.trans z).trans B);have af:=SqT.of (K:=K) ((Same.new ac (o:=.lst [V.ref q,V.ref f,V.ref e])) _ _ (show upd J e (.tup A) e=_ from Ab));have ag:=B.seqT (K:=K) (SqT.of (show upd aJ f (.tup I) f=_ from Ab));have ai:=((D.trans z).trans B).seqT (K:=K) (SqT.of Z);have aj:=aL.mono (TK.of (z.trans B));have al:=aa.mono (TK.of ((D.trans z).trans B));have am:=aQ.mono (TK.of ae);have F:=show upd (upd J e (.tup A)) E (.lst [V.ref q,V.ref f,V.ref e]) E=_ from Ab;have n:=j _ _ w;have M:=j.seqT az;have N:=aA.mono (TK.of j);have O:=j.seqT aB;have an:=aC.mono (TK.of j);have P:=j.seqT (K:=K) (a:=th) (xs:=ay) (.inl (.inr #[_,aD]));have ao:=aE.mono (TK.of j);have ap:=u.trans j;rw[av]at N;generalize upd (upd J e (.tup A)) E (.lst [V.ref q,V.ref f,V.ref e])=aS at F ai ag af aj al am n M N O an P ao ap ⊢;obtain⟨Q,r⟩:∃Q:Nat->St->Hp->Prop,∀i aq H',Q i aq H'↔(H'=aS/\∃R,aq=[some (.ref a),some (.int s.L),some (.ref l),some (.ref t),some (.ref E),R]):=#[_,λ_ _ _=>qk_];refine forR Q ((r _ _ _).mpr #[rfl,none,rfl]) (λi aT aU hi T=>?_) (λaT aU T=>?_)
  ·left;obtain⟨rfl,R,rfl⟩:=(r _ _ _).mp T;right;have aV:i=0\/i=1\/i=2:=by have:i<3:=hi;lia
   nofun;rcases aV with rfl|rfl|rfl
   ·refine Ar _ (SqT.of n) (V.ref ta) rfl (AB _ _ (.tup M) Ll (q_EA _ FF ?_));refine Bw (by decide) ?_;refine q_EA _ (SqT.of n) (AH (V.ref ta) rfl _ (SqL.of F) (V.ref q) rfl (AH ta rfl q rfl true (Cb_ M ai N al 6) ?_));refine Bw (by decide) ?_;exact (r _ _ _).mpr #[rfl,_,rfl]
   ·refine Ar _ (SqT.of n) (V.ref te) rfl (AB _ _ (.tup O) Ll (q_EA _ FF ?_));refine Bw (by decide) ?_;refine q_EA _ (SqT.of n) (AH (V.ref te) rfl _ (SqL.of F) (V.ref f) rfl (AH te rfl f rfl true (Cb_ O ag an aj 6) ?_));refine Bw (by decide) ?_;exact (r _ _ _).mpr #[rfl,_,rfl]
   ·refine Ar _ (SqT.of n) (V.ref th) rfl (AB _ _ (.tup P) Ll (q_EA _ FF ?_));refine Bw (by decide) ?_;refine q_EA _ (SqT.of n) (AH (V.ref th) rfl _ (SqL.of F) (V.ref e) rfl (AH th rfl e rfl true (Cs_ P af ao am 5) ?_));refine Bw (by decide) ?_;exact (r _ _ _).mpr #[rfl,_,rfl]
  ·left;obtain⟨rfl,R,rfl⟩:=(r _ _ _).mp T;right;nofun;exact k _ ap
def Qv (c d:α1)(e f:α2)(a b:Int)(ws:α2):Prop:=mkW e (BY c a ws)≠mkW f (BY d b ws)
def Fd.words {K:α3} (h:Fd H ps rs):Am K H rs (ps.map λp=>[p.1,p.2]):=#[by rw[ja_];exact h.1,λi w hi=>by
 rw[jh_]at hi;obtain⟨p,a,rfl⟩:=qc_.mp hi;exact h.2 i p a]
def N1 {ps:List (Int×Int)}{g:Int×Int}:[g.1,g.2]∈ps.map (λp=>[p.1,p.2])↔g∈ps:=by
 rw[jp_];constructor
 ·rintro⟨p,a,e⟩;have:p=g:=Prod.ext (xX_ e).1 (xX_ (xX_ e).2).1;rw[<-this];exact a
 ·intro h;exact q_EA g h rfl
noncomputable def Xr (K:α3):Sp:=λc H Q _=>∃(h h2:Addr) (L:Int) (af a:α2) (ways b:α1),c=[.ref h,.ref h2]/\Cp K H h L af ways/\Wf L af ways/\Cp K H h2 L a b/\Wf L a b/\(∀H',Same H H'->(∀ws,isW L ws=true->¬ Qv ways b af a 0 0 ws)->Q .non H')/\∀t w H',Same H H'->H' t=some (.tup (w.map V.int))->isW L w=true->Qv ways b af a 0 0 w->w.length<=af.length*a.length->Q (.ref t) H'
def Nw:⋯ EE.j76 1 ["house","other"] (Xr K):=by
 delta EE.j76 Be
 ·obtain⟨h,h2,L,af,s,ways,z,rfl,_⟩:=h;rfl
 ·left;obtain⟨h,h2,L,af,s,ways,z,rfl,bn,S,bo,ah,bp,bq⟩:=h;right;have ci:=Al;have cj:=S.l1;have ck:=S.l6;have br:=S.n40;have bs:=ah.n40;have cl:=S.n1;have cm:=ah.n1;refine#[_,(Ac (An (i:=2) Be.nd (Co (Aa (BK (Aa Af (Aa Af Ad))) Ad)))
   (Ac (An (i:=3) Be.nd (Co (Aa (BK Ad) Ad)))
   (Ac (An (i:=4) Be.nd Af)
   (Ac (LU jR_ (ptT (Ay (opD0 QI) (pvD 4) (Av (lenD Aq) (by rfl) EE.len jO_ (Aa (pvD 2) Ad)) (AL _)))
   (Ac (Am_ (Aj (ixLD Bo) (pvD 2) (pvD 4)) (Pp rfl (Dr (As (i:=5) Be.nd rfl (oQ rfl)) (Dr (As (i:=6) Be.nd rfl (oQ rfl)) Ma))))
   (Ac (Bb (ptT (Ay (opN KH) (Aj (ixTD Ap) (Aj (ixTD Ap) (pvD 0) Af) (pvD 5)) (Aj (ixTD Ap) (Aj (ixTD Ap) (pvD 1) Af) (pvD 6)) (AL _)))
   (Ae (Ao (Aj (ixLD Bo) (pvD 3) (pvD 4))))
   Az)
   (Ac (BU jR_ rfl (BJ rfl EE.range (Aa (Aj (ixTD Ap) (pvD 0) Af) Ad)) (As (i:=7) Be.nd rfl (oQ rfl))
   (Ac (An (i:=8) Be.nd (BK (Aa (Aj (ixTD Ap) (Aj (ixTD Ap) (Aj (ixTD Ap) (pvD 0) Af) (pvD 5)) (pvD 7)) (Aa (Aj (ixTD Ap) (Aj (ixTD Ap) (Aj (ixTD Ap) (pvD 1) Af) (pvD 6)) (pvD 7)) Ad))))
   (Ae (Bb (ptT (Ay (P5 (hu9 hr)) (pvD 8) (pvD 2) rfl))
   (Ac (AN (DV jK_ jW_ jX_ BB (pvD 2) (Aa (pvD 8) Ad)))
   (Ae (AN (DV jK_ jW_ jX_ BB (pvD 3) (Aa (AW FG (Aj (ixLD Bo) (pvD 3) (pvD 4)) (BK (Aa (pvD 7) Ad))) Ad)))))
   Az))))
   (Ae (An (i:=4) Be.nd (AW (opD0 Cn) (pvD 4) Af)))))))
   (Ae (Ao Ck)))))),?_]
  nofun;refine#[by lia,λn bt=>#[by lia,λf aZ=>#[by lia,λC bu=>#[by lia,λpw a0=>?_]]]];have ai:=Same.new bt (o:=.tup [V.int 0,V.int 0]);have aj:=Same.new aZ (o:=.lst [V.ref n]);have Z:=Same.new bu (o:=.tup []);have aa:=Same.new a0 (o:=.lst [V.ref C]);have bv:H f=none:=ai.none aZ;have bw:H pw=none:=((ai.trans aj).trans Z).none a0;have az:=(aj.trans (Z.trans aa)) _ _ (Ab (H:=H) (a:=n) (o:=.tup [V.int 0,V.int 0]));have ak:=(Z.trans aa) _ _ (Ab (H:=upd H n (.tup [V.int 0,V.int 0])) (a:=f) (o:=.lst [V.ref n]));have al:=aa _ _ (Ab (H:=upd (upd H n (.tup [V.int 0,V.int 0])) f (.lst [V.ref n])) (a:=C) (o:=.tup []));have aA:upd (upd (upd (upd H n (.tup [V.int 0,V.int 0])) f (.lst [V.ref n])) C (.tup [])) pw (.lst [V.ref C]) pw=some (.lst [V.ref C]):=Ab;have a1:=((ai.trans aj).trans Z).trans aa;generalize upd (upd (upd (upd H n (.tup [V.int 0,V.int 0])) f (.lst [V.ref n])) C (.tup [])) pw (.lst [V.ref C])=a2 at a1 az ak al aA ⊢;clear ai aj Z aa;have a3:f≠pw:=λab=>by
   rw[ab,aA]at ak;have e:C=n:=by simpa using ak
   rw[e,az]at al;cases al
  have bx:Fd a2 (([((0,0),[])]:List ((Int×Int)×α2)).map (·.1)) [V.ref n]:=#[rfl,λi q A=>by
   cases i with
   |zero=>simp at A;subst A;exact#[n,rfl,az]
   |succ i=>simp at A]
  have bz:Am K a2 [V.ref C] (([((0,0),[])]:List ((Int×Int)×α2)).map (·.2)):=#[rfl,λi q A=>by
   cases i with
   |zero=>simp at A;subst A;exact#[C,rfl,al]
   |succ i=>simp at A]
  have bA:okP af.length s.length (0,0):=#[#[by lia,by show (0:Int)<_;lia],by lia,by show (0:Int)<_;lia];obtain⟨am,aB⟩:∃am:Nat->St->Hp->Prop,∀m aC H2,am m aC H2↔(∃(ents:List ((Int×Int)×α2)) (rs us:List V) (i:Nat) (top:Int) (a4 a5 P Q:Option V),m=af.length*s.length+1-i/\Same H H2/\H2 f=some (.lst rs)/\H2 pw=some (.lst us)/\Fd H2 (ents.map (·.1)) rs/\Am K H2 us (ents.map (·.2))/\B L (Ov ways z) (0,0) (okP af.length s.length) ents i top/\(∀e,ents[i]?=some e->top<=place L e.2*L+1)/\(∀j,j<i->∀e,ents[j]?=some e->mkW af e.1.1=mkW s e.1.2)/\aC=[some (.ref h),some (.ref h2),some (.ref f),some (.ref pw),some (.int i),a4,a5,P,Q]):=#[_,λ_ _ _=>qk_];refine RQ am #[_,(aB _ _ _).mpr #[_,_,_,0,1,none,none,none,none,rfl,a1,ak,aA,bx,bz,B.start L _ bA,λe G=>?_,λj R=>absurd R (q1_ _),rfl]] ?_
  ·simp at G;subst G;simp[place,RS]
  intro m aC H2 bB;left;obtain⟨ents,rs,us,i,top,a4,a5,P,Q,rfl,N,aD,a6,aE,a7,I,bC,a8,rfl⟩:=(aB _ _ _).mp bB;right;have cn:=I.lenP;have co:af.length*s.length<=1600:=qn_ br bs;nofun;exists _,.inl (SqL.of aD);have bD:rs.length=ents.length:=by rw[aE.1,ja_]
  rw[bD];refine ite2 (λcp=>?_) (λcq=>?_)
  ·have hi:i<ents.length:=by lia
   obtain⟨e,G⟩:∃e,ents[i]?=some e:=#[ents[i],by simp[hi]];left;obtain⟨⟨l,k⟩,c⟩:=e;have aF:=je_ G;have bE:okP af.length s.length (l,k):=I.rng _ aF;obtain⟨⟨an,aG⟩,ao,aH⟩:=id bE;have cr:top<=place L c*L+1:=bC _ G;obtain⟨cs,a9,ct,cu⟩:=S.row an aG;obtain⟨cv,ba,cw,cx⟩:=ah.row ao aH;obtain⟨bF,wv,aI,bG,bH⟩:=id bn;obtain⟨bI,bJ,bb,bK,bL⟩:=id bo;obtain⟨xs,t,bM,bN,bO⟩:=bH.atZ an a9;obtain⟨cy,cz,bP,bQ,bR⟩:=bL.atZ ao ba;right;obtain⟨bS,bT,bU⟩:=aE.2 i (l,k) (by rw[jh_,G];rfl);obtain⟨bc,bV,bW⟩:=a7.2 i c (by rw[jh_,G];rfl);refine#[am (af.length*s.length+1-(i+1)),λcA H' h=>#[_,by lia,h],?_];refine#[_,SqL.of aD,_,Fb (v:=V.ref bS) s!"" (by rw[jA_];exact bT),?_];nofun;exists _,SqT.of bU,rfl,V.int l,[V.int k],rfl,V.int k,[],rfl,rfl,_,N.seqT aI,_,rfl,bF,rfl,_,l,rfl,N.seqT bG,_,P4 an aG,_,N.seqT bb,_,rfl,bI,rfl,_,k,rfl,N.seqT bK,_,P4 ao aH,rfl;by_cases ap:mkW af l=mkW s k
   ·rw[if_neg (by rw[jH_ (qx_ V.int ap)];decide)];refine#[_,N.seqT aI,_,rfl,L,rfl,by lia,by lia,?_];obtain⟨aJ,ac⟩:∃aJ:Nat->St->Hp->Prop,∀x aq D,aJ x aq D↔(∃(d:List ((Int×Int)×α2)) (g J:List V) (P Q:Option V),Same H D/\D f=some (.lst g)/\D pw=some (.lst J)/\Fd D (d.map (·.1)) g/\Am K D J (d.map (·.2))/\B L (Ov ways z) (0,0) (okP af.length s.length) d i (place L c*L+(x:Int)+1)/\WA L (Ov ways z) d (l,k) c x/\d[i]?=some ((l,k),c)/\(∀j,j<i->∀e,d[j]?=some e->mkW af e.1.1=mkW s e.1.2)/\aq=[some (.ref h),some (.ref h2),some (.ref f),some (.ref pw),some (.int i),some (.int l),some (.int k),P,Q]):=#[_,λ_ _ _=>qk_];refine forR aJ ((ac _ _ _).mpr #[ents,rs,us,P,Q,N,aD,a6,aE,a7,I.up (by push_cast;lia),(λy cB h1=>absurd h1 (by push_cast;lia)),G,a8,rfl]) (λx aq D cC aK=>?_) (λaq D aK=>?_)
    ·left;obtain⟨d,g,J,P,Q,M,aL,aM,aN,ar,ad,aO,O,as,rfl⟩:=(ac _ _ _).mp aK;right;have ex:(0:Int)+(x:Nat)=(x:Int):=by lia
     rw[ex];have aP:(x:Int)<L:=by lia
     left;obtain⟨cD,E,bd,bX,bY,bZ,b0⟩:=S.step an aG (show (0:Int)<=(x:Int) by lia) aP;obtain⟨cE,F,be,b1,b2,b3,b4⟩:=ah.step ao aH (show (0:Int)<=(x:Int) by lia) aP;right;rw[a9]at bd;cases bd;rw[ba]at be;cases be;have aQ:Ov ways z (l,k) (x:Int)=(E,F):=by show (Di ways l x,Di z k x)=_;rw[bY,b2]
     have b5:=je_ O;obtain⟨T,au⟩:=ad.letter aO b5 aP (by rw[aQ];exact#[#[bZ,b0],b3,b4]);have av:=WB (step:=Ov ways z) (r:=(l,k)) (w:=c) (x:=x) O;have cF:=(jb_.mp O).1;have cG:=ad.lenP;nofun;obtain⟨tx,b6,b7⟩:=ar.2 i c (by rw[jh_,O];rfl);have b8:c.length<=i:=ad.sh i _ O;refine#[_,M.seqT aI,_,rfl,wv,rfl,_,M.seqT bM,_,bN,_,rfl,_,M.seqT bO,_,Cf s!"" bX,_,M.seqT bb,_,rfl,bJ,rfl,_,M.seqT bP,_,bQ,_,rfl,_,M.seqT bR,_,Cf s!"" b1,by lia,λu b9=>?_];have U:=Same.new b9 (o:=.tup [V.int E,V.int F]);have aR:=M.trans U;have aS:upd D u (.tup [V.int E,V.int F]) u=some (.tup [V.int E,V.int F]):=Ab;have W:=U _ _ aL;have aT:=U _ _ aM;have ae:=aN.mono (TK.of U);have aw:=ar.mono (TK.of U);have bf:=U _ _ b7;generalize upd D u (.tup [V.int E,V.int F])=X at aR aS W aT ae aw bf ⊢;exists g,SqL.of W,[E,F],_,Fd.words ae,SqT.of aS;by_cases hm:(E,F)∈d.map (·.1)
     ·have aU:put (Ov ways z) (l,k) c d x=d:=by unfold put;rw[aQ,if_pos hm]
      rw[aU]at T au av;rw[if_neg (by rw[jH_ (N1.mpr hm)];simp)];exact (ac _ _ _).mpr #[d,g,J,_,_,aR,W,aT,ae,aw,T,au,av,as,rfl]
     ·have aU:put (Ov ways z) (l,k) c d x=d++[((E,F),c++[(x:Int)])]:=by unfold put;rw[aQ,if_neg hm]
      rw[aU]at T au av;rw[if_pos (by rw[jQ_ (λab=>hm (N1.mp ab))];rfl)];have cH:g.length=d.length:=by rw[ae.1,ja_]
      have cI:J.length=d.length:=by rw[aw.1,ja_]
      have ax:TK X (upd X f (.lst (g++[V.ref u]))):=TK.lst W;have bg:=aR.over bv (o:=.lst (g++[V.ref u]));have bh:upd X f (.lst (g++[V.ref u])) f=some (.lst (g++[V.ref u])):=Ab;have ay:upd X f (.lst (g++[V.ref u])) pw=some (.lst J):=by rw[Ak (qs_ a3)];exact aT
      have bi:Fd (upd X f (.lst (g++[V.ref u]))) ((d++[((E,F),c++[(x:Int)])]).map (·.1)) (g++[V.ref u]):=by
       have:=(ae.mono ax).snoc (p:=(E,F)) (b:=u) (ax _ _ aS);simpa using this
      have bj:=aw.mono ax;have bk:=ax _ _ bf;refine#[.inl #[rfl,_,SqL.of W],_,W,by lia,?_];generalize upd X f (.lst (g++[V.ref u]))=cJ at bg bh ay bi bj bk ⊢;refine#[.inl #[rfl,_,SqL.of ay],_,SqL.of ay,_,Fb (v:=V.ref tx) s!"" (by rw[jA_];exact b6),by lia,λcK bl=>Eb.ofS (Same.new bl _ _ bk) Ab (by simp;lia) λq aV ca A=>?_];have A:aV q=some (.tup ((c++[(x:Int)]).map V.int)):=by rw[jn_];exact A
      have ag:=(Same.new bl (o:=.tup [V.int x])).trans ca;have cb:=bg.trans ag;have bm:=ag _ _ ay;have aW:TK aV (upd aV pw (.lst (J++[V.ref q]))):=TK.lst bm;refine#[_,bm,by lia,(ac _ _ _).mpr #[_,_,_,_,_,cb.over bw,by rw[Ak a3];exact ag _ _ bh,Ab,(bi.mono (TK.of ag)).mono aW,?_,T,au,av,λj R aX Y=>?_,rfl]]
      ·have:=((bj.mono (TK.of ag)).mono aW).snoc (aW _ _ A);simpa using this
      ·rw[ji_ s!""]at Y;exact as j R aX Y
    ·left;obtain⟨d,g,J,P,Q,M,aL,aM,aN,ar,ad,aO,O,as,rfl⟩:=(ac _ _ _).mp aK;right;nofun;obtain⟨T,cc⟩:=ad.next s!"" s!"" aO O;refine (aB _ _ _).mpr #[d,g,J,i+1,_,_,_,_,_,rfl,M,aL,aM,aN,ar,T,cc,λj R aX Y=>?_,by push_cast;rfl];by_cases cd:j<i
     ·exact as j cd aX Y
     ·have:j=i:=by lia
      subst this;rw[O]at Y;cases Y;exact ap
   ·rw[if_pos (by rw[jQ_ (λab=>ap (V.int.inj ab))];decide)];have b8:c.length<=i:=I.sh i _ G;have aY:=(I.wd _ aF).2;rw[Za]at aY;refine#[_,SqL.of a6,_,Fb (v:=V.ref bc) s!"" (by rw[jA_];exact bV),bq bc c H2 N bW (I.wd _ aF).1 ?_ (by have:=I.lenP;lia)];show mkW af (BY ways 0 c)≠mkW s (BY z 0 c);have ce:BY ways 0 c=l:=qx_ Prod.fst aY;have cf:BY z 0 c=k:=qx_ Prod.snd aY;rw[ce,cf];exact ap
  ·have hi:i=ents.length:=by have:=I.il;lia
   subst hi;nofun;refine bp H2 N λws hw cg=>?_;left;obtain⟨cL,hm,_⟩:=I.leastW hw;obtain⟨j,R,ch⟩:=j3_ hm;right;have:=a8 j R _ (by rw[jg_ R,ch]);rw[Za]at this;exact cg this
noncomputable def Xs (K:α3):Sp:=λd H Q _=>∃(h h2 c:Addr) (e:Bool) (L:Int) (af a:α2) (ways b:α1) (v:α2),d=[.ref h,.ref h2,.ref c,.bl e]/\Cp K H h L af ways/\Wf L af ways/\Cp K H h2 L a b/\Wf L a b/\H c=some (.tup (v.map V.int))/\isW L v=true/\v.length<=400/\af.length*a.length<=400/\(∀H',Same H H'->(∀ws,isW L ws=true->¬ Qv ways b af a 0 0 ws)->Q .non H')/\∀t w H',Same H H'->H' t=some (.tup (w.map V.int))->isW L w=true->Qv ways b af a 0 0 w->w.length<=400->Q (.ref t) H'
def Lf:⋯ EE.j77 2 ["house","other","long_word","first"] (Xs K):=by
 delta EE.j77 A4
 ·obtain⟨h,h2,T,F,L,af,A,ways,l,v,rfl,_⟩:=h;rfl
 ·left;obtain⟨h,h2,T,F,L,af,A,ways,l,v,rfl,U,f,W,m,B,j,aG,aH,ag,G⟩:=h;right;have aI:=Al;have aJ:=f.l1;have aK:=f.l6;refine#[_,(Ac (An (i:=4) A4.nd Af)
   (Ac (An (i:=5) A4.nd Af)
   (Ac (An (i:=6) A4.nd Ck)
   (Ac (BU jR_ rfl (BJ rfl EE.range (Aa (Av (lenD Aq) (by rfl) EE.len jO_ (Aa (pvD 2) Ad)) Ad)) (As (i:=7) A4.nd rfl (oQ rfl))
   (Ac (An (i:=4) A4.nd (Aj (ixTD Ap) (Aj (ixTD Ap) (Aj (ixTD Ap) (pvD 0) Af) (pvD 4)) (Aj (ixTD Ap) (pvD 2) (pvD 7))))
   (Ac (An (i:=5) A4.nd (Aj (ixTD Ap) (Aj (ixTD Ap) (Aj (ixTD Ap) (pvD 1) Af) (pvD 5)) (Aj (ixTD Ap) (pvD 2) (pvD 7))))
   (Ae (Bb (ptT (Ay (opN KH) (Aj (ixTD Ap) (Aj (ixTD Ap) (pvD 0) Af) (pvD 4)) (Aj (ixTD Ap) (Aj (ixTD Ap) (pvD 1) Af) (pvD 5)) (AL _)))
   (Ac (An (i:=6) A4.nd (BV ZL (pvD 2) EK (BR (AW (opD0 Cn) (pvD 7) Af))))
   (Ae (Bb (ptB (Cd (pvD 3)))
   (Ae (Ao (pvD 6)))
   Az)))
   Az)))))
   (Ac (Bb (ptT (Ay Mb (pvD 6) Ck (AL _)))
   (Ae (Ao (Ah (Nw EE) hr.d Au (Aa (pvD 0) (Aa (pvD 1) Ad)))))
   Az)
   (Ae (Ao (pvD 6)))))))),?_]
  nofun;exists _,.inr (SqT.of B);rw[ja_];refine#[by lia,by lia,?_];rw[jA_];left;obtain⟨ah,ai,X,aj,ak⟩:=id U;obtain⟨al,am,Y,an,ao⟩:=id W;right;obtain⟨u,x⟩:∃u:Hp->V->Prop,∀H' b,u H' b↔(b=.non \/ ∃t w,b=.ref t/\H' t=some (.tup (w.map V.int))/\isW L w=true/\Qv ways l af A 0 0 w/\w.length<=400):=#[_,λ_ _=>qk_];have aL:∀{H1 H2:Hp} {b:V},u H1 b->Same H1 H2->u H2 b:=λh s=>(x _ _).mpr (((x _ _).mp h).imp id λ⟨t,w,a,b,c⟩=>#[t,w,a,s _ _ b,c]);obtain⟨I,y⟩:∃I:Nat->St->Hp->Prop,∀k C H',I k C H'↔(∃(b:V) (J:Option V),Same H H'/\u H' b/\C=[some (.ref h),some (.ref h2),some (.ref T),some (.bl F),some (.int (BY ways 0 (v.take k))),some (.int (BY l 0 (v.take k))),some b,J]):=#[_,λ_ _ _=>qk_];refine forR I ((y _ _ _).mpr #[.non,none,Same.refl _,(x _ _).mpr (.inl rfl),by simp[BY]]) (λk' C H' ap h'=>?_) (λC H' h'=>?_)
  ·left;obtain⟨b,J,e,M,rfl⟩:=(y _ _ _).mp h';right;rw[xT_];obtain⟨n,D⟩:∃n,v[k']?=some n:=#[v[k'],by simp[ap]];have o:=AE.mp j n (je_ D);have N:=FJ f (v.take k') (FK j k') (show (0:Int)<=0 by lia) (by have:=f.n1;lia);have O:=FJ m (v.take k') (FK j k') (show (0:Int)<=0 by lia) (by have:=m.n1;lia);have Z:=FJ f (v.take (k'+1)) (FK j (k'+1)) (show (0:Int)<=0 by lia) (by have:=f.n1;lia);have aa:=FJ m (v.take (k'+1)) (FK j (k'+1)) (show (0:Int)<=0 by lia) (by have:=m.n1;lia);left;obtain⟨aM,g,aq,ar,as,aN,aO⟩:=f.step N.1 N.2 o.1 o.2;obtain⟨aP,aQ,au,av,aw,aR,aS⟩:=m.step O.1 O.2 o.1 o.2;obtain⟨xs,t,ax,ay,az⟩:=ak.atZ N.1 aq;obtain⟨aT,aA,aB,aC,aD⟩:=ao.atZ O.1 au;right;have p:=KQ (ways:=ways) (r:=0) D;have q:=KQ (ways:=l) (r:=0) D;rw[as]at p;rw[aw]at q;have ab:atI (v.map V.int) (k':Int)=some (.int n):=Fb s!"" (by rw[jA_,jh_,D];rfl);nofun;exists _,e.seqT X,_,rfl,ai,rfl,_,e.seqT ax,_,ay,_,SqT.of (e _ _ B),_,ab,t,rfl,_,n,rfl,e.seqT az,_,Cf o.1 ar;exists _,e.seqT Y,_,rfl,am,rfl,_,e.seqT aB,_,aC,_,SqT.of (e _ _ B),_,ab,aA,rfl,_,n,rfl,e.seqT aD,_,Cf o.1 av;rw[<-p,<-q];exists _,e.seqT X,_,rfl,ah,rfl,_,_,rfl,e.seqT aj,_,P4 Z.1 Z.2;exists _,e.seqT Y,_,rfl,al,rfl,_,_,rfl,e.seqT an,_,P4 aa.1 aa.2,rfl;by_cases E:mkW af (BY ways 0 (v.take (k'+1)))=mkW A (BY l 0 (v.take (k'+1)))
   ·rw[if_neg (by rw[E];simp)];exact (y _ _ _).mpr #[b,_,e,M,rfl]
   ·rw[if_pos (by rw[jQ_ (λaE=>E (V.int.inj aE))];rfl),show ((k':Int)+1)=((k'+1:Nat):Int) by lia];refine W8.of (e _ _ B) λP H2 z Q=>?_;rw[<-qS]at Q;have ac:=e.trans z;have ad:(v.take (k'+1)).length<=400:=by rw[jC_];lia
    cases F with
    |true=>exact G P _ H2 ac Q (FK j (k'+1)) E ad
    |false=>exact (y _ _ _).mpr #[.ref P,_,ac,(x _ _).mpr (.inr #[P,_,rfl,Q,FK j (k'+1),E,ad]),rfl]
  ·left;obtain⟨b,J,e,M,rfl⟩:=(y _ _ _).mp h';right;nofun;rcases (x _ _).mp M with rfl|⟨t,R,rfl,p,q,S,ae⟩
   ·rw[if_pos rfl];refine#[h,h2,L,af,A,ways,l,rfl,U.mono e,f,W.mono e,m,λH2 z aF=>ag H2 (e.trans z) aF,λt R H2 z p q S ae=>G t R H2 (e.trans z) p q S s!""]
   ·rw[if_neg (by simp)];exact G t R H' e p q S ae
def MU {l k:α2}(h:l.Nodup)(hs:∀x∈l,x∈k):l.length<=k.length:=by
 induction l generalizing k with
 |nil=>simp
 |cons a l d=>
  rw[qb_]at h;have b:=hs a jt_;have h1:∀x∈l,x∈k.erase a:=λx c=>by
   refine (x5_ ?_).mpr (hs x (jo_ _ c));intro z;subst z;exact h.1 c
  have:=d h.2 h1;rw[q3_ b]at this;have e:=qU_ b;rw[jG_];lia
structure Met41 (L:Int)(n:Nat)(ways:α1)(rs:α2):Prop where
 nd:rs.Nodup
 z:0∈rs
 w:∀r∈rs,∃v,isW L v=true/\Ax ways v=r
 rg:∀r∈rs,0<=r/\r<(n:Int)
def Ct_ (L:Int)(ways:α1)(rs:α2):Prop:=∀r∈rs,∀x:Int,0<=x->x<L->Di ways r x∈rs
def Met41.add (m:Met41 L af.length ways rs)(k:Wf L af ways) (f:r∈rs)(i:0<=x)(j:x<L)(l:Di ways r x∉rs):Met41 L af.length ways (rs++[Di ways r x]):=by
 obtain⟨n,o⟩:=m.rg r f;refine AJ (k.step n o i j) λ_ g _ _=>f_A λh=>f_A λp s=>?_;refine#[?_,jY_ _ m.z,λq c=>?_,λq c=>?_]
 ·rw[qm_];exact q_AA m.nd (by simp) λa t b u=>by rw[jd_.mp u];intro z;subst z;exact l t
 ·rcases jr_.mp c with c|c
  ·exact m.w q c
  ·rw[jd_.mp c];obtain⟨v,A,e⟩:=m.w r f;refine q_EA (v++[x]) (AE.mpr λy d=>?_) (by rw[NJ,e]);rcases jr_.mp d with d|d
   ·exact AE.mp A y d
   ·rw[jd_.mp d];exact#[i,j]
 ·rcases jr_.mp c with c|c
  ·exact m.rg q c
  ·rw[jd_.mp c,h];exact#[p,s]
def Ho {α:Type}[DecidableEq α]{l k:List α}(h:l.Nodup)(hs:∀x∈l,x∈k):l.length<=k.length:=by
 induction l generalizing k with
 |nil=>simp
 |cons a l d=>
  rw[qb_]at h;have b:=hs a jt_;have h1:∀x∈l,x∈k.erase a:=λx c=>by
   refine (x5_ ?_).mpr (hs x (jo_ _ c));intro z;subst z;exact h.1 c
  have:=d h.2 h1;rw[q3_ b]at this;have e:=qU_ b;rw[jG_];lia
section
variable {rs:α2} {E:Nat->Int->Int->Prop}
def VP (rs:α2)(E:Nat->Int->Int->Prop)(k i:Nat):Prop:=∀a,rs[i]?=some a->∀j b,j<i->rs[j]?=some b->¬ E k b a
open Classical in
noncomputable def Hq (rs:α2)(E:Nat->Int->Int->Prop)(k:Nat):List Nat:=(oN rs.length).filter λi=>decide (VP rs E k i)
open Classical in
def DE {k i:Nat}:i∈Hq rs E k↔i<rs.length/\VP rs E k i:=by
 unfold Hq;rw[qO_,jU_,j6_]
def MV (k:Nat):(Hq rs E k).Nodup:=List.nodup_range.filter _
def Sk (f:∀k a,E k a a)(t:∀k a b,E k a b->E k b a)(tr:∀k a b c,E k a b->E k b c->E k a c)(k:Nat):∀(n i:Nat) (a:Int),i<=n->rs[i]?=some a->∃j b,rs[j]?=some b/\E k b a/\VP rs E k j:=by
 intro n
 induction n with
 |zero=>
  intro i a hi d;have:i=0:=by lia
  subst this;exact#[0,a,d,f k a,λm _ j b g=>absurd g (q1_ _)]
 |succ n o=>
  intro i a hi d;by_cases h:VP rs E k i
  ·exact#[i,a,d,f k a,h]
  ·unfold VP at h;simp only[qK]at h;obtain⟨m,l,j,b,g,p,e⟩:=h;rw[d]at l;cases l;have e:E k b a:=Classical.not_not.mp e;obtain⟨q,r,h1,h2,s⟩:=o j b s!"" p;exact#[q,r,h1,tr k _ _ _ h2 e,s]
def Cc_ (u:∀k a,E k a a)(d:∀k a b,E k a b->E k b a)(tr:∀k a b c,E k a b->E k b c->E k a c)(g:∀k a b,E (k+1) a b->E k a b) (m:a∈rs)(n:b∈rs)(h:E k a b)(C:¬ E (k+1) a b):(Hq rs E k).length+1<=(Hq rs E (k+1)).length:=by
 have D:∀i∈Hq rs E k,i∈Hq rs E (k+1):=λi hi=>by
  obtain⟨h1,h2⟩:=DE.mp hi;exact DE.mpr #[h1,λa m j b F n G=>h2 a m j b F n (g k _ _ G)]
 obtain⟨i,hi,H⟩:∃i,i∈Hq rs E (k+1)/\i∉Hq rs E k:=by
  refine qD_ λI=>C ?_;have v:∀i,i∈Hq rs E (k+1)->i∈Hq rs E k:=λi hi=>qD_ λz=>I (q_EA i hi z);obtain⟨w,J⟩:=jN_.mp m;obtain⟨x,K⟩:=jN_.mp n;refine AJ (Sk (rs:=rs) u d tr (k+1) w w a (jf_ _) J) λo p f p2 L=>?_;refine AJ (Sk (rs:=rs) u d tr (k+1) x x b (jf_ _) K) λq r e A M=>?_;have N:=(DE.mp (v o (DE.mpr #[(jb_.mp f).1,L]))).2;have O:=(DE.mp (v q (DE.mpr #[(jb_.mp e).1,M]))).2;have B:E k p r:=tr k _ _ _ (g k _ _ p2) (tr k _ _ _ h (d k _ _ (g k _ _ A)));have P:o=q:=by
   refine qD_ λQ=>?_;rcases Nat.lt_or_gt_of_ne Q with s|s
   ·exact O r e o p s f B
   ·exact N p f q r s e (d k _ _ B)
  subst P;rw[f]at e;cases e;exact tr _ _ _ _ (d _ _ _ p2) A
 have:=Ho (l:=i::Hq rs E k) (k:=Hq rs E (k+1)) (by rw[qb_];exact#[H,MV k]) λy t=>by
  rcases jw_.mp t with rfl|t
  ·exact hi
  ·exact D y t
 simpa using this
def Cd_ (o:∀k a,E k a a)(p:∀k a b,E k a b->E k b a)(tr:∀k a b c,E k a b->E k b c->E k a c)(n:∀k a b,E (k+1) a b->E k a b)(st:∀k,(∀a∈rs,∀b∈rs,E k a b->E (k+1) a b)->∀a∈rs,∀b∈rs,E (k+1) a b->E (k+2) a b)(q:0<rs.length) (f:a∈rs)(g:b∈rs)(h:E rs.length a b)(j:Nat):E j a b:=by
 have r:∀k,(∃k',k'<k/\∀a∈rs,∀b∈rs,E k' a b->E (k'+1) a b)\/k+1<=(Hq rs E k).length:=by
  intro k
  induction k with
  |zero=>
   refine .inr ?_;have:0∈Hq rs E 0:=DE.mpr #[q,λa _ j b s=>absurd s (q1_ _)];exact qU_ this
  |succ k e=>
   rcases e with ⟨k',h1,h2⟩|e
   ·exact .inl #[k',by lia,h2]
   ·by_cases m:∀a∈rs,∀b∈rs,E k a b->E (k+1) a b
    ·exact .inl #[k,by lia,m]
    ·simp only[qK]at m;obtain⟨a,f,b,g,h1,h2⟩:=m;refine .inr ?_;have:=Cc_ o p tr n f g h1 h2;lia
 have w:(Hq rs E rs.length).length<=rs.length:=by
  have:=Ho (l:=Hq rs E rs.length) (k:=oN rs.length) (MV _) λi hi=>jU_.mpr (DE.mp hi).1;simpa using this
 rcases r rs.length with ⟨k',h1,h2⟩|h1
 ·have t:∀d,∀a∈rs,∀b∈rs,E (k'+d) a b->E (k'+d+1) a b:=by
   intro d
   induction d with
   |zero=>exact h2
   |succ d e=>exact st _ e
  have u:∀d,E (rs.length+d) a b:=by
   intro d
   induction d with
   |zero=>exact h
   |succ d e=>
    have:=t (rs.length+d-k') a f b g (by rw[show k'+(rs.length+d-k')=rs.length+d by lia];exact e);rw[show k'+(rs.length+d-k')+1=rs.length+(d+1) by lia]at this;exact this
  have v:∀d i,E (i+d) a b->E i a b:=by
   intro d
   induction d with
   |zero=>exact λi h=>h
   |succ d e=>exact λi h=>e i (n _ _ _ h)
  exact v rs.length j (by rw[tV];exact u j)
 ·lia
end
def Lg (L:Int)(af:α2)(ways:α1)(k:Nat)(a b:Int):Prop:=∀v,isW L v=true->v.length<=k->mkW af (BY ways a v)=mkW af (BY ways b v)
def Lg.succ : Lg L af ways (k+1) a b↔Lg L af ways k a b/\∀x:Int,0<=x->x<L->Lg L af ways k (Di ways a x) (Di ways b x):=by
 constructor
 ·intro h;refine#[λv c e=>h v c s!"",λx g i v c e=>?_];have:=h (x::v) (AE.mpr λy d=>by
   rcases jw_.mp d with rfl|d
   ·exact#[g,i]
   ·exact AE.mp c y d) (by rw[jG_];lia)
  rw[Dj,Dj]at this;exact this
 ·rintro⟨h1,h2⟩ v c e;cases v with
  |nil=>exact h1 [] c (by simp)
  |cons x v=>
   have f:=AE.mp c x jt_;rw[Dj,Dj];exact h2 x f.1 f.2 v (AE.mpr λy d=>AE.mp c y (jo_ _ d)) (by rw[jG_]at e;lia)
def Lg.all {L:Int}{af:α2}{ways:α1}{rs:α2}(hz:0∈rs)(cl:∀r∈rs,∀x:Int,0<=x->x<L->Di ways r x∈rs){a b:Int}(e:a∈rs)(f:b∈rs)(h:Lg L af ways rs.length a b):∀v,isW L v=true->mkW af (BY ways a v)=mkW af (BY ways b v):=λv c=>
 Cd_ (rs:=rs) (E:=Lg L af ways) (λ_ _ _ _ _=>rfl) (λ_ _ _ h v c d=>(h v c d).symm) (λ_ _ _ _ h g v c d=>(h v c d).trans (g v c d)) (λ_ _ _ h=>(Lg.succ.mp h).1) (λk l a e b f h=>by
  obtain⟨h1,h2⟩:=Lg.succ.mp h;exact Lg.succ.mpr #[h,λx i j=>l _ (cl a e x i j) _ (cl b f x i j) (h2 x i j)]) (qU_ hz) e f h v.length v c (jf_ _)
structure Cls41 (L:Int)(af:α2)(ways:α1)(cl:Int->Int)(ds:α2):Prop where
 nd:ds.Nodup
 at_:∀v,isW L v=true->cl (Ax ways v)∈ds
 of:∀d∈ds,∃v,isW L v=true/\cl (Ax ways v)=d
 eq:∀v u,isW L v=true->isW L u=true->(cl (Ax ways v)=cl (Ax ways u) ↔ ∀e,isW L e=true->mkW af (Ax ways (v++e))=mkW af (Ax ways (u++e)))
noncomputable def ln41 (b:α2)(ways:α1)(r:Nat):α2:=b.getD r 0::(ways.getD r []).map λa=>b.getD a.toNat 0
noncomputable def DF (a:α2)(ways:α1):α1:=(oN a.length).map (ln41 a ways)
noncomputable def nx41 (a:α2)(ways:α1):α2:=(DF a ways).map λw=>(((DF a ways).idxOf w:Nat):Int)
def IF (L:Int)(af:α2)(ways:α1)(k:Nat)(c:α2):Prop:=c.length=af.length/\∀a b:Nat,a<af.length->b<af.length->(c.getD a 0=c.getD b 0↔Lg L af ways k a b)
def IF.next (q:Wf L af ways) (h:IF L af ways k names):IF L af ways (k+1) (nx41 names ways):=by
 have K:(DF names ways).length=af.length:=by unfold DF;rw[ja_,qL_,h.1]
 have s:∀a:Nat,a<af.length->(DF names ways)[a]?=some (ln41 names ways a):=λa j=>by
  unfold DF;rw[jh_,qW_ (by rw[h.1];exact j)];rfl
 have F:∀a:Nat,a<af.length->(nx41 names ways).getD a 0=(((DF names ways).idxOf (ln41 names ways a):Nat):Int):=λa j=>by
  unfold nx41;rw[jx_,jh_,s a j];rfl
 refine#[by unfold nx41;rw[ja_,K],λa b j t=>?_];rw[F a j,F b t,Lg.succ];have m:((((DF names ways).idxOf (ln41 names ways a):Nat):Int)=(((DF names ways).idxOf (ln41 names ways b):Nat):Int))↔ln41 names ways a=ln41 names ways b:=by
  constructor
  ·intro e;have e:(DF names ways).idxOf (ln41 names ways a)=(DF names ways).idxOf (ln41 names ways b):=by lia
   have M:=je_ (s a j);have N:=je_ (s b t);have u:=xm_ (zi_.mpr M);have v:=xm_ (zi_.mpr N);rw[<-u,<-v]
   congr 1
  ·intro e;rw[e]
 rw[m];refine e_E (q.row (r:=(a:Int)) s!"" s!"") λw=>f_A λn=>f_A λG P=>?_;refine e_E (q.row (r:=(b:Int)) s!"" s!"") λy=>f_A λo=>f_A λH Q=>?_;rw[jA_]at n o;have u:ways.getD a []=w:=by rw[jx_,n];rfl
 have v:ways.getD b []=y:=by rw[jx_,o];rfl
 have st:∀(c:Nat) (d:α2),ways[c]?=some d->d∈ways->∀x:Nat,(x:Int)<L->∃g:Nat,d[x]?=some (g:Int)/\g<af.length/\Di ways c x=g:=λc d h1 h2 x p=>by
  have O:=q.rows d h2;have I:x<d.length:=by lia
  have R:=O.2 d[x] (qd_ _);refine A7 d[x].toNat (by rw[jg_ I];congr 1;lia) s!"" ?_;rw[LY (row:=d) (g:=d[x]) (by rw[jA_];exact h1) (by rw[jA_];exact jg_ I)];lia
 unfold ln41;rw[u,v,List.cons.injEq,h.2 a b j t];refine and_congr qk_ ?_;constructor
 ·intro e x S J;obtain⟨i,rfl⟩:∃i:Nat,x=(i:Int):=#[x.toNat,by lia];refine e_E (st a w n G i J) λg=>f_A λz=>f_A λA B=>?_;refine e_E (st b y o H i J) λf=>f_A λC=>f_A λD E=>?_;rw[B,E,<-h.2 g f A D];have:=qx_ (λl:α2=>l[i]?) e;simp only[jh_,z,C,qw,jA_,zu_]at this;exact this
 ·intro e;refine qH_ λi=>?_;by_cases p:(i:Int)<L
  ·refine e_E (st a w n G i p) λg=>f_A λz=>f_A λA B=>?_;refine e_E (st b y o H i p) λf=>f_A λC=>f_A λD E=>?_;have m:=e (i:Int) s!"" p;rw[B,E,<-h.2 g f A D]at m;simp only[jh_,z,C,qw,jA_,zu_];exact m
  ·rw[j5_ (by rw[ja_];lia),j5_ (by rw[ja_];lia)]
def IF.first : IF L af ways 0 af:=#[rfl,λa b d f=>by
 constructor
 ·intro e v g i;have:v=[]:=ql_.mp s!"";subst this;show af.getD ((a:Int)).toNat 0=af.getD ((b:Int)).toNat 0;rw[jA_,jA_];exact e
 ·intro h;have:=h [] (AE.mpr λx c=>(by cases c)) (j8_ _);have:af.getD ((a:Int)).toNat 0=af.getD ((b:Int)).toNat 0:=this;rw[jA_,jA_]at this;exact this]
def IF.cls93 {L:Int}{af:α2}{ways:α1}(l:Wf L af ways){rs b ds:α2}{k:Nat}(D:rs.length<=k)(h:IF L af ways k b)(hz:0∈rs)(hw:∀r∈rs,∃v,isW L v=true/\Ax ways v=r)(hc:∀r∈rs,∀x:Int,0<=x->x<L->Di ways r x∈rs)(p:ds.Nodup)(m:∀x,x∈ds↔x∈rs.map λr=>b.getD r.toNat 0):Cls41 L af ways (λr=>b.getD r.toNat 0) ds:=by
 have f:∀v,isW L v=true->Ax ways v∈rs:=by
  intro v a;have q:∀i,Ax ways (v.take i)∈rs:=by
   intro i
   induction i with
   |zero=>exact hz
   |succ i g=>
    by_cases hi:i<v.length
    ·have s:v[i]?=some v[i]:=by simp[hi]
     rw[Ib s];have:=AE.mp a v[i] (qd_ _);exact hc _ g _ this.1 this.2
    ·rw[qg_ s!""]at g ⊢;exact g
  have:=q v.length
  rwa [jz_]at this
 refine#[p,λv a=>(m _).mpr (jp_.mpr (q_EA _ (f v a) rfl)),λd t=>?_,λv u a n=>?_]
 ·obtain⟨r,y,rfl⟩:=jp_.mp ((m d).mp t);obtain⟨v,a,e⟩:=hw r y;exact q_EA v a (by rw[e])
 ·have rv:=l.walk a v.length;have A:=l.walk n u.length;rw[jz_]at rv A;have B:=f v a;have C:=f u n;have o:=h.2 (Ax ways v).toNat (Ax ways u).toNat s!"" s!"";rw[show (((Ax ways v).toNat:Nat):Int)=Ax ways v by lia,show (((Ax ways u).toNat:Nat):Int)=Ax ways u by lia]at o;show b.getD (Ax ways v).toNat 0=b.getD (Ax ways u).toNat 0↔_;rw[o];have c:∀(w e:α2),Ax ways (w++e)=BY ways (Ax ways w) e:=λw e=>by rw[<-CD,P8,CD]
  constructor
  ·intro z e j;rw[c,c];exact Lg.all hz hc B C (λv a E=>z v a s!"") e j
  ·intro z e j _;have:=z e j;rw[c,c]at this;exact this
def ShL (H:Hp)(ys:List V)(b:α1):Prop:=ys.length=b.length/\∀(i:Nat) (w:α2),b[i]?=some w->∃(t c:Addr) (a:Int) (ws:α2),w=a::ws/\ys[i]?=some (.ref t)/\H t=some (.tup [.int a,.ref c])/\H c=some (.lst (ws.map V.int))
def ShL.mono (h:ShL H ys ls)(s:Same H H'):ShL H' ys ls:=#[h.1,λi w hi=>by
 obtain⟨t,c,a,ws,e,b,d,f⟩:=h.2 i w hi;exact Bj t c a ws (AK e b (s _ _ d) (s _ _ f))]
def ShL.snoc (h:ShL H ys ls) (h1:H t=some (.tup [.int a,.ref c]))(h2:H c=some (.lst (ws.map V.int))):ShL H (ys++[.ref t]) (ls++[a::ws]):=#[by simp[h.1],λi w hi=>by
 by_cases b:i<ls.length
 ·rw[ji_ b]at hi;obtain⟨d,f,g,j,e,k,l,m⟩:=h.2 i w hi;exact Bj d f g j (AK e (by rw[ji_ (by rw[h.1];exact b)];exact k) l m)
 ·have n:=(jb_.mp hi).1;rw[jk_,jB_]at n;rw[ju_ s!"",show i-ls.length=0 by lia]at hi;cases hi;exact Bj t c a ws (AK rfl (by rw[ju_ (by rw[h.1];lia),h.1,show i-ls.length=0 by lia];rfl) h1 h2)]
def EqD.int51 {K:α3} (n:Nat)(i j:Int):EqD K H n (.int i) (.int j) (decide (i=j)):=by
 cases n with
 |zero=>exact q_AA rfl rfl (by rw[j1_];simp[eqV])
 |succ n=>exact .inl (q_AA rfl rfl (by rw[j1_];simp[eqV]))
def ShL.eqs {K:α3}{H:Hp}{ys:List V}{b:α1}(h:ShL H ys b){j:Nat}{t:Addr}{w:α2}(C:b[j]?=some w)(D:ys[j]?=some (.ref t)):EqsD K H 4 ys (.ref t) (λi=>decide (b[i]?=some w)):=by
 refine Fl (h.2 j w C) λS T E F G s I J=>?_;rw[D]at s;cases s;have m:∀(i:Nat) (v:V),ys[i]?=some v->∃(t c:Addr) (a:Int) (ws:α2),v=.ref t/\b[i]?=some (a::ws)/\H t=some (.tup [.int a,.ref c])/\H c=some (.lst (ws.map V.int)):=λi v f=>by
  have hi:i<b.length:=by rw[<-h.1];exact (jb_.mp f).1
  refine Fl (h.2 i b[i] (by simp[hi])) λt c a ws e u L n=>?_;rw[f]at u;exact Bj t c a ws (AK (jD_ u) (by rw[<-e];simp[hi]) L n)
 refine#[λi v f=>?_,λi k v hi M=>?_]
 ·refine Fl (m i v f) λg N z o O p q r=>?_;subst O;refine q_EA g rfl ?_;show EqD K H 4 (.ref g) (.ref t) (decide (b[i]?=some w));rw[p,G];refine .inr (AY g t _ _ rfl rfl (Dq (.inr #[SqT.of q,SqT.of I]) (λi=>if i=0 then decide (z=E) else decide (o=F)) (λi x y d l=>?_) ?_))
  ·match i with
   |0=>simp at d l;subst d l;exact EqD.int51 _ _ _
   |1=>simp at d l;subst d l;exact EqD.ints (.inl #[SqL.of r,SqL.of J]) 2
   |i+2=>simp at d
  ·rw[j1_];simp[xh_]
 ·refine Fl (m i v hi) λg N z o P p q r=>?_;subst P;refine Fl (m k _ M) λU W X Q n R A B=>?_;cases n;rw[q]at A;cases A;rw[r]at B;have:o=Q:=by
   have:=HO.lst.inj (jD_ B);exact (q2_ λ_ _ h=>V.int.inj h).mp this
  show decide (b[i]?=some w)=decide (b[k]?=some w);rw[p,R,this]
noncomputable def Xt (K:α3):Sp:=λa H Q _=>∃(h:Addr) (L:Int) (af:α2) (ways:α1),a=[.ref h]/\Cp K H h L af ways/\Wf L af ways/\∀(cl:Int->Int) (ds:α2) (H':Hp),Same H H'->Cls41 L af ways cl ds->Q (.int ds.length) H'
def Hr:⋯ EE.j46 1 ["house"] (Xt K):=by
 delta EE.j46 AV
 ·obtain⟨h,L,af,ways,rfl,_⟩:=h;rfl
 ·left;obtain⟨h,L,af,ways,rfl,bw,B,k⟩:=h;have b3:=Al;obtain⟨aK,a3,ah,aL,a4⟩:=id bw;right;have b4:=B.n40;have b5:=B.n1;have b6:=B.l1;have I:=B.l6;refine#[_,(Ac (An (i:=1) AV.nd (Co (Aa Af Ad)))
   (Ac (An (i:=2) AV.nd Af)
   (Ac (LU jR_ (ptT (Ay (opD0 QI) (pvD 2) (Av (lenD Aq) (by rfl) EE.len jO_ (Aa (pvD 1) Ad)) (AL _)))
   (Ac (BU jR_ rfl (D8 (Aj (ixTD Ap) (Aj (ixTD Ap) (pvD 0) Af) (Aj (ixLD Bo) (pvD 1) (pvD 2)))) (As (i:=3) AV.nd rfl (oQ rfl))
   (Ae (Bb (ptT (Ay Lj (pvD 3) (pvD 1) rfl))
   (Ae (AN (DV jK_ jW_ jX_ BB (pvD 1) (Aa (pvD 3) Ad))))
   Az)))
   (Ae (An (i:=2) AV.nd (AW (opD0 Cn) (pvD 2) Af)))))
   (Ac (Dz (i:=4) AV.nd rfl (o9 rfl) (Bh rfl (Bz rfl) (cp:=Gn) #[#[rfl,rfl],oO] (BJ rfl EE.range (Aa (Av (lenD Aq) (by rfl) EE.len jO_ (Aa (Aj (ixTD Ap) (pvD 0) Af) Ad)) Ad)) (λ_ _ _ _=>(As (i:=0) Jx rfl (oQ rfl))) (λ_ _ _ _=>By) (λ_ _ _ _=>(Aj (ixTD (GK (K:=K) rfl)) (Aj (ixTD (GK (K:=K) rfl)) (pvD 1) Af) (pvD 0)))))
   (Ac (BU jR_ rfl (BJ rfl EE.range (Aa (Av (lenD Aq) (by rfl) EE.len jO_ (Aa (pvD 1) Ad)) Ad)) (As (i:=5) AV.nd rfl (oQ rfl))
   (Ac (Dz (i:=6) AV.nd rfl (o9 rfl) (Bh rfl (Bz rfl) (cp:=Gp) #[#[rfl,rfl],#[#[rfl,rfl],oO]] (BJ rfl EE.range (Aa (Av (lenD Aq) (by rfl) EE.len jO_ (Aa (Aj (ixTD Ap) (pvD 0) Af) Ad)) Ad)) (λ_ _ _ _=>(As (i:=0) Jy rfl (oQ rfl))) (λ_ _ _ _=>By) (λ_ _ _ _=>(BK (Aa (Aj (ixLD (Ot (K:=K) rfl)) (pvD 1) (pvD 0)) (Aa (Bh rfl (Bz rfl) (cp:=Gq) #[#[rfl,rfl],oO] (Zg (K:=K) rfl (Aj (ixTD (GK (K:=K) rfl)) (Aj (ixTD (GK (K:=K) rfl)) (pvD 2) Af) (pvD 0))) (λ_ _ _ _=>(As (i:=0) Jz rfl (oQ rfl))) (λ_ _ _ _=>By) (λ_ _ _ _=>(Aj (ixLD (Ot (K:=K) rfl)) (pvD 1) (pvD 0)))) Ad))))))
   (Ae (Dz (i:=4) AV.nd rfl (o9 rfl) (Bh rfl (Bz rfl) (cp:=Gr) #[#[rfl,rfl],oO] (BZ (pvD 6)) (λ_ _ _ _=>(As (i:=0) JA rfl (oQ rfl))) (λ_ _ _ _=>By) (λ_ _ _ _=>(UJ (K:=K) rfl jK_ tM tN (S9 (K:=K) rfl 4 (hu46 (hu9 hr))) (pvD 1) (Aa (pvD 0) Ad))))))))
   (Ac (An (i:=7) AV.nd (Co Ad))
   (Ac (BU jR_ rfl (BZ (pvD 1)) (As (i:=3) AV.nd rfl (oQ rfl))
   (Ae (Bb (ptT (Ay Lj (Aj (ixLD Bo) (pvD 4) (pvD 3)) (pvD 7) rfl))
   (Ae (AN (DV jK_ jW_ jX_ BB (pvD 7) (Aa (Aj (ixLD Bo) (pvD 4) (pvD 3)) Ad))))
   Az)))
   (Ae (Ao (Av (lenD Aq) (by rfl) EE.len jO_ (Aa (pvD 7) Ad))))))))))),?_]
  nofun;refine#[by lia,λp a5=>?_];have sp:=Same.new a5 (o:=.lst [V.int 0]);have a6:upd H p (.lst [V.int 0]) p=some (.lst ([0].map V.int)):=Ab;generalize upd H p (.lst [V.int 0])=b7 at sp a6 ⊢;have bx:Met41 L af.length ways [0]:=#[by simp,by simp,λr hr=>#[[],AE.mpr λx aM=>(by cases aM),by rw[jd_.mp hr];rfl],λr hr=>by rw[jd_.mp hr];lia];obtain⟨C,aN⟩:∃C:Nat->St->Hp->Prop,∀m ag H',C m ag H'↔(∃(rs:α2) (i:Nat) (e:Option V),m=af.length+1-i/\Same H H'/\H' p=some (.lst (rs.map V.int))/\Met41 L af.length ways rs/\i<=rs.length/\(∀k,k<i->∀r,rs[k]?=some r->∀x:Int,0<=x->x<L->Di ways r x∈rs)/\ag=[some (.ref h),some (.ref p),some (.int i),e,none,none,none,none]):=#[_,λ_ _ _=>qk_];refine RQ C #[_,(aN _ _ _).mpr #[[0],0,none,rfl,sp,a6,bx,by simp,λk E=>absurd E (q1_ _),rfl]] ?_;intro m a7 H2 bz;left;obtain⟨rs,i,e,rfl,F,aw,O,hi,ax,rfl⟩:=(aN _ _ _).mp bz;right;have b8:rs.length<=af.length:=Fc _ O.nd O.rg;nofun;exists _,.inl (SqL.of aw);rw[ja_];refine ite2 (λaO=>?_) (λb9=>?_)
  ·have a8:i<rs.length:=by lia
   obtain⟨r,hr⟩:∃r,rs[i]?=some r:=#[rs[i],by simp[a8]];left;obtain⟨ai,a9⟩:=O.rg r (je_ hr);obtain⟨J,S,ba,bb⟩:=B.row ai a9;obtain⟨xs,t,aP,aQ,aj⟩:=a4.atZ ai S;right;refine#[C (af.length+1-(i+1)),λag H' h=>#[_,by lia,h],?_];exists _,F.seqT ah,_,rfl,_,SqL.of aw,_,Cf s!"" (by rw[jA_];exact hr),a3,rfl,_,r,rfl,F.seqT aP,_,aQ,t,rfl,#[_,F.seqT aj];obtain⟨bA,T⟩:∃C:Nat->St->Hp->Prop,∀l ag H',C l ag H'↔(∃(rs:α2) (e:Option V),Same H H'/\H' p=some (.lst (rs.map V.int))/\Met41 L af.length ways rs/\rs[i]?=some r/\(∀k,k<i->∀r,rs[k]?=some r->∀x:Int,0<=x->x<L->Di ways r x∈rs)/\(∀x:Int,0<=x->x<l->Di ways r x∈rs)/\ag=[some (.ref h),some (.ref p),some (.int i),e,none,none,none,none]):=#[_,λ_ _ _=>qk_];refine forT (xs:=J.map V.int) bA ((T _ _ _).mpr #[rs,_,F,aw,O,hr,ax,λx bc h1=>s!"",rfl]) (λl bd ay _ ak=>by obtain⟨_,_,U,_⟩:=(T _ _ _).mp ak;exact U.seqT aj) (λl y bd ay bB ak=>?_) (λbd ay ak=>?_)
   ·left;obtain⟨rs,e,U,W,X,P,az,aA,rfl⟩:=(T _ _ _).mp ak;obtain⟨g,be,rfl⟩:=JL bB;right;have bf:=(jb_.mp be).1;have aR:Di ways r (l:Int)=g:=LY S (by rw[jA_];exact be);have ca:rs.length<=af.length:=Fc _ X.nd X.rg;have bg:=(jb_.mp P).1;nofun;have bC:(l:Int)<L:=by lia
    have aO:∀(aB:α2),(∀q∈rs,q∈aB)->g∈aB->∀x:Int,0<=x->x<((l+1:Nat):Int)->Di ways r x∈aB:=λaB bD Y x bc h1=>by
     by_cases aM:x<(l:Int)
     ·exact bD _ (aA x bc aM)
     ·have:x=(l:Int):=by lia
      subst this;rw[aR];exact Y
    refine#[_,.inl (SqL.of W),rfl,by simp[EB],?_];by_cases Y:g∈rs
    ·rw[if_neg (by rw[LZ];simp[Y])];exact (T _ _ _).mpr #[rs,_,U,W,X,P,az,aO rs (λq aS=>aS) Y,rfl]
    ·rw[if_pos (by rw[LZ];simp[Y])];have bh:=X.add B (je_ P) s!"" bC (by rw[aR];exact Y);rw[aR]at bh;refine#[.inl #[rfl,_,SqL.of W],_,W,by rw[ja_];lia,(T _ _ _).mpr #[rs++[g],_,U.over a5,by rw[Ab,jn_];rfl,bh,by rw[ji_ bg];exact P,λk E r' aa x aT aU=>jY_ _ (az k E r' (by rw[ji_ s!""]at aa;exact aa) x aT aU),aO _ (λq aS=>jY_ _ aS) (by simp),rfl]]
   ·left;obtain⟨rs,e,U,W,X,P,az,aA,rfl⟩:=(T _ _ _).mp ak;right;rw[ja_,bb]at aA;have bg:=(jb_.mp P).1;nofun;refine (aN _ _ _).mpr #[rs,i+1,_,rfl,U,W,X,by lia,λk E r' aa=>?_,by push_cast;rfl];by_cases bE:k<i
    ·exact az k bE r' aa
    ·have:k=i:=by lia
     subst this;rw[P]at aa;cases aa;exact aA
  ·have bF:i=rs.length:=by lia
   subst bF;have ax:Ct_ L ways rs:=λr hr x aT aU=>by
    obtain⟨k,E,bG⟩:=j3_ hr;exact ax k E r (by rw[jg_ E,bG]) x aT aU
   have bH:=O.w;have bI:=O.z;have bJ:=O.rg;nofun;exists _,F.seqT ah,_,rfl,aK,rfl,_,.inr (F.seqT aL);rw[ja_];refine#[by lia,by lia,?_];rw[jA_];refine SN (λj us aC ab=>ab=H2/\us=(af.take j).map V.int/\∃o,aC=[o,some (.ref h)]) #[rfl,rfl,none,rfl] s!"" (λj us aC ab ac h'=>by rw[h'.2.1,ja_,jC_];lia) (λj us aC ab ac h'=>?_) (λus aC ab h' n bi=>?_)
   ·left;obtain⟨rfl,rfl,o,rfl⟩:=h';right;rw[xT_];have bj:af[j]?=some af[j]:=by simp[ac]
    nofun;refine#[_,F.seqT ah,_,rfl,aK,rfl,_,F.seqT aL,_,Cf s!"" (by rw[jA_];exact bj),?_,_,rfl];rw[jF_,bj,jn_];rfl
   obtain⟨rfl,bk,o,rfl⟩:=h';rw[jz_]at bk;subst bk;have aV:=F.newT bi (o:=.lst (af.map V.int));have aW:=Same.new bi (o:=.lst (af.map V.int)) _ _ aw;have bl:upd ab n (.lst (af.map V.int)) n=some (.lst (af.map V.int)):=Ab;generalize upd ab n (.lst (af.map V.int))=ay at aV aW bl ⊢;exists _,.inl (SqL.of aW);rw[ja_];refine#[by lia,by lia,?_];rw[jA_];obtain⟨bK,aD⟩:∃C:Nat->St->Hp->Prop,∀i ag H',C i ag H'↔(∃(d:α2) (n:Addr) (e aE aF:Option V),Same ay H'/\H' n=some (.lst (d.map V.int))/\IF L af ways i d/\ag=[some (.ref h),some (.ref p),some (.int rs.length),e,some (.ref n),aE,aF,none]):=#[_,λ_ _ _=>qk_];refine forR bK ((aD _ _ _).mpr #[af,n,_,_,_,Same.refl _,bl,IF.first,rfl]) (λi a7 al hi aX=>?_) (λa7 al aX=>?_)
   ·left;obtain⟨d,n,e,aE,aF,am,an,ao,rfl⟩:=(aD _ _ _).mp aX;right;have aY:d.length=af.length:=ao.1;have aG:=aV.trans am;nofun;exists _,aG.seqT ah,_,rfl,aK,rfl,_,.inr (aG.seqT aL);rw[ja_];refine#[by lia,by lia,?_];rw[jA_];refine SN (λj ys aH G=>Same al G/\ShL G ys ((oN j).map (ln41 d ways))/\∃o,aH=[o,some (.ref n),some (.ref h)]) #[Same.refl _,#[rfl,λi w z=>by simp at z],none,rfl] s!"" (λj ys aH G ac h'=>by rw[h'.2.1.1,ja_,qL_];exact jf_ _) (λj ys aH G ac aZ=>?_) (λys aH G aZ D bL=>?_)
    ·left;obtain⟨s,I,o,rfl⟩:=aZ;right;rw[xT_];have bm:d[j]?=some d[j]:=by simp[ac]
     left;obtain⟨J,S,ba,bb⟩:=B.row (r:=(j:Int)) s!"" s!"";obtain⟨xs,t,aP,aQ,aj⟩:=(a4.mono (aG.trans s)).atZ s!"" S;right;obtain⟨f,bn⟩:∃f:V->V,∀a:Int,f (V.int a)=.int (d.getD a.toNat 0):=#[λv=>match v with | .int a=>.int (d.getD a.toNat 0)|_=>.non,λ_=>rfl];have aI:∀a:Int,0<=a->a<(af.length:Int)->d[a.toNat]?=some (d.getD a.toNat 0):=λa cb cc=>by
      rw[jx_,jg_ (show a.toNat<d.length by lia)];rfl
     have bM:=aG.trans s;nofun;refine#[_,SqL.of (s _ _ an),_,Cf s!"" (by rw[jA_];exact bm),_,bM.seqT ah,_,rfl,a3,rfl,_,aP,_,aQ,t,rfl,#[_,aj],Oq (xs:=J.map V.int) (ag:=[some (.ref n)]) f rfl aj (by rw[ja_];lia) (λy Q R bo=>?_) (λbN bO=>?_)]
     ·left;obtain⟨a,a0,rfl⟩:=jp_.mp Q;right;have a1:=(B.rows J ba).2 a a0;rw[bn]at bo;nofun;exact#[_,SqL.of (s _ _ an),_,Cf a1.1 (aI a a1.1 a1.2),bo]
     have bP:(J.map V.int).map f=(J.map λa=>d.getD a.toNat 0).map V.int:=by
      rw[jJ_,jJ_];exact jI_ λa _=>bn a
     rw[bP];refine#[by lia,λcd bQ=>?_];have ap:=Same.new bO (o:=.lst ((J.map λa=>d.getD a.toNat 0).map V.int));have u:=Same.new bQ (o:=.tup [V.int d[j],V.ref bN]);have bp:=ap.trans u;refine#[s.trans bp,?_,_,rfl];have bR:ln41 d ways j=d[j]::J.map λa=>d.getD a.toNat 0:=by
      unfold ln41;rw[jA_]at S;rw[jx_,bm,jx_,S];rfl
     rw[xh_,jn_];show ShL _ _ (_++[ln41 d ways j]);rw[bR];exact (I.mono bp).snoc Ab (u _ _ Ab)
    ·left;obtain⟨s,I,o,rfl⟩:=aZ;right;rw[<-aY]at I;have I:ShL G ys (DF d ways):=I;have bf:(DF d ways).length=af.length:=by unfold DF;rw[ja_,qL_,aY]
     have ce:ys.length=af.length:=by rw[I.1,bf]
     have ap:=Same.new bL (o:=.lst ys);have aq:=I.mono ap;have ar:upd G D (.lst ys) D=some (.lst ys):=Ab;generalize upd G D (.lst ys)=bS at ap aq ar ⊢;obtain⟨bT,as⟩:∃bU:Nat->List V->St->Hp->Prop,∀j zs M N,bU j zs M N↔(N=bS/\zs=(((DF d ways).take j).map λw=>(((DF d ways).idxOf w:Nat):Int)).map V.int/\∃o,M=[o,some (.ref D)]):=#[_,λ_ _ _ _=>qk_];refine#[D,rfl,#[_,SqL.of ar],Nb (xs:=ys) bT ((as _ _ _ _).mpr #[rfl,rfl,none,rfl]) s!"" (λj zs M N ac A=>?_) (λj y zs M N Q A=>?_) (λzs M N A bV bW=>?_)]
     ·left;obtain⟨rfl,rfl,_⟩:=(as _ _ _ _).mp A;right;exact#[SqL.of ar,by rw[ja_,ja_,jC_];lia]
     ·obtain⟨rfl,rfl,o,rfl⟩:=(as _ _ _ _).mp A;have bX:j<(DF d ways).length:=by rw[<-aq.1];exact (jb_.mp Q).1
      have a2:(DF d ways)[j]?=some (DF d ways)[j]:=by simp[bX]
      left;obtain⟨t,c,a,ws,_,bq,_,_⟩:=aq.2 j _ a2;right;rw[Q]at bq;cases bq;have bY:(DF d ways)[j]∈DF d ways:=qd_ _;have br:=xQ_ bY;nofun;refine#[.inl #[rfl,_,SqL.of ar],ys,ar,_,aq.eqs a2 Q,(DF d ways).idxOf (DF d ways)[j],by lia,jH_ (by rw[jg_ br];congr 1;exact xm_ br),λk E=>jQ_ λz=>?_,by lia,(as _ _ _ _).mpr #[rfl,?_,_,rfl]]
      ·have:=List.not_of_lt_findIdx (xs:=DF d ways) (p:=(· == (DF d ways)[j])) (i:=k) E;have bZ:k<(DF d ways).length:=by lia
       rw[jg_ bZ]at z;rw[jD_ z]at this;simp at this
      ·rw[jF_,a2,jn_,jn_];rfl
     ·left;obtain⟨rfl,rfl,o,rfl⟩:=(as _ _ _ _).mp A;right;rw[aq.1,jz_];exact (aD _ _ _).mpr #[nx41 d ways,bV,_,_,_,((am.trans s).trans ap).newT bW,Ab,ao.next B,rfl]
   ·left;obtain⟨d,n,e,aE,aF,am,an,ao,rfl⟩:=(aD _ _ _).mp aX;right;have aY:d.length=af.length:=ao.1;nofun;refine#[by lia,λau bs=>?_];have s:=Same.new bs (o:=.lst []);have bt:upd al au (.lst []) au=some (.lst ((([]:α2)).map V.int)):=Ab;generalize upd al au (.lst [])=G at s bt ⊢;have bu:=am _ _ aW;obtain⟨b0,ad⟩:∃C:Nat->St->Hp->Prop,∀i ag H',C i ag H'↔(∃(ds:α2) (e:Option V),Same al H'/\H' au=some (.lst (ds.map V.int))/\ds.Nodup/\ds.length<=i/\(∀x,x∈ds↔x∈(rs.take i).map λr=>d.getD r.toNat 0)/\ag=[some (.ref h),some (.ref p),some (.int rs.length),e,some (.ref n),aE,aF,some (.ref au)]):=#[_,λ_ _ _=>qk_];refine#[#[_,SqL.of (s _ _ bu)],forL (xs:=rs.map V.int) b0 ((ad _ _ _).mpr #[[],_,s,bt,.nil,jf_ _,λx=>by simp,rfl]) (λi M N _ A=>?_) (λi y M N Q A=>?_) (λM N A=>?_)]
    ·left;obtain⟨_,_,u,_⟩:=(ad _ _ _).mp A;right;exact SqL.of (u _ _ bu)
    ·left;obtain⟨ds,e,u,ae,aJ,b1,av,rfl⟩:=(ad _ _ _).mp A;obtain⟨r,hr,rfl⟩:=JL Q;obtain⟨ai,a9⟩:=bJ r (je_ hr);right;have a8:=(jb_.mp hr).1;have aI:d[r.toNat]?=some (d.getD r.toNat 0):=by
      rw[jx_,jg_ (show r.toNat<d.length by lia)];rfl
     have bv:rs.take (i+1)=rs.take i++[r]:=by rw[jF_,hr];rfl
     nofun;refine#[_,SqL.of (u _ _ an),_,Cf ai aI,_,.inl (SqL.of ae),rfl,by simp[EB],?_];by_cases hm:d.getD r.toNat 0∈ds
     ·rw[if_neg (by rw[LZ];rw[jx_]at hm;simp[hm])];refine (ad _ _ _).mpr #[ds,_,u,ae,aJ,by lia,λx=>?_,rfl];rw[bv,jn_,jr_,<-av];exact#[.inl,λz=>z.elim id λz=>by rw[jd_.mp z];exact hm]
     ·rw[if_pos (by rw[LZ];rw[jx_]at hm;simp[hm])];refine#[.inl #[rfl,_,SqL.of ae],_,SqL.of (u _ _ an),_,Cf ai aI,_,ae,by rw[ja_];lia,(ad _ _ _).mpr #[ds++[d.getD r.toNat 0],_,u.over bs,by rw[Ab,jn_];rfl,qm_.mpr #[aJ,by simp,λa a0 b b2=>by rw[jd_.mp b2];exact λz=>hm (z ▸ a0)],by simp;lia,λx=>?_,rfl]];rw[bv,jn_,jr_,jr_,<-av];rfl
    ·left;obtain⟨ds,e,u,ae,aJ,b1,av,rfl⟩:=(ad _ _ _).mp A;right;rw[ja_,jz_]at av;nofun;exists _,.inl (SqL.of ae);rw[ja_];exact k _ ds _ ((aV.trans am).trans u) (IF.cls93 B (jf_ _) ao bI bH ax aJ av)
noncomputable def fnd (c:Nat):Int:=if 97<=c/\c<=102 then (c:Int)-97 else -1
def Rv:(Str.ofString "abcdef").cps.toList=[97,98,99,100,101,102]:=by decide +kernel
def YM : c∈(Str.ofString "abcdef").cps.toList↔97<=c/\c<=102:=by
 rw[Rv];simp;lia
def ZU (h:97<=c/\c<=102):(Str.ofString "abcdef").cps.toList.idxOf c=c-97:=by
 rw[Rv];have:c=97\/c=98\/c=99\/c=100\/c=101\/c=102:=by lia
 rcases this with rfl|rfl|rfl|rfl|rfl|rfl<;>decide
def Xu (c:Nat):Txt.find (Str.ofString "abcdef") #[(List.toArray [c])]=fnd c:=by
 unfold fnd;rcases WL (Str.ofString "abcdef") c with ⟨hm,e,_⟩|⟨hm,e⟩
 ·have h:=YM.mp hm;rw[e,ZU h,if_pos h];lia
 ·rw[e,if_neg (λh=>hm (YM.mpr h))]
def Sl:∀(b:List Nat) (a:Array Nat),(b.map λc=>(#[(List.toArray [c])]:Str)).foldl (λacc p=>acc++(Str.ofString "").cps++p.cps) a=a++b.toArray
 |[],a=>by simp
 |c::b,a=>by
  rw[jT_,xf_,Sl b];have e:(Str.ofString "").cps = (List.toArray []):=by decide +kernel
  rw[e];simp
def Xv (a:List Nat):Txt.join (Str.ofString "") (a.map λc=>(#[(List.toArray [c])]:Str))=#[a.toArray]:=by
 unfold Txt.join Builtin.Str.glued;cases a with
 |nil=>rfl
 |cons c a=>
  rw[jT_,List.drop_one,List.tail_cons,Sl];show (#[(List.toArray [c])++a.toArray]:Str)=_;simp
noncomputable def Ci (ws:α2):Str:=if ws=[] then Str.ofString "." else #[(ws.map λx=>97+x.toNat).toArray]
def okT (L:Nat)(z:Str):Prop:=z=Str.ofString "." \/ (z.cps.toList ≠ []/\∀c∈z.cps.toList,inW L (fnd c)=true)
noncomputable def Tz (z:Str):α2:=if z=Str.ofString "." then [] else z.cps.toList.map fnd
def ZV:(Str.ofString ".").cps.toList=[46]:=by decide +kernel
def YN {L:Nat}(a:L<=6){x:Int}(h:inW L x=true):fnd (97+x.toNat)=x:=by
 unfold inW at h;unfold fnd;simp at h;rw[if_pos s!""];lia
def ZW (h:ws ≠ []):Ci ws≠Str.ofString "." := λz=>by
 unfold Ci at z;rw[if_neg h]at z;have:=qx_ (λs:Str=>s.cps.toList) z;rw[ZV]at this;cases ws with
 |nil=>exact h rfl
 |cons x ws=>simp at this;lia
def VQ {L:Nat}(b:L<=6){ws:α2}(h:∀x∈ws,inW L x=true):okT L (Ci ws)/\Tz (Ci ws)=ws:=by
 by_cases hw:ws=[]
 ·subst hw;exact#[.inl rfl,rfl]
 ·have d:=ZW hw;unfold okT Tz;rw[if_neg d];have e:(Ci ws).cps.toList=ws.map λx=>97+x.toNat:=by unfold Ci;rw[if_neg hw]
  rw[e,jJ_];refine#[.inr #[by simpa using hw,λc f=>?_],?_]
  ·obtain⟨x,a,rfl⟩:=jp_.mp f;rw[YN b (h x a)];exact h x a
  ·have:ws.map (fnd ∘ λx=>97+x.toNat)=ws.map id:=jI_ λx a=>YN b (h x a);rw[this,List.map_id]
def ZX:(Str.ofString "abcdef").length=6:=by decide +kernel
def VR:(Str.ofString "").length=0:=by decide +kernel
def Ce_ (h:inW 6 n=true):atI (Str.ofString "abcdef").cps.toList n=some (97+n.toNat):=by
 unfold inW at h;simp at h;rw[Rv];have:n=0\/n=1\/n=2\/n=3\/n=4\/n=5:=by lia
 rcases this with rfl|rfl|rfl|rfl|rfl|rfl<;>rfl
def VS (h:ws ≠ []):Txt.join (Str.ofString "") (ws.map λn=>(#[(List.toArray [97+n.toNat])]:Str))=Ci ws:=by
 have:=Xv (ws.map λn=>97+n.toNat);rw[jJ_]at this;unfold Ci;rw[if_neg h];exact this
def Sm:∀ws:α2,((ws.map λn=>(#[(List.toArray [97+n.toNat])]:Str)).map λs:Str=>s.length).sum=ws.length
 |[]=>rfl
 |w::ws=>by
  rw[jT_,jT_,qT,Sm ws,jG_];show 1+_=_;lia
def Ij (ws:α2):(Ci ws).length<=ws.length+1:=by
 unfold Ci;split
 ·have:(Str.ofString ".").length=1:=by decide +kernel
  lia
 ·show ((ws.map λx=>97+x.toNat).toArray).size<=_;simp
noncomputable def Xw (K:α3):Sp:=λb H Q _=>∃(a:Addr) (ws:α2),b=[.ref a]/\SqT K H a (ws.map V.int)/\ws.length<=700/\(∀x∈ws,inW 6 x=true)/\∀H',Same H H'->Q (.str (Ci ws)) H'
def Hs:⋯ EE.j47 1 ["word"] (Xw K):=by
 delta EE.j47 Qo
 ·refine e_E h λa=>f_E λws=>f_A λj _=>?_;try clear h;subst j;rfl
 ·left;refine AJ h λa ws l b=>f_A λt=>f_A λhw k=>?_;try clear h;subst l
  right;have u:=Al;refine q_EA _ (Ac (Bb (ptT (Ay (opE EA) (Av (lenD Aq) (by rfl) EE.len jO_ (Aa (pvD 0) Ad)) Af (AL _)))
   (Ae (Ao (P6 rfl EE.q_jf)))
   Az)
   (Ae (Ao (DV qB_ zK_ zL_ Ox A0 (Aa (Bh rfl (Bz rfl) (cp:=JW) oO (D8 (pvD 0)) (λ_ _ _ _=>(As (i:=0) LR rfl (oQ rfl))) (λ_ _ _ _=>By) (λ_ _ _ _=>(Y2 XH (P6 rfl EE.q_je) (pvD 0) (λ_ _=>rfl)))) Ad))))) ?_
  nofun;refine q_EA _ (.inr b) ?_;rw[ja_];refine ite2 (λc=>?_) (λc=>?_)
  ·have e:ws=[]:=ql_.mp s!"";have:=k H (Same.refl _);rw[e]at this;exact this
  ·have m:ws ≠ []:=λe=>c (by rw[e];rfl);obtain⟨f,d⟩:∃f:V->V,∀n:Int,f (V.int n)=.str ⟨(List.toArray [97+n.toNat])⟩:=#[λx=>match x with | .int n=>.str #[(List.toArray [97+n.toNat])]|_=>.non,λ_=>rfl];refine q_AA rfl #[_,b] (Oq (ag:=[]) f rfl b (by rw[ja_];lia) (λx o R g=>?_) (λD p=>?_))
   ·left;obtain⟨n,q,rfl⟩:=Ia o;right;have r:=hw n q;rw[d]at g;nofun;exact Dq (by rw[ZX];lia) _ (Ce_ r) g
   ·have s:(ws.map V.int).map f=(ws.map λn=>(#[(List.toArray [97+n.toNat])]:Str)).map V.str:=by
     rw[jJ_,jJ_];exact jI_ λn _=>d n
    rw[s];refine DL D rfl _ (AK (SqL.of Ab) (by rw[VR];lia) (by rw[Sm,ja_];lia) ?_);rw[VS m];exact k _ (Same.new p)
noncomputable def VT (K:α3):Sp:=λa H Q _=>∃(L:Nat) (z:Str),a=[.int L,.str z]/\1<=L/\L<=6/\z.length<=1000/\(okT L z->∀t H',Same H H'->H' t=some (.tup ((Tz z).map V.int))->Q (.ref t) H')/\(¬ okT L z->False)
def Lx:⋯ EE.j56 2 ["letters","text"] (VT K):=by
 delta EE.j56 Lp
 ·refine e_E h λL=>f_E λz=>f_A λr _=>?_;try clear h;subst r;rfl
 ·left;refine e_E h λL=>f_E λz=>A5 λs h1 M j k l=>?_;try clear h;subst s
  right;have N:=Al;refine q_EA _ (Ac (Bb (ptT (Ay (opE EA) (pvD 1) (P6 rfl EE.q_jf) (AL _)))
   (Ae (Ao (BK Ad)))
   Az)
   (Ac (An (i:=2) Lp.nd (AA AM rfl EE.tuple jE_ (Aa (Bh rfl (Bz rfl) (cp:=JY) oO (Ym (pvD 1)) (λ_ _ _ _=>(As (i:=0) LS rfl (oQ rfl))) (λ_ _ _ _=>By) (λ_ _ _ _=>(UJ (K:=K) rfl qB_ t7 ua WK (P6 rfl EE.q_je) (Aa (pvD 0) Ad)))) Ad)))
   (Ac (Bb (PW.pt (JK (ptT (Ay (opE EA) (Av (lenD Aq) (by rfl) EE.len jO_ (Aa (pvD 2) Ad)) Af (AL _))) (Ir (Cm (ptB (Cd (Ah (K9 EE) hr.d Au (Aa (pvD 0) (Aa (pvD 2) Ad)))))))))
   (Ae Fz)
   Az)
   (Ae (Ao (pvD 2)))))) ?_
  nofun;refine ite2 (λa=>?_) (λa=>?_)
  ·exact#[j8_ _,λp u=>k (.inl a) p _ (Same.new u) (by unfold Tz;rw[if_pos a];exact Ab)]
  ·have O:z.cps.size<=1000:=j;have P:z.cps.toList.length<=1000:=by rw[jL_];exact j
   refine Yn (λi ys f H'=>H'=H/\ys=((z.cps.toList.take i).map fnd).map V.int/\∃o,f=[o]) (Br rfl rfl none rfl) s!"" (λi ys f H' hi h'=>by rw[h'.2.1,ja_,ja_,jC_];lia) (λi c ys f H' b h'=>?_) (λys f H' h' D v=>?_)
   ·left;refine BI h' λw y o A=>?_;try clear h';subst w;subst y;subst A
    right;have B:z.cps.toList[i]?=some c:=by rw[jZ_];exact b
    nofun;refine Br rfl ?_ _ rfl;rw[Xu,jF_,B,jn_,jn_];rfl
   ·left;refine BI h' λC E o F=>?_;try clear h';subst C;subst E;subst F
    right;rw[qg_ (by rw[jL_];lia)];refine DL D rfl _ (.inl #[SqL.of Ab,λt G=>q_EA _ (.inr (SqT.of Ab)) ?_]);have st:=(Same.new v (o:=.lst ((z.cps.toList.map fnd).map V.int))).newT G (o:=.tup ((z.cps.toList.map fnd).map V.int));have I:Tz z=z.cps.toList.map fnd:=by unfold Tz;rw[if_neg a]
    rw[ja_,ja_];refine ite2 (λm=>?_) (λm=>?_)
    ·refine l (λok=>?_);rcases ok with ok|ok
     ·exact a ok
     ·exact ok.1 (ql_.mp s!"")
    ·refine Ai L t (z.cps.toList.map fnd) rfl (SqT.of Ab) (by rw[ja_];lia) λH2 n=>q_EA _ rfl ?_;have q:isW L (z.cps.toList.map fnd)=true ↔ ∀c∈z.cps.toList,inW L (fnd c)=true:=by
      unfold isW;rw[qw_];constructor
      ·intro h c b;exact h _ (qX_ b)
      ·intro h x J;obtain⟨c,b,rfl⟩:=jp_.mp J;exact h c b
     cases g:isW L (z.cps.toList.map fnd) with
     |true=>
      rw[if_neg (by decide)];exact k (.inr #[λe=>m (by rw[e];rfl),q.mp g]) t H2 (st.trans n) (by rw[I];exact n _ _ Ab)
     |false=>
      rw[if_pos (by decide)];refine l (λok=>?_);rcases ok with ok|ok
      ·exact a ok
      ·rw[q.mpr ok.2]at g;cases g
def str0:Str.ofString "0"=#[(List.toArray [48])]:=by decide +kernel
def figs (h:48<=c/\c<=57):(Builtin.Str.occurrences (Str.ofString "0123456789") #[(List.toArray [c])] 0 (Str.ofString "0123456789").length 1).isEmpty=false:=by
 have:∀d:Nat,d<10->(Builtin.Str.occurrences (Str.ofString "0123456789") #[(List.toArray [48+d])] 0 (Str.ofString "0123456789").length 1).isEmpty=false:=by decide +kernel
 have h':=this (c-48) s!""
 rwa [show 48+(c-48)=c by lia]at h'
noncomputable def ZY:Sp:=λa H Q _=>∃n:Int,a=[.str (nt n)]/\0<=n/\n<10 ^ 10/\∀H',Same H H'->Q (.int n) H'
def IG:⋯ EE.j52 1 ["text"] (ZY):=by
 delta EE.j52 Nn
 ·obtain⟨n,rfl,_⟩:=h;rfl
 ·left;refine e_E h λn=>f_A λg=>f_A λa=>f_A λh1 k=>?_;try clear h;subst g
  have v:=Al;obtain⟨w,x⟩:=Mo a h1;right;have y:(nt n).cps.toList.length=(nt n).length:=by simp[Str.length]
  have j:(nt n).cps.size=(nt n).length:=rfl;refine q_EA _ (Ac (Bb (PW.pt (JK (Cm (RF QJ QJ Af (Av PM (by rfl) EE.len jO_ (Aa (pvD 0) Ad)) (Zd rfl EE.q_j9))) (Ir (Cm (ptB (Cd (Av (LW rfl) rfl EE.all xS_ (Aa (Bh rfl (Bz rfl) (cp:=Hi) oO (Ym (pvD 0)) (λ_ _ _ _=>(As (i:=0) JX rfl (oQ rfl))) (λ_ _ _ _=>By) (λ_ _ _ _=>(D9 T7 (pvD 0) (P6 rfl EE.q_jd) rfl))) Ad))))))))
   (Ae Fz)
   Az)
   (Ac (Bb (PW.pt (XE (ptT (Ay (opE EA) (Y2 XH (pvD 0) Af (λ_ _=>rfl)) A0 (AL _))) (TY (ptT (Ay (opN KH) (pvD 0) A0 (AL _))))))
   (Ae Fz)
   Az)
   (Ae (Ao (AA U0 rfl EE.int qD (Aa (pvD 0) Ad)))))) ?_
  nofun;refine#[by lia,?_];rw[if_pos s!"",if_neg (by simp;lia)];refine Yn (λi zs b H'=>H'=H/\zs=(oN i).map (λ_=>V.bl true)/\∃o,b=[o]) (Br rfl rfl none rfl) (by rw[j];lia) (λi zs b H' hi h'=>by rw[h'.2.1];simp) (λi c zs b H' d h'=>?_) (λzs b H' h' D l=>?_)
  ·left;refine BI h' λm p o q=>?_;try clear h';subst m;subst p;subst q
   right;have r:=R8 a (je_ (show (nt n).cps.toList[i]?=some c by simpa using d));nofun;rw[figs r];exact#[by rw[xh_,jn_];rfl,_,rfl]
  ·left;refine BI h' λs t o u=>?_;try clear h';subst s;subst t;subst u
   right;refine Ar D rfl ((oN (nt n).cps.size).map (λ_=>true)) (SqL.of (by rw[Ab,jJ_];rfl)) ?_;refine Bw (by simp) ?_;obtain⟨c,d⟩:∃c,(nt n).cps.toList[0]?=some c:=#[(nt n).cps.toList[0]'s!"",by simp[show 0<(nt n).cps.toList.length by lia]];refine Dq s!"" c (Fb (xP_ 0) d) ?_;rw[str0];have f:∃i,nt n=nt i/\0<=i/\i<10 ^ 10/\Q (V.int i) (upd H' D (HO.lst ((oN (nt n).cps.size).map (λ_=>V.bl true)))):=q_EA n rfl (q_AA a h1 (k _ (Same.new l)));by_cases e:c=48
   ·subst e;have:=Zj a d;subst this;rw[if_pos rfl,if_neg (by rw[Zk];simp)];exact f
   ·rw[if_neg (by simpa using e)];exact f
noncomputable def tx (s:String):Str:=Str.ofString s
noncomputable def VU:Sp:=λa H Q _=>∃n m:Int,a=[.str (nt n),.int m]/\1<=n/\n<10 ^ 10/\n<=m/\∀H',Same H H'->Q (.int n) H'
def O7:⋯ EE.j53 2 ["text","most"] (VU):=by
 delta EE.j53 JR
 ·refine e_E h λn=>f_E λm=>f_A λa _=>?_;try clear h;subst a;rfl
 ·left;refine AJ h λn m b c=>f_A λh1=>f_A λh2 k=>?_;try clear h;subst b
  right;refine q_EA _ (Ac (An (i:=2) JR.nd (Ah (IG EE) hr.d Au (Aa (pvD 0) Ad)))
   (Ac (Bb (Cm (RF QJ QJ Af (pvD 2) (pvD 1)))
   (Ae Fz)
   Az)
   (Ae (Ao (pvD 2))))) ?_
  nofun;refine q_EA n rfl (q_AA s!"" h1 λH' s'=>q_EA n rfl ?_);refine DZ c ?_;refine q_EA n rfl ?_;refine Bw (by simp;exact h2) ?_;exact k H' s'
def spc:Str.ofString " "=#[(List.toArray [32])]:=by decide +kernel
def nwl:Str.ofString "\n"=#[(List.toArray [10])]:=by decide +kernel
def cut1 (x:V)(xs:List V):cutV (x::xs) (some 1) none=xs:=by
 unfold cutV HT.sIx;simp
def cutL (v:V)(xs:List V):cutV (xs++[v]) none (some (-1))=xs:=by
 unfold cutV HT.sIx;simp only[jk_,jB_,xo_,zh_];rw[if_pos (by omega),show ((-1:Int)+((xs.length+1:Nat):Int)).toNat=xs.length by omega];exact qz rfl
noncomputable def rowS (ps:List Str):Str:=Txt.join (Str.ofString " ") ps
noncomputable def Xx:Sp:=λa H Q _=>∃(f:Str) (ps:List Str),a=[.str f,.int ps.length,.str (rowS (f::ps))]/\32∉f.cps.toList/\(∀p∈ps,32∉p.cps.toList)/\(rowS (f::ps)).length<=900000/\∀l H',Same H H'->H l=none->H' l=some (.lst (ps.map V.str))->Q (.ref l) H'
def Es:⋯ EE.j51 1 ["first","count","row"] (Xx):=by
 delta EE.j51 G0
 ·refine e_E h λf=>f_E λps=>f_A λc _=>?_;try clear h;subst c;rfl
 ·left;refine AJ h λf ps d e=>f_A λg=>f_A λj k=>?_;try clear h;subst d
  right;have n:=Al;refine q_EA _ (Ac (An (i:=3) G0.nd (DV qB_ ql qm Qa (pvD 2) (Aa A0 Ad)))
   (Ac (Bb (PW.pt (JK (ptT (Ay (opN KH) (Aj (ixLD Bo) (pvD 3) Af) (pvD 0) (AL _))) (Ir (ptT (Ay (opN KH) (Av (lenD Aq) (by rfl) EE.len jO_ (Aa (pvD 3) Ad)) (AW (opD0 Cn) (pvD 1) Af) (AL _))))))
   (Ae Fz)
   Az)
   (Ae (Ao (BV Jf (pvD 3) (BR Af) EK))))) ?_
  nofun;have m:Txt.split (rowS (f::ps)) (Str.ofString " ")=f::ps:=by
   unfold rowS;rw[spc];exact NN (by decide) (by simp) λp a=>by
    rcases jw_.mp a with rfl|a
    ·exact e
    ·exact g p a
  refine AK rfl (by decide +kernel) j λl b=>?_;rw[m];refine q_EA _ (SqL.of Ab) (A7 _ (Fb (xP_ 0) rfl) rfl ?_);refine Bw (by simp) ?_;refine q_EA _ (.inl (SqL.of Ab)) ?_;refine Bw (by simp) ?_;refine q_EA _ (SqL.of Ab) λp a=>?_;rw[jT_,cut1];exact k p _ ((Same.new b).newT a) ((Same.new b).none a) Ab
noncomputable def VW:Sp:=λa H Q _=>∃(z:Str) (rs:List Str),a=[.str z]/\z=Txt.join (Str.ofString "\n") (rs++[Str.ofString ""])/\rs ≠ []/\(∀p∈rs,10∉p.cps.toList)/\z.length<=900000/\∀l H',Same H H'->H l=none->H' l=some (.lst (rs.map V.str))->Q (.ref l) H'
def TB:⋯ EE.j50 1 ["text"] (VW):=by
 delta EE.j50 NS
 ·refine e_E h λz=>f_E λrs=>f_A λc _=>?_;try clear h;subst c;rfl
 ·left;refine e_E h λz=>f_E λrs=>A5 λd e f g j k=>?_;try clear h;subst d
  right;have n:=Al;refine q_EA _ (Ac (An (i:=1) NS.nd (DV qB_ ql qm Qa (pvD 0) (Aa A0 Ad)))
   (Ac (Bb (PW.pt (JK (ptT (Ay (opD0 QI) (Av (lenD Aq) (by rfl) EE.len jO_ (Aa (pvD 1) Ad)) Af (AL _))) (Ir (ptT (Ay (opN KH) (Aj (ixLD Bo) (pvD 1) (T3 Pu Af)) A0 (AL _))))))
   (Ae Fz)
   Az)
   (Ae (Ao (BV Jf (pvD 1) EK (BR (T3 Pu Af))))))) ?_
  nofun;have m:Txt.split z (Str.ofString "\n")=rs++[Str.ofString ""]:=by
   rw[e,nwl];exact NN (by decide) (by simp) λp a=>by
    rcases jr_.mp a with a | a
    ·exact g p a
    ·rw[jd_.mp a];decide +kernel
  refine AK rfl (by decide +kernel) j λl b=>?_;rw[m];rw[jn_];have o:0<rs.length:=za_.mpr f;refine q_EA _ (.inl (SqL.of Ab)) ?_;refine Bw (by rw[jk_,ja_];simp;omega) ?_;refine q_EA _ (SqL.of Ab) (A7 (V.str (Str.ofString "")) (QU (by simp)) rfl ?_);refine Bw (by simp) ?_;refine q_EA _ (SqL.of Ab) λp a=>?_;rw[xn_,cutL];exact k p _ ((Same.new b).newT a) ((Same.new b).none a) Ab
noncomputable def Rw:Sp:=λa H Q _=>∃(f:Str) (n:Int),a=[.str f,.str (rowS [f,nt n])]/\32∉f.cps.toList/\f.length<=100/\1<=n/\n<=6/\∀H',Same H H'->Q (.int n) H'
def O8 (a:0<=n) (hc:c<48):c∉(nt n).cps.toList:=λz=>by
 have:=R8 a z;lia
def Sn (ps:List Str)(B:Nat)(h:∀p∈ps,p.length<=B):(rowS ps).length<=ps.length*B+ps.length:=by
 have h1:=xH_ (Str.ofString " ") ps;have h2:=StrLaws.sumLen_le (B:=B) ps h;have a:(Str.ofString " ").length=1:=by decide +kernel
 rw[a]at h1;show (Builtin.Str.glued (Str.ofString " ") ps).length<=_;rw[qu_];lia
def MW:⋯ EE.j54 3 ["first","row"] (Rw):=by
 delta EE.j54 Mw
 ·refine e_E h λf=>f_E λn=>f_A λc _=>?_;try clear h;subst c;rfl
 ·left;refine e_E h λf=>f_E λn=>A5 λe g i j h1 k=>?_;try clear h;subst e
  right;refine q_EA _ (Ae (Ao (Ah (O7 EE) hr.d Au (Aa (Aj (ixLD Bo) (Ah (Es EE) hr.d Au (Aa (pvD 0) (Aa Af (Aa (pvD 1) Ad)))) Af) (Aa (Zd rfl EE.q_j8) Ad))))) ?_;nofun;have b:n<10 ^ 10:=by lia
  have q:=(Mo s!"" b).2;refine AO f ([nt n]) rfl g (λp a=>by rw[jd_.mp a];exact O8 s!"" (by decide)) ?_ λl H' s' r m=>?_
  ·have:=Sn [f,nt n] 100 (λp a=>by
    rcases jw_.mp a with rfl|a
    ·exact i
    ·rw[jd_.mp a];lia)
   simp at this;lia
  ·nofun;exact Ar _ (SqL.of m) _ (Fb (xP_ 0) rfl) (AO n _ rfl j b h1 λH2 o=>k H2 (s'.trans o))
noncomputable def rowL (ps:List Str):List Nat:=jn 32 (ps.map λp:Str=>p.cps.toList)++[10]
noncomputable def tL (rows:List (List Str)):List Nat:=(rows.map rowL).flatten
noncomputable def BN (ps:List Str):Str:=rowS ps++Str.ofString "\n"
def L7 (ps:List Str):(rowS ps).cps.toList=jn 32 (ps.map λp:Str=>p.cps.toList):=by
 show (Builtin.Str.glued (Str.ofString " ") ps).cps.toList=_;rw[qu_,spc,Mn]
def VX (ps:List Str):(BN ps).cps.toList=rowL ps:=by
 unfold BN rowL;rw[zB_,xC_,L7,nwl]
def Cf_:∀ps:List Str,(Str.join (Str.ofString "") ps).cps.toList=(ps.map λp:Str=>p.cps.toList).flatten
 |[]=>rfl
 |[p]=>by simp[Str.join]
 |p::q::r=>by
  show (p++Str.ofString "" ++ Str.join (Str.ofString "") (q::r)).cps.toList=_;have e:(Str.ofString "").cps.toList=[]:=by decide +kernel
  rw[zB_,zB_,xC_,xC_,Cf_ (q::r),e];simp
def VY (c:Nat):∀xs:List (List Nat),jn c (xs++[[]])=(xs.map (· ++ [c])).flatten
 |[]=>rfl
 |[p]=>by simp[jn]
 |p::q::r=>by
  have:=VY c (q::r);show p++c::jn c (q::r++[[]])=_;rw[this];simp
noncomputable def TC (K:α3):Sp:=λb H Q _=>∃(a:Addr) (ps:List Str),b=[.ref a]/\SqL K H a (ps.map V.str)/\ps.length<=10/\(∀p∈ps,p.length<=1000)/\Q (.str (BN ps)) H
def Ge:⋯ EE.j48 1 ["parts"] (TC K):=by
 delta EE.j48 Q8
 ·refine e_E h λa=>f_E λps=>f_A λc _=>?_;try clear h;subst c;rfl
 ·left;refine AJ h λa ps d e=>f_A λf=>f_A λb k=>?_;try clear h;subst d
  right;have g:=Al;refine q_EA _ (Ae (Ao (AW Sy (DV qB_ zK_ zL_ Ox A0 (Aa (pvD 0) Ad)) A0))) ?_;nofun;have h1:=StrLaws.sumLen_le (B:=1000) ps b;have h2:=Sn ps 1000 b;have i:(Str.ofString "\n").length=1:=by decide +kernel
  have j:ps.length*1000<=10000:=by lia
  refine Dq rfl ps e (q_AA (by decide +kernel) s!"" ?_);exact#[by show (rowS ps).length+_<=_;lia,k]
def YO {c x:Nat}:∀{ps:List (List Nat)},x∈jn c ps->x=c \/ ∃p∈ps,x∈p
 |[],h=>by cases h
 |[p],h=>.inr (q_EA p (jt_ ..) h)
 |p::q::r,h=>by
  rcases jr_.mp (show x∈p++c::jn c (q::r) from h) with h|h
  ·exact .inr (q_EA p (jt_ ..) h)
  ·rcases jw_.mp h with h|h
   ·exact .inl h
   ·rcases YO h with h|⟨a,h1,h2⟩
    ·exact .inl h
    ·exact .inr (q_EA a (jo_ _ h1) h2)
def E3 (K:α3)(H:Hp)(a:Addr)(L:Int)(A E:α1)(b:List (α2×Int)):Prop:=∃(ta te th:Addr) (xs:List V),SqT K H a [.int L,.ref ta,.ref te,.ref th]/\Rows K H ta A/\Rows K H te E/\SqT K H th xs/\JO K H xs b
def E3.mono {K:α3} (h:E3 K H a L A E Hd)(s:Same H H'):E3 K H' a L A E Hd:=by
 refine e_E h λta=>BL λte th xs h1 h2 b c d=>?_;try clear h
 exact AY ta te th xs (s.seqT h1) (h2.mono s) (q_AA (b.mono s) (s.seqT c) (d.mono s))
structure PWf (L:Int)(A E:α1)(Hd:List (α2×Int)):Prop where
 l1:1<=L
 l6:L<=6
 na:A.length<=40
 ne:E.length<=40
 nh:Hd.length<=500
 wa:∀w∈A,w.length<=600/\isW L w=true
 we:∀w∈E,w.length<=600/\isW L w=true
 wh:∀p∈Hd,(p.1.length<=600/\isW L p.1=true)/\0<=p.2/\p.2<=1000000000
noncomputable def wayR (w:α2):List Str:=[Str.ofString "way",Ci w]
noncomputable def endR (w:α2):List Str:=[Str.ofString "end",Ci w]
noncomputable def Fp (p:α2×Int):List Str:=[Str.ofString "heard",Ci p.1,nt p.2]
noncomputable def Cc (L:Int)(A E:α1)(a:List (α2×Int)):List (List Str):=[Str.ofString "paper",nt L]::(A.map wayR++(E.map endR++a.map Fp))
def isW6 {L:Int}(h:L<=6){w:α2}(hw:isW L w=true):∀x∈w,inW 6 x=true:=λx a=>by
 have:=AE.mp hw x a;exact QS.mpr #[this.1,by lia]
def Rx {w:α2}(h:w.length<=600):(Ci w).length<=1000:=by have:=Ij w;lia
def VZ (ps:List Str):(BN ps).length<=(ps.map (·.length)).sum+ps.length+1:=by
 have h1:=xH_ (Str.ofString " ") ps;have a:(Str.ofString " ").length=1:=by decide +kernel
 have b:(Str.ofString "\n").length=1:=by decide +kernel
 rw[a]at h1;unfold BN rowS;rw[Str.length_append,b];show (Builtin.Str.glued (Str.ofString " ") ps).length+1<=_;rw[qu_];lia
def N2 (b:PWf L A E Hd) (a:r∈Cc L A E Hd):(r.map (·.length)).sum+r.length<=700/\1<=r.length:=by
 have d:=b.l1;have e:=b.l6;have f:=(Mo (show 0<=L by lia) (show L<10 ^ 10 by lia)).2;have g:(Str.ofString "way").length=3:=by decide +kernel
 have h:(Str.ofString "end").length=3:=by decide +kernel
 have i:(Str.ofString "heard").length=5:=by decide +kernel
 have ep:(Str.ofString "paper").length=5:=by decide +kernel
 rcases jw_.mp a with rfl|a
 ·simp;lia
 ·rcases jr_.mp a with a|a
  ·obtain⟨w,hw,rfl⟩:=jp_.mp a;have:=(b.wa w hw).1;have:=Ij w;simp[wayR];lia
  ·rcases jr_.mp a with a|a
   ·obtain⟨w,hw,rfl⟩:=jp_.mp a;have:=(b.we w hw).1;have:=Ij w;simp[endR];lia
   ·obtain⟨p,c,rfl⟩:=jp_.mp a;have h1:=b.wh p c;have h2:=Ij p.1;have j:=h1.1.1;have k:=(Mo h1.2.1 (show p.2<10 ^ 10 by lia)).2;simp[Fp];lia
def Qw (L:Int)(A E:α1)(a:List (α2×Int)):(Cc L A E a).length=1+A.length+E.length+a.length:=by unfold Cc;simp;lia
def Qx {K:α3} (f:α2->Str)(e:cp.st σ=none::ag)(g:Rows K H t ws)(hz:ws.length<=1000)
  (hs:∀w∈ws,∀u H2 (R:VK),Same H H2->SqT K H2 u (w.map V.int)->(∀d,Same H2 d->R (.str (f w)) d)->te (some (.ref u)::ag) H2 R)
  (m:∀H2 D,Same H H2->H2 D=none->Q (.ref D) (upd H2 D (.lst ((ws.map f).map V.str)))):(∃xs,SqT K H t xs)/\QP (Itt K t) cp (Po 0) Ws te σ H Q:=by
 have z:=Al;refine e_E g λts=>f_A λj=>f_A λn p=>?_;try clear g
 refine#[#[_,j],QQ (xs:=ts.map V.ref) (λi ys b H2=>Same H H2/\ys=((ws.take i).map f).map V.str/\∃o,b=o::ag) (Br (Same.refl _) (by simp) none e) (by rw[ja_];lia) (λi ys b H2 hi h=>#[h.1.seqT j,by rw[h.2.1,ja_,ja_,jC_];lia]) (λi x ys b H2 a h=>?_) (λys b H2 h D q=>?_)]
 ·refine BI h λs r o v=>?_;try clear h;subst r;subst v
  rw[jh_]at a;cases c:ts[i]? with
  |none=>rw[c]at a;cases a
  |some u=>
   rw[c]at a;cases a;have k:i<ws.length:=by rw[<-n];exact (jb_.mp c).1
   have l:ws[i]?=some ws[i]:=by simp[k]
   refine hs ws[i] (qd_ k) u H2 _ s (s.seqT (p i u _ c l)) λd y=>Br (s.trans y) ?_ _ rfl;rw[jF_,l,jn_,jn_];rfl
 ·obtain⟨s,rfl,_⟩:=h;have:ws.take (ts.map V.ref).length=ws:=qg_ (by rw[ja_];lia);rw[this];exact m H2 D s q
noncomputable def Xy (K:α3):Sp:=λc H Q _=>∃(a:Addr) (L:Int) (A E:α1) (b:List (α2×Int)),c=[.ref a]/\E3 K H a L A E b/\PWf L A E b/\∀z H',Same H H'->z.cps.toList=tL (Cc L A E b)->z.length<=900000->Q (.str z) H'
def O9:⋯ EE.j49 2 ["paper"] (Xy K):=by
 delta EE.j49 DX
 ·refine CW h λa L A E f as _=>?_;try clear h;subst as;rfl
 ·left;refine e_E h λa=>Vu λL A b f au av l k=>?_;try clear h;subst au;obtain⟨ta,te,th,xs,G,aw,ax,ah,Q⟩:=av
  right;have aF:=Al;have aG:=l.l1;have S:=l.l6;have aH:=l.na;have aI:=l.ne;have aJ:=l.nh;have aK:=(Mo (show 0<=L by lia) (show L<10 ^ 10 by lia)).2;have aL:(Str.ofString "way").length=3:=by decide +kernel
  have aM:(Str.ofString "end").length=3:=by decide +kernel
  have aN:(Str.ofString "heard").length=5:=by decide +kernel
  have ep:(Str.ofString "paper").length=5:=by decide +kernel
  refine q_EA _ (Ac (An (i:=1) DX.nd (Co (Aa (Ah (Ge EE) hr.d Au (Aa (Co (Aa A0 (Aa (AA Qb rfl EE.str qE (Aa (Aj (ixTD Ap) (pvD 0) Af) Ad)) Ad))) Ad)) Ad)))
   (Ac (AN (DV jK_ pO pP PQ (pvD 1) (Aa (Bh rfl (Bz rfl) (cp:=Iu) oO (D8 (Aj (ixTD Ap) (pvD 0) Af)) (λ_ _ _ _=>(As (i:=0) K3 rfl (oQ rfl))) (λ_ _ _ _=>By) (λ_ _ _ _=>(Ah (Ge EE) hr.d Au (Aa (Co (Aa A0 (Aa (Ah (Hs EE) hr.d Au (Aa (pvD 0) Ad)) Ad))) Ad)))) Ad)))
   (Ac (AN (DV jK_ pO pP PQ (pvD 1) (Aa (Bh rfl (Bz rfl) (cp:=Iv) oO (D8 (Aj (ixTD Ap) (pvD 0) Af)) (λ_ _ _ _=>(As (i:=0) K4 rfl (oQ rfl))) (λ_ _ _ _=>By) (λ_ _ _ _=>(Ah (Ge EE) hr.d Au (Aa (Co (Aa A0 (Aa (Ah (Hs EE) hr.d Au (Aa (pvD 0) Ad)) Ad))) Ad)))) Ad)))
   (Ac (BU jR_ rfl (D8 (Aj (ixTD Ap) (pvD 0) Af)) (Pp rfl (Dr (As (i:=2) DX.nd rfl (oQ rfl)) (Dr (As (i:=3) DX.nd rfl (oQ rfl)) Ma)))
   (Ae (AN (DV jK_ jW_ jX_ BB (pvD 1) (Aa (Ah (Ge EE) hr.d Au (Aa (Co (Aa A0 (Aa (Ah (Hs EE) hr.d Au (Aa (pvD 2) Ad)) (Aa (AA Qb rfl EE.str qE (Aa (pvD 3) Ad)) Ad)))) Ad)) Ad)))))
   (Ae (Ao (DV qB_ zK_ zL_ Ox A0 (Aa (pvD 1) Ad)))))))) ?_
  nofun;refine AH _ G _ rfl L rfl (AK s!"" s!"" s!"" λT ai=>?_);refine AB T ([Str.ofString "paper",nt L]) rfl (SqL.of Ab) (AK (by simp) (λp g=>?_) s!"" λj aj=>?_)
  ·rcases jw_.mp g with rfl|g
   ·lia
   ·rw[jd_.mp g];lia
  have n:=(Same.new ai (o:=.lst [V.str (Str.ofString "paper"),V.str (nt L)])).newT aj (o:=.lst [V.str (BN [Str.ofString "paper",nt L])]);have U:H j=none:=(Same.new ai (o:=.lst [V.str (Str.ofString "paper"),V.str (nt L)])).none aj;have I:upd (upd H T (.lst [V.str (Str.ofString "paper"),V.str (nt L)])) j (.lst [V.str (BN [Str.ofString "paper",nt L])]) j=some (.lst (([[Str.ofString "paper",nt L]].map BN).map V.str)):=Ab;generalize upd (upd H T (.lst [V.str (Str.ofString "paper"),V.str (nt L)])) j (.lst [V.str (BN [Str.ofString "paper",nt L])])=H1 at n I ⊢;refine Dq (.inl #[rfl,_,SqL.of I]) _ (n.seqT G) (Ar _ rfl ta rfl (Qx (ag:=[]) (λw=>BN (wayR w)) rfl (aw.mono n) s!"" (λw hw u H2 R J W X=>?_) (λH2 D J Y=>?_)))
  ·nofun;have s:=l.wa w hw;refine AO u w rfl W s!"" (isW6 S s.2) λak m=>#[by lia,λp g=>AO p (wayR w) rfl (SqL.of Ab) (by simp[wayR,endR,Fp]) (λq c=>?_) (X _ (m.newT g))];rcases jw_.mp c with rfl|c
   ·lia
   ·rw[jd_.mp c];exact Rx s.1
  have v:=(n.trans J).newT Y (o:=.lst ((A.map λw=>BN (wayR w)).map V.str));have y:=Same.new Y (o:=.lst ((A.map λw=>BN (wayR w)).map V.str)) _ _ (J _ _ I);refine Ar D rfl _ y (A7 _ Ab (by rw[ja_,ja_,ja_,ja_];simp;lia) ?_);have m:=v.over U (o:=.lst (([[Str.ofString "paper",nt L]].map BN).map V.str++(A.map λw=>BN (wayR w)).map V.str));have M:upd (upd H2 D (.lst ((A.map λw=>BN (wayR w)).map V.str))) j (.lst (([[Str.ofString "paper",nt L]].map BN).map V.str++(A.map λw=>BN (wayR w)).map V.str)) j=some (.lst (([Str.ofString "paper",nt L]::A.map wayR).map BN |>.map V.str)):=by
   rw[Ab];simp
  generalize upd (upd H2 D (.lst ((A.map λw=>BN (wayR w)).map V.str))) j (.lst (([[Str.ofString "paper",nt L]].map BN).map V.str++(A.map λw=>BN (wayR w)).map V.str))=ak at m M ⊢;clear y v J Y I n;refine Dq (.inl #[rfl,_,SqL.of M]) _ (m.seqT G) (Ar _ rfl te rfl (Qx (ag:=[]) (λw=>BN (endR w)) rfl (ax.mono m) s!"" (λw hw u Z R N W X=>?_) (λZ aa N ab=>?_)))
  ·nofun;have s:=l.we w hw;refine AO u w rfl W s!"" (isW6 S s.2) λak m=>#[by lia,λp g=>AO p (endR w) rfl (SqL.of Ab) (by simp[wayR,endR,Fp]) (λq c=>?_) (X _ (m.newT g))];rcases jw_.mp c with rfl|c
   ·lia
   ·rw[jd_.mp c];exact Rx s.1
  have v:=(m.trans N).newT ab (o:=.lst ((b.map λw=>BN (endR w)).map V.str));have y:=Same.new ab (o:=.lst ((b.map λw=>BN (endR w)).map V.str)) _ _ (N _ _ M);refine Ar aa rfl _ y (A7 _ Ab (by rw[ja_,ja_,ja_,ja_];simp;lia) ?_);have O:=v.over U (o:=.lst ((([Str.ofString "paper",nt L]::A.map wayR).map BN |>.map V.str)++(b.map λw=>BN (endR w)).map V.str));have al:upd (upd Z aa (.lst ((b.map λw=>BN (endR w)).map V.str))) j (.lst ((([Str.ofString "paper",nt L]::A.map wayR).map BN |>.map V.str)++(b.map λw=>BN (endR w)).map V.str)) j=some (.lst (([Str.ofString "paper",nt L]::(A.map wayR++b.map endR)).map BN |>.map V.str)):=by
   rw[Ab];simp
  generalize upd (upd Z aa (.lst ((b.map λw=>BN (endR w)).map V.str))) j (.lst ((([Str.ofString "paper",nt L]::A.map wayR).map BN |>.map V.str)++(b.map λw=>BN (endR w)).map V.str))=aO at O al ⊢;clear y v N ab M m;refine Ar _ (O.seqT G) _ rfl (A7 th rfl #[_,O.seqT ah] ?_);obtain⟨ac,z⟩:∃ac:Nat->St->Hp->Prop,∀i ag H',ac i ag H'↔(∃ad ae:Option V,Same H H'/\H' j=some (.lst (([Str.ofString "paper",nt L]::(A.map wayR++(b.map endR++(f.take i).map Fp))).map BN |>.map V.str))/\ag=[some (.ref a),some (.ref j),ad,ae]):=#[_,λ_ _ _=>qk_];refine forT (xs:=xs) ac ((z _ _ _).mpr (AB none none O (by rw[al];simp) rfl)) (λi ag H' _ h'=>by refine e_E ((z _ _ _).mp h') λ_=>f_E λ_=>f_A λs' _=>?_;exact s'.seqT ah) (λi x ag H' am h'=>?_) (λag H' h'=>?_)
  ·refine AJ ((z _ _ _).mp h') λad ae s' C ay=>?_;subst ay;have hi:i<f.length:=by rw[<-Q.1];exact (jb_.mp am).1
   have P:f[i]?=some f[i]:=by simp[hi]
   left;refine AJ (Q.2 i _ P) λt az an ao=>f_A λap aA=>?_;right;rw[am]at an;cases an;have F:=l.wh _ (je_ P);generalize f[i]=af at P ao ap aA F;have aP:=(Mo F.2.1 (show af.2<10 ^ 10 by lia)).2;nofun;refine A7 _ (s'.seqT ao) rfl ?_;nofun;refine#[.inl #[rfl,_,SqL.of C],AO az af.1 rfl (s'.seqT ap) s!"" (isW6 S F.1.2) λaQ aq=>AK F.2.1 s!"" s!"" λp g=>AO p (Fp af) rfl (SqL.of Ab) (by simp[wayR,endR,Fp]) (λq c=>?_) (A7 _ (Same.new g _ _ (aq _ _ C)) ?_ ((z _ _ _).mpr (AB _ _ (((s'.trans aq).newT g).over U) ?_ rfl)))]
   ·rcases jw_.mp c with rfl|c
    ·lia
    ·rcases jw_.mp c with rfl|c
     ·exact Rx F.1.1
     ·rw[jd_.mp c];lia
   ·simp;lia
   ·rw[Ab,jF_,P];simp
  ·left;refine AJ ((z _ _ _).mp h') λad ae s' C aB=>?_;subst aB;right;rw[qg_ (by rw[Q.1];lia)]at C;nofun;have aC:∀p∈(Cc L A b f).map BN,p.length<=701:=λp g=>by
    left;obtain⟨r,hr,rfl⟩:=jp_.mp g;right;have h1:=VZ r;have h2:=(N2 l hr).1;lia
   have aD:=StrLaws.sumLen_le (B:=701) _ aC;have ar:=Qw L A b f;rw[ja_,ar]at aD;have e:(Txt.join (Str.ofString "") ((Cc L A b f).map BN)).cps.toList=tL (Cc L A b f):=by
    show (Builtin.Str.glued (Str.ofString "") _).cps.toList=_;rw[qu_,Cf_,jJ_];unfold tL
    congr 1
    exact jI_ λr _=>VX r
   refine Dq rfl ((Cc L A b f).map BN) (SqL.of C) (q_AA (by decide +kernel) (by rw[ja_,ar];lia) (k _ _ s' e ?_));show (Builtin.Str.glued (Str.ofString "") _).length<=_;rw[qu_];have:=xH_ (Str.ofString "") ((Cc L A b f).map BN);have aE:(Str.ofString "").length=0:=by decide +kernel
   rw[aE]at this;lia
def Fq {w:α2}{c:Nat}(hc:c<46):c∉(Ci w).cps.toList:=by
 unfold Ci;split
 ·intro z;have:∀x∈(Str.ofString ".").cps.toList,x=46:=by decide +kernel
  have:=this c z;lia
 ·intro z;rw[zY_]at z;obtain⟨x,_,e⟩:=jp_.mp z;lia
def Pb (ps:List Str):(rowS ps).length<=(ps.map (·.length)).sum+ps.length:=by
 have h1:=xH_ (Str.ofString " ") ps;have a:(Str.ofString " ").length=1:=by decide +kernel
 rw[a]at h1;unfold rowS;show (Builtin.Str.glued (Str.ofString " ") ps).length<=_;rw[qu_];lia
def Cg_ {L:Nat}{w:α2}(h:isW (L:Int) w=true):∀x∈w,inW L x=true:=λx a=>QS.mpr (AE.mp h x a)
noncomputable def V0 (K:α3):Sp:=λb H Q _=>∃(L:Nat) (p:α2×Int),b=[.int L,.str (rowS (Fp p))]/\1<=L/\L<=6/\p.1.length<=600/\isW L p.1=true/\0<=p.2/\p.2<=1000000000/\∀t a H',Same H H'->H' t=some (.tup [.ref a,.int p.2])->H' a=some (.tup (p.1.map V.int))->Q (.ref t) H'
def Pg:⋯ EE.j57 3 ["letters","row"] (V0 K):=by
 delta EE.j57 F3
 ·refine e_E h λL=>f_E λp=>f_A λn _=>?_;try clear h;subst n;rfl
 ·left;refine AJ h λL p o h1=>A5 λc x hw a y k=>?_;try clear h;subst o
  right;have A:=Al;have B:=(Mo a (show p.2<10 ^ 10 by lia)).2;have C:=Ij p.1;have D:(Str.ofString "heard").length=5:=by decide +kernel
  have r:=Pb (Fp p);have s:(rowS (Fp p)).length<=900000:=by simp[Fp]at r;unfold Fp;lia
  have e:=VQ c (Cg_ hw);refine q_EA _ (Ac (An (i:=2) F3.nd (Ah (Es EE) hr.d Au (Aa A0 (Aa Af (Aa (pvD 1) Ad)))))
   (Ac (An (i:=3) F3.nd (Ah (IG EE) hr.d Au (Aa (Aj (ixLD Bo) (pvD 2) Af) Ad)))
   (Ac (Bb (Cm (ptB (Cd (Ah (NV EE) hr.d Au (Aa (pvD 3) Ad)))))
   (Ae Fz)
   Az)
   (Ae (Ao (BK (Aa (Ah (Lx EE) hr.d Au (Aa (pvD 0) (Aa (Aj (ixLD Bo) (pvD 2) Af) Ad))) (Aa (pvD 3) Ad)))))))) ?_
  nofun;refine AO (Str.ofString "heard") ([Ci p.1,nt p.2]) rfl (by decide +kernel) (λq b=>?_) s λl H1 u E f=>?_
  ·rcases jw_.mp b with rfl|b
   ·exact Fq (by decide)
   ·rw[jd_.mp b];exact O8 a (by decide)
  ·refine Ar l rfl _ (SqL.of f) (DL (V.str (nt p.2)) (Fb (by decide) rfl) p.2 (AK rfl a s!"" λH2 g=>q_EA p.2 rfl ?_));refine q_EA _ rfl ?_;refine Bw (by simp;lia) ?_;refine Ar l rfl _ (SqL.of (g _ _ f)) (BH (V.str (Ci p.1)) (Fb (xP_ 0) rfl) L (Ci p.1) rfl h1 (AK c s!"" (λ_ v F w j=>#[by lia,λt m=>?_]) λz=>absurd e.1 z));rw[e.2]at j;exact k t v _ (((u.trans g).trans w).newT m) Ab (Same.new m _ _ j)
noncomputable def V1 (K:α3):Sp:=λb H Q _=>∃(f:Str) (L:Nat) (a:Addr) (ws:α1),b=[.str f,.int L,.ref a]/\SqL K H a ((ws.map λv=>rowS [f,Ci v]).map V.str)/\32∉f.cps.toList/\f.length<=10/\1<=L/\L<=6/\ws.length<=1000/\(∀v∈ws,v.length<=600/\isW L v=true)/\∀t zs H',Same H H'->H' t=some (.tup zs)->Am K H' zs ws->Q (.ref t) H'
def Kb:⋯ EE.j58 3 ["first","letters","rows"] (V1 K):=by
 delta EE.j58 OM
 ·refine AX h λf L a ws=>f_A λw _=>?_;try clear h;subst w;rfl
 ·left;refine AX h λf L a ws=>Bt λy j A O h1 m P hw k=>?_;try clear h;subst y
  right;have Q:=Al;refine q_EA _ (Ae (Ao (AA AM rfl EE.tuple jE_ (Aa (Bh rfl (Bz rfl) (cp:=Iw) #[#[rfl,rfl],#[#[rfl,rfl],oO]] (BZ (pvD 2)) (λ_ _ _ _=>(As (i:=0) K5 rfl (oQ rfl))) (λ_ _ _ _=>By) (λ_ _ _ _=>(Ah (Lx EE) hr.d Au (Aa (pvD 1) (Aa (Aj (ixLD (Ot (K:=K) rfl)) (Ah (Es EE) hr.d Au (Aa (pvD 2) (Aa Af (Aa (pvD 0) Ad)))) Af) Ad))))) Ad)))) ?_;nofun;refine#[#[_,j],Nb (xs:=(ws.map λv=>rowS [f,Ci v]).map V.str) (λi ys c H'=>Same H H'/\Am K H' ys (ws.take i)/\∃o,c=[o,some (.int L),some (.str f)]) (Br (Same.refl _) Am.nil none rfl) (by rw[ja_,ja_];lia) (λi ys c H' hi h'=>#[h'.1.seq j,by rw[h'.2.1.1,jC_];lia]) (λi x ys c H' b h'=>?_) (λys c H' h' D B=>?_)]
  ·left;refine BI h' λs' e o C=>?_;try clear h';subst C
   right;rw[jh_,jh_]at b;cases g:ws[i]? with
   |none=>rw[g]at b;cases b
   |some v=>
    rw[g]at b;cases b;have E:=hw v (je_ g);have n:=VQ m (Cg_ E.2);have R:=Ij v;have F:=Pb [f,Ci v];have G:(rowS [f,Ci v]).length<=900000:=by simp at F;lia
    nofun;refine AO f ([Ci v]) rfl A (λq I=>by rw[jd_.mp I];exact Fq (by decide)) G λl H1 p S J=>?_;refine Ar l rfl _ (SqL.of J) (BH (V.str (Ci v)) (Fb (xP_ 0) rfl) L (Ci v) rfl h1 (AK m s!"" (λ_ T U r s=>?_) λz=>absurd n.1 z));rw[n.2]at s;refine Br ((s'.trans p).trans r) ?_ _ rfl;rw[jF_,g];exact (e.mono (TK.of (p.trans r))).snoc s
  ·left;refine BI h' λs' e o M=>?_;try clear h';subst M
   right;rw[ja_,ja_,jz_]at e;refine DL D rfl _ (.inl #[SqL.of Ab,λt N=>?_]);have u:=(Same.new B (o:=.lst ys)).newT N (o:=.tup ys);exact k t ys _ (s'.trans u) Ab (e.mono (TK.of u))
def N3 (xs:List V)(m n:Nat)(h:m<=n)(a:n<=xs.length):cutV xs (some (m:Int)) (some (n:Int))=(xs.take n).drop m:=by
 unfold cutV;rw[HT.sIx_nat,HT.sIx_nat,show min m xs.length=m from by lia,show min n xs.length=n from by lia,List.drop_take]
def TH (xs:List V)(m:Nat):cutV xs (some (m:Int)) none=xs.drop m:=by
 unfold cutV;rw[HT.sIx_nat,HT.sIx_none];by_cases h:m<=xs.length
 ·rw[qx h,qg_ (by rw[xl_];lia)]
 ·rw[rM s!"",zp_ s!"",zp_ s!""];simp
def Cv {α:Type}(p:Str->Bool)(c:Str):∀l:List α,(l.map λ_=>c).countP p=if p c then l.length else 0
 |[]=>by simp
 |x::l=>by
  rw[jT_,x7_,Cv p c l];cases p c<;>simp
noncomputable def hdR (r:List Str):Str:=r.headD Str.empty
def TJ (a:32∉f.cps.toList):(ptS (rowS (f::p::r)) (Str.ofString " ")).1=f:=by
 refine Str.ext' (Array.toList_inj.mp ?_);rw[spc];refine WQ a (r:=jn 32 ((p::r).map λp:Str=>p.cps.toList)) ?_;rw[L7];rfl
def TM (a:r∈Cc L A E Hd):∃f p q,r=f::p::q/\32∉f.cps.toList:=by
 rcases jw_.mp a with rfl|a
 ·exact BC _ _ _ rfl (by decide +kernel)
 ·rcases jr_.mp a with a|a
  ·obtain⟨w,hw,rfl⟩:=jp_.mp a;exact BC _ _ _ rfl (by decide +kernel)
  ·rcases jr_.mp a with a|a
   ·obtain⟨w,hw,rfl⟩:=jp_.mp a;exact BC _ _ _ rfl (by decide +kernel)
   ·obtain⟨w,hw,rfl⟩:=jp_.mp a;exact BC _ _ _ rfl (by decide +kernel)
def Lz (L:Int)(A E:α1)(a:List (α2×Int)):(Cc L A E a).map hdR=Str.ofString "paper" :: ((A.map λ_=>Str.ofString "way")++((E.map λ_=>Str.ofString "end")++(a.map λ_=>Str.ofString "heard"))):=by
 unfold Cc;simp[hdR,wayR,endR,Fp,Function.comp_def]
def V2 (L:Int)(A E:α1)(a:List (α2×Int)):((Cc L A E a).map hdR).countP (λs=>decide (s=Str.ofString "way"))=A.length:=by
 rw[Lz,x7_,q6_,q6_,Cv,Cv,Cv];have h1:decide (Str.ofString "paper"=Str.ofString "way")=false:=by decide +kernel
 have h2:decide (Str.ofString "end"=Str.ofString "way")=false:=by decide +kernel
 have b:decide (Str.ofString "heard"=Str.ofString "way")=false:=by decide +kernel
 simp[h1,h2,b]
def V3 (L:Int)(A E:α1)(a:List (α2×Int)):((Cc L A E a).map hdR).countP (λs=>decide (s=Str.ofString "end"))=E.length:=by
 rw[Lz,x7_,q6_,q6_,Cv,Cv,Cv];have h1:decide (Str.ofString "paper"=Str.ofString "end")=false:=by decide +kernel
 have h2:decide (Str.ofString "way"=Str.ofString "end")=false:=by decide +kernel
 have b:decide (Str.ofString "heard"=Str.ofString "end")=false:=by decide +kernel
 simp[h1,h2,b]
def JO.snoc47 {K:α3} (h:JO K H xs fU) (h1:SqT K H t [.ref wt,.int tr.2])(h2:SqT K H wt (tr.1.map V.int))(b:tr.1.length<=600):JO K H (xs++[.ref t]) (fU++[tr]):=by
 refine#[by rw[jk_,jk_,h.1];rfl,λi r hi=>?_];by_cases a:i<fU.length
 ·rw[ji_ a]at hi;rw[ji_ (by rw[h.1];exact a)];exact h.2 i r hi
 ·have:=(jb_.mp hi).1;rw[jk_,jB_]at this;have c:i=fU.length:=by lia
  subst c;rw[ju_ (jf_ _),qK_]at hi;simp at hi;subst hi;exact BS t wt (by rw[<-h.1];simp) h1 h2 b
def Am.toRows47 {K:α3}{H:Hp}{w:Addr}{zs:List V}{ws:α1}(h:Am K H zs ws)(hw:SqT K H w zs):Rows K H w ws:=by
 refine A7 (zs.map (λv=>match v with | .ref t=>t|_=>0)) ?_ (by rw[ja_];exact h.1) λi t r hi c=>?_
 ·have e:(zs.map (λv=>match v with | .ref t=>t|_=>0)).map V.ref=zs:=by
   rw[jJ_];refine qH_ λi=>?_;rw[jh_];by_cases hi:i<ws.length
   ·obtain⟨t,a,_⟩:=h.2 i ws[i] (by simp[hi]);rw[a];rfl
   ·rw[j5_ (by rw[h.1];lia)];rfl
  rw[e];exact hw
 ·obtain⟨d,a,b⟩:=h.2 i r c;rw[jh_,a]at hi;cases hi;exact SqT.of b
noncomputable def V4 (K:α3):Sp:=λc H Q _=>∃(z:Str) (L:Int) (A E:α1) (b:List (α2×Int)),c=[.str z]/\PWf L A E b/\z.cps.toList=tL (Cc L A E b)/\z.length<=900000/\∀a H',Same H H'->E3 K H' a L A E b->Q (.ref a) H'
def Ph:⋯ EE.j59 4 ["text"] (V4 K):=by
 delta EE.j59 Bl
 ·refine CW h λz L A E b ai _=>?_;try clear h;subst ai;rfl
 ·left;refine e_E h λz=>f_E λT=>BL λA a b aj j ak al k=>?_;try clear h;subst aj
  right;have a0:=Al;obtain⟨L,rfl⟩:∃L:Nat,T=(L:Int):=#[T.toNat,by have:=j.l1;lia];have am:=j.l1;have an:=j.l6;have a1:=j.na;have a2:=j.ne;have a3:=j.nh;refine q_EA _ (Ac (An (i:=1) Bl.nd (Ah (TB EE) hr.d Au (Aa (pvD 0) Ad)))
   (Ac (Dz (i:=2) Bl.nd rfl (o9 rfl) (Ah (MW EE) hr.d Au (Aa A0 (Aa (Aj (ixLD Bo) (pvD 1) Af) Ad))))
   (Ac (QO (i:=3) Bl.nd rfl rfl rfl (Bz rfl) (cp:=Iy) oO (BZ (pvD 1)) (λ_ _ _ _=>(As (i:=0) K6 rfl (oQ rfl))) (λ_ _ _ _=>By) (λ_ _ _ _=>(Aj (ixTD (GK (K:=K) rfl)) (UJ (K:=K) rfl qB_ r9 sd OA (pvD 0) (Aa A0 Ad)) Af)))
   (Ac (An (i:=4) Bl.nd (AW (opD0 Cn) Af (DV jK_ pZ p8 Qd (pvD 3) (Aa A0 Ad))))
   (Ac (An (i:=5) Bl.nd (AW (opD0 Cn) (pvD 4) (DV jK_ pZ p8 Qd (pvD 3) (Aa A0 Ad))))
   (Ac (An (i:=6) Bl.nd (Ah (Kb EE) hr.d Au (Aa A0 (Aa (pvD 2) (Aa (BV Jf (pvD 1) (BR Af) (BR (pvD 4))) Ad)))))
   (Ac (An (i:=7) Bl.nd (Ah (Kb EE) hr.d Au (Aa A0 (Aa (pvD 2) (Aa (BV Jf (pvD 1) (BR (pvD 4)) (BR (pvD 5))) Ad)))))
   (Ac (An (i:=8) Bl.nd (AA AM rfl EE.tuple jE_ (Aa (Bh rfl (Bz rfl) (cp:=Iz) #[#[rfl,rfl],oO] (BZ (BV Jf (pvD 1) (BR (pvD 5)) EK)) (λ_ _ _ _=>(As (i:=0) K7 rfl (oQ rfl))) (λ_ _ _ _=>By) (λ_ _ _ _=>(Ah (Pg EE) hr.d Au (Aa (pvD 1) (Aa (pvD 0) Ad))))) Ad)))
   (Ae (Ao (BK (Aa (pvD 2) (Aa (pvD 6) (Aa (pvD 7) (Aa (pvD 8) Ad))))))))))))))) ?_
  nofun;have ao:z=Txt.join (Str.ofString "\n") ((Cc L A a b).map rowS++[Str.ofString ""]):=by
   refine Str.ext' (Array.toList_inj.mp ?_);rw[ak];show _=(Builtin.Str.glued (Str.ofString "\n") _).cps.toList;rw[qu_,nwl,Mn,jn_,jJ_];have e:(Str.ofString "").cps.toList=[]:=by decide +kernel
   rw[xn_,e,VY,jJ_];unfold tL
   congr 1
   refine jI_ λr _=>?_;show rowL r=(rowS r).cps.toList++[10];rw[L7];rfl
  have ap:∀r∈Cc L A a b,10∉(rowS r).cps.toList:=λr hr hm=>by
   rw[L7]at hm;rcases YO hm with h|⟨p,J,c⟩
   ·omega
   ·left;obtain⟨q,g,rfl⟩:=jp_.mp J;right;rcases jw_.mp hr with rfl|hr
    ·rcases jw_.mp g with rfl|g
     ·exact absurd c (by decide +kernel)
     ·rw[jd_.mp g]at c;exact O8 (by omega) (by decide) c
    ·rcases jr_.mp hr with hr|hr
     ·left;obtain⟨w,hw,rfl⟩:=jp_.mp hr;right;rcases jw_.mp g with rfl|g
      ·exact absurd c (by decide +kernel)
      ·rw[jd_.mp g]at c;exact Fq (by decide) c
     ·rcases jr_.mp hr with hr|hr
      ·left;obtain⟨w,hw,rfl⟩:=jp_.mp hr;right;rcases jw_.mp g with rfl|g
       ·exact absurd c (by decide +kernel)
       ·rw[jd_.mp g]at c;exact Fq (by decide) c
      ·left;obtain⟨aq,ar,rfl⟩:=jp_.mp hr;right;rcases jw_.mp g with rfl|g
       ·exact absurd c (by decide +kernel)
       ·rcases jw_.mp g with rfl|g
        ·exact Fq (by decide) c
        ·rw[jd_.mp g]at c;exact O8 (j.wh aq ar).2.1 (by decide) c
  refine AB z ((Cc L A a b).map rowS) rfl ao (AK (by unfold Cc;simp) (λp J=>by obtain⟨r,hr,rfl⟩:=jp_.mp J;exact ap r hr) al λm H1 as a4 U=>?_);refine Ar m rfl _ (SqL.of U) (BH _ (Fb (xP_ 0) rfl) (Str.ofString "paper") L rfl (by decide +kernel) (AK (by decide +kernel) am an λH2 W=>?_));have M:=W _ _ U;have a5:=Qw L A a b;have au:=as.trans W;refine A7 m rfl #[_,SqL.of M] (Nb (xs:=((Cc L A a b).map rowS).map V.str) (λi ys y H'=>Same H2 H'/\ys=(((Cc L A a b).take i).map hdR).map V.str/\∃o,y=[o]) (Br (Same.refl _) (by simp) none rfl) (by rw[ja_,ja_];lia) (λi ys y H' hi h'=>#[SqL.of (h'.1 _ _ M),by rw[h'.2.1,ja_,ja_,jC_];lia]) (λi x ys y H' c h'=>?_) (λys y H' h' D av=>?_))
  ·left;refine BI h' λs' aw o ax=>?_;try clear h';subst aw;subst ax
   right;rw[jh_,jh_]at c;cases B:(Cc L A a b)[i]? with
   |none=>rw[B]at c;cases c
   |some r=>
    rw[B]at c;cases c;have X:=je_ B;left;refine e_E (TM X) λf=>f_E λp=>f_E λq=>f_A λay az=>?_;subst ay;right;have a6:=(N2 j X).1;have a7:=Pb (f::p::q);nofun;refine AK rfl (by decide +kernel) s!"" λt aA=>Ar _ (SqT.of Ab) _ (Fb (xP_ 0) rfl) (Br (s'.newT aA) ?_ _ rfl);rw[TJ az,jF_,B,jn_,jn_];rfl
  ·left;refine BI h' λs' aB o aC=>?_;try clear h';subst aB;subst aC
   right;rw[ja_,ja_,jz_];have N:=s'.newT av (o:=.lst (((Cc L A a b).map hdR).map V.str));have n:upd H' D (.lst (((Cc L A a b).map hdR).map V.str)) D=some (.lst (((Cc L A a b).map hdR).map V.str)):=Ab;generalize upd H' D (.lst (((Cc L A a b).map hdR).map V.str))=a8 at N n ⊢;have aD:=au.trans N;have Y:=N _ _ M;refine Dq (.inl #[rfl,_,SqL.of n]) D rfl (A7 _ n (.inl #[rfl,_,SqL.of n]) (Ar D rfl _ n ?_));rw[V2,V3];have O:((Cc L A a b).map rowS).map V.str=V.str (rowS [Str.ofString "paper",nt L])::((A.map λv=>rowS [Str.ofString "way",Ci v]).map V.str++((a.map λv=>rowS [Str.ofString "end",Ci v]).map V.str++(b.map λp=>rowS (Fp p)).map V.str)):=by
    unfold Cc;simp[wayR,endR,Function.comp_def]
   have aE:cutV (((Cc L A a b).map rowS).map V.str) (some 1) (some (1+(A.length:Nat)))=(A.map λv=>rowS [Str.ofString "way",Ci v]).map V.str:=by
    have:=N3 (((Cc L A a b).map rowS).map V.str) 1 (1+A.length) s!"" (by rw[ja_,ja_];lia);rw[show ((1+A.length:Nat):Int)=1+(A.length:Nat) by lia]at this;refine this.trans ?_;rw[O,tV,qQ,z0_,xo_,qz (by simp)]
   have aF:cutV (((Cc L A a b).map rowS).map V.str) (some (1+(A.length:Nat))) (some (1+(A.length:Nat)+(a.length:Nat)))=(a.map λv=>rowS [Str.ofString "end",Ci v]).map V.str:=by
    have:=N3 (((Cc L A a b).map rowS).map V.str) (1+A.length) (1+A.length+a.length) s!"" (by rw[ja_,ja_];lia);rw[show ((1+A.length:Nat):Int)=1+(A.length:Nat) by lia,show ((1+A.length+a.length:Nat):Int)=1+(A.length:Nat)+(a.length:Nat) by lia]at this;refine this.trans ?_;rw[O,show 1+A.length+a.length=(A.length+a.length)+1 by lia,show 1+A.length=A.length+1 by lia,qQ,z0_,<-xx_,qz (by simp),rV (by simp)]
   have aG:cutV (((Cc L A a b).map rowS).map V.str) (some (1+(A.length:Nat)+(a.length:Nat))) none=(b.map λp=>rowS (Fp p)).map V.str:=by
    have:=TH (((Cc L A a b).map rowS).map V.str) (1+A.length+a.length);rw[show ((1+A.length+a.length:Nat):Int)=1+(A.length:Nat)+(a.length:Nat) by lia]at this;refine this.trans ?_;rw[O,show 1+A.length+a.length=(A.length+a.length)+1 by lia,z0_,<-xx_,rV (by simp)]
   refine Ar m rfl _ (SqL.of Y) λaH Z=>?_;rw[aE];refine AY (Str.ofString "way") L aH A rfl (SqL.of Ab) (AF (by decide +kernel) (by decide +kernel) s!"" s!"" s!"" j.wa λta a9 ba aa aI aJ=>?_);have aK:=(aD.newT Z).trans aa;have ab:=aa _ _ (Same.new Z (o:=.lst ((A.map λv=>rowS [Str.ofString "way",Ci v]).map V.str)) _ _ Y);refine Ar m rfl _ (SqL.of ab) λpe aL=>?_;rw[aF];refine AY (Str.ofString "end") L pe a rfl (SqL.of Ab) (AF (by decide +kernel) (by decide +kernel) s!"" s!"" s!"" j.we λac bb ad aM aN aO=>?_);have C:=(Same.new aL (o:=.lst ((a.map λv=>rowS [Str.ofString "end",Ci v]).map V.str))).trans aM;have aP:=aK.trans C;have aQ:=C _ _ ab;refine Ar m rfl _ (SqL.of aQ) λP aR=>?_;rw[aG];have Q:=Same.new aR (o:=.lst ((b.map λp=>rowS (Fp p)).map V.str));have R:upd ad P (.lst ((b.map λp=>rowS (Fp p)).map V.str)) P=some (.lst ((b.map λp=>rowS (Fp p)).map V.str)):=Ab;generalize upd ad P (.lst ((b.map λp=>rowS (Fp p)).map V.str))=aS at Q R ⊢;have aT:=aP.trans Q;refine#[#[_,SqL.of R],Nb (xs:=(b.map λp=>rowS (Fp p)).map V.str) (λi ys F s=>Same aS s/\JO K s ys (b.take i)/\∃o,F=[o,some (.int L)]) (Br (Same.refl _) #[rfl,λi bc hi=>by simp at hi] none rfl) (by rw[ja_,ja_];lia) (λi ys F s hi l=>#[SqL.of (l.1 _ _ R),by rw[l.2.1.1,jC_];lia]) (λi x ys F s c l=>?_) (λys F s l aU aV=>?_)]
   ·left;refine BI l λG H o aW=>?_;try clear l;subst aW
    right;rw[jh_,jh_]at c;cases I:b[i]? with
    |none=>rw[I]at c;cases c
    |some p=>
     rw[I]at c;cases c;have u:=j.wh p (je_ I);nofun;refine AO L p rfl s!"" s!"" u.1.1 (AK u.1.2 u.2.1 u.2.2 λt bd be ae h1 h2=>Br (G.trans ae) ?_ _ rfl);rw[jF_,I];exact JO.snoc47 (H.mono ae) (SqT.of h1) (SqT.of h2) u.1.1
   ·left;refine BI l λG H o aX=>?_;try clear l;subst aX
    right;rw[ja_,ja_,jz_]at H;refine DL aU rfl _ (.inl #[SqL.of Ab,λaf aY=>#[by lia,λaZ ag=>?_]]);have S:=((Same.new aV (o:=.lst ys)).newT aY (o:=.tup ys)).newT ag (o:=.tup [V.int L,V.ref ta,V.ref ac,V.ref af]);have ah:=Q.trans (G.trans S);refine k aZ _ (aT.trans (G.trans S)) (AY ta ac af ys (SqT.of Ab) ?_ (q_AA ?_ (SqT.of (Same.new ag _ _ Ab)) (H.mono S)))
    ·exact (Am.toRows47 (aJ.mono (TK.of C)) (SqT.of (C _ _ aI))).mono ah
    ·exact (Am.toRows47 aO (SqT.of aN)).mono ah
noncomputable def MX (K:α3):Sp:=λb H Q _=>∃(h a:Addr) (L:Int) (af:α2) (ways:α1) (ws:α2),b=[.ref h,.ref a]/\Cp K H h L af ways/\Wf L af ways/\SqT K H a (ws.map V.int)/\isW L ws=true/\Q (.int (Bf af (Ax ways ws))) H
def E4:⋯ EE.j60 1 ["house","word"] (MX K):=by
 delta EE.j60 Du
 ·obtain⟨h,a,L,af,ways,ws,rfl,_⟩:=h;rfl
 ·left;obtain⟨h,a,L,af,ways,ws,rfl,l,b,p,d,k⟩:=h;right;have D:=b.n1;exists _,(Ac (An (i:=2) Du.nd Af)
   (Ac (BU jR_ rfl (D8 (pvD 1)) (As (i:=3) Du.nd rfl (oQ rfl))
   (Ae (An (i:=2) Du.nd (Aj (ixTD Ap) (Aj (ixTD Ap) (Aj (ixTD Ap) (pvD 0) Af) (pvD 2)) (pvD 3)))))
   (Ae (Ao (Aj (ixTD Ap) (Aj (ixTD Ap) (pvD 0) Af) (pvD 2))))))
  nofun;refine#[#[_,p],forT (xs:=ws.map V.int) (λi c H2=>H2=H/\∃o,c=[some (.ref h),some (.ref a),some (.int (BY ways 0 (ws.take i))),o]) #[rfl,none,by simp[BY]] (λi c H2 _ h=>by rw[h.1];exact p) (λi x c H2 v h=>?_) (λc H2 h=>?_)]
  ·left;obtain⟨rfl,o,rfl⟩:=h;obtain⟨n,q,rfl⟩:=JL v;have e:=AE.mp d n (je_ q);have f:=FJ b (ws.take i) (FK d i) (show (0:Int)<=0 by lia) s!"";obtain⟨E,g,w,y,z,F,G⟩:=b.step f.1 f.2 e.1 e.2;obtain⟨m,wv,j,r,s⟩:=id l;obtain⟨xs,t,A,B,C⟩:=s.atZ f.1 w;right;nofun;exists _,j,_,rfl;nofun;exists _,A,_,B;nofun;exists _,C,_,Cf e.1 y;rw[KQ q,z];exact#[rfl,_,rfl]
  ·left;obtain⟨rfl,o,rfl⟩:=h;right;rw[ja_,jz_];left;obtain⟨m,wv,j,r,s⟩:=id l;right;have u:=FJ b ws d (show (0:Int)<=0 by lia) s!"";nofun;exact#[_,j,_,rfl,m,rfl,_,r,_,P4 u.1 u.2,k]
def E3.eqD {K:α3} (h:E3 K H a L A E Hd)(g:E3 K H b L A E Hd):EqD K H 8 (.ref a) (.ref b) true:=by
 refine e_E h λta=>BL λte th xs h1 h2 n o f=>?_;try clear h
 refine e_E g λI=>BL λJ p q r s v w k=>?_;try clear g
 refine .inr (AY a b _ _ rfl rfl (Dq (.inr #[h1,r]) (λ_=>true) (λi x y d e=>?_) (by simp)))
 match i,d,e with
 |0,d,e=>
  cases d;cases e;exact .inl (q_AA rfl rfl (by simp[eqV]))
 |1,d,e=>
  cases d;cases e;have:=h2.eqD s 5
  rwa [jH_ rfl]at this
 |2,d,e=>
  cases d;cases e;have:=n.eqD v 5
  rwa [jH_ rfl]at this
 |3,d,e=>
  cases d;cases e;refine .inr (AY th p xs q rfl rfl (Dq (.inr #[o,w]) (λ_=>true) (λi x y d e=>?_) (by simp[f.1,k.1])));have hi:i<Hd.length:=by rw[<-f.1];exact (jb_.mp d).1
  refine AJ (f.2 i Hd[i] (by simp[hi])) λt z l B=>f_A λC _=>?_;refine AJ (k.2 i Hd[i] (by simp[hi])) λu D m F=>f_A λG _=>?_;rw[d]at l;cases l;rw[e]at m;cases m;refine .inr (AY t u _ _ rfl rfl (Dq (.inr #[B,F]) (λ_=>true) (λj x y d e=>?_) (by simp)))
  match j,d,e with
  |0,d,e=>
   cases d;cases e;have:=EqD.ints (K:=K) (H:=H) (a:=z) (c:=D) (xs:=Hd[i].1) (ys:=Hd[i].1) (.inr #[C,G]) 4;rw[jH_ rfl]at this;exact this
  |1,d,e=>
   cases d;cases e;exact .inl (q_AA rfl rfl (by simp[eqV]))
  |j+2,d,e=>simp at d
 |j+4,d,e=>simp at d
noncomputable def TQ (K:α3)(CA CB:Addr):Sp:=λc H Q _=>∃(a h l:Addr) (ad:AD) (s:AS) (wv:V) (x:Wish) (af:α2) (ways:α1) (xs:List V) (b:α1),c=[.ref a,.ref h,.ref l]/\Asks K CA CB H a ad s wv/\Ce K H s.L wv x/\s.W.length<=90/\Cp K H h s.L af ways/\Wf s.L af ways/\H l=some (.lst xs)/\Am K H xs b/\b.length<=5/\accX s x=s.W++b/\PWf s.L (accX s x) s.E s.es/\(∀e∈s.es,Bf af (Ax ways e.1)=e.2)/\∀H',Same H H'->Q (.bl true) H'
def ED:⋯ EE.j62 5 ["asker","hidden","last"] (TQ K ah ak):=by
 delta EE.j62 Bv
 ·obtain⟨a,h,l,ad,s,wv,x,af,ways,xs,C,rfl,_⟩:=h;rfl
 ·left;obtain⟨a,h,l,ad,s,wv,x,af,ways,xs,C,rfl,S,hw,T,D,U,V,W,X,Y,c,Z,k⟩:=h;have av:=Al;have aw:=c.nh;obtain⟨ax,ay,aa,az,aA⟩:=id D;right;exists _,(Ac (Bb (Cm (ptB (Cd (Ah (Fo EE) hr.d Au (Aa (pvD 0) (Aa (Aj (ixTD Ap) (pvD 1) Af) (Aa (pvD 2) Ad)))))))
   (Ae (Ao E9))
   Az)
   (Ac (An (i:=3) Bv.nd (Ah (Er EE) hr.d Au (Aa (pvD 0) Ad)))
   (Ac (BU jR_ rfl (D8 (Aj (ixTD Ap) (pvD 3) Af)) (Pp rfl (Dr (As (i:=4) Bv.nd rfl (oQ rfl)) (Dr (As (i:=5) Bv.nd rfl (oQ rfl)) Ma)))
   (Ae (Bb (ptT (Ay (opN KH) (Ah (E4 EE) hr.d Au (Aa (pvD 1) (Aa (pvD 4) Ad))) (pvD 5) (AL _)))
   (Ae (Ao E9))
   Az)))
   (Ac (An (i:=6) Bv.nd (Ah (Ph EE) hr.d Au (Aa (Ah (O9 EE) hr.d Au (Aa (pvD 3) Ad)) Ad)))
   (Ae (Ao (Nz (Av CC rfl EE.isinstance qr_ (Aa (pvD 6) (Aa (KG (v:=.ty "tuple") rfl EE.tuple jE_ rfl) Ad))) (Pm (D9 (AC_ 8 (hu9 hr)) (pvD 6) (pvD 3) (AL _))))))))))
  nofun;refine#[_,aa,_,rfl,a,l,ad,s,wv,x,xs,C,rfl,S,hw,T,V,W,X,Y,λH1 p=>?_];dsimp only;exists true,rfl;rw[if_neg (by decide)];refine#[a,ad,s,wv,x,rfl,S.same p,hw.mono (TK.of p),by lia,λt H2 ab ac=>?_];dsimp only;left;obtain⟨ta,te,th,o,aB,aC,q,F,ae,ag,ai,aj,al,aD,g⟩:=id ac;right;have r:SqT K H2 th q:=.inl (.inr #[_,al]);have G:=p.trans ab;have am:=D.mono G;have H:E3 K H2 t s.L (accX s x) s.E s.es:=#[ta,te,th,q,SqT.of F,Am.toRows47 ag ae,Am.toRows47 aj ai,r,g.1,λi I J=>by
   left;obtain⟨t,b,j,m,n⟩:=g.2 i I J;right;exact#[t,b,j,SqT.of m,SqT.of n,(c.wh I (je_ J)).1.1]]
  obtain⟨w,e⟩:∃w:Nat->St->Hp->Prop,∀i f H',w i f H'↔(H'=H2/\∃z A,f=[some (.ref a),some (.ref h),some (.ref l),some (.ref t),z,A,none]):=#[_,λ_ _ _=>qk_];refine#[t,rfl,_,SqT.of F,_,rfl,th,rfl,#[_,r],forT (xs:=q) w ((e _ _ _).mpr #[rfl,none,none,rfl]) (λi f H' _ h'=>by obtain⟨rfl,_⟩:=(e _ _ _).mp h';exact r) (λi y f H' M h'=>?_) (λf H' h'=>?_)]
  ·obtain⟨rfl,z,A,rfl⟩:=(e _ _ _).mp h';have hi:i<s.es.length:=by rw[<-g.1];exact (jb_.mp M).1
   have B:s.es[i]?=some s.es[i]:=by simp[hi]
   left;obtain⟨u,b,j,m,n⟩:=g.2 i _ B;right;rw[M]at j;cases j;have hm:=je_ B;have N:=c.wh _ hm;have O:=Z _ hm;generalize s.es[i]=an at B m n N O;nofun;exists _,SqT.of m,rfl;nofun;exists h,b,s.L,af,ways,an.1,rfl,am,U,SqT.of n,N.1.2;rw[O];dsimp only;exists rfl;rw[if_neg (by simp)];exact (e _ _ _).mpr #[rfl,_,_,rfl]
  ·left;obtain⟨rfl,z,A,rfl⟩:=(e _ _ _).mp h';right;nofun;refine#[t,_,_,_,_,rfl,H,c,λao aE P ap aq=>?_];dsimp only;refine#[ao,_,_,_,_,rfl,c,ap,aq,λar aF Q R=>?_];dsimp only;have as:=E3.eqD R (H.mono (P.trans Q));left;obtain⟨_,_,_,aG,au,_⟩:=id R;right;exists _,_,.tup au,Ll,_,FF;rw[if_pos rfl];exact#[ar,rfl,true,as,k _ ((G.trans P).trans Q)]
noncomputable def TR (K:α3)(CA CB:Addr):Sp:=λb H Q _=>∃(a h h2:Addr) (ad:AD) (s:AS) (wv:V) (x:Wish) (af:α2) (ways:α1),b=[.ref a,.ref h,.ref h2]/\Asks K CA CB H a ad s wv/\Ce K H s.L wv x/\s.W.length<=90/\Cp K H h s.L af ways/\Wf s.L af ways/\accX s x=s.W/\PWf s.L (accX s x) s.E s.es/\(∀e∈s.es,Bf af (Ax ways e.1)=e.2)/\Cp K H h2 s.L ((accX s x).map (mk49 s.es)) (fW s.L (gI s.es s.E) (accX s x))/\B49 s.L (accX s x) s.E s.es/\Jp s.L (accX s x) s.E s.es/\∀H',Same H H'->Q (.bl true) H'
def EF:⋯ EE.j66 6 ["asker","hidden","house"] (TR K ah ak):=by
 delta EE.j66 CS
 ·obtain⟨a,h,h2,ad,s,wv,x,af,ways,rfl,_⟩:=h;rfl
 ·left;obtain⟨a,h,h2,ad,s,wv,x,af,ways,rfl,S,hw,A,B,C,D,g,F,G,j,l,k⟩:=h;right;have aj:=Al;have al:=g.nh;refine#[_,(Ac (Bb (Cm (ptB (Cd (Ah (ED EE) hr.d Au (Aa (pvD 0) (Aa (pvD 1) (Aa (Co Ad) Ad)))))))
   (Ae (Ao E9))
   Az)
   (Ac (An (i:=3) CS.nd (Ah (VB EE) hr.d (FH (P:=P) (w:=w)) (Aa (Ah (Er EE) hr.d Au (Aa (pvD 0) Ad)) Ad)))
   (Ac (Bb (PW.pt (JK (Cm (ptB (Cd (Av CC rfl EE.isinstance qr_ (Aa (pvD 3) (Aa (KG (v:=.ty "tuple") rfl EE.tuple jE_ rfl) Ad)))))) (Ir (ptT (Ay (RX 8 (hu9 hr)) (pvD 3) (pvD 2) (AL _))))))
   (Ae (Ao E9))
   Az)
   (Ac (An (i:=4) CS.nd (Ah (MN EE) hr.d (FH (P:=P) (w:=w)) (Aa (Ah (Er EE) hr.d Au (Aa (pvD 0) Ad)) Ad)))
   (Ae (Ao (Nz (Ah (Gd EE) hr.d Au (Aa (pvD 4) Ad)) (Pm (D9 (opE EA) (pvD 4) (Av (lenD Aq) (by rfl) EE.len jO_ (Aa (Aj (ixTD Ap) (pvD 2) Af) Ad)) (AL _)))))))))),?_]
  nofun;refine#[j8_ _,λp I=>?_];have b:=Same.new I (o:=.lst []);have m:upd H p (.lst []) p=some (.lst []):=Ab;generalize upd H p (.lst [])=am at b m ⊢;refine#[a,h,p,ad,s,wv,x,af,ways,[],[],rfl,S.same b,hw.mono (TK.of b),A,B.mono b,C,m,Am.nil,by simp,by rw[D,xO_],g,F,λH1 J=>?_];dsimp only;exists true,rfl;rw[if_neg (by decide)];have e:=b.trans J;refine#[a,ad,s,wv,x,rfl,S.same e,hw.mono (TK.of e),by lia,λt H2 M N=>?_];dsimp only;obtain⟨xs,ys,O⟩:=N.ppr;refine#[t,s.L,xs,ys,_,_,_,rfl,O,j,λf Q R zs T U _ n V W X=>?_,λ_ _ z=>absurd l z];dsimp only;exists _,_,.tup (SqT.of n),Ll,_,FF;rw[if_neg (by decide)];have c:=e.trans (M.trans U);have q:=G.mono c;have Y:Cp K T f s.L ((accX s x).map (mk49 s.es)) (fW s.L (gI s.es s.E) (accX s x)):=#[Q,R,SqT.of n,SqT.of V,Am.toRows47 X (SqT.of W)];have r:=Y.eqD q;rw[jH_ #[rfl,rfl,rfl]]at r;exists f,rfl,true,r;rw[if_neg (by decide)];refine#[a,ad,s,wv,x,rfl,S.same c,hw.mono (TK.of c),by lia,λt an u Z=>?_];dsimp only;obtain⟨aa,ab,ac⟩:=Z.ppr;refine#[t,s.L,aa,ab,_,_,_,rfl,ac,j,λao y _=>?_,λ_ _ z=>absurd l.1 z];dsimp only;left;obtain⟨ae,ap,ag,ai,aq⟩:=q.mono (u.trans y);right;exists _,rfl;dsimp only;exists true,rfl;rw[if_pos rfl];exists _,ag,_,rfl,ae,rfl,_,.inr ai,rfl;rw[ja_,ja_,jH_ rfl];exact k _ (c.trans (u.trans y))
noncomputable def bq (n:Nat):Nat:=if n<=1 then 0 else if n<=2 then 1 else if n<=4 then 2 else if n<=8 then 3 else if n<=16 then 4 else if n<=32 then 5 else if n<=64 then 6 else if n<=128 then 7 else if n<=256 then 8 else if n<=512 then 9 else 10
def ZZ (n:Nat):bq n<=10:=by
 unfold bq
 repeat' split
 all_goals lia
def Ch_ (h:n<=1):bq n=0:=by unfold bq;rw[if_pos h]
def Z0 (g:1<n)(h:n<=2):bq n=1:=by unfold bq;rw[if_neg s!"",if_pos h]
def Z1 (g:2<n)(h:n<=4):bq n=2:=by unfold bq;rw[if_neg s!"",if_neg s!"",if_pos h]
def Z2 (g:4<n)(h:n<=8):bq n=3:=by unfold bq;rw[if_neg s!"",if_neg s!"",if_neg s!"",if_pos h]
def Z3 (g:8<n)(h:n<=16):bq n=4:=by unfold bq;rw[if_neg s!"",if_neg s!"",if_neg s!"",if_neg s!"",if_pos h]
def Z4 (g:16<n)(h:n<=32):bq n=5:=by unfold bq;rw[if_neg s!"",if_neg s!"",if_neg s!"",if_neg s!"",if_neg s!"",if_pos h]
def Z5 (g:32<n)(h:n<=64):bq n=6:=by unfold bq;rw[if_neg s!"",if_neg s!"",if_neg s!"",if_neg s!"",if_neg s!"",if_neg s!"",if_pos h]
def Z6 (g:64<n)(h:n<=128):bq n=7:=by unfold bq;rw[if_neg s!"",if_neg s!"",if_neg s!"",if_neg s!"",if_neg s!"",if_neg s!"",if_neg s!"",if_pos h]
def Z7 (g:128<n)(h:n<=256):bq n=8:=by unfold bq;rw[if_neg s!"",if_neg s!"",if_neg s!"",if_neg s!"",if_neg s!"",if_neg s!"",if_neg s!"",if_neg s!"",if_pos h]
def Z8 (g:256<n)(h:n<=512):bq n=9:=by unfold bq;rw[if_neg s!"",if_neg s!"",if_neg s!"",if_neg s!"",if_neg s!"",if_neg s!"",if_neg s!"",if_neg s!"",if_neg s!"",if_pos h]
def V5 (g:512<n):bq n=10:=by unfold bq;rw[if_neg s!"",if_neg s!"",if_neg s!"",if_neg s!"",if_neg s!"",if_neg s!"",if_neg s!"",if_neg s!"",if_neg s!"",if_neg s!""]
def Fs (h:n<=2 ^ t):bq n<=t:=by
 by_cases a:n<=1
 ·rw[Ch_ (n:=n) a];exact j8_ _
 by_cases b:n<=2
 ·rw[Z0 (n:=n) s!"" b];refine qv_ λz=>?_;have:=qh_ (show 0<2 by decide) (show t<=0 by lia);lia
 by_cases c:n<=4
 ·rw[Z1 (n:=n) s!"" c];refine qv_ λz=>?_;have:=qh_ (show 0<2 by decide) (show t<=1 by lia);lia
 by_cases d:n<=8
 ·rw[Z2 (n:=n) s!"" d];refine qv_ λz=>?_;have:=qh_ (show 0<2 by decide) (show t<=2 by lia);lia
 by_cases e:n<=16
 ·rw[Z3 (n:=n) s!"" e];refine qv_ λz=>?_;have:=qh_ (show 0<2 by decide) (show t<=3 by lia);lia
 by_cases f:n<=32
 ·rw[Z4 (n:=n) s!"" f];refine qv_ λz=>?_;have:=qh_ (show 0<2 by decide) (show t<=4 by lia);lia
 by_cases g:n<=64
 ·rw[Z5 (n:=n) s!"" g];refine qv_ λz=>?_;have:=qh_ (show 0<2 by decide) (show t<=5 by lia);lia
 by_cases i:n<=128
 ·rw[Z6 (n:=n) s!"" i];refine qv_ λz=>?_;have:=qh_ (show 0<2 by decide) (show t<=6 by lia);lia
 by_cases j:n<=256
 ·rw[Z7 (n:=n) s!"" j];refine qv_ λz=>?_;have:=qh_ (show 0<2 by decide) (show t<=7 by lia);lia
 by_cases k:n<=512
 ·rw[Z8 (n:=n) s!"" k];refine qv_ λz=>?_;have:=qh_ (show 0<2 by decide) (show t<=8 by lia);lia
 rw[V5 (n:=n) s!""];refine qv_ λz=>?_;have:=qh_ (show 0<2 by decide) (show t<=9 by lia);lia
def V6 (h1:1<n)(h2:n<=1024)(j:k<=(n+1) / 2):bq k+1<=bq n:=by
 by_cases a:n<=2
 ·rw[Z0 (n:=n) s!"" a];have:=Fs (n:=k) (t:=0) s!"";lia
 by_cases b:n<=4
 ·rw[Z1 (n:=n) s!"" b];have:=Fs (n:=k) (t:=1) s!"";lia
 by_cases c:n<=8
 ·rw[Z2 (n:=n) s!"" c];have:=Fs (n:=k) (t:=2) s!"";lia
 by_cases d:n<=16
 ·rw[Z3 (n:=n) s!"" d];have:=Fs (n:=k) (t:=3) s!"";lia
 by_cases e:n<=32
 ·rw[Z4 (n:=n) s!"" e];have:=Fs (n:=k) (t:=4) s!"";lia
 by_cases f:n<=64
 ·rw[Z5 (n:=n) s!"" f];have:=Fs (n:=k) (t:=5) s!"";lia
 by_cases g:n<=128
 ·rw[Z6 (n:=n) s!"" g];have:=Fs (n:=k) (t:=6) s!"";lia
 by_cases h:n<=256
 ·rw[Z7 (n:=n) s!"" h];have:=Fs (n:=k) (t:=7) s!"";lia
 by_cases i:n<=512
 ·rw[Z8 (n:=n) s!"" i];have:=Fs (n:=k) (t:=8) s!"";lia
 rw[V5 (n:=n) s!""];have:=Fs (n:=k) (t:=9) s!"";lia
def V7 (h:k<=n):bq k<=bq n:=by
 by_cases a:n<=1
 ·rw[Ch_ (n:=n) a];exact Fs s!""
 by_cases b:n<=2
 ·rw[Z0 (n:=n) s!"" b];exact Fs s!""
 by_cases c:n<=4
 ·rw[Z1 (n:=n) s!"" c];exact Fs s!""
 by_cases d:n<=8
 ·rw[Z2 (n:=n) s!"" d];exact Fs s!""
 by_cases e:n<=16
 ·rw[Z3 (n:=n) s!"" e];exact Fs s!""
 by_cases f:n<=32
 ·rw[Z4 (n:=n) s!"" f];exact Fs s!""
 by_cases g:n<=64
 ·rw[Z5 (n:=n) s!"" g];exact Fs s!""
 by_cases i:n<=128
 ·rw[Z6 (n:=n) s!"" i];exact Fs s!""
 by_cases j:n<=256
 ·rw[Z7 (n:=n) s!"" j];exact Fs s!""
 by_cases l:n<=512
 ·rw[Z8 (n:=n) s!"" l];exact Fs s!""
 rw[V5 (n:=n) s!""];exact ZZ k
noncomputable def MY (es:Bk)(W ws:α1)(v:α2)(mk:Int):Nat->Nat->Nat->Nat
 |0,_,_=>0
 |f+1,lo,hi=>if hi-lo > 1 then (match mkO es (Hl W ws v ((lo+hi) / 2)++v.drop ((lo+hi) / 2)) with
   |none=>bq (hi-lo)
   |some t=>if t=mk then MY es W ws v mk f lo ((lo+hi) / 2) else MY es W ws v mk f ((lo+hi) / 2) hi) else 0
def Ik (es:Bk)(W ws:α1)(v:α2)(mk:Int):∀f lo hi,MY es W ws v mk f lo hi<=bq (hi-lo)
 |0,lo,hi=>j8_ _
 |f+1,lo,hi=>by
  unfold MY;by_cases a:hi-lo > 1
  ·rw[if_pos a];cases hm:mkO es (Hl W ws v ((lo+hi) / 2)++v.drop ((lo+hi) / 2)) with
   |none=>exact jf_ _
   |some t=>
    dsimp only;split
    ·exact qo_ (Ik es W ws v mk f _ _) (V7 s!"")
    ·exact qo_ (Ik es W ws v mk f _ _) (V7 s!"")
  ·rw[if_neg a];exact j8_ _
def Lh {es:Bk}{W ws:α1}{v:α2}{mk:Int}{c:α2}{m:Int}(d:((es++[(c,m)]).map (·.1)).Nodup):∀f lo hi,hi-lo<=1024->E2 es W ws v mk f lo hi=.ask c->MY (es++[(c,m)]) W ws v mk f lo hi+1<=MY es W ws v mk f lo hi
 |0,lo,hi,_,h=>by cases h
 |f+1,lo,hi,hz,h=>by
  unfold E2 at h;unfold MY;by_cases a:hi-lo > 1
  ·rw[if_pos a]at h ⊢;rw[if_pos a];cases hm:mkO es (Hl W ws v ((lo+hi) / 2)++v.drop ((lo+hi) / 2)) with
   |none=>
    rw[hm]at h;have e:Hl W ws v ((lo+hi) / 2)++v.drop ((lo+hi) / 2)=c:=by injection h
    rw[e,D5 d (show (c,m)∈es++[(c,m)] by simp)];dsimp only;split
    ·have h1:=Ik (es++[(c,m)]) W ws v mk f lo ((lo+hi) / 2);have h2:=V6 (n:=hi-lo) (k:=(lo+hi) / 2-lo) a hz s!"";lia
    ·have h1:=Ik (es++[(c,m)]) W ws v mk f ((lo+hi) / 2) hi;have h2:=V6 (n:=hi-lo) (k:=hi-(lo+hi) / 2) a hz s!"";lia
   |some t=>
    rw[hm]at h;dsimp only at h;rw[Grow.snoc es c m _ _ hm];dsimp only;by_cases b:t=mk
    ·rw[if_pos b]at h ⊢;rw[if_pos b];exact Lh d f _ _ s!"" h
    ·rw[if_neg b]at h ⊢;rw[if_neg b];exact Lh d f _ _ s!"" h
  ·rw[if_neg a]at h;cases h
structure J41 (s:AS)(d:Nat):Prop where
 gc:∀c∈s.G,c∈Cu s
 pc:∀v∈s.W,v=[] \/ ∃a∈s.W,∃x:Nat,x<s.L/\v=a++[(x:Int)]
 n0:s.wr=none->nonC s+10<=d+10*s.E.length
 n1:∀v m ws,s.wr=some v->s.gs=some (m,ws)->nonC s+MY s.es s.W ws v (Bf m (Ax ws v)) v.length 0 v.length<=d+10*s.E.length
 d0:s.wr=none->d+1<=s.E.length
 d1:s.wr.isSome=true->d<=s.E.length
def Xz {B d:Nat} (o:OkX none B s)(j:J41 s d)(l:s.G=[])(hw:s.wr=none):(∀s',DM s=(s',none)->J41 s' d)/\∀s' x,DM s=(s',some x)->J41 s' d/\JX42 s' x:=by
 unfold DM;cases k:C1 s.L s.W s.E s.es with
 |some r=>
  obtain⟨⟨n,p,C,D⟩,_⟩:=o.tb.more (o.full l) k;dsimp only;by_cases hm:s.W.length=s.most
  ·rw[if_pos hm];exact#[λs' z=>(by cases z),λs' x z=>(by cases z;exact#[j,trivial])]
  ·rw[if_neg hm];refine#[λs' z=>?_,λs' x z=>(by cases z)];cases z;refine#[λc g=>Le g,λv b=>?_,λ_=>?_,λv m ws b=>?_,j.d0,j.d1]
   ·rcases jr_.mp b with b|b
    ·rcases j.pc v b with z|⟨a,h,y,i,e⟩
     ·exact .inl z
     ·exact .inr (Ar a (jY_ _ h) y i e)
    ·rw[jd_.mp b];rcases AG.mp n with z|⟨a,h,y,i,e⟩
     ·exact absurd z p
     ·exact .inr (Ar a (jY_ _ h) y i e)
   ·have h1:=Qt (s:=s) (s':={s with W:=s.W++[r],G:=Gu s.L (s.W++[r]) s.E s.es}) rfl (λc g=>by
     refine e_E (A3.mp g) λq=>f_A λt=>f_E λe=>f_A λu w=>?_;subst w;exact A3.mpr (Ar q (Ru t) e u rfl))
    have:=j.n0 hw;show nonC _+10<=d+10*s.E.length;lia
   ·rw[show s.wr=some v from b]at hw;cases hw
 |none=>
  dsimp only;cases F:Bu s.es (BE s.W s.es) (DC s.L s.W s.E s.es) with
  |none=>
   refine#[λs' z=>(by cases z),λs' x z=>?_];cases z;exact AK #[j.gc,j.pc,λ_=>j.n0 hw,λv m ws b=>(by cases b),λ_=>j.d0 hw,λz=>(by cases z)] k rfl rfl
  |some v=>
   refine#[λs' z=>?_,λs' x z=>(by cases z)];cases z;refine#[j.gc,j.pc,λz=>(by cases z),λf m ws b H=>?_,λz=>(by cases z),λ_=>?_]
   ·have h1:=Ik s.es s.W ws f (Bf m (Ax ws f)) f.length 0 f.length;have h2:=ZZ (f.length-0);have I:=j.n0 hw;have A:nonC s+MY s.es s.W ws f (Bf m (Ax ws f)) f.length 0 f.length<=d+10*s.E.length:=by lia
    exact A
   ·have:=j.d0 hw;show d<=s.E.length;lia
def So {B d:Nat} (o:OkX none B s)(j:J41 s d):(∀s',BG s=(s',none)->J41 s' d)/\∀s' x,BG s=(s',some x)->J41 s' d/\JX42 s' x:=by
 unfold BG;cases a:s.G with
 |cons c r=>
  refine#[λs' z=>(by cases z),λs' x z=>?_];cases z;have k:s.wr=none:=by
   cases h:s.wr with
   |none=>rfl
   |some v=>have:=(o.wr v h).1;rw[a]at this;cases this
  refine q_AA #[λb p=>j.gc b (by rw[a];exact jo_ _ p),j.pc,j.n0,j.n1,j.d0,j.d1] (λ_=>j.gc c (by rw[a];exact jt_ ..)) λv m ws f=>?_;rw[show s.wr=some v from f]at k;cases k
 |nil=>
  cases hw:s.wr with
  |none=>exact Xz o j a hw
  |some v=>
   refine e_A (o.wr v hw) λ_=>f_A λ_=>Ra λ_ _ m=>f_E λws=>f_E λt=>f_A λg _=>?_;rw[g];dsimp only;unfold ID;cases u:E2 s.es s.W ws v (Bf m (Ax ws v)) v.length 0 v.length with
   |ask c=>
    refine#[λs' z=>(by cases z),λs' x z=>?_];cases z;refine q_AA j (λz=>(by rw[hw]at z;cases z)) λC D F l n=>?_;rw[hw]at l;rw[g]at n;cases l;cases n;exact u
   |fin hi=>
    refine#[λs' z=>?_,λs' x z=>(by cases z)];cases z;refine#[λc i=>Le i,j.pc,λ_=>?_,λv m ws f=>(by cases f),λ_=>?_,λz=>(by cases z)]
    ·have h1:=Qt (s:=s) (s':={s with wr:=none,E:=s.E++[v.drop hi],G:=Gu s.L s.W (s.E++[v.drop hi]) s.es}) rfl (λc i=>by
      refine e_E (A3.mp i) λq=>f_A λw=>f_E λe=>f_A λy A=>?_;subst A;exact A3.mpr (Ar q w e (jY_ _ y) rfl))
     have h2:=j.n1 v m ws hw g;show nonC _+10<=d+10*(s.E++[v.drop hi]).length;rw[jk_,jB_];lia
    ·have h2:=j.d1 (by rw[hw];rfl);show d+1<=(s.E++[v.drop hi]).length;rw[jk_,jB_];lia
def Goes.J41 {B d:Nat} (g:Goes s s' x)(o:OkX none B s)(j:J41 s d):Mine.J41 s' d/\JX42 s' x:=by
 induction g with
 |stop h=>exact (So o j).2 _ _ h
 |more h _ a=>
  obtain⟨b,_,_⟩:=(JE o).1 _ h;exact a b ((So o j).1 _ h)
def J41.start (L most:Nat):J41 (s039 L most) 0:=#[λc b=>Le b,λv a=>.inl (jd_.mp a),λ_=>(by show 0+10<=0+10*1;lia),λv m ws a=>(by cases a),λ_=>(by show 0+1<=1;lia),λz=>(by cases z)]
def J41.told {B d:Nat} (o:OkX (some c) B s)(t:B+(s.most+1)*(s.most+1)<=1024)(j:J41 s d)(x:JX42 s (.ask c))(h:c∉s.es.map (·.1)):J41 {s with es:=s.es++[(c,m)]} d:=by
 obtain⟨i,k⟩:=x;have l:((s.es++[(c,m)]).map (·.1)).Nodup:=by
  rw[jn_,qm_];exact q_AA o.tb.nd (by simp) λa n b q=>by rw[jd_.mp q];intro z;subst z;exact h n
 refine#[j.gc,j.pc,λhw=>?_,λv e ws f g=>?_,j.d0,j.d1]
 ·have h1:=j.n0 hw;have h2:nonC {s with es:=s.es++[(c,m)]}=nonC s:=by
   show pK (λp=>decide (p.1∉Cu s)) (s.es++[(c,m)])=_;rw[q6_,zM_,if_neg (by simp[i hw])];rfl
  rw[h2];exact h1
 ·have h1:=j.n1 v e ws f g;have h2:nonC {s with es:=s.es++[(c,m)]}<=nonC s+1:=by
   show pK (λp=>decide (p.1∉Cu s)) (s.es++[(c,m)])<=pK (λp=>decide (p.1∉Cu s)) s.es+1;rw[q6_,zM_];split<;>lia
  refine e_A (o.wr v f) λ_=>f_A λ_=>f_A λ_=>f_A λu _=>?_;have w:=o.lens;have y:=Lh (W:=s.W) (ws:=ws) (v:=v) (mk:=Bf e (Ax ws v)) l v.length 0 v.length s!"" (k v e ws f g);have r:nonC {s with es:=s.es++[(c,m)]}+MY (s.es++[(c,m)]) s.W ws v (Bf e (Ax ws v)) v.length 0 v.length<=d+10*s.E.length:=by lia
  exact r
def Cu_ {B d:Nat}{s:AS}{m:α2}{ws:α1}{w:α2}{n:Int}(o:OkX none B s)(r:s.G=[])(f:s.wr=none)(j:J41 s d)(x:JX42 s (.shown m ws))(C:Bf m (Ax ws w)≠n){s':AS}{y:Wish}(g:Goes {s with es:=s.es++[(w,n)]} s' y):∃i,Goes i s' y/\J41 i (d+1)/\BG {s with es:=s.es++[(w,n)]}=(i,none):=by
 obtain⟨k,rfl,rfl⟩:=x;have b:=o.full r;have c:=Grow.snoc s.es w n;have D:([]:α2)∈s.E:=je_ o.tb.e0;have t:s.W.map (gOf s.E (s.es++[(w,n)]))=s.W.map (gOf s.E s.es):=jI_ λv a=>O6 b c (AG.mpr (.inl a));have F:C1 s.L s.W s.E (s.es++[(w,n)])=none:=by
  unfold C1 at k ⊢;rw[qf_]at k ⊢;intro v a;have:=k v a;rw[t,O6 b c a];exact this
 have H:BE s.W (s.es++[(w,n)])=BE s.W s.es:=by
  unfold BE;refine jI_ λv a=>?_;obtain⟨q,A⟩:=b v (A3.mpr (Ar v (AG.mpr (.inl a)) ([]) D (by simp)));rw[A,c _ _ A]
 have I:DC s.L s.W s.E (s.es++[(w,n)])=DC s.L s.W s.E s.es:=by
  unfold DC;rw[t];refine jI_ λv a=>jI_ λy J=>?_;rw[O6 b c (AG.mpr (.inr (Ar v a y (jU_.mp J) rfl)))]
 obtain⟨u,K⟩:∃u,Bu (s.es++[(w,n)]) (BE s.W s.es) (DC s.L s.W s.E s.es)=some u:=by
  unfold Bu;cases M:(s.es++[(w,n)]).find? (λe=>decide (Bf (BE s.W s.es) (Ax (DC s.L s.W s.E s.es) e.1)≠e.2)) with
  |some e=>exact#[e.1,rfl]
  |none=>
   have:=qf_.mp M (w,n) (by simp);simp[C]at this
 have l:BG {s with es:=s.es++[(w,n)]}=({s with es:=s.es++[(w,n)],gs:=some (BE s.W s.es,DC s.L s.W s.E s.es),wr:=some u},none):=by
  unfold BG;rw[show ({s with es:=s.es++[(w,n)]}:AS).G=[] from r];dsimp only;rw[f];dsimp only;unfold DM;dsimp only;rw[F];dsimp only;rw[H,I,K]
 have O:=j.n0 f;have h2:nonC {s with es:=s.es++[(w,n)]}<=nonC s+1:=by
  show pK (λp=>decide (p.1∉Cu s)) (s.es++[(w,n)])<=pK (λp=>decide (p.1∉Cu s)) s.es+1;rw[q6_,zM_];split<;>lia
 refine A7 ({s with es:=s.es++[(w,n)],gs:=some (BE s.W s.es,DC s.L s.W s.E s.es),wr:=some u}) ?_ #[j.gc,j.pc,λz=>(by cases z),λv m ws a P=>?_,λz=>(by cases z),λ_=>j.d0 f] l
 ·cases g with
  |stop h=>rw[l]at h;cases h
  |more h g=>rw[l]at h;cases h;exact g
 ·have h1:=Ik (s.es++[(w,n)]) s.W ws v (Bf m (Ax ws v)) v.length 0 v.length;have Q:=ZZ (v.length-0);have N:nonC {s with es:=s.es++[(w,n)]}+MY (s.es++[(w,n)]) s.W ws v (Bf m (Ax ws v)) v.length 0 v.length<=d+1+10*s.E.length:=by lia
  exact N
def TU (j:J41 s d):(AU s.L s.W).length<=1+s.W.length*s.L:=by
 have g:(AU s.L s.W).Nodup:=by unfold AU;exact CG (CG zz_)
 have:=Ho (l:=AU s.L s.W) (k:=[]::s.W.flatMap λa=>(oN s.L).map λx:Nat=>a++[(x:Int)]) g λv i=>by
  have f:∀a∈s.W,∀x:Nat,x<s.L->a++[(x:Int)]∈([]::s.W.flatMap λa=>(oN s.L).map λx:Nat=>a++[(x:Int)]:α1):=λa b x c=>jo_ _ (xE_.mpr (q_EA a b (jp_.mpr (q_EA x (jU_.mpr c) rfl))));rcases AG.mp i with h|⟨a,b,y,m,rfl⟩
  ·rcases j.pc v h with rfl|⟨a,b,x,c,rfl⟩
   ·exact jt_ ..
   ·exact f a b x c
  ·exact f a b y m
 have e:(s.W.flatMap λa=>(oN s.L).map λx:Nat=>a++[(x:Int)]).length=s.W.length*s.L:=by
  generalize s.W=l
  induction l with
  |nil=>simp
  |cons a l n=>rw[rB,jk_,n,ja_,qL_,jG_,qk];lia
 rw[jG_,e]at this;lia
def J41.few {B d m:Nat} (o:OkX x B s)(j:J41 s d)(b:s.W.length<=m)(e:s.E.length<=m)(g:s.wr.isSome=true->s.E.length+1<=m):s.es.length<=(1+m*s.L)*m+10*(m-1)+d:=by
 have h1:=List.length_eq_countP_add_countP (l:=s.es) (λp=>decide (p.1∉Cu s));have y:1<=s.E.length:=(jb_.mp o.tb.e0).1;have h2:nonC s<=d+10*(m-1):=by
  cases hw:s.wr with
  |none=>have:=j.n0 hw;lia
  |some v=>
   refine e_A (o.wr v hw) λ_=>f_A λ_=>Ra λ_ _ h=>f_E λws=>f_E λt=>f_A λi _=>?_;have:=j.n1 v h ws hw i;have:=g (by rw[hw];rfl);lia
 have z:s.es.countP (λp=>decide (¬ decide (p.1∉Cu s)=true))<=(Cu s).length:=by
  rw[List.countP_eq_length_filter,<-ja_ (f:=(·.1))];refine Rt ?_ λc k=>?_
  ·exact List.Nodup.sublist (List.Sublist.map _ List.filter_sublist) o.tb.nd
  ·obtain⟨p,n,rfl⟩:=jp_.mp k;have:=(qO_.mp n).2;simpa using this
 have A:(Cu s).length<=(1+m*s.L)*m:=by
  unfold Cu Ed;have q:=Bn ((AU s.L s.W).flatMap λr=>s.E.map (r ++ ·)) [];have u:((AU s.L s.W).flatMap λr=>s.E.map (r ++ ·)).length=(AU s.L s.W).length*s.E.length:=by
   rw[xD_];generalize AU s.L s.W=l
   induction l with
   |nil=>simp
   |cons a l w=>rw[jT_,qT,w,ja_,jG_,qk];lia
  have C:=TU j;have D:s.W.length*s.L<=m*s.L:=qn_ b (jf_ _);have F:(AU s.L s.W).length*s.E.length<=(1+m*s.L)*m:=qn_ s!"" e;rw[u,xu_]at q;lia
 unfold nonC at h2;lia
section
variable {L most:Nat} {W E:α1} {es:Bk} {hm:α2} {hw:α1} {cl:Int->Int} {ds:α2}
def Cls41.apart (k:Cls41 L hm hw cl ds)(c:Qu es hm hw) (d:isW (L:Int) v=true)(f:isW (L:Int) u=true)(g:∀e∈E,isW (L:Int) e=true)(h:J2 E es v u):cl (Ax hw v)≠cl (Ax hw u):=by
 refine e_E h λe=>f_A λi=>B6 λm n h1 h2 j=>?_;try clear h
 intro z;have:=(k.eq v u d f).mp z e (g e i);have a:Bf hm (Ax hw (v++e))=m:=c _ (O3 h1);have b:Bf hm (Ax hw (u++e))=n:=c _ (O3 h2);exact j (a.symm.trans (this.trans b))
def Cls41.nodup (k:Cls41 L hm hw cl ds)(c:Qu es hm hw)(t:Tb L most W E es):(W.map λv=>cl (Ax hw v)).Nodup:=by
 rw[x0_,xp_];intro i j hi a b;rw[ja_]at hi a;rw[zN_,zN_];exact k.apart c (t.wW _ (qd_ _)).1 (t.wW _ (qd_ _)).1 t.eW (t.dist i j _ _ (jg_ hi) (jg_ a) s!"")
def Cls41.le (k:Cls41 L hm hw cl ds)(c:Qu es hm hw)(t:Tb L most W E es):W.length<=ds.length:=by
 have:=MU (l:=W.map λv=>cl (Ax hw v)) (k:=ds) (k.nodup c t) λx a=>by
  obtain⟨u,b,rfl⟩:=jp_.mp a;exact k.at_ u (t.wW u b).1
 rwa [ja_]at this
def Cls41.more (k:Cls41 L hm hw cl ds)(c:Qu es hm hw)(t:Tb L most W E es) (d:isW (L:Int) r=true)(h:∀u∈W,J2 E es r u):W.length+1<=ds.length:=by
 have:=MU (l:=cl (Ax hw r)::W.map λv=>cl (Ax hw v)) (k:=ds) (by
  rw[qb_];refine#[λz=>?_,k.nodup c t];obtain⟨u,a,e⟩:=jp_.mp z;exact k.apart c d (t.wW u a).1 t.eW (h u a) e.symm) λx b=>by
  rcases jw_.mp b with rfl|b
  ·exact k.at_ r d
  ·obtain⟨u,a,rfl⟩:=jp_.mp b;exact k.at_ u (t.wW u a).1
 rw[jG_,ja_]at this;exact this
def Cls41.ge (k:Cls41 L hm hw cl ds) (o:Wf (L:Int) m ws)(h:∀v,isW (L:Int) v=true->mkW hm (Ax hw v)=mkW m (Ax ws v)):ds.length<=m.length:=by
 have i:∀d,∃v,d∈ds->isW (L:Int) v=true/\cl (Ax hw v)=d:=λd=>by
  by_cases f:d∈ds
  ·obtain⟨v,g⟩:=k.of d f;exact#[v,λ_=>g]
  ·exact#[[],λz=>absurd z f]
 have sp:=λd=>zI_ (i d);have p:(ds.map λd=>Ax ws (pB (i d))).Nodup:=by
  refine xW_.mpr (pL (λ{a b} q r s z=>s ?_) k.nd);obtain⟨j,t⟩:=sp a q;obtain⟨l,u⟩:=sp b r;rw[<-t,<-u];refine (k.eq _ _ j l).mpr λe w=>?_;have n:∀v,isW (L:Int) v=true->isW (L:Int) (v++e)=true:=λv g=>AE.mpr λy c=>by
   rcases jr_.mp c with c|c
   ·exact AE.mp g y c
   ·exact AE.mp w y c
  rw[h _ (n _ j),h _ (n _ l),N0,N0,z]
 have:=Fc m.length p λx A=>by
  obtain⟨d,f,rfl⟩:=jp_.mp A;exact BZ_ o (sp d f).1
 rwa [ja_]at this
end
structure Led41 (s:AS)(x:Wish)(hm:α2)(hw:α1)(d:Nat):Prop where
 ok:WOk 400 s x
 j:J41 s d
 jx:JX42 s x
 co:Qu s.es hm hw
 wf:Wf s.L hm hw
 m5:s.most<=5
def WOk.okx41 {B:Nat} (o:WOk B s x):∃y,OkX y B s:=by
 cases x with
 |ask c=>exact#[_,o.1]
 |shown m ws=>exact#[_,o.1]
 |done m ws=>exact#[_,o.1]
 |spent c=>exact#[_,o.1]
def Led41.mm {hm:α2} (l:Led41 s x hm hw d):(s.most+1)*(s.most+1)<=36:=qn_ (show s.most+1<=6 by have:=l.m5;lia) (show s.most+1<=6 by have:=l.m5;lia)
def Led41.bd {hm:α2} (l:Led41 s x hm hw d):Bd 400 s:=by
 have h1:=l.mm;have h2:=l.m5;unfold Bd;lia
def XA {hm:α2} (a:Wf L hm hw) (b:isW L v=true):0<=Bf hm (Ax hw v)/\Bf hm (Ax hw v)<=1000000000:=by
 have h:=BZ_ a b;exact a.mks _ (AY_ h.1 h.2)
def Led41.ask {c hm:α2} (l:Led41 s (.ask c) hm hw d)(g:Goes {s with es:=s.es++[(c,Bf hm (Ax hw c))]} s' y):Led41 s' y hm hw d/\s'.es.length=s.es.length+1/\s'.L=s.L/\s'.most=s.most:=by
 refine e_A (id l.ok) λh=>f_A λv=>f_A λi=>f_A λw x=>?_;have k:c∉s.es.map (·.1):=λz=>by
  obtain⟨n,o⟩:=O4.mp z;rw[v]at o;cases o
 have q:=XA l.wf i;have h1:=l.mm;have r:=h.told (m:=Bf hm (Ax hw c)) (λb A=>(jD_ A).symm) k i q.1 q.2 w x;have B:=J41.told (m:=Bf hm (Ax hw c)) h s!"" l.j l.jx k;obtain⟨C,f⟩:=g.ok r;obtain⟨D,E⟩:=Goes.J41 g r B;have e:=f.e;have t:=f.l;have u:=f.m;refine AK #[C,D,E,?_,by rw[t];exact l.wf,by rw[u];exact l.m5] (by rw[e];simp) t u;rw[e];intro p a;rcases jr_.mp a with a|a
 ·exact l.co p a
 ·rw[jd_.mp a]
def Led41.obj {w hm m:α2} (l:Led41 s (.shown m ws) hm hw d)(hc:isW s.L w=true)(hz:w.length<=400)(h:Bf m (Ax ws w)≠Bf hm (Ax hw w))(g:Goes {s with es:=s.es++[(w,Bf hm (Ax hw w))]} s' y):Led41 s' y hm hw (d+1)/\s'.es.length=s.es.length+1/\s'.L=s.L/\s'.most=s.most:=by
 refine B5 (id l.ok) λi k u H I v=>?_;have x:w∉s.es.map (·.1):=λz=>by
  obtain⟨p,a,rfl⟩:=jp_.mp z;exact h ((v p a).trans (l.co p a).symm)
 have n:=XA l.wf hc;have A:=i.told (m:=Bf hm (Ax hw w)) (λb B=>(by cases B)) x hc n.1 n.2 s!"" (by rw[k];simp);refine e_E (Cu_ i k u l.j l.jx h g) λJ=>f_A λo=>f_A λC D=>?_;obtain⟨q,c,_⟩:=(JE A).1 _ D;obtain⟨E,f⟩:=o.ok q;obtain⟨F,G⟩:=Goes.J41 o q C;have e:s'.es=s.es++[(w,Bf hm (Ax hw w))]:=f.e.trans c.e;have r:s'.L=s.L:=f.l.trans c.l;have t:s'.most=s.most:=f.m.trans c.m;refine AK #[E,F,G,?_,by rw[r];exact l.wf,by rw[t];exact l.m5] (by rw[e];simp) r t;rw[e];intro p a;rcases jr_.mp a with a|a
 ·exact l.co p a
 ·rw[jd_.mp a]
def V8 (h:BG s=(s',some x)):∀m ws,x ≠ .done m ws:=by
 intro m ws e;subst e;unfold BG at h;split at h
 ·cases h
 ·split at h
  ·split at h
   ·unfold ID at h;split at h<;>cases h
   ·cases h
  ·unfold DM at h;split at h
   ·split at h<;>cases h
   ·split at h<;>cases h
def Goes.nd41 (g:Goes s s' x):∀m ws,x ≠ .done m ws:=by
 induction g with
 |stop h=>exact V8 h
 |more _ _ a=>exact a
def Nn41 (H:Hp)(ad:AD):Prop:=H ad.d=none/\H ad.pw=none/\H ad.pe=none/\H ad.pg=none
def Nn41.same {H H1 H2:Hp} {ad:AD}(n:Nn41 H ad)(c:H a=none)(s:Same H H1)(f:Frm H1 H2 a ad):Same H H2:=λy o b=>f.1 y o (s y o b) (λz=>by rw[z,c]at b;cases b) (λz=>by rw[z,n.1]at b;cases b) (λz=>by rw[z,n.2.1]at b;cases b) (λz=>by rw[z,n.2.2.1]at b;cases b) (λz=>by rw[z,n.2.2.2]at b;cases b)
def Nn41.next {H H1:Hp}{ad b:AD}(n:Nn41 H ad)(s:Same H H1)(k:AdOk H1 ad b):Nn41 H b:=by
 refine B5 k λf g c d e a=>?_;try clear k
 refine AK (by rw[c];exact n.1) (by rw[d];exact n.2.1) (by rw[e];exact n.2.2.1) ?_;rcases a with a|a
 ·rw[a];exact n.2.2.2
 ·exact s.none a
def V9 {B:Nat} (o:OkX none B s)(c:s.G=[])(h:Aw s.W):(∀s',DM s=(s',none)->Aw s'.W)/\∀s' x,DM s=(s',some x)->Aw s'.W:=by
 unfold DM;cases d:C1 s.L s.W s.E s.es with
 |some r=>
  obtain⟨⟨e,f,m,n⟩,_⟩:=o.tb.more (o.full c) d;dsimp only;by_cases hm:s.W.length=s.most
  ·rw[if_pos hm];exact#[λs' z=>(by cases z),λs' x z=>(by cases z;exact h)]
  ·rw[if_neg hm];refine#[λs' z=>?_,λs' x z=>(by cases z)];cases z;have g:=(jb_.mp o.tb.w0).1;refine#[by show (s.W++[r])[0]?=_;rw[ji_ g];exact h.1,λi u hi b=>?_];have b:(s.W++[r])[i]?=some u:=b;show u.dropLast∈(s.W++[r]).take i;by_cases j:i<s.W.length
   ·rw[ji_ j]at b;rw[pD s!""];exact h.2 i u hi b
   ·have:=(jb_.mp b).1;rw[jk_,jB_]at this;have k:i=s.W.length:=by lia
    subst k;rw[ju_ (jf_ _),qK_]at b;cases b;rw[pD (jf_ _),jz_];rcases AG.mp e with z|⟨a,l,y,_,rfl⟩
    ·exact absurd z f
    ·rw[List.dropLast_concat];exact l
 |none=>
  dsimp only;cases p:Bu s.es (BE s.W s.es) (DC s.L s.W s.E s.es) with
  |none=>exact#[λs' z=>(by cases z),λs' x z=>(by cases z;exact h)]
  |some v=>exact#[λs' z=>(by cases z;exact h),λs' x z=>(by cases z)]
def Qy {B:Nat} (o:OkX none B s)(h:Aw s.W):(∀s',BG s=(s',none)->Aw s'.W)/\∀s' x,BG s=(s',some x)->Aw s'.W:=by
 unfold BG;cases a:s.G with
 |cons c r=>exact#[λs' z=>(by cases z),λs' x z=>(by cases z;exact h)]
 |nil=>
  cases hw:s.wr with
  |none=>exact V9 o a h
  |some v=>
   refine e_A (o.wr v hw) λ_=>f_A λ_=>Ra λ_ _ m=>f_E λws=>f_E λt=>f_A λb _=>?_;rw[b];dsimp only;unfold ID;cases d:E2 s.es s.W ws v (Bf m (Ax ws v)) v.length 0 v.length with
   |ask c=>exact#[λs' z=>(by cases z),λs' x z=>(by cases z;exact h)]
   |fin hi=>exact#[λs' z=>(by cases z;exact h),λs' x z=>(by cases z)]
def Goes.aw51 {B:Nat} (g:Goes s s' x)(o:OkX none B s)(h:Aw s.W):Aw s'.W:=by
 induction g with
 |stop e=>exact (Qy o h).2 _ _ e
 |more e _ a=>
  obtain⟨b,_,_⟩:=(JE o).1 _ e;exact a b ((Qy o h).1 _ e)
section
variable {s:AS} {x:Wish} {hm m r:α2} {hw ws:α1} {d:Nat}
def TV:(accX s x).length<=s.W.length+1:=by
 cases x<;>simp[accX]
def Led41.bnd51 (l:Led41 s x hm hw d):(∀u∈accX s x,isW s.L u=true/\u.length<=6)/\(accX s x).length<=6/\s.E.length<=6/\(∀e∈s.E,isW s.L e=true/\e.length<=436)/\(∀p∈s.es,isW s.L p.1=true/\p.1.length<=441)/\s.es.length<=278:=by
 obtain⟨y,o⟩:=WOk.okx41 l.ok;have tb:=o.tb;have h1:=l.mm;have h2:=l.m5;have q:=tb.wn;have r:=tb.en;have t:=o.lens;have w:=tb.l6;refine q_AA (λu a=>?_) (by have:=TV (s:=s) (x:=x);lia) (AK s!"" (λe f=>#[tb.eW e f,by have:=o.le e f;lia]) (λp g=>#[(tb.bW p g).1,by have:=o.lb p g;split at this<;>lia]) ?_)
 ·have b:∀u∈s.W,isW s.L u=true/\u.length<=6:=λu a=>by have:=tb.wW u a;exact#[this.1,by lia]
  cases x with
  |ask c=>exact b u a
  |shown m ws=>exact b u a
  |done m ws=>exact b u a
  |spent c=>
   refine K8 l.ok λ_ _ _ _ _ _ i A _=>?_;rcases jr_.mp (show u∈s.W++[c] from a) with a|a
   ·exact b u a
   ·rw[jd_.mp a];exact#[i,by lia]
 ·have k:s.wr.isSome=true->s.E.length+1<=6:=λz=>by
   obtain⟨v,n⟩:=xt_.mp z;have:=(o.wr v n).2.1;lia
  have B:=l.j.few (m:=6) o s!"" s!"" k;have C:(1+6*s.L)*6<=(1+6*6)*6:=Nat.mul_le_mul_right _ s!"";have D:d<=s.E.length:=by
   cases h:s.wr with
   |none=>have:=l.j.d0 h;lia
   |some v=>exact l.j.d1 (by rw[h];rfl)
  lia
def Led41.pwf51 (l:Led41 s x hm hw d):PWf s.L (accX s x) s.E s.es:=by
 refine B5 l.bnd51 λb i j c f k=>?_;obtain⟨y,o⟩:=WOk.okx41 l.ok;have h1:=o.tb.l1;have m:=o.tb.l6;exact#[by lia,by lia,by lia,by lia,by lia,λu g=>#[by have:=(b u g).2;lia,(b u g).1],λe h=>#[by have:=(c e h).2;lia,(c e h).1],λp a=>#[#[by have:=(f p a).2;lia,(f p a).1],(o.tb.bW p a).2]]
def Led41.b51 (l:Led41 s x hm hw d):B49 s.L (accX s x) s.E s.es:=by
 refine B5 l.bnd51 λa i j b c k=>?_;obtain⟨y,o⟩:=WOk.okx41 l.ok;exact#[o.tb.l1,o.tb.l6,by lia,by lia,by lia,λu f=>by have:=(a u f).2;lia,λe g=>by have:=(b e g).2;lia,λp h=>by have:=(c p h).2;lia]
def Il (f:Full L W E es) (a:u∈AU L W):Ful es E u:=λe b=>by
 obtain⟨m,hm⟩:=f (u++e) (A3.mpr (Ar u a e b rfl));rw[hm];rfl
def Led41.lal51 (l:Led41 s x hm hw d):Lal s.L (accX s x) s.E s.es:=λu a=>by
 refine B5 l.bnd51 λb g h c e i=>?_;rcases jr_.mp a with a|a
 ·rcases jr_.mp a with a|a
  ·exact (b u a).1
  ·exact (c u a).1
 ·obtain⟨p,f,rfl⟩:=jp_.mp a;exact (e p f).1
def XB (t:Tb L most W E es):W ≠ []:=λz=>by have:=t.w0;rw[z]at this;cases this
def Led41.jp51 (l:Led41 s (.shown m ws) hm hw d)(c:Aw s.W):Jp s.L s.W s.E s.es:=by
 obtain⟨o,e,_⟩:=id l.ok;have f:=o.full e;have g:=l.jx.1;have h:=(o.tb.none f g).2;refine AK (q_AA (XB o.tb) o.tb.nd (q_AA l.lal51 (λu a=>Il f (AG.mpr (.inl a))) (o.tb.nodup f))) c o.tb.e0 λu a y b=>?_;unfold ixO;rw[if_pos #[Il f (AG.mpr (.inr (Ar u a y b rfl))),h u a y b]];rfl
def Led41.tt51 (l:Led41 s (.spent r) hm hw d):Tt s.L (s.W++[r]) s.E s.es:=by
 refine K8 (id l.ok) λo g _ k e m n p h=>?_;have f:=o.full g;refine q_AA (by simp) o.tb.nd (q_AA l.lal51 (λu c=>?_) ?_)
 ·rcases jr_.mp c with c|c
  ·exact Il f (AG.mpr (.inl c))
  ·rw[jd_.mp c];exact Il f e
 ·rw[jn_,qm_];refine q_AA (o.tb.nodup f) (by simp) λa i b j=>?_;obtain⟨u,c,rfl⟩:=jp_.mp i;rw[jd_.mp j];exact λz=>(Hk f e (AG.mpr (.inl c))).mpr (h u c) z.symm
end
def Ci_ (s:AS)(x:Wish)(hm:α2)(hw:α1):Prop:=Aw s.W/\∃d,(∃r,x=.spent r/\Led41 s x hm hw d)\/(∃m ws,x=.done m ws/\Led41 s (.shown m ws) hm hw d/\∀v,isW s.L v=true->¬ Qv hw ws hm m 0 0 v)
noncomputable def Ry (K:α3)(CA CB:Addr):Sp:=λf H Q _=>∃(a h c:Addr) (g:Bool) (b:Hp) (ad:AD) (s:AS) (wv:V) (x:Wish) (hm:α2) (hw:α1) (v:α2),f=[.ref a,.ref h,.ref c,.bl g]/\Asks K CA CB H a ad s wv/\Ce K H s.L wv x/\Led41 s x hm hw 0/\Aw s.W/\s.es=[]/\(∀m ws,x ≠ .done m ws)/\Same b H/\b a=none/\Nn41 b ad/\Cp K b h s.L hm hw/\hm.length<=6/\b c=some (.tup (v.map V.int))/\isW s.L v=true/\v.length<=400/\∀H' i s' d e,Asks K CA CB H' a i s' d->Ce K H' s'.L d e->Same b H'->Ci_ s' e hm hw->s'.L=s.L->s'.most=s.most->Q (.bl true) H'
def Nx:⋯ EE.j78 15 ["asker","hidden","long_word","first"] (Ry K ah ak):=by
 delta EE.j78 Dv
 ·obtain⟨a,h,ae,af,an,ad,s,wv,x,hm,hw,v,rfl,_⟩:=h;rfl
 ·left;obtain⟨q,h,ae,af,an,ad,s,wv,x,hm,hw,v,rfl,a2,a3,led,a4,a5,a6,a7,ao,a8,a9,ba,bb,bc,be,k⟩:=h;right;have bH:=Al;exists _,(Ac (BU jR_ rfl (BJ rfl EE.range (Aa Af Ad)) (As (i:=4) Dv.nd rfl (oQ rfl))
   (Ac (An (i:=5) Dv.nd (A2 (pvD 0) EE.cl_j0 EE.j0.m (BP EE).g hr.d (BP EE).b .nil Au))
   (Ae (Bb (ptT (Ay (opE EA) (Aj (ixTD Ap) (pvD 5) Af) A0 (AL _)))
   (Ac (Bb (PW.pt (XE (ptT (Ay (opE EA) (AW (opD CH) (pvD 4) Af) Af (AL _))) (TY (Cm (ptB (Cd (Ah (Fo EE) hr.d Au (Aa (pvD 0) (Aa (Aj (ixTD Ap) (pvD 1) Af) (Aa (Co Ad) Ad))))))))))
   (Ae (Ao E9))
   Az)
   (Ae (AN (BF (pvD 0) EE.cl_j0 EE.j73.m (J8 EE).g hr.d (J8 EE).b .nil (FH (P:=P) (w:=w)) (Aa (Ah (E4 EE) hr.d Au (Aa (pvD 1) (Aa (Aj (ixTD Ap) (pvD 5) Af) Ad))) Ad)))))
   (Ae (Bb (ptT (Ay (opE EA) (Aj (ixTD Ap) (pvD 5) Af) A0 (AL _)))
   (Ac (Bb (Cm (ptB (Cd (Ah (EF EE) hr.d Au (Aa (pvD 0) (Aa (pvD 1) (Aa (Aj (ixTD Ap) (pvD 5) Af) Ad)))))))
   (Ae (Ao E9))
   Az)
   (Ac (An (i:=6) Dv.nd (Ah (Lf EE) hr.d Au (Aa (pvD 1) (Aa (Aj (ixTD Ap) (pvD 5) Af) (Aa (pvD 2) (Aa (pvD 3) Ad))))))
   (Ae (Bb (ptT (Ay Mb (pvD 6) Ck (AL _)))
   (Ae (AN (A2 (pvD 0) EE.cl_j0 EE.j68.m (J7 EE).g hr.d (J7 EE).b .nil (FH (P:=P) (w:=w)))))
   (Ae (AN (BF (pvD 0) EE.cl_j0 EE.j75.m (Hn EE).g hr.d (Hn EE).b .nil (FH (P:=P) (w:=w)) (Aa (pvD 6) (Aa (Ah (E4 EE) hr.d Au (Aa (pvD 1) (Aa (pvD 6) Ad))) Ad)))))))))
   (Ae (Ao E9))))))))
   (Ae (Ao E9)))
  nofun;obtain⟨ag,S⟩:∃ag:Nat->St->Hp->Prop,∀i aL H',ag i aL H'↔(∃(l:AD) (f:AS) (ai:V) (G:Wish) (d:Nat) (ap aq aj:Option V),Asks K ah ak H' q l f ai/\Ce K H' f.L ai G/\Aw f.W/\f.L=s.L/\f.most=s.most/\Same an H'/\Nn41 an l/\((Led41 f G hm hw d/\(∀m ws,G ≠ .done m ws)/\f.es.length=i)\/(Ci_ f G hm hw/\(∃m ws,G=.done m ws)/\f.es.length+1=i))/\aL=[some (.ref q),some (.ref h),some (.ref ae),some (.bl af),ap,aq,aj]):=#[_,λ_ _ _=>qk_];refine#[by lia,by lia,?_];rw[show Int.toNat 400=400 from rfl];refine forR ag ((S _ _ _).mpr #[ad,s,wv,x,0,none,none,none,a2,a3,a4,rfl,rfl,a7,a8,.inl #[led,a6,by rw[a5];rfl],rfl]) (λi bf C hi ar=>?_) (λbf C ar=>?_)
  ·left;obtain⟨l,f,ai,G,d,ap,aq,aj,T,D,J,H,U,A,M,as,rfl⟩:=(S _ _ _).mp ar;obtain⟨gv,rv,zs,ys,us,Y⟩:=id T;obtain⟨t,u,rfl,N,al⟩:=id D;right;nofun;exists _,_,Y.ob,by kernel_rfl,q,l,f,_,rfl,T,t,rfl,_,SqT.of N,_,rfl,rfl;rw[xT_];have bI:=A;rcases as with ⟨j,aM,au⟩|⟨bg,⟨m,ws,rfl⟩,au⟩
   rotate_left
   ·rw[if_neg (show ¬ V.str (Wish.tag (.done m ws))=V.str ("ask" : Str) from λz=>absurd (V.str.inj z) (show ¬ ("done" : Str) = "ask" by decide +kernel))];exists t,rfl,_,SqT.of N,_,rfl,rfl;rw[if_neg (show ¬ V.str (Wish.tag (.done m ws))=V.str ("show" : Str) from λz=>absurd (V.str.inj z) (show ¬ ("done" : Str) = "show" by decide +kernel))];exact k C l f _ _ T D A bg H U
   left;obtain⟨bJ,bK,bL,bM,bN,bO⟩:=j.bnd51;right;have bh:=WOk.okx41 j.ok;have bP:f.W.length<=5:=by
    obtain⟨y,o⟩:=bh;have h1:=o.tb.wn;have h2:=j.m5;lia
   have Z:Cp K C h f.L hm hw:=by rw[H];exact a9.mono A
   have X:=j.wf;have aN:=j.co;cases G with
   |ask c=>
    rw[if_pos (show V.str (Wish.tag (.ask c))=V.str ("ask" : Str) from rfl)];left;obtain⟨bi,av,aw,bj,bk⟩:=id j.ok;right;have O:=XA X aw;have aO:∀H1,Same C H1->∃x aP,H1 q=some (HO.ins ah x aP)/\oZ (Str.ofString "hear") aP=none/\∃a,V.ref t=V.ref a/\∃xs,SqT K H1 a xs/\∃v,atI xs 1=some v/\MX K [V.ref h,v] H1 (λx H1=>Rr K ah ak aW aQ [V.ref q,x] H1 (λx H1=>ag (i+1) [some (V.ref q),some (V.ref h),some (V.ref ae),some (V.bl af),some (V.int (i:Int)),some (V.ref t),aj] H1) E0) E0:=λH1 Q=>by
     have I:=Y.same Q;refine#[_,_,I.ob,by kernel_rfl,t,rfl,_,SqT.of (Q _ _ N),_,rfl,h,u,f.L,hm,hw,c,rfl,Z.mono Q,X,SqT.of (Q _ _ al),aw,q,l,f,_,.ask c,400,_,rfl,#[_,_,_,_,_,I],D.mono (TK.of Q),j.ok,j.bd,by lia,λz=>absurd rfl z,λbQ e=>?_];cases e;refine#[λz=>absurd O z,λ_ _ ax bm ay az aA R aB aC aD aE=>?_];left;obtain⟨aF,bn,aa,aG⟩:=j.ask R;right;have aH:=bi.told (m:=Bf hm (Ax hw c)) (λb aI=>(jD_ aI).symm) (λz=>by
      obtain⟨n,aR⟩:=O4.mp z;rw[av]at aR;cases aR) aw O.1 O.2 bj bk
     exact (S _ _ _).mpr #[ax,ay,aA,az,d,_,_,_,aB,by rw[aa];exact aC,R.aw51 aH J,aa.trans H,aG.trans U,M.same ao (A.trans Q) aD,M.next (A.trans Q) aE,.inl #[aF,R.nd41,by lia],rfl]
    refine#[by decide,?_];by_cases aS:(i:Int)%3=2
    ·rw[if_pos aS];left;obtain⟨bR,bS,bo,bT,bU⟩:=id Z;right;refine#[_,bo,_,rfl,by lia,λp am=>?_];have B:=Same.new am (o:=.lst []);have bp:upd C p (.lst []) p=some (.lst []):=Ab;refine#[q,p,l,f,_,.ask c,[],[],rfl,#[_,_,_,_,_,Y.same B],D.mono (TK.of B),by lia,bp,Am.nil,by simp,by simp[accX],λaT ab=>#[true,rfl,?_]];rw[if_neg (by decide)];exact aO _ (B.trans ab)
    ·rw[if_neg aS];exact aO _ (Same.refl _)
   |shown m ws=>
    rw[if_neg (show ¬ V.str (Wish.tag (.shown m ws))=V.str ("ask" : Str) from λz=>absurd (V.str.inj z) (show ¬ ("show" : Str) = "ask" by decide +kernel))];exists t,rfl,_,SqT.of N,_,rfl,rfl;rw[if_pos (show V.str (Wish.tag (.shown m ws))=V.str ("show" : Str) from rfl)];left;obtain⟨aU,bq,bV,bW,aV,br⟩:=id j.ok;right;have bs:=aU.tb.wf aV;have bX:=aV.ml;have al:HouT K C u f.L m ws:=al;have aX:=HouT.house al;have bt:m=f.W.map (mk49 f.es):=j.jx.2.1;have bu:ws=fW f.L (gI f.es f.E) f.W:=j.jx.2.2;have bv:Cp K C u f.L ((accX f (.shown m ws)).map (mk49 f.es)) (fW f.L (gI f.es f.E) (accX f (.shown m ws))):=by
     show Cp K C u f.L (f.W.map (mk49 f.es)) (fW f.L (gI f.es f.E) f.W);rw[<-bt,<-bu];exact aX
    refine#[t,rfl,_,SqT.of N,_,rfl,q,h,u,l,f,_,.shown m ws,hm,hw,rfl,T,D,by lia,Z,X,rfl,j.pwf51,aN,bv,j.b51,j.jp51 J,λbm B=>#[true,rfl,?_]];rw[if_neg (by decide)];have bw:=A.trans B;refine#[t,rfl,_,SqT.of (B _ _ N),_,rfl,h,u,ae,af,f.L,hm,m,hw,ws,v,rfl,Z.mono B,X,aX.mono B,bs,bw _ _ bb,by rw[H];exact bc,be,?_,λaT ab av=>?_,λaY w aT ab aZ ac aJ bx=>?_]
    ·have:=qn_ ba (show m.length<=5 by lia);lia
    ·dsimp only;rw[if_pos rfl];have F:=B.trans ab;have I:=Y.same F;refine#[_,_,I.ob,by kernel_rfl,q,l,f,_,.shown m ws,rfl,#[_,_,_,_,_,I],D.mono (TK.of F),λz=>absurd rfl z,λbz a0 e bA bB bC bD bE=>?_];cases e;exact (S _ _ _).mpr #[l,f,bB,.done m ws,d,_,_,_,bC,bD,J,H,U,M.same ao (A.trans F) bE,M,.inr #[#[J,d,.inr #[m,ws,rfl,j,av]],#[m,ws,rfl],by lia],rfl]
    ·dsimp only;rw[if_neg (by simp)];have F:=B.trans ab;have I:=Y.same F;have O:=XA X ac;have aK:Bf m (Ax ws w)≠Bf hm (Ax hw w):=λz=>by
      unfold Qv at aJ;rw[CD,CD]at aJ;exact aJ z.symm
     refine#[_,_,I.ob,by kernel_rfl,h,aY,f.L,hm,hw,w,rfl,Z.mono F,X,SqT.of aZ,ac,q,aY,l,f,_,.shown m ws,400,w,_,rfl,#[_,_,_,_,_,I],D.mono (TK.of F),j.ok,j.bd,by lia,aZ,by lia,λz=>absurd rfl z,λbz a0 e=>?_];cases e;have a1:w∉f.es.map (·.1):=λz=>by
      left;obtain⟨p,am,rfl⟩:=jp_.mp z;right;exact aK ((br p am).trans (aN p am).symm)
     refine#[λz=>(by rw[ac]at z;cases z),λ_ z=>absurd O z,λ_ _ _=>#[λz=>absurd z aK,λ_ bF=>absurd bF a1,λ_ _=>#[by lia,λax bA ay az aA R aB aC aD aE=>?_]]];left;obtain⟨aF,bn,aa,aG⟩:=j.obj ac bx aK R;right;have aH:=aU.told (m:=Bf hm (Ax hw w)) (λb aI=>(by cases aI)) a1 ac O.1 O.2 s!"" (by rw[bq];simp);exact (S _ _ _).mpr #[ax,ay,aA,az,d+1,_,_,_,aB,by rw[aa];exact aC,R.aw51 aH J,aa.trans H,aG.trans U,M.same ao (A.trans F) aD,M.next (A.trans F) aE,.inl #[aF,R.nd41,by lia],rfl]
   |done m ws=>exact absurd rfl (aM m ws)
   |spent r=>
    rw[if_neg (show ¬ V.str (Wish.tag (.spent r))=V.str ("ask" : Str) from λz=>absurd (V.str.inj z) (show ¬ ("spent" : Str) = "ask" by decide +kernel))];exists t,rfl,_,SqT.of N,_,rfl,rfl;rw[if_neg (show ¬ V.str (Wish.tag (.spent r))=V.str ("show" : Str) from λz=>absurd (V.str.inj z) (show ¬ ("spent" : Str) = "show" by decide +kernel))];exact k C l f _ _ T D A #[J,d,.inl #[r,rfl,j]] H U
  ·left;obtain⟨l,f,ai,G,d,ap,aq,aj,T,D,J,H,U,A,M,as,rfl⟩:=(S _ _ _).mp ar;right;exfalso;rcases as with ⟨j,aM,au⟩|⟨⟨_,bY,bG⟩,⟨m,ws,rfl⟩,au⟩
   ·have:=j.bnd51.2.2.2.2.2;lia
   ·rcases bG with ⟨r,e,_⟩|⟨bZ,a0,e,j,_⟩
    ·cases e
    ·have:=j.bnd51.2.2.2.2.2;lia
noncomputable def Z9 (K:α3):Sp:=λb H Q _=>∃(a:Addr) (c:α2) (k m:Int),b=[.ref a,.int k,.int m]/\SqL K H a (c.map V.int)/\0<=k/\k<=1000000/\0<m/\∀x,0<=x->x<m->Q (.int x) H
def LA:⋯ EE.j44 1 ["flow","k","many"] (Z9 K):=by
 delta EE.j44 GY
 ·refine AX h λa b k m=>f_A λf _=>?_;try clear h;subst f;rfl
 ·left;refine AX h λa b k m=>A5 λg c j o hm q=>?_;try clear h;subst g
  right;have p:=Al;refine q_EA _ (Ac (Bb (ptT (Ay (opD0 QI) (pvD 1) (Av (lenD Aq) (by rfl) EE.len jO_ (Aa (pvD 0) Ad)) (AL _)))
   (Ae (Ao (AW (opD CH) (Aj (ixLD Bo) (pvD 0) (pvD 1)) (pvD 2))))
   Az)
   (Ac (Bb (ptT (Ay (opE EA) (Av (lenD Aq) (by rfl) EE.len jO_ (Aa (pvD 0) Ad)) Af (AL _)))
   (Ae (Ao Af))
   Az)
   (Ac (An (i:=3) GY.nd (AW (opD CH) (Aj (ixLD Bo) (pvD 0) (AW (opD CH) (pvD 1) (Av (lenD Aq) (by rfl) EE.len jO_ (Aa (pvD 0) Ad)))) Af))
   (Ac (An (i:=4) GY.nd (AW (opD CH) (AW (opD NB) (AW (opD0 Cn) (AW (opD0 Cn) (pvD 3) (AW (opD NB) (pvD 1) (pvD 1))) Af) Af) Af))
   (Ae (Ao (AW (opD CH) (AW (opD CH) (AW (opD NB) (pvD 4) (pvD 4)) Af) (pvD 2)))))))) ?_
  nofun;refine q_EA _ (.inl c) ?_;rw[ja_];refine ite2 (λr=>?_) (λs=>?_)
  ·have d:k.toNat<b.length:=by lia
   refine Ar _ c _ (Cf j (v:=b[k.toNat]) (by simp[d])) ?_;nofun;exact#[hm,q _ (xi_ _ s!"") (qR_ _ hm)]
  ·refine q_EA _ (.inl c) ?_;rw[ja_];refine ite2 (λl=>q 0 s!"" hm) (λl=>?_);have e:0<(b.length:Int):=by lia
   have n:=xi_ k (show (b.length:Int)≠0 by lia);have t:=qR_ k e;have d:(k%(b.length:Int)).toNat<b.length:=by lia
   refine A7 _ (.inl c) (by rw[ja_];exact e) (Ar _ c _ (by rw[ja_];exact Cf n (v:=b[(k%(b.length:Int)).toNat]) (by simp[d])) ?_);nofun;refine q_AA (by decide) (.inl #[by lia,by lia]) ?_;generalize b[(k%(b.length:Int)).toNat]%2147483647+k*k+1=z;have u:=xi_ (z*48271) (show (2147483647:Int)≠0 by decide);have w:=qR_ (z*48271) (show (0:Int)<2147483647 by decide);refine q_AA (.inr #[by decide,by decide]) (by decide) (AK (.inl #[by lia,by lia]) (by decide) hm ?_);exact q _ (xi_ _ s!"") (qR_ _ hm)
noncomputable def XC (K:α3):Sp:=λb H Q _=>∃(a:Addr) (c:α2) (L n:Nat),b=[.ref a,.int L,.int n]/\SqL K H a (c.map V.int)/\1<=L/\L<=6/\1<=n/\n<=6/\∀h af ways H',Same H H'->Cp K H' h L af ways->Wf L af ways->af.length=n->Q (.ref h) H'
def Ny:⋯ EE.j45 2 ["flow","letters","rooms"] (XC K):=by
 delta EE.j45 BO
 ·refine AX h λa F L n=>f_A λal _=>?_;try clear h;subst al;rfl
 ·left;refine AX h λa F L n=>f_A λam=>A5 λad aQ aR aS aT k=>?_;try clear h;subst am
  right;have aU:=Al;refine q_EA _ (Ac (An (i:=3) BO.nd (Co Ad))
   (Ac (An (i:=4) BO.nd (Co Ad))
   (Ac (BU jR_ rfl (BJ rfl EE.range (Aa (pvD 2) Ad)) (As (i:=5) BO.nd rfl (oQ rfl))
   (Ac (Dz (i:=6) BO.nd rfl (o9 rfl) (AW (opD NB) (pvD 5) (AW (opD0 Cn) (pvD 1) Af)))
   (Ac (An (i:=7) BO.nd (Ah (LA EE) hr.d Au (Aa (pvD 0) (Aa (pvD 6) (Aa Af Ad)))))
   (QR (Bb (ptT (Ay (opE EA) (AW (opD CH) (pvD 7) Af) Af (AL _)))
   (Ae (AN (DV jK_ jW_ jX_ BB (pvD 3) (Aa (AW (opD Jd) (pvD 7) Af) Ad))))
   (Ae (AN (DV jK_ jW_ jX_ BB (pvD 3) (Aa (AW (opD CH) (pvD 7) Af) Ad)))))
   (Ae (AN (DV jK_ jW_ jX_ BB (pvD 4) (Aa (AA AM rfl EE.tuple jE_ (Aa (Bh rfl (Bz rfl) (cp:=Hh) #[#[rfl,rfl],#[#[rfl,rfl],#[#[rfl,rfl],oO]]] (BJ rfl EE.range (Aa (pvD 1) Ad)) (λ_ _ _ _=>(As (i:=0) JV rfl (oQ rfl))) (λ_ _ _ _=>By) (λ_ _ _ _=>(Ah (LA EE) hr.d Au (Aa (pvD 1) (Aa (AW (opD0 Cn) (AW (opD0 Cn) (pvD 3) Af) (pvD 0)) (Aa (pvD 2) Ad)))))) Ad)) Ad))))))))
   (Ae (Ao (BK (Aa (pvD 1) (Aa (AA AM rfl EE.tuple jE_ (Aa (pvD 3) Ad)) (Aa (AA AM rfl EE.tuple jE_ (Aa (pvD 4) Ad)) Ad))))))))) ?_
  nofun;refine#[by lia,λe ae=>#[by lia,λpw u=>q_AA s!"" s!"" ?_]];rw[jA_];have af:pw≠e:=(Ea u).2;have an:H pw=none:=(Ea u).1;obtain⟨G,v⟩:∃G:Nat->St->Hp->Prop,∀i g H',G i g H'↔(∃(c:α2) (ways:α1) (I J M:Option V),Same H H'/\H' e=some (.lst (c.map V.int))/\Jg K H' pw ways/\c.length=i/\ways.length=i/\(∀m∈c,0<=m/\m<=1000000000)/\(∀b∈ways,b.length=L/\∀x∈b,0<=x/\x<(n:Int))/\g=[some (.ref a),some (.int L),some (.int n),some (.ref e),some (.ref pw),I,J,M]):=#[_,λ_ _ _=>qk_];refine forR G ((v _ _ _).mpr (CU ([]) ([]) none none none ((Same.new ae).newT u) (AF (Same.new u _ _ Ab) (Jg.nil Ab) rfl rfl (by simp) (by simp) rfl))) (λi ao H2 hi h2=>?_) (λao H2 h2=>?_)
  ·left;refine AX ((v _ _ _).mp h2) λc ways I J=>CF λM y f N O ag P A ap=>?_;subst ap;right;rw[xT_];nofun;refine#[.inr #[by lia,by lia],?_];have aq:0<=(i:Int)*((L:Int)+1)/\(i:Int)*((L:Int)+1)<=2000:=by
    have h1:i*(L+1)<=6*7:=qn_ s!"" s!"";have h2:(i:Int)*((L:Int)+1)=((i*(L+1):Nat):Int):=by push_cast;rfl
    rw[h2];lia
   generalize (i:Int)*((L:Int)+1)=B at aq ⊢;refine AY a F B 3000000003 rfl (y.seq ad) (AK s!"" s!"" s!"" λQ aV aW=>?_);obtain⟨R,S⟩:∃R:St->Hp->Prop,∀g H',R g H'↔(∃m:Int,0<=m/\m<=1000000000/\H'=upd H2 e (.lst ((c++[m]).map V.int))/\g=[some (.ref a),some (.int L),some (.int n),some (.ref e),some (.ref pw),some (.int i),some (.int B),some (.int Q)]):=#[_,λ_ _=>qk_];refine q_EA R ?_ λaX ah ar=>?_
   ·nofun;refine#[by decide,ite2 (λ_=>?_) (λ_=>?_)]
    ·refine q_AA (.inl #[rfl,_,SqL.of f]) #[by decide,by decide] (A7 _ f (by rw[ja_];lia) ((S _ _).mpr (q_EA (Q / 3) s!"" (q_AA s!"" (by simp) rfl))))
    ·refine q_AA (.inl #[rfl,_,SqL.of f]) (by decide) (A7 _ f (by rw[ja_];lia) ((S _ _).mpr (q_EA (Q%3) s!"" (q_AA s!"" (by simp) rfl))))
   left;refine e_E ((S _ _).mp ar) λm=>f_A λas=>f_A λau=>f_A λav aw=>?_;subst av;subst aw;right;have T:Same H (upd H2 e (.lst ((c++[m]).map V.int))):=y.over ae;have U:=N.off f (ys:=(c++[m]).map V.int) af;have ai:upd H2 e (.lst ((c++[m]).map V.int)) e=some (.lst ((c++[m]).map V.int)):=Ab;generalize upd H2 e (.lst ((c++[m]).map V.int))=ah at T U ai;obtain⟨us,ax,_⟩:=id U;nofun;refine AK (.inl #[rfl,_,SqL.of ax]) s!"" s!"" ?_;rw[jA_];obtain⟨W,l⟩:∃W:Nat->List V->St->Hp->Prop,∀j ys p q,W j ys p q↔(q=ah/\∃(b:α2) (o:Option V),ys=b.map V.int/\b.length=j/\(∀x∈b,0<=x/\x<(n:Int))/\p=[o,some (.ref a),some (.int n),some (.int B)]):=#[_,λ_ _ _ _=>qk_];refine SN W ((l _ _ _ _).mpr #[rfl,BS ([]) none rfl rfl (λx X=>by cases X) rfl]) s!"" (λj ys p q _ s=>?_) (λj ys p q aY s=>?_) (λys p q s D ay=>?_)
   ·left;refine e_A ((l _ _ _ _).mp s) λ_=>B6 λb o az C _=>?_;subst az;right;rw[ja_];lia
   ·left;refine e_A ((l _ _ _ _).mp s) λaA=>B6 λb o aB C=>f_A λY aC=>?_;subst aA;subst aB;subst aC;right;rw[xT_];nofun;refine AY a F (B+1+j) n rfl (T.seq ad) (AK s!"" s!"" s!"" λx aD aE=>(l _ _ _ _).mpr #[rfl,BS (b++[x]) _ (by simp) (by simp[C]) (λz Z=>?_) rfl]);rcases jr_.mp Z with h|h
    ·exact Y z h
    ·rw[jd_.mp h];exact#[aD,aE]
   left;refine e_A ((l _ _ _ _).mp s) λaF=>B6 λb aZ aG C=>f_A λY aH=>?_;subst aF;subst aG;subst aH;right;refine DL D rfl _ (.inl #[SqL.of Ab,λt aI=>?_]);have aa:=(Same.new ay (o:=.lst (b.map V.int))).newT aI (o:=.tup (b.map V.int));left;refine e_E ((U.mono aa).push (w:=b) (t:=t) (SqT.of Ab)) λxs=>f_A λaJ=>f_A λa0 aK=>?_;right;refine A7 xs aJ s!"" ((v _ _ _).mpr (CU (c++[m]) (ways++[b]) _ _ _ ((T.trans aa).over an) (AF (by rw[Ak (qs_ af)];exact aa _ _ ai) aK (by simp[O]) (by simp[ag]) (λz Z=>?_) (λr E=>?_) rfl)))
   ·rcases jr_.mp Z with h|h
    ·exact P z h
    ·rw[jd_.mp h];exact#[as,au]
   ·rcases jr_.mp E with h|h
    ·exact A r h
    ·rw[jd_.mp h];exact#[C,Y]
  ·left;refine AX ((v _ _ _).mp h2) λc ways I J=>CF λM y f N O ag P A aL=>?_;subst aL;right;nofun;refine#[_,.inl #[SqL.of f,λaM aj=>?_]];obtain⟨ys,aN,aO⟩:=(N.mono (Same.new aj (o:=.tup (c.map V.int)))).rows;refine#[ys,.inl #[SqL.of aN,λak ab=>#[by lia,λaP ac=>?_]]];exact k aP c ways _ (((y.newT aj).newT ab).newT ac) (AB aM ak (SqT.of Ab) (((Same.new ab).newT ac).seqT (SqT.of Ab)) ((aO ak ab).mono (Same.new ac)))
    #[by lia,by lia,by lia,by lia,by lia,λb E=>#[by have:=(A b E).1;lia,λx X=>by have:=(A b E).2 x X;lia],P] O
noncomputable def XD (K:α3):Sp:=λc H Q _=>∃(a:Addr) (b:α2),c=[.ref a]/\SqL K H a (b.map V.int)/\b.length<=63/\∀H',Q (.bl true) H'
def Cj_:⋯ EE.j79 16 ["script"] (XD K):=by
 delta EE.j79 Fg
 ·refine e_E h λa=>f_E λf=>f_A λbe _=>?_;try clear h;subst be;rfl
 ·left;refine AJ h λa f bf U=>f_A λcG k=>?_;try clear h;subst bf
  right;have cH:=Al;refine q_EA _ (Ac (Dz (i:=1) Fg.nd rfl (o9 rfl) (AW (opD0 Cn) Af (AW (opD CH) (Ah (Bp EE) hr.d Au (Aa (pvD 0) (Aa Af Ad))) Af)))
   (Ac (An (i:=2) Fg.nd (AW (opD0 Cn) Af (AW (opD CH) (AW (opD Jd) (Ah (Bp EE) hr.d Au (Aa (pvD 0) (Aa Af Ad))) Af) (Aj (ixLD Bo) (Co (Aa Af (Aa Af (Aa Af (Aa Af (Aa Af (Aa Af (Aa Af (Aa Af Ad))))))))) (AW (opD CH) (AW (opD Jd) (Ah (Bp EE) hr.d Au (Aa (pvD 0) (Aa Af Ad))) Af) Af)))))
   (Ac (An (i:=3) Fg.nd (AW (opD0 Cn) Af (AW (opD CH) (Ah (Bp EE) hr.d Au (Aa (pvD 0) (Aa Af Ad))) (Av (Ua rfl) rfl EE.max ub (Aa Af (Aa (AW (opD0 RD) (Av (lenD Aq) (by rfl) EE.len jO_ (Aa (pvD 0) Ad)) Af) Ad))))))
   (Ac (An (i:=4) Fg.nd (Ah (Ny EE) hr.d Au (Aa (BV Jf (pvD 0) (BR Af) (BR (pvD 3))) (Aa (pvD 1) (Aa (pvD 2) Ad)))))
   (Ic (An (i:=5) Fg.nd (AA AM rfl EE.tuple jE_ (Aa (Bh rfl (Bz rfl) (cp:=Vs) #[#[rfl,rfl],oO] (BZ (BV Jf (pvD 0) (BR (pvD 3)) (BR (AW (opD0 Cn) (pvD 3) Af)))) (λ_ _ _ _=>(As (i:=0) Th rfl (oQ rfl))) (λ_ _ _ _=>By) (λ_ _ _ _=>(AW (opD CH) (pvD 0) (pvD 1)))) Ad)))
   (Ic (Dz (i:=6) Fg.nd rfl (o9 rfl) (AW (opD Jd) (Ah (Bp EE) hr.d Au (Aa (pvD 0) (Aa Af Ad))) Af))
   (QR (Bb (ptT (Ay (opE EA) (AW (opD CH) (pvD 6) Af) Af (AL _)))
   (Ac (An (i:=7) Fg.nd (AW (opD0 RD) Af (Av (lenD Aq) (by rfl) EE.len jO_ (Aa (pvD 5) Ad))))
   (Ae (An (i:=5) Fg.nd (AW FG (pvD 5) (AA AM rfl EE.tuple jE_ (Aa (Bh rfl (Bz rfl) (cp:=Vt) #[#[rfl,rfl],#[#[rfl,rfl],oO]] (BJ rfl EE.range (Aa (pvD 7) Ad)) (λ_ _ _ _=>(As (i:=0) Ti rfl (oQ rfl))) (λ_ _ _ _=>By) (λ_ _ _ _=>(AW (opD CH) (AW (opD Jd) (AW (opD0 Cn) (AW (opD CH) (pvD 2) Af) (AW (opD NB) (AW (opD NB) (pvD 0) (pvD 0)) Af)) Af) (pvD 1)))) Ad))))))
   Az)
   (Ic (An (i:=8) Fg.nd (AW (opD0 Cn) Af (AW (opD CH) (Ah (Bp EE) hr.d Au (Aa (pvD 0) (Aa Af Ad))) Af)))
   (Ic (An (i:=9) Fg.nd (Ue EE.j41.m (J9 EE).g hr.d rfl EE.m_j0 (J9 EE).b .nil Au (Aa (pvD 1) (Aa (pvD 8) Ad))))
   (Ic (Bb (Cm (ptB (Cd (Ah (Nx EE) hr.d Au (Aa (pvD 9) (Aa (pvD 4) (Aa (pvD 5) (Aa (D9 (opE EA) (AW (opD CH) (AW (opD Jd) (Ah (Bp EE) hr.d Au (Aa (pvD 0) (Aa Af Ad))) Af) Af) Af (AL _)) Ad))))))))
   (Ae (Ao E9))
   Az)
   (Ic (An (i:=10) Fg.nd (A2 (pvD 9) EE.cl_j0 EE.j0.m (BP EE).g hr.d (BP EE).b .nil Au))
   (Ac (Bb (ptT (Ay (opE EA) (Aj (ixTD Ap) (pvD 10) Af) A0 (AL _)))
   (Ae (Ao (Nz (Ah (EF EE) hr.d Au (Aa (pvD 9) (Aa (pvD 4) (Aa (Aj (ixTD Ap) (pvD 10) Af) Ad)))) (Pm (D9 (opE EA) (Av (lenD Aq) (by rfl) EE.len jO_ (Aa (Aj (ixTD Ap) (Aj (ixTD Ap) (pvD 10) Af) Af) Ad)) (Ah (Hr EE) hr.d Au (Aa (pvD 4) Ad)) (AL _))))))
   Az)
   (Ac (Bb (PW.pt (JK (ptT (Ay (opN KH) (Aj (ixTD Ap) (pvD 10) Af) A0 (AL _))) (Ir (Cm (ptB (Cd (Ah (ED EE) hr.d Au (Aa (pvD 9) (Aa (pvD 4) (Aa (Co (Aa (Aj (ixTD Ap) (pvD 10) Af) Ad)) Ad))))))))))
   (Ae (Ao E9))
   Az)
   (Ac (An (i:=7) Fg.nd (Ah (MN EE) hr.d (FH (P:=P) (w:=w)) (Aa (Ah (Er EE) hr.d Au (Aa (pvD 9) Ad)) Ad)))
   (Ae (Ao (Nz (Ah (Gd EE) hr.d Au (Aa (pvD 7) Ad)) (Nz (D9 (opE EA) (pvD 7) (AW (opD0 Cn) (pvD 8) Af) (AL _)) (Pm (D9 (opD0 Ck_) (Ah (Hr EE) hr.d Au (Aa (pvD 4) Ad)) (pvD 7) (AL _))))))))))))))))))))) ?_
  nofun;refine#[a,AB f 0 rfl U (A7 _ rfl (by decide) (BC a f 0 rfl (Dq U _ rfl (q_AA #[by decide,by decide] s!"" λay bg=>?_))))];have az:=Same.new bg (o:=.lst [V.int 4,V.int 4,V.int 4,V.int 4,V.int 4,V.int 4,V.int 4,V.int 6]);have aQ:upd H ay (.lst [V.int 4,V.int 4,V.int 4,V.int 4,V.int 4,V.int 4,V.int 4,V.int 6]) ay=some (.lst [V.int 4,V.int 4,V.int 4,V.int 4,V.int 4,V.int 4,V.int 4,V.int 6]):=Ab;generalize upd H ay (.lst [V.int 4,V.int 4,V.int 4,V.int 4,V.int 4,V.int 4,V.int 4,V.int 6])=H1 at az aQ ⊢;obtain⟨al,bh,cI⟩:∃n:Int,atI [V.int 4,V.int 4,V.int 4,V.int 4,V.int 4,V.int 4,V.int 4,V.int 6] (cell f 0 / 97%8)=some (.int n)/\(n=4\/n=6):=by
   have aR:=xi_ (cell f 0 / 97) (show (8:Int)≠0 by decide);have h1:=qR_ (cell f 0 / 97) (show (0:Int)<8 by decide);generalize cell f 0 / 97%8=q at aR h1;have aA:q=0\/q=1\/q=2\/q=3\/q=4\/q=5\/q=6\/q=7:=by lia
   rcases aA with rfl|rfl|rfl|rfl|rfl|rfl|rfl|rfl<;>exact q_EA _ rfl (by decide)
  have am:=az.seq U;refine#[a,AB f 0 rfl am (OV _ rfl #[by decide,by decide] (by decide) _ (SqL.of aQ) (DL _ bh _ (Br rfl s!"" a (AB f 1 rfl am (Ar _ (.inl am) _ rfl (Dq (by split<;>lia) _ am λp aB=>?_))))))];obtain⟨L,bi,aC,cJ⟩:∃L:Nat,1+cell f 0%3=(L:Int)/\1<=L/\L<=3:=A7 (1+cell f 0%3).toNat s!"" s!"" s!"";obtain⟨n,bj,bk,bl⟩:∃n:Nat,1+cell f 0 / 3%al=(n:Int)/\1<=n/\n<=6:=by
   have aR:=xi_ (cell f 0 / 3) (show al≠0 by lia);have h1:=qR_ (cell f 0 / 3) (show 0<al by lia);exact A7 (1+cell f 0 / 3%al).toNat s!"" s!"" s!""
  rw[bi,bj];generalize (3+cell f 1%if ((f.map V.int).length:Int)-2 > 1 then ((f.map V.int).length:Int)-2 else 1)=N;rw[LX];have bm:=az.newT aB (o:=.lst ((cutI f (some 3) (some N)).map V.int));refine Bj p _ L n (AF rfl (SqL.of Ab) aC s!"" bk bl λh hm hw aS bn bo bp bq=>?_);have aT:=bm.trans bn;dsimp only;have br:=aT.seq U;refine q_EA _ br λp2 bs=>?_;have aU:(cutI f (some N) (some (N+400))).length<=63:=by
   have h1:=Je (f.map V.int) (some N) (some (N+400));rw[LX,ja_,ja_]at h1;lia
  rw[LX];generalize cutI f (some N) (some (N+400))=I at aU;have aV:=Same.new bs (o:=.lst (I.map V.int));have aD:upd aS p2 (.lst (I.map V.int)) p2=some (.lst (I.map V.int)):=Ab;generalize upd aS p2 (.lst (I.map V.int))=S at aV aD ⊢;exists #[_,SqL.of aD];obtain⟨aE,ab⟩:∃aE:Nat->List V->St->Hp->Prop,∀i us O H',aE i us O H'↔(H'=S/\us=((I.take i).map λx=>x%(L:Int)).map V.int/\∃o,O=[o,some (.int L)]):=#[_,λ_ _ _ _=>qk_];refine Nb (xs:=I.map V.int) aE ((ab _ _ _ _).mpr (Br rfl rfl none rfl)) (by rw[ja_];lia) (λi us O H' hi h'=>?_) (λi x us O H' B h'=>?_) (λus O H' h' D bt=>?_)
  ·left;obtain⟨rfl,rfl,_⟩:=(ab _ _ _ _).mp h';right;exact#[SqL.of aD,by rw[ja_,ja_,jC_];lia]
  ·left;refine BI ((ab _ _ _ _).mp h') λbu bv o bw=>?_;subst bu;subst bv;subst bw;obtain⟨y,F,rfl⟩:=JL B;right;have bx:I.take (i+1)=I.take i++[y]:=by rw[jF_,F];rfl
   nofun;refine#[by lia,(ab _ _ _ _).mpr (Br rfl ?_ _ rfl)];rw[bx,jn_,jn_];rfl
  left;refine BI ((ab _ _ _ _).mp h') λbz bA o bB=>?_;subst bz;subst bA;subst bB;right;rw[ja_,jz_];refine DL D rfl _ (.inl #[SqL.of Ab,λt aW=>?_]);obtain⟨C,aF⟩:∃C,C=I.map λx=>x%(L:Int):=#[_,rfl];have aX:isW (L:Int) C=true:=AE.mpr λx B=>by
   rw[aF]at B;left;obtain⟨y,_,rfl⟩:=jp_.mp B;right;exact#[xi_ _ s!"",qR_ _ s!""]
  have cK:C.length<=63:=by rw[aF,ja_];exact aU
  rw[<-aF]at aW ⊢;have aG:=aV.trans ((Same.new bt (o:=.lst (C.map V.int))).newT aW (o:=.tup (C.map V.int)));have an:upd (upd H' D (.lst (C.map V.int))) t (.tup (C.map V.int)) t=some (.tup (C.map V.int)):=Ab;generalize upd (upd H' D (.lst (C.map V.int))) t (.tup (C.map V.int))=aY at aG an ⊢;have aZ:=aT.trans aG;have bC:=aZ.seq U;have bD:=bo.mono aG;refine FN ?_;nofun;refine#[a,AB f 2 rfl bC (A7 _ rfl #[by decide,by decide] ?_)];refine FN ?_;nofun;obtain⟨R,aH⟩:∃R:St->Hp->Prop,∀O H',R O H'↔(∃(ao:Addr) (v:α2) (a0:Option V),Same aY H'/\H' ao=some (.tup (v.map V.int))/\isW (L:Int) v=true/\v.length<=400/\O=[some (.ref a),some (.int L),some (.int n),some (.int N),some (.ref h),some (.ref ao),some (.int (cell f 2 / 10)),a0,none,none,none]):=#[_,λ_ _=>qk_];refine q_EA R ?_ λcL X bE=>?_
  ·nofun;refine#[by decide,?_];by_cases a1:cell f 2 / 10%8=1
   ·refine DZ a1 ?_;refine q_EA _ (.inr (SqT.of an)) ?_;rw[ja_];refine q_AA s!"" s!"" ?_;obtain⟨aI,bF,cM⟩:∃aI:Nat,(400-(C.length:Int))=(aI:Int)/\C.length+aI=400:=q_EA (400-C.length) s!"" s!"";rw[bF,jA_];obtain⟨aJ,ac⟩:∃aJ:Nat->List V->St->Hp->Prop,∀j ys ae S,aJ j ys ae S↔(S=aY/\∃(u:α2) (o:Option V),ys=u.map V.int/\u.length=j/\isW (L:Int) u=true/\ae=[o,some (.int L),some (.int (cell f 2 / 10))]):=#[_,λ_ _ _ _=>qk_];refine SN aJ ((ac _ _ _ _).mpr #[rfl,BS ([]) none rfl rfl (AE.mpr (λx B=>by cases B)) rfl]) s!"" (λj ys ae S _ af=>?_) (λj ys ae S cN af=>?_) (λys ae S af bG bH=>?_)
    ·left;refine e_A ((ac _ _ _ _).mp af) λ_=>B6 λu o bI ap _=>?_;subst bI;right;rw[ja_];lia
    ·left;refine e_A ((ac _ _ _ _).mp af) λbJ=>B6 λu o bK ap=>f_A λag bL=>?_;subst bJ;subst bK;subst bL;right;rw[xT_];nofun;refine q_AA (by decide) (.inl #[by lia,by lia]) (AK (.inr #[by decide,by decide]) #[by decide,by decide] s!"" ((ac _ _ _ _).mpr #[rfl,BS (u++[_]) _ (by rw[jn_];rfl) (by rw[jk_,ap];rfl) (AE.mpr λx B=>?_) rfl]));rcases jr_.mp B with B|B
     ·exact AE.mp ag x B
     ·rw[jd_.mp B];exact#[xi_ _ s!"",qR_ _ s!""]
    left;refine e_A ((ac _ _ _ _).mp af) λbM=>B6 λu o bN ap=>f_A λag bO=>?_;subst bM;subst bN;subst bO;right;refine DL bG rfl _ (.inl #[SqL.of Ab,λl bP=>?_]);have a2:=(Same.new bH (o:=.lst (u.map V.int))).newT bP (o:=.tup (u.map V.int));refine Eb.ofS (a2 _ _ an) Ab (by rw[ja_,ja_];lia) λq Y c aA=>(aH _ _).mpr (BC q (C++u) _ (a2.trans c) (AK (by rw[aA,jn_]) (AE.mpr λx B=>?_) (by rw[jk_,ap];lia) rfl));rcases jr_.mp B with B|B
    ·exact AE.mp aX x B
    ·exact AE.mp ag x B
   ·refine Bw a1 ?_;exact (aH _ _).mpr (BC t C _ (Same.refl _) (AK an aX s!"" rfl))
  left;refine Ej ((aH _ _).mp bE) λao v a0 a3 bQ aK bR bS=>?_;subst bS;right;have bT:=aZ.trans a3;have a4:=bT.seq U;have a5:=bD.mono a3;refine FN ?_;nofun;refine#[a,AB f 2 rfl a4 (A7 _ rfl (by decide) ?_)];obtain⟨G,bU,a6,bV⟩:∃G:Nat,1+cell f 2%5=(G:Int)/\1<=G/\G<=5:=A7 (1+cell f 2%5).toNat s!"" s!"" s!"";rw[bU];refine FN ?_;nofun;refine λJ dx aL bW cO=>?_;have ai:Same X (upd (upd X dx (.own J)) J (.ins ah dx [])):=λy o F=>by
   rw[Ak (λz=>by rw[z,aL]at F;cases F),Ak (λz=>by rw[z,bW]at F;cases F)];exact F
  refine Bj J dx L G (AF rfl Ab aC s!"" a6 s!"" λad bX s x wv aq bY bZ aM cP ar=>#[rfl,?_]);have b0:∀y o,X y=some o->y≠J:=λy o F z=>by rw[z,aL]at F;cases F
  have a7:Same X bX:=λy o F=>aM y o (ai y o F) (b0 y o F);have b1:Nn41 X ad:=AK (ai.none ar.1) (ai.none ar.2.1) (ai.none ar.2.2.1) (ai.none ar.2.2.2);have aN:=VG (L:=L) (most:=G) 400 aC s!"" a6 s!"";left;obtain⟨b2,aO⟩:=aq.ok aN;obtain⟨j,b3⟩:=Goes.J41 aq aN (J41.start L G);right;have aj:s.L=L:=aO.l;have a8:s.most=G:=aO.m;have a9:s.es=[]:=aO.e;have led:Led41 s x hm hw 0:=#[b2,j,b3,(by rw[a9];intro p aB;cases aB),by rw[aj];exact bp,by rw[a8];exact bV];have b4:Aw (s039 L G).W:=#[rfl,λi u hi ag=>by
   have:=(jb_.mp ag).1;have:i<1:=this;lia]
  have b5:=aq.aw51 aN b4;refine FN ?_;nofun;refine BC a f 2 rfl (Dq (a7.seq a4) _ rfl (q_AA #[by decide,by decide] (by decide) (AI J h ao _ X (Bj ad s wv x (Ai hm hw v rfl bY (by rw[aj];exact bZ) (AF led b5 a9 aq.nd41 a7 aL (AF b1 (by rw[aj];exact a5) s!"" bQ (by rw[aj];exact aK) bR λY as c b6 cQ ak au b7 b8 b9 ca=>q_EA true rfl ?_)))))));refine Bw (by decide) ?_;refine FN ?_;nofun;left;refine e_E (id ak) λgv=>CY λrv zs ys us cb=>?_;right;refine AB _ _ cb.ob (by kernel_rfl) (AY J as c b6 rfl ak ?_);refine FN ?_;nofun;left;refine AJ (id au) λZ Q cc aa T=>?_;subst cc;obtain⟨cd,d,aM⟩:=b8;right;have av:Cp K Y h c.L hm hw:=by rw[b9,aj];exact a5.mono b7
  have ba:∀x,Led41 c x hm hw d->c.W.length<=5:=λx l=>by
   obtain⟨y,o⟩:=WOk.okx41 l.ok;have h1:=o.tb.wn;have h2:=l.m5;lia
  rcases aM with ⟨r,rfl,A⟩|⟨m,ws,rfl,A,ce⟩
  ·have cf:=ba _ A;left;refine K8 (id A.ok) λaw cg ch ci cR cS cj cT ck=>?_;right;have T:Y Q=some (.tup (r.map V.int)):=T;refine Ar Z rfl _ (SqT.of aa) (A7 _ rfl rfl ?_);refine Bw (show ¬ V.str (Wish.tag (.spent r))=V.str ("done" : Str) from λz=>absurd (V.str.inj z) (show ¬ ("spent" : Str) = "done" by decide +kernel)) ?_;refine Ar Z rfl _ (SqT.of aa) (A7 _ rfl rfl ?_);refine Bw (by rw[jH_ (show V.str (Wish.tag (.spent r))=V.str (Str.ofString "spent") from rfl)];decide) ?_;refine Ar Z rfl _ (SqT.of aa) (A7 _ rfl s!"" λcm cn=>?_);have M:=Same.new cn (o:=.lst [V.ref Q]);refine AI J h cm as c (BX _ (.spent r) hm hw ([V.ref Q]) ([r]) (AF rfl (Asks.same ak M) (au.mono (TK.of M)) s!"" (av.mono M) A.wf (AF Ab (Am.snoc Am.nil (M _ _ T)) (by simp) rfl A.pwf51 A.co λcq bb=>q_EA true rfl ?_)));refine Bw (by decide) ?_;have aP:=M.trans bb;refine CU J as c _ (.spent r) rfl (AK (Asks.same ak aP) (au.mono (TK.of aP)) s!"" λcr cU cs ct=>?_);dsimp only;obtain⟨cu,cv,cw⟩:=ct.ppr;have bc:((accX c (.spent r)).length:Int)=(G:Int)+1:=by
    show ((c.W++[r]).length:Int)=_;rw[jk_,jB_,ci,ca,a8];push_cast;rfl
   refine AI cr c.L cu cv _ (AO _ _ rfl cw A.b51 (λcV cx _=>?_) λ_ _ z=>absurd A.tt51 z);dsimp only;refine q_EA _ rfl ?_;dsimp only;refine q_EA true rfl ?_;refine DZ rfl ?_;exists rfl;refine DZ (qx_ V.int bc) ?_;refine Bj h c.L hm hw (AK rfl (av.mono (aP.trans (cs.trans cx))) A.wf λcl ds cW cX ax=>?_);have cY:=ax.more A.co aw.tb cj ck;dsimp only;refine Ar _ rfl _ rfl ?_;rw[jH_ (by rw[bc];lia)];exact k _
  ·have cf:=ba _ A;left;refine B5 (id A.ok) λaw cg ch cZ bd c0=>?_;right;have cy:=aw.tb.wf bd;have bq:=bd.ml;have T:HouT K Y Q c.L m ws:=T;have cz:=HouT.house T;have cA:m=c.W.map (mk49 c.es):=A.jx.2.1;have cB:ws=fW c.L (gI c.es c.E) c.W:=A.jx.2.2;have cC:Cp K Y Q c.L ((accX c (.done m ws)).map (mk49 c.es)) (fW c.L (gI c.es c.E) (accX c (.done m ws))):=by
    show Cp K Y Q c.L (c.W.map (mk49 c.es)) (fW c.L (gI c.es c.E) c.W);rw[<-cA,<-cB];exact cz
   refine Ar Z rfl _ (SqT.of aa) (A7 _ rfl rfl ?_);refine DZ (show V.str (Wish.tag (.done m ws))=V.str (Str.ofString "done") from rfl) ?_;refine AH Z rfl _ (SqT.of aa) _ rfl (Bj J h Q as (AI c _ (.done m ws) hm hw (AF rfl ak au s!"" av A.wf (AF rfl A.pwf51 A.co cC A.b51 (A.jp51 cd) λc1 M=>q_EA true rfl ?_))));refine DZ rfl ?_;left;refine CV (HouT.mono T (TK.of M)) λcD c2 c3 cE cF c4 c5=>?_;right;refine Ar Z rfl _ (SqT.of (M _ _ aa)) (Ar _ rfl Q rfl (AH _ (SqT.of cE) _ rfl cD rfl (DL _ (.inr (SqT.of cF)) h (Ai c.L hm hw rfl (av.mono M) A.wf λcl ds cq bb ax=>#[rfl,?_]))));have h1:=ax.le A.co aw.tb;have h2:=ax.ge cy (λv aK=>by
    have:=ce v aK;unfold Qv at this;rw[CD,CD]at this;exact Classical.not_not.mp this)
   rw[ja_,jH_ (qx_ V.int s!"")];exact k _
end
def all_mk {l:qr}{w:World}{K:α3}{h:Heap}{mg:Str->α5}{c j k U m n o V W Y Z aa ab p ac ad q ae af ag r t ai aj u x al am an ao ap y aq ar z A B C D E H I J as au av aw ax ay az aA aB aC aD aE aF aG aH aI aJ aK aL aM aN aO aR aS aT L M aU N O Q R S T aV aX aY c7:Addr}(X:K.In h)(G:h.Ns mainGlobals mg)(c8:mg "law"=some (.ref c))
  {aP aQ aW bE bu bF ak cc cg ah:Addr}
  {aZ a0 a1 a2 a3 a4 a5 a6 a7 a8 a9 ba bb bc bd be bf bg bh bi bj bk bl bm bn bo bp bq br bs bt bv bw bx bz bA bB bC bD bG Ex bH bI bJ bK bL bM bN bO bP bQ bR bS bT bU bV bW bX bY bZ b0 b1 b2 b3 b4 b5 b6 b7 b8 b9 ca cb cd ce cf ch ci cj ck d:α6}
  (aC_j1:nsIn K mainGlobals "Book"=some (some (.ref ak)))
  (c9:pb K ak Str.empty=true)
  (da:pj K ak=true)
  (db:pk K ak=true)
  (dc:oP K (.ref ak) "__setattr__"=some (some (.builtin "object.__setattr__")))
  (dd:oP K (.ref ak) "letters"=some none)
  (de:oP K (.ref ak) "marks"=some none)
  (df:nsIn K mainGlobals "Turns"=some (some (.ref cc)))
  (dg:nsIn K mainGlobals "Hunt"=some (some (.ref cg)))
  (dh:nsIn K mainGlobals "Asker"=some (some (.ref ah)))
  (di:pb K ah Str.empty=true)
  (dj:pj K ah=true)
  (dk:pk K ah=true)
  (dl:oP K (.ref ah) "__setattr__"=some (some (.builtin "object.__setattr__")))
  (dm:oP K (.ref ah) "book"=some none)
  (dn:oP K (.ref ah) "ends"=some none)
  (dp:oP K (.ref ah) "gaps"=some none)
  (dq:oP K (.ref ah) "guess"=some none)
  (dr:oP K (.ref ah) "letters"=some none)
  (ds:oP K (.ref ah) "most"=some none)
  (dt:oP K (.ref ah) "ways"=some none)
  (du:oP K (.ref ah) "wish"=some none)
  (dv:oP K (.ref ah) "wrong"=some none)
  {dw:Tok}
  (dx:nsIn K mainGlobals "EMPTY"=some (some (.str "." dw)))
  {dy:Tok}
  (dz:nsIn K mainGlobals "FIGURES"=some (some (.str "0123456789" dy)))
  {dA:Tok}
  (dB:nsIn K mainGlobals "MOST_FIGURES"=some (some (.int 10 dA)))
  {dC:Tok}
  (dD:nsIn K mainGlobals "MOST_LETTERS"=some (some (.int 6 dC)))
  {dE:Tok}
  (dF:nsIn K mainGlobals "MOST_MARK"=some (some (.int 1000000000 dE)))
  {dG:Tok}
  (dH:nsIn K mainGlobals "SIGNS"=some (some (.str "abcdef" dG)))
  (J0:HG K "wants" "Turns.wants" FP j aZ (Meth K ah "wants" j))
  (dI:HG K "access" "Hunt.access" FQ k a0 (Meth K ah "access" k))
  (j2:HF K "access_and_over" Dm U a1)
  (dJ:HG K "tellers" "Hunt.tellers" EM m a2 (Meth K ah "tellers" m))
  (dK:HG K "heard" "Book.heard" GO n a3 (Meth K ak "heard" n))
  (dL:HG K "heard" "Hunt.heard" GP o a4 (Meth K ah "heard" o))
  (cl:HF K "paper_of" KS V a5)
  (cm:HF K "is_word" Mr W a6)
  (cn:HF K "has_letters_alone" Cs Y a7)
  (co:HF K "marks_heard" FT Z a8)
  (cp:HF K "tells_apart" FU aa a9)
  (cq:HF K "at_least" KU ab ba)
  (dM:HG K "__init__" "Book.__init__" Jk p bb (Mk K ak p))
  (cr:HF K "check_word" GQ ac bc)
  (cs:HF K "trail" Q5 ad bd)
  (dN:HG K "told" "Book.told" Jl q be (Meth K ak "told" q))
  (ct:HF K "halved" OI ae bf)
  (cu:HF K "rows_of" Ms af bg)
  (cv:HF K "cells" Q6 ag bh)
  (dO:HG K "ask_for" "Hunt.ask_for" ER r bi (Meth K ah "ask_for" r))
  (dP:HG K "look_for_gaps" "Asker.look_for_gaps" B2 t bj (Meth K ah "look_for_gaps" t))
  (cw:HF K "room_behind" FV ai bk)
  (cx:HF K "mark_behind" FW aj bl)
  (dQ:HG K "answer" "Asker.answer" ES u bm (Meth K ah "answer" u))
  (dR:HG K "halve" "Asker.halve" FX x bn (Meth K ah "halve" x))
  (cy:HF K "marks_of" KW al bo)
  (cz:HF K "marks_by_row" ET am bp)
  (cA:HF K "stranger" KY an bq)
  (cB:HF K "ways_by_marks" Eh ao br)
  (cC:HF K "guess_of" KZ ap bs)
  (dS:HG K "make_guess" "Asker.make_guess" CM y bt (Meth K ah "make_guess" y))
  (cD:HF K "first_unlike" EU aq bv)
  (cE:HF K "first_wrong" FZ ar bw)
  (dT:HG K "wrong_word" "Asker.wrong_word" CN z bx (Meth K ah "wrong_word" z))
  (dU:HG K "look_at_guess" "Hunt.look_at_guess" Cg A bz (Meth K ah "look_at_guess" A))
  (dV:HG K "look_at_words" "Asker.look_at_words" B3 B bA (Meth K ah "look_at_words" B))
  (dW:HG K "next_wish" "Hunt.next_wish" DI C bB (Meth K ah "next_wish" C))
  (dX:HG K "go_on" "Turns.go_on" F0 D bC (Meth K ah "go_on" D))
  (dY:HG K "__init__" "Turns.__init__" GS E bD (CMeth K cc "__init__" E))
  (dZ:HG K "__init__" "Hunt.__init__" Jq H bG (CMeth K cg "__init__" H))
  (d0:HG K "first_ends" "Asker.first_ends" CP I Ex (Meth K ah "first_ends" I))
  (d1:HG K "__init__" "Asker.__init__" GU J bH (Mk K ah J))
  (cF:HF K "_law_cell_at" EV as bI)
  (cG:HF K "_law_whole" GX au bJ)
  (cH:HF K "_law_draw" Js av bK)
  (cI:HF K "_law_hidden" F1 aw bL)
  (cJ:HF K "_law_classes" EW ax bM)
  (cK:HF K "word_text" Jt ay bN)
  (cL:HF K "row_text" K1 az bO)
  (cM:HF K "paper_text" GZ aA bP)
  (cN:HF K "rows_in" Mv aB bQ)
  (j51:HF K "parts_behind" EX aC bR)
  (cO:HF K "read_number" F2 aD bS)
  (cP:HF K "read_count" G1 aE bT)
  (cQ:HF K "read_letters" EY aF bU)
  (cR:HF K "is_mark" My aG bV)
  (cS:HF K "read_word" Ju aH bW)
  (cT:HF K "read_heard" G2 aI bX)
  (cU:HF K "read_words" G3 aJ bY)
  (cV:HF K "read_paper" G4 aK bZ)
  (cW:HF K "_law_answer" F4 aL b0)
  (cX:HF K "_law_paper_now" DJ aM b1)
  (cY:HF K "_law_paper_good" Dn aN b2)
  (cZ:HF K "are_access_words" CQ aO b3)
  (c0:HF K "ways_heard" G8 aR b4)
  (c1:HF K "judged" ON aS b5)
  (c2:HF K "_law_shown_good" Dp aT b6)
  (d2:HG K "check_wants" "Turns.check_wants" Ct L b7 (Meth K ah "check_wants" L))
  (d3:HG K "agree" "Hunt.agree" G9 M b8 (Meth K ah "agree" M))
  (c3:HF K "check_mark" Ha aU b9)
  (d4:HG K "check" "Book.check" Hb N ca (Meth K ak "check" N))
  (d5:HG K "put" "Book.put" K2 O cb (Meth K ak "put" O))
  (d6:HG K "keep_answer" "Hunt.keep_answer" CT Q cd (Meth K ah "keep_answer" Q))
  (d7:HG K "hear" "Asker.hear" Hc R ce (Meth K ah "hear" R))
  (d8:HG K "keep_objection" "Hunt.keep_objection" B4 S cf (Meth K ah "keep_objection" S))
  (d9:HG K "differ" "Asker.differ" EZ T ch (Meth K ah "differ" T))
  (c4:HF K "_law_unlike" F5 aV ci)
  (c5:HF K "_law_objection" DK aX cj)
  (c6:HF K "_law_played" F6 aY ck)
  (f:HF K "law" ZI c7 d)
  (ea:nsIn K mainGlobals "all"=some none)
  (eb:nsIn K mainGlobals "any"=some none)
  (ec:nsIn K mainGlobals "bool"=some none)
  (ed:nsIn K mainGlobals "dict"=some none)
  (ee:nsIn K mainGlobals "enumerate"=some none)
  (z_int:nsIn K mainGlobals "int"=some none)
  (ef:nsIn K mainGlobals "isinstance"=some none)
  (eg:nsIn K mainGlobals "len"=some none)
  (eh:nsIn K mainGlobals "list"=some none)
  (z_max:nsIn K mainGlobals "max"=some none)
  (ei:nsIn K mainGlobals "range"=some none)
  (ej:nsIn K mainGlobals "set"=some none)
  (ek:nsIn K mainGlobals "str"=some none)
  (el:nsIn K mainGlobals "tuple"=some none)
  (em:nsIn K mainGlobals "BadWord"=some (some (.ref aP)))
  (en:nsIn K mainGlobals "BadMark"=some (some (.ref aQ)))
  (eo:nsIn K mainGlobals "OutOfTurn"=some (some (.ref aW)))
  (ep:nsIn K mainGlobals "NoDifference"=some (some (.ref bE)))
  (eq:nsIn K mainGlobals "Contradiction"=some (some (.ref bu)))
  (er:nsIn K mainGlobals "NoPaper"=some (some (.ref bF)))
  (x_j5:oU K aP bmV "ValueError.__new__"=true)
  (es:oU K aQ bmV "ValueError.__new__"=true)
  (et:oU K aW bmV "ValueError.__new__"=true)
  (eu:oU K bE bmV "ValueError.__new__"=true)
  (ev:oU K bu bmV "ValueError.__new__"=true)
  (ew:oU K bF bmV "ValueError.__new__"=true)
  : ∃fd:α6,(∀(s:Shared) (v:Value),BindsTo s fd #[[v],[]] [("script",v)])/\∀base:Heap,K.In base->base.Ns mainGlobals mg->FnOk l.prog w K mg base CX0 16 c fd ["script"] (XD K):=by
 have e:=c8.symm.trans (jq_ X G f.a);cases e;exact q_EA d (f.b λ_ _ _ _ _ _ _=>rfl) λbase _ _=>(Cj_ (P:=l.prog) (w:=w) (base:=base) (fA:=λi=>[j,k,U,m,n,o,V,W,Y,Z,aa,ab,p,ac,ad,q,ae,af,ag,r,t,ai,aj,u,x,al,am,an,ao,ap,y,aq,ar,z,A,B,C,D,E,H,I,J,as,au,av,aw,ax,ay,az,aA,aB,aC,aD,aE,aF,aG,aH,aI,aJ,aK,aL,aM,aN,aO,aR,aS,aT,L,M,aU,N,O,Q,R,S,T,aV,aX,aY,c].getD i c) (fD:=λi=>[aZ,a0,a1,a2,a3,a4,a5,a6,a7,a8,a9,ba,bb,bc,bd,be,bf,bg,bh,bi,bj,bk,bl,bm,bn,bo,bp,bq,br,bs,bt,bv,bw,bx,bz,bA,bB,bC,bD,bG,Ex,bH,bI,bJ,bK,bL,bM,bN,bO,bP,bQ,bR,bS,bT,bU,bV,bW,bX,bY,bZ,b0,b1,b2,b3,b4,b5,b6,b7,b8,b9,ca,cb,cd,ce,cf,ch,ci,cj,ck,d].getD i d) #[#[j7_ X G ea,j7_ X G eb,j7_ X G ec,j7_ X G ed,j7_ X G ee,j7_ X G z_int,j7_ X G ef,j7_ X G eg,j7_ X G eh,j7_ X G z_max,j7_ X G ei,j7_ X G ej,j7_ X G ek,j7_ X G el],#[jq_ X G aC_j1,#[c9,da,db,dc],dd,de,jq_ X G df,jq_ X G dg,jq_ X G dh,#[di,dj,dk,dl],dm,dn,dp,dq,dr,ds,dt,du,dv,#[_,jq_ X G dx],#[_,jq_ X G dz],#[_,jq_ X G dB],#[_,jq_ X G dD],#[_,jq_ X G dF],#[_,jq_ X G dH]],#[jq_ X G em,jq_ X G en,jq_ X G eo,jq_ X G ep,jq_ X G eq,jq_ X G er,x_j5,es,et,eu,ev,ew],J0,dI,#[jq_ X G j2.a,j2.F],dJ,dK,dL,#[jq_ X G cl.a,cl.F],#[jq_ X G cm.a,cm.F],#[jq_ X G cn.a,cn.F],#[jq_ X G co.a,co.F],#[jq_ X G cp.a,cp.F],#[jq_ X G cq.a,cq.F],dM,#[jq_ X G cr.a,cr.F],#[jq_ X G cs.a,cs.F],dN,#[jq_ X G ct.a,ct.F],#[jq_ X G cu.a,cu.F],#[jq_ X G cv.a,cv.F],dO,dP,#[jq_ X G cw.a,cw.F],#[jq_ X G cx.a,cx.F],dQ,dR,#[jq_ X G cy.a,cy.F],#[jq_ X G cz.a,cz.F],#[jq_ X G cA.a,cA.F],#[jq_ X G cB.a,cB.F],#[jq_ X G cC.a,cC.F],dS,#[jq_ X G cD.a,cD.F],#[jq_ X G cE.a,cE.F],dT,dU,dV,dW,dX,dY,dZ,d0,d1,#[jq_ X G cF.a,cF.F],#[jq_ X G cG.a,cG.F],#[jq_ X G cH.a,cH.F],#[jq_ X G cI.a,cI.F],#[jq_ X G cJ.a,cJ.F],#[jq_ X G cK.a,cK.F],#[jq_ X G cL.a,cL.F],#[jq_ X G cM.a,cM.F],#[jq_ X G cN.a,cN.F],#[jq_ X G j51.a,j51.F],#[jq_ X G cO.a,cO.F],#[jq_ X G cP.a,cP.F],#[jq_ X G cQ.a,cQ.F],#[jq_ X G cR.a,cR.F],#[jq_ X G cS.a,cS.F],#[jq_ X G cT.a,cT.F],#[jq_ X G cU.a,cU.F],#[jq_ X G cV.a,cV.F],#[jq_ X G cW.a,cW.F],#[jq_ X G cX.a,cX.F],#[jq_ X G cY.a,cY.F],#[jq_ X G cZ.a,cZ.F],#[jq_ X G c0.a,c0.F],#[jq_ X G c1.a,c1.F],#[jq_ X G c2.a,c2.F],d2,d3,#[jq_ X G c3.a,c3.F],d4,d5,d6,d7,d8,d9,#[jq_ X G c4.a,c4.F],#[jq_ X G c5.a,c5.F],#[jq_ X G c6.a,c6.F],#[jq_ X G f.a,f.F]]).g
def walk {l:qr}{q:Program}{e:List Str}{g:(Str->α5)->Heap->Prop}{b:World->Heap->Prop}{d:DefRec}{K:Params->α3}(i:l.most=some 63)(j:d.params.defaults=[])
  (m:∀(w:World) (h:Heap),b w h->(K w.params).In h)
  (F:∀(w:World) (mg:Str->α5) (c:Addr) (h:Heap),(K w.params).In h->h.Ns mainGlobals mg->mg d.name=some (.ref c) ->
   ∃fd:α6,(∀(s:Shared) (u:Value),BindsTo s fd #[[u],[]] [("script",u)])/\∀base:Heap,(K w.params).In base->base.Ns mainGlobals mg->FnOk l.prog w (K w.params) mg base CX0 16 c fd ["script"] (XD (K w.params))):
  tD q e g b l.row.toRowW d [] (λf vs=>rX f vs):=
 L2.walk_of (n:=63) (k:=16) (x := "script") (CX:=λ_=>CX0) (sp:=λw=>XD (K w.params)) i (by decide) j #[rfl,by decide,by decide] m F (λ_ _ a o p _ r=>BS a o rfl r p λ_=>rfl) λ_ _ _ _ _ z=>z
end Mine
structure PySem.W.Fast:Prop where (tw12721220172022734127 tw18035361102203154833 tw15089150717817414051 tw1718910986241804196 tw9137804476363685200 tw10073610100367404929 tw18264334157375266448 tw15845952274367755535 tw9907514671346741320 tw12790435688949368765 tw17896542949082374082 tw9831956773530331430 tw12546451245840355052 tw18398324759220776916 tw10134528524557114089 tw13372510945201289640 tw1750395068271855823 tw15292692573322543189 tw3527795592162128145 tw11221504002614476761 tw12306921306939684324 tw12724676182717895166 tw6699505473787445793 tw14413199721011968322 tw17201439671444910703 tw7793923783691775051 tw14781419594170804800 tw11935526932931771825 tw7190478891047045824 tw9837044362201972671 tw13127532428401740014 tw5238820250369533601 tw17250462880245100468 tw5120521810462086431 tw3791968598770515849 tw14738988640395381146 tw1868793253088723808 tw13520413194039351191 tw12596367539941235741 tw7682599220051152896 tw12022396449732420712 tw13111369362803223761 tw11521206833408730135 tw3922190350548550144 tw5040338594035498283 tw345419295715429576 tw15214914581688550717 tw11329833200122828988 tw12962325858019952395 tw1259664605945475812 tw6867995484023260533 tw12327782637774776019 tw3503746918693815981 tw9552677436921227819 tw1525359441194403168 tw10070326990259064803 tw16903443615493916764 tw6235115900178433949 tw1895937662241245349 tw10074296587597669762 tw8280217333413395675 tw13768061614044945390 tw6016042013212413974 tw187684604587322893 tw12552303931467274590 tw6887234530932287678 tw13802466836678726207 tw12366428306317888516 tw4747818493394648570 tw17684443521193728907 tw15162244805229784523 tw13359856672404293665 tw15932007345080283512 tw10066838124586432425 tw6827723479002224752 tw1530447937284736767 tw1553959061412194996 tw6964777295514608430 tw10914414813126122711 tw10723625032164468916 tw890213061751413013 tw10398164919072218003 tw2424685049728431309 tw7022207331217630113 tw16647187787704976707 tw2642721286167413983 tw14822394115992865847 tw14654174657021411146 tw8642296119826977975 tw15025829556211186006 tw775375697192796794 tw9329025291251942066 tw3316644698142084399 tw6268224923725400239 tw3627516735399527950 tw6961249092462709118 tw7711673823524764184 tw4960800100934842575 tw1468318188180454018 tw10823405857314526357 tw13485271689274280030 tw3538279351154471311 tw12278713420815624926 tw16188278159556029634 tw2287356998021171539 tw9389852473550628543 tw13079101102204968884 tw10295781819651500693 tw1779792905247293552 tw16183875169610299866 tw15813840347367627339 tw12455759273850945473 tw11040163207587428605 tw3945942716765842445 tw10906176446913947682 tw11074689705794572697 tw15767899369642069798 tw2761487150203416905 tw16001437150933232374 tw11426385131764235570 tw8817490331213830135 tw16475972586604512332 tw14021736454226859704 tw6035704010591219453 tw15360791232703068238 tw5342973115059753815 tw5905505074506181759 tw18261865647169426911 tw11158872083221918825 tw9589928067540766362 tw5131671459656466226 tw18174830839323505081 tw7411223981974012462 tw4603295655517149648 tw14106021070366434975 tw11418911784169288172 tw8127905962558621405 tw1056842921017447040 tw12367345565104078619 tw14765792393360555687 tw17201862014850796033 tw1872515677993619173 tw5981551492416670671 tw12149438984891389021 tw17597618754497297943 tw4445066731657290207 tw109638186689298412 tw14312069195274540562 tw5721251189286393805 tw11502338312883142005 tw16155750157555387240 tw18318964778008162837 tw9921688148018909732 tw17812671980794202938 tw3626929962485021723 tw4286781343776756971 tw18112137050028748329 tw6381207688307061216 tw9151979571064550504 tw10639874832754435797 tw16552845882807379339 tw7324407429924819598 tw4683123155001986774 tw9817355286732837422 tw6536227219910464770 tw9416960874702815804 tw8696622691308892805 tw5765500513520695160 tw2227316482491051572 tw15791414665480571623 tw8076070365401814069 tw4959092173433700650 tw15998092823975845731 tw3365874475587739753 tw4228119808946637492 tw15129173988466724067 tw4923190850542834797 tw13163575779596968021 tw3769063879530520819 tw13068960834136272754 tw7127382444310298672 tw12748933392754657789 tw15055830005425408614 tw13280498804118922314 tw13385114434090502894 tw15509788453357381749 tw17629666417617845834 tw5314306048910525809 tw9910085599008364853 tw5067195387916168679 tw12260001640615630792 tw5029353771762995994 tw17543730596558525478 tw10924501212643981378 tw5947281989445425508 tw1623565420795123122 tw1963400900300768914 tw6625175065231878678 tw6104169365952813005 tw5871657358896792268 tw15945148642282303339 tw4974838995155092467 tw16352421410036640284 tw5443063068644348268 tw12957616259846916447 tw11042675204749538655 tw9833166222184029717 tw5395452656887957884 tw12806916574148201007 tw16114266564906556949 tw1674640454983349 tw368625288464485482 tw6988603933949736737 tw9045363786500008769 tw10620032123315624842 tw13260545125357611028 tw10677968323581733938 tw14868220628395106453 tw5234348849065844402 tw11948634638359168702 tw942465704934794320 tw4588778029242914480 tw9434333843465985729 tw4013360489413151156 tw162557373932051257 tw2776598752537234018 tw2212117091631364134 tw14437319062939616335 tw8218633533013220497 tw13973443697636671014 tw1908723822321572967 tw16190773631777829861 tw2056297291620307316 tw16414370689916819156 tw12937007751663243620 tw14018222522029454967 tw14843052785315148668 tw4177921884920201125 tw1870127307813828906 tw11837392339810074347 tw13019148988162487033 tw10360168221847959712 tw10765922771565555793 tw8660623804321691024 tw13770522735799637397 tw15770059495379681276 tw1061080999768667264 tw5392172739169105756 tw11992961548362881540 tw14885112819373173388 tw9645375744135410142 tw4673576082945961651 tw980210039503011926 tw5851224037780637537 tw9787153694288590783 tw16468699477242440647 tw1415668658497448917 tw9031667335069763822 tw3982115022934704626 tw16198655659747038229 tw9653840152069671301 tw5652294154272845478 tw98312754586530031 tw12199500080915970935 tw1738230795466194556 tw7993627511328359126 tw11410829870681372427 tw6013468994959408017 tw7010193336095898773 tw16729416273634096324 tw1301519510987293959 tw1220117306499310475 tw2953091310750808410 tw467353713941647666 tw2948633429556924784 tw13111323085642959222 tw2108227581192214406 tw12561393594506523210 tw450164161822923927 tw5426875883165669908 tw8079445504714040085 tw1918340456810404369 tw3594736016630105325 tw2742694417659813048 tw10317881579714923288 tw14525998614889937449 tw13772347395925565127 tw10149942716558143253 tw10932172841320664845 tw9737657691989448930 tw4539672353397933802 tw13026925012014668181 tw16885094596641959704 tw10157453184663721769 tw11268127759069108725 tw10000322784926386079 tw6496932149712755230 tw13942832882557521505 tw13460127815227930814 tw5356314665848415785 tw6140325173757651241 tw5435906453483846356 tw1365747540579098066 tw9439921618866742953 tw9361070016731716813 tw2747512665642441882 tw6416443049145594501 tw4867850313637925906 tw4295717783163610551 tw13213824563255241712 tw2120440516731574347 tw5422037622899186132 tw16806122959721148473 tw16186972130606726620 tw11781911625387531331 tw7810814693902632320 tw2609478583959309486 tw103319945412664581 tw11903436075749390582 tw11602783460280133986 tw7178602345613594437 tw6047157502734822797 tw3473216882069179295 tw15753865652816908061 tw17346000200511583079 tw1899099232771279482 tw13185538032184388921 tw1969765756546845178 tw9544257153231113550 tw7216270245771461537 tw17715082026738002142 tw15498216512857881328 tw2202653102260357277 tw6467227372463675610 tw3852366833648147898 tw12759653325772448685 tw13269348672524637843 tw3785011950299158770 tw4774502832720230969 tw15709659151396757100 tw1937091871998054338 tw2139034364856741684 tw15875942298257897376 tw6510523549450631602 tw10865731026662048840 tw7422556211212017169 tw13212245333559344501 tw10579718367077757458 tw7516343942977579674 tw2917272261824166710 tw7102722554026076172 tw15352602184246143251 tw924494765751560788 tw17427767761133446428 tw13750508253157217786 tw4632474238664078313 tw15621014942532821539 tw10031433698615610050 tw5700230049592708491 tw9825281489962067600 tw18349512221329207742 tw16498330943809296124 tw18015687813628849013 tw10846067998000869912 tw11129673217344623312 tw17597983829659871048 tw14451262629695572451 tw10738074344145770757 tw17409751309306801761 tw5386884635680371941 tw5559646233450719899 tw2911896396374639732 tw9096139844781009848 tw2615487677010854600 tw4581285334455242968 tw3933822528966834793 tw17949087874337085028 tw187486487704137420 tw12549526206665960768 tw15271384828327426924 tw1779638516515879977 tw4997651491183524151 tw14930965770200476685 tw17707416140692384782 tw15684521781165027701 tw16173202693855319840 tw3467492500491067586 tw3046313654972554908 tw7204265493146441522 tw14166123322074192787 tw16368324423599002300 tw10975231195176513700 tw17084550919609871822 tw2410467748052138087 tw6473499312738118947 tw9413793486620106248 tw2597497008738554123 tw3790935720175578215 tw4649761991773792708 tw17439969876254658445 tw6762447749789468411 tw15375718905031445425 tw1597777178438984058 tw1647303729777980281 tw11478721291495074083 tw11483752691786342285 tw7265332426604442070 tw14684055373095081353 tw16973482944040226461 tw17441299339139149123 tw1978816577295862350 tw14415542298896900803 tw10906895502890568013 tw6027141114823537251 tw3498139184550281723 tw14347027700161381816 tw7120159069591323330 tw15177282798569547361 tw5148566031535242510 tw8998812583079673571 tw10102127792774569673 tw7949694292381698420 tw5989659170900487086 tw13471634332371137505 tw2064670969895654363 tw16292930554316588928 tw8859025806176842268 tw12293896893144217283 tw3726024736451193533 tw17431151534637936771 tw9154308651095472199 tw4404363850125691320 tw1451761628853761694 tw17265099234751259940 tw2581638339088018476 tw7731520220177628120 tw64955769707188844 tw18119317654687016903 tw7971864167346986672 tw7465231622461938383 tw13002948939442341774 tw13103826597340717334 tw11205381284127870902 tw13013093266233441325 tw502350610039179676 tw1800692191915815310 tw8715897406034484180 tw16479340887986541324 tw7901504224625997334 tw12915324880338635489 tw2683563658584871704 tw15103027734346405 tw1610757212322750715 tw685610324173235100 tw4170855339029016726 tw5727082230746016435 tw8037111372401971643 tw1240548751856807867 tw16057787542911628871 tw3080550890709406379 tw196800357476819403 tw8785375525695406839 tw11455318757237838203 tw5311727143469660956 tw18054148378471668777 tw6768864202409334432 tw12756171814681461835 tw13028483527438144004 tw4254782352586450376 tw8950594129039942974 tw7291114492268032001 tw5390139321519156861 tw14830405522452543999 tw10211699982151049872 tw10290110455772344445 tw6562495678234512976 tw7071768377871999108 tw5239196155683419421 tw320132900468425696 tw11453864445523649353 tw14021009654194124405 tw11438265385731900870 tw3296783827184576798 tw15456644884022882595 tw13877721504587925320 tw6532482504388519225 tw3960292599408709917 tw6755473899226558323 tw14869835161258508940 tw14231537188677475646 tw12429606762863847804 tw12499891370945400589 tw6537992474013615976 tw2263814753860617149 tw9247699196238148343 tw15326662209506565185 tw3906677301592698025 tw16850749680458246218 tw12668193758761620834 tw18418442027104554235 tw10669180908985703200 tw9774583021792668546 tw9384761874952005390 tw968357717940641248 tw9730802983187316784 tw16950078569032680685 tw1102203070957949424 tw12842028147284986018 tw4564086215674385426 tw8149665788154404397 tw10280685142664865940 tw5457212743024308978 tw6873504306981956304 tw12031523235196568904 tw15715006094478994275 tw10370598293254318058 tw10691392398547258036 tw8553816054069872345 tw8975084956734727536 tw14894532318353208502 tw8000511754476998982 tw10436891987138979437 tw8230259558404799327 tw12158457213748977811 tw12597623167958074247 tw11087106651470613103 tw17510118765430632471 tw9876476924295157390 tw3041121025972174774 tw16989003082265547283 tw15773989270601693253 tw6089853245709757669 tw12435212792261183243 tw17613913768065305671 tw15492983608454969194 tw14766589542422358149 tw10646696628023965816 tw6001989918478815362 tw7042028851125231155 tw5300019835582002051 tw16267180004741058993 tw3811135687429685344 tw13709796806353207750 tw13951735927989418474 tw1231633413840870590 tw1352925670446427923 tw7883779706733744127 tw7529480580227191443 tw15927225872047152499 tw6875267399826212659 tw12414681176186544549 tw17667148001488246775 tw7917563419949010334 tw1765408372936123322 tw10023027146161006148 tw15872177255633428848 tw8609353919607849491 tw11997829636797433386 tw13865643177734968699 tw1084856599763324860 tw3602057405632271069 tw14283130503341585376 tw2299823852949775990 tw17952048396829095994 tw9377098026994137842 tw921761538432134203 tw14089380685913091816 tw7548444793011000041 tw4469772831394020618 tw448716547152957919 tw11812797623282838612 tw3571430638405956605 tw14515054870327929904 tw12107882477921353774 tw4117809790144913104 tw16351502127167439811 tw14755993231848293789 tw6491329385599516579 tw16551836142217566303 tw645753832753240915 tw10275497239416229626 tw13562966174092072021 tw17338283979701992617 tw3549176852879146456 tw11781636222633706998 tw1123097224437548628 tw4762372872472517271 tw16968620597301453109 tw7898289040032023468 tw649005273228681658 tw13369590288384672753 tw15910757145106253167 tw15768507675530703678 tw15692445340069236404 tw2145563478506054495 tw17941438927551660704 tw6496274900922208806 tw1661732771469842300 tw11594178381544290080 tw5545564607192095484 tw935328137926553445 tw10303404868036068204 tw15437604948208641676 tw12593940404750540168 tw1144350813416405715 tw4131044146443655140 tw12612354018104864329 tw7753004918612554805 tw7440128357324183270 tw4710161624625546864 tw6405483891556157366 tw12110149126102216400 tw2643383470582209683 tw8961535758022994849 tw11160258586909832114 tw9542866359313378204 tw12122933835160037742 tw3010107778015972162 tw3381769033923135012 tw13715401452972611385 tw7488021185482975679 tw10616678718486144698 tw9657466376373913020 tw5460931470182407628 tw7395055428900924768 tw6840146596153719173 tw10202314349113040866 tw13067288281957318567 tw2668740580502100661 tw12157579029131774258 tw2023228759702287482 tw16941953093307939565 tw5207061662329228745 tw11343784449103510691 tw8684499235297717887 tw16404672375172934110 tw11617693207954781710 tw5526863066118189031 tw2895288914232086971 tw16812224713080286551 tw1817004845987395147 tw10393458147721170032 tw15288053198440749197 tw4138460722644012590 tw1593253569682730221 tw7735588868758498574 tw14842798449391169605 tw12686712227049292923 tw16744977128303728371 tw17143457927950194853 tw3264196933217003372 tw7802838554193065581 tw5797931850647687694 tw8169534380170127482 tw3782591624152418668 tw13521032326653038472 tw7130583824316768384 tw6059331319906824621 tw13116549803459173419 tw6225582330057921097 tw5914327949102902081 tw3891603030461277950 tw10944747467991383146 tw18204862573456969164 tw15868620185828963056 tw2612470699726337398 tw13538980769772186066 tw11721291530917336982 tw6898530655127632227 tw1193382354620283887 tw522127398738246066 tw2953699690119141240 tw12241536054572809490 tw12932552122966596198 tw6536681553528223724 tw4855254676746559170 tw13561834696911238494 tw8706704388955614328 tw2270775229860507345 tw11735258054035554936 tw15045978115696334967 tw6349754443341680616 tw3011600405707223488 tw16239220543003867561 tw2657751228871946706 tw4063350516622136448 tw2640557122103620601 tw17686715237921825792 tw1728384065522133912 tw13401609107389589939 tw854784626062060549 tw6863475177151143677 tw3318164083623432025 tw17129986053031662258 tw4529264800020246115 tw3188971645033218436 tw2415871625925346231 tw2677735997032369557 tw5588467281490538276 tw7918398530517959422 tw5561084345073863507 tw17482390991679321879 tw1046758132193275812 tw6089876801048443080 tw12076594858840343796 tw17860741206008340951 tw11085982588390257510 tw13523897541515120549 tw2417518925741134243 tw9331769726949430917 tw11461715814084774928 tw4462820083047706139 tw6723144108792086746 tw2433669595092173032 tw17710712771370864514 tw15669061044109320704 tw1182378709318651351 tw3118718086418249030 tw5935813765825349391 tw228094007342789577 tw10536984963403374733 tw168059030249806210 tw14333691511558431158 tw10969846667422944035 tw6429465299014813247 tw14213067054077932357 tw11547728125797473425 tw14843987497262023649 tw8351037636730146500 tw3492538333319706659 tw15991175065707007304 tw9572549525506374298 tw7384444715627562883 tw3838739534495759280 tw10278695358860295280 tw3556403919874714428 tw2738022064348701278 tw15329000727120312674 tw6896289434490663796 tw4204865030946180025 tw11144823469859971253 tw12574292222533983919 tw2692833708752033961 tw17492525615616663570 tw17357155842046611149 tw3561197361687801633 tw343912067645723591 tw17082504438563335609 tw240939872703072032 tw18108496203683175796 tw5322224784637806173 tw16753648789296810890 tw16657034148610362249 tw5239398267665443291 tw8992875857505738932 tw16208500608149372206 tw638872314531696440 tw8725533768530753111 tw3180292392067134175 tw13409133347947781205 tw1868184332778229630 tw8048106749383524102 tw6915024550573394737 tw15848294221508195601 tw1782371007624858589:True)
open PySem PySem.W PyProof.Rows
set_option maxRecDepth 100000 in
set_option maxHeartbeats 0 in
theorem PySem.Challenge.cw_guessroom_k51_whole_askers_papers_holds : PySem.Challenge.rw_guessroom_k51_whole_askers_papers.Holds := by
  w_on; o_law; k_head; (case hw => w_witness2)
  k_fill
  refine Mine.walk (l := PySem.Challenge.rw_guessroom_k51_whole_askers_papers) rfl rfl (fun w h Y => PySem.W.kIn_of Y) ?F
  case F =>
    intro w mg fa h KX G hmg
    refine' Mine.all_mk KX G hmg ?aC_j1 ?pg_j1 ?hd_j1 ?po_j1 ?sa_j1 ?n_letters_Book ?n_marks_Book ?aC_ja ?aC_jc ?aC_j0 ?pg_j0 ?hd_j0 ?po_j0 ?sa_j0 ?n_book_Asker ?n_ends_Asker ?n_gaps_Asker ?n_guess_Asker ?n_letters_Asker ?n_most_Asker ?n_ways_Asker ?n_wish_Asker ?n_wrong_Asker ?q_jf ?q_jd ?q_j9 ?q_j8 ?q_jb ?q_je ?J0 ?J1 ?j2 ?J3 ?J4 ?J5 ?j6 ?j7 ?j8 ?j9 ?j10 ?j11 ?J12 ?j13 ?j14 ?J15 ?j16 ?j17 ?j18 ?J19 ?J20 ?j21 ?j22 ?J23 ?J24 ?j25 ?j26 ?j27 ?j28 ?j29 ?J30 ?j31 ?j32 ?J33 ?J34 ?J35 ?J36 ?J37 ?J38 ?J39 ?J40 ?J41 ?j42 ?j43 ?j44 ?j45 ?j46 ?j47 ?j48 ?j49 ?j50 ?j51 ?j52 ?j53 ?j54 ?j55 ?j56 ?j57 ?j58 ?j59 ?j60 ?j61 ?j62 ?j63 ?j64 ?j65 ?j66 ?J67 ?J68 ?j69 ?J70 ?J71 ?J72 ?J73 ?J74 ?J75 ?j76 ?j77 ?j78 ?j79 ?z_all ?z_any ?z_bool ?z_dict ?z_enumerate ?z_int ?z_isinstance ?z_len ?z_list ?z_max ?z_range ?z_set ?z_str ?z_tuple ?m_j5 ?m_j6 ?m_j4 ?m_j3 ?m_j2 ?m_j7 ?x_j5 ?x_j6 ?x_j4 ?x_j3 ?x_j2 ?x_j7
    (case aC_j1|aC_ja|aC_jc|aC_j0|m_j5|m_j6|m_j4|m_j3|m_j2|m_j7|pg_j1|hd_j1|po_j1|sa_j1|n_letters_Book|n_marks_Book|pg_j0|hd_j0|po_j0|sa_j0|n_book_Asker|n_ends_Asker|n_gaps_Asker|n_guess_Asker|n_letters_Asker|n_most_Asker|n_ways_Asker|n_wish_Asker|n_wrong_Asker|q_jf|q_jd|q_j9|q_j8|q_jb|q_je|z_all|z_any|z_bool|z_dict|z_enumerate|z_int|z_isinstance|z_len|z_list|z_max|z_range|z_set|z_str|z_tuple=>k_is)
    (case x_j5|x_j6|x_j4|x_j3|x_j2|x_j7=>k_exc)
    (case J0|J1|J3|J4|J5|J12|J15|J19|J20|J23|J24|J30|J33|J34|J35|J36|J37|J38|J39|J40|J41|J67|J68|J70|J71|J72|J73|J74|J75 => constructor; (constructor <;> k_is); apply L2.fun_mk <;> k_is)
    (case j2|j6|j7|j8|j9|j10|j11|j13|j14|j16|j17|j18|j21|j22|j25|j26|j27|j28|j29|j31|j32|j42|j43|j44|j45|j46|j47|j48|j49|j50 => constructor; k_is; apply L2.fun_mk <;> k_is)
    (case j51|j52|j53|j54|j55|j56|j57|j58|j59|j60|j61|j62|j63|j64|j65|j66|j69|j76|j77|j78|j79 => constructor; k_is; apply L2.fun_mk <;> k_is)
