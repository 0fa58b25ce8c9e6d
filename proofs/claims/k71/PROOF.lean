import PyProof.Rows.All
import Wide.All
import OpenK.AllK
import Wide.FinOn
import Lean
import PyProof.EqAt
import PyProof.EqKinds
import PyProof.TupleCall
import KE.KRevIter
import PyProof.ListRange
import PyProof.TupleOfGen
import PyProof.Draws
import PyProof.EnumMake
import PyProof.EnumFor
import PyProof.NeKinds
import KE.KDictList
import PyProof.Rows.TupDisplay
import PyProof.ZipIter
import PyProof.Rows.ZipGen
import KE.KItemsList
import PyProof.Rows.SumAny
import PyProof.StrWalks
import PyProof.StrCalls
import PyProof.StrCalls3
import PyProof.StrLawsFirst
import PyProof.StrLawsIn
import PyProof.SliceStr2
import PyProof.StrBlockI
import PyProof.Rows.StrWeight2
import PyProof.ListNew
import PyProof.DictRoadsH
import PyProof.WalkInts
import PyProof.Rows.MinMaxN
import KE.KDictLaws
import PyProof.StrCalls2
import PyProof.StrLawsChain
import KE.KIntText
import KE.KxText
import KE.KMinKey
import KE.KPairComp
import PyProof.MaxThree
import PyProof.DictWalks
import OpenK.KCls
import PyProof.Rows.SortShellK
import KE.KSortTup
import KE.KLam
import KE.KNestM
import PyProof.AttrMissHeap
import KE.KDictOf
import PyProof.TupleKey
import PyProof.SetKind
import PyProof.IsRules
import PyProof.Rows.SetFrom
import PyProof.Rows.Range3
import PySem.Challenge.RW_guessroom_k71_sum_asker_refuses
set_option compiler.extract_closed false
local macro_rules | `(s!$_) => `(by lia)
namespace Al
abbrev qx_:=@decide_eq_true
abbrev qF_:=@decide_eq_false
abbrev qG_:=@decide_eq_true_eq
abbrev xd_:=@congrArg
abbrev xg_:=@beq_eq_false_iff_ne
abbrev xm_:=@if_false
abbrev xp_:=@beq_iff_eq
abbrev xR_:=@if_true
abbrev x0_:=@of_decide_eq_true
abbrev zA_:=@decide_eq_false_iff_not
noncomputable abbrev α0:=List (List (List Int))
noncomputable abbrev α1:=List (List Int)
noncomputable abbrev α2:=List Int
noncomputable abbrev α5:=Option PySem.Value
noncomputable abbrev α7:=List (PySem.Addr×PySem.Obj)
abbrev jL_:=@PySem.PassesOwn.never
abbrev qk_:=@Classical.byContradiction
abbrev qp_:=@Ne.symm
abbrev qO_:=@PySem.Heap.SameBut.update
abbrev qP_:=@Iff.rfl
abbrev x3_:=@PySem.Around.under_plainId
abbrev zn_:=@PySem.Paired.length
abbrev zR_:=@List.Pairwise.and_mem
abbrev zV_:=@PySem.AutoSeq1.idx_int
end Al
open Al
open PySem renaming wpAny_bind->ja_,wpAny_pure->jf_,wpAny_callSpecial?_slot->jS_,wpAny_newObj_type->jT_,wpAny_call_entry->jZ_,wpAny_typeNameOfWhole_itemiter->j5_,wpAny_loadPart'->j8_,wpAny_field->j9_,wpAny_setField_rec->qb_,mem_of_lookup->qd_,wpAny_typeNameOf_itemiter->qj_,boot_len->qy_,wpAny_mono->qB_,wpAny_seqItems->qK_,wpAny_isOneOf_itemiter->q3_,wpAny_dictEntries->q6_,wpAny_holding->q7_,wpAny_typeNameOfWhole_keyiter->xc_,wpAny_attempt->xe_,wpAny_dictEpoch->xk_,wpAny_pyIter_tuple->xr_,tupleKind_room_in1->xv_,wpAny_setField->xy_,wpAny_fieldsOf->xz_,wpAny_truthy_bool->xA_,wpAny_passesOwn->xB_,wpAny_typeNameOf_keyiter->xD_,wpAny_notOrdered_dict->xU_,wpAny_pyIter_list->xY_,call_meets->zh_,wpAny_comprehension_free->zi_,wpAny_execs_nil->zp_,wpAny_Call_Name_kw->zr_,codeAny_builtin->zw_,sizeLine_eq->zI_,wpAny_pyIter_enum->zJ_,wpAny_typeOf->zM_,wpAny_isOneOf_keyiter->zO_,wpAny_isInstance->zX_,wpAny_updateSeq_pair->z1_,wpAny_handled->z4_,plainId_quiet->z5_,wpAny_rule->z6_,wpAny_of_eq->wa_,wpAny_updateSeq->wb_,codeAny_mono->we_,list_append->wl_,FuncData->α6,evalArgs_none->qy,Within->qO,seqSlot_of->rg,call->rG
open List renaming length_map->jb_,getD_eq_getElem?_getD->jc_,getElem?_eq_getElem->je_,getElem?_eq_some_iff->jg_,getElem?_map->ji_,mem_singleton->jk_,map_append->jm_,size_toArray->jn_,mem_of_getElem?->jo_,mem_cons_of_mem->jq_,length_append->js_,mem_map->jv_,getElem?_append_left->jx_,getElem?_eq_none->jy_,mem_cons_self->jA_,getElem?_append_right->jB_,mem_cons->jE_,take_length->jF_,map_congr_left->jH_,length_take->jI_,mem_append->jJ_,map_map->jK_,length_eq_zero_iff->jN_,getElem_mem->jQ_,map_cons->jR_,take_add_one->jU_,mem_append_right->jV_,length_singleton->jW_,length_range->jX_,length_cons->jY_,lookup_cons->j2_,mem_append_left->qf_,map_singleton->qh_,mem_range->qo_,mem_iff_getElem?->qq_,length_drop->qw_,dropLast_concat_getLast->qz_,take_succ_eq_append_getElem->qE_,range_succ->qM_,replicate_succ->qN_,ext_getElem?->qR_,foldl_append->qU_,nil_append->qY_,all_eq_true->qZ_,drop_length->q1_,take_of_length_le->q4_,nodup_cons->q9_,find?_eq_none->xb_,drop_zero->xf_,find?_cons->xh_,length_nil->xi_,getElem_of_mem->xj_,getElem?_range->xl_,not_mem_nil->xq_,length_replicate->xt_,getElem?_zipWith->xx_,pairwise_singleton->xG_,ext_getElem->xI_,take_append_of_le_length->xJ_,take_zero->xK_,append_nil->xQ_,map_nil->xS_,foldl_cons->xT_,flatten_cons->xZ_,pairwise_append->x4_,getElem?_zip_eq_some->x6_,mem_of_find?_eq_some->x7_,cons_append->x9_,any_eq_true->za_,getElem_map->zb_,mem_map_of_mem->zc_,length_zipWith->ze_,length_flatMap->zf_,mem_filter->zo_,getElem?_replicate->zs_,getElem?_cons_zero->zv_,getElem?_set_self->zB_,drop_of_length_le->zG_,sum_replicate_nat->zH_,nodup_append->zK_,pairwise_map->zL_,eq_replicate_iff->zQ_,getElem?_set_ne->zZ_,any_cons->z2_,map_take->z3_,filterMap_cons->z7_,forIn_cons->z9_,mem_filterMap->wd_,map_inj_right->wf_,nodup_nil->wh_,forIn_nil->wi_,append_assoc->wk_,replicate->oW,range->oX,zipWith->pf,lookup->pC,length->pF,drop_eq_getElem_cons->pM,getElem_inj->pQ,filter_cons->pX,of_mem_zip->qa,find?_some->qg,map_const'->qh,take_eq_take_iff->qj,length_filter_le->qk,flatMap_append->qz,map_drop->qC,take_nil->qF,filter_append->qK,getElem_range->qL,getElem?_take->qM,zipIdx_cons->rn,mem_flatMap->ro,zipIdx_nil->rC,take_left'->rE,foldl->rF,all_cons->sk,any_map->sO,all_map->sP,drop->uu
open PySem.Heap renaming get?_push_of_some->jd_,lt_size->jl_,get?_push_size->jp_,size_push->j3_,get?_update_other->ql_,get?_update_self->qS_
open Nat renaming le_refl->jh_,lt_of_lt_of_le->jt_,ne_of_lt->jG_,lt_irrefl->j0_,ne_of_gt->j7_,zero_le->qc_,le_trans->qg_,mul_le_mul->qW_,sub_self->q0_,lt_succ_of_lt->xC_,le_of_succ_le->xE_,le_of_lt->xP_,lt_succ_self->x8_,mul_le_mul_left->zd_,sub_zero->zj_,not_lt_zero->zx_,le_of_not_lt->zU_,le_add_right->zY_,le_succ->wp_,min_eq_right->pW,min_self->pY,mul_comm->pZ,dvd_of_mod_eq_zero->p3,div_add_mod->qd,min_eq_left->qf,gcd->qu,lt_of_le_of_lt->qI,mul_right_comm->qJ,pos_of_ne_zero->qN,le_of_eq->qQ,succ_mul->qS,lt_trans->qU,lt_or_ge->qV,lt_trichotomy->qW,pow_succ->qX,gcd_comm->q9,succ_le_succ->rf,succ_ne_self->rh,not_lt_of_le->ri,mul_mod_left->rl,mod_eq_of_lt->rm,le_total->sQ,mul_succ->sS,Coprime->tH,gcd_rec->tJ,mod_lt->tP,mod->tY,beq->uE
open Bool renaming false_ne_true->jj_,and_eq_true->j1_,false_eq_true->qI_,eq_iff_iff->qX_,not_eq_true'->wn_,or_eq_true->qc,false_and->ql,true_and->qB,not_true->su
open PySem.W renaming mg_of->jr_,mg_none_of->qi_,kia_one->qn_,methodCall_KW->xs_,callWith_K->xN_,cellsFrom_some->zC_,plainGet_of->z8_,kitx_list->wj_,Frag->α3,findIn->oY,emptyDict->ph,excIn->pj,instObj->pq,plainGet->pA,hasDictIn->pD,plainOver->pE,lookIn->pI,methodObj->pN,specialIn->pO,hideAll->p6,takerIn->p9,OpenLaw->qb,codeIn->qm,hideAll_get->qw,callWith_K0->qx,mroIn->qA,of_hideAll->qG,kitx_tuple->qH,isFn->qP,kitx_dict->qR,handedIn->ra,makesIn->rA,takesIn->rB,WalkO->sm,funFrames_hide->sJ,kdl_hint_dict->sU,hideAll_size->tE,hideAll_none->tF,looks_findIn->tG,findObj_own->tK,looks_clsIn->tL,kitx_float->tN,codeRec_of->tO,method_cls->tR,get_value->tS,method_fn->tT,set_plain->tU,make_core->tV,kitx_none->tW,kitx_bool->tX,cls_value->tZ,eq_bytes->ua,ne_bytes->ub,osa_open->ud,any_some->ue,InitBack->uf,makes_of->ug,kitx_int->uh,kitx_str->ui,kitx_own->uj,kdl_call->uk,kcp_self->uo,bind_fn->uv,exm_one->uw,readsIn->ux,findCls->uy,InstAt->uz,typeIn->uA,KdlSrc->uB,Looks->uC,clsIn->uD
open Option.some renaming inj->ju_,injEq->wm_
open Int renaming toNat_natCast->jw_,emod_lt_of_pos->jz_,emod_eq_emod_iff_emod_sub_eq_zero->jC_,emod_nonneg->jD_,emod_emod_of_dvd->jM_,dvd_of_emod_eq_zero->j4_,emod_eq_of_lt->j6_,mul_emod->qr_,dvd_refl->qs_,emod_eq_zero_of_dvd->qu_,add_emod->qJ_,dvd_mul_of_dvd_right->qT_,natAbs_dvd_natAbs->xV_,zero_add->xX_,mul_comm->zk_,mul_assoc->zy_,pow_succ->zP_,mul_ediv_add_emod->zS_,toNat_of_nonneg->wc_,sub_emod->wg_,mul_one->wo_,one_mul->wq_,mul_add->wr_,dvd_sub->ws_,gcd->pz,fdiv_eq_ediv_of_nonneg->pH,natCast_pow->qe,mul_sub->qp,sub_mul->qr,dvd_trans->qD,le_of_dvd->qE,add_zero->qY,sub_self->qZ,neg_mul->rq,natCast_mul->rD,natAbs_mul->rH,emod_self->sx,toNat->sG,ediv_one->sI,gcd_comm->sL,sub_zero->sR,pow_mul->tI
open PyProof.Rows renaming boot_tuple->jO_,slot_tuple_getitem->qa_,callWith_type1->qm_,boot_isinstance->qA_,boot_list->q5_,boot_sum->zT_,callWith_builtin1->rb,boot_dict->sT,boot_all->sY,boot_max->tD
open PySem.F renaming slot_dict_itemiterator_next->jP_,plainAttrs_list->qv_,slot_list_append->qC_,type_list_append->qD_,args_dict_itemiterator_next_1->qH_,entry_dict_itemiterator_next->qL_,slot_dict_keyiterator_next->qV_,slot_tuple_iterator_next->q2_,plain_extend_loop->q8_,slot_dict_get->xa_,slot_tuple_iterator_next->xo_,plainAttrs_dict->xF_,slot_dict_items->xH_,entry_dict_get->xL_,slot_zip_next->xW_,excBase_ValueError->x1_,args_tuple_add_2->zg_,slot_list_getattribute->zl_,args_tuple_iterator_next_1->zm_,entry_tuple_add->zt_,entry_tuple_iterator_next->zz_,slot_tuple_add->zD_,slot_tuple_mul->zW_,args_list_append_2->z0_,slot_dict_items_iter->pG,entry_extend_loop->pK,args_dict_items_1->pL,entry_dict_items->pP,args_dict_get_2->pS,args_dict_get_3->pT,type_dict_items->pU,args_zip_next_1->pV,entry_zip_next->p4,type_dict_get->qi,args_dict_items_iter_1->rj,entry_dict_items_iter->rp,args_object_init_3->rJ,args_list_init_2->sr,typeCall_list_1->sy,entry_list_init->sC,typeCall_zip_2->sN,newCall_zip_2->sV,entry_zip_new->sX,slot_list_pop->tm,type_list_pop->tq,called_list->tM,called_zip->tQ
open Option renaming isSome_iff_exists->qe_,isSome_some->xu_,map_eq_none_iff->xM_,toList_some->xO_,map_some->zu_,map_eq_some_iff->zE_,isSome_map->qT
open Array renaming length_toList->qt_,getElem?_toList->qQ_,getElem?_eq_getElem->x5_,getElem?_eq_none->zF_,toList->sH
open PySem.Calls renaming callWith_builtin->xn_,evalArgs_plain->x2_,spliced_cons->zq_
open PySem.Obj renaming data_mapFields->xw_,isFreed_of_fields->zN_
open True renaming intro->oZ
open Or renaming inl->o9,inr->pJ
open False renaming elim->pb
open ForInStep renaming yield->pd
open Sum renaming inl->pk,inr->qt
open Classical renaming propDecidable->pB,choose_spec->tj,choose->ur
open PySem.IsL renaming update->pR
open PySem.EqNone renaming eq_none_none->rK,eq_none_bool->rL,eq_bool_none->rM,ne_none_none->rP,ne_none_bool->rQ,ne_bool_none->rR,eq_none_int->rV,eq_none_str->rW,eq_int_none->rX,eq_str_none->rZ,ne_none_int->r9,ne_none_str->sd,ne_int_none->se,ne_str_none->si
open PySem.EqMixed renaming eq_bool_str->rN,eq_str_bool->rO,ne_bool_str->rS,ne_str_bool->rT,eq_int_str->rY,eq_str_int->r6,ne_int_str->sf,ne_str_int->sj
open PySem.W (nsIn keepIn fnOf kitOne exmOne)
set_option Elab.async false
set_option linter.all false
set_option maxRecDepth 100000
namespace L2
open PySem PySem.Spec PyProof.Rows
noncomputable abbrev Key:=Sum Int Str
noncomputable def Oa:Key->Value->Bool
 |.inl k,v=>Value.isInt k v
 |.inr x,v=>Value.isStrOf x v
noncomputable def keyH (w:World):Key->Int
 |.inl k=>hashInt k
 |.inr x=>hashStr w x
def Bf:∀{k:Key} {v:Value},Oa k v=true->(∃i t,k=pk i/\v=Value.int i t)\/(∃x t,k=qt x/\v=Value.str x t)
 |.inl i,v,h=>by
  obtain⟨t,e⟩:=Value.isInt_shape (k:=i) (v:=v) h;exact .inl ⟨i,t,rfl,e⟩
 |.inr x,v,h=>by
  obtain⟨t,e⟩:=Value.isStrOf_shape (x:=x) (v:=v) h;exact .inr ⟨x,t,rfl,e⟩
def QI (i:Int)(t:Tok):Oa (.inl i) (.int i t)=true:=by simp[Oa,Value.isInt]
def QJ (x:Str)(t:Tok):Oa (.inr x) (.str x t)=true:=by simp[Oa,Value.isStrOf]
def W6 (a b:Int):decide ((pk a:Key)=pk b)=(a==b):=by
 by_cases e:a=b
 ·subst e;simp
 ·have h:¬ (pk a:Key)=pk b:=fun q=>e (Sum.inl.inj q);rw[qF_ h];exact (xg_.mpr e).symm
def W7 (a b:Str):decide ((qt a:Key)=qt b)=decide (a=b):=by
 by_cases e:a=b
 ·subst e;simp
 ·have h:¬ (qt a:Key)=qt b:=fun q=>e (Sum.inr.inj q);rw[qF_ h,qF_ e]
def W8 (a:Int)(b:Str):decide ((pk a:Key)=qt b)=false:=qF_ (fun q=>nomatch q)
def W9 (a:Str)(b:Int):decide ((qt a:Key)=pk b)=false:=qF_ (fun q=>nomatch q)
noncomputable def AX (prog:Program)(w:World):PySem.KeyKind prog w Key where
 is:=Oa
 hash:=keyH w
 inj:=fun v a b ha hb=>by
  rcases Bf ha with ⟨i,t,rfl,rfl⟩|⟨x,t,rfl,rfl⟩
  ·rcases Bf hb with ⟨j,u,rfl,e⟩|⟨y,u,rfl,e⟩
   ·injection e with e1 _;rw[e1]
   ·exact nomatch e
  ·rcases Bf hb with ⟨j,u,rfl,e⟩|⟨y,u,rfl,e⟩
   ·exact nomatch e
   ·injection e with e1 _;rw[e1]
 byValue:=fun k v h=>by
  rcases Bf h with ⟨i,t,rfl,rfl⟩|⟨x,t,rfl,rfl⟩<;>rfl
 pyHash:=fun hv h=>by
  rcases Bf hv with ⟨i,t,rfl,rfl⟩|⟨x,t,rfl,rfl⟩
  ·exact wpAny_pyHash_int h
  ·exact wpAny_pyHash_str h
 eqBool:=fun hu hv h=>by
  rcases Bf hu with ⟨i,t,rfl,rfl⟩|⟨x,t,rfl,rfl⟩
  ·rcases Bf hv with ⟨j,u,rfl,rfl⟩|⟨y,u,rfl,rfl⟩
   ·rw[W6]at h;exact wpAny_eqBool_int h
   ·rw[W8]at h;exact SeqAt.EqAt.int_str i t y u _ _ _ _ h
  ·rcases Bf hv with ⟨j,u,rfl,rfl⟩|⟨y,u,rfl,rfl⟩
   ·rw[W9]at h;exact SeqAt.EqAt.str_int x t j u _ _ _ _ h
   ·rw[W7]at h;exact wpAny_eqBool_str h
 «strs» := fun k x t v h=>by
  rcases Bf h with ⟨i,u,rfl,e⟩|⟨y,u,rfl,e⟩
  ·exact nomatch e
  ·injection e with e1 _;subst e1;cases v<;>rfl
def Ob (prog:Program)(w:World)(i:Int)(t:Tok):(AX prog w).is (.inl i) (.int i t)=true:=QI i t
def Oc (prog:Program)(w:World)(x:Str)(t:Tok):(AX prog w).is (.inr x) (.str x t)=true:=QJ x t
inductive V where
 | non|bl (b:Bool)|int (i:Int)|str (x:Str)|byt (b:Array UInt8)|flt (b:UInt64)|ref (a:Addr)|ty (n:String)
 deriving DecidableEq
noncomputable def RelV:V->Value->Prop
 |.non,u=>u=Value.none
 |.bl b,u=>u=Value.bool b
 |.int i,u=>∃t,u=Value.int i t
 |.str x,u=>∃t,u=Value.str x t
 |.byt b,u=>∃t,u=Value.bytes b t
 |.flt b,u=>∃t,u=Value.float b t
 |.ref a,u=>u=Value.ref a
 |.ty n,u=>u=Value.type n
noncomputable abbrev Vals:List V->List Value->Prop:=Paired RelV
def Vals.length (r:Vals xs us):xs.length=us.length:=zn_ r
def Vals.get:∀{xs:List V} {us:List Value} {i:Nat} {x:V},Vals xs us->xs[i]?=some x->∃u,us[i]?=some u/\RelV x u
 |_,_,_,_,.nil,e=>by simp at e
 |_,_,0,_,.cons r _,e=>by simp at e;subst e;exact⟨_,rfl,r⟩
 |_,_,i+1,x,.cons _ t,e=>by
  obtain⟨u,h1,h2⟩:=Vals.get (i:=i) (x:=x) t (by simpa using e);exact⟨u,by simpa using h1,h2⟩
def Vals.append:∀{xs ys:List V} {us ws:List Value},Vals xs us->Vals ys ws->Vals (xs++ys) (us++ws)
 |_,_,_,_,.nil,s=>s
 |_,_,_,_,.cons r t,s=>.cons r (Vals.append t s)
def Vals.take:∀{xs:List V} {us:List Value} (n:Nat),Vals xs us->Vals (xs.take n) (us.take n)
 |_,_,0,_=>.nil
 |_,_,_+1,.nil=>.nil
 |_,_,n+1,.cons r t=>.cons r (Vals.take n t)
def Vals.drop:∀{xs:List V} {us:List Value} (n:Nat),Vals xs us->Vals (xs.drop n) (us.drop n)
 |_,_,0,r=>r
 |_,_,_+1,.nil=>.nil
 |_,_,n+1,.cons _ t=>Vals.drop n t
noncomputable def RelO:Option V->α5->Prop
 |some v,some u=>RelV v u
 |none,none=>True
 |_,_=>False
noncomputable def KV {κ:Type}:List (κ×V)->List (κ×Value)->Prop:=Paired fun (p:κ×V) (q:κ×Value)=>p.1=q.1/\RelV p.2 q.2
noncomputable def kV:Key->V
 |.inl i=>.int i
 |.inr x=>.str x
inductive HO where
 | lst (xs:List V)
 | tup (xs:List V)
 | dK (kvs:List (Key×V))|dT (kvs:List (List Key×V))
 | set (S:Int->Bool) (n:Nat)
 | ins (C dx:Addr) (fs:List (Str×V))
 | own (x:Addr)
 | xd (fs:List (Str×V))
 | met (f x:Addr)
 | rng (lo hi:Int)
 | frz (o:Obj) (u:HO)
 | tbl (ps:Array Value)
 | ext (φ:Heap->Prop)
noncomputable abbrev Hp:=Addr->Option HO
noncomputable def upd (H:Hp)(a:Addr)(o:HO):Hp:=fun b=>if b=a then some o else H b
def Ab : upd H a o a=some o:=by unfold upd;rw[if_pos rfl]
def Aj (h:b≠a):upd H a o b=H b:=by unfold upd;rw[if_neg h]
def VT : upd (upd H a o) a u=upd H a u:=by
 funext b;unfold upd;split<;>rfl
def QK {H:Hp}{a b:Addr}{o u:HO}(h:H a=some o)(h':H b=some u)(d:o≠u):a≠b:=by
 intro e;subst e;rw[h]at h';exact d (ju_ h')
def AL {H:Hp}{a b:Addr}{o:HO}(h:H a=some o)(h':H b=none):a≠b:=by
 intro e;subst e;rw[h]at h';cases h'
section
variable (P:Program) (w:World)
noncomputable def AY (H:Hp)(h:Heap)(a:Addr):HO->Prop
 |.lst xs=>xs.length<=sizeLine/\∃(ah:List Value) (n:Nat),Vals xs ah/\h.get? a=some {cls:=.type "list",data:=.seq ah.toArray n}
 |.tup xs=>xs.length<=sizeLine/\∃ah:List Value,Vals xs ah/\IsTup h a ah.toArray
 |.dK kvs=>kvs.length<=sizeLine/\(a==sysModules)=false/\∃vs,KV kvs vs/\h.DictOf (AX P w) a vs
 |.dT kvs=>kvs.length<=sizeLine/\(a==sysModules)=false/\∃xs:List (List Key×Addr×Value),
   Paired (fun (p:List Key×V) (q:List Key×Addr×Value)=>p.1=q.1/\H q.2.1=some (.tup (p.1.map kV))/\RelV p.2 q.2.2) kvs xs /\
   ∃o es ep,h.get? a=some o/\o.ExactDict/\o.data=.dict es ep/\es.toList=xs.map (entryOfKey (tupleKind (AX P w)))/\(xs.map (·.1)).Nodup
 |.set S n=>h.SetOf (intKind P w) a S n
 |.ins C dx fs=>H dx=some (.own a)/\fs.length<=1000/\dx≠a/\h.get? a=some (pq C dx) /\
   ∃mA,h.Ns1 dx mA/\(∀f,RelO (fs.lookup f) (mA f))/\qO mA (fs.map (·.1))
 |.own _=>∃o,h.get? a=some o
 |.xd fs=>∃mA,h.Ns1 a mA/\∀f,RelO (fs.lookup f) (mA f)
 |.rng lo hi=>∃t u v,h.get? a=some {cls:=.type "range",data:=.fields #[.int lo t,.int hi u,.int 1 v]}
 |.frz o u=>h.get? a=some o/\AY H h a u
 |.tbl ps=>h.get? a=some {cls:=.none,data:=.fields ps}
 |.met f x=>h.get? a=some (pN (.ref f) (.ref x))
 |.ext φ=>φ h/\(∃o,h.get? a=some o)/\∀h1 h2:Heap,φ h1->(∀o,h1.get? a=some o->h2.get? a=some o)->φ h2
noncomputable def HOk (H:Hp)(h:Heap):Prop:=∀a o,H a=some o->AY P w H h a o
end
section
variable {P:Program} {w:World} {H H':Hp} {h h':Heap} {a:Addr} {o:HO}
def AY.lt (x:AY P w H h a o):a<h.objs.size:=by
 cases o with
 |lst xs=>obtain⟨_,_,_,_,e⟩:=x;exact jl_ e
 |tup xs=>obtain⟨_,_,_,p⟩:=x;exact p.lt
 |dK kvs=>obtain⟨_,_,_,_,o,_,_,e,_⟩:=x;exact jl_ e
 |dT kvs=>obtain⟨_,_,_,_,o,_,_,e,_⟩:=x;exact jl_ e
 |set S n=>obtain⟨o,_,_,_,e,_⟩:=x;exact jl_ e
 |ins C dx fs=>obtain⟨_,_,_,e,_⟩:=x;exact jl_ e
 |own y=>obtain⟨_,e⟩:=x;exact jl_ e
 |xd fs=>obtain⟨_,⟨_,_,_,e,_⟩,_⟩:=x;exact jl_ e
 |rng lo hi=>obtain⟨_,_,_,e⟩:=x;exact jl_ e
 |frz ob u=>obtain⟨e,_⟩:=x;exact jl_ e
 |tbl ps=>exact jl_ (show h.get? a=some _ from x)
 |met f y=>exact jl_ (show h.get? a=some _ from x)
 |ext φ=>obtain⟨_,⟨_,e⟩,_⟩:=x;exact jl_ e
def Paired.mapP {α β:Type}{F G:α->β->Prop}:∀{l₁:List α} {l₂:List β},Paired F l₁ l₂->(∀a b,F a b->G a b)->Paired G l₁ l₂
 |_,_,.nil,_=>.nil
 |_,_,.cons r t,f=>.cons (f _ _ r) (Paired.mapP t f)
def AY.stay (x:AY P w H h a o)(k:∀b u,(b=a\/H b=some (.own a))->h.get? b=some u->h'.get? b=some u)
  (ho:∀b,H b=some (.own a)->H' b=some (.own a)) (ht:∀b xs,H b=some (.tup xs)->H' b=some (.tup xs)):AY P w H' h' a o:=by
 induction o with
 |lst xs=>obtain⟨z,ah,n,r,e⟩:=x;exact⟨z,ah,n,r,k _ _ (.inl rfl) e⟩
 |tup xs=>obtain⟨z,ah,r,ob,e,c⟩:=x;exact⟨z,ah,r,ob,k _ _ (.inl rfl) e,c⟩
 |dK kvs=>obtain⟨z,y,vs,r,ob,es,ep,e,c⟩:=x;exact⟨z,y,vs,r,ob,es,ep,k _ _ (.inl rfl) e,c⟩
 |dT kvs=>
  obtain⟨z,y,xs,r,ob,es,ep,e,c⟩:=x;exact⟨z,y,xs,Paired.mapP r fun p q z=>⟨z.1,ht _ _ z.2.1,z.2.2⟩,ob,es,ep,k _ _ (.inl rfl) e,c⟩
 |set S n=>obtain⟨ob,es,ep,t,e,c⟩:=x;exact⟨ob,es,ep,t,k _ _ (.inl rfl) e,c⟩
 |ins C dx fs=>
  obtain⟨d,z,ne,e,mA,⟨od,es,ep,e2,c⟩,r⟩:=x;exact⟨ho _ d,z,ne,k _ _ (.inl rfl) e,mA,⟨od,es,ep,k _ _ (.inr d) e2,c⟩,r⟩
 |own y=>obtain⟨ob,e⟩:=x;exact⟨ob,k _ _ (.inl rfl) e⟩
 |xd fs=>obtain⟨mA,⟨od,es,ep,e,c⟩,r⟩:=x;exact⟨mA,⟨od,es,ep,k _ _ (.inl rfl) e,c⟩,r⟩
 |rng lo hi=>obtain⟨t,u,v,e⟩:=x;exact⟨t,u,v,k _ _ (.inl rfl) e⟩
 |frz ob u ih=>obtain⟨e,q⟩:=x;exact⟨k _ _ (.inl rfl) e,ih q⟩
 |tbl ps=>
  have e:h.get? a=some {cls:=.none,data:=.fields ps}:=x;show h'.get? a=some {cls:=.none,data:=.fields ps};exact k a _ (.inl rfl) e
 |met f y=>
  have e:h.get? a=some (pN (.ref f) (.ref y)):=x;show h'.get? a=some (pN (.ref f) (.ref y));exact k a _ (.inl rfl) e
 |ext φ=>obtain⟨p,⟨o,e⟩,st⟩:=x;exact⟨st _ _ p fun o q=>k _ _ (.inl rfl) q,⟨o,k _ _ (.inl rfl) e⟩,st⟩
def HOk.lt (x:HOk P w H h)(e:H a=some o):a<h.objs.size:=(x a o e).lt
def HOk.fresh (x:HOk P w H h)(e:h.objs.size<=a):H a=none:=by
 cases q:H a with
 |none=>rfl
 |some u=>exact absurd (jt_ (x.lt q) e) (j0_ _)
def HOk.kept (x:HOk P w H h)(k:∀b u,h.get? b=some u->h'.get? b=some u):HOk P w H h':=fun a o e=>
 (x a o e).stay (fun b u _ q=>k b u q) (fun _ q=>q) fun _ _ q=>q
def HOk.laid (x:HOk P w H h)(k:∀b u,h.get? b=some u->h'.get? b=some u)(hp:h.objs.size<=a)(new:AY P w (upd H a o) h' a o):HOk P w (upd H a o) h':=fun b u e=>by
 have hn:=x.fresh hp;by_cases hb:b=a
 ·subst hb;rw[Ab]at e;cases e;exact new
 ·rw[Aj hb]at e;exact (x b u e).stay (fun c v _ q=>k c v q) (fun c q=>by rw[Aj (AL q hn)];exact q) fun c xs q=>by rw[Aj (AL q hn)];exact q
end
noncomputable def Rd (H:Hp)(a:Addr)(u:HO):Prop:=H a=some u \/ ∃o,H a=some (.frz o u)
def Rd.ok (r:Rd H a u)(x:HOk P w H h):AY P w H h a u:=by
 rcases r with r|⟨o,r⟩
 ·exact x a u r
 ·obtain⟨_,q⟩:=x a _ r;exact q
noncomputable def Mut:Option HO->Prop
 |some (.lst _)=>True
 |some (.dK _)=>True
 |some (.dT _)=>True
 |some (.set _ _)=>True
 |some (.ins _ _ _)=>True
 |some (.ext _)=>True
 |_=>False
section
variable {P:Program} {w:World} {H:Hp} {h h':Heap} {x e:Addr} {o':HO}
def HOk.write (ok:HOk P w H h)(mu:Mut (H x))(he:e=x\/H e=some (.own x))(k:∀b u,b≠e->h.get? b=some u->h'.get? b=some u)(gp:∃u,h'.get? e=some u)
  (new:AY P w (upd H x o') h' x o'):HOk P w (upd H x o') h':=fun b u q=>by
 have nown:∀c y,H c=some (.own y)->c≠x:=fun c y r z=>by subst z;rw[r]at mu;exact mu
 have ntup:∀c xs,H c=some (.tup xs)->c≠x:=fun c xs r z=>by subst z;rw[r]at mu;exact mu
 by_cases hb:b=x
 ·subst hb;rw[Ab]at q;cases q;exact new
 ·rw[Aj hb]at q;by_cases i5:b=e
  ·have q':H b=some (.own x):=by
    rcases he with z|z
    ·exact absurd (i5.trans z) hb
    ·rw[i5];exact z
   rw[q]at q';cases q';obtain⟨v,hv⟩:=gp;exact⟨v,by rw[i5];exact hv⟩
  ·refine (ok b u q).stay (fun c v hc r=>k c v ?_ r) (fun c r=>by rw[Aj (nown c b r)];exact r) fun c xs r=>by rw[Aj (ntup c xs r)];exact r
   rcases hc with rfl|hc
   ·exact i5
   ·rintro rfl;rcases he with z|z
    ·exact nown c b hc z
    ·rw[hc]at z;cases z;exact hb rfl
end
structure Un (fs ex:List Addr)(H H':Hp)(h h':Heap):Prop where
 keep:∀b o,h.get? b=some o->H b=none->b∉fs->b∉ex->h'.get? b=some o
 slot:∀b o,h.get? b=some o->H b=none->b∈fs->b∉ex->∃sl,h'.get? b=some {o with slots:=sl}
 free:∀b o,h.get? b=some o->H b=none->b∉ex->H' b=none
 there:∀b o,h.get? b=some o->b∉ex->∃o',h'.get? b=some o'
 tups:∀b xs,H b=some (.tup xs)->H' b=some (.tup xs)
 frzs:∀b o u,H b=some (.frz o u)->H' b=some (.frz o u)
 tbls:∀b ps,H b=some (.tbl ps)->∃more,H' b=some (.tbl (ps++more))
section
variable {fs fs' ex ex':List Addr} {H H1 H2:Hp} {h h1 h2 h':Heap} {a x e:Addr} {o:HO}
def Un.any (u:Un fs ex H H1 h h1) (q:h.get? b=some ob)(n:H b=none)(hx:b∉ex):∃sl,h1.get? b=some {ob with slots:=sl}:=by
 by_cases hb:b∈fs
 ·exact u.slot b ob q n hb hx
 ·exact⟨ob.slots,u.keep b ob q n hb hx⟩
def Un.kept (k:∀b u,h.get? b=some u->h'.get? b=some u):Un fs ex H H h h' :=
 ⟨fun b ob q _ _ _=>k b ob q,fun b ob q _ _ _=>⟨ob.slots,k b ob q⟩,fun _ _ _ n _=>n,fun b ob q _=>⟨ob,k b ob q⟩,fun _ _ q=>q,fun _ _ _ q=>q,fun _ ps q=>⟨#[],by rw[q];simp⟩⟩
def Un.refl:Un fs ex H H h h:=Un.kept fun _ _ q=>q
def Un.laid (k:∀b u,h.get? b=some u->h'.get? b=some u)(hp:h.objs.size<=a)(hn:H a=none):Un fs ex H (upd H a o) h h' where
 keep:=fun b u q _ _ _=>k b u q
 slot:=fun b u q _ _ _=>⟨u.slots,k b u q⟩
 free:=fun b u q n _=>by rw[Aj (jG_ (jt_ (jl_ q) hp))];exact n
 there:=fun b u q _=>⟨u,k b u q⟩
 tups:=fun b xs q=>by rw[Aj (AL q hn)];exact q
 frzs:=fun b u xs q=>by rw[Aj (AL q hn)];exact q
 tbls:=fun b ps q=>⟨#[],by rw[Aj (AL q hn),q];simp⟩
def Un.write (mu:Mut (H x))(he:e=x\/H e=some (.own x))(k:∀b u,b≠e->h.get? b=some u->h'.get? b=some u)(gp:∃u,h'.get? e=some u):Un fs ex H (upd H x o) h h':=by
 have hx:∀b,H b=none->b≠x:=fun b n z=>by subst z;rw[n]at mu;exact mu
 have hb:∀b,H b=none->b≠e:=fun b n z=>by
  subst z;rcases he with r|r
  ·exact hx b n r
  ·rw[n]at r;cases r
 have hm:∀b u,H b=some u->¬ Mut (some u)->b≠x:=fun b u q nm z=>by subst z;rw[q]at mu;exact nm mu
 refine⟨fun b u q n _ _=>k b u (hb b n) q,fun b u q n _ _=>⟨u.slots,k b u (hb b n) q⟩,fun b u q n _=>by rw[Aj (hx b n)];exact n,fun b u q _=>?_,
  fun b xs q=>by rw[Aj (hm b _ q fun z=>z)];exact q,fun b u xs q=>by rw[Aj (hm b _ q fun z=>z)];exact q,fun b ps q=>⟨#[],by rw[Aj (hm b _ q fun z=>z),q];simp⟩⟩
 by_cases i5:b=e
 ·subst i5;exact gp
 ·exact⟨u,k b u i5 q⟩
end
noncomputable def trk (h:Heap)(H:Hp):List Addr:=(oX h.objs.size).filter fun a=>(H a).isSome
noncomputable def hidT (h:Heap)(H:Hp):Heap:=p6 h (trk h H)
def QL (h:Heap)(H:Hp):(hidT h H).objs.size=h.objs.size:=tE _ _
def Ta (e:h.get? b=some o)(n:H b=none):(hidT h H).get? b=some o:=
 qw _ e fun hm=>by
  have q:(H b).isSome=true:=(zo_.mp hm).2;rw[n]at q;simp at q
def VU (e:(hidT h H).get? b=some o):h.get? b=some o/\H b=none:=by
 have e':h.get? b=some o:=qG (trk h H) e;refine⟨e',?_⟩;cases q:H b with
 |none=>rfl
 |some x=>
  have hm:b∈trk h H:=zo_.mpr ⟨qo_.mpr (jl_ e'),by simp[q]⟩;have z:(hidT h H).get? b=none:=tF (trk h H) hm;rw[z]at e;cases e
noncomputable def VW (g h:Heap)(L:Addr):α7:=(oX h.objs.size).filterMap fun a=>if a=L\/(g.get? a).isSome=true then none else (h.get? a).map fun o=>(a,o)
noncomputable def rest (g h:Heap)(L d:Addr):α7:=(VW g h L).filter fun p=>decide (p.1≠d)
end L2
namespace L2
open PySem PySem.Spec PyProof.Rows
structure Mod (K:α3)(mg:Str->α5)(base:Heap):Prop where
 kin:K.In base
 glob:base.Ns mainGlobals mg
 blt:∃mb,base.Ns builtinsNs mb/\∀x:Str,x ≠ "__name__" -> mb x=bootBuiltins x
 nolimit:base.NoLimit
structure Cx where
 prog:Program
 w:World
 K:α3
 mg:Str->α5
 base:Heap
 A:Around
 N:List Str
 s₀:Shared
 H₀:Hp
 env:Env
 outer:List Env
 stack:List Env
 ex:List Addr
 fn:Str->Bool
 calm:Bool
 pn:α7
 xe:Value->Shared->Prop
noncomputable def frs (l:List Env):List Addr:=l.filterMap (·.frame)
noncomputable abbrev Cx.fs (X:Cx):List Addr:=frs X.outer
noncomputable def Vis (sc:Scope)(x:Str):Prop:=sc.names.lookup x=some .local\/sc.names.lookup x=some .cell\/sc.names.lookup x=some .free
noncomputable def Loc (sc:Scope)(x:Str):Prop:=sc.names.lookup x=some .local\/sc.names.lookup x=some .cell
noncomputable def Look (env:Env)(h:Heap)(m:Str->α5)(x:Str)(u:Value):Prop:=
 (env.kindOf x=some .local/\m x=some u)\/((env.kindOf x=some .cell\/env.kindOf x=some .free)/\∃c,env.cells.lookup x=some c/\h.IsCell c (some u))
structure Cx.Ok (X:Cx):Prop where
 mod:Mod X.K X.mg X.base
 kind:X.env.scope.kind=.function
 glob:X.env.globals=mainGlobals
 blt:X.env.builtins=builtinsNs
 above:X.s₀.heap.objs.size<=X.env.locals
 inj:∀x y c,X.env.cells.lookup x=some c->X.env.cells.lookup y=some c->x=y
 has:∀x,(X.env.kindOf x=some .cell\/X.env.kindOf x=some .free)->∃c,X.env.cells.lookup x=some c
 cab:∀x c,X.fn x=true->X.env.cells.lookup x=some c->X.s₀.heap.objs.size<=c
 hd:X.calm=true->X.A.handled=none
 frames:X.A.frames=some X.stack
 stk:X.stack=X.outer\/(X.stack=X.env::X.outer/\X.env.frame=some X.env.locals)
 exf:∀b∈X.ex,b≠X.env.locals/\∀x c,X.env.cells.lookup x=some c->c≠b
 bs:∀b o,X.base.get? b=some o->X.s₀.heap.get? b=some o/\X.H₀ b=none
 bsz:X.base.objs.size<=X.s₀.heap.objs.size
 noex:∀b o,X.base.get? b=some o->b∉X.ex
 exfs:∀b∈X.ex,b∉X.fs
 funs:X.s₀.heap.FunFrames X.base X.outer
 frf:∀b∈X.fs,X.H₀ b=none
structure Inv (X:Cx)(aa:α7)(σ:List (Option V))(H:Hp)(s:Shared):Prop where
 ok:X.Ok
 os:s.os=X.s₀.os
 bare:AllBare s.gens
 base:Un X.fs X.ex X.H₀ H X.s₀.heap s.heap
 loc:∃m,s.heap.Ns X.env.locals m/\∀(i:Nat) (x:Str) (v:V),X.N[i]?=some x->σ[i]?=some (some v)->Vis X.env.scope x->∃u,RelV v u/\Look X.env s.heap m x u
 cell:∀x c,X.env.cells.lookup x=some c->∃v,s.heap.IsCell c v
 free:H X.env.locals=none
 freeC:∀x c,X.env.cells.lookup x=some c->H c=none
 pin:∀p∈X.pn++aa,s.heap.get? p.1=some p.2/\H p.1=none/\p.1≠X.env.locals/\p.1∉X.fs/\∀v,p.2.data ≠ .cell v
 hok:HOk X.prog X.w H s.heap
 len:σ.length=X.N.length
section
variable {X:Cx} {aa:α7} {σ:List (Option V)} {H H':Hp} {s:Shared} {h':Heap}
def Cx.Ok.nofr (ok:X.Ok) (e:X.base.get? b=some o):b∉X.fs:=fun hb=>by
 have:=(ok.funs.mem hb).1;rw[e]at this;cases this
def Inv.bs (I:Inv X aa σ H s):∀b o,X.base.get? b=some o->s.heap.get? b=some o/\H b=none:=fun b o e=>
 ⟨I.base.keep b o (I.ok.bs b o e).1 (I.ok.bs b o e).2 (I.ok.nofr e) (I.ok.noex b o e),I.base.free b o (I.ok.bs b o e).1 (I.ok.bs b o e).2 (I.ok.noex b o e)⟩
def Inv.bk (I:Inv X aa σ H s):∀b o,X.base.get? b=some o->s.heap.get? b=some o:=fun b o e=>(I.bs b o e).1
def Inv.mod (I:Inv X aa σ H s):Mod X.K X.mg X.base:=I.ok.mod
def Inv.kIn (I:Inv X aa σ H s):X.K.In s.heap:=I.ok.mod.kin.keeps I.bk
def Inv.lt (I:Inv X aa σ H s):X.env.locals<s.heap.objs.size:=let ⟨_,hn,_⟩:=I.loc;hn.lt
def Inv.sz (I:Inv X aa σ H s):X.s₀.heap.objs.size<=s.heap.objs.size:=qg_ I.ok.above (xP_ I.lt)
def Inv.nofs (I:Inv X aa σ H s) (h:s.heap.objs.size<=a):a∉X.fs:=fun hb=>by
 obtain⟨_,o,ho,_⟩:=I.ok.funs.mem hb;exact absurd (jt_ (jl_ ho) (qg_ I.sz h)) (j0_ _)
def Inv.cne (I:Inv X aa σ H s):∀x c,X.env.cells.lookup x=some c->c≠X.env.locals:=fun x c e z=>by
 obtain⟨v,o,ho,hd⟩:=I.cell x c e;obtain⟨m,⟨o',es,ep,cF,kz,_⟩,_⟩:=I.loc;rw[z,cF]at ho;cases ho;rw[kz]at hd;cases hd
def Inv.funs (I:Inv X aa σ H s):s.heap.FunFrames X.base X.outer:=by
 have all:∀(l:List Env),(∀b∈frs l,b∈X.fs)->X.s₀.heap.FunFrames X.base l->s.heap.FunFrames X.base l:=by
  intro l
  induction l with
  |nil=>intro _ _;trivial
  |cons env r ih=>
   intro hs hl;obtain⟨hk,⟨L,o,hf,hn,ho,hd⟩,hr⟩:=hl;have hL:L∈X.fs:=hs L (by unfold frs;rw[z7_,hf];exact jA_);obtain⟨sl,e⟩:=I.base.slot L o ho (I.ok.frf L hL) hL fun z=>I.ok.exfs L z hL;exact⟨hk,⟨L,_,hf,hn,e,hd⟩,ih (fun b hb=>hs b (by unfold frs;rw[z7_,hf];exact jq_ _ hb)) hr⟩
 exact all X.outer (fun _ hb=>hb) I.ok.funs
def Inv.stack (I:Inv X aa σ H s):s.heap.FunFrames X.base X.stack:=by
 rcases I.ok.stk with e|⟨e,hf⟩
 ·rw[e];exact I.funs
 ·rw[e];obtain⟨m,hn,_⟩:=I.loc;refine .cons (by rw[I.ok.kind];decide) hf hn ?_ I.funs;exact Heap.get?_none_of_le (qg_ I.ok.bsz I.ok.above)
def Inv.stkSub (I:Inv X aa σ H s):∀b∈frs X.stack,b∈X.env.locals::X.fs:=fun b hb=>by
 rcases I.ok.stk with e|⟨e,hf⟩
 ·rw[e]at hb;exact jq_ _ hb
 ·rw[e]at hb;unfold frs at hb;rw[z7_,hf]at hb;exact hb
def Inv.stkFree (I:Inv X aa σ H s):∀b∈frs X.stack,H b=none:=fun b hb=>by
 rcases jE_.mp (I.stkSub b hb) with e|hb
 ·rw[e];exact I.free
 ·obtain⟨_,o,ho,_⟩:=I.ok.funs.mem hb;exact I.base.free b o ho (I.ok.frf b hb) fun z=>I.ok.exfs b z hb
def Inv.step {g':Array GenState}{t':Nat}{d':Drawn}{ch:List Addr}(I:Inv X aa σ H s)
  (gq:∀b∈ch,(b∈X.ex\/X.s₀.heap.objs.size<=b)/\b≠X.env.locals/\(∀x c,X.env.cells.lookup x=some c->c≠b)/\∀p∈X.pn++aa,p.1≠b)
  (keep:∀b o,b≠X.env.locals->b∉X.fs->b∉ch->s.heap.get? b=some o->H b=none->h'.get? b=some o)
  (slot:∀b o,b≠X.env.locals->b∈X.fs->b∉ch->s.heap.get? b=some o->H b=none->∃sl,h'.get? b=some {o with slots:=sl}) (free:∀b o,b∉ch->s.heap.get? b=some o->H b=none->H' b=none)
  (there:∀b o,b∉ch->s.heap.get? b=some o->∃o',h'.get? b=some o')
  (tups:∀b xs,H b=some (.tup xs)->H' b=some (.tup xs)) (frzs:∀b o u,H b=some (.frz o u)->H' b=some (.frz o u)) (tbls:∀b ps,H b=some (.tbl ps)->∃more,H' b=some (.tbl (ps++more)))
  (ns:∀m,s.heap.Ns X.env.locals m->h'.Ns X.env.locals m) (hok:HOk X.prog X.w H' h') (hg:AllBare g'):
  Inv X aa σ H' {s with heap:=h',gens:=g',drawn:=d',toks:=t' }:=by
 have neL:∀b o,X.s₀.heap.get? b=some o->b≠X.env.locals:=fun b o e=>jG_ (jt_ (jl_ e) I.ok.above);have lZ:∀b o,X.s₀.heap.get? b=some o->b∉X.ex->b∉ch:=fun b o e hx hb=>by
  rcases (gq b hb).1 with z|z
  ·exact hx z
  ·exact absurd (jt_ (jl_ e) z) (j0_ _)
 have cellK:∀x c,X.env.cells.lookup x=some c->∀v,s.heap.IsCell c v->h'.IsCell c v:=fun x c e v ⟨o,ho,hd⟩=>by
  have fg:c∉ch:=fun z=>(gq c z).2.2.1 x c e rfl;by_cases hc:c∈X.fs
  ·obtain⟨sl,q⟩:=slot c o (I.cne x c e) hc fg ho (I.freeC x c e);exact⟨_,q,hd⟩
  ·exact⟨o,keep c o (I.cne x c e) hc fg ho (I.freeC x c e),hd⟩
 refine⟨I.ok,I.os,hg,⟨fun b o e n hb hx=>?_,fun b o e n hb hx=>?_,fun b o e n hx=>?_,fun b o e hx=>?_,fun b xs e=>tups b xs (I.base.tups b xs e),fun b o xs e=>frzs b o xs (I.base.frzs b o xs e),fun b ps e=>?_⟩,?_,fun x c e=>?_,?_,fun x c e=>?_,fun p hp=>?_,hok,I.len⟩
 ·exact keep b o (neL b o e) hb (lZ b o e hx) (I.base.keep b o e n hb hx) (I.base.free b o e n hx)
 ·obtain⟨sl,e1⟩:=I.base.slot b o e n hb hx;obtain⟨jQ,e2⟩:=slot b _ (neL b o e) hb (lZ b o e hx) e1 (I.base.free b o e n hx);exact⟨jQ,e2⟩
 ·obtain⟨o',e1⟩:=I.base.there b o e hx;exact free b o' (lZ b o e hx) e1 (I.base.free b o e n hx)
 ·obtain⟨o',e1⟩:=I.base.there b o e hx;exact there b o' (lZ b o e hx) e1
 ·obtain⟨m1,e1⟩:=I.base.tbls b ps e;obtain⟨m2,e2⟩:=tbls b _ e1;exact⟨m1++m2,by rw[e2,Array.append_assoc]⟩
 ·obtain⟨m,hn,hl⟩:=I.loc;refine⟨m,ns m hn,fun i x v e1 e2 e3=>?_⟩;obtain⟨u,r,l⟩:=hl i x v e1 e2 e3;refine⟨u,r,?_⟩;rcases l with l|⟨k,c,e,z⟩
  ·exact .inl l
  ·exact .inr ⟨k,c,e,cellK x c e _ z⟩
 ·obtain⟨v,z⟩:=I.cell x c e;exact⟨v,cellK x c e v z⟩
 ·obtain⟨m,⟨o,_,_,ho,_⟩,_⟩:=I.loc;exact free _ o (fun z=>(gq _ z).2.1 rfl) ho I.free
 ·obtain⟨v,o,ho,hd⟩:=I.cell x c e;exact free c o (fun z=>(gq c z).2.2.1 x c e rfl) ho (I.freeC x c e)
 ·obtain⟨e,n,ne,nf,d⟩:=I.pin p hp;have fg:p.1∉ch:=fun z=>(gq p.1 z).2.2.2 p hp rfl;exact⟨keep p.1 p.2 ne nf fg e n,free p.1 p.2 fg e n,ne,nf,d⟩
def Inv.un (I:Inv X aa σ H s)(u:Un X.fs [] H H' s.heap h')(hok:HOk X.prog X.w H' h'):Inv X aa σ H' {s with heap:=h',toks:=t' }:=by
 obtain⟨m,⟨o,es,ep,ho,r⟩,_⟩:=id I.loc;obtain⟨sl,hL⟩:=u.any ho I.free (by simp);exact I.step (g':=s.gens) (d':=s.drawn) (ch:=[]) (fun _ z=>nomatch z) (fun b o _ hb _ e n=>u.keep b o e n hb (by simp)) (fun b o _ hb _ e n=>u.slot b o e n hb (by simp)) (fun b o _ e n=>u.free b o e n (by simp)) (fun b o _ e=>u.there b o e (by simp)) u.tups u.frzs u.tbls (fun m' hm=>by
  obtain⟨o',eA,ma,cF,r'⟩:=hm;rw[ho]at cF;cases cF;exact⟨_,eA,ma,hL,r'⟩) hok I.bare
def Inv.call (I:Inv X aa σ H s)(u:Un (frs X.stack) ch H H' s.heap h')(hok:HOk X.prog X.w H' h')(hg:AllBare g')
  (gq:∀b∈ch,(b∈X.ex\/X.s₀.heap.objs.size<=b)/\b≠X.env.locals/\(∀x c,X.env.cells.lookup x=some c->c≠b)/\∀p∈X.pn++aa,p.1≠b):
  Inv X aa σ H' {s with heap:=h',gens:=g',drawn:=d',toks:=t' }:=by
 obtain⟨m,⟨o,es,ep,ho,r⟩,_⟩:=id I.loc;obtain⟨sl,hL⟩:=u.any ho I.free fun z=>(gq _ z).2.1 rfl;exact I.step (ch:=ch) gq (fun b o hL hb hc e n=>u.keep b o e n (fun z=>(jE_.mp (I.stkSub b z)).elim hL hb) hc) (fun b o _ _ hc e n=>u.any e n hc) (fun b o hc e n=>u.free b o e n hc) (fun b o hc e=>u.there b o e hc) u.tups u.frzs u.tbls (fun m' hm=>by
  obtain⟨o',eA,ma,cF,r'⟩:=hm;rw[ho]at cF;cases cF;exact⟨_,eA,ma,hL,r'⟩) hok hg
def Inv.turned {it:Addr}(I:Inv X aa σ H s)(k:∀b o,b≠it->s.heap.get? b=some o->h'.get? b=some o)(hn:H it=none)(hL:it≠X.env.locals)
  (h1:it∈X.ex\/X.s₀.heap.objs.size<=it) (h2:∀x c,X.env.cells.lookup x=some c->c≠it) (h3:∀p∈X.pn++aa,p.1≠it):Inv X aa σ H {s with heap:=h',toks:=t' }:=by
 have nit:∀b u,H b=some u->b≠it:=fun b u e z=>by rw[z,hn]at e;cases e
 refine I.step (g':=s.gens) (d':=s.drawn) (ch:=[it]) (fun b hb=>?_) (fun b o _ _ hc e _=>k b o (fun z=>hc (by simp[z])) e) (fun b o _ _ hc e _=>⟨o.slots,k b o (fun z=>hc (by simp[z])) e⟩) (fun _ _ _ _ n=>n)
  (fun b o hc e=>⟨o,k b o (fun z=>hc (by simp[z])) e⟩) (fun _ _ e=>e) (fun _ _ _ e=>e) (fun b ps e=>⟨#[],by rw[e];simp⟩) (fun m hm=>?_) (fun b u e=>?_) I.bare
 ·have e:b=it:=by simpa using hb
  subst e;exact⟨h1,hL,h2,h3⟩
 ·obtain⟨o,es,ep,ho,r⟩:=hm;exact⟨o,es,ep,k _ o (qp_ hL) ho,r⟩
 ·refine (I.hok b u e).stay (fun c v hc q=>k c v ?_ q) (fun _ q=>q) fun _ _ q=>q;rcases hc with z|z
  ·rw[z];exact nit b u e
  ·exact nit c _ z
def Inv.tok (I:Inv X aa σ H s)(t:Nat):Inv X aa σ H {s with toks:=t}:=I.un (h':=s.heap) (t':=t) Un.refl I.hok
def Inv.kept (I:Inv X aa σ H s)(k:∀b u,s.heap.get? b=some u->h'.get? b=some u):Inv X aa σ H {s with heap:=h',toks:=t' }:=I.un (Un.kept k) (I.hok.kept k)
def Inv.laid (I:Inv X aa σ H s)(k:∀b u,s.heap.get? b=some u->h'.get? b=some u)(hp:s.heap.objs.size<=a)(new:AY X.prog X.w (upd H a o) h' a o):
  Inv X aa σ (upd H a o) {s with heap:=h',toks:=t' }:=I.un (Un.laid k hp (I.hok.fresh hp)) (I.hok.laid k hp new)
def Inv.write (I:Inv X aa σ H s)(mu:Mut (H x))(he:e=x\/H e=some (.own x))(k:∀b u,b≠e->s.heap.get? b=some u->h'.get? b=some u)(gp:∃u,h'.get? e=some u)
  (new:AY X.prog X.w (upd H x o) h' x o):Inv X aa σ (upd H x o) {s with heap:=h',toks:=t' }:=I.un (Un.write mu he k gp) (I.hok.write mu he k gp new)
def Inv.pins_of (I:Inv X aa σ H s)(h:∀p∈aI,s.heap.get? p.1=some p.2/\H p.1=none/\p.1≠X.env.locals/\p.1∉X.fs/\∀v,p.2.data ≠ .cell v):Inv X aI σ H s:=
 ⟨I.ok,I.os,I.bare,I.base,I.loc,I.cell,I.free,I.freeC,fun p hp=>(jJ_.mp hp).elim (fun z=>I.pin p (qf_ _ z)) (h p),I.hok,I.len⟩
def Mg {N:List Str}(hN:N.Nodup){i j:Nat}{x:Str}(a:N[i]?=some x)(b:N[j]?=some x):i=j:=by
 obtain⟨h1,e1⟩:=jg_.mp a;obtain⟨h2,e2⟩:=jg_.mp b;exact (pQ hN).mp (e1.trans e2.symm)
def M9 (I:Inv X aa σ H s)(hN:X.N.Nodup)(hi:X.N[i]?=some x)(hx:Loc X.env.scope x)(r:RelV v u)
  (h:∀s',Inv X aa (σ.set i (some v)) H s'->(∃a,Heap.SameBut a s.heap s'.heap/\(a=X.env.locals\/X.env.cells.lookup x=some a))->Q () s') (hf:X.fn x=true\/X.env.scope.names.lookup x=some .local:=by first|exact .inl rfl|exact .inr rfl|assumption):wpAny M A (storeName X.env x u) Q E s:=by
 obtain⟨m,hn,hl⟩:=id I.loc;have hcls:(X.env.scope.kind == .class||(X.env.scope.kind == .module&&X.env.locals != X.env.globals))=false:=by rw[I.ok.kind];rfl
 have hiσ:i<σ.length:=by rw[I.len];exact (jg_.mp hi).1
 have cne:=I.cne;have bq:∀{a:Addr} {h':Heap},(∃o,s.heap.get? a=some o/\H a=none)->Heap.SameBut a s.heap h'->HOk X.prog X.w H h':=fun {a h'} ha hs b ob e=>by
  obtain⟨_,_,hfree⟩:=ha;refine (I.hok b ob e).stay (fun c w' hc q=>(hs.2 c ?_).trans q) (fun _ q=>q) fun _ _ q=>q;rintro rfl;rcases hc with rfl|hc
  ·rw[hfree]at e;cases e
  ·rw[hfree]at hc;cases hc
 rcases hx with hk|hk
 ·refine wpAny_storeName_local hk hn (fun h' bS hs=>?_) hcls;obtain⟨oL,_,_,hoL,_⟩:=id hn;refine h _ ⟨I.ok,I.os,I.bare,⟨fun b o e n hb hx=>?_,fun b o e n hb hx=>?_,I.base.free,fun b o e hx=>?_,I.base.tups,I.base.frzs,I.base.tbls⟩,⟨_,bS,fun j y v' e1 e2 e3=>?_⟩,fun y c e=>?_,I.free,I.freeC,fun p hp=>?_,bq ⟨oL,hoL,I.free⟩ hs,by simpa using I.len⟩ ⟨_,hs,.inl rfl⟩
  ·exact (hs.2 b (jG_ (jt_ (jl_ e) I.ok.above))).trans (I.base.keep b o e n hb hx)
  ·obtain⟨sl,e1⟩:=I.base.slot b o e n hb hx;exact⟨sl,(hs.2 b (jG_ (jt_ (jl_ e) I.ok.above))).trans e1⟩
  ·obtain⟨o',e1⟩:=I.base.there b o e hx;exact⟨o',(hs.2 b (jG_ (jt_ (jl_ e) I.ok.above))).trans e1⟩
  ·by_cases hj:j=i
   ·subst hj;rw[hi]at e1;cases e1;rw[zB_ hiσ]at e2;cases e2;exact⟨u,r,.inl ⟨hk,by simp⟩⟩
   ·rw[zZ_ (qp_ hj)]at e2;obtain⟨u',r',q⟩:=hl j y v' e1 e2 e3;refine⟨u',r',?_⟩;rcases q with ⟨k,e⟩|⟨k,c,e,z⟩
    ·refine .inl ⟨k,?_⟩;have:y≠x:=fun e=>hj (Mg hN e1 (e ▸ hi));simp[this,e]
    ·exact .inr ⟨k,c,e,z.sameBut hs (cne y c e)⟩
  ·obtain⟨w',z⟩:=I.cell y c e;exact⟨w',z.sameBut hs (cne y c e)⟩
  ·obtain⟨e,n,ne,nf,d⟩:=I.pin p hp;exact⟨(hs.2 p.1 ne).trans e,n,ne,nf,d⟩
 ·have mW:X.fn x=true:=by
   rcases hf with z|z
   ·exact z
   ·rw[z]at hk;cases hk
  obtain⟨c,hc⟩:=I.ok.has x (.inl hk);obtain⟨w',z⟩:=I.cell x c hc;refine wpAny_storeName_cell I.ok.kind hk hc z (fun h' iF hs=>?_);obtain⟨oc,eB,hocd⟩:=id z;refine h {s with heap:=h' } ⟨I.ok,I.os,I.bare,⟨fun b o e n hb hx=>?_,fun b o e n hb hx=>?_,I.base.free,fun b o e hx=>?_,I.base.tups,I.base.frzs,I.base.tbls⟩,⟨m,hn.sameBut hs (qp_ (cne x c hc)),fun j y v' e1 e2 e3=>?_⟩,fun y c' e=>?_,I.free,I.freeC,fun p hp=>?_,bq ⟨oc,eB,I.freeC x c hc⟩ hs,by simpa using I.len⟩ ⟨c,hs,.inr hc⟩
  ·exact (hs.2 b (jG_ (jt_ (jl_ e) (I.ok.cab x c mW hc)))).trans (I.base.keep b o e n hb hx)
  ·obtain⟨sl,e1⟩:=I.base.slot b o e n hb hx;exact⟨sl,(hs.2 b (jG_ (jt_ (jl_ e) (I.ok.cab x c mW hc)))).trans e1⟩
  ·obtain⟨o',e1⟩:=I.base.there b o e hx;exact⟨o',(hs.2 b (jG_ (jt_ (jl_ e) (I.ok.cab x c mW hc)))).trans e1⟩
  ·by_cases hj:j=i
   ·subst hj;rw[hi]at e1;cases e1;rw[zB_ hiσ]at e2;cases e2;exact⟨u,r,.inr ⟨.inl hk,c,hc,iF⟩⟩
   ·rw[zZ_ (qp_ hj)]at e2;obtain⟨u',r',q⟩:=hl j y v' e1 e2 e3;refine⟨u',r',?_⟩;rcases q with q|⟨k,c',e,z'⟩
    ·exact .inl q
    ·refine .inr ⟨k,c',e,z'.sameBut hs ?_⟩;rintro rfl;exact hj (Mg hN e1 (I.ok.inj _ _ _ e hc ▸ hi))
  ·by_cases i6:c'=c
   ·subst i6;exact⟨_,iF⟩
   ·obtain⟨w2,z2⟩:=I.cell y c' e;exact⟨w2,z2.sameBut hs i6⟩
  ·obtain⟨e,n,ne,nf,d⟩:=I.pin p hp;refine⟨(hs.2 p.1 ?_).trans e,n,ne,nf,d⟩;intro q;rw[q,eB]at e;have q':oc=p.2:=ju_ e;exact d w' (by rw[<-q'];exact hocd)
def Kn (I:Inv X aa σ H s)(hN:X.N.Nodup)(hi:X.N[i]?=some x)(hx:Loc X.env.scope x)(r:RelV v u)
  (h:∀s',Inv X aa (σ.set i (some v)) H s'->Q () s') (hf:X.fn x=true\/X.env.scope.names.lookup x=some .local:=by first|exact .inl rfl|exact .inr rfl|assumption):wpAny M A (storeName X.env x u) Q E s:=
 M9 I hN hi hx r (fun s' I' _=>h s' I') hf
def Inv.call' (I:Inv X aa σ H s)(ho:s'.os=s.os)(u:Un (frs X.stack) ch H H' s.heap s'.heap)(hok:HOk X.prog X.w H' s'.heap)(hg:AllBare s'.gens)
  (gq:∀b∈ch,(b∈X.ex\/X.s₀.heap.objs.size<=b)/\b≠X.env.locals/\(∀x c,X.env.cells.lookup x=some c->c≠b)/\∀p∈X.pn++aa,p.1≠b):Inv X aa σ H' s':=by
 obtain⟨h',g',d',t',o'⟩:=s';have e:o'=s.os:=ho;subst e;exact I.call (g':=g') (t':=t') (d':=d') u hok hg gq
end
noncomputable abbrev XK:=Value->Option Addr->Hp->Prop
noncomputable abbrev St:=List (Option V)
noncomputable abbrev VK:=V->Hp->Prop
noncomputable abbrev TE:=St->Hp->VK->Prop
noncomputable abbrev TT:=St->Hp->(Bool->Hp->Prop)->Prop
noncomputable abbrev TA:=St->Hp->(List V->Hp->Prop)->Prop
structure Ends where
 nx:St->Hp->Prop
 rt:VK
 bk:St->Hp->Prop:=fun _ _=>False
 ct:St->Hp->Prop:=fun _ _=>False
noncomputable abbrev TS:=Ends->St->Hp->Prop
noncomputable def EP (X:Cx)(aa:α7)(σ:St)(Q:VK)(u:Value)(s':Shared):Prop:=∃v H',Inv X aa σ H' s'/\RelV v u/\Q v H'
noncomputable def TP (X:Cx)(aa:α7)(σ:St)(Q:Bool->Hp->Prop)(b:Bool)(s':Shared):Prop:=∃H',Inv X aa σ H' s'/\Q b H'
noncomputable def AP (X:Cx)(aa:α7)(σ:St)(Q:List V->Hp->Prop)(us:List Value)(s':Shared):Prop:=∃vs H',Inv X aa σ H' s'/\Vals vs us/\Q vs H'
noncomputable def SP (X:Cx)(aa:α7)(D:Ends)(f:Flow)(s':Shared):Prop:=
 match f with
 |.next=>∃af H',Inv X aa af H' s'/\D.nx af H'
 |.brk=>∃af H',Inv X aa af H' s'/\D.bk af H'
 |.cont=>∃af H',Inv X aa af H' s'/\D.ct af H'
 |.ret u=>∃v af H',Inv X aa af H' s'/\RelV v u/\D.rt v H'
noncomputable def PE (X:Cx)(e:Expr)(t:TE):Prop:=
 ∀(aa:α7) (s:Shared) (σ:St) (H:Hp) (Q:VK),Inv X aa σ H s->t σ H Q->wpAny (model X.prog X.w) X.A (eval e X.env) (EP X aa σ Q) X.xe s
noncomputable def PT (X:Cx)(e:Expr)(t:TT):Prop:=
 ∀(aa:α7) (s:Shared) (σ:St) (H:Hp) (Q:Bool->Hp->Prop),Inv X aa σ H s->t σ H Q->wpAny (model X.prog X.w) X.A (isTrue e X.env (eval e X.env)) (TP X aa σ Q) X.xe s
noncomputable def PW (X:Cx)(e:Expr)(t:TT):Prop:=
 ∀(eC:Sem Value) (aa:α7) (s:Shared) (σ:St) (H:Hp) (Q:Bool->Hp->Prop),Inv X aa σ H s->t σ H Q->wpAny (model X.prog X.w) X.A (isTrue e X.env eC) (TP X aa σ Q) X.xe s
def PW.pt (h:PW X e t):PT X e t:=h _
noncomputable def PA (X:Cx)(es:List Expr)(t:TA):Prop:=
 ∀(pos:Pos) (aa:α7) (s:Shared) (σ:St) (H:Hp) (Q:List V->Hp->Prop),Inv X aa σ H s->t σ H Q->wpAny (model X.prog X.w) X.A (spliced (backTo pos (starEach es X.env))) (AP X aa σ Q) X.xe s
noncomputable def PS (X:Cx)(st:Stmt)(t:TS):Prop:=
 ∀(aa:α7) (s:Shared) (σ:St) (H:Hp) (D:Ends),Inv X aa σ H s->t D σ H->wpAny (model X.prog X.w) X.A (exec st X.env) (SP X aa D) X.xe s
noncomputable def PSs (X:Cx)(st:List Stmt)(t:TS):Prop:=
 ∀(aa:α7) (s:Shared) (σ:St) (H:Hp) (D:Ends),Inv X aa σ H s->t D σ H->wpAny (model X.prog X.w) X.A (execs st X.env) (SP X aa D) X.xe s
def thn (h:wpAny M A t Q E s)(hQ:∀a s,Q a s->Q' a s):wpAny M A t Q' E s:=qB_ h hQ fun _ _ x=>x
end L2
namespace L2
open PySem PySem.Spec PyProof.Rows
section
variable {X:Cx}
noncomputable def tVar (i:Nat):TE:=fun σ H Q=>∃v,σ[i]?=some (some v)/\Q v H
noncomputable def tC (v:V):TE:=fun _ H Q=>Q v H
def Xa (hN:X.N[i]?=some x)(hv:Vis X.env.scope x)(hd:(x==("__debug__" : Str))=false:=by decide)(cy:(x==("__classdict__" : Str))=false:=by decide):PE X (.Name x pos) (tVar i):=by
 intro aa s σ H Q I h;obtain⟨v,e,h⟩:=h;obtain⟨m,hn,hl⟩:=I.loc;obtain⟨u,r,l⟩:=hl i x v hN e hv;have fin:EP X aa σ Q u s:=⟨v,H,I,r,h⟩;rcases l with ⟨hk,hm⟩|⟨hk,c,hc,eE⟩
 ·exact wpAny_Name (wpAny_loadName_local I.ok.kind hk hn hm fin) hd
 ·rcases hk with hk|hk
  ·exact wpAny_Name (wpAny_loadName_cell I.ok.kind hk hc eE fin) hd
  ·exact wpAny_Name (wpAny_loadName_free I.ok.kind hk hc eE fin cy) hd
def Ai {i j pos}:PE X (.Constant (.int i) j pos) (tC (.int i)):=fun _ _ _ H _ I h=>wpAny_Constant_int ⟨.int i,H,I.tok _,⟨_,rfl⟩,h⟩
def DY {b j pos}:PE X (.Constant (.bool b) j pos) (tC (.bl b)):=fun _ _ _ H _ I h=>Constant_bool ⟨.bl b,H,I,rfl,h⟩
def Bw {j pos}:PE X (.Constant .none j pos) (tC .non):=fun _ _ _ H _ I h=>Constant_none ⟨.non,H,I,rfl,h⟩
def AA {x j pos}:PE X (.Constant (.str x) j pos) (tC (.str x)):=fun _ _ _ H _ I h=>Calls.Constant_str ⟨.str x,H,I.tok _,⟨_,rfl⟩,h⟩
noncomputable def Gl (X:Cx)(x:Str):Prop:=X.env.kindOf x=some .globalImplicit
def IV (I:Inv X aa σ H s)(hg:Gl X x)(hm:X.mg x=some u)(h:Q u s)
  (hd:(x==("__debug__" : Str))=false:=by decide):wpAny (model X.prog X.w) X.A (eval (.Name x pos) X.env) Q E s:=
 Calls.Name_function_global I.ok.kind hg (Calls.loadGlobal_global (by rw[I.ok.glob];exact I.mod.glob.keeps I.bk) hm h) hd
def HN (I:Inv X aa σ H s)(hg:Gl X x)(hm:X.mg x=none)(hv:bootBuiltins x=some u)(h:Q u s)
  (hn:x ≠ "__name__" := by decide) (hd:(x==("__debug__" : Str))=false:=by decide):wpAny (model X.prog X.w) X.A (eval (.Name x pos) X.env) Q E s:=by
 obtain⟨mb,h1,h2⟩:=I.mod.blt;exact Calls.Name_function_global I.ok.kind hg (Calls.loadGlobal_builtin (by rw[I.ok.glob];exact I.mod.glob.keeps I.bk) hm (by rw[I.ok.blt];exact h1.keeps I.bk) ((h2 x hn).trans hv) h) hd
def KD (hg:Gl X x)(hm:X.mg x=some u)(r:RelV v u)(hd:(x==("__debug__" : Str))=false:=by decide):PE X (.Name x pos) (tC v):=
 fun _ _ _ H _ I h=>IV I hg hm ⟨v,H,I,r,h⟩ hd
def VX (hg:Gl X x)(hm:X.mg x=none)(hv:bootBuiltins x=some u)(r:RelV v u)(hn:x ≠ "__name__" := by decide)(hd:(x==("__debug__" : Str))=false:=by decide):PE X (.Name x pos) (tC v):=
 fun _ _ _ H _ I h=>HN I hg hm hv ⟨v,H,I,r,h⟩ hn hd
variable {a b:Expr} {ta tb:TE} {pos:Pos}
noncomputable def PC (X:Cx)(op:CmpOp)(a b:Expr)(t:TE):Prop:=
 ∀(aa:α7) (s:Shared) (σ:St) (H:Hp) (Q:VK),Inv X aa σ H s->t σ H Q ->
  wpAny (model X.prog X.w) X.A (eval a X.env) (fun v s₁=>wpAny (model X.prog X.w) X.A (eval b X.env) (fun u br=>wpAny (model X.prog X.w) X.A (compareOp op v u) (EP X aa σ Q) X.xe br) X.xe s₁) X.xe s
def Tc (b:Expr) (h:op ≠ .In)(h2:op ≠ .NotIn):behindInMarks op b=false:=by
 have e1:(op==CmpOp.In)=false:=by cases op<;>first|rfl|exact absurd rfl h
 have e2:(op==CmpOp.NotIn)=false:=by cases op<;>first|rfl|exact absurd rfl h2
 cases b<;>simp[behindInMarks,e1,e2]
noncomputable def tB (t:TE):TT:=fun σ H Q=>t σ H fun x H1=>∃c,x=.bl c/\Q c H1
def Xb (h:PC X op a b t)(h1:behindInMarks op b=false:=by first|exact Tc _ (by decide) (by decide)|rfl):PT X (.Compare a [op] [b] pos) (tB t):=by
 intro aa s σ H Q I hw;refine wpAny_isTrue_Compare1 (thn (h aa s σ H _ I hw) fun v s1 h1=>thn h1 fun u s2 h2=>thn h2 fun c s3 ⟨x,H1,I1,r1,q1⟩=>?_) h1;obtain⟨d,rfl,q⟩:=q1;cases r1;exact xA_ ⟨H1,I1,q⟩
def FC (h:PE X e t)(he:∀eC,isTrue e X.env eC=(do let v <- eC;standAt e.pos;holding [v] (truthy v)):=by intro _;rfl):PT X e (tB t):=by
 intro aa s σ H Q I hw;refine isTrue_plain (thn (h aa s σ H _ I hw) fun v s1 ⟨x,H1,I1,r1,q1⟩=>?_) (he _);obtain⟨d,rfl,q⟩:=q1;cases r1;exact xA_ ⟨H1,I1,q⟩
variable {tA md:TT} {rest:List Expr}
noncomputable def tAnd (t u:TT):TT:=fun σ H Q=>t σ H fun c H1=>if c=true then u σ H1 Q else Q false H1
noncomputable def tOr (t u:TT):TT:=fun σ H Q=>t σ H fun c H1=>if c=true then Q true H1 else u σ H1 Q
noncomputable def tNot (t:TT):TT:=fun σ H Q=>t σ H fun c H1=>Q (!c) H1
def VY (ha:PT X a tA):PW X (.BoolOp .And [a] pos) tA:=by
 intro wh aa s σ H Q I h;refine isTrue_and (thn (ha aa s σ H Q I h) fun c s1 e=>?_);cases c with
 |true=>exact isTrue_and_nil e
 |false=>exact e
def KG (ha:PT X a tA):PW X (.BoolOp .Or [a] pos) tA:=by
 intro wh aa s σ H Q I h;refine isTrue_or (thn (ha aa s σ H Q I h) fun c s1 e=>?_);cases c with
 |false=>exact isTrue_or_nil e
 |true=>exact e
def Xc (ha:PT X a tA)(hb:PW X (.BoolOp .And (b::rest) pos) md):PW X (.BoolOp .And (a::b::rest) pos) (tAnd tA md):=by
 intro wh aa s σ H Q I h;refine isTrue_and (thn (ha aa s σ H _ I h) fun c s1 ⟨H1,I1,q1⟩=>?_);cases c with
 |true=>exact hb wh aa s1 σ H1 Q I1 q1
 |false=>exact⟨H1,I1,q1⟩
def Od (ha:PT X a tA)(hb:PW X (.BoolOp .Or (b::rest) pos) md):PW X (.BoolOp .Or (a::b::rest) pos) (tOr tA md):=by
 intro wh aa s σ H Q I h;refine isTrue_or (thn (ha aa s σ H _ I h) fun c s1 ⟨H1,I1,q1⟩=>?_);cases c with
 |true=>exact⟨H1,I1,q1⟩
 |false=>exact hb wh aa s1 σ H1 Q I1 q1
def O1 (ha:PT X a tA):PT X (.UnaryOp .Not a pos) (tNot tA):=by
 intro aa s σ H Q I h;exact isTrue_not (ha aa s σ H (fun c H1=>Q (!c) H1) I h)
noncomputable def Xd (ta tb:TE):TE:=fun σ H Q=>ta σ H fun x H1=>∃c,x=.bl c/\if c=true then tb σ H1 Q else Q (.bl false) H1
def Xe {op} (h:PE X a t):PE X (.BoolOp op [a] pos) t:=fun aa s σ H Q I hw=>BoolOp_one (h aa s σ H Q I hw)
def Xf (ha:PE X a ta)(hb:PE X (.BoolOp .And (b::rest) pos) tb):PE X (.BoolOp .And (a::b::rest) pos) (Xd ta tb):=by
 intro aa s σ H Q I h;refine BoolOp_and (thn (ha aa s σ H _ I h) fun v s1 ⟨x,H1,I1,r1,q1⟩=>?_);obtain⟨c,rfl,q1⟩:=q1;cases r1;refine xA_ ?_;cases c with
 |true=>exact hb aa s1 σ H1 Q I1 q1
 |false=>exact⟨.bl false,H1,I1,rfl,q1⟩
noncomputable def tIf (t:TT)(ta tb:TE):TE:=fun σ H Q=>t σ H fun c H1=>if c=true then ta σ H1 Q else tb σ H1 Q
def O2 (hc:PT X c tA)(ha:PE X a ta)(hb:PE X b tb):PE X (.IfExp c a b pos) (tIf tA ta tb):=by
 intro aa s σ H Q I h;refine wpAny_IfExp (thn (hc aa s σ H _ I h) fun d s1 ⟨H1,I1,q1⟩=>?_);cases d with
 |true=>exact ha aa s1 σ H1 Q I1 q1
 |false=>exact hb aa s1 σ H1 Q I1 q1
end
end L2
namespace L2
open PySem PySem.Spec PyProof.Rows
noncomputable def SqL (K:α3)(H:Hp)(a:Addr)(xs:List V):Prop:=
 Rd H a (.lst xs) \/
  ∃(o:Obj) (ah:Array Value) (n:Nat),K.lookup a=some o/\o.cls=.type "list" /\ o.dict=none/\o.data=.seq ah n/\ah.size<=sizeLine/\Vals xs ah.toList
noncomputable def SqT (K:α3)(H:Hp)(a:Addr)(xs:List V):Prop:=
 Rd H a (.tup xs) \/
  ∃(o:Obj) (ah:Array Value) (n:Nat),K.lookup a=some o/\o.cls=.type "tuple" /\ o.data=.seq ah n/\ah.size<=sizeLine/\Vals xs ah.toList
noncomputable def absV:Value->Option V
 |.none=>some .non
 |.bool b=>some (.bl b)
 |.int i _=>some (.int i)
 |.str x _=>some (.str x)
 |.bytes b _=>some (.byt b)
 |.float b _=>some (.flt b)
 |.ref a=>some (.ref a)
 |.type n=>some (.ty n)
 |_=>none
def RelV.abs (r:RelV x u):absV u=some x:=by
 cases x with
 |non=>cases r;rfl
 |bl _=>cases r;rfl
 |int _=>obtain⟨t,rfl⟩:=r;rfl
 |str _=>obtain⟨t,rfl⟩:=r;rfl
 |byt _=>obtain⟨t,rfl⟩:=r;rfl
 |flt _=>obtain⟨t,rfl⟩:=r;rfl
 |ref _=>cases r;rfl
 |ty _=>cases r;rfl
def RelV.inj (r:RelV x u)(q:RelV y u):x=y:=ju_ (r.abs.symm.trans q.abs)
def Vals.inj:∀{xs ys:List V} {us:List Value},Vals xs us->Vals ys us->xs=ys
 |_,_,_,.nil,.nil=>rfl
 |_,_,_,.cons r t,.cons r' t'=>by rw[r.inj r',Vals.inj t t']
section
variable {X:Cx} {aa:α7} {σ:St} {H:Hp} {s:Shared} {a:Addr} {xs ys:List V}
def SqL.of {K:α3}(h:H a=some (.lst xs)):SqL K H a xs:=.inl (.inl h)
def SqT.of {K:α3}(h:H a=some (.tup xs)):SqT K H a xs:=.inl (.inl h)
def Inv.list (I:Inv X aa σ H s)(h:SqL X.K H a xs):∃ah:List Value,Vals xs ah/\PlainL s.heap a ah.toArray/\xs.length<=sizeLine:=by
 rcases h with h|⟨o,ah,n,hk,hc,hd,hs,hz,r⟩
 ·obtain⟨z,ah,n,r,e⟩:=h.ok I.hok;exact⟨ah,r,⟨_,n,e,rfl,rfl,rfl⟩,z⟩
 ·refine⟨ah.toList,r,⟨o,n,I.kIn a o hk,hc,hd,by simpa using hs⟩,?_⟩;have e:=r.length;simp only[qt_]at e;lia
def Inv.tuple (I:Inv X aa σ H s)(h:SqT X.K H a xs):∃ah:List Value,Vals xs ah/\IsTup s.heap a ah.toArray/\xs.length<=sizeLine:=by
 rcases h with h|⟨o,ah,n,hk,hc,hs,hz,r⟩
 ·obtain⟨z,ah,r,p⟩:=h.ok I.hok;exact⟨ah,r,p,z⟩
 ·refine⟨ah.toList,r,⟨o,I.kIn a o hk,hc,n,by simpa using hs⟩,?_⟩;have e:=r.length;simp only[qt_]at e;lia
def Inv.list_inj (I:Inv X aa σ H s)(h:SqL X.K H a xs)(h':SqL X.K H a ys):xs=ys:=by
 obtain⟨ah,r,⟨o,n,e,_,_,d⟩,_⟩:=I.list h;obtain⟨its',r',⟨o',n',e',_,_,d'⟩,_⟩:=I.list h';rw[e]at e';cases e';rw[d]at d';injection d' with d1 _;have:ah=its':=by simpa using xd_ sH d1
 subst this;exact r.inj r'
def Inv.tuple_inj (I:Inv X aa σ H s)(h:SqT X.K H a xs)(h':SqT X.K H a ys):xs=ys:=by
 obtain⟨ah,r,⟨o,e,_,n,d⟩,_⟩:=I.tuple h;obtain⟨its',r',⟨o',e',_,n',d'⟩,_⟩:=I.tuple h';rw[e]at e';cases e';rw[d]at d';injection d' with d1 _;have:ah=its':=by simpa using xd_ sH d1
 subst this;exact r.inj r'
end
noncomputable abbrev Cx.wish (X:Cx)(E:Value->Shared->Prop):Cx:={X with xe:=E}
noncomputable abbrev Cx.nox (X:Cx):Cx:=X.wish fun _ _=>False
def Cx.Ok.wish {X:Cx}(ok:X.Ok)(E:Value->Shared->Prop):(X.wish E).Ok:=
 ⟨ok.mod,ok.kind,ok.glob,ok.blt,ok.above,ok.inj,ok.has,ok.cab,ok.hd,ok.frames,ok.stk,ok.exf,ok.bs,ok.bsz,ok.noex,ok.exfs,ok.funs,ok.frf⟩
def Cx.Ok.unwish {X:Cx}{E:Value->Shared->Prop}(ok:(X.wish E).Ok):X.Ok:=
 ⟨ok.mod,ok.kind,ok.glob,ok.blt,ok.above,ok.inj,ok.has,ok.cab,ok.hd,ok.frames,ok.stk,ok.exf,ok.bs,ok.bsz,ok.noex,ok.exfs,ok.funs,ok.frf⟩
section
variable {X:Cx} {aa:α7} {σ:St} {H:Hp} {s:Shared} {E:Value->Shared->Prop}
def Inv.wish (I:Inv X aa σ H s)(E:Value->Shared->Prop):Inv (X.wish E) aa σ H s:=⟨I.ok.wish E,I.os,I.bare,I.base,I.loc,I.cell,I.free,I.freeC,I.pin,I.hok,I.len⟩
def Inv.unwish (I:Inv (X.wish E) aa σ H s):Inv X aa σ H s:=⟨I.ok.unwish,I.os,I.bare,I.base,I.loc,I.cell,I.free,I.freeC,I.pin,I.hok,I.len⟩
def SP.unwish (h:SP (X.wish E) aa D f s'):SP X aa D f s':=by
 cases f with
 |next=>obtain⟨af,H',I,q⟩:=h;exact⟨af,H',I.unwish,q⟩
 |brk=>obtain⟨af,H',I,q⟩:=h;exact⟨af,H',I.unwish,q⟩
 |cont=>obtain⟨af,H',I,q⟩:=h;exact⟨af,H',I.unwish,q⟩
 |ret u=>obtain⟨v,af,H',I,r,q⟩:=h;exact⟨v,af,H',I.unwish,r,q⟩
def PSs.nox {st:List Stmt} (h:PSs X.nox st t):PSs X st t:=fun aa s σ H D I hw=>
 qB_ (h aa s σ H D (I.wish _) hw) (fun _ _ q=>q.unwish) fun _ _ z=>pb z
end
section
variable {X:Cx} {st:Stmt} {rest:List Stmt} {t u:TS} {e:Expr} {te:TE} {pos:Pos}
noncomputable def Xg:TS:=fun D σ H=>D.nx σ H
noncomputable def tSeq (t u:TS):TS:=fun D σ H=>t {D with nx:=u D} σ H
def Au:PSs X [] Xg:=fun _ _ σ H _ I h=>zp_ ⟨σ,H,I,h⟩
def Ac (h1:PS X st t)(h2:PSs X rest u):PSs X (st::rest) (tSeq t u):=by
 intro aa s σ H D I h;refine wpAny_execs_cons (thn (h1 aa s σ H {D with nx:=u D} I h) fun f s1 q=>?_);cases f with
 |next=>
  obtain⟨af,H',I',q⟩:=q;exact h2 aa s1 af H' D I' q
 |ret v=>exact q
 |brk=>exact q
 |cont=>exact q
def Ae (h1:PS X st t):PSs X [st] t:=by
 intro aa s σ H D I h;refine wpAny_execs_cons (thn (h1 aa s σ H D I h) fun f s1 q=>?_);cases f with
 |next=>exact zp_ q
 |ret v=>exact q
 |brk=>exact q
 |cont=>exact q
def Inv.quiet (I:Inv X aa σ H s):interactive X.env=false:=by simp[interactive,I.ok.kind]
noncomputable def Xh (te:TE):TS:=fun D σ H=>te σ H fun _ H1=>D.nx σ H1
def AB (he:PE X e te)(hs:swapsWith e none pos.line X.env=pure false:=by rfl):PS X (.Expr e pos) (Xh te):=by
 intro aa s σ H D I h;exact wpAny_Expr_any (thn (he aa s σ H _ I h) fun v s1 ⟨x,H1,I1,r1,q1⟩=>⟨σ,H1,I1,q1⟩) I.quiet hs
noncomputable def tRet (te:TE):TS:=fun D σ H=>te σ H D.rt
def Am (he:PE X e te):PS X (.Return (some e) pos) (tRet te):=by
 intro aa s σ H D I h;exact wpAny_Return_some (thn (he aa s σ H _ I h) fun v s1 ⟨x,H1,I1,r1,q1⟩=>⟨x,σ,H1,I1,r1,q1⟩)
noncomputable def tIfS (c:TT)(t u:TS):TS:=fun D σ H=>c σ H fun b H1=>if b=true then t D σ H1 else u D σ H1
def AZ (hc:PT X c tc)(ha:PSs X a t)(hb:PSs X b u):PS X (.If c a b pos) (tIfS tc t u):=by
 intro aa s σ H D I h;refine wpAny_If (thn (hc aa s σ H _ I h) fun d s1 ⟨H1,I1,q1⟩=>?_);cases d with
 |true=>exact ha aa s1 σ H1 D I1 q1
 |false=>exact hb aa s1 σ H1 D I1 q1
end
noncomputable abbrev TG:=V->St->Hp->(St->Hp->Prop)->Prop
noncomputable abbrev TGs:=List V->St->Hp->(St->Hp->Prop)->Prop
noncomputable def PG (X:Cx)(bJ:Expr)(t:TG):Prop:=
 ∀(aa:α7) (s:Shared) (σ:St) (H:Hp) (v:V) (u:Value) (Q:St->Hp->Prop),Inv X aa σ H s->RelV v u->t v σ H Q ->
  wpAny (model X.prog X.w) X.A (assign bJ X.env u) (fun _ s'=>∃af H',Inv X aa af H' s'/\Q af H') X.xe s
noncomputable def PGs (X:Cx)(ts:List Expr)(t:TGs):Prop:=
 ∀(aa:α7) (s:Shared) (σ:St) (H:Hp) (vs:List V) (us:List Value) (Q:St->Hp->Prop),Inv X aa σ H s->Vals vs us->t vs σ H Q ->
  wpAny (model X.prog X.w) X.A (assignInOrder ((assignEach ts X.env).map (·.2)) us) (fun _ s'=>∃af H',Inv X aa af H' s'/\Q af H') X.xe s
noncomputable abbrev TIp:=V->V->Hp->VK->Prop
noncomputable def PIp (X:Cx)(op:Operator)(t:TIp):Prop:=
 ∀(aa:α7) (s:Shared) (σ:St) (H:Hp) (x y:V) (v u:Value) (Q:VK),Inv X aa σ H s->RelV x v->RelV y u->t x y H Q ->
  wpAny (model X.prog X.w) X.A (inplaceOp op v u) (EP X aa σ Q) X.xe s
section
variable {X:Cx} {pos:Pos}
noncomputable def IW (i:Nat):TG:=fun v σ H Q=>Q (σ.set i (some v)) H
def Aq (hN:X.N.Nodup)(hi:X.N[i]?=some x)(hx:Loc X.env.scope x)(hf:X.fn x=true\/X.env.scope.names.lookup x=some .local:=by first|exact .inl rfl|exact .inr rfl|assumption):PG X (.Name x pos) (IW i):=by
 intro aa s σ H v u Q I r h;exact wpAny_assign_Name (Kn I hN hi hx r (fun s' I'=>⟨_,H,I',h⟩) hf)
noncomputable def gNil:TGs:=fun vs σ H Q=>vs=[]/\Q σ H
noncomputable def Xi (t:TG)(u:TGs):TGs:=fun vs σ H Q=>∃v r,vs=v::r/\t v σ H fun af H'=>u r af H' Q
def FD:PGs X [] gNil:=by
 intro aa s σ H vs us Q I r h;obtain⟨e,h⟩:=h;subst e;cases r;exact assignInOrder_nil ⟨σ,H,I,h⟩
def Bg (h1:PG X e t)(h2:PGs X es u)
  (hs:(assignEach (e::es) X.env).map (·.2)=assign e X.env::(assignEach es X.env).map (·.2):=by rfl):PGs X (e::es) (Xi t u):=by
 intro aa s σ H vs us Q I r h;obtain⟨v,vr,e1,h⟩:=h;subst e1;cases r with
 |cons r rr=>
  rw[hs];refine assignInOrder_cons (thn (h1 aa s σ H _ _ _ I r h) fun _ s1 ⟨cG,H1,I1,q1⟩=>?_);exact h2 aa s1 cG H1 _ _ Q I1 rr q1
noncomputable def gTup (K:α3)(n:Nat)(t:TGs):TG:=fun v σ H Q=>∃a xs,v=.ref a/\SqT K H a xs/\xs.length=n/\t xs σ H Q
def LP (hc:X.calm=true)(h:PGs X es t)
  (hn:(assignEach es X.env).length=n:=by rfl) (cH:(assignEach es X.env).findIdx? (·.1)=none:=by rfl):PG X (.Tuple es k pos) (gTup X.K n t):=by
 intro aa s σ H v u Q I r hw;obtain⟨a,xs,e1,hq,hl,hw⟩:=hw;subst e1;cases r;obtain⟨ah,rv,ht,hz⟩:=I.tuple hq;refine assign_Tuple_tuple (I.ok.hd hc) ht (by simp[hn,<-hl,rv.length]) cH fun h' hx=>?_;have I1:Inv X aa σ H {s with heap:=h' }:=I.kept (t':=s.toks) fun b o e=>hx b o (jG_ (jl_ e)) e;exact h aa _ σ H xs _ Q I1 (by simpa using rv) hw
noncomputable def tAsg (te:TE)(g:TG):TS:=fun D σ H=>te σ H fun x H1=>g x σ H1 D.nx
def Jw (hN:X.N.Nodup)(hi:X.N[i]?=some x)(hx:Loc X.env.scope x)(he:PE X e te)(hs:swapsWith e (some (.Name x bK)) pos.line X.env=pure false:=by rfl)(hf:X.fn x=true\/X.env.scope.names.lookup x=some .local:=by first|exact .inl rfl|exact .inr rfl|assumption):
  PS X (.Assign [.Name x bK] e pos) (tAsg te (IW i)):=by
 intro aa s σ H D I h;refine wpAny_Assign_Name (thn (he aa s σ H _ I h) fun v s1 ⟨y,H1,I1,r1,q1⟩=>?_) hs;exact Kn I1 hN hi hx r1 (fun s2 I2=>⟨_,H1,I2,q1⟩) hf
noncomputable def tAug (i:Nat)(te:TE)(ti:TIp):TS:=fun D σ H=>∃x,σ[i]?=some (some x)/\te σ H fun y H1=>ti x y H1 fun z H2=>D.nx (σ.set i (some z)) H2
def Xj (hN:X.N.Nodup)(hi:X.N[i]?=some x)(hx:Loc X.env.scope x)(he:PE X e te)(ho:PIp X op ti)(hf:X.fn x=true\/X.env.scope.names.lookup x=some .local:=by first|exact .inl rfl|exact .inr rfl|assumption):
  PS X (.AugAssign (.Name x bK) op e pos) (tAug i te ti):=by
 intro aa s σ H D I h;obtain⟨v,e1,h⟩:=h;obtain⟨m,hn,hl⟩:=I.loc;have kA:Vis X.env.scope x:=by rcases hx with k|k;exact .inl k;exact .inr (.inl k)
 obtain⟨u,r,l⟩:=hl i x v hi e1 kA;refine wpAny_AugAssign_Name ?_;have go:wpAny (model X.prog X.w) X.A (eval e X.env) (fun w br=>wpAny (model X.prog X.w) X.A (inplaceOp op u w) (fun r aY=>wpAny (model X.prog X.w) X.A (storeName X.env x r) (fun _=>SP X aa D .next) X.xe aY) X.xe br) X.xe s:=by
  refine thn (he aa s σ H _ I h) fun w s1 ⟨y,H1,I1,r1,q1⟩=>?_;refine thn (ho aa s1 σ H1 v y u w _ I1 r r1 q1) fun z s2 ⟨zv,H2,I2,r2,q2⟩=>?_;exact Kn I2 hN hi hx r2 (fun s3 I3=>⟨_,H2,I3,q2⟩) hf
 rcases l with ⟨hk,hm⟩|⟨hk,c,hc,eE⟩
 ·exact wpAny_loadName_local I.ok.kind hk hn hm go
 ·rcases hk with hk|hk
  ·exact wpAny_loadName_cell I.ok.kind hk hc eE go
  ·rcases hx with k|k
   ·have:X.env.scope.names.lookup x=some .free:=hk;rw[k]at this;cases this
   ·have:X.env.scope.names.lookup x=some .free:=hk;rw[k]at this;cases this
noncomputable def ipI (f:Int->Int->Int):TIp:=fun x y H Q=>∃i j,x=.int i/\y=.int j/\Q (.int (f i j)) H
def Xk:PIp X .Add (ipI fun i j=>i+j):=by
 intro aa s σ H x y v u Q I r1 r2 h;obtain⟨i,j,e1,e2,q⟩:=h;subst e1;subst e2;obtain⟨t,rfl⟩:=r1;obtain⟨t',rfl⟩:=r2;exact iadd_int ⟨.int _,H,I.tok _,⟨_,rfl⟩,q⟩
end
section
variable {X:Cx} {pos:Pos}
noncomputable def UM (c:TT)(tb:TS):TS:=fun D σ H=>∃W:Nat->St->Hp->Prop,(∃m,W m σ H)/\∀m σ H,W m σ H ->
 c σ H fun b H1=>if b=true then ∃N:St->Hp->Prop,(∀af H',N af H'->∃m',m'<m/\W m' af H')/\tb {D with nx:=N,ct:=N,bk:=D.nx} σ H1 else D.nx σ H1
def Gw (hp:PassesOwn (model X.prog X.w) X.A X.env X.xe)(hc:PT X c tc)(hb:PSs X body tb):PS X (.While c body [] pos) (UM tc tb):=by
 intro aa s σ H D I h;obtain⟨W,⟨m0,w0⟩,ar⟩:=h;refine wpAny_While (codeAny_whileLoop (fun n s'=>∃af H',Inv X aa af H' s'/\W n af H') ?_ m0 ⟨σ,H,I,w0⟩);rintro n s1 ⟨cG,H1,I1,w1⟩;refine xB_ hp (thn (hc aa s1 cG H1 _ I1 (ar n cG H1 w1)) fun b s2 ⟨H2,I2,q2⟩=>?_);cases b with
 |true=>
  obtain⟨N,hN,q2⟩:=q2;rw[if_pos rfl];refine xB_ hp (thn (hb aa s2 cG H2 _ I2 q2) fun f s3 q3=>?_);cases f with
  |next=>
   obtain⟨bA,H3,I3,n3⟩:=q3;obtain⟨m',hm,w3⟩:=hN bA H3 n3;exact⟨m',hm,bA,H3,I3,w3⟩
  |cont=>
   obtain⟨bA,H3,I3,n3⟩:=q3;obtain⟨m',hm,w3⟩:=hN bA H3 n3;exact⟨m',hm,bA,H3,I3,w3⟩
  |brk=>exact q3
  |ret v=>exact q3
 |false=>
  rw[if_neg jj_];exact zp_ ⟨cG,H2,I2,q2⟩
end
structure It where
 go:Nat->Hp->Prop
 yld:Nat->Hp->V->Hp->Prop
 stop:Nat->Hp->Prop
noncomputable def FpOk (X:Cx)(aa:α7)(H:Hp)(b:Addr):Prop:=
 H b=none/\b≠X.env.locals/\b∉X.fs/\(b∈X.ex\/X.s₀.heap.objs.size<=b)/\(∀x c,X.env.cells.lookup x=some c->c≠b)/\∀p∈X.pn++aa,p.1≠b
def Inv.fpOk (I:Inv X aa σ H s)(hb:s.heap.objs.size<=b)(hn:H' b=none):FpOk X aa H' b:=by
 refine⟨hn,j7_ (jt_ I.lt hb),I.nofs hb,.inr (qg_ I.sz hb),fun x c e z=>?_,fun p hp z=>?_⟩
 ·obtain⟨v,q⟩:=I.cell x c e;exact absurd (jt_ q.lt (by rw[z];exact hb)) (j0_ _)
 ·exact absurd (jt_ (jl_ (I.pin p hp).1) (by rw[z];exact hb)) (j0_ _)
structure Turn (P:Program)(w:World)(K:α3)(tg:Expr)(J:It)(fp:List Addr)(it:Addr)(tn:Nat->Heap->Prop):Prop where
 mem:it∈fp
 obj:∀i h,tn i h->∀b∈fp,∃o,h.get? b=some o/\∀v,o.data ≠ .cell v
 keep:∀i h h',tn i h->(∀b∈fp,∀o,h.get? b=some o->h'.get? b=some o)->tn i h'
 item:∀(X:Cx),X.prog=P->X.w=w->X.K=K->X.calm=true->∀(i:Nat) (aa:α7) (s:Shared) (σ:St) (H:Hp) (E:Value->Shared->Prop),Inv X aa σ H s->(∀b∈fp,FpOk X aa H b)->tn i s.heap->J.go i H ->
  wpAny (model P w) X.A (pyNext (.ref it)) (fun r s1=>∃u,r=some u /\
   wpAny (model P w) X.A (letOwnedTupleGo tg (.ref it) u) (fun _ s2=>∃x H',Inv X aa σ H' s2/\RelV x u/\J.yld i H x H'/\tn (i+1) s2.heap/\∀b∈fp,H' b=none) E s1) E s
 done:∀(X:Cx),X.prog=P->X.w=w->X.K=K->X.calm=true->∀(i:Nat) (aa:α7) (s:Shared) (σ:St) (H:Hp) (E:Value->Shared->Prop),Inv X aa σ H s->(∀b∈fp,FpOk X aa H b)->tn i s.heap->J.stop i H ->
  wpAny (model P w) X.A (pyNext (.ref it)) (fun r s1=>r=none/\Inv X aa σ H s1) E s
 self:∀(A:Around) (i:Nat) (s:Shared) (Q:Value->Shared->Prop) (E:Value->Shared->Prop),tn i s.heap->Q (.ref it) s->wpAny (model P w) A (pyIter (.ref it)) Q E s
noncomputable abbrev TI:=St->Hp->(It->Hp->Prop)->Prop
noncomputable def PIE (X:Cx)(aa:α7)(σ:St)(tg:Expr)(R:It->Hp->Prop)(kB:Value)(s2:Shared):Prop:=
 ∃(it:Addr) (fp:List Addr) (tn:Nat->Heap->Prop) (J:It) (H':Hp),kB=.ref it/\Inv X aa σ H' s2/\Turn X.prog X.w X.K tg J fp it tn/\tn 0 s2.heap/\(∀b∈fp,FpOk X aa H' b)/\R J H'
noncomputable def PI (X:Cx)(tg iter:Expr)(wi:TI):Prop:=
 ∀(aa:α7) (s:Shared) (σ:St) (H:Hp) (R:It->Hp->Prop),Inv X aa σ H s->wi σ H R ->
  wpAny (model X.prog X.w) X.A (eval iter X.env) (fun v s1=>wpAny (model X.prog X.w) X.A (pyIter v) (PIE X aa σ tg R) X.xe s1) X.xe s
def QM {it:Addr} (ho:s.heap.get? it=some o)(hc:o.cls=.type n)(hd:o.data=.fields vs)
    (hn:["enumerate","zip","dict_itemiterator","dict_reverseitemiterator","odict_iterator","itertools.zip_longest","itertools.pairwise"].contains n=false) (hQ:Q () s):wpAny M A (letOwnedTupleGo tg (.ref it) u) Q E s:=by
  unfold letOwnedTupleGo;cases tg<;>first
    | exact jf_ hQ
    | (cases u<;>first
        | exact jf_ hQ
        | (refine ja_ (wpAny_load ho ?_)
           rw[hc,hd];show wpAny M A (if (["enumerate","zip","dict_itemiterator","dict_reverseitemiterator","odict_iterator","itertools.zip_longest","itertools.pairwise"].contains n&&vs[0]? == some (rawInt _))=true then _ else _) Q E s;rw[if_neg (by intro h;rw[hn,ql]at h;cases h)];exact jf_ hQ))
noncomputable def Itl (K:α3)(a:Addr):It:=
 ⟨fun i H=>∃xs x,SqL K H a xs/\xs[i]?=some x,fun i H x H'=>H'=H/\∀xs,SqL K H a xs->xs[i]?=some x,fun i H=>∃xs,SqL K H a xs/\xs.length<=i⟩
noncomputable def Itt (K:α3)(a:Addr):It:=
 ⟨fun i H=>∃xs x,SqT K H a xs/\xs[i]?=some x,fun i H x H'=>H'=H/\∀xs,SqT K H a xs->xs[i]?=some x,fun i H=>∃xs,SqT K H a xs/\xs.length<=i⟩
noncomputable def Itr (lo:Int)(n:Nat):It:=⟨fun i _=>i<n,fun i H x H'=>H'=H/\x=.int (lo+i),fun i _=>n<=i⟩
def Na {P:Program}{w:World}{K:α3}{tg:Expr}(a it:Addr):Turn P w K tg (Itl K a) [it] it (fun i h=>h.IsListIter it a i) where
 mem:=by simp
 obj:=fun i h st b hb=>by
  have e:b=it:=by simpa using hb
  subst e;obtain⟨o,e,c,d⟩:=st;exact⟨o,e,fun v z=>by rw[d]at z;cases z⟩
 keep:=fun i h h' st k=>st.at fun o e=>k it (by simp) o e
 item:=by
  intro X hP hw hK hc i aa s σ H E I hf st hg;subst hP hw hK;obtain⟨xs,x,hq,hx⟩:=hg;obtain⟨ah,rv,p,hz⟩:=I.list hq;obtain⟨u,hu,ru⟩:=rv.get hx;obtain⟨f0,f1,f2,f3,f4,f5⟩:=hf it (by simp);refine wpAny_pyNext_list_item st p.isList (x:=u) (by simpa using hu) fun h' cO sb=>?_;have I1:Inv X aa σ H {s with heap:=h' }:=I.turned (t':=s.toks) (fun b o hb e=>(sb.2 b hb).trans e) f0 f1 f3 f4 f5;obtain⟨o,e,c,d⟩:=id cO;exact⟨u,rfl,QM (s:={s with heap:=h' }) e c d (by decide) ⟨x,H,I1,ru,⟨rfl,fun ys hy=>by rw[I.list_inj hy hq];exact hx⟩,cO,fun b hb=>(hf b hb).1⟩⟩
 done:=by
  intro X hP hw hK hc i aa s σ H E I hf st hg;subst hP hw hK;obtain⟨xs,hq,hx⟩:=hg;obtain⟨ah,rv,p,hz⟩:=I.list hq;obtain⟨f0,f1,f2,f3,f4,f5⟩:=hf it (by simp);have hl:=rv.length;exact wpAny_pyNext_list_end (I.ok.hd hc) st p.isList (by simp;lia) fun h' eb=>⟨rfl,I.turned (t':=s.toks) (fun b o hb e=>eb b o hb e) f0 f1 f3 f4 f5⟩
 self:=fun _ _ _ _ _ st h=>wpAny_pyIter_listiter st h
def LQ {P:Program}{w:World}{K:α3}{tg:Expr}(a it:Addr):Turn P w K tg (Itt K a) [it] it (fun i h=>h.IsTupleIter it a i) where
 mem:=by simp
 obj:=fun i h st b hb=>by
  have e:b=it:=by simpa using hb
  subst e;obtain⟨o,e,c,d⟩:=st;exact⟨o,e,fun v z=>by rw[d]at z;cases z⟩
 keep:=fun i h h' st k=>st.at fun o e=>k it (by simp) o e
 item:=by
  intro X hP hw hK hc i aa s σ H E I hf st hg;subst hP hw hK;obtain⟨xs,x,hq,hx⟩:=hg;obtain⟨ah,rv,p,hz⟩:=I.tuple hq;obtain⟨u,hu,ru⟩:=rv.get hx;obtain⟨f0,f1,f2,f3,f4,f5⟩:=hf it (by simp);refine wpAny_pyNext_tuple_item st (show s.heap.IsTuple a ah.toArray from p) (x:=u) (by simpa using hu) fun h' cO sb=>?_;have I1:Inv X aa σ H {s with heap:=h' }:=I.turned (t':=s.toks) (fun b o hb e=>(sb.2 b hb).trans e) f0 f1 f3 f4 f5;obtain⟨o,e,c,d⟩:=id cO;exact⟨u,rfl,QM (s:={s with heap:=h' }) e c d (by decide) ⟨x,H,I1,ru,⟨rfl,fun ys hy=>by rw[I.tuple_inj hy hq];exact hx⟩,cO,fun b hb=>(hf b hb).1⟩⟩
 done:=by
  intro X hP hw hK hc i aa s σ H E I hf st hg;subst hP hw hK;obtain⟨xs,hq,hx⟩:=hg;obtain⟨ah,rv,p,hz⟩:=I.tuple hq;obtain⟨f0,f1,f2,f3,f4,f5⟩:=hf it (by simp);have hl:=rv.length;exact wpAny_pyNext_tuple_end (I.ok.hd hc) st (show s.heap.IsTuple a ah.toArray from p) (by simp;lia) fun h' eb=>⟨rfl,I.turned (t':=s.toks) (fun b o hb e=>eb b o hb e) f0 f1 f3 f4 f5⟩
 self:=fun _ _ _ _ _ st h=>wpAny_pyIter_tupleiter st h
def P6 {P:Program}{w:World}{K:α3}{tg:Expr}(it:Addr)(lo:Int)(n:Nat):Turn P w K tg (Itr lo n) [it] it (fun i h=>IsRangeIter h it (lo+(i:Nat)*1) ((n:Int)-(i:Nat)) 1) where
 mem:=by simp
 obj:=fun i h st b hb=>by
  have e:b=it:=by simpa using hb
  subst e;exact⟨_,st,fun v z=>by
   have z':Data.fields _=Data.cell v:=z;cases z'⟩
 keep:=fun i h h' st k=>k it (by simp) _ st
 item:=by
  intro X hP hw hK hc i aa s σ H E I hf st hg;subst hP hw hK;obtain⟨f0,f1,f2,f3,f4,f5⟩:=hf it (by simp);have W:=Walks.range (prog:=X.prog) (w:=X.w) (I.ok.hd hc) it lo 1 n;refine W.item i s _ _ hg st fun v h' tk hv cO kk=>?_;obtain⟨t,rfl⟩:=hv;have I1:Inv X aa σ H {s with heap:=h',toks:=tk}:=I.turned (fun b o hb e=>kk b o (by simpa using hb) e) f0 f1 f3 f4 f5;refine⟨_,rfl,QM (s:={s with heap:=h',toks:=tk}) (n := "range_iterator") cO rfl rfl (by decide) ⟨.int (lo+i),H,I1,⟨t,?_⟩,⟨rfl,rfl⟩,cO,fun b hb=>(hf b hb).1⟩⟩;rw[wo_]
 done:=by
  intro X hP hw hK hc i aa s σ H E I hf st hg;subst hP hw hK;obtain⟨f0,f1,f2,f3,f4,f5⟩:=hf it (by simp);exact wpAny_pyNext_range_end (I.ok.hd hc) st (by have:n<=i:=hg;lia) fun h' eb=>⟨rfl,I.turned (t':=s.toks) (fun b o hb e=>eb b o hb e) f0 f1 f3 f4 f5⟩
 self:=fun _ _ _ _ _ st h=>wpAny_pyIter_rangeiter st h
end L2
namespace L2
open PySem PySem.Spec PyProof.Rows
section
variable {X:Cx} {tg:Expr}
noncomputable def Xl (K:α3)(tl:TE):TI:=fun σ H R=>tl σ H fun x H1=>∃a,x=.ref a/\(∃xs,SqL K H1 a xs)/\R (Itl K a) H1
noncomputable def iTup (K:α3)(tl:TE):TI:=fun σ H R=>tl σ H fun x H1=>∃a,x=.ref a/\(∃xs,SqT K H1 a xs)/\R (Itt K a) H1
def Br (hl:PE X l tl):PI X tg l (Xl X.K tl):=by
 intro aa s σ H R I h;refine thn (hl aa s σ H _ I h) fun v s1 ⟨x,H1,I1,r1,q1⟩=>?_;obtain⟨a,e,⟨xs,hq⟩,q⟩:=q1;subst e;cases r1;obtain⟨ah,rv,p,hz⟩:=I1.list hq;refine xY_ p.isList ?_;refine⟨s1.heap.objs.size,[s1.heap.objs.size],_,_,H1,rfl,I1.kept (t':=s1.toks) fun b o e=>jd_ _ e,Na a _,⟨_,jp_ _ rfl,rfl,rfl⟩,fun b hb=>?_,q⟩;have e:b=s1.heap.objs.size:=by simpa using hb
 subst e;exact I1.fpOk (jh_ _) (I1.hok.fresh (jh_ _))
def Nb (hl:PE X l tl):PI X tg l (iTup X.K tl):=by
 intro aa s σ H R I h;refine thn (hl aa s σ H _ I h) fun v s1 ⟨x,H1,I1,r1,q1⟩=>?_;obtain⟨a,e,⟨xs,hq⟩,q⟩:=q1;subst e;cases r1;obtain⟨ah,rv,p,hz⟩:=I1.tuple hq;refine xr_ (show s1.heap.IsTuple a ah.toArray from p) ?_;refine⟨s1.heap.objs.size,[s1.heap.objs.size],_,_,H1,rfl,I1.kept (t':=s1.toks) fun b o e=>jd_ _ e,LQ a _,⟨_,jp_ _ rfl,rfl,rfl⟩,fun b hb=>?_,q⟩;have e:b=s1.heap.objs.size:=by simpa using hb
 subst e;exact I1.fpOk (jh_ _) (I1.hok.fresh (jh_ _))
def O3 {lo hi:Int} (I:Inv X aa σ H s)(h1 : -(2 ^ 62)<=lo)(h2:lo<2 ^ 62)(h3 : -(2 ^ 62)<=hi)(h4:hi<2 ^ 62)
  (q:R (Itr lo (hi-lo).toNat) H):wpAny (model X.prog X.w) X.A (pyIter (.ref s.heap.objs.size)) (PIE X aa σ tg R) E {s with heap:=s.heap.push {cls:=.type "range",data:=.fields #[.int lo t,.int hi u,.int 1 v]},toks:=tk}:=by
 refine wpAny_pyIter_range (IsRange.new ..) (small_one h1 h2 h3 h4) ?_;have I1:Inv X aa σ H {s with heap:=s.heap.push {cls:=.type "range",data:=.fields #[.int lo t,.int hi u,.int 1 v]},toks:=tk}:=I.kept fun b o e=>jd_ _ e;refine⟨(s.heap.push {cls:=.type "range",data:=.fields #[.int lo t,.int hi u,.int 1 v]}).objs.size,[(s.heap.push {cls:=.type "range",data:=.fields #[.int lo t,.int hi u,.int 1 v]}).objs.size],_,_,H,rfl,
  I1.kept (t':=tk) fun b o e=>jd_ _ e,P6 _ lo (hi-lo).toNat,?_,fun b hb=>?_,q⟩
 ·have e1:lo+((0:Nat):Int)*1=lo:=by simp
  have e2:(((hi-lo).toNat:Nat):Int)-((0:Nat):Int)=Builtin.Range.rangeSize lo hi 1:=by rw[rangeSize_one];split<;>lia
  show IsRangeIter _ _ (lo+((0:Nat):Int)*1) ((((hi-lo).toNat:Nat):Int)-((0:Nat):Int)) 1;rw[e1,e2];exact jp_ _ rfl
 ·have e:b=(s.heap.push {cls:=.type "range",data:=.fields #[.int lo t,.int hi u,.int 1 v]}).objs.size:=by simpa using hb
  subst e;exact I1.fpOk (jh_ _) (I1.hok.fresh (jh_ _))
noncomputable def Xm (ta:TA):TI:=fun σ H R=>ta σ H fun vs H1=>∃j:Int,vs=[.int j] /\ -(2 ^ 62)<=j/\j<2 ^ 62/\R (Itr 0 j.toNat) H1
noncomputable def Xn (ta:TA):TI:=fun σ H R=>ta σ H fun vs H1=>∃i j:Int,vs=[.int i,.int j]/\(-(2 ^ 62)<=i/\i<2 ^ 62 /\ -(2 ^ 62)<=j/\j<2 ^ 62)/\R (Itr i (j-i).toNat) H1
def Cf (hg:Gl X "range")(hm:X.mg "range"=none)(ha:PA X [a] ta)(hs:starEach [a] X.env=[(false,eval a X.env)]:=by rfl):PI X tg (.Call (.Name "range" p) [a] [] pos) (Xm ta):=by
 intro aa s σ H R I h;refine Call_ (HN I hg hm boot_range (qm_ (thn (ha pos aa s σ H _ I h) fun us s1 ⟨vs,H1,I1,r1,q1⟩=>?_) hs rfl));obtain⟨j,e,q1,q2,q⟩:=q1;subst e;cases r1 with
 |cons r rr=>
  cases rr;obtain⟨t,rfl⟩:=r;exact call_range_1 (O3 I1 s!"" s!"" q1 q2 (by simpa using q))
def Nd (hg:Gl X "range")(hm:X.mg "range"=none)(ha:PA X [a,b] ta)(hs:starEach [a,b] X.env=[(false,eval a X.env),(false,eval b X.env)]:=by rfl)(bB:starEach [b] X.env=[(false,eval b X.env)]:=by rfl):
  PI X tg (.Call (.Name "range" p) [a,b] [] pos) (Xn ta):=by
 intro aa s σ H R I h;refine Call_ (HN I hg hm boot_range (qm_ (thn (ha pos aa s σ H _ I h) fun us s1 ⟨vs,H1,I1,r1,q1⟩=>?_) (by rw[hs,bB]) (by rw[bB];rfl)));obtain⟨i,j,e,⟨q1,q2,q3,q4⟩,q⟩:=q1;subst e;cases r1 with
 |cons r rr=>
  cases rr with
  |cons r' rr=>
   cases rr;obtain⟨t,rfl⟩:=r;obtain⟨t',rfl⟩:=r';exact call_range_2 (O3 I1 q1 q2 q3 q4 q)
noncomputable def tFor (wi:TI)(g:TG)(tb:TS):TS:=fun D σ H=>wi σ H fun J H1=>∃W:Nat->Nat->St->Hp->Prop,(∃m,W 0 m σ H1)/\∀i m σ H,W i m σ H ->
 (J.stop i H/\D.nx σ H)\/(J.go i H/\∃N:St->Hp->Prop,(∀af H',N af H'->∃m',m'<m/\W (i+1) m' af H')/\∀x H',J.yld i H x H'->g x σ H' fun ai H2=>tb {D with nx:=N,ct:=N,bk:=D.nx} ai H2)
noncomputable def LR (fp:List Addr)(h:Heap):α7:=fp.filterMap fun b=>(h.get? b).map fun o=>(b,o)
def Dx (hb:b∈fp)(e:h.get? b=some o):(b,o)∈LR fp h:=wd_.mpr ⟨b,hb,by rw[e];rfl⟩
def QN (hp:p∈LR fp h):p.1∈fp/\h.get? p.1=some p.2:=by
 obtain⟨b,hb,e⟩:=wd_.mp hp;cases q:h.get? b with
 |none=>rw[q]at e;cases e
 |some o=>
  rw[q]at e;have e':(b,o)=p:=ju_ e;subst e';exact⟨hb,q⟩
def Inv.pinned (I:Inv X aa σ H s)(hf:∀b∈fp,FpOk X aa H b)(ho:∀b∈fp,∃o,s.heap.get? b=some o/\∀v,o.data ≠ .cell v):Inv X (aa++LR fp s.heap) σ H s:=
 I.pins_of fun p hp=>(jJ_.mp hp).elim (fun z=>I.pin p (jV_ _ z)) fun z=>by
  obtain⟨hb,e⟩:=QN z;obtain⟨f0,f1,f2,_⟩:=hf p.1 hb;obtain⟨o,e',d⟩:=ho p.1 hb;rw[e]at e';cases e';exact⟨e,f0,f1,f2,d⟩
def Inv.unpinned (I:Inv X (aa++pl) σ H s):Inv X aa σ H s:=I.pins_of fun p hp=>I.pin p (jV_ _ (qf_ _ hp))
def Bx {iter:Expr} {wi:TI} (hp:PassesOwn (model X.prog X.w) X.A X.env X.xe)(hc:X.calm=true)(hi:PI X tg iter wi)(hg:PG X tg g)(hb:PSs X body tb)
  (hs:∀x,foldedSetIterable iter X.env x=pure x:=by intro _;rfl):PS X (.For tg iter body [] pos) (tFor wi g tb):=by
 intro aa s σ H D I h;refine wpAny_For (thn (hi aa s σ H _ I h) fun v s1 h1=>thn h1 fun kB s2 h2=>?_) hs;obtain⟨it,fp,tn,J,H2,e,I2,T,gQ,f2,W,⟨m0,w0⟩,ar⟩:=h2;subst e
 -- what stays true of fh iterator's objects through fh loop
 have cP:∀{H':Hp},(∀b∈fp,H' b=none)->∀b∈fp,FpOk X aa H' b:=fun hn b hb=>⟨hn b hb,(f2 b hb).2⟩;refine codeAny_forLoop_any (fun n s'=>∃i af H',Inv X aa af H' s'/\tn i s'.heap/\(∀b∈fp,H' b=none)/\W i n af H') ?_ m0 ⟨0,σ,H2,I2,gQ,fun b hb=>(f2 b hb).1,w0⟩;rintro n s3 ⟨i,bA,H3,I3,iG,jR,w3⟩;rcases ar i n bA H3 w3 with ⟨stop,qn⟩|⟨go,N,hN,step⟩
 ·refine xB_ hp (thn (T.done X rfl rfl rfl hc i aa s3 bA H3 X.xe I3 (cP jR) iG stop) fun r s4 ⟨hr,I4⟩=>?_);subst hr;exact zp_ ⟨bA,H3,I4,qn⟩
 ·refine xB_ hp (thn (T.item X rfl rfl rfl hc i aa s3 bA H3 X.xe I3 (cP jR) iG go) fun r s4 ⟨u,hr,h4⟩=>?_);subst hr;refine xB_ hp (thn h4 fun _ s5 ⟨x,H5,I5,r5,y5,eP,kF⟩=>?_);have kH:=I5.pinned (cP kF) (T.obj _ _ eP);refine xB_ hp (thn (hg _ s5 bA H5 x u _ kH r5 (step x H5 y5)) fun _ s6 ⟨dO,H6,I6,q6⟩=>?_);refine xB_ hp (thn (hb _ s6 dO H6 _ I6 q6) fun f s7 q7=>?_);have again:∀{di:St} {H7:Hp},Inv X (aa++LR fp s5.heap) di H7 s7->N di H7->∃m,m<n/\∃i af H',Inv X aa af H' s7/\tn i s7.heap/\(∀b∈fp,H' b=none)/\W i m af H':=fun {di H7} I7 n7=>by
   obtain⟨m',hm,w7⟩:=hN di H7 n7;refine⟨m',hm,i+1,di,H7,I7.unpinned,T.keep _ _ _ eP fun b hb o e=>(I7.pin (b,o) (jV_ _ (jV_ _ (Dx hb e)))).1,fun b hb=>?_,w7⟩;obtain⟨o,e,d⟩:=T.obj _ _ eP b hb;exact (I7.pin (b,o) (jV_ _ (jV_ _ (Dx hb e)))).2.1
  cases f with
  |next=>obtain⟨di,H7,I7,n7⟩:=q7;exact again I7 n7
  |cont=>obtain⟨di,H7,I7,n7⟩:=q7;exact again I7 n7
  |brk=>obtain⟨di,H7,I7,q7⟩:=q7;exact⟨di,H7,I7.unpinned,q7⟩
  |ret v=>obtain⟨x7,di,H7,I7,r7,q7⟩:=q7;exact⟨x7,di,H7,I7.unpinned,r7,q7⟩
end
def Td {K:α3}{a:Addr}{xs:List V}{g:TG}{tb:TS}{D:Ends}{σ:St}{H:Hp}(Pv:Nat->St->Hp->Prop)(h0:Pv 0 σ H)(hl:∀i σ H,i<=xs.length->Pv i σ H->SqL K H a xs)
  (hs:∀i x σ H,xs[i]?=some x->Pv i σ H->g x σ H fun ai H2=>tb {D with nx:=Pv (i+1),ct:=Pv (i+1),bk:=D.nx} ai H2) (hd:∀σ H,Pv xs.length σ H->D.nx σ H):
  ∃W:Nat->Nat->St->Hp->Prop,(∃m,W 0 m σ H)/\∀i m σ H,W i m σ H ->
   ((Itl K a).stop i H/\D.nx σ H)\/((Itl K a).go i H/\∃N:St->Hp->Prop,(∀af H',N af H'->∃m',m'<m/\W (i+1) m' af H')/\∀x H',(Itl K a).yld i H x H'->g x σ H' fun ai H2=>tb {D with nx:=N,ct:=N,bk:=D.nx} ai H2):=by
 refine⟨fun i m σ H=>m=xs.length-i/\i<=xs.length/\Pv i σ H,⟨xs.length,by simp,qc_ _,h0⟩,?_⟩;rintro i m σ H ⟨rfl,hi,p⟩;have q:=hl i σ H hi p;by_cases aH:i<xs.length
 ·refine .inr ⟨⟨xs,xs[i],q,by simp[aH]⟩,Pv (i+1),fun af H' p'=>⟨xs.length-(i+1),by lia,rfl,aH,p'⟩,fun x H' y=>?_⟩;obtain⟨e,y⟩:=y;subst e;exact hs i x σ _ (y xs q) p
 ·have e:i=xs.length:=by lia
  subst e;exact .inl ⟨⟨xs,q,jh_ _⟩,hd σ H p⟩
def VZ {K:α3}{a:Addr}{xs:List V}{g:TG}{tb:TS}{D:Ends}{σ:St}{H:Hp}(Pv:Nat->St->Hp->Prop)(h0:Pv 0 σ H)(hl:∀i σ H,i<=xs.length->Pv i σ H->SqT K H a xs)
  (hs:∀i x σ H,xs[i]?=some x->Pv i σ H->g x σ H fun ai H2=>tb {D with nx:=Pv (i+1),ct:=Pv (i+1),bk:=D.nx} ai H2) (hd:∀σ H,Pv xs.length σ H->D.nx σ H):
  ∃W:Nat->Nat->St->Hp->Prop,(∃m,W 0 m σ H)/\∀i m σ H,W i m σ H ->
   ((Itt K a).stop i H/\D.nx σ H)\/((Itt K a).go i H/\∃N:St->Hp->Prop,(∀af H',N af H'->∃m',m'<m/\W (i+1) m' af H')/\∀x H',(Itt K a).yld i H x H'->g x σ H' fun ai H2=>tb {D with nx:=N,ct:=N,bk:=D.nx} ai H2):=by
 refine⟨fun i m σ H=>m=xs.length-i/\i<=xs.length/\Pv i σ H,⟨xs.length,by simp,qc_ _,h0⟩,?_⟩;rintro i m σ H ⟨rfl,hi,p⟩;have q:=hl i σ H hi p;by_cases aH:i<xs.length
 ·refine .inr ⟨⟨xs,xs[i],q,by simp[aH]⟩,Pv (i+1),fun af H' p'=>⟨xs.length-(i+1),by lia,rfl,aH,p'⟩,fun x H' y=>?_⟩;obtain⟨e,y⟩:=y;subst e;exact hs i x σ _ (y xs q) p
 ·have e:i=xs.length:=by lia
  subst e;exact .inl ⟨⟨xs,q,jh_ _⟩,hd σ H p⟩
def QO {lo:Int}{n:Nat}{g:TG}{tb:TS}{D:Ends}{σ:St}{H:Hp}(Pv:Nat->St->Hp->Prop)(h0:Pv 0 σ H)
  (hs:∀i σ H,i<n->Pv i σ H->g (.int (lo+i)) σ H fun ai H2=>tb {D with nx:=Pv (i+1),ct:=Pv (i+1),bk:=D.nx} ai H2) (hd:∀σ H,Pv n σ H->D.nx σ H):
  ∃W:Nat->Nat->St->Hp->Prop,(∃m,W 0 m σ H)/\∀i m σ H,W i m σ H ->
   ((Itr lo n).stop i H/\D.nx σ H)\/((Itr lo n).go i H/\∃N:St->Hp->Prop,(∀af H',N af H'->∃m',m'<m/\W (i+1) m' af H')/\∀x H',(Itr lo n).yld i H x H'->g x σ H' fun ai H2=>tb {D with nx:=N,ct:=N,bk:=D.nx} ai H2):=by
 refine⟨fun i m σ H=>m=n-i/\i<=n/\Pv i σ H,⟨n,by simp,qc_ _,h0⟩,?_⟩;rintro i m σ H ⟨rfl,hi,p⟩;by_cases aH:i<n
 ·refine .inr ⟨aH,Pv (i+1),fun af H' p'=>⟨n-(i+1),by lia,rfl,aH,p'⟩,fun x H' y=>?_⟩;obtain⟨e,y⟩:=y;subst e y;exact hs i σ _ aH p
 ·have e:i=n:=by lia
  subst e;exact .inl ⟨jh_ _,hd σ H p⟩
end L2
namespace L2
open PySem PySem.Spec PyProof.Rows
noncomputable abbrev R2:=V->V->Hp->VK->Prop
noncomputable def OpR (X:Cx)(f:Value->Value->Sem Value)(r:R2):Prop:=
 ∀(aa:α7) (s:Shared) (σ:St) (H:Hp) (x y:V) (v u:Value) (Q:VK),Inv X aa σ H s->RelV x v->RelV y u->r x y H Q ->
  wpAny (model X.prog X.w) X.A (f v u) (EP X aa σ Q) X.xe s
noncomputable def UnR (X:Cx)(f:Value->Sem Value)(r:V->Hp->VK->Prop):Prop:=
 ∀(aa:α7) (s:Shared) (σ:St) (H:Hp) (x:V) (v:Value) (Q:VK),Inv X aa σ H s->RelV x v->r x H Q ->
  wpAny (model X.prog X.w) X.A (f v) (EP X aa σ Q) X.xe s
noncomputable def Er (X:Cx)(f:Value)(r:List V->Hp->VK->Prop):Prop:=
 ∀(aa:α7) (s:Shared) (σ:St) (H:Hp) (xs:List V) (us:List Value) (Q:VK),Inv X aa σ H s->Vals xs us->r xs H Q ->
  wpAny (model X.prog X.w) X.A (call f us) (EP X aa σ Q) X.xe s
noncomputable def tOp (r:R2)(ta tb:TE):TE:=fun σ H Q=>ta σ H fun x H1=>tb σ H1 fun y H2=>r x y H2 Q
noncomputable def tUn (r:V->Hp->VK->Prop)(ta:TE):TE:=fun σ H Q=>ta σ H fun x H1=>r x H1 Q
noncomputable def rI (C:Int->Int->Prop)(g:Int->Int->V):R2:=fun x y H Q=>∃i j,x=.int i/\y=.int j/\C i j/\Q (g i j) H
noncomputable def rI0 (g:Int->Int->V):R2:=fun x y H Q=>∃i j,x=.int i/\y=.int j/\Q (g i j) H
noncomputable def rU (g:Int->V):V->Hp->VK->Prop:=fun x H Q=>∃i,x=.int i/\Q (g i) H
section
variable {X:Cx} {a b c:Expr} {ta tb tc:TE} {pos:Pos}
def binT (ha:PE X a ta)(hb:PE X b tb){aa:α7}{s:Shared}{σ:St}{H:Hp}{R:V->V->Hp->Prop}(I:Inv X aa σ H s)
  (h:ta σ H fun x H1=>tb σ H1 fun y H2=>R x y H2) {Q:Value->Shared->Prop} {f:Value->Value->Sem Value}
  (hf:∀v u s2 x y H2,Inv X aa σ H2 s2->RelV x v->RelV y u->R x y H2->wpAny (model X.prog X.w) X.A (f v u) Q X.xe s2):
  wpAny (model X.prog X.w) X.A (eval a X.env) (fun v s₁=>wpAny (model X.prog X.w) X.A (eval b X.env) (fun u br=>wpAny (model X.prog X.w) X.A (f v u) Q X.xe br) X.xe s₁) X.xe s:=by
 refine thn (ha aa s σ H _ I h) fun v s1 ⟨x,H1,I1,r1,q1⟩=>?_;refine thn (hb aa s1 σ H1 _ I1 q1) fun u s2 ⟨y,H2,I2,r2,q2⟩=>?_;exact hf v u s2 x y H2 I2 r1 r2 q2
def Ar (ho:OpR X (binaryOp op) r)(ha:PE X a ta)(hb:PE X b tb):PE X (.BinOp a op b pos) (tOp r ta tb):=by
 intro aa s σ H Q I h;exact wpAny_BinOp (binT ha hb I h fun v u s2 x y H2 I2 rx ry q=>ho aa s2 σ H2 x y v u Q I2 rx ry q)
def Lz (ho:UnR X (unaryOp op) r)(ha:PE X a ta):PE X (.UnaryOp op a pos) (tUn r ta):=by
 intro aa s σ H Q I h;exact UnaryOp_ (thn (ha aa s σ H _ I h) fun v s1 ⟨x,H1,I1,r1,q1⟩=>ho aa s1 σ H1 x v Q I1 r1 q1)
def opI {f:Value->Value->Sem Value}{C:Int->Int->Prop}{g:Int->Int->Int}
  (rule:∀(i j:Int) (t u:Tok) (s:Shared) (Q:Value->Shared->Prop) (E:Value->Shared->Prop),C i j->Q (.int (g i j) s.toks) {s with toks:=s.toks+1}->wpAny (model X.prog X.w) X.A (f (.int i t) (.int j u)) Q E s):
  OpR X f (rI C fun i j=>.int (g i j)):=by
 intro aa s σ H x y v u Q I rx ry h;obtain⟨i,j,rfl,rfl,hc,q⟩:=h;obtain⟨t,rfl⟩:=rx;obtain⟨t',rfl⟩:=ry;exact rule i j t t' s _ _ hc ⟨.int (g i j),H,I.tok _,⟨_,rfl⟩,q⟩
def opI0 {f:Value->Value->Sem Value}{g:Int->Int->Int}
  (rule:∀(i j:Int) (t u:Tok) (s:Shared) (Q:Value->Shared->Prop) (E:Value->Shared->Prop),Q (.int (g i j) s.toks) {s with toks:=s.toks+1}->wpAny (model X.prog X.w) X.A (f (.int i t) (.int j u)) Q E s):
  OpR X f (rI0 fun i j=>.int (g i j)):=by
 intro aa s σ H x y v u Q I rx ry h;obtain⟨i,j,rfl,rfl,q⟩:=h;obtain⟨t,rfl⟩:=rx;obtain⟨t',rfl⟩:=ry;exact rule i j t t' s _ _ ⟨.int (g i j),H,I.tok _,⟨_,rfl⟩,q⟩
def opB0 {f:Value->Value->Sem Value}{g:Int->Int->Bool}
  (rule:∀(i j:Int) (t u:Tok) (s:Shared) (Q:Value->Shared->Prop) (E:Value->Shared->Prop),Q (.bool (g i j)) s->wpAny (model X.prog X.w) X.A (f (.int i t) (.int j u)) Q E s):
  OpR X f (rI0 fun i j=>.bl (g i j)):=by
 intro aa s σ H x y v u Q I rx ry h;obtain⟨i,j,rfl,rfl,q⟩:=h;obtain⟨t,rfl⟩:=rx;obtain⟨t',rfl⟩:=ry;exact rule i j t t' s _ _ ⟨.bl (g i j),H,I,rfl,q⟩
noncomputable def CDiv (i j:Int):Prop:=0<j/\j<1073741824
noncomputable def CPow (i j:Int):Prop:=0<=j/\j<=1000000/\i.natAbs<2 ^ 64
noncomputable def CMul (i j:Int):Prop:=(-(2 ^ 64)<i/\i<2 ^ 64)\/(-(2 ^ 64)<j/\j<2 ^ 64)
def CMul.ok (h:CMul i j):IntMulOk i j:=by
 rcases h with ⟨h1,h2⟩|⟨h1,h2⟩
 ·exact .of_left (intBits_le_64 h1 h2)
 ·exact .of_right (intBits_le_64 h1 h2)
def Bl:OpR X (binaryOp .Add) (rI0 fun i j=>.int (i+j)):=opI0 fun _ _ _ _ _ _ _ q=>add_int q
def Nf:OpR X (binaryOp .Sub) (rI0 fun i j=>.int (i-j)):=opI0 fun _ _ _ _ _ _ _ q=>sub_int q
def Fd:OpR X (binaryOp .Mult) (rI CMul fun i j=>.int (i*j)):=opI fun _ _ _ _ _ _ _ hc q=>mul_int q hc.ok
def IX:OpR X (binaryOp .FloorDiv) (rI CDiv fun i j=>.int (i / j)):=opI fun i j _ _ _ _ _ hc q=>by
 have h1:(0:Int)<j:=hc.1;have h2:j<1073741824:=hc.2;exact floordiv_int s!"" (by rw[pH i s!""];exact q) (.inl (PyProof.noPylong_small s!""))
def A0:OpR X (binaryOp .Mod) (rI (fun _ j=>0<j) fun i j=>.int (i%j)):=opI fun i j _ _ _ _ _ hc q=>by
 have h1:(0:Int)<j:=hc;exact mod_int' s!"" (by rw[Int.fmod_eq_emod_of_nonneg i s!""];exact q)
def UN:OpR X (binaryOp .Pow) (rI CPow fun i j=>.int (i ^ j.toNat)):=opI fun _ _ _ _ _ _ _ hc q=>pow_int_small hc.1 hc.2.1 hc.2.2 q
def unI {f:Value->Sem Value}{g:Int->Int}
  (rule:∀(i:Int) (t:Tok) (s:Shared) (Q:Value->Shared->Prop) (E:Value->Shared->Prop),Q (.int (g i) s.toks) {s with toks:=s.toks+1}->wpAny (model X.prog X.w) X.A (f (.int i t)) Q E s):
  UnR X f (rU fun i=>.int (g i)):=by
 intro aa s σ H x v Q I rx h;obtain⟨i,rfl,q⟩:=h;obtain⟨t,rfl⟩:=rx;exact rule i t s _ _ ⟨.int (g i),H,I.tok _,⟨_,rfl⟩,q⟩
def GP:UnR X (unaryOp .USub) (rU fun i=>.int (-i)):=unI fun _ _ _ _ _ q=>neg_int q
end
noncomputable def scal:V->V->Bool
 |.non,.non=>true | .non,.int _=>true | .int _,.non=>true | .non,.bl _=>true | .bl _,.non=>true | .non,.str _=>true | .str _,.non=>true
 |.int _,.int _=>true | .bl _,.bl _=>true | .str _,.str _=>true | .byt _,.byt _=>true
 |.int _,.str _=>true | .str _,.int _=>true | .bl _,.str _=>true | .str _,.bl _=>true
 |_,_=>false
noncomputable def rEq:R2:=fun x y H Q=>scal x y=true/\Q (.bl (decide (x=y))) H
noncomputable def rNe:R2:=fun x y H Q=>scal x y=true/\Q (.bl (!decide (x=y))) H
def QP : decide (V.int i=V.int j)=(i==j):=by
 rw[qX_];simp
def UO : decide (V.bl i=V.bl j)=(i==j):=by
 rw[qX_];simp
def QQ : decide (V.str i=V.str j)=(i==j):=by
 rw[qX_];simp
def QR : decide (V.byt i=V.byt j)=(i.toList==j.toList):=by
 rw[qX_];cases i;cases j;simp
section
variable {X:Cx} {a b c:Expr} {ta tb tc:TE} {pos:Pos}
def A4 (I:Inv X aa σ H s)(q:Q (.bl k) H)(e:k=k'):EP X aa σ Q (.bool k') s:=by
 subst e;exact⟨.bl k,H,I,rfl,q⟩
def GG:OpR X (compareOp .Eq) rEq:=by
 intro aa s σ H x y v u Q I rx ry h;obtain⟨hs,q⟩:=h;cases x with
 |non=>
  cases rx;cases y with
  |non=>cases ry;exact rK (A4 I q (by simp))
  |bl j=>cases ry;exact rL (A4 I q (by simp))
  |int j=>obtain⟨t',rfl⟩:=ry;exact rV (A4 I q (by simp))
  |str j=>obtain⟨t',rfl⟩:=ry;exact rW (A4 I q (by simp))
  |_=>exact absurd (show false=true from hs) jj_
 |bl i=>
  cases rx;cases y with
  |non=>cases ry;exact rM (A4 I q (by simp))
  |bl j=>cases ry;exact eq_bool (A4 I q UO)
  |str j=>obtain⟨t',rfl⟩:=ry;exact rN (A4 I q (by simp))
  |_=>exact absurd (show false=true from hs) jj_
 |int i=>
  obtain⟨t,rfl⟩:=rx;cases y with
  |non=>cases ry;exact rX (A4 I q (by simp))
  |int j=>obtain⟨t',rfl⟩:=ry;exact eq_int (A4 I q QP)
  |str j=>obtain⟨t',rfl⟩:=ry;exact rY (A4 I q (by simp))
  |_=>exact absurd (show false=true from hs) jj_
 |str i=>
  obtain⟨t,rfl⟩:=rx;cases y with
  |non=>cases ry;exact rZ (A4 I q (by simp))
  |bl j=>cases ry;exact rO (A4 I q (by simp))
  |int j=>obtain⟨t',rfl⟩:=ry;exact r6 (A4 I q (by simp))
  |str j=>obtain⟨t',rfl⟩:=ry;exact eq_str (A4 I q QQ)
  |_=>exact absurd (show false=true from hs) jj_
 |byt i=>
  obtain⟨t,rfl⟩:=rx;cases y with
  |byt j=>obtain⟨t',rfl⟩:=ry;exact ua (A4 I q QR)
  |_=>exact absurd (show false=true from hs) jj_
 |_=>cases y<;>exact absurd (show false=true from hs) jj_
def Dk:OpR X (compareOp .NotEq) rNe:=by
 intro aa s σ H x y v u Q I rx ry h;obtain⟨hs,q⟩:=h;cases x with
 |non=>
  cases rx;cases y with
  |non=>cases ry;exact rP (A4 I q (by simp))
  |bl j=>cases ry;exact rQ (A4 I q (by simp))
  |int j=>obtain⟨t',rfl⟩:=ry;exact r9 (A4 I q (by simp))
  |str j=>obtain⟨t',rfl⟩:=ry;exact sd (A4 I q (by simp))
  |_=>exact absurd (show false=true from hs) jj_
 |bl i=>
  cases rx;cases y with
  |non=>cases ry;exact rR (A4 I q (by simp))
  |bl j=>cases ry;exact ne_bool (A4 I q (xd_ not UO))
  |str j=>obtain⟨t',rfl⟩:=ry;exact rS (A4 I q (by simp))
  |_=>exact absurd (show false=true from hs) jj_
 |int i=>
  obtain⟨t,rfl⟩:=rx;cases y with
  |non=>cases ry;exact se (A4 I q (by simp))
  |int j=>obtain⟨t',rfl⟩:=ry;exact ne_int (A4 I q (xd_ not QP))
  |str j=>obtain⟨t',rfl⟩:=ry;exact sf (A4 I q (by simp))
  |_=>exact absurd (show false=true from hs) jj_
 |str i=>
  obtain⟨t,rfl⟩:=rx;cases y with
  |non=>cases ry;exact si (A4 I q (by simp))
  |bl j=>cases ry;exact rT (A4 I q (by simp))
  |int j=>obtain⟨t',rfl⟩:=ry;exact sj (A4 I q (by simp))
  |str j=>obtain⟨t',rfl⟩:=ry;exact ne_str (A4 I q (xd_ not QQ))
  |_=>exact absurd (show false=true from hs) jj_
 |byt i=>
  obtain⟨t,rfl⟩:=rx;cases y with
  |byt j=>obtain⟨t',rfl⟩:=ry;exact ub (A4 I q (xd_ not QR))
  |_=>exact absurd (show false=true from hs) jj_
 |_=>cases y<;>exact absurd (show false=true from hs) jj_
def QT:OpR X (compareOp .Lt) (rI0 fun i j=>.bl (decide (i<j))):=opB0 fun _ _ _ _ _ _ _ q=>lt_int q
def Xo:OpR X (compareOp .LtE) (rI0 fun i j=>.bl (decide (i<=j))):=opB0 fun _ _ _ _ _ _ _ q=>le_int q
def V0:OpR X (compareOp .Gt) (rI0 fun i j=>.bl (decide (j<i))):=opB0 fun _ _ _ _ _ _ _ q=>gt_int q
def Ng:OpR X (compareOp .Is) (fun x y H Q=>y=.non/\Q (.bl (decide (x=.non))) H):=by
 intro aa s σ H x y v u Q I rx ry h;obtain⟨rfl,q⟩:=h;cases ry;refine is_none_gen (A4 I q ?_);cases x<;>first
  | (cases rx;rfl)
  | (obtain⟨t,rfl⟩:=rx;rfl)
def QU:OpR X (compareOp .IsNot) (fun x y H Q=>y=.non/\Q (.bl (!decide (x=.non))) H):=by
 intro aa s σ H x y v u Q I rx ry h;obtain⟨rfl,q⟩:=h;cases ry;refine isnot_none_gen (A4 I q ?_);cases x<;>first
  | (cases rx;rfl)
  | (obtain⟨t,rfl⟩:=rx;rfl)
def Av (b:Expr) (h:op ≠ .In:=by decide)(h2:op ≠ .NotIn:=by decide):behindInMarks op b=false:=by
 have e1:(op==CmpOp.In)=false:=by cases op<;>first|rfl|exact absurd rfl h
 have e2:(op==CmpOp.NotIn)=false:=by cases op<;>first|rfl|exact absurd rfl h2
 cases b<;>simp[behindInMarks,e1,e2]
def Oe (ho:OpR X (compareOp op) r)(ha:PE X a ta)(hb:PE X b tb)(hm:behindInMarks op b=false):PE X (.Compare a [op] [b] pos) (tOp r ta tb):=by
 intro aa s σ H Q I h;exact wpAny_Compare1 (binT ha hb I h fun v u s2 x y H2 I2 rx ry q=>ho aa s2 σ H2 x y v u Q I2 rx ry q) hm
noncomputable def Te (t:TE):TT:=fun σ H Q=>t σ H fun x H'=>∃k,x=.bl k/\Q k H'
def Ap (ho:OpR X (compareOp op) r)(ha:PE X a ta)(hb:PE X b tb)(hm:behindInMarks op b=false):PT X (.Compare a [op] [b] pos) (Te (tOp r ta tb)):=by
 intro aa s σ H Q I h;refine wpAny_isTrue_Compare1 (thn (ha aa s σ H _ I h) fun v s1 ⟨x,H1,I1,r1,q1⟩=>thn (hb aa s1 σ H1 _ I1 q1) fun u s2 ⟨y,H2,I2,r2,q2⟩ =>
  thn (ho aa s2 σ H2 x y v u _ I2 r1 r2 q2) fun c s3 ⟨z,H3,I3,r3,k,e,q3⟩=>?_) hm
 subst e;cases r3;exact xA_ ⟨H3,I3,q3⟩
noncomputable def UP (r r':R2)(ta tb tc:TE):TE:=fun σ H Q=>ta σ H fun x H1=>tb σ H1 fun y H2=>r x y H2 fun z H3=>∃k,z=.bl k /\
 (if k=true then tc σ H3 fun w' H4=>r' y w' H4 Q else Q (.bl false) H3)
def O4 (ho:OpR X (compareOp op) r)(cF:OpR X (compareOp op') r')(ha:PE X a ta)(hb:PE X b tb)(hc:PE X c tc)
  (hm:lastMarks [op,op'] [b,c]=false:=by with_unfolding_all rfl):PE X (.Compare a [op,op'] [b,c] pos) (UP r r' ta tb tc):=by
 intro aa s σ H Q I h;refine Compare_chain (thn (ha aa s σ H _ I h) fun v s1 ⟨x,H1,I1,r1,q1⟩=>chain_link (thn (hb aa s1 σ H1 _ I1 q1) fun u s2 ⟨y,H2,I2,r2,q2⟩ =>
  thn (ho aa s2 σ H2 x y v u _ I2 r1 r2 q2) fun d s3 ⟨z,H3,I3,r3,k,e,q3⟩=>?_)) hm
 subst e;cases r3;refine xA_ ?_;cases k with
 |false=>exact ite_ff ⟨.bl false,H3,I3,rfl,q3⟩
 |true=>exact ite_tt (chain_last (thn (hc aa s3 σ H3 _ I3 q3) fun w' s4 ⟨z',H4,I4,r4,q4⟩=>cF aa s4 σ H4 y z' u w' Q I4 r2 r4 q4))
def QV:(sizeLine:Nat)<2 ^ 63:=by rw[zI_];decide
def Dy:OpR X (binaryOp .Add) (fun x y H Q=>∃i j,x=.str i/\y=.str j/\i.length+j.length<=sizeLine/\Q (.str (i++j)) H):=by
 intro aa s σ H x y v u Q I rx ry h;obtain⟨i,j,rfl,rfl,hz,q⟩:=h;obtain⟨t,rfl⟩:=rx;obtain⟨t',rfl⟩:=ry;exact add_str (fun t' tk=>⟨.str (i++j),H,I.tok _,⟨_,rfl⟩,q⟩) hz
def vals1 (r:Vals [x] us):∃u,us=[u]/\RelV x u:=by
 cases r with
 |cons r1 r2=>cases r2;exact⟨_,rfl,r1⟩
def vals2 (r:Vals [x,y] us):∃u w',us=[u,w']/\RelV x u/\RelV y w':=by
 cases r with
 |cons r1 r2=>
  cases r2 with
  |cons r3 r4=>cases r4;exact⟨_,_,rfl,r1,r3⟩
def QW (hc:X.calm=true):Er X (.builtin "max") (fun xs H Q=>∃i j,xs=[.int i,.int j]/\Q (.int (if j > i then j else i)) H):=by
 intro aa s σ H xs us Q I r h;obtain⟨i,j,rfl,q⟩:=h;obtain⟨u,w',rfl,⟨t,rfl⟩,⟨t',rfl⟩⟩:=vals2 r;refine max_two_ints (I.ok.hd hc) fun h' tk k=>⟨_,H,I.kept k,?_,q⟩;by_cases hj:j > i
 ·rw[if_pos hj,if_pos hj];exact⟨_,rfl⟩
 ·rw[if_neg hj,if_neg hj];exact⟨_,rfl⟩
end
end L2
namespace L2
open PySem PySem.Spec PyProof.Rows
structure ObjM (h:Heap)(x dx C:Addr)(mA:Str->α5):Prop where
 obj:h.get? x=some (pq C dx)
 ns:h.Ns1 dx mA
 ne:dx≠x
def QX {h:Heap}{dx:Addr}{mA:Str->α5}(n:h.Ns1 dx mA):∃od,h.get? dx=some od/\∀name,pI name od=some (mA name):=by
 obtain⟨o,es,ep,ho,hd,hk,_,hm⟩:=n;refine⟨o,ho,fun name=>?_⟩;have e:=hm name;unfold nsFind findBy at e;rw[<-Array.find?_toList]at e;unfold pI;rw[hd];dsimp only;split
 ·rename_i y q
  rw[q]at e;exact xd_ some e
 ·rename_i q
  rw[q]at e;have a:es.toList.any (·.refKey)=false:=by
   rw[List.any_eq_false];intro y hy;obtain⟨z,t,dP⟩:=hk y (Array.mem_toList_iff.mp hy);simp[DictEntry.refKey,dP]
  have a':¬ es.toList.any (·.refKey)=true:=by rw[a];exact jj_
  rw[if_neg a'];exact xd_ some e
def ObjM.look (I:ObjM h x dx C mA):∃od,uz h x (pq C dx) C (some od)/\∀name,pI name od=some (mA name):=
 let ⟨od,ho,hl⟩:=QX I.ns
 ⟨od,⟨I.obj,rfl,rfl,ho⟩,hl⟩
section
variable {prog:Program} {w:World} {A:Around} {E:Value->Shared->Prop} {s:Shared} {K:α3} {x dx C f:Addr} {mA:Str->α5} {name:Str} {v:Value}
def V1 (X:K.In s.heap)(I:ObjM s.heap x dx C mA)(hg:pA K C name=true)(hh:pD K C=true)
  (ha:oY K (.ref C) name=some none) (hv:mA name=some v) (hv':ra v=true) (h:Q v {s with toks:=s.toks+1}):
  wpAny (model prog w) A (getAttr (.ref x) name expr) Q E s:=by
 obtain⟨od,J,hl⟩:=I.look;exact tS X J (z8_ hg).1 (tK hh ha rfl (by rw[hl,hv])) hv' h
def Tf (X:K.In s.heap)(I:ObjM s.heap x dx C mA)(hg:pA K C name=true)
  (hf:oY K (.ref C) name=some (some (.ref f))) (ht:qP K (.ref f)=true) (hv:mA name=none) (h:Q (.ref f,[.ref x]) s):
  wpAny (model prog w) A (getMethod (.ref x) name pl) Q E s:=by
 obtain⟨od,J,hl⟩:=I.look;exact tT X J (z8_ hg).1 (z8_ hg).2 hf (xp_.mp ht) (by show (pI name od).map (·.isSome)=some false;rw[hl,hv];rfl) h
def V2 (X:K.In s.heap)(I:ObjM s.heap x dx C mA)
  (hs:oY K (.ref C) "__setattr__"=some (some (.builtin "object.__setattr__"))) (hp:pE K C=true) (ht:p9 K C name=some none) (hh:pD K C=true)
  (hw:qO mA ns) (hsz:ns.length<=sizeLine)
  (h:∀h',ObjM h' x dx C (fun y=>if y=name then some v else mA y)->Heap.SameBut dx s.heap h'->Q () {s with heap:=h',toks:=s.toks+2}):
  wpAny (model prog w) A (setAttr (.ref x) name v) Q E s:=by
 obtain⟨od,J,hl⟩:=I.look;refine tU X J hs (ud (s:={s with toks:=s.toks+1}) (r:=none) X J hp ht fun b=>?_);obtain⟨cd,hc,kz⟩:=ue hh;have hx:s.heap.get? x=some ⟨.ref C,some dx,.plain,#[]⟩:=I.obj;refine ja_ (jf_ (ja_ (ja_ (wpAny_loadPart hx (ja_ (PySem.W.Looks.here (s:={s with toks:=s.toks+1}) (tL X hc) ?_))))));rw[kz];refine jf_ (a:=some dx) (ja_ (jf_ (ja_ ?_)));refine wpAny_nsSet1 (s:={s with toks:=s.toks+1}) I.ns fun h' jS bB=>?_;obtain⟨oD,esD,epD,hoD,hdD,gR⟩:=jS.count (PySem.Within.cons name v hw);refine ja_ (wpAny_lookBehind hoD (by rw[hdD];exact pastItsLine_dict (qg_ gR (by rw[jY_];lia))) ?_);exact jf_ (h _ ⟨(bB.2 _ (qp_ I.ne)).trans I.obj,jS,I.ne⟩ bB)
def Tg {kw:List (Str×Value)}(X:K.In s.heap)(hm:rA K C=true)
  (hi:oY K (.ref C) "__init__"=some (some (.ref f))) (hf:uA K (.ref f)=some (.type "function"))
  (h:codeAny (model prog w) (A.under (.builtin "type.__call__" ⟨.ref C::vs,kw⟩)) (.call (.ref f) ⟨.ref (s.heap.objs.size+1)::vs,kw⟩) (uf (s.heap.objs.size+1) R)
   {s with heap:=(s.heap.push ph).push (pq C s.heap.objs.size)}):
  codeAny (model prog w) A (.call (.ref C) ⟨vs,kw⟩) R s:=by
 obtain⟨hh,g,d,t,os⟩:=s;exact tV (ug X hm) (tG X hi) (fun self=>uv X self hf) (.inl rfl) h
end
noncomputable def putF (f:Str)(v:V):List (Str×V)->List (Str×V)
 |[]=>[(f,v)]
 | (g,x)::r=>if g=f then (g,v)::r else (g,x)::putF f v r
def KH (f g:Str)(v:V):∀fs:List (Str×V),(putF f v fs).lookup g=if g=f then some v else fs.lookup g
 |[]=>by
  show pC g [(f,v)]=_;by_cases h:g=f
  ·have hb:(g==f)=true:=xp_.mpr h;simp only[pC,hb,if_pos h]
  ·have hb:(g==f)=false:=xg_.mpr h;simp only[pC,hb,if_neg h]
 | (k,x)::r=>by
  have ih:=KH f g v r;rw[show putF f v ((k,x)::r)=(if k=f then (k,v)::r else (k,x)::putF f v r) from rfl];by_cases hk:k=f
  ·rw[if_pos hk];by_cases h:g=k
   ·have hb:(g==k)=true:=xp_.mpr h;simp only[pC,hb,if_pos (h.trans hk)]
   ·have hb:(g==k)=false:=xg_.mpr h;simp only[pC,hb,if_neg (fun e:g=f=>h (e.trans hk.symm))]
  ·rw[if_neg hk];by_cases h:g=k
   ·have hb:(g==k)=true:=xp_.mpr h;simp only[pC,hb,if_neg (fun e:g=f=>hk (h.symm.trans e))]
   ·have hb:(g==k)=false:=xg_.mpr h;simp only[pC,hb];exact ih
def KI (f:Str)(v:V):∀fs:List (Str×V),f∈(putF f v fs).map (·.1)/\∀g,g∈fs.map (·.1)->g∈(putF f v fs).map (·.1)
 |[]=>⟨by simp[putF],fun g h=>by simp at h⟩
 | (k,x)::r=>by
  obtain⟨i1,i2⟩:=KI f v r;rw[show putF f v ((k,x)::r)=(if k=f then (k,v)::r else (k,x)::putF f v r) from rfl];by_cases hk:k=f
  ·rw[if_pos hk];subst hk;exact⟨by simp,fun g h=>by simpa using h⟩
  ·rw[if_neg hk];refine⟨?_,fun g h=>?_⟩
   ·rw[jR_];exact jq_ _ i1
   ·rw[jR_]at h ⊢;rcases jE_.mp h with e|e
    ·exact jE_.mpr (.inl e)
    ·exact jq_ _ (i2 g e)
def KJ (f:Str)(v:V):∀fs:List (Str×V),(putF f v fs).length<=fs.length+1
 |[]=>by simp[putF]
 | (k,x)::r=>by
  have ih:=KJ f v r;rw[show putF f v ((k,x)::r)=(if k=f then (k,v)::r else (k,x)::putF f v r) from rfl];by_cases hk:k=f
  ·rw[if_pos hk,jY_,jY_];lia
  ·rw[if_neg hk,jY_,jY_];lia
def RelO.some_of (r:RelO (some v) o):∃u,o=some u/\RelV v u:=by
 cases o with
 |none=>exact (show False from r).elim
 |some u=>exact⟨u,rfl,r⟩
def RelO.none_of (r:RelO none o):o=none:=by
 cases o with
 |none=>rfl
 |some u=>exact (show False from r).elim
def QY (r:RelV v u):ra u=true:=by
 cases v with
 |non=>cases (show u=Value.none from r);rfl
 |bl b=>cases (show u=Value.bool b from r);rfl
 |int i=>obtain⟨t,e⟩:=(show ∃t,u=Value.int i t from r);cases e;rfl
 |str x=>obtain⟨t,e⟩:=(show ∃t,u=Value.str x t from r);cases e;rfl
 |byt b=>obtain⟨t,e⟩:=(show ∃t,u=Value.bytes b t from r);cases e;rfl
 |flt b=>obtain⟨t,e⟩:=(show ∃t,u=Value.float b t from r);cases e;rfl
 |ref a=>cases (show u=Value.ref a from r);rfl
 |ty n=>cases (show u=Value.type n from r);rfl
section
variable {P:Program} {w:World} {H H':Hp} {h h':Heap} {a C dx:Addr} {fs fs':List (Str×V)}
def Mh (hok:HOk P w H h)(e:H a=some (.ins C dx fs)):∃mA,ObjM h a dx C mA/\(∀f,RelO (fs.lookup f) (mA f))/\qO mA (fs.map (·.1))/\fs.length<=1000/\H dx=some (.own a):=by
 obtain⟨d,z,ne,ob,mA,n,r,q⟩:=(show AY P w H h a (.ins C dx fs) from hok a _ e);exact⟨mA,⟨ob,n,ne⟩,r,q,z,d⟩
end
structure Cls (K:α3)(C:Addr):Prop where
 pg:pA K C Str.empty=true
 hd:pD K C=true
 po:pE K C=true
 sa:oY K (.ref C) "__setattr__"=some (some (.builtin "object.__setattr__"))
def Cls.get {K:α3} (c:Cls K C)(f:Str):pA K C f=true:=c.pg
noncomputable def BN (K:α3)(C:Addr)(f:Str):Prop:=oY K (.ref C) f=some none
def BN.taker {K:α3} (n:BN K C f):p9 K C f=some none:=by
 unfold p9;rw[show oY K (.ref C) f=some none from n];rfl
structure Meth (K:α3)(C:Addr)(m:Str)(f:Addr):Prop where
 at_:oY K (.ref C) m=some (some (.ref f))
 fn:qP K (.ref f)=true
 kp:keepIn K (.ref f)=true
section
variable {X:Cx} {aa:α7} {σ:St} {H:Hp} {s:Shared} {a C dx:Addr} {fs:List (Str×V)} {f:Str} {v:V} {A:Around} {E:Value->Shared->Prop}
def P7 (I:Inv X aa σ H s)(e:H a=some (.ins C dx fs))(c:Cls X.K C)(n:BN X.K C f)(l:fs.lookup f=some v)
  (h:∀u s',Inv X aa σ H s'->RelV v u->Q u s'):wpAny (model X.prog X.w) A (getAttr (.ref a) f b) Q E s:=by
 obtain⟨mA,O,r,_,_,_⟩:=Mh I.hok e;obtain⟨u,hu,ru⟩:=RelO.some_of (v:=v) (o:=mA f) (by rw[<-l];exact r f);exact V1 I.kIn O (c.get f) c.hd n hu (QY ru) (h u _ (I.tok _) ru)
def Gx (I:Inv X aa σ H s)(e:H a=some (.ins C dx fs))(c:Cls X.K C)(k:Meth X.K C m g)(l:fs.lookup m=none)
  (h:Q (.ref g,[.ref a]) s):wpAny (model X.prog X.w) A (getMethod (.ref a) m pl) Q E s:=by
 obtain⟨mA,O,r,_,_,_⟩:=Mh I.hok e;have hn:mA m=none:=RelO.none_of (by rw[<-l];exact r m);exact Tf I.kIn O (c.get m) k.at_ k.fn hn h
def P8 (I:Inv X aa σ H s)(e:H a=some (.ins C dx fs))(c:Cls X.K C)(n:BN X.K C f)(hl:fs.length<1000)(ry:RelV y u)
  (h:∀s',Inv X aa σ (upd H a (.ins C dx (putF f y fs))) s'->Q () s'):wpAny (model X.prog X.w) A (setAttr (.ref a) f u) Q E s:=by
 obtain⟨mA,O,r,wi,_,ho⟩:=Mh I.hok e;have hz:(fs.map (·.1)).length<=sizeLine:=by rw[jb_,zI_];lia
 refine V2 I.kIn O c.sa c.po n.taker c.hd wi hz fun h' O' sb=>h _ ?_;have hd:∃o,h'.get? dx=some o:=let ⟨o,_,_,e',_⟩:=O'.ns;⟨o,e'⟩;refine I.write (x:=a) (e:=dx) (by rw[e];exact oZ) (.inr ho) (fun b q hb z=>(sb.2 b hb).trans z) hd ?_;refine⟨by rw[Aj O.ne];exact ho,?_,O.ne,O'.obj,_,O'.ns,fun g=>?_,fun g hg=>?_⟩
 ·have:=KJ f y fs;lia
 ·show RelO ((putF f y fs).lookup g) (if g=f then some u else mA g);rw[KH];by_cases q:g=f
  ·rw[if_pos q,if_pos q];exact ry
  ·rw[if_neg q,if_neg q];exact r g
 ·by_cases q:g=f
  ·rw[q];exact (KI f y fs).1
  ·refine (KI f y fs).2 g (wi g fun z=>hg ?_);show (if g=f then some u else mA g)=none;rw[if_neg q];exact z
def Inv.made (I:Inv X aa σ H s):Inv X aa σ (upd (upd H s.heap.objs.size (.own (s.heap.objs.size+1))) (s.heap.objs.size+1) (.ins C s.heap.objs.size []))
  {s with heap:=(s.heap.push ph).push (pq C s.heap.objs.size)}:=by
 have e1:(s.heap.push ph).get? s.heap.objs.size=some ph:=jp_ s.heap rfl;have e2:((s.heap.push ph).push (pq C s.heap.objs.size)).get? (s.heap.objs.size+1)=some (pq C s.heap.objs.size):=by
  have:=jp_ (s.heap.push ph) (o:=pq C s.heap.objs.size) rfl
  rwa [j3_]at this
 have e3:(s.heap.push ph).Ns s.heap.objs.size (fun _=>none):=⟨ph,#[],_,e1,rfl,(fun e he=>absurd he (by simp)),fun _=>rfl⟩;have I1:=I.laid (a:=s.heap.objs.size) (o:=.own (s.heap.objs.size+1)) (h':=s.heap.push ph) (t':=s.toks) (fun b u q=>jd_ _ q) (jh_ _) ⟨_,e1⟩;refine I1.laid (a:=s.heap.objs.size+1) (o:=.ins C s.heap.objs.size []) (t':=s.toks) (fun b u q=>jd_ _ q) (qQ (j3_ _ _)) ?_;have ne:s.heap.objs.size≠s.heap.objs.size+1:=jG_ (x8_ _);refine⟨by rw[Aj ne,Ab],qc_ _,ne,e2,fun _=>none,(Heap.Ns1.of_empty e3).at fun o q=>jd_ _ q,fun _=>oZ,fun y hy=>absurd rfl hy⟩
def V3 (hb:attributeBase e f env (eval e env)=eval e env)
  (h:wpAny (model prog w) A (eval e env) (fun o s₁=>wpAny (model prog w) A (getAttr o f true) Q E s₁) E s):wpAny (model prog w) A (eval (.Attribute e f pos) env) Q E s:=
 Attribute_any_ h (by rw[arm_eval_Attribute,hb])
end
noncomputable def tFld (K:α3)(ta:TE)(f:Str):TE:=fun σ H Q=>ta σ H fun x H1=>∃a C dx fs v,x=.ref a/\H1 a=some (.ins C dx fs)/\Cls K C/\BN K C f/\fs.lookup f=some v/\Q v H1
noncomputable def sFld (K:α3)(ta tv:TE)(f:Str):TS:=fun D σ H=>tv σ H fun y H1=>ta σ H1 fun x H2=>∃a C dx fs,x=.ref a/\H2 a=some (.ins C dx fs)/\Cls K C/\BN K C f/\fs.length<1000 /\
 D.nx σ (upd H2 a (.ins C dx (putF f y fs)))
section
variable {X:Cx} {o e value:Expr} {f:Str} {pos bK bL:Pos} {ta tv:TE}
def Ax (he:PE X e ta)(hb:attributeBase e f X.env (eval e X.env)=eval e X.env):PE X (.Attribute e f pos) (tFld X.K ta f):=by
 intro aa s σ H Q I h;refine V3 hb (thn (he aa s σ H _ I h) fun u s1 ⟨x,H1,I1,rx,a,C,dx,fs,v,ex,ea,c,n,l,q⟩=>?_);subst ex;obtain rfl:u=Value.ref a:=rx;exact P7 I1 ea c n l fun u' s2 I2 ru=>⟨v,H1,I2,ru,q⟩
def Cb (ha:PE X o ta)(hv:PE X value tv)(hs:swapsWith value (some (.Attribute o f bK)) pos.line X.env=pure false):PS X (.Assign [.Attribute o f bK] value pos) (sFld X.K ta tv f):=by
 intro aa s σ H D I h;refine plainObj_wpAny_Assign_Attribute (thn (hv aa s σ H _ I h) fun u s1 ⟨y,H1,I1,ry,q⟩=>thn (ha aa s1 σ H1 _ I1 q) fun ov s2 ⟨x,H2,I2,rx,a,C,dx,fs,ex,ea,c,n,l,q2⟩=>?_) hs;subst ex;obtain rfl:ov=Value.ref a:=rx;exact P8 I2 ea c n l ry fun s3 I3=>⟨σ,_,I3,q2⟩
end
section
variable {X:Cx} {aa:α7} {σ:St} {H:Hp} {s:Shared} {A:Around} {E:Value->Shared->Prop} {Q:Value->Shared->Prop} {c:Value} {b:Bool}
inductive TyOf (K:α3)(H:Hp):V->Value->Prop where
 | non:TyOf K H .non (.type "NoneType")
 | bl (x:Bool):TyOf K H (.bl x) (.type "bool")
 | int (i:Int):TyOf K H (.int i) (.type "int")
 | str (x:Str):TyOf K H (.str x) (.type "str")
 | flt (x:UInt64):TyOf K H (.flt x) (.type "float")
 | lst {a:Addr} {xs:List V} (e:H a=some (.lst xs)):TyOf K H (.ref a) (.type "list")
 | frz {a:Addr} {o:Obj} {xs:List V} (e:H a=some (.frz o (.lst xs))):TyOf K H (.ref a) (.type "list")
 | tup {a:Addr} {xs:List V} (e:H a=some (.tup xs)):TyOf K H (.ref a) (.type "tuple")
 | dK {a:Addr} {kvs:List (Key×V)} (e:H a=some (.dK kvs)):TyOf K H (.ref a) (.type "dict")
 | dT {a:Addr} {kvs:List (List Key×V)} (e:H a=some (.dT kvs)):TyOf K H (.ref a) (.type "dict")
 | ins {a C dx:Addr} {fs:List (Str×V)} (e:H a=some (.ins C dx fs)) (cl:Cls K C) (ha:oY K (.ref C) "__class__"=some (some (.builtin "object.__class__")))
   (hn:pO K (.builtin "object.__class__") "__get__"=some (some (.builtin "getset_descriptor.__get__"))) (gS:rB K (.builtin "object.__class__")=some true)
   (hm:qA K C (.type "object")=some true):TyOf K H (.ref a) (.ref C)
def QZ (I:Inv X aa σ H s)(rx:RelV x u)(ty:TyOf X.K H x t)(e:kitOne X.K t c=some b)(h:∀tk,Q (.bool b) {s with toks:=tk}):
  wpAny (model X.prog X.w) A (call (.builtin "isinstance") [u,c]) Q E s:=by
 cases ty with
 |non=>cases (show u=Value.none from rx);exact qn_ tW I.kIn oZ e (fun z=>nomatch z) h
 |bl y=>cases (show u=Value.bool y from rx);exact qn_ tX I.kIn oZ e (fun z=>nomatch z) h
 |int i=>obtain⟨t,q⟩:=(show ∃t,u=Value.int i t from rx);cases q;exact qn_ uh I.kIn oZ e (fun z=>nomatch z) h
 |str y=>obtain⟨t,q⟩:=(show ∃t,u=Value.str y t from rx);cases q;exact qn_ ui I.kIn oZ e (fun z=>nomatch z) h
 |flt y=>obtain⟨t,q⟩:=(show ∃t,u=Value.float y t from rx);cases q;exact qn_ tN I.kIn oZ e (fun z=>nomatch z) h
 |@lst a xs ea=>
  cases (show u=Value.ref a from rx);obtain⟨_,_,n,_,h1⟩:=(show AY X.prog X.w H s.heap a (.lst xs) from I.hok a _ ea);exact qn_ wj_ I.kIn ⟨_,h1,rfl⟩ e (fun z=>nomatch z) h
 |@frz a ob xs ea=>
  cases (show u=Value.ref a from rx);obtain⟨_,_,_,n,_,h1⟩:=(show AY X.prog X.w H s.heap a (.frz ob (.lst xs)) from I.hok a _ ea);exact qn_ wj_ I.kIn ⟨_,h1,rfl⟩ e (fun z=>nomatch z) h
 |@tup a xs ea=>
  cases (show u=Value.ref a from rx);obtain⟨_,_,_,p⟩:=(show AY X.prog X.w H s.heap a (.tup xs) from I.hok a _ ea);obtain⟨o,h1,h2,_⟩:=p;exact qn_ qH I.kIn ⟨o,h1,h2⟩ e (fun z=>nomatch z) h
 |@dK a kvs ea=>
  cases (show u=Value.ref a from rx);obtain⟨_,_,vs,_,p⟩:=(show AY X.prog X.w H s.heap a (.dK kvs) from I.hok a _ ea);obtain⟨o,es,ep,h1,h2,_⟩:=p;exact qn_ qR I.kIn ⟨o,h1,h2.1⟩ e (fun z=>nomatch z) h
 |@dT a kvs ea=>
  cases (show u=Value.ref a from rx);obtain⟨_,_,xs,_,o,es,ep,h1,h2,_⟩:=(show AY X.prog X.w H s.heap a (.dT kvs) from I.hok a _ ea);exact qn_ qR I.kIn ⟨o,h1,h2.1⟩ e (fun z=>nomatch z) h
 |@ins a C dx fs ea cl ha hn gS hm=>
  cases (show u=Value.ref a from rx);obtain⟨mA,O,_⟩:=Mh I.hok ea;obtain⟨od,J,_⟩:=O.look;exact qn_ (uj (cl.get _) cl.hd ha hn gS hm) I.kIn J e (fun z=>nomatch z) h
end
end L2
namespace L2
open PySem PySem.Spec PyProof.Rows
structure Room (k:Nat)(A:Around):Prop where
 hd:A.handled=none
 dp:A.depth+3*k+5<recursionLimit
 un:A.units+16*k+200<cLine
def Room.mono (r:Room k A)(h:j<=k):Room j A:=⟨r.hd,by have:=r.dp;lia,by have:=r.un;lia⟩
def Room.deeper (r:Room (k+1) A)(env:Env):Room k (A.deeper env):=
 ⟨r.hd,by have:=r.dp;show A.depth+1+3*k+5<_;lia,by have:=r.un;show A.units+3+16*k+200<_;lia⟩
def P9 {A:Around}{C:Addr}{us:List Value}{kw:List (Str×Value)}:(A.under (.builtin "type.__call__" ⟨.ref C::us,kw⟩)).depth=A.depth+1:=by
 first|rfl|simp[Around.under,Code.weight,Code.isCreation,Code.isGuard,Code.isCaller,Code.frames,Code.isFrame,guardIds]
def Qa {A:Around}{C:Addr}{us:List Value}{kw:List (Str×Value)}:(A.under (.builtin "type.__call__" ⟨.ref C::us,kw⟩)).units=A.units+1:=by
 first|rfl|simp[Around.under,Code.cUnits,Code.frames,Code.isFrame]
def Room.make (r:Room (k+1) A)(C:Addr)(us:List Value)(kw:List (Str×Value)):Room k (A.under (.builtin "type.__call__" ⟨.ref C::us,kw⟩)):=
 ⟨r.hd,by have:=r.dp;rw[P9];lia,by have:=r.un;rw[Qa];lia⟩
def Room.depth (r:Room k A):A.depth<recursionLimit:=by have:=r.dp;lia
def Room.units (r:Room k A):A.units+64<cLine:=by have:=r.un;lia
noncomputable def tNil:TA:=fun _ H Q=>Q [] H
noncomputable def Xp (ta:TE)(tr:TA):TA:=fun σ H Q=>ta σ H fun x H1=>tr σ H1 fun xs H2=>Q (x::xs) H2
section
variable {X:Cx} {e:Expr} {es:List Expr} {te:TE} {t:TA} {pos:Pos}
def Ad:PA X [] tNil:=fun _ _ _ _ H Q I h=>Calls.spliced_nil ⟨[],H,I,.nil,h⟩
def Aa (ha:PE X e te)(hr:PA X es t)(hs:starEach (e::es) X.env=(false,eval e X.env)::starEach es X.env:=by rfl):PA X (e::es) (Xp te t):=by
 intro pos aa s σ H Q I h;rw[hs];show wpAny _ _ (spliced ((false,eval e X.env)::backTo pos (starEach es X.env))) _ _ s;refine zq_ (thn (ha aa s σ H _ I h) fun u s1 ⟨x,H1,I1,r1,q1⟩=>?_);exact thn (hr pos aa s1 σ H1 _ I1 q1) fun us s2 ⟨xs,H2,I2,r2,q2⟩=>⟨x::xs,H2,I2,.cons r1 r2,q2⟩
noncomputable def tTup (t:TA):TE:=fun σ H Q=>t σ H fun xs H1=>xs.length<=sizeLine/\∀p,H1 p=none->Q (.ref p) (upd H1 p (.tup xs))
noncomputable def tLst (t:TA):TE:=fun σ H Q=>t σ H fun xs H1=>xs.length<=sizeLine/\∀p,H1 p=none->Q (.ref p) (upd H1 p (.lst xs))
def Cg {x1}(h:PA X es t):PE X (.Tuple es x1 pos) (tTup t):=by
 intro aa s σ H Q I hq;refine wpAny_Tuple_spliced (thn (h pos aa s σ H _ I hq) fun us s1 ⟨xs,H1,I1,r,z,q⟩=>⟨by rw[<-r.length];exact z,?_⟩);have hf:H1 s1.heap.objs.size=none:=I1.hok.fresh (jh_ _);refine⟨.ref s1.heap.objs.size,upd H1 s1.heap.objs.size (.tup xs),I1.laid (t':=s1.toks) (fun b u e=>jd_ _ e) (jh_ _) ?_,rfl,q _ hf⟩;exact⟨z,us,r,⟨_,jp_ _ rfl,rfl,_,rfl⟩⟩
def Fe (h:PA X es t):PE X (.List es pos) (tLst t):=by
 intro aa s σ H Q I hq;refine wpAny_List_spliced (thn (h pos aa s σ H _ I hq) fun us s1 ⟨xs,H1,I1,r,z,q⟩=>⟨by rw[<-r.length];exact z,?_⟩);have hf:H1 s1.heap.objs.size=none:=I1.hok.fresh (jh_ _);refine⟨.ref s1.heap.objs.size,upd H1 s1.heap.objs.size (.lst xs),I1.laid (t':=s1.toks) (fun b u e=>jd_ _ e) (jh_ _) ?_,rfl,q _ hf⟩;exact⟨z,us,0,r,jp_ _ rfl⟩
end
noncomputable abbrev Sp:=List V->Hp->VK->XK->Prop
noncomputable abbrev CXT:=List Env->Hp->Shared->XK->Value->Shared->Prop
structure Env0 (P:Program)(w:World)(K:α3)(mg:Str->α5)(base:Heap)(A:Around)(outer:List Env)(s:Shared)(H:Hp):Prop where
 frames:A.frames=some outer
 mod:Mod K mg base
 bs:∀b o,base.get? b=some o->s.heap.get? b=some o/\H b=none
 bsz:base.objs.size<=s.heap.objs.size
 funs:s.heap.FunFrames base outer
 frf:∀b∈frs outer,H b=none
 hok:HOk P w H s.heap
 bare:AllBare s.gens
noncomputable def CE (outer:List Env)(P:Program)(w:World)(H:Hp)(s:Shared)(Q:VK)(u:Value)(s':Shared):Prop:=
 ∃v H',s'.os=s.os/\AllBare s'.gens/\Un (frs outer) [] H H' s.heap s'.heap/\HOk P w H' s'.heap/\RelV v u/\Q v H'
noncomputable def CR (CX:CXT)(outer:List Env)(P:Program)(w:World)(H:Hp)(s:Shared)(Q:VK)(E:XK)(r:Result)(s':Shared):Prop:=
 match r with
 |.ok (.ret u)=>CE outer P w H s Q u s'
 |.ok _=>False
 |.error e=>CX outer H s E e s'
structure FnOk (P:Program)(w:World)(K:α3)(mg:Str->α5)(base:Heap)(CX:CXT)(k:Nat)(f:Addr)(fd:α6)(ps:List Str)(sp:Sp):Prop where
 len:∀vs H Q E,sp vs H Q E->vs.length=ps.length
 run:∀(A:Around) (outer:List Env) (s:Shared) (H:Hp) (args:Args) (us:List Value) (vs:List V) (Q:VK) (E:XK),Room k A->Env0 P w K mg base A outer s H->BindsTo s fd args (ps.zip us)->Vals vs us->sp vs H Q E ->
  codeAny (model P w) A (.call (.ref f) args) (CR CX outer P w H s Q E) s
def Env0.make {K:α3} (e:Env0 P w K mg base A outer s H)(C:Addr)(us:List Value)(kw:List (Str×Value)):
  Env0 P w K mg base (A.under (.builtin "type.__call__" ⟨.ref C::us,kw⟩)) outer s H:=⟨by first|exact e.frames|(simpa [Around.under,Code.envs,Code.isFrame,pushEnvs] using e.frames),e.mod,e.bs,e.bsz,e.funs,e.frf,e.hok,e.bare⟩
section
variable {X:Cx} {aa:α7} {σ:St} {H:Hp} {s s':Shared}
def Inv.env0 (I:Inv X aa σ H s):Env0 X.prog X.w X.K X.mg X.base X.A X.stack s H:=
 ⟨I.ok.frames,I.ok.mod,I.bs,qg_ I.ok.bsz I.sz,I.stack,I.stkFree,I.hok,I.bare⟩
def Inv.after (I:Inv X aa σ H s)(h:CE X.stack X.prog X.w H s Q u s'):EP X aa σ Q u s':=by
 obtain⟨v,H',os,bare,un,hok,r,q⟩:=h;obtain⟨hh,g,d,t,os'⟩:=s';obtain rfl:os'=s.os:=os;exact⟨v,H',I.call (h':=hh) (g':=g) (d':=d) (t':=t) (ch:=[]) un hok bare (fun b z=>absurd z (by simp)),r,q⟩
end
noncomputable def Th (sp:Sp)(aV:List V)(E:XK)(t:TA):TE:=fun σ H Q=>t σ H fun vs H1=>sp (vs++aV) H1 Q E
noncomputable def V4 (C:Addr)(m:Str)(sp:Sp)(aV:List V)(E:XK)(ta:TE)(t:TA):TE:=fun σ H Q=>ta σ H fun x H1=>∃a dx fs,x=.ref a/\H1 a=some (.ins C dx fs)/\fs.lookup m=none /\
 t σ H1 fun vs H2=>sp (x::(vs++aV)) H2 Q E
noncomputable def Xq (C:Addr)(sp:Sp)(aV:List V)(E:XK)(t:TA):TE:=fun σ H Q=>t σ H fun vs H1=>∀x dx,H1 x=none->H1 dx=none->dx≠x ->
 sp (.ref x::(vs++aV)) (upd (upd H1 dx (.own x)) x (.ins C dx [])) (fun v H2=>v=.non/\Q (.ref x) H2) E
noncomputable def Binds (K:α3)(fd:α6)(ps:List Str)(ds:List Value):Prop:=
 ∀(s:Shared) (us:List Value),K.In s.heap->(us++ds).length=ps.length->BindsTo s fd ⟨us,[]⟩ (ps.zip (us++ds))
def Binds.all {K:α3} (h:∀us:List Value,us.length=ps.length->bindArgs fd ⟨us,[]⟩=pure (ps.zip us)):Binds K fd ps []:=fun s us _ hl=>by
 rw[xQ_]at hl ⊢;exact .of_eq (h us hl)
noncomputable def FE (CX:CXT)(X:Cx)(E:XK):Prop:=∀(aa:α7) (σ:St) (H:Hp) (s:Shared) (e:Value) (s':Shared),Inv X aa σ H s->CX X.stack H s E e s'->X.xe e s'
section
variable {X:Cx} {CX:CXT} {k:Nat} {f C:Addr} {fd:α6} {ps:List Str} {sp:Sp} {aV:List V} {ds:List Value} {E:XK} {x m:Str} {p pos aJ:Pos} {e o:Expr} {es:List Expr} {ta:TE} {t:TA}
def O5 (F:FnOk X.prog X.w X.K X.mg X.base CX k f fd ps sp)(hr:Room k X.A)(hb:Binds X.K fd ps ds)(hd:Vals aV ds)(hx:FE CX X E)
  (I:Inv X aa σ H s) (r:Vals vs us) (h:sp (vs++aV) H Q E):wpAny (model X.prog X.w) X.A (call (.ref f) us) (EP X aa σ Q) X.xe s:=by
 have r2:Vals (vs++aV) (us++ds):=r.append hd;have hl:(us++ds).length=ps.length:=by rw[<-r2.length];exact F.len _ _ _ _ h
 refine wpAny_call (we_ (F.run X.A X.stack s H ⟨us,[]⟩ (us++ds) (vs++aV) Q E hr I.env0 (hb s us I.kIn hl) r2 h) fun r s' hq=>?_);cases r with
 |error e=>exact hx aa σ H s e s' I hq
 |ok fl=>
  cases fl with
  |ret u=>exact I.after hq
  |next=>exact pb hq
  |brk=>exact pb hq
  |cont=>exact pb hq
def V5 (F:FnOk X.prog X.w X.K X.mg X.base CX k f fd ps sp)(hr:Room k X.A)(hg:Gl X x)(hm:X.mg x=some (.ref f))(hk:keepIn X.K (.ref f)=true)(hb:Binds X.K fd ps ds)(hd:Vals aV ds)(hx:FE CX X E)
  (ha:PA X (e::es) t) (fm:(x==("__debug__" : Str))=false:=by decide) (he:starEach (e::es) X.env=(false,eval e X.env)::starEach es X.env:=by rfl) (cQ:(backTo pos (starEach es X.env)).any (·.1)=false:=by rfl):
  PE X (.Call (.Name x p) (e::es) [] pos) (Th sp aV E t):=by
 intro aa s σ H Q I h;refine zr_ (IV I hg hm ?_ fm);refine xN_ (h₀:=X.base) I.ok.mod.kin hk (thn (ha pos aa s σ H _ I h) fun us s1 ⟨vs,H1,I1,r,q⟩=>⟨I1.kIn,?_⟩) he cQ;exact O5 F hr hb hd hx I1 r q
def Bh (he:PE X o ta)(c:Cls X.K C)(hm:Meth X.K C m f)(F:FnOk X.prog X.w X.K X.mg X.base CX k f fd ps sp)(hr:Room k X.A)(hb:Binds X.K fd ps ds)(hd:Vals aV ds)(hx:FE CX X E)(ha:PA X (e::es) t)
  (cH:starEach (e::es) X.env=(false,eval e X.env)::starEach es X.env:=by rfl) (cQ:(backTo pos (starEach es X.env)).any (·.1)=false:=by rfl)
  (ht:eval (.Call (.Attribute o m aJ) (e::es) [] pos) X.env=(do
   let ov <- eval o X.env
   standAt aJ.atName
   let (f,first) <- holding [ov] (getMethod ov m pl)
   callWith pos f first (backTo pos (starEach (e::es) X.env)) (backToKw pos (keywordEach [] X.env))):=by rfl):
  PE X (.Call (.Attribute o m aJ) (e::es) [] pos) (V4 C m sp aV E ta t):=by
 intro aa s σ H Q I h;refine xs_ (pl:=pl) (thn (he aa s σ H _ I h) fun u s1 ⟨x,H1,I1,rx,a,dx,fs,ex,ea,l,q⟩=>?_) ht;subst ex;obtain rfl:u=Value.ref a:=rx;refine Gx I1 ea c hm l ?_;refine xN_ (first:=[.ref a]) (h₀:=X.base) I.ok.mod.kin hm.kp (thn (ha pos aa s1 σ H1 _ I1 q) fun us s2 ⟨vs,H2,I2,r,q2⟩=>⟨I2.kIn,?_⟩) cH cQ;exact O5 (us:=.ref a::us) (vs:=.ref a::vs) F hr hb hd hx I2 (.cons rfl r) q2
def AQ (he:PE X o ta)(c:Cls X.K C)(hm:Meth X.K C m f)(F:FnOk X.prog X.w X.K X.mg X.base CX k f fd ps sp)(hr:Room k X.A)(hb:Binds X.K fd ps ds)(hd:Vals aV ds)(hx:FE CX X E)
  (ht:eval (.Call (.Attribute o m aJ) [] [] pos) X.env=(do
   let ov <- eval o X.env
   standAt aJ.atName
   let (f,first) <- holding [ov] (getMethod ov m pl)
   callWith pos f first (backTo pos (starEach [] X.env)) (backToKw pos (keywordEach [] X.env))):=by rfl):
  PE X (.Call (.Attribute o m aJ) [] [] pos) (V4 C m sp aV E ta tNil):=by
 intro aa s σ H Q I h;refine xs_ (pl:=pl) (thn (he aa s σ H _ I h) fun u s1 ⟨x,H1,I1,rx,a,dx,fs,ex,ea,l,q⟩=>?_) ht;subst ex;obtain rfl:u=Value.ref a:=rx;refine Gx I1 ea c hm l ?_;exact qx (first:=[.ref a]) I1.kIn hm.kp (O5 (us:=[.ref a]) (vs:=[.ref a]) F hr hb hd hx I1 (.cons rfl .nil) q)
structure Mk (K:α3)(C f:Addr):Prop where
 makes:rA K C=true
 init:oY K (.ref C) "__init__"=some (some (.ref f))
 fn:qP K (.ref f)=true
 kp:keepIn K (.ref C)=true
def Ti (M:Mk X.K C f)(F:FnOk X.prog X.w X.K X.mg X.base CX k f fd ps sp)(hr:Room (k+1) X.A)(hb:Binds X.K fd ps ds)(hd:Vals aV ds)
  (hx:FE CX X E) (I:Inv X aa σ H s) (r:Vals vs us)
  (h:∀x dx,H x=none->H dx=none->dx≠x->sp (.ref x::(vs++aV)) (upd (upd H dx (.own x)) x (.ins C dx [])) (fun v H2=>v=.non/\Q (.ref x) H2) E):
  wpAny (model X.prog X.w) X.A (call (.ref C) us) (EP X aa σ Q) X.xe s:=by
 have hq:=h (s.heap.objs.size+1) s.heap.objs.size (I.hok.fresh (wp_ _)) (I.hok.fresh (jh_ _)) (jG_ (x8_ _));have I2:=Inv.made (C:=C) I;have r2:Vals (V.ref (s.heap.objs.size+1)::(vs++aV)) (Value.ref (s.heap.objs.size+1)::(us++ds)):=.cons rfl (r.append hd);have hl:(Value.ref (s.heap.objs.size+1)::us++ds).length=ps.length:=by
  have e:=r2.length;rw[F.len _ _ _ _ hq]at e;exact e.symm
 refine wpAny_call (Tg (f:=f) I.kIn M.makes M.init (xp_.mp M.fn) (we_ (F.run _ X.stack _ _ ⟨Value.ref (s.heap.objs.size+1)::us,[]⟩ (Value.ref (s.heap.objs.size+1)::(us++ds)) _ _ E (hr.make C us [])
  (I2.env0.make C us []) (hb _ (Value.ref (s.heap.objs.size+1)::us) I2.kIn hl) r2 hq) fun r s' dQ=>?_))
 cases r with
 |error e=>exact hx aa σ _ _ e s' I2 dQ
 |ok fl=>
  cases fl with
  |ret u=>
   obtain⟨v,H',I3,rv,ev,q3⟩:=I2.after dQ;subst ev;exact⟨rv,⟨V.ref (s.heap.objs.size+1),H',I3,rfl,q3⟩⟩
  |next=>exact pb dQ
  |brk=>exact pb dQ
  |cont=>exact pb dQ
def Q0 (M:Mk X.K C f)(F:FnOk X.prog X.w X.K X.mg X.base CX k f fd ps sp)(hr:Room (k+1) X.A)(hg:Gl X x)(hm:X.mg x=some (.ref C))(hb:Binds X.K fd ps ds)(hd:Vals aV ds)(hx:FE CX X E)
  (ha:PA X (e::es) t) (fm:(x==("__debug__" : Str))=false:=by decide) (he:starEach (e::es) X.env=(false,eval e X.env)::starEach es X.env:=by rfl) (cQ:(backTo pos (starEach es X.env)).any (·.1)=false:=by rfl):
  PE X (.Call (.Name x p) (e::es) [] pos) (Xq C sp aV E t):=by
 intro aa s σ H Q I h;refine zr_ (IV I hg hm ?_ fm);refine xN_ (h₀:=X.base) I.ok.mod.kin M.kp (thn (ha pos aa s σ H _ I h) fun us s1 ⟨vs,H1,I1,r,q⟩=>⟨I1.kIn,?_⟩) he cQ;exact Ti M F hr hb hd hx I1 r q
end
structure FnScope (N P:List Str)(sc:Scope):Prop where
 kind:sc.kind=.function
 co:sc.isCoroutine=false
 gen:sc.isGenerator=false
 nd:N.Nodup
 pre:N.take P.length=P
 par:∀x∈P,sc.names.lookup x=some .local\/sc.names.lookup x=some .cell
 nofree:∀y∈sc.names,y.2 ≠ .free
def Nh {kindOf:Str->Option NameKind}{x:Str}:∀{binds:List (Str×Value)} {m:Str->α5},(∀v,(x,v)∉binds)->bindL kindOf binds m x=m x
 |[],_,_=>rfl
 | (n,v)::r,m,h=>by
  unfold bindL;rw[Nh fun w hw=>h w (jq_ _ hw)];split
  ·have:x≠n:=by rintro rfl;exact h v jA_
   simp[this]
  ·rfl
def Ni {kindOf:Str->Option NameKind}{x:Str}:∀{binds:List (Str×Value)} {m:Str->α5},(∀v,(x,v)∉binds)->bindC kindOf binds m x=m x
 |[],_,_=>rfl
 | (n,v)::r,m,h=>by
  unfold bindC;rw[Ni fun w hw=>h w (jq_ _ hw)];split
  ·rfl
  ·have:x≠n:=by rintro rfl;exact h v jA_
   simp[this]
def Nj {kindOf:Str->Option NameKind}{x:Str}{v:Value}:∀{P:List Str} {vs:List Value} {i:Nat} {m:Str->α5},P.Nodup->P[i]?=some x->vs[i]?=some v->kindOf x=some .local ->
  bindL kindOf (P.zip vs) m x=some v
 |[],_,_,_,_,h,_,_=>by simp at h
 |_::_,[],_,_,_,_,h,_=>by simp at h
 |p::P,w::vs,0,m,nd,h1,h2,hk=>by
  simp at h1 h2;subst h1;subst h2;show bindL kindOf ((p,w)::P.zip vs) m p=_;unfold bindL;rw[Nh fun v hv=>(q9_.mp nd).1 (qa hv).1,if_pos hk];simp
 |p::P,w::vs,i+1,m,nd,h1,h2,hk=>by
  show bindL kindOf ((p,w)::P.zip vs) m x=_;unfold bindL;exact Nj (i:=i) (q9_.mp nd).2 (by simpa using h1) (by simpa using h2) hk
def Nk {kindOf:Str->Option NameKind}{x:Str}{v:Value}:∀{P:List Str} {vs:List Value} {i:Nat} {m:Str->α5},P.Nodup->P[i]?=some x->vs[i]?=some v->kindOf x≠some .local ->
  bindC kindOf (P.zip vs) m x=some v
 |[],_,_,_,_,h,_,_=>by simp at h
 |_::_,[],_,_,_,_,h,_=>by simp at h
 |p::P,w::vs,0,m,nd,h1,h2,hk=>by
  simp at h1 h2;subst h1;subst h2;show bindC kindOf ((p,w)::P.zip vs) m p=_;unfold bindC;rw[Ni fun v hv=>(q9_.mp nd).1 (qa hv).1,if_neg hk];simp
 |p::P,w::vs,i+1,m,nd,h1,h2,hk=>by
  show bindC kindOf ((p,w)::P.zip vs) m x=_;unfold bindC;exact Nk (i:=i) (q9_.mp nd).2 (by simpa using h1) (by simpa using h2) hk
noncomputable def start (N:List Str)(vs:List V):St:=vs.map some++oW (N.length-vs.length) none
noncomputable def cxOf (CX:CXT)(P:Program)(w:World)(K:α3)(mg:Str->α5)(base:Heap)(N:List Str)(qual:Str)(scope:Scope)(f:Addr)(cd:Value)(A:Around)(outer:List Env)(s:Shared)(H:Hp)(E:XK):Cx where
 prog:=P
 w:=w
 K:=K
 mg:=mg
 base:=base
 A:=A.deeper (envOfC qual scope s.heap.objs.size f cd)
 N:=N
 s₀:=s
 H₀:=H
 env:=envOfC qual scope s.heap.objs.size f cd
 outer:=outer
 stack:=envOfC qual scope s.heap.objs.size f cd::outer
 ex:=[]
 calm:=true
 fn:=fun _=>true
 pn:=[]
 xe:=fun e s'=>wpAny (model P w) (A.deeper (envOfC qual scope s.heap.objs.size f cd)) (leaving (envOfC qual scope s.heap.objs.size f cd) e) (fun _ kI=>CX outer H s E e kI) (fun e' kI=>CX outer H s E e' kI) s'
def O6 {sc:Scope}{n:Nat}{x:Str}(h:sc.names.lookup x=some .cell):∃c,(cellsFrom n sc.names []).lookup x=some c:=by
 have q:=zC_ sc.names n [] (.inl h);exact qe_.mp q
def Q1 {K:α3}
  (S:FnScope N ps scope) (hd:A.handled=none) (e0:Env0 P w K mg base A outer s H) (hl:vs.length=ps.length) (r:Vals vs us)
  (x:InCallC s s.heap.objs.size (bindL (envOfC qual scope s.heap.objs.size f cd).kindOf (ps.zip us) fun _=>none) (cellsFrom (s.heap.objs.size+1) scope.names []) (bindC (envOfC qual scope s.heap.objs.size f cd).kindOf (ps.zip us) fun _=>none) s1):
  Inv (cxOf CX P w K mg base N qual scope f cd A outer s H E) [] (start N vs) H s1:=by
 have cQ:ps.length<=N.length:=by have:=xd_ pF S.pre;rw[jI_]at this;lia
 obtain⟨h1,tk,rfl,hk⟩:=x.done;have kJ:∀b:Addr,b∉(cxOf CX P w K mg base N qual scope f cd A outer s H E).ex:=fun b z=>absurd (show b∈([]:List Addr) from z) (by simp);refine⟨⟨e0.mod,S.kind,rfl,rfl,jh_ _,fun y z c h1 h2=>?_,fun y hy=>?_,fun y c _ h=>?_,fun _=>hd,Around.frames_deeper e0.frames,.inr ⟨rfl,rfl⟩,fun b z=>absurd z (kJ b),e0.bs,e0.bsz,fun b _ _=>kJ b,fun b z=>absurd z (kJ b),e0.funs,e0.frf⟩,
  rfl,e0.bare,Un.kept hk,⟨_,x.toInCall.ns,fun i y v h1 h2 h3=>?_⟩,fun y c h=>⟨_,x.cell y c h⟩,e0.hok.fresh (jh_ _),fun y c h=>?_,fun p hp=>absurd (show p∈([]:α7) from hp) (by simp),e0.hok.kept hk,?_⟩
 ·exact name_of_addr x.apart (qd_ h1) (qd_ h2)
 ·have hy:scope.names.lookup y=some .cell\/scope.names.lookup y=some .free:=hy;rcases hy with hy|hy
  ·exact O6 hy
  ·exact absurd rfl (S.nofree _ (qd_ hy))
 ·exact xP_ (x.above y c (qd_ h))
 ·have hi:i<vs.length:=by
   unfold start at h2;by_cases hi:i<vs.length
   ·exact hi
   ·rw[jB_ (by simpa using hi)]at h2;rw[zs_]at h2;split at h2<;>cases h2
  have ha:vs[i]?=some v:=by
   unfold start at h2;rw[jx_ (by simpa using hi),ji_]at h2;cases e:vs[i]? with
   |none=>rw[e]at h2;cases h2
   |some a=>rw[e]at h2;cases h2;rfl
  obtain⟨u,hu,rv⟩:=r.get ha;have hp:ps[i]?=some y:=by
   rw[<-S.pre,List.getElem?_take_of_lt s!""];exact h1
  have ndP:ps.Nodup:=by rw[<-S.pre];exact S.nd.sublist (List.take_sublist _ _)
  refine⟨u,rv,?_⟩;rcases S.par y (jo_ hp) with k|k
  ·exact .inl ⟨k,Nj ndP hp hu k⟩
  ·obtain⟨c,e⟩:=O6 (n:=s.heap.objs.size+1) k;refine .inr ⟨.inl k,c,e,?_⟩;have q:=x.cell y c e;rw[Nk ndP hp hu (by show scope.names.lookup y≠_;rw[k];decide)]at q;exact q
 ·exact e0.hok.fresh (xP_ (x.above y c (qd_ h)))
 ·unfold start;show _=N.length;rw[js_,jb_,xt_];lia
def Xr {K:α3} {dV kV bY pm ao ct oc:Value}
       (lk:K.lookup f=some ⟨oc,od,.func (fnOf name qual params body scope dV kV bY pm an ao ct),i7⟩) (cy:qm K ao qual=true) (S:FnScope N ps scope)
    (len:∀vs H Q E,sp vs H Q E->vs.length=ps.length)
    (bf:∀(A:Around) (outer:List Env) (s:Shared) (H:Hp) (vs:List V) (Q:VK) (E:XK),Room k (A.deeper (envOfC qual scope s.heap.objs.size f ao))->sp vs H Q E ->
      ∃t,PSs (cxOf CX P w K mg base N qual scope f ao A outer s H E) body t/\t {nx:=fun _ H'=>Q .non H',rt:=Q} (start N vs) H):
    FnOk P w K mg base CX (k+1) f (fnOf name qual params body scope dV kV bY pm an ao ct) ps sp:=by
  refine⟨len,fun A outer s H args us vs Q E hr e0 hb r cz=>?_⟩;have hl:=len _ _ _ _ cz;have KX:K.In s.heap:=e0.mod.kin.keeps fun b o e=>(e0.bs b o e).1;have lim:s.heap.NoLimit:=e0.mod.nolimit.keeps fun b o e=>(e0.bs b o e).1;have hkind:∀y∈ps.zip us,scope.names.lookup y.1=some .local\/(scope.names.lookup y.1=some .cell/\((cellsFrom (s.heap.objs.size+1) scope.names []).lookup y.1).isSome=true):=fun ⟨n,v⟩ hy=>by
    rcases S.par n (qa hy).1 with q|q
    . exact .inl q
    . exact .inr ⟨q,zC_ _ _ _ (.inl q)⟩
  refine codeAny_call_function hr.depth (KX _ _ lk) rfl S.co S.gen rfl (tO KX cy) (hb _ _ _ _ ?_);refine wpAny_newFunctionEnv_cells S.kind hkind fun env he s1 x=>?_;subst he;refine⟨lim.keeps x.toInCall.keep,codeAny_func ?_⟩;obtain⟨t,ht,hq⟩:=bf A outer s H vs Q E (hr.deeper _) cz;have I:Inv (cxOf CX P w K mg base N qual scope f ao A outer s H E) [] (start N vs) H s1:=Q1 S hr.hd e0 hl r x;refine qB_ (ht [] s1 (start N vs) H _ I hq) (fun fl s' hs=>?_) fun e s' hs=>hs;have fin:∀{af:St} {H':Hp} {v:V} {u:Value},Inv (cxOf CX P w K mg base N qual scope f ao A outer s H E) [] af H' s'->RelV v u->Q v H'->CE outer P w H s Q u s' :=
    fun {af H' v u} J rv q=>⟨v,H',J.os,J.bare,J.base,J.hok,rv,q⟩
  cases fl with
  |ret u=>
    obtain⟨v,af,H',J,rv,q⟩:=hs;exact fin J rv q
  |next=>
    obtain⟨af,H',J,q⟩:=hs;exact fin (v:=V.non) (u:=Value.none) J rfl q
  |brk=>
    obtain⟨_,_,_,q⟩:=hs;exact pb q
  |cont=>
    obtain⟨_,_,_,q⟩:=hs;exact pb q
end L2
namespace L2
open PySem PySem.Spec PyProof.Rows
section
variable {X:Cx} {x:Str} {p pos:Pos} {e:Expr} {es:List Expr} {t:TA} {id T:String} {r:List V->Hp->VK->Prop}
noncomputable def tCB (r:List V->Hp->VK->Prop)(t:TA):TE:=fun σ H Q=>t σ H fun vs H1=>r vs H1 Q
def AK (hc:Er X (.builtin id) r)(hg:Gl X x)(hm:X.mg x=none)(hv:bootBuiltins x=some (.builtin id))(ha:PA X (e::es) t)(hn:x ≠ "__name__" := by decide)(fm:(x==("__debug__" : Str))=false:=by decide)
  (he:starEach (e::es) X.env=(false,eval e X.env)::starEach es X.env:=by rfl) (cQ:(backTo pos (starEach es X.env)).any (·.1)=false:=by rfl):PE X (.Call (.Name x p) (e::es) [] pos) (tCB r t):=by
 intro aa s σ H Q I h;refine zr_ (HN I hg hm hv ?_ hn fm);exact rb (thn (ha pos aa s σ H _ I h) fun us s1 ⟨vs,H1,I1,r1,q1⟩=>hc aa s1 σ H1 vs us Q I1 r1 q1) he cQ
def AF (hc:Er X (.type T) r)(hg:Gl X x)(hm:X.mg x=none)(hv:bootBuiltins x=some (.type T))(ha:PA X (e::es) t)(hn:x ≠ "__name__" := by decide)(fm:(x==("__debug__" : Str))=false:=by decide)
  (he:starEach (e::es) X.env=(false,eval e X.env)::starEach es X.env:=by rfl) (cQ:(backTo pos (starEach es X.env)).any (·.1)=false:=by rfl):PE X (.Call (.Name x p) (e::es) [] pos) (tCB r t):=by
 intro aa s σ H Q I h;refine zr_ (HN I hg hm hv ?_ hn fm);exact qm_ (thn (ha pos aa s σ H _ I h) fun us s1 ⟨vs,H1,I1,r1,q1⟩=>hc aa s1 σ H1 vs us Q I1 r1 q1) he cQ
end
end L2
namespace HT
open PySem PyProof.Rows
section
variable {prog:Program} {w:World} {A:Around} {E:Value->Shared->Prop} {s:Shared}
def cat_tup (ht:IsTup s.heap t vs.toArray)(hb:IsTup s.heap b ws.toArray)(hv:vs ≠ [])
  (h1:ws=[]->Q (.ref t) s) (h2:ws ≠ []->Q (.ref s.heap.objs.size) {s with heap:=s.heap.push {cls:=.type "tuple",data:=.seq (vs++ws).toArray} })
  (hsz:vs.length+ws.length<=sizeLine):wpAny (model prog w) A (binaryOp .Add (.ref t) (.ref b)) Q E s:=by
 obtain⟨⟨cls,dd,data,sl⟩,ho,hc,n,hd⟩:=id ht;obtain⟨⟨cls2,jT,data2,jU⟩,gx,cR,n2,gT⟩:=id hb;simp only at hc hd cR gT;subst hc hd cR gT;have e:vs.toArray++ws.toArray=(vs++ws).toArray:=by simp
 by_cases hw:ws=[]
 ·exact concat_meets ⟨_,ho,rfl⟩ ⟨_,gx,rfl⟩ noFill_tuple_add seq_tuple_add zD_ zt_ (zg_ _ _)
   (tuple_addW1 t b vs.toArray ws.toArray n n2 dd jT sl jU (by simpa using hv) (by simp[hw])) ⟨ho,gx,h1 hw⟩
 ·refine concat_meets ⟨_,ho,rfl⟩ ⟨_,gx,rfl⟩ noFill_tuple_add seq_tuple_add zD_ zt_ (zg_ _ _)
   (tuple_addW2 t b vs.toArray ws.toArray n n2 dd jT sl jU (by simpa using hv) (by simpa using hw) (by rw[jn_,jn_];exact hsz)) ⟨ho,gx,?_⟩
  rw[e];exact h2 hw
noncomputable def sIx (n d:Nat):Option Int->Nat
 |none=>d
 |some v=>if v<0 then (v+(n:Int)).toNat else min v.toNat n
def sIx_none (n d:Nat):sIx n d none=d:=rfl
def sIx_nat (n d k:Nat):sIx n d (some (k:Int))=min k n:=by
 show (if (k:Int)<0 then ((k:Int)+(n:Int)).toNat else min (k:Int).toNat n)=min k n;rw[if_neg s!"",jw_]
def Xs (n d:Nat)(hd:d<=n)(o:Option Int):sIx n d o<=n:=by
 cases o with
 |none=>exact hd
 |some v=>
  show (if v<0 then (v+(n:Int)).toNat else min v.toNat n)<=n;by_cases hv:v<0
  ·rw[if_pos hv];lia
  ·rw[if_neg hv];exact Nat.min_le_right _ _
def Q2 (v:Int)(n d:Nat):(if v<0 then max (v+(n:Int)) 0 else min v (n:Int))=((sIx n d (some v):Nat):Int):=by
 show (if v<0 then max (v+(n:Int)) 0 else min v (n:Int))=(((if v<0 then (v+(n:Int)).toNat else min v.toNat n):Nat):Int);by_cases hv:v<0
 ·simp only[if_pos hv];lia
 ·simp only[if_neg hv];lia
def Qb (lo hi:Option Int)(n:Nat):Builtin.Slice.sliceAdjust lo hi 1 (n:Int)=(((sIx n 0 lo:Nat):Int),((sIx n n hi:Nat):Int)):=by
 have h1:¬ ((1:Int)<0):=by lia
 unfold Builtin.Slice.sliceAdjust;simp only[h1,xm_];refine Prod.ext ?_ ?_
 ·cases lo with
  |none=>rfl
  |some v=>exact Q2 v n 0
 ·cases hi with
  |none=>rfl
  |some v=>exact Q2 v n n
def Qc (i j:Nat):Builtin.Slice.slicePlaces (i:Int) (j:Int) 1=j-i:=by
 unfold Builtin.Slice.slicePlaces;have h1:(1:Int) > 0:=by lia
 simp only[h1,xR_,sI];split<;>lia
def LS (p:IsPart v o)(h:Q o s):wpAny (model prog w) A (Builtin.Slice.slicePartIndex v) Q E s:=by
 cases p with
 |none=>exact slicePart_none h
 |int i t=>exact slicePart_int h
def Ff {sl:Addr}{vl vu:Value}{lo hi:Option Int}{n:Nat}{Q:Int×Int×Nat->Shared->Prop}(hs:s.heap.IsSliceOf sl vl vu .none)(pl:IsPart vl lo)(pu:IsPart vu hi)
  (h:Q (((sIx n 0 lo:Nat):Int),1,sIx n n hi-sIx n 0 lo) s):wpAny (model prog w) A (Builtin.Slice.sliceApplied (.ref sl) (pure (n:Int))) Q E s:=by
 obtain⟨os,fo,eQ,iH⟩:=id hs;unfold Builtin.Slice.sliceApplied Builtin.Slice.sliceFields;refine ja_ (ja_ (j9_ fo iH (x:=vl) rfl (ja_ (j9_ fo iH (x:=vu) rfl (ja_ (j9_ fo iH (x:=.none) rfl (jf_ ?_)))))));refine ja_ (slicePart_none ?_);show wpAny _ _ (if ((1:Int)==0)=true then _ else _) _ _ s;rw[if_neg (by decide)];refine ja_ (LS pl (ja_ (LS pu (ja_ (jf_ ?_)))));show wpAny _ _ (match Builtin.Slice.sliceAdjust lo hi 1 (n:Int) with|(lo,hi)=>pure (lo,(1:Int),Builtin.Slice.slicePlaces lo hi 1)) _ _ s;rw[Qb lo hi n];show wpAny _ _ (pure (((sIx n 0 lo:Nat):Int),(1:Int),Builtin.Slice.slicePlaces ((sIx n 0 lo:Nat):Int) ((sIx n n hi:Nat):Int) 1)) _ _ s;rw[Qc];exact jf_ h
def Tj (xs:Array Value)(i k:Nat):((oX k).filterMap fun (m:Nat)=>xs[((i:Int)+(m:Int)*1).toNat]?).toArray=((xs.toList.drop i).take k).toArray:=by
 have e:(fun (m:Nat)=>xs[((i:Int)+(m:Int)*1).toNat]?)=fun m=>xs[i+m]?:=by
  funext m
  have:((i:Int)+(m:Int)*1).toNat=i+m:=by lia
  rw[this]
 rw[e];have:=pick_run xs i k;rw[List.filterMap_map]at this;have e2:((fun x=>xs[x]?) ∘ fun x=>i+x)=fun m=>xs[i+m]?:=rfl;rw[e2]at this;rw[this]
def getItem_tuple_cut {t sl:Addr} {lo hi:Option Int} (ht:IsTup s.heap t items)(hs:s.heap.IsSliceOf sl vl vu .none)(pl:IsPart vl lo)(pu:IsPart vu hi)
  (hw:¬ (sIx items.size 0 lo=0/\sIx items.size items.size hi=items.size))
  (h:Q (.ref s.heap.objs.size) {s with heap:=s.heap.push {cls:=.type "tuple",data:=.seq ((items.toList.drop (sIx items.size 0 lo)).take (sIx items.size items.size hi-sIx items.size 0 lo)).toArray} })
  (hsz:items.size<=sizeLine):wpAny (model prog w) A (getItem (.ref t) (.ref sl)) Q E s:=by
 have eF:sizeOk (.seq ((items.toList.drop (sIx items.size 0 lo)).take (sIx items.size items.size hi-sIx items.size 0 lo)).toArray):=by
  show ((items.toList.drop (sIx items.size 0 lo)).take (sIx items.size items.size hi-sIx items.size 0 lo)).toArray.size<=sizeLine;rw[jn_,jI_,qw_,qt_];lia
 have hj:sIx items.size items.size hi<=items.size:=Xs _ _ (jh_ _) hi;obtain⟨os,fo,eQ,iH⟩:=id hs;have mY:s.TypeIs (.ref sl) "slice" := ⟨os,fo,eQ⟩;unfold getItem
 try with_reducible refine q7_ ?_
 first|refine ja_ (jf_ ?_)|skip
 refine ja_ (wpAny_sequenceKey ht.typeIs (by decide) ?_);refine ja_ (jS_ (name:=Str.ofString "__getitem__") ht.typeIs qa_
  (jZ_ qa_ ht.typeIs entry_tuple_getitem ?_ (args_tuple_getitem _ _)))
 show wpAny _ _ (Builtin.Tuple.tupleItemsOf (.ref t) >>= _) _ _ s;refine ja_ (tupleItemsOf_ ht ?_);refine ja_ (zM_ mY ?_);rw[if_pos (by decide)];refine ja_ (Ff hs pl pu ?_);have bT:¬ ((((sIx items.size 0 lo:Nat):Int)==0&&(1:Int)==1&&(sIx items.size items.size hi-sIx items.size 0 lo)==items.size)=true):=by
  intro q;rw[j1_,j1_]at q;have q1:((sIx items.size 0 lo:Nat):Int)=0:=eq_of_beq q.1.1;have q2:sIx items.size items.size hi-sIx items.size 0 lo=items.size:=eq_of_beq q.2;exact hw ⟨by lia,by lia⟩
 show wpAny _ _ (if (((sIx items.size 0 lo:Nat):Int)==0&&(1:Int)==1&&(sIx items.size items.size hi-sIx items.size 0 lo)==items.size)=true then _ else _) _ _ s;rw[if_neg bT,Tj]
 first
  | exact ja_ (m:=Builtin.Tuple.tupleExact _) (jT_ (jf_ ⟨_,rfl,jf_ h⟩) eF)
  | exact ja_ (m:=Builtin.Tuple.tupleExact _) (jT_ (ja_ (jf_ (jf_ ⟨_,rfl,jf_ h⟩))) eF)
  | exact ja_ (ja_ (m:=Builtin.Tuple.tupleExact _) (jT_ (jf_ (jf_ ⟨_,rfl,jf_ h⟩)) eF))
  | exact ja_ (ja_ (m:=Builtin.Tuple.tupleExact _) (jT_ (jf_ ⟨_,rfl,jf_ h⟩) eF))
end
end HT
namespace L2
open PySem PySem.Spec PyProof.Rows
noncomputable abbrev TO:=St->Hp->(Option Int->Hp->Prop)->Prop
noncomputable def PO (X:Cx)(e:Option Expr)(t:TO):Prop:=
 ∀(aa:α7) (s:Shared) (σ:St) (H:Hp) (Q:Option Int->Hp->Prop),Inv X aa σ H s->t σ H Q ->
  wpAny (model X.prog X.w) X.A (evalPart e X.env) (fun u s'=>∃o H',Inv X aa σ H' s'/\IsPart u o/\Q o H') X.xe s
noncomputable def Q3:TO:=fun _ H Q=>Q none H
noncomputable def Xt (t:TE):TO:=fun σ H Q=>t σ H fun x H1=>∃i,x=.int i/\Q (some i) H1
def intsAre_of : ∀{us:List Value},Vals (ns.map V.int) us->IntsAre us ns:=by
 induction ns with
 |nil=>intro us r;rw[xS_]at r;cases r;exact .nil
 |cons n ns ih=>
  intro us r;rw[jR_]at r;cases r with
  |cons r1 r2=>
   obtain⟨t,e⟩:=r1;subst e;exact .cons n t (ih r2)
section
variable {X:Cx} {e:Expr} {te:TE} {lo hi:Option Expr} {tl th:TO} {pos p2:Pos}
def C3:PO X none Q3:=by
 intro aa s σ H Q I h;rw[evalPart_none];exact jf_ ⟨none,H,I,.none,h⟩
def C4 (h:PE X e te):PO X (some e) (Xt te):=by
 intro aa s σ H Q I hw;rw[evalPart_some];refine thn (h aa s σ H _ I hw) fun u s1 ⟨x,H1,I1,r1,q1⟩=>?_;obtain⟨i,rfl,q⟩:=q1;obtain⟨t,rfl⟩:=r1;exact⟨some i,H1,I1,.int i t,q⟩
noncomputable def SlR (X:Cx)(r:V->Option Int->Option Int->Hp->VK->Prop):Prop:=
 ∀(aa:α7) (s:Shared) (σ:St) (H:Hp) (x:V) (v vl vu:Value) (lo hi:Option Int) (sl:Addr) (Q:VK),Inv X aa σ H s->RelV x v->s.heap.IsSliceOf sl vl vu .none->IsPart vl lo->IsPart vu hi->r x lo hi H Q ->
  ∃T id,typeLookup (.type T) "__getitem__"=pure (some (.builtin id))/\s.TypeIs v T/\wpAny (model X.prog X.w) X.A (getItem v (.ref sl)) (EP X aa σ Q) X.xe s
noncomputable def tSl (r:V->Option Int->Option Int->Hp->VK->Prop)(te:TE)(tl th:TO):TE:=fun σ H Q=>te σ H fun x H1=>tl σ H1 fun l H2=>th σ H2 fun u H3=>r x l u H3 Q
def BV (hr:SlR X r)(he:PE X e te)(hl:PO X lo tl)(hu:PO X hi th):PE X (.Subscript e (.Slice lo hi none p2) pos) (tSl r te tl th):=by
 intro aa s σ H Q I h;refine Subscript_ (thn (he aa s σ H _ I h) fun v s1 ⟨x,H1,I1,r1,q1⟩=>?_);refine wpAny_Slice (thn (hl aa s1 σ H1 _ I1 q1) fun vl s2 ⟨l,H2,I2,pl,q2⟩=>thn (hu aa s2 σ H2 _ I2 q2) fun vu s3 ⟨u,H3,I3,pu,q3⟩=>?_);rw[evalPart_none];refine jf_ ?_;have I4:Inv X aa σ H3 {s3 with heap:=s3.heap.push {cls:=.type "slice",data:=.fields #[vl,vu,.none]} }:=I3.kept (t':=s3.toks) fun b ob q=>jd_ _ q;obtain⟨T,id,hT,ht,hg⟩:=hr aa {s3 with heap:=s3.heap.push {cls:=.type "slice",data:=.fields #[vl,vu,.none]} } σ H3 x v vl vu l u s3.heap.objs.size Q I4 r1 (Heap.IsSliceOf.new ..) pl pu q3;show wpAny (model X.prog X.w) X.A (subscriptTail e (.Slice lo hi none p2) v (.ref s3.heap.objs.size)) (EP X aa σ Q) X.xe {s3 with heap:=s3.heap.push {cls:=.type "slice",data:=.fields #[vl,vu,.none]} };exact tail_any (ops:=[.ref s3.heap.objs.size,v]) ht hT hg (by with_unfolding_all rfl)
noncomputable def cutV (xs:List V)(lo hi:Option Int):List V:=(xs.drop (HT.sIx xs.length 0 lo)).take (HT.sIx xs.length xs.length hi-HT.sIx xs.length 0 lo)
def Of (xs:List V)(lo hi:Option Int):(cutV xs lo hi).length<=xs.length:=by
 unfold cutV;rw[jI_,qw_];lia
noncomputable def rSlT (K:α3):V->Option Int->Option Int->Hp->VK->Prop:=fun x lo hi H Q=>∃a xs,x=.ref a/\SqT K H a xs /\
 ¬ (HT.sIx xs.length 0 lo=0/\HT.sIx xs.length xs.length hi=xs.length)/\∀p,H p=none->Q (.ref p) (upd H p (.tup (cutV xs lo hi)))
def UQ:SlR X (rSlT X.K):=by
 intro aa s σ H x v vl vu lo hi sl Q I rx hs pl pu h;obtain⟨a,xs,rfl,hx,hw,q⟩:=h;cases rx;obtain⟨ah,r,ht,hz⟩:=I.tuple hx;have ak:ah.toArray.size=xs.length:=by rw[jn_];exact r.length.symm
 refine⟨"tuple",_,qa_.lookup,ht.typeIs,?_⟩;refine HT.getItem_tuple_cut ht hs pl pu (by rw[ak];exact hw) ?_ (by rw[ak];exact hz);rw[ak];refine⟨.ref s.heap.objs.size,_,I.laid (t':=s.toks) (o:=.tup (cutV xs lo hi)) (fun b ob q=>jd_ _ q) (jh_ _) ?_,rfl,q _ (I.hok.fresh (jh_ _))⟩;exact⟨qg_ (Of xs lo hi) hz,_,(r.drop (HT.sIx xs.length 0 lo)).take (HT.sIx xs.length xs.length hi-HT.sIx xs.length 0 lo),IsTup.new _ _⟩
noncomputable def YK (K:α3):R2:=fun x y H Q=>∃a b xs ys,x=.ref a/\y=.ref b/\SqT K H a xs/\SqT K H b ys/\xs ≠ []/\xs.length+ys.length<=sizeLine /\
 (ys=[]->Q (.ref a) H)/\(ys ≠ []->∀p,H p=none->Q (.ref p) (upd H p (.tup (xs++ys))))
def Vals.nil_iff (r:Vals xs us):us=[]↔xs=[]:=by
 cases r with
 |nil=>simp
 |cons _ _=>simp
def V6:OpR X (binaryOp .Add) (YK X.K):=by
 intro aa s σ H x y v u Q I rx ry h;obtain⟨a,b,xs,ys,rfl,rfl,ha,hb,hx,hz,q1,q2⟩:=h;cases rx;cases ry;obtain⟨ah,r1,p1,_⟩:=I.tuple ha;obtain⟨aL,r2,p2,_⟩:=I.tuple hb;refine HT.cat_tup p1 p2 (fun z=>hx (r1.nil_iff.mp z)) (fun z=>⟨.ref a,H,I,rfl,q1 (r2.nil_iff.mp z)⟩) (fun z=>?_) (by rw[<-r1.length,<-r2.length];exact hz);refine⟨.ref s.heap.objs.size,_,I.laid (t':=s.toks) (o:=.tup (xs++ys)) (fun b ob q=>jd_ _ q) (jh_ _) ?_,rfl,q2 (fun w=>z (r2.nil_iff.mpr w)) _ (I.hok.fresh (jh_ _))⟩;exact⟨by rw[js_];exact hz,_,r1.append r2,IsTup.new _ _⟩
end
end L2
namespace L2
open PySem PySem.Spec PyProof.Rows
noncomputable def ixN (n:Nat)(i:Int):Option Nat:=if 0<=i then (if i<n then some i.toNat else none) else if -(n:Int)<=i then some (i+n).toNat else none
noncomputable def atI {α:Type}(xs:List α)(i:Int):Option α:=(ixN xs.length i).bind fun j=>xs[j]?
def V7 (h:ixN n i=some j):seqIndex? i n=some j/\j<n /\ -(n:Int)<=i/\i<n:=by
 unfold ixN at h;by_cases h0:0<=i
 ·rw[if_pos h0]at h;by_cases h1:i<n
  ·rw[if_pos h1]at h;have e:i.toNat=j:=ju_ h;exact⟨by rw[seqIndex_of h0 h1,e],by lia,by lia,h1⟩
  ·rw[if_neg h1]at h;cases h
 ·rw[if_neg h0]at h;by_cases h1 : -(n:Int)<=i
  ·rw[if_pos h1]at h;have e:(i+n).toNat=j:=ju_ h;exact⟨by rw[seqIndex_neg s!"" h1,e],by lia,h1,by lia⟩
  ·rw[if_neg h1]at h;cases h
def Q4 (h:atI xs i=some v):∃j,seqIndex? i xs.length=some j/\xs[j]?=some v/\j<xs.length /\ -(xs.length:Int)<=i/\i<xs.length:=by
 unfold atI at h;cases e:ixN xs.length i with
 |none=>rw[e]at h;cases h
 |some j=>
  rw[e]at h;obtain⟨h1,h2,h3,h4⟩:=V7 e;exact⟨j,h1,h,h2,h3,h4⟩
def EK {α:Type}{xs:List α}{j:Nat}{v:α}(h:xs[j]?=some v):atI xs (j:Int)=some v:=by
 have hj:j<xs.length:=(jg_.mp h).1;have e:ixN xs.length (j:Int)=some j:=by
  unfold ixN;rw[if_pos s!"",if_pos s!""];simp
 unfold atI;rw[e];exact h
noncomputable def Q5 (b:Expr):Prop:=∀o i,subscripted b false o i=operate [o,i] (getItem o i)
noncomputable def IxR (X:Cx)(r:R2):Prop:=
 ∀(value bO:Expr) (aa:α7) (s:Shared) (σ:St) (H:Hp) (x y:V) (v u:Value) (Q:VK),Inv X aa σ H s->RelV x v->RelV y u->r x y H Q ->
  subscripted bO false v u=operate [v,u] (getItem v u)->wpAny (model X.prog X.w) X.A (subscriptTail value bO v u) (EP X aa σ Q) X.xe s
noncomputable def MtR (X:Cx)(id:String)(r:V->List V->Hp->VK->Prop):Prop:=
 ∀(aa:α7) (s:Shared) (σ:St) (H:Hp) (x:V) (xs:List V) (v:Value) (us:List Value) (Q:VK),Inv X aa σ H s->RelV x v->Vals xs us->r x xs H Q ->
  wpAny (model X.prog X.w) X.A (call (.builtin id) (v::us)) (EP X aa σ Q) X.xe s
section
variable {X:Cx} {a b:Expr} {ta tb:TE} {pos:Pos}
def YL (hr:IxR X r)(ha:PE X a ta)(hb:PE X b tb)(hs:Q5 b):PE X (.Subscript a b pos) (tOp r ta tb):=by
 intro aa s σ H Q I h;exact Subscript_ (binT ha hb I h fun v u s2 x y H2 I2 rx ry q=>hr a b aa s2 σ H2 x y v u Q I2 rx ry q (hs _ _))
noncomputable def rIxL (K:α3):R2:=fun x y H Q=>∃p xs i v,x=.ref p/\y=.int i/\SqL K H p xs/\atI xs i=some v/\Q v H
noncomputable def rIxT (K:α3):R2:=fun x y H Q=>∃p xs i v,x=.ref p/\y=.int i/\SqT K H p xs/\atI xs i=some v/\Q v H
def FF:IxR X (rIxL X.K):=by
 intro value bO aa s σ H x y v u Q I rx ry h hs;obtain⟨p,xs,i,z,rfl,rfl,hq,he,q⟩:=h;cases rx;obtain⟨t,rfl⟩:=ry;obtain⟨ah,r,pl,hz⟩:=I.list hq;obtain⟨j,h1,h2,h3,h4,h5⟩:=Q4 he;obtain⟨w,ew,dR⟩:=r.get h2;have hl:=r.length;have hn:=QV;have fin:EP X aa σ Q w s:=⟨z,H,I,dR,q⟩;by_cases h0:0<=i
 ·have hj:i.toNat=j:=by
   rw[seqIndex_of h0 h5]at h1;exact ju_ h1
  exact item_listR pl.isList h0 s!"" (by rw[hj];simpa using ew) fin hs
 ·have hj:(i+(ah.toArray.size:Int)).toNat=j:=by
   rw[seqIndex_neg s!"" h4]at h1;rw[jn_,<-hl];exact ju_ h1
  exact subscriptTail_builtinR (x:=w) pl.isList.typeIs slot_list_getitem.lookup
   (wpAny_getItem_list_neg (Q:=fun r s'=>r=w/\EP X aa σ Q r s') pl.isList s!"" (by rw[jn_]<;>lia) s!"" (by rw[hj];simpa using ew) ⟨rfl,fin⟩) hs
def Ay:IxR X (rIxT X.K):=by
 intro value bO aa s σ H x y v u Q I rx ry h hs;obtain⟨p,xs,i,z,rfl,rfl,hq,he,q⟩:=h;cases rx;obtain⟨t,rfl⟩:=ry;obtain⟨ah,r,pl,hz⟩:=I.tuple hq;obtain⟨j,h1,h2,h3,h4,h5⟩:=Q4 he;obtain⟨w,ew,dR⟩:=r.get h2;have hl:=r.length;have hn:=QV;have fin:EP X aa σ Q w s:=⟨z,H,I,dR,q⟩;exact subscriptTail_builtinR (x:=w) pl.typeIs slot_tuple_getitem.lookup
  (getItem_tuple (j:=j) (Q:=fun r s'=>r=w/\EP X aa σ Q r s') pl s!"" s!"" (by rw[jn_,<-hl];exact h1) (by simpa using ew) ⟨rfl,fin⟩) hs
noncomputable def Ft:V->Bool
 |.non=>true
 |.bl _=>true
 |.int _=>true
 |.str _=>true
 |_=>false
noncomputable def eqV:V->V->Bool
 |.non,.non=>true
 |.bl a,.bl b=>a==b
 |.bl a,.int b=>(if a then 1 else 0)==b
 |.int a,.bl b=>a==(if b then 1 else 0)
 |.int a,.int b=>a==b
 |.str a,.str b=>a==b
 |_,_=>false
def Q6 (ry:RelV y u)(rx:RelV x v)(fy:Ft y=true)(fx:Ft x=true):SeqAt.EqAt A s u v (eqV y x):=by
 cases y with
 |non=>
  cases ry;cases x with
  |non=>cases rx;exact SeqAt.EqAt.same _
  |bl b=>cases rx;exact SeqAt.EqAt.none_bool b
  |int b=>obtain⟨t,rfl⟩:=rx;exact SeqAt.EqAt.none_int b t
  |str b=>obtain⟨t,rfl⟩:=rx;exact SeqAt.EqAt.none_str b t
  |_=>exact absurd (show false=true from fx) jj_
 |bl a=>
  cases ry;cases x with
  |non=>cases rx;exact SeqAt.EqAt.bool_none a
  |bl b=>cases rx;exact SeqAt.EqAt.bool_bool a b
  |int b=>obtain⟨t,rfl⟩:=rx;exact SeqAt.EqAt.bool_int a b t
  |str b=>obtain⟨t,rfl⟩:=rx;exact SeqAt.EqAt.bool_str a b t
  |_=>exact absurd (show false=true from fx) jj_
 |int a=>
  obtain⟨t',rfl⟩:=ry;cases x with
  |non=>cases rx;exact SeqAt.EqAt.int_none a t'
  |bl b=>cases rx;exact SeqAt.EqAt.int_bool a t' b
  |int b=>obtain⟨t,rfl⟩:=rx;exact SeqAt.EqAt.int_int a t' b t
  |str b=>obtain⟨t,rfl⟩:=rx;exact SeqAt.EqAt.int_str a t' b t
  |_=>exact absurd (show false=true from fx) jj_
 |str a=>
  obtain⟨t',rfl⟩:=ry;cases x with
  |non=>cases rx;exact SeqAt.EqAt.str_none a t'
  |bl b=>cases rx;exact SeqAt.EqAt.str_bool a t' b
  |int b=>obtain⟨t,rfl⟩:=rx;exact SeqAt.EqAt.str_int a t' b t
  |str b=>obtain⟨t,rfl⟩:=rx;exact SeqAt.EqAt.str_str a t' b t
  |_=>exact absurd (show false=true from fx) jj_
 |_=>exact absurd (show false=true from fy) jj_
noncomputable def eqU (x:V)(u:Value):Bool:=match u with
 |.none=>eqV .non x
 |.bool b=>eqV (.bl b) x
 |.int i _=>eqV (.int i) x
 |.str z _=>eqV (.str z) x
 |_=>false
def UR (r:RelV y u)(f:Ft y=true):eqU x u=eqV y x:=by
 cases y with
 |non=>cases r;rfl
 |bl b=>cases r;rfl
 |int i=>obtain⟨t,rfl⟩:=r;rfl
 |str z=>obtain⟨t,rfl⟩:=r;rfl
 |_=>exact absurd (show false=true from f) jj_
def Og {x:V}:∀{xs:List V} {us:List Value},Vals xs us->xs.all Ft=true->us.any (eqU x)=xs.any fun y=>eqV y x
 |_,_,.nil,_=>rfl
 |y::xs,u::us,.cons r t,f=>by
  rw[sk,j1_]at f;rw[z2_,z2_,UR r f.1,Og t f.2]
def Mi {A:Around}{s:Shared}{x:V}{v:Value}(rx:RelV x v)(fx:Ft x=true):∀{xs:List V} {us:List Value},Vals xs us->xs.all Ft=true->∀u∈us,SeqAt.EqAt A s u v (eqU x u)
 |_,_,.nil,_=>fun u hu=>by cases hu
 |y::xs,u::us,.cons r t,f=>fun u' hu=>by
  rw[sk,j1_]at f;rcases jE_.mp hu with rfl|hu
  ·rw[UR r f.1];exact Q6 r rx f.1 fx
  ·exact Mi rx fx t f.2 u' hu
noncomputable def inV (x:V)(xs:List V):Bool:=xs.any fun y=>eqV y x
noncomputable def rIn (K:α3)(i9:Bool):R2:=fun x y H Q=>∃p xs,y=.ref p/\(SqL K H p xs\/SqT K H p xs)/\Ft x=true/\xs.all Ft=true/\Q (.bl (if i9 then !inV x xs else inV x xs)) H
def Q7:OpR X (compareOp .In) (rIn X.K false):=by
 intro aa s σ H x y v u Q I rx ry h;obtain⟨p,xs,rfl,hq,fx,fs,q⟩:=h;cases ry;rcases hq with hq|hq
 ·obtain⟨ah,r,pl,hz⟩:=I.list hq;refine SeqAt.in_listAt (eqU x) pl.isList (fun w hw=>Mi rx fx r fs w (by simpa using hw)) ⟨.bl _,H,I,rfl,?_⟩;rw[show ah.toArray.any (eqU x)=ah.any (eqU x) by simp,Og r fs];exact q
 ·obtain⟨ah,r,pl,hz⟩:=I.tuple hq;refine SeqAt.in_tupleAt (eqU x) pl (fun w hw=>Mi rx fx r fs w (by simpa using hw)) ⟨.bl _,H,I,rfl,?_⟩;rw[show ah.toArray.any (eqU x)=ah.any (eqU x) by simp,Og r fs];exact q
def AG:Er X (.builtin "len") (fun xs H Q=>∃p ys,xs=[.ref p]/\(SqL X.K H p ys\/SqT X.K H p ys)/\Q (.int ys.length) H):=by
 intro aa s σ H xs us Q I r h;obtain⟨p,ys,rfl,hq,q⟩:=h;obtain⟨u,rfl,rx⟩:=vals1 r;cases rx;have hn:=QV;rcases hq with hq|hq
 ·obtain⟨ah,r',pl,hz⟩:=I.list hq;have ak:=r'.length;exact Calls.call_len_list pl.isList (by simp only[jn_]<;>lia) ⟨.int ys.length,H,I.tok _,⟨s.toks+1,by rw[jn_,ak]⟩,q⟩
 ·obtain⟨ah,r',pl,hz⟩:=I.tuple hq;have ak:=r'.length;exact len_tuple pl (by simp only[jn_]<;>lia) ⟨.int ys.length,H,I.tok _,⟨s.toks+1,by rw[jn_,ak]⟩,q⟩
def Jx:Er X (.type "list") (fun xs H Q=>∃p ys,xs=[.ref p]/\(SqL X.K H p ys\/SqT X.K H p ys)/\∀l,H l=none->Q (.ref l) (upd H l (.lst ys))):=by
 intro aa s σ H xs us Q I r h;obtain⟨p,ys,rfl,hq,q⟩:=h;obtain⟨u,rfl,rx⟩:=vals1 r;cases rx;have fin:∀(ah:List Value),Vals ys ah->ys.length<=sizeLine->∀(h':Heap) (c':Nat),(∀b o',s.heap.get? b=some o'->h'.get? b=some o') ->
   h'.get? s.heap.objs.size=some {cls:=.type "list",dict:=none,data:=.seq ah.toArray c',slots := #[]}->EP X aa σ Q (.ref s.heap.objs.size) {s with heap:=h' }:=fun ah r' hz h' c' kp e=>
  ⟨.ref s.heap.objs.size,_,I.laid (t':=s.toks) kp (jh_ _) (show AY X.prog X.w _ h' _ (.lst ys) from ⟨hz,ah,c',r',e⟩),rfl,q _ (I.hok.fresh (jh_ _))⟩
 rcases hq with hq|hq
 ·obtain⟨ah,r',pl,hz⟩:=I.list hq;have ak:=r'.length;obtain⟨o,ho,hc,n,hd⟩:=pl.isList;exact call_list_seq p (.inl rfl) ho hc hd (fun h' c' kp e=>fin ah r' hz h' c' kp e) (by simp only[jn_]<;>lia)
 ·obtain⟨ah,r',pl,hz⟩:=I.tuple hq;have ak:=r'.length;obtain⟨o,ho,hc,n,hd⟩:=pl;exact call_list_seq p (.inr rfl) ho hc hd (fun h' c' kp e=>fin ah r' hz h' c' kp e) (by simp only[jn_]<;>lia)
def HS:Er X (.type "tuple") (fun xs H Q=>∃p ys,xs=[.ref p]/\((SqL X.K H p ys/\∀l,H l=none->Q (.ref l) (upd H l (.tup ys)))\/(SqT X.K H p ys/\Q (.ref p) H))):=by
 intro aa s σ H xs us Q I r h;obtain⟨p,ys,rfl,h⟩:=h;obtain⟨u,rfl,rx⟩:=vals1 r;cases rx;rcases h with ⟨hq,q⟩|⟨hq,q⟩
 ·obtain⟨ah,r',pl,hz⟩:=I.list hq;have ak:=r'.length;refine call_tuple_list pl.isList (fun h' kp=>?_) (by simp only[jn_]<;>lia);have I1:Inv X aa σ H {s with heap:=h' }:=I.kept (t':=s.toks) kp;have I2:Inv X aa σ (upd H h'.objs.size (.tup ys)) {s with heap:=h'.push {cls:=.type "tuple",data:=.seq ah.toArray} }:=
   I1.laid (t':=s.toks) (fun b o e=>jd_ _ e) (jh_ _) (show AY X.prog X.w _ _ _ (.tup ys) from ⟨hz,ah,r',IsTup.new _ _⟩)
  exact⟨.ref h'.objs.size,_,I2,rfl,q _ (I1.hok.fresh (jh_ _))⟩
 ·obtain⟨ah,r',pl,hz⟩:=I.tuple hq;exact call_tuple_same pl ⟨.ref p,H,I,rfl,q⟩
noncomputable def tyV (K:α3)(T:String)(x:V)(H:Hp):Prop:=match x with
 |.str _=>T = "str"
 |.int _=>T = "int"
 |.ref p=>(T = "list" /\ ∃xs,SqL K H p xs)\/(T = "tuple" /\ ∃o,K.lookup p=some o/\o.cls=.type "tuple" /\ o.dict=none) \/
   (T = "dict" /\ ((∃kvs,H p=some (.dK kvs)) \/ ∃kvs,H p=some (.dT kvs)))\/(T = "set" /\ ∃S n,H p=some (.set S n))
 |_=>False
def Xu (I:Inv X aa σ H s)(r:RelV x v)(ty:tyV X.K T x H):
  s.TypeIs v T/\∀a,v=.ref a->∃ob,s.heap.get? a=some ob/\ob.dict=none:=by
 cases x with
 |str z=>
  obtain⟨t,rfl⟩:=r;cases (show T = "str" from ty);exact⟨typeIs_str s z t,fun _ e=>nomatch e⟩
 |int i=>
  obtain⟨t,rfl⟩:=r;cases (show T = "int" from ty);exact⟨typeIs_int s i t,fun _ e=>nomatch e⟩
 |ref p=>
  cases r;rcases ty with ⟨rfl,xs,hq⟩|⟨rfl,o,hk,hc,hd⟩|⟨rfl,hk⟩|⟨rfl,S,n,hk⟩
  ·obtain⟨ah,_,pl,_⟩:=I.list hq;refine⟨pl.isList.typeIs,fun a e=>?_⟩;cases e;obtain⟨o,n,e,c,hd,_⟩:=pl;exact⟨o,e,hd⟩
  ·refine⟨⟨o,I.kIn p o hk,hc⟩,fun a e=>?_⟩;cases e;exact⟨o,I.kIn _ o hk,hd⟩
  ·have z:∃o,s.heap.get? p=some o/\o.ExactDict:=by
    rcases hk with ⟨kvs,hk⟩|⟨kvs,hk⟩
    ·obtain⟨_,_,_,_,o,_,_,e,ex,_⟩:=I.hok p _ hk;exact⟨o,e,ex⟩
    ·obtain⟨_,_,_,_,o,_,_,e,ex,_⟩:=I.hok p _ hk;exact⟨o,e,ex⟩
   obtain⟨o,e,ex⟩:=z;refine⟨⟨o,e,ex.1⟩,fun a e2=>?_⟩;cases e2;exact⟨o,e,ex.2.1⟩
  ·obtain⟨o,_,_,_,e,ex,_⟩:=I.hok p _ hk;refine⟨⟨o,e,ex.1⟩,fun a e2=>?_⟩;cases e2;exact⟨o,e,ex.2.1⟩
 |_=>exact pb ty
noncomputable def tBM (K:α3)(T:String)(r:V->List V->Hp->VK->Prop)(to:TE)(t:TA):TE:=fun σ H Q=>to σ H fun x H1=>tyV K T x H1/\t σ H1 fun xs H2=>r x xs H2 Q
variable {o e:Expr} {es:List Expr} {to:TE} {t:TA} {name:Str} {aJ aM:Pos} {T id:String} {r:V->List V->Hp->VK->Prop}
def Nl (pa:PlainAttrs T)(slot:Slot T name id)(hty:typeOf (.builtin id)=pure (.type "method_descriptor"))(hm:MtR X id r)(ho:PE X o to)(ha:PA X (e::es) t)
  (aW:attributeBase o name X.env (eval o X.env)=eval o X.env:=by rfl)
  (hfew:((backTo aM (starEach (e::es) X.env)).all (fun x => !x.1)&&(backToKw aM (keywordEach [] X.env)).all (fun x=>x.1.isSome)
   && decide ((e::es).length+([]:List Keyword).length+(if ([]:List Keyword).isEmpty then 0 else 1)<30))=true:=by rfl)
  (dj:(aJ.endLine==aM.line)=true:=by rfl) (hs:starEach (e::es) X.env=(false,eval e X.env)::starEach es X.env:=by rfl) (dS:(backTo aM (starEach es X.env)).any (·.1)=false:=by rfl):
  PE X (.Call (.Attribute o name aJ) (e::es) [] aM) (tBM X.K T r to t):=by
 intro aa s σ H Q I h;refine wpAny_Call_method_late aW hfew dj rfl (thn (ho aa s σ H _ I h) fun v s1 ⟨x,H1,I1,r1,ty,q1⟩=>?_);obtain⟨h1,h2⟩:=Xu I1 r1 ty;refine⟨T,id,pa,slot,hty,h1,h2,?_⟩;have hA:=ha aM aa s1 σ H1 _ I1 q1;rw[hs]at hA ⊢;refine xn_ (by show (false||(backTo aM (starEach es X.env)).any (·.1))=false;rw[dS]<;>rfl) (x2_ ?_);exact thn hA fun us s2 ⟨vs,H2,I2,r2,q2⟩=>hm aa s2 σ H2 x vs v us Q I2 r1 r2 q2
/- xs.append(e),list.index on a module's tuple .. are MtR facts of 06m -/
end
end L2
namespace L2
open PySem PySem.Spec PyProof.Rows
noncomputable def MtM (X:Cx)(id:String)(r:V->List V->Hp->VK->Prop):Prop:=
 ∀(aa:α7) (s:Shared) (σ:St) (H:Hp) (x:V) (xs:List V) (v:Value) (us:List Value) (Q:VK),Inv X aa σ H s->RelV x v->Vals xs us->r x xs H Q ->
  wpAny (model X.prog X.w) X.A (call (.builtin id) (v::us)) (EP X aa σ Q) X.xe s
def Vals.one:∀{x:V} {us:List Value},Vals [x] us->∃u,us=[u]/\RelV x u
 |_,_,.cons r .nil=>⟨_,rfl,r⟩
def Vals.eraseIdx:∀{xs:List V} {us:List Value} (i:Nat),Vals xs us->Vals (xs.eraseIdx i) (us.eraseIdx i)
 |_,_,_,.nil=>.nil
 |_,_,0,.cons _ t=>t
 |_,_,i+1,.cons r t=>.cons r (Vals.eraseIdx i t)
def Vals.rep {xs:List V}{us:List Value}(h:Vals xs us):∀k:Nat,Vals (oW k xs).flatten (oW k us).flatten
 |0=>.nil
 |k+1=>by
  rw[qN_,qN_,xZ_,xZ_];exact Vals.append h (Vals.rep h k)
def Nm {α:Type}:∀(l:List α) (i:Nat),(l.eraseIdx i).length<=l.length
 |[],_=>jh_ _
 |_::_,0=>wp_ _
 |_::r,i+1=>rf (Nm r i)
def foldl_rep (ah:List Value):∀(k:Nat) (acc:List Value),
  rF (fun x1 x2=>x1++x2) acc.toArray (oW k ah.toArray)=(acc++(oW k ah).flatten).toArray
 |0,acc=>by simp
 |k+1,acc=>by
  have e:acc.toArray++ah.toArray=(acc++ah).toArray:=by simp
  have e2:(acc++ah)++(oW k ah).flatten=acc++(oW (k+1) ah).flatten:=by
   rw[qN_,xZ_,wk_]
  rw[<-e2,<-foldl_rep ah k (acc++ah),<-e,qN_,xT_]
section
variable {X:Cx} {aa:α7} {σ:St} {H:Hp} {s:Shared} {l b:Addr} {xs ys zs:List V}
def Inv.lset {ah its':List Value}{n:Nat}{f:Array Value->Array Value}{t':Nat}(I:Inv X aa σ H s)(hH:H l=some (.lst xs))
  (e:s.heap.get? l=some {cls:=.type "list",data:=.seq ah.toArray n}) (hf:f ah.toArray=its'.toArray) (hv:Vals ys its') (hz:ys.length<=sizeLine):
  Inv X aa σ (upd H l (.lst ys)) {s with heap:=s.heap.update l (Obj.mapSeq f),toks:=t' }:=by
 have q:=pR e f;rw[hf]at q;refine I.write (x:=l) (e:=l) (by rw[hH];exact trivial) (.inl rfl) (fun b' u hb hu=>(ql_ s.heap (Obj.mapSeq f) (qp_ hb)).trans hu) ⟨_,q⟩ ?_;exact⟨hz,its',_,hv,q⟩
def Inv.lnew (I:Inv X aa σ H s)(hv:Vals ys ah)(hz:ys.length<=sizeLine):
  Inv X aa σ (upd H s.heap.objs.size (.lst ys)) {s with heap:=s.heap.push {cls:=.type "list",data:=.seq ah.toArray},toks:=t' }:=
 I.laid (fun _ _ q=>jd_ _ q) (jh_ _) ⟨hz,ah,0,hv,jp_ _ rfl⟩
def Inv.fresh (I:Inv X aa σ H s):H s.heap.objs.size=none:=I.hok.fresh (jh_ _)
def Inv.lstM (I:Inv X aa σ H s)(hH:H l=some (.lst xs)):xs.length<=sizeLine/\∃(ah:List Value) (n:Nat),Vals xs ah/\xs.length=ah.length/\s.heap.get? l=some {cls:=.type "list",data:=.seq ah.toArray n}:=by
 obtain⟨z,ah,n,r,e⟩:=I.hok l _ hH;exact⟨z,ah,n,r,r.length,e⟩
end
section
variable {X:Cx}
noncomputable def Q8:V->List V->Hp->VK->Prop:=fun x vs H Q=>∃l xs y,x=.ref l/\vs=[y]/\H l=some (.lst xs)/\xs.length<sizeLine/\Q .non (upd H l (.lst (xs++[y])))
def Dz:MtM X "list.append" Q8:=by
 intro aa s σ H x vs v us Q I rx rv h;obtain⟨l,xs,y,rfl,rfl,hH,hz,q⟩:=h;cases rx;obtain⟨u,rfl,ru⟩:=rv.one;obtain⟨z,ah,n,r,hl,e⟩:=I.lstM hH;refine zh_ F.slot_list_append ⟨_,e,rfl⟩ F.entry_list_append (z0_ _ _) (wl_ l ah.toArray n u (by rw[jn_];lia)) ⟨e,?_⟩;refine⟨.non,_,I.lset (its':=ah++[u]) hH e (by simp) (r.append (.cons ru .nil)) ?_,rfl,q⟩;rw[js_,jW_];lia
noncomputable def US:V->List V->Hp->VK->Prop:=fun x vs H Q=>∃l xs i k y,x=.ref l/\vs=[.int i]/\H l=some (.lst xs) /\ -(2 ^ 63)<=i/\i<2 ^ 63/\seqIndex? i xs.length=some k/\xs[k]?=some y/\Q y (upd H l (.lst (xs.eraseIdx k)))
def Tn:MtM X "list.pop" US:=by
 intro aa s σ H x vs v us Q I rx rv h;obtain⟨l,xs,i,k,y,rfl,rfl,hH,h1,h2,hk,hy,q⟩:=h;cases rx;obtain⟨u,rfl,ru⟩:=rv.one;obtain⟨t,rfl⟩:=ru;obtain⟨z,ah,n,r,hl,e⟩:=I.lstM hH;obtain⟨w,hw,dR⟩:=r.get hy;refine zh_ F.slot_list_pop ⟨_,e,rfl⟩ F.entry_list_pop (F.args_list_pop_2 _ _)
  (MeetsSeq.list_pop_at l ah.toArray n i t k w (fitsIndex_both h1 h2) (by rw[jn_,<-hl];exact hk) (by rw[<-qQ_];exact hw) (by rw[jn_];lia)) ⟨e,?_⟩
 refine⟨y,_,I.lset (its':=ah.eraseIdx k) hH e ?_ (r.eraseIdx k) ?_,dR,q⟩
 ·show ah.toArray.eraseIdxIfInBounds k=(ah.eraseIdx k).toArray;rw[List.eraseIdxIfInBounds_toArray]
 ·have:=Nm xs k;lia
noncomputable def rCat:R2:=fun x y H Q=>∃l b xs zs,x=.ref l/\y=.ref b/\H l=some (.lst xs)/\H b=some (.lst zs)/\xs.length+zs.length<=sizeLine/\∀p,H p=none->Q (.ref p) (upd H p (.lst (xs++zs)))
def Xv:OpR X (binaryOp .Add) rCat:=by
 intro aa s σ H x y v u Q I rx ry h;obtain⟨l,b,xs,zs,rfl,rfl,hH,hB,hz,q⟩:=h;cases rx;cases ry;obtain⟨z,ah,n,r,hl,e⟩:=I.lstM hH;obtain⟨z2,aL,n2,r2,dk,e2⟩:=I.lstM hB;refine PySem.P.add_list e e2 ?_ (by rw[jn_,jn_];lia);have ea:ah.toArray++aL.toArray=(ah++aL).toArray:=by simp
 rw[ea];exact⟨.ref _,_,I.lnew (t':=s.toks) (r.append r2) (by rw[js_];lia),rfl,q _ I.fresh⟩
def len_rep {α:Type}(xs:List α)(k:Nat):(oW k xs).flatten.length=k*xs.length:=by
 induction k with
 |zero=>simp
 |succ k ih=>rw[qN_,xZ_,js_,ih,qS,Nat.add_comm]
end
end L2
namespace Att
open PySem PySem.W PySem.Calls PyProof.Rows
def KL : ∀(ns:α2) (vs:List Value),WellAll P h vs (ns.map WData.int)->IntsAre vs ns:=by
 intro ns
 induction ns with
 |nil=>
  intro vs w;rw[xS_]at w;cases w;exact .nil
 |cons n ns ih=>
  intro vs w;rw[jR_]at w;cases w with
  |cons a b=>
   cases a;exact .cons _ _ (ih _ b)
def Q9 {l:OpenLaw}{n:Nat}(hn:l.most=some n){P:Params}{h:Heap}{args:List WData}{ja:List Value}
  (gU:l.row.toRowW.claim.pre args=true) (bU:WellAll P h ja args):
  ∃a vs ns,ja=[Value.ref a]/\args=[WData.list (ns.map WData.int)]/\h.get? a=some {cls:=.type "list",data:=.seq vs.toArray}/\IntsAre vs ns/\ns.length<=n:=by
 have hsh:WShape.hasAll [] args [.list .int]=true:=(pre_splitW gU).1;have hc:l.pre.holds [] {args:=args}=true:=(pre_splitW gU).2;obtain⟨d,r,rfl,h1,h2⟩:=hasAllW_cons hsh;obtain rfl:=hasAllW_nil h2;obtain⟨xs,rfl,h3⟩:=hasW_list h1;obtain⟨ns,rfl⟩:=items_int h3;have ak:ns.length<=n:=by
  unfold OpenLaw.pre at hc;have h4:(WTm.not (.lt (.lit (.int (n:Int))) (.len (.arg 0)))).holds [] {args:=[.list (ns.map .int)]}=true:=by
   have h4:=(holds_andW hc).1;rw[hn]at h4;exact h4
  have h5:=condW_of h4 (w_not (w_lt w_lit (w_len_list (w_arg rfl))));rw[jb_]at h5;refine zU_ fun q=>?_;have q':(n:Int)<((ns.length:Nat):Int):=by lia
  first
   | (rw[qx_ q']at h5;exact absurd h5 (by decide))
   | (simp at h5;lia)
 cases bU with
 |cons w1 w2=>
  cases w2;cases w1 with
  |list ho aE=>exact⟨_,_,ns,rfl,rfl,ho,KL ns _ aE,ak⟩
def Ra (l:OpenLaw)(args:List WData):l.row.toRowW.claim.post args (.bool true) args=true:=
 postW_of (r:=l.row.toRowW) (X:=(true==true))
  (show WShape.has [] (.bool true) .bool=true by first|rfl|decide|simp[WShape.has,WShape.arms,WShape.armsAll])
  (show (WTm.eq .res (.lit (.bool true))).value [] {args:=args,res:=some (.bool true),after:=args}=some (.bool (true==true)) from w_eq_bool (w_res rfl) w_lit) rfl
def attach_call {l:OpenLaw}{n:Nat}{q:Program}{cI:List Str}{XP:(Str->α5)->Heap->Prop}{YP:World->Heap->Prop}{d:DefRec}
  (hn:l.most=some n) (kK:d.params.defaults=[])
  (call:∀(w:World) (s₀ s₁:Shared) (mg mb:Str->α5) (fa:Addr) (o:Obj) (pm cd bY:Value) (a:Addr) (vs:List Value) (ns:α2),
   Ground q cI [] XP w s₀ mg mb s₁.heap->YP w s₁.heap ->
   s₁.heap.get? fa=some o->o.data=.func (docDef d.name d.params d.body d.scope pm cd bY)->s₁.heap.CodeRec cd d.name->mg d.name=some (.ref fa) ->
   s₁.heap.get? a=some {cls:=.type "list",data:=.seq vs.toArray}->IntsAre vs ns->ns.length<=n->s₁.gens = #[] ->
   codeAny (model l.prog w) callerA (.call (.ref fa) ⟨[.ref a],[]⟩) (fun r s'=>r=.ok (.ret (.bool true))/\OldK s₁.heap s'.heap/\s'.os=s₁.os/\AllBare s'.gens) s₁):
  WalkO q cI XP YP l.row.toRowW d [] (fun f vs=>rG f vs):=by
 intro w s₀ s₁ mg mb G Y fa o pm cd bY dV kV ho hd cy hD hmg hg args ja as gU hlay hrd bU gy;obtain rfl:dV=.none:=Dflts.none hD kK;obtain rfl:kV=.none:=Dflts.noKw hD;obtain⟨a,vs,ns,rfl,rfl,bM,fq,ak⟩:=Q9 hn gU bU;refine enter_call (we_ (call w s₀ s₁ mg mb fa o pm cd bY a vs ns G Y ho (fd_plain hd) cy hmg bM fq ak hg) fun r s' hq=>?_);obtain⟨rfl,h2,h3,h4⟩:=hq;exact⟨.inl ⟨.bool true,.bool true,[],rfl,fun _=>rfl,.bool true,Ra l _,fun _=>⟨List.Pairwise.nil,fun _ hm=>(nomatch hm)⟩⟩,h2,h3,h4⟩
end Att
namespace L2
open PySem PySem.Spec PyProof.Rows
def Nn:∀{vs:List Value} {ns:α2},IntsAre vs ns->Vals (ns.map V.int) vs
 |_,_,.nil=>.nil
 |_,_,.cons n t h=>.cons ⟨t,rfl⟩ (Nn h)
noncomputable def Only (H:Hp):Prop:=∀b,H b=none \/ ∃o xs,H b=some (.frz o (.lst xs))
def To {K:α3}
  (KX:K.In s₁.heap) (kL:s₁.heap.Ns mainGlobals mg) (hb:s₁.heap.Ns builtinsNs mb) (hbb:∀x:Str,x ≠ "__name__" -> mb x=bootBuiltins x) (hlim:s₁.heap.NoLimit) (hg:s₁.gens = #[])
  (ha:s₁.heap.get? a=some {cls:=.type "list",data:=.seq vs.toArray}) (hi:IntsAre vs ns) (hl:ns.length<=sizeLine) (hr:Room k callerA)
  (F:∀base:Heap,K.In base->base.Ns mainGlobals mg->FnOk P w K mg base CX k fa fd [x] sp) (hbind:∀(s:Shared) (u:Value),BindsTo s fd ⟨[u],[]⟩ [(x,u)])
  (cz:∀H:Hp,Only H->SqL K H a (ns.map V.int)->sp [.ref a] H (fun v _=>v=.bl true) fun _ _ _=>False)
  (mZ:∀H e s',CX [] H s₁ (fun _ _ _=>False) e s'->False):
  codeAny (model P w) callerA (.call (.ref fa) ⟨[.ref a],[]⟩) (fun r s'=>r=.ok (.ret (.bool true))/\OldK s₁.heap s'.heap/\s'.os=s₁.os/\AllBare s'.gens) s₁:=by
 have rv:=Nn hi;have lenV:=hi.length
 -- from an abstract heap in which nothing but fh script may be bq
 have core:∀H:Hp,Only H->SqL K H a (ns.map V.int)->HOk P w H s₁.heap->(∀b,H b≠none->b=a)->(H a≠none->K.lookup a=none) ->
   codeAny (model P w) callerA (.call (.ref fa) ⟨[.ref a],[]⟩) (fun r s'=>r=.ok (.ret (.bool true))/\OldK s₁.heap s'.heap/\s'.os=s₁.os/\AllBare s'.gens) s₁:=by
  intro H hO hS hok hA hK;have base_of:∀{b:Addr} {o:Obj},s₁.heap.get? b=some o->H b=none->(hidT s₁.heap H).get? b=some o:=fun e n=>Ta e n;have kJ:∀{b:Addr} {o:Obj} {es:Array DictEntry} {ep:Nat},s₁.heap.get? b=some o->o.data=.dict es ep->H b=none:=fun {b o es ep} e d=>by
   cases q:H b with
   |none=>rfl
   |some u=>
    have e':b=a:=hA b (by rw[q];simp);subst e';rw[ha]at e;cases e;have d':Data.seq vs.toArray _=Data.dict es ep:=d;cases d'
  have me:∀{b:Addr} {m:Str->α5},s₁.heap.Ns b m->(hidT s₁.heap H).Ns b m:=fun {b m} ⟨o,es,ep,e,d,r⟩=>⟨o,es,ep,base_of e (kJ e d),d,r⟩;have hKb:K.In (hidT s₁.heap H):=fun b o e=>base_of (KX b o e) (by
   cases q:H b with
   |none=>rfl
   |some u=>
    have e':b=a:=hA b (by rw[q];simp);subst e';rw[hK (by rw[q];simp)]at e;cases e)
  have hM:Mod K mg (hidT s₁.heap H):=⟨hKb,me kL,⟨mb,me hb,hbb⟩,let ⟨mc,h1,h2⟩:=hlim;⟨mc,me h1,h2⟩⟩;have e0:Env0 P w K mg (hidT s₁.heap H) callerA [] s₁ H:=⟨rfl,hM,fun b o e=>VU e,qQ (QL _ _),trivial,fun b hb=>absurd (show b∈([]:List Addr) from hb) (by simp),hok,.of_eq hg⟩;refine we_ ((F _ hKb (me kL)).run callerA [] s₁ H ⟨[.ref a],[]⟩ [.ref a] [.ref a] _ _ hr e0 (hbind s₁ (.ref a)) (.cons rfl .nil) (cz H hO hS)) fun r s' h=>?_;cases r with
  |error e=>exact (mZ H e s' h).elim
  |ok fl=>
   cases fl with
   |next=>exact pb h
   |brk=>exact pb h
   |cont=>exact pb h
   |ret u=>
    obtain⟨v,H',os,bare,un,hok',r',q⟩:=h;have q':v=.bl true:=q;subst q';obtain rfl:u=Value.bool true:=r';refine⟨rfl,OldK.of_keep fun b o e=>?_,os,bare⟩;cases q:H b with
    |none=>exact un.keep b o e q (by intro z;exact absurd (show b∈([]:List Addr) from z) (by simp)) (by simp)
    |some u=>
     rcases hO b with z|⟨ob,xs,z⟩
     ·rw[q]at z;cases z
     ·have z2:=un.frzs b ob _ z;obtain⟨e1,_⟩:=hok b _ z;obtain⟨e2,_⟩:=hok' b _ z2;rw[e]at e1;cases e1;exact e2
 cases hk:K.lookup a with
 |some o=>
  -- fh script is one of fh module's own objects
  have e:=KX a o hk;rw[ha]at e;cases e;refine core (fun _=>none) (fun _=>.inl rfl) (.inr ⟨_,vs.toArray,_,hk,rfl,rfl,rfl,by rw[jn_,lenV];exact hl,by simpa using rv⟩) (fun b u z=>by have z':(none:Option HO)=some u:=z;cases z') (fun b z=>absurd rfl z) fun z=>absurd rfl z
 |none=>
  refine core (fun b=>if b=a then some (.frz {cls:=.type "list",data:=.seq vs.toArray} (.lst (ns.map V.int))) else none) (fun b=>?_) (.inl (.inr ⟨{cls:=.type "list",data:=.seq vs.toArray},if_pos rfl⟩)) (fun b u z=>?_) (fun b z=>?_) fun _=>hk
  ·by_cases hb:b=a
   ·exact .inr ⟨_,_,if_pos hb⟩
   ·exact .inl (if_neg hb)
  ·by_cases hb:b=a
   ·have z':=(if_pos hb).symm.trans z;cases z';subst hb;exact⟨ha,by rw[jb_];exact hl,vs,_,rv,ha⟩
   ·have z':=(if_neg hb).symm.trans z;cases z'
  ·by_cases hb:b=a
   ·exact hb
   ·exact absurd (if_neg hb) z
def walk_of {l:qb}{n k:Nat}{q:Program}{cI:List Str}{XP:(Str->α5)->Heap->Prop}{YP:World->Heap->Prop}{d:DefRec}{K:Params->α3}{CX:World->CXT}{sp:World->Sp}{x:Str}
  (hn:l.most=some n) (jS:n<=sizeLine) (kK:d.params.defaults=[]) (hr:Room k callerA)
  (hY:∀(w:World) (h:Heap),YP w h->(K w.params).In h)
  (F:∀(w:World) (mg:Str->α5) (fa:Addr) (h:Heap),(K w.params).In h->h.Ns mainGlobals mg->mg d.name=some (.ref fa) ->
   ∃fd:α6,(∀(s:Shared) (u:Value),BindsTo s fd ⟨[u],[]⟩ [(x,u)]) /\
    ∀base:Heap,(K w.params).In base->base.Ns mainGlobals mg->FnOk l.prog w (K w.params) mg base (CX w) k fa fd [x] (sp w))
  (cz:∀(w:World) (H:Hp) (a:Addr) (ns:α2),ns.length<=n->Only H->SqL (K w.params) H a (ns.map V.int)->sp w [.ref a] H (fun v _=>v=.bl true) fun _ _ _=>False)
  (mZ:∀(w:World) (H:Hp) (s:Shared) (e:Value) (s':Shared),CX w [] H s (fun _ _ _=>False) e s'->False):
  sm q cI XP YP l.row.toRowW d [] (fun f vs=>rG f vs):=by
 refine Att.attach_call hn kK fun w s₀ s₁ mg mb fa o pm cd bY a vs ns G Y ho hd cy hmg bM fq ak hg=>?_;have KX:=hY w _ Y;obtain⟨fd,hb,hF⟩:=F w mg fa _ KX G.T.g hmg;exact To KX G.T.g G.T.b G.T.builtins G.T.nolimit hg bM fq (qg_ ak jS) hr hF hb (fun H hO hS=>cz w H a ns ak hO hS) fun H e s'=>mZ w H s₁ e s'
noncomputable def AR (s:Stmt)(j:Nat):Stmt:=match s with
 |.ClassDef _ _ _ body _ _ _ _ _ _ _=>body.getD j (.Pass ⟨0,0,0,0⟩)
 |_=>.Pass ⟨0,0,0,0⟩
noncomputable def IY (s:Stmt):Arguments:=match s with
 |.FunctionDef _ a _ _ _ _ _ _ _ _=>a
 |_=>{posonlyargs:=[],args:=[],vararg:=none,kwonlyargs:=[],kw_defaults:=[],kwarg:=none,defaults:=[]}
noncomputable def Ed (s:Stmt):List Stmt:=match s with
 |.FunctionDef _ _ b _ _ _ _ _ _ _=>b
 |_=>[]
noncomputable def Ah (s:Stmt):Scope:=match s with
 |.FunctionDef _ _ _ _ _ _ sc _ _ _=>sc
 |_=>{kind:=.function,names:=[],isGenerator:=false,isCoroutine:=false}
noncomputable abbrev CX0:CXT:=fun _ _ _ _ _ _=>False
noncomputable abbrev E0:XK:=fun _ _ _=>False
def An : FE CX0 X E0:=fun _ _ _ _ _ _ _ h=>h.elim
structure Fun (K:α3)(x qual:Str)(st:Stmt)(f:Addr)(fd:α6):Prop where
 ex:∃(oc:Value) (od:Option Addr) (kV bY pm:Value) (an:Option Addr) (ao ct:Value) (i7:Array (α5)),
  fd=fnOf x qual (IY st) (Ed st) (Ah st) .none kV bY pm an ao ct/\K.lookup f=some ⟨oc,od,.func fd,i7⟩/\qm K ao qual=true
 kp:keepIn K (.ref f)=true
section
variable {P:Program} {w:World} {K:α3} {mg:Str->α5} {base:Heap}
def Fun.ok {st:Stmt} (F:Fun K x qual st f fd)(S:FnScope N ps (Ah st))(len:∀vs H Q E,sp vs H Q E->vs.length=ps.length)
  (bf:∀(ao:Value) (A:Around) (outer:List Env) (s:Shared) (H:Hp) (vs:List V) (Q:VK) (E:XK),Room k (A.deeper (envOfC qual (Ah st) s.heap.objs.size f ao))->sp vs H Q E ->
   ∃t,PSs (cxOf CX0 P w K mg base N qual (Ah st) f ao A outer s H E).nox (Ed st) t/\t {nx:=fun _ H'=>Q .non H',rt:=Q} (start N vs) H):FnOk P w K mg base CX0 (k+1) f fd ps sp:=by
 obtain⟨oc,od,kV,bY,pm,an,ao,ct,i7,rfl,lk,cy⟩:=F.ex;refine Xr lk cy S len fun A outer s H vs Q E hr cz=>?_;obtain⟨t,h,q⟩:=bf ao A outer s H vs Q E hr cz;exact⟨t,h.nox,q⟩
def Fun.binds {st:Stmt} (F:Fun K x qual st f fd)
  (h:∀(kV bY pm:Value) (an:Option Addr) (ao ct:Value) (us:List Value),us.length=ps.length->bindArgs (fnOf x qual (IY st) (Ed st) (Ah st) .none kV bY pm an ao ct) ⟨us,[]⟩=pure (ps.zip us)):Binds K fd ps []:=by
 obtain⟨oc,od,kV,bY,pm,an,ao,ct,i7,rfl,lk,cy⟩:=F.ex;exact .all (h kV bY pm an ao ct)
def fun_mk {st:Stmt} {kV bY pm ao ct:Value}(l:K.lookup f=some ⟨oc,od,.func (fnOf x qual (IY st) (Ed st) (Ah st) .none kV bY pm an ao ct),i7⟩)
  (c:qm K ao qual=true) (k:keepIn K (.ref f)=true):Fun K x qual st f (fnOf x qual (IY st) (Ed st) (Ah st) .none kV bY pm an ao ct):=⟨⟨oc,od,kV,bY,pm,an,ao,ct,i7,rfl,l,c⟩,k⟩
end
def FG (hr:Room k A):A.units+1<cLine:=qI (Nat.add_le_add_left (by decide:1<=64) _) hr.units
section
variable {X:Cx}
def pv (i:Nat) (hN:X.N[i]?=some x:=by rfl)(hv:Vis X.env.scope x:=by first|exact o9 rfl|exact pJ (o9 rfl)|exact pJ (pJ rfl))(hd:(x==("__debug__" : Str))=false:=by decide)
  (cy:(x==("__classdict__" : Str))=false:=by decide):PE X (.Name x pos) (tVar i):=Xa hN hv hd cy
end
def ite2 {c A B:Prop}[Decidable c](h1:c->A)(h2:¬ c->B):if c then A else B:=by
 by_cases h:c
 ·rw[if_pos h];exact h1 h
 ·rw[if_neg h];exact h2 h
noncomputable def Same (H H':Hp):Prop:=∀b o,H b=some o->H' b=some o
def Same.refl (H:Hp):Same H H:=fun _ _ h=>h
def Same.trans {H H1 H2:Hp}(a:Same H H1)(b:Same H1 H2):Same H H2:=fun c o h=>b c o (a c o h)
def Same.seq {K:α3} (e:Same H H')(h:SqL K H a xs):SqL K H' a xs:=by
 rcases h with (h|⟨o,h⟩)|h
 ·exact .inl (.inl (e _ _ h))
 ·exact .inl (.inr ⟨o,e _ _ h⟩)
 ·exact .inr h
end L2
set_option maxHeartbeats 4000000
namespace L2
open PySem PySem.Spec PyProof.Rows
section
variable {κ:Type} [DecidableEq κ]
noncomputable def valV (kvs:List (κ×V))(k:κ):Option V:=(kvs.find? fun kv=>decide (kv.1=k)).map (·.2)
noncomputable def putK (kvs:List (κ×V))(k:κ)(v:V):List (κ×V):=
 if (kvs.any fun kv=>decide (kv.1=k))=true then kvs.map (fun kv=>if kv.1=k then (kv.1,v) else kv) else kvs++[(k,v)]
def Tp : valV ([]:List (κ×V)) k=none:=rfl
def BX {p:κ×V}{r:List (κ×V)}{k:κ}(e:p.1=k):valV (p::r) k=some p.2:=by simp[valV,xh_,e]
def BY {p:κ×V}{r:List (κ×V)}{k:κ}(e:¬ p.1=k):valV (p::r) k=valV r k:=by simp[valV,xh_,e]
def Dm (k:κ):∀kvs:List (κ×V),(kvs.any fun kv=>decide (kv.1=k))=(valV kvs k).isSome
 |[]=>rfl
 |p::r=>by
  rw[z2_];by_cases e:p.1=k
  ·simp only[BX e,qx_ e,Bool.true_or,xu_]
  ·rw[BY e,qF_ e,Bool.false_or];exact Dm k r
def O7 (k j:κ)(y:V):∀kvs:List (κ×V),valV (kvs.map fun kv=>if kv.1=k then (kv.1,y) else kv) j=(valV kvs j).map fun x=>if j=k then y else x
 |[]=>rfl
 |p::r=>by
  have ih:=O7 k j y r;rw[jR_];by_cases h:p.1=k
  ·rw[if_pos h];by_cases e:p.1=j
   ·rw[BX (p:=(p.1,y)) e,BX e,zu_,if_pos (e.symm.trans h)]
   ·rw[BY (p:=(p.1,y)) e,BY e,ih]
  ·rw[if_neg h];by_cases e:p.1=j
   ·rw[BX (p:=p) e,BX e,zu_,if_neg (fun z=>h (e.trans z))]
   ·rw[BY (p:=p) e,BY e,ih]
def Np (k j:κ)(y:V):∀kvs:List (κ×V),valV kvs k=none->valV (kvs++[(k,y)]) j=if j=k then some y else valV kvs j
 |[],_=>by
  by_cases e:k=j
  ·rw[if_pos e.symm];exact BX (p:=(k,y)) e
  ·rw[if_neg (fun z=>e z.symm)];exact BY (p:=(k,y)) e
 |p::r,hn=>by
  rw[x9_];have hk:¬ p.1=k:=fun z=>by rw[BX z]at hn;cases hn
  rw[BY hk]at hn;have ih:=Np k j y r hn;by_cases e:p.1=j
  ·rw[BX e,BX e,if_neg (fun z=>hk (e.trans z))]
  ·rw[BY e,BY e,ih]
def Mj (kvs:List (κ×V))(k j:κ)(y:V):valV (putK kvs k y) j=if j=k then some y else valV kvs j:=by
 unfold putK;by_cases a:(kvs.any fun kv=>decide (kv.1=k))=true
 ·rw[if_pos a,O7];rw[Dm]at a;by_cases e:j=k
  ·obtain⟨x,hx⟩:=qe_.mp a;rw[if_pos e,e,hx,zu_,if_pos rfl]
  ·rw[if_neg e];cases valV kvs j with
   |none=>rfl
   |some x=>rw[zu_,if_neg e]
 ·rw[if_neg a];refine Np k j y kvs ?_;rw[Dm]at a;cases q:valV kvs k with
  |none=>rfl
  |some x=>rw[q]at a;exact (a rfl).elim
def DA (kvs:List (κ×V))(k:κ)(v:V):(putK kvs k v).length<=kvs.length+1:=by
 unfold putK;split
 ·rw[jb_];lia
 ·rw[js_,jY_,xi_];lia
def RelO.isSome_eq (r:RelO o u):o.isSome=u.isSome:=by
 cases o with
 |none=>cases u with
  |none=>rfl
  |some _=>exact (show False from r).elim
 |some _=>cases u with
  |none=>exact (show False from r).elim
  |some _=>rfl
def RelO.getD (r:RelO o u)(rd:RelV d d'):RelV (o.getD d) (u.getD d'):=by
 cases o with
 |none=>cases u with
  |none=>exact rd
  |some _=>exact (show False from r).elim
 |some _=>cases u with
  |none=>exact (show False from r).elim
  |some _=>exact r
def KV.val (r:KV kvs vs)(k:κ):RelO (valV kvs k) (valueAt vs k):=by
 unfold KV at r
 induction r with
 |nil=>exact oZ
 |@cons p q ps qs h t ih=>
  obtain⟨h1,h2⟩:=h;by_cases e:p.1=k
  ·have e':q.1=k:=h1.symm.trans e;have b:valueAt (q::qs) k=some q.2:=by simp[valueAt,xh_,e']
   rw[BX e,b];exact h2
  ·have e':¬ q.1=k:=fun z=>e (h1.trans z);have b:valueAt (q::qs) k=valueAt qs k:=by simp[valueAt,xh_,e']
   rw[BY e,b];exact ih
def KV.any (r:KV kvs vs)(k:κ):(kvs.any fun kv=>decide (kv.1=k))=vs.any fun kv=>decide (kv.1=k):=by
 unfold KV at r
 induction r with
 |nil=>rfl
 |cons h t ih=>rw[z2_,z2_,ih,h.1]
def KV.repl (r:KV kvs vs)(k:κ) (ry:RelV y u):
  KV (kvs.map fun kv=>if kv.1=k then (kv.1,y) else kv) (vs.map fun kv=>if kv.1=k then (kv.1,u) else kv):=by
 unfold KV at r ⊢
 induction r with
 |nil=>exact .nil
 |@cons p q ps qs h t ih=>
  rw[jR_,jR_];refine .cons ?_ ih;obtain⟨h1,h2⟩:=h;by_cases e:p.1=k
  ·rw[if_pos e,if_pos (h1.symm.trans e)];exact⟨h1,ry⟩
  ·rw[if_neg e,if_neg (fun z=>e (h1.trans z))];exact⟨h1,h2⟩
def KV.put (r:KV kvs vs)(k:κ) (ry:RelV y u):KV (putK kvs k y) (stored vs k u):=by
 unfold putK stored;rw[r.any k];by_cases e:(vs.any fun kv=>decide (kv.1=k))=true
 ·rw[if_pos e,if_pos e];exact r.repl k ry
 ·rw[if_neg e,if_neg e];exact Paired.snoc r ⟨rfl,ry⟩
def KV.length {kvs:List (κ×V)}{vs:List (κ×Value)}(r:KV kvs vs):kvs.length=vs.length:=zn_ r
end
def Oh (r:RelV (kV k) u):(AX P w).is k u=true:=by
 cases k with
 |inl i=>obtain⟨t,e⟩:=(show ∃t,u=Value.int i t from r);subst e;exact Ob P w i t
 |inr x=>obtain⟨t,e⟩:=(show ∃t,u=Value.str x t from r);subst e;exact Oc P w x t
def Nq {P:Program}{w:World}:∀{ks:List Key} {us:List Value},Vals (ks.map kV) us->ItemsAre (AX P w) ks us
 |[],_,r=>by rw[xS_]at r;cases r;exact .nil
 |k::ks,_,r=>by
  rw[jR_]at r;cases r with
  |cons h t=>exact .cons (Oh h) (Nq t)
noncomputable abbrev KT (H:Hp):List (List Key×V)->List (List Key×Addr×Value)->Prop:=Paired fun p q=>p.1=q.1/\H q.2.1=some (.tup (p.1.map kV))/\RelV p.2 q.2.2
def KT.val (r:KT H kvs xs)(k:List Key):RelO (valV kvs k) ((atKey xs k).map (·.2)):=by
 induction r with
 |nil=>exact oZ
 |@cons p q ps qs h t ih=>
  obtain⟨h1,_,h2⟩:=h;by_cases e:p.1=k
  ·have e':q.1=k:=h1.symm.trans e;have b:atKey (q::qs) k=some q.2:=by simp[atKey,xh_,e']
   rw[BX e,b];exact h2
  ·have e':¬ q.1=k:=fun z=>e (h1.trans z);have b:atKey (q::qs) k=atKey qs k:=by simp[atKey,xh_,e']
   rw[BY e,b];exact ih
def KT.repl (r:KT H kvs xs)(k:List Key) (ry:RelV y u):
  KT H (kvs.map fun kv=>if kv.1=k then (kv.1,y) else kv) (xs.map (putAt k u)):=by
 induction r with
 |nil=>exact .nil
 |@cons p q ps qs h t ih=>
  rw[jR_,jR_];refine .cons ?_ ih;obtain⟨h1,h2,h3⟩:=h;unfold putAt;by_cases e:p.1=k
  ·rw[if_pos e,if_pos (h1.symm.trans e)];exact⟨h1,h2,ry⟩
  ·rw[if_neg e,if_neg (fun z=>e (h1.trans z))];exact⟨h1,h2,h3⟩
def KT.put (r:KT H kvs xs)(k:List Key) (hb:H b=some (.tup (k.map kV)))(ry:RelV y u):
  KT H (putK kvs k y) (storedH xs k b u):=by
 have e:(kvs.any fun kv=>decide (kv.1=k))=(atKey xs k).isSome:=by
  rw[Dm,(r.val k).isSome_eq,qT]
 unfold putK storedH;rw[e];by_cases q:(atKey xs k).isSome=true
 ·rw[if_pos q,if_pos q];exact r.repl k ry
 ·rw[if_neg q,if_neg q];exact Paired.snoc r ⟨rfl,hb,ry⟩
def KT.keeps (r:KT H kvs xs)(ht:∀b ys,H b=some (.tup ys)->H' b=some (.tup ys)):KT H' kvs xs:=
 Paired.mapP r fun _ _ z=>⟨z.1,ht _ _ z.2.1,z.2.2⟩
section
variable {P:Program} {w:World} {H:Hp} {h:Heap} {a:Addr}
def Tq (ok:HOk P w H h)(e:Rd H a u):AY P w H h a u:=e.ok ok
def Nr (ok:HOk P w H h)(e:Rd H a (.dK kvs)):kvs.length<=sizeLine/\(a==sysModules)=false/\∃vs,KV kvs vs/\h.DictOf (AX P w) a vs:=
 show AY P w H h a (.dK kvs) from Tq ok e
def Xw (ok:HOk P w H h)(e:H a=some (.dK kvs)):kvs.length<=sizeLine/\(a==sysModules)=false/\∃vs,KV kvs vs/\h.DictOf (AX P w) a vs:=Nr ok (.inl e)
def Jy (ok:HOk P w H h)(e:H a=some (.tup (ks.map kV))):(tupleKind (AX P w)).is h ks a:=by
 obtain⟨_,ah,r,o,h1,h2,n,h3⟩:=(show AY P w H h a (.tup (ks.map kV)) from ok a _ e);exact⟨o,ah.toArray,n,h1,h2,h3,by simpa using Nq r⟩
def Oi (ok:HOk P w H h)(e:Rd H a (.dT kvs)):kvs.length<=sizeLine/\(a==sysModules)=false /\
  ∃xs,KT H kvs xs/\h.DictOfH (tupleKind (AX P w)) a xs:=by
 obtain⟨z,y,xs,r,o,es,ep,h1,h2,h3,h4,h5⟩:=(show AY P w H h a (.dT kvs) from Tq ok e);refine⟨z,y,xs,r,o,es,ep,h1,h2,h3,h4,fun x hx=>?_,h5⟩;have all:∀{l:List (List Key×V)} {m:List (List Key×Addr×Value)},KT H l m->∀x∈m,(tupleKind (AX P w)).is h x.1 x.2.1:=by
  intro l m q
  induction q with
  |nil=>intro x hx;exact nomatch hx
  |@cons p q ps qs hq t ih=>
   intro x hx;rcases jE_.mp hx with e|hx
   ·subst e;exact Jy ok (by rw[<-hq.1];exact hq.2.1)
   ·exact ih x hx
 exact all r x hx
def V8 (ok:HOk P w H h)(e:H a=some (.dT kvs)):kvs.length<=sizeLine/\(a==sysModules)=false /\
  ∃xs,KT H kvs xs/\h.DictOfH (tupleKind (AX P w)) a xs:=Oi ok (.inl e)
end
noncomputable def DGet (H:Hp)(a:Addr)(y:V)(r:Option V):Prop:=
 (∃kvs k,Rd H a (.dK kvs)/\y=kV k/\r=valV kvs k) \/ ∃kvs k b,Rd H a (.dT kvs)/\y=.ref b/\H b=some (.tup (k.map kV))/\r=valV kvs k
noncomputable def DPut (H:Hp)(a:Addr)(y v:V)(H':Hp):Prop:=
 (∃kvs k,H a=some (.dK kvs)/\y=kV k/\kvs.length<sizeLine/\H'=upd H a (.dK (putK kvs k v))) \/
 ∃kvs k b,H a=some (.dT kvs)/\y=.ref b/\H b=some (.tup (k.map kV))/\kvs.length<sizeLine/\H'=upd H a (.dT (putK kvs k v))
def DGet.k {H:Hp}{a:Addr}{kvs:List (Key×V)}{k:Key}(e:H a=some (.dK kvs)):DGet H a (kV k) (valV kvs k):=.inl ⟨kvs,k,.inl e,rfl,rfl⟩
def DGet.t {H:Hp}{a b:Addr}{kvs:List (List Key×V)}{k:List Key}(e:H a=some (.dT kvs))(eb:H b=some (.tup (k.map kV))):DGet H a (.ref b) (valV kvs k):=.inr ⟨kvs,k,b,.inl e,rfl,eb,rfl⟩
def DPut.k {H:Hp}{a:Addr}{kvs:List (Key×V)}{k:Key}{v:V}(e:H a=some (.dK kvs))(hl:kvs.length<sizeLine):DPut H a (kV k) v (upd H a (.dK (putK kvs k v))):=.inl ⟨kvs,k,e,rfl,hl,rfl⟩
def DPut.t {H:Hp}{a b:Addr}{kvs:List (List Key×V)}{k:List Key}{v:V}(e:H a=some (.dT kvs))(eb:H b=some (.tup (k.map kV)))(hl:kvs.length<sizeLine):
  DPut H a (.ref b) v (upd H a (.dT (putK kvs k v))):=.inr ⟨kvs,k,b,e,rfl,eb,hl,rfl⟩
section
variable {X:Cx} {aa:α7} {σ:St} {H:Hp} {s:Shared} {a:Addr} {y v:V} {u r:Value} {o:Option V} {A:Around} {E:Value->Shared->Prop}
def Inv.big (I:Inv X aa σ H s):sysModules<s.heap.objs.size:=by
 have h:mainGlobals<s.heap.objs.size:=(I.mod.glob.keeps I.bk).lt;exact qU (by decide) h
def Rb (hu:A.units+1<cLine)(I:Inv X aa σ H s)(g:DGet H a y (some v))(ry:RelV y u)(h:∀w' s',Inv X aa σ H s'->RelV v w'->Q w' s'):
  wpAny (model X.prog X.w) A (getItem (.ref a) u) Q E s:=by
 rcases g with ⟨kvs,k,e,ey,l⟩|⟨kvs,k,b,e,ey,eb,l⟩
 ·subst ey;obtain⟨z,hd,vs,bx,dd⟩:=Nr I.hok e;obtain⟨w',hw,dR⟩:=RelO.some_of (v:=v) (o:=valueAt vs k) (by rw[l];exact bx.val k);exact wpAny_getItem_of (Oh ry) dd.mapOf hw (h w' _ (I.tok _) dR)
 ·subst ey;cases (show u=Value.ref b from ry);obtain⟨z,hd,xs,bx,dd⟩:=Oi I.hok e;obtain⟨w',hw,dR⟩:=RelO.some_of (v:=v) (o:=(atKey xs k).map (·.2)) (by rw[l];exact bx.val k);obtain⟨p,hp,jV⟩:=zE_.mp hw;refine wpAny_getItem_heap (xv_ hu) (Jy I.hok eb) dd hp ?_;rw[jV];exact h w' _ (I.tok _) dR
def V9 (hu:A.units+1<cLine)(I:Inv X aa σ H s)(g:DGet H a y o)(ry:RelV y u)(h:∀s',Inv X aa σ H s'->Q (.bool (!o.isSome)) s'):
  wpAny (model X.prog X.w) A (compareOp .NotIn u (.ref a)) Q E s:=by
 rcases g with ⟨kvs,k,e,ey,l⟩|⟨kvs,k,b,e,ey,eb,l⟩
 ·subst ey;obtain⟨z,hd,vs,bx,dd⟩:=Nr I.hok e;refine wpAny_notIn_of (Oh ry) hd dd.mapOf ?_;rw[<-(bx.val k).isSome_eq,<-l];exact h _ (I.tok _)
 ·subst ey;cases (show u=Value.ref b from ry);obtain⟨z,hd,xs,bx,dd⟩:=Oi I.hok e;refine wpAny_notIn_heap (xv_ hu) (Jy I.hok eb) hd dd ?_;have q:=(bx.val k).isSome_eq;rw[qT]at q;rw[<-q,<-l];exact h _ (I.tok _)
def IZ (I:Inv X aa σ H s)(mu:Mut (H a))(hs:Heap.SameBut a s.heap h')(he:∃q,h'.get? a=some q)(new:AY X.prog X.w (upd H a ob) h' a ob):
  Inv X aa σ (upd H a ob) {s with heap:=h',toks:=t' }:=
 I.write (x:=a) (e:=a) mu (.inl rfl) (fun b q hb z=>(hs.2 b hb).trans z) he new
def UT (z:kvs.length<=sizeLine)(hd:(a==sysModules)=false)(bx:KV kvs vs)(dd:h'.DictOf (AX P w) a vs):
  AY P w H' h' a (.dK kvs):=⟨z,hd,vs,bx,dd⟩
def Rc (hu:A.units+1<cLine)(I:Inv X aa σ H s)(g:DPut H a y v H')(ry:RelV y u)(rv:RelV v r)(h:∀s',Inv X aa σ H' s'->Q () s'):
  wpAny (model X.prog X.w) A (setItem (.ref a) u r) Q E s:=by
 rcases g with ⟨kvs,k,e,ey,l,eH⟩|⟨kvs,k,b,e,ey,eb,l,eH⟩
 ·subst ey eH;obtain⟨z,hd,vs,bx,dd⟩:=Xw I.hok e;have hz:vs.length<=sizeLine:=by rw[<-bx.length];exact z
  have hl:(putK kvs k v).length<=sizeLine:=by have:=DA kvs k v;lia
  refine wpAny_setItem_pairs (hsz:=hz) (Oh ry) dd fun h' ft hs=>h _ ?_;have he:∃q,h'.get? a=some q:=let ⟨q,_,_,hq,_⟩:=ft;⟨q,hq⟩;exact IZ I (by rw[e];exact oZ) hs he (UT hl hd (bx.put k rv) ft)
 ·subst ey eH;cases (show u=Value.ref b from ry);obtain⟨z,hd,xs,bx,dd⟩:=V8 I.hok e;have hz:xs.length<=sizeLine:=by rw[<-zn_ bx];exact z
  have hl:(putK kvs k v).length<=sizeLine:=by have:=DA kvs k v;lia
  refine wpAny_setItem_heap (hsz:=hz) (xv_ hu) (Jy I.hok eb) dd fun h' ft hs=>h _ ?_;obtain⟨q,es,ep,hq,h2,h3,h4,_,h5⟩:=ft;refine IZ I (by rw[e];exact oZ) hs ⟨q,hq⟩ ⟨hl,hd,_,(bx.put k eb rv).keeps fun c ys ec=>?_,q,es,ep,hq,h2,h3,h4,h5⟩;rw[Aj (QK ec e (fun z=>nomatch z))];exact ec
end
noncomputable def NoSl (i:Expr):Prop:=∀ov iv,subscripted i false ov iv=operate [ov,iv] (getItem ov iv)
def Wa {T id:String}
  (hl:typeLookup (.type T) "__getitem__"=pure (some (.builtin id))) (hs:NoSl bO)
  (h:wpAny (model prog w) A (eval value env) (fun o s₁=>wpAny (model prog w) A (eval bO env) (fun i br=>br.TypeIs o T/\wpAny (model prog w) A (getItem o i) Q E br) E s₁) E s):
  wpAny (model prog w) A (eval (.Subscript value bO pos) env) Q E s:=by
 refine Subscript_ (qB_ h (fun o s₁ h₁=>qB_ h₁ (fun i br aK=>?_) fun _ _ x=>x) fun _ _ x=>x);obtain⟨hT,aK⟩:=aK;unfold subscriptTail;refine ja_ ?_;rw[getitemInPython_of_ne hT.not_modules];refine ja_ (wpAny_specialOf hT hl ?_);have fin:wpAny (model prog w) A (subscripted bO false o i) (fun r aY=>wpAny (model prog w) A (letTemporaryGo value o r >>= fun _=>pure r) Q E aY) E br:=by
  rw[hs o i];exact wpAny_operating (qB_ aK (fun r aY aS=>ja_ (wpAny_letTemporaryGo (jf_ aS))) fun _ _ x=>x)
 first
  | exact jf_ (ja_ fin)
  | exact ja_ (jf_ (ja_ fin))
  | exact ja_ fin
def Oj (I:Inv X aa σ H s)(g:DGet H a y o):s.TypeIs (.ref a) "dict" := by
 rcases g with ⟨kvs,k,e,_,_⟩|⟨kvs,k,b,e,_,_,_⟩
 ·obtain⟨_,_,vs,_,dd⟩:=Nr I.hok e;exact dd.typeIs
 ·obtain⟨_,_,xs,_,dd⟩:=Oi I.hok e;exact dd.typeIs
noncomputable def Xx (td ty:TE):TE:=fun σ H Q=>td σ H fun x H1=>ty σ H1 fun y H2=>∃a v,x=.ref a/\DGet H2 a y (some v)/\Q v H2
noncomputable def Rf (ty td:TE):TE:=fun σ H Q=>ty σ H fun y H1=>td σ H1 fun x H2=>∃a o,x=.ref a/\DGet H2 a y o/\Q (.bl (!o.isSome)) H2
noncomputable def Xy (td ty tv:TE):TS:=fun D σ H=>tv σ H fun v H1=>td σ H1 fun x H2=>ty σ H2 fun y H3=>∃a H4,x=.ref a/\DPut H3 a y v H4/\D.nx σ H4
section
variable {X:Cx} {o i e value:Expr} {pos bK bL:Pos} {td ty tv:TE}
def Ml (hu:X.A.units+1<cLine)(ho:PE X o td)(hi:PE X i ty)(hs:NoSl i):PE X (.Subscript o i pos) (Xx td ty):=by
 intro aa s σ H Q I h;refine Wa PySem.F.slot_dict_getitem.lookup hs (thn (ho aa s σ H _ I h) fun u s1 ⟨x,H1,I1,rx,q1⟩=>thn (hi aa s1 σ H1 _ I1 q1) fun iv s2 ⟨y,H2,I2,ry,a,v,ex,g,q2⟩=>?_);subst ex;obtain rfl:u=Value.ref a:=rx;exact⟨Oj I2 g,Rb hu I2 g ry fun w' s3 I3 dR=>⟨v,H2,I3,dR,q2⟩⟩
def Rg (hu:X.A.units+1<cLine)(hi:PE X i ty)(ho:PE X o td):PC X .NotIn i o (Rf ty td):=by
 intro aa s σ H Q I h;refine thn (hi aa s σ H _ I h) fun iv s1 ⟨y,H1,I1,ry,q1⟩=>thn (ho aa s1 σ H1 _ I1 q1) fun u s2 ⟨x,H2,I2,rx,a,ov,ex,g,q2⟩=>?_;subst ex;obtain rfl:u=Value.ref a:=rx;exact V9 hu I2 g ry fun s3 I3=>⟨.bl (!ov.isSome),H2,I3,rfl,q2⟩
def FH (hu:X.A.units+1<cLine)(ho:PE X o td)(hi:PE X i ty)(hv:PE X value tv)(hs:swapsWith value (some (.Subscript o i bK)) pos.line X.env=pure false):
  PS X (.Assign [.Subscript o i bK] value pos) (Xy td ty tv):=by
 intro aa s σ H D I h;refine wpAny_Assign_Subscript (thn (hv aa s σ H _ I h) fun r s1 ⟨v,H1,I1,rv,q1⟩=>thn (ho aa s1 σ H1 _ I1 q1) fun u s2 ⟨x,H2,I2,rx,q2⟩=>thn (hi aa s2 σ H2 _ I2 q2) fun iv s3 ⟨y,H3,I3,ry,a,H4,ex,g,q3⟩=>?_) hs;subst ex;obtain rfl:u=Value.ref a:=rx;exact Rc hu I3 g ry rv fun s4 I4=>⟨σ,H4,I4,q3⟩
end
def O8 (h:Heap)(hb:sysModules<h.objs.size):AY P w H (h.push {cls:=.type "dict",data:=.dict #[]}) h.objs.size (.dK []):=
 ⟨qc_ _,xg_.mpr (qp_ (jG_ hb)),[],.nil,Heap.DictOf.new h⟩
def Mm (h:Heap)(hb:sysModules<h.objs.size):AY P w H (h.push {cls:=.type "dict",data:=.dict #[]}) h.objs.size (.dT []):=
 ⟨qc_ _,xg_.mpr (qp_ (jG_ hb)),[],.nil,_,#[],0,jp_ _ rfl,⟨rfl,rfl,rfl⟩,rfl,rfl,wh_⟩
noncomputable def UU:TE:=fun _ H Q=>∀p,H p=none->Q (.ref p) (upd H p (.dK []))
noncomputable def UW:TE:=fun _ H Q=>∀p,H p=none->Q (.ref p) (upd H p (.dT []))
section
variable {X:Cx} {pos:Pos}
def O9:PE X (.Dict [] [] pos) UU:=fun aa s σ H Q I h=>
 wpAny_Dict_empty ⟨.ref s.heap.objs.size,_,I.laid (a:=s.heap.objs.size) (o:=.dK []) (t':=s.toks) (fun _ _ q=>jd_ _ q) (jh_ _) (O8 s.heap I.big),rfl,h _ (I.hok.fresh (jh_ _))⟩
def Ko:PE X (.Dict [] [] pos) UW:=fun aa s σ H Q I h=>
 wpAny_Dict_empty ⟨.ref s.heap.objs.size,_,I.laid (a:=s.heap.objs.size) (o:=.dT []) (t':=s.toks) (fun _ _ q=>jd_ _ q) (jh_ _) (Mm s.heap I.big),rfl,h _ (I.hok.fresh (jh_ _))⟩
end
noncomputable def KN:List (TE×TE)->St->Hp->(List (V×V)->Hp->Prop)->Prop
 |[],_,H,Q=>Q [] H
 | (tk,tv)::r,σ,H,Q=>tk σ H fun x H1=>tv σ H1 fun y H2=>KN r σ H2 fun ps H3=>Q ((x,y)::ps) H3
noncomputable abbrev VV:List (V×V)->List (Value×Value)->Prop:=Paired fun p q=>RelV p.1 q.1/\RelV p.2 q.2
noncomputable def PPs (X:Cx)(pos:Pos)(dU:List (Option Expr))(cS:List Expr)(gV:List (TE×TE)):Prop:=
 ∀(aa:α7) (s:Shared) (σ:St) (H:Hp) (Q:List (V×V)->Hp->Prop),Inv X aa σ H s->KN gV σ H Q ->
  wpAny (model X.prog X.w) X.A (evalPairs (pairTrees dU cS X.env pos)) (fun vs s'=>∃ps H',Inv X aa σ H' s'/\VV ps vs/\Q ps H') X.xe s
def Wb : PPs X pos [] [] []:=fun aa s σ H Q I h=>pairTrees_nil_walk ⟨[],H,I,.nil,h⟩
def Tr (hk:PE X k tk)(hv:PE X v tv)(hr:PPs X pos ks vs gV):
  PPs X pos (some k::ks) (v::vs) ((tk,tv)::gV):=fun aa s σ H Q I h=>
 pairTrees_cons_walk (thn (hk aa s σ H _ I h) fun u s1 ⟨x,H1,I1,rx,q1⟩=>thn (hv aa s1 σ H1 _ I1 q1) fun w2 s2 ⟨y,H2,I2,ry,q2⟩ =>
  thn (hr aa s2 σ H2 _ I2 q2) fun ws s3 ⟨ps,H3,I3,bx,q3⟩=>⟨(x,y)::ps,H3,I3,.cons ⟨rx,ry⟩ bx,q3⟩)
noncomputable def Jz (kvs more:List (Key×V)):List (Key×V):=more.foldl (fun acc kv=>putK acc kv.1 kv.2) kvs
def KV.merge:∀{more:List (Key×V)} {rs:List (Key×Value)} {kvs:List (Key×V)} {vs:List (Key×Value)},KV more rs->KV kvs vs->KV (Jz kvs more) (merged vs rs):=by
 intro more rs kvs vs r;unfold KV at r
 induction r generalizing kvs vs with
 |nil=>intro q;exact q
 |@cons p q ps qs h t ih=>
  intro r0;have e:KV (putK kvs p.1 p.2) (stored vs q.1 q.2):=by
   have:=r0.put p.1 h.2;rw[<-h.1];exact this
  exact ih e
def HU:∀(more kvs:List (Key×V)),(Jz kvs more).length<=kvs.length+more.length
 |[],kvs=>by show kvs.length<=kvs.length+0;lia
 |p::r,kvs=>by
  have h1:=HU r (putK kvs p.1 p.2);have h2:=DA kvs p.1 p.2;show (Jz (putK kvs p.1 p.2) r).length<=_;rw[jY_];lia
def LU {P:Program}{w:World}:∀{kvs:List (Key×V)} {ws:List (Value×Value)},VV (kvs.map fun kv=>(kV kv.1,kv.2)) ws->∃rs,Carries (AX P w) ws rs/\KV kvs rs
 |[],_,r=>by rw[xS_]at r;cases r;exact⟨[],oZ,.nil⟩
 |p::kvs,_,r=>by
  rw[jR_]at r;cases r with
  |@cons a b as bs h t=>
   obtain⟨rs,c,q⟩:=LU (P:=P) (w:=w) t;obtain⟨b1,b2⟩:=b;exact⟨(p.1,b2)::rs,⟨Oh h.1,rfl,c⟩,.cons ⟨rfl,h.2⟩ q⟩
noncomputable def Wc (gV:List (TE×TE)):TE:=fun σ H Q=>∀p,H p=none->KN gV σ (upd H p (.dK [])) fun ps H2=>H2 p=some (.dK [])/\∃kvs:List (Key×V),ps=kvs.map (fun kv=>(kV kv.1,kv.2))/\kvs.length<=15/\Q (.ref p) (upd H2 p (.dK (Jz [] kvs)))
def We (h:PPs X pos dU cS gV)(aE:dU.all (·.isSome)=true)(hl:dU.length=cS.length)(h0:dU ≠ [])
  (h15:dU.length<=15):PE X (.Dict dU cS pos) (Wc gV):=by
 intro aa s σ H Q I q;have hn:=I.hok.fresh (jh_ s.heap.objs.size);have I1:=I.laid (a:=s.heap.objs.size) (o:=.dK []) (h':=s.heap.push {cls:=.type "dict",data:=.dict #[]}) (t':=s.toks) (fun _ _ q=>jd_ _ q) (jh_ _) (O8 s.heap I.big);refine wpAny_Dict_walk (knd:=AX X.prog X.w) aE hl h0 h15 (thn (h aa _ σ _ _ I1 (q _ hn)) fun ws s2 ⟨ps,H2,I2,bx,e,kvs,ep,lk,q2⟩=>?_);subst ep;obtain⟨rs,c,rk⟩:=LU (P:=X.prog) (w:=X.w) bx;obtain⟨z,hd,vs0,r0,dd⟩:=Xw I2.hok e;cases r0;refine⟨rs,c,dd,fun h' ft hs=>⟨.ref s.heap.objs.size,_,?_,rfl,q2⟩⟩;have hz:(Jz [] kvs).length<=sizeLine:=by
  have h1:=HU kvs [];rw[xi_]at h1;rw[zI_];lia
 have he:∃q,h'.get? s.heap.objs.size=some q:=let ⟨q,_,_,hq,_⟩:=ft;⟨q,hq⟩;exact IZ I2 (by rw[e];exact oZ) hs he (UT hz hd (rk.merge .nil) ft)
structure M1 (X:Cx)(o:Expr)(m:Str)(aJ:Pos)(e:Expr)(aM:Pos):Prop where
 base:attributeBase o m X.env (eval o X.env)=eval o X.env
 few:((backTo aM (starEach [e] X.env)).all (fun x => !x.1)&&(backToKw aM (keywordEach [] X.env)).all (fun x=>x.1.isSome)
  && decide (([e]:List Expr).length+([]:List Keyword).length+(if ([]:List Keyword).isEmpty then 0 else 1)<30))=true
 line:(aJ.endLine==aM.line)=true
 trees:backTo aM (starEach [e] X.env)=[(false,eval e X.env)]
structure M2 (X:Cx)(o:Expr)(m:Str)(aJ:Pos)(e f:Expr)(aM:Pos):Prop where
 base:attributeBase o m X.env (eval o X.env)=eval o X.env
 few:((backTo aM (starEach [e,f] X.env)).all (fun x => !x.1)&&(backToKw aM (keywordEach [] X.env)).all (fun x=>x.1.isSome)
  && decide (([e,f]:List Expr).length+([]:List Keyword).length+(if ([]:List Keyword).isEmpty then 0 else 1)<30))=true
 line:(aJ.endLine==aM.line)=true
 trees:backTo aM (starEach [e,f] X.env)=[(false,eval e X.env),(false,eval f X.env)]
noncomputable def IsD (H:Hp)(a:Addr):Prop:=(∃kvs,Rd H a (.dK kvs)) \/ ∃kvs,Rd H a (.dT kvs)
def UX (I:Inv X aa σ H s)(d:IsD H a):
  s.TypeIs (.ref a) "dict" /\ (∀b,Value.ref a=.ref b->∃ob,s.heap.get? b=some ob/\ob.dict=none)/\(a==sysModules)=false:=by
 rcases d with ⟨kvs,e⟩|⟨kvs,e⟩
 ·obtain⟨_,hd,vs,_,dd⟩:=Nr I.hok e;refine⟨dd.typeIs,fun b q=>?_,hd⟩;cases q;obtain⟨ob,_,_,h1,h2,_⟩:=dd;exact⟨ob,h1,h2.2.1⟩
 ·obtain⟨_,hd,xs,_,dd⟩:=Oi I.hok e;refine⟨dd.typeIs,fun b q=>?_,hd⟩;cases q;obtain⟨ob,_,_,h1,h2,_⟩:=dd;exact⟨ob,h1,h2.2.1⟩
section
variable {X:Cx} {aa:α7} {σ:St} {H:Hp} {s:Shared} {a:Addr} {y d:V} {u r:Value} {o:Option V} {A:Around} {E:Value->Shared->Prop}
def Xz (hu:A.units+1<cLine)(I:Inv X aa σ H s)(g:DGet H a y o)(ry:RelV y u)(h:∀w' s',Inv X aa σ H s'->RelV (o.getD .non) w'->Q w' s'):
  wpAny (model X.prog X.w) A (call (.builtin "dict.get") [.ref a,u]) Q E s:=by
 rcases g with ⟨kvs,k,e,ey,l⟩|⟨kvs,k,b,e,ey,eb,l⟩
 ·subst ey;obtain⟨z,hd,vs,bx,dd⟩:=Nr I.hok e;refine call_meetsIn xa_ dd.typeIs xL_ (pS _ _) (meets_dict_get (AX X.prog X.w) a (Oh ry) hd) ⟨_,dd.mapOf,h _ _ (I.tok _) ?_⟩;rw[l];exact (bx.val k).getD rfl
 ·subst ey;cases (show u=Value.ref b from ry);obtain⟨z,hd,xs,bx,dd⟩:=Oi I.hok e;refine call_meetsIn xa_ dd.typeIs xL_ (pS _ _) (meetsH_dict_get (tupleKind (AX X.prog X.w)) a b hd) ⟨xv_ hu,k,xs,Jy I.hok eb,dd,h _ _ (I.tok _) ?_⟩;rw[l];exact (bx.val k).getD rfl
def XA (hu:A.units+1<cLine)(I:Inv X aa σ H s)(g:DGet H a y o)(ry:RelV y u)(rd:RelV d r)(h:∀w' s',Inv X aa σ H s'->RelV (o.getD d) w'->Q w' s'):
  wpAny (model X.prog X.w) A (call (.builtin "dict.get") [.ref a,u,r]) Q E s:=by
 rcases g with ⟨kvs,k,e,ey,l⟩|⟨kvs,k,b,e,ey,eb,l⟩
 ·subst ey;obtain⟨z,hd,vs,bx,dd⟩:=Nr I.hok e;refine call_meetsIn xa_ dd.typeIs xL_ (pT _ _ _) (meets_dict_get_default (AX X.prog X.w) a (Oh ry) hd r) ⟨_,dd.mapOf,h _ _ (I.tok _) ?_⟩;rw[l];exact (bx.val k).getD rd
 ·subst ey;cases (show u=Value.ref b from ry);obtain⟨z,hd,xs,bx,dd⟩:=Oi I.hok e;refine call_meetsIn xa_ dd.typeIs xL_ (pT _ _ _) (meetsH_dict_get_default (tupleKind (AX X.prog X.w)) a b hd r) ⟨xv_ hu,k,xs,Jy I.hok eb,dd,h _ _ (I.tok _) ?_⟩;rw[l];exact (bx.val k).getD rd
end
noncomputable def UY (td ty:TE):TE:=fun σ H Q=>td σ H fun x H1=>∃a,x=.ref a/\IsD H1 a/\ty σ H1 fun y H2=>∃o,DGet H2 a y o/\Q (o.getD .non) H2
noncomputable def UZ (td ty tx:TE):TE:=fun σ H Q=>td σ H fun x H1=>∃a,x=.ref a/\IsD H1 a/\ty σ H1 fun y H2=>tx σ H2 fun z H3=>∃o,DGet H3 a y o/\Q (o.getD z) H3
section
variable {X:Cx} {o e f:Expr} {aJ aM:Pos} {td ty tx:TE}
def Pb (hu:X.A.units+1<cLine)(ho:PE X o td)(he:PE X e ty)(m:M1 X o "get" aJ e aM):PE X (.Call (.Attribute o "get" aJ) [e] [] aM) (UY td ty):=by
 intro aa s σ H Q I h;refine wpAny_Call_method m.base m.few m.line xF_ xa_ qi (thn (ho aa s σ H _ I h) fun u s1 ⟨x,H1,I1,rx,a,ex,d,q1⟩=>?_);subst ex;obtain rfl:u=Value.ref a:=rx;obtain⟨t1,t2,_⟩:=UX I1 d;refine⟨t1,t2,?_⟩;rw[m.trees];refine xn_ rfl (x2_ (zq_ (thn (he aa s1 σ H1 _ I1 q1) fun iv s2 ⟨y,H2,I2,ry,ov,g,q2⟩=>Calls.spliced_nil ?_)));exact Xz hu I2 g ry fun w' s3 I3 dR=>⟨_,H2,I3,dR,q2⟩
def Ts (hu:X.A.units+1<cLine)(ho:PE X o td)(he:PE X e ty)(hf:PE X f tx)(m:M2 X o "get" aJ e f aM):PE X (.Call (.Attribute o "get" aJ) [e,f] [] aM) (UZ td ty tx):=by
 intro aa s σ H Q I h;refine wpAny_Call_method m.base m.few m.line xF_ xa_ qi (thn (ho aa s σ H _ I h) fun u s1 ⟨x,H1,I1,rx,a,ex,d,q1⟩=>?_);subst ex;obtain rfl:u=Value.ref a:=rx;obtain⟨t1,t2,_⟩:=UX I1 d;refine⟨t1,t2,?_⟩;rw[m.trees];refine xn_ rfl (x2_ (zq_ (thn (he aa s1 σ H1 _ I1 q1) fun iv s2 ⟨y,H2,I2,ry,q2⟩ =>
  zq_ (thn (hf aa s2 σ H2 _ I2 q2) fun fv s3 ⟨z,H3,I3,rz,ov,g,q3⟩=>Calls.spliced_nil ?_))))
 exact XA hu I3 g ry rz fun w' s4 I4 dR=>⟨_,H3,I4,dR,q3⟩
end
end L2
namespace L2
open PySem PySem.Spec PyProof.Rows
noncomputable def clOf (env:Env):List (Str×NameKind)->List (Str×Addr)->List (Str×Addr)
 |[],acc=>acc
 | (n,k)::r,acc=>if (k == .free)=true then clOf env r ((n,(env.cells.lookup n).getD 0)::acc) else clOf env r acc
def I0 (h:∀p∈scope.names,p.2=.free->∃c,env.cells.lookup p.1=some c):closureFor scope env=pure (clOf env scope.names []):=by
 have go:∀(l:List (Str×NameKind)) (acc:List (Str×Addr)),(∀p∈l,p.2=.free->∃c,env.cells.lookup p.1=some c) ->
   (forIn l acc fun (x:Str×NameKind) (cs:List (Str×Addr))=>(if (x.2 == .free)=true then do let c <- cellOf env x.1;pure (pd ((x.1,c)::cs)) else pure (pd cs):Sem (ForInStep (List (Str×Addr)))))=(pure (clOf env l acc):Sem (List (Str×Addr))):=by
  intro l
  induction l with
  |nil=>intro acc _;rfl
  |cons p r ih=>
   intro acc hl;obtain⟨n,k⟩:=p;rw[z9_];by_cases hk:(k == .free)=true
   ·obtain⟨c,hc⟩:=hl (n,k) jA_ (by simpa using hk);have e1:cellOf env n=pure c:=by unfold cellOf;rw[hc]
    have m6:=ih ((n,c)::acc) fun q hq=>hl q (jq_ _ hq);show ((if (k == .free)=true then do let c <- cellOf env n;pure (pd ((n,c)::acc)) else pure (pd acc):Sem _) >>= _)=_;rw[if_pos hk,e1];show (forIn r ((n,c)::acc) _:Sem _)=_;rw[clOf,if_pos hk,hc];exact m6
   ·have m6:=ih acc fun q hq=>hl q (jq_ _ hq);show ((if (k == .free)=true then do let c <- cellOf env n;pure (pd ((n,c)::acc)) else pure (pd acc):Sem _) >>= _)=_;rw[if_neg hk];show (forIn r acc _:Sem _)=_;rw[clOf,if_neg hk];exact m6
 have e:=go scope.names [] h;unfold closureFor;show (forIn scope.names [] _ >>= fun cs=>pure cs:Sem _)=_;have e2:(forIn scope.names [] (fun (x:Str×NameKind) (r:List (Str×Addr))=>(match x with
   | (name,kind)=>if (kind == .free)=true then do let c <- cellOf env name;pure (pd ((name,c)::r)) else do pure PUnit.unit;pure (pd r):Sem (ForInStep (List (Str×Addr))))))=(pure (clOf env scope.names []):Sem (List (Str×Addr))):=e
 exact xd_ (fun z=>z >>= fun cs=>pure cs) e2
def Kp {env:Env}:∀(l:List (Str×NameKind)) (acc:List (Str×Addr)),(∀p∈l,p.2=.free->∃c,env.cells.lookup p.1=some c)->(∀q∈acc,env.cells.lookup q.1=some q.2)->∀q∈clOf env l acc,env.cells.lookup q.1=some q.2
 |[],_,_,ha,q,hq=>ha q hq
 | (n,k)::r,acc,hl,ha,q,hq=>by
  unfold clOf at hq;by_cases hk:(k == .free)=true
  ·rw[if_pos hk]at hq;obtain⟨c,hc⟩:=hl (n,k) jA_ (by simpa using hk);refine Kp r _ (fun p hp=>hl p (jq_ _ hp)) (fun p hp=>?_) q hq;rcases jE_.mp hp with rfl|hp
   ·show env.cells.lookup n=some ((env.cells.lookup n).getD 0);rw[hc];rfl
   ·exact ha p hp
  ·rw[if_neg hk]at hq;exact Kp r _ (fun p hp=>hl p (jq_ _ hp)) ha q hq
def Gy {env:Env}:∀(l:List (Str×NameKind)) (acc:List (Str×Addr)) (x:Str),((x,NameKind.free)∈l \/ ∃c,(x,c)∈acc)->∃c,(x,c)∈clOf env l acc
 |[],_,_,h=>by
  rcases h with h|h
  ·cases h
  ·exact h
 | (n,k)::r,acc,x,h=>by
  unfold clOf;by_cases hk:(k == .free)=true
  ·rw[if_pos hk];refine Gy r _ x ?_;rcases h with h|⟨c,h⟩
   ·rcases jE_.mp h with h|h
    ·cases h;exact .inr ⟨_,jA_⟩
    ·exact .inl h
   ·exact .inr ⟨c,jq_ _ h⟩
  ·rw[if_neg hk];refine Gy r _ x ?_;rcases h with h|h
   ·rcases jE_.mp h with h|h
    ·cases h;exact absurd rfl hk
    ·exact .inl h
   ·exact .inr h
def Bc {β:Type}:∀{l:List (Str×β)} {x:Str} {c:β},(x,c)∈l->∃c',l.lookup x=some c'
 |[],_,_,h=>by cases h
 | (n,d)::r,x,c,h=>by
  by_cases hx:(x==n)=true
  ·exact⟨d,by rw[j2_,hx]⟩
  ·rcases jE_.mp h with h|h
   ·cases h;exact absurd (beq_self_eq_true _) hx
   ·obtain⟨c',e⟩:=Bc h;exact⟨c',by rw[j2_];simp only[Bool.not_eq_true]at hx;rw[hx];exact e⟩
noncomputable def relF (env:Env):Str×NameKind->Str×NameKind:=fun (n,k)=>if (k==NameKind.free&&env.scope.kind == .function&&env.kindOf n==some .cell) then (n,NameKind.cell) else (n,k)
def Kq (h:(k==NameKind.free&&env.scope.kind == .function&&env.kindOf n==some .cell)=true):relF env (n,k)=(n,.cell):=if_pos h
def Mn (h:¬ (k==NameKind.free&&env.scope.kind == .function&&env.kindOf n==some .cell)=true):relF env (n,k)=(n,k):=if_neg h
def FJ {env:Env}:∀{names:List (Str×NameKind)} {x:Str} {k:NameKind},(∀y∈names,y.2 ≠ .cell) ->
  (names.map (relF env)).lookup x=some k->(k=.cell\/k=.free)->(x,NameKind.free)∈names
 |[],_,_,_,h,_=>by simp at h
 | (n,k')::r,x,k,hc,h,hk=>by
  have ih := @FJ env r x k (fun y hy=>hc y (jq_ _ hy));rw[jR_]at h;by_cases hb:(k'==NameKind.free&&env.scope.kind == .function&&env.kindOf n==some .cell)=true
  ·rw[Kq hb,j2_]at h;cases hx:x==n with
   |true=>
    have e:x=n:=by simpa using hx
    subst e;have e2:k'=.free:=by
     simp only[j1_]at hb;simpa using hb.1.1
    subst e2;exact jA_
   |false=>
    rw[hx]at h;exact jq_ _ (ih h hk)
  ·rw[Mn hb,j2_]at h;cases hx:x==n with
   |true=>
    rw[hx]at h;have e:x=n:=by simpa using hx
    subst e;have e2:k'=k:=ju_ h;subst e2;rcases hk with rfl|rfl
    ·exact absurd rfl (hc _ jA_)
    ·exact jA_
   |false=>
    rw[hx]at h;exact jq_ _ (ih h hk)
def FK {env:Env}:∀{names:List (Str×NameKind)} {x:Str},names.lookup x=some .free ->
  ∃k,(k=NameKind.cell\/k=NameKind.free)/\(names.map (relF env)).lookup x=some k
 |[],_,h=>by simp at h
 | (n,k')::r,x,h=>by
  have ih := @FK env r x;rw[j2_]at h;rw[jR_];cases hx:x==n with
  |true=>
   rw[hx]at h;have e2:k'=.free:=ju_ h;subst e2;by_cases hb:((NameKind.free:NameKind)==NameKind.free&&env.scope.kind == .function&&env.kindOf n==some .cell)=true
   ·exact⟨.cell,.inl rfl,by rw[Kq hb,j2_,hx]⟩
   ·exact⟨.free,.inr rfl,by rw[Mn hb,j2_,hx]⟩
  |false=>
   rw[hx]at h;obtain⟨k,hk,e⟩:=ih h;refine⟨k,hk,?_⟩;by_cases hb:(k'==NameKind.free&&env.scope.kind == .function&&env.kindOf n==some .cell)=true
   ·rw[Kq hb,j2_,hx];exact e
   ·rw[Mn hb,j2_,hx];exact e
end L2
namespace L2
open PySem PySem.Spec PyProof.Rows
section
variable {prog:Program} {w:World} {A:Around} {R:Result->Shared->Prop} {s:Shared}
def JA {cT bJ iter:Expr} {it acc:Value} (I:Nat->Shared->Prop)
  (ar:∀n s,I n s->wpAny (model prog w) A (pyNext it) (fun r s₁=>match r with
   |none=>R (.ok .next) s₁
   |some v=>wpAny (model prog w) A (letOwnedTupleGo bJ it v) (fun _ s₁'=>wpAny (model prog w) A (assign bJ env v) (fun _ br=>
     wpAny (model prog w) A (forIn cJ true fun c r=>if r=true then do let ok <- isTrue c env (eval c env);pure (pd ok) else pure (pd r)) (fun ok aY=>
      if ok=true then wpAny (model prog w) A (eval cT env) (fun x eS=>
       wpAny (model prog w) A (call (.builtin "list.append") [acc,x]) (fun _ s₅=>∃m,m<n/\I m s₅) (notedBy (model prog w) A env fun e s'=>R (.error e) s') eS) (notedBy (model prog w) A env fun e s'=>R (.error e) s') aY
      else ∃m,m<n/\I m aY) (notedBy (model prog w) A env fun e s'=>R (.error e) s') br) (notedBy (model prog w) A env fun e s'=>R (.error e) s') s₁') (notedBy (model prog w) A env fun e s'=>R (.error e) s') s₁) (notedBy (model prog w) A env fun e s'=>R (.error e) s') s)
  (n:Nat) (h:I n s):
  codeAny (model prog w) A (.compLoop (.ListComp cT [⟨bJ,iter,cJ,0⟩] scope pos) 0 it acc env) R s:=by
 refine codeAny_loop rfl I (fun n s hI=>?_) n h;show wpAny _ A ((compTurn (.ListComp cT [⟨bJ,iter,cJ,0⟩] scope pos) 0 it acc env).onRaise (fun x=>do noteFrame x env;theTreesLotGoes x)) _ _ s;refine wpAny_noted ?_;rw[compTurn_list];refine ja_ (wpAny_standAt (ja_ (qB_ (ar n s hI) (fun r s₁ h₁=>?_) fun _ _ h'=>h')));cases r with
 |none=>exact jf_ h₁
 |some v=>
  refine ja_ (qB_ h₁ (fun _ s₁' h₁'=>?_) fun _ _ h'=>h');refine ja_ (qB_ h₁' (fun _ br aK=>ja_ (qB_ aK (fun ok aY aS=>?_) fun _ _ h'=>h')) fun _ _ h'=>h');cases ok with
  |false=>exact jf_ ⟨rfl,aS⟩
  |true=>
   exact ja_ (ja_ (qB_ aS (fun x eS cU=>ja_ (qB_ cU (fun _ s₅ aP=>jf_ (jf_ ⟨rfl,aP⟩)) fun _ _ h'=>h')) fun _ _ h'=>h'))
end
noncomputable abbrev Cx.blk (X:Cx)(N:List Str)(sc:Scope)(C:Addr)(s₀:Shared)(H₀:Hp)(ex:List Addr):Cx:=
 {X with N:=N,env:=compEnvC sc (clOf X.env sc.names []) C X.env,outer:=X.stack,s₀:=s₀,H₀:=H₀,ex:=ex,fn:=fun _=>false,pn:=[],xe:=fun _ _=>False}
structure BlkSc (X:Cx)(sc:Scope):Prop where
 kind:sc.kind=.function
 nocell:∀y∈sc.names,y.2 ≠ .cell
 loc:∀y∈sc.names,y.2=.local->sc.names.lookup y.1=some .local
 free:∀y∈sc.names,y.2=.free->X.env.kindOf y.1=some .cell\/X.env.kindOf y.1=some .free
noncomputable abbrev Caps:=List (Str×Option Nat)
noncomputable def Caps.names (c:Caps):List Str:=c.map (·.1)
noncomputable def Caps.st (c:Caps)(σ:St):St:=c.map fun p=>p.2.bind fun j=>(σ[j]?).join
noncomputable def DB (N:List Str)(sc:Scope):Caps->Prop
 |[]=>True
 | (_,none)::r=>DB N sc r
 | (x,some j)::r=>(N[j]?=some x/\sc.names.lookup x=some .free)/\DB N sc r
def DB.get {N:List Str}{sc:Scope}:∀{c:Caps} {i:Nat} {x:Str} {j:Nat},DB N sc c->c[i]?=some (x,some j)->N[j]?=some x/\sc.names.lookup x=some .free
 |[],_,_,_,_,h=>by simp at h
 | (y,none)::r,0,x,j,_,h=>by simp at h
 | (y,none)::r,i+1,x,j,ok,h=>DB.get (c:=r) (i:=i) ok (by simpa using h)
 | (y,some k)::r,0,x,j,ok,h=>by
  simp only[zv_,wm_,Prod.mk.injEq]at h;obtain⟨rfl,rfl⟩:=h;exact ok.1
 | (y,some k)::r,i+1,x,j,ok,h=>DB.get (c:=r) (i:=i) ok.2 (by simpa using h)
section
variable {X:Cx} {aa:α7} {σ:St} {H:Hp} {s:Shared} {sc:Scope} {fp:List Addr}
def KO (I:Inv X aa σ H s)(S:BlkSc X sc):∀p∈sc.names,p.2=.free->∃c,X.env.cells.lookup p.1=some c:=fun p hp e=>I.ok.has p.1 (S.free p hp e)
def Cc (I:Inv X aa σ H s)(S:BlkSc X sc) (h:(clOf X.env sc.names []).lookup x=some c):X.env.cells.lookup x=some c:=
 Kp sc.names [] (KO I S) (fun q hq=>by cases hq) (x,c) (qd_ h)
def XB {N:List Str}{C:Addr}(I:Inv X aa σ H s)(S:BlkSc X sc)(hC:s.heap.objs.size<=C)(hf:∀b∈fp,FpOk X aa H b)(ho:∀b∈fp,∃o,s.heap.get? b=some o):(X.blk N sc C s H fp).Ok where
 mod:=I.ok.mod
 kind:=S.kind
 glob:=I.ok.glob
 blt:=I.ok.blt
 above:=hC
 inj:=fun x y c h1 h2=>I.ok.inj x y c (Cc I S h1) (Cc I S h2)
 has:=fun x hx=>by
  have gX:(x,NameKind.free)∈sc.names:=by
   rcases hx with hx|hx
   ·exact FJ (env:=X.env) S.nocell hx (.inl rfl)
   ·exact FJ (env:=X.env) S.nocell hx (.inr rfl)
  obtain⟨c,hc⟩:=Gy (env:=X.env) sc.names [] x (.inl gX);exact Bc hc
 cab:=fun x c h=>absurd (show false=true from h) jj_
 hd:=I.ok.hd
 frames:=I.ok.frames
 stk:=.inl rfl
 exf:=fun b hb=>by
  obtain⟨o,ho⟩:=ho b hb;refine⟨jG_ (jt_ (jl_ ho) hC),fun x c h=>(hf b hb).2.2.2.2.1 x c (Cc I S h)⟩
 bs:=I.bs
 bsz:=qg_ I.ok.bsz I.sz
 noex:=fun b o e hb=>by
  rcases (hf b hb).2.2.2.1 with z|z
  ·exact I.ok.noex b o e z
  ·exact absurd (jt_ (jl_ (I.ok.bs b o e).1) z) (j0_ _)
 exfs:=fun b hb z=>by
  rcases jE_.mp (I.stkSub b z) with e|e
  ·exact (hf b hb).2.1 e
  ·exact (hf b hb).2.2.1 e
 funs:=I.stack
 frf:=I.stkFree
def Rh {c:Caps}{C:Addr}{s4:Shared}{m:Str->α5}(I:Inv X aa σ H s)(S:BlkSc X sc)(hc:DB X.N sc c)(hC:s.heap.objs.size<=C)(hf:∀b∈fp,FpOk X aa H b)(ho:∀b∈fp,∃o,s.heap.get? b=some o)
  (fo:s4.os=s.os) (hb:s4.gens=s.gens) (hk:∀b o,s.heap.get? b=some o->s4.heap.get? b=some o) (hn:s4.heap.Ns C m):Inv (X.blk c.names sc C s H fp) [] (c.st σ) H s4 where
 ok:=XB I S hC hf ho
 os:=fo
 bare:=by rw[hb];exact I.bare
 base:=Un.kept hk
 loc:=by
  refine⟨m,hn,fun i x v h1 h2 hv=>?_⟩;have fB:(c.map (·.1))[i]?=some x:=h1;have cK:(c.map fun p=>p.2.bind fun j=>(σ[j]?).join)[i]?=some (some v):=h2;rw[ji_]at fB cK;cases e:c[i]? with
  |none=>rw[e]at fB;cases fB
  |some p=>
   obtain⟨y,oj⟩:=p;rw[e]at fB cK;have e1:y=x:=ju_ fB;subst e1;have e2:(oj.bind fun j=>(σ[j]?).join)=some v:=ju_ cK;cases oj with
   |none=>cases e2
   |some j=>
    have e3:(σ[j]?).join=some v:=e2;have e4:σ[j]?=some (some v):=by
     cases q:σ[j]? with
     |none=>rw[q]at e3;cases e3
     |some z=>rw[q]at e3;exact xd_ some e3
    obtain⟨k1,k2⟩:=DB.get hc e;have k3:X.env.kindOf y=some .cell\/X.env.kindOf y=some .free:=S.free (y,.free) (qd_ k2) rfl;have kA:Vis X.env.scope y:=by
     rcases k3 with k|k
     ·exact .inr (.inl k)
     ·exact .inr (.inr k)
    obtain⟨mX,hnX,hl⟩:=I.loc;obtain⟨u,r,l⟩:=hl j y v k1 e4 kA;refine⟨u,r,?_⟩;rcases l with ⟨k,_⟩|⟨_,ca,m7,z⟩
    ·rcases k3 with k' | k'<;>(rw[k]at k';cases k')
    ·obtain⟨kd,m8,ek⟩:=FK (env:=X.env) k2;have dm:(compEnvC sc (clOf X.env sc.names []) C X.env).kindOf y=some kd:=ek;obtain⟨c',iF⟩:=Gy (env:=X.env) sc.names [] y (.inl (qd_ k2));obtain⟨c2,cR⟩:=Bc iF;have e5:=Cc I S cR;rw[m7]at e5;have e6:ca=c2:=ju_ e5;subst e6;refine .inr ⟨?_,ca,cR,?_⟩
     ·rcases m8 with rfl|rfl
      ·exact .inl dm
      ·exact .inr dm
     ·obtain⟨oc,eB,hd⟩:=z;exact⟨oc,hk _ _ eB,hd⟩
 cell:=fun x ca h=>by
  obtain⟨v,oc,eB,hd⟩:=I.cell x ca (Cc I S h);exact⟨v,oc,hk _ _ eB,hd⟩
 free:=I.hok.fresh hC
 freeC:=fun x ca h=>I.freeC x ca (Cc I S h)
 pin:=fun p hp=>absurd (show p∈([]:α7) from hp) (by simp)
 hok:=I.hok.kept hk
 len:=by show (c.map _).length=(c.map _).length;rw[jb_,jb_]
def HOk.track (x:HOk P w H h)(hn:H a=none)(new:AY P w (upd H a o) h a o):HOk P w (upd H a o) h:=fun b u e=>by
 by_cases hb:b=a
 ·subst hb;rw[Ab]at e;cases e;exact new
 ·rw[Aj hb]at e;exact (x b u e).stay (fun c v _ q=>q) (fun c q=>by rw[Aj (AL q hn)];exact q) fun c xs q=>by rw[Aj (AL q hn)];exact q
def Un.track {fs ex:List Addr}{H H':Hp}{h h':Heap}{a:Addr}{o:HO}(u:Un fs ex H H' h h')(ha:h.objs.size<=a)(hn:H' a=none):Un fs ex H (upd H' a o) h h' where
 keep:=u.keep
 slot:=u.slot
 free:=fun b ob q n hx=>by rw[Aj (jG_ (jt_ (jl_ q) ha))];exact u.free b ob q n hx
 there:=u.there
 tups:=fun b xs q=>by rw[Aj (AL (u.tups b xs q) hn)];exact u.tups b xs q
 frzs:=fun b ob xs q=>by rw[Aj (AL (u.frzs b ob xs q) hn)];exact u.frzs b ob xs q
 tbls:=fun b ps q=>by
  obtain⟨more,e⟩:=u.tbls b ps q;exact⟨more,by rw[Aj (AL e hn)];exact e⟩
def Wg {c:Caps}{C D:Addr}{s':Shared}{af:St}{H':Hp}{o:HO}(I:Inv X aa σ H s)(J:Inv (X.blk c.names sc C s H fp) [] af H' s')(hf:∀b∈fp,FpOk X aa H b)(hD:s.heap.objs.size<=D)(hn:H' D=none)
  (new:AY X.prog X.w (upd H' D o) s'.heap D o):Inv X aa σ (upd H' D o) s':=by
 have u:Un (frs X.stack) fp H H' s.heap s'.heap:=J.base;exact I.call' J.os (u.track hD hn) (J.hok.track hn new) J.bare fun b hb=>⟨(hf b hb).2.2.2.1,(hf b hb).2.1,(hf b hb).2.2.2.2.1,(hf b hb).2.2.2.2.2⟩
end
noncomputable def PF (X:Cx)(cJ:List Expr)(t:TT):Prop:=
 ∀(aa:α7) (s:Shared) (σ:St) (H:Hp) (Q:Bool->Hp->Prop),Inv X aa σ H s->t σ H Q ->
  wpAny (model X.prog X.w) X.A (forIn cJ true fun c r=>if r=true then do let ok <- isTrue c X.env (eval c X.env);pure (pd ok) else pure (pd r)) (TP X aa σ Q) X.xe s
noncomputable def Mo:TT:=fun _ H Q=>Q true H
def By : PF X [] Mo:=fun _ _ _ H _ I h=>wpAny_tests_nil ⟨H,I,h⟩
noncomputable def Tt (wi:TI)(cp:Caps)(g:TG)(tc:TT)(te:TE):TE:=fun σ H Q=>wi σ H fun J H1=>∃W:Nat->Nat->List V->St->Hp->Prop,(∃m,W 0 m [] (cp.st σ) H1)/\∀i m ys af H',W i m ys af H' ->
 ys.length<sizeLine/\((J.stop i H'/\∀D,H' D=none->Q (.ref D) (upd H' D (.lst ys)))\/(J.go i H'/\∃N:List V->St->Hp->Prop,(∀zs ai H2,N zs ai H2->∃m',m'<m/\W (i+1) m' zs ai H2)/\∀x H2,J.yld i H' x H2->g x af H2 fun ai H3=>tc ai H3 fun b H4=>
  if b=true then te ai H4 fun v H5=>N (ys++[v]) ai H5 else N ys ai H4))
section
variable {X:Cx} {tg iter cT:Expr} {cJ:List Expr} {sc:Scope} {pos:Pos} {wi:TI} {cp:Caps} {g:TG} {tc:TT} {te:TE}
def Nt (hc:X.calm=true)(S:BlkSc X sc)(gY:DB X.N sc cp)
  (hg:∀C s₀ H₀ ex,PG (X.blk cp.names sc C s₀ H₀ ex) tg g) (hf:∀C s₀ H₀ ex,PF (X.blk cp.names sc C s₀ H₀ ex) cJ tc) (he:∀C s₀ H₀ ex,PE (X.blk cp.names sc C s₀ H₀ ex) cT te)
  {aa:α7} {σ:St} {H:Hp} {s:Shared} {J:It} {it:Addr} {fp:List Addr} {tn:Nat->Heap->Prop} {Q:VK} {RR:Value->Addr->Result->Shared->Prop} {E:Value->Shared->Prop}
  (I:Inv X aa σ H s) (T:Turn X.prog X.w X.K tg J fp it tn) (st:tn 0 s.heap) (eT:∀b∈fp,FpOk X aa H b)
  (hw:∃W:Nat->Nat->List V->St->Hp->Prop,(∃m,W 0 m [] (cp.st σ) H)/\∀i m ys af H',W i m ys af H' ->
   ys.length<sizeLine/\((J.stop i H'/\∀D,H' D=none->Q (.ref D) (upd H' D (.lst ys)))\/(J.go i H'/\∃N:List V->St->Hp->Prop,(∀zs ai H2,N zs ai H2->∃m',m'<m/\W (i+1) m' zs ai H2)/\∀x H2,J.yld i H' x H2->g x af H2 fun ai H3=>tc ai H3 fun b H4=>
    if b=true then te ai H4 fun v H5=>N (ys++[v]) ai H5 else N ys ai H4)))
  (hR:∀D C s' H' (m:Str->α5),Inv X aa σ H' s'->Q (.ref D) H'->s'.heap.Ns C m->H' C=none->C≠X.env.locals->X.s₀.heap.objs.size<=C->(∀x c,X.env.cells.lookup x=some c->c≠C)->(∀p∈X.pn++aa,p.1≠C)->RR (.ref D) C (.ok .next) s'):
  wpAny (model X.prog X.w) X.A (newList []) (fun acc aY=>wpAny (model X.prog X.w) X.A (newFunctionEnv sc X.env.globals (clOf X.env sc.names []) [] X.env.qual none .none (some X.env)) (fun fC eS=>
   codeAny (model X.prog X.w) X.A (.compStart (.ListComp cT [⟨tg,iter,cJ,0⟩] sc pos) 0 (.ref it) acc {fC with scope:=relabel sc X.env}) (RR acc fC.locals) eS) E aY) E s:=by
 obtain⟨W,⟨m0,w0⟩,ar⟩:=hw;refine jT_ (wpAny_newFunctionEnv S.nocell (by intro y hy;simp at hy) (fun h₁ bZ cV=>?_) S.kind);dsimp only at bZ cV ⊢;generalize jb:s.heap.push {cls:=.type "list",dict:=none,data:=.seq ([]:List Value).toArray}=H2 at bZ cV ⊢;have hC:H2.objs.size=s.heap.objs.size+1:=by rw[<-jb,j3_]
 have iI:s.heap.objs.size≠H2.objs.size:=by rw[hC];exact jG_ (x8_ _)
 have bN:s.heap.objs.size<=H2.objs.size:=by rw[hC];exact wp_ _
 have below:∀b,b<s.heap.objs.size->b≠H2.objs.size:=fun b hb=>by rw[hC];exact jG_ (xC_ hb)
 have b5:∀b o,s.heap.get? b=some o->h₁.get? b=some o:=fun b o e=>cV.extBut b o (below b (jl_ e)) (jd_ _ (jb ▸ jd_ _ e));have aU:h₁.get? s.heap.objs.size=some {cls:=.type "list",data:=.seq ([]:List Value).toArray 0}:=cV.extBut _ _ iI (jd_ _ (jb ▸ jp_ _ rfl));have b6:tn 0 h₁:=T.keep 0 _ _ st fun b _ o e=>b5 b o e;have bM:∀b∈fp,∃o,s.heap.get? b=some o:=fun b hb=>let ⟨o,e,_⟩:=T.obj 0 _ st b hb;⟨o,e⟩;have J0:Inv (X.blk cp.names sc H2.objs.size s H fp) [] (cp.st σ) H {s with heap:=h₁,toks:=s.toks+([]:List (Str×Value)).length}:=Rh I S gY bN eT bM rfl rfl b5 bZ;have iJ:∀b,s.heap.objs.size<=b->b∉frs X.stack:=fun b hb z=>by
  rcases jE_.mp (I.stkSub b z) with e|e
  ·exact absurd (jt_ I.lt (by rw[<-e];exact hb)) (j0_ _)
  ·exact I.nofs hb e
 have dn:∀b,s.heap.objs.size<=b->∀x c,X.env.cells.lookup x=some c->c≠b:=fun b hb x c e z=>by
  obtain⟨v,q⟩:=I.cell x c e;exact absurd (jt_ q.lt (by rw[z];exact hb)) (j0_ _)
 have kO:∀{aI:α7} {H':Hp},(∀b∈fp,H' b=none)->(∀p∈aI,p.1∉fp)->∀b∈fp,FpOk (X.blk cp.names sc H2.objs.size s H fp) aI H' b:=fun {aI H'} hn hp b hb=>by
  obtain⟨o,e⟩:=bM b hb;refine⟨hn b hb,below b (jl_ e),fun z=>?_,.inl hb,fun x c h=>(eT b hb).2.2.2.2.1 x c (Cc I S h),fun p kP z=>?_⟩
  ·rcases jE_.mp (I.stkSub b z) with e|e
   ·exact (eT b hb).2.1 e
   ·exact (eT b hb).2.2.1 e
  ·have jc:p∈aI:=by simpa using kP
   exact hp p jc (by rw[z];exact hb)
 have loop:∀aY:Shared,aY={s with heap:=h₁,toks:=s.toks+([]:List (Str×Value)).length} ->
   codeAny (model X.prog X.w) X.A (.compLoop (.ListComp cT [⟨tg,iter,cJ,0⟩] sc pos) 0 (.ref it) (.ref s.heap.objs.size) (compEnvC sc (clOf X.env sc.names []) H2.objs.size X.env))
    (RR (.ref s.heap.objs.size) H2.objs.size) aY:=by
  rintro aY rfl;refine JA (fun n s'=>∃i af H' ys ah k,Inv (X.blk cp.names sc H2.objs.size s H fp) [] af H' s'/\tn i s'.heap/\(∀b∈fp,H' b=none)/\H' s.heap.objs.size=none /\
   s'.heap.get? s.heap.objs.size=some {cls:=.type "list",data:=.seq ah.toArray k}/\Vals ys ah/\W i n ys af H') ?_ m0
   ⟨0,_,H,[],[],0,J0,b6,fun b hb=>(eT b hb).1,I.hok.fresh (jh_ _),aU,.nil,w0⟩
  rintro n s3 ⟨i,bA,H3,ys,ah,k,I3,iG,jR,nc,e3,rv,w3⟩;obtain⟨hz,tr⟩:=ar i n ys bA H3 w3;have ak:=rv.length
  -- fh accumulator stands still while anything else runs
  have fE:∀p ∈ [(s.heap.objs.size,({cls:=.type "list",data:=.seq ah.toArray k}:Obj))],p.1∉fp:=fun p hp z=>by
   have e:p=_:=jk_.mp hp;subst e;obtain⟨o,e⟩:=bM _ z;exact absurd (jl_ e) (j0_ _)
  have kQ:Inv (X.blk cp.names sc H2.objs.size s H fp) [(s.heap.objs.size,({cls:=.type "list",data:=.seq ah.toArray k}:Obj))] bA H3 s3:=I3.pins_of fun p hp=>by
   have e:p=_:=jk_.mp hp;subst e;exact⟨e3,nc,iI,iJ _ (jh_ _),fun v z=>by cases z⟩
  have cP:∀b∈fp,FpOk (X.blk cp.names sc H2.objs.size s H fp) [(s.heap.objs.size,({cls:=.type "list",data:=.seq ah.toArray k}:Obj))] H3 b:=kO jR fE;rcases tr with ⟨stop,qn⟩|⟨go,N,hN,step⟩
  ·refine thn (T.done (X.blk cp.names sc H2.objs.size s H fp) rfl rfl rfl hc i _ s3 bA H3 _ kQ cP iG stop) fun r s4 ⟨hr,I4⟩=>?_;subst hr;obtain⟨e4,n4,_⟩:=I4.pin (s.heap.objs.size,({cls:=.type "list",data:=.seq ah.toArray k}:Obj)) (by simp);have new:AY X.prog X.w (upd H3 s.heap.objs.size (.lst ys)) s4.heap s.heap.objs.size (.lst ys):=⟨xP_ hz,ah,k,rv,e4⟩;obtain⟨mC,ng,_⟩:=I4.loc;have nh:Inv (X.blk cp.names sc H2.objs.size s H fp) [] bA H3 s4:=I4.pins_of fun p hp=>by cases hp
   have I5:=Wg I nh eT (jh_ _) n4 new;refine hR _ _ s4 _ mC I5 (qn _ n4) ng ?_ (j7_ (jt_ I.lt bN)) (qg_ I.sz bN) (dn _ bN) fun p hp z=>?_
   ·rw[Aj (qp_ iI)];exact I4.free
   ·exact absurd (jt_ (jl_ (I.pin p hp).1) (by rw[z];exact bN)) (j0_ _)
  ·refine thn (T.item (X.blk cp.names sc H2.objs.size s H fp) rfl rfl rfl hc i _ s3 bA H3 _ kQ cP iG go) fun r s4 ⟨u,hr,h4⟩=>?_;subst hr;refine thn h4 fun _ s5 ⟨x,H5,I5,r5,y5,eP,kF⟩=>?_;have kH:=I5.pinned (kO kF fE) (T.obj _ _ eP);have fin:∀{di:St} {H7:Hp} {s7:Shared},Inv (X.blk cp.names sc H2.objs.size s H fp) ([(s.heap.objs.size,({cls:=.type "list",data:=.seq ah.toArray k}:Obj))]++LR fp s5.heap) di H7 s7 ->
     s7.heap.get? s.heap.objs.size=some {cls:=.type "list",data:=.seq ah.toArray k}/\H7 s.heap.objs.size=none/\(∀b∈fp,H7 b=none)/\∀b∈fp,∀o,s5.heap.get? b=some o->s7.heap.get? b=some o:=fun {di H7 s7} I7=>by
    obtain⟨e7,n7,_⟩:=I7.pin (s.heap.objs.size,({cls:=.type "list",data:=.seq ah.toArray k}:Obj)) (by simp);refine⟨e7,n7,fun b hb=>?_,fun b hb o e=>?_⟩
    ·obtain⟨o,e,_⟩:=T.obj _ _ eP b hb;exact (I7.pin (b,o) (jV_ _ (jV_ _ (Dx hb e)))).2.1
    ·exact (I7.pin (b,o) (jV_ _ (jV_ _ (Dx hb e)))).1
   refine qB_ (hg _ _ _ _ _ s5 bA H5 x u _ kH r5 (step x H5 y5)) (fun _ s6 ⟨dO,H6,I6,q6⟩=>?_) fun _ _ z=>pb z;refine qB_ (hf _ _ _ _ _ s6 dO H6 _ I6 q6) (fun ok s7 ⟨H7,I7,q7⟩=>?_) fun _ _ z=>pb z;cases ok with
   |false=>
    rw[if_neg jj_];rw[if_neg jj_]at q7;obtain⟨m',hm,w7⟩:=hN _ _ _ q7;obtain⟨e7,n7,ni,k7⟩:=fin I7;exact⟨m',hm,i+1,dO,H7,ys,ah,k,I7.pins_of (fun p hp=>by cases hp),T.keep _ _ _ eP k7,ni,n7,e7,rv,w7⟩
   |true=>
    rw[if_pos rfl];rw[if_pos rfl]at q7;refine qB_ (he _ _ _ _ _ s7 dO H7 _ I7 q7) (fun v s8 ⟨y,H8,I8,r8,q8⟩=>?_) fun _ _ z=>pb z;obtain⟨m',hm,w8⟩:=hN _ _ _ q8;obtain⟨e8,n8,nj,k8⟩:=fin I8;refine zh_ F.slot_list_append ⟨_,e8,rfl⟩ F.entry_list_append (z0_ _ _) (wl_ s.heap.objs.size ah.toArray k v (by rw[jn_];lia)) ⟨e8,?_⟩;obtain⟨k',q⟩:∃k',(s8.heap.update s.heap.objs.size (Obj.mapSeq fun x=>x.push v)).get? s.heap.objs.size=some {cls:=.type "list",data:=.seq (ah++[v]).toArray k' }:=⟨_,by
     have q:=pR e8 fun x=>x.push v;have e:(ah++[v]).toArray=ah.toArray.push v:=by simp
     rw[e];exact q⟩
    have I8':Inv (X.blk cp.names sc H2.objs.size s H fp) [] dO H8 s8:=I8.pins_of fun p hp=>by cases hp
    have I9:Inv (X.blk cp.names sc H2.objs.size s H fp) [] dO H8 {s8 with heap:=s8.heap.update s.heap.objs.size (Obj.mapSeq fun x=>x.push v),toks:=s8.toks}:=
     I8'.turned (it:=s.heap.objs.size) (fun b o hb e=>(ql_ _ _ (qp_ hb)).trans e) n8 iI (.inr (jh_ _)) (fun x c e=>dn _ (jh_ _) x c (Cc I S e)) (fun p hp=>by cases hp)
    refine⟨m',hm,i+1,dO,H8,ys++[y],ah++[v],k',I9,T.keep (i+1) s5.heap _ eP (fun b hb o e=>?_),nj,n8,q,rv.append (.cons r8 .nil),w8⟩
    ·refine (ql_ _ _ ?_).trans (k8 b hb o e);intro z;obtain⟨ob,eb⟩:=bM b hb;exact absurd (jl_ eb) (by rw[<-z];exact j0_ _)
 exact codeAny_compStart_list (loop _ rfl) (T.self _ 0 _ _ _ b6 (loop _ rfl))
def BP (hc:X.calm=true)(S:BlkSc X sc)(gY:DB X.N sc cp)(hi:PI X tg iter wi)
  (hg:∀C s₀ H₀ ex,PG (X.blk cp.names sc C s₀ H₀ ex) tg g) (hf:∀C s₀ H₀ ex,PF (X.blk cp.names sc C s₀ H₀ ex) cJ tc) (he:∀C s₀ H₀ ex,PE (X.blk cp.names sc C s₀ H₀ ex) cT te)
  (hs:∀x,foldedSetIterable iter X.env x=pure x:=by intro _;rfl):PE X (.ListComp cT [⟨tg,iter,cJ,0⟩] sc pos) (Tt wi cp g tc te):=by
 intro aa s σ H Q I h;rw[eval_ListComp];refine zi_ (use:=none) rfl hs (I0 (KO I S)) S.kind S.loc (thn (hi aa s σ H _ I h) fun xv s₁ h₁=>thn h₁ fun kB br aK=>?_);obtain⟨it,fp,tn,J,H2,e,I2,T,gQ,f2,hw⟩:=aK;subst e;refine Nt (RR:=fun acc C=>compPost (model X.prog X.w) X.A X.xe none (EP X aa σ Q) acc C) hc S gY hg hf he I2 T gQ f2 hw ?_;intro D C s' H' m I' q hn hC hL hz bC hp;exact⟨m,hn,fun h' fF=>⟨.ref D,H',I'.turned (t':=s'.toks) (it:=C) (fun b o hb e=>fF.extBut b o hb e) hC hL (.inr hz) bC hp,rfl,q⟩⟩
def Ja (hN:X.N.Nodup)(hi:X.N[i]?=some x)(hx:X.env.scope.names.lookup x=some .local)(hc:X.calm=true)(S:BlkSc X sc)(gY:DB X.N sc cp)(aB:PI X tg iter wi)
  (hg:∀C s₀ H₀ ex,PG (X.blk cp.names sc C s₀ H₀ ex) tg g) (hf:∀C s₀ H₀ ex,PF (X.blk cp.names sc C s₀ H₀ ex) cJ tc) (he:∀C s₀ H₀ ex,PE (X.blk cp.names sc C s₀ H₀ ex) cT te)
  (hsw:swapsWith (.ListComp cT [⟨tg,iter,cJ,0⟩] sc pos) (some (.Name x px)) spos.line X.env=pure true:=by rfl)
  (hs:∀x,foldedSetIterable iter X.env x=pure x:=by intro _;rfl):PS X (.Assign [.Name x px] (.ListComp cT [⟨tg,iter,cJ,0⟩] sc pos) spos) (tAsg (Tt wi cp g tc te) (IW i)):=by
 intro aa s σ H D I h;rw[exec_Assign_Name_used _ _ _ _ hsw];refine ja_ (wpAny_standAt (ja_ ?_));show wpAny _ X.A (do let _ <- comprehension (.ListComp cT [⟨tg,iter,cJ,0⟩] sc pos) sc X.env _ (newList []) false (eval iter X.env) (some (assign (.Name x px) X.env))) _ _ s;refine ja_ (qB_ (zi_ (use:=some (assign (.Name x px) X.env)) (Q:=fun _ s'=>SP X aa D .next s') rfl hs (I0 (KO I S)) S.kind S.loc
  (thn (aB aa s σ H _ I h) fun xv s₁ h₁=>thn h₁ fun kB br aK=>?_)) (fun _ s' hq=>jf_ (jf_ hq)) fun _ _ e=>e)
 obtain⟨it,fp,tn,J,H2,e,I2,T,gQ,f2,hw⟩:=aK;subst e;refine Nt (RR:=fun acc C=>compPost (model X.prog X.w) X.A X.xe (some (assign (.Name x px) X.env)) (fun _ s'=>SP X aa D .next s') acc C) (Q:=fun v H1=>IW i v σ H1 D.nx) hc S gY hg hf he I2 T gQ f2 hw ?_;intro Dl C s' H' m I' q hn hC hL hz bC hp;show wpAny _ X.A (assign (.Name x px) X.env (.ref Dl)) _ _ _;refine wpAny_assign_Name (M9 I' hN hi (.inl hx) (v:=.ref Dl) rfl (fun kI I'' ⟨a,hsb,ha⟩=>?_) (.inr hx));have aG:C≠a:=by
  rcases ha with rfl|ha
  ·exact hL
  ·exact fun z=>bC _ _ ha z.symm
 refine⟨m,hn.sameBut hsb aG,fun h' fF=>⟨_,H',I''.turned (t':=kI.toks) (it:=C) (fun b o hb e=>fF.extBut b o hb e) hC hL (.inr hz) bC hp,q⟩⟩
end
def Ri {K:α3}{a:Addr}{xs:List V}{g:TG}{tc:TT}{te:TE}{Q:VK}{σ:St}{H:Hp}(Pv:Nat->List V->St->Hp->Prop)(h0:Pv 0 [] σ H)(hz:xs.length<sizeLine)
  (hl:∀i ys σ H,i<=xs.length->Pv i ys σ H->SqL K H a xs/\ys.length<=i)
  (hs:∀i x ys σ H,xs[i]?=some x->Pv i ys σ H->g x σ H fun ai H2=>tc ai H2 fun b H3=>if b=true then te ai H3 fun v H4=>Pv (i+1) (ys++[v]) ai H4 else Pv (i+1) ys ai H3)
  (hd:∀ys σ H,Pv xs.length ys σ H->∀D,H D=none->Q (.ref D) (upd H D (.lst ys))):
  ∃W:Nat->Nat->List V->St->Hp->Prop,(∃m,W 0 m [] σ H)/\∀i m ys af H',W i m ys af H' ->
   ys.length<sizeLine/\(((Itl K a).stop i H'/\∀D,H' D=none->Q (.ref D) (upd H' D (.lst ys)))\/((Itl K a).go i H'/\∃N:List V->St->Hp->Prop,(∀zs ai H2,N zs ai H2->∃m',m'<m/\W (i+1) m' zs ai H2)/\∀x H2,(Itl K a).yld i H' x H2->g x af H2 fun ai H3=>tc ai H3 fun b H4=>
    if b=true then te ai H4 fun v H5=>N (ys++[v]) ai H5 else N ys ai H4)):=by
 refine⟨fun i m ys σ H=>m=xs.length-i/\i<=xs.length/\Pv i ys σ H,⟨xs.length,by simp,qc_ _,h0⟩,?_⟩;rintro i m ys σ H ⟨rfl,hi,p⟩;obtain⟨q,ly⟩:=hl i ys σ H hi p;refine⟨by lia,?_⟩;by_cases aH:i<xs.length
 ·refine .inr ⟨⟨xs,xs[i],q,by simp[aH]⟩,Pv (i+1),fun zs af H' p'=>⟨xs.length-(i+1),by lia,rfl,aH,p'⟩,fun x H' y=>?_⟩;obtain⟨e,y⟩:=y;subst e;exact hs i x ys σ _ (y xs q) p
 ·have e:i=xs.length:=by lia
  subst e;exact .inl ⟨⟨xs,q,jh_ _⟩,hd ys σ H p⟩
def Tu {K:α3}{a:Addr}{xs:List V}{g:TG}{tc:TT}{te:TE}{Q:VK}{σ:St}{H:Hp}(Pv:Nat->List V->St->Hp->Prop)(h0:Pv 0 [] σ H)(hz:xs.length<sizeLine)
  (hl:∀i ys σ H,i<=xs.length->Pv i ys σ H->SqT K H a xs/\ys.length<=i)
  (hs:∀i x ys σ H,xs[i]?=some x->Pv i ys σ H->g x σ H fun ai H2=>tc ai H2 fun b H3=>if b=true then te ai H3 fun v H4=>Pv (i+1) (ys++[v]) ai H4 else Pv (i+1) ys ai H3)
  (hd:∀ys σ H,Pv xs.length ys σ H->∀D,H D=none->Q (.ref D) (upd H D (.lst ys))):
  ∃W:Nat->Nat->List V->St->Hp->Prop,(∃m,W 0 m [] σ H)/\∀i m ys af H',W i m ys af H' ->
   ys.length<sizeLine/\(((Itt K a).stop i H'/\∀D,H' D=none->Q (.ref D) (upd H' D (.lst ys)))\/((Itt K a).go i H'/\∃N:List V->St->Hp->Prop,(∀zs ai H2,N zs ai H2->∃m',m'<m/\W (i+1) m' zs ai H2)/\∀x H2,(Itt K a).yld i H' x H2->g x af H2 fun ai H3=>tc ai H3 fun b H4=>
    if b=true then te ai H4 fun v H5=>N (ys++[v]) ai H5 else N ys ai H4)):=by
 refine⟨fun i m ys σ H=>m=xs.length-i/\i<=xs.length/\Pv i ys σ H,⟨xs.length,by simp,qc_ _,h0⟩,?_⟩;rintro i m ys σ H ⟨rfl,hi,p⟩;obtain⟨q,ly⟩:=hl i ys σ H hi p;refine⟨by lia,?_⟩;by_cases aH:i<xs.length
 ·refine .inr ⟨⟨xs,xs[i],q,by simp[aH]⟩,Pv (i+1),fun zs af H' p'=>⟨xs.length-(i+1),by lia,rfl,aH,p'⟩,fun x H' y=>?_⟩;obtain⟨e,y⟩:=y;subst e;exact hs i x ys σ _ (y xs q) p
 ·have e:i=xs.length:=by lia
  subst e;exact .inl ⟨⟨xs,q,jh_ _⟩,hd ys σ H p⟩
def Qd {lo:Int}{n:Nat}{g:TG}{tc:TT}{te:TE}{Q:VK}{σ:St}{H:Hp}(Pv:Nat->List V->St->Hp->Prop)(h0:Pv 0 [] σ H)(hz:n<sizeLine)
  (hl:∀i ys σ H,i<=n->Pv i ys σ H->ys.length<=i)
  (hs:∀i ys σ H,i<n->Pv i ys σ H->g (.int (lo+i)) σ H fun ai H2=>tc ai H2 fun b H3=>if b=true then te ai H3 fun v H4=>Pv (i+1) (ys++[v]) ai H4 else Pv (i+1) ys ai H3)
  (hd:∀ys σ H,Pv n ys σ H->∀D,H D=none->Q (.ref D) (upd H D (.lst ys))):
  ∃W:Nat->Nat->List V->St->Hp->Prop,(∃m,W 0 m [] σ H)/\∀i m ys af H',W i m ys af H' ->
   ys.length<sizeLine/\(((Itr lo n).stop i H'/\∀D,H' D=none->Q (.ref D) (upd H' D (.lst ys)))\/((Itr lo n).go i H'/\∃N:List V->St->Hp->Prop,(∀zs ai H2,N zs ai H2->∃m',m'<m/\W (i+1) m' zs ai H2)/\∀x H2,(Itr lo n).yld i H' x H2->g x af H2 fun ai H3=>tc ai H3 fun b H4=>
    if b=true then te ai H4 fun v H5=>N (ys++[v]) ai H5 else N ys ai H4)):=by
 refine⟨fun i m ys σ H=>m=n-i/\i<=n/\Pv i ys σ H,⟨n,by simp,qc_ _,h0⟩,?_⟩;rintro i m ys σ H ⟨rfl,hi,p⟩;have ly:=hl i ys σ H hi p;refine⟨by lia,?_⟩;by_cases aH:i<n
 ·refine .inr ⟨aH,Pv (i+1),fun zs af H' p'=>⟨n-(i+1),by lia,rfl,aH,p'⟩,fun x H' y=>?_⟩;obtain⟨e,y⟩:=y;subst e y;exact hs i ys σ _ aH p
 ·have e:i=n:=by lia
  subst e;exact .inl ⟨jh_ _,hd ys σ H p⟩
end L2
namespace L2
open PySem PySem.Spec PyProof.Rows
section
variable {X:Cx}
def Mp {bs:List Bool}{ah:List Value}(r:Vals (bs.map V.bl) ah){i:Nat}{v:Value}(h:ah[i]?=some v):∃b,bs[i]?=some b/\v=.bool b:=by
 have hi:i<ah.length:=(jg_.mp h).1;have hl:=r.length;rw[jb_]at hl;obtain⟨u,hu,ru⟩:=r.get (i:=i) (x:=V.bl bs[i]) (by rw[ji_];simp[show i<bs.length by lia]);rw[h]at hu;cases hu;exact⟨bs[i],by simp[show i<bs.length by lia],ru⟩
def range_all {bs:List Bool}:(oX bs.length).all (fun i=>bs.getD i false)=bs.all id:=by
 rw[qX_,qZ_,qZ_];constructor
 ·intro h x hx;obtain⟨i,hi,e⟩:=xj_ hx;have:=h i (qo_.mpr hi);rw[jc_]at this;simp[hi]at this;rw[e]at this;exact this
 ·intro h i hi;have hi:=qo_.mp hi;rw[jc_];simp[hi];exact h _ (jQ_ hi)
def Ol {bs:List Bool}{ah:List Value}{A:Around}{P:Program}{w:World}(r:Vals (bs.map V.bl) ah):TruthOf P w A (fun i v=>ah.toArray[i]?=some v) (fun i=>bs.getD i false):=by
 intro i v s Q E hv hq;obtain⟨b,hb,e⟩:=Mp r (by simpa using hv);subst e;refine xA_ ?_;have e:bs.getD i false=b:=by rw[jc_,hb];rfl
 have dQ:Q (bs.getD i false) s:=hq;rw[e]at dQ;exact dQ
def Tv (hc:X.calm=true):Er X (.builtin "all") (fun xs H Q=>∃(p:Addr) (bs:List Bool),xs=[.ref p]/\SqL X.K H p (bs.map V.bl)/\Q (.bl (bs.all id)) H):=by
 intro aa s σ H xs us Q I r h;obtain⟨p,bs,rfl,hq,q⟩:=h;obtain⟨u,rfl,ru⟩:=vals1 r;cases ru;obtain⟨ah,rv,pl,hz⟩:=I.list hq;have ak:=rv.length;rw[jb_]at ak;have hh:X.A.in1.handled=none:=I.ok.hd hc;obtain⟨o,ho,_⟩:=id pl.isList;have aG:p≠s.heap.objs.size:=jG_ (jl_ ho);refine call_all_walk (xY_ pl.isList ?_);refine⟨s.heap.objs.size,_,_,ah.toArray.size,_,_,fun i=>bs.getD i false,rfl,Walks.list hh _ p aG ah.toArray,⟨⟨_,jp_ _ rfl,rfl,rfl⟩,pl.isList.at fun o e=>jd_ _ e⟩,Ol rv,fun h' tk hk=>?_⟩;refine⟨.bl (bs.all id),H,I.kept (t':=tk) fun b o e=>hk b o ?_ (jd_ _ e),?_,q⟩
 ·intro hb;have e':b=s.heap.objs.size:=by simpa using hb
  exact absurd (jl_ e) (by rw[e'];exact j0_ _)
 ·rw[jn_,<-ak,range_all];rfl
def EL:Er X (.builtin "isinstance") (fun xs H Q=>∃x c cv t b,xs=[x,c]/\TyOf X.K H x t/\(∀u,RelV c u->u=cv)/\kitOne X.K t cv=some b/\Q (.bl b) H):=by
 intro aa s σ H xs us Q I r h;obtain⟨x,c,cv,t,b,rfl,ty,hc,hk,q⟩:=h;obtain⟨u,w',rfl,rx,rc⟩:=vals2 r;rw[hc _ rc];exact QZ I rx ty hk fun tk=>⟨.bl b,H,I.tok tk,rfl,q⟩
noncomputable def EqD (K:α3)(H:Hp):Nat->V->V->Bool->Prop
 |0,x,y,b=>Ft x=true/\Ft y=true/\b=eqV x y
 |n+1,x,y,b=>(Ft x=true/\Ft y=true/\b=eqV x y) \/ ∃a c xs ys,x=.ref a/\y=.ref c/\((SqL K H a xs/\SqL K H c ys)\/(SqT K H a xs/\SqT K H c ys)) /\
   ∃e:Nat->Bool,(∀i x y,xs[i]?=some x->ys[i]?=some y->EqD K H n x y (e i))/\b=(decide (xs.length=ys.length)&&(oX (min xs.length ys.length)).all e)
def in1_units (A:Around):A.in1.units=A.units+1:=rfl
def Pf (h:Ft x=true):eqV x x=true:=by
 cases x<;>first|rfl|(simp[eqV];done)|exact absurd (show false=true from h) jj_
def EqD.self (I:Inv X aa σ H s):∀(n:Nat) {x:V} {b:Bool},EqD X.K H n x x b->b=true:=by
 intro n
 induction n with
 |zero=>
  rintro x b ⟨fx,_,rfl⟩;exact Pf fx
 |succ n ih=>
  rintro x b (⟨fx,_,rfl⟩|⟨a,c,xs,ys,rfl,e2,hq,e,he,rfl⟩)
  ·exact Pf fx
  ·cases e2;have exy:xs=ys:=by
    rcases hq with ⟨h1,h2⟩|⟨h1,h2⟩
    ·exact I.list_inj h1 h2
    ·exact I.tuple_inj h1 h2
   subst exy;simp only[decide_true,qB,pY,qZ_,qo_];intro i hi;exact ih (he i xs[i] xs[i] (by simp[hi]) (by simp[hi]))
def Rj : ((oX (min n m)).all e&&n==m)=(decide (n=m)&&(oX (min n m)).all e):=by
 rw[Bool.and_comm]
 congr 1
def EqD.at (I:Inv X aa σ H s):∀(n:Nat) (A:Around) {x y:V} {u v:Value} {b:Bool},A.units+n<cLine->RelV x u->RelV y v->EqD X.K H n x y b ->
  SeqAt.EqAt A s u v b/\∀a c,x=.ref a->y=.ref c->SeqAt.RcAt A s u v b:=by
 intro n
 induction n with
 |zero=>
  intro A x y u v b hu rx ry h;obtain⟨fx,fy,rfl⟩:=h;refine⟨Q6 rx ry fx fy,?_⟩;rintro a c rfl rfl;exact absurd (show false=true from fx) jj_
 |succ n ih=>
  intro A x y u v b hu rx ry h;have hself:=h;rcases h with ⟨fx,fy,rfl⟩|⟨a,c,xs,ys,rfl,rfl,hq,e,he,rfl⟩
  ·refine⟨Q6 rx ry fx fy,?_⟩;rintro a c rfl rfl;exact absurd (show false=true from fx) jj_
  ·cases rx;cases ry;have key:∀(ah aL:List Value),Vals xs ah->Vals ys aL->∀j (h1:j<ah.toArray.size) (h2:j<aL.toArray.size),SeqAt.EqAt A.in1 s ah.toArray[j] aL.toArray[j] (e j):=fun ah aL r1 r2 j h1 h2=>by
    have l1:=r1.length;have l2:=r2.length;rw[jn_]at h1 h2;obtain⟨u1,g1,q1⟩:=r1.get (i:=j) (x:=xs[j]'s!"") (by simp[show j<xs.length by lia]);obtain⟨u2,g2,q2⟩:=r2.get (i:=j) (x:=ys[j]'s!"") (by simp[show j<ys.length by lia]);have k1:ah.toArray[j]'(by rw[jn_];exact h1)=u1:=by
     have:=(jg_.mp g1).2;simpa using this
    have k2:aL.toArray[j]'(by rw[jn_];exact h2)=u2:=by
     have:=(jg_.mp g2).2;simpa using this
    rw[k1,k2];exact (ih A.in1 (by rw[in1_units];lia) q1 q2 (he j _ _ (by simp[show j<xs.length by lia]) (by simp[show j<ys.length by lia]))).1
   have rc:SeqAt.RcAt A s (.ref a) (.ref c) (decide (xs.length=ys.length)&&(oX (min xs.length ys.length)).all e):=by
    rcases hq with ⟨h1,h2⟩|⟨h1,h2⟩
    ·obtain⟨ah,r1,p1,_⟩:=I.list h1;obtain⟨aL,r2,p2,_⟩:=I.list h2;have l1:=r1.length;have l2:=r2.length;by_cases hl:xs.length=ys.length
     ·have:=SeqAt.RcAt.lists (e:=e) p1.isList p2.isList (by rw[jn_,jn_];lia) s!"" (key ah aL r1 r2);rw[jn_,<-l1]at this;rw[qx_ hl,qB,<-hl,pY];exact this
     ·rw[qF_ hl,ql];exact SeqAt.RcAt.lists_lengths p1.isList p2.isList (by rw[jn_,jn_];simp;lia) s!""
    ·obtain⟨ah,r1,p1,_⟩:=I.tuple h1;obtain⟨aL,r2,p2,_⟩:=I.tuple h2;have l1:=r1.length;have l2:=r2.length;have:=SeqAt.RcAt.tuples (e:=e) (show s.heap.IsTuple a ah.toArray from p1) (show s.heap.IsTuple c aL.toArray from p2) s!"" (key ah aL r1 r2);rw[jn_,jn_,<-l1,<-l2,Rj]at this;exact this
   refine⟨?_,fun a' c' _ _=>rc⟩;by_cases hac:a=c
   ·subst hac;rw[EqD.self I (n+1) hself];exact SeqAt.EqAt.same _
   ·exact SeqAt.EqAt.of_refs hac rc
noncomputable def rEqD (K:α3)(n:Nat):R2:=fun x y H Q=>∃a c b,x=.ref a/\y=.ref c/\EqD K H n x y b/\Q (.bl b) H
def U0 (n:Nat)(hu:X.A.units+n<cLine):OpR X (compareOp .Eq) (rEqD X.K n):=by
 intro aa s σ H x y v u Q I rx ry h;obtain⟨a,c,b,ex,ey,h,q⟩:=h;exact (EqD.at I n X.A hu rx ry h).2 a c ex ey _ _ _ _ ⟨.bl b,H,I,rfl,q⟩
def EqD.flat {K:α3} (hq:(SqL K H a xs/\SqL K H c ys)\/(SqT K H a xs/\SqT K H c ys))(fx:∀x∈xs,Ft x=true)(fy:∀y∈ys,Ft y=true)(hi:∀x∈xs,∀y∈ys,eqV x y=decide (x=y))(n:Nat):
  EqD K H (n+1) (.ref a) (.ref c) (decide (xs=ys)):=by
 have base:∀m i x y,xs[i]?=some x->ys[i]?=some y->EqD K H m x y (decide (x=y)):=fun m i x y h1 h2=>by
  have m1:=jo_ h1;have m2:=jo_ h2;cases m with
  |zero=>exact⟨fx _ m1,fy _ m2,(hi _ m1 _ m2).symm⟩
  |succ m=>exact .inl ⟨fx _ m1,fy _ m2,(hi _ m1 _ m2).symm⟩
 refine .inr ⟨a,c,xs,ys,rfl,rfl,hq,fun i=>match xs[i]?,ys[i]? with|some x,some y=>decide (x=y)|_,_=>true,fun i x y h1 h2=>?_,?_⟩
 ·simp only[h1,h2];exact base n i x y h1 h2
 ·rw[qX_];simp only[qG_,j1_,qZ_,qo_];constructor
  ·rintro rfl;refine⟨rfl,fun i hi=>?_⟩;have hi:i<xs.length:=by lia
   simp[hi]
  ·rintro⟨hl,h⟩;refine qR_ fun i=>?_;by_cases hi:i<xs.length
   ·have:=h i s!"";simp[hi,show i<ys.length by lia]at this;simp[hi,show i<ys.length by lia,this]
   ·rw[jy_ s!"",jy_ s!""]
end
end L2
namespace L2
open PySem PySem.Spec PyProof.Rows
noncomputable def XC (outer:List (Str×NameKind))(sc:Scope):Bool:=
 sc.kind == .function&&sc.names.all (fun y=>y.2 != .cell&&(y.2 != .local||sc.names.lookup y.1==some .local)&&(y.2 != .free||outer.lookup y.1==some .cell||outer.lookup y.1==some .free))
def BO (h:XC X.env.scope.names sc=true):BlkSc X sc:=by
 unfold XC at h;rw[j1_,qZ_]at h;obtain⟨h1,h2⟩:=h;refine⟨by simpa using h1,fun y hy z=>?_,fun y hy z=>?_,fun y hy z=>?_⟩
 ·have:=h2 y hy;simp only[j1_]at this;have:=this.1.1;rw[z]at this;exact absurd this (by decide)
 ·have:=h2 y hy;simp only[j1_]at this;have:=this.1.2;rw[z]at this;simpa using this
 ·have:=h2 y hy;simp only[j1_]at this;have:=this.2;rw[z]at this;have t:(X.env.scope.names.lookup y.1==some .cell||X.env.scope.names.lookup y.1==some .free)=true:=by simpa using this
  rw[qc]at t;rcases t with t|t
  ·exact .inl (by show X.env.scope.names.lookup y.1=some .cell;simpa using t)
  ·exact .inr (by show X.env.scope.names.lookup y.1=some .free;simpa using t)
section
variable {t u:TS} {te ta tb tc':TE} {tt tu:TT} {A B:TA} {D:Ends} {σ:St} {H:Hp} {Q:VK} {R:Bool->Hp->Prop} {S:List V->Hp->Prop} {i:Nat} {v:V} {g:TG} {r r':R2} {K:α3} {wi:TI} {cp:Caps}
theorem XD:tSeq t u D σ H=t {D with nx:=u D} σ H:=rfl
theorem U1:Xg D σ H=D.nx σ H:=rfl
theorem XE:tAsg te g D σ H=te σ H fun x H1=>g x σ H1 D.nx:=rfl
theorem Rk : IW i v σ H N=N (σ.set i (some v)) H:=rfl
theorem XF:tVar i σ H Q=∃v,σ[i]?=some (some v)/\Q v H:=rfl
theorem r_c:tC v σ H Q=Q v H:=rfl
theorem r_op:tOp r ta tb σ H Q=ta σ H fun x H1=>tb σ H1 fun y H2=>r x y H2 Q:=rfl
theorem r_un : tUn f ta σ H Q=ta σ H fun x H1=>f x H1 Q:=rfl
theorem r_I : rI C f x y H Q=∃i j,x=.int i/\y=.int j/\C i j/\Q (f i j) H:=rfl
theorem r_I0 : rI0 f x y H Q=∃i j,x=.int i/\y=.int j/\Q (f i j) H:=rfl
theorem r_U : rU f x H Q=∃i,x=.int i/\Q (f i) H:=rfl
theorem U2 : Th sp aV E A σ H Q=A σ H fun vs H1=>sp (vs++aV) H1 Q E:=rfl
theorem U3:Xp te A σ H S=te σ H fun x H1=>A σ H1 fun xs H2=>S (x::xs) H2:=rfl
theorem XG:tNil σ H S=S [] H:=rfl
theorem XH:tRet te D σ H=te σ H D.rt:=rfl
theorem U4:Xh te D σ H=te σ H fun _ H1=>D.nx σ H1:=rfl
theorem r_if:tIfS tt t u D σ H=tt σ H fun b H1=>if b=true then t D σ H1 else u D σ H1:=rfl
theorem r_B:tB te σ H R=te σ H fun x H1=>∃c,x=.bl c/\R c H1:=rfl
theorem U5:Te te σ H R=te σ H fun x H1=>∃c,x=.bl c/\R c H1:=rfl
theorem XI:tAnd tt tu σ H R=tt σ H fun c H1=>if c=true then tu σ H1 R else R false H1:=rfl
theorem r_or:tOr tt tu σ H R=tt σ H fun c H1=>if c=true then R true H1 else tu σ H1 R:=rfl
theorem XJ:tNot tt σ H R=tt σ H fun c H1=>R (!c) H1:=rfl
theorem U6:Xd ta tb σ H Q=ta σ H fun x H1=>∃c,x=.bl c/\if c=true then tb σ H1 Q else Q (.bl false) H1:=rfl
theorem Rl:UP r r' ta tb tc' σ H Q=ta σ H fun x H1=>tb σ H1 fun y H2=>r x y H2 fun z H3=>∃k,z=.bl k/\(if k=true then tc' σ H3 fun w' H4=>r' y w' H4 Q else Q (.bl false) H3):=rfl
theorem XM:tIf tt ta tb σ H Q=tt σ H fun c H1=>if c=true then ta σ H1 Q else tb σ H1 Q:=rfl
theorem r_CB : tCB f A σ H Q=A σ H fun vs H1=>f vs H1 Q:=rfl
theorem XN:tLst A σ H Q=A σ H fun xs H1=>xs.length<=sizeLine/\∀p,H1 p=none->Q (.ref p) (upd H1 p (.lst xs)):=rfl
theorem XO:tTup A σ H Q=A σ H fun xs H1=>xs.length<=sizeLine/\∀p,H1 p=none->Q (.ref p) (upd H1 p (.tup xs)):=rfl
theorem XQ : rIxL K x y H Q=∃p xs i v,x=.ref p/\y=.int i/\SqL K H p xs/\atI xs i=some v/\Q v H:=rfl
theorem XR : rIxT K x y H Q=∃p xs i v,x=.ref p/\y=.int i/\SqT K H p xs/\atI xs i=some v/\Q v H:=rfl
theorem r_sl : tSl f te tl th σ H Q=te σ H fun x H1=>tl σ H1 fun l H2=>th σ H2 fun u H3=>f x l u H3 Q:=rfl
theorem U7 : Xt te σ H U=te σ H fun x H1=>∃i,x=.int i/\U (some i) H1:=rfl
theorem Pg : Q3 σ H U=U none H:=rfl
theorem r_BM : tBM K T f te A σ H Q=te σ H fun x H1=>tyV K T x H1/\A σ H1 fun xs H2=>f x xs H2 Q:=rfl
theorem Ph : Q8 x vs H Q=∃l xs y,x=.ref l/\vs=[y]/\H l=some (.lst xs)/\xs.length<sizeLine/\Q .non (upd H l (.lst (xs++[y]))):=rfl
theorem r_Eq : rEq x y H Q=(scal x y=true/\Q (.bl (decide (x=y))) H):=rfl
theorem r_Ne : rNe x y H Q=(scal x y=true/\Q (.bl (!decide (x=y))) H):=rfl
theorem XS : rEqD K n x y H Q=∃a c b,x=.ref a/\y=.ref c/\EqD K H n x y b/\Q (.bl b) H:=rfl
theorem Rm : Xl K te σ H Z=te σ H fun x H1=>∃a,x=.ref a/\(∃xs,SqL K H1 a xs)/\Z (Itl K a) H1:=rfl
theorem U8 : iTup K te σ H Z=te σ H fun x H1=>∃a,x=.ref a/\(∃xs,SqT K H1 a xs)/\Z (Itt K a) H1:=rfl
theorem Ro : Xm A σ H Z=A σ H fun vs H1=>∃j:Int,vs=[.int j] /\ -(2 ^ 62)<=j/\j<2 ^ 62/\Z (Itr 0 j.toNat) H1:=rfl
theorem XT : tAug i te ti D σ H=∃x,σ[i]?=some (some x)/\te σ H fun y H1=>ti x y H1 fun z H2=>D.nx (σ.set i (some z)) H2:=rfl
theorem r_ip : ipI f x y H Q=∃i j,x=.int i/\y=.int j/\Q (.int (f i j)) H:=rfl
theorem Rp:Mo σ H R=R true H:=rfl
end
def Same.new (h:H p=none):Same H (upd H p o):=fun b u e=>by rw[Aj (AL e h)];exact e
def Same.newT (s:Same H H')(h:H' p=none):Same H (upd H' p o):=s.trans (Same.new h)
def Same.over (s:Same H H')(h:H p=none):Same H (upd H' p o):=fun b u e=>by rw[Aj (AL e h)];exact s b u e
def Om (h:upd H p o D=none):H D=none/\D≠p:=by
 by_cases e:D=p
 ·subst e;rw[Ab]at h;cases h
 ·rw[Aj e]at h;exact⟨h,e⟩
def Same.seqT {K:α3} (e:Same H H')(h:SqT K H a xs):SqT K H' a xs:=by
 rcases h with (h|⟨o,h⟩)|h
 ·exact .inl (.inl (e _ _ h))
 ·exact .inl (.inr ⟨o,e _ _ h⟩)
 ·exact .inr h
def hu9 (hr:Room k A):A.units+8<cLine:=by have:=hr.units;lia
section
variable {K:α3} {wi:TI} {cp:Caps} {g:TG} {tc:TT} {te:TE} {σ:St} {H:Hp} {Q:VK}
theorem XU : (cxOf CX P w K mg base N qual scope f cd A outer s H E).K=K:=rfl
noncomputable def HV (J:It)(cp:Caps)(g:TG)(tc:TT)(te:TE)(σ:St)(H1:Hp)(Q:VK):Prop:=∃W:Nat->Nat->List V->St->Hp->Prop,(∃m,W 0 m [] (cp.st σ) H1)/\∀i m ys af H',W i m ys af H' ->
 ys.length<sizeLine/\((J.stop i H'/\∀D,H' D=none->Q (.ref D) (upd H' D (.lst ys)))\/(J.go i H'/\∃N:List V->St->Hp->Prop,(∀zs ai H2,N zs ai H2->∃m',m'<m/\W (i+1) m' zs ai H2)/\∀x H2,J.yld i H' x H2->g x af H2 fun ai H3=>tc ai H3 fun b H4=>
  if b=true then te ai H4 fun v H5=>N (ys++[v]) ai H5 else N ys ai H4))
theorem U9:Tt wi cp g tc te σ H Q=wi σ H fun J H1=>HV J cp g tc te σ H1 Q:=rfl
noncomputable def ForW (J:It)(g:TG)(tb:TS)(D:Ends)(σ:St)(H1:Hp):Prop:=∃W:Nat->Nat->St->Hp->Prop,(∃m,W 0 m σ H1)/\∀i m σ H,W i m σ H ->
 (J.stop i H/\D.nx σ H)\/(J.go i H/\∃N:St->Hp->Prop,(∀af H',N af H'->∃m',m'<m/\W (i+1) m' af H')/\∀x H',J.yld i H x H'->g x σ H' fun ai H2=>tb {D with nx:=N,ct:=N,bk:=D.nx} ai H2)
theorem XW : tFor wi g tb D σ H=wi σ H fun J H1=>ForW J g tb D σ H1:=rfl
def forL (Pv:Nat->St->Hp->Prop)(h0:Pv 0 σ H)(hl:∀i σ H,i<=xs.length->Pv i σ H->SqL K H a xs)
  (hs:∀i x σ H,xs[i]?=some x->Pv i σ H->g x σ H fun ai H2=>tb {D with nx:=Pv (i+1),ct:=Pv (i+1),bk:=D.nx} ai H2) (hd:∀σ H,Pv xs.length σ H->D.nx σ H):ForW (Itl K a) g tb D σ H:=Td Pv h0 hl hs hd
def forT (Pv:Nat->St->Hp->Prop)(h0:Pv 0 σ H)(hl:∀i σ H,i<=xs.length->Pv i σ H->SqT K H a xs)
  (hs:∀i x σ H,xs[i]?=some x->Pv i σ H->g x σ H fun ai H2=>tb {D with nx:=Pv (i+1),ct:=Pv (i+1),bk:=D.nx} ai H2) (hd:∀σ H,Pv xs.length σ H->D.nx σ H):ForW (Itt K a) g tb D σ H:=VZ Pv h0 hl hs hd
def forR {lo:Int} (Pv:Nat->St->Hp->Prop)(h0:Pv 0 σ H)
  (hs:∀i σ H,i<n->Pv i σ H->g (.int (lo+i)) σ H fun ai H2=>tb {D with nx:=Pv (i+1),ct:=Pv (i+1),bk:=D.nx} ai H2) (hd:∀σ H,Pv n σ H->D.nx σ H):ForW (Itr lo n) g tb D σ H:=QO Pv h0 hs hd
def KQ (Pv:Nat->List V->St->Hp->Prop)(h0:Pv 0 [] (cp.st σ) H)(hz:xs.length<sizeLine)
  (hl:∀i ys σ H,i<=xs.length->Pv i ys σ H->SqL K H a xs/\ys.length<=i)
  (hs:∀i x ys σ H,xs[i]?=some x->Pv i ys σ H->g x σ H fun ai H2=>tc ai H2 fun b H3=>if b=true then te ai H3 fun v H4=>Pv (i+1) (ys++[v]) ai H4 else Pv (i+1) ys ai H3)
  (hd:∀ys σ H,Pv xs.length ys σ H->∀D,H D=none->Q (.ref D) (upd H D (.lst ys))):HV (Itl K a) cp g tc te σ H Q:=Ri Pv h0 hz hl hs hd
def Wi (Pv:Nat->List V->St->Hp->Prop)(h0:Pv 0 [] (cp.st σ) H)(hz:xs.length<sizeLine)
  (hl:∀i ys σ H,i<=xs.length->Pv i ys σ H->SqT K H a xs/\ys.length<=i)
  (hs:∀i x ys σ H,xs[i]?=some x->Pv i ys σ H->g x σ H fun ai H2=>tc ai H2 fun b H3=>if b=true then te ai H3 fun v H4=>Pv (i+1) (ys++[v]) ai H4 else Pv (i+1) ys ai H3)
  (hd:∀ys σ H,Pv xs.length ys σ H->∀D,H D=none->Q (.ref D) (upd H D (.lst ys))):HV (Itt K a) cp g tc te σ H Q:=Tu Pv h0 hz hl hs hd
def Rq {lo:Int} (Pv:Nat->List V->St->Hp->Prop)(h0:Pv 0 [] (cp.st σ) H)(hz:n<sizeLine)
  (hl:∀i ys σ H,i<=n->Pv i ys σ H->ys.length<=i)
  (hs:∀i ys σ H,i<n->Pv i ys σ H->g (.int (lo+i)) σ H fun ai H2=>tc ai H2 fun b H3=>if b=true then te ai H3 fun v H4=>Pv (i+1) (ys++[v]) ai H4 else Pv (i+1) ys ai H3)
  (hd:∀ys σ H,Pv n ys σ H->∀D,H D=none->Q (.ref D) (upd H D (.lst ys))):HV (Itr lo n) cp g tc te σ H Q:=Qd Pv h0 hz hl hs hd
def Mq (f:V->V)(e:cp.st σ=none::af)(hl:SqT K H a xs)(hz:xs.length<sizeLine)(hs:∀x∈xs,∀R:VK,R (f x) H->te (some x::af) H R)(hd:∀D,H D=none->Q (.ref D) (upd H D (.lst (xs.map f)))):
  HV (Itt K a) cp (IW 0) Mo te σ H Q:=by
 refine Wi (xs:=xs) (fun i ys ai H2=>H2=H/\ys=(xs.take i).map f/\∃o,ai=o::af) ⟨rfl,by simp,none,e⟩ hz (fun i ys ai H2 hi h=>?_) (fun i x ys ai H2 hx h=>?_) (fun ys ai H2 h=>?_)
 ·obtain⟨rfl,rfl,_⟩:=h;exact⟨hl,by rw[jb_,jI_];lia⟩
 ·obtain⟨rfl,rfl,o,rfl⟩:=h;refine hs x (jo_ hx) _ ⟨rfl,?_,some x,rfl⟩;rw[jU_,hx];simp
 ·obtain⟨rfl,rfl,_⟩:=h;rw[jF_];exact hd
def Tw (f:V->V)(e:cp.st σ=none::af)(hl:SqL K H a xs)(hz:xs.length<sizeLine)(hs:∀x∈xs,∀R:VK,R (f x) H->te (some x::af) H R)(hd:∀D,H D=none->Q (.ref D) (upd H D (.lst (xs.map f)))):
  HV (Itl K a) cp (IW 0) Mo te σ H Q:=by
 refine KQ (xs:=xs) (fun i ys ai H2=>H2=H/\ys=(xs.take i).map f/\∃o,ai=o::af) ⟨rfl,by simp,none,e⟩ hz (fun i ys ai H2 hi h=>?_) (fun i x ys ai H2 hx h=>?_) (fun ys ai H2 h=>?_)
 ·obtain⟨rfl,rfl,_⟩:=h;exact⟨hl,by rw[jb_,jI_];lia⟩
 ·obtain⟨rfl,rfl,o,rfl⟩:=h;refine hs x (jo_ hx) _ ⟨rfl,?_,some x,rfl⟩;rw[jU_,hx];simp
 ·obtain⟨rfl,rfl,_⟩:=h;rw[jF_];exact hd
end
noncomputable def tCut (t u:TS):TS:=fun D σ H=>∃R:St->Hp->Prop,t {D with nx:=R} σ H/\∀af H',R af H'->u D af H'
def Ee {st:Stmt}{rest:List Stmt} (h1:PS X st t)(h2:PSs X rest u):PSs X (st::rest) (tCut t u):=by
 intro aa s σ H D I h;obtain⟨R,ha,hb⟩:=h;refine wpAny_execs_cons (thn (h1 aa s σ H {D with nx:=R} I ha) fun f s1 q=>?_);cases f with
 |next=>
  obtain⟨af,H',I',q⟩:=q;exact h2 aa s1 af H' D I' (hb af H' q)
 |ret v=>exact q
 |brk=>exact q
 |cont=>exact q
def Al:1000000<sizeLine:=by rw[zI_];decide
def HW {ns:α2}{x:V}(h:x∈ns.map V.int):∃n,n∈ns/\x=.int n:=by
 obtain⟨n,hn,e⟩:=jv_.mp h;exact⟨n,hn,e.symm⟩
def Kr {ns:α2}{i:Nat}{x:V}(h:(ns.map V.int)[i]?=some x):∃n,ns[i]?=some n/\x=.int n:=by
 rw[ji_]at h;cases e:ns[i]? with
 |none=>rw[e]at h;cases h
 |some n=>rw[e]at h;exact⟨n,rfl,(ju_ h).symm⟩
noncomputable def cutI (ns:α2)(lo hi:Option Int):α2:=(ns.drop (HT.sIx ns.length 0 lo)).take (HT.sIx ns.length ns.length hi-HT.sIx ns.length 0 lo)
def Tx (ns:α2)(lo hi:Option Int):cutV (ns.map V.int) lo hi=(cutI ns lo hi).map V.int:=by
 unfold cutV cutI;rw[jb_,<-qC,<-z3_]
def XX (h0:0<=i)(h:xs[i.toNat]?=some v):atI xs i=some v:=by
 have:=EK h
 rwa [show ((i.toNat:Nat):Int)=i by lia]at this
def XY : ∀u,RelV (V.ty n) u->u=.type n:=fun _ h=>h
def KR : ∀u,RelV (V.ref a) u->u=.ref a:=fun _ h=>h
end L2
namespace L2
open PySem PySem.W PySem.Spec PySem.Calls PyProof.Rows
section
variable {prog:Program} {w:World} {A:Around} {E:Value->Shared->Prop} {s:Shared} {K:Frag} {x D:Addr} {ox:Obj}
structure ExcCls (K:Frag)(D:Addr):Prop where
 ga:findIn K (.ref D) "__getattribute__"=some (some (.builtin "BaseException.__getattribute__"))
 hk:findIn K (.ref D) "__getattr__"=some none
 cl:(clsIn K D).isSome=true
 ca:findIn K (.ref D) "__class__"=some (some (.builtin "object.__class__"))
 gs:specialIn K (.builtin "object.__class__") "__get__"=some (some (.builtin "getset_descriptor.__get__"))
 tk:takesIn K (.builtin "object.__class__")=some true
 mo:mroIn K D (.type "object")=some true
 mb:mroIn K D (.type "BaseException")=some true
noncomputable def ExcAt (x D:Addr)(h:Heap):Prop:=∃ox,h.get? x=some ox/\ox.cls=.ref D
def ExcAt.type (I:ExcAt x D h):Looks M h (typeOf (.ref x)) (.ref D):=by
 obtain⟨ox,h1,h2⟩:=I;exact h2 ▸ (Looks.ld h1).andThen .now
def Tz (X:K.In h)(C:ExcCls K D):Looks M h (Builtin.ObjectAttr.find (.ref x) (.ref D) "__class__") (.bind (.builtin "getset_descriptor.__get__") (.builtin "object.__class__")):=
 (looks_findIn X C.ca).andThen ((show Looks M h (Builtin.ObjectAttr.getOf (some (.builtin "object.__class__"))) _ from looks_specialIn X C.gs).andThen
  ((show Looks M h (Builtin.ObjectAttr.dataDescriptor? (some (.builtin "object.__class__")) (some (.builtin "getset_descriptor.__get__"))) (some (.builtin "getset_descriptor.__get__",.builtin "object.__class__")) from (looks_takesIn X C.tk).andThen .now).andThen (Looks.tag .now)))
open Builtin Builtin.ObjectAttr Builtin.Getset_descriptor in
def Wj {R:Result->Shared->Prop}{tp:Value}(X:K.In s.heap)(I:ExcAt x D s.heap)(hm:mroIn K D (.type "object")=some true)
  (h:R (.ok (.ret (.ref D))) s):codeAny (model prog w) A (.call (.builtin "getset_descriptor.__get__") ⟨[.builtin "object.__class__",.ref x,tp],[]⟩) R s:=by
 obtain⟨hh,g,dr,t,os⟩:=s;have L0:=I.type (M:=model prog w);have L1:=looks_mroIn (M:=model prog w) X hm;refine codeAny_call_builtin KF.slot_gs.plain KF.entry_gs (KF.slot_gs.check _ _ _ _ _ _ _ _ KF.type_class (KF.args_gs _ _ _) ?_);unfold Builtin.«getset_descriptor.__get__» descrGet;rw[dga_obj];refine ja_ (jf_ ?_);unfold descrGetter descrCheckInstance descrNameAndClass isInstance;simp only[KF.owner_class]
 repeat lk
 refine⟨Code.quiet_builtin _ (by decide +kernel),zw_ KF.entry_class ?_⟩;unfold Builtin.«object.__class__» shownTypeOf
 repeat lk
 exact h
def Rr (X:K.In s.heap)(I:ExcAt x D s.heap)(C:ExcCls K D)(hq:Q () s):wpAny M A (checkBuiltinCall "BaseException.__getattribute__" ⟨[.ref x,nameV],[]⟩) Q E s:=by
 obtain⟨hh,g,d,t,os⟩:=s;have hk:builtinKind "BaseException.__getattribute__"=some .slot:=by decide +kernel
 have hsplit:splitId "BaseException.__getattribute__"=some ("BaseException","__getattribute__"):=by decide +kernel
 have ha:=F.args_bexc_ga (.ref x) nameV;have L0:=I.type (M:=M);have L1:=looks_mroIn (M:=M) X C.mb;simp only[checkBuiltinCall,hk,hsplit];refine ja_ ?_;unfold isInstance
 repeat (first|lk|wp_step)
 exact hq
def Rt (X:K.In s.heap)(I:ExcAt x D s.heap)(C:ExcCls K D)(hq:Q (.done (.ret (.ref D))) s):wpAny (model prog w) A (Builtin.«object.__getattribute__» ⟨[.ref x,.str "__class__" tk],[]⟩) Q E s:=by
 obtain⟨hh,g,d,t,os⟩:=s;have L0:=I.type (M:=model prog w);have L1:=Tz (M:=model prog w) (x:=x) X C;unfold Builtin.«object.__getattribute__»;refine ja_ (jf_ ?_);refine ja_ (jf_ ?_);refine ja_ (L0.at ?_);refine ja_ (L1.at ?_);show wpAny _ _ (Builtin.ObjectAttr.bindTo _ _ _ _) _ _ _;unfold Builtin.ObjectAttr.bindTo;dsimp only;refine ja_ (q7_ (wpAny_call (Wj (K:=K) (s:=⟨hh,g,d,t,os⟩) X I C.mo ?_)));exact jf_ hq
def Ru (X:K.In s.heap)(I:ExcAt x D s.heap)(C:ExcCls K D)(h:Q (some (.ref D)) {s with toks:=s.toks+1}):wpAny (model prog w) A (getAttr? (.ref x) "__class__") Q E s:=by
 obtain⟨hh,g,d,t,os⟩:=s;have L0:=I.type (M:=model prog w);have L1:=looks_findIn (M:=model prog w) X C.ga;have L2:=looks_findIn (M:=model prog w) X C.hk;unfold getAttr? getAttrBy? getAttrBy;refine ja_ (wpAny_mkText (ja_ (xe_ (q7_ (ja_ (L0.at (ja_ (L1.at ?_))))))));show wpAny _ _ (getAttrByItsOwn _ _ _ _ _ _) _ _ _;unfold getAttrByItsOwn hookBefore;refine ja_ ?_;rw[if_pos (by rfl)];refine L2.at (ja_ (xe_ (q7_ ?_)));unfold callGetattribute;rw[if_neg (by decide)];unfold boundAndCalled;have f3:=PySem.F.attr_ValueError.ga.bind (.ref x);refine ja_ (wa_ f3 ?_);refine wpAny_call (codeAny_call_builtin PySem.F.attr_ValueError.ga.plain F.entry_bexc_ga (Rr (K:=K) (s:=⟨hh,g,d,t+1,os⟩) X I C (Rt (K:=K) (s:=⟨hh,g,d,t+1,os⟩) X I C ?_)));exact jf_ (jf_ h)
def TB (C:ExcCls K D):KitX K (.ref x) (.ref D) (ExcAt x D) where
 ty:=fun _ _ _ I=>I.type
 it:=fun _ _ X _=>by
  obtain⟨cdD,gR⟩:=qe_.mp C.cl;unfold clsIn at gR;split at gR
  ·rename_i c' d' cd' jQ ho
   intro A' Q' E' s' k q;unfold isType loadHead;exact ja_ (wpAny_loadPart (k _ _ (X _ _ ho)) (jf_ q))
  ·cases gR
 ne:=fun h tp dd ah n sl X nk=>by
  obtain⟨cdD,gR⟩:=qe_.mp C.cl;refine Bool.eq_false_iff.mpr fun q=>?_;have e:D=tp:=Value.ref.inj (xp_.mp q);subst e;unfold clsIn at gR;split at gR
  ·rename_i c' d' cd' jQ ho
   have z:=(X _ _ ho).symm.trans nk;cases z
  ·cases gR
 ca:=fun X I k=>Ru X I C k
end
section
variable {P:Program} {w:World}
def AY.there (x:AY P w H h a o):∃ob,h.get? a=some ob:=by
 induction o with
 |lst xs=>obtain⟨_,_,_,_,e⟩:=x;exact⟨_,e⟩
 |tup xs=>obtain⟨_,_,_,ob,e,_⟩:=x;exact⟨_,e⟩
 |dK kvs=>obtain⟨_,_,_,_,o,_,_,e,_⟩:=x;exact⟨_,e⟩
 |dT kvs=>obtain⟨_,_,_,_,o,_,_,e,_⟩:=x;exact⟨_,e⟩
 |set S n=>obtain⟨o,_,_,_,e,_⟩:=x;exact⟨_,e⟩
 |ins C dx fs=>obtain⟨_,_,_,e,_⟩:=x;exact⟨_,e⟩
 |own y=>obtain⟨_,e⟩:=x;exact⟨_,e⟩
 |xd fs=>obtain⟨_,⟨_,_,_,e,_⟩,_⟩:=x;exact⟨_,e⟩
 |rng lo hi=>obtain⟨_,_,_,e⟩:=x;exact⟨_,e⟩
 |frz ob u ih=>obtain⟨e,_⟩:=x;exact⟨_,e⟩
 |tbl ps=>exact⟨_,(show h.get? a=some _ from x)⟩
 |met f y=>exact⟨_,(show h.get? a=some _ from x)⟩
 |ext φ=>obtain⟨_,⟨_,e⟩,_⟩:=x;exact⟨_,e⟩
structure Fly (P:Program)(w:World)(fs:List Addr)(H1 H':Hp)(h1 g B:Heap):Prop where
 un:Un fs [] H1 H' h1 g
 hok:HOk P w H' g
 cov:∀b o,g.get? b=some o->(H' b≠none \/ ∃o',h1.get? b=some o')->b∉fs->B.get? b=some o
def Fly.move {H1 H':Hp}{h1 g B h2:Heap}(x:Fly P w fs H1 H' h1 g B)(frees:∀b∈fs,H' b=none)(st:B.StaysIn h2)(up:∀b∈fs,∀o,g.get? b=some o->∃sl,h2.get? b=some {o with slots:=sl}):Fly P w fs H1 H' h1 h2 B:=by
 have keep:∀b o,g.get? b=some o->(H' b≠none \/ ∃o',h1.get? b=some o')->b∉fs->h2.get? b=some o:=fun b o e h n=>st b o (x.cov b o e h n);have iJ:∀b u,H' b=some u->b∉fs:=fun b u e z=>by rw[frees b z]at e;cases e
 refine⟨⟨fun b o e n hb hx=>?_,fun b o e n hb hx=>?_,fun b o e n hx=>x.un.free b o e n hx,fun b o e hx=>?_,x.un.tups,x.un.frzs,x.un.tbls⟩,fun b u e=>?_,fun b o e h n=>?_⟩
 ·exact keep b o (x.un.keep b o e n hb hx) (.inr ⟨o,e⟩) hb
 ·obtain⟨sl,e1⟩:=x.un.slot b o e n hb hx;obtain⟨jQ,e2⟩:=up b hb _ e1;exact⟨jQ,e2⟩
 ·obtain⟨o',e1⟩:=x.un.there b o e hx;by_cases hb:b∈fs
  ·obtain⟨jQ,e2⟩:=up b hb _ e1;exact⟨_,e2⟩
  ·exact⟨o',keep b o' e1 (.inr ⟨o,e⟩) hb⟩
 ·refine (x.hok b u e).stay (fun c v hc q=>?_) (fun _ q=>q) fun _ _ q=>q;rcases hc with rfl|hc
  ·exact keep c v q (.inl (by rw[e];simp)) (iJ c u e)
  ·exact keep c v q (.inl (by rw[hc];simp)) (iJ c _ hc)
 ·-- B has it still
  have ⟨o1,e1⟩:∃o1,g.get? b=some o1:=by
   rcases h with h|⟨o',h⟩
   ·cases q:H' b with
    |none=>exact absurd q h
    |some u=>exact (x.hok b u q).there
   ·exact x.un.there b o' h (by simp)
  have e2:=x.cov b o1 e1 h n;have e3:=st b o1 e2;rw[e]at e3;cases e3;exact e2
noncomputable def CXe (P:Program)(w:World):CXT:=fun outer H s E e s'=>∃(ea:Addr) (cls a0:Value) (H':Hp) (B:Heap),e=.ref ea/\s'.os=s.os/\AllBare s'.gens/\Fly P w (frs outer) H H' s.heap s'.heap B/\Heap.FlyingW B outer ea cls a0 s'.heap/\E cls none H'
def KS {H1 H':Hp} {g B:Heap}(I:Inv X aa σ H1 s1)(x:Fly P w (frs X.stack) H1 H' s1.heap g B):∀b∈frs X.stack,H' b=none:=fun b hb=>by
 obtain⟨_,o,ho,_⟩:=I.stack.mem hb;exact x.un.free b o ho (I.stkFree b hb) (by simp)
def Jb {K:α3} (hE:∀c d H',E' c d H'->E c d H'):
  FE (CXe P w) (cxOf (CXe P w) P w K mg base N qual scope f cd A outer s H E) E':=by
 intro aa σ H1 s1 e s' I hc;obtain⟨ea,cls,a0,H',B,rfl,os,bare,fl,fw,q⟩:=hc;have fr:(cxOf (CXe P w) P w K mg base N qual scope f cd A outer s H E).A.frames=some (envOfC qual scope s.heap.objs.size f cd::outer):=I.ok.frames;refine wpAny_leaves_onW fr rfl fw fun h' jd ups=>?_;have gz:=fl.move (KS I fl) jd.1 (fun b hb o e=>by
  obtain⟨_,o',cF,nf⟩:=fw.2.2.1.mem hb;rw[e]at cF;cases cF;exact ups b o e nf)
 have I2:Inv (cxOf (CXe P w) P w K mg base N qual scope f cd A outer s H E) aa σ H' {s' with heap:=h' }:=I.call' (s':={s' with heap:=h' }) os gz.un gz.hok bare (fun b hb=>by cases hb);refine⟨ea,cls,a0,H',B,rfl,I2.os,I2.bare,⟨I2.base,I2.hok,fun b o e h n=>gz.cov b o e ?_ (fun z=>?_)⟩,jd,hE _ _ _ q⟩
 ·rcases h with h|⟨o',h⟩
  ·exact .inl h
  ·obtain⟨o2,e2⟩:=I.base.there b o' h (by show b∉([]:List Addr);simp);exact .inr ⟨o2,e2⟩
 ·rcases jE_.mp (I.stkSub b z) with e' | e'
  ·rcases h with h|⟨o',h⟩
   ·exact h (by rw[e'];exact I2.free)
   ·have:=jl_ h;rw[e']at this;exact absurd (jt_ this I.ok.above) (j0_ _)
  ·exact n e'
def XZ {K:α3}
   {H1:Hp}
  (I:Inv (cxOf (CXe P w) P w K mg base N qual scope f cd A outer s H E) aa σ H1 s1) (hx:Heap.MadeExcOf s1.heap h' ea cls vs) (q:E cls none H1):
  (cxOf (CXe P w) P w K mg base N qual scope f cd A outer s H E).xe (.ref ea) {s1 with heap:=h' }:=by
 have fr:(cxOf (CXe P w) P w K mg base N qual scope f cd A outer s H E).A.frames=some (envOfC qual scope s.heap.objs.size f cd::outer):=I.ok.frames;have bP:∀env∈(envOfC qual scope s.heap.objs.size f cd::outer),∀b,env.frame=some b->b∈frs (envOfC qual scope s.heap.objs.size f cd::outer):=fun env he b hb=>wd_.mpr ⟨env,he,hb⟩;have stk:=I.stack;have fl:Fly P w (frs (envOfC qual scope s.heap.objs.size f cd::outer)) H1 H1 s1.heap s1.heap (p6 s1.heap (frs (envOfC qual scope s.heap.objs.size f cd::outer))):=⟨Un.refl,I.hok,fun b o e _ n=>qw _ e n⟩;refine wpAny_leaves_madeW (base:=p6 s1.heap (frs (envOfC qual scope s.heap.objs.size f cd::outer))) (h:=s1.heap) fr rfl (fun b o q=>qG _ q) ?_ hx fun h'' t jd ht hnt ups=>?_
 ·exact sJ stk bP
 ·have gz:=fl.move (KS (X:=cxOf (CXe P w) P w K mg base N qual scope f cd A outer s H E) I fl) jd.1 (fun b hb o e=>by
   obtain⟨_,o',cF,nf⟩:=stk.mem hb;rw[e]at cF;cases cF;exact ups b o (hx.keeps b o e) nf)
  have I2:Inv (cxOf (CXe P w) P w K mg base N qual scope f cd A outer s H E) aa σ H1 {s1 with heap:=h'' }:=I.call' (s':={s1 with heap:=h'' }) rfl gz.un gz.hok I.bare (fun b hb=>by cases hb);refine⟨ea,cls,.ref t,H1,_,rfl,I2.os,I2.bare,⟨I2.base,I2.hok,fun b o e h n=>gz.cov b o e ?_ (fun z=>?_)⟩,jd,q⟩
  ·rcases h with h|⟨o',h⟩
   ·exact .inl h
   ·obtain⟨o2,e2⟩:=I.base.there b o' h (by show b∉([]:List Addr);simp);exact .inr ⟨o2,e2⟩
  ·rcases jE_.mp (I.stkSub b z) with e' | e'
   ·rcases h with h|⟨o',h⟩
    ·exact h (by rw[e'];exact I2.free)
    ·have:=jl_ h;rw[e']at this;exact absurd (jt_ this I.ok.above) (j0_ _)
   ·exact n e'
end
def Wk {K:Frag} (X:K.In h)(q:excIn K C bmB fG=true):
  ∃bm N nm q bs hdct sn sub ab col dd k0 k1 k2 k3 k5 mN,h.get? C=some (excClassObj nm q C N bs bm hdct sn sub ab col dd k0 k1 k2 k3 k5 fG)/\h.Ns N mN/\mN "__init__"=none/\OwnTail h bmB bm:=by
 unfold excIn at q;split at q
 ·rename_i dd cd sl ho
  split at q
  ·rename_i C' bm k0 k1 k2 k3 n k5 hm hs
   simp only[j1_,xp_,wn_]at q;obtain⟨⟨⟨⟨⟨rfl,rfl⟩,hdel⟩,ht⟩,hok⟩,jW⟩:=q;obtain⟨nm,bs,mro,ns,qn,hd,sn,sub,ab,col,del⟩:=cd;dsimp only at hm hdel hok jW;subst hm hdel;have nq:sl = #[k0,k1,k2,k3,some (.builtin n),k5]:=by
    obtain⟨l⟩:=sl;simp only at hs;rw[hs]
   subst nq;exact⟨bm,ns,nm,qn,bs,hd,sn,sub,ab,col,dd,k0,k1,k2,k3,k5,_,X _ _ ho,.of_isNs (isNs_of_in X hok),nsMap_none_of_in X hok jW,tail_of_in X ht⟩
  ·cases q
 ·cases q
def bmV:List Value:=[.type "ValueError",.type "Exception",.type "BaseException",.type "object"]
section
variable {P:Program} {w:World} {K:α3} {mg:Str->α5} {base:Heap} {N:List Str} {qual:Str} {scope:Scope} {f:Addr} {cd:Value} {A:Around} {outer:List Env} {s:Shared} {H:Hp} {E:XK}
noncomputable def Va (C:Addr)(E:XK)(ta:TA):TS:=fun _ σ H=>ta σ H fun vs H1=>vs.length<=sizeLine/\E (.ref C) none H1
def Gz {rest:List Expr} (hm:mg x=some (.ref C))(hx:excIn K C bmV fG=true)(hg:Gl (cxOf (CXe P w) P w K mg base N qual scope f cd A outer s H E) x)
  (hn:fG = "ValueError.__new__") (ha:PA (cxOf (CXe P w) P w K mg base N qual scope f cd A outer s H E) (je::rest) ta)
  (he:starEach (je::rest) (cxOf (CXe P w) P w K mg base N qual scope f cd A outer s H E).env=(false,eval je (cxOf (CXe P w) P w K mg base N qual scope f cd A outer s H E).env)::starEach rest (cxOf (CXe P w) P w K mg base N qual scope f cd A outer s H E).env:=by rfl)
  (dS:(backTo aM (starEach rest (cxOf (CXe P w) P w K mg base N qual scope f cd A outer s H E).env)).any (·.1)=false:=by rfl) (hd:(x==("__debug__" : Str))=false:=by decide):
  PS (cxOf (CXe P w) P w K mg base N qual scope f cd A outer s H E) (.Raise (some (.Call (.Name x np) (je::rest) [] aM)) none pos) (Va C E ta):=by
 intro aa s1 σ H1 D I h;subst hn;obtain⟨bm,Nc,nm,q,bs,hdct,sn,sub,ab,col,dd,k0,k1,k2,k3,k5,mN,hC,hN,jW,T⟩:=Wk I.mod.kin hx;refine wpAny_Raise_call_subU (C:=C) (nm:=nm) (q:=q) (N:=Nc) (bs:=bs) (bm:=bm) (hdct:=hdct) (sn:=sn) (sub:=sub) (ab:=ab) (col:=col) (dd:=dd) (k0:=k0) (k1:=k1) (k2:=k2) (k3:=k3) (k5:=k5)
  x1_ (bmB:=bmV) (by decide +kernel) x1_ (mN:=mN) (T.hasType x1_.hasBase) (I.ok.hd rfl) (by rw[he];show (false||(backTo aM (starEach rest _)).any (·.1))=false;rw[dS];rfl) jW (IV I hg hm ⟨rfl,?_⟩ hd)
 have hA:=ha aM aa s1 σ H1 _ I h;rw[he]at hA ⊢;refine x2_ (thn hA fun us s2 ⟨vs,H2,I2,r2,hz,q2⟩=>⟨rfl,by rw[<-r2.length];exact hz,I2.bk _ _ hC,hN.keeps I2.bk,T.keeps I2.bk,fun h' e hm=>XZ I2 hm q2⟩)
end
end L2
namespace L2
open PySem PySem.Spec PyProof.Rows
noncomputable abbrev Cx.body (X:Cx)(xe:Value->Shared->Prop)(pn:α7):Cx:={X with xe:=xe,pn:=pn}
noncomputable abbrev Cx.suite (X:Cx)(ea:Addr)(pn:α7):Cx:={X with A:=X.A.mark (some (.ref ea)),calm:=false,xe:=fun _ _=>False,pn:=pn}
section
variable {X:Cx} {aa aI:α7} {σ:St} {H:Hp} {s:Shared} {xe xe':Value->Shared->Prop} {ea:Addr}
def Inv.toBody (I:Inv X aa σ H s):Inv (X.body xe (X.pn++aa)) [] σ H s:=
 ⟨⟨I.ok.mod,I.ok.kind,I.ok.glob,I.ok.blt,I.ok.above,I.ok.inj,I.ok.has,I.ok.cab,I.ok.hd,I.ok.frames,I.ok.stk,I.ok.exf,I.ok.bs,I.ok.bsz,I.ok.noex,I.ok.exfs,I.ok.funs,I.ok.frf⟩,I.os,I.bare,I.base,I.loc,I.cell,I.free,I.freeC,fun p hp=>I.pin p (by simpa using hp),I.hok,I.len⟩
def Inv.ofBody (I:Inv (X.body xe (X.pn++aa)) aI σ H s):Inv X aa σ H s:=
 ⟨⟨I.ok.mod,I.ok.kind,I.ok.glob,I.ok.blt,I.ok.above,I.ok.inj,I.ok.has,I.ok.cab,I.ok.hd,I.ok.frames,I.ok.stk,I.ok.exf,I.ok.bs,I.ok.bsz,I.ok.noex,I.ok.exfs,I.ok.funs,I.ok.frf⟩,I.os,I.bare,I.base,I.loc,I.cell,I.free,I.freeC,fun p hp=>I.pin p (qf_ _ hp),I.hok,I.len⟩
def Inv.reBody (I:Inv (X.body xe pn) aI σ H s):Inv (X.body xe' pn) aI σ H s:=
 ⟨⟨I.ok.mod,I.ok.kind,I.ok.glob,I.ok.blt,I.ok.above,I.ok.inj,I.ok.has,I.ok.cab,I.ok.hd,I.ok.frames,I.ok.stk,I.ok.exf,I.ok.bs,I.ok.bsz,I.ok.noex,I.ok.exfs,I.ok.funs,I.ok.frf⟩,I.os,I.bare,I.base,I.loc,I.cell,I.free,I.freeC,I.pin,I.hok,I.len⟩
def Inv.toSuite (I:Inv X aa σ H s):Inv (X.suite ea (X.pn++aa)) [] σ H s:=
 ⟨⟨I.ok.mod,I.ok.kind,I.ok.glob,I.ok.blt,I.ok.above,I.ok.inj,I.ok.has,I.ok.cab,fun z=>absurd (show false=true from z) jj_,I.ok.frames,I.ok.stk,I.ok.exf,I.ok.bs,I.ok.bsz,I.ok.noex,I.ok.exfs,I.ok.funs,I.ok.frf⟩,I.os,I.bare,I.base,I.loc,I.cell,I.free,I.freeC,fun p hp=>I.pin p (by simpa using hp),I.hok,I.len⟩
def Inv.ofSuite (hd:X.calm=true->X.A.handled=none)(I:Inv (X.suite ea (X.pn++aa)) aI σ H s):Inv X aa σ H s:=
 ⟨⟨I.ok.mod,I.ok.kind,I.ok.glob,I.ok.blt,I.ok.above,I.ok.inj,I.ok.has,I.ok.cab,hd,I.ok.frames,I.ok.stk,I.ok.exf,I.ok.bs,I.ok.bsz,I.ok.noex,I.ok.exfs,I.ok.funs,I.ok.frf⟩,I.os,I.bare,I.base,I.loc,I.cell,I.free,I.freeC,fun p hp=>I.pin p (qf_ _ hp),I.hok,I.len⟩
def Inv.forget (I:Inv X aa σ H s)(hN:X.N.Nodup)(hi:X.N[i]?=some n)(hx:X.env.scope.names.lookup n=some .local)
  (hl:∀(i:Nat) (x:Str) (v:V),X.N[i]?=some x->σ[i]?=some (some v)->Vis X.env.scope x->∃u,RelV v u/\Look X.env s.heap m x u) (hn:s.heap.Ns X.env.locals m)
  (bS:h'.Ns X.env.locals (fun x=>if x=n then v else m x)) (hs:Heap.SameBut X.env.locals s.heap h'):Inv X aa (σ.set i none) H {s with heap:=h',toks:=t' }:=by
 have cne:=I.cne;obtain⟨oL,_,_,hoL,_⟩:=id hn;have bq:HOk X.prog X.w H h':=fun b ob e=>by
  refine (I.hok b ob e).stay (fun c w' hc q=>(hs.2 c ?_).trans q) (fun _ q=>q) fun _ _ q=>q;rintro rfl;rcases hc with rfl|hc
  ·rw[I.free]at e;cases e
  ·rw[I.free]at hc;cases hc
 refine⟨I.ok,I.os,I.bare,⟨fun b o e n hb hx=>?_,fun b o e n hb hx=>?_,I.base.free,fun b o e hx=>?_,I.base.tups,I.base.frzs,I.base.tbls⟩,⟨_,bS,fun j y v' e1 e2 e3=>?_⟩,fun y c e=>?_,I.free,I.freeC,fun p hp=>?_,bq,by simpa using I.len⟩
 ·exact (hs.2 b (jG_ (jt_ (jl_ e) I.ok.above))).trans (I.base.keep b o e n hb hx)
 ·obtain⟨sl,e1⟩:=I.base.slot b o e n hb hx;exact⟨sl,(hs.2 b (jG_ (jt_ (jl_ e) I.ok.above))).trans e1⟩
 ·obtain⟨o',e1⟩:=I.base.there b o e hx;exact⟨o',(hs.2 b (jG_ (jt_ (jl_ e) I.ok.above))).trans e1⟩
 ·by_cases hj:j=i
  ·subst hj;have aH:j<σ.length:=by
    have:=(jg_.mp e2).1;simpa using this
   rw[zB_ aH]at e2;cases e2
  ·rw[zZ_ (qp_ hj)]at e2;obtain⟨u',r',q⟩:=hl j y v' e1 e2 e3;refine⟨u',r',?_⟩;rcases q with ⟨k,e⟩|⟨k,c,e,z⟩
   ·refine .inl ⟨k,?_⟩;have:y≠n:=fun e=>hj (Mg hN e1 (e ▸ hi));simp[this,e]
   ·exact .inr ⟨k,c,e,z.sameBut hs (cne y c e)⟩
 ·obtain⟨w',z⟩:=I.cell y c e;exact⟨w',z.sameBut hs (cne y c e)⟩
 ·obtain⟨e,n,ne,nf,d⟩:=I.pin p hp;exact⟨(hs.2 p.1 ne).trans e,n,ne,nf,d⟩
end
noncomputable def Kt (CX:CXT)(X:Cx)(σ:St)(E:XK):Prop:=∀(aa:α7) (H:Hp) (s:Shared) (e:Value) (s':Shared),Inv X aa σ H s->CX X.stack H s E e s'->X.xe e s'
section
variable {X:Cx} {CX:CXT} {k:Nat} {f C:Addr} {fd:α6} {ps:List Str} {sp:Sp} {aV:List V} {ds:List Value} {E:St->XK} {x:Str} {p pos:Pos} {e:Expr} {es:List Expr} {t:TA}
def Rv {aa:α7}{σ:St}{H:Hp}{s:Shared}{Q:VK}{us:List Value}{vs:List V}{E:XK}(F:FnOk X.prog X.w X.K X.mg X.base CX k f fd ps sp)(hr:Room k X.A)(hb:Binds X.K fd ps ds)(hd:Vals aV ds)(hx:Kt CX X σ E)
  (I:Inv X aa σ H s) (r:Vals vs us) (h:sp (vs++aV) H Q E):wpAny (model X.prog X.w) X.A (call (.ref f) us) (EP X aa σ Q) X.xe s:=by
 have r2:Vals (vs++aV) (us++ds):=r.append hd;have hl:(us++ds).length=ps.length:=by rw[<-r2.length];exact F.len _ _ _ _ h
 refine wpAny_call (we_ (F.run X.A X.stack s H ⟨us,[]⟩ (us++ds) (vs++aV) Q E hr I.env0 (hb s us I.kIn hl) r2 h) fun r s' hq=>?_);cases r with
 |error e=>exact hx aa H s e s' I hq
 |ok fl=>
  cases fl with
  |ret u=>exact I.after hq
  |next=>exact pb hq
  |brk=>exact pb hq
  |cont=>exact pb hq
end
noncomputable def excO (ea C:Addr):HO:=.ext (ExcAt ea C)
noncomputable def Ends.un (D:Ends)(i:Nat):Ends:={nx:=fun σ H=>D.nx (σ.set i none) H,rt:=D.rt,bk:=fun σ H=>D.bk (σ.set i none) H,ct:=fun σ H=>D.ct (σ.set i none) H}
noncomputable def tTry (K:α3)(Ca:Addr)(i:Nat)(E:St->XK)(tb ts:TS):TS:=fun D σ H=>tb D σ H/\∀af cls H',E af cls none H' ->
 ∃C,cls=.ref C/\exmOne K (.ref C) (.ref Ca)=some true/\∀ea,H' ea=none->ts (D.un i) (af.set i (some (.ref ea))) (upd H' ea (excO ea C))
def Rw (hN:X.N.Nodup)(hi:X.N[i]?=some n)(hn:X.env.scope.names.lookup n=some .local)
  (hg:Gl X c) (hm:X.mg c=some (.ref Ca)) (cH:X.stack=X.env::X.outer) (hL:X.env.frame=some X.env.locals) (hex:X.ex=[])
  (hb:∀xe pn,(∀σ,Kt (CXe X.prog X.w) (X.body xe pn) σ (E σ))->PSs (X.body xe pn) body tb) (hs:∀ea pn,PSs (X.suite ea pn) (b₀::suite) ts) (hd:(c==("__debug__" : Str))=false:=by decide):
  PS X (.Try body [.ExceptHandler (some (.Name c np)) (some n) (b₀::suite) hpos] [] [] pos) (tTry X.K Ca i E tb ts):=by
 intro aa s σ H D I h;obtain⟨bf,hhand⟩:=h;have hB:=hb (fun e s'=>∃aI af H1 s1,Inv (X.body (fun _ _=>True) (X.pn++aa)) aI af H1 s1/\CXe X.prog X.w X.stack H1 s1 (E af) e s') (X.pn++aa) (fun σ aI H s e s' I' hcx=>⟨aI,σ,H,s,I'.reBody,hcx⟩) [] s σ H D I.toBody bf;refine wpAny_Try_except (qB_ hB (fun f s1 q=>?_) fun e s1 q=>?_)
 ·cases f with
  |next=>obtain⟨cG,H1,I1,q1⟩:=q;exact zp_ ⟨cG,H1,I1.ofBody,q1⟩
  |brk=>obtain⟨cG,H1,I1,q1⟩:=q;exact⟨cG,H1,I1.ofBody,q1⟩
  |cont=>obtain⟨cG,H1,I1,q1⟩:=q;exact⟨cG,H1,I1.ofBody,q1⟩
  |ret v=>obtain⟨x1,cG,H1,I1,r1,q1⟩:=q;exact⟨x1,cG,H1,I1.ofBody,r1,q1⟩
 ·obtain⟨aI,af,H1,s2,I2,ea,cls,a0,H',B,rfl,os,bare,fl,fw,hE⟩:=q;obtain⟨C,rfl,hexm,kR⟩:=hhand af cls H' hE;have jf:Inv X aa af H1 s2:=I2.ofBody;have fr:X.A.frames=some (X.env::X.outer):=by rw[I.ok.frames,cH]
  have frees:=KS jf fl;have fw0:=fw;rw[cH]at fw;have invAt:∀h',Heap.FlyingW B (X.env::X.outer) ea (.ref C) a0 h'->s1.heap.UpToSlots h'->Inv X aa af H' {s1 with heap:=h' }:=fun h' jd ups=>by
   have gz:=fl.move frees jd.1 (fun b hb o e=>by
    obtain⟨_,o',cF,nf⟩:=fw0.2.2.1.mem hb;rw[e]at cF;cases cF;exact ups b o e nf)
   exact jf.call' (s':={s1 with heap:=h' }) os gz.un gz.hok bare (fun b hb=>by cases hb)
  refine wpAny_looks_onW fr hL fw fun h4 held4 up4=>?_;refine wpAny_landsW held4 fun h5 nr up5=>?_;have I5:=invAt h5 nr (up4.trans up5);have I5m:Inv (X.suite ea (X.pn++aa)) [] af H' {s1 with heap:=h5}:=I5.toSuite;refine wpAny_handleBy_cons (codeAny_handlers_test (IV (X:=X.suite ea (X.pn++aa)) I5m hg hm ?_ hd)) (by intro q;cases q);have LT:uC (model X.prog X.w) h5 (typeOf (.ref ea)) (.ref C):=by
   obtain⟨ob,iK,eB⟩:=nr.there;exact eB ▸ (PySem.W.Looks.ld iK).andThen .now
  refine (uw (K:=X.K) (M:=model X.prog X.w) I5.kIn LT hexm) _ _ _ _ (fun b o e=>e) ?_;refine codeAny_handlers_suite_as ?_;refine lands_againW nr fun h6 fw6 up6=>?_;have I6:=invAt h6 fw6 ((up4.trans up5).trans up6)
  -- fh exception's object is not bq yet
  have aG:H' ea=none:=by
   cases q:H' ea with
   |none=>rfl
   |some u=>
    have iJ:ea∉frs X.stack:=fun z=>by rw[frees ea z]at q;cases q
    obtain⟨o,ho⟩:=(fl.hok ea u q).there;have:=fl.cov ea o ho (.inl (by rw[q];simp)) iJ;rw[fw.2.1]at this;cases this
  have new:AY X.prog X.w (upd H' ea (excO ea C)) h6 ea (excO ea C):=by
   obtain⟨ob,iK,eB⟩:=fw6.there;refine⟨⟨ob,iK,eB⟩,⟨ob,iK⟩,fun g1 g2 ⟨o1,e1,c1⟩ k=>⟨o1,k o1 e1,c1⟩⟩
  have hsz:s2.heap.get? ea=none:=by
   cases q:s2.heap.get? ea with
   |none=>rfl
   |some o=>
    by_cases z:ea∈frs X.stack
    ·obtain⟨_,o',cF,nf⟩:=fw0.2.2.1.mem z;obtain⟨oe,vs,gA,_,hdt,_⟩:=fw.first;rw[cF]at gA;cases gA;exact absurd hdt (nf vs)
    ·obtain⟨o',e'⟩:=fl.un.there ea o q (by simp);have:=fl.cov ea o' e' (.inr ⟨o,q⟩) z;rw[fw.2.1]at this;cases this
  have I6t:Inv X aa af (upd H' ea (excO ea C)) {s1 with heap:=h6}:=by
   refine⟨I6.ok,I6.os,I6.bare,?_,I6.loc,I6.cell,?_,fun x c e=>?_,fun p hp=>?_,I6.hok.track aG new,I6.len⟩
   ·-- newer than fh entry
    have h0:X.s₀.heap.get? ea=none:=by
     cases q:X.s₀.heap.get? ea with
     |none=>rfl
     |some o=>
      obtain⟨o',e'⟩:=jf.base.there ea o q (by rw[hex];simp);rw[hsz]at e';cases e'
    refine⟨I6.base.keep,I6.base.slot,fun b o e n hx=>?_,I6.base.there,fun b xs q=>?_,fun b ob xs q=>?_,fun b ps q=>?_⟩
    ·rw[Aj (fun z=>by rw[z,h0]at e;cases e)];exact I6.base.free b o e n hx
    ·have:=I6.base.tups b xs q;rw[Aj (AL this aG)];exact this
    ·have:=I6.base.frzs b ob xs q;rw[Aj (AL this aG)];exact this
    ·obtain⟨more,e⟩:=I6.base.tbls b ps q;exact⟨more,by rw[Aj (AL e aG)];exact e⟩
   ·rw[Aj (fun z=>?_)]
    ·exact I6.free
    ·have:=jf.lt;obtain⟨m,⟨o,_,_,ho,_⟩,_⟩:=jf.loc;rw[z,hsz]at ho;cases ho
   ·rw[Aj (fun z=>?_)]
    ·exact I6.freeC x c e
    ·obtain⟨v,o,ho,_⟩:=jf.cell x c e;rw[z,hsz]at ho;cases ho
   ·obtain⟨e,n,r⟩:=I6.pin p hp;refine⟨e,?_,r⟩;rw[Aj (fun z=>?_)]
    ·exact n
    ·have:=(jf.pin p hp).1;rw[z,hsz]at this;cases this
  have I6m:Inv (X.suite ea (X.pn++aa)) [] af (upd H' ea (excO ea C)) {s1 with heap:=h6}:=I6t.toSuite;refine Kn (X:=X.suite ea (X.pn++aa)) I6m hN hi (.inl hn) (v:=.ref ea) rfl (fun s7 I7=>?_) (.inr hn);refine qB_ (hs ea (X.pn++aa) [] s7 _ _ (D.un i) I7 (kR ea aG)) (fun f s8 q8=>?_) (fun _ _ z=>pb z);have bC:(X.env.scope.kind == .class||(X.env.scope.kind == .module&&X.env.locals != X.env.globals))=false:=by rw[I.ok.kind];rfl
  have gZ:∀{iL:St} {H8:Hp},Inv (X.suite ea (X.pn++aa)) [] iL H8 s8->∀(R:Unit->Shared->Prop),(∀s9,Inv X aa (iL.set i none) H8 s9->R () s9) ->
    wpAny (model X.prog X.w) X.A (do bindName X.env n .none;unbindBehindTheSuite X.env n hpos) R X.xe s8:=fun {iL H8} I8 R hR=>by
   have I8':Inv X aa iL H8 s8:=I8.ofSuite I.ok.hd;obtain⟨m,kL,hl⟩:=I8'.loc;exact wpAny_nameGoes_keeps hn kL bC fun h9 v hn9 sb=>hR _ (I8'.forget hN hi hn hl kL hn9 sb)
  cases f with
  |next=>obtain⟨iL,H8,I8,q⟩:=q8;exact gZ I8 _ fun s9 I9=>⟨_,H8,I9,q⟩
  |brk=>obtain⟨iL,H8,I8,q⟩:=q8;exact gZ I8 _ fun s9 I9=>⟨_,H8,I9,q⟩
  |cont=>obtain⟨iL,H8,I8,q⟩:=q8;exact gZ I8 _ fun s9 I9=>⟨_,H8,I9,q⟩
  |ret v=>obtain⟨x8,iL,H8,I8,r8,q⟩:=q8;exact gZ I8 _ fun s9 I9=>⟨x8,_,H8,I9,r8,q⟩
def Nu : Er X (.builtin "isinstance") (fun xs H Q=>∃ea C c cv b,xs=[.ref ea,c]/\H ea=some (excO ea C)/\ExcCls X.K C/\(∀u,RelV c u->u=cv)/\kitOne X.K (.ref C) cv=some b/\Q (.bl b) H):=by
 intro aa s σ H xs us Q I r h;obtain⟨ea,C,c,cv,b,rfl,eU,hC,hc,hk,q⟩:=h;obtain⟨u,w',rfl,rx,rc⟩:=vals2 r;rw[hc _ rc];cases rx;obtain⟨p,_,_⟩:=(show AY X.prog X.w H s.heap ea (.ext (ExcAt ea C)) from I.hok ea _ eU);exact qn_ (TB hC) I.kIn p hk (fun z=>nomatch z) fun tk=>⟨.bl b,H,I.tok tk,rfl,q⟩
end L2
namespace HT
open PySem PySem.Spec PyProof.Rows
open PySem.AutoSeq1 (wpAny_loadPart')
section
open PySem.SeqAt PySem.MeetsSeq PySem.MeetsSeq2 PySem.MeetsSeq3
def tuple_addW0 (l b:Addr)(items items2:Array Value)(n n2:Nat)(dd jT:Option Addr)(sl jU:Array (α5))(nu:items.isEmpty=true):
  Meets (Builtin.«tuple.__add__» ⟨[.ref l,.ref b],[]⟩) (fun _ R s=>s.heap.get? l=some {cls:=.type "tuple",dict:=dd,data:=.seq items n,slots:=sl}/\s.heap.get? b=some {cls:=.type "tuple",dict:=jT,data:=.seq items2 n2,slots:=jU}/\R (.ok (.ret (Value.ref b))) {s with heap:=s.heap,toks:=s.toks}):=
 .of_wp fun prog w A R s h=>by obtain⟨hp,g,d,tk,os⟩:=s;obtain⟨hl,hb,h⟩:=h;have f1:=zV_;have f2:=AutoSeq1.sub_tuple_tuple;have f3:=AutoSeq1.sub_list_list;have f4:=AutoSeq1.sub_tuple_list;have f5:=AutoSeq1.sub_list_tuple;wp_walk using j8_ hl,j8_ hb;exact⟨_,rfl,h⟩
def int_rmul_tup (a:Int)(t:Tok)(l:Addr)(items:Array Value)(n:Nat)(dd:Option Addr)(sl:Array (α5)):
  Meets (Builtin.«int.__rmul__» ⟨[.int a t,.ref l],[]⟩) (fun _ R s=>s.heap.get? l=some {cls:=.type "tuple",dict:=dd,data:=.seq items n,slots:=sl}/\R (.ok (.ret Value.notImplemented)) s):=
 .of_wp fun prog w A R s h=>by obtain⟨hp,g,d,tk,os⟩:=s;obtain⟨hl,h⟩:=h;wp_walk using j8_ hl;exact⟨_,rfl,h⟩
def noFill_tuple_mul:fillsNumberSlot (.type "tuple") "mul"=pure false:=by
 first|exact fillsNumberSlot_false (by decide +kernel)|(unfold fillsNumberSlot;kernel_rfl)|kernel_rfl
def repeat_tuple:seqRepeat? (.type "tuple")=pure (some (.builtin "tuple.__mul__")):=by
 unfold seqRepeat?;rw[rg (T := "tuple") (name := "__mul__") (id := "tuple.__mul__") zW_.lookup (by decide +kernel),rg (T := "tuple") (name := "__rmul__") (id := "tuple.__rmul__") F.slot_tuple_rmul.lookup (by decide +kernel)];rfl
def tup_mul_one (l:Addr)(items:Array Value)(n:Nat)(dd:Option Addr)(sl:Array (α5))(u:Tok):
  Meets (Builtin.«tuple.__mul__» ⟨[.ref l,.int 1 u],[]⟩) (fun _ R s=>s.heap.get? l=some {cls:=.type "tuple",dict:=dd,data:=.seq items n,slots:=sl}/\R (.ok (.ret (Value.ref l))) s):=
 .of_wp fun prog w A R s h=>by
  obtain⟨hp,g,d,tk,os⟩:=s;obtain⟨hl,h⟩:=h;have f1:=zV_;unfold Builtin.«tuple.__mul__»
  wp_walk using j8_ hl
  exact⟨_,rfl,h⟩
def tup_mul_none (l:Addr)(items:Array Value)(n:Nat)(dd:Option Addr)(sl:Array (α5))(x:Int)(u:Tok)(h0:¬ items.isEmpty=true)(h1:x<=0)(h2 : -(2 ^ 63)<=x):
  Meets (Builtin.«tuple.__mul__» ⟨[.ref l,.int x u],[]⟩) (fun _ R s=>s.heap.get? l=some {cls:=.type "tuple",dict:=dd,data:=.seq items n,slots:=sl}/\R (.ok (.ret (Value.ref s.heap.objs.size))) {s with heap:=s.heap.push {cls:=.type "tuple",data:=.seq #[]} }):=
 .of_wp fun prog w A R s h=>by
  obtain⟨hp,g,d,tk,os⟩:=s;obtain⟨hl,h⟩:=h;have f1:=zV_;have c1:(decide (x < -(2 ^ 63:Int))||decide (x >= 2 ^ 63))=false:=by simp;lia
  have c2:(items.isEmpty||x==1)=false:=by simp at h0 ⊢;exact⟨h0,by lia⟩
  have c3:(decide (x<=0)||items.isEmpty)=true:=by simp[h1]
  unfold Builtin.«tuple.__mul__»
  wp_walk using j8_ hl
  rw[if_neg (by rw[c1];exact jj_)]
  wp_walk using j8_ hl
  rw[if_neg (by rw[c2];exact jj_)];rw[if_pos c3]
  wp_walk using j8_ hl
  exact⟨_,rfl,h⟩
def tup_mul_many (l:Addr)(items:Array Value)(n:Nat)(dd:Option Addr)(sl:Array (α5))(x:Int)(u:Tok)(h0:¬ items.isEmpty=true)(h1:1<x)(h2:x<2 ^ 63)(h3:items.size*x.toNat<=sizeLine):
  Meets (Builtin.«tuple.__mul__» ⟨[.ref l,.int x u],[]⟩) (fun _ R s=>s.heap.get? l=some {cls:=.type "tuple",dict:=dd,data:=.seq items n,slots:=sl}/\R (.ok (.ret (Value.ref s.heap.objs.size))) {s with heap:=s.heap.push {cls:=.type "tuple",data:=.seq ((oW x.toNat items).foldl (· ++ ·) #[])} }):=
 .of_wp fun prog w A R s h=>by
  obtain⟨hp,g,d,tk,os⟩:=s;obtain⟨hl,h⟩:=h;have f1:=zV_;have hs:sizeLine=16777216:=zI_;have c1:(decide (x < -(2 ^ 63:Int))||decide (x >= 2 ^ 63))=false:=by simp;lia
  have c2:(items.isEmpty||x==1)=false:=by simp at h0 ⊢;exact⟨h0,by lia⟩
  have c3:(decide (x<=0)||items.isEmpty)=false:=by simp at h0 ⊢;exact⟨by lia,h0⟩
  obtain⟨k,rfl⟩:∃k:Nat,x=(k:Int):=⟨x.toNat,by lia⟩;have c4:¬ ((items.size:Int)*(k:Int) > (2 ^ 63-1) / 8):=by
   rw[jw_]at h3;have:((items.size*k:Nat):Int)=(items.size:Int)*(k:Int):=by push_cast;rfl
   lia
  have c5:Builtin.Tuple.tupleTooMany ((items.size:Int)*(k:Int))=false:=by
   unfold Builtin.Tuple.tupleTooMany;rw[jw_]at h3;have:((items.size*k:Nat):Int)=(items.size:Int)*(k:Int):=by push_cast;rfl
   simp;lia
  unfold Builtin.«tuple.__mul__»
  wp_walk using j8_ hl
  rw[if_neg (by rw[c1];exact jj_)]
  wp_walk using j8_ hl
  rw[if_neg (by rw[c2];exact jj_)];rw[if_neg (by rw[c3];exact jj_),if_neg c4,if_neg (by rw[c5];exact jj_)]
  wp_walk using j8_ hl
  have hz:¬ (rF (fun x1 x2=>x1++x2) #[] (oW ((k:Int)).toNat items)).size > sizeLine:=by
   have:=L2.foldl_rep items.toList k [];rw[qY_]at this;have e:items.toList.toArray=items:=by simp
   rw[e]at this;rw[jw_,this,jn_,L2.len_rep];rw[jw_]at h3;rw[qt_,pZ];lia
  rw[if_neg hz]
  wp_walk using j8_ hl
  exact⟨_,rfl,h⟩
end
end HT
namespace L2
open PySem PySem.Spec PyProof.Rows
section
variable {X:Cx}
noncomputable def TC (K:α3):R2:=fun x y H Q=>∃l k xs,x=.ref l/\y=.int k/\SqT K H l xs/\xs ≠ [] /\ -(2 ^ 63)<=k/\k<2 ^ 63/\xs.length*k.toNat<=sizeLine /\
 (k=1->Q (.ref l) H)/\(k≠1->∀p,H p=none->Q (.ref p) (upd H p (.tup (oW k.toNat xs).flatten)))
def Wl:OpR X (binaryOp .Mult) (TC X.K):=by
 intro aa s σ H x y v u Q I rx ry h;obtain⟨l,k,xs,rfl,rfl,hq,aG,h1,h2,hz,q1,q2⟩:=h;cases rx;obtain⟨t,rfl⟩:=ry;obtain⟨ah,r,p1,_⟩:=I.tuple hq;have ak:=r.length;have bS:¬ ah.toArray.isEmpty=true:=by
  intro z;have:ah=[]:=by simpa using z
  exact aG (r.nil_iff.mp this)
 obtain⟨⟨cls,dd,data,sl⟩,ho,hc,n,hd⟩:=id p1;simp only at hc hd;subst hc hd;refine wpAny_binaryOp_repeat_ref (T := "tuple") (U := "int") (by decide) ⟨_,ho,rfl⟩ (fun s'=>typeIs_int s' k t) HT.noFill_tuple_mul F.fills_int_mul F.slot_int_rmul HT.repeat_tuple F.slot_int_index.lookup
  (zh_ F.slot_int_rmul (typeIs_int s k t) F.entry_int_rmul (F.args_int_rmul_2 _ _) (HT.int_rmul_tup k t l ah.toArray n dd sl) ⟨ho,rfl,⟨_,ho,rfl⟩,?_⟩)
 by_cases k1:k=1
 ·subst k1;exact zh_ zW_ ⟨_,ho,rfl⟩ F.entry_tuple_mul (F.args_tuple_mul_2 _ _) (HT.tup_mul_one l ah.toArray n dd sl t) ⟨ho,⟨.ref l,H,I,rfl,q1 rfl⟩⟩
 ·have fin:∀(ys:List Value),Vals (oW k.toNat xs).flatten ys->EP X aa σ Q (.ref s.heap.objs.size) {s with heap:=s.heap.push {cls:=.type "tuple",data:=.seq ys.toArray} }:=fun ys rv=>
   ⟨.ref s.heap.objs.size,_,I.laid (t':=s.toks) (o:=.tup (oW k.toNat xs).flatten) (fun b ob q=>jd_ _ q) (jh_ _) ⟨by rw[len_rep,pZ];exact hz,_,rv,IsTup.new _ _⟩,rfl,q2 k1 _ (I.hok.fresh (jh_ _))⟩
  by_cases k0:k<=0
  ·refine zh_ zW_ ⟨_,ho,rfl⟩ F.entry_tuple_mul (F.args_tuple_mul_2 _ _) (HT.tup_mul_none l ah.toArray n dd sl k t bS k0 h1) ⟨ho,?_⟩;exact fin [] (by rw[show k.toNat=0 by lia];exact .nil)
  ·refine zh_ zW_ ⟨_,ho,rfl⟩ F.entry_tuple_mul (F.args_tuple_mul_2 _ _) (HT.tup_mul_many l ah.toArray n dd sl k t bS s!"" h2 (by rw[jn_,<-ak];exact hz)) ⟨ho,?_⟩;have e:=foldl_rep ah k.toNat [];rw[qY_]at e;have e':rF (fun x1 x2=>x1++x2) #[] (oW k.toNat ah.toArray)=(oW k.toNat ah).flatten.toArray:=e;rw[e'];exact fin _ (r.rep k.toNat)
noncomputable def Cd (K:α3):R2:=fun x y H Q=>∃a b xs ys,x=.ref a/\y=.ref b/\SqT K H a xs/\SqT K H b ys/\xs.length+ys.length<=sizeLine /\
 (xs=[]->Q (.ref b) H)/\(xs ≠ []->ys=[]->Q (.ref a) H)/\(xs ≠ []->ys ≠ []->∀p,H p=none->Q (.ref p) (upd H p (.tup (xs++ys))))
def Dn:OpR X (binaryOp .Add) (Cd X.K):=by
 intro aa s σ H x y v u Q I rx ry h;obtain⟨a,b,xs,ys,rfl,rfl,ha,hb,hz,q0,q1,q2⟩:=h;by_cases hx:xs=[]
 ·subst hx;cases rx;cases ry;obtain⟨ah,r1,p1,_⟩:=I.tuple ha;obtain⟨aL,r2,p2,_⟩:=I.tuple hb;have:ah=[]:=r1.nil_iff.mpr rfl;subst this;obtain⟨⟨cls,dd,data,sl⟩,ho,hc,n,hd⟩:=id p1;obtain⟨⟨cls2,jT,data2,jU⟩,gx,cR,n2,gT⟩:=id p2;simp only at hc hd cR gT;subst hc hd cR gT;exact concat_meets ⟨_,ho,rfl⟩ ⟨_,gx,rfl⟩ noFill_tuple_add seq_tuple_add zD_ zt_ (zg_ _ _)
   (HT.tuple_addW0 a b _ _ n n2 dd jT sl jU rfl) ⟨ho,gx,⟨.ref b,H,I,rfl,q0 rfl⟩⟩
 ·exact V6 aa s σ H _ _ v u Q I rx ry ⟨a,b,xs,ys,rfl,rfl,ha,hb,hx,hz,q1 hx,q2 hx⟩
end
def LV (Pv:Nat->St->Hp->Prop)(h0:∃m,Pv m σ H)
  (hs:∀m σ H,Pv m σ H->c σ H fun b H1=>if b=true then ∃N:St->Hp->Prop,(∀af H',N af H'->∃m',m'<m/\Pv m' af H')/\tb {D with nx:=N,ct:=N,bk:=D.nx} σ H1 else D.nx σ H1):UM c tb D σ H:=⟨Pv,h0,hs⟩
section
variable {K:α3} {H:Hp} {Q:VK}
def TC.of (hq:SqT K H l xs)(aG:xs ≠ [])(h1 : -(2 ^ 63)<=k)(h2:k<2 ^ 63)(hz:xs.length*k.toNat<=sizeLine)(h:∀p H',Same H H'->SqT K H' p (oW k.toNat xs).flatten->Q (.ref p) H'):TC K (.ref l) (.int k) H Q:=by
 refine⟨l,k,xs,rfl,rfl,hq,aG,h1,h2,hz,fun e=>?_,fun _ p hp=>h p _ (Same.new hp) (SqT.of Ab)⟩;subst e;exact h l H (Same.refl _) (by simpa using hq)
def Cd.of (ha:SqT K H a xs)(hb:SqT K H b ys)(hz:xs.length+ys.length<=sizeLine)(h:∀p H',Same H H'->SqT K H' p (xs++ys)->Q (.ref p) H'):Cd K (.ref a) (.ref b) H Q:=by
 refine⟨a,b,xs,ys,rfl,rfl,ha,hb,hz,fun e=>?_,fun _ e=>?_,fun _ _ p hp=>h p _ (Same.new hp) (SqT.of Ab)⟩
 ·subst e;exact h b H (Same.refl _) (by simpa using hb)
 ·subst e;exact h a H (Same.refl _) (by simpa using ha)
end
theorem X0 {K:α3} {lo hi:Option Int}:rSlT K x lo hi H Q=∃a xs,x=.ref a/\SqT K H a xs /\
 ¬ (HT.sIx xs.length 0 lo=0/\HT.sIx xs.length xs.length hi=xs.length)/\∀p,H p=none->Q (.ref p) (upd H p (.tup (cutV xs lo hi))):=rfl
inductive TyW (K:α3)(H:Hp):V->Value->Prop where
 | non:TyW K H .non (.type "NoneType")
 | bl (x:Bool):TyW K H (.bl x) (.type "bool")
 | int (i:Int):TyW K H (.int i) (.type "int")
 | str (x:Str):TyW K H (.str x) (.type "str")
 | lst {a:Addr} {xs:List V} (e:SqL K H a xs):TyW K H (.ref a) (.type "list")
 | tup {a:Addr} {xs:List V} (e:SqT K H a xs):TyW K H (.ref a) (.type "tuple")
 | exc {a C:Addr} (e:H a=some (excO a C)) (c:ExcCls K C):TyW K H (.ref a) (.ref C)
def Ce : Er X (.builtin "isinstance") (fun xs H Q=>∃x c cv t b,xs=[x,c]/\TyW X.K H x t/\(∀u,RelV c u->u=cv)/\kitOne X.K t cv=some b/\Q (.bl b) H):=by
 intro aa s σ H xs us Q I r h;obtain⟨x,c,cv,t,b,rfl,ty,hc,hk,q⟩:=h;cases ty with
 |non=>exact EL aa s σ H _ us Q I r ⟨_,c,cv,_,b,rfl,.non,hc,hk,q⟩
 |bl y=>exact EL aa s σ H _ us Q I r ⟨_,c,cv,_,b,rfl,.bl y,hc,hk,q⟩
 |int y=>exact EL aa s σ H _ us Q I r ⟨_,c,cv,_,b,rfl,.int y,hc,hk,q⟩
 |str y=>exact EL aa s σ H _ us Q I r ⟨_,c,cv,_,b,rfl,.str y,hc,hk,q⟩
 |exc e hC=>exact Nu aa s σ H _ us Q I r ⟨_,_,c,cv,b,rfl,e,hC,hc,hk,q⟩
 |@lst a xs e=>
  obtain⟨u,w',rfl,rx,rc⟩:=vals2 r;rw[hc _ rc];cases rx;obtain⟨ah,_,pl,_⟩:=I.list e;obtain⟨o,ho,bC,_⟩:=pl.isList;exact qn_ wj_ I.kIn ⟨o,ho,bC⟩ hk (fun z=>nomatch z) fun tk=>⟨.bl b,H,I.tok tk,rfl,q⟩
 |@tup a xs e=>
  obtain⟨u,w',rfl,rx,rc⟩:=vals2 r;rw[hc _ rc];cases rx;obtain⟨ah,_,⟨o,ho,bC,_⟩,_⟩:=I.tuple e;exact qn_ qH I.kIn ⟨o,ho,bC⟩ hk (fun z=>nomatch z) fun tk=>⟨.bl b,H,I.tok tk,rfl,q⟩
end L2
namespace GW
noncomputable def X1 (L:Int):α2->α2
 |[]=>[0]
 |x::r=>if x=L-1 then 0::X1 L r else (x+1)::r
noncomputable def Cv (L:Int)(w:α2):α2:=(X1 L w.reverse).reverse
noncomputable def Vb (L:Int):α2->Int
 |[]=>0
 |x::r=>Vb L r*L+x+1
noncomputable def place (L:Int)(w:α2):Int:=Vb L w.reverse
noncomputable def inW (L x:Int):Bool:=decide (0<=x)&&decide (x<L)
noncomputable def isW (L:Int)(ws:α2):Bool:=ws.all (inW L)
def Wm : inW L x=true↔0<=x/\x<L:=by simp[inW]
def Bn : isW L ws=true ↔ ∀x∈ws,0<=x/\x<L:=by simp[isW,Wm]
noncomputable def many (L:Int):Nat->Int
 |0=>0
 |k+1=>many L k*L+1
noncomputable def val (L:Int):α2->Int
 |[]=>0
 |x::r=>val L r*L+x
end GW
namespace L2
open PySem PySem.Spec PyProof.Rows
def boot_ValueError:bootBuiltins "ValueError"=some (.type "ValueError"):=by decide +kernel
section
variable {P:Program} {w:World} {K:α3} {mg:Str->α5} {base:Heap}
def Fun.okE {st:Stmt} (F:Fun K x qual st f fd)(S:FnScope N ps (Ah st))(len:∀vs H Q E,sp vs H Q E->vs.length=ps.length)
  (bf:∀(ao:Value) (A:Around) (outer:List Env) (s:Shared) (H:Hp) (vs:List V) (Q:VK) (E:XK),Room k (A.deeper (envOfC qual (Ah st) s.heap.objs.size f ao))->sp vs H Q E ->
   ∃t,PSs (cxOf (CXe P w) P w K mg base N qual (Ah st) f ao A outer s H E) (Ed st) t/\t {nx:=fun _ H'=>Q .non H',rt:=Q} (start N vs) H):FnOk P w K mg base (CXe P w) (k+1) f fd ps sp:=by
 obtain⟨oc,od,kV,bY,pm,an,ao,ct,i7,rfl,lk,cy⟩:=F.ex;exact Xr lk cy S len fun A outer s H vs Q E hr cz=>bf ao A outer s H vs Q E hr cz
def Jc : FE (CXe P w) X E0:=fun _ _ _ _ _ _ _ h=>by
 obtain⟨_,_,_,_,_,_,_,_,_,_,q⟩:=h;exact q.elim
end
section
variable {te ta tb:TE} {A:TA} {D:Ends} {σ:St} {H:Hp} {Q:VK} {K:α3} {tbd ts:TS}
theorem X2 : rCat x y H Q=∃l b xs zs,x=.ref l/\y=.ref b/\H l=some (.lst xs)/\H b=some (.lst zs)/\xs.length+zs.length<=sizeLine/\∀p,H p=none->Q (.ref p) (upd H p (.lst (xs++zs))):=rfl
theorem Rx : Va C E A D σ H=A σ H fun vs H1=>vs.length<=sizeLine/\E (.ref C) none H1:=rfl
theorem X3 : tTry K Ca i E tbd ts D σ H=(tbd D σ H/\∀af cls H',E af cls none H' ->
 ∃C,cls=.ref C/\exmOne K (.ref C) (.ref Ca)=some true/\∀ea,H' ea=none->ts (D.un i) (af.set i (some (.ref ea))) (upd H' ea (excO ea C))):=rfl
theorem Vc : (Ends.un D i).nx σ H=D.nx (σ.set i none) H:=rfl
theorem Vd : (Ends.un D i).rt v H=D.rt v H:=rfl
end
end L2
namespace L2
open PySem PySem.Spec PyProof.Rows
def Wn (x y:Int):eqV (.int x) (.int y)=decide (V.int x=V.int y):=by
 by_cases h:x=y
 ·subst h;simp[eqV]
 ·rw[qF_ (fun z=>h (by injection z))];simp[eqV,h]
def EqD.ints {K:α3}{H:Hp}{a c:Addr}{xs ys:α2}(hq:(SqL K H a (xs.map V.int)/\SqL K H c (ys.map V.int))\/(SqT K H a (xs.map V.int)/\SqT K H c (ys.map V.int)))(n:Nat):EqD K H (n+1) (.ref a) (.ref c) (decide (xs=ys)):=by
 have:=EqD.flat hq (fun x hx=>by obtain⟨_,_,rfl⟩:=HW hx;rfl) (fun x hx=>by obtain⟨_,_,rfl⟩:=HW hx;rfl) (fun x hx y hy=>by obtain⟨_,_,rfl⟩:=HW hx;obtain⟨_,_,rfl⟩:=HW hy;exact Wn _ _) n;have e:decide (xs.map V.int=ys.map V.int)=decide (xs=ys):=by
  rw[qX_];simp only[qG_];constructor
  ·intro h;exact (wf_ (fun a b h=>by injection h)).mp h
  ·intro h;rw[h]
 rw[e]at this;exact this
end L2
namespace L2
open PySem PySem.Spec PyProof.Rows
noncomputable def iSeq (K:α3)(tl:TE):TI:=fun σ H R=>tl σ H fun x H1=>∃a,x=.ref a/\(((∃xs,SqL K H1 a xs)/\R (Itl K a) H1)\/((∃xs,SqT K H1 a xs)/\R (Itt K a) H1))
theorem Ve {K:α3} : iSeq K te σ H Z=te σ H fun x H1=>∃a,x=.ref a/\(((∃xs,SqL K H1 a xs)/\Z (Itl K a) H1)\/((∃xs,SqT K H1 a xs)/\Z (Itt K a) H1)):=rfl
def Ry (hl:PE X l tl):PI X tg l (iSeq X.K tl):=by
 intro aa s σ H R I h;refine thn (hl aa s σ H _ I h) fun v s1 ⟨x,H1,I1,r1,q1⟩=>?_;obtain⟨a,e,q⟩:=q1;subst e;cases r1;rcases q with ⟨⟨xs,hq⟩,q⟩|⟨⟨xs,hq⟩,q⟩
 ·obtain⟨ah,rv,p,hz⟩:=I1.list hq;refine xY_ p.isList ?_;refine⟨s1.heap.objs.size,[s1.heap.objs.size],_,_,H1,rfl,I1.kept (t':=s1.toks) fun b o e=>jd_ _ e,Na a _,⟨_,jp_ _ rfl,rfl,rfl⟩,fun b hb=>?_,q⟩;have e:b=s1.heap.objs.size:=by simpa using hb
  subst e;exact I1.fpOk (jh_ _) (I1.hok.fresh (jh_ _))
 ·obtain⟨ah,rv,p,hz⟩:=I1.tuple hq;refine xr_ (show s1.heap.IsTuple a ah.toArray from p) ?_;refine⟨s1.heap.objs.size,[s1.heap.objs.size],_,_,H1,rfl,I1.kept (t':=s1.toks) fun b o e=>jd_ _ e,LQ a _,⟨_,jp_ _ rfl,rfl,rfl⟩,fun b hb=>?_,q⟩;have e:b=s1.heap.objs.size:=by simpa using hb
  subst e;exact I1.fpOk (jh_ _) (I1.hok.fresh (jh_ _))
section
variable {X:Cx} {K:α3}
def FL (h:X.K=K):IxR X (rIxT K):=by subst h;exact Ay
end
end L2
namespace GW
noncomputable def X4 (aR:α1)(r x:Int):Int:=(aR.getD r.toNat []).getD x.toNat 0
end GW
namespace L2
open PySem PySem.Spec PyProof.Rows GW
def Oo (h:xs[xs.length-1]?=some v):atI xs (-1)=some v:=by
 have aH:=(jg_.mp h).1;unfold atI ixN;rw[if_neg s!"",if_pos s!""];show xs[(-1+(xs.length:Int)).toNat]?=some v;rw[show (-1+(xs.length:Int)).toNat=xs.length-1 by lia];exact h
def Hj {ns:α2}{i:Int}{v:Int}(h0:0<=i)(h:ns[i.toNat]?=some v):atI (ns.map V.int) i=some (V.int v):=XX h0 (by rw[ji_,h];rfl)
def Ku {K:α3} (hp:H p=some (.lst zs))(h:SqT K H t xs):SqT K (upd H p (.lst ys)) t xs:=by
 rcases h with (q|⟨o,q⟩)|q
 ·refine .inl (.inl ?_);rw[Aj (fun z=>by rw[z,hp]at q;cases q)];exact q
 ·refine .inl (.inr ⟨o,?_⟩);rw[Aj (fun z=>by rw[z,hp]at q;cases q)];exact q
 ·exact .inr q
end L2
namespace PySem
open Sem (wp)
open AutoSeq1 (wpAny_loadPart')
section
variable {prog:Program} {w:World} {A:Around} {E:Value->Shared->Prop} {s:Shared}
def Jd {it l:Addr} {items} (aB:s.heap.IsTupleIter it l i)
  (hl:s.heap.IsTuple l items) (hx:items[i]?=some x)
  (hQ:∀h',h'.IsTupleIter it l (i+1)->Heap.SameBut it s.heap h'->Q x {s with heap:=h' }):
  wpAny (model prog w) A (Builtin.SmallTypes.nextOf (.ref it)) Q E s:=by
 obtain⟨o,ho,hc,hd⟩:=id aB;obtain⟨ol,jg,_,nl,fH⟩:=hl;unfold Builtin.SmallTypes.nextOf;refine ja_ (jS_ (name:=Str.ofString "__next__") aB.typeIs xo_
  (jZ_ xo_ aB.typeIs F.entry_tuple_iterator_next ?_ (F.args_tuple_iterator_next_1 _)))
 show wpAny _ _ (field (.ref it) 0 >>= _) _ _ s;refine ja_ (j9_ ho hd (x:=.ref l) rfl ?_);show wpAny _ _ (if (Value.ref l==Value.none)=true then _ else _) _ _ s;rw[if_neg (show ¬ ((Value.ref l==Value.none)=true) from jj_)];show wpAny _ _ (field (.ref it) 1 >>= _) _ _ s;refine ja_ (j9_ ho hd (x:=.int i 0) rfl ?_);show wpAny _ _ (seqItems? (.ref l) >>= _) _ _ s;refine ja_ (qK_ jg fH ?_);simp only[jw_,hx];refine ja_ (xy_ ho hd (by simp) (jf_ ⟨x,rfl,jf_ (hQ _ ?_ (qO_ ..))⟩));exact⟨_,qS_ _ ho (zN_ (xw_ hd _)),(Obj.cls_mapFields ..).trans hc,by
  rw[xw_ hd];simp[rawInt]⟩
def Kb {it l:Addr} {items} (hh:A.handled=none)
  (aB:s.heap.IsTupleIter it l i) (hl:s.heap.IsTuple l items) (hx:items[i]?=none)
  (hE:∀h' e,Heap.ExtBut it s.heap h'->(∃o,h'.get? e=some o/\o.cls=.type "StopIteration")->E (.ref e) {s with heap:=h' }):
  wpAny (model prog w) A (Builtin.SmallTypes.nextOf (.ref it)) Q E s:=by
 obtain⟨o,ho,hc,hd⟩:=id aB;obtain⟨ol,jg,_,nl,fH⟩:=hl;unfold Builtin.SmallTypes.nextOf;refine ja_ (jS_ (name:=Str.ofString "__next__") aB.typeIs xo_
  (jZ_ xo_ aB.typeIs F.entry_tuple_iterator_next ?_ (F.args_tuple_iterator_next_1 _)))
 show wpAny _ _ (field (.ref it) 0 >>= _) _ _ s;refine ja_ (j9_ ho hd (x:=.ref l) rfl ?_);show wpAny _ _ (if (Value.ref l==Value.none)=true then _ else _) _ _ s;rw[if_neg (show ¬ ((Value.ref l==Value.none)=true) from jj_)];show wpAny _ _ (field (.ref it) 1 >>= _) _ _ s;refine ja_ (j9_ ho hd (x:=.int i 0) rfl ?_);show wpAny _ _ (seqItems? (.ref l) >>= _) _ _ s;refine ja_ (qK_ jg fH ?_);simp only[jw_,hx];refine ja_ (z6_ (ja_ (xy_ ho hd (by simp) ?_)));show wpAny _ _ (newExc (.type "StopIteration") [] >>= _) _ _ _;refine ja_ ?_;simp only[newExc,newTuple];refine ja_ (jT_ ?_ (by size_fits));refine ja_ (m:=firstArgMember _ _) (wa_ (a:=Value.none) (by first|rfl|(simp only[firstArgMember];rfl)) ?_);refine jT_ ?_ (by size_fits);simp only[raiseNew];refine ja_ (z4_ ?_)
 first|rw[show A.in1.handled=none from hh]|rw[hh]
 refine ja_ (jf_ (wpAny_throw ?_));exact hE _ _ (((qO_ ..).extBut.push _).push _) ⟨_,jp_ _ rfl,rfl⟩
def Draws.tuple (hh:A.handled=none)(it l:Addr)(aG:l≠it)(items:Array Value):
  Draws prog w A it [it,l] items.size (fun i v=>items[i]?=some v) (fun i h=>h.IsTupleIter it l i/\h.IsTuple l items) where
 live:=fun _ _ st=>let ⟨o,ho,_⟩:=st.1;⟨o,ho⟩
 frame:=fun _ _ _ st hk=>⟨st.1.at fun o e=>hk it (by simp) o e,by
  obtain⟨o,ho,r⟩:=st.2;exact⟨o,hk l (by simp) o ho,r⟩⟩
 item:=fun i s Q E hi st hQ=>by
  refine Jd st.1 st.2 (x:=items[i]) (by simp[hi]) fun h' bE fF=>?_;exact hQ _ h' s.toks (by simp[hi]) ⟨bE,st.2.extBut fF.extBut aG⟩ fF
 done:=fun s Q E st hE=>Kb hh st.1 st.2 (by simp) hE
def GH (l:Addr)(items:Array Value)(n:Nat)(mf:Option Addr)(sl:Array (α5)):
  Meets (Builtin.«enumerate.__new__» ⟨[.type "enumerate",.ref l],[]⟩) (fun _ R s=>s.heap.get? l=some {cls:=.type "tuple",dict:=mf,data:=.seq items n,slots:=sl} /\
   R (.ok (.ret (.ref (s.heap.push {cls:=.type "tuple_iterator",data:=.fields #[.ref l,.int 0 0]}).objs.size)))
    {s with heap:=(s.heap.push {cls:=.type "tuple_iterator",data:=.fields #[.ref l,.int 0 0]}).push {cls:=.type "enumerate",data:=.fields #[.none,.bool false,.ref s.heap.objs.size,rawInt 0,.none,.none]} }):=
 .of_wp fun prog w A R s h=>by
  obtain⟨hp,g,d,tk,os⟩:=s;obtain⟨hl,h⟩:=h;have hsub:=sub_enumerate;have hL:Heap.IsTuple (Shared.heap ⟨hp,g,d,tk,os⟩) l items:=⟨_,hl,rfl,n,rfl⟩
  wp_walk using j8_ hl
  refine wpAny_stack_any fun st=>jf_ ?_;split
  ·rename_i c _ _ _ _ _
   cases (c==Value.type "enumerate")
   ·wp_walk using j8_ hl,xr_ hL
    exact⟨_,rfl,h⟩
   ·wp_walk using j8_ hl,xr_ hL
    exact⟨_,rfl,h⟩
  ·wp_walk using j8_ hl,xr_ hL
   exact⟨_,rfl,h⟩
def GI (hL:s.heap.IsTuple l items)
  (h:∀h',IsEnum h' (s.heap.objs.size+1) s.heap.objs.size 0 .none->h'.IsTupleIter s.heap.objs.size l 0->h'.objs.size=s.heap.objs.size+2 ->
   (∀b o,s.heap.get? b=some o->h'.get? b=some o)->Q (.ref (s.heap.objs.size+1)) {s with heap:=h' }):
  wpAny (model prog w) A (call (.type "enumerate") [.ref l]) Q E s:=by
 obtain⟨⟨c,mf,dt,sl⟩,hl,hc,n,hd⟩:=hL;replace hc:c=.type "tuple" := hc;replace hd:dt=.seq items n:=hd;subst hc hd;refine callType_new F.called_enumerate (by decide) (F.typeCall_enumerate_1 _) (F.newCall_enumerate_1 _) (fun obj=>F.args_object_init_2 obj _) F.entry_enumerate_new
  (GH l items n mf sl) ⟨hl,?_⟩
 have hz:(s.heap.push {cls:=.type "tuple_iterator",data:=.fields #[.ref l,.int 0 0]}).objs.size=s.heap.objs.size+1:=j3_ ..;show _/\_;rw[hz];have he:IsEnum ((s.heap.push {cls:=.type "tuple_iterator",data:=.fields #[.ref l,.int 0 0]}).push
   {cls:=.type "enumerate",data:=.fields #[.none,.bool false,.ref s.heap.objs.size,rawInt 0,.none,.none]}) (s.heap.objs.size+1) s.heap.objs.size 0 .none:=by
  have:=jp_ (s.heap.push {cls:=.type "tuple_iterator",data:=.fields #[.ref l,.int 0 0]})
   (o:={cls:=.type "enumerate",data:=.fields #[.none,.bool false,.ref s.heap.objs.size,rawInt 0,.none,.none]}) rfl
  rw[hz]at this;exact this
 refine⟨⟨_,he,rfl⟩,h _ he ⟨_,jd_ _ (jp_ _ rfl),rfl,rfl⟩ (by rw[j3_,hz]) fun b o x=>jd_ _ (jd_ _ x)⟩
end
end PySem
namespace L2
open PySem PySem.Spec PyProof.Rows
section
variable {X:Cx} {aa:α7} {σ:St} {H:Hp} {s:Shared}
def Inv.un2 {e it:Addr}(I:Inv X aa σ H s)(k:∀b o,b≠e->b≠it->s.heap.get? b=some o->h'.get? b=some o)(f1:FpOk X aa H e)(f2:FpOk X aa H it):Un (frs X.stack) [e,it] H H s.heap h'/\HOk X.prog X.w H h':=by
 have ne:∀b u,H b=some u->b≠e/\b≠it:=fun b u q=>⟨(fun z=>by rw[z,f1.1]at q;cases q),(fun z=>by rw[z,f2.1]at q;cases q)⟩;have fg:∀{b:Addr},b ∉ [e,it]->b≠e/\b≠it:=fun hb=>by simpa using hb
 refine⟨⟨fun b o q _ _ hb=>k b o (fg hb).1 (fg hb).2 q,fun b o q _ _ hb=>⟨o.slots,k b o (fg hb).1 (fg hb).2 q⟩,fun _ _ _ n _=>n,fun b o q hb=>⟨o,k b o (fg hb).1 (fg hb).2 q⟩,fun _ _ q=>q,fun _ _ _ q=>q,fun b ps q=>⟨#[],by rw[q];simp⟩⟩,fun b u q=>?_⟩;refine (I.hok b u q).stay (fun c v hc qv=>?_) (fun _ q=>q) fun _ _ q=>q;have aG:c≠e/\c≠it:=by
  rcases hc with rfl|hc
  ·exact ne _ _ q
  ·exact ne _ _ hc
 exact k c v aG.1 aG.2 qv
def FpOk.ch (f:FpOk X aa H b):(b∈X.ex\/X.s₀.heap.objs.size<=b)/\b≠X.env.locals/\(∀x c,X.env.cells.lookup x=some c->c≠b)/\∀p∈X.pn++aa,p.1≠b:=⟨f.2.2.2.1,f.2.1,f.2.2.2.2.1,f.2.2.2.2.2⟩
end
noncomputable def Itn (K:α3)(a:Addr)(xs:List V):It:=⟨fun i H=>i<xs.length/\SqT K H a xs,fun i H x H'=>∃t v,H t=none/\xs[i]?=some v/\x=.ref t/\H'=upd H t (.tup [.int i,v]),fun i H=>i=xs.length/\SqT K H a xs⟩
def Qe {P:Program}{w:World}{K:α3}{b7:List Expr}{x1}{bL:Pos}(a e it:Addr)(b8:e≠it)(dI:a≠it)(nv:a≠e)(xs:List V):Turn P w K (.Tuple b7 x1 bL) (Itn K a xs) [e,it] e (fun i h=>∃b5,IsEnum h e it (i:Nat) b5/\h.IsTupleIter it a i) where
 mem:=by simp
 obj:=fun i h st b hb=>by
  obtain⟨b5,h1,o,h2,c,d⟩:=st;rcases jE_.mp hb with rfl|hb
  ·exact⟨_,h1,fun v z=>by cases z⟩
  ·rw[jk_.mp hb];exact⟨o,h2,fun v z=>by rw[d]at z;cases z⟩
 keep:=fun i h h' st k=>by
  obtain⟨b5,h1,h2⟩:=st;exact⟨b5,k e (by simp) _ h1,h2.at fun o q=>k it (by simp) o q⟩
 item:=by
  intro X hP hw hK hc i aa s σ H E I hf st hg;subst hP hw hK;obtain⟨hi,hq⟩:=hg;obtain⟨b5,he,aB⟩:=st;obtain⟨ah,rv,p,hz⟩:=I.tuple hq;have hl:=rv.length;have pt:s.heap.IsTuple a ah.toArray:=p;have f1:=hf e (by simp);have f2:=hf it (by simp);have Dw:=Draws.tuple (prog:=X.prog) (w:=X.w) (A:=X.A.in1) (I.ok.hd hc) it a dI ah.toArray;refine wpAny_pyNext_enum_itemD Dw he ⟨aB,pt⟩ (by simp;lia) b8 (by simp[b8,qp_ nv]) fun u h' tk hu gp fI fJ hsz hk=>?_;have hT:s.heap.objs.size≠e:=j7_ (jl_ he);refine⟨_,rfl,wpAny_letOwnedTupleGo_enum gp fun h2 ny bB=>?_⟩;have dm:∀b o,b≠e->b≠it->s.heap.get? b=some o->h2.get? b=some o:=fun b o h1 h3 q=>(bB.2 b h1).trans (hk b o h1 h3 q);obtain⟨un,hok⟩:=I.un2 dm f1 f2;have hn:H s.heap.objs.size=none:=I.hok.fresh (jh_ _);have hv:xs[i]?=some xs[i]:=by simp[hi]
  obtain⟨u',gC,ru⟩:=rv.get hv;have eu:u'=u:=by
   have g8:ah[i]?=some u:=by simpa using hu
   rw[gC]at g8;exact ju_ g8
  subst eu;have fK:h2.get? s.heap.objs.size=some {cls:=.type "tuple",data:=.seq #[.int i tk,u']}:=(bB.2 _ hT).trans fJ;have new:AY X.prog X.w (upd H s.heap.objs.size (.tup [.int i,xs[i]])) h2 s.heap.objs.size (.tup [.int i,xs[i]]):=⟨by have:=Al;simp;lia,[.int i tk,u'],.cons ⟨tk,rfl⟩ (.cons ru .nil),_,fK,rfl,_,rfl⟩;refine⟨.ref s.heap.objs.size,upd H s.heap.objs.size (.tup [.int i,xs[i]]),I.call' (s':={s with heap:=h2,toks:=tk+1}) (ch:=[e,it]) rfl (un.track (jh_ _) hn) (hok.track hn new) I.bare (fun b hb=>?_),rfl,⟨_,_,hn,hv,rfl,rfl⟩,?_,fun b hb=>?_⟩
  ·exact (hf b hb).ch
  ·refine⟨u',by simpa using ny,?_⟩;exact fI.1.at fun o q=>(bB.2 it (qp_ b8)).trans q
  ·have dq:=hf b hb;have:∃o,s.heap.get? b=some o:=by
    rcases jE_.mp hb with rfl|hb
    ·exact⟨_,he⟩
    ·rw[jk_.mp hb];obtain⟨o,ho,_⟩:=aB;exact⟨o,ho⟩
   obtain⟨o,ho⟩:=this;rw[Aj (jG_ (jl_ ho))];exact dq.1
 done:=by
  intro X hP hw hK hc i aa s σ H E I hf st hg;subst hP hw hK;obtain⟨hi,hq⟩:=hg;subst hi;obtain⟨b5,he,aB⟩:=st;obtain⟨ah,rv,p,hz⟩:=I.tuple hq;have hl:=rv.length;have pt:s.heap.IsTuple a ah.toArray:=p;have Dw:=Draws.tuple (prog:=X.prog) (w:=X.w) (A:=X.A.in1) (I.ok.hd hc) it a dI ah.toArray;obtain⟨f0,f1,f2,f3,f4,f5⟩:=hf it (by simp);refine wpAny_pyNext_enum_endD Dw he ⟨by rw[jn_,<-hl];exact aB,pt⟩ fun h' eb=>⟨rfl,I.turned (t':=s.toks) (fun b o hb e=>eb b o hb e) f0 f1 f3 f4 f5⟩
 self:=fun A i s Q E st h=>by
  obtain⟨b5,he,_⟩:=st;exact zJ_ he h
noncomputable def Vf (K:α3)(tl:TE):TI:=fun σ H R=>tl σ H fun x H1=>∃a xs,x=.ref a/\SqT K H1 a xs/\R (Itn K a xs) H1
theorem Pj {K:α3} : Vf K te σ H Z=te σ H fun x H1=>∃a xs,x=.ref a/\SqT K H1 a xs/\Z (Itn K a xs) H1:=rfl
theorem Vg {K:α3} : gTup K n t v σ H N=∃a xs,v=.ref a/\SqT K H a xs/\xs.length=n/\t xs σ H N:=rfl
theorem Rz : Xi t u vs σ H N=∃v r,vs=v::r/\t v σ H fun af H'=>u r af H' N:=rfl
theorem Vh : gNil vs σ H N=(vs=[]/\N σ H):=rfl
def Mr {x1} (hg:Gl X "enumerate")(hm:X.mg "enumerate"=none)(he:PE X e te)(hs:starEach [e] X.env=[(false,eval e X.env)]:=by rfl):PI X (.Tuple b7 x1 bL) (.Call (.Name "enumerate" p) [e] [] pos) (Vf X.K te):=by
 intro aa s σ H R I h;refine Call_ (HN I hg hm boot_enumerate (qm_ (thn (Aa he Ad hs pos aa s σ H (fun vs H1=>∃a xs,vs=[.ref a]/\SqT X.K H1 a xs/\R (Itn X.K a xs) H1) I ?_) fun us s1 ⟨vs,H1,I1,r1,q1⟩=>?_) hs rfl))
 ·show te σ H _;have:(fun x H1=>∃a xs,x=V.ref a/\SqT X.K H1 a xs/\R (Itn X.K a xs) H1)=(fun x H1=>tNil σ H1 fun xs H2=>∃a ys,x::xs=[V.ref a]/\SqT X.K H2 a ys/\R (Itn X.K a ys) H2):=by
   funext x H1
   simp[tNil]
  rw[<-this];exact h
 ·obtain⟨a,xs,rfl,hq,q⟩:=q1;cases r1 with
  |cons r rr=>
   cases rr;cases r;obtain⟨ah,rv,p,hz⟩:=I1.tuple hq;have pt:s1.heap.IsTuple a ah.toArray:=p;obtain⟨oa,nA,_⟩:=id pt;have ha:=jl_ nA;refine GI pt fun h' jh bE hsz hk=>?_;refine zJ_ (s:={s1 with heap:=h' }) jh ?_;have I2:Inv X aa σ H1 {s1 with heap:=h' }:=I1.kept (t':=s1.toks) hk;refine⟨s1.heap.objs.size+1,[s1.heap.objs.size+1,s1.heap.objs.size],_,_,H1,rfl,I2,Qe a (s1.heap.objs.size+1) s1.heap.objs.size (rh _) (jG_ ha) (jG_ (xC_ ha)) xs,⟨_,jh,bE⟩,fun b hb=>?_,q⟩;have dJ:s1.heap.objs.size<=b:=by
    rcases jE_.mp hb with rfl|hb
    ·lia
    ·rw[jk_.mp hb];exact jh_ _
   exact I1.fpOk dJ (I1.hok.fresh dJ)
def forN {K:α3} (Pv:Nat->St->Hp->Prop)(h0:Pv 0 σ H)(hl:∀i σ H,i<=xs.length->Pv i σ H->SqT K H a xs)
  (hs:∀i v σ H t,xs[i]?=some v->Pv i σ H->H t=none->g (.ref t) σ (upd H t (.tup [.int i,v])) fun ai H2=>tb {D with nx:=Pv (i+1),ct:=Pv (i+1),bk:=D.nx} ai H2) (hd:∀σ H,Pv xs.length σ H->D.nx σ H):ForW (Itn K a xs) g tb D σ H:=by
 refine⟨fun i m σ H=>m=xs.length-i/\i<=xs.length/\Pv i σ H,⟨xs.length,by simp,qc_ _,h0⟩,?_⟩;rintro i m σ H ⟨rfl,hi,p⟩;by_cases aH:i<xs.length
 ·refine .inr ⟨⟨aH,hl i σ H hi p⟩,Pv (i+1),fun af H' p'=>⟨xs.length-(i+1),by lia,rfl,aH,p'⟩,fun x H' y=>?_⟩;obtain⟨t,v,hn,hv,rfl,rfl⟩:=y;exact hs i v σ H t hv p hn
 ·have e:i=xs.length:=by lia
  subst e;exact .inl ⟨⟨rfl,hl _ σ H hi p⟩,hd σ H p⟩
section
variable {td ty tv tx:TE} {D:Ends} {σ:St} {H:Hp} {Q:VK}
theorem Vi:Xx td ty σ H Q=td σ H fun x H1=>ty σ H1 fun y H2=>∃a v,x=.ref a/\DGet H2 a y (some v)/\Q v H2:=rfl
theorem Pk:Rf ty td σ H Q=ty σ H fun y H1=>td σ H1 fun x H2=>∃a o,x=.ref a/\DGet H2 a y o/\Q (.bl (!o.isSome)) H2:=rfl
theorem Vj:Xy td ty tv D σ H=tv σ H fun v H1=>td σ H1 fun x H2=>ty σ H2 fun y H3=>∃a H4,x=.ref a/\DPut H3 a y v H4/\D.nx σ H4:=rfl
theorem RA:UY td ty σ H Q=td σ H fun x H1=>∃a,x=.ref a/\IsD H1 a/\ty σ H1 fun y H2=>∃o,DGet H2 a y o/\Q (o.getD .non) H2:=rfl
theorem Vk : Wc gV σ H Q=∀p,H p=none->KN gV σ (upd H p (.dK [])) fun ps H2=>H2 p=some (.dK [])/\∃kvs:List (Key×V),ps=kvs.map (fun kv=>(kV kv.1,kv.2))/\kvs.length<=15/\Q (.ref p) (upd H2 p (.dK (Jz [] kvs))):=rfl
theorem Pl : KN [] σ H R=R [] H:=rfl
theorem Pm : KN ((td,tv)::r) σ H R=td σ H fun x H1=>tv σ H1 fun y H2=>KN r σ H2 fun ps H3=>R ((x,y)::ps) H3:=rfl
end
end L2
namespace GW
noncomputable def Vl (w:α2):List (Int×α2)->Nat->α2->List (Int×α2)
 |ents,_,[]=>ents
 |ents,x,g::r=>Vl w (if g∈ents.map (·.1) then ents else ents++[(g,w++[(x:Int)])]) (x+1) r
noncomputable def bfs (aR:α1):Nat->List (Int×α2)->Nat->List (Int×α2)
 |0,ents,_=>ents
 |f+1,ents,i=>match ents[i]? with
  |none=>ents
  |some e=>bfs aR f (Vl e.2 ents 0 (aR.getD e.1.toNat [])) (i+1)
noncomputable def RC (aR:α1):List (Int×α2):=bfs aR (aR.length+1) [(0,[])] 0
noncomputable def Seen (L:Int)(aR:α1)(ents:List (Int×α2))(r:Int)(w:α2)(x:Nat):Prop:=∀y:Int,0<=y->y<x->∃e'∈ents,e'.1=X4 aR r y/\place L e'.2<=place L (w++[y])
end GW
namespace L2
open PySem PySem.Spec PyProof.Rows GW
noncomputable def Ents (K:α3)(H:Hp)(d:Addr)(ents:List (Int×α2)):Prop:=∃kvs:List (Key×V),H d=some (.dK kvs)/\kvs.length=ents.length/\∀(i:Nat) (e:Int×α2),ents[i]?=some e->∃t,kvs[i]?=some (pk e.1,V.ref t)/\SqT K H t (e.2.map V.int)
def Nv {K:α3} (hp:H p=some (.dK kvs))(h:SqT K H t xs):SqT K (upd H p (.dK du)) t xs:=by
 rcases h with (q|⟨o,q⟩)|q
 ·refine .inl (.inl ?_);rw[Aj (fun z=>by rw[z,hp]at q;cases q)];exact q
 ·refine .inl (.inr ⟨o,?_⟩);rw[Aj (fun z=>by rw[z,hp]at q;cases q)];exact q
 ·exact .inr q
def Ents.no {K:α3} {ents:List (Int×α2)}(h:Ents K H d ents) (hg:g∉ents.map (·.1)):DGet H d (.int g) none:=by
 obtain⟨kvs,h1,h2,h3⟩:=h;have e:valV kvs (pk g:Key)=none:=by
  unfold valV;rw[xM_,xb_];intro kv cA;obtain⟨i,hi,e⟩:=xj_ cA;obtain⟨t,a,_⟩:=h3 i ents[i] (by simp[show i<ents.length by lia]);have e2:kvs[i]?=some kv:=by rw[je_ hi,e]
  rw[e2]at a;cases a;simp only[qG_];intro z;injection z with z;exact hg (jv_.mpr ⟨ents[i],jQ_ _,z⟩)
 have:=DGet.k (k:=(pk g:Key)) h1;rw[e]at this;exact this
def Ents.put {K:α3} {ents:List (Int×α2)} (h:Ents K H d ents)(hg:g∉ents.map (·.1))(hz:ents.length<1000)(ht:SqT K H t (w.map V.int)):∃H',DPut H d (.int g) (.ref t) H'/\(∃kvs du,H d=some (.dK kvs)/\H'=upd H d (.dK du))/\Ents K H' d (ents++[(g,w)]):=by
 have bT:=h.no hg;obtain⟨kvs,h1,h2,h3⟩:=h;have hl:=Al;have hv:valV kvs (pk g:Key)=none:=by
  rcases bT with ⟨du,k,e,ey,er⟩|⟨du,k,b,e,ey,_⟩
  ·have e1:du=kvs:=by
    rcases e with e|⟨o,e⟩
    ·rw[h1]at e;cases e;rfl
    ·rw[h1]at e;cases e
   subst e1;cases k with
   |inl m=>
    have:m=g:=by injection ey with ey;exact ey.symm
    subst this;exact er.symm
   |inr m=>cases ey
  ·cases ey
 have hp:putK kvs (pk g:Key) (V.ref t)=kvs++[(pk g,V.ref t)]:=by
  unfold putK;rw[Dm,hv];rfl
 refine⟨_,DPut.k (k:=(pk g:Key)) h1 s!"",⟨kvs,_,h1,rfl⟩,kvs++[(pk g,V.ref t)],by rw[Ab,hp],by simp[h2],fun i e he=>?_⟩;by_cases hi:i<ents.length
 ·rw[jx_ hi]at he;obtain⟨t',a,b⟩:=h3 i e he;exact⟨t',by rw[jx_ s!""];exact a,Nv h1 b⟩
 ·have aH:=(jg_.mp he).1;rw[js_,jW_]at aH;have e1:i=ents.length:=by lia
  subst e1;rw[jB_ (jh_ _),q0_]at he;simp at he;subst he;exact⟨t,by rw[jB_ s!"",h2,q0_];rfl,Nv h1 ht⟩
end L2
namespace L2
open PySem PySem.Spec PyProof.Rows
noncomputable def ups (n:Nat):α2:=(oX n).map fun i:Nat=>(i:Int)
noncomputable def rNeD (K:α3)(n:Nat):R2:=fun x y H Q=>∃a c b,x=.ref a/\y=.ref c/\EqD K H n x y b/\Q (.bl (!b)) H
theorem X5 {K:α3} : rNeD K n x y H Q=∃a c b,x=.ref a/\y=.ref c/\EqD K H n x y b/\Q (.bl (!b)) H:=rfl
def X6 (n:Nat)(hu:X.A.units+n<cLine):OpR X (compareOp .NotEq) (rNeD X.K n):=by
 intro aa s σ H x y v u Q I rx ry h;obtain⟨a,c,b,rfl,rfl,h,q⟩:=h;cases rx;cases ry;cases n with
 |zero=>exact absurd (show false=true from h.1) jj_
 |succ n=>
  rcases h with ⟨fx,_⟩|⟨a',c',xs,ys,e1,e2,hq,e,he,rfl⟩
  ·exact absurd (show false=true from fx) jj_
  ·cases e1;cases e2;have key:∀(ah aL:List Value),Vals xs ah->Vals ys aL->∀j (h1:j<ah.toArray.size) (h2:j<aL.toArray.size),SeqAt.EqAt X.A.in1 s ah.toArray[j] aL.toArray[j] (e j):=fun ah aL r1 r2 j h1 h2=>by
    have l1:=r1.length;have l2:=r2.length;rw[jn_]at h1 h2;obtain⟨u1,g1,q1⟩:=r1.get (i:=j) (x:=xs[j]'s!"") (by simp[show j<xs.length by lia]);obtain⟨u2,g2,q2⟩:=r2.get (i:=j) (x:=ys[j]'s!"") (by simp[show j<ys.length by lia]);have k1:ah.toArray[j]'(by rw[jn_];exact h1)=u1:=by
     have:=(jg_.mp g1).2;simpa using this
    have k2:aL.toArray[j]'(by rw[jn_];exact h2)=u2:=by
     have:=(jg_.mp g2).2;simpa using this
    rw[k1,k2];exact (EqD.at I n X.A.in1 (by rw[in1_units];lia) q1 q2 (he j _ _ (by simp[show j<xs.length by lia]) (by simp[show j<ys.length by lia]))).1
   have fin:EP X aa σ Q (.bool (!(decide (xs.length=ys.length)&&(oX (min xs.length ys.length)).all e))) s:=⟨.bl _,H,I,rfl,q⟩;rcases hq with ⟨h1,h2⟩|⟨h1,h2⟩
   ·obtain⟨ah,r1,p1,_⟩:=I.list h1;obtain⟨aL,r2,p2,_⟩:=I.list h2;have l1:=r1.length;have l2:=r2.length;by_cases hl:xs.length=ys.length
    ·have:=SeqAt.RcNeAt.lists (e:=e) p1.isList p2.isList (by rw[jn_,jn_];lia) s!"" (key ah aL r1 r2);rw[jn_,<-l1]at this;rw[qx_ hl,qB,<-hl,pY]at fin;exact this _ _ _ _ fin
    ·have:=SeqAt.RcNeAt.lists_lengths (A:=X.A) p1.isList p2.isList (by rw[jn_,jn_];simp;lia) s!"";rw[qF_ hl,ql]at fin;exact this _ _ _ _ fin
   ·obtain⟨ah,r1,p1,_⟩:=I.tuple h1;obtain⟨aL,r2,p2,_⟩:=I.tuple h2;have l1:=r1.length;have l2:=r2.length;have:=SeqAt.RcNeAt.tuples (e:=e) (show s.heap.IsTuple a ah.toArray from p1) (show s.heap.IsTuple c aL.toArray from p2) s!"" (key ah aL r1 r2);rw[jn_,jn_,<-l1,<-l2,Rj]at this;exact this _ _ _ _ fin
noncomputable def Vm (tk tv:TE):TE:=Wc [(tk,tv)]
def TF (hk:PE X k tk)(hv:PE X v tv):PE X (.Dict [some k] [v] pos) (Vm tk tv):=We (Tr hk hv Wb) rfl rfl (by intro z;cases z) (by show 1<=15;decide)
theorem RD : Vm tk tv σ H Q=∀p,H p=none->tk σ (upd H p (.dK [])) fun x H1=>tv σ H1 fun y H2=>H2 p=some (.dK [])/\∃kvs:List (Key×V),[(x,y)]=kvs.map (fun kv=>(kV kv.1,kv.2))/\kvs.length<=15/\Q (.ref p) (upd H2 p (.dK (Jz [] kvs))):=rfl
def Vals.ofIx:∀{xs:List V} {us:List Value},us.length=xs.length->(∀(i:Nat) (v:Value),us[i]?=some v->∃x,xs[i]?=some x/\RelV x v)->Vals xs us
 |[],[],_,_=>.nil
 |[],_::_,h,_=>by simp at h
 |_::_,[],h,_=>by simp at h
 |x::xs,u::us,h,k=>by
  refine .cons ?_ (Vals.ofIx (by simpa using h) fun i v hv=>?_)
  ·obtain⟨y,e,r⟩:=k 0 u rfl;cases e;exact r
  ·obtain⟨y,e,r⟩:=k (i+1) v (by simpa using hv);exact⟨y,by simpa using e,r⟩
def Nw (h:Oa k v=true):RelV (kV k) v:=by
 rcases Bf h with ⟨i,t,rfl,e⟩|⟨x,t,rfl,e⟩
 ·exact⟨t,e⟩
 ·exact⟨t,e⟩
end L2
namespace L2
theorem r_in {K:α3} : rIn K i9 x y H Q=∃p xs,y=.ref p/\(SqL K H p xs\/SqT K H p xs)/\Ft x=true/\xs.all Ft=true/\Q (.bl (if i9 then !inV x xs else inV x xs)) H:=rfl
end L2
namespace L2
open PySem PySem.Spec PyProof.Rows
noncomputable def Itm (K:α3)(a:Addr)(xs:List V):It:=⟨fun i H=>i<xs.length/\SqL K H a xs,fun i H x H'=>∃t v,H t=none/\xs[i]?=some v/\x=.ref t/\H'=upd H t (.tup [.int i,v]),fun i H=>i=xs.length/\SqL K H a xs⟩
def Qf {P:Program}{w:World}{K:α3}{b7:List Expr}{x1}{bL:Pos}(a e it:Addr)(b8:e≠it)(dI:a≠it)(nv:a≠e)(xs:List V):Turn P w K (.Tuple b7 x1 bL) (Itm K a xs) [e,it] e (fun i h=>∃b5,IsEnum h e it (i:Nat) b5/\h.IsListIter it a i) where
 mem:=by simp
 obj:=fun i h st b hb=>by
  obtain⟨b5,h1,o,h2,c,d⟩:=st;rcases jE_.mp hb with rfl|hb
  ·exact⟨_,h1,fun v z=>by cases z⟩
  ·rw[jk_.mp hb];exact⟨o,h2,fun v z=>by rw[d]at z;cases z⟩
 keep:=fun i h h' st k=>by
  obtain⟨b5,h1,h2⟩:=st;exact⟨b5,k e (by simp) _ h1,h2.at fun o q=>k it (by simp) o q⟩
 item:=by
  intro X hP hw hK hc i aa s σ H E I hf st hg;subst hP hw hK;obtain⟨hi,hq⟩:=hg;obtain⟨b5,he,aB⟩:=st;obtain⟨ah,rv,p,hz⟩:=I.list hq;have hl:=rv.length;have pt:s.heap.IsList a ah.toArray:=p.isList;have f1:=hf e (by simp);have f2:=hf it (by simp);have Dw:=Draws.list (prog:=X.prog) (w:=X.w) (A:=X.A.in1) (I.ok.hd hc) it a dI ah.toArray;refine wpAny_pyNext_enum_itemD Dw he ⟨aB,pt⟩ (by simp;lia) b8 (by simp[b8,qp_ nv]) fun u h' tk hu gp fI fJ hsz hk=>?_;have hT:s.heap.objs.size≠e:=j7_ (jl_ he);refine⟨_,rfl,wpAny_letOwnedTupleGo_enum gp fun h2 ny bB=>?_⟩;have dm:∀b o,b≠e->b≠it->s.heap.get? b=some o->h2.get? b=some o:=fun b o h1 h3 q=>(bB.2 b h1).trans (hk b o h1 h3 q);obtain⟨un,hok⟩:=I.un2 dm f1 f2;have hn:H s.heap.objs.size=none:=I.hok.fresh (jh_ _);have hv:xs[i]?=some xs[i]:=by simp[hi]
  obtain⟨u',gC,ru⟩:=rv.get hv;have eu:u'=u:=by
   have g8:ah[i]?=some u:=by simpa using hu
   rw[gC]at g8;exact ju_ g8
  subst eu;have fK:h2.get? s.heap.objs.size=some {cls:=.type "tuple",data:=.seq #[.int i tk,u']}:=(bB.2 _ hT).trans fJ;have new:AY X.prog X.w (upd H s.heap.objs.size (.tup [.int i,xs[i]])) h2 s.heap.objs.size (.tup [.int i,xs[i]]):=⟨by have:=Al;simp;lia,[.int i tk,u'],.cons ⟨tk,rfl⟩ (.cons ru .nil),_,fK,rfl,_,rfl⟩;refine⟨.ref s.heap.objs.size,upd H s.heap.objs.size (.tup [.int i,xs[i]]),I.call' (s':={s with heap:=h2,toks:=tk+1}) (ch:=[e,it]) rfl (un.track (jh_ _) hn) (hok.track hn new) I.bare (fun b hb=>?_),rfl,⟨_,_,hn,hv,rfl,rfl⟩,?_,fun b hb=>?_⟩
  ·exact (hf b hb).ch
  ·refine⟨u',by simpa using ny,?_⟩;exact fI.1.at fun o q=>(bB.2 it (qp_ b8)).trans q
  ·have dq:=hf b hb;have:∃o,s.heap.get? b=some o:=by
    rcases jE_.mp hb with rfl|hb
    ·exact⟨_,he⟩
    ·rw[jk_.mp hb];obtain⟨o,ho,_⟩:=aB;exact⟨o,ho⟩
   obtain⟨o,ho⟩:=this;rw[Aj (jG_ (jl_ ho))];exact dq.1
 done:=by
  intro X hP hw hK hc i aa s σ H E I hf st hg;subst hP hw hK;obtain⟨hi,hq⟩:=hg;subst hi;obtain⟨b5,he,aB⟩:=st;obtain⟨ah,rv,p,hz⟩:=I.list hq;have hl:=rv.length;have pt:s.heap.IsList a ah.toArray:=p.isList;have Dw:=Draws.list (prog:=X.prog) (w:=X.w) (A:=X.A.in1) (I.ok.hd hc) it a dI ah.toArray;obtain⟨f0,f1,f2,f3,f4,f5⟩:=hf it (by simp);refine wpAny_pyNext_enum_endD Dw he ⟨by rw[jn_,<-hl];exact aB,pt⟩ fun h' eb=>⟨rfl,I.turned (t':=s.toks) (fun b o hb e=>eb b o hb e) f0 f1 f3 f4 f5⟩
 self:=fun A i s Q E st h=>by
  obtain⟨b5,he,_⟩:=st;exact zJ_ he h
noncomputable def Vn (K:α3)(tl:TE):TI:=fun σ H R=>tl σ H fun x H1=>∃a xs,x=.ref a/\SqL K H1 a xs/\R (Itm K a xs) H1
theorem Pn {K:α3} : Vn K te σ H Z=te σ H fun x H1=>∃a xs,x=.ref a/\SqL K H1 a xs/\Z (Itm K a xs) H1:=rfl
def Po {x1} (hg:Gl X "enumerate")(hm:X.mg "enumerate"=none)(he:PE X e te)(hs:starEach [e] X.env=[(false,eval e X.env)]:=by rfl):PI X (.Tuple b7 x1 bL) (.Call (.Name "enumerate" p) [e] [] pos) (Vn X.K te):=by
 intro aa s σ H R I h;refine Call_ (HN I hg hm boot_enumerate (qm_ (thn (Aa he Ad hs pos aa s σ H (fun vs H1=>∃a xs,vs=[.ref a]/\SqL X.K H1 a xs/\R (Itm X.K a xs) H1) I ?_) fun us s1 ⟨vs,H1,I1,r1,q1⟩=>?_) hs rfl))
 ·show te σ H _;have:(fun x H1=>∃a xs,x=V.ref a/\SqL X.K H1 a xs/\R (Itm X.K a xs) H1)=(fun x H1=>tNil σ H1 fun xs H2=>∃a ys,x::xs=[V.ref a]/\SqL X.K H2 a ys/\R (Itm X.K a ys) H2):=by
   funext x H1
   simp[tNil]
  rw[<-this];exact h
 ·obtain⟨a,xs,rfl,hq,q⟩:=q1;cases r1 with
  |cons r rr=>
   cases rr;cases r;obtain⟨ah,rv,p,hz⟩:=I1.list hq;have pt:s1.heap.IsList a ah.toArray:=p.isList;obtain⟨oa,nA,_⟩:=id pt;have ha:=jl_ nA;refine call_enumerate_list pt fun h' jh bE hsz hk=>?_;refine zJ_ (s:={s1 with heap:=h' }) jh ?_;have I2:Inv X aa σ H1 {s1 with heap:=h' }:=I1.kept (t':=s1.toks) hk;refine⟨s1.heap.objs.size+1,[s1.heap.objs.size+1,s1.heap.objs.size],_,_,H1,rfl,I2,Qf a (s1.heap.objs.size+1) s1.heap.objs.size (rh _) (jG_ ha) (jG_ (xC_ ha)) xs,⟨_,jh,bE⟩,fun b hb=>?_,q⟩;have dJ:s1.heap.objs.size<=b:=by
    rcases jE_.mp hb with rfl|hb
    ·lia
    ·rw[jk_.mp hb];exact jh_ _
   exact I1.fpOk dJ (I1.hok.fresh dJ)
def forM {K:α3} (Pv:Nat->St->Hp->Prop)(h0:Pv 0 σ H)(hl:∀i σ H,i<=xs.length->Pv i σ H->SqL K H a xs)
  (hs:∀i v σ H t,xs[i]?=some v->Pv i σ H->H t=none->g (.ref t) σ (upd H t (.tup [.int i,v])) fun ai H2=>tb {D with nx:=Pv (i+1),ct:=Pv (i+1),bk:=D.nx} ai H2) (hd:∀σ H,Pv xs.length σ H->D.nx σ H):ForW (Itm K a xs) g tb D σ H:=by
 refine⟨fun i m σ H=>m=xs.length-i/\i<=xs.length/\Pv i σ H,⟨xs.length,by simp,qc_ _,h0⟩,?_⟩;rintro i m σ H ⟨rfl,hi,p⟩;by_cases aH:i<xs.length
 ·refine .inr ⟨⟨aH,hl i σ H hi p⟩,Pv (i+1),fun af H' p'=>⟨xs.length-(i+1),by lia,rfl,aH,p'⟩,fun x H' y=>?_⟩;obtain⟨t,v,hn,hv,rfl,rfl⟩:=y;exact hs i v σ H t hv p hn
 ·have e:i=xs.length:=by lia
  subst e;exact .inl ⟨⟨rfl,hl _ σ H hi p⟩,hd σ H p⟩
theorem RE : US x vs H Q=∃l xs i k y,x=.ref l/\vs=[.int i]/\H l=some (.lst xs) /\ -(2 ^ 63)<=i/\i<2 ^ 63/\seqIndex? i xs.length=some k/\xs[k]?=some y/\Q y (upd H l (.lst (xs.eraseIdx k))):=rfl
noncomputable def rng (i j:Int):α2:=(oX (j-i).toNat).map fun k:Nat=>i+(k:Int)
end L2
namespace PySem
open Sem (wp)
noncomputable def Heap.DEnt (h:Heap)(d:Addr)(es:Array DictEntry)(ep:Nat):Prop:=∃o,h.get? d=some o/\o.ExactDict/\o.data=.dict es ep
section
variable {prog:Program} {w:World} {A:Around} {E:Value->Shared->Prop} {s:Shared} {d it:Addr} {es:Array DictEntry} {i ep:Nat}
def Heap.DEnt.typeIs (h:s.heap.DEnt d es ep):s.TypeIs (.ref d) "dict" := let ⟨o,ho,hc,_⟩:=h;⟨o,ho,hc.1⟩
def Heap.DEnt.at {h h':Heap}(x:h.DEnt d es ep)(e:∀o,h.get? d=some o->h'.get? d=some o):h'.DEnt d es ep:=let ⟨o,ho,r⟩:=x;⟨o,e _ ho,r⟩
def Heap.DEnt.lt_size {h:Heap}(x:h.DEnt d es ep):d<h.objs.size:=let ⟨_,ho,_⟩:=x;jl_ ho
def Oq (hd:(d==sysModules)=false)(hm:s.heap.DEnt d es ep)
  (hQ:Q (.ref s.heap.objs.size) {s with heap:=s.heap.push {cls:=.type "dict_keyiterator",data:=.fields #[.ref d,.int 0 0,.int es.size 0,.int ep 0]} }):wpAny (model prog w) A (pyIter (.ref d)) Q E s:=by
 have hT:=hm.typeIs;obtain⟨o,ho,hc,dv⟩:=id hm;refine wpAny_pyIter_slot hT F.slot_dict_iter (jZ_ F.slot_dict_iter hT F.entry_dict_iter (?_:wpAny _ _ (Builtin.«dict.__iter__» _) _ _ s) (F.args_dict_iter_1 _));unfold Builtin.«dict.__iter__»;refine wpAny_bind ?_;unfold Builtin.Dict.dictSlotNone;refine wpAny_bind (wpAny_notOrdered_dict hT ?_);show wpAny _ _ (pure (Value.ref d)) _ _ s;refine jf_ ?_;show wpAny _ _ (Builtin.Dict.showsAll d >>= _) _ _ s;unfold Builtin.Dict.showsAll;rw[if_neg (fun z=>by rw[hd]at z;cases z)];refine ja_ (jf_ (ja_ (q6_ ho dv (ja_ (xk_ ho dv ?_)))));refine ja_ (jT_ (jf_ ⟨_,rfl,"dict_keyiterator",_,⟨_,jp_ _ rfl,rfl⟩,qV_.lookup,?_⟩));simpa [rawInt] using hQ
def Kc (aB:s.heap.IsKeyIter it d i es.size ep)(hm:s.heap.DEnt d es ep)(aH:i<es.size)
  (hQ:∀h',h'.IsKeyIter it d (i+1) es.size ep->Heap.SameBut it s.heap h'->Q (some es[i].key) {s with heap:=h' }):wpAny (model prog w) A (pyNext (.ref it)) Q E s:=by
 obtain⟨o,ho,hc,hd⟩:=id aB;obtain⟨od,dw,cy,dy⟩:=id hm;have bu:Builtin.Dict_items.ownsTuple "dict_keyiterator"=false:=by decide
 unfold pyNext;refine ja_ (xe_ (jS_ (name:=Str.ofString "__next__") aB.typeIs qV_ (jZ_ qV_ aB.typeIs F.entry_dict_keyiterator_next ?_ (F.args_dict_keyiterator_next_1 _))));refine ja_ (jf_ (ja_ (ja_ ?_)))
 first|refine ja_ (xc_ aB.typeIs (jf_ (ja_ (xz_ ho hd ?_))))|refine ja_ (xD_ aB.typeIs (jf_ (ja_ (xz_ ho hd ?_))))
 simp only[bu,qI_,xm_];show wpAny _ _ (if (Value.ref d==Value.none)=true then _ else _) _ _ s;rw[if_neg (show ¬ ((Value.ref d==Value.none)=true) from fun z=>jj_ z)];refine ja_ (jf_ (ja_ (q6_ dw dy ?_)));rw[if_neg (by simp)];refine ja_ (jf_ (ja_ (xk_ dw dy ?_)));rw[if_neg (by simp)];refine jf_ ?_;simp only[show ¬ ((i:Int)<0) from by lia,xm_,jw_,x5_ aH];refine ja_ ?_
 first|refine ja_ (xc_ aB.typeIs (jf_ (ja_ (zO_ aB.typeIs ?_))))|refine ja_ (xD_ aB.typeIs (jf_ (ja_ (zO_ aB.typeIs ?_))))
 show wpAny _ _ (setField (.ref it) 1 (rawInt ((i:Int)+1)) >>= _) _ _ s;refine ja_ (xy_ ho hd (by simp) ?_);have bE:(s.heap.update it (Obj.mapFields (·.setIfInBounds 1 (rawInt ((i:Int)+1))))).IsKeyIter it d (i+1) es.size ep:=⟨_,qS_ _ ho (zN_ (xw_ hd _)),(Obj.cls_mapFields ..).trans hc,by rw[xw_ hd];simp[rawInt]⟩;refine ja_ (q7_ (ja_ (zO_ (s:={s with heap:=s.heap.update it (Obj.mapFields (·.setIfInBounds 1 (rawInt ((i:Int)+1))))}) bE.typeIs ?_)));show wpAny _ _ (pure es[i].key) _ _ _;exact jf_ (jf_ ⟨_,rfl,jf_ (hQ _ bE (qO_ ..))⟩)
def KU (hh:A.handled=none)(aB:s.heap.IsKeyIter it d i es.size ep)(hm:s.heap.DEnt d es ep)(kU:es.size<=i)
  (hQ:∀h',Heap.ExtBut it s.heap h'->Q none {s with heap:=h' }):wpAny (model prog w) A (pyNext (.ref it)) Q E s:=by
 obtain⟨o,ho,hc,hd⟩:=id aB;obtain⟨od,dw,cy,dy⟩:=id hm;have bu:Builtin.Dict_items.ownsTuple "dict_keyiterator"=false:=by decide
 unfold pyNext;refine ja_ (xe_ (jS_ (name:=Str.ofString "__next__") aB.typeIs qV_ (jZ_ qV_ aB.typeIs F.entry_dict_keyiterator_next ?_ (F.args_dict_keyiterator_next_1 _))));refine ja_ (jf_ (ja_ (ja_ ?_)))
 first|refine ja_ (xc_ aB.typeIs (jf_ (ja_ (xz_ ho hd ?_))))|refine ja_ (xD_ aB.typeIs (jf_ (ja_ (xz_ ho hd ?_))))
 simp only[bu,qI_,xm_];show wpAny _ _ (if (Value.ref d==Value.none)=true then _ else _) _ _ s;rw[if_neg (show ¬ ((Value.ref d==Value.none)=true) from fun z=>jj_ z)];refine ja_ (jf_ (ja_ (q6_ dw dy ?_)));rw[if_neg (by simp)];refine ja_ (jf_ (ja_ (xk_ dw dy ?_)));rw[if_neg (by simp)];refine jf_ ?_;simp only[show ¬ ((i:Int)<0) from by lia,xm_,jw_,zF_ kU];refine ja_ ?_
 first|refine ja_ (xc_ aB.typeIs (jf_ ?_))|refine ja_ (xD_ aB.typeIs (jf_ ?_))
 show wpAny _ _ (setField (.ref it) 0 .none >>= _) _ _ s;refine ja_ (xy_ ho hd (by simp) ?_);show wpAny _ _ (newExc (.type "StopIteration") [] >>= _) _ _ _;refine ja_ ?_;simp only[newExc,newTuple];refine ja_ (jT_ ?_ (by size_fits));refine ja_ (m:=firstArgMember _ _) (wa_ (a:=Value.none) (by first|rfl|(simp only[firstArgMember];rfl)) (jT_ ?_ (by size_fits)));simp only[raiseNew];refine ja_ (z4_ ?_);rw[show A.in1.handled=none from hh];refine ja_ (jf_ (wpAny_throw ?_));refine ja_ (zX_ (T := "StopIteration") (b:=true) ⟨_,jp_ _ rfl,rfl⟩ isSubtype_stop (jf_ (hQ _ (((qO_ ..).extBut.push _).push _))))
def Walks.dent (hh:A.handled=none)(I:Addr)(aG:d≠I):Walks prog w A I [I,d] [I] es.size (fun i v=>∃e,es[i]?=some e/\v=e.key) (fun i h=>h.IsKeyIter I d i es.size ep/\h.DEnt d es ep) where
 sub:=fun b hb=>by simp at hb;simp[hb]
 frame:=fun _ _ _ st hk=>⟨st.1.at fun o e=>hk I (by simp) o e,st.2.at fun o e=>hk d (by simp) o e⟩
 item:=fun i s Q E hi st hQ=>by
  refine Kc st.1 st.2 hi fun h' bE fF=>?_;exact hQ _ h' s.toks ⟨es[i],by simp[hi],rfl⟩ ⟨bE,st.2.at fun o e=>fF.extBut d o aG e⟩ fun b o hb e=>fF.extBut b o (fun z=>hb (by simp[z])) e
 done:=fun s Q E st hQ=>KU hh st.1 st.2 (jh_ _) fun h' jh=>hQ h' s.toks fun b o hb e=>jh b o (fun z=>hb (by simp[z])) e
 self:=fun _ _ _ _ st hQ=>wpAny_pyIter_keyiter st.1 hQ
def TH (lo:(d==sysModules)=false):uB prog w "dict" d d es.size (fun i v=>∃e,es[i]?=some e/\v=e.key) (fun h=>h.DEnt d es ep) where
 type:=fun _ hm=>hm.typeIs
 there:=fun _ hm=>⟨hm.lt_size,hm.lt_size⟩
 keep:=fun _ _ hm hk=>hm.at fun o e=>hk d (.inl rfl) o e
 notList:=by decide
 notTuple:=by decide
 hint:=fun _ _ _ _ hm hq=>sU hm.typeIs hq
 iter:=fun _ _ hh hm=>⟨_,_,(fun _ _ hq=>Oq lo hm hq),Walks.dent hh _ (jG_ hm.lt_size),⟨⟨_,jp_ _ rfl,rfl,rfl⟩,hm.at fun o e=>jd_ _ e⟩⟩
end
end PySem
namespace L2
open PySem PySem.Spec PyProof.Rows
def GA {α β:Type}{F:α->β->Prop}:∀{l:List α} {m:List β} {i:Nat} {a:α},Paired F l m->l[i]?=some a->∃b,m[i]?=some b/\F a b
 |_,_,_,_,.nil,e=>by simp at e
 |_,_,0,_,.cons r _,e=>by simp at e;subst e;exact⟨_,rfl,r⟩
 |_,_,i+1,a,.cons _ t,e=>by
  obtain⟨b,h1,h2⟩:=GA (i:=i) (a:=a) t (by simpa using e);exact⟨b,by simpa using h1,h2⟩
def Wo (ok:HOk P w H h)(e:Rd H a (.dT kvs)):
  ∃o es ep,h.get? a=some o/\o.ExactDict/\o.data=.dict es ep/\es.size=kvs.length/\(a==sysModules)=false/\kvs.length<=sizeLine /\
   ∀(i:Nat) (k:List Key) (v:V),kvs[i]?=some (k,v)->∃b en,es[i]?=some en/\en.key=.ref b/\H b=some (.tup (k.map kV)):=by
 obtain⟨z,y,xs,r,o,es,ep,h1,h2,h3,h4,h5⟩:=(show AY P w H h a (.dT kvs) from Tq ok e);have hl:=zn_ r;have hs:es.size=kvs.length:=by rw[<-qt_,h4,jb_,hl]
 refine⟨o,es,ep,h1,h2,h3,hs,y,z,fun i k v hk=>?_⟩;obtain⟨q,hq,e1,e2,_⟩:=GA r hk;refine⟨q.2.1,entryOfKey (tupleKind (AX P w)) q,?_,rfl,e2⟩;rw[<-qQ_,h4,ji_,hq];rfl
def DC (hc:X.calm=true):Er X (.type "list") (fun xs H Q=>∃p kvs,xs=[.ref p]/\Rd H p (.dT kvs)/\∀l rs,H l=none->rs.length=kvs.length ->
  (∀(i:Nat) (k:List Key) (v:V),kvs[i]?=some (k,v)->∃b,rs[i]?=some (V.ref b)/\H b=some (.tup (k.map kV)))->Q (.ref l) (upd H l (.lst rs))):=by
 intro aa s σ H xs us Q I r h;obtain⟨p,kvs,rfl,hp,q⟩:=h;obtain⟨u,rfl,rx⟩:=vals1 r;cases rx;obtain⟨o,es,ep,g1,g2,g3,g4,g5,g6,g7⟩:=Wo I.hok hp;refine uk (TH (es:=es) (ep:=ep) g5) (I.ok.hd hc) ⟨o,g1,g2,g3⟩ s!"" fun h' tk acc' c' hk hD aU=>?_
 let f:DictEntry->V:=fun e=>match e.key with | .ref b=>V.ref b|_=>.non
 have bz:∀(i:Nat) (k:List Key) (v:V),kvs[i]?=some (k,v)->∃b,(es.toList.map f)[i]?=some (V.ref b)/\H b=some (.tup (k.map kV)):=fun i k v cA=>by
  obtain⟨b,en,e1,e2,e3⟩:=g7 i k v cA;refine⟨b,?_,e3⟩;rw[ji_,qQ_,e1];show some (f en)=_;simp only[f,e2]
 have ak:(es.toList.map f).length=kvs.length:=by rw[jb_,qt_,g4]
 have hv:Vals (es.toList.map f) acc'.toList:=by
  refine Vals.ofIx (by rw[ak,<-g4];simpa using aU.1) fun i v hv=>?_;obtain⟨e,he,rfl⟩:=aU.2 i v (by simpa using hv);have hi:i<kvs.length:=by rw[<-g4];exact (Array.getElem?_eq_some_iff.mp he).1
  obtain⟨b,en,e1,e2,e3⟩:=g7 i kvs[i].1 kvs[i].2 (by simp[hi]);rw[he]at e1;cases e1;refine⟨V.ref b,?_,by rw[e2];rfl⟩;rw[ji_,qQ_,he];show some (f e)=_;simp only[f,e2]
 exact⟨.ref _,_,I.laid (t':=tk) hk (jh_ _) (show AY X.prog X.w _ h' _ (.lst (es.toList.map f)) from ⟨by rw[ak];exact g6,acc'.toList,c',hv,by simpa using hD⟩),rfl,q _ _ (I.hok.fresh (jh_ _)) ak bz⟩
noncomputable def Ot (tk tv:TE):TE:=fun σ H Q=>∀p,H p=none->tk σ (upd H p (.dT [])) fun x H1=>tv σ H1 fun y H2=>H2 p=some (.dT [])/\∃b k,x=.ref b/\H2 b=some (.tup (k.map kV))/\Q (.ref p) (upd H2 p (.dT [(k,y)]))
theorem Pp : Ot tk tv σ H Q=∀p,H p=none->tk σ (upd H p (.dT [])) fun x H1=>tv σ H1 fun y H2=>H2 p=some (.dT [])/\∃b k,x=.ref b/\H2 b=some (.tup (k.map kV))/\Q (.ref p) (upd H2 p (.dT [(k,y)])):=rfl
def RF (hu:X.A.units+1<cLine)(hk:PE X k tk)(hv:PE X v tv):PE X (.Dict [some k] [v] pos) (Ot tk tv):=by
 intro aa s σ H Q I q;have hn:=I.hok.fresh (jh_ s.heap.objs.size);have I1:=I.laid (a:=s.heap.objs.size) (o:=.dT []) (h':=s.heap.push {cls:=.type "dict",data:=.dict #[]}) (t':=s.toks) (fun _ _ q=>jd_ _ q) (jh_ _) (Mm s.heap I.big);refine wpAny_Dict_any rfl rfl (by intro z;cases z) (by show 1<=15;decide) (pairTrees_cons_walk (thn (hk aa _ σ _ _ I1 (q _ hn)) fun u s1 ⟨x,H1,J1,rx,q1⟩=>thn (hv aa s1 σ H1 _ J1 q1) fun w2 s2 ⟨y,H2,J2,ry,q2⟩=>pairTrees_nil_walk ?_));obtain⟨e,b,ks,rfl,hb,q3⟩:=q2;obtain rfl:u=Value.ref b:=rx;obtain⟨z,hd,xs,bx,dd⟩:=V8 J2.hok e;cases bx;unfold storeAll;rw[z9_];refine ja_ (ja_ (wpAny_dictSet_heap (hsz:=by simp) (show (tupleKind (AX X.prog X.w)).room X.A from (show X.A.units<cLine by lia)) (Jy J2.hok hb) dd fun h' ft hs=>jf_ ?_));show wpAny _ _ (forIn [] PUnit.unit _) _ _ _;rw[wi_];refine jf_ ⟨.ref s.heap.objs.size,_,?_,rfl,q3⟩;obtain⟨qo,es,ep,hq,h2,h3,h4,_,h5⟩:=ft;have hl:([(ks,y)]:List (List Key×V)).length<=sizeLine:=by rw[zI_];simp
 refine IZ J2 (by rw[e];exact oZ) hs ⟨qo,hq⟩ ⟨hl,hd,_,KT.keeps (.cons ⟨rfl,hb,ry⟩ .nil) fun c ys ec=>?_,qo,es,ep,hq,h2,h3,h4,h5⟩;rw[Aj (QK ec e (fun z=>nomatch z))];exact ec
def TJ {X:Cx}{i:Nat}{x:Str}{k v:Expr}{tk tv:TE}{pos bK dpos:Pos}(hu:X.A.units+1<cLine)(hN:X.N.Nodup)(hi:X.N[i]?=some x)(hx:Loc X.env.scope x)(hk:PE X k tk)(hv:PE X v tv)(hs:swapsWith (.Dict [some k] [v] dpos) (some (.Name x bK)) pos.line X.env=pure false)
  (hf:X.fn x=true\/X.env.scope.names.lookup x=some .local):PS X (.Assign [.Name x bK] (.Dict [some k] [v] dpos) pos) (tAsg (Ot tk tv) (IW i)):=Jw hN hi hx (RF hu hk hv) hs hf
end L2
namespace GB
open GW
variable {α:Type} [DecidableEq α]
noncomputable def YM (step:α->Int->α)(a:α)(ws:α2):α:=ws.foldl step a
noncomputable def put (step:α->Int->α)(r:α)(w:α2)(ents:List (α×α2))(x:Nat):List (α×α2):=if step r x∈ents.map (·.1) then ents else ents++[(step r x,w++[(x:Int)])]
structure B (L:Int)(step:α->Int->α)(st:α)(ok:α->Prop)(ents:List (α×α2))(i:Nat)(top:Int):Prop where
 hd:ents[0]?=some (st,[])
 il:i<=ents.length
 sh:∀(j:Nat) (e:α×α2),ents[j]?=some e->e.2.length<=j
 nod:(ents.map (·.1)).Nodup
 rng:∀e∈ents,ok e.1
 wd:∀e∈ents,isW L e.2=true/\YM step st e.2=e.1
 inc:∀(j k:Nat) (a b:α×α2),j<k->ents[j]?=some a->ents[k]?=some b->place L a.2<place L b.2
 bnd:∀e∈ents,place L e.2<top
 don:∀j,j<i->∀e,ents[j]?=some e->∀x:Int,0<=x->x<L->∃e'∈ents,e'.1=step e.1 x/\place L e'.2<=place L (e.2++[x])
variable {L:Int} {step:α->Int->α} {st:α} {ok:α->Prop} {ents:List (α×α2)} {i:Nat} {top:Int}
noncomputable def YN (aR:α1)(r:Int)(ws:α2):Int:=ws.foldl (X4 aR) r
end GB
namespace L2
open PySem PySem.Spec PyProof.Rows GW GB
noncomputable def TK (H H':Hp):Prop:=∀b xs,H b=some (.tup xs)->H' b=some (.tup xs)
def TK.of (s:Same H H'):TK H H':=fun b xs h=>s b _ h
def TK.trans (a:TK H H')(b:TK H' ji):TK H ji:=fun c xs h=>b c xs (a c xs h)
def TK.new (h:H p=none):TK H (upd H p o):=TK.of (Same.new h)
def TK.lst {H:Hp}{p:Addr}{o:HO}{xs:List V}(h:H p=some (.lst xs)):TK H (upd H p o):=fun b ys e=>by rw[Aj (fun z=>by rw[z,h]at e;cases e)];exact e
def TK.dT {H:Hp}{p:Addr}{o:HO}{kvs:List (List Key×V)}(h:H p=some (.dT kvs)):TK H (upd H p o):=fun b ys e=>by rw[Aj (fun z=>by rw[z,h]at e;cases e)];exact e
end L2
namespace L2
theorem RG : UU σ H Q=∀p,H p=none->Q (.ref p) (upd H p (.dK [])):=rfl
theorem RH : UW σ H Q=∀p,H p=none->Q (.ref p) (upd H p (.dT [])):=rfl
end L2
namespace L2
open PySem PySem.Spec PyProof.Rows GW
def Same.none (s:Same H H') (h:H' p=none):H p=none:=by
 cases e:H p with
 |none=>rfl
 |some u=>rw[s _ _ e]at h;cases h
end L2
namespace L2
open PySem PySem.Spec PyProof.Rows
def Ou:∀(names:List (Str×NameKind)) (h:Heap) (acc:List (Str×Addr)) (x:Str) (c:Addr),(cellsFrom h.objs.size names acc).lookup x=some c->((pushCells h names).IsCell c none/\h.objs.size<=c)\/acc.lookup x=some c
 |[],_,_,_,_,e=>.inr e
 | (y,k)::r,h,acc,x,c,e=>by
  unfold cellsFrom at e;unfold pushCells;by_cases hk:(k == .cell)=true
  ·rw[if_pos hk]at e ⊢;have e':(cellsFrom (h.push {cls:=.type "cell",data:=.cell none}).objs.size r ((y,h.objs.size)::acc)).lookup x=some c:=by rw[j3_];exact e
   rcases Ou r _ _ x c e' with ⟨a,b⟩|q
   ·rw[j3_]at b;exact .inl ⟨a,xE_ b⟩
   ·rw[j2_]at q;cases hx:x==y with
    |true=>
     rw[hx]at q;have:h.objs.size=c:=ju_ q;subst this;exact .inl ⟨⟨_,pushCells_keeps _ _ _ _ (jp_ _ rfl),rfl⟩,jh_ _⟩
    |false=>rw[hx]at q;exact .inr q
  ·rw[if_neg hk]at e ⊢;exact Ou r h acc x c e
def Kv:∀(names:List (Str×NameKind)) (n:Nat) (acc:List (Str×Addr)) (x:Str) (c:Addr),(cellsFrom n names acc).lookup x=some c->n<=c\/acc.lookup x=some c
 |[],_,_,_,_,e=>.inr e
 | (y,k)::r,n,acc,x,c,e=>by
  unfold cellsFrom at e;by_cases hk:(k == .cell)=true
  ·rw[if_pos hk]at e;rcases Kv r _ _ x c e with b|q
   ·exact .inl (xE_ b)
   ·rw[j2_]at q;cases hx:x==y with
    |true=>rw[hx]at q;have:n=c:=ju_ q;exact .inl (qQ this)
    |false=>rw[hx]at q;exact .inr q
  ·rw[if_neg hk]at e;exact Kv r n acc x c e
def RI:∀(names:List (Str×NameKind)) (n:Nat) (acc:List (Str×Addr)),(∀x y c,acc.lookup x=some c->acc.lookup y=some c->x=y)->(∀x c,acc.lookup x=some c->c<n)->∀x y c,(cellsFrom n names acc).lookup x=some c->(cellsFrom n names acc).lookup y=some c->x=y
 |[],_,_,hi,_,x,y,c,e1,e2=>hi x y c e1 e2
 | (z,k)::r,n,acc,hi,hb,x,y,c,e1,e2=>by
  unfold cellsFrom at e1 e2;by_cases hk:(k == .cell)=true
  ·rw[if_pos hk]at e1 e2;refine RI r (n+1) ((z,n)::acc) (fun x y c h1 h2=>?_) (fun x c h=>?_) x y c e1 e2
   ·rw[j2_]at h1 h2;cases hx:x==z with
    |true=>
     cases hy:y==z with
     |true=>rw[xp_.mp hx,xp_.mp hy]
     |false=>
      rw[hx]at h1;rw[hy]at h2;have e:n=c:=ju_ h1;exact absurd (hb y c h2) (by rw[<-e];exact j0_ _)
    |false=>
     cases hy:y==z with
     |true=>
      rw[hx]at h1;rw[hy]at h2;have e:n=c:=ju_ h2;exact absurd (hb x c h1) (by rw[<-e];exact j0_ _)
     |false=>rw[hx]at h1;rw[hy]at h2;exact hi x y c h1 h2
   ·rw[j2_]at h;cases hx:x==z with
    |true=>rw[hx]at h;have e:n=c:=ju_ h;rw[<-e];exact x8_ _
    |false=>rw[hx]at h;exact xC_ (hb x c h)
  ·rw[if_neg hk]at e1 e2;exact RI r n acc hi hb x y c e1 e2
def Ov:∀(names:List (Str×NameKind)) (n:Nat) (acc:List (Str×Addr)) (x:Str),(∀p∈names,p.1=x->p.2 ≠ .cell)->(cellsFrom n names acc).lookup x=acc.lookup x
 |[],_,_,_,_=>rfl
 | (y,k)::r,n,acc,x,h=>by
  unfold cellsFrom;by_cases hk:(k == .cell)=true
  ·rw[if_pos hk,Ov r _ _ x fun p hp=>h p (jq_ _ hp),j2_];cases hx:x==y with
   |true=>exact absurd (xp_.mp hk) (h (y,k) jA_ (xp_.mp hx).symm)
   |false=>rfl
  ·rw[if_neg hk];exact Ov r n acc x fun p hp=>h p (jq_ _ hp)
def Nx {globals:Addr}
  (hQ:Q {scope:=sc,locals:=s.heap.objs.size,globals,cells:=cellsFrom (s.heap.objs.size+1) sc.names cl,qual,func:=none,code:=outer.code,frame:=outer.frame,builtins:=outer.builtins} {s with heap:=pushCells (s.heap.push {cls:=.type "dict",data:=.dict #[]}) sc.names}):
  wpAny M A (newFunctionEnv sc globals cl [] qual none .none (some outer)) Q E s:=by
 simp only[newFunctionEnv,xu_,xR_];refine ja_ (wpAny_alloc (ja_ (wpAny_layCells _ (fun name kind cells=>by cases hkc:kind==NameKind.cell<;>simp[hkc]) _ _ _ _ ?_)));rw[show ({s with heap:=s.heap.push {cls:=.type "dict",data:=.dict #[]} }:Shared).heap.objs.size=s.heap.objs.size+1 from j3_ ..];refine ja_ ?_;rw[wi_];exact jf_ (jf_ hQ)
noncomputable abbrev ownC (X:Cx)(sc:Scope)(C:Addr):List (Str×Addr):=cellsFrom (C+1) sc.names (clOf X.env sc.names [])
noncomputable abbrev Cx.blkC (X:Cx)(N:List Str)(sc:Scope)(C:Addr)(s₀:Shared)(H₀:Hp)(ex:List Addr):Cx:=
 {X with N:=N,env:=compEnvC sc (ownC X sc C) C X.env,outer:=X.stack,s₀:=s₀,H₀:=H₀,ex:=ex,fn:=fun x=>sc.names.lookup x==some .cell,pn:=[],xe:=fun _ _=>False}
def KW {env:Env}:∀(l:List (Str×NameKind)) (acc:List (Str×Addr)) (x:Str) (c:Addr),(x,c)∈clOf env l acc->(x,NameKind.free)∈l\/(x,c)∈acc
 |[],_,_,_,h=>.inr h
 | (n,k)::r,acc,x,c,h=>by
  unfold clOf at h;by_cases hk:(k == .free)=true
  ·rw[if_pos hk]at h;rcases KW r _ x c h with q|q
   ·exact .inl (jq_ _ q)
   ·rcases jE_.mp q with q|q
    ·cases q;rw[xp_.mp hk];exact .inl jA_
    ·exact .inr q
  ·rw[if_neg hk]at h;rcases KW r _ x c h with q|q
   ·exact .inl (jq_ _ q)
   ·exact .inr q
structure BlkScC (X:Cx)(sc:Scope):Prop where
 kind:sc.kind=.function
 one:∀y∈sc.names,∀z∈sc.names,y.1=z.1->y.2=z.2
 loc:∀y∈sc.names,y.2=.local->sc.names.lookup y.1=some .local
 free:∀y∈sc.names,y.2=.free->X.env.kindOf y.1=some .cell\/X.env.kindOf y.1=some .free
section
variable {X:Cx} {aa:α7} {σ:St} {H:Hp} {s:Shared} {sc:Scope} {fp:List Addr}
def LW (I:Inv X aa σ H s)(S:BlkScC X sc):∀p∈sc.names,p.2=.free->∃c,X.env.cells.lookup p.1=some c:=fun p hp e=>I.ok.has p.1 (S.free p hp e)
def EM (I:Inv X aa σ H s)(S:BlkScC X sc) (h:(clOf X.env sc.names []).lookup x=some c):X.env.cells.lookup x=some c:=
 Kp sc.names [] (LW I S) (fun q hq=>by cases hq) (x,c) (qd_ h)
def Je (I:Inv X aa σ H s)(S:BlkScC X sc) (h:(ownC X sc C).lookup x=some c):C+1<=c\/X.env.cells.lookup x=some c:=by
 rcases Kv _ _ _ _ _ h with q|q
 ·exact .inl q
 ·exact .inr (EM I S q)
def EO {env:Env}:∀{names:List (Str×NameKind)} {x:Str} {k:NameKind},(names.map (relF env)).lookup x=some k->(k=.cell\/k=.free)->(x,NameKind.free)∈names\/names.lookup x=some .cell
 |[],_,_,h,_=>by simp at h
 | (n,k')::r,x,k,h,hk=>by
  have ih := @EO env r x k;rw[jR_]at h;rw[j2_];by_cases hb:(k'==NameKind.free&&env.scope.kind == .function&&env.kindOf n==some .cell)=true
  ·rw[Kq hb,j2_]at h;cases hx:x==n with
   |true=>
    have e:x=n:=by simpa using hx
    subst e;have e2:k'=.free:=by
     simp only[j1_]at hb;simpa using hb.1.1
    subst e2;exact .inl jA_
   |false=>
    rw[hx]at h;rcases ih h hk with q|q
    ·exact .inl (jq_ _ q)
    ·exact .inr q
  ·rw[Mn hb,j2_]at h;cases hx:x==n with
   |true=>
    rw[hx]at h;have e:x=n:=by simpa using hx
    subst e;have e2:k'=k:=ju_ h;subst e2;rcases hk with rfl|rfl
    ·exact .inr rfl
    ·exact .inl jA_
   |false=>
    rw[hx]at h;rcases ih h hk with q|q
    ·exact .inl (jq_ _ q)
    ·exact .inr q
def Wq {N:List Str}{C:Addr}(I:Inv X aa σ H s)(S:BlkScC X sc)(hC:s.heap.objs.size<=C)(hf:∀b∈fp,FpOk X aa H b)(ho:∀b∈fp,∃o,s.heap.get? b=some o):(X.blkC N sc C s H fp).Ok where
 mod:=I.ok.mod
 kind:=S.kind
 glob:=I.ok.glob
 blt:=I.ok.blt
 above:=hC
 inj:=fun x y c h1 h2=>by
  refine RI sc.names (C+1) (clOf X.env sc.names []) (fun x y c h1 h2=>I.ok.inj x y c (EM I S h1) (EM I S h2)) (fun x c h=>?_) x y c h1 h2;obtain⟨v,q⟩:=I.cell x c (EM I S h);exact xC_ (jt_ q.lt hC)
 has:=fun x hx=>by
  have gX:(x,NameKind.free)∈sc.names\/sc.names.lookup x=some .cell:=by
   rcases hx with hx|hx
   ·exact EO (env:=X.env) hx (.inl rfl)
   ·exact EO (env:=X.env) hx (.inr rfl)
  refine qe_.mp (zC_ sc.names (C+1) (clOf X.env sc.names []) ?_);rcases gX with q|q
  ·obtain⟨c,hc⟩:=Gy (env:=X.env) sc.names [] x (.inl q);obtain⟨c',e⟩:=Bc hc;exact .inr (by rw[e];rfl)
  ·exact .inl q
 cab:=fun x c h e=>by
  have hx:sc.names.lookup x=some .cell:=by simpa using h
  rcases Kv _ _ _ _ _ e with q|q
  ·exact qg_ hC (xE_ q)
  ·rcases KW _ _ _ _ (qd_ q) with z|z
   ·have:=S.one _ (qd_ hx) _ z rfl;cases this
   ·cases z
 hd:=I.ok.hd
 frames:=I.ok.frames
 stk:=.inl rfl
 exf:=fun b hb=>by
  obtain⟨o,ho⟩:=ho b hb;refine⟨jG_ (jt_ (jl_ ho) hC),fun x c h=>?_⟩;rcases Je I S h with q|q
  ·intro z;rw[z]at q;exact absurd (jt_ (jl_ ho) hC) (ri (xE_ q))
  ·exact (hf b hb).2.2.2.2.1 x c q
 bs:=I.bs
 bsz:=qg_ I.ok.bsz I.sz
 noex:=fun b o e hb=>by
  rcases (hf b hb).2.2.2.1 with z|z
  ·exact I.ok.noex b o e z
  ·exact absurd (jt_ (jl_ (I.ok.bs b o e).1) z) (j0_ _)
 exfs:=fun b hb z=>by
  rcases jE_.mp (I.stkSub b z) with e|e
  ·exact (hf b hb).2.1 e
  ·exact (hf b hb).2.2.1 e
 funs:=I.stack
 frf:=I.stkFree
def Qg {c:Caps}{C:Addr}{s4:Shared}{m:Str->α5}(I:Inv X aa σ H s)(S:BlkScC X sc)(hc:DB X.N sc c)(hC:s.heap.objs.size<=C)(hf:∀b∈fp,FpOk X aa H b)(ho:∀b∈fp,∃o,s.heap.get? b=some o)
  (fo:s4.os=s.os) (hb:s4.gens=s.gens) (hk:∀b o,s.heap.get? b=some o->s4.heap.get? b=some o) (hn:s4.heap.Ns C m)
  (bC:∀x c,(ownC X sc C).lookup x=some c->(s4.heap.IsCell c none/\C+1<=c)\/(clOf X.env sc.names []).lookup x=some c):Inv (X.blkC c.names sc C s H fp) [] (c.st σ) H s4 where
 ok:=Wq I S hC hf ho
 os:=fo
 bare:=by rw[hb];exact I.bare
 base:=Un.kept hk
 loc:=by
  refine⟨m,hn,fun i x v h1 h2 hv=>?_⟩;have fB:(c.map (·.1))[i]?=some x:=h1;have cK:(c.map fun p=>p.2.bind fun j=>(σ[j]?).join)[i]?=some (some v):=h2;rw[ji_]at fB cK;cases e:c[i]? with
  |none=>rw[e]at fB;cases fB
  |some p=>
   obtain⟨y,oj⟩:=p;rw[e]at fB cK;have e1:y=x:=ju_ fB;subst e1;have e2:(oj.bind fun j=>(σ[j]?).join)=some v:=ju_ cK;cases oj with
   |none=>cases e2
   |some j=>
    have e3:(σ[j]?).join=some v:=e2;have e4:σ[j]?=some (some v):=by
     cases q:σ[j]? with
     |none=>rw[q]at e3;cases e3
     |some z=>rw[q]at e3;exact xd_ some e3
    obtain⟨k1,k2⟩:=DB.get hc e;have jj:=qd_ k2;have k3:X.env.kindOf y=some .cell\/X.env.kindOf y=some .free:=S.free (y,.free) jj rfl;have kA:Vis X.env.scope y:=by
     rcases k3 with k|k
     ·exact .inr (.inl k)
     ·exact .inr (.inr k)
    obtain⟨mX,hnX,hl⟩:=I.loc;obtain⟨u,r,l⟩:=hl j y v k1 e4 kA;refine⟨u,r,?_⟩;rcases l with ⟨k,_⟩|⟨_,ca,m7,z⟩
    ·rcases k3 with k' | k'<;>(rw[k]at k';cases k')
    ·obtain⟨kd,m8,ek⟩:=FK (env:=X.env) k2;have dm:(compEnvC sc (ownC X sc C) C X.env).kindOf y=some kd:=ek;obtain⟨c',iF⟩:=Gy (env:=X.env) sc.names [] y (.inl jj);obtain⟨c2,cR⟩:=Bc iF;have e5:=EM I S cR;rw[m7]at e5;have e6:ca=c2:=ju_ e5;subst e6;have e7:(ownC X sc C).lookup y=some ca:=by
      rw[Ov sc.names (C+1) _ y fun p hp ep z=>?_]
      ·exact cR
      ·have:=S.one p hp (y,.free) jj ep;rw[z]at this;cases this
     refine .inr ⟨?_,ca,e7,?_⟩
     ·rcases m8 with rfl|rfl
      ·exact .inl dm
      ·exact .inr dm
     ·obtain⟨oc,eB,hd⟩:=z;exact⟨oc,hk _ _ eB,hd⟩
 cell:=fun x ca h=>by
  rcases bC x ca h with ⟨q,_⟩|q
  ·exact⟨_,q⟩
  ·obtain⟨v,oc,eB,hd⟩:=I.cell x ca (EM I S q);exact⟨v,oc,hk _ _ eB,hd⟩
 free:=I.hok.fresh hC
 freeC:=fun x ca h=>by
  rcases bC x ca h with ⟨_,q⟩|q
  ·exact I.hok.fresh (qg_ hC (xE_ q))
  ·exact I.freeC x ca (EM I S q)
 pin:=fun p hp=>absurd (show p∈([]:α7) from hp) (by simp)
 hok:=I.hok.kept hk
 len:=by show (c.map _).length=(c.map _).length;rw[jb_,jb_]
def TL {c:Caps}{C D:Addr}{s':Shared}{af:St}{H':Hp}{o:HO}(I:Inv X aa σ H s)(J:Inv (X.blkC c.names sc C s H fp) [] af H' s')(hf:∀b∈fp,FpOk X aa H b)(hD:s.heap.objs.size<=D)(hn:H' D=none)
  (new:AY X.prog X.w (upd H' D o) s'.heap D o):Inv X aa σ (upd H' D o) s':=by
 have u:Un (frs X.stack) fp H H' s.heap s'.heap:=J.base;exact I.call' J.os (u.track hD hn) (J.hok.track hn new) J.bare fun b hb=>⟨(hf b hb).2.2.2.1,(hf b hb).2.1,(hf b hb).2.2.2.2.1,(hf b hb).2.2.2.2.2⟩
end
section
variable {X:Cx} {tg iter cT:Expr} {cJ:List Expr} {sc:Scope} {pos:Pos} {wi:TI} {cp:Caps} {g:TG} {tc:TT} {te:TE}
def Qh (hc:X.calm=true)(S:BlkScC X sc)(gY:DB X.N sc cp)
  (hg:∀C s₀ H₀ ex,PG (X.blkC cp.names sc C s₀ H₀ ex) tg g) (hf:∀C s₀ H₀ ex,PF (X.blkC cp.names sc C s₀ H₀ ex) cJ tc) (he:∀C s₀ H₀ ex,PE (X.blkC cp.names sc C s₀ H₀ ex) cT te)
  {aa:α7} {σ:St} {H:Hp} {s:Shared} {J:It} {it:Addr} {fp:List Addr} {tn:Nat->Heap->Prop} {Q:VK} {RR:Value->Addr->Result->Shared->Prop} {E:Value->Shared->Prop}
  (I:Inv X aa σ H s) (T:Turn X.prog X.w X.K tg J fp it tn) (st:tn 0 s.heap) (eT:∀b∈fp,FpOk X aa H b)
  (hw:∃W:Nat->Nat->List V->St->Hp->Prop,(∃m,W 0 m [] (cp.st σ) H)/\∀i m ys af H',W i m ys af H' ->
   ys.length<sizeLine/\((J.stop i H'/\∀D,H' D=none->Q (.ref D) (upd H' D (.lst ys)))\/(J.go i H'/\∃N:List V->St->Hp->Prop,(∀zs ai H2,N zs ai H2->∃m',m'<m/\W (i+1) m' zs ai H2)/\∀x H2,J.yld i H' x H2->g x af H2 fun ai H3=>tc ai H3 fun b H4=>
    if b=true then te ai H4 fun v H5=>N (ys++[v]) ai H5 else N ys ai H4)))
  (hR:∀D C s' H' (m:Str->α5),Inv X aa σ H' s'->Q (.ref D) H'->s'.heap.Ns C m->H' C=none->C≠X.env.locals->X.s₀.heap.objs.size<=C->(∀x c,X.env.cells.lookup x=some c->c≠C)->(∀p∈X.pn++aa,p.1≠C)->RR (.ref D) C (.ok .next) s'):
  wpAny (model X.prog X.w) X.A (newList []) (fun acc aY=>wpAny (model X.prog X.w) X.A (newFunctionEnv sc X.env.globals (clOf X.env sc.names []) [] X.env.qual none .none (some X.env)) (fun fC eS=>
   codeAny (model X.prog X.w) X.A (.compStart (.ListComp cT [⟨tg,iter,cJ,0⟩] sc pos) 0 (.ref it) acc {fC with scope:=relabel sc X.env}) (RR acc fC.locals) eS) E aY) E s:=by
 obtain⟨W,⟨m0,w0⟩,ar⟩:=hw;refine jT_ (Nx ?_);dsimp only;generalize jb:s.heap.push {cls:=.type "list",dict:=none,data:=.seq ([]:List Value).toArray}=H2;obtain⟨h₁,eG⟩:∃h₁,h₁=pushCells (H2.push {cls:=.type "dict",data:=.dict #[]}) sc.names:=⟨_,rfl⟩;rw[<-eG];have hcells:∀x c,(ownC X sc H2.objs.size).lookup x=some c->(h₁.IsCell c none/\H2.objs.size+1<=c)\/(clOf X.env sc.names []).lookup x=some c:=fun x c e=>by
  have:=Ou sc.names (H2.push {cls:=.type "dict",data:=.dict #[]}) (clOf X.env sc.names []) x c (by rw[j3_];exact e);rw[j3_]at this;rw[eG];exact this
 have bZ:h₁.Ns H2.objs.size (fun _=>none):=by rw[eG];exact (Heap.Ns.new H2 (.type "dict")).keeps (pushCells_keeps _ _)
 have keep₁:∀b o,H2.get? b=some o->h₁.get? b=some o:=fun b o e=>by rw[eG];exact pushCells_keeps _ _ b o (jd_ _ e)
 have hC:H2.objs.size=s.heap.objs.size+1:=by rw[<-jb,j3_]
 have iI:s.heap.objs.size≠H2.objs.size:=by rw[hC];exact jG_ (x8_ _)
 have bN:s.heap.objs.size<=H2.objs.size:=by rw[hC];exact wp_ _
 have below:∀b,b<s.heap.objs.size->b≠H2.objs.size:=fun b hb=>by rw[hC];exact jG_ (xC_ hb)
 have b5:∀b o,s.heap.get? b=some o->h₁.get? b=some o:=fun b o e=>keep₁ b o (jb ▸ jd_ _ e);have aU:h₁.get? s.heap.objs.size=some {cls:=.type "list",data:=.seq ([]:List Value).toArray 0}:=keep₁ _ _ (jb ▸ jp_ _ rfl);have b6:tn 0 h₁:=T.keep 0 _ _ st fun b _ o e=>b5 b o e;have bM:∀b∈fp,∃o,s.heap.get? b=some o:=fun b hb=>let ⟨o,e,_⟩:=T.obj 0 _ st b hb;⟨o,e⟩;have J0:Inv (X.blkC cp.names sc H2.objs.size s H fp) [] (cp.st σ) H {s with heap:=h₁}:=Qg I S gY bN eT bM rfl rfl b5 bZ hcells;have iJ:∀b,s.heap.objs.size<=b->b∉frs X.stack:=fun b hb z=>by
  rcases jE_.mp (I.stkSub b z) with e|e
  ·exact absurd (jt_ I.lt (by rw[<-e];exact hb)) (j0_ _)
  ·exact I.nofs hb e
 have dn:∀b,s.heap.objs.size<=b->∀x c,X.env.cells.lookup x=some c->c≠b:=fun b hb x c e z=>by
  obtain⟨v,q⟩:=I.cell x c e;exact absurd (jt_ q.lt (by rw[z];exact hb)) (j0_ _)
 have kO:∀{aI:α7} {H':Hp},(∀b∈fp,H' b=none)->(∀p∈aI,p.1∉fp)->∀b∈fp,FpOk (X.blkC cp.names sc H2.objs.size s H fp) aI H' b:=fun {aI H'} hn hp b hb=>by
  obtain⟨o,e⟩:=bM b hb;refine⟨hn b hb,below b (jl_ e),fun z=>?_,.inl hb,fun x c h=>(by
   rcases Je I S h with q|q
   ·intro z;rw[z]at q;exact absurd (jl_ e) (ri (qg_ bN (xE_ q)))
   ·exact (eT b hb).2.2.2.2.1 x c q),fun p kP z=>?_⟩
  ·rcases jE_.mp (I.stkSub b z) with e|e
   ·exact (eT b hb).2.1 e
   ·exact (eT b hb).2.2.1 e
  ·have jc:p∈aI:=by simpa using kP
   exact hp p jc (by rw[z];exact hb)
 have loop:∀aY:Shared,aY={s with heap:=h₁} ->
   codeAny (model X.prog X.w) X.A (.compLoop (.ListComp cT [⟨tg,iter,cJ,0⟩] sc pos) 0 (.ref it) (.ref s.heap.objs.size) (compEnvC sc (ownC X sc H2.objs.size) H2.objs.size X.env))
    (RR (.ref s.heap.objs.size) H2.objs.size) aY:=by
  rintro aY rfl;refine JA (fun n s'=>∃i af H' ys ah k,Inv (X.blkC cp.names sc H2.objs.size s H fp) [] af H' s'/\tn i s'.heap/\(∀b∈fp,H' b=none)/\H' s.heap.objs.size=none /\
   s'.heap.get? s.heap.objs.size=some {cls:=.type "list",data:=.seq ah.toArray k}/\Vals ys ah/\W i n ys af H') ?_ m0
   ⟨0,_,H,[],[],0,J0,b6,fun b hb=>(eT b hb).1,I.hok.fresh (jh_ _),aU,.nil,w0⟩
  rintro n s3 ⟨i,bA,H3,ys,ah,k,I3,iG,jR,nc,e3,rv,w3⟩;obtain⟨hz,tr⟩:=ar i n ys bA H3 w3;have ak:=rv.length
  -- fh accumulator stands still while anything else runs
  have fE:∀p ∈ [(s.heap.objs.size,({cls:=.type "list",data:=.seq ah.toArray k}:Obj))],p.1∉fp:=fun p hp z=>by
   have e:p=_:=jk_.mp hp;subst e;obtain⟨o,e⟩:=bM _ z;exact absurd (jl_ e) (j0_ _)
  have kQ:Inv (X.blkC cp.names sc H2.objs.size s H fp) [(s.heap.objs.size,({cls:=.type "list",data:=.seq ah.toArray k}:Obj))] bA H3 s3:=I3.pins_of fun p hp=>by
   have e:p=_:=jk_.mp hp;subst e;exact⟨e3,nc,iI,iJ _ (jh_ _),fun v z=>by cases z⟩
  have cP:∀b∈fp,FpOk (X.blkC cp.names sc H2.objs.size s H fp) [(s.heap.objs.size,({cls:=.type "list",data:=.seq ah.toArray k}:Obj))] H3 b:=kO jR fE;rcases tr with ⟨stop,qn⟩|⟨go,N,hN,step⟩
  ·refine thn (T.done (X.blkC cp.names sc H2.objs.size s H fp) rfl rfl rfl hc i _ s3 bA H3 _ kQ cP iG stop) fun r s4 ⟨hr,I4⟩=>?_;subst hr;obtain⟨e4,n4,_⟩:=I4.pin (s.heap.objs.size,({cls:=.type "list",data:=.seq ah.toArray k}:Obj)) (by simp);have new:AY X.prog X.w (upd H3 s.heap.objs.size (.lst ys)) s4.heap s.heap.objs.size (.lst ys):=⟨xP_ hz,ah,k,rv,e4⟩;obtain⟨mC,ng,_⟩:=I4.loc;have nh:Inv (X.blkC cp.names sc H2.objs.size s H fp) [] bA H3 s4:=I4.pins_of fun p hp=>by cases hp
   have I5:=TL I nh eT (jh_ _) n4 new;refine hR _ _ s4 _ mC I5 (qn _ n4) ng ?_ (j7_ (jt_ I.lt bN)) (qg_ I.sz bN) (dn _ bN) fun p hp z=>?_
   ·rw[Aj (qp_ iI)];exact I4.free
   ·exact absurd (jt_ (jl_ (I.pin p hp).1) (by rw[z];exact bN)) (j0_ _)
  ·refine thn (T.item (X.blkC cp.names sc H2.objs.size s H fp) rfl rfl rfl hc i _ s3 bA H3 _ kQ cP iG go) fun r s4 ⟨u,hr,h4⟩=>?_;subst hr;refine thn h4 fun _ s5 ⟨x,H5,I5,r5,y5,eP,kF⟩=>?_;have kH:=I5.pinned (kO kF fE) (T.obj _ _ eP);have fin:∀{di:St} {H7:Hp} {s7:Shared},Inv (X.blkC cp.names sc H2.objs.size s H fp) ([(s.heap.objs.size,({cls:=.type "list",data:=.seq ah.toArray k}:Obj))]++LR fp s5.heap) di H7 s7 ->
     s7.heap.get? s.heap.objs.size=some {cls:=.type "list",data:=.seq ah.toArray k}/\H7 s.heap.objs.size=none/\(∀b∈fp,H7 b=none)/\∀b∈fp,∀o,s5.heap.get? b=some o->s7.heap.get? b=some o:=fun {di H7 s7} I7=>by
    obtain⟨e7,n7,_⟩:=I7.pin (s.heap.objs.size,({cls:=.type "list",data:=.seq ah.toArray k}:Obj)) (by simp);refine⟨e7,n7,fun b hb=>?_,fun b hb o e=>?_⟩
    ·obtain⟨o,e,_⟩:=T.obj _ _ eP b hb;exact (I7.pin (b,o) (jV_ _ (jV_ _ (Dx hb e)))).2.1
    ·exact (I7.pin (b,o) (jV_ _ (jV_ _ (Dx hb e)))).1
   refine qB_ (hg _ _ _ _ _ s5 bA H5 x u _ kH r5 (step x H5 y5)) (fun _ s6 ⟨dO,H6,I6,q6⟩=>?_) fun _ _ z=>pb z;refine qB_ (hf _ _ _ _ _ s6 dO H6 _ I6 q6) (fun ok s7 ⟨H7,I7,q7⟩=>?_) fun _ _ z=>pb z;cases ok with
   |false=>
    rw[if_neg jj_];rw[if_neg jj_]at q7;obtain⟨m',hm,w7⟩:=hN _ _ _ q7;obtain⟨e7,n7,ni,k7⟩:=fin I7;exact⟨m',hm,i+1,dO,H7,ys,ah,k,I7.pins_of (fun p hp=>by cases hp),T.keep _ _ _ eP k7,ni,n7,e7,rv,w7⟩
   |true=>
    rw[if_pos rfl];rw[if_pos rfl]at q7;refine qB_ (he _ _ _ _ _ s7 dO H7 _ I7 q7) (fun v s8 ⟨y,H8,I8,r8,q8⟩=>?_) fun _ _ z=>pb z;obtain⟨m',hm,w8⟩:=hN _ _ _ q8;obtain⟨e8,n8,nj,k8⟩:=fin I8;refine zh_ F.slot_list_append ⟨_,e8,rfl⟩ F.entry_list_append (z0_ _ _) (wl_ s.heap.objs.size ah.toArray k v (by rw[jn_];lia)) ⟨e8,?_⟩;obtain⟨k',q⟩:∃k',(s8.heap.update s.heap.objs.size (Obj.mapSeq fun x=>x.push v)).get? s.heap.objs.size=some {cls:=.type "list",data:=.seq (ah++[v]).toArray k' }:=⟨_,by
     have q:=pR e8 fun x=>x.push v;have e:(ah++[v]).toArray=ah.toArray.push v:=by simp
     rw[e];exact q⟩
    have I8':Inv (X.blkC cp.names sc H2.objs.size s H fp) [] dO H8 s8:=I8.pins_of fun p hp=>by cases hp
    have I9:Inv (X.blkC cp.names sc H2.objs.size s H fp) [] dO H8 {s8 with heap:=s8.heap.update s.heap.objs.size (Obj.mapSeq fun x=>x.push v),toks:=s8.toks}:=
     I8'.turned (it:=s.heap.objs.size) (fun b o hb e=>(ql_ _ _ (qp_ hb)).trans e) n8 iI (.inr (jh_ _)) (fun x c e=>by
      rcases Je I S e with q|q
      ·intro z;rw[z]at q;exact absurd (qg_ q bN) (Nat.not_succ_le_self _)
      ·exact dn _ (jh_ _) x c q) (fun p hp=>by cases hp)
    refine⟨m',hm,i+1,dO,H8,ys++[y],ah++[v],k',I9,T.keep (i+1) s5.heap _ eP (fun b hb o e=>?_),nj,n8,q,rv.append (.cons r8 .nil),w8⟩
    ·refine (ql_ _ _ ?_).trans (k8 b hb o e);intro z;obtain⟨ob,eb⟩:=bM b hb;exact absurd (jl_ eb) (by rw[<-z];exact j0_ _)
 exact codeAny_compStart_list (loop _ rfl) (T.self _ 0 _ _ _ b6 (loop _ rfl))
def TM (hc:X.calm=true)(S:BlkScC X sc)(gY:DB X.N sc cp)(hi:PI X tg iter wi)
  (hg:∀C s₀ H₀ ex,PG (X.blkC cp.names sc C s₀ H₀ ex) tg g) (hf:∀C s₀ H₀ ex,PF (X.blkC cp.names sc C s₀ H₀ ex) cJ tc) (he:∀C s₀ H₀ ex,PE (X.blkC cp.names sc C s₀ H₀ ex) cT te)
  (hs:∀x,foldedSetIterable iter X.env x=pure x:=by intro _;rfl):PE X (.ListComp cT [⟨tg,iter,cJ,0⟩] sc pos) (Tt wi cp g tc te):=by
 intro aa s σ H Q I h;rw[eval_ListComp];refine zi_ (use:=none) rfl hs (I0 (LW I S)) S.kind S.loc (thn (hi aa s σ H _ I h) fun xv s₁ h₁=>thn h₁ fun kB br aK=>?_);obtain⟨it,fp,tn,J,H2,e,I2,T,gQ,f2,hw⟩:=aK;subst e;refine Qh (RR:=fun acc C=>compPost (model X.prog X.w) X.A X.xe none (EP X aa σ Q) acc C) hc S gY hg hf he I2 T gQ f2 hw ?_;intro D C s' H' m I' q hn hC hL hz bC hp;exact⟨m,hn,fun h' fF=>⟨.ref D,H',I'.turned (t':=s'.toks) (it:=C) (fun b o hb e=>fF.extBut b o hb e) hC hL (.inr hz) bC hp,rfl,q⟩⟩
end
noncomputable def Vo (outer:List (Str×NameKind))(sc:Scope):Bool:=
 sc.kind == .function&&sc.names.all (fun y=>(y.2 != .local||sc.names.lookup y.1==some .local)&&(y.2 != .free||outer.lookup y.1==some .cell||outer.lookup y.1==some .free)&&sc.names.all fun z=>y.1 != z.1||y.2==z.2)
def Wr (h:Vo X.env.scope.names sc=true):BlkScC X sc:=by
 unfold Vo at h;rw[j1_,qZ_]at h;obtain⟨h1,h2⟩:=h;refine⟨by simpa using h1,fun y hy z hz e=>?_,fun y hy z=>?_,fun y hy z=>?_⟩
 ·have:=h2 y hy;simp only[j1_,qZ_]at this;have:=this.2 z hz;rw[e]at this;simpa using this
 ·have:=h2 y hy;simp only[j1_]at this;have:=this.1.1;rw[z]at this;simpa using this
 ·have:=h2 y hy;simp only[j1_]at this;have:=this.1.2;rw[z]at this;have t:(X.env.scope.names.lookup y.1==some .cell||X.env.scope.names.lookup y.1==some .free)=true:=by simpa using this
  rw[qc]at t;rcases t with t|t
  ·exact .inl (by show X.env.scope.names.lookup y.1=some .cell;simpa using t)
  ·exact .inr (by show X.env.scope.names.lookup y.1=some .free;simpa using t)
end L2
namespace L2
open PySem PySem.Spec PyProof.Rows GW
noncomputable def Ao (K:α3)(H:Hp)(xs:List V)(ws:α1):Prop:=xs.length=ws.length/\∀(i:Nat) (w:α2),ws[i]?=some w->∃t,xs[i]?=some (.ref t)/\H t=some (.tup (w.map V.int))
def Ao.nil {K:α3} : Ao K H [] []:=⟨rfl,fun i w h=>by simp at h⟩
def Ao.mono {K:α3} (h:Ao K H xs ws)(k:TK H H'):Ao K H' xs ws:=by
 refine⟨h.1,fun i w hw=>?_⟩;obtain⟨t,a,b⟩:=h.2 i w hw;exact⟨t,a,k _ _ b⟩
def Ao.snoc {K:α3} (h:Ao K H xs ws) (ht:H t=some (.tup (w.map V.int))):Ao K H (xs++[.ref t]) (ws++[w]):=by
 refine⟨by rw[js_,js_,h.1];rfl,fun i v hi=>?_⟩;by_cases dz:i<ws.length
 ·rw[jx_ dz]at hi;rw[jx_ (by rw[h.1];exact dz)];exact h.2 i v hi
 ·have:=(jg_.mp hi).1;rw[js_,jW_]at this;have ei:i=ws.length:=by lia
  subst ei;rw[jB_ (jh_ _),q0_]at hi;simp at hi;subst hi;refine⟨t,?_,ht⟩;rw[jB_ (by rw[h.1];exact jh_ _),h.1,q0_];rfl
def Ao.at {K:α3}{H:Hp}{xs:List V}{ws:α1}(h:Ao K H xs ws){i:Nat}{x:V}(hx:xs[i]?=some x):∃t w,ws[i]?=some w/\x=.ref t/\H t=some (.tup (w.map V.int)):=by
 have hi:i<ws.length:=by rw[<-h.1];exact (jg_.mp hx).1
 obtain⟨t,a,b⟩:=h.2 i ws[i] (by simp[hi]);rw[hx]at a;exact⟨t,ws[i],by simp[hi],ju_ a,b⟩
def Ao.eq {K:α3} (h:Ao K H xs ws)(g:Ao K H ys ws)(ha:SqL K H a xs)(hb:SqL K H b ys)(n:Nat):EqD K H (n+2) (.ref a) (.ref b) true:=by
 refine .inr ⟨a,b,xs,ys,rfl,rfl,.inl ⟨ha,hb⟩,fun _=>true,fun i x y hx hy=>?_,by rw[h.1,g.1];simp⟩;obtain⟨t,w,e1,rfl,e2⟩:=h.at hx;obtain⟨u,w',f1,rfl,f2⟩:=g.at hy;rw[e1]at f1;cases f1;have:=EqD.ints (K:=K) (H:=H) (a:=t) (c:=u) (xs:=w) (ys:=w) (.inr ⟨SqT.of e2,SqT.of f2⟩) n;rw[qx_ rfl]at this;exact this
noncomputable def rInW (K:α3)(i9:Bool):R2:=fun x y H Q=>∃p t xs w ws,y=.ref p/\x=.ref t/\SqL K H p xs/\Ao K H xs ws/\SqT K H t (w.map V.int)/\Q (.bl (if i9 then !decide (w∈ws) else decide (w∈ws))) H
theorem X7 {K:α3} : rInW K i9 x y H Q=∃p t xs w ws,y=.ref p/\x=.ref t/\SqL K H p xs/\Ao K H xs ws/\SqT K H t (w.map V.int)/\Q (.bl (if i9 then !decide (w∈ws) else decide (w∈ws))) H:=rfl
def TN (hu:X.A.units+8<cLine)(I:Inv X aa σ H s)(hp:SqL X.K H p xs)(hw:Ao X.K H xs ws)(ht:SqT X.K H t (w.map V.int)):
  ∃(ah:Array Value) (e:Value->Bool),s.heap.IsList p ah/\(∀y,y∈ah->SeqAt.EqAt X.A.in1 s y (.ref t) (e y))/\ah.any e=decide (w∈ws):=by
 obtain⟨ah,r,pl,_⟩:=I.list hp;have hl:=r.length
 let e:Value->Bool:=fun y => @decide (∃(i:Nat) (a:Addr),y=.ref a/\xs[i]?=some (.ref a)/\ws[i]?=some w) (pB _)
 have ee:∀(i:Nat) (a:Addr) (v:α2),xs[i]?=some (.ref a)->ws[i]?=some v->e (.ref a)=decide (v=w):=fun i a v hx hv=>by
  obtain⟨a',a1,a2⟩:=hw.2 i v hv;rw[hx]at a1;cases a1;rw[qX_];show @decide _ (pB _)=true↔_;rw[@decide_eq_true_iff _ (pB _),qG_];constructor
  ·rintro⟨j,b,hb,hxj,kX⟩;cases hb;obtain⟨b',b1,b2⟩:=hw.2 j w kX;rw[hxj]at b1;cases b1;rw[a2]at b2;have:=ju_ b2;injection this with this;exact (wf_ (fun x y z=>V.int.inj z)).mp this
  ·rintro rfl;exact⟨i,a,rfl,hx,hv⟩
 refine⟨ah.toArray,e,pl.isList,fun y hy=>?_,?_⟩
 ·have hy':y∈ah:=by simpa using hy
  obtain⟨i,hi,ei⟩:=xj_ hy';have nB:i<xs.length:=by lia
  obtain⟨u,gC,ru⟩:=r.get (i:=i) (x:=xs[i]) (by simp[nB]);rw[je_ hi,ei]at gC;cases gC;obtain⟨a,v,e1,e2,e3⟩:=hw.at (i:=i) (x:=xs[i]) (by simp[nB]);rw[e2]at ru;cases ru;rw[ee i a v (by rw[je_ nB,e2]) e1];exact (EqD.at (x:=V.ref a) (y:=V.ref t) I 2 X.A.in1 (by rw[in1_units];lia) rfl rfl (EqD.ints (xs:=v) (ys:=w) (.inr ⟨SqT.of e3,ht⟩) 1)).1
 ·rw[qX_,qG_];rw[show ah.toArray.any e=ah.any e by simp,za_];constructor
  ·rintro⟨y,hy,hey⟩;obtain⟨j,b,_,_,kX⟩:=(@decide_eq_true_iff _ (pB _)).mp hey;exact jo_ kX
  ·intro hm;obtain⟨i,hi,ei⟩:=xj_ hm;obtain⟨a,a1,a2⟩:=hw.2 i w (by rw[je_ hi,ei]);obtain⟨u,gC,ru⟩:=r.get a1;cases ru;refine⟨.ref a,jo_ gC,?_⟩;rw[ee i a w a1 (by rw[je_ hi,ei])];simp
def X8 (hu:X.A.units+8<cLine):OpR X (compareOp .In) (rInW X.K false):=by
 intro aa s σ H x y v u Q I rx ry h;obtain⟨p,t,xs,w,ws,rfl,rfl,hp,hw,ht,q⟩:=h;cases ry;cases rx;obtain⟨ah,e,h1,h2,h3⟩:=TN hu I hp hw ht;refine SeqAt.in_listAt e h1 h2 ⟨.bl _,H,I,rfl,?_⟩;rw[h3];exact q
def Cd.ofS {K:α3} (ha:H a=some (.tup xs))(hb:H b=some (.tup ys))(hz:xs.length+ys.length<=sizeLine)(h:∀p H',Same H H'->H' p=some (.tup (xs++ys))->Q (.ref p) H'):Cd K (.ref a) (.ref b) H Q:=by
 refine⟨a,b,xs,ys,rfl,rfl,SqT.of ha,SqT.of hb,hz,fun e=>?_,fun _ e=>?_,fun _ _ p hp=>h p _ (Same.new hp) Ab⟩
 ·subst e;exact h b H (Same.refl _) (by simpa using hb)
 ·subst e;exact h a H (Same.refl _) (by simpa using ha)
def Inv.unL (I:Inv X aa σ H s)(k:∀b o,b∉fp->s.heap.get? b=some o->h'.get? b=some o)(f:∀b∈fp,FpOk X aa H b):Un (frs X.stack) fp H H s.heap h'/\HOk X.prog X.w H h':=by
 have ne:∀b u,H b=some u->b∉fp:=fun b u q hb=>by rw[(f b hb).1]at q;cases q
 refine⟨⟨fun b o q _ _ hb=>k b o hb q,fun b o q _ _ hb=>⟨o.slots,k b o hb q⟩,fun _ _ _ n _=>n,fun b o q hb=>⟨o,k b o hb q⟩,fun _ _ q=>q,fun _ _ _ q=>q,fun b ps q=>⟨#[],by rw[q];simp⟩⟩,fun b u q=>?_⟩;refine (I.hok b u q).stay (fun c v hc qv=>?_) (fun _ q=>q) fun _ _ q=>q;have aG:c∉fp:=by
  rcases hc with rfl|hc
  ·exact ne _ _ q
  ·exact ne _ _ hc
 exact k c v aG qv
end L2
namespace GW
noncomputable def ins (s:α1)(w:α2):α1:=if w∈s then s else s++[w]
def Ws (s:α1)(w:α2):(ins s w).length<=s.length+1:=by
 unfold ins;split
 ·lia
 ·simp
def A9:∀(l s:α1),(l.foldl ins s).length<=s.length+l.length
 |[],s=>by simp
 |w::l,s=>by
  have h1:=A9 l (ins s w);have h2:=Ws s w;rw[xT_,jY_];lia
noncomputable def extW (n:Nat)(w:α2):α1:=(oX n).map fun x:Nat=>w++[(x:Int)]
noncomputable def Es (n:Nat)(acc:α1):α1:=(acc.flatMap (extW n)).foldl ins (acc.foldl ins [])
noncomputable def JC (ae bg:α1):α1:=(ae.flatMap fun r=>bg.map (r ++ ·)).foldl ins []
end GW
namespace L2
open PySem PySem.Spec PyProof.Rows GW
noncomputable def wkey (w:α2):List Key:=w.map pk
def B3 (w:α2):(wkey w).map kV=w.map V.int:=by unfold wkey;rw[jK_];rfl
def GC (h:wkey v=wkey w):v=w:=(wf_ (fun x y z=>Sum.inl.inj z)).mp h
noncomputable def Dp (ws:α1)(kvs:List (List Key×V)):Prop:=kvs.map (·.1)=ws.map wkey
def Dp.len (h:Dp ws kvs):kvs.length=ws.length:=by
 have:=xd_ pF h;simpa using this
def Dp.some_iff (h:Dp ws kvs)(w:α2):(valV kvs (wkey w)).isSome=decide (w∈ws):=by
 rw[<-Dm,qX_,qG_,za_];constructor
 ·rintro⟨kv,cA,e⟩;have e:=x0_ e;have:wkey w∈ws.map wkey:=by rw[<-h,<-e];exact jv_.mpr ⟨kv,cA,rfl⟩
  obtain⟨q,hq,e2⟩:=jv_.mp this;exact GC e2 ▸ hq
 ·intro hw;have:wkey w∈kvs.map (·.1):=by rw[h];exact jv_.mpr ⟨w,hw,rfl⟩
  obtain⟨kv,cA,e⟩:=jv_.mp this;exact⟨kv,cA,qx_ e⟩
def Dp.put (h:Dp ws kvs)(w:α2)(v:V):Dp (ins ws w) (putK kvs (wkey w) v):=by
 have hs:=h.some_iff w;unfold putK ins;rw[Dm,hs];by_cases hw:w∈ws
 ·rw[if_pos hw,if_pos (show decide (w∈ws)=true from qx_ hw)];unfold Dp;rw[<-h,jK_];refine jH_ fun kv _=>?_;show (if kv.1=wkey w then (kv.1,v) else kv).1=kv.1;split<;>rfl
 ·rw[if_neg hw,if_neg (show ¬ decide (w∈ws)=true by simp[hw])];unfold Dp;rw[jm_,jm_,h];rfl
def Dp.nil:Dp [] []:=rfl
def Dp.words {K:α3} (h:Dp ws kvs)(hl:rs.length=kvs.length)(hr:∀(i:Nat) (k:List Key) (v:V),kvs[i]?=some (k,v)->∃b,rs[i]?=some (V.ref b)/\H b=some (.tup (k.map kV))):Ao K H rs ws:=by
 refine⟨by rw[hl,h.len],fun i w hw=>?_⟩;have hi:i<kvs.length:=by rw[h.len];exact (jg_.mp hw).1
 have e:(kvs.map (·.1))[i]?=some (wkey w):=by rw[h,ji_,hw];rfl
 rw[ji_,je_ hi]at e;have e:kvs[i].1=wkey w:=ju_ e;obtain⟨b,b1,b2⟩:=hr i kvs[i].1 kvs[i].2 (by simp[hi]);exact⟨b,b1,by rw[b2,e,B3]⟩
end L2
namespace PySem.W
open PySem PySem.Calls PyProof.Rows PyProof.V PySem.Spec
noncomputable def PairsV (es:List DictEntry)(kvs:List (Value×Value)):Prop:=es.map (fun e=>(e.key,e.val))=kvs
def PairsV.length (h:PairsV es kvs):es.length=kvs.length:=by rw[<-h,jb_]
def PairsV.get? {es:List DictEntry}{kvs:List (Value×Value)}(h:PairsV es kvs){i:Nat}{e:DictEntry}{k v:Value}(h1:es[i]?=some e)(h2:kvs[i]?=some (k,v)):k=e.key/\e.val=v:=by
 rw[<-h,ji_,h1]at h2;simp at h2;exact⟨h2.1.symm,h2.2⟩
end PySem.W
namespace PySem
noncomputable def Heap.DictV (h:Heap)(a:Addr)(kvs:List (Value×Value))(ep:Nat):Prop:=∃o es,h.get? a=some o/\o.ExactDict/\o.data=.dict es ep/\True/\W.PairsV es.toList kvs/\True
def Heap.DictV.at' {h h':Heap}{a kvs ep}(x:h.DictV a kvs ep)(e:∀o,h.get? a=some o->h'.get? a=some o):h'.DictV a kvs ep:=let ⟨o,es,ho,r⟩:=x;⟨o,es,e _ ho,r⟩
def Heap.DictV.lt_size {h:Heap}{a kvs ep}(x:h.DictV a kvs ep):a<h.objs.size:=let ⟨_,_,ho,_⟩:=x;jl_ ho
def Heap.DictV.push {h:Heap}{a kvs ep}(x:h.DictV a kvs ep)(o:Obj):(h.push o).DictV a kvs ep:=let ⟨o',es,ho,r⟩:=x;⟨o',es,jd_ o ho,r⟩
end PySem
namespace PySem.W
open PySem PySem.Calls PyProof.Rows PyProof.V PySem.Spec
section
variable {prog:Program} {w:World} {A:Around} {E:Value->Shared->Prop} {s:Shared}
def Hk (hv:s.heap.IsItemsView v d)(hm:s.heap.DictV d kvs ep)
  (hQ:Q (.ref s.heap.objs.size) {s with heap:=s.heap.push {cls:=.type "dict_itemiterator",data:=.fields #[.none,.bool false,.ref d,.int 0 0,.int kvs.length 0,.int ep 0,.none,.none]} }):
  wpAny (model prog w) A (pyIter (.ref v)) Q E s:=by
 obtain⟨ov,hov,hcv,hdv⟩:=id hv;obtain⟨o,es,ho,hc,dv,hk,hp,hn⟩:=id hm;refine wpAny_pyIter_slot hv.typeIs pG (jZ_ pG hv.typeIs rp ?_ (rj _));unfold Builtin.«dict_items.__iter__»;refine ja_ (jf_ ?_);refine ja_ ?_;unfold Builtin.Dict_items.dictOf;refine ja_ (j9_ hov hdv (x:=.ref d) rfl (jf_ ?_));refine ja_ ?_;unfold Builtin.Dict_items.newIterator;refine ja_ (q6_ ho dv ?_);refine ja_ (xk_ ho dv ?_);have hsz:es.size=kvs.length:=by rw[<-hp.length];simp
 have bu:Builtin.Dict_items.ownsTuple "dict_itemiterator"=true:=by decide
 simp only[bu,xR_];refine jT_ (jf_ ⟨_,rfl,"dict_itemiterator",_,⟨_,jp_ _ rfl,rfl⟩,jP_.lookup,?_⟩)
  (by simp only[sizeOk,Builtin.Dict_items.ownedTupleFields,jn_,js_,jY_,xi_,zI_];lia)
 simpa [rawInt,hsz,Builtin.Dict_items.ownedTupleFields] using hQ
def Et {it d:Addr} (aB:IsItemIter s.heap it d i kvs.length ep ok ov)
  (hm:s.heap.DictV d kvs ep) (hx:kvs[i]?=some (k,v))
  (hQ:∀key h',k=key->IsItemIterOut h' it d (i+1) kvs.length ep key v s.heap.objs.size ->
   h'.get? s.heap.objs.size=some {cls:=.type "tuple",data:=.seq #[key,v]}->h'.objs.size=s.heap.objs.size+1 ->
   (∀b o,b≠it->s.heap.get? b=some o->h'.get? b=some o)->Q (some (.ref s.heap.objs.size)) {s with heap:=h' }):
  wpAny (model prog w) A (pyNext (.ref it)) Q E s:=by
 obtain⟨hp,g,dr,tk,os⟩:=s;obtain⟨od,es,dw,cy,dy,hk,fL,hn⟩:=id hm;have hT:Shared.TypeIs ⟨hp,g,dr,tk,os⟩ (.ref it) "dict_itemiterator" := ⟨_,aB,rfl⟩;unfold pyNext;refine ja_ (xe_ (jS_ (name:=Str.ofString "__next__") hT jP_
  (jZ_ jP_ hT qL_ ?_ (qH_ _))))
 refine ja_ (jf_ ?_);refine ja_ ?_;refine ja_ ?_
 first|refine ja_ (j5_ hT (jf_ ?_))|refine ja_ (qj_ hT (jf_ ?_))
 refine ja_ (xz_ aB rfl ?_);have bu:Builtin.Dict_items.ownsTuple "dict_itemiterator"=true:=by decide
 simp only[bu,xR_];show wpAny _ _ (if (Value.ref d==Value.none)=true then _ else _) _ _ _;rw[if_neg (show ¬ ((Value.ref d==Value.none)=true) from jj_)];refine ja_ (jf_ ?_);refine ja_ (q6_ dw dy ?_);have hsz:es.size=kvs.length:=by rw[<-fL.length];simp
 rw[if_neg (by rw[hsz];simp)];refine ja_ (jf_ ?_);refine ja_ (xk_ dw dy ?_);rw[if_neg (by simp)];refine jf_ ?_;have aH:i<kvs.length:=by
  rcases qV i kvs.length with h|h
  ·exact h
  ·simp[jy_ h]at hx
 have fM:i<es.size:=by rw[hsz];exact aH
 obtain⟨dP,dA⟩:=fL.get? (e:=es[i]) (by simp[fM]) hx;simp only[show ¬ ((i:Int)<0) from by lia,xm_,jw_,x5_ fM];refine ja_ ?_
 first|refine ja_ (j5_ hT (jf_ ?_))|refine ja_ (qj_ hT (jf_ ?_))
 refine ja_ (q3_ hT ?_);show wpAny _ _ (setField (.ref it) 3 (rawInt ((i:Int)+1)) >>= _) _ _ ⟨hp,g,dr,tk,os⟩;refine ja_ (qb_ aB (by simp) fun h₁ bh az=>?_);replace az:Heap.SameBut it hp h₁:=az;replace bh:IsItemIter h₁ it d (i+1) kvs.length ep ok ov:=by
  have e:((i+1:Nat):Int)=(i:Int)+1:=by lia
  unfold IsItemIter;rw[e];simpa [rawInt] using bh
 have b9:Shared.TypeIs ⟨h₁,g,dr,tk,os⟩ (.ref it) "dict_itemiterator" := ⟨_,bh,rfl⟩;refine ja_ (q7_ ?_);refine ja_ (q3_ b9 ?_);refine ja_ (q3_ b9 ?_);show wpAny _ _ (Builtin.Dict_items.pairFromOwner (.ref it) 6 es[i].key es[i].val) _ _ ⟨h₁,g,dr,tk,os⟩;unfold Builtin.Dict_items.pairFromOwner;refine ja_ (wpAny_newTuple ?_);have bj:IsItemIter (h₁.push {cls:=.type "tuple",data:=.seq #[es[i].key,es[i].val]}) it d (i+1) kvs.length ep ok ov:=jd_ _ bh;generalize bF:h₁.push {cls:=.type "tuple",data:=.seq #[es[i].key,es[i].val]}=aK at bj;have aN:h₁.objs.size=hp.objs.size:=az.1;have dz:it<hp.objs.size:=jl_ aB;have fN:aK.get? hp.objs.size=some {cls:=.type "tuple",data:=.seq #[es[i].key,es[i].val]}:=by rw[<-bF,<-aN];exact jp_ _ rfl
 have cL:aK.objs.size=hp.objs.size+1:=by rw[<-bF,j3_,aN]
 have eI:∀b o,b≠it->hp.get? b=some o->aK.get? b=some o:=fun b o hb e=>by rw[<-bF];exact jd_ _ (az.extBut b o hb e)
 show wpAny _ _ (Builtin.Dict_items.ownedTupleIsFree (.ref it) >>= _) _ _ ⟨aK,g,dr,tk,os⟩;rw[aN];clear bF bh az b9 aN h₁;refine ja_ ?_;unfold Builtin.Dict_items.ownedTupleIsFree;refine ja_ (j9_ bj rfl (x:=.none) rfl (jf_ ?_));simp only[xR_];refine ja_ (j9_ bj rfl (x:=ok) rfl ?_);refine ja_ (j9_ bj rfl (x:=ov) rfl ?_);refine ja_ (qb_ bj (by simp) fun aS bG aA=>?_);replace aA:Heap.SameBut it aK aS:=aA;replace bG:IsItemIter aS it d (i+1) kvs.length ep es[i].key ov:=bG;refine ja_ (qb_ bG (by simp) fun cU fO aX=>?_);replace aX:Heap.SameBut it aS cU:=aX;replace fO:IsItemIter cU it d (i+1) kvs.length ep es[i].key es[i].val:=fO;refine ja_ (qb_ fO (by simp) fun aP fP hs₅=>?_);replace hs₅:Heap.SameBut it cU aP:=hs₅;replace fP:IsItemIterOut aP it d (i+1) kvs.length ep es[i].key es[i].val hp.objs.size:=fP;refine ja_ (qb_ fP (by simp) fun g9 fQ dB=>?_);replace dB:Heap.SameBut it aP g9:=dB;replace fQ:IsItemIterOut g9 it d (i+1) kvs.length ep es[i].key es[i].val hp.objs.size:=fQ;refine ja_ (wpAny_letGo (jf_ (jf_ ⟨_,rfl,jf_ (hQ es[i].key g9 dP (dA ▸ fQ) ?_ ?_ ?_)⟩)))
 ·rw[<-dA];exact dB.extBut _ _ (j7_ dz) (hs₅.extBut _ _ (j7_ dz) (aX.extBut _ _ (j7_ dz) (aA.extBut _ _ (j7_ dz) fN)))
 ·show g9.objs.size=hp.objs.size+1;rw[dB.1,hs₅.1,aX.1,aA.1,cL]
 ·exact fun b o hb e=>dB.extBut b o hb (hs₅.extBut b o hb (aX.extBut b o hb (aA.extBut b o hb (eI b o hb e))))
def ER {it d:Addr} (hh:A.handled=none)(aB:IsItemIter s.heap it d i kvs.length ep ok ov)
  (hm:s.heap.DictV d kvs ep) (hx:kvs[i]?=none)
  (hQ:∀h',Heap.ExtBut it s.heap h'->Q none {s with heap:=h' }):wpAny (model prog w) A (pyNext (.ref it)) Q E s:=by
 obtain⟨od,es,dw,cy,dy,hk,fL,hn⟩:=id hm;have hT:s.TypeIs (.ref it) "dict_itemiterator" := ⟨_,aB,rfl⟩;unfold pyNext;refine ja_ (xe_ (jS_ (name:=Str.ofString "__next__") hT jP_
  (jZ_ jP_ hT qL_ ?_ (qH_ _))))
 refine ja_ (jf_ ?_);refine ja_ ?_;refine ja_ ?_
 first|refine ja_ (j5_ hT (jf_ ?_))|refine ja_ (qj_ hT (jf_ ?_))
 refine ja_ (xz_ aB rfl ?_);have bu:Builtin.Dict_items.ownsTuple "dict_itemiterator"=true:=by decide
 simp only[bu,xR_];show wpAny _ _ (if (Value.ref d==Value.none)=true then _ else _) _ _ s;rw[if_neg (show ¬ ((Value.ref d==Value.none)=true) from jj_)];refine ja_ (jf_ ?_);refine ja_ (q6_ dw dy ?_);have hsz:es.size=kvs.length:=by rw[<-fL.length];simp
 rw[if_neg (by rw[hsz];simp)];refine ja_ (jf_ ?_);refine ja_ (xk_ dw dy ?_);rw[if_neg (by simp)];refine jf_ ?_;have kU:es.size<=i:=by rw[hsz];simpa using hx
 simp only[show ¬ ((i:Int)<0) from by lia,xm_,jw_,zF_ kU];refine ja_ ?_
 first|refine ja_ (j5_ hT (jf_ ?_))|refine ja_ (qj_ hT (jf_ ?_))
 show wpAny _ _ (setField (.ref it) 2 .none >>= _) _ _ s;refine ja_ (xy_ aB rfl (by simp) ?_);show wpAny _ _ (newExc (.type "StopIteration") [] >>= _) _ _ _;refine ja_ ?_;simp only[newExc,newTuple];refine ja_ (jT_ ?_ (by size_fits));refine ja_ (m:=firstArgMember _ _) (wa_ (a:=Value.none) (by first|rfl|(simp only[firstArgMember];rfl)) ?_);refine jT_ ?_ (by size_fits);simp only[raiseNew];refine ja_ (z4_ ?_);rw[show A.in1.handled=none from hh];refine ja_ (jf_ (wpAny_throw ?_));refine ja_ (zX_ (T := "StopIteration") (b:=true) ⟨_,jp_ _ rfl,rfl⟩ isSubtype_stop ?_);exact jf_ (hQ _ (((qO_ ..).extBut.push _).push _))
def Ms {it d a:Addr} (aB:KdxIt s.heap it d i kvs.length ep ok ov a f)(ha:s.heap.get? a=some oa)(dI:a≠it)
  (hm:s.heap.DictV d kvs ep) (hx:kvs[i]?=some (k,v))
  (hQ:∀key h',k=key->KdxIt h' it d (i+1) kvs.length ep ok ov a true ->
   h'.get? s.heap.objs.size=some {cls:=.type "tuple",data:=.seq #[key,v]}->h'.objs.size=s.heap.objs.size+1 ->
   (∀b o,b≠it->s.heap.get? b=some o->h'.get? b=some o)->Q (some (.ref s.heap.objs.size)) {s with heap:=h' }):
  wpAny (model prog w) A (pyNext (.ref it)) Q E s:=by
 obtain⟨hp,g,dr,tk,os⟩:=s;obtain⟨od,es,dw,cy,dy,hk,fL,hn⟩:=id hm;have hT:Shared.TypeIs ⟨hp,g,dr,tk,os⟩ (.ref it) "dict_itemiterator" := ⟨_,aB,rfl⟩;unfold pyNext;refine ja_ (xe_ (jS_ (name:=Str.ofString "__next__") hT jP_
  (jZ_ jP_ hT qL_ ?_ (qH_ _))))
 refine ja_ (jf_ ?_);refine ja_ ?_;refine ja_ ?_
 first|refine ja_ (j5_ hT (jf_ ?_))|refine ja_ (qj_ hT (jf_ ?_))
 refine ja_ (xz_ aB rfl ?_);have bu:Builtin.Dict_items.ownsTuple "dict_itemiterator"=true:=by decide
 simp only[bu,xR_];show wpAny _ _ (if (Value.ref d==Value.none)=true then _ else _) _ _ _;rw[if_neg (show ¬ ((Value.ref d==Value.none)=true) from jj_)];refine ja_ (jf_ ?_);refine ja_ (q6_ dw dy ?_);have hsz:es.size=kvs.length:=by rw[<-fL.length];simp
 rw[if_neg (by rw[hsz];simp)];refine ja_ (jf_ ?_);refine ja_ (xk_ dw dy ?_);rw[if_neg (by simp)];refine jf_ ?_;have aH:i<kvs.length:=by
  rcases qV i kvs.length with h|h
  ·exact h
  ·simp[jy_ h]at hx
 have fM:i<es.size:=by rw[hsz];exact aH
 obtain⟨dP,dA⟩:=fL.get? (e:=es[i]) (by simp[fM]) hx;simp only[show ¬ ((i:Int)<0) from by lia,xm_,jw_,x5_ fM];refine ja_ ?_
 first|refine ja_ (j5_ hT (jf_ ?_))|refine ja_ (qj_ hT (jf_ ?_))
 refine ja_ (q3_ hT ?_);show wpAny _ _ (setField (.ref it) 3 (rawInt ((i:Int)+1)) >>= _) _ _ ⟨hp,g,dr,tk,os⟩;refine ja_ (qb_ aB (by simp) fun h₁ bh az=>?_);replace az:Heap.SameBut it hp h₁:=az;replace bh:KdxIt h₁ it d (i+1) kvs.length ep ok ov a f:=by
  have e:((i+1:Nat):Int)=(i:Int)+1:=by lia
  unfold KdxIt;rw[e];simpa [rawInt] using bh
 have b9:Shared.TypeIs ⟨h₁,g,dr,tk,os⟩ (.ref it) "dict_itemiterator" := ⟨_,bh,rfl⟩;refine ja_ (q7_ ?_);refine ja_ (q3_ b9 ?_);refine ja_ (q3_ b9 ?_);show wpAny _ _ (Builtin.Dict_items.pairFromOwner (.ref it) 6 es[i].key es[i].val) _ _ ⟨h₁,g,dr,tk,os⟩;unfold Builtin.Dict_items.pairFromOwner;refine ja_ (wpAny_newTuple ?_);have bj:KdxIt (h₁.push {cls:=.type "tuple",data:=.seq #[es[i].key,es[i].val]}) it d (i+1) kvs.length ep ok ov a f:=jd_ _ bh;generalize bF:h₁.push {cls:=.type "tuple",data:=.seq #[es[i].key,es[i].val]}=aK at bj;have aN:h₁.objs.size=hp.objs.size:=az.1;have dz:it<hp.objs.size:=jl_ aB;have fN:aK.get? hp.objs.size=some {cls:=.type "tuple",data:=.seq #[es[i].key,es[i].val]}:=by rw[<-bF,<-aN];exact jp_ _ rfl
 have cL:aK.objs.size=hp.objs.size+1:=by rw[<-bF,j3_,aN]
 have eI:∀b o,b≠it->hp.get? b=some o->aK.get? b=some o:=fun b o hb e=>by rw[<-bF];exact jd_ _ (az.extBut b o hb e)
 show wpAny _ _ (Builtin.Dict_items.ownedTupleIsFree (.ref it) >>= _) _ _ ⟨aK,g,dr,tk,os⟩;rw[aN];clear bF bh az b9 aN h₁;have ha₂:aK.get? a=some oa:=eI a oa dI ha;refine ja_ ?_;unfold Builtin.Dict_items.ownedTupleIsFree;refine ja_ (j9_ bj rfl (x:=rawInt a) rfl ?_);show wpAny _ _ (loadIfAlive ((a:Int).toNat) >>= _) _ _ _;rw[jw_];refine ja_ (kdx_alive ha₂ ?_);simp only[Option.isNone_some,qI_,xm_];refine ja_ (j9_ bj rfl (x:=.bool f) rfl ?_);have fin:∀aS:Heap,KdxIt aS it d (i+1) kvs.length ep ok ov a true->Heap.SameBut it aK aS->Q (some (.ref hp.objs.size)) ⟨aS,g,dr,tk,os⟩:=fun aS bG aA=>
  hQ es[i].key aS dP bG (by rw[<-dA];exact aA.extBut _ _ (j7_ dz) fN) (by show aS.objs.size=hp.objs.size+1;rw[aA.1,cL]) fun b o hb e=>aA.extBut b o hb (eI b o hb e)
 cases f with
 |true=>
  rw[if_neg (show ¬ ((Value.bool true != Value.bool true)=true) from jj_)];refine jf_ ?_;simp only[qI_,xm_];exact jf_ (jf_ ⟨_,rfl,jf_ (fin aK bj (Heap.SameBut.refl _ _))⟩)
 |false=>
  rw[if_pos (show (Value.bool false != Value.bool true)=true from rfl)];refine ja_ (qb_ bj (by simp) fun aS bG aA=>?_);replace aA:Heap.SameBut it aK aS:=aA;replace bG:KdxIt aS it d (i+1) kvs.length ep ok ov a true:=bG;refine jf_ ?_;simp only[qI_,xm_];exact jf_ (jf_ ⟨_,rfl,jf_ (fin aS bG aA)⟩)
def Ny {it d a:Addr} (hh:A.handled=none)(aB:KdxIt s.heap it d i kvs.length ep ok ov a f)
  (hm:s.heap.DictV d kvs ep) (hx:kvs[i]?=none)
  (hQ:∀h',Heap.ExtBut it s.heap h'->Q none {s with heap:=h' }):wpAny (model prog w) A (pyNext (.ref it)) Q E s:=by
 obtain⟨od,es,dw,cy,dy,hk,fL,hn⟩:=id hm;have hT:s.TypeIs (.ref it) "dict_itemiterator" := ⟨_,aB,rfl⟩;unfold pyNext;refine ja_ (xe_ (jS_ (name:=Str.ofString "__next__") hT jP_
  (jZ_ jP_ hT qL_ ?_ (qH_ _))))
 refine ja_ (jf_ ?_);refine ja_ ?_;refine ja_ ?_
 first|refine ja_ (j5_ hT (jf_ ?_))|refine ja_ (qj_ hT (jf_ ?_))
 refine ja_ (xz_ aB rfl ?_);have bu:Builtin.Dict_items.ownsTuple "dict_itemiterator"=true:=by decide
 simp only[bu,xR_];show wpAny _ _ (if (Value.ref d==Value.none)=true then _ else _) _ _ s;rw[if_neg (show ¬ ((Value.ref d==Value.none)=true) from jj_)];refine ja_ (jf_ ?_);refine ja_ (q6_ dw dy ?_);have hsz:es.size=kvs.length:=by rw[<-fL.length];simp
 rw[if_neg (by rw[hsz];simp)];refine ja_ (jf_ ?_);refine ja_ (xk_ dw dy ?_);rw[if_neg (by simp)];refine jf_ ?_;have kU:es.size<=i:=by rw[hsz];simpa using hx
 simp only[show ¬ ((i:Int)<0) from by lia,xm_,jw_,zF_ kU];refine ja_ ?_
 first|refine ja_ (j5_ hT (jf_ ?_))|refine ja_ (qj_ hT (jf_ ?_))
 show wpAny _ _ (setField (.ref it) 2 .none >>= _) _ _ s;refine ja_ (xy_ aB rfl (by simp) ?_);show wpAny _ _ (newExc (.type "StopIteration") [] >>= _) _ _ _;refine ja_ ?_;simp only[newExc,newTuple];refine ja_ (jT_ ?_ (by size_fits));refine ja_ (m:=firstArgMember _ _) (wa_ (a:=Value.none) (by first|rfl|(simp only[firstArgMember];rfl)) ?_);refine jT_ ?_ (by size_fits);simp only[raiseNew];refine ja_ (z4_ ?_);rw[show A.in1.handled=none from hh];refine ja_ (jf_ (wpAny_throw ?_));refine ja_ (zX_ (T := "StopIteration") (b:=true) ⟨_,jp_ _ rfl,rfl⟩ isSubtype_stop ?_);exact jf_ (hQ _ (((qO_ ..).extBut.push _).push _))
def RJ {it d S:Addr} (cH:KdxSt s.heap it d S i kvs.length ep)(hS:S<s.heap.objs.size)
  (hm:s.heap.DictV d kvs ep) (hx:kvs[i]?=some (k,v))
  (hQ:∀key h',k=key->KdxSt h' it d S (i+1) kvs.length ep->h'.get? s.heap.objs.size=some {cls:=.type "tuple",data:=.seq #[key,v]}->h'.objs.size=s.heap.objs.size+1 ->
   (∀b o,b≠it->s.heap.get? b=some o->h'.get? b=some o)->Q (some (.ref s.heap.objs.size)) {s with heap:=h' }):
  wpAny (model prog w) A (pyNext (.ref it)) Q E s:=by
 rcases cH with ⟨rfl,ok,ov,aB⟩|⟨ok,ov,a,f,oa,aB,ha,dI,haS⟩
 ·exact Et aB hm hx fun key h' hk bE ht hz bQ=>hQ key h' hk (.inr ⟨key,v,_,false,_,bE,ht,j7_ (jl_ aB),j7_ hS⟩) ht hz bQ
 ·exact Ms aB ha dI hm hx fun key h' hk bE ht hz bQ=>hQ key h' hk (.inr ⟨ok,ov,a,true,oa,bE,bQ a oa dI ha,dI,haS⟩) ht hz bQ
def RK {it d S:Addr} (hh:A.handled=none)(cH:KdxSt s.heap it d S i kvs.length ep)(hm:s.heap.DictV d kvs ep)(hx:kvs[i]?=none)
  (hQ:∀h',Heap.ExtBut it s.heap h'->Q none {s with heap:=h' }):wpAny (model prog w) A (pyNext (.ref it)) Q E s:=by
 rcases cH with ⟨rfl,ok,ov,aB⟩|⟨ok,ov,a,f,oa,aB,_,_,_⟩
 ·exact ER hh aB hm hx hQ
 ·exact Ny hh aB hm hx hQ
structure KdxGV (kvs:List (Value×Value))(lo:Addr)(h:Heap)(as:List Addr):Prop where
 rise:as.Pairwise (· < ·)
 above:∀a∈as,lo<a
 pairs:∀(j:Nat) (a:Addr),as[j]?=some a->∃key k x,kvs[j]?=some (k,x)/\k=key/\h.get? a=some {cls:=.type "tuple",data:=.seq #[key,x]}
def KdxGV.there {lo:Addr} (g:KdxGV kvs lo h as) (ha:a∈as):a<h.objs.size:=by
 obtain⟨j,hj⟩:=qq_.mp ha;obtain⟨_,_,_,_,_,e⟩:=g.pairs j a hj;exact jl_ e
end
section
variable {prog:Program} {w:World} {A:Around} {s:Shared} {R:Result->Shared->Prop} {kvs:List (Value×Value)} {ep:Nat}
def RL {S I d:Addr}(hh:A.handled=none)(kY:S<I)(jk:d≠S)(hId:d≠I)(hn:kvs.length<=sizeLine)(res:Value){h₁:Heap}
  (hR:∀h' tk acc c as,(∀b o,b≠S->b≠I->h₁.get? b=some o->h'.get? b=some o)->h'.get? S=some {cls:=.type "list",dict:=none,data:=.seq acc c,slots := #[]}->as.length=kvs.length->KdxGV kvs I h' as ->
   acc.toList=as.map Value.ref->R (.ok (.ret res)) {s with heap:=h',toks:=tk}):
  ∀(k i:Nat) (h:Heap) (tk c:Nat) (acc:Array Value) (as:List Addr),kvs.length-i=k->i<=kvs.length->KdxSt h I d S i kvs.length ep->h.DictV d kvs ep->(∀b o,b≠S->b≠I->h₁.get? b=some o->h.get? b=some o) ->
   h.get? S=some {cls:=.type "list",dict:=none,data:=.seq acc c,slots := #[]}->acc.toList=as.map Value.ref->as.length=i->KdxGV kvs I h as->I<h.objs.size ->
   codeAny (model prog w) A (.builtin "list.extend.loop" ⟨[.ref S,.ref I,res],[]⟩) R {s with heap:=h,toks:=tk}:=by
 have aG:S≠I:=jG_ kY;intro k
 induction k with
 |zero=>
  intro i h tk c acc as hk hi cH hD bQ hS aU cM hG nC;have bP:i=kvs.length:=by lia
  refine zw_ pK ?_;rw[x3_ q8_ _];show wpAny _ A.in1 (pyNext (.ref I) >>= _) _ _ _;refine ja_ (RK (s:={s with heap:=h,toks:=tk}) (A:=A.in1) hh cH hD (jy_ s!"") fun h' he=>?_);refine jf_ (hR h' tk acc c as (fun b o h1 h2 e=>he b o h2 (bQ b o h1 h2 e)) (he S _ aG hS) s!"" ⟨hG.rise,hG.above,fun j a hj=>?_⟩ aU);obtain⟨key,kk,x,e1,e2,e3⟩:=hG.pairs j a hj;exact⟨key,kk,x,e1,e2,he a _ (j7_ (hG.above a (jo_ hj))) e3⟩
 |succ k ih=>
  intro i h tk c acc as hk hi cH hD bQ hS aU cM hG nC;have aH:i<kvs.length:=by lia
  obtain⟨⟨kk,x⟩,hx⟩:∃p,kvs[i]?=some p:=⟨kvs[i],je_ aH⟩;have hsz:acc.size=i:=by rw[<-qt_,aU,jb_,cM]
  refine zw_ pK ?_;rw[x3_ q8_ _];show wpAny _ A.in1 (pyNext (.ref I) >>= _) _ _ _;refine ja_ (RJ (s:={s with heap:=h,toks:=tk}) (S:=S) cH (jl_ hS) hD hx fun key h' dP fI ht hz kZ=>?_);dsimp only at ht hz kZ ⊢;have iM:=kZ S _ aG hS;have up:∀b o,b≠S->h'.get? b=some o->(h'.update S (Obj.mapSeq (·.push (Value.ref h.objs.size)))).get? b=some o:=fun b o hb e=>(ql_ _ _ (qp_ hb)).trans e;have hSl:S<h.objs.size:=jl_ hS;show wpAny _ A.in1 (updateSeq S (·.push (Value.ref h.objs.size)) >>= _) _ _ _;refine ja_ ?_;refine wb_ iM rfl (jf_ ⟨z5_ q8_ _,ih (i+1) _ tk _ (acc.push (Value.ref h.objs.size)) (as++[h.objs.size]) s!"" aH (fI.keep up (qp_ aG)) (hD.at' fun o e=>up d o jk (kZ d o hId e))
   (fun b o h1 h2 e=>up b o h1 (kZ b o h2 (bQ b o h1 h2 e))) (qS_ _ iM rfl) (by rw[Array.toList_push,aU,jm_];rfl) (by rw[js_,cM];rfl) ⟨?_,?_,?_⟩ ?_⟩) (by rw[hsz];lia) (by show (acc.push (Value.ref h.objs.size)).size<=sizeLine+1;rw[Array.size_push,hsz];lia)
  ·refine x4_.mpr ⟨hG.rise,xG_ _ _,fun a ha b hb=>?_⟩;rw[jk_.mp hb];exact hG.there ha
  ·intro a ha;rcases jJ_.mp ha with ha|ha
   ·exact hG.above a ha
   ·rw[jk_.mp ha];exact nC
  ·intro j b hj;rcases qW j as.length with h1|h1|h1
   ·rw[jx_ h1]at hj;obtain⟨key',k',x',e1,e2,e3⟩:=hG.pairs j b hj;have hb:=hG.above b (jo_ hj);exact⟨key',k',x',e1,e2,up b _ (j7_ (qU kY hb)) (kZ b _ (j7_ hb) e3)⟩
   ·subst h1;have hb:h.objs.size=b:=by simpa using hj
    subst hb;exact⟨key,kk,x,by rw[cM];exact hx,dP,up _ _ (j7_ hSl) ht⟩
   ·have hnone:(as++[h.objs.size])[j]?=none:=jy_ (by rw[js_,jW_];lia);rw[hnone]at hj;cases hj
  ·have e:(h'.update S (Obj.mapSeq (·.push (Value.ref h.objs.size)))).get? h.objs.size=_:=up _ _ (j7_ hSl) ht;exact qU nC (jl_ e)
end
section
variable {prog:Program} {w:World} {A:Around} {E:Value->Shared->Prop} {s:Shared} {r d:Addr} {kvs:List (Value×Value)} {ep:Nat}
def Ow (hh:A.handled=none)(hv:s.heap.IsItemsView r d)(hm:s.heap.DictV d kvs ep)(S:Addr)(mh:S≠r)(jk:d≠S)(res:Value)(c₀:Nat)(hS:s.heap.get? S=some {cls:=.type "list",data:=.seq #[] c₀})
  (hR:∀h' tk acc c as,(∀b o,b≠S->s.heap.get? b=some o->h'.get? b=some o)->h'.get? S=some {cls:=.type "list",dict:=none,data:=.seq acc c,slots := #[]}->as.length=kvs.length->KdxGV kvs s.heap.objs.size h' as ->
   acc.toList=as.map Value.ref->R (.ok (.ret res)) {s with heap:=h',toks:=tk}) (hn:kvs.length<=sizeLine):
  wpAny (model prog w) A.in1 (Builtin.List.listExtendWith (.ref S) (.ref r) res)
   (fun fin s'=>match fin with | .done f=>R (.ok f) s' | .again c'=>c'.quiet=true/\codeAny (model prog w) A c' R s') (fun e s'=>R (.error e) s') s:=by
 have kY:S<s.heap.objs.size:=jl_ hS;have hdI:d<s.heap.objs.size:=hm.lt_size;have key:∀(h:Heap) (jl tk:Nat),(∀b o,b≠S->(s.heap.push {cls:=.type "dict_itemiterator",data:=.fields #[.none,.bool false,.ref d,.int 0 0,.int kvs.length 0,.int ep 0,.none,.none]}).get? b=some o->h.get? b=some o) ->
   h.get? S=some {cls:=.type "list",data:=.seq #[] jl}->codeAny (model prog w) A (.builtin "list.extend.loop" ⟨[.ref S,.ref s.heap.objs.size,res],[]⟩) R {s with heap:=h,toks:=tk}:=by
  intro h jl tk hk dC;have hI:=hk s.heap.objs.size _ (j7_ kY) (jp_ _ rfl);refine RL (kvs:=kvs) (ep:=ep) (s:=s) (h₁:=s.heap) hh kY jk (jG_ hdI) hn res (fun h' mj acc c as eJ iM hl hG aU=>hR h' mj acc c as (fun b o hb e=>eJ b o hb (jG_ (jl_ e)) e) iM hl hG aU)
   kvs.length 0 h tk jl #[] [] (zj_ _) (qc_ _) (.inl ⟨rfl,.none,.none,hI⟩) (hm.at' fun o e=>hk d o jk (jd_ _ e)) (fun b o hb _ e=>hk b o hb (jd_ _ e)) dC rfl rfl
   ⟨List.Pairwise.nil,(fun _ ha=>nomatch ha),(fun j a hj=>by simp at hj)⟩ (jl_ hI)
 unfold Builtin.List.listExtendWith;refine ja_ (zM_ (T := "dict_items") hv.typeIs ?_);have h1:Builtin.List.listSameRef (.ref S) (.ref r)=false:=by simp[Builtin.List.listSameRef,mh]
 have h2:(Value.type "dict_items" == Value.type "list")=false:=by decide
 have h3:(Value.type "dict_items" == Value.type "tuple")=false:=by decide
 simp only[h1,h2,h3,Bool.or_false,qI_,xm_];refine ja_ (Hk hv hm ?_);have dC:=jd_ {cls:=.type "dict_itemiterator",data:=.fields #[.none,.bool false,.ref d,.int 0 0,.int kvs.length 0,.int ep 0,.none,.none]} hS;refine ja_ (q7_ (kdx_hint (let ⟨o,ho,hc,_⟩:=hv;⟨o,jd_ _ ho,hc⟩) ?_));refine wpAny_ite_split (fun _=>?_) (fun _=>jf_ ⟨z5_ q8_ _,key _ c₀ _ (fun b o _ e=>e) dC⟩);refine ja_ (z6_ ?_);refine ja_ ?_;show wpAny _ _ (updateSeq S (·.push .none) >>= fun _=>updateSeq S (·.pop)) _ _ _;refine ja_ (wb_ dC rfl ?_);have dD:=qS_ (Obj.mapSeq (·.push Value.none)) dC rfl;refine wb_ (hz:=by seq_fits) dD rfl ?_;have hS₃:=qS_ (Obj.mapSeq (·.pop)) dD rfl;refine jf_ ⟨z5_ q8_ _,key _ _ _ (fun b o hb e=>?_) hS₃⟩;exact (ql_ _ _ (qp_ hb)).trans ((ql_ _ _ (qp_ hb)).trans e)
def KdxGV.low {lo lo':Addr} (g:KdxGV kvs lo h as)(hl:lo'<=lo):KdxGV kvs lo' h as:=⟨g.rise,fun a ha=>qI hl (g.above a ha),g.pairs⟩
def RM (hh:A.handled=none)(hv:s.heap.IsItemsView r d)(hm:s.heap.DictV d kvs ep)(S:Addr)(mh:S≠r)(jk:d≠S)(hS:s.heap.get? S=some {cls:=.type "list",data:=.seq #[]})
  (hR:∀h' tk acc c as,(∀b o,b≠S->s.heap.get? b=some o->h'.get? b=some o)->h'.get? S=some {cls:=.type "list",dict:=none,data:=.seq acc c,slots := #[]}->as.length=kvs.length->KdxGV kvs S h' as ->
   acc.toList=as.map Value.ref->R (.ok (.ret .none)) {s with heap:=h',toks:=tk}) (hn:kvs.length<=sizeLine):
  wpAny (model prog w) A.in1 (Builtin.«list.__init__» ⟨[.ref S,.ref r],[]⟩)
   (fun fin s'=>match fin with | .done f=>R (.ok f) s' | .again c'=>c'.quiet=true/\codeAny (model prog w) A c' R s') (fun e s'=>R (.error e) s') s:=by
 show wpAny _ _ (do let b5 <- Builtin.List.listItems (.ref S);Builtin.List.listUpdate (.ref S) (fun _ => #[]);letGo b5.toList.reverse;Builtin.List.listExtendWith (.ref S) (.ref r) .none) _ _ s;refine ja_ ?_;unfold Builtin.List.listItems;refine ja_ (qK_ hS rfl (jf_ ?_));show wpAny _ _ (updateSeq S (fun _ => #[]) >>= fun _=>letGo (#[]:Array Value).toList.reverse >>= fun _=>Builtin.List.listExtendWith (.ref S) (.ref r) .none) _ _ s;refine ja_ (wb_ hS rfl ?_);have dD:=qS_ (Obj.mapSeq (fun _=>(#[]:Array Value))) hS rfl;have nE:∀b o,b≠S->s.heap.get? b=some o->(s.heap.update S (Obj.mapSeq (fun _=>(#[]:Array Value)))).get? b=some o:=
  fun b o hb e=>(ql_ _ _ (qp_ hb)).trans e
 refine ja_ (wpAny_letGo ?_);refine Ow (kvs:=kvs) (ep:=ep) hh (let ⟨o,ho,x⟩:=hv;⟨o,nE r o mh.symm ho,x⟩) (hm.at' fun o e=>nE d o jk e) S mh jk .none _ dD (fun h' tk acc c as hk iM hl hG aU=>?_) hn;exact hR h' tk acc c as (fun b o hb e=>hk b o hb (nE b o hb e)) iM hl (hG.low (xP_ (jl_ dD))) aU
def kdx_callV (hh:A.handled=none)(hv:s.heap.IsItemsView r d)(hm:s.heap.DictV d kvs ep)(hn:kvs.length<=sizeLine)
  (hQ:∀h' tk acc c as,(∀b o,s.heap.get? b=some o->h'.get? b=some o)->h'.get? s.heap.objs.size=some {cls:=.type "list",dict:=none,data:=.seq acc c,slots := #[]}->as.length=kvs.length->KdxGV kvs s.heap.objs.size h' as ->
   acc.toList=as.map Value.ref->Q (.ref s.heap.objs.size) {s with heap:=h',toks:=tk}):
  wpAny (model prog w) A (call (.type "list") [.ref r]) Q E s:=by
 refine callType_codes (Q₁:=fun obj s₁=>obj=.ref s.heap.objs.size/\s₁={s with heap:=s.heap.push {cls:=.type "list",data:=.seq #[]} }) tM (sy _) sC
  (code_list_new _ ⟨rfl,rfl⟩) fun obj s₁ h₁=>?_
 obtain⟨rfl,rfl⟩:=h₁;have hS:(s.heap.push {cls:=.type "list",data:=.seq #[]}).get? s.heap.objs.size=some {cls:=.type "list",data:=.seq #[]}:=jp_ _ rfl;have hr:r<s.heap.objs.size:=let ⟨_,ho,_⟩:=hv;jl_ ho;have hd:d<s.heap.objs.size:=hm.lt_size;refine⟨⟨_,hS,rfl⟩,sr _ _,RM (kvs:=kvs) (ep:=ep) (A:=A.in1) hh (let ⟨o,ho,x⟩:=hv;⟨o,jd_ _ ho,x⟩) (hm.push _) _ (j7_ hr) (jG_ hd) hS (fun h' tk acc c as hk iM hl hG aU=>?_) hn⟩;exact⟨rfl,hQ h' tk acc c as (fun b o e=>hk b o (jG_ (jl_ e)) (jd_ _ e)) iM hl hG aU⟩
end
end PySem.W
namespace L2
open PySem PySem.Spec PyProof.Rows
def Pq (ok:HOk P w H h)(e:Rd H a (.dT kvs)):
  ∃o es ep,h.get? a=some o/\o.ExactDict/\o.data=.dict es ep/\es.size=kvs.length/\(a==sysModules)=false/\kvs.length<=sizeLine /\
   ∀(i:Nat) (k:List Key) (v:V),kvs[i]?=some (k,v)->∃b en,es[i]?=some en/\en.key=.ref b/\H b=some (.tup (k.map kV))/\RelV v en.val:=by
 obtain⟨z,y,xs,r,o,es,ep,h1,h2,h3,h4,h5⟩:=(show AY P w H h a (.dT kvs) from Tq ok e);have hl:=zn_ r;have hs:es.size=kvs.length:=by rw[<-qt_,h4,jb_,hl]
 refine⟨o,es,ep,h1,h2,h3,hs,y,z,fun i k v hk=>?_⟩;obtain⟨q,hq,e1,e2,e3⟩:=GA r hk;refine⟨q.2.1,entryOfKey (tupleKind (AX P w)) q,?_,rfl,e2,e3⟩;rw[<-qQ_,h4,ji_,hq];rfl
noncomputable def Ox (v d:Addr):HO:=.ext (fun h=>h.IsItemsView v d)
noncomputable def Vp (td:TE):TE:=fun σ H Q=>td σ H fun x H1=>∃d kvs,x=.ref d/\Rd H1 d (.dT kvs)/\∀v,H1 v=none->Q (.ref v) (upd H1 v (Ox v d))
theorem RO : Vp td σ H Q=td σ H fun x H1=>∃d kvs,x=.ref d/\Rd H1 d (.dT kvs)/\∀v,H1 v=none->Q (.ref v) (upd H1 v (Ox v d)):=rfl
def TQ (ho:PE X o td)(aW:attributeBase o "items" X.env (eval o X.env)=eval o X.env:=by rfl)(dj:(aJ.endLine==aM.line)=true:=by rfl):PE X (.Call (.Attribute o "items" aJ) [] [] aM) (Vp td):=by
 intro aa s σ H Q I h;refine wpAny_Call_method0_late aW dj (thn (ho aa s σ H _ I h) fun v s1 ⟨x,H1,I1,r1,d,kvs,ex,hd,q⟩=>?_);subst ex;obtain rfl:v=Value.ref d:=r1;obtain⟨od,es,ep,g1,g2,g3,g4,g5,g6,g7⟩:=Pq I1.hok hd;have hT:s1.TypeIs (.ref d) "dict" := ⟨od,g1,g2.1⟩;refine⟨"dict","dict.items",xF_,xH_,pU,hT,fun b e=>?_,xn_ rfl (qy ?_)⟩
 ·cases e;exact⟨od,g1,g2.2.1⟩
 refine jZ_ xH_ hT pP (?_:wpAny _ _ (Builtin.«dict.items» _) _ _ s1) (pL _);unfold Builtin.«dict.items»;refine ja_ ?_;unfold Builtin.Dict.noArgs;refine ja_ (xU_ hT ?_);show wpAny _ _ (pure d) _ _ s1;refine jf_ ?_;show wpAny _ _ (Builtin.Dict.showsAll d >>= _) _ _ s1;unfold Builtin.Dict.showsAll;rw[if_neg (by rw[g5];exact jj_)];refine ja_ (jf_ ?_);refine ja_ (jT_ (jf_ ⟨_,rfl,?_⟩));have new:AY X.prog X.w (upd H1 s1.heap.objs.size (Ox s1.heap.objs.size d)) (s1.heap.push {cls:=.type "dict_items",data:=.fields #[.ref d]}) s1.heap.objs.size (Ox s1.heap.objs.size d):=
  ⟨⟨_,jp_ _ rfl,rfl,rfl⟩,⟨_,jp_ _ rfl⟩,fun h1 h2 ⟨o,e,r⟩ k=>⟨o,k o e,r⟩⟩
 exact⟨.ref _,_,I1.laid (t':=s1.toks) (fun b u e=>jd_ _ e) (jh_ _) new,rfl,q _ (I1.hok.fresh (jh_ _))⟩
def Pt {P:Program}{w:World}{fs:List Addr}{H0:Hp}{h0 h':Heap}:∀(as:List (Addr×List V)),(as.map (·.1)).Nodup ->
  (∀p∈as,h0.objs.size<=p.1/\p.2.length<=sizeLine/\∃ah:List Value,Vals p.2 ah/\IsTup h' p.1 ah.toArray)->∀H,Un fs [] H0 H h0 h'->HOk P w H h'->(∀p∈as,H p.1=none) ->
  ∃H2,Un fs [] H0 H2 h0 h'/\HOk P w H2 h'/\Same H H2/\(∀p∈as,H2 p.1=some (.tup p.2))/\∀b,b∉as.map (·.1)->H2 b=H b
 |[],_,_,H,u,k,_=>⟨H,u,k,Same.refl _,(fun p hp=>by simp at hp),fun b _=>rfl⟩
 |p::r,nd,hp,H,u,k,hn=>by
  rw[jR_,q9_]at nd;obtain⟨h1,h2,ah,h3,h4⟩:=hp p jA_;have nF:=hn p jA_;have k2:HOk P w (upd H p.1 (.tup p.2)) h':=k.track nF ⟨h2,ah,h3,h4⟩;obtain⟨H2,e1,e2,e3,e4,e5⟩:=Pt r nd.2 (fun q hq=>hp q (jq_ _ hq)) (upd H p.1 (.tup p.2)) (u.track h1 nF) k2 (fun q hq=>by
   have aG:q.1≠p.1:=fun z=>nd.1 (by rw[<-z];exact zc_ hq);rw[Aj aG];exact hn q (jq_ _ hq))
  refine⟨H2,e1,e2,(Same.new nF).trans e3,fun q hq=>?_,fun b hb=>?_⟩
  ·rcases jE_.mp hq with rfl|hq
   ·exact e3 _ _ Ab
   ·exact e4 q hq
  ·rw[jR_,jE_,not_or]at hb;rw[e5 b hb.2,Aj hb.1]
def Vals.two' (h1:RelV x u)(h2:RelV y v):Vals [x,y] [u,v]:=.cons h1 (.cons h2 .nil)
def KY (hc:X.calm=true):Er X (.type "list") (fun xs H Q=>∃v d kvs,xs=[.ref v]/\H v=some (Ox v d)/\Rd H d (.dT kvs)/\∀l rs H',Same H H'->H' l=none->rs.length=kvs.length ->
  (∀(i:Nat) (k:List Key) (x:V),kvs[i]?=some (k,x)->∃t b,rs[i]?=some (V.ref t)/\H' t=some (.tup [.ref b,x])/\H b=some (.tup (k.map kV)))->Q (.ref l) (upd H' l (.lst rs))):=by
 intro aa s σ H xs us Q I r h;obtain⟨p,d,kvs,rfl,hv,hp,q⟩:=h;obtain⟨u,rfl,rx⟩:=vals1 r;cases rx;obtain⟨o,es,ep,g1,g2,g3,g4,g5,g6,g7⟩:=Pq I.hok hp;obtain⟨hview,_⟩:=(show AY X.prog X.w H s.heap p (Ox p d) from I.hok p _ hv);refine PySem.W.kdx_callV (ep:=ep) (kvs:=es.toList.map fun e:DictEntry=>(e.key,e.val)) (I.ok.hd hc) hview ⟨o,es,g1,g2,g3,oZ,show PySem.W.PairsV es.toList (es.toList.map fun e=>(e.key,e.val)) from rfl,oZ⟩ (by rw[jb_,qt_,g4];exact g6) fun h' tk acc c as hk hS hl hG aU=>?_;have cM:as.length=kvs.length:=by rw[hl,jb_,qt_,g4]
 let f:DictEntry->V:=fun e=>match e.key with | .ref b=>V.ref b|_=>.non
 let cs:List (List V):=(es.toList.zip kvs).map fun q=>[f q.1,q.2.2]
 have bC:cs.length=kvs.length:=by simp[cs,g4]
 have k9:∀(i:Nat) (k:List Key) (v:V) (b:Addr) (en:DictEntry),kvs[i]?=some (k,v)->es[i]?=some en->en.key=.ref b->cs[i]?=some [V.ref b,v]:=fun i k v b en h1 h2 h3=>by
  simp only[cs];rw[ji_,show (es.toList.zip kvs)[i]?=some (en,(k,v)) from x6_.mpr ⟨by rw[qQ_];exact h2,h1⟩];show some [f en,v]=_;simp only[f,h3]
 have hz:(as.zip cs).map (·.1)=as:=by rw[List.map_fst_zip];rw[cM,bC];exact jh_ _
 have u0:Un X.fs [] H H s.heap h':=Un.kept hk;have k0:HOk X.prog X.w H h':=I.hok.kept hk;have cW:∀p∈as.zip cs,∃i:Nat,as[i]?=some p.1/\cs[i]?=some p.2:=fun p hp=>by
  obtain⟨i,hi⟩:=qq_.mp hp;exact⟨i,x6_.mp hi⟩
 obtain⟨H2,e1,e2,e3,e4,e5⟩:=Pt (as.zip cs) (by rw[hz];exact hG.rise.imp fun a=>jG_ a) (fun p hp=>by
  obtain⟨i,h1,h2⟩:=cW p hp;have hi:i<kvs.length:=by rw[<-cM];exact (jg_.mp h1).1
  obtain⟨b,en,a1,a2,a3,a4⟩:=g7 i kvs[i].1 kvs[i].2 (by simp[hi]);have hc:=k9 i _ _ b en (show kvs[i]?=some (kvs[i].1,kvs[i].2) by simp[hi]) a1 a2;rw[hc]at h2;have cK:=ju_ h2;obtain⟨key,k,x,b1,b2,b3⟩:=hG.pairs i p.1 h1;rw[ji_,qQ_,a1]at b1;simp only[zu_,wm_,Prod.mk.injEq]at b1;obtain⟨b1,b1'⟩:=b1;refine⟨xP_ (hG.above _ (jo_ h1)),by rw[<-cK];have:=Al;simp;lia,[key,x],?_,⟨_,b3,rfl,0,rfl⟩⟩;rw[<-cK,<-b2,<-b1,<-b1',a2];exact Vals.two' rfl a4) H u0 k0 (fun p hp=>by
  obtain⟨i,h1,h2⟩:=cW p hp;exact I.hok.fresh (xP_ (hG.above _ (jo_ h1))))
 have hD:H2 s.heap.objs.size=none:=by
  rw[e5 _ (by rw[hz];exact fun z=>absurd (hG.above _ z) (j0_ _))];exact I.hok.fresh (jh_ _)
 have hv:Vals (as.map V.ref) acc.toList:=by
  rw[aU];clear hS hl hG aU cM hz cW e4 e5
  induction as with
  |nil=>exact .nil
  |cons a r ih=>exact .cons rfl ih
 have new:AY X.prog X.w (upd H2 s.heap.objs.size (.lst (as.map V.ref))) h' s.heap.objs.size (.lst (as.map V.ref)):=⟨by rw[jb_,cM];exact g6,acc.toList,c,hv,by simpa using hS⟩;refine⟨.ref _,_,I.un (t':=tk) (e1.track (jh_ _) hD) (e2.track hD new),rfl,q _ _ H2 e3 hD (by rw[jb_,cM]) fun i k x nG=>?_⟩;obtain⟨b,en,a1,a2,a3,a4⟩:=g7 i k x nG;have hi:i<as.length:=by rw[cM];exact (jg_.mp nG).1
 have dI:as[i]?=some as[i]:=by simp[hi]
 refine⟨as[i],b,by rw[ji_,dI];rfl,?_,a3⟩;exact e4 (as[i],[V.ref b,x]) (qq_.mpr ⟨i,x6_.mpr ⟨dI,k9 i k x b en nG a1 a2⟩⟩)
section
variable {K:α3} {ta tv td ty tx:TE} {t:TA} {f m:Str} {σ:St} {H:Hp} {Q:VK} {D:Ends} {C:Addr} {sp:Sp} {aV:List V} {E:XK}
theorem X9:tFld K ta f σ H Q=ta σ H fun x H1=>∃a C dx fs v,x=.ref a/\H1 a=some (.ins C dx fs)/\Cls K C/\BN K C f/\fs.lookup f=some v/\Q v H1:=rfl
theorem Vq:sFld K ta tv f D σ H=tv σ H fun y H1=>ta σ H1 fun x H2=>∃a C dx fs,x=.ref a/\H2 a=some (.ins C dx fs)/\Cls K C/\BN K C f/\fs.length<1000/\D.nx σ (upd H2 a (.ins C dx (putF f y fs))):=rfl
theorem Vr:V4 C m sp aV E ta t σ H Q=ta σ H fun x H1=>∃a dx fs,x=.ref a/\H1 a=some (.ins C dx fs)/\fs.lookup m=none/\t σ H1 fun vs H2=>sp (x::(vs++aV)) H2 Q E:=rfl
theorem Vs:Xq C sp aV E t σ H Q=t σ H fun vs H1=>∀x dx,H1 x=none->H1 dx=none->dx≠x->sp (.ref x::(vs++aV)) (upd (upd H1 dx (.own x)) x (.ins C dx [])) (fun v H2=>v=.non/\Q (.ref x) H2) E:=rfl
theorem RP:UZ td ty tx σ H Q=td σ H fun x H1=>∃a,x=.ref a/\IsD H1 a/\ty σ H1 fun y H2=>tx σ H2 fun z H3=>∃o,DGet H3 a y o/\Q (o.getD z) H3:=rfl
end
noncomputable def ents (es:List (α2×Int)):List (List Key×V):=es.map fun e=>(wkey e.1,V.int e.2)
def RQ (es:List (α2×Int)):Dp (es.map (·.1)) (ents es):=by unfold Dp ents;rw[jK_,jK_];rfl
def KZ (h:w∉es.map (·.1)):valV (ents es) (wkey w)=none:=by
 have:=(RQ es).some_iff w;rw[qF_ h]at this;cases q:valV (ents es) (wkey w) with
 |none=>rfl
 |some v=>rw[q]at this;cases this
def Dq:∀{es:List (α2×Int)} {w:α2} {m:Int},(es.map (·.1)).Nodup->(w,m)∈es->valV (ents es) (wkey w)=some (.int m)
 |[],_,_,_,h=>by cases h
 |e::r,w,m,nd,h=>by
  rw[jR_,q9_]at nd;unfold valV ents;rw[jR_,xh_];by_cases hw:e.1=w
  ·have jm:e.2=m:=by
    rcases jE_.mp h with q|q
    ·rw[<-q]
    ·exact absurd (jv_.mpr ⟨_,q,hw.symm⟩) nd.1
   rw[show decide ((wkey e.1,V.int e.2).1=wkey w)=true from qx_ (by rw[hw]),<-jm];rfl
  ·rw[show decide ((wkey e.1,V.int e.2).1=wkey w)=false from qF_ fun z=>hw (GC z)];rcases jE_.mp h with q|q
   ·exact absurd (by rw[<-q]) hw
   ·exact Dq nd.2 q
def TR (h:w∉es.map (·.1)):putK (ents es) (wkey w) (.int m)=ents (es++[(w,m)]):=by
 unfold putK;rw[Dm,KZ h,if_neg (by simp)];unfold ents;rw[jm_];rfl
end L2
namespace L2
open PySem PySem.Spec PyProof.Rows
def Mt (hc:X.calm=true):Er X (.builtin "sum") (fun xs H Q=>∃(p:Addr) (ns:α2),xs=[.ref p]/\SqL X.K H p (ns.map V.int)/\Q (.int ns.sum) H):=by
 intro aa s σ H xs us Q I r h;obtain⟨p,ns,rfl,hq,q⟩:=h;obtain⟨u,rfl,rx⟩:=vals1 r;cases rx;obtain⟨ah,r',pl,_⟩:=I.list hq;have i1:IntsAre ah ns:=by simpa using intsAre_of r'
 obtain⟨ys,e⟩:=i1.allInts.items;have e2:=i1.numsOf;rw[show ah=ah.toArray.toList from rfl,e,nums_intItems]at e2;have hl:=pl.isList;rw[e]at hl;refine sum_intListG (I.ok.hd hc) hl fun h' tk t' hk=>?_;rw[preSum_eq,q4_ (by simp),e2];exact⟨.int ns.sum,H,I.kept hk,⟨_,rfl⟩,q⟩
noncomputable def RS (C:Addr)(m:Str)(sp:Sp)(aV:List V)(E:St->XK)(ta:TE)(t:TA):TE:=fun σ H Q=>ta σ H fun x H1=>∃a dx fs,x=.ref a/\H1 a=some (.ins C dx fs)/\fs.lookup m=none/\t σ H1 fun vs H2=>sp (x::(vs++aV)) H2 Q (E σ)
theorem RT : RS C m sp aV E ta t σ H Q=ta σ H fun x H1=>∃a dx fs,x=.ref a/\H1 a=some (.ins C dx fs)/\fs.lookup m=none/\t σ H1 fun vs H2=>sp (x::(vs++aV)) H2 Q (E σ):=rfl
def Pu (he:PE X o ta)(c:Cls X.K C)(hm:Meth X.K C m f)(F:FnOk X.prog X.w X.K X.mg X.base CX k f fd ps sp)(hr:Room k X.A)(hb:Binds X.K fd ps ds)(hd:Vals aV ds)(hx:∀σ,Kt CX X σ (E σ))(ha:PA X (e::es) t)
  (cH:starEach (e::es) X.env=(false,eval e X.env)::starEach es X.env:=by rfl) (cQ:(backTo pos (starEach es X.env)).any (·.1)=false:=by rfl)
  (ht:eval (.Call (.Attribute o m aJ) (e::es) [] pos) X.env=(do
   let ov <- eval o X.env
   standAt aJ.atName
   let (f,first) <- holding [ov] (getMethod ov m pl)
   callWith pos f first (backTo pos (starEach (e::es) X.env)) (backToKw pos (keywordEach [] X.env))):=by rfl):
  PE X (.Call (.Attribute o m aJ) (e::es) [] pos) (RS C m sp aV E ta t):=by
 intro aa s σ H Q I h;refine xs_ (pl:=pl) (thn (he aa s σ H _ I h) fun u s1 ⟨x,H1,I1,rx,a,dx,fs,ex,ea,l,q⟩=>?_) ht;subst ex;obtain rfl:u=Value.ref a:=rx;refine Gx I1 ea c hm l ?_;refine xN_ (first:=[.ref a]) (h₀:=X.base) I.ok.mod.kin hm.kp (thn (ha pos aa s1 σ H1 _ I1 q) fun us s2 ⟨vs,H2,I2,r,q2⟩=>⟨I2.kIn,?_⟩) cH cQ;exact Rv (us:=.ref a::us) (vs:=.ref a::vs) F hr hb hd (hx σ) I2 (.cons rfl r) q2
end L2
namespace PrimeO
noncomputable def ES (p:Nat):Prop:=∀d,2<=d->d<p->p%d≠0
def ES.small (hp:2<=p)(hk:p<k*k)(h:∀d,2<=d->d<k->d<p->p%d≠0):ES p:=by
 intro d h1 h2 h3;by_cases hd:d<k
 ·exact h d h1 hd h2 h3
 ·have e:d*(p / d)=p:=by have:=qd p d;lia
  generalize p / d=q at e;have bV:q≠0:=fun z=>by rw[z]at e;lia
  have hJ:q≠1:=fun z=>by rw[z]at e;lia
  have hqk:q<k:=by
   refine Nat.lt_of_not_le fun z=>?_;have:=qW_ (zU_ hd) z;lia
  refine h q s!"" hqk ?_ (by rw[<-e];exact rl d q);have:2*q<=d*q:=Nat.mul_le_mul_right q h1;lia
noncomputable def chk (p lo:Nat):Nat->Bool
 |0=>(uE (tY p lo) 0).not
 |n+1=>(chk p lo n).and (chk p (Nat.add lo (Nat.pow 2 n)) n)
def Mu (p:Nat):∀(n lo:Nat),chk p lo n=true->∀d,lo<=d->d<lo+2 ^ n->p%d≠0
 |0,lo,h,d,h1,h2=>by
  have:d=lo:=by simp at h2;lia
  subst this;intro z;have z':tY p d=0:=z;unfold chk at h;rw[z']at h;simp at h
 |n+1,lo,h,d,h1,h2=>by
  unfold chk at h;have h':=Bool.and_eq_true_iff.mp h;by_cases hd:d<lo+2 ^ n
  ·exact Mu p n lo h'.1 d h1 hd
  ·have e:lo+2 ^ n+2 ^ n=lo+2 ^ (n+1):=by rw[qX];lia
   exact Mu p n (lo+2 ^ n) h'.2 d s!"" s!""
def Eu (hp:2<=p)(h:chk p 2 n=true)(hk:p<(2+2 ^ n)*(2+2 ^ n)):ES p:=
 ES.small hp hk fun d h1 h2 _=>Mu p n 2 h d h1 h2
def nd2:ES 2:=fun d h1 h2=>by lia
def nd3:ES 3:=fun d h1 h2=>by
 have:d=2:=by lia
 subst this;decide
def nd5:ES 5:=Eu (n:=0) (by decide) (by decide) (by decide)
def nd7:ES 7:=Eu (n:=0) (by decide) (by decide) (by decide)
def Wt:ES 65537:=Eu (n:=8) (by decide) (by decide +kernel) (by decide +kernel)
def YO:ES 998244353:=Eu (n:=15) (by decide) (by decide +kernel) (by decide +kernel)
def Ya:ES 2147483647:=Eu (n:=16) (by decide) (by decide +kernel) (by decide +kernel)
def Vt:∀(m n:Nat) (f:Nat->Nat),(∀i,i<n->f i<m)->(∀i j,i<j->j<n->f i≠f j)->n<=m
 |0,n,f,h,_=>by
  refine zU_ fun z=>?_;exact absurd (h 0 z) (zx_ _)
 |m+1,0,f,_,_=>qc_ _
 |m+1,n+1,f,h,g=>by
  -- fh last value is taken aO: whoever has fh value m takes fh value of fh last one
  let f':Nat->Nat:=fun i=>if f i=m then f n else f i
  refine rf (Vt m n f' (fun i hi=>?_) (fun i j hij hj=>?_))
  ·show (if f i=m then f n else f i)<m;by_cases e:f i=m
   ·rw[if_pos e];have h1:=h n s!"";have h2:=g i n hi s!"";lia
   ·rw[if_neg e];have:=h i s!"";lia
  ·show (if f i=m then f n else f i)≠(if f j=m then f n else f j);have a:=g i j hij s!"";have b:=g i n s!"" s!"";have c:=g j n s!"" s!"";by_cases e:f i=m
   ·rw[if_pos e];by_cases e':f j=m
    ·lia
    ·rw[if_neg e'];lia
   ·rw[if_neg e];by_cases e':f j=m
    ·rw[if_pos e'];exact b
    ·rw[if_neg e'];exact a
def pow_one {q x:Int}(h:q ∣ x-1):∀n:Nat,q ∣ x ^ n-1
 |0=>by simp
 |n+1=>by
  have e:x ^ (n+1)-1=x ^ n*(x-1)+(x ^ n-1):=by
   rw[zP_,qp];lia
  rw[e];exact Int.dvd_add (qT_ h) (pow_one h n)
def RU {q x:Int}(h:q ∣ x+1):∀n:Nat,q ∣ x ^ (2*n+1)+1
 |0=>by rw[show 2*0+1=1 from rfl,zP_,Int.pow_zero,wq_];exact h
 |n+1=>by
  have e:x ^ (2*(n+1)+1)+1=x*x*(x ^ (2*n+1)+1)-(x-1)*(x+1):=by
   have:x ^ (2*(n+1)+1)=x*x*x ^ (2*n+1):=by
    rw[show 2*(n+1)+1=2*n+1+1+1 from by lia,zP_,zP_,zy_,zk_]
   rw[this,wr_,wr_,qr,wo_,wo_,wq_];lia
  rw[e];exact ws_ (qT_ (RU h n)) (qT_ h)
def TU:∀(d:Nat),0<d->∃k m,d=2 ^ k*(2*m+1):=by
 intro d
 induction d using Nat.strongRecOn with
 |ind d ih=>
  intro hd;by_cases h:d%2=0
  ·obtain⟨k,m,e⟩:=ih (d / 2) s!"" s!"";refine⟨k+1,m,?_⟩;rw[qX,qJ,<-e];lia
  ·exact⟨0,d / 2,by simp;lia⟩
def order {q b:Nat}{e:Nat}(hq:3<=q)(h:(q:Int) ∣ (b:Int) ^ (2 ^ e)+1):2 ^ (e+1)<=q:=by
 have hb:pz (b:Int) q=1:=by
  have h1:((pz (b:Int) q:Nat):Int) ∣ (b:Int):=Int.gcd_dvd_left ..;have h2:((pz (b:Int) q:Nat):Int) ∣ (q:Int):=Int.gcd_dvd_right ..;have h3:=qD h2 h;have h4:((pz (b:Int) q:Nat):Int) ∣ (b:Int) ^ (2 ^ e):=by
   obtain⟨c,hc⟩:∃c,2 ^ e=c+1:=⟨2 ^ e-1,by have:=Nat.two_pow_pos e;lia⟩;rw[hc,zP_];exact qT_ h1
  have h5:((pz (b:Int) q:Nat):Int) ∣ 1:=by
   have:=ws_ h3 h4
   rwa [show (b:Int) ^ (2 ^ e)+1-(b:Int) ^ (2 ^ e)=1 from by lia]at this
  have:=qE (by decide) h5;have h6:pz (b:Int) q≠0:=fun z=>by
   have:=Int.gcd_eq_zero_iff.mp z;lia
  lia
 refine Vt q (2 ^ (e+1)) (fun i=>b ^ i%q) (fun i _=>tP _ s!"") (fun i j hij hj hm=>?_)
 -- q divides b ^ (j-i)-1
 have hm:b ^ i%q=b ^ j%q:=hm;have d1:(q:Int) ∣ (b:Int) ^ i*((b:Int) ^ (j-i)-1):=by
  have e1:(b:Int) ^ i*((b:Int) ^ (j-i)-1)=((b ^ j:Nat):Int)-((b ^ i:Nat):Int):=by
   rw[qp,<-Int.pow_add,show i+(j-i)=j from by lia,wo_,qe,qe]
  rw[e1];refine j4_ ?_;have:((b ^ i:Nat):Int)%q=((b ^ j:Nat):Int)%q:=by exact_mod_cast hm
  exact jC_.mp this.symm
 have cop:∀n:Nat,(pz ((b:Int) ^ n) q)=1:=fun n=>by
  induction n with
  |zero=>simp
  |succ n ih=>rw[zP_,Int.gcd_mul_right_left_of_gcd_eq_one ih];exact hb
 have d2:(q:Int) ∣ (b:Int) ^ (j-i)-1:=by
  refine xV_.mp ?_;have:=xV_.mpr d1;rw[rH]at this;exact Nat.Coprime.dvd_of_dvd_mul_left (show tH _ _ from by have:=cop i;rw[sL]at this;exact this) this
 obtain⟨k,m,hd⟩:=TU (j-i) s!"";have hk:k<=e:=by
  refine zU_ fun z=>?_;have h1:2 ^ (e+1)<=2 ^ k:=Nat.pow_le_pow_right (by decide) z;have h2:2 ^ k*1<=2 ^ k*(2*m+1):=zd_ _ s!"";lia
 have d3:=pow_one d2 (2 ^ (e-k));rw[<-tI,hd,show 2 ^ k*(2*m+1)*2 ^ (e-k)=2 ^ e*(2*m+1) from by
  rw[qJ,<-Nat.pow_add,show k+(e-k)=e from by lia],tI]at d3
 have d4:=RU h m;have d5:=ws_ d4 d3;rw[show ((b:Int) ^ 2 ^ e) ^ (2*m+1)+1-(((b:Int) ^ 2 ^ e) ^ (2*m+1)-1)=2 from by lia]at d5;have:=qE (by decide) d5;lia
noncomputable def chain (p:Nat):List Nat->Bool
 |[]=>true
 |a::l=>match l with
  |[]=>true
  |b::_=>(uE (tY (Nat.mul a a) p) b).and (chain p l)
def LX {p:Nat}:∀(l:List Nat) (a z:Nat),chain p (a::l)=true->(a::l).getLast?=some z->z<p->a<p->a ^ (2 ^ l.length)%p=z
 |[],a,z,_,h,_,ha=>by simp at h;subst h;simp[rm ha]
 |b::l,a,z,hc,h,hz,ha=>by
  unfold chain at hc;have hc:=Bool.and_eq_true_iff.mp hc;have e1:a*a%p=b:=Nat.eq_of_beq_eq_true hc.1;have hb:b<p:=by rw[<-e1];exact tP _ s!""
  have:=LX l b z hc.2 (by simpa using h) hz hb;rw[jY_,qX,pZ,Nat.pow_mul,Nat.pow_two,Nat.pow_mod,e1];exact this
def YQ (hc:chain p (b::l)=true)(hl:(b::l).getLast?=some (p-1))(hp:2<=p)(hb:b<p)(q:Nat)(hq:3<=q)(h:p%q=0):2 ^ (l.length+1)<=q:=by
 have hs:=LX l b (p-1) hc hl s!"" hb;generalize l.length=e at hs;generalize hB:b ^ (2 ^ e)=B at hs;have hd:(p:Int) ∣ (b:Int) ^ (2 ^ e)+1:=by
  rw[<-qe,hB];have e1:(B+1)%p=0:=by
   rw[Nat.add_mod,hs];by_cases h1:p=1
   ·lia
   ·rw[rm (show 1<p by lia),show p-1+1=p from by lia,Nat.mod_self]
  have:=p3 e1
  exact_mod_cast this
 exact order hq (qD (Int.natCast_dvd_natCast.mpr (p3 h)) hd)
def RW (big:∀q,2<=q->p%q=0->m<=q)(hm:p<m*m):ES p:=by
 intro d h1 h2 h3;have e:d*(p / d)=p:=by have:=qd p d;lia
 generalize p / d=q at e;have bV:q≠0:=fun z=>by rw[z]at e;lia
 have hJ:q≠1:=fun z=>by rw[z]at e;lia
 have a:=big d h1 h3;have b:=big q s!"" (by rw[<-e];exact rl d q);have:=qW_ a b;lia
noncomputable def Yb:List Nat:=[59049,3486784401,88018457703999454,45929738478236762,40666034766347230,7693334418966794,176686083274693707,64249661930383583,109385274370896747,125617409189584062,109468562634608601,122701423696867897,35622580771213151,82435950289412150,18627153503673630,120469760524761789,172035590580311624,13190307153726193,3107064753164151,70140624860640424,166009780229527061,23535563731210449,68090728368441414,150068836334812601,160932145882353616,92767654578329832,20253417367123262,76076963643055978,116396373174297913,124091118791727052,120512899165957516,106587366619394153,174473325657852776,42422798089771761,51278126999645464,27655269229009543,75436749302249212,127846334706536764,179803962838676295,39860844515238771,117110086334503012,28926655053941789,99636062047316279,57472177291655405,45590227996605173,164322947671277915,78463280652552016,5197029465238183,37154148892138879,155338536803674377,66159313984295070,171458397805620753,174530742592475567,180143985094819840]
def YR:ES 180143985094819841:=RW (m:=36028797018963968) (fun q hq h=>by
  have h2:q≠2:=fun z=>by subst z;exact absurd h (by decide +kernel)
  have:=YQ (p:=180143985094819841) (b:=243) (l:=Yb) (by decide +kernel) (by decide +kernel) (by decide +kernel) (by decide +kernel) q s!"" h
  rwa [show 2 ^ (Yb.length+1)=36028797018963968 from by decide +kernel]at this) (by decide +kernel)
def ES.gcd (h:ES p) (h0:0<x)(h1:x<p):qu x p=1:=by
 have g1:qu x p<=x:=Nat.le_of_dvd h0 (Nat.gcd_dvd_left ..);have g0:0<qu x p:=Nat.gcd_pos_of_pos_left _ h0;refine qk_ fun z=>?_;exact h (qu x p) s!"" s!"" (Nat.mod_eq_zero_of_dvd (Nat.gcd_dvd_right ..))
noncomputable def Pr (p:Int):Prop:=2<=p/\p<1000000000000000000/\ES p.toNat
def Pr.gcd (h:Pr p)(h0:0<x)(h1:x<p):pz x p=1:=by
 have:=h.2.2.gcd (x:=x.toNat) s!"" s!"";have e:pz x p=qu x.toNat p.toNat:=by
  unfold pz;rw[show x.natAbs=x.toNat from by lia,show p.natAbs=p.toNat from by have:=h.1;lia]
 rw[e];exact this
def Wu:∀p ∈ [(2:Int),3,5,7,65537,998244353,2147483647,180143985094819841],Pr p:=by
 intro p hp;simp at hp;rcases hp with rfl|rfl|rfl|rfl|rfl|rfl|rfl|rfl
 ·exact⟨by decide,by decide,nd2⟩
 ·exact⟨by decide,by decide,nd3⟩
 ·exact⟨by decide,by decide,nd5⟩
 ·exact⟨by decide,by decide,nd7⟩
 ·exact⟨by decide,by decide,Wt⟩
 ·exact⟨by decide,by decide,YO⟩
 ·exact⟨by decide,by decide,Ya⟩
 ·exact⟨by decide,by decide,YR⟩
end PrimeO
namespace L2
open PySem PySem.Spec PyProof.Rows
def TV : OpR X (binaryOp .FloorDiv) (rI (fun _ j=>0<j/\j<1208925819614629174706176) fun i j=>.int (i / j)):=opI fun i j _ _ _ _ _ hc q=>by
 have h1:(0:Int)<j:=hc.1;have h2:j<1208925819614629174706176:=hc.2;refine floordiv_int s!"" (by rw[pH i s!""];exact q) (.inl (PyProof.noPylong_of_log2 ?_));have:j.natAbs<2 ^ 80:=by
  rw[show (2:Nat) ^ 80=1208925819614629174706176 from by decide];lia
 have:=(Nat.log2_lt (n:=j.natAbs) (k:=80) s!"").mpr this;lia
theorem RX : Xn A σ H Z=A σ H fun vs H1=>∃i j:Int,vs=[.int i,.int j]/\(-(2 ^ 62)<=i/\i<2 ^ 62 /\ -(2 ^ 62)<=j/\j<2 ^ 62)/\Z (Itr i (j-i).toNat) H1:=rfl
end L2
namespace PySem
open Sem (wp)
open PySem.F
section
variable {prog:Program} {w:World} {A:Around} {E:Value->Shared->Prop} {s:Shared}
def Fu {it l:Addr} {items} (aB:s.heap.IsTupleIter it l i)
  (hl:s.heap.IsTuple l items) (hx:items[i]?=some x)
  (hQ:∀h',h'.IsTupleIter it l (i+1)->Heap.SameBut it s.heap h'->Q x {s with heap:=h' }):
  wpAny (model prog w) A (Builtin.SmallTypes.nextOf (.ref it)) Q E s:=by
 obtain⟨o,ho,hc,hd⟩:=id aB;obtain⟨ol,jg,_,nl,fH⟩:=hl;unfold Builtin.SmallTypes.nextOf;refine ja_ (jS_ (name:=Str.ofString "__next__") aB.typeIs q2_
  (jZ_ q2_ aB.typeIs zz_ ?_ (zm_ _)))
 show wpAny _ _ (field (.ref it) 0 >>= _) _ _ s;refine ja_ (j9_ ho hd (x:=.ref l) rfl ?_);show wpAny _ _ (if (Value.ref l==Value.none)=true then _ else _) _ _ s;rw[if_neg (show ¬ ((Value.ref l==Value.none)=true) from jj_)];show wpAny _ _ (field (.ref it) 1 >>= _) _ _ s;refine ja_ (j9_ ho hd (x:=.int i 0) rfl ?_);show wpAny _ _ (seqItems? (.ref l) >>= _) _ _ s;refine ja_ (qK_ jg fH ?_);simp only[jw_,hx];refine ja_ (xy_ ho hd (by simp) (jf_ ⟨x,rfl,jf_ (hQ _ ?_ (qO_ ..))⟩));exact⟨_,qS_ _ ho (zN_ (xw_ hd _)),(Obj.cls_mapFields ..).trans hc,by
  rw[xw_ hd];simp[rawInt]⟩
def FN {it l:Addr} {items} (hh:A.handled=none)
  (aB:s.heap.IsTupleIter it l i) (hl:s.heap.IsTuple l items) (hx:items[i]?=none)
  (hE:∀h' e,Heap.ExtBut it s.heap h'->(∃o,h'.get? e=some o/\o.cls=.type "StopIteration")->E (.ref e) {s with heap:=h' }):
  wpAny (model prog w) A (Builtin.SmallTypes.nextOf (.ref it)) Q E s:=by
 obtain⟨o,ho,hc,hd⟩:=id aB;obtain⟨ol,jg,_,nl,fH⟩:=hl;unfold Builtin.SmallTypes.nextOf;refine ja_ (jS_ (name:=Str.ofString "__next__") aB.typeIs q2_
  (jZ_ q2_ aB.typeIs zz_ ?_ (zm_ _)))
 show wpAny _ _ (field (.ref it) 0 >>= _) _ _ s;refine ja_ (j9_ ho hd (x:=.ref l) rfl ?_);show wpAny _ _ (if (Value.ref l==Value.none)=true then _ else _) _ _ s;rw[if_neg (show ¬ ((Value.ref l==Value.none)=true) from jj_)];show wpAny _ _ (field (.ref it) 1 >>= _) _ _ s;refine ja_ (j9_ ho hd (x:=.int i 0) rfl ?_);show wpAny _ _ (seqItems? (.ref l) >>= _) _ _ s;refine ja_ (qK_ jg fH ?_);simp only[jw_,hx];refine ja_ (z6_ (ja_ (xy_ ho hd (by simp) ?_)));show wpAny _ _ (newExc (.type "StopIteration") [] >>= _) _ _ _;refine ja_ ?_;simp only[newExc,newTuple];refine ja_ (jT_ ?_ (by size_fits));refine ja_ (m:=firstArgMember _ _) (wa_ (a:=Value.none) (by first|rfl|(simp only[firstArgMember];rfl)) ?_);refine jT_ ?_ (by size_fits);simp only[raiseNew];refine ja_ (z4_ ?_)
 first|rw[show A.in1.handled=none from hh]|rw[hh]
 refine ja_ (jf_ (wpAny_throw ?_));exact hE _ _ (((qO_ ..).extBut.push _).push _) ⟨_,jp_ _ rfl,rfl⟩
end
noncomputable def CH (t:Bool)(h:Heap)(l:Addr)(xs:Array Value):Prop:=match t with|false=>h.IsList l xs|true=>h.IsTuple l xs
noncomputable def Bz (t:Bool)(h:Heap)(i l:Addr)(k:Nat):Prop:=match t with|false=>h.IsListIter i l k|true=>h.IsTupleIter i l k
def CH.extBut {a b items}(x:CH t h a items)(hs:Heap.ExtBut b h h')(gD:a≠b):CH t h' a items:=by
 cases t
 ·exact Heap.IsList.extBut x hs gD
 ·exact Heap.IsTuple.extBut x hs gD
def CH.push {a items}(x:CH t h a items)(o:Obj):CH t (h.push o) a items:=by
 cases t
 ·exact Heap.IsList.push x o
 ·exact Heap.IsTuple.push x o
def CH.lt {a items}(x:CH t h a items):a<h.objs.size:=by
 cases t
 ·obtain⟨_,e,_⟩:=x;exact jl_ e
 ·obtain⟨_,e,_⟩:=x;exact jl_ e
def Bz.extBut {a b l i}(x:Bz t h a l i)(hs:Heap.ExtBut b h h')(gD:a≠b):Bz t h' a l i:=by
 cases t
 ·exact Heap.IsListIter.extBut x hs gD
 ·exact Heap.IsTupleIter.extBut x hs gD
def Bz.at {a l i}(x:Bz t h a l i)(e:∀o,h.get? a=some o->h'.get? a=some o):Bz t h' a l i:=by
 cases t
 ·exact Heap.IsListIter.at x e
 ·exact Heap.IsTupleIter.at x e
def Bz.ob {a l i}(x:Bz t h a l i):∃o,h.get? a=some o/\o.data=.fields #[.ref l,.int i 0]:=by
 cases t
 ·obtain⟨o,e,_,d⟩:=x;exact⟨o,e,d⟩
 ·obtain⟨o,e,_,d⟩:=x;exact⟨o,e,d⟩
def Bz.lt {a l i}(x:Bz t h a l i):a<h.objs.size:=by
 obtain⟨_,e,_⟩:=x.ob;exact jl_ e
section
variable {prog:Program} {w:World} {A:Around} {E:Value->Shared->Prop} {s:Shared}
def BA {it l:Addr} {items} (aB:Bz t s.heap it l i)(hl:CH t s.heap l items)(hx:items[i]?=some x)
  (hQ:∀h',Bz t h' it l (i+1)->Heap.SameBut it s.heap h'->Q x {s with heap:=h' }):wpAny (model prog w) A (Builtin.SmallTypes.nextOf (.ref it)) Q E s:=by
 cases t
 ·exact wpAny_nextOf_list_item aB hl hx hQ
 ·exact Fu aB hl hx hQ
def Df {it l:Addr} {items} (hh:A.handled=none)(aB:Bz t s.heap it l i)(hl:CH t s.heap l items)(hx:items[i]?=none)
  (hE:∀h' e,Heap.ExtBut it s.heap h'->(∃o,h'.get? e=some o/\o.cls=.type "StopIteration")->E (.ref e) {s with heap:=h' }):wpAny (model prog w) A (Builtin.SmallTypes.nextOf (.ref it)) Q E s:=by
 cases t
 ·exact wpAny_nextOf_list_end hh aB hl hx hE
 ·exact FN hh aB hl hx hE
noncomputable def RY (t:Bool):Value:=match t with|false=>.type "list_iterator" |true=>.type "tuple_iterator"
def Bz.mk (g:h.get? a=some {cls:=RY t,data:=.fields #[.ref l,.int 0 0]}):Bz t h a l 0:=by
 cases t
 ·exact⟨_,g,rfl,rfl⟩
 ·exact⟨_,g,rfl,rfl⟩
def Fg {items} (hl:CH t s.heap l items)
  (hQ:Q (.ref s.heap.objs.size) {s with heap:=s.heap.push {cls:=RY t,data:=.fields #[.ref l,.int 0 0]} }):wpAny (model prog w) A (pyIter (.ref l)) Q E s:=by
 cases t
 ·exact xY_ hl hQ
 ·exact xr_ hl hQ
end
section
variable {prog:Program} {w:World} {A:Around} {E:Value->Shared->Prop} {s:Shared}
def LA {t1 t2:Bool}{z TI TO i1 i2 l1 l2:Addr}{k1 k2:Nat}{xs ys:Array Value}{x y a b:Value}{Q:Value->Shared->Prop}(D:ZipApart z TI TO i1 i2 l1 l2)
  (hz:IsZip s.heap z TI TO .none) (dW:IsPair s.heap TI (.ref i1) (.ref i2)) (eK:IsPair s.heap TO a b)
  (h1:Bz t1 s.heap i1 l1 k1) (h2:Bz t2 s.heap i2 l2 k2) (bI:CH t1 s.heap l1 xs) (dk:CH t2 s.heap l2 ys) (hx:xs[k1]?=some x) (hy:ys[k2]?=some y)
  (hQ:∀h',IsZip h' z TI TO (rawInt s.heap.objs.size)->IsPair h' TO x y->Bz t1 h' i1 l1 (k1+1)->Bz t2 h' i2 l2 (k2+1)->IsPair h' s.heap.objs.size x y->h'.objs.size=s.heap.objs.size+1 ->
   (∀c o,c≠z->c≠TO->c≠i1->c≠i2->s.heap.get? c=some o->h'.get? c=some o)->Q (.ref s.heap.objs.size) {s with heap:=h' }):
  wpAny (model prog w) A (Builtin.«zip.__next__» ⟨[.ref z],[]⟩) (fun fin s'=>∃v,fin=.done (.ret v)/\Q v s') E s:=by
 show wpAny _ _ (field (.ref z) 2 >>= _) _ _ _;refine ja_ (j9_ hz rfl (x:=.bool false) rfl ?_);show wpAny _ _ (field (.ref z) 3 >>= _) _ _ _;refine ja_ (j9_ hz rfl (x:=.ref TI) rfl ?_);refine ja_ (qK_ dW rfl ?_);show wpAny _ _ (Builtin.SmallTypes.ownedTupleIsFree (.ref z) >>= _) _ _ _;refine ja_ ?_;unfold Builtin.SmallTypes.ownedTupleIsFree;refine ja_ (j9_ hz rfl (x:=.none) rfl (jf_ ?_));simp only[xR_];refine ja_ (z6_ ?_);refine ja_ (j9_ hz rfl (x:=.ref TO) rfl ?_);refine ja_ (qb_ hz (by simp) fun h₁ aN az=>?_);replace aN:IsZip h₁ z TI TO .ellipsis:=aN;refine ja_ ?_;simp only[rn,rC,z9_,wi_];refine ja_ (ja_ (wpAny_onRaise ?_));show wpAny _ _ (Builtin.SmallTypes.nextOf (.ref i1) >>= _) _ _ _;refine ja_ (BA (h1.extBut az.extBut D.i1z) (bI.extBut az.extBut D.l1z) hx fun aK h1₂ aT=>jf_ ?_);have cc:IsPair aK TO a b:=aT.extBut _ _ D.TOi1 (az.extBut _ _ D.TOz eK);refine ja_ (qK_ cc rfl ?_);refine ja_ (z1_ cc fun aS cX aA=>?_);replace cX:IsPair aS TO x b:=cX;refine ja_ (wpAny_letGo (jf_ ?_));refine ja_ (ja_ (wpAny_onRaise ?_));show wpAny _ _ (Builtin.SmallTypes.nextOf (.ref i2) >>= _) _ _ _;refine ja_ (BA (((h2.extBut az.extBut D.i2z).extBut aT.extBut D.i12.symm).extBut aA.extBut D.TOi2.symm)
  (((dk.extBut az.extBut D.l2z).extBut aT.extBut D.l2i1).extBut aA.extBut D.l2TO) hy fun cU h2₄ aX=>jf_ ?_)
 have hTO₄:IsPair cU TO x b:=aX.extBut _ _ D.TOi2 cX;refine ja_ (qK_ hTO₄ rfl ?_);refine ja_ (z1_ hTO₄ fun aP cj hs₅=>?_);replace cj:IsPair aP TO x y:=cj;refine ja_ (wpAny_letGo (jf_ (jf_ ?_)));refine ja_ (qK_ cj rfl ?_);refine ja_ (wpAny_newTuple ?_);have hsz:aP.objs.size=s.heap.objs.size:=by rw[hs₅.1,aX.1,aA.1,aT.1,az.1]
 have hz₅:IsZip aP z TI TO .ellipsis:=hs₅.extBut _ _ D.TOz.symm (aX.extBut _ _ D.i2z.symm (aA.extBut _ _ D.TOz.symm (aT.extBut _ _ D.i1z.symm aN)));have hk₅:∀c o,c≠z->c≠TO->c≠i1->c≠i2->s.heap.get? c=some o->aP.get? c=some o:=fun c o c1 c2 c3 c4 e=>
  hs₅.extBut _ _ c2 (aX.extBut _ _ c4 (aA.extBut _ _ c2 (aT.extBut _ _ c3 (az.extBut _ _ c1 e))))
 have h1₅:Bz t1 aP i1 l1 (k1+1):=((h1₂.extBut aA.extBut D.TOi1.symm).extBut aX.extBut D.i12).extBut hs₅.extBut D.TOi1.symm;have h2₅:Bz t2 aP i2 l2 (k2+1):=h2₄.extBut hs₅.extBut D.TOi2.symm;have hzlt:z<aP.objs.size:=jl_ hz₅;have hTOlt:TO<aP.objs.size:=jl_ cj;have hi1lt:i1<aP.objs.size:=h1₅.lt;have hi2lt:i2<aP.objs.size:=h2₅.lt;show wpAny _ _ (Builtin.SmallTypes.ownedTupleHandOut (.ref z) (.ref aP.objs.size) >>= _) _ _ _;refine ja_ ?_;unfold Builtin.SmallTypes.ownedTupleHandOut;have hz₆:IsZip (aP.push {cls:=.type "tuple",data:=.seq #[x,y]}) z TI TO .ellipsis:=jd_ _ hz₅;refine ja_ (qb_ hz₆ (by simp) fun h₇ fR fS=>?_);replace fR:IsZip h₇ z TI TO (rawInt aP.objs.size):=fR;refine qb_ fR (by simp) fun fT eL fU=>?_;replace eL:IsZip fT z TI TO (rawInt aP.objs.size):=eL;have up:∀c o,c≠z->aP.get? c=some o->fT.get? c=some o:=fun c o c1 e=>fU.extBut _ _ c1 (fS.extBut _ _ c1 (jd_ _ e));have hT₈:IsPair fT aP.objs.size x y:=fU.extBut _ _ (j7_ hzlt) (fS.extBut _ _ (j7_ hzlt) (jp_ _ rfl));have hz8:fT.objs.size=aP.objs.size+1:=by rw[fU.1,fS.1,j3_]
 rw[hsz]at eL hT₈ hz8;refine jf_ ⟨_,rfl,?_⟩;show Q (.ref aP.objs.size) _;rw[hsz];exact hQ fT eL (up _ _ D.TOz cj) (h1₅.at fun o e=>up _ o D.i1z e) (h2₅.at fun o e=>up _ o D.i2z e) hT₈ hz8 fun c o c1 c2 c3 c4 e=>up c o c1 (hk₅ c o c1 c2 c3 c4 e)
def Mv {z TI TO i1 i2 l1 l2:Addr} (hh:A.handled=none)(D:ZipApart z TI TO i1 i2 l1 l2)
  (hz:IsZip s.heap z TI TO .none) (dW:IsPair s.heap TI (.ref i1) (.ref i2)) (eK:IsPair s.heap TO a b)
  (h1:Bz t1 s.heap i1 l1 k1) (h2:Bz t2 s.heap i2 l2 k2) (bI:CH t1 s.heap l1 xs) (dk:CH t2 s.heap l2 ys) (jo:xs[k1]?=none\/ys[k2]?=none)
  (hE:∀h' e,(∀c o,c≠z->c≠TO->c≠i1->c≠i2->s.heap.get? c=some o->h'.get? c=some o)->(∃o,h'.get? e=some o/\o.cls=.type "StopIteration")->E (.ref e) {s with heap:=h' }):
  wpAny (model prog w) A (Builtin.«zip.__next__» ⟨[.ref z],[]⟩) Q E s:=by
 show wpAny _ _ (field (.ref z) 2 >>= _) _ _ _;refine ja_ (j9_ hz rfl (x:=.bool false) rfl ?_);show wpAny _ _ (field (.ref z) 3 >>= _) _ _ _;refine ja_ (j9_ hz rfl (x:=.ref TI) rfl ?_);refine ja_ (qK_ dW rfl ?_);show wpAny _ _ (Builtin.SmallTypes.ownedTupleIsFree (.ref z) >>= _) _ _ _;refine ja_ ?_;unfold Builtin.SmallTypes.ownedTupleIsFree;refine ja_ (j9_ hz rfl (x:=.none) rfl (jf_ ?_));simp only[xR_];refine ja_ (z6_ ?_);refine ja_ (j9_ hz rfl (x:=.ref TO) rfl ?_);refine ja_ (qb_ hz (by simp) fun h₁ aN az=>?_);replace aN:IsZip h₁ z TI TO .ellipsis:=aN;refine ja_ ?_;simp only[rn,rC,z9_,wi_];refine ja_ (ja_ (wpAny_onRaise ?_));show wpAny _ _ (Builtin.SmallTypes.nextOf (.ref i1) >>= _) _ _ _;cases hx:xs[k1]? with
 |none=>
  refine ja_ (Df hh (h1.extBut az.extBut D.i1z) (bI.extBut az.extBut D.l1z) hx fun aK e aT he=>?_);obtain⟨oe,gA,la⟩:=he;have cL:IsZip aK z TI TO .ellipsis:=aT _ _ D.i1z.symm aN;have nH:e≠z:=fun x=>by subst x;rw[cL]at gA;cases gA;simp at la
  refine qb_ cL (by simp) fun aS _ aA=>hE aS e (fun c o c1 _ c3 _ x=>aA.extBut _ _ c1 (aT _ _ c3 (az.extBut _ _ c1 x))) ⟨oe,aA.extBut _ _ nH gA,la⟩
 |some x=>
  have hy:ys[k2]?=none:=by rcases jo with h|h;rw[hx]at h;cases h;exact h
  refine ja_ (BA (h1.extBut az.extBut D.i1z) (bI.extBut az.extBut D.l1z) hx fun aK h1₂ aT=>jf_ ?_);have cc:IsPair aK TO a b:=aT.extBut _ _ D.TOi1 (az.extBut _ _ D.TOz eK);refine ja_ (qK_ cc rfl ?_);refine ja_ (z1_ cc fun aS cX aA=>?_);refine ja_ (wpAny_letGo (jf_ ?_));refine ja_ (ja_ (wpAny_onRaise ?_));show wpAny _ _ (Builtin.SmallTypes.nextOf (.ref i2) >>= _) _ _ _;refine ja_ (Df hh (((h2.extBut az.extBut D.i2z).extBut aT.extBut D.i12.symm).extBut aA.extBut D.TOi2.symm)
   (((dk.extBut az.extBut D.l2z).extBut aT.extBut D.l2i1).extBut aA.extBut D.l2TO) hy fun cU e aX he=>?_)
  obtain⟨oe,gA,la⟩:=he;have hz₄:IsZip cU z TI TO .ellipsis:=aX _ _ D.i2z.symm (aA.extBut _ _ D.TOz.symm (aT.extBut _ _ D.i1z.symm aN));have nH:e≠z:=fun x=>by subst x;rw[hz₄]at gA;cases gA;simp at la
  refine qb_ hz₄ (by simp) fun aP _ hs₅=>hE aP e (fun c o c1 c2 c3 c4 x=>hs₅.extBut _ _ c1 (aX _ _ c4 (aA.extBut _ _ c2 (aT.extBut _ _ c3 (az.extBut _ _ c1 x))))) ⟨oe,hs₅.extBut _ _ nH gA,la⟩
def Fv {z TI TO i1 i2 l1 l2:Addr} (D:ZipApart z TI TO i1 i2 l1 l2)
  (hz:IsZip s.heap z TI TO .none) (dW:IsPair s.heap TI (.ref i1) (.ref i2)) (eK:IsPair s.heap TO a b)
  (h1:Bz t1 s.heap i1 l1 k1) (h2:Bz t2 s.heap i2 l2 k2) (bI:CH t1 s.heap l1 xs) (dk:CH t2 s.heap l2 ys) (hx:xs[k1]?=some x) (hy:ys[k2]?=some y)
  (hQ:∀h',IsZip h' z TI TO (rawInt s.heap.objs.size)->IsPair h' TO x y->Bz t1 h' i1 l1 (k1+1)->Bz t2 h' i2 l2 (k2+1)->IsPair h' s.heap.objs.size x y->h'.objs.size=s.heap.objs.size+1 ->
   (∀c o,c≠z->c≠TO->c≠i1->c≠i2->s.heap.get? c=some o->h'.get? c=some o)->Q (some (.ref s.heap.objs.size)) {s with heap:=h' }):
  wpAny (model prog w) A (pyNext (.ref z)) Q E s:=by
 have hT:s.TypeIs (.ref z) "zip" := ⟨_,hz,rfl⟩;unfold pyNext;exact ja_ (xe_ (jS_ (name:=Str.ofString "__next__") hT xW_
  (jZ_ xW_ hT p4
   (LA D hz dW eK h1 h2 bI dk hx hy fun h' a1 a2 a3 a4 a5 a6 a7=>jf_ (hQ h' a1 a2 a3 a4 a5 a6 a7)) (pV _))))
def FO {z TI TO i1 i2 l1 l2:Addr} (hh:A.handled=none)(D:ZipApart z TI TO i1 i2 l1 l2)
  (hz:IsZip s.heap z TI TO .none) (dW:IsPair s.heap TI (.ref i1) (.ref i2)) (eK:IsPair s.heap TO a b)
  (h1:Bz t1 s.heap i1 l1 k1) (h2:Bz t2 s.heap i2 l2 k2) (bI:CH t1 s.heap l1 xs) (dk:CH t2 s.heap l2 ys) (jo:xs[k1]?=none\/ys[k2]?=none)
  (hQ:∀h',(∀c o,c≠z->c≠TO->c≠i1->c≠i2->s.heap.get? c=some o->h'.get? c=some o)->Q none {s with heap:=h' }):wpAny (model prog w) A (pyNext (.ref z)) Q E s:=by
 have hT:s.TypeIs (.ref z) "zip" := ⟨_,hz,rfl⟩;unfold pyNext;refine ja_ (xe_ (jS_ (name:=Str.ofString "__next__") hT xW_
  (jZ_ xW_ hT p4 (Mv hh D hz dW eK h1 h2 bI dk jo fun h' e hk he=>?_) (pV _))))
 obtain⟨o,ho,hc⟩:=he;refine ja_ (zX_ (T := "StopIteration") (b:=true) ⟨o,ho,hc⟩ isSubtype_stop ?_);exact jf_ (hQ _ hk)
end
noncomputable abbrev TX (t1 t2:Bool)(h:Heap)(l1:Addr):Heap:=h.push {cls:=RY t1,data:=.fields #[.ref l1,.int 0 0]}
noncomputable abbrev TY (t1 t2:Bool)(h:Heap)(l1 l2:Addr):Heap:=(TX t1 t2 h l1).push {cls:=RY t2,data:=.fields #[.ref l2,.int 0 0]}
noncomputable abbrev TZ (t1 t2:Bool)(h:Heap)(l1 l2:Addr):Heap:=(TY t1 t2 h l1 l2).push {cls:=.type "tuple",data:=.seq #[.ref h.objs.size,.ref (TX t1 t2 h l1).objs.size]}
noncomputable abbrev T1 (t1 t2:Bool)(h:Heap)(l1 l2:Addr):Heap:=(TZ t1 t2 h l1 l2).push {cls:=.type "tuple",data:=.seq #[.none,.none]}
noncomputable abbrev Oy (t1 t2:Bool)(h:Heap)(l1 l2:Addr):Heap:=(T1 t1 t2 h l1 l2).push {cls:=.type "zip",data:=.fields #[.none,.bool false,.bool false,.ref (TY t1 t2 h l1 l2).objs.size,.ref (TZ t1 t2 h l1 l2).objs.size]}
def LB (t1 t2:Bool)(l1 l2:Addr)(xs ys:Array Value):
  Meets (Builtin.«zip.__new__» ⟨[.type "zip",.ref l1,.ref l2],[]⟩) (fun _ R s=>CH t1 s.heap l1 xs/\CH t2 s.heap l2 ys /\
   R (.ok (.ret (.ref (T1 t1 t2 s.heap l1 l2).objs.size))) {s with heap:=Oy t1 t2 s.heap l1 l2}):=
 .of_wp fun prog w A R s h=>by
  obtain⟨hp,g,d,tk,os⟩:=s;obtain⟨bI,dk,h⟩:=h;have hsub:=sub_zip;have hL1:CH t1 (Shared.heap ⟨hp,g,d,tk,os⟩) l1 xs:=bI;have hL2:CH t2 (Shared.heap ⟨hp.push {cls:=RY t1,data:=.fields #[.ref l1,.int 0 0]},g,d,tk,os⟩) l2 ys:=CH.push dk _
  wp_walk using Fg hL1,Fg hL2
  exact⟨_,rfl,h⟩
section
variable {prog:Program} {w:World} {A:Around} {E:Value->Shared->Prop} {s:Shared}
def Oz (bI:CH t1 s.heap l1 xs)(dk:CH t2 s.heap l2 ys)
  (h:∀h',IsZip h' (s.heap.objs.size+4) (s.heap.objs.size+2) (s.heap.objs.size+3) .none->IsPair h' (s.heap.objs.size+2) (.ref s.heap.objs.size) (.ref (s.heap.objs.size+1)) ->
   IsPair h' (s.heap.objs.size+3) .none .none->Bz t1 h' s.heap.objs.size l1 0->Bz t2 h' (s.heap.objs.size+1) l2 0->h'.objs.size=s.heap.objs.size+5 ->
   (∀c o,s.heap.get? c=some o->h'.get? c=some o)->Q (.ref (s.heap.objs.size+4)) {s with heap:=h' }):
  wpAny (model prog w) A (call (.type "zip") [.ref l1,.ref l2]) Q E s:=by
 refine callType_new tQ (by decide) (sN _ _) (sV _ _) (fun obj=>rJ obj _ _) sX
  (LB t1 t2 l1 l2 xs ys) ⟨bI,dk,?_⟩
 have z1:(TX t1 t2 s.heap l1).objs.size=s.heap.objs.size+1:=j3_ ..;have z2:(TY t1 t2 s.heap l1 l2).objs.size=s.heap.objs.size+2:=by rw[j3_,z1]
 have z3:(TZ t1 t2 s.heap l1 l2).objs.size=s.heap.objs.size+3:=by rw[j3_,z2]
 have z4:(T1 t1 t2 s.heap l1 l2).objs.size=s.heap.objs.size+4:=by rw[j3_,z3]
 have z5:(Oy t1 t2 s.heap l1 l2).objs.size=s.heap.objs.size+5:=by rw[j3_,z4]
 have g5:(Oy t1 t2 s.heap l1 l2).get? (T1 t1 t2 s.heap l1 l2).objs.size=some _:=jp_ _ rfl;have g4:(Oy t1 t2 s.heap l1 l2).get? (TZ t1 t2 s.heap l1 l2).objs.size=some _:=jd_ _ (jp_ _ rfl);have g3:(Oy t1 t2 s.heap l1 l2).get? (TY t1 t2 s.heap l1 l2).objs.size=some _:=jd_ _ (jd_ _ (jp_ _ rfl));have g2:(Oy t1 t2 s.heap l1 l2).get? (TX t1 t2 s.heap l1).objs.size=some _:=jd_ _ (jd_ _ (jd_ _ (jp_ _ rfl)));have g1:(Oy t1 t2 s.heap l1 l2).get? s.heap.objs.size=some _:=jd_ _ (jd_ _ (jd_ _ (jd_ _ (jp_ _ rfl))));show _/\_;rw[z2,z3,z4]at g5;rw[z1,z2]at g3;rw[z3]at g4;rw[z1]at g2;rw[z4];exact⟨⟨_,g5,rfl⟩,h _ g5 g3 g4 (Bz.mk g1) (Bz.mk g2) z5 fun c o x=>
  jd_ _ (jd_ _ (jd_ _ (jd_ _ (jd_ _ x))))⟩
end
end PySem
namespace L2
open PySem PySem.Spec PyProof.Rows GW
noncomputable def SqB (K:α3)(H:Hp)(t:Bool)(a:Addr)(xs:List V):Prop:=match t with|false=>SqL K H a xs|true=>SqT K H a xs
def SqB.mono {K:α3} (h:SqB K H t a xs)(s:Same H H'):SqB K H' t a xs:=by
 cases t
 ·exact s.seq h
 ·exact s.seqT h
def Inv.seqB (I:Inv X aa σ H s)(h:SqB X.K H t a xs):∃ah:List Value,Vals xs ah/\CH t s.heap a ah.toArray:=by
 cases t
 ·obtain⟨ah,r,p,_⟩:=I.list h;exact⟨ah,r,p.isList⟩
 ·obtain⟨ah,r,p,_⟩:=I.tuple h;exact⟨ah,r,p⟩
noncomputable def Itz2 (K:α3)(t1 t2:Bool)(a b:Addr)(xs ys:List V):It:=⟨fun i H=>i<xs.length/\i<ys.length/\SqB K H t1 a xs/\SqB K H t2 b ys,fun i H x H'=>∃t u v,H t=none/\xs[i]?=some u/\ys[i]?=some v/\x=.ref t/\H'=upd H t (.tup [u,v]),fun i H=>(xs.length<=i\/ys.length<=i)/\SqB K H t1 a xs/\SqB K H t2 b ys⟩
def RZ {P:Program}{w:World}{K:α3}{b7:List Expr}{x1}{bL:Pos}{t1 t2:Bool}{a b z TI TO i1 i2:Addr}(D:ZipApart z TI TO i1 i2 a b)(xs ys:List V):Turn P w K (.Tuple b7 x1 bL) (Itz2 K t1 t2 a b xs ys) [z,TI,TO,i1,i2] z
  (fun i h=>IsZip h z TI TO .none/\IsPair h TI (.ref i1) (.ref i2)/\(∃c d,IsPair h TO c d)/\Bz t1 h i1 a i/\Bz t2 h i2 b i) where
 mem:=by simp
 obj:=fun i h st c hc=>by
  obtain⟨h1,h2,⟨u,v,h3⟩,h4',h5'⟩:=st;obtain⟨o4,h4,d4⟩:=h4'.ob;obtain⟨o5,h5,d5⟩:=h5'.ob;simp only[jE_,xq_,or_false]at hc;rcases hc with rfl|rfl|rfl|rfl|rfl
  ·exact⟨_,h1,fun v z=>by cases z⟩
  ·exact⟨_,h2,fun v z=>by cases z⟩
  ·exact⟨_,h3,fun v z=>by cases z⟩
  ·exact⟨o4,h4,fun v z=>by rw[d4]at z;cases z⟩
  ·exact⟨o5,h5,fun v z=>by rw[d5]at z;cases z⟩
 keep:=fun i h h' st k=>by
  obtain⟨h1,h2,⟨u,v,h3⟩,h4,h5⟩:=st;exact⟨k z (by simp) _ h1,k TI (by simp) _ h2,⟨u,v,k TO (by simp) _ h3⟩,h4.at fun o q=>k i1 (by simp) o q,h5.at fun o q=>k i2 (by simp) o q⟩
 item:=by
  intro X hP hw hK hc i aa s σ H E I hf st hg;subst hP hw hK;obtain⟨hi,hj,hq,cw⟩:=hg;obtain⟨hz,dW,⟨c,d,eK⟩,h1,h2⟩:=st;obtain⟨ah,rv,p⟩:=I.seqB hq;obtain⟨aL,gE,p2⟩:=I.seqB cw;obtain⟨u,hu,ru⟩:=rv.get (i:=i) (x:=xs[i]) (by simp[hi]);obtain⟨v,hv,rv'⟩:=gE.get (i:=i) (x:=ys[i]) (by simp[hj]);refine Fv D hz dW eK h1 h2 p p2 (x:=u) (y:=v) (by simpa using hu) (by simpa using hv) fun h' g1 g2 g3 g4 g5 gs gk=>?_;have nI:s.heap.objs.size≠z:=j7_ (jl_ hz);refine⟨_,rfl,wpAny_letOwnedTupleGo_zip g1 fun cK e1 bB=>?_⟩;have dm:∀b o,b ∉ [z,TI,TO,i1,i2]->s.heap.get? b=some o->cK.get? b=some o:=fun b o hb q=>by
   simp only[jE_,xq_,or_false,not_or]at hb;exact (bB.2 b hb.1).trans (gk b o hb.1 hb.2.2.1 hb.2.2.2.1 hb.2.2.2.2 q)
  obtain⟨un,hok⟩:=I.unL dm hf;have hn:H s.heap.objs.size=none:=I.hok.fresh (jh_ _);have new:AY X.prog X.w (upd H s.heap.objs.size (.tup [xs[i],ys[i]])) cK s.heap.objs.size (.tup [xs[i],ys[i]]):=⟨by have:=Al;simp;lia,[u,v],.cons ru (.cons rv' .nil),_,(bB.2 _ nI).trans g5,rfl,_,rfl⟩;refine⟨.ref s.heap.objs.size,upd H s.heap.objs.size (.tup [xs[i],ys[i]]),I.call' (s':={s with heap:=cK }) (ch:=[z,TI,TO,i1,i2]) rfl (un.track (jh_ _) hn) (hok.track hn new) I.bare (fun b hb=>?_),rfl,⟨_,_,_,hn,by simp[hi],by simp[hj],rfl,rfl⟩,?_,fun b hb=>?_⟩
  ·exact (hf b hb).ch
  ·refine⟨e1,(bB.2 TI D.TIz).trans (gk TI _ D.TIz D.TITO D.TIi1 D.TIi2 dW),⟨u,v,(bB.2 TO D.TOz).trans g2⟩,g3.at fun o q=>(bB.2 i1 D.i1z).trans q,g4.at fun o q=>(bB.2 i2 D.i2z).trans q⟩
  ·have dq:=hf b hb;have:∃o,s.heap.get? b=some o:=by
    simp only[jE_,xq_,or_false]at hb;rcases hb with rfl|rfl|rfl|rfl|rfl
    ·exact⟨_,hz⟩
    ·exact⟨_,dW⟩
    ·exact⟨_,eK⟩
    ·obtain⟨o,ho,_⟩:=h1.ob;exact⟨o,ho⟩
    ·obtain⟨o,ho,_⟩:=h2.ob;exact⟨o,ho⟩
   obtain⟨o,ho⟩:=this;rw[Aj (jG_ (jl_ ho))];exact dq.1
 done:=by
  intro X hP hw hK hc i aa s σ H E I hf st hg;subst hP hw hK;obtain⟨hi,hq,cw⟩:=hg;obtain⟨hz,dW,⟨c,d,eK⟩,h1,h2⟩:=st;obtain⟨ah,rv,p⟩:=I.seqB hq;obtain⟨aL,gE,p2⟩:=I.seqB cw;have l1:=rv.length;have l2:=gE.length;refine FO (I.ok.hd hc) D hz dW eK h1 h2 p p2 (by simp;lia) fun h' gk=>⟨rfl,?_⟩;obtain⟨un,hok⟩:=I.unL (h':=h') (fun b o hb q=>by
   simp only[jE_,xq_,or_false,not_or]at hb;exact gk b o hb.1 hb.2.2.1 hb.2.2.2.1 hb.2.2.2.2 q) hf
  exact I.call' (s':={s with heap:=h' }) (ch:=[z,TI,TO,i1,i2]) rfl un hok I.bare fun b hb=>(hf b hb).ch
 self:=fun A i s Q E st h=>wpAny_pyIter_zip st.1 h
noncomputable def Yc (K:α3)(ta:TA):TI:=fun σ H R=>ta σ H fun vs H1=>∃a b xs ys t1 t2,vs=[.ref a,.ref b]/\SqB K H1 t1 a xs/\SqB K H1 t2 b ys/\R (Itz2 K t1 t2 a b xs ys) H1
theorem R0 {K:α3} : Yc K ta σ H Z=ta σ H fun vs H1=>∃a b xs ys t1 t2,vs=[.ref a,.ref b]/\SqB K H1 t1 a xs/\SqB K H1 t2 b ys/\Z (Itz2 K t1 t2 a b xs ys) H1:=rfl
def OA {x1} (hg:Gl X "zip")(hm:X.mg "zip"=none)(ha:PA X [e,f] ta)(hs:starEach [e,f] X.env=[(false,eval e X.env),(false,eval f X.env)]:=by rfl)(bB:starEach [f] X.env=[(false,eval f X.env)]:=by rfl):PI X (.Tuple b7 x1 bL) (.Call (.Name "zip" p) [e,f] [] pos) (Yc X.K ta):=by
 intro aa s σ H R I h;refine Call_ (HN I hg hm boot_zip (qm_ (thn (ha pos aa s σ H _ I h) fun us s1 ⟨vs,H1,I1,r1,q1⟩=>?_) (by rw[hs,bB]) (by rw[bB];rfl)));obtain⟨a,b,xs,ys,t1,t2,ev,hq,cw,q⟩:=q1;subst ev;cases r1 with
 |cons r rr=>cases rr with
  |cons r' rr=>
   cases rr;cases r;cases r';obtain⟨ah,rv,pl⟩:=I1.seqB hq;obtain⟨aL,gE,pl2⟩:=I1.seqB cw;refine Oz pl pl2 fun h' hz dW eK hi1 hi2 hsz hk=>?_;refine wpAny_pyIter_zip (s:={s1 with heap:=h' }) hz ?_;have I2:Inv X aa σ H1 {s1 with heap:=h' }:=I1.kept (t':=s1.toks) hk;refine⟨_,_,_,_,H1,rfl,I2,RZ (zipApart_new pl.lt pl2.lt) xs ys,⟨hz,dW,⟨_,_,eK⟩,hi1,hi2⟩,fun c hc=>?_,q⟩;have dJ:s1.heap.objs.size<=c:=by
    simp only[jE_,xq_,or_false]at hc;rcases hc with rfl|rfl|rfl|rfl|rfl
    ·exact zY_ _ 4
    ·exact zY_ _ 2
    ·exact zY_ _ 3
    ·exact jh_ _
    ·exact zY_ _ 1
   exact I1.fpOk dJ (I1.hok.fresh dJ)
def YS {K:α3} (n:Nat)(mn:n<=xs.length)(jS:n<=ys.length)(hn3:xs.length=n\/ys.length=n)(Pv:Nat->St->Hp->Prop)(h0:Pv 0 σ H)(hl:∀i σ H,i<=n->Pv i σ H->SqB K H t1 a xs/\SqB K H t2 b ys)
  (hs:∀i u v σ H t,i<n->xs[i]?=some u->ys[i]?=some v->Pv i σ H->H t=none->g (.ref t) σ (upd H t (.tup [u,v])) fun ai H2=>tb {D with nx:=Pv (i+1),ct:=Pv (i+1),bk:=D.nx} ai H2) (hd:∀σ H,Pv n σ H->D.nx σ H):ForW (Itz2 K t1 t2 a b xs ys) g tb D σ H:=by
 refine⟨fun i m σ H=>m+i=n/\Pv i σ H,⟨n,by lia,h0⟩,fun i m σ H ⟨hm,hp⟩=>?_⟩;obtain⟨q1,q2⟩:=hl i σ H s!"" hp;by_cases hi:i<n
 ·refine .inr ⟨⟨by lia,by lia,q1,q2⟩,Pv (i+1),fun af H' h=>⟨m-1,by lia,by lia,h⟩,fun x H' hy=>?_⟩;obtain⟨t,u,v,e1,e2,e3,rfl,rfl⟩:=hy;exact hs i u v σ H t hi e2 e3 hp e1
 ·have e:i=n:=by lia
  subst e;exact .inl ⟨⟨by lia,q1,q2⟩,hd σ H hp⟩
def Yd {K:α3} (n:Nat)(mn:n<=xs.length)(jS:n<=ys.length)(hn3:xs.length=n\/ys.length=n)(Pv:Nat->List V->St->Hp->Prop)(h0:Pv 0 [] (cp.st σ) H)(hz:n<sizeLine)
  (hl:∀i zs σ H,i<=n->Pv i zs σ H->SqB K H t1 a xs/\SqB K H t2 b ys/\zs.length<=i)
  (hs:∀i u v zs σ H t,i<n->xs[i]?=some u->ys[i]?=some v->Pv i zs σ H->H t=none->g (.ref t) σ (upd H t (.tup [u,v])) fun ai H2=>tc ai H2 fun b H3=>if b=true then te ai H3 fun v H4=>Pv (i+1) (zs++[v]) ai H4 else Pv (i+1) zs ai H3)
  (hd:∀zs σ H,Pv n zs σ H->∀D,H D=none->Q (.ref D) (upd H D (.lst zs))):HV (Itz2 K t1 t2 a b xs ys) cp g tc te σ H Q:=by
 refine⟨fun i m zs σ H=>m=n-i/\i<=n/\Pv i zs σ H,⟨n,by simp,qc_ _,h0⟩,?_⟩;rintro i m zs σ H ⟨rfl,hi,p⟩;obtain⟨q1,q2,ly⟩:=hl i zs σ H hi p;refine⟨by lia,?_⟩;by_cases aH:i<n
 ·refine .inr ⟨⟨by lia,by lia,q1,q2⟩,Pv (i+1),fun gF af H' p'=>⟨n-(i+1),by lia,rfl,aH,p'⟩,fun x H' y=>?_⟩;obtain⟨t,u,v,e1,e2,e3,rfl,rfl⟩:=y;exact hs i u v zs σ H t aH e2 e3 p e1
 ·have e:i=n:=by lia
  subst e;exact .inl ⟨⟨by lia,q1,q2⟩,hd zs σ H p⟩
def Px {K:α3} (f:V->V)(e:cp.st σ=none::af)(hl:SqB K H t a xs)(hz:xs.length<sizeLine)(hs:∀x∈xs,∀R:VK,R (f x) H->te (some x::af) H R)(hd:∀D,H D=none->Q (.ref D) (upd H D (.lst (xs.map f)))):
  ((∃xs,SqL K H a xs)/\HV (Itl K a) cp (IW 0) Mo te σ H Q)\/((∃xs,SqT K H a xs)/\HV (Itt K a) cp (IW 0) Mo te σ H Q):=by
 cases t
 ·exact .inl ⟨⟨_,hl⟩,Tw f e hl hz hs hd⟩
 ·exact .inr ⟨⟨_,hl⟩,Mq f e hl hz hs hd⟩
def Pz {K:α3} (f:Int->Int->Int)(e:cp.st σ=none::none::af)(h1:SqB K H t1 a (xs.map V.int))(h2:SqB K H t2 b (ys.map V.int))(ak:xs.length=ys.length)(hz:xs.length<sizeLine)
  (hg:∀t u v o1 o2 H N,H t=some (.tup [u,v])->N (some u::some v::af) H->g (.ref t) (o1::o2::af) H N)
  (hs:∀x y H',x∈xs->y∈ys->Same H H'->∀R:VK,R (.int (f x y)) H'->te (some (.int x)::some (.int y)::af) H' R)
  (hd:∀H' D,Same H H'->H' D=none->Q (.ref D) (upd H' D (.lst ((pf f xs ys).map V.int)))):HV (Itz2 K t1 t2 a b (xs.map V.int) (ys.map V.int)) cp g Mo te σ H Q:=by
 refine Yd xs.length (by rw[jb_];lia) (by rw[jb_];lia) (by rw[jb_];exact .inl rfl) (fun i zs ai H2=>Same H H2/\zs=((pf f xs ys).take i).map V.int/\∃o1 o2,ai=o1::o2::af) ⟨Same.refl _,by simp,none,none,e⟩ hz (fun i zs ai H2 hi h=>?_) (fun i u v zs ai H2 t hi hu hv h ht=>?_) (fun zs ai H2 h D hD=>?_)
 ·obtain⟨s2,rfl,_⟩:=h;exact⟨h1.mono s2,h2.mono s2,by rw[jb_,jI_];lia⟩
 ·obtain⟨s2,rfl,o1,o2,rfl⟩:=h;obtain⟨x,hx,rfl⟩:=Kr hu;obtain⟨y,hy,rfl⟩:=Kr hv;refine hg t _ _ o1 o2 _ _ Ab ?_;rw[Rp,if_pos rfl];refine hs x y _ (jo_ hx) (jo_ hy) (s2.newT ht) _ ⟨s2.newT ht,?_,_,_,rfl⟩;rw[jU_,xx_,hx,hy];simp
 ·obtain⟨s2,rfl,_⟩:=h;have:=hd H2 D s2 hD
  rwa [q4_ (by rw[ze_];lia)]
end L2
namespace Nest
noncomputable def sl (row:α2)(b i:Nat):α2:=(row.take i).drop b
noncomputable def dl (p e x:Int):Int:=if x=e then -1 else if p<=x then 1 else 0
noncomputable def outF (p e:Int)(s:α2×Int)(x:Int):α2×Int:=if x=e then (s.1,s.2-1) else (if s.2=0 then s.1++[x] else s.1,if p<=x then s.2+1 else s.2)
noncomputable def outS (p e:Int)(l:α2):α2×Int:=l.foldl (outF p e) ([],0)
noncomputable def outW (p e:Int)(l:α2):α2:=(outS p e l).1
noncomputable def wd (p e:Int)(row:α2)(i a:Nat):α2:=outW p e (sl row (a+1) i)
end Nest
namespace L2
open PySem PySem.Spec PyProof.Rows GW
def OB {K:α3} (hK:X.K=K)(hc:X.calm=true)(h:PGs X es t)
  (hn:(assignEach es X.env).length=n:=by rfl) (cH:(assignEach es X.env).findIdx? (·.1)=none:=by rfl):PG X (.Tuple es k pos) (gTup K n t):=by
 subst hK;exact LP hc h hn cH
end L2
namespace HT
open PySem PySem.Spec PyProof.Rows L2
section
variable {prog:Program} {w:World} {A:Around} {E:Value->Shared->Prop} {s:Shared}
def getItem_tuple_whole {t sl:Addr} {lo hi:Option Int} (ht:IsTup s.heap t items)(hs:s.heap.IsSliceOf sl vl vu .none)(pl:IsPart vl lo)(pu:IsPart vu hi)
  (hw:sIx items.size 0 lo=0/\sIx items.size items.size hi=items.size) (h:Q (.ref t) s):wpAny (model prog w) A (getItem (.ref t) (.ref sl)) Q E s:=by
 obtain⟨os,fo,eQ,iH⟩:=id hs;have mY:s.TypeIs (.ref sl) "slice" := ⟨os,fo,eQ⟩;unfold getItem
 try with_reducible refine q7_ ?_
 first|refine ja_ (jf_ ?_)|skip
 refine ja_ (wpAny_sequenceKey ht.typeIs (by decide) ?_);refine ja_ (jS_ (name:=Str.ofString "__getitem__") ht.typeIs qa_
  (jZ_ qa_ ht.typeIs entry_tuple_getitem ?_ (args_tuple_getitem _ _)))
 show wpAny _ _ (Builtin.Tuple.tupleItemsOf (.ref t) >>= _) _ _ s;refine ja_ (tupleItemsOf_ ht ?_);refine ja_ (zM_ mY ?_);rw[if_pos (by decide)];refine ja_ (Ff hs pl pu ?_);rw[hw.1,hw.2];show wpAny _ _ (if ((((0:Nat):Int)==0&&(1:Int)==1&&(items.size-0)==items.size)=true) then _ else _) _ _ s;rw[if_pos (by simp)];refine ja_ ?_;unfold Builtin.Tuple.tupleIsExact;refine ja_ (zM_ ht.typeIs (jf_ ?_));rw[if_pos (by decide)];refine ja_ (z6_ ?_);exact jf_ ⟨_,rfl,jf_ h⟩
end
end HT
namespace L2
open PySem PySem.Spec PyProof.Rows GW
noncomputable def Ye (K:α3):V->Option Int->Option Int->Hp->VK->Prop:=fun x lo hi H Q=>∃a xs,x=.ref a/\SqT K H a xs/\∀p H',Same H H'->SqT K H' p (cutV xs lo hi)->Q (.ref p) H'
theorem Vu {K:α3} {lo hi:Option Int} : Ye K x lo hi H Q=∃a xs,x=.ref a/\SqT K H a xs/\∀p H',Same H H'->SqT K H' p (cutV xs lo hi)->Q (.ref p) H':=rfl
def OC : SlR X (Ye X.K):=by
 intro aa s σ H x v vl vu lo hi sl Q I rx hs pl pu h;obtain⟨a,xs,rfl,hx,q⟩:=h;by_cases hw:HT.sIx xs.length 0 lo=0/\HT.sIx xs.length xs.length hi=xs.length
 ·cases rx;obtain⟨ah,r,ht,hz⟩:=I.tuple hx;have ak:ah.toArray.size=xs.length:=by rw[jn_];exact r.length.symm
  refine⟨"tuple",_,qa_.lookup,ht.typeIs,?_⟩;refine HT.getItem_tuple_whole ht hs pl pu (by rw[ak];exact hw) ⟨.ref a,H,I,rfl,q a H (Same.refl _) ?_⟩;unfold cutV;rw[hw.1,hw.2,xf_,zj_,jF_];exact hx
 ·exact UQ aa s σ H (.ref a) v vl vu lo hi sl Q I rx hs pl pu ⟨a,xs,rfl,hx,hw,fun p hp=>q p _ (Same.new hp) (SqT.of Ab)⟩
def Wv {K:α3} (hK:X.K=K)(hl:PE X l tl):PI X tg l (iSeq K tl):=by subst hK;exact Ry hl
def R1 {K:α3} (g:Nat->V)(e:cp.st σ=none::af)(hl:SqB K H t a xs)(hz:xs.length<sizeLine)(hs:∀i x,xs[i]?=some x->∀R:VK,R (g i) H->te (some x::af) H R)(hd:∀D,H D=none->Q (.ref D) (upd H D (.lst ((oX xs.length).map g)))):
  ((∃xs,SqL K H a xs)/\HV (Itl K a) cp (IW 0) Mo te σ H Q)\/((∃xs,SqT K H a xs)/\HV (Itt K a) cp (IW 0) Mo te σ H Q):=by
 cases t
 ·refine .inl ⟨⟨_,hl⟩,KQ (xs:=xs) (fun i ys ai H2=>H2=H/\ys=(oX i).map g/\∃o,ai=o::af) ⟨rfl,rfl,none,e⟩ hz (fun i ys ai H2 hi h=>?_) (fun i x ys ai H2 hx h=>?_) (fun ys ai H2 h=>?_)⟩
  ·obtain⟨rfl,rfl,_⟩:=h;exact⟨hl,by rw[jb_,jX_];exact jh_ _⟩
  ·obtain⟨rfl,rfl,o,rfl⟩:=h;refine hs i x hx _ ⟨rfl,?_,some x,rfl⟩;rw[qM_,jm_];rfl
  ·obtain⟨rfl,rfl,_⟩:=h;exact hd
 ·refine .inr ⟨⟨_,hl⟩,Wi (xs:=xs) (fun i ys ai H2=>H2=H/\ys=(oX i).map g/\∃o,ai=o::af) ⟨rfl,rfl,none,e⟩ hz (fun i ys ai H2 hi h=>?_) (fun i x ys ai H2 hx h=>?_) (fun ys ai H2 h=>?_)⟩
  ·obtain⟨rfl,rfl,_⟩:=h;exact⟨hl,by rw[jb_,jX_];exact jh_ _⟩
  ·obtain⟨rfl,rfl,o,rfl⟩:=h;refine hs i x hx _ ⟨rfl,?_,some x,rfl⟩;rw[qM_,jm_];rfl
  ·obtain⟨rfl,rfl,_⟩:=h;exact hd
end L2
namespace L2
open PySem PySem.Spec PyProof.Rows
def FP {K:α3}(h:X.K=K):OpR X (binaryOp .Add) (Cd K):=by subst h;exact Dn
end L2
set_option maxHeartbeats 1000000
set_option maxHeartbeats 4000000
namespace L2
section
variable {α:Type} [DecidableEq α]
noncomputable def ins1 (acc:List α)(x:α):List α:=if x∈acc then acc else acc++[x]
noncomputable def Ww (acc row:List α):List α:=row.foldl ins1 acc
noncomputable def R3 (row:List α):List α:=Ww [] row
noncomputable def num (row:List α):α2:=row.map fun x=>((R3 row).idxOf x:Int)
noncomputable def ncl (row:List α):Nat:=(R3 row).length
end
noncomputable def rowB (n:Nat)(b:α2->Nat->Int)(w:α2):α2:=(oX n).map (b w)
noncomputable abbrev StC:=α1×α2
noncomputable def YT (n:Nat)(b:α2->Nat->Int)(w:α2)(st:StC)(x:Nat):StC:=if ncl st.2<ncl (st.2.zip (rowB n b ((x:Int)::w))) then (st.1++[(x:Int)::w],num (st.2.zip (rowB n b ((x:Int)::w)))) else st
noncomputable def Yf (n:Nat)(b:α2->Nat->Int)(w:α2)(L:Nat)(st:StC):StC:=(oX L).foldl (YT n b w) st
noncomputable def Vv (n:Nat)(b:α2->Nat->Int)(L:Nat):Nat->Nat->StC->StC
 |0,_,st=>st
 |f+1,k,st=>if k<st.1.length then Vv n b L f (k+1) (Yf n b (st.1.getD k []) L st) else st
section
variable {n L:Nat} {b:α2->Nat->Int} {w:α2} {st:StC}
noncomputable def wcOf (n L:Nat)(b:α2->Nat->Int):StC:=Vv n b L 41 0 ([[]],num (rowB n b []))
end
end L2
namespace L2
open GW GB
noncomputable def bW (ck:α2)(aR:α1)(w:α2)(r:Nat):Int:=ck.getD (YN aR (r:Int) w).toNat 0
noncomputable def cf (c:α2)(r:Int):Int:=c.getD r.toNat 0
noncomputable def hm (c R:α2)(r:Int):Int:=(((R3 (R.map (cf c))).idxOf (cf c r):Nat):Int)
noncomputable def hrow (c R:α2)(aR:α1)(r:Int):α2:=(aR.getD r.toNat []).map (hm c R)
noncomputable def cOf (L:Nat)(ck:α2)(aR:α1):α2:=(wcOf ck.length L (bW ck aR)).2
noncomputable def rOf (aR:α1):α2:=(RC aR).map (·.1)
noncomputable def hO (L:Nat)(ck:α2)(aR:α1)(r:Int):Int:=hm (cOf L ck aR) (rOf aR) r
section
variable {L:Nat} {ck:α2} {aR:α1}
noncomputable def wi (aR:α1)(r:Int):α2:=(((RC aR).find? fun e=>decide (e.1=r)).map (·.2)).getD []
end
end L2
set_option maxHeartbeats 1000000
set_option maxHeartbeats 4000000
namespace L2
open PySem PySem.Spec PyProof.Rows
section
variable {X:Cx} {aa:α7} {σ:St} {H:Hp} {s:Shared} {a:Addr}
def Inv.freezeK (I:Inv X aa σ H s)(e:H a=some (.dK kvs))(ho:s.heap.get? a=some o):Inv X aa σ (upd H a (.frz o (.dK kvs))) s:=by
 refine IZ (h':=s.heap) (t':=s.toks) I (by rw[e];exact oZ) ⟨rfl,fun _ _=>rfl⟩ ⟨o,ho⟩ ?_;exact⟨ho,(show AY X.prog X.w H s.heap a (.dK kvs) from I.hok a _ e)⟩
end
def dkAt (ok:HOk P w H h)(e:Rd H a (.dK kvs)):
  ∃vs ep,h.DictAt (AX P w) a vs ep/\KV kvs vs/\(a==sysModules)=false/\kvs.length<=sizeLine:=by
 obtain⟨z,y,vs,r,m⟩:=Nr ok e;obtain⟨ep,bz⟩:=m.dictAt;exact⟨vs,ep,bz,r,y,z⟩
def KV.get {kvs:List (Key×V)}{vs:List (Key×Value)}(r:KV kvs vs){i:Nat}{k:Key}{v:V}(h:kvs[i]?=some (k,v)):∃u,vs[i]?=some (k,u)/\RelV v u:=by
 obtain⟨q,hq,e1,e2⟩:=GA r h;exact⟨q.2,by rw[hq,show k=q.1 from e1],e2⟩
noncomputable def ItkK (o:Obj)(a:Addr)(kvs:List (Key×V)):It:=⟨fun i H=>i<kvs.length/\H a=some (.frz o (.dK kvs)),fun i H x H'=>H'=H/\∃k v,kvs[i]?=some (k,v)/\x=kV k,fun i H=>kvs.length<=i/\H a=some (.frz o (.dK kvs))⟩
def T2 (ok:HOk P w H h)(hd:o.data=.dict es ep)(e:H a=some (.frz o (.dK kvs))):∃vs,h.DictAt (AX P w) a vs ep/\KV kvs vs/\vs.length=kvs.length:=by
 obtain⟨mq,_⟩:=(show AY P w H h a (.frz o (.dK kvs)) from ok a _ e);obtain⟨vs,ma,bz,r,_,_⟩:=dkAt ok (.inr ⟨o,e⟩);obtain⟨o',eA,g1,g2,g3,g4⟩:=id bz;rw[mq]at g1;cases g1;rw[hd]at g3;cases g3;exact⟨vs,bz,r,r.length.symm⟩
noncomputable def FzAt (d:Addr)(H H':Hp):Prop:=(∀a u,a≠d->H a=some u->H' a=some u)/\∀u,H d=some u->H' d=some u \/ ∃kvs o,u=.dK kvs/\H' d=some (.frz o (.dK kvs))
def FzAt.of (s:Same H H'):FzAt d H H':=⟨fun a u _ h=>s a u h,fun u h=>.inl (s d u h)⟩
def FzAt.trans {H H' H2:Hp}(s:FzAt d H H')(t:FzAt d H' H2):FzAt d H H2:=by
 refine⟨fun a u ha h=>t.1 a u ha (s.1 a u ha h),fun u h=>?_⟩;rcases s.2 u h with h' | ⟨kvs,o,e,h'⟩
 ·exact t.2 u h'
 ·rcases t.2 _ h' with h2|⟨_,_,e2,_⟩
  ·exact .inr ⟨kvs,o,e,h2⟩
  ·cases e2
def FzAt.lst {d a:Addr}{H H':Hp}{xs:List V}(s:FzAt d H H')(h:H a=some (.lst xs)):H' a=some (.lst xs):=by
 by_cases e:a=d
 ·subst e;rcases s.2 _ h with h' | ⟨_,_,e,_⟩
  ·exact h'
  ·cases e
 ·exact s.1 a _ e h
def FzAt.seqT {K:α3} (s:FzAt d H H')(h:SqT K H a xs):SqT K H' a xs:=by
 have key:∀u,(∀kvs,u ≠ .dK kvs)->H a=some u->H' a=some u:=fun u hu h=>by
  by_cases e:a=d
  ·subst e;rcases s.2 _ h with h' | ⟨kvs,_,e,_⟩
   ·exact h'
   ·exact absurd e (hu kvs)
  ·exact s.1 a _ e h
 rcases h with (q|⟨o,q⟩)|q
 ·exact .inl (.inl (key _ (fun _ z=>nomatch z) q))
 ·exact .inl (.inr ⟨o,key _ (fun _ z=>nomatch z) q⟩)
 ·exact .inr q
def FzAt.rd (s:FzAt d H H')(h:Rd H a (.dK kvs)):Rd H' a (.dK kvs):=by
 by_cases e:a=d
 ·subst e;rcases h with h|⟨o,h⟩
  ·rcases s.2 _ h with h' | ⟨kvs,o,e,h'⟩
   ·exact .inl h'
   ·cases e;exact .inr ⟨o,h'⟩
  ·rcases s.2 _ h with h' | ⟨kvs,o',e,h'⟩
   ·exact .inr ⟨o,h'⟩
   ·cases e
 ·rcases h with h|⟨o,h⟩
  ·exact .inl (s.1 a _ e h)
  ·exact .inr ⟨o,s.1 a _ e h⟩
def FzAt.same (s:FzAt d H H')(h:Same H0 H)(hd:H0 d=none):Same H0 H':=fun a u e=>s.1 a u (fun z=>by rw[z,hd]at e;cases e) (h a u e)
def FzAt.new (h:Rd H d (.dK kvs))(h1:H' d=some (.frz o (.dK kvs)))(h2:∀b,b≠d->H' b=H b)(h3:∀o',H d=some (.frz o' (.dK kvs))->o'=o):FzAt d H H':=by
 refine⟨fun a u ha e=>by rw[h2 a ha];exact e,fun u e=>?_⟩;rcases h with h|⟨o',h⟩
 ·rw[h]at e;cases e;exact .inr ⟨kvs,o,rfl,h1⟩
 ·rw[h]at e;cases e;rw[h3 o' h] ;exact .inl h1
def frzK (I:Inv X aa σ H s)(e:Rd H a (.dK kvs)):
  ∃o es vs ep H2,Inv X aa σ H2 s/\H2 a=some (.frz o (.dK kvs))/\FzAt a H H2/\s.heap.DictAt (AX X.prog X.w) a vs ep/\s.heap.get? a=some o/\o.ExactDict/\o.data=.dict es ep/\vs.length=kvs.length/\(a==sysModules)=false:=by
 obtain⟨vs,ep,bz,r,g5,g6⟩:=dkAt I.hok e;obtain⟨od,es,g1,g2,g3,g4⟩:=id bz;rcases e with e|⟨o,e⟩
 ·exact⟨od,es,vs,ep,_,I.freezeK e g1,Ab,FzAt.new (.inl e) Ab (fun b hb=>Aj hb) (fun o' z=>by rw[e]at z;cases z),bz,g1,g2,g3,r.length.symm,g5⟩
 ·obtain⟨mq,_⟩:=(show AY X.prog X.w H s.heap a (.frz o (.dK kvs)) from I.hok a _ e);rw[mq]at g1;cases g1;exact⟨_,es,vs,ep,H,I,e,FzAt.of (Same.refl _),bz,mq,g2,g3,r.length.symm,g5⟩
def Qi {P:Program}{w:World}{K:α3}{tg:Expr}{o:Obj}{a it:Addr}{kvs:List (Key×V)}{es:Array DictEntry}{ep:Nat}(dI:a≠it)(hd:o.data=.dict es ep):
  Turn P w K tg (ItkK o a kvs) [it] it (fun i h=>h.IsKeyIter it a i kvs.length ep) where
 mem:=by simp
 obj:=fun i h st b hb=>by
  have e:b=it:=by simpa using hb
  subst e;obtain⟨o,e,c,d⟩:=st;exact⟨o,e,fun v z=>by rw[d]at z;cases z⟩
 keep:=fun i h h' st k=>st.at fun o e=>k it (by simp) o e
 item:=by
  intro X hP hw hK lg i aa s σ H E I hf st hg;subst hP hw hK;obtain⟨hi,hq⟩:=hg;obtain⟨vs,bz,r,hl⟩:=T2 I.hok hd hq;obtain⟨kv,cA⟩:∃kv,kvs[i]?=some kv:=⟨kvs[i],by simp[hi]⟩;obtain⟨k,v⟩:=kv;obtain⟨u,hu,ru⟩:=KV.get r cA;obtain⟨f0,f1,f2,f3,f4,f5⟩:=hf it (by simp);refine wpAny_pyNext_dict_item (kvs:=vs) (by rw[hl];exact st) bz hu fun key h' hk cO sb=>?_;rw[hl]at cO;have I1:Inv X aa σ H {s with heap:=h' }:=I.turned (t':=s.toks) (fun b o hb e=>(sb.2 b hb).trans e) f0 f1 f3 f4 f5;obtain⟨io,e,c,d⟩:=id cO;exact⟨_,rfl,QM (s:={s with heap:=h' }) e c d (by decide) ⟨kV k,H,I1,Nw hk,⟨rfl,k,v,cA,rfl⟩,cO,fun b hb=>(hf b hb).1⟩⟩
 done:=by
  intro X hP hw hK lg i aa s σ H E I hf st hg;subst hP hw hK;obtain⟨hi,hq⟩:=hg;obtain⟨vs,bz,r,hl⟩:=T2 I.hok hd hq;obtain⟨f0,f1,f2,f3,f4,f5⟩:=hf it (by simp);exact wpAny_pyNext_dict_end (kvs:=vs) (I.ok.hd lg) (by rw[hl];exact st) bz (jy_ s!"") fun h' eb=>⟨rfl,I.turned (t':=s.toks) (fun b o hb e=>eb b o hb e) f0 f1 f3 f4 f5⟩
 self:=fun _ _ _ _ _ st h=>wpAny_pyIter_keyiter st h
noncomputable def Vw (td:TE):TI:=fun σ H R=>td σ H fun x H1=>∃a kvs,x=.ref a/\Rd H1 a (.dK kvs)/\∀o H2,H2 a=some (.frz o (.dK kvs))->FzAt a H1 H2->R (ItkK o a kvs) H2
theorem PD : Vw te σ H Z=te σ H fun x H1=>∃a kvs,x=.ref a/\Rd H1 a (.dK kvs)/\∀o H2,H2 a=some (.frz o (.dK kvs))->FzAt a H1 H2->Z (ItkK o a kvs) H2:=rfl
def T3 (hl:PE X l tl):PI X tg l (Vw tl):=by
 intro aa s σ H R I h;refine thn (hl aa s σ H _ I h) fun v s1 ⟨x,H1,I1,r1,q1⟩=>?_;obtain⟨a,kvs,e,hq,q⟩:=q1;subst e;cases r1;obtain⟨o,es,vs,ep,H2,I2,nJ,hF,bz,g1,g2,g3,ak,g5⟩:=frzK I1 hq;refine wpAny_pyIter_dict g5 bz ?_;refine⟨s1.heap.objs.size,[s1.heap.objs.size],_,_,_,rfl,I2.kept (t':=s1.toks) fun b o e=>jd_ _ e,Qi (o:=o) (kvs:=kvs) (jG_ (jl_ g1)) g3,⟨_,jp_ _ rfl,rfl,by rw[ak];rfl⟩,fun b hb=>?_,q o H2 nJ hF⟩;have e:b=s1.heap.objs.size:=by simpa using hb
 subst e;exact I2.fpOk (jh_ _) (I2.hok.fresh (jh_ _))
def YU (Pv:Nat->St->Hp->Prop)(h0:Pv 0 σ H)(hl:∀i σ H,i<=kvs.length->Pv i σ H->H a=some (.frz o (.dK kvs)))
  (hs:∀i k v σ H,kvs[i]?=some (k,v)->Pv i σ H->g (kV k) σ H fun ai H2=>tb {D with nx:=Pv (i+1),ct:=Pv (i+1),bk:=D.nx} ai H2) (hd:∀σ H,Pv kvs.length σ H->D.nx σ H):ForW (ItkK o a kvs) g tb D σ H:=by
 refine⟨fun i m σ H=>m+i=kvs.length/\Pv i σ H,⟨kvs.length,by lia,h0⟩,fun i m σ H ⟨hm,hp⟩=>?_⟩;have hq:=hl i σ H s!"" hp;by_cases hi:i<kvs.length
 ·refine .inr ⟨⟨hi,hq⟩,Pv (i+1),fun af H' h=>⟨m-1,by lia,by lia,h⟩,fun x H' hy=>?_⟩;obtain⟨rfl,k,v,hk,rfl⟩:=hy;exact hs i k v σ _ hk hp
 ·have e:i=kvs.length:=by lia
  subst e;exact .inl ⟨⟨jh_ _,hq⟩,hd σ H hp⟩
noncomputable def ItiK (o:Obj)(a:Addr)(kvs:List (Key×V)):It:=⟨fun i H=>i<kvs.length/\H a=some (.frz o (.dK kvs)),fun i H x H'=>∃t k v,H t=none/\kvs[i]?=some (k,v)/\x=.ref t/\H'=upd H t (.tup [kV k,v]),fun i H=>kvs.length<=i/\H a=some (.frz o (.dK kvs))⟩
def OD {P:Program}{w:World}{K:α3}{b7:List Expr}{x1}{bL:Pos}{o:Obj}{a it:Addr}{kvs:List (Key×V)}{es:Array DictEntry}{ep:Nat}(dI:a≠it)(hd:o.data=.dict es ep):
  Turn P w K (.Tuple b7 x1 bL) (ItiK o a kvs) [it] it (fun i h=>∃ok ov,IsItemIter h it a i kvs.length ep ok ov) where
 mem:=by simp
 obj:=fun i h st b hb=>by
  have e:b=it:=by simpa using hb
  subst e;obtain⟨ok,ov,e⟩:=st;exact⟨_,e,fun v z=>by cases z⟩
 keep:=fun i h h' st k=>by
  obtain⟨ok,ov,e⟩:=st;exact⟨ok,ov,k it (by simp) _ e⟩
 item:=by
  intro X hP hw hK lg i aa s σ H E I hf st hg;subst hP hw hK;obtain⟨hi,hq⟩:=hg;obtain⟨ok,ov,st⟩:=st;obtain⟨vs,bz,r,hl⟩:=T2 I.hok hd hq;obtain⟨kv,cA⟩:∃kv,kvs[i]?=some kv:=⟨kvs[i],by simp[hi]⟩;obtain⟨k,v⟩:=kv;obtain⟨u,hu,ru⟩:=KV.get r cA;refine wpAny_pyNext_items_item (kvs:=vs) (by rw[hl];exact st) bz hu fun key h' hk g1 g5 gsz gk=>?_;rw[hl]at g1;have nI:s.heap.objs.size≠it:=j7_ (jl_ st);refine⟨_,rfl,wpAny_letOwnedTupleGo_items g1 fun cK e1 bB=>?_⟩;have dm:∀b o,b ∉ [it]->s.heap.get? b=some o->cK.get? b=some o:=fun b o hb q=>by
   simp only[jk_]at hb;exact (bB.2 b hb).trans (gk b o hb q)
  obtain⟨un,hok⟩:=I.unL dm hf;have hn:H s.heap.objs.size=none:=I.hok.fresh (jh_ _);have new:AY X.prog X.w (upd H s.heap.objs.size (.tup [kV k,v])) cK s.heap.objs.size (.tup [kV k,v]):=⟨by have:=Al;simp;lia,[key,u],.cons (Nw hk) (.cons ru .nil),_,(bB.2 _ nI).trans g5,rfl,_,rfl⟩;refine⟨.ref s.heap.objs.size,upd H s.heap.objs.size (.tup [kV k,v]),I.call' (s':={s with heap:=cK }) (ch:=[it]) rfl (un.track (jh_ _) hn) (hok.track hn new) I.bare (fun b hb=>(hf b hb).ch),rfl,⟨_,k,v,hn,cA,rfl,rfl⟩,⟨_,_,e1⟩,fun b hb=>?_⟩;have dq:=hf b hb;have e:b=it:=by simpa using hb
  subst e;rw[Aj (jG_ (jl_ st))];exact dq.1
 done:=by
  intro X hP hw hK lg i aa s σ H E I hf st hg;subst hP hw hK;obtain⟨hi,hq⟩:=hg;obtain⟨ok,ov,st⟩:=st;obtain⟨vs,bz,r,hl⟩:=T2 I.hok hd hq;refine wpAny_pyNext_items_end (kvs:=vs) (I.ok.hd lg) (by rw[hl];exact st) bz (jy_ s!"") fun h' eb=>⟨rfl,?_⟩;obtain⟨f0,f1,f2,f3,f4,f5⟩:=hf it (by simp);exact I.turned (t':=s.toks) (fun b o hb e=>eb b o hb e) f0 f1 f3 f4 f5
 self:=fun A i s Q E st h=>by
  obtain⟨ok,ov,st⟩:=st;exact uo st h
noncomputable def R4 (td:TE):TI:=fun σ H R=>td σ H fun x H1=>∃a kvs,x=.ref a/\Rd H1 a (.dK kvs)/\∀o H2,H2 a=some (.frz o (.dK kvs))->FzAt a H1 H2->R (ItiK o a kvs) H2
theorem Nz : R4 te σ H Z=te σ H fun x H1=>∃a kvs,x=.ref a/\Rd H1 a (.dK kvs)/\∀o H2,H2 a=some (.frz o (.dK kvs))->FzAt a H1 H2->Z (ItiK o a kvs) H2:=rfl
def R5 {x1} (ho:PE X o td)(aW:attributeBase o "items" X.env (eval o X.env)=eval o X.env:=by rfl)(dj:(aJ.endLine==aM.line)=true:=by rfl):PI X (.Tuple b7 x1 bL) (.Call (.Attribute o "items" aJ) [] [] aM) (R4 td):=by
 intro aa s σ H R I h;refine wpAny_Call_method0_late aW dj (thn (ho aa s σ H _ I h) fun v s1 ⟨x,H1,I1,r1,q1⟩=>?_);obtain⟨a,kvs,e,hq,q⟩:=q1;subst e;obtain rfl:v=Value.ref a:=r1;obtain⟨od,es,vs,ep,H2,I2,nJ,hF,bz,g1,g2,g3,ak,g5⟩:=frzK I1 hq;have hT:s1.TypeIs (.ref a) "dict" := ⟨od,g1,g2.1⟩;refine⟨"dict","dict.items",xF_,xH_,pU,hT,fun b e=>?_,xn_ rfl (qy ?_)⟩
 ·cases e;exact⟨od,g1,g2.2.1⟩
 refine jZ_ xH_ hT pP (?_:wpAny _ _ (Builtin.«dict.items» _) _ _ s1) (pL _);unfold Builtin.«dict.items»;refine ja_ ?_;unfold Builtin.Dict.noArgs;refine ja_ (xU_ hT ?_);show wpAny _ _ (pure a) _ _ s1;refine jf_ ?_;show wpAny _ _ (Builtin.Dict.showsAll a >>= _) _ _ s1;unfold Builtin.Dict.showsAll;rw[if_neg (by rw[g5];exact jj_)];refine ja_ (jf_ ?_);refine ja_ (jT_ (jf_ ⟨_,rfl,?_⟩));have hU:∀b u,s1.heap.get? b=some u->(s1.heap.push {cls:=.type "dict_items",data:=.fields #[.ref a]}).get? b=some u:=fun b u e=>jd_ _ e;refine wpAny_pyIter_items (s:={s1 with heap:=s1.heap.push {cls:=.type "dict_items",data:=.fields #[.ref a]} }) ⟨_,jp_ _ rfl,rfl,rfl⟩ (bz.keep hU) ?_;have dJ:s1.heap.objs.size<=(s1.heap.push {cls:=.type "dict_items",data:=.fields #[.ref a]}).objs.size:=by rw[j3_];exact wp_ _
 refine⟨_,[(s1.heap.push {cls:=.type "dict_items",data:=.fields #[.ref a]}).objs.size],_,_,_,rfl,I2.kept (t':=s1.toks) fun b u e=>jd_ _ (hU b u e),OD (o:=od) (kvs:=kvs) (jG_ (jt_ (jl_ g1) dJ)) g3,⟨.none,.none,?_⟩,fun b hb=>?_,q od H2 nJ hF⟩
 ·rw[<-ak];exact jp_ _ rfl
 ·have e:b=(s1.heap.push {cls:=.type "dict_items",data:=.fields #[.ref a]}).objs.size:=by simpa using hb
  subst e;exact I2.fpOk dJ (I2.hok.fresh dJ)
def YV (Pv:Nat->St->Hp->Prop)(h0:Pv 0 σ H)(hl:∀i σ H,i<=kvs.length->Pv i σ H->H a=some (.frz o (.dK kvs)))
  (hs:∀i k v t σ H,kvs[i]?=some (k,v)->Pv i σ H->H t=none->g (.ref t) σ (upd H t (.tup [kV k,v])) fun ai H2=>tb {D with nx:=Pv (i+1),ct:=Pv (i+1),bk:=D.nx} ai H2) (hd:∀σ H,Pv kvs.length σ H->D.nx σ H):ForW (ItiK o a kvs) g tb D σ H:=by
 refine⟨fun i m σ H=>m+i=kvs.length/\Pv i σ H,⟨kvs.length,by lia,h0⟩,fun i m σ H ⟨hm,hp⟩=>?_⟩;have hq:=hl i σ H s!"" hp;by_cases hi:i<kvs.length
 ·refine .inr ⟨⟨hi,hq⟩,Pv (i+1),fun af H' h=>⟨m-1,by lia,by lia,h⟩,fun x H' hy=>?_⟩;obtain⟨t,k,v,ht,hk,rfl,rfl⟩:=hy;exact hs i k v t σ _ hk hp ht
 ·have e:i=kvs.length:=by lia
  subst e;exact .inl ⟨⟨jh_ _,hq⟩,hd σ H hp⟩
noncomputable def iOr (t u:TI):TI:=fun σ H R=>t σ H R\/u σ H R
theorem Yg : iOr t u σ H Z=(t σ H Z\/u σ H Z):=rfl
def Yh (h:PI X tg e t)(g:PI X tg e u):PI X tg e (iOr t u):=fun aa s σ H R I q=>q.elim (fun q=>h aa s σ H R I q) (fun q=>g aa s σ H R I q)
def forE {K:α3} (h:SqB K H t a xs)(Pv:Nat->St->Hp->Prop)(h0:Pv 0 σ H)(hl:∀i σ H,i<=xs.length->Pv i σ H->SqB K H t a xs)
  (hs:∀i v σ H q,xs[i]?=some v->Pv i σ H->H q=none->g (.ref q) σ (upd H q (.tup [.int i,v])) fun ai H2=>tb {D with nx:=Pv (i+1),ct:=Pv (i+1),bk:=D.nx} ai H2) (hd:∀σ H,Pv xs.length σ H->D.nx σ H):
  (∃ys,SqL K H a ys/\ForW (Itm K a ys) g tb D σ H) \/ ∃ys,SqT K H a ys/\ForW (Itn K a ys) g tb D σ H:=by
 cases t
 ·exact .inl ⟨xs,h,forM Pv h0 hl hs hd⟩
 ·exact .inr ⟨xs,h,forN Pv h0 hl hs hd⟩
def YW {K:α3} (h:SqB K H t a xs)(Pv:Nat->List V->St->Hp->Prop)(h0:Pv 0 [] (cp.st σ) H)(hz:xs.length<sizeLine)
  (hl:∀i zs σ H,i<=xs.length->Pv i zs σ H->SqB K H t a xs/\zs.length<=i)
  (hs:∀i v zs σ H q,xs[i]?=some v->Pv i zs σ H->H q=none->g (.ref q) σ (upd H q (.tup [.int i,v])) fun ai H2=>tc ai H2 fun b H3=>if b=true then te ai H3 fun v H4=>Pv (i+1) (zs++[v]) ai H4 else Pv (i+1) zs ai H3)
  (hd:∀zs σ H,Pv xs.length zs σ H->∀D,H D=none->Q (.ref D) (upd H D (.lst zs))):
  (∃ys,SqL K H a ys/\HV (Itm K a ys) cp g tc te σ H Q) \/ ∃ys,SqT K H a ys/\HV (Itn K a ys) cp g tc te σ H Q:=by
 cases t
 ·refine .inl ⟨xs,h,fun i m zs σ H=>m=xs.length-i/\i<=xs.length/\Pv i zs σ H,⟨xs.length,by simp,qc_ _,h0⟩,?_⟩;rintro i m zs σ H ⟨rfl,hi,p⟩;obtain⟨q1,ly⟩:=hl i zs σ H hi p;refine⟨by lia,?_⟩;by_cases aH:i<xs.length
  ·refine .inr ⟨⟨aH,q1⟩,Pv (i+1),fun gF af H' p'=>⟨xs.length-(i+1),by lia,rfl,aH,p'⟩,fun x H' y=>?_⟩;obtain⟨q,v,e1,e2,rfl,rfl⟩:=y;exact hs i v zs σ H q e2 p e1
  ·have e:i=xs.length:=by lia
   subst e;exact .inl ⟨⟨rfl,q1⟩,hd zs σ H p⟩
 ·refine .inr ⟨xs,h,fun i m zs σ H=>m=xs.length-i/\i<=xs.length/\Pv i zs σ H,⟨xs.length,by simp,qc_ _,h0⟩,?_⟩;rintro i m zs σ H ⟨rfl,hi,p⟩;obtain⟨q1,ly⟩:=hl i zs σ H hi p;refine⟨by lia,?_⟩;by_cases aH:i<xs.length
  ·refine .inr ⟨⟨aH,q1⟩,Pv (i+1),fun gF af H' p'=>⟨xs.length-(i+1),by lia,rfl,aH,p'⟩,fun x H' y=>?_⟩;obtain⟨q,v,e1,e2,rfl,rfl⟩:=y;exact hs i v zs σ H q e2 p e1
  ·have e:i=xs.length:=by lia
   subst e;exact .inl ⟨⟨rfl,q1⟩,hd zs σ H p⟩
def AM : Er X (.type "tuple") (fun xs H Q=>∃p ys,xs=[.ref p]/\((SqL X.K H p ys/\∀l,H l=none->Q (.ref l) (upd H l (.tup ys)))\/False)):=fun aa s σ H xs us Q I r h=>by
 obtain⟨p,ys,e,h|h⟩:=h
 ·exact HS aa s σ H xs us Q I r ⟨p,ys,e,.inl h⟩
 ·exact h.elim
def JD : Er X (.type "tuple") (fun xs H Q=>∃p ys,xs=[.ref p]/\(False\/(SqT X.K H p ys/\Q (.ref p) H))):=fun aa s σ H xs us Q I r h=>by
 obtain⟨p,ys,e,h|h⟩:=h
 ·exact h.elim
 ·exact HS aa s σ H xs us Q I r ⟨p,ys,e,.inr h⟩
def Mw {K:α3}(h:X.K=K):Er X (.type "tuple") (fun xs H Q=>∃p ys,xs=[.ref p]/\((SqL K H p ys/\∀l,H l=none->Q (.ref l) (upd H l (.tup ys)))\/False)):=by subst h;exact AM
def Mx {K:α3}(h:X.K=K):Er X (.type "tuple") (fun xs H Q=>∃p ys,xs=[.ref p]/\(False\/(SqT K H p ys/\Q (.ref p) H))):=by subst h;exact JD
def len1 {α:Type}{us:List α}(h:us.length=1):∃a,us=[a]:=by match us,h with|[a],_=>exact⟨a,rfl⟩
def len2 {α:Type}{us:List α}(h:us.length=2):∃a b,us=[a,b]:=by match us,h with|[a,b],_=>exact⟨a,b,rfl⟩
def len3 {α:Type}{us:List α}(h:us.length=3):∃a b c,us=[a,b,c]:=by match us,h with|[a,b,c],_=>exact⟨a,b,c,rfl⟩
def len4 {α:Type}{us:List α}(h:us.length=4):∃a b c d,us=[a,b,c,d]:=by match us,h with|[a,b,c,d],_=>exact⟨a,b,c,d,rfl⟩
def len5 {α:Type}{us:List α}(h:us.length=5):∃a b c d e,us=[a,b,c,d,e]:=by match us,h with|[a,b,c,d,e],_=>exact⟨a,b,c,d,e,rfl⟩
def len6 {α:Type}{us:List α}(h:us.length=6):∃a b c d e f,us=[a,b,c,d,e,f]:=by match us,h with|[a,b,c,d,e,f],_=>exact⟨a,b,c,d,e,f,rfl⟩
noncomputable def R6 (u:TS)(D:Ends):St->Hp->Prop:=u D
noncomputable def Yi (t u:TS):TS:=fun D σ H=>t {D with nx:=R6 u D} σ H
theorem Vx : Yi t u D σ H=t {D with nx:=R6 u D} σ H:=rfl
def Ci (h:u D σ H):R6 u D σ H:=h
def CV {st:Stmt}{rest:List Stmt} (h1:PS X st t)(h2:PSs X rest u):PSs X (st::rest) (Yi t u):=Ac h1 h2
end L2
set_option maxHeartbeats 1000000
set_option maxHeartbeats 4000000
namespace L2
open PySem PySem.W PySem.Spec PySem.Calls PyProof.Rows
structure CMeth (K:α3)(C:Addr)(m:Str)(f:Addr):Prop where
 sg:pO K (.ref C) "__getattribute__"=some (some (.builtin "type.__getattribute__"))
 rd:ux K C (.type "type")=true
 fc:uy K (.ref C) (.type "type") m=some (.val (.ref f))
 kp:keepIn K (.ref f)=true
section
variable {X:Cx} {CX:CXT} {k:Nat} {f C:Addr} {fd:α6} {ps:List Str} {sp:Sp} {aV:List V} {ds:List Value} {E:XK} {x m:Str} {np aJ pos:Pos} {e:Expr} {es:List Expr} {t:TA}
def Wx (hg:Gl X x)(hmx:X.mg x=some (.ref C))(hm:CMeth X.K C m f)(F:FnOk X.prog X.w X.K X.mg X.base CX k f fd ps sp)(hr:Room k X.A)(hb:Binds X.K fd ps ds)(hd:Vals aV ds)(hx:FE CX X E)(ha:PA X (e::es) t)
  (fm:(x==("__debug__" : Str))=false:=by decide) (cH:starEach (e::es) X.env=(false,eval e X.env)::starEach es X.env:=by rfl) (cQ:(backTo pos (starEach es X.env)).any (·.1)=false:=by rfl)
  (ht:eval (.Call (.Attribute (.Name x np) m aJ) (e::es) [] pos) X.env=(do
   let ov <- eval (.Name x np) X.env
   standAt aJ.atName
   let (f,first) <- holding [ov] (getMethod ov m pl)
   callWith pos f first (backTo pos (starEach (e::es) X.env)) (backToKw pos (keywordEach [] X.env))):=by rfl):
  PE X (.Call (.Attribute (.Name x np) m aJ) (e::es) [] pos) (Th sp aV E t):=by
 intro aa s σ H Q I h;refine xs_ (pl:=pl) (IV I hg hmx ?_ fm) ht;refine tR I.kIn hm.sg (tZ I.kIn hm.rd hm.fc rfl ?_);refine xN_ (first:=[]) (h₀:=X.base) I.ok.mod.kin hm.kp (thn (ha pos aa _ σ H _ (I.tok _) h) fun us s2 ⟨vs,H2,I2,r,q2⟩=>⟨I2.kIn,?_⟩) cH cQ;exact O5 F hr hb hd hx I2 r q2
end
end L2
namespace L2
open PySem PySem.W PySem.Spec PySem.Calls PyProof.Rows
def R7 (he:PE X o ta)(c:Cls X.K C)(hm:Meth X.K C m f)(F:FnOk X.prog X.w X.K X.mg X.base CX k f fd ps sp)(hr:Room k X.A)(hb:Binds X.K fd ps ds)(hd:Vals aV ds)(hx:∀σ,Kt CX X σ (E σ))
  (ht:eval (.Call (.Attribute o m aJ) [] [] pos) X.env=(do
   let ov <- eval o X.env
   standAt aJ.atName
   let (f,first) <- holding [ov] (getMethod ov m pl)
   callWith pos f first (backTo pos (starEach [] X.env)) (backToKw pos (keywordEach [] X.env))):=by rfl):
  PE X (.Call (.Attribute o m aJ) [] [] pos) (RS C m sp aV E ta tNil):=by
 intro aa s σ H Q I h;refine xs_ (pl:=pl) (thn (he aa s σ H _ I h) fun u s1 ⟨x,H1,I1,rx,a,dx,fs,ex,ea,l,q⟩=>?_) ht;subst ex;obtain rfl:u=Value.ref a:=rx;refine Gx I1 ea c hm l ?_;exact qx (first:=[.ref a]) I1.kIn hm.kp (Rv (us:=[.ref a]) (vs:=[.ref a]) F hr hb hd (hx σ) I1 (.cons rfl .nil) q)
end L2
namespace L2
open PySem PySem.W PySem.Spec PySem.Calls PyProof.Rows
noncomputable def vD:Option (Option V)->(V->Prop)->Prop
 |some (some v),q=>q v
 |_,_=>False
theorem R8 : vD (some (some v)) q=q v:=rfl
def YX (h:vD o q):∃v,o=some (some v)/\q v:=by
 match o,h with
 |some (some v),h=>exact⟨v,rfl,h⟩
noncomputable def Yj (i:Nat):TE:=fun σ H Q=>vD σ[i]? fun v=>Q v H
theorem Vy : Yj i σ H Q=vD σ[i]? fun v=>Q v H:=rfl
def pvD (i:Nat) (hN:X.N[i]?=some x:=by rfl)(hv:Vis X.env.scope x:=by first|exact o9 rfl|exact pJ (o9 rfl)|exact pJ (pJ rfl))(hd:(x==("__debug__" : Str))=false:=by decide)
  (cy:(x==("__classdict__" : Str))=false:=by decide):PE X (.Name x pos) (Yj i):=fun aa s σ H Q I h=>pv i hN hv hd cy aa s σ H Q I (YX h)
noncomputable def iD:V->V->(Int->Int->Prop)->Prop
 |.int i,.int j,q=>q i j
 |x,y,q=>∃i j,x=.int i/\y=.int j/\q i j
theorem Vz : iD (.int i) (.int j) q=q i j:=rfl
def Wy : iD x y q=∃i j,x=.int i/\y=.int j/\q i j:=by
 cases x<;>cases y<;>first|rfl|(simp[iD])
noncomputable def rID (C:Int->Int->Prop)(g:Int->Int->V):R2:=fun x y H Q=>iD x y fun i j=>C i j/\Q (g i j) H
noncomputable def rI0D (g:Int->Int->V):R2:=fun x y H Q=>iD x y fun i j=>Q (g i j) H
theorem r_ID : rID C f x y H Q=iD x y fun i j=>C i j/\Q (f i j) H:=rfl
theorem Yk : rI0D f x y H Q=iD x y fun i j=>Q (f i j) H:=rfl
def Yl : rID C g=rI C g:=by
 funext x y H Q;exact Wy
def Wz : rI0D g=rI0 g:=by
 funext x y H Q;exact Wy
def opD (h:OpR X f (rI C g)):OpR X f (rID C g):=by rw[Yl];exact h
def opD0 (h:OpR X f (rI0 g)):OpR X f (rI0D g):=by rw[Wz];exact h
noncomputable def bD:V->(Bool->Prop)->Prop
 |.bl c,q=>q c
 |x,q=>∃c,x=.bl c/\q c
theorem Ym : bD (.bl c) q=q c:=rfl
def Yn : bD x q=∃c,x=.bl c/\q c:=by
 cases x<;>first|rfl|(simp[bD])
noncomputable def tBD (t:TE):TT:=fun σ H Q=>t σ H fun x H1=>bD x fun c=>Q c H1
theorem r_BD : tBD te σ H R=te σ H fun x H1=>bD x fun c=>R c H1:=rfl
def VA : tBD t=tB t:=by
 funext σ H Q
 show t σ H _=t σ H _
 congr 1
 funext x H1;exact Yn
def WA : tBD t=Te t:=VA
def ptB (h:PT X e (tB t)):PT X e (tBD t):=by rw[VA];exact h
def ptT (h:PT X e (Te t)):PT X e (tBD t):=by rw[WA];exact h
noncomputable def eD:V->V->Prop->Prop
 |.int _,.int _,q=>q
 |.str _,.str _,q=>q
 |.non,.non,q=>q
 |.bl _,.bl _,q=>q
 |x,y,q=>scal x y=true/\q
theorem VB : eD (.int i) (.int j) q=q:=rfl
theorem VC : eD (.str i) (.str j) q=q:=rfl
theorem VD : eD .non .non q=q:=rfl
theorem Yo : eD (.bl i) (.bl j) q=q:=rfl
def WB : eD x y q=(scal x y=true/\q):=by
 cases x<;>cases y<;>first|rfl|(simp[eD,scal])
noncomputable def rEqF:R2:=fun x y H Q=>eD x y (Q (.bl (decide (x=y))) H)
noncomputable def rNeF:R2:=fun x y H Q=>eD x y (Q (.bl (!decide (x=y))) H)
theorem Yp : rEqF x y H Q=eD x y (Q (.bl (decide (x=y))) H):=rfl
theorem Yq : rNeF x y H Q=eD x y (Q (.bl (!decide (x=y))) H):=rfl
def WD:rEqF=rEq:=by funext x y H Q;exact WB
def WE:rNeF=rNe:=by funext x y H Q;exact WB
def opE (h:OpR X f rEq):OpR X f rEqF:=by rw[WD];exact h
def opN (h:OpR X f rNe):OpR X f rNeF:=by rw[WE];exact h
noncomputable def aD:V->(Addr->Prop)->Prop
 |.ref a,q=>q a
 |x,q=>∃a,x=.ref a/\q a
theorem VE : aD (.ref a) q=q a:=rfl
def T4 : aD x q=∃a,x=.ref a/\q a:=by
 cases x<;>first|rfl|(simp[aD])
noncomputable def nD:V->(Int->Prop)->Prop
 |.int a,q=>q a
 |x,q=>∃a,x=.int a/\q a
theorem VF : nD (.int a) q=q a:=rfl
def R9 : nD x q=∃a,x=.int a/\q a:=by
 cases x<;>first|rfl|(simp[nD])
noncomputable def WG (K:α3):R2:=fun x y H Q=>aD x fun p=>∃xs,nD y fun i=>SqT K H p xs/\∃v,atI xs i=some v/\Q v H
noncomputable def WH (K:α3):R2:=fun x y H Q=>aD x fun p=>∃xs,nD y fun i=>SqL K H p xs/\∃v,atI xs i=some v/\Q v H
theorem VG {K:α3} : WG K x y H Q=aD x fun p=>∃xs,nD y fun i=>SqT K H p xs/\∃v,atI xs i=some v/\Q v H:=rfl
theorem VH {K:α3} : WH K x y H Q=aD x fun p=>∃xs,nD y fun i=>SqL K H p xs/\∃v,atI xs i=some v/\Q v H:=rfl
def T5 {K:α3}:WG K=rIxT K:=by
 funext x y H Q
 show aD x _=∃p xs i v,_;rw[T4];refine propext ⟨fun ⟨p,e,h⟩=>?_,fun ⟨p,xs,i,v,e1,e2,e3,e4,e5⟩=>⟨p,e1,?_⟩⟩
 ·obtain⟨xs,h⟩:=h;rw[R9]at h;obtain⟨i,e2,e3,v,e4,e5⟩:=h;exact⟨p,xs,i,v,e,e2,e3,e4,e5⟩
 ·refine⟨xs,?_⟩;rw[R9];exact⟨i,e2,e3,v,e4,e5⟩
def T6 {K:α3}:WH K=rIxL K:=by
 funext x y H Q
 show aD x _=∃p xs i v,_;rw[T4];refine propext ⟨fun ⟨p,e,h⟩=>?_,fun ⟨p,xs,i,v,e1,e2,e3,e4,e5⟩=>⟨p,e1,?_⟩⟩
 ·obtain⟨xs,h⟩:=h;rw[R9]at h;obtain⟨i,e2,e3,v,e4,e5⟩:=h;exact⟨p,xs,i,v,e,e2,e3,e4,e5⟩
 ·refine⟨xs,?_⟩;rw[R9];exact⟨i,e2,e3,v,e4,e5⟩
def ixTD {K:α3}(h:IxR X (rIxT K)):IxR X (WG K):=by rw[T5];exact h
def ixLD {K:α3}(h:IxR X (rIxL K)):IxR X (WH K):=by rw[T6];exact h
noncomputable def lD1:List V->(V->Prop)->Prop
 |[x],q=>q x
 |xs,q=>∃x,xs=[x]/\q x
theorem Sa : lD1 [x] q=q x:=rfl
def Yr : lD1 xs q=∃x,xs=[x]/\q x:=by
 match xs with
 |[]=>rfl
 |[x]=>simp[lD1]
 |x::y::r=>rfl
noncomputable def WI (K:α3):List V->Hp->VK->Prop:=fun xs H Q=>lD1 xs fun x=>aD x fun p=>∃ys,(SqL K H p ys\/SqT K H p ys)/\Q (.int ys.length) H
theorem VI {K:α3} : WI K xs H Q=lD1 xs fun x=>aD x fun p=>∃ys,(SqL K H p ys\/SqT K H p ys)/\Q (.int ys.length) H:=rfl
def lenD {K:α3} (h:Er X f (fun xs H Q=>∃p ys,xs=[.ref p]/\(SqL K H p ys\/SqT K H p ys)/\Q (.int ys.length) H)):Er X f (WI K):=by
 have e:WI K=fun xs H Q=>∃p ys,xs=[.ref p]/\(SqL K H p ys\/SqT K H p ys)/\Q (.int ys.length) H:=by
  funext xs H Q
  show lD1 xs _=_;rw[Yr];refine propext ⟨fun ⟨x,e,h⟩=>?_,fun ⟨p,ys,e,h1,h2⟩=>⟨_,e,ys,h1,h2⟩⟩;rw[T4]at h;obtain⟨p,rfl,ys,h1,h2⟩:=h;exact⟨p,ys,e,h1,h2⟩
 rw[e];exact h
def Ak (hN:X.N.Nodup)(he:PE X e te)(hi:X.N[i]?=some x:=by rfl)(hx:Loc X.env.scope x:=by exact o9 rfl)(hs:swapsWith e (some (.Name x bK)) pos.line X.env=pure false:=by rfl)(hf:X.fn x=true\/X.env.scope.names.lookup x=some .local:=by first|exact .inl rfl|exact .inr rfl|assumption):PS X (.Assign [.Name x bK] e pos) (tAsg te (IW i)):=Jw hN hi hx he hs hf
def As (hr:IxR X r)(ha:PE X a ta)(hb:PE X b tb)(hs:Q5 b:=by exact fun _ _=>rfl):PE X (.Subscript a b pos) (tOp r ta tb):=YL hr ha hb hs
end L2
namespace PySem
open Sem (wp)
structure VKind (prog:Program)(w:World)(K:Type)[DecidableEq K] where
 is:Heap->K->Value->Prop
 hash:K->Int
 draws:K->Nat
 room:Around->Prop
 inj:∀{h:Heap} {a:Value} {x y:K},is h x a->is h y a->x=y
 keeps:∀{h h':Heap} {k:K} {a:Value} {d:Addr} {o:Obj} {es ep},is h k a->h.get? d=some o->o.data=.dict es ep->Heap.SameBut d h h'->is h' k a
 pyHash:∀{A:Around} {E:Value->Shared->Prop} {s:Shared} {k:K} {a:Addr} {Q:Int->Shared->Prop},room A->is s.heap k (.ref a)->Q (hash k) {s with toks:=s.toks+draws k}->wpAny (model prog w) A (PySem.pyHash (.ref a)) Q E s
 eqBool:∀{A:Around} {E:Value->Shared->Prop} {s:Shared} {x y:K} {u:Value} {b:Addr} {Q:Bool->Shared->Prop},room A->is s.heap x u->is s.heap y (.ref b)->Q (decide (x=y)) s->wpAny (model prog w) A (PySem.eqBool u (.ref b)) Q E s
 quiet:∀{A:Around} {E:Value->Shared->Prop} {s:Shared} {k:K} {a:Value} {Q:Bool->Shared->Prop},room A->is s.heap k a->Q true s->wpAny (model prog w) A (eqIsQuiet 8 a) Q E s
noncomputable abbrev NI:=Int ⊕ α2
noncomputable abbrev NK:=Option (List NI)
end PySem
namespace nK
open PySem PyProof.Rows
noncomputable def KE (κ:KeyKind)(x:Keyed):κ.α:=(κ.keyOf x.1).getD κ.dflt
noncomputable def NI (κ:KeyKind)(xs:Array Keyed)(lo hi:Nat):Prop:=∀i j,lo<=i->i<=j->j<hi->κ.kle (KK κ xs j) (KK κ xs i)
noncomputable def My:Bool->Keyed->Array Keyed->Nat->Nat->Nat->StateT SortSt Sem (Option Nat):=sortPriv% PySem.Builtin.gallop
noncomputable def Dr:Nat->StateT SortSt Sem Unit:=sortPriv% PySem.Builtin.setMinGallop
noncomputable def OE (a b aO:Array Keyed)(ia ib:Nat):Array Keyed:=aO++a.extract ia a.size++b.extract ib b.size
noncomputable def WJ (a b aO:Array Keyed)(ia ib:Nat):Array Keyed:=aO++b.extract ib b.size++a.extract ia a.size
noncomputable abbrev G5:=Option (Array Keyed)×Array Keyed×Nat×Nat×Nat
noncomputable abbrev G6:=Option (Array Keyed)×Array Keyed×Nat×Nat×Nat×Nat
noncomputable abbrev G7:=Option (Array Keyed)×Array Keyed×Nat×Nat×Nat×Nat×Nat
noncomputable def PC (a b aO:Array Keyed)(ia ib mg ac bc:Nat):StateT SortSt Sem (ForInStep G7):=do
 let y <- elem' a ia
 if (ia+1+1==a.size)=true then pure (.done (some (WJ a b (aO.push y) (ia+1) ib),aO.push y,ia+1,ib,mg,ac,bc))
 else if (decide (ac<7)&&decide (bc<7))=true then pure (.done (none,aO.push y,ia+1,ib,mg,ac,bc)) else pure (.yield (none,aO.push y,ia+1,ib,mg,ac,bc))
noncomputable def PB (a b aO:Array Keyed)(ia ib mg ac bc:Nat):StateT SortSt Sem (ForInStep G7):=do
 let y <- elem' b ib
 if (ib+1==b.size)=true then pure (.done (some (OE a b (aO.push y) ia (ib+1)),aO.push y,ia,ib+1,mg,ac,bc))
 else do
  let z <- elem' a ia
  let x <- My true z b (ib+1) (b.size-(ib+1)) 0
  match x with
  |some k=>if k > 0 then (if (ib+1+k==b.size)=true then pure (.done (some (OE a b (aO.push y++b.extract (ib+1) (ib+1+k)) ia (ib+1+k)),aO.push y++b.extract (ib+1) (ib+1+k),ia,ib+1+k,mg,ac,k)) else PC a b (aO.push y++b.extract (ib+1) (ib+1+k)) ia (ib+1+k) mg ac k) else PC a b (aO.push y) ia (ib+1) mg ac k
  |_=>pure (.done (some (OE a b (aO.push y) ia (ib+1)),aO.push y,ia,ib+1,mg,ac,bc))
noncomputable def PA (a b aO:Array Keyed)(ia ib mg ac bc:Nat):StateT SortSt Sem (ForInStep G7):=do
 Dr mg
 let y <- elem' b ib
 let x <- My false y a ia (a.size-ia) 0
 match x with
 |some k=>if k > 0 then (if (ia+k+1==a.size)=true then pure (.done (some (WJ a b (aO++a.extract ia (ia+k)) (ia+k) ib),aO++a.extract ia (ia+k),ia+k,ib,mg,k,bc)) else if (ia+k==a.size)=true then pure (.done (some (OE a b (aO++a.extract ia (ia+k)) (ia+k) ib),aO++a.extract ia (ia+k),ia+k,ib,mg,k,bc)) else PB a b (aO++a.extract ia (ia+k)) (ia+k) ib mg k bc) else PB a b aO ia ib mg k bc
 |_=>pure (.done (some (OE a b aO ia ib),aO,ia,ib,mg,ac,bc))
noncomputable def P1 (a b:Array Keyed)(mg:Nat)(c:G6):StateT SortSt Sem (ForInStep G6):=do
 let y <- elem' b c.2.2.2.1
 let z <- elem' a c.2.2.1
 let x <- lt' y z
 match x with
 |some bWins=>
  if bWins=true then
   elem' b c.2.2.2.1 >>= fun y=>
   if (c.2.2.2.1+1==b.size)=true then pure (.done (some (OE a b (c.2.1.push y) c.2.2.1 (c.2.2.2.1+1)),c.2.1.push y,c.2.2.1,c.2.2.2.1+1,0,c.2.2.2.2.2+1))
   else if c.2.2.2.2.2+1 >= mg then pure (.done (none,c.2.1.push y,c.2.2.1,c.2.2.2.1+1,0,c.2.2.2.2.2+1)) else pure (.yield (none,c.2.1.push y,c.2.2.1,c.2.2.2.1+1,0,c.2.2.2.2.2+1))
  else
   elem' a c.2.2.1 >>= fun y=>
   if (c.2.2.1+1+1==a.size)=true then pure (.done (some (WJ a b (c.2.1.push y) (c.2.2.1+1) c.2.2.2.1),c.2.1.push y,c.2.2.1+1,c.2.2.2.1,c.2.2.2.2.1+1,0))
   else if c.2.2.2.2.1+1 >= mg then pure (.done (none,c.2.1.push y,c.2.2.1+1,c.2.2.2.1,c.2.2.2.2.1+1,0)) else pure (.yield (none,c.2.1.push y,c.2.2.1+1,c.2.2.2.1,c.2.2.2.2.1+1,0))
 |_=>pure (.done (some (OE a b c.2.1 c.2.2.1 c.2.2.2.1),c.2.1,c.2.2.1,c.2.2.2.1,c.2.2.2.2.1,c.2.2.2.2.2))
noncomputable def P2 (a b:Array Keyed)(c:G7):StateT SortSt Sem (ForInStep G7):=if c.2.2.2.2.1 > 1 then PA a b c.2.1 c.2.2.1 c.2.2.2.1 (c.2.2.2.2.1-1) c.2.2.2.2.2.1 c.2.2.2.2.2.2 else PA a b c.2.1 c.2.2.1 c.2.2.2.1 c.2.2.2.2.1 c.2.2.2.2.2.1 c.2.2.2.2.2.2
noncomputable def PO (a b:Array Keyed)(c:G5):StateT SortSt Sem (ForInStep G5):=do
 let d <- forIn [0:a.size+b.size] ((none,c.2.1,c.2.2.1,c.2.2.2.1,0,0):G6) fun _ d=>P1 a b c.2.2.2.2 d
 match d.1 with
 |some r=>pure (.done (some r,d.2.1,d.2.2.1,d.2.2.2.1,c.2.2.2.2))
 |none=>do
  liftM (rule "list.sort.gallop")
  let e <- forIn [0:a.size+b.size] ((none,d.2.1,d.2.2.1,d.2.2.2.1,c.2.2.2.2+1,d.2.2.2.2.1,d.2.2.2.2.2):G7) fun _ e=>P2 a b e
  match e.1 with
  |some r=>pure (.done (some r,e.2.1,e.2.2.1,e.2.2.2.1,e.2.2.2.2.1))
  |none=>do
   Dr (e.2.2.2.2.1+1)
   pure (.yield (none,e.2.1,e.2.2.1,e.2.2.2.1,e.2.2.2.2.1+1))
noncomputable def OF (a b aO:Array Keyed)(na nb:Nat):Array Keyed:=a.extract 0 na++b.extract 0 nb++aO.reverse
noncomputable def Sb (a b aO:Array Keyed)(na nb:Nat):Array Keyed:=b.extract 0 nb++a.extract 0 na++aO.reverse
noncomputable abbrev H5:=Option (Array Keyed)×Nat×Nat×Array Keyed×Nat
noncomputable abbrev H6:=Option (Array Keyed)×Nat×Nat×Array Keyed×Nat×Nat
noncomputable abbrev H7:=Option (Array Keyed)×Nat×Nat×Array Keyed×Nat×Nat×Nat
noncomputable def HC (a b aO:Array Keyed)(na nb mg ac bc:Nat):StateT SortSt Sem (ForInStep H7):=do
 let y <- elem' a (na-1)
 if (na-1==0)=true then pure (.done (some (OF a b (aO.push y) (na-1) nb),na-1,nb,aO.push y,mg,ac,bc))
 else if (decide (ac<7)&&decide (bc<7))=true then pure (.done (none,na-1,nb,aO.push y,mg,ac,bc)) else pure (.yield (none,na-1,nb,aO.push y,mg,ac,bc))
noncomputable def HB (a b aO:Array Keyed)(na nb mg ac bc:Nat):StateT SortSt Sem (ForInStep H7):=do
 let y <- elem' b (nb-1)
 if (nb-1==1)=true then pure (.done (some (Sb a b (aO.push y) na (nb-1)),na,nb-1,aO.push y,mg,ac,bc))
 else do
  let z <- elem' a (na-1)
  let x <- My true z b 0 (nb-1) (nb-1-1)
  match x with
  |some t=>if nb-1-t > 0 then (if (t==1)=true then pure (.done (some (Sb a b (aO.push y++(b.extract t (nb-1)).reverse) na t),na,t,aO.push y++(b.extract t (nb-1)).reverse,mg,ac,nb-1-t)) else if (t==0)=true then pure (.done (some (OF a b (aO.push y++(b.extract t (nb-1)).reverse) na t),na,t,aO.push y++(b.extract t (nb-1)).reverse,mg,ac,nb-1-t)) else HC a b (aO.push y++(b.extract t (nb-1)).reverse) na t mg ac (nb-1-t)) else HC a b (aO.push y) na (nb-1) mg ac (nb-1-t)
  |_=>pure (.done (some (OF a b (aO.push y) na (nb-1)),na,nb-1,aO.push y,mg,ac,bc))
noncomputable def HA (a b aO:Array Keyed)(na nb mg ac bc:Nat):StateT SortSt Sem (ForInStep H7):=do
 Dr mg
 let y <- elem' b (nb-1)
 let x <- My false y a 0 na (na-1)
 match x with
 |some t=>if na-t > 0 then (if (t==0)=true then pure (.done (some (OF a b (aO++(a.extract t na).reverse) t nb),t,nb,aO++(a.extract t na).reverse,mg,na-t,bc)) else HB a b (aO++(a.extract t na).reverse) t nb mg (na-t) bc) else HB a b aO na nb mg (na-t) bc
 |_=>pure (.done (some (OF a b aO na nb),na,nb,aO,mg,ac,bc))
noncomputable def H1 (a b:Array Keyed)(mg:Nat)(c:H6):StateT SortSt Sem (ForInStep H6):=do
 let y <- elem' b (c.2.2.1-1)
 let z <- elem' a (c.2.1-1)
 let x <- lt' y z
 match x with
 |some aWins=>
  if aWins=true then
   elem' a (c.2.1-1) >>= fun y=>
   if (c.2.1-1==0)=true then pure (.done (some (OF a b (c.2.2.2.1.push y) (c.2.1-1) c.2.2.1),c.2.1-1,c.2.2.1,c.2.2.2.1.push y,c.2.2.2.2.1+1,0))
   else if c.2.2.2.2.1+1 >= mg then pure (.done (none,c.2.1-1,c.2.2.1,c.2.2.2.1.push y,c.2.2.2.2.1+1,0)) else pure (.yield (none,c.2.1-1,c.2.2.1,c.2.2.2.1.push y,c.2.2.2.2.1+1,0))
  else
   elem' b (c.2.2.1-1) >>= fun y=>
   if (c.2.2.1-1==1)=true then pure (.done (some (Sb a b (c.2.2.2.1.push y) c.2.1 (c.2.2.1-1)),c.2.1,c.2.2.1-1,c.2.2.2.1.push y,0,c.2.2.2.2.2+1))
   else if c.2.2.2.2.2+1 >= mg then pure (.done (none,c.2.1,c.2.2.1-1,c.2.2.2.1.push y,0,c.2.2.2.2.2+1)) else pure (.yield (none,c.2.1,c.2.2.1-1,c.2.2.2.1.push y,0,c.2.2.2.2.2+1))
 |_=>pure (.done (some (OF a b c.2.2.2.1 c.2.1 c.2.2.1),c.2.1,c.2.2.1,c.2.2.2.1,c.2.2.2.2.1,c.2.2.2.2.2))
noncomputable def H2 (a b:Array Keyed)(c:H7):StateT SortSt Sem (ForInStep H7):=if c.2.2.2.2.1 > 1 then HA a b c.2.2.2.1 c.2.1 c.2.2.1 (c.2.2.2.2.1-1) c.2.2.2.2.2.1 c.2.2.2.2.2.2 else HA a b c.2.2.2.1 c.2.1 c.2.2.1 c.2.2.2.2.1 c.2.2.2.2.2.1 c.2.2.2.2.2.2
noncomputable def HO (a b:Array Keyed)(c:H5):StateT SortSt Sem (ForInStep H5):=do
 let d <- forIn [0:a.size+b.size] ((none,c.2.1,c.2.2.1,c.2.2.2.1,0,0):H6) fun _ d=>H1 a b c.2.2.2.2 d
 match d.1 with
 |some r=>pure (.done (some r,d.2.1,d.2.2.1,d.2.2.2.1,c.2.2.2.2))
 |none=>do
  liftM (rule "list.sort.gallop")
  let e <- forIn [0:a.size+b.size] ((none,d.2.1,d.2.2.1,d.2.2.2.1,c.2.2.2.2+1,d.2.2.2.2.1,d.2.2.2.2.2):H7) fun _ e=>H2 a b e
  match e.1 with
  |some r=>pure (.done (some r,e.2.1,e.2.2.1,e.2.2.2.1,e.2.2.2.2.1))
  |none=>do
   Dr (e.2.2.2.2.1+1)
   pure (.yield (none,e.2.1,e.2.2.1,e.2.2.2.1,e.2.2.2.2.1+1))
noncomputable def wr (a:Array Keyed)(base:Nat)(r:List Keyed)(n:Nat):Array Keyed:=(r.zipIdx n).foldl (fun a (p,j)=>a.setIfInBounds (base+j) p) a
end nK
namespace nK
open PySem PyProof.Rows L2
noncomputable abbrev Wd:=Addr×α2
noncomputable def wv (ws:List Wd):List V:=ws.map fun w=>V.ref w.1
noncomputable def wu (ws:List Wd):List Value:=ws.map fun w=>Value.ref w.1
noncomputable def kw (w:Wd):Int×α2:=((w.2.length:Int),w.2)
section
variable {X:Cx} {aa:α7} {σ:L2.St} {H H0:Hp} {s:Shared} {A:Around} {E:Value->Shared->Prop} {ws:List Wd} {ts:List Addr} {a kT:Addr} {e1:Nat} {P:PySem.Fin->Shared->Prop} {f:Value}
noncomputable def Turn (X:Cx)(aa:α7)(σ:L2.St)(A:Around)(f:Value)(ws:List Wd)(H0:Hp):Prop:=∀w∈ws,∀(H':Hp) (s':Shared),Inv X aa σ H' s'->Same H0 H' ->
 wpAny (model X.prog X.w) A (call f [.ref w.1]) (EP X aa σ (fun k ji=>∃t,k=.ref t/\Same H' ji/\SqT X.K ji t [.int w.2.length,.ref w.1])) (fun _ _=>False) s'
end
end nK
namespace L2
open PySem PySem.Spec PyProof.Rows
def Room.d (r:Room k A)(h:j<=k:=by decide):Room j A:=r.mono h
noncomputable abbrev HA (K:α3)(x:Str)(f:Addr):Prop:=nsIn K mainGlobals x=some (some (.ref f))
structure HF (K:α3)(x:Str)(st:Stmt)(f:Addr)(fd:α6):Prop where
 a:nsIn K mainGlobals x=some (some (.ref f))
 F:Fun K x x st f fd
def HF.b {K:α3} {st:Stmt} (h:HF K x st f fd)(e:∀(kV bY pm:Value) (an:Option Addr) (ao ct v:Value),bindArgs (fnOf x x (IY st) (Ed st) (Ah st) .none kV bY pm an ao ct) ⟨[v],[]⟩=pure [(p,v)])(s:Shared)(v:Value):BindsTo s fd ⟨[v],[]⟩ [(p,v)]:=by
 obtain⟨_,_,_,_,_,_,_,_,_,rfl,_,_⟩:=h.F.ex;exact .of_eq (e _ _ _ _ _ _ _)
namespace DP
def entry_loop:entryFor table "dict.update.loop"=some Builtin.«dict.update.loop» := entryFor_of_tree (by kernel_rfl)
def plain_loop:plainId "dict.update.loop"=true:=by decide +kernel
end DP
noncomputable def DZ (kvs:List (List Key×V))(ps:List (List Key×V)):List (List Key×V):=ps.foldl (fun acc p=>putK acc p.1 p.2) kvs
def Rd.upd_dT (hd:H d=some (.dT kvs))(h:Rd H a u)(hu:∀z,u ≠ .dT z):Rd (upd H d (.dT du)) a u:=by
 have aG:a≠d:=by
  rintro rfl;rcases h with h|⟨o,h⟩<;>rw[hd]at h<;>injection h with h
  ·exact hu _ h.symm
  ·cases h
 unfold Rd;rw[Aj aG];exact h
section
variable {X:Cx} {aa:α7} {σ:St}
noncomputable def T7 (H:Hp)(ts:List Addr)(ps:List (List Key×V)):Prop:=
 ts.length=ps.length/\∀(j:Nat) (p:List Key×V) (q:Addr),ps[j]?=some p->ts[j]?=some q->∃b,Rd H q (.tup [.ref b,p.2])/\H b=some (.tup (p.1.map kV))
end
end L2
namespace L2
open PySem PySem.Spec PyProof.Rows
def JE:∀(ps kvs:List (List Key×V)),((kvs++ps).map (·.1)).Nodup->DZ kvs ps=kvs++ps
 |[],kvs,_=>by simp[DZ]
 |p::ps,kvs,h=>by
  have hp:putK kvs p.1 p.2=kvs++[p]:=by
   unfold putK;rw[if_neg];intro hx;rw[za_]at hx;obtain⟨q,hq,e⟩:=hx;have e:=x0_ e;rw[jm_,jR_,zK_]at h;exact h.2.2 q.1 (jv_.mpr ⟨q,hq,rfl⟩) p.1 (by simp) e
  show DZ (putK kvs p.1 p.2) ps=kvs++p::ps;rw[hp,JE ps (kvs++[p]) (by simpa using h)];simp
def WK (ns:α2):inV .non (ns.map V.int)=false:=by
 unfold inV;rw[sO,Bool.eq_false_iff];intro h;obtain⟨x,_,e⟩:=za_.mp h;cases e
def Ao.append {K:α3} (h:Ao K H xs as)(g:Ao K H ys bs):Ao K H (xs++ys) (as++bs):=by
 refine⟨by rw[js_,js_,h.1,g.1],fun i u hu=>?_⟩;by_cases hi:i<as.length
 ·rw[jx_ hi]at hu;obtain⟨t,a,b⟩:=h.2 i u hu;exact⟨t,by rw[jx_ (by rw[h.1];exact hi)];exact a,b⟩
 ·rw[jB_ s!""]at hu;obtain⟨t,a,b⟩:=g.2 _ u hu;exact⟨t,by rw[jB_ (by rw[h.1];lia),h.1];exact a,b⟩
def Ao.rowsN {K:α3} (h:Ao K H zs ws):∃ts:List Addr,zs=ts.map V.ref/\ts.length=ws.length/\∀(i:Nat) (t:Addr) (row:α2),ts[i]?=some t->ws[i]?=some row->H t=some (.tup (row.map V.int)):=by
 refine⟨zs.map fun v=>match v with | .ref t=>t|_=>0,?_,by rw[jb_,h.1],fun i t row h1 h2=>?_⟩
 ·refine qR_ fun i=>?_;rw[jK_,ji_];cases hz:zs[i]? with
  |none=>rfl
  |some v=>
   obtain⟨t,u,_,rfl,_⟩:=h.at hz;rfl
 ·obtain⟨t',a,b⟩:=h.2 i row h2;rw[ji_,a]at h1;cases h1;exact b
end L2
namespace N80
open Nest L2 GW
noncomputable def val (b:Nat)(v:α2):Nat:=v.foldl (fun a x=>a*b+x.toNat) 0
noncomputable def cod (b:Nat)(v:α2):Nat:=b ^ v.length+val b v
structure Turn {R:Type}(A:Int->α2->Prop)(p e:Int)(b:Nat)(fin:R->Prop)(best:R->Option (α2))(res:Option (α2)):Prop where
 s:∀t,res=some t->∃r,best r=some t/\fin r
 l:∀r t,best r=some t->fin r->∃t',res=some t'/\cod b t'<=cod b t
end N80
namespace HT
open PySem PyProof.Rows
inductive LtE (A:Around)(s:Shared)(f:Bool):List Value->List Value->Bool->Prop
 | endL {ws:List Value}:LtE A s f [] ws f
 | endR {vs:List Value}:LtE A s f vs [] f
 | eq {v w:Value} {vs ws:List Value} {b:Bool}:SeqAt.EqAt A s v w true->LtE A s f vs ws b->LtE A s f (v::vs) (w::ws) b
 | ne {v w:Value} {vs ws:List Value} {b:Bool}:SeqAt.EqAt A s v w false->(∀(prog:Program) (wd:World) (E:Value->Shared->Prop) (Q:Value->Shared->Prop),Q (.bool b) s->wpAny (model prog wd) A (richCompare .Lt v w) Q E s)->LtE A s f (v::vs) (w::ws) b
end HT
namespace L2
open PySem PySem.Spec PyProof.Rows
noncomputable def ItmN (lo:Int)(n:Nat):It:=⟨fun i _=>i<n,fun i H x H'=>H'=H/\x=.int (lo-i),fun i _=>n<=i⟩
def OG {P:Program}{w:World}{K:α3}{tg:Expr}(it:Addr)(lo:Int)(n:Nat):Turn P w K tg (ItmN lo n) [it] it (fun i h=>IsRangeIter h it (lo+(i:Nat)*(-1)) ((n:Int)-(i:Nat)) (-1)) where
 mem:=by simp
 obj:=fun i h st b hb=>by
  have e:b=it:=by simpa using hb
  subst e;exact⟨_,st,fun v z=>by
   have z':Data.fields _=Data.cell v:=z;cases z'⟩
 keep:=fun i h h' st k=>k it (by simp) _ st
 item:=by
  intro X hP hw hK hc i aa s σ H E I hf st hg;subst hP hw hK;obtain⟨f0,f1,f2,f3,f4,f5⟩:=hf it (by simp);have W:=Walks.range (prog:=X.prog) (w:=X.w) (I.ok.hd hc) it lo (-1) n;refine W.item i s _ _ hg st fun v h' tk hv cO kk=>?_;obtain⟨t,rfl⟩:=hv;have I1:Inv X aa σ H {s with heap:=h',toks:=tk}:=I.turned (fun b o hb e=>kk b o (by simpa using hb) e) f0 f1 f3 f4 f5;refine⟨_,rfl,QM (s:={s with heap:=h',toks:=tk}) (n := "range_iterator") cO rfl rfl (by decide) ⟨.int (lo-i),H,I1,⟨t,?_⟩,⟨rfl,rfl⟩,cO,fun b hb=>(hf b hb).1⟩⟩;rw[show lo+(i:Int) * -1=lo-i by lia]
 done:=by
  intro X hP hw hK hc i aa s σ H E I hf st hg;subst hP hw hK;obtain⟨f0,f1,f2,f3,f4,f5⟩:=hf it (by simp);exact wpAny_pyNext_range_end (I.ok.hd hc) st (by have:n<=i:=hg;lia) fun h' eb=>⟨rfl,I.turned (t':=s.toks) (fun b o hb e=>eb b o hb e) f0 f1 f3 f4 f5⟩
 self:=fun _ _ _ _ _ st h=>wpAny_pyIter_rangeiter st h
section
variable {X:Cx} {tg:Expr}
def Ys {lo hi:Int}:Builtin.Range.rangeSize lo hi (-1)=(((lo-hi).toNat:Nat):Int):=by
 unfold Builtin.Range.rangeSize;rw[if_neg (by decide)];split
 ·rw[show -(-1:Int)=1 from rfl,sI];lia
 ·lia
def Yt {lo hi:Int}(h1 : -(2 ^ 62)<=lo)(h2:lo<2 ^ 62)(h3 : -(2 ^ 62)<=hi)(h4:hi<2 ^ 62):Builtin.Range.small lo hi (-1)=true:=by
 unfold Builtin.Range.small;rw[Ys,if_neg (by decide)];unfold Builtin.Range.rangeFitsLong;simp only[j1_,qc,qG_,xp_];refine⟨⟨⟨⟨⟨?_,?_⟩,?_,?_⟩,?_,?_⟩,?_,?_⟩,.inr ⟨?_,?_⟩⟩<;>lia
def Sd {lo hi:Int} (I:Inv X aa σ H s)(h1 : -(2 ^ 62)<=lo)(h2:lo<2 ^ 62)(h3 : -(2 ^ 62)<=hi)(h4:hi<2 ^ 62)
  (q:R (ItmN lo (lo-hi).toNat) H):wpAny (model X.prog X.w) X.A (pyIter (.ref s.heap.objs.size)) (PIE X aa σ tg R) E {s with heap:=s.heap.push {cls:=.type "range",data:=.fields #[.int lo t,.int hi u,.int (-1) v]},toks:=tk}:=by
 refine wpAny_pyIter_range (IsRange.new ..) (Yt h1 h2 h3 h4) ?_;have I1:Inv X aa σ H {s with heap:=s.heap.push {cls:=.type "range",data:=.fields #[.int lo t,.int hi u,.int (-1) v]},toks:=tk}:=I.kept fun b o e=>jd_ _ e;refine⟨(s.heap.push {cls:=.type "range",data:=.fields #[.int lo t,.int hi u,.int (-1) v]}).objs.size,[(s.heap.push {cls:=.type "range",data:=.fields #[.int lo t,.int hi u,.int (-1) v]}).objs.size],_,_,H,rfl,
  I1.kept (t':=tk) fun b o e=>jd_ _ e,OG _ lo (lo-hi).toNat,?_,fun b hb=>?_,q⟩
 ·have e1:lo+((0:Nat):Int)*(-1)=lo:=by simp
  have e2:(((lo-hi).toNat:Nat):Int)-((0:Nat):Int)=Builtin.Range.rangeSize lo hi (-1):=by rw[Ys];lia
  show IsRangeIter _ _ (lo+((0:Nat):Int)*(-1)) ((((lo-hi).toNat:Nat):Int)-((0:Nat):Int)) (-1);rw[e1,e2];exact jp_ _ rfl
 ·have e:b=(s.heap.push {cls:=.type "range",data:=.fields #[.int lo t,.int hi u,.int (-1) v]}).objs.size:=by simpa using hb
  subst e;exact I1.fpOk (jh_ _) (I1.hok.fresh (jh_ _))
noncomputable def Yu (ta:TA):TI:=fun σ H R=>ta σ H fun vs H1=>∃i j:Int,vs=[.int i,.int j,.int (-1)]/\(-(2 ^ 62)<=i/\i<2 ^ 62 /\ -(2 ^ 62)<=j/\j<2 ^ 62)/\R (ItmN i (i-j).toNat) H1
theorem Se : Yu ta σ H R=ta σ H fun vs H1=>∃i j:Int,vs=[.int i,.int j,.int (-1)]/\(-(2 ^ 62)<=i/\i<2 ^ 62 /\ -(2 ^ 62)<=j/\j<2 ^ 62)/\R (ItmN i (i-j).toNat) H1:=rfl
def Sf (hg:Gl X "range")(hm:X.mg "range"=none)(ha:PA X [a,b,c] ta)(hs:starEach [a,b,c] X.env=[(false,eval a X.env),(false,eval b X.env),(false,eval c X.env)]:=by rfl)(bB:starEach [b,c] X.env=[(false,eval b X.env),(false,eval c X.env)]:=by rfl):
  PI X tg (.Call (.Name "range" p) [a,b,c] [] pos) (Yu ta):=by
 intro aa s σ H R I h;refine Call_ (HN I hg hm boot_range (qm_ (thn (ha pos aa s σ H _ I h) fun us s1 ⟨vs,H1,I1,r1,q1⟩=>?_) (by rw[hs,bB]) (by rw[bB];rfl)));obtain⟨i,j,e,⟨q1,q2,q3,q4⟩,q⟩:=q1;subst e;cases r1 with
 |cons r rr=>
  cases rr with
  |cons r' rr=>
   cases rr with
   |cons r'' rr=>
    cases rr;obtain⟨t,rfl⟩:=r;obtain⟨t',rfl⟩:=r';obtain⟨t'',rfl⟩:=r'';exact call_range_3 (by decide) (Sd I1 q1 q2 q3 q4 q) (o9 (PyProof.noPylong_small s!""))
def YY {lo:Int} (Pv:Nat->St->Hp->Prop)(h0:Pv 0 σ H)
  (hs:∀i σ H,i<n->Pv i σ H->g (.int (lo-i)) σ H fun ai H2=>tb {D with nx:=Pv (i+1),ct:=Pv (i+1),bk:=D.nx} ai H2) (hd:∀σ H,Pv n σ H->D.nx σ H):ForW (ItmN lo n) g tb D σ H:=by
 refine⟨fun i m σ H=>m+i=n/\Pv i σ H,⟨n,by lia,h0⟩,fun i m σ H ⟨hm,hp⟩=>?_⟩;by_cases hi:i<n
 ·refine .inr ⟨hi,Pv (i+1),fun af H' h=>⟨m-1,by lia,by lia,h⟩,fun x H' hy=>?_⟩;obtain⟨rfl,rfl⟩:=hy;exact hs i σ _ hi hp
 ·have e:i=n:=by lia
  subst e;exact .inl ⟨jh_ _,hd σ H hp⟩
end
end L2
namespace PySem
open Sem (wp)
def HX
  (hx:s.heap.get? a=some o) (hc:o.cls=.type "list") (dv:o.data=.seq xs k) (hd:o.dict=none) (hmiss:typeLookup (.type "list") name=pure none) (hname:(["__module__","__name__","__qualname__","__doc__","__annotations__"]:List Str).contains name=false) (hA:A.handled=none)
  (h:∀h' tk e,Heap.NewExcOf s.heap h' e "AttributeError" -> Q none {s with heap:=h',toks:=tk}) (hsz:name.length+100<=sizeLine:=by size_fits):
  wpAny (model prog w) A (getAttr? (.ref a) name) Q E s:=by
 obtain⟨c,mf,dat,sl⟩:=o;simp only at hc dv hd;subst hc dv hd;obtain⟨hp,g,d,tk,os⟩:=s;have hT:∀mj,(⟨hp,g,d,mj,os⟩:Shared).TypeIs (.ref a) "list" := fun _=>⟨_,hx,rfl⟩;have f1:=sub_AttributeError;have f3:=zl_.lookup;have f4:=zl_.bind (.ref a);have f5:=am_list_getattr_none;unfold getAttr? getAttrBy? getAttrBy
 repeat (any_goals (first|assumption|exact hT _|((with_reducible show wpAny _ _ (call (Value.builtin "list.__getattribute__") _ _) _ _ _);refine zh_ zl_ (hT _) am_entry_list_getattribute (F.args_list_getattribute_2 _ _) (meets_getattribute_miss_list a xs k sl name _ hmiss hname hsz) ⟨hx,hA,fun h' mj e gX=>?_⟩)|wp_step))
 obtain⟨t',u',he⟩:=gX.there;show wpAny _ _ (getattributeRaised _ _ _ _ _ _ _) _ _ _;unfold getattributeRaised
 repeat (any_goals (first|assumption|wp_step))
 exact h _ _ _ gX.of
end PySem
namespace L2
open PySem PySem.Spec PyProof.Rows
def Qj:typeLookup (.type "list") "keys"=pure none:=by rw[typeLookup_type,builtinLookup_eq_fast];kernel_rfl
section
variable {X:Cx} {aa:α7} {σ:St}
def Sg {d a it:Addr} (hu:A.units+20<cLine)(hh:A.handled=none):
  ∀(n i:Nat) (s:Shared) (H:Hp) (kvs:List (List Key×V)) (t:Tok),ps.length-i=n->i<=ps.length->Inv X aa σ H s->H d=some (.dT kvs)->kvs.length+n<sizeLine->s.heap.IsListIter it a i->FpOk X aa H it->H a=some (.lst (ts.map V.ref))->T7 H ts ps ->
   (∀s',Inv X aa σ (upd H d (.dT (DZ kvs (ps.drop i)))) s'->R (.ok (.ret .none)) s') ->
   codeAny (model X.prog X.w) A (.builtin "dict.update.loop" ⟨[.ref d,.ref it,.int i t,.none],[]⟩) R s:=by
 intro n
 induction n with
 |zero=>
  intro i s H kvs t hn hi I hd hz st hF hS hP hR;have bP:i=ps.length:=by lia
  subst bP;obtain⟨f0,f1,f2,f3,f4,f5⟩:=hF;obtain⟨ah,rv,p,mw⟩:=I.list (SqL.of hS);have hl:=rv.length;refine zw_ DP.entry_loop ?_;rw[x3_ DP.plain_loop _];show wpAny _ A.in1 (pyNext (.ref it) >>= _) _ _ s;refine ja_ (wpAny_pyNext_list_end hh st p.isList (by have:=hP.1;simp at hl ⊢;lia) fun h' eb=>?_);have I1:Inv X aa σ H {s with heap:=h' }:=I.turned (t':=s.toks) (fun b o hb e=>eb b o hb e) f0 f1 f3 f4 f5;have e0:upd H d (.dT (DZ kvs (ps.drop ps.length)))=H:=by
   rw[q1_];show upd H d (.dT kvs)=H
   funext b;unfold upd;split
   ·rename_i q;rw[q];exact hd.symm
   ·rfl
  rw[e0]at hR;exact ja_ (jf_ (jf_ (hR _ I1)))
 |succ n ih=>
  intro i s H kvs t hn hi I hd hz st hF hS hP hR;obtain⟨f0,f1,f2,f3,f4,f5⟩:=id hF;obtain⟨ah,rv,p,mw⟩:=I.list (SqL.of hS);have dz:i<ps.length:=by lia
  have aB:i<ts.length:=by rw[hP.1];exact dz
  obtain⟨u,gC,ru⟩:=rv.get (i:=i) (x:=V.ref ts[i]) (by simp[aB]);cases (show u=Value.ref ts[i] from ru);obtain⟨b,hq,hb⟩:=hP.2 i ps[i] ts[i] (by simp) (by simp);refine zw_ DP.entry_loop ?_;rw[x3_ DP.plain_loop _];show wpAny _ A.in1 (pyNext (.ref it) >>= _) _ _ s;refine ja_ (wpAny_pyNext_list_item st p.isList (x:=.ref ts[i]) (by simpa using gC) fun h' cO sb=>?_);have I1:Inv X aa σ H {s with heap:=h' }:=I.turned (t':=s.toks) (fun b o hb e=>(sb.2 b hb).trans e) f0 f1 f3 f4 f5;refine ja_ (q7_ ?_);obtain⟨aL,gE,⟨o2,gx,cR,k2,gT⟩,_⟩:=I1.tuple (.inl hq);refine ja_ (wpAny_tryCatch ?_);unfold Builtin.Dict.pairItems;refine ja_ (zM_ ⟨o2,gx,cR⟩ ?_);rw[if_pos (by decide)];refine ja_ (qK_ gx gT (jf_ ?_));cases gE with
  |cons r1 t2=>
  cases t2 with
  |cons r2 t3=>
  cases t3
  rename_i u1 u2
  cases (show u1=Value.ref b from r1);refine q7_ ?_;obtain⟨z,kz,xs,bx,dd⟩:=V8 I1.hok hd;have hzx:xs.length<=sizeLine:=by rw[<-zn_ bx];exact z
  have hl:(putK kvs ps[i].1 ps[i].2).length<=kvs.length+1:=DA kvs _ _;refine wpAny_dictSet_heap (hsz:=hzx) (xv_ s!"") (Jy I1.hok hb) dd fun h2 ft hs=>?_;obtain⟨q,es,ep,dQ,cK,h3,h4,_,h5⟩:=ft;have I2:=fun t'=>IZ (t':=t') (ob:=.dT (putK kvs ps[i].1 ps[i].2)) I1 (by rw[hd];exact oZ) hs ⟨q,dQ⟩ ⟨by lia,kz,_,(bx.put ps[i].1 hb r2).keeps fun c ys ec=>by
   rw[Aj (QK ec hd (fun z=>nomatch z))];exact ec,q,es,ep,dQ,cK,h3,h4,h5⟩
  refine jf_ ⟨z5_ DP.plain_loop _,?_⟩;have hdit:d≠it:=AL hd f0;refine ih (i+1) _ _ (putK kvs ps[i].1 ps[i].2) _ s!"" s!"" (I2 _) (by unfold upd;rw[if_pos rfl]) s!"" ?_ ?_ (by rw[Aj (QK hS hd (fun z=>nomatch z))];exact hS) ⟨hP.1,fun j p' q' hj iN=>?_⟩ ?_
  ·obtain⟨o,ho,r⟩:=cO;exact⟨o,(hs.2 it (qp_ hdit)).trans ho,r⟩
  ·exact⟨by rw[Aj (qp_ hdit)];exact f0,f1,f2,f3,f4,f5⟩
  ·obtain⟨b',hb1,jq⟩:=hP.2 j p' q' hj iN;exact⟨b',hb1.upd_dT hd (fun z e=>nomatch e),by rw[Aj (QK jq hd (fun z=>nomatch z))];exact jq⟩
  ·intro s' I';refine hR s' ?_;have e1:DZ kvs (ps.drop i)=DZ (putK kvs ps[i].1 ps[i].2) (ps.drop (i+1)):=by
    rw[pM dz];rfl
   have e2:upd (upd H d (.dT (putK kvs ps[i].1 ps[i].2))) d (.dT (DZ (putK kvs ps[i].1 ps[i].2) (ps.drop (i+1))))=upd H d (.dT (DZ kvs (ps.drop i))):=by
    rw[e1];funext c;unfold upd;split<;>rfl
   rw[<-e2];exact I'
end
section
variable {X:Cx} {aa:α7} {σ:St} {H:Hp} {s:Shared} {A:Around} {E:Value->Shared->Prop}
def Qk (I:Inv X aa σ H s)(ha:H a=some (.lst (ts.map V.ref)))(hP:T7 H ts ps)(hl:ps.length<sizeLine)(hu:A.units+30<cLine)(hh:A.handled=none)
  (h:∀s',Inv X aa σ (upd H s.heap.objs.size (.dT (DZ [] ps))) s'->Q (.ref s.heap.objs.size) s'):wpAny (model X.prog X.w) A (call (.type "dict") [.ref a]) Q E s:=by
 refine callType_codes (Q₁:=fun obj s₁=>obj=.ref s.heap.objs.size/\s₁={s with heap:=s.heap.push {cls:=.type "dict",data:=.dict #[]} }) F.kt_called_dict (F.kt_typeCall_dict_1 _) F.entry_dict_init (kt_code_dict_new _ ⟨rfl,rfl⟩) ?_;rintro obj s₁ ⟨rfl,rfl⟩;have I1:Inv X aa σ (upd H s.heap.objs.size (.dT [])) {s with heap:=s.heap.push {cls:=.type "dict",data:=.dict #[]} }:=I.laid (a:=s.heap.objs.size) (o:=.dT []) (t':=s.toks) (fun _ _ q=>jd_ _ q) (jh_ _) (Mm s.heap I.big);have hf:H s.heap.objs.size=none:=I.hok.fresh (jh_ _);have hT:Shared.TypeIs {s with heap:=s.heap.push {cls:=.type "dict",data:=.dict #[]} } (.ref s.heap.objs.size) "dict" := ⟨_,jp_ _ rfl,rfl⟩;obtain⟨hz,ah,n,rv,ho⟩:=(show AY X.prog X.w H s.heap a (.lst (ts.map V.ref)) from I.hok a _ ha);have nL:(s.heap.push {cls:=.type "dict",data:=.dict #[]}).get? a=some {cls:=.type "list",data:=.seq ah.toArray n}:=jd_ _ ho;refine⟨hT,F.args_dict_init_2 _ _,?_⟩;unfold Builtin.«dict.__init__»;refine ja_ ?_;unfold Builtin.Dict.selfAndRest;refine ja_ (xU_ hT ?_);show wpAny _ _ (pure (s.heap.objs.size,[Value.ref a])) _ _ _;refine jf_ ?_;show wpAny _ _ (Builtin.Dict.updateFrom "dict.__init__" s.heap.objs.size (.ref a) [] .none) _ _ _;unfold Builtin.Dict.updateFrom;refine ja_ (zM_ ⟨_,nL,rfl⟩ ?_);rw[if_pos (by decide)];refine ja_ ?_;refine HX (A:=A.in1.in1) (s:={s with heap:=s.heap.push {cls:=.type "dict",data:=.dict #[]} }) nL rfl rfl rfl Qj (by decide) (show A.in1.in1.handled=none from hh) fun h2 tk e hx=>?_;rw[if_pos (show (none:α5).isNone=true from rfl)];refine ja_ (z6_ (ja_ ?_));have I2:Inv X aa σ (upd H s.heap.objs.size (.dT [])) {s with heap:=h2,toks:=tk}:=I1.kept (t':=tk) (fun b u q=>hx.keeps b u q);have hoP2:h2.get? a=some {cls:=.type "list",data:=.seq ah.toArray n}:=hx.keeps _ _ nL;refine xY_ (s:={s with heap:=h2,toks:=tk}) (items:=ah.toArray) ⟨_,hoP2,rfl,_,rfl⟩ ?_;have I3:Inv X aa σ (upd H s.heap.objs.size (.dT [])) {s with heap:=h2.push {cls:=.type "list_iterator",data:=.fields #[.ref a,.int 0 0]},toks:=tk}:=I2.kept (t':=tk) (fun b u q=>jd_ _ q);refine jf_ ⟨z5_ DP.plain_loop _,?_⟩;have aG:∀b,H b≠none->b≠s.heap.objs.size:=fun b hb e=>hb (by rw[e];exact hf);refine Sg (A:=A.in1) (a:=a) (ts:=ts) (ps:=ps) (by show A.units+1+20<cLine;lia) (show A.in1.handled=none from hh) ps.length 0 _ _ [] _ s!"" s!"" I3 (by unfold upd;rw[if_pos rfl]) (by simpa using hl) ⟨_,jp_ _ rfl,rfl,rfl⟩ (I2.fpOk (jh_ _) ?_) ?_ ⟨hP.1,fun j p q hj hq=>?_⟩ fun s' I'=>?_
 ·exact I2.hok.fresh (jh_ _)
 ·rw[Aj (aG a (by rw[ha];exact fun z=>nomatch z))];exact ha
 ·obtain⟨b,h1,h2⟩:=hP.2 j p q hj hq;refine⟨b,?_,by rw[Aj (aG b (by rw[h2];exact fun z=>nomatch z))];exact h2⟩;unfold Rd;rw[Aj (aG q (by rcases h1 with h1|⟨o1,h1⟩<;>rw[h1]<;>exact fun z=>nomatch z))];exact h1
 ·refine⟨rfl,h s' ?_⟩;have e2:upd (upd H s.heap.objs.size (.dT [])) s.heap.objs.size (.dT (DZ [] (ps.drop 0)))=upd H s.heap.objs.size (.dT (DZ [] ps)):=by
   rw[xf_];funext c;unfold upd;split<;>rfl
  rw[<-e2];exact I'
noncomputable abbrev Yv:List V->Hp->VK->Prop:=fun xs H Q=>∃(a:Addr) (ts:List Addr) (ps:List (List Key×V)),xs=[.ref a]/\H a=some (.lst (ts.map V.ref))/\T7 H ts ps/\ps.length<sizeLine/\∀p,H p=none->Q (.ref p) (upd H p (.dT (DZ [] ps)))
def OH (hc:X.calm=true)(hr:Room k X.A):Er X (.type "dict") Yv:=by
 intro aa s σ H xs us Q I r h;obtain⟨a,ts,ps,rfl,ha,hP,hl,q⟩:=h;obtain⟨u,rfl,rx⟩:=vals1 r;cases rx;exact Qk I ha hP hl (by have:=hr.units;lia) (I.ok.hd hc) fun s' I'=>⟨.ref s.heap.objs.size,_,I',rfl,q _ (I.hok.fresh (jh_ _))⟩
end
end L2
namespace L2
open PySem PySem.Spec PyProof.Rows
structure HG (K:α3)(x q:Str)(st:Stmt)(f:Addr)(fd:α6)(M:Prop):Prop where
 m:M
 F:Fun K x q st f fd
section
variable {P:Program} {w:World} {K:α3} {mg:Str->α5} {base:Heap} {CX:CXT} {k:Nat} {x q:Str} {st:Stmt} {N ps:List Str} {sp:Sp} {f:Addr} {fd:α6} {M:Prop}
structure CalH (P:Program)(w:World)(mg:Str->α5)(base:Heap)(CX:CXT){K:α3}{x q:Str}{st:Stmt}{f:Addr}{fd:α6}{M:Prop}(h:HG K x q st f fd M)(k:Nat)(ps:List Str)(sp:Sp):Prop where
 g:FnOk P w K mg base CX k f fd ps sp
 b:Binds K fd ps []
noncomputable abbrev Bnd (x q:Str)(st:Stmt)(ps:List Str):Prop:=∀(kV bY pm:Value) (an:Option Addr) (ao ct:Value) (us:List Value),us.length=ps.length->bindArgs (fnOf x q (IY st) (Ed st) (Ah st) .none kV bY pm an ao ct) ⟨us,[]⟩=pure (ps.zip us)
def HG.ok (h:HG K x q st f fd M)(S:FnScope N ps (Ah st))(len:∀vs H Q E,sp vs H Q E->vs.length=ps.length)
  (bf:∀(ao:Value) (A:Around) (outer:List Env) (s:Shared) (H:Hp) (vs:List V) (Q:VK) (E:XK),Room k (A.deeper (envOfC q (Ah st) s.heap.objs.size f ao))->sp vs H Q E ->
   ∃t,PSs (cxOf CX0 P w K mg base N q (Ah st) f ao A outer s H E).nox (Ed st) t/\t {nx:=fun _ H'=>Q .non H',rt:=Q} (start N vs) H)
  (e:Bnd x q st ps:=by
   intro _ _ _ _ _ _ us hl;first|(obtain⟨_,rfl⟩:=len1 hl;rfl)|(obtain⟨_,_,rfl⟩:=len2 hl;rfl)|(obtain⟨_,_,_,rfl⟩:=len3 hl;rfl)|(obtain⟨_,_,_,_,rfl⟩:=len4 hl;rfl)|(obtain⟨_,_,_,_,_,rfl⟩:=len5 hl;rfl)|(obtain⟨_,_,_,_,_,_,rfl⟩:=len6 hl;rfl)):CalH P w mg base CX0 h (k+1) ps sp:=⟨h.F.ok S len bf,h.F.binds e⟩
def HG.okE (h:HG K x q st f fd M)(S:FnScope N ps (Ah st))(len:∀vs H Q E,sp vs H Q E->vs.length=ps.length)
  (bf:∀(ao:Value) (A:Around) (outer:List Env) (s:Shared) (H:Hp) (vs:List V) (Q:VK) (E:XK),Room k (A.deeper (envOfC q (Ah st) s.heap.objs.size f ao))->sp vs H Q E ->
   ∃t,PSs (cxOf (CXe P w) P w K mg base N q (Ah st) f ao A outer s H E) (Ed st) t/\t {nx:=fun _ H'=>Q .non H',rt:=Q} (start N vs) H)
  (e:Bnd x q st ps:=by
   intro _ _ _ _ _ _ us hl;first|(obtain⟨_,rfl⟩:=len1 hl;rfl)|(obtain⟨_,_,rfl⟩:=len2 hl;rfl)|(obtain⟨_,_,_,rfl⟩:=len3 hl;rfl)|(obtain⟨_,_,_,_,rfl⟩:=len4 hl;rfl)|(obtain⟨_,_,_,_,_,rfl⟩:=len5 hl;rfl)|(obtain⟨_,_,_,_,_,_,rfl⟩:=len6 hl;rfl)):CalH P w mg base (CXe P w) h (k+1) ps sp:=⟨h.F.okE S len bf,h.F.binds e⟩
noncomputable abbrev HP (K:α3)(mg:Str->α5)(fA:Nat->Addr)(fD:Nat->α6)(x:Str)(st:Stmt)(i:Nat):Prop:=HG K x x st (fA i) (fD i) (mg x=some (.ref (fA i)))
noncomputable abbrev HQ (K:α3)(fA:Nat->Addr)(fD:Nat->α6)(x q:Str)(st:Stmt)(i:Nat)(M:Addr->Prop):Prop:=HG K x q st (fA i) (fD i) (M (fA i))
def Af {X:Cx}{h:HG X.K x x st f fd (X.mg x=some (.ref f))}{E:XK}{p pos:Pos}{e:Expr}{es:List Expr}{t:TA}(q:CalH X.prog X.w X.mg X.base CX h k ps sp)(hr:Room k X.A)(hx:FE CX X E)
  (ha:PA X (e::es) t) (hg:Gl X x:=by rfl) (fm:(x==("__debug__" : Str))=false:=by decide) (he:starEach (e::es) X.env=(false,eval e X.env)::starEach es X.env:=by rfl) (cQ:(backTo pos (starEach es X.env)).any (·.1)=false:=by rfl):
  PE X (.Call (.Name x p) (e::es) [] pos) (Th sp [] E t):=V5 q.g hr hg h.m h.F.kp q.b .nil hx ha fm he cQ
def xcls (ga:oY K (.ref D) "__getattribute__"=some (some (.builtin "BaseException.__getattribute__")))(hk:oY K (.ref D) "__getattr__"=some none)(cl:uD K D=some cd)(ca:oY K (.ref D) "__class__"=some (some (.builtin "object.__class__")))(gs:pO K (.builtin "object.__class__") "__get__"=some (some (.builtin "getset_descriptor.__get__")))(tk:rB K (.builtin "object.__class__")=some true)(mo:qA K D (.type "object")=some true)(mb:qA K D (.type "BaseException")=some true):ExcCls K D:=⟨ga,hk,by rw[cl];rfl,ca,gs,tk,mo,mb⟩
end
end L2
namespace Mine
open PySem L2 GW GB PrimeO
local macro_rules | `(tactic| walk_at "rd") => `(tactic| (try dsimp only[↓Vy,R8,↓r_ID,↓Yk,Vz,↓r_BD,Ym,↓Yp,↓Yq,VB,VC,VD,Yo,↓VG,↓VH,VE,VF,↓VI,Sa,↓XD,↓U1,↓XE,↓Rk,↓XF,↓r_c,↓r_op,↓r_un,↓r_I,↓r_I0,↓r_U,↓U2,↓U3,↓XG,↓XH,↓U4,↓r_if,↓r_B,↓U5,↓XI,↓r_or,↓XJ,↓U6,↓Rl,↓XM,↓r_CB,↓XN,↓XO,↓XQ,↓XR,↓r_sl,↓U7,↓Pg,↓X0,↓r_BM,↓Ph,↓r_Eq,↓r_Ne,↓XS,↓Rm,↓U8,↓Ro,↓XT,↓r_ip,↓Rp,↓U9,↓XW,↓X2,↓Rx,↓X3,↓Vc,↓Vd,↓Pj,↓RD,↓X5,↓Vg,↓Rz,↓Vh,↓Vi,↓Pk,↓Vj,↓RA,↓Vk,↓Pl,↓Pm,↓r_in,↓RE,↓Pn,↓Ve,↓PD,↓Nz,↓Yg,↓Vx,↓Pp,↓RG,↓RH,↓X7,↓X9,↓Vq,↓Vr,↓Vs,↓RP,↓RO,↓RT,↓RX,↓Se,↓R0,↓Vu,XU,L2.start,jR_,xS_,jY_,xi_,x9_,qY_,oW,zv_,List.getElem?_cons_succ,List.set_cons_zero,List.set_cons_succ,scal])<;>(try simp only[↓Vy,R8,↓r_ID,↓Yk,Vz,↓r_BD,Ym,↓Yp,↓Yq,VB,VC,VD,Yo,↓VG,↓VH,VE,VF,↓VI,Sa,Wy,Yn,WB,T4,R9,↓XD,↓U1,↓XE,↓Rk,↓XF,↓r_c,↓r_op,↓r_un,↓r_I,↓r_I0,↓r_U,↓U2,↓U3,↓XG,↓XH,↓U4,↓r_if,↓r_B,↓U5,↓XI,↓r_or,↓XJ,↓U6,↓Rl,↓XM,↓r_CB,↓XN,↓XO,↓XQ,↓XR,↓r_sl,↓U7,↓Pg,↓X0,↓r_BM,↓Ph,↓r_Eq,↓r_Ne,↓XS,↓Rm,↓U8,↓Ro,↓XT,↓r_ip,↓Rp,↓U9,↓XW,↓X2,↓Rx,↓X3,↓Vc,↓Vd,↓Pj,↓RD,↓X5,↓Vg,↓Rz,↓Vh,↓Vi,↓Pk,↓Vj,↓RA,↓Vk,↓Pl,↓Pm,↓r_in,↓RE,↓Pn,↓Ve,↓PD,↓Nz,↓Yg,↓Vx,↓Pp,↓RG,↓RH,↓X7,↓X9,↓Vq,↓Vr,↓Vs,↓RP,↓RO,↓RT,↓RX,↓Se,↓R0,↓Vu,XU,L2.start,jR_,xS_,jY_,xi_,x9_,qY_,xQ_,oW,zv_,List.getElem?_cons_succ,List.set_cons_zero,List.set_cons_succ,wm_,V.int.injEq,V.str.injEq,V.ref.injEq,V.bl.injEq,List.cons.injEq,and_true,true_and,and_assoc,exists_and_left,exists_eq_left',exists_eq_left,exists_eq_right,exists_eq,xR_,xm_,qI_,qG_,scal,Nat.reduceAdd,Nat.reduceSub,reduceCtorEq,su,Bool.not_false]))
local macro_rules|`(tactic|nofun)=>`(tactic|walk_at "rd")
set_option hygiene false in
local macro_rules|`(tactic|delta $x:ident $y:ident)=>`(tactic|refine HG.ok $x $y (fun vs H Q E h=>?_) (fun ao A outer s H vs Q E hr h=>?_))
set_option hygiene false in
local macro_rules|`(⋯)=>`(CalH P w mg base CX0)
local macro_rules | `(tactic| walk_at "sc") => `(tactic| exact⟨rfl,rfl,rfl,by decide +kernel,rfl,by decide +kernel,by decide +kernel⟩)
noncomputable def top (i:Nat):Stmt:=PySem.Challenge.pw_guessroom_k71_sum_asker_refuses.main.body.getD i (.Pass ⟨0,0,0,0⟩)
noncomputable abbrev ET:Stmt:=AR (top 23) 1
def LC:FnScope ["self"] ["self"] (Ah ET):=by walk_at "sc"
noncomputable abbrev Hl:Stmt:=top 52
def NA:FnScope ["script","k"] ["script","k"] (Ah Hl):=by walk_at "sc"
noncomputable abbrev DD:Stmt:=top 53
def Fh:FnScope ["number","part"] ["number"] (Ah DD):=by walk_at "sc"
noncomputable abbrev FQ:Stmt:=top 54
def Ds:FnScope ["cell","some","number"] ["cell"] (Ah FQ):=by walk_at "sc"
noncomputable abbrev K0:Stmt:=top 9
def Ql:FnScope ["letters","word"] ["letters","word"] (Ah K0):=by walk_at "sc"
noncomputable abbrev FT:Stmt:=top 10
def Mz:FnScope ["letters","word"] ["letters","word"] (Ah FT):=by walk_at "sc"
noncomputable abbrev Hm:Stmt:=top 34
def NB:FnScope ["p","number"] ["p","number"] (Ah Hm):=by walk_at "sc"
noncomputable abbrev DE:Stmt:=AR (top 46) 1
def Kd:FnScope ["self","word","mark"] ["self","word","mark"] (Ah DE):=by walk_at "sc"
noncomputable abbrev Jf:Stmt:=AR (top 16) 2
def OI:FnScope ["self","word","mark"] ["self","word","mark"] (Ah Jf):=by walk_at "sc"
noncomputable abbrev B4:Stmt:=AR (top 23) 2
def GJ:FnScope ["self","deed"] ["self","deed"] (Ah B4):=by walk_at "sc"
noncomputable abbrev FU:Stmt:=AR (top 16) 4
def MA:FnScope ["self"] ["self"] (Ah FU):=by walk_at "sc"
noncomputable abbrev Sh:Stmt:=top 30
def WL:FnScope ["size","place"] ["size","place"] (Ah Sh):=by walk_at "sc"
noncomputable abbrev C5:Stmt:=top 26
def CI:FnScope ["row","place","number"] ["row"] (Ah C5):=by walk_at "sc"
noncomputable abbrev MB:Stmt:=top 19
def Si:FnScope ["p","factor","row"] ["p","factor","row"] (Ah MB):=by walk_at "sc"
noncomputable abbrev OJ:Stmt:=top 20
def T8:FnScope ["p","row","other"] ["p","row","other"] (Ah OJ):=by walk_at "sc"
noncomputable abbrev K1:Stmt:=top 27
def Ew:FnScope ["p","bases","row","left","place","base"] ["p","bases","row"] (Ah K1):=by walk_at "sc"
noncomputable abbrev K2:Stmt:=top 18
def Bb:FnScope ["p","number","one","two","factor_of_one","factor_of_two","times","rest","factor_of_rest"] ["p","number"] (Ah K2):=by walk_at "sc"
noncomputable abbrev Hn:Stmt:=top 28
def D0:FnScope ["p","bases","left","place","base","more","other"] ["p","bases","left","place"] (Ah Hn):=by walk_at "sc"
noncomputable abbrev Cj:Stmt:=top 29
def AE:FnScope ["p","rows","size","places","bases","number","row","left","place"] ["p","rows","size"] (Ah Cj):=by walk_at "sc"
noncomputable abbrev CJ:Stmt:=top 31
def AH:FnScope ["p","rows","some","size","count","marked","bases","told","row","left","is_made"] ["p","rows","some","size"] (Ah CJ):=by walk_at "sc"
noncomputable abbrev C6:Stmt:=top 40
def Jg:FnScope ["told","word","ends"] ["told","word","ends"] (Ah C6):=by walk_at "sc"
noncomputable abbrev Ho:Stmt:=top 41
def BB:FnScope ["p","letters","access","ends","told","size","rows","tables","letter","goals","last"] ["p","letters","access","ends","told"] (Ah Ho):=by walk_at "sc"
noncomputable abbrev BC:Stmt:=AR (top 50) 4
def Fw:FnScope ["self"] ["self"] (Ah BC):=by walk_at "sc"
noncomputable abbrev K3:Stmt:=top 21
def Qm:FnScope ["p","row","other"] ["p","row","other"] (Ah K3):=by walk_at "sc"
noncomputable abbrev B6:Stmt:=top 47
def Az:FnScope ["house","heard","columns","word","number","place","at","behind"] ["house","heard"] (Ah B6):=by walk_at "sc"
noncomputable abbrev BD:Stmt:=AR (top 50) 5
def Fx:FnScope ["self"] ["self"] (Ah BD):=by walk_at "sc"
noncomputable abbrev BQ:Stmt:=AR (top 24) 9
def FV:FnScope ["self"] ["self"] (Ah BQ):=by walk_at "sc"
noncomputable abbrev Bi:Stmt:=AR (top 50) 6
def Ef:FnScope ["self"] ["self"] (Ah Bi):=by walk_at "sc"
noncomputable abbrev Hq:Stmt:=AR (top 16) 3
def NC:FnScope ["self","word"] ["self","word"] (Ah Hq):=by walk_at "sc"
noncomputable abbrev Eg:Stmt:=AR (top 24) 8
def DF:FnScope ["self","words","left","word"] ["self","words"] (Ah Eg):=by walk_at "sc"
noncomputable abbrev K4:Stmt:=top 32
def Qn:FnScope ["p","rows","parts","size"] ["p","rows","parts","size"] (Ah K4):=by walk_at "sc"
noncomputable abbrev K5:Stmt:=top 35
def Qo:FnScope ["house","row","letter"] ["house","row","letter"] (Ah K5):=by walk_at "sc"
noncomputable abbrev FW:Stmt:=top 36
def EU:FnScope ["house","word","rows","letter"] ["house","word"] (Ah FW):=by walk_at "sc"
noncomputable abbrev EV:Stmt:=top 48
def AO:FnScope ["book","access","guess","word","rows","goal","low","high","middle","words","numbers"] ["book","access","guess","word"] (Ah EV):=by walk_at "sc"
noncomputable abbrev FX:Stmt:=top 49
def Ck:FnScope ["book","access","guess","word","place","table","numbers","way","row"] ["book","access","guess","word","place"] (Ah FX):=by walk_at "sc"
noncomputable abbrev K6:Stmt:=top 43
def Ex:FnScope ["letters","access","rows","word","letter"] ["letters","access"] (Ah K6):=by walk_at "sc"
noncomputable abbrev OK:Stmt:=top 44
def Kw:FnScope ["letters","access","ends","words","row","end"] ["letters","access","ends"] (Ah OK):=by walk_at "sc"
noncomputable abbrev Cm:Stmt:=AR (top 50) 8
def Hr:FnScope ["self","way","end"] ["self","way","end"] (Ah Cm):=by walk_at "sc"
noncomputable abbrev C7:Stmt:=AR (top 50) 7
def BI:FnScope ["self","word","found","place"] ["self"] (Ah C7):=by walk_at "sc"
noncomputable abbrev C8:Stmt:=AR (top 24) 7
def Jh:FnScope ["self"] ["self"] (Ah C8):=by walk_at "sc"
noncomputable abbrev EW:Stmt:=AR (top 23) 3
def LD:FnScope ["self"] ["self"] (Ah EW):=by walk_at "sc"
noncomputable abbrev Cn:Stmt:=AR (top 24) 1
def Hs:FnScope ["self","number"] ["self","number"] (Ah Cn):=by walk_at "sc"
noncomputable abbrev DG:Stmt:=AR (top 50) 1
def Ke:FnScope ["self","number"] ["self","number"] (Ah DG):=by walk_at "sc"
noncomputable abbrev C9:Stmt:=top 62
def AN:FnScope ["e","told"] ["e"] (Ah C9):=by walk_at "sc"
noncomputable abbrev FY:Stmt:=top 63
def Du:FnScope ["asker","number","caught","e"] ["asker","number"] (Ah FY):=by walk_at "sc"
noncomputable abbrev FZ:Stmt:=AR (top 24) 2
def MC:FnScope ["self"] ["self"] (Ah FZ):=by walk_at "sc"
noncomputable abbrev EX:Stmt:=top 64
def CW:FnScope ["asker","caught","e"] ["asker"] (Ah EX):=by walk_at "sc"
noncomputable abbrev F0:Stmt:=top 37
def ME:FnScope ["house","word"] ["house","word"] (Ah F0):=by walk_at "sc"
noncomputable abbrev OL:Stmt:=top 38
def T9:FnScope ["house","word"] ["house","word"] (Ah OL):=by walk_at "sc"
noncomputable abbrev CK:Stmt:=AR (top 50) 3
def HY:FnScope ["self","house","word"] ["self","house","word"] (Ah CK):=by walk_at "sc"
noncomputable abbrev BE:Stmt:=AR (top 24) 3
def Fy:FnScope ["self","word","number"] ["self","word","number"] (Ah BE):=by walk_at "sc"
noncomputable abbrev CL:Stmt:=AR (top 50) 2
def HZ:FnScope ["self","word","number"] ["self","word","number"] (Ah CL):=by walk_at "sc"
noncomputable abbrev Eh:Stmt:=top 65
def Co:FnScope ["asker","word","number","caught","e"] ["asker","word","number"] (Ah Eh):=by walk_at "sc"
noncomputable abbrev F1:Stmt:=AR (top 23) 0
def MF:FnScope ["self"] ["self"] (Ah F1):=by walk_at "sc"
noncomputable abbrev Hu:Stmt:=AR (top 24) 0
def NF:FnScope ["self","letters","most","book","ways","ends"] ["self","letters","most","book","ways","ends"] (Ah Hu):=by walk_at "sc"
noncomputable abbrev Hv:Stmt:=AR (top 16) 0
def NG:FnScope ["self","letters"] ["self","letters"] (Ah Hv):=by walk_at "sc"
noncomputable abbrev Ei:Stmt:=AR (top 46) 0
def K7:FnScope ["self","p","letters"] ["self","p","letters"] (Ah Ei):=by walk_at "sc"
noncomputable abbrev DH:Stmt:=AR (top 50) 0
def Kf:FnScope ["self","p","letters","most"] ["self","p","letters","most"] (Ah DH):=by walk_at "sc"
noncomputable abbrev F2:Stmt:=AR (top 24) 6
def MG:FnScope ["self"] ["self"] (Ah F2):=by walk_at "sc"
noncomputable abbrev EY:Stmt:=top 56
def GQ:FnScope ["script","k","p","many"] ["script","k","p"] (Ah EY):=by walk_at "sc"
noncomputable abbrev F3:Stmt:=top 59
def MK:FnScope ["p","one","two"] ["p","one","two"] (Ah F3):=by walk_at "sc"
noncomputable abbrev Hw:Stmt:=top 58
def F4:FnScope ["p","row","table","told","c"] ["p","row","table"] (Ah Hw):=by walk_at "sc"
noncomputable abbrev EZ:Stmt:=top 60
def CY:FnScope ["house","word","row","letter"] ["house","word"] (Ah EZ):=by walk_at "sc"
noncomputable abbrev F5:Stmt:=top 61
def ML:FnScope ["house","word"] ["house","word"] (Ah F5):=by walk_at "sc"
noncomputable abbrev Hy:Stmt:=top 66
def NH:FnScope ["script","at","letters","many"] ["script","at","letters","many"] (Ah Hy):=by walk_at "sc"
noncomputable abbrev DI:Stmt:=top 67
def Dc:FnScope ["script","at","letters","heard","word"] ["script","at","letters","heard"] (Ah DI):=by walk_at "sc"
noncomputable abbrev Hz:Stmt:=top 68
def F6:FnScope ["asker","script","p","letters","turn","wish","word"] ["asker","script","p","letters","turn"] (Ah Hz):=by walk_at "sc"
noncomputable abbrev E1:Stmt:=top 69
def Ej:FnScope ["script","p","letters","turns","asker","turn"] ["script","p","letters","turns"] (Ah E1):=by walk_at "sc"
noncomputable abbrev E2:Stmt:=AR (top 24) 4
def LF:FnScope ["self"] ["self"] (Ah E2):=by walk_at "sc"
noncomputable abbrev Ek:Stmt:=AR (top 24) 5
def K8:FnScope ["self"] ["self"] (Ah Ek):=by walk_at "sc"
noncomputable abbrev Ji:Stmt:=top 70
def OM:FnScope ["asker"] ["asker"] (Ah Ji):=by walk_at "sc"
noncomputable abbrev El:Stmt:=top 71
def DJ:FnScope ["asker","script","p","letters","turns","other","turn"] ["asker","script","p","letters","turns"] (Ah El):=by walk_at "sc"
noncomputable abbrev B7:Stmt:=top 72
def AV:FnScope ["asker","script","p","letters","odd","word","place","number","bad","pair"] ["asker","script","p","letters","odd"] (Ah B7):=by walk_at "sc"
noncomputable abbrev WM:Stmt:=top 73
def Ia:FnScope ["script","p","letters","turns","asker","wish","ahead","far","odd"] ["script"] (Ah WM):=by walk_at "sc"
noncomputable def K9:Caps:=[("letter",none),("letters",some 0)]
def LG:(Caps.names K9).Nodup:=by decide +kernel
noncomputable def PH:Caps:=[("other",none),("place",some 1)]
def ON:(Caps.names PH).Nodup:=by decide +kernel
noncomputable def LY:Caps:=[("number",none),("p",some 0),("factor",some 1)]
def MM:(Caps.names LY).Nodup:=by decide +kernel
noncomputable def NJ:Caps:=[("one",none),("two",none),("p",some 0)]
def JF:(Caps.names NJ).Nodup:=by decide +kernel
noncomputable def La:Caps:=[("number",none),("p",some 0)]
def LH:(Caps.names La).Nodup:=by decide +kernel
noncomputable def DK:Caps:=[("place",none),("row",none),("count",some 4)]
def Cw:(Caps.names DK).Nodup:=by decide +kernel
noncomputable def DL:Caps:=[("number",none),("p",some 0)]
def Fz:(Caps.names DL).Nodup:=by decide +kernel
noncomputable def D1:Caps:=[("end",none),("told",some 0),("word",some 1)]
def F7:(Caps.names D1).Nodup:=by decide +kernel
noncomputable def Ib:Caps:=[("word",none),("told",some 4),("ends",some 3)]
def Kg:(Caps.names Ib).Nodup:=by decide +kernel
noncomputable def Ic:Caps:=[("word",none),("told",some 4),("ends",some 3),("letter",some 8)]
def Kh:(Caps.names Ic).Nodup:=by decide +kernel
noncomputable def Ie:Caps:=[("made",none)]
def Ki:(Caps.names Ie).Nodup:=by decide +kernel
noncomputable def GR:Caps:=[("word",none),("told",some 4)]
def Jj:(Caps.names GR).Nodup:=by decide +kernel
noncomputable def Lb:Caps:=[("one",none),("two",none)]
def GS:(Caps.names Lb).Nodup:=by decide +kernel
noncomputable def CZ:Caps:=[("row",none),("behind",some 7),("house",some 0)]
def Ey:(Caps.names CZ).Nodup:=by decide +kernel
noncomputable def Lc:Caps:=[("place",none),("p",some 0),("parts",some 2),("rows",some 1)]
def LI:(Caps.names Lc).Nodup:=by decide +kernel
noncomputable def Ld:Caps:=[("row",none),("place",some 0)]
def LJ:(Caps.names Ld).Nodup:=by decide +kernel
noncomputable def F8:Caps:=[("way",none),("word",some 3),("middle",some 8)]
def Ig:(Caps.names F8).Nodup:=by decide +kernel
noncomputable def F9:Caps:=[("asked",none),("book",some 0)]
def Ih:(Caps.names F9).Nodup:=by decide +kernel
noncomputable def GU:Caps:=[("way",none),("book",some 0),("word",some 3),("place",some 4)]
def Jk:(Caps.names GU).Nodup:=by decide +kernel
noncomputable def GX:Caps:=[("k",none),("one",some 1),("two",some 2)]
def Jl:(Caps.names GX).Nodup:=by decide +kernel
noncomputable def Ii:Caps:=[("k",none),("row",some 1),("c",some 4),("table",some 2)]
def Kj:(Caps.names Ii).Nodup:=by decide +kernel
noncomputable def Ij:Caps:=[("k",none),("letters",some 2),("script",some 0),("at",some 1)]
def Kk:(Caps.names Ij).Nodup:=by decide +kernel
noncomputable def Ez:Caps:=[("pair",none)]
def GK:(Caps.names Ez).Nodup:=by decide +kernel
structure Txt (mg:Str->α5):Prop where
 ValueError:mg "ValueError"=none
 all:mg "all"=none
 dict:mg "dict"=none
 enumerate:mg "enumerate"=none
 isinstance:mg "isinstance"=none
 len:mg "len"=none
 list:mg "list"=none
 max:mg "max"=none
 range:mg "range"=none
 sum:mg "sum"=none
 tuple:mg "tuple"=none
 zip:mg "zip"=none
structure Own (K:α3)(mg:Str->α5)(cY cZ c6 aj ag:Addr):Prop where
 m_ja:mg "Book"=some (.ref cY)
 m_j9:mg "Turns"=some (.ref cZ)
 m_jb:mg "Hunt"=some (.ref c6)
 m_j3:mg "SumBook"=some (.ref aj)
 cl_j3:Cls K aj
 n_SumBook_letters:BN K aj "letters"
 n_SumBook_marks:BN K aj "marks"
 n_SumBook_p:BN K aj "p"
 m_j0:mg "SumAsker"=some (.ref ag)
 cl_j0:Cls K ag
 n_SumAsker_book:BN K ag "book"
 n_SumAsker_ends:BN K ag "ends"
 n_SumAsker_gaps:BN K ag "gaps"
 n_SumAsker_guess:BN K ag "guess"
 n_SumAsker_letters:BN K ag "letters"
 n_SumAsker_most:BN K ag "most"
 n_SumAsker_p:BN K ag "p"
 n_SumAsker_ways:BN K ag "ways"
 n_SumAsker_wish:BN K ag "wish"
 n_SumAsker_wrong:BN K ag "wrong"
structure Exs (K:α3)(mg:Str->α5)(aZ au av cB aw ay ax:Addr):Prop where
 m_j7:mg "AskError"=some (.ref aZ)
 m_j5:mg "BadWord"=some (.ref au)
 m_j6:mg "BadMark"=some (.ref av)
 m_j8:mg "NoInverse"=some (.ref cB)
 m_j4:mg "OutOfTurn"=some (.ref aw)
 m_j2:mg "NoDifference"=some (.ref ay)
 m_j1:mg "Contradiction"=some (.ref ax)
 x_j5:pj K au bmV "ValueError.__new__"=true
 c_j5:ExcCls K au
 e_j5:exmOne K (.ref au) (.ref aZ)=some true
 v_j5:kitOne K (.ref au) (.type "ValueError")=some true
 k_j5_j5:kitOne K (.ref au) (.ref au)=some true
 k_j5_j6:kitOne K (.ref au) (.ref av)=some false
 k_j5_j4:kitOne K (.ref au) (.ref aw)=some false
 k_j5_j2:kitOne K (.ref au) (.ref ay)=some false
 k_j5_j1:kitOne K (.ref au) (.ref ax)=some false
 x_j6:pj K av bmV "ValueError.__new__"=true
 c_j6:ExcCls K av
 e_j6:exmOne K (.ref av) (.ref aZ)=some true
 v_j6:kitOne K (.ref av) (.type "ValueError")=some true
 k_j6_j5:kitOne K (.ref av) (.ref au)=some false
 k_j6_j6:kitOne K (.ref av) (.ref av)=some true
 k_j6_j4:kitOne K (.ref av) (.ref aw)=some false
 k_j6_j2:kitOne K (.ref av) (.ref ay)=some false
 k_j6_j1:kitOne K (.ref av) (.ref ax)=some false
 x_j8:pj K cB bmV "ValueError.__new__"=true
 x_j4:pj K aw bmV "ValueError.__new__"=true
 c_j4:ExcCls K aw
 e_j4:exmOne K (.ref aw) (.ref aZ)=some true
 v_j4:kitOne K (.ref aw) (.type "ValueError")=some true
 k_j4_j5:kitOne K (.ref aw) (.ref au)=some false
 k_j4_j6:kitOne K (.ref aw) (.ref av)=some false
 k_j4_j4:kitOne K (.ref aw) (.ref aw)=some true
 k_j4_j2:kitOne K (.ref aw) (.ref ay)=some false
 k_j4_j1:kitOne K (.ref aw) (.ref ax)=some false
 x_j2:pj K ay bmV "ValueError.__new__"=true
 c_j2:ExcCls K ay
 e_j2:exmOne K (.ref ay) (.ref aZ)=some true
 v_j2:kitOne K (.ref ay) (.type "ValueError")=some true
 k_j2_j5:kitOne K (.ref ay) (.ref au)=some false
 k_j2_j6:kitOne K (.ref ay) (.ref av)=some false
 k_j2_j4:kitOne K (.ref ay) (.ref aw)=some false
 k_j2_j2:kitOne K (.ref ay) (.ref ay)=some true
 k_j2_j1:kitOne K (.ref ay) (.ref ax)=some false
 x_j1:pj K ax bmV "ValueError.__new__"=true
 c_j1:ExcCls K ax
 e_j1:exmOne K (.ref ax) (.ref aZ)=some true
 v_j1:kitOne K (.ref ax) (.type "ValueError")=some true
 k_j1_j5:kitOne K (.ref ax) (.ref au)=some false
 k_j1_j6:kitOne K (.ref ax) (.ref av)=some false
 k_j1_j4:kitOne K (.ref ax) (.ref aw)=some false
 k_j1_j2:kitOne K (.ref ax) (.ref ay)=some false
 k_j1_j1:kitOne K (.ref ax) (.ref ax)=some true
structure En (P:Program)(w:World)(K:α3)(mg:Str->α5)(base:Heap)(aZ au av cB aw ay ax cY cZ c6 aj ag:Addr)(fA:Nat->Addr)(fD:Nat->α6):Prop extends Txt mg,Own K mg cY cZ c6 aj ag,Exs K mg aZ au av cB aw ay ax where
 j0:HQ K fA fD "wants" "Turns.wants" ET 0 (Meth K ag "wants")
 j1:HP K mg fA fD "_law_cell" Hl 1
 j2:HP K mg fA fD "_law_is_prime" DD 2
 j3:HP K mg fA fD "_law_prime" FQ 3
 j4:HP K mg fA fD "is_word" K0 4
 j5:HP K mg fA fD "check_word" FT 5
 j6:HP K mg fA fD "is_number" Hm 6
 j7:HQ K fA fD "check" "SumBook.check" DE 7 (Meth K aj "check")
 j8:HQ K fA fD "put" "Book.put" Jf 8 (Meth K aj "put")
 j9:HQ K fA fD "check_wants" "Turns.check_wants" B4 9 (Meth K ag "check_wants")
 j10:HQ K fA fD "heard" "Book.heard" FU 10 (Meth K aj "heard")
 j11:HP K mg fA fD "unit" Sh 11
 j12:HP K mg fA fD "place_of_first" C5 12
 j13:HP K mg fA fD "scaled" MB 13
 j14:HP K mg fA fD "added" OJ 14
 j15:HP K mg fA fD "left_of" K1 15
 j16:HP K mg fA fD "inverse" K2 16
 j17:HP K mg fA fD "with_base" Hn 17
 j18:HP K mg fA fD "chosen_and_bases" Cj 18
 j19:HP K mg fA fD "factors_of_each" CJ 19
 j20:HP K mg fA fD "numbers_behind" C6 20
 j21:HP K mg fA fD "sum_guess" Ho 21
 j22:HQ K fA fD "make_guess" "SumAsker.make_guess" BC 22 (Meth K ag "make_guess")
 j23:HP K mg fA fD "product" K3 23
 j24:HP K mg fA fD "first_other_worth" B6 24
 j25:HQ K fA fD "wrong_word" "SumAsker.wrong_word" BD 25 (Meth K ag "wrong_word")
 j26:HQ K fA fD "look_at_guess" "Hunt.look_at_guess" BQ 26 (Meth K ag "look_at_guess")
 j27:HQ K fA fD "look_at_words" "SumAsker.look_at_words" Bi 27 (Meth K ag "look_at_words")
 j28:HQ K fA fD "told" "Book.told" Hq 28 (Meth K aj "told")
 j29:HQ K fA fD "ask_for" "Hunt.ask_for" Eg 29 (Meth K ag "ask_for")
 j30:HP K mg fA fD "made_of" K4 30
 j31:HP K mg fA fD "stepped" K5 31
 j32:HP K mg fA fD "rows_along" FW 32
 j33:HP K mg fA fD "halved_sums" EV 33
 j34:HP K mg fA fD "new_access" FX 34
 j35:HP K mg fA fD "rows_of" K6 35
 j36:HP K mg fA fD "cells" OK 36
 j37:HQ K fA fD "take_in" "SumAsker.take_in" Cm 37 (Meth K ag "take_in")
 j38:HQ K fA fD "halve" "SumAsker.halve" C7 38 (Meth K ag "halve")
 j39:HQ K fA fD "next_wish" "Hunt.next_wish" C8 39 (Meth K ag "next_wish")
 j40:HQ K fA fD "go_on" "Turns.go_on" EW 40 (Meth K ag "go_on")
 j41:HQ K fA fD "keep_answer" "Hunt.keep_answer" Cn 41 (Meth K ag "keep_answer")
 j42:HQ K fA fD "hear" "SumAsker.hear" DG 42 (Meth K ag "hear")
 j43:HP K mg fA fD "_law_told_kind" C9 43
 j44:HP K mg fA fD "_law_hears" FY 44
 j45:HQ K fA fD "agree" "Hunt.agree" FZ 45 (Meth K ag "agree")
 j46:HP K mg fA fD "_law_agrees" EX 46
 j47:HP K mg fA fD "row_behind" F0 47
 j48:HP K mg fA fD "worth" OL 48
 j49:HQ K fA fD "answer" "SumAsker.answer" CK 49 (Meth K ag "answer")
 j50:HQ K fA fD "keep_objection" "Hunt.keep_objection" BE 50 (Meth K ag "keep_objection")
 j51:HQ K fA fD "differ" "SumAsker.differ" CL 51 (Meth K ag "differ")
 j52:HP K mg fA fD "_law_differs" Eh 52
 j53:HQ K fA fD "__init__" "Turns.__init__" F1 53 (CMeth K cZ "__init__")
 j54:HQ K fA fD "__init__" "Hunt.__init__" Hu 54 (CMeth K c6 "__init__")
 j55:HQ K fA fD "__init__" "Book.__init__" Hv 55 (CMeth K cY "__init__")
 j56:HQ K fA fD "__init__" "SumBook.__init__" Ei 56 (Mk K aj)
 j57:HQ K fA fD "__init__" "SumAsker.__init__" DH 57 (Mk K ag)
 j58:HQ K fA fD "heard" "Hunt.heard" F2 58 (Meth K ag "heard")
 j59:HP K mg fA fD "_law_number" EY 59
 j60:HP K mg fA fD "_law_times" F3 60
 j61:HP K mg fA fD "_law_step" Hw 61
 j62:HP K mg fA fD "_law_behind" EZ 62
 j63:HP K mg fA fD "_law_worth" F5 63
 j64:HP K mg fA fD "_law_word" Hy 64
 j65:HP K mg fA fD "_law_new_word" DI 65
 j66:HP K mg fA fD "_law_deed" Hz 66
 j67:HP K mg fA fD "_law_driven" E1 67
 j68:HQ K fA fD "access" "Hunt.access" E2 68 (Meth K ag "access")
 j69:HQ K fA fD "tellers" "Hunt.tellers" Ek 69 (Meth K ag "tellers")
 j70:HP K mg fA fD "_law_all" Ji 70
 j71:HP K mg fA fD "_law_goes_on" El 71
 j72:HP K mg fA fD "_law_show_refuses" B7 72
 j73:HP K mg fA fD "law" WM 73
section
variable {P:Program} {w:World} {K:α3} {mg:Str->α5} {base:Heap}
variable {aZ au av cB aw ay ax cY cZ c6 aj ag:Addr} {fA:Nat->Addr} {fD:Nat->α6} (EE:En P w K mg base aZ au av cB aw ay ax cY cZ c6 aj ag fA fD)
noncomputable def Qp (K:α3):Sp:=fun vs H Q _=>∃(L:Int) (a:Addr) (ws:α2),vs=[.int L,.ref a]/\SqT K H a (ws.map V.int)/\ws.length<=1000/\∀H',Same H H'->Q (.bl (isW L ws)) H'
def Qq:⋯ EE.j4 1 ["letters","word"] (Qp K):=by
 delta EE.j4 Ql
 ·obtain⟨L,a,ws,rfl,_⟩:=h;rfl
 ·obtain⟨L,a,ws,rfl,hw,hz,k⟩:=h;have hl:=Al;refine⟨_,(Ae (Am (AK (Tv rfl) rfl EE.all sY (Aa (BP rfl (BO rfl) (cp:=K9) ⟨⟨rfl,rfl⟩,oZ⟩ (Nb (pvD 1)) (fun _ _ _ _=>(Aq (i:=0) LG rfl (o9 rfl))) (fun _ _ _ _=>By) (fun _ _ _ _=>(O4 Xo QT Ai (pvD 0) (pvD 1)))) Ad)))),?_⟩;nofun;refine⟨⟨_,hw⟩,Mq (af:=[some (.int L)]) (fun x=>match x with | .int n=>.bl (inW L n)|_=>.non) rfl hw (by rw[jb_];lia) (fun x hx R hR=>?_) (fun D hD=>?_)⟩
  ·obtain⟨n,_,rfl⟩:=HW hx;nofun;by_cases h0:0<=n
   ·simp only[h0,xR_];simpa [inW,h0] using hR
   ·simp only[h0,xm_];simpa [inW,h0] using hR
  ·refine⟨D,rfl,ws.map (inW L),.inl (.inl ?_),?_⟩
   ·rw[Ab,jK_,jK_];rfl
   ·have:=k _ (Same.new hD (o:=.lst ((ws.map V.int).map fun x=>match x with | .int n=>.bl (inW L n)|_=>.non)));simpa [isW,sP] using this
noncomputable def Ua (K:α3)(BW:Addr):Sp:=fun vs H Q E=>∃(L:Int) (a:Addr) (ws:α2),vs=[.int L,.ref a]/\SqT K H a (ws.map V.int)/\ws.length<=1000/\(isW L ws=true->∀H',Same H H'->Q .non H')/\(isW L ws=false->∀H',Same H H'->E (.ref BW) none H')
def Ik:CalH P w mg base (CXe P w) EE.j5 2 ["letters","word"] (Ua K au):=by
 refine HG.okE EE.j5 Mz (fun vs H Q E h=>?_) (fun ao A outer s H vs Q E hr h=>?_)
 ·obtain⟨L,a,ws,rfl,_⟩:=h;rfl
 ·obtain⟨L,a,ws,rfl,hw,hz,k,kE⟩:=h;have hl:=Al;refine⟨_,(Ae (AZ (O1 (ptB (FC (Af (Qq EE) hr.d An (Aa (pvD 0) (Aa (pvD 1) Ad))))))
   (Ae (Gz EE.m_j5 EE.x_j5 rfl rfl (Aa AA Ad)))
   Au)),?_⟩
  nofun;refine⟨L,a,ws,rfl,hw,hz,fun H' s'=>?_⟩;nofun;cases hv:isW L ws with
  |true=>
   simp only[su,qI_,xm_];exact k hv H' s'
  |false=>
   simp only[Bool.not_false,xR_];exact⟨by lia,kE hv H' s'⟩
noncomputable def dotW (xs ys:α2):Int:=(pf (fun x y=>x*y) xs ys).sum
noncomputable def colW (ae:α1)(c:Nat):α2:=ae.map fun r=>r.getD c 0
noncomputable def FA (K:α3)(H:Hp)(xs:List V)(ae:α1):Prop:=xs.length=ae.length/\∀(i:Nat) (r:α2),ae[i]?=some r->∃t,xs[i]?=some (.ref t)/\SqT K H t (r.map V.int)
def FA.mono {K:α3} (h:FA K H xs ae)(s:Same H H'):FA K H' xs ae:=by
 refine⟨h.1,fun i r hi=>?_⟩;obtain⟨t,a,b⟩:=h.2 i r hi;exact⟨t,a,s.seqT b⟩
def FA.nil {K:α3} : FA K H [] []:=⟨rfl,fun i r h=>by simp at h⟩
def FA.snoc {K:α3} (h:FA K H xs ae)(g:SqT K H t (r.map V.int)):FA K H (xs++[.ref t]) (ae++[r]):=by
 refine⟨by simp[h.1],fun i v hi=>?_⟩;by_cases hl:i<ae.length
 ·rw[jx_ hl]at hi;rw[jx_ (by rw[h.1];exact hl)];exact h.2 i v hi
 ·have:=(jg_.mp hi).1;rw[js_,jW_]at this;have e:i=ae.length:=by lia
  subst e;rw[jB_ (jh_ _),q0_]at hi;simp at hi;subst hi;exact⟨t,by rw[<-h.1];simp,g⟩
noncomputable def Jm (p:Int)(ae:α1)(am:α2)(n:Nat):α2:=(oX n).map fun c=>dotW am (colW ae c)%p
def Yw (ae:α1)(c:Nat):(oX ae.length).map (fun i=>V.int ((ae.getD i []).getD c 0))=(colW ae c).map V.int:=by
 refine xI_ (by simp[colW]) fun i h1 h2=>?_;have hi:i<ae.length:=by simpa using h1
 simp[colW,jc_,hi]
def Yx (am:α2)(ae:α1)(c:Nat)(h:am.length=ae.length):(oX ae.length).map (fun k=>am.getD k 0*(ae.getD k []).getD c 0)=pf (fun x y=>x*y) am (colW ae c):=by
 refine xI_ (by simp[colW,h]) fun i h1 h2=>?_;have hi:i<ae.length:=by simpa using h1
 have jX:i<am.length:=by lia
 simp[colW,jc_,hi,jX]
def MN {r:α2}{c:Nat}(h:c<r.length):atI (r.map V.int) (c:Int)=some (.int (r.getD c 0)):=by
 refine EK ?_;rw[ji_,je_ h,jc_,je_ h];rfl
def LZ (xs:List V)(m:Nat):cutV xs none (some (m:Int))=xs.take m:=by
 unfold cutV;rw[HT.sIx_nat,HT.sIx_none,xf_,zj_,qj];lia
def Qr (xs:List V)(m:Nat):cutV xs (some (m:Int)) none=xs.drop m:=by
 unfold cutV;rw[HT.sIx_nat,HT.sIx_none];rcases sQ m xs.length with h|h
 ·rw[qf h];exact q4_ (by rw[qw_];exact jh_ _)
 ·rw[pW h,zG_ h,q1_,qF]
def Bt (ys:α2):dotW [] ys=0:=by unfold dotW;simp
def D3 (xs:α2):dotW xs []=0:=by unfold dotW;simp
def AU (x y:Int)(xs ys:α2):dotW (x::xs) (y::ys)=x*y+dotW xs ys:=by unfold dotW;simp
def Be:∀xs ys:α2,dotW xs ys=dotW ys xs
 |[],ys=>by rw[Bt,D3]
 |x::xs,[]=>by rw[Bt,D3]
 |x::xs,y::ys=>by rw[AU,AU,Be xs ys,zk_]
def Le:∀(xs ys us vs:α2),xs.length=us.length->dotW (xs++ys) (us++vs)=dotW xs us+dotW ys vs
 |[],ys,us,vs,h=>by
  have:us=[]:=jN_.mp (by simpa using h.symm);subst this;simp[Bt]
 |x::xs,ys,u::us,vs,h=>by
  rw[x9_,x9_,AU,AU,Le xs ys us vs (by simpa using h)];lia
 |x::xs,ys,[],vs,h=>by simp at h
def D4 (n:Nat):∀xs:α2,dotW xs (oW n 0)=0:=by
 induction n with
 |zero=>intro xs;rw[List.replicate_zero,D3]
 |succ n ih=>
  intro xs;cases xs with
  |nil=>rw[Bt]
  |cons x xs=>rw[qN_,AU,ih];lia
def C0 (a:Int):∀xs ys:α2,dotW (xs.map (a * ·)) ys=a*dotW xs ys
 |[],ys=>by rw[xS_,Bt];lia
 |x::xs,[]=>by rw[D3,D3];lia
 |x::xs,y::ys=>by rw[jR_,AU,AU,C0 a xs ys,wr_,zy_]
noncomputable def cg (p:Int)(xs ys:α2):Prop:=xs.map (· % p)=ys.map (· % p)
def cg.len (h:cg p xs ys):xs.length=ys.length:=by
 have:=xd_ pF h;simpa using this
def cg.refl (p:Int)(xs:α2):cg p xs xs:=rfl
def cg.dot {p:Int}:∀{xs iO ys ys':α2},cg p xs iO->cg p ys ys'->dotW xs ys%p=dotW iO ys'%p
 |[],[],ys,ys',_,_=>by rw[Bt,Bt]
 |[],x::iO,ys,ys',h,_=>by have:=h.len;simp at this
 |x::xs,[],ys,ys',h,_=>by have:=h.len;simp at this
 |x::xs,x'::iO,[],[],_,_=>by rw[D3,D3]
 |x::xs,x'::iO,[],y::ys',_,h=>by have:=h.len;simp at this
 |x::xs,x'::iO,y::ys,[],_,h=>by have:=h.len;simp at this
 |x::xs,x'::iO,y::ys,y'::ys',h,g=>by
  obtain⟨h1,h2⟩:=List.cons.inj h;obtain⟨g1,g2⟩:=List.cons.inj g;have h1:x%p=x'%p:=h1;have g1:y%p=y'%p:=g1;rw[AU,AU,qJ_,qr_,h1,g1,cg.dot (xs:=xs) (ys:=ys) h2 g2,<-qr_,<-qJ_]
def cg.map {p:Int}{α:Type}{f g:α->Int}{l:List α}(h:∀a∈l,f a%p=g a%p):cg p (l.map f) (l.map g):=by
 unfold cg;rw[jK_,jK_];exact jH_ h
def cg.getD (h:cg p xs ys)(c:Nat):xs.getD c 0%p=ys.getD c 0%p:=by
 have hl:=h.len;by_cases hc:c<xs.length
 ·have e:=xd_ (fun l:α2=>l[c]?) h;rw[ji_,ji_,je_ hc,je_ s!""]at e;rw[jc_,jc_,je_ hc,je_ s!""];exact ju_ e
 ·rw[jc_,jc_,jy_ s!"",jy_ s!""]
def Lf:∀(u v w:α2),u.length=v.length->dotW (pf (· + ·) u v) w=dotW u w+dotW v w
 |[],[],w,_=>by simp[Bt]
 |[],y::v,w,h=>by simp at h
 |x::u,[],w,h=>by simp at h
 |x::u,y::v,[],_=>by simp[D3]
 |x::u,y::v,z::w,h=>by
  rw[List.zipWith_cons_cons,AU,AU,AU,Lf u v w (by simpa using h),Int.add_mul];lia
def PJ {d:Nat}{col:α2}(hc:col.length=d):∀(tb:α1) (row:α2),(∀r∈tb,r.length=d)->row.length=tb.length->dotW ((oX d).map fun c=>dotW row (colW tb c)) col=dotW row (tb.map fun r=>dotW col r)
 |[],row,_,h=>by
  have:row=[]:=jN_.mp (by simpa using h);subst this;rw[Bt];have e:((oX d).map fun c=>dotW [] (colW [] c))=oW d 0:=by
   refine qR_ fun i=>?_;by_cases hi:i<d
   ·rw[ji_,xl_ hi,zs_,if_pos hi];rfl
   ·rw[jy_ (by simp;lia),jy_ (by simp;lia)]
  rw[e,Be,D4]
 |r::tb,[],_,h=>by simp at h
 |r::tb,x::row,hd,h=>by
  have ih:=PJ hc tb row (fun s hs=>hd s (jq_ _ hs)) (by simpa using h);have hr:=hd r (jA_ ..);have e:((oX d).map fun c=>dotW (x::row) (colW (r::tb) c))=pf (· + ·) (r.map (x * ·)) ((oX d).map fun c=>dotW row (colW tb c)):=by
   refine qR_ fun i=>?_;rw[xx_];by_cases hi:i<d
   ·rw[ji_,xl_ hi,ji_,ji_,xl_ hi,je_ (show i<r.length by lia)];show some (dotW (x::row) (r.getD i 0::colW tb i))=some (x*r[i]+dotW row (colW tb i));rw[AU,jc_,je_ (show i<r.length by lia)];rfl
   ·rw[jy_ (by simp;lia),jy_ (show (r.map (x * ·)).length<=i by simp;lia)]
  rw[e,Lf _ _ _ (by simp[hr]),C0,ih,jR_,AU,Be r col]
def L3 {α:Type}(z:α)(r:List α):(oX r.length).map (fun i=>r.getD i z)=r:=by
 refine xI_ (by simp) fun i h1 h2=>?_;simp[jc_,h2]
noncomputable def Span (p:Int)(n:Nat)(S:α1)(v:Nat->Int):Prop:=∃cs:α2,cs.length=S.length/\∀i:Nat,i<n->v i%p=dotW cs (colW S i)%p
def MO (S:α1)(i:Nat):(colW S i).length=S.length:=by unfold colW;rw[jb_]
def Span.congr (h:Span p n S v)(e:∀i:Nat,i<n->u i%p=v i%p):Span p n S u:=by
 obtain⟨cs,a,b⟩:=h;exact⟨cs,a,fun i hi=>(e i hi).trans (b i hi)⟩
def Span.zero : Span p n S fun _=>0:=
 ⟨oW S.length 0,xt_,fun i _=>by rw[Be,D4]⟩
def Span.add (h:Span p n S v)(g:Span p n S u):Span p n S fun i=>v i+u i:=by
 obtain⟨cs,a,b⟩:=h;obtain⟨ds,a',b'⟩:=g;refine⟨pf (· + ·) cs ds,by rw[ze_,a,a',pY],fun i hi=>?_⟩;rw[Lf _ _ _ (by rw[a,a']),qJ_,b i hi,b' i hi,<-qJ_]
def Span.smul (c:Int)(h:Span p n S v):Span p n S fun i=>c*v i:=by
 obtain⟨cs,a,b⟩:=h;refine⟨cs.map (c * ·),by rw[jb_,a],fun i hi=>?_⟩;rw[C0,qr_,b i hi,<-qr_]
def Span.app (h:Span p n S v)(T:α1):Span p n (S++T) v:=by
 obtain⟨cs,a,b⟩:=h;refine⟨cs++oW T.length 0,by rw[js_,js_,xt_,a],fun i hi=>?_⟩;unfold colW at *;rw[jm_,Le _ _ _ _ (by rw[jb_,a]),Be (oW _ _),D4,qY];exact b i hi
def Span.last (S:α1)(r:α2):Span p n (S++[r]) fun i=>r.getD i 0:=by
 refine⟨oW S.length 0++[1],by simp,fun i _=>?_⟩;unfold colW;rw[jm_,Le _ _ _ _ (by rw[jb_,xt_]),Be (oW _ _),D4];show _=(0+dotW [1] [r.getD i 0])%p;rw[AU,Bt]
 congr 1
 show r.getD i 0=0+(1*r.getD i 0+0);lia
def Span.mem (h:r∈S):Span p n S fun i=>r.getD i 0:=by
 obtain⟨A,B,rfl⟩:=List.append_of_mem h;rw[show A++r::B=(A++[r])++B by simp];exact (Span.last A r).app B
def Span.comb {p:Int}{n:Nat}{S:α1}:∀{T:α1} (cs:α2),(∀r∈T,Span p n S fun i=>r.getD i 0)->cs.length=T.length->Span p n S fun i=>dotW cs (colW T i)
 |[],cs,_,h=>by
  have:cs=[]:=jN_.mp h;subst this;exact Span.zero.congr fun i _=>by rw[Bt]
 |r::T,[],_,h=>by simp at h
 |r::T,c::cs,hT,h=>by
  have ih:=Span.comb (T:=T) cs (fun s hs=>hT s (jq_ _ hs)) (by simpa using h);refine (((hT r (jA_ ..)).smul c).add ih).congr fun i _=>?_;show dotW (c::cs) (r.getD i 0::colW T i)%p=_;rw[AU]
def Span.trans (h:Span p n T v)(hT:∀r∈T,Span p n S fun i=>r.getD i 0):Span p n S v:=by
 obtain⟨cs,a,b⟩:=h;exact (Span.comb cs hT a).congr b
noncomputable def cof (bs:List (Nat×α2))(row:α2):α2:=bs.map fun x=>row.getD x.1 0
noncomputable def basR (bs:List (Nat×α2)):α1:=bs.map (·.2)
structure Bs (p:Int)(n:Nat)(bs:List (Nat×α2)):Prop where
 len:∀x∈bs,x.2.length=n/\x.1<n/\∀y∈x.2,0<=y/\y<p
 own:∀x∈bs,x.2.getD x.1 0=1
 off:bs.Pairwise fun x y=>x.2.getD y.1 0=0/\y.2.getD x.1 0=0
noncomputable def E3 (p:Int)(left:α2)(x:Nat×α2):α2:=if left.getD x.1 0=0 then left else pf (fun a b=>(a+b)%p) left (x.2.map fun y => -left.getD x.1 0*y%p)
noncomputable def Aw (p:Int)(bs:List (Nat×α2))(row:α2):α2:=bs.foldl (E3 p) (row.map (· % p))
def Ub {f:Int->Int->Int}(f0:f 0 0=0){xs ys:α2}(h:xs.length=ys.length)(i:Nat):(pf f xs ys).getD i 0=f (xs.getD i 0) (ys.getD i 0):=by
 rw[jc_,jc_,jc_,xx_];by_cases hi:i<xs.length
 ·rw[je_ hi,je_ (show i<ys.length by lia)];rfl
 ·rw[jy_ s!"",jy_ s!""];exact f0.symm
def Il {f:Int->Int}(f0:f 0=0)(xs:α2)(i:Nat):(xs.map f).getD i 0=f (xs.getD i 0):=by
 rw[jc_,jc_,ji_];cases xs[i]? with
 |none=>exact f0.symm
 |some x=>rfl
def MQ (hl:left.length=n)(hx:x.2.length=n)(i:Nat):(E3 p left x).length=n/\(E3 p left x).getD i 0%p=(left.getD i 0-left.getD x.1 0*x.2.getD i 0)%p:=by
 unfold E3;split
 ·rename_i h0
  exact⟨hl,by rw[h0];congr 1;lia⟩
 ·refine⟨by rw[ze_,jb_];lia,?_⟩;rw[Ub (by simp) (by rw[jb_];lia),Il (by simp),jM_ _ (qs_ p),qJ_,jM_ _ (qs_ p),<-qJ_]
  congr 1
  rw[rq];lia
def Im (xs ys:α2)(h:xs.length=ys.length)(x y:Int):dotW (xs++[x]) (ys++[y])=dotW xs ys+x*y:=by
 rw[Le _ _ _ _ h,AU,Bt];lia
def CM (row:α2)(hr:row.length=n):∀(bs:List (Nat×α2)),Bs p n bs->(Aw p bs row).length=n/\∀i:Nat,(Aw p bs row).getD i 0%p=(row.getD i 0-dotW (cof bs row) (colW (basR bs) i))%p:=by
 intro bs;generalize hk:bs.length=k
 induction k generalizing bs with
 |zero=>
  intro _;have:bs=[]:=jN_.mp hk;subst this;refine⟨by unfold Aw;simp[hr],fun i=>?_⟩;show (row.map (· % p)).getD i 0%p=(row.getD i 0-dotW [] _)%p;rw[Il (by simp),jM_ _ (qs_ p),Bt]
  congr 1;lia
 |succ k ih=>
  intro hB;obtain⟨P,x,rfl⟩:∃P x,bs=P++[x]:=⟨bs.dropLast,bs.getLast (by intro e;subst e;simp at hk),(qz_ _).symm⟩;have hP:Bs p n P:=⟨fun y hy=>hB.len y (qf_ _ hy),fun y hy=>hB.own y (qf_ _ hy),(x4_.mp hB.off).1⟩;obtain⟨l1,l2⟩:=ih P (by simp at hk;lia) hP;have hx:=hB.len x (by simp);have c7:∀y∈P,y.2.getD x.1 0=0:=fun y hy=>((x4_.mp hB.off).2.2 y hy x (by simp)).1;have e:Aw p (P++[x]) row=E3 p (Aw p P row) x:=by unfold Aw;rw[qU_];rfl
  rw[e];refine⟨(MQ l1 hx.1 0).1,fun i=>?_⟩;have hz:dotW (cof P row) (colW (basR P) x.1)=0:=by
   have:colW (basR P) x.1=oW P.length 0:=by
    refine zQ_.mpr ⟨by unfold colW basR;simp,fun z hz=>?_⟩;unfold colW basR at hz;rw[jK_]at hz;obtain⟨y,hy,rfl⟩:=jv_.mp hz;exact c7 y hy
   rw[this,D4]
  have hq:=l2 x.1;rw[hz,sR]at hq;have e2:dotW (cof (P++[x]) row) (colW (basR (P++[x])) i)=dotW (cof P row) (colW (basR P) i)+row.getD x.1 0*x.2.getD i 0:=by
   unfold cof colW basR;rw[jm_,jm_,jm_];exact Im _ _ (by simp) _ _
  rw[(MQ l1 hx.1 i).2,e2,wg_,l2 i,qr_,hq,<-qr_,<-wg_]
  congr 1
  lia
def Ga (hp:0<p)(row:α2)(bs:List (Nat×α2)):∀y∈Aw p bs row,0<=y/\y<p:=by
 have key:∀(bs:List (Nat×α2)) (l:α2),(∀y∈l,0<=y/\y<p)->∀y∈bs.foldl (E3 p) l,0<=y/\y<p:=fun bs=>by
  induction bs with
  |nil=>exact fun l h=>h
  |cons x bs ih=>
   intro l h;refine ih (E3 p l x) ?_;unfold E3;split
   ·exact h
   ·intro y hy;obtain⟨i,hi⟩:=qq_.mp hy;rw[xx_]at hi;split at hi
    ·cases hi;exact⟨jD_ _ s!"",jz_ _ hp⟩
    ·cases hi
 refine key bs _ fun y hy=>?_;obtain⟨z,_,rfl⟩:=jv_.mp hy;exact⟨jD_ _ s!"",jz_ _ hp⟩
def getD_in {p:Int}(hp:0<p){l:α2}(h:∀y∈l,0<=y/\y<p)(i:Nat):0<=l.getD i 0/\l.getD i 0<p:=by
 rw[jc_];cases e:l[i]? with
 |none=>exact⟨by simp,by simpa using hp⟩
 |some y=>exact h y (jo_ e)
def Sj {p:Int}{n:Nat}(row:α2):∀{bs:List (Nat×α2)},Bs p n bs->∀x∈bs,dotW (cof bs row) (colW (basR bs) x.1)=row.getD x.1 0
 |[],_,x,hx=>by simp at hx
 |y::bs,hB,x,hx=>by
  have c7:=List.pairwise_cons.mp hB.off;have hT:Bs p n bs:=⟨fun z hz=>hB.len z (jq_ _ hz),fun z hz=>hB.own z (jq_ _ hz),c7.2⟩;show dotW (row.getD y.1 0::cof bs row) (y.2.getD x.1 0::colW (basR bs) x.1)=_;rw[AU];rcases jE_.mp hx with rfl|hx
  ·have:colW (basR bs) x.1=oW bs.length 0:=by
    refine zQ_.mpr ⟨by unfold colW basR;simp,fun z hz=>?_⟩;unfold colW basR at hz;rw[jK_]at hz;obtain⟨y,hy,rfl⟩:=jv_.mp hz;exact (c7.1 y hy).2
   rw[this,D4,hB.own x (jA_ ..)];lia
  ·rw[(c7.1 x hx).1,Sj row hT x hx];lia
def PL (hp:0<p) (hr:row.length=n) (hB:Bs p n bs):∀x∈bs,(Aw p bs row).getD x.1 0=0:=fun x hx=>by
 have h:=(CM row hr bs hB).2 x.1;rw[Sj row hB x hx,qZ]at h;have:=getD_in hp (Ga hp row bs) x.1;rw[j6_ this.1 this.2]at h;simpa using h
noncomputable def NL (p inv:Int)(bs:List (Nat×α2))(left:α2)(q:Nat):List (Nat×α2):=
 let base:=left.map fun y=>inv*y%p
 (bs.map fun x=>(x.1,Aw p [(q,base)] x.2))++[(q,base)]
def Uc (hp:2<=p) (hB:Bs p n bs) (hl:left.length=n)(bP:∀y∈left,0<=y/\y<p)(h0:∀x∈bs,left.getD x.1 0=0) (hq:q<n)(hi:inv*left.getD q 0%p=1):Bs p n (NL p inv bs left q):=by
 obtain⟨base,hb⟩:∃base:α2,base=left.map fun y=>inv*y%p:=⟨_,rfl⟩;have dX:base.length=n:=by rw[hb,jb_,hl]
 have hbin:∀y∈base,0<=y/\y<p:=fun y hy=>by
  rw[hb]at hy;obtain⟨z,_,rfl⟩:=jv_.mp hy;exact⟨jD_ _ s!"",jz_ _ s!""⟩
 have fV:∀i,base.getD i 0=inv*left.getD i 0%p:=fun i=>by rw[hb,Il (by simp)]
 have nM:base.getD q 0=1:=by rw[fV,hi]
 have iP:∀x∈bs,base.getD x.1 0=0:=fun x hx=>by rw[fV,h0 x hx];simp
 have h1:Bs p n [(q,base)]:=⟨fun x hx=>by rw[jk_.mp hx];exact⟨dX,hq,hbin⟩,fun x hx=>by rw[jk_.mp hx];exact nM,xG_ ..⟩;have fW:∀x∈bs,∀i,(Aw p [(q,base)] x.2).getD i 0=(x.2.getD i 0-x.2.getD q 0*base.getD i 0)%p:=fun x hx i=>by
  have:=(CM x.2 (hB.len x hx).1 _ h1).2 i;have g:=getD_in s!"" (Ga (p:=p) s!"" x.2 [(q,base)]) i;rw[j6_ g.1 g.2]at this;rw[this]
  congr 2
  show dotW [x.2.getD q 0] [base.getD i 0]=_;rw[AU,Bt];lia
 have eV:∀x∈bs,∀i,base.getD i 0=0->(Aw p [(q,base)] x.2).getD i 0=x.2.getD i 0:=fun x hx i h=>by
  rw[fW x hx i,h,Int.mul_zero,sR];have g:=getD_in s!"" (hB.len x hx).2.2 i;exact j6_ g.1 g.2
 show Bs p n ((bs.map fun x=>(x.1,Aw p [(q,left.map fun y=>inv*y%p)] x.2))++[(q,left.map fun y=>inv*y%p)]);rw[<-hb];refine⟨fun x hx=>?_,fun x hx=>?_,?_⟩
 ·rcases jJ_.mp hx with hx|hx
  ·obtain⟨y,hy,rfl⟩:=jv_.mp hx;exact⟨(CM y.2 (hB.len y hy).1 _ h1).1,(hB.len y hy).2.1,Ga s!"" _ _⟩
  ·rw[jk_.mp hx];exact⟨dX,hq,hbin⟩
 ·rcases jJ_.mp hx with hx|hx
  ·obtain⟨y,hy,rfl⟩:=jv_.mp hx;show (Aw p [(q,base)] y.2).getD y.1 0=1;rw[eV y hy _ (iP y hy)];exact hB.own y hy
  ·rw[jk_.mp hx];exact nM
 ·refine x4_.mpr ⟨?_,xG_ ..,fun x hx y hy=>?_⟩
  ·refine zL_.mpr ((zR_.mp hB.off).imp fun {x y} h=>?_);obtain⟨hx,hy,h⟩:=h;exact⟨by show (Aw p [(q,base)] x.2).getD y.1 0=0;rw[eV x hx _ (iP y hy)];exact h.1,by show (Aw p [(q,base)] y.2).getD x.1 0=0;rw[eV y hy _ (iP x hx)];exact h.2⟩
  ·obtain⟨z,hz,rfl⟩:=jv_.mp hx;rw[jk_.mp hy];refine⟨?_,iP z hz⟩;show (Aw p [(q,base)] z.2).getD q 0=0;rw[fW z hz,nM,wo_,qZ];simp
def VJ {p:Int}{n:Nat}:∀{bs:List (Nat×α2)} (cs:α2),Bs p n bs->cs.length=bs.length->bs.map (fun x=>dotW cs (colW (basR bs) x.1))=cs
 |[],cs,_,h=>by
  have:cs=[]:=jN_.mp h;subst this;rfl
 |y::bs,[],_,h=>by simp at h
 |y::bs,c::cs,hB,h=>by
  have c7:=List.pairwise_cons.mp hB.off;have hT:Bs p n bs:=⟨fun z hz=>hB.len z (jq_ _ hz),fun z hz=>hB.own z (jq_ _ hz),c7.2⟩;have ih:=VJ cs hT (by simpa using h);have z0:colW (basR bs) y.1=oW bs.length 0:=by
   refine zQ_.mpr ⟨by unfold colW basR;simp,fun z hz=>?_⟩;unfold colW basR at hz;rw[jK_]at hz;obtain⟨x,hx,rfl⟩:=jv_.mp hz;exact (c7.1 x hx).2
  have e:∀i,dotW (c::cs) (colW (basR (y::bs)) i)=c*y.2.getD i 0+dotW cs (colW (basR bs) i):=fun i=>by
   show dotW (c::cs) (y.2.getD i 0::colW (basR bs) i)=_;rw[AU]
  rw[jR_,e,z0,D4,hB.own y (jA_ ..)]
  congr 1
  ·lia
  ·refine (jH_ fun x hx=>?_).trans ih;rw[e,(c7.1 x hx).1];lia
def Sk (hp:0<p) (hr:row.length=n) (hB:Bs p n bs)(hm:∀x∈bs,x.1<m)(h:Span p m (basR bs) fun i=>row.getD i 0):∀i:Nat,i<m->(Aw p bs row).getD i 0=0:=fun i hi=>by
 obtain⟨cs,a,b⟩:=h;have a':cs.length=bs.length:=by rw[a];unfold basR;rw[jb_]
 have e:cg p (cof bs row) cs:=by
  rw[<-VJ cs hB a'];unfold cof;exact cg.map fun x hx=>b x.1 (hm x hx)
 have h1:=(CM row hr bs hB).2 i;rw[wg_,cg.dot e (cg.refl p (colW (basR bs) i)),<-b i hi,<-wg_,qZ]at h1;have g:=getD_in hp (Ga hp row bs) i;rw[j6_ g.1 g.2]at h1;simpa using h1
def NM (hr:row.length=n) (hB:Bs p n bs)(h:∀i:Nat,i<m->(Aw p bs row).getD i 0=0):Span p m (basR bs) fun i=>row.getD i 0:=by
 refine⟨cof bs row,by unfold cof basR;simp,fun i hi=>?_⟩;have h1:=(CM row hr bs hB).2 i;rw[h i hi]at h1;have:=jM_ (row.getD i 0-dotW (cof bs row) (colW (basR bs) i)) (qs_ p);exact jC_.mpr (by rw[<-h1];simp)
structure Seen (p:Int)(n m:Nat)(seen:α1)(bs:List (Nat×α2)):Prop where
 b:Bs p n bs
 lt:∀x∈bs,x.1<m
 made:∀x∈bs,Span p n seen fun i=>x.2.getD i 0
 kept:∀r∈seen,r.length=n/\Span p m (basR bs) fun i=>r.getD i 0
def Sl (hr:row.length=n) (hB:Bs p n bs){seen:α1}(h:∀x∈bs,Span p n seen fun i=>x.2.getD i 0):Span p n (seen++[row]) fun i=>(Aw p bs row).getD i 0:=by
 have h1:Span p n (seen++[row]) fun i=>dotW (cof bs row) (colW (basR bs) i):=Span.comb _ (fun r jr=>by
  obtain⟨x,hx,rfl⟩:=jv_.mp jr;exact (h x hx).app [row]) (by unfold cof basR;simp)
 refine ((Span.last seen row).add (h1.smul (-1))).congr fun i _=>?_;rw[(CM row hr bs hB).2 i]
 congr 1
 show _=row.getD i 0 + -1*dotW (cof bs row) (colW (basR bs) i);lia
def Seen.same {seen:α1} (S:Seen p n m seen bs) (hr:row.length=n)(h:∀i:Nat,i<m->(Aw p bs row).getD i 0=0):Seen p n m (seen++[row]) bs:=
 ⟨S.b,S.lt,fun x hx=>(S.made x hx).app [row],fun r jr=>by
  rcases jJ_.mp jr with h' | h'
  ·exact S.kept r h'
  ·rw[jk_.mp h'];exact⟨hr,NM hr S.b h⟩⟩
def Seen.more (hp:2<=p)(iQ:m<=n){seen:α1} (S:Seen p n m seen bs) (hr:row.length=n) (hq:q<m)(hi:inv*(Aw p bs row).getD q 0%p=1):Seen p n m (seen++[row]) (NL p inv bs (Aw p bs row) q):=by
 have hl:=(CM row hr bs S.b).1;have hB:=Uc hp S.b hl (Ga s!"" row bs) (PL s!"" hr S.b) (show q<n by lia) hi;have eM:=Sl hr S.b S.made;have bz:=(CM row hr bs S.b).2;generalize Aw p bs row=left at hl hi hB eM bz ⊢;obtain⟨base,hb⟩:∃base:α2,base=left.map fun y=>inv*y%p:=⟨_,rfl⟩;have ew:NL p inv bs left q=(bs.map fun x=>(x.1,Aw p [(q,base)] x.2))++[(q,base)]:=by rw[hb];rfl
 have fV:∀i,base.getD i 0=inv*left.getD i 0%p:=fun i=>by rw[hb,Il (by simp)]
 rw[ew]at hB ⊢;have dX:base.length=n:=(hB.len (q,base) (by simp)).1;have h1:Bs p n [(q,base)]:=⟨fun x hx=>by rw[jk_.mp hx];exact hB.len (q,base) (by simp),fun x hx=>by rw[jk_.mp hx];exact hB.own (q,base) (by simp),xG_ ..⟩;have fW:∀x∈bs,∀i,(Aw p [(q,base)] x.2).getD i 0%p=(x.2.getD i 0-x.2.getD q 0*base.getD i 0)%p:=fun x hx i=>by
  rw[(CM x.2 (S.b.len x hx).1 _ h1).2 i]
  congr 2
  show dotW [x.2.getD q 0] [base.getD i 0]=_;rw[AU,Bt];lia
 have aW:Span p n (seen++[row]) fun i=>base.getD i 0:=(eM.smul inv).congr fun i _=>by
  rw[fV,jM_ _ (qs_ p)]
 have hbn:base∈basR ((bs.map fun x=>(x.1,Aw p [(q,base)] x.2))++[(q,base)]):=by unfold basR;simp
 have hnb:∀x∈bs,Aw p [(q,base)] x.2∈basR ((bs.map fun x=>(x.1,Aw p [(q,base)] x.2))++[(q,base)]):=fun x hx=>by
  unfold basR;rw[jm_,jK_];exact qf_ _ (jv_.mpr ⟨x,hx,rfl⟩)
 have eV:∀r∈basR bs,Span p m (basR ((bs.map fun x=>(x.1,Aw p [(q,base)] x.2))++[(q,base)])) fun i=>r.getD i 0:=fun r jr=>by
  obtain⟨x,hx,rfl⟩:=jv_.mp jr;refine ((Span.mem (hnb x hx)).add ((Span.mem hbn).smul (x.2.getD q 0))).congr fun i _=>?_;show _=((Aw p [(q,base)] x.2).getD i 0+x.2.getD q 0*base.getD i 0)%p;rw[qJ_,fW x hx i,<-qJ_]
  congr 1
  lia
 refine⟨hB,fun x hx=>?_,fun x hx=>?_,fun r jr=>?_⟩
 ·rcases jJ_.mp hx with hx|hx
  ·obtain⟨y,hy,rfl⟩:=jv_.mp hx;exact S.lt y hy
  ·rw[jk_.mp hx];exact hq
 ·rcases jJ_.mp hx with hx|hx
  ·obtain⟨y,hy,rfl⟩:=jv_.mp hx;refine (((S.made y hy).app [row]).add (aW.smul (-y.2.getD q 0))).congr fun i _=>?_;show (Aw p [(q,base)] y.2).getD i 0%p=(y.2.getD i 0 + -y.2.getD q 0*base.getD i 0)%p;rw[fW y hy i,rq]
   congr 1
  ·rw[jk_.mp hx];exact aW
 ·rcases jJ_.mp jr with h' | h'
  ·exact⟨(S.kept r h').1,(S.kept r h').2.trans eV⟩
  ·rw[jk_.mp h'];refine⟨hr,?_⟩;have h2:Span p m (basR ((bs.map fun x=>(x.1,Aw p [(q,base)] x.2))++[(q,base)])) fun i=>dotW (cof bs row) (colW (basR bs) i):=Span.comb _ eV (by unfold cof basR;simp);refine (h2.add ((Span.mem hbn).smul (left.getD q 0))).congr fun i _=>?_;show row.getD i 0%p=(dotW (cof bs row) (colW (basR bs) i)+left.getD q 0*base.getD i 0)%p;have e3:left.getD q 0*base.getD i 0%p=left.getD i 0%p:=by
    rw[fV,qr_,jM_ _ (qs_ p),<-qr_,show left.getD q 0*(inv*left.getD i 0)=(inv*left.getD q 0)*left.getD i 0 by rw[<-zy_,zk_ (left.getD q 0)],qr_,hi];rw[wq_,jM_ _ (qs_ p)]
   rw[qJ_,e3,bz i,<-qJ_]
   congr 1
   lia
noncomputable def Bu (n k:Nat):α2:=(oX n).map fun i=>if i=k then 1 else 0
def Io : ∀cs:α2,cs.length=n->dotW cs ((oX n).map fun i=>if i=k then 1 else 0)=cs.getD k 0:=by
 intro cs hc;have key:∀(m:Nat) (cs:α2),dotW cs ((List.range' m cs.length).map fun i=>if i=k then 1 else 0)=if m<=k then cs.getD (k-m) 0 else 0:=fun m cs=>by
  induction cs generalizing m with
  |nil=>rw[Bt];split<;>simp
  |cons c cs ih=>
   rw[jY_,List.range'_succ,jR_,AU,ih (m+1)];by_cases h1:m=k
   ·subst h1;rw[if_pos rfl,if_neg s!"",if_pos (jh_ _),q0_];show c*1+0=c;lia
   ·rw[if_neg h1];by_cases h2:m+1<=k
    ·rw[if_pos h2,if_pos s!"",show k-m=(k-(m+1))+1 by lia];show c*0+cs.getD (k-(m+1)) 0=cs.getD (k-(m+1)) 0;lia
    ·rw[if_neg h2,if_neg s!""];lia
 have:=key 0 cs;rw[if_pos (qc_ _),zj_,hc,<-List.range_eq_range']at this;exact this
noncomputable def Ba (ae:α1):α1:=(oX ae.length).map fun k=>ae.getD k []++Bu ae.length k
def Ip {xs ys:α2}{i:Nat}(h:i<xs.length):(xs++ys).getD i 0=xs.getD i 0:=by
 rw[jc_,jx_ h,<-jc_]
def NN {xs ys:α2}{i:Nat}:(xs++ys).getD (xs.length+i) 0=ys.getD i 0:=by
 rw[jc_,jB_ s!"",show xs.length+i-xs.length=i by lia,<-jc_]
def WN (hi:i<n):(Bu n k).getD i 0=if i=k then 1 else 0:=by
 unfold Bu;rw[jc_,ji_,xl_ hi];rfl
def HD (h:∀r∈ae,r.length=m) (hi:i<m):colW (Ba ae) i=colW ae i:=by
 unfold colW Ba;rw[jK_];have:(oX ae.length).map ((fun r:α2=>r.getD i 0) ∘ fun k=>ae.getD k []++Bu ae.length k)=(oX ae.length).map fun k=>(ae.getD k []).getD i 0:=by
  refine jH_ fun k hk=>?_;have hk:=qo_.mp hk;have e:ae.getD k []=ae[k]:=by rw[jc_,je_ hk];rfl
  show (ae.getD k []++Bu ae.length k).getD i 0=_;rw[Ip (by rw[e,h _ (jQ_ hk)];exact hi)]
 rw[this];have:ae.map (fun r=>r.getD i 0)=((oX ae.length).map fun k=>ae.getD k []).map fun r=>r.getD i 0:=by rw[L3]
 rw[this,jK_];rfl
def OO (h:∀r∈ae,r.length=m) (hj:j<ae.length):colW (Ba ae) (m+j)=Bu ae.length j:=by
 unfold colW Ba;rw[jK_];show (oX ae.length).map _=(oX ae.length).map _;refine jH_ fun k hk=>?_;have hk:=qo_.mp hk;have e:ae.getD k []=ae[k]:=by rw[jc_,je_ hk];rfl
 have hl:(ae.getD k []).length=m:=by rw[e,h _ (jQ_ hk)]
 show (ae.getD k []++Bu ae.length k).getD (m+j) 0=if k=j then 1 else 0
 rw[<-hl,NN,WN hj];by_cases mx:k=j
 ·rw[if_pos mx,if_pos mx.symm]
 ·rw[if_neg mx,if_neg (qp_ mx)]
def OP (h:∀r∈ae,r.length=m) (hv:Span p (m+ae.length) (Ba ae) v):∀i:Nat,i<m->v i%p=dotW ((oX ae.length).map fun k=>v (m+k)) (colW ae i)%p:=fun i hi=>by
 obtain⟨cs,a,b⟩:=hv;have a':cs.length=ae.length:=by rw[a];unfold Ba;simp
 have e:cg p ((oX ae.length).map fun k=>v (m+k)) cs:=by
  have:cs=(oX ae.length).map fun k=>cs.getD k 0:=by rw[<-a'];exact (L3 0 cs).symm
  rw[this];refine cg.map fun k hk=>?_;have hk:=qo_.mp hk;rw[b (m+k) s!"",OO h hk];unfold Bu;rw[Io cs a']
 rw[b i s!"",HD h hi,cg.dot e (cg.refl p _)]
def Span.less (h:Span p n S v)(hm:m<=n):Span p m S v:=by
 obtain⟨cs,a,b⟩:=h;exact⟨cs,a,fun i hi=>b i s!""⟩
def Seen.iff (hp:0<p)(iQ:m<=n){seen:α1} (S:Seen p n m seen bs) (hw:row.length=n):(∀i:Nat,i<m->(Aw p bs row).getD i 0=0)↔Span p m seen fun i=>row.getD i 0:=by
 refine⟨fun h=>(NM hw S.b h).trans fun r hr=>?_,fun h=>Sk hp hw S.b S.lt (h.trans fun r hr=>(S.kept r hr).2)⟩;obtain⟨x,hx,rfl⟩:=jv_.mp hr;exact (S.made x hx).less iQ
open Classical in
noncomputable def DM (p:Int)(m:Nat)(ae:α1):List Nat:=(oX ae.length).filter fun k=>decide (¬ Span p m (ae.take k) fun i=>(ae.getD k []).getD i 0)
open Classical in
def E4 (p:Int)(m:Nat)(ae:α1)(r:α2):DM p m (ae++[r])=DM p m ae++(if Span p m ae (fun i=>r.getD i 0) then [] else [ae.length]):=by
 unfold DM;rw[js_,jW_,qM_,qK]
 congr 1
 ·refine List.filter_congr fun k hk=>?_;have hk:=qo_.mp hk;rw[xJ_ s!"",jc_,jx_ hk,<-jc_]
 ·rw[pX,List.filter_nil,List.take_left,jc_,jB_ (jh_ _),q0_];show (if decide (¬ Span p m ae fun i=>r.getD i 0)=true then [ae.length] else [])=_;by_cases h:Span p m ae fun i=>r.getD i 0
  ·rw[if_neg (by rw[qG_];exact fun g=>g h),if_pos h]
  ·rw[if_pos (qx_ h),if_neg h]
noncomputable def Indep (p:Int)(m:Nat)(ae:α1):Prop:=∀cs:α2,cs.length=ae.length->(∀i:Nat,i<m->dotW cs (colW ae i)%p=0)->∀c∈cs,c%p=0
def MR (R S:α1)(i:Nat):colW (R++S) i=colW R i++colW S i:=by unfold colW;rw[jm_]
def Indep.left (h:Indep p m (R++S)):Indep p m R:=fun cs a b c hc=>
 h (cs++oW S.length 0) (by simp[a]) (fun i hi=>by
  rw[MR,Le _ _ _ _ (by rw[a,MO]),Be (oW _ _),D4,qY];exact b i hi) c (qf_ _ hc)
def Indep.not (hp:2<=p) (h:Indep p m (R++[r])):¬ Span p m R fun i=>r.getD i 0:=fun ⟨cs,a,b⟩=>by
 have:=h (cs++[-1]) (by simp[a]) (fun i hi=>by
  rw[MR,show colW [r] i=[r.getD i 0] from rfl,Im _ _ (by rw[a,MO])];have:=b i hi;exact qu_ (by
   have:=jM_ (r.getD i 0) (qs_ p);have e:r.getD i 0%p=dotW cs (colW R i)%p:=b i hi;have d:=j4_ (jC_.mp e.symm)
   rwa [show dotW cs (colW R i) + -1*r.getD i 0=dotW cs (colW R i)-r.getD i 0 by lia])) (-1) (by simp)
 have d:=j4_ this;have:=qE (by decide) (Int.dvd_neg.mpr d);lia
def Indep.chosen (hp:2<=p) : ∀{ae:α1},Indep p m ae->DM p m ae=oX ae.length:=by
 intro ae;generalize hk:ae.length=k
 induction k generalizing ae with
 |zero=>
  intro _;have:ae=[]:=jN_.mp hk;subst this;rfl
 |succ k ih=>
  intro h;obtain⟨R,r,rfl⟩:∃R r,ae=R++[r]:=⟨ae.dropLast,ae.getLast (by intro e;subst e;simp at hk),(qz_ _).symm⟩;have hR:R.length=k:=by simp at hk;lia
  rw[E4,if_neg (h.not hp),ih hR h.left,hR,qM_]
def Indep.uniq (h:Indep p m ae) (hc:cs.length=ae.length)(hd:ds.length=ae.length)(e:∀i:Nat,i<m->dotW cs (colW ae i)%p=dotW ds (colW ae i)%p):cg p cs ds:=by
 have key:=h (pf (· + ·) cs (ds.map (-1 * ·))) (by simp[hc,hd]) fun i hi=>by
  rw[Lf _ _ _ (by simp[hc,hd]),C0];have:=jC_.mp (e i hi)
  rwa [show dotW cs (colW ae i) + -1*dotW ds (colW ae i)=dotW cs (colW ae i)-dotW ds (colW ae i) by lia]
 unfold cg;refine xI_ (by simp[hc,hd]) fun i h1 h2=>?_;rw[zb_,zb_];have i1:i<cs.length:=by simpa using h1
 have i2:i<ds.length:=by simpa using h2
 have:=key (cs[i] + -1*ds[i]) (List.mem_iff_getElem.mpr ⟨i,by simp;lia,by simp⟩);refine jC_.mpr ?_
 rwa [show cs[i]-ds[i]=cs[i] + -1*ds[i] by lia]
def NO (hg:pz a p=1)(c:Int)(h:c*a%p=0):c%p=0:=by
 have d:=xV_.mpr (j4_ h);rw[rH,pZ]at d;have hc:p.natAbs.Coprime a.natAbs:=by
  unfold tH;rw[q9];exact hg
 exact qu_ (xV_.mp (hc.dvd_of_dvd_mul_left d))
def Indep.nil (p:Int)(m:Nat):Indep p m []:=fun cs a _ c hc=>by
 have:cs=[]:=jN_.mp a;subst this;simp at hc
def Qs (h:∀r∈ae,r.length=m):∀r∈Ba ae,r.length=m+ae.length:=fun r hr=>by
 unfold Ba at hr;obtain⟨k,hk,rfl⟩:=jv_.mp hr;have hk:=qo_.mp hk;have e:ae.getD k []=ae[k]:=by rw[jc_,je_ hk];rfl
 rw[js_,e,h _ (jQ_ hk)];unfold Bu;simp
def OQ (h:∀r∈ae,r.length=m) : Span p m (Ba ae) v↔Span p m ae v:=by
 have l:(Ba ae).length=ae.length:=by unfold Ba;simp
 constructor
 ·rintro⟨cs,a,b⟩;exact⟨cs,by rw[a,l],fun i hi=>by rw[b i hi,HD h hi]⟩
 ·rintro⟨cs,a,b⟩;exact⟨cs,by rw[a,l],fun i hi=>by rw[b i hi,HD h hi]⟩
def WO (c i:Nat):(oW c (0:Int)).getD i 0=0:=by
 rw[jc_,zs_];split<;>rfl
def Sm (hp:0<p) (h:∀r∈ae,r.length=m) (S:Seen p (m+ae.length) m (Ba ae) bs) (hw:row.length=m):(∀i:Nat,i<m->(Aw p bs (row++oW ae.length 0)).getD i 0=0)↔Span p m ae fun i=>row.getD i 0:=by
 rw[S.iff hp s!"" (by simp[hw]),OQ h];exact⟨fun g=>g.congr fun i hi=>by rw[Ip s!""],fun g=>g.congr fun i hi=>by rw[Ip s!""]⟩
def Yy (hp:0<p) (h:∀r∈ae,r.length=m) (S:Seen p (m+ae.length) m (Ba ae) bs) (hw:row.length=m)(h0:∀i:Nat,i<m->(Aw p bs (row++oW ae.length 0)).getD i 0=0):∀i:Nat,i<m->row.getD i 0%p=dotW ((oX ae.length).map fun k => -(Aw p bs (row++oW ae.length 0)).getD (m+k) 0%p) (colW ae i)%p:=by
 have bz:=(CM (row++oW ae.length 0) (by simp[hw]:_=m+ae.length) bs S.b).2;generalize hL:Aw p bs (row++oW ae.length 0)=left at bz h0 ⊢;have hs:Span p (m+ae.length) (Ba ae) fun i=>dotW (cof bs (row++oW ae.length 0)) (colW (basR bs) i):=Span.comb _ (fun r hr=>by
  obtain⟨x,hx,rfl⟩:=jv_.mp hr;exact S.made x hx) (by unfold cof basR;simp)
 intro i hi;have h1:=OP h hs i hi;have h2:=bz i;rw[h0 i hi,Ip s!""]at h2;have e1:row.getD i 0%p=dotW (cof bs (row++oW ae.length 0)) (colW (basR bs) i)%p:=jC_.mpr (by rw[<-h2];simp);rw[e1,h1];refine cg.dot (cg.map fun k hk=>?_) (cg.refl p _);have h3:=bz (m+k);rw[<-hw,NN,WO,hw,Int.zero_sub]at h3;rw[jM_ _ (qs_ p),<-Int.neg_neg (dotW _ _)];have d:=j4_ (jC_.mp h3);refine jC_.mpr (qu_ ?_);have e:∀x y:Int,- -x - -y=y - -x:=fun x y=>by lia
 rw[e];exact d
def Yz (hp:0<p) (h:∀r∈ae,r.length=m)(hI:Indep p m ae) (S:Seen p (m+ae.length) m (Ba ae) bs) (hw:row.length=m) (ha:am.length=ae.length)(bP:∀x∈am,0<=x/\x<p)(he:∀i:Nat,i<m->row.getD i 0%p=dotW am (colW ae i)%p):((Aw p bs (row++oW ae.length 0)).drop m).map (fun y => -y%p)=am:=by
 have h0:=(Sm hp h S hw).mpr ⟨am,ha,he⟩;have hl:=(CM (row++oW ae.length 0) (by simp[hw]:_=m+ae.length) bs S.b).1;have hf:=Yy hp h S hw h0;generalize Aw p bs (row++oW ae.length 0)=left at hl hf h0 ⊢;have e0:(left.drop m).map (fun y => -y%p)=(oX ae.length).map fun k => -left.getD (m+k) 0%p:=by
  refine xI_ (by simp[hl]) fun i h1 h2=>?_;have hi:m+i<left.length:=by simp at h1;lia
  rw[zb_,zb_,qL,List.getElem_drop,jc_,je_ hi];rfl
 have hu:=hI.uniq (cs:=(oX ae.length).map fun k => -left.getD (m+k) 0%p) (ds:=am) (by simp) ha fun i hi=>(hf i hi).symm.trans (he i hi);rw[e0];unfold cg at hu;rw[jK_]at hu;have e2:am.map (· % p)=am:=by
  conv=>rhs;rw[<-List.map_id am]
  exact jH_ fun x hx=>j6_ (bP x hx).1 (bP x hx).2
 rw[e2]at hu;rw[<-hu];refine jH_ fun k _=>?_;show _=(-left.getD (m+k) 0%p)%p;rw[jM_ _ (qs_ p)]
def PM:∀(m:Nat) (l:List Nat),l.Nodup->(∀x∈l,x<m)->l.length<=m
 |0,l,_,h=>by
  cases l with
  |nil=>exact jh_ _
  |cons x l=>exact absurd (h x (jA_ ..)) (zx_ _)
 |m+1,l,nd,h=>by
  have h1:=PM m (l.erase m) (nd.erase m) fun x hx=>by
   have hx1:=h x (List.mem_of_mem_erase hx);have hx2:x≠m:=fun e=>by
    subst e;exact (List.Nodup.not_mem_erase nd) hx
   lia
  have h2:=List.length_erase (a:=m) (l:=l);by_cases hm:m∈l
  ·rw[if_pos hm]at h2;lia
  ·rw[if_neg hm]at h2;lia
def bez (a b:Nat):∃x y:Int,x*a+y*b=(qu a b:Int):=by
 induction a,b using Nat.gcd.induction with
 |H0 n=>exact⟨0,1,by simp⟩
 |H1 m n hm ih=>
  obtain⟨x,y,h⟩:=ih;refine⟨y-x*((n / m:Nat):Int),x,?_⟩;rw[tJ m n,<-h];have e:(n:Int)=(m:Int)*((n / m:Nat):Int)+((n%m:Nat):Int):=by
   have:=qd n m;rw[<-rD,<-Int.natCast_add,this]
  have e2:x*(n:Int)=x*((m:Int)*((n / m:Nat):Int))+x*((n%m:Nat):Int):=by rw[<-wr_,<-e]
  rw[e2,qr,zy_,zk_ ((n / m:Nat):Int) (m:Int)];lia
def YA (hp:2<=p)(h0:0<a)(hg:pz a p=1):∃inv:Int,inv*a%p=1:=by
 obtain⟨x,y,h⟩:=bez a.natAbs p.natAbs;rw[show qu a.natAbs p.natAbs=1 from hg,show (a.natAbs:Int)=a by lia,show (p.natAbs:Int)=p by lia]at h;refine⟨x,?_⟩;have e:x*a=1+p*(-y):=by rw[Int.mul_neg,zk_ p y];lia
 rw[e,Int.add_mul_emod_self_left];exact j6_ (by decide) s!""
def WQ (hp:2<=p)(hI:∀a:Int,0<a->a<p->∃inv:Int,inv*a%p=1) (iQ:m<=n):∀ae:α1,(∀r∈ae,r.length=n)->∃bs,Seen p n m ae bs/\bs.length=(DM p m ae).length:=by
 intro ae;generalize hk:ae.length=k
 induction k generalizing ae with
 |zero=>
  intro _;have:ae=[]:=jN_.mp hk;subst this;exact⟨[],⟨⟨by simp,by simp,.nil⟩,by simp,by simp,by simp⟩,rfl⟩
 |succ k ih=>
  intro h;obtain⟨R,x,rfl⟩:∃R x,ae=R++[x]:=⟨ae.dropLast,ae.getLast (by intro e;subst e;simp at hk),(qz_ _).symm⟩;obtain⟨bs,S,hb⟩:=ih R (by simp at hk;lia) fun r hr=>h r (qf_ _ hr);have hx:x.length=n:=h x (by simp);have cC:=S.iff s!"" iQ hx;rw[E4];by_cases hs:Span p m R fun i=>x.getD i 0
  ·rw[if_pos hs,xQ_];exact⟨bs,S.same hx (cC.mpr hs),hb⟩
  ·rw[if_neg hs];obtain⟨q,hq,h0⟩:∃q:Nat,q<m/\(Aw p bs x).getD q 0≠0:=qk_ fun hc=>hs (cC.mp fun i hi=>qk_ fun g=>hc ⟨i,hi,g⟩);have g:=getD_in (show 0<p by lia) (Ga s!"" x bs) q;obtain⟨inv,dY⟩:=hI _ s!"" g.2;exact⟨_,S.more hp iQ hx hq dY,by unfold NL;simp[hb]⟩
def Sn (h:Bs p n bs):(bs.map (·.1)).Nodup:=by
 refine zL_.mpr ((zR_.mp h.off).imp fun {x y} g e=>?_);obtain⟨hx,hy,g1,_⟩:=g;rw[<-e,h.own x hx]at g1;exact absurd g1 (by decide)
def So (hp:2<=p)(hI:∀a:Int,0<a->a<p->∃inv:Int,inv*a%p=1) (h:∀r∈ae,r.length=n):(DM p n ae).length<=n:=by
 obtain⟨bs,S,hb⟩:=WQ hp hI (jh_ n) ae h;rw[<-hb,<-jb_ (f:=(·.1)) (as:=bs)];refine PM n _ (Sn S.b) fun x hx=>?_;obtain⟨y,hy,rfl⟩:=jv_.mp hx;exact S.lt y hy
structure GcdI (p n one bo f g:Int):Prop where
 o:0<one
 o1:one<=p
 t:0<=bo
 t1:bo<=p
 gc:pz one bo=1
 f1:(f*n-one)%p=0
 g1:(g*n-bo)%p=0
def WR (ha:0<a)(hb:0<b)(h:pz a b=1):pz b (a%b)=1:=by
 have m0:=jD_ a (show b≠0 by lia);have e:(a%b).natAbs=a.natAbs%b.natAbs:=by
  have e1:a%b=((a.natAbs%b.natAbs:Nat):Int):=by rw[Int.natCast_emod,show (a.natAbs:Int)=a from by lia,show (b.natAbs:Int)=b from by lia]
  rw[e1,Int.natAbs_natCast]
 unfold pz at h ⊢;rw[e,q9,<-tJ,q9];exact h
def GcdI.step (h:GcdI p n one bo f g)(ht:bo≠0):GcdI p n bo (one-one / bo*bo) g (f-one / bo*g):=by
 have hp:0<bo:=by have:=h.t;lia
 have e:one-one / bo*bo=one%bo:=by have:=zS_ one bo;rw[zk_];lia
 refine⟨hp,h.t1,by rw[e];exact jD_ _ ht,by rw[e];have:=jz_ one hp;have:=h.t1;lia,?_,h.g1,?_⟩
 ·rw[e];exact WR h.o hp h.gc
 ·have e2:(f-one / bo*g)*n-(one-one / bo*bo)=(f*n-one)-one / bo*(g*n-bo):=by
   rw[qr,qp,zy_];lia
  have d1:=j4_ h.f1;have d2:=j4_ h.g1;rw[e2];exact qu_ (ws_ d1 (qT_ d2))
def GcdI.done (h:GcdI p n one 0 f g)(hp:2<=p):f%p*n%p=1:=by
 have e:one=1:=by have:=h.gc;have:=h.o;rw[Int.gcd_zero_right] at *;lia
 have:=h.f1;rw[e]at this;have d:=j4_ this;have e3:f*n%p=1%p:=jC_.mpr this;have e4:f%p*n%p=f*n%p:=by rw[qr_,Int.emod_emod,<-qr_]
 rw[e4,e3];exact j6_ (by decide) s!""
noncomputable def Qt (NI:Addr):Sp:=fun vs H Q E=>∃(p n:Int),vs=[.int p,.int n]/\2<=p/\p<1000000000000000000/\(n%p=0->E (.ref NI) none H)/\(n%p≠0->pz (n%p) p=1/\∀r,0<=r->r<p->r*n%p=1->Q (.int r) H)
def Qu:CalH P w mg base (CXe P w) EE.j16 1 ["p","number"] (Qt cB):=by
 refine HG.okE EE.j16 Bb (fun vs H Q E h=>?_) (fun ao A outer s H vs Q E hr h=>?_)
 ·obtain⟨p,n,rfl,_⟩:=h;rfl
 ·obtain⟨p,n,rfl,hp,hV,kE,k⟩:=h;have hl:=Al;refine⟨_,(Ac (Ak (i:=2) Bb.nd (pvD 0))
   (Ac (Ak (i:=3) Bb.nd (Ar (opD A0) (pvD 1) (pvD 0)))
   (Ac (AZ (ptT (Ap (opE GG) (pvD 3) Ai (Av _)))
   (Ae (Gz EE.m_j8 EE.x_j8 rfl rfl (Aa AA Ad)))
   Au)
   (Ac (Ak (i:=4) Bb.nd Ai)
   (Ac (Ak (i:=5) Bb.nd Ai)
   (Ac (Gw PassesOwn.leaving (ptT (Ap (opN Dk) (pvD 3) Ai (Av _)))
   (Ac (Ak (i:=6) Bb.nd (Ar (opD TV) (pvD 2) (pvD 3)))
   (Ac (Ak (i:=7) Bb.nd (Ar (opD0 Nf) (pvD 2) (Ar (opD Fd) (pvD 6) (pvD 3))))
   (Ac (Ak (i:=8) Bb.nd (Ar (opD0 Nf) (pvD 4) (Ar (opD Fd) (pvD 6) (pvD 5))))
   (Ac (Ak (i:=2) Bb.nd (pvD 3))
   (Ac (Ak (i:=4) Bb.nd (pvD 5))
   (Ac (Ak (i:=3) Bb.nd (pvD 7))
   (Ae (Ak (i:=5) Bb.nd (pvD 8))))))))))
   (Ae (Am (Ar (opD A0) (pvD 4) (pvD 0)))))))))),?_⟩
  nofun;refine⟨by lia,ite2 (fun e=>⟨by lia,kE e⟩) (fun e=>?_)⟩;obtain⟨hg,kq⟩:=k e;have m0:=jD_ n (show p≠0 by lia);have m1:=jz_ n (show 0<p by lia);obtain⟨Pv,aq⟩:∃Pv:Nat->St->Hp->Prop,∀m ai H2,Pv m ai H2↔(H2=H/\∃(one bo f g:Int) (o6 o7 o8:Option V),m=bo.toNat/\GcdI p n one bo f g/\ai=[some (.int p),some (.int n),some (.int one),some (.int bo),some (.int f),some (.int g),o6,o7,o8]):=⟨_,fun _ _ _=>qP_⟩;refine LV Pv ⟨_,(aq _ _ _).mpr ⟨rfl,p,n%p,0,1,none,none,none,rfl,⟨by lia,by lia,m0,by lia,by rw[sL];exact hg,qu_ ⟨-1,by rw[Int.zero_mul];lia⟩,qu_ ⟨n / p,by rw[wq_];have:=zS_ n p;lia⟩⟩,rfl⟩⟩ ?_;intro m ai H2 nN;obtain⟨rfl,one,bo,f,g,o6,o7,o8,rfl,G,rfl⟩:=(aq _ _ _).mp nN;have g1:=G.o;have g2:=G.o1;have g3:=G.t;have g4:=G.t1;nofun;by_cases ht:bo=0
  ·rw[if_neg (by simp[ht])];subst ht;nofun;exact⟨by lia,kq _ (jD_ _ s!"") (jz_ _ s!"") (G.done hp)⟩
  ·rw[if_pos (by simp[ht])];have q0:=Int.ediv_nonneg (show 0<=one by lia) g3;have q1:one / bo<=one:=Int.ediv_le_self _ s!"";have G':=G.step ht;have r1:=G'.t;refine⟨fun af H'=>∃m',m'<bo.toNat/\Pv m' af H',fun _ _ h=>h,by lia,by lia,.inr ⟨by lia,by lia⟩,.inl ⟨by lia,by lia⟩,(one-one / bo*bo).toNat,?_,(aq _ _ _).mpr ⟨rfl,_,_,_,_,_,_,_,rfl,G',rfl⟩⟩;have e1:one-one / bo*bo=one%bo:=by have:=zS_ one bo;rw[zk_];lia
   have:=jz_ one (show 0<bo by lia);lia
noncomputable def Sq (K:α3):Sp:=fun vs H Q _=>∃(p f:Int) (t:Bool) (a:Addr) (xs:α2),vs=[.int p,.int f,.ref a]/\0<p/\(-(2 ^ 64)<f/\f<2 ^ 64)/\SqB K H t a (xs.map V.int)/\xs.length<=900/\∀q H',Same H H'->H' q=some (.tup ((xs.map fun x=>f*x%p).map V.int))->Q (.ref q) H'
def NQ:⋯ EE.j13 1 ["p","factor","row"] (Sq K):=by
 delta EE.j13 Si
 ·obtain⟨p,f,t,a,xs,rfl,_⟩:=h;rfl
 ·obtain⟨p,f,t,a,xs,rfl,hp,hf,ha,hz,k⟩:=h;have hl:=Al;refine⟨_,(Ae (Am (AF AM rfl EE.tuple jO_ (Aa (BP rfl (BO rfl) (cp:=LY) ⟨⟨rfl,rfl⟩,⟨⟨rfl,rfl⟩,oZ⟩⟩ (Ry (pvD 2)) (fun _ _ _ _=>(Aq (i:=0) MM rfl (o9 rfl))) (fun _ _ _ _=>By) (fun _ _ _ _=>(Ar (opD A0) (Ar (opD Fd) (pvD 2) (pvD 0)) (pvD 1)))) Ad)))),?_⟩;nofun;obtain⟨g,hg⟩:∃g:V->V,∀n:Int,g (V.int n)=.int (f*n%p):=⟨fun x=>match x with | .int n=>.int (f*n%p)|_=>.non,fun _=>rfl⟩;refine Px (af:=[some (.int p),some (.int f)]) g rfl ha (by rw[jb_];lia) (fun x hx R hR=>?_) (fun D hD=>?_)
  ·obtain⟨n,hn,rfl⟩:=jv_.mp hx;rw[hg]at hR;nofun;exact⟨.inl hf,hp,hR⟩
  ·have em:(xs.map V.int).map g=(xs.map fun x=>f*x%p).map V.int:=by
    rw[jK_,jK_];exact jH_ fun n _=>hg n
   rw[em];refine⟨D,rfl,_,.inl ⟨SqL.of Ab,fun q hq=>k q _ ((Same.new hD).newT hq) Ab⟩⟩
noncomputable def Ud (K:α3):Sp:=fun vs H Q _=>∃(p:Int) (t1 t2:Bool) (a b:Addr) (xs ys:α2),vs=[.int p,.ref a,.ref b]/\0<p/\SqB K H t1 a (xs.map V.int)/\SqB K H t2 b (ys.map V.int)/\xs.length=ys.length/\xs.length<=900/\∀q H',Same H H'->H' q=some (.tup ((pf (fun x y=>(x+y)%p) xs ys).map V.int))->Q (.ref q) H'
def Ue:⋯ EE.j14 1 ["p","row","other"] (Ud K):=by
 delta EE.j14 T8
 ·obtain⟨p,t1,t2,a,b,xs,ys,rfl,_⟩:=h;rfl
 ·obtain⟨p,t1,t2,a,b,xs,ys,rfl,hp,ha,hb,ak,hz,k⟩:=h;have hl:=Al;refine⟨_,(Ae (Am (AF AM rfl EE.tuple jO_ (Aa (BP rfl (BO rfl) (cp:=NJ) ⟨⟨rfl,rfl⟩,oZ⟩ (OA rfl EE.zip (Aa (pvD 1) (Aa (pvD 2) Ad))) (fun _ _ _ _=>(OB (K:=K) (n:=2) rfl rfl (Bg (Aq (i:=0) JF rfl (o9 rfl)) (Bg (Aq (i:=1) JF rfl (o9 rfl)) FD)))) (fun _ _ _ _=>By) (fun _ _ _ _=>(Ar (opD A0) (Ar (opD0 Bl) (pvD 0) (pvD 1)) (pvD 2)))) Ad)))),?_⟩;nofun;refine⟨_,_,t1,ha,t2,hb,Pz (af:=[some (.int p)]) (fun x y=>(x+y)%p) rfl ha hb ak s!"" (fun t u v o1 o2 H1 N ht hN=>?_) (fun x y H1 hx hy s1 R hR=>?_) (fun H1 D s1 hD=>?_)⟩
  ·nofun;exact⟨_,SqT.of ht,rfl,_,_,rfl,_,_,rfl,rfl,hN⟩
  ·nofun;exact⟨hp,hR⟩
  ·refine⟨D,rfl,_,.inl ⟨SqL.of Ab,fun q hq=>k q _ ((s1.newT hD).newT hq) Ab⟩⟩
noncomputable def Qv (K:α3):Sp:=fun vs H Q _=>∃(p:Int) (t1 t2:Bool) (a b:Addr) (xs ys:α2),vs=[.int p,.ref a,.ref b]/\0<p/\SqB K H t1 a (xs.map V.int)/\SqB K H t2 b (ys.map V.int)/\xs.length=ys.length/\xs.length<=900/\(∀x∈xs,-(2 ^ 64)<x/\x<2 ^ 64)/\∀H',Same H H'->Q (.int (dotW xs ys%p)) H'
def CN:⋯ EE.j23 1 ["p","row","other"] (Qv K):=by
 delta EE.j23 Qm
 ·obtain⟨p,t1,t2,a,b,xs,ys,rfl,_⟩:=h;rfl
 ·obtain⟨p,t1,t2,a,b,xs,ys,rfl,hp,ha,hb,ak,hz,hx64,k⟩:=h;have hl:=Al;refine⟨_,(Ae (Am (Ar (opD A0) (AK (Mt rfl) rfl EE.sum zT_ (Aa (BP rfl (BO rfl) (cp:=Lb) oZ (OA rfl EE.zip (Aa (pvD 1) (Aa (pvD 2) Ad))) (fun _ _ _ _=>(OB (K:=K) (n:=2) rfl rfl (Bg (Aq (i:=0) GS rfl (o9 rfl)) (Bg (Aq (i:=1) GS rfl (o9 rfl)) FD)))) (fun _ _ _ _=>By) (fun _ _ _ _=>(Ar (opD Fd) (pvD 0) (pvD 1)))) Ad)) (pvD 0)))),?_⟩;nofun;refine⟨_,_,t1,ha,t2,hb,Pz (af:=[]) (fun x y=>x*y) rfl ha hb ak s!"" (fun t u v o1 o2 H1 N ht hN=>?_) (fun x y H1 hx hy s1 R hR=>?_) (fun H1 D s1 hD=>?_)⟩
  ·nofun;exact⟨_,SqT.of ht,rfl,_,_,rfl,_,_,rfl,rfl,hN⟩
  ·nofun;exact⟨.inl (hx64 x hx),hR⟩
  ·exact⟨D,rfl,_,SqL.of Ab,hp,k _ (s1.newT hD)⟩
noncomputable def Qw (K:α3):Sp:=fun vs H Q _=>∃(p:Int) (t1 t2:Bool) (a b:Addr) (xs:List V) (ae:α1) (am:α2) (n:Nat),vs=[.int p,.ref a,.ref b,.int n]/\0<p/\SqB K H t1 a xs/\FA K H xs ae/\(∀r∈ae,r.length=n)/\SqB K H t2 b (am.map V.int)/\am.length=ae.length/\ae.length<=900/\n<=900/\(∀x∈am,-(2 ^ 64)<x/\x<2 ^ 64)/\∀q H',Same H H'->H' q=some (.tup ((Jm p ae am n).map V.int))->Q (.ref q) H'
def Qx:⋯ EE.j30 2 ["p","rows","parts","size"] (Qw K):=by
 delta EE.j30 Qn
 ·obtain⟨p,t1,t2,a,b,xs,ae,am,n,rfl,_⟩:=h;rfl
 ·obtain⟨p,t1,t2,a,b,xs,ae,am,n,rfl,hp,ha,hX,dZ,hb,ak,hz,hn,lj,k⟩:=h;have hl:=Al;refine⟨_,(Ae (Am (AF AM rfl EE.tuple jO_ (Aa (TM rfl (Wr rfl) (cp:=Lc) ⟨⟨rfl,rfl⟩,⟨⟨rfl,rfl⟩,⟨⟨rfl,rfl⟩,oZ⟩⟩⟩ (Cf rfl EE.range (Aa (pvD 3) Ad)) (fun _ _ _ _=>(Aq (i:=0) LI rfl (pJ rfl))) (fun _ _ _ _=>By) (fun _ _ _ _=>(Af (CN EE) hr.d An (Aa (pvD 1) (Aa (pvD 2) (Aa (BP rfl (BO rfl) (cp:=Ld) ⟨⟨rfl,rfl⟩,oZ⟩ (Wv (K:=K) rfl (pvD 3)) (fun _ _ _ _=>(Aq (i:=0) LJ rfl (o9 rfl))) (fun _ _ _ _=>By) (fun _ _ _ _=>(As (ixTD (FL (K:=K) rfl)) (pvD 0) (pvD 1)))) Ad)))))) Ad)))),?_⟩;nofun;refine⟨by lia,by lia,?_⟩;rw[jw_];obtain⟨Pc,cm⟩:∃Pc:Nat->List V->St->Hp->Prop,∀c ys bb H4,Pc c ys bb H4↔(Same H H4/\ys=((oX c).map fun c=>dotW am (colW ae c)%p).map V.int/\∃o,bb=[o,some (.int p),some (.ref b),some (.ref a)]):=⟨_,fun _ _ _ _=>qP_⟩;refine Rq Pc ((cm _ _ _ _).mpr ⟨Same.refl _,rfl,none,rfl⟩) s!"" (fun c ys bb H4 _ h4=>?_) (fun c ys bb H4 hc h4=>?_) (fun ys bb H4 h4 D hD=>?_)
  ·obtain⟨_,rfl,_⟩:=(cm _ _ _ _).mp h4;rw[jb_,jb_,jX_];exact jh_ _
  ·obtain⟨s4,rfl,o,rfl⟩:=(cm _ _ _ _).mp h4;rw[xX_];nofun;refine R1 (af:=[some (.int c)]) (fun i=>V.int ((ae.getD i []).getD c 0)) rfl (ha.mono s4) (by rw[hX.1];lia) (fun i x hx R hR=>?_) (fun D hD=>?_)
   ·have hi:i<ae.length:=by rw[<-hX.1];exact (jg_.mp hx).1
    obtain⟨t,e1,e2⟩:=hX.2 i ae[i] (by simp[hi]);rw[hx]at e1;cases e1;have bC:c<(ae[i]).length:=by rw[dZ _ (jQ_ hi)];exact hc
    have er:ae.getD i []=ae[i]:=by rw[jc_,je_ hi];rfl
    rw[er,jc_,je_ bC]at hR;nofun;exact⟨_,s4.seqT e2,_,Hj s!"" (v:=(ae[i])[c]) (by simp[bC]),hR⟩
   ·rw[hX.1,Yw] at *;have sD:=Same.new hD (o:=.lst ((colW ae c).map V.int));nofun;refine⟨p,t2,false,b,D,am,colW ae c,rfl,hp,hb.mono (s4.trans sD),SqL.of Ab,by unfold colW;rw[jb_];exact ak,by lia,lj,fun H5 s5=>(cm _ _ _ _).mpr ⟨(s4.trans sD).trans s5,?_,_,rfl⟩⟩;rw[qM_,jm_,jm_];rfl
  ·obtain⟨s4,rfl,o,rfl⟩:=(cm _ _ _ _).mp h4;exact⟨D,rfl,_,.inl ⟨SqL.of Ab,fun q hq=>k q _ ((s4.newT hD).newT hq) Ab⟩⟩
noncomputable def BasD (K:α3)(H:Hp)(d:Addr)(bs:List (Nat×α2)):Prop:=∃kvs:List (Key×V),Rd H d (.dK kvs)/\kvs.length=bs.length/\∀(i:Nat) (x:Nat×α2),bs[i]?=some x->∃t,kvs[i]?=some (pk (x.1:Int),V.ref t)/\SqT K H t (x.2.map V.int)
def BasD.fz {K:α3} (h:BasD K H d bs)(s:FzAt e H H'):BasD K H' d bs:=by
 obtain⟨kvs,h1,h2,h3⟩:=h;refine⟨kvs,s.rd h1,h2,fun i x hx=>?_⟩;obtain⟨t,a,b⟩:=h3 i x hx;exact⟨t,a,s.seqT b⟩
def BasD.mono {K:α3} (h:BasD K H d bs)(s:Same H H'):BasD K H' d bs:=h.fz (FzAt.of (d:=d) s)
noncomputable def YB (K:α3):Sp:=fun vs H Q _=>∃(a:Addr) (xs:α2),vs=[.ref a]/\SqT K H a (xs.map V.int)/\xs.length<=900/\(∀(q:Nat) (H':Hp),Same H H'->q<xs.length->xs.getD q 0≠0->Q (.int q) H')/\∀H',Same H H'->(∀q:Nat,q<xs.length->xs.getD q 0=0)->Q .non H'
def EA:⋯ EE.j12 1 ["row"] (YB K):=by
 delta EE.j12 CI
 ·obtain⟨a,xs,rfl,_⟩:=h;rfl
 ·obtain⟨a,xs,rfl,ha,hz,k1,k2⟩:=h;have hl:=Al;refine⟨_,(Ac (Bx jL_ rfl (Mr rfl EE.enumerate (pvD 0)) (LP rfl (Bg (Aq (i:=1) CI.nd rfl (o9 rfl)) (Bg (Aq (i:=2) CI.nd rfl (o9 rfl)) FD)))
   (Ae (AZ (ptT (Ap (opN Dk) (pvD 2) Ai (Av _)))
   (Ae (Am (pvD 1)))
   Au)))
   (Ae (Am Bw))),?_⟩
  nofun;obtain⟨Pv,aq⟩:∃Pv:Nat->St->Hp->Prop,∀i af H',Pv i af H'↔(Same H H'/\(∀q:Nat,q<i->xs.getD q 0=0)/\∃o1 o2,af=[some (.ref a),o1,o2]):=⟨_,fun _ _ _=>qP_⟩;refine⟨_,ha,forN Pv ((aq _ _ _).mpr ⟨Same.refl _,fun q hq=>by lia,none,none,rfl⟩) (fun i af H' _ h'=>((aq _ _ _).mp h').1.seqT ha) (fun i v af H' t hv h' ht=>?_) (fun af H' h'=>?_)⟩
  ·obtain⟨s1,h0,o1,o2,rfl⟩:=(aq _ _ _).mp h';obtain⟨x,hx,rfl⟩:∃x,xs[i]?=some x/\v=.int x:=by
    rw[ji_]at hv;cases e:xs[i]? with
    |none=>rw[e]at hv;cases hv
    |some x=>rw[e]at hv;exact⟨x,rfl,(ju_ hv).symm⟩
   have hi:i<xs.length:=(jg_.mp hx).1;have ex:xs.getD i 0=x:=by rw[jc_,hx];rfl
   nofun;refine⟨_,SqT.of Ab,rfl,_,_,rfl,_,_,rfl,rfl,rfl,?_⟩;have s2:=s1.newT ht (o:=.tup [.int i,.int x]);by_cases my:x=0
   ·rw[if_neg (by simp[my])];refine (aq _ _ _).mpr ⟨s2,fun q hq=>?_,_,_,rfl⟩;rcases qV q i with h|h
    ·exact h0 q h
    ·rw[show q=i by lia,ex,my]
   ·rw[if_pos (by simp[my])];exact k1 i _ s2 hi (by rw[ex];exact my)
  ·obtain⟨s1,h0,o1,o2,rfl⟩:=(aq _ _ _).mp h';nofun;exact k2 _ s1 (by simpa using h0)
noncomputable def WT (K:α3):Sp:=fun vs H Q _=>∃(p:Int) (d r:Addr) (t:Bool) (bs:List (Nat×α2)) (row:α2),vs=[.int p,.ref d,.ref r]/\0<p/\p<2 ^ 62/\BasD K H d bs/\SqB K H t r (row.map V.int)/\row.length<=900/\(∀x∈bs,x.2.length=row.length/\x.1<row.length)/\∀q H',FzAt d H H'->SqT K H' q ((Aw p bs row).map V.int)->Q (.ref q) H'
def Jn:⋯ EE.j15 2 ["p","bases","row"] (WT K):=by
 delta EE.j15 Ew
 ·obtain⟨p,d,r,t,bs,row,rfl,_⟩:=h;rfl
 ·obtain⟨p,d,r,t,bs,row,rfl,hp,hp62,hB,hrow,hz,iR,k⟩:=h;have hl:=Al;refine⟨_,(Ac (Ak (i:=3) Ew.nd (AF AM rfl EE.tuple jO_ (Aa (BP rfl (BO rfl) (cp:=La) ⟨⟨rfl,rfl⟩,oZ⟩ (Ry (pvD 2)) (fun _ _ _ _=>(Aq (i:=0) LH rfl (o9 rfl))) (fun _ _ _ _=>By) (fun _ _ _ _=>(Ar (opD A0) (pvD 0) (pvD 1)))) Ad)))
   (Ac (Bx jL_ rfl (R5 (pvD 1)) (LP rfl (Bg (Aq (i:=4) Ew.nd rfl (o9 rfl)) (Bg (Aq (i:=5) Ew.nd rfl (o9 rfl)) FD)))
   (Ae (AZ (ptT (Ap (opN Dk) (As (ixTD Ay) (pvD 3) (pvD 4)) Ai (Av _)))
   (Ae (Ak (i:=3) Ew.nd (Af (Ue EE) hr.d An (Aa (pvD 0) (Aa (pvD 3) (Aa (Af (NQ EE) hr.d An (Aa (pvD 0) (Aa (Lz GP (As (ixTD Ay) (pvD 3) (pvD 4))) (Aa (pvD 5) Ad)))) Ad))))))
   Au)))
   (Ae (Am (pvD 3))))),?_⟩
  nofun;obtain⟨g,hg⟩:∃g:V->V,∀n:Int,g (V.int n)=.int (n%p):=⟨fun x=>match x with | .int n=>.int (n%p)|_=>.non,fun _=>rfl⟩;refine Px (af:=[some (.int p)]) g rfl hrow (by rw[jb_];lia) (fun x hx R hR=>?_) (fun D hD=>?_)
  ·obtain⟨n,hn,rfl⟩:=jv_.mp hx;rw[hg]at hR;nofun;exact⟨hp,hR⟩
  ·have em:(row.map V.int).map g=(row.map fun x=>x%p).map V.int:=by
    rw[jK_,jK_];exact jH_ fun n _=>hg n
   rw[em];refine⟨D,rfl,_,.inl ⟨SqL.of Ab,fun q hq=>?_⟩⟩;have s0:=(Same.new hD (o:=.lst ((row.map fun x=>x%p).map V.int))).newT hq (o:=.tup ((row.map fun x=>x%p).map V.int));obtain⟨kvs,b1,b2,b3⟩:=hB.mono s0;refine⟨kvs,b1,fun o H2 iS hF=>?_⟩;have hF0:FzAt d H H2:=(FzAt.of s0).trans hF;obtain⟨Pv,aq⟩:∃Pv:Nat->St->Hp->Prop,∀i af H',Pv i af H'↔(Same H2 H'/\∃(l:Addr) (o1 o2:Option V),SqT K H' l (((bs.take i).foldl (E3 p) (row.map fun x=>x%p)).map V.int)/\af=[some (.int p),some (.ref d),some (.ref r),some (.ref l),o1,o2]):=⟨_,fun _ _ _=>qP_⟩;have ak:∀i:Nat,((bs.take i).foldl (E3 p) (row.map fun x=>x%p)).length=row.length/\∀y∈(bs.take i).foldl (E3 p) (row.map fun x=>x%p),0<=y/\y<p:=fun i=>⟨by
    have key:∀(bs:List (Nat×α2)) (l:α2),(∀x∈bs,x.2.length=l.length)->(bs.foldl (E3 p) l).length=l.length:=fun bs=>by
     induction bs with
     |nil=>exact fun l _=>rfl
     |cons x bs ih=>
      intro l h;have e:(E3 p l x).length=l.length:=(MQ rfl (h x (jA_ ..)) 0).1;rw[xT_,ih _ (fun y hy=>by rw[e];exact h y (jq_ _ hy)),e]
    rw[key _ _ fun x hx=>by rw[jb_];exact (iR x (List.mem_of_mem_take hx)).1,jb_],Ga hp row (bs.take i)⟩
   refine YV Pv ((aq _ _ _).mpr ⟨Same.refl _,q,none,none,by rw[xK_];exact hF.seqT (SqT.of Ab),rfl⟩) (fun i af H' _ h'=>((aq _ _ _).mp h').1 _ _ iS) (fun i key v tt af H' cA h' htt=>?_) (fun af H' h'=>?_)
   ·obtain⟨s1,lf,o1,o2,iT,rfl⟩:=(aq _ _ _).mp h';have iU:i<bs.length:=by rw[<-b2];exact (jg_.mp cA).1
    have nO:bs[i]?=some bs[i]:=by simp[iU]
    obtain⟨bt,hbt,aW⟩:=b3 i _ nO;rw[cA]at hbt;cases hbt;have cW:bs[i]∈bs:=jQ_ iU;have dX:=iR _ cW;obtain⟨ll,lin⟩:=ak i;have cn:(bs.take (i+1)).foldl (E3 p) (row.map fun x=>x%p)=E3 p ((bs.take i).foldl (E3 p) (row.map fun x=>x%p)) bs[i]:=by
     rw[qE_ iU,qU_];rfl
    have hbase':SqT K H' bt (bs[i].2.map V.int):=s1.seqT (hF.seqT aW);generalize (bs.take i).foldl (E3 p) (row.map fun x=>x%p)=left at ll lin iT cn;generalize bs[i]=x at dX hbase' cn cA;obtain⟨pl,xb⟩:=x;have g:=getD_in hp lin pl;have s2:=Same.new htt (o:=.tup [kV (pk (pl:Int)),.ref bt]);have cQ:pl<left.length:=by rw[ll];exact dX.2
    nofun;refine⟨_,SqT.of Ab,rfl,_,_,rfl,_,_,rfl,rfl,?_⟩;refine⟨_,(pl:Int),rfl,s2.seqT iT,_,MN cQ,rfl,?_⟩;have hxl:xb.length=row.length:=dX.1;by_cases h0:left.getD pl 0=0
    ·rw[if_neg (by rw[h0];simp)];refine (aq _ _ _).mpr ⟨s1.trans s2,lf,_,_,?_,rfl⟩;rw[cn];unfold E3;rw[if_pos h0];exact s2.seqT iT
    ·rw[if_pos (by simp only[V.int.injEq,Bool.not_eq_eq_eq_not,su,zA_];exact h0)];refine⟨_,(pl:Int),rfl,s2.seqT iT,_,MN cQ,_,rfl,p,-left.getD pl 0,true,bt,xb,rfl,hp,⟨by lia,by lia⟩,s2.seqT hbase',by lia,fun q1 H4 s4 hJ=>⟨p,true,true,lf,q1,left,_,rfl,hp,(s2.trans s4).seqT iT,SqT.of hJ,by rw[jb_];lia,by lia,fun q5 H5 s5 js=>(aq _ _ _).mpr ⟨s1.trans (s2.trans (s4.trans s5)),q5,_,_,?_,rfl⟩⟩⟩;rw[cn];unfold E3;rw[if_neg h0];exact SqT.of js
   ·obtain⟨s1,lf,o1,o2,iT,rfl⟩:=(aq _ _ _).mp h';rw[b2,jF_]at iT;nofun;exact k lf _ (hF0.trans (FzAt.of s1)) iT
def Bs.nodup (h:Bs p n bs):(bs.map (·.1)).Nodup:=by
 refine zL_.mpr ((zR_.mp h.off).imp fun {x y} g e=>?_);obtain⟨hx,hy,g1,_⟩:=g;rw[<-e,h.own x hx]at g1;exact absurd g1 (by decide)
noncomputable def YZ (K:α3):Sp:=fun vs H Q _=>∃(p:Int) (d l:Addr) (q:Nat) (bs:List (Nat×α2)) (left:α2),vs=[.int p,.ref d,.ref l,.int q]/\Pr p/\BasD K H d bs/\SqT K H l (left.map V.int)/\q<left.length/\left.length<=900/\0<left.getD q 0/\left.getD q 0<p/\bs.length<=900/\(∀x∈bs,x.2.length=left.length/\x.1<left.length)/\(bs.map (·.1)).Nodup/\q∉bs.map (·.1)/\∀m inv H',FzAt d H H'->0<=inv->inv<p->inv*left.getD q 0%p=1->BasD K H' m (NL p inv bs left q)->H m=none->Q (.ref m) H'
noncomputable def PutD (K:α3)(H:Hp)(d:Addr)(bs:List (Nat×α2)):Prop:=Ents K H d (bs.map fun x=>((x.1:Int),x.2))
def PutD.bas {K:α3} (h:PutD K H d bs):BasD K H d bs:=by
 obtain⟨kvs,h1,h2,h3⟩:=h;refine⟨kvs,.inl h1,by rw[h2,jb_],fun i x hx=>?_⟩;exact h3 i ((x.1:Int),x.2) (by rw[ji_,hx];rfl)
def PutD.fz {K:α3} (h:PutD K H d bs)(s:FzAt e H H')(aG:d≠e):PutD K H' d bs:=by
 obtain⟨kvs,h1,h2,h3⟩:=h;refine⟨kvs,s.1 _ _ aG h1,h2,fun i x hx=>?_⟩;obtain⟨t,a,b⟩:=h3 i x hx;exact⟨t,a,s.seqT b⟩
def PutD.put {K:α3}{H:Hp}{d t:Addr}{bs:List (Nat×α2)}{q:Nat}{v:α2}(h:PutD K H d bs)(hq:q∉bs.map (·.1))(hz:bs.length<1000)(ht:SqT K H t (v.map V.int)):∃H',DPut H d (.int q) (.ref t) H'/\(∃kvs du,H d=some (.dK kvs)/\H'=upd H d (.dK du))/\PutD K H' d (bs++[(q,v)]):=by
 have:=Ents.put (g:=(q:Int)) (w:=v) h (fun hm=>hq (by
  rw[jK_]at hm;obtain⟨x,hx,e⟩:=jv_.mp hm;exact jv_.mpr ⟨x,hx,by have:((x.1:Int))=(q:Int):=e;lia⟩)) (by rw[jb_];exact hz) ht
 obtain⟨H',a,b,c⟩:=this;exact⟨H',a,b,by unfold PutD;rw[jm_];exact c⟩
def PutD.nil {K:α3} (h:H d=some (.dK [])):PutD K H d []:=⟨[],h,rfl,fun i x hx=>by simp at hx⟩
def BasD.get {K:α3} (h:BasD K H d bs)(nod:(bs.map (·.1)).Nodup) (hx:x∈bs):∃t,DGet H d (.int x.1) (some (.ref t))/\SqT K H t (x.2.map V.int):=by
 obtain⟨kvs,h1,h2,h3⟩:=h;obtain⟨i,hi,ei⟩:=xj_ hx;have ei':bs[i]?=some x:=by rw[je_ hi,ei]
 obtain⟨t,a,b⟩:=h3 i _ ei';refine⟨t,?_,b⟩;have hf:valV kvs (pk (x.1:Int):Key)=some (.ref t):=by
  unfold valV;cases hq:kvs.find? (fun kv=>decide (kv.1=(pk (x.1:Int):Key))) with
  |none=>
   rw[xb_]at hq;have:=hq _ (jo_ a);simp at this
  |some kv=>
   have hk:=qg hq;simp only[qG_]at hk;obtain⟨j,hj,ej⟩:=xj_ (x7_ hq);have iN:j<bs.length:=by lia
   obtain⟨t',a',b'⟩:=h3 j bs[j] (by simp[iN]);have e2:kvs[j]?=some kv:=by rw[je_ hj,ej]
   rw[e2]at a';have a2:kv=(pk (bs[j].1:Int),V.ref t'):=ju_ a';rw[a2]at hk;have eJ:bs[j].1=x.1:=by injection hk with hk;lia
   have ij:i=j:=by
    refine (pQ (h₀:=by simpa using hi) (h₁:=by simpa using iN) nod).mp ?_;simp[ei,eJ]
   subst ij;rw[e2]at a;have a3:kv=(pk (x.1:Int),V.ref t):=ju_ a;rw[a3];rfl
 exact .inl ⟨kvs,pk (x.1:Int),h1,rfl,hf.symm⟩
def SqT.offm {K:α3} (h:SqT K H t xs)(hm:H m=some (.dK kv))(s:∀a u,a≠m->H a=some u->H' a=some u):SqT K H' t xs:=by
 rcases h with (q|⟨o,q⟩)|q
 ·exact .inl (.inl (s _ _ (fun z=>by rw[z,hm]at q;cases q) q))
 ·exact .inl (.inr ⟨o,s _ _ (fun z=>by rw[z,hm]at q;cases q) q⟩)
 ·exact .inr q
def BasD.offm {K:α3} (h:BasD K H d bs)(hm:H m=some (.dK kv))(hd:d≠m)(s:∀a u,a≠m->H a=some u->H' a=some u):BasD K H' d bs:=by
 obtain⟨kvs,h1,h2,h3⟩:=h;refine⟨kvs,?_,h2,fun i x hx=>?_⟩
 ·rcases h1 with h1|⟨o,h1⟩
  ·exact .inl (s _ _ hd h1)
  ·exact .inr ⟨o,s _ _ hd h1⟩
 ·obtain⟨t,a,b⟩:=h3 i x hx;exact⟨t,a,SqT.offm b hm s⟩
def NR:⋯ EE.j17 3 ["p","bases","left","place"] (YZ K):=by
 delta EE.j17 D0
 ·obtain⟨p,d,l,q,bs,left,rfl,_⟩:=h;rfl
 ·obtain⟨p,d,l,q,bs,left,rfl,hp,hB,hL,hq,hz,h0,h1,hbz,iR,nod,gG,k⟩:=h;have hl:=Al;have dh:=hp.1;have jV:=hp.2.1;have em:left.getD q 0%p=left.getD q 0:=j6_ s!"" h1;refine⟨_,(Ac (Ak (i:=4) D0.nd (Af (NQ EE) hr.d An (Aa (pvD 0) (Aa (Af (Qu EE) hr.d (Jc (P:=P) (w:=w)) (Aa (pvD 0) (Aa (As (ixTD Ay) (pvD 2) (pvD 3)) Ad))) (Aa (pvD 2) Ad)))))
   (Ac (Ak (i:=5) D0.nd O9)
   (Ac (Bx jL_ rfl (T3 (pvD 1)) (Aq (i:=6) D0.nd rfl (o9 rfl))
   (Ae (FH (FG hr) (pvD 5) (pvD 6) (Af (Jn EE) hr.d An (Aa (pvD 0) (Aa (TF (pvD 3) (pvD 4)) (Aa (Ml (FG hr) (pvD 1) (pvD 6) (fun _ _=>rfl)) Ad)))) rfl)))
   (Ac (FH (FG hr) (pvD 5) (pvD 3) (pvD 4) rfl)
   (Ae (Am (pvD 5))))))),?_⟩
  nofun;refine⟨_,hL,_,MN hq,p,_,rfl,dh,jV,fun z=>by rw[em]at z;lia,fun _=>⟨by rw[em];exact hp.gcd h0 h1,fun inv i0 i1 dY=>?_⟩⟩;nofun;refine⟨p,inv,true,l,left,rfl,by lia,⟨by lia,by lia⟩,hL,hz,fun b H1 s1 hb=>?_⟩;nofun;intro m hm;obtain⟨base,aW⟩:∃base:α2,base=left.map fun y=>inv*y%p:=⟨_,rfl⟩;rw[<-aW]at hb;have lp:H m=none:=by
   cases e:H m with
   |none=>rfl
   |some u=>rw[s1 _ _ e]at hm;cases hm
  have s2:=s1.trans (Same.new hm (o:=.dK []));obtain⟨kvs,b1,b2,b3⟩:=hB.mono s2;refine⟨kvs,b1,fun o H3 iS hF=>?_⟩;have jY:d≠m:=fun z=>by
   subst z;obtain⟨kvs0,c1,_⟩:=hB;rcases c1 with c1|⟨o',c1⟩
   ·rw[lp]at c1;cases c1
   ·rw[lp]at c1;cases c1
  have hb3:H3 b=some (.tup (base.map V.int)):=by
   have:upd H1 m (.dK []) b=some (.tup (base.map V.int)):=(Same.new hm) _ _ hb;exact (hF.1 b _ (fun z=>by
    subst z;rcases b1 with c1|⟨o',c1⟩
    ·rw[this]at c1;cases c1
    ·rw[this]at c1;cases c1) this)
  have mz:H3 m=some (.dK []):=hF.1 m _ (qp_ jY) Ab;have hB3:BasD K H3 d bs:=BasD.fz ⟨kvs,b1,b2,b3⟩ hF;have hqn':q<left.length:=hq;obtain⟨Pv,aq⟩:∃Pv:Nat->St->Hp->Prop,∀i af H',Pv i af H'↔((∀a u,a≠m->H3 a=some u->H' a=some u)/\PutD K H' m ((bs.take i).map fun x=>(x.1,Aw p [(q,base)] x.2))/\∃o1,af=[some (.int p),some (.ref d),some (.ref l),some (.int q),some (.ref b),some (.ref m),o1]):=⟨_,fun _ _ _=>qP_⟩;have hbaseLen:base.length=left.length:=by rw[aW,jb_]
  refine YU Pv ((aq _ _ _).mpr ⟨fun a u _ h=>h,PutD.nil mz,none,rfl⟩) (fun i af H' _ h'=>((aq _ _ _).mp h').1 d _ jY iS) (fun i key v af H' cA h'=>?_) (fun af H' h'=>?_)
  ·obtain⟨s3,hP,o1,rfl⟩:=(aq _ _ _).mp h';have iU:i<bs.length:=by rw[<-b2];exact (jg_.mp cA).1
   have nO:bs[i]?=some bs[i]:=by simp[iU]
   obtain⟨t,ht,_⟩:=b3 i _ nO;rw[cA]at ht;cases ht;have cW:bs[i]∈bs:=jQ_ iU;have cn:bs.take (i+1)=bs.take i++[bs[i]]:=qE_ iU;have fi:bs[i].1∉(bs.take i).map (·.1):=fun hm=>by
    rw[z3_]at hm;obtain⟨j,hj1,lq⟩:=List.mem_take_iff_getElem.mp hm;have:(bs.map (·.1))[j]'s!""=(bs.map (·.1))[i]'(by rw[jb_];exact iU):=by rw[lq];simp
    have:=(pQ nod).mp this;lia
   have dX:=iR _ cW;generalize bs[i]=x at cW cn fi dX cA;obtain⟨pl,xb⟩:=x;nofun;intro e he;have sE:=Same.new he (o:=.dK (Jz [] [((pk (q:Int):Key),V.ref b)]));have hB':=(hB3.offm mz jY s3).mono sE;have dq:=sE.seqT (SqT.offm (SqT.of (K:=K) hb3) mz s3);refine⟨Ab,[((pk (q:Int):Key),V.ref b)],rfl,Nat.le_of_ble_eq_true rfl,?_⟩;rw[VT];obtain⟨t',fJ,hrow⟩:=hB'.get nod cW;have aG:m≠e:=fun z=>by
    subst z;obtain⟨kk,h1,_⟩:=hP;rw[he]at h1;cases h1
   have hxl:xb.length=left.length:=dX.1;refine⟨_,fJ,p,e,t',true,[(q,base)],xb,rfl,by lia,by lia,⟨_,.inl Ab,rfl,fun j x hx=>?_⟩,hrow,by lia,fun x hx=>?_,fun q1 H4 hF4 hJ=>?_⟩
   ·have hj:j=0:=by
     have:=(jg_.mp hx).1;simp at this;lia
    subst hj;cases hx;exact⟨b,rfl,dq⟩
   ·rw[jk_.mp hx];exact⟨hbaseLen.trans hxl.symm,by lia⟩
   ·have hP4:PutD K H4 m ((bs.take i).map fun x=>(x.1,Aw p [(q,base)] x.2)):=(hP.fz (FzAt.of sE) aG).fz hF4 aG;obtain⟨H5,g1,⟨kv1,kv2,g2,rfl⟩,g3⟩:=hP4.put (q:=pl) (v:=Aw p [(q,base)] xb) (t:=q1) (by rw[jK_];exact fi) (by rw[jb_,jI_];lia) hJ;refine⟨_,g1,(aq _ _ _).mpr ⟨fun a u ha h=>?_,by rw[cn,jm_];exact g3,_,rfl⟩⟩;rw[Aj ha];exact hF4.1 a u (fun z=>by have:=s3 a u ha h;rw[z,he]at this;cases this) (sE _ _ (s3 a u ha h))
  ·obtain⟨s3,hP,o1,rfl⟩:=(aq _ _ _).mp h';rw[b2,jF_]at hP;nofun;obtain⟨H5,g1,⟨kv1,kv2,g2,rfl⟩,g3⟩:=hP.put (q:=q) (v:=base) (t:=b) (by rw[jK_];exact gG) (by rw[jb_];lia) (SqT.offm (SqT.of (K:=K) hb3) mz s3);refine⟨_,g1,k m inv _ ⟨fun a u ha h=>?_,fun u h=>?_⟩ i0 i1 dY (by
    have ew:NL p inv bs left q=(bs.map fun x=>(x.1,Aw p [(q,base)] x.2))++[(q,base)]:=by rw[aW];rfl
    rw[ew];exact g3.bas) lp⟩
   ·have ham:a≠m:=fun z=>by rw[z,lp]at h;cases h
    rw[Aj ham];exact s3 a u ham (hF.1 a u ha (s2 _ _ h))
   ·rw[Aj jY];rcases hF.2 u (s2 _ _ h) with h' | ⟨kvs,o,e,h'⟩
    ·exact .inl (s3 _ _ jY h')
    ·exact .inr ⟨kvs,o,e,s3 _ _ jY h'⟩
noncomputable def natV (ks:List Nat):List V:=ks.map fun (k:Nat)=>V.int (k:Int)
noncomputable def YC (K:α3):Sp:=fun vs H Q _=>∃(p:Int) (t:Bool) (a:Addr) (m n:Nat) (xs:List V) (ae:α1),vs=[.int p,.ref a,.int m]/\Pr p/\SqB K H t a xs/\FA K H xs ae/\(∀r∈ae,r.length=n)/\m<=n/\n<=900/\ae.length<=900/\∀q l d bs H',Same H H'->SqT K H' q [.ref l,.ref d]->H' l=some (.lst (natV (DM p m ae)))->BasD K H' d bs->Seen p n m ae bs->H d=none->H l=none->Q (.ref q) H'
def BasD.offl {K:α3} (h:BasD K H d bs)(hp:H p=some (.lst zs)):BasD K (upd H p (.lst ys)) d bs:=by
 obtain⟨kvs,h1,h2,h3⟩:=h;refine⟨kvs,?_,h2,fun i x hx=>?_⟩
 ·rcases h1 with h1|⟨o,h1⟩
  ·exact .inl (by rw[Aj (fun z=>by rw[z,hp]at h1;cases h1)];exact h1)
  ·exact .inr ⟨o,by rw[Aj (fun z=>by rw[z,hp]at h1;cases h1)];exact h1⟩
 ·obtain⟨t,a,b⟩:=h3 i x hx;exact⟨t,a,Ku hp b⟩
def Same.gone (s:Same H H')(h:H' a=none):H a=none:=by
 cases e:H a with
 |none=>rfl
 |some u=>rw[s _ _ e]at h;cases h
def Sr (p inv:Int)(bs:List (Nat×α2))(left:α2)(q:Nat):(NL p inv bs left q).length=bs.length+1:=by unfold NL;simp
def HE:⋯ EE.j18 4 ["p","rows","size"] (YC K):=by
 delta EE.j18 AE
 ·obtain⟨p,t,a,m,n,xs,ae,rfl,_⟩:=h;rfl
 ·obtain⟨p,t,a,m,n,xs,ae,rfl,hp,ha,hR,dZ,iQ,hn,hz,k⟩:=h;have hl:=Al;have dh:=hp.1;have jV:=hp.2.1;refine⟨_,(Ac (Ak (i:=3) AE.nd (Fe Ad))
   (Ac (Ak (i:=4) AE.nd O9)
   (Ac (Bx jL_ rfl (Yh (Po rfl EE.enumerate (pvD 1)) (Mr rfl EE.enumerate (pvD 1))) (LP rfl (Bg (Aq (i:=5) AE.nd rfl (o9 rfl)) (Bg (Aq (i:=6) AE.nd rfl (o9 rfl)) FD)))
   (Ac (Ak (i:=7) AE.nd (Af (Jn EE) hr.d An (Aa (pvD 0) (Aa (pvD 4) (Aa (pvD 6) Ad)))))
   (Ac (Ak (i:=8) AE.nd (Af (EA EE) hr.d An (Aa (BV OC (pvD 7) C3 (C4 (pvD 2))) Ad)))
   (Ae (AZ (ptT (Ap QU (pvD 8) Bw (Av _)))
   (Ac (AB (Nl qv_ qC_ qD_ Dz (pvD 3) (Aa (pvD 5) Ad)))
   (Ae (Ak (i:=4) AE.nd (Af (NR EE) hr.d An (Aa (pvD 0) (Aa (pvD 4) (Aa (pvD 7) (Aa (pvD 8) Ad))))))))
   Au)))))
   (Ae (Am (Cg (Aa (pvD 3) (Aa (pvD 4) Ad)))))))),?_⟩
  nofun;refine⟨qc_ _,fun l gH d0 jt=>?_⟩;have s0:=(Same.new gH (o:=.lst [])).newT jt (o:=.dK []);have ju:H d0=none:=by
   cases e:H d0 with
   |none=>rfl
   |some u=>rw[(Same.new gH (o:=.lst [])) _ _ e]at jt;cases jt
  have aG:l≠d0:=fun z=>by subst z;rw[Ab]at jt;cases jt
  obtain⟨Pv,aq⟩:∃Pv:Nat->St->Hp->Prop,∀i af H',Pv i af H'↔(Same H H'/\H' l=some (.lst (natV (DM p m (ae.take i))))/\∃(d:Addr) (bs:List (Nat×α2)) (o1 o2 o3 o4:Option V),H d=none/\BasD K H' d bs/\Seen p n m (ae.take i) bs/\bs.length<=i/\af=[some (.int p),some (.ref a),some (.int m),some (.ref l),some (.ref d),o1,o2,o3,o4]):=⟨_,fun _ _ _=>qP_⟩;refine forE (ha.mono s0) Pv ((aq _ _ _).mpr ⟨s0,by rw[Aj aG,Ab];rfl,d0,[],none,none,none,none,ju,PutD.bas (PutD.nil Ab),⟨⟨by simp,by simp,.nil⟩,by simp,by simp,by simp⟩,jh_ _,rfl⟩) (fun i af H' _ h'=>ha.mono ((aq _ _ _).mp h').1) (fun i v af H' q hv h' hq=>?_) (fun af H' h'=>?_)
  ·obtain⟨s1,bI,d,bs,o1,o2,o3,o4,hd,hB,hS,hbz,rfl⟩:=(aq _ _ _).mp h';have hi:i<ae.length:=by rw[<-hR.1];exact (jg_.mp hv).1
   have nP:ae[i]?=some ae[i]:=by simp[hi]
   obtain⟨tr,ht,hrow⟩:=hR.2 i _ nP;rw[hv]at ht;cases ht;have bw:=dZ _ (jQ_ hi);have cn:ae.take (i+1)=ae.take i++[ae[i]]:=(qE_ hi);generalize ae[i]=row at hrow bw cn;nofun;have s2:=Same.new hq (o:=.tup [.int i,.ref tr]);refine⟨_,SqT.of Ab,rfl,_,_,rfl,_,_,rfl,rfl,p,d,tr,true,bs,row,rfl,by lia,by lia,hB.mono s2,s2.seqT (s1.seqT hrow),by lia,fun x hx=>by rw[bw];exact⟨(hS.b.len x hx).1,(hS.b.len x hx).2.1⟩,fun q1 H3 lr hJ=>⟨q1,rfl,_,hJ,fun p1 H4 s4 fX=>?_⟩⟩;rw[LZ,<-z3_]at fX;have cC:=hS.iff s!"" iQ bw;have lu:=(CM row bw bs hS.b).1;have hZ:=Ga (p:=p) s!"" row bs;have bu:=PL (p:=p) s!"" bw hS.b;have hmore:=fun (inv:Int) (qq:Nat) (h1:qq<m) (h2:inv*(Aw p bs row).getD qq 0%p=1)=>hS.more (inv:=inv) dh iQ bw h1 h2;have eN:=hS.same bw;generalize Aw p bs row=left at hJ fX cC lu hZ bu hmore eN;have gS:∀qq:Nat,qq<m->(left.take m).getD qq 0=left.getD qq 0:=fun qq nQ=>by
    rw[jc_,qM,if_pos nQ,<-jc_]
   have aH:(left.take m).length=m:=by rw[jI_];lia
   have hl3:=lr.lst (s2 _ _ bI);have jZ:(ae.take i).length=i:=by rw[jI_];lia
   have bC:(DM p m (ae.take i)).length<=i:=by
    unfold DM;refine qg_ (qk _ _) ?_;rw[jX_,jZ];exact jh_ _
   refine⟨p1,left.take m,rfl,fX,by lia,fun qn H5 s5 gG bV=>?_,fun H5 s5 aE=>?_⟩
   ·rw[aH]at gG;rw[gS qn gG]at bV;rw[if_pos (by simp)];have ka:=s5 _ _ (s4 _ _ hl3);have g:=getD_in (show 0<p by lia) hZ qn;have cz:¬ Span p m (ae.take i) fun j=>row.getD j 0:=fun z=>bV (cC.mpr z qn gG);have hB5:=((hB.mono s2).fz lr).mono (s4.trans s5);have hS5:Same H H5:=(lr.same (s1.trans s2) hd).trans (s4.trans s5);have aG:d≠l:=fun z=>by
     obtain⟨kk,c1,_⟩:=hB;rcases c1 with c1|⟨o,c1⟩
     ·rw[z,bI]at c1;cases c1
     ·rw[z,bI]at c1;cases c1
    refine⟨.inl ⟨rfl,_,SqL.of ka⟩,_,ka,by unfold natV;rw[jb_];lia,p,d,q1,qn,bs,left,rfl,hp,hB5.offl ka,Ku ka ((s4.trans s5).seqT hJ),by lia,by lia,by lia,g.2,by lia,fun x hx=>by rw[lu];exact⟨(hS.b.len x hx).1,(hS.b.len x hx).2.1⟩,hS.b.nodup,fun hm=>?_,fun m' inv H7 hF7 i0 i1 dY hB7 hm7=>?_⟩
    ·obtain⟨x,hx,e⟩:=jv_.mp hm;exact bV (by rw[<-e];exact bu x hx)
    ·have lx:Same H (upd H5 l (.lst (natV (DM p m (ae.take i))++[V.int i]))):=hS5.over gH;refine (aq _ _ _).mpr ⟨hF7.same lx hd,?_,m',_,_,_,_,_,Mine.Same.gone lx hm7,hB7,by rw[cn];exact hmore inv qn gG dY,by rw[Sr];lia,rfl⟩;rw[hF7.lst Ab,cn,E4,if_neg cz,jZ];unfold natV;rw[jm_];rfl
   ·show if (!decide (V.non=V.non))=true then _ else _
    rw[if_neg (by simp)];have mB:∀j:Nat,j<m->left.getD j 0=0:=fun j hj=>by rw[<-gS j hj];exact aE j s!""
    have cz:=cC.mp mB;refine (aq _ _ _).mpr ⟨(lr.same (s1.trans s2) hd).trans (s4.trans s5),?_,d,bs,_,_,_,_,hd,((hB.mono s2).fz lr).mono (s4.trans s5),by rw[cn];exact eN mB,by lia,rfl⟩;rw[s5 _ _ (s4 _ _ hl3),cn,E4,if_pos cz,xQ_]
  ·obtain⟨s1,bI,d,bs,o1,o2,o3,o4,hd,hB,hS,hbz,rfl⟩:=(aq _ _ _).mp h';rw[hR.1,jF_]at bI hS;nofun;refine⟨by lia,fun q hq=>?_⟩;have s2:=Same.new hq (o:=.tup [.ref l,.ref d]);exact k q l d bs _ (s1.trans s2) (SqT.of Ab) (s2 _ _ bI) (hB.mono s2) hS hd gH
noncomputable def WU (K:α3):Sp:=fun vs H Q _=>∃(n:Nat) (k:Nat),vs=[.int n,.int k]/\n<=900/\∀q H',Same H H'->H' q=some (.tup ((Bu n k).map V.int))->Q (.ref q) H'
def Ss:⋯ EE.j11 1 ["size","place"] (WU K):=by
 delta EE.j11 WL
 ·obtain⟨n,k,rfl,_⟩:=h;rfl
 ·obtain⟨n,c,rfl,hn,k⟩:=h;have hl:=Al;refine⟨_,(Ae (Am (AF AM rfl EE.tuple jO_ (Aa (BP rfl (BO rfl) (cp:=PH) ⟨⟨rfl,rfl⟩,oZ⟩ (Cf rfl EE.range (Aa (pvD 0) Ad)) (fun _ _ _ _=>(Aq (i:=0) ON rfl (o9 rfl))) (fun _ _ _ _=>By) (fun _ _ _ _=>(O2 (ptT (Ap (opE GG) (pvD 0) (pvD 1) (Av _))) Ai Ai))) Ad)))),?_⟩;nofun;refine⟨by lia,by lia,?_⟩;rw[jw_];refine Rq (fun j zs bb H4=>H4=H/\zs=(((oX j).map fun i=>if i=c then (1:Int) else 0)).map V.int/\∃o,bb=[o,some (.int c)]) ⟨rfl,rfl,none,rfl⟩ s!"" (fun j zs bb H4 _ h4=>?_) (fun j zs bb H4 hj h4=>?_) (fun zs bb H4 h4 D hD=>?_)
  ·rw[h4.2.1,jb_,jb_,jX_];exact jh_ _
  ·obtain⟨rfl,rfl,o,rfl⟩:=h4;rw[xX_];nofun;rw[qM_,jm_,jm_];by_cases nR:j=c
   ·rw[if_pos (by rw[nR])];exact⟨by rw[qh_,if_pos nR];rfl,_,rfl⟩
   ·rw[if_neg s!""];exact⟨by rw[qh_,if_neg nR];rfl,_,rfl⟩
  ·obtain⟨rfl,rfl,o,rfl⟩:=h4;exact⟨D,rfl,_,.inl ⟨SqL.of Ab,fun q hq=>k q _ ((Same.new hD).newT hq) Ab⟩⟩
def Qy (d:Nat)(v:V):(oW d [v]).flatten=oW d v:=by
 induction d with
 |zero=>rfl
 |succ d ih=>rw[qN_,xZ_,ih,qN_];rfl
noncomputable def ToldF (H:Hp)(p:Int)(m:Nat)(ae:α1)(bs:List (Nat×α2))(zs:List V)(aF:α1):Prop:=zs.length=aF.length/\∀(i:Nat) (r:α2),aF[i]?=some r->(Span p m ae (fun j=>r.getD j 0)/\∃c,zs[i]?=some (.ref c)/\H c=some (.lst ((((Aw p bs (r++oW ae.length 0)).drop m).map fun y => -y%p).map V.int)))\/(¬ Span p m ae (fun j=>r.getD j 0)/\zs[i]?=some .non)
noncomputable def Y0 (K:α3):Sp:=fun vs H Q _=>∃(p:Int) (t:Bool) (a b:Addr) (m:Nat) (xs ys:List V) (ae aF:α1),vs=[.int p,.ref a,.ref b,.int m]/\Pr p/\SqB K H t a xs/\FA K H xs ae/\(∀r∈ae,r.length=m)/\SqL K H b ys/\FA K H ys aF/\(∀r∈aF,r.length=m)/\m<=400/\ae.length<=400/\aF.length<=900/\∀l zs bs H',Same H H'->H l=none->H' l=some (.lst zs)->Seen p (m+ae.length) m (Ba ae) bs->ToldF H' p m ae bs zs aF->Q (.ref l) H'
def ToldF.keep (h:ToldF H p m ae bs zs aF)(k:∀c ys,(∃j:Nat,zs[j]?=some (V.ref c))->H c=some (.lst ys)->H' c=some (.lst ys)):ToldF H' p m ae bs zs aF:=by
 refine⟨h.1,fun i r hi=>?_⟩;rcases h.2 i r hi with ⟨a,c,e1,e2⟩|h'
 ·exact .inl ⟨a,c,e1,k c _ ⟨i,e1⟩ e2⟩
 ·exact .inr h'
def ToldF.snoc (h:ToldF H p m ae bs zs aF)(g:(Span p m ae (fun j=>r.getD j 0)/\∃c,z=.ref c/\H c=some (.lst ((((Aw p bs (r++oW ae.length 0)).drop m).map fun y => -y%p).map V.int)))\/(¬ Span p m ae (fun j=>r.getD j 0)/\z=.non)):ToldF H p m ae bs (zs++[z]) (aF++[r]):=by
 refine⟨by simp[h.1],fun i v hi=>?_⟩;by_cases hl:i<aF.length
 ·rw[jx_ hl]at hi;rw[jx_ (by rw[h.1];exact hl)];exact h.2 i v hi
 ·have:=(jg_.mp hi).1;rw[js_,jW_]at this;have e:i=aF.length:=by lia
  subst e;rw[jB_ (jh_ _),q0_]at hi;simp at hi;subst hi;have ez:(zs++[z])[aF.length]?=some z:=by rw[<-h.1];simp
  rw[ez];rcases g with ⟨a,c,e1,e2⟩|⟨a,e1⟩
  ·exact .inl ⟨a,c,by rw[e1],e2⟩
  ·exact .inr ⟨a,by rw[e1]⟩
def PN {zs:List V}{z v:V}{j:Nat}(h:(zs++[z])[j]?=some v):zs[j]?=some v\/z=v:=by
 by_cases hl:j<zs.length
 ·rw[jx_ hl]at h;exact .inl h
 ·rw[jB_ s!""]at h;have:=(jg_.mp h).1;simp at this;have e:j-zs.length=0:=by lia
  rw[e]at h;exact .inr (by simpa using h)
def Iq:⋯ EE.j19 5 ["p","rows","some","size"] (Y0 K):=by
 delta EE.j19 AH
 ·obtain⟨p,t,a,b,m,xs,ys,ae,aF,rfl,_⟩:=h;rfl
 ·obtain⟨p,t,a,b,m,xs,ys,ae,aF,rfl,hp,ha,hR,dZ,hb,hY,hsn,hm,hz,hsz,k⟩:=h;have hl:=Al;have dh:=hp.1;have jV:=hp.2.1;refine⟨_,(Ac (Jw (i:=4) AH.nd rfl (pJ rfl) (AK (lenD AG) (by rfl) EE.len qy_ (Aa (pvD 1) Ad)))
   (Ac (Ja (i:=5) AH.nd rfl rfl rfl (BO rfl) (cp:=DK) ⟨⟨rfl,rfl⟩,oZ⟩ (Yh (Po rfl EE.enumerate (pvD 1)) (Mr rfl EE.enumerate (pvD 1))) (fun _ _ _ _=>(OB (K:=K) (n:=2) rfl rfl (Bg (Aq (i:=0) Cw rfl (o9 rfl)) (Bg (Aq (i:=1) Cw rfl (o9 rfl)) FD)))) (fun _ _ _ _=>By) (fun _ _ _ _=>(Ar (FP (K:=K) rfl) (AF (Mx (K:=K) rfl) rfl EE.tuple jO_ (Aa (pvD 1) Ad)) (Af (Ss EE) hr.d An (Aa (pvD 2) (Aa (pvD 0) Ad))))))
   (Ac (Ak (i:=6) AH.nd (As (ixTD Ay) (Af (HE EE) hr.d An (Aa (pvD 0) (Aa (pvD 5) (Aa (pvD 3) Ad)))) Ai))
   (Ac (Ak (i:=7) AH.nd (Fe Ad))
   (Ac (Bx jL_ rfl (Br (pvD 2)) (Aq (i:=8) AH.nd rfl (o9 rfl))
   (Ac (Ak (i:=9) AH.nd (Af (Jn EE) hr.d An (Aa (pvD 0) (Aa (pvD 6) (Aa (Ar Dn (AF JD rfl EE.tuple jO_ (Aa (pvD 8) Ad)) (Ar Wl (Cg (Aa Ai Ad)) (pvD 4))) Ad)))))
   (Ac (Ak (i:=10) AH.nd (Oe Ng (Af (EA EE) hr.d An (Aa (BV OC (pvD 9) C3 (C4 (pvD 3))) Ad)) Bw (Av _)))
   (Ae (AB (Nl qv_ qC_ qD_ Dz (pvD 7) (Aa (O2 (ptB (FC (pvD 10))) (BP rfl (BO rfl) (cp:=DL) ⟨⟨rfl,rfl⟩,oZ⟩ (Nb (BV OC (pvD 9) (C4 (pvD 3)) C3)) (fun _ _ _ _=>(Aq (i:=0) Fz rfl (o9 rfl))) (fun _ _ _ _=>By) (fun _ _ _ _=>(Ar (opD A0) (Lz GP (pvD 0)) (pvD 1)))) Bw) Ad)))))))
   (Ae (Am (pvD 7)))))))),?_⟩
  nofun;refine⟨xs,(by cases t;exact .inl ha;exact .inr ha),?_⟩;rw[hR.1];have hlm:(Ba ae).length=ae.length:=by unfold Ba;simp
  obtain⟨Pc,cm⟩:∃Pc:Nat->List V->St->Hp->Prop,∀j zs bb H4,Pc j zs bb H4↔(Same H H4/\FA K H4 zs ((Ba ae).take j)/\∃o1 o2,bb=[o1,o2,some (.int ae.length)]):=⟨_,fun _ _ _ _=>qP_⟩;refine YW ha Pc ((cm _ _ _ _).mpr ⟨Same.refl _,by rw[xK_];exact FA.nil,none,none,rfl⟩) (by rw[hR.1];lia) (fun j zs bb H4 hj h4=>?_) (fun j v zs bb H4 q hv h4 hq=>?_) (fun zs bb H4 h4 D hD=>?_)
  ·obtain⟨s4,fY,_⟩:=(cm _ _ _ _).mp h4;exact⟨ha.mono s4,by rw[fY.1,jI_];lia⟩
  ·obtain⟨s4,fY,o1,o2,rfl⟩:=(cm _ _ _ _).mp h4;have hi:j<ae.length:=by rw[<-hR.1];exact (jg_.mp hv).1
   obtain⟨tr,ht,hrow⟩:=hR.2 j ae[j] (by simp[hi]);rw[hv]at ht;cases ht;have s5:=Same.new hq (o:=.tup [.int j,.ref tr]);have cn:(Ba ae).take (j+1)=(Ba ae).take j++[ae[j]++Bu ae.length j]:=by
    rw[qE_ (hlm ▸ hi)]
    congr 2
    unfold Ba;rw[zb_,qL,jc_,je_ hi];rfl
   have bw:=dZ _ (jQ_ hi);generalize ae[j]=row at hrow cn bw;nofun;refine⟨_,SqT.of Ab,rfl,_,_,rfl,_,_,rfl,rfl,tr,rfl,_,.inr ⟨s5.seqT (s4.seqT hrow),ae.length,j,rfl,by lia,fun q6 H6 s6 ic=>?_⟩⟩;refine Cd.of (s6.seqT (s5.seqT (s4.seqT hrow))) (SqT.of ic) (by unfold Bu;simp;lia) fun q7 H7 s7 nS=>?_;refine (cm _ _ _ _).mpr ⟨s4.trans (s5.trans (s6.trans s7)),?_,_,_,rfl⟩;rw[cn];exact (fY.mono (s5.trans (s6.trans s7))).snoc (by rw[jm_];exact nS)
  ·obtain⟨s4,fY,o1,o2,rfl⟩:=(cm _ _ _ _).mp h4;rw[hR.1,<-hlm,jF_]at fY;nofun;have sD:=Same.new hD (o:=.lst zs);refine⟨p,false,D,m,m+ae.length,zs,Ba ae,rfl,hp,SqL.of Ab,fY.mono sD,Qs dZ,by lia,by lia,by lia,fun q6 l6 d bs H6 s6 ic _ hB S jt _=>⟨q6,rfl,_,ic,.ref d,rfl,qc_ _,fun l gH=>?_⟩⟩;have nT:Same H H6:=(s4.trans sD).trans s6;have s7:=Same.new gH (o:=.lst []);have ju:H d=none:=Mine.Same.gone (s4.trans sD) jt;have jv:H l=none:=Mine.Same.gone nT gH;refine⟨⟨_,(nT.trans s7).seq hb⟩,?_⟩;obtain⟨Pv,aq⟩:∃Pv:Nat->St->Hp->Prop,∀i af H',Pv i af H'↔(Same H H'/\BasD K H' d bs/\∃(us:List V) (o1 o2 o3:Option V),H' l=some (.lst us)/\ToldF H' p m ae bs us (aF.take i)/\(∀(j:Nat) (c:Addr),us[j]?=some (.ref c)->c≠l)/\af=[some (.int p),some (.ref a),some (.ref b),some (.int m),some (.int ae.length),some (.ref D),some (.ref d),some (.ref l),o1,o2,o3]):=⟨_,fun _ _ _=>qP_⟩;refine forL Pv ((aq _ _ _).mpr ⟨nT.trans s7,hB.mono s7,[],none,none,none,Ab,⟨rfl,fun i r hi=>by simp at hi⟩,by simp,rfl⟩) (fun i af H' _ h'=>((aq _ _ _).mp h').1.seq hb) (fun i v af H' hv h'=>?_) (fun af H' h'=>?_)
   ·obtain⟨s8,mD,us,o1,o2,o3,hu,hT,aG,rfl⟩:=(aq _ _ _).mp h';have hi:i<aF.length:=by rw[<-hY.1];exact (jg_.mp hv).1
    obtain⟨tr,ht,hrow⟩:=hY.2 i aF[i] (by simp[hi]);rw[hv]at ht;cases ht;have bw:=hsn _ (jQ_ hi);have cn:aF.take (i+1)=aF.take i++[aF[i]]:=qE_ hi;generalize aF[i]=row at hrow bw cn;nofun;have etl:(aF.take i).length=i:=by rw[jI_];lia
    refine⟨_,.inr ⟨s8.seqT hrow,by lia,fun p1 fX=>?_⟩⟩;have sA:=Same.new fX (o:=.tup [V.int 0]);refine TC.of (SqT.of Ab) (by simp) s!"" s!"" (by simp;lia) fun pt H2 s2 ht=>?_;rw[jw_,Qy]at ht;refine Cd.of ((s8.trans (sA.trans s2)).seqT hrow) ht (by simp;lia) fun q5 H5 s5 js=>?_;have sB:=sA.trans (s2.trans s5);have erow:(row++oW ae.length 0).map V.int=row.map V.int++oW ae.length (V.int 0):=by rw[jm_,List.map_replicate]
    rw[<-erow]at js;have hr0:(row++oW ae.length (0:Int)).length=m+ae.length:=by simp[bw]
    have lu:=(CM (row++oW ae.length 0) hr0 bs S.b).1;have cC:=Sm (show 0<p by lia) dZ S bw;refine⟨p,d,q5,true,bs,row++oW ae.length 0,rfl,by lia,by lia,mD.mono sB,js,by lia,fun x hx=>by rw[hr0];exact⟨(S.b.len x hx).1,(S.b.len x hx).2.1⟩,fun q6 H6 kb ic=>⟨q6,rfl,_,ic,fun p7 H7 s7 kc=>?_⟩⟩;rw[LZ,<-z3_]at kc;have aH:((Aw p bs (row++oW ae.length 0)).take m).length=m:=by rw[jI_];lia
    have gS:∀qq:Nat,qq<m->((Aw p bs (row++oW ae.length 0)).take m).getD qq 0=(Aw p bs (row++oW ae.length 0)).getD qq 0:=fun qq nQ=>by
     rw[jc_,qM,if_pos nQ,<-jc_]
    generalize eM:Aw p bs (row++oW ae.length 0)=left at ic kc lu cC aH gS;have hu6:=kb.lst (sB _ _ hu);have lx:Same H H6:=kb.same (s8.trans sB) ju;refine⟨p7,left.take m,rfl,kc,by lia,fun qn H9 s9 gG bV=>?_,fun H9 s9 aE=>?_⟩
    ·rw[aH]at gG;rw[gS qn gG]at bV;have hu9:=s9 _ _ (s7 _ _ hu6);refine⟨.inl ⟨rfl,_,SqL.of hu9⟩,?_⟩;show if V.int qn=V.non then _ else _
     rw[if_neg (by simp)];have hnsp:¬ Span p m ae fun j=>row.getD j 0:=fun z=>bV (cC.mpr z qn gG);refine⟨_,hu9,by rw[hT.1];lia,(aq _ _ _).mpr ⟨((lx.trans (s7.trans s9))).over jv,(((mD.mono sB).fz kb).mono (s7.trans s9)).offl hu9,us++[.non],_,_,_,Ab,?_,fun j c hj=>?_,rfl⟩⟩
     ·rw[cn];refine (hT.keep fun c ys hc h=>?_).snoc (.inr ⟨hnsp,rfl⟩);obtain⟨j,hj⟩:=hc;rw[Aj (aG j c hj)];exact s9 _ _ (s7 _ _ (kb.lst (sB _ _ h)))
     ·rcases PN hj with hj|hj
      ·exact aG j c hj
      ·cases hj
    ·have mB:∀j:Nat,j<m->left.getD j 0=0:=fun j hj=>by rw[<-gS j hj];exact aE j s!""
     have cz:=cC.mp mB;have hu9:=s9 _ _ (s7 _ _ hu6);refine⟨.inl ⟨rfl,_,SqL.of hu9⟩,?_⟩;show if V.non=V.non then _ else _
     rw[if_pos rfl];refine⟨q6,rfl,_,(s7.trans s9).seqT ic,fun p8 nU fZ nV=>⟨⟨_,nV⟩,?_⟩⟩;rw[Qr,<-qC]at nV;obtain⟨gg,hgg⟩:∃g:V->V,∀n:Int,g (V.int n)=.int (-n%p):=⟨fun x=>match x with | .int n=>.int (-n%p)|_=>.non,fun _=>rfl⟩;refine Mq (af:=[some (.int p)]) gg rfl nV (by rw[jb_,qw_];lia) (fun x hx R hR=>?_) (fun D2 iV=>?_)
     ·obtain⟨n,hn,rfl⟩:=jv_.mp hx;rw[hgg]at hR;nofun;exact⟨by lia,hR⟩
     ·have em:((left.drop m).map V.int).map gg=((left.drop m).map fun y => -y%p).map V.int:=by
       rw[jK_,jK_];exact jH_ fun n _=>hgg n
      rw[em];have sD2:=Same.new iV (o:=.lst (((left.drop m).map fun y => -y%p).map V.int));have hu10:=sD2 _ _ (fZ _ _ hu9);have hDl:D2≠l:=fun z=>by rw[z,fZ _ _ hu9]at iV;cases iV
      have sZ:=s7.trans (s9.trans (fZ.trans sD2));refine⟨_,hu10,by rw[hT.1];lia,(aq _ _ _).mpr ⟨(lx.trans sZ).over jv,(((mD.mono sB).fz kb).mono sZ).offl hu10,us++[.ref D2],_,_,_,Ab,?_,fun j c hj=>?_,rfl⟩⟩
      ·rw[cn];refine (hT.keep fun c ys hc h=>?_).snoc (.inl ⟨cz,D2,rfl,?_⟩)
       ·obtain⟨j,hj⟩:=hc;rw[Aj (aG j c hj)];exact sZ _ _ (kb.lst (sB _ _ h))
       ·rw[Aj hDl,Ab,eM]
      ·rcases PN hj with hj|hj
       ·exact aG j c hj
       ·cases hj;exact hDl
   ·obtain⟨s8,mD,us,o1,o2,o3,hu,hT,aG,rfl⟩:=(aq _ _ _).mp h';rw[hY.1,jF_]at hT;nofun;exact k l us bs _ s8 jv hu S hT
noncomputable def Tabs (K:α3)(H:Hp)(tt:Addr)(tables:α0):Prop:=∃us:List Addr,SqT K H tt (us.map V.ref)/\us.length=tables.length/\∀(i:Nat) (u:Addr) (tb:α1),us[i]?=some u->tables[i]?=some tb->∃xs,SqT K H u xs/\FA K H xs tb
def Tabs.mono {K:α3} (h:Tabs K H tt tables)(s:Same H H'):Tabs K H' tt tables:=by
 obtain⟨us,a,b,c⟩:=h;refine⟨us,s.seqT a,b,fun i u tb h1 h2=>?_⟩;obtain⟨xs,d,e⟩:=c i u tb h1 h2;exact⟨xs,s.seqT d,e.mono s⟩
noncomputable def SumH (K:α3)(H:Hp)(h:Addr)(p:Int)(L:Int)(first:α2)(tables:α0)(last:α2):Prop:=∃tf tt tl:Addr,SqT K H h [.int p,.int L,.ref tf,.ref tt,.ref tl]/\SqT K H tf (first.map V.int)/\SqT K H tl (last.map V.int)/\Tabs K H tt tables
def SumH.mono {K:α3} (x:SumH K H h p L first tables last)(s:Same H H'):SumH K H' h p L first tables last:=by
 obtain⟨tf,tt,tl,a,b,c,d⟩:=x;exact⟨tf,tt,tl,s.seqT a,s.seqT b,s.seqT c,d.mono s⟩
structure WfSum (p L:Int)(d:Nat)(first:α2)(tables:α0)(last:α2):Prop where
 p2:2<=p
 p18:p<1000000000000000000
 dl:d<=16
 f:first.length=d/\∀x∈first,0<=x/\x<p
 l:last.length=d/\∀x∈last,0<=x/\x<p
 t:(tables.length:Int)=L
 tt:∀tb∈tables,tb.length=d/\∀r∈tb,r.length=d
noncomputable def MS (p:Int)(d:Nat)(tables:α0)(row:α2)(x:Int):α2:=Jm p (tables.getD x.toNat []) row d
noncomputable def rowS (p:Int)(d:Nat)(tables:α0)(first ws:α2):α2:=ws.foldl (MS p d tables) first
def Ug (hp:0<p) : ∀x∈Jm p ae am n,0<=x/\x<p:=fun x hx=>by
 obtain⟨c,_,rfl⟩:=jv_.mp hx;exact⟨jD_ _ s!"",jz_ _ hp⟩
def Lg (p:Int)(ae:α1)(am:α2)(n:Nat):(Jm p ae am n).length=n:=by unfold Jm;rw[jb_,jX_]
def WfSum.row (wf:WfSum p L d first tables last)(ws:α2):(rowS p d tables first ws).length=d/\∀x∈rowS p d tables first ws,0<=x/\x<p:=by
 have h2:=wf.p2;have key:∀(ws r:α2),(r.length=d/\∀x∈r,0<=x/\x<p)->((ws.foldl (MS p d tables) r).length=d/\∀x∈ws.foldl (MS p d tables) r,0<=x/\x<p):=fun ws=>by
  induction ws with
  |nil=>exact fun r h=>h
  |cons y ws ih=>exact fun r _=>ih _ ⟨Lg _ _ _ _,Ug s!""⟩
 exact key ws first wf.f
def Lh {p:Int}{d:Nat}{tables:α0}{first ws:α2}{i:Nat}{x:Int}(h:ws[i]?=some x):rowS p d tables first (ws.take (i+1))=MS p d tables (rowS p d tables first (ws.take i)) x:=by
 unfold rowS;rw[jU_,h,xO_,qU_];rfl
def WfSum.table (wf:WfSum p L d first tables last) (x0:0<=x)(x1:x<L):tables[x.toNat]?=some (tables.getD x.toNat [])/\(tables.getD x.toNat []).length=d/\∀r∈tables.getD x.toNat [],r.length=d:=by
 have hx:x.toNat<tables.length:=by have:=wf.t;lia
 have e:tables.getD x.toNat []=tables[x.toNat]:=by rw[jc_,je_ hx];rfl
 rw[e];exact⟨by rw[je_ hx],wf.tt _ (jQ_ hx)⟩
def Tabs.at {K:α3}{H:Hp}{tt:Addr}{tables:α0}(h:Tabs K H tt tables){i:Nat}{tb:α1}(ht:tables[i]?=some tb):∃zs u xs,SqT K H tt zs/\atI zs (i:Int)=some (V.ref u)/\SqT K H u xs/\FA K H xs tb:=by
 obtain⟨us,a,b,c⟩:=h;have hi:i<us.length:=by rw[b];exact (jg_.mp ht).1
 have hu:us[i]?=some us[i]:=by simp[hi]
 obtain⟨xs,d,e⟩:=c i _ tb hu ht;exact⟨_,us[i],xs,a,EK (by rw[ji_,hu];rfl),d,e⟩
noncomputable def Qz (K:α3):Sp:=fun vs H Q _=>∃(h r:Addr) (p L x:Int) (d:Nat) (first last row:α2) (tables:α0),vs=[.ref h,.ref r,.int x]/\SumH K H h p L first tables last/\WfSum p L d first tables last/\SqT K H r (row.map V.int)/\row.length=d/\(∀y∈row,0<=y/\y<p)/\0<=x/\x<L/\∀q H',Same H H'->H' q=some (.tup ((MS p d tables row x).map V.int))->Q (.ref q) H'
def QA:⋯ EE.j31 3 ["house","row","letter"] (Qz K):=by
 delta EE.j31 Qo
 ·obtain⟨h,r,p,L,x,d,first,last,row,tables,rfl,_⟩:=h;rfl
 ·obtain⟨h,r,p,L,x,d,first,last,row,tables,rfl,hh,wf,hrr,bw,nP,x0,x1,k⟩:=h;have h2:=wf.p2;have h18:=wf.p18;have hd:=wf.dl;refine⟨_,(Ae (Am (Af (Qx EE) hr.d An (Aa (As (ixTD Ay) (pvD 0) Ai) (Aa (As (ixTD Ay) (As (ixTD Ay) (pvD 0) Ai) (pvD 2)) (Aa (pvD 1) (Aa (AK (lenD AG) (by rfl) EE.len qy_ (Aa (pvD 1) Ad)) Ad))))))),?_⟩;obtain⟨tf,tt,tl,e1,e2,e3,e4⟩:=id hh;obtain⟨t1,t2,t3⟩:=wf.table x0 x1;obtain⟨zs,u,xs,z1,z2,z3,z4⟩:=e4.at t1;rw[wc_ x0]at z2;nofun;refine⟨_,e1,_,rfl,_,e1,_,rfl,?_⟩;nofun;exact⟨_,z1,_,z2,_,.inr hrr,p,true,true,u,r,xs,tables.getD x.toNat [],row,d,by rw[jb_,bw],by lia,z3,z4,t3,hrr,by rw[t2];exact bw,by lia,by lia,(fun y hy=>by have:=nP y hy;lia),fun q H' s' hq=>k q H' s' hq⟩
noncomputable def YD (K:α3)(H:Hp)(xs:List V)(n:Nat)(f:Nat->α2):Prop:=xs.length=n+1/\∀i:Nat,i<=n->∃t,xs[i]?=some (.ref t)/\SqT K H t ((f i).map V.int)
noncomputable def MT (K:α3)(BW:Addr):Sp:=fun vs H Q E=>∃(h a:Addr) (p L:Int) (d:Nat) (first last ws:α2) (tables:α0),vs=[.ref h,.ref a]/\SumH K H h p L first tables last/\WfSum p L d first tables last/\SqT K H a (ws.map V.int)/\ws.length<=600/\(isW L ws=true->∀(q:Addr) (xs:List V) (H':Hp),Same H H'->H' q=some (.lst xs)->YD K H' xs ws.length (fun i=>rowS p d tables first (ws.take i))->Q (.ref q) H')/\(isW L ws=false->∀H',Same H H'->E (.ref BW) none H')
def Ir:CalH P w mg base (CXe P w) EE.j32 4 ["house","word"] (MT K au):=by
 refine HG.okE EE.j32 EU (fun vs H Q E h=>?_) (fun ao A outer s H vs Q E hr h=>?_)
 ·obtain⟨h,a,p,L,d,first,last,ws,tables,rfl,_⟩:=h;rfl
 ·obtain⟨h,a,p,L,d,first,last,ws,tables,rfl,hh,wf,hw,hz,k,kE⟩:=h;have hl:=Al;refine⟨_,(Ac (AB (Af (Ik EE) hr.d (Jb fun _ _ _ h=>h) (Aa (As (ixTD Ay) (pvD 0) Ai) (Aa (pvD 1) Ad))))
   (Ac (Ak (i:=2) EU.nd (Fe (Aa (As (ixTD Ay) (pvD 0) Ai) Ad)))
   (Ac (Bx PassesOwn.leaving rfl (Nb (pvD 1)) (Aq (i:=3) EU.nd rfl (o9 rfl))
   (Ae (AB (Nl qv_ qC_ qD_ Dz (pvD 2) (Aa (Af (QA EE) hr.d An (Aa (pvD 0) (Aa (As (ixLD FF) (pvD 2) (Lz GP Ai)) (Aa (pvD 3) Ad)))) Ad)))))
   (Ae (Am (pvD 2)))))),?_⟩
  obtain⟨tf,tt,tl,e1,e2,e3,e4⟩:=id hh;nofun;refine⟨_,e1,_,rfl,L,a,ws,rfl,hw,by lia,fun hv H1 s1=>?_,kE⟩;nofun;refine⟨_,s1.seqT e1,_,rfl,by lia,fun q hq=>?_⟩;have s0:=Same.new hq (o:=.lst [V.ref tf]);refine⟨⟨_,(s1.trans s0).seqT hw⟩,?_⟩;obtain⟨Pv,aq⟩:∃Pv:Nat->St->Hp->Prop,∀i af H',Pv i af H'↔(∃(xs:List V) (o:Option V),Same H1 H'/\H' q=some (.lst xs)/\YD K H' xs i (fun i=>rowS p d tables first (ws.take i))/\af=[some (.ref h),some (.ref a),some (.ref q),o]):=⟨_,fun _ _ _=>qP_⟩;refine forT (xs:=ws.map V.int) Pv ((aq _ _ _).mpr ⟨[V.ref tf],none,s0,Ab,⟨rfl,fun i hi=>⟨tf,by rw[show i=0 by lia];rfl,by rw[show i=0 by lia];exact (s1.trans s0).seqT e2⟩⟩,rfl⟩) (fun i af H' _ h'=>by obtain⟨_,_,s',_⟩:=(aq _ _ _).mp h';exact (s1.trans s').seqT hw) (fun i x af H' hx h'=>?_) (fun af H' h'=>?_)
  ·obtain⟨xs,o,s2,cw,hA,rfl⟩:=(aq _ _ _).mp h';obtain⟨n,hn,rfl⟩:=Kr hx;have hi:=(jg_.mp hn).1;have ke:=Bn.mp hv n (jo_ hn);obtain⟨r1,r2⟩:=wf.row (ws.take i);obtain⟨t,jZ,ht⟩:=hA.2 i (jh_ _);nofun;refine⟨.inl ⟨rfl,_,SqL.of cw⟩,_,SqL.of cw,_,Oo (v:=V.ref t) (by rw[hA.1];exact jZ),h,t,p,L,n,d,first,last,_,tables,rfl,hh.mono (s1.trans s2),wf,ht,r1,r2,ke.1,ke.2,fun q3 H3 s3 lz=>?_⟩;refine⟨_,s3 _ _ cw,by rw[hA.1];lia,(aq _ _ _).mpr ⟨xs++[V.ref q3],_,(s2.trans s3).over hq,Ab,⟨by simp[hA.1],fun j hj=>?_⟩,rfl⟩⟩;by_cases lC:j<=i
   ·obtain⟨u,nW,g8⟩:=hA.2 j lC;exact⟨u,by rw[jx_ (by rw[hA.1];lia)];exact nW,Ku (s3 _ _ cw) (s3.seqT g8)⟩
   ·have hj1:j=i+1:=by lia
    subst hj1;refine⟨q3,by rw[jB_ (by rw[hA.1];exact jh_ _),hA.1,q0_];rfl,?_⟩;show SqT K _ q3 ((rowS p d tables first (ws.take (i+1))).map V.int);rw[Lh hn];exact Ku (s3 _ _ cw) (SqT.of lz)
  ·obtain⟨xs,o,s2,cw,hA,rfl⟩:=(aq _ _ _).mp h';rw[jb_]at hA;nofun;exact k hv q xs _ (s1.trans s2) cw hA
noncomputable def MU (K:α3)(BW:Addr):Sp:=fun vs H Q E=>∃(h a:Addr) (p L:Int) (d:Nat) (first last ws:α2) (tables:α0),vs=[.ref h,.ref a]/\SumH K H h p L first tables last/\WfSum p L d first tables last/\SqT K H a (ws.map V.int)/\ws.length<=600/\(isW L ws=true->∀(t:Addr) (H':Hp),Same H H'->SqT K H' t ((rowS p d tables first ws).map V.int)->Q (.ref t) H')/\(isW L ws=false->∀H',Same H H'->E (.ref BW) none H')
def MV:CalH P w mg base (CXe P w) EE.j47 5 ["house","word"] (MU K au):=by
 refine HG.okE EE.j47 ME (fun vs H Q E h=>?_) (fun ao A outer s H vs Q E hr h=>?_)
 ·obtain⟨h,a,p,L,d,first,last,ws,tables,rfl,_⟩:=h;rfl
 ·obtain⟨h,a,p,L,d,first,last,ws,tables,rfl,hh,wf,hw,hz,k,kE⟩:=h;refine⟨_,(Ae (Am (As (ixLD FF) (Af (Ir EE) hr.d (Jb fun _ _ _ h=>h) (Aa (pvD 0) (Aa (pvD 1) Ad))) (Lz GP Ai)))),?_⟩;nofun;refine⟨h,a,p,L,d,first,last,ws,tables,rfl,hh,wf,hw,hz,fun hv q xs H1 s1 hq hA=>?_,kE⟩;obtain⟨t,jZ,ht⟩:=hA.2 ws.length (jh_ _);have ht:SqT K H1 t ((rowS p d tables first (ws.take ws.length)).map V.int):=ht;rw[jF_]at ht;nofun;exact⟨_,SqL.of hq,_,Oo (v:=V.ref t) (by rw[hA.1];exact jZ),k hv t _ s1 ht⟩
noncomputable def Uh (K:α3)(BW:Addr):Sp:=fun vs H Q E=>∃(h a:Addr) (p L:Int) (d:Nat) (first last ws:α2) (tables:α0),vs=[.ref h,.ref a]/\SumH K H h p L first tables last/\WfSum p L d first tables last/\SqT K H a (ws.map V.int)/\ws.length<=600/\(isW L ws=true->∀H',Same H H'->Q (.int (dotW last (rowS p d tables first ws)%p)) H')/\(isW L ws=false->∀H',Same H H'->E (.ref BW) none H')
def Ui:CalH P w mg base (CXe P w) EE.j48 6 ["house","word"] (Uh K au):=by
 refine HG.okE EE.j48 T9 (fun vs H Q E h=>?_) (fun ao A outer s H vs Q E hr h=>?_)
 ·obtain⟨h,a,p,L,d,first,last,ws,tables,rfl,_⟩:=h;rfl
 ·obtain⟨h,a,p,L,d,first,last,ws,tables,rfl,hh,wf,hw,hz,k,kE⟩:=h;have h2:=wf.p2;have h18:=wf.p18;have hd:=wf.dl;have jw:=wf.l;refine⟨_,(Ae (Am (Af (CN EE) hr.d An (Aa (As (ixTD Ay) (pvD 0) Ai) (Aa (As (ixTD Ay) (pvD 0) Ai) (Aa (Af (MV EE) hr.d (Jb fun _ _ _ h=>h) (Aa (pvD 0) (Aa (pvD 1) Ad))) Ad)))))),?_⟩;obtain⟨tf,tt,tl,e1,e2,e3,e4⟩:=id hh;obtain⟨r1,r2⟩:=wf.row ws;nofun;refine⟨_,e1,_,rfl,_,e1,_,rfl,h,a,p,L,d,first,last,ws,tables,rfl,hh,wf,hw,hz,fun hv t H1 s1 ht=>?_,kE⟩;nofun;exact⟨p,true,true,tl,t,last,_,rfl,by lia,s1.seqT e3,ht,by rw[r1];exact jw.1,by lia,(fun x hx=>by have:=jw.2 x hx;lia),fun H2 s2=>k hv _ (s1.trans s2)⟩
def Indep.of {p:Int}(hp:2<=p)(hI:∀a:Int,0<a->a<p->∃inv:Int,inv*a%p=1){m:Nat}:∀(k:Nat) (ae:α1),ae.length=k->(∀i:Nat,i<ae.length->¬ Span p m (ae.take i) fun j=>(ae.getD i []).getD j 0)->Indep p m ae
 |0,ae,hk,_=>by
  have:ae=[]:=jN_.mp hk;subst this;exact Indep.nil p m
 |k+1,ae,hk,h=>by
  obtain⟨R,r,rfl⟩:∃R r,ae=R++[r]:=⟨ae.dropLast,ae.getLast (by intro e;subst e;simp at hk),(qz_ _).symm⟩;have nX:R.length=k:=by simp at hk;exact hk
  have ih:=Indep.of hp hI k R nX fun i hi=>by
   have:=h i (by simp;lia);rw[xJ_ s!""]at this;rw[jc_,jx_ hi]at this;rw[jc_];exact this
  have hl:=h R.length (by simp);rw[rE rfl,jc_,jB_ (jh_ _),q0_]at hl;intro cs hc h0;obtain⟨ds,c,rfl⟩:∃ds c,cs=ds++[c]:=⟨cs.dropLast,cs.getLast (by intro e;subst e;simp at hc),(qz_ _).symm⟩;have fH:ds.length=R.length:=by simp at hc;exact hc
  have dE:∀i:Nat,i<m->(dotW ds (colW R i)+c*r.getD i 0)%p=0:=fun i hi=>by
   have:=h0 i hi;rw[MR]at this;rw[show colW [r] i=[r.getD i 0] from rfl,Im _ _ (by rw[MO,fH])]at this;exact this
  have nu:c%p=0:=by
   refine Decidable.byContradiction fun aG=>hl ?_;have lp:=jD_ c (show p≠0 by lia);have hm1:=jz_ c (show 0<p by lia);obtain⟨inv,dY⟩:=hI (c%p) s!"" hm1;refine⟨ds.map (-inv * ·),by rw[jb_,fH],fun i hi=>?_⟩;rw[C0];show ((some r).getD []).getD i 0%p=_;have h1:=dE i hi;have hinv':inv*c%p=1:=by rw[qr_,<-dY,qr_ inv (c%p),jM_ _ (qs_ p)]
   have e:r.getD i 0 - -inv*dotW ds (colW R i)=inv*(dotW ds (colW R i)+c*r.getD i 0)-(inv*c-1)*r.getD i 0:=by
    rw[wr_,qr,wq_,rq,zy_];lia
   refine jC_.mpr ?_;show (r.getD i 0-_)%p=0;rw[e];have d1:p ∣ inv*(dotW ds (colW R i)+c*r.getD i 0):=qT_ (j4_ h1);have d2:p ∣ (inv*c-1)*r.getD i 0:=Int.dvd_mul_of_dvd_left (j4_ (by rw[wg_,hinv'];have:(1:Int)%p=1:=j6_ s!"" s!"";rw[this];simp));exact qu_ (ws_ d1 d2)
  intro x hx;rcases jJ_.mp hx with hx|hx
  ·refine ih ds fH (fun i hi=>?_) x hx;have h1:=dE i hi;rw[qJ_,qr_,nu]at h1;simpa using h1
  ·rw[jk_.mp hx];exact nu
def VL (hp:Pr p):∀a:Int,0<a->a<p->∃inv:Int,inv*a%p=1:=fun a a0 a1=>YA hp.1 a0 (hp.gcd a0 a1)
def Indep.size (hp:Pr p) (h:Indep p n ae)(hl:∀r∈ae,r.length=n):ae.length<=n:=by
 have h1:=So hp.1 (VL hp) hl;rw[h.chosen hp.1,jX_]at h1;exact h1
def Indep.all {p:Int}(hp:Pr p){n:Nat}{ae:α1}(h:Indep p n ae)(hl:∀r∈ae,r.length=n)(hn:ae.length=n){v:α2}(hv:v.length=n):Span p n ae fun i=>v.getD i 0:=by
 refine qk_ fun bT=>?_;have hi:Indep p n (ae++[v]):=Indep.of hp.1 (VL hp) _ _ rfl fun i hi=>by
  simp only[js_,jW_]at hi;by_cases he:i=ae.length
  ·subst he;rw[rE rfl,jc_,jB_ (jh_ _),q0_];exact bT
  ·have aH:i<ae.length:=by lia
   rw[xJ_ s!"",jc_,jx_ aH,je_ aH];have h2:Indep p n (ae.take i++[ae[i]]):=by
    rw[List.take_append_getElem];rw[<-List.take_append_drop (i+1) ae]at h;exact h.left
   exact h2.not hp.1
 have:=hi.size hp fun r hr=>by
  rcases jJ_.mp hr with h|h
  ·exact hl r h
  ·rw[jk_.mp h];exact hv
 simp at this;lia
noncomputable def mkO (es:List (α2×Int))(w:α2):Option Int:=(es.find? fun e=>decide (e.1=w)).map (·.2)
noncomputable def oV:Option Int->V
 |some m=>.int m
 |none=>.non
def E5:∀{es:List (α2×Int)} {w:α2} {m:Int},(es.map (·.1)).Nodup->(w,m)∈es->mkO es w=some m
 |[],_,_,_,h=>by cases h
 |e::es,w,m,nd,h=>by
  rw[jR_,q9_]at nd;unfold mkO;rw[xh_];rcases jE_.mp h with h|h
  ·subst h;simp
  ·have aG:e.1≠w:=fun z=>nd.1 (by rw[z];exact zc_ (f:=(·.1)) h);rw[qF_ aG];exact E5 nd.2 h
def Iu {es:List (α2×Int)}{w:α2}(h:w∉es.map (·.1)):mkO es w=none:=by
 unfold mkO;rw[xb_.mpr fun e he z=>h (by have:=x0_ z;rw[<-this];exact zc_ (f:=(·.1)) he)];rfl
def Su {s:α1}{w:α2}(h:s.Nodup):(ins s w).Nodup:=by
 unfold ins;split
 ·exact h
 ·rename_i hw
  rw[zK_];refine⟨h,by simp,fun a ha b hb z=>?_⟩;rw[jk_.mp hb]at z;exact hw (z ▸ ha)
def JG:∀{l s:α1},s.Nodup->(l.foldl ins s).Nodup
 |[],_,h=>h
 |w::l,s,h=>by rw[xT_];exact JG (Su h)
def Sv (n:Nat):∀(acc:α1),(acc.flatMap (extW n)).length<=acc.length*n
 |[]=>by simp
 |w::acc=>by
  rw[List.flatMap_cons,js_,jY_,qS];have h1:=Sv n acc;have h2:(extW n w).length=n:=by unfold extW;simp
  lia
def Sw (n:Nat)(acc:α1):(Es n acc).length<=acc.length+acc.length*n:=by
 unfold Es;have h1:=A9 (acc.flatMap (extW n)) (acc.foldl ins []);have h2:=A9 acc [];have h3:=Sv n acc;simp at h2;lia
noncomputable def Sx (K:α3):Sp:=fun vs H Q _=>∃(L:Nat) (a:Addr) (xs:List V) (acc:α1),vs=[.int L,.ref a]/\L<=6/\SqL K H a xs/\Ao K H xs acc/\acc.length<=100/\(∀w∈acc,w.length<=100)/\∀l rs H',Same H H'->H l=none->H' l=some (.lst rs)->Ao K H' rs (Es L acc)->Q (.ref l) H'
def QB:⋯ EE.j35 1 ["letters","access"] (Sx K):=by
 delta EE.j35 Ex
 ·obtain⟨L,a,xs,acc,rfl,_⟩:=h;rfl
 ·obtain⟨L,a,xs,acc,rfl,hL,ha,hw,cM,bU,k⟩:=h;have hl:=Al;refine⟨_,(Ac (Jw (i:=2) Ex.nd rfl (o9 rfl) Ko)
   (Ac (Bx jL_ rfl (Br (pvD 1)) (Aq (i:=3) Ex.nd rfl (o9 rfl))
   (Ae (FH (FG hr) (pvD 2) (pvD 3) DY rfl)))
   (Ac (Bx jL_ rfl (Br (pvD 1)) (Aq (i:=3) Ex.nd rfl (o9 rfl))
   (Ae (Bx jL_ rfl (Cf rfl EE.range (Aa (pvD 0) Ad)) (Aq (i:=4) Ex.nd rfl (o9 rfl))
   (Ae (FH (FG hr) (pvD 2) (Ar Dn (pvD 3) (Cg (Aa (pvD 4) Ad))) DY rfl)))))
   (Ae (Am (AF (DC rfl) rfl EE.list q5_ (Aa (pvD 2) Ad))))))),?_⟩
  nofun;intro p hp;have sp:=Same.new (o:=.dT []) hp;refine⟨⟨_,sp.seq ha⟩,?_⟩;obtain⟨Pv,aq⟩:∃Pv:Nat->St->Hp->Prop,∀i af H',Pv i af H'↔(∃(kvs:List (List Key×V)) (o:Option V),Same H H'/\H' p=some (.dT kvs)/\Dp ((acc.take i).foldl ins []) kvs/\af=[some (.int L),some (.ref a),some (.ref p),o,none]):=⟨_,fun _ _ _=>qP_⟩;refine forL (xs:=xs) Pv ((aq _ _ _).mpr ⟨[],none,sp,Ab,by rw[xK_];exact Dp.nil,rfl⟩) (fun i af H' _ h'=>by obtain⟨_,_,s',_⟩:=(aq _ _ _).mp h';exact s'.seq ha) (fun i x af H' hx h'=>?_) (fun af H' h'=>?_)
  ·obtain⟨kvs,o,s',hd,hk,rfl⟩:=(aq _ _ _).mp h';obtain⟨t,w,cq,rfl,ht⟩:=hw.at hx;have ak:kvs.length<=100:=by
    have:=A9 (acc.take i) [];rw[hk.len];simp at this ⊢;lia
   nofun;refine⟨_,DPut.t (k:=wkey w) hd (by rw[B3];exact s' _ _ ht) s!"",(aq _ _ _).mpr ⟨_,_,s'.over hp,Ab,?_,rfl⟩⟩;rw[jU_,cq,xO_,qU_];exact hk.put w _
  ·obtain⟨kvs,o,s',hd,hk,rfl⟩:=(aq _ _ _).mp h';rw[hw.1,jF_]at hk;nofun;refine⟨⟨_,s'.seq ha⟩,?_⟩;obtain⟨Pw,cD⟩:∃Pv:Nat->St->Hp->Prop,∀i af H',Pv i af H'↔(∃(kvs:List (List Key×V)) (o o':Option V),Same H H'/\H' p=some (.dT kvs)/\Dp (((acc.take i).flatMap (extW L)).foldl ins (acc.foldl ins [])) kvs/\af=[some (.int L),some (.ref a),some (.ref p),o,o']):=⟨_,fun _ _ _=>qP_⟩;refine forL (xs:=xs) Pw ((cD _ _ _).mpr ⟨kvs,_,_,s',hd,by rw[xK_];exact hk,rfl⟩) (fun i af H' _ h'=>by obtain⟨_,_,_,s',_⟩:=(cD _ _ _).mp h';exact s'.seq ha) (fun i x ai H2 hx h2=>?_) (fun ai H2 h2=>?_)
   ·obtain⟨kvs,o,o',s2,hd,hk,rfl⟩:=(cD _ _ _).mp h2;obtain⟨t,w,cq,rfl,ht⟩:=hw.at hx;have hwlen:=bU w (jo_ cq);have eX:=s2 _ _ ht;nofun;refine⟨by lia,by lia,?_⟩;rw[jw_];obtain⟨Py,gI⟩:∃Pv:Nat->St->Hp->Prop,∀j af H',Pv j af H'↔(∃(kvs:List (List Key×V)) (o':Option V),Same H H'/\H' p=some (.dT kvs)/\Dp (((oX j).map fun x:Nat=>w++[(x:Int)]).foldl ins (((acc.take i).flatMap (extW L)).foldl ins (acc.foldl ins []))) kvs/\af=[some (.int L),some (.ref a),some (.ref p),some (.ref t),o']):=⟨_,fun _ _ _=>qP_⟩;refine forR Py ((gI _ _ _).mpr ⟨kvs,_,s2,hd,hk,rfl⟩) (fun j bA H3 hj h3=>?_) (fun bA H3 h3=>?_)
    ·obtain⟨kvs,o',s3,hd,hk,rfl⟩:=(gI _ _ _).mp h3;have ej:(0:Int)+(j:Nat)=(j:Int):=by lia
     rw[ej];have jx:=s3 _ _ ht;have ak:kvs.length<=10000:=by
      have h1:=A9 ((oX j).map fun x:Nat=>w++[(x:Int)]) (((acc.take i).flatMap (extW L)).foldl ins (acc.foldl ins []));have h2:=A9 ((acc.take i).flatMap (extW L)) (acc.foldl ins []);have h3:=A9 acc [];have h4:((acc.take i).flatMap (extW L)).length<=600:=by
       rw[zf_];have:(acc.take i).map (fun a=>(extW L a).length)=(acc.take i).map (fun _=>L):=jH_ fun a _=>by simp[extW]
       rw[this,qh,zH_];have:(acc.take i).length<=100:=by rw[jI_];lia
       exact qg_ (qW_ this hL) s!""
      rw[hk.len];simp at h1 h3;lia
     nofun;refine⟨by lia,fun p1 dh=>?_⟩;refine Cd.ofS (Same.new dh _ _ jx) Ab (by simp;lia) fun q H4 s4 hq=>?_;have c8:=(Same.new (o:=.tup [V.int (j:Int)]) dh).trans s4;have dQ:H4 q=some (.tup ((wkey (w++[(j:Int)])).map kV)):=by rw[B3,hq];simp
     refine⟨_,DPut.t (k:=wkey (w++[(j:Int)])) (c8 _ _ hd) dQ s!"",(gI _ _ _).mpr ⟨_,_,(s3.trans c8).over hp,Ab,?_,rfl⟩⟩;rw[qM_,jm_,qU_];exact hk.put _ _
    ·obtain⟨kvs,o',s3,hd,hk,rfl⟩:=(gI _ _ _).mp h3;refine (cD _ _ _).mpr ⟨kvs,_,_,s3,hd,?_,rfl⟩;rw[jU_,cq,xO_,qz,qU_];simpa [extW] using hk
   ·obtain⟨kvs,o,o',s2,hd,hk,rfl⟩:=(cD _ _ _).mp h2;rw[hw.1,jF_]at hk;nofun;refine⟨kvs,.inl hd,fun l rs ie bw jy=>?_⟩;exact k l rs _ (s2.newT ie) (Same.none s2 ie) Ab ((hk.words (K:=K) bw jy).mono (TK.new ie))
noncomputable def Uj (K:α3):Sp:=fun vs H Q _=>∃(L:Nat) (a e:Addr) (xs ys:List V) (acc bg:α1),vs=[.int L,.ref a,.ref e]/\L<=6/\SqL K H a xs/\Ao K H xs acc/\acc.length<=100/\(∀w∈acc,w.length<=100)/\SqL K H e ys/\Ao K H ys bg/\bg.length<=100/\(∀w∈bg,w.length<=500)/\∀l rs H',Same H H'->H l=none->H' l=some (.lst rs)->Ao K H' rs (JC (Es L acc) bg)->Q (.ref l) H'
def OR (hL:L<=6)(cM:acc.length<=100)(bU:∀w∈acc,w.length<=100):(Es L acc).length<=700/\∀w∈Es L acc,w.length<=101:=by
 have mem:∀(l s:α1) (w:α2),w∈l.foldl ins s->w∈s\/w∈l:=by
  intro l
  induction l with
  |nil=>intro s w h;exact .inl h
  |cons v l ih=>
   intro s w h;rw[xT_]at h;rcases ih _ _ h with h|h
   ·unfold ins at h;split at h
    ·exact .inl h
    ·rcases jJ_.mp h with h|h
     ·exact .inl h
     ·rw[jk_.mp h];exact .inr jA_
   ·exact .inr (jq_ _ h)
 refine⟨?_,fun w hw=>?_⟩
 ·have h2:=A9 (acc.flatMap (extW L)) (acc.foldl ins []);have h3:=A9 acc [];have h4:(acc.flatMap (extW L)).length<=600:=by
   rw[zf_];have:acc.map (fun a=>(extW L a).length)=acc.map (fun _=>L):=jH_ fun a _=>by simp[extW]
   rw[this,qh,zH_];exact qg_ (qW_ cM hL) s!""
  unfold Es;simp at h3;lia
 ·unfold Es at hw;rcases mem _ _ _ hw with h|h
  ·rcases mem _ _ _ h with h|h
   ·simp at h
   ·have:=bU w h;lia
  ·obtain⟨v,hv,h⟩:=List.mem_flatMap.mp h;obtain⟨x,_,rfl⟩:=jv_.mp h;have:=bU v hv;simp;lia
def Uk:⋯ EE.j36 2 ["letters","access","ends"] (Uj K):=by
 delta EE.j36 Kw
 ·obtain⟨L,a,e,xs,ys,acc,bg,rfl,_⟩:=h;rfl
 ·obtain⟨L,a,e,xs,ys,acc,bg,rfl,hL,ha,hw,cM,bU,he,mE,f9,hewl,k⟩:=h;have hl:=Al;obtain⟨bw,hX⟩:=OR hL cM bU;refine⟨_,(Ac (Jw (i:=3) Kw.nd rfl (o9 rfl) Ko)
   (Ac (Bx jL_ rfl (Br (Af (QB EE) hr.d An (Aa (pvD 0) (Aa (pvD 1) Ad)))) (Aq (i:=4) Kw.nd rfl (o9 rfl))
   (Ae (Bx jL_ rfl (Br (pvD 2)) (Aq (i:=5) Kw.nd rfl (o9 rfl))
   (Ae (FH (FG hr) (pvD 3) (Ar Dn (pvD 4) (pvD 5)) DY rfl)))))
   (Ae (Am (AF (DC rfl) rfl EE.list q5_ (Aa (pvD 3) Ad)))))),?_⟩
  nofun;intro p hp;have sp:=Same.new (o:=.dT []) hp;refine⟨L,a,xs,acc,rfl,hL,sp.seq ha,hw.mono (TK.of sp),cM,bU,fun r rs H1 s1 dZ hr jy=>?_⟩;generalize Es L acc=ae at bw hX jy k;have s01:=sp.trans s1;have hrH:H r=none:=Same.none sp dZ;have dh:=s1 _ _ (Ab (H:=H) (a:=p) (o:=.dT []));nofun;refine⟨⟨_,SqL.of hr⟩,?_⟩;have fL:r≠p:=(Om dZ).2;obtain⟨Pw,cD⟩:∃Pv:Nat->St->Hp->Prop,∀i af H',Pv i af H'↔(∃(kvs:List (List Key×V)) (o o':Option V),Same H H'/\H' r=some (.lst rs)/\Ao K H' rs ae/\H' p=some (.dT kvs)/\Dp (((ae.take i).flatMap fun r=>bg.map (r ++ ·)).foldl ins []) kvs/\af=[some (.int L),some (.ref a),some (.ref e),some (.ref p),o,o']):=⟨_,fun _ _ _=>qP_⟩;refine forL (xs:=rs) Pw ((cD _ _ _).mpr ⟨[],_,_,s01,hr,jy,dh,by rw[xK_];exact Dp.nil,rfl⟩) (fun i af H' _ h'=>by obtain⟨_,_,_,_,q,_⟩:=(cD _ _ _).mp h';exact SqL.of q) (fun i x ai H2 hx h2=>?_) (fun ai H2 h2=>?_)
  ·obtain⟨kvs,o,o',s2,hr2,jz,hd,hk,rfl⟩:=(cD _ _ _).mp h2;obtain⟨t,w,cq,rfl,ht⟩:=jz.at hx;have hwlen:=hX w (jo_ cq);nofun;refine⟨⟨_,s2.seq he⟩,?_⟩;obtain⟨Py,gI⟩:∃Pv:Nat->St->Hp->Prop,∀j af H',Pv j af H'↔(∃(kvs:List (List Key×V)) (o':Option V),Same H H'/\H' r=some (.lst rs)/\Ao K H' rs ae/\H' t=some (.tup (w.map V.int))/\H' p=some (.dT kvs)/\Dp (((bg.take j).map (w ++ ·)).foldl ins (((ae.take i).flatMap fun r=>bg.map (r ++ ·)).foldl ins [])) kvs/\af=[some (.int L),some (.ref a),some (.ref e),some (.ref p),some (.ref t),o']):=⟨_,fun _ _ _=>qP_⟩;refine forL (xs:=ys) Py ((gI _ _ _).mpr ⟨kvs,_,s2,hr2,jz,ht,hd,by rw[xK_];exact hk,rfl⟩) (fun j af H' _ h'=>by obtain⟨_,_,s',_⟩:=(gI _ _ _).mp h';exact s'.seq he) (fun j y bA H3 hy h3=>?_) (fun bA H3 h3=>?_)
   ·obtain⟨kvs,o',s3,nY,jA,jx,hd,hk,rfl⟩:=(gI _ _ _).mp h3;obtain⟨u,v,gb,rfl,hu⟩:=mE.at hy;have hvlen:=hewl v (jo_ gb);have ak:kvs.length<=100000:=by
     have h1:=A9 ((bg.take j).map (w ++ ·)) (((ae.take i).flatMap fun r=>bg.map (r ++ ·)).foldl ins []);have h2:=A9 ((ae.take i).flatMap fun r=>bg.map (r ++ ·)) [];have h4:((ae.take i).flatMap fun r=>bg.map (r ++ ·)).length<=70000:=by
      rw[zf_];have:(ae.take i).map (fun a=>(bg.map (a ++ ·)).length)=(ae.take i).map (fun _=>bg.length):=jH_ fun a _=>by simp
      rw[this,qh,zH_];have:(ae.take i).length<=700:=by rw[jI_];lia
      exact qg_ (qW_ this f9) s!""
     rw[hk.len];rw[jb_,jI_]at h1;rw[xi_,Nat.zero_add]at h2;lia
    nofun;refine Cd.ofS jx (s3 _ _ hu) (by simp;lia) fun q H4 s4 hq=>?_;have dQ:H4 q=some (.tup ((wkey (w++v)).map kV)):=by rw[B3,hq];simp
    have hd4:=s4 _ _ hd;have kD:TK H4 (upd H4 p (.dT (putK kvs (wkey (w++v)) (V.bl true)))):=TK.dT hd4;refine⟨_,DPut.t (k:=wkey (w++v)) hd4 dQ s!"",(gI _ _ _).mpr ⟨_,_,(s3.trans s4).over hp,by rw[Aj fL];exact s4 _ _ nY,(jA.mono (TK.of s4)).mono kD,kD _ _ (s4 _ _ jx),Ab,?_,rfl⟩⟩;rw[jU_,gb,xO_,jm_,qU_];exact hk.put _ _
   ·obtain⟨kvs,o',s3,nY,jA,jx,hd,hk,rfl⟩:=(gI _ _ _).mp h3;rw[mE.1,jF_]at hk;refine (cD _ _ _).mpr ⟨kvs,_,_,s3,nY,jA,hd,?_,rfl⟩;rw[jU_,cq,xO_,qz,qU_];simpa using hk
  ·obtain⟨kvs,o,o',s2,hr2,jz,hd,hk,rfl⟩:=(cD _ _ _).mp h2;rw[jy.1,jF_]at hk;nofun;refine⟨kvs,.inl hd,fun l rs' ie hrl' hrs'=>?_⟩;exact k l rs' _ (s2.newT ie) (Same.none s2 ie) Ab ((hk.words (K:=K) hrl' hrs').mono (TK.new ie))
noncomputable def NS (_K:α3):V->Option Int->Option Int->Hp->VK->Prop:=fun x lo hi H Q=>∃a xs,x=.ref a/\H a=some (.tup xs)/\∀p H',Same H H'->H' p=some (.tup (cutV xs lo hi))->Q (.ref p) H'
def Gb : SlR X (NS X.K):=by
 intro aa s σ H x v vl vu lo hi sl Q I rx hs pl pu h;obtain⟨a,xs,rfl,hx,q⟩:=h;by_cases hw:HT.sIx xs.length 0 lo=0/\HT.sIx xs.length xs.length hi=xs.length
 ·cases rx;obtain⟨ah,r,ht,hz⟩:=I.tuple (SqT.of hx);have ak:ah.toArray.size=xs.length:=by rw[jn_];exact r.length.symm
  refine⟨"tuple",_,qa_.lookup,ht.typeIs,?_⟩;refine HT.getItem_tuple_whole ht hs pl pu (by rw[ak];exact hw) ⟨.ref a,H,I,rfl,q a H (Same.refl _) ?_⟩;unfold cutV;rw[hw.1,hw.2,xf_,zj_,jF_];exact hx
 ·exact UQ aa s σ H (.ref a) v vl vu lo hi sl Q I rx hs pl pu ⟨a,xs,rfl,SqT.of hx,hw,fun p hp=>q p _ (Same.new hp) Ab⟩
def PQ {K:α3}(h:X.K=K):SlR X (NS K):=by subst h;exact Gb
def NS.of {K:α3}{a:Addr}{xs:List V}{m:Nat}{H:Hp}{Q:VK}(ha:H a=some (.tup xs))(q:∀p H',Same H H'->H' p=some (.tup (xs.take m))->Q (.ref p) H'):NS K (.ref a) none (some (m:Int)) H Q:=by
 refine⟨a,xs,rfl,ha,fun p H' s' h=>q p H' s' ?_⟩;rw[h];unfold cutV;rw[HT.sIx_nat,HT.sIx_none,xf_,zj_]
 congr 2
 rw[qj];lia
noncomputable def Cp (H:Hp)(rs:List V)(es:List (α2×Int)):Prop:=rs.length=es.length/\∀(i:Nat) (tr:α2×Int),es[i]?=some tr->∃t b,rs[i]?=some (V.ref t)/\H t=some (.tup [.ref b,.int tr.2])/\H b=some (.tup (tr.1.map V.int))
def Cp.mono (h:Cp H rs es)(k:∀b xs,H b=some (.tup xs)->H' b=some (.tup xs)):Cp H' rs es:=⟨h.1,fun i tr hi=>by
 obtain⟨t,b,e1,e2,e3⟩:=h.2 i tr hi;exact⟨t,b,e1,k _ _ e2,k _ _ e3⟩⟩
def CP (ys:α2)(m:Nat):cutV (ys.map V.int) (some (m:Int)) none=(ys.drop m).map V.int:=by
 rw[Tx];unfold cutI;rw[HT.sIx_nat,HT.sIx_none]
 congr 1
 by_cases h:m<=ys.length
 ·rw[qf h,q4_ (by rw[qw_];lia)]
 ·rw[pW s!"",q1_,zG_ s!"",qF]
def Kx (l:α1):∀(s:α1) (v:α2),v∈l.foldl ins s↔v∈s\/v∈l:=by
 induction l with
 |nil=>intro s v;simp
 |cons a l ih=>
  intro s v;rw[xT_,ih];unfold ins;split
  ·rename_i h
   constructor
   ·rintro (h1|h1)
    ·exact .inl h1
    ·exact .inr (jq_ _ h1)
   ·rintro (h1|h1)
    ·exact .inl h1
    ·rcases jE_.mp h1 with rfl|h1
     ·exact .inl h
     ·exact .inr h1
  ·constructor
   ·rintro (h1|h1)
    ·rcases jJ_.mp h1 with h1|h1
     ·exact .inl h1
     ·rw[jk_.mp h1];exact .inr (jA_ ..)
    ·exact .inr (jq_ _ h1)
   ·rintro (h1|h1)
    ·exact .inl (qf_ _ h1)
    ·rcases jE_.mp h1 with rfl|h1
     ·exact .inl (by simp)
     ·exact .inr h1
def L4 : v∈Es L W↔v∈W \/ ∃a∈W,∃x:Nat,x<L/\v=a++[(x:Int)]:=by
 unfold Es;rw[Kx,Kx];simp only[xq_,false_or,ro,extW,jv_,qo_];constructor
 ·rintro (h|⟨a,ha,x,hx,rfl⟩)
  ·exact .inl h
  ·exact .inr ⟨a,ha,x,hx,rfl⟩
 ·rintro (h|⟨a,ha,x,hx,rfl⟩)
  ·exact .inl h
  ·exact .inr ⟨a,ha,x,hx,rfl⟩
def Li : c∈JC R E ↔ ∃r∈R,∃e∈E,c=r++e:=by
 unfold JC;rw[Kx];simp only[xq_,false_or,ro,jv_];constructor
 ·rintro⟨r,hr,e,he,rfl⟩;exact⟨r,hr,e,he,rfl⟩
 ·rintro⟨r,hr,e,he,rfl⟩;exact⟨r,hr,e,he,rfl⟩
noncomputable abbrev Bk:=List (α2×Int)
noncomputable def Grow (es eA:Bk):Prop:=∀v m,mkO es v=some m->mkO eA v=some m
def Grow.snoc (es:Bk)(v:α2)(m:Int):Grow es (es++[(v,m)]):=fun u n h=>by
 unfold mkO at h ⊢;rw[List.find?_append];cases hf:es.find? (fun e=>decide (e.1=u)) with
 |none=>rw[hf]at h;cases h
 |some e=>rw[hf]at h;exact h
def MW (h:mkO es v=some m):(v,m)∈es:=by
 unfold mkO at h;cases hf:es.find? (fun e=>decide (e.1=v)) with
 |none=>rw[hf]at h;cases h
 |some e=>
  rw[hf]at h;have h1:=x7_ hf;have h2:=qg hf;simp at h h2;subst h h2;exact h1
def OS : v∈es.map (·.1) ↔ ∃m,mkO es v=some m:=by
 constructor
 ·intro h;cases hm:mkO es v with
  |some m=>exact⟨m,rfl⟩
  |none=>
   obtain⟨e,he,rfl⟩:=jv_.mp h;unfold mkO at hm;rw[xM_,xb_]at hm;exact absurd (qx_ rfl) (hm e he)
 ·rintro⟨m,hm⟩;exact jv_.mpr ⟨_,MW hm,rfl⟩
noncomputable def gOf (E:α1)(es:Bk)(v:α2):α2:=E.map fun e=>(mkO es (v++e)).getD 0
noncomputable def nums (es:Bk)(W:α1)(u:α2):α2:=W.map fun w=>(mkO es (w++u)).getD 0
def MX (es:Bk)(W:α1)(u:α2):(nums es W u).length=W.length:=by unfold nums;rw[jb_]
noncomputable def AllT (es:Bk)(W:α1)(u:α2):Prop:=∀w∈W,∃m,mkO es (w++u)=some m
def Jo (E:α1)(es:Bk)(v:α2):(gOf E es v).length=E.length:=by unfold gOf;rw[jb_]
def VM (he:E[j]?=some e)(v:α2):(gOf E es v).getD j 0=(mkO es (v++e)).getD 0:=by
 unfold gOf;rw[jc_,ji_,he];rfl
def Iv (he:E[j]?=some e):colW (W.map (gOf E es)) j=nums es W e:=by
 unfold colW nums;rw[jK_];exact jH_ fun v _=>VM he v
def Sy (h:AllT es W u)(g:Grow es eA):nums eA W u=nums es W u:=by
 unfold nums;refine jH_ fun w hw=>?_;obtain⟨m,hm⟩:=h w hw;rw[hm,g _ _ hm]
noncomputable def R71 (p:Int)(t:α0)(n:Nat)(v:α2):α2:=rowS p n t (Bu n 0) v
noncomputable def W71 (p:Int)(t:α0)(l:α2)(v:α2):Int:=dotW l (R71 p t l.length v)%p
structure Tb (p:Int)(L most:Nat)(W E:α1)(es:Bk):Prop where
 pr:Pr p
 p18:p<1000000000000000000
 l1:1<=L
 l6:L<=6
 m12:most<=12
 sq:E.length=W.length
 w0:∀v,W[0]?=some v->v=[]
 wW:∀v∈W,isW L v=true/\v.length<W.length
 wn:W.length<=most
 eW:∀e∈E,isW L e=true
 nd:(es.map (·.1)).Nodup
 bW:∀q∈es,isW L q.1=true/\0<=q.2/\q.2<p
 tl:∀e∈E,AllT es W e
 ind:Indep p W.length (W.map (gOf E es))
def Ul (h:∀e∈E,∃m,mkO es (v++e)=some m)(g:Grow es eA):gOf E eA v=gOf E es v:=by
 unfold gOf;refine jH_ fun e he=>?_;obtain⟨m,hm⟩:=h e he;rw[hm,g _ _ hm]
def Tb.put {p:Int}{L most:Nat}{W E:α1}{es:Bk}(t:Tb p L most W E es){v:α2}{m:Int}(hn:v∉es.map (·.1))(hv:isW L v=true)(h0:0<=m)(h9:m<p):Tb p L most W E (es++[(v,m)]) where
 pr:=t.pr
 p18:=t.p18
 l1:=t.l1
 l6:=t.l6
 m12:=t.m12
 sq:=t.sq
 w0:=t.w0
 wW:=t.wW
 wn:=t.wn
 eW:=t.eW
 nd:=by
  rw[jm_,zK_];exact⟨t.nd,by simp,fun a ha b hb=>by rw[jk_.mp hb];intro z;subst z;exact hn ha⟩
 bW:=fun q hq=>by
  rcases jJ_.mp hq with hq|hq
  ·exact t.bW q hq
  ·rw[jk_.mp hq];exact⟨hv,h0,h9⟩
 tl:=fun e he w hw=>by
  obtain⟨q,hq⟩:=t.tl e he w hw;exact⟨q,Grow.snoc es v m _ _ hq⟩
 ind:=by
  rw[show W.map (gOf E (es++[(v,m)]))=W.map (gOf E es) from jH_ fun w hw=>Ul (fun e he=>t.tl e he w hw) (Grow.snoc es v m)];exact t.ind
def Tb.val (t:Tb p L most W E es) (h:mkO es v=some m):0<=m/\m<p:=(t.bW _ (MW h)).2
structure GuessOk (p:Int)(L:Nat)(W E:α1)(es:Bk)(t:α0)(l:α2):Prop where
 tl:t.length=L
 tt:∀tb∈t,tb.length=W.length/\∀r∈tb,r.length=W.length/\∀y∈r,0<=y/\y<p
 ll:l.length=W.length
 lt:∀(i:Nat) (v:α2),W[i]?=some v->∃m,l[i]?=some m/\mkO es v=some m
 eq:∀(x i:Nat) (v:α2),x<L->W[i]?=some v->∃tb r,t[x]?=some tb/\tb[i]?=some r/\∀e∈E,∃m,mkO es (v++[(x:Int)]++e)=some m/\m%p=dotW r (nums es W e)%p
def GuessOk.mono (tb:Tb p L most W E es)(g:GuessOk p L W E es t l)(h:Grow es eA):GuessOk p L W E eA t l:=by
 refine⟨g.tl,g.tt,g.ll,fun i v hv=>?_,fun x i v hx hv=>?_⟩
 ·obtain⟨m,a,b⟩:=g.lt i v hv;exact⟨m,a,h _ _ b⟩
 ·obtain⟨gJ,r,a,b,c⟩:=g.eq x i v hx hv;refine⟨gJ,r,a,b,fun e he=>?_⟩;obtain⟨m,m1,m2⟩:=c e he;exact⟨m,h _ _ m1,by rw[Sy (tb.tl e he) h];exact m2⟩
def GuessOk.wf (tb:Tb p L most W E es)(g:GuessOk p L W E es t l):WfSum p L l.length (Bu l.length 0) t l:=by
 have h2:=tb.pr.1;have hn:=tb.wn;have hm:=tb.m12;have lu:=g.ll;refine⟨h2,tb.p18,by lia,⟨by unfold Bu;rw[jb_,jX_],fun x hx=>?_⟩,⟨rfl,fun x hx=>?_⟩,by rw[g.tl],fun gJ h=>?_⟩
 ·unfold Bu at hx;obtain⟨i,_,rfl⟩:=jv_.mp hx;split<;>lia
 ·obtain⟨i,hi⟩:=qq_.mp hx;have dz:=(jg_.mp hi).1;rw[g.ll]at dz;obtain⟨m,a,b⟩:=g.lt i _ (je_ dz);rw[hi]at a;cases a;exact tb.val b
 ·obtain⟨a,b⟩:=g.tt gJ h;rw[g.ll];exact⟨a,fun r hr=>(b r hr).1⟩
def PR (hl:tb.length=n)(hr:∀r∈tb,r.length=n) (h1:row.length=n)(h2:c.length=n):dotW (Jm p tb row n) c%p=dotW row (tb.map fun r=>dotW r c)%p:=by
 have a:cg p (Jm p tb row n) ((oX n).map fun k=>dotW row (colW tb k)):=by
  unfold Jm;exact cg.map fun k _=>jM_ _ (qs_ p)
 rw[a.dot (cg.refl p c),PJ h2 tb row hr s!""]
 congr 2
 exact jH_ fun r _=>Be _ _
noncomputable def Lo (p:Int)(es:Bk)(W:α1)(t:α0)(v:α2)(goal:Int)(lo:Nat):Prop:=(lo=0/\∃q,mkO es v=some q/\q≠goal)\/(0<lo/\AllT es W (v.drop lo)/\dotW (R71 p t W.length (v.take lo)) (nums es W (v.drop lo))%p≠goal)
noncomputable def Hi (p:Int)(es:Bk)(W:α1)(t:α0)(v:α2)(goal:Int)(hi:Nat):Prop:=AllT es W (v.drop hi)/\dotW (R71 p t W.length (v.take hi)) (nums es W (v.drop hi))%p=goal
inductive HR where
 | ask (aQ:Nat)
 | fin (lo:Nat)
noncomputable def allB (es:Bk)(W:α1)(u:α2):Bool:=W.all fun w=>(mkO es (w++u)).isSome
def Ky : allB es W u=true↔AllT es W u:=by
 unfold allB AllT;rw[qZ_];exact⟨fun h w hw=>qe_.mp (h w hw),fun h w hw=>qe_.mpr (h w hw)⟩
noncomputable def GL (p:Int)(es:Bk)(W:α1)(t:α0)(v:α2)(goal:Int):Nat->Nat->Nat->HR
 |0,lo,_=>.fin lo
 |f+1,lo,hi=>if hi-lo > 1 then (if allB es W (v.drop ((lo+hi) / 2))=true then (if dotW (R71 p t W.length (v.take ((lo+hi) / 2))) (nums es W (v.drop ((lo+hi) / 2)))%p=goal then GL p es W t v goal f lo ((lo+hi) / 2) else GL p es W t v goal f ((lo+hi) / 2) hi) else .ask ((lo+hi) / 2)) else .fin lo
def MY {p:Int}{es:Bk}{W:α1}{t:α0}{v:α2}{goal:Int}:∀(f lo hi:Nat),hi-lo<=f+1->lo<hi->hi<=v.length->Lo p es W t v goal lo->Hi p es W t v goal hi->match GL p es W t v goal f lo hi with
   |.ask aQ=>0<aQ/\aQ<v.length/\¬ AllT es W (v.drop aQ)
   |.fin lo=>lo<v.length/\Lo p es W t v goal lo/\Hi p es W t v goal (lo+1)
 |0,lo,hi,h1,h2,h3,h4,h5=>by
  have:hi=lo+1:=by lia
  subst this;exact⟨by lia,h4,h5⟩
 |f+1,lo,hi,h1,h2,h3,h4,h5=>by
  unfold GL;by_cases hg:hi-lo > 1
  ·rw[if_pos hg];by_cases ha:allB es W (v.drop ((lo+hi) / 2))=true
   ·rw[if_pos ha];have ha':=Ky.mp ha;by_cases hb:dotW (R71 p t W.length (v.take ((lo+hi) / 2))) (nums es W (v.drop ((lo+hi) / 2)))%p=goal
    ·rw[if_pos hb];exact MY f lo ((lo+hi) / 2) s!"" s!"" s!"" h4 ⟨ha',hb⟩
    ·rw[if_neg hb];exact MY f ((lo+hi) / 2) hi s!"" s!"" h3 (.inr ⟨by lia,ha',hb⟩) h5
   ·rw[if_neg ha];exact⟨by lia,by lia,fun z=>ha (Ky.mpr z)⟩
  ·rw[if_neg hg];have:hi=lo+1:=by lia
   subst this;exact⟨by lia,h4,h5⟩
noncomputable def LK (p:Int)(es:Bk)(W:α1)(t:α0)(v:α2)(lo:Nat):Option Nat:=(oX W.length).find? fun i=>decide (mkO es (W.getD i []++v.drop lo)≠some (dotW ((t.getD (v.getD lo 0).toNat []).getD i []) (nums es W (v.drop (lo+1)))%p))
def SA (pr:Pr p)(h:c*a%p=0)(ha:a%p≠0):c%p=0:=by
 have h2:=pr.1;have a0:=jD_ a (show p≠0 by lia);have a1:=jz_ a (show 0<p by lia);refine NO (pr.gcd s!"" a1) c ?_;rw[qr_,jM_ _ (qs_ p),<-qr_];exact h
def WV : ∀v:α2,(R71 p t n v).length=n:=fun v=>by
 unfold R71 rowS;have key:∀(v r:α2),r.length=n->(v.foldl (MS p n t) r).length=n:=fun v=>by
  induction v with
  |nil=>exact fun r h=>h
  |cons y v ih=>exact fun r _=>ih _ (Lg _ _ _ _)
 exact key v _ (by unfold Bu;rw[jb_,jX_])
def Kz {L:Nat}{v:α2}(hv:isW L v=true){lo:Nat}(h:lo<v.length):∃x:Nat,v[lo]?=some (x:Int)/\x<L/\v.getD lo 0=(x:Int)/\v.drop lo=(x:Int)::v.drop (lo+1):=by
 have hb:=Bn.mp hv _ (jQ_ h);obtain⟨x,hx⟩:∃x:Nat,v[lo]=(x:Int):=⟨v[lo].toNat,by lia⟩;have e:v[lo]?=some (x:Int):=by rw[je_ h,hx]
 exact⟨x,e,by lia,by rw[jc_,e];rfl,by rw[pM h,hx]⟩
def VN (tb:Tb p L most W E es) (g:GuessOk p L W E es t l) (hv:isW L v=true) {lo:Nat}(hW:W ≠ [])(gy:lo<v.length)(h1:Lo p es W t v goal lo)(h2:Hi p es W t v goal (lo+1)):∃(i x:Nat) (w r:α2) (tx:α1) (m:Int),LK p es W t v lo=some i/\v[lo]?=some (x:Int)/\x<L/\W[i]?=some w/\t[x]?=some tx/\tx[i]?=some r/\mkO es (w++v.drop lo)=some m/\m≠dotW r (nums es W (v.drop (lo+1)))%p:=by
 obtain⟨x,hx,mF,lD,lE⟩:=Kz hv gy;have hn:0<W.length:=List.length_pos_iff.mpr hW;obtain⟨tx,ig⟩:∃tx,t[x]?=some tx:=⟨t[x]'(by rw[g.tl];exact mF),by simp⟩;obtain⟨tl,tr⟩:=g.tt tx (jo_ ig);have htd:t.getD x []=tx:=by rw[jc_,ig];rfl
 obtain⟨c,hc⟩:∃c,c=nums es W (v.drop (lo+1)):=⟨_,rfl⟩;have bC:c.length=W.length:=by rw[hc,MX]
 have hR:=WV (p:=p) (t:=t) (n:=W.length) (v.take lo);have dF:dotW (R71 p t W.length (v.take lo)) (tx.map fun r=>dotW r c)%p=goal:=by
  have:=h2.2;rw[<-hc]at this;unfold R71 at this;rw[Lh hx]at this;unfold MS at this;rw[jw_,htd]at this;rw[<-this];exact (PR tl (fun r hr=>(tr r hr).1) hR bC).symm
 have nZ:∀i:Nat,i<W.length->∃w r,W[i]?=some w/\tx[i]?=some r/\(decide (mkO es (W.getD i []++v.drop lo)≠some (dotW ((t.getD (v.getD lo 0).toNat []).getD i []) (nums es W (v.drop (lo+1)))%p))=decide (mkO es (w++v.drop lo)≠some (dotW r c%p))):=fun i hi=>by
  refine⟨W[i],tx[i]'s!"",by simp,by simp,?_⟩;rw[lD,jw_,htd,<-hc,jc_,je_ hi,jc_,je_ (show i<tx.length by lia)];rfl
 have ex:∃i:Nat,i<W.length/\∃w r,W[i]?=some w/\tx[i]?=some r/\mkO es (w++v.drop lo)≠some (dotW r c%p):=by
  rcases h1 with ⟨h0,q,hq,aG⟩|⟨h0,cM,aG⟩
  ·subst h0;refine⟨0,hn,[],tx[0]'s!"",?_,by simp,?_⟩
   ·rw[je_ hn,tb.w0 _ (je_ hn)]
   ·rw[xf_,qY_,hq];intro z;refine aG (Eq.trans (ju_ z) (Eq.trans ?_ dF));have hu:dotW (R71 p t W.length (v.take 0)) (tx.map fun r=>dotW r c)=(tx.map fun r=>dotW r c).getD 0 0:=by
     rw[Be];exact Io _ (by rw[jb_];exact tl)
    rw[hu,jc_,ji_,je_ (show 0<tx.length by lia)];rfl
  ·refine qk_ fun bT=>aG ?_;rw[<-dF];refine cg.dot (cg.refl _ _) ?_;unfold cg;refine qR_ fun i=>?_;rw[ji_,ji_,ji_];unfold nums;rw[ji_];by_cases hi:i<W.length
   ·rw[je_ hi,je_ (show i<tx.length by lia)];have h3:mkO es (W[i]++v.drop lo)=some (dotW (tx[i]'s!"") c%p):=qk_ fun z=>bT ⟨i,hi,W[i],tx[i]'s!"",by simp,by simp,z⟩;show some ((mkO es (W[i]++v.drop lo)).getD 0%p)=some (dotW (tx[i]'s!"") c%p);rw[h3];show some (dotW (tx[i]'s!"") c%p%p)=_;rw[jM_ _ (qs_ p)]
   ·rw[jy_ s!"",jy_ s!""];rfl
 cases hf:LK p es W t v lo with
 |none=>
  exfalso;unfold LK at hf;rw[xb_]at hf;obtain⟨i,hi,w,r,a,b,d⟩:=ex;obtain⟨w',r',a',b',e'⟩:=nZ i hi;rw[a]at a';rw[b]at b';cases a';cases b';have:=hf i (qo_.mpr hi);rw[e']at this;exact this (qx_ d)
 |some i=>
  unfold LK at hf;obtain⟨q1,q2,q3⟩:=List.find?_range_eq_some.mp hf;have hi:=qo_.mp q2;obtain⟨w,r,a,b,e⟩:=nZ i hi;rw[e]at q1;have q1:=x0_ q1;have told:∃m,mkO es (w++v.drop lo)=some m:=by
   rcases h1 with ⟨h0,q,hq,aG⟩|⟨h0,cM,aG⟩
   ·have i0:i=0:=by
     refine qk_ fun hi0=>?_;have z:=q3 0 s!"";obtain⟨w',r',a',b',e'⟩:=nZ 0 hn;rw[e']at z;have w0:=tb.w0 _ a';subst w0 h0;have z:¬ (mkO es ([]++v.drop 0)≠some (dotW r' c%p)):=by simpa using z
     refine z fun zz=>aG ?_;rw[xf_,qY_,hq]at zz;refine Eq.trans (ju_ zz) (Eq.trans ?_ dF);have hu:dotW (R71 p t W.length (v.take 0)) (tx.map fun r=>dotW r c)=(tx.map fun r=>dotW r c).getD 0 0:=by
      rw[Be];exact Io _ (by rw[jb_];exact tl)
     rw[hu,jc_,ji_,b'];rfl
    subst i0;have w0:=tb.w0 _ a;subst w0 h0;exact⟨q,by rw[xf_,qY_];exact hq⟩
   ·exact cM w (jo_ a)
  obtain⟨m,hm⟩:=told;exact⟨i,x,w,r,tx,m,rfl,hx,mF,a,ig,b,hm,fun z=>q1 (by rw[hm,z,<-hc])⟩
def Um (tb:Tb p L most W E es) (hr:r.length=W.length)(ha:AllT es W e')(h1:∀e∈E,∃m,mkO es (w'++e)=some m/\m%p=dotW r (nums es W e)%p) (hm:mkO es (w'++e')=some m)(aG:m≠dotW r (nums es W e')%p):Indep p (W++[w']).length ((W++[w']).map (gOf (E++[e']) es)):=by
 have hl:(W++[w']).length=W.length+1:=by simp
 have pr:=tb.pr;have p2:=pr.1;rw[hl];have nsn:∀u,nums es (W++[w']) u=nums es W u++[(mkO es (w'++u)).getD 0]:=fun u=>by unfold nums;rw[jm_];rfl
 intro cs eQ aE;rw[jb_,hl]at eQ;obtain⟨ds,b,rfl⟩:∃ds b,cs=ds++[b]:=⟨cs.dropLast,cs.getLast (by intro z;rw[z]at eQ;cases eQ),(qz_ _).symm⟩;have iH:ds.length=W.length:=by simpa using eQ
 have zl:(pf (· + ·) ds (r.map (b * ·))).length=W.length:=by rw[ze_,jb_];lia
 have key:∀u:α2,dotW (pf (· + ·) ds (r.map (b * ·))) (nums es W u)=dotW ds (nums es W u)+b*dotW r (nums es W u):=fun u=>by rw[Lf _ _ _ (by rw[jb_];lia),C0]
 have z0:∀c∈pf (· + ·) ds (r.map (b * ·)),c%p=0:=by
  refine tb.ind _ (by rw[jb_];exact zl) fun j hj=>?_;obtain⟨e,he⟩:∃e,E[j]?=some e:=⟨E[j]'(by rw[tb.sq];exact hj),by simp⟩;have hE:(E++[e'])[j]?=some e:=by rw[jx_ (jg_.mp he).1];exact he
  have h:=aE j s!"";obtain⟨q,q1,q2⟩:=h1 e (jo_ he);rw[Iv hE,nsn,Im _ _ (by rw[MX];exact iH),q1]at h;have h:(dotW ds (nums es W e)+b*q)%p=0:=h;rw[Iv he,key,qJ_,qr_,<-q2,<-qr_,<-qJ_];exact h
 have cgd:cg p ds ((r.map (b * ·)).map fun y => -y):=by
  unfold cg;refine qR_ fun i=>?_;rw[ji_,ji_,ji_];by_cases hi:i<W.length
  ·rw[je_ (show i<ds.length by lia),ji_,je_ (show i<r.length by lia)];have hz:(ds[i]'s!""+b*r[i]'s!"")%p=0:=z0 _ (jo_ (i:=i) (by rw[xx_,je_ (show i<ds.length by lia),ji_,je_ (show i<r.length by lia)];rfl));show some (ds[i]'s!""%p)=some (-(b*r[i]'s!"")%p)
   congr 1
   refine jM_ (ds[i]'s!"") (qs_ p) ▸ ?_;have:=jM_ (ds[i]'s!"") (qs_ p);have e2:(ds[i]'s!"" - -(b*r[i]'s!""))%p=0:=by rw[Int.sub_neg];exact hz
   rw[this];exact jC_.mpr e2
  ·rw[jy_ s!"",ji_,jy_ s!""];rfl
 have hb:b%p=0:=by
  have hE:(E++[e'])[W.length]?=some e':=by rw[jB_ (by rw[tb.sq];exact jh_ _),tb.sq,q0_];rfl
  have h:=aE W.length s!"";rw[Iv hE,nsn,Im _ _ (by rw[MX];exact iH),hm]at h;have h:(dotW ds (nums es W e')+b*m)%p=0:=h;have hn:dotW ((r.map (b * ·)).map fun y => -y) (nums es W e') = -(b*dotW r (nums es W e')):=by
   rw[show (fun y:Int => -y)=((-1:Int) * ·) from funext fun y=>by lia,C0,C0];lia
  rw[qJ_,cgd.dot (cg.refl p _),hn,<-qJ_]at h;have mv:=tb.val hm;refine SA pr (a:=m-dotW r (nums es W e')) ?_ fun z=>aG ?_
  ·rw[qp];rw[show -(b*dotW r (nums es W e'))+b*m=b*m-b*dotW r (nums es W e') by lia]at h;exact h
  ·have:=jC_.mpr z
   rwa [j6_ mv.1 mv.2]at this
 intro c hc;rcases jJ_.mp hc with hc|hc
 ·obtain⟨i,hi⟩:=qq_.mp hc;have dz:=(jg_.mp hi).1;have h3:=cgd.getD i;rw[jc_,hi,jc_,ji_,ji_,je_ (show i<r.length by lia)]at h3;have h3:c%p = -(b*r[i]'s!"")%p:=h3;rw[h3];exact qu_ (Int.dvd_neg.mpr (qD (j4_ hb) (Int.dvd_mul_right _ _)))
 ·rw[jk_.mp hc];exact hb
structure AS where
 p:Int
 L:Nat
 most:Nat
 W:α1
 E:α1
 G:α1
 gs:Option (α0×α2)
 wr:Option (α2)
 es:Bk
inductive Wish where
 | ask (c:α2)
 | shown (t:α0) (l:α2)
 | done (t:α0) (l:α2)
 | spent (c:α2)
noncomputable def Cq (es:Bk)(ws:α1):α1:=(ws.foldl ins []).filter fun c=>(mkO es c).isNone
def GD : c∈Cq es ws↔c∈ws/\mkO es c=none:=by
 unfold Cq;rw[zo_,Kx];simp
def JH (es:Bk)(ws:α1):(Cq es ws).Nodup:=(JG wh_).filter _
open Classical in
noncomputable def facL (p:Int)(ae:α1)(row:α2):α2:=if h:∃am:α2,am.length=ae.length/\(∀y∈am,0<=y/\y<p)/\∀i:Nat,i<row.length->row.getD i 0%p=dotW am (colW ae i)%p then ur h else []
noncomputable def gTab (p:Int)(L:Nat)(W E:α1)(es:Bk):α0:=(oX L).map fun x:Nat=>W.map fun v=>facL p (W.map (gOf E es)) (gOf E es (v++[(x:Int)]))
noncomputable def B8 (W:α1)(es:Bk):α2:=W.map fun v=>(mkO es v).getD 0
noncomputable def Bp (p:Int)(es:Bk)(t:α0)(l:α2):Option (α2):=(es.find? fun e=>decide (W71 p t l e.1≠e.2)).map (·.1)
noncomputable def need (L:Nat)(W E:α1):α1:=W++JC (Es L W) E
noncomputable def Iw (s:AS)(bX e:α2):AS×Option Wish:=if s.W.length=s.most then ({s with wr:=none,E:=s.E++[e]},some (.spent bX)) else ({s with wr:=none,W:=s.W++[bX],E:=s.E++[e],G:=Cq s.es (need s.L (s.W++[bX]) (s.E++[e]))},none)
noncomputable def L5 (s:AS)(t:α0)(v:α2)(lo:Nat):α2:=s.W.getD ((LK s.p s.es s.W t v lo).getD 0) []++[v.getD lo 0]
noncomputable def Gd (s:AS)(v:α2)(t:α0)(l:α2):AS×Option Wish:=if s.W.length=0 then Iw s [] v else match GL s.p s.es s.W t v (W71 s.p t l v) v.length 0 v.length with
 |.ask aQ=>({s with G:=Cq s.es (s.W.map (· ++ v.drop aQ))},none)
 |.fin lo=>Iw s (L5 s t v lo) (v.drop (lo+1))
noncomputable def Jp (s:AS):AS×Option Wish:=match Bp s.p s.es (gTab s.p s.L s.W s.E s.es) (B8 s.W s.es) with
 |none=>({s with gs:=some (gTab s.p s.L s.W s.E s.es,B8 s.W s.es),wr:=none},some (.shown (gTab s.p s.L s.W s.E s.es) (B8 s.W s.es)))
 |some v=>({s with gs:=some (gTab s.p s.L s.W s.E s.es,B8 s.W s.es),wr:=some v},none)
noncomputable def Cv (s:AS):AS×Option Wish:=match s.G with
 |c::r=>({s with G:=r},some (.ask c))
 |[]=>match s.wr with
  |some v=>match s.gs with
   |some (t,l)=>Gd s v t l
   |none=>(s,none)
  |none=>Jp s
structure OkX (x:Option (α2))(B:Nat)(s:AS):Prop where
 tb:Tb s.p s.L s.most s.W s.E s.es
 b12:12<=B
 cov:s.wr=none->∀c∈need s.L s.W s.E,(∃m,mkO s.es c=some m)\/c∈s.G\/x=some c
 gn:s.G.Nodup
 gW:∀c∈s.G,isW s.L c=true/\mkO s.es c=none/\c.length<=B+(s.most+1)*s.E.length+(if s.wr.isSome then s.most else 0)
 le:∀e∈s.E,e.length+(s.most+1)<=B+(s.most+1)*s.E.length
 lb:∀q∈s.es,q.1.length<=B+(s.most+1)*s.E.length+(if s.wr.isSome then s.most else 0)
 wr:∀v,s.wr=some v->isW s.L v=true/\v.length<=B+(s.most+1)*s.E.length/\∃t l q,s.gs=some (t,l)/\GuessOk s.p s.L s.W s.E s.es t l/\mkO s.es v=some q/\q≠W71 s.p t l v
noncomputable def Full (L:Nat)(W E:α1)(es:Bk):Prop:=∀c∈need L W E,∃m,mkO es c=some m
def OkX.full {B:Nat} (o:OkX none B s)(h:s.G=[])(hw:s.wr=none):Full s.L s.W s.E s.es:=fun c hc=>by
 rcases o.cov hw c hc with z|z|z
 ·exact z
 ·rw[h]at z;cases z
 ·cases z
def Tb.fac (tb:Tb p L most W E es) (hr:row.length=W.length):(facL p (W.map (gOf E es)) row).length=W.length/\(∀y∈facL p (W.map (gOf E es)) row,0<=y/\y<p)/\∀i:Nat,i<W.length->row.getD i 0%p=dotW (facL p (W.map (gOf E es)) row) (colW (W.map (gOf E es)) i)%p:=by
 have p2:=tb.pr.1;have cz:=tb.ind.all tb.pr (fun r h=>by obtain⟨v,_,rfl⟩:=jv_.mp h;rw[Jo,tb.sq]) (by rw[jb_]) hr;obtain⟨cs,c1,c2⟩:=cz;rw[jb_]at c1;have ex:∃am:α2,am.length=(W.map (gOf E es)).length/\(∀y∈am,0<=y/\y<p)/\∀i:Nat,i<row.length->row.getD i 0%p=dotW am (colW (W.map (gOf E es)) i)%p:=by
  refine⟨cs.map (· % p),by rw[jb_,jb_];exact c1,fun y hy=>?_,fun i hi=>?_⟩
  ·obtain⟨c,_,rfl⟩:=jv_.mp hy;exact⟨jD_ _ s!"",jz_ _ s!""⟩
  ·rw[c2 i s!""];refine cg.dot ?_ (cg.refl _ _);unfold cg;rw[jK_];exact jH_ fun c _=>(jM_ c (qs_ p)).symm
 unfold facL;rw[dif_pos ex];have h:=tj ex;exact⟨h.1.trans (jb_ _),h.2.1,fun i hi=>h.2.2 i s!""⟩
def VO (h:v∈W):v∈need L W E:=qf_ _ h
def VP (h:v∈W)(hx:x<L)(he:e∈E):v++[(x:Int)]++e∈need L W E:=jV_ _ (Li.mpr ⟨_,L4.mpr (.inr ⟨v,h,x,hx,rfl⟩),e,he,rfl⟩)
def Tb.guess (tb:Tb p L most W E es)(f:Full L W E es):GuessOk p L W E es (gTab p L W E es) (B8 W es):=by
 refine⟨by unfold gTab;rw[jb_,jX_],fun t ht=>?_,by unfold B8;rw[jb_],fun i v hv=>?_,fun x i v hx hv=>?_⟩
 ·unfold gTab at ht;obtain⟨x,hx,rfl⟩:=jv_.mp ht;refine⟨by rw[jb_],fun r hr=>?_⟩;obtain⟨v,hv,rfl⟩:=jv_.mp hr;have:=tb.fac (row:=gOf E es (v++[(x:Int)])) (by rw[Jo,tb.sq]);exact⟨this.1,this.2.1⟩
 ·obtain⟨m,hm⟩:=f v (VO (jo_ hv));exact⟨m,by unfold B8;rw[ji_,hv];show some ((mkO es v).getD 0)=_;rw[hm];rfl,hm⟩
 ·refine⟨_,_,by unfold gTab;rw[ji_,xl_ hx];rfl,by rw[ji_,hv];rfl,fun e he=>?_⟩;obtain⟨m,hm⟩:=f _ (VP (jo_ hv) hx he);obtain⟨j,hj⟩:=qq_.mp he;have hjl:=(jg_.mp hj).1;rw[tb.sq]at hjl;have h3:=(tb.fac (row:=gOf E es (v++[(x:Int)])) (by rw[Jo,tb.sq])).2.2 j hjl;rw[VM hj,Iv hj,hm]at h3;exact⟨m,hm,h3⟩
noncomputable def mu (s:AS):Nat:=4*(s.most-s.W.length)+(if s.G ≠ [] then 0 else if s.wr.isSome then 1 else 2)
noncomputable def WOk (B:Nat)(s:AS):Wish->Prop
 |.ask c=>OkX (some c) B s/\mkO s.es c=none/\isW s.L c=true/\c.length<=B+(s.most+1)*s.E.length+(if s.wr.isSome then s.most else 0)/\c∉s.G
 |.shown t l=>OkX none B s/\s.G=[]/\s.wr=none/\s.gs=some (t,l)/\GuessOk s.p s.L s.W s.E s.es t l/\∀q∈s.es,W71 s.p t l q.1=q.2
 |.done t l=>OkX none B s/\s.G=[]/\s.wr=none/\s.gs=some (t,l)/\GuessOk s.p s.L s.W s.E s.es t l/\∀q∈s.es,W71 s.p t l q.1=q.2
 |.spent _=>True
structure Kept (s s':AS):Prop where
 q:s'.p=s.p
 l:s'.L=s.L
 m:s'.most=s.most
 e:s'.es=s.es
def L6 {L:Nat}{v:α2}{x:Nat}(h:isW (L:Int) v=true)(hx:x<L):isW (L:Int) (v++[(x:Int)])=true:=Bn.mpr fun y hy=>by
 rcases jJ_.mp hy with hy|hy
 ·exact Bn.mp h y hy
 ·rw[jk_.mp hy];lia
def NT (ha:isW L a=true)(hb:isW L b=true):isW L (a++b)=true:=Bn.mpr fun x hx=>by
 rcases jJ_.mp hx with hx|hx
 ·exact Bn.mp ha x hx
 ·exact Bn.mp hb x hx
def Jq (ha:isW L a=true)(n:Nat):isW L (a.drop n)=true:=Bn.mpr fun x hx=>Bn.mp ha x (List.mem_of_mem_drop hx)
def WW (tb:Tb p L most W E es){B:Nat}(b12:12<=B)(le:∀e∈E,e.length+(most+1)<=B+(most+1)*E.length) (hc:c∈need L W E):isW L c=true/\c.length<=B+(most+1)*E.length:=by
 have hn:=tb.wn;have hm:=tb.m12;rcases jJ_.mp hc with hc|hc
 ·have:=tb.wW c hc;exact⟨this.1,by lia⟩
 ·obtain⟨r,hr,e,he,rfl⟩:=Li.mp hc;have h2:=le e he;have h1:isW L r=true/\r.length<=W.length:=by
   rcases L4.mp hr with h|⟨a,ha,y,hy,rfl⟩
   ·have:=tb.wW r h;exact⟨this.1,by lia⟩
   ·have:=tb.wW a ha;exact⟨L6 this.1 hy,by rw[js_,jW_];lia⟩
  exact⟨NT h1.1 (tb.eW e he),by rw[js_];lia⟩
def SD {B:Nat} (o:OkX none B s)(hG:s.G=[]) (hv:s.wr=some v) (dJ:e.length<=B+(s.most+1)*s.E.length)(gJ:s.W.length<s.most->Tb s.p s.L s.most (s.W++[bX]) (s.E++[e]) s.es):(∀s',Iw s bX e=(s',none)->OkX none B s'/\Kept s s'/\mu s'<mu s)/\∀s' x,Iw s bX e=(s',some x)->WOk B s' x/\Kept s s':=by
 unfold Iw;by_cases hm:s.W.length=s.most
 ·rw[if_pos hm];refine⟨fun s' z=>(by cases z),fun s' x z=>?_⟩;cases z;exact⟨trivial,⟨rfl,rfl,rfl,rfl⟩⟩
 ·rw[if_neg hm];refine⟨fun s' z=>?_,fun s' x z=>(by cases z)⟩;cases z;have aH:s.W.length<s.most:=by have:=o.tb.wn;lia
  have tb:=gJ aH;have el:(s.E++[e]).length=s.E.length+1:=by simp
  have le':∀u∈s.E++[e],u.length+(s.most+1)<=B+(s.most+1)*(s.E++[e]).length:=fun u hu=>by
   rw[el,sS];rcases jJ_.mp hu with hu|hu
   ·have:=o.le u hu;lia
   ·rw[jk_.mp hu];lia
  refine⟨⟨tb,o.b12,fun _ c hc=>?_,JH _ _,fun c hc=>?_,le',fun q hq=>?_,fun v z=>(by cases z)⟩,⟨rfl,rfl,rfl,rfl⟩,?_⟩
  ·cases h:mkO s.es c with
   |some m=>exact .inl ⟨m,rfl⟩
   |none=>exact .inr (.inl (GD.mpr ⟨hc,h⟩))
  ·obtain⟨h1,h2⟩:=GD.mp hc;have:=WW tb o.b12 le' h1;exact⟨this.1,h2,by show c.length<=_+0;have:=this.2;lia⟩
  ·have:=o.lb q hq;rw[hv]at this;simp only[xu_,xR_]at this;show q.1.length<=B+(s.most+1)*(s.E++[e]).length+0;rw[el,sS];lia
  ·unfold mu;rw[hv,hG];simp only[xu_,xR_,Option.isSome_none,qI_,xm_,ne_eq,not_true_eq_false,js_,jW_];split<;>lia
def NU {p:Int}{L most:Nat}{W E:α1}{es:Bk}{t:α0}{l:α2}(g:GuessOk p L W E es t l):AllT es W []/\nums es W []=l:=by
 refine⟨fun w hw=>?_,?_⟩
 ·obtain⟨i,hi⟩:=qq_.mp hw;obtain⟨m,_,b⟩:=g.lt i w hi;exact⟨m,by rw[xQ_];exact b⟩
 ·refine qR_ fun i=>?_;unfold nums;rw[ji_];by_cases hi:i<W.length
  ·obtain⟨m,a,b⟩:=g.lt i _ (je_ hi);rw[je_ hi,a];show some ((mkO es (W[i]++[])).getD 0)=some m;rw[xQ_,b];rfl
  ·rw[jy_ s!"",jy_ (by rw[g.ll];lia)];rfl
def Uo {B:Nat} (o:OkX none B s)(hG:s.G=[]) (hv:s.wr=some v)(hg:s.gs=some (t,l)):(∀s',Gd s v t l=(s',none)->OkX none B s'/\Kept s s'/\mu s'<mu s)/\∀s' x,Gd s v t l=(s',some x)->WOk B s' x/\Kept s s':=by
 obtain⟨cN,og,t',l',q,e1,g,hq,aG⟩:=o.wr v hv;rw[hg]at e1;cases e1;have tb:=o.tb;have qv:=tb.val hq;unfold Gd;by_cases eY:s.W.length=0
 ·rw[if_pos eY];have hW:s.W=[]:=jN_.mp eY;have hE:s.E=[]:=jN_.mp (by rw[tb.sq];exact eY);have hl:l=[]:=jN_.mp (by rw[g.ll];exact eY);refine SD o hG hv s!"" fun aH=>?_;have bV:q≠0:=fun z=>aG (by rw[z,hl];unfold W71;rw[Bt];rfl);rw[hW,hE];refine⟨tb.pr,tb.p18,tb.l1,tb.l6,tb.m12,rfl,fun u hu=>(ju_ hu).symm,fun u hu=>?_,by show 1<=_;lia,fun e he=>?_,tb.nd,tb.bW,fun e he w hw=>?_,?_⟩
  ·rw[jk_.mp hu];exact⟨Bn.mpr fun x hx=>(by cases hx),by simp⟩
  ·rw[jk_.mp he];exact cN
  ·rw[jk_.mp he,jk_.mp hw];exact⟨q,hq⟩
  ·intro cs eQ aE;have eQ:cs.length=1:=eQ;obtain⟨c,rfl⟩:∃c,cs=[c]:=by
    match cs,eQ with
    |[c],_=>exact⟨c,rfl⟩
   have h:=aE 0 (by simp);rw[Iv (e:=v) (by rfl)]at h;have h:dotW [c] [(mkO s.es ([]++v)).getD 0]%s.p=0:=h;rw[qY_,hq,AU,Bt]at h;have h:(c*q+0)%s.p=0:=h;intro d hd;rw[jk_.mp hd];refine SA tb.pr (a:=q) (by rw[qY]at h;exact h) ?_;rw[j6_ qv.1 qv.2];exact bV
 ·rw[if_neg eY];have gK:s.W ≠ []:=fun z=>eY (by rw[z];rfl);obtain⟨ha,hn⟩:=NU (most:=s.most) g;have kf:dotW (R71 s.p t s.W.length v) l%s.p=W71 s.p t l v:=by unfold W71;rw[g.ll,Be]
  have gL:0<v.length:=by
   refine qN fun z=>?_;have:v=[]:=jN_.mp z;subst this;have aH:0<s.W.length:=by lia
   obtain⟨m,m1,m2⟩:=g.lt 0 _ (je_ aH);rw[tb.w0 _ (je_ aH),hq]at m2;cases m2;refine aG ?_;rw[<-kf];have hu:dotW (R71 s.p t s.W.length []) l=l.getD 0 0:=by
    rw[Be];exact Io _ g.ll
   rw[hu,jc_,m1];show q=q%s.p;rw[j6_ qv.1 qv.2]
  have key:=MY (p:=s.p) (es:=s.es) (W:=s.W) (t:=t) (v:=v) (goal:=W71 s.p t l v) v.length 0 v.length s!"" gL (jh_ _) (.inl ⟨rfl,q,hq,aG⟩) ⟨by rw[q1_];exact ha,by rw[q1_,jF_,hn];exact kf⟩;cases hh:GL s.p s.es s.W t v (W71 s.p t l v) v.length 0 v.length with
  |ask aQ=>
   rw[hh]at key;obtain⟨k1,k2,k3⟩:=key;refine⟨fun s' z=>?_,fun s' x z=>(by cases z)⟩;cases z;have hne2:Cq s.es (s.W.map (· ++ v.drop aQ)) ≠ []:=fun z=>k3 fun w hw=>by
    cases h:mkO s.es (w++v.drop aQ) with
    |some m=>exact⟨m,rfl⟩
    |none=>
     have:w++v.drop aQ∈Cq s.es (s.W.map (· ++ v.drop aQ)):=GD.mpr ⟨jv_.mpr ⟨w,hw,rfl⟩,h⟩;rw[z]at this;cases this
   refine⟨⟨tb,o.b12,fun z=>(by rw[show s.wr=none from z]at hv;cases hv),JH _ _,fun c hc=>?_,o.le,o.lb,o.wr⟩,⟨rfl,rfl,rfl,rfl⟩,?_⟩
   ·obtain⟨h1,h2⟩:=GD.mp hc;obtain⟨w,hw,rfl⟩:=jv_.mp h1;have hww:=tb.wW w hw;have hwn:=tb.wn;refine⟨NT hww.1 (Jq cN _),h2,?_⟩;show (w++v.drop aQ).length<=B+(s.most+1)*s.E.length+(if s.wr.isSome then s.most else 0);rw[hv,js_,qw_];simp only[xu_,xR_];lia
   ·unfold mu;rw[hG];simp only[ne_eq,hne2,not_false_eq_true,xR_,not_true_eq_false,xm_,hv,xu_];lia
  |fin lo=>
   rw[hh]at key;obtain⟨k1,k2,k3⟩:=key;obtain⟨i,x,w,r,tx,m,n1,n2,n3,n4,n5,n6,n7,n8⟩:=VN tb g cN gK k1 k2 k3;have cq:=tb.wW w (jo_ n4);have aU:L5 s t v lo=w++[(x:Int)]:=by
    unfold L5;rw[n1,jc_,jc_,n2];show (s.W[i]?).getD []++_=_;rw[n4];rfl
   obtain⟨x',gX,_,_,lE⟩:=Kz cN k1;rw[n2]at gX;have hxx:x=x':=Int.ofNat.inj (ju_ gX);subst hxx;have iW:mkO s.es (w++[(x:Int)]++v.drop (lo+1))=some m:=by
    rw[wk_,List.singleton_append,<-lE];exact n7
   obtain⟨tx',r',y1,y2,y3⟩:=g.eq x i w n3 n4;rw[n5]at y1;cases y1;rw[n6]at y2;cases y2;have bw:r.length=s.W.length:=((g.tt tx (jo_ n5)).2 r (jo_ n6)).1;dsimp only;rw[aU];refine SD o hG hv (by rw[qw_];lia) fun aH=>?_;refine⟨tb.pr,tb.p18,tb.l1,tb.l6,tb.m12,by simp[tb.sq],fun u hu=>?_,fun u hu=>?_,by simp;lia,fun e he=>?_,tb.nd,tb.bW,fun e he u hu=>?_,Um tb bw k3.1 y3 iW n8⟩
   ·rw[jx_ s!""]at hu;exact tb.w0 u hu
   ·rw[js_,jW_];rcases jJ_.mp hu with hu|hu
    ·have:=tb.wW u hu;exact⟨this.1,by lia⟩
    ·rw[jk_.mp hu];exact⟨L6 cq.1 n3,by rw[js_,jW_];lia⟩
   ·rcases jJ_.mp he with he|he
    ·exact tb.eW e he
    ·rw[jk_.mp he];exact Jq cN _
   ·rcases jJ_.mp he with he|he
    ·rcases jJ_.mp hu with hu|hu
     ·exact tb.tl e he u hu
     ·rw[jk_.mp hu];obtain⟨q,q1,_⟩:=y3 e he;exact⟨q,q1⟩
    ·rw[jk_.mp he];rcases jJ_.mp hu with hu|hu
     ·exact k3.1 u hu
     ·rw[jk_.mp hu];exact⟨m,iW⟩
def WX {B:Nat} (o:OkX none B s)(hG:s.G=[])(hw:s.wr=none):(∀s',Jp s=(s',none)->OkX none B s'/\Kept s s'/\mu s'<mu s)/\∀s' x,Jp s=(s',some x)->WOk B s' x/\Kept s s':=by
 have tb:=o.tb;have full:=o.full hG hw;have g:=tb.guess full;have oh:∀q∈s.es,q.1.length<=B+(s.most+1)*s.E.length:=fun q hq=>by
  have:=o.lb q hq;rw[hw]at this;exact this
 have kg:∀c∈s.G,False:=fun c hc=>by rw[hG]at hc;cases hc
 unfold Jp;cases hf:Bp s.p s.es (gTab s.p s.L s.W s.E s.es) (B8 s.W s.es) with
 |none=>
  refine⟨fun s' z=>(by cases z),fun s' x z=>?_⟩;cases z;refine⟨⟨⟨tb,o.b12,fun _=>o.cov hw,o.gn,fun c hc=>(kg c hc).elim,o.le,fun q hq=>by have:=oh q hq;exact this,fun v z=>(by cases z)⟩,hG,rfl,rfl,g,fun q hq=>?_⟩,⟨rfl,rfl,rfl,rfl⟩⟩;unfold Bp at hf;rw[xM_,xb_]at hf;have:=hf q hq;simpa using this
 |some v=>
  refine⟨fun s' z=>?_,fun s' x z=>(by cases z)⟩;cases z;unfold Bp at hf;cases mG:s.es.find? (fun e=>decide (W71 s.p (gTab s.p s.L s.W s.E s.es) (B8 s.W s.es) e.1≠e.2)) with
  |none=>rw[mG]at hf;cases hf
  |some e=>
   rw[mG]at hf;cases hf;have h1:=x7_ mG;have h2:=qg mG;have h2:W71 s.p (gTab s.p s.L s.W s.E s.es) (B8 s.W s.es) e.1≠e.2:=x0_ h2;refine⟨⟨tb,o.b12,fun z=>(by cases z),o.gn,fun c hc=>(kg c hc).elim,o.le,fun q hq=>by have:=oh q hq;show q.1.length<=B+(s.most+1)*s.E.length+s.most;lia,fun v z=>?_⟩,⟨rfl,rfl,rfl,rfl⟩,?_⟩
   ·cases z;exact⟨(tb.bW e h1).1,oh e h1,_,_,e.2,rfl,g,E5 tb.nd h1,qp_ h2⟩
   ·unfold mu;rw[hG,hw];simp
def OU {B:Nat} (o:OkX none B s):(∀s',Cv s=(s',none)->OkX none B s'/\Kept s s'/\mu s'<mu s)/\∀s' x,Cv s=(s',some x)->WOk B s' x/\Kept s s':=by
 unfold Cv;cases hG:s.G with
 |cons c r=>
  refine⟨fun s' z=>(by cases z),fun s' x z=>?_⟩;cases z;have gn:=o.gn;rw[hG,q9_]at gn;have hc:=o.gW c (by rw[hG];exact jA_ ..);refine⟨⟨⟨o.tb,o.b12,fun hw b hb=>?_,gn.2,fun b hb=>o.gW b (by rw[hG];exact jq_ _ hb),o.le,o.lb,o.wr⟩,hc.2.1,hc.1,hc.2.2,gn.1⟩,⟨rfl,rfl,rfl,rfl⟩⟩;rcases o.cov hw b hb with z|z|z
  ·exact .inl z
  ·rw[hG]at z;rcases jE_.mp z with rfl|z
   ·exact .inr (.inr rfl)
   ·exact .inr (.inl z)
  ·cases z
 |nil=>
  cases hw:s.wr with
  |none=>exact WX o hG hw
  |some v=>
   obtain⟨_,_,t,l,q,e1,_⟩:=o.wr v hw;rw[e1];exact Uo o hG hw e1
def OkX.told {B:Nat} (o:OkX y B s) (hy:∀b,y=some b->b=c)(hn:c∉s.es.map (·.1))(hc:isW s.L c=true)(h0:0<=m)(h9:m<s.p)(hl:c.length<=B+(s.most+1)*s.E.length+(if s.wr.isSome then s.most else 0))(hg:c∉s.G):OkX none B {s with es:=s.es++[(c,m)]}:=by
 have gr:=Grow.snoc s.es c m;have gJ:=o.tb.put hn hc h0 h9;refine⟨gJ,o.b12,fun hw b hb=>?_,o.gn,fun b hb=>?_,o.le,fun q hq=>?_,fun v hv=>?_⟩
 ·rcases o.cov hw b hb with ⟨z,hz⟩|z|z
  ·exact .inl ⟨z,gr _ _ hz⟩
  ·exact .inr (.inl z)
  ·have:=hy b z;subst this;exact .inl ⟨m,E5 gJ.nd (by simp)⟩
 ·obtain⟨h1,h2,h3⟩:=o.gW b hb;refine⟨h1,Iu fun z=>?_,h3⟩;have z:b∈(s.es++[(c,m)]).map (·.1):=z;rw[jm_]at z;rcases jJ_.mp z with z|z
  ·obtain⟨n,bS⟩:=OS.mp z;rw[h2]at bS;cases bS
  ·rw[jk_.mp z]at hb;exact hg hb
 ·rcases jJ_.mp hq with hq|hq
  ·exact o.lb q hq
  ·rw[jk_.mp hq];exact hl
 ·obtain⟨h3,h4,t,l,q,h5,h6,h7,h8⟩:=o.wr v hv;exact⟨h3,h4,t,l,q,h5,h6.mono o.tb gr,gr _ _ h7,h8⟩
noncomputable def WY (K:α3):Sp:=fun vs H Q _=>∃(d t pe:Addr) (es:Bk) (v:α2) (ys:List V) (E:α1),vs=[.ref d,.ref t,.ref pe]/\H d=some (.dT (ents es))/\(es.map (·.1)).Nodup/\H t=some (.tup (v.map V.int))/\SqL K H pe ys/\Ao K H ys E/\v.length<=600/\(∀e∈E,e.length<=600)/\E.length<=100/\(∀e∈E,∃m,mkO es (v++e)=some m)/\∀q H',Same H H'->H' q=some (.tup ((gOf E es v).map V.int))->Q (.ref q) H'
def EB:⋯ EE.j20 1 ["told","word","ends"] (WY K):=by
 delta EE.j20 Jg
 ·obtain⟨d,t,pe,es,v,ys,E,rfl,_⟩:=h;rfl
 ·obtain⟨d,t,pe,es,v,ys,E,rfl,hd,nd,ht,gd,hE,og,f9,hen,aE,k⟩:=h;have hl:=Al;refine⟨_,(Ae (Am (AF AM rfl EE.tuple jO_ (Aa (BP rfl (BO rfl) (cp:=D1) ⟨⟨rfl,rfl⟩,⟨⟨rfl,rfl⟩,oZ⟩⟩ (Br (pvD 2)) (fun _ _ _ _=>(Aq (i:=0) F7 rfl (o9 rfl))) (fun _ _ _ _=>By) (fun _ _ _ _=>(Pb (FG hr) (pvD 1) (Ar (FP (K:=K) rfl) (pvD 2) (pvD 0)) ⟨by rfl,by rfl,by rfl,by rfl⟩))) Ad)))),?_⟩;nofun;refine⟨⟨_,gd⟩,KQ (xs:=ys) (fun i us af H'=>Same H H'/\us=(gOf (E.take i) es v).map V.int/\∃o,af=[o,some (.ref d),some (.ref t)]) ⟨Same.refl _,rfl,none,rfl⟩ (by rw[hE.1];lia) (fun i us af H' hi h'=>⟨h'.1.seq gd,by rw[h'.2.1,jb_];unfold gOf;rw[jb_,jI_];lia⟩) (fun i x us af H' hx h'=>?_) (fun us af H' h' D hD=>?_)⟩
  ·obtain⟨s1,rfl,o,rfl⟩:=h';obtain⟨te,e,b8,rfl,kh⟩:=hE.at hx;have heE:=jo_ b8;have hel':=f9 e heE;obtain⟨m,hm⟩:=aE e heE;have et:E.take (i+1)=E.take i++[e]:=by rw[jU_,b8];rfl
   have dA:valV (ents es) (wkey (v++e))=some (.int m):=Dq nd (MW hm);nofun;refine⟨.inr ⟨_,.inl (s1 _ _ hd)⟩,Cd.ofS (s1 _ _ ht) (s1 _ _ kh) (by simp;lia) fun q H2 s2 hq=>?_⟩;have bH:=s1.trans s2;rw[<-jm_,<-B3]at hq;refine⟨_,DGet.t (bH _ _ hd) hq,bH,?_,_,rfl⟩;rw[dA,et];unfold gOf;rw[jm_,jm_,qh_,hm];rfl
  ·obtain⟨s1,rfl,o,rfl⟩:=h';rw[hE.1,jF_];exact⟨D,rfl,_,.inl ⟨SqL.of Ab,fun q hq=>k q _ ((s1.newT hD).newT hq) Ab⟩⟩
noncomputable def TabT (K:α3)(H:Hp)(us:List V)(t:α0):Prop:=us.length=t.length/\∀(x:Nat) (tb:α1),t[x]?=some tb->∃u zs,us[x]?=some (.ref u)/\H u=some (.tup zs)/\Ao K H zs tb
def TabT.mono {K:α3} (h:TabT K H us t)(k:TK H H'):TabT K H' us t:=⟨h.1,fun x tb hx=>by
 obtain⟨u,zs,a,b,c⟩:=h.2 x tb hx;exact⟨u,zs,a,k _ _ b,c.mono k⟩⟩
def TabT.snoc {K:α3} (h:TabT K H us t)(hu:H u=some (.tup zs))(hz:Ao K H zs tb):TabT K H (us++[.ref u]) (t++[tb]):=⟨by simp[h.1],fun x gJ hx=>by
 by_cases hl:x<t.length
 ·rw[jx_ hl]at hx;obtain⟨q,ws,a,b,c⟩:=h.2 x gJ hx;exact⟨q,ws,by rw[jx_ (by rw[h.1];exact hl)];exact a,b,c⟩
 ·have aH:=(jg_.mp hx).1;rw[js_,jW_]at aH;rw[jB_ s!"",show x-t.length=0 by lia]at hx;cases hx;exact⟨u,zs,by rw[jB_ (by rw[h.1];lia),h.1,show x-t.length=0 by lia];rfl,hu,hz⟩⟩
noncomputable def GuT (K:α3)(H:Hp)(h:Addr)(p L:Int)(t:α0)(l:α2):Prop:=∃tf tt tl us,H h=some (.tup [.int p,.int L,.ref tf,.ref tt,.ref tl])/\H tf=some (.tup ((Bu l.length 0).map V.int))/\H tt=some (.tup us)/\TabT K H us t/\H tl=some (.tup (l.map V.int))
def GuT.mono {K:α3} (x:GuT K H h p L t l)(k:TK H H'):GuT K H' h p L t l:=by
 obtain⟨tf,tt,tl,us,a,b,c,d,e⟩:=x;exact⟨tf,tt,tl,us,k _ _ a,k _ _ b,k _ _ c,d.mono k,k _ _ e⟩
def Ao.rowsN {K:α3} (h:Ao K H zs ws):FA K H zs ws:=⟨h.1,fun i r hr=>by
 obtain⟨t,a,b⟩:=h.2 i r hr;exact⟨t,a,SqT.of b⟩⟩
def GuT.sum {K:α3} (x:GuT K H h p L t l):SumH K H h p L (Bu l.length 0) t l:=by
 obtain⟨tf,tt,tl,us,a,b,c,d,e⟩:=x;refine⟨tf,tt,tl,SqT.of a,SqT.of b,SqT.of e,us.map (fun v=>match v with | .ref t=>t|_=>0),?_,by rw[jb_];exact d.1,fun i u tb hu ht=>?_⟩
 ·have e:(us.map (fun v=>match v with | .ref t=>t|_=>0)).map V.ref=us:=by
   rw[jK_];refine qR_ fun i=>?_;rw[ji_];by_cases hi:i<t.length
   ·obtain⟨u,zs,a,_⟩:=d.2 i t[i] (by simp[hi]);rw[a];rfl
   ·rw[jy_ (by rw[d.1];lia)];rfl
  rw[e];exact SqT.of c
 ·obtain⟨u',zs,a,b,c⟩:=d.2 i tb ht;rw[ji_,a]at hu;cases hu;exact⟨zs,SqT.of b,Ao.rowsN c⟩
noncomputable def WZ (K:α3):Sp:=fun vs H Q _=>∃(p:Int) (L most:Nat) (pw pe d:Addr) (zs ys:List V) (W E:α1) (es:Bk),vs=[.int p,.int L,.ref pw,.ref pe,.ref d]/\SqL K H pw zs/\Ao K H zs W/\SqL K H pe ys/\Ao K H ys E/\H d=some (.dT (ents es))/\Tb p L most W E es/\Full L W E es/\(∀e∈E,e.length<=500)/\∀h H',Same H H'->GuT K H' h p L (gTab p L W E es) (B8 W es)->Q (.ref h) H'
def NV:⋯ EE.j21 6 ["p","letters","access","ends","told"] (WZ K):=by
 delta EE.j21 BB
 ·obtain⟨p,L,most,pw,pe,d,zs,ys,W,E,es,rfl,_⟩:=h;rfl
 ·obtain⟨p,L,most,pw,pe,d,zs,ys,W,E,es,rfl,eO,hW,gd,hE,hd,tb,full,f9,k⟩:=h;have hl:=Al;have hwn:=tb.wn;have hm12:=tb.m12;have oi:=tb.sq;have hl6:=tb.l6;have bU:∀v∈W,v.length<=12:=fun v hv=>by have:=(tb.wW v hv).2;lia
  refine⟨_,(Ac (Ak (i:=5) BB.nd (AK (lenD AG) (by rfl) EE.len qy_ (Aa (pvD 2) Ad)))
   (Ac (Ja (i:=6) BB.nd rfl rfl rfl (BO rfl) (cp:=Ib) ⟨⟨rfl,rfl⟩,⟨⟨rfl,rfl⟩,oZ⟩⟩ (Br (pvD 2)) (fun _ _ _ _=>(Aq (i:=0) Kg rfl (o9 rfl))) (fun _ _ _ _=>By) (fun _ _ _ _=>(Af (EB EE) hr.d An (Aa (pvD 1) (Aa (pvD 0) (Aa (pvD 2) Ad))))))
   (Ac (Ak (i:=7) BB.nd (Fe Ad))
   (Ac (Bx jL_ rfl (Cf rfl EE.range (Aa (pvD 1) Ad)) (Aq (i:=8) BB.nd rfl (pJ rfl))
   (Ac (Ja (i:=9) BB.nd rfl rfl rfl (BO rfl) (cp:=Ic) ⟨⟨rfl,rfl⟩,⟨⟨rfl,rfl⟩,⟨⟨rfl,rfl⟩,oZ⟩⟩⟩ (Br (pvD 2)) (fun _ _ _ _=>(Aq (i:=0) Kh rfl (o9 rfl))) (fun _ _ _ _=>By) (fun _ _ _ _=>(Af (EB EE) hr.d An (Aa (pvD 1) (Aa (Ar (FP (K:=K) rfl) (pvD 0) (Cg (Aa (pvD 3) Ad))) (Aa (pvD 2) Ad))))))
   (Ae (AB (Nl qv_ qC_ qD_ Dz (pvD 7) (Aa (AF AM rfl EE.tuple jO_ (Aa (BP rfl (BO rfl) (cp:=Ie) oZ (Br (Af (Iq EE) hr.d An (Aa (pvD 0) (Aa (pvD 6) (Aa (pvD 9) (Aa (pvD 5) Ad)))))) (fun _ _ _ _=>(Aq (i:=0) Ki rfl (o9 rfl))) (fun _ _ _ _=>By) (fun _ _ _ _=>(AF (Mw (K:=K) rfl) rfl EE.tuple jO_ (Aa (pvD 0) Ad)))) Ad)) Ad))))))
   (Ac (Ak (i:=10) BB.nd (AF AM rfl EE.tuple jO_ (Aa (BP rfl (BO rfl) (cp:=GR) ⟨⟨rfl,rfl⟩,oZ⟩ (Br (pvD 2)) (fun _ _ _ _=>(Aq (i:=0) Jj rfl (o9 rfl))) (fun _ _ _ _=>By) (fun _ _ _ _=>(Ml (FG hr) (pvD 1) (pvD 0) (fun _ _=>rfl)))) Ad)))
   (Ae (Am (Cg (Aa (pvD 0) (Aa (pvD 1) (Aa (Af (Ss EE) hr.d An (Aa (pvD 5) (Aa Ai Ad))) (Aa (AF AM rfl EE.tuple jO_ (Aa (pvD 7) Ad)) (Aa (pvD 10) Ad))))))))))))),?_⟩
  nofun;refine⟨_,.inl eO,⟨_,eO⟩,?_⟩;have mrow:∀v∈W,gOf E es v∈W.map (gOf E es):=fun v hv=>zc_ hv;refine KQ (xs:=zs) (fun i us af H'=>Same H H'/\Ao K H' us ((W.take i).map (gOf E es))/\∃o,af=[o,some (.ref d),some (.ref pe)]) ⟨Same.refl _,Ao.nil,none,rfl⟩ (by rw[hW.1];lia) (fun i us af H' hi h'=>⟨h'.1.seq eO,by rw[h'.2.1.1,jb_,jI_];lia⟩) (fun i x us af H' hx h'=>?_) (fun us af H1 h' D hD=>?_)
  ·obtain⟨s1,hR,o,rfl⟩:=h';obtain⟨t,v,gb,rfl,ht⟩:=hW.at hx;have cN:=jo_ gb;nofun;refine⟨d,t,pe,es,v,ys,E,rfl,s1 _ _ hd,tb.nd,s1 _ _ ht,s1.seq gd,hE.mono (TK.of s1),by have:=bU v cN;lia,fun e he=>by have:=f9 e he;lia,by lia,fun e he=>tb.tl e he v cN,fun q H2 s2 cw=>⟨s1.trans s2,?_,_,rfl⟩⟩;rw[jU_,gb,jm_];exact (hR.mono (TK.of s2)).snoc cw
  obtain⟨s1,hR,o,rfl⟩:=h';rw[hW.1,jF_]at hR;have om:=s1.newT hD (o:=.lst us);have hR1:=hR.mono (TK.new hD (o:=.lst us));have hDs:upd H1 D (.lst us) D=some (.lst us):=Ab;generalize upd H1 D (.lst us)=H2 at om hR1 hDs ⊢;refine⟨by lia,fun q hq=>⟨by lia,by lia,?_⟩⟩;rw[jw_,hW.1];have s2:=Same.new hq (o:=.lst []);have cw:upd H2 q (.lst []) q=some (.lst []):=Ab;obtain⟨Pv,aq⟩:∃Pv:Nat->St->Hp->Prop,∀i af H',Pv i af H'↔(∃(o1 o2:Option V) (ki:List V),Same H2 H'/\H' q=some (.lst ki)/\TabT K H' ki ((gTab p L W E es).take i)/\af=[some (.int p),some (.int L),some (.ref pw),some (.ref pe),some (.ref d),some (.int W.length),some (.ref D),some (.ref q),o1,o2,none]):=⟨_,fun _ _ _=>qP_⟩;have gl:(gTab p L W E es).length=L:=by unfold gTab;rw[jb_,jX_]
  refine forR Pv ((aq _ _ _).mpr ⟨none,none,[],s2,cw,⟨rfl,fun x tb z=>by simp at z⟩,rfl⟩) (fun x af H' hx h'=>?_) (fun af H' h'=>?_)
  ·obtain⟨o1,o2,ki,s3,lz,hT,rfl⟩:=(aq _ _ _).mp h';rw[xX_];have t3:=om.trans s3;nofun;refine⟨⟨_,t3.seq eO⟩,KQ (xs:=zs) (fun i us af H4=>Same H' H4/\Ao K H4 us ((W.take i).map fun v=>gOf E es (v++[(x:Int)]))/\∃o,af=[o,some (.ref d),some (.ref pe),some (.int x)]) ⟨Same.refl _,Ao.nil,none,rfl⟩ (by rw[hW.1];lia) (fun i us af H4 hi h'=>⟨h'.1.seq (t3.seq eO),by rw[h'.2.1.1,jb_,jI_];lia⟩) (fun i xv dG af H4 dM h'=>?_) (fun dG af H4 h' D2 iV=>?_)⟩
   ·obtain⟨s4,fY,o,rfl⟩:=h';obtain⟨t,v,gb,rfl,ht⟩:=hW.at dM;have cN:=jo_ gb;have t4:=t3.trans s4;nofun;refine⟨by lia,fun p5 mH=>?_⟩;have a5:=Same.new mH (o:=.tup [V.int (x:Int)]);refine Cd.ofS (a5 _ _ (t4 _ _ ht)) Ab (by have:=bU v cN;simp;lia) fun t6 H6 s6 ht6=>?_;have a6:=a5.trans s6;have oq:=t4.trans a6;rw[show [V.int (x:Int)]=[(x:Int)].map V.int from rfl,<-jm_]at ht6;refine⟨d,t6,pe,es,v++[(x:Int)],ys,E,rfl,oq _ _ hd,tb.nd,ht6,oq.seq gd,hE.mono (TK.of oq),by have:=bU v cN;simp;lia,fun e he=>by have:=f9 e he;lia,by lia,fun e he=>full _ (VP cN hx he),fun q7 H7 s7 nS=>⟨s4.trans (a6.trans s7),?_,_,rfl⟩⟩;rw[jU_,gb,jm_];exact (fY.mono (TK.of (a6.trans s7))).snoc nS
   obtain⟨s4,fY,o,rfl⟩:=h';rw[hW.1,jF_]at fY;have a5:=s4.newT iV (o:=.lst dG);have hR5:=fY.mono (TK.new iV (o:=.lst dG));have jB:upd H4 D2 (.lst dG) D2=some (.lst dG):=Ab;generalize upd H4 D2 (.lst dG)=H5 at a5 hR5 jB ⊢;have t5:=s3.trans a5;have bw:∀r∈W.map (gOf E es),r.length=W.length:=fun r hr=>by obtain⟨v,_,rfl⟩:=jv_.mp hr;rw[Jo,oi]
   have nq:∀r∈W.map (fun v=>gOf E es (v++[(x:Int)])),r.length=W.length:=fun r hr=>by obtain⟨v,_,rfl⟩:=jv_.mp hr;rw[Jo,oi]
   have js:=a5 _ _ lz;have hT5:=hT.mono (TK.of a5);refine⟨.inl ⟨rfl,_,SqL.of js⟩,p,false,D,D2,W.length,us,dG,W.map (gOf E es),W.map (fun v=>gOf E es (v++[(x:Int)])),rfl,tb.pr,SqL.of (t5 _ _ hDs),Ao.rowsN (hR1.mono (TK.of t5)),bw,SqL.of jB,Ao.rowsN hR5,nq,by lia,by rw[jb_];lia,by rw[jb_];lia,fun l6 zs6 bs H6 s6 ik hl6' seen told=>?_⟩;refine⟨l6,rfl,⟨_,SqL.of hl6'⟩,KQ (xs:=zs6) (fun i us af H7=>Same H6 H7/\Ao K H7 us ((W.take i).map fun v=>facL p (W.map (gOf E es)) (gOf E es (v++[(x:Int)])))/\∃o,af=[o]) ⟨Same.refl _,Ao.nil,none,rfl⟩ (by rw[told.1,jb_];lia) (fun i us af H7 hi h'=>⟨h'.1.seq (SqL.of hl6'),by rw[h'.2.1.1,jb_,jI_];lia⟩) (fun i xv gM af H7 dM h'=>?_) (fun gM af H7 h' D7 hD7=>?_)⟩
   ·obtain⟨s7,mI,o,rfl⟩:=h';have hi:i<W.length:=by have:=(jg_.mp dM).1;rw[told.1,jb_]at this;exact this
    have hsi:(W.map (fun v=>gOf E es (v++[(x:Int)])))[i]?=some (gOf E es (W[i]++[(x:Int)])):=by rw[ji_,je_ hi];rfl
    have hrow:(gOf E es (W[i]++[(x:Int)])).length=W.length:=by rw[Jo,oi]
    rcases told.2 i _ hsi with ⟨_,c,hc1,cR⟩|⟨bT,_⟩
    ·rw[dM]at hc1;cases hc1;have f:=tb.fac hrow;have fe:=Yz (by have:=tb.pr.1;lia) bw tb.ind seen hrow (am:=facL p (W.map (gOf E es)) (gOf E es (W[i]++[(x:Int)]))) (by rw[jb_];exact f.1) f.2.1 f.2.2;rw[fe]at cR;nofun;refine⟨_,.inl ⟨SqL.of (s7 _ _ cR),fun l8 hl8=>⟨s7.newT hl8,?_,_,rfl⟩⟩⟩;rw[jU_,je_ hi,jm_];exact (mI.mono (TK.new hl8)).snoc Ab
    ·exact absurd (tb.ind.all tb.pr bw (by rw[jb_]) hrow) bT
   obtain⟨s7,mI,o,rfl⟩:=h';rw[told.1,jb_,jF_]at mI;have a8:=(s6.trans s7).newT hD7 (o:=.lst gM);refine⟨D7,rfl,_,.inl ⟨SqL.of Ab,fun l9 mJ=>?_⟩⟩;have a9:=a8.newT mJ (o:=.tup gM);have ot:=a9 _ _ js;have hR9:=(mI.mono (TK.new hD7 (o:=.lst gM))).mono (TK.new mJ (o:=.tup gM));have hT9:=hT5.mono (TK.of a9);have gf:upd (upd H7 D7 (.lst gM)) l9 (.tup gM) l9=some (.tup gM):=Ab;generalize upd (upd H7 D7 (.lst gM)) l9 (.tup gM)=H9 at a9 ot hR9 hT9 gf ⊢;refine⟨_,ot,by rw[hT.1,jI_];lia,(aq _ _ _).mpr ⟨_,_,_,(t5.trans a9).over hq,Ab,?_,rfl⟩⟩;have e:(gTab p L W E es).take (x+1)=(gTab p L W E es).take x++[W.map fun v=>facL p (W.map (gOf E es)) (gOf E es (v++[(x:Int)]))]:=by
    rw[jU_]
    congr 1
    unfold gTab;rw[ji_,xl_ hx];rfl
   rw[e];exact (hT9.snoc gf hR9).mono (TK.lst ot)
  ·obtain⟨o1,o2,ki,s3,lz,hT,rfl⟩:=(aq _ _ _).mp h';rw[q4_ (by rw[gl];exact jh_ _)]at hT;nofun;have t3:=om.trans s3;refine⟨⟨_,t3.seq eO⟩,KQ (xs:=zs) (fun i us af H4=>Same H' H4/\us=(B8 (W.take i) es).map V.int/\∃o,af=[o,some (.ref d)]) ⟨Same.refl _,rfl,none,rfl⟩ (by rw[hW.1];lia) (fun i us af H4 hi h'=>⟨h'.1.seq (t3.seq eO),by rw[h'.2.1,jb_];unfold B8;rw[jb_,jI_];lia⟩) (fun i xv dG af H4 dM h'=>?_) (fun dG af H4 h' D2 iV=>?_)⟩
   ·obtain⟨s4,rfl,o,rfl⟩:=h';obtain⟨t,v,gb,rfl,ht⟩:=hW.at dM;obtain⟨m,hm⟩:=full v (VO (jo_ gb));have dA:valV (ents es) (wkey v)=some (.int m):=Dq tb.nd (MW hm);have t4:=t3.trans s4;nofun;refine⟨_,by rw[<-dA];exact DGet.t (t4 _ _ hd) (by rw[B3];exact t4 _ _ ht),s4,?_,_,rfl⟩;unfold B8;rw[jU_,gb,jm_,jm_];show _++[V.int m]=_++[V.int ((mkO es v).getD 0)];rw[hm];rfl
   ·obtain⟨s4,rfl,o,rfl⟩:=h';rw[hW.1,jF_];refine⟨D2,rfl,_,.inl ⟨SqL.of Ab,fun l5 ka=>?_⟩⟩;have a5:=(s4.newT iV (o:=.lst ((B8 W es).map V.int))).newT ka (o:=.tup ((B8 W es).map V.int));have hl5':upd (upd H4 D2 (.lst ((B8 W es).map V.int))) l5 (.tup ((B8 W es).map V.int)) l5=some (.tup ((B8 W es).map V.int)):=Ab;generalize upd (upd H4 D2 (.lst ((B8 W es).map V.int))) l5 (.tup ((B8 W es).map V.int))=H5 at a5 hl5' ⊢;refine⟨W.length,0,rfl,by lia,fun q6 H6 s6 ic=>?_⟩;have a6:=a5.trans s6;refine⟨_,.inl ⟨SqL.of (a6 _ _ lz),fun l7 hl7=>⟨by lia,fun h8 hh8=>?_⟩⟩⟩;have a7:=Same.new hl7 (o:=.tup ki);have a8:=Same.new hh8 (o:=.tup [V.int p,V.int (L:Int),V.ref q6,V.ref l7,V.ref l5]);have ll:(B8 W es).length=W.length:=by unfold B8;rw[jb_]
    refine k h8 _ (t3.trans (a6.trans (a7.trans a8))) ⟨q6,l7,l5,ki,Ab,?_,a8 _ _ Ab,hT.mono (TK.of (a6.trans (a7.trans a8))),(a7.trans a8) _ _ (s6 _ _ hl5')⟩;rw[ll];exact (a7.trans a8) _ _ ic
noncomputable def colS (p:Int)(t:α0)(l:α2):α2->α2
 |[]=>l
 |x::u=>(t.getD x.toNat []).map fun r=>dotW r (colS p t l u)%p
def MZ {p:Int}{L n:Nat}{t:α0}{l:α2}(hl:l.length=n)(fj:t.length=L)(ht:∀tb∈t,tb.length=n):∀v:α2,isW L v=true->(colS p t l v).length=n
 |[],_=>hl
 |x::u,hv=>by
  have hx:=Bn.mp hv x (jA_ ..);unfold colS;rw[jb_,jc_,je_ (show x.toNat<t.length by lia)];exact ht _ (jQ_ _)
def PU {p:Int}{L n:Nat}{t:α0}{l:α2}(hl:l.length=n)(fj:t.length=L)(ht:∀tb∈t,tb.length=n/\∀r∈tb,r.length=n):∀(v row:α2),isW L v=true->row.length=n->dotW row (colS p t l v)%p=dotW l (rowS p n t row v)%p
 |[],row,_,_=>by
  show dotW row l%p=dotW l row%p;rw[Be]
 |x::u,row,hv,hr=>by
  have hx:=Bn.mp hv x (jA_ ..);have hu:isW L u=true:=Bn.mpr fun y hy=>Bn.mp hv y (jq_ _ hy);obtain⟨tx,e⟩:∃tx,t.getD x.toNat []=tx:=⟨_,rfl⟩;have hm:tx∈t:=by
   rw[<-e,jc_,je_ (show x.toNat<t.length by lia)];exact jQ_ _
  obtain⟨h1,h2⟩:=ht tx hm;have cl:=MZ (p:=p) hl fj (fun tb h=>(ht tb h).1) u hu;have ih:=PU (p:=p) hl fj ht u (Jm p tx row n) hu (Lg _ _ _ _);show dotW row ((t.getD x.toNat []).map fun r=>dotW r (colS p t l u)%p)%p=dotW l (rowS p n t (MS p n t row x) u)%p;unfold MS;rw[e,<-ih,PR h1 h2 hr cl];refine cg.dot (cg.refl _ _) ?_;unfold cg;rw[jK_,jK_];exact jH_ fun r _=>jM_ _ (qs_ p)
noncomputable def ColD (K:α3)(H:Hp)(p:Int)(t:α0)(l:α2)(kvs:List (List Key×V)):Prop:=∀(w:α2) (x:V),valV kvs (wkey w)=some x->∃c,x=.ref c/\SqT K H c ((colS p t l w).map V.int)
def ColD.mono {K:α3} (h:ColD K H p t l kvs)(k:∀c xs,SqT K H c xs->SqT K H' c xs):ColD K H' p t l kvs:=fun w x hx=>by
 obtain⟨c,a,b⟩:=h w x hx;exact⟨c,a,k _ _ b⟩
noncomputable def Uq (K:α3):Sp:=fun vs H Q _=>∃(h a:Addr) (p:Int) (L n:Nat) (t:α0) (l:α2) (rs:List V) (es:Bk),vs=[.ref h,.ref a]/\SumH K H h p L (Bu n 0) t l/\WfSum p L n (Bu n 0) t l/\(∀tb∈t,∀r∈tb,∀y∈r,0<=y/\y<p)/\SqL K H a rs/\Cp H rs es/\(∀e∈es,isW L e.1=true/\e.1.length<=600)/\es.length<=1000/\∀H',Same H H'->(Bp p es t l=none->Q .non H')/\∀v u,Bp p es t l=some v->H' u=some (.tup (v.map V.int))->Q (.ref u) H'
def GN:⋯ EE.j24 2 ["house","heard"] (Uq K):=by
 delta EE.j24 Az
 ·obtain⟨h,a,p,L,n,t,l,rs,es,rfl,_⟩:=h;rfl
 ·obtain⟨h,a,p,L,n,t,l,rs,es,rfl,hh,wf,bP,ha,hT,ou,f9,k⟩:=h;have hl:=Al;obtain⟨tf,tt,tl,e1,e2,e3,e4⟩:=id hh;refine⟨_,(@Ac _ _ _ _ _ (@TJ _ 2 _ _ _ _ _ _ _ _ (FG hr) Az.nd rfl (o9 rfl) (Cg Ad) (As (ixTD Ay) (pvD 0) Ai) rfl (o9 rfl))
   (Ac (Bx jL_ rfl (Br (pvD 1)) (LP rfl (Bg (Aq (i:=3) Az.nd rfl (o9 rfl)) (Bg (Aq (i:=4) Az.nd rfl (o9 rfl)) FD)))
   (Ac (Ak (i:=5) Az.nd Ai)
   (Ac (Gw jL_ (Xb (Rg (FG hr) (BV Gb (pvD 3) (C4 (pvD 5)) C3) (pvD 2)))
   (Ae (Xj (i:=5) Az.nd rfl (o9 rfl) Ai Xk)))
   (Ac (Bx jL_ rfl (Sf rfl EE.range (Aa (Ar (opD0 Nf) (pvD 5) Ai) (Aa (Lz GP Ai) (Aa (Lz GP Ai) Ad)))) (Aq (i:=6) Az.nd rfl (o9 rfl))
   (Ac (Jw (i:=7) Az.nd rfl (pJ rfl) (Ml (FG hr) (pvD 2) (BV Gb (pvD 3) (C4 (Ar (opD0 Bl) (pvD 6) Ai)) C3) (fun _ _=>rfl)))
   (Ae (FH (FG hr) (pvD 2) (BV Gb (pvD 3) (C4 (pvD 6)) C3) (AF AM rfl EE.tuple jO_ (Aa (BP rfl (BO rfl) (cp:=CZ) ⟨⟨rfl,rfl⟩,⟨⟨rfl,rfl⟩,oZ⟩⟩ (Nb (As (ixTD Ay) (As (ixTD Ay) (pvD 0) Ai) (As (ixTD Ay) (pvD 3) (pvD 6)))) (fun _ _ _ _=>(Aq (i:=0) Ey rfl (o9 rfl))) (fun _ _ _ _=>By) (fun _ _ _ _=>(Af (CN EE) hr.d An (Aa (As (ixTD (FL (K:=K) rfl)) (pvD 2) Ai) (Aa (pvD 0) (Aa (pvD 1) Ad)))))) Ad)) rfl))))
   (Ae (AZ (ptT (Ap (opN Dk) (Af (CN EE) hr.d An (Aa (As (ixTD Ay) (pvD 0) Ai) (Aa (As (ixTD Ay) (pvD 0) Ai) (Aa (Ml (FG hr) (pvD 2) (pvD 3) (fun _ _=>rfl)) Ad)))) (pvD 4) (Av _)))
   (Ae (Am (pvD 3)))
   Au))))))
   (Ae (Am Bw)))),?_⟩
  nofun;have p2:=wf.p2;have p18:=wf.p18;have dl:=wf.dl;refine fun q hq=>⟨by lia,fun e0 oy=>?_⟩;have s1:=(Same.new hq (o:=.dT [])).newT oy (o:=.tup []);have hqe:q≠e0:=fun z=>by rw[<-z,Ab]at oy;cases oy
  have h1q:upd (upd H q (.dT [])) e0 (.tup []) q=some (.dT []):=by rw[Aj hqe,Ab]
  have h1e:upd (upd H q (.dT [])) e0 (.tup []) e0=some (.tup []):=Ab;generalize upd (upd H q (.dT [])) e0 (.tup [])=H1 at s1 h1q h1e ⊢;refine⟨_,s1.seqT e1,_,rfl,h1q,[],h1e,?_⟩;have offD:∀{Hx:Hp} {kv kv':List (List Key×V)},Hx q=some (.dT kv)->∀c xs,SqT K Hx c xs->SqT K (upd Hx q (.dT kv')) c xs:=fun {Hx kv kv'} hx c xs h=>by
   rcases h with (h|⟨o,h⟩)|h
   ·exact .inl (.inl (by rw[Aj (fun z=>by rw[z,hx]at h;cases h)];exact h))
   ·exact .inl (.inr ⟨o,by rw[Aj (fun z=>by rw[z,hx]at h;cases h)];exact h⟩)
   ·exact .inr h
  have s2:Same H (upd H1 q (.dT [([],V.ref tl)])):=s1.over hq;have h2q:upd H1 q (.dT [([],V.ref tl)]) q=some (.dT [([],V.ref tl)]):=Ab;have cR:ColD K (upd H1 q (.dT [([],V.ref tl)])) p t l [([],V.ref tl)]:=fun w x hx=>by
   by_cases hw:([]:List Key)=wkey w
   ·rw[BX hw]at hx;have:w=[]:=GC (v:=w) (w:=[]) hw.symm;subst this;exact⟨tl,(ju_ hx).symm,s2.seqT e3⟩
   ·rw[BY hw,Tp]at hx;cases hx
  generalize upd H1 q (.dT [([],V.ref tl)])=H2 at s2 h2q cR ⊢;refine⟨⟨_,s2.seq ha⟩,?_⟩;obtain⟨Pv,aq⟩:∃Pv:Nat->St->Hp->Prop,∀i af H',Pv i af H'↔(∃(kvs:List (List Key×V)) (o1 o2 o3 o4 o5:Option V),Same H H'/\H' q=some (.dT kvs)/\ColD K H' p t l kvs/\(valV kvs (wkey [])).isSome=true/\kvs.length<=1+601*i/\(∀j,j<i->∀e,es[j]?=some e->W71 p t l e.1=e.2)/\af=[some (.ref h),some (.ref a),some (.ref q),o1,o2,o3,o4,o5]):=⟨_,fun _ _ _=>qP_⟩;refine forL (xs:=rs) Pv ((aq _ _ _).mpr ⟨_,none,none,none,none,none,s2,h2q,cR,rfl,by simp,fun j hj=>absurd hj (zx_ _),rfl⟩) (fun i af H' _ h'=>by obtain⟨_,_,_,_,_,_,s',_⟩:=(aq _ _ _).mp h';exact s'.seq ha) (fun i xv af H3 dM h'=>?_) (fun af H3 h'=>?_)
  ·obtain⟨kvs,o1,o2,o3,o4,o5,s3,oz,hc3,ip,nX,aE,rfl⟩:=(aq _ _ _).mp h';have hi:i<es.length:=by rw[<-hT.1];exact (jg_.mp dM).1
   have b8:es[i]?=some es[i]:=by simp[hi]
   obtain⟨tr,wt,f1,f2,f3⟩:=hT.2 i _ b8;rw[dM]at f1;cases f1;have hok:=ou _ (jo_ b8);generalize es[i]=e at b8 f2 f3 hok;obtain⟨v,m⟩:=e;have f2:H tr=some (.tup [.ref wt,.int m]):=f2;have f3:H wt=some (.tup (v.map V.int)):=f3;have hok:isW L v=true/\v.length<=600:=hok;nofun;refine⟨_,SqT.of (s3 _ _ f2),rfl,_,_,rfl,_,_,rfl,rfl,?_⟩;obtain⟨Pw,cD⟩:∃Pw:Nat->St->Hp->Prop,∀mm af H',Pw mm af H'↔(∃k:Nat,k<=v.length/\mm=v.length-k/\Same H3 H'/\af=[some (.ref h),some (.ref a),some (.ref q),some (.ref wt),some (.int m),some (.int k),o4,o5]):=⟨_,fun _ _ _=>qP_⟩;refine LV Pw ⟨_,(cD _ _ _).mpr ⟨0,qc_ _,rfl,Same.refl _,rfl⟩⟩ fun mm af H4 h4=>?_;obtain⟨k0,hk0,hmm,s4,rfl⟩:=(cD _ _ _).mp h4;nofun;have t4:=s3.trans s4;refine⟨wt,_,rfl,t4 _ _ f3,fun p5 H5 s5 mH=>?_⟩;rw[CP]at mH;have lF:=s4.trans s5;refine⟨_,DGet.t (lF _ _ oz) (k:=wkey (v.drop k0)) (by rw[B3];exact mH),?_⟩;cases oA:valV kvs (wkey (v.drop k0)) with
   |none=>
    rw[if_pos (by rfl)];have hU:k0<v.length:=by
     refine Nat.lt_of_le_of_ne hk0 fun z=>?_;rw[z,q1_]at oA;rw[oA]at ip;cases ip
    refine⟨fun ai H2=>∃m',m'<mm/\Pw m' ai H2,fun _ _ z=>z,v.length-(k0+1),by lia,(cD _ _ _).mpr ⟨k0+1,by lia,rfl,lF,by push_cast;rfl⟩⟩
   |some xc=>
    rw[if_neg (by simp)];refine⟨by lia,by lia,by lia,by lia,?_⟩;rw[show ((k0:Int)-1 - -1).toNat=k0 by lia];obtain⟨Pd,mK⟩:∃Pd:Nat->St->Hp->Prop,∀j af H',Pd j af H'↔(∃(kv:List (List Key×V)) (o6 o7:Option V),Same H H'/\H' q=some (.dT kv)/\ColD K H' p t l kv/\(valV kv (wkey [])).isSome=true/\(valV kv (wkey (v.drop (k0-j)))).isSome=true/\kv.length<=kvs.length+j/\af=[some (.ref h),some (.ref a),some (.ref q),some (.ref wt),some (.int m),some (.int k0),o6,o7]):=⟨_,fun _ _ _=>qP_⟩;refine YY Pd ((mK _ _ _).mpr ⟨kvs,o4,o5,s3.trans lF,lF _ _ oz,hc3.mono fun c xs hc=>lF.seqT hc,ip,by rw[zj_,oA];rfl,by lia,rfl⟩) (fun j af H6 hj h6=>?_) (fun af H6 h6=>?_)
    ·obtain⟨kv,o6,o7,s6,lG,lH,ik,iq,hkl6,rfl⟩:=(mK _ _ _).mp h6;obtain⟨at_,bz⟩:∃at_:Nat,at_=k0-1-j:=⟨_,rfl⟩;have hatl:at_<v.length:=by lia
     obtain⟨x,hx,mF,lD,lE⟩:=Kz hok.1 hatl;obtain⟨vb,kj⟩:=qe_.mp iq;rw[show k0-j=at_+1 by lia]at kj;obtain⟨c,rfl,i6⟩:=lH _ _ kj;rw[show (k0:Int)-1-(j:Int)=(at_:Int) by lia];nofun;rw[show (at_:Int)+1=((at_+1:Nat):Int) by lia];refine⟨wt,_,rfl,s6 _ _ f3,fun p7 H7 s7 kc=>?_⟩;rw[CP]at kc;have kl:=s6.trans s7;refine⟨_,by rw[<-kj];exact DGet.t (s7 _ _ lG) (k:=wkey (v.drop (at_+1))) (by rw[B3];exact kc),?_⟩;obtain⟨t1,t2,t3⟩:=wf.table (x:=(x:Int)) s!"" s!"";obtain⟨zs,u,xs,z1,z2,z3,z4⟩:=e4.at t1;rw[jw_]at z2 t2 t3 z4;refine⟨_,kl.seqT e1,_,rfl,?_⟩;have ig:t[x]?=some (t.getD x []):=by have:=t1;rwa [jw_]at this
     obtain⟨T,hT⟩:∃T,T=t.getD x []:=⟨_,rfl⟩;rw[<-hT]at ig t2 t3 z4;have oB:T∈t:=jo_ ig;have fj:t.length=L:=by have:=wf.t;lia
     have cl:=MZ (p:=p) (L:=L) wf.l.1 fj (fun tb hb=>(wf.tt tb hb).1) (v.drop (at_+1)) (Jq hok.1 _);obtain⟨cb,hcb⟩:∃cb,cb=colS p t l (v.drop (at_+1)):=⟨_,rfl⟩;rw[<-hcb]at cl i6;refine⟨_,SqT.of (kl _ _ f3),_,EK (by rw[ji_,hx];rfl),tt,rfl,_,_,rfl,kl.seqT z1,_,z2,u,rfl,⟨_,kl.seqT z3⟩,?_⟩;refine Wi (xs:=xs) (fun i us af H8=>Same H7 H8/\us=((T.take i).map fun r=>dotW r cb%p).map V.int/\∃o,af=[o,some (.ref c),some (.ref h)]) ⟨Same.refl _,rfl,none,rfl⟩ (by rw[z4.1];lia) (fun i us af H8 hi h'=>⟨h'.1.seqT (kl.seqT z3),by rw[h'.2.1,jb_,jb_,jI_];lia⟩) (fun i8 xv us af H8 dM h'=>?_) (fun us af H8 h' D8 hD8=>?_)
     ·obtain⟨s8,rfl,o,rfl⟩:=h';have jC:i8<T.length:=by rw[<-z4.1];exact (jg_.mp dM).1
      obtain⟨rt,lI,hrow⟩:=z4.2 i8 T[i8] (by simp[jC]);rw[dM]at lI;cases lI;have jD:T[i8]∈T:=jQ_ jC;have iX:=kl.trans s8;nofun;refine⟨_,iX.seqT e1,_,rfl,p,true,true,rt,c,T[i8],cb,rfl,by lia,iX.seqT hrow,(s7.trans s8).seqT i6,by rw[t3 _ jD,cl],by rw[t3 _ jD];lia,fun y hy=>by have:=bP T oB _ jD y hy;lia,fun H9 s9=>⟨s8.trans s9,?_,_,rfl⟩⟩;rw[jU_,je_ jC,jm_,jm_];rfl
     ·obtain⟨s8,rfl,o,rfl⟩:=h';rw[z4.1,jF_];have ecol:(T.map fun r=>dotW r cb%p)=colS p t l (v.drop at_):=by
       rw[lE,hcb,hT];show _=(t.getD ((x:Int)).toNat []).map _;rw[jw_]
      rw[ecol];refine⟨D8,rfl,_,.inl ⟨SqL.of Ab,fun l9 mJ=>?_⟩⟩;have a9:=(s8.newT hD8 (o:=.lst ((colS p t l (v.drop at_)).map V.int))).newT mJ (o:=.tup ((colS p t l (v.drop at_)).map V.int));have gf:upd (upd H8 D8 (.lst ((colS p t l (v.drop at_)).map V.int))) l9 (.tup ((colS p t l (v.drop at_)).map V.int)) l9=some (.tup ((colS p t l (v.drop at_)).map V.int)):=Ab;generalize upd (upd H8 D8 (.lst ((colS p t l (v.drop at_)).map V.int))) l9 (.tup ((colS p t l (v.drop at_)).map V.int))=H9 at a9 gf ⊢;have s79:=s7.trans a9;refine⟨wt,_,rfl,(s6.trans s79) _ _ f3,fun p10 nU fZ hp10=>?_⟩;rw[CP]at hp10;have jE:=s79.trans fZ;have jF:=jE _ _ lG;refine⟨_,DPut.t jF (k:=wkey (v.drop at_)) (by rw[B3];exact hp10) s!"",(mK _ _ _).mpr ⟨_,_,_,(s6.trans jE).over hq,Ab,fun w xw hw=>?_,?_,?_,?_,rfl⟩⟩
      ·rw[Mj]at hw;split at hw
       ·rename_i hk
        have:w=v.drop at_:=GC hk;subst this;exact⟨l9,(ju_ hw).symm,offD jF _ _ (SqT.of (fZ _ _ gf))⟩
       ·obtain⟨c',a',b'⟩:=lH w xw hw;exact⟨c',a',offD jF _ _ (jE.seqT b')⟩
      ·rw[Mj];split
       ·rfl
       ·exact ik
      ·rw[show k0-(j+1)=at_ by lia,Mj,if_pos rfl];rfl
      ·have:=DA kv (wkey (v.drop at_)) (V.ref l9);lia
    ·obtain⟨kv,o6,o7,s6,lG,lH,ik,iq,hkl6,rfl⟩:=(mK _ _ _).mp h6;rw[q0_,xf_]at iq;obtain⟨vb,kj⟩:=qe_.mp iq;obtain⟨c,rfl,i6⟩:=lH _ _ kj;nofun;refine⟨_,s6.seqT e1,_,rfl,_,s6.seqT e1,_,rfl,_,by rw[<-kj];exact DGet.t lG (by rw[B3];exact s6 _ _ f3),?_⟩;have ul:(Bu n 0).length=n:=by unfold Bu;rw[jb_,jX_]
     have fj:t.length=L:=by have:=wf.t;lia
     have cl:=MZ (p:=p) (L:=L) wf.l.1 fj (fun tb hb=>(wf.tt tb hb).1) v hok.1;refine⟨p,true,true,tf,c,Bu n 0,colS p t l v,rfl,by lia,s6.seqT e2,i6,by rw[ul,cl],by lia,fun y hy=>by have:=wf.f.2 y hy;lia,fun H7 s7=>⟨rfl,?_⟩⟩;have ew:dotW (Bu n 0) (colS p t l v)%p=W71 p t l v:=by
      rw[PU (L:=L) wf.l.1 fj wf.tt v (Bu n 0) hok.1 ul];unfold W71 R71;rw[wf.l.1]
     rw[ew];by_cases iY:W71 p t l v=m
     ·rw[if_neg (by rw[iY];simp)];refine (aq _ _ _).mpr ⟨kv,_,_,_,_,_,s6.trans s7,s7 _ _ lG,lH.mono fun c xs hc=>s7.seqT hc,ik,by lia,fun j hj e' iN=>?_,rfl⟩;by_cases lC:j<i
      ·exact aE j lC e' iN
      ·have ej:j=i:=by lia
       subst ej;rw[b8]at iN;cases iN;exact iY
     ·rw[if_pos (by simp[iY])];refine (k _ (s6.trans s7)).2 v wt ?_ ((s6.trans s7) _ _ f3);unfold Bp;have hf:es.find? (fun e=>decide (W71 p t l e.1≠e.2))=some (v,m):=by
       rw[List.find?_eq_some_iff_getElem];refine⟨qx_ iY,i,hi,(jg_.mp b8).2,fun j hj=>?_⟩;have:=aE j hj es[j] (by simp);simp[this]
      rw[hf];rfl
  ·obtain⟨kvs,o1,o2,o3,o4,o5,s3,oz,hc3,ip,nX,aE,rfl⟩:=(aq _ _ _).mp h';nofun;refine (k _ s3).1 ?_;unfold Bp;rw[xM_,xb_];intro e he;obtain⟨j,hj⟩:=qq_.mp he;have:=aE j (by rw[hT.1];exact (jg_.mp hj).1) e hj;simp[this]
noncomputable def SE (p n:Int):Bool:=decide (0<=n)&&decide (n<p)
noncomputable def Ur:Sp:=fun vs H Q _=>∃p n:Int,vs=[.int p,.int n]/\Q (.bl (SE p n)) H
def NW:⋯ EE.j6 1 ["p","number"] (Ur):=by
 delta EE.j6 NB
 ·obtain⟨p,n,rfl,_⟩:=h;rfl
 ·obtain⟨p,n,rfl,k⟩:=h;refine⟨_,(Ae (Am (O4 Xo QT Ai (pvD 1) (pvD 0)))),?_⟩;nofun;by_cases h0:0<=n
  ·simp only[h0,xR_];simpa [SE,h0] using k
  ·simp only[h0,xm_];simpa [SE,h0] using k
noncomputable def sbf (L:Int)(d:Addr)(pr:Int):List (Str×V):=[("letters",.int L),("marks",.ref d),("p",.int pr)]
def QC (L:Int)(d:Addr)(pr:Int):(sbf L d pr).lookup ("letters" : Str)=some (.int L):=by kernel_rfl
def GF (L:Int)(d:Addr)(pr:Int):(sbf L d pr).lookup ("marks" : Str)=some (.ref d):=by kernel_rfl
def sb_p (L:Int)(d:Addr)(pr:Int):(sbf L d pr).lookup ("p" : Str)=some (.int pr):=by kernel_rfl
def Us (L:Int)(d:Addr)(pr:Int):putF "p" (.int pr) (putF "marks" (.ref d) (putF "letters" (.int L) []))=sbf L d pr:=by kernel_rfl
structure SBookAt (C:Addr)(H:Hp)(b d:Addr)(pr L:Int)(es:List (α2×Int)):Prop where
 ob:∃dx,H b=some (.ins C dx (sbf L d pr))
 dc:H d=some (.dT (ents es))
 nd:(es.map (·.1)).Nodup
def SBookAt.tk {pr L:Int} (h:SBookAt C H p d pr L es)(hp:∀o,H p=some o->H' p=some o)(hd:∀o,H d=some o->H' d=some o):SBookAt C H' p d pr L es:=by
 obtain⟨⟨dx,a⟩,b,c⟩:=h;exact⟨⟨dx,hp _ a⟩,hd _ b,c⟩
def SBookAt.mono {pr L:Int} (h:SBookAt C H p d pr L es)(s:Same H H'):SBookAt C H' p d pr L es:=h.tk (s _) (s _)
noncomputable def Ut (C:Addr):Sp:=fun vs H Q _=>∃(p dx:Addr) (L:Int),vs=[.ref p,.int L]/\H p=some (.ins C dx [])/\∀(d:Addr) (H':Hp),H d=none->H' p=some (.ins C dx (putF "marks" (.ref d) (putF "letters" (.int L) [])))->H' d=some (.dT [])->(∀b o,H b=some o->b≠p->H' b=some o)->Q .non H'
def JI:⋯ EE.j55 1 ["self","letters"] (Ut aj):=by
 delta EE.j55 NG
 ·obtain⟨p,dx,L,rfl,_⟩:=h;rfl
 ·obtain⟨p,dx,L,rfl,hp,k⟩:=h;refine⟨_,(Ac (Cb (pvD 0) (pvD 1) rfl)
   (Ae (Cb (pvD 0) Ko rfl))),?_⟩
  nofun;refine⟨_,_,_,hp,EE.cl_j3,EE.n_SumBook_letters,by decide,fun d hd=>?_⟩;have lJ:d≠p:=fun z=>by rw[z,Ab]at hd;cases hd
  rw[Aj lJ]at hd;refine⟨_,_,_,by rw[Aj (qp_ lJ)];exact Ab,EE.cl_j3,EE.n_SumBook_marks,by simp[putF],?_⟩;refine k d _ hd Ab (by rw[Aj lJ];exact Ab) fun b o hb lK=>?_;rw[Aj lK,Aj (AL hb hd),Aj lK];exact hb
noncomputable def Uu (C:Addr):Sp:=fun vs H Q _=>∃(p dx:Addr) (pr L:Int),vs=[.ref p,.int pr,.int L]/\H p=some (.ins C dx [])/\∀(d:Addr) (H':Hp),H d=none->SBookAt C H' p d pr L []->(∀b o,H b=some o->b≠p->H' b=some o)->Q .non H'
def Ge:⋯ EE.j56 3 ["self","p","letters"] (Uu aj):=by
 delta EE.j56 K7
 ·obtain⟨p,dx,pr,L,rfl,_⟩:=h;rfl
 ·obtain⟨p,dx,pr,L,rfl,hp,k⟩:=h;refine⟨_,(Ac (AB (Wx rfl EE.m_ja EE.j55.m (JI EE).g hr.d (JI EE).b .nil An (Aa (pvD 0) (Aa (pvD 2) Ad))))
   (Ae (Cb (pvD 0) (pvD 1) rfl))),?_⟩
  nofun;refine⟨p,dx,L,rfl,hp,fun d H1 hd h1 h2 h3=>?_⟩;have lJ:d≠p:=fun z=>by rw[z,hp]at hd;cases hd
  refine⟨_,_,_,h1,EE.cl_j3,EE.n_SumBook_p,(by simp[putF];split<;>simp),?_⟩;rw[Us];refine k d _ hd ⟨⟨_,Ab⟩,by rw[Aj lJ];exact h2,by simp⟩ fun b o hb lK=>?_;rw[Aj lK];exact h3 b o hb lK
noncomputable def Uv (C BW BM:Addr):Sp:=fun vs H Q E=>∃(p d t:Addr) (pr L m:Int) (w:α2) (es:List (α2×Int)),vs=[.ref p,.ref t,.int m]/\SBookAt C H p d pr L es/\H t=some (.tup (w.map V.int))/\w.length<=900 /\
 (isW L w=false->∀H',Same H H'->E (.ref BW) none H') /\
 (isW L w=true->¬ (0<=m/\m<pr)->∀H',Same H H'->E (.ref BM) none H') /\
 (isW L w=true->0<=m->m<pr->∀H',Same H H'->Q .non H')
def BZ:CalH P w mg base (CXe P w) EE.j7 3 ["self","word","mark"] (Uv aj au av):=by
 refine HG.okE EE.j7 Kd (fun vs H Q E h=>?_) (fun ao A outer s H vs Q E hr h=>?_)
 ·obtain⟨p,d,t,pr,L,m,wd,es,rfl,_⟩:=h;rfl
 ·obtain⟨p,d,t,pr,L,m,wd,es,rfl,B,ht,bU,kW,kM,k⟩:=h;have ie:=Al;refine⟨_,(Ac (AB (Af (Ik EE) hr.d (Jb fun _ _ _ h=>h) (Aa (Ax (pvD 0) rfl) (Aa (pvD 1) Ad))))
   (Ae (AZ (O1 (ptB (FC (Af (NW EE) hr.d An (Aa (Ax (pvD 0) rfl) (Aa (pvD 2) Ad))))))
   (Ae (Gz EE.m_j6 EE.x_j6 rfl rfl (Aa AA Ad)))
   Au))),?_⟩
  obtain⟨⟨dx,hp⟩,hd,nd⟩:=id B;nofun;refine⟨_,_,_,hp,EE.cl_j3,EE.n_SumBook_letters,_,QC _ _ _,?_⟩;refine⟨L,t,wd,rfl,SqT.of ht,by lia,fun hw H1 s1=>?_,fun hw H1 s1=>kW hw H1 s1⟩;nofun;refine⟨_,_,_,s1 _ _ hp,EE.cl_j3,EE.n_SumBook_p,_,sb_p _ _ _,pr,m,rfl,_,rfl,?_⟩;by_cases h0:0<=m/\m<pr
  ·rw[if_neg (by simp[SE,h0.1,h0.2])];exact k hw h0.1 h0.2 H1 s1
  ·rw[if_pos (by simp only[SE,wn_,Bool.and_eq_false_iff,zA_];lia)];exact⟨by lia,kM hw h0 H1 s1⟩
noncomputable def putE (es:List (α2×Int))(v:α2)(m:Int):List (α2×Int):=if v∈es.map (·.1) then es else es++[(v,m)]
def QD (nd:(es.map (·.1)).Nodup)(h:(v,m)∈es):putK (ents es) (wkey v) (.int m)=ents es:=by
 unfold putK;rw[Dm,Dq nd h,if_pos (by simp)];unfold ents;rw[jK_];refine jH_ fun e he=>?_;show (if wkey e.1=wkey v then (wkey e.1,V.int m) else (wkey e.1,V.int e.2))=(wkey e.1,V.int e.2);split
 ·rename_i z
  have e1:e.1=v:=GC z;have h1:=Dq nd (show (e.1,e.2)∈es from he);rw[e1,Dq nd h]at h1;rw[ju_ h1]
 ·rfl
noncomputable def Uw (C BW BM CO:Addr):Sp:=fun vs H Q E=>∃(p d t:Addr) (pr L m:Int) (w:α2) (es:List (α2×Int)),vs=[.ref p,.ref t,.int m]/\SBookAt C H p d pr L es/\H t=some (.tup (w.map V.int))/\w.length<=900/\es.length<=100000 /\
 (isW L w=false->∀H',Same H H'->E (.ref BW) none H') /\
 (isW L w=true->¬ (0<=m/\m<pr)->∀H',Same H H'->E (.ref BM) none H') /\
 (isW L w=true->0<=m->m<pr->∀n,(w,n)∈es->n≠m->∀H',Same H H'->E (.ref CO) none H') /\
 (isW L w=true->0<=m->m<pr->(∀n,(w,n)∈es->n=m)->∀H',SBookAt C H' p d pr L (putE es w m)->(∀b o,H b=some o->b≠d->H' b=some o)->Q .non H')
def E6:CalH P w mg base (CXe P w) EE.j8 4 ["self","word","mark"] (Uw aj au av ax):=by
 refine HG.okE EE.j8 OI (fun vs H Q E h=>?_) (fun ao A outer s H vs Q E hr h=>?_)
 ·obtain⟨p,d,t,pr,L,m,w,es,rfl,_⟩:=h;rfl
 ·obtain⟨p,d,t,pr,L,m,wd,es,rfl,B,ht,bU,hl,kW,kM,kC,k⟩:=h;have ie:=Al;refine⟨_,(Ac (AB (Bh (pvD 0) EE.cl_j3 EE.j7.m (BZ EE).g hr.d (BZ EE).b .nil (Jb fun _ _ _ h=>h) (Aa (pvD 1) (Aa (pvD 2) Ad))))
   (Ac (AZ (ptT (Ap (opN Dk) (Ts (FG hr) (Ax (pvD 0) rfl) (pvD 1) (pvD 2) ⟨by rfl,by rfl,by rfl,by rfl⟩) (pvD 2) (Av _)))
   (Ae (Gz EE.m_j1 EE.x_j1 rfl rfl (Aa AA Ad)))
   Au)
   (Ae (FH (FG hr) (Ax (pvD 0) rfl) (pvD 1) (pvD 2) rfl)))),?_⟩
  obtain⟨⟨dx,hp⟩,hd,nd⟩:=id B;nofun;refine⟨_,_,hp,by kernel_rfl,p,d,t,pr,L,m,wd,es,rfl,B,ht,bU,fun hw H1 s1=>kW hw H1 s1,fun hw hm H1 s1=>kM hw hm H1 s1,fun hw h0 h1 H1 s1=>?_⟩;have dh:=s1 _ _ hp;have km:=s1 _ _ hd;have cE:H1 t=some (.tup ((wkey wd).map kV)):=by rw[B3];exact s1 _ _ ht
  have f9:(ents es).length=es.length:=by unfold ents;rw[jb_]
  have hpd:p≠d:=fun z=>by rw[z,km]at dh;cases dh
  have hg:=DGet.t km cE;nofun;by_cases hn:wd∈es.map (·.1)
  ·obtain⟨e,he,rfl⟩:=jv_.mp hn;have hv:=Dq nd (show (e.1,e.2)∈es from he);rw[hv]at hg;refine⟨_,_,_,dh,EE.cl_j3,EE.n_SumBook_marks,_,GF _ _ _,d,rfl,.inr ⟨_,.inl km⟩,_,hg,rfl,?_⟩;by_cases hm:e.2=m
   ·rw[if_neg (by simp[hm])];refine⟨_,_,_,dh,EE.cl_j3,EE.n_SumBook_marks,_,GF _ _ _,d,rfl,_,DPut.t km cE s!"",?_⟩;rw[QD nd (show (e.1,m)∈es from hm ▸ he)];refine k hw h0 h1 (fun n bS=>?_) _ ⟨⟨dx,by rw[Aj hpd];exact dh⟩,by unfold putE;rw[if_pos hn];exact Ab,by unfold putE;rw[if_pos hn];exact nd⟩ fun b o hb oC=>by rw[Aj oC];exact s1 _ _ hb
    have h2:=Dq nd bS;rw[hv]at h2;have h3:=ju_ h2;simp at h3;lia
   ·rw[if_pos (by simp[hm])];exact⟨by lia,kC hw h0 h1 e.2 he hm H1 s1⟩
  ·rw[KZ hn]at hg;refine⟨_,_,_,dh,EE.cl_j3,EE.n_SumBook_marks,_,GF _ _ _,d,rfl,.inr ⟨_,.inl km⟩,_,hg,rfl,?_⟩;rw[if_neg (by simp)];refine⟨_,_,_,dh,EE.cl_j3,EE.n_SumBook_marks,_,GF _ _ _,d,rfl,_,DPut.t km cE s!"",?_⟩;rw[TR hn];refine k hw h0 h1 (fun n bS=>absurd (jv_.mpr ⟨_,bS,rfl⟩) hn) _ ⟨⟨dx,by rw[Aj hpd];exact dh⟩,by unfold putE;rw[if_neg hn];exact Ab,?_⟩ fun b o hb oC=>by rw[Aj oC];exact s1 _ _ hb
   unfold putE;rw[if_neg hn,jm_,zK_];refine⟨nd,by simp,fun a ha b hb z=>?_⟩;rw[qh_,jk_]at hb;exact hn (by have e:a=wd:=z.trans hb;rw[<-e];exact ha)
noncomputable def Ux (C:Addr):Sp:=fun vs H Q _=>∃(p d t:Addr) (pr L:Int) (w:α2) (es:List (α2×Int)),vs=[.ref p,.ref t]/\SBookAt C H p d pr L es/\H t=some (.tup (w.map V.int))/\(w∉es.map (·.1)->Q .non H)/\∀m,(w,m)∈es->Q (.int m) H
def Bm:⋯ EE.j28 1 ["self","word"] (Ux aj):=by
 delta EE.j28 NC
 ·obtain⟨p,d,t,pr,L,wd,es,rfl,_⟩:=h;rfl
 ·obtain⟨p,d,t,pr,L,wd,es,rfl,B,ht,kn,ks⟩:=h;refine⟨_,(Ae (Am (Pb (FG hr) (Ax (pvD 0) rfl) (pvD 1) ⟨by rfl,by rfl,by rfl,by rfl⟩))),?_⟩;obtain⟨⟨dx,hp⟩,hd,nd⟩:=id B;have cE:H t=some (.tup ((wkey wd).map kV)):=by rw[B3];exact ht
  nofun;refine⟨_,_,_,hp,EE.cl_j3,EE.n_SumBook_marks,_,GF _ _ _,d,rfl,.inr ⟨_,.inl hd⟩,_,DGet.t hd cE,?_⟩;by_cases hm:wd∈es.map (·.1)
  ·obtain⟨e,he,rfl⟩:=jv_.mp hm;rw[Dq nd (show (e.1,e.2)∈es from he)];exact ks e.2 he
  ·rw[KZ hm];exact kn hm
noncomputable def Uy (K:α3)(C:Addr):Sp:=fun vs H Q _=>∃(p d:Addr) (pr L:Int) (es:List (α2×Int)),vs=[.ref p]/\SBookAt C H p d pr L es/\∀l rs H',Same H H'->H l=none->H' l=some (.lst rs)->Cp H' rs es->Q (.ref l) H'
def BJ:⋯ EE.j10 1 ["self"] (Uy K aj):=by
 delta EE.j10 MA
 ·obtain⟨p,d,pr,L,es,rfl,_⟩:=h;rfl
 ·obtain⟨p,d,pr,L,es,rfl,B,k⟩:=h;refine⟨_,(Ae (Am (AF (KY rfl) rfl EE.list q5_ (Aa (TQ (Ax (pvD 0) rfl)) Ad)))),?_⟩;obtain⟨⟨dx,hp⟩,hd,nd⟩:=id B;nofun;refine⟨_,_,_,hp,EE.cl_j3,EE.n_SumBook_marks,_,GF _ _ _,d,rfl,_,.inl hd,fun v hv=>?_⟩;have sv:=Same.new (o:=Ox v d) hv;refine⟨d,Ab,_,.inl (sv _ _ hd),fun l rs H2 s2 dk ak hr=>?_⟩;have s3:=sv.trans (s2.newT (o:=.lst rs) dk);refine k l rs _ s3 (Same.none (sv.trans s2) dk) Ab ⟨by rw[ak];unfold ents;rw[jb_],fun i tr hi=>?_⟩;obtain⟨t,e1,b,e2,e3⟩:=hr i (wkey tr.1) (.int tr.2) (by unfold ents;rw[ji_,hi];rfl);rw[B3]at e3;exact⟨t,b,e1,(Same.new dk) _ _ e2,(s2.newT dk) _ _ e3⟩
noncomputable def W0 (K:α3)(CB:Addr):Sp:=fun vs H Q _=>∃(b d pw h t:Addr) (p:Int) (L n:Nat) (es:Bk) (zs:List V) (W:α1) (tb:α0) (l v:α2),vs=[.ref b,.ref pw,.ref h,.ref t]/\SBookAt CB H b d p L es/\H pw=some (.lst zs)/\Ao K H zs W/\W.length=n/\n<=100/\(∀u∈W,u.length<=50)/\(∀e∈es,0<=e.2/\e.2<p)/\SumH K H h p L (Bu n 0) tb l/\WfSum p L n (Bu n 0) tb l/\(∀y∈l,0<=y/\y<p)/\H t=some (.tup (v.map V.int))/\isW L v=true/\0<v.length/\v.length<=600/\∀H',Same H H'->(∀aQ a ts t',GL p es W tb v (W71 p tb l v) v.length 0 v.length=.ask aQ->H' a=some (.lst ts)->Ao K H' ts (W.map (· ++ v.drop aQ))->H' t'=some (.tup [.str "ask",.ref a])->Q (.ref t') H')/\(∀lo t',GL p es W tb v (W71 p tb l v) v.length 0 v.length=.fin lo->H' t'=some (.tup [.str "place",.int (lo:Nat)])->Q (.ref t') H')
def LL:⋯ EE.j33 5 ["book","access","guess","word"] (W0 K aj):=by
 delta EE.j33 AO
 ·obtain⟨b,d,pw,h,t,p,L,n,es,zs,W',tb,l,v,rfl,_⟩:=h;rfl
 ·obtain⟨b,d,pw,h,t,p,L,n,es,zs,W',tb,l,v,rfl,bk,eO,hW,gK,hn,fk,bP,hh,wf,hZ,ht,hv,gL,hz,k⟩:=h;have hl:=Al;refine⟨_,(Ac (Ak (i:=4) AO.nd (Af (Ir EE) hr.d (Jc (P:=P) (w:=w)) (Aa (pvD 2) (Aa (pvD 3) Ad))))
   (Ac (Ak (i:=5) AO.nd (Af (CN EE) hr.d An (Aa (Ax (pvD 0) rfl) (Aa (As (ixTD Ay) (pvD 2) Ai) (Aa (As (ixLD FF) (pvD 4) (Lz GP Ai)) Ad)))))
   (Ac (Ak (i:=6) AO.nd Ai)
   (Ac (Ak (i:=7) AO.nd (AK (lenD AG) (by rfl) EE.len qy_ (Aa (pvD 3) Ad)))
   (Ac (Gw jL_ (ptT (Ap (opD0 V0) (Ar (opD0 Nf) (pvD 7) (pvD 6)) Ai (Av _)))
   (Ac (Jw (i:=8) AO.nd rfl (pJ rfl) (Ar (opD IX) (Ar (opD0 Bl) (pvD 6) (pvD 7)) Ai))
   (Ac (Ja (i:=9) AO.nd rfl rfl rfl (BO rfl) (cp:=F8) ⟨⟨rfl,rfl⟩,⟨⟨rfl,rfl⟩,oZ⟩⟩ (Br (pvD 1)) (fun _ _ _ _=>(Aq (i:=0) Ig rfl (o9 rfl))) (fun _ _ _ _=>By) (fun _ _ _ _=>(Ar (FP (K:=K) rfl) (pvD 0) (BV (PQ (K:=K) rfl) (pvD 1) (C4 (pvD 2)) C3))))
   (Ac (Ja (i:=10) AO.nd rfl rfl rfl (BO rfl) (cp:=F9) ⟨⟨rfl,rfl⟩,oZ⟩ (Br (pvD 9)) (fun _ _ _ _=>(Aq (i:=0) Ih rfl (o9 rfl))) (fun _ _ _ _=>By) (fun _ _ _ _=>(Bh (pvD 1) EE.cl_j3 EE.j28.m (Bm EE).g hr.d (Bm EE).b .nil An (Aa (pvD 0) Ad))))
   (Ac (AZ (ptT (Ap Q7 Bw (pvD 10) rfl))
   (Ae (Am (Cg (Aa AA (Aa (pvD 9) Ad)))))
   Au)
   (Ae (AZ (ptT (Ap (opE GG) (Af (CN EE) hr.d An (Aa (Ax (pvD 0) rfl) (Aa (As (ixLD FF) (pvD 4) (pvD 8)) (Aa (pvD 10) Ad)))) (pvD 5) (Av _)))
   (Ae (Ak (i:=7) AO.nd (pvD 8)))
   (Ae (Ak (i:=6) AO.nd (pvD 8))))))))))
   (Ae (Am (Cg (Aa AA (Aa (pvD 6) Ad)))))))))),?_⟩
  obtain⟨⟨gh,hb⟩,hd,nd⟩:=id bk;have p2:=wf.p2;have dl:n<=16:=wf.dl;nofun;refine⟨h,t,p,L,n,_,l,v,tb,rfl,hh,wf,SqT.of ht,hz,fun _ q xs H1 s1 hq oE=>?_,fun z=>by rw[hv]at z;cases z⟩;obtain⟨tf,tt,tl,e1,e2,e3,e4⟩:=id hh;obtain⟨r1,r2⟩:=wf.row v;obtain⟨u0,hu0,ir⟩:=oE.2 v.length (jh_ _);have ir:SqT K H1 u0 ((rowS p n tb (Bu n 0) (v.take v.length)).map V.int):=ir;rw[jF_]at ir;have eg:dotW l (rowS p n tb (Bu n 0) v)%p=W71 p tb l v:=by unfold W71 R71;rw[wf.l.1]
  have p18:=wf.p18;have ll:=wf.l.1;refine⟨_,_,_,s1 _ _ hb,EE.cl_j3,EE.n_SumBook_p,_,sb_p _ _ _,_,s1.seqT e1,_,rfl,q,rfl,_,SqL.of hq,_,Oo (v:=V.ref u0) (by rw[oE.1];exact hu0),p,true,true,tl,u0,l,_,rfl,by lia,s1.seqT e3,ir,by rw[r1];exact ll,by lia,(fun x hx=>by have:=hZ x hx;lia),fun H2 s2=>?_⟩;have t2:=s1.trans s2;rw[eg];refine⟨_,.inr (SqT.of (t2 _ _ ht)),?_⟩;rw[jb_];obtain⟨goal,dF⟩:∃g,g=W71 p tb l v:=⟨_,rfl⟩;rw[<-dF]at k ⊢;obtain⟨Pv,aq⟩:∃Pv:Nat->St->Hp->Prop,∀m af H',Pv m af H'↔(∃(lo hi:Nat) (f:Nat) (o1 o2 o3:Option V),Same H2 H'/\m=hi-lo/\hi-lo<=f+1/\lo<hi/\hi<=v.length/\GL p es W' tb v goal v.length 0 v.length=GL p es W' tb v goal f lo hi/\af=[some (.ref b),some (.ref pw),some (.ref h),some (.ref t),some (.ref q),some (.int goal),some (.int lo),some (.int hi),o1,o2,o3]):=⟨_,fun _ _ _=>qP_⟩;refine LV Pv ⟨v.length,(aq _ _ _).mpr ⟨0,v.length,v.length,none,none,none,Same.refl _,by lia,by lia,by lia,by lia,rfl,rfl⟩⟩ fun m af H' h'=>?_;obtain⟨lo,hi,f,o1,o2,o3,s',hm,hf,gy,hhi,e,rfl⟩:=(aq _ _ _).mp h';have t3:=t2.trans s';nofun;by_cases hg:hi-lo > 1
  ·rw[if_pos s!""];refine⟨fun ai H2=>∃m',m'<m/\Pv m' ai H2,fun _ _ z=>z,?_⟩;have em:((lo:Int)+(hi:Int)) / 2=(((lo+hi) / 2:Nat):Int):=by lia
   simp only[em];obtain⟨aQ,hmid⟩:∃aQ,aQ=(lo+hi) / 2:=⟨_,rfl⟩;rw[<-hmid];have d9:=SqL.of (K:=K) (t3 _ _ eO);refine⟨by show CDiv _ _;unfold CDiv;lia,⟨_,d9⟩,KQ (xs:=zs) (fun i us af H4=>Same H' H4/\Ao K H4 us ((W'.take i).map (· ++ v.drop aQ))/\∃o,af=[o,some (.ref t),some (.int aQ)]) ⟨Same.refl _,Ao.nil,none,rfl⟩ (by rw[hW.1];lia) (fun i us af H4 hi h'=>⟨h'.1.seq d9,by rw[h'.2.1.1,jb_,jI_];lia⟩) (fun i xv us af H4 dM h'=>?_) (fun us af H4 h' D hD=>?_)⟩
   ·obtain⟨s4,iu,o,rfl⟩:=h';obtain⟨tw,w,cq,rfl,dH⟩:=hW.at dM;have bU:=fk w (jo_ cq);have ew:W'.take (i+1)=W'.take i++[w]:=by rw[jU_,cq];rfl
    have t4:=t3.trans s4;nofun;refine⟨t,_,rfl,t4 _ _ ht,fun x5 H5 s5 iZ=>?_⟩;rw[CP]at iZ;refine Cd.ofS ((t4.trans s5) _ _ dH) iZ (by rw[jb_,jb_,qw_];lia) fun u H6 s6 hu=>?_;rw[<-jm_]at hu;refine⟨s4.trans (s5.trans s6),?_,_,rfl⟩;rw[ew,jm_,qh_];exact (iu.mono (TK.of (s5.trans s6))).snoc hu
   ·obtain⟨s4,iu,o,rfl⟩:=h';rw[hW.1,jF_]at iu;have s5:=s4.newT hD (o:=.lst us);have jB:upd H4 D (HO.lst us) D=some (.lst us):=Ab;have gi:Ao K (upd H4 D (HO.lst us)) us (W'.map (· ++ v.drop aQ)):=iu.mono (TK.of (Same.new hD));generalize upd H4 D (HO.lst us)=H5 at s5 jB gi ⊢;have t5:=t3.trans s5;refine⟨D,rfl,⟨_,SqL.of jB⟩,KQ (xs:=us) (fun i ys af H6=>Same H5 H6/\ys=(W'.take i).map (fun w=>oV (mkO es (w++v.drop aQ)))/\∃o,af=[o,some (.ref b)]) ⟨Same.refl _,rfl,none,rfl⟩ (by rw[gi.1,jb_];lia) (fun i ys af H6 hi h'=>⟨h'.1.seq (SqL.of jB),by rw[h'.2.1,jb_,jI_];lia⟩) (fun i x ys af H6 hx h'=>?_) (fun ys af H6 h' D6 lL=>?_)⟩
    ·obtain⟨s6,rfl,o,rfl⟩:=h';obtain⟨tw,wc,cq,rfl,dH⟩:=gi.at hx;rw[ji_]at cq;obtain⟨w,kX,rfl⟩:=zE_.mp cq;have ew:W'.take (i+1)=W'.take i++[w]:=by rw[jU_,kX];rfl
     have t6:=t5.trans s6;nofun;refine⟨_,_,t6 _ _ hb,by kernel_rfl,b,d,tw,p,L,w++v.drop aQ,es,rfl,bk.mono t6,s6 _ _ dH,fun hm=>⟨s6,?_,_,rfl⟩,fun m hm=>⟨s6,?_,_,rfl⟩⟩
     ·rw[ew,jm_,qh_,Iu hm];rfl
     ·rw[ew,jm_,qh_,E5 nd hm];rfl
    ·obtain⟨s6,rfl,o,rfl⟩:=h';rw[gi.1,jb_,jF_];have s7:=s6.newT lL (o:=.lst (W'.map (fun w=>oV (mkO es (w++v.drop aQ)))));have h7:upd H6 D6 (.lst (W'.map (fun w=>oV (mkO es (w++v.drop aQ))))) D6=some (.lst (W'.map (fun w=>oV (mkO es (w++v.drop aQ))))):=Ab;generalize upd H6 D6 (.lst (W'.map (fun w=>oV (mkO es (w++v.drop aQ)))))=H7 at s7 h7 ⊢;have t7:=t5.trans s7;obtain⟨f',rfl⟩:∃f',f=f'+1:=⟨f-1,by lia⟩;have e2:GL p es W' tb v goal (f'+1) lo hi=if allB es W' (v.drop aQ)=true then (if dotW (R71 p tb W'.length (v.take aQ)) (nums es W' (v.drop aQ))%p=goal then GL p es W' tb v goal f' lo aQ else GL p es W' tb v goal f' aQ hi) else .ask aQ:=by
      conv=>lhs;unfold GL
      rw[if_pos hg,<-hmid]
     rw[e2]at e;refine⟨D6,rfl,_,.inl (SqL.of h7),rfl,?_,?_⟩
     ·rw[sP,qZ_];intro w _;show Ft (oV (mkO es (w++v.drop aQ)))=true;cases mkO es (w++v.drop aQ)<;>rfl
     by_cases ha:allB es W' (v.drop aQ)=true
     ·rw[if_pos ha]at e;have en:(W'.map (fun w=>oV (mkO es (w++v.drop aQ))))=(nums es W' (v.drop aQ)).map V.int:=by
       unfold nums;rw[jK_];refine jH_ fun w hw=>?_;obtain⟨m',iW⟩:=Ky.mp ha w hw;show oV (mkO es (w++v.drop aQ))=V.int ((mkO es (w++v.drop aQ)).getD 0);rw[iW];rfl
      rw[en]at h7 ⊢;rw[if_neg (by rw[WK];simp)];obtain⟨um,hum,jG⟩:=oE.2 aQ s!"";have jG:SqT K H1 um ((rowS p n tb (Bu n 0) (v.take aQ)).map V.int):=jG;obtain⟨q1,q2⟩:=wf.row (v.take aQ);have s27:=s2.trans (s'.trans (s5.trans s7));refine⟨_,_,_,t7 _ _ hb,EE.cl_j3,EE.n_SumBook_p,_,sb_p _ _ _,_,SqL.of (s27 _ _ hq),_,EK hum,p,true,false,um,D6,_,_,rfl,by lia,s27.seqT jG,SqL.of h7,by rw[q1];unfold nums;rw[jb_];exact gK.symm,by lia,(fun x hx=>by have:=q2 x hx;lia),fun H8 s8=>?_⟩;have s28:=s'.trans (s5.trans (s7.trans s8));refine⟨rfl,?_⟩;by_cases jq:dotW (R71 p tb W'.length (v.take aQ)) (nums es W' (v.drop aQ))%p=goal
      ·rw[if_pos jq]at e;rw[if_pos (by rw[<-jq,gK];rfl)];exact⟨_,by lia,(aq _ _ _).mpr ⟨lo,aQ,f',_,_,_,s28,rfl,by lia,by lia,by lia,e,rfl⟩⟩
      ·rw[if_neg jq]at e;rw[if_neg (fun z=>jq (by rw[gK];exact V.int.inj z))];exact⟨_,by lia,(aq _ _ _).mpr ⟨aQ,hi,f',_,_,_,s28,rfl,by lia,by lia,by lia,e,rfl⟩⟩
     ·rw[if_neg ha]at e;rw[if_pos]
      ·exact⟨by lia,fun x hx=>(k _ (t7.newT hx)).1 aQ D us x e (Same.new hx _ _ (s7 _ _ jB)) (gi.mono (TK.of (s7.newT hx))) Ab⟩
      ·have:∃w∈W',mkO es (w++v.drop aQ)=none:=by
        refine qk_ fun z=>ha (Ky.mpr fun w hw=>?_);cases hm:mkO es (w++v.drop aQ) with
        |none=>exact absurd ⟨w,hw,hm⟩ z
        |some m'=>exact⟨m',rfl⟩
       obtain⟨w,hw,hm⟩:=this;unfold inV;rw[sO,za_];refine⟨w,hw,?_⟩;show eqV (oV (mkO es (w++v.drop aQ))) .non=true;rw[hm];rfl
  ·rw[if_neg s!""];refine⟨by lia,fun x hx=>(k _ (t3.newT hx)).2 lo x ?_ Ab⟩;rw[e];cases f with
   |zero=>rfl
   |succ f=>unfold GL;rw[if_neg hg]
noncomputable def W2 (K:α3)(CB:Addr):Sp:=fun vs H Q _=>∃(b d pw h t:Addr) (p:Int) (L n lo:Nat) (es:Bk) (zs:List V) (W:α1) (tb:α0) (l v:α2),vs=[.ref b,.ref pw,.ref h,.ref t,.int lo]/\SBookAt CB H b d p L es/\H pw=some (.lst zs)/\Ao K H zs W/\W.length=n/\(∀u∈W,u.length<=50)/\SumH K H h p L (Bu n 0) tb l/\WfSum p L n (Bu n 0) tb l/\(∀t∈tb,∀r∈t,∀y∈r,0<=y/\y<p)/\H t=some (.tup (v.map V.int))/\isW L v=true/\lo<v.length/\v.length<=600/\AllT es W (v.drop (lo+1))/\∀H',Same H H'->(LK p es W tb v lo=none->Q .non H')/\∀i u,LK p es W tb v lo=some i->H' u=some (.tup ((W.getD i []++[v.getD lo 0]).map V.int))->Q (.ref u) H'
def M0:⋯ EE.j34 2 ["book","access","guess","word","place"] (W2 K aj):=by
 delta EE.j34 Ck
 ·obtain⟨b,d,pw,h,t,p,L,n,lo,es,zs,W',tb,l,v,rfl,_⟩:=h;rfl
 ·obtain⟨b,d,pw,h,t,p,L,n,lo,es,zs,W',tb,l,v,rfl,bk,eO,hW,gK,fk,hh,wf,htin,ht,hv,gy,hz,aE,k⟩:=h;have hl:=Al;refine⟨_,(Ac (Ak (i:=5) Ck.nd (As (ixTD Ay) (As (ixTD Ay) (pvD 2) Ai) (As (ixTD Ay) (pvD 3) (pvD 4))))
   (Ac (Ja (i:=6) Ck.nd rfl rfl rfl (BO rfl) (cp:=GU) ⟨⟨rfl,rfl⟩,⟨⟨rfl,rfl⟩,⟨⟨rfl,rfl⟩,oZ⟩⟩⟩ (Br (pvD 1)) (fun _ _ _ _=>(Aq (i:=0) Jk rfl (o9 rfl))) (fun _ _ _ _=>By) (fun _ _ _ _=>(Bh (pvD 1) EE.cl_j3 EE.j28.m (Bm EE).g hr.d (Bm EE).b .nil An (Aa (Ar (FP (K:=K) rfl) (pvD 0) (BV (PQ (K:=K) rfl) (pvD 2) (C4 (Ar (opD0 Bl) (pvD 3) Ai)) C3)) Ad))))
   (Ac (Bx jL_ rfl (OA rfl EE.zip (Aa (pvD 1) (Aa (pvD 5) Ad))) (LP rfl (Bg (Aq (i:=7) Ck.nd rfl (o9 rfl)) (Bg (Aq (i:=8) Ck.nd rfl (o9 rfl)) FD)))
   (Ae (AZ (ptT (Ap (opN Dk) (Bh (pvD 0) EE.cl_j3 EE.j28.m (Bm EE).g hr.d (Bm EE).b .nil An (Aa (Ar Dn (pvD 7) (BV Gb (pvD 3) (C4 (pvD 4)) C3)) Ad)) (Af (CN EE) hr.d An (Aa (Ax (pvD 0) rfl) (Aa (pvD 8) (Aa (pvD 6) Ad)))) (Av _)))
   (Ae (Am (Ar Dn (pvD 7) (Cg (Aa (As (ixTD Ay) (pvD 3) (pvD 4)) Ad)))))
   Au)))
   (Ae (Am Bw))))),?_⟩
  obtain⟨⟨gh,hb⟩,hd,nd⟩:=id bk;have p2:=wf.p2;have p18:=wf.p18;have dl:n<=16:=wf.dl;obtain⟨tf,tt,tl,e1,e2,e3,e4⟩:=id hh;obtain⟨x,hx,mF,lD,lE⟩:=Kz hv gy;nofun;obtain⟨t1,t2,t3⟩:=wf.table (x:=(x:Int)) s!"" s!"";obtain⟨zt,u,xt,z1,z2,z3,z4⟩:=e4.at t1;rw[jw_]at z2 t2 t3 z4;have ig:tb[x]?=some (tb.getD x []):=by have:=t1;rwa [jw_]at this
  obtain⟨tx,hT⟩:∃tx,tx=tb.getD x []:=⟨_,rfl⟩;rw[<-hT]at ig t2 t3 z4;have oB:tx∈tb:=jo_ ig;have d9:=SqL.of (K:=K) eO;refine⟨_,e1,_,rfl,_,SqT.of ht,_,EK (by rw[ji_,hx];rfl),tt,rfl,_,_,rfl,z1,_,z2,⟨_,d9⟩,KQ (xs:=zs) (fun i ys af H6=>Same H H6/\ys=(nums es (W'.take i) (v.drop (lo+1))).map V.int/\∃o,af=[o,some (.ref b),some (.ref t),some (.int lo)]) ⟨Same.refl _,rfl,none,rfl⟩ (by rw[hW.1];lia) (fun i ys af H6 hi h'=>⟨h'.1.seq d9,by rw[h'.2.1,jb_];unfold nums;rw[jb_,jI_];lia⟩) (fun i xv ys af H6 dM h'=>?_) (fun ys af H6 h' D6 lL=>?_)⟩
  ·obtain⟨s6,rfl,o,rfl⟩:=h';obtain⟨tw,w,cq,rfl,dH⟩:=hW.at dM;have bU:=fk w (jo_ cq);obtain⟨m,hm⟩:=aE w (jo_ cq);have ew:W'.take (i+1)=W'.take i++[w]:=by rw[jU_,cq];rfl
   nofun;refine⟨_,_,s6 _ _ hb,by kernel_rfl,?_⟩;rw[show (lo:Int)+1=((lo+1:Nat):Int) by lia];refine⟨t,_,rfl,s6 _ _ ht,fun x5 H7 s7 iZ=>?_⟩;rw[CP]at iZ;have t7:=s6.trans s7;refine Cd.ofS (t7 _ _ dH) iZ (by rw[jb_,jb_,qw_];lia) fun u H8 s8 hu=>?_;rw[<-jm_]at hu;have t8:=t7.trans s8;refine⟨b,d,u,p,L,w++v.drop (lo+1),es,rfl,bk.mono t8,hu,fun hn=>?_,fun m' iW=>⟨t8,?_,_,rfl⟩⟩
   ·rw[Iu hn]at hm;cases hm
   ·unfold nums;rw[ew,jm_,jm_,qh_,E5 nd iW];rfl
  ·obtain⟨s6,rfl,o,rfl⟩:=h';rw[hW.1,jF_];have s7:=s6.newT lL (o:=.lst ((nums es W' (v.drop (lo+1))).map V.int));have h7:upd H6 D6 (.lst ((nums es W' (v.drop (lo+1))).map V.int)) D6=some (.lst ((nums es W' (v.drop (lo+1))).map V.int)):=Ab;generalize upd H6 D6 (.lst ((nums es W' (v.drop (lo+1))).map V.int))=H7 at s7 h7 ⊢;refine⟨u,rfl,zs,xt,false,s7.seq d9,true,s7.seqT z3,?_⟩;have elen:xt.length=n:=z4.1.trans t2;have zlen:zs.length=n:=hW.1.trans gK;refine YS n s!"" s!"" (.inl zlen) (fun i af H8=>Same H7 H8/\(∀j,j<i->decide (mkO es (W'.getD j []++v.drop lo)≠some (dotW ((tb.getD (v.getD lo 0).toNat []).getD j []) (nums es W' (v.drop (lo+1)))%p))=false)/\∃o1 o2,af=[some (.ref b),some (.ref pw),some (.ref h),some (.ref t),some (.int lo),some (.ref u),some (.ref D6),o1,o2]) ⟨Same.refl _,fun j hj=>absurd hj (zx_ _),none,none,rfl⟩ (fun i af H8 _ h'=>⟨(s7.trans h'.1).seq d9,(s7.trans h'.1).seqT z3⟩) ?_ ?_
   ·intro i u1 v1 af H8 tp hi nW hv1 h' nk;obtain⟨s8,bT,o1,o2,rfl⟩:=h';obtain⟨tw,w,cq,rfl,dH⟩:=hW.at nW;have bU:=fk w (jo_ cq);have jC:i<tx.length:=by lia
    obtain⟨rt,lI,hrow⟩:=z4.2 i tx[i] (by simp[jC]);rw[hv1]at lI;cases lI;have jD:tx[i]∈tx:=jQ_ jC;have eW:W'.getD i []=w:=by rw[jc_,cq];rfl
    have eR:(tb.getD (v.getD lo 0).toNat []).getD i []=tx[i]:=by rw[lD,jw_,<-hT,jc_,je_ jC];rfl
    have s9:=s8.newT nk (o:=.tup [V.ref tw,V.ref rt]);have hp9:upd H8 tp (.tup [V.ref tw,V.ref rt]) tp=some (.tup [V.ref tw,V.ref rt]):=Ab;generalize upd H8 tp (.tup [V.ref tw,V.ref rt])=H9 at s9 hp9 ⊢;have t9:=s7.trans s9;nofun;refine⟨_,SqT.of hp9,rfl,_,_,rfl,_,_,rfl,rfl,?_⟩;refine⟨_,_,t9 _ _ hb,by kernel_rfl,t,_,rfl,t9 _ _ ht,fun x5 Ha sa iZ=>?_⟩;rw[CP]at iZ;have ta:=t9.trans sa;refine Cd.ofS (ta _ _ dH) iZ (by rw[jb_,jb_,qw_];lia) fun uc Hb sb hu=>?_;rw[<-jm_]at hu;have mL:=ta.trans sb;have bw:tx[i].length=(nums es W' (v.drop (lo+1))).length:=by rw[t3 _ jD];unfold nums;rw[jb_];exact gK.symm
    have hrb:∀y∈tx[i],-(2 ^ 64)<y/\y<2 ^ 64:=fun y hy=>by have:=htin tx oB _ jD y hy;lia
    have dZ:tx[i].length<=900:=by rw[t3 _ jD];lia
    have key:∀(o:Option Int),mkO es (w++v.drop lo)=o->∀H2,Same Hb H2->if (!decide (oV o=V.int (dotW tx[i] (nums es W' (v.drop (lo+1)))%p)))=true then ∃xs,SqT K H2 t xs/\∃v,atI xs ↑lo=some v/\1<=sizeLine/\∀(p:Addr),H2 p=none->Cd K (V.ref tw) (V.ref p) (upd H2 p (HO.tup [v])) Q else Same H7 H2/\(∀(j:Nat),j<i+1->decide (mkO es (W'.getD j []++uu lo v)≠some (dotW ((tb.getD (v.getD lo 0).toNat []).getD j []) (nums es W' (uu (lo+1) v))%p))=false)/\∃x,some (V.ref rt)=x:=by
     intro o ho H2 s2;have t2:=mL.trans s2;by_cases hq:o=some (dotW tx[i] (nums es W' (v.drop (lo+1)))%p)
     ·rw[if_neg (by rw[hq];simp[oV])];refine⟨s9.trans (sa.trans (sb.trans s2)),fun j hj=>?_,_,rfl⟩;by_cases lC:j<i
      ·exact bT j lC
      ·have:j=i:=by lia
       subst this;rw[eW,eR,ho,hq];simp
     ·rw[if_pos (by rw[wn_,zA_];intro z;apply hq;cases o with|none=>cases z|some m=>have z:V.int m=V.int _:=z;exact xd_ some (V.int.inj z))];refine⟨_,SqT.of (t2 _ _ ht),_,EK (by rw[ji_,hx];rfl),by lia,fun x3 hx3=>?_⟩;refine Cd.ofS ((t2.newT hx3) _ _ dH) Ab (by rw[jb_];show _+1<=_;lia) fun u2 H3 s3 g8=>?_;refine (k _ ((t2.newT hx3).trans s3)).2 i u2 ?_ ?_
      ·unfold LK;rw[List.find?_range_eq_some];refine⟨?_,qo_.mpr s!"",fun j hj=>by rw[bT j hj];rfl⟩;rw[eW,eR,ho];exact qx_ hq
      ·rw[eW,lD,jm_];exact g8
    refine⟨b,d,uc,p,L,w++v.drop lo,es,rfl,bk.mono mL,hu,fun hn=>?_,fun m hm=>?_⟩
    ·exact⟨_,_,_,mL _ _ hb,EE.cl_j3,EE.n_SumBook_p,_,sb_p _ _ _,p,true,false,rt,D6,_,_,rfl,by lia,(s7.trans (s9.trans (sa.trans sb))).seqT hrow,SqL.of ((s9.trans (sa.trans sb)) _ _ h7),bw,dZ,hrb,fun H2 s2=>⟨rfl,key none (Iu hn) H2 s2⟩⟩
    ·exact⟨_,_,_,mL _ _ hb,EE.cl_j3,EE.n_SumBook_p,_,sb_p _ _ _,p,true,false,rt,D6,_,_,rfl,by lia,(s7.trans (s9.trans (sa.trans sb))).seqT hrow,SqL.of ((s9.trans (sa.trans sb)) _ _ h7),bw,dZ,hrb,fun H2 s2=>⟨rfl,key (some m) (E5 nd hm) H2 s2⟩⟩
   ·intro af H8 h';obtain⟨s8,bT,o1,o2,rfl⟩:=h';refine (k _ (s7.trans s8)).1 ?_;unfold LK;rw[List.find?_range_eq_none];intro j hj;rw[bT j s!""];rfl
noncomputable def afl (pr:Int)(wv:V)(L most:Int)(b pw pe pg:Addr)(gv rv:V):List (Str×V):=[("wish",wv),("letters",.int L),("most",.int most),("book",.ref b),("ways",.ref pw),("ends",.ref pe),("gaps",.ref pg),("guess",gv),("wrong",rv),("p",.int pr)]
section
variable (pr:Int) (wv:V) (L most:Int) (b pw pe pg:Addr) (gv rv y:V)
def HH:(afl pr wv L most b pw pe pg gv rv).lookup ("wish" : Str)=some wv:=by kernel_rfl
def L7:(afl pr wv L most b pw pe pg gv rv).lookup ("letters" : Str)=some (.int L):=by kernel_rfl
def W3:(afl pr wv L most b pw pe pg gv rv).lookup ("most" : Str)=some (.int most):=by kernel_rfl
def E7:(afl pr wv L most b pw pe pg gv rv).lookup ("book" : Str)=some (.ref b):=by kernel_rfl
def E8:(afl pr wv L most b pw pe pg gv rv).lookup ("ways" : Str)=some (.ref pw):=by kernel_rfl
def M3:(afl pr wv L most b pw pe pg gv rv).lookup ("ends" : Str)=some (.ref pe):=by kernel_rfl
def SF:(afl pr wv L most b pw pe pg gv rv).lookup ("gaps" : Str)=some (.ref pg):=by kernel_rfl
def KA:(afl pr wv L most b pw pe pg gv rv).lookup ("guess" : Str)=some gv:=by kernel_rfl
def af_p:(afl pr wv L most b pw pe pg gv rv).lookup ("p" : Str)=some (.int pr):=by kernel_rfl
def KC:(afl pr wv L most b pw pe pg gv rv).lookup ("wrong" : Str)=some rv:=by kernel_rfl
def PV:putF "wish" y (afl pr wv L most b pw pe pg gv rv)=afl pr y L most b pw pe pg gv rv:=by kernel_rfl
def Uz (q:Addr):putF "gaps" (.ref q) (afl pr wv L most b pw pe pg gv rv)=afl pr wv L most b pw pe q gv rv:=by kernel_rfl
def SH:putF "guess" y (afl pr wv L most b pw pe pg gv rv)=afl pr wv L most b pw pe pg y rv:=by kernel_rfl
def Lj:putF "wrong" y (afl pr wv L most b pw pe pg gv rv)=afl pr wv L most b pw pe pg gv y:=by kernel_rfl
def UA:putF "p" (.int pr) (putF "wrong" .non (putF "guess" .non (putF "gaps" (.ref pg) (putF "ends" (.ref pe) (putF "ways" (.ref pw) (putF "book" (.ref b) (putF "most" (.int most) (putF "letters" (.int L) (putF "wish" .non [])))))))))=afl pr .non L most b pw pe pg .non .non:=by kernel_rfl
end
structure AD where
 dx:Addr
 b:Addr
 d:Addr
 pw:Addr
 pe:Addr
 pg:Addr
noncomputable def GV (K:α3)(H:Hp)(p L:Int)(gv:V):Option (α0×α2)->Prop
 |none=>gv=.non
 |some (t,l)=>∃h,gv=.ref h/\GuT K H h p L t l
noncomputable def RV (H:Hp)(rv:V):Option (α2)->Prop
 |none=>rv=.non
 |some v=>∃t,rv=.ref t/\H t=some (.tup (v.map V.int))
def GV.mono {K:α3} (x:GV K H p L gv o)(k:TK H H'):GV K H' p L gv o:=by
 match o,x with
 |none,x=>exact x
 |some (t,l),⟨h,a,b⟩=>exact⟨h,a,b.mono k⟩
def RV.mono (x:RV H rv o)(k:TK H H'):RV H' rv o:=by
 match o,x with
 |none,x=>exact x
 |some v,⟨t,a,b⟩=>exact⟨t,a,k _ _ b⟩
noncomputable def Wish.tag:Wish->Str
 |.ask _ => "ask"
 |.shown _ _ => "show"
 |.done _ _ => "done"
 |.spent _ => "spent"
noncomputable def Y1 (K:α3)(H:Hp)(p L:Int)(u:Addr):Wish->Prop
 |.ask c=>H u=some (.tup (c.map V.int))
 |.shown m ws=>GuT K H u p L m ws
 |.done m ws=>GuT K H u p L m ws
 |.spent c=>H u=some (.tup (c.map V.int))
noncomputable def A7 (K:α3)(H:Hp)(p L:Int)(wv:V)(x:Wish):Prop:=∃t u,wv=.ref t/\H t=some (.tup [.str x.tag,.ref u])/\Y1 K H p L u x
def A7.mono {K:α3} {wv:V} (h:A7 K H p L wv x)(k:TK H H'):A7 K H' p L wv x:=by
 obtain⟨t,u,a,b,c⟩:=h;refine⟨t,u,a,k _ _ b,?_⟩;cases x with
 |ask c'=>exact k _ _ c
 |spent c'=>exact k _ _ c
 |shown m ws=>exact GuT.mono c k
 |done m ws=>exact GuT.mono c k
structure AskAt (K:α3)(CA CB:Addr)(H:Hp)(a:Addr)(ad:AD)(s:AS)(wv gv rv:V)(zs ys us:List V):Prop where
 ob:H a=some (.ins CA ad.dx (afl s.p wv s.L s.most ad.b ad.pw ad.pe ad.pg gv rv))
 bk:SBookAt CB H ad.b ad.d s.p s.L s.es
 w:H ad.pw=some (.lst zs)
 wW:Ao K H zs s.W
 e:H ad.pe=some (.lst ys)
 eW:Ao K H ys s.E
 g:H ad.pg=some (.lst us)
 gW:Ao K H us s.G
 we:ad.pw≠ad.pe
 wg:ad.pw≠ad.pg
 eg:ad.pe≠ad.pg
 gv:GV K H s.p s.L gv s.gs
 rv:RV H rv s.wr
noncomputable def Asks (K:α3)(CA CB:Addr)(H:Hp)(a:Addr)(ad:AD)(s:AS)(wv:V):Prop:=∃gv rv zs ys us,AskAt K CA CB H a ad s wv gv rv zs ys us
noncomputable def Frm (H H':Hp)(a:Addr)(ad:AD):Prop:=(∀x o,H x=some o->x≠a->x≠ad.d->x≠ad.pw->x≠ad.pe->x≠ad.pg->H' x=some o)/\∀x,H' x=none->H x=none
noncomputable def AdOk (H:Hp)(ad aC:AD):Prop:=aC.dx=ad.dx/\aC.b=ad.b/\aC.d=ad.d/\aC.pw=ad.pw/\aC.pe=ad.pe/\(aC.pg=ad.pg\/H aC.pg=none)
def AdOk.refl (H:Hp)(ad:AD):AdOk H ad ad:=⟨rfl,rfl,rfl,rfl,rfl,.inl rfl⟩
def Frm.of (s:Same H H')(a:Addr)(ad:AD):Frm H H' a ad:=⟨fun x o h _ _ _ _ _=>s _ _ h,fun x h=>s.none h⟩
def Frm.trans {H H1 H2:Hp} {ad da:AD}(f:Frm H H1 a ad)(k:AdOk H ad da)(g:Frm H1 H2 a da):Frm H H2 a ad:=by
 obtain⟨k1,k2,k3,k4,k5,k6⟩:=k;refine⟨fun x o h n1 n2 n3 n4 n5=>g.1 x o (f.1 x o h n1 n2 n3 n4 n5) n1 (by rw[k3];exact n2) (by rw[k4];exact n3) (by rw[k5];exact n4) (fun z=>?_),fun x h=>f.2 x (g.2 x h)⟩;rcases k6 with k6|k6
 ·exact n5 (z.trans k6)
 ·rw[z,k6]at h;cases h
def AdOk.trans {H H1:Hp} {ad da cx:AD}(f:Frm H H1 a ad)(k:AdOk H ad da)(g:AdOk H1 da cx):AdOk H ad cx:=by
 obtain⟨k1,k2,k3,k4,k5,k6⟩:=k;obtain⟨g1,g2,g3,g4,g5,g6⟩:=g;refine⟨g1.trans k1,g2.trans k2,g3.trans k3,g4.trans k4,g5.trans k5,?_⟩;rcases g6 with g6|g6
 ·rw[g6];exact k6
 ·exact .inr (f.2 _ g6)
section
variable {K:α3} {CA CB:Addr} {H H':Hp} {a:Addr} {ad:AD} {s:AS} {wv gv rv:V} {zs ys us:List V}
def AskAt.same (x:AskAt K CA CB H a ad s wv gv rv zs ys us)(k:Same H H'):AskAt K CA CB H' a ad s wv gv rv zs ys us:=
 ⟨k _ _ x.ob,x.bk.mono k,k _ _ x.w,x.wW.mono (TK.of k),k _ _ x.e,x.eW.mono (TK.of k),k _ _ x.g,x.gW.mono (TK.of k),x.we,x.wg,x.eg,x.gv.mono (TK.of k),x.rv.mono (TK.of k)⟩
def AskAt.tkob (x:AskAt K CA CB H a ad s wv gv rv zs ys us)(o:HO):TK H (upd H a o):=fun t ts h=>by rw[Aj (fun z=>by rw[z,x.ob]at h;cases h)];exact h
def AskAt.na (x:AskAt K CA CB H a ad s wv gv rv zs ys us):ad.pw≠a/\ad.pe≠a/\ad.pg≠a/\ad.d≠a/\ad.b≠ad.d/\ad.pw≠ad.d/\ad.pe≠ad.d/\ad.pg≠ad.d/\ad.b≠ad.pw/\ad.b≠ad.pe/\ad.b≠ad.pg:=by
 obtain⟨dx,hb⟩:=x.bk.ob;refine⟨fun z=>?_,fun z=>?_,fun z=>?_,fun z=>?_,fun z=>?_,fun z=>?_,fun z=>?_,fun z=>?_,fun z=>?_,fun z=>?_,fun z=>?_⟩
 ·have:=x.w;rw[z,x.ob]at this;cases this
 ·have:=x.e;rw[z,x.ob]at this;cases this
 ·have:=x.g;rw[z,x.ob]at this;cases this
 ·have:=x.bk.dc;rw[z,x.ob]at this;cases this
 ·rw[z,x.bk.dc]at hb;cases hb
 ·have:=x.w;rw[z,x.bk.dc]at this;cases this
 ·have:=x.e;rw[z,x.bk.dc]at this;cases this
 ·have:=x.g;rw[z,x.bk.dc]at this;cases this
 ·rw[z,x.w]at hb;cases hb
 ·rw[z,x.e]at hb;cases hb
 ·rw[z,x.g]at hb;cases hb
def AskAt.nb (x:AskAt K CA CB H a ad s wv gv rv zs ys us):ad.b≠a:=fun z=>by
 obtain⟨dx,hb⟩:=x.bk.ob;rw[z,x.ob]at hb;injection hb with hb;injection hb with _ _ hb;have h1:=xd_ (fun l=>pC ("wish" : Str) l) hb;rw[HH]at h1;have h2:(sbf s.L ad.d s.p).lookup ("wish" : Str)=none:=by kernel_rfl
 have h1:some wv=(sbf s.L ad.d s.p).lookup ("wish" : Str):=h1;rw[h2]at h1;cases h1
def AskAt.put (x:AskAt K CA CB H a ad s wv gv rv zs ys us) (hp:s'.p=s.p)(hL:s'.L=s.L)(hm:s'.most=s.most)(hW:s'.W=s.W)(hE:s'.E=s.E)(hG:s'.G=s.G)(ou:s'.es=s.es)(g':GV K H s'.p s'.L gv' s'.gs)(r':RV H rv' s'.wr):AskAt K CA CB (upd H a (.ins CA ad.dx (afl s.p wv' s.L s.most ad.b ad.pw ad.pe ad.pg gv' rv'))) a ad s' wv' gv' rv' zs ys us:=by
 obtain⟨n1,n2,n3,n4,n5,n6,n7,n8,n9,ko,kr⟩:=x.na;have tk:=x.tkob (.ins CA ad.dx (afl s.p wv' s.L s.most ad.b ad.pw ad.pe ad.pg gv' rv'));exact⟨by rw[Ab,hp,hL,hm],by rw[hp,hL,ou];exact SBookAt.tk x.bk (fun o h=>by rw[Aj x.nb];exact h) (fun o h=>by rw[Aj n4];exact h),by rw[Aj n1];exact x.w,by rw[hW];exact x.wW.mono tk,by rw[Aj n2];exact x.e,by rw[hE];exact x.eW.mono tk,by rw[Aj n3];exact x.g,by rw[hG];exact x.gW.mono tk,x.we,x.wg,x.eg,g'.mono tk,r'.mono tk⟩
def AskAt.putF (x:AskAt K CA CB H a ad s wv gv rv zs ys us)(o:HO):Frm H (upd H a o) a ad:=⟨fun y o' h n _ _ _ _=>by rw[Aj n];exact h,fun y h=>by
 by_cases z:y=a
 ·rw[z,Ab]at h;cases h
 ·rwa [Aj z]at h⟩
end
inductive Goes:AS->AS->Wish->Prop where
 | stop {s s':AS} {x:Wish}:Cv s=(s',some x)->Goes s s' x
 | more {s s1 s':AS} {x:Wish}:Cv s=(s1,none)->Goes s1 s' x->Goes s s' x
def Goes.ok {B:Nat} (g:Goes s s' x)(o:OkX none B s):WOk B s' x/\Kept s s':=by
 induction g with
 |stop h=>exact (OU o).2 _ _ h
 |more h _ ih=>
  obtain⟨o1,k1,_⟩:=(OU o).1 _ h;obtain⟨o2,k2⟩:=ih o1;exact⟨o2,⟨k2.q.trans k1.q,k2.l.trans k1.l,k2.m.trans k1.m,k2.e.trans k1.e⟩⟩
structure Sz (s:AS):Prop where
 l6:s.L<=6
 w:s.W.length<=13/\∀v∈s.W,v.length<=50
 e:s.E.length<=20/\∀v∈s.E,v.length<=500
 b:∀p∈s.es,p.1.length<=600
def Frm.seq {H H1 H2:Hp} {ad:AD}(f:Frm H H1 a ad)(g:Frm H1 H2 a ad):Frm H H2 a ad:=f.trans (AdOk.refl H ad) g
noncomputable def Bd (B:Nat)(s:AS):Prop:=B+(s.most+1)*(s.most+1)+s.most<=500
def OkX.sz {B:Nat} (o:OkX y B s)(h:Bd B s):Sz s:=by
 have tb:=o.tb;have h1:=tb.wn;have h2:=tb.m12;have h3:=tb.sq;have h5:=tb.l6;have hm:(s.most+1)*s.E.length<=(s.most+1)*(s.most+1):=zd_ _ s!"";unfold Bd at h;refine⟨tb.l6,⟨by lia,fun v hv=>by have:=(tb.wW v hv).2;lia⟩,⟨by lia,fun v hv=>by have:=o.le v hv;lia⟩,fun p hp=>?_⟩;have:=o.lb p hp;split at this<;>lia
def Jr (pr:Int)(wv:V)(L most:Int)(b pw pe pg:Addr)(gv rv:V):(afl pr wv L most b pw pe pg gv rv).length<1000:=by unfold afl;simp
section
variable {K:α3} {CA CB:Addr} {H H':Hp} {a:Addr} {ad:AD} {s:AS} {wv gv rv:V} {zs ys us:List V}
def AskAt.putW (x:AskAt K CA CB H a ad s wv gv rv zs ys us) (h:Ao K H gF W'):AskAt K CA CB (upd H ad.pw (.lst gF)) a ad {s with W:=W' } wv gv rv gF ys us:=by
 obtain⟨n1,n2,n3,n4,n5,n6,n7,n8,n9,ko,kr⟩:=x.na;have tk:=TK.lst x.w (o:=.lst gF);exact⟨by rw[Aj (qp_ n1)];exact x.ob,SBookAt.tk x.bk (fun o h=>by rw[Aj n9];exact h) (fun o h=>by rw[Aj (qp_ n6)];exact h),Ab,h.mono tk,by rw[Aj (qp_ x.we)];exact x.e,x.eW.mono tk,by rw[Aj (qp_ x.wg)];exact x.g,x.gW.mono tk,x.we,x.wg,x.eg,x.gv.mono tk,x.rv.mono tk⟩
def AskAt.putE (x:AskAt K CA CB H a ad s wv gv rv zs ys us) (h:Ao K H ys' E'):AskAt K CA CB (upd H ad.pe (.lst ys')) a ad {s with E:=E' } wv gv rv zs ys' us:=by
 obtain⟨n1,n2,n3,n4,n5,n6,n7,n8,n9,ko,kr⟩:=x.na;have tk:=TK.lst x.e (o:=.lst ys');exact⟨by rw[Aj (qp_ n2)];exact x.ob,SBookAt.tk x.bk (fun o h=>by rw[Aj ko];exact h) (fun o h=>by rw[Aj (qp_ n7)];exact h),by rw[Aj x.we];exact x.w,x.wW.mono tk,Ab,h.mono tk,by rw[Aj (qp_ x.eg)];exact x.g,x.gW.mono tk,x.we,x.wg,x.eg,x.gv.mono tk,x.rv.mono tk⟩
def AskAt.putG (x:AskAt K CA CB H a ad s wv gv rv zs ys us) (h:Ao K H dG G'):AskAt K CA CB (upd H ad.pg (.lst dG)) a ad {s with G:=G' } wv gv rv zs ys dG:=by
 obtain⟨n1,n2,n3,n4,n5,n6,n7,n8,n9,ko,kr⟩:=x.na;have tk:=TK.lst x.g (o:=.lst dG);exact⟨by rw[Aj (qp_ n3)];exact x.ob,SBookAt.tk x.bk (fun o h=>by rw[Aj kr];exact h) (fun o h=>by rw[Aj (qp_ n8)];exact h),by rw[Aj x.wg];exact x.w,x.wW.mono tk,by rw[Aj x.eg];exact x.e,x.eW.mono tk,Ab,h.mono tk,x.we,x.wg,x.eg,x.gv.mono tk,x.rv.mono tk⟩
def Frm.put (h:q=ad.pw\/q=ad.pe\/q=ad.pg\/q=ad.d)(hq:∃o,H q=some o):Frm H (upd H q o) a ad:=by
 refine⟨fun y o' hy n1 n2 n3 n4 n5=>?_,fun y hy=>?_⟩
 ·rw[Aj (fun z=>by rcases h with h|h|h|h<;>subst h<;>contradiction)];exact hy
 ·by_cases z:y=q
  ·rw[z,Ab]at hy;cases hy
  ·rwa [Aj z]at hy
end
def YE {i n:Nat}(h:i<n):seqIndex? (i:Int) n=some i:=by
 unfold seqIndex?;simp[show ¬ (i:Int)<0 by lia,h]
def Ao.tail39 {K:α3} (h:Ao K H us (c::r)):Ao K H (us.eraseIdx 0) r:=by
 cases us with
 |nil=>have:=h.1;cases this
 |cons u us=>
  refine⟨?_,fun i w hi=>?_⟩
  ·have:=h.1;simpa using this
  ·exact h.2 (i+1) w (by simpa using hi)
section
variable {K:α3} {CA CB:Addr} {H H':Hp} {a:Addr} {ad:AD} {s:AS} {wv gv rv:V} {zs ys us:List V}
def AskAt.putB (x:AskAt K CA CB H a ad s wv gv rv zs ys us) (hb:SBookAt CB H' ad.b ad.d s.p s.L eA)(hf:∀b o,H b=some o->b≠ad.d->H' b=some o):AskAt K CA CB H' a ad {s with es:=eA } wv gv rv zs ys us/\Frm H H' a ad/\TK H H':=by
 obtain⟨n1,n2,n3,n4,n5,n6,n7,n8,n9,ko,kr⟩:=x.na;have tk:TK H H':=fun t ts h=>hf t _ h (fun z=>by rw[z,x.bk.dc]at h;cases h);refine⟨⟨hf _ _ x.ob (qp_ n4),hb,hf _ _ x.w n6,x.wW.mono tk,hf _ _ x.e n7,x.eW.mono tk,hf _ _ x.g n8,x.gW.mono tk,x.we,x.wg,x.eg,x.gv.mono tk,x.rv.mono tk⟩,⟨fun y o h _ n _ _ _=>hf _ _ h n,fun y h=>?_⟩,tk⟩;cases hy:H y with
 |none=>rfl
 |some o=>
  by_cases z:y=ad.d
  ·rw[z,hb.dc]at h;cases h
  ·rw[hf _ _ hy z]at h;cases h
end
noncomputable def s071 (p:Int)(L most:Nat):AS:={p:=p,L:=L,most:=most,W:=[],E:=[],G:=[],gs:=none,wr:=none,es:=[]}
def SI (B:Nat)(b1:12<=B)(hp:Pr p)(p18:p<1000000000000000000)(l1:1<=L)(l6:L<=6)(m12:most<=12):OkX none B (s071 p L most):=by
 have hn:need L [] []=[]:=by
  cases h:need L [] [] with
  |nil=>rfl
  |cons c r=>
   exfalso;have:c∈need L [] []:=by rw[h];exact jA_ ..
   revert this;simp[need,JC,Es]
 refine⟨⟨hp,p18,l1,l6,m12,rfl,fun v hv=>(by cases hv),fun v hv=>(by cases hv),qc_ _,fun e he=>(by cases he),wh_,fun q hq=>(by cases hq),fun e he=>(by cases he),?_⟩,b1,fun _ c hc=>?_,wh_,fun c hc=>(by cases hc),fun e he=>(by cases he),fun q hq=>(by cases hq),fun v hv=>(by cases hv)⟩
 ·intro cs h _ c hc;have h:cs.length=0:=h;rw[jN_.mp h]at hc;cases hc
 ·have hc:c∈need L [] []:=hc;rw[hn]at hc;cases hc
def M4 (f:Str)(v:V):∀fs:List (Str×V),(putF f v fs).length<=fs.length+1
 |[]=>by simp[putF]
 | (g,x)::r=>by
  unfold putF;split
  ·simp
  ·have:=M4 f v r;rw[jY_,jY_];lia
noncomputable def UB (CA:Addr):Sp:=fun vs H Q _=>∃(a dx:Addr) (fs:List (Str×V)),vs=[.ref a]/\H a=some (.ins CA dx fs)/\fs.length<1000/\Q .non (upd H a (.ins CA dx (putF "wish" .non fs)))
def Iy:⋯ EE.j53 1 ["self"] (UB ag):=by
 delta EE.j53 MF
 ·obtain⟨a,dx,fs,rfl,_⟩:=h;rfl
 ·obtain⟨a,dx,fs,rfl,ha,hz,k⟩:=h;refine⟨_,(Ae (Cb (pvD 0) Bw rfl)),?_⟩;nofun;exact⟨_,_,_,ha,EE.cl_j0,EE.n_SumAsker_wish,hz,k⟩
noncomputable def aflh (L most:Int)(b pw pe pg:Addr):List (Str×V):=putF "wrong" .non (putF "guess" .non (putF "gaps" (.ref pg) (putF "ends" (.ref pe) (putF "ways" (.ref pw) (putF "book" (.ref b) (putF "most" (.int most) (putF "letters" (.int L) (putF "wish" .non []))))))))
noncomputable def UC (CA:Addr):Sp:=fun vs H Q _=>∃(a dx b pw pe:Addr) (L most:Int),vs=[.ref a,.int L,.int most,.ref b,.ref pw,.ref pe]/\H a=some (.ins CA dx [])/\∀(pg:Addr) (H':Hp),H pg=none->H' a=some (.ins CA dx (aflh L most b pw pe pg))->H' pg=some (.lst [])->(∀x o,H x=some o->x≠a->H' x=some o)->(∀x,H' x=none->H x=none)->Q .non H'
def JJ:⋯ EE.j54 3 ["self","letters","most","book","ways","ends"] (UC ag):=by
 delta EE.j54 NF
 ·obtain⟨a,dx,b,pw,pe,L,most,rfl,_⟩:=h;rfl
 ·obtain⟨a,dx,b,pw,pe,L,most,rfl,ha,k⟩:=h;have hl:=Al;refine⟨_,(Ac (AB (Wx rfl EE.m_j9 EE.j53.m (Iy EE).g hr.d (Iy EE).b .nil An (Aa (pvD 0) Ad)))
   (Ac (Cb (pvD 0) (pvD 1) rfl)
   (Ac (Cb (pvD 0) (pvD 2) rfl)
   (Ac (Cb (pvD 0) (pvD 3) rfl)
   (Ac (Cb (pvD 0) (pvD 4) rfl)
   (Ac (Cb (pvD 0) (pvD 5) rfl)
   (Ac (Cb (pvD 0) (Fe Ad) rfl)
   (Ac (Cb (pvD 0) Bw rfl)
   (Ae (Cb (pvD 0) Bw rfl)))))))))),?_⟩
  nofun;have pl:∀(f:Str) (v:V) (fs:List (Str×V)) (n:Nat),fs.length<n->(putF f v fs).length<n+1:=fun f v fs n h=>by have:=M4 f v fs;lia
  have z1:=pl "wish" .non [] 1 (by simp);have z2:=pl "letters" (.int L) _ _ z1;have z3:=pl "most" (.int most) _ _ z2;have z4:=pl "book" (.ref b) _ _ z3;have z5:=pl "ways" (.ref pw) _ _ z4;have z6:=pl "ends" (.ref pe) _ _ z5;refine⟨a,dx,[],rfl,ha,by simp,_,_,_,Ab,EE.cl_j0,EE.n_SumAsker_letters,by lia,_,_,_,Ab,EE.cl_j0,EE.n_SumAsker_most,by lia,_,_,_,Ab,EE.cl_j0,EE.n_SumAsker_book,by lia,_,_,_,Ab,EE.cl_j0,EE.n_SumAsker_ways,by lia,_,_,_,Ab,EE.cl_j0,EE.n_SumAsker_ends,by lia,by lia,fun pg gN=>?_⟩;have oF:pg≠a:=fun z=>by rw[z,Ab]at gN;cases gN
  have z7:=pl "gaps" (.ref pg) _ _ z6;have z8:=pl "guess" .non _ _ z7;refine⟨_,_,_,by rw[Aj (qp_ oF)];exact Ab,EE.cl_j0,EE.n_SumAsker_gaps,by lia,_,_,_,Ab,EE.cl_j0,EE.n_SumAsker_guess,by lia,_,_,_,Ab,EE.cl_j0,EE.n_SumAsker_wrong,by lia,?_⟩;have ed:H pg=none:=by
   simp only[Aj oF]at gN;exact gN
  refine k pg _ ed (by rw[Ab];rfl) (by simp only[Aj oF];exact Ab) (fun y o hy jH=>?_) (fun y hy=>?_)
  ·have mM:y≠pg:=fun z=>by rw[z,ed]at hy;cases hy
   simp only[Aj jH,Aj mM];exact hy
  ·by_cases jH:y=a
   ·rw[jH,Ab]at hy;cases hy
   ·by_cases mM:y=pg
    ·rw[mM];exact ed
    ·simp only[Aj jH,Aj mM]at hy;exact hy
noncomputable def UD (K:α3)(CA CB:Addr):Sp:=fun vs H Q _=>∃(a:Addr) (ad:AD) (s:AS) (wv:V),vs=[.ref a]/\Asks K CA CB H a ad s wv/\Q wv H
def A8:⋯ EE.j0 1 ["self"] (UD K ag aj):=by
 delta EE.j0 LC
 ·obtain⟨a,ad,s,wv,rfl,_⟩:=h;rfl
 ·obtain⟨a,ad,s,wv,rfl,⟨gv,rv,zs,ys,us,x⟩,k⟩:=h;refine⟨_,(Ae (Am (Ax (pvD 0) rfl))),?_⟩;nofun;exact⟨_,_,_,x.ob,EE.cl_j0,EE.n_SumAsker_wish,_,HH ..,k⟩
noncomputable def SJ (K:α3)(CA CB OT:Addr):Sp:=fun vs H Q E=>∃(a:Addr) (ad:AD) (s:AS) (wv:V) (x:Wish) (d:Str),vs=[.ref a,.str d]/\Asks K CA CB H a ad s wv/\A7 K H s.p s.L wv x/\(x.tag=d->Q .non H)/\(x.tag≠d->E (.ref OT) none H)
def AW:CalH P w mg base (CXe P w) EE.j9 1 ["self","deed"] (SJ K ag aj aw):=by
 refine HG.okE EE.j9 GJ (fun vs H Q E h=>?_) (fun ao A outer s H vs Q E hr h=>?_)
 ·obtain⟨a,ad,s,wv,x,d,rfl,_⟩:=h;rfl
 ·obtain⟨a,ad,s,wv,x,d,rfl,⟨gv,rv,zs,ys,us,A'⟩,hw,k,kE⟩:=h;have hl:=Al;refine⟨_,(Ae (AZ (ptT (Ap (opN Dk) (As (ixTD Ay) (Ax (pvD 0) rfl) Ai) (pvD 1) (Av _)))
   (Ae (Gz EE.m_j4 EE.x_j4 rfl rfl (Aa AA Ad)))
   Au)),?_⟩
  nofun;obtain⟨t,u,rfl,ht,_⟩:=hw;refine⟨_,_,_,A'.ob,EE.cl_j0,EE.n_SumAsker_wish,_,HH ..,t,rfl,_,SqT.of ht,V.str x.tag,rfl,rfl,?_⟩;by_cases hd:x.tag=d
  ·rw[if_neg (by simp[hd])];exact k hd
  ·rw[if_pos (by simp[hd])];exact⟨by lia,kE hd⟩
noncomputable def NX (K:α3)(CA CB:Addr)(f:AS->α1):Sp:=fun vs H Q _=>∃(a:Addr) (ad:AD) (s:AS) (wv:V),vs=[.ref a]/\Asks K CA CB H a ad s wv/\∀l ts H',Same H H'->H l=none->H' l=some (.lst ts)->Ao K H' ts (f s)->Q (.ref l) H'
def GY:⋯ EE.j68 1 ["self"] (NX K ag aj AS.W):=by
 delta EE.j68 LF
 ·obtain⟨a,ad,s,wv,rfl,_⟩:=h;rfl
 ·obtain⟨a,ad,s,wv,rfl,⟨gv,rv,zs,ys,us,x⟩,k⟩:=h;refine⟨_,(Ae (Am (AF Jx rfl EE.list q5_ (Aa (Ax (pvD 0) rfl) Ad)))),?_⟩;nofun;exact⟨_,_,_,x.ob,EE.cl_j0,EE.n_SumAsker_ways,_,E8 ..,ad.pw,rfl,zs,.inl (SqL.of x.w),fun l hl=>k l zs _ (Same.new hl) hl Ab (x.wW.mono (TK.new hl))⟩
def Gf:⋯ EE.j69 1 ["self"] (NX K ag aj AS.E):=by
 delta EE.j69 K8
 ·obtain⟨a,ad,s,wv,rfl,_⟩:=h;rfl
 ·obtain⟨a,ad,s,wv,rfl,⟨gv,rv,zs,ys,us,x⟩,k⟩:=h;refine⟨_,(Ae (Am (AF Jx rfl EE.list q5_ (Aa (Ax (pvD 0) rfl) Ad)))),?_⟩;nofun;exact⟨_,_,_,x.ob,EE.cl_j0,EE.n_SumAsker_ends,_,M3 ..,ad.pe,rfl,ys,.inl (SqL.of x.e),fun l hl=>k l ys _ (Same.new hl) hl Ab (x.eW.mono (TK.new hl))⟩
noncomputable def QE (K:α3)(CA CB:Addr):Sp:=fun vs H Q _=>∃(a:Addr) (ad:AD) (s:AS) (wv:V),vs=[.ref a]/\Asks K CA CB H a ad s wv/\∀l rs H',Same H H'->H l=none->H' l=some (.lst rs)->Cp H' rs s.es->Q (.ref l) H'
def BK:⋯ EE.j58 2 ["self"] (QE K ag aj):=by
 delta EE.j58 MG
 ·obtain⟨a,ad,s,wv,rfl,_⟩:=h;rfl
 ·obtain⟨a,ad,s,wv,rfl,⟨gv,rv,zs,ys,us,x⟩,k⟩:=h;refine⟨_,(Ae (Am (AQ (Ax (pvD 0) rfl) EE.cl_j3 EE.j10.m (BJ EE).g hr.d (BJ EE).b .nil An))),?_⟩;nofun;obtain⟨gh,hb⟩:=x.bk.ob;exact⟨_,_,_,x.ob,EE.cl_j0,EE.n_SumAsker_book,_,E7 ..,ad.b,rfl,_,_,hb,by kernel_rfl,ad.b,ad.d,_,_,s.es,rfl,x.bk,k⟩
def OV (es:Bk)(ws:α1)(c:α2):Cq es (ws++[c])=if (mkO es c).isNone then ins (Cq es ws) c else Cq es ws:=by
 unfold Cq;rw[qU_];show List.filter _ (ins (ws.foldl ins []) c)=_;generalize ws.foldl ins []=F;unfold ins;by_cases hc:c∈F
 ·rw[if_pos hc];split
  ·rename_i h
   rw[if_pos (zo_.mpr ⟨hc,h⟩)]
  ·rfl
 ·rw[if_neg hc,qK,if_neg (fun z=>hc (zo_.mp z).1)];split
  ·rename_i h
   rw[pX,if_pos h];rfl
  ·rename_i h
   rw[pX,if_neg h];simp
noncomputable def SK (K:α3)(CA CB:Addr):Sp:=fun vs H Q _=>∃(a l:Addr) (ad:AD) (s:AS) (wv:V) (ts:List V) (ws:α1),vs=[.ref a,.ref l]/\Asks K CA CB H a ad s wv/\SqL K H l ts/\Ao K H ts ws/\ws.length<=100000/\∀aC H',Asks K CA CB H' a aC {s with G:=Cq s.es ws} wv->Frm H H' a ad->AdOk H ad aC->Q .non H'
def Cr:⋯ EE.j29 2 ["self","words"] (SK K ag aj):=by
 delta EE.j29 DF
 ·obtain⟨a,l,ad,s,wv,ts,ws,rfl,_⟩:=h;rfl
 ·obtain⟨a,l,ad,s,wv,ts,ws,rfl,⟨gv,rv,zs,ys,us,x⟩,jw,hW,hz,k⟩:=h;have hl:=Al;refine⟨_,(Ac (Jw (i:=2) DF.nd rfl (o9 rfl) Ko)
   (Ac (Bx jL_ rfl (Br (pvD 1)) (Aq (i:=3) DF.nd rfl (o9 rfl))
   (Ae (AZ (ptT (Ap Ng (Bh (Ax (pvD 0) rfl) EE.cl_j3 EE.j28.m (Bm EE).g hr.d (Bm EE).b .nil An (Aa (pvD 3) Ad)) Bw (Av _)))
   (Ae (FH (FG hr) (pvD 2) (pvD 3) DY rfl))
   Au)))
   (Ae (Cb (pvD 0) (AF (DC rfl) rfl EE.list q5_ (Aa (pvD 2) Ad)) rfl)))),?_⟩
  nofun;intro p hp;have sp:=Same.new (o:=.dT []) hp;obtain⟨gh,hb⟩:=x.bk.ob;obtain⟨Pv,aq⟩:∃Pv:Nat->St->Hp->Prop,∀i af H',Pv i af H'↔(∃(kvs:List (List Key×V)) (o:Option V),Same H H'/\H' p=some (.dT kvs)/\Dp (Cq s.es (ws.take i)) kvs/\af=[some (.ref a),some (.ref l),some (.ref p),o]):=⟨_,fun _ _ _=>qP_⟩;refine⟨⟨_,sp.seq jw⟩,forL (xs:=ts) Pv ((aq _ _ _).mpr ⟨[],none,sp,Ab,by rw[xK_];exact Dp.nil,rfl⟩) (fun i af H' _ h'=>by obtain⟨_,_,s',_⟩:=(aq _ _ _).mp h';exact s'.seq jw) (fun i y af H' hy h'=>?_) (fun af H' h'=>?_)⟩
  ·obtain⟨kvs,o,s',hd,hk,rfl⟩:=(aq _ _ _).mp h';obtain⟨t,c,k9,rfl,ht⟩:=hW.at hy;have dz:i<ws.length:=(jg_.mp k9).1;have ak:kvs.length<=100000:=by
    rw[hk.len];have h1:=qk (fun c=>(mkO s.es c).isNone) ((ws.take i).foldl ins []);have h2:=A9 (ws.take i) [];rw[jI_,xi_]at h2;have h3:(Cq s.es (ws.take i)).length<=_:=h1;lia
   have bp:=s' _ _ ht;have cn:Cq s.es (ws.take (i+1))=if (mkO s.es c).isNone then ins (Cq s.es (ws.take i)) c else Cq s.es (ws.take i):=by
    rw[jU_,k9];exact OV _ _ _
   nofun;refine⟨_,_,_,s' _ _ x.ob,EE.cl_j0,EE.n_SumAsker_book,_,E7 ..,ad.b,rfl,_,_,s' _ _ hb,by kernel_rfl,ad.b,ad.d,t,_,_,c,s.es,rfl,x.bk.mono s',bp,fun hn=>?_,fun m hm=>?_⟩
   ·dsimp only;rw[if_pos rfl];have bT:(mkO s.es c).isNone=true:=by rw[Iu hn];rfl
    refine⟨_,DPut.t (k:=wkey c) hd (by rw[B3];exact bp) s!"",(aq _ _ _).mpr ⟨_,_,s'.over hp,Ab,?_,rfl⟩⟩;rw[cn,if_pos bT];exact hk.put c (.bl true)
   ·dsimp only;rw[if_neg (by simp)];have hso:(mkO s.es c).isNone=false:=by rw[E5 x.bk.nd hm];rfl
    refine (aq _ _ _).mpr ⟨kvs,_,s',hd,?_,rfl⟩;rw[cn,hso];simpa using hk
  ·obtain⟨kvs,o,s',hd,hk,rfl⟩:=(aq _ _ _).mp h';rw[hW.1,jF_]at hk;nofun;refine⟨kvs,.inl hd,fun q rs hq bw jy=>?_⟩;have x1:=x.same (s'.newT hq (o:=.lst rs));have uq:upd H' q (.lst rs) q=some (.lst rs):=Ab;have hwd:=(hk.words (K:=K) bw jy).mono (TK.new hq (o:=.lst rs));have s1:=s'.newT hq (o:=.lst rs);have lM:H q=none:=s'.none hq;generalize upd H' q (.lst rs)=H1 at x1 uq hwd s1 ⊢;obtain⟨n1,n2,n3,n4,n5,n6,n7,n8,n9,ko,kr⟩:=x1.na;have hqa:q≠a:=fun z=>by rw[z,x1.ob]at uq;cases uq
   refine⟨_,_,_,x1.ob,EE.cl_j0,EE.n_SumAsker_gaps,by unfold afl;simp,?_⟩;rw[Uz];refine k {ad with pg:=q} _ ⟨gv,rv,zs,ys,rs,?_⟩ ⟨fun y o hy m1 m2 m3 m4 m5=>by rw[Aj m1];exact s1 _ _ hy,fun y hy=>?_⟩ ⟨rfl,rfl,rfl,rfl,rfl,.inr lM⟩
   ·have tk:=x1.tkob (.ins ag ad.dx (afl s.p wv s.L s.most ad.b ad.pw ad.pe q gv rv));refine⟨Ab,SBookAt.tk x1.bk (fun o h=>by rw[Aj x1.nb];exact h) (fun o h=>by rw[Aj n4];exact h),by rw[Aj n1];exact x1.w,x1.wW.mono tk,by rw[Aj n2];exact x1.e,x1.eW.mono tk,by rw[Aj hqa];exact uq,hwd.mono tk,x.we,fun z=>?_,fun z=>?_,x1.gv.mono tk,x1.rv.mono tk⟩
    ·rw[show q=ad.pw from z.symm,x.w]at lM;cases lM
    ·rw[show q=ad.pe from z.symm,x.e]at lM;cases lM
   ·by_cases jH:y=a
    ·rw[jH,Ab]at hy;cases hy
    ·rw[Aj jH]at hy;exact s1.none hy
def Cp.prs (h:Cp H rs es):∃ts:List Addr,rs=ts.map V.ref/\T7 H ts (ents es):=by
 refine⟨rs.map (fun v=>match v with | .ref t=>t|_=>0),?_,by unfold ents;rw[jb_,jb_];exact h.1,fun j p q hp hq=>?_⟩
 ·rw[jK_];refine qR_ fun i=>?_;rw[ji_];by_cases hi:i<es.length
  ·obtain⟨t,b,a,_⟩:=h.2 i es[i] (by simp[hi]);rw[a];rfl
  ·rw[jy_ (by rw[h.1];lia)];rfl
 ·unfold ents at hp;rw[ji_]at hp;obtain⟨e,he,rfl⟩:=zE_.mp hp;obtain⟨t,b,a1,a2,a3⟩:=h.2 j e he;rw[ji_,a1]at hq;cases hq;exact⟨b,.inl a2,by rw[a3,B3]⟩
noncomputable def UE (K:α3):Sp:=fun vs H Q _=>∃(a h t:Addr) (p:Int) (L:Nat) (tb:α0) (l v:α2),vs=[.ref a,.ref h,.ref t]/\GuT K H h p L tb l/\WfSum p L l.length (Bu l.length 0) tb l/\SqT K H t (v.map V.int)/\v.length<=600/\isW L v=true/\∀H',Same H H'->Q (.int (W71 p tb l v)) H'
def D5:⋯ EE.j49 7 ["self","house","word"] (UE K):=by
 delta EE.j49 HY
 ·obtain⟨a,h,t,p,L,tb,l,v,rfl,_⟩:=h;rfl
 ·obtain⟨a,h,t,p,L,tb,l,v,rfl,hh,wf,ht,hz,hv,k⟩:=h;refine⟨_,(Ae (Am (Af (Ui EE) hr.d (Jc (P:=P) (w:=w)) (Aa (pvD 1) (Aa (pvD 2) Ad))))),?_⟩;nofun;exact⟨h,t,p,L,_,_,l,v,tb,rfl,hh.sum,wf,ht,hz,fun _ H' s'=>k H' s',fun z=>by rw[hv]at z;cases z⟩
noncomputable def YF (K:α3)(CA CB:Addr):Sp:=fun vs H Q _=>∃(a:Addr) (ad:AD) (s:AS) (wv:V),vs=[.ref a]/\Asks K CA CB H a ad s wv/\Sz s/\Tb s.p s.L s.most s.W s.E s.es/\Full s.L s.W s.E s.es/\s.es.length<=1000/\∀h H',Same H H'->GuT K H' h s.p s.L (gTab s.p s.L s.W s.E s.es) (B8 s.W s.es)->Q (.ref h) H'
def Cy:⋯ EE.j22 7 ["self"] (YF K ag aj):=by
 delta EE.j22 Fw
 ·obtain⟨a,ad,s,wv,rfl,_⟩:=h;rfl
 ·obtain⟨a,ad,s,wv,rfl,⟨gv,rv,zs,ys,us,x⟩,sz,tb,fu,hz,k⟩:=h;have hl:=Al;refine⟨_,(Ae (Am (Af (NV EE) hr.d An (Aa (Ax (pvD 0) rfl) (Aa (Ax (pvD 0) rfl) (Aa (Ax (pvD 0) rfl) (Aa (Ax (pvD 0) rfl) (Aa (AF (OH rfl hr) rfl EE.dict sT (Aa (AQ (Ax (pvD 0) rfl) EE.cl_j3 EE.j10.m (BJ EE).g hr.d (BJ EE).b .nil An) Ad)) Ad)))))))),?_⟩;nofun;obtain⟨⟨gh,hb⟩,hd,nd⟩:=id x.bk;refine⟨_,_,_,x.ob,EE.cl_j0,EE.n_SumAsker_p,_,af_p ..,_,_,_,x.ob,EE.cl_j0,EE.n_SumAsker_letters,_,L7 ..,_,_,_,x.ob,EE.cl_j0,EE.n_SumAsker_ways,_,E8 ..,_,_,_,x.ob,EE.cl_j0,EE.n_SumAsker_ends,_,M3 ..,_,_,_,x.ob,EE.cl_j0,EE.n_SumAsker_book,_,E7 ..,ad.b,rfl,_,_,hb,by kernel_rfl,ad.b,ad.d,_,_,s.es,rfl,x.bk,fun l rs H1 s1 gH bI i3=>?_⟩;have ep:DZ [] (ents s.es)=ents s.es:=by
   have h1:=JE (ents s.es) [] (by
    rw[qY_];unfold ents;rw[jK_];have h2:(s.es.map (fun e=>wkey e.1)).Nodup:=by
     have:s.es.map (fun e=>wkey e.1)=(s.es.map (·.1)).map wkey:=by rw[jK_];rfl
     rw[this];exact List.Pairwise.map _ (fun a b h z=>h (GC z)) nd
    exact h2)
   rw[qY_]at h1;exact h1
  obtain⟨ts,ets,kR⟩:=i3.prs;have f9:(ents s.es).length=s.es.length:=by unfold ents;rw[jb_]
  refine⟨l,ts,ents s.es,rfl,by rw[bI,ets],kR,by lia,fun d2 gT=>?_⟩;rw[ep];have s2:=s1.newT gT (o:=.dT (ents s.es));exact⟨s.p,s.L,s.most,ad.pw,ad.pe,d2,zs,ys,s.W,s.E,s.es,rfl,s2.seq (SqL.of x.w),x.wW.mono (TK.of s2),s2.seq (SqL.of x.e),x.eW.mono (TK.of s2),Ab,tb,fu,sz.e.2,fun h H' s' hh=>k h H' (s2.trans s') hh⟩
noncomputable def YG (K:α3)(CA CB:Addr):Sp:=fun vs H Q _=>∃(a:Addr) (ad:AD) (s:AS) (wv:V) (t:α0) (l:α2),vs=[.ref a]/\Asks K CA CB H a ad s wv/\s.gs=some (t,l)/\WfSum s.p s.L l.length (Bu l.length 0) t l/\(∀tb∈t,∀r∈tb,∀y∈r,0<=y/\y<s.p)/\(∀e∈s.es,isW s.L e.1=true/\e.1.length<=600)/\s.es.length<=1000/\∀H',Same H H'->(Bp s.p s.es t l=none->Q .non H')/\∀v u,Bp s.p s.es t l=some v->H' u=some (.tup (v.map V.int))->Q (.ref u) H'
def Cz:⋯ EE.j25 3 ["self"] (YG K ag aj):=by
 delta EE.j25 Fx
 ·obtain⟨a,ad,s,wv,t,l,rfl,_⟩:=h;rfl
 ·obtain⟨a,ad,s,wv,t,l,rfl,⟨gv,rv,zs,ys,us,x⟩,hg,wf,bP,hb,hz,k⟩:=h;refine⟨_,(Ae (Am (Af (GN EE) hr.d An (Aa (Ax (pvD 0) rfl) (Aa (AQ (Ax (pvD 0) rfl) EE.cl_j3 EE.j10.m (BJ EE).g hr.d (BJ EE).b .nil An) Ad))))),?_⟩;nofun;have lN:=x.gv;rw[hg]at lN;obtain⟨h,rfl,hh⟩:=lN;obtain⟨⟨dx,iK⟩,hdc,nd⟩:=id x.bk;refine⟨_,_,_,x.ob,EE.cl_j0,EE.n_SumAsker_guess,_,KA ..,_,_,_,x.ob,EE.cl_j0,EE.n_SumAsker_book,_,E7 ..,_,rfl,_,_,iK,by kernel_rfl,ad.b,ad.d,_,_,s.es,rfl,x.bk,fun q rs H1 s1 gH bI i3=>?_⟩;exact⟨h,q,s.p,s.L,_,t,l,rs,s.es,rfl,(hh.mono (TK.of s1)).sum,wf,bP,SqL.of bI,i3,hb,hz,fun H' s'=>k H' (s1.trans s')⟩
noncomputable def SM (K:α3)(CA CB:Addr):Sp:=fun vs H Q _=>∃(a:Addr) (ad:AD) (s:AS) (wv:V) (B:Nat),vs=[.ref a]/\Asks K CA CB H a ad s wv/\OkX none B s/\s.G=[]/\s.wr=none/\Bd B s/\s.es.length<=1000/\∀H' r,Asks K CA CB H' a ad (Jp s).1 wv->Frm H H' a ad->((Jp s).2=none->r=.non)->(∀x,(Jp s).2=some x->A7 K H' s.p s.L r x)->Q r H'
def C1:⋯ EE.j26 8 ["self"] (SM K ag aj):=by
 delta EE.j26 FV
 ·obtain⟨a,ad,s,wv,B,rfl,_⟩:=h;rfl
 ·obtain⟨a,ad,s,wv,B,rfl,⟨gv,rv,zs,ys,us,x⟩,ok,hG,dN,bd,hz,k⟩:=h;have hl:=Al;have sz:=ok.sz bd;have tb:=ok.tb;have g:GuessOk s.p s.L s.W s.E s.es (gTab s.p s.L s.W s.E s.es) (B8 s.W s.es):=tb.guess (ok.full hG dN);have wf:=g.wf tb;refine⟨_,(Ac (Cb (pvD 0) (AQ (pvD 0) EE.cl_j0 EE.j22.m (Cy EE).g hr.d (Cy EE).b .nil An) rfl)
   (Ac (Cb (pvD 0) (AQ (pvD 0) EE.cl_j0 EE.j25.m (Cz EE).g hr.d (Cz EE).b .nil An) rfl)
   (Ac (AZ (ptT (Ap Ng (Ax (pvD 0) rfl) Bw (Av _)))
   (Ae (Am (Cg (Aa AA (Aa (Ax (pvD 0) rfl) Ad)))))
   Au)
   (Ae (Am Bw))))),?_⟩
  nofun;refine⟨_,_,x.ob,by kernel_rfl,a,ad,s,wv,rfl,⟨_,_,_,_,_,x⟩,sz,tb,ok.full hG dN,hz,fun h H1 s1 hh=>?_⟩;have x1:=x.same s1;refine⟨_,_,_,x1.ob,EE.cl_j0,EE.n_SumAsker_guess,Jr ..,?_⟩;rw[SH];have x2:=x1.put (wv':=wv) (gv':=.ref h) (rv':=rv) (s':={s with gs:=some (gTab s.p s.L s.W s.E s.es,B8 s.W s.es)}) rfl rfl rfl rfl rfl rfl rfl ⟨h,rfl,hh⟩ x1.rv;have f2:=(Frm.of s1 a ad).seq (x1.putF (.ins ag ad.dx (afl s.p wv s.L s.most ad.b ad.pw ad.pe ad.pg (.ref h) rv)));refine⟨_,_,x2.ob,by kernel_rfl,a,ad,_,wv,_,_,rfl,⟨_,_,_,_,_,x2⟩,rfl,wf,fun t ht r hr=>((g.tt t ht).2 r hr).2,fun e he=>⟨(tb.bW e he).1,sz.b e he⟩,hz,fun H3 s3=>⟨fun bT=>?_,fun v t hv ht=>?_⟩⟩
  ·have el:Jp s=({s with gs:=some (gTab s.p s.L s.W s.E s.es,B8 s.W s.es),wr:=none},some (.shown (gTab s.p s.L s.W s.E s.es) (B8 s.W s.es))):=by
    unfold Jp;rw[bT]
   have x3:=x2.same s3;refine⟨_,_,_,x3.ob,EE.cl_j0,EE.n_SumAsker_wrong,Jr ..,?_⟩;rw[Lj];have x4:=x3.put (wv':=wv) (gv':=.ref h) (rv':=.non) (s':={s with gs:=some (gTab s.p s.L s.W s.E s.es,B8 s.W s.es),wr:=none}) rfl rfl rfl rfl rfl rfl rfl x3.gv rfl;have f4:=(f2.seq (Frm.of s3 a ad)).seq (x3.putF (.ins ag ad.dx (afl s.p wv s.L s.most ad.b ad.pw ad.pe ad.pg (.ref h) .non)));refine⟨_,_,_,x4.ob,EE.cl_j0,EE.n_SumAsker_wrong,_,KC ..,?_⟩;rw[if_pos rfl];refine⟨_,_,_,x4.ob,EE.cl_j0,EE.n_SumAsker_guess,_,KA ..,by lia,fun p hp=>?_⟩;refine k _ _ ?_ (f4.seq (Frm.of (Same.new hp) a ad)) ?_ ?_
   ·rw[el];exact⟨_,_,_,_,_,x4.same (Same.new hp)⟩
   ·rw[el];exact fun z=>by cases z
   ·rw[el];intro y z;cases z;refine⟨p,h,rfl,Ab,?_⟩;obtain⟨h',e',hh'⟩:=(x4.same (Same.new hp)).gv;cases e';exact hh'
  ·have el:Jp s=({s with gs:=some (gTab s.p s.L s.W s.E s.es,B8 s.W s.es),wr:=some v},none):=by
    unfold Jp;rw[hv]
   have x3:=x2.same s3;refine⟨_,_,_,x3.ob,EE.cl_j0,EE.n_SumAsker_wrong,Jr ..,?_⟩;rw[Lj];have x4:=x3.put (wv':=wv) (gv':=.ref h) (rv':=.ref t) (s':={s with gs:=some (gTab s.p s.L s.W s.E s.es,B8 s.W s.es),wr:=some v}) rfl rfl rfl rfl rfl rfl rfl x3.gv ⟨t,rfl,ht⟩;have f4:=(f2.seq (Frm.of s3 a ad)).seq (x3.putF (.ins ag ad.dx (afl s.p wv s.L s.most ad.b ad.pw ad.pe ad.pg (.ref h) (.ref t))));refine⟨_,_,_,x4.ob,EE.cl_j0,EE.n_SumAsker_wrong,_,KC ..,?_⟩;rw[if_neg (by simp)];refine k _ _ ?_ f4 ?_ ?_
   ·rw[el];exact⟨_,_,_,_,_,x4⟩
   ·rw[el];exact fun _=>rfl
   ·rw[el];exact fun y z=>by cases z
def QF (hW:W.length<=100)(hL:L<=6)(hE:E.length<=100):(JC (Es L W) E).length<=70000:=by
 unfold JC;have h1:=A9 ((Es L W).flatMap fun r=>E.map (r ++ ·)) [];have h2:((Es L W).flatMap fun r=>E.map (r ++ ·)).length=(Es L W).length*E.length:=by
  rw[zf_];generalize Es L W=l
  induction l with
  |nil=>simp
  |cons a l ih=>rw[jR_,List.sum_cons,ih,jb_,jY_,qS];lia
 have h3:=Sw L W;have h4:W.length*L<=100*6:=qW_ hW hL;have h5:(Es L W).length*E.length<=700*100:=qW_ s!"" hE;rw[h2,xi_]at h1;lia
noncomputable def SN (K:α3)(CA CB:Addr):Sp:=fun vs H Q _=>∃(a tw te:Addr) (ad:AD) (s:AS) (wv:V) (bX e:α2),vs=[.ref a,.ref tw,.ref te]/\Asks K CA CB H a ad s wv/\Sz s/\H tw=some (.tup (bX.map V.int))/\bX.length<=60/\H te=some (.tup (e.map V.int))/\e.length<=500/\∀aC H' r,Asks K CA CB H' a aC (Iw s bX e).1 wv->Frm H H' a ad->AdOk H ad aC->((Iw s bX e).2=none->r=.non)->(∀x,(Iw s bX e).2=some x->A7 K H' s.p s.L r x)->Q r H'
def Bo:⋯ EE.j37 3 ["self","way","end"] (SN K ag aj):=by
 delta EE.j37 Hr
 ·obtain⟨a,tw,te,ad,s,wv,bX,e,rfl,_⟩:=h;rfl
 ·obtain⟨a,tw,te,ad,s,wv,bX,e,rfl,⟨gv,rv,zs,ys,us,x⟩,sz,dH,bU,kh,f9,k⟩:=h;have hl:=Al;have w1:=sz.w.1;have e1:=sz.e.1;refine⟨_,(CV (Cb (pvD 0) Bw rfl)
   (CV (AB (Nl qv_ qC_ qD_ Dz (Ax (pvD 0) rfl) (Aa (pvD 2) Ad)))
   (Ac (AZ (ptT (Ap (opE GG) (AK (lenD AG) (by rfl) EE.len qy_ (Aa (Ax (pvD 0) rfl) Ad)) (Ax (pvD 0) rfl) (Av _)))
   (Ae (Am (Cg (Aa AA (Aa (pvD 1) Ad)))))
   Au)
   (Ac (AB (Nl qv_ qC_ qD_ Dz (Ax (pvD 0) rfl) (Aa (pvD 1) Ad)))
   (Ac (AB (Bh (pvD 0) EE.cl_j0 EE.j29.m (Cr EE).g hr.d (Cr EE).b .nil An (Aa (Ar Xv (Ax (pvD 0) rfl) (Af (Uk EE) hr.d An (Aa (Ax (pvD 0) rfl) (Aa (Ax (pvD 0) rfl) (Aa (Ax (pvD 0) rfl) Ad))))) Ad)))
   (Ae (Am Bw))))))),?_⟩
  nofun;refine⟨_,_,_,x.ob,EE.cl_j0,EE.n_SumAsker_wrong,Jr ..,?_⟩;rw[Lj];have x3:=x.put (wv':=wv) (gv':=gv) (rv':=.non) (s':={s with wr:=none}) rfl rfl rfl rfl rfl rfl rfl x.gv rfl;have f3:=x.putF (.ins ag ad.dx (afl s.p wv s.L s.most ad.b ad.pw ad.pe ad.pg gv .non));have mO:=x.tkob (.ins ag ad.dx (afl s.p wv s.L s.most ad.b ad.pw ad.pe ad.pg gv .non));have hte3:=mO _ _ kh;have jI:=mO _ _ dH;generalize upd H a (.ins ag ad.dx (afl s.p wv s.L s.most ad.b ad.pw ad.pe ad.pg gv .non))=H3 at x3 f3 mO hte3 jI ⊢;refine Ci ?_;nofun;have x4:=x3.putE (x3.eW.snoc hte3);have f4:=f3.seq (Frm.put (a:=a) (o:=.lst (ys++[.ref te])) (.inr (.inl rfl)) ⟨_,x3.e⟩);have oG:=TK.lst x3.e (o:=.lst (ys++[.ref te]));have k1:=AdOk.refl H ad;refine⟨_,_,_,x3.ob,EE.cl_j0,EE.n_SumAsker_ends,_,M3 ..,.inl ⟨rfl,_,SqL.of x3.e⟩,ad.pe,rfl,_,x3.e,by rw[x3.eW.1];show s.E.length<_;lia,?_⟩;generalize upd H3 ad.pe (.lst (ys++[.ref te]))=H4 at x4 f4 oG ⊢;refine Ci ?_;nofun;refine⟨_,_,_,x4.ob,EE.cl_j0,EE.n_SumAsker_ways,_,E8 ..,ad.pw,rfl,_,.inl (SqL.of x4.w),_,_,_,x4.ob,EE.cl_j0,EE.n_SumAsker_most,_,W3 ..,rfl,?_⟩;rw[x4.wW.1];by_cases hm:s.W.length=s.most
  ·rw[if_pos (by rw[<-hm])];have el:Iw s bX e=({s with wr:=none,E:=s.E++[e]},some (.spent bX)):=by unfold Iw;rw[if_pos hm]
   refine⟨by lia,fun p hp=>?_⟩;refine k ad _ _ ?_ (f4.seq (Frm.of (Same.new hp) a ad)) k1 ?_ ?_
   ·rw[el];exact⟨_,_,_,_,_,x4.same (Same.new hp)⟩
   ·rw[el];exact fun z=>by cases z
   ·rw[el];intro y z;cases z;exact⟨p,tw,rfl,Ab,Same.new hp _ _ (oG _ _ jI)⟩
  ·rw[if_neg (fun z=>hm (by have:=V.int.inj z;have h2:((s.W.length:Nat):Int)=s.most:=this;lia))];have el:Iw s bX e=({s with wr:=none,W:=s.W++[bX],E:=s.E++[e],G:=Cq s.es (need s.L (s.W++[bX]) (s.E++[e]))},none):=by unfold Iw;rw[if_neg hm]
   have x5:=x4.putW (x4.wW.snoc (oG _ _ jI));have f5:=f4.seq (Frm.put (a:=a) (o:=.lst (zs++[.ref tw])) (.inl rfl) ⟨_,x4.w⟩);refine⟨_,_,_,x4.ob,EE.cl_j0,EE.n_SumAsker_ways,_,E8 ..,.inl ⟨rfl,_,SqL.of x4.w⟩,ad.pw,rfl,_,x4.w,by rw[x4.wW.1];show s.W.length<_;lia,?_⟩;generalize upd H4 ad.pw (HO.lst (zs++[V.ref tw]))=H5 at x5 f5 ⊢;have hWl:(s.W++[bX]).length=s.W.length+1:=by simp
   have hEl:(s.E++[e]).length=s.E.length+1:=by simp
   refine⟨_,_,x5.ob,by kernel_rfl,_,_,_,x5.ob,EE.cl_j0,EE.n_SumAsker_ways,_,E8 ..,_,_,_,x5.ob,EE.cl_j0,EE.n_SumAsker_letters,_,L7 ..,_,_,_,x5.ob,EE.cl_j0,EE.n_SumAsker_ways,_,E8 ..,_,_,_,x5.ob,EE.cl_j0,EE.n_SumAsker_ends,_,M3 ..,s.L,ad.pw,ad.pe,_,_,s.W++[bX],s.E++[e],rfl,sz.l6,SqL.of x5.w,x5.wW,by lia,fun v hv=>?_,SqL.of x5.e,x5.eW,by lia,fun v hv=>?_,fun l rs H6 s6 hlN hl6 ku=>?_⟩
   ·rcases jJ_.mp hv with hv|hv
    ·have:=sz.w.2 v hv;lia
    ·rw[jk_.mp hv];lia
   ·rcases jJ_.mp hv with hv|hv
    ·exact sz.e.2 v hv
    ·rw[jk_.mp hv];exact f9
   ·have x6:=x5.same s6;have bC:(JC (Es s.L (s.W++[bX])) (s.E++[e])).length<=70000:=QF s!"" sz.l6 s!"";refine⟨ad.pw,rfl,l,rfl,_,x6.w,_,hl6,by rw[x6.wW.1,ku.1];show (s.W++[bX]).length+_<=_;lia,fun p hp=>?_⟩;have s7:=Same.new hp (o:=.lst ((zs++[V.ref tw])++rs));have x7:=x6.same s7;have hn:Ao K (upd H6 p (.lst ((zs++[V.ref tw])++rs))) ((zs++[V.ref tw])++rs) (need s.L (s.W++[bX]) (s.E++[e])):=(x6.wW.append ku).mono (TK.of s7);refine⟨a,p,ad,_,wv,_,_,rfl,⟨_,_,_,_,_,x7⟩,SqL.of Ab,hn,?_,fun aC H8 x8 f8 k8=>?_⟩
    ·unfold need;rw[js_];lia
    ·have f7:=f5.seq (Frm.of (s6.trans s7) a ad);refine k aC H8 _ ?_ (f7.trans k1 f8) (AdOk.trans f7 k1 k8) ?_ ?_
     ·rw[el];exact x8
     ·rw[el];exact fun _=>rfl
     ·rw[el];exact fun y z=>by cases z
def OW {B:Nat} (o:OkX none B s) (hv:s.wr=some v)(hg:s.gs=some (t,l))(eY:¬ s.W.length=0):0<v.length/\∀lo,GL s.p s.es s.W t v (W71 s.p t l v) v.length 0 v.length=.fin lo->lo<v.length/\AllT s.es s.W (v.drop (lo+1))/\∃i,LK s.p s.es s.W t v lo=some i/\i<s.W.length:=by
 obtain⟨cN,og,t',l',q,e1,g,hq,aG⟩:=o.wr v hv;rw[hg]at e1;cases e1;have tb:=o.tb;have qv:=tb.val hq;have gK:s.W ≠ []:=fun z=>eY (by rw[z];rfl);obtain⟨ha,hn⟩:=NU (most:=s.most) g;have kf:dotW (R71 s.p t s.W.length v) l%s.p=W71 s.p t l v:=by unfold W71;rw[g.ll,Be]
 have gL:0<v.length:=by
  refine qN fun z=>?_;have:v=[]:=jN_.mp z;subst this;have aH:0<s.W.length:=by lia
  obtain⟨m,m1,m2⟩:=g.lt 0 _ (je_ aH);rw[tb.w0 _ (je_ aH),hq]at m2;cases m2;refine aG ?_;rw[<-kf];have hu:dotW (R71 s.p t s.W.length []) l=l.getD 0 0:=by
   rw[Be];exact Io _ g.ll
  rw[hu,jc_,m1];show q=q%s.p;rw[j6_ qv.1 qv.2]
 have key:=MY (p:=s.p) (es:=s.es) (W:=s.W) (t:=t) (v:=v) (goal:=W71 s.p t l v) v.length 0 v.length s!"" gL (jh_ _) (.inl ⟨rfl,q,hq,aG⟩) ⟨by rw[q1_];exact ha,by rw[q1_,jF_,hn];exact kf⟩;refine⟨gL,fun lo hh=>?_⟩;rw[hh]at key;obtain⟨k1,k2,k3⟩:=key;obtain⟨i,x,w,r,tx,m,n1,n2,n3,n4,n5,n6,n7,n8⟩:=VN tb g cN gK k1 k2 k3;exact⟨k1,k3.1,i,n1,(jg_.mp n4).1⟩
noncomputable def M5 (K:α3)(CA CB:Addr)(pre:AS->Prop)(f:AS->AS×Option Wish):Sp:=fun vs H Q _=>∃(a:Addr) (ad:AD) (s:AS) (wv:V) (B:Nat),vs=[.ref a]/\Asks K CA CB H a ad s wv/\OkX none B s/\Bd B s/\s.es.length<=1000/\pre s/\∀aC H' r,Asks K CA CB H' a aC (f s).1 wv->Frm H H' a ad->AdOk H ad aC->((f s).2=none->r=.non)->(∀x,(f s).2=some x->A7 K H' s.p s.L r x)->Q r H'
def BS:⋯ EE.j27 9 ["self"] (M5 K ag aj (fun s=>s.G=[]/\s.wr=none) Jp):=by
 delta EE.j27 Ef
 ·obtain⟨a,ad,s,wv,B,rfl,_⟩:=h;rfl
 ·obtain⟨a,ad,s,wv,B,rfl,⟨gv,rv,zs,ys,us,x⟩,ok,bd,hz,⟨hG,dN⟩,k⟩:=h;refine⟨_,(Ae (Am (AQ (pvD 0) EE.cl_j0 EE.j26.m (C1 EE).g hr.d (C1 EE).b .nil An))),?_⟩;nofun;exact⟨_,_,x.ob,by kernel_rfl,a,ad,s,wv,B,rfl,⟨_,_,_,_,_,x⟩,ok,hG,dN,bd,hz,fun H' r y f h1 h2=>k ad H' r y f (AdOk.refl H ad) h1 h2⟩
def EC:⋯ EE.j38 6 ["self"] (M5 K ag aj (fun s=>s.G=[]/\s.wr≠none) Cv):=by
 delta EE.j38 BI
 ·obtain⟨a,ad,s,wv,B,rfl,_⟩:=h;rfl
 ·obtain⟨a,ad,s,wv,B,rfl,⟨gv,rv,zs,ys,us,x⟩,ok,bd,hz,⟨hG,dN⟩,k⟩:=h;have hl:=Al;have sz:=ok.sz bd;have tb:=ok.tb;have w1:=sz.w.1;have e1:=sz.e.1;obtain⟨v,hv⟩:=Option.ne_none_iff_exists'.mp dN;obtain⟨cN,og,t,l,q0,jJ,g,bV,aG⟩:=ok.wr v hv;have en:Cv s=Gd s v t l:=by
   unfold Cv;rw[hG,hv,jJ]
  rw[en]at k;have wf:=g.wf tb;have lN:=x.gv;rw[jJ]at lN;obtain⟨h,rfl,hh⟩:=lN;have gO:=x.rv;rw[hv]at gO;obtain⟨tv,rfl,ht⟩:=gO;have hvl2:v.length<=500:=by
   have h2:=tb.wn;have h3:=tb.sq;have hm:(s.most+1)*s.E.length<=(s.most+1)*(s.most+1):=zd_ _ s!"";unfold Bd at bd;lia
  refine⟨_,(Ac (Ak (i:=1) BI.nd (Ax (pvD 0) rfl))
   (CV (AZ (ptT (Ap (opE GG) (AK (lenD AG) (by rfl) EE.len qy_ (Aa (Ax (pvD 0) rfl) Ad)) Ai (Av _)))
   (Ae (Am (Bh (pvD 0) EE.cl_j0 EE.j37.m (Bo EE).g hr.d (Bo EE).b .nil An (Aa (Cg Ad) (Aa (pvD 1) Ad)))))
   Au)
   (CV (Ak (i:=2) BI.nd (Af (LL EE) hr.d An (Aa (Ax (pvD 0) rfl) (Aa (Ax (pvD 0) rfl) (Aa (Ax (pvD 0) rfl) (Aa (pvD 1) Ad))))))
   (CV (AZ (ptT (Ap (opE GG) (As (ixTD Ay) (pvD 2) Ai) AA (Av _)))
   (Ac (AB (Bh (pvD 0) EE.cl_j0 EE.j29.m (Cr EE).g hr.d (Cr EE).b .nil An (Aa (As (ixTD Ay) (pvD 2) Ai) Ad)))
   (Ae (Am Bw)))
   Au)
   (Ac (Ak (i:=3) BI.nd (As (ixTD Ay) (pvD 2) Ai))
   (Ae (Am (Bh (pvD 0) EE.cl_j0 EE.j37.m (Bo EE).g hr.d (Bo EE).b .nil An (Aa (Af (M0 EE) hr.d An (Aa (Ax (pvD 0) rfl) (Aa (Ax (pvD 0) rfl) (Aa (Ax (pvD 0) rfl) (Aa (pvD 1) (Aa (pvD 3) Ad)))))) (Aa (BV Gb (pvD 1) (C4 (Ar (opD0 Bl) (pvD 3) Ai)) C3) Ad)))))))))),?_⟩
  nofun;refine⟨_,_,_,x.ob,EE.cl_j0,EE.n_SumAsker_wrong,_,KC ..,_,_,_,x.ob,EE.cl_j0,EE.n_SumAsker_ways,_,E8 ..,ad.pw,rfl,_,.inl (SqL.of x.w),?_⟩;rw[x.wW.1];have bP:∀t'∈t,∀r∈t',∀y∈r,0<=y/\y<s.p:=fun t' bp r hr=>((g.tt t' bp).2 r hr).2;have dE:=hh.sum;rw[g.ll]at wf dE;by_cases eY:s.W.length=0
  ·rw[if_pos s!""];have el:Gd s v t l=Iw s [] v:=by unfold Gd;rw[if_pos eY]
   rw[el]at k;refine⟨_,_,x.ob,by kernel_rfl,by lia,fun p hp=>?_⟩;have s1:=Same.new hp (o:=.tup []);exact⟨a,p,tv,ad,s,wv,[],v,rfl,⟨_,_,_,_,_,x.same s1⟩,sz,Ab,by simp,s1 _ _ ht,hvl2,fun aC H' r y f k' h1 h2=>k aC H' r y ((Frm.of s1 a ad).trans (AdOk.refl H ad) f) (AdOk.trans (Frm.of s1 a ad) (AdOk.refl H ad) k') h1 h2⟩
  ·rw[if_neg s!""];refine Ci ?_;nofun;obtain⟨gL,hfin⟩:=OW ok hv jJ eY;refine⟨_,_,_,x.ob,EE.cl_j0,EE.n_SumAsker_book,_,E7 ..,_,_,_,x.ob,EE.cl_j0,EE.n_SumAsker_ways,_,E8 ..,_,_,_,x.ob,EE.cl_j0,EE.n_SumAsker_guess,_,KA ..,ad.b,ad.d,ad.pw,h,tv,s.p,s.L,s.W.length,s.es,zs,s.W,t,l,v,rfl,x.bk,x.w,x.wW,rfl,by lia,sz.w.2,fun e he=>(tb.bW e he).2,dE,wf,wf.l.2,ht,cN,gL,by lia,fun H1 s1=>⟨fun aQ q ts t' hc hq kR bp=>?_,fun lo t' hc bp=>?_⟩⟩
   ·have el:Gd s v t l=({s with G:=Cq s.es (s.W.map (· ++ v.drop aQ))},none):=by unfold Gd;rw[if_neg eY,hc]
    have x1:=x.same s1;refine Ci ?_;nofun;refine⟨_,SqT.of bp,_,rfl,rfl,?_⟩;rw[if_pos rfl];refine⟨_,_,x1.ob,by kernel_rfl,_,SqT.of bp,_,rfl,a,q,ad,s,wv,ts,_,rfl,⟨_,_,_,_,_,x1⟩,SqL.of hq,kR,by rw[jb_];lia,fun aC H2 y f k'=>?_⟩;refine k aC H2 _ ?_ ((Frm.of s1 a ad).trans (AdOk.refl H ad) f) (AdOk.trans (Frm.of s1 a ad) (AdOk.refl H ad) k') ?_ ?_
    ·rw[el];exact y
    ·rw[el];exact fun _=>rfl
    ·rw[el];exact fun y z=>by cases z
   ·have el:Gd s v t l=Iw s (L5 s t v lo) (v.drop (lo+1)):=by unfold Gd;rw[if_neg eY,hc]
    rw[el]at k;have x1:=x.same s1;obtain⟨gy,aE,i,hi,hiW⟩:=hfin lo hc;refine Ci ?_;nofun;refine⟨_,SqT.of bp,_,rfl,rfl,?_⟩;rw[if_neg (fun z=>absurd (V.str.inj z) (by decide +kernel))];refine Ci ?_;nofun;refine⟨_,SqT.of bp,_,rfl,_,_,x1.ob,by kernel_rfl,_,_,_,x1.ob,EE.cl_j0,EE.n_SumAsker_book,_,E7 ..,_,_,_,x1.ob,EE.cl_j0,EE.n_SumAsker_ways,_,E8 ..,_,_,_,x1.ob,EE.cl_j0,EE.n_SumAsker_guess,_,KA ..,ad.b,ad.d,ad.pw,h,tv,s.p,s.L,s.W.length,lo,s.es,zs,s.W,t,l,v,rfl,x1.bk,x1.w,x1.wW,rfl,sz.w.2,dE.mono s1,wf,bP,s1 _ _ ht,cN,gy,by lia,aE,fun H2 s2=>⟨fun hn=>(by rw[hi]at hn;cases hn),fun i' u jX hu=>?_⟩⟩;rw[hi]at jX;cases jX;have bH:=s1.trans s2;refine⟨lo,rfl,tv,_,rfl,bH _ _ ht,fun te H3 s3 kh=>?_⟩;rw[show (lo:Int)+1=((lo+1:Nat):Int) by lia,CP]at kh;have eZ:=bH.trans s3;have ea:L5 s t v lo=s.W.getD i []++[v.getD lo 0]:=by unfold L5;rw[hi];rfl
    have cq:(s.W.getD i []).length<=50:=by
     rw[jc_,je_ hiW];exact sz.w.2 _ (jQ_ hiW)
    exact⟨a,u,te,ad,s,wv,_,_,rfl,⟨_,_,_,_,_,x.same eZ⟩,sz,by rw[ea];exact s3 _ _ hu,by rw[ea,js_,jW_];lia,kh,by rw[qw_];lia,fun aC H' r y f k' h1 h2=>k aC H' r y ((Frm.of eZ a ad).trans (AdOk.refl H ad) f) (AdOk.trans (Frm.of eZ a ad) (AdOk.refl H ad) k') h1 h2⟩
def BL:⋯ EE.j39 10 ["self"] (M5 K ag aj (fun _=>True) Cv):=by
 delta EE.j39 Jh
 ·obtain⟨a,ad,s,wv,B,rfl,_⟩:=h;rfl
 ·obtain⟨a,ad,s,wv,B,rfl,⟨gv,rv,zs,ys,us,x⟩,ok,bd,hz,_,k⟩:=h;have hl:=Al;refine⟨_,(Ac (AZ (ptT (Ap (opD0 V0) (AK (lenD AG) (by rfl) EE.len qy_ (Aa (Ax (pvD 0) rfl) Ad)) Ai (Av _)))
   (Ae (Am (Cg (Aa AA (Aa (Nl qv_ tm tq Tn (Ax (pvD 0) rfl) (Aa Ai Ad)) Ad)))))
   Au)
   (Ac (AZ (ptT (Ap QU (Ax (pvD 0) rfl) Bw (Av _)))
   (Ae (Am (AQ (pvD 0) EE.cl_j0 EE.j38.m (EC EE).g hr.d (EC EE).b .nil An)))
   Au)
   (Ae (Am (AQ (pvD 0) EE.cl_j0 EE.j27.m (BS EE).g hr.d (BS EE).b .nil An))))),?_⟩
  nofun;refine⟨_,_,_,x.ob,EE.cl_j0,EE.n_SumAsker_gaps,_,SF ..,ad.pg,rfl,_,.inl (SqL.of x.g),?_⟩;cases hG:s.G with
  |cons c r=>
   have kf:us.length=r.length+1:=by rw[x.gW.1,hG];rfl
   have kg:=x.gW;rw[hG]at kg;obtain⟨tc,g1,g2⟩:=kg.2 0 c rfl;rw[if_pos s!""];have el:Cv s=({s with G:=r},some (.ask c)):=by
    unfold Cv;rw[hG]
   have x2:=x.putG (Ao.tail39 kg);have f2:Frm H (upd H ad.pg (.lst (us.eraseIdx 0))) a ad:=Frm.put (.inr (.inr (.inl rfl))) ⟨_,x.g⟩;have tk2:=TK.lst x.g (o:=.lst (us.eraseIdx 0));refine⟨_,_,_,x.ob,EE.cl_j0,EE.n_SumAsker_gaps,_,SF ..,.inl ⟨rfl,_,SqL.of x.g⟩,ad.pg,rfl,_,x.g,by decide,by decide,0,YE (i:=0) s!"",_,g1,by lia,fun p hp=>?_⟩;refine k ad _ _ ?_ (f2.seq (Frm.of (Same.new hp) a ad)) (AdOk.refl H ad) ?_ ?_
   ·rw[el];exact⟨_,_,_,_,_,x2.same (Same.new hp)⟩
   ·rw[el];exact fun z=>by cases z
   ·rw[el];intro y z;cases z;exact⟨p,tc,rfl,Ab,Same.new hp _ _ (tk2 _ _ g2)⟩
  |nil=>
   rw[if_neg (by rw[x.gW.1,hG];simp)];refine⟨_,_,_,x.ob,EE.cl_j0,EE.n_SumAsker_wrong,_,KC ..,?_⟩;cases dN:s.wr with
   |none=>
    have gO:=x.rv;rw[dN]at gO;have gO:rv=.non:=gO;subst gO;have en:Cv s=Jp s:=by
     unfold Cv;rw[hG,dN]
    rw[en]at k;rw[if_neg (by simp)];exact⟨_,_,x.ob,by kernel_rfl,a,ad,s,wv,B,rfl,⟨_,_,_,_,_,x⟩,ok,bd,hz,⟨hG,dN⟩,k⟩
   |some v=>
    have gO:=x.rv;rw[dN]at gO;obtain⟨t,rfl,ht⟩:=gO;rw[if_pos (by simp)];exact⟨_,_,x.ob,by kernel_rfl,a,ad,s,wv,B,rfl,⟨_,_,_,_,_,x⟩,ok,bd,hz,⟨hG,by rw[dN];simp⟩,k⟩
noncomputable def W4 (K:α3)(CA CB:Addr):Sp:=fun vs H Q _=>∃(a:Addr) (ad:AD) (s:AS) (wv:V) (B:Nat),vs=[.ref a]/\Asks K CA CB H a ad s wv/\OkX none B s/\Bd B s/\s.es.length<=1000/\∀aC H' s' x wv',Goes s s' x->Asks K CA CB H' a aC s' wv'->A7 K H' s.p s.L wv' x->Frm H H' a ad->AdOk H ad aC->Q .non H'
def Bq:⋯ EE.j40 11 ["self"] (W4 K ag aj):=by
 delta EE.j40 LD
 ·obtain⟨a,ad,s,wv,B,rfl,_⟩:=h;rfl
 ·obtain⟨a,ad,s,wv,B,rfl,⟨gv,rv,zs,ys,us,x⟩,ok,bd,hz,k⟩:=h;have hl:=Al;refine⟨_,(Ac (Cb (pvD 0) (AQ (pvD 0) EE.cl_j0 EE.j39.m (BL EE).g hr.d (BL EE).b .nil An) rfl)
   (Ae (Gw jL_ (ptT (Ap Ng (Ax (pvD 0) rfl) Bw (Av _)))
   (Ae (Cb (pvD 0) (AQ (pvD 0) EE.cl_j0 EE.j39.m (BL EE).g hr.d (BL EE).b .nil An) rfl))))),?_⟩
  nofun;obtain⟨Pv,aq⟩:∃Pv:Nat->St->Hp->Prop,∀n af H',Pv n af H'↔(∃(da:AD) (s1:AS) (iw:V),Asks K ag aj H' a da s1 iw/\Frm H H' a ad/\AdOk H ad da/\af=[some (.ref a)]/\((iw=.non/\OkX none B s1/\Kept s s1/\(∀s' y,Goes s1 s' y->Goes s s' y)/\n=mu s1+1) \/ ∃y,A7 K H' s.p s.L iw y/\Goes s s1 y/\n=0)):=⟨_,fun _ _ _=>qP_⟩;have step:∀(s1:AS) (da:AD) (iw:V) (H1:Hp) (M:Nat),Asks K ag aj H1 a da s1 iw->Frm H H1 a ad->AdOk H ad da->OkX none B s1->Kept s s1->(∀s' y,Goes s1 s' y->Goes s s' y)->mu s1<=M->∃x x_1,H1 a=some (HO.ins ag x x_1)/\pC ("next_wish" : Str) x_1=none/\M5 K ag aj (fun x=>True) Cv [V.ref a] H1 (fun y H1=>∃x x_2 oH,H1 a=some (HO.ins x x_2 oH)/\Cls K x/\BN K x ("wish" : Str)/\oH.length<1000/\∃m',m'<M+1/\Pv m' [some (V.ref a)] (upd H1 a (HO.ins x x_2 (putF ("wish" : Str) y oH)))) E0:=by
   rintro s1 da iw H1 M ⟨gv,rv,zs,ys,us,x1⟩ f1 k1 i4 gP kx hM;refine⟨_,_,x1.ob,by kernel_rfl,a,da,s1,iw,B,rfl,⟨_,_,_,_,_,x1⟩,i4,by unfold Bd at bd ⊢;rw[gP.m];exact bd,by rw[gP.e];exact hz,trivial,fun cx H2 r x2 f2 k2 hN hS=>?_⟩;obtain⟨oI,gE,zs2,ys2,us2,x2⟩:=x2;refine⟨_,_,_,x2.ob,EE.cl_j0,EE.n_SumAsker_wish,Jr ..,?_⟩;rw[PV];have x3:=x2.put (wv':=r) (gv':=oI) (rv':=gE) (s':=(Cv s1).1) rfl rfl rfl rfl rfl rfl rfl x2.gv x2.rv;have f3:=(f1.trans k1 f2).trans (AdOk.trans f1 k1 k2) (x2.putF (.ins ag cx.dx (afl (Cv s1).1.p r (Cv s1).1.L (Cv s1).1.most cx.b cx.pw cx.pe cx.pg oI gE)));have tk:=x2.tkob (.ins ag cx.dx (afl (Cv s1).1.p r (Cv s1).1.L (Cv s1).1.most cx.b cx.pw cx.pe cx.pg oI gE));have k3:=AdOk.trans f1 k1 k2;cases hn:(Cv s1).2 with
   |none=>
    have e1:Cv s1=((Cv s1).1,none):=by rw[<-hn]
    obtain⟨lO,mP,hmu⟩:=(OU i4).1 _ e1;refine⟨mu (Cv s1).1+1,by lia,(aq _ _ _).mpr ⟨cx,_,r,⟨_,_,_,_,_,x3⟩,f3,k3,rfl,.inl ⟨hN hn,lO,⟨mP.q.trans gP.q,mP.l.trans gP.l,mP.m.trans gP.m,mP.e.trans gP.e⟩,fun s' y hy=>kx s' y (.more e1 hy),rfl⟩⟩⟩
   |some y=>
    have e1:Cv s1=((Cv s1).1,some y):=by rw[<-hn]
    have hw:=(hS y hn).mono tk;rw[gP.q,gP.l]at hw;exact⟨0,by lia,(aq _ _ _).mpr ⟨cx,_,r,⟨_,_,_,_,_,x3⟩,f3,k3,rfl,.inr ⟨y,hw,kx _ _ (.stop e1),rfl⟩⟩⟩
  obtain⟨c1,c2,c3,c4,c5⟩:=step s ad wv H (mu s+1) ⟨_,_,_,_,_,x⟩ (Frm.of (Same.refl _) a ad) (AdOk.refl H ad) ok ⟨rfl,rfl,rfl,rfl⟩ (fun _ _ z=>z) s!"";refine⟨c1,c2,c3,c4,?_⟩;obtain⟨a',aC,s',wv',B',e1,e2,e3,e4,e5,e5',e6⟩:=c5;refine⟨a',aC,s',wv',B',e1,e2,e3,e4,e5,e5',fun cx H2 r x2 f2 k2 hN hS=>?_⟩;obtain⟨d1,d2,d3,d4,d5,d6,d7,m',_,d8⟩:=e6 cx H2 r x2 f2 k2 hN hS;refine⟨d1,d2,d3,d4,d5,d6,d7,LV Pv ⟨m',d8⟩ fun n af H' h'=>?_⟩;obtain⟨da,s1,iw,⟨gv,rv,zs,ys,us,x1⟩,f1,k1,rfl,hh⟩:=(aq _ _ _).mp h';nofun;refine⟨_,_,_,x1.ob,EE.cl_j0,EE.n_SumAsker_wish,_,HH ..,?_⟩;rcases hh with ⟨rfl,i4,gP,kx,hn⟩|⟨y,hw,kx,hn⟩
  ·rw[if_pos rfl];refine⟨fun ai H2=>∃m',m'<n/\Pv m' ai H2,fun _ _ z=>z,?_⟩;subst hn;exact step s1 da _ H' (mu s1) ⟨_,_,_,_,_,x1⟩ f1 k1 i4 gP kx s!""
  ·obtain⟨t,u,e,_⟩:=id hw;rw[if_neg (by rw[e];simp)];exact k da _ s1 y iw kx ⟨_,_,_,_,_,x1⟩ hw f1 k1
noncomputable def VQ (K:α3)(CA CB:Addr)(H:Hp)(a:Addr)(ad:AD)(s:AS)(Q:VK):Prop:=∀aC H' s' x' wv',Goes s s' x'->Asks K CA CB H' a aC s' wv'->A7 K H' s.p s.L wv' x'->Frm H H' a ad->AdOk H ad aC->Q .non H'
noncomputable def SR (K:α3)(CA CB OT BM:Addr):Sp:=fun vs H Q E=>∃(a:Addr) (ad:AD) (s:AS) (wv:V) (x:Wish) (B:Nat) (m:Int),vs=[.ref a,.int m]/\Asks K CA CB H a ad s wv/\A7 K H s.p s.L wv x/\WOk B s x/\Bd B s/\s.es.length<=900/\(x.tag ≠ "ask" -> E (.ref OT) none H)/\∀c,x=.ask c->(¬ (0<=m/\m<s.p)->∀H',Same H H'->E (.ref BM) none H')/\(0<=m->m<s.p->VQ K CA CB H a ad {s with es:=s.es++[(c,m)]} Q)
def DO:CalH P w mg base (CXe P w) EE.j41 12 ["self","number"] (SR K ag aj aw av):=by
 refine HG.okE EE.j41 Hs (fun vs H Q E h=>?_) (fun ao A outer s H vs Q E hr h=>?_)
 ·obtain⟨a,ad,s,wv,x,B,m,rfl,_⟩:=h;rfl
 ·obtain⟨a,ad,s,wv,y,B,m,rfl,⟨gv,rv,zs,ys,us,x⟩,hw,ok,bd,hz,kE,k⟩:=h;have hl:=Al;refine⟨_,(Ac (AB (Bh (pvD 0) EE.cl_j0 EE.j9.m (AW EE).g hr.d (AW EE).b .nil (Jb fun _ _ _ h=>h) (Aa AA Ad)))
   (Ac (AB (Bh (Ax (pvD 0) rfl) EE.cl_j3 EE.j8.m (E6 EE).g hr.d (E6 EE).b .nil (Jb fun _ _ _ h=>h) (Aa (As (ixTD Ay) (Ax (pvD 0) rfl) Ai) (Aa (pvD 1) Ad))))
   (Ae (AB (AQ (pvD 0) EE.cl_j0 EE.j40.m (Bq EE).g hr.d (Bq EE).b .nil An))))),?_⟩
  nofun;refine⟨_,_,x.ob,by kernel_rfl,a,ad,s,wv,y,"ask",rfl,⟨_,_,_,_,_,x⟩,hw,fun cu=>?_,kE⟩;cases y with
  |shown mm ws=>exact absurd cu (show ¬ ("show" : Str) = "ask" by decide +kernel)
  |done mm ws=>exact absurd cu (show ¬ ("done" : Str) = "ask" by decide +kernel)
  |spent c=>exact absurd cu (show ¬ ("spent" : Str) = "ask" by decide +kernel)
  |ask c=>
   obtain⟨t,u,rfl,ht,hu⟩:=hw;obtain⟨kM,kk⟩:=k c rfl;obtain⟨ky,hn,hc,ak,hg⟩:=ok;have hcw:=hc;obtain⟨gh,hb⟩:=x.bk.ob;have fi:c∉s.es.map (·.1):=fun z=>by
    obtain⟨n,bS⟩:=OS.mp z;rw[hn]at bS;cases bS
   have bC:c.length<=900:=by
    have h2:=ky.tb.wn;have h3:=ky.tb.sq;have h4:(s.most+1)*s.E.length<=(s.most+1)*(s.most+1):=zd_ _ s!"";unfold Bd at bd;split at ak<;>lia
   refine⟨_,_,_,x.ob,EE.cl_j0,EE.n_SumAsker_book,_,E7 ..,ad.b,rfl,_,_,hb,by kernel_rfl,_,_,_,x.ob,EE.cl_j0,EE.n_SumAsker_wish,_,HH ..,t,rfl,_,SqT.of ht,_,rfl,ad.b,ad.d,u,s.p,s.L,m,c,s.es,rfl,x.bk,hu,bC,by lia,fun z=>(by rw[hcw]at z;cases z),fun _ hm H' s'=>kM hm H' s',fun _ _ _ n bP _ _ _=>absurd (jv_.mpr ⟨_,bP,rfl⟩) fi,fun _ h0 h9 _ H' dq hf=>?_⟩;unfold putE at dq;rw[if_neg fi]at dq;obtain⟨x2,f2,tk2⟩:=x.putB dq hf;exact⟨_,_,x2.ob,by kernel_rfl,a,ad,_,_,B,rfl,⟨_,_,_,_,_,x2⟩,ky.told (fun b hb=>(ju_ hb).symm) fi hc h0 h9 ak hg,bd,by rw[js_];show _+1<=_;lia,fun aC H3 s' y' wv' go x3 hw3 f3 k3=>kk h0 h9 aC H3 s' y' wv' go x3 hw3 (f2.trans (AdOk.refl H ad) f3) (AdOk.trans f2 (AdOk.refl H ad) k3)⟩
noncomputable def UG (K:α3)(CA CB OT:Addr):Sp:=fun vs H Q E=>∃(a:Addr) (ad:AD) (s:AS) (wv:V) (x:Wish),vs=[.ref a]/\Asks K CA CB H a ad s wv/\A7 K H s.p s.L wv x/\(x.tag ≠ "show" -> E (.ref OT) none H)/\∀mm ws,x=.shown mm ws->∀H' wv',Asks K CA CB H' a ad s wv'->A7 K H' s.p s.L wv' (.done mm ws)->Frm H H' a ad->Q .non H'
def Dv:CalH P w mg base (CXe P w) EE.j45 2 ["self"] (UG K ag aj aw):=by
 refine HG.okE EE.j45 MC (fun vs H Q E h=>?_) (fun ao A outer s H vs Q E hr h=>?_)
 ·obtain⟨a,ad,s,wv,x,rfl,_⟩:=h;rfl
 ·obtain⟨a,ad,s,wv,y,rfl,⟨gv,rv,zs,ys,us,x⟩,hw,kE,k⟩:=h;have hl:=Al;refine⟨_,(Ac (AB (Bh (pvD 0) EE.cl_j0 EE.j9.m (AW EE).g hr.d (AW EE).b .nil (Jb fun _ _ _ h=>h) (Aa AA Ad)))
   (Ae (Cb (pvD 0) (Cg (Aa AA (Aa (As (ixTD Ay) (Ax (pvD 0) rfl) Ai) Ad))) rfl))),?_⟩
  nofun;refine⟨_,_,x.ob,by kernel_rfl,a,ad,s,wv,y,"show",rfl,⟨_,_,_,_,_,x⟩,hw,fun cu=>?_,kE⟩;cases y with
  |ask c=>exact absurd cu (show ¬ ("ask" : Str) = "show" by decide +kernel)
  |done mm ws=>exact absurd cu (show ¬ ("done" : Str) = "show" by decide +kernel)
  |spent c=>exact absurd cu (show ¬ ("spent" : Str) = "show" by decide +kernel)
  |shown mm ws=>
   obtain⟨t,u,rfl,ht,hu⟩:=hw;refine⟨_,_,_,x.ob,EE.cl_j0,EE.n_SumAsker_wish,_,HH ..,t,rfl,_,SqT.of ht,_,rfl,by lia,fun p hp=>?_⟩;have x1:=x.same (Same.new hp (o:=.tup [.str "done",.ref u]));refine⟨_,_,_,x1.ob,EE.cl_j0,EE.n_SumAsker_wish,Jr ..,?_⟩;rw[PV];have x2:=x1.put (wv':=.ref p) (gv':=gv) (rv':=rv) (s':=s) rfl rfl rfl rfl rfl rfl rfl x1.gv x1.rv;have tk:=x1.tkob (.ins ag ad.dx (afl s.p (.ref p) s.L s.most ad.b ad.pw ad.pe ad.pg gv rv));exact k mm ws rfl _ _ ⟨_,_,_,_,_,x2⟩ ⟨p,u,rfl,tk _ _ Ab,GuT.mono hu (TK.trans (TK.new hp) tk)⟩ ((Frm.of (Same.new hp) a ad).seq (x1.putF _))
noncomputable def VR (K:α3)(CA CB OT BW BM ND CO:Addr):Sp:=fun vs H Q E=>∃(a t:Addr) (ad:AD) (s:AS) (wv:V) (x:Wish) (B:Nat) (w:α2) (m:Int),vs=[.ref a,.ref t,.int m]/\Asks K CA CB H a ad s wv/\A7 K H s.p s.L wv x/\WOk B s x/\Bd B s/\s.es.length<=900/\H t=some (.tup (w.map V.int))/\w.length<=600/\(x.tag ≠ "show" -> E (.ref OT) none H)/\∀mm ws,x=.shown mm ws->(isW s.L w=false->∀H',Same H H'->E (.ref BW) none H')/\(isW s.L w=true->¬ (0<=m/\m<s.p)->∀H',Same H H'->E (.ref BM) none H')/\(isW s.L w=true->0<=m->m<s.p->(W71 s.p mm ws w=m->∀H',Same H H'->E (.ref ND) none H')/\(W71 s.p mm ws w≠m->w∈s.es.map (·.1)->∀H',Same H H'->E (.ref CO) none H')/\(W71 s.p mm ws w≠m->w∉s.es.map (·.1)->w.length<=B+(s.most+1)*s.E.length/\VQ K CA CB H a ad {s with es:=s.es++[(w,m)]} Q))
def CC:CalH P w mg base (CXe P w) EE.j50 12 ["self","word","number"] (VR K ag aj aw au av ay ax):=by
 refine HG.okE EE.j50 Fy (fun vs H Q E h=>?_) (fun ao A outer s H vs Q E hr h=>?_)
 ·obtain⟨a,t,ad,s,wv,x,B,wd,m,rfl,_⟩:=h;rfl
 ·obtain⟨a,t,ad,s,wv,y,B,wd,m,rfl,⟨gv,rv,zs,ys,us,x⟩,hw,ok,bd,hz,ht,fk,kE,k⟩:=h;have hl:=Al;refine⟨_,(Ac (AB (Bh (pvD 0) EE.cl_j0 EE.j9.m (AW EE).g hr.d (AW EE).b .nil (Jb fun _ _ _ h=>h) (Aa AA Ad)))
   (Ac (AB (Bh (Ax (pvD 0) rfl) EE.cl_j3 EE.j7.m (BZ EE).g hr.d (BZ EE).b .nil (Jb fun _ _ _ h=>h) (Aa (pvD 1) (Aa (pvD 2) Ad))))
   (Ac (AZ (ptT (Ap (opE GG) (Bh (pvD 0) EE.cl_j0 EE.j49.m (D5 EE).g hr.d (D5 EE).b .nil An (Aa (As (ixTD Ay) (Ax (pvD 0) rfl) Ai) (Aa (pvD 1) Ad))) (pvD 2) (Av _)))
   (Ae (Gz EE.m_j2 EE.x_j2 rfl rfl (Aa AA Ad)))
   Au)
   (Ac (AB (Bh (Ax (pvD 0) rfl) EE.cl_j3 EE.j8.m (E6 EE).g hr.d (E6 EE).b .nil (Jb fun _ _ _ h=>h) (Aa (pvD 1) (Aa (pvD 2) Ad))))
   (Ae (AB (AQ (pvD 0) EE.cl_j0 EE.j40.m (Bq EE).g hr.d (Bq EE).b .nil An))))))),?_⟩
  nofun;refine⟨_,_,x.ob,by kernel_rfl,a,ad,s,wv,y,"show",rfl,⟨_,_,_,_,_,x⟩,hw,fun cu=>?_,kE⟩;cases y with
  |ask c=>exact absurd cu (show ¬ ("ask" : Str) = "show" by decide +kernel)
  |done mm ws=>exact absurd cu (show ¬ ("done" : Str) = "show" by decide +kernel)
  |spent c=>exact absurd cu (show ¬ ("spent" : Str) = "show" by decide +kernel)
  |shown mm ws=>
   obtain⟨tw,u,rfl,dH,hu⟩:=hw;obtain⟨kW,kM,kk⟩:=k mm ws rfl;obtain⟨e9,hG,dN,jJ,g,aE⟩:=ok;obtain⟨gh,hb⟩:=x.bk.ob;have wf:=g.wf e9.tb;refine⟨_,_,_,x.ob,EE.cl_j0,EE.n_SumAsker_book,_,E7 ..,ad.b,rfl,_,_,hb,by kernel_rfl,ad.b,ad.d,t,s.p,s.L,m,wd,s.es,rfl,x.bk,ht,by lia,kW,kM,fun hc h0 h9 H1 s1=>?_⟩;obtain⟨kN,kC,kG⟩:=kk hc h0 h9;have x1:=x.same s1;have cE:=s1 _ _ ht;refine⟨_,_,x1.ob,by kernel_rfl,_,_,_,x1.ob,EE.cl_j0,EE.n_SumAsker_wish,_,HH ..,tw,rfl,_,SqT.of (s1 _ _ dH),_,rfl,a,u,t,s.p,s.L,mm,ws,wd,rfl,GuT.mono hu (TK.of s1),wf,SqT.of cE,fk,hc,fun H2 s2=>⟨rfl,?_⟩⟩;by_cases he:W71 s.p mm ws wd=m
   ·rw[if_pos (by rw[he])];exact⟨by lia,kN he _ (s1.trans s2)⟩
   ·rw[if_neg (fun z=>he (V.int.inj z))];have x2:=x1.same s2;have bH:=s1.trans s2;refine⟨_,_,_,x2.ob,EE.cl_j0,EE.n_SumAsker_book,_,E7 ..,ad.b,rfl,_,_,bH _ _ hb,by kernel_rfl,ad.b,ad.d,t,s.p,s.L,m,wd,s.es,rfl,x2.bk,bH _ _ ht,by lia,by lia,fun z=>(by rw[hc]at z;cases z),fun _ z=>absurd ⟨h0,h9⟩ z,fun _ _ _ n bP _ H3 s3=>kC he (jv_.mpr ⟨_,bP,rfl⟩) H3 (bH.trans s3),fun _ _ _ eN H3 dq hf=>?_⟩;have fi:wd∉s.es.map (·.1):=fun z=>by
     obtain⟨p,hp,rfl⟩:=jv_.mp z;have h1:=eN p.2 hp;exact he ((aE p hp).trans h1)
    unfold putE at dq;rw[if_neg fi]at dq;obtain⟨ak,kT⟩:=kG he fi;obtain⟨x3,f3,mO⟩:=x2.putB dq hf;have f3':=(Frm.of bH a ad).seq f3;exact⟨_,_,x3.ob,by kernel_rfl,a,ad,_,_,B,rfl,⟨_,_,_,_,_,x3⟩,e9.told (fun b hb=>(by cases hb)) fi hc h0 h9 s!"" (by rw[hG];simp),bd,(by rw[js_];show _+1<=_;lia),fun aC H4 s' y' wv' go x4 lP f4 k4=>kT aC H4 s' y' wv' go x4 lP (f3'.trans (AdOk.refl H ad) f4) (AdOk.trans f3' (AdOk.refl H ad) k4)⟩
def B0:CalH P w mg base (CXe P w) EE.j42 13 ["self","number"] (SR K ag aj aw av):=by
 refine HG.okE EE.j42 Ke (fun vs H Q E h=>?_) (fun ao A outer s H vs Q E hr h=>?_)
 ·obtain⟨a,ad,s,wv,x,B,m,rfl,_⟩:=h;rfl
 ·obtain⟨a,ad,s,wv,y,B,m,rfl,⟨gv,rv,zs,ys,us,x⟩,hw,ok,bd,hz,kE,k⟩:=h;have hl:=Al;refine⟨_,(Ae (AB (Bh (pvD 0) EE.cl_j0 EE.j41.m (DO EE).g hr.d (DO EE).b .nil (Jb fun _ _ _ h=>h) (Aa (pvD 1) Ad)))),?_⟩;nofun;exact⟨_,_,x.ob,by kernel_rfl,a,ad,s,wv,y,B,m,rfl,⟨_,_,_,_,_,x⟩,hw,ok,bd,hz,kE,k⟩
def Bv:CalH P w mg base (CXe P w) EE.j51 13 ["self","word","number"] (VR K ag aj aw au av ay ax):=by
 refine HG.okE EE.j51 HZ (fun vs H Q E h=>?_) (fun ao A outer s H vs Q E hr h=>?_)
 ·obtain⟨a,t,ad,s,wv,x,B,wd,m,rfl,_⟩:=h;rfl
 ·obtain⟨a,t,ad,s,wv,y,B,wd,m,rfl,⟨gv,rv,zs,ys,us,x⟩,hw,ok,bd,hz,ht,fk,kE,k⟩:=h;have hl:=Al;refine⟨_,(Ae (AB (Bh (pvD 0) EE.cl_j0 EE.j50.m (CC EE).g hr.d (CC EE).b .nil (Jb fun _ _ _ h=>h) (Aa (pvD 1) (Aa (pvD 2) Ad))))),?_⟩;nofun;exact⟨_,_,x.ob,by kernel_rfl,a,t,ad,s,wv,y,B,wd,m,rfl,⟨_,_,_,_,_,x⟩,hw,ok,bd,hz,ht,fk,kE,k⟩
noncomputable def UH (K:α3)(CA CB:Addr):Sp:=fun vs H Q _=>∃(a dx:Addr) (p:Int) (L most:Nat),vs=[.ref a,.int p,.int L,.int most]/\H a=some (.ins CA dx [])/\Pr p/\1<=L/\L<=6/\most<=12/\∀ad H' s x wv,Goes (s071 p L most) s x->Asks K CA CB H' a ad s wv->A7 K H' p L wv x->(∀y o,H y=some o->y≠a->H' y=some o)->(∀y,H' y=none->H y=none)->(H ad.d=none/\H ad.pw=none/\H ad.pe=none/\H ad.pg=none)->Q .non H'
def Fi:⋯ EE.j57 12 ["self","p","letters","most"] (UH K ag aj):=by
 delta EE.j57 Kf
 ·obtain⟨a,dx,p,L,most,rfl,_⟩:=h;rfl
 ·obtain⟨a,dx,p,L,most,rfl,ha,hp,l1,l6,m12,k⟩:=h;have hl:=Al;refine⟨_,(Ac (AB (Wx rfl EE.m_jb EE.j54.m (JJ EE).g hr.d (JJ EE).b .nil An (Aa (pvD 0) (Aa (pvD 2) (Aa (pvD 3) (Aa (Q0 EE.j56.m (Ge EE).g hr.d rfl EE.m_j3 (Ge EE).b .nil An (Aa (pvD 1) (Aa (pvD 2) Ad))) (Aa (Fe Ad) (Aa (Fe Ad) Ad))))))))
   (Ac (Cb (pvD 0) (pvD 1) rfl)
   (Ae (AB (AQ (pvD 0) EE.cl_j0 EE.j40.m (Bq EE).g hr.d (Bq EE).b .nil An))))),?_⟩
  nofun;intro b gh mQ mR aG;have gD:a≠b:=fun z=>by rw[<-z,ha]at mQ;cases mQ
  refine⟨b,gh,p,L,rfl,Ab,fun d H2 hd bk hf=>⟨rfl,by lia,fun pw eO=>⟨by lia,fun pe gd=>?_⟩⟩⟩;have s2:Same H H2:=fun y o hy=>by
   have y1:y≠b:=fun z=>by rw[z,mQ]at hy;cases hy
   have y2:y≠gh:=fun z=>by rw[z,mR]at hy;cases hy
   exact hf y o (by rw[Aj y1,Aj y2];exact hy) y1
  have mS:H d=none:=by
   cases h:H d with
   |none=>rfl
   |some o=>
    have y1:d≠b:=fun z=>by rw[z,mQ]at h;cases h
    have y2:d≠gh:=fun z=>by rw[z,mR]at h;cases h
    rw[Aj y1,Aj y2,h]at hd;cases hd
  have sw:=Same.new (o:=.lst []) eO;have c8:=sw.trans (Same.new (o:=.lst []) gd);have lP:=(Same.new (o:=.lst []) gd) _ _ (show upd H2 pw (.lst []) pw=some (.lst []) from Ab);have oJ:upd (upd H2 pw (.lst [])) pe (.lst []) pe=some (.lst []):=Ab;have ix:H pw=none:=s2.none eO;have iy:H pe=none:=s2.none (sw.none gd);have mE:pw≠pe:=fun z=>by rw[<-z,Ab]at gd;cases gd
  generalize upd (upd H2 pw (.lst [])) pe (.lst [])=H4 at c8 lP oJ ⊢;have lQ:=s2.trans c8;refine⟨a,dx,b,pw,pe,L,most,rfl,lQ _ _ ha,fun pg H5 gN iK hpg5 lR hn5=>?_⟩;have bk4:=bk.mono c8;have ne:∀y,H y=none->y≠a:=fun y hy z=>by rw[z,ha]at hy;cases hy
  have ed:H pg=none:=lQ.none gN;refine⟨_,_,_,iK,EE.cl_j0,EE.n_SumAsker_p,?_,?_⟩
  ·have pl:∀(f:Str) (v:V) (fs:List (Str×V)) (n:Nat),fs.length<n->(putF f v fs).length<n+1:=fun f v fs n h=>by have:=M4 f v fs;lia
   have:=pl "wrong" .non _ _ (pl "guess" .non _ _ (pl "gaps" (.ref pg) _ _ (pl "ends" (.ref pe) _ _ (pl "ways" (.ref pw) _ _ (pl "book" (.ref b) _ _ (pl "most" (.int most) _ _ (pl "letters" (.int L) _ _ (pl "wish" .non [] 1 (by simp)))))))));unfold aflh;lia
  have ef:putF "p" (.int p) (aflh L most b pw pe pg)=afl p .non L most b pw pe pg .non .non:=UA ..;rw[ef];have x5:AskAt K ag aj (upd H5 a (.ins ag dx (afl p .non L most b pw pe pg .non .non))) a ⟨dx,b,d,pw,pe,pg⟩ (s071 p L most) .non .non .non [] [] []:=
   ⟨Ab,SBookAt.tk bk4 (fun o h=>by rw[Aj (qp_ gD)];exact lR _ _ h (qp_ gD)) (fun o h=>by rw[Aj (ne _ mS)];exact lR _ _ h (ne _ mS)),by rw[Aj (ne _ ix)];exact lR _ _ lP (ne _ ix),Ao.nil,by rw[Aj (ne _ iy)];exact lR _ _ oJ (ne _ iy),Ao.nil,by rw[Aj (ne _ ed)];exact hpg5,Ao.nil,mE,fun z=>(by rw[show pg=pw from z.symm,lP]at gN;cases gN),fun z=>(by rw[show pg=pe from z.symm,oJ]at gN;cases gN),rfl,rfl⟩
  have hf6:∀y o,H4 y=some o->y≠a->upd H5 a (.ins ag dx (afl p .non L most b pw pe pg .non .non)) y=some o:=fun y o h n=>by rw[Aj n];exact lR _ _ h n
  have ik:∀y,upd H5 a (.ins ag dx (afl p .non L most b pw pe pg .non .non)) y=none->H4 y=none:=fun y hy=>by
   by_cases z:y=a
   ·rw[z,Ab]at hy;cases hy
   ·rw[Aj z]at hy;exact hn5 y hy
  generalize upd H5 a (.ins ag dx (afl p .non L most b pw pe pg .non .non))=H6 at x5 hf6 ik ⊢;have hmm:(most+1)*(most+1)<=13*13:=qW_ s!"" s!"";have bd:Bd 12 (s071 p L most):=by
   show 12+(most+1)*(most+1)+most<=500;lia
  have ok:=SI (p:=p) (L:=L) (most:=most) 12 s!"" hp hp.2.1 l1 l6 m12;refine⟨_,_,x5.ob,by kernel_rfl,a,_,s071 p L most,.non,12,rfl,⟨_,_,_,_,_,x5⟩,ok,bd,qc_ _,fun ad7 H7 s' y wv' go x7 hw7 f7 k7=>?_⟩;obtain⟨q1,q2,q3,q4,q5,q6⟩:=k7;have hn:∀y,H7 y=none->H y=none:=fun y hy=>lQ.none (ik y (f7.2 y hy));refine k ad7 H7 s' y wv' go x7 hw7 (fun z o hz hza=>?_) hn ⟨by rw[q3];exact mS,by rw[q4];exact ix,by rw[q5];exact iy,?_⟩
  ·exact f7.1 z o (hf6 _ _ (lQ _ _ hz) hza) hza (fun e=>by rw[e]at hz;rw[show H d=none from mS]at hz;cases hz) (fun e=>by rw[e]at hz;rw[show H pw=none from ix]at hz;cases hz) (fun e=>by rw[e]at hz;rw[show H pe=none from iy]at hz;cases hz) (fun e=>by rw[e]at hz;rw[show H pg=none from ed]at hz;cases hz)
  ·rcases q6 with q6|q6
   ·rw[q6];exact ed
   ·exact lQ.none (ik _ q6)
noncomputable def cell (ns:α2)(k:Nat):Int:=ns.getD k 0
noncomputable def W5 (K:α3):Sp:=fun vs H Q _=>∃(a:Addr) (ns:α2) (k:Nat),vs=[.ref a,.int k]/\SqL K H a (ns.map V.int)/\Q (.int (cell ns k)) H
def AI:⋯ EE.j1 1 ["script","k"] (W5 K):=by
 delta EE.j1 NA
 ·obtain⟨a,ns,k,rfl,_⟩:=h;rfl
 ·obtain⟨a,ns,k,rfl,hs,q⟩:=h;refine⟨_,(Ac (AZ (ptT (Ap (opD0 QT) (pvD 1) (AK (lenD AG) (by rfl) EE.len qy_ (Aa (pvD 0) Ad)) (Av _)))
   (Ae (Am (As (ixLD FF) (pvD 0) (pvD 1))))
   Au)
   (Ae (Am Ai))),?_⟩
  nofun;refine⟨_,.inl hs,?_⟩;rw[jb_];refine ite2 (fun hk=>?_) (fun hk=>?_)
  ·have eJ:k<ns.length:=by simpa using hk
   refine⟨_,hs,V.int (cell ns k),?_,q⟩;refine EK ?_;rw[ji_];unfold cell;rw[jc_];simp[eJ]
  ·have eJ:¬ k<ns.length:=by simpa using hk
   have:cell ns k=0:=by
    unfold cell;rw[jc_,jy_ s!""];rfl
   rw[<-this];exact q
noncomputable def OX:Sp:=fun vs H Q _=>∃n:Int,vs=[.int n]/\2<=n/\n<=1000/\∀b,(b=true↔ES n.toNat)->Q (.bl b) H
def Kl:⋯ EE.j2 1 ["number"] (OX):=by
 delta EE.j2 Fh
 ·obtain⟨n,rfl,_⟩:=h;rfl
 ·obtain⟨n,rfl,hn,mn,k⟩:=h;refine⟨_,(Ac (Bx jL_ rfl (Nd rfl EE.range (Aa Ai (Aa (pvD 0) Ad))) (Aq (i:=1) Fh.nd rfl (o9 rfl))
   (Ac (AZ (ptT (Ap (opD0 V0) (Ar (opD Fd) (pvD 1) (pvD 1)) (pvD 0) (Av _)))
   (Ae (Am DY))
   Au)
   (Ae (AZ (ptT (Ap (opE GG) (Ar (opD A0) (pvD 0) (pvD 1)) Ai (Av _)))
   (Ae (Am DY))
   Au))))
   (Ae (Am DY))),?_⟩
  nofun;refine⟨by lia,by lia,by lia,by lia,?_⟩;refine forR (fun i ai H2=>H2=H/\(∀d,2<=d->d<2+i->n.toNat%d≠0)/\∃o,ai=[some (.int n),o]) ⟨rfl,fun d h1 h2=>by lia,none,rfl⟩ (fun i ai H2 hi h2=>?_) (fun ai H2 h2=>?_)
  ·obtain⟨rfl,aE,o,rfl⟩:=h2;nofun;refine⟨.inl ⟨by lia,by lia⟩,ite2 (fun hp=>k true ⟨fun _=>?_,fun _=>rfl⟩) (fun hp=>⟨by lia,ite2 (fun hm=>k false ⟨(fun z=>by cases z),fun z=>?_⟩) (fun hm=>⟨fun d h1 h2=>?_,_,rfl⟩)⟩)⟩
   ·refine ES.small (k:=2+i) s!"" ?_ fun d h1 h2 _=>aE d h1 h2;have kP:n<((2+i:Nat):Int)*((2+i:Nat):Int):=by push_cast;lia
    rw[<-rD]at kP;lia
   ·refine absurd ?_ (z (2+i) s!"" s!"");have:(n.toNat:Int)%((2+i:Nat):Int)=0:=by rw[show (n.toNat:Int)=n from by lia];push_cast;exact hm
    lia
   ·by_cases hd:d<2+i
    ·exact aE d h1 hd
    ·have:d=2+i:=by lia
     subst this;intro z;have z2:(n.toNat:Int)%((2+i:Nat):Int)=0:=by lia
     rw[show (n.toNat:Int)=n from by lia]at z2;push_cast at z2;exact hm z2
  ·obtain⟨rfl,aE,o,rfl⟩:=h2;nofun;exact k true ⟨fun _ d h1 h2=>aE d h1 s!"",fun _=>rfl⟩
noncomputable def M6:α2:=[2,3,5,7,65537,998244353,2147483647,180143985094819841]
noncomputable def UI (K:α3):Sp:=fun vs H Q _=>∃c:Int,vs=[.int c]/\∀p H',Same H H'->Pr p->Q (.int p) H'
def M7:⋯ EE.j3 2 ["cell"] (UI K):=by
 delta EE.j3 Ds
 ·obtain⟨c,rfl,_⟩:=h;rfl
 ·obtain⟨c,rfl,k⟩:=h;have hl:=Al;refine⟨_,(Ac (Ak (i:=1) Ds.nd (Fe (Aa Ai (Aa Ai (Aa Ai (Aa Ai (Aa Ai (Aa Ai (Aa Ai (Aa Ai Ad))))))))))
   (Ac (AZ (ptT (Ap (opD0 QT) (Ar (opD A0) (pvD 0) Ai) Ai (Av _)))
   (Ae (Am (As (ixLD FF) (pvD 1) (Ar (opD A0) (Ar (opD IX) (pvD 0) Ai) Ai))))
   Au)
   (Ac (Ak (i:=2) Ds.nd (Ar (opD0 Bl) Ai (Ar (opD A0) (Ar (opD IX) (pvD 0) Ai) Ai)))
   (Ac (Gw jL_ (O1 (ptB (FC (Af (Kl EE) hr.d An (Aa (pvD 2) Ad)))))
   (Ae (Ak (i:=2) Ds.nd (Ar (opD0 Bl) (pvD 2) Ai))))
   (Ae (Am (pvD 2))))))),?_⟩
  nofun;refine⟨by lia,fun q hq=>⟨by decide,ite2 (fun _=>?_) (fun _=>⟨⟨by decide,by decide⟩,by decide,?_⟩)⟩⟩
  ·have e0:=jD_ (c / 4) (show (8:Int)≠0 by decide);have e1:=jz_ (c / 4) (show (0:Int)<8 by decide);refine⟨⟨by decide,by decide⟩,by decide,_,SqL.of Ab,?_⟩;generalize c / 4%8=j at e0 e1;have hj:j.toNat<M6.length:=by show j.toNat<8;lia
   have hx:M6[j.toNat]?=some M6[j.toNat]:=by simp[hj]
   exact⟨_,(Hj e0 hx:atI (M6.map V.int) j=_),k _ _ (Same.new hq) (Wu _ (jQ_ hj))⟩
  ·have e0:=jD_ (c / 4) (show (200:Int)≠0 by decide);have e1:=jz_ (c / 4) (show (0:Int)<200 by decide);generalize c / 4%200=j at e0 e1;have s0:=Same.new (o:=.lst [V.int 2,V.int 3,V.int 5,V.int 7,V.int 65537,V.int 998244353,V.int 2147483647,V.int 180143985094819841]) hq;generalize upd H q (.lst [V.int 2,V.int 3,V.int 5,V.int 7,V.int 65537,V.int 998244353,V.int 2147483647,V.int 180143985094819841])=H0 at s0 ⊢;have h211:ES 211:=Eu (n:=4) (by decide) (by decide +kernel) (by decide +kernel);obtain⟨Pv,aq⟩:∃Pv:Nat->St->Hp->Prop,∀m ai H2,Pv m ai H2↔(H2=H0/\∃nb:Int,m=(211-nb).toNat/\2<=nb/\nb<=211/\ai=[some (.int c),some (.ref q),some (.int nb)]):=⟨_,fun _ _ _=>qP_⟩;refine LV Pv ⟨_,(aq _ _ _).mpr ⟨rfl,2+j,rfl,by lia,by lia,rfl⟩⟩ ?_;intro m ai H2 nN;obtain⟨rfl,nb,rfl,n0,n1,rfl⟩:=(aq _ _ _).mp nN;nofun;refine⟨nb,rfl,n0,by lia,fun b hb=>⟨b,rfl,?_⟩⟩;cases b with
   |true=>
    rw[if_neg (by decide)];exact k nb _ s0 ⟨n0,by lia,hb.mp rfl⟩
   |false=>
    rw[if_pos (by decide)];have aG:nb≠211:=fun z=>by
     have:=hb.mpr (by rw[z];exact h211);cases this
    refine⟨fun af H'=>∃m',m'<(211-nb).toNat/\Pv m' af H',fun _ _ h=>h,_,?_,(aq _ _ _).mpr ⟨rfl,nb+1,rfl,by lia,by lia,rfl⟩⟩;lia
noncomputable def bigF (ns:α2)(k:Int):Int:=if k<ns.length then ns.getD k.toNat 0 else (cell ns (k%if (ns.length:Int) > 1 then (ns.length:Int) else 1).toNat%2147483647*48271+k*k*31+7*k)%2147483647
noncomputable def UJ (K:α3):Sp:=fun vs H Q _=>∃(a:Addr) (ns:α2) (k p:Int),vs=[.ref a,.int k,.int p]/\SqL K H a (ns.map V.int)/\ns.length<=63/\0<=k/\k<=100000/\0<p/\Q (.int (bigF ns k%p)) H
def LM:⋯ EE.j59 2 ["script","k","p"] (UJ K):=by
 delta EE.j59 GQ
 ·obtain⟨a,ns,k,p,rfl,_⟩:=h;rfl
 ·obtain⟨a,ns,k,p,rfl,hs,hz,k0,k1,p0,q⟩:=h;refine⟨_,(Ac (AZ (ptT (Ap (opD0 QT) (pvD 1) (AK (lenD AG) (by rfl) EE.len qy_ (Aa (pvD 0) Ad)) (Av _)))
   (Ae (Am (Ar (opD A0) (As (ixLD FF) (pvD 0) (pvD 1)) (pvD 2))))
   Au)
   (Ac (Ak (i:=3) GQ.nd (AK (QW rfl) rfl EE.max tD (Aa Ai (Aa (AK (lenD AG) (by rfl) EE.len qy_ (Aa (pvD 0) Ad)) Ad))))
   (Ae (Am (Ar (opD A0) (Ar (opD A0) (Ar (opD0 Bl) (Ar (opD0 Bl) (Ar (opD Fd) (Ar (opD A0) (Af (AI EE) hr.d An (Aa (pvD 0) (Aa (Ar (opD A0) (pvD 1) (pvD 3)) Ad))) Ai) Ai) (Ar (opD Fd) (Ar (opD Fd) (pvD 1) (pvD 1)) Ai)) (Ar (opD Fd) Ai (pvD 1))) Ai) (pvD 2)))))),?_⟩
  nofun;refine⟨_,.inl hs,?_⟩;rw[jb_];unfold bigF at q;refine ite2 (fun hk=>?_) (fun hk=>?_)
  ·have dm:k<(ns.length:Int):=by simpa using hk
   have eJ:k.toNat<ns.length:=by lia
   rw[if_pos dm]at q;refine⟨_,hs,_,Hj k0 (v:=ns[k.toNat]) (by simp[eJ]),?_⟩;rw[jc_,je_ eJ]at q;exact⟨_,rfl,p0,q⟩
  ·have dm:¬ k<(ns.length:Int):=by simpa using hk
   rw[if_neg dm]at q;have e0:((ns.map V.int).length:Int)=(ns.length:Int):=by rw[jb_]
   have hm:(0:Int)<if (ns.length:Int) > 1 then (ns.length:Int) else 1:=by split<;>lia
   have r0:=jD_ k (show (if (ns.length:Int) > 1 then (ns.length:Int) else 1)≠0 by lia);refine⟨_,.inl hs,?_⟩;rw[jb_];exact⟨hm,a,ns,(k%if (ns.length:Int) > 1 then (ns.length:Int) else 1).toNat,by rw[wc_ r0],hs,_,rfl,by decide,.inr ⟨by decide,by decide⟩,.inl ⟨by lia,by lia⟩,.inr ⟨by decide,by decide⟩,.inl ⟨by decide,by decide⟩,by decide,p0,q⟩
noncomputable def SS (K:α3):Sp:=fun vs H Q _=>∃(p:Int) (a b:Addr) (xs:List V) (ae:α1) (am:α2) (n:Nat),vs=[.int p,.ref b,.ref a]/\0<p/\p<1000000000000000000/\SqT K H a xs/\FA K H xs ae/\ae.length=n/\(∀r∈ae,r.length=n)/\SqT K H b (am.map V.int)/\am.length=n/\n<=16/\(∀x∈am,0<=x/\x<p)/\∀q H',Same H H'->SqT K H' q ((Jm p ae am n).map V.int)->Q (.ref q) H'
def NY:⋯ EE.j61 1 ["p","row","table"] (SS K):=by
 delta EE.j61 F4
 ·obtain⟨p,a,b,xs,ae,am,n,rfl,_⟩:=h;rfl
 ·obtain⟨p,a,b,xs,ae,am,n,rfl,hp,hV,ha,hX,bw,dZ,hb,ak,hn,lj,k⟩:=h;have hl:=Al;refine⟨_,(Ac (Ak (i:=3) F4.nd (Fe Ad))
   (Ac (Bx jL_ rfl (Cf rfl EE.range (Aa (AK (lenD AG) (by rfl) EE.len qy_ (Aa (pvD 1) Ad)) Ad)) (Aq (i:=4) F4.nd rfl (pJ rfl))
   (Ae (AB (Nl qv_ qC_ qD_ Dz (pvD 3) (Aa (Ar (opD A0) (AK (Mt rfl) rfl EE.sum zT_ (Aa (BP rfl (BO rfl) (cp:=Ii) ⟨⟨rfl,rfl⟩,⟨⟨rfl,rfl⟩,⟨⟨rfl,rfl⟩,oZ⟩⟩⟩ (Cf rfl EE.range (Aa (AK (lenD AG) (by rfl) EE.len qy_ (Aa (pvD 1) Ad)) Ad)) (fun _ _ _ _=>(Aq (i:=0) Kj rfl (o9 rfl))) (fun _ _ _ _=>By) (fun _ _ _ _=>(Ar (opD Fd) (As (ixTD (FL (K:=K) rfl)) (pvD 1) (pvD 0)) (As (ixTD (FL (K:=K) rfl)) (As (ixTD (FL (K:=K) rfl)) (pvD 3) (pvD 0)) (pvD 2))))) Ad)) (pvD 0)) Ad)))))
   (Ae (Am (AF AM rfl EE.tuple jO_ (Aa (pvD 3) Ad)))))),?_⟩
  nofun;refine⟨by lia,fun q hq=>⟨_,.inr ((Same.new hq).seqT hb),by rw[jb_];lia,by rw[jb_];lia,?_⟩⟩;rw[jw_,jb_,ak];obtain⟨Pv,aq⟩:∃Pv:Nat->St->Hp->Prop,∀c af H',Pv c af H'↔(Same H H'/\H' q=some (.lst ((Jm p ae am c).map V.int))/\∃o,af=[some (.int p),some (.ref b),some (.ref a),some (.ref q),o]):=⟨_,fun _ _ _=>qP_⟩;refine forR Pv ((aq _ _ _).mpr ⟨Same.new hq,Ab,none,rfl⟩) (fun c ai H2 hc h2=>?_) (fun ai H2 h2=>?_)
  ·obtain⟨s2,cw,o,rfl⟩:=(aq _ _ _).mp h2;rw[xX_];nofun;refine⟨.inl ⟨rfl,_,SqL.of cw⟩,_,.inr (s2.seqT hb),by rw[jb_];lia,by rw[jb_];lia,?_⟩;rw[jw_,jb_,ak];obtain⟨Pc,cm⟩:∃Pc:Nat->List V->St->Hp->Prop,∀j ys bb H4,Pc j ys bb H4↔(H4=H2/\ys=((oX j).map fun k=>am.getD k 0*(ae.getD k []).getD c 0).map V.int/\∃o,bb=[o,some (.ref b),some (.int c),some (.ref a)]):=⟨_,fun _ _ _ _=>qP_⟩;refine Rq Pc ((cm _ _ _ _).mpr ⟨rfl,rfl,none,rfl⟩) s!"" (fun j ys bb H4 _ h4=>?_) (fun j ys bb H4 hj h4=>?_) (fun ys bb H4 h4 D hD=>?_)
   ·obtain⟨_,rfl,_⟩:=(cm _ _ _ _).mp h4;rw[jb_,jb_,jX_];exact jh_ _
   ·obtain⟨rfl,rfl,o',rfl⟩:=(cm _ _ _ _).mp h4;rw[xX_];have oM:j<am.length:=by lia
    have oN:j<ae.length:=by lia
    obtain⟨t,e1,e2⟩:=hX.2 j ae[j] (by simp[oN]);have bC:c<(ae[j]).length:=by rw[dZ _ (jQ_ oN)];exact hc
    have er:ae.getD j []=ae[j]:=by rw[jc_,je_ oN];rfl
    have ea:am.getD j 0=am[j]:=by rw[jc_,je_ oM];rfl
    have ec:(ae.getD j []).getD c 0=(ae[j])[c]:=by rw[er,jc_,je_ bC];rfl
    have hx:=lj _ (jQ_ oM);nofun;refine⟨_,s2.seqT hb,_,Hj s!"" (v:=am[j]) (by simp[oM]),_,s2.seqT ha,_,EK e1,t,rfl,_,s2.seqT e2,_,Hj s!"" (v:=(ae[j])[c]) (by simp[bC]),?_⟩;refine⟨_,rfl,_,rfl,.inl ⟨by lia,by lia⟩,(cm _ _ _ _).mpr ⟨rfl,?_,_,rfl⟩⟩;rw[qM_,jm_,jm_,qh_,qh_,ea,ec]
   ·obtain⟨rfl,rfl,o',rfl⟩:=(cm _ _ _ _).mp h4;refine⟨D,rfl,_,SqL.of Ab,hp,_,(Same.new hD) _ _ cw,by unfold Jm;rw[jb_,jb_,jX_];lia,(aq _ _ _).mpr ⟨(s2.newT hD).over hq,?_,_,rfl⟩⟩;have:=Yx am ae c s!"";rw[bw]at this;rw[Ab,this];unfold Jm;rw[qM_,jm_,jm_];rfl
  ·obtain⟨s2,cw,o,rfl⟩:=(aq _ _ _).mp h2;nofun;exact⟨_,.inl ⟨SqL.of cw,fun t ht=>k t _ (s2.newT ht) (SqT.of Ab)⟩⟩
noncomputable def QG (K:α3):Sp:=fun vs H Q _=>∃(p:Int) (a b:Addr) (xs ys:α2),vs=[.int p,.ref a,.ref b]/\0<p/\p<1000000000000000000/\SqT K H a (xs.map V.int)/\SqT K H b (ys.map V.int)/\xs.length=ys.length/\xs.length<=16/\(∀x∈xs,0<=x/\x<p)/\∀H',Same H H'->Q (.int (dotW xs ys%p)) H'
def M8:⋯ EE.j60 1 ["p","one","two"] (QG K):=by
 delta EE.j60 MK
 ·obtain⟨p,a,b,xs,ys,rfl,_⟩:=h;rfl
 ·obtain⟨p,a,b,xs,ys,rfl,hp,hV,ha,hb,ak,hn,lj,k⟩:=h;have hl:=Al;refine⟨_,(Ae (Am (Ar (opD A0) (AK (Mt rfl) rfl EE.sum zT_ (Aa (BP rfl (BO rfl) (cp:=GX) ⟨⟨rfl,rfl⟩,⟨⟨rfl,rfl⟩,oZ⟩⟩ (Cf rfl EE.range (Aa (AK (lenD AG) (by rfl) EE.len qy_ (Aa (pvD 1) Ad)) Ad)) (fun _ _ _ _=>(Aq (i:=0) Jl rfl (o9 rfl))) (fun _ _ _ _=>By) (fun _ _ _ _=>(Ar (opD Fd) (As (ixTD (FL (K:=K) rfl)) (pvD 1) (pvD 0)) (As (ixTD (FL (K:=K) rfl)) (pvD 2) (pvD 0))))) Ad)) (pvD 0)))),?_⟩;nofun;refine⟨_,.inr ha,by rw[jb_];lia,by rw[jb_];lia,?_⟩;rw[jw_,jb_];obtain⟨Pe,lS⟩:∃Pe:Nat->List V->St->Hp->Prop,∀j zs bb H',Pe j zs bb H'↔(H'=H/\zs=((oX j).map fun k=>xs.getD k 0*ys.getD k 0).map V.int/\∃o,bb=[o,some (.ref a),some (.ref b)]):=⟨_,fun _ _ _ _=>qP_⟩;refine Rq Pe ((lS _ _ _ _).mpr ⟨rfl,rfl,none,rfl⟩) s!"" (fun j zs bb H' _ h4=>?_) (fun j zs bb H' hj h4=>?_) (fun zs bb H' h4 D6 lL=>?_)
  ·obtain⟨_,rfl,_⟩:=(lS _ _ _ _).mp h4;rw[jb_,jb_,jX_];exact jh_ _
  ·obtain⟨rfl,rfl,o',rfl⟩:=(lS _ _ _ _).mp h4;rw[xX_];have lq:j<ys.length:=by lia
   have ex:xs.getD j 0=xs[j]:=by rw[jc_,je_ hj];rfl
   have ey:ys.getD j 0=ys[j]:=by rw[jc_,je_ lq];rfl
   have hx:=lj _ (jQ_ hj);nofun;refine⟨_,ha,_,Hj s!"" (v:=xs[j]) (by simp[hj]),_,hb,_,Hj s!"" (v:=ys[j]) (by simp[lq]),_,rfl,_,rfl,.inl ⟨by lia,by lia⟩,(lS _ _ _ _).mpr ⟨rfl,?_,_,rfl⟩⟩;rw[qM_,jm_,jm_,qh_,qh_,ex,ey]
  ·obtain⟨rfl,rfl,o',rfl⟩:=(lS _ _ _ _).mp h4;have dE:((oX xs.length).map fun k=>xs.getD k 0*ys.getD k 0).sum=dotW xs ys:=by
    unfold dotW
    congr 1
    refine xI_ (by simp[ak]) fun i h1 h2=>?_;have hi:i<xs.length:=by simpa using h1
    have jX:i<ys.length:=by lia
    simp[jc_,hi,jX]
   refine⟨D6,rfl,_,SqL.of Ab,hp,?_⟩;rw[dE];exact k _ (Same.new lL)
noncomputable def OY (K:α3):Sp:=fun vs H Q _=>∃(h a:Addr) (p L:Int) (d:Nat) (first last ws:α2) (tables:α0),vs=[.ref h,.ref a]/\SumH K H h p L first tables last/\WfSum p L d first tables last/\SqT K H a (ws.map V.int)/\isW L ws=true/\∀(t:Addr) (H':Hp),Same H H'->SqT K H' t ((rowS p d tables first ws).map V.int)->Q (.ref t) H'
def LN:⋯ EE.j62 2 ["house","word"] (OY K):=by
 delta EE.j62 CY
 ·obtain⟨h,a,p,L,d,first,last,ws,tables,rfl,_⟩:=h;rfl
 ·obtain⟨h,a,p,L,d,first,last,ws,tables,rfl,hh,wf,hw,hv,k⟩:=h;have h2:=wf.p2;have h18:=wf.p18;have hd:=wf.dl;refine⟨_,(Ac (Ak (i:=2) CY.nd (As (ixTD Ay) (pvD 0) Ai))
   (Ac (Bx jL_ rfl (Nb (pvD 1)) (Aq (i:=3) CY.nd rfl (o9 rfl))
   (Ae (Ak (i:=2) CY.nd (Af (NY EE) hr.d An (Aa (As (ixTD Ay) (pvD 0) Ai) (Aa (pvD 2) (Aa (As (ixTD Ay) (As (ixTD Ay) (pvD 0) Ai) (pvD 3)) Ad)))))))
   (Ae (Am (pvD 2))))),?_⟩
  obtain⟨tf,tt,tl,e1,e2,e3,e4⟩:=id hh;nofun;refine⟨_,e1,_,rfl,⟨_,hw⟩,?_⟩;obtain⟨Pv,aq⟩:∃Pv:Nat->St->Hp->Prop,∀i af H',Pv i af H'↔(∃(t:Addr) (o:Option V),Same H H'/\SqT K H' t ((rowS p d tables first (ws.take i)).map V.int)/\af=[some (.ref h),some (.ref a),some (.ref t),o]):=⟨_,fun _ _ _=>qP_⟩;refine forT (xs:=ws.map V.int) Pv ((aq _ _ _).mpr ⟨tf,none,Same.refl _,e2,rfl⟩) (fun i af H' _ h'=>by obtain⟨_,_,s',_⟩:=(aq _ _ _).mp h';exact s'.seqT hw) (fun i x af H' hx h'=>?_) (fun af H' h'=>?_)
  ·obtain⟨t,o,s2,ht,rfl⟩:=(aq _ _ _).mp h';obtain⟨n,hn,rfl⟩:=Kr hx;have ke:=Bn.mp hv n (jo_ hn);obtain⟨r1,r2⟩:=wf.row (ws.take i);obtain⟨t1,t2,t3⟩:=wf.table ke.1 ke.2;obtain⟨zs,u,xs,z1,z2,z3,z4⟩:=(e4.mono s2).at t1;rw[wc_ ke.1]at z2;nofun;refine⟨_,s2.seqT e1,_,rfl,_,s2.seqT e1,_,rfl,?_⟩;nofun;exact⟨_,z1,_,z2,p,u,t,xs,_,_,d,rfl,by lia,by lia,z3,z4,t2,t3,ht,r1,by lia,r2,fun q H3 s3 hq=>(aq _ _ _).mpr ⟨q,_,s2.trans s3,by rw[Lh hn];exact hq,rfl⟩⟩
  ·obtain⟨t,o,s2,ht,rfl⟩:=(aq _ _ _).mp h';rw[jb_,jF_]at ht;nofun;exact k t _ s2 ht
noncomputable def SU (K:α3):Sp:=fun vs H Q _=>∃(h a:Addr) (p L:Int) (d:Nat) (f l ws:α2) (t:α0),vs=[.ref h,.ref a]/\SumH K H h p L f t l/\WfSum p L d f t l/\SqT K H a (ws.map V.int)/\isW L ws=true/\∀H',Same H H'->Q (.int (dotW (rowS p d t f ws) l%p)) H'
def Iz:⋯ EE.j63 3 ["house","word"] (SU K):=by
 delta EE.j63 ML
 ·obtain⟨h,a,p,L,d,f,l,ws,t,rfl,_⟩:=h;rfl
 ·obtain⟨h,a,p,L,d,f,l,ws,t,rfl,hh,wf,ha,hw,k⟩:=h;obtain⟨a1,a2,a3,x1,x2,x3,xA⟩:=id hh;have jV:=wf.p2;have hV:=wf.p18;have hd:=wf.dl;refine⟨_,(Ae (Am (Af (M8 EE) hr.d An (Aa (As (ixTD Ay) (pvD 0) Ai) (Aa (Af (LN EE) hr.d An (Aa (pvD 0) (Aa (pvD 1) Ad))) (Aa (As (ixTD Ay) (pvD 0) Ai) Ad)))))),?_⟩;nofun;obtain⟨r1,r2⟩:=wf.row ws;exact⟨_,x1,_,rfl,h,a,p,L,d,f,l,ws,t,rfl,hh,wf,ha,hw,fun q H1 s1 hq=>⟨_,s1.seqT x1,_,rfl,p,q,a3,_,l,rfl,by lia,hV,hq,s1.seqT x3,by rw[r1,wf.l.1],by lia,r2,fun H2 s2=>k _ (s1.trans s2)⟩⟩
def NZ {α:Type}[DecidableEq α]{l k:List α}(h:l.Nodup)(hs:∀x∈l,x∈k):l.length<=k.length:=by
 induction l generalizing k with
 |nil=>exact qc_ _
 |cons a l ih=>
  obtain⟨h1,h2⟩:=q9_.mp h;have h3:=ih (k:=k.erase a) h2 fun x hx=>(List.mem_erase_of_ne (fun z=>h1 (by rw[<-z];exact hx))).mpr (hs x (jq_ _ hx));have h4:=hs a jA_;rw[List.length_erase_of_mem h4]at h3;have:=List.length_pos_of_mem h4;rw[jY_];lia
def SV {v:α2}{ks:α1}{n:Nat}(h:∀j,j<n->v++oW j 0∈ks):n<=ks.length:=by
 have:=NZ (l:=(oX n).map fun j=>v++oW j 0) (k:=ks) (by
  rw[List.nodup_iff_pairwise_ne,zL_];refine (List.nodup_iff_pairwise_ne.mp List.nodup_range).imp fun gD z=>gD ?_;have:=xd_ pF z;simpa using this) (fun x hx=>by
  obtain⟨j,hj,rfl⟩:=jv_.mp hx;exact h j (qo_.mp hj))
 rwa [jb_,jX_]at this
noncomputable def Js (ns:α2)(at_ L n:Nat):α2:=(oX n).map fun k:Nat=>(cell ns (at_+k) / 2+(k:Int))%(L:Int)
def IA (ns:α2)(at_ L n:Nat):(Js ns at_ L n).length=n:=by unfold Js;rw[jb_,jX_]
def N0 (ns:α2)(at_ n:Nat){L:Nat}(l1:1<=L):isW (L:Int) (Js ns at_ L n)=true:=by
 refine Bn.mpr fun x hx=>?_;unfold Js at hx;obtain⟨k,_,rfl⟩:=jv_.mp hx;exact⟨jD_ _ s!"",jz_ _ s!""⟩
noncomputable def SW (K:α3):Sp:=fun vs H Q _=>∃(a:Addr) (ns:α2) (at_ L n:Nat),vs=[.ref a,.int at_,.int L,.int n]/\SqL K H a (ns.map V.int)/\1<=L/\n<=100/\∀t H',Same H H'->H' t=some (.tup ((Js ns at_ L n).map V.int))->Q (.ref t) H'
def JK:⋯ EE.j64 2 ["script","at","letters","many"] (SW K):=by
 delta EE.j64 NH
 ·obtain⟨a,ns,at_,L,n,rfl,_⟩:=h;rfl
 ·obtain⟨a,ns,at_,L,n,rfl,hs,l1,hn,k⟩:=h;have hl:=Al;refine⟨_,(Ae (Am (AF AM rfl EE.tuple jO_ (Aa (BP rfl (BO rfl) (cp:=Ij) ⟨⟨rfl,rfl⟩,⟨⟨rfl,rfl⟩,⟨⟨rfl,rfl⟩,oZ⟩⟩⟩ (Cf rfl EE.range (Aa (pvD 3) Ad)) (fun _ _ _ _=>(Aq (i:=0) Kk rfl (o9 rfl))) (fun _ _ _ _=>By) (fun _ _ _ _=>(Ar (opD A0) (Ar (opD0 Bl) (Ar (opD IX) (Af (AI EE) hr.d An (Aa (pvD 2) (Aa (Ar (opD0 Bl) (pvD 3) (pvD 0)) Ad))) Ai) (pvD 0)) (pvD 1)))) Ad)))),?_⟩;nofun;refine⟨by lia,by lia,?_⟩;rw[jw_];obtain⟨Pc,cm⟩:∃Pc:Nat->List V->St->Hp->Prop,∀j us bb H4,Pc j us bb H4↔(H4=H/\us=(Js ns at_ L j).map V.int/\∃o,bb=[o,some (.int L),some (.ref a),some (.int at_)]):=⟨_,fun _ _ _ _=>qP_⟩;refine Rq Pc ((cm _ _ _ _).mpr ⟨rfl,rfl,none,rfl⟩) s!"" (fun j us bb H4 _ h4=>?_) (fun j us bb H4 hj h4=>?_) (fun us bb H4 h4 D hD=>?_)
  ·obtain⟨_,rfl,_⟩:=(cm _ _ _ _).mp h4;rw[jb_,IA];lia
  ·obtain⟨rfl,rfl,o4,rfl⟩:=(cm _ _ _ _).mp h4;rw[xX_];nofun;refine⟨a,ns,at_+j,by push_cast;rfl,hs,_,rfl,by show CDiv _ _;unfold CDiv;lia,by lia,(cm _ _ _ _).mpr ⟨rfl,?_,_,rfl⟩⟩;unfold Js;rw[qM_,jm_,jm_];rfl
  ·obtain⟨rfl,rfl,o4,rfl⟩:=(cm _ _ _ _).mp h4;exact⟨D,rfl,_,.inl ⟨SqL.of Ab,fun t ht=>k t _ ((Same.new hD).newT ht) Ab⟩⟩
noncomputable def QH (K:α3):Sp:=fun vs H Q _=>∃(a l:Addr) (ns:α2) (at_ L:Nat) (rs:List V) (es:Bk),vs=[.ref a,.int at_,.int L,.ref l]/\SqL K H a (ns.map V.int)/\1<=L/\H l=some (.lst rs)/\Cp H rs es/\es.length<=200/\∀t n H',Same H H'->(∀j,j<n->Js ns at_ L (1+cell ns at_%5).toNat++oW j 0∈es.map (·.1))->Js ns at_ L (1+cell ns at_%5).toNat++oW n 0∉es.map (·.1)->n<=es.length->H' t=some (.tup ((Js ns at_ L (1+cell ns at_%5).toNat++oW n 0).map V.int))->Q (.ref t) H'
def Km:⋯ EE.j65 3 ["script","at","letters","heard"] (QH K):=by
 delta EE.j65 Dc
 ·obtain⟨a,l,ns,at_,L,rs,es,rfl,_⟩:=h;rfl
 ·obtain⟨a,l,ns,at_,L,rs,es,rfl,hs,l1,bI,ht,he,k⟩:=h;have hl:=Al;refine⟨_,(Ac (Ak (i:=4) Dc.nd (Af (JK EE) hr.d An (Aa (pvD 0) (Aa (pvD 1) (Aa (pvD 2) (Aa (Ar (opD0 Bl) Ai (Ar (opD A0) (Af (AI EE) hr.d An (Aa (pvD 0) (Aa (pvD 1) Ad))) Ai)) Ad))))))
   (Ac (Gw jL_ (ptT (Ap (X8 (hu9 hr)) (pvD 4) (BP rfl (BO rfl) (cp:=Ez) oZ (Br (pvD 3)) (fun _ _ _ _=>(Aq (i:=0) GK rfl (o9 rfl))) (fun _ _ _ _=>By) (fun _ _ _ _=>(As (ixTD (FL (K:=K) rfl)) (pvD 0) Ai))) rfl))
   (Ae (Ak (i:=4) Dc.nd (Ar Dn (pvD 4) (Cg (Aa Ai Ad))))))
   (Ae (Am (pvD 4))))),?_⟩
  nofun;have c0:=jD_ (cell ns at_) (show (5:Int)≠0 by decide);have c1:=jz_ (cell ns at_) (show (0:Int)<5 by decide);obtain⟨n0,mT⟩:∃n0:Nat,1+cell ns at_%5=(n0:Int):=⟨(1+cell ns at_%5).toNat,by lia⟩;rw[mT,jw_]at k;have hn5:n0<=5:=by lia
  refine⟨a,ns,at_,rfl,hs,_,rfl,by decide,a,ns,at_,L,n0,by rw[mT],hs,l1,by lia,fun t H1 s1 cE=>?_⟩;have bU:=IA ns at_ L n0;generalize Js ns at_ L n0=v at k cE bU;obtain⟨Pv,aq⟩:∃Pv:Nat->St->Hp->Prop,∀m af H',Pv m af H'↔(∃(n:Nat) (t:Addr),Same H H'/\m=es.length+1-n/\n<=es.length/\(∀j,j<n->v++oW j 0∈es.map (·.1))/\H' t=some (.tup ((v++oW n 0).map V.int))/\af=[some (.ref a),some (.int at_),some (.int L),some (.ref l),some (.ref t)]):=⟨_,fun _ _ _=>qP_⟩;refine LV Pv ⟨_,(aq _ _ _).mpr ⟨0,t,s1,rfl,by lia,fun j hj=>absurd hj (zx_ _),by simpa using cE,rfl⟩⟩ fun m af H' h'=>?_;obtain⟨n,t2,s2,hm,hn,aE,eX,rfl⟩:=(aq _ _ _).mp h';nofun;have bp:=ht.mono (TK.of s2);refine⟨⟨_,SqL.of (s2 _ _ bI)⟩,KQ (xs:=rs) (fun i us bb H4=>H4=H'/\Ao K H' us ((es.take i).map (·.1))/\∃o,bb=[o]) ⟨rfl,Ao.nil,none,rfl⟩ (by rw[ht.1];lia) (fun i us bb H4 hi h4=>⟨by rw[h4.1];exact SqL.of (s2 _ _ bI),by rw[h4.2.1.1,jb_,jI_];lia⟩) (fun i x us bb H4 hx h4=>?_) (fun us bb H4 h4 D hD=>?_)⟩
  ·obtain⟨rfl,iu,o,rfl⟩:=h4;have hi:i<es.length:=by rw[<-ht.1];exact (jg_.mp hx).1
   have b8:es[i]?=some es[i]:=by simp[hi]
   obtain⟨q,wt,e1,e2,e3⟩:=bp.2 i _ b8;rw[hx]at e1;cases e1;have et:es.take (i+1)=es.take i++[es[i]]:=by rw[jU_,b8];rfl
   nofun;refine⟨_,SqT.of e2,_,rfl,?_,_,rfl⟩;rw[et,jm_];exact iu.snoc e3
  ·obtain⟨rfl,iu,o,rfl⟩:=h4;rw[ht.1,jF_]at iu;have sD:=Same.new hD (o:=.lst us);refine⟨D,rfl,_,SqL.of Ab,_,_,iu.mono (TK.of sD),SqT.of (sD _ _ eX),ite2 (fun bP=>?_) (fun jW=>?_)⟩
   ·refine⟨fun ai H2=>∃m',m'<m/\Pv m' ai H2,fun _ _ z=>z,by lia,fun q hq=>?_⟩;have sq:=Same.new hq (o:=.tup [V.int 0]);refine Cd.ofS ((sD.trans sq) _ _ eX) Ab (by simp;lia) fun t3 H3 s3 jx=>?_;have hall':∀j,j<n+1->v++oW j 0∈es.map (·.1):=fun j hj=>by
     by_cases z:j<n
     ·exact aE j z
     ·rw[show j=n by lia];exact bP
    have dJ:=SV hall';rw[jb_]at dJ;refine⟨es.length+1-(n+1),by lia,(aq _ _ _).mpr ⟨n+1,t3,s2.trans ((sD.trans sq).trans s3),rfl,dJ,hall',?_,rfl⟩⟩;rw[jx,List.replicate_succ',<-wk_];simp only[jm_,jR_,xS_]
   ·exact k t2 n _ (s2.trans sD) aE jW hn (sD _ _ eX)
noncomputable def addS (b:Bool)(x acc:Str):Str:=if b=true then acc++x else acc
def Lk (h:acc.length+x.length<=N):if b=true then acc.length+x.length<=N/\acc++x=addS b x acc else acc=addS b x acc:=by
 unfold addS;cases b<;>simp[h]
noncomputable def SX (K:α3)(OT BW BM ND CO:Addr):Sp:=fun vs H Q _=>(vs=[.non]/\Q .non H) \/ ∃(ea C:Addr),vs=[.ref ea]/\H ea=some (excO ea C)/\((C=OT/\Q (.str "turn value") H)\/(C=BW/\Q (.str "word value") H)\/(C=BM/\Q (.str "mark value") H)\/(C=ND/\Q (.str "alike value") H)\/(C=CO/\Q (.str "twice value") H))
def CQ:⋯ EE.j43 1 ["e"] (SX K aw au av ay ax):=by
 delta EE.j43 AN
 ·rcases h with ⟨rfl,_⟩|⟨ea,C,rfl,_⟩<;>rfl
 ·have hl:=Al;refine⟨_,(Ac (AZ (ptT (Ap Ng (pvD 0) Bw (Av _)))
   (Ae (Am Bw))
   Au)
   (Ac (Ak (i:=1) AN.nd AA)
   (Ee (AZ (ptB (FC (AK Ce rfl EE.isinstance qA_ (Aa (pvD 0) (Aa (KD (v:=.ref aw) rfl EE.m_j4 rfl) Ad)))))
   (Ae (Ak (i:=1) AN.nd (Ar Dy (pvD 1) AA)))
   Au)
   (Ee (AZ (ptB (FC (AK Ce rfl EE.isinstance qA_ (Aa (pvD 0) (Aa (KD (v:=.ref au) rfl EE.m_j5 rfl) Ad)))))
   (Ae (Ak (i:=1) AN.nd (Ar Dy (pvD 1) AA)))
   Au)
   (Ee (AZ (ptB (FC (AK Ce rfl EE.isinstance qA_ (Aa (pvD 0) (Aa (KD (v:=.ref av) rfl EE.m_j6 rfl) Ad)))))
   (Ae (Ak (i:=1) AN.nd (Ar Dy (pvD 1) AA)))
   Au)
   (Ee (AZ (ptB (FC (AK Ce rfl EE.isinstance qA_ (Aa (pvD 0) (Aa (KD (v:=.ref ay) rfl EE.m_j2 rfl) Ad)))))
   (Ae (Ak (i:=1) AN.nd (Ar Dy (pvD 1) AA)))
   Au)
   (Ee (AZ (ptB (FC (AK Ce rfl EE.isinstance qA_ (Aa (pvD 0) (Aa (KD (v:=.ref ax) rfl EE.m_j1 rfl) Ad)))))
   (Ae (Ak (i:=1) AN.nd (Ar Dy (pvD 1) AA)))
   Au)
   (Ee (AZ (ptB (FC (AK Ce rfl EE.isinstance qA_ (Aa (pvD 0) (Aa (VX (v:=.ty "ValueError") rfl EE.ValueError L2.boot_ValueError rfl) Ad)))))
   (Ae (Ak (i:=1) AN.nd (Ar Dy (pvD 1) AA)))
   Au)
   (Ae (Am (pvD 1))))))))))),?_⟩
  rcases h with ⟨rfl,k⟩|⟨ea,C,rfl,he,k⟩
  ·nofun;exact k
  ·have hk:∃(b0 b1 b2 b3 b4:Bool),ExcCls K C/\kitOne K (.ref C) (.ref aw)=some b0/\kitOne K (.ref C) (.ref au)=some b1/\kitOne K (.ref C) (.ref av)=some b2/\kitOne K (.ref C) (.ref ay)=some b3/\kitOne K (.ref C) (.ref ax)=some b4/\kitOne K (.ref C) (.type "ValueError")=some true/\(addS b0 "turn " "").length<=6/\(addS b1 "word " (addS b0 "turn " "")).length<=6/\(addS b2 "mark " (addS b1 "word " (addS b0 "turn " ""))).length<=6/\(addS b3 "alike " (addS b2 "mark " (addS b1 "word " (addS b0 "turn " "")))).length<=6/\(addS b4 "twice " (addS b3 "alike " (addS b2 "mark " (addS b1 "word " (addS b0 "turn " ""))))).length<=6/\Q (.str (addS b4 "twice " (addS b3 "alike " (addS b2 "mark " (addS b1 "word " (addS b0 "turn " ""))))++("value" : Str))) H:=by
    rcases k with ⟨rfl,k⟩|⟨rfl,k⟩|⟨rfl,k⟩|⟨rfl,k⟩|⟨rfl,k⟩
    ·exact⟨_,_,_,_,_,EE.c_j4,EE.k_j4_j4,EE.k_j4_j5,EE.k_j4_j6,EE.k_j4_j2,EE.k_j4_j1,EE.v_j4,by decide +kernel,by decide +kernel,by decide +kernel,by decide +kernel,by decide +kernel,k⟩
    ·exact⟨_,_,_,_,_,EE.c_j5,EE.k_j5_j4,EE.k_j5_j5,EE.k_j5_j6,EE.k_j5_j2,EE.k_j5_j1,EE.v_j5,by decide +kernel,by decide +kernel,by decide +kernel,by decide +kernel,by decide +kernel,k⟩
    ·exact⟨_,_,_,_,_,EE.c_j6,EE.k_j6_j4,EE.k_j6_j5,EE.k_j6_j6,EE.k_j6_j2,EE.k_j6_j1,EE.v_j6,by decide +kernel,by decide +kernel,by decide +kernel,by decide +kernel,by decide +kernel,k⟩
    ·exact⟨_,_,_,_,_,EE.c_j2,EE.k_j2_j4,EE.k_j2_j5,EE.k_j2_j6,EE.k_j2_j2,EE.k_j2_j1,EE.v_j2,by decide +kernel,by decide +kernel,by decide +kernel,by decide +kernel,by decide +kernel,k⟩
    ·exact⟨_,_,_,_,_,EE.c_j1,EE.k_j1_j4,EE.k_j1_j5,EE.k_j1_j6,EE.k_j1_j2,EE.k_j1_j1,EE.v_j1,by decide +kernel,by decide +kernel,by decide +kernel,by decide +kernel,by decide +kernel,k⟩
   obtain⟨b0,b1,b2,b3,b4,hc,k0,k1,k2,k3,k4,kv,l0,l1,l2,l3,l4,q⟩:=hk;nofun;have q0:(("" : Str)).length<=6:=by decide +kernel
   have w0:("turn " : Str).length<=6:=by decide +kernel
   have w1:("word " : Str).length<=6:=by decide +kernel
   have w2:("mark " : Str).length<=6:=by decide +kernel
   have w3:("alike " : Str).length<=6:=by decide +kernel
   have w4:("twice " : Str).length<=6:=by decide +kernel
   have w5:("value" : Str).length<=6:=by decide +kernel
   refine⟨fun af H'=>af=[some (.ref ea),some (.str (addS b0 "turn " ("" : Str)))]/\H'=H,?_,fun af H' hh=>?_⟩
   ·nofun;exact⟨_,_,.exc he hc,KR,b0,k0,Lk s!""⟩
   obtain⟨rfl,hH⟩:=hh;have hH:=hH.symm;subst hH;refine⟨fun af H'=>af=[some (.ref ea),some (.str (addS b1 "word " (addS b0 "turn " ("" : Str))))]/\H'=H,?_,fun af H' hh=>?_⟩
   ·nofun;exact⟨_,_,.exc he hc,KR,b1,k1,Lk s!""⟩
   obtain⟨rfl,hH⟩:=hh;have hH:=hH.symm;subst hH;refine⟨fun af H'=>af=[some (.ref ea),some (.str (addS b2 "mark " (addS b1 "word " (addS b0 "turn " ("" : Str)))))]/\H'=H,?_,fun af H' hh=>?_⟩
   ·nofun;exact⟨_,_,.exc he hc,KR,b2,k2,Lk s!""⟩
   obtain⟨rfl,hH⟩:=hh;have hH:=hH.symm;subst hH;refine⟨fun af H'=>af=[some (.ref ea),some (.str (addS b3 "alike " (addS b2 "mark " (addS b1 "word " (addS b0 "turn " ("" : Str))))))]/\H'=H,?_,fun af H' hh=>?_⟩
   ·nofun;exact⟨_,_,.exc he hc,KR,b3,k3,Lk s!""⟩
   obtain⟨rfl,hH⟩:=hh;have hH:=hH.symm;subst hH;refine⟨fun af H'=>af=[some (.ref ea),some (.str (addS b4 "twice " (addS b3 "alike " (addS b2 "mark " (addS b1 "word " (addS b0 "turn " ("" : Str)))))))]/\H'=H,?_,fun af H' hh=>?_⟩
   ·nofun;exact⟨_,_,.exc he hc,KR,b4,k4,Lk s!""⟩
   obtain⟨rfl,hH⟩:=hh;have hH:=hH.symm;subst hH;refine⟨fun af ji=>af=[some (.ref ea),some (.str ((addS b4 "twice " (addS b3 "alike " (addS b2 "mark " (addS b1 "word " (addS b0 "turn " ("" : Str))))))++("value" : Str)))]/\ji=H,?_,fun af ji hh=>?_⟩
   ·nofun;refine⟨_,_,.exc he hc,XY,true,kv,?_⟩;rw[if_pos rfl];lia
   obtain⟨rfl,hH⟩:=hh;have hH:=hH.symm;subst hH;nofun;exact q
noncomputable def QS (H:Hp)(Q:VK)(x:Str):Prop:=∀H',Same H H'->Q (.str x) H'
noncomputable def N1 (OT BW BM ND CO:Addr)(H:Hp)(Q:VK)(C:Addr):Prop:=(C=OT/\QS H Q "turn value")\/(C=BW/\QS H Q "word value")\/(C=BM/\QS H Q "mark value")\/(C=ND/\QS H Q "alike value")\/(C=CO/\QS H Q "twice value")
def N1.told (k:N1 OT BW BM ND CO H Q C)(s:Same H H'):(C=OT/\Q (.str "turn value") H')\/(C=BW/\Q (.str "word value") H')\/(C=BM/\Q (.str "mark value") H')\/(C=ND/\Q (.str "alike value") H')\/(C=CO/\Q (.str "twice value") H'):=by
 rcases k with ⟨e,k⟩|⟨e,k⟩|⟨e,k⟩|⟨e,k⟩|⟨e,k⟩
 ·exact .inl ⟨e,k _ s⟩
 ·exact .inr (.inl ⟨e,k _ s⟩)
 ·exact .inr (.inr (.inl ⟨e,k _ s⟩))
 ·exact .inr (.inr (.inr (.inl ⟨e,k _ s⟩)))
 ·exact .inr (.inr (.inr (.inr ⟨e,k _ s⟩)))
noncomputable def Jt (K:α3)(CA CB:Addr):Sp:=fun vs H Q _=>∃(p:Addr) (ad:AD) (s:AS) (wv:V) (x:Wish) (B:Nat) (m:Int),vs=[.ref p,.int m]/\Asks K CA CB H p ad s wv/\A7 K H s.p s.L wv x/\WOk B s x/\Bd B s/\s.es.length<=900/\(x.tag ≠ "ask" -> QS H Q "turn value")/\∀c,x=.ask c->¬ (0<=m/\m<s.p)/\QS H Q "mark value"
def Cs:⋯ EE.j44 14 ["asker","number"] (Jt K ag aj):=by
 delta EE.j44 Du
 ·obtain⟨p,ad,s,wv,x,B,m,rfl,_⟩:=h;rfl
 ·obtain⟨p,ad,s,wv,x,B,m,rfl,S,hw,ok,bd,hz,kT,kM⟩:=h;obtain⟨lT,lU,lV,lW,lX,x0⟩:=id S;have hp:=x0.ob;have hl:=Al;refine⟨_,(Ac (Ak (i:=2) Du.nd Bw)
   (Ee (Rw (i:=3) (E:=(fun σ cls d H1=>σ=[some (.ref p),some (.int m),some .non,none]/\d=none/\Same H H1/\∃C,cls=.ref C/\N1 aw au av ay ax H Q C)) Du.nd rfl rfl rfl EE.m_j7 rfl rfl rfl (fun xe pn hx=>(Ae (AB (Pu (pvD 0) EE.cl_j0 EE.j42.m (B0 EE).g hr.d (B0 EE).b .nil hx (Aa (pvD 1) Ad)))))
   (fun ea pn=>(Ae (Ak (i:=2) Du.nd (pvD 3)))))
   (Ae (Am (Af (CQ EE) hr.d An (Aa (pvD 2) Ad)))))),?_⟩
  nofun;refine⟨fun af H'=>∃(ea C:Addr),af=[some (.ref p),some (.int m),some (.ref ea),none]/\H' ea=some (excO ea C)/\Same H H'/\N1 aw au av ay ax H Q C,?_,fun cG H1 h1=>?_⟩
  ·nofun;refine⟨⟨_,_,hp,by kernel_rfl,p,ad,s,wv,x,B,m,rfl,S,hw,ok,bd,hz,fun hx=>⟨rfl,Same.refl _,_,rfl,.inl ⟨rfl,kT hx⟩⟩,fun c hc=>⟨fun _ H1 s1=>⟨rfl,s1,_,rfl,.inr (.inr (.inl ⟨rfl,(kM c hc).2⟩))⟩,fun h0 h9=>absurd ⟨h0,h9⟩ (kM c hc).1⟩⟩,fun cG cls H1 h1=>?_⟩
   ·obtain⟨rfl,s1,C,rfl,hk⟩:=h1;have hx:exmOne K (.ref C) (.ref aZ)=some true:=by
     rcases id hk with ⟨rfl,_⟩|⟨rfl,_⟩|⟨rfl,_⟩|⟨rfl,_⟩|⟨rfl,_⟩
     ·exact EE.e_j4
     ·exact EE.e_j5
     ·exact EE.e_j6
     ·exact EE.e_j2
     ·exact EE.e_j1
    refine⟨C,rfl,hx,fun ea eU=>?_⟩;nofun;exact⟨C,Ab,s1.newT eU,hk⟩
  ·obtain⟨ea,C,rfl,eU,s1,hk⟩:=h1;nofun;exact .inr ⟨ea,C,rfl,eU,hk.told s1⟩
noncomputable def Ll (K:α3)(CA CB:Addr):Sp:=fun vs H Q _=>∃(p:Addr) (ad:AD) (s:AS) (wv:V) (x:Wish),vs=[.ref p]/\Asks K CA CB H p ad s wv/\A7 K H s.p s.L wv x/\x.tag ≠ "show" /\ QS H Q "turn value"
def GZ:⋯ EE.j46 3 ["asker"] (Ll K ag aj):=by
 delta EE.j46 CW
 ·obtain⟨p,ad,s,wv,x,rfl,_⟩:=h;rfl
 ·obtain⟨p,ad,s,wv,x,rfl,S,hw,jK,kT⟩:=h;obtain⟨lT,lU,lV,lW,lX,x0⟩:=id S;have hp:=x0.ob;have hl:=Al;refine⟨_,(Ac (Ak (i:=1) CW.nd Bw)
   (Ee (Rw (i:=2) (E:=(fun σ cls d H1=>σ=[some (.ref p),some .non,none]/\d=none/\Same H H1/\∃C,cls=.ref C/\N1 aw au av ay ax H Q C)) CW.nd rfl rfl rfl EE.m_j7 rfl rfl rfl (fun xe pn hx=>(Ae (AB (R7 (pvD 0) EE.cl_j0 EE.j45.m (Dv EE).g hr.d (Dv EE).b .nil hx))))
   (fun ea pn=>(Ae (Ak (i:=1) CW.nd (pvD 2)))))
   (Ae (Am (Af (CQ EE) hr.d An (Aa (pvD 1) Ad)))))),?_⟩
  nofun;refine⟨fun af H'=>∃(ea C:Addr),af=[some (.ref p),some (.ref ea),none]/\H' ea=some (excO ea C)/\Same H H'/\N1 aw au av ay ax H Q C,?_,fun cG H1 h1=>?_⟩
  ·nofun;refine⟨⟨_,_,hp,by kernel_rfl,p,ad,s,wv,x,rfl,S,hw,fun hx=>⟨rfl,Same.refl _,_,rfl,.inl ⟨rfl,kT⟩⟩,fun mm ws hx=>absurd (by rw[hx];rfl) jK⟩,fun cG cls H1 h1=>?_⟩
   ·obtain⟨rfl,s1,C,rfl,hk⟩:=h1;have hx:exmOne K (.ref C) (.ref aZ)=some true:=by
     rcases id hk with ⟨rfl,_⟩|⟨rfl,_⟩|⟨rfl,_⟩|⟨rfl,_⟩|⟨rfl,_⟩
     ·exact EE.e_j4
     ·exact EE.e_j5
     ·exact EE.e_j6
     ·exact EE.e_j2
     ·exact EE.e_j1
    refine⟨C,rfl,hx,fun ea eU=>?_⟩;nofun;exact⟨C,Ab,s1.newT eU,hk⟩
  ·obtain⟨ea,C,rfl,eU,s1,hk⟩:=h1;nofun;exact .inr ⟨ea,C,rfl,eU,hk.told s1⟩
noncomputable def Gg (K:α3)(CA CB:Addr):Sp:=fun vs H Q _=>∃(p t:Addr) (ad:AD) (s:AS) (wv:V) (x:Wish) (B:Nat) (w:α2) (m:Int),vs=[.ref p,.ref t,.int m]/\Asks K CA CB H p ad s wv/\A7 K H s.p s.L wv x/\WOk B s x/\Bd B s/\s.es.length<=900/\H t=some (.tup (w.map V.int))/\w.length<=600/\(x.tag ≠ "show" -> QS H Q "turn value")/\∀mm ws,x=.shown mm ws->(isW s.L w=false->QS H Q "word value")/\(isW s.L w=true->¬ (0<=m/\m<s.p)->QS H Q "mark value")/\(isW s.L w=true->0<=m->m<s.p->(W71 s.p mm ws w=m->QS H Q "alike value")/\(W71 s.p mm ws w≠m->w∈s.es.map (·.1)/\QS H Q "twice value"))
def AJ:⋯ EE.j52 14 ["asker","word","number"] (Gg K ag aj):=by
 delta EE.j52 Co
 ·obtain⟨p,t,ad,s,wv,x,B,w,m,rfl,_⟩:=h;rfl
 ·obtain⟨p,t,ad,s,wv,x,B,w,m,rfl,S,hw,ok,bd,hz,ht,fk,kT,kD⟩:=h;obtain⟨lT,lU,lV,lW,lX,x0⟩:=id S;have hp:=x0.ob;have hl:=Al;refine⟨_,(Ac (Ak (i:=3) Co.nd Bw)
   (Ee (Rw (i:=4) (E:=(fun σ cls d H1=>σ=[some (.ref p),some (.ref t),some (.int m),some .non,none]/\d=none/\Same H H1/\∃C,cls=.ref C/\N1 aw au av ay ax H Q C)) Co.nd rfl rfl rfl EE.m_j7 rfl rfl rfl (fun xe pn hx=>(Ae (AB (Pu (pvD 0) EE.cl_j0 EE.j51.m (Bv EE).g hr.d (Bv EE).b .nil hx (Aa (pvD 1) (Aa (pvD 2) Ad))))))
   (fun ea pn=>(Ae (Ak (i:=3) Co.nd (pvD 4)))))
   (Ae (Am (Af (CQ EE) hr.d An (Aa (pvD 3) Ad)))))),?_⟩
  nofun;refine⟨fun af H'=>∃(ea C:Addr),af=[some (.ref p),some (.ref t),some (.int m),some (.ref ea),none]/\H' ea=some (excO ea C)/\Same H H'/\N1 aw au av ay ax H Q C,?_,fun cG H1 h1=>?_⟩
  ·nofun;refine⟨⟨_,_,hp,by kernel_rfl,p,t,ad,s,wv,x,B,w,m,rfl,S,hw,ok,bd,hz,ht,fk,fun hx=>⟨rfl,Same.refl _,_,rfl,.inl ⟨rfl,kT hx⟩⟩,fun mm ws hx=>⟨fun hb H1 s1=>⟨rfl,s1,_,rfl,.inr (.inl ⟨rfl,(kD mm ws hx).1 hb⟩)⟩,fun hv hm H1 s1=>⟨rfl,s1,_,rfl,.inr (.inr (.inl ⟨rfl,(kD mm ws hx).2.1 hv hm⟩))⟩,fun hv h0 h9=>⟨fun he H1 s1=>⟨rfl,s1,_,rfl,.inr (.inr (.inr (.inl ⟨rfl,((kD mm ws hx).2.2 hv h0 h9).1 he⟩)))⟩,fun he bP H1 s1=>⟨rfl,s1,_,rfl,.inr (.inr (.inr (.inr ⟨rfl,(((kD mm ws hx).2.2 hv h0 h9).2 he).2⟩)))⟩,fun he bP=>absurd (((kD mm ws hx).2.2 hv h0 h9).2 he).1 bP⟩⟩⟩,fun cG cls H1 h1=>?_⟩
   ·obtain⟨rfl,s1,C,rfl,hk⟩:=h1;have hx:exmOne K (.ref C) (.ref aZ)=some true:=by
     rcases id hk with ⟨rfl,_⟩|⟨rfl,_⟩|⟨rfl,_⟩|⟨rfl,_⟩|⟨rfl,_⟩
     ·exact EE.e_j4
     ·exact EE.e_j5
     ·exact EE.e_j6
     ·exact EE.e_j2
     ·exact EE.e_j1
    refine⟨C,rfl,hx,fun ea eU=>?_⟩;nofun;exact⟨C,Ab,s1.newT eU,hk⟩
  ·obtain⟨ea,C,rfl,eU,s1,hk⟩:=h1;nofun;exact .inr ⟨ea,C,rfl,eU,hk.told s1⟩
def Goes.det (g:Goes s a x)(h:Goes s b y):a=b/\x=y:=by
 induction g with
 |stop e=>
  cases h with
  |stop e'=>rw[e]at e';cases e';exact⟨rfl,rfl⟩
  |more e' _=>rw[e]at e';cases e'
 |more e _ ih=>
  cases h with
  |stop e'=>rw[e]at e';cases e'
  |more e' h'=>rw[e]at e';cases e';exact ih h'
noncomputable def Ju (ns:α2)(L ar:Nat):α2:=Js ns (4+ar) L (1+cell ns (4+ar)%5).toNat
noncomputable def G0 (ns:α2)(ar:Nat)(s:AS)(x:Wish)(s':AS)(x':Wish):Prop:=match x with
 |.ask c=>Goes {s with es:=s.es++[(c,bigF ns (4+ar)%s.p)]} s' x'
 |.shown mm ws=>(cell ns (5+ar)%9=4/\s'=s/\x'=.done mm ws)\/(cell ns (5+ar)%9≠4/\∃n,(∀j,j<n->Ju ns s.L ar++oW j 0∈s.es.map (·.1))/\Ju ns s.L ar++oW n 0∉s.es.map (·.1)/\Goes {s with es:=s.es++[(Ju ns s.L ar++oW n 0,(W71 s.p mm ws (Ju ns s.L ar++oW n 0)+1)%s.p)]} s' x')
 |_=>s'=s/\x'=x
def SY {v:α2}{ks:α1}{n m:Nat}(h1:∀j,j<n->v++oW j 0∈ks)(h2:v++oW n 0∉ks)(g1:∀j,j<m->v++oW j 0∈ks)(g2:v++oW m 0∉ks):n=m:=by
 rcases qW n m with h|h|h
 ·exact absurd (g1 n h) h2
 ·exact h
 ·exact absurd (h1 m h) g2
def G0.det (g:G0 ns ar s x a y)(h:G0 ns ar s x b z):a=b/\y=z:=by
 cases x with
 |ask c=>exact Goes.det g h
 |shown mm ws=>
  rcases g with ⟨_,rfl,rfl⟩|⟨hc,n,g1,g2,g⟩
  ·rcases h with ⟨_,rfl,rfl⟩|⟨iF,_⟩
   ·exact⟨rfl,rfl⟩
   ·contradiction
  ·rcases h with ⟨iF,_⟩|⟨_,m,h1,h2,h⟩
   ·contradiction
   ·have e:=SY g1 g2 h1 h2;subst e;exact Goes.det g h
 |done mm ws=>obtain⟨rfl,rfl⟩:=g;obtain⟨rfl,rfl⟩:=h;exact⟨rfl,rfl⟩
 |spent c=>obtain⟨rfl,rfl⟩:=g;obtain⟨rfl,rfl⟩:=h;exact⟨rfl,rfl⟩
inductive DRun (ns:α2)(p:Int)(L most:Nat):Nat->AS->Wish->Prop where
 | zero {s:AS} {x:Wish}:Goes (s071 p L most) s x->DRun ns p L most 0 s x
 | succ {n:Nat} {s s':AS} {x x':Wish}:DRun ns p L most n s x->G0 ns n s x s' x'->DRun ns p L most (n+1) s' x'
def DRun.det (g:DRun ns p L most n s x)(h:DRun ns p L most n s' x'):s=s'/\x=x':=by
 induction n generalizing s s' x x' with
 |zero=>
  cases g with
  |zero g=>cases h with
   |zero h=>exact Goes.det g h
 |succ n ih=>
  cases g with
  |succ g st=>cases h with
   |succ h cO =>
    obtain⟨rfl,rfl⟩:=ih g h;exact G0.det st cO
structure R71r (p:Int)(L most n:Nat)(s:AS)(x:Wish):Prop where
 ok:WOk 100 s x
 q:s.p=p
 l:s.L=L
 m:s.most=most
 e:s.es.length<=n
def PX (ns:α2)(ar n:Nat){L:Nat}(l1:1<=L):isW (L:Int) (Ju ns L ar++oW n 0)=true/\Ju ns L ar++oW n 0 ≠ []/\(Ju ns L ar++oW n 0).length<=5+n:=by
 have c0:=jD_ (cell ns (4+ar)) (show (5:Int)≠0 by decide);have c1:=jz_ (cell ns (4+ar)) (show (0:Int)<5 by decide);have hb:(Ju ns L ar).length=(1+cell ns (4+ar)%5).toNat:=IA ..;refine⟨Bn.mpr fun x hx=>?_,fun z=>?_,?_⟩
 ·rcases jJ_.mp hx with h|h
  ·exact Bn.mp (N0 ns _ _ l1) x h
  ·rw[(List.mem_replicate.mp h).2];lia
 ·have:=xd_ pF z;rw[js_,hb]at this;simp at this;lia
 ·rw[js_,hb,xt_];lia
def S0 (l1:1<=L)(hn:n<=90)(r:R71r p L most n s x)(st:G0 ns ar s x s' x'):R71r p L most (n+1) s' x':=by
 have bS:=r.e;cases x with
 |ask c=>
  obtain⟨ky,bT,hc,ak,hg⟩:=id r.ok;have fi:c∉s.es.map (·.1):=fun z=>by
   obtain⟨n,bS⟩:=OS.mp z;rw[bT]at bS;cases bS
  have p2:=ky.tb.pr.1;have m0:=jD_ (bigF ns (4+ar)) (show s.p≠0 by lia);have m9:=jz_ (bigF ns (4+ar)) (show 0<s.p by lia);have i4:=ky.told (m:=bigF ns (4+ar)%s.p) (fun b hb=>(ju_ hb).symm) fi hc m0 m9 ak hg;obtain⟨lO,kp⟩:=Goes.ok st i4;exact⟨lO,kp.q.trans r.q,kp.l.trans r.l,kp.m.trans r.m,by rw[kp.e];simp;lia⟩
 |shown mm ws=>
  rcases st with ⟨_,rfl,rfl⟩|⟨_,k,h1,h2,st⟩
  ·exact⟨r.ok,r.q,r.l,r.m,by lia⟩
  ·obtain⟨e9,hG,dN,jJ,gu,aE⟩:=id r.ok;have p2:=e9.tb.pr.1;obtain⟨b1,b2,b3⟩:=PX ns ar k (L:=s.L) (by rw[r.l];exact l1);have hk:=SV h1;rw[jb_]at hk;have i4:=e9.told (m:=(W71 s.p mm ws (Ju ns s.L ar++oW k 0)+1)%s.p) (fun b hb=>(by cases hb)) h2 b1 (jD_ _ s!"") (jz_ _ s!"") s!"" (by rw[hG];simp);obtain⟨lO,kp⟩:=Goes.ok st i4;exact⟨lO,kp.q.trans r.q,kp.l.trans r.l,kp.m.trans r.m,by rw[kp.e];simp;lia⟩
 |done mm ws=>obtain⟨rfl,rfl⟩:=st;exact⟨r.ok,r.q,r.l,r.m,by lia⟩
 |spent c=>obtain⟨rfl,rfl⟩:=st;exact⟨r.ok,r.q,r.l,r.m,by lia⟩
def DRun.ok (hp:Pr p)(l1:1<=L)(l6:L<=6)(m12:most<=12)(hn:n<=90)(g:DRun ns p L most n s x):R71r p L most n s x:=by
 induction g with
 |zero e=>
  obtain⟨ok,kp⟩:=e.ok (SI 100 s!"" hp hp.2.1 l1 l6 m12);exact⟨ok,kp.q,kp.l,kp.m,by rw[kp.e];exact qc_ _⟩
 |succ _ st ih=>exact S0 l1 s!"" (ih s!"") st
noncomputable def KP (P:Hp->Prop)(H:Hp)(a:Addr)(ad:AD):Prop:=∀H',Frm H H' a ad->P H'
def KP.now {P:Hp->Prop}{H:Hp}{a:Addr}{ad:AD}(k:KP P H a ad):P H:=k H (Frm.of (Same.refl _) a ad)
noncomputable def S1 (K:α3)(CA CB:Addr):Sp:=fun vs H Q _=>∃(a q:Addr) (ns:α2) (p:Int) (L most n ar:Nat) (ad:AD) (s:AS) (wv:V) (x:Wish),vs=[.ref a,.ref q,.int p,.int L,.int ar]/\Asks K CA CB H a ad s wv/\A7 K H s.p s.L wv x/\R71r p L most n s x/\Bd 100 s/\n<=90/\ar<=90/\1<=L/\KP (fun H'=>SqL K H' q (ns.map V.int)) H a ad/\ns.length<=63/\∀aC H' s' x' wv',G0 ns ar s x s' x'->Asks K CA CB H' a aC s' wv'->A7 K H' s.p s.L wv' x'->Frm H H' a ad->AdOk H ad aC->Q .non H'
def Gh:⋯ EE.j66 14 ["asker","script","p","letters","turn"] (S1 K ag aj):=by
 delta EE.j66 F6
 ·obtain⟨a,q,ns,p,L,most,n,ar,ad,s,wv,x,rfl,_⟩:=h;rfl
 ·obtain⟨a,q,ns,p,L,most,n,ar,ad,s,wv,y,rfl,S,hw,r,bd,hn,ht,l1,hq,hz,k⟩:=h;obtain⟨gv,rv,zs,ys,us,x⟩:=id S;have hp:=x.ob;have hl:=Al;have bV:=hq.now;have hre:=r.e;have hL:=r.l;subst hL;have hP:=r.q;subst hP;refine⟨_,(Ac (Ak (i:=5) F6.nd (AQ (pvD 0) EE.cl_j0 EE.j0.m (A8 EE).g hr.d (A8 EE).b .nil An))
   (Ae (AZ (ptT (Ap (opE GG) (As (ixTD Ay) (pvD 5) Ai) AA (Av _)))
   (Ae (AB (Bh (pvD 0) EE.cl_j0 EE.j42.m (B0 EE).g hr.d (B0 EE).b .nil (Jc (P:=P) (w:=w)) (Aa (Af (LM EE) hr.d An (Aa (pvD 1) (Aa (Ar (opD0 Bl) Ai (pvD 4)) (Aa (pvD 2) Ad)))) Ad))))
   (Ae (AZ (PW.pt (Xc (ptT (Ap (opE GG) (As (ixTD Ay) (pvD 5) Ai) AA (Av _))) (VY (ptT (Ap (opE GG) (Ar (opD A0) (Af (AI EE) hr.d An (Aa (pvD 1) (Aa (Ar (opD0 Bl) Ai (pvD 4)) Ad))) Ai) Ai (Av _))))))
   (Ae (AB (AQ (pvD 0) EE.cl_j0 EE.j45.m (Dv EE).g hr.d (Dv EE).b .nil (Jc (P:=P) (w:=w)))))
   (Ae (AZ (ptT (Ap (opE GG) (As (ixTD Ay) (pvD 5) Ai) AA (Av _)))
   (Ac (Ak (i:=6) F6.nd (Af (Km EE) hr.d An (Aa (pvD 1) (Aa (Ar (opD0 Bl) Ai (pvD 4)) (Aa (pvD 3) (Aa (AQ (pvD 0) EE.cl_j0 EE.j58.m (BK EE).g hr.d (BK EE).b .nil An) Ad))))))
   (Ae (AB (Bh (pvD 0) EE.cl_j0 EE.j51.m (Bv EE).g hr.d (Bv EE).b .nil (Jc (P:=P) (w:=w)) (Aa (pvD 6) (Aa (Ar (opD A0) (Ar (opD0 Bl) (Af (Iz EE) hr.d An (Aa (As (ixTD Ay) (pvD 5) Ai) (Aa (pvD 6) Ad))) Ai) (pvD 2)) Ad))))))
   Au))))))),?_⟩
  nofun;refine⟨_,_,hp,by kernel_rfl,a,ad,s,wv,rfl,S,?_⟩;cases y with
  |ask c=>
   obtain⟨t,u,rfl,bp,hu⟩:=id hw;have bp:H t=some (.tup [.str ("ask" : Str),.ref u]):=bp;refine⟨t,rfl,_,SqT.of bp,_,rfl,rfl,?_⟩;rw[if_pos rfl];have p2:=r.ok.1.tb.pr.1;refine⟨_,_,hp,by kernel_rfl,q,ns,4+(ar:Int),s.p,rfl,bV,hz,by lia,by lia,by lia,a,ad,s,_,.ask c,100,_,rfl,S,hw,r.ok,bd,by lia,fun hx=>absurd rfl hx,fun c' hc=>⟨fun bT=>absurd ⟨jD_ _ s!"",jz_ _ s!""⟩ bT,fun h0 h9 aC H' s' x' wv' go S' iz f o=>k aC H' s' x' wv' ?_ S' iz f o⟩⟩;cases hc;exact go
  |shown mm ws=>
   obtain⟨t,u,rfl,bp,hu⟩:=id hw;have bp:H t=some (.tup [.str ("show" : Str),.ref u]):=bp;obtain⟨e9,hG,dN,jJ,gu,aE⟩:=id r.ok;have wf:=gu.wf e9.tb;have p2:=e9.tb.pr.1;refine⟨t,rfl,_,SqT.of bp,_,rfl,rfl,?_⟩;rw[if_neg (fun z=>absurd (V.str.inj z) (by decide +kernel))];refine⟨t,rfl,_,SqT.of bp,_,rfl,rfl,?_⟩;rw[if_pos rfl];refine⟨q,ns,5+ar,by push_cast;rfl,bV,_,rfl,by decide,?_⟩;by_cases hc:cell ns (5+ar)%9=4
   ·rw[if_pos hc];refine⟨_,_,hp,by kernel_rfl,a,ad,s,_,_,rfl,S,hw,fun hx=>absurd rfl hx,fun mm' ws' e H' wv' S' iz f=>?_⟩;cases e;exact k ad H' s _ wv' (.inl ⟨hc,rfl,rfl⟩) S' iz f (AdOk.refl H ad)
   ·rw[if_neg hc];refine⟨t,rfl,_,SqT.of bp,_,rfl,rfl,?_⟩;rw[if_pos rfl];refine⟨_,_,hp,by kernel_rfl,a,ad,s,_,rfl,S,fun l rs H1 s1 gH bI i3=>?_⟩;refine⟨q,l,ns,4+ar,s.L,rs,s.es,by push_cast;rfl,s1.seq bV,l1,bI,i3,by lia,fun t2 m H2 s2 h1 h2 hm eX=>?_⟩;have bH:=s1.trans s2;obtain⟨b1,b2,b3⟩:=PX ns ar m l1;have h1:∀j,j<m->Ju ns s.L ar++oW j 0∈s.es.map (·.1):=h1;have h2:Ju ns s.L ar++oW m 0∉s.es.map (·.1):=h2;have eX:H2 t2=some (.tup ((Ju ns s.L ar++oW m 0).map V.int)):=eX;have e0:G0 ns ar s (.shown mm ws)=G0 ns ar s (.shown mm ws):=rfl;refine⟨_,_,bH _ _ hp,by kernel_rfl,t,rfl,_,SqT.of (bH _ _ bp),_,rfl,?_⟩;obtain⟨v,hv⟩:∃v,v=Ju ns s.L ar++oW m 0:=⟨_,rfl⟩;have ew:dotW (rowS s.p ws.length mm (Bu ws.length 0) v) ws%s.p=W71 s.p mm ws v:=by unfold W71 R71;rw[Be]
    have r0:0<=W71 s.p mm ws v:=jD_ _ s!"";have r1:W71 s.p mm ws v<s.p:=jz_ _ s!"";refine⟨u,t2,s.p,s.L,_,_,ws,v,mm,rfl,(GuT.sum hu).mono bH,wf,SqT.of (by rw[hv];exact eX),by rw[hv];exact b1,fun H3 s3=>?_⟩;rw[ew];have iA:=bH.trans s3;refine⟨_,rfl,by lia,a,t2,ad,s,_,.shown mm ws,100,v,_,rfl,⟨_,_,_,_,_,x.same iA⟩,hw.mono (TK.of iA),r.ok,bd,by lia,by rw[hv];exact s3 _ _ eX,by rw[hv];lia,fun hx=>absurd rfl hx,fun mm' ws' e=>?_⟩;cases e;refine⟨fun hb=>?_,fun _ iW=>?_,fun _ h0 h9=>⟨fun he=>?_,fun _ bP=>absurd bP (by rw[hv];exact h2),fun _ _=>⟨by rw[hv];lia,fun aC H' s' x' wv' go S' iz f o=>k aC H' s' x' wv' (.inr ⟨hc,m,h1,h2,by rw[<-hv];exact go⟩) S' iz ((Frm.of iA a ad).seq f) (AdOk.trans (Frm.of iA a ad) (AdOk.refl H ad) o)⟩⟩⟩
    ·rw[hv,b1]at hb;cases hb
    ·exact absurd ⟨jD_ _ s!"",jz_ _ s!""⟩ iW
    ·exfalso;by_cases aH:W71 s.p mm ws v+1<s.p
     ·rw[j6_ s!"" aH]at he;lia
     ·rw[show W71 s.p mm ws v+1=s.p by lia,sx]at he;lia
  |done mm ws=>
   obtain⟨t,u,rfl,bp,hu⟩:=id hw;have bp:H t=some (.tup [.str ("done" : Str),.ref u]):=bp;refine⟨t,rfl,_,SqT.of bp,_,rfl,rfl,?_⟩;rw[if_neg (fun z=>absurd (V.str.inj z) (by decide +kernel))];refine⟨t,rfl,_,SqT.of bp,_,rfl,rfl,?_⟩;rw[if_neg (fun z=>absurd (V.str.inj z) (by decide +kernel))];refine⟨t,rfl,_,SqT.of bp,_,rfl,rfl,?_⟩;rw[if_neg (fun z=>absurd (V.str.inj z) (by decide +kernel))];exact k ad H s _ _ ⟨rfl,rfl⟩ S hw (Frm.of (Same.refl _) a ad) (AdOk.refl H ad)
  |spent c=>
   obtain⟨t,u,rfl,bp,hu⟩:=id hw;have bp:H t=some (.tup [.str ("spent" : Str),.ref u]):=bp;refine⟨t,rfl,_,SqT.of bp,_,rfl,rfl,?_⟩;rw[if_neg (fun z=>absurd (V.str.inj z) (by decide +kernel))];refine⟨t,rfl,_,SqT.of bp,_,rfl,rfl,?_⟩;rw[if_neg (fun z=>absurd (V.str.inj z) (by decide +kernel))];refine⟨t,rfl,_,SqT.of bp,_,rfl,rfl,?_⟩;rw[if_neg (fun z=>absurd (V.str.inj z) (by decide +kernel))];exact k ad H s _ _ ⟨rfl,rfl⟩ S hw (Frm.of (Same.refl _) a ad) (AdOk.refl H ad)
def Asks.same {K:α3} {ad:AD} {wv:V}(x:Asks K CA CB H a ad s wv)(e:Same H H'):Asks K CA CB H' a ad s wv:=by
 obtain⟨gv,rv,zs,ys,us,x⟩:=x;exact⟨_,_,_,_,_,x.same e⟩
noncomputable def LO (K:α3)(H:Hp)(l:Addr)(s:AS)(x:Wish):Prop:=∃wv l1 l2 l3 xs ys rs,H l=some (.lst [wv,.ref l1,.ref l2,.ref l3])/\A7 K H s.p s.L wv x/\H l1=some (.lst xs)/\Ao K H xs s.W/\H l2=some (.lst ys)/\Ao K H ys s.E/\H l3=some (.lst rs)/\Cp H rs s.es
def LO.mono {K:α3} (h:LO K H l s x)(e:Same H H'):LO K H' l s x:=by
 obtain⟨wv,l1,l2,l3,xs,ys,rs,a,b,c,d,f,g,i,j⟩:=h;exact⟨wv,l1,l2,l3,xs,ys,rs,e _ _ a,b.mono (TK.of e),e _ _ c,d.mono (TK.of e),e _ _ f,g.mono (TK.of e),e _ _ i,j.mono (TK.of e)⟩
noncomputable def UK (K:α3)(CA CB:Addr):Sp:=fun vs H Q _=>∃(a:Addr) (ad:AD) (s:AS) (wv:V) (x:Wish),vs=[.ref a]/\Asks K CA CB H a ad s wv/\A7 K H s.p s.L wv x/\∀l H',Same H H'->LO K H' l s x->Q (.ref l) H'
def CS:⋯ EE.j70 3 ["asker"] (UK K ag aj):=by
 delta EE.j70 OM
 ·obtain⟨a,ad,s,wv,x,rfl,_⟩:=h;rfl
 ·obtain⟨a,ad,s,wv,y,rfl,S,hw,k⟩:=h;obtain⟨lT,lU,lV,lW,lX,x0⟩:=id S;have hp:=x0.ob;have hl:=Al;refine⟨_,(Ae (Am (Fe (Aa (AQ (pvD 0) EE.cl_j0 EE.j0.m (A8 EE).g hr.d (A8 EE).b .nil An) (Aa (AQ (pvD 0) EE.cl_j0 EE.j68.m (GY EE).g hr.d (GY EE).b .nil An) (Aa (AQ (pvD 0) EE.cl_j0 EE.j69.m (Gf EE).g hr.d (Gf EE).b .nil An) (Aa (AQ (pvD 0) EE.cl_j0 EE.j58.m (BK EE).g hr.d (BK EE).b .nil An) Ad))))))),?_⟩;nofun;refine⟨_,_,hp,by kernel_rfl,a,ad,s,wv,rfl,S,_,_,hp,by kernel_rfl,a,ad,s,wv,rfl,S,fun l1 xs H1 s1 h10 h1 w1=>?_⟩;refine⟨_,_,s1 _ _ hp,by kernel_rfl,a,ad,s,wv,rfl,S.same s1,fun l2 ys H2 s2 h20 h2 w2=>?_⟩;have bH:=s1.trans s2;refine⟨_,_,bH _ _ hp,by kernel_rfl,a,ad,s,wv,rfl,S.same bH,fun l3 rs H3 s3 h30 h3 w3=>⟨by lia,fun l jw=>?_⟩⟩;have s4:=Same.new jw (o:=.lst [wv,.ref l1,.ref l2,.ref l3]);have c8:=s3.trans s4;have s24:=s2.trans c8;exact k l _ (bH.trans c8) ⟨wv,l1,l2,l3,xs,ys,rs,Ab,hw.mono (TK.of (bH.trans c8)),s24 _ _ h1,w1.mono (TK.of s24),c8 _ _ h2,w2.mono (TK.of c8),s4 _ _ h3,w3.mono (TK.of s4)⟩
def Y2 {K:α3}{H H1:Hp} {ad:AD}(h:SqL K H q xs)(e:∀y o,H y=some o->H1 y=some o)(fr:H a=none/\H ad.d=none/\H ad.pw=none/\H ad.pe=none/\H ad.pg=none):KP (fun H'=>SqL K H' q xs) H1 a ad:=fun H2 f=>by
 have g:∀o,H q=some o->H2 q=some o:=fun o hy=>f.1 q o (e _ _ hy) (fun z=>by rw[z,fr.1]at hy;cases hy) (fun z=>by rw[z,fr.2.1]at hy;cases hy) (fun z=>by rw[z,fr.2.2.1]at hy;cases hy) (fun z=>by rw[z,fr.2.2.2.1]at hy;cases hy) (fun z=>by rw[z,fr.2.2.2.2]at hy;cases hy);rcases h with (h|⟨o,h⟩)|h
 ·exact .inl (.inl (g _ h))
 ·exact .inl (.inr ⟨o,g _ h⟩)
 ·exact .inr h
noncomputable def OZ (K:α3)(CA CB:Addr):Sp:=fun vs H Q _=>∃(q:Addr) (ns:α2) (p:Int) (L n:Nat),vs=[.ref q,.int p,.int L,.int n]/\SqL K H q (ns.map V.int)/\ns.length<=63/\Pr p/\1<=L/\L<=6/\n<=80/\∀a ad H' most s x wv,most=(1+cell ns 2%3).toNat->DRun ns p L most n s x->Asks K CA CB H' a ad s wv->A7 K H' p L wv x->(∀y o,H y=some o->H' y=some o)->(∀y,H' y=none->H y=none)->(H a=none/\H ad.d=none/\H ad.pw=none/\H ad.pe=none/\H ad.pg=none)->Q (.ref a) H'
def G1:⋯ EE.j67 15 ["script","p","letters","turns"] (OZ K ag aj):=by
 delta EE.j67 Ej
 ·obtain⟨q,ns,p,L,n,rfl,_⟩:=h;rfl
 ·obtain⟨q,ns,p,L,n,rfl,hq,hz,hp,l1,l6,hn,k⟩:=h;have hl:=Al;refine⟨_,(Ac (Ak (i:=4) Ej.nd (Q0 EE.j57.m (Fi EE).g hr.d rfl EE.m_j0 (Fi EE).b .nil An (Aa (pvD 1) (Aa (pvD 2) (Aa (Ar (opD0 Bl) Ai (Ar (opD A0) (Af (AI EE) hr.d An (Aa (pvD 0) (Aa Ai Ad))) Ai)) Ad)))))
   (Ac (Bx jL_ rfl (Cf rfl EE.range (Aa (pvD 3) Ad)) (Aq (i:=5) Ej.nd rfl (o9 rfl))
   (Ae (AB (Af (Gh EE) hr.d An (Aa (pvD 4) (Aa (pvD 0) (Aa (pvD 1) (Aa (pvD 2) (Aa (pvD 5) Ad)))))))))
   (Ae (Am (pvD 4))))),?_⟩
  nofun;have c0:=jD_ (cell ns 2) (show (3:Int)≠0 by decide);have c1:=jz_ (cell ns 2) (show (0:Int)<3 by decide);obtain⟨most,hm⟩:∃most:Nat,most=(1+cell ns 2%3).toNat:=⟨_,rfl⟩;have oO:1+cell ns 2%3=(most:Int):=by lia
  have m1:1<=most:=by lia
  have m4:most<=3:=by lia
  refine⟨q,ns,2,rfl,hq,_,rfl,by decide,?_⟩;rw[oO];intro a dx haN mR aG;refine⟨a,dx,p,L,most,rfl,Ab,hp,l1,l6,by lia,fun ad H1 s x wv go S hw hf bT iS=>⟨rfl,by lia,by lia,?_⟩⟩;rw[jw_];have hb:(most+1)*(most+1)<=4*4:=qW_ s!"" s!"";have nz:∀y,upd (upd H dx (HO.own a)) a (HO.ins ag dx []) y=none->H y=none:=fun y hy=>by
   by_cases z1:y=a
   ·rw[z1,Ab]at hy;cases hy
   ·by_cases z2:y=dx
    ·rw[z2,Aj (by rw[<-z2];exact z1),Ab]at hy;cases hy
    ·rw[Aj z1,Aj z2]at hy;exact hy
  have hfr':H a=none/\H ad.d=none/\H ad.pw=none/\H ad.pe=none/\H ad.pg=none:=⟨haN,nz _ iS.1,nz _ iS.2.1,nz _ iS.2.2.1,nz _ iS.2.2.2⟩;have hU:∀y o,H y=some o->H1 y=some o:=fun y o hy=>by
   have y1:y≠a:=fun z=>by rw[z,haN]at hy;cases hy
   have y2:y≠dx:=fun z=>by rw[z,mR]at hy;cases hy
   exact hf _ _ (by rw[Aj y1,Aj y2];exact hy) y1
  obtain⟨Pv,aq⟩:∃Pv:Nat->St->Hp->Prop,∀i af H',Pv i af H'↔(∃(aC:AD) (s':AS) (x':Wish) (wv':V) (o:Option V),DRun ns p L most i s' x'/\Asks K ag aj H' a aC s' wv'/\A7 K H' p L wv' x'/\(∀y o,H y=some o->H' y=some o)/\(∀y,H' y=none->H y=none)/\(H a=none/\H aC.d=none/\H aC.pw=none/\H aC.pe=none/\H aC.pg=none)/\af=[some (.ref q),some (.int p),some (.int L),some (.int n),some (.ref a),o]):=⟨_,fun _ _ _=>qP_⟩;refine forR Pv ((aq _ _ _).mpr ⟨ad,s,x,wv,none,.zero go,S,hw,hU,fun y hy=>nz y (bT y hy),hfr',rfl⟩) (fun i af H' hi h'=>?_) (fun af H' h'=>?_)
  ·obtain⟨aC,s',x',wv',o,dr,S',iz,eJ,bS,fb,rfl⟩:=(aq _ _ _).mp h';have r:=dr.ok hp l1 l6 s!"" s!"";have hsL:=r.l;have cz:=r.q;have hsm:=r.m;nofun;refine⟨a,q,ns,p,L,most,i,i,aC,s',wv',x',by rw[xX_],S',by rw[hsL,cz];exact iz,r,by unfold Bd;rw[hsm];lia,by lia,by lia,l1,Y2 hq eJ fb,hz,fun cx H2 s2 x2 oP st S2 mU f2 o2=>(aq _ _ _).mpr ⟨cx,s2,x2,oP,_,.succ dr st,S2,by rw[hsL,cz]at mU;exact mU,fun y oo hy=>?_,fun y hy=>bS y (f2.2 y hy),?_,rfl⟩⟩
   ·exact f2.1 y oo (eJ y oo hy) (fun z=>by rw[z,fb.1]at hy;cases hy) (fun z=>by rw[z,fb.2.1]at hy;cases hy) (fun z=>by rw[z,fb.2.2.1]at hy;cases hy) (fun z=>by rw[z,fb.2.2.2.1]at hy;cases hy) (fun z=>by rw[z,fb.2.2.2.2]at hy;cases hy)
   ·obtain⟨_,_,q3,q4,q5,q6⟩:=o2;refine⟨fb.1,by rw[q3];exact fb.2.1,by rw[q4];exact fb.2.2.1,by rw[q5];exact fb.2.2.2.1,?_⟩;rcases q6 with q6|q6
    ·rw[q6];exact fb.2.2.2.2
    ·exact bS _ q6
  ·obtain⟨aC,s',x',wv',o,dr,S',iz,eJ,bS,fb,rfl⟩:=(aq _ _ _).mp h';nofun;exact k a aC H' most s' x' wv' hm dr S' iz eJ bS fb
def EqD.all43 {K:α3} (hq:(SqL K H a xs/\SqL K H c ys)\/(SqT K H a xs/\SqT K H c ys))(hl:xs.length=ys.length)(h:∀(i:Nat) (x y:V),xs[i]?=some x->ys[i]?=some y->EqD K H n x y true):EqD K H (n+1) (.ref a) (.ref c) true:=
 .inr ⟨a,c,xs,ys,rfl,rfl,hq,fun _=>true,h,by simp[hl]⟩
def EqD.int43 {K:α3} (n:Nat)(i:Int):EqD K H n (.int i) (.int i) true:=by
 cases n with
 |zero=>exact⟨rfl,rfl,by simp[eqV]⟩
 |succ n=>exact .inl ⟨rfl,rfl,by simp[eqV]⟩
def EqD.str43 {K:α3} (n:Nat)(i:Str):EqD K H n (.str i) (.str i) true:=by
 cases n with
 |zero=>exact⟨rfl,rfl,by simp[eqV]⟩
 |succ n=>exact .inl ⟨rfl,rfl,by simp[eqV]⟩
def EqD.word43 {K:α3}{H:Hp}(n:Nat){a b:Addr}{w:α2}(h:SqT K H a (w.map V.int))(g:SqT K H b (w.map V.int)):EqD K H (n+1) (.ref a) (.ref b) true:=by
 have:=EqD.ints (K:=K) (H:=H) (a:=a) (c:=b) (xs:=w) (ys:=w) (.inr ⟨h,g⟩) n;rw[qx_ rfl]at this;exact this
def YH {α:Type}{P:Nat->α->α->Prop}{a b c d:α}(h0:P 0 a c)(h1:P 1 b d):∀i x y,[a,b][i]?=some x->[c,d][i]?=some y->P i x y:=by
 intro i x y hx hy
 match i with
 |0=>simp at hx hy;subst hx hy;exact h0
 |1=>simp at hx hy;subst hx hy;exact h1
 |i+2=>simp at hx
def Ao.eqT57 {K:α3} (h3:SqT K H a zs)(h4:Ao K H zs ws)(g3:SqT K H b gF)(g4:Ao K H gF ws)(n:Nat):EqD K H (n+2) (.ref a) (.ref b) true:=by
 refine EqD.all43 (.inr ⟨h3,g3⟩) (by rw[h4.1,g4.1]) fun i x y hx hy=>?_;obtain⟨t,w,e1,rfl,e2⟩:=h4.at hx;obtain⟨u,w',f1,rfl,f2⟩:=g4.at hy;rw[e1]at f1;cases f1;exact EqD.word43 _ (SqT.of e2) (SqT.of f2)
def TabT.eq71 {K:α3} (h1:SqT K H a us)(h:TabT K H us t)(g1:SqT K H b dG)(g:TabT K H dG t)(n:Nat):EqD K H (n+3) (.ref a) (.ref b) true:=by
 refine EqD.all43 (.inr ⟨h1,g1⟩) (by rw[h.1,g.1]) fun i x y hx hy=>?_;have hi:i<t.length:=by rw[<-h.1];exact (jg_.mp hx).1
 obtain⟨u,zs,e1,e2,e3⟩:=h.2 i t[i] (by simp[hi]);obtain⟨u',gF,f1,f2,f3⟩:=g.2 i t[i] (by simp[hi]);rw[hx]at e1;cases e1;rw[hy]at f1;cases f1;exact Ao.eqT57 (SqT.of e2) e3 (SqT.of f2) f3 n
def GuT.eq71 {K:α3} (h:GuT K H a p L t l)(g:GuT K H b p L t l)(n:Nat):EqD K H (n+4) (.ref a) (.ref b) true:=by
 obtain⟨tf,tt,tl,us,h1,h2,h3,h4,h5⟩:=h;obtain⟨tf',tt',tl',dG,g1,g2,g3,g4,g5⟩:=g;refine EqD.all43 (.inr ⟨SqT.of h1,SqT.of g1⟩) rfl fun i x y hx hy=>?_
 match i with
 |0=>simp at hx hy;subst hx hy;exact EqD.int43 _ _
 |1=>simp at hx hy;subst hx hy;exact EqD.int43 _ _
 |2=>simp at hx hy;subst hx hy;exact EqD.word43 _ (SqT.of h2) (SqT.of g2)
 |3=>simp at hx hy;subst hx hy;exact TabT.eq71 (SqT.of h3) h4 (SqT.of g3) g4 n
 |4=>simp at hx hy;subst hx hy;exact EqD.word43 _ (SqT.of h5) (SqT.of g5)
 |i+5=>simp at hx
def A7.eq57 {K:α3} (h:A7 K H p L v x)(g:A7 K H p L v' x)(n:Nat):EqD K H (n+5) v v' true:=by
 obtain⟨t,u,rfl,h1,h2⟩:=h;obtain⟨t',u',rfl,g1,g2⟩:=g;refine EqD.all43 (.inr ⟨SqT.of h1,SqT.of g1⟩) rfl (YH (P:=fun _ x y=>EqD K H (n+4) x y true) (EqD.str43 _ _) ?_);cases x with
 |ask c=>exact EqD.word43 _ (SqT.of h2) (SqT.of g2)
 |spent c=>exact EqD.word43 _ (SqT.of h2) (SqT.of g2)
 |shown m ws=>exact GuT.eq71 h2 g2 n
 |done m ws=>exact GuT.eq71 h2 g2 n
def Cp.eq43 {K:α3} (h:Cp H xs es)(g:Cp H ys es)(ha:H a=some (.lst xs))(hb:H b=some (.lst ys))(n:Nat):EqD K H (n+3) (.ref a) (.ref b) true:=by
 refine EqD.all43 (.inl ⟨SqL.of ha,SqL.of hb⟩) (by rw[h.1,g.1]) fun i x y hx hy=>?_;have hi:i<es.length:=by rw[<-h.1];exact (jg_.mp hx).1
 obtain⟨t,wt,e1,e2,e3⟩:=h.2 i es[i] (by simp[hi]);obtain⟨u,wu,f1,f2,f3⟩:=g.2 i es[i] (by simp[hi]);rw[hx]at e1;cases e1;rw[hy]at f1;cases f1;exact EqD.all43 (.inr ⟨SqT.of e2,SqT.of f2⟩) rfl (YH (P:=fun _ x y=>EqD K H (n+1) x y true) (EqD.word43 _ (SqT.of e3) (SqT.of f3)) (EqD.int43 _ _))
def YI {α:Type}{P:Nat->α->α->Prop}{a b e k c d f l:α}(h0:P 0 a c)(h1:P 1 b d)(h2:P 2 e f)(h3:P 3 k l):∀i x y,[a,b,e,k][i]?=some x->[c,d,f,l][i]?=some y->P i x y:=by
 intro i x y hx hy
 match i with
 |0=>simp at hx hy;subst hx hy;exact h0
 |1=>simp at hx hy;subst hx hy;exact h1
 |2=>simp at hx hy;subst hx hy;exact h2
 |3=>simp at hx hy;subst hx hy;exact h3
 |i+4=>simp at hx
def LO.eq57 {K:α3} (h:LO K H l s x)(g:LO K H l' s x):EqD K H 8 (.ref l) (.ref l') true:=by
 obtain⟨wv,l1,l2,l3,xs,ys,rs,h0,hw,h2,h3,h4,h5,h6,h7⟩:=h;obtain⟨wv',l1',l2',l3',iO,ys',rs',g0,gw,g2,g3,g4,g5,g6,g7⟩:=g;exact EqD.all43 (.inl ⟨SqL.of h0,SqL.of g0⟩) rfl (YI (P:=fun _ x y=>EqD K H 7 x y true) (hw.eq57 gw 2) (Ao.eq h3 g3 (SqL.of h2) (SqL.of g2) 5) (Ao.eq h5 g5 (SqL.of h4) (SqL.of g4) 5) (Cp.eq43 h7 g7 h6 g6 4))
noncomputable def Fps (a:Addr)(ad:AD)(y:Addr):Prop:=y=a\/y=ad.d\/y=ad.pw\/y=ad.pe\/y=ad.pg
noncomputable def Dis (a:Addr)(ad:AD)(a':Addr)(aC:AD):Prop:=∀y,Fps a ad y->¬ Fps a' aC y
def AskAt.tkF {K:α3} {ad:AD} {wv gv rv:V} (x:AskAt K CA CB H a ad s wv gv rv zs ys us)(f:Frm H H' a ad):TK H H':=fun t ts h=>f.1 _ _ h (fun z=>by rw[z,x.ob]at h;cases h) (fun z=>by rw[z,x.bk.dc]at h;cases h) (fun z=>by rw[z,x.w]at h;cases h) (fun z=>by rw[z,x.e]at h;cases h) (fun z=>by rw[z,x.g]at h;cases h)
def AskAt.keep {K:α3} {ad:AD} {wv gv rv:V} (x:AskAt K CA CB H a ad s wv gv rv zs ys us)(k:∀y o,H y=some o->(y=a\/y=ad.b\/y=ad.d\/y=ad.pw\/y=ad.pe\/y=ad.pg)->H' y=some o)(tk:TK H H'):AskAt K CA CB H' a ad s wv gv rv zs ys us:=
 ⟨k _ _ x.ob (.inl rfl),SBookAt.tk x.bk (fun o h=>k _ _ h (.inr (.inl rfl))) (fun o h=>k _ _ h (.inr (.inr (.inl rfl)))),k _ _ x.w (.inr (.inr (.inr (.inl rfl)))),x.wW.mono tk,k _ _ x.e (.inr (.inr (.inr (.inr (.inl rfl))))),x.eW.mono tk,k _ _ x.g (.inr (.inr (.inr (.inr (.inr rfl))))),x.gW.mono tk,x.we,x.wg,x.eg,x.gv.mono tk,x.rv.mono tk⟩
def Asks.other {K:α3} {ad aC:AD} {wv wv':V}(x:Asks K CA CB H a ad s wv)(y:Asks K CA CB H a' aC s' wv')(d:Dis a ad a' aC)(f:Frm H H' a ad):Asks K CA CB H' a' aC s' wv':=by
 obtain⟨gv,rv,zs,ys,us,X⟩:=x;obtain⟨gv',rv',gF,ys',dG,Y⟩:=y;have nf:∀y,Fps a' aC y->∀o,H y=some o->H' y=some o:=fun y hy o ho=>by
  have h:¬ Fps a ad y:=fun z=>d y z hy;exact f.1 y o ho (fun z=>h (.inl z)) (fun z=>h (.inr (.inl z))) (fun z=>h (.inr (.inr (.inl z)))) (fun z=>h (.inr (.inr (.inr (.inl z))))) (fun z=>h (.inr (.inr (.inr (.inr z)))))
 refine⟨_,_,_,_,_,Y.keep (fun y o ho hc=>?_) (X.tkF f)⟩;rcases hc with hc|hc|hc|hc|hc|hc
 ·exact nf y (.inl hc) o ho
 ·obtain⟨gh,hb⟩:=Y.bk.ob;rw[<-hc]at hb;refine f.1 y o ho (fun z=>?_) (fun z=>by rw[z,X.bk.dc]at hb;cases hb) (fun z=>by rw[z,X.w]at hb;cases hb) (fun z=>by rw[z,X.e]at hb;cases hb) (fun z=>by rw[z,X.g]at hb;cases hb);rw[z,X.ob]at hb;injection hb with hb;injection hb with _ _ hb;have:=xd_ pF hb;rw[show (sbf (s'.L:Int) aC.d s'.p).length=3 from by kernel_rfl]at this;simp[afl]at this
 ·exact nf y (.inr (.inl hc)) o ho
 ·exact nf y (.inr (.inr (.inl hc))) o ho
 ·exact nf y (.inr (.inr (.inr (.inl hc)))) o ho
 ·exact nf y (.inr (.inr (.inr (.inr hc)))) o ho
noncomputable def Scr (K:α3)(H:Hp)(q:Addr)(xs:List V)(a:Addr)(ad:AD):Prop:=(Rd H q (.lst xs)/\¬ Fps a ad q) \/ ∀H',SqL K H' q xs
def Rd.frm57 {ad:AD}(h:Rd H q (.lst xs))(n:¬ Fps a ad q)(f:Frm H H' a ad):Rd H' q (.lst xs):=by
 have g:∀o,H q=some o->H' q=some o:=fun o ho=>f.1 q o ho (fun z=>n (.inl z)) (fun z=>n (.inr (.inl z))) (fun z=>n (.inr (.inr (.inl z)))) (fun z=>n (.inr (.inr (.inr (.inl z))))) (fun z=>n (.inr (.inr (.inr (.inr z)))));rcases h with h|⟨o,h⟩
 ·exact .inl (g _ h)
 ·exact .inr ⟨o,g _ h⟩
def Scr.kp {K:α3} {ad:AD}(h:Scr K H q xs a ad):KP (fun H'=>SqL K H' q xs) H a ad:=fun H' f=>by
 rcases h with ⟨h,n⟩|h
 ·exact .inl (Rd.frm57 h n f)
 ·exact h H'
def Scr.of {K:α3}{H H1:Hp} {ad:AD}(h:SqL K H q xs)(e:Same H H1)(fr:H a=none/\H ad.d=none/\H ad.pw=none/\H ad.pe=none/\H ad.pg=none):Scr K H1 q xs a ad:=by
 rcases h with h|h
 ·have hs:∃o,H q=some o:=by
   rcases h with h|⟨o,h⟩
   ·exact⟨_,h⟩
   ·exact⟨_,h⟩
  obtain⟨o,ho⟩:=hs;refine .inl ⟨?_,fun z=>?_⟩
  ·rcases h with h|⟨o,h⟩
   ·exact .inl (e _ _ h)
   ·exact .inr ⟨o,e _ _ h⟩
  ·rcases z with z|z|z|z|z
   ·rw[z,fr.1]at ho;cases ho
   ·rw[z,fr.2.1]at ho;cases ho
   ·rw[z,fr.2.2.1]at ho;cases ho
   ·rw[z,fr.2.2.2.1]at ho;cases ho
   ·rw[z,fr.2.2.2.2]at ho;cases ho
 ·exact .inr fun H'=>.inr h
def Fps.next {ad aC:AD}(n:¬ Fps a ad q)(o:AdOk H ad aC)(h:H q≠none):¬ Fps a aC q:=by
 obtain⟨_,_,q3,q4,q5,q6⟩:=o;rintro (z|z|z|z|z)
 ·exact n (.inl z)
 ·exact n (.inr (.inl (z.trans q3)))
 ·exact n (.inr (.inr (.inl (z.trans q4))))
 ·exact n (.inr (.inr (.inr (.inl (z.trans q5)))))
 ·rcases q6 with q6|q6
  ·exact n (.inr (.inr (.inr (.inr (z.trans q6)))))
  ·rw[z]at h;exact h q6
def Scr.next {K:α3} {ad aC:AD}(h:Scr K H q xs a ad)(f:Frm H H' a ad)(o:AdOk H ad aC):Scr K H' q xs a aC:=by
 rcases h with ⟨h,n⟩|h
 ·exact .inl ⟨Rd.frm57 h n f,Fps.next n o (by rcases h with h|⟨o,h⟩<;>rw[h]<;>simp)⟩
 ·exact .inr h
def Scr.other {K:α3} {ad aC:AD}(h:Scr K H q xs a' aC)(g:Scr K H q xs a ad)(f:Frm H H' a ad):Scr K H' q xs a' aC:=by
 rcases h with ⟨h,n⟩|h
 ·rcases g with ⟨_,m⟩|g
  ·exact .inl ⟨Rd.frm57 h m f,n⟩
  ·exact .inr g
 ·exact .inr h
def Asks.fps {K:α3} {ad:AD} {wv:V}(x:Asks K CA CB H a ad s wv) (h:Fps a ad y):H y≠none:=by
 obtain⟨gv,rv,zs,ys,us,X⟩:=x;rcases h with rfl|rfl|rfl|rfl|rfl
 ·rw[X.ob];simp
 ·rw[X.bk.dc];simp
 ·rw[X.w];simp
 ·rw[X.e];simp
 ·rw[X.g];simp
def Dis.next {K:α3} {ad da aC:AD} (d:Dis a ad a' aC)(y:Asks K CA CB H a' aC s' wv')(o:AdOk H ad da):Dis a da a' aC:=fun z hz mw=>Fps.next (fun w=>d z w mw) o (y.fps mw) hz
def Dis.symm {ad aC:AD}(d:Dis a ad a' aC):Dis a' aC a ad:=fun y h g=>d y g h
def Asks.tk {K:α3} {ad:AD} {wv:V}(x:Asks K CA CB H a ad s wv)(f:Frm H H' a ad):TK H H':=by
 obtain⟨gv,rv,zs,ys,us,X⟩:=x;exact X.tkF f
noncomputable def S5 (K:α3)(CA CB:Addr):Sp:=fun vs H Q _=>∃(a q:Addr) (ns:α2) (p:Int) (L most n:Nat) (ad:AD) (s:AS) (wv:V) (x:Wish),vs=[.ref a,.ref q,.int p,.int L,.int n]/\Asks K CA CB H a ad s wv/\A7 K H s.p s.L wv x/\most=(1+cell ns 2%3).toNat/\DRun ns p L most n s x/\Pr p/\1<=L/\L<=6/\n<=70/\Scr K H q (ns.map V.int) a ad/\ns.length<=63/\∀H',Q (.bl true) H'
def Lm:⋯ EE.j71 16 ["asker","script","p","letters","turns"] (S5 K ag aj):=by
 delta EE.j71 DJ
 ·obtain⟨a,q,ns,p,L,most,n,ad,s,wv,x,rfl,_⟩:=h;rfl
 ·obtain⟨a,q,ns,p,L,most,n,ad,s,wv,y,rfl,S,hw,hm,dr,hp,l1,l6,hn,hkq,hz,k⟩:=h;have hq:=hkq.kp.now;have hl:=Al;refine⟨_,(Ac (Ak (i:=5) DJ.nd (Af (G1 EE) hr.d An (Aa (pvD 1) (Aa (pvD 2) (Aa (pvD 3) (Aa (pvD 4) Ad))))))
   (Ac (Bx jL_ rfl (Nd rfl EE.range (Aa (pvD 4) (Aa (Ar (opD0 Bl) (pvD 4) Ai) Ad))) (Aq (i:=6) DJ.nd rfl (o9 rfl))
   (Ac (AZ (ptT (Ap (X6 8 (hu9 hr)) (Af (CS EE) hr.d An (Aa (pvD 0) Ad)) (Af (CS EE) hr.d An (Aa (pvD 5) Ad)) (Av _)))
   (Ae (Am DY))
   Au)
   (Ac (AB (Af (Gh EE) hr.d An (Aa (pvD 0) (Aa (pvD 1) (Aa (pvD 2) (Aa (pvD 3) (Aa (pvD 6) Ad)))))))
   (Ae (AB (Af (Gh EE) hr.d An (Aa (pvD 5) (Aa (pvD 1) (Aa (pvD 2) (Aa (pvD 3) (Aa (pvD 6) Ad)))))))))))
   (Ae (Am (Oe (U0 8 (hu9 hr)) (Af (CS EE) hr.d An (Aa (pvD 0) Ad)) (Af (CS EE) hr.d An (Aa (pvD 5) Ad)) (Av _)))))),?_⟩
  nofun;refine⟨q,ns,p,L,n,rfl,hq,hz,hp,l1,l6,by lia,fun a2 cx H1 bR s2 x2 oP oO dr2 S2 mU hU mn fr=>?_⟩;have em:bR=most:=oO.trans hm.symm;subst em;obtain⟨rfl,rfl⟩:=dr.det dr2;have iB:Same H H1:=hU;have b0:=jD_ (cell ns 2) (show (3:Int)≠0 by decide);have b1:=jz_ (cell ns 2) (show (0:Int)<3 by decide);have m4:bR<=3:=by lia
  have r:=dr.ok hp l1 l6 s!"" s!"";have hb:(bR+1)*(bR+1)<=4*4:=qW_ s!"" s!"";have d0:Dis a ad a2 cx:=fun y h1 h2=>S.fps h1 (by rcases h2 with z|z|z|z|z;(rw[z];exact fr.1);(rw[z];exact fr.2.1);(rw[z];exact fr.2.2.1);(rw[z];exact fr.2.2.2.1);(rw[z];exact fr.2.2.2.2));nofun;refine⟨by lia,by lia,by lia,by lia,?_⟩;rw[show ((n:Int)+6-n).toNat=6 by lia];obtain⟨Pv,aq⟩:∃Pv:Nat->St->Hp->Prop,∀i af H',Pv i af H'↔(∃(d1 d2:AD) (s:AS) (x:Wish) (v1 v2:V) (o:Option V),DRun ns p L bR (n+i) s x/\Asks K ag aj H' a d1 s v1/\Asks K ag aj H' a2 d2 s v2/\A7 K H' s.p s.L v1 x/\A7 K H' s.p s.L v2 x/\Dis a d1 a2 d2/\Scr K H' q (ns.map V.int) a d1/\Scr K H' q (ns.map V.int) a2 d2/\af=[some (.ref a),some (.ref q),some (.int p),some (.int L),some (.int n),some (.ref a2),o]):=⟨_,fun _ _ _=>qP_⟩;refine forR Pv ((aq _ _ _).mpr ⟨ad,cx,s,y,wv,oP,none,dr,S.same iB,S2,hw.mono (TK.of iB),by rw[r.l,r.q];exact mU,d0,hkq.next (Frm.of iB a ad) (AdOk.refl H ad),Scr.of hq iB fr,rfl⟩) (fun i af H' hi h'=>?_) (fun af H' h'=>?_)
  ·obtain⟨d1,d2,s,x,v1,v2,o,dr,A1,A2,w1,w2,d,c1,c2,rfl⟩:=(aq _ _ _).mp h';have r:=dr.ok hp l1 l6 s!"" s!"";have bd:Bd 100 s:=by unfold Bd;rw[r.m];lia
   nofun;refine⟨a,d1,s,v1,x,rfl,A1,w1,fun q1 H3 s3 B1=>⟨a2,d2,s,v2,x,rfl,A2.same s3,w2.mono (TK.of s3),fun q2 H4 s4 B2=>⟨_,rfl,_,rfl,_,LO.eq57 (B1.mono s4) B2,?_⟩⟩⟩;rw[if_neg (by simp)];have c8:=s3.trans s4;have oQ:=A1.same c8;have A2':=A2.same c8;have oR:=c1.next (Frm.of c8 a d1) (AdOk.refl H' d1);have c2':=c2.next (Frm.of c8 a2 d2) (AdOk.refl H' d2);refine⟨a,q,ns,p,L,bR,n+i,n+i,d1,s,v1,x,by push_cast;rfl,oQ,w1.mono (TK.of c8),r,bd,by lia,by lia,l1,oR.kp,hz,fun e1 H5 s5 x5 v5 st1 A5 w5 f5 o5=>?_⟩;have jL:=oQ.other A2' d f5;have d5:=d.next A2' o5;have tk5:=oQ.tk f5;have jM:=c2'.other oR f5;have c1'':=oR.next f5 o5;refine⟨a2,q,ns,p,L,bR,n+i,n+i,d2,s,v2,x,by push_cast;rfl,jL,(w2.mono (TK.of c8)).mono tk5,r,bd,by lia,by lia,l1,jM.kp,hz,fun e2 H6 s6 x6 v6 gQ A6 w6 f6 o6=>?_⟩;obtain⟨rfl,rfl⟩:=G0.det st1 gQ;have dr':DRun ns p L bR (n+i+1) s5 x5:=.succ dr st1;have r':=dr'.ok hp l1 l6 s!"" s!"";refine (aq _ _ _).mpr ⟨e1,e2,s5,x5,v5,v6,_,dr',jL.other A5 d5.symm f6,A6,?_,?_,?_,c1''.other jM f6,jM.next f6 o6,rfl⟩
   ·rw[r'.l,<-r.l,r'.q,<-r.q];exact w5.mono (jL.tk f6)
   ·rw[r'.l,<-r.l,r'.q,<-r.q];exact w6
   ·exact (Dis.next d5.symm A5 o6).symm
  ·obtain⟨d1,d2,s,x,v1,v2,o,dr,A1,A2,w1,w2,d,c1,c2,rfl⟩:=(aq _ _ _).mp h';nofun;exact⟨a,d1,s,v1,x,rfl,A1,w1,fun q1 H3 s3 B1=>⟨a2,d2,s,v2,x,rfl,A2.same s3,w2.mono (TK.of s3),fun q2 H4 s4 B2=>⟨_,rfl,_,rfl,_,LO.eq57 (B1.mono s4) B2,k _⟩⟩⟩
def NS.ofD {K:α3}{a:Addr}{xs:List V}{m:Nat}{H:Hp}{Q:VK}(ha:H a=some (.tup xs))(q:∀p H',Same H H'->H' p=some (.tup (xs.drop m))->Q (.ref p) H'):NS K (.ref a) (some (m:Int)) none H Q:=by
 refine⟨a,xs,rfl,ha,fun p H' s' h=>q p H' s' ?_⟩;rw[h];unfold cutV;rw[HT.sIx_nat,HT.sIx_none]
 congr 2
 rcases sQ m xs.length with h|h
 ·rw[qf h];exact q4_ (by rw[qw_];exact jh_ _)
 ·rw[pW h,zG_ h,q1_,qF]
noncomputable def O0 (K:α3)(CA CB:Addr):Sp:=fun vs H Q _=>∃(a q:Addr) (ns:α2) (p:Int) (L:Nat) (eh:Int) (ad:AD) (s:AS) (wv:V) (mm:α0) (ws:α2),vs=[.ref a,.ref q,.int p,.int L,.int eh]/\Asks K CA CB H a ad s wv/\A7 K H s.p s.L wv (.shown mm ws)/\WOk 100 s (.shown mm ws)/\Bd 100 s/\s.p=p/\s.L=L/\1<=L/\s.es.length<=100/\SqL K H q (ns.map V.int)/\ns.length<=63/\¬ (0<=eh/\eh<p)/\∀H',Same H H'->Q (.bl true) H'
def GO:⋯ EE.j72 15 ["asker","script","p","letters","odd"] (O0 K ag aj):=by
 delta EE.j72 AV
 ·obtain⟨a,q,ns,p,L,eh,ad,s,wv,mm,ws,rfl,_⟩:=h;rfl
 ·obtain⟨a,q,ns,p,L,eh,ad,s,wv,mm,ws,rfl,S,hw,ok,bd,hP,hL,l1,he,hq,hz,gj,k⟩:=h;subst hP;have hl:=Al;have D:∀{H':Hp} {t:Addr} {w:α2} {m:Int} {Q':VK} {E':XK},Same H H'->H' t=some (.tup (w.map V.int))->w.length<=600->((isW s.L w=false->QS H' Q' "word value")/\(isW s.L w=true->¬ (0<=m/\m<s.p)->QS H' Q' "mark value")/\(isW s.L w=true->0<=m->m<s.p->(W71 s.p mm ws w=m->QS H' Q' "alike value")/\(W71 s.p mm ws w≠m->w∈s.es.map (·.1)/\QS H' Q' "twice value")))->Gg K ag aj [.ref a,.ref t,.int m] H' Q' E':=fun {H'} {t} {w} {m} {Q'} {E'} e ht ku hk=>⟨a,t,ad,s,wv,_,100,w,m,rfl,S.same e,hw.mono (TK.of e),ok,bd,by lia,ht,ku,fun hx=>absurd rfl hx,fun mm' ws' e=>by cases e;exact hk⟩;have Hh:∀{H':Hp} {m:Int} {Q':VK} {E':XK},Same H H'->QS H' Q' "turn value" -> Jt K ag aj [.ref a,.int m] H' Q' E':=fun {H'} {m} {Q'} {E'} e hk=>⟨a,ad,s,wv,_,100,m,rfl,S.same e,hw.mono (TK.of e),ok,bd,by lia,fun _=>hk,fun c hc=>by cases hc⟩;have c0:=jD_ (cell ns 4) (show (6:Int)≠0 by decide);have c1:=jz_ (cell ns 4) (show (0:Int)<6 by decide);obtain⟨n0,mT⟩:∃n0:Nat,1+cell ns 4%6=(n0:Int):=⟨(1+cell ns 4%6).toNat,by lia⟩;have c9:CPow 10 9:=⟨by lia,by lia,by decide⟩;have hWl:=IA ns 4 L n0;have hWw:=N0 ns 4 n0 l1;obtain⟨e9,hG,dN,jJ,gu,aE⟩:=id ok;have wf:=gu.wf e9.tb;have p2:=e9.tb.pr.1;have sz:=e9.sz bd;refine⟨_,(CV (AZ (PW.pt (Od (ptT (Ap (opN Dk) (Af (Cs EE) hr.d An (Aa (pvD 0) (Aa (Ar (opD A0) (pvD 4) (pvD 2)) Ad))) AA (Av _))) (KG (ptT (Ap (opN Dk) (Af (Cs EE) hr.d An (Aa (pvD 0) (Aa (pvD 4) Ad))) AA (Av _))))))
   (Ae (Am DY))
   Au)
   (Ac (Ak (i:=5) AV.nd (Af (JK EE) hr.d An (Aa (pvD 1) (Aa Ai (Aa (pvD 3) (Aa (Ar (opD0 Bl) Ai (Ar (opD A0) (Af (AI EE) hr.d An (Aa (pvD 1) (Aa Ai Ad))) Ai)) Ad))))))
   (CV (Ak (i:=6) AV.nd (Ar (opD A0) (Af (AI EE) hr.d An (Aa (pvD 1) (Aa Ai Ad))) (Ar (opD0 Bl) (AK (lenD AG) (by rfl) EE.len qy_ (Aa (pvD 5) Ad)) Ai)))
   (Ac (Bx jL_ rfl (Br (Fe (Aa (pvD 3) (Aa (Lz GP Ai) (Aa (Ar (opD0 Bl) (Ar (opD0 Bl) (pvD 3) Ai) (Ar (opD A0) (Af (AI EE) hr.d An (Aa (pvD 1) (Aa Ai Ad))) (Ar (opD UN) Ai Ai))) Ad))))) (Aq (i:=7) AV.nd rfl (o9 rfl))
   (Ac (Ak (i:=8) AV.nd (Ar Dn (Ar Dn (BV Gb (pvD 5) C3 (C4 (pvD 6))) (Cg (Aa (pvD 7) Ad))) (BV Gb (pvD 5) (C4 (pvD 6)) C3)))
   (Ae (AZ (PW.pt (Od (ptT (Ap (opN Dk) (Af (AJ EE) hr.d An (Aa (pvD 0) (Aa (pvD 8) (Aa (pvD 4) Ad)))) AA (Av _))) (KG (ptT (Ap (opN Dk) (Af (AJ EE) hr.d An (Aa (pvD 0) (Aa (pvD 8) (Aa Ai Ad)))) AA (Av _))))))
   (Ae (Am DY))
   Au))))
   (CV (AZ (ptT (Ap (opN Dk) (Af (AJ EE) hr.d An (Aa (pvD 0) (Aa (pvD 5) (Aa (pvD 4) Ad)))) AA (Av _)))
   (Ae (Am DY))
   Au)
   (CV (AZ (ptT (Ap (opN Dk) (Af (AJ EE) hr.d An (Aa (pvD 0) (Aa (pvD 5) (Aa (Af (Iz EE) hr.d An (Aa (As (ixTD Ay) (AQ (pvD 0) EE.cl_j0 EE.j0.m (A8 EE).g hr.d (A8 EE).b .nil An) Ai) (Aa (pvD 5) Ad))) Ad)))) AA (Av _)))
   (Ae (Am DY))
   Au)
   (Ac (Bx jL_ rfl (Br (AQ (pvD 0) EE.cl_j0 EE.j58.m (BK EE).g hr.d (BK EE).b .nil An)) (Aq (i:=9) AV.nd rfl (o9 rfl))
   (Ac (AZ (ptT (Ap (opN Dk) (Af (AJ EE) hr.d An (Aa (pvD 0) (Aa (As (ixTD Ay) (pvD 9) Ai) (Aa (pvD 4) Ad)))) AA (Av _)))
   (Ae (Am DY))
   Au)
   (Ac (AZ (ptT (Ap (opN Dk) (Af (AJ EE) hr.d An (Aa (pvD 0) (Aa (As (ixTD Ay) (pvD 9) Ai) (Aa (As (ixTD Ay) (pvD 9) Ai) Ad)))) AA (Av _)))
   (Ae (Am DY))
   Au)
   (Ae (AZ (ptT (Ap (opN Dk) (Af (AJ EE) hr.d An (Aa (pvD 0) (Aa (As (ixTD Ay) (pvD 9) Ai) (Aa (Ar (opD A0) (Ar (opD0 Bl) (As (ixTD Ay) (pvD 9) Ai) Ai) (pvD 2)) Ad)))) AA (Av _)))
   (Ae (Am DY))
   Au)))))
   (Ae (Am DY))))))))),?_⟩
  nofun;refine⟨by lia,Hh (Same.refl _) fun H1 s1=>⟨rfl,?_⟩⟩;rw[if_neg (by simp)];refine Hh s1 fun H2 s2'=>⟨rfl,?_⟩;have s2:=s1.trans s2';rw[if_neg (by simp)];refine Ci ?_;nofun;refine⟨q,ns,4,rfl,s2.seq hq,_,rfl,by decide,q,ns,4,L,n0,by rw[mT];rfl,s2.seq hq,l1,by lia,fun tw H5 jN dH=>?_⟩;have s5:=s2.trans jN;generalize Js ns 4 L n0=v at hWl hWw dH;refine⟨q,ns,5,rfl,s5.seq hq,tw,rfl,_,.inr (SqT.of dH),_,rfl,by lia,?_⟩;refine Ci ?_;nofun;refine⟨q,ns,6,rfl,s5.seq hq,c9,_,rfl,by decide,by lia,fun tl fj=>⟨⟨_,SqL.of Ab⟩,?_⟩⟩;rw[jb_];obtain⟨j,hj,lq⟩:∃j:Nat,cell ns 5%((v.length:Int)+1)=(j:Int)/\j<=v.length:=⟨(cell ns 5%((v.length:Int)+1)).toNat,by have:=jD_ (cell ns 5) (show (v.length:Int)+1≠0 by lia);lia,by have:=jD_ (cell ns 5) (show (v.length:Int)+1≠0 by lia);have:=jz_ (cell ns 5) (show 0<(v.length:Int)+1 by lia);lia⟩;rw[hj];obtain⟨df,iC⟩:∃df:Int,df=(L:Int)+1+cell ns 6%10 ^ sG 9:=⟨_,rfl⟩;have hfar0:(L:Int)<=df:=by have:=jD_ (cell ns 6) (show (10:Int) ^ sG 9≠0 by decide);lia
  rw[<-iC];have s6:=s5.newT fj (o:=.lst [V.int L,V.int (-1),V.int df]);obtain⟨Pv,aq⟩:∃Pv:Nat->St->Hp->Prop,∀i af H',Pv i af H'↔(∃o6 o7:Option V,Same (upd H5 tl (.lst [V.int L,V.int (-1),V.int df])) H'/\af=[some (.ref a),some (.ref q),some (.int s.p),some (.int L),some (.int eh),some (.ref tw),some (.int j),o6,o7,none]):=⟨_,fun _ _ _=>qP_⟩;refine forL (xs:=[V.int L,V.int (-1),V.int df]) Pv ((aq _ _ _).mpr ⟨none,none,Same.refl _,rfl⟩) (fun i ai H' _ h2=>by obtain⟨_,_,s',_⟩:=(aq _ _ _).mp h2;exact s'.seq (SqL.of Ab)) (fun i x ai H' hx h2=>?_) (fun ai H' h2=>?_)
  ·obtain⟨o6,o7,eo,rfl⟩:=(aq _ _ _).mp h2;obtain⟨b,rfl,hb⟩:∃b:Int,x=.int b/\¬ (0<=b/\b<L):=by
    match i with
    |0=>simp at hx;exact⟨_,hx.symm,by lia⟩
    |1=>simp at hx;exact⟨_,hx.symm,by lia⟩
    |2=>simp at hx;exact⟨_,hx.symm,by lia⟩
    |i+3=>simp at hx
   have s7:=s6.trans eo;have ff:=((Same.new fj).trans eo) _ _ dH;nofun;refine NS.of ff fun z1 H8 s8 hz1=>⟨by lia,fun z2 fk=>?_⟩;rw[<-z3_]at hz1;have s9:=Same.new fk (o:=.tup [V.int b]);refine Cd.ofS (s9 _ _ hz1) Ab (by simp;lia) fun z3 nU fZ hz3=>?_;refine NS.ofD ((s8.trans (s9.trans fZ)) _ _ ff) fun z4 H11 mV hz4=>?_;rw[<-qC]at hz4;refine Cd.ofS (mV _ _ hz3) hz4 (by simp;lia) fun z5 H12 bH oS=>?_;have e:(v.take j).map V.int++[V.int b]++(v.drop j).map V.int=(v.take j++[b]++v.drop j).map V.int:=by simp
   rw[e]at oS;have iE:isW s.L (v.take j++[b]++v.drop j)=false:=by
    cases hh:isW s.L (v.take j++[b]++v.drop j) with
    |false=>rfl
    |true=>
     have:=Bn.mp hh b (by simp);rw[hL]at this;exact absurd this hb
   have s8_12:=s8.trans (s9.trans (fZ.trans (mV.trans bH)));have sA:=s7.trans s8_12;refine D sA oS (by simp;lia) ⟨fun _ H13 eZ=>⟨rfl,?_⟩,fun z=>absurd z (by rw[iE];simp),fun z=>absurd z (by rw[iE];simp)⟩;rw[if_neg (by simp)];refine D (sA.trans eZ) (eZ _ _ oS) (by simp;lia) ⟨fun _ H14 oT=>⟨rfl,?_⟩,fun z=>absurd z (by rw[iE];simp),fun z=>absurd z (by rw[iE];simp)⟩;rw[if_neg (by simp)];exact (aq _ _ _).mpr ⟨_,_,eo.trans (s8_12.trans (eZ.trans oT)),rfl⟩
  ·obtain⟨o6,o7,eo,rfl⟩:=(aq _ _ _).mp h2;have s7:=s6.trans eo;have ff:=((Same.new fj).trans eo) _ _ dH;have cN:isW s.L v=true:=by rw[hL];exact hWw
   have gL:¬ isW s.L v=false:=fun z=>by rw[cN]at z;cases z
   nofun;refine D s7 ff s!"" ⟨fun z=>absurd z gL,fun _ _ H8 s8=>⟨rfl,?_⟩,fun _ h0 h9=>absurd ⟨h0,h9⟩ gj⟩;rw[if_neg (by simp)];refine Ci ?_;nofun;obtain⟨t,u,iY,ht,hu⟩:=id hw;obtain⟨lT,lU,lV,lW,lX,x0⟩:=id S;have hp:=x0.ob;have iX:=s7.trans s8;have ew:dotW (rowS s.p ws.length mm (Bu ws.length 0) v) ws%s.p=W71 s.p mm ws v:=by unfold W71 R71;rw[Be]
   have r0:0<=W71 s.p mm ws v:=jD_ _ s!"";have r1:W71 s.p mm ws v<s.p:=jz_ _ s!"";refine⟨_,_,iX _ _ hp,by kernel_rfl,a,ad,s,wv,rfl,S.same iX,t,iY,_,SqT.of (iX _ _ ht),_,rfl,u,tw,s.p,s.L,_,_,ws,v,mm,rfl,(GuT.sum hu).mono iX,wf,SqT.of (s8 _ _ ff),cN,fun H9 s9=>?_⟩;rw[ew];have s9':=iX.trans s9;refine D s9' (s9 _ _ (s8 _ _ ff)) s!"" ⟨fun z=>absurd z gL,fun _ hm=>absurd ⟨r0,r1⟩ hm,fun _ _ _=>⟨fun _ nU fZ=>⟨rfl,?_⟩,fun z=>absurd rfl z⟩⟩;rw[if_neg (by simp)];refine Ci ?_;nofun;have jO:=s9'.trans fZ;refine⟨_,_,jO _ _ hp,by kernel_rfl,a,ad,s,wv,rfl,S.same jO,fun lh rs H11 mV hlN hlh i3=>⟨lh,rfl,⟨_,SqL.of hlh⟩,?_⟩⟩;have s11':=jO.trans mV;obtain⟨Pw,cD⟩:∃Pv:Nat->St->Hp->Prop,∀i af H',Pv i af H'↔(∃o:Option V,Same H11 H'/\af=[some (.ref a),some (.ref q),some (.int s.p),some (.int L),some (.int eh),some (.ref tw),some (.int j),o6,o7,o]):=⟨_,fun _ _ _=>qP_⟩;refine forL (xs:=rs) Pw ((cD _ _ _).mpr ⟨none,Same.refl _,rfl⟩) (fun i ai H' _ h2=>by obtain⟨_,s',_⟩:=(cD _ _ _).mp h2;exact s'.seq (SqL.of hlh)) (fun i x ai H' hx h2=>?_) (fun ai H' h2=>?_)
   ·obtain⟨o8,bH,rfl⟩:=(cD _ _ _).mp h2;have hi:i<s.es.length:=by rw[<-i3.1];exact (jg_.mp hx).1
    have b8:s.es[i]?=some s.es[i]:=by simp[hi]
    obtain⟨t8,wt,e1,e2,e3⟩:=i3.2 i _ b8;rw[hx]at e1;cases e1;have jm:=jo_ b8;have oU:=e9.tb.bW _ jm;have dX:=sz.b _ jm;have iR:=aE _ jm;generalize s.es[i]=e at b8 e2 e3 jm oU dX iR;have iP:¬ isW s.L e.1=false:=fun z=>by rw[oU.1]at z;cases z
    have jP:=s11'.trans bH;have f2:=bH _ _ e2;have f3:=bH _ _ e3;nofun;refine⟨_,SqT.of f2,_,rfl,D jP f3 dX ⟨fun z=>absurd z iP,fun _ _ H13 eZ=>⟨rfl,?_⟩,fun _ h0 h9=>absurd ⟨h0,h9⟩ gj⟩⟩;rw[if_neg (by simp)];refine⟨_,SqT.of (eZ _ _ f2),_,rfl,_,SqT.of (eZ _ _ f2),_,rfl,D (jP.trans eZ) (eZ _ _ f3) dX ⟨fun z=>absurd z iP,fun _ hm=>absurd oU.2 hm,fun _ _ _=>⟨fun _ H14 oT=>⟨rfl,?_⟩,fun z=>absurd iR z⟩⟩⟩;rw[if_neg (by simp)];have gm:=eZ.trans oT;have aG:W71 s.p mm ws e.1≠(e.2+1)%s.p:=by
     rw[iR];intro z;by_cases aH:e.2+1<s.p
     ·rw[j6_ s!"" aH]at z;lia
     ·rw[show e.2+1=s.p by lia,sx]at z;lia
    refine⟨_,SqT.of (gm _ _ f2),_,rfl,_,SqT.of (gm _ _ f2),_,rfl,_,rfl,by lia,D (jP.trans gm) (gm _ _ f3) dX ⟨fun z=>absurd z iP,fun _ hm=>?_,fun _ _ _=>⟨fun z=>absurd z aG,fun _=>⟨jv_.mpr ⟨_,jm,rfl⟩,fun H15 s15=>⟨rfl,?_⟩⟩⟩⟩⟩
    ·exact absurd ⟨jD_ _ s!"",jz_ _ s!""⟩ hm
    ·rw[if_neg (by simp)];exact (cD _ _ _).mpr ⟨_,bH.trans (gm.trans s15),rfl⟩
   ·obtain⟨o8,bH,rfl⟩:=(cD _ _ _).mp h2;nofun;exact k _ (s11'.trans bH)
noncomputable def UL (K:α3):Sp:=fun vs H Q _=>∃(a:Addr) (ns:α2),vs=[.ref a]/\SqL K H a (ns.map V.int)/\ns.length<=63/\∀H',Q (.bl true) H'
def YJ:⋯ EE.j73 17 ["script"] (UL K):=by
 delta EE.j73 Ia
 ·obtain⟨a,ns,rfl,_⟩:=h;rfl
 ·obtain⟨q,ns,rfl,hq,hz,k⟩:=h;have hl:=Al;have a0:=jD_ (cell ns 1) (show (3:Int)≠0 by decide);have a1:=jz_ (cell ns 1) (show (0:Int)<3 by decide);obtain⟨L,hL,l1,l6⟩:∃L:Nat,1+cell ns 1%3+cell ns 1 / 3%4 / 3*3=(L:Int)/\1<=L/\L<=6:=⟨(1+cell ns 1%3+cell ns 1 / 3%4 / 3*3).toNat,by lia,by lia,by lia⟩;obtain⟨n,hn,ik⟩:∃n:Nat,cell ns 3%41=(n:Int)/\n<=40:=⟨(cell ns 3%41).toNat,by lia,by lia⟩;have c9:CPow 10 9:=⟨by lia,by lia,by decide⟩;refine⟨_,(Ac (Ak (i:=1) Ia.nd (Af (M7 EE) hr.d An (Aa (Af (AI EE) hr.d An (Aa (pvD 0) (Aa Ai Ad))) Ad)))
   (Ac (Ak (i:=2) Ia.nd (Ar (opD0 Bl) (Ar (opD0 Bl) Ai (Ar (opD A0) (Af (AI EE) hr.d An (Aa (pvD 0) (Aa Ai Ad))) Ai)) (Ar (opD Fd) (Ar (opD IX) (Ar (opD A0) (Ar (opD IX) (Af (AI EE) hr.d An (Aa (pvD 0) (Aa Ai Ad))) Ai) Ai) Ai) Ai)))
   (Ac (Ak (i:=3) Ia.nd (Ar (opD A0) (Af (AI EE) hr.d An (Aa (pvD 0) (Aa Ai Ad))) Ai))
   (Ac (Ak (i:=4) Ia.nd (Af (G1 EE) hr.d An (Aa (pvD 0) (Aa (pvD 1) (Aa (pvD 2) (Aa (pvD 3) Ad))))))
   (Ac (Ak (i:=5) Ia.nd (AQ (pvD 4) EE.cl_j0 EE.j0.m (A8 EE).g hr.d (A8 EE).b .nil An))
   (Ac (Ak (i:=6) Ia.nd (Af (CS EE) hr.d An (Aa (pvD 4) Ad)))
   (Ac (Ak (i:=7) Ia.nd (Ar (opD A0) (Af (AI EE) hr.d An (Aa (pvD 0) (Aa Ai Ad))) (Ar (opD UN) Ai Ai)))
   (CV (Ak (i:=8) Ia.nd (As (ixLD FF) (Fe (Aa (Lz GP Ai) (Aa (pvD 1) (Aa (Ar (opD0 Bl) (pvD 1) (pvD 7)) (Aa (Ar (opD0 Nf) (Lz GP Ai) (pvD 7)) Ad))))) (Ar (opD A0) (Af (AI EE) hr.d An (Aa (pvD 0) (Aa Ai Ad))) Ai)))
   (Ee (AZ (ptT (Ap (opE GG) (As (ixTD Ay) (pvD 5) Ai) AA (Av _)))
   (Ac (AZ (PW.pt (Od (ptT (Ap (opN Dk) (Af (GZ EE) hr.d An (Aa (pvD 4) Ad)) AA (Av _))) (KG (ptT (Ap (opN Dk) (Af (Cs EE) hr.d An (Aa (pvD 4) (Aa (pvD 8) Ad))) AA (Av _))))))
   (Ae (Am DY))
   Au)
   (Ae (AZ (PW.pt (Od (ptT (Ap (opN Dk) (Af (AJ EE) hr.d An (Aa (pvD 4) (Aa (Cg (Aa (pvD 2) Ad)) (Aa (pvD 8) Ad)))) AA (Av _))) (KG (ptT (Ap (opN Dk) (Af (AJ EE) hr.d An (Aa (pvD 4) (Aa (Cg Ad) (Aa Ai Ad)))) AA (Av _))))))
   (Ae (Am DY))
   Au)))
   (Ae (AZ (ptT (Ap (opE GG) (As (ixTD Ay) (pvD 5) Ai) AA (Av _)))
   (Ae (AZ (O1 (ptB (FC (Af (GO EE) hr.d An (Aa (pvD 4) (Aa (pvD 0) (Aa (pvD 1) (Aa (pvD 2) (Aa (pvD 8) Ad)))))))))
   (Ae (Am DY))
   Au))
   (Ae (AZ (PW.pt (Od (ptT (Ap (opE GG) (As (ixTD Ay) (pvD 5) Ai) AA (Av _))) (KG (ptT (Ap (opE GG) (As (ixTD Ay) (pvD 5) Ai) AA (Av _))))))
   (Ac (AZ (PW.pt (Od (ptT (Ap (opN Dk) (Af (GZ EE) hr.d An (Aa (pvD 4) Ad)) AA (Av _))) (KG (ptT (Ap (opN Dk) (Af (Cs EE) hr.d An (Aa (pvD 4) (Aa Ai Ad))) AA (Av _))))))
   (Ae (Am DY))
   Au)
   (Ae (AZ (PW.pt (Od (ptT (Ap (opN Dk) (Af (Cs EE) hr.d An (Aa (pvD 4) (Aa (pvD 8) Ad))) AA (Av _))) (KG (ptT (Ap (opN Dk) (Af (AJ EE) hr.d An (Aa (pvD 4) (Aa (Cg (Aa Ai Ad)) (Aa Ai Ad)))) AA (Av _))))))
   (Ae (Am DY))
   Au)))
   (Ae (Am DY)))))))
   (Ae (Am (Xf (Oe (U0 8 (hu9 hr)) (Af (CS EE) hr.d An (Aa (pvD 4) Ad)) (pvD 6) (Av _)) (Xe (Af (Lm EE) hr.d An (Aa (pvD 4) (Aa (pvD 0) (Aa (pvD 1) (Aa (pvD 2) (Aa (pvD 3) Ad))))))))))))))))))),?_⟩
  nofun;refine⟨q,ns,0,rfl,hq,_,rfl,fun p H0 s0 hp=>?_⟩;have bV:=s0.seq hq;refine⟨q,ns,1,rfl,bV,_,rfl,by decide,q,ns,1,rfl,bV,_,rfl,⟨by decide,by decide⟩,by decide,⟨by decide,by decide⟩,.inr ⟨by decide,by decide⟩,q,ns,3,rfl,bV,_,rfl,by decide,q,ns,p,L,n,by rw[hL,hn],bV,hz,hp,l1,l6,by lia,fun a ad H1 most s x wv hm dr S hw hU mn fr=>?_⟩;have iB:Same H0 H1:=hU;have b0:=jD_ (cell ns 2) (show (3:Int)≠0 by decide);have b1:=jz_ (cell ns 2) (show (0:Int)<3 by decide);have m4:most<=3:=by lia
  have hb:(most+1)*(most+1)<=4*4:=qW_ s!"" s!"";have r:=dr.ok hp l1 l6 s!"" s!"";have bd:Bd 100 s:=by unfold Bd;rw[r.m];lia
  have hre:=r.e;have hw:A7 K H1 s.p s.L wv x:=by rw[r.l,r.q];exact hw
  obtain⟨lT,lU,lV,lW,lX,x0⟩:=id S;have hpp:=x0.ob;have p2:=hp.1;refine⟨a,rfl,_,_,hpp,by kernel_rfl,a,ad,s,wv,rfl,S,a,ad,s,wv,x,rfl,S,hw,fun lA H2 s2 A2=>?_⟩;refine⟨q,ns,6,rfl,(iB.trans s2).seq bV,c9,_,rfl,by decide,_,rfl,by lia,fun lo gy=>?_⟩;obtain⟨df,iC⟩:∃df:Int,df=cell ns 6%10 ^ sG 9:=⟨_,rfl⟩;have hfar0:0<=df:=by rw[iC];exact jD_ _ (by decide)
  rw[<-iC];have s3:=s2.newT gy (o:=.lst [V.int (-1),V.int p,V.int (p+df),V.int (-2-df)]);have A3:=A2.mono (Same.new gy (o:=.lst [V.int (-1),V.int p,V.int (p+df),V.int (-2-df)]));obtain⟨eh,ho,gj⟩:∃eh:Int,atI [V.int (-1),V.int p,V.int (p+df),V.int (-2-df)] (cell ns 7%4)=some (V.int eh)/\¬ (0<=eh/\eh<p):=by
   have d0:=jD_ (cell ns 7) (show (4:Int)≠0 by decide);have d1:=jz_ (cell ns 7) (show (0:Int)<4 by decide);have d2:cell ns 7%4=0\/cell ns 7%4=1\/cell ns 7%4=2\/cell ns 7%4=3:=by lia
   rcases d2 with d|d|d|d<;>rw[d]
   ·exact⟨_,rfl,by lia⟩
   ·exact⟨_,rfl,by lia⟩
   ·exact⟨_,rfl,by lia⟩
   ·exact⟨_,rfl,by lia⟩
  refine⟨q,ns,7,rfl,(iB.trans s3).seq bV,_,rfl,by decide,_,SqL.of Ab,_,ho,?_⟩;refine Ci ?_;nofun;generalize upd H2 lo (.lst [V.int (-1),V.int p,V.int (p+df),V.int (-2-df)])=H3 at s3 A3;rw[hL,hn];have S3:=S.same s3;have w3:=hw.mono (TK.of s3);refine⟨fun af H'=>af=[some (.ref q),some (.int p),some (.int L),some (.int n),some (.ref a),some wv,some (.ref lA),some (.int df),some (.int eh)]/\Same H3 H',?_,fun af H' hh=>?_⟩
  ·have Ag:∀{H':Hp} {Q':VK} {E':XK},Same H3 H'->x.tag ≠ "show" -> QS H' Q' "turn value" -> Ll K ag aj [.ref a] H' Q' E':=fun {H'} {Q'} {E'} e jK hk=>⟨a,ad,s,wv,x,rfl,S3.same e,w3.mono (TK.of e),jK,hk⟩;have Ht:∀{H':Hp} {m:Int} {Q':VK} {E':XK},Same H3 H'->x.tag ≠ "ask" -> QS H' Q' "turn value" -> Jt K ag aj [.ref a,.int m] H' Q' E':=fun {H'} {m} {Q'} {E'} e jK hk=>⟨a,ad,s,wv,x,100,m,rfl,S3.same e,w3.mono (TK.of e),r.ok,bd,by lia,fun _=>hk,fun c hc=>absurd (by rw[hc];rfl) jK⟩;have Dt:∀{H':Hp} {t:Addr} {w:α2} {m:Int} {Q':VK} {E':XK},Same H3 H'->H' t=some (.tup (w.map V.int))->w.length<=600->x.tag ≠ "show" -> QS H' Q' "turn value" -> Gg K ag aj [.ref a,.ref t,.int m] H' Q' E':=fun {H'} {t} {w} {m} {Q'} {E'} e ht ku jK hk=>⟨a,t,ad,s,wv,x,100,w,m,rfl,S3.same e,w3.mono (TK.of e),r.ok,bd,by lia,ht,ku,fun _=>hk,fun mm ws hx=>absurd (by rw[hx];rfl) jK⟩;obtain⟨t,u,iY,ht,hu⟩:=id w3;rw[iY];nofun;cases hx:x with
   |ask c=>
    rw[hx]at ht;have ht:H3 t=some (.tup [.str ("ask" : Str),.ref u]):=ht;have n1:x.tag ≠ "show" := by rw[hx];exact (by decide +kernel:¬ ("ask" : Str) = "show")
    refine⟨_,SqT.of ht,_,rfl,rfl,?_⟩;rw[if_pos rfl];refine Ag (Same.refl _) n1 fun H4 s4=>⟨rfl,?_⟩;rw[if_neg (by simp)];refine⟨a,ad,s,wv,x,100,eh,rfl,S3.same s4,w3.mono (TK.of s4),r.ok,bd,by lia,fun z=>absurd (by rw[hx];rfl) z,fun c hc=>⟨by rw[r.q];exact gj,fun H5 jN=>⟨rfl,?_⟩⟩⟩;have s5:=s4.trans jN;rw[if_neg (by simp)];refine⟨by lia,fun t1 cE=>Dt (w:=[(L:Int)]) (s5.newT cE) Ab (by simp) n1 fun H6 lY=>⟨rfl,?_⟩⟩;have s6:=(s5.newT cE).trans lY;rw[if_neg (by simp)];refine⟨by lia,fun t2 eX=>Dt (w:=[]) (s6.newT eX) Ab (by simp) n1 fun H7 eo=>⟨rfl,?_⟩⟩;rw[if_neg (by simp)]
    first|exact⟨rfl,(s6.newT eX).trans eo⟩|exact (s6.newT eX).trans eo
   |shown mm ws=>
    rw[hx]at ht;have ht:H3 t=some (.tup [.str ("show" : Str),.ref u]):=ht;have ok:=r.ok;rw[hx]at ok;have w3':=w3;rw[hx]at w3';refine⟨_,SqT.of ht,_,rfl,rfl,?_⟩;rw[if_neg (fun z=>absurd (V.str.inj z) (by decide +kernel))];refine⟨_,SqT.of ht,_,rfl,rfl,?_⟩;rw[if_pos rfl];refine⟨a,q,ns,p,L,eh,ad,s,wv,mm,ws,rfl,S3,w3',ok,bd,r.q,r.l,l1,by lia,(iB.trans s3).seq bV,hz,gj,fun H4 s4=>⟨true,rfl,?_⟩⟩;rw[if_neg (by simp)]
    first|exact⟨rfl,s4⟩|exact s4
   |done mm ws=>
    rw[hx]at ht;have ht:H3 t=some (.tup [.str ("done" : Str),.ref u]):=ht;refine⟨_,SqT.of ht,_,rfl,rfl,?_⟩;rw[if_neg (fun z=>absurd (V.str.inj z) (by decide +kernel))];refine⟨_,SqT.of ht,_,rfl,rfl,?_⟩;rw[if_neg (fun z=>absurd (V.str.inj z) (by decide +kernel))];refine⟨_,SqT.of ht,_,rfl,rfl,?_⟩;rw[if_pos rfl];have n1:x.tag ≠ "show" := by rw[hx];exact (by decide +kernel:¬ ("done" : Str) = "show")
    have n2:x.tag ≠ "ask" := by rw[hx];exact (by decide +kernel:¬ ("done" : Str) = "ask")
    refine Ag (Same.refl _) n1 fun H4 s4=>⟨rfl,?_⟩;rw[if_neg (by simp)];refine Ht s4 n2 fun H5 jN=>⟨rfl,?_⟩;have s5:=s4.trans jN;rw[if_neg (by simp)];refine Ht s5 n2 fun H6 lY=>⟨rfl,?_⟩;have s6:=s5.trans lY;rw[if_neg (by simp)];refine⟨by lia,fun t1 cE=>Dt (w:=[0]) (s6.newT cE) Ab (by simp) n1 fun H7 eo=>⟨rfl,?_⟩⟩;rw[if_neg (by simp)]
    first|exact⟨rfl,(s6.newT cE).trans eo⟩|exact (s6.newT cE).trans eo
   |spent c=>
    rw[hx]at ht;have ht:H3 t=some (.tup [.str ("spent" : Str),.ref u]):=ht;refine⟨_,SqT.of ht,_,rfl,rfl,?_⟩;rw[if_neg (fun z=>absurd (V.str.inj z) (by decide +kernel))];refine⟨_,SqT.of ht,_,rfl,rfl,?_⟩;rw[if_neg (fun z=>absurd (V.str.inj z) (by decide +kernel))];refine⟨_,SqT.of ht,_,rfl,rfl,?_⟩;rw[if_neg (fun z=>absurd (V.str.inj z) (by decide +kernel))];refine⟨_,SqT.of ht,_,rfl,rfl,?_⟩;rw[if_pos rfl];have n1:x.tag ≠ "show" := by rw[hx];exact (by decide +kernel:¬ ("spent" : Str) = "show")
    have n2:x.tag ≠ "ask" := by rw[hx];exact (by decide +kernel:¬ ("spent" : Str) = "ask")
    refine Ag (Same.refl _) n1 fun H4 s4=>⟨rfl,?_⟩;rw[if_neg (by simp)];refine Ht s4 n2 fun H5 jN=>⟨rfl,?_⟩;have s5:=s4.trans jN;rw[if_neg (by simp)];refine Ht s5 n2 fun H6 lY=>⟨rfl,?_⟩;have s6:=s5.trans lY;rw[if_neg (by simp)];refine⟨by lia,fun t1 cE=>Dt (w:=[0]) (s6.newT cE) Ab (by simp) n1 fun H7 eo=>⟨rfl,?_⟩⟩;rw[if_neg (by simp)]
    first|exact⟨rfl,(s6.newT cE).trans eo⟩|exact (s6.newT cE).trans eo
  ·obtain⟨rfl,s4⟩:=hh;have S4:=S3.same s4;have w4:=w3.mono (TK.of s4);have e04:=iB.trans (s3.trans s4);nofun;refine⟨a,ad,s,wv,x,rfl,S4,w4,fun lB H5 s5 B5=>⟨_,rfl,_,LO.eq57 B5 (A3.mono (s4.trans s5)),?_⟩⟩;rw[if_pos rfl];exact⟨a,q,ns,p,L,most,n,ad,s,wv,x,rfl,S4.same s5,w4.mono (TK.of s5),hm,dr,hp,l1,l6,by lia,Scr.of bV (e04.trans s5) fr,hz,k⟩
end
def all_mk {l:qb}{w:World}{K:α3}{h:Heap}{mg:Str->α5}{fa E9 Ln Gi JL N2 JN Lp DQ Jv B9 Gj VS Fj PY S6 N3 N4 Lq D9 ED Fl Lr BF N5 DR BG BR Bj HI Em N6 N7 JO IB JQ N8 S7 Ct Dd De Fb Cu DS Fm JR Gk IC JS S8 CT BH CU G2 Gm HJ HK Eo DT Gn ID JT Ls IE JU Lu Gp Lv IF Fc Ep L8 G3 DU Y3:Addr}(X:K.In h)(G:h.Ns mainGlobals mg)(hfa:mg "law"=some (.ref fa))
  {aZ au av cB aw ay ax cY cZ c6 aj ag:Addr}
  {G4 JV Fn IG L9 IH JW Fo Lw Dh II S9 EF N9 PZ Ma Mb JX DV Ea EG JY CD Mc Di CF C2 BU JZ Gq Md Me IJ G8 IK Mf P0 DW EH EI G9 DX Fp EJ IL IM Hc IP P4 Eb CG Ec Gr IQ J3 J4 Gs Fq IS Hd IT J5 He IU J6 Fs Ka Hf Hg Gu Lx Gv Dj P5:α6}
  (aC_ja:nsIn K mainGlobals "Book"=some (some (.ref cY)))
  (aC_j9:nsIn K mainGlobals "Turns"=some (some (.ref cZ)))
  (aC_jb:nsIn K mainGlobals "Hunt"=some (some (.ref c6)))
  (aC_j3:nsIn K mainGlobals "SumBook"=some (some (.ref aj)))
  (pg_j3:pA K aj Str.empty=true)
  (hd_j3:pD K aj=true)
  (po_j3:pE K aj=true)
  (sa_j3:oY K (.ref aj) "__setattr__"=some (some (.builtin "object.__setattr__")))
  (n_letters_SumBook:oY K (.ref aj) "letters"=some none)
  (n_marks_SumBook:oY K (.ref aj) "marks"=some none)
  (n_p_SumBook:oY K (.ref aj) "p"=some none)
  (aC_j0:nsIn K mainGlobals "SumAsker"=some (some (.ref ag)))
  (pg_j0:pA K ag Str.empty=true)
  (hd_j0:pD K ag=true)
  (po_j0:pE K ag=true)
  (sa_j0:oY K (.ref ag) "__setattr__"=some (some (.builtin "object.__setattr__")))
  (n_book_SumAsker:oY K (.ref ag) "book"=some none)
  (n_ends_SumAsker:oY K (.ref ag) "ends"=some none)
  (n_gaps_SumAsker:oY K (.ref ag) "gaps"=some none)
  (n_guess_SumAsker:oY K (.ref ag) "guess"=some none)
  (n_letters_SumAsker:oY K (.ref ag) "letters"=some none)
  (n_most_SumAsker:oY K (.ref ag) "most"=some none)
  (n_p_SumAsker:oY K (.ref ag) "p"=some none)
  (n_ways_SumAsker:oY K (.ref ag) "ways"=some none)
  (n_wish_SumAsker:oY K (.ref ag) "wish"=some none)
  (n_wrong_SumAsker:oY K (.ref ag) "wrong"=some none)
  (J0:HG K "wants" "Turns.wants" ET E9 G4 (Meth K ag "wants" E9))
  (j1:HF K "_law_cell" Hl Ln JV)
  (j2:HF K "_law_is_prime" DD Gi Fn)
  (j3:HF K "_law_prime" FQ JL IG)
  (j4:HF K "is_word" K0 N2 L9)
  (j5:HF K "check_word" FT JN IH)
  (j6:HF K "is_number" Hm Lp JW)
  (J7:HG K "check" "SumBook.check" DE DQ Fo (Meth K aj "check" DQ))
  (J8:HG K "put" "Book.put" Jf Jv Lw (Meth K aj "put" Jv))
  (J9:HG K "check_wants" "Turns.check_wants" B4 B9 Dh (Meth K ag "check_wants" B9))
  (J10:HG K "heard" "Book.heard" FU Gj II (Meth K aj "heard" Gj))
  (j11:HF K "unit" Sh VS S9)
  (j12:HF K "place_of_first" C5 Fj EF)
  (j13:HF K "scaled" MB PY N9)
  (j14:HF K "added" OJ S6 PZ)
  (j15:HF K "left_of" K1 N3 Ma)
  (j16:HF K "inverse" K2 N4 Mb)
  (j17:HF K "with_base" Hn Lq JX)
  (j18:HF K "chosen_and_bases" Cj D9 DV)
  (j19:HF K "factors_of_each" CJ ED Ea)
  (j20:HF K "numbers_behind" C6 Fl EG)
  (j21:HF K "sum_guess" Ho Lr JY)
  (J22:HG K "make_guess" "SumAsker.make_guess" BC BF CD (Meth K ag "make_guess" BF))
  (j23:HF K "product" K3 N5 Mc)
  (j24:HF K "first_other_worth" B6 DR Di)
  (J25:HG K "wrong_word" "SumAsker.wrong_word" BD BG CF (Meth K ag "wrong_word" BG))
  (J26:HG K "look_at_guess" "Hunt.look_at_guess" BQ BR C2 (Meth K ag "look_at_guess" BR))
  (J27:HG K "look_at_words" "SumAsker.look_at_words" Bi Bj BU (Meth K ag "look_at_words" Bj))
  (J28:HG K "told" "Book.told" Hq HI JZ (Meth K aj "told" HI))
  (J29:HG K "ask_for" "Hunt.ask_for" Eg Em Gq (Meth K ag "ask_for" Em))
  (j30:HF K "made_of" K4 N6 Md)
  (j31:HF K "stepped" K5 N7 Me)
  (j32:HF K "rows_along" FW JO IJ)
  (j33:HF K "halved_sums" EV IB G8)
  (j34:HF K "new_access" FX JQ IK)
  (j35:HF K "rows_of" K6 N8 Mf)
  (j36:HF K "cells" OK S7 P0)
  (J37:HG K "take_in" "SumAsker.take_in" Cm Ct DW (Meth K ag "take_in" Ct))
  (J38:HG K "halve" "SumAsker.halve" C7 Dd EH (Meth K ag "halve" Dd))
  (J39:HG K "next_wish" "Hunt.next_wish" C8 De EI (Meth K ag "next_wish" De))
  (J40:HG K "go_on" "Turns.go_on" EW Fb G9 (Meth K ag "go_on" Fb))
  (J41:HG K "keep_answer" "Hunt.keep_answer" Cn Cu DX (Meth K ag "keep_answer" Cu))
  (J42:HG K "hear" "SumAsker.hear" DG DS Fp (Meth K ag "hear" DS))
  (j43:HF K "_law_told_kind" C9 Fm EJ)
  (j44:HF K "_law_hears" FY JR IL)
  (J45:HG K "agree" "Hunt.agree" FZ Gk IM (Meth K ag "agree" Gk))
  (j46:HF K "_law_agrees" EX IC Hc)
  (j47:HF K "row_behind" F0 JS IP)
  (j48:HF K "worth" OL S8 P4)
  (J49:HG K "answer" "SumAsker.answer" CK CT Eb (Meth K ag "answer" CT))
  (J50:HG K "keep_objection" "Hunt.keep_objection" BE BH CG (Meth K ag "keep_objection" BH))
  (J51:HG K "differ" "SumAsker.differ" CL CU Ec (Meth K ag "differ" CU))
  (j52:HF K "_law_differs" Eh G2 Gr)
  (J53:HG K "__init__" "Turns.__init__" F1 Gm IQ (CMeth K cZ "__init__" Gm))
  (J54:HG K "__init__" "Hunt.__init__" Hu HJ J3 (CMeth K c6 "__init__" HJ))
  (J55:HG K "__init__" "Book.__init__" Hv HK J4 (CMeth K cY "__init__" HK))
  (J56:HG K "__init__" "SumBook.__init__" Ei Eo Gs (Mk K aj Eo))
  (J57:HG K "__init__" "SumAsker.__init__" DH DT Fq (Mk K ag DT))
  (J58:HG K "heard" "Hunt.heard" F2 Gn IS (Meth K ag "heard" Gn))
  (j59:HF K "_law_number" EY ID Hd)
  (j60:HF K "_law_times" F3 JT IT)
  (j61:HF K "_law_step" Hw Ls J5)
  (j62:HF K "_law_behind" EZ IE He)
  (j63:HF K "_law_worth" F5 JU IU)
  (j64:HF K "_law_word" Hy Lu J6)
  (j65:HF K "_law_new_word" DI Gp Fs)
  (j66:HF K "_law_deed" Hz Lv Ka)
  (j67:HF K "_law_driven" E1 IF Hf)
  (J68:HG K "access" "Hunt.access" E2 Fc Hg (Meth K ag "access" Fc))
  (J69:HG K "tellers" "Hunt.tellers" Ek Ep Gu (Meth K ag "tellers" Ep))
  (j70:HF K "_law_all" Ji L8 Lx)
  (j71:HF K "_law_goes_on" El G3 Gv)
  (j72:HF K "_law_show_refuses" B7 DU Dj)
  (j73:HF K "law" WM Y3 P5)
  (z_ValueError:nsIn K mainGlobals "ValueError"=some none)
  (z_all:nsIn K mainGlobals "all"=some none)
  (z_dict:nsIn K mainGlobals "dict"=some none)
  (z_enumerate:nsIn K mainGlobals "enumerate"=some none)
  (z_isinstance:nsIn K mainGlobals "isinstance"=some none)
  (z_len:nsIn K mainGlobals "len"=some none)
  (z_list:nsIn K mainGlobals "list"=some none)
  (z_max:nsIn K mainGlobals "max"=some none)
  (z_range:nsIn K mainGlobals "range"=some none)
  (z_sum:nsIn K mainGlobals "sum"=some none)
  (z_tuple:nsIn K mainGlobals "tuple"=some none)
  (z_zip:nsIn K mainGlobals "zip"=some none)
  (m_j7:nsIn K mainGlobals "AskError"=some (some (.ref aZ)))
  (m_j5:nsIn K mainGlobals "BadWord"=some (some (.ref au)))
  (m_j6:nsIn K mainGlobals "BadMark"=some (some (.ref av)))
  (m_j8:nsIn K mainGlobals "NoInverse"=some (some (.ref cB)))
  (m_j4:nsIn K mainGlobals "OutOfTurn"=some (some (.ref aw)))
  (m_j2:nsIn K mainGlobals "NoDifference"=some (some (.ref ay)))
  (m_j1:nsIn K mainGlobals "Contradiction"=some (some (.ref ax)))
  (x_j5:pj K au bmV "ValueError.__new__"=true)
  (xc_BadWord:ExcCls K au)
  (e_j5:exmOne K (.ref au) (.ref aZ)=some true)
  (v_j5:kitOne K (.ref au) (.type "ValueError")=some true)
  (k_j5_j5:kitOne K (.ref au) (.ref au)=some true)
  (k_j5_j6:kitOne K (.ref au) (.ref av)=some false)
  (k_j5_j4:kitOne K (.ref au) (.ref aw)=some false)
  (k_j5_j2:kitOne K (.ref au) (.ref ay)=some false)
  (k_j5_j1:kitOne K (.ref au) (.ref ax)=some false)
  (x_j6:pj K av bmV "ValueError.__new__"=true)
  (xc_BadMark:ExcCls K av)
  (e_j6:exmOne K (.ref av) (.ref aZ)=some true)
  (v_j6:kitOne K (.ref av) (.type "ValueError")=some true)
  (k_j6_j5:kitOne K (.ref av) (.ref au)=some false)
  (k_j6_j6:kitOne K (.ref av) (.ref av)=some true)
  (k_j6_j4:kitOne K (.ref av) (.ref aw)=some false)
  (k_j6_j2:kitOne K (.ref av) (.ref ay)=some false)
  (k_j6_j1:kitOne K (.ref av) (.ref ax)=some false)
  (x_j8:pj K cB bmV "ValueError.__new__"=true)
  (x_j4:pj K aw bmV "ValueError.__new__"=true)
  (xc_OutOfTurn:ExcCls K aw)
  (e_j4:exmOne K (.ref aw) (.ref aZ)=some true)
  (v_j4:kitOne K (.ref aw) (.type "ValueError")=some true)
  (k_j4_j5:kitOne K (.ref aw) (.ref au)=some false)
  (k_j4_j6:kitOne K (.ref aw) (.ref av)=some false)
  (k_j4_j4:kitOne K (.ref aw) (.ref aw)=some true)
  (k_j4_j2:kitOne K (.ref aw) (.ref ay)=some false)
  (k_j4_j1:kitOne K (.ref aw) (.ref ax)=some false)
  (x_j2:pj K ay bmV "ValueError.__new__"=true)
  (xc_NoDifference:ExcCls K ay)
  (e_j2:exmOne K (.ref ay) (.ref aZ)=some true)
  (v_j2:kitOne K (.ref ay) (.type "ValueError")=some true)
  (k_j2_j5:kitOne K (.ref ay) (.ref au)=some false)
  (k_j2_j6:kitOne K (.ref ay) (.ref av)=some false)
  (k_j2_j4:kitOne K (.ref ay) (.ref aw)=some false)
  (k_j2_j2:kitOne K (.ref ay) (.ref ay)=some true)
  (k_j2_j1:kitOne K (.ref ay) (.ref ax)=some false)
  (x_j1:pj K ax bmV "ValueError.__new__"=true)
  (xc_Contradiction:ExcCls K ax)
  (e_j1:exmOne K (.ref ax) (.ref aZ)=some true)
  (v_j1:kitOne K (.ref ax) (.type "ValueError")=some true)
  (k_j1_j5:kitOne K (.ref ax) (.ref au)=some false)
  (k_j1_j6:kitOne K (.ref ax) (.ref av)=some false)
  (k_j1_j4:kitOne K (.ref ax) (.ref aw)=some false)
  (k_j1_j2:kitOne K (.ref ax) (.ref ay)=some false)
  (k_j1_j1:kitOne K (.ref ax) (.ref ax)=some true)
  : ∃fd:α6,(∀(s:Shared) (v:Value),BindsTo s fd ⟨[v],[]⟩ [("script",v)])/\∀base:Heap,K.In base->base.Ns mainGlobals mg->FnOk l.prog w K mg base CX0 17 fa fd ["script"] (UL K):=by
 have e:=hfa.symm.trans (jr_ X G j73.a);cases e;exact⟨P5,j73.b fun _ _ _ _ _ _ _=>rfl,fun base _ _=>(YJ (P:=l.prog) (w:=w) (base:=base) (fA:=fun i=>[E9,Ln,Gi,JL,N2,JN,Lp,DQ,Jv,B9,Gj,VS,Fj,PY,S6,N3,N4,Lq,D9,ED,Fl,Lr,BF,N5,DR,BG,BR,Bj,HI,Em,N6,N7,JO,IB,JQ,N8,S7,Ct,Dd,De,Fb,Cu,DS,Fm,JR,Gk,IC,JS,S8,CT,BH,CU,G2,Gm,HJ,HK,Eo,DT,Gn,ID,JT,Ls,IE,JU,Lu,Gp,Lv,IF,Fc,Ep,L8,G3,DU,fa].getD i fa) (fD:=fun i=>[G4,JV,Fn,IG,L9,IH,JW,Fo,Lw,Dh,II,S9,EF,N9,PZ,Ma,Mb,JX,DV,Ea,EG,JY,CD,Mc,Di,CF,C2,BU,JZ,Gq,Md,Me,IJ,G8,IK,Mf,P0,DW,EH,EI,G9,DX,Fp,EJ,IL,IM,Hc,IP,P4,Eb,CG,Ec,Gr,IQ,J3,J4,Gs,Fq,IS,Hd,IT,J5,He,IU,J6,Fs,Ka,Hf,Hg,Gu,Lx,Gv,Dj,P5].getD i P5) ⟨⟨qi_ X G z_ValueError,qi_ X G z_all,qi_ X G z_dict,qi_ X G z_enumerate,qi_ X G z_isinstance,qi_ X G z_len,qi_ X G z_list,qi_ X G z_max,qi_ X G z_range,qi_ X G z_sum,qi_ X G z_tuple,qi_ X G z_zip⟩,⟨jr_ X G aC_ja,jr_ X G aC_j9,jr_ X G aC_jb,jr_ X G aC_j3,⟨pg_j3,hd_j3,po_j3,sa_j3⟩,n_letters_SumBook,n_marks_SumBook,n_p_SumBook,jr_ X G aC_j0,⟨pg_j0,hd_j0,po_j0,sa_j0⟩,n_book_SumAsker,n_ends_SumAsker,n_gaps_SumAsker,n_guess_SumAsker,n_letters_SumAsker,n_most_SumAsker,n_p_SumAsker,n_ways_SumAsker,n_wish_SumAsker,n_wrong_SumAsker⟩,⟨jr_ X G m_j7,jr_ X G m_j5,jr_ X G m_j6,jr_ X G m_j8,jr_ X G m_j4,jr_ X G m_j2,jr_ X G m_j1,x_j5,xc_BadWord,e_j5,v_j5,k_j5_j5,k_j5_j6,k_j5_j4,k_j5_j2,k_j5_j1,x_j6,xc_BadMark,e_j6,v_j6,k_j6_j5,k_j6_j6,k_j6_j4,k_j6_j2,k_j6_j1,x_j8,x_j4,xc_OutOfTurn,e_j4,v_j4,k_j4_j5,k_j4_j6,k_j4_j4,k_j4_j2,k_j4_j1,x_j2,xc_NoDifference,e_j2,v_j2,k_j2_j5,k_j2_j6,k_j2_j4,k_j2_j2,k_j2_j1,x_j1,xc_Contradiction,e_j1,v_j1,k_j1_j5,k_j1_j6,k_j1_j4,k_j1_j2,k_j1_j1⟩,J0,⟨jr_ X G j1.a,j1.F⟩,⟨jr_ X G j2.a,j2.F⟩,⟨jr_ X G j3.a,j3.F⟩,⟨jr_ X G j4.a,j4.F⟩,⟨jr_ X G j5.a,j5.F⟩,⟨jr_ X G j6.a,j6.F⟩,J7,J8,J9,J10,⟨jr_ X G j11.a,j11.F⟩,⟨jr_ X G j12.a,j12.F⟩,⟨jr_ X G j13.a,j13.F⟩,⟨jr_ X G j14.a,j14.F⟩,⟨jr_ X G j15.a,j15.F⟩,⟨jr_ X G j16.a,j16.F⟩,⟨jr_ X G j17.a,j17.F⟩,⟨jr_ X G j18.a,j18.F⟩,⟨jr_ X G j19.a,j19.F⟩,⟨jr_ X G j20.a,j20.F⟩,⟨jr_ X G j21.a,j21.F⟩,J22,⟨jr_ X G j23.a,j23.F⟩,⟨jr_ X G j24.a,j24.F⟩,J25,J26,J27,J28,J29,⟨jr_ X G j30.a,j30.F⟩,⟨jr_ X G j31.a,j31.F⟩,⟨jr_ X G j32.a,j32.F⟩,⟨jr_ X G j33.a,j33.F⟩,⟨jr_ X G j34.a,j34.F⟩,⟨jr_ X G j35.a,j35.F⟩,⟨jr_ X G j36.a,j36.F⟩,J37,J38,J39,J40,J41,J42,⟨jr_ X G j43.a,j43.F⟩,⟨jr_ X G j44.a,j44.F⟩,J45,⟨jr_ X G j46.a,j46.F⟩,⟨jr_ X G j47.a,j47.F⟩,⟨jr_ X G j48.a,j48.F⟩,J49,J50,J51,⟨jr_ X G j52.a,j52.F⟩,J53,J54,J55,J56,J57,J58,⟨jr_ X G j59.a,j59.F⟩,⟨jr_ X G j60.a,j60.F⟩,⟨jr_ X G j61.a,j61.F⟩,⟨jr_ X G j62.a,j62.F⟩,⟨jr_ X G j63.a,j63.F⟩,⟨jr_ X G j64.a,j64.F⟩,⟨jr_ X G j65.a,j65.F⟩,⟨jr_ X G j66.a,j66.F⟩,⟨jr_ X G j67.a,j67.F⟩,J68,J69,⟨jr_ X G j70.a,j70.F⟩,⟨jr_ X G j71.a,j71.F⟩,⟨jr_ X G j72.a,j72.F⟩,⟨jr_ X G j73.a,j73.F⟩⟩).g⟩
def walk {l:qb}{q:Program}{cI:List Str}{XP:(Str->α5)->Heap->Prop}{YP:World->Heap->Prop}{d:DefRec}{K:Params->α3}(hn:l.most=some 63)(kK:d.params.defaults=[])
  (hY:∀(w:World) (h:Heap),YP w h->(K w.params).In h)
  (F:∀(w:World) (mg:Str->α5) (fa:Addr) (h:Heap),(K w.params).In h->h.Ns mainGlobals mg->mg d.name=some (.ref fa) ->
   ∃fd:α6,(∀(s:Shared) (u:Value),BindsTo s fd ⟨[u],[]⟩ [("script",u)])/\∀base:Heap,(K w.params).In base->base.Ns mainGlobals mg->FnOk l.prog w (K w.params) mg base CX0 17 fa fd ["script"] (UL (K w.params))):
  sm q cI XP YP l.row.toRowW d [] (fun f vs=>rG f vs):=
 L2.walk_of (n:=63) (k:=17) (x := "script") (CX:=fun _=>CX0) (sp:=fun w=>UL (K w.params)) hn (by decide) kK ⟨rfl,by decide,by decide⟩ hY F (fun _ _ a ns hl _ hS=>⟨a,ns,rfl,hS,hl,fun _=>rfl⟩) fun _ _ _ _ _ z=>z
end Mine
structure PySem.W.Fast:Prop where(tw13450964508217435355 tw10611167417414016465 tw5682986659067457763 tw8635656654291028970 tw4716063120981325919 tw213633162089877269 tw10519941375617626836 tw1546161534596312655 tw14359276142012403642 tw8229369798308383354 tw11362261654018990234 tw14049097796127696230 tw1611132464191464376 tw13748516418812059466 tw3308952898125873471 tw18239539661394430667 tw3214326358362625312 tw11159863515311915726 tw9073282556412255808 tw12924096840650027264 tw557962892743631044 tw14793359435064094514 tw11563584653729398800 tw2557442860077461414 tw6533559936936221605 tw4740089899209601042 tw12765608604099918430 tw17530752468012891130 tw834288600718532687 tw11087887693818655995 tw5479445443146632628 tw418256501259310791 tw9063146675801177381 tw173693757408201803 tw16756922443559519058 tw18205617421140718725 tw2152642620455771715 tw9092622319676600275 tw10554443902948454530 tw10158491549483408908 tw17198069593429940200 tw10143448368955291343 tw11552026755006058928 tw15732475017836375499 tw4605152579766649288 tw6033561715530179666 tw3629266877849673375 tw11610664533103821758 tw14821370830871494071 tw7513669048192071616 tw11434862633079695750 tw5099634544099482494 tw13561684087493311 tw17325184408415782056 tw15883665148488072990 tw4593007605862388053 tw538041635895970735 tw7841394659146792964 tw6218326436064276900 tw10405027208372005712 tw1821164598819733331 tw15678795560730070272 tw10281670626603925684 tw12947011896363818175 tw1428970048312418642 tw14590149244371656450 tw15600293001357307102 tw13060190715838737491 tw9456354190351852548 tw18154414459153753334 tw10980924091469237053 tw3839028905888760778 tw6635368327463202120 tw3549624925443838192 tw6357129306684271354 tw1469240147130434101 tw17252102840924157223 tw8861869371365468513 tw12593287508270376019 tw14564901472489295951 tw5349074151420406466 tw16026675959609697262 tw11435281447574871288 tw18279812023040652942 tw9061281140207378646 tw9513925556804672375 tw6625397263939569756 tw5987411513093794805 tw14286692593579188063 tw1725614839223458288 tw4882784142009062373 tw6040179723382176196 tw17215212149401753756 tw4957975162010699477 tw11735554634478986751 tw13063069968350086444 tw15655939638626051533 tw9189064571325583918 tw9269354508126939885 tw12591877542874912604 tw16497947271569561937 tw5901423648404487487 tw15352713072072232113 tw14685451757251524023 tw6480879072814359198 tw7144808613285012315 tw16419682648543408029 tw165935087454173486 tw13330140305854819862 tw17710211922488232158 tw5748938133113658220 tw14210777006978716535 tw11788011462025147535 tw16187978620254035818 tw8440184822260001102 tw17749480583920937130 tw3956698404989920411 tw9989352122611112494 tw16372735186971062925 tw3597839649167714426 tw15980467414196642019 tw11954003455657970658 tw6385658490068416121 tw18429734011189411200 tw9173571575224695855 tw6500584776830628489 tw2132834930548969902 tw11025946794383633524 tw625220532417966360 tw10687366305839107251 tw3894809536169290140 tw11606342857829786155 tw6967789343144269822 tw11802987478208298723 tw13523520511854648722 tw5963009798981270007 tw14674705777381536988 tw10029937262059310571 tw2354889794740686049 tw14365259852107759150 tw16250987685341549398 tw17550265938746529709 tw5384454362938265036 tw17857279045390948687 tw2640921707879705980 tw16176409421023654080 tw3963091396799082655 tw986329674382451730 tw14126372322856182253 tw5973023284805032528 tw5865044248957290398 tw18170165437183592078 tw3235113813730252644 tw4934280848526577293 tw3825253943599226303 tw1904477199722945615 tw7785460114142614735 tw2187758261194933839 tw15795856169556949975 tw7723196911345633421 tw11538596750090477397 tw5765500513520695160 tw801642331751536385 tw4051844017852434692 tw15481963072855883595 tw12187652141670466803 tw11117387508341689730 tw14363153360413410970 tw540859701912035500 tw2478460115356868775 tw15793524373021994424 tw12602993962053655590 tw11528909506433054687 tw3885373167797491004 tw10114581335560396142 tw14207360415280656933 tw12257888080829896010 tw16617675803705466002 tw13399217546172635358 tw11191378830020089157 tw14569199863116267239 tw17146109424018729214 tw1406378807085306795 tw3843430208670291594 tw33351379239225523 tw12335353809300880187 tw13833692663767313660 tw13594334715188216940 tw3494830758615144463 tw6468495369941755698 tw9125763047178297521 tw2662391102776750496 tw3246936855830235960 tw9899762625423105217 tw3272978801271305384 tw3972369851355643090 tw15361781068214498979 tw3286695574154868706 tw13783710790588929485 tw3404338611869664587 tw12224649664386550252 tw9473938481264992563 tw5834285764800556298 tw13908489135479166948 tw12746344791800719495 tw10820539029688419890 tw295165501386599572 tw918955006090108941 tw4267466615770835038 tw3745648480533455704 tw6948548518649421883 tw16909043722724957672 tw6683582458964804163 tw15523856689740794811 tw7312746007303281466 tw17247422857582669635 tw13085930605106156151 tw5088020050381583911 tw16290385309997634631 tw8395513113270017334 tw2694103828434760581 tw3663323313643920229 tw8143031965489621496 tw1765002834778005066 tw17325134928481328644 tw4276691351726024261 tw4616606247122736930 tw12780807728618757894 tw16441104178251227539 tw8659991520879646129 tw3492206096807064056 tw2901932514641602782 tw18084618896045541529 tw13492926570993466613 tw4431046879620612543 tw15118148357701142529 tw9097988322542434947 tw17519251006320070985 tw15224704447526126505 tw13310948400451426546 tw3552349646290816138 tw18304720084513084757 tw18137363461641354945 tw288643734223450720 tw5216812438252724332 tw12368496005882576745 tw9551703489802767720 tw12539784563337804599 tw17315047718741597905 tw7271725927831926183 tw8607681314362821744 tw14601048576693281410 tw1502634325838538808 tw2275957061823199562 tw12951171144708772393 tw10856686301395335825 tw7101218003934474604 tw10332227814608246349 tw6206663306319727918 tw17463066139297709990 tw18325240702221831941 tw12455086948056971347 tw11023664864098250813 tw13368351983642927466 tw13319601553288958847 tw1886137213946963548 tw4561774849251708939 tw14433171492253072198 tw16427823946306001122 tw6234342908792264247 tw9623300158903757430 tw12621373419037724731 tw12160735548711591680 tw14955179235014734482 tw11880451769610429468 tw14472829847220274781 tw2940647470828462793 tw7112324542559477522 tw8354228358157447242 tw15983863838809183600 tw7971287679594867758 tw749171958411498414 tw13973467203674942039 tw12372770841444173374 tw9207677990560106524 tw12083132184645958286 tw10173181461269093493 tw14640860925471177579 tw8875841348725818218 tw16625922496422611185 tw8301743224704884004 tw2953926461652528171 tw3467189248653280211 tw8797459973252530473 tw14657134308971700874 tw9178213321636749535 tw7727692219321766544 tw11902578931695419507 tw5490810681058664485 tw17053276394738993678 tw7532879833896854262 tw10039680741411103410 tw10927411547794535468 tw7613003877645840417 tw3554580819328531197 tw10823327454368311778 tw12101544166945345788 tw13754709662816821373 tw3289354195927754320 tw12993548116267367488 tw8204652580145981601 tw1851713189560004841 tw703331162122296326 tw9948229424080828269 tw10324140356794636064 tw15036094545084186246 tw8343631638378879952 tw13762150132093795976 tw14682827618584658791 tw15835455779969006854 tw14500900719811091774 tw3139605298698154814 tw13309371587546531970 tw14214257647546277348 tw9990755922134433417 tw6155919604444790016 tw10137652068118057604 tw17333087897664286095 tw18282230999808651820 tw15467839380448093389 tw6783374177159744946 tw4121313051540814001 tw5535376891487436464 tw12842589363195334423 tw18227019804044537884 tw2224873627088591002 tw16715053939354976932 tw3096493321965200958 tw6730978303188182762 tw9310129196696004834 tw3704817833832469368 tw6823089888836813279 tw4111212316128391887 tw9744680200184591627 tw15840330283557855653 tw12114041627386250522 tw1742296655726207934 tw2594143797878009914 tw16541024992078176044 tw15068949263750550578 tw16674263282135931952 tw11579863962649362031 tw8028377337161283996 tw8793772278869726802 tw17232966158500160174 tw11300871775821384825 tw14935075930209411148 tw14030675435507534692 tw13401267535837382241 tw283190178958156350 tw16947294411252721962 tw10686044547334369065 tw17596098224664214730 tw3648664043736595647 tw14482356116186786144 tw11805759118488074705 tw7199253861476938590 tw8058210661755526993 tw18123086509538819009 tw416562542371722146 tw17862876840226097916 tw8644237937891606168 tw7172376203941570521 tw17768910524971112103 tw5045767178746487453 tw7656775948949078965 tw3386639719221054108 tw4825997183736065402 tw7893261457655836105 tw7222334311696495947 tw4264574043215739858 tw5296694939007199009 tw4543586016247592841 tw1499897423213551828 tw2445708660248769119 tw989579723754930562 tw14386129575669005610 tw1428211906442909935 tw9858964186408392549 tw4052205403017846003 tw8576138540259002240 tw6004549691209752369 tw13738500291492951463 tw14246626676697313078 tw14858279745699672176 tw6232194743394912281 tw10443179859093291337 tw16344355094840914260 tw2542297636530776230 tw15975089075028075678 tw15256471584614090192 tw13158029059835653579 tw17144745933070667318 tw17727340686266778539 tw6253910790462038194 tw6308080351577816739 tw5486519384894858555 tw13670862767193660034 tw11417976150291149988 tw17100283332205088844 tw14882581076750003451 tw13768333120100936545 tw11174635269635584885 tw14493812154598220763 tw16772000639167389417 tw6280570556192707621 tw5574553448808421821 tw6919187163168756207 tw747690454302686529 tw10362783473094231094 tw11660006819259225533 tw15187341991860986852 tw111203752583296267 tw16923219627517252602 tw4565550257438558693 tw9513621352595591487 tw5919720397161998398 tw17554235577644417113 tw4359364472637425052 tw4890635640500385610 tw11383262523526815391 tw8766375982783419308 tw8627909550172876315 tw15961171469591629795 tw18056768996694644235 tw10434924040780567632 tw13901420798426727899 tw4975112770845882685 tw1862599690957967046 tw11672409997042021920 tw2456578368661721770 tw5659479760557399619 tw5957406116545086141 tw6864343177822466579 tw17748898687253789209 tw13658719609262062188 tw12002635617124495280 tw14622184890598830771 tw17099475323104386598 tw13586212416989406090 tw15284557473149500510 tw15703290905178164627 tw963857063055530753 tw9601884906241786373 tw2346142000923698789 tw2073457591562705174 tw9382583708394427558 tw11362061413295056958 tw2674747648859657859 tw8573158993292058803 tw9288889943407556855 tw3607266012514594155 tw4096170311892017019 tw16398794349345700243 tw7568265399042973603 tw12544518448213828366 tw9906358279560051668 tw11795310858383591144 tw11552845198663175443 tw3287188805995094496 tw3867648405368927957 tw12543299187142091195 tw2614536744487373299 tw15902676361282430261 tw2883050427781063233 tw13513185852568565621 tw1916212615499387081 tw11763852406499536221 tw14547121281930859467 tw15301543433168838202 tw7621487930798368691 tw5854674775260389501 tw5223538092590220250 tw15727633382494079265 tw15332830381949664643 tw14917477192133183187 tw18444925209116146348 tw2577143707764892009 tw18121369915124078163 tw17047147343561431521 tw11581440598408687624 tw12689906383964756504 tw18240313455653030122 tw16790190310548898872 tw49734393963482367 tw16515688334219020506 tw10667566109069894130 tw6647680895748050478 tw18301384397799293712 tw6259457843121529469 tw14325827423549441032 tw11878207498967350395 tw9503547946402631073 tw4542140956521059055 tw4775787460057201107 tw2144628783014619532 tw17245868507540176461 tw16136018723745925012 tw1393300291605287725 tw4608506239623366729 tw13232919584841840284 tw12683396165874700777 tw3201082201688729250 tw10587577341063172548 tw3125210124866062782 tw3164380658485283502 tw4829018697029227992 tw7946752011183841526 tw10911138521672224028 tw16695279168032147196 tw11946487742449216215 tw14980855066426290105 tw8458349059817565780 tw10074539200700693463 tw8861087916514958608 tw14889328352196588990 tw14217835611314549553 tw14873571054440260256 tw6160224687468064255 tw2988100836622342768 tw2813046840984974285 tw17412650905466187596 tw2051626005010351820 tw7845437951613599182 tw4095083278427752643 tw7630937960684773420 tw12755148600444077124 tw1708259819666708027 tw5071719023671872156 tw17787167374137299733 tw11725036771702888372 tw15562350891703830785 tw14632980339448753511 tw2118946901104128004 tw10623297692953065188 tw14954821111552974041 tw10821229403009739188 tw10670352166871133325 tw17598791326158500467 tw10252352406733831733 tw10052666684508960149 tw18314353629172437131 tw1181004376270019846 tw6697054509221036598 tw3126530806760930201 tw12907858483577935069 tw1903817126304952275 tw17518706127809988944 tw6285298421678991362 tw13659878254196835733 tw3640688798493400247 tw16452870886242492490 tw8475374658245197344 tw11513171320451754050 tw11479124769755714393 tw5111494545561976088 tw5108349523153665977 tw4814324276189452645 tw453772297796828634 tw14145847625468662418 tw9324955561517551802 tw7052299119467563194 tw16043569129195810520 tw13632720691987431764 tw17318170973531503132 tw16054178334387632494 tw13571223337415570152 tw7447890425413007911 tw307714525014289421 tw17578443566777267530 tw7066982406514226155 tw17299251378127987636 tw11740237983732249431 tw7473965734892130105 tw17377043704477521658 tw8050442091201732419 tw16877188324310140841 tw903620323078100179 tw4804897657980170085 tw5385929089758375042 tw16870748722957384001 tw7600826727547492069 tw11399416945187559589 tw16554764563121863662 tw2696034652079870019 tw7362677374041784519 tw11815984228418126573 tw3500276660497594358 tw14045691996358879448 tw14627479347413695061 tw4665368894156328952 tw1211428920055613619 tw10692602493261560270 tw9611768175208561310 tw62461385856845096 tw13737647710451250611 tw17524715074480655986 tw9175356410535580063 tw10143341505132348630 tw1975300567390709771 tw12461531845583714041 tw5021730453713922761 tw11970216007555593293 tw4710898652864961223 tw3198777727094953239 tw2647409383496949439 tw4726216304592820849 tw17384662843146745189 tw14718149870737085823 tw2684868995917435040 tw18113697564253125646 tw7929436523482997923 tw8576043169499302135 tw8067824470348675669 tw2321501740074224856 tw14705308955733327415 tw764762399876678235 tw2204702258397027157 tw299144896209005175 tw6173907978236382524 tw2079270608973972864 tw10556925299709004712 tw11107262479127324089 tw12334857770384260954 tw9794728531461524171 tw6287871291958476771 tw15039511149444731350 tw14920823949725619486 tw2677022528270352677 tw3462400981391164087 tw16865427396513223875 tw10257345292663151062 tw56483625696973232 tw13402366392501203795 tw14665659624937559716 tw12789517862870771858 tw13873137122866588150 tw6767101644554595793 tw2774361425421399241 tw2254356176299605293 tw9405151380082094371 tw14695201840476550571 tw15299395214678733723 tw14570653049218863745 tw4641910791765965503 tw8084325720069024635 tw13531642543745539309 tw8856400988618307967 tw12445889510556055487 tw6092144417993671835 tw13758810392724484983 tw14055355024118034276 tw5131889693682115901 tw18338564844859557193 tw9106364341158084720 tw8393005804612734778 tw9698369465726533220 tw12537307006037121543 tw8640395343989316724 tw9293540661791433212 tw2067619315486310427 tw9097598707942919426 tw12882100679949686147 tw12997893016798258946 tw13443342378910103709 tw9537632087922391166 tw332039042261221354 tw15105666034396654419 tw3710265864863777316 tw7784880540194024325 tw13477753959795200038 tw7993345614180809606 tw8563059338111971419 tw16532291626188715445 tw16638775258009473125 tw18343898022546737875 tw9685802015064161361 tw3287500464031018387 tw13563797203790801395 tw4622234269020343036 tw14623315515945638912 tw2149115923635005624 tw13330678609938954795 tw9409209680057611748 tw15764935285936997006 tw4514817022365808496 tw10882523664841259671 tw1134345964658998096 tw9593663805209672165 tw7297259307479250476 tw753775369673193758 tw8716244841042280753 tw15316453690213912074 tw13972731771250603583 tw11966485736780155528 tw2771404370489610014 tw7432547680192518299 tw3850503837676188904 tw16652532793750799980 tw14875974081566499356 tw5262801194509278094 tw14760663771084542045 tw10404146666588965893 tw3159622461082086477 tw6196070950724824449 tw15606877565813127839 tw855296105716821595 tw1873910140551804821 tw85392460713046929 tw221135148816553710 tw5187992842376645986 tw5337043694555571931 tw8352873844420490355 tw14001276271793210851 tw12524724896276692998 tw4003221667133532455 tw15199638281909990730 tw3594204780173087819 tw11069666899021649044 tw7144587588529492304 tw16010144437026594950 tw10283705777721151361 tw10988976572612418926 tw422558967410342988 tw15512993946014579738 tw8856147539049286881 tw8202026451992995337 tw7573669452010052088 tw13623027935767934933 tw2894464950149644717 tw14784320599888133208 tw17704077317203815647 tw8850698516487752748 tw7030794916887546658 tw11114818678516083169 tw12088016423212419845 tw8938341311364488390 tw8143897950187343660 tw13279833415114669776 tw8860268158513590069 tw12097641822459266822 tw2462565763833191360 tw6140315965797169305 tw15741543167401509654 tw12411883500657500715 tw18347566465211511942:True)
open PySem PySem.W PyProof.Rows
set_option maxRecDepth 100000 in
set_option maxHeartbeats 0 in
theorem PySem.Challenge.cw_guessroom_k71_sum_asker_refuses_holds : PySem.Challenge.rw_guessroom_k71_sum_asker_refuses.Holds := by
  w_on; o_law; k_head; (case hw => w_witness2)
  k_fill
  refine Mine.walk (l := PySem.Challenge.rw_guessroom_k71_sum_asker_refuses) rfl rfl (fun w h Y => PySem.W.kIn_of Y) ?F
  case F =>
    intro w mg fa h KX G hmg
    refine' Mine.all_mk KX G hmg ?aC_ja ?aC_j9 ?aC_jb ?aC_j3 ?pg_j3 ?hd_j3 ?po_j3 ?sa_j3 ?n_letters_SumBook ?n_marks_SumBook ?n_p_SumBook ?aC_j0 ?pg_j0 ?hd_j0 ?po_j0 ?sa_j0 ?n_book_SumAsker ?n_ends_SumAsker ?n_gaps_SumAsker ?n_guess_SumAsker ?n_letters_SumAsker ?n_most_SumAsker ?n_p_SumAsker ?n_ways_SumAsker ?n_wish_SumAsker ?n_wrong_SumAsker ?J0 ?j1 ?j2 ?j3 ?j4 ?j5 ?j6 ?J7 ?J8 ?J9 ?J10 ?j11 ?j12 ?j13 ?j14 ?j15 ?j16 ?j17 ?j18 ?j19 ?j20 ?j21 ?J22 ?j23 ?j24 ?J25 ?J26 ?J27 ?J28 ?J29 ?j30 ?j31 ?j32 ?j33 ?j34 ?j35 ?j36 ?J37 ?J38 ?J39 ?J40 ?J41 ?J42 ?j43 ?j44 ?J45 ?j46 ?j47 ?j48 ?J49 ?J50 ?J51 ?j52 ?J53 ?J54 ?J55 ?J56 ?J57 ?J58 ?j59 ?j60 ?j61 ?j62 ?j63 ?j64 ?j65 ?j66 ?j67 ?J68 ?J69 ?j70 ?j71 ?j72 ?j73 ?z_ValueError ?z_all ?z_dict ?z_enumerate ?z_isinstance ?z_len ?z_list ?z_max ?z_range ?z_sum ?z_tuple ?z_zip ?m_j7 ?m_j5 ?m_j6 ?m_j8 ?m_j4 ?m_j2 ?m_j1 ?x_j5 ?xc_BadWord ?e_j5 ?v_j5 ?k_j5_j5 ?k_j5_j6 ?k_j5_j4 ?k_j5_j2 ?k_j5_j1 ?x_j6 ?xc_BadMark ?e_j6 ?v_j6 ?k_j6_j5 ?k_j6_j6 ?k_j6_j4 ?k_j6_j2 ?k_j6_j1 ?x_j8 ?x_j4 ?xc_OutOfTurn ?e_j4 ?v_j4 ?k_j4_j5 ?k_j4_j6 ?k_j4_j4 ?k_j4_j2 ?k_j4_j1 ?x_j2 ?xc_NoDifference ?e_j2 ?v_j2 ?k_j2_j5 ?k_j2_j6 ?k_j2_j4 ?k_j2_j2 ?k_j2_j1 ?x_j1 ?xc_Contradiction ?e_j1 ?v_j1 ?k_j1_j5 ?k_j1_j6 ?k_j1_j4 ?k_j1_j2 ?k_j1_j1
    (case aC_ja|aC_j9|aC_jb|aC_j3|aC_j0|m_j7|m_j5|m_j6|m_j8|m_j4|m_j2|m_j1|pg_j3|hd_j3|po_j3|sa_j3|n_letters_SumBook|n_marks_SumBook|n_p_SumBook|pg_j0|hd_j0|po_j0|sa_j0|n_book_SumAsker|n_ends_SumAsker|n_gaps_SumAsker|n_guess_SumAsker|n_letters_SumAsker|n_most_SumAsker|n_p_SumAsker|n_ways_SumAsker|n_wish_SumAsker|n_wrong_SumAsker|z_ValueError|z_all|z_dict|z_enumerate|z_isinstance|z_len|z_list|z_max|z_range|z_sum|z_tuple|z_zip=>k_is)
    (case x_j5|x_j6|x_j8|x_j4|x_j2|x_j1=>k_exc)
    (case e_j5|e_j6|e_j4|e_j2|e_j1=>kts_exm)
    (case v_j5|k_j5_j5|k_j5_j6|k_j5_j4|k_j5_j2|k_j5_j1|v_j6|k_j6_j5|k_j6_j6|k_j6_j4|k_j6_j2|k_j6_j1|v_j4|k_j4_j5|k_j4_j6|k_j4_j4|k_j4_j2|k_j4_j1|v_j2|k_j2_j5|k_j2_j6|k_j2_j4|k_j2_j2|k_j2_j1|v_j1|k_j1_j5|k_j1_j6|k_j1_j4|k_j1_j2|k_j1_j1=>kit_is)
    (case J0|J7|J8|J9|J10|J22|J25|J26|J27|J28|J29|J37|J38|J39|J40|J41|J42|J45|J49|J50|J51|J53|J54|J55|J56|J57|J58|J68|J69 => constructor; (constructor <;> k_is); apply L2.fun_mk <;> k_is)
    (case j1|j2|j3|j4|j5|j6|j11|j12|j13|j14|j15|j16|j17|j18|j19|j20|j21|j23|j24|j30|j31|j32|j33|j34|j35|j36|j43|j44|j46|j47 => constructor; k_is; apply L2.fun_mk <;> k_is)
    (case j48|j52|j59|j60|j61|j62|j63|j64|j65|j66|j67|j70|j71|j72|j73 => constructor; k_is; apply L2.fun_mk <;> k_is)
    (case xc_BadWord|xc_BadMark|xc_OutOfTurn|xc_NoDifference|xc_Contradiction => apply L2.xcls <;> k_is)
