import PyProof.Rows.All
import Wide.All
import OpenK.AllK
import Wide.FinOn
import Lean
import PyProof.EqAt
import PyProof.EqKinds
import PyProof.TupleCall
import KE.KRevIter
import PyProof.ListRange
import PyProof.TupleOfGen
import PyProof.Draws
import PyProof.EnumMake
import PyProof.EnumFor
import PyProof.NeKinds
import KE.KDictList
import PyProof.Rows.TupDisplay
import PyProof.ZipIter
import PyProof.Rows.ZipGen
import KE.KItemsList
import PyProof.Rows.SumAny
import PyProof.StrWalks
import PyProof.StrCalls
import PyProof.StrCalls3
import PyProof.StrLawsFirst
import PyProof.StrLawsIn
import PyProof.SliceStr2
import PyProof.StrBlockI
import PyProof.Rows.StrWeight2
import PyProof.ListNew
import PyProof.DictRoadsH
import PyProof.WalkInts
import PyProof.Rows.MinMaxN
import KE.KDictLaws
import PyProof.StrCalls2
import PyProof.StrLawsChain
import KE.KIntText
import KE.KxText
import KE.KMinKey
import KE.KPairComp
import PyProof.MaxThree
import PyProof.DictWalks
import OpenK.KCls
import PyProof.Rows.SortShellK
import KE.KSortTup
import KE.KLam
import KE.KNestM
import PySem.Challenge.RW_guessroom_k27_whole_slim_suite_is_enough
set_option compiler.extract_closed false
local macro_rules | `(s!$_) => `(by lia)
namespace Al
abbrev jJ_:=@congrArg
abbrev qb_:=@decide_eq_true
abbrev qk_:=@decide_eq_false
abbrev qr_:=@of_decide_eq_true
abbrev qy_:=@decide_eq_true_eq
abbrev qS_:=@if_false
abbrev xA_:=@of_decide_eq_false
abbrev xB_:=@if_true
abbrev zU_:=@beq_eq_false_iff_ne
abbrev wc_:=@beq_iff_eq
abbrev α0:=List (List (List Int))
abbrev α1:=List (List Int)
abbrev α2:=List Int
abbrev α5:=Option PySem.Value
abbrev α7:=List (PySem.Addr×PySem.Obj)
abbrev jH_:=@PySem.PassesOwn.never
abbrev j2_:=@Classical.byContradiction
abbrev qs_:=@Ne.symm
abbrev qv_:=@Iff.rfl
abbrev xq_:=@PySem.Heap.SameBut.update
abbrev xQ_:=@List.cons.injEq
abbrev za_:=@PySem.IsL.update
abbrev zK_:=@PySem.AutoSeq1.idx_int
end Al
open Al
open List renaming length_map->ja_,getElem?_eq_some_iff->jc_,mem_of_getElem?->jd_,getElem?_map->je_,getElem?_eq_getElem->jh_,getD_eq_getElem?_getD->jj_,getElem?_append_left->jk_,mem_cons_of_mem->jl_,size_toArray->jm_,length_append->jn_,mem_cons_self->jp_,getElem?_append_right->jt_,mem_singleton->ju_,mem_map->jv_,length_take->jw_,mem_append_right->jy_,mem_append->jA_,mem_cons->jD_,mem_range->jE_,mem_iff_getElem?->jN_,take_length->jO_,take_of_length_le->jP_,take_add_one->jQ_,map_map->jR_,length_cons->jT_,getElem?_eq_none->jU_,getElem_of_mem->jV_,map_append->jW_,length_singleton->jX_,map_cons->j0_,getElem_mem->j1_,lookup_cons->j7_,mem_append_left->qc_,append_assoc->qg_,length_range->qh_,append_nil->ql_,replicate_succ->qn_,map_congr_left->qo_,length_nil->qt_,all_eq_true->qw_,foldl_append->qE_,length_pos_of_mem->qH_,drop_eq_nil_of_le->qI_,nodup_cons->qK_,length_replicate->qL_,getElem?_range->qN_,idxOf_lt_length_of_mem->qO_,ext_getElem?->qT_,getElem?_set_self->qU_,length_set->qV_,getElem?_zip_eq_some->qW_,length_erase_of_mem->qY_,foldl_cons->q1_,getElem_idxOf->q2_,reverse_reverse->q3_,pairwise_append->q4_,mem_reverse->q5_,reverse_append->q7_,mem_map_of_mem->q8_,mem_of_find?_eq_some->q9_,drop_eq_getElem_cons->xa_,take_append_drop->xc_,pairwise_reverse->xd_,length_drop->xf_,getElem?_set_ne->xi_,mem_erase_of_ne->xj_,mem_of_mem_take->xk_,mem_filter->xo_,find?_cons->xp_,getElem?_eq_none_iff->xC_,pairwise_iff_getElem->xE_,of_mem_zip->xH_,getElem?_take_of_lt->xJ_,flatten_cons->xL_,pairwise_map->xO_,idxOf_lt_length_iff->xR_,length_reverse->xU_,getElem_inj->xV_,find?_eq_none->xX_,map_nil->xY_,nil_append->xZ_,range_succ->x1_,length_filter_le->x2_,mem_iff_getElem->x6_,mem_or_eq_of_mem_set->x9_,cons_append->zb_,any_eq_true->zc_,not_mem_nil->zd_,forIn_cons->zl_,getElem?_cons_zero->zm_,set_cons_zero->zp_,map_replicate->zq_,length_filter_eq_length_iff->zr_,reverse_replicate->zu_,nodup_append->zz_,forIn_nil->zC_,nodup_range->zM_,mem_flatMap->zN_,any_cons->zR_,filterMap_cons->zV_,idxOf_cons->zZ_,length_pos_iff->z2_,length_zip->z3_,find?_some->z4_,toList_toArray->z5_,zip_cons_cons->z6_,map_inj_right->z7_,take_zero->z9_,idxOf_append->we_,getElem_drop->wf_,replicate->rp,range->rq,length->rL,take_append_of_le_length->rO,drop_append_of_le_length->rP,eq_of_mem_replicate->rY,getElem?_replicate->rZ,zipIdx_cons->sf,pairwise_singleton->sj,foldl->sr,find?_cons_of_neg->sJ,getElem?_toArray->sO,perm_append_comm->sP,set_append_right->sS,nodup_nil->s9,drop_zero->tq,flatMap_append->tG,take_succ_cons->tH,map_take->tI,zip_nil_right->tL,any_eq_false->tQ,take_sublist->tS,map_set->tW,reverse_cons->t9,getElem?_map->ua,getElem_take->ub,reverse_perm->ud,map_fst_zip->uo,drop_length->uu,length_tail->uv,countP_cons->ux,zipIdx_nil->uB,drop_take->uN,take_take->uO,all_cons->vi,drop->wI
open PySem renaming wpAny_bind->jb_,wpAny_pure->jo_,boot_len->jF_,wpAny_loadPart'->j4_,wpAny_callSpecial?_slot->j5_,wpAny_field->qd_,mem_of_lookup->qm_,wpAny_newObj_type->qq_,wpAny_mono->qB_,wpAny_call_entry->qD_,wpAny_holding->qJ_,wpAny_seqItems->qR_,wpAny_setField_rec->xe_,wpAny_typeNameOfWhole_keyiter->xg_,wpAny_attempt->xl_,wpAny_pyIter_tuple->xv_,wpAny_Call_Name_kw->xx_,wpAny_truthy_bool->xF_,wpAny_passesOwn->xG_,call_meets->xM_,wpAny_typeNameOf_keyiter->xN_,wpAny_setField->x8_,wpAny_comprehension_free->zg_,tupleKind_room_in1->zk_,wpAny_nextOf_list_item->zv_,wpAny_pyIter_list->zw_,wpAny_dictEntries->zA_,wpAny_isOneOf_keyiter->zF_,wpAny_updateSeq_pair->zQ_,wpAny_rule->zS_,wpAny_execs_nil->zW_,wpAny_letGo->zY_,wpAny_updateSeq->z1_,list_append->wb_,FuncData->α6,seqSlot_of->ui,call->uK,Within->vx,Fin->wJ
open PySem.Heap renaming get?_push_of_some->jf_,lt_size->jr_,get?_push_size->jx_,get?_update_other->j6_,size_push->qf_,get?_update_self->qM_
open Int renaming toNat_natCast->jg_,emod_lt_of_pos->jZ_,emod_nonneg->qa_,mul_le_mul_of_nonneg_right->qA_,toNat_of_nonneg->xr_,le_of_lt->xT_,le_refl->zy_,mul_nonneg->zB_,zero_add->zI_,add_mul->wh_,lt_of_lt_of_le->tN,mul_le_mul->uR,le_trans->vC
open Nat renaming le_refl->ji_,lt_of_lt_of_le->jz_,ne_of_lt->jM_,zero_le->jY_,lt_irrefl->j8_,ne_of_gt->qe_,le_trans->qp_,sub_self->qG_,lt_or_ge->qZ_,not_lt_zero->xb_,lt_succ_of_lt->xn_,le_add_right->xu_,le_of_succ_le->xP_,lt_trans->xS_,le_of_lt->ze_,zero_add->zG_,lt_succ_self->zJ_,le_succ->wg_,not_lt->wj_,le_of_eq->sx,mul_le_mul_right->tD,lt_of_le_of_lt->tM,mul_comm->tT,min_self->tV,sub_zero->tX,add_zero->tZ,le_of_not_lt->uh,not_lt_of_le->uk,succ_le_succ->um,strongRecOn->uF,succ_mul->vA,add_comm->vB,le_total->vE
open Option.some renaming inj->jq_,injEq->zx_
open Bool renaming false_ne_true->js_,false_eq_true->jS_,and_eq_true->qi_,eq_iff_iff->qC_,not_false->z8_,not_true->wi_,not_eq_true'->uc,or_eq_true->uA,false_and->uI,true_and->vk
open PyProof.Rows renaming wpS_bind->jB_,boot_tuple->jC_,wpS_pure->jI_,callWith_type1->j9_,wpS_forRange->qP_,boot_isinstance->xm_,boot_list->xs_,slot_tuple_getitem->xK_,wpS_mono->x4_,KK_mirror_equal->zo_,boot_max->zH_,wpS_modify->zT_,callWith_builtin1->uf,boot_bool->vG,boot_all->vM,boot_min->vN,boot_int->vO,KeyKind->vR,lt_int->vV,setArr->vX
open PySem.F renaming plainAttrs_list->jG_,slot_list_append->jK_,type_list_append->jL_,slot_dict_keyiterator_next->q0_,slot_tuple_iterator_next->q6_,slot_tuple_iterator_next->xt_,plain_extend_loop->xD_,slot_zip_next->x0_,args_tuple_add_2->zf_,args_tuple_iterator_next_1->zh_,entry_tuple_add->zi_,entry_tuple_iterator_next->zn_,slot_tuple_add->zs_,slot_dict_get->zD_,slot_tuple_mul->zL_,args_list_append_2->zP_,slot_int_rmul->zX_,slot_zip_next->z0_,slot_dict_setdefault->rQ,entry_extend_loop->rT,args_dict_get_2->r6,plainAttrs_dict->r9,args_zip_next_1->si,slot_list_index->sk,type_list_index->sq,entry_dict_get->su,entry_zip_next->sG,args_dict_setdefault_3->uq,entry_dict_setdefault->uz,type_dict_setdefault->uD,args_object_init_3->uL,args_list_init_2->vm,slot_list_extend->vp,type_list_extend->vq,args_tuple_lt_2->vt,typeCall_list_1->vv,entry_list_init->vw,entry_tuple_lt->vz,typeCall_zip_2->vF,slot_tuple_lt->vH,type_dict_get->vI,newCall_zip_2->vK,entry_zip_new->vL,called_list->vW,called_zip->v9
open Array renaming length_toList->j3_,getElem?_eq_getElem->qF_,toList_append->qX_,getElem?_toList->xz_,perm_iff_toList_perm->x5_,toList_reverse->x7_,toList_push->wd_,toList_append->rK,toList_setIfInBounds->rS,getElem?_eq_none->sv,getElem_extract->sY,forIn_toList->tO,size_push->uC,toList->vy,ext'->wa
open PySem.W renaming mg_none_of->qj_,kia_one->qx_,cellsFrom_some->xW_,kitx_list->wa_,Frag->α3,CodeHd->rE,tabIn->rH,tabObj->rJ,kla_obj->rR,methodObj->rV,instObj->sL,OpenLaw->sN,lookIn->sZ,mg_of->tJ,kitx_tuple->tK,kitx_dict->tR,plainGet->ue,kdl_call->uj,kat_cons->ur,kat_yes->uE,kla_makeFunctionHit->uH,findIn->uJ,kat_go->uP,kat_no->uQ,WalkO->vn,kla_makeFunction->vo,kdl_hint_dict->vJ,hideAll_size->vP,hideAll_none->vQ,kla_callFunE->vS,kla_codeExpr->vT,hideAll_get->vU,codeHd_of_K->vY,of_hideAll->vZ,kitx_float->v3,callWith_K->v5,codeRec_of->v7,ki_setBack->v8,hasDictIn->we,plainOver->wg,specialIn->wk,kitx_none->wm,kitx_bool->wq,eq_bytes->wA,ne_bytes->wB,kitx_int->wC,kitx_str->wD,kitx_own->wF,ki_setAt->wG,kdl_dict->wH,kat_kind->wK,kla_eval->wL,codeHdIn->wM,hideAll->wN,takesIn->wO,kat_nil->wQ,kat_one->wR,KatTups->wU,InstAt->wV,KdlSrc->wW,kat_lt->wX,kla_fn->wY,mroIn->wZ
open Option renaming toList_some->qu_,isSome_iff_exists->xI_,isSome_some->zj_,none->rW,isSome_none->tP,isSome_map->tU,getD_none->ug,getD_some->uw,map_some->uG
open PyProof.Rows.KeyOrd renaming kle_of_klt->qz_,kle_refl->qQ_,kle_trans->xh_
open PySem.Calls renaming spliced_cons->xw_,spliced_nil->x3_,callWith_builtin->zt_,evalArgs_plain->zO_
open PySem.Obj renaming data_mapFields->xy_,isFreed_of_fields->zE_
open True renaming intro->rA
open Sum renaming inl->rB,inr->tF
open Or renaming inl->rC,inr->rG
open ForInStep renaming yield->rD,done->uM
open False renaming elim->rF
open Classical renaming propDecidable->rM,not_forall->tE
open List.Pairwise renaming nil->rN,imp_of_mem->rX,sublist->sQ,map->tY,imp->wz
open List.Perm renaming append_right->sI,append_left->sR
open Prod.mk renaming inj->uy,injEq->vj
open PySem.EqNone renaming eq_none_none->uS,eq_none_bool->uT,eq_bool_none->uU,ne_none_none->uX,ne_none_bool->uY,ne_bool_none->uZ,eq_none_int->u5,eq_none_str->u6,eq_int_none->u7,eq_str_none->va,ne_none_int->vc,ne_none_str->vd,ne_int_none->ve,ne_str_none->vg
open PySem.EqMixed renaming eq_bool_str->uV,eq_str_bool->uW,ne_bool_str->u3,ne_str_bool->u4,eq_int_str->u9,eq_str_int->vb,ne_int_str->vf,ne_str_int->vh
open PySem.W (nsIn keepIn codeIn fnOf kitOne)
set_option Elab.async false
set_option linter.all false
set_option maxRecDepth 100000
namespace L2
open PySem PySem.Spec PyProof.Rows
abbrev Key:=Sum Int Str
def L3:Key->Value->Bool
 |.inl k,v=>Value.isInt k v
 |.inr x,v=>Value.isStrOf x v
def keyH (w:World):Key->Int
 |.inl k=>hashInt k
 |.inr x=>hashStr w x
def Bf:∀{k:Key} {v:Value},L3 k v=true->(∃i t,k=rB i/\v=Value.int i t)\/(∃x t,k=tF x/\v=Value.str x t)
 |.inl i,v,h=>by
  obtain⟨t,e⟩:=Value.isInt_shape (k:=i) (v:=v) h
  exact .inl ⟨i,t,rfl,e⟩
 |.inr x,v,h=>by
  obtain⟨t,e⟩:=Value.isStrOf_shape (x:=x) (v:=v) h
  exact .inr ⟨x,t,rfl,e⟩
def O0 (i:Int)(t:Tok):L3 (.inl i) (.int i t)=true:=by simp[L3,Value.isInt]
def O1 (x:Str)(t:Tok):L3 (.inr x) (.str x t)=true:=by simp[L3,Value.isStrOf]
def Vs (a b:Int):decide ((rB a:Key)=rB b)=(a==b):=by
 by_cases e:a=b
 ·subst e;simp
 ·have h:¬ (rB a:Key)=rB b:=fun q=>e (Sum.inl.inj q)
  rw[qk_ h]
  exact (zU_.mpr e).symm
def Vt (a b:Str):decide ((tF a:Key)=tF b)=decide (a=b):=by
 by_cases e:a=b
 ·subst e;simp
 ·have h:¬ (tF a:Key)=tF b:=fun q=>e (Sum.inr.inj q)
  rw[qk_ h,qk_ e]
def Vu (a:Int)(b:Str):decide ((rB a:Key)=tF b)=false:=qk_ (fun q=>nomatch q)
def Vv (a:Str)(b:Int):decide ((tF a:Key)=rB b)=false:=qk_ (fun q=>nomatch q)
def Bi (prog:Program)(w:World):PySem.KeyKind prog w Key where
 is:=L3
 hash:=keyH w
 inj:=fun v a b ha hb=>by
  rcases Bf ha with ⟨i,t,rfl,rfl⟩|⟨x,t,rfl,rfl⟩
  ·rcases Bf hb with ⟨j,u,rfl,e⟩|⟨y,u,rfl,e⟩
   ·injection e with e1 _;rw[e1]
   ·exact nomatch e
  ·rcases Bf hb with ⟨j,u,rfl,e⟩|⟨y,u,rfl,e⟩
   ·exact nomatch e
   ·injection e with e1 _;rw[e1]
 byValue:=fun k v h=>by
  rcases Bf h with ⟨i,t,rfl,rfl⟩|⟨x,t,rfl,rfl⟩<;>rfl
 pyHash:=fun hv h=>by
  rcases Bf hv with ⟨i,t,rfl,rfl⟩|⟨x,t,rfl,rfl⟩
  ·exact wpAny_pyHash_int h
  ·exact wpAny_pyHash_str h
 eqBool:=fun hu hv h=>by
  rcases Bf hu with ⟨i,t,rfl,rfl⟩|⟨x,t,rfl,rfl⟩
  ·rcases Bf hv with ⟨j,u,rfl,rfl⟩|⟨y,u,rfl,rfl⟩
   ·rw[Vs]at h;exact wpAny_eqBool_int h
   ·rw[Vu]at h;exact SeqAt.EqAt.int_str i t y u _ _ _ _ h
  ·rcases Bf hv with ⟨j,u,rfl,rfl⟩|⟨y,u,rfl,rfl⟩
   ·rw[Vv]at h;exact SeqAt.EqAt.str_int x t j u _ _ _ _ h
   ·rw[Vt]at h;exact wpAny_eqBool_str h
 «strs» := fun k x t v h=>by
  rcases Bf h with ⟨i,u,rfl,e⟩|⟨y,u,rfl,e⟩
  ·exact nomatch e
  ·injection e with e1 _
   subst e1
   cases v<;>rfl
def L4 (prog:Program)(w:World)(i:Int)(t:Tok):(Bi prog w).is (.inl i) (.int i t)=true:=O0 i t
def L5 (prog:Program)(w:World)(x:Str)(t:Tok):(Bi prog w).is (.inr x) (.str x t)=true:=O1 x t
inductive V where
 | non|bl (b:Bool)|int (i:Int)|str (x:Str)|byt (b:Array UInt8)|flt (b:UInt64)|ref (a:Addr)|ty (n:String)
 deriving DecidableEq
def RelV:V->Value->Prop
 |.non,u=>u=Value.none
 |.bl b,u=>u=Value.bool b
 |.int i,u=>∃t,u=Value.int i t
 |.str x,u=>∃t,u=Value.str x t
 |.byt b,u=>∃t,u=Value.bytes b t
 |.flt b,u=>∃t,u=Value.float b t
 |.ref a,u=>u=Value.ref a
 |.ty n,u=>u=Value.type n
abbrev Vals:List V->List Value->Prop:=Paired RelV
def Vals.length   (r:Vals xs us):xs.length=us.length:=Paired.length r
def Vals.get:∀{xs:List V} {us:List Value} {i:Nat} {x:V},Vals xs us->xs[i]?=some x->∃u,us[i]?=some u/\RelV x u
 |_,_,_,_,.nil,e=>by simp at e
 |_,_,0,_,.cons r _,e=>by simp at e;subst e;exact⟨_,rfl,r⟩
 |_,_,i+1,x,.cons _ t,e=>by
  obtain⟨u,h1,h2⟩:=Vals.get (i:=i) (x:=x) t (by simpa using e)
  exact⟨u,by simpa using h1,h2⟩
def Vals.set {x:V}{u:Value}(r:RelV x u):∀{xs:List V} {us:List Value} (i:Nat),Vals xs us->Vals (xs.set i x) (us.set i u)
 |_,_,_,.nil=>.nil
 |_,_,0,.cons _ t=>.cons r t
 |_,_,i+1,.cons q t=>.cons q (Vals.set r i t)
def Vals.append:∀{xs ys:List V} {us ws:List Value},Vals xs us->Vals ys ws->Vals (xs++ys) (us++ws)
 |_,_,_,_,.nil,s=>s
 |_,_,_,_,.cons r t,s=>.cons r (Vals.append t s)
def Vals.take:∀{xs:List V} {us:List Value} (n:Nat),Vals xs us->Vals (xs.take n) (us.take n)
 |_,_,0,_=>.nil
 |_,_,_+1,.nil=>.nil
 |_,_,n+1,.cons r t=>.cons r (Vals.take n t)
def Vals.drop:∀{xs:List V} {us:List Value} (n:Nat),Vals xs us->Vals (xs.drop n) (us.drop n)
 |_,_,0,r=>r
 |_,_,_+1,.nil=>.nil
 |_,_,n+1,.cons _ t=>Vals.drop n t
def RelO:Option V->α5->Prop
 |some v,some u=>RelV v u
 |none,none=>True
 |_,_=>False
def KV {κ:Type}:List (κ×V)->List (κ×Value)->Prop:=Paired fun (p:κ×V) (q:κ×Value)=>p.1=q.1/\RelV p.2 q.2
def kV:Key->V
 |.inl i=>.int i
 |.inr x=>.str x
inductive HO where
 | lst (xs:List V)
 | tup (xs:List V)
 | dK (kvs:List (Key×V))|dT (kvs:List (List Key×V))
 | set (S:Int->Bool) (n:Nat)
 | ins (C dx:Addr) (fs:List (Str×V))
 | own (x:Addr)
 | xd (fs:List (Str×V))
 | met (f x:Addr)
 | rng (lo hi:Int)
 | frz (o:Obj) (u:HO)
 | tbl (ps:Array Value)
 | ext (φ:Heap->Prop)
abbrev Hp:=Addr->Option HO
def upd (H:Hp)(a:Addr)(o:HO):Hp:=fun b=>if b=a then some o else H b
def Ab    : upd H a o a=some o:=by unfold upd;rw[if_pos rfl]
def Aj    (h:b≠a):upd H a o b=H b:=by unfold upd;rw[if_neg h]
def Vw {H:Hp}{a b:Addr}{o u:HO}(h:H a=some o)(h':H b=some u)(d:o≠u):a≠b:=by
 intro e;subst e;rw[h]at h';exact d (jq_ h')
def Aq {H:Hp}{a b:Addr}{o:HO}(h:H a=some o)(h':H b=none):a≠b:=by
 intro e;subst e;rw[h]at h';cases h'
section
variable (P:Program) (w:World)
def Bj (H:Hp)(h:Heap)(a:Addr):HO->Prop
 |.lst xs=>xs.length<=sizeLine/\∃(its:List Value) (n:Nat),Vals xs its/\h.get? a=some {cls:=.type "list",data:=.seq its.toArray n}
 |.tup xs=>xs.length<=sizeLine/\∃its:List Value,Vals xs its/\IsTup h a its.toArray
 |.dK kvs=>kvs.length<=sizeLine/\(a==sysModules)=false/\∃vs,KV kvs vs/\h.DictOf (Bi P w) a vs
 |.dT kvs=>kvs.length<=sizeLine/\(a==sysModules)=false/\∃xs:List (List Key×Addr×Value),
   Paired (fun (p:List Key×V) (q:List Key×Addr×Value)=>p.1=q.1/\H q.2.1=some (.tup (p.1.map kV))/\RelV p.2 q.2.2) kvs xs /\
   ∃o es ep,h.get? a=some o/\o.ExactDict/\o.data=.dict es ep/\es.toList=xs.map (entryOfKey (tupleKind (Bi P w)))/\(xs.map (·.1)).Nodup
 |.set S n=>h.SetOf (intKind P w) a S n
 |.ins C dx fs=>H dx=some (.own a)/\fs.length<=1000/\dx≠a/\h.get? a=some (sL C dx) /\
   ∃mA,h.Ns1 dx mA/\(∀f,RelO (fs.lookup f) (mA f))/\vx mA (fs.map (·.1))
 |.own _=>∃o,h.get? a=some o
 |.xd fs=>∃mA,h.Ns1 a mA/\∀f,RelO (fs.lookup f) (mA f)
 |.rng lo hi=>∃t u v,h.get? a=some {cls:=.type "range",data:=.fields #[.int lo t,.int hi u,.int 1 v]}
 |.frz o u=>h.get? a=some o/\Bj H h a u
 |.tbl ps=>h.get? a=some {cls:=.none,data:=.fields ps}
 |.met f x=>h.get? a=some (rV (.ref f) (.ref x))
 |.ext φ=>φ h/\(∃o,h.get? a=some o)/\∀h1 h2:Heap,φ h1->(∀o,h1.get? a=some o->h2.get? a=some o)->φ h2
def HOk (H:Hp)(h:Heap):Prop:=∀a o,H a=some o->Bj P w H h a o
end
section
variable {P:Program} {w:World} {H H':Hp} {h h':Heap} {a:Addr} {o:HO}
def Bj.lt (x:Bj P w H h a o):a<h.objs.size:=by
 cases o with
 |lst xs=>obtain⟨_,_,_,_,e⟩:=x;exact jr_ e
 |tup xs=>obtain⟨_,_,_,p⟩:=x;exact p.lt
 |dK kvs=>obtain⟨_,_,_,_,o,_,_,e,_⟩:=x;exact jr_ e
 |dT kvs=>obtain⟨_,_,_,_,o,_,_,e,_⟩:=x;exact jr_ e
 |set S n=>obtain⟨o,_,_,_,e,_⟩:=x;exact jr_ e
 |ins C dx fs=>obtain⟨_,_,_,e,_⟩:=x;exact jr_ e
 |own y=>obtain⟨_,e⟩:=x;exact jr_ e
 |xd fs=>obtain⟨_,⟨_,_,_,e,_⟩,_⟩:=x;exact jr_ e
 |rng lo hi=>obtain⟨_,_,_,e⟩:=x;exact jr_ e
 |frz ob u=>obtain⟨e,_⟩:=x;exact jr_ e
 |tbl ps=>exact jr_ (show h.get? a=some _ from x)
 |met f y=>exact jr_ (show h.get? a=some _ from x)
 |ext φ=>obtain⟨_,⟨_,e⟩,_⟩:=x;exact jr_ e
def Paired.mapP {α β:Type}{F G:α->β->Prop}:∀{l₁:List α} {l₂:List β},Paired F l₁ l₂->(∀a b,F a b->G a b)->Paired G l₁ l₂
 |_,_,.nil,_=>.nil
 |_,_,.cons r t,f=>.cons (f _ _ r) (Paired.mapP t f)
def Bj.stay (x:Bj P w H h a o)(k:∀b u,(b=a\/H b=some (.own a))->h.get? b=some u->h'.get? b=some u)
  (ho:∀b,H b=some (.own a)->H' b=some (.own a)) (ht:∀b xs,H b=some (.tup xs)->H' b=some (.tup xs)):Bj P w H' h' a o:=by
 induction o with
 |lst xs=>obtain⟨z,its,n,r,e⟩:=x;exact⟨z,its,n,r,k _ _ (.inl rfl) e⟩
 |tup xs=>obtain⟨z,its,r,ob,e,c⟩:=x;exact⟨z,its,r,ob,k _ _ (.inl rfl) e,c⟩
 |dK kvs=>obtain⟨z,y,vs,r,ob,es,ep,e,c⟩:=x;exact⟨z,y,vs,r,ob,es,ep,k _ _ (.inl rfl) e,c⟩
 |dT kvs=>
  obtain⟨z,y,xs,r,ob,es,ep,e,c⟩:=x
  exact⟨z,y,xs,Paired.mapP r fun p q z=>⟨z.1,ht _ _ z.2.1,z.2.2⟩,ob,es,ep,k _ _ (.inl rfl) e,c⟩
 |set S n=>obtain⟨ob,es,ep,t,e,c⟩:=x;exact⟨ob,es,ep,t,k _ _ (.inl rfl) e,c⟩
 |ins C dx fs=>
  obtain⟨d,z,ne,e,mA,⟨od,es,ep,e2,c⟩,r⟩:=x
  exact⟨ho _ d,z,ne,k _ _ (.inl rfl) e,mA,⟨od,es,ep,k _ _ (.inr d) e2,c⟩,r⟩
 |own y=>obtain⟨ob,e⟩:=x;exact⟨ob,k _ _ (.inl rfl) e⟩
 |xd fs=>obtain⟨mA,⟨od,es,ep,e,c⟩,r⟩:=x;exact⟨mA,⟨od,es,ep,k _ _ (.inl rfl) e,c⟩,r⟩
 |rng lo hi=>obtain⟨t,u,v,e⟩:=x;exact⟨t,u,v,k _ _ (.inl rfl) e⟩
 |frz ob u ih=>obtain⟨e,q⟩:=x;exact⟨k _ _ (.inl rfl) e,ih q⟩
 |tbl ps=>
  have e:h.get? a=some {cls:=.none,data:=.fields ps}:=x
  show h'.get? a=some {cls:=.none,data:=.fields ps}
  exact k a _ (.inl rfl) e
 |met f y=>
  have e:h.get? a=some (rV (.ref f) (.ref y)):=x
  show h'.get? a=some (rV (.ref f) (.ref y))
  exact k a _ (.inl rfl) e
 |ext φ=>obtain⟨p,⟨o,e⟩,st⟩:=x;exact⟨st _ _ p fun o q=>k _ _ (.inl rfl) q,⟨o,k _ _ (.inl rfl) e⟩,st⟩
def HOk.lt (x:HOk P w H h)(e:H a=some o):a<h.objs.size:=(x a o e).lt
def HOk.fresh (x:HOk P w H h)(e:h.objs.size<=a):H a=none:=by
 cases q:H a with
 |none=>rfl
 |some u=>exact absurd (jz_ (x.lt q) e) (j8_ _)
def HOk.kept (x:HOk P w H h)(k:∀b u,h.get? b=some u->h'.get? b=some u):HOk P w H h':=fun a o e=>
 (x a o e).stay (fun b u _ q=>k b u q) (fun _ q=>q) fun _ _ q=>q
def HOk.laid (x:HOk P w H h)(k:∀b u,h.get? b=some u->h'.get? b=some u)(hp:h.objs.size<=a)(new:Bj P w (upd H a o) h' a o):HOk P w (upd H a o) h':=fun b u e=>by
 have hn:=x.fresh hp
 by_cases hb:b=a
 ·subst hb;rw[Ab]at e;cases e;exact new
 ·rw[Aj hb]at e
  exact (x b u e).stay (fun c v _ q=>k c v q) (fun c q=>by rw[Aj (Aq q hn)];exact q) fun c xs q=>by rw[Aj (Aq q hn)];exact q
end
def Rd (H:Hp)(a:Addr)(u:HO):Prop:=H a=some u \/ ∃o,H a=some (.frz o u)
def Rd.ok       (r:Rd H a u)(x:HOk P w H h):Bj P w H h a u:=by
 rcases r with r|⟨o,r⟩
 ·exact x a u r
 ·obtain⟨_,q⟩:=x a _ r
  exact q
def Mut:Option HO->Prop
 |some (.lst _)=>True
 |some (.dK _)=>True
 |some (.dT _)=>True
 |some (.set _ _)=>True
 |some (.ins _ _ _)=>True
 |some (.ext _)=>True
 |_=>False
section
variable {P:Program} {w:World} {H:Hp} {h h':Heap} {x e:Addr} {o':HO}
def HOk.write (ok:HOk P w H h)(mu:Mut (H x))(he:e=x\/H e=some (.own x))(k:∀b u,b≠e->h.get? b=some u->h'.get? b=some u)(jd:∃u,h'.get? e=some u)
  (new:Bj P w (upd H x o') h' x o'):HOk P w (upd H x o') h':=fun b u q=>by
 have nown:∀c y,H c=some (.own y)->c≠x:=fun c y r z=>by subst z;rw[r]at mu;exact mu
 have ntup:∀c xs,H c=some (.tup xs)->c≠x:=fun c xs r z=>by subst z;rw[r]at mu;exact mu
 by_cases hb:b=x
 ·subst hb;rw[Ab]at q;cases q;exact new
 ·rw[Aj hb]at q
  by_cases jA:b=e
  ·have q':H b=some (.own x):=by
    rcases he with z|z
    ·exact absurd (jA.trans z) hb
    ·rw[jA];exact z
   rw[q]at q';cases q'
   obtain⟨v,hv⟩:=jd
   exact⟨v,by rw[jA];exact hv⟩
  ·refine (ok b u q).stay (fun c v hc r=>k c v ?_ r) (fun c r=>by rw[Aj (nown c b r)];exact r) fun c xs r=>by rw[Aj (ntup c xs r)];exact r
   rcases hc with rfl|hc
   ·exact jA
   ·rintro rfl
    rcases he with z|z
    ·exact nown c b hc z
    ·rw[hc]at z;cases z;exact hb rfl
end
structure Un (fs ex:List Addr)(H H':Hp)(h h':Heap):Prop where
 keep:∀b o,h.get? b=some o->H b=none->b∉fs->b∉ex->h'.get? b=some o
 slot:∀b o,h.get? b=some o->H b=none->b∈fs->b∉ex->∃sl,h'.get? b=some {o with slots:=sl}
 free:∀b o,h.get? b=some o->H b=none->b∉ex->H' b=none
 there:∀b o,h.get? b=some o->b∉ex->∃o',h'.get? b=some o'
 tups:∀b xs,H b=some (.tup xs)->H' b=some (.tup xs)
 frzs:∀b o u,H b=some (.frz o u)->H' b=some (.frz o u)
 tbls:∀b ps,H b=some (.tbl ps)->∃more,H' b=some (.tbl (ps++more))
section
variable {fs fs' ex ex':List Addr} {H H1 H2:Hp} {h h1 h2 h':Heap} {a x e:Addr} {o:HO}
def Un.any (u:Un fs ex H H1 h h1)   (q:h.get? b=some ob)(n:H b=none)(hx:b∉ex):∃sl,h1.get? b=some {ob with slots:=sl}:=by
 by_cases hb:b∈fs
 ·exact u.slot b ob q n hb hx
 ·exact⟨ob.slots,u.keep b ob q n hb hx⟩
def Un.kept (k:∀b u,h.get? b=some u->h'.get? b=some u):Un fs ex H H h h' :=
 ⟨fun b ob q _ _ _=>k b ob q,fun b ob q _ _ _=>⟨ob.slots,k b ob q⟩,fun _ _ _ n _=>n,fun b ob q _=>⟨ob,k b ob q⟩,fun _ _ q=>q,fun _ _ _ q=>q,fun _ ps q=>⟨#[],by rw[q];simp⟩⟩
def Un.refl:Un fs ex H H h h:=Un.kept fun _ _ q=>q
def Un.laid (k:∀b u,h.get? b=some u->h'.get? b=some u)(hp:h.objs.size<=a)(hn:H a=none):Un fs ex H (upd H a o) h h' where
 keep:=fun b u q _ _ _=>k b u q
 slot:=fun b u q _ _ _=>⟨u.slots,k b u q⟩
 free:=fun b u q n _=>by rw[Aj (jM_ (jz_ (jr_ q) hp))];exact n
 there:=fun b u q _=>⟨u,k b u q⟩
 tups:=fun b xs q=>by rw[Aj (Aq q hn)];exact q
 frzs:=fun b u xs q=>by rw[Aj (Aq q hn)];exact q
 tbls:=fun b ps q=>⟨#[],by rw[Aj (Aq q hn),q];simp⟩
def Un.write (mu:Mut (H x))(he:e=x\/H e=some (.own x))(k:∀b u,b≠e->h.get? b=some u->h'.get? b=some u)(jd:∃u,h'.get? e=some u):Un fs ex H (upd H x o) h h':=by
 have hx:∀b,H b=none->b≠x:=fun b n z=>by subst z;rw[n]at mu;exact mu
 have hb:∀b,H b=none->b≠e:=fun b n z=>by
  subst z
  rcases he with r|r
  ·exact hx b n r
  ·rw[n]at r;cases r
 have hm:∀b u,H b=some u->¬ Mut (some u)->b≠x:=fun b u q nm z=>by subst z;rw[q]at mu;exact nm mu
 refine⟨fun b u q n _ _=>k b u (hb b n) q,fun b u q n _ _=>⟨u.slots,k b u (hb b n) q⟩,fun b u q n _=>by rw[Aj (hx b n)];exact n,fun b u q _=>?_,
  fun b xs q=>by rw[Aj (hm b _ q fun z=>z)];exact q,fun b u xs q=>by rw[Aj (hm b _ q fun z=>z)];exact q,fun b ps q=>⟨#[],by rw[Aj (hm b _ q fun z=>z),q];simp⟩⟩
 by_cases jA:b=e
 ·subst jA;exact jd
 ·exact⟨u,k b u jA q⟩
end
def trk (h:Heap)(H:Hp):List Addr:=(rq h.objs.size).filter fun a=>(H a).isSome
def hidT (h:Heap)(H:Hp):Heap:=wN h (trk h H)
def O2 (h:Heap)(H:Hp):(hidT h H).objs.size=h.objs.size:=vP _ _
def Hk     (e:h.get? b=some o)(n:H b=none):(hidT h H).get? b=some o:=
 vU _ e fun hm=>by
  have q:(H b).isSome=true:=(xo_.mp hm).2
  rw[n]at q;simp at q
def Ul     (e:(hidT h H).get? b=some o):h.get? b=some o/\H b=none:=by
 have e':h.get? b=some o:=vZ (trk h H) e
 refine⟨e',?_⟩
 cases q:H b with
 |none=>rfl
 |some x=>
  have hm:b∈trk h H:=xo_.mpr ⟨jE_.mpr (jr_ e'),by simp[q]⟩
  have z:(hidT h H).get? b=none:=vQ (trk h H) hm
  rw[z]at e;cases e
def Um (g h:Heap)(L:Addr):α7:=(rq h.objs.size).filterMap fun a=>if a=L\/(g.get? a).isSome=true then none else (h.get? a).map fun o=>(a,o)
def rest (g h:Heap)(L d:Addr):α7:=(Um g h L).filter fun p=>decide (p.1≠d)
end L2
namespace L2
open PySem PySem.Spec PyProof.Rows
structure Mod (K:α3)(mg:Str->α5)(base:Heap):Prop where
 kin:K.In base
 glob:base.Ns mainGlobals mg
 blt:∃mb,base.Ns builtinsNs mb/\∀x:Str,x ≠ "__name__" -> mb x=bootBuiltins x
 nolimit:base.NoLimit
structure Cx where
 prog:Program
 w:World
 K:α3
 mg:Str->α5
 base:Heap
 A:Around
 N:List Str
 s₀:Shared
 H₀:Hp
 env:Env
 outer:List Env
 stack:List Env
 ex:List Addr
 fn:Str->Bool
 calm:Bool
 pn:α7
 xe:Value->Shared->Prop
def frs (l:List Env):List Addr:=l.filterMap (·.frame)
abbrev Cx.fs (X:Cx):List Addr:=frs X.outer
def Vis (sc:Scope)(x:Str):Prop:=sc.names.lookup x=some .local\/sc.names.lookup x=some .cell\/sc.names.lookup x=some .free
def Loc (sc:Scope)(x:Str):Prop:=sc.names.lookup x=some .local\/sc.names.lookup x=some .cell
def Look (env:Env)(h:Heap)(m:Str->α5)(x:Str)(u:Value):Prop:=
 (env.kindOf x=some .local/\m x=some u)\/((env.kindOf x=some .cell\/env.kindOf x=some .free)/\∃c,env.cells.lookup x=some c/\h.IsCell c (some u))
structure Cx.Ok (X:Cx):Prop where
 mod:Mod X.K X.mg X.base
 kind:X.env.scope.kind=.function
 glob:X.env.globals=mainGlobals
 blt:X.env.builtins=builtinsNs
 above:X.s₀.heap.objs.size<=X.env.locals
 inj:∀x y c,X.env.cells.lookup x=some c->X.env.cells.lookup y=some c->x=y
 has:∀x,(X.env.kindOf x=some .cell\/X.env.kindOf x=some .free)->∃c,X.env.cells.lookup x=some c
 cab:∀x c,X.fn x=true->X.env.cells.lookup x=some c->X.s₀.heap.objs.size<=c
 hd:X.calm=true->X.A.handled=none
 frames:X.A.frames=some X.stack
 stk:X.stack=X.outer\/(X.stack=X.env::X.outer/\X.env.frame=some X.env.locals)
 exf:∀b∈X.ex,b≠X.env.locals/\∀x c,X.env.cells.lookup x=some c->c≠b
 bs:∀b o,X.base.get? b=some o->X.s₀.heap.get? b=some o/\X.H₀ b=none
 bsz:X.base.objs.size<=X.s₀.heap.objs.size
 noex:∀b o,X.base.get? b=some o->b∉X.ex
 exfs:∀b∈X.ex,b∉X.fs
 funs:X.s₀.heap.FunFrames X.base X.outer
 frf:∀b∈X.fs,X.H₀ b=none
structure Inv (X:Cx)(ae:α7)(σ:List (Option V))(H:Hp)(s:Shared):Prop where
 ok:X.Ok
 os:s.os=X.s₀.os
 bare:AllBare s.gens
 base:Un X.fs X.ex X.H₀ H X.s₀.heap s.heap
 loc:∃m,s.heap.Ns X.env.locals m/\∀(i:Nat) (x:Str) (v:V),X.N[i]?=some x->σ[i]?=some (some v)->Vis X.env.scope x->∃u,RelV v u/\Look X.env s.heap m x u
 cell:∀x c,X.env.cells.lookup x=some c->∃v,s.heap.IsCell c v
 free:H X.env.locals=none
 freeC:∀x c,X.env.cells.lookup x=some c->H c=none
 pin:∀p∈X.pn++ae,s.heap.get? p.1=some p.2/\H p.1=none/\p.1≠X.env.locals/\p.1∉X.fs/\∀v,p.2.data ≠ .cell v
 hok:HOk X.prog X.w H s.heap
 len:σ.length=X.N.length
section
variable {X:Cx} {ae:α7} {σ:List (Option V)} {H H':Hp} {s:Shared} {h':Heap}
def Cx.Ok.nofr (ok:X.Ok)   (e:X.base.get? b=some o):b∉X.fs:=fun hb=>by
 have:=(ok.funs.mem hb).1
 rw[e]at this;cases this
def Inv.bs (I:Inv X ae σ H s):∀b o,X.base.get? b=some o->s.heap.get? b=some o/\H b=none:=fun b o e=>
 ⟨I.base.keep b o (I.ok.bs b o e).1 (I.ok.bs b o e).2 (I.ok.nofr e) (I.ok.noex b o e),I.base.free b o (I.ok.bs b o e).1 (I.ok.bs b o e).2 (I.ok.noex b o e)⟩
def Inv.bk (I:Inv X ae σ H s):∀b o,X.base.get? b=some o->s.heap.get? b=some o:=fun b o e=>(I.bs b o e).1
def Inv.mod (I:Inv X ae σ H s):Mod X.K X.mg X.base:=I.ok.mod
def Inv.kIn (I:Inv X ae σ H s):X.K.In s.heap:=I.ok.mod.kin.keeps I.bk
def Inv.lt (I:Inv X ae σ H s):X.env.locals<s.heap.objs.size:=let ⟨_,hn,_⟩:=I.loc;hn.lt
def Inv.sz (I:Inv X ae σ H s):X.s₀.heap.objs.size<=s.heap.objs.size:=qp_ I.ok.above (ze_ I.lt)
def Inv.nofs (I:Inv X ae σ H s)  (h:s.heap.objs.size<=a):a∉X.fs:=fun hb=>by
 obtain⟨_,o,ho,_⟩:=I.ok.funs.mem hb
 exact absurd (jz_ (jr_ ho) (qp_ I.sz h)) (j8_ _)
def Inv.cne (I:Inv X ae σ H s):∀x c,X.env.cells.lookup x=some c->c≠X.env.locals:=fun x c e z=>by
 obtain⟨v,o,ho,hd⟩:=I.cell x c e
 obtain⟨m,⟨o',es,ep,iq,dv,_⟩,_⟩:=I.loc
 rw[z,iq]at ho;cases ho;rw[dv]at hd;cases hd
def Inv.funs (I:Inv X ae σ H s):s.heap.FunFrames X.base X.outer:=by
 have all:∀(l:List Env),(∀b∈frs l,b∈X.fs)->X.s₀.heap.FunFrames X.base l->s.heap.FunFrames X.base l:=by
  intro l
  induction l with
  |nil=>intro _ _;trivial
  |cons env r ih=>
   intro hs hl
   obtain⟨hk,⟨L,o,hf,hn,ho,hd⟩,hr⟩:=hl
   have hL:L∈X.fs:=hs L (by unfold frs;rw[zV_,hf];exact jp_)
   obtain⟨sl,e⟩:=I.base.slot L o ho (I.ok.frf L hL) hL fun z=>I.ok.exfs L z hL
   exact⟨hk,⟨L,_,hf,hn,e,hd⟩,ih (fun b hb=>hs b (by unfold frs;rw[zV_,hf];exact jl_ _ hb)) hr⟩
 exact all X.outer (fun _ hb=>hb) I.ok.funs
def Inv.stack (I:Inv X ae σ H s):s.heap.FunFrames X.base X.stack:=by
 rcases I.ok.stk with e|⟨e,hf⟩
 ·rw[e];exact I.funs
 ·rw[e]
  obtain⟨m,hn,_⟩:=I.loc
  refine .cons (by rw[I.ok.kind];decide) hf hn ?_ I.funs
  exact Heap.get?_none_of_le (qp_ I.ok.bsz I.ok.above)
def Inv.stkSub (I:Inv X ae σ H s):∀b∈frs X.stack,b∈X.env.locals::X.fs:=fun b hb=>by
 rcases I.ok.stk with e|⟨e,hf⟩
 ·rw[e]at hb;exact jl_ _ hb
 ·rw[e]at hb
  unfold frs at hb
  rw[zV_,hf]at hb
  exact hb
def Inv.stkFree (I:Inv X ae σ H s):∀b∈frs X.stack,H b=none:=fun b hb=>by
 rcases jD_.mp (I.stkSub b hb) with e|hb
 ·rw[e];exact I.free
 ·obtain⟨_,o,ho,_⟩:=I.ok.funs.mem hb
  exact I.base.free b o ho (I.ok.frf b hb) fun z=>I.ok.exfs b z hb
def Inv.step {g':Array GenState}{t':Nat}{d':Drawn}{ch:List Addr}(I:Inv X ae σ H s)
  (gX:∀b∈ch,(b∈X.ex\/X.s₀.heap.objs.size<=b)/\b≠X.env.locals/\(∀x c,X.env.cells.lookup x=some c->c≠b)/\∀p∈X.pn++ae,p.1≠b)
  (keep:∀b o,b≠X.env.locals->b∉X.fs->b∉ch->s.heap.get? b=some o->H b=none->h'.get? b=some o)
  (slot:∀b o,b≠X.env.locals->b∈X.fs->b∉ch->s.heap.get? b=some o->H b=none->∃sl,h'.get? b=some {o with slots:=sl}) (free:∀b o,b∉ch->s.heap.get? b=some o->H b=none->H' b=none)
  (there:∀b o,b∉ch->s.heap.get? b=some o->∃o',h'.get? b=some o')
  (tups:∀b xs,H b=some (.tup xs)->H' b=some (.tup xs)) (frzs:∀b o u,H b=some (.frz o u)->H' b=some (.frz o u)) (tbls:∀b ps,H b=some (.tbl ps)->∃more,H' b=some (.tbl (ps++more)))
  (ns:∀m,s.heap.Ns X.env.locals m->h'.Ns X.env.locals m) (hok:HOk X.prog X.w H' h') (hg:AllBare g'):
  Inv X ae σ H' {s with heap:=h',gens:=g',drawn:=d',toks:=t' }:=by
 have neL:∀b o,X.s₀.heap.get? b=some o->b≠X.env.locals:=fun b o e=>jM_ (jz_ (jr_ e) I.ok.above)
 have nM:∀b o,X.s₀.heap.get? b=some o->b∉X.ex->b∉ch:=fun b o e hx hb=>by
  rcases (gX b hb).1 with z|z
  ·exact hx z
  ·exact absurd (jz_ (jr_ e) z) (j8_ _)
 have cellK:∀x c,X.env.cells.lookup x=some c->∀v,s.heap.IsCell c v->h'.IsCell c v:=fun x c e v ⟨o,ho,hd⟩=>by
  have fO:c∉ch:=fun z=>(gX c z).2.2.1 x c e rfl
  by_cases hc:c∈X.fs
  ·obtain⟨sl,q⟩:=slot c o (I.cne x c e) hc fO ho (I.freeC x c e)
   exact⟨_,q,hd⟩
  ·exact⟨o,keep c o (I.cne x c e) hc fO ho (I.freeC x c e),hd⟩
 refine⟨I.ok,I.os,hg,⟨fun b o e n hb hx=>?_,fun b o e n hb hx=>?_,fun b o e n hx=>?_,fun b o e hx=>?_,fun b xs e=>tups b xs (I.base.tups b xs e),fun b o xs e=>frzs b o xs (I.base.frzs b o xs e),fun b ps e=>?_⟩,?_,fun x c e=>?_,?_,fun x c e=>?_,fun p hp=>?_,hok,I.len⟩
 ·exact keep b o (neL b o e) hb (nM b o e hx) (I.base.keep b o e n hb hx) (I.base.free b o e n hx)
 ·obtain⟨sl,e1⟩:=I.base.slot b o e n hb hx
  obtain⟨oN,e2⟩:=slot b _ (neL b o e) hb (nM b o e hx) e1 (I.base.free b o e n hx)
  exact⟨oN,e2⟩
 ·obtain⟨o',e1⟩:=I.base.there b o e hx
  exact free b o' (nM b o e hx) e1 (I.base.free b o e n hx)
 ·obtain⟨o',e1⟩:=I.base.there b o e hx
  exact there b o' (nM b o e hx) e1
 ·obtain⟨m1,e1⟩:=I.base.tbls b ps e
  obtain⟨m2,e2⟩:=tbls b _ e1
  exact⟨m1++m2,by rw[e2,Array.append_assoc]⟩
 ·obtain⟨m,hn,hl⟩:=I.loc
  refine⟨m,ns m hn,fun i x v e1 e2 e3=>?_⟩
  obtain⟨u,r,l⟩:=hl i x v e1 e2 e3
  refine⟨u,r,?_⟩
  rcases l with l|⟨k,c,e,z⟩
  ·exact .inl l
  ·exact .inr ⟨k,c,e,cellK x c e _ z⟩
 ·obtain⟨v,z⟩:=I.cell x c e
  exact⟨v,cellK x c e v z⟩
 ·obtain⟨m,⟨o,_,_,ho,_⟩,_⟩:=I.loc
  exact free _ o (fun z=>(gX _ z).2.1 rfl) ho I.free
 ·obtain⟨v,o,ho,hd⟩:=I.cell x c e
  exact free c o (fun z=>(gX c z).2.2.1 x c e rfl) ho (I.freeC x c e)
 ·obtain⟨e,n,ne,nf,d⟩:=I.pin p hp
  have fO:p.1∉ch:=fun z=>(gX p.1 z).2.2.2 p hp rfl
  exact⟨keep p.1 p.2 ne nf fO e n,free p.1 p.2 fO e n,ne,nf,d⟩
def Inv.un  (I:Inv X ae σ H s)(u:Un X.fs [] H H' s.heap h')(hok:HOk X.prog X.w H' h'):Inv X ae σ H' {s with heap:=h',toks:=t' }:=by
 obtain⟨m,⟨o,es,ep,ho,r⟩,_⟩:=id I.loc
 obtain⟨sl,hL⟩:=u.any ho I.free (by simp)
 exact I.step (g':=s.gens) (d':=s.drawn) (ch:=[]) (fun _ z=>nomatch z) (fun b o _ hb _ e n=>u.keep b o e n hb (by simp)) (fun b o _ hb _ e n=>u.slot b o e n hb (by simp)) (fun b o _ e n=>u.free b o e n (by simp)) (fun b o _ e=>u.there b o e (by simp)) u.tups u.frzs u.tbls (fun m' hm=>by
  obtain⟨o',oO,oP,iq,r'⟩:=hm
  rw[ho]at iq;cases iq
  exact⟨_,oO,oP,hL,r'⟩) hok I.bare
def Inv.call     (I:Inv X ae σ H s)(u:Un (frs X.stack) ch H H' s.heap h')(hok:HOk X.prog X.w H' h')(hg:AllBare g')
  (gX:∀b∈ch,(b∈X.ex\/X.s₀.heap.objs.size<=b)/\b≠X.env.locals/\(∀x c,X.env.cells.lookup x=some c->c≠b)/\∀p∈X.pn++ae,p.1≠b):
  Inv X ae σ H' {s with heap:=h',gens:=g',drawn:=d',toks:=t' }:=by
 obtain⟨m,⟨o,es,ep,ho,r⟩,_⟩:=id I.loc
 obtain⟨sl,hL⟩:=u.any ho I.free fun z=>(gX _ z).2.1 rfl
 exact I.step (ch:=ch) gX (fun b o hL hb hc e n=>u.keep b o e n (fun z=>(jD_.mp (I.stkSub b z)).elim hL hb) hc) (fun b o _ _ hc e n=>u.any e n hc) (fun b o hc e n=>u.free b o e n hc) (fun b o hc e=>u.there b o e hc) u.tups u.frzs u.tbls (fun m' hm=>by
  obtain⟨o',oO,oP,iq,r'⟩:=hm
  rw[ho]at iq;cases iq
  exact⟨_,oO,oP,hL,r'⟩) hok hg
def Inv.turned   (I:Inv X ae σ H s)(k:∀b o,b≠it->s.heap.get? b=some o->h'.get? b=some o)(hn:H it=none)(hL:it≠X.env.locals)
  (h1:it∈X.ex\/X.s₀.heap.objs.size<=it) (h2:∀x c,X.env.cells.lookup x=some c->c≠it) (h3:∀p∈X.pn++ae,p.1≠it):Inv X ae σ H {s with heap:=h',toks:=t' }:=by
 have nit:∀b u,H b=some u->b≠it:=fun b u e z=>by rw[z,hn]at e;cases e
 refine I.step (g':=s.gens) (d':=s.drawn) (ch:=[it]) (fun b hb=>?_) (fun b o _ _ hc e _=>k b o (fun z=>hc (by simp[z])) e) (fun b o _ _ hc e _=>⟨o.slots,k b o (fun z=>hc (by simp[z])) e⟩) (fun _ _ _ _ n=>n)
  (fun b o hc e=>⟨o,k b o (fun z=>hc (by simp[z])) e⟩) (fun _ _ e=>e) (fun _ _ _ e=>e) (fun b ps e=>⟨#[],by rw[e];simp⟩) (fun m hm=>?_) (fun b u e=>?_) I.bare
 ·have e:b=it:=by simpa using hb
  subst e
  exact⟨h1,hL,h2,h3⟩
 ·obtain⟨o,es,ep,ho,r⟩:=hm
  exact⟨o,es,ep,k _ o (qs_ hL) ho,r⟩
 ·refine (I.hok b u e).stay (fun c v hc q=>k c v ?_ q) (fun _ q=>q) fun _ _ q=>q
  rcases hc with z|z
  ·rw[z];exact nit b u e
  ·exact nit c _ z
def Inv.tok (I:Inv X ae σ H s)(t:Nat):Inv X ae σ H {s with toks:=t}:=I.un (h':=s.heap) (t':=t) Un.refl I.hok
def Inv.kept  (I:Inv X ae σ H s)(k:∀b u,s.heap.get? b=some u->h'.get? b=some u):Inv X ae σ H {s with heap:=h',toks:=t' }:=I.un (Un.kept k) (I.hok.kept k)
def Inv.laid    (I:Inv X ae σ H s)(k:∀b u,s.heap.get? b=some u->h'.get? b=some u)(hp:s.heap.objs.size<=a)(new:Bj X.prog X.w (upd H a o) h' a o):
  Inv X ae σ (upd H a o) {s with heap:=h',toks:=t' }:=I.un (Un.laid k hp (I.hok.fresh hp)) (I.hok.laid k hp new)
def Inv.write    (I:Inv X ae σ H s)(mu:Mut (H x))(he:e=x\/H e=some (.own x))(k:∀b u,b≠e->s.heap.get? b=some u->h'.get? b=some u)(jd:∃u,h'.get? e=some u)
  (new:Bj X.prog X.w (upd H x o) h' x o):Inv X ae σ (upd H x o) {s with heap:=h',toks:=t' }:=I.un (Un.write mu he k jd) (I.hok.write mu he k jd new)
def Inv.pins_of  (I:Inv X ae σ H s)(h:∀p∈bq,s.heap.get? p.1=some p.2/\H p.1=none/\p.1≠X.env.locals/\p.1∉X.fs/\∀v,p.2.data ≠ .cell v):Inv X bq σ H s:=
 ⟨I.ok,I.os,I.bare,I.base,I.loc,I.cell,I.free,I.freeC,fun p hp=>(jA_.mp hp).elim (fun z=>I.pin p (qc_ _ z)) (h p),I.hok,I.len⟩
def M8 {N:List Str}(hN:N.Nodup){i j:Nat}{x:Str}(a:N[i]?=some x)(b:N[j]?=some x):i=j:=by
 obtain⟨h1,e1⟩:=jc_.mp a
 obtain⟨h2,e2⟩:=jc_.mp b
 exact (xV_ hN).mp (e1.trans e2.symm)
def HK         (I:Inv X ae σ H s)(hN:X.N.Nodup)(hi:X.N[i]?=some x)(hx:Loc X.env.scope x)(r:RelV v u)
  (h:∀s',Inv X ae (σ.set i (some v)) H s'->(∃a,Heap.SameBut a s.heap s'.heap/\(a=X.env.locals\/X.env.cells.lookup x=some a))->Q () s') (hf:X.fn x=true\/X.env.scope.names.lookup x=some .local:=by first|exact .inl rfl|exact .inr rfl|assumption):wpAny M A (storeName X.env x u) Q E s:=by
 obtain⟨m,hn,hl⟩:=id I.loc
 have jB:(X.env.scope.kind == .class||(X.env.scope.kind == .module&&X.env.locals != X.env.globals))=false:=by rw[I.ok.kind];rfl
 have hiσ:i<σ.length:=by rw[I.len];exact (jc_.mp hi).1
 have cne:=I.cne
 have tracked:∀{a:Addr} {h':Heap},(∃o,s.heap.get? a=some o/\H a=none)->Heap.SameBut a s.heap h'->HOk X.prog X.w H h':=fun {a h'} ha hs b ob e=>by
  obtain⟨_,_,hfree⟩:=ha
  refine (I.hok b ob e).stay (fun c w' hc q=>(hs.2 c ?_).trans q) (fun _ q=>q) fun _ _ q=>q
  rintro rfl
  rcases hc with rfl|hc
  ·rw[hfree]at e;cases e
  ·rw[hfree]at hc;cases hc
 rcases hx with hk|hk
 ·refine wpAny_storeName_local hk hn (fun h' fZ hs=>?_) jB
  obtain⟨oL,_,_,oQ,_⟩:=id hn
  refine h _ ⟨I.ok,I.os,I.bare,⟨fun b o e n hb hx=>?_,fun b o e n hb hx=>?_,I.base.free,fun b o e hx=>?_,I.base.tups,I.base.frzs,I.base.tbls⟩,⟨_,fZ,fun j y v' e1 e2 e3=>?_⟩,fun y c e=>?_,I.free,I.freeC,fun p hp=>?_,tracked ⟨oL,oQ,I.free⟩ hs,by simpa using I.len⟩ ⟨_,hs,.inl rfl⟩
  ·exact (hs.2 b (jM_ (jz_ (jr_ e) I.ok.above))).trans (I.base.keep b o e n hb hx)
  ·obtain⟨sl,e1⟩:=I.base.slot b o e n hb hx
   exact⟨sl,(hs.2 b (jM_ (jz_ (jr_ e) I.ok.above))).trans e1⟩
  ·obtain⟨o',e1⟩:=I.base.there b o e hx
   exact⟨o',(hs.2 b (jM_ (jz_ (jr_ e) I.ok.above))).trans e1⟩
  ·by_cases hj:j=i
   ·subst hj
    rw[hi]at e1;cases e1
    rw[qU_ hiσ]at e2
    cases e2
    exact⟨u,r,.inl ⟨hk,by simp⟩⟩
   ·rw[xi_ (qs_ hj)]at e2
    obtain⟨u',r',q⟩:=hl j y v' e1 e2 e3
    refine⟨u',r',?_⟩
    rcases q with ⟨k,e⟩|⟨k,c,e,z⟩
    ·refine .inl ⟨k,?_⟩
     have:y≠x:=fun e=>hj (M8 hN e1 (e ▸ hi))
     simp[this,e]
    ·exact .inr ⟨k,c,e,z.sameBut hs (cne y c e)⟩
  ·obtain⟨w',z⟩:=I.cell y c e
   exact⟨w',z.sameBut hs (cne y c e)⟩
  ·obtain⟨e,n,ne,nf,d⟩:=I.pin p hp
   exact⟨(hs.2 p.1 ne).trans e,n,ne,nf,d⟩
 ·have oR:X.fn x=true:=by
   rcases hf with z|z
   ·exact z
   ·rw[z]at hk;cases hk
  obtain⟨c,hc⟩:=I.ok.has x (.inl hk)
  obtain⟨w',z⟩:=I.cell x c hc
  refine wpAny_storeName_cell I.ok.kind hk hc z (fun h' je hs=>?_)
  obtain⟨oc,dR,hocd⟩:=id z
  refine h {s with heap:=h' } ⟨I.ok,I.os,I.bare,⟨fun b o e n hb hx=>?_,fun b o e n hb hx=>?_,I.base.free,fun b o e hx=>?_,I.base.tups,I.base.frzs,I.base.tbls⟩,⟨m,hn.sameBut hs (qs_ (cne x c hc)),fun j y v' e1 e2 e3=>?_⟩,fun y c' e=>?_,I.free,I.freeC,fun p hp=>?_,tracked ⟨oc,dR,I.freeC x c hc⟩ hs,by simpa using I.len⟩ ⟨c,hs,.inr hc⟩
  ·exact (hs.2 b (jM_ (jz_ (jr_ e) (I.ok.cab x c oR hc)))).trans (I.base.keep b o e n hb hx)
  ·obtain⟨sl,e1⟩:=I.base.slot b o e n hb hx
   exact⟨sl,(hs.2 b (jM_ (jz_ (jr_ e) (I.ok.cab x c oR hc)))).trans e1⟩
  ·obtain⟨o',e1⟩:=I.base.there b o e hx
   exact⟨o',(hs.2 b (jM_ (jz_ (jr_ e) (I.ok.cab x c oR hc)))).trans e1⟩
  ·by_cases hj:j=i
   ·subst hj
    rw[hi]at e1;cases e1
    rw[qU_ hiσ]at e2
    cases e2
    exact⟨u,r,.inr ⟨.inl hk,c,hc,je⟩⟩
   ·rw[xi_ (qs_ hj)]at e2
    obtain⟨u',r',q⟩:=hl j y v' e1 e2 e3
    refine⟨u',r',?_⟩
    rcases q with q|⟨k,c',e,z'⟩
    ·exact .inl q
    ·refine .inr ⟨k,c',e,z'.sameBut hs ?_⟩
     rintro rfl
     exact hj (M8 hN e1 (I.ok.inj _ _ _ e hc ▸ hi))
  ·by_cases hcc:c'=c
   ·subst hcc;exact⟨_,je⟩
   ·obtain⟨w2,z2⟩:=I.cell y c' e
    exact⟨w2,z2.sameBut hs hcc⟩
  ·obtain⟨e,n,ne,nf,d⟩:=I.pin p hp
   refine⟨(hs.2 p.1 ?_).trans e,n,ne,nf,d⟩
   intro q
   rw[q,dR]at e
   have q':oc=p.2:=jq_ e
   exact d w' (by rw[<-q'];exact hocd)
def JT         (I:Inv X ae σ H s)(hN:X.N.Nodup)(hi:X.N[i]?=some x)(hx:Loc X.env.scope x)(r:RelV v u)
  (h:∀s',Inv X ae (σ.set i (some v)) H s'->Q () s') (hf:X.fn x=true\/X.env.scope.names.lookup x=some .local:=by first|exact .inl rfl|exact .inr rfl|assumption):wpAny M A (storeName X.env x u) Q E s:=
 HK I hN hi hx r (fun s' I' _=>h s' I') hf
def Inv.call'   (I:Inv X ae σ H s)(ho:s'.os=s.os)(u:Un (frs X.stack) ch H H' s.heap s'.heap)(hok:HOk X.prog X.w H' s'.heap)(hg:AllBare s'.gens)
  (gX:∀b∈ch,(b∈X.ex\/X.s₀.heap.objs.size<=b)/\b≠X.env.locals/\(∀x c,X.env.cells.lookup x=some c->c≠b)/\∀p∈X.pn++ae,p.1≠b):Inv X ae σ H' s':=by
 obtain⟨h',g',d',t',o'⟩:=s'
 have e:o'=s.os:=ho
 subst e
 exact I.call (g':=g') (t':=t') (d':=d') u hok hg gX
end
abbrev XK:=Value->Option Addr->Hp->Prop
abbrev St:=List (Option V)
abbrev VK:=V->Hp->Prop
abbrev TE:=St->Hp->VK->Prop
abbrev TT:=St->Hp->(Bool->Hp->Prop)->Prop
abbrev TA:=St->Hp->(List V->Hp->Prop)->Prop
structure Ends where
 nx:St->Hp->Prop
 rt:VK
 bk:St->Hp->Prop:=fun _ _=>False
 ct:St->Hp->Prop:=fun _ _=>False
abbrev TS:=Ends->St->Hp->Prop
def EP (X:Cx)(ae:α7)(σ:St)(Q:VK)(u:Value)(s':Shared):Prop:=∃v H',Inv X ae σ H' s'/\RelV v u/\Q v H'
def TP (X:Cx)(ae:α7)(σ:St)(Q:Bool->Hp->Prop)(b:Bool)(s':Shared):Prop:=∃H',Inv X ae σ H' s'/\Q b H'
def AP (X:Cx)(ae:α7)(σ:St)(Q:List V->Hp->Prop)(us:List Value)(s':Shared):Prop:=∃vs H',Inv X ae σ H' s'/\Vals vs us/\Q vs H'
def SP (X:Cx)(ae:α7)(D:Ends)(f:Flow)(s':Shared):Prop:=
 match f with
 |.next=>∃af H',Inv X ae af H' s'/\D.nx af H'
 |.brk=>∃af H',Inv X ae af H' s'/\D.bk af H'
 |.cont=>∃af H',Inv X ae af H' s'/\D.ct af H'
 |.ret u=>∃v af H',Inv X ae af H' s'/\RelV v u/\D.rt v H'
def PE (X:Cx)(e:Expr)(t:TE):Prop:=
 ∀(ae:α7) (s:Shared) (σ:St) (H:Hp) (Q:VK),Inv X ae σ H s->t σ H Q->wpAny (model X.prog X.w) X.A (eval e X.env) (EP X ae σ Q) X.xe s
def PT (X:Cx)(e:Expr)(t:TT):Prop:=
 ∀(ae:α7) (s:Shared) (σ:St) (H:Hp) (Q:Bool->Hp->Prop),Inv X ae σ H s->t σ H Q->wpAny (model X.prog X.w) X.A (isTrue e X.env (eval e X.env)) (TP X ae σ Q) X.xe s
def PW (X:Cx)(e:Expr)(t:TT):Prop:=
 ∀(eg:Sem Value) (ae:α7) (s:Shared) (σ:St) (H:Hp) (Q:Bool->Hp->Prop),Inv X ae σ H s->t σ H Q->wpAny (model X.prog X.w) X.A (isTrue e X.env eg) (TP X ae σ Q) X.xe s
def PW.pt    (h:PW X e t):PT X e t:=h _
def PA (X:Cx)(es:List Expr)(t:TA):Prop:=
 ∀(pos:Pos) (ae:α7) (s:Shared) (σ:St) (H:Hp) (Q:List V->Hp->Prop),Inv X ae σ H s->t σ H Q->wpAny (model X.prog X.w) X.A (spliced (backTo pos (starEach es X.env))) (AP X ae σ Q) X.xe s
def PS (X:Cx)(st:Stmt)(t:TS):Prop:=
 ∀(ae:α7) (s:Shared) (σ:St) (H:Hp) (D:Ends),Inv X ae σ H s->t D σ H->wpAny (model X.prog X.w) X.A (exec st X.env) (SP X ae D) X.xe s
def PSs (X:Cx)(st:List Stmt)(t:TS):Prop:=
 ∀(ae:α7) (s:Shared) (σ:St) (H:Hp) (D:Ends),Inv X ae σ H s->t D σ H->wpAny (model X.prog X.w) X.A (execs st X.env) (SP X ae D) X.xe s
def thn        (h:wpAny M A t Q E s)(hQ:∀a s,Q a s->Q' a s):wpAny M A t Q' E s:=qB_ h hQ fun _ _ x=>x
end L2
namespace L2
open PySem PySem.Spec PyProof.Rows
section
variable {X:Cx}
def tVar (i:Nat):TE:=fun σ H Q=>∃v,σ[i]?=some (some v)/\Q v H
def tC (v:V):TE:=fun _ H Q=>Q v H
def Vx    (hN:X.N[i]?=some x)(hv:Vis X.env.scope x)(hd:(x==("__debug__" : Str))=false:=by decide)(b8:(x==("__classdict__" : Str))=false:=by decide):PE X (.Name x pos) (tVar i):=by
 intro ae s σ H Q I h
 obtain⟨v,e,h⟩:=h
 obtain⟨m,hn,hl⟩:=I.loc
 obtain⟨u,r,l⟩:=hl i x v hN e hv
 have fin:EP X ae σ Q u s:=⟨v,H,I,r,h⟩
 rcases l with ⟨hk,hm⟩|⟨hk,c,hc,ez⟩
 ·exact wpAny_Name (wpAny_loadName_local I.ok.kind hk hn hm fin) hd
 ·rcases hk with hk|hk
  ·exact wpAny_Name (wpAny_loadName_cell I.ok.kind hk hc ez fin) hd
  ·exact wpAny_Name (wpAny_loadName_free I.ok.kind hk hc ez fin b8) hd
def Ad {i j pos}:PE X (.Constant (.int i) j pos) (tC (.int i)):=fun _ _ _ H _ I h=>wpAny_Constant_int ⟨.int i,H,I.tok _,⟨_,rfl⟩,h⟩
def L6 {b j pos}:PE X (.Constant (.bool b) j pos) (tC (.bl b)):=fun _ _ _ H _ I h=>Constant_bool ⟨.bl b,H,I,rfl,h⟩
def O3 {j pos}:PE X (.Constant .none j pos) (tC .non):=fun _ _ _ H _ I h=>Constant_none ⟨.non,H,I,rfl,h⟩
def Gl (X:Cx)(x:Str):Prop:=X.env.kindOf x=some .globalImplicit
def Uo          (I:Inv X ae σ H s)(hg:Gl X x)(hm:X.mg x=some u)(h:Q u s)
  (hd:(x==("__debug__" : Str))=false:=by decide):wpAny (model X.prog X.w) X.A (eval (.Name x pos) X.env) Q E s:=
 Calls.Name_function_global I.ok.kind hg (Calls.loadGlobal_global (by rw[I.ok.glob];exact I.mod.glob.keeps I.bk) hm h) hd
def DS          (I:Inv X ae σ H s)(hg:Gl X x)(hm:X.mg x=none)(hv:bootBuiltins x=some u)(h:Q u s)
  (hn:x ≠ "__name__" := by decide) (hd:(x==("__debug__" : Str))=false:=by decide):wpAny (model X.prog X.w) X.A (eval (.Name x pos) X.env) Q E s:=by
 obtain⟨mb,h1,h2⟩:=I.mod.blt
 exact Calls.Name_function_global I.ok.kind hg (Calls.loadGlobal_builtin (by rw[I.ok.glob];exact I.mod.glob.keeps I.bk) hm (by rw[I.ok.blt];exact h1.keeps I.bk) ((h2 x hn).trans hv) h) hd
def JU     (hg:Gl X x)(hm:X.mg x=none)(hv:bootBuiltins x=some u)(r:RelV v u)(hn:x ≠ "__name__" := by decide)(hd:(x==("__debug__" : Str))=false:=by decide):PE X (.Name x pos) (tC v):=
 fun _ _ _ H _ I h=>DS I hg hm hv ⟨v,H,I,r,h⟩ hn hd
variable {a b:Expr} {ta tb:TE} {pos:Pos}
def PC (X:Cx)(op:CmpOp)(a b:Expr)(t:TE):Prop:=
 ∀(ae:α7) (s:Shared) (σ:St) (H:Hp) (Q:VK),Inv X ae σ H s->t σ H Q ->
  wpAny (model X.prog X.w) X.A (eval a X.env) (fun v s₁=>wpAny (model X.prog X.w) X.A (eval b X.env) (fun u bA=>wpAny (model X.prog X.w) X.A (compareOp op v u) (EP X ae σ Q) X.xe bA) X.xe s₁) X.xe s
def RD (b:Expr)  (h:op ≠ .In)(h2:op ≠ .NotIn):behindInMarks op b=false:=by
 have e1:(op==CmpOp.In)=false:=by cases op<;>first|rfl|exact absurd rfl h
 have e2:(op==CmpOp.NotIn)=false:=by cases op<;>first|rfl|exact absurd rfl h2
 cases b<;>simp[behindInMarks,e1,e2]
def tB (t:TE):TT:=fun σ H Q=>t σ H fun x H1=>∃c,x=.bl c/\Q c H1
def S0   (h:PC X op a b t)(h1:behindInMarks op b=false:=by first|exact RD _ (by decide) (by decide)|rfl):PT X (.Compare a [op] [b] pos) (tB t):=by
 intro ae s σ H Q I hw
 refine wpAny_isTrue_Compare1 (thn (h ae s σ H _ I hw) fun v s1 h1=>thn h1 fun u s2 h2=>thn h2 fun c s3 ⟨x,H1,I1,r1,q1⟩=>?_) h1
 obtain⟨d,rfl,q⟩:=q1
 cases r1
 exact xF_ ⟨H1,I1,q⟩
def HN   (h:PE X e t)(he:∀eg,isTrue e X.env eg=(do let v <- eg;standAt e.pos;holding [v] (truthy v)):=by intro _;rfl):PT X e (tB t):=by
 intro ae s σ H Q I hw
 refine isTrue_plain (thn (h ae s σ H _ I hw) fun v s1 ⟨x,H1,I1,r1,q1⟩=>?_) (he _)
 obtain⟨d,rfl,q⟩:=q1
 cases r1
 exact xF_ ⟨H1,I1,q⟩
variable {tA nN:TT} {rest:List Expr}
def tAnd (t u:TT):TT:=fun σ H Q=>t σ H fun c H1=>if c=true then u σ H1 Q else Q false H1
def tOr (t u:TT):TT:=fun σ H Q=>t σ H fun c H1=>if c=true then Q true H1 else u σ H1 Q
def tNot (t:TT):TT:=fun σ H Q=>t σ H fun c H1=>Q (!c) H1
def Ec (ha:PT X a tA):PW X (.BoolOp .And [a] pos) tA:=by
 intro wh ae s σ H Q I h
 refine isTrue_and (thn (ha ae s σ H Q I h) fun c s1 e=>?_)
 cases c with
 |true=>exact isTrue_and_nil e
 |false=>exact e
def M9 (ha:PT X a tA):PW X (.BoolOp .Or [a] pos) tA:=by
 intro wh ae s σ H Q I h
 refine isTrue_or (thn (ha ae s σ H Q I h) fun c s1 e=>?_)
 cases c with
 |false=>exact isTrue_or_nil e
 |true=>exact e
def GK (ha:PT X a tA)(hb:PW X (.BoolOp .And (b::rest) pos) nN):PW X (.BoolOp .And (a::b::rest) pos) (tAnd tA nN):=by
 intro wh ae s σ H Q I h
 refine isTrue_and (thn (ha ae s σ H _ I h) fun c s1 ⟨H1,I1,q1⟩=>?_)
 cases c with
 |true=>exact hb wh ae s1 σ H1 Q I1 q1
 |false=>exact⟨H1,I1,q1⟩
def N8 (ha:PT X a tA)(hb:PW X (.BoolOp .Or (b::rest) pos) nN):PW X (.BoolOp .Or (a::b::rest) pos) (tOr tA nN):=by
 intro wh ae s σ H Q I h
 refine isTrue_or (thn (ha ae s σ H _ I h) fun c s1 ⟨H1,I1,q1⟩=>?_)
 cases c with
 |true=>exact⟨H1,I1,q1⟩
 |false=>exact hb wh ae s1 σ H1 Q I1 q1
def Ji (ha:PT X a tA):PT X (.UnaryOp .Not a pos) (tNot tA):=by
 intro ae s σ H Q I h
 exact isTrue_not (ha ae s σ H (fun c H1=>Q (!c) H1) I h)
def Vy (ta tb:TE):TE:=fun σ H Q=>ta σ H fun x H1=>∃c,x=.bl c/\if c=true then tb σ H1 Q else Q (.bl false) H1
def Vz {op}  (h:PE X a t):PE X (.BoolOp op [a] pos) t:=fun ae s σ H Q I hw=>BoolOp_one (h ae s σ H Q I hw)
def VA (ha:PE X a ta)(hb:PE X (.BoolOp .And (b::rest) pos) tb):PE X (.BoolOp .And (a::b::rest) pos) (Vy ta tb):=by
 intro ae s σ H Q I h
 refine BoolOp_and (thn (ha ae s σ H _ I h) fun v s1 ⟨x,H1,I1,r1,q1⟩=>?_)
 obtain⟨c,rfl,q1⟩:=q1
 cases r1
 refine xF_ ?_
 cases c with
 |true=>exact hb ae s1 σ H1 Q I1 q1
 |false=>exact⟨.bl false,H1,I1,rfl,q1⟩
end
end L2
namespace L2
open PySem PySem.Spec PyProof.Rows
def SqL (K:α3)(H:Hp)(a:Addr)(xs:List V):Prop:=
 Rd H a (.lst xs) \/
  ∃(o:Obj) (its:Array Value) (n:Nat),K.lookup a=some o/\o.cls=.type "list" /\ o.dict=none/\o.data=.seq its n/\its.size<=sizeLine/\Vals xs its.toList
def SqT (K:α3)(H:Hp)(a:Addr)(xs:List V):Prop:=
 Rd H a (.tup xs) \/
  ∃(o:Obj) (its:Array Value) (n:Nat),K.lookup a=some o/\o.cls=.type "tuple" /\ o.data=.seq its n/\its.size<=sizeLine/\Vals xs its.toList
def absV:Value->Option V
 |.none=>some .non
 |.bool b=>some (.bl b)
 |.int i _=>some (.int i)
 |.str x _=>some (.str x)
 |.bytes b _=>some (.byt b)
 |.float b _=>some (.flt b)
 |.ref a=>some (.ref a)
 |.type n=>some (.ty n)
 |_=>none
def RelV.abs   (r:RelV x u):absV u=some x:=by
 cases x with
 |non=>cases r;rfl
 |bl _=>cases r;rfl
 |int _=>obtain⟨t,rfl⟩:=r;rfl
 |str _=>obtain⟨t,rfl⟩:=r;rfl
 |byt _=>obtain⟨t,rfl⟩:=r;rfl
 |flt _=>obtain⟨t,rfl⟩:=r;rfl
 |ref _=>cases r;rfl
 |ty _=>cases r;rfl
def RelV.inj   (r:RelV x u)(q:RelV y u):x=y:=jq_ (r.abs.symm.trans q.abs)
def Vals.inj:∀{xs ys:List V} {us:List Value},Vals xs us->Vals ys us->xs=ys
 |_,_,_,.nil,.nil=>rfl
 |_,_,_,.cons r t,.cons r' t'=>by rw[r.inj r',Vals.inj t t']
section
variable {X:Cx} {ae:α7} {σ:St} {H:Hp} {s:Shared} {a:Addr} {xs ys:List V}
def SqL.of {K:α3}(h:H a=some (.lst xs)):SqL K H a xs:=.inl (.inl h)
def SqT.of {K:α3}(h:H a=some (.tup xs)):SqT K H a xs:=.inl (.inl h)
def Inv.list (I:Inv X ae σ H s)(h:SqL X.K H a xs):∃its:List Value,Vals xs its/\PlainL s.heap a its.toArray/\xs.length<=sizeLine:=by
 rcases h with h|⟨o,its,n,hk,hc,hd,hs,hz,r⟩
 ·obtain⟨z,its,n,r,e⟩:=h.ok I.hok
  exact⟨its,r,⟨_,n,e,rfl,rfl,rfl⟩,z⟩
 ·refine⟨its.toList,r,⟨o,n,I.kIn a o hk,hc,hd,by simpa using hs⟩,?_⟩
  have e:=r.length
  simp only[j3_]at e
  lia
def Inv.tuple (I:Inv X ae σ H s)(h:SqT X.K H a xs):∃its:List Value,Vals xs its/\IsTup s.heap a its.toArray/\xs.length<=sizeLine:=by
 rcases h with h|⟨o,its,n,hk,hc,hs,hz,r⟩
 ·obtain⟨z,its,r,p⟩:=h.ok I.hok
  exact⟨its,r,p,z⟩
 ·refine⟨its.toList,r,⟨o,I.kIn a o hk,hc,n,by simpa using hs⟩,?_⟩
  have e:=r.length
  simp only[j3_]at e
  lia
def Inv.list_inj (I:Inv X ae σ H s)(h:SqL X.K H a xs)(h':SqL X.K H a ys):xs=ys:=by
 obtain⟨its,r,⟨o,n,e,_,_,d⟩,_⟩:=I.list h
 obtain⟨its',r',⟨o',n',e',_,_,d'⟩,_⟩:=I.list h'
 rw[e]at e';cases e'
 rw[d]at d'
 injection d' with d1 _
 have:its=its':=by simpa using jJ_ vy d1
 subst this
 exact r.inj r'
def Inv.tuple_inj (I:Inv X ae σ H s)(h:SqT X.K H a xs)(h':SqT X.K H a ys):xs=ys:=by
 obtain⟨its,r,⟨o,e,_,n,d⟩,_⟩:=I.tuple h
 obtain⟨its',r',⟨o',e',_,n',d'⟩,_⟩:=I.tuple h'
 rw[e]at e';cases e'
 rw[d]at d'
 injection d' with d1 _
 have:its=its':=by simpa using jJ_ vy d1
 subst this
 exact r.inj r'
end
abbrev Cx.wish (X:Cx)(E:Value->Shared->Prop):Cx:={X with xe:=E}
abbrev Cx.nox (X:Cx):Cx:=X.wish fun _ _=>False
def Cx.Ok.wish {X:Cx}(ok:X.Ok)(E:Value->Shared->Prop):(X.wish E).Ok:=
 ⟨ok.mod,ok.kind,ok.glob,ok.blt,ok.above,ok.inj,ok.has,ok.cab,ok.hd,ok.frames,ok.stk,ok.exf,ok.bs,ok.bsz,ok.noex,ok.exfs,ok.funs,ok.frf⟩
def Cx.Ok.unwish {X:Cx}{E:Value->Shared->Prop}(ok:(X.wish E).Ok):X.Ok:=
 ⟨ok.mod,ok.kind,ok.glob,ok.blt,ok.above,ok.inj,ok.has,ok.cab,ok.hd,ok.frames,ok.stk,ok.exf,ok.bs,ok.bsz,ok.noex,ok.exfs,ok.funs,ok.frf⟩
section
variable {X:Cx} {ae:α7} {σ:St} {H:Hp} {s:Shared} {E:Value->Shared->Prop}
def Inv.wish (I:Inv X ae σ H s)(E:Value->Shared->Prop):Inv (X.wish E) ae σ H s:=⟨I.ok.wish E,I.os,I.bare,I.base,I.loc,I.cell,I.free,I.freeC,I.pin,I.hok,I.len⟩
def Inv.unwish (I:Inv (X.wish E) ae σ H s):Inv X ae σ H s:=⟨I.ok.unwish,I.os,I.bare,I.base,I.loc,I.cell,I.free,I.freeC,I.pin,I.hok,I.len⟩
def SP.unwish    (h:SP (X.wish E) ae D f s'):SP X ae D f s':=by
 cases f with
 |next=>obtain⟨af,H',I,q⟩:=h;exact⟨af,H',I.unwish,q⟩
 |brk=>obtain⟨af,H',I,q⟩:=h;exact⟨af,H',I.unwish,q⟩
 |cont=>obtain⟨af,H',I,q⟩:=h;exact⟨af,H',I.unwish,q⟩
 |ret u=>obtain⟨v,af,H',I,r,q⟩:=h;exact⟨v,af,H',I.unwish,r,q⟩
def PSs.nox {st:List Stmt}  (h:PSs X.nox st t):PSs X st t:=fun ae s σ H D I hw=>
 qB_ (h ae s σ H D (I.wish _) hw) (fun _ _ q=>q.unwish) fun _ _ z=>rF z
end
section
variable {X:Cx} {st:Stmt} {rest:List Stmt} {t u:TS} {e:Expr} {te:TE} {pos:Pos}
def VB:TS:=fun D σ H=>D.nx σ H
def tSeq (t u:TS):TS:=fun D σ H=>t {D with nx:=u D} σ H
def AH:PSs X [] VB:=fun _ _ σ H _ I h=>zW_ ⟨σ,H,I,h⟩
def Ac (h1:PS X st t)(h2:PSs X rest u):PSs X (st::rest) (tSeq t u):=by
 intro ae s σ H D I h
 refine wpAny_execs_cons (thn (h1 ae s σ H {D with nx:=u D} I h) fun f s1 q=>?_)
 cases f with
 |next=>
  obtain⟨af,H',I',q⟩:=q
  exact h2 ae s1 af H' D I' q
 |ret v=>exact q
 |brk=>exact q
 |cont=>exact q
def Af (h1:PS X st t):PSs X [st] t:=by
 intro ae s σ H D I h
 refine wpAny_execs_cons (thn (h1 ae s σ H D I h) fun f s1 q=>?_)
 cases f with
 |next=>exact zW_ q
 |ret v=>exact q
 |brk=>exact q
 |cont=>exact q
def Inv.quiet     (I:Inv X ae σ H s):interactive X.env=false:=by simp[interactive,I.ok.kind]
def VC (te:TE):TS:=fun D σ H=>te σ H fun _ H1=>D.nx σ H1
def A8 (he:PE X e te)(hs:swapsWith e none pos.line X.env=pure false:=by rfl):PS X (.Expr e pos) (VC te):=by
 intro ae s σ H D I h
 exact wpAny_Expr_any (thn (he ae s σ H _ I h) fun v s1 ⟨x,H1,I1,r1,q1⟩=>⟨σ,H1,I1,q1⟩) I.quiet hs
def tRet (te:TE):TS:=fun D σ H=>te σ H D.rt
def AA (he:PE X e te):PS X (.Return (some e) pos) (tRet te):=by
 intro ae s σ H D I h
 exact wpAny_Return_some (thn (he ae s σ H _ I h) fun v s1 ⟨x,H1,I1,r1,q1⟩=>⟨x,σ,H1,I1,r1,q1⟩)
def tIfS (c:TT)(t u:TS):TS:=fun D σ H=>c σ H fun b H1=>if b=true then t D σ H1 else u D σ H1
def Bx    (hc:PT X c tc)(ha:PSs X a t)(hb:PSs X b u):PS X (.If c a b pos) (tIfS tc t u):=by
 intro ae s σ H D I h
 refine wpAny_If (thn (hc ae s σ H _ I h) fun d s1 ⟨H1,I1,q1⟩=>?_)
 cases d with
 |true=>exact ha ae s1 σ H1 D I1 q1
 |false=>exact hb ae s1 σ H1 D I1 q1
def VD:TS:=fun _ _ _=>False
def RE:PS X st VD:=fun _ _ _ _ _ _ h=>h.elim
end
abbrev TG:=V->St->Hp->(St->Hp->Prop)->Prop
abbrev TGs:=List V->St->Hp->(St->Hp->Prop)->Prop
def PG (X:Cx)(bL:Expr)(t:TG):Prop:=
 ∀(ae:α7) (s:Shared) (σ:St) (H:Hp) (v:V) (u:Value) (Q:St->Hp->Prop),Inv X ae σ H s->RelV v u->t v σ H Q ->
  wpAny (model X.prog X.w) X.A (assign bL X.env u) (fun _ s'=>∃af H',Inv X ae af H' s'/\Q af H') X.xe s
def PGs (X:Cx)(ts:List Expr)(t:TGs):Prop:=
 ∀(ae:α7) (s:Shared) (σ:St) (H:Hp) (vs:List V) (us:List Value) (Q:St->Hp->Prop),Inv X ae σ H s->Vals vs us->t vs σ H Q ->
  wpAny (model X.prog X.w) X.A (assignInOrder ((assignEach ts X.env).map (·.2)) us) (fun _ s'=>∃af H',Inv X ae af H' s'/\Q af H') X.xe s
abbrev TSet:=V->V->V->Hp->(Hp->Prop)->Prop
def PSet (X:Cx)(t:TSet):Prop:=
 ∀(ae:α7) (s:Shared) (σ:St) (H:Hp) (o i v:V) (ov iv u:Value) (Q:Hp->Prop),Inv X ae σ H s->RelV o ov->RelV i iv->RelV v u->t o i v H Q ->
  wpAny (model X.prog X.w) X.A (setItem ov iv u) (fun _ s'=>∃H',Inv X ae σ H' s'/\Q H') X.xe s
abbrev TIp:=V->V->Hp->VK->Prop
def PIp (X:Cx)(op:Operator)(t:TIp):Prop:=
 ∀(ae:α7) (s:Shared) (σ:St) (H:Hp) (x y:V) (v u:Value) (Q:VK),Inv X ae σ H s->RelV x v->RelV y u->t x y H Q ->
  wpAny (model X.prog X.w) X.A (inplaceOp op v u) (EP X ae σ Q) X.xe s
section
variable {X:Cx} {pos:Pos}
def Gf (i:Nat):TG:=fun v σ H Q=>Q (σ.set i (some v)) H
def Ap   (hN:X.N.Nodup)(hi:X.N[i]?=some x)(hx:Loc X.env.scope x)(hf:X.fn x=true\/X.env.scope.names.lookup x=some .local:=by first|exact .inl rfl|exact .inr rfl|assumption):PG X (.Name x pos) (Gf i):=by
 intro ae s σ H v u Q I r h
 exact wpAny_assign_Name (JT I hN hi hx r (fun s' I'=>⟨_,H,I',h⟩) hf)
def gNil:TGs:=fun vs σ H Q=>vs=[]/\Q σ H
def VE (t:TG)(u:TGs):TGs:=fun vs σ H Q=>∃v r,vs=v::r/\t v σ H fun af H'=>u r af H' Q
def O4:PGs X [] gNil:=by
 intro ae s σ H vs us Q I r h
 obtain⟨e,h⟩:=h
 subst e
 cases r
 exact assignInOrder_nil ⟨σ,H,I,h⟩
def Hl     (h1:PG X e t)(h2:PGs X es u)
  (hs:(assignEach (e::es) X.env).map (·.2)=assign e X.env::(assignEach es X.env).map (·.2):=by rfl):PGs X (e::es) (VE t u):=by
 intro ae s σ H vs us Q I r h
 obtain⟨v,vr,e1,h⟩:=h
 subst e1
 cases r with
 |cons r rr=>
  rw[hs]
  refine assignInOrder_cons (thn (h1 ae s σ H _ _ _ I r h) fun _ s1 ⟨jf,H1,I1,q1⟩=>?_)
  exact h2 ae s1 jf H1 _ _ Q I1 rr q1
def gTup (K:α3)(n:Nat)(t:TGs):TG:=fun v σ H Q=>∃a xs,v=.ref a/\SqT K H a xs/\xs.length=n/\t xs σ H Q
def S1     (hc:X.calm=true)(h:PGs X es t)
  (hn:(assignEach es X.env).length=n:=by rfl) (dy:(assignEach es X.env).findIdx? (·.1)=none:=by rfl):PG X (.Tuple es k pos) (gTup X.K n t):=by
 intro ae s σ H v u Q I r hw
 obtain⟨a,xs,e1,hq,hl,hw⟩:=hw
 subst e1
 cases r
 obtain⟨its,rv,ht,hz⟩:=I.tuple hq
 refine assign_Tuple_tuple (I.ok.hd hc) ht (by simp[hn,<-hl,rv.length]) dy fun h' hx=>?_
 have I1:Inv X ae σ H {s with heap:=h' }:=I.kept (t':=s.toks) fun b o e=>hx b o (jM_ (jr_ e)) e
 exact h ae _ σ H xs _ Q I1 (by simpa using rv) hw
def gSub (to ti:TE)(t:TSet):TG:=fun v σ H Q=>to σ H fun o H1=>ti σ H1 fun i H2=>t o i v H2 fun H3=>Q σ H3
def KQ    (ho:PE X o to)(hi:PE X i ti)(hs:PSet X t)
  (ha:∀v,assign (.Subscript o i pos) X.env v=(do
   let ov <- holding [v] (eval o X.env)
   let iv <- holding [v,ov] (eval i X.env)
   standAt pos
   holding [v,ov,iv] (setItem ov iv v)
   release [v,ov,iv] []):=by intro _;rfl):PG X (.Subscript o i pos) (gSub to ti t):=by
 intro ae s σ H v u Q I r h
 rw[ha]
 refine jb_ (qJ_ (thn (ho ae s σ H _ I h) fun ov s1 ⟨x,H1,I1,r1,q1⟩=>?_))
 refine jb_ (qJ_ (thn (hi ae s1 σ H1 _ I1 q1) fun iv s2 ⟨y,H2,I2,r2,q2⟩=>?_))
 refine jb_ (wpAny_standAt (jb_ (qJ_ (thn (hs ae s2 σ H2 x y v ov iv u _ I2 r1 r2 r q2) fun _ s3 ⟨H3,I3,q3⟩=>?_))))
 exact wpAny_release ⟨σ,H3,I3,q3⟩
def tAsg (te:TE)(g:TG):TS:=fun D σ H=>te σ H fun x H1=>g x σ H1 D.nx
def KR    (he:PE X e te)(hg:PG X tg g)(hs:swapsWithSole [tg] e pos.line X.env=pure false:=by rfl)(hw:swappedStores [tg] e X.env=pure none:=by rfl)
  (h1:(assignEach [tg] X.env).map (·.2)=[assign tg X.env]:=by rfl):PS X (.Assign [tg] e pos) (tAsg te g):=by
 intro ae s σ H D I h
 refine wpAny_Assign_stores (thn (he ae s σ H _ I h) fun v s1 ⟨x,H1,I1,r1,q1⟩=>?_) hs hw
 rw[h1]
 exact thn (hg ae s1 σ H1 x v _ I1 r1 q1) fun _ s2 q=>q
def Bk      (hN:X.N.Nodup)(hi:X.N[i]?=some x)(hx:Loc X.env.scope x)(he:PE X e te)(hs:swapsWith e (some (.Name x cD)) pos.line X.env=pure false:=by rfl)(hf:X.fn x=true\/X.env.scope.names.lookup x=some .local:=by first|exact .inl rfl|exact .inr rfl|assumption):
  PS X (.Assign [.Name x cD] e pos) (tAsg te (Gf i)):=by
 intro ae s σ H D I h
 refine wpAny_Assign_Name (thn (he ae s σ H _ I h) fun v s1 ⟨y,H1,I1,r1,q1⟩=>?_) hs
 exact JT I1 hN hi hx r1 (fun s2 I2=>⟨_,H1,I2,q1⟩) hf
def tAug (i:Nat)(te:TE)(ti:TIp):TS:=fun D σ H=>∃x,σ[i]?=some (some x)/\te σ H fun y H1=>ti x y H1 fun z H2=>D.nx (σ.set i (some z)) H2
def O5        (hN:X.N.Nodup)(hi:X.N[i]?=some x)(hx:Loc X.env.scope x)(he:PE X e te)(ho:PIp X op ti)(hf:X.fn x=true\/X.env.scope.names.lookup x=some .local:=by first|exact .inl rfl|exact .inr rfl|assumption):
  PS X (.AugAssign (.Name x cD) op e pos) (tAug i te ti):=by
 intro ae s σ H D I h
 obtain⟨v,e1,h⟩:=h
 obtain⟨m,hn,hl⟩:=I.loc
 have my:Vis X.env.scope x:=by rcases hx with k|k;exact .inl k;exact .inr (.inl k)
 obtain⟨u,r,l⟩:=hl i x v hi e1 my
 refine wpAny_AugAssign_Name ?_
 have go:wpAny (model X.prog X.w) X.A (eval e X.env) (fun w bA=>wpAny (model X.prog X.w) X.A (inplaceOp op u w) (fun r aX=>wpAny (model X.prog X.w) X.A (storeName X.env x r) (fun _=>SP X ae D .next) X.xe aX) X.xe bA) X.xe s:=by
  refine thn (he ae s σ H _ I h) fun w s1 ⟨y,H1,I1,r1,q1⟩=>?_
  refine thn (ho ae s1 σ H1 v y u w _ I1 r r1 q1) fun z s2 ⟨zv,H2,I2,r2,q2⟩=>?_
  exact JT I2 hN hi hx r2 (fun s3 I3=>⟨_,H2,I3,q2⟩) hf
 rcases l with ⟨hk,hm⟩|⟨hk,c,hc,ez⟩
 ·exact wpAny_loadName_local I.ok.kind hk hn hm go
 ·rcases hk with hk|hk
  ·exact wpAny_loadName_cell I.ok.kind hk hc ez go
  ·rcases hx with k|k
   ·have:X.env.scope.names.lookup x=some .free:=hk
    rw[k]at this;cases this
   ·have:X.env.scope.names.lookup x=some .free:=hk
    rw[k]at this;cases this
def ipI (f:Int->Int->Int):TIp:=fun x y H Q=>∃i j,x=.int i/\y=.int j/\Q (.int (f i j)) H
def S2:PIp X .Add (ipI fun i j=>i+j):=by
 intro ae s σ H x y v u Q I r1 r2 h
 obtain⟨i,j,e1,e2,q⟩:=h
 subst e1;subst e2
 obtain⟨t,rfl⟩:=r1
 obtain⟨t',rfl⟩:=r2
 exact iadd_int ⟨.int _,H,I.tok _,⟨_,rfl⟩,q⟩
def VF:PIp X .Sub (ipI fun i j=>i-j):=by
 intro ae s σ H x y v u Q I r1 r2 h
 obtain⟨i,j,e1,e2,q⟩:=h
 subst e1;subst e2
 obtain⟨t,rfl⟩:=r1
 obtain⟨t',rfl⟩:=r2
 exact isub_int ⟨.int _,H,I.tok _,⟨_,rfl⟩,q⟩
end
section
variable {X:Cx} {pos:Pos}
def S3 (c:TT)(tb:TS):TS:=fun D σ H=>∃W:Nat->St->Hp->Prop,(∃m,W m σ H)/\∀m σ H,W m σ H ->
 c σ H fun b H1=>if b=true then ∃N:St->Hp->Prop,(∀af H',N af H'->∃m',m'<m/\W m' af H')/\tb {D with nx:=N,ct:=N,bk:=D.nx} σ H1 else D.nx σ H1
def EO     (hp:PassesOwn (model X.prog X.w) X.A X.env X.xe)(hc:PT X c tc)(hb:PSs X body tb):PS X (.While c body [] pos) (S3 tc tb):=by
 intro ae s σ H D I h
 obtain⟨W,⟨m0,w0⟩,turn⟩:=h
 refine wpAny_While (codeAny_whileLoop (fun n s'=>∃af H',Inv X ae af H' s'/\W n af H') ?_ m0 ⟨σ,H,I,w0⟩)
 rintro n s1 ⟨jf,H1,I1,w1⟩
 refine xG_ hp (thn (hc ae s1 jf H1 _ I1 (turn n jf H1 w1)) fun b s2 ⟨H2,I2,q2⟩=>?_)
 cases b with
 |true=>
  obtain⟨N,hN,q2⟩:=q2
  rw[if_pos rfl]
  refine xG_ hp (thn (hb ae s2 jf H2 _ I2 q2) fun f s3 q3=>?_)
  cases f with
  |next=>
   obtain⟨aE,H3,I3,n3⟩:=q3
   obtain⟨m',hm,w3⟩:=hN aE H3 n3
   exact⟨m',hm,aE,H3,I3,w3⟩
  |cont=>
   obtain⟨aE,H3,I3,n3⟩:=q3
   obtain⟨m',hm,w3⟩:=hN aE H3 n3
   exact⟨m',hm,aE,H3,I3,w3⟩
  |brk=>exact q3
  |ret v=>exact q3
 |false=>
  rw[if_neg js_]
  exact zW_ ⟨jf,H2,I2,q2⟩
end
structure It where
 go:Nat->Hp->Prop
 yld:Nat->Hp->V->Hp->Prop
 stop:Nat->Hp->Prop
def FpOk (X:Cx)(ae:α7)(H:Hp)(b:Addr):Prop:=
 H b=none/\b≠X.env.locals/\b∉X.fs/\(b∈X.ex\/X.s₀.heap.objs.size<=b)/\(∀x c,X.env.cells.lookup x=some c->c≠b)/\∀p∈X.pn++ae,p.1≠b
def Inv.fpOk       (I:Inv X ae σ H s)(hb:s.heap.objs.size<=b)(hn:H' b=none):FpOk X ae H' b:=by
 refine⟨hn,qe_ (jz_ I.lt hb),I.nofs hb,.inr (qp_ I.sz hb),fun x c e z=>?_,fun p hp z=>?_⟩
 ·obtain⟨v,q⟩:=I.cell x c e
  exact absurd (jz_ q.lt (by rw[z];exact hb)) (j8_ _)
 ·exact absurd (jz_ (jr_ (I.pin p hp).1) (by rw[z];exact hb)) (j8_ _)
structure Turn (P:Program)(w:World)(K:α3)(tg:Expr)(J:It)(fp:List Addr)(it:Addr)(tn:Nat->Heap->Prop):Prop where
 mem:it∈fp
 obj:∀i h,tn i h->∀b∈fp,∃o,h.get? b=some o/\∀v,o.data ≠ .cell v
 keep:∀i h h',tn i h->(∀b∈fp,∀o,h.get? b=some o->h'.get? b=some o)->tn i h'
 item:∀(X:Cx),X.prog=P->X.w=w->X.K=K->X.calm=true->∀(i:Nat) (ae:α7) (s:Shared) (σ:St) (H:Hp) (E:Value->Shared->Prop),Inv X ae σ H s->(∀b∈fp,FpOk X ae H b)->tn i s.heap->J.go i H ->
  wpAny (model P w) X.A (pyNext (.ref it)) (fun r s1=>∃u,r=some u /\
   wpAny (model P w) X.A (letOwnedTupleGo tg (.ref it) u) (fun _ s2=>∃x H',Inv X ae σ H' s2/\RelV x u/\J.yld i H x H'/\tn (i+1) s2.heap/\∀b∈fp,H' b=none) E s1) E s
 done:∀(X:Cx),X.prog=P->X.w=w->X.K=K->X.calm=true->∀(i:Nat) (ae:α7) (s:Shared) (σ:St) (H:Hp) (E:Value->Shared->Prop),Inv X ae σ H s->(∀b∈fp,FpOk X ae H b)->tn i s.heap->J.stop i H ->
  wpAny (model P w) X.A (pyNext (.ref it)) (fun r s1=>r=none/\Inv X ae σ H s1) E s
 self:∀(A:Around) (i:Nat) (s:Shared) (Q:Value->Shared->Prop) (E:Value->Shared->Prop),tn i s.heap->Q (.ref it) s->wpAny (model P w) A (pyIter (.ref it)) Q E s
abbrev TI:=St->Hp->(It->Hp->Prop)->Prop
def PIE (X:Cx)(ae:α7)(σ:St)(tg:Expr)(R:It->Hp->Prop)(mz:Value)(s2:Shared):Prop:=
 ∃(it:Addr) (fp:List Addr) (tn:Nat->Heap->Prop) (J:It) (H':Hp),mz=.ref it/\Inv X ae σ H' s2/\Turn X.prog X.w X.K tg J fp it tn/\tn 0 s2.heap/\(∀b∈fp,FpOk X ae H' b)/\R J H'
def PI (X:Cx)(tg iter:Expr)(wi:TI):Prop:=
 ∀(ae:α7) (s:Shared) (σ:St) (H:Hp) (R:It->Hp->Prop),Inv X ae σ H s->wi σ H R ->
  wpAny (model X.prog X.w) X.A (eval iter X.env) (fun v s1=>wpAny (model X.prog X.w) X.A (pyIter v) (PIE X ae σ tg R) X.xe s1) X.xe s
def Up            (ho:s.heap.get? it=some o)(hc:o.cls=.type n)(hd:o.data=.fields vs)
    (hn:["enumerate","zip","dict_itemiterator","dict_reverseitemiterator","odict_iterator","itertools.zip_longest","itertools.pairwise"].contains n=false) (hQ:Q () s):wpAny M A (letOwnedTupleGo tg (.ref it) u) Q E s:=by
  unfold letOwnedTupleGo
  cases tg<;>first
    | exact jo_ hQ
    | (cases u<;>first
        | exact jo_ hQ
        | (refine jb_ (wpAny_load ho ?_)
           rw[hc,hd]
           show wpAny M A (if (["enumerate","zip","dict_itemiterator","dict_reverseitemiterator","odict_iterator","itertools.zip_longest","itertools.pairwise"].contains n&&vs[0]? == some (rawInt _))=true then _ else _) Q E s
           rw[if_neg (by intro h;rw[hn,uI]at h;cases h)]
           exact jo_ hQ))
def Itl (K:α3)(a:Addr):It:=
 ⟨fun i H=>∃xs x,SqL K H a xs/\xs[i]?=some x,fun i H x H'=>H'=H/\∀xs,SqL K H a xs->xs[i]?=some x,fun i H=>∃xs,SqL K H a xs/\xs.length<=i⟩
def Itt (K:α3)(a:Addr):It:=
 ⟨fun i H=>∃xs x,SqT K H a xs/\xs[i]?=some x,fun i H x H'=>H'=H/\∀xs,SqT K H a xs->xs[i]?=some x,fun i H=>∃xs,SqT K H a xs/\xs.length<=i⟩
def Itr (lo:Int)(n:Nat):It:=⟨fun i _=>i<n,fun i H x H'=>H'=H/\x=.int (lo+i),fun i _=>n<=i⟩
def KS {P:Program}{w:World}{K:α3}{tg:Expr}(a it:Addr):Turn P w K tg (Itl K a) [it] it (fun i h=>h.IsListIter it a i) where
 mem:=by simp
 obj:=fun i h st b hb=>by
  have e:b=it:=by simpa using hb
  subst e
  obtain⟨o,e,c,d⟩:=st
  exact⟨o,e,fun v z=>by rw[d]at z;cases z⟩
 keep:=fun i h h' st k=>st.at fun o e=>k it (by simp) o e
 item:=by
  intro X hP hw hK hc i ae s σ H E I hf st hg
  subst hP hw hK
  obtain⟨xs,x,hq,hx⟩:=hg
  obtain⟨its,rv,p,hz⟩:=I.list hq
  obtain⟨u,hu,ru⟩:=rv.get hx
  obtain⟨f0,f1,f2,f3,f4,f5⟩:=hf it (by simp)
  refine wpAny_pyNext_list_item st p.isList (x:=u) (by simpa using hu) fun h' ag sb=>?_
  have I1:Inv X ae σ H {s with heap:=h' }:=I.turned (t':=s.toks) (fun b o hb e=>(sb.2 b hb).trans e) f0 f1 f3 f4 f5
  obtain⟨o,e,c,d⟩:=id ag
  exact⟨u,rfl,Up (s:={s with heap:=h' }) e c d (by decide) ⟨x,H,I1,ru,⟨rfl,fun ys hy=>by rw[I.list_inj hy hq];exact hx⟩,ag,fun b hb=>(hf b hb).1⟩⟩
 done:=by
  intro X hP hw hK hc i ae s σ H E I hf st hg
  subst hP hw hK
  obtain⟨xs,hq,hx⟩:=hg
  obtain⟨its,rv,p,hz⟩:=I.list hq
  obtain⟨f0,f1,f2,f3,f4,f5⟩:=hf it (by simp)
  have hl:=rv.length
  exact wpAny_pyNext_list_end (I.ok.hd hc) st p.isList (by simp;lia) fun h' eb=>⟨rfl,I.turned (t':=s.toks) (fun b o hb e=>eb b o hb e) f0 f1 f3 f4 f5⟩
 self:=fun _ _ _ _ _ st h=>wpAny_pyIter_listiter st h
def Jj {P:Program}{w:World}{K:α3}{tg:Expr}(a it:Addr):Turn P w K tg (Itt K a) [it] it (fun i h=>h.IsTupleIter it a i) where
 mem:=by simp
 obj:=fun i h st b hb=>by
  have e:b=it:=by simpa using hb
  subst e
  obtain⟨o,e,c,d⟩:=st
  exact⟨o,e,fun v z=>by rw[d]at z;cases z⟩
 keep:=fun i h h' st k=>st.at fun o e=>k it (by simp) o e
 item:=by
  intro X hP hw hK hc i ae s σ H E I hf st hg
  subst hP hw hK
  obtain⟨xs,x,hq,hx⟩:=hg
  obtain⟨its,rv,p,hz⟩:=I.tuple hq
  obtain⟨u,hu,ru⟩:=rv.get hx
  obtain⟨f0,f1,f2,f3,f4,f5⟩:=hf it (by simp)
  refine wpAny_pyNext_tuple_item st (show s.heap.IsTuple a its.toArray from p) (x:=u) (by simpa using hu) fun h' ag sb=>?_
  have I1:Inv X ae σ H {s with heap:=h' }:=I.turned (t':=s.toks) (fun b o hb e=>(sb.2 b hb).trans e) f0 f1 f3 f4 f5
  obtain⟨o,e,c,d⟩:=id ag
  exact⟨u,rfl,Up (s:={s with heap:=h' }) e c d (by decide) ⟨x,H,I1,ru,⟨rfl,fun ys hy=>by rw[I.tuple_inj hy hq];exact hx⟩,ag,fun b hb=>(hf b hb).1⟩⟩
 done:=by
  intro X hP hw hK hc i ae s σ H E I hf st hg
  subst hP hw hK
  obtain⟨xs,hq,hx⟩:=hg
  obtain⟨its,rv,p,hz⟩:=I.tuple hq
  obtain⟨f0,f1,f2,f3,f4,f5⟩:=hf it (by simp)
  have hl:=rv.length
  exact wpAny_pyNext_tuple_end (I.ok.hd hc) st (show s.heap.IsTuple a its.toArray from p) (by simp;lia) fun h' eb=>⟨rfl,I.turned (t':=s.toks) (fun b o hb e=>eb b o hb e) f0 f1 f3 f4 f5⟩
 self:=fun _ _ _ _ _ st h=>wpAny_pyIter_tupleiter st h
def N9 {P:Program}{w:World}{K:α3}{tg:Expr}(it:Addr)(lo:Int)(n:Nat):Turn P w K tg (Itr lo n) [it] it (fun i h=>IsRangeIter h it (lo+(i:Nat)*1) ((n:Int)-(i:Nat)) 1) where
 mem:=by simp
 obj:=fun i h st b hb=>by
  have e:b=it:=by simpa using hb
  subst e
  exact⟨_,st,fun v z=>by
   have z':Data.fields _=Data.cell v:=z
   cases z'⟩
 keep:=fun i h h' st k=>k it (by simp) _ st
 item:=by
  intro X hP hw hK hc i ae s σ H E I hf st hg
  subst hP hw hK
  obtain⟨f0,f1,f2,f3,f4,f5⟩:=hf it (by simp)
  have W:=Walks.range (prog:=X.prog) (w:=X.w) (I.ok.hd hc) it lo 1 n
  refine W.item i s _ _ hg st fun v h' tk hv ag kk=>?_
  obtain⟨t,rfl⟩:=hv
  have I1:Inv X ae σ H {s with heap:=h',toks:=tk}:=I.turned (fun b o hb e=>kk b o (by simpa using hb) e) f0 f1 f3 f4 f5
  refine⟨_,rfl,Up (s:={s with heap:=h',toks:=tk}) (n := "range_iterator") ag rfl rfl (by decide) ⟨.int (lo+i),H,I1,⟨t,?_⟩,⟨rfl,rfl⟩,ag,fun b hb=>(hf b hb).1⟩⟩
  rw[Int.mul_one]
 done:=by
  intro X hP hw hK hc i ae s σ H E I hf st hg
  subst hP hw hK
  obtain⟨f0,f1,f2,f3,f4,f5⟩:=hf it (by simp)
  exact wpAny_pyNext_range_end (I.ok.hd hc) st (by have:n<=i:=hg;lia) fun h' eb=>⟨rfl,I.turned (t':=s.toks) (fun b o hb e=>eb b o hb e) f0 f1 f3 f4 f5⟩
 self:=fun _ _ _ _ _ st h=>wpAny_pyIter_rangeiter st h
end L2
namespace L2
open PySem PySem.Spec PyProof.Rows
section
variable {X:Cx} {tg:Expr}
def VG (K:α3)(tl:TE):TI:=fun σ H R=>tl σ H fun x H1=>∃a,x=.ref a/\(∃xs,SqL K H1 a xs)/\R (Itl K a) H1
def iTup (K:α3)(tl:TE):TI:=fun σ H R=>tl σ H fun x H1=>∃a,x=.ref a/\(∃xs,SqT K H1 a xs)/\R (Itt K a) H1
def AW   (hl:PE X l tl):PI X tg l (VG X.K tl):=by
 intro ae s σ H R I h
 refine thn (hl ae s σ H _ I h) fun v s1 ⟨x,H1,I1,r1,q1⟩=>?_
 obtain⟨a,e,⟨xs,hq⟩,q⟩:=q1
 subst e
 cases r1
 obtain⟨its,rv,p,hz⟩:=I1.list hq
 refine zw_ p.isList ?_
 refine⟨s1.heap.objs.size,[s1.heap.objs.size],_,_,H1,rfl,I1.kept (t':=s1.toks) fun b o e=>jf_ _ e,KS a _,⟨_,jx_ _ rfl,rfl,rfl⟩,fun b hb=>?_,q⟩
 have e:b=s1.heap.objs.size:=by simpa using hb
 subst e
 exact I1.fpOk (ji_ _) (I1.hok.fresh (ji_ _))
def Ed   (hl:PE X l tl):PI X tg l (iTup X.K tl):=by
 intro ae s σ H R I h
 refine thn (hl ae s σ H _ I h) fun v s1 ⟨x,H1,I1,r1,q1⟩=>?_
 obtain⟨a,e,⟨xs,hq⟩,q⟩:=q1
 subst e
 cases r1
 obtain⟨its,rv,p,hz⟩:=I1.tuple hq
 refine xv_ (show s1.heap.IsTuple a its.toArray from p) ?_
 refine⟨s1.heap.objs.size,[s1.heap.objs.size],_,_,H1,rfl,I1.kept (t':=s1.toks) fun b o e=>jf_ _ e,Jj a _,⟨_,jx_ _ rfl,rfl,rfl⟩,fun b hb=>?_,q⟩
 have e:b=s1.heap.objs.size:=by simpa using hb
 subst e
 exact I1.fpOk (ji_ _) (I1.hok.fresh (ji_ _))
def Na       {lo hi:Int}   (I:Inv X ae σ H s)(h1 : -(2 ^ 62)<=lo)(h2:lo<2 ^ 62)(h3 : -(2 ^ 62)<=hi)(h4:hi<2 ^ 62)
  (q:R (Itr lo (hi-lo).toNat) H):wpAny (model X.prog X.w) X.A (pyIter (.ref s.heap.objs.size)) (PIE X ae σ tg R) E {s with heap:=s.heap.push {cls:=.type "range",data:=.fields #[.int lo t,.int hi u,.int 1 v]},toks:=tk}:=by
 refine wpAny_pyIter_range (IsRange.new ..) (small_one h1 h2 h3 h4) ?_
 have I1:Inv X ae σ H {s with heap:=s.heap.push {cls:=.type "range",data:=.fields #[.int lo t,.int hi u,.int 1 v]},toks:=tk}:=I.kept fun b o e=>jf_ _ e
 refine⟨(s.heap.push {cls:=.type "range",data:=.fields #[.int lo t,.int hi u,.int 1 v]}).objs.size,[(s.heap.push {cls:=.type "range",data:=.fields #[.int lo t,.int hi u,.int 1 v]}).objs.size],_,_,H,rfl,
  I1.kept (t':=tk) fun b o e=>jf_ _ e,N9 _ lo (hi-lo).toNat,?_,fun b hb=>?_,q⟩
 ·have e1:lo+((0:Nat):Int)*1=lo:=by simp
  have e2:(((hi-lo).toNat:Nat):Int)-((0:Nat):Int)=Builtin.Range.rangeSize lo hi 1:=by rw[rangeSize_one];split<;>lia
  show IsRangeIter _ _ (lo+((0:Nat):Int)*1) ((((hi-lo).toNat:Nat):Int)-((0:Nat):Int)) 1
  rw[e1,e2]
  exact jx_ _ rfl
 ·have e:b=(s.heap.push {cls:=.type "range",data:=.fields #[.int lo t,.int hi u,.int 1 v]}).objs.size:=by simpa using hb
  subst e
  exact I1.fpOk (ji_ _) (I1.hok.fresh (ji_ _))
def VH (ta:TA):TI:=fun σ H R=>ta σ H fun vs H1=>∃j:Int,vs=[.int j] /\ -(2 ^ 62)<=j/\j<2 ^ 62/\R (Itr 0 j.toNat) H1
def VI (ta:TA):TI:=fun σ H R=>ta σ H fun vs H1=>∃i j:Int,vs=[.int i,.int j]/\(-(2 ^ 62)<=i/\i<2 ^ 62 /\ -(2 ^ 62)<=j/\j<2 ^ 62)/\R (Itr i (j-i).toNat) H1
def AO    (hg:Gl X "range")(hm:X.mg "range"=none)(ha:PA X [a] ta)(hs:starEach [a] X.env=[(false,eval a X.env)]:=by rfl):PI X tg (.Call (.Name "range" p) [a] [] pos) (VH ta):=by
 intro ae s σ H R I h
 refine Call_ (DS I hg hm boot_range (j9_ (thn (ha pos ae s σ H _ I h) fun us s1 ⟨vs,H1,I1,r1,q1⟩=>?_) hs rfl))
 obtain⟨j,e,q1,q2,q⟩:=q1
 subst e
 cases r1 with
 |cons r rr=>
  cases rr
  obtain⟨t,rfl⟩:=r
  exact call_range_1 (Na I1 s!"" s!"" q1 q2 (by simpa using q))
def O6    (hg:Gl X "range")(hm:X.mg "range"=none)(ha:PA X [a,b] ta)(hs:starEach [a,b] X.env=[(false,eval a X.env),(false,eval b X.env)]:=by rfl)(cy:starEach [b] X.env=[(false,eval b X.env)]:=by rfl):
  PI X tg (.Call (.Name "range" p) [a,b] [] pos) (VI ta):=by
 intro ae s σ H R I h
 refine Call_ (DS I hg hm boot_range (j9_ (thn (ha pos ae s σ H _ I h) fun us s1 ⟨vs,H1,I1,r1,q1⟩=>?_) (by rw[hs,cy]) (by rw[cy];rfl)))
 obtain⟨i,j,e,⟨q1,q2,q3,q4⟩,q⟩:=q1
 subst e
 cases r1 with
 |cons r rr=>
  cases rr with
  |cons r' rr=>
   cases rr
   obtain⟨t,rfl⟩:=r
   obtain⟨t',rfl⟩:=r'
   exact call_range_2 (Na I1 q1 q2 q3 q4 q)
def tFor (wi:TI)(g:TG)(tb:TS):TS:=fun D σ H=>wi σ H fun J H1=>∃W:Nat->Nat->St->Hp->Prop,(∃m,W 0 m σ H1)/\∀i m σ H,W i m σ H ->
 (J.stop i H/\D.nx σ H)\/(J.go i H/\∃N:St->Hp->Prop,(∀af H',N af H'->∃m',m'<m/\W (i+1) m' af H')/\∀x H',J.yld i H x H'->g x σ H' fun ai H2=>tb {D with nx:=N,ct:=N,bk:=D.nx} ai H2)
def Jk (fp:List Addr)(h:Heap):α7:=fp.filterMap fun b=>(h.get? b).map fun o=>(b,o)
def CH     (hb:b∈fp)(e:h.get? b=some o):(b,o)∈Jk fp h:=List.mem_filterMap.mpr ⟨b,hb,by rw[e];rfl⟩
def O7    (hp:p∈Jk fp h):p.1∈fp/\h.get? p.1=some p.2:=by
 obtain⟨b,hb,e⟩:=List.mem_filterMap.mp hp
 cases q:h.get? b with
 |none=>rw[q]at e;cases e
 |some o=>
  rw[q]at e
  have e':(b,o)=p:=jq_ e
  subst e'
  exact⟨hb,q⟩
def Inv.pinned      (I:Inv X ae σ H s)(hf:∀b∈fp,FpOk X ae H b)(ho:∀b∈fp,∃o,s.heap.get? b=some o/\∀v,o.data ≠ .cell v):Inv X (ae++Jk fp s.heap) σ H s:=
 I.pins_of fun p hp=>(jA_.mp hp).elim (fun z=>I.pin p (jy_ _ z)) fun z=>by
  obtain⟨hb,e⟩:=O7 z
  obtain⟨f0,f1,f2,_⟩:=hf p.1 hb
  obtain⟨o,e',d⟩:=ho p.1 hb
  rw[e]at e';cases e'
  exact⟨e,f0,f1,f2,d⟩
def Inv.unpinned     (I:Inv X (ae++pl) σ H s):Inv X ae σ H s:=I.pins_of fun p hp=>I.pin p (jy_ _ (qc_ _ hp))
def Bl {iter:Expr}  {wi:TI}    (hp:PassesOwn (model X.prog X.w) X.A X.env X.xe)(hc:X.calm=true)(hi:PI X tg iter wi)(hg:PG X tg g)(hb:PSs X body tb)
  (hs:∀x,foldedSetIterable iter X.env x=pure x:=by intro _;rfl):PS X (.For tg iter body [] pos) (tFor wi g tb):=by
 intro ae s σ H D I h
 refine wpAny_For (thn (hi ae s σ H _ I h) fun v s1 h1=>thn h1 fun mz s2 h2=>?_) hs
 obtain⟨it,fp,tn,J,H2,e,I2,T,aV,f2,W,⟨m0,w0⟩,turn⟩:=h2
 subst e
 -- what stays true of oS iterator's objects through oS e9
 have cP:∀{H':Hp},(∀b∈fp,H' b=none)->∀b∈fp,FpOk X ae H' b:=fun hn b hb=>⟨hn b hb,(f2 b hb).2⟩
 refine codeAny_forLoop_any (fun n s'=>∃i af H',Inv X ae af H' s'/\tn i s'.heap/\(∀b∈fp,H' b=none)/\W i n af H') ?_ m0 ⟨0,σ,H2,I2,aV,fun b hb=>(f2 b hb).1,w0⟩
 rintro n s3 ⟨i,aE,H3,I3,dH,lG,w3⟩
 rcases turn i n aE H3 w3 with ⟨stop,qn⟩|⟨go,N,hN,step⟩
 ·refine xG_ hp (thn (T.done X rfl rfl rfl hc i ae s3 aE H3 X.xe I3 (cP lG) dH stop) fun r s4 ⟨hr,I4⟩=>?_)
  subst hr
  exact zW_ ⟨aE,H3,I4,qn⟩
 ·refine xG_ hp (thn (T.item X rfl rfl rfl hc i ae s3 aE H3 X.xe I3 (cP lG) dH go) fun r s4 ⟨u,hr,h4⟩=>?_)
  subst hr
  refine xG_ hp (thn h4 fun _ s5 ⟨x,H5,I5,r5,y5,bz,mB⟩=>?_)
  have mD:=I5.pinned (cP mB) (T.obj _ _ bz)
  refine xG_ hp (thn (hg _ s5 aE H5 x u _ mD r5 (step x H5 y5)) fun _ s6 ⟨dz,H6,I6,q6⟩=>?_)
  refine xG_ hp (thn (hb _ s6 dz H6 _ I6 q6) fun f s7 q7=>?_)
  have again:∀{di:St} {H7:Hp},Inv X (ae++Jk fp s5.heap) di H7 s7->N di H7->∃m,m<n/\∃i af H',Inv X ae af H' s7/\tn i s7.heap/\(∀b∈fp,H' b=none)/\W i m af H':=fun {di H7} I7 n7=>by
   obtain⟨m',hm,w7⟩:=hN di H7 n7
   refine⟨m',hm,i+1,di,H7,I7.unpinned,T.keep _ _ _ bz fun b hb o e=>(I7.pin (b,o) (jy_ _ (jy_ _ (CH hb e)))).1,fun b hb=>?_,w7⟩
   obtain⟨o,e,d⟩:=T.obj _ _ bz b hb
   exact (I7.pin (b,o) (jy_ _ (jy_ _ (CH hb e)))).2.1
  cases f with
  |next=>obtain⟨di,H7,I7,n7⟩:=q7;exact again I7 n7
  |cont=>obtain⟨di,H7,I7,n7⟩:=q7;exact again I7 n7
  |brk=>obtain⟨di,H7,I7,q7⟩:=q7;exact⟨di,H7,I7.unpinned,q7⟩
  |ret v=>obtain⟨x7,di,H7,I7,r7,q7⟩:=q7;exact⟨x7,di,H7,I7.unpinned,r7,q7⟩
end
def RG {K:α3}{a:Addr}{xs:List V}{g:TG}{tb:TS}{D:Ends}{σ:St}{H:Hp}(Pv:Nat->St->Hp->Prop)(h0:Pv 0 σ H)(hl:∀i σ H,i<=xs.length->Pv i σ H->SqL K H a xs)
  (hs:∀i x σ H,xs[i]?=some x->Pv i σ H->g x σ H fun ai H2=>tb {D with nx:=Pv (i+1),ct:=Pv (i+1),bk:=D.nx} ai H2) (hd:∀σ H,Pv xs.length σ H->D.nx σ H):
  ∃W:Nat->Nat->St->Hp->Prop,(∃m,W 0 m σ H)/\∀i m σ H,W i m σ H ->
   ((Itl K a).stop i H/\D.nx σ H)\/((Itl K a).go i H/\∃N:St->Hp->Prop,(∀af H',N af H'->∃m',m'<m/\W (i+1) m' af H')/\∀x H',(Itl K a).yld i H x H'->g x σ H' fun ai H2=>tb {D with nx:=N,ct:=N,bk:=D.nx} ai H2):=by
 refine⟨fun i m σ H=>m=xs.length-i/\i<=xs.length/\Pv i σ H,⟨xs.length,by simp,jY_ _,h0⟩,?_⟩
 rintro i m σ H ⟨rfl,hi,p⟩
 have q:=hl i σ H hi p
 by_cases aq:i<xs.length
 ·refine .inr ⟨⟨xs,xs[i],q,by simp[aq]⟩,Pv (i+1),fun af H' p'=>⟨xs.length-(i+1),by lia,rfl,aq,p'⟩,fun x H' y=>?_⟩
  obtain⟨e,y⟩:=y
  subst e
  exact hs i x σ _ (y xs q) p
 ·have e:i=xs.length:=by lia
  subst e
  exact .inl ⟨⟨xs,q,ji_ _⟩,hd σ H p⟩
def Uq {K:α3}{a:Addr}{xs:List V}{g:TG}{tb:TS}{D:Ends}{σ:St}{H:Hp}(Pv:Nat->St->Hp->Prop)(h0:Pv 0 σ H)(hl:∀i σ H,i<=xs.length->Pv i σ H->SqT K H a xs)
  (hs:∀i x σ H,xs[i]?=some x->Pv i σ H->g x σ H fun ai H2=>tb {D with nx:=Pv (i+1),ct:=Pv (i+1),bk:=D.nx} ai H2) (hd:∀σ H,Pv xs.length σ H->D.nx σ H):
  ∃W:Nat->Nat->St->Hp->Prop,(∃m,W 0 m σ H)/\∀i m σ H,W i m σ H ->
   ((Itt K a).stop i H/\D.nx σ H)\/((Itt K a).go i H/\∃N:St->Hp->Prop,(∀af H',N af H'->∃m',m'<m/\W (i+1) m' af H')/\∀x H',(Itt K a).yld i H x H'->g x σ H' fun ai H2=>tb {D with nx:=N,ct:=N,bk:=D.nx} ai H2):=by
 refine⟨fun i m σ H=>m=xs.length-i/\i<=xs.length/\Pv i σ H,⟨xs.length,by simp,jY_ _,h0⟩,?_⟩
 rintro i m σ H ⟨rfl,hi,p⟩
 have q:=hl i σ H hi p
 by_cases aq:i<xs.length
 ·refine .inr ⟨⟨xs,xs[i],q,by simp[aq]⟩,Pv (i+1),fun af H' p'=>⟨xs.length-(i+1),by lia,rfl,aq,p'⟩,fun x H' y=>?_⟩
  obtain⟨e,y⟩:=y
  subst e
  exact hs i x σ _ (y xs q) p
 ·have e:i=xs.length:=by lia
  subst e
  exact .inl ⟨⟨xs,q,ji_ _⟩,hd σ H p⟩
def O8 {lo:Int}{n:Nat}{g:TG}{tb:TS}{D:Ends}{σ:St}{H:Hp}(Pv:Nat->St->Hp->Prop)(h0:Pv 0 σ H)
  (hs:∀i σ H,i<n->Pv i σ H->g (.int (lo+i)) σ H fun ai H2=>tb {D with nx:=Pv (i+1),ct:=Pv (i+1),bk:=D.nx} ai H2) (hd:∀σ H,Pv n σ H->D.nx σ H):
  ∃W:Nat->Nat->St->Hp->Prop,(∃m,W 0 m σ H)/\∀i m σ H,W i m σ H ->
   ((Itr lo n).stop i H/\D.nx σ H)\/((Itr lo n).go i H/\∃N:St->Hp->Prop,(∀af H',N af H'->∃m',m'<m/\W (i+1) m' af H')/\∀x H',(Itr lo n).yld i H x H'->g x σ H' fun ai H2=>tb {D with nx:=N,ct:=N,bk:=D.nx} ai H2):=by
 refine⟨fun i m σ H=>m=n-i/\i<=n/\Pv i σ H,⟨n,by simp,jY_ _,h0⟩,?_⟩
 rintro i m σ H ⟨rfl,hi,p⟩
 by_cases aq:i<n
 ·refine .inr ⟨aq,Pv (i+1),fun af H' p'=>⟨n-(i+1),by lia,rfl,aq,p'⟩,fun x H' y=>?_⟩
  obtain⟨e,y⟩:=y
  subst e y
  exact hs i σ _ aq p
 ·have e:i=n:=by lia
  subst e
  exact .inl ⟨ji_ _,hd σ H p⟩
end L2
namespace L2
open PySem PySem.Spec PyProof.Rows
abbrev R2:=V->V->Hp->VK->Prop
def OpR (X:Cx)(f:Value->Value->Sem Value)(r:R2):Prop:=
 ∀(ae:α7) (s:Shared) (σ:St) (H:Hp) (x y:V) (v u:Value) (Q:VK),Inv X ae σ H s->RelV x v->RelV y u->r x y H Q ->
  wpAny (model X.prog X.w) X.A (f v u) (EP X ae σ Q) X.xe s
def UnR (X:Cx)(f:Value->Sem Value)(r:V->Hp->VK->Prop):Prop:=
 ∀(ae:α7) (s:Shared) (σ:St) (H:Hp) (x:V) (v:Value) (Q:VK),Inv X ae σ H s->RelV x v->r x H Q ->
  wpAny (model X.prog X.w) X.A (f v) (EP X ae σ Q) X.xe s
def Cf (X:Cx)(f:Value)(r:List V->Hp->VK->Prop):Prop:=
 ∀(ae:α7) (s:Shared) (σ:St) (H:Hp) (xs:List V) (us:List Value) (Q:VK),Inv X ae σ H s->Vals xs us->r xs H Q ->
  wpAny (model X.prog X.w) X.A (call f us) (EP X ae σ Q) X.xe s
def tOp (r:R2)(ta tb:TE):TE:=fun σ H Q=>ta σ H fun x H1=>tb σ H1 fun y H2=>r x y H2 Q
def tUn (r:V->Hp->VK->Prop)(ta:TE):TE:=fun σ H Q=>ta σ H fun x H1=>r x H1 Q
def rI (C:Int->Int->Prop)(g:Int->Int->V):R2:=fun x y H Q=>∃i j,x=.int i/\y=.int j/\C i j/\Q (g i j) H
def rI0 (g:Int->Int->V):R2:=fun x y H Q=>∃i j,x=.int i/\y=.int j/\Q (g i j) H
def rU (g:Int->V):V->Hp->VK->Prop:=fun x H Q=>∃i,x=.int i/\Q (g i) H
section
variable {X:Cx} {a b c:Expr} {ta tb tc:TE} {pos:Pos}
def binT (ha:PE X a ta)(hb:PE X b tb){ae:α7}{s:Shared}{σ:St}{H:Hp}{R:V->V->Hp->Prop}(I:Inv X ae σ H s)
  (h:ta σ H fun x H1=>tb σ H1 fun y H2=>R x y H2) {Q:Value->Shared->Prop} {f:Value->Value->Sem Value}
  (hf:∀v u s2 x y H2,Inv X ae σ H2 s2->RelV x v->RelV y u->R x y H2->wpAny (model X.prog X.w) X.A (f v u) Q X.xe s2):
  wpAny (model X.prog X.w) X.A (eval a X.env) (fun v s₁=>wpAny (model X.prog X.w) X.A (eval b X.env) (fun u bA=>wpAny (model X.prog X.w) X.A (f v u) Q X.xe bA) X.xe s₁) X.xe s:=by
 refine thn (ha ae s σ H _ I h) fun v s1 ⟨x,H1,I1,r1,q1⟩=>?_
 refine thn (hb ae s1 σ H1 _ I1 q1) fun u s2 ⟨y,H2,I2,r2,q2⟩=>?_
 exact hf v u s2 x y H2 I2 r1 r2 q2
def Am   (ho:OpR X (binaryOp op) r)(ha:PE X a ta)(hb:PE X b tb):PE X (.BinOp a op b pos) (tOp r ta tb):=by
 intro ae s σ H Q I h
 exact wpAny_BinOp (binT ha hb I h fun v u s2 x y H2 I2 rx ry q=>ho ae s2 σ H2 x y v u Q I2 rx ry q)
def VJ   (ho:UnR X (unaryOp op) r)(ha:PE X a ta):PE X (.UnaryOp op a pos) (tUn r ta):=by
 intro ae s σ H Q I h
 exact UnaryOp_ (thn (ha ae s σ H _ I h) fun v s1 ⟨x,H1,I1,r1,q1⟩=>ho ae s1 σ H1 x v Q I1 r1 q1)
def opI {f:Value->Value->Sem Value}{C:Int->Int->Prop}{g:Int->Int->Int}
  (rule:∀(i j:Int) (t u:Tok) (s:Shared) (Q:Value->Shared->Prop) (E:Value->Shared->Prop),C i j->Q (.int (g i j) s.toks) {s with toks:=s.toks+1}->wpAny (model X.prog X.w) X.A (f (.int i t) (.int j u)) Q E s):
  OpR X f (rI C fun i j=>.int (g i j)):=by
 intro ae s σ H x y v u Q I rx ry h
 obtain⟨i,j,rfl,rfl,hc,q⟩:=h
 obtain⟨t,rfl⟩:=rx
 obtain⟨t',rfl⟩:=ry
 exact rule i j t t' s _ _ hc ⟨.int (g i j),H,I.tok _,⟨_,rfl⟩,q⟩
def opI0 {f:Value->Value->Sem Value}{g:Int->Int->Int}
  (rule:∀(i j:Int) (t u:Tok) (s:Shared) (Q:Value->Shared->Prop) (E:Value->Shared->Prop),Q (.int (g i j) s.toks) {s with toks:=s.toks+1}->wpAny (model X.prog X.w) X.A (f (.int i t) (.int j u)) Q E s):
  OpR X f (rI0 fun i j=>.int (g i j)):=by
 intro ae s σ H x y v u Q I rx ry h
 obtain⟨i,j,rfl,rfl,q⟩:=h
 obtain⟨t,rfl⟩:=rx
 obtain⟨t',rfl⟩:=ry
 exact rule i j t t' s _ _ ⟨.int (g i j),H,I.tok _,⟨_,rfl⟩,q⟩
def opB0 {f:Value->Value->Sem Value}{g:Int->Int->Bool}
  (rule:∀(i j:Int) (t u:Tok) (s:Shared) (Q:Value->Shared->Prop) (E:Value->Shared->Prop),Q (.bool (g i j)) s->wpAny (model X.prog X.w) X.A (f (.int i t) (.int j u)) Q E s):
  OpR X f (rI0 fun i j=>.bl (g i j)):=by
 intro ae s σ H x y v u Q I rx ry h
 obtain⟨i,j,rfl,rfl,q⟩:=h
 obtain⟨t,rfl⟩:=rx
 obtain⟨t',rfl⟩:=ry
 exact rule i j t t' s _ _ ⟨.bl (g i j),H,I,rfl,q⟩
def CDiv (i j:Int):Prop:=0<j/\j<1073741824
def CMul (i j:Int):Prop:=(-(2 ^ 64)<i/\i<2 ^ 64)\/(-(2 ^ 64)<j/\j<2 ^ 64)
def CMul.ok  (h:CMul i j):IntMulOk i j:=by
 rcases h with ⟨h1,h2⟩|⟨h1,h2⟩
 ·exact .of_left (intBits_le_64 h1 h2)
 ·exact .of_right (intBits_le_64 h1 h2)
def AV:OpR X (binaryOp .Add) (rI0 fun i j=>.int (i+j)):=opI0 fun _ _ _ _ _ _ _ q=>add_int q
def CS:OpR X (binaryOp .Sub) (rI0 fun i j=>.int (i-j)):=opI0 fun _ _ _ _ _ _ _ q=>sub_int q
def FG:OpR X (binaryOp .Mult) (rI CMul fun i j=>.int (i*j)):=opI fun _ _ _ _ _ _ _ hc q=>mul_int q hc.ok
def Bz:OpR X (binaryOp .FloorDiv) (rI CDiv fun i j=>.int (i / j)):=opI fun i j _ _ _ _ _ hc q=>by
 have h1:(0:Int)<j:=hc.1
 have h2:j<1073741824:=hc.2
 exact floordiv_int s!"" (by rw[Int.fdiv_eq_ediv_of_nonneg i s!""];exact q) (.inl (PyProof.noPylong_small s!""))
def AL:OpR X (binaryOp .Mod) (rI (fun _ j=>0<j) fun i j=>.int (i%j)):=opI fun i j _ _ _ _ _ hc q=>by
 have h1:(0:Int)<j:=hc
 exact mod_int' s!"" (by rw[Int.fmod_eq_emod_of_nonneg i s!""];exact q)
def unI {f:Value->Sem Value}{g:Int->Int}
  (rule:∀(i:Int) (t:Tok) (s:Shared) (Q:Value->Shared->Prop) (E:Value->Shared->Prop),Q (.int (g i) s.toks) {s with toks:=s.toks+1}->wpAny (model X.prog X.w) X.A (f (.int i t)) Q E s):
  UnR X f (rU fun i=>.int (g i)):=by
 intro ae s σ H x v Q I rx h
 obtain⟨i,rfl,q⟩:=h
 obtain⟨t,rfl⟩:=rx
 exact rule i t s _ _ ⟨.int (g i),H,I.tok _,⟨_,rfl⟩,q⟩
def S4:UnR X (unaryOp .USub) (rU fun i=>.int (-i)):=unI fun _ _ _ _ _ q=>neg_int q
end
def scal:V->V->Bool
 |.non,.non=>true | .non,.int _=>true | .int _,.non=>true | .non,.bl _=>true | .bl _,.non=>true | .non,.str _=>true | .str _,.non=>true
 |.int _,.int _=>true | .bl _,.bl _=>true | .str _,.str _=>true | .byt _,.byt _=>true
 |.int _,.str _=>true | .str _,.int _=>true | .bl _,.str _=>true | .str _,.bl _=>true
 |_,_=>false
def rEq:R2:=fun x y H Q=>scal x y=true/\Q (.bl (decide (x=y))) H
def rNe:R2:=fun x y H Q=>scal x y=true/\Q (.bl (!decide (x=y))) H
def O9  : decide (V.int i=V.int j)=(i==j):=by
 rw[qC_]
 simp
def S5  : decide (V.bl i=V.bl j)=(i==j):=by
 rw[qC_]
 simp
def Pa  : decide (V.str i=V.str j)=(i==j):=by
 rw[qC_]
 simp
def Pb  : decide (V.byt i=V.byt j)=(i.toList==j.toList):=by
 rw[qC_]
 cases i
 cases j
 simp
section
variable {X:Cx} {a b c:Expr} {ta tb tc:TE} {pos:Pos}
def A2       (I:Inv X ae σ H s)(q:Q (.bl k) H)(e:k=k'):EP X ae σ Q (.bool k') s:=by
 subst e
 exact⟨.bl k,H,I,rfl,q⟩
def B0:OpR X (compareOp .Eq) rEq:=by
 intro ae s σ H x y v u Q I rx ry h
 obtain⟨hs,q⟩:=h
 cases x with
 |non=>
  cases rx
  cases y with
  |non=>cases ry;exact uS (A2 I q (by simp))
  |bl j=>cases ry;exact uT (A2 I q (by simp))
  |int j=>obtain⟨t',rfl⟩:=ry;exact u5 (A2 I q (by simp))
  |str j=>obtain⟨t',rfl⟩:=ry;exact u6 (A2 I q (by simp))
  |_=>exact absurd (show false=true from hs) js_
 |bl i=>
  cases rx
  cases y with
  |non=>cases ry;exact uU (A2 I q (by simp))
  |bl j=>cases ry;exact eq_bool (A2 I q S5)
  |str j=>obtain⟨t',rfl⟩:=ry;exact uV (A2 I q (by simp))
  |_=>exact absurd (show false=true from hs) js_
 |int i=>
  obtain⟨t,rfl⟩:=rx
  cases y with
  |non=>cases ry;exact u7 (A2 I q (by simp))
  |int j=>obtain⟨t',rfl⟩:=ry;exact eq_int (A2 I q O9)
  |str j=>obtain⟨t',rfl⟩:=ry;exact u9 (A2 I q (by simp))
  |_=>exact absurd (show false=true from hs) js_
 |str i=>
  obtain⟨t,rfl⟩:=rx
  cases y with
  |non=>cases ry;exact va (A2 I q (by simp))
  |bl j=>cases ry;exact uW (A2 I q (by simp))
  |int j=>obtain⟨t',rfl⟩:=ry;exact vb (A2 I q (by simp))
  |str j=>obtain⟨t',rfl⟩:=ry;exact eq_str (A2 I q Pa)
  |_=>exact absurd (show false=true from hs) js_
 |byt i=>
  obtain⟨t,rfl⟩:=rx
  cases y with
  |byt j=>obtain⟨t',rfl⟩:=ry;exact wA (A2 I q Pb)
  |_=>exact absurd (show false=true from hs) js_
 |_=>cases y<;>exact absurd (show false=true from hs) js_
def RH:OpR X (compareOp .NotEq) rNe:=by
 intro ae s σ H x y v u Q I rx ry h
 obtain⟨hs,q⟩:=h
 cases x with
 |non=>
  cases rx
  cases y with
  |non=>cases ry;exact uX (A2 I q (by simp))
  |bl j=>cases ry;exact uY (A2 I q (by simp))
  |int j=>obtain⟨t',rfl⟩:=ry;exact vc (A2 I q (by simp))
  |str j=>obtain⟨t',rfl⟩:=ry;exact vd (A2 I q (by simp))
  |_=>exact absurd (show false=true from hs) js_
 |bl i=>
  cases rx
  cases y with
  |non=>cases ry;exact uZ (A2 I q (by simp))
  |bl j=>cases ry;exact ne_bool (A2 I q (jJ_ not S5))
  |str j=>obtain⟨t',rfl⟩:=ry;exact u3 (A2 I q (by simp))
  |_=>exact absurd (show false=true from hs) js_
 |int i=>
  obtain⟨t,rfl⟩:=rx
  cases y with
  |non=>cases ry;exact ve (A2 I q (by simp))
  |int j=>obtain⟨t',rfl⟩:=ry;exact ne_int (A2 I q (jJ_ not O9))
  |str j=>obtain⟨t',rfl⟩:=ry;exact vf (A2 I q (by simp))
  |_=>exact absurd (show false=true from hs) js_
 |str i=>
  obtain⟨t,rfl⟩:=rx
  cases y with
  |non=>cases ry;exact vg (A2 I q (by simp))
  |bl j=>cases ry;exact u4 (A2 I q (by simp))
  |int j=>obtain⟨t',rfl⟩:=ry;exact vh (A2 I q (by simp))
  |str j=>obtain⟨t',rfl⟩:=ry;exact ne_str (A2 I q (jJ_ not Pa))
  |_=>exact absurd (show false=true from hs) js_
 |byt i=>
  obtain⟨t,rfl⟩:=rx
  cases y with
  |byt j=>obtain⟨t',rfl⟩:=ry;exact wB (A2 I q (jJ_ not Pb))
  |_=>exact absurd (show false=true from hs) js_
 |_=>cases y<;>exact absurd (show false=true from hs) js_
def G2:OpR X (compareOp .Lt) (rI0 fun i j=>.bl (decide (i<j))):=opB0 fun _ _ _ _ _ _ _ q=>lt_int q
def VL:OpR X (compareOp .LtE) (rI0 fun i j=>.bl (decide (i<=j))):=opB0 fun _ _ _ _ _ _ _ q=>le_int q
def Ur:OpR X (compareOp .Gt) (rI0 fun i j=>.bl (decide (j<i))):=opB0 fun _ _ _ _ _ _ _ q=>gt_int q
def Xb:OpR X (compareOp .GtE) (rI0 fun i j=>.bl (decide (j<=i))):=opB0 fun _ _ _ _ _ _ _ q=>ge_int q
def VM:OpR X (compareOp .Is) (fun x y H Q=>y=.non/\Q (.bl (decide (x=.non))) H):=by
 intro ae s σ H x y v u Q I rx ry h
 obtain⟨rfl,q⟩:=h
 cases ry
 refine is_none_gen (A2 I q ?_)
 cases x<;>first
  | (cases rx;rfl)
  | (obtain⟨t,rfl⟩:=rx;rfl)
def AE (b:Expr)  (h:op ≠ .In:=by decide)(h2:op ≠ .NotIn:=by decide):behindInMarks op b=false:=by
 have e1:(op==CmpOp.In)=false:=by cases op<;>first|rfl|exact absurd rfl h
 have e2:(op==CmpOp.NotIn)=false:=by cases op<;>first|rfl|exact absurd rfl h2
 cases b<;>simp[behindInMarks,e1,e2]
def L7   (ho:OpR X (compareOp op) r)(ha:PE X a ta)(hb:PE X b tb)(hm:behindInMarks op b=false):PE X (.Compare a [op] [b] pos) (tOp r ta tb):=by
 intro ae s σ H Q I h
 exact wpAny_Compare1 (binT ha hb I h fun v u s2 x y H2 I2 rx ry q=>ho ae s2 σ H2 x y v u Q I2 rx ry q) hm
def RI (t:TE):TT:=fun σ H Q=>t σ H fun x H'=>∃k,x=.bl k/\Q k H'
def Ar   (ho:OpR X (compareOp op) r)(ha:PE X a ta)(hb:PE X b tb)(hm:behindInMarks op b=false):PT X (.Compare a [op] [b] pos) (RI (tOp r ta tb)):=by
 intro ae s σ H Q I h
 refine wpAny_isTrue_Compare1 (thn (ha ae s σ H _ I h) fun v s1 ⟨x,H1,I1,r1,q1⟩=>thn (hb ae s1 σ H1 _ I1 q1) fun u s2 ⟨y,H2,I2,r2,q2⟩ =>
  thn (ho ae s2 σ H2 x y v u _ I2 r1 r2 q2) fun c s3 ⟨z,H3,I3,r3,k,e,q3⟩=>?_) hm
 subst e
 cases r3
 exact xF_ ⟨H3,I3,q3⟩
def S6 (r r':R2)(ta tb tc:TE):TE:=fun σ H Q=>ta σ H fun x H1=>tb σ H1 fun y H2=>r x y H2 fun z H3=>∃k,z=.bl k /\
 (if k=true then tc σ H3 fun w' H4=>r' y w' H4 Q else Q (.bl false) H3)
def RJ   (ho:OpR X (compareOp op) r)(iq:OpR X (compareOp op') r')(ha:PE X a ta)(hb:PE X b tb)(hc:PE X c tc)
  (hm:lastMarks [op,op'] [b,c]=false:=by with_unfolding_all rfl):PE X (.Compare a [op,op'] [b,c] pos) (S6 r r' ta tb tc):=by
 intro ae s σ H Q I h
 refine Compare_chain (thn (ha ae s σ H _ I h) fun v s1 ⟨x,H1,I1,r1,q1⟩=>chain_link (thn (hb ae s1 σ H1 _ I1 q1) fun u s2 ⟨y,H2,I2,r2,q2⟩ =>
  thn (ho ae s2 σ H2 x y v u _ I2 r1 r2 q2) fun d s3 ⟨z,H3,I3,r3,k,e,q3⟩=>?_)) hm
 subst e
 cases r3
 refine xF_ ?_
 cases k with
 |false=>exact ite_ff ⟨.bl false,H3,I3,rfl,q3⟩
 |true=>exact ite_tt (chain_last (thn (hc ae s3 σ H3 _ I3 q3) fun w' s4 ⟨z',H4,I4,r4,q4⟩=>iq ae s4 σ H4 y z' u w' Q I4 r2 r4 q4))
def KU:(sizeLine:Nat)<2 ^ 63:=by rw[sizeLine_eq];decide
def vals1   (r:Vals [x] us):∃u,us=[u]/\RelV x u:=by
 cases r with
 |cons r1 r2=>cases r2;exact⟨_,rfl,r1⟩
def vals2   (r:Vals [x,y] us):∃u w',us=[u,w']/\RelV x u/\RelV y w':=by
 cases r with
 |cons r1 r2=>
  cases r2 with
  |cons r3 r4=>cases r4;exact⟨_,_,rfl,r1,r3⟩
def Pe (hc:X.calm=true):Cf X (.builtin "max") (fun xs H Q=>∃i j,xs=[.int i,.int j]/\Q (.int (if j > i then j else i)) H):=by
 intro ae s σ H xs us Q I r h
 obtain⟨i,j,rfl,q⟩:=h
 obtain⟨u,w',rfl,⟨t,rfl⟩,⟨t',rfl⟩⟩:=vals2 r
 refine max_two_ints (I.ok.hd hc) fun h' tk k=>⟨_,H,I.kept k,?_,q⟩
 by_cases hj:j > i
 ·rw[if_pos hj,if_pos hj];exact⟨_,rfl⟩
 ·rw[if_neg hj,if_neg hj];exact⟨_,rfl⟩
def Pf (hc:X.calm=true):Cf X (.builtin "min") (fun xs H Q=>∃i j,xs=[.int i,.int j]/\Q (.int (if j<i then j else i)) H):=by
 intro ae s σ H xs us Q I r h
 obtain⟨i,j,rfl,q⟩:=h
 obtain⟨u,w',rfl,⟨t,rfl⟩,⟨t',rfl⟩⟩:=vals2 r
 refine min_two_ints (I.ok.hd hc) fun h' tk k=>⟨_,H,I.kept k,?_,q⟩
 by_cases hj:j<i
 ·rw[if_pos hj,if_pos hj];exact⟨_,rfl⟩
 ·rw[if_neg hj,if_neg hj];exact⟨_,rfl⟩
end
end L2
namespace L2
open PySem PySem.Spec PyProof.Rows
structure ObjM (h:Heap)(x dx C:Addr)(mA:Str->α5):Prop where
 obj:h.get? x=some (sL C dx)
 ns:h.Ns1 dx mA
 ne:dx≠x
def Pg {h:Heap}{dx:Addr}{mA:Str->α5}(n:h.Ns1 dx mA):∃od,h.get? dx=some od/\∀name,sZ name od=some (mA name):=by
 obtain⟨o,es,ep,ho,hd,hk,_,hm⟩:=n
 refine⟨o,ho,fun name=>?_⟩
 have e:=hm name
 unfold nsFind findBy at e
 rw[<-Array.find?_toList]at e
 unfold sZ
 rw[hd]
 dsimp only
 split
 ·rename_i y q
  rw[q]at e
  exact jJ_ some e
 ·rename_i q
  rw[q]at e
  have a:es.toList.any (·.refKey)=false:=by
   rw[tQ]
   intro y hy
   obtain⟨z,t,bM⟩:=hk y (Array.mem_toList_iff.mp hy)
   simp[DictEntry.refKey,bM]
  have a':¬ es.toList.any (·.refKey)=true:=by rw[a];exact js_
  rw[if_neg a']
  exact jJ_ some e
def ObjM.look    (I:ObjM h x dx C mA):∃od,wV h x (sL C dx) C (some od)/\∀name,sZ name od=some (mA name):=
 let ⟨od,ho,hl⟩:=Pg I.ns
 ⟨od,⟨I.obj,rfl,rfl,ho⟩,hl⟩
def RelO.some_of   (r:RelO (some v) o):∃u,o=some u/\RelV v u:=by
 cases o with
 |none=>exact (show False from r).elim
 |some u=>exact⟨u,rfl,r⟩
section
variable {P:Program} {w:World} {H H':Hp} {h h':Heap} {a C dx:Addr} {fs fs':List (Str×V)}
def Us (hok:HOk P w H h)(e:H a=some (.ins C dx fs)):∃mA,ObjM h a dx C mA/\(∀f,RelO (fs.lookup f) (mA f))/\vx mA (fs.map (·.1))/\fs.length<=1000/\H dx=some (.own a):=by
 obtain⟨d,z,ne,ob,mA,n,r,q⟩:=(show Bj P w H h a (.ins C dx fs) from hok a _ e)
 exact⟨mA,⟨ob,n,ne⟩,r,q,z,d⟩
end
structure Cls (K:α3)(C:Addr):Prop where
 pg:ue K C Str.empty=true
 hd:we K C=true
 po:wg K C=true
 sa:uJ K (.ref C) "__setattr__"=some (some (.builtin "object.__setattr__"))
def Cls.get {K:α3}  (c:Cls K C)(f:Str):ue K C f=true:=c.pg
section
variable {X:Cx} {ae:α7} {σ:St} {H:Hp} {s:Shared} {A:Around} {E:Value->Shared->Prop} {Q:Value->Shared->Prop} {c:Value} {b:Bool}
inductive TyOf (K:α3)(H:Hp):V->Value->Prop where
 | non:TyOf K H .non (.type "NoneType")
 | bl (x:Bool):TyOf K H (.bl x) (.type "bool")
 | int (i:Int):TyOf K H (.int i) (.type "int")
 | str (x:Str):TyOf K H (.str x) (.type "str")
 | flt (x:UInt64):TyOf K H (.flt x) (.type "float")
 | lst {a:Addr} {xs:List V} (e:H a=some (.lst xs)):TyOf K H (.ref a) (.type "list")
 | frz {a:Addr} {o:Obj} {xs:List V} (e:H a=some (.frz o (.lst xs))):TyOf K H (.ref a) (.type "list")
 | tup {a:Addr} {xs:List V} (e:H a=some (.tup xs)):TyOf K H (.ref a) (.type "tuple")
 | dK {a:Addr} {kvs:List (Key×V)} (e:H a=some (.dK kvs)):TyOf K H (.ref a) (.type "dict")
 | dT {a:Addr} {kvs:List (List Key×V)} (e:H a=some (.dT kvs)):TyOf K H (.ref a) (.type "dict")
 | ins {a C dx:Addr} {fs:List (Str×V)} (e:H a=some (.ins C dx fs)) (cl:Cls K C) (ha:uJ K (.ref C) "__class__"=some (some (.builtin "object.__class__")))
   (hn:wk K (.builtin "object.__class__") "__get__"=some (some (.builtin "getset_descriptor.__get__"))) (ir:wO K (.builtin "object.__class__")=some true)
   (hm:wZ K C (.type "object")=some true):TyOf K H (.ref a) (.ref C)
def Ph   (I:Inv X ae σ H s)(rx:RelV x u)(ty:TyOf X.K H x t)(e:kitOne X.K t c=some b)(h:∀tk,Q (.bool b) {s with toks:=tk}):
  wpAny (model X.prog X.w) A (call (.builtin "isinstance") [u,c]) Q E s:=by
 cases ty with
 |non=>cases (show u=Value.none from rx);exact qx_ wm I.kIn rA e (fun z=>nomatch z) h
 |bl y=>cases (show u=Value.bool y from rx);exact qx_ wq I.kIn rA e (fun z=>nomatch z) h
 |int i=>obtain⟨t,q⟩:=(show ∃t,u=Value.int i t from rx);cases q;exact qx_ wC I.kIn rA e (fun z=>nomatch z) h
 |str y=>obtain⟨t,q⟩:=(show ∃t,u=Value.str y t from rx);cases q;exact qx_ wD I.kIn rA e (fun z=>nomatch z) h
 |flt y=>obtain⟨t,q⟩:=(show ∃t,u=Value.float y t from rx);cases q;exact qx_ v3 I.kIn rA e (fun z=>nomatch z) h
 |@lst a xs ea=>
  cases (show u=Value.ref a from rx)
  obtain⟨_,_,n,_,h1⟩:=(show Bj X.prog X.w H s.heap a (.lst xs) from I.hok a _ ea)
  exact qx_ wa_ I.kIn ⟨_,h1,rfl⟩ e (fun z=>nomatch z) h
 |@frz a ob xs ea=>
  cases (show u=Value.ref a from rx)
  obtain⟨_,_,_,n,_,h1⟩:=(show Bj X.prog X.w H s.heap a (.frz ob (.lst xs)) from I.hok a _ ea)
  exact qx_ wa_ I.kIn ⟨_,h1,rfl⟩ e (fun z=>nomatch z) h
 |@tup a xs ea=>
  cases (show u=Value.ref a from rx)
  obtain⟨_,_,_,p⟩:=(show Bj X.prog X.w H s.heap a (.tup xs) from I.hok a _ ea)
  obtain⟨o,h1,h2,_⟩:=p
  exact qx_ tK I.kIn ⟨o,h1,h2⟩ e (fun z=>nomatch z) h
 |@dK a kvs ea=>
  cases (show u=Value.ref a from rx)
  obtain⟨_,_,vs,_,p⟩:=(show Bj X.prog X.w H s.heap a (.dK kvs) from I.hok a _ ea)
  obtain⟨o,es,ep,h1,h2,_⟩:=p
  exact qx_ tR I.kIn ⟨o,h1,h2.1⟩ e (fun z=>nomatch z) h
 |@dT a kvs ea=>
  cases (show u=Value.ref a from rx)
  obtain⟨_,_,xs,_,o,es,ep,h1,h2,_⟩:=(show Bj X.prog X.w H s.heap a (.dT kvs) from I.hok a _ ea)
  exact qx_ tR I.kIn ⟨o,h1,h2.1⟩ e (fun z=>nomatch z) h
 |@ins a C dx fs ea cl ha hn ir hm=>
  cases (show u=Value.ref a from rx)
  obtain⟨mA,O,_⟩:=Us I.hok ea
  obtain⟨od,J,_⟩:=O.look
  exact qx_ (wF (cl.get _) cl.hd ha hn ir hm) I.kIn J e (fun z=>nomatch z) h
end
end L2
namespace L2
open PySem PySem.Spec PyProof.Rows
structure Room (k:Nat)(A:Around):Prop where
 hd:A.handled=none
 dp:A.depth+3*k+5<recursionLimit
 un:A.units+16*k+200<cLine
def Room.mono   (r:Room k A)(h:j<=k):Room j A:=⟨r.hd,by have:=r.dp;lia,by have:=r.un;lia⟩
def Room.deeper   (r:Room (k+1) A)(env:Env):Room k (A.deeper env):=
 ⟨r.hd,by have:=r.dp;show A.depth+1+3*k+5<_;lia,by have:=r.un;show A.units+3+16*k+200<_;lia⟩
def Room.in1   (r:Room (k+1) A):Room k A.in1:=
 ⟨r.hd,by have:=r.dp;show A.depth+3*k+5<_;lia,by have:=r.un;show A.units+1+16*k+200<_;lia⟩
def Room.depth   (r:Room k A):A.depth<recursionLimit:=by have:=r.dp;lia
def Room.units   (r:Room k A):A.units+64<cLine:=by have:=r.un;lia
def tNil:TA:=fun _ H Q=>Q [] H
def VN (ta:TE)(tr:TA):TA:=fun σ H Q=>ta σ H fun x H1=>tr σ H1 fun xs H2=>Q (x::xs) H2
section
variable {X:Cx} {e:Expr} {es:List Expr} {te:TE} {t:TA} {pos:Pos}
def Ae:PA X [] tNil:=fun _ _ _ _ H Q I h=>x3_ ⟨[],H,I,.nil,h⟩
def Aa (ha:PE X e te)(hr:PA X es t)(hs:starEach (e::es) X.env=(false,eval e X.env)::starEach es X.env:=by rfl):PA X (e::es) (VN te t):=by
 intro pos ae s σ H Q I h
 rw[hs]
 show wpAny _ _ (spliced ((false,eval e X.env)::backTo pos (starEach es X.env))) _ _ s
 refine xw_ (thn (ha ae s σ H _ I h) fun u s1 ⟨x,H1,I1,r1,q1⟩=>?_)
 exact thn (hr pos ae s1 σ H1 _ I1 q1) fun us s2 ⟨xs,H2,I2,r2,q2⟩=>⟨x::xs,H2,I2,.cons r1 r2,q2⟩
def tTup (t:TA):TE:=fun σ H Q=>t σ H fun xs H1=>xs.length<=sizeLine/\∀p,H1 p=none->Q (.ref p) (upd H1 p (.tup xs))
def tLst (t:TA):TE:=fun σ H Q=>t σ H fun xs H1=>xs.length<=sizeLine/\∀p,H1 p=none->Q (.ref p) (upd H1 p (.lst xs))
def BN {x1}(h:PA X es t):PE X (.Tuple es x1 pos) (tTup t):=by
 intro ae s σ H Q I hq
 refine wpAny_Tuple_spliced (thn (h pos ae s σ H _ I hq) fun us s1 ⟨xs,H1,I1,r,z,q⟩=>⟨by rw[<-r.length];exact z,?_⟩)
 have hf:H1 s1.heap.objs.size=none:=I1.hok.fresh (ji_ _)
 refine⟨.ref s1.heap.objs.size,upd H1 s1.heap.objs.size (.tup xs),I1.laid (t':=s1.toks) (fun b u e=>jf_ _ e) (ji_ _) ?_,rfl,q _ hf⟩
 exact⟨z,us,r,⟨_,jx_ _ rfl,rfl,_,rfl⟩⟩
def Bt (h:PA X es t):PE X (.List es pos) (tLst t):=by
 intro ae s σ H Q I hq
 refine wpAny_List_spliced (thn (h pos ae s σ H _ I hq) fun us s1 ⟨xs,H1,I1,r,z,q⟩=>⟨by rw[<-r.length];exact z,?_⟩)
 have hf:H1 s1.heap.objs.size=none:=I1.hok.fresh (ji_ _)
 refine⟨.ref s1.heap.objs.size,upd H1 s1.heap.objs.size (.lst xs),I1.laid (t':=s1.toks) (fun b u e=>jf_ _ e) (ji_ _) ?_,rfl,q _ hf⟩
 exact⟨z,us,0,r,jx_ _ rfl⟩
end
abbrev Sp:=List V->Hp->VK->XK->Prop
abbrev CXT:=List Env->Hp->Shared->XK->Value->Shared->Prop
structure Env0 (P:Program)(w:World)(K:α3)(mg:Str->α5)(base:Heap)(A:Around)(outer:List Env)(s:Shared)(H:Hp):Prop where
 frames:A.frames=some outer
 mod:Mod K mg base
 bs:∀b o,base.get? b=some o->s.heap.get? b=some o/\H b=none
 bsz:base.objs.size<=s.heap.objs.size
 funs:s.heap.FunFrames base outer
 frf:∀b∈frs outer,H b=none
 hok:HOk P w H s.heap
 bare:AllBare s.gens
def CE (outer:List Env)(P:Program)(w:World)(H:Hp)(s:Shared)(Q:VK)(u:Value)(s':Shared):Prop:=
 ∃v H',s'.os=s.os/\AllBare s'.gens/\Un (frs outer) [] H H' s.heap s'.heap/\HOk P w H' s'.heap/\RelV v u/\Q v H'
def CR (CX:CXT)(outer:List Env)(P:Program)(w:World)(H:Hp)(s:Shared)(Q:VK)(E:XK)(r:Result)(s':Shared):Prop:=
 match r with
 |.ok (.ret u)=>CE outer P w H s Q u s'
 |.ok _=>False
 |.error e=>CX outer H s E e s'
structure FnOk (P:Program)(w:World)(K:α3)(mg:Str->α5)(base:Heap)(CX:CXT)(k:Nat)(f:Addr)(fd:α6)(ps:List Str)(sp:Sp):Prop where
 len:∀vs H Q E,sp vs H Q E->vs.length=ps.length
 run:∀(A:Around) (outer:List Env) (s:Shared) (H:Hp) (args:Args) (us:List Value) (vs:List V) (Q:VK) (E:XK),Room k A->Env0 P w K mg base A outer s H->BindsTo s fd args (ps.zip us)->Vals vs us->sp vs H Q E ->
  codeAny (model P w) A (.call (.ref f) args) (CR CX outer P w H s Q E) s
def Env0.in1   {K:α3}       (e:Env0 P w K mg base A outer s H):
  Env0 P w K mg base A.in1 outer s H:=⟨e.frames,e.mod,e.bs,e.bsz,e.funs,e.frf,e.hok,e.bare⟩
section
variable {X:Cx} {ae:α7} {σ:St} {H:Hp} {s s':Shared}
def Inv.env0 (I:Inv X ae σ H s):Env0 X.prog X.w X.K X.mg X.base X.A X.stack s H:=
 ⟨I.ok.frames,I.ok.mod,I.bs,qp_ I.ok.bsz I.sz,I.stack,I.stkFree,I.hok,I.bare⟩
def Inv.after   (I:Inv X ae σ H s)(h:CE X.stack X.prog X.w H s Q u s'):EP X ae σ Q u s':=by
 obtain⟨v,H',os,bare,un,hok,r,q⟩:=h
 obtain⟨hh,g,d,t,os'⟩:=s'
 obtain rfl:os'=s.os:=os
 exact⟨v,H',I.call (h':=hh) (g':=g) (d':=d) (t':=t) (ch:=[]) un hok bare (fun b z=>absurd z (by simp)),r,q⟩
end
def Ut (sp:Sp)(gY:List V)(E:XK)(t:TA):TE:=fun σ H Q=>t σ H fun vs H1=>sp (vs++gY) H1 Q E
def Binds (K:α3)(fd:α6)(ps:List Str)(ds:List Value):Prop:=
 ∀(s:Shared) (us:List Value),K.In s.heap->(us++ds).length=ps.length->BindsTo s fd ⟨us,[]⟩ (ps.zip (us++ds))
def Binds.all {K:α3}   (h:∀us:List Value,us.length=ps.length->bindArgs fd ⟨us,[]⟩=pure (ps.zip us)):Binds K fd ps []:=fun s us _ hl=>by
 rw[ql_]at hl ⊢
 exact .of_eq (h us hl)
def Nb (CX:CXT)(X:Cx)(E:XK):Prop:=∀(ae:α7) (σ:St) (H:Hp) (s:Shared) (e:Value) (s':Shared),Inv X ae σ H s->CX X.stack H s E e s'->X.xe e s'
section
variable {X:Cx} {CX:CXT} {k:Nat} {f C:Addr} {fd:α6} {ps:List Str} {sp:Sp} {gY:List V} {ds:List Value} {E:XK} {x m:Str} {p pos bH:Pos} {e o:Expr} {es:List Expr} {ta:TE} {t:TA}
def VO        (F:FnOk X.prog X.w X.K X.mg X.base CX k f fd ps sp)(hr:Room k X.A)(hb:Binds X.K fd ps ds)(hd:Vals gY ds)(hx:Nb CX X E)
  (I:Inv X ae σ H s) (r:Vals vs us) (h:sp (vs++gY) H Q E):wpAny (model X.prog X.w) X.A (call (.ref f) us) (EP X ae σ Q) X.xe s:=by
 have r2:Vals (vs++gY) (us++ds):=r.append hd
 have hl:(us++ds).length=ps.length:=by rw[<-r2.length];exact F.len _ _ _ _ h
 refine wpAny_call (codeAny_mono (F.run X.A X.stack s H ⟨us,[]⟩ (us++ds) (vs++gY) Q E hr I.env0 (hb s us I.kIn hl) r2 h) fun r s' hq=>?_)
 cases r with
 |error e=>exact hx ae σ H s e s' I hq
 |ok fl=>
  cases fl with
  |ret u=>exact I.after hq
  |next=>exact rF hq
  |brk=>exact rF hq
  |cont=>exact rF hq
def Uu (F:FnOk X.prog X.w X.K X.mg X.base CX k f fd ps sp)(hr:Room k X.A)(hg:Gl X x)(hm:X.mg x=some (.ref f))(hk:keepIn X.K (.ref f)=true)(hb:Binds X.K fd ps ds)(hd:Vals gY ds)(hx:Nb CX X E)
  (ha:PA X (e::es) t) (jC:(x==("__debug__" : Str))=false:=by decide) (he:starEach (e::es) X.env=(false,eval e X.env)::starEach es X.env:=by rfl) (gZ:(backTo pos (starEach es X.env)).any (·.1)=false:=by rfl):
  PE X (.Call (.Name x p) (e::es) [] pos) (Ut sp gY E t):=by
 intro ae s σ H Q I h
 refine xx_ (Uo I hg hm ?_ jC)
 refine v5 (h₀:=X.base) I.ok.mod.kin hk (thn (ha pos ae s σ H _ I h) fun us s1 ⟨vs,H1,I1,r,q⟩=>⟨I1.kIn,?_⟩) he gZ
 exact VO F hr hb hd hx I1 r q
end
structure FnScope (N P:List Str)(sc:Scope):Prop where
 kind:sc.kind=.function
 co:sc.isCoroutine=false
 gen:sc.isGenerator=false
 nd:N.Nodup
 pre:N.take P.length=P
 par:∀x∈P,sc.names.lookup x=some .local\/sc.names.lookup x=some .cell
 nofree:∀y∈sc.names,y.2 ≠ .free
def KW {kindOf:Str->Option NameKind}{x:Str}:∀{binds:List (Str×Value)} {m:Str->α5},(∀v,(x,v)∉binds)->bindL kindOf binds m x=m x
 |[],_,_=>rfl
 | (n,v)::r,m,h=>by
  unfold bindL
  rw[KW fun w hw=>h w (jl_ _ hw)]
  split
  ·have:x≠n:=by rintro rfl;exact h v jp_
   simp[this]
  ·rfl
def KY {kindOf:Str->Option NameKind}{x:Str}:∀{binds:List (Str×Value)} {m:Str->α5},(∀v,(x,v)∉binds)->bindC kindOf binds m x=m x
 |[],_,_=>rfl
 | (n,v)::r,m,h=>by
  unfold bindC
  rw[KY fun w hw=>h w (jl_ _ hw)]
  split
  ·rfl
  ·have:x≠n:=by rintro rfl;exact h v jp_
   simp[this]
def KZ {kindOf:Str->Option NameKind}{x:Str}{v:Value}:∀{P:List Str} {vs:List Value} {i:Nat} {m:Str->α5},P.Nodup->P[i]?=some x->vs[i]?=some v->kindOf x=some .local ->
  bindL kindOf (P.zip vs) m x=some v
 |[],_,_,_,_,h,_,_=>by simp at h
 |_::_,[],_,_,_,_,h,_=>by simp at h
 |p::P,w::vs,0,m,nd,h1,h2,hk=>by
  simp at h1 h2;subst h1;subst h2
  show bindL kindOf ((p,w)::P.zip vs) m p=_
  unfold bindL
  rw[KW fun v hv=>(qK_.mp nd).1 (xH_ hv).1,if_pos hk]
  simp
 |p::P,w::vs,i+1,m,nd,h1,h2,hk=>by
  show bindL kindOf ((p,w)::P.zip vs) m x=_
  unfold bindL
  exact KZ (i:=i) (qK_.mp nd).2 (by simpa using h1) (by simpa using h2) hk
def K0 {kindOf:Str->Option NameKind}{x:Str}{v:Value}:∀{P:List Str} {vs:List Value} {i:Nat} {m:Str->α5},P.Nodup->P[i]?=some x->vs[i]?=some v->kindOf x≠some .local ->
  bindC kindOf (P.zip vs) m x=some v
 |[],_,_,_,_,h,_,_=>by simp at h
 |_::_,[],_,_,_,_,h,_=>by simp at h
 |p::P,w::vs,0,m,nd,h1,h2,hk=>by
  simp at h1 h2;subst h1;subst h2
  show bindC kindOf ((p,w)::P.zip vs) m p=_
  unfold bindC
  rw[KY fun v hv=>(qK_.mp nd).1 (xH_ hv).1,if_neg hk]
  simp
 |p::P,w::vs,i+1,m,nd,h1,h2,hk=>by
  show bindC kindOf ((p,w)::P.zip vs) m x=_
  unfold bindC
  exact K0 (i:=i) (qK_.mp nd).2 (by simpa using h1) (by simpa using h2) hk
def start (N:List Str)(vs:List V):St:=vs.map some++rp (N.length-vs.length) none
def cxOf (CX:CXT)(P:Program)(w:World)(K:α3)(mg:Str->α5)(base:Heap)(N:List Str)(qual:Str)(scope:Scope)(f:Addr)(cd:Value)(A:Around)(outer:List Env)(s:Shared)(H:Hp)(E:XK):Cx where
 prog:=P
 w:=w
 K:=K
 mg:=mg
 base:=base
 A:=A.deeper (envOfC qual scope s.heap.objs.size f cd)
 N:=N
 s₀:=s
 H₀:=H
 env:=envOfC qual scope s.heap.objs.size f cd
 outer:=outer
 stack:=envOfC qual scope s.heap.objs.size f cd::outer
 ex:=[]
 calm:=true
 fn:=fun _=>true
 pn:=[]
 xe:=fun e s'=>wpAny (model P w) (A.deeper (envOfC qual scope s.heap.objs.size f cd)) (leaving (envOfC qual scope s.heap.objs.size f cd) e) (fun _ jD=>CX outer H s E e jD) (fun e' jD=>CX outer H s E e' jD) s'
def Nc {sc:Scope}{n:Nat}{x:Str}(h:sc.names.lookup x=some .cell):∃c,(cellsFrom n sc.names []).lookup x=some c:=by
 have q:=xW_ sc.names n [] (.inl h)
 exact xI_.mp q
def K1    {K:α3}
  (S:FnScope N ps scope) (hd:A.handled=none) (e0:Env0 P w K mg base A outer s H) (hl:vs.length=ps.length) (r:Vals vs us)
  (x:InCallC s s.heap.objs.size (bindL (envOfC qual scope s.heap.objs.size f cd).kindOf (ps.zip us) fun _=>none) (cellsFrom (s.heap.objs.size+1) scope.names []) (bindC (envOfC qual scope s.heap.objs.size f cd).kindOf (ps.zip us) fun _=>none) s1):
  Inv (cxOf CX P w K mg base N qual scope f cd A outer s H E) [] (start N vs) H s1:=by
 have gZ:ps.length<=N.length:=by have:=jJ_ rL S.pre;rw[jw_]at this;lia
 obtain⟨h1,tk,rfl,hk⟩:=x.done
 have oU:∀b:Addr,b∉(cxOf CX P w K mg base N qual scope f cd A outer s H E).ex:=fun b z=>absurd (show b∈([]:List Addr) from z) (by simp)
 refine⟨⟨e0.mod,S.kind,rfl,rfl,ji_ _,fun y z c h1 h2=>?_,fun y hy=>?_,fun y c _ h=>?_,fun _=>hd,Around.frames_deeper e0.frames,.inr ⟨rfl,rfl⟩,fun b z=>absurd z (oU b),e0.bs,e0.bsz,fun b _ _=>oU b,fun b z=>absurd z (oU b),e0.funs,e0.frf⟩,
  rfl,e0.bare,Un.kept hk,⟨_,x.toInCall.ns,fun i y v h1 h2 h3=>?_⟩,fun y c h=>⟨_,x.cell y c h⟩,e0.hok.fresh (ji_ _),fun y c h=>?_,fun p hp=>absurd (show p∈([]:α7) from hp) (by simp),e0.hok.kept hk,?_⟩
 ·exact name_of_addr x.apart (qm_ h1) (qm_ h2)
 ·have hy:scope.names.lookup y=some .cell\/scope.names.lookup y=some .free:=hy
  rcases hy with hy|hy
  ·exact Nc hy
  ·exact absurd rfl (S.nofree _ (qm_ hy))
 ·exact ze_ (x.above y c (qm_ h))
 ·have hi:i<vs.length:=by
   unfold start at h2
   by_cases hi:i<vs.length
   ·exact hi
   ·rw[jt_ (by simpa using hi)]at h2
    rw[rZ]at h2
    split at h2<;>cases h2
  have ha:vs[i]?=some v:=by
   unfold start at h2
   rw[jk_ (by simpa using hi),je_]at h2
   cases e:vs[i]? with
   |none=>rw[e]at h2;cases h2
   |some a=>rw[e]at h2;cases h2;rfl
  obtain⟨u,hu,rv⟩:=r.get ha
  have hp:ps[i]?=some y:=by
   rw[<-S.pre,xJ_ s!""];exact h1
  have ndP:ps.Nodup:=by rw[<-S.pre];exact S.nd.sublist (tS _ _)
  refine⟨u,rv,?_⟩
  rcases S.par y (jd_ hp) with k|k
  ·exact .inl ⟨k,KZ ndP hp hu k⟩
  ·obtain⟨c,e⟩:=Nc (n:=s.heap.objs.size+1) k
   refine .inr ⟨.inl k,c,e,?_⟩
   have q:=x.cell y c e
   rw[K0 ndP hp hu (by show scope.names.lookup y≠_;rw[k];decide)]at q
   exact q
 ·exact e0.hok.fresh (ze_ (x.above y c (qm_ h)))
 ·unfold start
  show _=N.length
  rw[jn_,ja_,qL_]
  lia
def VP    {K:α3}         {dV kV bI pm ay ct oc:Value}
       (lk:K.lookup f=some ⟨oc,od,.func (fnOf name qual params body scope dV kV bI pm an ay ct),f6⟩) (b8:codeIn K ay qual=true) (S:FnScope N ps scope)
    (len:∀vs H Q E,sp vs H Q E->vs.length=ps.length)
    (dA:∀(A:Around) (outer:List Env) (s:Shared) (H:Hp) (vs:List V) (Q:VK) (E:XK),Room k (A.deeper (envOfC qual scope s.heap.objs.size f ay))->sp vs H Q E ->
      ∃t,PSs (cxOf CX P w K mg base N qual scope f ay A outer s H E) body t/\t {nx:=fun _ H'=>Q .non H',rt:=Q} (start N vs) H):
    FnOk P w K mg base CX (k+1) f (fnOf name qual params body scope dV kV bI pm an ay ct) ps sp:=by
  refine⟨len,fun A outer s H args us vs Q E hr e0 hb r fb=>?_⟩
  have hl:=len _ _ _ _ fb
  have KX:K.In s.heap:=e0.mod.kin.keeps fun b o e=>(e0.bs b o e).1
  have oV:s.heap.NoLimit:=e0.mod.nolimit.keeps fun b o e=>(e0.bs b o e).1
  have f7:∀y∈ps.zip us,scope.names.lookup y.1=some .local\/(scope.names.lookup y.1=some .cell/\((cellsFrom (s.heap.objs.size+1) scope.names []).lookup y.1).isSome=true):=fun ⟨n,v⟩ hy=>by
    rcases S.par n (xH_ hy).1 with q|q
    . exact .inl q
    . exact .inr ⟨q,xW_ _ _ _ (.inl q)⟩
  refine codeAny_call_function hr.depth (KX _ _ lk) rfl S.co S.gen rfl (v7 KX b8) (hb _ _ _ _ ?_)
  refine wpAny_newFunctionEnv_cells S.kind f7 fun env he s1 x=>?_
  subst he
  refine⟨oV.keeps x.toInCall.keep,codeAny_func ?_⟩
  obtain⟨t,ht,hq⟩:=dA A outer s H vs Q E (hr.deeper _) fb
  have I:Inv (cxOf CX P w K mg base N qual scope f ay A outer s H E) [] (start N vs) H s1:=K1 S hr.hd e0 hl r x
  refine qB_ (ht [] s1 (start N vs) H _ I hq) (fun fl s' hs=>?_) fun e s' hs=>hs
  have fin:∀{af:St} {H':Hp} {v:V} {u:Value},Inv (cxOf CX P w K mg base N qual scope f ay A outer s H E) [] af H' s'->RelV v u->Q v H'->CE outer P w H s Q u s' :=
    fun {af H' v u} J rv q=>⟨v,H',J.os,J.bare,J.base,J.hok,rv,q⟩
  cases fl with
  |ret u=>
    obtain⟨v,af,H',J,rv,q⟩:=hs
    exact fin J rv q
  |next=>
    obtain⟨af,H',J,q⟩:=hs
    exact fin (v:=V.non) (u:=Value.none) J rfl q
  |brk=>
    obtain⟨_,_,_,q⟩:=hs
    exact rF q
  |cont=>
    obtain⟨_,_,_,q⟩:=hs
    exact rF q
end L2
namespace L2
open PySem PySem.Spec PyProof.Rows
section
variable {X:Cx} {x:Str} {p pos:Pos} {e:Expr} {es:List Expr} {t:TA} {id T:String} {r:List V->Hp->VK->Prop}
def tCB (r:List V->Hp->VK->Prop)(t:TA):TE:=fun σ H Q=>t σ H fun vs H1=>r vs H1 Q
def Ao (hc:Cf X (.builtin id) r)(hg:Gl X x)(hm:X.mg x=none)(hv:bootBuiltins x=some (.builtin id))(ha:PA X (e::es) t)(hn:x ≠ "__name__" := by decide)(jC:(x==("__debug__" : Str))=false:=by decide)
  (he:starEach (e::es) X.env=(false,eval e X.env)::starEach es X.env:=by rfl) (gZ:(backTo pos (starEach es X.env)).any (·.1)=false:=by rfl):PE X (.Call (.Name x p) (e::es) [] pos) (tCB r t):=by
 intro ae s σ H Q I h
 refine xx_ (DS I hg hm hv ?_ hn jC)
 exact uf (thn (ha pos ae s σ H _ I h) fun us s1 ⟨vs,H1,I1,r1,q1⟩=>hc ae s1 σ H1 vs us Q I1 r1 q1) he gZ
def AD (hc:Cf X (.type T) r)(hg:Gl X x)(hm:X.mg x=none)(hv:bootBuiltins x=some (.type T))(ha:PA X (e::es) t)(hn:x ≠ "__name__" := by decide)(jC:(x==("__debug__" : Str))=false:=by decide)
  (he:starEach (e::es) X.env=(false,eval e X.env)::starEach es X.env:=by rfl) (gZ:(backTo pos (starEach es X.env)).any (·.1)=false:=by rfl):PE X (.Call (.Name x p) (e::es) [] pos) (tCB r t):=by
 intro ae s σ H Q I h
 refine xx_ (DS I hg hm hv ?_ hn jC)
 exact j9_ (thn (ha pos ae s σ H _ I h) fun us s1 ⟨vs,H1,I1,r1,q1⟩=>hc ae s1 σ H1 vs us Q I1 r1 q1) he gZ
end
end L2
namespace HT
open PySem PyProof.Rows
def lexLt:α2->α2->Bool
 |[],[]=>false
 |[],_::_=>true
 |_::_,[]=>false
 |x::xs,y::ys=>if x=y then lexLt xs ys else decide (x<y)
def lexLt_cons (x y:Int)(xs ys:α2):lexLt (x::xs) (y::ys)=if x=y then lexLt xs ys else decide (x<y):=rfl
def JV:lexLt [] []=false:=rfl
def IT (y:Int)(ys:α2):lexLt [] (y::ys)=true:=rfl
def IU (x:Int)(xs:α2):lexLt (x::xs) []=false:=rfl
def RK (A:Around)(s:Shared)(a:Int)(t:Tok)(c:Int)(u:Tok):∃e,SeqAt.EqAt A s (.int a t) (.int c u) e/\(e=true↔a=c):=
 ⟨(a==c),SeqAt.EqAt.int_int a t c u,by simp⟩
def RL (A:Around)(s:Shared)(a:Int)(t:Tok)(c:Int)(u:Tok)(prog:Program)(w:World)(E:Value->Shared->Prop)(Q:Value->Shared->Prop)(h:Q (.bool (decide (a<c))) s):
  wpAny (model prog w) A (richCompare .Lt (.int a t) (.int c u)) Q E s:=
 (vV h:wpAny (model prog w) A (compareOp .Lt (.int a t) (.int c u)) Q E s)
section
open PySem.SeqAt
open PySem.AutoSeq1 (wpAny_loadPart')
open PySem.MeetsSeq PySem.MeetsSeq2 PySem.MeetsSeq3
def JW (l b:Addr)(items aO:Array Value)(n n2:Nat)(dd g8:Option Addr)(sl fP:Array (α5))(ns ms:α2)(hi:IntsAre items.toList ns)(hj:IntsAre aO.toList ms):
  Meets (Builtin.«tuple.__lt__» ⟨[.ref l,.ref b],[]⟩)
   (fun _ R s=>s.heap.get? l=some {cls:=.type "tuple",dict:=dd,data:=.seq items n,slots:=sl}/\s.heap.get? b=some {cls:=.type "tuple",dict:=g8,data:=.seq aO n2,slots:=fP} /\
    R (.ok (.ret (.bool (lexLt ns ms)))) s):=
 .of_wp fun prog w A R s h=>by
  obtain⟨hp,g,d,tk,os⟩:=s;obtain⟨hl,hb,h⟩:=h
  have f2:=AutoSeq1.sub_tuple_tuple
  have z1:items.size=ns.length:=by rw[<-hi.length];simp
  have z2:aO.size=ms.length:=by rw[<-hj.length];simp
  wp_walk using j4_ hl,j4_ hb,wpAny_forIn_list _ (fun rest b s'=>b.1=none/\s'=⟨hp,g,d,tk,os⟩/\∃(vs ws:List Value) (lH lI:α2),rest=vs.zip ws /\
   IntsAre vs lH/\IntsAre ws lI/\lH.length+aO.size=lI.length+items.size/\R (.ok (.ret (.bool (lexLt lH lI)))) ⟨hp,g,d,tk,os⟩) _
  case turn=>
   rintro⟨y,x⟩ rest b s' ⟨iu,rfl,vs,ws,lH,lI,hz,dI,bV,aj,hR⟩
   cases dI with
   |nil=>rw[List.zip_nil_left]at hz;cases hz
   |cons a t hvi' =>
    cases bV with
    |nil=>rw[tL]at hz;cases hz
    |cons c u hwi' =>
     rw[z6_]at hz
     injection hz with mE hrest
     injection mE with hy hx
     subst hy hx
     rw[lexLt_cons]at hR
     simp only[jT_]at aj
     obtain⟨e,he,fe⟩:=RK A.in1 ⟨hp,g,d,tk,os⟩ a t c u
     refine jb_ (he prog w _ _ ?_)
     cases e with
     |true=>
      rw[if_pos (fe.mp rfl)]at hR
      wp_walk
      exact⟨rfl,rfl,_,_,_,_,hrest,hvi',hwi',by lia,hR⟩
     |false=>
      rw[if_neg (fun q=>absurd (fe.mpr q) js_)]at hR
      have iw:=RL A.in1 ⟨hp,g,d,tk,os⟩ a t c u prog w
      wp_walk using iw
      exact⟨_,rfl,by simpa using hR⟩
  case fin=>
   rintro⟨b1,b2⟩ s' ⟨iu,rfl,vs,ws,lH,lI,hz,dI,bV,aj,hR⟩
   simp only at iu
   subst iu
   have hv:lexLt lH lI=decide (items.size<aO.size):=by
    cases dI with
    |nil=>
     cases bV with
     |nil=>
      simp only[qt_]at aj
      rw[JV]
      exact (qk_ s!"").symm
     |cons c u hw=>
      simp only[qt_,jT_]at aj
      rw[IT]
      exact (qb_ s!"").symm
    |cons a t hv=>
     cases bV with
     |nil=>
      simp only[qt_,jT_]at aj
      rw[IU]
      exact (qk_ s!"").symm
     |cons c u hw=>
      rw[z6_]at hz
      cases hz
   rw[hv]at hR
   wp_walk
   exact⟨_,rfl,by simpa [Builtin.Tuple.tupleCompareSizes] using hR⟩
  case h=>
   exact⟨rfl,rfl,items.toList,aO.toList,ns,ms,rfl,hi,hj,by lia,h⟩
end
section
variable {prog:Program} {w:World} {A:Around} {E:Value->Shared->Prop} {s:Shared}
def lt_tupInts     (hl:IsTup s.heap l items)(hb:IsTup s.heap b aO)(hi:IntsAre items.toList ns)(hj:IntsAre aO.toList ms)
  (hu:A.units<cLine) (h:Q (.bool (lexLt ns ms)) s):wpAny (model prog w) A (compareOp .Lt (.ref l) (.ref b)) Q E s:=by
 obtain⟨⟨cls,dd,data,sl⟩,ho,hc,n,hd⟩:=id hl
 obtain⟨⟨cls2,g8,data2,fP⟩,g9,cE,n2,f9⟩:=id hb
 simp only at hc hd cE f9
 subst hc hd cE f9
 exact richCompare_meets_room (op:=.Lt) ⟨_,ho,rfl⟩ ⟨_,g9,rfl⟩ vH vz (vt _ _) (JW l b items aO n n2 dd g8 sl fP ns ms hi hj)
  ⟨ho,g9,show Value.bool (lexLt ns ms)≠Value.notImplemented/\Q (.bool (lexLt ns ms)) s from ⟨(fun x=>nomatch x),h⟩⟩ hu
def cat_tup    (ht:IsTup s.heap t vs.toArray)(hb:IsTup s.heap b ws.toArray)(hv:vs ≠ [])
  (h1:ws=[]->Q (.ref t) s) (h2:ws ≠ []->Q (.ref s.heap.objs.size) {s with heap:=s.heap.push {cls:=.type "tuple",data:=.seq (vs++ws).toArray} })
  (hsz:vs.length+ws.length<=sizeLine):wpAny (model prog w) A (binaryOp .Add (.ref t) (.ref b)) Q E s:=by
 obtain⟨⟨cls,dd,data,sl⟩,ho,hc,n,hd⟩:=id ht
 obtain⟨⟨cls2,g8,data2,fP⟩,g9,cE,n2,f9⟩:=id hb
 simp only at hc hd cE f9
 subst hc hd cE f9
 have e:vs.toArray++ws.toArray=(vs++ws).toArray:=by simp
 by_cases hw:ws=[]
 ·exact concat_meets ⟨_,ho,rfl⟩ ⟨_,g9,rfl⟩ noFill_tuple_add seq_tuple_add zs_ zi_ (zf_ _ _)
   (tuple_addW1 t b vs.toArray ws.toArray n n2 dd g8 sl fP (by simpa using hv) (by simp[hw])) ⟨ho,g9,h1 hw⟩
 ·refine concat_meets ⟨_,ho,rfl⟩ ⟨_,g9,rfl⟩ noFill_tuple_add seq_tuple_add zs_ zi_ (zf_ _ _)
   (tuple_addW2 t b vs.toArray ws.toArray n n2 dd g8 sl fP (by simpa using hv) (by simpa using hw) (by rw[jm_,jm_];exact hsz)) ⟨ho,g9,?_⟩
  rw[e]
  exact h2 hw
def sIx (n d:Nat):Option Int->Nat
 |none=>d
 |some v=>if v<0 then (v+(n:Int)).toNat else min v.toNat n
def sIx_none (n d:Nat):sIx n d none=d:=rfl
def sIx_nat (n d k:Nat):sIx n d (some (k:Int))=min k n:=by
 show (if (k:Int)<0 then ((k:Int)+(n:Int)).toNat else min (k:Int).toNat n)=min k n
 rw[if_neg s!"",jg_]
def VQ (n d:Nat)(hd:d<=n)(o:Option Int):sIx n d o<=n:=by
 cases o with
 |none=>exact hd
 |some v=>
  show (if v<0 then (v+(n:Int)).toNat else min v.toNat n)<=n
  by_cases hv:v<0
  ·rw[if_pos hv];lia
  ·rw[if_neg hv];exact Nat.min_le_right _ _
def Pj (v:Int)(n d:Nat):(if v<0 then max (v+(n:Int)) 0 else min v (n:Int))=((sIx n d (some v):Nat):Int):=by
 show (if v<0 then max (v+(n:Int)) 0 else min v (n:Int))=(((if v<0 then (v+(n:Int)).toNat else min v.toNat n):Nat):Int)
 by_cases hv:v<0
 ·simp only[if_pos hv];lia
 ·simp only[if_neg hv];lia
def Oa (lo hi:Option Int)(n:Nat):Builtin.Slice.sliceAdjust lo hi 1 (n:Int)=(((sIx n 0 lo:Nat):Int),((sIx n n hi:Nat):Int)):=by
 have h1:¬ ((1:Int)<0):=by lia
 unfold Builtin.Slice.sliceAdjust
 simp only[h1,qS_]
 refine Prod.ext ?_ ?_
 ·cases lo with
  |none=>rfl
  |some v=>exact Pj v n 0
 ·cases hi with
  |none=>rfl
  |some v=>exact Pj v n n
def Ob (i j:Nat):Builtin.Slice.slicePlaces (i:Int) (j:Int) 1=j-i:=by
 unfold Builtin.Slice.slicePlaces
 have h1:(1:Int) > 0:=by lia
 simp only[h1,xB_,Int.ediv_one]
 split<;>lia
def Jl    (p:IsPart v o)(h:Q o s):wpAny (model prog w) A (Builtin.Slice.slicePartIndex v) Q E s:=by
 cases p with
 |none=>exact slicePart_none h
 |int i t=>exact slicePart_int h
def G3 {sl:Addr}{vl vu:Value}{lo hi:Option Int}{n:Nat}{Q:Int×Int×Nat->Shared->Prop}(hs:s.heap.IsSliceOf sl vl vu .none)(pl:IsPart vl lo)(pu:IsPart vu hi)
  (h:Q (((sIx n 0 lo:Nat):Int),1,sIx n n hi-sIx n 0 lo) s):wpAny (model prog w) A (Builtin.Slice.sliceApplied (.ref sl) (pure (n:Int))) Q E s:=by
 obtain⟨os,dJ,hcs,nO⟩:=id hs
 unfold Builtin.Slice.sliceApplied Builtin.Slice.sliceFields
 refine jb_ (jb_ (qd_ dJ nO (x:=vl) rfl (jb_ (qd_ dJ nO (x:=vu) rfl (jb_ (qd_ dJ nO (x:=.none) rfl (jo_ ?_)))))))
 refine jb_ (slicePart_none ?_)
 show wpAny _ _ (if ((1:Int)==0)=true then _ else _) _ _ s
 rw[if_neg (by decide)]
 refine jb_ (Jl pl (jb_ (Jl pu (jb_ (jo_ ?_)))))
 show wpAny _ _ (match Builtin.Slice.sliceAdjust lo hi 1 (n:Int) with|(lo,hi)=>pure (lo,(1:Int),Builtin.Slice.slicePlaces lo hi 1)) _ _ s
 rw[Oa lo hi n]
 show wpAny _ _ (pure (((sIx n 0 lo:Nat):Int),(1:Int),Builtin.Slice.slicePlaces ((sIx n 0 lo:Nat):Int) ((sIx n n hi:Nat):Int) 1)) _ _ s
 rw[Ob]
 exact jo_ h
def RM (xs:Array Value)(i k:Nat):((rq k).filterMap fun (m:Nat)=>xs[((i:Int)+(m:Int)*1).toNat]?).toArray=((xs.toList.drop i).take k).toArray:=by
 have e:(fun (m:Nat)=>xs[((i:Int)+(m:Int)*1).toNat]?)=fun m=>xs[i+m]?:=by
  funext m
  have:((i:Int)+(m:Int)*1).toNat=i+m:=by lia
  rw[this]
 rw[e]
 have:=pick_run xs i k
 rw[List.filterMap_map]at this
 have e2:((fun x=>xs[x]?) ∘ fun x=>i+x)=fun m=>xs[i+m]?:=rfl
 rw[e2]at this
 rw[this]
def getItem_tuple_cut {t sl:Addr}   {lo hi:Option Int}  (ht:IsTup s.heap t items)(hs:s.heap.IsSliceOf sl vl vu .none)(pl:IsPart vl lo)(pu:IsPart vu hi)
  (hw:¬ (sIx items.size 0 lo=0/\sIx items.size items.size hi=items.size))
  (h:Q (.ref s.heap.objs.size) {s with heap:=s.heap.push {cls:=.type "tuple",data:=.seq ((items.toList.drop (sIx items.size 0 lo)).take (sIx items.size items.size hi-sIx items.size 0 lo)).toArray} })
  (hsz:items.size<=sizeLine):wpAny (model prog w) A (getItem (.ref t) (.ref sl)) Q E s:=by
 have eA:sizeOk (.seq ((items.toList.drop (sIx items.size 0 lo)).take (sIx items.size items.size hi-sIx items.size 0 lo)).toArray):=by
  show ((items.toList.drop (sIx items.size 0 lo)).take (sIx items.size items.size hi-sIx items.size 0 lo)).toArray.size<=sizeLine
  rw[jm_,jw_,xf_,j3_]
  lia
 have hj:sIx items.size items.size hi<=items.size:=VQ _ _ (ji_ _) hi
 obtain⟨os,dJ,hcs,nO⟩:=id hs
 have hTs:s.TypeIs (.ref sl) "slice" := ⟨os,dJ,hcs⟩
 unfold getItem
 try with_reducible refine qJ_ ?_
 first|refine jb_ (jo_ ?_)|skip
 refine jb_ (wpAny_sequenceKey ht.typeIs (by decide) ?_)
 refine jb_ (j5_ (name:=Str.ofString "__getitem__") ht.typeIs xK_
  (qD_ xK_ ht.typeIs entry_tuple_getitem ?_ (args_tuple_getitem _ _)))
 show wpAny _ _ (Builtin.Tuple.tupleItemsOf (.ref t) >>= _) _ _ s
 refine jb_ (tupleItemsOf_ ht ?_)
 refine jb_ (wpAny_typeOf hTs ?_)
 rw[if_pos (by decide)]
 refine jb_ (G3 hs pl pu ?_)
 have dM:¬ ((((sIx items.size 0 lo:Nat):Int)==0&&(1:Int)==1&&(sIx items.size items.size hi-sIx items.size 0 lo)==items.size)=true):=by
  intro q
  rw[qi_,qi_]at q
  have q1:((sIx items.size 0 lo:Nat):Int)=0:=eq_of_beq q.1.1
  have q2:sIx items.size items.size hi-sIx items.size 0 lo=items.size:=eq_of_beq q.2
  exact hw ⟨by lia,by lia⟩
 show wpAny _ _ (if (((sIx items.size 0 lo:Nat):Int)==0&&(1:Int)==1&&(sIx items.size items.size hi-sIx items.size 0 lo)==items.size)=true then _ else _) _ _ s
 rw[if_neg dM,RM]
 first
  | exact jb_ (m:=Builtin.Tuple.tupleExact _) (qq_ (jo_ ⟨_,rfl,jo_ h⟩) eA)
  | exact jb_ (m:=Builtin.Tuple.tupleExact _) (qq_ (jb_ (jo_ (jo_ ⟨_,rfl,jo_ h⟩))) eA)
  | exact jb_ (jb_ (m:=Builtin.Tuple.tupleExact _) (qq_ (jo_ (jo_ ⟨_,rfl,jo_ h⟩)) eA))
  | exact jb_ (jb_ (m:=Builtin.Tuple.tupleExact _) (qq_ (jo_ ⟨_,rfl,jo_ h⟩) eA))
end
end HT
namespace L2
open PySem PySem.Spec PyProof.Rows
abbrev TO:=St->Hp->(Option Int->Hp->Prop)->Prop
def PO (X:Cx)(e:Option Expr)(t:TO):Prop:=
 ∀(ae:α7) (s:Shared) (σ:St) (H:Hp) (Q:Option Int->Hp->Prop),Inv X ae σ H s->t σ H Q ->
  wpAny (model X.prog X.w) X.A (evalPart e X.env) (fun u s'=>∃o H',Inv X ae σ H' s'/\IsPart u o/\Q o H') X.xe s
def Pk:TO:=fun _ H Q=>Q none H
def VR (t:TE):TO:=fun σ H Q=>t σ H fun x H1=>∃i,x=.int i/\Q (some i) H1
def intsAre_of  : ∀{us:List Value},Vals (ns.map V.int) us->IntsAre us ns:=by
 induction ns with
 |nil=>intro us r;rw[xY_]at r;cases r;exact .nil
 |cons n ns ih=>
  intro us r
  rw[j0_]at r
  cases r with
  |cons r1 r2=>
   obtain⟨t,e⟩:=r1
   subst e
   exact .cons n t (ih r2)
section
variable {X:Cx} {e:Expr} {te:TE} {lo hi:Option Expr} {tl th:TO} {pos p2:Pos}
def L8:PO X none Pk:=by
 intro ae s σ H Q I h
 rw[evalPart_none]
 exact jo_ ⟨none,H,I,.none,h⟩
def L9 (h:PE X e te):PO X (some e) (VR te):=by
 intro ae s σ H Q I hw
 rw[evalPart_some]
 refine thn (h ae s σ H _ I hw) fun u s1 ⟨x,H1,I1,r1,q1⟩=>?_
 obtain⟨i,rfl,q⟩:=q1
 obtain⟨t,rfl⟩:=r1
 exact⟨some i,H1,I1,.int i t,q⟩
def SlR (X:Cx)(r:V->Option Int->Option Int->Hp->VK->Prop):Prop:=
 ∀(ae:α7) (s:Shared) (σ:St) (H:Hp) (x:V) (v vl vu:Value) (lo hi:Option Int) (sl:Addr) (Q:VK),Inv X ae σ H s->RelV x v->s.heap.IsSliceOf sl vl vu .none->IsPart vl lo->IsPart vu hi->r x lo hi H Q ->
  ∃T id,typeLookup (.type T) "__getitem__"=pure (some (.builtin id))/\s.TypeIs v T/\wpAny (model X.prog X.w) X.A (getItem v (.ref sl)) (EP X ae σ Q) X.xe s
def tSl (r:V->Option Int->Option Int->Hp->VK->Prop)(te:TE)(tl th:TO):TE:=fun σ H Q=>te σ H fun x H1=>tl σ H1 fun l H2=>th σ H2 fun u H3=>r x l u H3 Q
def JX  (hr:SlR X r)(he:PE X e te)(hl:PO X lo tl)(hu:PO X hi th):PE X (.Subscript e (.Slice lo hi none p2) pos) (tSl r te tl th):=by
 intro ae s σ H Q I h
 refine Subscript_ (thn (he ae s σ H _ I h) fun v s1 ⟨x,H1,I1,r1,q1⟩=>?_)
 refine wpAny_Slice (thn (hl ae s1 σ H1 _ I1 q1) fun vl s2 ⟨l,H2,I2,pl,q2⟩=>thn (hu ae s2 σ H2 _ I2 q2) fun vu s3 ⟨u,H3,I3,pu,q3⟩=>?_)
 rw[evalPart_none]
 refine jo_ ?_
 have I4:Inv X ae σ H3 {s3 with heap:=s3.heap.push {cls:=.type "slice",data:=.fields #[vl,vu,.none]} }:=I3.kept (t':=s3.toks) fun b ob q=>jf_ _ q
 obtain⟨T,id,hT,ht,hg⟩:=hr ae {s3 with heap:=s3.heap.push {cls:=.type "slice",data:=.fields #[vl,vu,.none]} } σ H3 x v vl vu l u s3.heap.objs.size Q I4 r1 (Heap.IsSliceOf.new ..) pl pu q3
 show wpAny (model X.prog X.w) X.A (subscriptTail e (.Slice lo hi none p2) v (.ref s3.heap.objs.size)) (EP X ae σ Q) X.xe {s3 with heap:=s3.heap.push {cls:=.type "slice",data:=.fields #[vl,vu,.none]} }
 exact tail_any (ops:=[.ref s3.heap.objs.size,v]) ht hT hg (by with_unfolding_all rfl)
def cutV (xs:List V)(lo hi:Option Int):List V:=(xs.drop (HT.sIx xs.length 0 lo)).take (HT.sIx xs.length xs.length hi-HT.sIx xs.length 0 lo)
def HP (xs:List V)(lo hi:Option Int):(cutV xs lo hi).length<=xs.length:=by
 unfold cutV
 rw[jw_,xf_]
 lia
def rSlT (K:α3):V->Option Int->Option Int->Hp->VK->Prop:=fun x lo hi H Q=>∃a xs,x=.ref a/\SqT K H a xs /\
 ¬ (HT.sIx xs.length 0 lo=0/\HT.sIx xs.length xs.length hi=xs.length)/\∀p,H p=none->Q (.ref p) (upd H p (.tup (cutV xs lo hi)))
def VS:SlR X (rSlT X.K):=by
 intro ae s σ H x v vl vu lo hi sl Q I rx hs pl pu h
 obtain⟨a,xs,rfl,hx,hw,q⟩:=h
 cases rx
 obtain⟨its,r,ht,hz⟩:=I.tuple hx
 have aj:its.toArray.size=xs.length:=by rw[jm_];exact r.length.symm
 refine⟨"tuple",_,xK_.lookup,ht.typeIs,?_⟩
 refine HT.getItem_tuple_cut ht hs pl pu (by rw[aj];exact hw) ?_ (by rw[aj];exact hz)
 rw[aj]
 refine⟨.ref s.heap.objs.size,_,I.laid (t':=s.toks) (o:=.tup (cutV xs lo hi)) (fun b ob q=>jf_ _ q) (ji_ _) ?_,rfl,q _ (I.hok.fresh (ji_ _))⟩
 exact⟨qp_ (HP xs lo hi) hz,_,(r.drop (HT.sIx xs.length 0 lo)).take (HT.sIx xs.length xs.length hi-HT.sIx xs.length 0 lo),IsTup.new _ _⟩
def Xc (K:α3):R2:=fun x y H Q=>∃a b xs ys,x=.ref a/\y=.ref b/\SqT K H a xs/\SqT K H b ys/\xs ≠ []/\xs.length+ys.length<=sizeLine /\
 (ys=[]->Q (.ref a) H)/\(ys ≠ []->∀p,H p=none->Q (.ref p) (upd H p (.tup (xs++ys))))
def Vals.nil_iff   (r:Vals xs us):us=[]↔xs=[]:=by
 cases r with
 |nil=>simp
 |cons _ _=>simp
def Uv:OpR X (binaryOp .Add) (Xc X.K):=by
 intro ae s σ H x y v u Q I rx ry h
 obtain⟨a,b,xs,ys,rfl,rfl,ha,hb,hx,hz,q1,q2⟩:=h
 cases rx
 cases ry
 obtain⟨its,r1,p1,_⟩:=I.tuple ha
 obtain⟨aL,r2,p2,_⟩:=I.tuple hb
 refine HT.cat_tup p1 p2 (fun z=>hx (r1.nil_iff.mp z)) (fun z=>⟨.ref a,H,I,rfl,q1 (r2.nil_iff.mp z)⟩) (fun z=>?_) (by rw[<-r1.length,<-r2.length];exact hz)
 refine⟨.ref s.heap.objs.size,_,I.laid (t':=s.toks) (o:=.tup (xs++ys)) (fun b ob q=>jf_ _ q) (ji_ _) ?_,rfl,q2 (fun w=>z (r2.nil_iff.mpr w)) _ (I.hok.fresh (ji_ _))⟩
 exact⟨by rw[jn_];exact hz,_,r1.append r2,IsTup.new _ _⟩
end
end L2
namespace L2
open PySem PySem.Spec PyProof.Rows
def ixN (n:Nat)(i:Int):Option Nat:=if 0<=i then (if i<n then some i.toNat else none) else if -(n:Int)<=i then some (i+n).toNat else none
def atI {α:Type}(xs:List α)(i:Int):Option α:=(ixN xs.length i).bind fun j=>xs[j]?
def Pl    (h:ixN n i=some j):seqIndex? i n=some j/\j<n /\ -(n:Int)<=i/\i<n:=by
 unfold ixN at h
 by_cases h0:0<=i
 ·rw[if_pos h0]at h
  by_cases h1:i<n
  ·rw[if_pos h1]at h
   have e:i.toNat=j:=jq_ h
   exact⟨by rw[seqIndex_of h0 h1,e],by lia,by lia,h1⟩
  ·rw[if_neg h1]at h;cases h
 ·rw[if_neg h0]at h
  by_cases h1 : -(n:Int)<=i
  ·rw[if_pos h1]at h
   have e:(i+n).toNat=j:=jq_ h
   exact⟨by rw[seqIndex_neg s!"" h1,e],by lia,h1,by lia⟩
  ·rw[if_neg h1]at h;cases h
def Pm     (h:atI xs i=some v):∃j,seqIndex? i xs.length=some j/\xs[j]?=some v/\j<xs.length /\ -(xs.length:Int)<=i/\i<xs.length:=by
 unfold atI at h
 cases e:ixN xs.length i with
 |none=>rw[e]at h;cases h
 |some j=>
  rw[e]at h
  obtain⟨h1,h2,h3,h4⟩:=Pl e
  exact⟨j,h1,h,h2,h3,h4⟩
def Ee {α:Type}{xs:List α}{j:Nat}{v:α}(h:xs[j]?=some v):atI xs (j:Int)=some v:=by
 have hj:j<xs.length:=(jc_.mp h).1
 have e:ixN xs.length (j:Int)=some j:=by
  unfold ixN
  rw[if_pos s!"",if_pos s!""];simp
 unfold atI;rw[e];exact h
def Po (b:Expr):Prop:=∀o i,subscripted b false o i=operate [o,i] (getItem o i)
def IxR (X:Cx)(r:R2):Prop:=
 ∀(value br:Expr) (ae:α7) (s:Shared) (σ:St) (H:Hp) (x y:V) (v u:Value) (Q:VK),Inv X ae σ H s->RelV x v->RelV y u->r x y H Q ->
  subscripted br false v u=operate [v,u] (getItem v u)->wpAny (model X.prog X.w) X.A (subscriptTail value br v u) (EP X ae σ Q) X.xe s
def MtR (X:Cx)(id:String)(r:V->List V->Hp->VK->Prop):Prop:=
 ∀(ae:α7) (s:Shared) (σ:St) (H:Hp) (x:V) (xs:List V) (v:Value) (us:List Value) (Q:VK),Inv X ae σ H s->RelV x v->Vals xs us->r x xs H Q ->
  wpAny (model X.prog X.w) X.A (call (.builtin id) (v::us)) (EP X ae σ Q) X.xe s
section
variable {X:Cx} {a b:Expr} {ta tb:TE} {pos:Pos}
def IxR.or  (h:IxR X r)(h':IxR X r'):IxR X (fun x y H Q=>r x y H Q\/r' x y H Q):=by
 intro value br ae s σ H x y v u Q I rx ry q hs
 rcases q with q|q
 ·exact h value br ae s σ H x y v u Q I rx ry q hs
 ·exact h' value br ae s σ H x y v u Q I rx ry q hs
def VT  (hr:IxR X r)(ha:PE X a ta)(hb:PE X b tb)(hs:Po b):PE X (.Subscript a b pos) (tOp r ta tb):=by
 intro ae s σ H Q I h
 exact Subscript_ (binT ha hb I h fun v u s2 x y H2 I2 rx ry q=>hr a b ae s2 σ H2 x y v u Q I2 rx ry q (hs _ _))
def rIxL (K:α3):R2:=fun x y H Q=>∃p xs i v,x=.ref p/\y=.int i/\SqL K H p xs/\atI xs i=some v/\Q v H
def rIxT (K:α3):R2:=fun x y H Q=>∃p xs i v,x=.ref p/\y=.int i/\SqT K H p xs/\atI xs i=some v/\Q v H
def AS:IxR X (rIxL X.K):=by
 intro value br ae s σ H x y v u Q I rx ry h hs
 obtain⟨p,xs,i,z,rfl,rfl,hq,he,q⟩:=h
 cases rx
 obtain⟨t,rfl⟩:=ry
 obtain⟨its,r,pl,hz⟩:=I.list hq
 obtain⟨j,h1,h2,h3,h4,h5⟩:=Pm he
 obtain⟨w,ew,ff⟩:=r.get h2
 have hl:=r.length
 have hn:=KU
 have fin:EP X ae σ Q w s:=⟨z,H,I,ff,q⟩
 by_cases h0:0<=i
 ·have hj:i.toNat=j:=by
   rw[seqIndex_of h0 h5]at h1
   exact jq_ h1
  exact item_listR pl.isList h0 s!"" (by rw[hj];simpa using ew) fin hs
 ·have hj:(i+(its.toArray.size:Int)).toNat=j:=by
   rw[seqIndex_neg s!"" h4]at h1
   rw[jm_,<-hl]
   exact jq_ h1
  exact subscriptTail_builtinR (x:=w) pl.isList.typeIs slot_list_getitem.lookup
   (wpAny_getItem_list_neg (Q:=fun r s'=>r=w/\EP X ae σ Q r s') pl.isList s!"" (by rw[jm_]<;>lia) s!"" (by rw[hj];simpa using ew) ⟨rfl,fin⟩) hs
def An:IxR X (rIxT X.K):=by
 intro value br ae s σ H x y v u Q I rx ry h hs
 obtain⟨p,xs,i,z,rfl,rfl,hq,he,q⟩:=h
 cases rx
 obtain⟨t,rfl⟩:=ry
 obtain⟨its,r,pl,hz⟩:=I.tuple hq
 obtain⟨j,h1,h2,h3,h4,h5⟩:=Pm he
 obtain⟨w,ew,ff⟩:=r.get h2
 have hl:=r.length
 have hn:=KU
 have fin:EP X ae σ Q w s:=⟨z,H,I,ff,q⟩
 exact subscriptTail_builtinR (x:=w) pl.typeIs slot_tuple_getitem.lookup
  (getItem_tuple (j:=j) (Q:=fun r s'=>r=w/\EP X ae σ Q r s') pl s!"" s!"" (by rw[jm_,<-hl];exact h1) (by simpa using ew) ⟨rfl,fin⟩) hs
def Oc (its:List Value)(n j:Nat)(u:Value):Obj.mapSeq (·.setIfInBounds j u) {cls:=.type "list",data:=.seq its.toArray n}={cls:=.type "list",data:=.seq (its.set j u).toArray n}:=by
 simp[Obj.mapSeq]
def Inv.lst {ae:α7}{σ:St}{H:Hp}{s:Shared}{p:Addr}{xs:List V}(I:Inv X ae σ H s)(h:H p=some (.lst xs)):
  ∃(its:List Value) (n:Nat),Vals xs its/\s.heap.get? p=some {cls:=.type "list",data:=.seq its.toArray n}/\xs.length<=sizeLine:=by
 obtain⟨z,its,n,r,e⟩:=I.hok p _ h
 exact⟨its,n,r,e,z⟩
def Inv.lstUpd {ae:α7}{σ:St}{H:Hp}{s:Shared}{p:Addr}{xs ys:List V}{its its':List Value}{n n':Nat}{f:Obj->Obj}(I:Inv X ae σ H s)(h:H p=some (.lst xs))
  (ho:s.heap.get? p=some {cls:=.type "list",data:=.seq its.toArray n}) (hf:f {cls:=.type "list",data:=.seq its.toArray n}={cls:=.type "list",data:=.seq its'.toArray n' }) (r:Vals ys its') (hz:ys.length<=sizeLine) (t:Nat):
  Inv X ae σ (upd H p (.lst ys)) {s with heap:=s.heap.update p f,toks:=t}:=by
 have e:(s.heap.update p f).get? p=some {cls:=.type "list",data:=.seq its'.toArray n' }:=by
  rw[qM_ f ho (by rw[hf]<;>rfl),hf]
 refine I.write (x:=p) (e:=p) (by rw[h];trivial) (.inl rfl) (fun b u hb q=>(j6_ _ _ (qs_ hb)).trans q) ⟨_,e⟩ ?_
 exact⟨hz,its',n',r,e⟩
def VU:V->V->V->Hp->(Hp->Prop)->Prop:=fun o i v H Q=>∃p xs k j,o=.ref p/\i=.int k/\H p=some (.lst xs)/\ixN xs.length k=some j/\Q (upd H p (.lst (xs.set j v)))
def set_list:PSet X VU:=by
 intro ae s σ H o i v ov iv u Q I ro ri rv h
 obtain⟨p,xs,k,j,rfl,rfl,hp,hj,q⟩:=h
 cases ro
 obtain⟨t,rfl⟩:=ri
 obtain⟨its,n,r,ho,hz⟩:=I.lst hp
 obtain⟨h1,h2,h3,h4⟩:=Pl hj
 have hl:=r.length
 have hn:=KU
 have I':Inv X ae σ (upd H p (.lst (xs.set j v))) {s with heap:=s.heap.update p (Obj.mapSeq (·.setIfInBounds j u))}:=
  I.lstUpd hp ho (Oc its n j u) (r.set rv j) (by rw[qV_];exact hz) s.toks
 by_cases h0:0<=k
 ·have hk:k.toNat=j:=by
   rw[seqIndex_of h0 h4]at h1
   exact jq_ h1
  exact wG ho h0 s!"" (by rw[jm_,<-hl];exact h4) (by rw[hk];exact⟨_,I',q⟩)
 ·have hk:(k+(its.toArray.size:Int)).toNat=j:=by
   rw[seqIndex_neg s!"" h3]at h1
   rw[jm_,<-hl]
   exact jq_ h1
  exact v8 ho s!"" (by rw[jm_,<-hl];exact h3) s!"" (by rw[hk];exact⟨_,I',q⟩)
def K2 (lo hi:Option Int)(n:Nat):(sliceBounds lo hi none n).1=((HT.sIx n 0 lo:Nat):Int)/\(sliceBounds lo hi none n).2.1=((HT.sIx n n hi:Nat):Int)/\(sliceBounds lo hi none n).2.2=1:=by
 refine⟨?_,?_,rfl⟩
 ·cases lo with
  |none=>simp[sliceBounds,HT.sIx]
  |some i=>
   simp only[sliceBounds,HT.sIx,ug,show (1:Int) > 0 by decide,xB_]
   by_cases h:i<0
   ·simp only[h,xB_]<;>lia
   ·simp only[h,qS_]<;>lia
 ·cases hi with
  |none=>simp[sliceBounds,HT.sIx]
  |some i=>
   simp only[sliceBounds,HT.sIx,ug,show (1:Int) > 0 by decide,xB_]
   by_cases h:i<0
   ·simp only[h,xB_]<;>lia
   ·simp only[h,qS_]<;>lia
def JY (its:List Value)(lo hi:Option Int):slicePick its.toArray lo hi none=((its.drop (HT.sIx its.length 0 lo)).take (HT.sIx its.length its.length hi-HT.sIx its.length 0 lo)).toArray:=by
 obtain⟨h1,h2,h3⟩:=K2 lo hi its.toArray.size
 unfold slicePick
 rw[h1,h2,h3]
 simp only[sliceRange_one,pick_run,jm_]<;>rfl
def rSlL (K:α3):V->Option Int->Option Int->Hp->VK->Prop:=fun x lo hi H Q=>∃a xs,x=.ref a/\SqL K H a xs/\∀p,H p=none->Q (.ref p) (upd H p (.lst (cutV xs lo hi)))
def Pp:SlR X (rSlL X.K):=by
 intro ae s σ H x v vl vu lo hi sl Q I rx hs pl pu h
 obtain⟨a,xs,rfl,hx,q⟩:=h
 cases rx
 obtain⟨its,r,ht,hz⟩:=I.list hx
 have aj:=r.length
 refine⟨"list",_,slot_list_getitem.lookup,ht.isList.typeIs,?_⟩
 refine wpAny_getItem_list_slice ht.isList hs pl pu .none (by simp) ?_ (by rw[jm_]<;>lia)
 rw[JY,<-aj]
 refine⟨.ref s.heap.objs.size,_,I.laid (t':=s.toks) (o:=.lst (cutV xs lo hi)) (fun b ob q=>jf_ _ q) (ji_ _) ?_,rfl,q _ (I.hok.fresh (ji_ _))⟩
 exact⟨qp_ (HP xs lo hi) hz,_,0,(r.drop (HT.sIx xs.length 0 lo)).take (HT.sIx xs.length xs.length hi-HT.sIx xs.length 0 lo),jx_ _ rfl⟩
def Cy:V->Bool
 |.non=>true
 |.bl _=>true
 |.int _=>true
 |.str _=>true
 |_=>false
def eqV:V->V->Bool
 |.non,.non=>true
 |.bl a,.bl b=>a==b
 |.bl a,.int b=>(if a then 1 else 0)==b
 |.int a,.bl b=>a==(if b then 1 else 0)
 |.int a,.int b=>a==b
 |.str a,.str b=>a==b
 |_,_=>false
def Pq     (ry:RelV y u)(rx:RelV x v)(fy:Cy y=true)(fx:Cy x=true):SeqAt.EqAt A s u v (eqV y x):=by
 cases y with
 |non=>
  cases ry
  cases x with
  |non=>cases rx;exact SeqAt.EqAt.same _
  |bl b=>cases rx;exact SeqAt.EqAt.none_bool b
  |int b=>obtain⟨t,rfl⟩:=rx;exact SeqAt.EqAt.none_int b t
  |str b=>obtain⟨t,rfl⟩:=rx;exact SeqAt.EqAt.none_str b t
  |_=>exact absurd (show false=true from fx) js_
 |bl a=>
  cases ry
  cases x with
  |non=>cases rx;exact SeqAt.EqAt.bool_none a
  |bl b=>cases rx;exact SeqAt.EqAt.bool_bool a b
  |int b=>obtain⟨t,rfl⟩:=rx;exact SeqAt.EqAt.bool_int a b t
  |str b=>obtain⟨t,rfl⟩:=rx;exact SeqAt.EqAt.bool_str a b t
  |_=>exact absurd (show false=true from fx) js_
 |int a=>
  obtain⟨t',rfl⟩:=ry
  cases x with
  |non=>cases rx;exact SeqAt.EqAt.int_none a t'
  |bl b=>cases rx;exact SeqAt.EqAt.int_bool a t' b
  |int b=>obtain⟨t,rfl⟩:=rx;exact SeqAt.EqAt.int_int a t' b t
  |str b=>obtain⟨t,rfl⟩:=rx;exact SeqAt.EqAt.int_str a t' b t
  |_=>exact absurd (show false=true from fx) js_
 |str a=>
  obtain⟨t',rfl⟩:=ry
  cases x with
  |non=>cases rx;exact SeqAt.EqAt.str_none a t'
  |bl b=>cases rx;exact SeqAt.EqAt.str_bool a t' b
  |int b=>obtain⟨t,rfl⟩:=rx;exact SeqAt.EqAt.str_int a t' b t
  |str b=>obtain⟨t,rfl⟩:=rx;exact SeqAt.EqAt.str_str a t' b t
  |_=>exact absurd (show false=true from fx) js_
 |_=>exact absurd (show false=true from fy) js_
def eqU (x:V)(u:Value):Bool:=match u with
 |.none=>eqV .non x
 |.bool b=>eqV (.bl b) x
 |.int i _=>eqV (.int i) x
 |.str z _=>eqV (.str z) x
 |_=>false
def S7   (r:RelV y u)(f:Cy y=true):eqU x u=eqV y x:=by
 cases y with
 |non=>cases r;rfl
 |bl b=>cases r;rfl
 |int i=>obtain⟨t,rfl⟩:=r;rfl
 |str z=>obtain⟨t,rfl⟩:=r;rfl
 |_=>exact absurd (show false=true from f) js_
def JZ {x:V}:∀{xs:List V} {us:List Value},Vals xs us->xs.all Cy=true->us.any (eqU x)=xs.any fun y=>eqV y x
 |_,_,.nil,_=>rfl
 |y::xs,u::us,.cons r t,f=>by
  rw[vi,qi_]at f
  rw[zR_,zR_,S7 r f.1,JZ t f.2]
def Hm {A:Around}{s:Shared}{x:V}{v:Value}(rx:RelV x v)(fx:Cy x=true):∀{xs:List V} {us:List Value},Vals xs us->xs.all Cy=true->∀u∈us,SeqAt.EqAt A s u v (eqU x u)
 |_,_,.nil,_=>fun u hu=>by cases hu
 |y::xs,u::us,.cons r t,f=>fun u' hu=>by
  rw[vi,qi_]at f
  rcases jD_.mp hu with rfl|hu
  ·rw[S7 r f.1];exact Pq r rx f.1 fx
  ·exact Hm rx fx t f.2 u' hu
def inV (x:V)(xs:List V):Bool:=xs.any fun y=>eqV y x
def rIn (K:α3)(jE:Bool):R2:=fun x y H Q=>∃p xs,y=.ref p/\(SqL K H p xs\/SqT K H p xs)/\Cy x=true/\xs.all Cy=true/\Q (.bl (if jE then !inV x xs else inV x xs)) H
def GL:OpR X (compareOp .NotIn) (rIn X.K true):=by
 intro ae s σ H x y v u Q I rx ry h
 obtain⟨p,xs,rfl,hq,fx,fs,q⟩:=h
 cases ry
 rcases hq with hq|hq
 ·obtain⟨its,r,pl,hz⟩:=I.list hq
  refine SeqAt.notIn_listAt (eqU x) pl.isList (fun w hw=>Hm rx fx r fs w (by simpa using hw)) ⟨.bl _,H,I,rfl,?_⟩
  rw[show its.toArray.any (eqU x)=its.any (eqU x) by simp,JZ r fs]
  exact q
 ·obtain⟨its,r,pl,hz⟩:=I.tuple hq
  refine SeqAt.notIn_tupleAt (eqU x) pl (fun w hw=>Hm rx fx r fs w (by simpa using hw)) ⟨.bl _,H,I,rfl,?_⟩
  rw[show its.toArray.any (eqU x)=its.any (eqU x) by simp,JZ r fs]
  exact q
def Ai:Cf X (.builtin "len") (fun xs H Q=>∃p ys,xs=[.ref p]/\(SqL X.K H p ys\/SqT X.K H p ys)/\Q (.int ys.length) H):=by
 intro ae s σ H xs us Q I r h
 obtain⟨p,ys,rfl,hq,q⟩:=h
 obtain⟨u,rfl,rx⟩:=vals1 r
 cases rx
 have hn:=KU
 rcases hq with hq|hq
 ·obtain⟨its,r',pl,hz⟩:=I.list hq
  have aj:=r'.length
  exact Calls.call_len_list pl.isList (by simp only[jm_]<;>lia) ⟨.int ys.length,H,I.tok _,⟨s.toks+1,by rw[jm_,aj]⟩,q⟩
 ·obtain⟨its,r',pl,hz⟩:=I.tuple hq
  have aj:=r'.length
  exact len_tuple pl (by simp only[jm_]<;>lia) ⟨.int ys.length,H,I.tok _,⟨s.toks+1,by rw[jm_,aj]⟩,q⟩
def Cf.or   (h:Cf X f r)(h':Cf X f r'):Cf X f (fun xs H Q=>r xs H Q\/r' xs H Q):=by
 intro ae s σ H xs us Q I rs q
 rcases q with q|q
 ·exact h ae s σ H xs us Q I rs q
 ·exact h' ae s σ H xs us Q I rs q
def Ef:Cf X (.type "list") (fun xs H Q=>∃p ys,xs=[.ref p]/\(SqL X.K H p ys\/SqT X.K H p ys)/\∀l,H l=none->Q (.ref l) (upd H l (.lst ys))):=by
 intro ae s σ H xs us Q I r h
 obtain⟨p,ys,rfl,hq,q⟩:=h
 obtain⟨u,rfl,rx⟩:=vals1 r
 cases rx
 have fin:∀(its:List Value),Vals ys its->ys.length<=sizeLine->∀(h':Heap) (c':Nat),(∀b o',s.heap.get? b=some o'->h'.get? b=some o') ->
   h'.get? s.heap.objs.size=some {cls:=.type "list",dict:=none,data:=.seq its.toArray c',slots := #[]}->EP X ae σ Q (.ref s.heap.objs.size) {s with heap:=h' }:=fun its r' hz h' c' kp e=>
  ⟨.ref s.heap.objs.size,_,I.laid (t':=s.toks) kp (ji_ _) (show Bj X.prog X.w _ h' _ (.lst ys) from ⟨hz,its,c',r',e⟩),rfl,q _ (I.hok.fresh (ji_ _))⟩
 rcases hq with hq|hq
 ·obtain⟨its,r',pl,hz⟩:=I.list hq
  have aj:=r'.length
  obtain⟨o,ho,hc,n,hd⟩:=pl.isList
  exact call_list_seq p (.inl rfl) ho hc hd (fun h' c' kp e=>fin its r' hz h' c' kp e) (by simp only[jm_]<;>lia)
 ·obtain⟨its,r',pl,hz⟩:=I.tuple hq
  have aj:=r'.length
  obtain⟨o,ho,hc,n,hd⟩:=pl
  exact call_list_seq p (.inr rfl) ho hc hd (fun h' c' kp e=>fin its r' hz h' c' kp e) (by simp only[jm_]<;>lia)
def J1:Cf X (.type "tuple") (fun xs H Q=>∃p ys,xs=[.ref p]/\((SqL X.K H p ys/\∀l,H l=none->Q (.ref l) (upd H l (.tup ys)))\/(SqT X.K H p ys/\Q (.ref p) H))):=by
 intro ae s σ H xs us Q I r h
 obtain⟨p,ys,rfl,h⟩:=h
 obtain⟨u,rfl,rx⟩:=vals1 r
 cases rx
 rcases h with ⟨hq,q⟩|⟨hq,q⟩
 ·obtain⟨its,r',pl,hz⟩:=I.list hq
  have aj:=r'.length
  refine call_tuple_list pl.isList (fun h' kp=>?_) (by simp only[jm_]<;>lia)
  have I1:Inv X ae σ H {s with heap:=h' }:=I.kept (t':=s.toks) kp
  have I2:Inv X ae σ (upd H h'.objs.size (.tup ys)) {s with heap:=h'.push {cls:=.type "tuple",data:=.seq its.toArray} }:=
   I1.laid (t':=s.toks) (fun b o e=>jf_ _ e) (ji_ _) (show Bj X.prog X.w _ _ _ (.tup ys) from ⟨hz,its,r',IsTup.new _ _⟩)
  exact⟨.ref h'.objs.size,_,I2,rfl,q _ (I1.hok.fresh (ji_ _))⟩
 ·obtain⟨its,r',pl,hz⟩:=I.tuple hq
  exact call_tuple_same pl ⟨.ref p,H,I,rfl,q⟩
def tyV (K:α3)(T:String)(x:V)(H:Hp):Prop:=match x with
 |.str _=>T = "str"
 |.int _=>T = "int"
 |.ref p=>(T = "list" /\ ∃xs,SqL K H p xs)\/(T = "tuple" /\ ∃o,K.lookup p=some o/\o.cls=.type "tuple" /\ o.dict=none) \/
   (T = "dict" /\ ((∃kvs,H p=some (.dK kvs)) \/ ∃kvs,H p=some (.dT kvs)))\/(T = "set" /\ ∃S n,H p=some (.set S n))
 |_=>False
def VW        (I:Inv X ae σ H s)(r:RelV x v)(ty:tyV X.K T x H):
  s.TypeIs v T/\∀a,v=.ref a->∃ob,s.heap.get? a=some ob/\ob.dict=none:=by
 cases x with
 |str z=>
  obtain⟨t,rfl⟩:=r
  cases (show T = "str" from ty)
  exact⟨typeIs_str s z t,fun _ e=>nomatch e⟩
 |int i=>
  obtain⟨t,rfl⟩:=r
  cases (show T = "int" from ty)
  exact⟨typeIs_int s i t,fun _ e=>nomatch e⟩
 |ref p=>
  cases r
  rcases ty with ⟨rfl,xs,hq⟩|⟨rfl,o,hk,hc,hd⟩|⟨rfl,hk⟩|⟨rfl,S,n,hk⟩
  ·obtain⟨its,_,pl,_⟩:=I.list hq
   refine⟨pl.isList.typeIs,fun a e=>?_⟩
   cases e
   obtain⟨o,n,e,c,hd,_⟩:=pl
   exact⟨o,e,hd⟩
  ·refine⟨⟨o,I.kIn p o hk,hc⟩,fun a e=>?_⟩
   cases e
   exact⟨o,I.kIn _ o hk,hd⟩
  ·have z:∃o,s.heap.get? p=some o/\o.ExactDict:=by
    rcases hk with ⟨kvs,hk⟩|⟨kvs,hk⟩
    ·obtain⟨_,_,_,_,o,_,_,e,ex,_⟩:=I.hok p _ hk
     exact⟨o,e,ex⟩
    ·obtain⟨_,_,_,_,o,_,_,e,ex,_⟩:=I.hok p _ hk
     exact⟨o,e,ex⟩
   obtain⟨o,e,ex⟩:=z
   refine⟨⟨o,e,ex.1⟩,fun a e2=>?_⟩
   cases e2
   exact⟨o,e,ex.2.1⟩
  ·obtain⟨o,_,_,_,e,ex,_⟩:=I.hok p _ hk
   refine⟨⟨o,e,ex.1⟩,fun a e2=>?_⟩
   cases e2
   exact⟨o,e,ex.2.1⟩
 |_=>exact rF ty
def tBM (K:α3)(T:String)(r:V->List V->Hp->VK->Prop)(to:TE)(t:TA):TE:=fun σ H Q=>to σ H fun x H1=>tyV K T x H1/\t σ H1 fun xs H2=>r x xs H2 Q
variable {o e:Expr} {es:List Expr} {to:TE} {t:TA} {name:Str} {bH aH:Pos} {T id:String} {r:V->List V->Hp->VK->Prop}
def C8 (pa:PlainAttrs T)(slot:Slot T name id)(oW:typeOf (.builtin id)=pure (.type "method_descriptor"))(hm:MtR X id r)(ho:PE X o to)(ha:PA X (e::es) t)
  (gc:attributeBase o name X.env (eval o X.env)=eval o X.env:=by rfl)
  (iy:((backTo aH (starEach (e::es) X.env)).all (fun x => !x.1)&&(backToKw aH (keywordEach [] X.env)).all (fun x=>x.1.isSome)
   && decide ((e::es).length+([]:List Keyword).length+(if ([]:List Keyword).isEmpty then 0 else 1)<30))=true:=by rfl)
  (gd:(bH.endLine==aH.line)=true:=by rfl) (hs:starEach (e::es) X.env=(false,eval e X.env)::starEach es X.env:=by rfl) (dS:(backTo aH (starEach es X.env)).any (·.1)=false:=by rfl):
  PE X (.Call (.Attribute o name bH) (e::es) [] aH) (tBM X.K T r to t):=by
 intro ae s σ H Q I h
 refine wpAny_Call_method_late gc iy gd rfl (thn (ho ae s σ H _ I h) fun v s1 ⟨x,H1,I1,r1,ty,q1⟩=>?_)
 obtain⟨h1,h2⟩:=VW I1 r1 ty
 refine⟨T,id,pa,slot,oW,h1,h2,?_⟩
 have hA:=ha aH ae s1 σ H1 _ I1 q1
 rw[hs]at hA ⊢
 refine zt_ (by show (false||(backTo aH (starEach es X.env)).any (·.1))=false;rw[dS]<;>rfl) (zO_ ?_)
 exact thn hA fun us s2 ⟨vs,H2,I2,r2,q2⟩=>hm ae s2 σ H2 x vs v us Q I2 r1 r2 q2
/- xs.append(e),list.index on a module's tuple .. are MtR facts of 06m -/
end
end L2
namespace L2
open PySem PySem.Spec PyProof.Rows
def MtM (X:Cx)(id:String)(r:V->List V->Hp->VK->Prop):Prop:=
 ∀(ae:α7) (s:Shared) (σ:St) (H:Hp) (x:V) (xs:List V) (v:Value) (us:List Value) (Q:VK),Inv X ae σ H s->RelV x v->Vals xs us->r x xs H Q ->
  wpAny (model X.prog X.w) X.A (call (.builtin id) (v::us)) (EP X ae σ Q) X.xe s
def Vals.one:∀{x:V} {us:List Value},Vals [x] us->∃u,us=[u]/\RelV x u
 |_,_,.cons r .nil=>⟨_,rfl,r⟩
def Vals.rep {xs:List V}{us:List Value}(h:Vals xs us):∀k:Nat,Vals (rp k xs).flatten (rp k us).flatten
 |0=>.nil
 |k+1=>by
  rw[qn_,qn_,xL_,xL_]
  exact Vals.append h (Vals.rep h k)
def foldl_rep (its:List Value):∀(k:Nat) (ah:List Value),
  sr (fun x1 x2=>x1++x2) ah.toArray (rp k its.toArray)=(ah++(rp k its).flatten).toArray
 |0,ah=>by simp
 |k+1,ah=>by
  have e:ah.toArray++its.toArray=(ah++its).toArray:=by simp
  have e2:(ah++its)++(rp k its).flatten=ah++(rp (k+1) its).flatten:=by
   rw[qn_,xL_,qg_]
  rw[<-e2,<-foldl_rep its k (ah++its),<-e,qn_,q1_]
section
variable {X:Cx} {ae:α7} {σ:St} {H:Hp} {s:Shared} {l b:Addr} {xs ys zs:List V}
def Inv.lset {its its':List Value}{n:Nat}{f:Array Value->Array Value}{t':Nat}(I:Inv X ae σ H s)(hH:H l=some (.lst xs))
  (e:s.heap.get? l=some {cls:=.type "list",data:=.seq its.toArray n}) (hf:f its.toArray=its'.toArray) (hv:Vals ys its') (hz:ys.length<=sizeLine):
  Inv X ae σ (upd H l (.lst ys)) {s with heap:=s.heap.update l (Obj.mapSeq f),toks:=t' }:=by
 have q:=za_ e f
 rw[hf]at q
 refine I.write (x:=l) (e:=l) (by rw[hH];exact trivial) (.inl rfl) (fun b' u hb hu=>(j6_ s.heap (Obj.mapSeq f) (qs_ hb)).trans hu) ⟨_,q⟩ ?_
 exact⟨hz,its',_,hv,q⟩
def Inv.lnew   (I:Inv X ae σ H s)(hv:Vals ys its)(hz:ys.length<=sizeLine):
  Inv X ae σ (upd H s.heap.objs.size (.lst ys)) {s with heap:=s.heap.push {cls:=.type "list",data:=.seq its.toArray},toks:=t' }:=
 I.laid (fun _ _ q=>jf_ _ q) (ji_ _) ⟨hz,its,0,hv,jx_ _ rfl⟩
def Inv.fresh (I:Inv X ae σ H s):H s.heap.objs.size=none:=I.hok.fresh (ji_ _)
def Inv.lstM (I:Inv X ae σ H s)(hH:H l=some (.lst xs)):xs.length<=sizeLine/\∃(its:List Value) (n:Nat),Vals xs its/\xs.length=its.length/\s.heap.get? l=some {cls:=.type "list",data:=.seq its.toArray n}:=by
 obtain⟨z,its,n,r,e⟩:=I.hok l _ hH
 exact⟨z,its,n,r,r.length,e⟩
def Nd  (h:n<=sizeLine):Builtin.List.listTooLong n=false:=by
 unfold Builtin.List.listTooLong
 exact qk_ s!""
end
section
variable {X:Cx}
def Pt:V->List V->Hp->VK->Prop:=fun x vs H Q=>∃l xs y,x=.ref l/\vs=[y]/\H l=some (.lst xs)/\xs.length<sizeLine/\Q .non (upd H l (.lst (xs++[y])))
def AQ:MtM X "list.append" Pt:=by
 intro ae s σ H x vs v us Q I rx rv h
 obtain⟨l,xs,y,rfl,rfl,hH,hz,q⟩:=h
 cases rx
 obtain⟨u,rfl,ru⟩:=rv.one
 obtain⟨z,its,n,r,hl,e⟩:=I.lstM hH
 refine xM_ F.slot_list_append ⟨_,e,rfl⟩ F.entry_list_append (zP_ _ _) (wb_ l its.toArray n u (by rw[jm_];lia)) ⟨e,?_⟩
 refine⟨.non,_,I.lset (its':=its++[u]) hH e (by simp) (r.append (.cons ru .nil)) ?_,rfl,q⟩
 rw[jn_,jX_]
 lia
def Pu:V->List V->Hp->VK->Prop:=fun x vs H Q=>∃l b xs zs,x=.ref l/\vs=[.ref b]/\H l=some (.lst xs)/\H b=some (.lst zs)/\xs.length+zs.length<=sizeLine/\Q .non (upd H l (.lst (xs++zs)))
def Px:MtM X "list.extend" Pu:=by
 intro ae s σ H x vs v us Q I rx rv h
 obtain⟨l,b,xs,zs,rfl,rfl,hH,hB,hz,q⟩:=h
 cases rx
 obtain⟨u,rfl,ru⟩:=rv.one
 cases ru
 obtain⟨z,its,n,r,hl,e⟩:=I.lstM hH
 obtain⟨z2,aL,n2,r2,bE,e2⟩:=I.lstM hB
 have hsz:its.toArray.size+aL.toArray.size<=sizeLine:=by rw[jm_,jm_];lia
 have gf:¬ (!its.toArray.isEmpty&&Builtin.List.listTooLong (its.toArray.size+aL.toArray.size))=true:=by
  rw[Nd hsz,Bool.and_false]
  exact js_
 refine xM_ F.slot_list_extend ⟨_,e,rfl⟩ F.entry_list_extend (F.args_list_extend_2 _ _)
  (AutoSeq1.list_extend_list_list_0 l its.toArray n b aL.toArray n2 gf (by rw[jm_];lia) s!"") ⟨e,e2,?_⟩
 refine⟨.non,_,I.lset (its':=its++aL) hH e (by simp) (r.append r2) ?_,rfl,q⟩
 rw[jn_]
 lia
def rCat:R2:=fun x y H Q=>∃l b xs zs,x=.ref l/\y=.ref b/\H l=some (.lst xs)/\H b=some (.lst zs)/\xs.length+zs.length<=sizeLine/\∀p,H p=none->Q (.ref p) (upd H p (.lst (xs++zs)))
def VX:OpR X (binaryOp .Add) rCat:=by
 intro ae s σ H x y v u Q I rx ry h
 obtain⟨l,b,xs,zs,rfl,rfl,hH,hB,hz,q⟩:=h
 cases rx
 cases ry
 obtain⟨z,its,n,r,hl,e⟩:=I.lstM hH
 obtain⟨z2,aL,n2,r2,bE,e2⟩:=I.lstM hB
 refine PySem.P.add_list e e2 ?_ (by rw[jm_,jm_];lia)
 have ea:its.toArray++aL.toArray=(its++aL).toArray:=by simp
 rw[ea]
 exact⟨.ref _,_,I.lnew (t':=s.toks) (r.append r2) (by rw[jn_];lia),rfl,q _ I.fresh⟩
def rRep:R2:=fun x y H Q=>∃l k xs,x=.ref l/\y=.int k/\H l=some (.lst xs) /\ -(2 ^ 63)<=k/\k<2 ^ 63/\xs.length*k.toNat<=sizeLine /\
 ∀p,H p=none->Q (.ref p) (upd H p (.lst (rp k.toNat xs).flatten))
def len_rep {α:Type}(xs:List α)(k:Nat):(rp k xs).flatten.length=k*xs.length:=by
 induction k with
 |zero=>simp
 |succ k ih=>rw[qn_,xL_,jn_,ih,vA,vB]
def PD:OpR X (binaryOp .Mult) rRep:=by
 intro ae s σ H x y v u Q I rx ry h
 obtain⟨l,k,xs,rfl,rfl,hH,h1,h2,hz,q⟩:=h
 cases rx
 obtain⟨t,rfl⟩:=ry
 obtain⟨z,its,n,r,hl,e⟩:=I.lstM hH
 have aj:its.toArray.size*k.toNat<=sizeLine:=by rw[jm_,<-hl];exact hz
 have hcap:¬ its.toArray.size*k.toNat > (2 ^ 63-1) / 8:=by
  have:(sizeLine:Nat)<=(2 ^ 63-1) / 8:=by decide
  lia
 have hfit:¬ (!Builtin.List.listFitsIndex k)=true:=by
  rw[fitsIndex_both h1 h2]
  exact js_
 have gf:¬ Builtin.List.listTooLong (its.toArray.size*k.toNat)=true:=by
  rw[Nd aj]
  exact js_
 have dB:sr (fun x1 x2=>x1++x2) #[] (rp (if its.toArray.isEmpty=true then 0 else k.toNat) its.toArray)=(rp k.toNat its).flatten.toArray:=by
  have f0:∀m:Nat,sr (fun x1 x2=>x1++x2) #[] (rp m its.toArray)=(rp m its).flatten.toArray:=fun m=>by
   have:=foldl_rep its m []
   rw[xZ_]at this
   exact this
  rw[f0]
  cases its with
  |nil=>simp
  |cons a r'=>rw[if_neg (by simp)]
 refine wpAny_binaryOp_repeat_ref (T := "list") (U := "int") (by decide) ⟨_,e,rfl⟩ (fun s'=>typeIs_int s' k t) noFill_list_mul F.fills_int_mul zX_ repeat_list F.slot_int_index.lookup
  (xM_ zX_ (typeIs_int s k t) F.entry_int_rmul (F.args_int_rmul_2 _ _) (int___rmul___int_list k t l its.toArray n)
   ⟨e,rfl,⟨_,e,rfl⟩,xM_ F.slot_list_mul ⟨_,e,rfl⟩ F.entry_list_mul (F.args_list_mul_2 _ _) (AutoListH.list___mul___list_int_3 l its.toArray n k t hfit hcap gf) ⟨e,?_⟩⟩)
 rw[dB]
 exact⟨.ref _,_,I.lnew (t':=s.toks) (r.rep k.toNat) (by rw[len_rep,tT];exact hz),rfl,q _ I.fresh⟩
end
end L2
namespace Att
open PySem PySem.W PySem.Calls PyProof.Rows
def HQ   : ∀(ns:α2) (vs:List Value),WellAll P h vs (ns.map WData.int)->IntsAre vs ns:=by
 intro ns
 induction ns with
 |nil=>
  intro vs w
  rw[xY_]at w
  cases w
  exact .nil
 |cons n ns ih=>
  intro vs w
  rw[j0_]at w
  cases w with
  |cons a b=>
   cases a
   exact .cons _ _ (ih _ b)
def PH {l:OpenLaw}{n:Nat}(hn:l.most=some n){P:Params}{h:Heap}{args:List WData}{jF:List Value}
  (iz:l.row.toRowW.claim.pre args=true) (dj:WellAll P h jF args):
  ∃a vs ns,jF=[Value.ref a]/\args=[WData.list (ns.map WData.int)]/\h.get? a=some {cls:=.type "list",data:=.seq vs.toArray}/\IntsAre vs ns/\ns.length<=n:=by
 have hsh:WShape.hasAll [] args [.list .int]=true:=(pre_splitW iz).1
 have hc:l.pre.holds [] {args:=args}=true:=(pre_splitW iz).2
 obtain⟨d,r,rfl,h1,h2⟩:=hasAllW_cons hsh
 obtain rfl:=hasAllW_nil h2
 obtain⟨xs,rfl,h3⟩:=hasW_list h1
 obtain⟨ns,rfl⟩:=items_int h3
 have aj:ns.length<=n:=by
  unfold OpenLaw.pre at hc
  have h4:(WTm.not (.lt (.lit (.int (n:Int))) (.len (.arg 0)))).holds [] {args:=[.list (ns.map .int)]}=true:=by
   have h4:=(holds_andW hc).1
   rw[hn]at h4
   exact h4
  have h5:=condW_of h4 (w_not (w_lt w_lit (w_len_list (w_arg rfl))))
  rw[ja_]at h5
  refine uh fun q=>?_
  have q':(n:Int)<((ns.length:Nat):Int):=by lia
  first
   | (rw[qb_ q']at h5;exact absurd h5 (by decide))
   | (simp at h5;lia)
 cases dj with
 |cons w1 w2=>
  cases w2
  cases w1 with
  |list ho aA=>exact⟨_,_,ns,rfl,rfl,ho,HQ ns _ aA,aj⟩
def PJ (l:OpenLaw)(args:List WData):l.row.toRowW.claim.post args (.bool true) args=true:=
 postW_of (r:=l.row.toRowW) (X:=(true==true))
  (show WShape.has [] (.bool true) .bool=true by first|rfl|decide|simp[WShape.has,WShape.arms,WShape.armsAll])
  (show (WTm.eq .res (.lit (.bool true))).value [] {args:=args,res:=some (.bool true),after:=args}=some (.bool (true==true)) from w_eq_bool (w_res rfl) w_lit) rfl
def attach_call {l:OpenLaw}{n:Nat}{q:Program}{cL:List Str}{XP:(Str->α5)->Heap->Prop}{YP:World->Heap->Prop}{d:DefRec}
  (hn:l.most=some n) (mF:d.params.defaults=[])
  (call:∀(w:World) (s₀ s₁:Shared) (mg mb:Str->α5) (fa:Addr) (o:Obj) (pm cd bI:Value) (a:Addr) (vs:List Value) (ns:α2),
   Ground q cL [] XP w s₀ mg mb s₁.heap->YP w s₁.heap ->
   s₁.heap.get? fa=some o->o.data=.func (docDef d.name d.params d.body d.scope pm cd bI)->s₁.heap.CodeRec cd d.name->mg d.name=some (.ref fa) ->
   s₁.heap.get? a=some {cls:=.type "list",data:=.seq vs.toArray}->IntsAre vs ns->ns.length<=n->s₁.gens = #[] ->
   codeAny (model l.prog w) callerA (.call (.ref fa) ⟨[.ref a],[]⟩) (fun r s'=>r=.ok (.ret (.bool true))/\OldK s₁.heap s'.heap/\s'.os=s₁.os/\AllBare s'.gens) s₁):
  WalkO q cL XP YP l.row.toRowW d [] (fun f vs=>uK f vs):=by
 intro w s₀ s₁ mg mb G Y fa o pm cd bI dV kV ho hd b8 hD hmg hg args jF as iz hlay hrd dj hU
 obtain rfl:dV=.none:=Dflts.none hD mF
 obtain rfl:kV=.none:=Dflts.noKw hD
 obtain⟨a,vs,ns,rfl,rfl,bN,gg,aj⟩:=PH hn iz dj
 refine enter_call (codeAny_mono (call w s₀ s₁ mg mb fa o pm cd bI a vs ns G Y ho (fd_plain hd) b8 hmg bN gg aj hg) fun r s' hq=>?_)
 obtain⟨rfl,h2,h3,h4⟩:=hq
 exact⟨.inl ⟨.bool true,.bool true,[],rfl,fun _=>rfl,.bool true,PJ l _,fun _=>⟨rN,fun _ hm=>(nomatch hm)⟩⟩,h2,h3,h4⟩
end Att
namespace L2
open PySem PySem.Spec PyProof.Rows
def K3:∀{vs:List Value} {ns:α2},IntsAre vs ns->Vals (ns.map V.int) vs
 |_,_,.nil=>.nil
 |_,_,.cons n t h=>.cons ⟨t,rfl⟩ (K3 h)
def C4 (s:Stmt):Arguments:=match s with
 |.FunctionDef _ a _ _ _ _ _ _ _ _=>a
 |_=>{posonlyargs:=[],args:=[],vararg:=none,kwonlyargs:=[],kw_defaults:=[],kwarg:=none,defaults:=[]}
def Cz (s:Stmt):List Stmt:=match s with
 |.FunctionDef _ _ b _ _ _ _ _ _ _=>b
 |_=>[]
def Al (s:Stmt):Scope:=match s with
 |.FunctionDef _ _ _ _ _ _ sc _ _ _=>sc
 |_=>{kind:=.function,names:=[],isGenerator:=false,isCoroutine:=false}
abbrev CX0:CXT:=fun _ _ _ _ _ _=>False
abbrev E0:XK:=fun _ _ _=>False
def AK  : Nb CX0 X E0:=fun _ _ _ _ _ _ _ h=>h.elim
structure Fun (K:α3)(x qual:Str)(st:Stmt)(f:Addr)(fd:α6):Prop where
 ex:∃(oc:Value) (od:Option Addr) (kV bI pm:Value) (an:Option Addr) (ay ct:Value) (f6:Array (α5)),
  fd=fnOf x qual (C4 st) (Cz st) (Al st) .none kV bI pm an ay ct/\K.lookup f=some ⟨oc,od,.func fd,f6⟩/\codeIn K ay qual=true
 kp:keepIn K (.ref f)=true
section
variable {P:Program} {w:World} {K:α3} {mg:Str->α5} {base:Heap}
def Fun.ok  {st:Stmt}      (F:Fun K x qual st f fd)(S:FnScope N ps (Al st))(len:∀vs H Q E,sp vs H Q E->vs.length=ps.length)
  (dA:∀(ay:Value) (A:Around) (outer:List Env) (s:Shared) (H:Hp) (vs:List V) (Q:VK) (E:XK),Room k (A.deeper (envOfC qual (Al st) s.heap.objs.size f ay))->sp vs H Q E ->
   ∃t,PSs (cxOf CX0 P w K mg base N qual (Al st) f ay A outer s H E).nox (Cz st) t/\t {nx:=fun _ H'=>Q .non H',rt:=Q} (start N vs) H):FnOk P w K mg base CX0 (k+1) f fd ps sp:=by
 obtain⟨oc,od,kV,bI,pm,an,ay,ct,f6,rfl,lk,b8⟩:=F.ex
 refine VP lk b8 S len fun A outer s H vs Q E hr fb=>?_
 obtain⟨t,h,q⟩:=dA ay A outer s H vs Q E hr fb
 exact⟨t,h.nox,q⟩
def Fun.binds  {st:Stmt}    (F:Fun K x qual st f fd)
  (h:∀(kV bI pm:Value) (an:Option Addr) (ay ct:Value) (us:List Value),us.length=ps.length->bindArgs (fnOf x qual (C4 st) (Cz st) (Al st) .none kV bI pm an ay ct) ⟨us,[]⟩=pure (ps.zip us)):Binds K fd ps []:=by
 obtain⟨oc,od,kV,bI,pm,an,ay,ct,f6,rfl,lk,b8⟩:=F.ex
 exact .all (h kV bI pm an ay ct)
def fun_mk  {st:Stmt}     {kV bI pm ay ct:Value}(l:K.lookup f=some ⟨oc,od,.func (fnOf x qual (C4 st) (Cz st) (Al st) .none kV bI pm an ay ct),f6⟩)
  (c:codeIn K ay qual=true) (k:keepIn K (.ref f)=true):Fun K x qual st f (fnOf x qual (C4 st) (Cz st) (Al st) .none kV bI pm an ay ct):=⟨⟨oc,od,kV,bI,pm,an,ay,ct,f6,rfl,l,c⟩,k⟩
end
def K4   (hr:Room k A):A.units+1<cLine:=tM (Nat.add_le_add_left (by decide:1<=64) _) hr.units
section
variable {X:Cx}
def pv (i:Nat)   (hN:X.N[i]?=some x:=by rfl)(hv:Vis X.env.scope x:=by first|exact rC rfl|exact rG (rC rfl)|exact rG (rG rfl))(hd:(x==("__debug__" : Str))=false:=by decide)
  (b8:(x==("__classdict__" : Str))=false:=by decide):PE X (.Name x pos) (tVar i):=Vx hN hv hd b8
end
def ite2 {c A B:Prop}[Decidable c](h1:c->A)(h2:¬ c->B):if c then A else B:=by
 by_cases h:c
 ·rw[if_pos h]
  exact h1 h
 ·rw[if_neg h]
  exact h2 h
def Same (H H':Hp):Prop:=∀b o,H b=some o->H' b=some o
def Same.refl (H:Hp):Same H H:=fun _ _ h=>h
def Same.trans {H H1 H2:Hp}(a:Same H H1)(b:Same H1 H2):Same H H2:=fun c o h=>b c o (a c o h)
def Same.free  (e:Same H H')  (h:H' l=rW):H l=rW:=by
 cases q:H l with
 |none=>rfl
 |some o=>
  rw[e l o q]at h
  cases h
def Same.seq {K:α3}    (e:Same H H')(h:SqL K H a xs):SqL K H' a xs:=by
 rcases h with (h|⟨o,h⟩)|h
 ·exact .inl (.inl (e _ _ h))
 ·exact .inl (.inr ⟨o,e _ _ h⟩)
 ·exact .inr h
end L2
set_option maxHeartbeats 4000000
namespace L2
open PySem PySem.Spec PyProof.Rows
section
variable {κ:Type} [DecidableEq κ]
def valV (kvs:List (κ×V))(k:κ):Option V:=(kvs.find? fun kv=>decide (kv.1=k)).map (·.2)
def putK (kvs:List (κ×V))(k:κ)(v:V):List (κ×V):=
 if (kvs.any fun kv=>decide (kv.1=k))=true then kvs.map (fun kv=>if kv.1=k then (kv.1,v) else kv) else kvs++[(k,v)]
def Hn {p:κ×V}{r:List (κ×V)}{k:κ}(e:p.1=k):valV (p::r) k=some p.2:=by simp[valV,xp_,e]
def Ho {p:κ×V}{r:List (κ×V)}{k:κ}(e:¬ p.1=k):valV (p::r) k=valV r k:=by simp[valV,xp_,e]
def Ds (k:κ):∀kvs:List (κ×V),(kvs.any fun kv=>decide (kv.1=k))=(valV kvs k).isSome
 |[]=>rfl
 |p::r=>by
  rw[zR_]
  by_cases e:p.1=k
  ·simp only[Hn e,qb_ e,Bool.true_or,zj_]
  ·rw[Ho e,qk_ e,Bool.false_or];exact Ds k r
def Dt (kvs:List (κ×V))(k:κ)(v:V):(putK kvs k v).length<=kvs.length+1:=by
 unfold putK
 split
 ·rw[ja_];lia
 ·rw[jn_,jT_,qt_];lia
def RO {kvs:List (κ×V)}{k:κ}(v:V)(h:valV kvs k=none):putK kvs k v=kvs++[(k,v)]:=by
 unfold putK
 rw[Ds,h]
 exact if_neg (by decide)
def RelO.isSome_eq   (r:RelO o u):o.isSome=u.isSome:=by
 cases o with
 |none=>cases u with
  |none=>rfl
  |some _=>exact (show False from r).elim
 |some _=>cases u with
  |none=>exact (show False from r).elim
  |some _=>rfl
def RelO.getD     (r:RelO o u)(rd:RelV d d'):RelV (o.getD d) (u.getD d'):=by
 cases o with
 |none=>cases u with
  |none=>exact rd
  |some _=>exact (show False from r).elim
 |some _=>cases u with
  |none=>exact (show False from r).elim
  |some _=>exact r
def KV.val   (r:KV kvs vs)(k:κ):RelO (valV kvs k) (valueAt vs k):=by
 unfold KV at r
 induction r with
 |nil=>exact rA
 |@cons p q ps qs h t ih=>
  obtain⟨h1,h2⟩:=h
  by_cases e:p.1=k
  ·have e':q.1=k:=h1.symm.trans e
   have b:valueAt (q::qs) k=some q.2:=by simp[valueAt,xp_,e']
   rw[Hn e,b];exact h2
  ·have e':¬ q.1=k:=fun z=>e (h1.trans z)
   have b:valueAt (q::qs) k=valueAt qs k:=by simp[valueAt,xp_,e']
   rw[Ho e,b];exact ih
def KV.any   (r:KV kvs vs)(k:κ):(kvs.any fun kv=>decide (kv.1=k))=vs.any fun kv=>decide (kv.1=k):=by
 unfold KV at r
 induction r with
 |nil=>rfl
 |cons h t ih=>rw[zR_,zR_,ih,h.1]
def KV.repl   (r:KV kvs vs)(k:κ)   (ry:RelV y u):
  KV (kvs.map fun kv=>if kv.1=k then (kv.1,y) else kv) (vs.map fun kv=>if kv.1=k then (kv.1,u) else kv):=by
 unfold KV at r ⊢
 induction r with
 |nil=>exact .nil
 |@cons p q ps qs h t ih=>
  rw[j0_,j0_]
  refine .cons ?_ ih
  obtain⟨h1,h2⟩:=h
  by_cases e:p.1=k
  ·rw[if_pos e,if_pos (h1.symm.trans e)];exact⟨h1,ry⟩
  ·rw[if_neg e,if_neg (fun z=>e (h1.trans z))];exact⟨h1,h2⟩
def KV.put   (r:KV kvs vs)(k:κ)   (ry:RelV y u):KV (putK kvs k y) (stored vs k u):=by
 unfold putK stored
 rw[r.any k]
 by_cases e:(vs.any fun kv=>decide (kv.1=k))=true
 ·rw[if_pos e,if_pos e];exact r.repl k ry
 ·rw[if_neg e,if_neg e];exact Paired.snoc r ⟨rfl,ry⟩
def KV.keys {kvs:List (κ×V)}{vs:List (κ×Value)}(r:KV kvs vs):kvs.map (·.1)=vs.map (·.1):=by
 unfold KV at r
 induction r with
 |nil=>rfl
 |cons h t ih=>rw[j0_,j0_,ih,h.1]
def KV.length {kvs:List (κ×V)}{vs:List (κ×Value)}(r:KV kvs vs):kvs.length=vs.length:=Paired.length r
end
def Ma     (r:RelV (kV k) u):(Bi P w).is k u=true:=by
 cases k with
 |inl i=>obtain⟨t,e⟩:=(show ∃t,u=Value.int i t from r);subst e;exact L4 P w i t
 |inr x=>obtain⟨t,e⟩:=(show ∃t,u=Value.str x t from r);subst e;exact L5 P w x t
def K5 {P:Program}{w:World}:∀{ks:List Key} {us:List Value},Vals (ks.map kV) us->ItemsAre (Bi P w) ks us
 |[],_,r=>by rw[xY_]at r;cases r;exact .nil
 |k::ks,_,r=>by
  rw[j0_]at r
  cases r with
  |cons h t=>exact .cons (Ma h) (K5 t)
abbrev KT (H:Hp):List (List Key×V)->List (List Key×Addr×Value)->Prop:=Paired fun p q=>p.1=q.1/\H q.2.1=some (.tup (p.1.map kV))/\RelV p.2 q.2.2
def KT.val    (r:KT H kvs xs)(k:List Key):RelO (valV kvs k) ((atKey xs k).map (·.2)):=by
 induction r with
 |nil=>exact rA
 |@cons p q ps qs h t ih=>
  obtain⟨h1,_,h2⟩:=h
  by_cases e:p.1=k
  ·have e':q.1=k:=h1.symm.trans e
   have b:atKey (q::qs) k=some q.2:=by simp[atKey,xp_,e']
   rw[Hn e,b];exact h2
  ·have e':¬ q.1=k:=fun z=>e (h1.trans z)
   have b:atKey (q::qs) k=atKey qs k:=by simp[atKey,xp_,e']
   rw[Ho e,b];exact ih
def KT.repl    (r:KT H kvs xs)(k:List Key)   (ry:RelV y u):
  KT H (kvs.map fun kv=>if kv.1=k then (kv.1,y) else kv) (xs.map (putAt k u)):=by
 induction r with
 |nil=>exact .nil
 |@cons p q ps qs h t ih=>
  rw[j0_,j0_]
  refine .cons ?_ ih
  obtain⟨h1,h2,h3⟩:=h
  unfold putAt
  by_cases e:p.1=k
  ·rw[if_pos e,if_pos (h1.symm.trans e)];exact⟨h1,h2,ry⟩
  ·rw[if_neg e,if_neg (fun z=>e (h1.trans z))];exact⟨h1,h2,h3⟩
def KT.put    (r:KT H kvs xs)(k:List Key)    (hb:H b=some (.tup (k.map kV)))(ry:RelV y u):
  KT H (putK kvs k y) (storedH xs k b u):=by
 have e:(kvs.any fun kv=>decide (kv.1=k))=(atKey xs k).isSome:=by
  rw[Ds,(r.val k).isSome_eq,tU]
 unfold putK storedH
 rw[e]
 by_cases q:(atKey xs k).isSome=true
 ·rw[if_pos q,if_pos q];exact r.repl k ry
 ·rw[if_neg q,if_neg q];exact Paired.snoc r ⟨rfl,hb,ry⟩
def KT.keeps    (r:KT H kvs xs)(ht:∀b ys,H b=some (.tup ys)->H' b=some (.tup ys)):KT H' kvs xs:=
 Paired.mapP r fun _ _ z=>⟨z.1,ht _ _ z.2.1,z.2.2⟩
section
variable {P:Program} {w:World} {H:Hp} {h:Heap} {a:Addr}
def Uw  (ok:HOk P w H h)(e:Rd H a u):Bj P w H h a u:=e.ok ok
def Mb  (ok:HOk P w H h)(e:Rd H a (.dK kvs)):kvs.length<=sizeLine/\(a==sysModules)=false/\∃vs,KV kvs vs/\h.DictOf (Bi P w) a vs:=
 show Bj P w H h a (.dK kvs) from Uw ok e
def RP  (ok:HOk P w H h)(e:H a=some (.dK kvs)):kvs.length<=sizeLine/\(a==sysModules)=false/\∃vs,KV kvs vs/\h.DictOf (Bi P w) a vs:=Mb ok (.inl e)
def K6  (ok:HOk P w H h)(e:H a=some (.tup (ks.map kV))):(tupleKind (Bi P w)).is h ks a:=by
 obtain⟨_,its,r,o,h1,h2,n,h3⟩:=(show Bj P w H h a (.tup (ks.map kV)) from ok a _ e)
 exact⟨o,its.toArray,n,h1,h2,h3,by simpa using K5 r⟩
def Od  (ok:HOk P w H h)(e:Rd H a (.dT kvs)):kvs.length<=sizeLine/\(a==sysModules)=false /\
  ∃xs,KT H kvs xs/\h.DictOfH (tupleKind (Bi P w)) a xs:=by
 obtain⟨z,y,xs,r,o,es,ep,h1,h2,h3,h4,h5⟩:=(show Bj P w H h a (.dT kvs) from Uw ok e)
 refine⟨z,y,xs,r,o,es,ep,h1,h2,h3,h4,fun x hx=>?_,h5⟩
 have all:∀{l:List (List Key×V)} {m:List (List Key×Addr×Value)},KT H l m->∀x∈m,(tupleKind (Bi P w)).is h x.1 x.2.1:=by
  intro l m q
  induction q with
  |nil=>intro x hx;exact nomatch hx
  |@cons p q ps qs hq t ih=>
   intro x hx
   rcases jD_.mp hx with e|hx
   ·subst e
    exact K6 ok (by rw[<-hq.1];exact hq.2.1)
   ·exact ih x hx
 exact all r x hx
def VY  (ok:HOk P w H h)(e:H a=some (.dT kvs)):kvs.length<=sizeLine/\(a==sysModules)=false /\
  ∃xs,KT H kvs xs/\h.DictOfH (tupleKind (Bi P w)) a xs:=Od ok (.inl e)
end
def DGet (H:Hp)(a:Addr)(y:V)(r:Option V):Prop:=
 (∃kvs k,Rd H a (.dK kvs)/\y=kV k/\r=valV kvs k) \/ ∃kvs k b,Rd H a (.dT kvs)/\y=.ref b/\H b=some (.tup (k.map kV))/\r=valV kvs k
def DPut (H:Hp)(a:Addr)(y v:V)(H':Hp):Prop:=
 (∃kvs k,H a=some (.dK kvs)/\y=kV k/\kvs.length<sizeLine/\H'=upd H a (.dK (putK kvs k v))) \/
 ∃kvs k b,H a=some (.dT kvs)/\y=.ref b/\H b=some (.tup (k.map kV))/\kvs.length<sizeLine/\H'=upd H a (.dT (putK kvs k v))
def DGet.k {H:Hp}{a:Addr}{kvs:List (Key×V)}{k:Key}(e:H a=some (.dK kvs)):DGet H a (kV k) (valV kvs k):=.inl ⟨kvs,k,.inl e,rfl,rfl⟩
def DGet.t {H:Hp}{a b:Addr}{kvs:List (List Key×V)}{k:List Key}(e:H a=some (.dT kvs))(eb:H b=some (.tup (k.map kV))):DGet H a (.ref b) (valV kvs k):=.inr ⟨kvs,k,b,.inl e,rfl,eb,rfl⟩
def DPut.k {H:Hp}{a:Addr}{kvs:List (Key×V)}{k:Key}{v:V}(e:H a=some (.dK kvs))(hl:kvs.length<sizeLine):DPut H a (kV k) v (upd H a (.dK (putK kvs k v))):=.inl ⟨kvs,k,e,rfl,hl,rfl⟩
def DPut.t {H:Hp}{a b:Addr}{kvs:List (List Key×V)}{k:List Key}{v:V}(e:H a=some (.dT kvs))(eb:H b=some (.tup (k.map kV)))(hl:kvs.length<sizeLine):
  DPut H a (.ref b) v (upd H a (.dT (putK kvs k v))):=.inr ⟨kvs,k,b,e,rfl,eb,hl,rfl⟩
section
variable {X:Cx} {ae:α7} {σ:St} {H:Hp} {s:Shared} {a:Addr} {y v:V} {u r:Value} {o:Option V} {A:Around} {E:Value->Shared->Prop}
def Inv.big (I:Inv X ae σ H s):sysModules<s.heap.objs.size:=by
 have h:mainGlobals<s.heap.objs.size:=(I.mod.glob.keeps I.bk).lt
 exact xS_ (by decide) h
def PL  (hu:A.units+1<cLine)(I:Inv X ae σ H s)(g:DGet H a y (some v))(ry:RelV y u)(h:∀w' s',Inv X ae σ H s'->RelV v w'->Q w' s'):
  wpAny (model X.prog X.w) A (getItem (.ref a) u) Q E s:=by
 rcases g with ⟨kvs,k,e,ey,l⟩|⟨kvs,k,b,e,ey,eb,l⟩
 ·subst ey
  obtain⟨z,hd,vs,bB,dd⟩:=Mb I.hok e
  obtain⟨w',hw,ff⟩:=RelO.some_of (v:=v) (o:=valueAt vs k) (by rw[l];exact bB.val k)
  exact wpAny_getItem_of (Ma ry) dd.mapOf hw (h w' _ (I.tok _) ff)
 ·subst ey
  cases (show u=Value.ref b from ry)
  obtain⟨z,hd,xs,bB,dd⟩:=Od I.hok e
  obtain⟨w',hw,ff⟩:=RelO.some_of (v:=v) (o:=(atKey xs k).map (·.2)) (by rw[l];exact bB.val k)
  obtain⟨p,hp,aY⟩:=Option.map_eq_some_iff.mp hw
  refine wpAny_getItem_heap (zk_ hu) (K6 I.hok eb) dd hp ?_
  rw[aY]
  exact h w' _ (I.tok _) ff
def Ux  (hu:A.units+1<cLine)(I:Inv X ae σ H s)(g:DGet H a y o)(ry:RelV y u)(h:∀s',Inv X ae σ H s'->Q (.bool (!o.isSome)) s'):
  wpAny (model X.prog X.w) A (compareOp .NotIn u (.ref a)) Q E s:=by
 rcases g with ⟨kvs,k,e,ey,l⟩|⟨kvs,k,b,e,ey,eb,l⟩
 ·subst ey
  obtain⟨z,hd,vs,bB,dd⟩:=Mb I.hok e
  refine wpAny_notIn_of (Ma ry) hd dd.mapOf ?_
  rw[<-(bB.val k).isSome_eq,<-l]
  exact h _ (I.tok _)
 ·subst ey
  cases (show u=Value.ref b from ry)
  obtain⟨z,hd,xs,bB,dd⟩:=Od I.hok e
  refine wpAny_notIn_heap (zk_ hu) (K6 I.hok eb) hd dd ?_
  have q:=(bB.val k).isSome_eq
  rw[tU]at q
  rw[<-q,<-l]
  exact h _ (I.tok _)
def J2    (I:Inv X ae σ H s)(mu:Mut (H a))(hs:Heap.SameBut a s.heap h')(he:∃q,h'.get? a=some q)(new:Bj X.prog X.w (upd H a ob) h' a ob):
  Inv X ae σ (upd H a ob) {s with heap:=h',toks:=t' }:=
 I.write (x:=a) (e:=a) mu (.inl rfl) (fun b q hb z=>(hs.2 b hb).trans z) he new
def PM       (z:kvs.length<=sizeLine)(hd:(a==sysModules)=false)(bB:KV kvs vs)(dd:h'.DictOf (Bi P w) a vs):
  Bj P w H' h' a (.dK kvs):=⟨z,hd,vs,bB,dd⟩
def PN   (hu:A.units+1<cLine)(I:Inv X ae σ H s)(g:DPut H a y v H')(ry:RelV y u)(rv:RelV v r)(h:∀s',Inv X ae σ H' s'->Q () s'):
  wpAny (model X.prog X.w) A (setItem (.ref a) u r) Q E s:=by
 rcases g with ⟨kvs,k,e,ey,l,eH⟩|⟨kvs,k,b,e,ey,eb,l,eH⟩
 ·subst ey eH
  obtain⟨z,hd,vs,bB,dd⟩:=RP I.hok e
  have hz:vs.length<=sizeLine:=by rw[<-bB.length];exact z
  have hl:(putK kvs k v).length<=sizeLine:=by have:=Dt kvs k v;lia
  refine wpAny_setItem_pairs (hsz:=hz) (Ma ry) dd fun h' hV hs=>h _ ?_
  have he:∃q,h'.get? a=some q:=let ⟨q,_,_,hq,_⟩:=hV;⟨q,hq⟩
  exact J2 I (by rw[e];exact rA) hs he (PM hl hd (bB.put k rv) hV)
 ·subst ey eH
  cases (show u=Value.ref b from ry)
  obtain⟨z,hd,xs,bB,dd⟩:=VY I.hok e
  have hz:xs.length<=sizeLine:=by rw[<-Paired.length bB];exact z
  have hl:(putK kvs k v).length<=sizeLine:=by have:=Dt kvs k v;lia
  refine wpAny_setItem_heap (hsz:=hz) (zk_ hu) (K6 I.hok eb) dd fun h' hV hs=>h _ ?_
  obtain⟨q,es,ep,hq,h2,h3,h4,_,h5⟩:=hV
  refine J2 I (by rw[e];exact rA) hs ⟨q,hq⟩ ⟨hl,hd,_,(bB.put k eb rv).keeps fun c ys ec=>?_,q,es,ep,hq,h2,h3,h4,h5⟩
  rw[Aj (Vw ec e (fun z=>nomatch z))]
  exact ec
end
section
variable {X:Cx} {ae:α7} {σ:St} {H:Hp} {s:Shared} {a:Addr} {kvs:List (Key×V)} {k:Key} {u:Value} {A:Around} {E:Value->Shared->Prop}
def Xd  (I:Inv X ae σ H s)(e:Rd H a (.dK kvs))(h:∀t s',Inv X ae σ H s'->Q (.int kvs.length t) s'):wpAny (model X.prog X.w) A (call (.builtin "len") [.ref a]) Q E s:=by
 obtain⟨z,hd,vs,bB,dd⟩:=Mb I.hok e
 refine call_len_dict hd dd (by rw[<-bB.length];rw[sizeLine_eq]at z;lia) ?_
 rw[<-bB.length]
 exact h _ _ (I.tok _)
end
def NoSl (i:Expr):Prop:=∀ov iv,subscripted i false ov iv=operate [ov,iv] (getItem ov iv)
def Uy         {T id:String}
  (hl:typeLookup (.type T) "__getitem__"=pure (some (.builtin id))) (hs:NoSl br)
  (h:wpAny (model prog w) A (eval value env) (fun o s₁=>wpAny (model prog w) A (eval br env) (fun i bA=>bA.TypeIs o T/\wpAny (model prog w) A (getItem o i) Q E bA) E s₁) E s):
  wpAny (model prog w) A (eval (.Subscript value br pos) env) Q E s:=by
 refine Subscript_ (qB_ h (fun o s₁ h₁=>qB_ h₁ (fun i bA aZ=>?_) fun _ _ x=>x) fun _ _ x=>x)
 obtain⟨hT,aZ⟩:=aZ
 unfold subscriptTail
 refine jb_ ?_
 rw[getitemInPython_of_ne hT.not_modules]
 refine jb_ (wpAny_specialOf hT hl ?_)
 have fin:wpAny (model prog w) A (subscripted br false o i) (fun r aX=>wpAny (model prog w) A (letTemporaryGo value o r >>= fun _=>pure r) Q E aX) E bA:=by
  rw[hs o i]
  exact wpAny_operating (qB_ aZ (fun r aX bt=>jb_ (wpAny_letTemporaryGo (jo_ bt))) fun _ _ x=>x)
 first
  | exact jo_ (jb_ fin)
  | exact jb_ (jo_ (jb_ fin))
  | exact jb_ fin
def Mc         (I:Inv X ae σ H s)(g:DGet H a y o):s.TypeIs (.ref a) "dict" := by
 rcases g with ⟨kvs,k,e,_,_⟩|⟨kvs,k,b,e,_,_,_⟩
 ·obtain⟨_,_,vs,_,dd⟩:=Mb I.hok e
  exact dd.typeIs
 ·obtain⟨_,_,xs,_,dd⟩:=Od I.hok e
  exact dd.typeIs
def VZ (td ty:TE):TE:=fun σ H Q=>td σ H fun x H1=>ty σ H1 fun y H2=>∃a v,x=.ref a/\DGet H2 a y (some v)/\Q v H2
def PQ (ty td:TE):TE:=fun σ H Q=>ty σ H fun y H1=>td σ H1 fun x H2=>∃a o,x=.ref a/\DGet H2 a y o/\Q (.bl (!o.isSome)) H2
def V0 (td ty tv:TE):TS:=fun D σ H=>tv σ H fun v H1=>td σ H1 fun x H2=>ty σ H2 fun y H3=>∃a H4,x=.ref a/\DPut H3 a y v H4/\D.nx σ H4
section
variable {X:Cx} {o i e value:Expr} {pos cD fg:Pos} {td ty tv:TE}
def PR (hu:X.A.units+1<cLine)(ho:PE X o td)(hi:PE X i ty)(hs:NoSl i):PE X (.Subscript o i pos) (VZ td ty):=by
 intro ae s σ H Q I h
 refine Uy PySem.F.slot_dict_getitem.lookup hs (thn (ho ae s σ H _ I h) fun u s1 ⟨x,H1,I1,rx,q1⟩=>thn (hi ae s1 σ H1 _ I1 q1) fun iv s2 ⟨y,H2,I2,ry,a,v,ex,g,q2⟩=>?_)
 subst ex
 obtain rfl:u=Value.ref a:=rx
 exact⟨Mc I2 g,PL hu I2 g ry fun w' s3 I3 ff=>⟨v,H2,I3,ff,q2⟩⟩
def K7 (hu:X.A.units+1<cLine)(hi:PE X i ty)(ho:PE X o td):PC X .NotIn i o (PQ ty td):=by
 intro ae s σ H Q I h
 refine thn (hi ae s σ H _ I h) fun iv s1 ⟨y,H1,I1,ry,q1⟩=>thn (ho ae s1 σ H1 _ I1 q1) fun u s2 ⟨x,H2,I2,rx,a,ov,ex,g,q2⟩=>?_
 subst ex
 obtain rfl:u=Value.ref a:=rx
 exact Ux hu I2 g ry fun s3 I3=>⟨.bl (!ov.isSome),H2,I3,rfl,q2⟩
def Md (hu:X.A.units+1<cLine)(ho:PE X o td)(hi:PE X i ty)(hv:PE X value tv)(hs:swapsWith value (some (.Subscript o i cD)) pos.line X.env=pure false):
  PS X (.Assign [.Subscript o i cD] value pos) (V0 td ty tv):=by
 intro ae s σ H D I h
 refine wpAny_Assign_Subscript (thn (hv ae s σ H _ I h) fun r s1 ⟨v,H1,I1,rv,q1⟩=>thn (ho ae s1 σ H1 _ I1 q1) fun u s2 ⟨x,H2,I2,rx,q2⟩=>thn (hi ae s2 σ H2 _ I2 q2) fun iv s3 ⟨y,H3,I3,ry,a,H4,ex,g,q3⟩=>?_) hs
 subst ex
 obtain rfl:u=Value.ref a:=rx
 exact PN hu I3 g ry rv fun s4 I4=>⟨σ,H4,I4,q3⟩
end
def Nf    (h:Heap)(hb:sysModules<h.objs.size):Bj P w H (h.push {cls:=.type "dict",data:=.dict #[]}) h.objs.size (.dK []):=
 ⟨jY_ _,zU_.mpr (qs_ (jM_ hb)),[],.nil,Heap.DictOf.new h⟩
def RQ    (h:Heap)(hb:sysModules<h.objs.size):Bj P w H (h.push {cls:=.type "dict",data:=.dict #[]}) h.objs.size (.dT []):=
 ⟨jY_ _,zU_.mpr (qs_ (jM_ hb)),[],.nil,_,#[],0,jx_ _ rfl,⟨rfl,rfl,rfl⟩,rfl,rfl,s9⟩
def PU:TE:=fun _ H Q=>∀p,H p=none->Q (.ref p) (upd H p (.dK []))
def PV:TE:=fun _ H Q=>∀p,H p=none->Q (.ref p) (upd H p (.dT []))
section
variable {X:Cx} {pos:Pos}
def Ng:PE X (.Dict [] [] pos) PU:=fun ae s σ H Q I h=>
 wpAny_Dict_empty ⟨.ref s.heap.objs.size,_,I.laid (a:=s.heap.objs.size) (o:=.dK []) (t':=s.toks) (fun _ _ q=>jf_ _ q) (ji_ _) (Nf s.heap I.big),rfl,h _ (I.hok.fresh (ji_ _))⟩
def Nh:PE X (.Dict [] [] pos) PV:=fun ae s σ H Q I h=>
 wpAny_Dict_empty ⟨.ref s.heap.objs.size,_,I.laid (a:=s.heap.objs.size) (o:=.dT []) (t':=s.toks) (fun _ _ q=>jf_ _ q) (ji_ _) (RQ s.heap I.big),rfl,h _ (I.hok.fresh (ji_ _))⟩
end
def HR:List (TE×TE)->St->Hp->(List (V×V)->Hp->Prop)->Prop
 |[],_,H,Q=>Q [] H
 | (tk,tv)::r,σ,H,Q=>tk σ H fun x H1=>tv σ H1 fun y H2=>HR r σ H2 fun ps H3=>Q ((x,y)::ps) H3
abbrev VV:List (V×V)->List (Value×Value)->Prop:=Paired fun p q=>RelV p.1 q.1/\RelV p.2 q.2
def PPs (X:Cx)(pos:Pos)(keys:List (Option Expr))(cQ:List Expr)(aF:List (TE×TE)):Prop:=
 ∀(ae:α7) (s:Shared) (σ:St) (H:Hp) (Q:List (V×V)->Hp->Prop),Inv X ae σ H s->HR aF σ H Q ->
  wpAny (model X.prog X.w) X.A (evalPairs (pairTrees keys cQ X.env pos)) (fun vs s'=>∃ps H',Inv X ae σ H' s'/\VV ps vs/\Q ps H') X.xe s
def Uz   : PPs X pos [] [] []:=fun ae s σ H Q I h=>pairTrees_nil_walk ⟨[],H,I,.nil,h⟩
def RS        (hk:PE X k tk)(hv:PE X v tv)(hr:PPs X pos ks vs aF):
  PPs X pos (some k::ks) (v::vs) ((tk,tv)::aF):=fun ae s σ H Q I h=>
 pairTrees_cons_walk (thn (hk ae s σ H _ I h) fun u s1 ⟨x,H1,I1,rx,q1⟩=>thn (hv ae s1 σ H1 _ I1 q1) fun w2 s2 ⟨y,H2,I2,ry,q2⟩ =>
  thn (hr ae s2 σ H2 _ I2 q2) fun ws s3 ⟨ps,H3,I3,bB,q3⟩=>⟨(x,y)::ps,H3,I3,.cons ⟨rx,ry⟩ bB,q3⟩)
def GN (kvs more:List (Key×V)):List (Key×V):=more.foldl (fun ah kv=>putK ah kv.1 kv.2) kvs
def KV.merge:∀{more:List (Key×V)} {rs:List (Key×Value)} {kvs:List (Key×V)} {vs:List (Key×Value)},KV more rs->KV kvs vs->KV (GN kvs more) (merged vs rs):=by
 intro more rs kvs vs r
 unfold KV at r
 induction r generalizing kvs vs with
 |nil=>intro q;exact q
 |@cons p q ps qs h t ih=>
  intro r0
  have e:KV (putK kvs p.1 p.2) (stored vs q.1 q.2):=by
   have:=r0.put p.1 h.2
   rw[<-h.1];exact this
  exact ih e
def FH:∀(more kvs:List (Key×V)),(GN kvs more).length<=kvs.length+more.length
 |[],kvs=>by show kvs.length<=kvs.length+0;lia
 |p::r,kvs=>by
  have h1:=FH r (putK kvs p.1 p.2)
  have h2:=Dt kvs p.1 p.2
  show (GN (putK kvs p.1 p.2) r).length<=_
  rw[jT_];lia
def Jm {P:Program}{w:World}:∀{kvs:List (Key×V)} {ws:List (Value×Value)},VV (kvs.map fun kv=>(kV kv.1,kv.2)) ws->∃rs,Carries (Bi P w) ws rs/\KV kvs rs
 |[],_,r=>by rw[xY_]at r;cases r;exact⟨[],rA,.nil⟩
 |p::kvs,_,r=>by
  rw[j0_]at r
  cases r with
  |@cons a b as bs h t=>
   obtain⟨rs,c,q⟩:=Jm (P:=P) (w:=w) t
   obtain⟨b1,b2⟩:=b
   exact⟨(p.1,b2)::rs,⟨Ma h.1,rfl,c⟩,.cons ⟨rfl,h.2⟩ q⟩
def UA (aF:List (TE×TE)):TE:=fun σ H Q=>∀p,H p=none->HR aF σ (upd H p (.dK [])) fun ps H2=>H2 p=some (.dK [])/\∃kvs:List (Key×V),ps=kvs.map (fun kv=>(kV kv.1,kv.2))/\kvs.length<=15/\Q (.ref p) (upd H2 p (.dK (GN [] kvs)))
def UB      (h:PPs X pos keys cQ aF)(aA:keys.all (·.isSome)=true)(hl:keys.length=cQ.length)(h0:keys ≠ [])
  (h15:keys.length<=15):PE X (.Dict keys cQ pos) (UA aF):=by
 intro ae s σ H Q I q
 have hn:=I.hok.fresh (ji_ s.heap.objs.size)
 have I1:=I.laid (a:=s.heap.objs.size) (o:=.dK []) (h':=s.heap.push {cls:=.type "dict",data:=.dict #[]}) (t':=s.toks) (fun _ _ q=>jf_ _ q) (ji_ _) (Nf s.heap I.big)
 refine wpAny_Dict_walk (knd:=Bi X.prog X.w) aA hl h0 h15 (thn (h ae _ σ _ _ I1 (q _ hn)) fun ws s2 ⟨ps,H2,I2,bB,e,kvs,ep,lk,q2⟩=>?_)
 subst ep
 obtain⟨rs,c,rk⟩:=Jm (P:=X.prog) (w:=X.w) bB
 obtain⟨z,hd,vs0,r0,dd⟩:=RP I2.hok e
 cases r0
 refine⟨rs,c,dd,fun h' hV hs=>⟨.ref s.heap.objs.size,_,?_,rfl,q2⟩⟩
 have hz:(GN [] kvs).length<=sizeLine:=by
  have h1:=FH kvs []
  rw[qt_]at h1
  rw[sizeLine_eq];lia
 have he:∃q,h'.get? s.heap.objs.size=some q:=let ⟨q,_,_,hq,_⟩:=hV;⟨q,hq⟩
 exact J2 I2 (by rw[e];exact rA) hs he (PM hz hd (rk.merge .nil) hV)
structure M1 (X:Cx)(o:Expr)(m:Str)(bH:Pos)(e:Expr)(aH:Pos):Prop where
 base:attributeBase o m X.env (eval o X.env)=eval o X.env
 few:((backTo aH (starEach [e] X.env)).all (fun x => !x.1)&&(backToKw aH (keywordEach [] X.env)).all (fun x=>x.1.isSome)
  && decide (([e]:List Expr).length+([]:List Keyword).length+(if ([]:List Keyword).isEmpty then 0 else 1)<30))=true
 line:(bH.endLine==aH.line)=true
 trees:backTo aH (starEach [e] X.env)=[(false,eval e X.env)]
structure M2 (X:Cx)(o:Expr)(m:Str)(bH:Pos)(e f:Expr)(aH:Pos):Prop where
 base:attributeBase o m X.env (eval o X.env)=eval o X.env
 few:((backTo aH (starEach [e,f] X.env)).all (fun x => !x.1)&&(backToKw aH (keywordEach [] X.env)).all (fun x=>x.1.isSome)
  && decide (([e,f]:List Expr).length+([]:List Keyword).length+(if ([]:List Keyword).isEmpty then 0 else 1)<30))=true
 line:(bH.endLine==aH.line)=true
 trees:backTo aH (starEach [e,f] X.env)=[(false,eval e X.env),(false,eval f X.env)]
def IsD (H:Hp)(a:Addr):Prop:=(∃kvs,Rd H a (.dK kvs)) \/ ∃kvs,Rd H a (.dT kvs)
def S8       (I:Inv X ae σ H s)(d:IsD H a):
  s.TypeIs (.ref a) "dict" /\ (∀b,Value.ref a=.ref b->∃ob,s.heap.get? b=some ob/\ob.dict=none)/\(a==sysModules)=false:=by
 rcases d with ⟨kvs,e⟩|⟨kvs,e⟩
 ·obtain⟨_,hd,vs,_,dd⟩:=Mb I.hok e
  refine⟨dd.typeIs,fun b q=>?_,hd⟩
  cases q
  obtain⟨ob,_,_,h1,h2,_⟩:=dd
  exact⟨ob,h1,h2.2.1⟩
 ·obtain⟨_,hd,xs,_,dd⟩:=Od I.hok e
  refine⟨dd.typeIs,fun b q=>?_,hd⟩
  cases q
  obtain⟨ob,_,_,h1,h2,_⟩:=dd
  exact⟨ob,h1,h2.2.1⟩
section
variable {X:Cx} {ae:α7} {σ:St} {H:Hp} {s:Shared} {a:Addr} {y d:V} {u r:Value} {o:Option V} {A:Around} {E:Value->Shared->Prop}
def V1  (hu:A.units+1<cLine)(I:Inv X ae σ H s)(g:DGet H a y o)(ry:RelV y u)(h:∀w' s',Inv X ae σ H s'->RelV (o.getD .non) w'->Q w' s'):
  wpAny (model X.prog X.w) A (call (.builtin "dict.get") [.ref a,u]) Q E s:=by
 rcases g with ⟨kvs,k,e,ey,l⟩|⟨kvs,k,b,e,ey,eb,l⟩
 ·subst ey
  obtain⟨z,hd,vs,bB,dd⟩:=Mb I.hok e
  refine call_meetsIn zD_ dd.typeIs su (r6 _ _) (meets_dict_get (Bi X.prog X.w) a (Ma ry) hd) ⟨_,dd.mapOf,h _ _ (I.tok _) ?_⟩
  rw[l]
  exact (bB.val k).getD rfl
 ·subst ey
  cases (show u=Value.ref b from ry)
  obtain⟨z,hd,xs,bB,dd⟩:=Od I.hok e
  refine call_meetsIn zD_ dd.typeIs su (r6 _ _) (meetsH_dict_get (tupleKind (Bi X.prog X.w)) a b hd) ⟨zk_ hu,k,xs,K6 I.hok eb,dd,h _ _ (I.tok _) ?_⟩
  rw[l]
  exact (bB.val k).getD rfl
end
def PX (td ty:TE):TE:=fun σ H Q=>td σ H fun x H1=>∃a,x=.ref a/\IsD H1 a/\ty σ H1 fun y H2=>∃o,DGet H2 a y o/\Q (o.getD .non) H2
section
variable {X:Cx} {o e f:Expr} {bH aH:Pos} {td ty tx:TE}
def RT (hu:X.A.units+1<cLine)(ho:PE X o td)(he:PE X e ty)(m:M1 X o "get" bH e aH):PE X (.Call (.Attribute o "get" bH) [e] [] aH) (PX td ty):=by
 intro ae s σ H Q I h
 refine wpAny_Call_method m.base m.few m.line r9 zD_ vI (thn (ho ae s σ H _ I h) fun u s1 ⟨x,H1,I1,rx,a,ex,d,q1⟩=>?_)
 subst ex
 obtain rfl:u=Value.ref a:=rx
 obtain⟨t1,t2,_⟩:=S8 I1 d
 refine⟨t1,t2,?_⟩
 rw[m.trees]
 refine zt_ rfl (zO_ (xw_ (thn (he ae s1 σ H1 _ I1 q1) fun iv s2 ⟨y,H2,I2,ry,ov,g,q2⟩=>x3_ ?_)))
 exact V1 hu I2 g ry fun w' s3 I3 ff=>⟨_,H2,I3,ff,q2⟩
end
end L2
namespace L2
open PySem PySem.Spec PyProof.Rows
def clOf (env:Env):List (Str×NameKind)->List (Str×Addr)->List (Str×Addr)
 |[],ah=>ah
 | (n,k)::r,ah=>if (k == .free)=true then clOf env r ((n,(env.cells.lookup n).getD 0)::ah) else clOf env r ah
def Gg   (h:∀p∈scope.names,p.2=.free->∃c,env.cells.lookup p.1=some c):closureFor scope env=pure (clOf env scope.names []):=by
 have go:∀(l:List (Str×NameKind)) (ah:List (Str×Addr)),(∀p∈l,p.2=.free->∃c,env.cells.lookup p.1=some c) ->
   (forIn l ah fun (x:Str×NameKind) (cs:List (Str×Addr))=>(if (x.2 == .free)=true then do let c <- cellOf env x.1;pure (rD ((x.1,c)::cs)) else pure (rD cs):Sem (ForInStep (List (Str×Addr)))))=(pure (clOf env l ah):Sem (List (Str×Addr))):=by
  intro l
  induction l with
  |nil=>intro ah _;rfl
  |cons p r ih=>
   intro ah hl
   obtain⟨n,k⟩:=p
   rw[zl_]
   by_cases hk:(k == .free)=true
   ·obtain⟨c,hc⟩:=hl (n,k) jp_ (by simpa using hk)
    have e1:cellOf env n=pure c:=by unfold cellOf;rw[hc]
    have oX:=ih ((n,c)::ah) fun q hq=>hl q (jl_ _ hq)
    show ((if (k == .free)=true then do let c <- cellOf env n;pure (rD ((n,c)::ah)) else pure (rD ah):Sem _) >>= _)=_
    rw[if_pos hk,e1]
    show (forIn r ((n,c)::ah) _:Sem _)=_
    rw[clOf,if_pos hk,hc]
    exact oX
   ·have oX:=ih ah fun q hq=>hl q (jl_ _ hq)
    show ((if (k == .free)=true then do let c <- cellOf env n;pure (rD ((n,c)::ah)) else pure (rD ah):Sem _) >>= _)=_
    rw[if_neg hk]
    show (forIn r ah _:Sem _)=_
    rw[clOf,if_neg hk]
    exact oX
 have e:=go scope.names [] h
 unfold closureFor
 show (forIn scope.names [] _ >>= fun cs=>pure cs:Sem _)=_
 have e2:(forIn scope.names [] (fun (x:Str×NameKind) (r:List (Str×Addr))=>(match x with
   | (name,kind)=>if (kind == .free)=true then do let c <- cellOf env name;pure (rD ((name,c)::r)) else do pure PUnit.unit;pure (rD r):Sem (ForInStep (List (Str×Addr))))))=(pure (clOf env scope.names []):Sem (List (Str×Addr))):=e
 exact jJ_ (fun z=>z >>= fun cs=>pure cs) e2
def Hq {env:Env}:∀(l:List (Str×NameKind)) (ah:List (Str×Addr)),(∀p∈l,p.2=.free->∃c,env.cells.lookup p.1=some c)->(∀q∈ah,env.cells.lookup q.1=some q.2)->∀q∈clOf env l ah,env.cells.lookup q.1=some q.2
 |[],_,_,ha,q,hq=>ha q hq
 | (n,k)::r,ah,hl,ha,q,hq=>by
  unfold clOf at hq
  by_cases hk:(k == .free)=true
  ·rw[if_pos hk]at hq
   obtain⟨c,hc⟩:=hl (n,k) jp_ (by simpa using hk)
   refine Hq r _ (fun p hp=>hl p (jl_ _ hp)) (fun p hp=>?_) q hq
   rcases jD_.mp hp with rfl|hp
   ·show env.cells.lookup n=some ((env.cells.lookup n).getD 0)
    rw[hc];rfl
   ·exact ha p hp
  ·rw[if_neg hk]at hq
   exact Hq r _ (fun p hp=>hl p (jl_ _ hp)) ha q hq
def ER {env:Env}:∀(l:List (Str×NameKind)) (ah:List (Str×Addr)) (x:Str),((x,NameKind.free)∈l \/ ∃c,(x,c)∈ah)->∃c,(x,c)∈clOf env l ah
 |[],_,_,h=>by
  rcases h with h|h
  ·cases h
  ·exact h
 | (n,k)::r,ah,x,h=>by
  unfold clOf
  by_cases hk:(k == .free)=true
  ·rw[if_pos hk]
   refine ER r _ x ?_
   rcases h with h|⟨c,h⟩
   ·rcases jD_.mp h with h|h
    ·cases h
     exact .inr ⟨_,jp_⟩
    ·exact .inl h
   ·exact .inr ⟨c,jl_ _ h⟩
  ·rw[if_neg hk]
   refine ER r _ x ?_
   rcases h with h|h
   ·rcases jD_.mp h with h|h
    ·cases h
     exact absurd rfl hk
    ·exact .inl h
   ·exact .inr h
def Bc {β:Type}:∀{l:List (Str×β)} {x:Str} {c:β},(x,c)∈l->∃c',l.lookup x=some c'
 |[],_,_,h=>by cases h
 | (n,d)::r,x,c,h=>by
  by_cases hx:(x==n)=true
  ·exact⟨d,by rw[j7_,hx]⟩
  ·rcases jD_.mp h with h|h
   ·cases h;exact absurd (beq_self_eq_true _) hx
   ·obtain⟨c',e⟩:=Bc h
    exact⟨c',by rw[j7_];simp only[Bool.not_eq_true]at hx;rw[hx];exact e⟩
def relF (env:Env):Str×NameKind->Str×NameKind:=fun (n,k)=>if (k==NameKind.free&&env.scope.kind == .function&&env.kindOf n==some .cell) then (n,NameKind.cell) else (n,k)
def Hr    (h:(k==NameKind.free&&env.scope.kind == .function&&env.kindOf n==some .cell)=true):relF env (n,k)=(n,.cell):=if_pos h
def J3    (h:¬ (k==NameKind.free&&env.scope.kind == .function&&env.kindOf n==some .cell)=true):relF env (n,k)=(n,k):=if_neg h
def Eg {env:Env}:∀{names:List (Str×NameKind)} {x:Str} {k:NameKind},(∀y∈names,y.2 ≠ .cell) ->
  (names.map (relF env)).lookup x=some k->(k=.cell\/k=.free)->(x,NameKind.free)∈names
 |[],_,_,_,h,_=>by simp at h
 | (n,k')::r,x,k,hc,h,hk=>by
  have ih := @Eg env r x k (fun y hy=>hc y (jl_ _ hy))
  rw[j0_]at h
  by_cases hb:(k'==NameKind.free&&env.scope.kind == .function&&env.kindOf n==some .cell)=true
  ·rw[Hr hb,j7_]at h
   cases hx:x==n with
   |true=>
    have e:x=n:=by simpa using hx
    subst e
    have e2:k'=.free:=by
     simp only[qi_]at hb
     simpa using hb.1.1
    subst e2
    exact jp_
   |false=>
    rw[hx]at h
    exact jl_ _ (ih h hk)
  ·rw[J3 hb,j7_]at h
   cases hx:x==n with
   |true=>
    rw[hx]at h
    have e:x=n:=by simpa using hx
    subst e
    have e2:k'=k:=jq_ h
    subst e2
    rcases hk with rfl|rfl
    ·exact absurd rfl (hc _ jp_)
    ·exact jp_
   |false=>
    rw[hx]at h
    exact jl_ _ (ih h hk)
def Eh {env:Env}:∀{names:List (Str×NameKind)} {x:Str},names.lookup x=some .free ->
  ∃k,(k=NameKind.cell\/k=NameKind.free)/\(names.map (relF env)).lookup x=some k
 |[],_,h=>by simp at h
 | (n,k')::r,x,h=>by
  have ih := @Eh env r x
  rw[j7_]at h
  rw[j0_]
  cases hx:x==n with
  |true=>
   rw[hx]at h
   have e2:k'=.free:=jq_ h
   subst e2
   by_cases hb:((NameKind.free:NameKind)==NameKind.free&&env.scope.kind == .function&&env.kindOf n==some .cell)=true
   ·exact⟨.cell,.inl rfl,by rw[Hr hb,j7_,hx]⟩
   ·exact⟨.free,.inr rfl,by rw[J3 hb,j7_,hx]⟩
  |false=>
   rw[hx]at h
   obtain⟨k,hk,e⟩:=ih h
   refine⟨k,hk,?_⟩
   by_cases hb:(k'==NameKind.free&&env.scope.kind == .function&&env.kindOf n==some .cell)=true
   ·rw[Hr hb,j7_,hx];exact e
   ·rw[J3 hb,j7_,hx];exact e
end L2
namespace L2
open PySem PySem.Spec PyProof.Rows
section
variable {prog:Program} {w:World} {A:Around} {R:Result->Shared->Prop} {s:Shared}
def GO {cF bL iter:Expr}      (I:Nat->Shared->Prop)
  (turn:∀n s,I n s->wpAny (model prog w) A (pyNext it) (fun r s₁=>match r with
   |none=>R (.ok .next) s₁
   |some v=>wpAny (model prog w) A (letOwnedTupleGo bL it v) (fun _ s₁'=>wpAny (model prog w) A (assign bL env v) (fun _ bA=>
     wpAny (model prog w) A (forIn cz true fun c r=>if r=true then do let ok <- isTrue c env (eval c env);pure (rD ok) else pure (rD r)) (fun ok aX=>
      if ok=true then wpAny (model prog w) A (eval cF env) (fun x fh=>
       wpAny (model prog w) A (call (.builtin "list.append") [ah,x]) (fun _ s₅=>∃m,m<n/\I m s₅) (notedBy (model prog w) A env fun e s'=>R (.error e) s') fh) (notedBy (model prog w) A env fun e s'=>R (.error e) s') aX
      else ∃m,m<n/\I m aX) (notedBy (model prog w) A env fun e s'=>R (.error e) s') bA) (notedBy (model prog w) A env fun e s'=>R (.error e) s') s₁') (notedBy (model prog w) A env fun e s'=>R (.error e) s') s₁) (notedBy (model prog w) A env fun e s'=>R (.error e) s') s)
  (n:Nat) (h:I n s):
  codeAny (model prog w) A (.compLoop (.ListComp cF [⟨bL,iter,cz,0⟩] scope pos) 0 it ah env) R s:=by
 refine codeAny_loop rfl I (fun n s hI=>?_) n h
 show wpAny _ A ((compTurn (.ListComp cF [⟨bL,iter,cz,0⟩] scope pos) 0 it ah env).onRaise (fun x=>do noteFrame x env;theTreesLotGoes x)) _ _ s
 refine wpAny_noted ?_
 rw[compTurn_list]
 refine jb_ (wpAny_standAt (jb_ (qB_ (turn n s hI) (fun r s₁ h₁=>?_) fun _ _ h'=>h')))
 cases r with
 |none=>exact jo_ h₁
 |some v=>
  refine jb_ (qB_ h₁ (fun _ s₁' h₁'=>?_) fun _ _ h'=>h')
  refine jb_ (qB_ h₁' (fun _ bA aZ=>jb_ (qB_ aZ (fun ok aX bt=>?_) fun _ _ h'=>h')) fun _ _ h'=>h')
  cases ok with
  |false=>exact jo_ ⟨rfl,bt⟩
  |true=>
   exact jb_ (jb_ (qB_ bt (fun x fh gh=>jb_ (qB_ gh (fun _ s₅ aR=>jo_ (jo_ ⟨rfl,aR⟩)) fun _ _ h'=>h')) fun _ _ h'=>h'))
end
abbrev Cx.blk (X:Cx)(N:List Str)(sc:Scope)(C:Addr)(s₀:Shared)(H₀:Hp)(ex:List Addr):Cx:=
 {X with N:=N,env:=compEnvC sc (clOf X.env sc.names []) C X.env,outer:=X.stack,s₀:=s₀,H₀:=H₀,ex:=ex,fn:=fun _=>false,pn:=[],xe:=fun _ _=>False}
structure BlkSc (X:Cx)(sc:Scope):Prop where
 kind:sc.kind=.function
 nocell:∀y∈sc.names,y.2 ≠ .cell
 loc:∀y∈sc.names,y.2=.local->sc.names.lookup y.1=some .local
 free:∀y∈sc.names,y.2=.free->X.env.kindOf y.1=some .cell\/X.env.kindOf y.1=some .free
abbrev Caps:=List (Str×Option Nat)
def Caps.names (c:Caps):List Str:=c.map (·.1)
def Caps.st (c:Caps)(σ:St):St:=c.map fun p=>p.2.bind fun j=>(σ[j]?).join
def CK (N:List Str)(sc:Scope):Caps->Prop
 |[]=>True
 | (_,none)::r=>CK N sc r
 | (x,some j)::r=>(N[j]?=some x/\sc.names.lookup x=some .free)/\CK N sc r
def CK.get {N:List Str}{sc:Scope}:∀{c:Caps} {i:Nat} {x:Str} {j:Nat},CK N sc c->c[i]?=some (x,some j)->N[j]?=some x/\sc.names.lookup x=some .free
 |[],_,_,_,_,h=>by simp at h
 | (y,none)::r,0,x,j,_,h=>by simp at h
 | (y,none)::r,i+1,x,j,ok,h=>CK.get (c:=r) (i:=i) ok (by simpa using h)
 | (y,some k)::r,0,x,j,ok,h=>by
  simp only[zm_,zx_,vj]at h
  obtain⟨rfl,rfl⟩:=h
  exact ok.1
 | (y,some k)::r,i+1,x,j,ok,h=>CK.get (c:=r) (i:=i) ok.2 (by simpa using h)
section
variable {X:Cx} {ae:α7} {σ:St} {H:Hp} {s:Shared} {sc:Scope} {fp:List Addr}
def HS (I:Inv X ae σ H s)(S:BlkSc X sc):∀p∈sc.names,p.2=.free->∃c,X.env.cells.lookup p.1=some c:=fun p hp e=>I.ok.has p.1 (S.free p hp e)
def BS (I:Inv X ae σ H s)(S:BlkSc X sc)   (h:(clOf X.env sc.names []).lookup x=some c):X.env.cells.lookup x=some c:=
 Hq sc.names [] (HS I S) (fun q hq=>by cases hq) (x,c) (qm_ h)
def V2 {N:List Str}{C:Addr}(I:Inv X ae σ H s)(S:BlkSc X sc)(hC:s.heap.objs.size<=C)(hf:∀b∈fp,FpOk X ae H b)(ho:∀b∈fp,∃o,s.heap.get? b=some o):(X.blk N sc C s H fp).Ok where
 mod:=I.ok.mod
 kind:=S.kind
 glob:=I.ok.glob
 blt:=I.ok.blt
 above:=hC
 inj:=fun x y c h1 h2=>I.ok.inj x y c (BS I S h1) (BS I S h2)
 has:=fun x hx=>by
  have fi:(x,NameKind.free)∈sc.names:=by
   rcases hx with hx|hx
   ·exact Eg (env:=X.env) S.nocell hx (.inl rfl)
   ·exact Eg (env:=X.env) S.nocell hx (.inr rfl)
  obtain⟨c,hc⟩:=ER (env:=X.env) sc.names [] x (.inl fi)
  exact Bc hc
 cab:=fun x c h=>absurd (show false=true from h) js_
 hd:=I.ok.hd
 frames:=I.ok.frames
 stk:=.inl rfl
 exf:=fun b hb=>by
  obtain⟨o,ho⟩:=ho b hb
  refine⟨jM_ (jz_ (jr_ ho) hC),fun x c h=>(hf b hb).2.2.2.2.1 x c (BS I S h)⟩
 bs:=I.bs
 bsz:=qp_ I.ok.bsz I.sz
 noex:=fun b o e hb=>by
  rcases (hf b hb).2.2.2.1 with z|z
  ·exact I.ok.noex b o e z
  ·exact absurd (jz_ (jr_ (I.ok.bs b o e).1) z) (j8_ _)
 exfs:=fun b hb z=>by
  rcases jD_.mp (I.stkSub b z) with e|e
  ·exact (hf b hb).2.1 e
  ·exact (hf b hb).2.2.1 e
 funs:=I.stack
 frf:=I.stkFree
def PY {c:Caps}{C:Addr}{s4:Shared}{m:Str->α5}(I:Inv X ae σ H s)(S:BlkSc X sc)(hc:CK X.N sc c)(hC:s.heap.objs.size<=C)(hf:∀b∈fp,FpOk X ae H b)(ho:∀b∈fp,∃o,s.heap.get? b=some o)
  (dJ:s4.os=s.os) (hb:s4.gens=s.gens) (hk:∀b o,s.heap.get? b=some o->s4.heap.get? b=some o) (hn:s4.heap.Ns C m):Inv (X.blk c.names sc C s H fp) [] (c.st σ) H s4 where
 ok:=V2 I S hC hf ho
 os:=dJ
 bare:=by rw[hb];exact I.bare
 base:=Un.kept hk
 loc:=by
  refine⟨m,hn,fun i x v h1 h2 hv=>?_⟩
  have gi:(c.map (·.1))[i]?=some x:=h1
  have eB:(c.map fun p=>p.2.bind fun j=>(σ[j]?).join)[i]?=some (some v):=h2
  rw[je_]at gi eB
  cases e:c[i]? with
  |none=>rw[e]at gi;cases gi
  |some p=>
   obtain⟨y,oj⟩:=p
   rw[e]at gi eB
   have e1:y=x:=jq_ gi
   subst e1
   have e2:(oj.bind fun j=>(σ[j]?).join)=some v:=jq_ eB
   cases oj with
   |none=>cases e2
   |some j=>
    have e3:(σ[j]?).join=some v:=e2
    have e4:σ[j]?=some (some v):=by
     cases q:σ[j]? with
     |none=>rw[q]at e3;cases e3
     |some z=>rw[q]at e3;exact jJ_ some e3
    obtain⟨k1,k2⟩:=CK.get hc e
    have k3:X.env.kindOf y=some .cell\/X.env.kindOf y=some .free:=S.free (y,.free) (qm_ k2) rfl
    have my:Vis X.env.scope y:=by
     rcases k3 with k|k
     ·exact .inr (.inl k)
     ·exact .inr (.inr k)
    obtain⟨mX,hnX,hl⟩:=I.loc
    obtain⟨u,r,l⟩:=hl j y v k1 e4 my
    refine⟨u,r,?_⟩
    rcases l with ⟨k,_⟩|⟨_,ca,oY,z⟩
    ·rcases k3 with k' | k'<;>(rw[k]at k';cases k')
    ·obtain⟨kd,mG,ek⟩:=Eh (env:=X.env) k2
     have fj:(compEnvC sc (clOf X.env sc.names []) C X.env).kindOf y=some kd:=ek
     obtain⟨c',je⟩:=ER (env:=X.env) sc.names [] y (.inl (qm_ k2))
     obtain⟨c2,cE⟩:=Bc je
     have e5:=BS I S cE
     rw[oY]at e5
     have e6:ca=c2:=jq_ e5
     subst e6
     refine .inr ⟨?_,ca,cE,?_⟩
     ·rcases mG with rfl|rfl
      ·exact .inl fj
      ·exact .inr fj
     ·obtain⟨oc,dR,hd⟩:=z
      exact⟨oc,hk _ _ dR,hd⟩
 cell:=fun x ca h=>by
  obtain⟨v,oc,dR,hd⟩:=I.cell x ca (BS I S h)
  exact⟨v,oc,hk _ _ dR,hd⟩
 free:=I.hok.fresh hC
 freeC:=fun x ca h=>I.freeC x ca (BS I S h)
 pin:=fun p hp=>absurd (show p∈([]:α7) from hp) (by simp)
 hok:=I.hok.kept hk
 len:=by show (c.map _).length=(c.map _).length;rw[ja_,ja_]
def HOk.track       (x:HOk P w H h)(hn:H a=none)(new:Bj P w (upd H a o) h a o):HOk P w (upd H a o) h:=fun b u e=>by
 by_cases hb:b=a
 ·subst hb;rw[Ab]at e;cases e;exact new
 ·rw[Aj hb]at e
  exact (x b u e).stay (fun c v _ q=>q) (fun c q=>by rw[Aj (Aq q hn)];exact q) fun c xs q=>by rw[Aj (Aq q hn)];exact q
def Un.track {fs ex:List Addr}{H H':Hp}{h h':Heap}{a:Addr}{o:HO}(u:Un fs ex H H' h h')(ha:h.objs.size<=a)(hn:H' a=none):Un fs ex H (upd H' a o) h h' where
 keep:=u.keep
 slot:=u.slot
 free:=fun b ob q n hx=>by rw[Aj (jM_ (jz_ (jr_ q) ha))];exact u.free b ob q n hx
 there:=u.there
 tups:=fun b xs q=>by rw[Aj (Aq (u.tups b xs q) hn)];exact u.tups b xs q
 frzs:=fun b ob xs q=>by rw[Aj (Aq (u.frzs b ob xs q) hn)];exact u.frzs b ob xs q
 tbls:=fun b ps q=>by
  obtain⟨more,e⟩:=u.tbls b ps q
  exact⟨more,by rw[Aj (Aq e hn)];exact e⟩
def UC {c:Caps}{C D:Addr}{s':Shared}{af:St}{H':Hp}{o:HO}(I:Inv X ae σ H s)(J:Inv (X.blk c.names sc C s H fp) [] af H' s')(hf:∀b∈fp,FpOk X ae H b)(hD:s.heap.objs.size<=D)(hn:H' D=none)
  (new:Bj X.prog X.w (upd H' D o) s'.heap D o):Inv X ae σ (upd H' D o) s':=by
 have u:Un (frs X.stack) fp H H' s.heap s'.heap:=J.base
 exact I.call' J.os (u.track hD hn) (J.hok.track hn new) J.bare fun b hb=>⟨(hf b hb).2.2.2.1,(hf b hb).2.1,(hf b hb).2.2.2.2.1,(hf b hb).2.2.2.2.2⟩
end
def PF (X:Cx)(cz:List Expr)(t:TT):Prop:=
 ∀(ae:α7) (s:Shared) (σ:St) (H:Hp) (Q:Bool->Hp->Prop),Inv X ae σ H s->t σ H Q ->
  wpAny (model X.prog X.w) X.A (forIn cz true fun c r=>if r=true then do let ok <- isTrue c X.env (eval c X.env);pure (rD ok) else pure (rD r)) (TP X ae σ Q) X.xe s
def Oe:TT:=fun _ H Q=>Q true H
def Bd  : PF X [] Oe:=fun _ _ _ H _ I h=>wpAny_tests_nil ⟨H,I,h⟩
def PZ    (h:PT X c t):PF X [c] t:=fun ae s σ H Q I hw=>wpAny_tests_one (h ae s σ H Q I hw)
def RU (wi:TI)(cp:Caps)(g:TG)(tc:TT)(te:TE):TE:=fun σ H Q=>wi σ H fun J H1=>∃W:Nat->Nat->List V->St->Hp->Prop,(∃m,W 0 m [] (cp.st σ) H1)/\∀i m ys af H',W i m ys af H' ->
 ys.length<sizeLine/\((J.stop i H'/\∀D,H' D=none->Q (.ref D) (upd H' D (.lst ys)))\/(J.go i H'/\∃N:List V->St->Hp->Prop,(∀zs ai H2,N zs ai H2->∃m',m'<m/\W (i+1) m' zs ai H2)/\∀x H2,J.yld i H' x H2->g x af H2 fun ai H3=>tc ai H3 fun b H4=>
  if b=true then te ai H4 fun v H5=>N (ys++[v]) ai H5 else N ys ai H4))
section
variable {X:Cx} {tg iter cF:Expr} {cz:List Expr} {sc:Scope} {pos:Pos} {wi:TI} {cp:Caps} {g:TG} {tc:TT} {te:TE}
def K8 (hc:X.calm=true)(S:BlkSc X sc)(iA:CK X.N sc cp)
  (hg:∀C s₀ H₀ ex,PG (X.blk cp.names sc C s₀ H₀ ex) tg g) (hf:∀C s₀ H₀ ex,PF (X.blk cp.names sc C s₀ H₀ ex) cz tc) (he:∀C s₀ H₀ ex,PE (X.blk cp.names sc C s₀ H₀ ex) cF te)
  {ae:α7} {σ:St} {H:Hp} {s:Shared} {J:It} {it:Addr} {fp:List Addr} {tn:Nat->Heap->Prop} {Q:VK} {RR:Value->Addr->Result->Shared->Prop} {E:Value->Shared->Prop}
  (I:Inv X ae σ H s) (T:Turn X.prog X.w X.K tg J fp it tn) (st:tn 0 s.heap) (fk:∀b∈fp,FpOk X ae H b)
  (hw:∃W:Nat->Nat->List V->St->Hp->Prop,(∃m,W 0 m [] (cp.st σ) H)/\∀i m ys af H',W i m ys af H' ->
   ys.length<sizeLine/\((J.stop i H'/\∀D,H' D=none->Q (.ref D) (upd H' D (.lst ys)))\/(J.go i H'/\∃N:List V->St->Hp->Prop,(∀zs ai H2,N zs ai H2->∃m',m'<m/\W (i+1) m' zs ai H2)/\∀x H2,J.yld i H' x H2->g x af H2 fun ai H3=>tc ai H3 fun b H4=>
    if b=true then te ai H4 fun v H5=>N (ys++[v]) ai H5 else N ys ai H4)))
  (hR:∀D C s' H' (m:Str->α5),Inv X ae σ H' s'->Q (.ref D) H'->s'.heap.Ns C m->H' C=none->C≠X.env.locals->X.s₀.heap.objs.size<=C->(∀x c,X.env.cells.lookup x=some c->c≠C)->(∀p∈X.pn++ae,p.1≠C)->RR (.ref D) C (.ok .next) s'):
  wpAny (model X.prog X.w) X.A (newList []) (fun ah aX=>wpAny (model X.prog X.w) X.A (newFunctionEnv sc X.env.globals (clOf X.env sc.names []) [] X.env.qual none .none (some X.env)) (fun gj fh=>
   codeAny (model X.prog X.w) X.A (.compStart (.ListComp cF [⟨tg,iter,cz,0⟩] sc pos) 0 (.ref it) ah {gj with scope:=relabel sc X.env}) (RR ah gj.locals) fh) E aX) E s:=by
 obtain⟨W,⟨m0,w0⟩,turn⟩:=hw
 refine qq_ (wpAny_newFunctionEnv S.nocell (by intro y hy;simp at hy) (fun h₁ cg cR=>?_) S.kind)
 dsimp only at cg cR ⊢
 generalize jG:s.heap.push {cls:=.type "list",dict:=none,data:=.seq ([]:List Value).toArray}=H2 at cg cR ⊢
 have hC:H2.objs.size=s.heap.objs.size+1:=by rw[<-jG,qf_]
 have jg:s.heap.objs.size≠H2.objs.size:=by rw[hC];exact jM_ (zJ_ _)
 have bO:s.heap.objs.size<=H2.objs.size:=by rw[hC];exact wg_ _
 have below:∀b,b<s.heap.objs.size->b≠H2.objs.size:=fun b hb=>by rw[hC];exact jM_ (xn_ hb)
 have dU:∀b o,s.heap.get? b=some o->h₁.get? b=some o:=fun b o e=>cR.extBut b o (below b (jr_ e)) (jf_ _ (jG ▸ jf_ _ e))
 have aP:h₁.get? s.heap.objs.size=some {cls:=.type "list",data:=.seq ([]:List Value).toArray 0}:=cR.extBut _ _ jg (jf_ _ (jG ▸ jx_ _ rfl))
 have cj:tn 0 h₁:=T.keep 0 _ _ st fun b _ o e=>dU b o e
 have bN:∀b∈fp,∃o,s.heap.get? b=some o:=fun b hb=>let ⟨o,e,_⟩:=T.obj 0 _ st b hb;⟨o,e⟩
 have J0:Inv (X.blk cp.names sc H2.objs.size s H fp) [] (cp.st σ) H {s with heap:=h₁,toks:=s.toks+([]:List (Str×Value)).length}:=PY I S iA bO fk bN rfl rfl dU cg
 have oZ:∀b,s.heap.objs.size<=b->b∉frs X.stack:=fun b hb z=>by
  rcases jD_.mp (I.stkSub b z) with e|e
  ·exact absurd (jz_ I.lt (by rw[<-e];exact hb)) (j8_ _)
  ·exact I.nofs hb e
 have dC:∀b,s.heap.objs.size<=b->∀x c,X.env.cells.lookup x=some c->c≠b:=fun b hb x c e z=>by
  obtain⟨v,q⟩:=I.cell x c e
  exact absurd (jz_ q.lt (by rw[z];exact hb)) (j8_ _)
 have mH:∀{bq:α7} {H':Hp},(∀b∈fp,H' b=none)->(∀p∈bq,p.1∉fp)->∀b∈fp,FpOk (X.blk cp.names sc H2.objs.size s H fp) bq H' b:=fun {bq H'} hn hp b hb=>by
  obtain⟨o,e⟩:=bN b hb
  refine⟨hn b hb,below b (jr_ e),fun z=>?_,.inl hb,fun x c h=>(fk b hb).2.2.2.2.1 x c (BS I S h),fun p lJ z=>?_⟩
  ·rcases jD_.mp (I.stkSub b z) with e|e
   ·exact (fk b hb).2.1 e
   ·exact (fk b hb).2.2.1 e
  ·have jH:p∈bq:=by simpa using lJ
   exact hp p jH (by rw[z];exact hb)
 have e9:∀aX:Shared,aX={s with heap:=h₁,toks:=s.toks+([]:List (Str×Value)).length} ->
   codeAny (model X.prog X.w) X.A (.compLoop (.ListComp cF [⟨tg,iter,cz,0⟩] sc pos) 0 (.ref it) (.ref s.heap.objs.size) (compEnvC sc (clOf X.env sc.names []) H2.objs.size X.env))
    (RR (.ref s.heap.objs.size) H2.objs.size) aX:=by
  rintro aX rfl
  refine GO (fun n s'=>∃i af H' ys its k,Inv (X.blk cp.names sc H2.objs.size s H fp) [] af H' s'/\tn i s'.heap/\(∀b∈fp,H' b=none)/\H' s.heap.objs.size=none /\
   s'.heap.get? s.heap.objs.size=some {cls:=.type "list",data:=.seq its.toArray k}/\Vals ys its/\W i n ys af H') ?_ m0
   ⟨0,_,H,[],[],0,J0,cj,fun b hb=>(fk b hb).1,I.hok.fresh (ji_ _),aP,.nil,w0⟩
  rintro n s3 ⟨i,aE,H3,ys,its,k,I3,dH,lG,pj,e3,rv,w3⟩
  obtain⟨hz,tr⟩:=turn i n ys aE H3 w3
  have aj:=rv.length
  -- oS accumulator stands still while anything else runs
  have gm:∀p ∈ [(s.heap.objs.size,({cls:=.type "list",data:=.seq its.toArray k}:Obj))],p.1∉fp:=fun p hp z=>by
   have e:p=_:=ju_.mp hp
   subst e
   obtain⟨o,e⟩:=bN _ z
   exact absurd (jr_ e) (j8_ _)
  have mI:Inv (X.blk cp.names sc H2.objs.size s H fp) [(s.heap.objs.size,({cls:=.type "list",data:=.seq its.toArray k}:Obj))] aE H3 s3:=I3.pins_of fun p hp=>by
   have e:p=_:=ju_.mp hp
   subst e
   exact⟨e3,pj,jg,oZ _ (ji_ _),fun v z=>by cases z⟩
  have cP:∀b∈fp,FpOk (X.blk cp.names sc H2.objs.size s H fp) [(s.heap.objs.size,({cls:=.type "list",data:=.seq its.toArray k}:Obj))] H3 b:=mH lG gm
  rcases tr with ⟨stop,qn⟩|⟨go,N,hN,step⟩
  ·refine thn (T.done (X.blk cp.names sc H2.objs.size s H fp) rfl rfl rfl hc i _ s3 aE H3 _ mI cP dH stop) fun r s4 ⟨hr,I4⟩=>?_
   subst hr
   obtain⟨e4,n4,_⟩:=I4.pin (s.heap.objs.size,({cls:=.type "list",data:=.seq its.toArray k}:Obj)) (by simp)
   have new:Bj X.prog X.w (upd H3 s.heap.objs.size (.lst ys)) s4.heap s.heap.objs.size (.lst ys):=⟨ze_ hz,its,k,rv,e4⟩
   obtain⟨mC,pq,_⟩:=I4.loc
   have pA:Inv (X.blk cp.names sc H2.objs.size s H fp) [] aE H3 s4:=I4.pins_of fun p hp=>by cases hp
   have I5:=UC I pA fk (ji_ _) n4 new
   refine hR _ _ s4 _ mC I5 (qn _ n4) pq ?_ (qe_ (jz_ I.lt bO)) (qp_ I.sz bO) (dC _ bO) fun p hp z=>?_
   ·rw[Aj (qs_ jg)];exact I4.free
   ·exact absurd (jz_ (jr_ (I.pin p hp).1) (by rw[z];exact bO)) (j8_ _)
  ·refine thn (T.item (X.blk cp.names sc H2.objs.size s H fp) rfl rfl rfl hc i _ s3 aE H3 _ mI cP dH go) fun r s4 ⟨u,hr,h4⟩=>?_
   subst hr
   refine thn h4 fun _ s5 ⟨x,H5,I5,r5,y5,bz,mB⟩=>?_
   have mD:=I5.pinned (mH mB gm) (T.obj _ _ bz)
   have fin:∀{di:St} {H7:Hp} {s7:Shared},Inv (X.blk cp.names sc H2.objs.size s H fp) ([(s.heap.objs.size,({cls:=.type "list",data:=.seq its.toArray k}:Obj))]++Jk fp s5.heap) di H7 s7 ->
     s7.heap.get? s.heap.objs.size=some {cls:=.type "list",data:=.seq its.toArray k}/\H7 s.heap.objs.size=none/\(∀b∈fp,H7 b=none)/\∀b∈fp,∀o,s5.heap.get? b=some o->s7.heap.get? b=some o:=fun {di H7 s7} I7=>by
    obtain⟨e7,n7,_⟩:=I7.pin (s.heap.objs.size,({cls:=.type "list",data:=.seq its.toArray k}:Obj)) (by simp)
    refine⟨e7,n7,fun b hb=>?_,fun b hb o e=>?_⟩
    ·obtain⟨o,e,_⟩:=T.obj _ _ bz b hb
     exact (I7.pin (b,o) (jy_ _ (jy_ _ (CH hb e)))).2.1
    ·exact (I7.pin (b,o) (jy_ _ (jy_ _ (CH hb e)))).1
   refine qB_ (hg _ _ _ _ _ s5 aE H5 x u _ mD r5 (step x H5 y5)) (fun _ s6 ⟨dz,H6,I6,q6⟩=>?_) fun _ _ z=>rF z
   refine qB_ (hf _ _ _ _ _ s6 dz H6 _ I6 q6) (fun ok s7 ⟨H7,I7,q7⟩=>?_) fun _ _ z=>rF z
   cases ok with
   |false=>
    rw[if_neg js_]
    rw[if_neg js_]at q7
    obtain⟨m',hm,w7⟩:=hN _ _ _ q7
    obtain⟨e7,n7,pB,k7⟩:=fin I7
    exact⟨m',hm,i+1,dz,H7,ys,its,k,I7.pins_of (fun p hp=>by cases hp),T.keep _ _ _ bz k7,pB,n7,e7,rv,w7⟩
   |true=>
    rw[if_pos rfl]
    rw[if_pos rfl]at q7
    refine qB_ (he _ _ _ _ _ s7 dz H7 _ I7 q7) (fun v s8 ⟨y,H8,I8,r8,q8⟩=>?_) fun _ _ z=>rF z
    obtain⟨m',hm,w8⟩:=hN _ _ _ q8
    obtain⟨e8,n8,pC,k8⟩:=fin I8
    refine xM_ F.slot_list_append ⟨_,e8,rfl⟩ F.entry_list_append (zP_ _ _) (wb_ s.heap.objs.size its.toArray k v (by rw[jm_];lia)) ⟨e8,?_⟩
    obtain⟨k',q⟩:∃k',(s8.heap.update s.heap.objs.size (Obj.mapSeq fun x=>x.push v)).get? s.heap.objs.size=some {cls:=.type "list",data:=.seq (its++[v]).toArray k' }:=⟨_,by
     have q:=za_ e8 fun x=>x.push v
     have e:(its++[v]).toArray=its.toArray.push v:=by simp
     rw[e]
     exact q⟩
    have I8':Inv (X.blk cp.names sc H2.objs.size s H fp) [] dz H8 s8:=I8.pins_of fun p hp=>by cases hp
    have I9:Inv (X.blk cp.names sc H2.objs.size s H fp) [] dz H8 {s8 with heap:=s8.heap.update s.heap.objs.size (Obj.mapSeq fun x=>x.push v),toks:=s8.toks}:=
     I8'.turned (it:=s.heap.objs.size) (fun b o hb e=>(j6_ _ _ (qs_ hb)).trans e) n8 jg (.inr (ji_ _)) (fun x c e=>dC _ (ji_ _) x c (BS I S e)) (fun p hp=>by cases hp)
    refine⟨m',hm,i+1,dz,H8,ys++[y],its++[v],k',I9,T.keep (i+1) s5.heap _ bz (fun b hb o e=>?_),pC,n8,q,rv.append (.cons r8 .nil),w8⟩
    ·refine (j6_ _ _ ?_).trans (k8 b hb o e)
     intro z
     obtain⟨ob,eb⟩:=bN b hb
     exact absurd (jr_ eb) (by rw[<-z];exact j8_ _)
 exact codeAny_compStart_list (e9 _ rfl) (T.self _ 0 _ _ _ cj (e9 _ rfl))
def A9 (hc:X.calm=true)(S:BlkSc X sc)(iA:CK X.N sc cp)(hi:PI X tg iter wi)
  (hg:∀C s₀ H₀ ex,PG (X.blk cp.names sc C s₀ H₀ ex) tg g) (hf:∀C s₀ H₀ ex,PF (X.blk cp.names sc C s₀ H₀ ex) cz tc) (he:∀C s₀ H₀ ex,PE (X.blk cp.names sc C s₀ H₀ ex) cF te)
  (hs:∀x,foldedSetIterable iter X.env x=pure x:=by intro _;rfl):PE X (.ListComp cF [⟨tg,iter,cz,0⟩] sc pos) (RU wi cp g tc te):=by
 intro ae s σ H Q I h
 rw[eval_ListComp]
 refine zg_ (use:=none) rfl hs (Gg (HS I S)) S.kind S.loc (thn (hi ae s σ H _ I h) fun xv s₁ h₁=>thn h₁ fun mz bA aZ=>?_)
 obtain⟨it,fp,tn,J,H2,e,I2,T,aV,f2,hw⟩:=aZ
 subst e
 refine K8 (RR:=fun ah C=>compPost (model X.prog X.w) X.A X.xe none (EP X ae σ Q) ah C) hc S iA hg hf he I2 T aV f2 hw ?_
 intro D C s' H' m I' q hn hC hL hz bS hp
 exact⟨m,hn,fun h' bF=>⟨.ref D,H',I'.turned (t':=s'.toks) (it:=C) (fun b o hb e=>bF.extBut b o hb e) hC hL (.inr hz) bS hp,rfl,q⟩⟩
def Du    (hN:X.N.Nodup)(hi:X.N[i]?=some x)(hx:X.env.scope.names.lookup x=some .local)(hc:X.calm=true)(S:BlkSc X sc)(iA:CK X.N sc cp)(aN:PI X tg iter wi)
  (hg:∀C s₀ H₀ ex,PG (X.blk cp.names sc C s₀ H₀ ex) tg g) (hf:∀C s₀ H₀ ex,PF (X.blk cp.names sc C s₀ H₀ ex) cz tc) (he:∀C s₀ H₀ ex,PE (X.blk cp.names sc C s₀ H₀ ex) cF te)
  (pD:swapsWith (.ListComp cF [⟨tg,iter,cz,0⟩] sc pos) (some (.Name x px)) jI.line X.env=pure true:=by rfl)
  (hs:∀x,foldedSetIterable iter X.env x=pure x:=by intro _;rfl):PS X (.Assign [.Name x px] (.ListComp cF [⟨tg,iter,cz,0⟩] sc pos) jI) (tAsg (RU wi cp g tc te) (Gf i)):=by
 intro ae s σ H D I h
 rw[exec_Assign_Name_used _ _ _ _ pD]
 refine jb_ (wpAny_standAt (jb_ ?_))
 show wpAny _ X.A (do let _ <- comprehension (.ListComp cF [⟨tg,iter,cz,0⟩] sc pos) sc X.env _ (newList []) false (eval iter X.env) (some (assign (.Name x px) X.env))) _ _ s
 refine jb_ (qB_ (zg_ (use:=some (assign (.Name x px) X.env)) (Q:=fun _ s'=>SP X ae D .next s') rfl hs (Gg (HS I S)) S.kind S.loc
  (thn (aN ae s σ H _ I h) fun xv s₁ h₁=>thn h₁ fun mz bA aZ=>?_)) (fun _ s' hq=>jo_ (jo_ hq)) fun _ _ e=>e)
 obtain⟨it,fp,tn,J,H2,e,I2,T,aV,f2,hw⟩:=aZ
 subst e
 refine K8 (RR:=fun ah C=>compPost (model X.prog X.w) X.A X.xe (some (assign (.Name x px) X.env)) (fun _ s'=>SP X ae D .next s') ah C) (Q:=fun v H1=>Gf i v σ H1 D.nx) hc S iA hg hf he I2 T aV f2 hw ?_
 intro Dl C s' H' m I' q hn hC hL hz bS hp
 show wpAny _ X.A (assign (.Name x px) X.env (.ref Dl)) _ _ _
 refine wpAny_assign_Name (HK I' hN hi (.inl hx) (v:=.ref Dl) rfl (fun jD pE ⟨a,nQ,ha⟩=>?_) (.inr hx))
 have aw:C≠a:=by
  rcases ha with rfl|ha
  ·exact hL
  ·exact fun z=>bS _ _ ha z.symm
 refine⟨m,hn.sameBut nQ aw,fun h' bF=>⟨_,H',pE.turned (t':=jD.toks) (it:=C) (fun b o hb e=>bF.extBut b o hb e) hC hL (.inr hz) bS hp,q⟩⟩
end
def P0 {K:α3}{a:Addr}{xs:List V}{g:TG}{tc:TT}{te:TE}{Q:VK}{σ:St}{H:Hp}(Pv:Nat->List V->St->Hp->Prop)(h0:Pv 0 [] σ H)(hz:xs.length<sizeLine)
  (hl:∀i ys σ H,i<=xs.length->Pv i ys σ H->SqL K H a xs/\ys.length<=i)
  (hs:∀i x ys σ H,xs[i]?=some x->Pv i ys σ H->g x σ H fun ai H2=>tc ai H2 fun b H3=>if b=true then te ai H3 fun v H4=>Pv (i+1) (ys++[v]) ai H4 else Pv (i+1) ys ai H3)
  (hd:∀ys σ H,Pv xs.length ys σ H->∀D,H D=none->Q (.ref D) (upd H D (.lst ys))):
  ∃W:Nat->Nat->List V->St->Hp->Prop,(∃m,W 0 m [] σ H)/\∀i m ys af H',W i m ys af H' ->
   ys.length<sizeLine/\(((Itl K a).stop i H'/\∀D,H' D=none->Q (.ref D) (upd H' D (.lst ys)))\/((Itl K a).go i H'/\∃N:List V->St->Hp->Prop,(∀zs ai H2,N zs ai H2->∃m',m'<m/\W (i+1) m' zs ai H2)/\∀x H2,(Itl K a).yld i H' x H2->g x af H2 fun ai H3=>tc ai H3 fun b H4=>
    if b=true then te ai H4 fun v H5=>N (ys++[v]) ai H5 else N ys ai H4)):=by
 refine⟨fun i m ys σ H=>m=xs.length-i/\i<=xs.length/\Pv i ys σ H,⟨xs.length,by simp,jY_ _,h0⟩,?_⟩
 rintro i m ys σ H ⟨rfl,hi,p⟩
 obtain⟨q,ly⟩:=hl i ys σ H hi p
 refine⟨by lia,?_⟩
 by_cases aq:i<xs.length
 ·refine .inr ⟨⟨xs,xs[i],q,by simp[aq]⟩,Pv (i+1),fun zs af H' p'=>⟨xs.length-(i+1),by lia,rfl,aq,p'⟩,fun x H' y=>?_⟩
  obtain⟨e,y⟩:=y
  subst e
  exact hs i x ys σ _ (y xs q) p
 ·have e:i=xs.length:=by lia
  subst e
  exact .inl ⟨⟨xs,q,ji_ _⟩,hd ys σ H p⟩
def RV {K:α3}{a:Addr}{xs:List V}{g:TG}{tc:TT}{te:TE}{Q:VK}{σ:St}{H:Hp}(Pv:Nat->List V->St->Hp->Prop)(h0:Pv 0 [] σ H)(hz:xs.length<sizeLine)
  (hl:∀i ys σ H,i<=xs.length->Pv i ys σ H->SqT K H a xs/\ys.length<=i)
  (hs:∀i x ys σ H,xs[i]?=some x->Pv i ys σ H->g x σ H fun ai H2=>tc ai H2 fun b H3=>if b=true then te ai H3 fun v H4=>Pv (i+1) (ys++[v]) ai H4 else Pv (i+1) ys ai H3)
  (hd:∀ys σ H,Pv xs.length ys σ H->∀D,H D=none->Q (.ref D) (upd H D (.lst ys))):
  ∃W:Nat->Nat->List V->St->Hp->Prop,(∃m,W 0 m [] σ H)/\∀i m ys af H',W i m ys af H' ->
   ys.length<sizeLine/\(((Itt K a).stop i H'/\∀D,H' D=none->Q (.ref D) (upd H' D (.lst ys)))\/((Itt K a).go i H'/\∃N:List V->St->Hp->Prop,(∀zs ai H2,N zs ai H2->∃m',m'<m/\W (i+1) m' zs ai H2)/\∀x H2,(Itt K a).yld i H' x H2->g x af H2 fun ai H3=>tc ai H3 fun b H4=>
    if b=true then te ai H4 fun v H5=>N (ys++[v]) ai H5 else N ys ai H4)):=by
 refine⟨fun i m ys σ H=>m=xs.length-i/\i<=xs.length/\Pv i ys σ H,⟨xs.length,by simp,jY_ _,h0⟩,?_⟩
 rintro i m ys σ H ⟨rfl,hi,p⟩
 obtain⟨q,ly⟩:=hl i ys σ H hi p
 refine⟨by lia,?_⟩
 by_cases aq:i<xs.length
 ·refine .inr ⟨⟨xs,xs[i],q,by simp[aq]⟩,Pv (i+1),fun zs af H' p'=>⟨xs.length-(i+1),by lia,rfl,aq,p'⟩,fun x H' y=>?_⟩
  obtain⟨e,y⟩:=y
  subst e
  exact hs i x ys σ _ (y xs q) p
 ·have e:i=xs.length:=by lia
  subst e
  exact .inl ⟨⟨xs,q,ji_ _⟩,hd ys σ H p⟩
def Of {lo:Int}{n:Nat}{g:TG}{tc:TT}{te:TE}{Q:VK}{σ:St}{H:Hp}(Pv:Nat->List V->St->Hp->Prop)(h0:Pv 0 [] σ H)(hz:n<sizeLine)
  (hl:∀i ys σ H,i<=n->Pv i ys σ H->ys.length<=i)
  (hs:∀i ys σ H,i<n->Pv i ys σ H->g (.int (lo+i)) σ H fun ai H2=>tc ai H2 fun b H3=>if b=true then te ai H3 fun v H4=>Pv (i+1) (ys++[v]) ai H4 else Pv (i+1) ys ai H3)
  (hd:∀ys σ H,Pv n ys σ H->∀D,H D=none->Q (.ref D) (upd H D (.lst ys))):
  ∃W:Nat->Nat->List V->St->Hp->Prop,(∃m,W 0 m [] σ H)/\∀i m ys af H',W i m ys af H' ->
   ys.length<sizeLine/\(((Itr lo n).stop i H'/\∀D,H' D=none->Q (.ref D) (upd H' D (.lst ys)))\/((Itr lo n).go i H'/\∃N:List V->St->Hp->Prop,(∀zs ai H2,N zs ai H2->∃m',m'<m/\W (i+1) m' zs ai H2)/\∀x H2,(Itr lo n).yld i H' x H2->g x af H2 fun ai H3=>tc ai H3 fun b H4=>
    if b=true then te ai H4 fun v H5=>N (ys++[v]) ai H5 else N ys ai H4)):=by
 refine⟨fun i m ys σ H=>m=n-i/\i<=n/\Pv i ys σ H,⟨n,by simp,jY_ _,h0⟩,?_⟩
 rintro i m ys σ H ⟨rfl,hi,p⟩
 have ly:=hl i ys σ H hi p
 refine⟨by lia,?_⟩
 by_cases aq:i<n
 ·refine .inr ⟨aq,Pv (i+1),fun zs af H' p'=>⟨n-(i+1),by lia,rfl,aq,p'⟩,fun x H' y=>?_⟩
  obtain⟨e,y⟩:=y
  subst e y
  exact hs i ys σ _ aq p
 ·have e:i=n:=by lia
  subst e
  exact .inl ⟨ji_ _,hd ys σ H p⟩
end L2
namespace L2
open PySem PySem.Spec PyProof.Rows
section
variable {X:Cx}
def J4 {bs:List Bool}{its:List Value}(r:Vals (bs.map V.bl) its){i:Nat}{v:Value}(h:its[i]?=some v):∃b,bs[i]?=some b/\v=.bool b:=by
 have hi:i<its.length:=(jc_.mp h).1
 have hl:=r.length
 rw[ja_]at hl
 obtain⟨u,hu,ru⟩:=r.get (i:=i) (x:=V.bl bs[i]) (by rw[je_];simp[show i<bs.length by lia])
 rw[h]at hu
 cases hu
 exact⟨bs[i],by simp[show i<bs.length by lia],ru⟩
def range_all {bs:List Bool}:(rq bs.length).all (fun i=>bs.getD i false)=bs.all id:=by
 rw[qC_,qw_,qw_]
 constructor
 ·intro h x hx
  obtain⟨i,hi,e⟩:=jV_ hx
  have:=h i (jE_.mpr hi)
  rw[jj_]at this
  simp[hi]at this
  rw[e]at this
  exact this
 ·intro h i hi
  have hi:=jE_.mp hi
  rw[jj_]
  simp[hi]
  exact h _ (j1_ hi)
def Me {bs:List Bool}{its:List Value}{A:Around}{P:Program}{w:World}(r:Vals (bs.map V.bl) its):TruthOf P w A (fun i v=>its.toArray[i]?=some v) (fun i=>bs.getD i false):=by
 intro i v s Q E hv hq
 obtain⟨b,hb,e⟩:=J4 r (by simpa using hv)
 subst e
 refine xF_ ?_
 have e:bs.getD i false=b:=by rw[jj_,hb];rfl
 have hX:Q (bs.getD i false) s:=hq
 rw[e]at hX
 exact hX
def RW (hc:X.calm=true):Cf X (.builtin "all") (fun xs H Q=>∃(p:Addr) (bs:List Bool),xs=[.ref p]/\SqL X.K H p (bs.map V.bl)/\Q (.bl (bs.all id)) H):=by
 intro ae s σ H xs us Q I r h
 obtain⟨p,bs,rfl,hq,q⟩:=h
 obtain⟨u,rfl,ru⟩:=vals1 r
 cases ru
 obtain⟨its,rv,pl,hz⟩:=I.list hq
 have aj:=rv.length
 rw[ja_]at aj
 have hh:X.A.in1.handled=none:=I.ok.hd hc
 obtain⟨o,ho,_⟩:=id pl.isList
 have aw:p≠s.heap.objs.size:=jM_ (jr_ ho)
 refine call_all_walk (zw_ pl.isList ?_)
 refine⟨s.heap.objs.size,_,_,its.toArray.size,_,_,fun i=>bs.getD i false,rfl,Walks.list hh _ p aw its.toArray,⟨⟨_,jx_ _ rfl,rfl,rfl⟩,pl.isList.at fun o e=>jf_ _ e⟩,Me rv,fun h' tk hk=>?_⟩
 refine⟨.bl (bs.all id),H,I.kept (t':=tk) fun b o e=>hk b o ?_ (jf_ _ e),?_,q⟩
 ·intro hb
  have e':b=s.heap.objs.size:=by simpa using hb
  exact absurd (jr_ e) (by rw[e'];exact j8_ _)
 ·rw[jm_,<-aj,range_all];rfl
def Dv:Cf X (.builtin "isinstance") (fun xs H Q=>∃x c cv t b,xs=[x,c]/\TyOf X.K H x t/\(∀u,RelV c u->u=cv)/\kitOne X.K t cv=some b/\Q (.bl b) H):=by
 intro ae s σ H xs us Q I r h
 obtain⟨x,c,cv,t,b,rfl,ty,hc,hk,q⟩:=h
 obtain⟨u,w',rfl,rx,rc⟩:=vals2 r
 rw[hc _ rc]
 exact Ph I rx ty hk fun tk=>⟨.bl b,H,I.tok tk,rfl,q⟩
def EqD (K:α3)(H:Hp):Nat->V->V->Bool->Prop
 |0,x,y,b=>Cy x=true/\Cy y=true/\b=eqV x y
 |n+1,x,y,b=>(Cy x=true/\Cy y=true/\b=eqV x y) \/ ∃a c xs ys,x=.ref a/\y=.ref c/\((SqL K H a xs/\SqL K H c ys)\/(SqT K H a xs/\SqT K H c ys)) /\
   ∃e:Nat->Bool,(∀i x y,xs[i]?=some x->ys[i]?=some y->EqD K H n x y (e i))/\b=(decide (xs.length=ys.length)&&(rq (min xs.length ys.length)).all e)
def in1_units (A:Around):A.in1.units=A.units+1:=rfl
def Ni  (h:Cy x=true):eqV x x=true:=by
 cases x<;>first|rfl|(simp[eqV];done)|exact absurd (show false=true from h) js_
def EqD.self     (I:Inv X ae σ H s):∀(n:Nat) {x:V} {b:Bool},EqD X.K H n x x b->b=true:=by
 intro n
 induction n with
 |zero=>
  rintro x b ⟨fx,_,rfl⟩
  exact Ni fx
 |succ n ih=>
  rintro x b (⟨fx,_,rfl⟩|⟨a,c,xs,ys,rfl,e2,hq,e,he,rfl⟩)
  ·exact Ni fx
  ·cases e2
   have pF:xs=ys:=by
    rcases hq with ⟨h1,h2⟩|⟨h1,h2⟩
    ·exact I.list_inj h1 h2
    ·exact I.tuple_inj h1 h2
   subst pF
   simp only[decide_true,vk,tV,qw_,jE_]
   intro i hi
   exact ih (he i xs[i] xs[i] (by simp[hi]) (by simp[hi]))
def UD   : ((rq (min n m)).all e&&n==m)=(decide (n=m)&&(rq (min n m)).all e):=by
 rw[Bool.and_comm]
 congr 1
def EqD.at     (I:Inv X ae σ H s):∀(n:Nat) (A:Around) {x y:V} {u v:Value} {b:Bool},A.units+n<cLine->RelV x u->RelV y v->EqD X.K H n x y b ->
  SeqAt.EqAt A s u v b/\∀a c,x=.ref a->y=.ref c->SeqAt.RcAt A s u v b:=by
 intro n
 induction n with
 |zero=>
  intro A x y u v b hu rx ry h
  obtain⟨fx,fy,rfl⟩:=h
  refine⟨Pq rx ry fx fy,?_⟩
  rintro a c rfl rfl
  exact absurd (show false=true from fx) js_
 |succ n ih=>
  intro A x y u v b hu rx ry h
  have hself:=h
  rcases h with ⟨fx,fy,rfl⟩|⟨a,c,xs,ys,rfl,rfl,hq,e,he,rfl⟩
  ·refine⟨Pq rx ry fx fy,?_⟩
   rintro a c rfl rfl
   exact absurd (show false=true from fx) js_
  ·cases rx
   cases ry
   have key:∀(its aL:List Value),Vals xs its->Vals ys aL->∀j (h1:j<its.toArray.size) (h2:j<aL.toArray.size),SeqAt.EqAt A.in1 s its.toArray[j] aL.toArray[j] (e j):=fun its aL r1 r2 j h1 h2=>by
    have l1:=r1.length
    have l2:=r2.length
    rw[jm_]at h1 h2
    obtain⟨u1,g1,q1⟩:=r1.get (i:=j) (x:=xs[j]'s!"") (by simp[show j<xs.length by lia])
    obtain⟨u2,g2,q2⟩:=r2.get (i:=j) (x:=ys[j]'s!"") (by simp[show j<ys.length by lia])
    have k1:its.toArray[j]'(by rw[jm_];exact h1)=u1:=by
     have:=(jc_.mp g1).2
     simpa using this
    have k2:aL.toArray[j]'(by rw[jm_];exact h2)=u2:=by
     have:=(jc_.mp g2).2
     simpa using this
    rw[k1,k2]
    exact (ih A.in1 (by rw[in1_units];lia) q1 q2 (he j _ _ (by simp[show j<xs.length by lia]) (by simp[show j<ys.length by lia]))).1
   have rc:SeqAt.RcAt A s (.ref a) (.ref c) (decide (xs.length=ys.length)&&(rq (min xs.length ys.length)).all e):=by
    rcases hq with ⟨h1,h2⟩|⟨h1,h2⟩
    ·obtain⟨its,r1,p1,_⟩:=I.list h1
     obtain⟨aL,r2,p2,_⟩:=I.list h2
     have l1:=r1.length
     have l2:=r2.length
     by_cases hl:xs.length=ys.length
     ·have:=SeqAt.RcAt.lists (e:=e) p1.isList p2.isList (by rw[jm_,jm_];lia) s!"" (key its aL r1 r2)
      rw[jm_,<-l1]at this
      rw[qb_ hl,vk,<-hl,tV]
      exact this
     ·rw[qk_ hl,uI]
      exact SeqAt.RcAt.lists_lengths p1.isList p2.isList (by rw[jm_,jm_];simp;lia) s!""
    ·obtain⟨its,r1,p1,_⟩:=I.tuple h1
     obtain⟨aL,r2,p2,_⟩:=I.tuple h2
     have l1:=r1.length
     have l2:=r2.length
     have:=SeqAt.RcAt.tuples (e:=e) (show s.heap.IsTuple a its.toArray from p1) (show s.heap.IsTuple c aL.toArray from p2) s!"" (key its aL r1 r2)
     rw[jm_,jm_,<-l1,<-l2,UD]at this
     exact this
   refine⟨?_,fun a' c' _ _=>rc⟩
   by_cases hac:a=c
   ·subst hac
    rw[EqD.self I (n+1) hself]
    exact SeqAt.EqAt.same _
   ·exact SeqAt.EqAt.of_refs hac rc
def EqD.flat {K:α3}    (hq:(SqL K H a xs/\SqL K H c ys)\/(SqT K H a xs/\SqT K H c ys))(fx:∀x∈xs,Cy x=true)(fy:∀y∈ys,Cy y=true)(hi:∀x∈xs,∀y∈ys,eqV x y=decide (x=y))(n:Nat):
  EqD K H (n+1) (.ref a) (.ref c) (decide (xs=ys)):=by
 have base:∀m i x y,xs[i]?=some x->ys[i]?=some y->EqD K H m x y (decide (x=y)):=fun m i x y h1 h2=>by
  have m1:=jd_ h1
  have m2:=jd_ h2
  cases m with
  |zero=>exact⟨fx _ m1,fy _ m2,(hi _ m1 _ m2).symm⟩
  |succ m=>exact .inl ⟨fx _ m1,fy _ m2,(hi _ m1 _ m2).symm⟩
 refine .inr ⟨a,c,xs,ys,rfl,rfl,hq,fun i=>match xs[i]?,ys[i]? with|some x,some y=>decide (x=y)|_,_=>true,fun i x y h1 h2=>?_,?_⟩
 ·simp only[h1,h2]
  exact base n i x y h1 h2
 ·rw[qC_]
  simp only[qy_,qi_,qw_,jE_]
  constructor
  ·rintro rfl
   refine⟨rfl,fun i hi=>?_⟩
   have hi:i<xs.length:=by lia
   simp[hi]
  ·rintro⟨hl,h⟩
   refine qT_ fun i=>?_
   by_cases hi:i<xs.length
   ·have:=h i s!""
    simp[hi,show i<ys.length by lia]at this
    simp[hi,show i<ys.length by lia,this]
   ·rw[jU_ s!"",jU_ s!""]
end
end L2
namespace L2
open PySem PySem.Spec PyProof.Rows
def V3 (outer:List (Str×NameKind))(sc:Scope):Bool:=
 sc.kind == .function&&sc.names.all (fun y=>y.2 != .cell&&(y.2 != .local||sc.names.lookup y.1==some .local)&&(y.2 != .free||outer.lookup y.1==some .cell||outer.lookup y.1==some .free))
def A3   (h:V3 X.env.scope.names sc=true):BlkSc X sc:=by
 unfold V3 at h
 rw[qi_,qw_]at h
 obtain⟨h1,h2⟩:=h
 refine⟨by simpa using h1,fun y hy z=>?_,fun y hy z=>?_,fun y hy z=>?_⟩
 ·have:=h2 y hy
  simp only[qi_]at this
  have:=this.1.1
  rw[z]at this
  exact absurd this (by decide)
 ·have:=h2 y hy
  simp only[qi_]at this
  have:=this.1.2
  rw[z]at this
  simpa using this
 ·have:=h2 y hy
  simp only[qi_]at this
  have:=this.2
  rw[z]at this
  have t:(X.env.scope.names.lookup y.1==some .cell||X.env.scope.names.lookup y.1==some .free)=true:=by simpa using this
  rw[uA]at t
  rcases t with t|t
  ·exact .inl (by show X.env.scope.names.lookup y.1=some .cell;simpa using t)
  ·exact .inr (by show X.env.scope.names.lookup y.1=some .free;simpa using t)
section
variable {t u:TS} {te ta tb tc':TE} {tt tu:TT} {A B:TA} {D:Ends} {σ:St} {H:Hp} {Q:VK} {R:Bool->Hp->Prop} {S:List V->Hp->Prop} {i:Nat} {v:V} {g:TG} {r r':R2} {K:α3} {wi:TI} {cp:Caps}
theorem V4:tSeq t u D σ H=t {D with nx:=u D} σ H:=rfl
theorem S9:VB D σ H=D.nx σ H:=rfl
theorem V5:tAsg te g D σ H=te σ H fun x H1=>g x σ H1 D.nx:=rfl
theorem P4  : Gf i v σ H N=N (σ.set i (some v)) H:=rfl
theorem V6:tVar i σ H Q=∃v,σ[i]?=some (some v)/\Q v H:=rfl
theorem r_c:tC v σ H Q=Q v H:=rfl
theorem r_op:tOp r ta tb σ H Q=ta σ H fun x H1=>tb σ H1 fun y H2=>r x y H2 Q:=rfl
theorem r_un  : tUn f ta σ H Q=ta σ H fun x H1=>f x H1 Q:=rfl
theorem r_I    : rI C f x y H Q=∃i j,x=.int i/\y=.int j/\C i j/\Q (f i j) H:=rfl
theorem r_I0   : rI0 f x y H Q=∃i j,x=.int i/\y=.int j/\Q (f i j) H:=rfl
theorem r_U   : rU f x H Q=∃i,x=.int i/\Q (f i) H:=rfl
theorem Ta    : Ut sp gY E A σ H Q=A σ H fun vs H1=>sp (vs++gY) H1 Q E:=rfl
theorem Tb:VN te A σ H S=te σ H fun x H1=>A σ H1 fun xs H2=>S (x::xs) H2:=rfl
theorem V7:tNil σ H S=S [] H:=rfl
theorem V8:tRet te D σ H=te σ H D.rt:=rfl
theorem Tc:VC te D σ H=te σ H fun _ H1=>D.nx σ H1:=rfl
theorem r_if:tIfS tt t u D σ H=tt σ H fun b H1=>if b=true then t D σ H1 else u D σ H1:=rfl
theorem r_B:tB te σ H R=te σ H fun x H1=>∃c,x=.bl c/\R c H1:=rfl
theorem Td:RI te σ H R=te σ H fun x H1=>∃c,x=.bl c/\R c H1:=rfl
theorem V9:tAnd tt tu σ H R=tt σ H fun c H1=>if c=true then tu σ H1 R else R false H1:=rfl
theorem r_or:tOr tt tu σ H R=tt σ H fun c H1=>if c=true then R true H1 else tu σ H1 R:=rfl
theorem Wa:tNot tt σ H R=tt σ H fun c H1=>R (!c) H1:=rfl
theorem Te:Vy ta tb σ H Q=ta σ H fun x H1=>∃c,x=.bl c/\if c=true then tb σ H1 Q else Q (.bl false) H1:=rfl
theorem P5:S6 r r' ta tb tc' σ H Q=ta σ H fun x H1=>tb σ H1 fun y H2=>r x y H2 fun z H3=>∃k,z=.bl k/\(if k=true then tc' σ H3 fun w' H4=>r' y w' H4 Q else Q (.bl false) H3):=rfl
theorem r_CB  : tCB f A σ H Q=A σ H fun vs H1=>f vs H1 Q:=rfl
theorem Wb:tLst A σ H Q=A σ H fun xs H1=>xs.length<=sizeLine/\∀p,H1 p=none->Q (.ref p) (upd H1 p (.lst xs)):=rfl
theorem Wc:tTup A σ H Q=A σ H fun xs H1=>xs.length<=sizeLine/\∀p,H1 p=none->Q (.ref p) (upd H1 p (.tup xs)):=rfl
theorem We  : rIxL K x y H Q=∃p xs i v,x=.ref p/\y=.int i/\SqL K H p xs/\atI xs i=some v/\Q v H:=rfl
theorem Wg  : rIxT K x y H Q=∃p xs i v,x=.ref p/\y=.int i/\SqT K H p xs/\atI xs i=some v/\Q v H:=rfl
theorem r_sl   : tSl f te tl th σ H Q=te σ H fun x H1=>tl σ H1 fun l H2=>th σ H2 fun u H3=>f x l u H3 Q:=rfl
theorem Tf  : VR te σ H U=te σ H fun x H1=>∃i,x=.int i/\U (some i) H1:=rfl
theorem Nj  : Pk σ H U=U none H:=rfl
theorem Wi  {lo hi:Option Int}:rSlL K x lo hi H Q=∃a xs,x=.ref a/\SqL K H a xs/\∀p,H p=none->Q (.ref p) (upd H p (.lst (cutV xs lo hi))):=rfl
theorem r_BM   : tBM K T f te A σ H Q=te σ H fun x H1=>tyV K T x H1/\A σ H1 fun xs H2=>f x xs H2 Q:=rfl
theorem Nk   : Pt x vs H Q=∃l xs y,x=.ref l/\vs=[y]/\H l=some (.lst xs)/\xs.length<sizeLine/\Q .non (upd H l (.lst (xs++[y]))):=rfl
theorem Tg    : gSub to ti ts v σ H N=to σ H fun o H1=>ti σ H1 fun i H2=>ts o i v H2 fun H3=>N σ H3:=rfl
theorem Th   : VU o k v H N=∃p xs m j,o=.ref p/\k=.int m/\H p=some (.lst xs)/\ixN xs.length m=some j/\N (upd H p (.lst (xs.set j v))):=rfl
theorem r_Eq  : rEq x y H Q=(scal x y=true/\Q (.bl (decide (x=y))) H):=rfl
theorem r_Ne  : rNe x y H Q=(scal x y=true/\Q (.bl (!decide (x=y))) H):=rfl
theorem P6  : VG K te σ H Z=te σ H fun x H1=>∃a,x=.ref a/\(∃xs,SqL K H1 a xs)/\Z (Itl K a) H1:=rfl
theorem Ti  : iTup K te σ H Z=te σ H fun x H1=>∃a,x=.ref a/\(∃xs,SqT K H1 a xs)/\Z (Itt K a) H1:=rfl
theorem P7  : VH A σ H Z=A σ H fun vs H1=>∃j:Int,vs=[.int j] /\ -(2 ^ 62)<=j/\j<2 ^ 62/\Z (Itr 0 j.toNat) H1:=rfl
theorem Wj  : tAug i te ti D σ H=∃x,σ[i]?=some (some x)/\te σ H fun y H1=>ti x y H1 fun z H2=>D.nx (σ.set i (some z)) H2:=rfl
theorem r_ip   : ipI f x y H Q=∃i j,x=.int i/\y=.int j/\Q (.int (f i j)) H:=rfl
theorem Tj:Oe σ H R=R true H:=rfl
end
def Same.new    (h:H p=none):Same H (upd H p o):=fun b u e=>by rw[Aj (Aq e h)];exact e
def Same.newT    (s:Same H H')(h:H' p=none):Same H (upd H' p o):=s.trans (Same.new h)
def Same.over    (s:Same H H')(h:H p=none):Same H (upd H' p o):=fun b u e=>by rw[Aj (Aq e h)];exact s b u e
def AI    (h:upd H p o D=none):H D=none/\D≠p:=by
 by_cases e:D=p
 ·subst e;rw[Ab]at h;cases h
 ·rw[Aj e]at h;exact⟨h,e⟩
def Same.seqT {K:α3}    (e:Same H H')(h:SqT K H a xs):SqT K H' a xs:=by
 rcases h with (h|⟨o,h⟩)|h
 ·exact .inl (.inl (e _ _ h))
 ·exact .inl (.inr ⟨o,e _ _ h⟩)
 ·exact .inr h
def hu9   (hr:Room k A):A.units+8<cLine:=by have:=hr.units;lia
section
variable {K:α3} {wi:TI} {cp:Caps} {g:TG} {tc:TT} {te:TE} {σ:St} {H:Hp} {Q:VK}
theorem Wk               : (cxOf CX P w K mg base N qual scope f cd A outer s H E).K=K:=rfl
def K9 (J:It)(cp:Caps)(g:TG)(tc:TT)(te:TE)(σ:St)(H1:Hp)(Q:VK):Prop:=∃W:Nat->Nat->List V->St->Hp->Prop,(∃m,W 0 m [] (cp.st σ) H1)/\∀i m ys af H',W i m ys af H' ->
 ys.length<sizeLine/\((J.stop i H'/\∀D,H' D=none->Q (.ref D) (upd H' D (.lst ys)))\/(J.go i H'/\∃N:List V->St->Hp->Prop,(∀zs ai H2,N zs ai H2->∃m',m'<m/\W (i+1) m' zs ai H2)/\∀x H2,J.yld i H' x H2->g x af H2 fun ai H3=>tc ai H3 fun b H4=>
  if b=true then te ai H4 fun v H5=>N (ys++[v]) ai H5 else N ys ai H4))
theorem Tn:RU wi cp g tc te σ H Q=wi σ H fun J H1=>K9 J cp g tc te σ H1 Q:=rfl
def ForW (J:It)(g:TG)(tb:TS)(D:Ends)(σ:St)(H1:Hp):Prop:=∃W:Nat->Nat->St->Hp->Prop,(∃m,W 0 m σ H1)/\∀i m σ H,W i m σ H ->
 (J.stop i H/\D.nx σ H)\/(J.go i H/\∃N:St->Hp->Prop,(∀af H',N af H'->∃m',m'<m/\W (i+1) m' af H')/\∀x H',J.yld i H x H'->g x σ H' fun ai H2=>tb {D with nx:=N,ct:=N,bk:=D.nx} ai H2)
theorem Wl   : tFor wi g tb D σ H=wi σ H fun J H1=>ForW J g tb D σ H1:=rfl
def forL        (Pv:Nat->St->Hp->Prop)(h0:Pv 0 σ H)(hl:∀i σ H,i<=xs.length->Pv i σ H->SqL K H a xs)
  (hs:∀i x σ H,xs[i]?=some x->Pv i σ H->g x σ H fun ai H2=>tb {D with nx:=Pv (i+1),ct:=Pv (i+1),bk:=D.nx} ai H2) (hd:∀σ H,Pv xs.length σ H->D.nx σ H):ForW (Itl K a) g tb D σ H:=RG Pv h0 hl hs hd
def forT        (Pv:Nat->St->Hp->Prop)(h0:Pv 0 σ H)(hl:∀i σ H,i<=xs.length->Pv i σ H->SqT K H a xs)
  (hs:∀i x σ H,xs[i]?=some x->Pv i σ H->g x σ H fun ai H2=>tb {D with nx:=Pv (i+1),ct:=Pv (i+1),bk:=D.nx} ai H2) (hd:∀σ H,Pv xs.length σ H->D.nx σ H):ForW (Itt K a) g tb D σ H:=Uq Pv h0 hl hs hd
def forR {lo:Int}       (Pv:Nat->St->Hp->Prop)(h0:Pv 0 σ H)
  (hs:∀i σ H,i<n->Pv i σ H->g (.int (lo+i)) σ H fun ai H2=>tb {D with nx:=Pv (i+1),ct:=Pv (i+1),bk:=D.nx} ai H2) (hd:∀σ H,Pv n σ H->D.nx σ H):ForW (Itr lo n) g tb D σ H:=O8 Pv h0 hs hd
def IV   (Pv:Nat->List V->St->Hp->Prop)(h0:Pv 0 [] (cp.st σ) H)(hz:xs.length<sizeLine)
  (hl:∀i ys σ H,i<=xs.length->Pv i ys σ H->SqL K H a xs/\ys.length<=i)
  (hs:∀i x ys σ H,xs[i]?=some x->Pv i ys σ H->g x σ H fun ai H2=>tc ai H2 fun b H3=>if b=true then te ai H3 fun v H4=>Pv (i+1) (ys++[v]) ai H4 else Pv (i+1) ys ai H3)
  (hd:∀ys σ H,Pv xs.length ys σ H->∀D,H D=none->Q (.ref D) (upd H D (.lst ys))):K9 (Itl K a) cp g tc te σ H Q:=P0 Pv h0 hz hl hs hd
def UE   (Pv:Nat->List V->St->Hp->Prop)(h0:Pv 0 [] (cp.st σ) H)(hz:xs.length<sizeLine)
  (hl:∀i ys σ H,i<=xs.length->Pv i ys σ H->SqT K H a xs/\ys.length<=i)
  (hs:∀i x ys σ H,xs[i]?=some x->Pv i ys σ H->g x σ H fun ai H2=>tc ai H2 fun b H3=>if b=true then te ai H3 fun v H4=>Pv (i+1) (ys++[v]) ai H4 else Pv (i+1) ys ai H3)
  (hd:∀ys σ H,Pv xs.length ys σ H->∀D,H D=none->Q (.ref D) (upd H D (.lst ys))):K9 (Itt K a) cp g tc te σ H Q:=RV Pv h0 hz hl hs hd
def J5 {lo:Int}  (Pv:Nat->List V->St->Hp->Prop)(h0:Pv 0 [] (cp.st σ) H)(hz:n<sizeLine)
  (hl:∀i ys σ H,i<=n->Pv i ys σ H->ys.length<=i)
  (hs:∀i ys σ H,i<n->Pv i ys σ H->g (.int (lo+i)) σ H fun ai H2=>tc ai H2 fun b H3=>if b=true then te ai H3 fun v H4=>Pv (i+1) (ys++[v]) ai H4 else Pv (i+1) ys ai H3)
  (hd:∀ys σ H,Pv n ys σ H->∀D,H D=none->Q (.ref D) (upd H D (.lst ys))):K9 (Itr lo n) cp g tc te σ H Q:=Of Pv h0 hz hl hs hd
def ES    (f:V->V)(e:cp.st σ=none::af)(hl:SqT K H a xs)(hz:xs.length<sizeLine)(hs:∀x∈xs,∀R:VK,R (f x) H->te (some x::af) H R)(hd:∀D,H D=none->Q (.ref D) (upd H D (.lst (xs.map f)))):
  K9 (Itt K a) cp (Gf 0) Oe te σ H Q:=by
 refine UE (xs:=xs) (fun i ys ai H2=>H2=H/\ys=(xs.take i).map f/\∃o,ai=o::af) ⟨rfl,by simp,none,e⟩ hz (fun i ys ai H2 hi h=>?_) (fun i x ys ai H2 hx h=>?_) (fun ys ai H2 h=>?_)
 ·obtain⟨rfl,rfl,_⟩:=h
  exact⟨hl,by rw[ja_,jw_];lia⟩
 ·obtain⟨rfl,rfl,o,rfl⟩:=h
  refine hs x (jd_ hx) _ ⟨rfl,?_,some x,rfl⟩
  rw[jQ_,hx];simp
 ·obtain⟨rfl,rfl,_⟩:=h
  rw[jO_]
  exact hd
def ET    (f:V->V)(e:cp.st σ=none::af)(hl:SqL K H a xs)(hz:xs.length<sizeLine)(hs:∀x∈xs,∀R:VK,R (f x) H->te (some x::af) H R)(hd:∀D,H D=none->Q (.ref D) (upd H D (.lst (xs.map f)))):
  K9 (Itl K a) cp (Gf 0) Oe te σ H Q:=by
 refine IV (xs:=xs) (fun i ys ai H2=>H2=H/\ys=(xs.take i).map f/\∃o,ai=o::af) ⟨rfl,by simp,none,e⟩ hz (fun i ys ai H2 hi h=>?_) (fun i x ys ai H2 hx h=>?_) (fun ys ai H2 h=>?_)
 ·obtain⟨rfl,rfl,_⟩:=h
  exact⟨hl,by rw[ja_,jw_];lia⟩
 ·obtain⟨rfl,rfl,o,rfl⟩:=h
  refine hs x (jd_ hx) _ ⟨rfl,?_,some x,rfl⟩
  rw[jQ_,hx];simp
 ·obtain⟨rfl,rfl,_⟩:=h
  rw[jO_]
  exact hd
end
def tCut (t u:TS):TS:=fun D σ H=>∃R:St->Hp->Prop,t {D with nx:=R} σ H/\∀af H',R af H'->u D af H'
def BA  {st:Stmt}{rest:List Stmt}  (h1:PS X st t)(h2:PSs X rest u):PSs X (st::rest) (tCut t u):=by
 intro ae s σ H D I h
 obtain⟨R,ha,hb⟩:=h
 refine wpAny_execs_cons (thn (h1 ae s σ H {D with nx:=R} I ha) fun f s1 q=>?_)
 cases f with
 |next=>
  obtain⟨af,H',I',q⟩:=q
  exact h2 ae s1 af H' D I' (hb af H' q)
 |ret v=>exact q
 |brk=>exact q
 |cont=>exact q
def As:1000000<sizeLine:=by rw[sizeLine_eq];decide
def CT {ns:α2}{x:V}(h:x∈ns.map V.int):∃n,n∈ns/\x=.int n:=by
 obtain⟨n,hn,e⟩:=jv_.mp h
 exact⟨n,hn,e.symm⟩
def BP {ns:α2}{i:Nat}{x:V}(h:(ns.map V.int)[i]?=some x):∃n,ns[i]?=some n/\x=.int n:=by
 rw[je_]at h
 cases e:ns[i]? with
 |none=>rw[e]at h;cases h
 |some n=>rw[e]at h;exact⟨n,rfl,(jq_ h).symm⟩
def cutI (ns:α2)(lo hi:Option Int):α2:=(ns.drop (HT.sIx ns.length 0 lo)).take (HT.sIx ns.length ns.length hi-HT.sIx ns.length 0 lo)
def Nl (ns:α2)(lo hi:Option Int):cutV (ns.map V.int) lo hi=(cutI ns lo hi).map V.int:=by
 unfold cutV cutI
 rw[ja_,<-List.map_drop,<-tI]
def Nm (ns:α2)(j:Nat)(x:Int):(ns.map V.int).set j (.int x)=(ns.set j x).map V.int:=by rw[tW]
def Wm {n:Nat}{i:Int}(h0:0<=i)(h1:i<n):ixN n i=some i.toNat:=by
 unfold ixN;rw[if_pos h0,if_pos h1]
def B1     (h0:0<=i)(h:xs[i.toNat]?=some v):atI xs i=some v:=by
 have:=Ee h
 rwa [show ((i.toNat:Nat):Int)=i by lia]at this
def J6 {K:α3}  : kitOne K t t=some true:=by unfold kitOne;rw[if_pos (by simp)]
def La {K:α3}:kitOne K (.type "int") (.type "bool")=some false:=by
 first|rfl|decide +kernel|(unfold kitOne;kernel_rfl)
def Nn  : ∀u,RelV (V.ty n) u->u=.type n:=fun _ h=>h
end L2
namespace L2
open PySem PySem.W PySem.Spec PySem.Calls PyProof.Rows
section
variable {prog:Program} {w:World} {A:Around} {E:Value->Shared->Prop} {s:Shared} {K:Frag} {x D:Addr} {ox:Obj}
structure ExcCls (K:Frag)(D:Addr):Prop where
 ga:findIn K (.ref D) "__getattribute__"=some (some (.builtin "BaseException.__getattribute__"))
 hk:findIn K (.ref D) "__getattr__"=some none
 cl:(clsIn K D).isSome=true
 ca:findIn K (.ref D) "__class__"=some (some (.builtin "object.__class__"))
 gs:specialIn K (.builtin "object.__class__") "__get__"=some (some (.builtin "getset_descriptor.__get__"))
 tk:takesIn K (.builtin "object.__class__")=some true
 mo:mroIn K D (.type "object")=some true
 mb:mroIn K D (.type "BaseException")=some true
def ExcAt (x D:Addr)(h:Heap):Prop:=∃ox,h.get? x=some ox/\ox.cls=.ref D
def ExcAt.type   (I:ExcAt x D h):Looks M h (typeOf (.ref x)) (.ref D):=by
 obtain⟨ox,h1,h2⟩:=I
 exact h2 ▸ (Looks.ld h1).andThen .now
def RX   (X:K.In h)(C:ExcCls K D):Looks M h (Builtin.ObjectAttr.find (.ref x) (.ref D) "__class__") (.bind (.builtin "getset_descriptor.__get__") (.builtin "object.__class__")):=
 (looks_findIn X C.ca).andThen ((show Looks M h (Builtin.ObjectAttr.getOf (some (.builtin "object.__class__"))) _ from looks_specialIn X C.gs).andThen
  ((show Looks M h (Builtin.ObjectAttr.dataDescriptor? (some (.builtin "object.__class__")) (some (.builtin "getset_descriptor.__get__"))) (some (.builtin "getset_descriptor.__get__",.builtin "object.__class__")) from (looks_takesIn X C.tk).andThen .now).andThen (Looks.tag .now)))
open Builtin Builtin.ObjectAttr Builtin.Getset_descriptor in
def UG {R:Result->Shared->Prop}{tp:Value}(X:K.In s.heap)(I:ExcAt x D s.heap)(hm:mroIn K D (.type "object")=some true)
  (h:R (.ok (.ret (.ref D))) s):codeAny (model prog w) A (.call (.builtin "getset_descriptor.__get__") ⟨[.builtin "object.__class__",.ref x,tp],[]⟩) R s:=by
 obtain⟨hh,g,dr,t,os⟩:=s
 have L0:=I.type (M:=model prog w)
 have L1:=looks_mroIn (M:=model prog w) X hm
 refine codeAny_call_builtin KF.slot_gs.plain KF.entry_gs (KF.slot_gs.check _ _ _ _ _ _ _ _ KF.type_class (KF.args_gs _ _ _) ?_)
 unfold Builtin.«getset_descriptor.__get__» descrGet
 rw[dga_obj]
 refine jb_ (jo_ ?_)
 unfold descrGetter descrCheckInstance descrNameAndClass isInstance
 simp only[KF.owner_class]
 repeat lk
 refine⟨Code.quiet_builtin _ (by decide +kernel),codeAny_builtin KF.entry_class ?_⟩
 unfold Builtin.«object.__class__» shownTypeOf
 repeat lk
 exact h
def P8    (X:K.In s.heap)(I:ExcAt x D s.heap)(C:ExcCls K D)(hq:Q () s):wpAny M A (checkBuiltinCall "BaseException.__getattribute__" ⟨[.ref x,nameV],[]⟩) Q E s:=by
 obtain⟨hh,g,d,t,os⟩:=s
 have hk:builtinKind "BaseException.__getattribute__"=some .slot:=by decide +kernel
 have hsplit:splitId "BaseException.__getattribute__"=some ("BaseException","__getattribute__"):=by decide +kernel
 have ha:=F.args_bexc_ga (.ref x) nameV
 have L0:=I.type (M:=M)
 have L1:=looks_mroIn (M:=M) X C.mb
 simp only[checkBuiltinCall,hk,hsplit]
 refine jb_ ?_
 unfold isInstance
 repeat (first|lk|wp_step)
 exact hq
def P9   (X:K.In s.heap)(I:ExcAt x D s.heap)(C:ExcCls K D)(hq:Q (.done (.ret (.ref D))) s):wpAny (model prog w) A (Builtin.«object.__getattribute__» ⟨[.ref x,.str "__class__" tk],[]⟩) Q E s:=by
 obtain⟨hh,g,d,t,os⟩:=s
 have L0:=I.type (M:=model prog w)
 have L1:=RX (M:=model prog w) (x:=x) X C
 unfold Builtin.«object.__getattribute__»
 refine jb_ (jo_ ?_)
 refine jb_ (jo_ ?_)
 refine jb_ (L0.at ?_)
 refine jb_ (L1.at ?_)
 show wpAny _ _ (Builtin.ObjectAttr.bindTo _ _ _ _) _ _ _
 unfold Builtin.ObjectAttr.bindTo
 dsimp only
 refine jb_ (qJ_ (wpAny_call (UG (K:=K) (s:=⟨hh,g,d,t,os⟩) X I C.mo ?_)))
 exact jo_ hq
def Qa  (X:K.In s.heap)(I:ExcAt x D s.heap)(C:ExcCls K D)(h:Q (some (.ref D)) {s with toks:=s.toks+1}):wpAny (model prog w) A (getAttr? (.ref x) "__class__") Q E s:=by
 obtain⟨hh,g,d,t,os⟩:=s
 have L0:=I.type (M:=model prog w)
 have L1:=looks_findIn (M:=model prog w) X C.ga
 have L2:=looks_findIn (M:=model prog w) X C.hk
 unfold getAttr? getAttrBy? getAttrBy
 refine jb_ (wpAny_mkText (jb_ (xl_ (qJ_ (jb_ (L0.at (jb_ (L1.at ?_))))))))
 show wpAny _ _ (getAttrByItsOwn _ _ _ _ _ _) _ _ _
 unfold getAttrByItsOwn hookBefore
 refine jb_ ?_
 rw[if_pos (by rfl)]
 refine L2.at (jb_ (xl_ (qJ_ ?_)))
 unfold callGetattribute
 rw[if_neg (by decide)]
 unfold boundAndCalled
 have f3:=PySem.F.attr_ValueError.ga.bind (.ref x)
 refine jb_ (wpAny_of_eq f3 ?_)
 refine wpAny_call (codeAny_call_builtin PySem.F.attr_ValueError.ga.plain F.entry_bexc_ga (P8 (K:=K) (s:=⟨hh,g,d,t+1,os⟩) X I C (P9 (K:=K) (s:=⟨hh,g,d,t+1,os⟩) X I C ?_)))
 exact jo_ (jo_ h)
def RY (C:ExcCls K D):KitX K (.ref x) (.ref D) (ExcAt x D) where
 ty:=fun _ _ _ I=>I.type
 it:=fun _ _ X _=>by
  obtain⟨cdD,jJ⟩:=xI_.mp C.cl
  unfold clsIn at jJ
  split at jJ
  ·rename_i c' d' cd' oN ho
   intro A' Q' E' s' k q
   unfold isType loadHead
   exact jb_ (wpAny_loadPart (k _ _ (X _ _ ho)) (jo_ q))
  ·cases jJ
 ne:=fun h tp dd its n sl X htp=>by
  obtain⟨cdD,jJ⟩:=xI_.mp C.cl
  refine Bool.eq_false_iff.mpr fun q=>?_
  have e:D=tp:=Value.ref.inj (wc_.mp q)
  subst e
  unfold clsIn at jJ
  split at jJ
  ·rename_i c' d' cd' oN ho
   have z:=(X _ _ ho).symm.trans htp
   cases z
  ·cases jJ
 ca:=fun X I k=>Qa X I C k
end
end L2
namespace L2
open PySem PySem.Spec PyProof.Rows
def excO (ea C:Addr):HO:=.ext (ExcAt ea C)
def Lb  : Cf X (.builtin "isinstance") (fun xs H Q=>∃ea C c cv b,xs=[.ref ea,c]/\H ea=some (excO ea C)/\ExcCls X.K C/\(∀u,RelV c u->u=cv)/\kitOne X.K (.ref C) cv=some b/\Q (.bl b) H):=by
 intro ae s σ H xs us Q I r h
 obtain⟨ea,C,c,cv,b,rfl,hea,hC,hc,hk,q⟩:=h
 obtain⟨u,w',rfl,rx,rc⟩:=vals2 r
 rw[hc _ rc]
 cases rx
 obtain⟨p,_,_⟩:=(show Bj X.prog X.w H s.heap ea (.ext (ExcAt ea C)) from I.hok ea _ hea)
 exact qx_ (RY hC) I.kIn p hk (fun z=>nomatch z) fun tk=>⟨.bl b,H,I.tok tk,rfl,q⟩
end L2
namespace HT
open PySem PySem.Spec PyProof.Rows
open PySem.AutoSeq1 (wpAny_loadPart')
section
open PySem.SeqAt PySem.MeetsSeq PySem.MeetsSeq2 PySem.MeetsSeq3
def tuple_addW0 (l b:Addr)(items aO:Array Value)(n n2:Nat)(dd g8:Option Addr)(sl fP:Array (α5))(hc0:items.isEmpty=true):
  Meets (Builtin.«tuple.__add__» ⟨[.ref l,.ref b],[]⟩) (fun _ R s=>s.heap.get? l=some {cls:=.type "tuple",dict:=dd,data:=.seq items n,slots:=sl}/\s.heap.get? b=some {cls:=.type "tuple",dict:=g8,data:=.seq aO n2,slots:=fP}/\R (.ok (.ret (Value.ref b))) {s with heap:=s.heap,toks:=s.toks}):=
 .of_wp fun prog w A R s h=>by obtain⟨hp,g,d,tk,os⟩:=s;obtain⟨hl,hb,h⟩:=h;have f1:=zK_;have f2:=AutoSeq1.sub_tuple_tuple;have f3:=AutoSeq1.sub_list_list;have f4:=AutoSeq1.sub_tuple_list;have f5:=AutoSeq1.sub_list_tuple;wp_walk using j4_ hl,j4_ hb;exact⟨_,rfl,h⟩
def int_rmul_tup (a:Int)(t:Tok)(l:Addr)(items:Array Value)(n:Nat)(dd:Option Addr)(sl:Array (α5)):
  Meets (Builtin.«int.__rmul__» ⟨[.int a t,.ref l],[]⟩) (fun _ R s=>s.heap.get? l=some {cls:=.type "tuple",dict:=dd,data:=.seq items n,slots:=sl}/\R (.ok (.ret Value.notImplemented)) s):=
 .of_wp fun prog w A R s h=>by obtain⟨hp,g,d,tk,os⟩:=s;obtain⟨hl,h⟩:=h;wp_walk using j4_ hl;exact⟨_,rfl,h⟩
def noFill_tuple_mul:fillsNumberSlot (.type "tuple") "mul"=pure false:=by
 first|exact fillsNumberSlot_false (by decide +kernel)|(unfold fillsNumberSlot;kernel_rfl)|kernel_rfl
def repeat_tuple:seqRepeat? (.type "tuple")=pure (some (.builtin "tuple.__mul__")):=by
 unfold seqRepeat?
 rw[ui (T := "tuple") (name := "__mul__") (id := "tuple.__mul__") zL_.lookup (by decide +kernel),ui (T := "tuple") (name := "__rmul__") (id := "tuple.__rmul__") F.slot_tuple_rmul.lookup (by decide +kernel)]
 rfl
def tup_mul_one (l:Addr)(items:Array Value)(n:Nat)(dd:Option Addr)(sl:Array (α5))(u:Tok):
  Meets (Builtin.«tuple.__mul__» ⟨[.ref l,.int 1 u],[]⟩) (fun _ R s=>s.heap.get? l=some {cls:=.type "tuple",dict:=dd,data:=.seq items n,slots:=sl}/\R (.ok (.ret (Value.ref l))) s):=
 .of_wp fun prog w A R s h=>by
  obtain⟨hp,g,d,tk,os⟩:=s;obtain⟨hl,h⟩:=h
  have f1:=zK_
  unfold Builtin.«tuple.__mul__»
  wp_walk using j4_ hl
  exact⟨_,rfl,h⟩
def tup_mul_none (l:Addr)(items:Array Value)(n:Nat)(dd:Option Addr)(sl:Array (α5))(x:Int)(u:Tok)(h0:¬ items.isEmpty=true)(h1:x<=0)(h2 : -(2 ^ 63)<=x):
  Meets (Builtin.«tuple.__mul__» ⟨[.ref l,.int x u],[]⟩) (fun _ R s=>s.heap.get? l=some {cls:=.type "tuple",dict:=dd,data:=.seq items n,slots:=sl}/\R (.ok (.ret (Value.ref s.heap.objs.size))) {s with heap:=s.heap.push {cls:=.type "tuple",data:=.seq #[]} }):=
 .of_wp fun prog w A R s h=>by
  obtain⟨hp,g,d,tk,os⟩:=s;obtain⟨hl,h⟩:=h
  have f1:=zK_
  have c1:(decide (x < -(2 ^ 63:Int))||decide (x >= 2 ^ 63))=false:=by simp;lia
  have c2:(items.isEmpty||x==1)=false:=by simp at h0 ⊢;exact⟨h0,by lia⟩
  have c3:(decide (x<=0)||items.isEmpty)=true:=by simp[h1]
  unfold Builtin.«tuple.__mul__»
  wp_walk using j4_ hl
  rw[if_neg (by rw[c1];exact js_)]
  wp_walk using j4_ hl
  rw[if_neg (by rw[c2];exact js_)]
  rw[if_pos c3]
  wp_walk using j4_ hl
  exact⟨_,rfl,h⟩
def tup_mul_many (l:Addr)(items:Array Value)(n:Nat)(dd:Option Addr)(sl:Array (α5))(x:Int)(u:Tok)(h0:¬ items.isEmpty=true)(h1:1<x)(h2:x<2 ^ 63)(h3:items.size*x.toNat<=sizeLine):
  Meets (Builtin.«tuple.__mul__» ⟨[.ref l,.int x u],[]⟩) (fun _ R s=>s.heap.get? l=some {cls:=.type "tuple",dict:=dd,data:=.seq items n,slots:=sl}/\R (.ok (.ret (Value.ref s.heap.objs.size))) {s with heap:=s.heap.push {cls:=.type "tuple",data:=.seq ((rp x.toNat items).foldl (· ++ ·) #[])} }):=
 .of_wp fun prog w A R s h=>by
  obtain⟨hp,g,d,tk,os⟩:=s;obtain⟨hl,h⟩:=h
  have f1:=zK_
  have hs:sizeLine=16777216:=sizeLine_eq
  have c1:(decide (x < -(2 ^ 63:Int))||decide (x >= 2 ^ 63))=false:=by simp;lia
  have c2:(items.isEmpty||x==1)=false:=by simp at h0 ⊢;exact⟨h0,by lia⟩
  have c3:(decide (x<=0)||items.isEmpty)=false:=by simp at h0 ⊢;exact⟨by lia,h0⟩
  obtain⟨k,rfl⟩:∃k:Nat,x=(k:Int):=⟨x.toNat,by lia⟩
  have c4:¬ ((items.size:Int)*(k:Int) > (2 ^ 63-1) / 8):=by
   rw[jg_]at h3
   have:((items.size*k:Nat):Int)=(items.size:Int)*(k:Int):=by push_cast;rfl
   lia
  have c5:Builtin.Tuple.tupleTooMany ((items.size:Int)*(k:Int))=false:=by
   unfold Builtin.Tuple.tupleTooMany
   rw[jg_]at h3
   have:((items.size*k:Nat):Int)=(items.size:Int)*(k:Int):=by push_cast;rfl
   simp
   lia
  unfold Builtin.«tuple.__mul__»
  wp_walk using j4_ hl
  rw[if_neg (by rw[c1];exact js_)]
  wp_walk using j4_ hl
  rw[if_neg (by rw[c2];exact js_)]
  rw[if_neg (by rw[c3];exact js_),if_neg c4,if_neg (by rw[c5];exact js_)]
  wp_walk using j4_ hl
  have hz:¬ (sr (fun x1 x2=>x1++x2) #[] (rp ((k:Int)).toNat items)).size > sizeLine:=by
   have:=L2.foldl_rep items.toList k []
   rw[xZ_]at this
   have e:items.toList.toArray=items:=by simp
   rw[e]at this
   rw[jg_,this,jm_,L2.len_rep]
   rw[jg_]at h3
   rw[j3_,tT]
   lia
  rw[if_neg hz]
  wp_walk using j4_ hl
  exact⟨_,rfl,h⟩
end
end HT
namespace L2
open PySem PySem.Spec PyProof.Rows
section
variable {X:Cx}
def Qb (K:α3):R2:=fun x y H Q=>∃l k xs,x=.ref l/\y=.int k/\SqT K H l xs/\xs ≠ [] /\ -(2 ^ 63)<=k/\k<2 ^ 63/\xs.length*k.toNat<=sizeLine /\
 (k=1->Q (.ref l) H)/\(k≠1->∀p,H p=none->Q (.ref p) (upd H p (.tup (rp k.toNat xs).flatten)))
def Qc:OpR X (binaryOp .Mult) (Qb X.K):=by
 intro ae s σ H x y v u Q I rx ry h
 obtain⟨l,k,xs,rfl,rfl,hq,aw,h1,h2,hz,q1,q2⟩:=h
 cases rx
 obtain⟨t,rfl⟩:=ry
 obtain⟨its,r,p1,_⟩:=I.tuple hq
 have aj:=r.length
 have fZ:¬ its.toArray.isEmpty=true:=by
  intro z
  have:its=[]:=by simpa using z
  exact aw (r.nil_iff.mp this)
 obtain⟨⟨cls,dd,data,sl⟩,ho,hc,n,hd⟩:=id p1
 simp only at hc hd
 subst hc hd
 refine wpAny_binaryOp_repeat_ref (T := "tuple") (U := "int") (by decide) ⟨_,ho,rfl⟩ (fun s'=>typeIs_int s' k t) HT.noFill_tuple_mul F.fills_int_mul zX_ HT.repeat_tuple F.slot_int_index.lookup
  (xM_ zX_ (typeIs_int s k t) F.entry_int_rmul (F.args_int_rmul_2 _ _) (HT.int_rmul_tup k t l its.toArray n dd sl) ⟨ho,rfl,⟨_,ho,rfl⟩,?_⟩)
 by_cases k1:k=1
 ·subst k1
  exact xM_ zL_ ⟨_,ho,rfl⟩ F.entry_tuple_mul (F.args_tuple_mul_2 _ _) (HT.tup_mul_one l its.toArray n dd sl t) ⟨ho,⟨.ref l,H,I,rfl,q1 rfl⟩⟩
 ·have fin:∀(ys:List Value),Vals (rp k.toNat xs).flatten ys->EP X ae σ Q (.ref s.heap.objs.size) {s with heap:=s.heap.push {cls:=.type "tuple",data:=.seq ys.toArray} }:=fun ys rv=>
   ⟨.ref s.heap.objs.size,_,I.laid (t':=s.toks) (o:=.tup (rp k.toNat xs).flatten) (fun b ob q=>jf_ _ q) (ji_ _) ⟨by rw[len_rep,tT];exact hz,_,rv,IsTup.new _ _⟩,rfl,q2 k1 _ (I.hok.fresh (ji_ _))⟩
  by_cases k0:k<=0
  ·refine xM_ zL_ ⟨_,ho,rfl⟩ F.entry_tuple_mul (F.args_tuple_mul_2 _ _) (HT.tup_mul_none l its.toArray n dd sl k t fZ k0 h1) ⟨ho,?_⟩
   exact fin [] (by rw[show k.toNat=0 by lia];exact .nil)
  ·refine xM_ zL_ ⟨_,ho,rfl⟩ F.entry_tuple_mul (F.args_tuple_mul_2 _ _) (HT.tup_mul_many l its.toArray n dd sl k t fZ s!"" h2 (by rw[jm_,<-aj];exact hz)) ⟨ho,?_⟩
   have e:=foldl_rep its k.toNat []
   rw[xZ_]at e
   have e':sr (fun x1 x2=>x1++x2) #[] (rp k.toNat its.toArray)=(rp k.toNat its).flatten.toArray:=e
   rw[e']
   exact fin _ (r.rep k.toNat)
def Fe (K:α3):R2:=fun x y H Q=>∃a b xs ys,x=.ref a/\y=.ref b/\SqT K H a xs/\SqT K H b ys/\xs.length+ys.length<=sizeLine /\
 (xs=[]->Q (.ref b) H)/\(xs ≠ []->ys=[]->Q (.ref a) H)/\(xs ≠ []->ys ≠ []->∀p,H p=none->Q (.ref p) (upd H p (.tup (xs++ys))))
def EU:OpR X (binaryOp .Add) (Fe X.K):=by
 intro ae s σ H x y v u Q I rx ry h
 obtain⟨a,b,xs,ys,rfl,rfl,ha,hb,hz,q0,q1,q2⟩:=h
 by_cases hx:xs=[]
 ·subst hx
  cases rx
  cases ry
  obtain⟨its,r1,p1,_⟩:=I.tuple ha
  obtain⟨aL,r2,p2,_⟩:=I.tuple hb
  have:its=[]:=r1.nil_iff.mpr rfl
  subst this
  obtain⟨⟨cls,dd,data,sl⟩,ho,hc,n,hd⟩:=id p1
  obtain⟨⟨cls2,g8,data2,fP⟩,g9,cE,n2,f9⟩:=id p2
  simp only at hc hd cE f9
  subst hc hd cE f9
  exact concat_meets ⟨_,ho,rfl⟩ ⟨_,g9,rfl⟩ noFill_tuple_add seq_tuple_add zs_ zi_ (zf_ _ _)
   (HT.tuple_addW0 a b _ _ n n2 dd g8 sl fP rfl) ⟨ho,g9,⟨.ref b,H,I,rfl,q0 rfl⟩⟩
 ·exact Uv ae s σ H _ _ v u Q I rx ry ⟨a,b,xs,ys,rfl,rfl,ha,hb,hx,hz,q1 hx,q2 hx⟩
end
def Jn      (Pv:Nat->St->Hp->Prop)(h0:∃m,Pv m σ H)
  (hs:∀m σ H,Pv m σ H->c σ H fun b H1=>if b=true then ∃N:St->Hp->Prop,(∀af H',N af H'->∃m',m'<m/\Pv m' af H')/\tb {D with nx:=N,ct:=N,bk:=D.nx} σ H1 else D.nx σ H1):S3 c tb D σ H:=⟨Pv,h0,hs⟩
theorem Wn {K:α3}    {lo hi:Option Int}:rSlT K x lo hi H Q=∃a xs,x=.ref a/\SqT K H a xs /\
 ¬ (HT.sIx xs.length 0 lo=0/\HT.sIx xs.length xs.length hi=xs.length)/\∀p,H p=none->Q (.ref p) (upd H p (.tup (cutV xs lo hi))):=rfl
def HV {α:Type}(x:α)(k:Nat):(rp k [x]).flatten=rp k x:=by
 induction k with
 |zero=>rfl
 |succ k ih=>rw[qn_,xL_,ih,qn_];rfl
inductive TyW (K:α3)(H:Hp):V->Value->Prop where
 | non:TyW K H .non (.type "NoneType")
 | bl (x:Bool):TyW K H (.bl x) (.type "bool")
 | int (i:Int):TyW K H (.int i) (.type "int")
 | str (x:Str):TyW K H (.str x) (.type "str")
 | lst {a:Addr} {xs:List V} (e:SqL K H a xs):TyW K H (.ref a) (.type "list")
 | tup {a:Addr} {xs:List V} (e:SqT K H a xs):TyW K H (.ref a) (.type "tuple")
 | exc {a C:Addr} (e:H a=some (excO a C)) (c:ExcCls K C):TyW K H (.ref a) (.ref C)
def CU  : Cf X (.builtin "isinstance") (fun xs H Q=>∃x c cv t b,xs=[x,c]/\TyW X.K H x t/\(∀u,RelV c u->u=cv)/\kitOne X.K t cv=some b/\Q (.bl b) H):=by
 intro ae s σ H xs us Q I r h
 obtain⟨x,c,cv,t,b,rfl,ty,hc,hk,q⟩:=h
 cases ty with
 |non=>exact Dv ae s σ H _ us Q I r ⟨_,c,cv,_,b,rfl,.non,hc,hk,q⟩
 |bl y=>exact Dv ae s σ H _ us Q I r ⟨_,c,cv,_,b,rfl,.bl y,hc,hk,q⟩
 |int y=>exact Dv ae s σ H _ us Q I r ⟨_,c,cv,_,b,rfl,.int y,hc,hk,q⟩
 |str y=>exact Dv ae s σ H _ us Q I r ⟨_,c,cv,_,b,rfl,.str y,hc,hk,q⟩
 |exc e hC=>exact Lb ae s σ H _ us Q I r ⟨_,_,c,cv,b,rfl,e,hC,hc,hk,q⟩
 |@lst a xs e=>
  obtain⟨u,w',rfl,rx,rc⟩:=vals2 r
  rw[hc _ rc]
  cases rx
  obtain⟨its,_,pl,_⟩:=I.list e
  obtain⟨o,ho,bS,_⟩:=pl.isList
  exact qx_ wa_ I.kIn ⟨o,ho,bS⟩ hk (fun z=>nomatch z) fun tk=>⟨.bl b,H,I.tok tk,rfl,q⟩
 |@tup a xs e=>
  obtain⟨u,w',rfl,rx,rc⟩:=vals2 r
  rw[hc _ rc]
  cases rx
  obtain⟨its,_,⟨o,ho,bS,_⟩,_⟩:=I.tuple e
  exact qx_ tK I.kIn ⟨o,ho,bS⟩ hk (fun z=>nomatch z) fun tk=>⟨.bl b,H,I.tok tk,rfl,q⟩
end L2
namespace GW
def Ei (L:Int):α2->α2
 |[]=>[0]
 |x::r=>if x=L-1 then 0::Ei L r else (x+1)::r
def Ej (L:Int)(w:α2):α2:=(Ei L w.reverse).reverse
def AU (L:Int):α2->Int
 |[]=>0
 |x::r=>AU L r*L+x+1
def place (L:Int)(w:α2):Int:=AU L w.reverse
def inW (L x:Int):Bool:=decide (0<=x)&&decide (x<L)
def isW (L:Int)(ws:α2):Bool:=ws.all (inW L)
def UH  : inW L x=true↔0<=x/\x<L:=by simp[inW]
def Av   : isW L ws=true ↔ ∀x∈ws,0<=x/\x<L:=by simp[isW,UH]
def Lc (L:Int)(m:Nat)(r:α2):Ei L (rp m (L-1)++r)=rp m 0++Ei L r:=by
 induction m with
 |zero=>rfl
 |succ m ih=>rw[qn_,zb_,Ei,if_pos rfl,ih,qn_,zb_]
def Qd (L:Int)(a:α2)(x:Int)(m:Nat)(h:x≠L-1):Ej L (a++[x]++rp m (L-1))=a++[x+1]++rp m 0:=by
 unfold Ej
 rw[q7_,zu_,q7_,List.reverse_singleton,Lc]
 show (rp m 0++Ei L (x::a.reverse)).reverse=_
 rw[Ei,if_neg h]
 simp
def Qe (L:Int)(m:Nat):Ej L (rp m (L-1))=rp (m+1) 0:=by
 unfold Ej
 have:=Lc L m []
 rw[ql_]at this
 rw[zu_,this]
 show (rp m (0:Int)++[0]).reverse=_
 rw[q7_,zu_]
 rfl
def Mf (L:Int)(l:α2):AU L (Ei L l)=AU L l+1:=by
 induction l with
 |nil=>simp[Ei,AU]
 |cons x r ih=>
  rw[Ei]
  by_cases h:x=L-1
  ·rw[if_pos h,AU,ih,AU,h,wh_];lia
  ·rw[if_neg h,AU,AU];lia
def Og (L:Int)(w:α2):place L (Ej L w)=place L w+1:=by
 unfold place Ej
 rw[q3_,Mf]
def Mg  (hL:0<L)  (h:∀x∈l,0<=x/\x<L):∀x∈Ei L l,0<=x/\x<L:=by
 induction l with
 |nil=>intro x hx;simp[Ei]at hx;subst hx;exact⟨zy_ _,hL⟩
 |cons y r ih=>
  have hy:=h y jp_
  have hr:∀x∈r,0<=x/\x<L:=fun x hx=>h x (jl_ _ hx)
  intro x hx
  rw[Ei]at hx
  by_cases e:y=L-1
  ·rw[if_pos e]at hx
   rcases jD_.mp hx with rfl|hx
   ·exact⟨zy_ _,hL⟩
   ·exact ih hr x hx
  ·rw[if_neg e]at hx
   rcases jD_.mp hx with rfl|hx
   ·lia
   ·exact hr x hx
def Mh  (hL:0<L)  (h:isW L w=true):isW L (Ej L w)=true:=by
 rw[Av]at h ⊢
 intro x hx
 unfold Ej at hx
 rw[q5_]at hx
 exact Mg hL (fun y hy=>h y (q5_.mp hy)) x hx
def Ld (L:Int)(l:α2):l.length<=(Ei L l).length/\(Ei L l).length<=l.length+1:=by
 induction l with
 |nil=>simp[Ei]
 |cons x r ih=>
  rw[Ei]
  by_cases h:x=L-1
  ·rw[if_pos h];simp;lia
  ·rw[if_neg h];simp
def Le (L:Int)(w:α2):w.length<=(Ej L w).length/\(Ej L w).length<=w.length+1:=by
 have:=Ld L w.reverse
 unfold Ej
 rw[xU_]at this
 rw[xU_]
 exact this
def many (L:Int):Nat->Int
 |0=>0
 |k+1=>many L k*L+1
def Cg {L:Int}(hL:0<L):∀k,0<=many L k
 |0=>zy_ _
 |k+1=>by
  have:=zB_ (Cg hL k) (xT_ hL)
  show 0<=many L k*L+1
  lia
def CD {L:Int}(hL:0<L):∀{l:α2},(∀x∈l,0<=x/\x<L)->many L l.length<=AU L l/\AU L l<many L (l.length+1)
 |[],_=>by simp[AU,many]
 |x::r,h=>by
  have hx:=h x jp_
  obtain⟨h1,h2⟩:=CD hL (l:=r) fun y hy=>h y (jl_ _ hy)
  show many L r.length*L+1<=AU L r*L+x+1/\AU L r*L+x+1<many L (r.length+1)*L+1
  have a1:=qA_ h1 (xT_ hL)
  have a2:=qA_ (show AU L r+1<=many L (r.length+1) by lia) (xT_ hL)
  rw[wh_]at a2
  lia
def GP  (hL:0<L)  (h:isW L w=true):many L w.length<=place L w/\place L w<many L (w.length+1):=by
 have:=CD hL (l:=w.reverse) (fun x hx=>Av.mp h x (q5_.mp hx))
 rw[xU_]at this
 exact this
def Lf  (hL:0<L)  (h:j<=k):many L j<=many L k:=by
 induction h with
 |refl=>exact zy_ _
 |step _ ih=>
  rename_i m _
  refine vC ih ?_
  show many L m<=many L m*L+1
  have:many L m*1<=many L m*L:=Int.mul_le_mul_of_nonneg_left s!"" (Cg hL m)
  lia
def EV  (hL:0<L)  (h:isW L w=true)(k:Nat):w.length<=k↔place L w<many L (k+1):=by
 obtain⟨h1,h2⟩:=GP hL h
 constructor
 ·intro hk
  exact tN h2 (Lf hL s!"")
 ·intro hp
  refine uh fun hk=>?_
  have:=Lf hL (show k+1<=w.length from hk)
  lia
def nth (L:Int):Nat->α2
 |0=>[]
 |n+1=>Ej L (nth L n)
def C9 {L:Int}(hL:0<L):∀n,isW L (nth L n)=true
 |0=>rfl
 |n+1=>Mh hL (C9 hL n)
def Ek (L:Int):∀n:Nat,place L (nth L n)=n
 |0=>rfl
 |n+1=>by show place L (Ej L (nth L n))=_;rw[Og,Ek L n];push_cast;rfl
def Oh  (hL:0<L)(n:Nat):(nth L n).length<=n:=by
 induction n with
 |zero=>simp[nth]
 |succ n ih=>have:=(Le L (nth L n)).2;show (Ej L (nth L n)).length<=n+1;lia
def Gh (L:Int)(w:α2)(x:Int):place L (w++[x])=place L w*L+x+1:=by
 unfold place
 rw[q7_];rfl
def Np {L:Int}{w:α2}{k:Nat}(hk:k<=w.length)(h:∀j,k<=j->j<w.length->w[j]?=some (L-1)):w=w.take k++rp (w.length-k) (L-1):=by
 apply qT_
 intro j
 by_cases hj:j<k
 ·rw[jk_ (by rw[jw_];lia),xJ_ hj]
 ·by_cases hl:j<w.length
  ·rw[h j s!"" hl,jt_ (by rw[jw_];lia),rZ,if_pos (by rw[jw_];lia)]
  ·rw[jU_ s!"",jU_ (by rw[jn_,jw_,qL_];lia)]
def Lg     (hk:k<w.length)(h:∀j,k+1<=j->j<w.length->w[j]?=some (L-1))(hx:w[k]?=some x)(aw:x≠L-1):
  Ej L w=w.take k++[x+1]++rp (w.length-(k+1)) 0:=by
 have e:=Np (show k+1<=w.length from hk) h
 have e2:w.take (k+1)=w.take k++[x]:=by rw[jQ_,hx];rfl
 rw[e2]at e
 have:=Qd L (w.take k) x (w.length-(k+1)) aw
 rw[<-e]at this
 exact this
def Mi   (h:∀j,0<=j->j<w.length->w[j]?=some (L-1)):Ej L w=rp (w.length+1) 0:=by
 have e:=Np (jY_ _) h
 simp at e
 have:=Qe L w.length
 rw[<-e]at this
 exact this
end GW
namespace L2
open PySem PySem.Spec PyProof.Rows
section
variable {te ta tb:TE} {A:TA} {D:Ends} {σ:St} {H:Hp} {Q:VK} {K:α3} {tbd ts:TS}
theorem Nq   : Pu x vs H Q=∃l b xs zs,x=.ref l/\vs=[.ref b]/\H l=some (.lst xs)/\H b=some (.lst zs)/\xs.length+zs.length<=sizeLine/\Q .non (upd H l (.lst (xs++zs))):=rfl
theorem Wo  : rCat x y H Q=∃l b xs zs,x=.ref l/\y=.ref b/\H l=some (.lst xs)/\H b=some (.lst zs)/\xs.length+zs.length<=sizeLine/\∀p,H p=none->Q (.ref p) (upd H p (.lst (xs++zs))):=rfl
theorem Wq  : rRep x y H Q=∃l k xs,x=.ref l/\y=.int k/\H l=some (.lst xs) /\ -(2 ^ 63)<=k/\k<2 ^ 63/\xs.length*k.toNat<=sizeLine/\∀p,H p=none->Q (.ref p) (upd H p (.lst (rp k.toNat xs).flatten)):=rfl
end
end L2
namespace L2
open PySem PySem.Spec PyProof.Rows
def iteB {c A B:Prop}[Decidable c](hB:B)(h:c->B->A):if c then A else B:=by
 by_cases hc:c
 ·rw[if_pos hc];exact h hc hB
 ·rw[if_neg hc];exact hB
def UI (x y:Int):eqV (.int x) (.int y)=decide (V.int x=V.int y):=by
 by_cases h:x=y
 ·subst h;simp[eqV]
 ·rw[qk_ (fun z=>h (by injection z))];simp[eqV,h]
def EqD.ints {K:α3}{H:Hp}{a c:Addr}{xs ys:α2}(hq:(SqL K H a (xs.map V.int)/\SqL K H c (ys.map V.int))\/(SqT K H a (xs.map V.int)/\SqT K H c (ys.map V.int)))(n:Nat):EqD K H (n+1) (.ref a) (.ref c) (decide (xs=ys)):=by
 have:=EqD.flat hq (fun x hx=>by obtain⟨_,_,rfl⟩:=CT hx;rfl) (fun x hx=>by obtain⟨_,_,rfl⟩:=CT hx;rfl) (fun x hx y hy=>by obtain⟨_,_,rfl⟩:=CT hx;obtain⟨_,_,rfl⟩:=CT hy;exact UI _ _) n
 have e:decide (xs.map V.int=ys.map V.int)=decide (xs=ys):=by
  rw[qC_]
  simp only[qy_]
  constructor
  ·intro h
   exact (z7_ (fun a b h=>by injection h)).mp h
  ·intro h;rw[h]
 rw[e]at this
 exact this
end L2
namespace L2
open PySem PySem.Spec PyProof.Rows
def iSeq (K:α3)(tl:TE):TI:=fun σ H R=>tl σ H fun x H1=>∃a,x=.ref a/\(((∃xs,SqL K H1 a xs)/\R (Itl K a) H1)\/((∃xs,SqT K H1 a xs)/\R (Itt K a) H1))
theorem To {K:α3}     : iSeq K te σ H Z=te σ H fun x H1=>∃a,x=.ref a/\(((∃xs,SqL K H1 a xs)/\Z (Itl K a) H1)\/((∃xs,SqT K H1 a xs)/\Z (Itt K a) H1)):=rfl
def Tp    (hl:PE X l tl):PI X tg l (iSeq X.K tl):=by
 intro ae s σ H R I h
 refine thn (hl ae s σ H _ I h) fun v s1 ⟨x,H1,I1,r1,q1⟩=>?_
 obtain⟨a,e,q⟩:=q1
 subst e
 cases r1
 rcases q with ⟨⟨xs,hq⟩,q⟩|⟨⟨xs,hq⟩,q⟩
 ·obtain⟨its,rv,p,hz⟩:=I1.list hq
  refine zw_ p.isList ?_
  refine⟨s1.heap.objs.size,[s1.heap.objs.size],_,_,H1,rfl,I1.kept (t':=s1.toks) fun b o e=>jf_ _ e,KS a _,⟨_,jx_ _ rfl,rfl,rfl⟩,fun b hb=>?_,q⟩
  have e:b=s1.heap.objs.size:=by simpa using hb
  subst e
  exact I1.fpOk (ji_ _) (I1.hok.fresh (ji_ _))
 ·obtain⟨its,rv,p,hz⟩:=I1.tuple hq
  refine xv_ (show s1.heap.IsTuple a its.toArray from p) ?_
  refine⟨s1.heap.objs.size,[s1.heap.objs.size],_,_,H1,rfl,I1.kept (t':=s1.toks) fun b o e=>jf_ _ e,Jj a _,⟨_,jx_ _ rfl,rfl,rfl⟩,fun b hb=>?_,q⟩
  have e:b=s1.heap.objs.size:=by simpa using hb
  subst e
  exact I1.fpOk (ji_ _) (I1.hok.fresh (ji_ _))
end L2
namespace GW
def Lh  (hL:0<L)  (hx:isW L xs=true):0<=place L xs:=by
 have:=(GP hL hx).1
 have:=Cg hL xs.length
 lia
def Qf  (hL:0<L):∀{xs ys:α2},isW L xs=true->isW L ys=true->place L xs=place L ys->xs=ys:=by
 have key:∀{l m:α2},(∀x∈l,0<=x/\x<L)->(∀x∈m,0<=x/\x<L)->AU L l=AU L m->l=m:=by
  intro l
  induction l with
  |nil=>
   intro m _ hm h
   cases m with
   |nil=>rfl
   |cons y s=>
    have hy:=hm y jp_
    have:=(CD hL (l:=s) fun z hz=>hm z (jl_ _ hz)).1
    have h0:=Cg hL s.length
    have hp:=zB_ (show 0<=AU L s by lia) (xT_ hL)
    have h':(0:Int)=AU L s*L+y+1:=h
    lia
  |cons x r ih=>
   intro m hl hm h
   have hx:=hl x jp_
   cases m with
   |nil=>
    have:=(CD hL (l:=r) fun z hz=>hl z (jl_ _ hz)).1
    have h0:=Cg hL r.length
    have hp:=zB_ (show 0<=AU L r by lia) (xT_ hL)
    have h':AU L r*L+x+1=(0:Int):=h
    lia
   |cons y s=>
    have hy:=hm y jp_
    have h':AU L r*L+x+1=AU L s*L+y+1:=h
    have e1:AU L r=AU L s:=by
     rcases Int.lt_trichotomy (AU L r) (AU L s) with aq|he|aq
     ·have:=qA_ (show AU L r+1<=AU L s by lia) (xT_ hL)
      rw[wh_]at this;lia
     ·exact he
     ·have:=qA_ (show AU L s+1<=AU L r by lia) (xT_ hL)
      rw[wh_]at this;lia
    rw[e1]at h'
    rw[ih (fun z hz=>hl z (jl_ _ hz)) (fun z hz=>hm z (jl_ _ hz)) e1,show x=y by lia]
 intro xs ys hx hy h
 have:=key (l:=xs.reverse) (m:=ys.reverse) (fun x h=>Av.mp hx x (q5_.mp h)) (fun x h=>Av.mp hy x (q5_.mp h)) h
 exact List.reverse_inj.mp this
end GW
namespace L2
open PySem PySem.Spec PyProof.Rows
def Tq  {K:α3}{T id:String}        (hK:X.K=K)(pa:PlainAttrs T)(slot:Slot T name id)(oW:typeOf (.builtin id)=pure (.type "method_descriptor"))(hm:MtR X id r)(ho:PE X o to)(ha:PA X (e::es) t)
  (gc:attributeBase o name X.env (eval o X.env)=eval o X.env:=by rfl)
  (iy:((backTo aH (starEach (e::es) X.env)).all (fun x => !x.1)&&(backToKw aH (keywordEach [] X.env)).all (fun x=>x.1.isSome)
   && decide ((e::es).length+([]:List Keyword).length+(if ([]:List Keyword).isEmpty then 0 else 1)<30))=true:=by rfl)
  (gd:(bH.endLine==aH.line)=true:=by rfl) (hs:starEach (e::es) X.env=(false,eval e X.env)::starEach es X.env:=by rfl) (dS:(backTo aH (starEach es X.env)).any (·.1)=false:=by rfl):
  PE X (.Call (.Attribute o name bH) (e::es) [] aH) (tBM K T r to t):=by
 subst hK
 exact C8 pa slot oW hm ho ha gc iy gd hs dS
section
variable {X:Cx} {K:α3}
def Br (h:X.K=K):IxR X (rIxT K):=by subst h;exact An
def Bh (h:X.K=K):IxR X (rIxL K):=by subst h;exact AS
def J7 (h:X.K=K):Cf X (.builtin "len") (fun xs H Q=>∃p ys,xs=[.ref p]/\(SqL K H p ys\/SqT K H p ys)/\Q (.int ys.length) H):=by subst h;exact Ai
def J8 (h:X.K=K):Cf X (.type "list") (fun xs H Q=>∃p ys,xs=[.ref p]/\(SqL K H p ys\/SqT K H p ys)/\∀l,H l=none->Q (.ref l) (upd H l (.lst ys))):=by subst h;exact Ef
end
end L2
namespace GW
def Bu (ab:α1)(r x:Int):Int:=(ab.getD r.toNat []).getD x.toNat 0
def Az (ab:α1)(ws:α2):Int:=ws.foldl (Bu ab) 0
def Jo (ab:α1)(ws:α2):α2:=(rq (ws.length+1)).map fun j=>Az ab (ws.take j)
structure Wf (L:Int)(aa:α2)(ab:α1):Prop where
 l1:1<=L
 l6:L<=6
 n1:1<=aa.length
 n40:aa.length<=40
 len:ab.length=aa.length
 rows:∀row∈ab,(row.length:Int)=L/\∀x∈row,0<=x/\x<aa.length
 mks:∀m∈aa,0<=m/\m<=1000000000
def BH     (h1:ab[r.toNat]?=some row)(h2:row[x.toNat]?=some g):Bu ab r x=g:=by
 unfold Bu
 have e:ab.getD r.toNat []=row:=by rw[jj_,h1];rfl
 rw[e,jj_,h2];rfl
def Wf.row {L:Int}{aa:α2}{ab:α1}(wf:Wf L aa ab){r:Int}(h0:0<=r)(h1:r<aa.length):∃row,ab[r.toNat]?=some row/\row∈ab/\(row.length:Int)=L:=by
 have aq:r.toNat<ab.length:=by rw[wf.len];lia
 exact⟨ab[r.toNat],by simp[aq],j1_ aq,(wf.rows _ (j1_ aq)).1⟩
def Wf.step {L:Int}{aa:α2}{ab:α1}(wf:Wf L aa ab){r x:Int}(h0:0<=r)(h1:r<aa.length)(x0:0<=x)(x1:x<L):∃row g,ab[r.toNat]?=some row/\row[x.toNat]?=some g/\Bu ab r x=g/\0<=g/\g<aa.length:=by
 obtain⟨row,hr,hm,hl⟩:=wf.row h0 h1
 have aq:x.toNat<row.length:=by lia
 have hg:row[x.toNat]?=some row[x.toNat]:=by simp[aq]
 exact⟨row,row[x.toNat],hr,hg,BH hr hg,(wf.rows row hm).2 _ (j1_ aq)⟩
def BI (ab:α1)(ws:α2)(x:Int):Az ab (ws++[x])=Bu ab (Az ab ws) x:=by
 unfold Az
 rw[qE_];rfl
def EW {ab:α1}{ws:α2}{i:Nat}{x:Int}(h:ws[i]?=some x):Az ab (ws.take (i+1))=Bu ab (Az ab (ws.take i)) x:=by
 rw[jQ_,h]
 exact BI _ _ _
def Wf.walk    (wf:Wf L aa ab)  (hw:isW L ws=true):∀i,0<=Az ab (ws.take i)/\Az ab (ws.take i)<aa.length:=by
 intro i
 induction i with
 |zero=>have:=wf.n1;simp[Az];lia
 |succ i ih=>
  cases e:ws[i]? with
  |none=>
   have bg:=xC_.mp e
   rw[jP_ s!""]
   rw[jP_ bg]at ih
   exact ih
  |some x=>
   rw[EW e]
   have hx:=Av.mp hw x (jd_ e)
   obtain⟨_,g,_,_,h,h0,h1⟩:=wf.step ih.1 ih.2 hx.1 hx.2
   rw[h];exact⟨h0,h1⟩
def J9 (ab:α1)(ws:α2):(Jo ab ws).length=ws.length+1:=by simp[Jo]
def Oi    (h:i<=ws.length):(Jo ab ws)[i]?=some (Az ab (ws.take i)):=by
 unfold Jo
 rw[je_,qN_ s!""];rfl
def Mj (ab:α1)(ws:α2):(Jo ab ws)[ws.length]?=some (Az ab ws):=by
 rw[Oi (ji_ _),jO_]
end GW
namespace L2
open PySem PySem.Spec PyProof.Rows GW
def Rows (K:α3)(H:Hp)(w:Addr)(ab:α1):Prop:=∃ts:List Addr,SqT K H w (ts.map V.ref)/\ts.length=ab.length/\∀(i:Nat) (t:Addr) (row:α2),ts[i]?=some t->ab[i]?=some row->SqT K H t (row.map V.int)
def Ba (K:α3)(H:Hp)(h:Addr)(L:Int)(aa:α2)(ab:α1):Prop:=∃m w:Addr,SqT K H h [.int L,.ref m,.ref w]/\SqT K H m (aa.map V.int)/\Rows K H w ab
def Rows.mono {K:α3}    (h:Rows K H w ab)(e:Same H H'):Rows K H' w ab:=by
 obtain⟨ts,h1,h2,h3⟩:=h
 exact⟨ts,e.seqT h1,h2,fun i t r a b=>e.seqT (h3 i t r a b)⟩
def Ba.mono {K:α3}      (x:Ba K H h L aa ab)(e:Same H H'):Ba K H' h L aa ab:=by
 obtain⟨m,w,h1,h2,h3⟩:=x
 exact⟨m,w,e.seqT h1,e.seqT h2,h3.mono e⟩
def Rows.at {K:α3}{H:Hp}{w:Addr}{ab:α1}(h:Rows K H w ab){i:Nat}{row:α2}(hr:ab[i]?=some row):∃xs t,SqT K H w xs/\atI xs (i:Int)=some (V.ref t)/\SqT K H t (row.map V.int):=by
 obtain⟨ts,h1,h2,h3⟩:=h
 have aq:i<ts.length:=by rw[h2];exact (jc_.mp hr).1
 have ht:ts[i]?=some ts[i]:=by simp[aq]
 exact⟨_,ts[i],h1,Ee (by rw[je_,ht];rfl),h3 i _ _ ht hr⟩
def Rows.atZ {K:α3}    (h:Rows K H w ab)   (h0:0<=r)(hr:ab[r.toNat]?=some row):∃xs t,SqT K H w xs/\atI xs r=some (V.ref t)/\SqT K H t (row.map V.int):=by
 obtain⟨xs,t,a,b,c⟩:=h.at hr
 exact⟨xs,t,a,by rw[<-b];congr 1;lia,c⟩
def Qg    (h:xs[xs.length-1]?=some v):atI xs (-1)=some v:=by
 have aq:=(jc_.mp h).1
 unfold atI ixN
 rw[if_neg s!"",if_pos s!""]
 show xs[(-1+(xs.length:Int)).toNat]?=some v
 rw[show (-1+(xs.length:Int)).toNat=xs.length-1 by lia]
 exact h
def AX {ns:α2}{i:Int}{v:Int}(h0:0<=i)(h:ns[i.toNat]?=some v):atI (ns.map V.int) i=some (V.int v):=B1 h0 (by rw[je_,h];rfl)
def Ka {K:α3}    (hp:H p=some (.lst zs))(h:SqT K H t xs):SqT K (upd H p (.lst ys)) t xs:=by
 rcases h with (q|⟨o,q⟩)|q
 ·refine .inl (.inl ?_)
  rw[Aj (fun z=>by rw[z,hp]at q;cases q)];exact q
 ·refine .inl (.inr ⟨o,?_⟩)
  rw[Aj (fun z=>by rw[z,hp]at q;cases q)];exact q
 ·exact .inr q
def CA (K:α3)(H:Hp)(l:Addr)(ws:α1):Prop:=∃ts:List Addr,H l=some (.lst (ts.map V.ref))/\ts.length=ws.length/\∀(i:Nat) (t:Addr) (w:α2),ts[i]?=some t->ws[i]?=some w->SqT K H t (w.map V.int)
def CA.mono {K:α3}    (h:CA K H l ws)(e:Same H H'):CA K H' l ws:=by
 obtain⟨ts,h1,h2,h3⟩:=h
 exact⟨ts,e _ _ h1,h2,fun i t w a b=>e.seqT (h3 i t w a b)⟩
def CA.off {K:α3}     (h:CA K H l ws)(hp:H p=some (.lst zs))(ne:l≠p):CA K (upd H p (.lst ys)) l ws:=by
 obtain⟨ts,h1,h2,h3⟩:=h
 exact⟨ts,by rw[Aj ne];exact h1,h2,fun i t w a b=>Ka hp (h3 i t w a b)⟩
def CA.push {K:α3}     (h:CA K H l ws)(hw:SqT K H t (w.map V.int)):∃xs,H l=some (.lst xs)/\xs.length=ws.length/\CA K (upd H l (.lst (xs++[V.ref t]))) l (ws++[w]):=by
 obtain⟨ts,h1,h2,h3⟩:=h
 refine⟨ts.map V.ref,h1,by rw[ja_,h2],ts++[t],by rw[Ab,jW_];rfl,by simp[h2],fun i t' w' a b=>Ka h1 ?_⟩
 by_cases hi:i<ts.length
 ·rw[jk_ hi]at a
  rw[jk_ s!""]at b
  exact h3 i t' w' a b
 ·have ht:=(jc_.mp a).1
  rw[jn_,jX_]at ht
  have e:i=ts.length:=by lia
  subst e
  rw[jt_ (ji_ _),qG_]at a
  rw[jt_ s!"",h2,qG_]at b
  simp at a b
  subst a b
  exact hw
def CA.nil {K:α3}   (h:H l=some (.lst [])):CA K H l []:=⟨[],h,rfl,fun i t w a _=>by simp at a⟩
def CA.rows {K:α3}    (h:CA K H l ws):∃xs,H l=some (.lst xs)/\∀t,H t=none->Rows K (upd H t (.tup xs)) t ws:=by
 obtain⟨ts,h1,h2,h3⟩:=h
 exact⟨_,h1,fun t ht=>⟨ts,SqT.of Ab,h2,fun i t' w a b=>(Same.new ht).seqT (h3 i t' w a b)⟩⟩
end L2
namespace PySem
open Sem (wp)
open AutoSeq1 (wpAny_loadPart')
section
variable {prog:Program} {w:World} {A:Around} {E:Value->Shared->Prop} {s:Shared}
def Gi   {items}   (aN:s.heap.IsTupleIter it l i)
  (hl:s.heap.IsTuple l items) (hx:items[i]?=some x)
  (hQ:∀h',h'.IsTupleIter it l (i+1)->Heap.SameBut it s.heap h'->Q x {s with heap:=h' }):
  wpAny (model prog w) A (Builtin.SmallTypes.nextOf (.ref it)) Q E s:=by
 obtain⟨o,ho,hc,hd⟩:=id aN
 obtain⟨ol,gn,_,nl,jK⟩:=hl
 unfold Builtin.SmallTypes.nextOf
 refine jb_ (j5_ (name:=Str.ofString "__next__") aN.typeIs xt_
  (qD_ xt_ aN.typeIs F.entry_tuple_iterator_next ?_ (F.args_tuple_iterator_next_1 _)))
 show wpAny _ _ (field (.ref it) 0 >>= _) _ _ s
 refine jb_ (qd_ ho hd (x:=.ref l) rfl ?_)
 show wpAny _ _ (if (Value.ref l==Value.none)=true then _ else _) _ _ s
 rw[if_neg (show ¬ ((Value.ref l==Value.none)=true) from js_)]
 show wpAny _ _ (field (.ref it) 1 >>= _) _ _ s
 refine jb_ (qd_ ho hd (x:=.int i 0) rfl ?_)
 show wpAny _ _ (seqItems? (.ref l) >>= _) _ _ s
 refine jb_ (qR_ gn jK ?_)
 simp only[jg_,hx]
 refine jb_ (x8_ ho hd (by simp) (jo_ ⟨x,rfl,jo_ (hQ _ ?_ (xq_ ..))⟩))
 exact⟨_,qM_ _ ho (zE_ (xy_ hd _)),(Obj.cls_mapFields ..).trans hc,by
  rw[xy_ hd];simp[rawInt]⟩
def G4   {items}  (hh:A.handled=none)
  (aN:s.heap.IsTupleIter it l i) (hl:s.heap.IsTuple l items) (hx:items[i]?=none)
  (hE:∀h' e,Heap.ExtBut it s.heap h'->(∃o,h'.get? e=some o/\o.cls=.type "StopIteration")->E (.ref e) {s with heap:=h' }):
  wpAny (model prog w) A (Builtin.SmallTypes.nextOf (.ref it)) Q E s:=by
 obtain⟨o,ho,hc,hd⟩:=id aN
 obtain⟨ol,gn,_,nl,jK⟩:=hl
 unfold Builtin.SmallTypes.nextOf
 refine jb_ (j5_ (name:=Str.ofString "__next__") aN.typeIs xt_
  (qD_ xt_ aN.typeIs F.entry_tuple_iterator_next ?_ (F.args_tuple_iterator_next_1 _)))
 show wpAny _ _ (field (.ref it) 0 >>= _) _ _ s
 refine jb_ (qd_ ho hd (x:=.ref l) rfl ?_)
 show wpAny _ _ (if (Value.ref l==Value.none)=true then _ else _) _ _ s
 rw[if_neg (show ¬ ((Value.ref l==Value.none)=true) from js_)]
 show wpAny _ _ (field (.ref it) 1 >>= _) _ _ s
 refine jb_ (qd_ ho hd (x:=.int i 0) rfl ?_)
 show wpAny _ _ (seqItems? (.ref l) >>= _) _ _ s
 refine jb_ (qR_ gn jK ?_)
 simp only[jg_,hx]
 refine jb_ (zS_ (jb_ (x8_ ho hd (by simp) ?_)))
 show wpAny _ _ (newExc (.type "StopIteration") [] >>= _) _ _ _
 refine jb_ ?_
 simp only[newExc,newTuple]
 refine jb_ (qq_ ?_ (by size_fits))
 refine jb_ (m:=firstArgMember _ _) (wpAny_of_eq (a:=Value.none) (by first|rfl|(simp only[firstArgMember];rfl)) ?_)
 refine qq_ ?_ (by size_fits)
 simp only[raiseNew]
 refine jb_ (wpAny_handled ?_)
 first|rw[show A.in1.handled=none from hh]|rw[hh]
 refine jb_ (jo_ (wpAny_throw ?_))
 exact hE _ _ (((xq_ ..).extBut.push _).push _) ⟨_,jx_ _ rfl,rfl⟩
def Draws.tuple (hh:A.handled=none)(it l:Addr)(aw:l≠it)(items:Array Value):
  Draws prog w A it [it,l] items.size (fun i v=>items[i]?=some v) (fun i h=>h.IsTupleIter it l i/\h.IsTuple l items) where
 live:=fun _ _ st=>let ⟨o,ho,_⟩:=st.1;⟨o,ho⟩
 frame:=fun _ _ _ st hk=>⟨st.1.at fun o e=>hk it (by simp) o e,by
  obtain⟨o,ho,r⟩:=st.2
  exact⟨o,hk l (by simp) o ho,r⟩⟩
 item:=fun i s Q E hi st hQ=>by
  refine Gi st.1 st.2 (x:=items[i]) (by simp[hi]) fun h' dD bF=>?_
  exact hQ _ h' s.toks (by simp[hi]) ⟨dD,st.2.extBut bF.extBut aw⟩ bF
 done:=fun s Q E st hE=>G4 hh st.1 st.2 (by simp) hE
def E4 (l:Addr)(items:Array Value)(n:Nat)(pG:Option Addr)(sl:Array (α5)):
  Meets (Builtin.«enumerate.__new__» ⟨[.type "enumerate",.ref l],[]⟩) (fun _ R s=>s.heap.get? l=some {cls:=.type "tuple",dict:=pG,data:=.seq items n,slots:=sl} /\
   R (.ok (.ret (.ref (s.heap.push {cls:=.type "tuple_iterator",data:=.fields #[.ref l,.int 0 0]}).objs.size)))
    {s with heap:=(s.heap.push {cls:=.type "tuple_iterator",data:=.fields #[.ref l,.int 0 0]}).push {cls:=.type "enumerate",data:=.fields #[.none,.bool false,.ref s.heap.objs.size,rawInt 0,.none,.none]} }):=
 .of_wp fun prog w A R s h=>by
  obtain⟨hp,g,d,tk,os⟩:=s;obtain⟨hl,h⟩:=h
  have cS:=sub_enumerate
  have hL:Heap.IsTuple (Shared.heap ⟨hp,g,d,tk,os⟩) l items:=⟨_,hl,rfl,n,rfl⟩
  wp_walk using j4_ hl
  refine wpAny_stack_any fun st=>jo_ ?_
  split
  ·rename_i c _ _ _ _ _
   cases (c==Value.type "enumerate")
   ·wp_walk using j4_ hl,xv_ hL
    exact⟨_,rfl,h⟩
   ·wp_walk using j4_ hl,xv_ hL
    exact⟨_,rfl,h⟩
  ·wp_walk using j4_ hl,xv_ hL
   exact⟨_,rfl,h⟩
def E5    (hL:s.heap.IsTuple l items)
  (h:∀h',IsEnum h' (s.heap.objs.size+1) s.heap.objs.size 0 .none->h'.IsTupleIter s.heap.objs.size l 0->h'.objs.size=s.heap.objs.size+2 ->
   (∀b o,s.heap.get? b=some o->h'.get? b=some o)->Q (.ref (s.heap.objs.size+1)) {s with heap:=h' }):
  wpAny (model prog w) A (call (.type "enumerate") [.ref l]) Q E s:=by
 obtain⟨⟨c,pG,dt,sl⟩,hl,hc,n,hd⟩:=hL
 replace hc:c=.type "tuple" := hc
 replace hd:dt=.seq items n:=hd
 subst hc hd
 refine callType_new F.called_enumerate (by decide) (F.typeCall_enumerate_1 _) (F.newCall_enumerate_1 _) (fun obj=>F.args_object_init_2 obj _) F.entry_enumerate_new
  (E4 l items n pG sl) ⟨hl,?_⟩
 have hz:(s.heap.push {cls:=.type "tuple_iterator",data:=.fields #[.ref l,.int 0 0]}).objs.size=s.heap.objs.size+1:=qf_ ..
 show _/\_
 rw[hz]
 have he:IsEnum ((s.heap.push {cls:=.type "tuple_iterator",data:=.fields #[.ref l,.int 0 0]}).push
   {cls:=.type "enumerate",data:=.fields #[.none,.bool false,.ref s.heap.objs.size,rawInt 0,.none,.none]}) (s.heap.objs.size+1) s.heap.objs.size 0 .none:=by
  have:=jx_ (s.heap.push {cls:=.type "tuple_iterator",data:=.fields #[.ref l,.int 0 0]})
   (o:={cls:=.type "enumerate",data:=.fields #[.none,.bool false,.ref s.heap.objs.size,rawInt 0,.none,.none]}) rfl
  rw[hz]at this;exact this
 refine⟨⟨_,he,rfl⟩,h _ he ⟨_,jf_ _ (jx_ _ rfl),rfl,rfl⟩ (by rw[qf_,hz]) fun b o x=>jf_ _ (jf_ _ x)⟩
end
end PySem
namespace L2
open PySem PySem.Spec PyProof.Rows
section
variable {X:Cx} {ae:α7} {σ:St} {H:Hp} {s:Shared}
def Inv.un2   (I:Inv X ae σ H s)(k:∀b o,b≠e->b≠it->s.heap.get? b=some o->h'.get? b=some o)(f1:FpOk X ae H e)(f2:FpOk X ae H it):Un (frs X.stack) [e,it] H H s.heap h'/\HOk X.prog X.w H h':=by
 have ne:∀b u,H b=some u->b≠e/\b≠it:=fun b u q=>⟨(fun z=>by rw[z,f1.1]at q;cases q),(fun z=>by rw[z,f2.1]at q;cases q)⟩
 have fO:∀{b:Addr},b ∉ [e,it]->b≠e/\b≠it:=fun hb=>by simpa using hb
 refine⟨⟨fun b o q _ _ hb=>k b o (fO hb).1 (fO hb).2 q,fun b o q _ _ hb=>⟨o.slots,k b o (fO hb).1 (fO hb).2 q⟩,fun _ _ _ n _=>n,fun b o q hb=>⟨o,k b o (fO hb).1 (fO hb).2 q⟩,fun _ _ q=>q,fun _ _ _ q=>q,fun b ps q=>⟨#[],by rw[q];simp⟩⟩,fun b u q=>?_⟩
 refine (I.hok b u q).stay (fun c v hc qv=>?_) (fun _ q=>q) fun _ _ q=>q
 have aw:c≠e/\c≠it:=by
  rcases hc with rfl|hc
  ·exact ne _ _ q
  ·exact ne _ _ hc
 exact k c v aw.1 aw.2 qv
def FpOk.ch  (f:FpOk X ae H b):(b∈X.ex\/X.s₀.heap.objs.size<=b)/\b≠X.env.locals/\(∀x c,X.env.cells.lookup x=some c->c≠b)/\∀p∈X.pn++ae,p.1≠b:=⟨f.2.2.2.1,f.2.1,f.2.2.2.2.1,f.2.2.2.2.2⟩
end
def Itn (K:α3)(a:Addr)(xs:List V):It:=⟨fun i H=>i<xs.length/\SqT K H a xs,fun i H x H'=>∃t v,H t=none/\xs[i]?=some v/\x=.ref t/\H'=upd H t (.tup [.int i,v]),fun i H=>i=xs.length/\SqT K H a xs⟩
def Oj {P:Program}{w:World}{K:α3}{gp:List Expr}{x1}{fg:Pos}(a e it:Addr)(mJ:e≠it)(mK:a≠it)(hae:a≠e)(xs:List V):Turn P w K (.Tuple gp x1 fg) (Itn K a xs) [e,it] e (fun i h=>∃dU,IsEnum h e it (i:Nat) dU/\h.IsTupleIter it a i) where
 mem:=by simp
 obj:=fun i h st b hb=>by
  obtain⟨dU,h1,o,h2,c,d⟩:=st
  rcases jD_.mp hb with rfl|hb
  ·exact⟨_,h1,fun v z=>by cases z⟩
  ·rw[ju_.mp hb]
   exact⟨o,h2,fun v z=>by rw[d]at z;cases z⟩
 keep:=fun i h h' st k=>by
  obtain⟨dU,h1,h2⟩:=st
  exact⟨dU,k e (by simp) _ h1,h2.at fun o q=>k it (by simp) o q⟩
 item:=by
  intro X hP hw hK hc i ae s σ H E I hf st hg
  subst hP hw hK
  obtain⟨hi,hq⟩:=hg
  obtain⟨dU,he,aN⟩:=st
  obtain⟨its,rv,p,hz⟩:=I.tuple hq
  have hl:=rv.length
  have pt:s.heap.IsTuple a its.toArray:=p
  have f1:=hf e (by simp)
  have f2:=hf it (by simp)
  have Dw:=Draws.tuple (prog:=X.prog) (w:=X.w) (A:=X.A.in1) (I.ok.hd hc) it a mK its.toArray
  refine wpAny_pyNext_enum_itemD Dw he ⟨aN,pt⟩ (by simp;lia) mJ (by simp[mJ,qs_ hae]) fun u h' tk hu jd jL hget hsz hk=>?_
  have hT:s.heap.objs.size≠e:=qe_ (jr_ he)
  refine⟨_,rfl,wpAny_letOwnedTupleGo_enum jd fun h2 pH cy=>?_⟩
  have fj:∀b o,b≠e->b≠it->s.heap.get? b=some o->h2.get? b=some o:=fun b o h1 h3 q=>(cy.2 b h1).trans (hk b o h1 h3 q)
  obtain⟨un,hok⟩:=I.un2 fj f1 f2
  have hn:H s.heap.objs.size=none:=I.hok.fresh (ji_ _)
  have hv:xs[i]?=some xs[i]:=by simp[hi]
  obtain⟨u',jh,ru⟩:=rv.get hv
  have eu:u'=u:=by
   have hu2:its[i]?=some u:=by simpa using hu
   rw[jh]at hu2
   exact jq_ hu2
  subst eu
  have hget2:h2.get? s.heap.objs.size=some {cls:=.type "tuple",data:=.seq #[.int i tk,u']}:=(cy.2 _ hT).trans hget
  have new:Bj X.prog X.w (upd H s.heap.objs.size (.tup [.int i,xs[i]])) h2 s.heap.objs.size (.tup [.int i,xs[i]]):=⟨by have:=As;simp;lia,[.int i tk,u'],.cons ⟨tk,rfl⟩ (.cons ru .nil),_,hget2,rfl,_,rfl⟩
  refine⟨.ref s.heap.objs.size,upd H s.heap.objs.size (.tup [.int i,xs[i]]),I.call' (s':={s with heap:=h2,toks:=tk+1}) (ch:=[e,it]) rfl (un.track (ji_ _) hn) (hok.track hn new) I.bare (fun b hb=>?_),rfl,⟨_,_,hn,hv,rfl,rfl⟩,?_,fun b hb=>?_⟩
  ·exact (hf b hb).ch
  ·refine⟨u',by simpa using pH,?_⟩
   exact jL.1.at fun o q=>(cy.2 it (qs_ mJ)).trans q
  ·have iu:=hf b hb
   have:∃o,s.heap.get? b=some o:=by
    rcases jD_.mp hb with rfl|hb
    ·exact⟨_,he⟩
    ·rw[ju_.mp hb]
     obtain⟨o,ho,_⟩:=aN
     exact⟨o,ho⟩
   obtain⟨o,ho⟩:=this
   rw[Aj (jM_ (jr_ ho))]
   exact iu.1
 done:=by
  intro X hP hw hK hc i ae s σ H E I hf st hg
  subst hP hw hK
  obtain⟨hi,hq⟩:=hg
  subst hi
  obtain⟨dU,he,aN⟩:=st
  obtain⟨its,rv,p,hz⟩:=I.tuple hq
  have hl:=rv.length
  have pt:s.heap.IsTuple a its.toArray:=p
  have Dw:=Draws.tuple (prog:=X.prog) (w:=X.w) (A:=X.A.in1) (I.ok.hd hc) it a mK its.toArray
  obtain⟨f0,f1,f2,f3,f4,f5⟩:=hf it (by simp)
  refine wpAny_pyNext_enum_endD Dw he ⟨by rw[jm_,<-hl];exact aN,pt⟩ fun h' eb=>⟨rfl,I.turned (t':=s.toks) (fun b o hb e=>eb b o hb e) f0 f1 f3 f4 f5⟩
 self:=fun A i s Q E st h=>by
  obtain⟨dU,he,_⟩:=st
  exact wpAny_pyIter_enum he h
def Tr (K:α3)(tl:TE):TI:=fun σ H R=>tl σ H fun x H1=>∃a xs,x=.ref a/\SqT K H1 a xs/\R (Itn K a xs) H1
theorem Nr {K:α3}     : Tr K te σ H Z=te σ H fun x H1=>∃a xs,x=.ref a/\SqT K H1 a xs/\Z (Itn K a xs) H1:=rfl
theorem Ts {K:α3}       : gTup K n t v σ H N=∃a xs,v=.ref a/\SqT K H a xs/\xs.length=n/\t xs σ H N:=rfl
theorem Qh       : VE t u vs σ H N=∃v r,vs=v::r/\t v σ H fun af H'=>u r af H' N:=rfl
theorem Tt     : gNil vs σ H N=(vs=[]/\N σ H):=rfl
def RZ   {x1}     (hg:Gl X "enumerate")(hm:X.mg "enumerate"=none)(he:PE X e te)(hs:starEach [e] X.env=[(false,eval e X.env)]:=by rfl):PI X (.Tuple gp x1 fg) (.Call (.Name "enumerate" p) [e] [] pos) (Tr X.K te):=by
 intro ae s σ H R I h
 refine Call_ (DS I hg hm boot_enumerate (j9_ (thn (Aa he Ae hs pos ae s σ H (fun vs H1=>∃a xs,vs=[.ref a]/\SqT X.K H1 a xs/\R (Itn X.K a xs) H1) I ?_) fun us s1 ⟨vs,H1,I1,r1,q1⟩=>?_) hs rfl))
 ·show te σ H _
  have:(fun x H1=>∃a xs,x=V.ref a/\SqT X.K H1 a xs/\R (Itn X.K a xs) H1)=(fun x H1=>tNil σ H1 fun xs H2=>∃a ys,x::xs=[V.ref a]/\SqT X.K H2 a ys/\R (Itn X.K a ys) H2):=by
   funext x H1
   simp[tNil]
  rw[<-this]
  exact h
 ·obtain⟨a,xs,rfl,hq,q⟩:=q1
  cases r1 with
  |cons r rr=>
   cases rr
   cases r
   obtain⟨its,rv,p,hz⟩:=I1.tuple hq
   have pt:s1.heap.IsTuple a its.toArray:=p
   obtain⟨oa,hoa,_⟩:=id pt
   have ha:=jr_ hoa
   refine E5 pt fun h' fQ dD hsz hk=>?_
   refine wpAny_pyIter_enum (s:={s1 with heap:=h' }) fQ ?_
   have I2:Inv X ae σ H1 {s1 with heap:=h' }:=I1.kept (t':=s1.toks) hk
   refine⟨s1.heap.objs.size+1,[s1.heap.objs.size+1,s1.heap.objs.size],_,_,H1,rfl,I2,Oj a (s1.heap.objs.size+1) s1.heap.objs.size (Nat.succ_ne_self _) (jM_ ha) (jM_ (xn_ ha)) xs,⟨_,fQ,dD⟩,fun b hb=>?_,q⟩
   have bg:s1.heap.objs.size<=b:=by
    rcases jD_.mp hb with rfl|hb
    ·lia
    ·rw[ju_.mp hb];exact ji_ _
   exact I1.fpOk bg (I1.hok.fresh bg)
def forN {K:α3}        (Pv:Nat->St->Hp->Prop)(h0:Pv 0 σ H)(hl:∀i σ H,i<=xs.length->Pv i σ H->SqT K H a xs)
  (hs:∀i v σ H t,xs[i]?=some v->Pv i σ H->H t=none->g (.ref t) σ (upd H t (.tup [.int i,v])) fun ai H2=>tb {D with nx:=Pv (i+1),ct:=Pv (i+1),bk:=D.nx} ai H2) (hd:∀σ H,Pv xs.length σ H->D.nx σ H):ForW (Itn K a xs) g tb D σ H:=by
 refine⟨fun i m σ H=>m=xs.length-i/\i<=xs.length/\Pv i σ H,⟨xs.length,by simp,jY_ _,h0⟩,?_⟩
 rintro i m σ H ⟨rfl,hi,p⟩
 by_cases aq:i<xs.length
 ·refine .inr ⟨⟨aq,hl i σ H hi p⟩,Pv (i+1),fun af H' p'=>⟨xs.length-(i+1),by lia,rfl,aq,p'⟩,fun x H' y=>?_⟩
  obtain⟨t,v,hn,hv,rfl,rfl⟩:=y
  exact hs i v σ H t hv p hn
 ·have e:i=xs.length:=by lia
  subst e
  exact .inl ⟨⟨rfl,hl _ σ H hi p⟩,hd σ H p⟩
section
variable {td ty tv tx:TE} {D:Ends} {σ:St} {H:Hp} {Q:VK}
theorem Tu:VZ td ty σ H Q=td σ H fun x H1=>ty σ H1 fun y H2=>∃a v,x=.ref a/\DGet H2 a y (some v)/\Q v H2:=rfl
theorem Nt:PQ ty td σ H Q=ty σ H fun y H1=>td σ H1 fun x H2=>∃a o,x=.ref a/\DGet H2 a y o/\Q (.bl (!o.isSome)) H2:=rfl
theorem Tv:V0 td ty tv D σ H=tv σ H fun v H1=>td σ H1 fun x H2=>ty σ H2 fun y H3=>∃a H4,x=.ref a/\DPut H3 a y v H4/\D.nx σ H4:=rfl
theorem Qi:PX td ty σ H Q=td σ H fun x H1=>∃a,x=.ref a/\IsD H1 a/\ty σ H1 fun y H2=>∃o,DGet H2 a y o/\Q (o.getD .non) H2:=rfl
theorem Tw  : UA aF σ H Q=∀p,H p=none->HR aF σ (upd H p (.dK [])) fun ps H2=>H2 p=some (.dK [])/\∃kvs:List (Key×V),ps=kvs.map (fun kv=>(kV kv.1,kv.2))/\kvs.length<=15/\Q (.ref p) (upd H2 p (.dK (GN [] kvs))):=rfl
theorem Nu  : HR [] σ H R=R [] H:=rfl
theorem Nv   : HR ((td,tv)::r) σ H R=td σ H fun x H1=>tv σ H1 fun y H2=>HR r σ H2 fun ps H3=>R ((x,y)::ps) H3:=rfl
end
end L2
namespace GW
def CV (w:α2):List (Int×α2)->Nat->α2->List (Int×α2)
 |ents,_,[]=>ents
 |ents,x,g::r=>CV w (if g∈ents.map (·.1) then ents else ents++[(g,w++[(x:Int)])]) (x+1) r
def bfs (ab:α1):Nat->List (Int×α2)->Nat->List (Int×α2)
 |0,ents,_=>ents
 |f+1,ents,i=>match ents[i]? with
  |none=>ents
  |some e=>bfs ab f (CV e.2 ents 0 (ab.getD e.1.toNat [])) (i+1)
def Au (ab:α1):List (Int×α2):=bfs ab (ab.length+1) [(0,[])] 0
def Kb {ab:α1}{ents:List (Int×α2)}{i:Nat}(h:ents[i]?=none):∀f,bfs ab f ents i=ents
 |0=>rfl
 |f+1=>by rw[bfs,h]
def Kc  {ents:List (Int×α2)}   (h:ents[i]?=some e)(f:Nat):bfs ab (f+1) ents i=bfs ab f (CV e.2 ents 0 (ab.getD e.1.toNat [])) (i+1):=by rw[bfs,h]
def HW:∀(n:Nat) {l:α2},l.Nodup->(∀x∈l,0<=x/\x<(n:Int))->l.length<=n
 |0,l,_,h=>by
  cases l with
  |nil=>simp
  |cons x r=>have:=h x jp_;lia
 |n+1,l,hn,h=>by
  by_cases hm:(n:Int)∈l
  ·have e:=qY_ hm
   have:=HW n (l:=l.erase (n:Int)) (hn.erase _) (fun x hx=>by
    have h1:=(hn.mem_erase_iff).mp hx
    have h2:=h x h1.2
    have h3:=h1.1
    lia)
   lia
  ·have:=HW n hn (fun x hx=>by
    have h2:=h x hx
    have:x≠n:=fun z=>hm (z ▸ hx)
    lia)
   lia
structure Bfs (L:Int)(n:Nat)(ab:α1)(ents:List (Int×α2))(i:Nat)(top:Int):Prop where
 hd:ents[0]?=some (0,[])
 il:i<=ents.length
 sh:∀(j:Nat) (e:Int×α2),ents[j]?=some e->e.2.length<=j
 nod:(ents.map (·.1)).Nodup
 rng:∀e∈ents,0<=e.1/\e.1<(n:Int)
 wd:∀e∈ents,isW L e.2=true/\Az ab e.2=e.1
 inc:∀(j k:Nat) (a b:Int×α2),j<k->ents[j]?=some a->ents[k]?=some b->place L a.2<place L b.2
 bnd:∀e∈ents,place L e.2<top
 don:∀j,j<i->∀e,ents[j]?=some e->∀x:Int,0<=x->x<L->∃e'∈ents,e'.1=Bu ab e.1 x/\place L e'.2<=place L (e.2++[x])
def Bfs.len    {ents:List (Int×α2)}   (h:Bfs L n ab ents i top):ents.length<=n:=by
 have:=HW n h.nod (fun x hx=>by
  obtain⟨e,he,rfl⟩:=jv_.mp hx
  exact h.rng e he)
 simpa using this
def Bfs.start (L:Int)  (hn:1<=n)(ab:α1):Bfs L n ab [(0,[])] 0 1:=by
 refine⟨rfl,by simp,(fun j e he=>by cases j with|zero=>(simp at he;subst he;simp)|succ j=>simp at he),by simp,fun e he=>?_,fun e he=>?_,fun j k a b h h1 h2=>?_,fun e he=>?_,fun j hj=>absurd hj (xb_ _)⟩
 ·simp at he;subst he;simp;lia
 ·simp at he;subst he;exact⟨rfl,rfl⟩
 ·have:=(jc_.mp h2).1;simp at this;lia
 ·simp at he;subst he;simp[place,AU]
def Bfs.add  (hL:0<L)   {ents:List (Int×α2)}   (h:Bfs L n ab ents i top)   (hw:(r,w)∈ents)(hx:0<=x/\x<L)(ht:top<=place L w*L+x+1)
  (hg:g=Bu ab r x) (cA:0<=g/\g<(n:Int)) (dM:g∉ents.map (·.1)):Bfs L n ab (ents++[(g,w++[x])]) i (place L w*L+x+2):=by
 obtain⟨v1,v2⟩:=h.wd _ hw
 have hp:=Gh L w x
 have aj:0<ents.length:=by have:=(jc_.mp h.hd).1;lia
 refine⟨?_,by have:=h.il;simp;lia,fun j e he=>?_,?_,fun e he=>?_,fun e he=>?_,fun j k a b ji h1 h2=>?_,fun e he=>?_,fun j hj e he y mL jM=>?_⟩
 ·rw[jk_ aj];exact h.hd
 ·have hj:=(jc_.mp he).1
  rw[jn_,jX_]at hj
  by_cases fm:j<ents.length
  ·rw[jk_ fm]at he
   exact h.sh j e he
  ·have e1:j=ents.length:=by lia
   subst e1
   rw[jt_ (ji_ _),qG_]at he
   simp at he
   subst he
   obtain⟨j',cB,ej⟩:=jV_ hw
   have:=h.sh j' (r,w) (by rw[jh_ cB,ej])
   have this':w.length<=j':=this
   show (w++[x]).length<=ents.length
   simp;lia
 ·rw[jW_,zz_]
  refine⟨h.nod,by simp,fun a ha b hb=>?_⟩
  simp at hb
  subst hb
  exact fun z=>dM (z ▸ ha)
 ·rcases jA_.mp he with he|he
  ·exact h.rng e he
  ·rw[ju_.mp he];exact cA
 ·rcases jA_.mp he with he|he
  ·exact h.wd e he
  ·rw[ju_.mp he]
   refine⟨?_,?_⟩
   ·rw[Av]at v1 ⊢
    intro z hz
    rcases jA_.mp hz with hz|hz
    ·exact v1 z hz
    ·rw[ju_.mp hz];exact hx
   ·show Az ab (w++[x])=g
    rw[BI]
    have v2':Az ab w=r:=v2
    rw[v2',hg]
 ·have hk:=(jc_.mp h2).1
  rw[jn_,jX_]at hk
  by_cases iB:k<ents.length
  ·rw[jk_ iB]at h2
   rw[jk_ s!""]at h1
   exact h.inc j k a b ji h1 h2
  ·have hke:k=ents.length:=by lia
   subst hke
   rw[jk_ s!""]at h1
   rw[jt_ (ji_ _),qG_]at h2
   simp at h2
   subst h2
   have:=h.bnd a (jd_ h1)
   show place L a.2<place L (w++[x])
   rw[hp];lia
 ·rcases jA_.mp he with he|he
  ·have:=h.bnd e he;lia
  ·rw[ju_.mp he]
   show place L (w++[x])<_
   rw[hp];lia
 ·have fm:j<ents.length\/j=ents.length:=by
   have:=(jc_.mp he).1
   rw[jn_,jX_]at this
   lia
  rcases fm with fm|fm
  ·rw[jk_ fm]at he
   obtain⟨e',m,q⟩:=h.don j hj e he y mL jM
   exact⟨e',qc_ _ m,q⟩
  ·exact absurd fm (by have:=h.il;lia)
def Bfs.up    {ents:List (Int×α2)}   (h:Bfs L n ab ents i top)(ht:top<=gq):Bfs L n ab ents i gq :=
 ⟨h.hd,h.il,h.sh,h.nod,h.rng,h.wd,h.inc,fun e he=>tN (h.bnd e he) ht,h.don⟩
def Seen (L:Int)(ab:α1)(ents:List (Int×α2))(r:Int)(w:α2)(x:Nat):Prop:=∀y:Int,0<=y->y<x->∃e'∈ents,e'.1=Bu ab r y/\place L e'.2<=place L (w++[y])
def Bfs.letter {L:Int}(hL:0<L){n:Nat}{ab:α1}{ents:List (Int×α2)}{i x:Nat}{w:α2}{r g:Int}(h:Bfs L n ab ents i (place L w*L+x+1))(hs:Seen L ab ents r w x)(hw:(r,w)∈ents)(hx:(x:Int)<L)
  (hg:g=Bu ab r x) (cA:0<=g/\g<(n:Int)):Bfs L n ab (if g∈ents.map (·.1) then ents else ents++[(g,w++[(x:Int)])]) i (place L w*L+((x+1:Nat):Int)+1)/\Seen L ab (if g∈ents.map (·.1) then ents else ents++[(g,w++[(x:Int)])]) r w (x+1):=by
 by_cases hm:g∈ents.map (·.1)
 ·rw[if_pos hm]
  refine⟨h.up (by push_cast;lia),fun y mL jM=>?_⟩
  by_cases mE:y<x
  ·exact hs y mL mE
  ·have e:y=x:=by push_cast at jM;lia
   subst e
   obtain⟨e',fQ,e1⟩:=jv_.mp hm
   refine⟨e',fQ,by rw[<-hg];exact e1,?_⟩
   have:=h.bnd e' fQ
   rw[Gh];lia
 ·rw[if_neg hm]
  refine⟨(h.add hL hw ⟨by lia,hx⟩ (zy_ _) hg cA hm).up (by push_cast;lia),fun y mL jM=>?_⟩
  by_cases mE:y<x
  ·obtain⟨e',m,q⟩:=hs y mL mE
   exact⟨e',qc_ _ m,q⟩
  ·have e:y=x:=by push_cast at jM;lia
   subst e
   exact⟨_,jy_ _ jp_,hg,zy_ _⟩
def Bfs.next {L:Int}(hL:0<L){n i m:Nat}{ab:α1}{ents:List (Int×α2)}{w:α2}{r:Int}(h:Bfs L n ab ents i (place L w*L+m+1))(hm:(m:Int)=L)(hs:Seen L ab ents r w m)(hw:ents[i]?=some (r,w)):
  Bfs L n ab ents (i+1) (place L w*L+L+1)/\∀e,ents[i+1]?=some e->place L w*L+L+1<=place L e.2*L+1:=by
 have hi:=(jc_.mp hw).1
 rw[hm]at h
 refine⟨⟨h.hd,hi,h.sh,h.nod,h.rng,h.wd,h.inc,h.bnd,fun j hj e he x h0 h1=>?_⟩,fun e he=>?_⟩
 ·by_cases mM:j<i
  ·exact h.don j mM e he x h0 h1
  ·have e1:j=i:=by lia
   subst e1
   rw[hw]at he
   cases he
   exact hs x h0 s!""
 ·have:=h.inc i (i+1) _ _ (zJ_ _) hw he
  have h2:=qA_ (show place L w+1<=place L e.2 from this) (xT_ hL)
  rw[wh_]at h2
  lia
def Gj (w:α2)(ents:List (Int×α2))(x:Nat):CV w ents x []=ents:=rfl
def Fs (w:α2)(ents:List (Int×α2))(x:Nat)(g:Int)(r:α2):CV w ents x (g::r)=CV w (if g∈ents.map (·.1) then ents else ents++[(g,w++[(x:Int)])]) (x+1) r:=rfl
def Ft {ents:List (Int×α2)}{g:Int}{v:α2}{i:Nat}{e:Int×α2}(h:ents[i]?=some e):(if g∈ents.map (·.1) then ents else ents++[(g,v)])[i]?=some e:=by
 split
 ·exact h
 ·rw[jk_ (jc_.mp h).1];exact h
end GW
namespace L2
open PySem PySem.Spec PyProof.Rows
def ups (n:Nat):α2:=(rq n).map fun i:Nat=>(i:Int)
def Nw (te:TE):TE:=fun σ H Q=>te σ H fun x H1=>∃j:Int,x=.int j/\0<=j/\j<=100000/\∀p,H1 p=none->Q (.ref p) (upd H1 p (.lst ((ups j.toNat).map V.int)))
theorem Li     : Nw te σ H Q=te σ H fun x H1=>∃j:Int,x=.int j/\0<=j/\j<=100000/\∀p,H1 p=none->Q (.ref p) (upd H1 p (.lst ((ups j.toNat).map V.int))):=rfl
def Qj   (h:ItemsOf (fun i v=>∃t,v=.int ((0:Int)+(i:Nat)*1) t) ah n):Vals ((ups n).map V.int) ah.toList:=by
 have hs:=h.1
 have key:∀(l:List Value) (k:Nat),(∀i v,l[i]?=some v->∃t,v=Value.int ((k+i:Nat):Int) t)->Vals (((rq l.length).map fun i=>((k+i:Nat):Int)).map V.int) l:=by
  intro l
  induction l with
  |nil=>intro k _;exact .nil
  |cons u r ih=>
   intro k hk
   rw[jT_,List.range_succ_eq_map,j0_,j0_]
   refine .cons ?_ ?_
   ·obtain⟨t,e⟩:=hk 0 u (by simp)
    exact⟨t,by simpa using e⟩
   ·have:=ih (k+1) (fun i v hv=>by
     obtain⟨t,e⟩:=hk (i+1) v (by simpa using hv)
     exact⟨t,by rw[e];congr 1;push_cast;lia⟩)
    have e:((List.map Nat.succ (rq r.length)).map fun i=>((k+i:Nat):Int))=((rq r.length).map fun i=>((k+1+i:Nat):Int)):=by
     rw[jR_]
     apply qo_
     intro i _
     show ((k+(i+1):Nat):Int)=_
     congr 1;lia
    rw[e]
    exact this
 have:=key ah.toList 0 (fun i v hv=>by
  obtain⟨t,e⟩:=h.2 i v (by simpa using hv)
  exact⟨t,by rw[e];congr 1;push_cast;lia⟩)
 have hl:ah.toList.length=n:=by simpa using hs
 rw[hl]at this
 have e2:((rq n).map fun i=>((0+i:Nat):Int))=ups n:=by
  unfold ups
  apply qo_
  intro i _
  congr 1;lia
 rw[e2]at this
 exact this
def Gk     (hc:X.calm=true)(hg:Gl X "list")(hm:X.mg "list"=none)(jN:Gl X "range")(hZ:X.mg "range"=none)(he:PE X e te)
  (jj:starEach [.Call (.Name "range" p2) [e] [] dW] X.env=[(false,eval (.Call (.Name "range" p2) [e] [] dW) X.env)]:=by rfl) (hs:starEach [e] X.env=[(false,eval e X.env)]:=by rfl):
  PE X (.Call (.Name "list" p) [.Call (.Name "range" p2) [e] [] dW] [] pos) (Nw te):=by
 intro ae s σ H Q I h
 refine xx_ (DS I hg hm boot_list ?_)
 refine j9_ ?_ jj rfl
 rw[jj]
 refine xw_ ?_
 refine Call_ (DS I jN hZ boot_range (j9_ (thn (Aa he Ae hs dW ae s σ H (fun vs H1=>∃j:Int,vs=[.int j]/\0<=j/\j<=100000/\∀p,H1 p=none->Q (.ref p) (upd H1 p (.lst ((ups j.toNat).map V.int)))) I ?_) fun us s1 ⟨vs,H1,I1,r1,q1⟩=>?_) hs rfl))
 ·show te σ H _
  have:(fun x H1=>∃j:Int,x=V.int j/\0<=j/\j<=100000/\∀p,H1 p=none->Q (.ref p) (upd H1 p (.lst ((ups j.toNat).map V.int))))=(fun x H1=>tNil σ H1 fun xs H2=>∃j:Int,x::xs=[V.int j]/\0<=j/\j<=100000/\∀p,H2 p=none->Q (.ref p) (upd H2 p (.lst ((ups j.toNat).map V.int)))):=by
   funext x H1
   simp[tNil]
  rw[<-this]
  exact h
 ·obtain⟨j,rfl,h0,h1,q⟩:=q1
  cases r1 with
  |cons r rr=>
   cases rr
   obtain⟨t,rfl⟩:=r
   refine call_range_1 ?_
   refine x3_ ?_
   refine call_list_range (n:=j.toNat) (I.ok.hd hc) (IsRange.new ..) (small_one s!"" s!"" s!"" s!"") ?_ s!"" fun h' tk dX c' hk hS aP=>?_
   ·rw[rangeSize_one];split<;>lia
   ·have kp:∀b o,s1.heap.get? b=some o->h'.get? b=some o:=fun b o e=>hk b o (jf_ _ e)
    have hz:(ups j.toNat).length=j.toNat:=by simp[ups]
    have hl:=As
    refine⟨.ref _,_,I1.laid (t':=tk) kp (by rw[qf_];exact wg_ _) (show Bj X.prog X.w _ h' _ (.lst ((ups j.toNat).map V.int)) from ⟨by rw[ja_,hz];lia,dX.toList,c',Qj aP,by simpa using hS⟩),rfl,q _ (I1.hok.fresh (by rw[qf_];exact wg_ _))⟩
def Qk (tk tv:TE):TE:=UA [(tk,tv)]
def R0     (hk:PE X k tk)(hv:PE X v tv):PE X (.Dict [some k] [v] pos) (Qk tk tv):=UB (RS hk hv Uz) rfl rfl (by intro z;cases z) (by show 1<=15;decide)
theorem Ql     : Qk tk tv σ H Q=∀p,H p=none->tk σ (upd H p (.dK [])) fun x H1=>tv σ H1 fun y H2=>H2 p=some (.dK [])/\∃kvs:List (Key×V),[(x,y)]=kvs.map (fun kv=>(kV kv.1,kv.2))/\kvs.length<=15/\Q (.ref p) (upd H2 p (.dK (GN [] kvs))):=rfl
def UJ {X:Cx}{i:Nat}{x:Str}{k v:Expr}{tk tv:TE}{pos cD dpos:Pos}(hN:X.N.Nodup)(hi:X.N[i]?=some x)(hx:Loc X.env.scope x)(hk:PE X k tk)(hv:PE X v tv)(hs:swapsWith (.Dict [some k] [v] dpos) (some (.Name x cD)) pos.line X.env=pure false)
  (hf:X.fn x=true\/X.env.scope.names.lookup x=some .local):PS X (.Assign [.Name x cD] (.Dict [some k] [v] dpos) pos) (tAsg (Qk tk tv) (Gf i)):=Bk hN hi hx (R0 hk hv) hs hf
end L2
namespace L2
def Nx (ys:α2)(m:Nat):cutV (ys.map V.int) none (some (m:Int))=(ys.take m).map V.int:=by
 rw[Nl]
 unfold cutI
 rw[HT.sIx_nat,HT.sIx_none,tq,tX]
 congr 1
 rw[List.take_eq_take_iff]
 lia
end L2
namespace L2
open PySem GW
def mkW (aa:α2)(r:Int):Int:=aa.getD r.toNat 0
def Wr   (h0:0<=r)(h1:r<aa.length):mkW aa r∈aa:=by
 have aq:r.toNat<aa.length:=by lia
 unfold mkW
 rw[jj_,jh_ aq]
 exact j1_ aq
def Qm   (h0:0<=r)(h1:r<aa.length):atI (aa.map V.int) r=some (V.int (mkW aa r)):=by
 have aq:r.toNat<aa.length:=by lia
 refine AX h0 ?_
 unfold mkW
 rw[jj_,jh_ aq];rfl
end L2
namespace GW
def Bfs.least {L:Int}{n:Nat}{ab:α1}{top:Int}{ents:List (Int×α2)}(h:Bfs L n ab ents ents.length top){ws:α2}(hv:isW L ws=true):∀i,i<=ws.length->∃w',(Az ab (ws.take i),w')∈ents/\place L w'<=place L (ws.take i)
 |0,_=>⟨[],by simpa [Az] using jd_ h.hd,by simp⟩
 |i+1,hi=>by
  obtain⟨w',m,hp⟩:=Bfs.least h hv i s!""
  have bV:ws[i]?=some ws[i]:=by simp
  have bP:=Av.mp hv ws[i] (j1_ _)
  obtain⟨j,hj,ej⟩:=jV_ m
  obtain⟨e',me,e1,e2⟩:=h.don j hj _ (by rw[jh_ hj,ej]) ws[i] bP.1 bP.2
  obtain⟨g,v⟩:=e'
  have e1:g=Bu ab (Az ab (ws.take i)) ws[i]:=e1
  have e2:place L v<=place L (w'++[ws[i]]):=e2
  have et:ws.take (i+1)=ws.take i++[ws[i]]:=by rw[jQ_,bV];rfl
  have hL:0<=L:=by lia
  refine⟨v,?_,?_⟩
  ·rw[et,BI,<-e1];exact me
  ·rw[et]
   rw[Gh]at e2 ⊢
   have:=qA_ hp hL
   lia
end GW
namespace L2
open PySem PySem.Spec PyProof.Rows
def Vals.ofIx:∀{xs:List V} {us:List Value},us.length=xs.length->(∀(i:Nat) (v:Value),us[i]?=some v->∃x,xs[i]?=some x/\RelV x v)->Vals xs us
 |[],[],_,_=>.nil
 |[],_::_,h,_=>by simp at h
 |_::_,[],h,_=>by simp at h
 |x::xs,u::us,h,k=>by
  refine .cons ?_ (Vals.ofIx (by simpa using h) fun i v hv=>?_)
  ·obtain⟨y,e,r⟩:=k 0 u rfl
   cases e
   exact r
  ·obtain⟨y,e,r⟩:=k (i+1) v (by simpa using hv)
   exact⟨y,by simpa using e,r⟩
def Qn   (h:L3 k v=true):RelV (kV k) v:=by
 rcases Bf h with ⟨i,t,rfl,e⟩|⟨x,t,rfl,e⟩
 ·exact⟨t,e⟩
 ·exact⟨t,e⟩
def IW  (hc:X.calm=true):Cf X (.type "list") (fun xs H Q=>∃p kvs,xs=[.ref p]/\H p=some (.dK kvs)/\∀l,H l=none->Q (.ref l) (upd H l (.lst (kvs.map fun kv=>kV kv.1)))):=by
 intro ae s σ H xs us Q I r h
 obtain⟨p,kvs,rfl,hp,q⟩:=h
 obtain⟨u,rfl,rx⟩:=vals1 r
 cases rx
 obtain⟨hz,hS,vs,rr,m⟩:=RP I.hok hp
 obtain⟨ep,mN⟩:=m.dictAt
 have aj:=rr.length
 have nR:=rr.keys
 refine uj (wH (knd:=Bi X.prog X.w) (kvs:=vs) (ep:=ep) hS) (I.ok.hd hc) mN s!"" fun h' tk dX c' hk hD aP=>?_
 have hv:Vals (kvs.map fun kv=>kV kv.1) dX.toList:=by
  refine Vals.ofIx (by rw[ja_,aj];simpa using aP.1) fun i v hv=>?_
  obtain⟨k,x,hx,cG⟩:=aP.2 i v (by simpa using hv)
  refine⟨kV k,?_,Qn cG⟩
  have e1:(kvs.map (·.1))[i]?=some k:=by rw[nR,je_,hx];rfl
  rw[je_]at e1 ⊢
  cases hq:kvs[i]? with
  |none=>rw[hq]at e1;cases e1
  |some kv=>rw[hq]at e1;cases e1;rfl
 exact⟨.ref _,_,I.laid (t':=tk) hk (ji_ _) (show Bj X.prog X.w _ h' _ (.lst (kvs.map fun kv=>kV kv.1)) from ⟨by rw[ja_];exact hz,dX.toList,c',hv,by simpa using hD⟩),rfl,q _ (I.hok.fresh (ji_ _))⟩
end L2
namespace L2
theorem r_in {K:α3}     : rIn K jE x y H Q=∃p xs,y=.ref p/\(SqL K H p xs\/SqT K H p xs)/\Cy x=true/\xs.all Cy=true/\Q (.bl (if jE then !inV x xs else inV x xs)) H:=rfl
def HX (ns:α2):(ns.map V.int).all Cy=true:=by
 rw[qw_]
 intro x hx
 obtain⟨n,_,rfl⟩:=jv_.mp hx
 rfl
def Ny (g:Int)(ns:α2):inV (.int g) (ns.map V.int)=decide (g∈ns):=by
 unfold inV
 rw[List.any_map,qC_,zc_,qy_]
 constructor
 ·rintro⟨n,hn,e⟩
  have e:decide (n=g)=true:=by simpa [eqV] using e
  rw[<-qr_ e];exact hn
 ·exact fun h=>⟨g,h,by simp[eqV]⟩
end L2
namespace L2
open PySem PySem.Spec PyProof.Rows
def rng (i j:Int):α2:=(rq (j-i).toNat).map fun k:Nat=>i+(k:Int)
end L2
namespace GW
open L2
def HY:∀{l m:α2},l.Nodup->(∀x∈l,x∈m)->m.length<=l.length->l.Perm m
 |[],m,_,_,h=>by
  have:m=[]:=List.eq_nil_of_length_eq_zero (by simpa using h)
  subst this;exact .refl _
 |x::l,m,hn,h,hl=>by
  have hx:=h x jp_
  have fZ:=qK_.mp hn
  have p:=HY (l:=l) (m:=m.erase x) fZ.2 (fun y hy=>(xj_ (fun (z:y=x)=>fZ.1 (z ▸ hy))).mpr (h y (jl_ _ hy))) (by rw[qY_ hx];simp at hl;lia)
  exact (p.cons x).trans (List.perm_cons_erase hx).symm
def Qo (n:Nat):(ups n).Nodup:=by
 unfold ups
 exact tY (R:=(· ≠ ·)) _ (fun a b b9 z=>b9 s!"") zM_
def Qp   : x∈ups n↔0<=x/\x<(n:Int):=by
 unfold ups
 rw[jv_]
 constructor
 ·rintro⟨r,hr,rfl⟩
  have:=jE_.mp hr
  lia
 ·exact fun h=>⟨x.toNat,jE_.mpr s!"",by lia⟩
def Qq (n:Nat):(ups n).length=n:=by simp[ups]
def Dc (n:Nat)(o:α2):Prop:=o.Perm (ups n)/\o[0]?=some 0
def Dc.len   (h:Dc n o):o.length=n:=by rw[h.1.length_eq,Qq]
def Dc.nod   (h:Dc n o):o.Nodup:=(h.1.nodup_iff).mpr (Qo n)
def Dc.mem   (h:Dc n o)  : x∈o↔0<=x/\x<(n:Int):=by rw[h.1.mem_iff,Qp]
def ordW (o:α2)(r:Int):Int:=o.getD r.toNat 0
def UK   (h0:0<=r)(h1:r<o.length):o[r.toNat]?=some (ordW o r):=by
 unfold ordW
 rw[jj_,jh_ s!""];rfl
def Dc.at   (h:Dc n o)  (h0:0<=r)(h1:r<(n:Int)):o[r.toNat]?=some (ordW o r)/\0<=ordW o r/\ordW o r<(n:Int):=by
 have:=UK (o:=o) h0 (by rw[h.len];exact h1)
 exact⟨this,h.mem.mp (jd_ this)⟩
def Dc.inv   (h:Dc n o)  (h0:0<=x)(h1:x<(n:Int)):∃r:Nat,r<n/\o[r]?=some x:=by
 obtain⟨r,hr,e⟩:=jV_ (h.mem.mpr ⟨h0,h1⟩)
 exact⟨r,by rw[<-h.len];exact hr,by rw[jh_ hr,e]⟩
def CB {α:Type}(o:α2)(f:Nat->α):Nat->List α->List α
 |0,d=>d
 |i+1,d=>(CB o f i d).set (ordW o i).toNat (f i)
def CI {α:Type}(o:α2)(f:Nat->α):∀(i:Nat) (d:List α),(CB o f i d).length=d.length
 |0,_=>rfl
 |i+1,d=>by rw[CB,qV_,CI o f i d]
def Dc.inj   (h:Dc n o)  (hr:r<n)(hq:q<n)(e:ordW o r=ordW o q):r=q:=by
 have a:=(h.at (r:=(r:Int)) s!"" s!"").1
 have b:=(h.at (r:=(q:Int)) s!"" s!"").1
 rw[jg_]at a b
 have bQ:r<o.length:=by rw[h.len];exact hr
 have hX:q<o.length:=by rw[h.len];exact hq
 refine (xV_ (h₀:=bQ) (h₁:=hX) h.nod).mp ?_
 rw[jh_ bQ]at a
 rw[jh_ hX]at b
 rw[jq_ a,jq_ b,e]
def HZ {α:Type}{n:Nat}{o:α2}(h:Dc n o)(f:Nat->α):∀(i:Nat) (d:List α),i<=n->d.length=n->∀r:Nat,r<i->(CB o f i d)[(ordW o r).toNat]?=some (f r)
 |0,_,_,_,r,hr=>absurd hr (xb_ _)
 |i+1,d,hi,hd,r,hr=>by
  have b:=(h.at (r:=(r:Int)) s!"" s!"").2
  have c:=(h.at (r:=(i:Int)) s!"" s!"").2
  rw[CB]
  by_cases e:r=i
  ·subst e
   rw[qU_ (by rw[CI,hd];lia)]
  ·have ne:ordW o i≠ordW o r:=fun z=>e (h.inj s!"" s!"" z.symm)
   rw[xi_ s!""]
   exact HZ h f i d s!"" hd r s!""
def Qr (n:Nat)(o aa:α2):α2:=CB o (fun r=>aa.getD r 0) n (rp n 0)
def Qs (n:Nat)(o:α2)(ab:α1):α1:=CB o (fun r=>(ab.getD r []).map (ordW o)) n (rp n [])
end GW
namespace L2
open PySem PySem.Spec PyProof.Rows GW
def CA.set {K:α3}      (h:CA K H l ws)(hw:SqT K H t (w.map V.int)):∃xs,H l=some (.lst xs)/\xs.length=ws.length/\CA K (upd H l (.lst (xs.set j (V.ref t)))) l (ws.set j w):=by
 obtain⟨ts,h1,h2,h3⟩:=h
 refine⟨_,h1,by simpa using h2,ts.set j t,by rw[Ab,tW],by simpa using h2,fun i t' w' a b=>?_⟩
 have key:∀{u:Addr} {v:α2},SqT K H u (v.map V.int)->SqT K (upd H l (.lst ((ts.map V.ref).set j (V.ref t)))) u (v.map V.int):=fun q=>Ka h1 q
 by_cases e:j=i
 ·subst e
  rw[qU_ (by have:=(jc_.mp a).1;simpa using this)]at a
  rw[qU_ (by have:=(jc_.mp b).1;simpa using this)]at b
  cases a;cases b
  exact key hw
 ·rw[xi_ e]at a b
  exact key (h3 i t' w' a b)
end L2
namespace L2
def Kd {α:Type}(x:α):∀n:Nat,(rp n [x]).flatten=rp n x
 |0=>rfl
 |n+1=>by rw[qn_,xL_,Kd x n,qn_];rfl
end L2
namespace L2
def Nz {n:Nat}{x:Int}(h0:0<=x)(h1:x<(n:Int)):ixN n x=some x.toNat:=by
 unfold ixN
 simp only[h0,h1,and_self,xB_]
end L2
namespace GW
def Dd (n:Nat)(o aa:α2):(Qr n o aa).length=n:=by unfold Qr;rw[CI,qL_]
def Lj (n:Nat)(o:α2)(ab:α1):(Qs n o ab).length=n:=by unfold Qs;rw[CI,qL_]
def R3   (h:Dc n o)(aa:α2)  (hr:r<n):(Qr n o aa)[(ordW o r).toNat]?=some (aa.getD r 0):=HZ h _ n _ (ji_ _) (qL_) r hr
def R4   (h:Dc n o)(ab:α1)  (hr:r<n):(Qs n o ab)[(ordW o r).toNat]?=some ((ab.getD r []).map (ordW o)):=HZ h _ n _ (ji_ _) (qL_) r hr
end GW
namespace GW
open L2
def Dc.nat   (h:Dc n o)  (hj:j<n):∃r:Nat,r<n/\ordW o r=(j:Int):=by
 obtain⟨r,hr,er⟩:=h.inv (x:=(j:Int)) s!"" s!""
 have a:=(h.at (r:=(r:Int)) s!"" s!"").1
 rw[jg_,er]at a
 exact⟨r,hr,(jq_ a).symm⟩
def Wf.getW    (wf:Wf L aa ab)  (hr:r<aa.length):ab[r]?=some (ab.getD r [])/\ab.getD r []∈ab:=by
 have aq:r<ab.length:=by rw[wf.len];exact hr
 have e:ab.getD r []=ab[r]:=by rw[jj_,jh_ aq];rfl
 rw[e]
 exact⟨jh_ aq,j1_ aq⟩
def R5 {L:Int}{aa:α2}{ab:α1}{o:α2}(wf:Wf L aa ab)(h:Dc aa.length o){j:Nat}{row:α2}(hj:(Qs aa.length o ab)[j]?=some row):∃r:Nat,r<aa.length/\ordW o r=(j:Int)/\row=(ab.getD r []).map (ordW o):=by
 have aq:=(jc_.mp hj).1
 rw[Lj]at aq
 obtain⟨r,hr,er⟩:=h.nat aq
 have:=R4 h ab hr
 rw[er,jg_,hj]at this
 exact⟨r,hr,er,jq_ this⟩
def UL     (wf:Wf L aa ab)(h:Dc aa.length o):Wf L (Qr aa.length o aa) (Qs aa.length o ab):=by
 refine⟨wf.l1,wf.l6,by rw[Dd];exact wf.n1,by rw[Dd];exact wf.n40,by rw[Dd,Lj],fun row hrow=>?_,fun m hm=>?_⟩
 ·rw[Dd]
  obtain⟨j,hj,e⟩:=jV_ hrow
  obtain⟨r,hr,_,rfl⟩:=R5 wf h (j:=j) (row:=row) (by rw[jh_ hj,e])
  have hw:=wf.rows _ (wf.getW hr).2
  refine⟨by rw[ja_];exact hw.1,fun x hx=>?_⟩
  obtain⟨g,hg,rfl⟩:=jv_.mp hx
  have:=hw.2 g hg
  exact (h.at this.1 this.2).2
 ·obtain⟨j,hj,e⟩:=jV_ hm
  have aq:=hj
  rw[Dd]at aq
  obtain⟨r,hr,er⟩:=h.nat aq
  have:=R3 h aa hr
  rw[er,jg_,jh_ hj,e]at this
  have:m=aa.getD r 0:=jq_ this
  rw[this,jj_,jh_ hr]
  exact wf.mks _ (j1_ hr)
end GW
namespace PySem
open Sem (wp)
def Heap.DEnt (h:Heap)(d:Addr)(es:Array DictEntry)(ep:Nat):Prop:=∃o,h.get? d=some o/\o.ExactDict/\o.data=.dict es ep
section
variable {prog:Program} {w:World} {A:Around} {E:Value->Shared->Prop} {s:Shared} {d it:Addr} {es:Array DictEntry} {i ep:Nat}
def Heap.DEnt.typeIs (h:s.heap.DEnt d es ep):s.TypeIs (.ref d) "dict" := let ⟨o,ho,hc,_⟩:=h;⟨o,ho,hc.1⟩
def Heap.DEnt.at {h h':Heap}(x:h.DEnt d es ep)(e:∀o,h.get? d=some o->h'.get? d=some o):h'.DEnt d es ep:=let ⟨o,ho,r⟩:=x;⟨o,e _ ho,r⟩
def Heap.DEnt.lt_size {h:Heap}(x:h.DEnt d es ep):d<h.objs.size:=let ⟨_,ho,_⟩:=x;jr_ ho
def Ml  (hd:(d==sysModules)=false)(hm:s.heap.DEnt d es ep)
  (hQ:Q (.ref s.heap.objs.size) {s with heap:=s.heap.push {cls:=.type "dict_keyiterator",data:=.fields #[.ref d,.int 0 0,.int es.size 0,.int ep 0]} }):wpAny (model prog w) A (pyIter (.ref d)) Q E s:=by
 have hT:=hm.typeIs
 obtain⟨o,ho,hc,iC⟩:=id hm
 refine wpAny_pyIter_slot hT F.slot_dict_iter (qD_ F.slot_dict_iter hT F.entry_dict_iter (?_:wpAny _ _ (Builtin.«dict.__iter__» _) _ _ s) (F.args_dict_iter_1 _))
 unfold Builtin.«dict.__iter__»;refine wpAny_bind ?_
 unfold Builtin.Dict.dictSlotNone;refine wpAny_bind (wpAny_notOrdered_dict hT ?_)
 show wpAny _ _ (pure (Value.ref d)) _ _ s;refine jo_ ?_
 show wpAny _ _ (Builtin.Dict.showsAll d >>= _) _ _ s;unfold Builtin.Dict.showsAll
 rw[if_neg (fun z=>by rw[hd]at z;cases z)]
 refine jb_ (jo_ (jb_ (zA_ ho iC (jb_ (wpAny_dictEpoch ho iC ?_)))))
 refine jb_ (qq_ (jo_ ⟨_,rfl,"dict_keyiterator",_,⟨_,jx_ _ rfl,rfl⟩,q0_.lookup,?_⟩));simpa [rawInt] using hQ
def G8  (aN:s.heap.IsKeyIter it d i es.size ep)(hm:s.heap.DEnt d es ep)(aq:i<es.size)
  (hQ:∀h',h'.IsKeyIter it d (i+1) es.size ep->Heap.SameBut it s.heap h'->Q (some es[i].key) {s with heap:=h' }):wpAny (model prog w) A (pyNext (.ref it)) Q E s:=by
 obtain⟨o,ho,hc,hd⟩:=id aN
 obtain⟨od,mO,b8,mP⟩:=id hm
 have jO:Builtin.Dict_items.ownsTuple "dict_keyiterator"=false:=by decide
 unfold pyNext
 refine jb_ (xl_ (j5_ (name:=Str.ofString "__next__") aN.typeIs q0_ (qD_ q0_ aN.typeIs F.entry_dict_keyiterator_next ?_ (F.args_dict_keyiterator_next_1 _))))
 refine jb_ (jo_ (jb_ (jb_ ?_)))
 first|refine jb_ (xg_ aN.typeIs (jo_ (jb_ (wpAny_fieldsOf ho hd ?_))))|refine jb_ (xN_ aN.typeIs (jo_ (jb_ (wpAny_fieldsOf ho hd ?_))))
 simp only[jO,jS_,qS_];show wpAny _ _ (if (Value.ref d==Value.none)=true then _ else _) _ _ s
 rw[if_neg (show ¬ ((Value.ref d==Value.none)=true) from fun z=>js_ z)]
 refine jb_ (jo_ (jb_ (zA_ mO mP ?_)))
 rw[if_neg (by simp)];refine jb_ (jo_ (jb_ (wpAny_dictEpoch mO mP ?_)))
 rw[if_neg (by simp)];refine jo_ ?_
 simp only[show ¬ ((i:Int)<0) from by lia,qS_,jg_,qF_ aq];refine jb_ ?_
 first|refine jb_ (xg_ aN.typeIs (jo_ (jb_ (zF_ aN.typeIs ?_))))|refine jb_ (xN_ aN.typeIs (jo_ (jb_ (zF_ aN.typeIs ?_))))
 show wpAny _ _ (setField (.ref it) 1 (rawInt ((i:Int)+1)) >>= _) _ _ s;refine jb_ (x8_ ho hd (by simp) ?_)
 have dD:(s.heap.update it (Obj.mapFields (·.setIfInBounds 1 (rawInt ((i:Int)+1))))).IsKeyIter it d (i+1) es.size ep:=⟨_,qM_ _ ho (zE_ (xy_ hd _)),(Obj.cls_mapFields ..).trans hc,by rw[xy_ hd];simp[rawInt]⟩
 refine jb_ (qJ_ (jb_ (zF_ (s:={s with heap:=s.heap.update it (Obj.mapFields (·.setIfInBounds 1 (rawInt ((i:Int)+1))))}) dD.typeIs ?_)))
 show wpAny _ _ (pure es[i].key) _ _ _;exact jo_ (jo_ ⟨_,rfl,jo_ (hQ _ dD (xq_ ..))⟩)
def Ia  (hh:A.handled=none)(aN:s.heap.IsKeyIter it d i es.size ep)(hm:s.heap.DEnt d es ep)(bC:es.size<=i)
  (hQ:∀h',Heap.ExtBut it s.heap h'->Q none {s with heap:=h' }):wpAny (model prog w) A (pyNext (.ref it)) Q E s:=by
 obtain⟨o,ho,hc,hd⟩:=id aN
 obtain⟨od,mO,b8,mP⟩:=id hm
 have jO:Builtin.Dict_items.ownsTuple "dict_keyiterator"=false:=by decide
 unfold pyNext
 refine jb_ (xl_ (j5_ (name:=Str.ofString "__next__") aN.typeIs q0_ (qD_ q0_ aN.typeIs F.entry_dict_keyiterator_next ?_ (F.args_dict_keyiterator_next_1 _))))
 refine jb_ (jo_ (jb_ (jb_ ?_)))
 first|refine jb_ (xg_ aN.typeIs (jo_ (jb_ (wpAny_fieldsOf ho hd ?_))))|refine jb_ (xN_ aN.typeIs (jo_ (jb_ (wpAny_fieldsOf ho hd ?_))))
 simp only[jO,jS_,qS_];show wpAny _ _ (if (Value.ref d==Value.none)=true then _ else _) _ _ s
 rw[if_neg (show ¬ ((Value.ref d==Value.none)=true) from fun z=>js_ z)]
 refine jb_ (jo_ (jb_ (zA_ mO mP ?_)))
 rw[if_neg (by simp)];refine jb_ (jo_ (jb_ (wpAny_dictEpoch mO mP ?_)))
 rw[if_neg (by simp)];refine jo_ ?_
 simp only[show ¬ ((i:Int)<0) from by lia,qS_,jg_,sv bC];refine jb_ ?_
 first|refine jb_ (xg_ aN.typeIs (jo_ ?_))|refine jb_ (xN_ aN.typeIs (jo_ ?_))
 show wpAny _ _ (setField (.ref it) 0 .none >>= _) _ _ s;refine jb_ (x8_ ho hd (by simp) ?_)
 show wpAny _ _ (newExc (.type "StopIteration") [] >>= _) _ _ _;refine jb_ ?_
 simp only[newExc,newTuple];refine jb_ (qq_ ?_ (by size_fits))
 refine jb_ (m:=firstArgMember _ _) (wpAny_of_eq (a:=Value.none) (by first|rfl|(simp only[firstArgMember];rfl)) (qq_ ?_ (by size_fits)))
 simp only[raiseNew];refine jb_ (wpAny_handled ?_)
 rw[show A.in1.handled=none from hh];refine jb_ (jo_ (wpAny_throw ?_))
 refine jb_ (wpAny_isInstance (T := "StopIteration") (b:=true) ⟨_,jx_ _ rfl,rfl⟩ isSubtype_stop (jo_ (hQ _ (((xq_ ..).extBut.push _).push _))))
def Walks.dent (hh:A.handled=none)(I:Addr)(aw:d≠I):Walks prog w A I [I,d] [I] es.size (fun i v=>∃e,es[i]?=some e/\v=e.key) (fun i h=>h.IsKeyIter I d i es.size ep/\h.DEnt d es ep) where
 sub:=fun b hb=>by simp at hb;simp[hb]
 frame:=fun _ _ _ st hk=>⟨st.1.at fun o e=>hk I (by simp) o e,st.2.at fun o e=>hk d (by simp) o e⟩
 item:=fun i s Q E hi st hQ=>by
  refine G8 st.1 st.2 hi fun h' dD bF=>?_
  exact hQ _ h' s.toks ⟨es[i],by simp[hi],rfl⟩ ⟨dD,st.2.at fun o e=>bF.extBut d o aw e⟩ fun b o hb e=>bF.extBut b o (fun z=>hb (by simp[z])) e
 done:=fun s Q E st hQ=>Ia hh st.1 st.2 (ji_ _) fun h' fQ=>hQ h' s.toks fun b o hb e=>fQ b o (fun z=>hb (by simp[z])) e
 self:=fun _ _ _ _ st hQ=>wpAny_pyIter_keyiter st.1 hQ
def R6 (lo:(d==sysModules)=false):wW prog w "dict" d d es.size (fun i v=>∃e,es[i]?=some e/\v=e.key) (fun h=>h.DEnt d es ep) where
 type:=fun _ hm=>hm.typeIs
 there:=fun _ hm=>⟨hm.lt_size,hm.lt_size⟩
 keep:=fun _ _ hm hk=>hm.at fun o e=>hk d (.inl rfl) o e
 notList:=by decide
 notTuple:=by decide
 hint:=fun _ _ _ _ hm hq=>vJ hm.typeIs hq
 iter:=fun _ _ hh hm=>⟨_,_,(fun _ _ hq=>Ml lo hm hq),Walks.dent hh _ (jM_ hm.lt_size),⟨⟨_,jx_ _ rfl,rfl,rfl⟩,hm.at fun o e=>jf_ _ e⟩⟩
end
end PySem
namespace L2
open PySem PySem.Spec PyProof.Rows
def Jp {α β:Type}{F:α->β->Prop}:∀{l:List α} {m:List β} {i:Nat} {a:α},Paired F l m->l[i]?=some a->∃b,m[i]?=some b/\F a b
 |_,_,_,_,.nil,e=>by simp at e
 |_,_,0,_,.cons r _,e=>by simp at e;subst e;exact⟨_,rfl,r⟩
 |_,_,i+1,a,.cons _ t,e=>by
  obtain⟨b,h1,h2⟩:=Jp (i:=i) (a:=a) t (by simpa using e)
  exact⟨b,by simpa using h1,h2⟩
def UM       (ok:HOk P w H h)(e:Rd H a (.dT kvs)):
  ∃o es ep,h.get? a=some o/\o.ExactDict/\o.data=.dict es ep/\es.size=kvs.length/\(a==sysModules)=false/\kvs.length<=sizeLine /\
   ∀(i:Nat) (k:List Key) (v:V),kvs[i]?=some (k,v)->∃b en,es[i]?=some en/\en.key=.ref b/\H b=some (.tup (k.map kV)):=by
 obtain⟨z,y,xs,r,o,es,ep,h1,h2,h3,h4,h5⟩:=(show Bj P w H h a (.dT kvs) from Uw ok e)
 have hl:=Paired.length r
 have hs:es.size=kvs.length:=by rw[<-j3_,h4,ja_,hl]
 refine⟨o,es,ep,h1,h2,h3,hs,y,z,fun i k v hk=>?_⟩
 obtain⟨q,hq,e1,e2,_⟩:=Jp r hk
 refine⟨q.2.1,entryOfKey (tupleKind (Bi P w)) q,?_,rfl,e2⟩
 rw[<-xz_,h4,je_,hq];rfl
def Ib  (hc:X.calm=true):Cf X (.type "list") (fun xs H Q=>∃p kvs,xs=[.ref p]/\Rd H p (.dT kvs)/\∀l rs,H l=none->rs.length=kvs.length ->
  (∀(i:Nat) (k:List Key) (v:V),kvs[i]?=some (k,v)->∃b,rs[i]?=some (V.ref b)/\H b=some (.tup (k.map kV)))->Q (.ref l) (upd H l (.lst rs))):=by
 intro ae s σ H xs us Q I r h
 obtain⟨p,kvs,rfl,hp,q⟩:=h
 obtain⟨u,rfl,rx⟩:=vals1 r
 cases rx
 obtain⟨o,es,ep,g1,g2,g3,g4,g5,g6,g7⟩:=UM I.hok hp
 refine uj (R6 (es:=es) (ep:=ep) g5) (I.ok.hd hc) ⟨o,g1,g2,g3⟩ s!"" fun h' tk dX c' hk hD aP=>?_
 let f:DictEntry->V:=fun e=>match e.key with | .ref b=>V.ref b|_=>.non
 have mN:∀(i:Nat) (k:List Key) (v:V),kvs[i]?=some (k,v)->∃b,(es.toList.map f)[i]?=some (V.ref b)/\H b=some (.tup (k.map kV)):=fun i k v jP=>by
  obtain⟨b,en,e1,e2,e3⟩:=g7 i k v jP
  refine⟨b,?_,e3⟩
  rw[je_,xz_,e1]
  show some (f en)=_
  simp only[f,e2]
 have aj:(es.toList.map f).length=kvs.length:=by rw[ja_,j3_,g4]
 have hv:Vals (es.toList.map f) dX.toList:=by
  refine Vals.ofIx (by rw[aj,<-g4];simpa using aP.1) fun i v hv=>?_
  obtain⟨e,he,rfl⟩:=aP.2 i v (by simpa using hv)
  have hi:i<kvs.length:=by rw[<-g4];exact (Array.getElem?_eq_some_iff.mp he).1
  obtain⟨b,en,e1,e2,e3⟩:=g7 i kvs[i].1 kvs[i].2 (by simp[hi])
  rw[he]at e1
  cases e1
  refine⟨V.ref b,?_,by rw[e2];rfl⟩
  rw[je_,xz_,he]
  show some (f e)=_
  simp only[f,e2]
 exact⟨.ref _,_,I.laid (t':=tk) hk (ji_ _) (show Bj X.prog X.w _ h' _ (.lst (es.toList.map f)) from ⟨by rw[aj];exact g6,dX.toList,c',hv,by simpa using hD⟩),rfl,q _ _ (I.hok.fresh (ji_ _)) aj mN⟩
end L2
namespace GB
open GW
variable {α:Type} [DecidableEq α]
def Xe (step:α->Int->α)(a:α)(ws:α2):α:=ws.foldl step a
structure B (L:Int)(step:α->Int->α)(st:α)(ok:α->Prop)(ents:List (α×α2))(i:Nat)(top:Int):Prop where
 hd:ents[0]?=some (st,[])
 il:i<=ents.length
 sh:∀(j:Nat) (e:α×α2),ents[j]?=some e->e.2.length<=j
 nod:(ents.map (·.1)).Nodup
 rng:∀e∈ents,ok e.1
 wd:∀e∈ents,isW L e.2=true/\Xe step st e.2=e.1
 inc:∀(j k:Nat) (a b:α×α2),j<k->ents[j]?=some a->ents[k]?=some b->place L a.2<place L b.2
 bnd:∀e∈ents,place L e.2<top
 don:∀j,j<i->∀e,ents[j]?=some e->∀x:Int,0<=x->x<L->∃e'∈ents,e'.1=step e.1 x/\place L e'.2<=place L (e.2++[x])
variable {L:Int} {step:α->Int->α} {st:α} {ok:α->Prop} {ents:List (α×α2)} {i:Nat} {top:Int}
def Bv (ab:α1)(r:Int)(ws:α2):Int:=ws.foldl (Bu ab) r
def BJ (ab:α1)(ws:α2):Bv ab 0 ws=Az ab ws:=rfl
def Bm (ab:α1)(r x:Int)(ws:α2):Bv ab r (x::ws)=Bv ab (Bu ab r x) ws:=rfl
def Ol (ab:α1)(r x:Int)(ws:α2):Bv ab r (ws++[x])=Bu ab (Bv ab r ws) x:=by
 unfold Bv
 rw[qE_];rfl
def Jq {ab:α1}{ws:α2}{i:Nat}{x r:Int}(h:ws[i]?=some x):Bv ab r (ws.take (i+1))=Bu ab (Bv ab r (ws.take i)) x:=by
 rw[jQ_,h]
 exact Ol _ _ _ _
def Hs {L:Int}{aa:α2}{ab:α1}(wf:Wf L aa ab):∀(ws:α2) {r:Int},isW L ws=true->0<=r->r<aa.length->0<=Bv ab r ws/\Bv ab r ws<aa.length
 |[],r,_,h0,h1=>⟨h0,h1⟩
 |x::ws,r,hv,h0,h1=>by
  have hx:=Av.mp hv x jp_
  obtain⟨_,g,_,_,h,g0,g1⟩:=wf.step h0 h1 hx.1 hx.2
  rw[Bm,h]
  exact Hs wf ws (Av.mpr fun y hy=>Av.mp hv y (jl_ _ hy)) g0 g1
end GB
namespace L2
open PySem PySem.Spec PyProof.Rows GW GB
def TK (H H':Hp):Prop:=∀b xs,H b=some (.tup xs)->H' b=some (.tup xs)
def TK.refl (H:Hp):TK H H:=fun _ _ h=>h
def TK.of  (s:Same H H'):TK H H':=fun b xs h=>s b _ h
def TK.trans  (a:TK H H')(b:TK H' iE):TK H iE:=fun c xs h=>b c xs (a c xs h)
def TK.new    (h:H p=none):TK H (upd H p o):=TK.of (Same.new h)
def TK.lst {H:Hp}{p:Addr}{o:HO}{xs:List V}(h:H p=some (.lst xs)):TK H (upd H p o):=fun b ys e=>by rw[Aj (fun z=>by rw[z,h]at e;cases e)];exact e
def UN {κ:Type}[DecidableEq κ]{kvs:List (κ×V)}{i:Nat}{k:κ}{v:V}(hn:(kvs.map (·.1)).Nodup)(h:kvs[i]?=some (k,v)):valV kvs k=some v:=by
 induction kvs generalizing i with
 |nil=>simp at h
 |cons p r ih=>
  rw[j0_,qK_]at hn
  cases i with
  |zero=>simp at h;subst h;exact Hn rfl
  |succ i=>
   have h':r[i]?=some (k,v):=by simpa using h
   rw[Ho (fun z=>hn.1 (jv_.mpr ⟨(k,v),jd_ h',z.symm⟩))]
   exact ih hn.2 h'
end L2
namespace L2
theorem Qt    : PU σ H Q=∀p,H p=none->Q (.ref p) (upd H p (.dK [])):=rfl
theorem Qu    : PV σ H Q=∀p,H p=none->Q (.ref p) (upd H p (.dT [])):=rfl
end L2
namespace GB
open GW
def Ke   : isW L (x::w)=true↔(0<=x/\x<L)/\isW L w=true:=by
 rw[Av,Av]
 simp
def Ht   (h:isW L w=true)(j:Nat):isW L (w.take j)=true:=Av.mpr fun x hx=>Av.mp h x (xk_ hx)
def BL   (h:isW L v=true)(g:isW L w=true):isW L (v++w)=true:=Av.mpr fun x hx=>(jA_.mp hx).elim (Av.mp h x) (Av.mp g x)
end GB
namespace L2
open GW
def Qv (n:Nat)(num:Int):α2:=0::(rq (n-1)).map fun j:Nat=>1+((j:Int)+num)%((n:Int)-1)
def Qw  (hn:2<=n)(num:Int):Dc n (Qv n num):=by
 have rng:∀j:Nat,0<=((j:Int)+num)%((n:Int)-1)/\((j:Int)+num)%((n:Int)-1)<(n:Int)-1:=fun j=>⟨qa_ _ s!"",jZ_ _ s!""⟩
 refine⟨HY ?_ (fun x hx=>?_) ?_,rfl⟩
 ·unfold Qv
  rw[qK_]
  refine⟨fun h=>?_,?_⟩
  ·obtain⟨j,_,e⟩:=jv_.mp h
   have:=rng j
   lia
  ·refine xO_.mpr (rX (fun {a b} ha hb b9 z=>b9 ?_) zM_)
   have ha:=jE_.mp ha
   have hb:=jE_.mp hb
   have z:((a:Int)+num)%((n:Int)-1)=((b:Int)+num)%((n:Int)-1):=by lia
   have key:∀{a b:Nat},b<=a->a<n-1->((a:Int)+num)%((n:Int)-1)=((b:Int)+num)%((n:Int)-1)->a=b:=fun {a b} h1 h2 z=>by
    have:=Int.emod_eq_emod_iff_emod_sub_eq_zero.mp z
    rw[show (a:Int)+num-((b:Int)+num)=(a:Int)-b by lia,Int.emod_eq_of_lt s!"" s!""]at this
    lia
   rcases vE b a with h|h
   ·exact key h ha z
   ·exact (key h hb z.symm).symm
 ·rw[Qp]
  unfold Qv at hx
  rcases jD_.mp hx with rfl|hx
  ·lia
  ·obtain⟨j,_,rfl⟩:=jv_.mp hx
   have:=rng j
   lia
 ·unfold Qv
  rw[Qq];simp;lia
end L2
namespace L2
open PySem PySem.Spec PyProof.Rows GW
def LLs (H0 H:Hp)(xs:List V)(ws:α1):Prop:=∃ts:List Addr,xs=ts.map V.ref/\ts.length=ws.length/\ts.Nodup/\(∀(i:Nat) (t:Addr) (w:α2),ts[i]?=some t->ws[i]?=some w->H t=some (.lst (w.map V.int)))/\∀t∈ts,H0 t=none
def LLs.nil (H0 H:Hp):LLs H0 H [] []:=⟨[],rfl,rfl,s9,fun i t w h=>by simp at h,fun t h=>by simp at h⟩
def LLs.mono    (h:LLs H0 H xs ws)(s:Same H H'):LLs H0 H' xs ws:=by
 obtain⟨ts,a,b,c,d,e⟩:=h
 exact⟨ts,a,b,c,fun i t w h1 h2=>s _ _ (d i t w h1 h2),e⟩
def LLs.len    (h:LLs H0 H xs ws):xs.length=ws.length:=by
 obtain⟨ts,a,b,_⟩:=h
 rw[a,ja_,b]
def LLs.snoc      (h:LLs H0 H xs ws)(h0:H0 p=none)(hp:H p=none):LLs H0 (upd H p (.lst (w.map V.int))) (xs++[.ref p]) (ws++[w]):=by
 obtain⟨ts,a,b,c,d,e⟩:=h
 have hts:∀t∈ts,t≠p:=fun t ht z=>by
  obtain⟨i,hi,ei⟩:=jV_ ht
  have:=d i t ws[i] (by rw[jh_ hi,ei]) (by simp[show i<ws.length by lia])
  rw[z,hp]at this;cases this
 refine⟨ts++[p],by rw[a];simp,by simp[b],?_,fun i t v h1 h2=>?_,fun t ht=>?_⟩
 ·rw[zz_]
  refine⟨c,by simp,fun x hx y hy=>?_⟩
  simp at hy;subst hy;exact hts x hx
 ·by_cases hi:i<ts.length
  ·rw[jk_ hi]at h1
   rw[jk_ s!""]at h2
   rw[Aj (hts t (jd_ h1))]
   exact d i t v h1 h2
  ·have:=(jc_.mp h1).1
   rw[jn_,jX_]at this
   have ei:i=ts.length:=by lia
   subst ei
   rw[jt_ (ji_ _),qG_]at h1
   rw[b,jt_ (ji_ _),qG_]at h2
   simp at h1 h2
   subst h1 h2
   exact Ab
 ·rcases jA_.mp ht with ht|ht
  ·exact e t ht
  ·rw[ju_.mp ht];exact h0
def LLs.at    (h:LLs H0 H xs ws)   (hw:ws[i]?=some w):∃t,xs[i]?=some (.ref t)/\H t=some (.lst (w.map V.int))/\H0 t=none/\∀j x,LLs H0 (upd H t (.lst ((w.set j x).map V.int))) xs (ws.set i (w.set j x)):=by
 obtain⟨ts,a,b,c,d,e⟩:=h
 have hi:i<ts.length:=by rw[b];exact (jc_.mp hw).1
 have ht:ts[i]?=some ts[i]:=by simp[hi]
 refine⟨ts[i],by rw[a,je_,ht];rfl,d i _ w ht hw,e _ (j1_ hi),fun j x=>⟨ts,a,by rw[qV_];exact b,c,fun k t v h1 h2=>?_,e⟩⟩
 by_cases hk:k=i
 ·subst hk
  rw[ht]at h1;cases h1
  rw[qU_ s!""]at h2;cases h2
  exact Ab
 ·have aw:t≠ts[i]:=fun z=>hk (by
   have dk:=(jc_.mp h1).1
   refine (xV_ (h₀:=dk) (h₁:=hi) c).mp ?_
   rw[<-z]
   exact (jc_.mp h1).2)
  rw[xi_ (qs_ hk)]at h2
  rw[Aj aw]
  exact d k t v h1 h2
def Same.none  (s:Same H H')  (h:H' p=none):H p=none:=by
 cases e:H p with
 |none=>rfl
 |some u=>rw[s _ _ e]at h;cases h
def R7 {K:α3}         (hl:SqL K H a xs)(aj:xs.length=ws.length)(e:cp.st σ=rW::af)(hz:xs.length<sizeLine)
  (hs:∀(i:Nat) (x:V) (w:α2) H2,Same H H2->xs[i]?=some x->ws[i]?=some w->∀R:VK,(∀p H3,Same H2 H3->SqT K H3 p (w.map V.int)->R (.ref p) H3)->te (some x::af) H2 R)
  (hd:∀H2 D ys,Same H H2->H2 D=rW->CA K (upd H2 D (.lst ys)) D ws->Q (.ref D) (upd H2 D (.lst ys))):K9 (Itl K a) cp (Gf 0) Oe te σ H Q:=by
 refine IV (xs:=xs) (fun i ys ai H2=>Same H H2/\(∃ts:List Addr,ys=ts.map V.ref/\ts.length=i/\∀(j:Nat) (t:Addr) (w:α2),ts[j]?=some t->ws[j]?=some w->SqT K H2 t (w.map V.int))/\∃o,ai=o::af) ⟨Same.refl _,⟨[],rfl,rfl,fun j t w h=>by simp at h⟩,rW,e⟩ hz (fun i ys ai H2 hi h=>?_) (fun i x ys ai H2 hx h=>?_) (fun ys ai H2 h=>?_)
 ·obtain⟨s,⟨ts,rfl,hm,_⟩,_⟩:=h
  exact⟨s.seq hl,by rw[ja_];lia⟩
 ·obtain⟨s,⟨ts,rfl,hm,ht⟩,o,rfl⟩:=h
  have hi:i<ws.length:=by rw[<-aj];exact (jc_.mp hx).1
  refine hs i x ws[i] H2 s hx (by simp[hi]) _ fun p H3 s3 hp=>⟨s.trans s3,⟨ts++[p],by simp,by simp[hm],fun j t w h1 h2=>?_⟩,some x,rfl⟩
  by_cases hj:j<ts.length
  ·rw[jk_ hj]at h1
   exact s3.seqT (ht j t w h1 h2)
  ·have:=(jc_.mp h1).1
   rw[jn_,jX_]at this
   have ej:j=i:=by lia
   subst ej
   rw[<-hm,jt_ (ji_ _),qG_]at h1
   simp at h1
   subst h1
   rw[jh_ hi]at h2
   cases h2
   exact hp
 ·obtain⟨s,⟨ts,rfl,hm,ht⟩,_⟩:=h
  exact fun D hD=>hd H2 D _ s hD ⟨ts,Ab,by lia,fun j t w h1 h2=>(Same.new hD).seqT (ht j t w h1 h2)⟩
end L2
namespace GW
def Wf.setM    (wf:Wf L aa ab)(r:Nat)  (h:0<=m/\m<=1000000000):Wf L (aa.set r m) ab:=by
 refine⟨wf.l1,wf.l6,by rw[qV_];exact wf.n1,by rw[qV_];exact wf.n40,by rw[qV_];exact wf.len,fun row hr=>?_,fun x hx=>?_⟩
 ·rw[qV_];exact wf.rows row hr
 ·rcases x9_ hx with hx|rfl
  ·exact wf.mks x hx
  ·exact h
def Wf.setW {L:Int}{aa:α2}{ab:α1}(wf:Wf L aa ab){i:Nat}{row:α2}(hr:ab[i]?=some row)(j:Nat){g:Int}(h:0<=g/\g<aa.length):Wf L aa (ab.set i (row.set j g)):=by
 refine⟨wf.l1,wf.l6,wf.n1,wf.n40,by rw[qV_];exact wf.len,fun x hx=>?_,wf.mks⟩
 rcases x9_ hx with hx|rfl
 ·exact wf.rows x hx
 ·have:=wf.rows row (jd_ hr)
  refine⟨by rw[qV_];exact this.1,fun y hy=>?_⟩
  rcases x9_ hy with hy|rfl
  ·exact this.2 y hy
  ·exact h
end GW
namespace L2
open PySem GW
def LLs.off      (h:LLs H0 H xs ws)(hp:H0 p=some u):LLs H0 (upd H p o) xs ws:=by
 obtain⟨ts,a,b,c,d,e⟩:=h
 refine⟨ts,a,b,c,fun i t w h1 h2=>?_,e⟩
 rw[Aj (fun z=>by have:=e t (jd_ h1);rw[z,hp]at this;cases this)]
 exact d i t w h1 h2
end L2
namespace L2
open PySem PySem.Spec PyProof.Rows
def Mm:∀(names:List (Str×NameKind)) (h:Heap) (ah:List (Str×Addr)) (x:Str) (c:Addr),(cellsFrom h.objs.size names ah).lookup x=some c->((pushCells h names).IsCell c none/\h.objs.size<=c)\/ah.lookup x=some c
 |[],_,_,_,_,e=>.inr e
 | (y,k)::r,h,ah,x,c,e=>by
  unfold cellsFrom at e
  unfold pushCells
  by_cases hk:(k == .cell)=true
  ·rw[if_pos hk]at e ⊢
   have e':(cellsFrom (h.push {cls:=.type "cell",data:=.cell none}).objs.size r ((y,h.objs.size)::ah)).lookup x=some c:=by rw[qf_];exact e
   rcases Mm r _ _ x c e' with ⟨a,b⟩|q
   ·rw[qf_]at b
    exact .inl ⟨a,xP_ b⟩
   ·rw[j7_]at q
    cases hx:x==y with
    |true=>
     rw[hx]at q
     have:h.objs.size=c:=jq_ q
     subst this
     exact .inl ⟨⟨_,pushCells_keeps _ _ _ _ (jx_ _ rfl),rfl⟩,ji_ _⟩
    |false=>rw[hx]at q;exact .inr q
  ·rw[if_neg hk]at e ⊢
   exact Mm r h ah x c e
def Hu:∀(names:List (Str×NameKind)) (n:Nat) (ah:List (Str×Addr)) (x:Str) (c:Addr),(cellsFrom n names ah).lookup x=some c->n<=c\/ah.lookup x=some c
 |[],_,_,_,_,e=>.inr e
 | (y,k)::r,n,ah,x,c,e=>by
  unfold cellsFrom at e
  by_cases hk:(k == .cell)=true
  ·rw[if_pos hk]at e
   rcases Hu r _ _ x c e with b|q
   ·exact .inl (xP_ b)
   ·rw[j7_]at q
    cases hx:x==y with
    |true=>rw[hx]at q;have:n=c:=jq_ q;exact .inl (sx this)
    |false=>rw[hx]at q;exact .inr q
  ·rw[if_neg hk]at e
   exact Hu r n ah x c e
def Qx:∀(names:List (Str×NameKind)) (n:Nat) (ah:List (Str×Addr)),(∀x y c,ah.lookup x=some c->ah.lookup y=some c->x=y)->(∀x c,ah.lookup x=some c->c<n)->∀x y c,(cellsFrom n names ah).lookup x=some c->(cellsFrom n names ah).lookup y=some c->x=y
 |[],_,_,hi,_,x,y,c,e1,e2=>hi x y c e1 e2
 | (z,k)::r,n,ah,hi,hb,x,y,c,e1,e2=>by
  unfold cellsFrom at e1 e2
  by_cases hk:(k == .cell)=true
  ·rw[if_pos hk]at e1 e2
   refine Qx r (n+1) ((z,n)::ah) (fun x y c h1 h2=>?_) (fun x c h=>?_) x y c e1 e2
   ·rw[j7_]at h1 h2
    cases hx:x==z with
    |true=>
     cases hy:y==z with
     |true=>rw[wc_.mp hx,wc_.mp hy]
     |false=>
      rw[hx]at h1;rw[hy]at h2
      have e:n=c:=jq_ h1
      exact absurd (hb y c h2) (by rw[<-e];exact j8_ _)
    |false=>
     cases hy:y==z with
     |true=>
      rw[hx]at h1;rw[hy]at h2
      have e:n=c:=jq_ h2
      exact absurd (hb x c h1) (by rw[<-e];exact j8_ _)
     |false=>rw[hx]at h1;rw[hy]at h2;exact hi x y c h1 h2
   ·rw[j7_]at h
    cases hx:x==z with
    |true=>rw[hx]at h;have e:n=c:=jq_ h;rw[<-e];exact zJ_ _
    |false=>rw[hx]at h;exact xn_ (hb x c h)
  ·rw[if_neg hk]at e1 e2
   exact Qx r n ah hi hb x y c e1 e2
def Mn:∀(names:List (Str×NameKind)) (n:Nat) (ah:List (Str×Addr)) (x:Str),(∀p∈names,p.1=x->p.2 ≠ .cell)->(cellsFrom n names ah).lookup x=ah.lookup x
 |[],_,_,_,_=>rfl
 | (y,k)::r,n,ah,x,h=>by
  unfold cellsFrom
  by_cases hk:(k == .cell)=true
  ·rw[if_pos hk,Mn r _ _ x fun p hp=>h p (jl_ _ hp),j7_]
   cases hx:x==y with
   |true=>exact absurd (wc_.mp hk) (h (y,k) jp_ (wc_.mp hx).symm)
   |false=>rfl
  ·rw[if_neg hk]
   exact Mn r n ah x fun p hp=>h p (jl_ _ hp)
def Lk      {globals:Addr}
  (hQ:Q {scope:=sc,locals:=s.heap.objs.size,globals,cells:=cellsFrom (s.heap.objs.size+1) sc.names cl,qual,func:=none,code:=outer.code,frame:=outer.frame,builtins:=outer.builtins} {s with heap:=pushCells (s.heap.push {cls:=.type "dict",data:=.dict #[]}) sc.names}):
  wpAny M A (newFunctionEnv sc globals cl [] qual none .none (some outer)) Q E s:=by
 simp only[newFunctionEnv,zj_,xB_]
 refine jb_ (wpAny_alloc (jb_ (wpAny_layCells _ (fun name kind cells=>by cases jQ:kind==NameKind.cell<;>simp[jQ]) _ _ _ _ ?_)))
 rw[show ({s with heap:=s.heap.push {cls:=.type "dict",data:=.dict #[]} }:Shared).heap.objs.size=s.heap.objs.size+1 from qf_ ..]
 refine jb_ ?_
 rw[zC_]
 exact jo_ (jo_ hQ)
abbrev ownC (X:Cx)(sc:Scope)(C:Addr):List (Str×Addr):=cellsFrom (C+1) sc.names (clOf X.env sc.names [])
abbrev Cx.blkC (X:Cx)(N:List Str)(sc:Scope)(C:Addr)(s₀:Shared)(H₀:Hp)(ex:List Addr):Cx:=
 {X with N:=N,env:=compEnvC sc (ownC X sc C) C X.env,outer:=X.stack,s₀:=s₀,H₀:=H₀,ex:=ex,fn:=fun x=>sc.names.lookup x==some .cell,pn:=[],xe:=fun _ _=>False}
def Ic {env:Env}:∀(l:List (Str×NameKind)) (ah:List (Str×Addr)) (x:Str) (c:Addr),(x,c)∈clOf env l ah->(x,NameKind.free)∈l\/(x,c)∈ah
 |[],_,_,_,h=>.inr h
 | (n,k)::r,ah,x,c,h=>by
  unfold clOf at h
  by_cases hk:(k == .free)=true
  ·rw[if_pos hk]at h
   rcases Ic r _ x c h with q|q
   ·exact .inl (jl_ _ q)
   ·rcases jD_.mp q with q|q
    ·cases q
     rw[wc_.mp hk]
     exact .inl jp_
    ·exact .inr q
  ·rw[if_neg hk]at h
   rcases Ic r _ x c h with q|q
   ·exact .inl (jl_ _ q)
   ·exact .inr q
structure BlkScC (X:Cx)(sc:Scope):Prop where
 kind:sc.kind=.function
 one:∀y∈sc.names,∀z∈sc.names,y.1=z.1->y.2=z.2
 loc:∀y∈sc.names,y.2=.local->sc.names.lookup y.1=some .local
 free:∀y∈sc.names,y.2=.free->X.env.kindOf y.1=some .cell\/X.env.kindOf y.1=some .free
section
variable {X:Cx} {ae:α7} {σ:St} {H:Hp} {s:Shared} {sc:Scope} {fp:List Addr}
def Jr (I:Inv X ae σ H s)(S:BlkScC X sc):∀p∈sc.names,p.2=.free->∃c,X.env.cells.lookup p.1=some c:=fun p hp e=>I.ok.has p.1 (S.free p hp e)
def Dx (I:Inv X ae σ H s)(S:BlkScC X sc)   (h:(clOf X.env sc.names []).lookup x=some c):X.env.cells.lookup x=some c:=
 Hq sc.names [] (Jr I S) (fun q hq=>by cases hq) (x,c) (qm_ h)
def Gm  (I:Inv X ae σ H s)(S:BlkScC X sc)   (h:(ownC X sc C).lookup x=some c):C+1<=c\/X.env.cells.lookup x=some c:=by
 rcases Hu _ _ _ _ _ h with q|q
 ·exact .inl q
 ·exact .inr (Dx I S q)
def Dy {env:Env}:∀{names:List (Str×NameKind)} {x:Str} {k:NameKind},(names.map (relF env)).lookup x=some k->(k=.cell\/k=.free)->(x,NameKind.free)∈names\/names.lookup x=some .cell
 |[],_,_,h,_=>by simp at h
 | (n,k')::r,x,k,h,hk=>by
  have ih := @Dy env r x k
  rw[j0_]at h
  rw[j7_]
  by_cases hb:(k'==NameKind.free&&env.scope.kind == .function&&env.kindOf n==some .cell)=true
  ·rw[Hr hb,j7_]at h
   cases hx:x==n with
   |true=>
    have e:x=n:=by simpa using hx
    subst e
    have e2:k'=.free:=by
     simp only[qi_]at hb
     simpa using hb.1.1
    subst e2
    exact .inl jp_
   |false=>
    rw[hx]at h
    rcases ih h hk with q|q
    ·exact .inl (jl_ _ q)
    ·exact .inr q
  ·rw[J3 hb,j7_]at h
   cases hx:x==n with
   |true=>
    rw[hx]at h
    have e:x=n:=by simpa using hx
    subst e
    have e2:k'=k:=jq_ h
    subst e2
    rcases hk with rfl|rfl
    ·exact .inr rfl
    ·exact .inl jp_
   |false=>
    rw[hx]at h
    rcases ih h hk with q|q
    ·exact .inl (jl_ _ q)
    ·exact .inr q
def UO {N:List Str}{C:Addr}(I:Inv X ae σ H s)(S:BlkScC X sc)(hC:s.heap.objs.size<=C)(hf:∀b∈fp,FpOk X ae H b)(ho:∀b∈fp,∃o,s.heap.get? b=some o):(X.blkC N sc C s H fp).Ok where
 mod:=I.ok.mod
 kind:=S.kind
 glob:=I.ok.glob
 blt:=I.ok.blt
 above:=hC
 inj:=fun x y c h1 h2=>by
  refine Qx sc.names (C+1) (clOf X.env sc.names []) (fun x y c h1 h2=>I.ok.inj x y c (Dx I S h1) (Dx I S h2)) (fun x c h=>?_) x y c h1 h2
  obtain⟨v,q⟩:=I.cell x c (Dx I S h)
  exact xn_ (jz_ q.lt hC)
 has:=fun x hx=>by
  have fi:(x,NameKind.free)∈sc.names\/sc.names.lookup x=some .cell:=by
   rcases hx with hx|hx
   ·exact Dy (env:=X.env) hx (.inl rfl)
   ·exact Dy (env:=X.env) hx (.inr rfl)
  refine xI_.mp (xW_ sc.names (C+1) (clOf X.env sc.names []) ?_)
  rcases fi with q|q
  ·obtain⟨c,hc⟩:=ER (env:=X.env) sc.names [] x (.inl q)
   obtain⟨c',e⟩:=Bc hc
   exact .inr (by rw[e];rfl)
  ·exact .inl q
 cab:=fun x c h e=>by
  have hx:sc.names.lookup x=some .cell:=by simpa using h
  rcases Hu _ _ _ _ _ e with q|q
  ·exact qp_ hC (xP_ q)
  ·rcases Ic _ _ _ _ (qm_ q) with z|z
   ·have:=S.one _ (qm_ hx) _ z rfl
    cases this
   ·cases z
 hd:=I.ok.hd
 frames:=I.ok.frames
 stk:=.inl rfl
 exf:=fun b hb=>by
  obtain⟨o,ho⟩:=ho b hb
  refine⟨jM_ (jz_ (jr_ ho) hC),fun x c h=>?_⟩
  rcases Gm I S h with q|q
  ·intro z;rw[z]at q;exact absurd (jz_ (jr_ ho) hC) (uk (xP_ q))
  ·exact (hf b hb).2.2.2.2.1 x c q
 bs:=I.bs
 bsz:=qp_ I.ok.bsz I.sz
 noex:=fun b o e hb=>by
  rcases (hf b hb).2.2.2.1 with z|z
  ·exact I.ok.noex b o e z
  ·exact absurd (jz_ (jr_ (I.ok.bs b o e).1) z) (j8_ _)
 exfs:=fun b hb z=>by
  rcases jD_.mp (I.stkSub b z) with e|e
  ·exact (hf b hb).2.1 e
  ·exact (hf b hb).2.2.1 e
 funs:=I.stack
 frf:=I.stkFree
def Om {c:Caps}{C:Addr}{s4:Shared}{m:Str->α5}(I:Inv X ae σ H s)(S:BlkScC X sc)(hc:CK X.N sc c)(hC:s.heap.objs.size<=C)(hf:∀b∈fp,FpOk X ae H b)(ho:∀b∈fp,∃o,s.heap.get? b=some o)
  (dJ:s4.os=s.os) (hb:s4.gens=s.gens) (hk:∀b o,s.heap.get? b=some o->s4.heap.get? b=some o) (hn:s4.heap.Ns C m)
  (bS:∀x c,(ownC X sc C).lookup x=some c->(s4.heap.IsCell c none/\C+1<=c)\/(clOf X.env sc.names []).lookup x=some c):Inv (X.blkC c.names sc C s H fp) [] (c.st σ) H s4 where
 ok:=UO I S hC hf ho
 os:=dJ
 bare:=by rw[hb];exact I.bare
 base:=Un.kept hk
 loc:=by
  refine⟨m,hn,fun i x v h1 h2 hv=>?_⟩
  have gi:(c.map (·.1))[i]?=some x:=h1
  have eB:(c.map fun p=>p.2.bind fun j=>(σ[j]?).join)[i]?=some (some v):=h2
  rw[je_]at gi eB
  cases e:c[i]? with
  |none=>rw[e]at gi;cases gi
  |some p=>
   obtain⟨y,oj⟩:=p
   rw[e]at gi eB
   have e1:y=x:=jq_ gi
   subst e1
   have e2:(oj.bind fun j=>(σ[j]?).join)=some v:=jq_ eB
   cases oj with
   |none=>cases e2
   |some j=>
    have e3:(σ[j]?).join=some v:=e2
    have e4:σ[j]?=some (some v):=by
     cases q:σ[j]? with
     |none=>rw[q]at e3;cases e3
     |some z=>rw[q]at e3;exact jJ_ some e3
    obtain⟨k1,k2⟩:=CK.get hc e
    have jR:=qm_ k2
    have k3:X.env.kindOf y=some .cell\/X.env.kindOf y=some .free:=S.free (y,.free) jR rfl
    have my:Vis X.env.scope y:=by
     rcases k3 with k|k
     ·exact .inr (.inl k)
     ·exact .inr (.inr k)
    obtain⟨mX,hnX,hl⟩:=I.loc
    obtain⟨u,r,l⟩:=hl j y v k1 e4 my
    refine⟨u,r,?_⟩
    rcases l with ⟨k,_⟩|⟨_,ca,oY,z⟩
    ·rcases k3 with k' | k'<;>(rw[k]at k';cases k')
    ·obtain⟨kd,mG,ek⟩:=Eh (env:=X.env) k2
     have fj:(compEnvC sc (ownC X sc C) C X.env).kindOf y=some kd:=ek
     obtain⟨c',je⟩:=ER (env:=X.env) sc.names [] y (.inl jR)
     obtain⟨c2,cE⟩:=Bc je
     have e5:=Dx I S cE
     rw[oY]at e5
     have e6:ca=c2:=jq_ e5
     subst e6
     have e7:(ownC X sc C).lookup y=some ca:=by
      rw[Mn sc.names (C+1) _ y fun p hp ep z=>?_]
      ·exact cE
      ·have:=S.one p hp (y,.free) jR ep
       rw[z]at this;cases this
     refine .inr ⟨?_,ca,e7,?_⟩
     ·rcases mG with rfl|rfl
      ·exact .inl fj
      ·exact .inr fj
     ·obtain⟨oc,dR,hd⟩:=z
      exact⟨oc,hk _ _ dR,hd⟩
 cell:=fun x ca h=>by
  rcases bS x ca h with ⟨q,_⟩|q
  ·exact⟨_,q⟩
  ·obtain⟨v,oc,dR,hd⟩:=I.cell x ca (Dx I S q)
   exact⟨v,oc,hk _ _ dR,hd⟩
 free:=I.hok.fresh hC
 freeC:=fun x ca h=>by
  rcases bS x ca h with ⟨_,q⟩|q
  ·exact I.hok.fresh (qp_ hC (xP_ q))
  ·exact I.freeC x ca (Dx I S q)
 pin:=fun p hp=>absurd (show p∈([]:α7) from hp) (by simp)
 hok:=I.hok.kept hk
 len:=by show (c.map _).length=(c.map _).length;rw[ja_,ja_]
def R8 {c:Caps}{C D:Addr}{s':Shared}{af:St}{H':Hp}{o:HO}(I:Inv X ae σ H s)(J:Inv (X.blkC c.names sc C s H fp) [] af H' s')(hf:∀b∈fp,FpOk X ae H b)(hD:s.heap.objs.size<=D)(hn:H' D=none)
  (new:Bj X.prog X.w (upd H' D o) s'.heap D o):Inv X ae σ (upd H' D o) s':=by
 have u:Un (frs X.stack) fp H H' s.heap s'.heap:=J.base
 exact I.call' J.os (u.track hD hn) (J.hok.track hn new) J.bare fun b hb=>⟨(hf b hb).2.2.2.1,(hf b hb).2.1,(hf b hb).2.2.2.2.1,(hf b hb).2.2.2.2.2⟩
end
section
variable {X:Cx} {tg iter cF:Expr} {cz:List Expr} {sc:Scope} {pos:Pos} {wi:TI} {cp:Caps} {g:TG} {tc:TT} {te:TE}
def Oo (hc:X.calm=true)(S:BlkScC X sc)(iA:CK X.N sc cp)
  (hg:∀C s₀ H₀ ex,PG (X.blkC cp.names sc C s₀ H₀ ex) tg g) (hf:∀C s₀ H₀ ex,PF (X.blkC cp.names sc C s₀ H₀ ex) cz tc) (he:∀C s₀ H₀ ex,PE (X.blkC cp.names sc C s₀ H₀ ex) cF te)
  {ae:α7} {σ:St} {H:Hp} {s:Shared} {J:It} {it:Addr} {fp:List Addr} {tn:Nat->Heap->Prop} {Q:VK} {RR:Value->Addr->Result->Shared->Prop} {E:Value->Shared->Prop}
  (I:Inv X ae σ H s) (T:Turn X.prog X.w X.K tg J fp it tn) (st:tn 0 s.heap) (fk:∀b∈fp,FpOk X ae H b)
  (hw:∃W:Nat->Nat->List V->St->Hp->Prop,(∃m,W 0 m [] (cp.st σ) H)/\∀i m ys af H',W i m ys af H' ->
   ys.length<sizeLine/\((J.stop i H'/\∀D,H' D=none->Q (.ref D) (upd H' D (.lst ys)))\/(J.go i H'/\∃N:List V->St->Hp->Prop,(∀zs ai H2,N zs ai H2->∃m',m'<m/\W (i+1) m' zs ai H2)/\∀x H2,J.yld i H' x H2->g x af H2 fun ai H3=>tc ai H3 fun b H4=>
    if b=true then te ai H4 fun v H5=>N (ys++[v]) ai H5 else N ys ai H4)))
  (hR:∀D C s' H' (m:Str->α5),Inv X ae σ H' s'->Q (.ref D) H'->s'.heap.Ns C m->H' C=none->C≠X.env.locals->X.s₀.heap.objs.size<=C->(∀x c,X.env.cells.lookup x=some c->c≠C)->(∀p∈X.pn++ae,p.1≠C)->RR (.ref D) C (.ok .next) s'):
  wpAny (model X.prog X.w) X.A (newList []) (fun ah aX=>wpAny (model X.prog X.w) X.A (newFunctionEnv sc X.env.globals (clOf X.env sc.names []) [] X.env.qual none .none (some X.env)) (fun gj fh=>
   codeAny (model X.prog X.w) X.A (.compStart (.ListComp cF [⟨tg,iter,cz,0⟩] sc pos) 0 (.ref it) ah {gj with scope:=relabel sc X.env}) (RR ah gj.locals) fh) E aX) E s:=by
 obtain⟨W,⟨m0,w0⟩,turn⟩:=hw
 refine qq_ (Lk ?_)
 dsimp only
 generalize jG:s.heap.push {cls:=.type "list",dict:=none,data:=.seq ([]:List Value).toArray}=H2
 obtain⟨h₁,eC⟩:∃h₁,h₁=pushCells (H2.push {cls:=.type "dict",data:=.dict #[]}) sc.names:=⟨_,rfl⟩
 rw[<-eC]
 have hcells:∀x c,(ownC X sc H2.objs.size).lookup x=some c->(h₁.IsCell c none/\H2.objs.size+1<=c)\/(clOf X.env sc.names []).lookup x=some c:=fun x c e=>by
  have:=Mm sc.names (H2.push {cls:=.type "dict",data:=.dict #[]}) (clOf X.env sc.names []) x c (by rw[qf_];exact e)
  rw[qf_]at this
  rw[eC];exact this
 have cg:h₁.Ns H2.objs.size (fun _=>none):=by rw[eC];exact (Heap.Ns.new H2 (.type "dict")).keeps (pushCells_keeps _ _)
 have keep₁:∀b o,H2.get? b=some o->h₁.get? b=some o:=fun b o e=>by rw[eC];exact pushCells_keeps _ _ b o (jf_ _ e)
 have hC:H2.objs.size=s.heap.objs.size+1:=by rw[<-jG,qf_]
 have jg:s.heap.objs.size≠H2.objs.size:=by rw[hC];exact jM_ (zJ_ _)
 have bO:s.heap.objs.size<=H2.objs.size:=by rw[hC];exact wg_ _
 have below:∀b,b<s.heap.objs.size->b≠H2.objs.size:=fun b hb=>by rw[hC];exact jM_ (xn_ hb)
 have dU:∀b o,s.heap.get? b=some o->h₁.get? b=some o:=fun b o e=>keep₁ b o (jG ▸ jf_ _ e)
 have aP:h₁.get? s.heap.objs.size=some {cls:=.type "list",data:=.seq ([]:List Value).toArray 0}:=keep₁ _ _ (jG ▸ jx_ _ rfl)
 have cj:tn 0 h₁:=T.keep 0 _ _ st fun b _ o e=>dU b o e
 have bN:∀b∈fp,∃o,s.heap.get? b=some o:=fun b hb=>let ⟨o,e,_⟩:=T.obj 0 _ st b hb;⟨o,e⟩
 have J0:Inv (X.blkC cp.names sc H2.objs.size s H fp) [] (cp.st σ) H {s with heap:=h₁}:=Om I S iA bO fk bN rfl rfl dU cg hcells
 have oZ:∀b,s.heap.objs.size<=b->b∉frs X.stack:=fun b hb z=>by
  rcases jD_.mp (I.stkSub b z) with e|e
  ·exact absurd (jz_ I.lt (by rw[<-e];exact hb)) (j8_ _)
  ·exact I.nofs hb e
 have dC:∀b,s.heap.objs.size<=b->∀x c,X.env.cells.lookup x=some c->c≠b:=fun b hb x c e z=>by
  obtain⟨v,q⟩:=I.cell x c e
  exact absurd (jz_ q.lt (by rw[z];exact hb)) (j8_ _)
 have mH:∀{bq:α7} {H':Hp},(∀b∈fp,H' b=none)->(∀p∈bq,p.1∉fp)->∀b∈fp,FpOk (X.blkC cp.names sc H2.objs.size s H fp) bq H' b:=fun {bq H'} hn hp b hb=>by
  obtain⟨o,e⟩:=bN b hb
  refine⟨hn b hb,below b (jr_ e),fun z=>?_,.inl hb,fun x c h=>(by
   rcases Gm I S h with q|q
   ·intro z;rw[z]at q;exact absurd (jr_ e) (uk (qp_ bO (xP_ q)))
   ·exact (fk b hb).2.2.2.2.1 x c q),fun p lJ z=>?_⟩
  ·rcases jD_.mp (I.stkSub b z) with e|e
   ·exact (fk b hb).2.1 e
   ·exact (fk b hb).2.2.1 e
  ·have jH:p∈bq:=by simpa using lJ
   exact hp p jH (by rw[z];exact hb)
 have e9:∀aX:Shared,aX={s with heap:=h₁} ->
   codeAny (model X.prog X.w) X.A (.compLoop (.ListComp cF [⟨tg,iter,cz,0⟩] sc pos) 0 (.ref it) (.ref s.heap.objs.size) (compEnvC sc (ownC X sc H2.objs.size) H2.objs.size X.env))
    (RR (.ref s.heap.objs.size) H2.objs.size) aX:=by
  rintro aX rfl
  refine GO (fun n s'=>∃i af H' ys its k,Inv (X.blkC cp.names sc H2.objs.size s H fp) [] af H' s'/\tn i s'.heap/\(∀b∈fp,H' b=none)/\H' s.heap.objs.size=none /\
   s'.heap.get? s.heap.objs.size=some {cls:=.type "list",data:=.seq its.toArray k}/\Vals ys its/\W i n ys af H') ?_ m0
   ⟨0,_,H,[],[],0,J0,cj,fun b hb=>(fk b hb).1,I.hok.fresh (ji_ _),aP,.nil,w0⟩
  rintro n s3 ⟨i,aE,H3,ys,its,k,I3,dH,lG,pj,e3,rv,w3⟩
  obtain⟨hz,tr⟩:=turn i n ys aE H3 w3
  have aj:=rv.length
  -- oS accumulator stands still while anything else runs
  have gm:∀p ∈ [(s.heap.objs.size,({cls:=.type "list",data:=.seq its.toArray k}:Obj))],p.1∉fp:=fun p hp z=>by
   have e:p=_:=ju_.mp hp
   subst e
   obtain⟨o,e⟩:=bN _ z
   exact absurd (jr_ e) (j8_ _)
  have mI:Inv (X.blkC cp.names sc H2.objs.size s H fp) [(s.heap.objs.size,({cls:=.type "list",data:=.seq its.toArray k}:Obj))] aE H3 s3:=I3.pins_of fun p hp=>by
   have e:p=_:=ju_.mp hp
   subst e
   exact⟨e3,pj,jg,oZ _ (ji_ _),fun v z=>by cases z⟩
  have cP:∀b∈fp,FpOk (X.blkC cp.names sc H2.objs.size s H fp) [(s.heap.objs.size,({cls:=.type "list",data:=.seq its.toArray k}:Obj))] H3 b:=mH lG gm
  rcases tr with ⟨stop,qn⟩|⟨go,N,hN,step⟩
  ·refine thn (T.done (X.blkC cp.names sc H2.objs.size s H fp) rfl rfl rfl hc i _ s3 aE H3 _ mI cP dH stop) fun r s4 ⟨hr,I4⟩=>?_
   subst hr
   obtain⟨e4,n4,_⟩:=I4.pin (s.heap.objs.size,({cls:=.type "list",data:=.seq its.toArray k}:Obj)) (by simp)
   have new:Bj X.prog X.w (upd H3 s.heap.objs.size (.lst ys)) s4.heap s.heap.objs.size (.lst ys):=⟨ze_ hz,its,k,rv,e4⟩
   obtain⟨mC,pq,_⟩:=I4.loc
   have pA:Inv (X.blkC cp.names sc H2.objs.size s H fp) [] aE H3 s4:=I4.pins_of fun p hp=>by cases hp
   have I5:=R8 I pA fk (ji_ _) n4 new
   refine hR _ _ s4 _ mC I5 (qn _ n4) pq ?_ (qe_ (jz_ I.lt bO)) (qp_ I.sz bO) (dC _ bO) fun p hp z=>?_
   ·rw[Aj (qs_ jg)];exact I4.free
   ·exact absurd (jz_ (jr_ (I.pin p hp).1) (by rw[z];exact bO)) (j8_ _)
  ·refine thn (T.item (X.blkC cp.names sc H2.objs.size s H fp) rfl rfl rfl hc i _ s3 aE H3 _ mI cP dH go) fun r s4 ⟨u,hr,h4⟩=>?_
   subst hr
   refine thn h4 fun _ s5 ⟨x,H5,I5,r5,y5,bz,mB⟩=>?_
   have mD:=I5.pinned (mH mB gm) (T.obj _ _ bz)
   have fin:∀{di:St} {H7:Hp} {s7:Shared},Inv (X.blkC cp.names sc H2.objs.size s H fp) ([(s.heap.objs.size,({cls:=.type "list",data:=.seq its.toArray k}:Obj))]++Jk fp s5.heap) di H7 s7 ->
     s7.heap.get? s.heap.objs.size=some {cls:=.type "list",data:=.seq its.toArray k}/\H7 s.heap.objs.size=none/\(∀b∈fp,H7 b=none)/\∀b∈fp,∀o,s5.heap.get? b=some o->s7.heap.get? b=some o:=fun {di H7 s7} I7=>by
    obtain⟨e7,n7,_⟩:=I7.pin (s.heap.objs.size,({cls:=.type "list",data:=.seq its.toArray k}:Obj)) (by simp)
    refine⟨e7,n7,fun b hb=>?_,fun b hb o e=>?_⟩
    ·obtain⟨o,e,_⟩:=T.obj _ _ bz b hb
     exact (I7.pin (b,o) (jy_ _ (jy_ _ (CH hb e)))).2.1
    ·exact (I7.pin (b,o) (jy_ _ (jy_ _ (CH hb e)))).1
   refine qB_ (hg _ _ _ _ _ s5 aE H5 x u _ mD r5 (step x H5 y5)) (fun _ s6 ⟨dz,H6,I6,q6⟩=>?_) fun _ _ z=>rF z
   refine qB_ (hf _ _ _ _ _ s6 dz H6 _ I6 q6) (fun ok s7 ⟨H7,I7,q7⟩=>?_) fun _ _ z=>rF z
   cases ok with
   |false=>
    rw[if_neg js_]
    rw[if_neg js_]at q7
    obtain⟨m',hm,w7⟩:=hN _ _ _ q7
    obtain⟨e7,n7,pB,k7⟩:=fin I7
    exact⟨m',hm,i+1,dz,H7,ys,its,k,I7.pins_of (fun p hp=>by cases hp),T.keep _ _ _ bz k7,pB,n7,e7,rv,w7⟩
   |true=>
    rw[if_pos rfl]
    rw[if_pos rfl]at q7
    refine qB_ (he _ _ _ _ _ s7 dz H7 _ I7 q7) (fun v s8 ⟨y,H8,I8,r8,q8⟩=>?_) fun _ _ z=>rF z
    obtain⟨m',hm,w8⟩:=hN _ _ _ q8
    obtain⟨e8,n8,pC,k8⟩:=fin I8
    refine xM_ F.slot_list_append ⟨_,e8,rfl⟩ F.entry_list_append (zP_ _ _) (wb_ s.heap.objs.size its.toArray k v (by rw[jm_];lia)) ⟨e8,?_⟩
    obtain⟨k',q⟩:∃k',(s8.heap.update s.heap.objs.size (Obj.mapSeq fun x=>x.push v)).get? s.heap.objs.size=some {cls:=.type "list",data:=.seq (its++[v]).toArray k' }:=⟨_,by
     have q:=za_ e8 fun x=>x.push v
     have e:(its++[v]).toArray=its.toArray.push v:=by simp
     rw[e]
     exact q⟩
    have I8':Inv (X.blkC cp.names sc H2.objs.size s H fp) [] dz H8 s8:=I8.pins_of fun p hp=>by cases hp
    have I9:Inv (X.blkC cp.names sc H2.objs.size s H fp) [] dz H8 {s8 with heap:=s8.heap.update s.heap.objs.size (Obj.mapSeq fun x=>x.push v),toks:=s8.toks}:=
     I8'.turned (it:=s.heap.objs.size) (fun b o hb e=>(j6_ _ _ (qs_ hb)).trans e) n8 jg (.inr (ji_ _)) (fun x c e=>by
      rcases Gm I S e with q|q
      ·intro z;rw[z]at q;exact absurd (qp_ q bO) (Nat.not_succ_le_self _)
      ·exact dC _ (ji_ _) x c q) (fun p hp=>by cases hp)
    refine⟨m',hm,i+1,dz,H8,ys++[y],its++[v],k',I9,T.keep (i+1) s5.heap _ bz (fun b hb o e=>?_),pC,n8,q,rv.append (.cons r8 .nil),w8⟩
    ·refine (j6_ _ _ ?_).trans (k8 b hb o e)
     intro z
     obtain⟨ob,eb⟩:=bN b hb
     exact absurd (jr_ eb) (by rw[<-z];exact j8_ _)
 exact codeAny_compStart_list (e9 _ rfl) (T.self _ 0 _ _ _ cj (e9 _ rfl))
def R9    (hN:X.N.Nodup)(hi:X.N[i]?=some x)(hx:X.env.scope.names.lookup x=some .local)(hc:X.calm=true)(S:BlkScC X sc)(iA:CK X.N sc cp)(aN:PI X tg iter wi)
  (hg:∀C s₀ H₀ ex,PG (X.blkC cp.names sc C s₀ H₀ ex) tg g) (hf:∀C s₀ H₀ ex,PF (X.blkC cp.names sc C s₀ H₀ ex) cz tc) (he:∀C s₀ H₀ ex,PE (X.blkC cp.names sc C s₀ H₀ ex) cF te)
  (pD:swapsWith (.ListComp cF [⟨tg,iter,cz,0⟩] sc pos) (some (.Name x px)) jI.line X.env=pure true:=by rfl)
  (hs:∀x,foldedSetIterable iter X.env x=pure x:=by intro _;rfl):PS X (.Assign [.Name x px] (.ListComp cF [⟨tg,iter,cz,0⟩] sc pos) jI) (tAsg (RU wi cp g tc te) (Gf i)):=by
 intro ae s σ H D I h
 rw[exec_Assign_Name_used _ _ _ _ pD]
 refine jb_ (wpAny_standAt (jb_ ?_))
 show wpAny _ X.A (do let _ <- comprehension (.ListComp cF [⟨tg,iter,cz,0⟩] sc pos) sc X.env _ (newList []) false (eval iter X.env) (some (assign (.Name x px) X.env))) _ _ s
 refine jb_ (qB_ (zg_ (use:=some (assign (.Name x px) X.env)) (Q:=fun _ s'=>SP X ae D .next s') rfl hs (Gg (Jr I S)) S.kind S.loc
  (thn (aN ae s σ H _ I h) fun xv s₁ h₁=>thn h₁ fun mz bA aZ=>?_)) (fun _ s' hq=>jo_ (jo_ hq)) fun _ _ e=>e)
 obtain⟨it,fp,tn,J,H2,e,I2,T,aV,f2,hw⟩:=aZ
 subst e
 refine Oo (RR:=fun ah C=>compPost (model X.prog X.w) X.A X.xe (some (assign (.Name x px) X.env)) (fun _ s'=>SP X ae D .next s') ah C) (Q:=fun v H1=>Gf i v σ H1 D.nx) hc S iA hg hf he I2 T aV f2 hw ?_
 intro Dl C s' H' m I' q hn hC hL hz bS hp
 show wpAny _ X.A (assign (.Name x px) X.env (.ref Dl)) _ _ _
 refine wpAny_assign_Name (HK I' hN hi (.inl hx) (v:=.ref Dl) rfl (fun jD pE ⟨a,nQ,ha⟩=>?_) (.inr hx))
 have aw:C≠a:=by
  rcases ha with rfl|ha
  ·exact hL
  ·exact fun z=>bS _ _ ha z.symm
 refine⟨m,hn.sameBut nQ aw,fun h' bF=>⟨_,H',pE.turned (t':=jD.toks) (it:=C) (fun b o hb e=>bF.extBut b o hb e) hC hL (.inr hz) bS hp,q⟩⟩
end
def Tx (outer:List (Str×NameKind))(sc:Scope):Bool:=
 sc.kind == .function&&sc.names.all (fun y=>(y.2 != .local||sc.names.lookup y.1==some .local)&&(y.2 != .free||outer.lookup y.1==some .cell||outer.lookup y.1==some .free)&&sc.names.all fun z=>y.1 != z.1||y.2==z.2)
def UP   (h:Tx X.env.scope.names sc=true):BlkScC X sc:=by
 unfold Tx at h
 rw[qi_,qw_]at h
 obtain⟨h1,h2⟩:=h
 refine⟨by simpa using h1,fun y hy z hz e=>?_,fun y hy z=>?_,fun y hy z=>?_⟩
 ·have:=h2 y hy
  simp only[qi_,qw_]at this
  have:=this.2 z hz
  rw[e]at this
  simpa using this
 ·have:=h2 y hy
  simp only[qi_]at this
  have:=this.1.1
  rw[z]at this
  simpa using this
 ·have:=h2 y hy
  simp only[qi_]at this
  have:=this.1.2
  rw[z]at this
  have t:(X.env.scope.names.lookup y.1==some .cell||X.env.scope.names.lookup y.1==some .free)=true:=by simpa using this
  rw[uA]at t
  rcases t with t|t
  ·exact .inl (by show X.env.scope.names.lookup y.1=some .cell;simpa using t)
  ·exact .inr (by show X.env.scope.names.lookup y.1=some .free;simpa using t)
end L2
namespace L2
open PySem PySem.Spec PyProof.Rows GW
def AB (K:α3)(H:Hp)(xs:List V)(ws:α1):Prop:=xs.length=ws.length/\∀(i:Nat) (w:α2),ws[i]?=some w->∃t,xs[i]?=some (.ref t)/\H t=some (.tup (w.map V.int))
def AB.nil {K:α3}  : AB K H [] []:=⟨rfl,fun i w h=>by simp at h⟩
def AB.mono {K:α3}    (h:AB K H xs ws)(k:TK H H'):AB K H' xs ws:=by
 refine⟨h.1,fun i w hw=>?_⟩
 obtain⟨t,a,b⟩:=h.2 i w hw
 exact⟨t,a,k _ _ b⟩
def AB.snoc {K:α3}    (h:AB K H xs ws)   (ht:H t=some (.tup (w.map V.int))):AB K H (xs++[.ref t]) (ws++[w]):=by
 refine⟨by rw[jn_,jn_,h.1];rfl,fun i v hi=>?_⟩
 by_cases eE:i<ws.length
 ·rw[jk_ eE]at hi
  rw[jk_ (by rw[h.1];exact eE)]
  exact h.2 i v hi
 ·have:=(jc_.mp hi).1
  rw[jn_,jX_]at this
  have ei:i=ws.length:=by lia
  subst ei
  rw[jt_ (ji_ _),qG_]at hi
  simp at hi
  subst hi
  refine⟨t,?_,ht⟩
  rw[jt_ (by rw[h.1];exact ji_ _),h.1,qG_];rfl
def AB.at {K:α3}{H:Hp}{xs:List V}{ws:α1}(h:AB K H xs ws){i:Nat}{x:V}(hx:xs[i]?=some x):∃t w,ws[i]?=some w/\x=.ref t/\H t=some (.tup (w.map V.int)):=by
 have hi:i<ws.length:=by rw[<-h.1];exact (jc_.mp hx).1
 obtain⟨t,a,b⟩:=h.2 i ws[i] (by simp[hi])
 rw[hx]at a
 exact⟨t,ws[i],by simp[hi],jq_ a,b⟩
def Fe.ofS {K:α3}     (ha:H a=some (.tup xs))(hb:H b=some (.tup ys))(hz:xs.length+ys.length<=sizeLine)(h:∀p H',Same H H'->H' p=some (.tup (xs++ys))->Q (.ref p) H'):Fe K (.ref a) (.ref b) H Q:=by
 refine⟨a,b,xs,ys,rfl,rfl,SqT.of ha,SqT.of hb,hz,fun e=>?_,fun _ e=>?_,fun _ _ p hp=>h p _ (Same.new hp) Ab⟩
 ·subst e;exact h b H (Same.refl _) (by simpa using hb)
 ·subst e;exact h a H (Same.refl _) (by simpa using ha)
def Inv.unL        (I:Inv X ae σ H s)(k:∀b o,b∉fp->s.heap.get? b=some o->h'.get? b=some o)(f:∀b∈fp,FpOk X ae H b):Un (frs X.stack) fp H H s.heap h'/\HOk X.prog X.w H h':=by
 have ne:∀b u,H b=some u->b∉fp:=fun b u q hb=>by rw[(f b hb).1]at q;cases q
 refine⟨⟨fun b o q _ _ hb=>k b o hb q,fun b o q _ _ hb=>⟨o.slots,k b o hb q⟩,fun _ _ _ n _=>n,fun b o q hb=>⟨o,k b o hb q⟩,fun _ _ q=>q,fun _ _ _ q=>q,fun b ps q=>⟨#[],by rw[q];simp⟩⟩,fun b u q=>?_⟩
 refine (I.hok b u q).stay (fun c v hc qv=>?_) (fun _ q=>q) fun _ _ q=>q
 have aw:c∉fp:=by
  rcases hc with rfl|hc
  ·exact ne _ _ q
  ·exact ne _ _ hc
 exact k c v aw qv
end L2
namespace GW
def ins (s:α1)(w:α2):α1:=if w∈s then s else s++[w]
def UQ (s:α1)(w:α2):(ins s w).length<=s.length+1:=by
 unfold ins;split
 ·lia
 ·simp
def CJ:∀(l s:α1),(l.foldl ins s).length<=s.length+l.length
 |[],s=>by simp
 |w::l,s=>by
  have h1:=CJ l (ins s w)
  have h2:=UQ s w
  rw[q1_,jT_];lia
end GW
namespace L2
open PySem PySem.Spec PyProof.Rows GW
def wkey (w:α2):List Key:=w.map rB
def Kf (w:α2):(wkey w).map kV=w.map V.int:=by unfold wkey;rw[jR_];rfl
def FJ  (h:wkey v=wkey w):v=w:=(z7_ (fun x y z=>Sum.inl.inj z)).mp h
def E6 (ws:α1)(kvs:List (List Key×V)):Prop:=kvs.map (·.1)=ws.map wkey
def E6.len   (h:E6 ws kvs):kvs.length=ws.length:=by
 have:=jJ_ rL h
 simpa using this
def E6.some_iff   (h:E6 ws kvs)(w:α2):(valV kvs (wkey w)).isSome=decide (w∈ws):=by
 rw[<-Ds,qC_,qy_,zc_]
 constructor
 ·rintro⟨kv,jP,e⟩
  have e:=qr_ e
  have:wkey w∈ws.map wkey:=by rw[<-h,<-e];exact jv_.mpr ⟨kv,jP,rfl⟩
  obtain⟨q,hq,e2⟩:=jv_.mp this
  exact FJ e2 ▸ hq
 ·intro hw
  have:wkey w∈kvs.map (·.1):=by rw[h];exact jv_.mpr ⟨w,hw,rfl⟩
  obtain⟨kv,jP,e⟩:=jv_.mp this
  exact⟨kv,jP,qb_ e⟩
def E6.put   (h:E6 ws kvs)(w:α2)(v:V):E6 (ins ws w) (putK kvs (wkey w) v):=by
 have hs:=h.some_iff w
 unfold putK ins
 rw[Ds,hs]
 by_cases hw:w∈ws
 ·rw[if_pos hw,if_pos (show decide (w∈ws)=true from qb_ hw)]
  unfold E6
  rw[<-h,jR_]
  refine qo_ fun kv _=>?_
  show (if kv.1=wkey w then (kv.1,v) else kv).1=kv.1
  split<;>rfl
 ·rw[if_neg hw,if_neg (show ¬ decide (w∈ws)=true by simp[hw])]
  unfold E6
  rw[jW_,jW_,h];rfl
def E6.nil:E6 [] []:=rfl
def E6.words {K:α3}     (h:E6 ws kvs)(hl:rs.length=kvs.length)(hr:∀(i:Nat) (k:List Key) (v:V),kvs[i]?=some (k,v)->∃b,rs[i]?=some (V.ref b)/\H b=some (.tup (k.map kV))):AB K H rs ws:=by
 refine⟨by rw[hl,h.len],fun i w hw=>?_⟩
 have hi:i<kvs.length:=by rw[h.len];exact (jc_.mp hw).1
 have e:(kvs.map (·.1))[i]?=some (wkey w):=by rw[h,je_,hw];rfl
 rw[je_,jh_ hi]at e
 have e:kvs[i].1=wkey w:=jq_ e
 obtain⟨b,b1,b2⟩:=hr i kvs[i].1 kvs[i].2 (by simp[hi])
 exact⟨b,b1,by rw[b2,e,Kf]⟩
end L2
namespace PySem.W
open PySem PySem.Calls PyProof.Rows PyProof.V PySem.Spec
end PySem.W
namespace PySem.W
open PySem PySem.Calls PyProof.Rows PyProof.V PySem.Spec
end PySem.W
namespace L2
open PySem PySem.Spec PyProof.Rows
def NA {P:Program}{w:World}{fs:List Addr}{H0:Hp}{h0 h':Heap}:∀(as:List (Addr×List V)),(as.map (·.1)).Nodup ->
  (∀p∈as,h0.objs.size<=p.1/\p.2.length<=sizeLine/\∃its:List Value,Vals p.2 its/\IsTup h' p.1 its.toArray)->∀H,Un fs [] H0 H h0 h'->HOk P w H h'->(∀p∈as,H p.1=none) ->
  ∃H2,Un fs [] H0 H2 h0 h'/\HOk P w H2 h'/\Same H H2/\(∀p∈as,H2 p.1=some (.tup p.2))/\∀b,b∉as.map (·.1)->H2 b=H b
 |[],_,_,H,u,k,_=>⟨H,u,k,Same.refl _,(fun p hp=>by simp at hp),fun b _=>rfl⟩
 |p::r,nd,hp,H,u,k,hn=>by
  rw[j0_,qK_]at nd
  obtain⟨h1,h2,its,h3,h4⟩:=hp p jp_
  have pI:=hn p jp_
  have k2:HOk P w (upd H p.1 (.tup p.2)) h':=k.track pI ⟨h2,its,h3,h4⟩
  obtain⟨H2,e1,e2,e3,e4,e5⟩:=NA r nd.2 (fun q hq=>hp q (jl_ _ hq)) (upd H p.1 (.tup p.2)) (u.track h1 pI) k2 (fun q hq=>by
   have aw:q.1≠p.1:=fun z=>nd.1 (by rw[<-z];exact q8_ hq)
   rw[Aj aw]
   exact hn q (jl_ _ hq))
  refine⟨H2,e1,e2,(Same.new pI).trans e3,fun q hq=>?_,fun b hb=>?_⟩
  ·rcases jD_.mp hq with rfl|hq
   ·exact e3 _ _ Ab
   ·exact e4 q hq
  ·rw[j0_,jD_,not_or]at hb
   rw[e5 b hb.2,Aj hb.1]
def Vals.two'   (h1:RelV x u)(h2:RelV y v):Vals [x,y] [u,v]:=.cons h1 (.cons h2 .nil)
def Ct (K:α3)(H:Hp)(xs:List V)(aF:List (α2×Int)):Prop:=xs.length=aF.length/\∀(i:Nat) (tr:α2×Int),aF[i]?=some tr->∃t wt,xs[i]?=some (.ref t)/\SqT K H t [.ref wt,.int tr.2]/\SqT K H wt (tr.1.map V.int)/\tr.1.length<=600
def Ct.mono {K:α3}    (h:Ct K H xs aF)(s:Same H H'):Ct K H' xs aF:=by
 refine⟨h.1,fun i tr bu=>?_⟩
 obtain⟨t,wt,a,b,c,d⟩:=h.2 i tr bu
 exact⟨t,wt,a,s.seqT b,s.seqT c,d⟩
def ents (es:List (α2×Int)):List (List Key×V):=es.map fun e=>(wkey e.1,V.int e.2)
def Qy:V->List V->Hp->VK->Prop:=fun x vs H Q=>∃l xs y j,x=.ref l/\vs=[y]/\H l=some (.lst xs)/\Cy y=true/\xs.all Cy=true/\j<1000000/\(∃z,xs[j]?=some z/\eqV z y=true)/\(∀m z,m<j->xs[m]?=some z->eqV z y=false)/\Q (.int (j:Nat)) H
theorem NB     : Qy x vs H Q=∃l xs y j,x=.ref l/\vs=[y]/\H l=some (.lst xs)/\Cy y=true/\xs.all Cy=true/\j<1000000/\(∃z,xs[j]?=some z/\eqV z y=true)/\(∀m z,m<j->xs[m]?=some z->eqV z y=false)/\Q (.int (j:Nat)) H:=rfl
def UR   (r:RelV z u)(f:Cy z=true):eqU x u=eqV z x:=by
 have:=JZ (x:=x) (xs:=[z]) (us:=[u]) (.cons r .nil) (by simp[f])
 simpa using this
def Qz  : MtM X "list.index" Qy:=by
 intro ae s σ H x vs v us Q I rx rv h
 obtain⟨l,xs,y,j,rfl,rfl,hH,fy,fs,hj,⟨z,pJ,pK⟩,dM,q⟩:=h
 cases rx
 obtain⟨u,rfl,ry⟩:=vals1 rv
 obtain⟨zz,its,n,r,hl,e⟩:=I.lstM hH
 have get:∀(m:Nat) (hm:m<its.toArray.size) (w:V),xs[m]?=some w->Cy w=true->eqU y its.toArray[m]=eqV w y:=fun m hm w hw fw=>by
  obtain⟨w',e1,e2⟩:=r.get hw
  have e3:its.toArray[m]=w':=by
   have:its[m]?=some its.toArray[m]:=by simp at hm;simp[hm]
   rw[e1]at this
   exact (jq_ this).symm
  rw[e3]
  exact UR e2 fw
 have fl:∀(m:Nat) (w:V),xs[m]?=some w->Cy w=true:=fun m w hw=>qw_.mp fs w (jd_ hw)
 have jk:=(jc_.mp pJ).1
 have mQ:j<its.toArray.size:=by rw[jm_];lia
 refine xM_ F.slot_list_index ⟨_,e,rfl⟩ F.entry_list_index (F.args_list_index_2 _ _) (SeqAt.list_indexAt l its.toArray n none #[] u (eqU y) j mQ s!"" ?_ fun m hm hmj=>?_) ⟨e,fun w hw=>Hm ry fy r fs w (by simpa using hw),?_⟩
 ·rw[get j mQ z pJ (fl j z pJ)];exact pK
 ·have mR:xs[m]?=some xs[m]:=by simp[show m<xs.length by lia]
  rw[get m hm _ mR (fl m _ mR)]
  exact dM m _ hmj mR
 ·exact⟨.int (j:Nat),H,I.tok _,⟨_,rfl⟩,q⟩
end L2
namespace L2
open PySem PySem.W PySem.Spec PySem.Calls PyProof.Rows
def Qb.ofS {K:α3}      (hq:H l=some (.tup xs))(aw:xs ≠ [])(h1 : -(2 ^ 63)<=k)(h2:k<2 ^ 63)(hz:xs.length*k.toNat<=sizeLine)(h:∀p H',Same H H'->H' p=some (.tup (rp k.toNat xs).flatten)->Q (.ref p) H'):Qb K (.ref l) (.int k) H Q:=by
 refine⟨l,k,xs,rfl,rfl,SqT.of hq,aw,h1,h2,hz,fun e=>?_,fun _ p hp=>h p _ (Same.new hp) Ab⟩
 subst e
 exact h l H (Same.refl _) (by simpa using hq)
end L2
namespace PrimeO
def Xf (p:Nat):Prop:=∀d,2<=d->d<p->p%d≠0
def Pr (p:Int):Prop:=2<=p/\p<1000000000000000000/\Xf p.toNat
end PrimeO
namespace L2
open PySem PySem.Spec PyProof.Rows
theorem QA     : VI A σ H Z=A σ H fun vs H1=>∃i j:Int,vs=[.int i,.int j]/\(-(2 ^ 62)<=i/\i<2 ^ 62 /\ -(2 ^ 62)<=j/\j<2 ^ 62)/\Z (Itr i (j-i).toNat) H1:=rfl
end L2
namespace PySem
open Sem (wp)
open PySem.F
section
variable {prog:Program} {w:World} {A:Around} {E:Value->Shared->Prop} {s:Shared}
def D7   {items}   (aN:s.heap.IsTupleIter it l i)
  (hl:s.heap.IsTuple l items) (hx:items[i]?=some x)
  (hQ:∀h',h'.IsTupleIter it l (i+1)->Heap.SameBut it s.heap h'->Q x {s with heap:=h' }):
  wpAny (model prog w) A (Builtin.SmallTypes.nextOf (.ref it)) Q E s:=by
 obtain⟨o,ho,hc,hd⟩:=id aN
 obtain⟨ol,gn,_,nl,jK⟩:=hl
 unfold Builtin.SmallTypes.nextOf
 refine jb_ (j5_ (name:=Str.ofString "__next__") aN.typeIs q6_
  (qD_ q6_ aN.typeIs zn_ ?_ (zh_ _)))
 show wpAny _ _ (field (.ref it) 0 >>= _) _ _ s
 refine jb_ (qd_ ho hd (x:=.ref l) rfl ?_)
 show wpAny _ _ (if (Value.ref l==Value.none)=true then _ else _) _ _ s
 rw[if_neg (show ¬ ((Value.ref l==Value.none)=true) from js_)]
 show wpAny _ _ (field (.ref it) 1 >>= _) _ _ s
 refine jb_ (qd_ ho hd (x:=.int i 0) rfl ?_)
 show wpAny _ _ (seqItems? (.ref l) >>= _) _ _ s
 refine jb_ (qR_ gn jK ?_)
 simp only[jg_,hx]
 refine jb_ (x8_ ho hd (by simp) (jo_ ⟨x,rfl,jo_ (hQ _ ?_ (xq_ ..))⟩))
 exact⟨_,qM_ _ ho (zE_ (xy_ hd _)),(Obj.cls_mapFields ..).trans hc,by
  rw[xy_ hd];simp[rawInt]⟩
def El   {items}  (hh:A.handled=none)
  (aN:s.heap.IsTupleIter it l i) (hl:s.heap.IsTuple l items) (hx:items[i]?=none)
  (hE:∀h' e,Heap.ExtBut it s.heap h'->(∃o,h'.get? e=some o/\o.cls=.type "StopIteration")->E (.ref e) {s with heap:=h' }):
  wpAny (model prog w) A (Builtin.SmallTypes.nextOf (.ref it)) Q E s:=by
 obtain⟨o,ho,hc,hd⟩:=id aN
 obtain⟨ol,gn,_,nl,jK⟩:=hl
 unfold Builtin.SmallTypes.nextOf
 refine jb_ (j5_ (name:=Str.ofString "__next__") aN.typeIs q6_
  (qD_ q6_ aN.typeIs zn_ ?_ (zh_ _)))
 show wpAny _ _ (field (.ref it) 0 >>= _) _ _ s
 refine jb_ (qd_ ho hd (x:=.ref l) rfl ?_)
 show wpAny _ _ (if (Value.ref l==Value.none)=true then _ else _) _ _ s
 rw[if_neg (show ¬ ((Value.ref l==Value.none)=true) from js_)]
 show wpAny _ _ (field (.ref it) 1 >>= _) _ _ s
 refine jb_ (qd_ ho hd (x:=.int i 0) rfl ?_)
 show wpAny _ _ (seqItems? (.ref l) >>= _) _ _ s
 refine jb_ (qR_ gn jK ?_)
 simp only[jg_,hx]
 refine jb_ (zS_ (jb_ (x8_ ho hd (by simp) ?_)))
 show wpAny _ _ (newExc (.type "StopIteration") [] >>= _) _ _ _
 refine jb_ ?_
 simp only[newExc,newTuple]
 refine jb_ (qq_ ?_ (by size_fits))
 refine jb_ (m:=firstArgMember _ _) (wpAny_of_eq (a:=Value.none) (by first|rfl|(simp only[firstArgMember];rfl)) ?_)
 refine qq_ ?_ (by size_fits)
 simp only[raiseNew]
 refine jb_ (wpAny_handled ?_)
 first|rw[show A.in1.handled=none from hh]|rw[hh]
 refine jb_ (jo_ (wpAny_throw ?_))
 exact hE _ _ (((xq_ ..).extBut.push _).push _) ⟨_,jx_ _ rfl,rfl⟩
end
def Ci (t:Bool)(h:Heap)(l:Addr)(xs:Array Value):Prop:=match t with|false=>h.IsList l xs|true=>h.IsTuple l xs
def BB (t:Bool)(h:Heap)(i l:Addr)(k:Nat):Prop:=match t with|false=>h.IsListIter i l k|true=>h.IsTupleIter i l k
def Ci.extBut   {a b items}(x:Ci t h a items)(hs:Heap.ExtBut b h h')(b9:a≠b):Ci t h' a items:=by
 cases t
 ·exact Heap.IsList.extBut x hs b9
 ·exact Heap.IsTuple.extBut x hs b9
def Ci.push   {a items}(x:Ci t h a items)(o:Obj):Ci t (h.push o) a items:=by
 cases t
 ·exact Heap.IsList.push x o
 ·exact Heap.IsTuple.push x o
def Ci.lt   {a items}(x:Ci t h a items):a<h.objs.size:=by
 cases t
 ·obtain⟨_,e,_⟩:=x;exact jr_ e
 ·obtain⟨_,e,_⟩:=x;exact jr_ e
def BB.extBut   {a b l i}(x:BB t h a l i)(hs:Heap.ExtBut b h h')(b9:a≠b):BB t h' a l i:=by
 cases t
 ·exact Heap.IsListIter.extBut x hs b9
 ·exact Heap.IsTupleIter.extBut x hs b9
def BB.at   {a l i}(x:BB t h a l i)(e:∀o,h.get? a=some o->h'.get? a=some o):BB t h' a l i:=by
 cases t
 ·exact Heap.IsListIter.at x e
 ·exact Heap.IsTupleIter.at x e
def BB.ob   {a l i}(x:BB t h a l i):∃o,h.get? a=some o/\o.data=.fields #[.ref l,.int i 0]:=by
 cases t
 ·obtain⟨o,e,_,d⟩:=x;exact⟨o,e,d⟩
 ·obtain⟨o,e,_,d⟩:=x;exact⟨o,e,d⟩
def BB.lt   {a l i}(x:BB t h a l i):a<h.objs.size:=by
 obtain⟨_,e,_⟩:=x.ob;exact jr_ e
section
variable {prog:Program} {w:World} {A:Around} {E:Value->Shared->Prop} {s:Shared}
def BC    {items}   (aN:BB t s.heap it l i)(hl:Ci t s.heap l items)(hx:items[i]?=some x)
  (hQ:∀h',BB t h' it l (i+1)->Heap.SameBut it s.heap h'->Q x {s with heap:=h' }):wpAny (model prog w) A (Builtin.SmallTypes.nextOf (.ref it)) Q E s:=by
 cases t
 ·exact zv_ aN hl hx hQ
 ·exact D7 aN hl hx hQ
def CC    {items}  (hh:A.handled=none)(aN:BB t s.heap it l i)(hl:Ci t s.heap l items)(hx:items[i]?=none)
  (hE:∀h' e,Heap.ExtBut it s.heap h'->(∃o,h'.get? e=some o/\o.cls=.type "StopIteration")->E (.ref e) {s with heap:=h' }):wpAny (model prog w) A (Builtin.SmallTypes.nextOf (.ref it)) Q E s:=by
 cases t
 ·exact wpAny_nextOf_list_end hh aN hl hx hE
 ·exact El hh aN hl hx hE
def QB (t:Bool):Value:=match t with|false=>.type "list_iterator" |true=>.type "tuple_iterator"
def BB.mk    (g:h.get? a=some {cls:=QB t,data:=.fields #[.ref l,.int 0 0]}):BB t h a l 0:=by
 cases t
 ·exact⟨_,g,rfl,rfl⟩
 ·exact⟨_,g,rfl,rfl⟩
def DT   {items}  (hl:Ci t s.heap l items)
  (hQ:Q (.ref s.heap.objs.size) {s with heap:=s.heap.push {cls:=QB t,data:=.fields #[.ref l,.int 0 0]} }):wpAny (model prog w) A (pyIter (.ref l)) Q E s:=by
 cases t
 ·exact zw_ hl hQ
 ·exact xv_ hl hQ
end
section
variable {prog:Program} {w:World} {A:Around} {E:Value->Shared->Prop} {s:Shared}
def IX {t1 t2:Bool}{z TI TO i1 i2 l1 l2:Addr}{k1 k2:Nat}{xs ys:Array Value}{x y a b:Value}{Q:Value->Shared->Prop}(D:ZipApart z TI TO i1 i2 l1 l2)
  (hz:IsZip s.heap z TI TO .none) (cb:IsPair s.heap TI (.ref i1) (.ref i2)) (cT:IsPair s.heap TO a b)
  (h1:BB t1 s.heap i1 l1 k1) (h2:BB t2 s.heap i2 l2 k2) (bo:Ci t1 s.heap l1 xs) (bE:Ci t2 s.heap l2 ys) (hx:xs[k1]?=some x) (hy:ys[k2]?=some y)
  (hQ:∀h',IsZip h' z TI TO (rawInt s.heap.objs.size)->IsPair h' TO x y->BB t1 h' i1 l1 (k1+1)->BB t2 h' i2 l2 (k2+1)->IsPair h' s.heap.objs.size x y->h'.objs.size=s.heap.objs.size+1 ->
   (∀c o,c≠z->c≠TO->c≠i1->c≠i2->s.heap.get? c=some o->h'.get? c=some o)->Q (.ref s.heap.objs.size) {s with heap:=h' }):
  wpAny (model prog w) A (Builtin.«zip.__next__» ⟨[.ref z],[]⟩) (fun fin s'=>∃v,fin=.done (.ret v)/\Q v s') E s:=by
 show wpAny _ _ (field (.ref z) 2 >>= _) _ _ _
 refine jb_ (qd_ hz rfl (x:=.bool false) rfl ?_)
 show wpAny _ _ (field (.ref z) 3 >>= _) _ _ _
 refine jb_ (qd_ hz rfl (x:=.ref TI) rfl ?_)
 refine jb_ (qR_ cb rfl ?_)
 show wpAny _ _ (Builtin.SmallTypes.ownedTupleIsFree (.ref z) >>= _) _ _ _
 refine jb_ ?_
 unfold Builtin.SmallTypes.ownedTupleIsFree
 refine jb_ (qd_ hz rfl (x:=.none) rfl (jo_ ?_))
 simp only[xB_]
 refine jb_ (zS_ ?_)
 refine jb_ (qd_ hz rfl (x:=.ref TO) rfl ?_)
 refine jb_ (xe_ hz (by simp) fun h₁ bw au=>?_)
 replace bw:IsZip h₁ z TI TO .ellipsis:=bw
 refine jb_ ?_
 simp only[sf,uB,zl_,zC_]
 refine jb_ (jb_ (wpAny_onRaise ?_))
 show wpAny _ _ (Builtin.SmallTypes.nextOf (.ref i1) >>= _) _ _ _
 refine jb_ (BC (h1.extBut au.extBut D.i1z) (bo.extBut au.extBut D.l1z) hx fun aZ eF az=>jo_ ?_)
 have ck:IsPair aZ TO a b:=az.extBut _ _ D.TOi1 (au.extBut _ _ D.TOz cT)
 refine jb_ (qR_ ck rfl ?_)
 refine jb_ (zQ_ ck fun bt cU aB=>?_)
 replace cU:IsPair bt TO x b:=cU
 refine jb_ (zY_ (jo_ ?_))
 refine jb_ (jb_ (wpAny_onRaise ?_))
 show wpAny _ _ (Builtin.SmallTypes.nextOf (.ref i2) >>= _) _ _ _
 refine jb_ (BC (((h2.extBut au.extBut D.i2z).extBut az.extBut D.i12.symm).extBut aB.extBut D.TOi2.symm)
  (((bE.extBut au.extBut D.l2z).extBut az.extBut D.l2i1).extBut aB.extBut D.l2TO) hy fun gh h2₄ bT=>jo_ ?_)
 have hTO₄:IsPair gh TO x b:=bT.extBut _ _ D.TOi2 cU
 refine jb_ (qR_ hTO₄ rfl ?_)
 refine jb_ (zQ_ hTO₄ fun aR cm hs₅=>?_)
 replace cm:IsPair aR TO x y:=cm
 refine jb_ (zY_ (jo_ (jo_ ?_)))
 refine jb_ (qR_ cm rfl ?_)
 refine jb_ (wpAny_newTuple ?_)
 have hsz:aR.objs.size=s.heap.objs.size:=by rw[hs₅.1,bT.1,aB.1,az.1,au.1]
 have hz₅:IsZip aR z TI TO .ellipsis:=hs₅.extBut _ _ D.TOz.symm (bT.extBut _ _ D.i2z.symm (aB.extBut _ _ D.TOz.symm (az.extBut _ _ D.i1z.symm bw)))
 have hk₅:∀c o,c≠z->c≠TO->c≠i1->c≠i2->s.heap.get? c=some o->aR.get? c=some o:=fun c o c1 c2 c3 c4 e=>
  hs₅.extBut _ _ c2 (bT.extBut _ _ c4 (aB.extBut _ _ c2 (az.extBut _ _ c3 (au.extBut _ _ c1 e))))
 have h1₅:BB t1 aR i1 l1 (k1+1):=((eF.extBut aB.extBut D.TOi1.symm).extBut bT.extBut D.i12).extBut hs₅.extBut D.TOi1.symm
 have h2₅:BB t2 aR i2 l2 (k2+1):=h2₄.extBut hs₅.extBut D.TOi2.symm
 have hzlt:z<aR.objs.size:=jr_ hz₅
 have hTOlt:TO<aR.objs.size:=jr_ cm
 have hi1lt:i1<aR.objs.size:=h1₅.lt
 have hi2lt:i2<aR.objs.size:=h2₅.lt
 show wpAny _ _ (Builtin.SmallTypes.ownedTupleHandOut (.ref z) (.ref aR.objs.size) >>= _) _ _ _
 refine jb_ ?_
 unfold Builtin.SmallTypes.ownedTupleHandOut
 have hz₆:IsZip (aR.push {cls:=.type "tuple",data:=.seq #[x,y]}) z TI TO .ellipsis:=jf_ _ hz₅
 refine jb_ (xe_ hz₆ (by simp) fun h₇ gr gu=>?_)
 replace gr:IsZip h₇ z TI TO (rawInt aR.objs.size):=gr
 refine xe_ gr (by simp) fun gv eG gw=>?_
 replace eG:IsZip gv z TI TO (rawInt aR.objs.size):=eG
 have up:∀c o,c≠z->aR.get? c=some o->gv.get? c=some o:=fun c o c1 e=>gw.extBut _ _ c1 (gu.extBut _ _ c1 (jf_ _ e))
 have hT₈:IsPair gv aR.objs.size x y:=gw.extBut _ _ (qe_ hzlt) (gu.extBut _ _ (qe_ hzlt) (jx_ _ rfl))
 have iF:gv.objs.size=aR.objs.size+1:=by rw[gw.1,gu.1,qf_]
 rw[hsz]at eG hT₈ iF
 refine jo_ ⟨_,rfl,?_⟩
 show Q (.ref aR.objs.size) _
 rw[hsz]
 exact hQ gv eG (up _ _ D.TOz cm) (h1₅.at fun o e=>up _ o D.i1z e) (h2₅.at fun o e=>up _ o D.i2z e) hT₈ iF fun c o c1 c2 c3 c4 e=>up c o c1 (hk₅ c o c1 c2 c3 c4 e)
def Kg  {z TI TO i1 i2 l1 l2:Addr}     (hh:A.handled=none)(D:ZipApart z TI TO i1 i2 l1 l2)
  (hz:IsZip s.heap z TI TO .none) (cb:IsPair s.heap TI (.ref i1) (.ref i2)) (cT:IsPair s.heap TO a b)
  (h1:BB t1 s.heap i1 l1 k1) (h2:BB t2 s.heap i2 l2 k2) (bo:Ci t1 s.heap l1 xs) (bE:Ci t2 s.heap l2 ys) (fo:xs[k1]?=none\/ys[k2]?=none)
  (hE:∀h' e,(∀c o,c≠z->c≠TO->c≠i1->c≠i2->s.heap.get? c=some o->h'.get? c=some o)->(∃o,h'.get? e=some o/\o.cls=.type "StopIteration")->E (.ref e) {s with heap:=h' }):
  wpAny (model prog w) A (Builtin.«zip.__next__» ⟨[.ref z],[]⟩) Q E s:=by
 show wpAny _ _ (field (.ref z) 2 >>= _) _ _ _
 refine jb_ (qd_ hz rfl (x:=.bool false) rfl ?_)
 show wpAny _ _ (field (.ref z) 3 >>= _) _ _ _
 refine jb_ (qd_ hz rfl (x:=.ref TI) rfl ?_)
 refine jb_ (qR_ cb rfl ?_)
 show wpAny _ _ (Builtin.SmallTypes.ownedTupleIsFree (.ref z) >>= _) _ _ _
 refine jb_ ?_
 unfold Builtin.SmallTypes.ownedTupleIsFree
 refine jb_ (qd_ hz rfl (x:=.none) rfl (jo_ ?_))
 simp only[xB_]
 refine jb_ (zS_ ?_)
 refine jb_ (qd_ hz rfl (x:=.ref TO) rfl ?_)
 refine jb_ (xe_ hz (by simp) fun h₁ bw au=>?_)
 replace bw:IsZip h₁ z TI TO .ellipsis:=bw
 refine jb_ ?_
 simp only[sf,uB,zl_,zC_]
 refine jb_ (jb_ (wpAny_onRaise ?_))
 show wpAny _ _ (Builtin.SmallTypes.nextOf (.ref i1) >>= _) _ _ _
 cases hx:xs[k1]? with
 |none=>
  refine jb_ (CC hh (h1.extBut au.extBut D.i1z) (bo.extBut au.extBut D.l1z) hx fun aZ e az he=>?_)
  obtain⟨oe,jS,mS⟩:=he
  have hz₂:IsZip aZ z TI TO .ellipsis:=az _ _ D.i1z.symm bw
  have pL:e≠z:=fun x=>by subst x;rw[hz₂]at jS;cases jS;simp at mS
  refine xe_ hz₂ (by simp) fun bt _ aB=>hE bt e (fun c o c1 _ c3 _ x=>aB.extBut _ _ c1 (az _ _ c3 (au.extBut _ _ c1 x))) ⟨oe,aB.extBut _ _ pL jS,mS⟩
 |some x=>
  have hy:ys[k2]?=none:=by rcases fo with h|h;rw[hx]at h;cases h;exact h
  refine jb_ (BC (h1.extBut au.extBut D.i1z) (bo.extBut au.extBut D.l1z) hx fun aZ eF az=>jo_ ?_)
  have ck:IsPair aZ TO a b:=az.extBut _ _ D.TOi1 (au.extBut _ _ D.TOz cT)
  refine jb_ (qR_ ck rfl ?_)
  refine jb_ (zQ_ ck fun bt cU aB=>?_)
  refine jb_ (zY_ (jo_ ?_))
  refine jb_ (jb_ (wpAny_onRaise ?_))
  show wpAny _ _ (Builtin.SmallTypes.nextOf (.ref i2) >>= _) _ _ _
  refine jb_ (CC hh (((h2.extBut au.extBut D.i2z).extBut az.extBut D.i12.symm).extBut aB.extBut D.TOi2.symm)
   (((bE.extBut au.extBut D.l2z).extBut az.extBut D.l2i1).extBut aB.extBut D.l2TO) hy fun gh e bT he=>?_)
  obtain⟨oe,jS,mS⟩:=he
  have hz₄:IsZip gh z TI TO .ellipsis:=bT _ _ D.i2z.symm (aB.extBut _ _ D.TOz.symm (az.extBut _ _ D.i1z.symm bw))
  have pL:e≠z:=fun x=>by subst x;rw[hz₄]at jS;cases jS;simp at mS
  refine xe_ hz₄ (by simp) fun aR _ hs₅=>hE aR e (fun c o c1 c2 c3 c4 x=>hs₅.extBut _ _ c1 (bT _ _ c4 (aB.extBut _ _ c2 (az.extBut _ _ c3 (au.extBut _ _ c1 x))))) ⟨oe,hs₅.extBut _ _ pL jS,mS⟩
def D8  {z TI TO i1 i2 l1 l2:Addr}     (D:ZipApart z TI TO i1 i2 l1 l2)
  (hz:IsZip s.heap z TI TO .none) (cb:IsPair s.heap TI (.ref i1) (.ref i2)) (cT:IsPair s.heap TO a b)
  (h1:BB t1 s.heap i1 l1 k1) (h2:BB t2 s.heap i2 l2 k2) (bo:Ci t1 s.heap l1 xs) (bE:Ci t2 s.heap l2 ys) (hx:xs[k1]?=some x) (hy:ys[k2]?=some y)
  (hQ:∀h',IsZip h' z TI TO (rawInt s.heap.objs.size)->IsPair h' TO x y->BB t1 h' i1 l1 (k1+1)->BB t2 h' i2 l2 (k2+1)->IsPair h' s.heap.objs.size x y->h'.objs.size=s.heap.objs.size+1 ->
   (∀c o,c≠z->c≠TO->c≠i1->c≠i2->s.heap.get? c=some o->h'.get? c=some o)->Q (some (.ref s.heap.objs.size)) {s with heap:=h' }):
  wpAny (model prog w) A (pyNext (.ref z)) Q E s:=by
 have hT:s.TypeIs (.ref z) "zip" := ⟨_,hz,rfl⟩
 unfold pyNext
 exact jb_ (xl_ (j5_ (name:=Str.ofString "__next__") hT x0_
  (qD_ x0_ hT sG
   (IX D hz cb cT h1 h2 bo bE hx hy fun h' a1 a2 a3 a4 a5 a6 a7=>jo_ (hQ h' a1 a2 a3 a4 a5 a6 a7)) (si _))))
def Em  {z TI TO i1 i2 l1 l2:Addr}     (hh:A.handled=none)(D:ZipApart z TI TO i1 i2 l1 l2)
  (hz:IsZip s.heap z TI TO .none) (cb:IsPair s.heap TI (.ref i1) (.ref i2)) (cT:IsPair s.heap TO a b)
  (h1:BB t1 s.heap i1 l1 k1) (h2:BB t2 s.heap i2 l2 k2) (bo:Ci t1 s.heap l1 xs) (bE:Ci t2 s.heap l2 ys) (fo:xs[k1]?=none\/ys[k2]?=none)
  (hQ:∀h',(∀c o,c≠z->c≠TO->c≠i1->c≠i2->s.heap.get? c=some o->h'.get? c=some o)->Q none {s with heap:=h' }):wpAny (model prog w) A (pyNext (.ref z)) Q E s:=by
 have hT:s.TypeIs (.ref z) "zip" := ⟨_,hz,rfl⟩
 unfold pyNext
 refine jb_ (xl_ (j5_ (name:=Str.ofString "__next__") hT x0_
  (qD_ x0_ hT sG (Kg hh D hz cb cT h1 h2 bo bE fo fun h' e hk he=>?_) (si _))))
 obtain⟨o,ho,hc⟩:=he
 refine jb_ (wpAny_isInstance (T := "StopIteration") (b:=true) ⟨o,ho,hc⟩ isSubtype_stop ?_)
 exact jo_ (hQ _ hk)
end
abbrev Sa (t1 t2:Bool)(h:Heap)(l1:Addr):Heap:=h.push {cls:=QB t1,data:=.fields #[.ref l1,.int 0 0]}
abbrev Sb (t1 t2:Bool)(h:Heap)(l1 l2:Addr):Heap:=(Sa t1 t2 h l1).push {cls:=QB t2,data:=.fields #[.ref l2,.int 0 0]}
abbrev Sd (t1 t2:Bool)(h:Heap)(l1 l2:Addr):Heap:=(Sb t1 t2 h l1 l2).push {cls:=.type "tuple",data:=.seq #[.ref h.objs.size,.ref (Sa t1 t2 h l1).objs.size]}
abbrev Se (t1 t2:Bool)(h:Heap)(l1 l2:Addr):Heap:=(Sd t1 t2 h l1 l2).push {cls:=.type "tuple",data:=.seq #[.none,.none]}
abbrev Mo (t1 t2:Bool)(h:Heap)(l1 l2:Addr):Heap:=(Se t1 t2 h l1 l2).push {cls:=.type "zip",data:=.fields #[.none,.bool false,.bool false,.ref (Sb t1 t2 h l1 l2).objs.size,.ref (Sd t1 t2 h l1 l2).objs.size]}
def IY (t1 t2:Bool)(l1 l2:Addr)(xs ys:Array Value):
  Meets (Builtin.«zip.__new__» ⟨[.type "zip",.ref l1,.ref l2],[]⟩) (fun _ R s=>Ci t1 s.heap l1 xs/\Ci t2 s.heap l2 ys /\
   R (.ok (.ret (.ref (Se t1 t2 s.heap l1 l2).objs.size))) {s with heap:=Mo t1 t2 s.heap l1 l2}):=
 .of_wp fun prog w A R s h=>by
  obtain⟨hp,g,d,tk,os⟩:=s;obtain⟨bo,bE,h⟩:=h
  have cS:=sub_zip
  have cH:Ci t1 (Shared.heap ⟨hp,g,d,tk,os⟩) l1 xs:=bo
  have hL2:Ci t2 (Shared.heap ⟨hp.push {cls:=QB t1,data:=.fields #[.ref l1,.int 0 0]},g,d,tk,os⟩) l2 ys:=Ci.push bE _
  wp_walk using DT cH,DT hL2
  exact⟨_,rfl,h⟩
section
variable {prog:Program} {w:World} {A:Around} {E:Value->Shared->Prop} {s:Shared}
def Mp     (bo:Ci t1 s.heap l1 xs)(bE:Ci t2 s.heap l2 ys)
  (h:∀h',IsZip h' (s.heap.objs.size+4) (s.heap.objs.size+2) (s.heap.objs.size+3) .none->IsPair h' (s.heap.objs.size+2) (.ref s.heap.objs.size) (.ref (s.heap.objs.size+1)) ->
   IsPair h' (s.heap.objs.size+3) .none .none->BB t1 h' s.heap.objs.size l1 0->BB t2 h' (s.heap.objs.size+1) l2 0->h'.objs.size=s.heap.objs.size+5 ->
   (∀c o,s.heap.get? c=some o->h'.get? c=some o)->Q (.ref (s.heap.objs.size+4)) {s with heap:=h' }):
  wpAny (model prog w) A (call (.type "zip") [.ref l1,.ref l2]) Q E s:=by
 refine callType_new v9 (by decide) (vF _ _) (vK _ _) (fun obj=>uL obj _ _) vL
  (IY t1 t2 l1 l2 xs ys) ⟨bo,bE,?_⟩
 have z1:(Sa t1 t2 s.heap l1).objs.size=s.heap.objs.size+1:=qf_ ..
 have z2:(Sb t1 t2 s.heap l1 l2).objs.size=s.heap.objs.size+2:=by rw[qf_,z1]
 have z3:(Sd t1 t2 s.heap l1 l2).objs.size=s.heap.objs.size+3:=by rw[qf_,z2]
 have z4:(Se t1 t2 s.heap l1 l2).objs.size=s.heap.objs.size+4:=by rw[qf_,z3]
 have z5:(Mo t1 t2 s.heap l1 l2).objs.size=s.heap.objs.size+5:=by rw[qf_,z4]
 have g5:(Mo t1 t2 s.heap l1 l2).get? (Se t1 t2 s.heap l1 l2).objs.size=some _:=jx_ _ rfl
 have g4:(Mo t1 t2 s.heap l1 l2).get? (Sd t1 t2 s.heap l1 l2).objs.size=some _:=jf_ _ (jx_ _ rfl)
 have g3:(Mo t1 t2 s.heap l1 l2).get? (Sb t1 t2 s.heap l1 l2).objs.size=some _:=jf_ _ (jf_ _ (jx_ _ rfl))
 have g2:(Mo t1 t2 s.heap l1 l2).get? (Sa t1 t2 s.heap l1).objs.size=some _:=jf_ _ (jf_ _ (jf_ _ (jx_ _ rfl)))
 have g1:(Mo t1 t2 s.heap l1 l2).get? s.heap.objs.size=some _:=jf_ _ (jf_ _ (jf_ _ (jf_ _ (jx_ _ rfl))))
 show _/\_
 rw[z2,z3,z4]at g5
 rw[z1,z2]at g3
 rw[z3]at g4
 rw[z1]at g2
 rw[z4]
 exact⟨⟨_,g5,rfl⟩,h _ g5 g3 g4 (BB.mk g1) (BB.mk g2) z5 fun c o x=>
  jf_ _ (jf_ _ (jf_ _ (jf_ _ (jf_ _ x))))⟩
end
end PySem
namespace L2
open PySem PySem.Spec PyProof.Rows GW
def SqB (K:α3)(H:Hp)(t:Bool)(a:Addr)(xs:List V):Prop:=match t with|false=>SqL K H a xs|true=>SqT K H a xs
def Inv.seqB         (I:Inv X ae σ H s)(h:SqB X.K H t a xs):∃its:List Value,Vals xs its/\Ci t s.heap a its.toArray:=by
 cases t
 ·obtain⟨its,r,p,_⟩:=I.list h
  exact⟨its,r,p.isList⟩
 ·obtain⟨its,r,p,_⟩:=I.tuple h
  exact⟨its,r,p⟩
def Itz2 (K:α3)(t1 t2:Bool)(a b:Addr)(xs ys:List V):It:=⟨fun i H=>i<xs.length/\i<ys.length/\SqB K H t1 a xs/\SqB K H t2 b ys,fun i H x H'=>∃t u v,H t=none/\xs[i]?=some u/\ys[i]?=some v/\x=.ref t/\H'=upd H t (.tup [u,v]),fun i H=>(xs.length<=i\/ys.length<=i)/\SqB K H t1 a xs/\SqB K H t2 b ys⟩
def QC {P:Program}{w:World}{K:α3}{gp:List Expr}{x1}{fg:Pos}{t1 t2:Bool}{a b z TI TO i1 i2:Addr}(D:ZipApart z TI TO i1 i2 a b)(xs ys:List V):Turn P w K (.Tuple gp x1 fg) (Itz2 K t1 t2 a b xs ys) [z,TI,TO,i1,i2] z
  (fun i h=>IsZip h z TI TO .none/\IsPair h TI (.ref i1) (.ref i2)/\(∃c d,IsPair h TO c d)/\BB t1 h i1 a i/\BB t2 h i2 b i) where
 mem:=by simp
 obj:=fun i h st c hc=>by
  obtain⟨h1,h2,⟨u,v,h3⟩,h4',h5'⟩:=st
  obtain⟨o4,h4,d4⟩:=h4'.ob
  obtain⟨o5,h5,d5⟩:=h5'.ob
  simp only[jD_,zd_,or_false]at hc
  rcases hc with rfl|rfl|rfl|rfl|rfl
  ·exact⟨_,h1,fun v z=>by cases z⟩
  ·exact⟨_,h2,fun v z=>by cases z⟩
  ·exact⟨_,h3,fun v z=>by cases z⟩
  ·exact⟨o4,h4,fun v z=>by rw[d4]at z;cases z⟩
  ·exact⟨o5,h5,fun v z=>by rw[d5]at z;cases z⟩
 keep:=fun i h h' st k=>by
  obtain⟨h1,h2,⟨u,v,h3⟩,h4,h5⟩:=st
  exact⟨k z (by simp) _ h1,k TI (by simp) _ h2,⟨u,v,k TO (by simp) _ h3⟩,h4.at fun o q=>k i1 (by simp) o q,h5.at fun o q=>k i2 (by simp) o q⟩
 item:=by
  intro X hP hw hK hc i ae s σ H E I hf st hg
  subst hP hw hK
  obtain⟨hi,hj,hq,cV⟩:=hg
  obtain⟨hz,cb,⟨c,d,cT⟩,h1,h2⟩:=st
  obtain⟨its,rv,p⟩:=I.seqB hq
  obtain⟨aL,jT,p2⟩:=I.seqB cV
  obtain⟨u,hu,ru⟩:=rv.get (i:=i) (x:=xs[i]) (by simp[hi])
  obtain⟨v,hv,rv'⟩:=jT.get (i:=i) (x:=ys[i]) (by simp[hj])
  refine D8 D hz cb cT h1 h2 p p2 (x:=u) (y:=v) (by simpa using hu) (by simpa using hv) fun h' g1 g2 g3 g4 g5 gs gk=>?_
  have lK:s.heap.objs.size≠z:=qe_ (jr_ hz)
  refine⟨_,rfl,wpAny_letOwnedTupleGo_zip g1 fun eB e1 cy=>?_⟩
  have fj:∀b o,b ∉ [z,TI,TO,i1,i2]->s.heap.get? b=some o->eB.get? b=some o:=fun b o hb q=>by
   simp only[jD_,zd_,or_false,not_or]at hb
   exact (cy.2 b hb.1).trans (gk b o hb.1 hb.2.2.1 hb.2.2.2.1 hb.2.2.2.2 q)
  obtain⟨un,hok⟩:=I.unL fj hf
  have hn:H s.heap.objs.size=none:=I.hok.fresh (ji_ _)
  have new:Bj X.prog X.w (upd H s.heap.objs.size (.tup [xs[i],ys[i]])) eB s.heap.objs.size (.tup [xs[i],ys[i]]):=⟨by have:=As;simp;lia,[u,v],.cons ru (.cons rv' .nil),_,(cy.2 _ lK).trans g5,rfl,_,rfl⟩
  refine⟨.ref s.heap.objs.size,upd H s.heap.objs.size (.tup [xs[i],ys[i]]),I.call' (s':={s with heap:=eB }) (ch:=[z,TI,TO,i1,i2]) rfl (un.track (ji_ _) hn) (hok.track hn new) I.bare (fun b hb=>?_),rfl,⟨_,_,_,hn,by simp[hi],by simp[hj],rfl,rfl⟩,?_,fun b hb=>?_⟩
  ·exact (hf b hb).ch
  ·refine⟨e1,(cy.2 TI D.TIz).trans (gk TI _ D.TIz D.TITO D.TIi1 D.TIi2 cb),⟨u,v,(cy.2 TO D.TOz).trans g2⟩,g3.at fun o q=>(cy.2 i1 D.i1z).trans q,g4.at fun o q=>(cy.2 i2 D.i2z).trans q⟩
  ·have iu:=hf b hb
   have:∃o,s.heap.get? b=some o:=by
    simp only[jD_,zd_,or_false]at hb
    rcases hb with rfl|rfl|rfl|rfl|rfl
    ·exact⟨_,hz⟩
    ·exact⟨_,cb⟩
    ·exact⟨_,cT⟩
    ·obtain⟨o,ho,_⟩:=h1.ob;exact⟨o,ho⟩
    ·obtain⟨o,ho,_⟩:=h2.ob;exact⟨o,ho⟩
   obtain⟨o,ho⟩:=this
   rw[Aj (jM_ (jr_ ho))]
   exact iu.1
 done:=by
  intro X hP hw hK hc i ae s σ H E I hf st hg
  subst hP hw hK
  obtain⟨hi,hq,cV⟩:=hg
  obtain⟨hz,cb,⟨c,d,cT⟩,h1,h2⟩:=st
  obtain⟨its,rv,p⟩:=I.seqB hq
  obtain⟨aL,jT,p2⟩:=I.seqB cV
  have l1:=rv.length
  have l2:=jT.length
  refine Em (I.ok.hd hc) D hz cb cT h1 h2 p p2 (by simp;lia) fun h' gk=>⟨rfl,?_⟩
  obtain⟨un,hok⟩:=I.unL (h':=h') (fun b o hb q=>by
   simp only[jD_,zd_,or_false,not_or]at hb
   exact gk b o hb.1 hb.2.2.1 hb.2.2.2.1 hb.2.2.2.2 q) hf
  exact I.call' (s':={s with heap:=h' }) (ch:=[z,TI,TO,i1,i2]) rfl un hok I.bare fun b hb=>(hf b hb).ch
 self:=fun A i s Q E st h=>wpAny_pyIter_zip st.1 h
def Ws (K:α3)(ta:TA):TI:=fun σ H R=>ta σ H fun vs H1=>∃a b xs ys t1 t2,vs=[.ref a,.ref b]/\SqB K H1 t1 a xs/\SqB K H1 t2 b ys/\R (Itz2 K t1 t2 a b xs ys) H1
theorem QD {K:α3}     : Ws K ta σ H Z=ta σ H fun vs H1=>∃a b xs ys t1 t2,vs=[.ref a,.ref b]/\SqB K H1 t1 a xs/\SqB K H1 t2 b ys/\Z (Itz2 K t1 t2 a b xs ys) H1:=rfl
def US   {x1}     (hg:Gl X "zip")(hm:X.mg "zip"=none)(ha:PA X [e,f] ta)(hs:starEach [e,f] X.env=[(false,eval e X.env),(false,eval f X.env)]:=by rfl)(cy:starEach [f] X.env=[(false,eval f X.env)]:=by rfl):PI X (.Tuple gp x1 fg) (.Call (.Name "zip" p) [e,f] [] pos) (Ws X.K ta):=by
 intro ae s σ H R I h
 refine Call_ (DS I hg hm boot_zip (j9_ (thn (ha pos ae s σ H _ I h) fun us s1 ⟨vs,H1,I1,r1,q1⟩=>?_) (by rw[hs,cy]) (by rw[cy];rfl)))
 obtain⟨a,b,xs,ys,t1,t2,ev,hq,cV,q⟩:=q1
 subst ev
 cases r1 with
 |cons r rr=>cases rr with
  |cons r' rr=>
   cases rr
   cases r
   cases r'
   obtain⟨its,rv,pl⟩:=I1.seqB hq
   obtain⟨aL,jT,lL⟩:=I1.seqB cV
   refine Mp pl lL fun h' hz cb cT pM jl hsz hk=>?_
   refine wpAny_pyIter_zip (s:={s1 with heap:=h' }) hz ?_
   have I2:Inv X ae σ H1 {s1 with heap:=h' }:=I1.kept (t':=s1.toks) hk
   refine⟨_,_,_,_,H1,rfl,I2,QC (zipApart_new pl.lt lL.lt) xs ys,⟨hz,cb,⟨_,_,cT⟩,pM,jl⟩,fun c hc=>?_,q⟩
   have bg:s1.heap.objs.size<=c:=by
    simp only[jD_,zd_,or_false]at hc
    rcases hc with rfl|rfl|rfl|rfl|rfl
    ·exact xu_ _ 4
    ·exact xu_ _ 2
    ·exact xu_ _ 3
    ·exact ji_ _
    ·exact xu_ _ 1
   exact I1.fpOk bg (I1.hok.fresh bg)
def Xg {K:α3}         (n:Nat)(cn:n<=xs.length)(fR:n<=ys.length)(hn3:xs.length=n\/ys.length=n)(Pv:Nat->St->Hp->Prop)(h0:Pv 0 σ H)(hl:∀i σ H,i<=n->Pv i σ H->SqB K H t1 a xs/\SqB K H t2 b ys)
  (hs:∀i u v σ H t,i<n->xs[i]?=some u->ys[i]?=some v->Pv i σ H->H t=none->g (.ref t) σ (upd H t (.tup [u,v])) fun ai H2=>tb {D with nx:=Pv (i+1),ct:=Pv (i+1),bk:=D.nx} ai H2) (hd:∀σ H,Pv n σ H->D.nx σ H):ForW (Itz2 K t1 t2 a b xs ys) g tb D σ H:=by
 refine⟨fun i m σ H=>m+i=n/\Pv i σ H,⟨n,by lia,h0⟩,fun i m σ H ⟨hm,hp⟩=>?_⟩
 obtain⟨q1,q2⟩:=hl i σ H s!"" hp
 by_cases hi:i<n
 ·refine .inr ⟨⟨by lia,by lia,q1,q2⟩,Pv (i+1),fun af H' h=>⟨m-1,by lia,by lia,h⟩,fun x H' hy=>?_⟩
  obtain⟨t,u,v,e1,e2,e3,rfl,rfl⟩:=hy
  exact hs i u v σ H t hi e2 e3 hp e1
 ·have e:i=n:=by lia
  subst e
  exact .inl ⟨⟨by lia,q1,q2⟩,hd σ H hp⟩
end L2
namespace Nest
def sl (row:α2)(b i:Nat):α2:=(row.take i).drop b
def outF (p e:Int)(s:α2×Int)(x:Int):α2×Int:=if x=e then (s.1,s.2-1) else (if s.2=0 then s.1++[x] else s.1,if p<=x then s.2+1 else s.2)
def outS (p e:Int)(l:α2):α2×Int:=l.foldl (outF p e) ([],0)
def outW (p e:Int)(l:α2):α2:=(outS p e l).1
def wd (p e:Int)(row:α2)(i a:Nat):α2:=outW p e (sl row (a+1) i)
end Nest
namespace L2
open PySem PySem.Spec PyProof.Rows GW
def QE  {K:α3}   (hK:X.K=K)(hl:PE X l tl):PI X tg l (iTup K tl):=by subst hK;exact Ed hl
end L2
namespace L2
open PySem PySem.Spec PyProof.Rows
def QF  {K:α3}(h:X.K=K):OpR X (binaryOp .Add) (Fe K):=by subst h;exact EU
end L2
namespace L2
open PySem PySem.W PySem.Spec PySem.Calls PyProof.Rows
def Oq    [DecidableEq κ](knd:HeapKind prog w κ)  (hd:(d==sysModules)=false):
  MeetsIn prog w (Builtin.«dict.__len__» ⟨[.ref d],[]⟩) (fun _ R s=>∃xs,s.heap.DictOfH knd d xs/\R (.ok (.ret (.int (xs.length:Nat) s.toks))) {s with toks:=s.toks+1}):=
 .of_wp fun A R s ⟨xs,⟨o,es,ep,ho,_,iC,he,_⟩,h⟩=>by
  show wpAny _ _ (dictSize d >>= _) _ _ s
  unfold dictSize
  refine jb_ (jb_ (zA_ ho iC (jo_ ?_)))
  refine jb_ (wpAny_pendingCount_other hd (wpAny_ret_mkInt ?_))
  rw[tZ,size_of_entries he]
  exact h
def Wt {prog:Program}{w:World}{κ:Type}[DecidableEq κ]{knd:HeapKind prog w κ}{A:Around}{E:Value->Shared->Prop}{s:Shared}{d:Addr}{xs:List (κ×Addr×Value)}{Q:Value->Shared->Prop}(hd:(d==sysModules)=false)(hm:s.heap.DictOfH knd d xs)(hfit:(xs.length:Int)<2 ^ 63)
  (h:Q (.int xs.length (s.toks+1)) {s with toks:=s.toks+1+1}):wpAny (model prog w) A (call (.builtin "len") [.ref d]) Q E s:=by
 refine Calls.call_function_entry kind_len plain_len entry_len (args_len1 _) ?_
 unfold Builtin.«len»
 refine jb_ (m:=oneArg "len" _) (jo_ (jb_ (m:=callSpecial? (.ref d) (Str.ofString "__len__")) (j5_ (name:=Str.ofString "__len__") hm.typeIs F.slot_dict_len (call_meetsIn F.slot_dict_len hm.typeIs F.entry_dict_len (F.args_dict_len_1 _) (Oq knd hd) ⟨xs,hm,?_⟩))))
 show wpAny _ _ _ _ _ {s with toks:=s.toks+1}
 refine jb_ (qJ_ (jo_ (jb_ (zY_ ?_))))
 show wpAny _ _ (if ((xs.length:Nat):Int)<0 then _ else _) _ _ _
 rw[if_neg s!""]
 show wpAny _ _ (if ((xs.length:Nat):Int) >= 2 ^ 63 then _ else _) _ _ _
 rw[if_neg s!""]
 exact jb_ (wpAny_mkInt (jo_ ⟨_,rfl,h⟩))
def IZ  : Cf X (.builtin "len") (fun xs H Q=>∃p kvs,xs=[.ref p]/\H p=some (.dT kvs)/\Q (.int kvs.length) H):=by
 intro ae s σ H xs us Q I r h
 obtain⟨p,kvs,rfl,e,q⟩:=h
 obtain⟨u,rfl,rx⟩:=vals1 r
 cases rx
 obtain⟨z,hd,xs,bB,dd⟩:=VY I.hok e
 have hn:=KU
 have aj:kvs.length=xs.length:=bB.length
 exact Wt hd dd s!"" ⟨.int kvs.length,H,I.tok _,⟨_,by rw[aj]⟩,q⟩
def NC (K:α3)(H:Hp)(xs:List V)(ws:α1):Prop:=xs.length=ws.length/\∀(i:Nat) (w:α2),ws[i]?=some w->∃t,xs[i]?=some (.ref t)/\H t=some (.lst (w.map V.int))
def NC.at {K:α3}{H:Hp}{xs:List V}{ws:α1}(h:NC K H xs ws){i:Nat}{x:V}(hx:xs[i]?=some x):∃t w,ws[i]?=some w/\x=.ref t/\H t=some (.lst (w.map V.int)):=by
 have hi:i<ws.length:=by rw[<-h.1];exact (jc_.mp hx).1
 obtain⟨t,a,b⟩:=h.2 i ws[i] (by simp[hi])
 rw[hx]at a
 exact⟨t,ws[i],by simp[hi],jq_ a,b⟩
def ND:∀{ws:α1} {m:Nat} {w:α2},ws[m]?=some w->ws.idxOf w<=m
 |[],m,w,h=>by simp at h
 |v::ws,m,w,h=>by
  rw[zZ_]
  cases m with
  |zero=>
   have:v=w:=by simpa using h
   simp[this]
  |succ m=>
   have:=ND (ws:=ws) (m:=m) (w:=w) (by simpa using h)
   cases e:(v==w) with
   |true=>exact jY_ _
   |false=>exact um this
end L2
set_option maxHeartbeats 1000000
set_option maxHeartbeats 4000000
namespace L2
open PySem
abbrev Ie (h:Heap)(z TI TO T:Addr)(f:Bool):Prop:=
 h.get? z=some {cls:=.type "zip",dict:=none,data:=.fields #[rawInt T,.bool f,.bool false,.ref TI,.ref TO],slots := #[]}
section
variable {prog:Program} {w:World} {A:Around} {E:Value->Shared->Prop} {s:Shared}
def Sf    (ho:s.heap.get? a=some o)(h:Q (some o) s):wpAny (model prog w) A (loadIfAlive a) Q E s:=by
 have h':Q (s.heap.get? a) s:=by rw[ho];exact h
 exact fun _ _ _=>h'
def QG {z TI TO T:Addr}    (hz:Ie s.heap z TI TO T f)(hT:s.heap.get? T=some oT)(lK:T≠z)
  (hQ:∀h',Ie h' z TI TO T true->Heap.SameBut z s.heap h'->Q false {s with heap:=h' }):wpAny (model prog w) A (Builtin.SmallTypes.ownedTupleIsFree (.ref z)) Q E s:=by
 unfold Builtin.SmallTypes.ownedTupleIsFree
 refine jb_ (qd_ hz rfl (x:=rawInt T) rfl ?_)
 show wpAny _ _ (loadIfAlive ((T:Int).toNat) >>= _) _ _ _
 rw[jg_]
 refine jb_ (Sf hT ?_)
 simp only[Option.isNone_some,jS_,qS_]
 refine jb_ (qd_ hz rfl (x:=.bool f) rfl ?_)
 cases f with
 |true=>
  rw[if_neg (show ¬ ((Value.bool true != Value.bool true)=true) from js_)]
  exact jo_ (hQ _ hz (Heap.SameBut.refl _ _))
 |false=>
  rw[if_pos (show (Value.bool false != Value.bool true)=true from rfl)]
  exact jb_ (xe_ hz (by simp) fun bt he₃ aB=>jo_ (hQ bt he₃ aB))
def Mq {z TI TO i1 i2 l1 l2 T:Addr}{f:Bool}{oT:Obj}{k1 k2:Nat}{xs ys:Array Value}{x y:Value}{Q:Value->Shared->Prop}(D:ZipApart z TI TO i1 i2 l1 l2)
  (hz:Ie s.heap z TI TO T f) (hT:s.heap.get? T=some oT) (lK:T≠z) (cb:IsPair s.heap TI (.ref i1) (.ref i2))
  (h1:s.heap.IsListIter i1 l1 k1) (h2:s.heap.IsListIter i2 l2 k2) (bo:s.heap.IsList l1 xs) (bE:s.heap.IsList l2 ys) (hx:xs[k1]?=some x) (hy:ys[k2]?=some y)
  (hQ:∀h',Ie h' z TI TO T true->h'.IsListIter i1 l1 (k1+1)->h'.IsListIter i2 l2 (k2+1)->IsPair h' s.heap.objs.size x y->h'.objs.size=s.heap.objs.size+1 ->
   (∀c o,c≠z->c≠i1->c≠i2->s.heap.get? c=some o->h'.get? c=some o)->Q (.ref s.heap.objs.size) {s with heap:=h' }):
  wpAny (model prog w) A (Builtin.«zip.__next__» ⟨[.ref z],[]⟩) (fun fin s'=>∃v,fin=.done (.ret v)/\Q v s') E s:=by
 show wpAny _ _ (field (.ref z) 2 >>= _) _ _ _
 refine jb_ (qd_ hz rfl (x:=.bool false) rfl ?_)
 show wpAny _ _ (field (.ref z) 3 >>= _) _ _ _
 refine jb_ (qd_ hz rfl (x:=.ref TI) rfl ?_)
 refine jb_ (qR_ cb rfl ?_)
 show wpAny _ _ (Builtin.SmallTypes.ownedTupleIsFree (.ref z) >>= _) _ _ _
 refine jb_ (QG hz hT lK fun h₁ bw au=>?_)
 simp only[jS_,qS_]
 rw[<-tO]
 simp only[zl_,zC_]
 refine jb_ (jb_ (jb_ (qJ_ ?_)))
 show wpAny _ _ (Builtin.SmallTypes.nextOf (.ref i1) >>= _) _ _ _
 refine jb_ (zv_ (h1.extBut au.extBut D.i1z) (bo.extBut au.extBut D.l1z) hx fun aZ eF az=>jo_ (jo_ ?_))
 refine jb_ (jb_ (qJ_ ?_))
 show wpAny _ _ (Builtin.SmallTypes.nextOf (.ref i2) >>= _) _ _ _
 refine jb_ (zv_ ((h2.extBut au.extBut D.i2z).extBut az.extBut D.i12.symm) ((bE.extBut au.extBut D.l2z).extBut az.extBut D.l2i1) hy fun bt h2₃ aB=>jo_ (jo_ (jo_ ?_)))
 have hsz:bt.objs.size=s.heap.objs.size:=by rw[aB.1,az.1,au.1]
 have hz₃:Ie bt z TI TO T true:=aB.extBut _ _ D.i2z.symm (az.extBut _ _ D.i1z.symm bw)
 have hk:∀c o,c≠z->c≠i1->c≠i2->s.heap.get? c=some o->bt.get? c=some o:=fun c o c1 c2 c3 e=>aB.extBut _ _ c3 (az.extBut _ _ c2 (au.extBut _ _ c1 e))
 have h1₃:bt.IsListIter i1 l1 (k1+1):=eF.extBut aB.extBut D.i12
 refine jb_ (wpAny_newTuple ?_ (hsz:=by show 2<=sizeLine;decide))
 refine jo_ ⟨_,rfl,?_⟩
 show Q (.ref bt.objs.size) _
 rw[hsz]
 refine hQ _ (jf_ _ hz₃) (h1₃.at fun o e=>jf_ _ e) (h2₃.at fun o e=>jf_ _ e) ?_ (by rw[qf_,hsz]) fun c o c1 c2 c3 e=>jf_ _ (hk c o c1 c2 c3 e)
 rw[<-hsz]
 exact jx_ _ rfl
def Ot {z TI TO i1 i2 l1 l2 T:Addr}      (hh:A.handled=none)(D:ZipApart z TI TO i1 i2 l1 l2)
  (hz:Ie s.heap z TI TO T f) (hT:s.heap.get? T=some oT) (lK:T≠z) (cb:IsPair s.heap TI (.ref i1) (.ref i2))
  (h1:s.heap.IsListIter i1 l1 k1) (bo:s.heap.IsList l1 xs) (hx:xs[k1]?=none)
  (hE:∀h' e,(∀c o,c≠z->c≠i1->c≠i2->s.heap.get? c=some o->h'.get? c=some o)->(∃o,h'.get? e=some o/\o.cls=.type "StopIteration")->E (.ref e) {s with heap:=h' }):
  wpAny (model prog w) A (Builtin.«zip.__next__» ⟨[.ref z],[]⟩) Q E s:=by
 show wpAny _ _ (field (.ref z) 2 >>= _) _ _ _
 refine jb_ (qd_ hz rfl (x:=.bool false) rfl ?_)
 show wpAny _ _ (field (.ref z) 3 >>= _) _ _ _
 refine jb_ (qd_ hz rfl (x:=.ref TI) rfl ?_)
 refine jb_ (qR_ cb rfl ?_)
 show wpAny _ _ (Builtin.SmallTypes.ownedTupleIsFree (.ref z) >>= _) _ _ _
 refine jb_ (QG hz hT lK fun h₁ bw au=>?_)
 simp only[jS_,qS_]
 rw[<-tO]
 simp only[zl_,zC_]
 refine jb_ (jb_ (jb_ (qJ_ ?_)))
 show wpAny _ _ (Builtin.SmallTypes.nextOf (.ref i1) >>= _) _ _ _
 exact jb_ (wpAny_nextOf_list_end hh (h1.extBut au.extBut D.i1z) (bo.extBut au.extBut D.l1z) hx fun aZ e az he=>hE aZ e (fun c o c1 c2 _ x=>az _ _ c2 (au.extBut _ _ c1 x)) he)
def ZSt (h:Heap)(z TI TO i1 i2 l1 l2 S:Addr)(xs ys:Array Value)(i:Nat):Prop:=
 IsPair h TI (.ref i1) (.ref i2)/\h.IsListIter i1 l1 i/\h.IsListIter i2 l2 i/\h.IsList l1 xs/\h.IsList l2 ys /\
 ((IsZip h z TI TO .none/\∃a b,IsPair h TO a b) \/ ∃T f oT,Ie h z TI TO T f/\h.get? T=some oT/\T≠z/\T≠i1/\T≠i2/\T≠S)
structure ZFar (z TI TO i1 i2 l1 l2 S:Addr):Prop where
 z:z≠S
 TI:TI≠S
 TO:TO≠S
 i1:i1≠S
 i2:i2≠S
 l1:l1≠S
 l2:l2≠S
def ZSt.keep  {z TI TO i1 i2 l1 l2 S:Addr}   (F:ZFar z TI TO i1 i2 l1 l2 S)(x:ZSt h z TI TO i1 i2 l1 l2 S xs ys i)(hk:∀b o,b≠S->h.get? b=some o->h'.get? b=some o):ZSt h' z TI TO i1 i2 l1 l2 S xs ys i:=by
 obtain⟨a1,a2,a3,a4,a5,a6⟩:=x
 refine⟨hk _ _ F.TI a1,a2.at fun o e=>hk _ o F.i1 e,a3.at fun o e=>hk _ o F.i2 e,a4.at fun o e=>hk _ o F.l1 e,a5.at fun o e=>hk _ o F.l2 e,?_⟩
 rcases a6 with ⟨b1,u,v,b2⟩|⟨T,f,oT,b1,b2,b3,b4,b5,b6⟩
 ·exact .inl ⟨hk _ _ F.z b1,u,v,hk _ _ F.TO b2⟩
 ·exact .inr ⟨T,f,oT,hk _ _ F.z b1,hk _ _ b6 b2,b3,b4,b5,b6⟩
def UT {z TI TO i1 i2 l1 l2 S:Addr}     (D:ZipApart z TI TO i1 i2 l1 l2)(dy:ZSt s.heap z TI TO i1 i2 l1 l2 S xs ys i)(hS:S<s.heap.objs.size)
  (hx:xs[i]?=some x) (hy:ys[i]?=some y)
  (hQ:∀h',ZSt h' z TI TO i1 i2 l1 l2 S xs ys (i+1)->IsPair h' s.heap.objs.size x y->h'.objs.size=s.heap.objs.size+1 ->
   (∀c o,c≠z->c≠TO->c≠i1->c≠i2->s.heap.get? c=some o->h'.get? c=some o)->Q (some (.ref s.heap.objs.size)) {s with heap:=h' }):
  wpAny (model prog w) A (pyNext (.ref z)) Q E s:=by
 obtain⟨a1,a2,a3,a4,a5,a6⟩:=dy
 have nS:i1<s.heap.objs.size:=by obtain⟨_,e,_⟩:=id a2;exact jr_ e
 have nT:i2<s.heap.objs.size:=by obtain⟨_,e,_⟩:=id a3;exact jr_ e
 rcases a6 with ⟨b1,u,v,b2⟩|⟨T,f,oT,b1,b2,b3,b4,b5,b6⟩
 ·have lz:=jr_ b1
  refine wpAny_pyNext_zip_item D b1 a1 b2 a2 a3 a4 a5 hx hy fun h' c1 c2 c3 c4 c5 c6 c7=>hQ h' ⟨?_,c3,c4,a4.at fun o e=>c7 _ o D.l1z D.l1TO D.l1i1 D.l1i2 e,a5.at fun o e=>c7 _ o D.l2z D.l2TO D.l2i1 D.l2i2 e,.inr ⟨_,false,_,c1,c5,qe_ lz,qe_ nS,qe_ nT,qe_ hS⟩⟩ c5 c6 c7
  exact c7 _ _ D.TIz D.TITO D.TIi1 D.TIi2 a1
 ·have hT:s.TypeIs (.ref z) "zip" := ⟨_,b1,rfl⟩
  unfold pyNext
  refine jb_ (xl_ (j5_ (name:=Str.ofString "__next__") hT z0_
   (qD_ z0_ hT F.entry_zip_next
    (Mq D b1 b2 b3 a1 a2 a3 a4 a5 hx hy fun h' c1 c3 c4 c5 c6 c7=>jo_ (hQ h' ⟨?_,c3,c4,a4.at fun o e=>c7 _ o D.l1z D.l1i1 D.l1i2 e,a5.at fun o e=>c7 _ o D.l2z D.l2i1 D.l2i2 e,.inr ⟨T,true,oT,c1,c7 _ _ b3 b4 b5 b2,b3,b4,b5,b6⟩⟩ c5 c6 fun c o d1 _ d3 d4 e=>c7 c o d1 d3 d4 e)) (F.args_zip_next_1 _))))
  exact c7 _ _ D.TIz D.TIi1 D.TIi2 a1
def UU {z TI TO i1 i2 l1 l2 S:Addr}    (hh:A.handled=none)(D:ZipApart z TI TO i1 i2 l1 l2)(dy:ZSt s.heap z TI TO i1 i2 l1 l2 S xs ys i)(hx:xs[i]?=none)
  (hQ:∀h',(∀c o,c≠z->c≠TO->c≠i1->c≠i2->s.heap.get? c=some o->h'.get? c=some o)->Q none {s with heap:=h' }):wpAny (model prog w) A (pyNext (.ref z)) Q E s:=by
 obtain⟨a1,a2,a3,a4,a5,a6⟩:=dy
 rcases a6 with ⟨b1,u,v,b2⟩|⟨T,f,oT,b1,b2,b3,b4,b5,b6⟩
 ·exact wpAny_pyNext_zip_end hh D b1 a1 b2 a2 a3 a4 a5 (.inl hx) hQ
 ·have hT:s.TypeIs (.ref z) "zip" := ⟨_,b1,rfl⟩
  unfold pyNext
  refine jb_ (xl_ (j5_ (name:=Str.ofString "__next__") hT z0_
   (qD_ z0_ hT F.entry_zip_next (Ot (A:=A.in1) hh D b1 b2 b3 a1 a2 a4 hx fun h' e hk he=>?_) (F.args_zip_next_1 _))))
  obtain⟨o,ho,hc⟩:=he
  refine jb_ (wpAny_isInstance (T := "StopIteration") (b:=true) ⟨o,ho,hc⟩ isSubtype_stop ?_)
  exact jo_ (hQ _ fun c o c1 _ c3 c4 e=>hk c o c1 c3 c4 e)
end
structure ZG (xs ys:Array Value)(lo:Addr)(h:Heap)(as:List Addr):Prop where
 rise:as.Pairwise (· < ·)
 above:∀a∈as,lo<a
 pairs:∀(j:Nat) (a:Addr),as[j]?=some a->∃x y,xs[j]?=some x/\ys[j]?=some y/\IsPair h a x y
def ZG.low  {lo:Addr}   (g:ZG xs ys lo h as)  (ha:a∈as):a<h.objs.size:=by
 obtain⟨j,hj⟩:=jN_.mp ha
 obtain⟨_,_,_,_,e⟩:=g.pairs j a hj
 exact jr_ e
section
variable {prog:Program} {w:World} {A:Around} {s:Shared} {R:Result->Shared->Prop} {xs ys:Array Value} {z TI TO i1 i2 l1 l2 S:Addr}
def Sg (z TO i1 i2 S:Addr)(h h':Heap):Prop:=∀b o,b≠S->b≠z->b≠TO->b≠i1->b≠i2->h.get? b=some o->h'.get? b=some o
def UW (hh:A.handled=none)(D:ZipApart z TI TO i1 i2 l1 l2)(F:ZFar z TI TO i1 i2 l1 l2 S)(aq:z<S/\TO<S/\i1<S/\i2<S)(hn:xs.size<=sizeLine)(lM:xs.size=ys.size)(res:Value)
  (hR:∀h' tk ah c as,Sg z TO i1 i2 S h₁ h'->h'.get? S=some {cls:=.type "list",dict:=none,data:=.seq ah c,slots := #[]}->as.length=xs.size->ZG xs ys S h' as->ah.toList=as.map Value.ref->R (.ok (.ret res)) {s with heap:=h',toks:=tk}):
  ∀(k i:Nat) (h:Heap) (tk c:Nat) (ah:Array Value) (as:List Addr),xs.size-i=k->i<=xs.size->ZSt h z TI TO i1 i2 l1 l2 S xs ys i->Sg z TO i1 i2 S h₁ h ->
   h.get? S=some {cls:=.type "list",dict:=none,data:=.seq ah c,slots := #[]}->ah.toList=as.map Value.ref->as.length=i->ZG xs ys S h as ->
   codeAny (model prog w) A (.builtin "list.extend.loop" ⟨[.ref S,.ref z,res],[]⟩) R {s with heap:=h,toks:=tk}:=by
 obtain⟨g1,g2,g3,g4⟩:=aq
 intro k
 induction k with
 |zero=>
  intro i h tk c ah as hk hi dy gy hS aP eI hG
  refine codeAny_builtin rT ?_
  rw[Around.under_plainId xD_ _]
  show wpAny _ A.in1 (pyNext (.ref z) >>= _) _ _ _
  refine jb_ (UU (s:={s with heap:=h,toks:=tk}) (A:=A.in1) hh D dy (sv s!"") fun h' he=>?_)
  refine jo_ (hR h' tk ah c as (fun b o b0 b1 b2 b3 b4 e=>he b o b1 b2 b3 b4 (gy b o b0 b1 b2 b3 b4 e)) (he S _ F.z.symm F.TO.symm F.i1.symm F.i2.symm hS) s!"" ⟨hG.rise,hG.above,fun j a hj=>?_⟩ aP)
  obtain⟨x,y,e1,e2,e3⟩:=hG.pairs j a hj
  have:=hG.above a (jd_ hj)
  exact⟨x,y,e1,e2,he a _ (qe_ (xS_ g1 this)) (qe_ (xS_ g2 this)) (qe_ (xS_ g3 this)) (qe_ (xS_ g4 this)) e3⟩
 |succ k ih=>
  intro i h tk c ah as hk hi dy gy hS aP eI hG
  have aq:i<xs.size:=by lia
  have hx:xs[i]?=some xs[i]:=by simp[aq]
  have hy:ys[i]?=some (ys[i]'s!""):=by simp[show i<ys.size by lia]
  generalize xs[i]=x at hx
  generalize ys[i]'s!""=y at hy
  have hsz:ah.size=i:=by rw[<-j3_,aP,ja_,eI]
  have pN:S<h.objs.size:=jr_ hS
  refine codeAny_builtin rT ?_
  rw[Around.under_plainId xD_ _]
  show wpAny _ A.in1 (pyNext (.ref z) >>= _) _ _ _
  refine jb_ (UT (s:={s with heap:=h,toks:=tk}) (S:=S) D dy pN hx hy fun h' jL ht hz nU=>?_)
  dsimp only at ht hz nU ⊢
  have lN:=nU S _ F.z.symm F.TO.symm F.i1.symm F.i2.symm hS
  have up:∀b o,b≠S->h'.get? b=some o->(h'.update S (Obj.mapSeq (·.push (Value.ref h.objs.size)))).get? b=some o:=fun b o hb e=>(j6_ _ _ (qs_ hb)).trans e
  show wpAny _ A.in1 (updateSeq S (·.push (Value.ref h.objs.size)) >>= _) _ _ _
  refine jb_ ?_
  refine z1_ lN rfl (jo_ ⟨plainId_quiet xD_ _,ih (i+1) _ tk _ (ah.push (Value.ref h.objs.size)) (as++[h.objs.size]) s!"" aq (jL.keep F up)
   (fun b o b0 b1 b2 b3 b4 e=>up b o b0 (nU b o b1 b2 b3 b4 (gy b o b0 b1 b2 b3 b4 e))) (qM_ _ lN rfl) (by rw[wd_,aP,jW_];rfl) (by rw[jn_,eI];rfl) ⟨?_,?_,?_⟩⟩) (by rw[hsz];lia) (by show (ah.push (Value.ref h.objs.size)).size<=sizeLine+1;rw[uC];lia)
  ·refine q4_.mpr ⟨hG.rise,sj _ _,fun a ha b hb=>?_⟩
   rw[ju_.mp hb]
   exact hG.low ha
  ·intro a ha
   rcases jA_.mp ha with ha|ha
   ·exact hG.above a ha
   ·rw[ju_.mp ha];exact pN
  ·intro j b hj
   rcases Nat.lt_trichotomy j as.length with h1|h1|h1
   ·rw[jk_ h1]at hj
    obtain⟨x',y',e1,e2,e3⟩:=hG.pairs j b hj
    have hb:=hG.above b (jd_ hj)
    exact⟨x',y',e1,e2,up b _ (qe_ hb) (nU b _ (qe_ (xS_ g1 hb)) (qe_ (xS_ g2 hb)) (qe_ (xS_ g3 hb)) (qe_ (xS_ g4 hb)) e3)⟩
   ·subst h1
    have hb:h.objs.size=b:=by simpa using hj
    subst hb
    exact⟨x,y,by rw[eI];exact hx,by rw[eI];exact hy,up _ _ (qe_ pN) ht⟩
   ·have hnone:(as++[h.objs.size])[j]?=none:=jU_ (by rw[jn_,jX_];lia)
    rw[hnone]at hj;cases hj
end
def QH:typeLookup (.type "zip") "__len__"=pure none:=by rw[typeLookup_type,builtinLookup_eq_fast];kernel_rfl
def Ou:typeLookup (.type "zip") "__length_hint__"=pure none:=by rw[typeLookup_type,builtinLookup_eq_fast];kernel_rfl
section
variable {prog:Program} {w:World} {A:Around} {s:Shared} {R:Result->Shared->Prop} {xs ys:Array Value} {z TI TO i1 i2 l1 l2 S:Addr}
def QI (hh:A.handled=none)(D:ZipApart z TI TO i1 i2 l1 l2)(F:ZFar z TI TO i1 i2 l1 l2 S)(aq:z<S/\TO<S/\i1<S/\i2<S)(hn:xs.size<=sizeLine)(lM:xs.size=ys.size)(res:Value)(c₀:Nat)
  (hz:IsZip s.heap z TI TO .none) (dy:ZSt s.heap z TI TO i1 i2 l1 l2 S xs ys 0) (hS:s.heap.get? S=some {cls:=.type "list",data:=.seq #[] c₀})
  (hR:∀h' tk ah c as,Sg z TO i1 i2 S s.heap h'->h'.get? S=some {cls:=.type "list",dict:=none,data:=.seq ah c,slots := #[]}->as.length=xs.size->ZG xs ys S h' as->ah.toList=as.map Value.ref->R (.ok (.ret res)) {s with heap:=h',toks:=tk}):
  wpAny (model prog w) A.in1 (Builtin.List.listExtendWith (.ref S) (.ref z) res)
   (fun fin s'=>match fin with | .done f=>R (.ok f) s' | .again c'=>c'.quiet=true/\codeAny (model prog w) A c' R s') (fun e s'=>R (.error e) s') s:=by
 have hT:s.TypeIs (.ref z) "zip" := ⟨_,hz,rfl⟩
 unfold Builtin.List.listExtendWith
 refine jb_ (wpAny_typeOf hT ?_)
 have h1:Builtin.List.listSameRef (.ref S) (.ref z)=false:=by simp[Builtin.List.listSameRef,F.z.symm]
 have h2:(Value.type "zip" == Value.type "list")=false:=by decide
 have h3:(Value.type "zip" == Value.type "tuple")=false:=by decide
 simp only[h1,h2,h3,Bool.or_false,jS_,qS_]
 refine jb_ (wpAny_pyIter_zip hz ?_)
 refine jb_ (qJ_ ?_)
 unfold Builtin.List.listLengthHint
 refine jb_ (wpAny_specialOf hT QH ?_)
 show wpAny _ A.in1 (specialOf (Value.ref z) (Str.ofString "__length_hint__") >>= _) _ _ _
 refine jb_ (wpAny_specialOf hT Ou ?_)
 refine jo_ ?_
 show wpAny _ A.in1 (rule "list.extend.makes-room" >>= fun _=>Builtin.List.listTouch (.ref S) >>= fun _=>
  again (.builtin "list.extend.loop" ⟨[.ref S,.ref z,res],[]⟩)) _ _ _
 refine jb_ (zS_ ?_)
 refine jb_ ?_
 show wpAny _ A.in1 (updateSeq S (·.push .none) >>= fun _=>updateSeq S (·.pop)) _ _ _
 refine jb_ (z1_ hS rfl ?_)
 have eJ:=qM_ (Obj.mapSeq (·.push Value.none)) hS rfl
 refine z1_ (hz:=by seq_fits) eJ rfl ?_
 have hS₃:=qM_ (Obj.mapSeq (·.pop)) eJ rfl
 have lO:∀b o,b≠S->s.heap.get? b=some o->((s.heap.update S (Obj.mapSeq (·.push Value.none))).update S (Obj.mapSeq (·.pop))).get? b=some o:=
  fun b o hb e=>(j6_ _ _ (qs_ hb)).trans ((j6_ _ _ (qs_ hb)).trans e)
 exact jo_ ⟨plainId_quiet xD_ _,UW (s:=s) (h₁:=s.heap) hh D F aq hn lM res hR xs.size 0 _ s.toks _ #[] [] (tX _) (jY_ _) (dy.keep F lO) (fun b o b0 _ _ _ _ e=>lO b o b0 e) hS₃ rfl rfl
  ⟨rN,(fun _ ha=>nomatch ha),(fun j a hj=>by simp at hj)⟩⟩
def UX (hh:A.handled=none)(D:ZipApart z TI TO i1 i2 l1 l2)(F:ZFar z TI TO i1 i2 l1 l2 S)(aq:z<S/\TO<S/\i1<S/\i2<S)(hn:xs.size<=sizeLine)(lM:xs.size=ys.size)
  (hz:IsZip s.heap z TI TO .none) (dy:ZSt s.heap z TI TO i1 i2 l1 l2 S xs ys 0) (hS:s.heap.get? S=some {cls:=.type "list",data:=.seq #[]})
  (hR:∀h' tk ah c as,Sg z TO i1 i2 S s.heap h'->h'.get? S=some {cls:=.type "list",dict:=none,data:=.seq ah c,slots := #[]}->as.length=xs.size->ZG xs ys S h' as->ah.toList=as.map Value.ref->R (.ok (.ret .none)) {s with heap:=h',toks:=tk}):
  wpAny (model prog w) A.in1 (Builtin.«list.__init__» ⟨[.ref S,.ref z],[]⟩)
   (fun fin s'=>match fin with | .done f=>R (.ok f) s' | .again c'=>c'.quiet=true/\codeAny (model prog w) A c' R s') (fun e s'=>R (.error e) s') s:=by
 show wpAny _ A.in1 (do let dU <- Builtin.List.listItems (.ref S);Builtin.List.listUpdate (.ref S) (fun _ => #[]);letGo dU.toList.reverse;Builtin.List.listExtendWith (.ref S) (.ref z) .none) _ _ s
 refine jb_ ?_
 unfold Builtin.List.listItems
 refine jb_ (qR_ hS rfl (jo_ ?_))
 show wpAny _ A.in1 (updateSeq S (fun _ => #[]) >>= fun _=>letGo (#[]:Array Value).toList.reverse >>= fun _=>Builtin.List.listExtendWith (.ref S) (.ref z) .none) _ _ s
 refine jb_ (z1_ hS rfl ?_)
 have eJ:=qM_ (Obj.mapSeq (fun _=>(#[]:Array Value))) hS rfl
 have lO:∀b o,b≠S->s.heap.get? b=some o->(s.heap.update S (Obj.mapSeq (fun _=>(#[]:Array Value)))).get? b=some o:=
  fun b o hb e=>(j6_ _ _ (qs_ hb)).trans e
 refine jb_ (zY_ ?_)
 exact QI (s:={s with heap:=s.heap.update S (Obj.mapSeq (fun _=>(#[]:Array Value)))}) hh D F aq hn lM .none _ (lO _ _ F.z hz) (dy.keep F lO) eJ fun h' tk ah c as hk lN hl hG aP=>hR h' tk ah c as (fun b o b0 b1 b2 b3 b4 e=>hk b o b0 b1 b2 b3 b4 (lO b o b0 e)) lN hl hG aP
end
section
variable {prog:Program} {w:World} {A:Around} {E:Value->Shared->Prop} {s:Shared} {xs ys:Array Value} {z TI TO i1 i2 l1 l2:Addr}
def UY  (hh:A.handled=none)(D:ZipApart z TI TO i1 i2 l1 l2)(hn:xs.size<=sizeLine)(lM:xs.size=ys.size)
  (hz:IsZip s.heap z TI TO .none) (cb:IsPair s.heap TI (.ref i1) (.ref i2))  (cT:IsPair s.heap TO a b) (h1:s.heap.IsListIter i1 l1 0) (h2:s.heap.IsListIter i2 l2 0) (bo:s.heap.IsList l1 xs) (bE:s.heap.IsList l2 ys)
  (hQ:∀h' tk ah c as,(∀b o,b≠z->b≠TO->b≠i1->b≠i2->s.heap.get? b=some o->h'.get? b=some o)->h'.get? s.heap.objs.size=some {cls:=.type "list",dict:=none,data:=.seq ah c,slots := #[]}->as.length=xs.size->ZG xs ys s.heap.objs.size h' as->ah.toList=as.map Value.ref ->
   Q (.ref s.heap.objs.size) {s with heap:=h',toks:=tk}):
  wpAny (model prog w) A (call (.type "list") [.ref z]) Q E s:=by
 refine callType_codes (Q₁:=fun obj s₁=>obj=.ref s.heap.objs.size/\s₁={s with heap:=s.heap.push {cls:=.type "list",data:=.seq #[]} }) vW (vv _) vw
  (code_list_new _ ⟨rfl,rfl⟩) fun obj s₁ e₁=>?_
 obtain⟨rfl,rfl⟩:=e₁
 have hS:(s.heap.push {cls:=.type "list",data:=.seq #[]}).get? s.heap.objs.size=some {cls:=.type "list",data:=.seq #[]}:=jx_ _ rfl
 have lz:=jr_ hz
 have lTI:=jr_ cb
 have lTO:=jr_ cT
 have nS:i1<s.heap.objs.size:=by obtain⟨_,e,_⟩:=id h1;exact jr_ e
 have nT:i2<s.heap.objs.size:=by obtain⟨_,e,_⟩:=id h2;exact jr_ e
 have ll1:l1<s.heap.objs.size:=by obtain⟨_,e,_⟩:=id bo;exact jr_ e
 have ll2:l2<s.heap.objs.size:=by obtain⟨_,e,_⟩:=id bE;exact jr_ e
 have up:∀b o,s.heap.get? b=some o->(s.heap.push {cls:=.type "list",data:=.seq #[]}).get? b=some o:=fun b o e=>jf_ _ e
 have F:ZFar z TI TO i1 i2 l1 l2 s.heap.objs.size:=⟨jM_ lz,jM_ lTI,jM_ lTO,jM_ nS,jM_ nT,jM_ ll1,jM_ ll2⟩
 refine⟨⟨_,hS,rfl⟩,vm _ _,UX (s:={s with heap:=s.heap.push {cls:=.type "list",data:=.seq #[]} }) (A:=A.in1) hh D F ⟨lz,lTO,nS,nT⟩ hn lM (up _ _ hz) ⟨up _ _ cb,h1.at fun o e=>up _ o e,h2.at fun o e=>up _ o e,bo.at fun o e=>up _ o e,bE.at fun o e=>up _ o e,.inl ⟨up _ _ hz,a,b,up _ _ cT⟩⟩ hS fun h' tk ah c as hk lN hl hG aP=>?_⟩
 exact⟨rfl,hQ h' tk ah c as (fun b o b1 b2 b3 b4 e=>hk b o (jM_ (jr_ e)) b1 b2 b3 b4 (up b o e)) lN hl hG aP⟩
end
end L2
namespace L2
open PySem PySem.W PySem.Spec PySem.Calls PyProof.Rows
def NF (K:α3)(ta:TA):TE:=fun σ H Q=>ta σ H fun vs H1=>∃a b xs ys,vs=[.ref a,.ref b]/\SqL K H1 a xs/\SqL K H1 b ys/\xs.length=ys.length/\∀l rs H',Same H1 H'->H' l=none->rs.length=xs.length ->
 (∀(i:Nat) (x y:V),xs[i]?=some x->ys[i]?=some y->∃t,rs[i]?=some (V.ref t)/\H' t=some (.tup [x,y]))->Q (.ref l) (upd H' l (.lst rs))
theorem Ll {K:α3}     : NF K ta σ H Q=ta σ H fun vs H1=>∃a b xs ys,vs=[.ref a,.ref b]/\SqL K H1 a xs/\SqL K H1 b ys/\xs.length=ys.length/\∀l rs H',Same H1 H'->H' l=none->rs.length=xs.length ->
 (∀(i:Nat) (x y:V),xs[i]?=some x->ys[i]?=some y->∃t,rs[i]?=some (V.ref t)/\H' t=some (.tup [x,y]))->Q (.ref l) (upd H' l (.lst rs)):=rfl
def Ov     (hc:X.calm=true)(hg:Gl X "list")(hm:X.mg "list"=none)(jN:Gl X "zip")(hZ:X.mg "zip"=none)(ha:PA X [e,f] ta)
  (jj:starEach [.Call (.Name "zip" p2) [e,f] [] dW] X.env=[(false,eval (.Call (.Name "zip" p2) [e,f] [] dW) X.env)]:=by rfl) (hs:starEach [e,f] X.env=[(false,eval e X.env),(false,eval f X.env)]:=by rfl) (cy:starEach [f] X.env=[(false,eval f X.env)]:=by rfl):
  PE X (.Call (.Name "list" p) [.Call (.Name "zip" p2) [e,f] [] dW] [] pos) (NF X.K ta):=by
 intro ae s σ H Q I h
 refine xx_ (DS I hg hm boot_list ?_)
 refine j9_ ?_ jj rfl
 rw[jj]
 refine xw_ ?_
 refine Call_ (DS I jN hZ boot_zip (j9_ (thn (ha dW ae s σ H _ I h) fun us s1 ⟨vs,H1,I1,r1,q1⟩=>?_) (by rw[hs,cy]) (by rw[cy];rfl)))
 obtain⟨a,b,xs,ys,ev,hq,cV,aj,q⟩:=q1
 subst ev
 cases r1 with
 |cons r rr=>cases rr with
  |cons r' rr=>
   cases rr
   cases r
   cases r'
   obtain⟨its,rv,pl,eK⟩:=I1.list hq
   obtain⟨aL,jT,lL,_⟩:=I1.list cV
   have a1:a<s1.heap.objs.size:=by obtain⟨_,e,_⟩:=id pl.isList;exact jr_ e
   have a2:b<s1.heap.objs.size:=by obtain⟨_,e,_⟩:=id lL.isList;exact jr_ e
   have ln1:=rv.length
   have ln2:=jT.length
   refine call_zip_2 pl.isList lL.isList fun h1 hz cb cT pM jl hsz hk=>?_
   refine x3_ ?_
   refine UY (s:={s1 with heap:=h1}) (I1.ok.hd hc) (zipApart_new a1 a2) (by rw[jm_,<-ln1];exact eK) (by rw[jm_,jm_,<-ln1,<-ln2];exact aj) hz cb cT pM jl (pl.isList.at fun o e=>hk _ o e) (lL.isList.at fun o e=>hk _ o e) fun h' tk ah c as dk hS hl hG aP=>?_
   dsimp only at dk hS hG
   have bg:s1.heap.objs.size<=h1.objs.size:=by lia
   have pO:∀b o,s1.heap.get? b=some o->h'.get? b=some o:=fun b o e=>by
    have:=jr_ e
    exact dk b o (jM_ (jz_ this (xu_ _ 4))) (jM_ (jz_ this (xu_ _ 3))) (jM_ this) (jM_ (jz_ this (xu_ _ 1))) (hk b o e)
   rw[jm_]at hl
   have eI:as.length=xs.length:=by lia
   let cs:List (List V):=(xs.zip ys).map fun q=>[q.1,q.2]
   have bS:cs.length=xs.length:=by simp[cs,aj]
   have hci:∀(i:Nat) (x y:V),xs[i]?=some x->ys[i]?=some y->cs[i]?=some [x,y]:=fun i x y h1 h2=>by
    simp only[cs]
    rw[je_,show (xs.zip ys)[i]?=some (x,y) from qW_.mpr ⟨h1,h2⟩];rfl
   have pP:(as.zip cs).map (·.1)=as:=by rw[uo];rw[eI,bS];exact ji_ _
   have u0:Un X.fs [] H1 H1 s1.heap h':=Un.kept pO
   have k0:HOk X.prog X.w H1 h':=I1.hok.kept pO
   have a8:∀p∈as.zip cs,∃i:Nat,as[i]?=some p.1/\cs[i]?=some p.2:=fun p hp=>by
    obtain⟨i,hi⟩:=jN_.mp hp
    exact⟨i,qW_.mp hi⟩
   have b9:∀x∈as,s1.heap.objs.size<=x:=fun x hx=>by
    exact ze_ (tM bg (hG.above x hx))
   obtain⟨H2,e1,e2,e3,e4,e5⟩:=NA (as.zip cs) (by rw[pP];exact hG.rise.imp fun a=>jM_ a) (fun p hp=>by
    obtain⟨i,h1,h2⟩:=a8 p hp
    have hi:i<xs.length:=by rw[<-eI];exact (jc_.mp h1).1
    have jl:i<ys.length:=by lia
    have mT:xs[i]?=some xs[i]:=by simp[hi]
    have hyi:ys[i]?=some ys[i]:=by simp[jl]
    rw[hci i _ _ mT hyi]at h2
    have eB:=jq_ h2
    obtain⟨u,hu,ru⟩:=rv.get mT
    obtain⟨v,hv,rvv⟩:=jT.get hyi
    obtain⟨x',y',b1,b2,b3⟩:=hG.pairs i p.1 h1
    have eu:x'=u:=by
     rw[sO,hu]at b1;exact (jq_ b1).symm
    have ew:y'=v:=by
     rw[sO,hv]at b2;exact (jq_ b2).symm
    subst eu ew
    refine⟨b9 _ (jd_ h1),by rw[<-eB];have:=As;simp;lia,[x',y'],?_,⟨_,b3,rfl,0,rfl⟩⟩
    rw[<-eB]
    exact Vals.two' ru rvv) H1 u0 k0 (fun p hp=>by
    obtain⟨i,h1,h2⟩:=a8 p hp
    exact I1.hok.fresh (b9 _ (jd_ h1)))
   have hD:H2 h1.objs.size=none:=by
    rw[e5 _ (by rw[pP];exact fun z=>absurd (hG.above _ z) (j8_ _))]
    exact I1.hok.fresh bg
   have hv:Vals (as.map V.ref) ah.toList:=by
    rw[aP]
    clear hS hl hG aP eI pP a8 e4 e5 b9
    induction as with
    |nil=>exact .nil
    |cons a r ih=>exact .cons rfl ih
   have new:Bj X.prog X.w (upd H2 h1.objs.size (.lst (as.map V.ref))) h' h1.objs.size (.lst (as.map V.ref)):=⟨by rw[ja_,eI];exact eK,ah.toList,c,hv,by simpa using hS⟩
   refine⟨.ref _,_,I1.un (t':=tk) (e1.track bg hD) (e2.track hD new),rfl,q _ _ H2 e3 hD (by rw[ja_,eI]) fun i x y hx hy=>?_⟩
   have hi:i<as.length:=by rw[eI];exact (jc_.mp hx).1
   have mK:as[i]?=some as[i]:=by simp[hi]
   refine⟨as[i],by rw[je_,mK];rfl,?_⟩
   exact e4 (as[i],[x,y]) (jN_.mpr ⟨i,qW_.mpr ⟨mK,hci i x y hx hy⟩⟩)
def Lm  (hc:X.calm=true):Cf X (.builtin "max") (fun xs H Q=>∃(p:Addr) (ns:α2) (m:Int),xs=[.ref p]/\SqL X.K H p (ns.map V.int)/\m∈ns/\(∀x∈ns,x<=m)/\Q (.int m) H):=by
 intro ae s σ H xs us Q I r h
 obtain⟨p,ns,m,rfl,hq,hm,hmax,q⟩:=h
 obtain⟨u,rfl,rx⟩:=vals1 r
 cases rx
 obtain⟨its,r',pl,_⟩:=I.list hq
 have hi:IntsAre its ns:=by simpa using intsAre_of r'
 obtain⟨zs,e⟩:=hi.allInts.items
 have iG:ns=zs.toList.map (·.1):=by rw[<-hi.numsOf,<-nums_intItems,<-e]
 have aw:0<ns.length:=qH_ hm
 have hsz:0<zs.size:=by rw[iG,ja_,j3_]at aw;exact aw
 have hl:=pl.isList
 rw[e]at hl
 refine max_intList (I.ok.hd hc) hl hsz fun v h' tk hv hk=>?_
 obtain⟨t,rfl⟩:=intItems_at hv
 obtain⟨h1,h2⟩:=argBest_gt (numAt zs) (zs.size-1)
 have g1:numAt zs (argBest (fun i j=>decide (numAt zs i > numAt zs j)) (zs.size-1))∈ns:=by
  rw[iG,numAt_eq];exact getD_mem (by rw[ja_,j3_];lia)
 have g2:m<=numAt zs (argBest (fun i j=>decide (numAt zs i > numAt zs j)) (zs.size-1)):=by
  rw[iG]at hm
  obtain⟨j,hj,rfl⟩:=mem_getD hm
  rw[ja_,j3_]at hj
  rw[<-numAt_eq];exact h2 j s!""
 have g3:=hmax _ g1
 have g4:numAt zs (argBest (fun i j=>decide (numAt zs i > numAt zs j)) (zs.size-1))=m:=by lia
 exact⟨.int m,H,I.kept hk,⟨t,by rw[g4]⟩,q⟩
def Ln  : Cf X (.builtin "len") (fun xs H Q=>(∃a kvs,xs=[V.ref a]/\H a=some (.dK kvs)/\Q (.int kvs.length) H) \/ ∃p kvs,xs=[.ref p]/\H p=some (.dT kvs)/\Q (.int kvs.length) H):=
 Cf.or (by
  intro ae s σ H xs us Q I r h
  obtain⟨a,kvs,rfl,ha,q⟩:=h
  obtain⟨u,rfl,ru⟩:=vals1 r
  cases ru
  exact Xd I (.inl ha) fun t s' I'=>⟨.int kvs.length,H,I',⟨t,rfl⟩,q⟩) IZ
def rIxB (K:α3):R2:=fun x y H Q=>rIxL K x y H Q\/rIxT K x y H Q
def UZ  {K:α3}(h:X.K=K):IxR X (rIxB K):=IxR.or (Bh h) (Br h)
theorem Wu {K:α3}    : rIxB K x y H Q=((∃p xs i v,x=.ref p/\y=.int i/\SqL K H p xs/\atI xs i=some v/\Q v H) \/ ∃p xs i v,x=.ref p/\y=.int i/\SqT K H p xs/\atI xs i=some v/\Q v H):=rfl
def Tz:TE:=fun σ H Q=>PU σ H Q\/PV σ H Q
theorem QJ    : Tz σ H Q=((∀p,H p=none->Q (.ref p) (upd H p (.dK []))) \/ ∀p,H p=none->Q (.ref p) (upd H p (.dT []))):=rfl
def Sh   : PE X (.Dict [] [] pos) Tz:=fun ae s σ H Q I h=>h.elim (fun h=>Ng ae s σ H Q I h) (fun h=>Nh ae s σ H Q I h)
end L2
namespace L2
section
variable {α:Type} [DecidableEq α]
def ins1 (ah:List α)(x:α):List α:=if x∈ah then ah else ah++[x]
def BD (ah row:List α):List α:=row.foldl ins1 ah
def Ay (row:List α):List α:=BD [] row
def Kh {ah:List α}{x y:α}:y∈ins1 ah x↔y∈ah\/y=x:=by
 unfold ins1
 split
 ·rename_i h
  constructor
  ·exact .inl
  ·rintro (h' | rfl)
   ·exact h'
   ·exact h
 ·simp
def Ig:∀{row ah:List α} {y:α},y∈BD ah row↔y∈ah\/y∈row
 |[],ah,y=>by simp[BD]
 |x::row,ah,y=>by
  show y∈BD (ins1 ah x) row↔_
  rw[Ig,Kh,jD_,or_assoc]
def AM {row:List α}{y:α}:y∈Ay row↔y∈row:=by
 unfold Ay
 rw[Ig];simp
def Ow {ah:List α}{x:α}(h:ah.Nodup):(ins1 ah x).Nodup:=by
 unfold ins1
 split
 ·exact h
 ·rename_i hx
  exact zz_.mpr ⟨h,by simp,fun a ha b hb z=>by simp at hb;subst z hb;exact hx ha⟩
def FK:∀{row ah:List α},ah.Nodup->(BD ah row).Nodup
 |[],ah,h=>h
 |x::row,ah,h=>FK (row:=row) (Ow h)
def Be (row:List α):(Ay row).Nodup:=FK s9
def Mr (row:List α)(x:α):Ay (row++[x])=ins1 (Ay row) x:=by
 unfold Ay BD
 rw[qE_];rfl
def QK {l:List α}{x y:α}(hx:x∈l)(hy:y∈l)(h:l.idxOf x=l.idxOf y):x=y:=by
 have h1:=qO_ hx
 have h2:=qO_ hy
 have e1:l[l.idxOf x]=x:=q2_ h1
 have e2:l[l.idxOf y]=y:=q2_ h2
 rw[<-e1,<-e2]
 congr 1
def num (row:List α):α2:=row.map fun x=>((Ay row).idxOf x:Int)
def Gn (row:List α):(num row).length=row.length:=by unfold num;rw[ja_]
def Dz {β:Type}[DecidableEq β](f:α->β):∀(row ah:List α),(∀x y,x∈ah\/x∈row->y∈ah\/y∈row->f x=f y->x=y)->BD (ah.map f) (row.map f)=(BD ah row).map f
 |[],ah,_=>rfl
 |x::row,ah,h=>by
  show BD (ins1 (ah.map f) (f x)) (row.map f)=(BD (ins1 ah x) row).map f
  have e:ins1 (ah.map f) (f x)=(ins1 ah x).map f:=by
   unfold ins1
   by_cases hx:x∈ah
   ·rw[if_pos hx,if_pos (q8_ hx)]
   ·rw[if_neg hx,if_neg,jW_];rfl
    intro z
    obtain⟨y,hy,e⟩:=jv_.mp z
    have:=h y x (.inl hy) (.inr (jp_ ..)) e
    subst this
    exact hx hy
  rw[e]
  refine Dz f row _ fun a b ha hb=>h a b ?_ ?_
  ·rcases ha with ha|ha
   ·rcases Kh.mp ha with ha|rfl
    ·exact .inl ha
    ·exact .inr (jp_ ..)
   ·exact .inr (jl_ _ ha)
  ·rcases hb with hb|hb
   ·rcases Kh.mp hb with hb|rfl
    ·exact .inl hb
    ·exact .inr (jp_ ..)
   ·exact .inr (jl_ _ hb)
def ncl (row:List α):Nat:=(Ay row).length
def Gp (row:List α):ncl (num row)=ncl row:=by
 unfold ncl num Ay
 have:=Dz (fun x=>((Ay row).idxOf x:Int)) row [] (fun x y hx hy e=>by
  simp at hx hy
  exact QK (AM.mpr hx) (AM.mpr hy) s!"")
 unfold Ay at this
 simp only[xY_]at this
 rw[this,ja_]
def NG {row:List α}{i:Nat}{x:α}(h:row[i]?=some x):(num row)[i]?=some ((Ay row).idxOf x:Int):=by
 unfold num
 rw[je_,h];rfl
def Ms {row:List α}{i j:Nat}{x y:α}(hx:row[i]?=some x)(hy:row[j]?=some y):(num row)[i]?=(num row)[j]? ↔ x=y:=by
 rw[NG hx,NG hy]
 constructor
 ·intro h
  have:=jq_ h
  exact QK (AM.mpr (jd_ hx)) (AM.mpr (jd_ hy)) s!""
 ·rintro rfl;rfl
def NH {row:List α}{n:Int}(h:n∈num row):0<=n/\n<ncl row:=by
 unfold num at h
 obtain⟨x,hx,rfl⟩:=jv_.mp h
 have:=qO_ (AM.mpr hx)
 exact⟨by lia,by unfold ncl;lia⟩
def Ki {row:List α}(h:row ≠ []):((ncl row:Int)-1)∈num row:=by
 have aw:Ay row ≠ []:=fun z=>by
  cases row with
  |nil=>exact h rfl
  |cons x row=>
   have:x∈Ay (x::row):=AM.mpr (jp_ ..)
   rw[z]at this;cases this
 have jU:0<(Ay row).length:=z2_.mpr aw
 have aq:(Ay row).length-1<(Ay row).length:=by lia
 refine jv_.mpr ⟨(Ay row)[(Ay row).length-1],AM.mp (j1_ aq),?_⟩
 have e:=(Be row).idxOf_getElem _ aq
 rw[e]
 unfold ncl
 lia
def U0 {row:List α}(h:row ≠ []):1<=ncl row:=by
 have h1:=Ki h
 have:=NH h1
 lia
def Js (row:List α):ncl row<=row.length:=by
 unfold ncl
 have:∀(row ah:List α),(BD ah row).length<=ah.length+row.length:=fun row=>by
  induction row with
  |nil=>intro ah;exact ji_ _
  |cons x row ih=>
   intro ah
   have:=ih (ins1 ah x)
   have h2:(ins1 ah x).length<=ah.length+1:=by unfold ins1;split<;>simp
   show (BD (ins1 ah x) row).length<=_
   rw[jT_];lia
 have:=this row []
 simpa [Ay] using this
end
def NJ {α:Type}[DecidableEq α]:∀{l m:List α},l.Nodup->(∀x∈l,x∈m)->l.length<=m.length
 |[],m,_,_=>jY_ _
 |x::l,m,hn,h=>by
  have hx:=h x (jp_ ..)
  have h1:=qK_.mp hn
  have:=NJ (m:=m.erase x) h1.2 fun y hy=>by
   have aw:y≠x:=fun z=>h1.1 (z ▸ hy)
   exact (xj_ aw).mpr (h y (jl_ _ hy))
  rw[qY_ hx]at this
  have hp:0<m.length:=qH_ hx
  rw[jT_];lia
def Ox {α β:Type}[DecidableEq α][DecidableEq β](f:α->β){l:List α}{m:List β}(hl:l.Nodup)(hm:m.Nodup)(hs:∀y∈m,∃x∈l,f x=y)(aj:l.length<=m.length){x y:α}(hx:x∈l)(hy:y∈l)(e:f x=f y):x=y:=by
 refine Decidable.byContradiction fun aw=>?_
 have cS:∀z∈m,z∈(l.erase y).map f:=fun z hz=>by
  obtain⟨u,hu,rfl⟩:=hs z hz
  by_cases huy:u=y
  ·subst huy
   exact jv_.mpr ⟨x,(xj_ aw).mpr hx,e⟩
  ·exact jv_.mpr ⟨u,(xj_ huy).mpr hu,rfl⟩
 have:=NJ hm cS
 rw[ja_,qY_ hy]at this
 have hp:0<l.length:=qH_ hy
 lia
def Oy {α β:Type}[DecidableEq α][DecidableEq β]{row:List (α×β)}(h:ncl row<=ncl (row.map (·.1))){x y:α×β}(hx:x∈row)(hy:y∈row)(e:x.1=y.1):x.2=y.2:=by
 have h':(Ay row).length<=(Ay (row.map fun p:α×β=>p.1)).length:=h
 have:=Ox (fun p:α×β=>p.1) (Be row) (Be (row.map fun p:α×β=>p.1)) (fun z hz=>by
  obtain⟨p,hp,rfl⟩:=jv_.mp (AM.mp hz)
  exact⟨p,AM.mpr hp,rfl⟩) h' (AM.mpr hx) (AM.mpr hy) e
 rw[this]
def U1 {α β:Type}[DecidableEq α][DecidableEq β]{row:List (α×β)}(h:∀x∈row,∀y∈row,x.1=y.1->x=y):ncl (row.map (·.1))=ncl row:=by
 unfold ncl Ay
 have:=Dz (fun p:α×β=>p.1) row [] (fun x y hx hy e=>by
  simp at hx hy
  exact h x hx y hy e)
 simp only[xY_]at this
 rw[this,ja_]
structure WC (L:Int)(n:Nat)(b:α2->Nat->Int)(words:α1)(c:α2):Prop where
 w0:words[0]?=some []
 ok:∀w∈words,∀x∈w,0<=x/\x<L
 tl:∀(k:Nat) (w:α2),words[k]?=some w->0<k->w.tail∈words.take k
 nd:words.Nodup
 len:c.length=n
 rng:∀v∈c,0<=v/\v<ncl c
 top:((ncl c:Int)-1)∈c
 iff:∀r s,r<n->s<n->(c[r]?=c[s]? ↔ ∀w∈words,b w r=b w s)
 le:words.length<=ncl c
def rowB (n:Nat)(b:α2->Nat->Int)(w:α2):α2:=(rq n).map (b w)
def B2     (hr:r<n):(rowB n b w)[r]?=some (b w r):=by
 unfold rowB
 rw[je_,qN_ hr];rfl
def QL {c m:α2}(h:c.length=m.length):(c.zip m).map (·.1)=c:=by
 rw[uo s!""]
def Jt {c m:α2}{r:Nat}{u v:Int}(hu:c[r]?=some u)(hv:m[r]?=some v):(c.zip m)[r]?=some (u,v):=by
 rw[qW_];exact⟨hu,hv⟩
section
variable {L:Int} {n:Nat} {b:α2->Nat->Int} {words:α1} {c:α2} {w:α2} {x:Int}
def WC.start (hn:1<=n):WC L n b [[]] (num (rowB n b [])):=by
 have aw:rowB n b [] ≠ []:=fun z=>by
  have:=jJ_ rL z
  unfold rowB at this
  simp at this;lia
 refine⟨rfl,(fun w hw x hx=>by simp at hw;subst hw;cases hx),fun k w hk h0=>?_,by simp,by rw[Gn];unfold rowB;simp,fun v hv=>?_,?_,fun r s hr hs=>?_,?_⟩
 ·cases k with
  |zero=>lia
  |succ k=>simp at hk
 ·rw[Gp];exact NH hv
 ·rw[Gp];exact Ki aw
 ·rw[Ms (B2 hr) (B2 hs)]
  simp
 ·rw[Gp]
  exact U0 aw
def WC.at (h:WC L n b words c)  (hr:r<n):∃u,c[r]?=some u:=⟨c[r]'(by rw[h.len];exact hr),by simp[h.len,hr]⟩
def DA:(rowB n b w).length=n:=by unfold rowB;simp
def WC.zlen (h:WC L n b words c):c.length=(rowB n b w).length:=by rw[h.len,DA]
def WC.same (h:WC L n b words c)(bg:ncl (c.zip (rowB n b w))<=ncl c)  (hr:r<n)(hs:s<n)(e:c[r]?=c[s]?):b w r=b w s:=by
 obtain⟨u,hu⟩:=h.at hr
 obtain⟨v,hv⟩:=h.at hs
 have huv:u=v:=by rw[hu,hv]at e;exact jq_ e
 have h1:=jd_ (Jt hu (B2 (b:=b) (w:=w) hr))
 have h2:=jd_ (Jt hv (B2 (b:=b) (w:=w) hs))
 exact Oy (by rw[QL (h.zlen)];exact bg) h1 h2 huv
def QM {c m:α2}{p:Int×Int}(hp:p∈c.zip m):∃r:Nat,c[r]?=some p.1/\m[r]?=some p.2:=by
 obtain⟨r,hr⟩:=jN_.mp hp
 have:=qW_.mp (show (c.zip m)[r]?=some (p.1,p.2) from hr)
 exact⟨r,this.1,this.2⟩
def WC.told (h:WC L n b words c)(hs:∀r s,r<n->s<n->c[r]?=c[s]?->b w r=b w s):ncl (c.zip (rowB n b w))<=ncl c:=by
 have e:=U1 (row:=c.zip (rowB n b w)) fun p hp q hq e=>by
  obtain⟨r,p1,p2⟩:=QM hp
  obtain⟨s,q1,q2⟩:=QM hq
  have hr:r<n:=by rw[<-h.len];exact (jc_.mp p1).1
  have bF:s<n:=by rw[<-h.len];exact (jc_.mp q1).1
  have:=hs r s hr bF (by rw[p1,q1,e])
  rw[B2 hr]at p2
  rw[B2 bF]at q2
  have e2:p.2=q.2:=by rw[<-jq_ p2,<-jq_ q2,this]
  exact Prod.ext e e2
 rw[<-e,QL h.zlen]
 exact ji_ _
def WC.more (h:WC L n b words c)(hn:1<=n)(hw:w∈words)(hx:0<=x/\x<L)(lP:ncl c<ncl (c.zip (rowB n b (x::w)))):WC L n b (words++[x::w]) (num (c.zip (rowB n b (x::w)))):=by
 have dB:x::w∉words:=fun hm=>by
  have:=h.told (w:=x::w) fun r s hr hs e=>((h.iff r s hr hs).mp e) _ hm
  lia
 have eK:(c.zip (rowB n b (x::w))).length=n:=by rw[z3_,h.len,DA];lia
 have aw:c.zip (rowB n b (x::w)) ≠ []:=fun z=>by rw[z]at eK;simp at eK;lia
 have jU:0<words.length:=by
  have:=(jc_.mp h.w0).1
  exact this
 refine⟨by rw[jk_ jU];exact h.w0,fun v hv y hy=>?_,fun k v hk h0=>?_,?_,by rw[Gn,eK],fun v hv=>?_,?_,fun r s hr hs=>?_,?_⟩
 ·rcases jA_.mp hv with hv|hv
  ·exact h.ok v hv y hy
  ·rw[ju_.mp hv]at hy
   rcases jD_.mp hy with rfl|hy
   ·exact hx
   ·exact h.ok w hw y hy
 ·by_cases iB:k<words.length
  ·rw[jk_ iB]at hk
   rw[rO s!""]
   exact h.tl k v hk h0
  ·have:=(jc_.mp hk).1
   rw[jn_,jX_]at this
   have e:k=words.length:=by lia
   subst e
   rw[jt_ (ji_ _),qG_]at hk
   simp at hk
   subst hk
   rw[List.take_left']
   ·exact hw
   ·rfl
 ·exact zz_.mpr ⟨h.nd,by simp,fun a ha y hy z=>by simp at hy;subst z hy;exact dB ha⟩
 ·rw[Gp];exact NH hv
 ·rw[Gp];exact Ki aw
 ·obtain⟨u,hu⟩:=h.at hr
  obtain⟨v,hv⟩:=h.at hs
  rw[Ms (Jt hu (B2 hr)) (Jt hv (B2 hs))]
  constructor
  ·intro e y hy
   rcases jA_.mp hy with hy|hy
   ·exact ((h.iff r s hr hs).mp (by rw[hu,hv,(uy e).1])) y hy
   ·rw[ju_.mp hy];exact (uy e).2
  ·intro e
   have e1:=(h.iff r s hr hs).mpr fun y hy=>e y (qc_ _ hy)
   rw[hu,hv]at e1
   have e2:=e (x::w) (jy_ _ (ju_.mpr rfl))
   rw[jq_ e1,e2]
 ·rw[jn_,jX_,Gp]
  have:=h.le
  lia
def Told (n:Nat)(b:α2->Nat->Int)(c:α2)(w:α2):Prop:=∀r s,r<n->s<n->c[r]?=c[s]?->b w r=b w s
def WC.finer (h:WC L n b words c)(hz:c.length=n)  (ht:Told n b c u):Told n b (num (c.zip (rowB n b w))) u:=fun r s hr hs e=>by
 obtain⟨p,hp⟩:=h.at hr
 obtain⟨q,hq⟩:=h.at hs
 have:=(Ms (Jt hp (B2 (b:=b) (w:=w) hr)) (Jt hq (B2 (b:=b) (w:=w) hs))).mp e
 exact ht r s hr hs (by rw[hp,hq,(uy this).1])
def WC.mine (h:WC L n b words c)(hw:w∈words):Told n b c w:=fun r s hr hs e=>((h.iff r s hr hs).mp e) w hw
end
def QN {α β:Type}[DecidableEq α][DecidableEq β](f:α->β):∀(l:List α) (x:α),(∀y∈l,f y=f x->y=x)->(l.map f).idxOf (f x)=l.idxOf x
 |[],x,_=>rfl
 |a::l,x,h=>by
  rw[j0_,zZ_,zZ_,QN f l x fun y hy=>h y (jl_ _ hy)]
  by_cases e:a=x
  ·subst e;simp
  ·have:¬ f a=f x:=fun z=>e (h a (jp_ ..) z)
   rw[show (a==x)=false by simpa using e,show (f a==f x)=false by simpa using this]
def U2  [DecidableEq α][DecidableEq β](f:α->β)  (h:∀x∈row,∀y∈row,f x=f y->x=y):num (row.map f)=num row:=by
 have e:Ay (row.map f)=(Ay row).map f:=by
  unfold Ay
  have:=Dz f row [] (fun x y hx hy e=>h x (hx.resolve_left (by simp)) y (hy.resolve_left (by simp)) e)
  simpa using this
 unfold num
 rw[jR_,e]
 refine qo_ fun x hx=>?_
 show (((Ay row).map f).idxOf (f x):Int)=_
 rw[QN f _ _ fun y hy e=>h y (AM.mp hy) x hx e]
def Si {α:Type}[DecidableEq α]{l:List α}{x y:α}(hy:y∈l):(l++[x]).idxOf y=l.idxOf y:=by
 rw[we_,if_pos hy]
def Mt {α:Type}[DecidableEq α]{l:List α}{x:α}(hx:x∉l):(l++[x]).idxOf x=l.length:=by
 rw[we_,if_neg hx];simp
abbrev StC:=α1×α2
def I0 (n:Nat)(b:α2->Nat->Int)(w:α2)(st:StC)(x:Nat):StC:=if ncl st.2<ncl (st.2.zip (rowB n b ((x:Int)::w))) then (st.1++[(x:Int)::w],num (st.2.zip (rowB n b ((x:Int)::w)))) else st
def FL (n:Nat)(b:α2->Nat->Int)(w:α2)(L:Nat)(st:StC):StC:=(rq L).foldl (I0 n b w) st
def FN (n:Nat)(b:α2->Nat->Int)(L:Nat):Nat->Nat->StC->StC
 |0,_,st=>st
 |f+1,k,st=>if k<st.1.length then FN n b L f (k+1) (FL n b (st.1.getD k []) L st) else st
section
variable {n L:Nat} {b:α2->Nat->Int} {w:α2} {st:StC}
def Ih  : FL n b w (i+1) st=I0 n b w (FL n b w i st) i:=by
 unfold FL
 rw[x1_,qE_];rfl
def Ju  (h:st.1.length<=k):FN n b L f k st=st:=by
 cases f with
 |zero=>rfl
 |succ f=>unfold FN;rw[if_neg s!""]
def Lo   (h:st.1[k]?=some v):FN n b L (f+1) k st=FN n b L f (k+1) (FL n b v L st):=by
 have hk:=(jc_.mp h).1
 rw[FN,if_pos hk,jj_,h];rfl
structure WS (n L:Nat)(b:α2->Nat->Int)(k i:Nat)(st:StC):Prop where
 wc:WC L n b st.1 st.2
 told:∀(j:Nat) (v:α2),st.1[j]?=some v->∀x:Nat,x<L->(j<k\/(j=k/\x<i))->Told n b st.2 ((x:Int)::v)
def WS.start (hn:1<=n):WS n L b 0 0 ([[]],num (rowB n b [])):=⟨WC.start hn,fun j v hj x hx h=>by lia⟩
def WS.next  (h:WS n L b k L st):WS n L b (k+1) 0 st:=⟨h.wc,fun j v hj x hx hh=>h.told j v hj x hx s!""⟩
def WS.step  (hn:1<=n)(hw:st.1[k]?=some w)(hi:i<L)(h:WS n L b k i st):WS n L b k (i+1) (I0 n b w st i)/\(I0 n b w st i).1[k]?=some w:=by
 have hm:=jd_ hw
 unfold I0
 by_cases hc:ncl st.2<ncl (st.2.zip (rowB n b ((i:Int)::w)))
 ·rw[if_pos hc]
  have hW:=h.wc.more hn hm (show 0<=(i:Int)/\(i:Int)<L by lia) hc
  have hk:=(jc_.mp hw).1
  refine⟨⟨hW,fun j v hj x hx hh=>?_⟩,by rw[jk_ hk];exact hw⟩
  by_cases e:j=k/\x=i
  ·obtain⟨rfl,rfl⟩:=e
   rw[jk_ hk,hw]at hj
   cases hj
   exact hW.mine (jy_ _ (ju_.mpr rfl))
  ·have fm:j<st.1.length:=by lia
   rw[jk_ fm]at hj
   exact h.wc.finer h.wc.len (h.told j v hj x hx s!"")
 ·rw[if_neg hc]
  refine⟨⟨h.wc,fun j v hj x hx hh=>?_⟩,hw⟩
  by_cases e:j=k/\x=i
  ·obtain⟨rfl,rfl⟩:=e
   rw[hw]at hj
   cases hj
   exact fun r s hr hs er=>h.wc.same s!"" hr hs er
  ·exact h.told j v hj x hx s!""
def WS.few  (h:WS n L b k i st):st.1.length<=n:=by
 have h1:=h.wc.le
 have h2:=Js st.2
 rw[h.wc.len]at h2
 lia
def wcOf (n L:Nat)(b:α2->Nat->Int):StC:=FN n b L 41 0 ([[]],num (rowB n b []))
structure Fin17 (n L:Nat)(b:α2->Nat->Int)(st:StC):Prop where
 wc:WC L n b st.1 st.2
 told:∀v∈st.1,∀x:Nat,x<L->Told n b st.2 ((x:Int)::v)
def WS.fin  (h:WS n L b k 0 st)(hk:st.1.length<=k):Fin17 n L b st:=⟨h.wc,fun v hv x hx=>by
 obtain⟨j,hj⟩:=jN_.mp hv
 have:=(jc_.mp hj).1
 exact h.told j v hj x hx s!""⟩
end
end L2
namespace L2
open PySem PySem.W PySem.Spec PySem.Calls PyProof.Rows
def QO              (I:Inv X ae σ H s)(e:H a=some (.dK kvs))(l:kvs.length<sizeLine)(ry:RelV (kV k) u)(rv:RelV v r)
  (h0:∀x,valV kvs k=some x->∀w' s',Inv X ae σ H s'->RelV x w'->Q w' s') (h1:valV kvs k=none->∀s',Inv X ae σ (upd H a (.dK (putK kvs k v))) s'->Q r s'):
  wpAny (model X.prog X.w) A (call (.builtin "dict.setdefault") [.ref a,u,r]) Q E s:=by
 obtain⟨z,hd,vs,bB,dd⟩:=RP I.hok e
 have hz:vs.length<=sizeLine:=by rw[<-bB.length];exact z
 refine call_meetsIn rQ dd.typeIs uz (uq _ _ _) (kt_meets_setdefault (Bi X.prog X.w) a (Ma ry) hd r) ⟨vs,dd,hz,fun x hx=>?_,fun hn h' hV hs=>?_⟩
 ·have rk:=bB.val k
  rw[hx]at rk
  cases q:valV kvs k with
  |none=>rw[q]at rk;exact (rk:False).elim
  |some y=>rw[q]at rk;exact h0 y q _ _ (I.tok _) rk
 ·have rk:=bB.val k
  rw[hn]at rk
  cases q:valV kvs k with
  |some y=>rw[q]at rk;exact (rk:False).elim
  |none=>
   refine h1 q _ ?_
   have hl:(putK kvs k v).length<=sizeLine:=by have:=Dt kvs k v;lia
   have he:∃q,h'.get? a=some q:=let ⟨q,_,_,hq,_⟩:=hV;⟨q,hq⟩
   exact J2 I (by rw[e];exact rA) hs he (PM hl hd (bB.put k rv) hV)
def NL (td ty tx:TE):TE:=fun σ H Q=>td σ H fun x H1=>∃a,x=.ref a/\IsD H1 a/\ty σ H1 fun y H2=>tx σ H2 fun z H3=>∃n kvs,y=.int n/\H3 a=some (.dK kvs)/\kvs.length<sizeLine/\(∀v,valV kvs (rB n)=some v->Q v H3)/\(valV kvs (rB n)=none->Q z (upd H3 a (.dK (putK kvs (rB n) z))))
theorem Lp     : NL td ty tx σ H Q=td σ H fun x H1=>∃a,x=.ref a/\IsD H1 a/\ty σ H1 fun y H2=>tx σ H2 fun z H3=>∃n kvs,y=.int n/\H3 a=some (.dK kvs)/\kvs.length<sizeLine/\(∀v,valV kvs (rB n)=some v->Q v H3)/\(valV kvs (rB n)=none->Q z (upd H3 a (.dK (putK kvs (rB n) z)))):=rfl
def Oz     (ho:PE X o td)(he:PE X e ty)(hf:PE X f tx)(m:M2 X o "setdefault" bH e f aH):PE X (.Call (.Attribute o "setdefault" bH) [e,f] [] aH) (NL td ty tx):=by
 intro ae s σ H Q I h
 refine wpAny_Call_method m.base m.few m.line r9 rQ uD (thn (ho ae s σ H _ I h) fun u s1 ⟨x,H1,I1,rx,a,ex,d,q1⟩=>?_)
 subst ex
 obtain rfl:u=Value.ref a:=rx
 obtain⟨t1,t2,_⟩:=S8 I1 d
 refine⟨t1,t2,?_⟩
 rw[m.trees]
 refine zt_ rfl (zO_ (xw_ (thn (he ae s1 σ H1 _ I1 q1) fun iv s2 ⟨y,H2,I2,ry,q2⟩ =>
  xw_ (thn (hf ae s2 σ H2 _ I2 q2) fun fv s3 ⟨z,H3,I3,rz,n,kvs,ey,ea,l,q3,q4⟩=>x3_ ?_))))
 subst ey
 exact QO (k:=rB n) I3 ea l ry rz (fun v hv w' s4 I4 ff=>⟨v,H3,I4,ff,q3 v hv⟩) fun hn s4 I4=>⟨z,_,I4,rz,q4 hn⟩
end L2
namespace L2
open GW GB
def QP {L:Int}(hL:0<L){n i:Nat}{ab:α1}{r:Int}{w:α2}:∀(rest:α2) (x:Nat) (ents:List (Int×α2)),((x+rest.length:Nat):Int)=L->(∀(k:Nat) (g:Int),rest[k]?=some g->g=Bu ab r ((x+k:Nat):Int)/\0<=g/\g<(n:Int))->Bfs L n ab ents i (place L w*L+x+1)->Seen L ab ents r w x->ents[i]?=some (r,w) ->
  Bfs L n ab (CV w ents x rest) i (place L w*L+L+1)/\Seen L ab (CV w ents x rest) r w L.toNat/\(CV w ents x rest)[i]?=some (r,w)
 |[],x,ents,hx,hg,bf,se,he=>by
  rw[Gj]
  have e:(x:Int)=L:=by simpa using hx
  rw[e]at bf
  exact⟨bf,by rw[show L.toNat=x by lia];exact se,he⟩
 |g::rest,x,ents,hx,hg,bf,se,he=>by
  rw[Fs]
  obtain⟨g1,g2⟩:=hg 0 g rfl
  have bX:(x:Int)<L:=by rw[jT_]at hx;lia
  obtain⟨pQ,se'⟩:=bf.letter hL se (jd_ he) bX g1 g2
  refine QP hL rest (x+1) _ (by rw[<-hx,jT_];congr 1;lia) (fun k g' hk=>?_) pQ se' (Ft he)
  have:=hg (k+1) g' (by simpa using hk)
  rwa [show x+(k+1)=x+1+k by lia]at this
def QQ {L:Int}{aa:α2}{ab:α1}(wf:Wf L aa ab):∀(f:Nat) (ents:List (Int×α2)) (i:Nat) (top:Int),Bfs L aa.length ab ents i top->(∀e,ents[i]?=some e->top<=place L e.2*L+1)->aa.length<i+f->∃gq,Bfs L aa.length ab (bfs ab f ents i) (bfs ab f ents i).length gq
 |0,ents,i,top,bf,ht,hf=>absurd bf.il (by have:=bf.len;lia)
 |f+1,ents,i,top,bf,ht,hf=>by
  have hL:0<L:=by have:=wf.l1;lia
  cases he:ents[i]? with
  |none=>
   rw[Kb he]
   have:i=ents.length:=by have:=bf.il;have:=xC_.mp he;lia
   exact⟨top,this ▸ bf⟩
  |some e=>
   obtain⟨r,w⟩:=e
   rw[Kc he]
   have hr:=bf.rng _ (jd_ he)
   obtain⟨row,h1,h2,h3⟩:=wf.row hr.1 hr.2
   have mU:ab.getD r.toNat []=row:=by rw[jj_,h1];rfl
   obtain⟨a,b,c⟩:=QP (w:=w) (r:=r) hL row 0 ents (by simpa using h3) (fun k g hk=>⟨by rw[zG_];exact (BH h1 (by rw[jg_];exact hk)).symm,(wf.rows row h2).2 g (jd_ hk)⟩) (bf.up (by have h9:top<=place L w*L+1:=ht _ he;push_cast;lia)) (fun y h0 h1=>absurd h1 (by push_cast;lia)) he
   obtain⟨pQ,eL⟩:=Bfs.next hL (m:=L.toNat) (by rw[show ((L.toNat:Nat):Int)=L by lia];exact a) s!"" b c
   show ∃gq,Bfs L aa.length ab (bfs ab f (CV w ents 0 (ab.getD r.toNat [])) (i+1)) _ gq
   rw[mU]
   exact QQ wf f _ (i+1) _ pQ eL s!""
def Bfs.mk    (wf:Wf L aa ab):∃top,Bfs L aa.length ab (Au ab) (Au ab).length top:=by
 unfold Au
 refine QQ wf _ _ 0 1 (Bfs.start L wf.n1 ab) (fun e he=>?_) (by rw[wf.len];lia)
 simp at he;subst he;simp[place,AU]
def Lq {n L:Nat}{b:α2->Nat->Int}{st:StC}{k:Nat}{w:α2}(hn:1<=n)(hw:st.1[k]?=some w)(h:WS n L b k 0 st):∀i,i<=L->WS n L b k i (FL n b w i st)/\(FL n b w i st).1[k]?=some w
 |0,_=>⟨h,hw⟩
 |i+1,hi=>by
  obtain⟨a,c⟩:=Lq hn hw h i s!""
  rw[Ih]
  exact a.step hn c s!""
def Jv {n L:Nat}{b:α2->Nat->Int}(hn:1<=n)(a9:n<=40):∀(f k:Nat) (st:StC),k+f=41->WS n L b k 0 st->Fin17 n L b (FN n b L f k st)
 |0,k,st,hk,h=>h.fin (by have:=h.few;lia)
 |f+1,k,st,hk,h=>by
  cases hw:st.1[k]? with
  |none=>
   have:=xC_.mp hw
   rw[Ju this]
   exact h.fin this
  |some w=>
   rw[Lo hw]
   exact Jv hn a9 f (k+1) _ s!"" (Lq hn hw h L (ji_ _)).1.next
def Fin17.mk'   (hn:1<=n)(a9:n<=40):Fin17 n L b (wcOf n L b):=Jv hn a9 41 0 _ rfl (WS.start hn)
def bW (aa:α2)(ab:α1)(w:α2)(r:Nat):Int:=aa.getD (Bv ab (r:Int) w).toNat 0
def TB   : rowB aa.length (bW aa ab) []=aa:=by
 refine qT_ fun i=>?_
 by_cases hi:i<aa.length
 ·rw[B2 hi]
  unfold bW
  show some (aa.getD ((i:Int)).toNat 0)=_
  rw[jg_,jj_,jh_ hi];rfl
 ·rw[jU_ (by rw[DA];lia),jU_ s!""]
def Mu   (w:α2)(x:Int)(r:Nat)(h:0<=Bu ab (r:Int) x):bW aa ab (x::w) r=bW aa ab w (Bu ab (r:Int) x).toNat:=by
 unfold bW
 rw[Bm,xr_ h]
def cf (c:α2)(r:Int):Int:=c.getD r.toNat 0
def hm (c R:α2)(r:Int):Int:=(((Ay (R.map (cf c))).idxOf (cf c r):Nat):Int)
def By (c ah:α2)(r:Int):α2:=if cf c r∈ah.map (cf c) then ah else ah++[r]
def FR (c R:α2):α2:=R.foldl (By c) []
def OA (c ah:α2)(r:Int):(By c ah r).map (cf c)=ins1 (ah.map (cf c)) (cf c r):=by
 unfold By ins1
 split
 ·rfl
 ·rw[jW_];rfl
def QR (c:α2):∀(R ah:α2),(R.foldl (By c) ah).map (cf c)=BD (ah.map (cf c)) (R.map (cf c))
 |[],ah=>rfl
 |r::R,ah=>by
  rw[q1_,QR c R,OA];rfl
def Ii (c R:α2):(FR c R).map (cf c)=Ay (R.map (cf c)):=QR c R []
def QS {c R:α2}{i:Nat}{r:Int}(h:R[i]?=some r):FR c (R.take (i+1))=By c (FR c (R.take i)) r:=by
 unfold FR
 rw[jQ_,h,qu_,qE_];rfl
def U3 (c R:α2)(r:Int):FR c (R++[r])=By c (FR c R) r:=by
 unfold FR
 rw[qE_];rfl
def QT (c:α2):∀(R ah:α2) (r:Int),r∈R.foldl (By c) ah->r∈ah\/r∈R
 |[],ah,r,h=>.inl h
 |q::R,ah,r,h=>by
  rcases QT c R _ r h with h|h
  ·unfold By at h
   split at h
   ·exact .inl h
   ·rcases jA_.mp h with h|h
    ·exact .inl h
    ·exact .inr (by rw[ju_.mp h];exact jp_ ..)
  ·exact .inr (jl_ _ h)
def FO   (h:r∈FR c R):r∈R:=(QT c R [] r h).resolve_left (by simp)
def NM (c R:α2):(FR c R).length<=R.length:=by
 have h:=jJ_ rL (Ii c R)
 have h2:=Js (R.map (cf c))
 unfold ncl at h2
 rw[ja_]at h h2
 lia
def mkR (aa:α2)(r:Int):Int:=aa.getD r.toNat 0
def hrow (c R:α2)(ab:α1)(r:Int):α2:=(ab.getD r.toNat []).map (hm c R)
def hm_F {c R:α2}{j:Nat}{r:Int}(h:(FR c R)[j]?=some r):hm c R r=j:=by
 have h1:(Ay (R.map (cf c)))[j]?=some (cf c r):=by rw[<-Ii,je_,h];rfl
 unfold hm
 obtain⟨hj,e⟩:=jc_.mp h1
 rw[<-e,(Be _).idxOf_getElem _ hj]
def F_hm   (h:r∈R):∃(j:Nat) (q:Int),j<(FR c R).length/\hm c R r=j/\(FR c R)[j]?=some q/\cf c q=cf c r:=by
 have cc:cf c r∈Ay (R.map (cf c)):=AM.mpr (q8_ h)
 have hi:=qO_ cc
 have hl:(FR c R).length=(Ay (R.map (cf c))).length:=by rw[<-Ii,ja_]
 refine⟨(Ay (R.map (cf c))).idxOf (cf c r),(FR c R)[(Ay (R.map (cf c))).idxOf (cf c r)]'s!"",by lia,rfl,by simp[hl,hi],?_⟩
 have e:((FR c R).map (cf c))[(Ay (R.map (cf c))).idxOf (cf c r)]?=some (cf c r):=by rw[Ii,jh_ hi,q2_]
 rw[je_,jh_ s!""]at e
 exact jq_ e
def hm_congr   (h:cf c r=cf c s):hm c R r=hm c R s:=by unfold hm;rw[h]
def Lr {c:α2}(p:Int->Int):∀Q:α2,Q.reverse.Pairwise (fun a b=>p a<p b)->(FR c Q.reverse).Pairwise (fun a b=>p a<p b)/\∀r∈Q.reverse,∃f∈FR c Q.reverse,cf c f=cf c r/\p f<=p r
 |[],_=>⟨rN,fun r hr=>by simp at hr⟩
 |q::Q,h=>by
  rw[t9]at h ⊢
  obtain⟨h1,_,h3⟩:=q4_.mp h
  obtain⟨i1,i2⟩:=Lr p Q h1
  rw[U3]
  unfold By
  by_cases hc:cf c q∈(FR c Q.reverse).map (cf c)
  ·rw[if_pos hc]
   refine⟨i1,fun r hr=>?_⟩
   rcases jA_.mp hr with hr|hr
   ·exact i2 r hr
   ·rw[ju_.mp hr]
    obtain⟨f,hf,e⟩:=jv_.mp hc
    exact⟨f,hf,e,xT_ (h3 f (FO hf) q (ju_.mpr rfl))⟩
  ·rw[if_neg hc]
   refine⟨q4_.mpr ⟨i1,sj _ _,fun a ha b hb=>?_⟩,fun r hr=>?_⟩
   ·exact h3 a (FO ha) b hb
   ·rcases jA_.mp hr with hr|hr
    ·obtain⟨f,hf,e⟩:=i2 r hr
     exact⟨f,qc_ _ hf,e⟩
    ·exact⟨r,jy_ _ hr,rfl,zy_ _⟩
def Sj  (p:Int->Int)(h:R.Pairwise (fun a b=>p a<p b)):(FR c R).Pairwise (fun a b=>p a<p b)/\∀r∈R,∃f∈FR c R,cf c f=cf c r/\p f<=p r:=by
 have:=Lr (c:=c) p R.reverse (by rw[q3_];exact h)
 rwa [q3_]at this
section
variable {L:Nat} {aa:α2} {ab:α1}
def Ls {c:α2}{n:Nat}(hc:c.length=n){r:Int}(h0:0<=r)(h1:r<(n:Int)):c[r.toNat]?=some (cf c r):=by
 unfold cf
 rw[jj_]
 simp[show r.toNat<c.length by lia]
def Wf.stp (wf:Wf L aa ab){r x:Int}(h0:0<=r)(h1:r<aa.length)(x0:0<=x)(x1:x<L):0<=Bu ab r x/\Bu ab r x<aa.length:=by
 obtain⟨_,g,_,_,e,a,b⟩:=wf.step h0 h1 x0 x1
 rw[e];exact⟨a,b⟩
def Hv (wf:Wf L aa ab){st:StC}(fin:Fin17 aa.length L (bW aa ab) st){r s:Int}(r0:0<=r)(r1:r<aa.length)(s0:0<=s)(s1:s<aa.length)(e:cf st.2 r=cf st.2 s):
  mkR aa r=mkR aa s/\∀x:Nat,x<L->cf st.2 (Bu ab r x)=cf st.2 (Bu ab s x):=by
 have ec:st.2[r.toNat]?=st.2[s.toNat]?:=by rw[Ls fin.wc.len r0 r1,Ls fin.wc.len s0 s1,e]
 have hr:r.toNat<aa.length:=by lia
 have hs:s.toNat<aa.length:=by lia
 have all:=(fin.wc.iff _ _ hr hs).mp ec
 have eR:((r.toNat:Nat):Int)=r:=by lia
 have eS:((s.toNat:Nat):Int)=s:=by lia
 refine⟨?_,fun x hx=>?_⟩
 ·have:=all [] (jd_ fin.wc.w0)
  unfold bW at this
  rw[eR,eS]at this
  exact this
 ·obtain⟨a0,a1⟩:=Wf.stp wf r0 r1 (show (0:Int)<=x by lia) s!""
  obtain⟨b0,b1⟩:=Wf.stp wf s0 s1 (show (0:Int)<=x by lia) s!""
  have:=(fin.wc.iff (Bu ab r x).toNat (Bu ab s x).toNat s!"" s!"").mpr fun w hw=>by
   have:=fin.told w hw x hx r.toNat s.toNat hr hs ec
   rw[Mu _ _ _ (by rw[eR];exact a0),Mu _ _ _ (by rw[eS];exact b0),eR,eS]at this
   exact this
  rw[Ls fin.wc.len a0 a1,Ls fin.wc.len b0 b1]at this
  exact jq_ this
def Mv (wf:Wf L aa ab){st:StC}(fin:Fin17 aa.length L (bW aa ab) st):∀(w:α2) {r s:Int},isW L w=true->0<=r->r<aa.length->0<=s->s<aa.length->cf st.2 r=cf st.2 s->mkR aa (Bv ab r w)=mkR aa (Bv ab s w)
 |[],r,s,_,r0,r1,s0,s1,e=>(Hv wf fin r0 r1 s0 s1 e).1
 |x::w,r,s,hw,r0,r1,s0,s1,e=>by
  obtain⟨hx,hw⟩:=Ke.mp hw
  obtain⟨a0,a1⟩:=Wf.stp wf r0 r1 hx.1 hx.2
  obtain⟨b0,b1⟩:=Wf.stp wf s0 s1 hx.1 hx.2
  rw[Bm,Bm]
  refine Mv wf fin w hw a0 a1 b0 b1 ?_
  have:=(Hv wf fin r0 r1 s0 s1 e).2 x.toNat s!""
  rwa [show ((x.toNat:Nat):Int)=x by lia]at this
def Jw (wf:Wf L aa ab){st:StC}(fin:Fin17 aa.length L (bW aa ab) st){r s:Int}(r0:0<=r)(r1:r<aa.length)(s0:0<=s)(s1:s<aa.length)(h:∀w,isW L w=true->mkR aa (Bv ab r w)=mkR aa (Bv ab s w)):cf st.2 r=cf st.2 s:=by
 have eR:((r.toNat:Nat):Int)=r:=by lia
 have eS:((s.toNat:Nat):Int)=s:=by lia
 have:=(fin.wc.iff r.toNat s.toNat s!"" s!"").mpr fun w hw=>by
  have:=h w (Av.mpr (fin.wc.ok w hw))
  unfold bW
  rw[eR,eS]
  exact this
 rw[Ls fin.wc.len r0 r1,Ls fin.wc.len s0 s1]at this
 exact jq_ this
end
def cOf (L:Nat)(aa:α2)(ab:α1):α2:=(wcOf aa.length L (bW aa ab)).2
def rOf (ab:α1):α2:=(Au ab).map (·.1)
def sF (L:Nat)(aa:α2)(ab:α1):α2:=FR (cOf L aa ab) (rOf ab)
def sM (L:Nat)(aa:α2)(ab:α1):α2:=(sF L aa ab).map (mkR aa)
def sW (L:Nat)(aa:α2)(ab:α1):α1:=(sF L aa ab).map (hrow (cOf L aa ab) (rOf ab) ab)
def hO (L:Nat)(aa:α2)(ab:α1)(r:Int):Int:=hm (cOf L aa ab) (rOf ab) r
section
variable {L:Nat} {aa:α2} {ab:α1}
def finO (wf:Wf L aa ab):Fin17 aa.length L (bW aa ab) (wcOf aa.length L (bW aa ab)):=Fin17.mk' wf.n1 wf.n40
def De (wf:Wf L aa ab)  (h:r∈rOf ab):0<=r/\r<aa.length:=by
 obtain⟨top,bf⟩:=Bfs.mk wf
 obtain⟨e,he,rfl⟩:=jv_.mp h
 exact bf.rng e he
def Gq (wf:Wf L aa ab){r x:Int}(h:r∈rOf ab)(x0:0<=x)(x1:x<L):Bu ab r x∈rOf ab:=by
 obtain⟨top,bf⟩:=Bfs.mk wf
 obtain⟨e,he,rfl⟩:=jv_.mp h
 obtain⟨j,hj⟩:=jN_.mp he
 obtain⟨e',h1,h2,_⟩:=bf.don j (jc_.mp hj).1 e hj x x0 x1
 rw[<-h2]
 exact q8_ h1
def QU (wf:Wf L aa ab):(rOf ab)[0]?=some 0:=by
 obtain⟨top,bf⟩:=Bfs.mk wf
 unfold rOf
 rw[je_,bf.hd];rfl
def QV (wf:Wf L aa ab):(rOf ab).length<=aa.length:=by
 obtain⟨top,bf⟩:=Bfs.mk wf
 unfold rOf
 rw[ja_];exact bf.len
def Kj (wf:Wf L aa ab):∀(w:α2) {r:Int},r∈rOf ab->isW L w=true->Bv ab r w∈rOf ab
 |[],r,h,_=>h
 |x::w,r,h,hw=>by
  obtain⟨hx,hw⟩:=Ke.mp hw
  rw[Bm]
  exact Kj wf w (Gq wf h hx.1 hx.2) hw
def GQ (wf:Wf L aa ab){j:Nat}{r:Int}(h:(sF L aa ab)[j]?=some r):r∈rOf ab/\0<=r/\r<aa.length/\hO L aa ab r=j:=by
 have h1:=FO (jd_ h)
 have:=De wf h1
 exact⟨h1,this.1,this.2,hm_F h⟩
def TC (wf:Wf L aa ab):(sF L aa ab).length<=aa.length:=qp_ (NM _ _) (QV wf)
def U4 (wf:Wf L aa ab)  (h:r∈rOf ab):∃(j:Nat) (q:Int),j<(sF L aa ab).length/\hO L aa ab r=j/\(sF L aa ab)[j]?=some q/\cf (cOf L aa ab) q=cf (cOf L aa ab) r:=F_hm h
def Wv (wf:Wf L aa ab)  (h:r∈rOf ab):0<=hO L aa ab r/\hO L aa ab r<(sF L aa ab).length:=by
 obtain⟨j,q,h1,h2,_⟩:=U4 wf h
 lia
def Ij (wf:Wf L aa ab):(0:Int)∈rOf ab:=jd_ (QU wf)
def QW (wf:Wf L aa ab):(sF L aa ab)[0]?=some 0:=by
 have h:=QU wf
 unfold sF
 cases hR:rOf ab with
 |nil=>rw[hR]at h;cases h
 |cons a R=>
  rw[hR]at h
  cases h
  unfold FR
  rw[q1_]
  have e:By (cOf L aa ab) [] 0=[0]:=by unfold By;simp
  rw[e]
  have:∀(R ah:α2),ah[0]?=some 0->(R.foldl (By (cOf L aa ab)) ah)[0]?=some 0:=fun R=>by
   induction R with
   |nil=>intro ah h;exact h
   |cons r R ih=>
    intro ah h
    refine ih _ ?_
    unfold By
    split
    ·exact h
    ·rw[jk_ (jc_.mp h).1];exact h
  exact this R [0] rfl
def Mw (wf:Wf L aa ab):hO L aa ab 0=0:=by
 have:=(GQ wf (QW wf)).2.2.2
 simpa using this
def Xh {j:Nat}{r:Int}(h:(sF L aa ab)[j]?=some r):(sM L aa ab)[j]?=some (mkR aa r):=by
 unfold sM;rw[ua,h];rfl
def Ww {j:Nat}{r:Int}(h:(sF L aa ab)[j]?=some r):(sW L aa ab)[j]?=some (hrow (cOf L aa ab) (rOf ab) ab r):=by
 unfold sW;rw[ua,h];rfl
def GR:(sM L aa ab).length=(sF L aa ab).length:=by unfold sM;rw[ja_]
def TF:(sW L aa ab).length=(sF L aa ab).length:=by unfold sW;rw[ja_]
def Wx    (h:ms[r.toNat]?=some m):mkR ms r=m:=by unfold mkR;rw[jj_,h];rfl
def TH   (h:r.toNat<ms.length):ms[r.toNat]?=some (mkR ms r):=by unfold mkR;rw[jj_];simp[h]
def Mx (wf:Wf L aa ab)  (h:r∈rOf ab):mkR (sM L aa ab) (hO L aa ab r)=mkR aa r:=by
 obtain⟨j,q,h1,h2,h3,h4⟩:=U4 wf h
 have hq:=GQ wf h3
 have hr:=De wf h
 rw[h2]
 rw[Wx (show (sM L aa ab)[((j:Nat):Int).toNat]?=some (mkR aa q) by rw[jg_];exact Xh h3)]
 exact (Hv wf (finO wf) hq.2.1 hq.2.2.1 hr.1 hr.2 h4).1
def Wy (wf:Wf L aa ab)  (h:r∈rOf ab):(sW L aa ab)[(hO L aa ab r).toNat]?=some ((ab.getD r.toNat []).map (hO L aa ab)):=by
 obtain⟨j,q,h1,h2,h3,h4⟩:=U4 wf h
 have hq:=GQ wf h3
 have hr:=De wf h
 rw[h2,jg_,Ww h3]
 congr 1
 unfold hrow
 obtain⟨row,a1,a2,a3⟩:=wf.row hq.2.1 hq.2.2.1
 obtain⟨dY,b1,b2,b3⟩:=wf.row hr.1 hr.2
 have e1:ab.getD q.toNat []=row:=by rw[jj_,a1];rfl
 have e2:ab.getD r.toNat []=dY:=by rw[jj_,b1];rfl
 rw[e1,e2]
 refine qT_ fun x=>?_
 by_cases hx:x<L
 ·have iH:x<row.length:=by lia
  have hxr':x<dY.length:=by lia
  rw[je_,je_,jh_ iH,jh_ hxr']
  show some (hm _ _ row[x])=some (hm _ _ dY[x])
  have c1:Bu ab q (x:Nat)=row[x]:=BH a1 (by rw[jg_];simp[iH])
  have c2:Bu ab r (x:Nat)=dY[x]:=BH b1 (by rw[jg_];simp[hxr'])
  have:=(Hv wf (finO wf) hq.2.1 hq.2.2.1 hr.1 hr.2 h4).2 x hx
  rw[c1,c2]at this
  exact jJ_ some (hm_congr this)
 ·rw[jU_ (by rw[ja_];lia),jU_ (by rw[ja_];lia)]
def U5 (wf:Wf L aa ab){r x:Int}(h:r∈rOf ab)(x0:0<=x)(x1:x<L):Bu (sW L aa ab) (hO L aa ab r) x=hO L aa ab (Bu ab r x):=by
 have hr:=De wf h
 obtain⟨row,b1,b2,b3⟩:=wf.row hr.1 hr.2
 have e2:ab.getD r.toNat []=row:=by rw[jj_,b1];rfl
 have h1:=Wy wf h
 rw[e2]at h1
 have iH:x.toNat<row.length:=by lia
 rw[BH b1 (show row[x.toNat]?=some row[x.toNat] by simp[iH])]
 exact BH h1 (by rw[je_,jh_ iH];rfl)
def Gr (wf:Wf L aa ab):∀(w:α2) {r:Int},r∈rOf ab->isW L w=true->Bv (sW L aa ab) (hO L aa ab r) w=hO L aa ab (Bv ab r w)
 |[],r,h,_=>rfl
 |x::w,r,h,hw=>by
  obtain⟨hx,hw⟩:=Ke.mp hw
  rw[Bm,Bm,U5 wf h hx.1 hx.2]
  exact Gr wf w (Gq wf h hx.1 hx.2) hw
def sWf (wf:Wf L aa ab):Wf L (sM L aa ab) (sW L aa ab):=by
 have hz:=QW wf
 refine⟨wf.l1,wf.l6,?_,?_,by rw[GR,TF],fun row hrow'=>?_,fun m lQ=>?_⟩
 ·rw[GR];have:=(jc_.mp hz).1;lia
 ·rw[GR];have:=TC wf;have:=wf.n40;lia
 ·obtain⟨j,hj⟩:=jN_.mp hrow'
  have fm:=(jc_.mp hj).1
  rw[TF]at fm
  have hq:=GQ wf (show (sF L aa ab)[j]?=some (sF L aa ab)[j] by simp[fm])
  rw[Ww (show (sF L aa ab)[j]?=some (sF L aa ab)[j] by simp[fm])]at hj
  have hj:=jq_ hj
  obtain⟨dY,b1,b2,b3⟩:=wf.row hq.2.1 hq.2.2.1
  have e2:ab.getD ((sF L aa ab)[j]).toNat []=dY:=by rw[jj_,b1];rfl
  unfold hrow at hj
  rw[e2]at hj
  subst hj
  refine⟨by rw[ja_];exact b3,fun x hx=>?_⟩
  obtain⟨g,hg,rfl⟩:=jv_.mp hx
  rw[GR]
  refine Wv wf ?_
  obtain⟨y,hy⟩:=jN_.mp hg
  have iI:=(jc_.mp hy).1
  have:=Gq wf hq.1 (x:=(y:Nat)) s!"" s!""
  rwa [BH b1 (by rw[jg_];exact hy)]at this
 ·unfold sM at lQ
  obtain⟨r,hr,rfl⟩:=jv_.mp lQ
  have:=De wf (FO hr)
  refine wf.mks _ (jd_ (TH (ms:=aa) (r:=r) s!""))
structure Can (L:Nat)(aa:α2)(ab:α1):Prop where
 wf:Wf L aa ab
 lw:∃u:Nat->α2,(∀j,j<aa.length->isW L (u j)=true/\Az ab (u j)=(j:Int))/\(∀v,isW L v=true->∀j:Nat,Az ab v=(j:Int)->place L (u j)<=place L v)/\(∀j k,j<k->k<aa.length->place L (u j)<place L (u k))
 red:∀i j:Nat,i<aa.length->j<aa.length->(∀w,isW L w=true->mkR aa (Bv ab i w)=mkR aa (Bv ab j w))->i=j
def wi (ab:α1)(r:Int):α2:=(((Au ab).find? fun e=>decide (e.1=r)).map (·.2)).getD []
def Sk {L:Int}{n:Nat}{top:Int}(bf:Bfs L n ab (Au ab) (Au ab).length top){e:Int×α2}(he:e∈Au ab):wi ab e.1=e.2:=by
 unfold wi
 cases hq:(Au ab).find? (fun e'=>decide (e'.1=e.1)) with
 |none=>
  rw[xX_]at hq
  have:=hq _ he
  simp at this
 |some e' =>
  have hk:=z4_ hq
  simp only[qy_]at hk
  obtain⟨i,hi,ei⟩:=jV_ (q9_ hq)
  obtain⟨j,hj,ej⟩:=jV_ he
  have ij:i=j:=(xV_ (h₀:=by simpa using hi) (h₁:=by simpa using hj) bf.nod).mp (by simp[ei,ej,hk])
  subst ij
  rw[<-ei,ej];rfl
def TJ {L:Int}{n:Nat}{top:Int}(bf:Bfs L n ab (Au ab) (Au ab).length top):(rOf ab).Pairwise (fun a b=>place L (wi ab a)<place L (wi ab b)):=by
 unfold rOf
 rw[xO_,xE_]
 intro i j hi hj aW
 rw[Sk bf (j1_ hi),Sk bf (j1_ hj)]
 exact bf.inc i j _ _ aW (by simp[hi]) (by simp[hj])
def Wz {α:Type}{R:α->α->Prop}{l:List α}(h:l.Pairwise R){i j:Nat}{a b:α}(aW:i<j)(ha:l[i]?=some a)(hb:l[j]?=some b):R a b:=by
 obtain⟨h1,rfl⟩:=jc_.mp ha
 obtain⟨h2,rfl⟩:=jc_.mp hb
 exact xE_.mp h i j h1 h2 aW
def WA (wf:Wf L aa ab)  (h:r∈rOf ab):isW L (wi ab r)=true/\Az ab (wi ab r)=r:=by
 obtain⟨top,bf⟩:=Bfs.mk wf
 obtain⟨e,he,rfl⟩:=jv_.mp h
 rw[Sk bf he]
 exact bf.wd e he
def Kk (wf:Wf L aa ab)  (hv:isW L v=true):Az ab v∈rOf ab/\place L (wi ab (Az ab v))<=place L v:=by
 obtain⟨top,bf⟩:=Bfs.mk wf
 obtain⟨w',h1,h2⟩:=bf.least hv v.length (ji_ _)
 rw[jO_]at h1 h2
 have:=Sk bf h1
 exact⟨jv_.mpr ⟨_,h1,rfl⟩,by rw[show wi ab (Az ab v)=w' from this];exact h2⟩
def sCan (wf:Wf L aa ab):Can L (sM L aa ab) (sW L aa ab):=by
 obtain⟨top,bf⟩:=Bfs.mk wf
 obtain⟨f1,f2⟩:=Sj (c:=cOf L aa ab) (fun r=>place L (wi ab r)) (TJ bf)
 have mV:∀{j:Nat},j<(sF L aa ab).length->(sF L aa ab)[j]?=some ((sF L aa ab).getD j 0):=fun {j} hj=>by rw[jj_];simp[hj]
 refine⟨sWf wf,⟨fun j=>wi ab ((sF L aa ab).getD j 0),fun j hj=>?_,fun v hv j hj=>?_,fun j k ji hk=>?_⟩,fun i j hi hj aA=>?_⟩
 ·rw[GR]at hj
  have hq:=GQ wf (mV hj)
  have:=WA wf hq.1
  refine⟨this.1,?_⟩
  have h2:=Gr wf (wi ab ((sF L aa ab).getD j 0)) (Ij wf) this.1
  rw[Mw wf,BJ,BJ,this.2,hq.2.2.2]at h2
  exact h2
 ·obtain⟨h1,h2⟩:=Kk wf hv
  have h3:=Gr wf v (Ij wf) hv
  rw[Mw wf,BJ,BJ,hj]at h3
  obtain⟨f,hf,hc,hp⟩:=f2 _ h1
  obtain⟨i,hi⟩:=jN_.mp hf
  have hi':=(GQ wf hi).2.2.2
  have e:hO L aa ab f=hO L aa ab (Az ab v):=hm_congr hc
  rw[hi',<-h3]at e
  have e':i=j:=by lia
  subst e'
  show place L (wi ab ((sF L aa ab).getD i 0))<=_
  rw[jj_,show (sF L aa ab)[i]?=some f from hi]
  exact vC hp h2
 ·rw[GR]at hk
  exact Wz f1 ji (mV s!"") (mV hk)
 ·rw[GR]at hi hj
  have qi:=GQ wf (mV hi)
  have qj:=GQ wf (mV hj)
  have:=Jw wf (finO wf) qi.2.1 qi.2.2.1 qj.2.1 qj.2.2.1 fun w hw=>by
   have:=aA w hw
   rw[<-qi.2.2.2,<-qj.2.2.2,Gr wf w qi.1 hw,Gr wf w qj.1 hw,Mx wf (Kj wf w qi.1 hw),Mx wf (Kj wf w qj.1 hw)]at this
   exact this
  have e:hO L aa ab ((sF L aa ab).getD i 0)=hO L aa ab ((sF L aa ab).getD j 0):=hm_congr this
  rw[qi.2.2.2,qj.2.2.2]at e
  lia
def WB (wf:Wf L aa ab)  (hv:isW L v=true):mkR (sM L aa ab) (Az (sW L aa ab) v)=mkR aa (Az ab v):=by
 have h:=Gr wf v (Ij wf) hv
 rw[Mw wf,BJ,BJ]at h
 rw[h,Mx wf]
 have:=Kj wf v (Ij wf) hv
 rwa [BJ]at this
end
def Wf.walk' {L:Nat}{aa:α2}{ab:α1}(wf:Wf L aa ab){w:α2}(hw:isW L w=true):0<=Az ab w/\Az ab w<aa.length:=by
 have:=wf.walk hw w.length
 rwa [jO_]at this
section
variable {L:Nat} {m1 m2:α2} {w1 w2:α1}
def TL:∀{l m:α2},l.Pairwise (· < ·)->m.Pairwise (· < ·)->(∀x,x∈l↔x∈m)->l=m
 |[],[],_,_,_=>rfl
 |[],y::m,_,_,h=>absurd ((h y).mpr (jp_ ..)) (by simp)
 |x::l,[],_,_,h=>absurd ((h x).mp (jp_ ..)) (by simp)
 |x::l,y::m,hl,hm,h=>by
  obtain⟨l1,l2⟩:=List.pairwise_cons.mp hl
  obtain⟨k1,k2⟩:=List.pairwise_cons.mp hm
  have pF:x=y:=by
   have h1:=(h x).mp (jp_ ..)
   have h2:=(h y).mpr (jp_ ..)
   rcases jD_.mp h1 with h1|h1
   ·exact h1
   ·rcases jD_.mp h2 with h2|h2
    ·exact h2.symm
    ·have:=l1 y h2
     have:=k1 x h1
     lia
  subst pF
  congr 1
  refine TL l2 k2 fun z=>⟨fun hz=>?_,fun hz=>?_⟩
  ·rcases jD_.mp ((h z).mp (jl_ _ hz)) with e|e
   ·have:=l1 z hz;lia
   ·exact e
  ·rcases jD_.mp ((h z).mpr (jl_ _ hz)) with e|e
   ·have:=k1 z hz;lia
   ·exact e
def Can.order (c:Can L m1 w1):rOf w1=(rq m1.length).map fun j:Nat=>(j:Int):=by
 obtain⟨u,p,q,s⟩:=c.lw
 obtain⟨top,bf⟩:=Bfs.mk c.wf
 have hL:(0:Int)<L:=by have:=c.wf.l1;lia
 have pl:∀r∈rOf w1,place L (wi w1 r)=place L (u r.toNat):=fun r hr=>by
  have cC:=De c.wf hr
  obtain⟨a,b⟩:=WA c.wf hr
  have g1:=q _ a r.toNat s!""
  obtain⟨a',b'⟩:=p r.toNat s!""
  obtain⟨_,g2⟩:=Kk c.wf a'
  rw[b',xr_ cC.1]at g2
  lia
 refine TL ?_ ?_ fun x=>⟨fun hx=>?_,fun hx=>?_⟩
 ·have h1:=TJ bf
  refine rX (fun {a b} ha hb b9=>?_) h1
  have ra:=De c.wf ha
  have rb:=De c.wf hb
  rw[pl a ha,pl b hb]at b9
  refine Int.lt_of_not_ge fun bC=>?_
  rcases qZ_ b.toNat a.toNat with aq|hge'
  ·have:=s b.toNat a.toNat aq s!""
   lia
  ·have:a.toNat=b.toNat:=by lia
   rw[this]at b9
   lia
 ·rw[xO_]
  exact wz (fun h=>by lia) List.pairwise_lt_range
 ·have:=De c.wf hx
  exact jv_.mpr ⟨x.toNat,jE_.mpr s!"",by lia⟩
 ·obtain⟨j,hj,rfl⟩:=jv_.mp hx
  obtain⟨a,b⟩:=p j (jE_.mp hj)
  have:=(Kk c.wf a).1
  rwa [b]at this
end
end L2
set_option maxHeartbeats 1000000
set_option maxHeartbeats 4000000
namespace L2
open PySem PySem.Spec PyProof.Rows
def Ax  : Cf X (.type "tuple") (fun xs H Q=>∃p ys,xs=[.ref p]/\((SqL X.K H p ys/\∀l,H l=none->Q (.ref l) (upd H l (.tup ys)))\/False)):=fun ae s σ H xs us Q I r h=>by
 obtain⟨p,ys,e,h|h⟩:=h
 ·exact J1 ae s σ H xs us Q I r ⟨p,ys,e,.inl h⟩
 ·exact h.elim
def DB  {K:α3}(h:X.K=K):Cf X (.type "tuple") (fun xs H Q=>∃p ys,xs=[.ref p]/\((SqL K H p ys/\∀l,H l=none->Q (.ref l) (upd H l (.tup ys)))\/False)):=by subst h;exact Ax
def len1 {α:Type}{us:List α}(h:us.length=1):∃a,us=[a]:=by match us,h with|[a],_=>exact⟨a,rfl⟩
def len2 {α:Type}{us:List α}(h:us.length=2):∃a b,us=[a,b]:=by match us,h with|[a,b],_=>exact⟨a,b,rfl⟩
def len3 {α:Type}{us:List α}(h:us.length=3):∃a b c,us=[a,b,c]:=by match us,h with|[a,b,c],_=>exact⟨a,b,c,rfl⟩
def QX (u:TS)(D:Ends):St->Hp->Prop:=u D
def WD (t u:TS):TS:=fun D σ H=>t {D with nx:=QX u D} σ H
theorem TM     : WD t u D σ H=t {D with nx:=QX u D} σ H:=rfl
def Sl     (h:u D σ H):QX u D σ H:=h
def Sm  {st:Stmt}{rest:List Stmt}  (h1:PS X st t)(h2:PSs X rest u):PSs X (st::rest) (WD t u):=Ac h1 h2
end L2
set_option maxHeartbeats 1000000
set_option maxHeartbeats 4000000
namespace L2
open PySem PySem.W PySem.Spec PySem.Calls PyProof.Rows
def vD:Option (Option V)->(V->Prop)->Prop
 |some (some v),q=>q v
 |_,_=>False
theorem QY   : vD (some (some v)) q=q v:=rfl
def Xi   (h:vD o q):∃v,o=some (some v)/\q v:=by
 match o,h with
 |some (some v),h=>exact⟨v,rfl,h⟩
def OB (i:Nat):TE:=fun σ H Q=>vD σ[i]? fun v=>Q v H
theorem TN     : OB i σ H Q=vD σ[i]? fun v=>Q v H:=rfl
def pvD  (i:Nat)   (hN:X.N[i]?=some x:=by rfl)(hv:Vis X.env.scope x:=by first|exact rC rfl|exact rG (rC rfl)|exact rG (rG rfl))(hd:(x==("__debug__" : Str))=false:=by decide)
  (b8:(x==("__classdict__" : Str))=false:=by decide):PE X (.Name x pos) (OB i):=fun ae s σ H Q I h=>pv i hN hv hd b8 ae s σ H Q I (Xi h)
def iD:V->V->(Int->Int->Prop)->Prop
 |.int i,.int j,q=>q i j
 |x,y,q=>∃i j,x=.int i/\y=.int j/\q i j
theorem TQ   : iD (.int i) (.int j) q=q i j:=rfl
def U6   : iD x y q=∃i j,x=.int i/\y=.int j/\q i j:=by
 cases x<;>cases y<;>first|rfl|(simp[iD])
def rID (C:Int->Int->Prop)(g:Int->Int->V):R2:=fun x y H Q=>iD x y fun i j=>C i j/\Q (g i j) H
def rI0D (g:Int->Int->V):R2:=fun x y H Q=>iD x y fun i j=>Q (g i j) H
theorem r_ID      : rID C f x y H Q=iD x y fun i j=>C i j/\Q (f i j) H:=rfl
theorem WE     : rI0D f x y H Q=iD x y fun i j=>Q (f i j) H:=rfl
def WG   : rID C g=rI C g:=by
 funext x y H Q;exact U6
def U7  : rI0D g=rI0 g:=by
 funext x y H Q;exact U6
def opD     (h:OpR X f (rI C g)):OpR X f (rID C g):=by rw[WG];exact h
def opD0    (h:OpR X f (rI0 g)):OpR X f (rI0D g):=by rw[U7];exact h
def bD:V->(Bool->Prop)->Prop
 |.bl c,q=>q c
 |x,q=>∃c,x=.bl c/\q c
theorem WH   : bD (.bl c) q=q c:=rfl
def WI   : bD x q=∃c,x=.bl c/\q c:=by
 cases x<;>first|rfl|(simp[bD])
def tBD (t:TE):TT:=fun σ H Q=>t σ H fun x H1=>bD x fun c=>Q c H1
theorem r_BD     : tBD te σ H R=te σ H fun x H1=>bD x fun c=>R c H1:=rfl
def TR  : tBD t=tB t:=by
 funext σ H Q
 show t σ H _=t σ H _
 congr 1
 funext x H1;exact WI
def U8  : tBD t=RI t:=TR
def ptB    (h:PT X e (tB t)):PT X e (tBD t):=by rw[TR];exact h
def ptT    (h:PT X e (RI t)):PT X e (tBD t):=by rw[U8];exact h
def eD:V->V->Prop->Prop
 |.int _,.int _,q=>q
 |.str _,.str _,q=>q
 |.non,.non,q=>q
 |.bl _,.bl _,q=>q
 |x,y,q=>scal x y=true/\q
theorem TU   : eD (.int i) (.int j) q=q:=rfl
theorem TV   : eD (.str i) (.str j) q=q:=rfl
theorem TX  : eD .non .non q=q:=rfl
theorem WJ   : eD (.bl i) (.bl j) q=q:=rfl
def U9   : eD x y q=(scal x y=true/\q):=by
 cases x<;>cases y<;>first|rfl|(simp[eD,scal])
def rEqF:R2:=fun x y H Q=>eD x y (Q (.bl (decide (x=y))) H)
def rNeF:R2:=fun x y H Q=>eD x y (Q (.bl (!decide (x=y))) H)
theorem WK    : rEqF x y H Q=eD x y (Q (.bl (decide (x=y))) H):=rfl
theorem WL    : rNeF x y H Q=eD x y (Q (.bl (!decide (x=y))) H):=rfl
def Va:rEqF=rEq:=by funext x y H Q;exact U9
def Vb:rNeF=rNe:=by funext x y H Q;exact U9
def opE   (h:OpR X f rEq):OpR X f rEqF:=by rw[Va];exact h
def opN   (h:OpR X f rNe):OpR X f rNeF:=by rw[Vb];exact h
def aD:V->(Addr->Prop)->Prop
 |.ref a,q=>q a
 |x,q=>∃a,x=.ref a/\q a
theorem TY   : aD (.ref a) q=q a:=rfl
def Sn   : aD x q=∃a,x=.ref a/\q a:=by
 cases x<;>first|rfl|(simp[aD])
def nD:V->(Int->Prop)->Prop
 |.int a,q=>q a
 |x,q=>∃a,x=.int a/\q a
theorem TZ   : nD (.int a) q=q a:=rfl
def QZ   : nD x q=∃a,x=.int a/\q a:=by
 cases x<;>first|rfl|(simp[nD])
def Vc (K:α3):R2:=fun x y H Q=>aD x fun p=>∃xs,nD y fun i=>SqT K H p xs/\∃v,atI xs i=some v/\Q v H
def So (K:α3):R2:=fun x y H Q=>aD x fun p=>∃xs,nD y fun i=>SqL K H p xs/\∃v,atI xs i=some v/\Q v H
theorem T1 {K:α3}    : Vc K x y H Q=aD x fun p=>∃xs,nD y fun i=>SqT K H p xs/\∃v,atI xs i=some v/\Q v H:=rfl
theorem T2 {K:α3}    : So K x y H Q=aD x fun p=>∃xs,nD y fun i=>SqL K H p xs/\∃v,atI xs i=some v/\Q v H:=rfl
def Sq {K:α3}:Vc K=rIxT K:=by
 funext x y H Q
 show aD x _=∃p xs i v,_
 rw[Sn]
 refine propext ⟨fun ⟨p,e,h⟩=>?_,fun ⟨p,xs,i,v,e1,e2,e3,e4,e5⟩=>⟨p,e1,?_⟩⟩
 ·obtain⟨xs,h⟩:=h
  rw[QZ]at h
  obtain⟨i,e2,e3,v,e4,e5⟩:=h
  exact⟨p,xs,i,v,e,e2,e3,e4,e5⟩
 ·refine⟨xs,?_⟩
  rw[QZ]
  exact⟨i,e2,e3,v,e4,e5⟩
def Sr {K:α3}:So K=rIxL K:=by
 funext x y H Q
 show aD x _=∃p xs i v,_
 rw[Sn]
 refine propext ⟨fun ⟨p,e,h⟩=>?_,fun ⟨p,xs,i,v,e1,e2,e3,e4,e5⟩=>⟨p,e1,?_⟩⟩
 ·obtain⟨xs,h⟩:=h
  rw[QZ]at h
  obtain⟨i,e2,e3,v,e4,e5⟩:=h
  exact⟨p,xs,i,v,e,e2,e3,e4,e5⟩
 ·refine⟨xs,?_⟩
  rw[QZ]
  exact⟨i,e2,e3,v,e4,e5⟩
def ixTD  {K:α3}(h:IxR X (rIxT K)):IxR X (Vc K):=by rw[Sq];exact h
def ixLD  {K:α3}(h:IxR X (rIxL K)):IxR X (So K):=by rw[Sr];exact h
def lD1:List V->(V->Prop)->Prop
 |[x],q=>q x
 |xs,q=>∃x,xs=[x]/\q x
theorem Q0   : lD1 [x] q=q x:=rfl
def WM   : lD1 xs q=∃x,xs=[x]/\q x:=by
 match xs with
 |[]=>rfl
 |[x]=>simp[lD1]
 |x::y::r=>rfl
def Vd (K:α3):List V->Hp->VK->Prop:=fun xs H Q=>lD1 xs fun x=>aD x fun p=>∃ys,(SqL K H p ys\/SqT K H p ys)/\Q (.int ys.length) H
theorem T3 {K:α3}    : Vd K xs H Q=lD1 xs fun x=>aD x fun p=>∃ys,(SqL K H p ys\/SqT K H p ys)/\Q (.int ys.length) H:=rfl
def lenD  {K:α3}  (h:Cf X f (fun xs H Q=>∃p ys,xs=[.ref p]/\(SqL K H p ys\/SqT K H p ys)/\Q (.int ys.length) H)):Cf X f (Vd K):=by
 have e:Vd K=fun xs H Q=>∃p ys,xs=[.ref p]/\(SqL K H p ys\/SqT K H p ys)/\Q (.int ys.length) H:=by
  funext xs H Q
  show lD1 xs _=_
  rw[WM]
  refine propext ⟨fun ⟨x,e,h⟩=>?_,fun ⟨p,ys,e,h1,h2⟩=>⟨_,e,ys,h1,h2⟩⟩
  rw[Sn]at h
  obtain⟨p,rfl,ys,h1,h2⟩:=h
  exact⟨p,ys,e,h1,h2⟩
 rw[e];exact h
def Ak       (hN:X.N.Nodup)(he:PE X e te)(hi:X.N[i]?=some x:=by rfl)(hx:Loc X.env.scope x:=by exact rC rfl)(hs:swapsWith e (some (.Name x cD)) pos.line X.env=pure false:=by rfl)(hf:X.fn x=true\/X.env.scope.names.lookup x=some .local:=by first|exact .inl rfl|exact .inr rfl|assumption):PS X (.Assign [.Name x cD] e pos) (tAsg te (Gf i)):=Bk hN hi hx he hs hf
def Ag      (hr:IxR X r)(ha:PE X a ta)(hb:PE X b tb)(hs:Po b:=by exact fun _ _=>rfl):PE X (.Subscript a b pos) (tOp r ta tb):=VT hr ha hb hs
end L2
namespace PySem
open Sem (wp)
structure VKind (prog:Program)(w:World)(K:Type)[DecidableEq K] where
 is:Heap->K->Value->Prop
 hash:K->Int
 draws:K->Nat
 room:Around->Prop
 inj:∀{h:Heap} {a:Value} {x y:K},is h x a->is h y a->x=y
 keeps:∀{h h':Heap} {k:K} {a:Value} {d:Addr} {o:Obj} {es ep},is h k a->h.get? d=some o->o.data=.dict es ep->Heap.SameBut d h h'->is h' k a
 pyHash:∀{A:Around} {E:Value->Shared->Prop} {s:Shared} {k:K} {a:Addr} {Q:Int->Shared->Prop},room A->is s.heap k (.ref a)->Q (hash k) {s with toks:=s.toks+draws k}->wpAny (model prog w) A (PySem.pyHash (.ref a)) Q E s
 eqBool:∀{A:Around} {E:Value->Shared->Prop} {s:Shared} {x y:K} {u:Value} {b:Addr} {Q:Bool->Shared->Prop},room A->is s.heap x u->is s.heap y (.ref b)->Q (decide (x=y)) s->wpAny (model prog w) A (PySem.eqBool u (.ref b)) Q E s
 quiet:∀{A:Around} {E:Value->Shared->Prop} {s:Shared} {k:K} {a:Value} {Q:Bool->Shared->Prop},room A->is s.heap k a->Q true s->wpAny (model prog w) A (eqIsQuiet 8 a) Q E s
abbrev NI:=Int ⊕ α2
abbrev NK:=Option (List NI)
end PySem
namespace L2
open PySem PySem.W PySem.Spec PySem.Calls PyProof.Rows
def TSq (K:α3)(H H':Hp):Prop:=∀b ys,SqT K H b ys->SqT K H' b ys
def TSq.un {K:α3}    (h1:∀xs,H p≠some (.tup xs))(h2:∀ob xs,H p≠some (.frz ob (.tup xs))):TSq K H (upd H p o):=fun b ys e=>by
 rcases e with (e|⟨ob,e⟩)|e
 ·exact .inl (.inl (by rw[Aj (fun z=>by rw[z]at e;exact h1 _ e)];exact e))
 ·exact .inl (.inr ⟨ob,by rw[Aj (fun z=>by rw[z]at e;exact h2 _ _ e)];exact e⟩)
 ·exact .inr e
end L2
namespace aS
open PySem PyProof.Rows
def KE (κ:KeyKind)(x:Keyed):κ.α:=(κ.keyOf x.1).getD κ.dflt
def Ss     (h:xs[i]?=some x):KK κ xs i=KE κ x:=by unfold KK KE;rw[h]
structure SB (kd:SortKind)(a₀:Array Keyed)(st:SortSt):Prop where
 perm:(arrOf st).Perm a₀
 kind:kindOf st=kd
 failed:failedOf st=none
def SB.size   {st:SortSt}(h:SB kd a₀ st):(arrOf st).size=a₀.size:=h.perm.size_eq
def SB.setArr   {st:SortSt}(h:SB kd a₀ st)  (hp:xs.Perm (arrOf st)):SB kd a₀ (vX st xs):=⟨hp.trans h.perm,h.kind,h.failed⟩
def SB.mem   {st:SortSt}(h:SB kd a₀ st)  (hx:x∈(arrOf st).toList):x∈a₀.toList:=(x5_.mp h.perm).mem_iff.mp hx
def SB.get   {st:SortSt}(h:SB kd a₀ st)  (hi:i<a₀.size):∃x,(arrOf st)[i]?=some x/\x∈a₀.toList:=by
 have hi':i<(arrOf st).size:=by rw[h.size];exact hi
 exact⟨(arrOf st)[i],getElem?_pos _ i hi',h.mem (by simp)⟩
def LtOk (kd:SortKind)(κ:KeyKind)(a₀:Array Keyed)(prog:Program)(w:World)(A:Around)(E:Value->Shared->Prop)(s:Shared):Prop:=
 ∀(x y:Keyed) (st:SortSt) (Q:Option Bool->SortSt->Prop),x∈a₀.toList->y∈a₀.toList->kindOf st=kd->Q (some (κ.blt (KE κ x) (KE κ y))) st->wpS (model prog w) A E s (lt' x y) Q st
def SO (κ:KeyKind)(xs:Array Keyed)(lo hi:Nat):Prop:=∀i j,lo<=i->i<=j->j<hi->κ.kle (KK κ xs i) (KK κ xs j)
def NI (κ:KeyKind)(xs:Array Keyed)(lo hi:Nat):Prop:=∀i j,lo<=i->i<=j->j<hi->κ.kle (KK κ xs j) (KK κ xs i)
def Out (lo hi:Nat)(xs ys:Array Keyed):Prop:=∀i,i<lo\/hi<=i->ys[i]?=xs[i]?
def Out.refl (lo hi:Nat)(xs:Array Keyed):Out lo hi xs xs:=fun _ _=>rfl
def Out.trans {lo hi:Nat}  (h:Out lo hi xs ys)(g:Out lo hi ys zs):Out lo hi xs zs:=fun i hi=>(g i hi).trans (h i hi)
def Jx  {lo hi i j:Nat}(hj:j<=xs.size)(h1:lo<=i)(h2:j<=hi):Out lo hi xs (mirror xs i j ((j-i) / 2)):=fun k hk=>by
 rw[getElem?_mirror_all hj,if_neg s!""]
def OC  {lo hi mW d:Nat}(hs:mW<xs.size)(hd:d<=mW)(h1:lo<=mW-d)(h2:mW<hi):Out lo hi xs (bubble xs mW d):=fun k hk=>by
 rw[getElem?_bubble hs d hd,if_neg s!"",if_neg s!""]
section
variable {prog:Program} {w:World} {A:Around} {E:Value->Shared->Prop} {s:Shared} {a₀:Array Keyed} {κ:KeyKind} {kd:SortKind}
def Ik {st:SortSt}   (hO:LtOk kd κ a₀ prog w A E s)(hB:SB kd a₀ st)(hi:i<a₀.size)(hj:j<a₀.size)(h:Q (some (κ.blt (KK κ (arrOf st) i) (KK κ (arrOf st) j))) st):wpS (model prog w) A E s (ltAt' i j) Q st:=by
 obtain⟨x,e1,hx⟩:=hB.get hi
 obtain⟨y,e2,hy⟩:=hB.get hj
 rw[Ss e1,Ss e2]at h
 rw[ltAt'_eq]
 refine jB_ (wpS_get ?_)
 show wpS _ _ _ _ (do let x <- elem' (arrOf st) i;let y <- elem' (arrOf st) j;lt' x y) Q st
 rw[elem'_eq,elem'_eq,e1,e2]
 exact jB_ (jI_ (jB_ (jI_ (hO x y st Q hx hy hB.kind h))))
def ascL (lo a ak:Nat):StateT SortSt Sem AscSt:=
 forIn [a:ak] ((none,a):AscSt) fun _ jm=>do
  let __x <- ltAt' (lo+jm.snd) (lo+jm.snd-1)
  match __x with
  |some aM=>if aM=true then pure (uM (none,jm.snd)) else pure (rD (none,jm.snd+1))
  |_=>pure (uM (some none,jm.snd))
def T4 {st:SortSt}{lo a ak:Nat}  (hO:LtOk kd κ a₀ prog w A E s)(hn:lo+ak<=a₀.size)(ha:1<=a)(han:a<=ak)(hB:SB kd a₀ st)(hs:SO κ (arrOf st) lo (lo+a))
  (h:∀n,a<=n->n<=ak->SO κ (arrOf st) lo (lo+n)->(n=ak\/κ.klt (KK κ (arrOf st) (lo+n)) (KK κ (arrOf st) (lo+n-1)))->Q (none,n) st):
  wpS (model prog w) A E s (ascL lo a ak) Q st:=by
 unfold ascL
 refine qP_ (I:=fun x c ag=>ag=st/\c=(none,x)/\SO κ (arrOf st) lo (lo+x)) ?step ?fin ⟨rfl,rfl,hs⟩
 case fin=>
  rintro c ag ⟨rfl,rfl,bF⟩
  rw[show max a ak=ak by lia]at bF ⊢
  exact h ak han (ji_ _) bF (.inl rfl)
 case step=>
  rintro x c ag pS hxn ⟨rfl,rfl,bF⟩
  dsimp only
  refine jB_ (Ik hO hB s!"" s!"" ?_)
  cases bU:κ.blt (KK κ (arrOf ag) (lo+x)) (KK κ (arrOf ag) (lo+x-1))
  case true=>
   simp only[xB_]
   exact jI_ (h x pS s!"" bF (.inr bU))
  case false=>
   simp only[jS_,qS_]
   refine jI_ ⟨rfl,rfl,fun i j hl aW hj=>?_⟩
   by_cases jk:j<lo+x
   ·exact bF i j hl aW jk
   ·have cB:j=lo+x:=by lia
    subst cB
    by_cases hi':i=lo+x
    ·subst hi';exact qQ_ _
    ·exact xh_ (bF i (lo+x-1) hl s!"" s!"") bU
def My (lo n ak:Nat):StateT SortSt Sem (Option Nat):=do
 reverseSlice' lo (lo+n)
 let jm <- ascL lo n ak
 match jm.fst with
 |some r=>pure r
 |none=>pure (some jm.snd)
def EX {st:SortSt}   (h:Q () (setArr st (mirror (arrOf st) i j ((j-i) / 2)))):wpS (model prog w) A E s (reverseSlice' i j) Q st:=by
 rw[reverseSlice'_eq];exact zT_ h
def Ve {st:SortSt}{lo n ak:Nat}  (hO:LtOk kd κ a₀ prog w A E s)(hn:lo+ak<=a₀.size)(h1:1<=n)(fS:n<=ak)(hB:SB kd a₀ st)(hs:NI κ (arrOf st) lo (lo+n))
  (h:∀m ag,SB kd a₀ ag->pendingOf ag=pendingOf st->Out lo (lo+ak) (arrOf st) (arrOf ag)->1<=m->m<=ak->SO κ (arrOf ag) lo (lo+m)->Q (some m) ag):
  wpS (model prog w) A E s (My lo n ak) Q st:=by
 unfold My
 have hsz:lo+n<=(arrOf st).size:=by rw[hB.size];lia
 refine jB_ (EX ?_)
 have fq:SB kd a₀ (setArr st (mirror (arrOf st) lo (lo+n) ((lo+n-lo) / 2))):=hB.setArr (mirror_perm _ _ _ _)
 refine jB_ (T4 hO hn h1 fS fq ?_ fun m jo hZ hsm _=>jI_ (h m _ fq rfl (Jx hsz (ji_ _) s!"") s!"" hZ hsm))
 intro i j hl aW hj
 show κ.kle (KK κ (mirror (arrOf st) lo (lo+n) ((lo+n-lo) / 2)) i) (KK κ (mirror (arrOf st) lo (lo+n) ((lo+n-lo) / 2)) j)
 rw[KK_mirror hsz,KK_mirror hsz,if_pos s!"",if_pos s!""]
 exact hs _ _ s!"" s!"" s!""
end
end aS
namespace aS
open PySem PyProof.Rows
def B3:Bool->Keyed->Array Keyed->Nat->Nat->Nat->StateT SortSt Sem (Option Nat):=sortPriv% PySem.Builtin.gallop
def Jy (left:Bool)(key:Keyed)(arr:Array Keyed)(base i:Nat):StateT SortSt Sem (Option Bool):=do
 let x <- elem' arr (base+i)
 if left then lt' x key else return ( <- lt' key x).map (!·)
def Su (left:Bool)(key:Keyed)(arr:Array Keyed)(base n lo hi:Nat):StateT SortSt Sem (Option Nat):=do
 let mut lo:=lo
 let mut hi:=hi
 for _ in [0:n] do
  if lo >= hi then break
  let m:=lo+(hi-lo) / 2
  let some more <- Jy left key arr base m|return none
  if more then lo:=m+1 else hi:=m
 return some hi
def OD (left:Bool)(key:Keyed)(arr:Array Keyed)(base n hint:Nat):B3 left key arr base n hint=(do
 let some right <- Jy left key arr base hint|return none
 if right then
  let mut lastofs:=0
  let mut ofs:=1
  for _ in [0:n] do
   if ofs >= n-hint then break
   let some more <- Jy left key arr base (hint+ofs)|return none
   if !more then break
   lastofs:=ofs
   ofs:=2*ofs+1
  Su left key arr base n (hint+lastofs+1) (hint+min ofs (n-hint))
 else
  let mut lastofs:=0
  let mut ofs:=1
  for _ in [0:n] do
   if ofs >= hint+1 then break
   let some found <- Jy left key arr base (hint-ofs)|return none
   if found then break
   lastofs:=ofs
   ofs:=2*ofs+1
  Su left key arr base n (hint+1-min ofs (hint+1)) (hint-lastofs)):=rfl
section
variable {prog:Program} {w:World} {A:Around} {E:Value->Shared->Prop} {s:Shared} {a₀:Array Keyed} {κ:KeyKind} {kd:SortKind}
def gB (κ:KeyKind)(left:Bool)(key:Keyed)(arr:Array Keyed)(base i:Nat):Bool:=if left then κ.blt (KK κ arr (base+i)) (KE κ key) else !κ.blt (KE κ key) (KK κ arr (base+i))
def InA (a₀ arr:Array Keyed)(base n:Nat):Prop:=∀i,i<n->∃x,arr[base+i]?=some x/\x∈a₀.toList
def FP     {st:SortSt}  (hO:LtOk kd κ a₀ prog w A E s)(hk:kindOf st=kd)(bM:key∈a₀.toList)(hA:InA a₀ arr base n)(hi:i<n)(h:Q (some (gB κ left key arr base i)) st):
  wpS (model prog w) A E s (Jy left key arr base i) Q st:=by
 obtain⟨x,e,hx⟩:=hA i hi
 unfold Jy
 rw[elem'_eq,e]
 refine jB_ (jI_ ?_)
 unfold gB at h
 rw[Ss e]at h
 cases left with
 |true=>exact hO x key st Q hx bM hk h
 |false=>
  refine jB_ (hO key x st _ bM hx hk ?_)
  exact jI_ h
def Lu     {st:SortSt}  (hO:LtOk kd κ a₀ prog w A E s)(hk:kindOf st=kd)(bM:key∈a₀.toList)(hA:InA a₀ arr base n)(hh:hint<n)
  (eM:∀i j,i<=j->j<n->gB κ left key arr base j=true->gB κ left key arr base i=true)
  (h:∀k,k<=n->(∀i,i<k->gB κ left key arr base i=true)->(∀i,k<=i->i<n->gB κ left key arr base i=false)->Q (some k) st):
  wpS (model prog w) A E s (B3 left key arr base n hint) Q st:=by
 have gz:∀i j,i<=j->j<n->gB κ left key arr base i=false->gB κ left key arr base j=false:=fun i j aW hj hf=>by
  cases e:gB κ left key arr base j with
  |false=>rfl
  |true=>rw[eM i j aW hj e]at hf;cases hf
 have hlast:∀lo hi:Nat,lo<=hi->hi<=n->(∀i,i<lo->gB κ left key arr base i=true)->(∀i,hi<=i->i<n->gB κ left key arr base i=false)->wpS (model prog w) A E s (Su left key arr base n lo hi) Q st:=by
  intro lo hi hlh hhn hU jq
  unfold Su
  refine jB_ (x4_ (qP_ (I:=fun x c ag=>ag=st/\∃lo hi,c=(none,lo,hi)/\lo<=hi/\hi<=n/\hi-lo<=n-x/\(∀i,i<lo->gB κ left key arr base i=true)/\(∀i,hi<=i->i<n->gB κ left key arr base i=false))
   (Q:=fun c ag=>ag=st/\∃k,∃lo,c=(none,lo,k)/\k<=n/\(∀i,i<k->gB κ left key arr base i=true)/\(∀i,k<=i->i<n->gB κ left key arr base i=false)) ?step ?fin ⟨rfl,lo,hi,rfl,hlh,hhn,by lia,hU,jq⟩) ?post)
  case fin=>
   rintro c ag ⟨rfl,lo,hi,rfl,h1,h2,h3,h4,h5⟩
   have:lo=hi:=by lia
   subst this
   exact⟨rfl,lo,lo,rfl,h2,h4,h5⟩
  case post=>
   rintro c ag ⟨rfl,k,lo,rfl,h1,h2,h3⟩
   exact jI_ (h k h1 h2 h3)
  case step=>
   rintro x c ag _ hx ⟨rfl,lo,hi,rfl,h1,h2,h3,h4,h5⟩
   dsimp only
   by_cases bC:lo >= hi
   ·rw[if_pos bC]
    have:lo=hi:=by lia
    subst this
    exact jI_ ⟨rfl,lo,lo,rfl,h2,h4,h5⟩
   ·rw[if_neg bC]
    refine jB_ (FP hO hk bM hA (n:=n) s!"" ?_)
    cases hg:gB κ left key arr base (lo+(hi-lo) / 2) with
    |true=>
     dsimp only
     rw[if_pos rfl]
     refine jI_ ⟨rfl,lo+(hi-lo) / 2+1,hi,rfl,by lia,h2,by lia,fun i hi'=>?_,h5⟩
     exact eM i (lo+(hi-lo) / 2) s!"" s!"" hg
    |false=>
     dsimp only
     rw[if_neg (by simp)]
     refine jI_ ⟨rfl,lo,lo+(hi-lo) / 2,rfl,by lia,by lia,by lia,h4,fun i hi' hn=>?_⟩
     exact gz (lo+(hi-lo) / 2) i hi' hn hg
 rw[OD]
 refine jB_ (FP hO hk bM hA hh ?_)
 cases hg:gB κ left key arr base hint with
 |true=>
  dsimp only
  rw[if_pos rfl]
  refine jB_ (x4_ (qP_ (I:=fun x c ag=>ag=st/\∃last ofs,c=(none,last,ofs)/\last<ofs/\x<ofs/\hint+last<n/\gB κ left key arr base (hint+last)=true)
   (Q:=fun c ag=>ag=st/\∃last ofs,c=(none,last,ofs)/\last<ofs/\hint+last<n/\gB κ left key arr base (hint+last)=true/\(n-hint<=ofs\/hint+ofs<n/\gB κ left key arr base (hint+ofs)=false)) ?step ?fin ⟨rfl,0,1,rfl,by lia,by lia,by lia,hg⟩) ?post)
  case fin=>
   rintro c ag ⟨rfl,last,ofs,rfl,h1,h2,h3,h4⟩
   exact⟨rfl,last,ofs,rfl,h1,h3,h4,.inl s!""⟩
  case step=>
   rintro x c ag _ hx ⟨rfl,last,ofs,rfl,h1,h2,h3,h4⟩
   dsimp only
   by_cases bC:ofs >= n-hint
   ·rw[if_pos bC]
    exact jI_ ⟨rfl,last,ofs,rfl,h1,h3,h4,.inl bC⟩
   ·rw[if_neg bC]
    refine jB_ (FP hO hk bM hA (n:=n) s!"" ?_)
    cases mY:gB κ left key arr base (hint+ofs) with
    |true=>
     dsimp only
     rw[if_neg (by simp)]
     exact jI_ ⟨rfl,ofs,2*ofs+1,rfl,by lia,by lia,by lia,mY⟩
    |false=>
     dsimp only
     rw[if_pos (by simp)]
     exact jI_ ⟨rfl,last,ofs,rfl,h1,h3,h4,.inr ⟨by lia,mY⟩⟩
  case post=>
   rintro c ag ⟨rfl,last,ofs,rfl,h1,h3,h4,h5⟩
   dsimp only
   refine hlast (hint+last+1) (hint+min ofs (n-hint)) s!"" s!"" (fun i hi=>eM i (hint+last) s!"" h3 h4) (fun i hi hn=>?_)
   rcases h5 with h5|⟨h5,h6⟩
   ·lia
   ·exact gz (hint+ofs) i s!"" hn h6
 |false=>
  dsimp only
  rw[if_neg (by simp)]
  refine jB_ (x4_ (qP_ (I:=fun x c ag=>ag=st/\∃last ofs,c=(none,last,ofs)/\last<ofs/\x<ofs/\last<=hint/\gB κ left key arr base (hint-last)=false)
   (Q:=fun c ag=>ag=st/\∃last ofs,c=(none,last,ofs)/\last<ofs/\last<=hint/\gB κ left key arr base (hint-last)=false/\(hint+1<=ofs\/ofs<=hint/\gB κ left key arr base (hint-ofs)=true)) ?step ?fin ⟨rfl,0,1,rfl,by lia,by lia,by lia,hg⟩) ?post)
  case fin=>
   rintro c ag ⟨rfl,last,ofs,rfl,h1,h2,h3,h4⟩
   exact⟨rfl,last,ofs,rfl,h1,h3,h4,.inl s!""⟩
  case step=>
   rintro x c ag _ hx ⟨rfl,last,ofs,rfl,h1,h2,h3,h4⟩
   dsimp only
   by_cases bC:ofs >= hint+1
   ·rw[if_pos bC]
    exact jI_ ⟨rfl,last,ofs,rfl,h1,h3,h4,.inl bC⟩
   ·rw[if_neg bC]
    refine jB_ (FP hO hk bM hA (n:=n) s!"" ?_)
    cases mY:gB κ left key arr base (hint-ofs) with
    |true=>
     dsimp only
     rw[if_pos rfl]
     exact jI_ ⟨rfl,last,ofs,rfl,h1,h3,h4,.inr ⟨by lia,mY⟩⟩
    |false=>
     dsimp only
     rw[if_neg (by simp)]
     exact jI_ ⟨rfl,ofs,2*ofs+1,rfl,by lia,by lia,by lia,mY⟩
  case post=>
   rintro c ag ⟨rfl,last,ofs,rfl,h1,h3,h4,h5⟩
   dsimp only
   refine hlast (hint+1-min ofs (hint+1)) (hint-last) s!"" s!"" (fun i hi=>?_) (fun i hi hn=>gz (hint-last) i s!"" hn h4)
   rcases h5 with h5|⟨h5,h6⟩
   ·lia
   ·exact eM i (hint-ofs) s!"" s!"" h6
end
end aS
namespace aS
open PySem PyProof.Rows
abbrev En (st:SortSt)(g:Nat):SortSt:=SortSt.mk' (kindOf st) (arrOf st) (pendingOf st) g (failedOf st)
def AR:Nat->StateT SortSt Sem Unit:=sortPriv% PySem.Builtin.setMinGallop
def G9 (g:Nat):AR g=modify fun s=>En s g:=rfl
def Hw:Array Keyed->Array Keyed->StateT SortSt Sem (Array Keyed):=sortPriv% PySem.Builtin.mergeLo
def DC (a b out:Array Keyed)(ia ib:Nat):Array Keyed:=out++a.extract ia a.size++b.extract ib b.size
def Il (a b out:Array Keyed)(ia ib:Nat):Array Keyed:=out++b.extract ib b.size++a.extract ia a.size
def Mz (a b:Array Keyed):Hw a b=(do
 rule "list.sort.merge-lo"
 let mut out:Array Keyed := #[<-elem' b 0]
 let mut ia:=0
 let mut ib:=1
 if ib==b.size then return DC a b out ia ib
 if ia+1==a.size then return Il a b out ia ib
 let mut minGallop:=gallopOf ( <- get)
 for _ in [0:a.size+b.size] do
  let mut acount:=0
  let mut bcount:=0
  for _ in [0:a.size+b.size] do
   let some gA <- lt' ( <- elem' b ib) ( <- elem' a ia)|return DC a b out ia ib
   if gA then
    out:=out.push ( <- elem' b ib);ib:=ib+1;bcount:=bcount+1;acount:=0
    if ib==b.size then return DC a b out ia ib
    if bcount >= minGallop then break
   else
    out:=out.push ( <- elem' a ia);ia:=ia+1;acount:=acount+1;bcount:=0
    if ia+1==a.size then return Il a b out ia ib
    if acount >= minGallop then break
  rule "list.sort.gallop"
  minGallop:=minGallop+1
  for _ in [0:a.size+b.size] do
   if minGallop > 1 then minGallop:=minGallop-1
   AR minGallop
   let some k <- B3 false ( <- elem' b ib) a ia (a.size-ia) 0|return DC a b out ia ib
   acount:=k
   if k > 0 then
    out:=out++a.extract ia (ia+k);ia:=ia+k
    if ia+1==a.size then return Il a b out ia ib
    if ia==a.size then return DC a b out ia ib
   out:=out.push ( <- elem' b ib);ib:=ib+1
   if ib==b.size then return DC a b out ia ib
   let some k <- B3 true ( <- elem' a ia) b ib (b.size-ib) 0|return DC a b out ia ib
   bcount:=k
   if k > 0 then
    out:=out++b.extract ib (ib+k);ib:=ib+k
    if ib==b.size then return DC a b out ia ib
   out:=out.push ( <- elem' a ia);ia:=ia+1
   if ia+1==a.size then return Il a b out ia ib
   if acount<7&&bcount<7 then break
  minGallop:=minGallop+1
  AR minGallop
 unsupported "internal:list.sort.merge-bound"):=rfl
section
variable {α:Type} {R:α->α->Prop} {A B out:List α} {ia ib:Nat}
structure MI (R:α->α->Prop)(A B out:List α)(ia ib:Nat):Prop where
 ha:ia<=A.length
 hb:ib<=B.length
 pm:out.Perm (A.take ia++B.take ib)
 so:out.Pairwise R
 le:∀x∈out,∀y∈A.drop ia++B.drop ib,R x y
def MI.swap (h:MI R A B out ia ib):MI R B A out ib ia:=⟨h.hb,h.ha,h.pm.trans sP,h.so,fun x hx y hy=>h.le x hx y (by rcases jA_.mp hy with z|z;exact jy_ _ z;exact qc_ _ z)⟩
def OE (A:List α)(i k:Nat):A.drop i=(A.drop i).take k++A.drop (i+k):=by
 rw[<-List.drop_drop,xc_]
def MI.ta (h:MI R A B out ia ib)(sA:A.Pairwise R)  (hk:ia+k<=A.length)(hx:∀x∈(A.drop ia).take k,∀y∈B.drop ib,R x y):MI R A B (out++(A.drop ia).take k) (ia+k) ib:=by
 have fb:=OE A ia k
 have pT:(A.drop ia).Pairwise R:=sQ (List.drop_sublist _ _) sA
 refine⟨hk,h.hb,?_,?_,fun x lR y hy=>?_⟩
 ·have e:A.take (ia+k)=A.take ia++(A.drop ia).take k:=List.take_add
  rw[e,qg_]
  refine (sI _ h.pm).trans ?_
  rw[qg_]
  exact sR _ sP
 ·refine q4_.mpr ⟨h.so,sQ (tS _ _) pT,fun x cq y jM=>h.le x cq y (qc_ _ (xk_ jM))⟩
 ·rcases jA_.mp lR with lR|lR
  ·refine h.le x lR y ?_
   rcases jA_.mp hy with hy|hy
   ·exact qc_ _ (by rw[fb];exact jy_ _ hy)
   ·exact jy_ _ hy
  ·rcases jA_.mp hy with hy|hy
   ·rw[fb]at pT
    exact (q4_.mp pT).2.2 x lR y hy
   ·exact hx x lR y hy
def MI.tb (h:MI R A B out ia ib)(sB:B.Pairwise R)  (hk:ib+k<=B.length)(hx:∀x∈(B.drop ib).take k,∀y∈A.drop ia,R x y):MI R A B (out++(B.drop ib).take k) ia (ib+k):=(h.swap.ta sB hk hx).swap
def MI.start (A B:List α):MI R A B [] 0 0:=⟨jY_ _,jY_ _,by simp,rN,fun x hx=>by cases hx⟩
def Mgd (R:α->α->Prop)(A B r:List α):Prop:=r.Perm (A++B)/\r.Pairwise R
def MI.done (h:MI R A B out ia ib)(sA:A.Pairwise R)(sB:B.Pairwise R)(he:A.length<=ia\/B.length<=ib):Mgd R A B (out++A.drop ia++B.drop ib):=by
 rcases he with he|he
 ·have:=(h.tb sB (k:=B.length-ib) (by have:=h.hb;lia) (fun x _ y hy=>by rw[qI_ he]at hy;cases hy))
  have e:(B.drop ib).take (B.length-ib)=B.drop ib:=jP_ (by rw[xf_];exact ji_ _)
  rw[e]at this
  rw[qI_ he,ql_]
  refine⟨?_,this.so⟩
  have p:=this.pm
  rw[jP_ he,jP_ (by have:=h.hb;lia)]at p
  exact p
 ·have:=(h.ta sA (k:=A.length-ia) (by have:=h.ha;lia) (fun x _ y hy=>by rw[qI_ he]at hy;cases hy))
  have e:(A.drop ia).take (A.length-ia)=A.drop ia:=jP_ (by rw[xf_];exact ji_ _)
  rw[e]at this
  rw[qI_ he,ql_]
  refine⟨?_,this.so⟩
  have p:=this.pm
  rw[jP_ he,jP_ (by have:=h.ha;lia)]at p
  exact p
def MI.last (h:MI R A B out ia ib)(sA:A.Pairwise R)(sB:B.Pairwise R)(hl:∀x∈B,∀y∈A.drop ia,R x y):Mgd R A B (out++B.drop ib++A.drop ia):=by
 have h1:=h.tb sB (k:=B.length-ib) (by have:=h.hb;lia) (fun x hx y hy=>hl x (List.mem_of_mem_drop (xk_ hx)) y hy)
 have e:(B.drop ib).take (B.length-ib)=B.drop ib:=jP_ (by rw[xf_];exact ji_ _)
 rw[e]at h1
 have h2:=h1.done sA sB (.inr (by have:=h.hb;lia))
 rw[qI_ (show B.length<=ib+(B.length-ib) by have:=h.hb;lia),ql_]at h2
 exact h2
end
end aS
namespace aS
open PySem PyProof.Rows
def LeK (κ:KeyKind)(x y:Keyed):Prop:=κ.kle (KE κ x) (KE κ y)
structure SG (st ag:SortSt):Prop where
 kd:kindOf ag=kindOf st
 arr:arrOf ag=arrOf st
 pe:pendingOf ag=pendingOf st
 fa:failedOf ag=failedOf st
def SG.refl (st:SortSt):SG st st:=⟨rfl,rfl,rfl,rfl⟩
def SG.set {st ag:SortSt}(h:SG st ag)(g:Nat):SG st (En ag g):=⟨h.kd,h.arr,h.pe,h.fa⟩
abbrev G5:=Option (Array Keyed)×Array Keyed×Nat×Nat×Nat
abbrev G6:=Option (Array Keyed)×Array Keyed×Nat×Nat×Nat×Nat
abbrev G7:=Option (Array Keyed)×Array Keyed×Nat×Nat×Nat×Nat×Nat
def PC (a b out:Array Keyed)(ia ib mg ac bc:Nat):StateT SortSt Sem (ForInStep G7):=do
 let y <- elem' a ia
 if (ia+1+1==a.size)=true then pure (.done (some (Il a b (out.push y) (ia+1) ib),out.push y,ia+1,ib,mg,ac,bc))
 else if (decide (ac<7)&&decide (bc<7))=true then pure (.done (none,out.push y,ia+1,ib,mg,ac,bc)) else pure (.yield (none,out.push y,ia+1,ib,mg,ac,bc))
def PB (a b out:Array Keyed)(ia ib mg ac bc:Nat):StateT SortSt Sem (ForInStep G7):=do
 let y <- elem' b ib
 if (ib+1==b.size)=true then pure (.done (some (DC a b (out.push y) ia (ib+1)),out.push y,ia,ib+1,mg,ac,bc))
 else do
  let z <- elem' a ia
  let x <- B3 true z b (ib+1) (b.size-(ib+1)) 0
  match x with
  |some k=>if k > 0 then (if (ib+1+k==b.size)=true then pure (.done (some (DC a b (out.push y++b.extract (ib+1) (ib+1+k)) ia (ib+1+k)),out.push y++b.extract (ib+1) (ib+1+k),ia,ib+1+k,mg,ac,k)) else PC a b (out.push y++b.extract (ib+1) (ib+1+k)) ia (ib+1+k) mg ac k) else PC a b (out.push y) ia (ib+1) mg ac k
  |_=>pure (.done (some (DC a b (out.push y) ia (ib+1)),out.push y,ia,ib+1,mg,ac,bc))
def PA (a b out:Array Keyed)(ia ib mg ac bc:Nat):StateT SortSt Sem (ForInStep G7):=do
 AR mg
 let y <- elem' b ib
 let x <- B3 false y a ia (a.size-ia) 0
 match x with
 |some k=>if k > 0 then (if (ia+k+1==a.size)=true then pure (.done (some (Il a b (out++a.extract ia (ia+k)) (ia+k) ib),out++a.extract ia (ia+k),ia+k,ib,mg,k,bc)) else if (ia+k==a.size)=true then pure (.done (some (DC a b (out++a.extract ia (ia+k)) (ia+k) ib),out++a.extract ia (ia+k),ia+k,ib,mg,k,bc)) else PB a b (out++a.extract ia (ia+k)) (ia+k) ib mg k bc) else PB a b out ia ib mg k bc
 |_=>pure (.done (some (DC a b out ia ib),out,ia,ib,mg,ac,bc))
def P1 (a b:Array Keyed)(mg:Nat)(c:G6):StateT SortSt Sem (ForInStep G6):=do
 let y <- elem' b c.2.2.2.1
 let z <- elem' a c.2.2.1
 let x <- lt' y z
 match x with
 |some gA=>
  if gA=true then
   elem' b c.2.2.2.1 >>= fun y=>
   if (c.2.2.2.1+1==b.size)=true then pure (.done (some (DC a b (c.2.1.push y) c.2.2.1 (c.2.2.2.1+1)),c.2.1.push y,c.2.2.1,c.2.2.2.1+1,0,c.2.2.2.2.2+1))
   else if c.2.2.2.2.2+1 >= mg then pure (.done (none,c.2.1.push y,c.2.2.1,c.2.2.2.1+1,0,c.2.2.2.2.2+1)) else pure (.yield (none,c.2.1.push y,c.2.2.1,c.2.2.2.1+1,0,c.2.2.2.2.2+1))
  else
   elem' a c.2.2.1 >>= fun y=>
   if (c.2.2.1+1+1==a.size)=true then pure (.done (some (Il a b (c.2.1.push y) (c.2.2.1+1) c.2.2.2.1),c.2.1.push y,c.2.2.1+1,c.2.2.2.1,c.2.2.2.2.1+1,0))
   else if c.2.2.2.2.1+1 >= mg then pure (.done (none,c.2.1.push y,c.2.2.1+1,c.2.2.2.1,c.2.2.2.2.1+1,0)) else pure (.yield (none,c.2.1.push y,c.2.2.1+1,c.2.2.2.1,c.2.2.2.2.1+1,0))
 |_=>pure (.done (some (DC a b c.2.1 c.2.2.1 c.2.2.2.1),c.2.1,c.2.2.1,c.2.2.2.1,c.2.2.2.2.1,c.2.2.2.2.2))
def P2 (a b:Array Keyed)(c:G7):StateT SortSt Sem (ForInStep G7):=if c.2.2.2.2.1 > 1 then PA a b c.2.1 c.2.2.1 c.2.2.2.1 (c.2.2.2.2.1-1) c.2.2.2.2.2.1 c.2.2.2.2.2.2 else PA a b c.2.1 c.2.2.1 c.2.2.2.1 c.2.2.2.2.1 c.2.2.2.2.2.1 c.2.2.2.2.2.2
def PO (a b:Array Keyed)(c:G5):StateT SortSt Sem (ForInStep G5):=do
 let d <- forIn [0:a.size+b.size] ((none,c.2.1,c.2.2.1,c.2.2.2.1,0,0):G6) fun _ d=>P1 a b c.2.2.2.2 d
 match d.1 with
 |some r=>pure (.done (some r,d.2.1,d.2.2.1,d.2.2.2.1,c.2.2.2.2))
 |none=>do
  liftM (rule "list.sort.gallop")
  let e <- forIn [0:a.size+b.size] ((none,d.2.1,d.2.2.1,d.2.2.2.1,c.2.2.2.2+1,d.2.2.2.2.1,d.2.2.2.2.2):G7) fun _ e=>P2 a b e
  match e.1 with
  |some r=>pure (.done (some r,e.2.1,e.2.2.1,e.2.2.2.1,e.2.2.2.2.1))
  |none=>do
   AR (e.2.2.2.2.1+1)
   pure (.yield (none,e.2.1,e.2.2.1,e.2.2.2.1,e.2.2.2.2.1+1))
def Lv (a b:Array Keyed):Hw a b=(do
 liftM (rule "list.sort.merge-lo")
 let y <- elem' b 0
 if (1==b.size)=true then pure (DC a b #[y] 0 1)
 else if (0+1==a.size)=true then pure (Il a b #[y] 0 1)
 else do
  let g <- get
  let c <- forIn [0:a.size+b.size] ((none,#[y],0,1,gallopOf g):G5) fun _ c=>PO a b c
  match c.1 with
  |some r=>pure r
  |none=>unsupported "internal:list.sort.merge-bound"):=by
 rw[Mz]
 refine jJ_ (bind _) (funext fun _=>jJ_ (bind _) (funext fun y=>?_))
 refine jJ_ (ite _ _) (jJ_ (ite _ _) (jJ_ (bind _) (funext fun g=>?_)))
 refine congr (jJ_ bind (jJ_ (forIn _ _) (funext fun _=>funext fun c=>?_))) (funext fun c=>?_)
 ·unfold PO
  dsimp only
  refine congr (jJ_ bind (jJ_ (forIn _ _) (funext fun _=>funext fun d=>?_))) (funext fun d=>?_)
  ·unfold P1
   rfl
  ·cases d.1 with
   |some r=>rfl
   |none=>
    dsimp only
    refine jJ_ (bind _) (funext fun _=>congr (jJ_ bind (jJ_ (forIn _ _) (funext fun _=>funext fun e=>?_))) (funext fun e=>?_))
    ·unfold P2 PA PB PC
     rfl
    ·cases e.1 with
     |some r=>rfl
     |none=>rfl
 ·cases c.1 with
  |some r=>rfl
  |none=>rfl
end aS
namespace aS
open PySem PyProof.Rows
section
variable {prog:Program} {w:World} {A:Around} {E:Value->Shared->Prop} {s:Shared} {a₀:Array Keyed} {κ:KeyKind} {kd:SortKind}
def Bn   {st:SortSt}  (hi:i<arr.size)(h:Q arr[i] st):wpS (model prog w) A E s (elem' arr i) Q st:=by
 rw[elem'_eq,getElem?_pos arr i hi]
 exact jI_ h
def Gs  {st:SortSt}  (h:Q () st):wpS (model prog w) A E s (rule n:StateT SortSt Sem Unit) Q st:=wpS_lift (zS_ ⟨rfl,h⟩)
def EY (a:Array Keyed)(i j:Nat):(a.extract i j).toList=(a.toList.drop i).take (j-i):=by simp[List.extract_eq_take_drop]
def Kl (a:Array Keyed)(i:Nat):(a.extract i a.size).toList=a.toList.drop i:=by
 rw[EY];exact jP_ (by simp)
def OF (a b out:Array Keyed)(ia ib:Nat):(DC a b out ia ib).toList=out.toList++a.toList.drop ia++b.toList.drop ib:=by
 unfold DC;rw[rK,rK,Kl,Kl]
def OG (a b out:Array Keyed)(ia ib:Nat):(Il a b out ia ib).toList=out.toList++b.toList.drop ib++a.toList.drop ia:=by
 unfold Il;rw[rK,rK,Kl,Kl]
def LeK.refl (x:Keyed):LeK κ x x:=qQ_ _
def LeK.trans  (h:LeK κ x y)(g:LeK κ y z):LeK κ x z:=xh_ h g
def Q1 {a:Array Keyed}(sA:a.toList.Pairwise (LeK κ)){i j:Nat}(aW:i<=j)(hj:j<a.size):LeK κ a[i] a[j]:=by
 by_cases e:i=j
 ·subst e;exact LeK.refl _
 ·exact xE_.mp sA i j (by simpa using s!"") (by simpa using hj) s!""
def CW {a:Array Keyed}{i:Nat}{y:Keyed}(h:y∈a.toList.drop i):∃j,∃hj:j<a.size,i<=j/\y=a[j]:=by
 obtain⟨k,hk,e⟩:=x6_.mp h
 rw[wf_]at e
 rw[xf_]at hk
 exact⟨i+k,by simpa using (by simp at hk;lia),by lia,by rw[<-e];simp⟩
def OH {a:Array Keyed}{i k:Nat}{y:Keyed}(h:y∈(a.toList.drop i).take k):∃j,∃hj:i+j<a.size,j<k/\y=a[i+j]:=by
 obtain⟨j,hj,e⟩:=x6_.mp h
 rw[ub,wf_]at e
 rw[jw_,xf_]at hj
 exact⟨j,by simp at hj;lia,by lia,by rw[<-e];simp⟩
def Hx {a:Array Keyed}(sA:a.toList.Pairwise (LeK κ)){i:Nat}(hi:i<a.size):∀y∈a.toList.drop i,LeK κ a[i] y:=fun y hy=>by
 obtain⟨j,hj,aW,rfl⟩:=CW hy
 exact Q1 sA aW hj
def Vf {a:Array Keyed}{i:Nat}(hi:i<a.size):(a.toList.drop i).take 1=[a[i]]:=by
 rw[xa_ (by simpa using hi)];simp
section
variable {a b out:Array Keyed} {ia ib:Nat}
def MI.pushA (h:MI (LeK κ) a.toList b.toList out.toList ia ib)(sA:a.toList.Pairwise (LeK κ))(hi:ia<a.size)(hx:∀y∈b.toList.drop ib,LeK κ a[ia] y):MI (LeK κ) a.toList b.toList (out.push a[ia]).toList (ia+1) ib:=by
 have:=h.ta sA (k:=1) (by simp;lia) (by rw[Vf hi];intro x fi y hy;rw[ju_.mp fi];exact hx y hy)
 rw[Vf hi]at this
 rw[wd_];exact this
def MI.pushB (h:MI (LeK κ) a.toList b.toList out.toList ia ib)(sB:b.toList.Pairwise (LeK κ))(hi:ib<b.size)(hx:∀y∈a.toList.drop ia,LeK κ b[ib] y):MI (LeK κ) a.toList b.toList (out.push b[ib]).toList ia (ib+1):=(h.swap.pushA sB hi hx).swap
def MI.extA (h:MI (LeK κ) a.toList b.toList out.toList ia ib)(sA:a.toList.Pairwise (LeK κ))  (hk:ia+k<=a.size)(hx:∀j,j<k->∀(hj:ia+j<a.size),∀y∈b.toList.drop ib,LeK κ a[ia+j] y):MI (LeK κ) a.toList b.toList (out++a.extract ia (ia+k)).toList (ia+k) ib:=by
 have:=h.ta sA (k:=k) (by simpa using hk) (fun x fi y hy=>by
  obtain⟨j,hj,ji,rfl⟩:=OH fi
  exact hx j ji hj y hy)
 rw[qX_,EY,show ia+k-ia=k by lia];exact this
def MI.extB (h:MI (LeK κ) a.toList b.toList out.toList ia ib)(sB:b.toList.Pairwise (LeK κ))  (hk:ib+k<=b.size)(hx:∀j,j<k->∀(hj:ib+j<b.size),∀y∈a.toList.drop ia,LeK κ b[ib+j] y):MI (LeK κ) a.toList b.toList (out++b.extract ib (ib+k)).toList ia (ib+k):=(h.swap.extA sB hk hx).swap
end
def D9   (hi:i<xs.size):KK κ xs i=KE κ xs[i]:=Ss (getElem?_pos xs i hi)
def T5  (hA:∀x∈a.toList,x∈a₀.toList)  (h:i+n<=a.size):InA a₀ a i n:=fun j hj=>⟨a[i+j],getElem?_pos _ _ s!"",hA _ (by simp)⟩
def Km    {st:SortSt}  (hO:LtOk kd κ a₀ prog w A E s)(hk:kindOf st=kd)(bM:key∈a₀.toList)(hA:∀x∈a.toList,x∈a₀.toList)(sA:∀i j (hi:i<a.size) (hj:j<a.size),base<=i->i<=j->j<base+n->LeK κ a[i] a[j])(hn:base+n<=a.size)(hh:hint<n)
  (h:∀k,k<=n->(∀i (hi:base+i<a.size),i<k->LeK κ a[base+i] key)->(∀i (hi:base+i<a.size),k<=i->i<n->κ.klt (KE κ key) (KE κ a[base+i]))->Q (some k) st):
  wpS (model prog w) A E s (B3 false key a base n hint) Q st:=by
 refine Lu hO hk bM (T5 hA hn) hh (fun i j aW hj hb=>?_) (fun k jV h1 h2=>h k jV (fun i hi jW=>?_) (fun i hi jW bP=>?_))
 ·simp only[gB,jS_,qS_,D9 (show base+i<a.size by lia),D9 (show base+j<a.size by lia),uc]at hb ⊢
  exact xh_ (sA _ _ s!"" s!"" s!"" s!"" s!"") hb
 ·have:=h1 i jW
  simp only[gB,jS_,qS_,D9 hi,uc]at this
  exact this
 ·have:=h2 i jW bP
  simp only[gB,jS_,qS_,D9 hi,Bool.not_eq_false']at this
  exact this
def Kn    {st:SortSt}  (hO:LtOk kd κ a₀ prog w A E s)(hk:kindOf st=kd)(bM:key∈a₀.toList)(hA:∀x∈a.toList,x∈a₀.toList)(sA:∀i j (hi:i<a.size) (hj:j<a.size),base<=i->i<=j->j<base+n->LeK κ a[i] a[j])(hn:base+n<=a.size)(hh:hint<n)
  (h:∀k,k<=n->(∀i (hi:base+i<a.size),i<k->κ.klt (KE κ a[base+i]) (KE κ key))->(∀i (hi:base+i<a.size),k<=i->i<n->LeK κ key a[base+i])->Q (some k) st):
  wpS (model prog w) A E s (B3 true key a base n hint) Q st:=by
 refine Lu hO hk bM (T5 hA hn) hh (fun i j aW hj hb=>?_) (fun k jV h1 h2=>h k jV (fun i hi jW=>?_) (fun i hi jW bP=>?_))
 ·simp only[gB,xB_,D9 (show base+i<a.size by lia),D9 (show base+j<a.size by lia)]at hb ⊢
  exact KeyOrd.klt_of_kle_of_klt (sA _ _ s!"" s!"" s!"" s!"" s!"") hb
 ·have:=h1 i jW
  simp only[gB,xB_,D9 hi]at this
  exact this
 ·have:=h2 i jW bP
  simp only[gB,xB_,D9 hi]at this
  exact this
def Ko {a:Array Keyed}(sA:a.toList.Pairwise (LeK κ))(base n:Nat):∀i j (hi:i<a.size) (hj:j<a.size),base<=i->i<=j->j<base+n->LeK κ a[i] a[j]:=fun _ _ _ hj _ aW _=>Q1 sA aW hj
structure MP (a₀:Array Keyed)(κ:KeyKind)(a b:Array Keyed):Prop where
 hA:∀x∈a.toList,x∈a₀.toList
 hB:∀x∈b.toList,x∈a₀.toList
 sA:a.toList.Pairwise (LeK κ)
 sB:b.toList.Pairwise (LeK κ)
 ha:1<=a.size
 hb:1<=b.size
 hf:∀y∈a.toList,LeK κ b[0] y
 hl:∀x∈b.toList,LeK κ x a[a.size-1]
section
variable {a b:Array Keyed}
def MP.done (M:MP a₀ κ a b)   (h:MI (LeK κ) a.toList b.toList out.toList ia ib)(he:a.size<=ia\/b.size<=ib):Mgd (LeK κ) a.toList b.toList (DC a b out ia ib).toList:=by
 rw[OF];exact h.done M.sA M.sB (by simpa using he)
def MP.last (M:MP a₀ κ a b)   (h:MI (LeK κ) a.toList b.toList out.toList ia ib)(he:ia+1=a.size):Mgd (LeK κ) a.toList b.toList (Il a b out ia ib).toList:=by
 rw[OG]
 refine h.last M.sA M.sB (fun x hx y hy=>?_)
 obtain⟨j,hj,aW,rfl⟩:=CW hy
 have e:j=a.size-1:=by lia
 subst e
 exact M.hl x hx
def MJ (κ:KeyKind)(a b:Array Keyed)(out:Array Keyed)(ia ib p:Nat):Prop:=MI (LeK κ) a.toList b.toList out.toList ia ib/\ia+1<a.size/\ib<b.size/\p<=ia+ib
def Xj (hO:LtOk kd κ a₀ prog w A E s)(M:MP a₀ κ a b){st:SortSt}(hk:kindOf st=kd)   (h1:c.1=none)(hJ:MJ κ a b c.2.1 c.2.2.1 c.2.2.2.1 p)
  (h:∀d:G6,d.1=none->MJ κ a b d.2.1 d.2.2.1 d.2.2.2.1 (p+1)->Q (.yield d) st/\Q (.done d) st) (hd:∀(d:G6) x,d.1=some x->Mgd (LeK κ) a.toList b.toList x.toList->Q (.done d) st):
  wpS (model prog w) A E s (P1 a b mg c) Q st:=by
 obtain⟨c0,out,ia,ib,ac,bc⟩:=c
 obtain⟨hM,h2,h3,h4⟩:=hJ
 dsimp only at *
 unfold P1
 dsimp only
 refine jB_ (Bn h3 (jB_ (Bn (show ia<a.size by lia) (jB_ (hO _ _ _ _ (M.hB _ (by simp)) (M.hA _ (by simp)) hk ?_)))))
 cases e:κ.blt (KE κ b[ib]) (KE κ a[ia]) with
 |true=>
  dsimp only
  rw[if_pos rfl]
  have bY:=hM.pushB M.sB h3 (fun y hy=>LeK.trans (qz_ e) (Hx M.sA s!"" y hy))
  refine jB_ (Bn h3 ?_)
  by_cases hq:ib+1=b.size
  ·rw[if_pos (by simpa using hq)]
   exact jI_ (hd _ _ rfl (M.done bY (.inr s!"")))
  ·rw[if_neg (by simpa using hq)]
   have hh:=h (none,out.push b[ib],ia,ib+1,0,bc+1) rfl (show MJ κ a b (out.push b[ib]) ia (ib+1) (p+1) from ⟨bY,h2,by lia,by lia⟩)
   split
   ·exact jI_ hh.2
   ·exact jI_ hh.1
 |false=>
  dsimp only
  rw[if_neg (by simp)]
  have bY:=hM.pushA M.sA (show ia<a.size by lia) (fun y hy=>LeK.trans e (Hx M.sB h3 y hy))
  refine jB_ (Bn (show ia<a.size by lia) ?_)
  by_cases hq:ia+1+1=a.size
  ·rw[if_pos (by simpa using hq)]
   exact jI_ (hd _ _ rfl (M.last bY hq))
  ·rw[if_neg (by simpa using hq)]
   have hh:=h (none,out.push a[ia],ia+1,ib,ac+1,0) rfl (show MJ κ a b (out.push a[ia]) (ia+1) ib (p+1) from ⟨bY,by lia,h3,by lia⟩)
   split
   ·exact jI_ hh.2
   ·exact jI_ hh.1
def WN (M:MP a₀ κ a b){st:SortSt}   (hM:MI (LeK κ) a.toList b.toList out.toList ia ib)(h2:ia+1<a.size)(h3:ib<b.size)(h4:p<=ia+ib)(bg:∀y∈b.toList.drop ib,LeK κ a[ia] y)
  (h:∀d:G7,d.1=none->MJ κ a b d.2.1 d.2.2.1 d.2.2.2.1 p->Q (.yield d) st/\Q (.done d) st) (hd:∀(d:G7) x,d.1=some x->Mgd (LeK κ) a.toList b.toList x.toList->Q (.done d) st):
  wpS (model prog w) A E s (PC a b out ia ib mg ac bc) Q st:=by
 unfold PC
 refine jB_ (Bn (show ia<a.size by lia) ?_)
 have bY:=hM.pushA M.sA (show ia<a.size by lia) bg
 by_cases hq:ia+1+1=a.size
 ·rw[if_pos (by simpa using hq)]
  exact jI_ (hd _ _ rfl (M.last bY hq))
 ·rw[if_neg (by simpa using hq)]
  have hh:=h (none,out.push a[ia],ia+1,ib,mg,ac,bc) rfl (show MJ κ a b (out.push a[ia]) (ia+1) ib p from ⟨bY,by lia,h3,by lia⟩)
  split
  ·exact jI_ hh.2
  ·exact jI_ hh.1
def WO (hO:LtOk kd κ a₀ prog w A E s)(M:MP a₀ κ a b){st:SortSt}(hk:kindOf st=kd)   (hM:MI (LeK κ) a.toList b.toList out.toList ia ib)(h2:ia+1<a.size)(h3:ib<b.size)(h4:p<=ia+ib)(bg:∀y∈a.toList.drop ia,LeK κ b[ib] y)
  (h:∀d:G7,d.1=none->MJ κ a b d.2.1 d.2.2.1 d.2.2.2.1 p->Q (.yield d) st/\Q (.done d) st) (hd:∀(d:G7) x,d.1=some x->Mgd (LeK κ) a.toList b.toList x.toList->Q (.done d) st):
  wpS (model prog w) A E s (PB a b out ia ib mg ac bc) Q st:=by
 unfold PB
 refine jB_ (Bn h3 ?_)
 have bY:=hM.pushB M.sB h3 bg
 by_cases hq:ib+1=b.size
 ·rw[if_pos (by simpa using hq)]
  exact jI_ (hd _ _ rfl (M.done bY (.inr s!"")))
 ·rw[if_neg (by simpa using hq)]
  refine jB_ (Bn (show ia<a.size by lia) (jB_ (Kn hO hk (M.hA _ (by simp)) M.hB (Ko M.sB _ _) s!"" s!"" (fun k jV g1 g2=>?_))))
  dsimp only
  have gC:∀y∈b.toList.drop (ib+1+k),LeK κ a[ia] y:=fun y hy=>by
   obtain⟨j,hj,aW,rfl⟩:=CW hy
   have:=g2 (j-(ib+1)) s!"" s!"" s!""
   have e:ib+1+(j-(ib+1))=j:=by lia
   simp only[e]at this
   exact this
  by_cases dN:k > 0
  ·rw[if_pos dN]
   have dO:=bY.extB M.sB (k:=k) s!"" (fun j hj cB y hy=>LeK.trans (qz_ (g1 j cB hj)) (Hx M.sA s!"" y hy))
   by_cases cV:ib+1+k=b.size
   ·rw[if_pos (by simpa using cV)]
    exact jI_ (hd _ _ rfl (M.done dO (.inr s!"")))
   ·rw[if_neg (by simpa using cV)]
    exact WN M dO h2 s!"" s!"" gC h hd
  ·rw[if_neg dN]
   have e:k=0:=by lia
   subst e
   exact WN M bY h2 s!"" s!"" gC h hd
def SG.trans {st ag aC:SortSt}(h:SG st ag)(g:SG ag aC):SG st aC:=⟨g.kd.trans h.kd,g.arr.trans h.arr,g.pe.trans h.pe,g.fa.trans h.fa⟩
def Kp  {st:SortSt}  (h:Q () (En st g)):wpS (model prog w) A E s (AR g) Q st:=by
 rw[G9];exact zT_ h
def WQ (hO:LtOk kd κ a₀ prog w A E s)(M:MP a₀ κ a b){st:SortSt}(hk:kindOf st=kd)   (hJ:MJ κ a b out ia ib p)
  (h:∀(d:G7) ag,SG st ag->d.1=none->MJ κ a b d.2.1 d.2.2.1 d.2.2.2.1 p->Q (.yield d) ag/\Q (.done d) ag) (hd:∀(d:G7) x ag,SG st ag->d.1=some x->Mgd (LeK κ) a.toList b.toList x.toList->Q (.done d) ag):
  wpS (model prog w) A E s (PA a b out ia ib mg ac bc) Q st:=by
 obtain⟨hM,h2,h3,h4⟩:=hJ
 unfold PA
 refine jB_ (Kp ?_)
 have hG:SG st (En st mg):=(SG.refl st).set mg
 refine jB_ (Bn h3 (jB_ (Km hO (hG.kd.trans hk) (M.hB _ (by simp)) M.hA (Ko M.sA _ _) s!"" s!"" (fun k jV g1 g2=>?_))))
 dsimp only
 have bg:∀y∈a.toList.drop (ia+k),LeK κ b[ib] y:=fun y hy=>by
  obtain⟨j,hj,aW,rfl⟩:=CW hy
  have:=g2 (j-ia) s!"" s!"" s!""
  have e:ia+(j-ia)=j:=by lia
  simp only[e]at this
  exact qz_ this
 by_cases dN:k > 0
 ·rw[if_pos dN]
  have dO:=hM.extA M.sA (k:=k) s!"" (fun j hj cB y hy=>LeK.trans (g1 j cB hj) (Hx M.sB h3 y hy))
  by_cases hq:ia+k+1=a.size
  ·rw[if_pos (by simpa using hq)]
   exact jI_ (hd _ _ _ hG rfl (M.last dO hq))
  ·rw[if_neg (by simpa using hq)]
   by_cases cV:ia+k=a.size
   ·rw[if_pos (by simpa using cV)]
    exact jI_ (hd _ _ _ hG rfl (M.done dO (.inl s!"")))
   ·rw[if_neg (by simpa using cV)]
    exact WO hO M (hG.kd.trans hk) dO s!"" h3 s!"" bg (fun d=>h d _ hG) (fun d x=>hd d x _ hG)
 ·rw[if_neg dN]
  have e:k=0:=by lia
  subst e
  exact WO hO M (hG.kd.trans hk) hM h2 h3 h4 bg (fun d=>h d _ hG) (fun d x=>hd d x _ hG)
def Xk (hO:LtOk kd κ a₀ prog w A E s)(M:MP a₀ κ a b){st:SortSt}(hk:kindOf st=kd)   (hJ:MJ κ a b c.2.1 c.2.2.1 c.2.2.2.1 p)
  (h:∀(d:G7) ag,SG st ag->d.1=none->MJ κ a b d.2.1 d.2.2.1 d.2.2.2.1 p->Q (.yield d) ag/\Q (.done d) ag) (hd:∀(d:G7) x ag,SG st ag->d.1=some x->Mgd (LeK κ) a.toList b.toList x.toList->Q (.done d) ag):
  wpS (model prog w) A E s (P2 a b c) Q st:=by
 unfold P2
 split
 ·exact WQ hO M hk hJ h hd
 ·exact WQ hO M hk hJ h hd
def Xl (hO:LtOk kd κ a₀ prog w A E s)(M:MP a₀ κ a b){st:SortSt}(hk:kindOf st=kd)   (hJ:MJ κ a b c.2.1 c.2.2.1 c.2.2.2.1 p)
  (h:∀(d:G5) ag,SG st ag->d.1=none->MJ κ a b d.2.1 d.2.2.1 d.2.2.2.1 (p+1)->Q (.yield d) ag) (hd:∀(d:G5) x ag,SG st ag->d.1=some x->Mgd (LeK κ) a.toList b.toList x.toList->Q (.done d) ag):
  wpS (model prog w) A E s (PO a b c) Q st:=by
 have b9:1<=a.size+b.size:=by have:=M.ha;lia
 unfold PO
 refine jB_ (x4_ (qP_ (I:=fun x d ag=>ag=st/\d.1=none/\MJ κ a b d.2.1 d.2.2.1 d.2.2.2.1 (p+x))
   (Q:=fun d ag=>ag=st/\((d.1=none/\MJ κ a b d.2.1 d.2.2.1 d.2.2.2.1 (p+1)) \/ ∃x,d.1=some x/\Mgd (LeK κ) a.toList b.toList x.toList)) ?step ?fin ⟨rfl,rfl,hJ⟩) ?post)
 case step=>
  rintro x d ag _ hx ⟨rfl,h1,h2⟩
  refine Xj hO M hk h1 h2 (fun d' g1 g2=>⟨⟨rfl,g1,g2⟩,rfl,.inl ⟨g1,g2.1,g2.2.1,g2.2.2.1,?_⟩⟩) (fun d' x g1 g2=>⟨rfl,.inr ⟨x,g1,g2⟩⟩)
  have:=g2.2.2.2;lia
 case fin=>
  rintro d ag ⟨rfl,h1,h2⟩
  refine⟨rfl,.inl ⟨h1,h2.1,h2.2.1,h2.2.2.1,?_⟩⟩
  have:=h2.2.2.2;lia
 case post=>
  rintro d ag ⟨rfl,hh⟩
  rcases hh with ⟨h1,h2⟩|⟨x,h1,h2⟩
  ·rw[h1]
   dsimp only
   refine jB_ (Gs ?_)
   refine jB_ (x4_ (qP_ (I:=fun x d aC=>SG ag aC/\d.1=none/\MJ κ a b d.2.1 d.2.2.1 d.2.2.2.1 (p+1))
    (Q:=fun d aC=>SG ag aC/\((d.1=none/\MJ κ a b d.2.1 d.2.2.1 d.2.2.2.1 (p+1)) \/ ∃x,d.1=some x/\Mgd (LeK κ) a.toList b.toList x.toList)) ?step2 ?fin2 ⟨SG.refl _,rfl,h2⟩) ?post2)
   case step2=>
    rintro x e aC _ hx ⟨g0,g1,g2⟩
    exact Xk hO M (g0.kd.trans hk) g2 (fun d' dH k0 k1 k2=>⟨⟨g0.trans k0,k1,k2⟩,g0.trans k0,.inl ⟨k1,k2⟩⟩) (fun d' x dH k0 k1 k2=>⟨g0.trans k0,.inr ⟨x,k1,k2⟩⟩)
   case fin2=>
    rintro e aC ⟨g0,g1,g2⟩
    exact⟨g0,.inl ⟨g1,g2⟩⟩
   case post2=>
    rintro e aC ⟨g0,hh⟩
    rcases hh with ⟨g1,g2⟩|⟨x,g1,g2⟩
    ·rw[g1]
     dsimp only
     refine jB_ (Kp (jI_ ?_))
     exact h (none,e.2.1,e.2.2.1,e.2.2.2.1,e.2.2.2.2.1+1) _ (g0.set _) rfl g2
    ·rw[g1]
     dsimp only
     exact jI_ (hd _ x _ g0 rfl g2)
  ·rw[h1]
   dsimp only
   exact jI_ (hd _ x _ (SG.refl _) rfl h2)
def OI {st:SortSt}  (hO:LtOk kd κ a₀ prog w A E s)(M:MP a₀ κ a b)(hk:kindOf st=kd)
  (h:∀r ag,SG st ag->Mgd (LeK κ) a.toList b.toList r.toList->Q r ag):wpS (model prog w) A E s (Hw a b) Q st:=by
 have ha:=M.ha
 have hb:=M.hb
 rw[Lv]
 refine jB_ (Gs (jB_ (Bn hb ?_)))
 have hM:MI (LeK κ) a.toList b.toList (#[b[0]]:Array Keyed).toList 0 1:=MI.pushB (out := #[]) (MI.start _ _) M.sB hb (by simpa using M.hf)
 by_cases h1:1=b.size
 ·rw[if_pos (by simpa using h1)]
  exact jI_ (h _ _ (SG.refl _) (M.done hM (.inr s!"")))
 ·rw[if_neg (by simpa using h1)]
  by_cases h2:0+1=a.size
  ·rw[if_pos (by simpa using h2)]
   exact jI_ (h _ _ (SG.refl _) (M.last hM h2))
  ·rw[if_neg (by simpa using h2)]
   refine jB_ (wpS_get ?_)
   refine jB_ (x4_ (qP_ (I:=fun x c ag=>SG st ag/\c.1=none/\MJ κ a b c.2.1 c.2.2.1 c.2.2.2.1 (1+x))
    (Q:=fun c ag=>SG st ag/\∃x,c.1=some x/\Mgd (LeK κ) a.toList b.toList x.toList) ?step ?fin ⟨SG.refl _,rfl,show MJ κ a b #[b[0]] 0 1 (1+0) from ⟨hM,by lia,by lia,by lia⟩⟩) ?post)
   case step=>
    rintro x c ag _ hx ⟨g0,g1,g2⟩
    exact Xl hO M (g0.kd.trans hk) g2 (fun d aV k0 k1 k2=>⟨g0.trans k0,k1,k2⟩) (fun d x aV k0 k1 k2=>⟨g0.trans k0,x,k1,k2⟩)
   case fin=>
    rintro c ag ⟨g0,g1,g2⟩
    have:=g2.2.1;have:=g2.2.2.1;have:=g2.2.2.2
    lia
   case post=>
    rintro c ag ⟨g0,x,g1,g2⟩
    rw[g1]
    dsimp only
    exact jI_ (h x ag g0 g2)
end
end
end aS
namespace aS
open PySem PyProof.Rows
def Hy:Array Keyed->Array Keyed->StateT SortSt Sem (Array Keyed):=sortPriv% PySem.Builtin.mergeHi
def doneH (a b out:Array Keyed)(na nb:Nat):Array Keyed:=a.extract 0 na++b.extract 0 nb++out.reverse
def firstB (a b out:Array Keyed)(na nb:Nat):Array Keyed:=b.extract 0 nb++a.extract 0 na++out.reverse
def MA (a b:Array Keyed):Hy a b=(do
 rule "list.sort.merge-hi"
 let mut na:=a.size-1
 let mut nb:=b.size
 let mut out:Array Keyed := #[<-elem' a na]
 if na==0 then return doneH a b out na nb
 if nb==1 then return firstB a b out na nb
 let mut minGallop:=gallopOf ( <- get)
 for _ in [0:a.size+b.size] do
  let mut acount:=0
  let mut bcount:=0
  for _ in [0:a.size+b.size] do
   let some gD <- lt' ( <- elem' b (nb-1)) ( <- elem' a (na-1))|return doneH a b out na nb
   if gD then
    na:=na-1;out:=out.push ( <- elem' a na);acount:=acount+1;bcount:=0
    if na==0 then return doneH a b out na nb
    if acount >= minGallop then break
   else
    nb:=nb-1;out:=out.push ( <- elem' b nb);bcount:=bcount+1;acount:=0
    if nb==1 then return firstB a b out na nb
    if bcount >= minGallop then break
  rule "list.sort.gallop"
  minGallop:=minGallop+1
  for _ in [0:a.size+b.size] do
   if minGallop > 1 then minGallop:=minGallop-1
   AR minGallop
   let some gE <- B3 false ( <- elem' b (nb-1)) a 0 na (na-1)|return doneH a b out na nb
   let k:=na-gE
   acount:=k
   if k > 0 then
    out:=out++(a.extract gE na).reverse;na:=gE
    if na==0 then return doneH a b out na nb
   nb:=nb-1;out:=out.push ( <- elem' b nb)
   if nb==1 then return firstB a b out na nb
   let some gE <- B3 true ( <- elem' a (na-1)) b 0 nb (nb-1)|return doneH a b out na nb
   let k:=nb-gE
   bcount:=k
   if k > 0 then
    out:=out++(b.extract gE nb).reverse;nb:=gE
    if nb==1 then return firstB a b out na nb
    if nb==0 then return doneH a b out na nb
   na:=na-1;out:=out.push ( <- elem' a na)
   if na==0 then return doneH a b out na nb
   if acount<7&&bcount<7 then break
  minGallop:=minGallop+1
  AR minGallop
 unsupported "internal:list.sort.merge-bound"):=rfl
abbrev H5:=Option (Array Keyed)×Nat×Nat×Array Keyed×Nat
abbrev H6:=Option (Array Keyed)×Nat×Nat×Array Keyed×Nat×Nat
abbrev H7:=Option (Array Keyed)×Nat×Nat×Array Keyed×Nat×Nat×Nat
def HC (a b out:Array Keyed)(na nb mg ac bc:Nat):StateT SortSt Sem (ForInStep H7):=do
 let y <- elem' a (na-1)
 if (na-1==0)=true then pure (.done (some (doneH a b (out.push y) (na-1) nb),na-1,nb,out.push y,mg,ac,bc))
 else if (decide (ac<7)&&decide (bc<7))=true then pure (.done (none,na-1,nb,out.push y,mg,ac,bc)) else pure (.yield (none,na-1,nb,out.push y,mg,ac,bc))
def HB (a b out:Array Keyed)(na nb mg ac bc:Nat):StateT SortSt Sem (ForInStep H7):=do
 let y <- elem' b (nb-1)
 if (nb-1==1)=true then pure (.done (some (firstB a b (out.push y) na (nb-1)),na,nb-1,out.push y,mg,ac,bc))
 else do
  let z <- elem' a (na-1)
  let x <- B3 true z b 0 (nb-1) (nb-1-1)
  match x with
  |some t=>if nb-1-t > 0 then (if (t==1)=true then pure (.done (some (firstB a b (out.push y++(b.extract t (nb-1)).reverse) na t),na,t,out.push y++(b.extract t (nb-1)).reverse,mg,ac,nb-1-t)) else if (t==0)=true then pure (.done (some (doneH a b (out.push y++(b.extract t (nb-1)).reverse) na t),na,t,out.push y++(b.extract t (nb-1)).reverse,mg,ac,nb-1-t)) else HC a b (out.push y++(b.extract t (nb-1)).reverse) na t mg ac (nb-1-t)) else HC a b (out.push y) na (nb-1) mg ac (nb-1-t)
  |_=>pure (.done (some (doneH a b (out.push y) na (nb-1)),na,nb-1,out.push y,mg,ac,bc))
def HA (a b out:Array Keyed)(na nb mg ac bc:Nat):StateT SortSt Sem (ForInStep H7):=do
 AR mg
 let y <- elem' b (nb-1)
 let x <- B3 false y a 0 na (na-1)
 match x with
 |some t=>if na-t > 0 then (if (t==0)=true then pure (.done (some (doneH a b (out++(a.extract t na).reverse) t nb),t,nb,out++(a.extract t na).reverse,mg,na-t,bc)) else HB a b (out++(a.extract t na).reverse) t nb mg (na-t) bc) else HB a b out na nb mg (na-t) bc
 |_=>pure (.done (some (doneH a b out na nb),na,nb,out,mg,ac,bc))
def H1 (a b:Array Keyed)(mg:Nat)(c:H6):StateT SortSt Sem (ForInStep H6):=do
 let y <- elem' b (c.2.2.1-1)
 let z <- elem' a (c.2.1-1)
 let x <- lt' y z
 match x with
 |some gD=>
  if gD=true then
   elem' a (c.2.1-1) >>= fun y=>
   if (c.2.1-1==0)=true then pure (.done (some (doneH a b (c.2.2.2.1.push y) (c.2.1-1) c.2.2.1),c.2.1-1,c.2.2.1,c.2.2.2.1.push y,c.2.2.2.2.1+1,0))
   else if c.2.2.2.2.1+1 >= mg then pure (.done (none,c.2.1-1,c.2.2.1,c.2.2.2.1.push y,c.2.2.2.2.1+1,0)) else pure (.yield (none,c.2.1-1,c.2.2.1,c.2.2.2.1.push y,c.2.2.2.2.1+1,0))
  else
   elem' b (c.2.2.1-1) >>= fun y=>
   if (c.2.2.1-1==1)=true then pure (.done (some (firstB a b (c.2.2.2.1.push y) c.2.1 (c.2.2.1-1)),c.2.1,c.2.2.1-1,c.2.2.2.1.push y,0,c.2.2.2.2.2+1))
   else if c.2.2.2.2.2+1 >= mg then pure (.done (none,c.2.1,c.2.2.1-1,c.2.2.2.1.push y,0,c.2.2.2.2.2+1)) else pure (.yield (none,c.2.1,c.2.2.1-1,c.2.2.2.1.push y,0,c.2.2.2.2.2+1))
 |_=>pure (.done (some (doneH a b c.2.2.2.1 c.2.1 c.2.2.1),c.2.1,c.2.2.1,c.2.2.2.1,c.2.2.2.2.1,c.2.2.2.2.2))
def H2 (a b:Array Keyed)(c:H7):StateT SortSt Sem (ForInStep H7):=if c.2.2.2.2.1 > 1 then HA a b c.2.2.2.1 c.2.1 c.2.2.1 (c.2.2.2.2.1-1) c.2.2.2.2.2.1 c.2.2.2.2.2.2 else HA a b c.2.2.2.1 c.2.1 c.2.2.1 c.2.2.2.2.1 c.2.2.2.2.2.1 c.2.2.2.2.2.2
def HO (a b:Array Keyed)(c:H5):StateT SortSt Sem (ForInStep H5):=do
 let d <- forIn [0:a.size+b.size] ((none,c.2.1,c.2.2.1,c.2.2.2.1,0,0):H6) fun _ d=>H1 a b c.2.2.2.2 d
 match d.1 with
 |some r=>pure (.done (some r,d.2.1,d.2.2.1,d.2.2.2.1,c.2.2.2.2))
 |none=>do
  liftM (rule "list.sort.gallop")
  let e <- forIn [0:a.size+b.size] ((none,d.2.1,d.2.2.1,d.2.2.2.1,c.2.2.2.2+1,d.2.2.2.2.1,d.2.2.2.2.2):H7) fun _ e=>H2 a b e
  match e.1 with
  |some r=>pure (.done (some r,e.2.1,e.2.2.1,e.2.2.2.1,e.2.2.2.2.1))
  |none=>do
   AR (e.2.2.2.2.1+1)
   pure (.yield (none,e.2.1,e.2.2.1,e.2.2.2.1,e.2.2.2.2.1+1))
def Lw (a b:Array Keyed):Hy a b=(do
 liftM (rule "list.sort.merge-hi")
 let y <- elem' a (a.size-1)
 if (a.size-1==0)=true then pure (doneH a b #[y] (a.size-1) b.size)
 else if (b.size==1)=true then pure (firstB a b #[y] (a.size-1) b.size)
 else do
  let g <- get
  let c <- forIn [0:a.size+b.size] ((none,a.size-1,b.size,#[y],gallopOf g):H5) fun _ c=>HO a b c
  match c.1 with
  |some r=>pure r
  |none=>unsupported "internal:list.sort.merge-bound"):=by
 rw[MA]
 refine jJ_ (bind _) (funext fun _=>jJ_ (bind _) (funext fun y=>?_))
 refine jJ_ (ite _ _) (jJ_ (ite _ _) (jJ_ (bind _) (funext fun g=>?_)))
 refine congr (jJ_ bind (jJ_ (forIn _ _) (funext fun _=>funext fun c=>?_))) (funext fun c=>?_)
 ·unfold HO
  dsimp only
  refine congr (jJ_ bind (jJ_ (forIn _ _) (funext fun _=>funext fun d=>?_))) (funext fun d=>?_)
  ·unfold H1
   rfl
  ·cases d.1 with
   |some r=>rfl
   |none=>
    dsimp only
    refine jJ_ (bind _) (funext fun _=>congr (jJ_ bind (jJ_ (forIn _ _) (funext fun _=>funext fun e=>?_))) (funext fun e=>?_))
    ·unfold H2 HA HB HC
     rfl
    ·cases e.1 with
     |some r=>rfl
     |none=>rfl
 ·cases c.1 with
  |some r=>rfl
  |none=>rfl
section
variable {α:Type} {R:α->α->Prop} {A B:List α}
def Im (A:List α)  (h:n<=A.length):A.reverse.drop (A.length-n)=(A.take n).reverse:=by
 rw[List.drop_reverse,show A.length-(A.length-n)=n by lia]
def Q2 (A:List α)  (h:n<=A.length)(ht:t<=n):(A.reverse.drop (A.length-n)).take (n-t)=((A.take n).drop t).reverse:=by
 rw[Im A h,List.take_reverse,jw_,show min n A.length-(n-t)=t by lia]
def Mgd.rev  (h:Mgd (fun x y=>R y x) B.reverse A.reverse r.reverse):Mgd R A B r:=by
 refine⟨?_,xd_.mp h.2⟩
 have:=h.1
 rw[<-q7_]at this
 exact ((ud r).symm.trans this).trans (ud _)
end
section
variable {prog:Program} {w:World} {A:Around} {E:Value->Shared->Prop} {s:Shared} {a₀:Array Keyed} {κ:KeyKind} {kd:SortKind} {a b out:Array Keyed} {na nb:Nat}
structure MH (κ:KeyKind)(a b out:Array Keyed)(na nb:Nat):Prop where
 ha:na<=a.size
 hb:nb<=b.size
 mi:MI (fun x y=>LeK κ y x) a.toList.reverse b.toList.reverse out.toList (a.toList.length-na) (b.toList.length-nb)
def MH.swap (h:MH κ a b out na nb):MH κ b a out nb na:=⟨h.hb,h.ha,h.mi.swap⟩
def Q3   (h:x∈(a.toList.take na).drop t):∃j,∃hj:j<a.size,t<=j/\j<na/\x=a[j]:=by
 obtain⟨k,hk,e⟩:=x6_.mp h
 rw[wf_,ub]at e
 rw[xf_,jw_]at hk
 exact⟨t+k,by simp at hk;lia,by lia,by lia,by rw[<-e];simp⟩
def NN  (h:x∈a.toList.take na):∃j,∃hj:j<a.size,j<na/\x=a[j]:=by
 obtain⟨j,hj,_,h2,e⟩:=Q3 (t:=0) (by simpa using h)
 exact⟨j,hj,h2,e⟩
def MH.extA (h:MH κ a b out na nb)(sA:a.toList.Pairwise (LeK κ))  (ht:t<=na)(hx:∀j (hj:j<a.size),t<=j->j<na->∀y∈b.toList.take nb,LeK κ y a[j]):MH κ a b (out++(a.extract t na).reverse) t nb:=by
 have hna:=h.ha
 have hl:a.toList.length=a.size:=j3_
 have:=h.mi.ta (xd_.mpr sA) (k:=na-t) (by rw[xU_];lia) (by
  rw[Q2 _ s!"" ht,Im _ (by have:=h.hb;simpa using this)]
  intro x fi y hy
  obtain⟨j,hj,h1,h2,rfl⟩:=Q3 (q5_.mp fi)
  exact hx j hj h1 h2 y (q5_.mp hy))
 rw[Q2 _ s!"" ht,show a.toList.length-na+(na-t)=a.toList.length-t by lia]at this
 refine⟨by lia,h.hb,?_⟩
 rw[qX_,x7_,EY,show (wI t a.toList).take (na-t)=(a.toList.take na).drop t by rw[uN]]
 exact this
def MH.extB (h:MH κ a b out na nb)(sB:b.toList.Pairwise (LeK κ))  (ht:t<=nb)(hx:∀j (hj:j<b.size),t<=j->j<nb->∀y∈a.toList.take na,LeK κ y b[j]):MH κ a b (out++(b.extract t nb).reverse) na t:=(h.swap.extA sB ht hx).swap
def MH.pushA (h:MH κ a b out na nb)(sA:a.toList.Pairwise (LeK κ))(h1:1<=na)(hi:na-1<a.size)(hx:∀y∈b.toList.take nb,LeK κ y a[na-1]):MH κ a b (out.push a[na-1]) (na-1) nb:=by
 have hna:=h.ha
 have:=h.extA sA (t:=na-1) s!"" (fun j hj g1 g2 y hy=>by (have e:j=na-1:=by lia);subst e;exact hx y hy)
 have e:(a.extract (na-1) na).reverse = #[a[na-1]]:=by
  apply wa
  rw[x7_,EY,show na-(na-1)=1 by lia,Vf hi];rfl
 rw[e]at this
 simpa using this
def MH.pushB (h:MH κ a b out na nb)(sB:b.toList.Pairwise (LeK κ))(h1:1<=nb)(hi:nb-1<b.size)(hx:∀y∈a.toList.take na,LeK κ y b[nb-1]):MH κ a b (out.push b[nb-1]) na (nb-1):=(h.swap.pushA sB h1 hi hx).swap
def WR (a:Array Keyed)(n:Nat):(a.extract 0 n).toList=a.toList.take n:=by rw[EY];simp
def MP.doneH (M:MP a₀ κ a b)(h:MH κ a b out na nb)(he:na=0\/nb=0):Mgd (LeK κ) a.toList b.toList (doneH a b out na nb).toList:=by
 apply Mgd.rev
 have hA:=h.ha
 have hB:=h.hb
 have:=h.mi.swap.done (xd_.mpr M.sB) (xd_.mpr M.sA) (by simp only[xU_];simp only[j3_];lia)
 rw[Im _ (by simpa using hB),Im _ (by simpa using hA)]at this
 have e:(aS.doneH a b out na nb).toList.reverse=out.toList++(b.toList.take nb).reverse++(a.toList.take na).reverse:=by
  unfold aS.doneH
  simp only[qX_,WR,x7_,q7_,q3_,qg_]
 rw[e];exact this
def MP.firstB (M:MP a₀ κ a b)(h:MH κ a b out na nb)(he:nb=1):Mgd (LeK κ) a.toList b.toList (firstB a b out na nb).toList:=by
 apply Mgd.rev
 have hA:=h.ha
 have hB:=h.hb
 have:=h.mi.swap.last (xd_.mpr M.sB) (xd_.mpr M.sA) (by
  rw[Im _ (by simpa using hB)]
  intro x hx y hy
  obtain⟨j,hj,h2,rfl⟩:=NN (q5_.mp hy)
  have e:j=0:=by lia
  subst e
  exact M.hf x (q5_.mp hx))
 rw[Im _ (by simpa using hA),Im _ (by simpa using hB)]at this
 have e:(aS.firstB a b out na nb).toList.reverse=out.toList++(a.toList.take na).reverse++(b.toList.take nb).reverse:=by
  unfold aS.firstB
  simp only[qX_,WR,x7_,q7_,q3_,qg_]
 rw[e];exact this
def Hz (sA:a.toList.Pairwise (LeK κ))(hi:na-1<a.size):∀y∈a.toList.take na,LeK κ y a[na-1]:=fun y hy=>by
 obtain⟨j,hj,h2,rfl⟩:=NN hy
 exact Q1 sA s!"" hi
def MHJ (κ:KeyKind)(a b out:Array Keyed)(na nb p:Nat):Prop:=MH κ a b out na nb/\1<=na/\2<=nb/\na+nb+p<=a.size+b.size
def Xm (hO:LtOk kd κ a₀ prog w A E s)(M:MP a₀ κ a b){st:SortSt}(hk:kindOf st=kd)   (h1:c.1=none)(hJ:MHJ κ a b c.2.2.2.1 c.2.1 c.2.2.1 p)
  (h:∀d:H6,d.1=none->MHJ κ a b d.2.2.2.1 d.2.1 d.2.2.1 (p+1)->Q (.yield d) st/\Q (.done d) st) (hd:∀(d:H6) x,d.1=some x->Mgd (LeK κ) a.toList b.toList x.toList->Q (.done d) st):
  wpS (model prog w) A E s (H1 a b mg c) Q st:=by
 obtain⟨c0,na,nb,out,ac,bc⟩:=c
 obtain⟨hM,h2,h3,h4⟩:=hJ
 dsimp only at *
 have hA:=hM.ha
 have hB:=hM.hb
 unfold H1
 dsimp only
 refine jB_ (Bn (show nb-1<b.size by lia) (jB_ (Bn (show na-1<a.size by lia) (jB_ (hO _ _ _ _ (M.hB _ (by simp)) (M.hA _ (by simp)) hk ?_)))))
 cases e:κ.blt (KE κ b[nb-1]) (KE κ a[na-1]) with
 |true=>
  dsimp only
  rw[if_pos rfl]
  have bY:=hM.pushA M.sA h2 s!"" (fun y hy=>LeK.trans (Hz M.sB s!"" y hy) (qz_ e))
  refine jB_ (Bn (show na-1<a.size by lia) ?_)
  by_cases hq:na-1=0
  ·rw[if_pos (by simpa using hq)]
   exact jI_ (hd _ _ rfl (M.doneH bY (.inl hq)))
  ·rw[if_neg (by simpa using hq)]
   have hh:=h (none,na-1,nb,out.push a[na-1],ac+1,0) rfl (show MHJ κ a b (out.push a[na-1]) (na-1) nb (p+1) from ⟨bY,by lia,h3,by lia⟩)
   split
   ·exact jI_ hh.2
   ·exact jI_ hh.1
 |false=>
  dsimp only
  rw[if_neg (by simp)]
  have bY:=hM.pushB M.sB s!"" s!"" (fun y hy=>LeK.trans (Hz M.sA s!"" y hy) e)
  refine jB_ (Bn (show nb-1<b.size by lia) ?_)
  by_cases hq:nb-1=1
  ·rw[if_pos (by simpa using hq)]
   exact jI_ (hd _ _ rfl (M.firstB bY hq))
  ·rw[if_neg (by simpa using hq)]
   have hh:=h (none,na,nb-1,out.push b[nb-1],0,bc+1) rfl (show MHJ κ a b (out.push b[nb-1]) na (nb-1) (p+1) from ⟨bY,h2,by lia,by lia⟩)
   split
   ·exact jI_ hh.2
   ·exact jI_ hh.1
def WT (M:MP a₀ κ a b){st:SortSt}  (hM:MH κ a b out na nb)(h2:1<=na)(h3:2<=nb)(h4:na+nb+p<=a.size+b.size)(hi:na-1<a.size)(bg:∀y∈b.toList.take nb,LeK κ y a[na-1])
  (h:∀d:H7,d.1=none->MHJ κ a b d.2.2.2.1 d.2.1 d.2.2.1 p->Q (.yield d) st/\Q (.done d) st) (hd:∀(d:H7) x,d.1=some x->Mgd (LeK κ) a.toList b.toList x.toList->Q (.done d) st):
  wpS (model prog w) A E s (HC a b out na nb mg ac bc) Q st:=by
 unfold HC
 refine jB_ (Bn hi ?_)
 have bY:=hM.pushA M.sA h2 hi bg
 by_cases hq:na-1=0
 ·rw[if_pos (by simpa using hq)]
  exact jI_ (hd _ _ rfl (M.doneH bY (.inl hq)))
 ·rw[if_neg (by simpa using hq)]
  have hh:=h (none,na-1,nb,out.push a[na-1],mg,ac,bc) rfl (show MHJ κ a b (out.push a[na-1]) (na-1) nb p from ⟨bY,by lia,h3,by lia⟩)
  split
  ·exact jI_ hh.2
  ·exact jI_ hh.1
def WU (hO:LtOk kd κ a₀ prog w A E s)(M:MP a₀ κ a b){st:SortSt}(hk:kindOf st=kd)  (hM:MH κ a b out na nb)(h2:1<=na)(h3:2<=nb)(h4:na+nb+p<=a.size+b.size)(hi:nb-1<b.size)(bg:∀y∈a.toList.take na,LeK κ y b[nb-1])
  (h:∀d:H7,d.1=none->MHJ κ a b d.2.2.2.1 d.2.1 d.2.2.1 p->Q (.yield d) st/\Q (.done d) st) (hd:∀(d:H7) x,d.1=some x->Mgd (LeK κ) a.toList b.toList x.toList->Q (.done d) st):
  wpS (model prog w) A E s (HB a b out na nb mg ac bc) Q st:=by
 unfold HB
 have hA:=hM.ha
 have hB:=hM.hb
 refine jB_ (Bn hi ?_)
 have bY:=hM.pushB M.sB s!"" hi bg
 by_cases hq:nb-1=1
 ·rw[if_pos (by simpa using hq)]
  exact jI_ (hd _ _ rfl (M.firstB bY hq))
 ·rw[if_neg (by simpa using hq)]
  refine jB_ (Bn (show na-1<a.size by lia) (jB_ (Kn hO hk (M.hA _ (by simp)) M.hB (Ko M.sB _ _) s!"" s!"" (fun t mZ g1 g2=>?_))))
  dsimp only
  have gC:∀y∈b.toList.take t,LeK κ y a[na-1]:=fun y hy=>by
   obtain⟨j,hj,aW,rfl⟩:=NN hy
   have:=g1 j s!"" aW
   simp only[zG_]at this
   exact qz_ this
  by_cases dN:nb-1-t > 0
  ·rw[if_pos dN]
   have dO:=bY.extB M.sB (t:=t) s!"" (fun j hj pU pV y hy=>by
    have:=g2 j s!"" pU pV
    simp only[zG_]at this
    exact LeK.trans (Hz M.sA s!"" y hy) this)
   by_cases cV:t=1
   ·rw[if_pos (by simpa using cV)]
    exact jI_ (hd _ _ rfl (M.firstB dO cV))
   ·rw[if_neg (by simpa using cV)]
    by_cases jr:t=0
    ·rw[if_pos (by simpa using jr)]
     exact jI_ (hd _ _ rfl (M.doneH dO (.inr jr)))
    ·rw[if_neg (by simpa using jr)]
     exact WT M dO h2 s!"" s!"" s!"" gC h hd
  ·rw[if_neg dN]
   have e:t=nb-1:=by lia
   subst e
   exact WT M bY h2 s!"" s!"" s!"" gC h hd
def WV (hO:LtOk kd κ a₀ prog w A E s)(M:MP a₀ κ a b){st:SortSt}(hk:kindOf st=kd)  (hJ:MHJ κ a b out na nb p)
  (h:∀(d:H7) ag,SG st ag->d.1=none->MHJ κ a b d.2.2.2.1 d.2.1 d.2.2.1 p->Q (.yield d) ag/\Q (.done d) ag) (hd:∀(d:H7) x ag,SG st ag->d.1=some x->Mgd (LeK κ) a.toList b.toList x.toList->Q (.done d) ag):
  wpS (model prog w) A E s (HA a b out na nb mg ac bc) Q st:=by
 obtain⟨hM,h2,h3,h4⟩:=hJ
 have hA:=hM.ha
 have hB:=hM.hb
 unfold HA
 refine jB_ (Kp ?_)
 have hG:SG st (En st mg):=(SG.refl st).set mg
 refine jB_ (Bn (show nb-1<b.size by lia) (jB_ (Km hO (hG.kd.trans hk) (M.hB _ (by simp)) M.hA (Ko M.sA _ _) s!"" s!"" (fun t mZ g1 g2=>?_))))
 dsimp only
 have bg:∀y∈a.toList.take t,LeK κ y b[nb-1]:=fun y hy=>by
  obtain⟨j,hj,aW,rfl⟩:=NN hy
  have:=g1 j s!"" aW
  simp only[zG_]at this
  exact this
 by_cases dN:na-t > 0
 ·rw[if_pos dN]
  have dO:=hM.extA M.sA (t:=t) s!"" (fun j hj pU pV y hy=>by
   have:=g2 j s!"" pU pV
   simp only[zG_]at this
   exact LeK.trans (Hz M.sB s!"" y hy) (qz_ this))
  by_cases hq:t=0
  ·rw[if_pos (by simpa using hq)]
   exact jI_ (hd _ _ _ hG rfl (M.doneH dO (.inl hq)))
  ·rw[if_neg (by simpa using hq)]
   exact WU hO M (hG.kd.trans hk) dO s!"" h3 s!"" s!"" bg (fun d=>h d _ hG) (fun d x=>hd d x _ hG)
 ·rw[if_neg dN]
  have e:t=na:=by lia
  subst e
  exact WU hO M (hG.kd.trans hk) hM h2 h3 h4 s!"" bg (fun d=>h d _ hG) (fun d x=>hd d x _ hG)
def Xn (hO:LtOk kd κ a₀ prog w A E s)(M:MP a₀ κ a b){st:SortSt}(hk:kindOf st=kd)   (hJ:MHJ κ a b c.2.2.2.1 c.2.1 c.2.2.1 p)
  (h:∀(d:H7) ag,SG st ag->d.1=none->MHJ κ a b d.2.2.2.1 d.2.1 d.2.2.1 p->Q (.yield d) ag/\Q (.done d) ag) (hd:∀(d:H7) x ag,SG st ag->d.1=some x->Mgd (LeK κ) a.toList b.toList x.toList->Q (.done d) ag):
  wpS (model prog w) A E s (H2 a b c) Q st:=by
 unfold H2
 split
 ·exact WV hO M hk hJ h hd
 ·exact WV hO M hk hJ h hd
def Xo (hO:LtOk kd κ a₀ prog w A E s)(M:MP a₀ κ a b){st:SortSt}(hk:kindOf st=kd)   (hJ:MHJ κ a b c.2.2.2.1 c.2.1 c.2.2.1 p)
  (h:∀(d:H5) ag,SG st ag->d.1=none->MHJ κ a b d.2.2.2.1 d.2.1 d.2.2.1 (p+1)->Q (.yield d) ag) (hd:∀(d:H5) x ag,SG st ag->d.1=some x->Mgd (LeK κ) a.toList b.toList x.toList->Q (.done d) ag):
  wpS (model prog w) A E s (HO a b c) Q st:=by
 have b9:1<=a.size+b.size:=by have:=M.ha;lia
 unfold HO
 refine jB_ (x4_ (qP_ (I:=fun x d ag=>ag=st/\d.1=none/\MHJ κ a b d.2.2.2.1 d.2.1 d.2.2.1 (p+x))
   (Q:=fun d ag=>ag=st/\((d.1=none/\MHJ κ a b d.2.2.2.1 d.2.1 d.2.2.1 (p+1)) \/ ∃x,d.1=some x/\Mgd (LeK κ) a.toList b.toList x.toList)) ?step ?fin ⟨rfl,rfl,hJ⟩) ?post)
 case step=>
  rintro x d ag _ hx ⟨rfl,h1,h2⟩
  refine Xm hO M hk h1 h2 (fun d' g1 g2=>⟨⟨rfl,g1,g2⟩,rfl,.inl ⟨g1,g2.1,g2.2.1,g2.2.2.1,?_⟩⟩) (fun d' x g1 g2=>⟨rfl,.inr ⟨x,g1,g2⟩⟩)
  have:=g2.2.2.2;lia
 case fin=>
  rintro d ag ⟨rfl,h1,h2⟩
  refine⟨rfl,.inl ⟨h1,h2.1,h2.2.1,h2.2.2.1,?_⟩⟩
  have:=h2.2.2.2;lia
 case post=>
  rintro d ag ⟨rfl,hh⟩
  rcases hh with ⟨h1,h2⟩|⟨x,h1,h2⟩
  ·rw[h1]
   dsimp only
   refine jB_ (Gs ?_)
   refine jB_ (x4_ (qP_ (I:=fun x d aC=>SG ag aC/\d.1=none/\MHJ κ a b d.2.2.2.1 d.2.1 d.2.2.1 (p+1))
    (Q:=fun d aC=>SG ag aC/\((d.1=none/\MHJ κ a b d.2.2.2.1 d.2.1 d.2.2.1 (p+1)) \/ ∃x,d.1=some x/\Mgd (LeK κ) a.toList b.toList x.toList)) ?step2 ?fin2 ⟨SG.refl _,rfl,h2⟩) ?post2)
   case step2=>
    rintro x e aC _ hx ⟨g0,g1,g2⟩
    exact Xn hO M (g0.kd.trans hk) g2 (fun d' dH k0 k1 k2=>⟨⟨g0.trans k0,k1,k2⟩,g0.trans k0,.inl ⟨k1,k2⟩⟩) (fun d' x dH k0 k1 k2=>⟨g0.trans k0,.inr ⟨x,k1,k2⟩⟩)
   case fin2=>
    rintro e aC ⟨g0,g1,g2⟩
    exact⟨g0,.inl ⟨g1,g2⟩⟩
   case post2=>
    rintro e aC ⟨g0,hh⟩
    rcases hh with ⟨g1,g2⟩|⟨x,g1,g2⟩
    ·rw[g1]
     dsimp only
     refine jB_ (Kp (jI_ ?_))
     exact h (none,e.2.1,e.2.2.1,e.2.2.2.1,e.2.2.2.2.1+1) _ (g0.set _) rfl g2
    ·rw[g1]
     dsimp only
     exact jI_ (hd _ x _ g0 rfl g2)
  ·rw[h1]
   dsimp only
   exact jI_ (hd _ x _ (SG.refl _) rfl h2)
def OJ {st:SortSt}  (hO:LtOk kd κ a₀ prog w A E s)(M:MP a₀ κ a b)(hk:kindOf st=kd)
  (h:∀r ag,SG st ag->Mgd (LeK κ) a.toList b.toList r.toList->Q r ag):wpS (model prog w) A E s (Hy a b) Q st:=by
 have ha:=M.ha
 have hb:=M.hb
 rw[Lw]
 refine jB_ (Gs (jB_ (Bn (show a.size-1<a.size by lia) ?_)))
 have hM0:MH κ a b #[] a.size b.size:=⟨ji_ _,ji_ _,by simpa using MI.start _ _⟩
 have hM:MH κ a b #[a[a.size-1]] (a.size-1) b.size:=hM0.pushA M.sA ha s!"" (fun y hy=>M.hl y (xk_ hy))
 by_cases h1:a.size-1=0
 ·rw[if_pos (by simpa using h1)]
  exact jI_ (h _ _ (SG.refl _) (M.doneH hM (.inl h1)))
 ·rw[if_neg (by simpa using h1)]
  by_cases h2:b.size=1
  ·rw[if_pos (by simpa using h2)]
   exact jI_ (h _ _ (SG.refl _) (M.firstB hM h2))
  ·rw[if_neg (by simpa using h2)]
   refine jB_ (wpS_get ?_)
   refine jB_ (x4_ (qP_ (I:=fun x c ag=>SG st ag/\c.1=none/\MHJ κ a b c.2.2.2.1 c.2.1 c.2.2.1 (1+x))
    (Q:=fun c ag=>SG st ag/\∃x,c.1=some x/\Mgd (LeK κ) a.toList b.toList x.toList) ?step ?fin ⟨SG.refl _,rfl,show MHJ κ a b #[a[a.size-1]] (a.size-1) b.size (1+0) from ⟨hM,by lia,by lia,by lia⟩⟩) ?post)
   case step=>
    rintro x c ag _ hx ⟨g0,g1,g2⟩
    exact Xo hO M (g0.kd.trans hk) g2 (fun d aV k0 k1 k2=>⟨g0.trans k0,k1,k2⟩) (fun d x aV k0 k1 k2=>⟨g0.trans k0,x,k1,k2⟩)
   case fin=>
    rintro c ag ⟨g0,g1,g2⟩
    have:=g2.2.1;have:=g2.2.2.1;have:=g2.2.2.2
    lia
   case post=>
    rintro c ag ⟨g0,x,g1,g2⟩
    rw[g1]
    dsimp only
    exact jI_ (h x ag g0 g2)
end
end aS
namespace aS
open PySem PyProof.Rows
section
variable {prog:Program} {w:World} {A:Around} {E:Value->Shared->Prop} {s:Shared} {a₀:Array Keyed} {κ:KeyKind} {kd:SortKind}
structure SQ (kd:SortKind)(a₀:Array Keyed)(lo hi:Nat)(st ag:SortSt):Prop where
 b:SB kd a₀ ag
 pe:pendingOf ag=pendingOf st
 out:Out lo hi (arrOf st) (arrOf ag)
def SQ.refl {lo hi:Nat}{st:SortSt}(h:SB kd a₀ st):SQ kd a₀ lo hi st st:=⟨h,rfl,Out.refl _ _ _⟩
def SQ.trans {lo hi:Nat}{st ag aC:SortSt}(h:SQ kd a₀ lo hi st ag)(g:SQ kd a₀ lo hi ag aC):SQ kd a₀ lo hi st aC:=⟨g.b,g.pe.trans h.pe,h.out.trans g.out⟩
def SQ.mir {lo hi i j:Nat}{st ag:SortSt}(h:SQ kd a₀ lo hi st ag)(hj:j<=a₀.size)(h1:lo<=i)(h2:j<=hi):SQ kd a₀ lo hi st (setArr ag (mirror (arrOf ag) i j ((j-i) / 2))):=
 ⟨h.b.setArr (mirror_perm _ _ _ _),h.pe,h.out.trans (Jx (by rw[h.b.size];exact hj) h1 h2)⟩
def SQ.bub {lo hi k l:Nat}{st ag:SortSt}(h:SQ kd a₀ lo hi st ag)(hk:k<a₀.size)(h1:lo<=l)(hl:l<=k)(h2:k<hi):SQ kd a₀ lo hi st (setArr ag (bubble (arrOf ag) k (k-l))):=
 ⟨h.b.setArr (bubble_perm _ _ _),h.pe,h.out.trans (OC (by rw[h.b.size];exact hk) s!"" s!"" h2)⟩
def NO {st bJ:SortSt}{lo n ak:Nat}  (hO:LtOk kd κ a₀ prog w A E s)(hn:lo+ak<=a₀.size)(h1:1<=n)(fS:n<=ak)(hB:SQ kd a₀ lo (lo+ak) bJ st)(hs:NI κ (arrOf st) lo (lo+n))
  (h:∀m ag,SQ kd a₀ lo (lo+ak) bJ ag->1<=m->m<=ak->SO κ (arrOf ag) lo (lo+m)->Q (some m) ag):
  wpS (model prog w) A E s (My lo n ak) Q st:=Ve hO hn h1 fS hB.b hs (fun m ag g1 g2 g3 g4 g5 g6=>h m ag (hB.trans ⟨g1,g2,g3⟩) g4 g5 g6)
def Sv (lo n ak:Nat):StateT SortSt Sem DescSt:=
 forIn [n:ak] ((none,n,0):DescSt) fun _ c=>do
  let x <- ltAt' (lo+c.2.1) (lo+c.2.1-1)
  match x with
  |some aM=>
   if aM=true then
    if c.2.2 > 0 then do
     reverseSlice' (lo+c.2.1-(c.2.2+1)) (lo+c.2.1)
     pure (.yield (none,c.2.1+1,0))
    else pure (.yield (none,c.2.1+1,0))
   else do
    let x <- ltAt' (lo+c.2.1-1) (lo+c.2.1)
    match x with
    |some dZ=>if dZ=true then pure (.done (none,c.2.1,c.2.2)) else pure (.yield (none,c.2.1+1,c.2.2+1))
    |_=>pure (.done (some none,c.2.1,c.2.2))
  |_=>pure (.done (some none,c.2.1,c.2.2))
def OK (lo n ak:Nat):StateT SortSt Sem (Option Nat):=do
 liftM (rule "list.sort.descending-run")
 let c <- Sv lo (n+1) ak
 match c.1 with
 |some r=>pure r
 |none=>
  if c.2.2 > 0 then do
   reverseSlice' (lo+c.2.1-(c.2.2+1)) (lo+c.2.1)
   My lo c.2.1 ak
  else My lo c.2.1 ak
def Kq (lo ak:Nat):countRun' lo ak=(do
  let c <- ascL lo 1 ak
  match c.1 with
  |some r=>pure r
  |none=>
   if (c.2==ak)=true then pure (some c.2)
   else if c.2 > 1 then do
    let x <- ltAt' lo (lo+c.2-1)
    match x with
    |some rose=>if rose=true then pure (some c.2) else do
      reverseSlice' lo (lo+c.2)
      OK lo c.2 ak
    |_=>pure none
   else OK lo c.2 ak):=by
 have tl:∀n,(do
   reverseSlice' lo (lo+n)
   let mut n:=n
   for _ in [n:ak] do
    let some aM <- ltAt' (lo+n) (lo+n-1)|return none
    if aM then break
    n:=n+1
   return some n:StateT SortSt Sem (Option Nat))=My lo n ak:=fun n=>by
  unfold My ascL
  refine jJ_ (bind _) (funext fun _=>jJ_ (bind _) (funext fun c=>?_))
  obtain⟨r,m⟩:=c
  cases r<;>rfl
 have pl:∀n,(do
   rule "list.sort.descending-run"
   let mut n:=n
   n:=n+1
   let mut neq:=0
   for _ in [n:ak] do
    let some aM <- ltAt' (lo+n) (lo+n-1)|return none
    if aM then
     if neq > 0 then reverseSlice' (lo+n-(neq+1)) (lo+n)
     neq:=0
    else
     let some dZ <- ltAt' (lo+n-1) (lo+n)|return none
     if dZ then break
     neq:=neq+1
    n:=n+1
   if neq > 0 then reverseSlice' (lo+n-(neq+1)) (lo+n)
   reverseSlice' lo (lo+n)
   for _ in [n:ak] do
    let some aM <- ltAt' (lo+n) (lo+n-1)|return none
    if aM then break
    n:=n+1
   return some n:StateT SortSt Sem (Option Nat))=OK lo n ak:=fun n=>by
  unfold OK Sv
  refine jJ_ (bind _) (funext fun _=>jJ_ (bind _) (funext fun c=>?_))
  obtain⟨r,m,q⟩:=c
  cases r with
  |some r=>rfl
  |none=>
   dsimp only
   by_cases hq:q > 0
   ·rw[if_pos hq,if_pos hq]
    exact jJ_ (bind _) (funext fun _=>tl m)
   ·rw[if_neg hq,if_neg hq]
    exact tl m
 rw[countRun'_eq]
 unfold ascL
 refine jJ_ (bind _) (funext fun c=>?_)
 obtain⟨r,n⟩:=c
 cases r with
 |some r=>rfl
 |none=>
  dsimp only
  refine jJ_ (ite _ _) ?_
  by_cases hn:n > 1
  ·rw[if_pos hn,if_pos hn]
   refine jJ_ (bind _) (funext fun x=>?_)
   cases x with
   |none=>rfl
   |some rose=>
    dsimp only
    refine jJ_ (ite _ _) (jJ_ (bind _) (funext fun _=>pl n))
  ·rw[if_neg hn,if_neg hn]
   exact pl n
def Vg {st bJ:SortSt}{lo n ak:Nat}  (hO:LtOk kd κ a₀ prog w A E s)(hn:lo+ak<=a₀.size)(h1:1<=n)(fS:n<=ak)(hB:SQ kd a₀ lo (lo+ak) bJ st)(hs:NI κ (arrOf st) lo (lo+n))
  (h:∀m neq ag,SQ kd a₀ lo (lo+ak) bJ ag->n<=m->m<=ak->NI κ (arrOf ag) lo (lo+m)->neq+1<=m->(∀i,lo+m-(neq+1)<=i->i<lo+m->KK κ (arrOf ag) i=KK κ (arrOf ag) (lo+m-1))->Q (none,m,neq) ag):
  wpS (model prog w) A E s (Sv lo n ak) Q st:=by
 unfold Sv
 refine qP_ (I:=fun x c ag=>∃neq,c=(none,x,neq)/\SQ kd a₀ lo (lo+ak) bJ ag/\NI κ (arrOf ag) lo (lo+x)/\neq+1<=x /\
   (∀i,lo+x-(neq+1)<=i->i<lo+x->KK κ (arrOf ag) i=KK κ (arrOf ag) (lo+x-1))) ?step ?fin ⟨0,rfl,hB,hs,by lia,fun i h1 h2=>by congr 1;lia⟩
 case fin=>
  rintro c ag ⟨neq,rfl,g1,g2,g3,g4⟩
  rw[show max n ak=ak by lia]at g2 g3 g4 ⊢
  exact h ak neq ag g1 fS (ji_ _) g2 g3 g4
 case step=>
  rintro x c ag pS hxn ⟨neq,rfl,hQ,hN,hq,he⟩
  dsimp only
  have hsz:lo+x<=(arrOf ag).size:=by rw[hQ.b.size];lia
  refine jB_ (Ik hO hQ.b s!"" s!"" ?_)
  cases bU:κ.blt (KK κ (arrOf ag) (lo+x)) (KK κ (arrOf ag) (lo+x-1))
  case true=>
   simp only[xB_]
   have iJ:∀xs:Array Keyed,(∀k,KK κ xs k=KK κ (arrOf ag) k)->NI κ xs lo (lo+(x+1)):=by
    intro xs hk i j hl aW hj
    rw[hk,hk]
    rcases qZ_ j (lo+x) with jk|jk
    ·exact hN i j hl aW jk
    ·obtain rfl:j=lo+x:=by lia
     rcases qZ_ i (lo+x) with hi' | hi'
     ·exact xh_ (qz_ bU) (hN i (lo+x-1) hl s!"" s!"")
     ·obtain rfl:i=lo+x:=by lia
      exact qQ_ _
   by_cases gF:neq > 0
   ·rw[if_pos gF]
    exact jB_ (EX (jI_ ⟨0,rfl,hQ.mir s!"" s!"" s!"",iJ _ (zo_ hsz he),by lia,fun i h1 h2=>by congr 1;lia⟩))
   ·rw[if_neg gF]
    exact jI_ ⟨0,rfl,hQ,iJ _ (fun _=>rfl),by lia,fun i h1 h2=>by congr 1;lia⟩
  case false=>
   simp only[jS_,qS_]
   refine jB_ (Ik hO hQ.b s!"" s!"" ?_)
   cases hlarger:κ.blt (KK κ (arrOf ag) (lo+x-1)) (KK κ (arrOf ag) (lo+x))
   case true=>
    simp only[xB_]
    exact jI_ (h x neq ag hQ pS s!"" hN hq he)
   case false=>
    simp only[jS_,qS_]
    have same:KK κ (arrOf ag) (lo+x)=KK κ (arrOf ag) (lo+x-1):=KeyOrd.kle_antisymm hlarger bU
    refine jI_ ⟨neq+1,rfl,hQ,fun i j hl aW hj=>?_,by lia,fun i h1 h2=>?_⟩
    ·rcases qZ_ j (lo+x) with jk|jk
     ·exact hN i j hl aW jk
     ·obtain rfl:j=lo+x:=by lia
      rcases qZ_ i (lo+x) with hi' | hi'
      ·rw[same];exact hN i (lo+x-1) hl s!"" s!""
      ·obtain rfl:i=lo+x:=by lia
       exact qQ_ _
    ·rw[show lo+(x+1)-1=lo+x by lia]
     by_cases ft:i=lo+x
     ·rw[ft]
     ·rw[same];exact he i s!"" s!""
def Q4 {st bJ:SortSt}{lo n ak:Nat}  (hO:LtOk kd κ a₀ prog w A E s)(hn:lo+ak<=a₀.size)(fS:n+1<=ak)(hB:SQ kd a₀ lo (lo+ak) bJ st)(hs:NI κ (arrOf st) lo (lo+(n+1)))
  (h:∀m ag,SQ kd a₀ lo (lo+ak) bJ ag->1<=m->m<=ak->SO κ (arrOf ag) lo (lo+m)->Q (some m) ag):
  wpS (model prog w) A E s (OK lo n ak) Q st:=by
 unfold OK
 refine jB_ (Gs (jB_ (Vg hO hn s!"" fS hB hs fun m neq ag g1 g2 g3 g4 g5 g6=>?_)))
 dsimp only
 have hsz:lo+m<=(arrOf ag).size:=by rw[g1.b.size];lia
 by_cases gF:neq > 0
 ·rw[if_pos gF]
  refine jB_ (EX (NO hO hn s!"" g3 (g1.mir s!"" s!"" s!"") ?_ h))
  intro i j hl aW hj
  show κ.kle (KK κ (mirror (arrOf ag) _ _ _) j) (KK κ (mirror (arrOf ag) _ _ _) i)
  rw[zo_ hsz g6,zo_ hsz g6]
  exact g4 i j hl aW hj
 ·rw[if_neg gF]
  exact NO hO hn s!"" g3 g1 g4 h
def MB {st:SortSt}{lo ak:Nat}  (hO:LtOk kd κ a₀ prog w A E s)(hn:lo+ak<=a₀.size)(h1:1<=ak)(hB:SB kd a₀ st)
  (h:∀m ag,SQ kd a₀ lo (lo+ak) st ag->1<=m->m<=ak->SO κ (arrOf ag) lo (lo+m)->Q (some m) ag):
  wpS (model prog w) A E s (countRun' lo ak) Q st:=by
 have hQ:SQ kd a₀ lo (lo+ak) st st:=SQ.refl hB
 rw[Kq]
 refine jB_ (T4 hO hn (ji_ 1) h1 hB (fun i j hl aW hj=>by (obtain rfl:i=j:=by lia);exact qQ_ _) fun n cn fR jX hor=>?_)
 dsimp only
 by_cases fS:n=ak
 ·rw[if_pos (by simpa using fS)]
  exact jI_ (h n st hQ cn fR jX)
 ·rw[if_neg (by simpa using fS)]
  have aq:=hor.resolve_left fS
  by_cases lP:n > 1
  ·rw[if_pos lP]
   refine jB_ (Ik hO hB s!"" s!"" ?_)
   cases hrose:κ.blt (KK κ (arrOf st) lo) (KK κ (arrOf st) (lo+n-1))
   case true=>
    simp only[xB_]
    exact jI_ (h n st hQ cn fR jX)
   case false=>
    simp only[jS_,qS_]
    have hsz:lo+n<=(arrOf st).size:=by rw[hB.size];lia
    have aA:∀k,lo<=k->k<lo+n->KK κ (arrOf st) k=KK κ (arrOf st) (lo+n-1):=fun k lS fj=>
     KeyOrd.kle_antisymm (jX k (lo+n-1) lS s!"" s!"") (xh_ hrose (jX lo k (ji_ _) lS fj))
    refine jB_ (EX (Q4 hO hn s!"" (hQ.mir s!"" (ji_ _) s!"") ?_ h))
    intro i j hl aW hj
    show κ.kle (KK κ (mirror (arrOf st) _ _ _) j) (KK κ (mirror (arrOf st) _ _ _) i)
    rw[zo_ hsz aA,zo_ hsz aA]
    rcases qZ_ j (lo+n) with hjn|hjn
    ·rw[aA i hl s!"",aA j s!"" hjn];exact qQ_ _
    ·obtain rfl:j=lo+n:=by lia
     rcases qZ_ i (lo+n) with hi' | hi'
     ·rw[aA i hl hi'];exact qz_ aq
     ·obtain rfl:i=lo+n:=by lia
      exact qQ_ _
  ·rw[if_neg lP]
   obtain rfl:n=1:=by lia
   refine Q4 hO hn s!"" hQ ?_ h
   intro i j hl aW hj
   by_cases hi':i=j
   ·subst hi';exact qQ_ _
   ·obtain rfl:i=lo:=by lia
    obtain rfl:j=i+1:=by lia
    exact qz_ aq
def Kr {st:SortSt}{lo n ok:Nat}  (hO:LtOk kd κ a₀ prog w A E s)(hn:lo+n<=a₀.size)(hok:ok<=n)(hB:SB kd a₀ st)(hs:SO κ (arrOf st) lo (lo+ok))
  (h:∀ag,SQ kd a₀ lo (lo+n) st ag->SO κ (arrOf ag) lo (lo+n)->Q true ag):wpS (model prog w) A E s (binarySort' lo n ok) Q st:=by
 rw[binarySort'_eq]
 refine jB_ (x4_ (qP_ (I:=fun k c ag=>c=(none,())/\SQ kd a₀ lo (lo+n) st ag/\SO κ (arrOf ag) lo (lo+min k n))
  (Q:=fun c ag=>c=(none,())/\SQ kd a₀ lo (lo+n) st ag/\SO κ (arrOf ag) lo (lo+n)) ?step ?fin ?init) ?post)
 case post=>
  rintro c ag ⟨rfl,fq,bF⟩
  exact jI_ (h ag fq bF)
 case init=>
  refine⟨rfl,SQ.refl hB,fun i j hl aW hj=>?_⟩
  by_cases h1:ok=0
  ·obtain rfl:i=j:=by lia
   exact qQ_ _
  ·exact hs i j hl aW s!""
 case fin=>
  rintro c ag ⟨hc,fq,bF⟩
  refine⟨hc,fq,?_⟩
  rwa [show min (max (max ok 1) n) n=n by lia]at bF
 case step=>
  rintro k c ag hak jV ⟨rfl,hQ,bF⟩
  rw[show min k n=k by lia]at bF
  have hk:lo+k<a₀.size:=by lia
  refine jB_ (x4_ (qP_ (I:=fun x c aC=>aC=ag/\∃l r,c=(none,l,r)/\l<=r/\r<=k/\r-l<=k-x /\
    (∀i,lo<=i->i<lo+l->κ.kle (KK κ (arrOf ag) i) (KK κ (arrOf ag) (lo+k)))/\(∀i,lo+r<=i->i<lo+k->κ.klt (KK κ (arrOf ag) (lo+k)) (KK κ (arrOf ag) i)))
   (Q:=fun c aC=>aC=ag/\∃l r,c=(none,l,r)/\l<=k /\
    (∀i,lo<=i->i<lo+l->κ.kle (KK κ (arrOf ag) i) (KK κ (arrOf ag) (lo+k)))/\(∀i,lo+l<=i->i<lo+k->κ.klt (KK κ (arrOf ag) (lo+k)) (KK κ (arrOf ag) i))) ?istep ?ifin ?iinit) ?ipost)
  case iinit=>exact⟨rfl,0,k,rfl,by lia,by lia,by lia,fun i h0 hi=>by lia,fun i h1 h2=>by lia⟩
  case ifin=>
   rintro c aC ⟨rfl,l,r,rfl,hlr,pW,hm,hU,jq⟩
   obtain rfl:l=r:=by lia
   exact⟨rfl,l,l,rfl,pW,hU,jq⟩
  case istep=>
   rintro x c aC _ hxk ⟨rfl,l,r,rfl,hlr,pW,hm,hU,jq⟩
   dsimp only
   by_cases bC:l >= r
   ·rw[if_pos bC]
    obtain rfl:l=r:=by lia
    exact jI_ ⟨rfl,l,l,rfl,pW,hU,jq⟩
   ·rw[if_neg bC]
    refine jB_ (Ik hO hQ.b hk s!"" ?_)
    cases bU:κ.blt (KK κ (arrOf aC) (lo+k)) (KK κ (arrOf aC) (lo+(l+r) / 2))
    case true=>
     simp only[xB_]
     refine jI_ ⟨rfl,l,(l+r) / 2,rfl,by lia,by lia,by lia,hU,fun i h1 h2=>?_⟩
     exact KeyOrd.klt_of_klt_of_kle bU (bF _ _ s!"" h1 h2)
    case false=>
     simp only[jS_,qS_]
     refine jI_ ⟨rfl,(l+r) / 2+1,r,rfl,by lia,by lia,by lia,fun i h0 h1=>?_,jq⟩
     exact xh_ (bF i (lo+(l+r) / 2) h0 s!"" s!"") bU
  case ipost=>
   rintro c aC ⟨rfl,l,r,rfl,hlk,hU,jq⟩
   show wpS _ _ _ _ (do moveDown' (lo+k) (lo+l);pure (rD (none,()))) _ _
   rw[moveDown'_eq]
   refine jB_ (zT_ (jI_ ⟨rfl,hQ.bub hk s!"" s!"" s!"",?_⟩))
   rw[show min (k+1) n=k+1 by lia]
   have nR:lo+k<(arrOf aC).size:=by rw[hQ.b.size];exact hk
   intro i j hl aW hj
   show κ.kle (KK κ (bubble (arrOf aC) (lo+k) (lo+k-(lo+l))) i) (KK κ (bubble (arrOf aC) (lo+k) (lo+k-(lo+l))) j)
   rw[KK_bubble nR s!"",KK_bubble nR s!"",show lo+k-(lo+k-(lo+l))=lo+l by lia]
   repeat' split
   all_goals first
    | (exfalso;lia)
    | exact qQ_ _
    | exact hU _ s!"" s!""
    | exact qz_ (jq _ s!"" s!"")
    | exact bF _ _ s!"" s!"" s!""
end
end aS
namespace aS
open PySem PyProof.Rows
def wr (a:Array Keyed)(base:Nat)(r:List Keyed)(n:Nat):Array Keyed:=(r.zipIdx n).foldl (fun a (p,j)=>a.setIfInBounds (base+j) p) a
def MC (i:Nat):mergeAt' i=(do
 let s <- get
 let (some (sa,na,power),some (sb,nb,_)):=((pendingOf s)[i]?,(pendingOf s)[i+1]?)|unsupported "internal:list.sort.pending"
 set (setPending s (((pendingOf s).setIfInBounds i (sa,na+nb,power)).eraseIdxIfInBounds (i+1)))
 let some k <- B3 false ( <- elem' (arrOf s) sb) (arrOf s) sa na 0|return false
 if na-k==0 then return true
 let some m <- B3 true ( <- elem' (arrOf s) (sa+k+(na-k)-1)) (arrOf s) sb nb (nb-1)|return false
 if m==0 then return true
 let merged <- if na-k<=m then Hw ((arrOf s).extract (sa+k) sb) ((arrOf s).extract sb (sb+m)) else Hy ((arrOf s).extract (sa+k) sb) ((arrOf s).extract sb (sb+m))
 modify fun s=>setArr s (wr (arrOf s) (sa+k) merged.toList 0)
 return (failedOf ( <- get)).isNone):=rfl
def Q5 {base:Nat}:∀(r:List Keyed) (n:Nat) (a:Array Keyed),base+n+r.length<=a.size->(wr a base r n).toList=a.toList.take (base+n)++r++a.toList.drop (base+n+r.length)
 |[],n,a,h=>by simp[wr]
 |x::r,n,a,h=>by
  have ih:=Q5 (base:=base) r (n+1) (a.setIfInBounds (base+n) x) (by simp at h ⊢;lia)
  unfold wr at ih ⊢
  rw[sf,q1_]
  simp only at ih ⊢
  simp only[jT_]at h
  have hl:base+n<a.toList.length:=by simp;lia
  rw[ih,rS,show base+(n+1)=base+n+1 by lia,List.take_set,List.drop_set_of_lt s!"",List.take_succ_eq_append_getElem hl,sS _ _ (by simp;lia)]
  simp only[jw_,j3_,jT_]
  rw[show base+n-min (base+n) a.size=0 by lia,zp_,show base+n+1+r.length=base+n+(r.length+1) by lia]
  simp
section
variable {prog:Program} {w:World} {A:Around} {E:Value->Shared->Prop} {s:Shared} {a₀:Array Keyed} {κ:KeyKind} {kd:SortKind}
def seg (a:Array Keyed)(lo hi:Nat):List Keyed:=(a.toList.take hi).drop lo
def ME  {lo hi:Nat}(h:hi<=a.size):(seg a lo hi).length=hi-lo:=by unfold seg;simp;lia
def Ks  {lo hi i:Nat}(h:i<(seg a lo hi).length)(hi':lo+i<a.size):(seg a lo hi)[i]=a[lo+i]:=by simp[seg]
def Jz  {lo hi:Nat}(h:hi<=a.size):SO κ a lo hi↔(seg a lo hi).Pairwise (LeK κ):=by
 rw[xE_]
 constructor
 ·intro g i j hi hj aW
  have hl:=ME (lo:=lo) h
  have:=g (lo+i) (lo+j) s!"" s!"" s!""
  rw[D9 s!"",D9 s!""]at this
  rw[Ks hi s!"",Ks hj s!""]
  exact this
 ·intro g i j hl aW hj
  rcases qZ_ i j with aq|bC
  ·have aj:=ME (lo:=lo) h
   have:=g (i-lo) (j-lo) s!"" s!"" s!""
   rw[Ks s!"" s!"",Ks s!"" s!""]at this
   simp only[show lo+(i-lo)=i by lia,show lo+(j-lo)=j by lia]at this
   rw[D9 s!"",D9 s!""]
   exact this
  ·obtain rfl:i=j:=by lia
   exact qQ_ _
def Fu  {lo hi:Nat}  (h:x∈seg a lo hi):∃j,∃hj:j<a.size,lo<=j/\j<hi/\x=a[j]:=Q3 h
def Gu (a:Array Keyed)  (h1:l<=m)(h2:m<=h):seg a l h=seg a l m++seg a m h:=by
 unfold seg
 have e:a.toList.take h=a.toList.take m++(a.toList.take h).drop m:=by
  have:=xc_ m (a.toList.take h)
  rw[uO,show min m h=m by lia]at this
  exact this.symm
 rw[e]
 rcases vE m a.toList.length with hm|hm
 ·rw[rP (by rw[jw_];lia)]
  congr 1
  rw[<-e]
 ·rw[show (a.toList.take h).drop m=[] from qI_ (by rw[jw_];lia)]
  simp only[ql_]
  rw[show wI m (a.toList.take m)=[] from qI_ (by rw[jw_];lia),ql_]
def MF  {lo hi i j:Nat}(h:SO κ a lo hi)(h1:lo<=i)(h2:i<=j)(h3:j<hi)(hi':i<a.size)(hj:j<a.size):LeK κ a[i] a[j]:=by
 have:=h i j h1 h2 h3
 rw[D9 hi',D9 hj]at this
 exact this
def HD  {lo hi:Nat}(e:∀i,lo<=i->i<hi->ys[i]?=xs[i]?)(h:SO κ xs lo hi):SO κ ys lo hi:=fun i j h1 h2 h3=>by
 rw[KK_congr (e i h1 s!""),KK_congr (e j s!"" h3)];exact h i j h1 h2 h3
def Sw    (bg:l<=e)(he:e<=a.size)(hp:r.Perm (seg a l e)):
  (wr a l r 0).Perm a/\Out l e a (wr a l r 0)/\seg (wr a l r 0) l e=r:=by
 have hl:r.length=e-l:=by rw[hp.length_eq,ME he]
 have hw:=Q5 (base:=l) r 0 a s!""
 rw[tZ,show l+r.length=e by lia]at hw
 have h0:a.toList=a.toList.take l++seg a l e++a.toList.drop e:=by
  have h1:=xc_ e a.toList
  have h2:=xc_ l (a.toList.take e)
  rw[uO,show min l e=l by lia]at h2
  rw[show seg a l e=(a.toList.take e).drop l from rfl,h2,h1]
 have aq:(a.toList.take l).length=l:=by simp;lia
 refine⟨?_,fun i hi=>?_,?_⟩
 ·rw[x5_,hw]
  conv=>rhs;rw[h0]
  exact sI _ (sR _ hp)
 ·rw[<-xz_,<-xz_,hw]
  rcases hi with hi|hi
  ·rw[qg_,jk_ s!"",xJ_ hi]
  ·rw[jt_ (by rw[jn_];lia),jn_,aq,List.getElem?_drop]
   congr 1;lia
 ·unfold seg
  rw[hw,qg_,<-qg_,rO (by rw[jn_];lia),jP_ (by rw[jn_];lia),rP s!"",qI_ s!"",xZ_]
def Eo (a:Array Keyed)(i j:Nat):(a.extract i j).toList=seg a i j:=by rw[EY,seg,uN]
def WW {st ag:SortSt}  (h:Q ⟨⟩ ag):wpS (model prog w) A E s (set ag:StateT SortSt Sem PUnit) Q st:=zT_ (f:=fun _=>ag) h
def OL {st:SortSt}   (hO:LtOk kd κ a₀ prog w A E s)(hB:SB kd a₀ st)(e1:(pendingOf st)[i]?=some (sa,na,pw))(e2:(pendingOf st)[i+1]?=some (sb,nb,q))(nQ:sb=sa+na)(hna:1<=na)(hnb:1<=nb)(hz:sb+nb<=a₀.size)
  (s1:SO κ (arrOf st) sa sb) (s2:SO κ (arrOf st) sb (sb+nb))
  (h:∀ag,SB kd a₀ ag->pendingOf ag=((pendingOf st).setIfInBounds i (sa,na+nb,pw)).eraseIdxIfInBounds (i+1)->Out sa (sb+nb) (arrOf st) (arrOf ag)->SO κ (arrOf ag) sa (sb+nb)->Q true ag):
  wpS (model prog w) A E s (mergeAt' i) Q st:=by
 have hsz:=hB.size
 rw[MC]
 refine jB_ (wpS_get ?_)
 rw[e1,e2]
 dsimp only
 refine jB_ (WW ?_)
 have fq:SB kd a₀ (setPending st (((pendingOf st).setIfInBounds i (sa,na+nb,pw)).eraseIdxIfInBounds (i+1))):=⟨hB.perm,hB.kind,hB.failed⟩
 have a8:∀x∈(arrOf st).toList,x∈a₀.toList:=fun x hx=>hB.mem hx
 refine jB_ (Bn (show sb<(arrOf st).size by lia) (jB_ (Km hO fq.kind (a8 _ (by simp)) a8 (fun i j hi hj g1 g2 g3=>MF s1 g1 g2 s!"" hi hj) s!"" s!"" (fun k jV g1 g2=>?_))))
 dsimp only
 by_cases dN:na-k=0
 ·rw[if_pos (by simpa using dN)]
  refine jI_ (h _ fq rfl (Out.refl _ _ _) ?_)
  intro i j hl aW hj
  show κ.kle (KK κ (arrOf st) i) (KK κ (arrOf st) j)
  rcases qZ_ j sb with c|c
  ·exact s1 i j hl aW c
  ·rcases qZ_ i sb with c2|c2
   ·have a1:=g1 (i-sa) s!"" s!""
    simp only[show sa+(i-sa)=i by lia]at a1
    have a2:=s2 sb j (ji_ _) c hj
    rw[D9 (show sb<(arrOf st).size by lia)]at a2
    rw[D9 (show i<(arrOf st).size by lia)]
    exact xh_ a1 a2
   ·exact s2 i j c2 aW hj
 ·rw[if_neg (by simpa using dN)]
  have el:sa+k+(na-k)-1=sb-1:=by lia
  rw[el]
  refine jB_ (Bn (show sb-1<(arrOf st).size by lia) (jB_ (Kn hO fq.kind (a8 _ (by simp)) a8 (fun i j hi hj g1 g2 g3=>MF s2 g1 g2 s!"" hi hj) s!"" s!"" (fun m hmn g3 g4=>?_))))
  dsimp only
  by_cases cI:m=0
  ·rw[if_pos (by simpa using cI)]
   refine jI_ (h _ fq rfl (Out.refl _ _ _) ?_)
   intro i j hl aW hj
   show κ.kle (KK κ (arrOf st) i) (KK κ (arrOf st) j)
   rcases qZ_ j sb with c|c
   ·exact s1 i j hl aW c
   ·rcases qZ_ i sb with c2|c2
    ·have a1:=g4 (j-sb) s!"" s!"" s!""
     simp only[show sb+(j-sb)=j by lia]at a1
     have a2:=s1 i (sb-1) hl s!"" s!""
     rw[D9 (show sb-1<(arrOf st).size by lia)]at a2
     rw[D9 (show j<(arrOf st).size by lia)]
     exact xh_ a2 a1
    ·exact s2 i j c2 aW hj
  ·rw[if_neg (by simpa using cI)]
   have z1:((arrOf st).extract (sa+k) sb).size=sb-(sa+k):=by simp;lia
   have z2:((arrOf st).extract sb (sb+m)).size=m:=by simp;lia
   have hM:MP a₀ κ ((arrOf st).extract (sa+k) sb) ((arrOf st).extract sb (sb+m)):=by
    refine {hA:=fun x hx=>?_,hB:=fun x hx=>?_,sA:=?_,sB:=?_,ha:=by lia,hb:=by lia,hf:=fun y hy=>?_,hl:=fun x hx=>?_}
    ·rw[Eo]at hx;obtain⟨j,hj,_,_,rfl⟩:=Fu hx;exact a8 _ (by simp)
    ·rw[Eo]at hx;obtain⟨j,hj,_,_,rfl⟩:=Fu hx;exact a8 _ (by simp)
    ·rw[Eo];exact (Jz s!"").mp (fun i j c1 c2 c3=>s1 i j s!"" c2 c3)
    ·rw[Eo];exact (Jz s!"").mp (fun i j c1 c2 c3=>s2 i j c1 c2 s!"")
    ·rw[Eo]at hy;obtain⟨j,hj,c1,c2,rfl⟩:=Fu hy
     have a1:=g2 (j-sa) s!"" s!"" s!""
     simp only[show sa+(j-sa)=j by lia]at a1
     simp only[sY,tZ]
     exact qz_ a1
    ·rw[Eo]at hx;obtain⟨j,hj,c1,c2,rfl⟩:=Fu hx
     have a1:=g3 (j-sb) s!"" s!""
     simp only[show sb+(j-sb)=j by lia]at a1
     simp only[sY,z1,show sa+k+(sb-(sa+k)-1)=sb-1 by lia]
     exact qz_ a1
   have fo:∀(r:Array Keyed) (ag:SortSt),SG (setPending st (((pendingOf st).setIfInBounds i (sa,na+nb,pw)).eraseIdxIfInBounds (i+1))) ag->Mgd (LeK κ) ((arrOf st).extract (sa+k) sb).toList ((arrOf st).extract sb (sb+m)).toList r.toList ->
     wpS (model prog w) A E s (do
      modify fun s=>setArr s (wr (arrOf s) (sa+k) r.toList 0)
      return (failedOf ( <- get)).isNone:StateT SortSt Sem Bool) Q ag:=by
    intro r ag hG hR
    refine jB_ (zT_ (jB_ (wpS_get (jI_ ?_))))
    have ea:arrOf ag=arrOf st:=hG.arr
    have hf:failedOf (setArr ag (wr (arrOf ag) (sa+k) r.toList 0))=none:=hG.fa.trans hB.failed
    rw[hf]
    rw[Eo,Eo]at hR
    have hp:r.toList.Perm (seg (arrOf st) (sa+k) (sb+m)):=by rw[Gu _ (show sa+k<=sb by lia) (show sb<=sb+m by lia)];exact hR.1
    obtain⟨w1,w2,w3⟩:=Sw s!"" s!"" hp
    have hsz2:(wr (arrOf st) (sa+k) r.toList 0).size=(arrOf st).size:=w1.size_eq
    have jY:arrOf (setArr ag (wr (arrOf ag) (sa+k) r.toList 0))=wr (arrOf st) (sa+k) r.toList 0:=by rw[<-ea]
    refine h _ ⟨?_,hG.kd.trans hB.kind,hf⟩ hG.pe ?_ ?_
    ·rw[jY];exact w1.trans hB.perm
    ·rw[jY];exact fun i hi=>w2 i s!""
    ·rw[jY,Jz s!"",Gu _ (show sa<=sa+k by lia) (show sa+k<=sb+nb by lia),Gu _ (show sa+k<=sb+m by lia) (show sb+m<=sb+nb by lia),w3]
     have f1:∀x∈seg (wr (arrOf st) (sa+k) r.toList 0) sa (sa+k),∃j,∃hj:j<(arrOf st).size,sa<=j/\j<sa+k/\x=(arrOf st)[j]:=fun x hx=>by
      obtain⟨j,hj,c1,c2,rfl⟩:=Fu hx
      refine⟨j,by lia,c1,c2,?_⟩
      have:=w2 j s!""
      rw[qF_ hj,qF_ (show j<(arrOf st).size by lia)]at this
      exact jq_ this
     have f3:∀x∈seg (wr (arrOf st) (sa+k) r.toList 0) (sb+m) (sb+nb),∃j,∃hj:j<(arrOf st).size,sb+m<=j/\j<sb+nb/\x=(arrOf st)[j]:=fun x hx=>by
      obtain⟨j,hj,c1,c2,rfl⟩:=Fu hx
      refine⟨j,by lia,c1,c2,?_⟩
      have:=w2 j s!""
      rw[qF_ hj,qF_ (show j<(arrOf st).size by lia)]at this
      exact jq_ this
     have f2:∀x∈r.toList,∃j,∃hj:j<(arrOf st).size,sa+k<=j/\j<sb+m/\x=(arrOf st)[j]:=fun x hx=>by
      obtain⟨j,hj,c1,c2,rfl⟩:=Fu (hp.mem_iff.mp hx)
      exact⟨j,hj,c1,c2,rfl⟩
     have low:∀j (hj:j<(arrOf st).size),sa<=j->j<sa+k->LeK κ (arrOf st)[j] ((arrOf st)[sb]'s!""):=fun j hj c1 c2=>by
      have a1:=g1 (j-sa) s!"" s!""
      simp only[show sa+(j-sa)=j by lia]at a1
      exact a1
     have high:∀j (hj:j<(arrOf st).size),sb+m<=j->j<sb+nb->LeK κ ((arrOf st)[sb-1]'s!"") (arrOf st)[j]:=fun j hj c1 c2=>by
      have a1:=g4 (j-sb) s!"" s!"" s!""
      simp only[show sb+(j-sb)=j by lia]at a1
      exact a1
     refine q4_.mpr ⟨?_,q4_.mpr ⟨hR.2,?_,fun x hx y hy=>?_⟩,fun x hx y hy=>?_⟩
     ·exact (Jz s!"").mp (HD (fun i c1 c2=>w2 i s!"") (fun i j c1 c2 c3=>s1 i j c1 c2 s!""))
     ·exact (Jz s!"").mp (HD (fun i c1 c2=>w2 i s!"") (fun i j c1 c2 c3=>s2 i j s!"" c2 s!""))
     ·obtain⟨j,hj,c1,c2,rfl⟩:=f2 x hx
      obtain⟨l,hl,d1,d2,rfl⟩:=f3 y hy
      rcases qZ_ j sb with c|c
      ·exact LeK.trans (MF s1 s!"" s!"" s!"" hj s!"") (high l hl d1 d2)
      ·exact MF s2 c s!"" d2 hj hl
     ·obtain⟨j,hj,c1,c2,rfl⟩:=f1 x hx
      rcases jA_.mp hy with hy|hy
      ·obtain⟨l,hl,d1,d2,rfl⟩:=f2 y hy
       rcases qZ_ l sb with c|c
       ·exact MF s1 c1 s!"" c hj hl
       ·exact LeK.trans (low j hj c1 c2) (MF s2 (ji_ _) c s!"" s!"" hl)
      ·obtain⟨l,hl,d1,d2,rfl⟩:=f3 y hy
       exact LeK.trans (low j hj c1 c2) (MF s2 (ji_ _) s!"" d2 s!"" hl)
   by_cases hc:na-k<=m
   ·rw[if_pos hc]
    exact jB_ (OI hO hM fq.kind fo)
   ·rw[if_neg hc]
    exact jB_ (OJ hO hM fq.kind fo)
end
end aS
namespace aS
open PySem PyProof.Rows
abbrev Rn:=Nat×Nat×Nat
def JP (lo n:Nat):StateT SortSt Sem (ForInStep (Option Unit×Nat)):=do
 modify fun s=>setPending s ((pendingOf s).push (lo,n,0))
 pure (.yield (none,lo+n))
def JM (pw:Nat):StateT SortSt Sem (ForInStep (Option Unit×Unit)):=do
 let g <- get
 match if (pendingOf g).size > 1 then (pendingOf g)[(pendingOf g).size-2]? else none with
 |some (_,_,older)=>if older<=pw then pure (.done (none,())) else do
   let b <- mergeAt' ((pendingOf g).size-2)
   if (!b)=true then pure (.done (some (),())) else pure (.yield (none,()))
 |_=>pure (.done (none,()))
def JB (size lo n:Nat):StateT SortSt Sem (ForInStep (Option Unit×Nat)):=do
 let g <- get
 match (pendingOf g).back? with
 |some (s1,n1,_)=>do
  let c <- forIn [0:size] ((none,()):Option Unit×Unit) fun _ _=>JM (power' size (2*s1+n1) (2*s1+n1+n1+n) size)
  match c.1 with
  |some r=>pure (.done (some r,lo))
  |none=>do
   modify fun s=>setPending s ((pendingOf s).modify ((pendingOf s).size-1) fun (st,len,_)=>(st,len,power' size (2*s1+n1) (2*s1+n1+n1+n) size))
   JP lo n
 |_=>JP lo n
def RN (size cu lo n:Nat):StateT SortSt Sem (ForInStep (Option Unit×Nat)):=
 if n<cu then (do
  liftM (rule "list.sort.binary-insertion")
  let b <- binarySort' lo (min (size-lo) cu) n
  if (!b)=true then pure (.done (some (),lo)) else JB size lo (min (size-lo) cu))
 else JB size lo n
def RB (size cu:Nat)(c:Option Unit×Nat):StateT SortSt Sem (ForInStep (Option Unit×Nat)):=
 if c.2 >= size then pure (.done (none,c.2)) else do
  let x <- countRun' c.2 (size-c.2)
  match x with
  |some n=>RN size cu c.2 n
  |_=>pure (.done (some (),c.2))
def FI (p:Array Rn):Nat:=if Option.any (fun x=>decide (x<p[p.size-2+1]?.elim 0 fun x=>x.snd.fst)) (if p.size-2 > 0 then Option.map (fun x=>x.snd.fst) p[p.size-2-1]? else none)=true then p.size-2-1 else p.size-2
def FB:StateT SortSt Sem (ForInStep (Option Unit×Unit)):=do
 let g <- get
 if (pendingOf g).size<=1 then pure (.done (none,()))
 else do
  let b <- mergeAt' (FI (pendingOf g))
  if (!b)=true then pure (.done (some (),())) else pure (.yield (none,()))
def Kt:sortRuns'=(do
 let g <- get
 let c <- forIn [0:(arrOf g).size] ((none,0):Option Unit×Nat) fun _ c=>RB (arrOf g).size (minRun' (arrOf g).size (arrOf g).size 0) c
 match c.1 with
 |some r=>pure r
 |none=>do
  let c <- forIn [0:(arrOf g).size] ((none,()):Option Unit×Unit) fun _ _=>FB
  match c.1 with
  |some r=>pure r
  |none=>pure ()):=by
 rw[sortRuns'_eq]
 refine jJ_ (bind _) (funext fun g=>?_)
 refine congr (jJ_ bind (jJ_ (forIn _ _) (funext fun _=>funext fun c=>?_))) (funext fun c=>?_)
 ·unfold RB
  refine jJ_ (ite _ _) (jJ_ (bind _) (funext fun x=>?_))
  cases x with
  |none=>rfl
  |some n=>
   dsimp only
   unfold RN
   by_cases hn:n<minRun' (arrOf g).size (arrOf g).size 0
   ·rw[if_pos hn,if_pos hn]
    refine jJ_ (bind _) (funext fun _=>jJ_ (bind _) (funext fun b=>jJ_ (ite _ _) ?_))
    unfold JB
    refine jJ_ (bind _) (funext fun g'=>?_)
    try dsimp only
    rcases (pendingOf g').back? with _|⟨s1,n1,q⟩
    ·rfl
    ·try dsimp only
     refine congr (jJ_ bind (jJ_ (forIn _ _) (funext fun _=>funext fun _=>?_))) (funext fun c=>?_)
     ·unfold JM
      refine jJ_ (bind _) (funext fun g2=>?_)
      try dsimp only
      rcases (if (pendingOf g2).size > 1 then (pendingOf g2)[(pendingOf g2).size-2]? else none) with _|⟨a,b,c⟩
      ·rfl
      ·rfl
     ·obtain⟨r,u⟩:=c
      cases r<;>rfl
   ·rw[if_neg hn,if_neg hn]
    unfold JB
    refine jJ_ (bind _) (funext fun g'=>?_)
    try dsimp only
    rcases (pendingOf g').back? with _|⟨s1,n1,q⟩
    ·rfl
    ·try dsimp only
     refine congr (jJ_ bind (jJ_ (forIn _ _) (funext fun _=>funext fun _=>?_))) (funext fun c=>?_)
     ·unfold JM
      refine jJ_ (bind _) (funext fun g2=>?_)
      try dsimp only
      rcases (if (pendingOf g2).size > 1 then (pendingOf g2)[(pendingOf g2).size-2]? else none) with _|⟨a,b,c⟩
      ·rfl
      ·rfl
     ·obtain⟨r,u⟩:=c
      cases r<;>rfl
 ·obtain⟨r,lo⟩:=c
  cases r with
  |some r=>rfl
  |none=>
   dsimp only
   refine congr (jJ_ bind (jJ_ (forIn _ _) (funext fun _=>funext fun c=>?_))) (funext fun c=>?_)
   ·rfl
   ·obtain⟨r,u⟩:=c
    cases r<;>rfl
section
variable {prog:Program} {w:World} {A:Around} {E:Value->Shared->Prop} {s:Shared} {a₀:Array Keyed} {κ:KeyKind} {kd:SortKind}
def Ch (κ:KeyKind)(xs:Array Keyed):List Rn->Nat->Nat->Prop
 |[],a,b=>a=b
 |p::r,a,b=>p.1=a/\1<=p.2.1/\SO κ xs a (a+p.2.1)/\Ch κ xs r (a+p.2.1) b
def Ch.le {xs:Array Keyed}:∀{l:List Rn} {a b:Nat},Ch κ xs l a b->a+l.length<=b
 |[],a,b,h=>sx h
 |p::r,a,b,h=>by have:=Ch.le h.2.2.2;have:=h.2.1;simp only[jT_];lia
def Ch.append {xs:Array Keyed}:∀{l l':List Rn} {a b:Nat},Ch κ xs (l++l') a b ↔ ∃c,Ch κ xs l a c/\Ch κ xs l' c b
 |[],l',a,b=>⟨fun h=>⟨a,rfl,h⟩,fun ⟨c,e,h⟩=>by cases e;exact h⟩
 |p::r,l',a,b=>⟨fun ⟨h1,h2,h3,h4⟩=>by obtain⟨c,g1,g2⟩:=Ch.append.mp h4;exact⟨c,⟨h1,h2,h3,g1⟩,g2⟩,fun ⟨c,⟨h1,h2,h3,h4⟩,h5⟩=>⟨h1,h2,h3,Ch.append.mpr ⟨c,h4,h5⟩⟩⟩
def Ch.congr {xs ys:Array Keyed}:∀{l:List Rn} {a b:Nat},(∀i,a<=i->i<b->ys[i]?=xs[i]?)->Ch κ xs l a b->Ch κ ys l a b
 |[],a,b,_,h=>h
 |p::r,a,b,e,⟨h1,h2,h3,h4⟩=>⟨h1,h2,HD (fun i g1 g2=>e i g1 (by have:=h4.le;lia)) h3,h4.congr (fun i g1 g2=>e i s!"" g2)⟩
def Ch.same {xs:Array Keyed}:∀{l l':List Rn} {a b:Nat},l.map (fun p=>(p.1,p.2.1))=l'.map (fun p=>(p.1,p.2.1))->Ch κ xs l a b->Ch κ xs l' a b
 |[],[],_,_,_,h=>h
 |[],_::_,_,_,e,_=>by cases e
 |_::_,[],_,_,e,_=>by cases e
 |p::r,p'::r',a,b,e,⟨h1,h2,h3,h4⟩=>by
  simp only[j0_,xQ_,vj]at e
  obtain⟨⟨e1,e2⟩,e3⟩:=e
  refine⟨e1 ▸ h1,e2 ▸ h2,e2 ▸ h3,?_⟩
  rw[<-e2]
  exact h4.same e3
def Lx {st:SortSt}   (hO:LtOk kd κ a₀ prog w A E s)(hB:SB kd a₀ st)(hC:Ch κ (arrOf st) (pendingOf st).toList 0 m)(hm:m<=a₀.size)(hi:i+1<(pendingOf st).size)
  (h:∀ag,SB kd a₀ ag->Ch κ (arrOf ag) (pendingOf ag).toList 0 m->(pendingOf ag).size+1=(pendingOf st).size->Out 0 m (arrOf st) (arrOf ag)->Q true ag):
  wpS (model prog w) A E s (mergeAt' i) Q st:=by
 have hl:(pendingOf st).toList.length=(pendingOf st).size:=j3_
 have e0:(pendingOf st).toList=(pendingOf st).toList.take i++(pendingOf st)[i]::(pendingOf st)[i+1]::(pendingOf st).toList.drop (i+2):=by
  have h1:=(xc_ i (pendingOf st).toList).symm
  rw[xa_ s!"",xa_ s!""]at h1
  exact h1
 obtain⟨l1,bo⟩:∃l,l=(pendingOf st).toList.take i:=⟨_,rfl⟩
 obtain⟨l2,bE⟩:∃l,l=(pendingOf st).toList.drop (i+2):=⟨_,rfl⟩
 obtain⟨⟨sa,na,pw⟩,hx⟩:∃p,p=(pendingOf st)[i]:=⟨_,rfl⟩
 obtain⟨⟨sb,nb,q⟩,hy⟩:∃p,p=(pendingOf st)[i+1]:=⟨_,rfl⟩
 rw[<-bo,<-bE,<-hx,<-hy]at e0
 have m5:l1.length=i:=by rw[bo,jw_];lia
 rw[e0]at hC
 obtain⟨c,c1,c2,c3,c4,c5,c6,c7,c8⟩:=Ch.append.mp hC
 dsimp only at c2 c3 c4 c5 c6 c7 c8
 subst c2
 subst c5
 have bg:=c8.le
 have hle1:=c1.le
 refine OL hO hB (by rw[hx];exact qF_ s!"") (by rw[hy];exact qF_ hi) rfl c3 c6 s!"" c4 c7 (fun ag g1 g2 g3 g4=>?_)
 have e1:(pendingOf ag).toList=l1++(sa,na+nb,pw)::l2:=by
  rw[g2,Array.toList_eraseIdxIfInBounds,rS,e0,sS _ _ s!"",m5,qG_,zp_,List.eraseIdx_append_of_length_le s!"",m5,show i+1-i=1 by lia]
  rfl
 refine h ag g1 ?_ ?_ (fun i hi=>g3 i s!"")
 ·rw[e1]
  refine Ch.append.mpr ⟨sa,c1.congr (fun i _ h2=>g3 i s!""),rfl,?_,?_,?_⟩
  ·show 1<=na+nb
   lia
  ·rw[show sa+(na+nb)=sa+na+nb by lia];exact g4
  ·show Ch κ (arrOf ag) l2 (sa+(na+nb)) m
   rw[show sa+(na+nb)=sa+na+nb by lia]
   exact c8.congr (fun i h1 _=>g3 i s!"")
 ·have l1':(pendingOf ag).toList.length=(l1++(sa,na+nb,pw)::l2).length:=by rw[e1]
  have l2':(pendingOf st).toList.length=(l1++(sa,na,pw)::(sa+na,nb,q)::l2).length:=by rw[e0]
  simp only[jn_,jT_,j3_]at l1' l2'
  lia
def WX {st:SortSt}{lo n:Nat}  (hB:SB kd a₀ st)(hC:Ch κ (arrOf st) (pendingOf st).toList 0 lo)(hn:1<=n)(hs:SO κ (arrOf st) lo (lo+n))
  (h:∀ag,SB kd a₀ ag->Ch κ (arrOf ag) (pendingOf ag).toList 0 (lo+n)->Q (.yield (none,lo+n)) ag):wpS (model prog w) A E s (JP lo n) Q st:=by
 unfold JP
 refine jB_ (zT_ (jI_ (h _ ⟨hB.perm,hB.kind,hB.failed⟩ ?_)))
 show Ch κ (arrOf st) ((pendingOf st).push (lo,n,0)).toList 0 (lo+n)
 rw[wd_]
 exact Ch.append.mpr ⟨lo,hC,rfl,hn,hs,rfl⟩
def WY {st:SortSt}{lo n:Nat}  (hO:LtOk kd κ a₀ prog w A E s)(hB:SB kd a₀ st)(hC:Ch κ (arrOf st) (pendingOf st).toList 0 lo)(hn:1<=n)(hz:lo+n<=a₀.size)(hs:SO κ (arrOf st) lo (lo+n))
  (h:∀ag,SB kd a₀ ag->Ch κ (arrOf ag) (pendingOf ag).toList 0 (lo+n)->Q (.yield (none,lo+n)) ag):wpS (model prog w) A E s (JB a₀.size lo n) Q st:=by
 unfold JB
 refine jB_ (wpS_get ?_)
 rcases (pendingOf st).back? with _|⟨s1,n1,q⟩
 ·exact WX hB hC hn hs h
 ·dsimp only
  generalize power' a₀.size (2*s1+n1) (2*s1+n1+n1+n) a₀.size=pw
  refine jB_ (x4_ (qP_ (I:=fun _ c ag=>c=(none,())/\SB kd a₀ ag/\Ch κ (arrOf ag) (pendingOf ag).toList 0 lo/\Out 0 lo (arrOf st) (arrOf ag))
   (Q:=fun c ag=>c=(none,())/\SB kd a₀ ag/\Ch κ (arrOf ag) (pendingOf ag).toList 0 lo/\Out 0 lo (arrOf st) (arrOf ag)) ?step (fun _ _ hh=>hh) ⟨rfl,hB,hC,Out.refl _ _ _⟩) ?post)
  case step=>
   rintro x c ag _ _ ⟨rfl,g1,g2,g3⟩
   unfold JM
   refine jB_ (wpS_get ?_)
   rcases hh:(if (pendingOf ag).size > 1 then (pendingOf ag)[(pendingOf ag).size-2]? else none) with _|⟨a,b,older⟩
   ·exact jI_ ⟨rfl,g1,g2,g3⟩
   ·dsimp only
    have lP:(pendingOf ag).size > 1:=by
     by_cases hq:(pendingOf ag).size > 1
     ·exact hq
     ·rw[if_neg hq]at hh;cases hh
    split
    ·exact jI_ ⟨rfl,g1,g2,g3⟩
    ·refine jB_ (Lx hO g1 g2 s!"" s!"" (fun aV k1 k2 k3 k4=>?_))
     rw[if_neg (by simp)]
     exact jI_ ⟨rfl,k1,k2,g3.trans k4⟩
  case post=>
   rintro c ag ⟨rfl,g1,g2,g3⟩
   dsimp only
   refine jB_ (zT_ ?_)
   refine WX ⟨g1.perm,g1.kind,g1.failed⟩ ?_ hn ?_ h
   ·refine Ch.same ?_ g2
    show _=((pendingOf ag).modify _ _).toList.map _
    rw[Array.toList_modify]
    apply qT_
    intro i
    rw[je_,je_,List.getElem?_modify]
    by_cases hi:(pendingOf ag).size-1=i
    ·simp only[if_pos hi];cases (pendingOf ag).toList[i]?<;>rfl
    ·simp only[if_neg hi];cases (pendingOf ag).toList[i]?<;>rfl
   ·exact HD (fun i h1 h2=>g3 i s!"") hs
def MG {st:SortSt}  (hO:LtOk kd κ a₀ prog w A E s)(hB:SB kd a₀ st)(hp:pendingOf st = #[])
  (h:∀ag,SB kd a₀ ag->SO κ (arrOf ag) 0 a₀.size->Q () ag):wpS (model prog w) A E s sortRuns' Q st:=by
 rw[Kt]
 refine jB_ (wpS_get ?_)
 rw[hB.size]
 generalize minRun' a₀.size a₀.size 0=mr
 refine jB_ (x4_ (qP_ (I:=fun x c ag=>SB kd a₀ ag/\∃lo,c=(none,lo)/\lo<=a₀.size/\(x<=lo\/a₀.size<=lo)/\Ch κ (arrOf ag) (pendingOf ag).toList 0 lo)
  (Q:=fun c ag=>SB kd a₀ ag/\c=(none,a₀.size)/\Ch κ (arrOf ag) (pendingOf ag).toList 0 a₀.size) ?step ?fin ⟨hB,0,rfl,by lia,by lia,by rw[hp];rfl⟩) ?post)
 case fin=>
  rintro c ag ⟨g1,lo,rfl,g2,g3,g4⟩
  obtain rfl:lo=a₀.size:=by lia
  exact⟨g1,rfl,g4⟩
 case step=>
  rintro x c ag _ hx ⟨g1,lo,rfl,g2,g3,g4⟩
  unfold RB
  dsimp only
  by_cases bC:lo >= a₀.size
  ·rw[if_pos bC]
   obtain rfl:lo=a₀.size:=by lia
   exact jI_ ⟨g1,rfl,g4⟩
  ·rw[if_neg bC]
   have bh:∀n,1<=n->lo+n<=a₀.size->∀aV,SB kd a₀ aV->Ch κ (arrOf aV) (pendingOf aV).toList 0 (lo+n)->SB kd a₀ aV/\∃m6,((none,lo+n):Option Unit×Nat)=(none,m6)/\m6<=a₀.size/\(x+1<=m6\/a₀.size<=m6)/\Ch κ (arrOf aV) (pendingOf aV).toList 0 m6 :=
    fun n h1 h2 aV k1 k2=>⟨k1,lo+n,rfl,h2,by lia,k2⟩
   refine jB_ (MB hO s!"" s!"" g1 (fun m aV k1 k2 k3 k4=>?_))
   have k5:Ch κ (arrOf aV) (pendingOf aV).toList 0 lo:=by rw[k1.pe];exact g4.congr (fun i _ h2=>k1.out i (.inl h2))
   dsimp only
   unfold RN
   by_cases hm:m<mr
   ·rw[if_pos hm]
    refine jB_ (Gs (jB_ (Kr hO s!"" s!"" k1.b k4 (fun dH q1 q2=>?_))))
    rw[if_neg (by simp)]
    have q3:Ch κ (arrOf dH) (pendingOf dH).toList 0 lo:=by rw[q1.pe];exact k5.congr (fun i _ h2=>q1.out i (.inl h2))
    exact WY hO q1.b q3 s!"" s!"" q2 (bh _ s!"" s!"")
   ·rw[if_neg hm]
    exact WY hO k1.b k5 k2 s!"" k4 (bh _ k2 s!"")
 case post=>
  rintro c ag ⟨g1,rfl,g4⟩
  dsimp only
  have bg:=g4.le
  refine jB_ (x4_ (qP_ (I:=fun x c aV=>c=(none,())/\SB kd a₀ aV/\Ch κ (arrOf aV) (pendingOf aV).toList 0 a₀.size/\(pendingOf aV).size+x<=a₀.size)
   (Q:=fun c aV=>c=(none,())/\SB kd a₀ aV/\Ch κ (arrOf aV) (pendingOf aV).toList 0 a₀.size/\(pendingOf aV).size<=1) ?step2 ?fin2 ⟨rfl,g1,g4,by simpa using bg⟩) ?post2)
  case fin2=>
   rintro c aV ⟨rfl,k1,k2,k3⟩
   exact⟨rfl,k1,k2,by lia⟩
  case step2=>
   rintro x c aV _ hx ⟨rfl,k1,k2,k3⟩
   unfold FB
   refine jB_ (wpS_get ?_)
   by_cases h1:(pendingOf aV).size<=1
   ·rw[if_pos h1]
    exact jI_ ⟨rfl,k1,k2,h1⟩
   ·rw[if_neg h1]
    have hFI:FI (pendingOf aV)+1<(pendingOf aV).size:=by
     unfold FI
     repeat' split
     all_goals lia
    refine jB_ (Lx hO k1 k2 (ji_ _) hFI (fun dH q1 q2 q3 q4=>?_))
    rw[if_neg (by simp)]
    exact jI_ ⟨rfl,q1,q2,by lia⟩
  case post2=>
   rintro c aV ⟨rfl,k1,k2,k3⟩
   refine jI_ (h aV k1 ?_)
   have hl:(pendingOf aV).toList.length<=1:=by simpa using k3
   match aY:(pendingOf aV).toList,hl with
   |[],_=>rw[aY]at k2;intro i j h1 h2 h3;rw[<-show 0=a₀.size from k2]at h3;lia
   |[p],_=>
    rw[aY]at k2
    obtain⟨c1,c2,c3,c4⟩:=k2
    have e:0+p.2.1=a₀.size:=c4
    rw[e]at c3
    exact c3
end
end aS
namespace HT
def lexLt_irr2:∀{xs:α2},HT.lexLt xs xs=false
 |[]=>rfl
 |x::xs=>by rw[HT.lexLt_cons,if_pos rfl];exact lexLt_irr2
def lexLt_trans:∀{xs ys zs:α2},lexLt xs ys=true->lexLt ys zs=true->lexLt xs zs=true
 |[],[],_,h,_=>by cases h
 |_::_,[],_,h,_=>by cases h
 |_,_::_,[],_,h=>by cases h
 |[],_::_,_::_,_,_=>rfl
 |x::xs,y::ys,z::zs,h,g=>by
  rw[lexLt_cons]at h g ⊢
  by_cases e1:x=y
  ·rw[if_pos e1]at h
   by_cases e2:y=z
   ·rw[if_pos e2]at g;rw[if_pos (e1.trans e2)];exact lexLt_trans h g
   ·rw[if_neg e2]at g;rw[if_neg (e1 ▸ e2),e1];exact g
  ·rw[if_neg e1]at h
   by_cases e2:y=z
   ·rw[if_neg (e2 ▸ e1),<-e2];exact h
   ·rw[if_neg e2]at g
    have:=qr_ h
    have:=qr_ g
    rw[if_neg s!""]
    exact qb_ s!""
def lexLt_total:∀{xs ys:α2},lexLt xs ys=false->lexLt ys xs=false->xs=ys
 |[],[],_,_=>rfl
 |[],_::_,h,_=>by cases h
 |_::_,[],_,h=>by cases h
 |x::xs,y::ys,h,g=>by
  rw[lexLt_cons]at h g
  by_cases e:x=y
  ·rw[if_pos e]at h;rw[if_pos e.symm]at g;rw[e,lexLt_total h g]
  ·rw[if_neg e]at h;rw[if_neg (qs_ e)]at g
   have:=xA_ h
   have:=xA_ g
   lia
end HT
namespace aS
open PySem PyProof.Rows L2
def pblt (x y:Int×α2):Bool:=if x.1=y.1 then HT.lexLt x.2 y.2 else decide (x.1<y.1)
def JA  (h:pblt a b=true)(g:pblt b c=true):pblt a c=true:=by
 unfold pblt at *
 by_cases e1:a.1=b.1
 ·rw[if_pos e1]at h
  by_cases e2:b.1=c.1
  ·rw[if_pos e2]at g;rw[if_pos (e1.trans e2)];exact HT.lexLt_trans h g
  ·rw[if_neg e2]at g;rw[if_neg (e1 ▸ e2),e1];exact g
 ·rw[if_neg e1]at h
  by_cases e2:b.1=c.1
  ·rw[if_neg (e2 ▸ e1),<-e2];exact h
  ·rw[if_neg e2]at g
   have:=qr_ h
   have:=qr_ g
   rw[if_neg s!""]
   exact qb_ s!""
def JC  (h:pblt a b=false)(g:pblt b a=false):a=b:=by
 unfold pblt at *
 by_cases e:a.1=b.1
 ·rw[if_pos e]at h;rw[if_pos e.symm]at g
  exact Prod.ext e (HT.lexLt_total h g)
 ·rw[if_neg e]at h;rw[if_neg (qs_ e)]at g
  have:=xA_ h
  have:=xA_ g
  lia
def Sx  (h:pblt a c=true):pblt a b=true\/pblt b c=true:=by
 cases e:pblt a b with
 |true=>exact .inl rfl
 |false=>
  cases e2:pblt b a with
  |true=>exact .inr (JA e2 h)
  |false=>have:=JC e e2;subst this;exact .inr h
def KeyV (K:α3)(H:Hp)(v:Value)(n:Int)(ns:α2):Prop:=∃t u,v=.ref t/\SqT K H t [.int n,.ref u]/\SqT K H u (ns.map V.int)
open Classical in
noncomputable def kS (K:α3)(H:Hp):vR where
 α:=Int×α2
 blt:=pblt
 irrefl:=fun a=>by unfold pblt;rw[if_pos rfl];exact HT.lexLt_irr2
 trans:=fun _ _ _=>JA
 negTrans:=fun _ _ _=>Sx
 total:=fun _ _=>JC
 keyOf:=fun v=>if h:∃p:Int×α2,KeyV K H v p.1 p.2 then some h.choose else none
 dflt:=(0,[])
section
variable {X:Cx} {ae:α7} {σ:L2.St} {H:Hp} {s:Shared}
def Io:∀{ns ms:α2},ns.map V.int=ms.map V.int->ns=ms
 |[],[],_=>rfl
 |[],_::_,h=>by cases h
 |_::_,[],h=>by cases h
 |n::ns,m::ms,h=>by
  simp only[j0_,xQ_,V.int.injEq]at h
  rw[h.1,Io h.2]
def KeyV.inj (I:Inv X ae σ H s)    (h:KeyV X.K H v n ns)(g:KeyV X.K H v m ms):n=m/\ns=ms:=by
 obtain⟨t,u,rfl,h1,h2⟩:=h
 obtain⟨t',u',e,g1,g2⟩:=g
 cases e
 have e:=I.tuple_inj h1 g1
 simp only[xQ_,V.int.injEq,V.ref.injEq,and_true]at e
 obtain⟨rfl,rfl⟩:=e
 exact⟨rfl,Io (I.tuple_inj h2 g2)⟩
def Sy (I:Inv X ae σ H s)    (h:KeyV X.K H x.1 n ns):KE (kS X.K H) x=(n,ns):=by
 have hex:∃p:Int×α2,KeyV X.K H x.1 p.1 p.2:=⟨(n,ns),h⟩
 have e:(kS X.K H).keyOf x.1=some hex.choose:=dif_pos hex
 have e2:=KeyV.inj I hex.choose_spec h
 unfold KE
 rw[e]
 exact Prod.ext e2.1 e2.2
def Vh (I:Inv X ae σ H s)   (hu:A.units+6<cLine)    (hv:KeyV X.K H v n ns)(hw:KeyV X.K H u m ms)  (h:Q (pblt (n,ns) (m,ms)) s):
  wpAny (model X.prog X.w) A (keyLt' (tuples' true) v u) Q E s:=by
 obtain⟨a,ta,rfl,ha,hta⟩:=hv
 obtain⟨b,tb,rfl,hb,lT⟩:=hw
 obtain⟨its,r1,⟨o1,q1,c1,n1,d1⟩,_⟩:=I.tuple ha
 obtain⟨aL,r2,⟨o2,q2,c2,n2,d2⟩,_⟩:=I.tuple hb
 obtain⟨jts,k1,p1,_⟩:=I.tuple hta
 obtain⟨jts2,k2,p2,_⟩:=I.tuple lT
 have i1:IntsAre jts.toArray.toList ns:=intsAre_of k1
 have i2:IntsAre jts2.toArray.toList ms:=intsAre_of k2
 have eqT:=fun (bb:Bool) (he:EqD X.K H 2 (.ref ta) (.ref tb) bb)=>(EqD.at (x:=V.ref ta) (y:=V.ref tb) (u:=Value.ref ta) (v:=Value.ref tb) I 2 A s!"" rfl rfl he).1
 have hed:=EqD.ints (K:=X.K) (H:=H) (a:=ta) (c:=tb) (xs:=ns) (ys:=ms) (.inr ⟨hta,lT⟩) 1
 cases r1 with
 |cons e1 r1'=>cases r1' with
  |cons e2 r1''=>cases r1'';cases r2 with
   |cons e3 r2'=>cases r2' with
    |cons e4 r2'' =>
     cases r2''
     obtain⟨t1,rfl⟩:=e1
     obtain⟨t2,rfl⟩:=e3
     cases e2
     cases e4
     refine wX q1 d1 q2 d2 ?_
     simp only[z6_,tL]
     refine ur (wpAny_eqBool_int (uP (fun e=>?_) (fun e=>?_)))
     ·have nV:n=m:=by simpa using e
      refine uE (ur (eqT _ hed _ _ _ _ (uP (fun e'=>?_) (fun e'=>?_))))
      ·have iG:ns=ms:=qr_ e'
       refine uE (wQ ?_)
       have:pblt (n,ns) (m,ms)=decide (([Value.int n t1,Value.ref ta].toArray).size<([Value.int m t2,Value.ref tb].toArray).size):=by
        subst nV;subst iG
        unfold pblt
        rw[if_pos rfl,HT.lexLt_irr2];rfl
       rw[<-this];exact h
      ·have iG:ns≠ms:=xA_ e'
       refine uQ (wR _ _ ?_)
       have:pblt (n,ns) (m,ms)=HT.lexLt ns ms:=by unfold pblt;rw[if_pos nV]
       rw[this]at h
       exact HT.lt_tupInts p1 p2 i1 i2 s!"" h
     ·have nV:n≠m:=by simpa using e
      refine uQ ?_
      show wpAny _ _ (oneLt' true _ _) _ _ _
      refine oneLt_int ?_
      have:pblt (n,ns) (m,ms)=decide (n<m):=by unfold pblt;rw[if_neg nV]
      rw[<-this];exact h
def ltOk (I:Inv X ae σ H s)   (hu:A.units+6<cLine)  (hk:∀x∈a₀.toList,∃n ns,KeyV X.K H x.1 n ns):LtOk (tuples' true) (kS X.K H) a₀ X.prog X.w A E s:=by
 intro x y st Q hx hy mG h
 obtain⟨n,ns,h1⟩:=hk x hx
 obtain⟨m,ms,h2⟩:=hk y hy
 rw[Sy I h1,Sy I h2]at h
 rw[lt'_eq]
 refine jB_ (wpS_get ?_)
 rw[mG]
 refine jB_ (wpS_lift (xl_ (Vh I hu h1 h2 ⟨rfl,?_⟩)))
 exact jI_ h
end
end aS
namespace aS
open PySem PyProof.Rows L2
def MK {α β:Type}{f:α->β}:∀{k l:List β},k.Perm l->∀m:List α,k=m.map f->∃m':List α,m'.Perm m/\l=m'.map f:=by
 intro k l h
 induction h with
 |nil=>intro m e;cases m with
  |nil=>exact⟨[],.refl _,rfl⟩
  |cons=>cases e
 |cons x _ ih=>intro m e;cases m with
  |nil=>cases e
  |cons y m=>
   simp only[j0_,xQ_]at e
   obtain⟨rfl,e⟩:=e
   obtain⟨m',p,rfl⟩:=ih m e
   exact⟨y::m',p.cons y,rfl⟩
 |swap x y l=>intro m e;cases m with
  |nil=>cases e
  |cons a m=>cases m with
   |nil=>cases e
   |cons b m=>
    simp only[j0_,xQ_]at e
    obtain⟨rfl,rfl,rfl⟩:=e
    exact⟨b::a::m,.swap a b m,rfl⟩
 |trans _ _ ih1 ih2=>
  intro m e
  obtain⟨m1,p1,e1⟩:=ih1 m e
  obtain⟨m2,p2,e2⟩:=ih2 m1 e1
  exact⟨m2,p2.trans p1,e2⟩
abbrev Wd:=Addr×α2
def wv (ws:List Wd):List V:=ws.map fun w=>V.ref w.1
def wu (ws:List Wd):List Value:=ws.map fun w=>Value.ref w.1
def Q6:∀ws:List Wd,Vals (wv ws) (wu ws)
 |[]=>.nil
 |_::r=>.cons rfl (Q6 r)
def FQ:∀{ts:List Addr} {us:List Value},Vals (ts.map V.ref) us->us=ts.map Value.ref
 |[],_,h=>by cases h;rfl
 |t::ts,_,h=>by
  cases h with
  |cons e r=>
   have e':_=Value.ref t:=e
   rw[FQ r,e'];rfl
def kw (w:Wd):Int×α2:=((w.2.length:Int),w.2)
def Srt (os:List Wd):Prop:=os.Pairwise fun p q=>pblt (kw q) (kw p)=false
def WsOk (K:α3)(H:Hp)(ws:List Wd):Prop:=∀w∈ws,SqT K H w.1 (w.2.map V.int)
def TsOk (K:α3)(H:Hp)(ts:List Addr)(ws:List Wd):Prop:=∀(j:Nat) t w,ts[j]?=some t->ws[j]?=some w->SqT K H t [.int w.2.length,.ref w.1]
section
variable {X:Cx} {ae:α7} {σ:L2.St} {H H0:Hp} {s:Shared} {A:Around} {E:Value->Shared->Prop} {ws:List Wd} {ts:List Addr} {a kT:Addr} {e1:Nat} {P:wJ->Shared->Prop} {f:Value}
def Turn (X:Cx)(ae:α7)(σ:L2.St)(A:Around)(f:Value)(ws:List Wd)(H0:Hp):Prop:=∀w∈ws,∀(H':Hp) (s':Shared),Inv X ae σ H' s'->Same H0 H' ->
 wpAny (model X.prog X.w) A (call f [.ref w.1]) (EP X ae σ (fun k iE=>∃t,k=.ref t/\Same H' iE/\SqT X.K iE t [.int w.2.length,.ref w.1])) (fun _ _=>False) s'
abbrev Emp (a:Addr)(e1:Nat):L2.HO:=.ext fun h=>h.get? a=some (seqObj "list" #[] e1)
def Sz (X:Cx)(ae:α7)(σ:L2.St)(H0:Hp)(a:Addr)(ws:List Wd)(P:wJ->Shared->Prop):Prop:=
 ∀s' H' os,Inv X ae σ H' s'->Same H0 H'->H' a=some (.lst (wv os))->os.Perm ws->Srt os->P (.done (.ret .none)) s'
def WZ {st:SortSt}{os:List Wd}(I:Inv X ae σ H s)(ha:H a=some (Emp a e1))(hk:H kT=some (.lst (ts.map V.ref)))(lU:kT≠a)(h0:Same H0 H)(hn:H0 a=none)(lV:H0 kT=none)(hz:os.length<=sizeLine)
  (harr:(arrOf st).map (·.2)=(wu os).toArray) (hf:failedOf st=none) (hp:os.Perm ws) (hs:Srt os) (h:Sz X ae σ H0 a ws P):
  wpAny (model X.prog X.w) A (ksk_tail a false e1 (.ref kT) st) P E s:=by
 obtain⟨z,its,n,r,el,e⟩:=I.lstM hk
 have I1:Inv X ae σ (upd H kT (.lst [])) {s with heap:=s.heap.update kT (Obj.mapSeq fun _=>(#[]:Array Value)),toks:=s.toks}:=I.lset (its':=[]) (f:=fun _ => #[]) hk e rfl .nil (jY_ _)
 have lW:upd H kT (.lst []) a=some (Emp a e1):=by rw[Aj (qs_ lU)];exact ha
 obtain⟨e2,_,_⟩:=I1.hok a _ lW
 unfold ksk_tail
 refine jb_ (listUpdate_at e rfl ?_ (by rw[jm_,<-el];exact z) (jY_ _))
 refine jb_ (zY_ ?_)
 refine jb_ (seqEpoch_at e2 rfl ?_)
 simp only[jS_,qS_]
 rw[harr]
 refine jb_ (listUpdate_at e2 rfl ?_ (jY_ _) (by rw[jm_];simp only[wu,ja_];lia))
 rw[hf]
 simp only[bne_self_eq_false,jS_,qS_]
 have q:=za_ (f:=fun _=>(wu os).toArray) e2
 have I2:Inv X ae σ (upd (upd H kT (.lst [])) a (.lst (wv os))) {s with heap:=(s.heap.update kT (Obj.mapSeq fun _=>(#[]:Array Value))).update a (Obj.mapSeq fun _=>(wu os).toArray),toks:=s.toks}:=by
  refine I1.write (x:=a) (e:=a) (by rw[lW];exact trivial) (.inl rfl) (fun b' u hb hu=>(j6_ _ _ (qs_ hb)).trans hu) ⟨_,q⟩ ⟨by simp only[wv,ja_];exact hz,wu os,_,Q6 os,q⟩
 exact jo_ (h _ _ os I2 ((h0.over lV).over hn) Ab hp hs)
def JD (hl:ts.length=ws.length):((ts.map Value.ref).toArray.zip (wu ws).toArray).toList=(ts.zip ws).map fun p=>(Value.ref p.1,Value.ref p.2.1):=by
 rw[ksk_zip,z5_]
 unfold wu
 rw[List.zip_map]
 rfl
def Q7 (hl:ts.length=ws.length)(hT:TsOk X.K H ts ws)  (hp:p∈ts.zip ws):SqT X.K H p.1 [.int p.2.2.length,.ref p.2.1]:=by
 obtain⟨j,hj,e⟩:=x6_.mp hp
 rw[List.getElem_zip]at e
 rw[z3_]at hj
 subst e
 exact hT j _ _ (jh_ s!"") (jh_ s!"")
def Q8 (I:Inv X ae σ H s):∀(ts:List Addr) (ws:List Wd),ts.length=ws.length->(∀p∈ts.zip ws,SqT X.K H p.1 [.int p.2.2.length,.ref p.2.1])->∃fs:List Value,wU s.heap (ts.map Value.ref) fs/\fs.length=ts.length/\∀v∈fs,∃n t,v=.int n t
 |[],[],_,_=>⟨[],trivial,rfl,fun v hv=>by cases hv⟩
 |t::ts,w::ws,hl,h=>by
  obtain⟨fs,h1,h2,h3⟩:=Q8 I ts ws (by simpa using hl) (fun p hp=>h p (jl_ _ hp))
  have h4:SqT X.K H t [.int w.2.length,.ref w.1]:=h (t,w) jp_
  obtain⟨its,r,⟨o,ho,hc,n,hd⟩,_⟩:=I.tuple h4
  cases r with
  |cons e1 r' =>
   obtain⟨tk,rfl⟩:=e1
   refine⟨.int w.2.length tk::fs,PySem.W.KatTups.cons ho hc hd rfl h1,by simp[h2],fun v hv=>?_⟩
   rcases jD_.mp hv with rfl|hv
   ·exact⟨_,_,rfl⟩
   ·exact h3 v hv
def Xp (I:Inv X ae σ H s)(hu:A.units+6<cLine)(ha:H a=some (Emp a e1))(hk:H kT=some (.lst (ts.map V.ref)))(lU:kT≠a)(h0:Same H0 H)(hn:H0 a=none)(lV:H0 kT=none)(hz:ws.length<=sizeLine)
  (hl:ts.length=ws.length) (hW:WsOk X.K H ws) (hT:TsOk X.K H ts ws) (h:Sz X ae σ H0 a ws P):
  wpAny (model X.prog X.w) A (ksk_end a false (wu ws).toArray e1 (.ref kT) (ts.map Value.ref).toArray) P E s:=by
 have hsz:(wu ws).toArray.size=ws.length:=by simp[wu]
 have cG:=fun p hp=>Q7 (X:=X) (H:=H) hl hT (p:=p) hp
 have fin:∀st:SortSt,(arrOf st).Perm ((ts.map Value.ref).toArray.zip (wu ws).toArray)->failedOf st=none->SO (kS X.K H) (arrOf st) 0 (arrOf st).size->wpAny (model X.prog X.w) A (ksk_tail a false e1 (.ref kT) st) P E s:=by
  intro st hp hf hs
  have lJ:=(x5_.mp hp).symm
  rw[JD hl]at lJ
  obtain⟨m',p1,e⟩:=MK lJ _ rfl
  have e2:(arrOf st).map (·.2)=(wu (m'.map (·.2))).toArray:=by
   apply wa
   rw[Array.toList_map,e,z5_]
   simp[wu]
  have pz:(m'.map (·.2)).Perm ws:=by
   have:=p1.map (·.2)
   rwa [List.map_snd_zip s!""]at this
  refine WZ I ha hk lU h0 hn lV (by rw[pz.length_eq];exact hz) e2 hf pz ?_ h
  have cy:=(Jz (ji_ _)).mp hs
  have e3:seg (arrOf st) 0 (arrOf st).size=(arrOf st).toList:=by unfold seg;rw[tq];exact jP_ (by simp)
  rw[e3,e,xO_]at cy
  unfold Srt
  rw[xO_]
  refine cy.imp_of_mem (fun {x y} hx hy bg=>?_)
  have kx:KeyV X.K H (Value.ref x.1) x.2.2.length x.2.2:=⟨_,_,rfl,cG x (p1.mem_iff.mp hx),hW _ (xH_ (p1.mem_iff.mp hx)).2⟩
  have ky:KeyV X.K H (Value.ref y.1) y.2.2.length y.2.2:=⟨_,_,rfl,cG y (p1.mem_iff.mp hy),hW _ (xH_ (p1.mem_iff.mp hy)).2⟩
  unfold LeK at bg
  rw[Sy I (x:=(Value.ref x.1,Value.ref x.2.1)) kx,Sy I (x:=(Value.ref y.1,Value.ref y.2.1)) ky]at bg
  exact bg
 unfold ksk_end
 simp only[jS_,qS_]
 by_cases h2:(wu ws).toArray.size<2
 ·rw[if_pos h2,if_pos h2]
  refine jb_ (jo_ ?_)
  rw[StateT.run_pure]
  refine jb_ (jo_ ?_)
  refine fin (SortSt.mk' general' ((ts.map Value.ref).toArray.zip (wu ws).toArray) #[] 7 none) (Array.Perm.refl _) rfl ?_
  intro i j g1 g2 g3
  have g4:j<((ts.map Value.ref).toArray.zip (wu ws).toArray).size:=g3
  rw[Array.size_zip,hsz]at g4
  have:i=j:=by lia
  subst this
  exact qQ_ _
 ·rw[if_neg h2,if_neg h2]
  obtain⟨fs,f1,f2,f3⟩:=Q8 I ts ws hl cG
  refine jb_ (wK (T:=.type "int") f1 s!"" (fun v hv=>?_) (by decide) ?_)
  ·obtain⟨n,t,rfl⟩:=f3 v hv
   exact PySem.W.Looks.of_pure rfl
  ·have hz0:((ts.map Value.ref).toArray.zip (wu ws).toArray).size=ws.length:=by simp[wu,hl]
   refine jb_ (qB_ (MG (κ:=kS X.K H) (kd:=tuples' true) (a₀:=(ts.map Value.ref).toArray.zip (wu ws).toArray) (st:=SortSt.mk' (tuples' true) ((ts.map Value.ref).toArray.zip (wu ws).toArray) #[] 7 none)
    (Q:=fun _ ag=>SB (tuples' true) ((ts.map Value.ref).toArray.zip (wu ws).toArray) ag/\SO (kS X.K H) (arrOf ag) 0 ((ts.map Value.ref).toArray.zip (wu ws).toArray).size)
    (ltOk I hu (fun x hx=>?_)) ⟨Array.Perm.refl _,rfl,rfl⟩ rfl fun ag a1 a2=>⟨a1,a2⟩) ?_ fun _ _ e=>e)
   ·rw[JD hl]at hx
    obtain⟨p,hp,rfl⟩:=jv_.mp hx
    exact⟨p.2.2.length,p.2.2,_,_,rfl,cG p hp,hW _ (xH_ hp).2⟩
   ·rintro⟨⟨⟩,ag⟩ s' ⟨rfl,hB,hS⟩
    exact fin ag hB.perm hB.failed (by rw[hB.size];exact hS)
def WsOk.same {K:α3}  (h:WsOk K H ws)(e:Same H H'):WsOk K H' ws:=fun w hw=>e.seqT (h w hw)
def SA {K:α3}     (hp:H p=some (.lst zs))(h:SqT K H b xs):SqT K (upd H p o) b xs:=by
 have:TSq K H (upd H p o):=TSq.un (fun xs e=>by rw[hp]at e;cases e) (fun ob xs e=>by rw[hp]at e;cases e)
 exact this b xs h
def W0 (I:Inv X ae σ H s)(hu:A.units+6<cLine)(ha:H a=some (Emp a e1))(hk:H kT=some (.lst []))(lU:kT≠a)(h0:Same H0 H)(hn:H0 a=none)(lV:H0 kT=none)(hz:ws.length<sizeLine)
  (hW:WsOk X.K H0 ws) (hT:Turn X ae σ A f ws H0) (h:Sz X ae σ H0 a ws P):
  wpAny (model X.prog X.w) A (ksk_rest a f false (wu ws).toArray e1 (.ref kT)) P E s:=by
 unfold ksk_rest
 refine jb_ (zS_ ?_)
 rw[List.forIn_toArray]
 refine jb_ (ksk_fold (fun i s'=>∃(H':Hp) (ts:List Addr),Inv X ae σ H' s'/\Same H0 H'/\H' a=some (Emp a e1)/\H' kT=some (.lst (ts.map V.ref))/\ts.length=i/\TsOk X.K H' ts ws) (wu ws) 0 s
  ⟨H,[],I,h0,ha,hk,rfl,fun j t w h1 _=>by simp at h1⟩ ?step ?done)
 case step=>
  rintro j x s' hx ⟨H',ts,I',g0,g1,g2,g3,g4⟩
  simp only[zG_]at g3 ⊢
  unfold wu at hx
  rw[je_]at hx
  obtain⟨w,hw,rfl⟩:∃w,ws[j]?=some w/\Value.ref w.1=x:=by
   cases e:ws[j]? with
   |none=>rw[e]at hx;cases hx
   |some w=>rw[e]at hx;cases hx;exact⟨w,rfl,rfl⟩
  have hj:j<ws.length:=(jc_.mp hw).1
  refine jb_ (xl_ (qB_ (hT w (jd_ hw) H' s' I' g0) (fun k s2 fj=>?_) fun _ _ z=>z.elim))
  obtain⟨v,H2,I2,rv,t,rfl,q1,q2⟩:=fj
  have rk:k=Value.ref t:=rv
  subst rk
  have h8:=q1 _ _ g2
  obtain⟨z,its,n,r,el,e⟩:=I2.lstM h8
  dsimp only
  have hi:=FQ r
  have jZ:its.length=j:=by rw[hi,ja_];exact g3
  refine jb_ (listUpdate_at e rfl ?_ (by rw[jm_,jZ];lia) (by rw[uC,jm_,jZ];lia))
  refine jo_ ⟨rfl,upd H2 kT (.lst ((ts++[t]).map V.ref)),ts++[t],?_,?_,?_,Ab,by simp[g3],?_⟩
  ·have:=I2.lset (its':=its++[Value.ref t]) (ys:=(ts++[t]).map V.ref) (f:=fun a=>a.push (Value.ref t)) (t':=s2.toks) h8 e (by simp) (by rw[jW_];exact r.append (.cons rfl .nil)) (by rw[ja_,jn_,g3];simp;lia)
   exact this
  ·exact (g0.trans q1).over lV
  ·rw[Aj (qs_ lU)];exact q1 _ _ g1
  ·intro i t' w' h1 h2
   refine SA h8 ?_
   by_cases hi:i<ts.length
   ·rw[jk_ hi]at h1
    exact q1.seqT (g4 i t' w' h1 h2)
   ·rw[jt_ s!""]at h1
    have:i-ts.length=0:=by
     by_cases hq:i-ts.length=0
     ·exact hq
     ·rw[jU_ (by simp;lia)]at h1;cases h1
    rw[this]at h1
    cases h1
    have:i=j:=by lia
    subst this
    rw[hw]at h2;cases h2
    exact q2
 case done=>
  rintro s' ⟨H',ts,I',g0,g1,g2,g3,g4⟩
  obtain⟨z,its,n,r,el,e⟩:=I'.lstM g2
  have hi:=FQ r
  subst hi
  refine jb_ (listItems_at e rfl ?_)
  exact Xp I' hu g1 g2 lU g0 hn lV s!"" (by rw[g3];simp[wu]) (hW.same g0) g4 h
def W2 {n:Nat}(I:Inv X ae σ H s)(hu:A.units+6<cLine)(ha:H a=some (.lst (wv ws)))(h0:Same H0 H)(hn:H0 a=none)(hz:ws.length<sizeLine)(j0:∀b,s.heap.objs.size<=b->H0 b=none)
  (hW:WsOk X.K H0 ws) (hT:Turn X ae σ A f ws H0) (h:Sz X ae σ H0 a ws P):
  wpAny (model X.prog X.w) A (ksk_tree a f false) P E s:=by
 obtain⟨z,its,n,r,el,e⟩:=I.lstM ha
 have hi:its=wu ws:=by
  have:Vals ((ws.map (·.1)).map V.ref) its:=by rw[jR_];exact r
  rw[FQ this,jR_];rfl
 subst hi
 have q:=za_ (f:=fun _=>(#[]:Array Value)) e
 obtain⟨e1,lX⟩:∃e1,(s.heap.update a (Obj.mapSeq fun _=>(#[]:Array Value))).get? a=some (seqObj "list" #[] e1):=⟨_,q⟩
 have I1:Inv X ae σ (upd H a (Emp a e1)) {s with heap:=s.heap.update a (Obj.mapSeq fun _=>(#[]:Array Value)),toks:=s.toks}:=by
  refine I.write (x:=a) (e:=a) (by rw[ha];exact trivial) (.inl rfl) (fun b' u hb hu=>(j6_ _ _ (qs_ hb)).trans hu) ⟨_,lX⟩ ⟨lX,⟨_,lX⟩,fun h1 h2 g1 g2=>g2 _ g1⟩
 unfold ksk_tree
 refine jb_ (listItems_at e rfl ?_)
 refine jb_ (listUpdate_at e rfl ?_ (by rw[jm_];simp only[wu,ja_];lia) (jY_ _))
 refine jb_ (seqEpoch_at lX rfl ?_)
 refine jb_ (wpAny_newTuple ?_ (by rw[z5_];simp only[wu,ja_];lia))
 refine jb_ (wpAny_newList ?_ (jY_ _))
 refine qJ_ ?_
 have I2:=I1.kept (t':=s.toks) (h':=(s.heap.update a (Obj.mapSeq fun _=>(#[]:Array Value))).push {cls:=.type "tuple",data:=.seq (wu ws).toArray}) (fun _ _ q=>jf_ _ q)
 have I3:=I2.lnew (t':=s.toks) (its:=[]) (ys:=[]) .nil (jY_ _)
 have hk:((s.heap.update a (Obj.mapSeq fun _=>(#[]:Array Value))).push {cls:=.type "tuple",data:=.seq (wu ws).toArray}).objs.size=s.heap.objs.size+1:=by rw[size_push',Heap.size_update]
 have aq:=jr_ e
 refine W0 I3 hu ?_ Ab ?_ ?_ hn ?_ hz hW hT h
 ·rw[Aj (by show a≠_;rw[hk];exact jM_ (xn_ aq))];exact Ab
 ·show _≠a
  rw[hk];exact qe_ (xn_ aq)
 ·refine (h0.over hn).over (j0 _ ?_)
  show _<=_
  rw[hk];lia
 ·refine j0 _ ?_
  show _<=_
  rw[hk];lia
def Xq (X:Cx)(ae:α7)(σ:L2.St)(H:Hp)(ws:List Wd)(Q:Value->Shared->Prop):Prop:=
 ∀s' H' D os,Inv X ae σ H' s'->Same H H'->H D=none->H' D=some (.lst (wv os))->os.Perm ws->Srt os->Q (.ref D) s'
def SD   (I:Inv X ae σ H s)(hu:A.units+8<cLine)(hl:SqL X.K H l (wv ws))(hz:ws.length<sizeLine)(hW:WsOk X.K H ws)
  (hT:Turn X ae σ A.in1.in1 (.ref q) ws H) (h:Xq X ae σ H ws Q):
  wpAny (model X.prog X.w) A (call (.builtin "sorted") [.ref l] [(Str.ofString "key",.ref q)]) Q E s:=by
 obtain⟨its,r,pl,_⟩:=I.list hl
 have hi:its=wu ws:=by
  have:Vals ((ws.map (·.1)).map V.ref) its:=by rw[jR_];exact r
  rw[FQ this,jR_];rfl
 subst hi
 have aj:(wu ws).length=ws.length:=by simp[wu]
 refine call_function_entry_kw kind_sorted plain_sorted entry_sorted (ksk_s1 _ _) ?_
 unfold Builtin.«sorted»
 refine jb_ (m:=checkCount "sorted" 1 1 _) (jo_ ?_)
 refine jb_ (collect_list (vs:=wu ws) ?isl ?_ s!"")
 case isl=>
  exact pl.isList
 refine jb_ (wpAny_newList ?_ s!"")
 have hsz:((s.heap.push (seqObj "list" #[] 0)).update s.heap.objs.size (Obj.mapSeq (· ++ (wu ws).toArray))).objs.size=s.heap.objs.size+1:=by
  rw[Heap.size_update,size_push']
 have keep:∀b o,s.heap.get? b=some o->((s.heap.push (seqObj "list" #[] 0)).update s.heap.objs.size (Obj.mapSeq (· ++ (wu ws).toArray))).get? b=some o:=fun b o q=>by
  have aq:b<s.heap.objs.size:=jr_ q
  rw[Heap.get?_update_ne _ _ _ _ (jM_ aq),Heap.get?_push_ne _ _ _ (jM_ aq)]
  exact q
 have I1:=I.kept (t':=s.toks) keep
 have I2:=I1.lnew (t':=s.toks) (its:=wu ws) (ys:=wv ws) (Q6 ws) (by simp only[wv,ja_];lia)
 have hD:H (s.heap.objs.size+1)=none:=I.hok.fresh (wg_ _)
 have oQ:(((s.heap.push (seqObj "list" #[] 0)).update s.heap.objs.size (Obj.mapSeq (· ++ (wu ws).toArray))).push (seqObj "list" (wu ws).toArray 0)).get? (s.heap.objs.size+1)=some (seqObj "list" (wu ws).toArray 0):=by
  rw[<-hsz];exact jx_ _ rfl
 show wpAny _ _ _ _ _ {s with heap:=((s.heap.push (seqObj "list" #[] 0)).update s.heap.objs.size (Obj.mapSeq (· ++ (wu ws).toArray))).push (seqObj "list" (wu ws).toArray 0)}
 have I3:Inv X ae σ (upd H (s.heap.objs.size+1) (.lst (wv ws))) {s with heap:=((s.heap.push (seqObj "list" #[] 0)).update s.heap.objs.size (Obj.mapSeq (· ++ (wu ws).toArray))).push (seqObj "list" (wu ws).toArray 0)}:=by
  have:=I2
  dsimp only at this
  rw[hsz]at this
  exact this
 rw[hsz]
 refine jb_ (qJ_ (wpAny_call_entry_kw slot_list_sort ⟨_,oQ,rfl⟩ entry_list_sort ?body (ksk_l1 _ _)))
 case body=>
  have eL:=ksk_t1 q (s.heap.objs.size+1)
  show wpAny (model X.prog X.w) A.in1.in1 (Builtin.«list.sort» ⟨[.ref (s.heap.objs.size+1)],[(Str.ofString "key",.ref q)]⟩) _ _ _
  rw[eL]
  refine W2 (n:=0) (H0:=H) I3 (by rw[in1_units,in1_units];lia) Ab (Same.new hD) hD hz (fun b hb=>I.hok.fresh ?_) hW hT fun s' H' os I' g1 g2 g3 g4=>⟨_,rfl,?_⟩
  ·have iu:(((s.heap.push (seqObj "list" #[] 0)).update s.heap.objs.size (Obj.mapSeq (· ++ (wu ws).toArray))).push (seqObj "list" (wu ws).toArray 0)).objs.size<=b:=hb
   rw[size_push',hsz]at iu
   lia
  ·exact jo_ ⟨_,rfl,h s' H' _ os I' g1 hD g2 g3 g4⟩
end
end aS
namespace L2
open PySem PySem.Spec PyProof.Rows
def W3   {K:α3}
               (S:FnScope N ps scope) (hr:Room (k+1) A) (e0:Env0 P w K mg base A outer s H)
    (ho:s.heap.get? f=some (rR name qual params body scope [] pm c' ic)) (b8:s.heap.CodeRec (.ref c') qual) (hb:bindArgs (wY name qual params body scope [] pm (.ref c') ic) args=pure (ps.zip us)) (r:Vals vs us) (hl:vs.length=ps.length)
    (ht:PE (cxOf CX0 P w K mg base N qual scope f (.ref c') A outer s H E).nox body t) (hq:t (start N vs) H Q):codeAny (model P w) A (.call (.ref f) args) (CR CX0 outer P w H s Q E) s:=by
  have oV:s.heap.NoLimit:=e0.mod.nolimit.keeps fun b o e=>(e0.bs b o e).1
  have f7:∀y∈ps.zip us,scope.names.lookup y.1=some .local\/(scope.names.lookup y.1=some .cell/\((cellsFrom (s.heap.objs.size+1) scope.names []).lookup y.1).isSome=true):=fun ⟨n,v⟩ hy=>by
    rcases S.par n (xH_ hy).1 with q|q
    . exact .inl q
    . exact .inr ⟨q,xW_ _ _ _ (.inl q)⟩
  refine vS hr.depth ho rfl S.co S.gen rfl b8 ?_
  rw[hb]
  refine jo_ ?_
  refine wpAny_newFunctionEnv_cells S.kind f7 fun env he s1 x=>?_
  subst he
  refine⟨oV.keeps x.toInCall.keep,vT ?_⟩
  have I:Inv (cxOf CX0 P w K mg base N qual scope f (.ref c') A outer s H E) [] (start N vs) H s1:=K1 S hr.hd e0 hl r x
  refine qB_ (ht [] s1 (start N vs) H _ (I.wish _) hq) (fun u s' hs=>?_) fun e s' hs=>hs.elim
  obtain⟨v,H',J,rv,q⟩:=hs
  have J':=J.unwish
  exact⟨v,H',J'.os,J'.bare,J'.base,J'.hok,rv,q⟩
def BmOk (mg:Str->α5)(base:Heap):Prop:=∃bm ob,mg "__builtins__"=some (.ref bm)/\bm≠builtinsNs/\base.get? bm=some ob/\ob.cls=.type "module" /\ ob.dict=some builtinsNs/\ob.data=.plain
end L2
namespace L2
open PySem PySem.Spec PyProof.Rows aS
abbrev lamA (ap:Pos):Arguments:={posonlyargs:=[],args:=[{arg := "word",annotation:=none,pos:=ap}],vararg:=none,kwonlyargs:=[],kw_defaults:=[],kwarg:=none,defaults:=[]}
abbrev lamB (p1 p2 p3 p4 p5:Pos):Expr:=.Tuple [.Call (.Name "len" p1) [.Name "word" p2] [] p3,.Name "word" p4] 0 p5
abbrev lamS:Scope:={kind:=.function,names:=[(Str.ofString "word",.local),(Str.ofString "len",.globalImplicit)],isGenerator:=false,isCoroutine:=false,more:=[]}
def SE:FnScope ["word"] ["word"] lamS:=⟨rfl,rfl,rfl,by decide,rfl,fun x hx=>.inl (by rw[ju_.mp hx];rfl),fun y hy=>by
 rcases jD_.mp hy with rfl|hy
 ·simp
 ·rw[ju_.mp hy];simp⟩
end L2
namespace L2
open PySem PySem.Spec PyProof.Rows
def Q9   {K:α3}
  (KX:K.In s₁.heap) (iG:s₁.heap.Ns mainGlobals mg) (hb:s₁.heap.Ns builtinsNs mb) (hbb:∀x:Str,x ≠ "__name__" -> mb x=bootBuiltins x) (hlim:s₁.heap.NoLimit) (hg:s₁.gens = #[]) (pX:BmOk mg s₁.heap)
  (hC:rE s₁.heap c T) (hT:s₁.heap.get? T=some (rJ #[])) (pY:K.lookup T=none)
  (ha:s₁.heap.get? a=some {cls:=.type "list",data:=.seq vs.toArray}) (hi:IntsAre vs ns) (hl:ns.length<=sizeLine) (hr:Room k callerA)
  (F:∀base:Heap,K.In base->base.Ns mainGlobals mg->rE base c T->BmOk mg base->FnOk P w K mg base CX k fa fd [x] sp) (hbind:∀(s:Shared) (u:Value),BindsTo s fd ⟨[u],[]⟩ [(x,u)])
  (fb:∀H:Hp,H T=some (.tbl #[])->SqL K H a (ns.map V.int)->sp [.ref a] H (fun v _=>v=.bl true) fun _ _ _=>False)
  (pZ:∀H e s',CX [] H s₁ (fun _ _ _=>False) e s'->False):
  codeAny (model P w) callerA (.call (.ref fa) ⟨[.ref a],[]⟩) (fun r s'=>r=.ok (.ret (.bool true))/\OldK s₁.heap s'.heap/\s'.os=s₁.os/\AllBare s'.gens) s₁:=by
 have rv:=K3 hi
 have lenV:=hi.length
 have hTa:T≠a:=fun z=>by subst z;rw[hT]at ha;cases ha
 have core:∀H:Hp,H T=some (.tbl #[])->SqL K H a (ns.map V.int)->HOk P w H s₁.heap->(∀b,H b≠none->b=T\/(b=a/\K.lookup a=none/\∃o xs,H a=some (.frz o (.lst xs)))) ->
   codeAny (model P w) callerA (.call (.ref fa) ⟨[.ref a],[]⟩) (fun r s'=>r=.ok (.ret (.bool true))/\OldK s₁.heap s'.heap/\s'.os=s₁.os/\AllBare s'.gens) s₁:=by
  intro H hHT hS hok hA
  have free:∀{b:Addr} {o:Obj},s₁.heap.get? b=some o->o.cls ≠ .none->o.data ≠ .seq vs.toArray 0->H b=none:=fun {b o} e h1 h2=>by
   cases q:H b with
   |none=>rfl
   |some u=>
    rcases hA b (by rw[q];simp) with rfl|⟨rfl,_⟩
    ·rw[hT]at e;cases e;exact absurd rfl h1
    ·rw[ha]at e;cases e;exact absurd rfl h2
  have nW:∀{b:Addr} {m:Str->α5},s₁.heap.Ns b m->(hidT s₁.heap H).Ns b m:=fun {b m} ⟨o,es,ep,e,d,r⟩=>⟨o,es,ep,Hk e (by
   cases q:H b with
   |none=>rfl
   |some u=>
    rcases hA b (by rw[q];simp) with rfl|⟨rfl,_⟩
    ·rw[hT]at e;cases e;cases d
    ·rw[ha]at e;cases e;cases d),d,r⟩
  have hKb:K.In (hidT s₁.heap H):=fun b o e=>Hk (KX b o e) (by
   cases q:H b with
   |none=>rfl
   |some u=>
    rcases hA b (by rw[q];simp) with rfl|⟨rfl,z,_⟩
    ·rw[pY]at e;cases e
    ·rw[z]at e;cases e)
  have hM:Mod K mg (hidT s₁.heap H):=⟨hKb,nW iG,⟨mb,nW hb,hbb⟩,let ⟨mc,h1,h2⟩:=hlim;⟨mc,nW h1,h2⟩⟩
  have e0:Env0 P w K mg (hidT s₁.heap H) callerA [] s₁ H:=⟨rfl,hM,fun b o e=>Ul e,sx (O2 _ _),trivial,fun b hb=>absurd (show b∈([]:List Addr) from hb) (by simp),hok,.of_eq hg⟩
  have hCb:rE (hidT s₁.heap H) c T:=by
   obtain⟨o,ws,file,tf,flags,tg,inF,text,tt,e,hc,hd,r⟩:=id hC
   exact⟨o,ws,file,tf,flags,tg,inF,text,tt,Hk e (free e (by rw[hc];intro z;cases z) (by rw[hd];intro z;cases z)),hc,hd,r⟩
  have hbb2:BmOk mg (hidT s₁.heap H):=by
   obtain⟨bm,ob,b1,b2,b3,b4,b5,b6⟩:=pX
   exact⟨bm,ob,b1,b2,Hk b3 (free b3 (by rw[b4];intro z;cases z) (by rw[b6];intro z;cases z)),b4,b5,b6⟩
  refine codeAny_mono ((F _ hKb (nW iG) hCb hbb2).run callerA [] s₁ H ⟨[.ref a],[]⟩ [.ref a] [.ref a] _ _ hr e0 (hbind s₁ (.ref a)) (.cons rfl .nil) (fb H hHT hS)) fun r s' h=>?_
  cases r with
  |error e=>exact (pZ H e s' h).elim
  |ok fl=>
   cases fl with
   |next=>exact rF h
   |brk=>exact rF h
   |cont=>exact rF h
   |ret u=>
    obtain⟨v,H',os,bare,un,hok',r',q⟩:=h
    have q':v=.bl true:=q
    subst q'
    obtain rfl:u=Value.bool true:=r'
    have noB:∀b:Addr,b∉frs ([]:List Env):=fun b z=>absurd (show b∈([]:List Addr) from z) (by simp)
    have all:∀b o,s₁.heap.get? b=some o->asItWas s₁.heap s'.heap b o:=fun b o e=>by
     cases q:H b with
     |none=>exact .inl (un.keep b o e q (noB b) (by simp))
     |some u=>
      rcases hA b (by rw[q];simp) with rfl|⟨rfl,_,ob,xs,z⟩
      ·obtain⟨more,z2⟩:=un.tbls b _ hHT
       have e2:s'.heap.get? b=some {cls:=.none,data:=.fields (#[]++more)}:=hok' b _ z2
       rw[hT]at e;cases e
       obtain⟨o',ws,_,_,_,_,_,_,_,e3,hc,hd,h11,_⟩:=hC
       exact .inr (.inl ⟨⟨c,o',ws,e3,hc,hd,h11⟩,rfl,#[],more,rfl,e2⟩)
      ·have z2:=un.frzs b ob _ z
       obtain⟨e1,_⟩:=hok b _ z
       obtain⟨e2,_⟩:=hok' b _ z2
       rw[e]at e1;cases e1
       exact .inl e2
    refine⟨rfl,⟨all,fun b o e=>?_⟩,os,bare⟩
    exact un.there b o e (by simp)
 cases hk:K.lookup a with
 |some o=>
  have e:=KX a o hk
  rw[ha]at e
  cases e
  refine core (fun b=>if b=T then some (.tbl #[]) else none) (if_pos rfl) (.inr ⟨_,vs.toArray,_,hk,rfl,rfl,rfl,by rw[jm_,lenV];exact hl,by simpa using rv⟩) (fun b u z=>?_) (fun b z=>?_)
  ·by_cases hb:b=T
   ·have z':=(if_pos hb).symm.trans z
    cases z';subst hb;exact hT
   ·have z':=(if_neg hb).symm.trans z
    cases z'
  ·by_cases hb:b=T
   ·exact .inl hb
   ·exact absurd (if_neg hb) z
 |none=>
  refine core (fun b=>if b=T then some (.tbl #[]) else if b=a then some (.frz {cls:=.type "list",data:=.seq vs.toArray} (.lst (ns.map V.int))) else none) (if_pos rfl) (.inl (.inr ⟨{cls:=.type "list",data:=.seq vs.toArray},by show (if a=T then _ else _)=_;rw[if_neg (qs_ hTa),if_pos rfl]⟩)) (fun b u z=>?_) (fun b z=>?_)
  ·by_cases hb:b=T
   ·have z':=(if_pos hb).symm.trans z
    cases z';subst hb;exact hT
   ·have z1:=(if_neg hb).symm.trans z
    by_cases fu:b=a
    ·have z':=(if_pos fu).symm.trans z1
     cases z'
     subst fu
     exact⟨ha,by rw[ja_];exact hl,vs,_,rv,ha⟩
    ·have z':=(if_neg fu).symm.trans z1
     cases z'
  ·by_cases hb:b=T
   ·exact .inl hb
   ·by_cases fu:b=a
    ·exact .inr ⟨fu,hk,_,_,by show (if a=T then _ else _)=_;rw[if_neg (qs_ hTa),if_pos rfl]⟩
    ·exact absurd (by show (if b=T then _ else _)=_;rw[if_neg hb,if_neg fu]) z
def walk_ofT {l:sN}{n k:Nat}{q:Program}{cL:List Str}{XP:(Str->α5)->Heap->Prop}{YP:World->Heap->Prop}{d:DefRec}{K:Params->α3}{CX:World->CXT}{sp:World->Sp}{x xT:Str}
  (hn:l.most=some n) (fR:n<=sizeLine) (mF:d.params.defaults=[]) (hr:Room k callerA)
  (hY:∀(w:World) (h:Heap),YP w h->(K w.params).In h)
  (F:∀(w:World) (mg:Str->α5) (fa:Addr) (h:Heap),YP w h->(K w.params).In h->h.Ns mainGlobals mg->mg d.name=some (.ref fa) ->
   ∃(fd:α6) (c T:Addr),rH (K w.params) xT=some (c,T)/\(K w.params).lookup T=none/\rE h c T/\h.get? T=some (rJ #[])/\(∀(s:Shared) (u:Value),BindsTo s fd ⟨[u],[]⟩ [(x,u)]) /\
    ∀base:Heap,(K w.params).In base->base.Ns mainGlobals mg->rE base c T->BmOk mg base->FnOk l.prog w (K w.params) mg base (CX w) k fa fd [x] (sp w))
  (fb:∀(w:World) (H:Hp) (a c T:Addr) (ns:α2),ns.length<=n->rH (K w.params) xT=some (c,T)->H T=some (.tbl #[])->SqL (K w.params) H a (ns.map V.int)->sp w [.ref a] H (fun v _=>v=.bl true) fun _ _ _=>False)
  (pZ:∀(w:World) (H:Hp) (s:Shared) (e:Value) (s':Shared),CX w [] H s (fun _ _ _=>False) e s'->False):
  vn q cL XP YP l.row.toRowW d [] (fun f vs=>uK f vs):=by
 refine Att.attach_call hn mF fun w s₀ s₁ mg mb fa o pm cd bI a vs ns G Y ho hd b8 hmg bN gg aj hg=>?_
 have KX:=hY w _ Y
 obtain⟨fd,c,T,jZ,pY,hC,hT,hb,hF⟩:=F w mg fa _ Y KX G.T.g hmg
 exact Q9 KX G.T.g G.T.b G.T.builtins G.T.nolimit hg (let ⟨bm,ob,b1,b2,b3,b4,b5,b6⟩:=G.T.bmain;⟨bm,ob,b1,b2,b3,b4,b5,b6⟩) hC hT pY bN gg (qp_ aj fR) hr hF hb (fun H hO hS=>fb w H a c T ns aj jZ hO hS) fun H e s'=>pZ w H s₁ e s'
def tabC (K:α3)(x:Str):Addr:=((rH K x).getD (0,0)).1
def tabP (K:α3)(x:Str):Addr:=((rH K x).getD (0,0)).2
def ML {K:α3}   (h:rH K x=some (c,T)):tabC K x=c:=by unfold tabC;rw[h];rfl
def Ra {K:α3}   (h:rH K x=some (c,T)):tabP K x=T:=by unfold tabP;rw[h];rfl
def SF {K:α3}      {sl fP:Array (α5)}  (a:nsIn K mainGlobals x=some (some (.ref f)))(l:K.lookup f=some ⟨oc,od,.func fd,sl⟩)(hc:fd.code=.ref c)
  (lc:K.lookup c=some ⟨oc2,od2,.fields vs,fP⟩) (h:vs[11]?=some (.ref T)):rH K x=some (c,T):=by
 unfold rH
 rw[a]
 dsimp only
 rw[l]
 dsimp only
 rw[hc]
 dsimp only
 rw[lc]
 dsimp only
 rw[h]
structure FunL (K:α3)(mg:Str->α5)(base:Heap)(x qual:Str)(st:Stmt)(f:Addr)(fd:α6):Prop where
 ex:∃(oc:Value) (od:Option Addr) (kV bI pm:Value) (an:Option Addr) (ct:Value) (f6:Array (α5)),
  fd=fnOf x qual (C4 st) (Cz st) (Al st) .none kV bI pm an (.ref (tabC K x)) ct/\K.lookup f=some ⟨oc,od,.func fd,f6⟩/\codeIn K (.ref (tabC K x)) qual=true
 C:rE base (tabC K x) (tabP K x)
 B:BmOk mg base
section
variable {P:Program} {w:World} {K:α3} {mg:Str->α5} {base:Heap}
def FunL.ok  {st:Stmt}      (F:FunL K mg base x qual st f fd)(S:FnScope N ps (Al st))(len:∀vs H Q E,sp vs H Q E->vs.length=ps.length)
  (dA:∀(ay:Value) (b8:ay=.ref (tabC K x)) (A:Around) (outer:List Env) (s:Shared) (H:Hp) (vs:List V) (Q:VK) (E:XK),Room k (A.deeper (envOfC qual (Al st) s.heap.objs.size f ay))->sp vs H Q E ->
   ∃t,PSs (cxOf CX0 P w K mg base N qual (Al st) f ay A outer s H E).nox (Cz st) t/\t {nx:=fun _ H'=>Q .non H',rt:=Q} (start N vs) H):FnOk P w K mg base CX0 (k+1) f fd ps sp:=by
 obtain⟨oc,od,kV,bI,pm,an,ct,f6,rfl,lk,b8⟩:=F.ex
 refine VP lk b8 S len fun A outer s H vs Q E hr fb=>?_
 obtain⟨t,h,q⟩:=dA _ rfl A outer s H vs Q E hr fb
 exact⟨t,h.nox,q⟩
def Vi  {st:Stmt}     {kV bI pm ct:Value}(ti:rH K x=some (c,T))(l:K.lookup f=some ⟨oc,od,.func (fnOf x qual (C4 st) (Cz st) (Al st) .none kV bI pm an (.ref c) ct),f6⟩)
  (hc:codeIn K (.ref c) qual=true) (C:rE base c T) (B:BmOk mg base):FunL K mg base x qual st f (fnOf x qual (C4 st) (Cz st) (Al st) .none kV bI pm an (.ref c) ct):=
 ⟨⟨oc,od,kV,bI,pm,an,ct,f6,by rw[ML ti],l,by rw[ML ti];exact hc⟩,by rw[ML ti,Ra ti];exact C,B⟩
end
end L2
namespace L2
open PySem PySem.Spec PyProof.Rows aS
def Cj (T:Addr)(H H':Hp):Prop:=∀b o,b≠T->H b=some o->H' b=some o
def LamT (T:Addr)(lp:Pos)(qual:Str)(H:Hp):Prop:=H T=some (.tbl #[]) \/ ∃(c':Addr) (oc:Obj) (vs:Array Value) (t:Tok),H T=some (.tbl #[rawInt lp.line,rawInt lp.col,.ref c'])/\H c'=some (.frz oc (.own 0))/\oc.data=.fields vs/\vs[1]?=some (.str (qual ++ "<lambda>") t)
def LamT.is     (h:LamT T lp qual H):∃ps,H T=some (.tbl ps):=by
 rcases h with h|⟨_,_,_,_,h,_⟩
 ·exact⟨_,h⟩
 ·exact⟨_,h⟩
def LamT.mono     (h:LamT T lp qual H)(s:Same H H'):LamT T lp qual H':=by
 rcases h with h|⟨c',oc,vs,t,h,h2,h3,h4⟩
 ·exact .inl (s _ _ h)
 ·exact .inr ⟨c',oc,vs,t,s _ _ h,s _ _ h2,h3,h4⟩
def Cj.of   (s:Same H H'):Cj T H H':=fun b o _ e=>s b o e
def Cj.trans   (s:Cj T H H')(s':Cj T H' iE):Cj T H iE:=fun b o hb e=>s' b o hb (s b o hb e)
def Cj.ne   (s:Cj T H H')   (e:H b=some o)(ho:∀ps,o ≠ .tbl ps)  (hT:H T=some (.tbl ps)):H' b=some o:=s b o (fun z=>by subst z;rw[hT]at e;cases e;exact ho _ rfl) e
def Cj.tsq {K:α3}   (s:Cj T H H')  (hT:H T=some (.tbl ps))   (h:SqT K H b ys):SqT K H' b ys:=by
 rcases h with h|h
 ·left
  rcases h with h|⟨o,h⟩
  ·exact .inl (s.ne h (fun _ z=>by cases z) hT)
  ·exact .inr ⟨o,s.ne h (fun _ z=>by cases z) hT⟩
 ·exact .inr h
def Cj.lsq {K:α3}   (s:Cj T H H')  (hT:H T=some (.tbl ps))   (h:SqL K H b ys):SqL K H' b ys:=by
 rcases h with h|h
 ·left
  rcases h with h|⟨o,h⟩
  ·exact .inl (s.ne h (fun _ z=>by cases z) hT)
  ·exact .inr ⟨o,s.ne h (fun _ z=>by cases z) hT⟩
 ·exact .inr h
def Cj.none   (s:Cj T H H')  (hT:H' T=some (.tbl ps))  (h:H' b=none):H b=none:=by
 cases q:H b with
 |none=>rfl
 |some o=>
  have:=s b o (fun z=>by subst z;rw[hT]at h;cases h) q
  rw[h]at this;cases this
section
variable {X:Cx} {ae:α7} {σ:St} {H:Hp} {s:Shared}
def Inv.tabK      (I:Inv X ae σ H s)(hP:H P=some (.tbl ps))(k:∀b o,b≠P->s.heap.get? b=some o->h'.get? b=some o)(e:h'.get? P=some (rJ (ps++ps')))
  (hc:s.heap.objs.size<=c') (dR:h'.get? c'=some oc):Inv X ae σ (upd (upd H P (.tbl (ps++ps'))) c' (.frz oc (.own 0))) {s with heap:=h',toks:=t' }:=by
 have nP:∀b,H b=none->b≠P:=fun b n z=>by subst z;rw[hP]at n;cases n
 have m7:∀b u,H b=some u->(∀qs,u ≠ .tbl qs)->b≠P:=fun b u q hu z=>by subst z;rw[hP]at q;cases q;exact hu _ rfl
 have nC:∀b u,H b=some u->b≠c':=fun b u q z=>by subst z;rw[I.hok.fresh hc]at q;cases q
 have nC2:∀b o,s.heap.get? b=some o->b≠c':=fun b o q z=>by subst z;exact absurd (jr_ q) (wj_.mpr hc)
 refine I.un ⟨fun b o q n _ _=>k b o (nP b n) q,fun b o q n _ _=>⟨o.slots,k b o (nP b n) q⟩,fun b o q n _=>by rw[Aj (nC2 b o q),Aj (nP b n)];exact n,fun b o q _=>?_,fun b xs q=>?_,fun b o u q=>?_,fun b qs q=>?_⟩ (fun b u q=>?_)
 ·by_cases hb:b=P
  ·subst hb;exact⟨_,e⟩
  ·exact⟨o,k b o hb q⟩
 ·rw[Aj (nC b _ q),Aj (m7 b _ q (fun _ z=>by cases z))];exact q
 ·rw[Aj (nC b _ q),Aj (m7 b _ q (fun _ z=>by cases z))];exact q
 ·by_cases hb:b=P
  ·subst hb;rw[hP]at q;cases q;exact⟨ps',by rw[Aj (nC b _ hP)];exact Ab⟩
  ·rw[Aj (nC b _ q),Aj hb];exact⟨#[],by rw[q];simp⟩
 ·by_cases hbc:b=c'
  ·subst hbc;rw[Ab]at q;cases q;exact⟨dR,_,dR⟩
  rw[Aj hbc]at q
  by_cases hb:b=P
  ·subst hb;rw[Ab]at q;cases q;exact e
  ·rw[Aj hb]at q
   refine (I.hok b u q).stay (fun c v hc r=>k c v ?_ r) (fun c r=>by rw[Aj (nC c _ r),Aj (m7 c _ r (fun _ z=>by cases z))];exact r) fun c xs r=>by rw[Aj (nC c _ r),Aj (m7 c _ r (fun _ z=>by cases z))];exact r
   rcases hc with rfl|hc
   ·exact hb
   ·exact m7 c _ hc (fun _ z=>by cases z)
def Rb          (I:Inv X ae σ H s)(eN:X.env.code=.ref c)(C:rE X.base c P)(hL:LamT P pos X.env.qual H)
  (hb:BmOk X.mg X.base) (bS:closureFor scope X.env=pure []) (hdef:defaultsOf params X.env=([],[]))
  (h:∀(f c':Addr) (oc:Obj) (vs:Array Value) (t:Tok) (ic:Value) (H':Hp) (s':Shared),Inv X (ae++[(f,rR "<lambda>" (X.env.qual ++ "<lambda>") params body scope [] ((X.mg "__name__").getD .none) c' ic)]) σ H' s'->Cj P H H'->H' P=some (.tbl #[rawInt pos.line,rawInt pos.col,.ref c'])->H' c'=some (.frz oc (.own 0))->oc.data=.fields vs->vs[1]?=some (.str (X.env.qual ++ "<lambda>") t)->Q (.ref f) s'):
  wpAny M A (eval (.Lambda params body scope pos) X.env) Q E s:=by
 obtain⟨ps,hP⟩:=hL.is
 obtain⟨bm,ob,b1,b2,b3,b4,b5,b6⟩:=hb
 have hg:s.heap.Ns mainGlobals X.mg:=I.mod.glob.keeps I.bk
 have eP:s.heap.get? P=some (rJ ps):=I.hok P _ hP
 have nb:∀b o,X.base.get? b=some o->b≠P:=fun b o e z=>by subst z;have:=(I.bs b o e).2;rw[hP]at this;cases this
 have hgP:mainGlobals≠P:=by
  obtain⟨o,es,ep,e,_⟩:=I.mod.glob
  exact nb _ _ e
 have hbG:bm≠mainGlobals:=fun q=>by
  obtain⟨o,es,ep,e,hd,_⟩:=I.mod.glob
  rw[q,e]at b3;cases b3;rw[hd]at b6;cases b6
 refine wL hdef ?_
 rcases hL with hL|⟨c',oc,vs,t,h1,h2,h3,h4⟩
 ·have:ps = #[]:=by rw[hL]at hP;cases hP;rfl
  subst this
  refine vo (mg:=X.mg) bS I.ok.glob hg eN (C.keeps I.bk) eP (by trivial) rfl hgP ⟨bm,ob,b1,b2,hbG,nb _ _ b3,I.bk _ _ b3,b4,b5,b6⟩ fun c' ic h' tk hx bC aq hrec lT=>?_
  obtain⟨c₂,oc,vs,t,e2,dR,hd,hv⟩:=hrec
  cases e2
  have I1:=I.tabK (t':=tk) (h':=h'.push (rR "<lambda>" (X.env.qual ++ "<lambda>") params body scope [] ((X.mg "__name__").getD .none) c' ic)) hP (fun b o hb e=>jf_ _ (hx b o hb e)) (jf_ _ lT) bC (jf_ _ dR)
  have hsz:s.heap.objs.size<=h'.objs.size:=qp_ bC (ze_ aq)
  have hcP:P≠c':=fun z=>by subst z;exact absurd (jr_ eP) (wj_.mpr bC)
  refine h h'.objs.size c' oc vs t ic _ _ (I1.pins_of fun p hp=>?_) (fun b o hb e=>?_) ((Aj hcP).trans Ab) Ab hd hv
  ·rcases jA_.mp hp with hp|hp
   ·exact I1.pin p (jy_ _ hp)
   ·rw[ju_.mp hp]
    refine⟨jx_ _ rfl,?_,fun z=>?_,I.nofs hsz,fun v z=>by cases z⟩
    ·rw[Aj (fun z=>absurd aq (by dsimp only at z;rw[z];exact j8_ _)),Aj (fun z=>by dsimp only at z;subst z;exact absurd (jr_ eP) (wj_.mpr hsz))]
     exact I.hok.fresh hsz
    ·dsimp only at z
     have:=I.lt
     rw[<-z]at this
     exact absurd this (wj_.mpr hsz)
  ·rw[Aj (fun z=>by subst z;rw[I.hok.fresh bC]at e;cases e),Aj hb];exact e
 ·have:ps = #[rawInt pos.line,rawInt pos.col,.ref c']:=by rw[h1]at hP;cases hP;rfl
  subst this
  refine uH (mg:=X.mg) (cv:=.ref c') bS I.ok.glob hg eN (C.keeps I.bk) eP (by trivial) (by simp[codeAmong,rawInt]) ⟨bm,ob,b1,b2,hbG,nb _ _ b3,I.bk _ _ b3,b4,b5,b6⟩ fun ic h' tk hk hsz=>?_
  have I1:=I.kept (t':=tk) (h':=h'.push (rR "<lambda>" (X.env.qual ++ "<lambda>") params body scope [] ((X.mg "__name__").getD .none) c' ic)) (fun b o e=>jf_ _ (hk b o e))
  refine h h'.objs.size c' oc vs t ic _ _ (I1.pins_of fun p hp=>?_) (fun b o hb e=>e) h1 h2 h3 h4
  rcases jA_.mp hp with hp|hp
  ·exact I1.pin p (jy_ _ hp)
  ·rw[ju_.mp hp]
   refine⟨jx_ _ rfl,I.hok.fresh hsz,fun z=>?_,I.nofs hsz,fun v z=>by cases z⟩
   dsimp only at z
   have:=I.lt
   rw[<-z]at this
   exact absurd this (wj_.mpr hsz)
end
def NQ (K:α3)(P:Addr)(lp:Pos)(qual:Str)(t:TA):TE:=fun σ H Q=>t σ H fun vs H1=>∃l ws,vs=[.ref l]/\SqL K H1 l (wv ws)/\WsOk K H1 ws/\ws.length<sizeLine/\LamT P lp qual H1 /\
 ∀H2 D os,Cj P H1 H2->LamT P lp qual H2->H1 D=none->H2 D=some (.lst (wv os))->os.Perm ws->Srt os->Q (.ref D) H2
theorem Ly {K:α3}        : NQ K P lp qual t σ H Q=t σ H fun vs H1=>∃l ws,vs=[.ref l]/\SqL K H1 l (wv ws)/\WsOk K H1 ws/\ws.length<sizeLine/\LamT P lp qual H1 /\
 ∀H2 D os,Cj P H1 H2->LamT P lp qual H2->H1 D=none->H2 D=some (.lst (wv os))->os.Perm ws->Srt os->Q (.ref D) H2:=rfl
def OM        (hr:Room (k+3) X.A)(hg:Gl X "sorted")(hm:X.mg "sorted"=none)(iK:X.mg "len"=none)(eN:X.env.code=.ref c)(C:rE X.base c P)(pX:BmOk X.mg X.base)
  (ha:PA X [e] ta) (hq:X.env.qual=qual:=by rfl)
  (he:backTo pos (starEach [e] X.env)=(false,eval e X.env)::backTo pos (starEach [] X.env):=by rfl) (gZ:(backTo pos (starEach [e] X.env)).any (·.1)=false:=by rfl):
  PE X (.Call (.Name "sorted" p) [e] [⟨some "key",.Lambda (lamA ap) (lamB p1 p2 p3 p4 p5) lamS lp,kp⟩] pos) (NQ X.K P lp qual ta):=by
 intro ae s σ H Q I h
 subst hq
 refine xx_ (DS I hg hm rfl ?_)
 refine callWith_kw ?_ he gZ
 refine thn (ha pos ae s σ H _ I h) fun us s1 ⟨vs,H1,I1,r1,q1⟩=>?_
 obtain⟨l,ws,rfl,hl,hW,hz,hP,q⟩:=q1
 obtain⟨ps,hP1⟩:=hP.is
 obtain⟨u1,rfl,rx⟩:=vals1 r1
 cases rx
 refine kws_cons (Rb I1 eN C hP pX rfl rfl fun f c' oc vs t ic H2 s2 I2 nX hT2 cE hd hv=>kws_nil ?_)
 show wpAny (model X.prog X.w) X.A (call (.builtin "sorted") [.ref l] [(Str.ofString "key",.ref f)]) _ _ s2
 have nP:∀b ys,SqT X.K H1 b ys->SqT X.K H2 b ys:=fun b ys=>nX.tsq hP1
 have bE:SqL X.K H2 l (wv ws):=nX.lsq hP1 hl
 refine SD I2 (by have:=hr.un;lia) bE hz (fun w hw=>nP _ _ (hW w hw)) (fun w hw H' s' I' hS=>?_) (fun s' H' D os I' g1 g2 g3 g4 g5=>?_)
 ·have hf:=(I'.pin _ (jy_ _ (jy_ _ (jp_)))).1
  have je:s'.heap.get? c'=some oc:=(I'.hok c' _ (hS _ _ cE)).1
  have m8:s'.heap.CodeRec (.ref c') (X.env.qual ++ "<lambda>"):=⟨c',oc,vs,t,rfl,je,hd,hv⟩
  have p0:SqT X.K H' w.1 (w.2.map V.int):=hS.seqT (nP _ _ (hW w hw))
  refine wpAny_call (codeAny_mono (W3 (k:=k) (N:=["word"]) (ps:=["word"]) (vs:=[.ref w.1]) (us:=[.ref w.1]) (E:=fun _ _ _=>False) (Q:=fun kv iE=>∃t,kv=.ref t/\Same H' iE/\SqT X.K iE t [.int w.2.length,.ref w.1]) SE hr.in1.in1 I'.env0.in1.in1 hf m8 rfl (.cons rfl .nil) rfl
   (BN (Aa (Ao Ai rfl iK rfl (Aa (pv 0) Ae)) (Aa (pv 0) Ae))) ?_) fun r s2 hq=>?_)
  ·refine⟨.ref w.1,rfl,w.1,w.2.map V.int,rfl,.inr p0,.ref w.1,rfl,?_,fun p hp=>?_⟩
   ·show 2<=sizeLine
    decide
   ·rw[ja_]
    exact⟨p,rfl,Same.new hp,.inl (.inl Ab)⟩
  ·cases r with
   |error e=>exact hq.elim
   |ok fl=>
    cases fl with
    |ret u=>exact I'.after hq
    |next=>exact rF hq
    |brk=>exact rF hq
    |cont=>exact rF hq
 ·exact⟨.ref D,H',I'.unpinned,rfl,q H' D os (nX.trans (Cj.of g1)) (.inr ⟨c',oc,vs,t,g1 _ _ hT2,g1 _ _ cE,hd,hv⟩) (nX.none hT2 g2) g3 g4 g5⟩
end L2
namespace L2
open PySem PySem.Spec PyProof.Rows
def EqsD (K:α3)(H:Hp)(n:Nat)(xs:List V)(x:V)(e:Nat->Bool):Prop:=(∀(i:Nat) (v:V),xs[i]?=some v->∃a,v=.ref a/\EqD K H n v x (e i))/\∀(i j:Nat) (v:V),xs[i]?=some v->xs[j]?=some v->e i=e j
noncomputable def evG (xs:List V)(e:Nat->Bool)(y:Value):Bool := @decide (∃(i:Nat) (a:Addr),y=.ref a/\xs[i]?=some (.ref a)/\e i=true) (rM _)
def Lz {K:α3}      (h:EqsD K H n xs x e)   (hx:xs[i]?=some (.ref a)):evG xs e (.ref a)=e i:=by
 rw[qC_]
 unfold evG
 rw[@decide_eq_true_iff _ (rM _)]
 constructor
 ·rintro⟨j,b,hb,p8,m9⟩
  cases hb
  rw[h.2 i j _ hx p8];exact m9
 ·intro he
  exact⟨i,a,rfl,hx,he⟩
def rInG (K:α3)(n:Nat)(jE:Bool):R2:=fun x y H Q=>∃p t xs e,y=.ref p/\x=.ref t/\SqL K H p xs/\EqsD K H n xs x e/\Q (.bl (if jE then !((rq xs.length).any e) else (rq xs.length).any e)) H
theorem W4 {K:α3}      : rInG K n jE x y H Q=∃p t xs e,y=.ref p/\x=.ref t/\SqL K H p xs/\EqsD K H n xs x e/\Q (.bl (if jE then !((rq xs.length).any e) else (rq xs.length).any e)) H:=rfl
def SH          (hu:X.A.units+n+1<cLine)(I:Inv X ae σ H s)(hp:SqL X.K H p xs)(hE:EqsD X.K H n xs (.ref t) e):
  ∃(its:Array Value),s.heap.IsList p its/\(∀y,y∈its->SeqAt.EqAt X.A.in1 s y (.ref t) (evG xs e y))/\its.any (evG xs e)=(rq xs.length).any e:=by
 obtain⟨its,r,pl,_⟩:=I.list hp
 have hl:=r.length
 refine⟨its.toArray,pl.isList,fun y hy=>?_,?_⟩
 ·have hy':y∈its:=by simpa using hy
  obtain⟨i,hi,ei⟩:=jV_ hy'
  have ft:i<xs.length:=by lia
  obtain⟨u,jh,ru⟩:=r.get (i:=i) (x:=xs[i]) (by simp[ft])
  rw[jh_ hi,ei]at jh
  cases jh
  obtain⟨a,e2,e3⟩:=hE.1 i xs[i] (by simp[ft])
  rw[e2]at ru e3
  cases ru
  rw[Lz hE (i:=i) (by rw[jh_ ft,e2])]
  exact (EqD.at (x:=V.ref a) (y:=V.ref t) I n X.A.in1 (by rw[in1_units];lia) rfl rfl e3).1
 ·rw[show its.toArray.any (evG xs e)=its.any (evG xs e) by simp,qC_,zc_,zc_]
  constructor
  ·rintro⟨y,hy,hey⟩
   obtain⟨j,b,_,p8,m9⟩:=(@decide_eq_true_iff _ (rM _)).mp hey
   exact⟨j,jE_.mpr (jc_.mp p8).1,m9⟩
  ·rintro⟨i,hi,mJ⟩
   have hi:=jE_.mp hi
   obtain⟨a,e2,e3⟩:=hE.1 i xs[i] (by simp[hi])
   have hx:xs[i]?=some (.ref a):=by rw[jh_ hi,e2]
   obtain⟨u,jh,ru⟩:=r.get hx
   cases ru
   exact⟨.ref a,jd_ jh,by rw[Lz hE hx];exact mJ⟩
def hu45  (h:u+8<cLine):u+4+1<cLine:=by lia
def hu46  (h:u+8<cLine):u+4+2<cLine:=by lia
def Rc  (n:Nat)(hu:X.A.units+n+1<cLine):OpR X (compareOp .NotIn) (rInG X.K n true):=by
 intro ae s σ H x y v u Q I rx ry h
 obtain⟨p,t,xs,e,rfl,rfl,hp,hw,q⟩:=h
 cases ry
 cases rx
 obtain⟨its,h1,h2,h3⟩:=SH hu I hp hw
 refine SeqAt.notIn_listAt _ h1 h2 ⟨.bl _,H,I,rfl,?_⟩
 rw[h3]
 exact q
def MM (K:α3)(n:Nat):V->List V->Hp->VK->Prop:=fun x vs H Q=>∃l xs t e m,x=.ref l/\vs=[.ref t]/\H l=some (.lst xs)/\EqsD K H n xs (.ref t) e/\m<xs.length/\e m=true/\(∀j,j<m->e j=false)/\xs.length<1000000/\Q (.int (m:Nat)) H
theorem NR {K:α3}      : MM K n x vs H Q=∃l xs t e m,x=.ref l/\vs=[.ref t]/\H l=some (.lst xs)/\EqsD K H n xs (.ref t) e/\m<xs.length/\e m=true/\(∀j,j<m->e j=false)/\xs.length<1000000/\Q (.int (m:Nat)) H:=rfl
def Rf  (n:Nat)(hu:X.A.units+n+2<cLine):MtM X "list.index" (MM X.K n):=by
 intro ae s σ H x vs v us Q I rx rv h
 obtain⟨l,xs,t,e,m,rfl,rfl,hH,hE,hm,hem,m9,aq,q⟩:=h
 cases rx
 obtain⟨u,rfl,ry⟩:=vals1 rv
 cases ry
 obtain⟨zz,its,k,r,hl,eo⟩:=I.lstM hH
 have dm:xs.length=its.length:=r.length
 have get:∀(j:Nat) (hj:j<its.toArray.size),∃(a:Addr),its.toArray[j]=.ref a/\xs[j]?=some (.ref a)/\EqD X.K H n (.ref a) (.ref t) (e j):=fun j hj=>by
  have cB:j<xs.length:=by rw[jm_]at hj;lia
  obtain⟨a,e2,e3⟩:=hE.1 j xs[j] (by simp[cB])
  rw[e2]at e3
  have hx:xs[j]?=some (.ref a):=by rw[jh_ cB,e2]
  obtain⟨w',f1,f2⟩:=r.get hx
  have e4:its.toArray[j]=w':=by
   have:its[j]?=some its.toArray[j]:=by simp at hj;simp[hj]
   rw[f1]at this
   exact (jq_ this).symm
  cases f2
  exact⟨a,e4,hx,e3⟩
 have mQ:m<its.toArray.size:=by rw[jm_];lia
 refine xM_ F.slot_list_index ⟨_,eo,rfl⟩ F.entry_list_index (F.args_list_index_2 _ _) (SeqAt.list_indexAt l its.toArray k none #[] (.ref t) (evG xs e) m mQ s!"" ?_ fun j hj hjm=>?_) ⟨eo,fun y hy=>?_,?_⟩
 ·obtain⟨a,e1,e2,e3⟩:=get _ mQ
  rw[e1,Lz hE e2];exact hem
 ·obtain⟨a,e1,e2,e3⟩:=get j hj
  rw[e1,Lz hE e2];exact m9 j hjm
 ·obtain⟨j,hj,ej⟩:=jV_ (show y∈its by simpa using hy)
  obtain⟨a,e1,e2,e3⟩:=get j (by rw[jm_];exact hj)
  have:y=.ref a:=by rw[<-ej,<-e1];simp
  rw[this,Lz hE e2]
  exact (EqD.at (x:=V.ref a) (y:=V.ref t) I n _ (by rw[in1_units];lia) rfl rfl e3).1
 ·exact⟨.int (m:Nat),H,I.tok _,⟨_,rfl⟩,q⟩
def ON  {K:α3}(h:X.K=K)(n:Nat)(hu:X.A.units+n+2<cLine):MtR X "list.index" (MM K n):=by subst h;exact Rf n hu
structure Cal (P:Program)(w:World)(K:α3)(mg:Str->α5)(base:Heap)(CX:CXT)(k:Nat)(x:Str)(st:Stmt)(ps:List Str)(sp:Sp)(f:Addr)(fd:α6):Prop where
 g:FnOk P w K mg base CX k f fd ps sp
 F:Fun K x x st f fd
 b:Binds K fd ps []
 m:mg x=some (.ref f)
def Room.d   (r:Room k A)(h:j<=k:=by decide):Room j A:=r.mono h
def Ah          {st:Stmt}     (q:Cal X.prog X.w X.K X.mg X.base CX k x st ps sp f fd)(hr:Room k X.A)(hx:Nb CX X E)
  (ha:PA X (e::es) t) (hg:Gl X x:=by rfl) (jC:(x==("__debug__" : Str))=false:=by decide) (he:starEach (e::es) X.env=(false,eval e X.env)::starEach es X.env:=by rfl) (gZ:(backTo pos (starEach es X.env)).any (·.1)=false:=by rfl):
  PE X (.Call (.Name x p) (e::es) [] pos) (Ut sp [] E t):=Uu q.g hr hg q.m q.F.kp q.b .nil hx ha jC he gZ
abbrev HA (K:α3)(x:Str)(f:Addr):Prop:=nsIn K mainGlobals x=some (some (.ref f))
abbrev HL (K:α3)(x:Str)(st:Stmt)(f:Addr)(oc:Value)(od:Option Addr)(kV dc pm:Value)(an:Option Addr)(cd ct:Value)(sl:Array (α5)):Prop:=K.lookup f=some ⟨oc,od,.func (fnOf x x (C4 st) (Cz st) (Al st) .none kV dc pm an cd ct),sl⟩
structure HF (K:α3)(x:Str)(st:Stmt)(f:Addr)(fd:α6):Prop where
 a:nsIn K mainGlobals x=some (some (.ref f))
 F:Fun K x x st f fd
structure Wh (P:Program)(w:World)(K:α3)(mg:Str->α5)(base:Heap):Prop where
 m:∀(x:Str) (f:Addr),nsIn K mainGlobals x=some (some (.ref f))->mg x=some (.ref f)
def HF.c   {K:α3}      {st:Stmt}     (h:HF K x st f fd)(Z:Wh P w K mg base)(g:FnOk P w K mg base CX k f fd ps sp)
  (e:∀(kV bI pm:Value) (an:Option Addr) (ay ct:Value) (us:List Value),us.length=ps.length->bindArgs (fnOf x x (C4 st) (Cz st) (Al st) .none kV bI pm an ay ct) ⟨us,[]⟩=pure (ps.zip us):=by
   intro _ _ _ _ _ _ us hl;first|(obtain⟨_,rfl⟩:=len1 hl;rfl)|(obtain⟨_,_,rfl⟩:=len2 hl;rfl)|(obtain⟨_,_,_,rfl⟩:=len3 hl;rfl)|(obtain⟨_,_,_,_,rfl⟩:=len4 hl;rfl)):Cal P w K mg base CX k x st ps sp f fd:=⟨g,h.F,h.F.binds e,Z.m _ _ h.a⟩
def HF.b {K:α3}  {st:Stmt}   (h:HF K x st f fd)(e:∀(kV bI pm:Value) (an:Option Addr) (ay ct v:Value),bindArgs (fnOf x x (C4 st) (Cz st) (Al st) .none kV bI pm an ay ct) ⟨[v],[]⟩=pure [(p,v)])(s:Shared)(v:Value):BindsTo s fd ⟨[v],[]⟩ [(p,v)]:=by
 obtain⟨_,_,_,_,_,_,_,_,_,rfl,_,_⟩:=h.F.ex
 exact .of_eq (e _ _ _ _ _ _ _)
end L2
namespace Mine
open PySem L2 GW GB
local macro_rules | `(tactic| walk_at "rd") => `(tactic| (try dsimp only[↓TN,QY,↓r_ID,↓WE,TQ,↓r_BD,WH,↓WK,↓WL,TU,TV,TX,WJ,↓T1,↓T2,TY,TZ,↓T3,Q0,↓V4,↓S9,↓V5,↓P4,↓V6,↓r_c,↓r_op,↓r_un,↓r_I,↓r_I0,↓r_U,↓Ta,↓Tb,↓V7,↓V8,↓Tc,↓r_if,↓r_B,↓Td,↓V9,↓r_or,↓Wa,↓Te,↓P5,↓r_CB,↓Wb,↓Wc,↓We,↓Wg,↓r_sl,↓Tf,↓Nj,↓Wi,↓Wn,↓r_BM,↓Nk,↓Tg,↓Th,↓r_Eq,↓r_Ne,↓P6,↓Ti,↓P7,↓Wj,↓r_ip,↓Tj,↓Tn,↓Wl,↓Nq,↓Wo,↓Wq,↓Nr,↓Ql,↓Li,↓Ts,↓Qh,↓Tt,↓Tu,↓Nt,↓Tv,↓Qi,↓Tw,↓Nu,↓Nv,↓r_in,↓To,↓Ll,↓QJ,Wu,↓Lp,Ly,W4,NR,↓TM,↓Qt,↓Qu,↓NB,↓QA,↓QD,Wk,L2.start,j0_,xY_,jT_,qt_,zb_,xZ_,rp,zm_,List.getElem?_cons_succ,zp_,List.set_cons_succ,scal])<;>(try simp only[↓TN,QY,↓r_ID,↓WE,TQ,↓r_BD,WH,↓WK,↓WL,TU,TV,TX,WJ,↓T1,↓T2,TY,TZ,↓T3,Q0,U6,WI,U9,Sn,QZ,↓V4,↓S9,↓V5,↓P4,↓V6,↓r_c,↓r_op,↓r_un,↓r_I,↓r_I0,↓r_U,↓Ta,↓Tb,↓V7,↓V8,↓Tc,↓r_if,↓r_B,↓Td,↓V9,↓r_or,↓Wa,↓Te,↓P5,↓r_CB,↓Wb,↓Wc,↓We,↓Wg,↓r_sl,↓Tf,↓Nj,↓Wi,↓Wn,↓r_BM,↓Nk,↓Tg,↓Th,↓r_Eq,↓r_Ne,↓P6,↓Ti,↓P7,↓Wj,↓r_ip,↓Tj,↓Tn,↓Wl,↓Nq,↓Wo,↓Wq,↓Nr,↓Ql,↓Li,↓Ts,↓Qh,↓Tt,↓Tu,↓Nt,↓Tv,↓Qi,↓Tw,↓Nu,↓Nv,↓r_in,↓To,↓Ll,↓QJ,Wu,↓Lp,Ly,W4,NR,↓TM,↓Qt,↓Qu,↓NB,↓QA,↓QD,Wk,L2.start,j0_,xY_,jT_,qt_,zb_,xZ_,ql_,rp,zm_,List.getElem?_cons_succ,zp_,List.set_cons_succ,zx_,V.int.injEq,V.str.injEq,V.ref.injEq,V.bl.injEq,xQ_,and_true,true_and,and_assoc,exists_and_left,exists_eq_left',exists_eq_left,exists_eq_right,exists_eq,xB_,qS_,jS_,qy_,scal,Nat.reduceAdd,Nat.reduceSub,reduceCtorEq,wi_,z8_]))
local macro_rules|`(tactic|nofun)=>`(tactic|walk_at "rd")
set_option hygiene false in
local macro_rules|`(tactic|delta $x:ident)=>`(tactic|refine F.ok $x (fun vs H Q E h=>?_) (fun ay A outer s H vs Q E hr h=>?_))
set_option hygiene false in
local macro_rules|`(nofun)=>`(FnOk P w K mg base CX0)
set_option hygiene false in
local macro_rules|`(⋯)=>`(Cal P w K mg base CX0)
local macro_rules | `(tactic| walk_at "sc") => `(tactic| exact⟨rfl,rfl,rfl,by decide +kernel,rfl,by decide +kernel,by decide +kernel⟩)
def top (i:Nat):Stmt:=PySem.Challenge.pw_guessroom_k27_whole_slim_suite_is_enough.main.body.getD i (.Pass ⟨0,0,0,0⟩)
abbrev FT:Stmt:=top 4
def OO:FnScope ["letters","word"] ["letters","word"] (Al FT):=by walk_at "sc"
abbrev BU:Stmt:=top 5
def Ku:FnScope ["letters","word"] ["letters","word"] (Al BU):=by walk_at "sc"
abbrev DD:Stmt:=top 6
def Ep:FnScope ["letters","word","kept"] ["letters","word"] (Al DD):=by walk_at "sc"
abbrev EZ:Stmt:=top 7
def DE:FnScope ["letters","most","words","word"] ["letters","most"] (Al EZ):=by walk_at "sc"
abbrev Kv:Stmt:=top 9
def HE:FnScope ["house","word","ways","rooms","letter"] ["house","word"] (Al Kv):=by walk_at "sc"
abbrev B4:Stmt:=top 10
def Ja:FnScope ["house","word"] ["house","word"] (Al B4):=by walk_at "sc"
abbrev B5:Stmt:=top 11
def Jb:FnScope ["house","word"] ["house","word"] (Al B5):=by walk_at "sc"
abbrev Df:Stmt:=top 13
def BE:FnScope ["house","words","rooms","walked","room","letter","goal"] ["house"] (Al Df):=by walk_at "sc"
abbrev FU:Stmt:=top 14
def JE:FnScope ["house","words"] ["house"] (Al FU):=by walk_at "sc"
abbrev Er:Stmt:=top 15
def OP:FnScope ["house"] ["house"] (Al Er):=by walk_at "sc"
abbrev E1:Stmt:=top 17
def Fv:FnScope ["row","numbers","thing"] ["row"] (Al E1):=by walk_at "sc"
abbrev A4:Stmt:=top 18
def Aw:FnScope ["house","words","marks_behind","classes","walked","letter","marks","finer"] ["house"] (Al A4):=by walk_at "sc"
abbrev FV:Stmt:=top 19
def OQ:FnScope ["house"] ["house"] (Al FV):=by walk_at "sc"
abbrev CY:Stmt:=top 20
def Kw:FnScope ["house"] ["house"] (Al CY):=by walk_at "sc"
abbrev Kx:Stmt:=top 22
def FW:FnScope ["house","classes","numbers","told","room"] ["house"] (Al Kx):=by walk_at "sc"
abbrev Ky:Stmt:=top 23
def FX:FnScope ["house","home_of","marks","ways","room"] ["house"] (Al Ky):=by walk_at "sc"
abbrev Ck:Stmt:=top 25
def Fw:FnScope ["words","once","word"] ["words"] (Al Ck):=by walk_at "sc"
abbrev A6:Stmt:=top 26
def AY:FnScope ["house","word","rooms","letter"] ["house","word"] (Al A6):=by walk_at "sc"
abbrev CF:Stmt:=top 27
def Bg:FnScope ["words","marks_behind","room","own","left","word","marks","still"] ["words","marks_behind","room"] (Al CF):=by walk_at "sc"
abbrev A7:Stmt:=top 28
def Bs:FnScope ["house","words","marks_behind"] ["house"] (Al A7):=by walk_at "sc"
abbrev CZ:Stmt:=top 29
def B6:FnScope ["base","more","ends","words","way","middle","first"] ["base","more","ends"] (Al CZ):=by walk_at "sc"
abbrev NS:Stmt:=top 30
def Rg:FnScope ["house","more","base"] ["house","more"] (Al NS):=by walk_at "sc"
abbrev DF:Stmt:=top 31
def LA:FnScope ["house","words"] ["house","words"] (Al DF):=by walk_at "sc"
abbrev BO:Stmt:=top 32
def CL:FnScope ["house","some","trial"] ["house","some"] (Al BO):=by walk_at "sc"
abbrev HG:Stmt:=top 33
def Rh:FnScope ["house","some"] ["house","some"] (Al HG):=by walk_at "sc"
abbrev A0:Stmt:=top 35
def Ip:FnScope ["script","k"] ["script","k"] (Al A0):=by walk_at "sc"
abbrev Bq:Stmt:=top 36
def DG:FnScope ["number","k","many","turn"] ["number","k","many"] (Al Bq):=by walk_at "sc"
abbrev B7:Stmt:=top 37
def AJ:FnScope ["number","rooms","way","top","marks","room","mark"] ["number","rooms"] (Al B7):=by walk_at "sc"
abbrev Cn:Stmt:=top 38
def AF:FnScope ["script","letters","rooms","shape","ways","room","row","letter","k","goal"] ["script","letters","rooms"] (Al Cn):=by walk_at "sc"
abbrev Cu:Stmt:=top 39
def AZ:FnScope ["house","number","rooms","small","fold","ways","room","row","letter","goal","twins"] ["house","number","rooms"] (Al Cu):=by walk_at "sc"
abbrev B8:Stmt:=top 40
def AN:FnScope ["script","letters","rooms","marks","house","number"] ["script"] (Al B8):=by walk_at "sc"
abbrev Co:Stmt:=top 41
def Es:FnScope ["script","house","number"] ["script","house"] (Al Co):=by walk_at "sc"
abbrev B9:Stmt:=top 42
def Bb:FnScope ["house","row","at","here","goal"] ["house"] (Al B9):=by walk_at "sc"
abbrev Cp:Stmt:=top 43
def Bo:FnScope ["house","number","marks","ways","room","letter","same"] ["house","number"] (Al Cp):=by walk_at "sc"
abbrev BQ:Stmt:=top 44
def A1:FnScope ["house","number","rooms","order","marks","ways","room"] ["house","number"] (Al BQ):=by walk_at "sc"
abbrev Cq:Stmt:=top 45
def A5:FnScope ["house","row","turn","keys","known","key"] ["house"] (Al Cq):=by walk_at "sc"
abbrev DH:Stmt:=top 46
def BF:FnScope ["house","row","order","first","room","number","ways"] ["house"] (Al DH):=by walk_at "sc"
abbrev Ca:Stmt:=top 47
def AG:FnScope ["house","script","many","base","number","way","most","rooms","marks","ways","rival"] ["house","script","many"] (Al Ca):=by walk_at "sc"
abbrev Cr:Stmt:=top 48
def BG:FnScope ["script","letters","word","number","k"] ["script","letters"] (Al Cr):=by walk_at "sc"
abbrev Cs:Stmt:=top 49
def Et:FnScope ["found","letters","letter"] ["found","letters"] (Al Cs):=by walk_at "sc"
abbrev DI:Stmt:=top 50
def Eu:FnScope ["house","room","word","letter"] ["house","room","word"] (Al DI):=by walk_at "sc"
abbrev Vj:Stmt:=top 51
def Dg:FnScope ["script","house","many","rival","some","trial","due","word","one","two","size"] ["script"] (Al Vj):=by walk_at "sc"
abbrev FY:Pos:=⟨105,34,105,64⟩
def Iq:Caps:=[("letter",none),("letters",some 0)]
def Jc:(Caps.names Iq).Nodup:=by decide +kernel
def Ir:Caps:=[("room",none),("words",some 1)]
def Jd:(Caps.names Ir).Nodup:=by decide +kernel
def GS:Caps:=[("thing",none),("numbers",some 1)]
def Iu:(Caps.names GS).Nodup:=by decide +kernel
def Cv:Caps:=[("goals",none),("marks_behind",some 2),("walked",some 4),("letter",some 5)]
def Dh:(Caps.names Cv).Nodup:=by decide +kernel
def LB:Caps:=[("goal",none),("home_of",some 1)]
def LC:(Caps.names LB).Nodup:=by decide +kernel
def BV:Caps:=[("room",none),("letter",some 3),("house",some 0)]
def CM:(Caps.names BV).Nodup:=by decide +kernel
def BW:Caps:=[("room",none),("house",some 0)]
def CN:(Caps.names BW).Nodup:=by decide +kernel
def Ew:Caps:=[("other",none),("marks",some 6),("room",some 2)]
def FZ:(Caps.names Ew).Nodup:=by decide +kernel
def BX:Caps:=[("word",none),("house",some 0)]
def CO:(Caps.names BX).Nodup:=by decide +kernel
def BY:Caps:=[("room",none),("words",some 1),("marks_behind",some 2)]
def CP:(Caps.names BY).Nodup:=by decide +kernel
def Ff:Caps:=[("end",none),("first",some 6)]
def Gv:(Caps.names Ff).Nodup:=by decide +kernel
def F0:Caps:=[("word",none),("house",some 0)]
def Ha:(Caps.names F0).Nodup:=by decide +kernel
def Fg:Caps:=[("twin",none),("goal",some 9),("fold",some 4)]
def Gw:(Caps.names Fg).Nodup:=by decide +kernel
def Fh:Caps:=[("room",none),("house",some 0)]
def Gx:(Caps.names Fh).Nodup:=by decide +kernel
def DU:Caps:=[("row",none)]
def Fx:(Caps.names DU).Nodup:=by decide +kernel
def DV:Caps:=[("goal",none),("marks",some 2),("letter",some 5),("ways",some 3),("room",some 4)]
def Fy:(Caps.names DV).Nodup:=by decide +kernel
def DW:Caps:=[("row",none)]
def Fz:(Caps.names DW).Nodup:=by decide +kernel
def C0:Caps:=[("room",none),("number",some 1),("rooms",some 2)]
def Ex:(Caps.names C0).Nodup:=by decide +kernel
def C1:Caps:=[("goal",none),("order",some 3)]
def Ey:(Caps.names C1).Nodup:=by decide +kernel
def DX:Caps:=[("room",none),("row",some 1),("house",some 0)]
def FA:(Caps.names DX).Nodup:=by decide +kernel
def DY:Caps:=[("goal",none),("row",some 1)]
def FC:(Caps.names DY).Nodup:=by decide +kernel
def DZ:Caps:=[("key",none),("known",some 4)]
def FD:(Caps.names DZ).Nodup:=by decide +kernel
def F1:Caps:=[("seen",none),("row",some 1)]
def Hb:(Caps.names F1).Nodup:=by decide +kernel
def F2:Caps:=[("room",none),("row",some 1)]
def Hd:(Caps.names F2).Nodup:=by decide +kernel
def F3:Caps:=[("room",none),("number",some 5),("row",some 1),("house",some 0)]
def He:(Caps.names F3).Nodup:=by decide +kernel
def F4:Caps:=[("goal",none),("number",some 1),("row",some 2)]
def Hf:(Caps.names F4).Nodup:=by decide +kernel
def Fi:Caps:=[("room",none),("house",some 0)]
def Gy:(Caps.names Fi).Nodup:=by decide +kernel
def Di:Caps:=[("room",none),("house",some 0),("number",some 4)]
def E7:(Caps.names Di).Nodup:=by decide +kernel
def Dj:Caps:=[("room",none),("rooms",some 7),("number",some 4),("house",some 0)]
def E8:(Caps.names Dj).Nodup:=by decide +kernel
def Dk:Caps:=[("k",none),("rooms",some 1),("number",some 2),("room",some 0)]
def E9:(Caps.names Dk).Nodup:=by decide +kernel
def Dn:Caps:=[("row",none)]
def Fb:(Caps.names Dn).Nodup:=by decide +kernel
def D0:Caps:=[("cell",none),("letters",some 1)]
def FE:(Caps.names D0).Nodup:=by decide +kernel
structure Txt (mg:Str->α5):Prop where
 all:mg "all"=none
 bool:mg "bool"=none
 enumerate:mg "enumerate"=none
 int:mg "int"=none
 isinstance:mg "isinstance"=none
 len:mg "len"=none
 list:mg "list"=none
 max:mg "max"=none
 min:mg "min"=none
 range:mg "range"=none
 sorted:mg "sorted"=none
 tuple:mg "tuple"=none
 zip:mg "zip"=none
section
variable {P:Program} {w:World} {K:α3} {mg:Str->α5} {base:Heap}
def JF (K:α3):Sp:=fun vs H Q _=>∃(L:Int) (a:Addr) (ws:α2),vs=[.int L,.ref a]/\SqT K H a (ws.map V.int)/\ws.length<=1000/\∀H',Same H H'->Q (.bl (isW L ws)) H'
def OR   (F:Fun K "is_word" "is_word" FT f fd)(T:Txt mg)
  : nofun 1 f fd ["letters","word"] (JF K):=by
 delta OO
 ·obtain⟨L,a,ws,rfl,_⟩:=h;rfl
 ·obtain⟨L,a,ws,rfl,hw,hz,k⟩:=h
  have hl:=As
  refine⟨_,(Af (AA (Ao (RW rfl) rfl T.all vM (Aa (A9 rfl (A3 rfl) (cp:=Iq) ⟨⟨rfl,rfl⟩,rA⟩ (Ed (pvD 1)) (fun _ _ _ _=>(Ap (i:=0) Jc rfl (rC rfl))) (fun _ _ _ _=>Bd) (fun _ _ _ _=>(RJ VL G2 Ad (pvD 0) (pvD 1)))) Ae)))),?_⟩
  nofun
  refine⟨⟨_,hw⟩,ES (af:=[some (.int L)]) (fun x=>match x with | .int n=>.bl (inW L n)|_=>.non) rfl hw (by rw[ja_];lia) (fun x hx R hR=>?_) (fun D hD=>?_)⟩
  ·obtain⟨n,_,rfl⟩:=CT hx
   nofun
   by_cases h0:0<=n
   ·simp only[h0,xB_]
    simpa [inW,h0] using hR
   ·simp only[h0,qS_]
    simpa [inW,h0] using hR
  ·refine⟨D,rfl,ws.map (inW L),.inl (.inl ?_),?_⟩
   ·rw[Ab,jR_,jR_];rfl
   ·have:=k _ (Same.new hD (o:=.lst ((ws.map V.int).map fun x=>match x with | .int n=>.bl (inW L n)|_=>.non)))
    simpa [isW,List.all_map] using this
def HH (K:α3):Sp:=fun vs H Q E=>∃(L:Int) (a:Addr) (ws:α2),vs=[.int L,.ref a]/\SqT K H a (ws.map V.int)/\ws.length<=1000/\(isW L ws=true->∀H',Same H H'->Q .non H')/\(isW L ws=false->False)
def Kz   (F:Fun K "check_word" "check_word" BU f fd)(T:Txt mg)
   (j3:⋯ 1 "is_word" FT ["letters","word"] (JF K) LD JG)
  : nofun 2 f fd ["letters","word"] (HH K):=by
 delta Ku
 ·obtain⟨L,a,ws,rfl,_⟩:=h;rfl
 ·obtain⟨L,a,ws,rfl,hw,hz,k,kE⟩:=h
  have hl:=As
  refine⟨_,(Af (Bx (Ji (ptB (HN (Ah j3 hr.d AK (Aa (pvD 0) (Aa (pvD 1) Ae))))))
   (Af RE)
   AH)),?_⟩
  nofun
  refine⟨L,a,ws,rfl,hw,hz,fun H' s'=>?_⟩
  nofun
  cases hv:isW L ws with
  |true=>
   simp only[wi_,jS_,qS_]
   exact k hv H' s'
  |false=>
   simp only[z8_,xB_]
   exact (kE hv).elim
def NT (K:α3):Sp:=fun vs H Q E=>∃(L:Int) (a:Addr) (ws:α2),vs=[.int L,.ref a]/\SqT K H a (ws.map V.int)/\ws.length<=990/\(isW L ws=true->∀p H',Same H H'->H' p=some (.tup ((Ej L ws).map V.int))->Q (.ref p) H')/\(isW L ws=false->False)
def LF   (F:Fun K "next_word" "next_word" DD f fd)(T:Txt mg)
   (cW:⋯ 2 "check_word" BU ["letters","word"] (HH K) C2 CG)
  : nofun 3 f fd ["letters","word"] (NT K):=by
 delta Ep
 ·obtain⟨L,a,ws,rfl,_⟩:=h;rfl
 ·obtain⟨L,a,ws,rfl,hw,hz,k',kE⟩:=h
  have hl:=As
  refine⟨_,(Ac (A8 (Ah cW hr.d AK (Aa (pvD 0) (Aa (pvD 1) Ae))))
   (Ac (Ak (i:=2) Ep.nd (Ao (lenD Ai) (by rfl) T.len jF_ (Aa (pvD 1) Ae)))
   (Ac (EO jH_ (PW.pt (GK (ptT (Ar (opD0 Ur) (pvD 2) Ad (AE _))) (Ec (ptT (Ar (opE B0) (Ag (ixTD An) (pvD 1) (Am (opD0 CS) (pvD 2) Ad)) (Am (opD0 CS) (pvD 0) Ad) (AE _))))))
   (Af (O5 (i:=2) Ep.nd rfl (rC rfl) Ad VF)))
   (Ac (Bx (ptT (Ar (opE B0) (pvD 2) Ad (AE _)))
   (Af (AA (Am Qc (BN (Aa Ad Ae)) (Am (opD0 AV) (Ao (lenD Ai) (by rfl) T.len jF_ (Aa (pvD 1) Ae)) Ad))))
   AH)
   (Af (AA (Am EU (Am EU (JX VS (pvD 1) L8 (L9 (Am (opD0 CS) (pvD 2) Ad))) (BN (Aa (Am (opD0 AV) (Ag (ixTD An) (pvD 1) (Am (opD0 CS) (pvD 2) Ad)) Ad) Ae))) (Am Qc (BN (Aa Ad Ae)) (Am (opD0 CS) (Ao (lenD Ai) (by rfl) T.len jF_ (Aa (pvD 1) Ae)) (pvD 2)))))))))),?_⟩
  nofun
  refine⟨L,a,ws,rfl,hw,by lia,fun hv H1 s1=>?_,kE⟩
  have k:=k' hv
  nofun
  have cM:=s1.seqT hw
  refine⟨_,.inr cM,?_⟩
  rw[ja_]
  obtain⟨Pv,ao⟩:∃Pv:Nat->St->Hp->Prop,∀m ai H2,Pv m ai H2↔(H2=H1/\∃kept:Nat,m=kept/\kept<=ws.length/\(∀j,kept<=j->j<ws.length->ws[j]?=some (L-1))/\ai=[some (.int L),some (.ref a),some (.int kept)]):=⟨_,fun _ _ _=>qv_⟩
  refine Jn Pv ⟨ws.length,(ao _ _ _).mpr ⟨rfl,ws.length,rfl,ji_ _,fun j h1 h2=>absurd h2 s!"",rfl⟩⟩ ?_
  intro m ai H2 hp
  obtain⟨rfl,kept,em,hk,hj,rfl⟩:=(ao _ _ _).mp hp
  nofun
  by_cases h0:0<kept
  ·have aq:kept-1<ws.length:=by lia
   have hx:ws[kept-1]?=some (ws[kept-1]'aq):=by simp[aq]
   have ax:atI (ws.map V.int) ((kept:Int)-1)=some (V.int (ws[kept-1]'aq)):=B1 s!"" (by rw[je_,show ((kept:Int)-1).toNat=kept-1 by lia,hx];rfl)
   rw[if_pos (show (0:Int)<kept by lia)]
   refine⟨_,cM,_,ax,?_⟩
   nofun
   refine ite2 (fun he=>?_) (fun aw=>?_)
   ·refine⟨fun af H'=>H'=H2/\af=[some (.int L),some (.ref a),some (.int ((kept:Int)-1))],fun af H' h=>?_,rfl,rfl⟩
    obtain⟨rfl,rfl⟩:=h
    refine⟨kept-1,by lia,(ao _ _ _).mpr ⟨rfl,kept-1,rfl,by lia,fun j h1 h2=>?_,by rw[show ((kept-1:Nat):Int)=(kept:Int)-1 by lia]⟩⟩
    by_cases e:j=kept-1
    ·subst e;rw[hx,he]
    ·exact hj j s!"" h2
   ·-- return bx[:kept-1]+(bx[kept-1]+1,)+(0,) * ..
    rw[if_neg (show ¬ (kept:Int)=0 by lia)]
    have hcut:¬ (HT.sIx (ws.map V.int).length 0 none=0/\HT.sIx (ws.map V.int).length (ws.map V.int).length (some ((kept:Int)-1))=(ws.map V.int).length):=by
     rintro⟨_,h2⟩
     rw[show (kept:Int)-1=((kept-1:Nat):Int) by lia,HT.sIx_nat,ja_]at h2
     lia
    have ecut:cutV (ws.map V.int) none (some ((kept:Int)-1))=(ws.take (kept-1)).map V.int:=by
     rw[Nl]
     unfold cutI
     rw[show (kept:Int)-1=((kept-1:Nat):Int) by lia,HT.sIx_nat,HT.sIx_none,tq,tX]
     congr 2
     lia
    refine⟨_,cM,hcut,fun p1 bG=>?_⟩
    rw[ecut]
    have t1:Same H2 (upd H2 p1 (.tup ((ws.take (kept-1)).map V.int))):=Same.new bG
    have q1:(upd H2 p1 (.tup ((ws.take (kept-1)).map V.int))) p1=some (.tup ((ws.take (kept-1)).map V.int)):=Ab
    generalize upd H2 p1 (.tup ((ws.take (kept-1)).map V.int))=H3 at t1 q1 ⊢
    refine⟨_,t1.seqT cM,_,ax,?_⟩
    nofun
    refine⟨by lia,fun p2 aY=>?_⟩
    refine Fe.ofS ((Same.new aY) _ _ q1) Ab (by simp;lia) fun p3 H4 t4 q3=>?_
    nofun
    have t5:Same H2 H4:=(t1.newT aY).trans t4
    refine⟨by lia,fun p4 eO=>?_⟩
    have q3':=(Same.new eO (o:=.tup [V.int 0])) _ _ q3
    have w4:=((t5.newT eO (o:=.tup [V.int 0])).seqT cM)
    have t6:=t5.newT eO (o:=.tup [V.int 0])
    have z4:(upd H4 p4 (.tup [V.int 0])) p4=some (.tup [V.int 0]):=Ab
    generalize upd H4 p4 (.tup [V.int 0])=H5 at q3' w4 t6 z4 ⊢
    refine⟨_,.inr w4,?_⟩
    refine Qb.ofS z4 (by simp) s!"" (by rw[ja_];lia) (by simp;lia) fun p5 H6 t7 q5=>?_
    refine Fe.ofS (t7 _ _ q3') q5 (by simp[HV];lia) fun p6 H7 t8 q6=>?_
    refine k p6 H7 (s1.trans (t6.trans (t7.trans t8))) ?_
    have e:=Lg (L:=L) (w:=ws) (k:=kept-1) aq (fun j h1 h2=>hj j s!"" h2) hx (by intro z;exact aw (by rw[z]))
    rw[e]
    rw[HV]at q6
    have en:(((ws.map V.int).length:Int)-(kept:Int)).toNat=ws.length-(kept-1+1):=by rw[ja_];lia
    rw[en]at q6
    simpa [jW_,zq_] using q6
  ·have h00:kept=0:=by lia
   subst h00
   rw[if_neg s!""]
   nofun
   refine⟨by lia,fun p1 bG=>?_⟩
   refine⟨_,.inr ((Same.new bG).seqT cM),?_⟩
   refine Qb.ofS Ab (by simp) s!"" (by rw[ja_];lia) (by simp;lia) fun p5 H6 t7 q5=>?_
   refine k p5 H6 (s1.trans ((Same.new bG).trans t7)) ?_
   rw[Mi (L:=L) (w:=ws) hj]
   rw[HV]at q5
   have en:(((ws.map V.int).length:Int)+1).toNat=ws.length+1:=by rw[ja_];lia
   rw[en]at q5
   simpa [zq_] using q5
def T6 (K:α3):Sp:=fun vs H Q _=>∃(L:Int) (m:Nat),vs=[.int L,.int m]/\1<=L/\L<=6/\m<=8/\many L (m+1)<=4000/\∀p xs H',Same H H'->H p=none->H' p=some (.lst xs)->AB K H' xs ((rq (many L (m+1)).toNat).map (nth L))->Q (.ref p) H'
def MN   (F:Fun K "words_to" "words_to" EZ f fd)(T:Txt mg)
   (j4:⋯ 3 "next_word" DD ["letters","word"] (NT K) Iv GU)
  : nofun 4 f fd ["letters","most"] (T6 K):=by
 delta DE
 ·obtain⟨L,m,rfl,_⟩:=h;rfl
 ·obtain⟨L,m,rfl,cH,cX,hm,cN,k⟩:=h
  have hl:=As
  refine⟨_,(Ac (Ak (i:=2) DE.nd (Bt Ae))
   (Ac (Ak (i:=3) DE.nd (BN Ae))
   (Ac (EO jH_ (ptT (Ar (opD0 VL) (Ao (lenD Ai) (by rfl) T.len jF_ (Aa (pvD 3) Ae)) (pvD 1) (AE _)))
   (Ac (A8 (C8 jG_ jK_ jL_ AQ (pvD 2) (Aa (pvD 3) Ae)))
   (Af (Ak (i:=3) DE.nd (Ah j4 hr.d AK (Aa (pvD 0) (Aa (pvD 3) Ae)))))))
   (Af (AA (pvD 2)))))),?_⟩
  nofun
  refine⟨by lia,fun p hp=>⟨by lia,fun t ht=>?_⟩⟩
  have iL:p≠t:=fun z=>by rw[<-z,Ab]at ht;cases ht
  obtain⟨Pv,ao⟩:∃Pv:Nat->St->Hp->Prop,∀m' ai H2,Pv m' ai H2↔(∃(n:Nat) (t2:Addr) (xs:List V),m'=((many L (m+1)).toNat-n)/\n<=(many L (m+1)).toNat/\Same H H2/\H2 p=some (.lst xs)/\AB K H2 xs ((rq n).map (nth L))/\H2 t2=some (.tup ((nth L n).map V.int))/\ai=[some (.int L),some (.int m),some (.ref p),some (.ref t2)]):=⟨_,fun _ _ _=>qv_⟩
  refine Jn Pv ⟨_,(ao _ _ _).mpr ⟨0,t,[],rfl,jY_ _,(Same.new hp).newT ht,by rw[Aj iL,Ab],AB.nil,Ab,rfl⟩⟩ ?_
  intro m' ai H2 eQ
  obtain⟨n,t2,xs,rfl,hn,s2,nc,hW,hT,rfl⟩:=(ao _ _ _).mp eQ
  have hv:=C9 (show 0<L by lia) n
  have fe:=EV (show 0<L by lia) hv m
  rw[Ek]at fe
  have fS:=Cg (show 0<L by lia) (m+1)
  have bX:=hW.1
  rw[ja_,qh_]at bX
  nofun
  refine⟨_,.inr (SqT.of hT),?_⟩
  rw[ja_]
  refine ite2 (fun bg=>?_) (fun lP=>?_)
  ·have j5:(nth L n).length<=m:=by lia
   have aq:=fe.mp j5
   refine⟨fun af H'=>∃t3 ng,af=[some (.int L),some (.int m),some (.ref p),some (.ref t3)]/\Same H H'/\H' p=some (.lst ng)/\AB K H' ng ((rq (n+1)).map (nth L))/\H' t3=some (.tup ((nth L (n+1)).map V.int)),fun af H' h=>?_,?_⟩
   ·obtain⟨t3,ng,rfl,s3,fz,p9,j6⟩:=h
    exact⟨_,by lia,(ao _ _ _).mpr ⟨n+1,t3,ng,rfl,by lia,s3,fz,p9,j6,rfl⟩⟩
   ·have aj:=Oh (show 0<L by lia) n
    have hT':=TK.lst nc (o:=.lst (xs++[V.ref t2])) _ _ hT
    refine⟨.inl ⟨rfl,_,SqL.of nc⟩,_,nc,by lia,L,t2,nth L n,rfl,SqT.of hT',by lia,fun _ t3 H3 s3 j6=>?_,fun hf=>by rw[hv]at hf;cases hf⟩
    refine⟨t3,xs++[V.ref t2],rfl,(s2.over hp).trans s3,s3 _ _ Ab,?_,j6⟩
    rw[x1_,jW_]
    exact ((hW.mono (TK.lst nc)).snoc hT').mono (TK.of s3)
  ·have bC:¬ (nth L n).length<=m:=by lia
   have hnl:¬ ((n:Int)<many L (m+1)):=fun z=>bC (fe.mpr z)
   have e:n=(many L (m+1)).toNat:=by lia
   subst e
   nofun
   exact k p xs H2 s2 hp nc hW
def NU (K:α3):Sp:=fun vs H Q E=>∃(h a:Addr) (L:Int) (aa:α2) (ab:α1) (ws:α2),vs=[.ref h,.ref a]/\Ba K H h L aa ab/\Wf L aa ab/\SqT K H a (ws.map V.int)/\ws.length<=600/\(isW L ws=true->∀p H',Same H H'->H p=none->H' p=some (.lst ((Jo ab ws).map V.int))->Q (.ref p) H')/\(isW L ws=false->False)
def SI   (F:Fun K "trail" "trail" Kv f fd)(T:Txt mg)
   (cW:⋯ 2 "check_word" BU ["letters","word"] (HH K) C2 CG)
  : nofun 3 f fd ["house","word"] (NU K):=by
 delta HE
 ·obtain⟨h,a,L,aa,ab,ws,rfl,_⟩:=h;rfl
 ·obtain⟨h,a,L,aa,ab,ws,rfl,hh,wf,hw,hz,k,kE⟩:=h
  have hl:=As
  refine⟨_,(Ac (A8 (Ah cW hr.d AK (Aa (Ag (ixTD An) (pvD 0) Ad) (Aa (pvD 1) Ae))))
   (Ac (Ak (i:=2) HE.nd (Ag (ixTD An) (pvD 0) Ad))
   (Ac (Ak (i:=3) HE.nd (Bt (Aa Ad Ae)))
   (Ac (Bl jH_ rfl (Ed (pvD 1)) (Ap (i:=4) HE.nd rfl (rC rfl))
   (Af (A8 (C8 jG_ jK_ jL_ AQ (pvD 3) (Aa (Ag (ixTD An) (Ag (ixTD An) (pvD 2) (Ag (ixLD AS) (pvD 3) (VJ S4 Ad))) (pvD 4)) Ae)))))
   (Af (AA (pvD 3))))))),?_⟩
  nofun
  obtain⟨m,wv,h1,h2,h3⟩:=hh
  refine⟨_,h1,_,rfl,L,a,ws,rfl,hw,by lia,fun hv H1 s1=>?_,kE⟩
  nofun
  have cM:=s1.seqT hw
  have h3':=h3.mono s1
  refine⟨_,s1.seqT h1,_,rfl,by lia,fun p hp=>?_⟩
  have s2:=Same.new hp (o:=.lst [V.int 0])
  refine⟨⟨_,s2.seqT cM⟩,forT (xs:=ws.map V.int) (fun i ai H2=>Same H1 H2/\H2 p=some (.lst (((rq (i+1)).map fun j=>Az ab (ws.take j)).map V.int))/\∃o,ai=[some (.ref h),some (.ref a),some (.ref wv),some (.ref p),o]) ⟨s2,by rw[Ab];simp[Az],none,rfl⟩ (fun i ai H2 _ h=>h.1.seqT cM) (fun i x ai H2 hx h=>?_) (fun ai H2 h=>?_)⟩
  ·obtain⟨s3,fz,o,rfl⟩:=h
   obtain⟨n,hn,rfl⟩:=BP hx
   have hi:=(jc_.mp hn).1
   have hx:=Av.mp hv n (jd_ hn)
   have eT:=wf.walk hv i
   obtain⟨row,g,r1,r2,r3,r4,r5⟩:=wf.step eT.1 eT.2 hx.1 hx.2
   obtain⟨xs,t,q1,q2,q3⟩:=(h3'.mono s3).atZ eT.1 r1
   nofun
   refine⟨.inl ⟨rfl,_,SqL.of fz⟩,_,SqL.of fz,_,Qg (v:=V.int (Az ab (ws.take i))) (by simp),?_⟩
   nofun
   refine⟨_,q1,_,q2,?_⟩
   nofun
   refine⟨_,q3,_,AX hx.1 r2,_,fz,by simp;lia,s3.over hp,?_,_,rfl⟩
   rw[Ab,show rq (i+1+1)=rq (i+1)++[i+1] from x1_,jW_,jW_,<-r3,<-EW hn]
   rfl
  ·obtain⟨s3,fz,o,rfl⟩:=h
   nofun
   rw[ja_]at fz
   exact k hv p H2 (s1.trans s3) (s1.free hp) fz
def MO (K:α3):Sp:=fun vs H Q E=>∃(h a:Addr) (L:Int) (aa:α2) (ab:α1) (ws:α2),vs=[.ref h,.ref a]/\Ba K H h L aa ab/\Wf L aa ab/\SqT K H a (ws.map V.int)/\ws.length<=600/\(isW L ws=true->∀H',Same H H'->Q (.int (Az ab ws)) H')/\(isW L ws=false->False)
def Je   (F:Fun K "room_behind" "room_behind" B4 f fd)(T:Txt mg)
   (gG:⋯ 3 "trail" Kv ["house","word"] (NU K) Ri NV)
  : nofun 4 f fd ["house","word"] (MO K):=by
 delta Ja
 ·obtain⟨h,a,L,aa,ab,ws,rfl,_⟩:=h;rfl
 ·obtain⟨h,a,L,aa,ab,ws,rfl,hh,wf,hw,hz,k,kE⟩:=h
  have hl:=As
  refine⟨_,(Af (AA (Ag (ixLD AS) (Ah gG hr.d AK (Aa (pvD 0) (Aa (pvD 1) Ae))) (VJ S4 Ad)))),?_⟩
  nofun
  refine⟨h,a,L,aa,ab,ws,rfl,hh,wf,hw,hz,fun hv p H1 s1 _ hp=>?_,kE⟩
  nofun
  refine⟨_,SqL.of hp,_,Qg (v:=V.int (Az ab ws)) ?_,k hv H1 s1⟩
  rw[je_,ja_,J9,show ws.length+1-1=ws.length by lia,Mj];rfl
def Gz (aa:α2)(r:Int):Int:=aa.getD r.toNat 0
def F5   (h0:0<=r)(h1:r<aa.length):atI (aa.map V.int) r=some (V.int (Gz aa r)):=by
 have aq:r.toNat<aa.length:=by lia
 refine AX h0 ?_
 unfold Gz
 rw[jj_]
 simp[aq]
def MQ (K:α3):Sp:=fun vs H Q E=>∃(h a:Addr) (L:Int) (aa:α2) (ab:α1) (ws:α2),vs=[.ref h,.ref a]/\Ba K H h L aa ab/\Wf L aa ab/\SqT K H a (ws.map V.int)/\ws.length<=600/\(isW L ws=true->∀H',Same H H'->Q (.int (Gz aa (Az ab ws))) H')/\(isW L ws=false->False)
def Jf   (F:Fun K "mark_behind" "mark_behind" B5 f fd)(T:Txt mg)
   (fA:⋯ 4 "room_behind" B4 ["house","word"] (MO K) DJ C5)
  : nofun 5 f fd ["house","word"] (MQ K):=by
 delta Jb
 ·obtain⟨h,a,L,aa,ab,ws,rfl,_⟩:=h;rfl
 ·obtain⟨h,a,L,aa,ab,ws,rfl,hh,wf,hw,hz,k,kE⟩:=h
  have hl:=As
  refine⟨_,(Af (AA (Ag (ixTD An) (Ag (ixTD An) (pvD 0) Ad) (Ah fA hr.d AK (Aa (pvD 0) (Aa (pvD 1) Ae)))))),?_⟩
  nofun
  have qa:=hh
  obtain⟨m,wv,h1,h2,h3⟩:=hh
  refine⟨_,h1,_,rfl,?_⟩
  nofun
  refine⟨h,a,L,aa,ab,ws,rfl,qa,wf,hw,hz,fun hv H1 s1=>?_,kE⟩
  nofun
  have eT:=wf.walk hv ws.length
  rw[jO_]at eT
  exact⟨_,s1.seqT h2,_,F5 eT.1 eT.2,k hv H1 s1⟩
def Ez (K:α3)(H:Hp)(d:Addr)(ents:List (Int×α2)):Prop:=∃kvs:List (Key×V),H d=some (.dK kvs)/\kvs.length=ents.length/\∀(i:Nat) (e:Int×α2),ents[i]?=some e->∃t,kvs[i]?=some (rB e.1,V.ref t)/\H t=some (.tup (e.2.map V.int))
def W5     (hp:H p=some (.dK kvs))(h:H t=some (.tup xs)):upd H p (.dK d0) t=some (.tup xs):=by
 rw[Aj (fun z=>by rw[z,hp]at h;cases h)];exact h
def Ez.mono {K:α3}   {ents:List (Int×α2)}(h:Ez K H d ents)(s:Same H H'):Ez K H' d ents:=by
 obtain⟨kvs,h1,h2,h3⟩:=h
 refine⟨kvs,s _ _ h1,h2,fun i e he=>?_⟩
 obtain⟨t,a,b⟩:=h3 i e he
 exact⟨t,a,s _ _ b⟩
def Ez.off {K:α3}   {ents:List (Int×α2)}  (h:Ez K H d ents)(hp:H p=some (.lst zs)):Ez K (upd H p (.lst ys)) d ents:=by
 obtain⟨kvs,h1,h2,h3⟩:=h
 refine⟨kvs,by rw[Aj (fun z=>by rw[z,hp]at h1;cases h1)];exact h1,h2,fun i e he=>?_⟩
 obtain⟨t,a,b⟩:=h3 i e he
 exact⟨t,a,TK.lst hp _ _ b⟩
def Ez.no {K:α3}   {ents:List (Int×α2)}(h:Ez K H d ents)  (hg:g∉ents.map (·.1)):DGet H d (.int g) none:=by
 obtain⟨kvs,h1,h2,h3⟩:=h
 have e:valV kvs (rB g:Key)=none:=by
  unfold valV
  rw[Option.map_eq_none_iff,xX_]
  intro kv jP
  obtain⟨i,hi,e⟩:=jV_ jP
  obtain⟨t,a,_⟩:=h3 i ents[i] (by simp[show i<ents.length by lia])
  have e2:kvs[i]?=some kv:=by rw[jh_ hi,e]
  rw[e2]at a
  cases a
  simp only[qy_]
  intro z
  injection z with z
  exact hg (jv_.mpr ⟨ents[i],j1_ _,z⟩)
 have:=DGet.k (k:=(rB g:Key)) h1
 rw[e]at this
 exact this
def Ez.yes {K:α3}{H:Hp}{d:Addr}{ents:List (Int×α2)}(h:Ez K H d ents)(nod:(ents.map (·.1)).Nodup){g:Int}{w:α2}(hg:(g,w)∈ents):∃t,DGet H d (.int g) (some (.ref t))/\H t=some (.tup (w.map V.int)):=by
 obtain⟨kvs,h1,h2,h3⟩:=h
 obtain⟨i,hi,ei⟩:=jV_ hg
 have ei':ents[i]?=some (g,w):=by rw[jh_ hi,ei]
 obtain⟨t,a,b⟩:=h3 i _ ei'
 refine⟨t,?_,b⟩
 have hf:valV kvs (rB g:Key)=some (.ref t):=by
  unfold valV
  cases hq:kvs.find? (fun kv=>decide (kv.1=(rB g:Key))) with
  |none=>
   rw[xX_]at hq
   have:=hq _ (jd_ a)
   simp at this
  |some kv=>
   have hk:=z4_ hq
   simp only[qy_]at hk
   obtain⟨j,hj,ej⟩:=jV_ (q9_ hq)
   have cB:j<ents.length:=by lia
   obtain⟨t',a',b'⟩:=h3 j ents[j] (by simp[cB])
   have e2:kvs[j]?=some kv:=by rw[jh_ hj,ej]
   rw[e2]at a'
   have a2:kv=(rB ents[j].1,V.ref t'):=jq_ a'
   rw[a2]at hk
   have dk:ents[j].1=g:=by injection hk
   have ij:i=j:=by
    refine (xV_ (h₀:=by simpa using hi) (h₁:=by simpa using cB) nod).mp ?_
    simp[ei,dk]
   subst ij
   rw[e2]at a
   have a3:kv=(rB g,V.ref t):=jq_ a
   rw[a3];rfl
 have:=DGet.k (k:=(rB g:Key)) h1
 rw[hf]at this
 exact this
def Ez.put {K:α3}{H:Hp}{d t:Addr}{ents:List (Int×α2)}{g:Int}{w:α2}(h:Ez K H d ents)(hg:g∉ents.map (·.1))(hz:ents.length<1000)(ht:H t=some (.tup (w.map V.int))):∃H',DPut H d (.int g) (.ref t) H'/\(∃kvs d0,H d=some (.dK kvs)/\H'=upd H d (.dK d0))/\Ez K H' d (ents++[(g,w)]):=by
 have dM:=h.no hg
 obtain⟨kvs,h1,h2,h3⟩:=h
 have hl:=As
 have hv:valV kvs (rB g:Key)=none:=by
  rcases dM with ⟨d0,k,e,ey,er⟩|⟨d0,k,b,e,ey,_⟩
  ·have e1:d0=kvs:=by
    rcases e with e|⟨o,e⟩
    ·rw[h1]at e;cases e;rfl
    ·rw[h1]at e;cases e
   subst e1
   cases k with
   |inl m=>
    have:m=g:=by injection ey with ey;exact ey.symm
    subst this
    exact er.symm
   |inr m=>cases ey
  ·cases ey
 have hp:putK kvs (rB g:Key) (V.ref t)=kvs++[(rB g,V.ref t)]:=by
  unfold putK
  rw[Ds,hv]
  rfl
 refine⟨_,DPut.k (k:=(rB g:Key)) h1 s!"",⟨kvs,_,h1,rfl⟩,kvs++[(rB g,V.ref t)],by rw[Ab,hp],by simp[h2],fun i e he=>?_⟩
 by_cases hi:i<ents.length
 ·rw[jk_ hi]at he
  obtain⟨t',a,b⟩:=h3 i e he
  exact⟨t',by rw[jk_ s!""];exact a,W5 h1 b⟩
 ·have aq:=(jc_.mp he).1
  rw[jn_,jX_]at aq
  have e1:i=ents.length:=by lia
  subst e1
  rw[jt_ (ji_ _),qG_]at he
  simp at he
  subst he
  exact⟨t,by rw[jt_ s!"",h2,qG_];rfl,W5 h1 ht⟩
def GA (K:α3):Sp:=fun vs H Q _=>∃(h:Addr) (L:Int) (aa:α2) (ab:α1),vs=[.ref h]/\Ba K H h L aa ab/\Wf L aa ab/\∀d top H',Same H H'->H d=none->Ez K H' d (Au ab)->Bfs L aa.length ab (Au ab) (Au ab).length top->Q (.ref d) H'
def MR   (F:Fun K "words_in" "words_in" Df f fd)(T:Txt mg)
  : nofun 1 f fd ["house"] (GA K):=by
 delta BE
 ·obtain⟨h,L,aa,ab,rfl,_⟩:=h;rfl
 ·obtain⟨h,L,aa,ab,rfl,hh,wf,k⟩:=h
  have hl:=As
  have cH:=wf.l1
  have cn:=wf.n1
  have a9:=wf.n40
  refine⟨_,(@Ac _ _ _ _ _ (@UJ _ 1 _ _ _ _ _ _ _ _ BE.nd rfl (rC rfl) Ad (BN Ae) rfl (rC rfl))
   (Ac (Ak (i:=2) BE.nd (Bt (Aa Ad Ae)))
   (Ac (Ak (i:=3) BE.nd Ad)
   (Ac (EO jH_ (ptT (Ar (opD0 G2) (pvD 3) (Ao (lenD Ai) (by rfl) T.len jF_ (Aa (pvD 2) Ae)) (AE _)))
   (Ac (Ak (i:=4) BE.nd (Ag (ixLD AS) (pvD 2) (pvD 3)))
   (Ac (Bl jH_ rfl (RZ rfl T.enumerate (Ag (ixTD An) (Ag (ixTD An) (pvD 0) Ad) (pvD 4))) (S1 rfl (Hl (Ap (i:=5) BE.nd rfl (rC rfl)) (Hl (Ap (i:=6) BE.nd rfl (rC rfl)) O4)))
   (Af (Bx (S0 (K7 (K4 hr) (pvD 6) (pvD 1)))
   (Ac (Md (K4 hr) (pvD 1) (pvD 6) (Am EU (PR (K4 hr) (pvD 1) (pvD 4) (fun _ _=>rfl)) (BN (Aa (pvD 5) Ae))) rfl)
   (Af (A8 (C8 jG_ jK_ jL_ AQ (pvD 2) (Aa (pvD 6) Ae)))))
   AH)))
   (Af (O5 (i:=3) BE.nd rfl (rC rfl) Ad S2)))))
   (Af (AA (pvD 1))))))),?_⟩
  nofun
  intro p hp
  refine⟨by lia,fun p1 bG=>⟨Same.new bG _ _ Ab,[(rB 0,V.ref p1)],rfl,by simp,by lia,fun p2 aY=>?_⟩⟩
  have jo:GN [] [((rB 0:Key),V.ref p1)]=[((rB 0:Key),V.ref p1)]:=rfl
  rw[jo]at aY ⊢
  have hne1:p1≠p:=(AI bG).2
  have hne2:p2≠p:=(AI aY).2
  have s0:Same H (upd (upd (upd (upd H p (.dK [])) p1 (.tup [])) p (.dK [(rB 0,V.ref p1)])) p2 (.lst [V.int 0])):=(((Same.new hp).newT bG).over hp).newT aY
  have en0:Ez K (upd (upd (upd (upd H p (.dK [])) p1 (.tup [])) p (.dK [(rB 0,V.ref p1)])) p2 (.lst [V.int 0])) p [(0,[])]:=by
   refine⟨[(rB 0,V.ref p1)],Same.new aY _ _ Ab,rfl,fun i e he=>?_⟩
   cases i with
   |zero=>
    simp at he
    subst he
    refine⟨p1,rfl,?_⟩
    refine Same.new aY _ _ ?_
    rw[Aj hne1];exact Ab
   |succ i=>simp at he
  have d6:upd (upd (upd (upd H p (.dK [])) p1 (.tup [])) p (.dK [(rB 0,V.ref p1)])) p2 (.lst [V.int 0]) p2=some (.lst ((([(0,[])]:List (Int×α2)).map (·.1)).map V.int)):=Ab
  have hp2n:H p2=none:=by
   have h1:=(AI aY).1
   have h2:=(AI h1).1
   exact (AI h2).1
  generalize upd (upd (upd (upd H p (.dK [])) p1 (.tup [])) p (.dK [(rB 0,V.ref p1)])) p2 (.lst [V.int 0])=H0 at s0 en0 d6 ⊢
  clear bG aY jo
  obtain⟨Pv,ao⟩:∃Pv:Nat->St->Hp->Prop,∀m ai H2,Pv m ai H2↔(∃(ents:List (Int×α2)) (i:Nat) (top:Int) (o4 o5 o6:Option V),m=aa.length+1-i/\Same H H2/\Ez K H2 p ents/\H2 p2=some (.lst ((ents.map (·.1)).map V.int))/\Bfs L aa.length ab ents i top/\(∀e,ents[i]?=some e->top<=place L e.2*L+1)/\bfs ab (aa.length+1-i) ents i=Au ab/\ai=[some (.ref h),some (.ref p),some (.ref p2),some (.int i),o4,o5,o6]):=⟨_,fun _ _ _=>qv_⟩
  refine Jn Pv ⟨_,(ao _ _ _).mpr ⟨[(0,[])],0,1,none,none,none,rfl,s0,en0,d6,Bfs.start L cn ab,fun e he=>?_,by unfold Au;rw[wf.len];rfl,rfl⟩⟩ ?_
  ·simp at he;subst he;simp[place,AU]
  intro m ai H2 eQ
  obtain⟨ents,i,top,o4,o5,o6,rfl,s2,en2,fB,bf,j7,cY,rfl⟩:=(ao _ _ _).mp eQ
  have hbl:=bf.len
  nofun
  refine⟨_,.inl (SqL.of fB),?_⟩
  rw[ja_,ja_]
  refine ite2 (fun aq=>?_) (fun bC=>?_)
  ·have hi:i<ents.length:=by lia
   obtain⟨e,he⟩:∃e,ents[i]?=some e:=⟨ents[i],by simp[hi]⟩
   obtain⟨r,w⟩:=e
   have a8:=jd_ he
   have bQ:=bf.rng _ a8
   have htop':top<=place L w*L+1:=j7 _ he
   obtain⟨row,hrow,fC,dm⟩:=wf.row bQ.1 bQ.2
   have mU:ab.getD r.toNat []=row:=by rw[jj_,hrow];rfl
   obtain⟨mm,wv,q1,q2,q3⟩:=id hh
   obtain⟨xs,t,z1,z2,z3⟩:=q3.atZ bQ.1 hrow
   refine⟨Pv (aa.length+1-(i+1)),fun af H' h=>⟨_,by lia,h⟩,?_⟩
   refine⟨_,SqL.of fB,_,AX (v:=r) s!"" (by rw[jg_,je_,he];rfl),?_⟩
   nofun
   refine⟨_,s2.seqT q1,_,rfl,?_⟩
   nofun
   refine⟨_,s2.seqT z1,_,z2,?_⟩
   nofun
   refine⟨_,s2.seqT z3,?_⟩
   obtain⟨Pn,dn⟩:∃Pn:Nat->St->Hp->Prop,∀x aE H3,Pn x aE H3↔(∃(av:List (Int×α2)) (o5 o6:Option V),Same H H3/\Ez K H3 p av/\H3 p2=some (.lst ((av.map (·.1)).map V.int))/\Bfs L aa.length ab av i (place L w*L+(x:Int)+1)/\Seen L ab av r w x/\av[i]?=some (r,w)/\CV w av x (row.drop x)=CV w ents 0 row/\aE=[some (.ref h),some (.ref p),some (.ref p2),some (.int i),some (.int r),o5,o6]):=⟨_,fun _ _ _=>qv_⟩
   refine forN Pn ((dn _ _ _).mpr ⟨ents,o5,o6,s2,en2,fB,bf.up (by push_cast;lia),(fun y h0 h1=>absurd h1 (by push_cast;lia)),he,rfl,rfl⟩) (fun x aE H3 _ h3=>?_) (fun x v aE H3 t' hx h3 eL=>?_) (fun aE H3 h3=>?_)
   ·obtain⟨av,_,_,s3,_⟩:=(dn _ _ _).mp h3
    exact s3.seqT z3
   ·obtain⟨av,o5,o6,s3,qb,dP,d7,iM,ie,cZ,rfl⟩:=(dn _ _ _).mp h3
    obtain⟨g,hg,rfl⟩:=BP hx
    have bX:=(jc_.mp hg).1
    have j8:=(wf.rows row fC).2 g (jd_ hg)
    have qc:g=Bu ab r (x:Int):=(BH hrow (by rw[jg_];exact hg)).symm
    have eU:=jd_ ie
    have gH:row.drop x=g::row.drop (x+1):=by
     rw[xa_ bX]
     congr 1
     exact (jc_.mp hg).2
    obtain⟨fD,iN⟩:=d7.letter s!"" iM eU s!"" qc j8
    have iO:=Ft (g:=g) (v:=w++[(x:Int)]) ie
    rw[gH,Fs]at cZ
    have sT:=s3.newT eL (o:=.tup [V.int x,V.int g])
    have lY:=qb.mono (Same.new eL (o:=.tup [V.int x,V.int g]))
    have qd:=Same.new eL (o:=.tup [V.int x,V.int g]) _ _ dP
    nofun
    refine⟨_,SqT.of Ab,rfl,?_⟩
    nofun
    generalize upd H3 t' (.tup [V.int x,V.int g])=HT' at sT lY qd ⊢
    by_cases hm:g∈av.map (·.1)
    ·rw[if_pos hm]at fD iN iO cZ
     obtain⟨e',fQ,e1⟩:=jv_.mp hm
     obtain⟨g',w'⟩:=e'
     have e1:g'=g:=e1
     subst e1
     obtain⟨tt,dg,_⟩:=lY.yes d7.nod fQ
     refine⟨_,dg,?_⟩
     rw[if_neg (by simp)]
     exact (dn _ _ _).mpr ⟨av,_,_,sT,lY,qd,fD,iN,iO,cZ,rfl⟩
    ·rw[if_neg hm]at fD iN iO cZ
     refine⟨_,lY.no hm,?_⟩
     rw[if_pos (by simp)]
     obtain⟨tw,dw,nY⟩:=lY.yes d7.nod eU
     refine⟨_,dw,by lia,fun q5 nZ=>?_⟩
     have dj:w.length<=100:=by
      have h1:w.length<=i:=d7.sh i _ ie
      lia
     refine Fe.ofS (Same.new nZ _ _ nY) Ab (by simp;lia) fun q6 H6 s6 hq6=>?_
     have sU:=(sT.newT nZ).trans s6
     have enU:=(lY.mono (Same.new nZ)).mono s6
     have hrU:=s6 _ _ (Same.new nZ _ _ qd)
     have hq6':H6 q6=some (.tup ((w++[(x:Int)]).map V.int)):=by simpa using hq6
     obtain⟨H7,dp,⟨kvs,d0,hd,rfl⟩,enV⟩:=enU.put hm (by have:=d7.len;lia) hq6'
     nofun
     refine⟨_,dp,?_⟩
     have qe:upd H6 p (.dK d0) p2=some (.lst ((av.map (·.1)).map V.int)):=by rw[Aj hne2];exact hrU
     refine⟨.inl ⟨rfl,_,SqL.of qe⟩,_,qe,by have:=d7.len;simp;lia,(dn _ _ _).mpr ⟨av++[(g,w++[(x:Int)])],_,_,(sU.over hp).over hp2n,enV.off qe,by rw[Ab];simp,fD,iN,iO,cZ,rfl⟩⟩
   ·obtain⟨av,o5,o6,s3,qb,dP,d7,iM,ie,cZ,rfl⟩:=(dn _ _ _).mp h3
    rw[ja_]at d7 iM cZ
    rw[uu,Gj]at cZ
    nofun
    obtain⟨fD,gI⟩:=d7.next s!"" dm iM ie
    refine (ao _ _ _).mpr ⟨av,i+1,_,_,_,_,rfl,s3,qb,dP,fD,gI,?_,by push_cast;rfl⟩
    rw[show aa.length+1-i=(aa.length+1-(i+1))+1 by lia,Kc he]at cY
    rw[cZ,<-mU]
    exact cY
  ·have hi:i=ents.length:=by have:=bf.il;lia
   subst hi
   rw[Kb (by simp)]at cY
   rw[<-cY]at k
   exact k p top H2 s2 hp en2 bf
def Xr (H:Hp)(d:Addr)(ents:List (Int×α2))(n:Nat):Prop:=∃xs:List V,H d=some (.lst xs)/\xs.length=n/\∀r:Nat,r<n->(∃(w:α2) (t:Addr),((r:Int),w)∈ents/\xs[r]?=some (.ref t)/\H t=some (.tup (w.map V.int)))\/((r:Int)∉ents.map (·.1)/\xs[r]?=some .non)
def LG (K:α3):Sp:=fun vs H Q _=>∃(h:Addr) (L:Int) (aa:α2) (ab:α1),vs=[.ref h]/\Ba K H h L aa ab/\Wf L aa ab/\∀d top H',Same H H'->H d=none->Xr H' d (Au ab) aa.length->Bfs L aa.length ab (Au ab) (Au ab).length top->Q (.ref d) H'
def OS   (F:Fun K "ways_in" "ways_in" FU f fd)(T:Txt mg)
   (fE:⋯ 1 "words_in" Df ["house"] (GA K) GC FF)
  : nofun 2 f fd ["house"] (LG K):=by
 delta JE
 ·obtain⟨h,L,aa,ab,rfl,_⟩:=h;rfl
 ·obtain⟨h,L,aa,ab,rfl,hh,wf,k⟩:=h
  have hl:=As
  have a9:=wf.n40
  refine⟨_,(Ac (Bk (i:=1) JE.nd rfl (rG rfl) (Ah fE hr.d AK (Aa (pvD 0) Ae)))
   (Af (AA (A9 rfl (A3 rfl) (cp:=Ir) (te:=PX (OB 1) (OB 0)) ⟨⟨rfl,rfl⟩,rA⟩ (AO rfl T.range (Aa (Ao (lenD Ai) (by rfl) T.len jF_ (Aa (Ag (ixTD An) (pvD 0) Ad) Ae)) Ae)) (fun _ _ _ _=>(Ap (i:=0) Jd rfl (rC rfl))) (fun _ _ _ _=>Bd) (fun _ _ _ _=>(by exact (RT (K4 hr) (pvD 1) (pvD 0) ⟨rfl,rfl,rfl,rfl⟩))))))),?_⟩
  nofun
  refine⟨h,L,aa,ab,rfl,hh,wf,fun d top H1 s1 hd en bf=>?_⟩
  obtain⟨mm,wv,q1,q2,q3⟩:=hh.mono s1
  nofun
  refine⟨_,q1,_,rfl,?_⟩
  nofun
  refine⟨_,.inr q2,?_⟩
  rw[ja_]
  refine⟨by lia,by lia,?_⟩
  rw[jg_]
  obtain⟨Pc,dq⟩:∃Pc:Nat->List V->St->Hp->Prop,∀j ys bR H4,Pc j ys bR H4↔(H4=H1/\ys.length=j/\(∀r:Nat,r<j->(∃(w:α2) (t:Addr),((r:Int),w)∈Au ab/\ys[r]?=some (.ref t)/\H1 t=some (.tup (w.map V.int)))\/((r:Int)∉(Au ab).map (·.1)/\ys[r]?=some .non))/\∃o,bR=[o,some (.ref d)]):=⟨_,fun _ _ _ _=>qv_⟩
  refine J5 Pc ((dq _ _ _ _).mpr ⟨rfl,rfl,(fun r hr=>absurd hr (xb_ _)),none,rfl⟩) s!"" (fun j ys bR H4 _ h4=>?_) (fun j ys bR H4 hj h4=>?_) (fun ys bR H4 h4 D hD=>?_)
  ·obtain⟨_,aj,_⟩:=(dq _ _ _ _).mp h4
   lia
  ·obtain⟨rfl,aj,aA,o,rfl⟩:=(dq _ _ _ _).mp h4
   obtain⟨kvs,lS,_⟩:=id en
   have ext:∀v:V,((∃(w:α2) (t:Addr),((j:Int),w)∈Au ab/\v=.ref t/\H4 t=some (.tup (w.map V.int)))\/((j:Int)∉(Au ab).map (·.1)/\v=.non))->∀o,Pc (j+1) (ys++[v]) [o,some (.ref d)] H4:=fun v hv o=>by
    refine (dq _ _ _ _).mpr ⟨rfl,by simp[aj],fun r hr=>?_,o,rfl⟩
    by_cases nh:r<j
    ·rw[jk_ s!""]
     exact aA r nh
    ·have e:r=j:=by lia
     subst e
     rw[jt_ s!"",aj,qG_]
     rcases hv with ⟨w,t,a,b,c⟩|⟨a,b⟩
     ·exact .inl ⟨w,t,a,by rw[b];rfl,c⟩
     ·exact .inr ⟨a,by rw[b];rfl⟩
   nofun
   refine⟨.inl ⟨kvs,.inl lS⟩,?_⟩
   have ej:(0:Int)+(j:Nat)=(j:Int):=by lia
   rw[ej]
   by_cases hm:(j:Int)∈(Au ab).map (·.1)
   ·obtain⟨e',fQ,e1⟩:=jv_.mp hm
    obtain⟨g',w'⟩:=e'
    have e1:g'=(j:Int):=e1
    subst e1
    obtain⟨tt,dg,hw⟩:=en.yes bf.nod fQ
    exact⟨_,dg,ext _ (.inl ⟨w',tt,fQ,rfl,hw⟩) _⟩
   ·exact⟨_,en.no hm,ext _ (.inr ⟨hm,rfl⟩) _⟩
  ·obtain⟨rfl,aj,aA,o,rfl⟩:=(dq _ _ _ _).mp h4
   refine k D top _ (s1.newT hD) (s1.free hD) ⟨ys,Ab,aj,fun r hr=>?_⟩ bf
   rcases aA r hr with ⟨w,t,a,b,c⟩|h
   ·exact .inl ⟨w,t,a,b,Same.new hD _ _ c⟩
   ·exact .inr h
structure RF (L n:Nat)(ab:α1)(R:α2):Prop where
 hd:R[0]?=some 0
 nod:R.Nodup
 rng:∀r∈R,0<=r/\r<(n:Int)
 len:R.length<=n
 cls:∀r∈R,∀x:Nat,x<L->Bu ab r (x:Int)∈R
def RF.of {L n:Nat}{ab:α1}{top:Int}(bf:Bfs L n ab (Au ab) (Au ab).length top):RF L n ab ((Au ab).map (·.1)):=by
 refine⟨by rw[je_,bf.hd];rfl,bf.nod,fun r hr=>?_,by rw[ja_];exact bf.len,fun r hr x hx=>?_⟩
 ·obtain⟨e,he,rfl⟩:=jv_.mp hr
  exact bf.rng e he
 ·obtain⟨e,he,rfl⟩:=jv_.mp hr
  obtain⟨j,hj⟩:=jN_.mp he
  obtain⟨e',h1,h2,_⟩:=bf.don j (jc_.mp hj).1 e hj (x:Int) s!"" s!""
  rw[<-h2]
  exact q8_ h1
def GD (K:α3):Sp:=fun vs H Q _=>∃(h:Addr) (L:Nat) (aa:α2) (ab:α1),vs=[.ref h]/\Ba K H h L aa ab/\Wf L aa ab/\∀p H',Same H H'->H p=none->H' p=some (.lst (((Au ab).map (·.1)).map V.int))->RF L aa.length ab ((Au ab).map (·.1))->Q (.ref p) H'
def OT   (F:Fun K "reached" "reached" Er f fd)(T:Txt mg)
   (fE:⋯ 1 "words_in" Df ["house"] (GA K) GC FF)
  : nofun 2 f fd ["house"] (GD K):=by
 delta OP
 ·obtain⟨h,L,aa,ab,rfl,_⟩:=h;rfl
 ·obtain⟨h,L,aa,ab,rfl,hh,wf,k⟩:=h
  refine⟨_,(Af (AA (AD (IW rfl) rfl T.list xs_ (Aa (Ah fE hr.d AK (Aa (pvD 0) Ae)) Ae)))),?_⟩
  nofun
  refine⟨h,L,aa,ab,rfl,hh,wf,fun d top H1 s1 hd en bf=>?_⟩
  obtain⟨kvs,h1,h2,h3⟩:=en
  refine⟨d,rfl,kvs,h1,fun l hl=>k l _ (s1.newT hl) (s1.free hl) ?_ (RF.of bf)⟩
  rw[Ab]
  congr 2
  refine qT_ fun i=>?_
  rw[je_,je_,je_]
  cases he:(Au ab)[i]? with
  |none=>
   have:kvs[i]?=none:=by rw[xC_]at he ⊢;lia
   rw[this];rfl
  |some e=>
   obtain⟨t,a,_⟩:=h3 i e he
   rw[a];rfl
def numD {α κ:Type}[DecidableEq α](k:α->κ)(ks:List α):List (κ×V):=ks.map fun x=>(k x,V.int ((ks.idxOf x:Nat):Int))
def DK {α κ:Type}[DecidableEq α]{k:α->κ}{ks:List α}:(numD k ks).length=ks.length:=by unfold numD;rw[ja_]
def Dp {α κ:Type}[DecidableEq α][DecidableEq κ]{k:α->κ}(hk:∀x y,k x=k y->x=y){ks:List α}(nd:ks.Nodup){x:α}(hx:x∈ks):valV (numD k ks) (k x)=some (V.int ((ks.idxOf x:Nat):Int)):=by
 have hi:=qO_ hx
 refine UN (i:=ks.idxOf x) ?_ ?_
 ·unfold numD
  rw[jR_]
  exact tY _ (fun a b b9 z=>b9 (hk a b z)) nd
 ·unfold numD
  rw[je_,jh_ hi,q2_];rfl
def F6 {α κ:Type}[DecidableEq α][DecidableEq κ]{k:α->κ}(hk:∀x y,k x=k y->x=y){ks:List α}{x:α}(hx:x∉ks):valV (numD k ks) (k x)=none:=by
 have h1:=Ds (k x) (numD k ks)
 have h2:((numD k ks).any fun kv=>decide (kv.1=k x))=false:=by
  rw[tQ]
  intro p hp
  unfold numD at hp
  obtain⟨y,hy,rfl⟩:=jv_.mp hp
  simp only[qy_]
  intro z
  exact hx (hk _ _ z ▸ hy)
 rw[h2]at h1
 cases q:valV (numD k ks) (k x) with
 |none=>rfl
 |some v=>rw[q]at h1;cases h1
def KA {α κ:Type}[DecidableEq α][DecidableEq κ]{k:α->κ}(hk:∀x y,k x=k y->x=y){ks:List α}{x:α}(hx:x∉ks):putK (numD k ks) (k x) (V.int ((ks.length:Nat):Int))=numD k (ks++[x]):=by
 rw[RO _ (F6 hk hx)]
 unfold numD
 rw[jW_,List.map_singleton,Mt hx]
 congr 1
 exact qo_ fun y hy=>by rw[Si hy]
def DL {α:Type}[DecidableEq α]{row:List α}{i:Nat}{x:α}(h:row[i]?=some x):Ay (row.take (i+1))=ins1 (Ay (row.take i)) x:=by
 rw[jQ_,h];exact Mr _ _
def KC  [DecidableEq α](row:List α)(i:Nat):(Ay (row.take i)).length<=row.length:=by
 have h1:=Js (row.take i)
 unfold ncl at h1
 rw[jw_]at h1
 lia
def T7 (K:α3):Sp:=fun vs H Q _=>∃(a:Addr),vs=[.ref a]/\((∃ns:α2,SqT K H a (ns.map V.int)/\ns.length<=100/\∀l H',Same H H'->H l=none->H' l=some (.lst ((num ns).map V.int))->Q (.ref l) H')\/(∃(xs:List V) (ws:α1),SqL K H a xs/\AB K H xs ws/\ws.length<=100/\∀l H',Same H H'->H l=none->H' l=some (.lst ((num ws).map V.int))->Q (.ref l) H'))
def MS   (F:Fun K "numbered" "numbered" E1 f fd)(T:Txt mg)
  : nofun 1 f fd ["row"] (T7 K):=by
 delta Fv
 ·obtain⟨a,rfl,_⟩:=h;rfl
 ·obtain⟨a,rfl,b9⟩:=h
  have hl:=As
  refine⟨_,(Ac (Bk (i:=1) Fv.nd rfl (rG rfl) Sh)
   (Ac (Bl jH_ rfl (Tp (pvD 0)) (Ap (i:=2) Fv.nd rfl (rC rfl))
   (Af (Bx (S0 (K7 (K4 hr) (pvD 2) (pvD 1)))
   (Af (Md (K4 hr) (pvD 1) (pvD 2) (Ao Ln (by rfl) T.len jF_ (Aa (pvD 1) Ae)) rfl))
   AH)))
   (Af (AA (A9 rfl (A3 rfl) (cp:=GS) ⟨⟨rfl,rfl⟩,rA⟩ (Tp (pvD 0)) (fun _ _ _ _=>(Ap (i:=0) Iu rfl (rC rfl))) (fun _ _ _ _=>Bd) (fun _ _ _ _=>(PR (K4 hr) (pvD 1) (pvD 0) (fun _ _=>rfl)))))))),?_⟩
  rcases b9 with ⟨ns,ha,hz,k⟩|⟨xs,ws,ha,hW,hz,k⟩
  ·nofun
   refine .inl fun d hd=>?_
   have sd:=Same.new hd (o:=.dK [])
   have cG:∀x y:Int,(rB x:Key)=rB y->x=y:=fun x y z=>Sum.inl.inj z
   obtain⟨Pv,ao⟩:∃Pv:Nat->St->Hp->Prop,∀i af H',Pv i af H'↔(∃o:Option V,Same H H'/\H' d=some (.dK (numD (fun x:Int=>(rB x:Key)) (Ay (ns.take i))))/\af=[some (.ref a),some (.ref d),o]):=⟨_,fun _ _ _=>qv_⟩
   refine .inr ⟨⟨_,sd.seqT ha⟩,forT (xs:=ns.map V.int) Pv ((ao _ _ _).mpr ⟨none,sd,Ab,rfl⟩) (fun i af H' _ h'=>by obtain⟨_,s',_⟩:=(ao _ _ _).mp h';exact s'.seqT ha) (fun i x af H' hx h'=>?_) (fun af H' h'=>?_)⟩
   ·obtain⟨o,s',dv,rfl⟩:=(ao _ _ _).mp h'
    obtain⟨n,hn,rfl⟩:=BP hx
    have lZ:=KC ns i
    have nd:=Be (ns.take i)
    have et:=DL hn
    nofun
    refine⟨_,DGet.k (k:=rB n) dv,?_⟩
    by_cases hm:n∈Ay (ns.take i)
    ·rw[Dp cG nd hm]
     simp only[zj_,wi_,jS_,qS_]
     exact (ao _ _ _).mpr ⟨_,s',by rw[et,ins1,if_pos hm];exact dv,rfl⟩
    ·rw[F6 cG hm]
     simp only[tP,z8_,xB_]
     have j9:=KA (k:=fun x:Int=>(rB x:Key)) cG hm
     refine .inl ⟨_,dv,_,DPut.k (k:=rB n) dv (by rw[DK];lia),(ao _ _ _).mpr ⟨_,s'.over hd,?_,rfl⟩⟩
     rw[Ab,et,ins1,if_neg hm,DK]
     exact jJ_ (fun z=>some (HO.dK z)) j9
   ·obtain⟨o,s',dv,rfl⟩:=(ao _ _ _).mp h'
    rw[ja_,jO_]at dv
    nofun
    obtain⟨f,hf⟩:∃f:V->V,∀n:Int,f (V.int n)=.int (((Ay ns).idxOf n:Nat):Int):=⟨fun x=>match x with | .int n=>.int (((Ay ns).idxOf n:Nat):Int)|_=>.non,fun _=>rfl⟩
    refine .inr ⟨⟨_,s'.seqT ha⟩,ES (af:=[some (.ref d)]) f rfl (s'.seqT ha) (by rw[ja_];lia) (fun x hx R hR=>?_) (fun D hD=>?_)⟩
    ·obtain⟨n,hn,rfl⟩:=CT hx
     rw[hf]at hR
     have e:=Dp (k:=fun x:Int=>(rB x:Key)) cG (Be ns) (AM.mpr hn)
     have hg:=DGet.k (k:=rB n) dv
     rw[e]at hg
     nofun
     exact⟨_,hg,hR⟩
    ·have em:(ns.map V.int).map f=(num ns).map V.int:=by
      unfold num
      rw[jR_,jR_]
      exact qo_ fun n _=>hf n
     exact k D _ (s'.newT hD) (s'.none hD) (by rw[Ab,em])
  ·nofun
   refine .inr fun d hd=>?_
   have sd:=Same.new hd (o:=.dT [])
   obtain⟨Pv,ao⟩:∃Pv:Nat->St->Hp->Prop,∀i af H',Pv i af H'↔(∃o:Option V,Same H H'/\H' d=some (.dT (numD wkey (Ay (ws.take i))))/\af=[some (.ref a),some (.ref d),o]):=⟨_,fun _ _ _=>qv_⟩
   refine .inl ⟨⟨_,sd.seq ha⟩,forL (xs:=xs) Pv ((ao _ _ _).mpr ⟨none,sd,Ab,rfl⟩) (fun i af H' _ h'=>by obtain⟨_,s',_⟩:=(ao _ _ _).mp h';exact s'.seq ha) (fun i x af H' hx h'=>?_) (fun af H' h'=>?_)⟩
   ·obtain⟨o,s',dv,rfl⟩:=(ao _ _ _).mp h'
    obtain⟨t,v,dI,rfl,ht⟩:=hW.at hx
    have lZ:=KC ws i
    have nd:=Be (ws.take i)
    have et:=DL dI
    have eL:H' t=some (.tup ((wkey v).map kV)):=by rw[Kf];exact s' _ _ ht
    nofun
    refine⟨_,DGet.t dv eL,?_⟩
    by_cases hm:v∈Ay (ws.take i)
    ·rw[Dp (fun x y z=>FJ z) nd hm]
     simp only[zj_,wi_,jS_,qS_]
     exact (ao _ _ _).mpr ⟨_,s',by rw[et,ins1,if_pos hm];exact dv,rfl⟩
    ·rw[F6 (fun x y z=>FJ z) hm]
     simp only[tP,z8_,xB_]
     refine .inr ⟨_,dv,_,DPut.t (k:=wkey v) dv eL (by rw[DK];lia),(ao _ _ _).mpr ⟨_,s'.over hd,?_,rfl⟩⟩
     rw[Ab,et,ins1,if_neg hm,DK,KA (fun x y z=>FJ z) hm]
   ·obtain⟨o,s',dv,rfl⟩:=(ao _ _ _).mp h'
    rw[hW.1,jO_]at dv
    nofun
    refine .inl ⟨⟨_,s'.seq ha⟩,IV (xs:=xs) (fun i zs ai H2=>H2=H'/\zs=((num ws).take i).map V.int/\∃o,ai=[o,some (.ref d)]) ⟨rfl,rfl,none,rfl⟩ (by rw[hW.1];lia) (fun i zs ai H2 hi h2=>⟨by rw[h2.1];exact s'.seq ha,by rw[h2.2.1,ja_,jw_];lia⟩) (fun i x zs ai H2 hx h2=>?_) (fun zs ai H2 h2 D hD=>?_)⟩
    ·obtain⟨rfl,rfl,o2,rfl⟩:=h2
     obtain⟨t,v,dI,rfl,ht⟩:=hW.at hx
     have eL:H2 t=some (.tup ((wkey v).map kV)):=by rw[Kf];exact s' _ _ ht
     have e:=Dp (fun x y z=>FJ z) (Be ws) (AM.mpr (jd_ dI))
     have hg:=DGet.t dv eL
     rw[e]at hg
     nofun
     refine⟨_,hg,?_⟩
     first
      | (refine⟨rfl,?_,_,rfl⟩;rw[jQ_,NG dI,jW_];rfl)
      | (refine⟨?_,_,rfl⟩;rw[jQ_,NG dI,jW_];rfl)
    ·obtain⟨rfl,rfl,o2,rfl⟩:=h2
     rw[hW.1,jP_ (by rw[Gn];exact ji_ _)]
     exact k D _ (s'.newT hD) (s'.none hD) Ab
def BehL (H:Hp)(mm pw pb:Addr)(aa:α2)(n:Nat)(b:α2->Nat->Int)(bs:List V)(words:α1):Prop:=bs.length=words.length/\∀(i:Nat) (w:α2),words[i]?=some w->∃t,bs[i]?=some (.ref t)/\((H t=some (.lst ((rowB n b w).map V.int))/\t≠pw/\t≠pb)\/(t=mm/\rowB n b w=aa))
def BehL.keep        (h:BehL H mm pw pb aa n b bs words)(s:∀t o,t≠pw->t≠pb->H t=some o->H' t=some o):BehL H' mm pw pb aa n b bs words:=⟨h.1,fun i w hi=>by
 obtain⟨t,e1,e2⟩:=h.2 i w hi
 exact⟨t,e1,e2.imp (fun e=>⟨s _ _ e.2.1 e.2.2 e.1,e.2⟩) id⟩⟩
def BehL.snoc {H:Hp}{mm pw pb:Addr}{aa:α2}{n:Nat}{b:α2->Nat->Int}{bs:List V}{words:α1}{t:Addr}{w:α2}(h:BehL H mm pw pb aa n b bs words)(ht:H t=some (.lst ((rowB n b w).map V.int)))(h1:t≠pw)(h2:t≠pb):BehL H mm pw pb aa n b (bs++[.ref t]) (words++[w]):=by
 refine⟨by simp[h.1],fun i r hi=>?_⟩
 by_cases hl:i<words.length
 ·rw[jk_ hl]at hi
  rw[jk_ (by rw[h.1];exact hl)]
  exact h.2 i r hi
 ·have:=(jc_.mp hi).1
  rw[jn_,jX_]at this
  have e:i=words.length:=by lia
  subst e
  rw[jt_ (ji_ _),qG_]at hi
  simp at hi
  subst hi
  exact⟨t,by rw[<-h.1];simp,.inl ⟨ht,h1,h2⟩⟩
def WC.short      (h:WC L n b words c):∀(k:Nat) (w:α2),words[k]?=some w->w.length<=k:=by
 intro k
 induction k using uF with
 |_ k ih=>
  intro w hw
  cases k with
  |zero=>
   rw[h.w0]at hw
   cases hw
   exact jY_ _
  |succ k=>
   obtain⟨j,hj⟩:=jN_.mp (h.tl (k+1) w hw (Nat.succ_pos _))
   rw[List.getElem?_take]at hj
   split at hj
   ·rename_i aq
    have:=ih j aq _ hj
    rw[uv]at this
    lia
   ·cases hj
def zipW (c m:α2):α1:=(c.zip m).map fun p=>[p.1,p.2]
def SJ (c m:α2):num (zipW c m)=num (c.zip m):=U2 _ fun p _ q _ e=>by
 have h1:=List.cons.inj e
 exact Prod.ext h1.1 (List.cons.inj h1.2).1
def Vk (K:α3):Sp:=fun vs H Q _=>∃(h:Addr) (L:Nat) (aa:α2) (ab:α1),vs=[.ref h]/\Ba K H h L aa ab/\Wf L aa ab/\∀t pw pc xs H',Same H H'->H' t=some (.tup [.ref pw,.ref pc])->H pw=none->H' pw=some (.lst xs)->AB K H' xs (wcOf aa.length L (bW aa ab)).1->H' pc=some (.lst ((wcOf aa.length L (bW aa ab)).2.map V.int))->Fin17 aa.length L (bW aa ab) (wcOf aa.length L (bW aa ab))->Q (.ref t) H'
def Fc   (F:Fun K "words_and_classes" "words_and_classes" A4 f fd)(T:Txt mg)
   (iP:⋯ 1 "numbered" E1 ["row"] (T7 K) JH Iw)
  : nofun 2 f fd ["house"] (Vk K):=by
 delta Aw
 ·obtain⟨h,L,aa,ab,rfl,_⟩:=h;rfl
 ·obtain⟨h,L,aa,ab,rfl,hh,wf,k⟩:=h
  have hl:=As
  have cH:=wf.l1
  have cX:=wf.l6
  have cn:=wf.n1
  have a9:=wf.n40
  refine⟨_,(Ac (Ak (i:=1) Aw.nd (Bt (Aa (BN Ae) Ae)))
   (Ac (Bk (i:=2) Aw.nd rfl (rG rfl) (Bt (Aa (Ag (ixTD An) (pvD 0) Ad) Ae)))
   (Ac (Ak (i:=3) Aw.nd (Ah iP hr.d AK (Aa (Ag (ixTD An) (pvD 0) Ad) Ae)))
   (Ac (Bk (i:=4) Aw.nd rfl (rG rfl) Ad)
   (Ac (EO jH_ (ptT (Ar (opD0 G2) (pvD 4) (Ao (lenD Ai) (by rfl) T.len jF_ (Aa (pvD 1) Ae)) (AE _)))
   (Ac (Bl jH_ rfl (AO rfl T.range (Aa (Ag (ixTD An) (pvD 0) Ad) Ae)) (Ap (i:=5) Aw.nd rfl (rG rfl))
   (Ac (Du (i:=6) Aw.nd rfl rfl rfl (A3 rfl) (cp:=Cv) ⟨⟨rfl,rfl⟩,⟨⟨rfl,rfl⟩,⟨⟨rfl,rfl⟩,rA⟩⟩⟩ (Ed (Ag (ixTD An) (pvD 0) Ad)) (fun _ _ _ _=>(Ap (i:=0) Dh rfl (rC rfl))) (fun _ _ _ _=>Bd) (fun _ _ _ _=>(VT (UZ (K:=K) rfl) (Ag (ixLD (Bh (K:=K) rfl)) (pvD 1) (pvD 2)) (Ag (ixTD (Br (K:=K) rfl)) (pvD 0) (pvD 3)) (fun _ _=>rfl))))
   (Ac (Ak (i:=7) Aw.nd (Ah iP hr.d AK (Aa (Ov rfl rfl T.list rfl T.zip (Aa (pvD 3) (Aa (pvD 6) Ae))) Ae)))
   (Af (Bx (ptT (Ar (opD0 Ur) (Ao (Lm rfl) rfl T.max zH_ (Aa (pvD 7) Ae)) (Ao (Lm rfl) rfl T.max zH_ (Aa (pvD 3) Ae)) (AE _)))
   (Ac (A8 (C8 jG_ jK_ jL_ AQ (pvD 1) (Aa (Am EU (BN (Aa (pvD 5) Ae)) (Ag (ixLD AS) (pvD 1) (pvD 4))) Ae)))
   (Ac (A8 (C8 jG_ jK_ jL_ AQ (pvD 2) (Aa (pvD 6) Ae)))
   (Af (Ak (i:=3) Aw.nd (pvD 7)))))
   AH)))))
   (Af (O5 (i:=4) Aw.nd rfl (rG rfl) Ad S2))))
   (Af (AA (BN (Aa (pvD 1) (Aa (pvD 3) Ae)))))))))),?_⟩
  obtain⟨mm,wv,q1,q2,ts,q3,q4,q5⟩:=id hh
  nofun
  refine⟨jY_ _,fun t0 iQ=>⟨by lia,fun pw bp=>?_⟩⟩
  have s1:=(Same.new iQ (o:=.tup [])).newT bp (o:=.lst [V.ref t0])
  have hpwH:H pw=none:=(Same.new iQ (o:=.tup [])).none bp
  have cM:upd (upd H t0 (.tup [])) pw (.lst [V.ref t0]) pw=some (.lst [V.ref t0]):=Ab
  have hW1:AB K (upd (upd H t0 (.tup [])) pw (.lst [V.ref t0])) [V.ref t0] [[]]:=⟨rfl,fun i w hi=>by
   match i,hi with
   |0,hi=>cases hi;exact⟨t0,rfl,Same.new bp _ _ Ab⟩⟩
  generalize upd (upd H t0 (.tup [])) pw (.lst [V.ref t0])=H1 at s1 cM hW1 ⊢
  refine⟨_,s1.seqT q1,_,rfl,by lia,fun pb l3=>?_⟩
  have hpbH:H pb=none:=s1.none l3
  have hpbw:pb≠pw:=fun z=>by rw[z,cM]at l3;cases l3
  have s2:=s1.newT l3 (o:=.lst [V.ref mm])
  have fu:upd H1 pb (.lst [V.ref mm]) pb=some (.lst [V.ref mm]):=Ab
  have d8:=Same.new l3 (o:=.lst [V.ref mm]) _ _ cM
  have ka:=hW1.mono (TK.new l3 (o:=.lst [V.ref mm]))
  generalize upd H1 pb (.lst [V.ref mm])=H2 at s2 fu d8 ka ⊢
  refine⟨_,s2.seqT q1,_,rfl,mm,rfl,.inl ⟨aa,s2.seqT q2,by lia,fun pc H3 s3 iR hpc3=>?_⟩⟩
  have kb:=s2.trans s3
  obtain⟨Pv,ao⟩:∃Pv:Nat->St->Hp->Prop,∀m af H',Pv m af H'↔(∃(st:StC) (k:Nat) (xs bs:List V) (pc:Addr) (o5 o6 o7:Option V),m=41-k/\Same H H'/\H' pw=some (.lst xs)/\AB K H' xs st.1/\H' pb=some (.lst bs)/\BehL H' mm pw pb aa aa.length (bW aa ab) bs st.1/\H' pc=some (.lst (st.2.map V.int))/\pc≠pw/\pc≠pb/\WS aa.length L (bW aa ab) k 0 st/\FN aa.length (bW aa ab) L (41-k) k st=wcOf aa.length L (bW aa ab)/\af=[some (.ref h),some (.ref pw),some (.ref pb),some (.ref pc),some (.int k),o5,o6,o7]):=⟨_,fun _ _ _=>qv_⟩
  have hpcw:pc≠pw:=fun z=>by rw[z,d8]at iR;cases iR
  have hpcb:pc≠pb:=fun z=>by rw[z,fu]at iR;cases iR
  refine Jn Pv ⟨_,(ao _ _ _).mpr ⟨([[]],num (rowB aa.length (bW aa ab) [])),0,[V.ref t0],[V.ref mm],pc,none,none,none,rfl,kb,s3 _ _ d8,ka.mono (TK.of s3),s3 _ _ fu,⟨rfl,fun i w hi=>?_⟩,by rw[TB];exact hpc3,hpcw,hpcb,WS.start cn,rfl,rfl⟩⟩ ?_
  ·match i,hi with
   |0,hi=>cases hi;exact⟨mm,rfl,.inr ⟨rfl,TB⟩⟩
  intro m bR H4 h4
  obtain⟨st,k0,xs,bs,pc4,o5,o6,o7,rfl,s4,c9,ig,hb4,hB4,qf,hcw4,hcb4,qg,ho4,rfl⟩:=(ao _ _ _).mp h4
  have iy:=qg.few
  nofun
  refine⟨_,.inl (SqL.of c9),?_⟩
  rw[ig.1]
  refine ite2 (fun aq=>?_) (fun bC=>?_)
  ·have hk:k0<st.1.length:=by lia
   obtain⟨w,eT⟩:∃w,st.1[k0]?=some w:=⟨st.1[k0],by simp[hk]⟩
   refine⟨Pv (41-(k0+1)),fun af H' h=>⟨_,by lia,h⟩,?_⟩
   nofun
   refine⟨_,s4.seqT q1,_,rfl,L,rfl,by lia,by lia,?_⟩
   rw[jg_]
   obtain⟨Pz,ni⟩:∃Pv:Nat->St->Hp->Prop,∀i af H',Pv i af H'↔(∃(ag:StC) (xs bs:List V) (pc:Addr) (o5 o6 o7:Option V),ag=FL aa.length (bW aa ab) w i st/\Same H H'/\H' pw=some (.lst xs)/\AB K H' xs ag.1/\H' pb=some (.lst bs)/\BehL H' mm pw pb aa aa.length (bW aa ab) bs ag.1/\H' pc=some (.lst (ag.2.map V.int))/\pc≠pw/\pc≠pb/\WS aa.length L (bW aa ab) k0 i ag/\ag.1[k0]?=some w/\af=[some (.ref h),some (.ref pw),some (.ref pb),some (.ref pc),some (.int k0),o5,o6,o7]):=⟨_,fun _ _ _=>qv_⟩
   refine forR Pz ((ni _ _ _).mpr ⟨st,xs,bs,pc4,o5,o6,o7,rfl,s4,c9,ig,hb4,hB4,qf,hcw4,hcb4,qg,eT,rfl⟩) (fun i iS H5 hi h5=>?_) (fun iS H5 h5=>?_)
   ·obtain⟨bz,nj,nk,qh,p5,p6,p7,kc,s5,fT,js,l4,l5,n0,ke,kf,fU,fF,rfl⟩:=(ni _ _ _).mp h5
    rw[zI_]
    have hfew5:=fU.few
    have hisw:=fU.wc.ok w (jd_ fF)
    obtain⟨tb,lT,htbv⟩:=l5.2 k0 w fF
    nofun
    refine⟨_,s5.seqT q1,_,rfl,wv,rfl,⟨_,s5.seqT q3⟩,UE (xs:=ts.map V.ref) (fun j zs af H'=>H'=H5/\zs=((rowB aa.length (bW aa ab) ((i:Int)::w)).take j).map V.int/\∃o,af=[o,some (.ref pb),some (.int k0),some (.int i)]) ⟨rfl,rfl,none,rfl⟩ (by rw[ja_,q4,wf.len];lia) (fun j zs af H' hj h'=>⟨by rw[h'.1];exact s5.seqT q3,by rw[h'.2.1,ja_,jw_];lia⟩) (fun j x zs af H' hx h'=>?_) (fun zs af H' h' D hD=>?_)⟩
    ·obtain⟨rfl,rfl,o,rfl⟩:=h'
     rw[je_]at hx
     cases n5:ts[j]? with
     |none=>rw[n5]at hx;cases hx
     |some tj=>
      rw[n5]at hx
      cases hx
      have hj:j<aa.length:=by rw[<-wf.len,<-q4];exact (jc_.mp n5).1
      obtain⟨row,g,r1,r2,r3,r4,r5⟩:=wf.step (show (0:Int)<=(j:Nat) by lia) s!"" (show (0:Int)<=(i:Nat) by lia) s!""
      rw[jg_]at r1 r2
      have hrow:=q5 j tj row n5 r1
      have iT:(rowB aa.length (bW aa ab) w)[g.toNat]?=some (bW aa ab ((i:Int)::w) j):=by
       rw[B2 s!"",Mu w (i:Int) j (by rw[r3];exact r4),r3]
      have nh:(rowB aa.length (bW aa ab) ((i:Int)::w))[j]?=some (bW aa ab ((i:Int)::w) j):=B2 hj
      nofun
      refine⟨_,SqL.of l4,_,Ee lT,_,s5.seqT hrow,_,AX s!"" (by rw[jg_];exact r2),?_⟩
      have bh:((rowB aa.length (bW aa ab) ((i:Int)::w)).take j).map V.int++[V.int (bW aa ab ((i:Int)::w) j)]=((rowB aa.length (bW aa ab) ((i:Int)::w)).take (j+1)).map V.int:=by rw[jQ_,nh,jW_];rfl
      rcases htbv with ⟨bo,_,_⟩|⟨iU,jt⟩
      ·exact .inl ⟨tb,rfl,_,g,rfl,SqL.of bo,_,AX r4 iT,bh,_,rfl⟩
      ·exact .inr ⟨tb,rfl,_,g,rfl,by rw[iU];exact s5.seqT q2,_,AX r4 (by have hv:=iT;rw[jt]at hv;exact hv),bh,_,rfl⟩
    ·obtain⟨rfl,rfl,o,rfl⟩:=h'
     rw[ja_,q4,wf.len,jP_ (by rw[DA];exact ji_ _)]
     have aw:bz.2.zip (rowB aa.length (bW aa ab) ((i:Int)::w)) ≠ []:=fun z=>by
      have:=jJ_ rL z
      rw[z3_,fU.wc.len,DA,tV,qt_]at this
      lia
     have eK:(zipW bz.2 (rowB aa.length (bW aa ab) ((i:Int)::w))).length=aa.length:=by
      unfold zipW
      rw[ja_,z3_,fU.wc.len,DA];lia
     refine⟨D,rfl,_,SqL.of (Same.new hD _ _ n0),_,SqL.of Ab,by rw[ja_,ja_,fU.wc.len,DA],fun l rs H6 s6 qk dm ql=>⟨l,rfl,.inr ⟨rs,zipW bz.2 (rowB aa.length (bW aa ab) ((i:Int)::w)),SqL.of Ab,⟨?_,fun j v hj=>?_⟩,by lia,fun pf H7 s7 kg gJ=>?_⟩⟩⟩
     ·rw[dm,eK,ja_,fU.wc.len]
     ·unfold zipW at hj
      rw[je_]at hj
      cases hq:(bz.2.zip (rowB aa.length (bW aa ab) ((i:Int)::w)))[j]? with
      |none=>rw[hq]at hj;cases hj
      |some p=>
       rw[hq]at hj
       cases hj
       obtain⟨u1,u2⟩:=qW_.mp (show (bz.2.zip (rowB aa.length (bW aa ab) ((i:Int)::w)))[j]?=some (p.1,p.2) from hq)
       obtain⟨t,t1,t2⟩:=ql j (V.int p.1) (V.int p.2) (by rw[je_,u1];rfl) (by rw[je_,u2];rfl)
       exact⟨t,t1,Same.new qk _ _ t2⟩
     have sD:Same H' (upd H' D (.lst ((rowB aa.length (bW aa ab) ((i:Int)::w)).map V.int))):=Same.new hD
     have iV:upd H' D (.lst ((rowB aa.length (bW aa ab) ((i:Int)::w)).map V.int)) D=some (.lst ((rowB aa.length (bW aa ab) ((i:Int)::w)).map V.int)):=Ab
     have s67:=(Same.new qk (o:=.lst rs)).trans s7
     have ju:=sD.trans (s6.trans s67)
     have n6:=(s6.trans s67) _ _ iV
     have n9:=ju _ _ fT
     have hb7:=ju _ _ l4
     have hc7:=ju _ _ n0
     have hDw:D≠pw:=fun z=>by rw[z,fT]at hD;cases hD
     have hDb:D≠pb:=fun z=>by rw[z,l4]at hD;cases hD
     have iW:H' pf=none:=sD.none (s6.none ((Same.new qk (o:=.lst rs)).none kg))
     have hpfw:pf≠pw:=fun z=>by rw[z,fT]at iW;cases iW
     have hpfb:pf≠pb:=fun z=>by rw[z,l4]at iW;cases iW
     have cO:=fU.step cn fF hi
     have eV:FL aa.length (bW aa ab) w (i+1) st=I0 aa.length (bW aa ab) w bz i:=by rw[Ih,<-kc]
     rw[SJ]at gJ
     refine⟨pf,rfl,_,SqL.of gJ,(ncl (bz.2.zip (rowB aa.length (bW aa ab) ((i:Int)::w))):Int)-1,Ki aw,(fun x hx=>by have:=NH hx;lia),_,SqL.of hc7,(ncl bz.2:Int)-1,fU.wc.top,(fun x hx=>by have:=fU.wc.rng x hx;lia),?_⟩
     refine ite2 (fun lP=>?_) (fun bg=>?_)
     ·have hgt':ncl bz.2<ncl (bz.2.zip (rowB aa.length (bW aa ab) ((i:Int)::w))):=by lia
      have qo:I0 aa.length (bW aa ab) w bz i=(bz.1++[(i:Int)::w],num (bz.2.zip (rowB aa.length (bW aa ab) ((i:Int)::w)))):=by unfold I0;rw[if_pos hgt']
      obtain⟨tw,htw1,htw2⟩:=js.2 k0 w fF
      have hwlen:=WC.short fU.wc k0 w fF
      refine⟨.inl ⟨rfl,_,SqL.of n9⟩,by lia,fun p1 bG=>⟨_,SqL.of (Same.new bG _ _ n9),_,Ee htw1,Fe.ofS Ab (Same.new bG _ _ (ju _ _ htw2)) (by simp;lia) fun q H8 s8 hq=>?_⟩⟩
      have nq:=(Same.new bG (o:=.tup [V.int i])).trans s8
      have hw8:=nq _ _ n9
      have hb8:=nq _ _ hb7
      have bX:=js.1
      have hbl:=l5.1
      refine⟨_,hw8,by lia,?_⟩
      have qp:upd H8 pw (.lst (nj++[V.ref q])) pb=some (.lst nk):=by rw[Aj hpbw];exact hb8
      have qq:=ju.trans nq
      rw[qo]at cO eV
      refine⟨.inl ⟨rfl,_,SqL.of qp⟩,_,qp,by lia,(ni _ _ _).mpr ⟨_,nj++[V.ref q],nk++[V.ref D],pf,_,_,_,eV.symm,((s5.trans qq).over hpwH).over hpbH,by rw[Aj (qs_ hpbw),Ab],(((js.mono (TK.of qq)).snoc (w:=(i:Int)::w) hq).mono (TK.lst hw8)).mono (TK.lst qp),Ab,?_,by rw[Aj hpfb,Aj hpfw];exact nq _ _ gJ,hpfw,hpfb,cO.1,cO.2,rfl⟩⟩
      exact BehL.snoc (l5.keep (fun t o t1 t2 e=>by rw[Aj t2,Aj t1];exact qq _ _ e)) (by rw[Aj hDb,Aj hDw];exact nq _ _ n6) hDw hDb
     ·have j5:¬ ncl bz.2<ncl (bz.2.zip (rowB aa.length (bW aa ab) ((i:Int)::w))):=by lia
      have qo:I0 aa.length (bW aa ab) w bz i=bz:=by unfold I0;rw[if_neg j5]
      rw[qo]at cO eV
      exact (ni _ _ _).mpr ⟨bz,nj,nk,qh,_,_,_,eV.symm,s5.trans ju,n9,js.mono (TK.of ju),hb7,l5.keep (fun t o _ _ e=>ju _ _ e),hc7,ke,kf,cO.1,cO.2,rfl⟩
   ·obtain⟨bz,nj,nk,qh,p5,p6,p7,kc,s5,fT,js,l4,l5,n0,ke,kf,fU,fF,rfl⟩:=(ni _ _ _).mp h5
    nofun
    have e41:41-k0=(41-(k0+1))+1:=by lia
    refine (ao _ _ _).mpr ⟨bz,k0+1,nj,nk,qh,_,_,_,rfl,s5,fT,js,l4,l5,n0,ke,kf,fU.next,?_,rfl⟩
    rw[kc,<-ho4,e41,Lo eT]
  ·have e:st=wcOf aa.length L (bW aa ab):=by rw[<-ho4,Ju s!""]
   have bh:=qg.fin s!""
   rw[e]at ig qf bh
   exact⟨by lia,fun p hp=>k p pw pc4 xs _ (s4.newT hp) Ab hpwH (Same.new hp _ _ c9) (ig.mono (TK.new hp)) (Same.new hp _ _ qf) bh⟩
def T8 (K:α3):Sp:=fun vs H Q _=>∃(h:Addr) (L:Nat) (aa:α2) (ab:α1),vs=[.ref h]/\Ba K H h L aa ab/\Wf L aa ab/\∀pw xs H',Same H H'->H pw=none->H' pw=some (.lst xs)->AB K H' xs (wcOf aa.length L (bW aa ab)).1->Fin17 aa.length L (bW aa ab) (wcOf aa.length L (bW aa ab))->Q (.ref pw) H'
def OU   (F:Fun K "tellers" "tellers" FV f fd)(T:Txt mg)
   (fG:⋯ 2 "words_and_classes" A4 ["house"] (Vk K) BR BM)
  : nofun 3 f fd ["house"] (T8 K):=by
 delta OQ
 ·obtain⟨h,L,aa,ab,rfl,_⟩:=h;rfl
 ·obtain⟨h,L,aa,ab,rfl,hh,wf,k⟩:=h
  refine⟨_,(Af (AA (Ag (ixTD An) (Ah fG hr.d AK (Aa (pvD 0) Ae)) Ad))),?_⟩
  nofun
  exact⟨h,L,aa,ab,rfl,hh,wf,fun t pw pc xs H' s' ht kh bp hW nr bh=>⟨t,rfl,_,SqT.of ht,_,rfl,k pw xs H' s' kh bp hW bh⟩⟩
def T9 (K:α3):Sp:=fun vs H Q _=>∃(h:Addr) (L:Nat) (aa:α2) (ab:α1),vs=[.ref h]/\Ba K H h L aa ab/\Wf L aa ab/\∀pc H',Same H H'->H' pc=some (.lst ((wcOf aa.length L (bW aa ab)).2.map V.int))->Fin17 aa.length L (bW aa ab) (wcOf aa.length L (bW aa ab))->Q (.ref pc) H'
def KD   (F:Fun K "classes_of" "classes_of" CY f fd)(T:Txt mg)
   (fG:⋯ 2 "words_and_classes" A4 ["house"] (Vk K) BR BM)
  : nofun 3 f fd ["house"] (T9 K):=by
 delta Kw
 ·obtain⟨h,L,aa,ab,rfl,_⟩:=h;rfl
 ·obtain⟨h,L,aa,ab,rfl,hh,wf,k⟩:=h
  refine⟨_,(Af (AA (Ag (ixTD An) (Ah fG hr.d AK (Aa (pvD 0) Ae)) Ad))),?_⟩
  nofun
  exact⟨h,L,aa,ab,rfl,hh,wf,fun t pw pc xs H' s' ht kh bp hW nr bh=>⟨t,rfl,_,SqT.of ht,_,rfl,k pc H' s' nr bh⟩⟩
def Iy {α:Type}[DecidableEq α]:∀(row ah:List α),∃t,BD ah row=ah++t
 |[],ah=>⟨[],by simp[BD]⟩
 |x::row,ah=>by
  obtain⟨t,ht⟩:=Iy row (ins1 ah x)
  show ∃t,BD (ins1 ah x) row=ah++t
  rw[ht]
  unfold ins1
  split
  ·exact⟨t,rfl⟩
  ·exact⟨x::t,by simp⟩
def OV  [DecidableEq α](a b:List α):∃t,Ay (a++b)=Ay a++t:=by
 unfold Ay BD
 rw[qE_]
 exact Iy b _
def KG {α:Type}[DecidableEq α]{row:List α}{i:Nat}{x:α}(h:x∈Ay (row.take i)):(Ay row).idxOf x=(Ay (row.take i)).idxOf x:=by
 obtain⟨t,ht⟩:=OV (row.take i) (row.drop i)
 rw[xc_]at ht
 rw[ht,we_,if_pos h]
def Ea (c R:α2)(n i:Nat):List V:=(rq n).map fun r:Nat=>if (r:Int)∈R.take i then V.int (hm c R r) else V.non
def F7   : (Ea c R n i).length=n:=by unfold Ea;simp
def Rj {c R:α2}{n i:Nat}{r:Int}(hr:R[i]?=some r)(h0:0<=r)(h1:r<(n:Int)):(Ea c R n i).set r.toNat (V.int (hm c R r))=Ea c R n (i+1):=by
 have et:R.take (i+1)=R.take i++[r]:=by rw[jQ_,hr];rfl
 refine qT_ fun j=>?_
 by_cases hj:j<n
 ·have e2:(Ea c R n (i+1))[j]?=some (if (j:Int)∈R.take (i+1) then V.int (hm c R j) else V.non):=by
   unfold Ea
   rw[je_,qN_ hj];rfl
  have e1:(Ea c R n i)[j]?=some (if (j:Int)∈R.take i then V.int (hm c R j) else V.non):=by
   unfold Ea
   rw[je_,qN_ hj];rfl
  rw[e2]
  by_cases e:r.toNat=j
  ·have nh:r=(j:Int):=by lia
   rw[<-e,qU_ (by rw[F7];lia),e,<-nh,if_pos (by rw[et];simp)]
  ·rw[xi_ e,e1]
   have aw:¬ (j:Int)=r:=fun z=>e s!""
   by_cases cc:(j:Int)∈R.take i
   ·rw[if_pos cc,if_pos (by rw[et];exact qc_ _ cc)]
   ·rw[if_neg cc,if_neg (by rw[et];intro z;rcases jA_.mp z with z|z;exact cc z;exact aw (ju_.mp z))]
 ·rw[jU_ (by rw[qV_,F7];lia),jU_ (by rw[F7];lia)]
def NW (K:α3):Sp:=fun vs H Q _=>∃(h:Addr) (L:Nat) (aa:α2) (ab:α1),vs=[.ref h]/\Ba K H h L aa ab/\Wf L aa ab/\∀p H',Same H H'->H p=none->H' p=some (.lst (Ea (wcOf aa.length L (bW aa ab)).2 ((Au ab).map (·.1)) aa.length ((Au ab).map (·.1)).length))->Fin17 aa.length L (bW aa ab) (wcOf aa.length L (bW aa ab))->RF L aa.length ab ((Au ab).map (·.1))->Q (.ref p) H'
def SK   (F:Fun K "homes" "homes" Kx f fd)(T:Txt mg)
   (fH:⋯ 2 "reached" Er ["house"] (GD K) Iz GF)
   (ki:⋯ 3 "classes_of" CY ["house"] (T9 K) GV F8)
  : nofun 4 f fd ["house"] (NW K):=by
 delta FW
 ·obtain⟨h,L,aa,ab,rfl,_⟩:=h;rfl
 ·obtain⟨h,L,aa,ab,rfl,hh,wf,k⟩:=h
  have hl:=As
  have a9:=wf.n40
  obtain⟨mm,wv,q1,q2,q3⟩:=id hh
  refine⟨_,(Ac (Ak (i:=1) FW.nd (Ah ki hr.d AK (Aa (pvD 0) Ae)))
   (Ac (Ak (i:=2) FW.nd Ng)
   (Ac (Ak (i:=3) FW.nd (Am PD (Bt (Aa O3 Ae)) (Ao (lenD Ai) (by rfl) T.len jF_ (Aa (Ag (ixTD An) (pvD 0) Ad) Ae))))
   (Ac (Bl jH_ rfl (AW (Ah fH hr.d AK (Aa (pvD 0) Ae))) (Ap (i:=4) FW.nd rfl (rC rfl))
   (Af (KR (Oz (pvD 2) (Ag (ixLD AS) (pvD 1) (pvD 4)) (Ao Ln (by rfl) T.len jF_ (Aa (pvD 2) Ae)) ⟨by rfl,by rfl,by rfl,by rfl⟩) (KQ (pvD 3) (pvD 4) set_list))))
   (Af (AA (pvD 3))))))),?_⟩
  nofun
  refine⟨h,L,aa,ab,rfl,hh,wf,fun pc H1 s1 nr bh=>?_⟩
  intro pd l7
  have sd:=s1.newT l7 (o:=.dK [])
  refine⟨by lia,fun p1 bG=>⟨_,(sd.newT bG).seqT q1,_,rfl,mm,rfl,_,.inr ((sd.newT bG).seqT q2),_,Ab,by lia,by rw[ja_];lia,by rw[ja_,jX_,jg_];lia,fun pt iL=>?_⟩⟩
  rw[ja_,jg_]
  have sT:=(sd.newT bG (o:=.lst [V.non])).newT iL (o:=.lst (rp aa.length [V.non]).flatten)
  have kj:H pt=none:=(sd.newT bG (o:=.lst [V.non])).none iL
  have hpdN:H pd=none:=s1.none l7
  have kl:upd (upd (upd H1 pd (.dK [])) p1 (.lst [V.non])) pt (.lst (rp aa.length [V.non]).flatten) pd=some (.dK []):=(Same.new iL) _ _ ((Same.new bG) _ _ Ab)
  have km:upd (upd (upd H1 pd (.dK [])) p1 (.lst [V.non])) pt (.lst (rp aa.length [V.non]).flatten) pt=some (.lst (rp aa.length [V.non]).flatten):=Ab
  have kn:upd (upd (upd H1 pd (.dK [])) p1 (.lst [V.non])) pt (.lst (rp aa.length [V.non]).flatten) pc=some (.lst ((wcOf aa.length L (bW aa ab)).2.map V.int)):=(Same.new iL) _ _ ((Same.new bG) _ _ ((Same.new l7) _ _ nr))
  generalize upd (upd (upd H1 pd (.dK [])) p1 (.lst [V.non])) pt (.lst (rp aa.length [V.non]).flatten)=HT at sT kl km kn ⊢
  clear sd bG iL l7 s1 nr
  refine⟨h,L,aa,ab,rfl,hh.mono sT,wf,fun pR H2 s2 da ko rf=>⟨pR,rfl,⟨_,SqL.of ko⟩,?_⟩⟩
  generalize hR:(Au ab).map (·.1)=R at ko rf k
  generalize dy:wcOf aa.length L (bW aa ab)=st at kn bh k
  have s02:=sT.trans s2
  have iX:=s2 _ _ kl
  have kq:=s2 _ _ km
  have gK:=s2 _ _ kn
  have qr:pd≠pt:=fun z=>by rw[z,kq]at iX;cases iX
  have hRt:pR≠pt:=fun z=>by rw[z,km]at da;cases da
  have hRd:pR≠pd:=fun z=>by rw[z,kl]at da;cases da
  have b8:pc≠pd:=fun z=>by rw[z,iX]at gK;cases gK
  have hct:pc≠pt:=fun z=>by
   rw[z,kq]at gK
   have bS:=bh.wc.len
   have e:=jq_ gK
   injection e with e
   have cn:=wf.n1
   have e0:=jJ_ (fun l:List V=>l[0]?) e
   obtain⟨n,hn⟩:∃n,aa.length=n+1:=⟨aa.length-1,by lia⟩
   cases hc:st.2 with
   |nil=>rw[hc]at bS;simp at bS;lia
   |cons a r=>rw[hc,hn]at e0;simp[qn_]at e0
  have cG:∀x y:Int,(rB x:Key)=rB y->x=y:=fun x y z=>Sum.inl.inj z
  obtain⟨Pv,ao⟩:∃Pv:Nat->St->Hp->Prop,∀i af H',Pv i af H'↔(∃o:Option V,Same H H'/\H' pR=some (.lst (R.map V.int))/\H' pc=some (.lst (st.2.map V.int))/\H' pd=some (.dK (numD (fun x:Int=>(rB x:Key)) (Ay ((R.map (cf st.2)).take i))))/\H' pt=some (.lst (Ea st.2 R aa.length i))/\af=[some (.ref h),some (.ref pc),some (.ref pd),some (.ref pt),o]):=⟨_,fun _ _ _=>qv_⟩
  refine forL (xs:=R.map V.int) Pv ((ao _ _ _).mpr ⟨none,s02,ko,gK,iX,?_,rfl⟩) (fun i af H' _ h'=>by obtain⟨_,_,h2,_⟩:=(ao _ _ _).mp h';exact SqL.of h2) (fun i x af H' hx h'=>?_) (fun af H' h'=>?_)
  ·rw[kq]
   congr 2
   unfold Ea
   refine qT_ fun j=>?_
   by_cases hj:j<aa.length
   ·rw[je_,qN_ hj];simp[hj]
   ·rw[jU_ (by simp;lia),jU_ (by simp;lia)]
  ·obtain⟨o,s',d9,iY,gL,gM,rfl⟩:=(ao _ _ _).mp h'
   obtain⟨r,hr,rfl⟩:=BP hx
   have fC:=jd_ hr
   have cC:=rf.rng r fC
   have m8:(R.map (cf st.2))[i]?=some (cf st.2 r):=by rw[je_,hr];rfl
   have bS:=bh.wc.len
   have lZ:=KC (R.map (cf st.2)) i
   rw[ja_]at lZ
   have qt:=rf.len
   have nd:=Be ((R.map (cf st.2)).take i)
   have et:=DL m8
   have hcat:(st.2)[r.toNat]?=some (cf st.2 r):=by unfold cf;rw[jj_];simp[show r.toNat<st.2.length by lia]
   nofun
   have ft:ixN (Ea st.2 R aa.length i).length r=some r.toNat:=by rw[F7];exact Wm cC.1 s!""
   have gN:=Rj (c:=st.2) (n:=aa.length) hr cC.1 cC.2
   refine⟨.inl ⟨_,.inl gL⟩,_,SqL.of iY,_,AX cC.1 hcat,.inl ⟨_,gL,_,rfl,_,gL,by rw[DK];lia,fun v hv=>?_,fun hn=>?_⟩⟩
   ·by_cases cc:cf st.2 r∈Ay ((R.map (cf st.2)).take i)
    ·have e:=Dp (k:=fun x:Int=>(rB x:Key)) cG nd cc
     have e2:=hv.symm.trans e
     cases e2
     have eh:hm st.2 R r=(((Ay ((R.map (cf st.2)).take i)).idxOf (cf st.2 r):Nat):Int):=by unfold hm;rw[KG cc]
     refine⟨_,gM,_,ft,(ao _ _ _).mpr ⟨_,s'.over kj,by rw[Aj hRt];exact d9,by rw[Aj hct];exact iY,by rw[Aj qr,et,ins1,if_pos cc];exact gL,by rw[Ab,<-gN,eh],rfl⟩⟩
    ·have e:=F6 (k:=fun x:Int=>(rB x:Key)) cG cc
     have e2:=hv.symm.trans e
     cases e2
   ·have cc:cf st.2 r∉Ay ((R.map (cf st.2)).take i):=fun z=>by
     have e:=Dp (k:=fun x:Int=>(rB x:Key)) cG nd z
     have e2:=hn.symm.trans e
     cases e2
    have j9:=KA (k:=fun x:Int=>(rB x:Key)) cG cc
    have eh:hm st.2 R r=((numD (fun x:Int=>(rB x:Key)) (Ay ((R.map (cf st.2)).take i))).length:Int):=by
     unfold hm
     rw[DK,KG (i:=i+1) (by rw[et,ins1,if_neg cc];simp),et,ins1,if_neg cc,Mt cc]
    have hpt2':upd H' pd (.dK (putK (numD (fun x:Int=>(rB x:Key)) (Ay ((R.map (cf st.2)).take i))) (rB (cf st.2 r)) (V.int ((numD (fun x:Int=>(rB x:Key)) (Ay ((R.map (cf st.2)).take i))).length:Int)))) pt=some (.lst (Ea st.2 R aa.length i)):=by rw[Aj (qs_ qr)];exact gM
    refine⟨_,hpt2',_,ft,(ao _ _ _).mpr ⟨_,(s'.over hpdN).over kj,by rw[Aj hRt,Aj hRd];exact d9,by rw[Aj hct,Aj b8];exact iY,?_,by rw[Ab,<-gN,eh],rfl⟩⟩
    rw[Aj qr,Ab,et,ins1,if_neg cc,DK]
    exact jJ_ (fun z=>some (HO.dK z)) j9
  ·obtain⟨o,s',d9,iY,gL,gM,rfl⟩:=(ao _ _ _).mp h'
   rw[ja_]at gM
   nofun
   exact k pt _ s' kj gM bh rf
def W6    (h:R[i]?=some r):(hm c R r=((FR c (R.take i)).length:Int))↔cf c r∉(FR c (R.take i)).map (cf c):=by
 have m8:(R.map (cf c))[i]?=some (cf c r):=by rw[je_,h];rfl
 have aj:(FR c (R.take i)).length=(Ay ((R.map (cf c)).take i)).length:=by
  have:=jJ_ rL (Ii c (R.take i))
  rw[ja_,tI]at this
  exact this
 rw[Ii,tI,aj]
 have et:=DL m8
 unfold hm
 constructor
 ·intro e cc
  rw[KG cc]at e
  have:=qO_ cc
  lia
 ·intro cc
  rw[KG (i:=i+1) (by rw[et,ins1,if_neg cc];simp),et,ins1,if_neg cc,Mt cc]
def NX {c R:α2}{n:Nat}{r:Int}(hr:r∈R)(h0:0<=r)(h1:r<(n:Int)):(Ea c R n R.length)[r.toNat]?=some (V.int (hm c R r)):=by
 unfold Ea
 rw[je_,qN_ s!"",jO_]
 have e:((r.toNat:Nat):Int)=r:=by lia
 show some (if ((r.toNat:Nat):Int)∈R then V.int (hm c R ((r.toNat:Nat):Int)) else V.non)=_
 rw[e,if_pos hr]
def AB.toRows {K:α3}{H:Hp}{w:Addr}{zs:List V}{ws:α1}(h:AB K H zs ws)(hw:SqT K H w zs):Rows K H w ws:=by
 refine⟨zs.map (fun v=>match v with | .ref t=>t|_=>0),?_,by rw[ja_];exact h.1,fun i t r hi hr=>?_⟩
 ·have e:(zs.map (fun v=>match v with | .ref t=>t|_=>0)).map V.ref=zs:=by
   rw[jR_]
   refine qT_ fun i=>?_
   rw[je_]
   by_cases hi:i<ws.length
   ·obtain⟨t,a,_⟩:=h.2 i ws[i] (by simp[hi])
    rw[a];rfl
   ·rw[jU_ (by rw[h.1];lia)];rfl
  rw[e];exact hw
 ·obtain⟨t',a,b⟩:=h.2 i r hr
  rw[je_,a]at hi
  cases hi
  exact SqT.of b
def NY (K:α3):Sp:=fun vs H Q _=>∃(h:Addr) (L:Nat) (aa:α2) (ab:α1),vs=[.ref h]/\Ba K H h L aa ab/\Wf L aa ab/\∀t H',Same H H'->Ba K H' t L (sM L aa ab) (sW L aa ab)->Q (.ref t) H'
def SM   (F:Fun K "least" "least" Ky f fd)(T:Txt mg)
   (fH:⋯ 2 "reached" Er ["house"] (GD K) Iz GF)
   (gO:⋯ 4 "homes" Kx ["house"] (NW K) Rk NZ)
  : nofun 5 f fd ["house"] (NY K):=by
 delta FX
 ·obtain⟨h,L,aa,ab,rfl,_⟩:=h;rfl
 ·obtain⟨h,L,aa,ab,rfl,hh,wf,k⟩:=h
  have hl:=As
  have a9:=wf.n40
  have cX:=wf.l6
  obtain⟨mm,wv,q1,q2,q3⟩:=id hh
  refine⟨_,(Ac (Bk (i:=1) FX.nd rfl (rG rfl) (Ah gO hr.d AK (Aa (pvD 0) Ae)))
   (Ac (Ak (i:=2) FX.nd (Bt Ae))
   (Ac (Ak (i:=3) FX.nd (Bt Ae))
   (Ac (Bl jH_ rfl (AW (Ah fH hr.d AK (Aa (pvD 0) Ae))) (Ap (i:=4) FX.nd rfl (rC rfl))
   (Af (Bx (ptT (Ar (opE B0) (Ag (ixLD AS) (pvD 1) (pvD 4)) (Ao (lenD Ai) (by rfl) T.len jF_ (Aa (pvD 2) Ae)) (AE _)))
   (Ac (A8 (C8 jG_ jK_ jL_ AQ (pvD 2) (Aa (Ag (ixTD An) (Ag (ixTD An) (pvD 0) Ad) (pvD 4)) Ae)))
   (Af (A8 (C8 jG_ jK_ jL_ AQ (pvD 3) (Aa (AD Ax rfl T.tuple jC_ (Aa (A9 rfl (A3 rfl) (cp:=LB) ⟨⟨rfl,rfl⟩,rA⟩ (Ed (Ag (ixTD An) (Ag (ixTD An) (pvD 0) Ad) (pvD 4))) (fun _ _ _ _=>(Ap (i:=0) LC rfl (rC rfl))) (fun _ _ _ _=>Bd) (fun _ _ _ _=>(Ag (ixLD (Bh (K:=K) rfl)) (pvD 1) (pvD 0)))) Ae)) Ae)))))
   AH)))
   (Af (AA (BN (Aa (Ag (ixTD An) (pvD 0) Ad) (Aa (AD Ax rfl T.tuple jC_ (Aa (pvD 2) Ae)) (Aa (AD Ax rfl T.tuple jC_ (Aa (pvD 3) Ae)) Ae)))))))))),?_⟩
  nofun
  refine⟨h,L,aa,ab,rfl,hh,wf,fun ph H1 s1 hphN l8 bh rf=>?_⟩
  generalize hR:(Au ab).map (·.1)=R at l8 rf
  generalize dy:wcOf aa.length L (bW aa ab)=st at l8 bh
  refine⟨jY_ _,fun pm bZ=>⟨jY_ _,fun pv eQ=>?_⟩⟩
  have hpmN:H pm=none:=s1.none bZ
  have s2:=(s1.newT bZ (o:=.lst [])).newT eQ (o:=.lst [])
  have hpvN:H pv=none:=(s1.newT bZ (o:=.lst [])).none eQ
  have kr:upd (upd H1 pm (.lst [])) pv (.lst []) pm=some (.lst []):=(Same.new eQ) _ _ Ab
  have ku:upd (upd H1 pm (.lst [])) pv (.lst []) pv=some (.lst []):=Ab
  have hph2:upd (upd H1 pm (.lst [])) pv (.lst []) ph=some (.lst (Ea st.2 R aa.length R.length)):=(Same.new eQ) _ _ ((Same.new bZ) _ _ l8)
  have hphm:ph≠pm:=fun z=>by rw[z,bZ]at l8;cases l8
  have og:pm≠pv:=fun z=>by rw[<-z,Ab]at eQ;cases eQ
  have hphv:ph≠pv:=fun z=>by rw[<-z,(Same.new bZ) _ _ l8]at eQ;cases eQ
  generalize upd (upd H1 pm (.lst [])) pv (.lst [])=H2 at s2 kr ku hph2 ⊢
  refine⟨h,L,aa,ab,rfl,hh.mono s2,wf,fun pR H3 s3 da ko rf2=>?_⟩
  rw[hR]at ko
  have kb:=s2.trans s3
  have hRm:pR≠pm:=fun z=>by rw[z,kr]at da;cases da
  have hRv:pR≠pv:=fun z=>by rw[z,ku]at da;cases da
  have hpm3:=s3 _ _ kr
  have hpv3:=s3 _ _ ku
  have hph3:=s3 _ _ hph2
  refine⟨pR,rfl,⟨_,SqL.of ko⟩,?_⟩
  obtain⟨Pv,ao⟩:∃Pv:Nat->St->Hp->Prop,∀i af H',Pv i af H'↔(∃(zs:List V) (o:Option V),Same H H'/\H' pR=some (.lst (R.map V.int))/\H' ph=some (.lst (Ea st.2 R aa.length R.length))/\H' pm=some (.lst (((FR st.2 (R.take i)).map (mkR aa)).map V.int))/\H' pv=some (.lst zs)/\AB K H' zs ((FR st.2 (R.take i)).map (hrow st.2 R ab))/\af=[some (.ref h),some (.ref ph),some (.ref pm),some (.ref pv),o]):=⟨_,fun _ _ _=>qv_⟩
  refine forL (xs:=R.map V.int) Pv ((ao _ _ _).mpr ⟨[],none,kb,ko,hph3,hpm3,hpv3,AB.nil,rfl⟩) (fun i af H' _ h'=>by obtain⟨_,_,_,h2,_⟩:=(ao _ _ _).mp h';exact SqL.of h2) (fun i x af H' hx h'=>?_) (fun af H' h'=>?_)
  ·obtain⟨zs,o,s',d9,iZ,dE,i3,l9,rfl⟩:=(ao _ _ _).mp h'
   obtain⟨r,hr,rfl⟩:=BP hx
   have fC:=jd_ hr
   have cC:=rf.rng r fC
   have lZ:=NM st.2 (R.take i)
   have qt:=rf.len
   rw[jw_]at lZ
   have mN:=NX (c:=st.2) (n:=aa.length) fC cC.1 cC.2
   have dB:=W6 (c:=st.2) hr
   have eFR:=QS (c:=st.2) hr
   obtain⟨row,gP,hrow2,hrow3⟩:=wf.row cC.1 cC.2
   have cw:=wf.rows row hrow2
   have jB:∀g∈row,g∈R:=fun g hg=>by
    obtain⟨x,hx⟩:=jN_.mp hg
    have bX:=(jc_.mp hx).1
    have:=rf.cls r fC x s!""
    rwa [BH gP (by rw[jg_];exact hx)]at this
   have jt:aa[r.toNat]?=some (mkR aa r):=by unfold mkR;rw[jj_];simp[show r.toNat<aa.length by lia]
   have qu:hrow st.2 R ab r=row.map (hm st.2 R):=by unfold hrow;rw[jj_,gP];rfl
   obtain⟨xs1,t1,z1,z2,z3⟩:=q3.atZ cC.1 gP
   nofun
   refine⟨_,SqL.of iZ,_,B1 cC.1 mN,_,.inl (SqL.of dE),?_⟩
   rw[ja_,ja_]
   refine⟨rfl,ite2 (fun he=>?_) (fun he=>?_)⟩
   ·have hnot:=dB.mp (V.int.inj he)
    have gQ:FR st.2 (R.take (i+1))=FR st.2 (R.take i)++[r]:=by rw[eFR,By,if_neg hnot]
    refine⟨.inl ⟨rfl,_,SqL.of dE⟩,_,s'.seqT q1,_,rfl,mm,rfl,_,s'.seqT q2,_,AX cC.1 jt,_,dE,by rw[ja_,ja_];lia,?_⟩
    have sM:=s'.over hpmN (o:=.lst (((FR st.2 (R.take i)).map (mkR aa)).map V.int++[V.int (mkR aa r)]))
    have kz:upd H' pm (.lst (((FR st.2 (R.take i)).map (mkR aa)).map V.int++[V.int (mkR aa r)])) pv=some (.lst zs):=by rw[Aj (qs_ og)];exact i3
    have kA:upd H' pm (.lst (((FR st.2 (R.take i)).map (mkR aa)).map V.int++[V.int (mkR aa r)])) ph=some (.lst (Ea st.2 R aa.length R.length)):=by rw[Aj hphm];exact iZ
    have hpRM:upd H' pm (.lst (((FR st.2 (R.take i)).map (mkR aa)).map V.int++[V.int (mkR aa r)])) pR=some (.lst (R.map V.int)):=by rw[Aj hRm];exact d9
    have hpmM:upd H' pm (.lst (((FR st.2 (R.take i)).map (mkR aa)).map V.int++[V.int (mkR aa r)])) pm=some (.lst (((FR st.2 (R.take i)).map (mkR aa)).map V.int++[V.int (mkR aa r)])):=Ab
    have hZM:=l9.mono (TK.lst dE (o:=.lst (((FR st.2 (R.take i)).map (mkR aa)).map V.int++[V.int (mkR aa r)])))
    generalize upd H' pm (.lst (((FR st.2 (R.take i)).map (mkR aa)).map V.int++[V.int (mkR aa r)]))=HM at sM kz kA hpRM hpmM hZM ⊢
    obtain⟨f,hf⟩:∃f:V->V,∀n:Int,f (V.int n)=.int (hm st.2 R n):=⟨fun x=>match x with | .int n=>.int (hm st.2 R n)|_=>.non,fun _=>rfl⟩
    refine⟨.inl ⟨rfl,_,SqL.of kz⟩,_,sM.seqT q1,_,rfl,wv,rfl,_,sM.seqT z1,_,z2,t1,rfl,⟨_,sM.seqT z3⟩,ES (af:=[some (.ref ph)]) f rfl (sM.seqT z3) (by rw[ja_];lia) (fun x hx R' jv=>?_) (fun D hD=>?_)⟩
    ·obtain⟨g,hg,rfl⟩:=CT hx
     rw[hf]at jv
     have qw:=cw.2 g hg
     nofun
     exact⟨_,SqL.of kA,_,B1 qw.1 (NX (jB g hg) qw.1 qw.2),jv⟩
    ·have em:(row.map V.int).map f=(hrow st.2 R ab r).map V.int:=by
      rw[qu,jR_,jR_]
      exact qo_ fun n _=>hf n
     rw[em]
     refine⟨D,rfl,_,.inl ⟨SqL.of Ab,fun tl qx=>?_⟩⟩
     have sX:=(Same.new hD (o:=.lst ((hrow st.2 R ab r).map V.int))).newT qx (o:=.tup ((hrow st.2 R ab r).map V.int))
     have hpvX:=sX _ _ kz
     have eK:zs.length<=1000:=by rw[l9.1,ja_];lia
     refine⟨_,hpvX,by lia,(ao _ _ _).mpr ⟨zs++[V.ref tl],_,(sM.trans sX).over hpvN,by rw[Aj hRv];exact sX _ _ hpRM,by rw[Aj hphv];exact sX _ _ kA,?_,Ab,?_,rfl⟩⟩
     ·rw[Aj og,sX _ _ hpmM,gQ,jW_,jW_];rfl
     ·rw[gQ,jW_]
      exact ((hZM.mono (TK.of sX)).snoc (w:=hrow st.2 R ab r) Ab).mono (TK.lst hpvX)
   ·have bP:cf st.2 r∈(FR st.2 (R.take i)).map (cf st.2):=Decidable.byContradiction fun z=>he (by rw[dB.mpr z])
    have gQ:FR st.2 (R.take (i+1))=FR st.2 (R.take i):=by rw[eFR,By,if_pos bP]
    exact (ao _ _ _).mpr ⟨zs,_,s',d9,iZ,by rw[gQ];exact dE,i3,by rw[gQ];exact l9,rfl⟩
  ·obtain⟨zs,o,s',d9,iZ,dE,i3,l9,rfl⟩:=(ao _ _ _).mp h'
   rw[ja_,jO_]at dE l9
   nofun
   refine⟨_,s'.seqT q1,_,rfl,_,.inl ⟨SqL.of dE,fun tm iU=>⟨_,.inl ⟨SqL.of ((Same.new iU) _ _ i3),fun tw nu=>⟨by lia,fun t ht=>?_⟩⟩⟩⟩⟩
   have sE:=((Same.new iU (o:=.tup (((FR st.2 R).map (mkR aa)).map V.int))).newT nu (o:=.tup zs)).newT ht (o:=.tup [V.int L,V.ref tm,V.ref tw])
   subst hR dy
   exact k t _ (s'.trans sE) ⟨tm,tw,SqT.of Ab,SqT.of ((Same.new ht) _ _ ((Same.new nu) _ _ Ab)),AB.toRows (l9.mono (TK.of sE)) (SqT.of ((Same.new ht) _ _ Ab))⟩
abbrev LamH (K:α3)(H:Hp):Prop:=LamT (tabP K "in_order") FY (Str.ofString "in_order" ++ ".<locals>.") H
def F9 {K:α3}{H:Hp}:∀{us:α1} {xs:List V},AB K H xs us->∃os:List aS.Wd,xs=aS.wv os/\os.map (·.2)=us/\∀w∈os,H w.1=some (.tup (w.2.map V.int))
 |[],xs,h=>⟨[],List.length_eq_zero_iff.mp h.1,rfl,fun w hw=>by cases hw⟩
 |u::us,xs,h=>by
  obtain⟨t,h1,h2⟩:=h.2 0 u rfl
  match xs,h with
  |[],h=>exact absurd h.1 (by simp)
  |x::xs,h=>
   have e:x=V.ref t:=by simpa using h1
   obtain⟨os,e1,e2,e3⟩:=F9 (K:=K) (H:=H) (us:=us) (xs:=xs) ⟨by simpa using h.1,fun i w hw=>h.2 (i+1) w (by simpa using hw)⟩
   refine⟨(t,u)::os,by rw[e,e1];rfl,by simp[e2],fun w hw=>?_⟩
   rcases jD_.mp hw with rfl|hw
   ·exact h2
   ·exact e3 w hw
def WsT (H:Hp)(os:List aS.Wd):Prop:=∀w∈os,H w.1=some (.tup (w.2.map V.int))
def Ua (K:α3):Sp:=fun vs H Q _=>∃(a:Addr) (xs:List V) (ws:α1),vs=[.ref a]/\SqL K H a xs/\AB K H xs ws/\ws.length<sizeLine/\LamH K H /\
 ∀D H' os,Cj (tabP K "in_order") H H'->LamH K H'->H D=none->H' D=some (.lst (aS.wv os))->WsT H' os->(os.map (·.2)).Perm (ws.foldl ins [])->aS.Srt os->Q (.ref D) H'
def MT   (F:FunL K mg base "in_order" "in_order" Ck f fd)(T:Txt mg)
  : nofun 4 f fd ["words"] (Ua K):=by
 refine F.ok Fw (fun vs H Q E h=>?_) (fun ay b8 A outer s H vs Q E hr h=>?_)
 ·obtain⟨a,xs,ws,rfl,_⟩:=h;rfl
 ·obtain⟨a,xs,ws,rfl,hs,hW,hz,hT,k⟩:=h
  have hl:=As
  refine⟨_,(Ac (Bk (i:=1) Fw.nd rfl (rC rfl) Nh)
   (Ac (Bl jH_ rfl (AW (pvD 0)) (Ap (i:=2) Fw.nd rfl (rC rfl))
   (Af (Md (K4 hr) (pvD 1) (pvD 2) L6 rfl)))
   (Af (AA (OM (k:=0) (c:=tabC K "in_order") (P:=tabP K "in_order") (lp:=FY) (qual:=Str.ofString "in_order" ++ ".<locals>.") hr rfl T.sorted T.len b8 F.C F.B (Aa (AD (Ib rfl) rfl T.list xs_ (Aa (pvD 1) Ae)) Ae)))))),?_⟩
  nofun
  intro p hp
  have sp:=Same.new (o:=.dT []) hp
  refine⟨⟨_,sp.seq hs⟩,?_⟩
  obtain⟨Py,nv⟩:∃Pv:Nat->St->Hp->Prop,∀j af H',Pv j af H'↔(∃(kvs:List (List Key×V)) (o':Option V),Same H H'/\H' p=some (.dT kvs)/\E6 ((ws.take j).foldl ins []) kvs/\af=[some (.ref a),some (.ref p),o']):=⟨_,fun _ _ _=>qv_⟩
  refine forL (xs:=xs) Py ((nv _ _ _).mpr ⟨[],_,sp,Ab,by rw[z9_];exact E6.nil,rfl⟩) (fun j af H' _ h'=>by obtain⟨_,_,s',_⟩:=(nv _ _ _).mp h';exact s'.seq hs) (fun j y aE H3 hy h3=>?_) (fun aE H3 h3=>?_)
  ·obtain⟨kvs,o',s3,hd,hk,rfl⟩:=(nv _ _ _).mp h3
   obtain⟨u,v,dI,rfl,hu⟩:=hW.at hy
   have hj:j<ws.length:=(jc_.mp dI).1
   have aj:kvs.length<sizeLine:=by
    have h1:=CJ (ws.take j) []
    rw[hk.len]
    rw[jw_,qt_]at h1
    lia
   nofun
   have hX:H3 u=some (.tup ((wkey v).map kV)):=by rw[Kf];exact s3 _ _ hu
   refine⟨_,DPut.t (k:=wkey v) hd hX s!"",(nv _ _ _).mpr ⟨_,_,s3.over hp,Ab,?_,rfl⟩⟩
   rw[jQ_,dI,qu_,qE_]
   exact hk.put _ _
  ·obtain⟨kvs,o',s3,hd,hk,rfl⟩:=(nv _ _ _).mp h3
   rw[hW.1,jO_]at hk
   nofun
   refine⟨kvs,.inl hd,fun l rs m5 dm ql=>?_⟩
   have hWr:AB K (upd H3 l (.lst rs)) rs (ws.foldl ins []):=(hk.words (K:=K) dm ql).mono (TK.new m5)
   obtain⟨qy,e1,e2,e3⟩:=F9 hWr
   have s4:Same H (upd H3 l (.lst rs)):=s3.newT m5
   have qz:=hT.mono s4
   have aj:qy.length<sizeLine:=by
    have h1:=jJ_ rL e2
    have h2:=CJ ws []
    rw[ja_]at h1
    rw[qt_]at h2
    lia
   have qA:SqL K (upd H3 l (.lst rs)) l (aS.wv qy):=by rw[<-e1];exact SqL.of Ab
   generalize upd H3 l (.lst rs)=H4 at hWr e3 s4 qz qA ⊢
   refine⟨qy,qA,fun w hw=>SqT.of (e3 w hw),aj,qz,fun H5 D os s5 hL5 jw hD cJ kB=>?_⟩
   refine k D H5 os (fun b o hb e=>s5 b o hb (s4 b o e)) hL5 (Same.none s4 jw) hD (fun w hw=>?_) ?_ kB
   ·have h1:=e3 w (cJ.mem_iff.mp hw)
    obtain⟨_,hT5⟩:=qz.is
    exact s5.ne h1 (fun _ z=>by cases z) hT5
   ·have:=cJ.map (·.2)
    rw[e2]at this
    exact this
def Ub (K:α3)(H:Hp)(e:Addr)(n:Nat)(E:Nat->α1):Prop:=∃es:List V,H e=some (.lst es)/\∀r,r<n->∃q ys,es[r]?=some (.ref q)/\H q=some (.lst ys)/\AB K H ys (E r)
def wayW (ab:α1)(r:Nat):α2:=(((Au ab).find? fun e=>e.1==(r:Int)).getD (0,[])).2
def MU {ab:α1}(nod:((Au ab).map (·.1)).Nodup){r:Nat}{w:α2}(h:((r:Int),w)∈Au ab):wayW ab r=w:=by
 unfold wayW
 cases hf:(Au ab).find? fun e=>e.1==(r:Int) with
 |none=>exact absurd (xX_.mp hf _ h) (by simp)
 |some e=>
  have h1:=z4_ hf
  have h2:=q9_ hf
  have e1:e.1=(r:Int):=by simpa using h1
  obtain⟨i,hi,ei⟩:=jV_ h2
  obtain⟨j,hj,ej⟩:=jV_ h
  have ij:i=j:=(xV_ (h₀:=by simpa using hi) (h₁:=by simpa using hj) nod).mp (by simp[ei,ej,e1])
  subst ij
  rw[ei]at ej
  rw[uw,ej]
def oneW (ab:α1)(E:Nat->α1)(r:Nat)(m:α2):α1:=(E (Az ab (wayW ab r++m)).toNat).map ((wayW ab r++m) ++ ·)
def allW (ab:α1)(n:Nat)(df:α1)(E:Nat->α1):α1:=(rq n).flatMap fun r=>df.flatMap (oneW ab E r)
abbrev Dq (L:Int)(m:Nat):α1:=(rq (many L (m+2)).toNat).map (nth L)
def Ga {α β:Type}{f:α->List β}{c:Nat}:∀(l:List α),(∀x∈l,(f x).length<=c)->(l.flatMap f).length<=l.length*c
 |[],_=>by simp
 |x::l,h=>by
  have h1:=h x jp_
  have h2:=Ga l (fun y hy=>h y (jl_ _ hy))
  rw[List.flatMap_cons,jn_,jT_,vA]
  lia
def OW {K:α3}    (h:AB K H xs us)(g:AB K H ys vs):AB K H (xs++ys) (us++vs):=by
 refine⟨by rw[jn_,jn_,h.1,g.1],fun i w hw=>?_⟩
 by_cases hi:i<us.length
 ·rw[jk_ hi]at hw
  obtain⟨t,a,b⟩:=h.2 i w hw
  exact⟨t,by rw[jk_ (by rw[h.1];exact hi)];exact a,b⟩
 ·rw[jt_ s!""]at hw
  obtain⟨t,a,b⟩:=g.2 _ w hw
  exact⟨t,by rw[jt_ (by rw[h.1];lia),h.1];exact a,b⟩
def Rl (K:α3):Sp:=fun vs H Q _=>∃(h e:Addr) (L:Int) (m:Nat) (aa:α2) (ab:α1) (E:Nat->α1),vs=[.ref h,.int m,.ref e]/\Ba K H h L aa ab/\Wf L aa ab/\m<=3/\many L (m+2)<=341/\Ub K H e aa.length E/\(∀r,r<aa.length->(E r).length<=40/\∀w∈E r,w.length<=40)/\(∀r:Nat,r<aa.length->(r:Int)∈(Au ab).map (·.1))/\LamH K H /\
 ∀D H' os,Cj (tabP K "in_order") H H'->LamH K H'->H D=none->H' D=some (.lst (aS.wv os))->WsT H' os->(os.map (·.2)).Perm ((allW ab aa.length (Dq L m) E).foldl ins [])->aS.Srt os->Q (.ref D) H'
def KH   (F:Fun K "words_with" "words_with" CZ f fd)(T:Txt mg)
   (kC:⋯ 4 "words_to" EZ ["letters","most"] (T6 K) JI IA)
   (fA:⋯ 4 "room_behind" B4 ["house","word"] (MO K) DJ C5)
   (kD:⋯ 2 "ways_in" FU ["house"] (LG K) LH JJ)
   (kF:⋯ 4 "in_order" Ck ["words"] (Ua K) E2 Vl)
  : nofun 5 f fd ["base","more","ends"] (Rl K):=by
 delta B6
 ·obtain⟨h,e,L,m,aa,ab,E,rfl,_⟩:=h;rfl
 ·obtain⟨h,e,L,m,aa,ab,E,rfl,hh,wf,hm,cN,hE,hEl,aA,hT,k⟩:=h
  have hl:=As
  have cH:=wf.l1
  have cX:=wf.l6
  have a9:=wf.n40
  refine⟨_,(Ac (Ak (i:=3) B6.nd (Bt Ae))
   (Ac (Bl jH_ rfl (AW (Ah kD hr.d AK (Aa (pvD 0) Ae))) (Ap (i:=4) B6.nd rfl (rC rfl))
   (Af (Bl jH_ rfl (AW (Ah kC hr.d AK (Aa (Ag (ixTD An) (pvD 0) Ad) (Aa (Am (opD0 AV) (pvD 1) Ad) Ae)))) (Ap (i:=5) B6.nd rfl (rC rfl))
   (Ac (Bk (i:=6) B6.nd rfl (rG rfl) (Am EU (pvD 4) (pvD 5)))
   (Af (A8 (C8 jG_ vp vq Px (pvD 3) (Aa (A9 rfl (A3 rfl) (cp:=Ff) ⟨⟨rfl,rfl⟩,rA⟩ (AW (Ag (ixLD AS) (pvD 2) (Ah fA hr.d AK (Aa (pvD 0) (Aa (pvD 6) Ae))))) (fun _ _ _ _=>(Ap (i:=0) Gv rfl (rC rfl))) (fun _ _ _ _=>Bd) (fun _ _ _ _=>(Am (QF (K:=K) rfl) (pvD 1) (pvD 0)))) Ae))))))))
   (Af (AA (Ah kF hr.d AK (Aa (pvD 3) Ae)))))),?_⟩
  nofun
  refine⟨by lia,fun p hp=>?_⟩
  have s0:=Same.new (o:=.lst []) hp
  refine⟨h,L,aa,ab,rfl,hh.mono s0,wf,fun d top H1 s1 hdn hWS bf=>?_⟩
  obtain⟨xs,hd,bX,hxs⟩:=hWS
  have s01:=s0.trans s1
  have bG:=s1 _ _ (Ab (H:=H) (a:=p) (o:=.lst []))
  have l7:d≠p:=(AI hdn).2
  refine⟨d,rfl,⟨_,SqL.of hd⟩,?_⟩
  have hmL:(Dq L m).length<=341:=by
   rw[ja_,qh_];lia
  have hone:∀(r:Nat) (v:α2),r<aa.length->isW L (wayW ab r++v)=true->(oneW ab E r v).length<=40:=fun r v hr hv=>by
   have h1:=wf.walk hv (wayW ab r++v).length
   rw[jO_]at h1
   unfold oneW
   rw[ja_]
   exact (hEl _ s!"").1
  have hway:∀r,r<aa.length->∃t,xs[r]?=some (.ref t)/\H1 t=some (.tup ((wayW ab r).map V.int))/\isW L (wayW ab r)=true/\(wayW ab r).length<=40:=fun r hr=>by
   rcases hxs r hr with ⟨w,t,a,b,c⟩|⟨a,_⟩
   ·rw[MU bf.nod a]
    obtain⟨j,hj⟩:=jN_.mp a
    have h1:=bf.sh j _ hj
    have h2:=(jc_.mp hj).1
    have h3:=bf.len
    exact⟨t,b,c,(bf.wd _ a).1,by dsimp only at h1;lia⟩
   ·exact absurd (aA r hr) a
  have og:∀v∈Dq L m,isW L v=true:=fun v hv=>by
   obtain⟨k',_,rfl⟩:=jv_.mp hv
   exact C9 (show 0<L by lia) k'
  have happ:∀r,r<aa.length->∀v,isW L v=true->isW L (wayW ab r++v)=true:=fun r hr v hv=>by
   obtain⟨_,_,_,ny,_⟩:=hway r hr
   rw[Av]at ny hv ⊢
   intro x hx
   rcases jA_.mp hx with hx|hx
   ·exact ny x hx
   ·exact hv x hx
  have hb1:∀r,r<aa.length->∀j,(((Dq L m).take j).flatMap (oneW ab E r)).length<=13640:=fun r hr j=>by
   have h1:=Ga (f:=oneW ab E r) (c:=40) ((Dq L m).take j) (fun v hv=>hone r v hr (happ r hr v (og v (xk_ hv))))
   have h2:((Dq L m).take j).length<=341:=qp_ (by rw[jw_];lia) hmL
   lia
  have fu:∀i,i<=aa.length->((rq i).flatMap fun r=>(Dq L m).flatMap (oneW ab E r)).length<=545600:=fun i hi=>by
   have h1:=Ga (f:=fun r=>(Dq L m).flatMap (oneW ab E r)) (c:=13640) (rq i) (fun r hr=>by
    have:=hb1 r (by have:=jE_.mp hr;lia) (Dq L m).length
    rw[jO_]at this
    exact this)
   rw[qh_]at h1
   have h2:i*13640<=40*13640:=tD _ s!""
   lia
  obtain⟨Pv,ao⟩:∃Pv:Nat->St->Hp->Prop,∀i af H',Pv i af H'↔(∃(ys:List V) (o4 o5 o6:Option V),Same H H'/\TK H1 H'/\H' d=some (.lst xs)/\H' p=some (.lst ys)/\AB K H' ys ((rq i).flatMap fun r=>(Dq L m).flatMap (oneW ab E r))/\af=[some (.ref h),some (.int m),some (.ref e),some (.ref p),o4,o5,o6]):=⟨_,fun _ _ _=>qv_⟩
  refine forL (xs:=xs) Pv ((ao _ _ _).mpr ⟨[],none,none,none,s01,TK.refl _,hd,bG,AB.nil,rfl⟩) (fun i af H' _ h'=>by obtain⟨_,_,_,_,_,_,q,_⟩:=(ao _ _ _).mp h';exact SqL.of q) (fun i x ai H2 hx h2=>?_) (fun ai H2 h2=>?_)
  ·obtain⟨ys,o4,o5,o6,s2,qB,f9,aY,ka,rfl⟩:=(ao _ _ _).mp h2
   have hi:i<aa.length:=by rw[<-bX];exact (jc_.mp hx).1
   obtain⟨t,ik,ht,ny,dj⟩:=hway i hi
   rw[hx]at ik
   cases ik
   nofun
   obtain⟨mm,wv,q1,q2,q3⟩:=id hh
   refine⟨_,s2.seqT q1,_,rfl,L,m+1,by rw[Int.natCast_add];rfl,cH,cX,by lia,by show many L (m+2)<=4000;lia,fun pm zs H3 s3 hpmn bZ hWm=>⟨pm,rfl,⟨_,SqL.of bZ⟩,?_⟩⟩
   have hWm':AB K H3 zs (Dq L m):=hWm
   have hppm:pm≠p:=fun z=>by rw[z,aY]at hpmn;cases hpmn
   have hpH:H p=none:=hp
   obtain⟨Pw,cx⟩:∃Pv:Nat->St->Hp->Prop,∀j af H',Pv j af H'↔(∃(fI:List V) (o5 o6:Option V),Same H H'/\TK H3 H'/\H' d=some (.lst xs)/\H' pm=some (.lst zs)/\H' p=some (.lst fI)/\AB K H' fI (((rq i).flatMap fun r=>(Dq L m).flatMap (oneW ab E r))++((Dq L m).take j).flatMap (oneW ab E i))/\af=[some (.ref h),some (.int m),some (.ref e),some (.ref p),some (.ref t),o5,o6]):=⟨_,fun _ _ _=>qv_⟩
   refine forL (xs:=zs) Pw ((cx _ _ _).mpr ⟨ys,o5,o6,s2.trans s3,TK.refl _,s3 _ _ f9,bZ,s3 _ _ aY,by rw[z9_,List.flatMap_nil,ql_];exact ka.mono (TK.of s3),rfl⟩) (fun j af H' _ h'=>by obtain⟨_,_,_,_,_,_,q,_⟩:=(cx _ _ _).mp h';exact SqL.of q) (fun j y bR H4 hy h4=>?_) (fun bR H4 h4=>?_)
   ·obtain⟨fI,o5,o6,s4,nz,qC,hpm4,eO,ig,rfl⟩:=(cx _ _ _).mp h4
    obtain⟨u,v,hvj,rfl,hu⟩:=hWm'.at hy
    have hvm:isW L v=true/\v.length<=4:=by
     obtain⟨k',dk,rfl⟩:=jv_.mp (jd_ hvj)
     have hv:=C9 (show 0<L by lia) k'
     refine⟨hv,?_⟩
     have h1:=(EV (show 0<L by lia) hv (m+1)).mpr (by
      rw[Ek]
      have:=jE_.mp dk
      show (k':Int)<many L (m+2)
      lia)
     lia
    have ht4:=nz _ _ (TK.of s3 _ _ (qB _ _ ht))
    have hu4:=nz _ _ hu
    nofun
    refine Fe.ofS ht4 hu4 (by simp;lia) fun q H5 s5 hq=>?_
    have md:isW L (wayW ab i++v)=true:=by
     rw[Av]at ny ⊢
     intro x hx
     rcases jA_.mp hx with hx|hx
     ·exact ny x hx
     ·exact Av.mp hvm.1 x hx
    have hX:H5 q=some (.tup ((wayW ab i++v).map V.int)):=by rw[hq,jW_]
    nofun
    have cJ:=s5 _ _ eO
    refine⟨.inl ⟨rfl,_,SqL.of cJ⟩,h,q,L,aa,ab,wayW ab i++v,rfl,hh.mono (s4.trans s5),wf,SqT.of hX,by rw[jn_];lia,fun _ H6 s6=>?_,fun hf=>by rw[md]at hf;cases hf⟩
    have fV:=wf.walk md (wayW ab i++v).length
    rw[jO_]at fV
    obtain⟨es,lX,pH⟩:=id hE
    obtain⟨pe,ye,hpe,hye,hWe⟩:=pH (Az ab (wayW ab i++v)).toNat s!""
    have hEr:=hEl (Az ab (wayW ab i++v)).toNat s!""
    have qD:=(s4.trans s5).trans s6
    have hye6:=qD _ _ hye
    have hWe6:=hWe.mono (TK.of qD)
    have iI:=hWe.1
    refine⟨es,_,rfl,SqL.of (qD _ _ lX),_,B1 s!"" hpe,pe,rfl,⟨_,SqL.of hye6⟩,?_⟩
    refine IV (xs:=ye) (fun j' b7 af H'=>Same H6 H'/\AB K H' b7 (((E (Az ab (wayW ab i++v)).toNat).take j').map ((wayW ab i++v) ++ ·))/\∃o,af=[o,some (.ref q)]) ⟨Same.refl _,AB.nil,none,rfl⟩ s!"" (fun j' b7 af H' cB h'=>⟨SqL.of (h'.1 _ _ hye6),by have:=h'.2.1.1;rw[ja_,jw_]at this;lia⟩) (fun j' x' b7 af H' fi h'=>?_) (fun b7 af H' h' D hD=>?_)
    ·obtain⟨s7,fW,o,rfl⟩:=h'
     obtain⟨u',v',nA,rfl,jh⟩:=hWe6.at fi
     have qE:=hEr.2 v' (jd_ nA)
     nofun
     refine Fe.ofS (s7 _ _ (s6 _ _ hX)) (s7 _ _ jh) (by simp;lia) fun q2 H8 s8 cV=>⟨s7.trans s8,?_,_,rfl⟩
     rw[jQ_,nA,qu_,jW_]
     exact (fW.mono (TK.of s8)).snoc (by rw[cV];simp)
    ·obtain⟨s7,fW,o,_⟩:=h'
     rw[iI,jO_]at fW
     have qF:upd H' D (.lst b7) p=some (.lst fI):=by
      have:=s7 _ _ (s6 _ _ cJ)
      rw[Aj (Aq this hD)];exact this
     have s7D:Same H6 (upd H' D (.lst b7)):=s7.newT hD
     have n6:upd H' D (.lst b7) D=some (.lst b7):=Ab
     have iF:AB K (upd H' D (.lst b7)) b7 _:=fW.mono (TK.new hD)
     generalize upd H' D (.lst b7)=H9 at qF s7D n6 iF ⊢
     have nB:=(s5.trans s6).trans s7D
     have s49:=s4.trans nB
     have bo:=ig.1
     have bE:=iF.1
     rw[jn_]at bo
     rw[ja_]at bE
     have hb3:=hb1 i hi j
     have hb4:=fu i s!""
     have kT:TK H9 (upd H9 p (.lst (fI++b7))):=TK.lst qF
     refine⟨D,rfl,fI,qF,b7,n6,by lia,(cx _ _ _).mpr ⟨fI++b7,_,_,s49.over hpH,(nz.trans (TK.of nB)).trans kT,by rw[Aj l7];exact nB _ _ qC,by rw[Aj hppm];exact nB _ _ hpm4,Ab,?_,rfl⟩⟩
     rw[jQ_,hvj,qu_,tG,<-qg_]
     refine OW ((ig.mono (TK.of nB)).mono kT) ?_
     have e1:[v].flatMap (oneW ab E i)=(E (Az ab (wayW ab i++v)).toNat).map ((wayW ab i++v) ++ ·):=by simp[oneW]
     rw[e1]
     exact iF.mono kT
   ·obtain⟨fI,o5,o6,s4,nz,qC,hpm4,eO,ig,rfl⟩:=(cx _ _ _).mp h4
    refine (ao _ _ _).mpr ⟨fI,_,_,_,s4,(qB.trans (TK.of s3)).trans nz,qC,eO,?_,rfl⟩
    have:(Dq L m).take zs.length=Dq L m:=jP_ (by rw[hWm'.1];exact ji_ _)
    rw[this]at ig
    rw[x1_,tG]
    simpa using ig
  ·obtain⟨ys,o4,o5,o6,s2,qB,f9,aY,ka,rfl⟩:=(ao _ _ _).mp h2
   rw[bX]at ka
   nofun
   refine⟨p,ys,_,rfl,SqL.of aY,ka,?_,hT.mono s2,fun D H3 os s3 hL3 jw hD dJ bZ hs=>?_⟩
   ·have:=fu aa.length (ji_ _)
    lia
   ·exact k D H3 os (fun b o hb e=>s3 b o hb (s2 b o e)) hL3 (Same.none s2 jw) hD dJ bZ hs
def Uc      (h:WC L n b words c):∀(k:Nat) (w:α2),words[k]?=some w->w.length<=k:=by
 intro k
 induction k using uF with
 |ind k ih=>
  intro w hw
  by_cases hk:k=0
  ·subst hk
   rw[h.w0]at hw
   cases hw
   simp
  ·have ht:=h.tl k w hw s!""
   obtain⟨j,hj⟩:=jN_.mp ht
   have ji:j<k:=by
    have:=(jc_.mp hj).1
    rw[jw_]at this
    lia
   rw[xJ_ ji]at hj
   have:=ih j ji _ hj
   rw[uv]at this
   lia
def N0 (L:Nat)(aa:α2)(ab:α1)(m:Nat):α1:=allW (sW L aa ab) (sM L aa ab).length (Dq (L:Int) m) fun _=>(wcOf (sM L aa ab).length L (bW (sM L aa ab) (sW L aa ab))).1
def ownF (b:α2->Nat->Int)(r:Nat):α1->List Nat->α1
 |[],_=>[]
 |v::ws,left=>(if (left.filter fun o=>decide (b v o=b v r)).length<left.length then [v] else [])++ownF b r ws (left.filter fun o=>decide (b v o=b v r))
def Gb (b:α2->Nat->Int)(r n:Nat)(ws:α1):List Nat:=ws.foldl (fun left v=>left.filter fun o=>decide (b v o=b v r)) (rq n)
def ownW (n:Nat)(b:α2->Nat->Int)(ws:α1)(r:Nat):α1:=[]::ownF b r ws (rq n)
def Rm {b:α2->Nat->Int}{r:Nat}{v:α2}(left:List Nat):(left.filter fun o=>decide (b v o=b v r)).length<left.length ↔ ∃o∈left,b v o≠b v r:=by
 constructor
 ·intro h
  refine j2_ fun z=>?_
  have:=(zr_ (p:=fun o=>decide (b v o=b v r)) (l:=left)).mpr fun o ho=>qb_ (j2_ fun y=>z ⟨o,ho,y⟩)
  lia
 ·rintro⟨o,ho,aw⟩
  refine Nat.lt_of_not_le fun h=>?_
  have:=zr_.mp (Nat.le_antisymm (x2_ _ _) h) o ho
  exact aw (qr_ this)
def HI {b:α2->Nat->Int}{r:Nat}{w:α2}:∀(ws:α1) (left:List Nat),w∈ownF b r ws left ↔ ∃o∈left,ws.find? (fun v=>decide (b v o≠b v r))=some w
 |[],left=>by simp[ownF]
 |v::ws,left=>by
  unfold ownF
  rw[jA_,HI ws]
  constructor
  ·rintro (h|⟨o,ho,h⟩)
   ·split at h
    ·rename_i aq
     obtain⟨o,ho,aw⟩:=(Rm left).mp aq
     rw[ju_.mp h]
     exact⟨o,ho,by simp[xp_,aw]⟩
    ·cases h
   ·obtain⟨ho,he⟩:=xo_.mp ho
    have he:=qr_ he
    exact⟨o,ho,by rw[sJ (by simp[he])];exact h⟩
  ·rintro⟨o,ho,h⟩
   by_cases aw:b v o=b v r
   ·rw[sJ (by simp[aw])]at h
    exact .inr ⟨o,xo_.mpr ⟨ho,qb_ aw⟩,h⟩
   ·have h:v=w:=by simpa [xp_,aw] using h
    subst h
    left
    rw[if_pos ((Rm left).mpr ⟨o,ho,aw⟩)]
    exact jp_
def HJ {b:α2->Nat->Int}{r:Nat}:∀(ws:α1) (left:List Nat),r∈left->(ownF b r ws left).length+1<=left.length
 |[],left,h=>by
  have:=qH_ h
  simp only[ownF,qt_];lia
 |v::ws,left,h=>by
  have h2:=HJ (b:=b) (r:=r) ws (left.filter fun o=>decide (b v o=b v r)) (xo_.mpr ⟨h,by simp⟩)
  unfold ownF
  rw[jn_]
  split
  ·simp only[jX_];lia
  ·rename_i hh
   have:=x2_ (fun o=>decide (b v o=b v r)) left
   simp only[qt_];lia
def KI {b:α2->Nat->Int}{r:Nat}{w:α2}{ws:α1}{left:List Nat}(h:w∈ownF b r ws left):w∈ws:=by
 obtain⟨o,_,h⟩:=(HI ws left).mp h
 exact q9_ h
def LI {b:α2->Nat->Int}{r:Nat}{v:α2}:∀(ws:α1) (left:List Nat) (i:Nat),ws[i]?=some v->ownF b r (ws.take (i+1)) left=ownF b r (ws.take i) left++(if (((ws.take i).foldl (fun left v=>left.filter fun o=>decide (b v o=b v r)) left).filter fun o=>decide (b v o=b v r)).length<((ws.take i).foldl (fun left v=>left.filter fun o=>decide (b v o=b v r)) left).length then [v] else [])
 |[],left,i,h=>by simp at h
 |u::ws,left,0,h=>by
  have h:u=v:=by simpa using h
  subst h
  simp[ownF]
 |u::ws,left,i+1,h=>by
  rw[tH,tH,ownF,ownF,q1_,LI ws _ i (by simpa using h),qg_]
def LJ {b:α2->Nat->Int}{r:Nat}:∀(ws:α1) (left:List Nat) (o:Nat),o∈ws.foldl (fun left v=>left.filter fun o=>decide (b v o=b v r)) left->o∈left
 |[],left,o,h=>h
 |v::ws,left,o,h=>(xo_.mp (LJ ws _ o h)).1
def LK {b:α2->Nat->Int}{r:Nat}:∀(ws:α1) (left:List Nat),(ws.foldl (fun left v=>left.filter fun o=>decide (b v o=b v r)) left).length<=left.length
 |[],left=>ji_ _
 |v::ws,left=>qp_ (LK ws _) (x2_ _ _)
def SN   (ws:α1):∀o∈Gb b r n ws,o<n:=fun o h=>jE_.mp (LJ ws _ o h)
def Ro   (ws:α1):(Gb b r n ws).length<=n:=by
 have:=LK (b:=b) (r:=r) ws (rq n)
 rw[qh_]at this
 exact this
def LL (H:Hp)(n:Nat)(b:α2->Nat->Int)(ws:α1)(ys:List V):Prop:=ys.length=ws.length/\∀(i:Nat) (v:α2),ws[i]?=some v->∃q,ys[i]?=some (.ref q)/\H q=some (.lst ((rowB n b v).map V.int))
def LL.mono      (h:LL H n b ws ys)(s:Same H H'):LL H' n b ws ys:=
 ⟨h.1,fun i v hv=>let ⟨q,a,c⟩:=h.2 i v hv;⟨q,a,s _ _ c⟩⟩
def Ud (K:α3):Sp:=fun vs H Q _=>∃(h a:Addr) (L:Nat) (aa:α2) (ab:α1) (ws:α2),vs=[.ref h,.ref a]/\Ba K H h L aa ab/\Wf L aa ab/\SqT K H a (ws.map V.int)/\isW L ws=true /\
 ∀p H',Same H H'->H p=none->H' p=some (.lst ((rowB aa.length (bW aa ab) ws).map V.int))->Q (.ref p) H'
def DM   (F:Fun K "marks_from_each_room" "marks_from_each_room" A6 f fd)(T:Txt mg)
  : nofun 1 f fd ["house","word"] (Ud K):=by
 delta AY
 ·obtain⟨h,a,L,aa,ab,ws,rfl,_⟩:=h;rfl
 ·obtain⟨h,a,L,aa,ab,ws,rfl,hh,wf,ha,hv,k⟩:=h
  have hl:=As
  have hn:=wf.n40
  obtain⟨m,wv,q1,q2,q3⟩:=id hh
  refine⟨_,(Ac (Ak (i:=2) AY.nd (Gk rfl rfl T.list rfl T.range (Ao (lenD Ai) (by rfl) T.len jF_ (Aa (Ag (ixTD An) (pvD 0) Ad) Ae))))
   (Ac (Bl jH_ rfl (Ed (pvD 1)) (Ap (i:=3) AY.nd rfl (rG rfl))
   (Af (Du (i:=2) AY.nd rfl rfl rfl (A3 rfl) (cp:=BV) ⟨⟨rfl,rfl⟩,⟨⟨rfl,rfl⟩,rA⟩⟩ (AW (pvD 2)) (fun _ _ _ _=>(Ap (i:=0) CM rfl (rC rfl))) (fun _ _ _ _=>Bd) (fun _ _ _ _=>(Ag (ixTD (Br (K:=K) rfl)) (Ag (ixTD (Br (K:=K) rfl)) (Ag (ixTD (Br (K:=K) rfl)) (pvD 2) Ad) (pvD 0)) (pvD 1))))))
   (Af (AA (A9 rfl (A3 rfl) (cp:=BW) ⟨⟨rfl,rfl⟩,rA⟩ (AW (pvD 2)) (fun _ _ _ _=>(Ap (i:=0) CN rfl (rC rfl))) (fun _ _ _ _=>Bd) (fun _ _ _ _=>(Ag (ixTD (Br (K:=K) rfl)) (Ag (ixTD (Br (K:=K) rfl)) (pvD 1) Ad) (pvD 0)))))))),?_⟩
  nofun
  refine⟨_,q1,_,rfl,m,rfl,_,.inr q2,?_⟩
  rw[ja_]
  refine⟨by lia,by lia,fun p hp=>?_⟩
  rw[jg_]
  have s0:=Same.new hp (o:=.lst ((ups aa.length).map V.int))
  refine⟨⟨_,s0.seqT ha⟩,?_⟩
  have eX:∀(i r:Nat),r<aa.length->0<=Bv ab r (ws.take i)/\Bv ab r (ws.take i)<aa.length:=fun i r hr=>Hs wf (ws.take i) (Ht hv i) s!"" s!""
  obtain⟨Pv,ao⟩:∃Pv:Nat->St->Hp->Prop,∀i af H',Pv i af H'↔(∃(q:Addr) (o:Option V),Same H H'/\H' q=some (.lst (((rq aa.length).map fun r:Nat=>Bv ab r (ws.take i)).map V.int))/\af=[some (.ref h),some (.ref a),some (.ref q),o]):=⟨_,fun _ _ _=>qv_⟩
  refine forT (xs:=ws.map V.int) Pv ((ao _ _ _).mpr ⟨p,none,s0,Ab,rfl⟩) (fun i af H' _ h'=>by obtain⟨_,_,s',_⟩:=(ao _ _ _).mp h';exact s'.seqT ha) (fun i x af H' hx h'=>?_) (fun af H' h'=>?_)
  ·obtain⟨q,o,s1,hq,rfl⟩:=(ao _ _ _).mp h'
   obtain⟨l,kG,rfl⟩:=BP hx
   have bP:=Av.mp hv l (jd_ kG)
   nofun
   refine⟨⟨_,SqL.of hq⟩,?_⟩
   obtain⟨m',wv',g1,g2,g3⟩:=hh.mono s1
   refine ET (af:=[some (.int l),some (.ref h)]) (fun x=>match x with | .int r=>.int (Bu ab r l)|_=>.non) rfl (SqL.of hq) (by simp;lia) (fun x hx R hR=>?_) (fun D hD=>?_)
   ·obtain⟨y,hy,rfl⟩:=jv_.mp hx
    obtain⟨r,hr,rfl⟩:=jv_.mp hy
    have hr:=jE_.mp hr
    have hw:=eX i r hr
    generalize Bv ab r (ws.take i)=y at hw hR
    obtain⟨row,g,r1,r2,r3,r4,r5⟩:=wf.step hw.1 hw.2 bP.1 bP.2
    obtain⟨xs,t,z1,z2,z3⟩:=g3.atZ hw.1 r1
    nofun
    refine⟨_,g1,_,rfl,wv',rfl,_,z1,_,z2,_,rfl,_,z3,_,AX bP.1 r2,?_⟩
    rw[<-r3]
    exact hR
   ·refine (ao _ _ _).mpr ⟨D,_,s1.newT hD,?_,rfl⟩
    rw[Ab,jR_,jR_,jR_]
    congr 2
    refine qo_ fun r hr=>?_
    show V.int (Bu ab (Bv ab r (ws.take i)) l)=V.int (Bv ab r (ws.take (i+1)))
    rw[Jq kG]
  ·obtain⟨q,o,s1,hq,rfl⟩:=(ao _ _ _).mp h'
   rw[ja_,jO_]at hq
   nofun
   refine⟨⟨_,SqL.of hq⟩,?_⟩
   obtain⟨m',wv',g1,g2,g3⟩:=hh.mono s1
   refine ET (af:=[some (.ref h)]) (fun x=>match x with | .int r=>.int (aa.getD r.toNat 0)|_=>.non) rfl (SqL.of hq) (by simp;lia) (fun x hx R hR=>?_) (fun D hD=>?_)
   ·obtain⟨y,hy,rfl⟩:=jv_.mp hx
    obtain⟨r,hr,rfl⟩:=jv_.mp hy
    have hr:=jE_.mp hr
    have hw:=Hs wf ws hv (show (0:Int)<=r by lia) s!""
    generalize Bv ab r ws=y at hw hR
    nofun
    refine⟨_,g1,_,rfl,m',rfl,_,g2,_,?_,hR⟩
    rw[B1 hw.1 (v:=V.int (aa.getD y.toNat 0)) (by rw[je_,jj_];simp[show y.toNat<aa.length by lia])]
   ·refine k D _ (s1.newT hD) (Same.none s1 hD) ?_
    rw[Ab,jR_,jR_]
    unfold rowB
    rw[jR_]
    rfl
def Ue (K:α3):Sp:=fun vs H Q _=>∃(a c:Addr) (n r:Nat) (b:α2->Nat->Int) (ws:α1) (xs ys:List V),vs=[.ref a,.ref c,.int r]/\SqL K H a xs/\AB K H xs ws/\SqL K H c ys/\LL H n b ws ys/\1<=ws.length/\ws.length<=40/\n<=40/\r<n /\
 ∀p zs H',Same H H'->H p=none->H' p=some (.lst zs)->AB K H' zs (ownW n b ws r)->Q (.ref p) H'
def Jg   (F:Fun K "own_tellers" "own_tellers" CF f fd)(T:Txt mg)
  : nofun 1 f fd ["words","marks_behind","room"] (Ue K):=by
 delta Bg
 ·obtain⟨a,c,n,r,b,ws,xs,ys,rfl,_⟩:=h;rfl
 ·obtain⟨a,c,n,r,b,ws,xs,ys,rfl,ha,hW,hc,hM,cM,hw40,hn,bQ,k⟩:=h
  have hl:=As
  refine⟨_,(Ac (Ak (i:=3) Bg.nd (Bt (Aa (BN Ae) Ae)))
   (Ac (Ak (i:=4) Bg.nd (Gk rfl rfl T.list rfl T.range (Ao (lenD Ai) (by rfl) T.len jF_ (Aa (Ag (ixLD AS) (pvD 1) Ad) Ae))))
   (Ac (Bl jH_ rfl (US rfl T.zip (Aa (pvD 0) (Aa (pvD 1) Ae))) (S1 rfl (Hl (Ap (i:=5) Bg.nd rfl (rC rfl)) (Hl (Ap (i:=6) Bg.nd rfl (rG rfl)) O4)))
   (Ac (Du (i:=7) Bg.nd rfl rfl rfl (A3 rfl) (cp:=Ew) ⟨⟨rfl,rfl⟩,⟨⟨rfl,rfl⟩,rA⟩⟩ (AW (pvD 4)) (fun _ _ _ _=>(Ap (i:=0) FZ rfl (rC rfl))) (fun _ _ _ _=>(PZ (ptT (Ar (opE B0) (Ag (ixLD (Bh (K:=K) rfl)) (pvD 1) (pvD 0)) (Ag (ixLD (Bh (K:=K) rfl)) (pvD 1) (pvD 2)) (AE _))))) (fun _ _ _ _=>(pvD 0)))
   (BA (Bx (ptT (Ar (opD0 G2) (Ao (lenD Ai) (by rfl) T.len jF_ (Aa (pvD 7) Ae)) (Ao (lenD Ai) (by rfl) T.len jF_ (Aa (pvD 4) Ae)) (AE _)))
   (Af (A8 (C8 jG_ jK_ jL_ AQ (pvD 3) (Aa (pvD 5) Ae))))
   AH)
   (Af (Ak (i:=4) Bg.nd (pvD 7))))))
   (Af (AA (pvD 3)))))),?_⟩
  nofun
  refine⟨by lia,fun p hp=>⟨by lia,fun p1 bG=>?_⟩⟩
  have s1:Same H (upd (upd H p (.tup [])) p1 (.lst [V.ref p])):=(Same.new hp).newT bG
  have hp1N:H p1=none:=(Same.new hp).none bG
  have hpp:p1≠p:=(AI bG).2
  have e1:upd (upd H p (.tup [])) p1 (.lst [V.ref p]) p1=some (.lst [V.ref p]):=Ab
  have e0:upd (upd H p (.tup [])) p1 (.lst [V.ref p]) p=some (.tup []):=by rw[Aj (qs_ hpp)];exact Ab
  generalize upd (upd H p (.tup [])) p1 (.lst [V.ref p])=H1 at s1 e1 e0 ⊢
  obtain⟨v0,hv0⟩:∃v,ws[0]?=some v:=⟨_,jh_ s!""⟩
  obtain⟨q0,hq0,cI⟩:=hM.2 0 v0 hv0
  have dm:∀v,(rowB n b v).length=n:=fun v=>by unfold rowB;rw[ja_,qh_]
  refine⟨_,s1.seq hc,_,B1 (by decide) hq0,q0,rfl,_,.inl (SqL.of (s1 _ _ cI)),?_⟩
  rw[ja_,dm]
  refine⟨by lia,by lia,fun p2 aY=>?_⟩
  rw[jg_]
  have kH:H p2=none:=s1.none aY
  have hp12:p1≠p2:=Aq e1 aY
  have s2:=s1.newT aY (o:=.lst ((ups n).map V.int))
  have nE:upd H1 p2 (.lst ((ups n).map V.int)) p1=some (.lst [V.ref p]):=by rw[Aj hp12];exact e1
  have e02:upd H1 p2 (.lst ((ups n).map V.int)) p=some (.tup []):=by rw[Aj (Aq e0 aY)];exact e0
  have e22:upd H1 p2 (.lst ((ups n).map V.int)) p2=some (.lst ((ups n).map V.int)):=Ab
  generalize upd H1 p2 (.lst ((ups n).map V.int))=H2 at s2 nE e02 e22 ⊢
  refine⟨xs,ys,false,s2.seq ha,false,s2.seq hc,?_⟩
  obtain⟨Pv,ao⟩:∃Pv:Nat->St->Hp->Prop,∀i af H',Pv i af H'↔(∃(zs:List V) (q:Addr) (o5 o6 o7:Option V),Same H H'/\H' p1=some (.lst zs)/\AB K H' zs ([]::ownF b r (ws.take i) (rq n))/\H q=none/\q≠p1/\H' q=some (.lst (((Gb b r n (ws.take i)).map fun o:Nat=>(o:Int)).map V.int))/\af=[some (.ref a),some (.ref c),some (.int r),some (.ref p1),some (.ref q),o5,o6,o7]):=⟨_,fun _ _ _=>qv_⟩
  have bX:=hW.1
  have iI:=hM.1
  refine Xg ws.length s!"" s!"" (.inl s!"") Pv ((ao _ _ _).mpr ⟨_,p2,none,none,none,s2,nE,AB.nil.snoc (w:=[]) e02,kH,qs_ hp12,e22,rfl⟩) (fun i af H' _ h'=>?_) (fun i u v af H' t hi hu hv h' ht=>?_) (fun af H' h'=>?_)
  ·obtain⟨_,_,_,_,_,s',_⟩:=(ao _ _ _).mp h'
   exact⟨s'.seq ha,s'.seq hc⟩
  ·obtain⟨zs,q,o5,o6,o7,s',hz,oh,hqN,hqp,hq,rfl⟩:=(ao _ _ _).mp h'
   obtain⟨tw,w0,bV,rfl,nu⟩:=hW.at hu
   obtain⟨qm,hqm,lQ⟩:=hM.2 i w0 bV
   rw[hv]at hqm
   cases hqm
   have sT:=s'.newT ht (o:=.tup [V.ref tw,V.ref qm])
   have oi:=Same.new ht (o:=.tup [V.ref tw,V.ref qm])
   have hT:upd H' t (.tup [V.ref tw,V.ref qm]) t=some (.tup [V.ref tw,V.ref qm]):=Ab
   generalize upd H' t (.tup [V.ref tw,V.ref qm])=H3 at sT oi hT ⊢
   have hz3:=oi _ _ hz
   have jr:=oi _ _ hq
   have hWz3:=oh.mono (TK.of oi)
   have hmm3:=sT _ _ lQ
   nofun
   refine⟨_,SqT.of hT,rfl,?_⟩
   nofun
   refine⟨⟨_,SqL.of jr⟩,?_⟩
   have aq:=SN (b:=b) (r:=r) (n:=n) (ws.take i)
   have ir:Gb b r n (ws.take (i+1))=(Gb b r n (ws.take i)).filter fun o=>decide (b w0 o=b w0 r):=by
    unfold Gb
    rw[jQ_,bV,qu_,qE_]
    rfl
   have qG:=LI (b:=b) (r:=r) ws (rq n) i bV
   rw[show (ws.take i).foldl (fun left v=>left.filter fun o=>decide (b v o=b v r)) (rq n)=Gb b r n (ws.take i) from rfl,<-ir]at qG
   have hll:=Ro (b:=b) (r:=r) (n:=n) (ws.take i)
   generalize Gb b r n (ws.take i)=left at jr aq ir qG hll
   have hrow:∀o:Nat,o<n->((rowB n b w0).map V.int)[o]?=some (V.int (b w0 o)):=fun o ho=>by rw[je_,B2 ho];rfl
   refine IV (xs:=(left.map fun o:Nat=>(o:Int)).map V.int) (fun i' b7 ai mf=>mf=H3/\b7=(((left.take i').filter fun o=>decide (b w0 o=b w0 r)).map fun o:Nat=>(o:Int)).map V.int/\∃o,ai=[o,some (.ref qm),some (.int r)]) ⟨rfl,rfl,none,rfl⟩ (by simp only[ja_];lia) (fun i' b7 ai mf hi' h2=>?_) (fun i' x b7 ai mf hx h2=>?_) (fun b7 ai mf h2 D hD=>?_)
   ·obtain⟨rfl,rfl,_⟩:=h2
    refine⟨SqL.of jr,?_⟩
    rw[ja_,ja_]
    exact qp_ (x2_ _ _) (by rw[jw_];lia)
   ·obtain⟨rfl,rfl,o,rfl⟩:=h2
    rw[je_,je_]at hx
    cases kG:left[i']? with
    |none=>rw[kG]at hx;cases hx
    |some o1=>
     rw[kG]at hx
     cases hx
     have ho1:=aq o1 (jd_ kG)
     nofun
     refine⟨_,SqL.of hmm3,_,B1 s!"" (by rw[jg_];exact hrow o1 ho1),_,SqL.of hmm3,_,B1 s!"" (by rw[jg_];exact hrow r bQ),?_⟩
     refine⟨rfl,?_⟩
     rw[jQ_,kG,qu_,List.filter_append]
     by_cases he:b w0 o1=b w0 r
     ·rw[if_pos (by rw[he]),List.filter_cons_of_pos (by simp[he])]
      exact⟨by simp,_,rfl⟩
     ·rw[if_neg (fun z=>he (V.int.inj z)),List.filter_cons_of_neg (by simp[he])]
      exact⟨by simp,_,rfl⟩
   ·obtain⟨rfl,rfl,o,rfl⟩:=h2
    rw[ja_,ja_,jO_,<-ir]
    have sD:=sT.newT hD (o:=.lst (((Gb b r n (ws.take (i+1))).map fun o:Nat=>(o:Int)).map V.int))
    have jx:=Same.new hD (o:=.lst (((Gb b r n (ws.take (i+1))).map fun o:Nat=>(o:Int)).map V.int))
    have iV:upd mf D (.lst (((Gb b r n (ws.take (i+1))).map fun o:Nat=>(o:Int)).map V.int)) D=some (.lst (((Gb b r n (ws.take (i+1))).map fun o:Nat=>(o:Int)).map V.int)):=Ab
    have hDN:H D=none:=sT.none hD
    have hDp:D≠p1:=qs_ (Aq hz3 hD)
    generalize upd mf D (.lst (((Gb b r n (ws.take (i+1))).map fun o:Nat=>(o:Int)).map V.int))=H4 at sD jx iV ⊢
    have nF:=jx _ _ hz3
    have hq4:=jx _ _ jr
    have kI:=hWz3.mono (TK.of jx)
    have eK:=kI.1
    have gn:=HJ (b:=b) (r:=r) (ws.take i) (rq n) (jE_.mpr bQ)
    rw[qh_]at gn
    rw[jT_]at eK
    refine⟨fun af H'=>∃b7,Same H H'/\H' p1=some (.lst b7)/\AB K H' b7 ([]::ownF b r (ws.take (i+1)) (rq n))/\H' D=some (.lst (((Gb b r n (ws.take (i+1))).map fun o:Nat=>(o:Int)).map V.int))/\af=[some (.ref a),some (.ref c),some (.int r),some (.ref p1),some (.ref q),some (.ref tw),some (.ref qm),some (.ref D)],?_,fun af H' hR=>?_⟩
    ·nofun
     refine⟨_,.inl (SqL.of iV),_,.inl (SqL.of hq4),?_⟩
     rw[qG]
     simp only[ja_]
     refine ite2 (fun hlt2=>?_) (fun bC=>?_)
     ·rw[if_pos s!""]
      refine⟨.inl ⟨rfl,_,SqL.of nF⟩,zs,nF,by lia,sD.over hp1N,_,Ab,?_,?_⟩
      ·rw[<-zb_]
       exact (kI.mono (TK.lst nF)).snoc (by rw[Aj (Vw nF (sD _ _ nu) (by intro z;cases z)).symm];exact sD _ _ nu)
      ·rw[Aj hDp];exact iV
     ·rw[if_neg s!"",ql_]
      exact⟨sD,zs,nF,kI,iV⟩
    ·obtain⟨b7,s5,hz5,js,hD5,rfl⟩:=hR
     nofun
     exact (ao _ _ _).mpr ⟨b7,D,_,_,_,s5,hz5,js,hDN,hDp,hD5,rfl⟩
  ·obtain⟨zs,q,o5,o6,o7,s',hz,oh,hqN,hqp,hq,rfl⟩:=(ao _ _ _).mp h'
   rw[jO_]at oh
   nofun
   exact k p1 zs _ s' hp1N hz oh
def Ug (K:α3):Sp:=fun vs H Q _=>∃(h:Addr) (L:Nat) (aa:α2) (ab:α1),vs=[.ref h]/\Ba K H h L aa ab/\Wf L aa ab /\
 ∀e H',Same H H'->H e=none->Ub K H' e aa.length (ownW aa.length (bW aa ab) (wcOf aa.length L (bW aa ab)).1)->Q (.ref e) H'
def DO   (F:Fun K "tellers_of_each_room" "tellers_of_each_room" A7 f fd)(T:Txt mg)
   (kJ:⋯ 3 "tellers" FV ["house"] (T8 K) LM JK)
   (kK:⋯ 1 "marks_from_each_room" A6 ["house","word"] (Ud K) Cd Cb)
   (kL:⋯ 1 "own_tellers" CF ["words","marks_behind","room"] (Ue K) Gd Fj)
  : nofun 4 f fd ["house"] (Ug K):=by
 delta Bs
 ·obtain⟨h,L,aa,ab,rfl,_⟩:=h;rfl
 ·obtain⟨h,L,aa,ab,rfl,hh,wf,k⟩:=h
  have hl:=As
  have hn:=wf.n40
  have cn:=wf.n1
  refine⟨_,(Ac (Bk (i:=1) Bs.nd rfl (rG rfl) (Ah kJ hr.d AK (Aa (pvD 0) Ae)))
   (Ac (Bk (i:=2) Bs.nd rfl (rG rfl) (A9 rfl (A3 rfl) (cp:=BX) ⟨⟨rfl,rfl⟩,rA⟩ (AW (pvD 1)) (fun _ _ _ _=>(Ap (i:=0) CO rfl (rC rfl))) (fun _ _ _ _=>Bd) (fun _ _ _ _=>(Ah kK hr.d AK (Aa (pvD 1) (Aa (pvD 0) Ae))))))
   (Af (AA (A9 rfl (A3 rfl) (cp:=BY) ⟨⟨rfl,rfl⟩,⟨⟨rfl,rfl⟩,rA⟩⟩ (AO rfl T.range (Aa (Ao (lenD Ai) (by rfl) T.len jF_ (Aa (Ag (ixTD An) (pvD 0) Ad) Ae)) Ae)) (fun _ _ _ _=>(Ap (i:=0) CP rfl (rC rfl))) (fun _ _ _ _=>Bd) (fun _ _ _ _=>(Ah kL hr.d AK (Aa (pvD 1) (Aa (pvD 2) (Aa (pvD 0) Ae)))))))))),?_⟩
  nofun
  refine⟨h,L,aa,ab,rfl,hh,wf,fun pw xs H1 s1 kh bp hW fin=>?_⟩
  generalize dy:wcOf aa.length L (bW aa ab)=st at hW fin k
  have md:st.1.length<=40:=by
   have h1:=fin.wc.le
   have h2:=Js st.2
   rw[fin.wc.len]at h2
   lia
  have hf1:1<=st.1.length:=by
   have:=(jc_.mp fin.wc.w0).1
   lia
  nofun
  refine⟨⟨_,SqL.of bp⟩,?_⟩
  have bX:=hW.1
  refine IV (xs:=xs) (fun i ys af H'=>Same H1 H'/\LL H' aa.length (bW aa ab) (st.1.take i) ys/\∃o,af=[o,some (.ref h)]) ⟨Same.refl _,⟨rfl,fun i v hv=>by simp at hv⟩,none,rfl⟩ s!"" (fun i ys af H' hi h'=>⟨SqL.of (h'.1 _ _ bp),by rw[h'.2.1.1,jw_];lia⟩) (fun i x ys af H' hx h'=>?_) (fun ys af H' h' D hD=>?_)
  ·obtain⟨s2,hM,o,rfl⟩:=h'
   obtain⟨t,v,dI,rfl,ht⟩:=hW.at hx
   nofun
   refine⟨h,t,L,aa,ab,v,rfl,hh.mono (s1.trans s2),wf,SqT.of (s2 _ _ ht),Av.mpr (fin.wc.ok v (jd_ dI)),fun p H3 s3 qH hp=>⟨s2.trans s3,?_,_,rfl⟩⟩
   have hM3:=hM.mono s3
   have iI:=hM.1
   rw[jQ_,dI,qu_]
   refine⟨by rw[jn_,jn_,iI];rfl,fun j w hw=>?_⟩
   rw[jw_]at iI
   have hiL:=(jc_.mp dI).1
   by_cases hj:j<ys.length
   ·rw[jk_ (by rw[jw_];lia)]at hw
    obtain⟨q,a1,a2⟩:=hM3.2 j w hw
    exact⟨q,by rw[jk_ hj];exact a1,a2⟩
   ·rw[jt_ (by rw[jw_];lia)]at hw
    have:j-(st.1.take i).length=0:=by
     have:=(jc_.mp hw).1
     simpa using this
    rw[this]at hw
    have hw:v=w:=by simpa using hw
    subst hw
    rw[jw_]at this
    exact⟨p,by rw[jt_ s!"",show j-ys.length=0 by lia];rfl,hp⟩
  ·obtain⟨s2,hM,o,rfl⟩:=h'
   rw[bX,jO_]at hM
   have sD:=(s1.trans s2).newT hD (o:=.lst ys)
   have jx:=s2.newT hD (o:=.lst ys)
   have iV:upd H' D (.lst ys) D=some (.lst ys):=Ab
   have dO:=hM.mono (Same.new hD (o:=.lst ys))
   generalize upd H' D (.lst ys)=H3 at sD jx iV dO ⊢
   obtain⟨m,wv,q1,q2,q3⟩:=hh.mono sD
   nofun
   refine⟨_,q1,_,rfl,m,rfl,_,.inr q2,?_⟩
   rw[ja_,jg_]
   refine⟨by lia,by lia,?_⟩
   have hpw3:=jx _ _ bp
   have p9:=hW.mono (TK.of jx)
   refine J5 (fun i zs af H'=>Same H3 H'/\zs.length=i/\(∀r,r<i->∃q ys,zs[r]?=some (.ref q)/\H' q=some (.lst ys)/\AB K H' ys (ownW aa.length (bW aa ab) st.1 r))/\∃o,af=[o,some (.ref pw),some (.ref D)]) ⟨Same.refl _,rfl,fun r hr=>absurd hr (xb_ _),none,rfl⟩ s!"" (fun i zs af H' hi h'=>sx h'.2.1) (fun i zs af H' hi h'=>?_) (fun zs af H' h' D' mh=>?_)
   ·obtain⟨s4,eK,hz,o,rfl⟩:=h'
    nofun
    refine⟨pw,D,aa.length,i,bW aa ab,st.1,xs,ys,by rw[zI_],SqL.of (s4 _ _ hpw3),p9.mono (TK.of s4),SqL.of (s4 _ _ iV),dO.mono s4,hf1,md,hn,hi,fun p us H5 s5 qH hp hWu=>⟨s4.trans s5,by rw[jn_,eK];rfl,fun r hr=>?_,_,rfl⟩⟩
    by_cases iw:r<i
    ·obtain⟨q,fI,b1,b2,b3⟩:=hz r iw
     exact⟨q,by rw[jk_ s!""];exact b1,fI,s5 _ _ b2,b3.mono (TK.of s5)⟩
    ·obtain rfl:r=i:=by lia
     exact⟨p,by rw[jt_ s!"",show r-zs.length=0 by lia];rfl,us,hp,hWu⟩
   ·obtain⟨s4,eK,hz,o,rfl⟩:=h'
    refine k D' _ ((sD.trans s4).newT mh) ((sD.trans s4).none mh) ⟨zs,Ab,fun r hr=>?_⟩
    obtain⟨q,fI,b1,b2,b3⟩:=hz r hr
    exact⟨q,fI,b1,by rw[Aj (Aq b2 mh)];exact b2,b3.mono (TK.new mh)⟩
def Jh (L:Nat)(aa:α2)(ab:α1)(m:Nat):α1:=allW (sW L aa ab) (sM L aa ab).length (Dq (L:Int) m) (ownW (sM L aa ab).length (bW (sM L aa ab) (sW L aa ab)) (wcOf (sM L aa ab).length L (bW (sM L aa ab) (sW L aa ab))).1)
def Rp (K:α3):Sp:=fun vs H Q _=>∃(h:Addr) (L m:Nat) (aa:α2) (ab:α1),vs=[.ref h,.int m]/\Ba K H h L aa ab/\Wf L aa ab/\m<=3/\many L (m+2)<=341/\LamH K H /\
 ∀D H' os,Cj (tabP K "in_order") H H'->LamH K H'->H D=none->H' D=some (.lst (aS.wv os))->WsT H' os->(os.map (·.2)).Perm ((Jh L aa ab m).foldl ins [])->aS.Srt os->Q (.ref D) H'
def Vm   (F:Fun K "slim" "slim" NS f fd)(T:Txt mg)
   (gR:⋯ 5 "least" Ky ["house"] (NY K) Rq N1)
   (kM:⋯ 4 "tellers_of_each_room" A7 ["house"] (Ug K) Ce Cc)
   (kN:⋯ 5 "words_with" CZ ["base","more","ends"] (Rl K) GX Ge)
  : nofun 6 f fd ["house","more"] (Rp K):=by
 delta Rg
 ·obtain⟨h,L,m,aa,ab,rfl,_⟩:=h;rfl
 ·obtain⟨h,L,m,aa,ab,rfl,hh,wf,hm,cN,hT,k⟩:=h
  have hl:=As
  refine⟨_,(Ac (Ak (i:=2) Rg.nd (Ah gR hr.d AK (Aa (pvD 0) Ae)))
   (Af (AA (Ah kN hr.d AK (Aa (pvD 2) (Aa (pvD 1) (Aa (Ah kM hr.d AK (Aa (pvD 2) Ae)) Ae))))))),?_⟩
  nofun
  have bK:=sWf wf
  have du:=sCan wf
  have jX:=bK.n40
  refine⟨h,L,aa,ab,rfl,hh,wf,fun ps H3 s3 gS=>?_⟩
  unfold Jh at k
  generalize sM L aa ab=ms at bK du gS jX k
  generalize sW L aa ab=vs at bK du gS k
  have fin:Fin17 ms.length L (bW ms vs) (wcOf ms.length L (bW ms vs)):=Fin17.mk' bK.n1 jX
  refine⟨ps,L,ms,vs,rfl,gS,bK,fun e H4 s4 heN hE=>?_⟩
  have kO:=s3.trans s4
  have dj:=Uc fin.wc
  have md:(wcOf ms.length L (bW ms vs)).1.length<=40:=by
   have h1:=fin.wc.le
   have h2:=Js (wcOf ms.length L (bW ms vs)).2
   rw[fin.wc.len]at h2
   lia
  refine⟨ps,e,L,m,ms,vs,_,rfl,gS.mono s4,bK,hm,cN,hE,fun r hr=>⟨?_,fun w hw=>?_⟩,fun r hr=>?_,hT.mono kO,fun D' H9 os sT hL9 jw mh dJ bZ hs=>?_⟩
  ·have:=HJ (b:=bW ms vs) (r:=r) (wcOf ms.length L (bW ms vs)).1 (rq ms.length) (jE_.mpr hr)
   rw[qh_]at this
   unfold ownW
   rw[jT_]
   lia
  ·unfold ownW at hw
   rcases jD_.mp hw with rfl|hw
   ·simp
   ·obtain⟨j,hj⟩:=jN_.mp (KI hw)
    have h1:=dj j w hj
    have h2:=(jc_.mp hj).1
    lia
  ·have h1:=du.order
   unfold rOf at h1
   rw[h1]
   exact jv_.mpr ⟨r,jE_.mpr hr,rfl⟩
  ·exact k D' H9 os (fun b o hb e=>sT b o hb (kO b o e)) hL9 (Same.none kO jw) mh dJ bZ hs
def cell (ns:α2)(k:Nat):Int:=ns.getD k 0
def GG (K:α3):Sp:=fun vs H Q _=>∃(a:Addr) (ns:α2) (k:Nat),vs=[.ref a,.int k]/\SqL K H a (ns.map V.int)/\Q (.int (cell ns k)) H
def IB   (F:Fun K "_law_cell_at" "_law_cell_at" A0 f fd)(T:Txt mg)
  : nofun 1 f fd ["script","k"] (GG K):=by
 delta Ip
 ·obtain⟨a,ns,k,rfl,_⟩:=h;rfl
 ·obtain⟨a,ns,k,rfl,hs,q⟩:=h
  refine⟨_,(Ac (Bx (ptT (Ar (opD0 G2) (pvD 1) (Ao (lenD Ai) (by rfl) T.len jF_ (Aa (pvD 0) Ae)) (AE _)))
   (Af (AA (Ag (ixLD AS) (pvD 0) (pvD 1))))
   AH)
   (Af (AA Ad))),?_⟩
  nofun
  refine⟨_,.inl hs,?_⟩
  rw[ja_]
  refine ite2 (fun hk=>?_) (fun hk=>?_)
  ·have dk:k<ns.length:=by simpa using hk
   refine⟨_,hs,V.int (cell ns k),?_,q⟩
   refine Ee ?_
   rw[je_]
   unfold cell
   rw[jj_]
   simp[dk]
  ·have dk:¬ k<ns.length:=by simpa using hk
   have:cell ns k=0:=by
    unfold cell
    rw[jj_,jU_ s!""];rfl
   rw[<-this]
   exact q
def E3:Sp:=fun vs H Q _=>∃num k m:Int,vs=[.int num,.int k,.int m]/\0<=k/\k<=1000000/\0<m/\∀x,0<=x->x<m->Q (.int x) H
def KJ   (F:Fun K "_law_mixed" "_law_mixed" Bq f fd)(T:Txt mg)
  : nofun 1 f fd ["number","k","many"] (E3):=by
 delta DG
 ·obtain⟨num,k,m,rfl,_⟩:=h;rfl
 ·obtain⟨num,k,m,rfl,dN,lS,hm,q⟩:=h
  refine⟨_,(Ac (Ak (i:=3) DG.nd (Am (opD AL) (Am (opD0 AV) (Am (opD0 AV) (Am (opD0 AV) (Am (opD AL) (pvD 0) Ad) (Am (opD FG) (Am (opD FG) Ad (pvD 1)) (pvD 1))) (Am (opD FG) Ad (pvD 1))) Ad) Ad))
   (Ac (Ak (i:=3) DG.nd (Am (opD AL) (Am (opD FG) (pvD 3) Ad) Ad))
   (Af (AA (Am (opD AL) (Am (opD AL) (Am (opD FG) (pvD 3) (pvD 3)) Ad) (pvD 2)))))),?_⟩
  nofun
  refine⟨by decide,.inl ⟨by decide,by decide⟩,.inr ⟨by lia,by lia⟩,.inl ⟨by decide,by decide⟩,by decide,.inr ⟨by decide,by decide⟩,by decide,?_⟩
  generalize (num%2147483647+69621*k*k+40692*k+1)%2147483647*48271=z
  have m0:=qa_ z (show (2147483647:Int)≠0 by decide)
  have m1:=jZ_ z (show (0:Int)<2147483647 by decide)
  exact⟨.inl ⟨by lia,by lia⟩,by decide,hm,q _ (qa_ _ s!"") (jZ_ _ hm)⟩
def JL (K:α3):Sp:=fun vs H Q _=>∃(num:Int) (n:Nat),vs=[.int num,.int n]/\1<=n/\n<=40/\∀(t:Addr) (aa:α2) (H':Hp),Same H H'->SqT K H' t (aa.map V.int)->aa.length=n->(∀m∈aa,0<=m/\m<=1000000000)->Q (.ref t) H'
def Hg   (F:Fun K "_law_marks_by" "_law_marks_by" B7 f fd)(T:Txt mg)
   (bj:⋯ 1 "_law_mixed" Bq ["number","k","many"] (E3) BZ BK)
  : nofun 2 f fd ["number","rooms"] (JL K):=by
 delta AJ
 ·obtain⟨num,n,rfl,_⟩:=h;rfl
 ·obtain⟨num,n,rfl,cn,a9,k⟩:=h
  have hl:=As
  refine⟨_,(Ac (Ak (i:=2) AJ.nd (Am (opD AL) (Am (opD0 AV) (pvD 0) Ad) Ad))
   (Ac (Ak (i:=3) AJ.nd (Am (opD AL) (Am (opD Bz) (pvD 0) Ad) Ad))
   (Ac (Ak (i:=4) AJ.nd (Bt Ae))
   (Ac (Bl jH_ rfl (AO rfl T.range (Aa (pvD 1) Ae)) (Ap (i:=5) AJ.nd rfl (rC rfl))
   (Ac (Ak (i:=6) AJ.nd (pvD 3))
   (BA (Bx (PW.pt (GK (ptT (Ar (opE B0) (Am (opD AL) (pvD 2) Ad) Ad (AE _))) (Ec (ptT (Ar (opE B0) (Ah bj hr.d AK (Aa (pvD 0) (Aa (pvD 5) (Aa Ad Ae)))) Ad (AE _))))))
   (Af (Ak (i:=6) AJ.nd (Am (opD0 CS) Ad (pvD 3))))
   AH)
   (BA (Bx (ptT (Ar (opE B0) (pvD 2) Ad (AE _)))
   (Af (Ak (i:=6) AJ.nd (Ah bj hr.d AK (Aa (pvD 0) (Aa (pvD 5) (Aa Ad Ae))))))
   AH)
   (BA (Bx (PW.pt (N8 (PW.pt (GK (ptT (Ar (opE B0) (pvD 2) Ad (AE _))) (Ec (ptT (Ar (opE B0) (pvD 5) (Am (opD AL) (Am (opD Bz) (pvD 0) Ad) (pvD 1)) (AE _)))))) (M9 (PW.pt (GK (ptT (Ar (opE B0) (pvD 2) Ad (AE _))) (Ec (ptT (Ar (opE B0) (pvD 5) (Am (opD0 CS) (pvD 1) Ad) (AE _)))))))))
   (Af (Ak (i:=6) AJ.nd (Am (opD AL) (Am (opD0 AV) (pvD 3) Ad) Ad)))
   AH)
   (BA (Bx (PW.pt (N8 (ptT (Ar (opE B0) (pvD 2) Ad (AE _))) (M9 (ptT (Ar (opE B0) (pvD 2) Ad (AE _))))))
   (Af (Ak (i:=6) AJ.nd (Ah bj hr.d AK (Aa (pvD 0) (Aa (pvD 5) (Aa Ad Ae))))))
   AH)
   (Af (A8 (C8 jG_ jK_ jL_ AQ (pvD 4) (Aa (pvD 6) Ae))))))))))
   (Af (AA (AD Ax rfl T.tuple jC_ (Aa (pvD 4) Ae)))))))),?_⟩
  nofun
  refine⟨by decide,⟨by decide,by decide⟩,by decide,by lia,fun p hp=>⟨by lia,by lia,?_⟩⟩
  rw[jg_]
  have iQ:=qa_ (num / 8) (show (1000000001:Int)≠0 by decide)
  have om:=jZ_ (num / 8) (show (0:Int)<1000000001 by decide)
  generalize (num+1)%8=kP
  generalize num / 8%1000000001=top at iQ om ⊢
  obtain⟨Pv,ao⟩:∃Pv:Nat->St->Hp->Prop,∀i ai H2,Pv i ai H2↔(∃(aa:α2) (o1 o2:Option V),Same H H2/\H2 p=some (.lst (aa.map V.int))/\aa.length=i/\(∀m∈aa,0<=m/\m<=1000000000)/\ai=[some (.int num),some (.int n),some (.int kP),some (.int top),some (.ref p),o1,o2]):=⟨_,fun _ _ _=>qv_⟩
  refine forR Pv ((ao _ _ _).mpr ⟨[],none,none,Same.new hp,by rw[Ab];rfl,rfl,(fun m hm=>by cases hm),rfl⟩) (fun i ai H2 hi h2=>?_) (fun ai H2 h2=>?_)
  ·obtain⟨aa,o1,o2,s2,aY,aj,bQ,rfl⟩:=(ao _ _ _).mp h2
   generalize eX:(0:Int)+(i:Nat)=room
   have aT:0<=room:=by lia
   have ed:room<=40:=by lia
   obtain⟨R,hR⟩:∃R:St->Hp->Prop,∀aE H3,R aE H3↔(H3=H2/\∃cK:Int,0<=cK/\cK<=1000000000/\aE=[some (.int num),some (.int n),some (.int kP),some (.int top),some (.ref p),some (.int room),some (.int cK)]):=⟨_,fun _ _=>qv_⟩
   nofun
   refine⟨R,?_,fun aE H3 h3=>⟨R,?_,fun bR H4 h4=>⟨R,?_,fun iS H5 h5=>⟨R,?_,fun dz H6 h6=>?_⟩⟩⟩⟩
   ·nofun
    refine⟨by decide,iteB ((hR _ _).mpr ⟨rfl,top,iQ,by lia,rfl⟩) (fun _ hB=>⟨num,room,2,rfl,aT,by lia,by decide,fun x _ _=>?_⟩)⟩
    nofun
    exact ite2 (fun _=>(hR _ _).mpr ⟨rfl,_,by lia,by lia,rfl⟩) (fun _=>hB)
   ·obtain⟨rfl,cK,cI,jo,rfl⟩:=(hR _ _).mp h3
    nofun
    refine ite2 (fun _=>⟨num,room,1000000001,rfl,aT,by lia,by decide,fun x dh cq=>?_⟩) (fun _=>h3)
    nofun
    exact (hR _ _).mpr ⟨rfl,x,dh,by lia,rfl⟩
   ·obtain⟨rfl,cK,cI,jo,rfl⟩:=(hR _ _).mp h4
    nofun
    have hA:R [some (.int num),some (.int n),some (.int kP),some (.int top),some (.ref p),some (.int room),some (.int ((top+1)%1000000001))] H4:=(hR _ _).mpr ⟨rfl,_,qa_ _ (by decide),by have:=jZ_ (top+1) (show (0:Int)<1000000001 by decide);lia,rfl⟩
    have hE:if kP=5 then (if room=(n:Int)-1 then (0:Int)<1000000001/\R [some (.int num),some (.int n),some (.int kP),some (.int top),some (.ref p),some (.int room),some (.int ((top+1)%1000000001))] H4 else R [some (.int num),some (.int n),some (.int kP),some (.int top),some (.ref p),some (.int room),some (.int cK)] H4) else R [some (.int num),some (.int n),some (.int kP),some (.int top),some (.ref p),some (.int room),some (.int cK)] H4:=
     ite2 (fun _=>ite2 (fun _=>⟨by decide,hA⟩) (fun _=>h4)) (fun _=>h4)
    exact ite2 (fun _=>⟨⟨by decide,by decide⟩,by lia,ite2 (fun _=>⟨by decide,hA⟩) (fun _=>hE)⟩) (fun _=>hE)
   ·obtain⟨rfl,cK,cI,jo,rfl⟩:=(hR _ _).mp h5
    nofun
    exact ite2 (fun _=>⟨num,room,3,rfl,aT,by lia,by decide,fun x dh cq=>(hR _ _).mpr ⟨rfl,x,dh,by lia,rfl⟩⟩) (fun _=>ite2 (fun _=>⟨num,room,3,rfl,aT,by lia,by decide,fun x dh cq=>(hR _ _).mpr ⟨rfl,x,dh,by lia,rfl⟩⟩) (fun _=>h5))
   ·obtain⟨rfl,cK,cI,jo,rfl⟩:=(hR _ _).mp h6
    nofun
    refine⟨.inl ⟨rfl,_,SqL.of aY⟩,_,aY,by rw[ja_];lia,(ao _ _ _).mpr ⟨aa++[cK],_,_,s2.over hp,by rw[Ab];simp,by simp[aj],fun m hm=>?_,rfl⟩⟩
    rcases jA_.mp hm with hm|hm
    ·exact bQ m hm
    ·rw[ju_.mp hm];exact⟨cI,jo⟩
  ·obtain⟨aa,o1,o2,s2,aY,aj,bQ,rfl⟩:=(ao _ _ _).mp h2
   nofun
   refine⟨_,.inl ⟨SqL.of aY,fun t ht=>?_⟩⟩
   exact k t aa _ (s2.newT ht) (SqT.of Ab) aj bQ
def LN (K:α3):Sp:=fun vs H Q _=>∃(a:Addr) (ns:α2) (L:Int) (n:Nat),vs=[.ref a,.int L,.int n]/\SqL K H a (ns.map V.int)/\1<=L/\L<=6/\1<=n/\n<=40/\∀(t:Addr) (ab:α1) (H':Hp),Same H H'->Rows K H' t ab->ab.length=n->(∀row∈ab,(row.length:Int)=L/\∀x∈row,0<=x/\x<(n:Int))->Q (.ref t) H'
def IC   (F:Fun K "_law_ways_by" "_law_ways_by" Cn f fd)(T:Txt mg)
   (aU:⋯ 1 "_law_cell_at" A0 ["script","k"] (GG K) Bw Bp)
   (bj:⋯ 1 "_law_mixed" Bq ["number","k","many"] (E3) BZ BK)
  : nofun 2 f fd ["script","letters","rooms"] (LN K):=by
 delta AF
 ·obtain⟨a,ns,L,n,rfl,_⟩:=h;rfl
 ·obtain⟨a,ns,L,n,rfl,hs,cH,cX,cn,a9,k⟩:=h
  have hl:=As
  refine⟨_,(Ac (Ak (i:=3) AF.nd (Ah aU hr.d AK (Aa (pvD 0) (Aa Ad Ae))))
   (Ac (Ak (i:=4) AF.nd (Bt Ae))
   (Ac (Bl jH_ rfl (AO rfl T.range (Aa (pvD 2) Ae)) (Ap (i:=5) AF.nd rfl (rC rfl))
   (Ac (Ak (i:=6) AF.nd (Bt Ae))
   (Ac (Bl jH_ rfl (AO rfl T.range (Aa (pvD 1) Ae)) (Ap (i:=7) AF.nd rfl (rC rfl))
   (Ac (Ak (i:=8) AF.nd (Am (opD0 AV) (Am (opD0 AV) Ad (Am (opD FG) (pvD 5) (pvD 1))) (pvD 7)))
   (Ac (Ak (i:=9) AF.nd (Ah bj hr.d AK (Aa (pvD 3) (Aa (pvD 8) (Aa (pvD 2) Ae)))))
   (BA (Bx (ptT (Ar (opD0 G2) (pvD 8) (Ao (lenD Ai) (by rfl) T.len jF_ (Aa (pvD 0) Ae)) (AE _)))
   (Af (Ak (i:=9) AF.nd (Am (opD AL) (Ag (ixLD AS) (pvD 0) (pvD 8)) (pvD 2))))
   AH)
   (BA (Bx (PW.pt (GK (ptT (Ar (opE B0) (Am (opD AL) (pvD 3) Ad) Ad (AE _))) (Ec (ptT (Ar (opE B0) (pvD 7) (Am (opD AL) (Am (opD Bz) (pvD 3) Ad) (pvD 1)) (AE _))))))
   (Af (Ak (i:=9) AF.nd (Am (opD AL) (Am (opD0 AV) (pvD 5) Ad) (pvD 2))))
   AH)
   (BA (Bx (ptT (Ar (opE B0) (Am (opD AL) (pvD 3) Ad) Ad (AE _)))
   (Af (Ak (i:=9) AF.nd (pvD 5)))
   AH)
   (BA (Bx (PW.pt (GK (ptT (Ar (opE B0) (Am (opD AL) (pvD 3) Ad) Ad (AE _))) (Ec (ptT (Ar (opE B0) (pvD 7) (Am (opD AL) (Am (opD Bz) (pvD 3) Ad) (pvD 1)) (AE _))))))
   (Af (Ak (i:=9) AF.nd (Ao (Pf rfl) rfl T.min vN (Aa (Am (opD0 AV) (pvD 5) Ad) (Aa (Am (opD0 CS) (pvD 2) Ad) Ae)))))
   AH)
   (Af (A8 (C8 jG_ jK_ jL_ AQ (pvD 6) (Aa (pvD 9) Ae)))))))))))
   (Af (A8 (C8 jG_ jK_ jL_ AQ (pvD 4) (Aa (AD Ax rfl T.tuple jC_ (Aa (pvD 6) Ae)) Ae)))))))
   (Af (AA (AD Ax rfl T.tuple jC_ (Aa (pvD 4) Ae))))))),?_⟩
  nofun
  refine⟨a,ns,3,rfl,hs,?_⟩
  nofun
  generalize cell ns 3=eY
  refine⟨by lia,fun pw bp=>⟨by lia,by lia,?_⟩⟩
  rw[jg_]
  obtain⟨Pv,ao⟩:∃Pv:Nat->St->Hp->Prop,∀i ai H2,Pv i ai H2↔(∃(ab:α1) (o1 o2 o3 o4 o5:Option V),Same H H2/\CA K H2 pw ab/\ab.length=i/\(∀row∈ab,(row.length:Int)=L/\∀x∈row,0<=x/\x<(n:Int))/\ai=[some (.ref a),some (.int L),some (.int n),some (.int eY),some (.ref pw),o1,o2,o3,o4,o5]):=⟨_,fun _ _ _=>qv_⟩
  refine forR Pv ((ao _ _ _).mpr ⟨[],none,none,none,none,none,Same.new bp,CA.nil Ab,rfl,(fun m hm=>by cases hm),rfl⟩) (fun i ai H2 hi h2=>?_) (fun ai H2 h2=>?_)
  ·obtain⟨ab,o1,o2,o3,o4,o5,s2,d8,aj,bQ,rfl⟩:=(ao _ _ _).mp h2
   generalize eX:(0:Int)+(i:Nat)=room
   have aT:0<=room:=by lia
   have ed:room<n:=by lia
   nofun
   refine⟨by lia,fun pr fX=>⟨by lia,by lia,?_⟩⟩
   have kQ:H pr=none:=s2.free fX
   have sA:=s2.newT fX (o:=.lst [])
   have hwA:=d8.mono (Same.new fX (o:=.lst []))
   have hrA:upd H2 pr (.lst []) pr=some (.lst (([]:α2).map V.int)):=Ab
   have aw:pw≠pr:=by
    obtain⟨ts,e,_⟩:=d8
    exact Aq e fX
   generalize upd H2 pr (.lst [])=HA at sA hwA hrA ⊢
   obtain⟨Pr,i4⟩:∃Pv:Nat->St->Hp->Prop,∀j aE H3,Pv j aE H3↔(∃(row:α2) (o3 o4 o5:Option V),Same H H3/\CA K H3 pw ab/\H3 pr=some (.lst (row.map V.int))/\row.length=j/\(∀x∈row,0<=x/\x<(n:Int))/\aE=[some (.ref a),some (.int L),some (.int n),some (.int eY),some (.ref pw),some (.int room),some (.ref pr),o3,o4,o5]):=⟨_,fun _ _ _=>qv_⟩
   refine forR Pr ((i4 _ _ _).mpr ⟨[],o3,o4,o5,sA,hwA,hrA,rfl,(fun m hm=>by cases hm),rfl⟩) (fun j aE H3 hj h3=>?_) (fun aE H3 h3=>?_)
   ·obtain⟨row,o3,o4,o5,s3,dF,dP,dm,cC,rfl⟩:=(i4 _ _ _).mp h3
    generalize hlet:(0:Int)+(j:Nat)=letter
    nofun
    have dN:0<=room*L:=zB_ aT s!""
    have lS:room*L<=40*6:=uR s!"" s!"" s!"" s!""
    refine⟨.inl ⟨by lia,by lia⟩,?_⟩
    generalize pO:6+room*L+letter=kk
    refine⟨eY,kk,n,rfl,by lia,by lia,by lia,fun g0 hg00 hg01=>?_⟩
    obtain⟨R,hR⟩:∃R:St->Hp->Prop,∀bR H4,R bR H4↔(H4=H3/\∃g:Int,0<=g/\g<(n:Int)/\bR=[some (.ref a),some (.int L),some (.int n),some (.int eY),some (.ref pw),some (.int room),some (.ref pr),some (.int letter),some (.int kk),some (.int g)]):=⟨_,fun _ _=>qv_⟩
    refine⟨R,?_,fun bR H4 h4=>⟨R,?_,fun iS H5 h5=>⟨R,?_,fun dz H6 h6=>⟨R,?_,fun di H7 h7=>?_⟩⟩⟩⟩
    ·nofun
     refine⟨_,.inl (s3.seq hs),?_⟩
     rw[ja_]
     refine ite2 (fun aq=>?_) (fun _=>(hR _ _).mpr ⟨rfl,g0,hg00,hg01,rfl⟩)
     have dk:kk.toNat<ns.length:=by lia
     refine⟨_,s3.seq hs,_,AX s!"" (v:=ns[kk.toNat]) (by simp[dk]),?_⟩
     nofun
     exact⟨by lia,(hR _ _).mpr ⟨rfl,_,qa_ _ s!"",jZ_ _ s!"",rfl⟩⟩
    ·obtain⟨rfl,g,oo,oq,rfl⟩:=(hR _ _).mp h4
     nofun
     exact⟨by decide,ite2 (fun _=>⟨⟨by decide,by decide⟩,by lia,ite2 (fun _=>⟨by lia,(hR _ _).mpr ⟨rfl,_,qa_ _ s!"",jZ_ _ s!"",rfl⟩⟩) (fun _=>h4)⟩) (fun _=>h4)⟩
    ·obtain⟨rfl,g,oo,oq,rfl⟩:=(hR _ _).mp h5
     nofun
     exact⟨by decide,ite2 (fun _=>(hR _ _).mpr ⟨rfl,room,aT,ed,rfl⟩) (fun _=>h5)⟩
    ·obtain⟨rfl,g,oo,oq,rfl⟩:=(hR _ _).mp h6
     nofun
     exact⟨by decide,ite2 (fun _=>⟨⟨by decide,by decide⟩,by lia,ite2 (fun _=>(hR _ _).mpr ⟨rfl,_,by split<;>lia,by split<;>lia,rfl⟩) (fun _=>h6)⟩) (fun _=>h6)⟩
    ·obtain⟨rfl,g,oo,oq,rfl⟩:=(hR _ _).mp h7
     nofun
     refine⟨.inl ⟨rfl,_,SqL.of dP⟩,_,dP,by rw[ja_];lia,(i4 _ _ _).mpr ⟨row++[g],_,_,_,s3.over kQ,dF.off dP aw,by rw[Ab];simp,by simp[dm],fun x hx=>?_,rfl⟩⟩
     rcases jA_.mp hx with hx|hx
     ·exact cC x hx
     ·rw[ju_.mp hx];exact⟨oo,oq⟩
   ·obtain⟨row,o3,o4,o5,s3,dF,dP,dm,cC,rfl⟩:=(i4 _ _ _).mp h3
    nofun
    obtain⟨ts,e0,_⟩:=id dF
    refine⟨.inl ⟨rfl,_,SqL.of e0⟩,_,.inl ⟨SqL.of dP,fun t ht=>?_⟩⟩
    obtain⟨xs,e1,e2,c9⟩:=(dF.mono (Same.new ht (o:=.tup (row.map V.int)))).push (w:=row) (SqT.of Ab)
    refine⟨xs,e1,by lia,(ao _ _ _).mpr ⟨ab++[row],_,_,_,_,_,(s3.newT ht).over bp,c9,by simp[aj],fun r hr=>?_,rfl⟩⟩
    rcases jA_.mp hr with hr|hr
    ·exact bQ r hr
    ·rw[ju_.mp hr];exact⟨by lia,cC⟩
  ·obtain⟨ab,o1,o2,o3,o4,o5,s2,d8,aj,bQ,rfl⟩:=(ao _ _ _).mp h2
   nofun
   obtain⟨xs,e1,cw⟩:=d8.rows
   refine⟨_,.inl ⟨SqL.of e1,fun t ht=>?_⟩⟩
   exact k t ab _ (s2.newT ht) (cw t ht) aj bQ
def Vn (L:Int)(m1:α2)(w1:α1)(m2:α2)(w2:α1):Prop:=∀w,isW L w=true->mkR m1 (Az w1 w)=mkR m2 (Az w2 w)
def KL (K:α3):Sp:=fun vs H Q _=>∃(h:Addr) (L:Int) (aa:α2) (ab:α1) (num:Int) (n:Nat),vs=[.ref h,.int num,.int n]/\Ba K H h L aa ab/\Wf L aa ab/\n<=40/\∀h' ar aG H',Same H H'->Ba K H' h' L ar aG->Wf L ar aG->ar.length=max aa.length n->Q (.ref h') H'
def KN   (F:Fun K "_law_blown" "_law_blown" Cu f fd)(T:Txt mg)
   (bj:⋯ 1 "_law_mixed" Bq ["number","k","many"] (E3) BZ BK)
  : nofun 2 f fd ["house","number","rooms"] (KL K):=by
 delta AZ
 ·obtain⟨h,L,aa,ab,num,n,rfl,_⟩:=h;rfl
 ·obtain⟨h,L,aa,ab,num,n,rfl,hh,wf,a9,k⟩:=h
  have hl:=As
  have cH:=wf.l1
  have cX:=wf.l6
  have jj:=wf.n1
  have hs40:=wf.n40
  refine⟨_,(Ac (Ak (i:=3) AZ.nd (Ao (lenD Ai) (by rfl) T.len jF_ (Aa (Ag (ixTD An) (pvD 0) Ad) Ae)))
   (Ac (Bk (i:=4) AZ.nd rfl (rG rfl) (Gk rfl rfl T.list rfl T.range (pvD 3)))
   (Ac (EO jH_ (ptT (Ar (opD0 G2) (Ao (lenD Ai) (by rfl) T.len jF_ (Aa (pvD 4) Ae)) (pvD 2) (AE _)))
   (Af (A8 (C8 jG_ jK_ jL_ AQ (pvD 4) (Aa (Ah bj hr.d AK (Aa (pvD 1) (Aa (Ao (lenD Ai) (by rfl) T.len jF_ (Aa (pvD 4) Ae)) (Aa (pvD 3) Ae)))) Ae)))))
   (Ac (Ak (i:=5) AZ.nd (Bt Ae))
   (Ac (Bl jH_ rfl (AO rfl T.range (Aa (Ao (lenD Ai) (by rfl) T.len jF_ (Aa (pvD 4) Ae)) Ae)) (Ap (i:=6) AZ.nd rfl (rC rfl))
   (Ac (Ak (i:=7) AZ.nd (Bt Ae))
   (Ac (Bl jH_ rfl (AO rfl T.range (Aa (Ag (ixTD An) (pvD 0) Ad) Ae)) (Ap (i:=8) AZ.nd rfl (rC rfl))
   (Ac (Bk (i:=9) AZ.nd rfl (rG rfl) (Ag (ixTD An) (Ag (ixTD An) (Ag (ixTD An) (pvD 0) Ad) (Ag (ixLD AS) (pvD 4) (pvD 6))) (pvD 8)))
   (Ac (Du (i:=10) AZ.nd rfl rfl rfl (A3 rfl) (cp:=Fg) ⟨⟨rfl,rfl⟩,⟨⟨rfl,rfl⟩,rA⟩⟩ (AO rfl T.range (Aa (Ao (lenD Ai) (by rfl) T.len jF_ (Aa (pvD 4) Ae)) Ae)) (fun _ _ _ _=>(Ap (i:=0) Gw rfl (rC rfl))) (fun _ _ _ _=>(PZ (ptT (Ar (opE B0) (Ag (ixLD (Bh (K:=K) rfl)) (pvD 2) (pvD 0)) (pvD 1) (AE _))))) (fun _ _ _ _=>(pvD 0)))
   (Af (A8 (C8 jG_ jK_ jL_ AQ (pvD 7) (Aa (Ag (ixLD AS) (pvD 10) (Ah bj hr.d AK (Aa (Am (opD0 AV) (pvD 1) Ad) (Aa (Am (opD0 AV) (Am (opD FG) (pvD 6) (Ag (ixTD An) (pvD 0) Ad)) (pvD 8)) (Aa (Ao (lenD Ai) (by rfl) T.len jF_ (Aa (pvD 10) Ae)) Ae))))) Ae)))))))
   (Af (A8 (C8 jG_ jK_ jL_ AQ (pvD 5) (Aa (AD Ax rfl T.tuple jC_ (Aa (pvD 7) Ae)) Ae)))))))
   (Af (AA (BN (Aa (Ag (ixTD An) (pvD 0) Ad) (Aa (AD Ax rfl T.tuple jC_ (Aa (A9 rfl (A3 rfl) (cp:=Fh) ⟨⟨rfl,rfl⟩,rA⟩ (AW (pvD 4)) (fun _ _ _ _=>(Ap (i:=0) Gx rfl (rC rfl))) (fun _ _ _ _=>Bd) (fun _ _ _ _=>(Ag (ixTD (Br (K:=K) rfl)) (Ag (ixTD (Br (K:=K) rfl)) (pvD 1) Ad) (pvD 0)))) Ae)) (Aa (AD Ax rfl T.tuple jC_ (Aa (pvD 5) Ae)) Ae))))))))))),?_⟩
  nofun
  obtain⟨tm,tw,q1,q2,q3⟩:=id hh
  refine⟨_,q1,_,rfl,?_⟩
  nofun
  refine⟨_,.inr q2,?_⟩
  rw[ja_]
  refine⟨by lia,by lia,fun pf gJ=>?_⟩
  rw[jg_]
  obtain⟨Pw,cx⟩:∃Pv:Nat->St->Hp->Prop,∀m ai H2,Pv m ai H2↔(∃aI:α2,m=41-aI.length/\Same H H2/\H2 pf=some (.lst (aI.map V.int))/\aa.length<=aI.length/\aI.length<=40/\aI.length<=max aa.length n/\(∀x∈aI,0<=x/\x<(aa.length:Int))/\(∀g:Nat,g<aa.length->aI[g]?=some (g:Int))/\ai=[some (.ref h),some (.int num),some (.int n),some (.int aa.length),some (.ref pf),none,none,none,none,none,none]):=⟨_,fun _ _ _=>qv_⟩
  refine Jn Pw ⟨_,(cx _ _ _).mpr ⟨ups aa.length,rfl,Same.new gJ,by rw[Ab],by simp[ups],by simp[ups];lia,by simp[ups];lia,fun x hx=>?_,fun g hg=>?_,rfl⟩⟩ ?_
  ·obtain⟨i,hi,rfl⟩:=jv_.mp hx
   have:=jE_.mp hi
   lia
  ·unfold ups
   rw[je_,qN_ hg];rfl
  intro m ai H2 bp
  obtain⟨aI,rfl,s2,kR,lZ,hf40,hfm,j0,hfg,rfl⟩:=(cx _ _ _).mp bp
  nofun
  refine⟨_,.inl (SqL.of kR),?_⟩
  rw[ja_]
  refine ite2 (fun aq=>?_) (fun bC=>?_)
  ·refine⟨Pw (41-(aI.length+1)),fun af H' h=>⟨_,by lia,h⟩,?_⟩
   refine⟨.inl ⟨rfl,_,SqL.of kR⟩,_,.inl (SqL.of kR),?_⟩
   rw[ja_]
   refine⟨num,_,aa.length,rfl,by lia,by lia,by lia,fun x dh cq=>?_⟩
   nofun
   refine⟨_,kR,by rw[ja_];lia,(cx _ _ _).mpr ⟨aI++[x],by simp,s2.over gJ,by rw[Ab];simp,by simp;lia,by simp;lia,by simp;lia,fun y hy=>?_,fun g hg=>?_,rfl⟩⟩
   ·rcases jA_.mp hy with hy|hy
    ·exact j0 y hy
    ·rw[ju_.mp hy];exact⟨dh,cq⟩
   ·rw[jk_ s!""];exact hfg g hg
  ·clear bp cx Pw
   refine⟨by lia,fun pw bp=>⟨_,.inl (SqL.of (Same.new bp _ _ kR)),?_⟩⟩
   rw[ja_]
   refine⟨by lia,by lia,?_⟩
   rw[jg_]
   have hpwn:H pw=none:=s2.free bp
   have hnefw:pf≠pw:=Aq kR bp
   have sB:=s2.newT bp (o:=.lst [])
   have hfB:=Same.new bp (o:=.lst []) _ _ kR
   have hwB:upd H2 pw (.lst []) pw=some (.lst []):=Ab
   generalize upd H2 pw (.lst [])=HB at sB hfB hwB ⊢
   obtain⟨Pv,ao⟩:∃Pv:Nat->St->Hp->Prop,∀i aE H3,Pv i aE H3↔(∃(ws:α1) (o6 o7 o8 o9 kU:Option V),Same H H3/\H3 pf=some (.lst (aI.map V.int))/\CA K H3 pw ws/\ws.length=i/\(∀row∈ws,(row.length:Int)=L/\∀x∈row,0<=x/\x<(aI.length:Int))/\aE=[some (.ref h),some (.int num),some (.int n),some (.int aa.length),some (.ref pf),some (.ref pw),o6,o7,o8,o9,kU]):=⟨_,fun _ _ _=>qv_⟩
   refine forR Pv ((ao _ _ _).mpr ⟨[],none,none,none,none,none,sB,hfB,CA.nil hwB,rfl,(fun r hr=>by cases hr),rfl⟩) (fun i aE H3 hi h3=>?_) (fun aE H3 h3=>?_)
   ·obtain⟨ws,o6,o7,o8,o9,kU,s3,nG,dF,dj,fV,rfl⟩:=(ao _ _ _).mp h3
    generalize eX:(0:Int)+(i:Nat)=room
    have aT:0<=room:=by lia
    have ed:room<aI.length:=by lia
    nofun
    refine⟨by lia,fun pr fX=>⟨_,(s3.newT fX).seqT q1,_,rfl,?_⟩⟩
    nofun
    refine⟨by lia,by lia,?_⟩
    have kQ:H pr=none:=s3.free fX
    have dB:pw≠pr:=by
     obtain⟨ts,e,_⟩:=id dF
     exact Aq e fX
    have hnef:pf≠pr:=Aq nG fX
    have sC:=s3.newT fX (o:=.lst [])
    have hfC:=Same.new fX (o:=.lst []) _ _ nG
    have hwC:=dF.mono (Same.new fX (o:=.lst []))
    have hrC:upd H3 pr (.lst []) pr=some (.lst (([]:α2).map V.int)):=Ab
    generalize upd H3 pr (.lst [])=HC at sC hfC hwC hrC ⊢
    obtain⟨Pr,i4⟩:∃Pv:Nat->St->Hp->Prop,∀j bR H4,Pv j bR H4↔(∃(row:α2) (o8 o9 kU:Option V),Same H H4/\H4 pf=some (.lst (aI.map V.int))/\CA K H4 pw ws/\H4 pr=some (.lst (row.map V.int))/\row.length=j/\(∀x∈row,0<=x/\x<(aI.length:Int))/\bR=[some (.ref h),some (.int num),some (.int n),some (.int aa.length),some (.ref pf),some (.ref pw),some (.int room),some (.ref pr),o8,o9,kU]):=⟨_,fun _ _ _=>qv_⟩
    refine forR Pr ((i4 _ _ _).mpr ⟨[],_,_,_,sC,hfC,hwC,hrC,rfl,(fun r hr=>by cases hr),rfl⟩) (fun j bR H4 hj h4=>?_) (fun bR H4 h4=>?_)
    ·obtain⟨row,o8,o9,kU,s4,dQ,c9,nH,dm,cC,rfl⟩:=(i4 _ _ _).mp h4
     generalize hlet:(0:Int)+(j:Nat)=letter
     obtain⟨fr,hfr1⟩:∃fr,aI[room.toNat]?=some fr:=⟨aI[room.toNat]'s!"",by simp[show room.toNat<aI.length by lia]⟩
     have kW:=j0 fr (jd_ hfr1)
     obtain⟨row0,g,r1,r2,r3,r4,r5⟩:=wf.step (x:=letter) kW.1 kW.2 s!"" s!""
     obtain⟨xs,t,z1,z2,z3⟩:=q3.atZ kW.1 r1
     nofun
     refine⟨_,s4.seqT q1,_,rfl,?_⟩
     nofun
     refine⟨_,SqL.of dQ,_,AX aT hfr1,?_⟩
     nofun
     refine⟨_,s4.seqT z1,_,z2,?_⟩
     nofun
     refine⟨_,s4.seqT z3,_,AX s!"" r2,?_⟩
     nofun
     refine⟨_,.inl (SqL.of dQ),?_⟩
     rw[ja_]
     refine⟨by lia,by lia,?_⟩
     rw[jg_]
     obtain⟨Pc,dq⟩:∃Pc:Nat->List V->St->Hp->Prop,∀c ys iS H5,Pc c ys iS H5↔(H5=H4/\∃(aQ:α2) (o:Option V),ys=aQ.map V.int/\aQ.length<=c/\(∀x∈aQ,0<=x/\x<(aI.length:Int))/\(g.toNat<c->aQ ≠ [])/\iS=[o,some (.int g),some (.ref pf)]):=⟨_,fun _ _ _ _=>qv_⟩
     refine J5 Pc ((dq _ _ _ _).mpr ⟨rfl,[],none,rfl,ji_ _,(fun x hx=>by cases hx),(fun z=>absurd z (xb_ _)),rfl⟩) s!"" (fun c ys iS H5 _ h5=>?_) (fun c ys iS H5 hc h5=>?_) (fun ys iS H5 h5 D hD=>?_)
     ·obtain⟨_,aQ,o,rfl,aj,_⟩:=(dq _ _ _ _).mp h5
      rw[ja_];exact aj
     ·obtain⟨rfl,aQ,o,rfl,aj,bu,mZ,rfl⟩:=(dq _ _ _ _).mp h5
      obtain⟨fv,hfv⟩:∃fv,aI[c]?=some fv:=⟨aI[c]'hc,by simp[hc]⟩
      have ec:(0:Int)+(c:Nat)=(c:Int):=by lia
      rw[ec]
      nofun
      refine⟨_,SqL.of dQ,_,AX s!"" (by rw[jg_];exact hfv),?_⟩
      nofun
      refine ite2 (fun he=>?_) (fun aw=>?_)
      ·refine (dq _ _ _ _).mpr ⟨rfl,aQ++[(c:Int)],_,by simp,by simp;lia,fun x hx=>?_,(fun _ z=>by simp at z),rfl⟩
       rcases jA_.mp hx with hx|hx
       ·exact bu x hx
       ·rw[ju_.mp hx];lia
      ·refine (dq _ _ _ _).mpr ⟨rfl,aQ,_,rfl,by lia,bu,fun hlt'=>?_,rfl⟩
       by_cases hgc:g.toNat=c
       ·exfalso
        have:=hfg c s!""
        rw[hfv]at this
        have e2:=jq_ this
        apply aw
        lia
       ·exact mZ s!""
     ·obtain⟨rfl,aQ,o,rfl,aj,bu,mZ,rfl⟩:=(dq _ _ _ _).mp h5
      have aw:aQ ≠ []:=mZ s!""
      have jU:0<aQ.length:=z2_.mpr aw
      have sD:=Same.new hD (o:=.lst (aQ.map V.int))
      have hmul0:0<=room*L:=zB_ aT s!""
      have hmul1:room*L<=40*6:=uR s!"" s!"" s!"" s!""
      refine⟨.inl ⟨rfl,_,SqL.of (sD _ _ nH)⟩,_,(s4.trans sD).seqT q1,_,rfl,L,rfl,.inl ⟨by lia,by lia⟩,D,rfl,_,.inl (SqL.of Ab),?_⟩
      rw[ja_]
      refine⟨_,_,_,rfl,by lia,by lia,by lia,fun x dh cq=>?_⟩
      have ik:x.toNat<aQ.length:=by lia
      refine⟨D,rfl,_,x,rfl,SqL.of Ab,_,AX dh (v:=aQ[x.toNat]) (by simp[ik]),_,sD _ _ nH,by rw[ja_];lia,(i4 _ _ _).mpr ⟨row++[aQ[x.toNat]],_,_,_,(s4.trans sD).over kQ,?_,(c9.mono sD).off (sD _ _ nH) dB,by rw[Ab];simp,by simp[dm],fun y hy=>?_,rfl⟩⟩
      ·rw[Aj hnef];exact sD _ _ dQ
      ·rcases jA_.mp hy with hy|hy
       ·exact cC y hy
       ·rw[ju_.mp hy];exact bu _ (j1_ ik)
    ·obtain⟨row,o8,o9,kU,s4,dQ,c9,nH,dm,cC,rfl⟩:=(i4 _ _ _).mp h4
     nofun
     obtain⟨ts,e0,_⟩:=id c9
     refine⟨.inl ⟨rfl,_,SqL.of e0⟩,_,.inl ⟨SqL.of nH,fun t ht=>?_⟩⟩
     obtain⟨xs,e1,e2,fT⟩:=(c9.mono (Same.new ht (o:=.tup (row.map V.int)))).push (w:=row) (SqT.of Ab)
     refine⟨xs,e1,by lia,(ao _ _ _).mpr ⟨ws++[row],_,_,_,_,_,(s4.newT ht).over hpwn,?_,fT,by simp[dj],fun r hr=>?_,rfl⟩⟩
     ·rw[Aj hnefw];exact Same.new ht _ _ dQ
     ·rcases jA_.mp hr with hr|hr
      ·exact fV r hr
      ·rw[ju_.mp hr];exact⟨by lia,cC⟩
   ·obtain⟨ws,o6,o7,o8,o9,kU,s3,nG,dF,dj,fV,rfl⟩:=(ao _ _ _).mp h3
    nofun
    refine⟨_,s3.seqT q1,_,rfl,⟨_,SqL.of nG⟩,ET (af:=[some (.ref h)]) (fun x=>match x with | .int n=>.int (mkW aa n)|_=>.non) rfl (SqL.of nG) (by rw[ja_];lia) (fun x hx R hR=>?_) (fun Dm hDm=>?_)⟩
    ·obtain⟨y,hy,rfl⟩:=CT hx
     have bP:=j0 y hy
     nofun
     refine⟨_,s3.seqT q1,_,rfl,?_⟩
     nofun
     exact⟨_,s3.seqT q2,_,Qm bP.1 bP.2,hR⟩
    have em:(aI.map V.int).map (fun x=>match x with | .int n=>.int (mkW aa n)|_=>.non)=(aI.map (mkW aa)).map V.int:=by rw[jR_,jR_];rfl
    rw[em]
    refine⟨Dm,rfl,_,.inl ⟨SqL.of Ab,fun t1 om=>?_⟩⟩
    obtain⟨xs,cq,cw⟩:=(dF.mono ((Same.new hDm (o:=.lst ((aI.map (mkW aa)).map V.int))).newT om (o:=.tup ((aI.map (mkW aa)).map V.int)))).rows
    refine⟨xs,.inl ⟨SqL.of cq,fun t2 qI=>⟨by lia,fun h9 qJ=>?_⟩⟩⟩
    refine k h9 (aI.map (mkW aa)) ws _ ((((s3.newT hDm).newT om).newT qI).newT qJ) ⟨t1,t2,SqT.of Ab,((Same.new qI).newT qJ).seqT (SqT.of Ab),(cw t2 qI).mono (Same.new qJ)⟩ ⟨cH,cX,by rw[ja_];lia,by rw[ja_];lia,by rw[ja_];lia,fun row hr=>by rw[ja_];exact fV row hr,fun m hm=>?_⟩ (by rw[ja_];lia)
    obtain⟨y,hy,rfl⟩:=jv_.mp hm
    have bP:=j0 y hy
    exact wf.mks _ (Wr bP.1 bP.2)
def JN (K:α3):Sp:=fun vs H Q _=>∃(a:Addr) (ns:α2),vs=[.ref a]/\SqL K H a (ns.map V.int)/\∀h L aa ab H',Same H H'->Ba K H' h L aa ab->Wf L aa ab->aa.length<=15->Q (.ref h) H'
def Hh   (F:Fun K "_law_house_by" "_law_house_by" B8 f fd)(T:Txt mg)
   (aU:⋯ 1 "_law_cell_at" A0 ["script","k"] (GG K) Bw Bp)
   (kX:⋯ 2 "_law_marks_by" B7 ["number","rooms"] (JL K) EA D2)
   (kY:⋯ 2 "_law_ways_by" Cn ["script","letters","rooms"] (LN K) Fl EB)
   (fJ:⋯ 2 "_law_blown" Cu ["house","number","rooms"] (KL K) EC DP)
  : nofun 3 f fd ["script"] (JN K):=by
 delta AN
 ·obtain⟨a,ns,rfl,_⟩:=h;rfl
 ·obtain⟨a,ns,rfl,hs,k⟩:=h
  have hl:=As
  refine⟨_,(Ac (Ak (i:=1) AN.nd (Am (opD0 AV) Ad (Am (opD AL) (Am (opD0 AV) (Ah aU hr.d AK (Aa (pvD 0) (Aa Ad Ae))) Ad) Ad)))
   (Ac (Ak (i:=2) AN.nd (Am (opD0 AV) Ad (Am (opD AL) (Am (opD0 AV) (Ah aU hr.d AK (Aa (pvD 0) (Aa Ad Ae))) Ad) Ad)))
   (BA (Bx (PW.pt (GK (ptT (Ar (opE B0) (Am (opD AL) (Am (opD Bz) (Ah aU hr.d AK (Aa (pvD 0) (Aa Ad Ae))) Ad) Ad) Ad (AE _))) (Ec (ptT (Ar (opD0 G2) (pvD 1) Ad (AE _))))))
   (Af (Ak (i:=2) AN.nd (Am (opD0 AV) Ad (Am (opD AL) (Am (opD Bz) (Ah aU hr.d AK (Aa (pvD 0) (Aa Ad Ae))) Ad) Ad))))
   AH)
   (Ac (Ak (i:=3) AN.nd (Ah kX hr.d AK (Aa (Ah aU hr.d AK (Aa (pvD 0) (Aa Ad Ae))) (Aa (pvD 2) Ae))))
   (Ac (Ak (i:=4) AN.nd (BN (Aa (pvD 1) (Aa (pvD 3) (Aa (Ah kY hr.d AK (Aa (pvD 0) (Aa (pvD 1) (Aa (pvD 2) Ae)))) Ae)))))
   (Ac (Ak (i:=5) AN.nd (Ah aU hr.d AK (Aa (pvD 0) (Aa Ad Ae))))
   (BA (Bx (ptT (Ar (opE B0) (Am (opD AL) (pvD 5) Ad) Ad (AE _)))
   (Af (Ak (i:=4) AN.nd (Ah fJ hr.d AK (Aa (pvD 4) (Aa (pvD 5) (Aa (Am (opD0 AV) (Am (opD0 AV) (pvD 2) Ad) (Am (opD AL) (Am (opD Bz) (pvD 5) Ad) Ad)) Ae))))))
   AH)
   (Af (AA (pvD 4)))))))))),?_⟩
  nofun
  refine⟨a,ns,0,rfl,hs,?_⟩
  nofun
  refine⟨by decide,a,ns,1,rfl,hs,?_⟩
  nofun
  have cH:1<=1+(cell ns 0+1)%6:=by lia
  have cX:1+(cell ns 0+1)%6<=6:=by lia
  generalize 1+(cell ns 0+1)%6=L at cH cX ⊢
  obtain⟨R,hR⟩:∃R:St->Hp->Prop,∀af H',R af H'↔(H'=H/\∃n:Nat,1<=n/\n<=12/\af=[some (.ref a),some (.int L),some (.int n),none,none,none]):=⟨_,fun _ _=>qv_⟩
  refine⟨by decide,R,?_,?_⟩
  ·nofun
   refine⟨a,ns,1,rfl,hs,?_⟩
   nofun
   refine⟨⟨by decide,by decide⟩,by decide,?_⟩
   have hb:R [some (V.ref a),some (V.int L),some (V.int (1+(cell ns 1+3)%5)),none,none,none] H:=(hR _ _).mpr ⟨rfl,(1+(cell ns 1+3)%5).toNat,by lia,by lia,by rw[show (((1+(cell ns 1+3)%5).toNat:Nat):Int)=1+(cell ns 1+3)%5 by lia]⟩
   refine ite2 (fun _=>ite2 (fun _=>?_) (fun _=>hb)) (fun _=>hb)
   refine⟨a,ns,1,rfl,hs,_,rfl,⟨by decide,by decide⟩,by decide,(hR _ _).mpr ⟨rfl,(1+cell ns 1 / 80%12).toNat,by lia,by lia,?_⟩⟩
   rw[show (((1+cell ns 1 / 80%12).toNat:Nat):Int)=1+cell ns 1 / 80%12 by lia]
  ·intro af H' h'
   obtain⟨rfl,n,cn,hn12,rfl⟩:=(hR _ _).mp h'
   have a9:n<=40:=by lia
   nofun
   refine⟨a,ns,2,rfl,hs,?_⟩
   nofun
   refine⟨_,n,rfl,cn,a9,fun tm aa H1 s1 iU iK hmr=>?_⟩
   nofun
   refine⟨a,ns,L,n,rfl,s1.seq hs,cH,cX,cn,a9,fun tw ab H2 s2 cw dj fV=>?_⟩
   nofun
   refine⟨by lia,fun h hh=>?_⟩
   have wf:Wf L aa ab:=⟨cH,cX,by lia,by lia,by lia,fun row hr=>by rw[iK];exact fV row hr,hmr⟩
   have gS:=(s1.trans s2).newT hh (o:=.tup [V.int L,V.ref tm,V.ref tw])
   have kZ:Ba K (upd H2 h (.tup [V.int L,V.ref tm,V.ref tw])) h L aa ab:=⟨tm,tw,SqT.of Ab,(s2.newT hh).seqT iU,cw.mono (Same.new hh)⟩
   generalize upd H2 h (.tup [V.int L,V.ref tm,V.ref tw])=H3 at gS kZ ⊢
   refine⟨a,ns,4,rfl,gS.seq hs,?_⟩
   nofun
   obtain⟨R2,qK⟩:∃R:St->Hp->Prop,∀bR H4,R bR H4↔(∃(h:Addr) (aa:α2) (ab:α1) (o1 o2 o3:Option V),Same H' H4/\Ba K H4 h L aa ab/\Wf L aa ab/\aa.length<=15/\bR=[some (.ref a),some (.int L),o1,o2,some (.ref h),o3]):=⟨_,fun _ _=>qv_⟩
   refine⟨R2,?_,?_⟩
   ·nofun
    refine⟨by decide,ite2 (fun _=>⟨⟨by decide,by decide⟩,by decide,?_⟩) (fun _=>(qK _ _).mpr ⟨h,aa,ab,_,_,_,gS,kZ,wf,by lia,rfl⟩)⟩
    have dh:=qa_ (cell ns 4 / 3) (show (3:Int)≠0 by decide)
    have cq:=jZ_ (cell ns 4 / 3) (show (0:Int)<3 by decide)
    obtain⟨m,hm,hm40⟩:∃m:Nat,(n:Int)+1+cell ns 4 / 3%3=(m:Int)/\m<=15:=⟨((n:Int)+1+cell ns 4 / 3%3).toNat,by lia,by lia⟩
    rw[hm]
    refine⟨h,L,aa,ab,_,m,rfl,kZ,wf,by lia,fun h' ar aG H4 s4 qa ip hml'=>?_⟩
    exact (qK _ _).mpr ⟨h',ar,aG,_,_,_,gS.trans s4,qa,ip,by rw[hml'];lia,rfl⟩
   ·intro bR H4 h4
    obtain⟨h,aa,ab,o1,o2,o3,s4,mj,qL,k6,rfl⟩:=(qK _ _).mp h4
    nofun
    exact k h L aa ab H4 s4 mj qL k6
def ID (K:α3):Sp:=fun vs H Q _=>∃(h:Addr) (L:Int) (aa:α2) (ab:α1) (num:Int),vs=[.ref h,.int num]/\Ba K H h L aa ab/\Wf L aa ab/\∀h' ar aG H',Same H H'->Ba K H' h' L ar aG->Wf L ar aG->ar.length=aa.length->Q (.ref h') H'
def GH   (F:Fun K "_law_turned_by" "_law_turned_by" BQ f fd)(T:Txt mg)
  : nofun 1 f fd ["house","number"] (ID K):=by
 delta A1
 ·obtain⟨h,L,aa,ab,num,rfl,_⟩:=h;rfl
 ·obtain⟨h,L,aa,ab,num,rfl,hh,wf,k⟩:=h
  have hl:=As
  have cn:=wf.n1
  have a9:=wf.n40
  obtain⟨tm,tw,q1,q2,q3⟩:=id hh
  refine⟨_,(Ac (Bk (i:=2) A1.nd rfl (rG rfl) (Ao (lenD Ai) (by rfl) T.len jF_ (Aa (Ag (ixTD An) (pvD 0) Ad) Ae)))
   (Ac (Bx (ptT (Ar (opE B0) (pvD 2) Ad (AE _)))
   (Af (AA (pvD 0)))
   AH)
   (BA (Bk (i:=3) A1.nd rfl (rG rfl) (Am VX (Bt (Aa Ad Ae)) (A9 rfl (A3 rfl) (cp:=C0) ⟨⟨rfl,rfl⟩,⟨⟨rfl,rfl⟩,rA⟩⟩ (AO rfl T.range (Aa (Am (opD0 CS) (pvD 2) Ad) Ae)) (fun _ _ _ _=>(Ap (i:=0) Ex rfl (rC rfl))) (fun _ _ _ _=>Bd) (fun _ _ _ _=>(Am (opD0 AV) Ad (Am (opD AL) (Am (opD0 AV) (pvD 0) (pvD 1)) (Am (opD0 CS) (pvD 2) Ad)))))))
   (Ac (Ak (i:=4) A1.nd (Am PD (Bt (Aa Ad Ae)) (pvD 2)))
   (Ac (Ak (i:=5) A1.nd (Am PD (Bt (Aa (BN Ae) Ae)) (pvD 2)))
   (Ac (Bl jH_ rfl (AO rfl T.range (Aa (pvD 2) Ae)) (Ap (i:=6) A1.nd rfl (rC rfl))
   (Ac (KR (Ag (ixTD An) (Ag (ixTD An) (pvD 0) Ad) (pvD 6)) (KQ (pvD 4) (Ag (ixLD AS) (pvD 3) (pvD 6)) set_list))
   (Af (KR (AD Ax rfl T.tuple jC_ (Aa (A9 rfl (A3 rfl) (cp:=C1) ⟨⟨rfl,rfl⟩,rA⟩ (Ed (Ag (ixTD An) (Ag (ixTD An) (pvD 0) Ad) (pvD 6))) (fun _ _ _ _=>(Ap (i:=0) Ey rfl (rC rfl))) (fun _ _ _ _=>Bd) (fun _ _ _ _=>(Ag (ixLD (Bh (K:=K) rfl)) (pvD 1) (pvD 0)))) Ae)) (KQ (pvD 5) (Ag (ixLD AS) (pvD 3) (pvD 6)) set_list)))))
   (Af (AA (BN (Aa (Ag (ixTD An) (pvD 0) Ad) (Aa (AD Ax rfl T.tuple jC_ (Aa (pvD 4) Ae)) (Aa (AD Ax rfl T.tuple jC_ (Aa (pvD 5) Ae)) Ae)))))))))))),?_⟩
  nofun
  refine⟨_,q1,_,rfl,?_⟩
  nofun
  refine⟨_,.inr q2,?_⟩
  rw[ja_]
  refine ite2 (fun h1=>k h aa ab H (Same.refl _) hh wf rfl) (fun h1=>?_)
  have h2:2<=aa.length:=by lia
  have ho:=Qw h2 num
  have gn:=ho.len
  generalize hspin:Qv aa.length num=o at ho gn
  refine⟨fun af H'=>Same H H'/\∃a,H' a=some (.lst (o.map V.int))/\af=[some (.ref h),some (.int num),some (.int aa.length),some (.ref a),none,none,none],?_,fun jf H1 hR=>?_⟩
  ·nofun
   refine⟨by lia,fun p hp=>⟨by lia,by lia,?_⟩⟩
   refine J5 (n:=((aa.length:Int)-1).toNat) (fun i ys ai H2=>H2=upd H p (.lst [V.int 0])/\ys=((rq i).map fun j:Nat=>1+((j:Int)+num)%((aa.length:Int)-1)).map V.int/\∃o,ai=[o,some (.int num),some (.int aa.length)]) ⟨rfl,rfl,none,rfl⟩ s!"" (fun i ys ai H2 _ h=>by rw[h.2.1];simp) (fun i ys ai H2 hi h=>?_) (fun ys ai H2 h=>?_)
   ·obtain⟨rfl,rfl,o,rfl⟩:=h
    nofun
    refine⟨by lia,?_⟩
    rw[x1_,show (0:Int)+(i:Nat)=(i:Int) by lia]
    simp
   ·obtain⟨rfl,rfl,o,rfl⟩:=h
    intro D hD
    have n1:p≠D:=fun z=>by rw[<-z,Ab]at hD;cases hD
    refine⟨D,rfl,_,by rw[Aj n1];exact Ab,_,Ab,by simp;lia,fun q hq=>⟨((Same.new hp).newT hD).newT hq,q,?_,rfl⟩⟩
    rw[Ab,<-hspin,show ((aa.length:Int)-1).toNat=aa.length-1 by lia]
    rfl
  obtain⟨s1,a,ha,rfl⟩:=hR
  have lW:SqL K H1 a (o.map V.int):=SqL.of ha
  nofun
  rw[jg_]
  refine⟨by lia,fun p hp=>⟨_,Ab,by lia,by lia,by simp;lia,fun p1 bG=>⟨by lia,fun p2 aY=>⟨by lia,fun p3 fz=>⟨_,Ab,by lia,by lia,by simp;lia,fun p4 eO=>?_⟩⟩⟩⟩⟩
  rw[Kd]at aY fz eO ⊢
  rw[Kd]
  have sA:=(((((Same.new (o:=.lst [V.int 0]) hp).newT (o:=.lst (rp aa.length (V.int 0))) bG).newT (o:=.tup []) aY).newT (o:=.lst [V.ref p2]) fz).newT (o:=.lst (rp aa.length (V.ref p2))) eO)
  have n41:p4≠p1:=(AI (AI (AI eO).1).1).2
  have cI:upd (upd (upd (upd (upd H1 p (.lst [V.int 0])) p1 (.lst (rp aa.length (V.int 0)))) p2 (.tup [])) p3 (.lst [V.ref p2])) p4 (.lst (rp aa.length (V.ref p2))) p1=some (.lst ((rp aa.length (0:Int)).map V.int)):=by
   rw[zq_]
   exact Same.new eO _ _ (Same.new fz _ _ (Same.new aY _ _ Ab))
  have jy:CA K (upd (upd (upd (upd (upd H1 p (.lst [V.int 0])) p1 (.lst (rp aa.length (V.int 0)))) p2 (.tup [])) p3 (.lst [V.ref p2])) p4 (.lst (rp aa.length (V.ref p2)))) p4 (rp aa.length []):=by
   refine⟨rp aa.length p2,by rw[Ab,zq_],by simp,fun i t w e1 e2=>?_⟩
   have e3:t=p2:=rY (jd_ e1)
   have e4:w=[]:=rY (jd_ e2)
   subst e3 e4
   exact SqT.of (Same.new eO _ _ (Same.new fz _ _ Ab))
  have hp1n:H1 p1=none:=(AI bG).1
  have hp4n:H1 p4=none:=(AI (AI (AI (AI eO).1).1).1).1
  generalize upd (upd (upd (upd (upd H1 p (.lst [V.int 0])) p1 (.lst (rp aa.length (V.int 0)))) p2 (.tup [])) p3 (.lst [V.ref p2])) p4 (.lst (rp aa.length (V.ref p2)))=H2 at sA cI jy ⊢
  refine⟨by lia,by lia,?_⟩
  obtain⟨Pn,dn⟩:∃Pn:Nat->St->Hp->Prop,∀i aE H3,Pn i aE H3↔(∃(o5:Option V),Same H1 H3/\H3 p1=some (.lst ((CB o (fun r=>aa.getD r 0) i (rp aa.length 0)).map V.int))/\CA K H3 p4 (CB o (fun r=>(ab.getD r []).map (ordW o)) i (rp aa.length []))/\aE=[some (.ref h),some (.int num),some (.int aa.length),some (.ref a),some (.ref p1),some (.ref p4),o5]):=⟨_,fun _ _ _=>qv_⟩
  refine forR Pn ((dn _ _ _).mpr ⟨none,sA,cI,jy,rfl⟩) (fun i aE HT hi h3=>?_) (fun aE H3 h3=>?_)
  ·obtain⟨o5,sT,hmT,p0,rfl⟩:=(dn _ _ _).mp h3
   have ei:(0:Int)+(i:Nat)=(i:Int):=by lia
   rw[ei]
   have hxa:=ho.at (r:=(i:Int)) s!"" s!""
   rw[jg_]at hxa
   obtain⟨mT,dh,cq⟩:=hxa
   obtain⟨tm3,tw3,y1,y2,y3⟩:=hh.mono (s1.trans sT)
   have jt:aa[i]?=some (aa.getD i 0):=by rw[jj_,jh_ hi];rfl
   obtain⟨row,hrow,fC,dm⟩:=wf.row (r:=(i:Int)) s!"" s!""
   rw[jg_]at hrow
   nofun
   refine⟨_,y1,_,rfl,_,rfl,_,y2,_,Ee (by rw[je_,jt];rfl),_,sT.seq lW,_,Ee (by rw[je_,mT];rfl),?_⟩
   refine⟨_,_,rfl,hmT,(ordW o i).toNat,Nz dh (by rw[ja_,CI,qL_];exact cq),?_⟩
   have sU:Same H1 (upd HT p1 (.lst (((CB o (fun r=>aa.getD r 0) i (rp aa.length 0)).map V.int).set (ordW o i).toNat (V.int (aa.getD i 0))))):=sT.over hp1n
   have hmU:upd HT p1 (.lst (((CB o (fun r=>aa.getD r 0) i (rp aa.length 0)).map V.int).set (ordW o i).toNat (V.int (aa.getD i 0)))) p1=some (.lst ((CB o (fun r=>aa.getD r 0) (i+1) (rp aa.length 0)).map V.int)):=by
    rw[Ab,CB,tW]
   have hwU:=p0.off (ys:=((CB o (fun r=>aa.getD r 0) i (rp aa.length 0)).map V.int).set (ordW o i).toNat (V.int (aa.getD i 0))) hmT n41
   generalize upd HT p1 (.lst (((CB o (fun r=>aa.getD r 0) i (rp aa.length 0)).map V.int).set (ordW o i).toNat (V.int (aa.getD i 0))))=HU at sU hmU hwU ⊢
   obtain⟨tm4,tw4,z1,z2,z3⟩:=hh.mono (s1.trans sU)
   obtain⟨xs4,t4,c1,c2,c3⟩:=z3.at hrow
   refine⟨_,z1,_,rfl,_,rfl,_,c1,_,c2,_,rfl,⟨_,c3⟩,?_⟩
   obtain⟨f,hf⟩:∃f:V->V,∀g:Int,f (V.int g)=.int (ordW o g):=⟨fun v=>match v with | .int g=>.int (ordW o g)|_=>.non,fun _=>rfl⟩
   refine ES (xs:=row.map V.int) (af:=[some (.ref a)]) f rfl c3 (by rw[ja_];have:=wf.l6;lia) (fun v hv R hR=>?_) (fun D hD=>?_)
   ·obtain⟨g,hg,rfl⟩:=jv_.mp hv
    rw[hf]at hR
    have jN:=(wf.rows row fC).2 g hg
    nofun
    exact⟨_,sU.seq lW,_,AX jN.1 (ho.at jN.1 jN.2).1,hR⟩
   ·have em:(row.map V.int).map f=(row.map (ordW o)).map V.int:=by
     rw[jR_,jR_]
     exact qo_ fun g _=>hf g
    rw[em]
    refine⟨D,rfl,_,.inl ⟨SqL.of Ab,fun l fK=>?_⟩⟩
    have sV:=(Same.new (o:=.lst ((row.map (ordW o)).map V.int)) hD).newT (o:=.tup ((row.map (ordW o)).map V.int)) fK
    obtain⟨xs8,e1,e2,gN⟩:=(hwU.mono sV).set (j:=(ordW o i).toNat) (w:=row.map (ordW o)) (SqT.of Ab)
    refine⟨_,(sU.trans sV).seq lW,_,Ee (by rw[je_,mT];rfl),xs8,_,rfl,e1,(ordW o i).toNat,Nz dh (by rw[e2,CI,qL_];exact cq),(dn _ _ _).mpr ⟨_,(sU.trans sV).over hp4n,?_,?_,rfl⟩⟩
    ·rw[Aj n41.symm];exact sV _ _ hmU
    ·rw[CB,jj_,hrow];exact gN
  ·obtain⟨o5,s3,ot,dF,rfl⟩:=(dn _ _ _).mp h3
   nofun
   obtain⟨tm3,tw3,y1,y2,y3⟩:=hh.mono (s1.trans s3)
   refine⟨_,y1,_,rfl,_,.inl ⟨SqL.of ot,fun l fK=>?_⟩⟩
   obtain⟨xs,cq,iH⟩:=(dF.mono (Same.new (o:=.tup ((Qr aa.length o aa).map V.int)) fK)).rows
   refine⟨_,.inl ⟨SqL.of cq,fun l1 bo=>⟨by lia,fun p5 cJ=>?_⟩⟩⟩
   exact k p5 _ _ _ (((s1.trans s3).newT fK).newT bo |>.newT cJ) ⟨l,l1,SqT.of Ab,SqT.of (Same.new cJ _ _ (Same.new bo _ _ Ab)),(iH l1 bo).mono (Same.new cJ)⟩ (UL wf ho) (Dd _ _ _)
def Rr (K:α3):Sp:=fun vs H Q _=>∃(a h:Addr) (ns:α2) (L:Int) (aa:α2) (ab:α1),vs=[.ref a,.ref h]/\SqL K H a (ns.map V.int)/\Ba K H h L aa ab/\Wf L aa ab/\∀(m:Nat) H',m<=3->many L (m+2)<=341->Same H H'->Q (.int m) H'
def IE   (F:Fun K "_law_more_by" "_law_more_by" Co f fd)(T:Txt mg)
   (aU:⋯ 1 "_law_cell_at" A0 ["script","k"] (GG K) Bw Bp)
  : nofun 2 f fd ["script","house"] (Rr K):=by
 delta Es
 ·obtain⟨a,h,ns,L,aa,ab,rfl,_⟩:=h;rfl
 ·obtain⟨a,h,ns,L,aa,ab,rfl,hs,hh,wf,k⟩:=h
  have hl:=As
  refine⟨_,(Ac (Ak (i:=2) Es.nd (Am (opD Bz) (Ah aU hr.d AK (Aa (pvD 0) (Aa Ad Ae))) Ad))
   (Ac (Bx (ptT (Ar (opD0 Ur) (Ao (lenD Ai) (by rfl) T.len jF_ (Aa (Ag (ixTD An) (pvD 1) Ad) Ae)) Ad (AE _)))
   (Af (AA (Am (opD AL) (pvD 2) Ad)))
   AH)
   (Ac (Bx (PW.pt (GK (ptT (Ar (opD0 G2) (Ao (lenD Ai) (by rfl) T.len jF_ (Aa (Ag (ixTD An) (pvD 1) Ad) Ae)) Ad (AE _))) (Ec (ptT (Ar (opE B0) (Am (opD AL) (pvD 2) Ad) Ad (AE _))))))
   (Af (AA (Ag (ixLD AS) (Bt (Aa Ad (Aa Ad (Aa Ad (Aa Ad (Aa Ad (Aa Ad Ae))))))) (Am (opD0 CS) (Ag (ixTD An) (pvD 1) Ad) Ad))))
   AH)
   (Ac (Bx (ptT (Ar (opE B0) (Am (opD AL) (pvD 2) Ad) Ad (AE _)))
   (Af (AA (Ag (ixLD AS) (Bt (Aa Ad (Aa Ad (Aa Ad (Aa Ad (Aa Ad (Aa Ad Ae))))))) (Am (opD0 CS) (Ag (ixTD An) (pvD 1) Ad) Ad))))
   AH)
   (Af (AA (Am (opD AL) (pvD 2) (Ag (ixLD AS) (Bt (Aa Ad (Aa Ad (Aa Ad (Aa Ad (Aa Ad (Aa Ad Ae))))))) (Am (opD0 CS) (Ag (ixTD An) (pvD 1) Ad) Ad))))))))),?_⟩
  nofun
  obtain⟨mm,wv,q1,q2,q3⟩:=id hh
  have cH:=wf.l1
  have cX:=wf.l6
  refine⟨a,ns,0,rfl,hs,_,rfl,⟨by decide,by decide⟩,_,q1,_,rfl,mm,rfl,_,.inr q2,?_⟩
  generalize cell ns 0 / 6=c
  rw[ja_]
  have hL:L=1\/L=2\/L=3\/L=4\/L=5\/L=6:=by lia
  have m0:many L (0+2)<=341:=by rcases hL with rfl|rfl|rfl|rfl|rfl|rfl<;>decide
  have m1:many L (1+2)<=341:=by rcases hL with rfl|rfl|rfl|rfl|rfl|rfl<;>decide
  have m2:many L (2+2)<=341:=by rcases hL with rfl|rfl|rfl|rfl|rfl|rfl<;>decide
  have m3:L<=4->many L (3+2)<=341:=fun h=>by
   rcases hL with rfl|rfl|rfl|rfl|rfl|rfl
   all_goals first|decide|lia
  -- each answer
  have qM:∀(c:Int) H',Same H H'->0<=c->c<=3->(c=3->L<=4)->Q (.int c) H':=fun c H' hS h0 h3 hc=>by
   obtain⟨m,rfl⟩:∃m:Nat,c=(m:Int):=⟨c.toNat,by lia⟩
   refine k m H' s!"" ?_ hS
   rcases (show m=0\/m=1\/m=2\/m=3 by lia) with rfl|rfl|rfl|rfl
   ·exact m0
   ·exact m1
   ·exact m2
   ·exact m3 (hc rfl)
  refine ite2 (fun _=>⟨by decide,qM _ _ (Same.refl _) s!"" s!"" s!""⟩) (fun _=>?_)
  refine⟨_,q1,_,rfl,mm,rfl,_,.inr q2,?_⟩
  rw[ja_]
  refine ite2 (fun h3=>⟨by decide,ite2 (fun _=>⟨by decide,fun p hp=>?_⟩) (fun _=>⟨by decide,ite2 (fun _=>⟨by decide,fun p hp=>?_⟩) (fun _=>⟨by decide,fun p hp=>?_⟩)⟩)⟩) (fun h3=>⟨by decide,ite2 (fun _=>⟨by decide,fun p hp=>?_⟩) (fun _=>⟨by decide,fun p hp=>?_⟩)⟩)
  all_goals
   refine⟨_,(Same.new hp).seqT q1,_,rfl,L,rfl,_,SqL.of Ab,?_⟩
   clear hh wf q1 q2 q3 k m0 m1 m2 m3
   rcases hL with rfl|rfl|rfl|rfl|rfl|rfl
   all_goals first
    | exact⟨_,rfl,qM _ _ (Same.new hp) (by decide) (by decide) (by decide)⟩
    | exact⟨_,rfl,_,rfl,by decide,qM _ _ (Same.new hp) s!"" s!"" s!""⟩
def Uh (K:α3):Sp:=fun vs H Q _=>∃(a:Addr) (L:Int) (ws:α2),vs=[.ref a,.int L]/\SqT K H a (ws.map V.int)/\isW L ws=true/\Q (.bl true) H
def IF   (F:Fun K "_law_is_word" "_law_is_word" Cs f fd)(T:Txt mg)
  : nofun 1 f fd ["found","letters"] (Uh K):=by
 delta Et
 ·obtain⟨a,L,ws,rfl,_⟩:=h;rfl
 ·obtain⟨a,L,ws,rfl,ha,hv,k⟩:=h
  refine⟨_,(Ac (Bx (Ji (ptB (HN (Ao CU rfl T.isinstance xm_ (Aa (pvD 0) (Aa (JU (v:=.ty "tuple") rfl T.tuple jC_ rfl) Ae))))))
   (Af (AA L6))
   AH)
   (Ac (Bl jH_ rfl (Ed (pvD 0)) (Ap (i:=2) Et.nd rfl (rC rfl))
   (Af (Bx (PW.pt (N8 (Ji (ptB (HN (Ao CU rfl T.isinstance xm_ (Aa (pvD 2) (Aa (JU (v:=.ty "int") rfl T.int vO rfl) Ae)))))) (N8 (ptB (HN (Ao CU rfl T.isinstance xm_ (Aa (pvD 2) (Aa (JU (v:=.ty "bool") rfl T.bool vG rfl) Ae))))) (N8 (ptT (Ar (opD0 G2) (pvD 2) Ad (AE _))) (M9 (ptT (Ar (opD0 Xb) (pvD 2) (pvD 1) (AE _))))))))
   (Af (AA L6))
   AH)))
   (Af (AA L6)))),?_⟩
  nofun
  refine⟨_,_,.tup ha,Nn,_,J6,?_⟩
  rw[if_neg (by decide)]
  refine⟨⟨_,ha⟩,forT (xs:=ws.map V.int) (fun i ai H2=>H2=H/\∃o,ai=[some (.ref a),some (.int L),o]) ⟨rfl,none,rfl⟩ (fun i ai H2 _ h=>by rw[h.1];exact ha) (fun i x ai H2 hx h=>?_) (fun ai H2 h=>?_)⟩
  ·obtain⟨rfl,o,rfl⟩:=h
   obtain⟨n,hn,rfl⟩:=BP hx
   have bP:=Av.mp hv n (jd_ hn)
   nofun
   refine⟨_,_,.int _,Nn,_,J6,?_⟩
   rw[if_neg (by decide)]
   refine⟨_,_,.int _,Nn,_,La,?_⟩
   rw[if_neg (by decide),if_neg s!"",if_neg s!""]
   exact⟨_,rfl⟩
  ·obtain⟨rfl,o,rfl⟩:=h
   nofun
   exact k
def Cj.tsq2 {K:α3}    (h:Cj T H H')(hT:H T=some (.tbl ps)):TSq K H H':=fun b ys q=>h.tsq hT q
def Ba.monoQ {K:α3}      (x:Ba K H h L aa ab)(e:TSq K H H'):Ba K H' h L aa ab:=by
 obtain⟨m,w,h1,h2,ts,h3,h4,h5⟩:=x
 exact⟨m,w,e _ _ h1,e _ _ h2,ts,e _ _ h3,h4,fun i t r a b=>e _ _ (h5 i t r a b)⟩
def Rt:∀(l s:α1) (w:α2),w∈l.foldl ins s->w∈s\/w∈l
 |[],s,w,h=>.inl h
 |v::l,s,w,h=>by
  rw[q1_]at h
  rcases Rt l _ w h with h|h
  ·unfold ins at h
   split at h
   ·exact .inl h
   ·rcases jA_.mp h with h|h
    ·exact .inl h
    ·rw[ju_.mp h];exact .inr jp_
  ·exact .inr (jl_ _ h)
def Ru {K:α3}  {os:List aS.Wd}(h:WsT H os):AB K H (aS.wv os) (os.map (·.2)):=by
 refine⟨by simp[aS.wv],fun i w hw=>?_⟩
 rw[je_]at hw
 cases e:os[i]? with
 |none=>rw[e]at hw;cases hw
 |some o=>
  rw[e]at hw;cases hw
  exact⟨o.1,by rw[aS.wv,je_,e];rfl,h o (jd_ e)⟩
def Rv:∀(l s:α1) (w:α2),(w∈s\/w∈l)->w∈l.foldl ins s
 |[],s,w,h=>h.resolve_right (by simp)
 |v::l,s,w,h=>by
  rw[q1_]
  refine Rv l _ w ?_
  unfold ins
  rcases h with h|h
  ·left
   split
   ·exact h
   ·exact qc_ _ h
  ·rcases jD_.mp h with rfl|h
   ·left
    split
    ·rename_i hh;exact hh
    ·exact jy_ _ jp_
   ·exact .inr h
def IG {l:α1}{w:α2}:w∈l.foldl ins []↔w∈l:=⟨fun h=>(Rt l [] w h).resolve_left (by simp),fun h=>Rv l [] w (.inr h)⟩
def KO {ab:α1}{n:Nat}{df:α1}{E:Nat->α1}{w:α2}:w∈allW ab n df E ↔ ∃r,r<n/\∃v∈df,∃e∈E (Az ab (wayW ab r++v)).toNat,w=wayW ab r++v++e:=by
 unfold allW oneW
 constructor
 ·intro h
  obtain⟨r,hr,h⟩:=zN_.mp h
  obtain⟨v,hv,h⟩:=zN_.mp h
  obtain⟨e,he,rfl⟩:=jv_.mp h
  exact⟨r,jE_.mp hr,v,hv,e,he,rfl⟩
 ·rintro⟨r,hr,v,hv,e,he,rfl⟩
  exact zN_.mpr ⟨r,jE_.mpr hr,zN_.mpr ⟨v,hv,jv_.mpr ⟨e,he,rfl⟩⟩⟩
def KP   (hL:0<L)  : v∈Dq L m↔isW L v=true/\v.length<=m+1:=by
 constructor
 ·intro h
  obtain⟨k',dk,rfl⟩:=jv_.mp h
  have hv:=C9 hL k'
  refine⟨hv,?_⟩
  have h1:=(EV hL hv (m+1)).mpr (by
   rw[Ek]
   have:=jE_.mp dk
   show (k':Int)<many L (m+2)
   lia)
  lia
 ·rintro⟨hv,hl⟩
  have h1:=(EV hL hv (m+1)).mp s!""
  obtain⟨k',dk⟩:∃k':Nat,place L v=(k':Int):=⟨(place L v).toNat,by have:=Lh hL hv;lia⟩
  refine jv_.mpr ⟨k',jE_.mpr ?_,?_⟩
  ·have:(k':Int)<many L (m+2):=by rw[<-dk];exact h1
   lia
  ·exact Qf hL (C9 hL k') hv (by rw[Ek,dk])
def LO    (du:Can L ms vs)  (hr:r<ms.length):((r:Int),wayW vs r)∈Au vs/\isW L (wayW vs r)=true/\Az vs (wayW vs r)=(r:Int)/\(wayW vs r).length<=40:=by
 obtain⟨top,bf⟩:=Bfs.mk du.wf
 have hord:=du.order
 unfold rOf at hord
 have bP:((r:Int),wayW vs r)∈Au vs:=by
  have:(r:Int)∈(Au vs).map (·.1):=by rw[hord];exact jv_.mpr ⟨r,jE_.mpr hr,rfl⟩
  obtain⟨e,he,e1⟩:=jv_.mp this
  obtain⟨g,w⟩:=e
  have e1:g=(r:Int):=e1
  subst e1
  rw[MU bf.nod he]
  exact he
 have ou:=bf.wd _ bP
 obtain⟨j,hj⟩:=jN_.mp bP
 have h1:=bf.sh j _ hj
 have h2:=(jc_.mp hj).1
 have h3:=bf.len
 have h4:=du.wf.n40
 exact⟨bP,ou.1,ou.2,by dsimp only at h1;lia⟩
def LP {α:Type}{p q:α->Bool}:∀{l:List α},(∀x∈l,p x=true->q x=true)->(∃x∈l,q x=true/\p x=false)->l.countP p<l.countP q
 |[],_,⟨x,hx,_⟩=>by cases hx
 |a::l,h,⟨x,hx,h1,h2⟩=>by
  have hm:l.countP p<=l.countP q:=List.countP_mono_left fun y hy=>h y (jl_ _ hy)
  rw[ux,ux]
  rcases jD_.mp hx with rfl|hx
  ·rw[h1,h2];simp;lia
  ·have:=LP (l:=l) (fun y hy=>h y (jl_ _ hy)) ⟨x,hx,h1,h2⟩
   have ha:=h a jp_
   by_cases pa:p a=true
   ·rw[pa,ha pa];simp;lia
   ·have:p a=false:=by simpa using pa
    rw[this]
    have:0<=(if q a=true then 1 else 0):=jY_ _
    simp only[jS_,qS_];lia
def N2 {α:Type}[DecidableEq α]:∀{l m:List α},l.Nodup->(∀x∈l,x∈m)->l.length<=m.length
 |[],m,_,_=>jY_ _
 |a::l,m,hn,hs=>by
  have fZ:=qK_.mp hn
  have h1:=N2 (l:=l) (m:=m.erase a) fZ.2 fun x hx=>by
   have:x≠a:=fun z=>fZ.1 (z ▸ hx)
   exact (xj_ this).mpr (hs x (jl_ _ hx))
  have h2:=qY_ (hs a jp_)
  have h3:=qH_ (hs a jp_)
  rw[jT_];lia
def IH {f:Nat->Nat}{n:Nat}(h:∀i j,i<n->j<n->f i=f j->i=j):((rq n).map f).Nodup:=by
 rw[List.nodup_iff_pairwise_ne,xO_]
 refine (List.nodup_iff_pairwise_ne.mp zM_).imp_of_mem fun {a b} ha hb b9 z=>b9 (h a b (jE_.mp ha) (jE_.mp hb) z)
def BL   (hu:isW L u=true)(hv:isW L v=true):isW L (u++v)=true:=by
 rw[Av]at hu hv ⊢
 intro x hx
 rcases jA_.mp hx with hx|hx
 ·exact hu x hx
 ·exact hv x hx
section
variable {L n m:Nat} {ms mr:α2} {vs wr:α1} {ah:Nat->α2} {E:Nat->α1}
structure Asked (L n m:Nat)(ms mr:α2)(vs wr:α1)(ah:Nat->α2)(E:Nat->α1):Prop where
 hn:n=ms.length
 w1:Wf L ms vs
 w2:Wf L mr wr
 sz:mr.length<=n+m
 acW:∀r,r<n->isW L (ah r)=true/\Az vs (ah r)=(r:Int)
 ac0:ah 0=[]
 eW:∀r,r<n->∀e∈E r,isW L e=true
 e0:∀r,r<n->[]∈E r
 sep:∀r s,r<n->s<n->r≠s->∃e,e∈E r/\e∈E s/\mkR ms (Bv vs r e)≠mkR ms (Bv vs s e)
 agr:∀r,r<n->∀v,isW L v=true->v.length<=m+1->∀e∈E (Az vs (ah r++v)).toNat,mkR ms (Az vs (ah r++v++e))=mkR mr (Az wr (ah r++v++e))
def LQ (ab:α1)(u v:α2):Az ab (u++v)=Bv ab (Az ab u) v:=by unfold Bv Az;rw[qE_]
def Asked.fwd (A:Asked L n m ms mr vs wr ah E)   (hr:r<n)(bQ:r'<n)(hv:isW L v=true)(nA:isW L v'=true)(l:v.length<=m+1)(l':v'.length<=m+1)(e:Az wr (ah r++v)=Az wr (ah r'++v')):Az vs (ah r++v)=Az vs (ah r'++v'):=by
 refine j2_ fun aw=>?_
 have h1:=L2.Wf.walk' A.w1 (BL (A.acW r hr).1 hv)
 have h2:=L2.Wf.walk' A.w1 (BL (A.acW r' bQ).1 nA)
 have hn:=A.hn
 obtain⟨x,ha,hb,hd⟩:=A.sep (Az vs (ah r++v)).toNat (Az vs (ah r'++v')).toNat s!"" s!"" s!""
 have g1:=A.agr r hr v hv l x ha
 have g2:=A.agr r' bQ v' nA l' x hb
 rw[LQ vs,LQ wr]at g1 g2
 rw[xr_ h1.1,xr_ h2.1,g1,g2,e]at hd
 exact hd rfl
def Eb (L n:Nat)(wr:α1)(ah:Nat->α2)(k q:Nat):Prop:=∃r,r<n/\∃v,isW L v=true/\v.length<=k/\Az wr (ah r++v)=(q:Int)
def GI (A:Asked L n m ms mr vs wr ah E){k:Nat}(h:∀q,Eb L n wr ah (k+1) q->Eb L n wr ah k q):∀j q,Eb L n wr ah (k+j) q->Eb L n wr ah k q
 |0,q,g=>g
 |j+1,q,⟨r,hr,v,hv,hl,e⟩=>by
  by_cases aq:v.length<=k+j
  ·exact GI A h j q ⟨r,hr,v,hv,aq,e⟩
  ·have aw:v ≠ []:=fun z=>by subst z;simp at aq
   have ev:=(List.dropLast_concat_getLast aw).symm
   have hvv:=Av.mp hv
   have hd:isW L v.dropLast=true:=Av.mpr fun x hx=>hvv x (List.dropLast_subset _ hx)
   have hx:=hvv _ (List.getLast_mem aw)
   have w1:=L2.Wf.walk' A.w2 (BL (A.acW r hr).1 hd)
   obtain⟨r2,fB,v2,ow,bE,e2⟩:=GI A h j (Az wr (ah r++v.dropLast)).toNat ⟨r,hr,v.dropLast,hd,by rw[List.length_dropLast];lia,by lia⟩
   refine h q ⟨r2,fB,v2++[v.getLast aw],BL ow (Av.mpr fun x fi=>by rw[ju_.mp fi];exact hx),by rw[jn_];simpa using bE,?_⟩
   rw[<-e]
   conv=>rhs;rw[ev]
   rw[<-qg_,<-qg_,BI,BI,e2,xr_ w1.1]
open Classical in
def LR (A:Asked L n m ms mr vs wr ah E):∀q,Eb L n wr ah (m+1) q->Eb L n wr ah m q:=by
 refine j2_ fun dM=>?_
 have up:∀k q,Eb L n wr ah k q->Eb L n wr ah (k+1) q:=fun k q ⟨r,hr,v,hv,hl,e⟩=>⟨r,hr,v,hv,by lia,e⟩
 have lt:∀k q,Eb L n wr ah k q->q<mr.length:=fun k q ⟨r,hr,v,hv,hl,e⟩=>by
  have:=L2.Wf.walk' A.w2 (BL (A.acW r hr).1 hv)
  lia
 have iJ:∀k,k<=m+1->n+k<=(rq mr.length).countP (fun q=>decide (Eb L n wr ah k q)):=by
  intro k
  induction k with
  |zero=>
   intro _
   rw[List.countP_eq_length_filter]
   have:=N2 (l:=(rq n).map fun r=>(Az wr (ah r)).toNat) (m:=(rq mr.length).filter fun q=>decide (Eb L n wr ah 0 q)) (IH fun i j hi hj e=>?_) (fun x hx=>?_)
   ·rw[ja_,qh_]at this
    lia
   ·have wi:=L2.Wf.walk' A.w2 (A.acW i hi).1
    have wj:=L2.Wf.walk' A.w2 (A.acW j hj).1
    have:=A.fwd (v:=[]) (v':=[]) hi hj rfl rfl (by simp) (by simp) (by rw[ql_,ql_];lia)
    rw[ql_,ql_,(A.acW i hi).2,(A.acW j hj).2]at this
    lia
   ·obtain⟨r,hr,rfl⟩:=jv_.mp hx
    have hr:=jE_.mp hr
    have wi:=L2.Wf.walk' A.w2 (A.acW r hr).1
    refine xo_.mpr ⟨jE_.mpr s!"",qb_ ⟨r,hr,[],rfl,ji_ _,by rw[ql_];lia⟩⟩
  |succ k ih=>
   intro hk
   have h1:=ih s!""
   have hex:∃q,Eb L n wr ah (k+1) q/\¬ Eb L n wr ah k q:=by
    refine j2_ fun hh=>dM ?_
    have st:∀q,Eb L n wr ah (k+1) q->Eb L n wr ah k q:=fun q g=>j2_ fun z=>hh ⟨q,g,z⟩
    intro q g
    have e:m+1=k+(m+1-k):=by lia
    rw[e]at g
    obtain⟨r,hr,v,hv,hl,e⟩:=GI A st _ q g
    exact⟨r,hr,v,hv,by lia,e⟩
   obtain⟨q,g1,g2⟩:=hex
   have h2:=LP (l:=rq mr.length) (p:=fun q=>decide (Eb L n wr ah k q)) (q:=fun q=>decide (Eb L n wr ah (k+1) q)) (fun x _ hx=>qb_ (up k x (qr_ hx))) ⟨q,jE_.mpr (lt _ q g1),qb_ g1,qk_ g2⟩
   lia
 have h1:=iJ (m+1) (ji_ _)
 have h2:=List.countP_le_length (l:=rq mr.length) (p:=fun q=>decide (Eb L n wr ah (m+1) q))
 rw[qh_]at h2
 have:=A.sz
 lia
def Asked.all (A:Asked L n m ms mr vs wr ah E):∀w,isW L w=true->mkR ms (Az vs w)=mkR mr (Az wr w):=by
 have hn:=A.hn
 have n1:=A.w1.n1
 have key:∀w:α2,isW L w.reverse=true->∃r,r<n/\∃v,isW L v=true/\v.length<=m/\Az wr w.reverse=Az wr (ah r++v)/\Az vs w.reverse=Az vs (ah r++v):=by
  intro w
  induction w with
  |nil=>exact fun _=>⟨0,by lia,[],rfl,jY_ _,by rw[A.ac0];rfl,by rw[A.ac0];rfl⟩
  |cons x w ih=>
   intro hw
   rw[t9]at hw ⊢
   have cM:isW L w.reverse=true:=Av.mpr fun y hy=>Av.mp hw y (qc_ _ hy)
   have hx:isW L [x]=true:=Av.mpr fun y hy=>Av.mp hw y (jy_ _ hy)
   obtain⟨r,hr,v,hv,hl,e1,e2⟩:=ih cM
   have qN:=BL hv hx
   have w1:=L2.Wf.walk' A.w2 (BL (A.acW r hr).1 qN)
   obtain⟨r2,fB,v2,ow,bE,e3⟩:=LR A (Az wr (ah r++(v++[x]))).toNat ⟨r,hr,v++[x],qN,by rw[jn_];simpa using hl,by lia⟩
   have e4:Az wr (ah r++(v++[x]))=Az wr (ah r2++v2):=by rw[e3];lia
   refine⟨r2,fB,v2,ow,bE,?_,?_⟩
   ·rw[<-e4,BI,e1,<-qg_,BI]
   ·rw[<-A.fwd hr fB qN ow (by rw[jn_];simpa using hl) s!"" e4,BI,e2,<-qg_,BI]
 intro w hw
 obtain⟨r,hr,v,hv,hl,e1,e2⟩:=key w.reverse (by rw[q3_];exact hw)
 rw[q3_]at e1 e2
 rw[e1,e2]
 have h1:=L2.Wf.walk' A.w1 (BL (A.acW r hr).1 hv)
 have:=A.agr r hr v hv s!"" [] (A.e0 _ s!"")
 rw[ql_]at this
 exact this
end
def Q7 {kvs:List (List Key×V)}{ws:α1}(h:E6 (ws.foldl ins []) kvs){w:α2}:(valV kvs (wkey w)).isSome=decide (w∈ws):=by
 rw[h.some_iff w]
 exact decide_eq_decide.mpr IG
def SR {L:Nat}{aa:α2}{ab:α1}{m:Nat}(wf:Wf L aa ab){w:α2}(h:w∈Jh L aa ab m):w∈N0 L aa ab m:=by
 have bK:=sWf wf
 have fin:=Fin17.mk' (b:=bW (sM L aa ab) (sW L aa ab)) (L:=L) bK.n1 bK.n40
 unfold Jh at h
 unfold N0
 rw[KO]at h ⊢
 obtain⟨r,hr,v,hv,e,he,rfl⟩:=h
 refine⟨r,hr,v,hv,e,?_,rfl⟩
 unfold ownW at he
 rcases jD_.mp he with rfl|he
 ·exact jd_ fin.wc.w0
 ·exact KI he
def SS     (hr:r<n)(hs:s<n)  (he:ws.find? (fun v=>decide (b v s≠b v r))=some e):e∈ownW n b ws r/\e∈ownW n b ws s:=by
 unfold ownW
 refine⟨jl_ _ ((HI ws _).mpr ⟨s,jE_.mpr hs,he⟩),jl_ _ ((HI ws _).mpr ⟨r,jE_.mpr hr,?_⟩)⟩
 rw[<-he]
 congr 1
 exact funext fun v=>decide_eq_decide.mpr ⟨qs_,qs_⟩
def W7    (du:Can L ms vs)  (hr:r<ms.length)(hs:s<ms.length)(aw:r≠s):∃e,(wcOf ms.length L (bW ms vs)).1.find? (fun v=>decide (bW ms vs v s≠bW ms vs v r))=some e/\isW L e=true/\bW ms vs e s≠bW ms vs e r/\e∈(wcOf ms.length L (bW ms vs)).1:=by
 have fin:=Fin17.mk' (b:=bW ms vs) (L:=L) du.wf.n1 du.wf.n40
 cases hf:(wcOf ms.length L (bW ms vs)).1.find? (fun v=>decide (bW ms vs v s≠bW ms vs v r)) with
 |some e=>
  have hm:=q9_ hf
  have hd:=z4_ hf
  exact⟨e,rfl,Av.mpr (fin.wc.ok e hm),qr_ hd,hm⟩
 |none=>
  refine absurd ?_ aw
  have aA:=xX_.mp hf
  have hc:=(fin.wc.iff r s hr hs).mpr fun w hw=>by
   have:=aA w hw
   exact (j2_ fun z=>this (qb_ (qs_ z)))
  have cE:cf (wcOf ms.length L (bW ms vs)).2 r=cf (wcOf ms.length L (bW ms vs)).2 s:=by
   have e1:=Ls (c:=(wcOf ms.length L (bW ms vs)).2) fin.wc.len (r:=(r:Int)) s!"" s!""
   have e2:=Ls (c:=(wcOf ms.length L (bW ms vs)).2) fin.wc.len (r:=(s:Int)) s!"" s!""
   rw[jg_]at e1 e2
   rw[e1,e2]at hc
   exact jq_ hc
  exact du.red r s hr hs fun w hw=>Mv du.wf fin w hw s!"" s!"" s!"" s!"" cE
def SU     (hn:n<=40)(hm:df.length<=341)(hE:∀r<n,∀v∈df,(E (Az ab (wayW ab r++v)).toNat).length<=40):(allW ab n df E).length<=545600:=by
 unfold allW
 have h1:=Ga (f:=fun r=>df.flatMap (oneW ab E r)) (c:=13640) (rq n) (fun r hr=>by
  have h2:=Ga (f:=oneW ab E r) (c:=40) df (fun v hv=>by unfold oneW;rw[ja_];exact hE r (jE_.mp hr) v hv)
  lia)
 rw[qh_]at h1
 have h2:n*13640<=40*13640:=tD _ s!""
 lia
def SV   (h:many L (m+2)<=341):(Dq L m).length<=341:=by
 rw[ja_,qh_];lia
def Rw {L:Nat}{aa:α2}{ab:α1}{m:Nat}(wf:Wf L aa ab)(h:many L (m+2)<=341):(Jh L aa ab m).length<=545600:=by
 have bK:=sWf wf
 have du:=sCan wf
 unfold Jh
 refine SU bK.n40 (SV h) fun r hr v hv=>?_
 have hv:=(KP (by have:=wf.l1;lia)).mp hv
 have hw:=L2.Wf.walk' bK (BL (LO du hr).2.1 hv.1)
 have h3:=HJ (b:=bW (sM L aa ab) (sW L aa ab)) (r:=(Az (sW L aa ab) (wayW (sW L aa ab) r++v)).toNat) (wcOf (sM L aa ab).length L (bW (sM L aa ab) (sW L aa ab))).1 (rq (sM L aa ab).length) (jE_.mpr s!"")
 rw[qh_]at h3
 unfold ownW
 rw[jT_]
 have:=bK.n40
 lia
def JO (K:α3):Sp:=fun vs H Q _=>∃(h:Addr) (L:Int) (aa:α2) (ab:α1),vs=[.ref h]/\Ba K H h L aa ab/\Wf L aa ab/\∀p H',Same H H'->H p=none->H' p=some (.lst (((Au ab).map (·.1)).map V.int))->Q (.ref p) H'
def Hi   (F:Fun K "_law_order_of" "_law_order_of" B9 f fd)(T:Txt mg)
  : nofun 1 f fd ["house"] (JO K):=by
 delta Bb
 ·obtain⟨h,L,aa,ab,rfl,_⟩:=h;rfl
 ·obtain⟨h,L,aa,ab,rfl,hh,wf,k⟩:=h
  have hl:=As
  have cH:=wf.l1
  have cn:=wf.n1
  have a9:=wf.n40
  refine⟨_,(Ac (Ak (i:=1) Bb.nd (Bt (Aa Ad Ae)))
   (Ac (Ak (i:=2) Bb.nd Ad)
   (Ac (EO jH_ (ptT (Ar (opD0 G2) (pvD 2) (Ao (lenD Ai) (by rfl) T.len jF_ (Aa (pvD 1) Ae)) (AE _)))
   (Ac (Ak (i:=3) Bb.nd (Ag (ixTD An) (Ag (ixTD An) (pvD 0) Ad) (Ag (ixLD AS) (pvD 1) (pvD 2))))
   (Ac (Bl jH_ rfl (Ed (pvD 3)) (Ap (i:=4) Bb.nd rfl (rC rfl))
   (Af (Bx (ptT (Ar GL (pvD 4) (pvD 1) rfl))
   (Af (A8 (C8 jG_ jK_ jL_ AQ (pvD 1) (Aa (pvD 4) Ae))))
   AH)))
   (Af (Ak (i:=2) Bb.nd (Am (opD0 AV) (pvD 2) Ad))))))
   (Af (AA (pvD 1)))))),?_⟩
  nofun
  refine⟨by lia,fun p2 aY=>?_⟩
  have s0:Same H (upd H p2 (.lst [V.int 0])):=Same.new aY
  have d6:upd H p2 (.lst [V.int 0]) p2=some (.lst ((([(0,[])]:List (Int×α2)).map (·.1)).map V.int)):=Ab
  generalize upd H p2 (.lst [V.int 0])=H0 at s0 d6 ⊢
  obtain⟨Pv,ao⟩:∃Pv:Nat->St->Hp->Prop,∀m ai H2,Pv m ai H2↔(∃(ents:List (Int×α2)) (i:Nat) (top:Int) (o4 o5:Option V),m=aa.length+1-i/\Same H H2/\H2 p2=some (.lst ((ents.map (·.1)).map V.int))/\Bfs L aa.length ab ents i top/\(∀e,ents[i]?=some e->top<=place L e.2*L+1)/\bfs ab (aa.length+1-i) ents i=Au ab/\ai=[some (.ref h),some (.ref p2),some (.int i),o4,o5]):=⟨_,fun _ _ _=>qv_⟩
  refine Jn Pv ⟨_,(ao _ _ _).mpr ⟨[(0,[])],0,1,none,none,rfl,s0,d6,Bfs.start L cn ab,fun e he=>?_,by unfold Au;rw[wf.len];rfl,rfl⟩⟩ ?_
  ·simp at he;subst he;simp[place,AU]
  intro m ai H2 eQ
  obtain⟨ents,i,top,o4,o5,rfl,s2,fB,bf,j7,cY,rfl⟩:=(ao _ _ _).mp eQ
  have hbl:=bf.len
  nofun
  refine⟨_,.inl (SqL.of fB),?_⟩
  rw[ja_,ja_]
  refine ite2 (fun aq=>?_) (fun bC=>?_)
  ·have hi:i<ents.length:=by lia
   obtain⟨e,he⟩:∃e,ents[i]?=some e:=⟨ents[i],by simp[hi]⟩
   obtain⟨r,w⟩:=e
   have a8:=jd_ he
   have bQ:=bf.rng _ a8
   have htop':top<=place L w*L+1:=j7 _ he
   obtain⟨row,hrow,fC,dm⟩:=wf.row bQ.1 bQ.2
   have mU:ab.getD r.toNat []=row:=by rw[jj_,hrow];rfl
   obtain⟨mm,wv,q1,q2,q3⟩:=id hh
   obtain⟨xs,t,z1,z2,z3⟩:=q3.atZ bQ.1 hrow
   refine⟨Pv (aa.length+1-(i+1)),fun af H' h=>⟨_,by lia,h⟩,?_⟩
   refine⟨_,s2.seqT q1,_,rfl,_,SqL.of fB,_,AX (v:=r) s!"" (by rw[jg_,je_,he];rfl),_,rfl,_,_,rfl,s2.seqT z1,_,z2,_,rfl,⟨_,s2.seqT z3⟩,?_⟩
   obtain⟨Pn,dn⟩:∃Pn:Nat->St->Hp->Prop,∀x aE H3,Pn x aE H3↔(∃(av:List (Int×α2)) (o5:Option V),Same H H3/\H3 p2=some (.lst ((av.map (·.1)).map V.int))/\Bfs L aa.length ab av i (place L w*L+(x:Int)+1)/\Seen L ab av r w x/\av[i]?=some (r,w)/\CV w av x (row.drop x)=CV w ents 0 row/\aE=[some (.ref h),some (.ref p2),some (.int i),some (.ref t),o5]):=⟨_,fun _ _ _=>qv_⟩
   refine forT (xs:=row.map V.int) Pn ((dn _ _ _).mpr ⟨ents,o5,s2,fB,bf.up (by push_cast;lia),(fun y h0 h1=>absurd h1 (by push_cast;lia)),he,rfl,rfl⟩) (fun x aE H3 _ h3=>?_) (fun x v aE H3 hx h3=>?_) (fun aE H3 h3=>?_)
   ·obtain⟨av,_,s3,_⟩:=(dn _ _ _).mp h3
    exact s3.seqT z3
   ·obtain⟨av,o5,s3,dP,d7,iM,ie,cZ,rfl⟩:=(dn _ _ _).mp h3
    obtain⟨g,hg,rfl⟩:=BP hx
    have bX:=(jc_.mp hg).1
    have j8:=(wf.rows row fC).2 g (jd_ hg)
    have qc:g=Bu ab r (x:Int):=(BH hrow (by rw[jg_];exact hg)).symm
    have eU:=jd_ ie
    have gH:row.drop x=g::row.drop (x+1):=by
     rw[xa_ bX]
     congr 1
     exact (jc_.mp hg).2
    obtain⟨fD,iN⟩:=d7.letter s!"" iM eU s!"" qc j8
    have iO:=Ft (g:=g) (v:=w++[(x:Int)]) ie
    rw[gH,Fs]at cZ
    nofun
    refine⟨_,.inl (SqL.of dP),rfl,HX _,?_⟩
    rw[Ny]
    by_cases hm:g∈av.map (·.1)
    ·rw[if_pos hm]at fD iN iO cZ
     rw[qb_ hm,if_neg (by simp)]
     exact (dn _ _ _).mpr ⟨av,_,s3,dP,fD,iN,iO,cZ,rfl⟩
    ·rw[if_neg hm]at fD iN iO cZ
     rw[qk_ hm,if_pos (by simp)]
     refine⟨.inl ⟨rfl,_,SqL.of dP⟩,_,dP,by have:=d7.len;simp;lia,(dn _ _ _).mpr ⟨av++[(g,w++[(x:Int)])],_,s3.over aY,by rw[Ab];simp,fD,iN,iO,cZ,rfl⟩⟩
   ·obtain⟨av,o5,s3,dP,d7,iM,ie,cZ,rfl⟩:=(dn _ _ _).mp h3
    rw[ja_]at d7 iM cZ
    rw[uu,Gj]at cZ
    nofun
    obtain⟨fD,gI⟩:=d7.next s!"" dm iM ie
    refine (ao _ _ _).mpr ⟨av,i+1,_,_,_,rfl,s3,dP,fD,gI,?_,by push_cast;rfl⟩
    rw[show aa.length+1-i=(aa.length+1-(i+1))+1 by lia,Kc he]at cY
    rw[cZ,<-mU]
    exact cY
  ·have hi:i=ents.length:=by have:=bf.il;lia
   subst hi
   rw[Kb (by simp)]at cY
   nofun
   rw[<-cY]at k
   exact k p2 H2 s2 aY fB
def GY {α:Type}[DecidableEq α]{l k:List α}(h:l.Nodup)(hs:∀x∈l,x∈k):l.length<=k.length:=by
 induction l generalizing k with
 |nil=>simp
 |cons a l ih=>
  rw[qK_]at h
  have ha:=hs a jp_
  have h1:∀x∈l,x∈k.erase a:=fun x hx=>by
   refine (xj_ ?_).mpr (hs x (jl_ _ hx))
   intro z;subst z;exact h.1 hx
  have:=ih h.2 h1
  rw[qY_ ha]at this
  have hp:=qH_ ha
  rw[jT_];lia
section
variable {rs:α2} {E:Nat->Int->Int->Prop}
def Rx (rs:α2)(E:Nat->Int->Int->Prop)(k i:Nat):Prop:=∀a,rs[i]?=some a->∀j b,j<i->rs[j]?=some b->¬ E k b a
open Classical in
noncomputable def ED (rs:α2)(E:Nat->Int->Int->Prop)(k:Nat):List Nat:=(rq rs.length).filter fun i=>decide (Rx rs E k i)
open Classical in
def Cw {k i:Nat}:i∈ED rs E k↔i<rs.length/\Rx rs E k i:=by
 unfold ED
 rw[xo_,jE_,qy_]
def II (k:Nat):(ED rs E k).Nodup:=zM_.filter _
def N3 (rf:∀k a,E k a a)(sy:∀k a b,E k a b->E k b a)(tr:∀k a b c,E k a b->E k b c->E k a c)(k:Nat):∀(n i:Nat) (a:Int),i<=n->rs[i]?=some a->∃j b,rs[j]?=some b/\E k b a/\Rx rs E k j:=by
 intro n
 induction n with
 |zero=>
  intro i a hi ha
  have:i=0:=by lia
  subst this
  exact⟨0,a,ha,rf k a,fun a' _ j b hj=>absurd hj (xb_ _)⟩
 |succ n ih=>
  intro i a hi ha
  by_cases h:Rx rs E k i
  ·exact⟨i,a,ha,rf k a,h⟩
  ·unfold Rx at h
   simp only[tE]at h
   obtain⟨a',e',j,b,hj,hb,hE⟩:=h
   rw[ha]at e'
   cases e'
   have hE:E k b a:=Classical.not_not.mp hE
   obtain⟨j',b',h1,h2,h3⟩:=ih j b s!"" hb
   exact⟨j',b',h1,tr k _ _ _ h2 hE,h3⟩
def W8 (rf:∀k a,E k a a)(sy:∀k a b,E k a b->E k b a)(tr:∀k a b c,E k a b->E k b c->E k a c)(mo:∀k a b,E (k+1) a b->E k a b)   (ha:a∈rs)(hb:b∈rs)(h:E k a b)(hn:¬ E (k+1) a b):(ED rs E k).length+1<=(ED rs E (k+1)).length:=by
 have sub:∀i∈ED rs E k,i∈ED rs E (k+1):=fun i hi=>by
  obtain⟨h1,h2⟩:=Cw.mp hi
  exact Cw.mpr ⟨h1,fun a ha j b hj hb hE=>h2 a ha j b hj hb (mo k _ _ hE)⟩
 obtain⟨i,hi,hni⟩:∃i,i∈ED rs E (k+1)/\i∉ED rs E k:=by
  refine j2_ fun hc=>hn ?_
  have aA:∀i,i∈ED rs E (k+1)->i∈ED rs E k:=fun i hi=>j2_ fun z=>hc ⟨i,hi,z⟩
  obtain⟨ia,hia⟩:=jN_.mp ha
  obtain⟨ib,hib⟩:=jN_.mp hb
  obtain⟨j1,c1,p1,p2,p3⟩:=N3 (rs:=rs) rf sy tr (k+1) ia ia a (ji_ _) hia
  obtain⟨j2,c2,r1,r2,r3⟩:=N3 (rs:=rs) rf sy tr (k+1) ib ib b (ji_ _) hib
  have g1:=(Cw.mp (aA j1 (Cw.mpr ⟨(jc_.mp p1).1,p3⟩))).2
  have g2:=(Cw.mp (aA j2 (Cw.mpr ⟨(jc_.mp r1).1,r3⟩))).2
  have nE:E k c1 c2:=tr k _ _ _ (mo k _ _ p2) (tr k _ _ _ h (sy k _ _ (mo k _ _ r2)))
  have ej:j1=j2:=by
   refine j2_ fun aw=>?_
   rcases Nat.lt_or_gt_of_ne aw with aq|aq
   ·exact g2 c2 r1 j1 c1 aq p1 nE
   ·exact g1 c1 p1 j2 c2 aq r1 (sy k _ _ nE)
  subst ej
  rw[p1]at r1
  cases r1
  exact tr _ _ _ _ (sy _ _ _ p2) r2
 have:=GY (l:=i::ED rs E k) (k:=ED rs E (k+1)) (by rw[qK_];exact⟨hni,II k⟩) fun y hy=>by
  rcases jD_.mp hy with rfl|hy
  ·exact hi
  ·exact sub y hy
 simpa using this
def W9 (rf:∀k a,E k a a)(sy:∀k a b,E k a b->E k b a)(tr:∀k a b c,E k a b->E k b c->E k a c)(mo:∀k a b,E (k+1) a b->E k a b)(st:∀k,(∀a∈rs,∀b∈rs,E k a b->E (k+1) a b)->∀a∈rs,∀b∈rs,E (k+1) a b->E (k+2) a b)(h0:0<rs.length)  (ha:a∈rs)(hb:b∈rs)(h:E rs.length a b)(j:Nat):E j a b:=by
 have key:∀k,(∃k',k'<k/\∀a∈rs,∀b∈rs,E k' a b->E (k'+1) a b)\/k+1<=(ED rs E k).length:=by
  intro k
  induction k with
  |zero=>
   right
   have:0∈ED rs E 0:=Cw.mpr ⟨h0,fun a _ j b hj=>absurd hj (xb_ _)⟩
   exact qH_ this
  |succ k ih=>
   rcases ih with ⟨k',h1,h2⟩|ih
   ·exact .inl ⟨k',by lia,h2⟩
   ·by_cases hs:∀a∈rs,∀b∈rs,E k a b->E (k+1) a b
    ·exact .inl ⟨k,by lia,hs⟩
    ·simp only[tE]at hs
     obtain⟨a,ha,b,hb,h1,h2⟩:=hs
     right
     have:=W8 rf sy tr mo ha hb h1 h2
     lia
 have bg:(ED rs E rs.length).length<=rs.length:=by
  have:=GY (l:=ED rs E rs.length) (k:=rq rs.length) (II _) fun i hi=>jE_.mpr (Cw.mp hi).1
  simpa using this
 rcases key rs.length with ⟨k',h1,h2⟩|h1
 ·have up:∀d,∀a∈rs,∀b∈rs,E (k'+d) a b->E (k'+d+1) a b:=by
   intro d
   induction d with
   |zero=>exact h2
   |succ d ih=>exact st _ ih
  have far:∀d,E (rs.length+d) a b:=by
   intro d
   induction d with
   |zero=>exact h
   |succ d ih=>
    have:=up (rs.length+d-k') a ha b hb (by rw[show k'+(rs.length+d-k')=rs.length+d by lia];exact ih)
    rw[show k'+(rs.length+d-k')+1=rs.length+(d+1) by lia]at this
    exact this
  have down:∀d i,E (i+d) a b->E i a b:=by
   intro d
   induction d with
   |zero=>exact fun i h=>h
   |succ d ih=>exact fun i h=>ih i (mo _ _ _ h)
  exact down rs.length j (by rw[vB];exact far j)
 ·lia
end
def GJ (L:Int)(aa:α2)(ab:α1)(k:Nat)(a b:Int):Prop:=∀v,isW L v=true->v.length<=k->mkW aa (Bv ab a v)=mkW aa (Bv ab b v)
def GJ.succ      : GJ L aa ab (k+1) a b↔GJ L aa ab k a b/\∀x:Int,0<=x->x<L->GJ L aa ab k (Bu ab a x) (Bu ab b x):=by
 constructor
 ·intro h
  refine⟨fun v hv hl=>h v hv s!"",fun x x0 x1 v hv hl=>?_⟩
  have:=h (x::v) (Av.mpr fun y hy=>by
   rcases jD_.mp hy with rfl|hy
   ·exact⟨x0,x1⟩
   ·exact Av.mp hv y hy) (by rw[jT_];lia)
  rw[Bm,Bm]at this
  exact this
 ·rintro⟨h1,h2⟩ v hv hl
  cases v with
  |nil=>exact h1 [] hv (by simp)
  |cons x v=>
   have hx:=Av.mp hv x jp_
   rw[Bm,Bm]
   exact h2 x hx.1 hx.2 v (Av.mpr fun y hy=>Av.mp hv y (jl_ _ hy)) (by rw[jT_]at hl;lia)
def GJ.all {L:Int}{aa:α2}{ab:α1}{rs:α2}(hz:0∈rs)(cl:∀r∈rs,∀x:Int,0<=x->x<L->Bu ab r x∈rs){a b:Int}(ha:a∈rs)(hb:b∈rs)(h:GJ L aa ab rs.length a b):∀v,isW L v=true->mkW aa (Bv ab a v)=mkW aa (Bv ab b v):=fun v hv=>
 W9 (rs:=rs) (E:=GJ L aa ab) (fun _ _ _ _ _=>rfl) (fun _ _ _ h v hv hl=>(h v hv hl).symm) (fun _ _ _ _ h g v hv hl=>(h v hv hl).trans (g v hv hl)) (fun _ _ _ h=>(GJ.succ.mp h).1) (fun k hs a ha b hb h=>by
  obtain⟨h1,h2⟩:=GJ.succ.mp h
  exact GJ.succ.mpr ⟨h,fun x x0 x1=>hs _ (cl a ha x x0 x1) _ (cl b hb x x0 x1) (h2 x x0 x1)⟩) (qH_ hz) ha hb h v.length v hv (ji_ _)
def ln41 (names:α2)(ab:α1)(r:Nat):α2:=names.getD r 0::(ab.getD r []).map fun a=>names.getD a.toNat 0
def C3 (L:Int)(aa:α2)(ab:α1)(k:Nat)(names:α2):Prop:=names.length=aa.length/\∀a b:Nat,a<aa.length->b<aa.length->(names.getD a 0=names.getD b 0↔GJ L aa ab k a b)
def C3.more    (wf:Wf L aa ab)   (h:C3 L aa ab k names)(hl:ee.length=aa.length)(he:∀a b:Nat,a<aa.length->b<aa.length->(ee.getD a 0=ee.getD b 0↔ln41 names ab a=ln41 names ab b)):C3 L aa ab (k+1) ee:=by
 refine⟨hl,fun a b ha hb=>?_⟩
 rw[he a b ha hb,GJ.succ]
 obtain⟨ra,oy,ra2,ra3⟩:=wf.row (r:=(a:Int)) s!"" s!""
 obtain⟨rb,oz,rb2,rb3⟩:=wf.row (r:=(b:Int)) s!"" s!""
 rw[jg_]at oy oz
 have ga:ab.getD a []=ra:=by rw[jj_,oy];rfl
 have gb:ab.getD b []=rb:=by rw[jj_,oz];rfl
 have st:∀(c:Nat) (rc:α2),ab[c]?=some rc->rc∈ab->∀x:Nat,(x:Int)<L->∃g:Nat,rc[x]?=some (g:Int)/\g<aa.length/\Bu ab c x=g:=fun c rc h1 h2 x hx=>by
  have h3:=wf.rows rc h2
  have bX:x<rc.length:=by lia
  have h4:=h3.2 rc[x] (j1_ _)
  refine⟨rc[x].toNat,by rw[jh_ bX];congr 1;lia,by lia,?_⟩
  rw[BH (row:=rc) (g:=rc[x]) (by rw[jg_];exact h1) (by rw[jg_];exact jh_ bX)]
  lia
 unfold ln41
 rw[ga,gb,xQ_,h.2 a b ha hb]
 refine and_congr qv_ ?_
 constructor
 ·intro e x x0 x1
  obtain⟨xn,rfl⟩:∃xn:Nat,x=(xn:Int):=⟨x.toNat,by lia⟩
  obtain⟨g,g1,g2,g3⟩:=st a ra oy ra2 xn x1
  obtain⟨f,f1,f2,f3⟩:=st b rb oz rb2 xn x1
  rw[g3,f3,<-h.2 g f g2 f2]
  have:=jJ_ (fun l:α2=>l[xn]?) e
  simp only[je_,g1,f1,uG,jg_,zx_]at this
  exact this
 ·intro e
  refine qT_ fun xn=>?_
  by_cases hx:(xn:Int)<L
  ·obtain⟨g,g1,g2,g3⟩:=st a ra oy ra2 xn hx
   obtain⟨f,f1,f2,f3⟩:=st b rb oz rb2 xn hx
   have e1:=e (xn:Int) s!"" hx
   rw[g3,f3,<-h.2 g f g2 f2]at e1
   simp only[je_,g1,f1,uG,jg_,zx_]
   exact e1
  ·rw[jU_ (by rw[ja_];lia),jU_ (by rw[ja_];lia)]
def C3.first    : C3 L aa ab 0 aa:=⟨rfl,fun a b ha hb=>by
 constructor
 ·intro e v hv hl
  have:v=[]:=List.length_eq_zero_iff.mp s!""
  subst this
  show aa.getD ((a:Int)).toNat 0=aa.getD ((b:Int)).toNat 0
  rw[jg_,jg_];exact e
 ·intro h
  have:=h [] (Av.mpr fun x hx=>(by cases hx)) (jY_ _)
  have:aa.getD ((a:Int)).toNat 0=aa.getD ((b:Int)).toNat 0:=this
  rw[jg_,jg_]at this
  exact this⟩
def Fd (H:Hp)(xs:List V)(ks:α1):Prop:=xs.length=ks.length/\∀(i:Nat) (k:α2),ks[i]?=some k->∃(t l:Addr) (c:Int) (w:α2),xs[i]?=some (.ref t)/\k=c::w/\H t=some (.tup [.int c,.ref l])/\H l=some (.lst (w.map V.int))
def Fd.nil  : Fd H [] []:=⟨rfl,fun i k h=>by simp at h⟩
def Fd.mono    (h:Fd H xs ks)(s:Same H H'):Fd H' xs ks:=⟨h.1,fun i k hk=>let ⟨t,l,c,w,a,b,d,e⟩:=h.2 i k hk;⟨t,l,c,w,a,b,s _ _ d,s _ _ e⟩⟩
def Fd.snoc {H:Hp}{xs:List V}{ks:α1}(h:Fd H xs ks){t l:Addr}{c:Int}{w:α2}(ht:H t=some (.tup [.int c,.ref l]))(hl:H l=some (.lst (w.map V.int))):Fd H (xs++[.ref t]) (ks++[c::w]):=by
 refine⟨by rw[jn_,jn_,h.1];rfl,fun i k hk=>?_⟩
 by_cases hi:i<ks.length
 ·rw[jk_ hi]at hk
  obtain⟨t',l',c',w',a,b,d,e⟩:=h.2 i k hk
  exact⟨t',l',c',w',by rw[jk_ (by rw[h.1];exact hi)];exact a,b,d,e⟩
 ·rw[jt_ s!""]at hk
  have h0:i-ks.length=0:=by
   have:=(jc_.mp hk).1
   simpa using this
  rw[h0]at hk
  have hk:c::w=k:=by simpa using hk
  subst hk
  exact⟨t,l,c,w,by rw[jt_ (by rw[h.1];lia),h.1,h0];rfl,rfl,ht,hl⟩
def Fd.at {H:Hp}{xs:List V}{ks:α1}(h:Fd H xs ks){i:Nat}{x:V}(hx:xs[i]?=some x):∃(t l:Addr) (c:Int) (w:α2),ks[i]?=some (c::w)/\x=.ref t/\H t=some (.tup [.int c,.ref l])/\H l=some (.lst (w.map V.int)):=by
 have hi:i<ks.length:=by rw[<-h.1];exact (jc_.mp hx).1
 obtain⟨t,l,c,w,a,b,d,e⟩:=h.2 i ks[i] (by simp[hi])
 rw[hx]at a
 exact⟨t,l,c,w,by rw[<-b];simp[hi],jq_ a,d,e⟩
def eqP {K:α3}{H:Hp}{t l t' l':Addr}{c c':Int}{w w':α2}(ht:H t=some (.tup [.int c,.ref l]))(hl:H l=some (.lst (w.map V.int)))(eL:H t'=some (.tup [.int c',.ref l']))(fK:H l'=some (.lst (w'.map V.int))):
  EqD K H 4 (.ref t) (.ref t') (decide (c::w=c'::w')):=by
 refine .inr ⟨t,t',_,_,rfl,rfl,.inr ⟨SqT.of ht,SqT.of eL⟩,fun i=>if i=0 then decide (c=c') else decide (w=w'),fun i x y hx hy=>?_,?_⟩
 ·match i,hx,hy with
  |0,hx,hy=>
   cases hx;cases hy
   refine .inl ⟨rfl,rfl,?_⟩
   show decide (c=c')=(c==c')
   by_cases h:c=c'<;>simp[h]
  |1,hx,hy=>
   cases hx;cases hy
   have:=EqD.ints (K:=K) (xs:=w) (ys:=w') (.inl ⟨SqL.of hl,SqL.of fK⟩) 2
   exact this
  |i+2,hx,hy=>simp at hx
 ·rw[qC_,qy_]
  simp[x1_]
def Fd.eqs {K:α3}{H:Hp}{xs:List V}{ks:α1}(h:Fd H xs ks){t l:Addr}{c:Int}{w:α2}(ht:H t=some (.tup [.int c,.ref l]))(hl:H l=some (.lst (w.map V.int))):EqsD K H 4 xs (.ref t) (fun i=>decide (ks[i]?=some (c::w))):=by
 refine⟨fun i v hv=>?_,fun i j v hi hj=>?_⟩
 ·obtain⟨t',l',c',w',a,rfl,d,e⟩:=h.at hv
  refine⟨t',rfl,?_⟩
  show EqD K H 4 (.ref t') (.ref t) (decide (ks[i]?=some (c::w)))
  rw[show (decide (ks[i]?=some (c::w)))=decide (c'::w'=c::w) by rw[a];simp]
  exact eqP d e ht hl
 ·obtain⟨t1,l1,c1,w1,a1,rfl,d1,e1⟩:=h.at hi
  obtain⟨t2,l2,c2,w2,a2,z,d2,e2⟩:=h.at hj
  cases z
  rw[d1]at d2
  cases d2
  rw[e1]at e2
  have:=jq_ e2
  injection this with this
  have:=(z7_ (fun x y z=>V.int.inj z)).mp this
  show decide (ks[i]?=some (c::w))=decide (ks[j]?=some (c::w))
  rw[a1,a2,this]
def Vo {ks:α1}{k:α2}:((rq ks.length).any fun i=>decide (ks[i]?=some k))=decide (k∈ks):=by
 rw[qC_,zc_,qy_]
 constructor
 ·rintro⟨i,_,h⟩
  exact jd_ (qr_ h)
 ·intro h
  obtain⟨i,hi⟩:=jN_.mp h
  exact⟨i,jE_.mpr (jc_.mp hi).1,qb_ hi⟩
def Cm (names:α2)(ab:α1):α1:=(rq names.length).map (ln41 names ab)
def nx31 (names:α2)(ab:α1):α2:=(Cm names ab).map fun k=>((((Cm names ab).foldl ins []).idxOf k:Nat):Int)
def C3.turn    (wf:Wf L aa ab)   (h:C3 L aa ab k names):C3 L aa ab (k+1) (nx31 names ab):=by
 have gE:∀a:Nat,a<aa.length->(Cm names ab)[a]?=some (ln41 names ab a):=fun a ha=>by
  unfold Cm
  rw[je_,qN_ (by rw[h.1];exact ha)];rfl
 have nat:∀a:Nat,a<aa.length->(nx31 names ab).getD a 0=((((Cm names ab).foldl ins []).idxOf (ln41 names ab a):Nat):Int):=fun a ha=>by
  unfold nx31
  rw[jj_,je_,gE a ha];rfl
 refine C3.more wf h (by unfold nx31 Cm;rw[ja_,ja_,qh_,h.1]) fun a b ha hb=>?_
 rw[nat a ha,nat b hb]
 constructor
 ·intro e
  have e:((Cm names ab).foldl ins []).idxOf (ln41 names ab a)=((Cm names ab).foldl ins []).idxOf (ln41 names ab b):=by lia
  have ma:=IG.mpr (jd_ (gE a ha))
  have mb:=IG.mpr (jd_ (gE b hb))
  have ga:=q2_ (xR_.mpr ma)
  have gb:=q2_ (xR_.mpr mb)
  rw[<-ga,<-gb]
  congr 1
 ·intro e;rw[e]
def Ry (K:α3):Sp:=fun vs H Q _=>∃(h:Addr) (L:Int) (aa:α2) (ab:α1),vs=[.ref h]/\Ba K H h L aa ab/\Wf L aa ab/\∀(p:Addr) (names:α2) (H':Hp),Same H H'->H p=none->H' p=some (.lst (names.map V.int))->C3 L aa ab aa.length names->Q (.ref p) H'
def IJ   (F:Fun K "_law_classes" "_law_classes" Cq f fd)(T:Txt mg)
  : nofun 1 f fd ["house"] (Ry K):=by
 delta A5
 ·obtain⟨h,L,aa,ab,rfl,_⟩:=h;rfl
 ·obtain⟨h,L,aa,ab,rfl,hh,wf,k⟩:=h
  have hl:=As
  have a9:=wf.n40
  have cn:=wf.n1
  have cH:=wf.l1
  have cX:=wf.l6
  refine⟨_,(Ac (Bk (i:=1) A5.nd rfl (rG rfl) (AD Ef rfl T.list xs_ (Aa (Ag (ixTD An) (pvD 0) Ad) Ae)))
   (Ac (Bl jH_ rfl (AO rfl T.range (Aa (Ao (lenD Ai) (by rfl) T.len jF_ (Aa (Ag (ixTD An) (pvD 0) Ad) Ae)) Ae)) (Ap (i:=2) A5.nd rfl (rC rfl))
   (Ac (Du (i:=3) A5.nd rfl rfl rfl (A3 rfl) (cp:=DX) ⟨⟨rfl,rfl⟩,⟨⟨rfl,rfl⟩,rA⟩⟩ (AO rfl T.range (Aa (Ao (lenD Ai) (by rfl) T.len jF_ (Aa (pvD 1) Ae)) Ae)) (fun _ _ _ _=>(Ap (i:=0) FA rfl (rC rfl))) (fun _ _ _ _=>Bd) (fun _ _ _ _=>(BN (Aa (Ag (ixLD (Bh (K:=K) rfl)) (pvD 1) (pvD 0)) (Aa (A9 rfl (A3 rfl) (cp:=DY) ⟨⟨rfl,rfl⟩,rA⟩ (QE (K:=K) rfl (Ag (ixTD (Br (K:=K) rfl)) (Ag (ixTD (Br (K:=K) rfl)) (pvD 2) Ad) (pvD 0))) (fun _ _ _ _=>(Ap (i:=0) FC rfl (rC rfl))) (fun _ _ _ _=>Bd) (fun _ _ _ _=>(Ag (ixLD (Bh (K:=K) rfl)) (pvD 1) (pvD 0)))) Ae)))))
   (Ac (Bk (i:=4) A5.nd rfl (rG rfl) (Bt Ae))
   (Ac (Bl jH_ rfl (AW (pvD 3)) (Ap (i:=5) A5.nd rfl (rC rfl))
   (Af (Bx (ptT (Ar (Rc 4 (hu45 (hu9 hr))) (pvD 5) (pvD 4) rfl))
   (Af (A8 (C8 jG_ jK_ jL_ AQ (pvD 4) (Aa (pvD 5) Ae))))
   AH)))
   (Af (Bk (i:=1) A5.nd rfl (rG rfl) (A9 rfl (A3 rfl) (cp:=DZ) ⟨⟨rfl,rfl⟩,rA⟩ (AW (pvD 3)) (fun _ _ _ _=>(Ap (i:=0) FD rfl (rC rfl))) (fun _ _ _ _=>Bd) (fun _ _ _ _=>(Tq (K:=K) rfl jG_ sk sq (ON (K:=K) rfl 4 (hu46 (hu9 hr))) (pvD 1) (Aa (pvD 0) Ae))))))))))
   (Af (AA (pvD 1))))),?_⟩
  obtain⟨tm,tw,q1,q2,q3⟩:=id hh
  nofun
  refine⟨_,q1,_,rfl,tm,rfl,_,.inr q2,fun pn oA=>?_⟩
  have s0:=Same.new oA (o:=.lst (aa.map V.int))
  refine⟨_,s0.seqT q1,_,rfl,tm,rfl,_,.inr (s0.seqT q2),?_⟩
  rw[ja_]
  refine⟨by lia,by lia,?_⟩
  rw[jg_]
  obtain⟨Pv,ao⟩:∃Pv:Nat->St->Hp->Prop,∀i af H',Pv i af H'↔(∃(names:α2) (pn:Addr) (o2 o3 o4 o5:Option V),Same H H'/\H pn=none/\H' pn=some (.lst (names.map V.int))/\C3 L aa ab i names/\af=[some (.ref h),some (.ref pn),o2,o3,o4,o5]):=⟨_,fun _ _ _=>qv_⟩
  refine forR Pv ((ao _ _ _).mpr ⟨aa,pn,none,none,none,none,s0,oA,Ab,C3.first,rfl⟩) (fun i ai H2 hi h2=>?_) (fun ai H2 h2=>?_)
  ·obtain⟨names,pn,o2,o3,o4,o5,s2,hnN,fR,nm,rfl⟩:=(ao _ _ _).mp h2
   have hnl:names.length=aa.length:=nm.1
   nofun
   refine⟨_,.inl (SqL.of fR),?_⟩
   rw[ja_]
   refine⟨by lia,by lia,?_⟩
   rw[jg_]
   have hlk:(Cm names ab).length=names.length:=by unfold Cm;rw[ja_,qh_]
   have hlat:∀r,r<names.length->(Cm names ab)[r]?=some (ln41 names ab r):=fun r hr=>by unfold Cm;rw[je_,qN_ hr];rfl
   have fL:∀g:Int,0<=g->g<aa.length->(names.map V.int)[g.toNat]?=some (V.int (names.getD g.toNat 0)):=fun g g0 g1=>by rw[je_,jj_,jh_ s!""];rfl
   refine J5 (fun i' xs af H'=>Same H2 H'/\Fd H' xs ((Cm names ab).take i')/\∃o,af=[o,some (.ref pn),some (.ref h)]) ⟨Same.refl _,Fd.nil,none,rfl⟩ s!"" (fun i' xs af H' hi' h'=>by rw[h'.2.1.1,jw_];lia) (fun i' xs af H' hi' h'=>?_) (fun xs af Hc h' pk qO=>?_)
   ·obtain⟨s3,h8,o,rfl⟩:=h'
    rw[zI_]
    obtain⟨row,w1,w2,w3⟩:=wf.row (r:=(i':Int)) s!"" s!""
    rw[jg_]at w1
    obtain⟨jz,i5,g1,g2,g3⟩:=hh.mono (s2.trans s3)
    obtain⟨zs,t,z1,z2,z3⟩:=g3.at w1
    have hrow:=wf.rows row w2
    nofun
    refine⟨_,SqL.of (s3 _ _ fR),_,B1 s!"" (fL _ s!"" s!""),?_⟩
    refine⟨_,g1,_,rfl,i5,rfl,_,z1,_,z2,t,rfl,⟨_,z3⟩,?_⟩
    refine ES (af:=[some (.ref pn)]) (fun x=>match x with | .int g=>.int (names.getD g.toNat 0)|_=>.non) rfl z3 (by rw[ja_];lia) (fun x hx R hR=>?_) (fun D hD=>?_)
    ·obtain⟨g,hg,rfl⟩:=jv_.mp hx
     have cA:=hrow.2 g hg
     nofun
     exact⟨_,SqL.of (s3 _ _ fR),_,B1 cA.1 (fL g cA.1 cA.2),hR⟩
    ·refine⟨by lia,fun p hp=>?_⟩
     rw[jg_]
     have sD:=(Same.new hD (o:=.lst ((row.map V.int).map fun x=>match x with | .int g=>.int (names.getD g.toNat 0)|_=>.non))).newT hp (o:=.tup [V.int (names.getD i' 0),V.ref D])
     have e1:=Same.new hp (o:=.tup [V.int (names.getD i' 0),V.ref D]) _ _ (Ab (H:=H') (a:=D) (o:=.lst ((row.map V.int).map fun x=>match x with | .int g=>.int (names.getD g.toNat 0)|_=>.non)))
     have e2:upd (upd H' D (.lst ((row.map V.int).map fun x=>match x with | .int g=>.int (names.getD g.toNat 0)|_=>.non))) p (.tup [V.int (names.getD i' 0),V.ref D]) p=some (.tup [V.int (names.getD i' 0),V.ref D]):=Ab
     generalize upd (upd H' D (.lst ((row.map V.int).map fun x=>match x with | .int g=>.int (names.getD g.toNat 0)|_=>.non))) p (.tup [V.int (names.getD i' 0),V.ref D])=H4 at sD e1 e2 ⊢
     refine⟨s3.trans sD,?_,_,rfl⟩
     rw[jQ_,hlat i' hi',qu_]
     have e3:ln41 names ab i'=names.getD i' 0::row.map fun a=>names.getD a.toNat 0:=by
      unfold ln41
      rw[jj_ (l:=ab),w1];rfl
     rw[e3]
     refine (h8.mono sD).snoc e2 ?_
     rw[e1,jR_,jR_]
     rfl
   ·obtain⟨s3,h8,o,rfl⟩:=h'
    rw[<-hlk,jO_]at h8
    nofun
    refine⟨by lia,fun p hp=>?_⟩
    have sK:=s3.newT qO (o:=.lst xs)
    have sp:=(Same.new qO (o:=.lst xs)).newT hp (o:=.lst [])
    have k9:pk≠p:=qs_ (AI hp).2
    have oB:upd (upd Hc pk (.lst xs)) p (.lst []) pk=some (.lst xs):=by rw[Aj k9];exact Ab
    have ep:upd (upd Hc pk (.lst xs)) p (.lst []) p=some (.lst []):=Ab
    have qH:H2 p=none:=(s3.newT qO (o:=.lst xs)).none hp
    have hk4:=h8.mono sp
    have s4:Same H2 (upd (upd Hc pk (.lst xs)) p (.lst [])):=s3.trans sp
    have la:=sp
    generalize upd (upd Hc pk (.lst xs)) p (.lst [])=H4 at s4 oB ep hk4 la ⊢
    have hpN2:H p=none:=s2.none qH
    have bX:=hk4.1
    refine⟨⟨_,SqL.of oB⟩,?_⟩
    have mn:=(AI hp).1
    obtain⟨Pw,cx⟩:∃Pv:Nat->St->Hp->Prop,∀j af H',Pv j af H'↔(∃(ys:List V) (o5:Option V),Cj p H4 H'/\H' p=some (.lst ys)/\Fd Hc ys (((Cm names ab).take j).foldl ins [])/\af=[some (.ref h),some (.ref pn),some (.int (0+(i:Int))),some (.ref pk),some (.ref p),o5]):=⟨_,fun _ _ _=>qv_⟩
    refine forL (xs:=xs) Pw ((cx _ _ _).mpr ⟨[],_,fun _ _ _ e=>e,ep,Fd.nil,rfl⟩) (fun j af H' _ h'=>by obtain⟨_,_,s',_⟩:=(cx _ _ _).mp h';exact SqL.of (s' _ _ k9 oB)) (fun j x af H5 hx h'=>?_) (fun af H5 h'=>?_)
    ·obtain⟨ys,o5,s5,cJ,jQ,rfl⟩:=(cx _ _ _).mp h'
     have sc:Same Hc H5:=fun b o e=>s5 b o (Aq e mn) (la _ _ e)
     have mq:=jQ.mono sc
     obtain⟨t,l,c,w0,cG,rfl,ht,eZ⟩:=h8.at hx
     have qP:H5 t=some (.tup [.int c,.ref l]):=s5 _ _ (Aq ht mn) (la _ _ ht)
     have qQ:H5 l=some (.lst (w0.map V.int)):=s5 _ _ (Aq eZ mn) (la _ _ eZ)
     have iI:=mq.1
     have eE:=CJ ((Cm names ab).take j) []
     rw[jw_,qt_]at eE
     nofun
     refine⟨ys,SqL.of cJ,_,mq.eqs qP qQ,?_⟩
     rw[iI,Vo]
     have nI:((Cm names ab).take (j+1)).foldl ins []=ins (((Cm names ab).take j).foldl ins []) (c::w0):=by rw[jQ_,cG,qu_,qE_];rfl
     refine ite2 (fun hy=>?_) (fun hn=>?_)
     ·have hy:¬ (c::w0∈((Cm names ab).take j).foldl ins []):=by simpa using hy
      refine⟨.inl ⟨rfl,_,SqL.of cJ⟩,ys,cJ,by lia,(cx _ _ _).mpr ⟨_,_,fun b o hb e=>by rw[Aj hb];exact s5 b o hb e,Ab,?_,rfl⟩⟩
      rw[nI,show ins (((Cm names ab).take j).foldl ins []) (c::w0)=((Cm names ab).take j).foldl ins []++[c::w0] from if_neg hy]
      exact jQ.snoc ht eZ
     ·have hn:c::w0∈((Cm names ab).take j).foldl ins []:=by simpa using hn
      refine (cx _ _ _).mpr ⟨ys,_,s5,cJ,?_,rfl⟩
      rw[nI,show ins (((Cm names ab).take j).foldl ins []) (c::w0)=((Cm names ab).take j).foldl ins [] from if_pos hn]
      exact jQ
    ·obtain⟨ys,o5,s5,cJ,jQ,rfl⟩:=(cx _ _ _).mp h'
     have sc:Same Hc H5:=fun b o e=>s5 b o (Aq e mn) (la _ _ e)
     have mq:=jQ.mono sc
     rw[bX,jO_]at mq
     have eE:=CJ (Cm names ab) []
     rw[qt_]at eE
     have iI:=mq.1
     have epk5:=s5 _ _ k9 oB
     nofun
     refine⟨⟨_,SqL.of epk5⟩,?_⟩
     refine IV (xs:=xs) (fun i' us af H'=>H'=H5/\us=(((Cm names ab).take i').map fun k=>(((((Cm names ab).foldl ins []).idxOf k:Nat):Int))).map V.int/\∃o,af=[o,some (.ref p)]) ⟨rfl,rfl,none,rfl⟩ s!"" (fun i' us af H' hi' h'=>by obtain⟨rfl,rfl,_⟩:=h';exact⟨SqL.of epk5,by rw[ja_,ja_,jw_];lia⟩) (fun i' x us af H' hx h'=>?_) (fun us af H' h' D hD=>?_)
     ·obtain⟨rfl,rfl,o,rfl⟩:=h'
      obtain⟨t,l,c,w0,cG,rfl,ht,eZ⟩:=h8.at hx
      have qP:H' t=some (.tup [.int c,.ref l]):=s5 _ _ (Aq ht mn) (la _ _ ht)
      have qQ:H' l=some (.lst (w0.map V.int)):=s5 _ _ (Aq eZ mn) (la _ _ eZ)
      have a8:=IG.mpr (jd_ cG)
      have i6:=xR_.mpr a8
      nofun
      refine⟨.inl ⟨rfl,_,SqL.of cJ⟩,ys,cJ,_,mq.eqs qP qQ,((Cm names ab).foldl ins []).idxOf (c::w0),by lia,?_,fun j hj=>?_,by lia,?_,_,rfl⟩
      ·exact qb_ (by rw[jh_ i6,q2_])
      ·refine qk_ fun z=>?_
       have:=ND z
       lia
      ·rw[jQ_,cG,qu_,jW_,jW_]
       rfl
     ·obtain⟨rfl,rfl,o,rfl⟩:=h'
      rw[bX,jO_]
      have sH:Same H H':=fun b o e=>s5 b o (Aq e hpN2) (s4 _ _ (s2 _ _ e))
      exact (ao _ _ _).mpr ⟨nx31 names ab,D,_,_,_,_,sH.newT hD,sH.none hD,Ab,nm.turn wf,rfl⟩
  ·obtain⟨names,pn,o2,o3,o4,o5,s2,hnN,fR,nm,rfl⟩:=(ao _ _ _).mp h2
   nofun
   exact k pn names _ s2 hnN fR nm
def Rz {c c':α2}:∀(R ah:α2),(∀r s,(r∈ah\/r∈R)->(s∈ah\/s∈R)->(cf c r=cf c s↔cf c' r=cf c' s))->R.foldl (By c) ah=R.foldl (By c') ah
 |[],ah,_=>rfl
 |q::R,ah,h=>by
  have e:By c ah q=By c' ah q:=by
   unfold By
   have:cf c q∈ah.map (cf c)↔cf c' q∈ah.map (cf c'):=by
    rw[jv_,jv_]
    constructor
    ·rintro⟨a,ha,e⟩;exact⟨a,ha,(h a q (.inl ha) (.inr jp_)).mp e⟩
    ·rintro⟨a,ha,e⟩;exact⟨a,ha,(h a q (.inl ha) (.inr jp_)).mpr e⟩
   by_cases hq:cf c q∈ah.map (cf c)
   ·rw[if_pos hq,if_pos (this.mp hq)]
   ·rw[if_neg hq,if_neg (fun z=>hq (this.mpr z))]
  rw[q1_,q1_,e]
  have sub:∀r,r∈By c' ah q->r∈ah\/r∈q::R:=fun r hr=>by
   unfold By at hr
   split at hr
   ·exact .inl hr
   ·rcases jA_.mp hr with hr|hr
    ·exact .inl hr
    ·exact .inr (by rw[ju_.mp hr];exact jp_)
  refine Rz R _ fun r s hr hs=>h r s ?_ ?_
  ·rcases hr with hr|hr
   ·exact sub r hr
   ·exact .inr (jl_ _ hr)
  ·rcases hs with hs|hs
   ·exact sub s hs
   ·exact .inr (jl_ _ hs)
def Vp  (h:∀r s,r∈R->s∈R->(cf c r=cf c s↔cf c' r=cf c' s)):FR c R=FR c' R/\∀r∈R,hm c R r=hm c' R r:=by
 have e:FR c R=FR c' R:=Rz R [] fun r s hr hs=>h r s (hr.resolve_left (by simp)) (hs.resolve_left (by simp))
 refine⟨e,fun r hr=>?_⟩
 obtain⟨j,q,hj,e1,e2,e3⟩:=F_hm (c:=c) hr
 have hq:q∈R:=FO (jd_ e2)
 rw[e]at e2
 rw[e1,<-hm_F e2]
 exact L2.hm_congr ((h q r hq hr).mp e3)
def SW {L:Nat}{aa:α2}{ab:α1}(wf:Wf L aa ab){names:α2}(nm:C3 L aa ab aa.length names):∀r s,r∈rOf ab->s∈rOf ab->(cf names r=cf names s↔cf (cOf L aa ab) r=cf (cOf L aa ab) s):=by
 intro r s hr hs
 have r0:=De wf hr
 have s0:=De wf hs
 have h1:=nm.2 r.toNat s.toNat s!"" s!""
 rw[show ((r.toNat:Nat):Int)=r by lia,show ((s.toNat:Nat):Int)=s by lia]at h1
 show names.getD r.toNat 0=names.getD s.toNat 0↔_
 rw[h1]
 constructor
 ·intro h
  refine Jw wf (finO wf) r0.1 r0.2 s0.1 s0.2 fun w hw=>?_
  have bg:=QV wf
  exact GJ.all (rs:=rOf ab) (Ij wf) (fun q hq x x0 x1=>Gq wf hq x0 x1) hr hs (fun v hv hl=>h v hv s!"") w hw
 ·intro h v hv _
  exact Mv wf (finO wf) v hv r0.1 r0.2 s0.1 s0.2 h
def Vq {L:Nat}{aa:α2}{ab:α1}(wf:Wf L aa ab){names:α2}(nm:C3 L aa ab aa.length names):FR names (rOf ab)=sF L aa ab/\(sF L aa ab).map (hrow names (rOf ab) ab)=sW L aa ab:=by
 obtain⟨e1,e2⟩:=Vp (SW wf nm)
 refine⟨e1,?_⟩
 unfold sW
 refine qo_ fun r hr=>?_
 unfold hrow
 refine qo_ fun g hg=>e2 g ?_
 have bQ:r∈rOf ab:=FO hr
 have r0:=De wf bQ
 obtain⟨row,w1,w2,w3⟩:=wf.row r0.1 r0.2
 rw[jj_,w1]at hg
 obtain⟨x,hx,rfl⟩:=jV_ (show g∈row from hg)
 have:=Gq wf bQ (x:=(x:Int)) s!"" s!""
 rw[BH w1 (g:=row[x]) (by rw[jg_];exact jh_ hx)]at this
 exact this
def LS:∀{ws:α2} {m:Nat} {w:Int},ws[m]?=some w->ws.idxOf w<=m
 |[],m,w,h=>by simp at h
 |v::ws,m,w,h=>by
  rw[zZ_]
  cases m with
  |zero=>
   have:v=w:=by simpa using h
   simp[this]
  |succ m=>
   have:=LS (ws:=ws) (m:=m) (w:=w) (by simpa using h)
   cases e:(v==w) with
   |true=>exact jY_ _
   |false=>exact um this
def N4 (K:α3):Sp:=fun vs H Q _=>∃(h:Addr) (L:Nat) (aa:α2) (ab:α1),vs=[.ref h]/\Ba K H h L aa ab/\Wf L aa ab/\∀(p:Addr) (H':Hp),Same H H'->Ba K H' p L (sM L aa ab) (sW L aa ab)->Q (.ref p) H'
def LU   (F:Fun K "_law_base" "_law_base" DH f fd)(T:Txt mg)
   (lb:⋯ 1 "_law_order_of" B9 ["house"] (JO K) EE D3)
   (lg:⋯ 1 "_law_classes" Cq ["house"] (Ry K) Fm EF)
  : nofun 2 f fd ["house"] (N4 K):=by
 delta BF
 ·obtain⟨h,L,aa,ab,rfl,_⟩:=h;rfl
 ·obtain⟨h,L,aa,ab,rfl,hh,wf,k⟩:=h
  have hl:=As
  have a9:=wf.n40
  have cn:=wf.n1
  have cH:=wf.l1
  have cX:=wf.l6
  refine⟨_,(Ac (Bk (i:=1) BF.nd rfl (rG rfl) (Ah lg hr.d AK (Aa (pvD 0) Ae)))
   (Ac (Ak (i:=2) BF.nd (Ah lb hr.d AK (Aa (pvD 0) Ae)))
   (Ac (Ak (i:=3) BF.nd (Bt Ae))
   (Ac (Bl jH_ rfl (AW (pvD 2)) (Ap (i:=4) BF.nd rfl (rC rfl))
   (Af (Bx (ptT (Ar GL (Ag (ixLD AS) (pvD 1) (pvD 4)) (A9 rfl (A3 rfl) (cp:=F1) ⟨⟨rfl,rfl⟩,rA⟩ (AW (pvD 3)) (fun _ _ _ _=>(Ap (i:=0) Hb rfl (rC rfl))) (fun _ _ _ _=>Bd) (fun _ _ _ _=>(Ag (ixLD (Bh (K:=K) rfl)) (pvD 1) (pvD 0)))) rfl))
   (Af (A8 (C8 jG_ jK_ jL_ AQ (pvD 3) (Aa (pvD 4) Ae))))
   AH)))
   (Ac (Bk (i:=5) BF.nd rfl (rG rfl) (A9 rfl (A3 rfl) (cp:=F2) ⟨⟨rfl,rfl⟩,rA⟩ (AW (pvD 3)) (fun _ _ _ _=>(Ap (i:=0) Hd rfl (rC rfl))) (fun _ _ _ _=>Bd) (fun _ _ _ _=>(Ag (ixLD (Bh (K:=K) rfl)) (pvD 1) (pvD 0)))))
   (Ac (Du (i:=6) BF.nd rfl rfl rfl (A3 rfl) (cp:=F3) ⟨⟨rfl,rfl⟩,⟨⟨rfl,rfl⟩,⟨⟨rfl,rfl⟩,rA⟩⟩⟩ (AW (pvD 3)) (fun _ _ _ _=>(Ap (i:=0) He rfl (rC rfl))) (fun _ _ _ _=>Bd) (fun _ _ _ _=>(AD (DB (K:=K) rfl) rfl T.tuple jC_ (Aa (A9 rfl (A3 rfl) (cp:=F4) ⟨⟨rfl,rfl⟩,⟨⟨rfl,rfl⟩,rA⟩⟩ (QE (K:=K) rfl (Ag (ixTD (Br (K:=K) rfl)) (Ag (ixTD (Br (K:=K) rfl)) (pvD 3) Ad) (pvD 0))) (fun _ _ _ _=>(Ap (i:=0) Hf rfl (rC rfl))) (fun _ _ _ _=>Bd) (fun _ _ _ _=>(Tq (K:=K) rfl jG_ sk sq Qz (pvD 1) (Aa (Ag (ixLD (Bh (K:=K) rfl)) (pvD 2) (pvD 0)) Ae)))) Ae))))
   (Af (AA (BN (Aa (Ag (ixTD An) (pvD 0) Ad) (Aa (AD Ax rfl T.tuple jC_ (Aa (A9 rfl (A3 rfl) (cp:=Fi) ⟨⟨rfl,rfl⟩,rA⟩ (AW (pvD 3)) (fun _ _ _ _=>(Ap (i:=0) Gy rfl (rC rfl))) (fun _ _ _ _=>Bd) (fun _ _ _ _=>(Ag (ixTD (Br (K:=K) rfl)) (Ag (ixTD (Br (K:=K) rfl)) (pvD 1) Ad) (pvD 0)))) Ae)) (Aa (AD Ax rfl T.tuple jC_ (Aa (pvD 6) Ae)) Ae)))))))))))),?_⟩
  nofun
  refine⟨h,L,aa,ab,rfl,hh,wf,fun pn names H1 s1 hpnN oA nm=>?_⟩
  refine⟨h,L,aa,ab,rfl,hh.mono s1,wf,fun po H2 s2 hpoN oC=>?_⟩
  refine⟨by lia,fun pf gJ=>?_⟩
  obtain⟨hF,hW⟩:=Vq wf nm
  have hR:((Au ab).map (·.1))=rOf ab:=rfl
  rw[hR]at oC
  have qt:=QV wf
  have mv:=fun {r:Int} (h:r∈rOf ab)=>De wf h
  have hRs:=fun {r x:Int} (h:r∈rOf ab) (x0:0<=x) (x1:x<L)=>Gq wf h x0 x1
  have hnl:names.length=aa.length:=nm.1
  have fL:∀g:Int,0<=g->g<aa.length->(names.map V.int)[g.toNat]?=some (V.int (cf names g)):=fun g g0 g1=>by unfold cf;rw[je_,jj_,jh_ s!""];rfl
  unfold sM at k
  rw[<-hW,<-hF]at k
  generalize rOf ab=R at oC qt mv hRs k
  have s12:=s1.trans s2
  have s3:=s12.newT gJ (o:=.lst [])
  have kg:H pf=none:=s12.none gJ
  have hpn2:=s2 _ _ oA
  have hpfo:pf≠po:=qs_ (Aq oC gJ)
  have lh:pf≠pn:=qs_ (Aq hpn2 gJ)
  have epf:upd H2 pf (.lst []) pf=some (.lst []):=Ab
  have qR:upd H2 pf (.lst []) po=some (.lst (R.map V.int)):=by rw[Aj (qs_ hpfo)];exact oC
  have qS:upd H2 pf (.lst []) pn=some (.lst (names.map V.int)):=by rw[Aj (qs_ lh)];exact hpn2
  generalize upd H2 pf (.lst [])=H3 at s3 epf qR qS ⊢
  refine⟨po,rfl,⟨_,SqL.of qR⟩,?_⟩
  have comp1:∀{H':Hp} {F:α2} {Q':VK} {cp:Caps} {σ:St},H' pn=some (.lst (names.map V.int))->H' pf=some (.lst (F.map V.int))->(∀r∈F,r∈R)->F.length<=40->cp.st σ=[none,some (.ref pn)]->(∀D,H' D=none->Q' (.ref D) (upd H' D (.lst ((F.map (cf names)).map V.int))))->K9 (Itl K pf) cp (Gf 0) Oe (tOp (So K) (OB 1) (OB 0)) σ H' Q':=fun {H' F Q' cp σ} h1 h2 cS aj e hd=>by
   refine ET (af:=[some (.ref pn)]) (fun x=>match x with | .int g=>.int (cf names g)|_=>.non) e (SqL.of h2) (by rw[ja_];lia) (fun x hx R' jv=>?_) (fun D hD=>?_)
   ·obtain⟨g,hg,rfl⟩:=jv_.mp hx
    have cA:=mv (cS g hg)
    nofun
    exact⟨_,SqL.of h1,_,B1 cA.1 (fL g cA.1 cA.2),jv⟩
   ·have:=hd D hD
    rw[jR_]at this ⊢
    exact this
  obtain⟨Pv,ao⟩:∃Pv:Nat->St->Hp->Prop,∀j af H',Pv j af H'↔(∃(o4:Option V),Cj pf H3 H'/\Same H H'/\H' pf=some (.lst ((FR names (R.take j)).map V.int))/\af=[some (.ref h),some (.ref pn),some (.ref po),some (.ref pf),o4,none,none]):=⟨_,fun _ _ _=>qv_⟩
  refine forL (xs:=R.map V.int) Pv ((ao _ _ _).mpr ⟨none,fun _ _ _ e=>e,s3,epf,rfl⟩) (fun j af H' _ h'=>by obtain⟨_,s',_⟩:=(ao _ _ _).mp h';exact SqL.of (s' _ _ (qs_ hpfo) qR)) (fun j x af H' hx h'=>?_) (fun af H' h'=>?_)
  ·obtain⟨o4,s4,oD,dQ,rfl⟩:=(ao _ _ _).mp h'
   obtain⟨r,iw,rfl⟩:=BP hx
   have oE:=jd_ iw
   have d6:=mv oE
   have qT:=NM names (R.take j)
   rw[jw_]at qT
   have gT:=s4 _ _ (qs_ lh) qS
   nofun
   refine⟨_,SqL.of gT,_,B1 d6.1 (fL r d6.1 d6.2),⟨_,SqL.of dQ⟩,?_⟩
   refine comp1 gT dQ (fun q hq=>xk_ (FO hq)) s!"" rfl fun D hD=>?_
   have sD:=Same.new hD (o:=.lst (((FR names (R.take j)).map (cf names)).map V.int))
   have eD:upd H' D (.lst (((FR names (R.take j)).map (cf names)).map V.int)) D=some (.lst (((FR names (R.take j)).map (cf names)).map V.int)):=Ab
   have oF:=sD _ _ dQ
   generalize upd H' D (.lst (((FR names (R.take j)).map (cf names)).map V.int))=H5 at sD eD oF ⊢
   refine⟨D,rfl,_,.inl (SqL.of eD),rfl,HX _,?_⟩
   rw[Ny]
   have nI:=QS (c:=names) iw
   refine ite2 (fun hy=>?_) (fun hn=>?_)
   ·have hy:¬ (cf names r∈(FR names (R.take j)).map (cf names)):=by simpa using hy
    refine⟨.inl ⟨rfl,_,SqL.of oF⟩,_,oF,by rw[ja_];lia,(ao _ _ _).mpr ⟨_,fun b o hb e=>by rw[Aj hb];exact sD _ _ (s4 b o hb e),(oD.trans sD).over kg,?_,rfl⟩⟩
    rw[Ab,nI,show By names (FR names (R.take j)) r=FR names (R.take j)++[r] from if_neg hy,jW_]
    rfl
   ·have hn:cf names r∈(FR names (R.take j)).map (cf names):=by simpa using hn
    refine (ao _ _ _).mpr ⟨_,fun b o hb e=>sD _ _ (s4 b o hb e),oD.trans sD,?_,rfl⟩
    rw[oF,nI,show By names (FR names (R.take j)) r=FR names (R.take j) from if_pos hn]
  ·obtain⟨o4,s4,oD,dQ,rfl⟩:=(ao _ _ _).mp h'
   rw[ja_,jO_]at dQ
   have gT:=s4 _ _ (qs_ lh) qS
   have qT:=NM names R
   nofun
   refine⟨⟨_,SqL.of dQ⟩,?_⟩
   refine comp1 gT dQ (fun q hq=>FO hq) s!"" rfl fun pm bZ=>?_
   have cS:∀q∈FR names R,q∈R:=fun q hq=>FO hq
   have bS:∀g∈R,cf names g∈(FR names R).map (cf names)/\hm names R g=((((FR names R).map (cf names)).idxOf (cf names g):Nat):Int):=fun g hg=>by
    unfold hm
    rw[Ii]
    exact⟨AM.mpr (q8_ hg),rfl⟩
   have oG:=oD.newT bZ (o:=.lst (((FR names R).map (cf names)).map V.int))
   have qU:=Same.new bZ (o:=.lst (((FR names R).map (cf names)).map V.int))
   have lj:upd H' pm (.lst (((FR names R).map (cf names)).map V.int)) pm=some (.lst (((FR names R).map (cf names)).map V.int)):=Ab
   generalize upd H' pm (.lst (((FR names R).map (cf names)).map V.int))=H5 at oG qU lj ⊢
   have oH:=qU _ _ dQ
   have epn5:=qU _ _ gT
   generalize FR names R=F at dQ oH qT cS bS k lj
   refine⟨⟨_,SqL.of oH⟩,?_⟩
   have hFz:F.length<sizeLine:=by lia
   refine IV (xs:=F.map V.int) (fun i' zs af H'=>Same H5 H'/\AB K H' zs ((F.take i').map (hrow names R ab))/\∃o,af=[o,some (.ref pm),some (.ref pn),some (.ref h)]) ⟨Same.refl _,AB.nil,none,rfl⟩ (by rw[ja_];exact hFz) (fun i' zs af H' hi' h'=>⟨SqL.of (h'.1 _ _ oH),by rw[h'.2.1.1,ja_,jw_];lia⟩) (fun i' x zs af H6 hx h'=>?_) (fun zs af H6 h' pw bp=>?_)
   ·obtain⟨s6,oI,o,rfl⟩:=h'
    obtain⟨r,iw,rfl⟩:=BP hx
    have oE:=cS r (jd_ iw)
    have d6:=mv oE
    obtain⟨row,w1,w2,w3⟩:=wf.row d6.1 d6.2
    obtain⟨jz,i5,g1,g2,g3⟩:=hh.mono (oG.trans s6)
    obtain⟨ys,t,z1,z2,z3⟩:=g3.atZ d6.1 w1
    have hrw:=wf.rows row w2
    have hgR:∀g∈row,g∈R:=fun g hg=>by
     obtain⟨x,hx,rfl⟩:=jV_ hg
     have:=hRs oE (x:=(x:Int)) s!"" s!""
     rw[BH w1 (g:=row[x]) (by rw[jg_];exact jh_ hx)]at this
     exact this
    nofun
    refine⟨_,g1,_,rfl,i5,rfl,_,z1,_,z2,t,rfl,⟨_,z3⟩,?_⟩
    refine ES (af:=[some (.ref pm),some (.ref pn)]) (fun x=>match x with | .int g=>.int (hm names R g)|_=>.non) rfl z3 (by rw[ja_];lia) (fun x hx R' jv=>?_) (fun D hD=>?_)
    ·obtain⟨g,hg,rfl⟩:=jv_.mp hx
     have cA:=mv (hgR g hg)
     obtain⟨hc1,cE⟩:=bS g (hgR g hg)
     have i6:=xR_.mpr hc1
     rw[ja_]at i6
     nofun
     refine⟨.inl ⟨rfl,_,SqL.of (s6 _ _ lj)⟩,_,SqL.of (s6 _ _ epn5),_,B1 cA.1 (fL g cA.1 cA.2),_,s6 _ _ lj,rfl,HX _,(F.map (cf names)).idxOf (cf names g),by lia,⟨V.int (cf names g),?_,by simp[eqV]⟩,fun m z hm hz=>?_,?_⟩
     ·rw[je_,jh_ (by rw[ja_];exact i6),q2_];rfl
     ·obtain⟨y,hy,rfl⟩:=BP hz
      have aw:y≠cf names g:=fun z=>by
       have:=LS (by rw[hy,z])
       lia
      simp[eqV,aw]
     ·rw[<-cE];exact jv
    ·refine⟨D,rfl,_,.inl ⟨SqL.of Ab,fun l eZ=>?_⟩⟩
     have sD:=(Same.new hD (o:=.lst ((row.map V.int).map fun x=>match x with | .int g=>.int (hm names R g)|_=>.non))).newT eZ (o:=.tup ((row.map V.int).map fun x=>match x with | .int g=>.int (hm names R g)|_=>.non))
     refine⟨s6.trans sD,?_,_,rfl⟩
     rw[jQ_,iw,qu_,jW_]
     refine (oI.mono (TK.of sD)).snoc ?_
     rw[Ab,jR_]
     unfold hrow
     rw[jj_,w1,uw,jR_]
     rfl
   ·obtain⟨s6,oI,o,rfl⟩:=h'
    rw[ja_,jO_]at oI
    have s7:=s6.newT bp (o:=.lst zs)
    have mw:upd H6 pw (.lst zs) pw=some (.lst zs):=Ab
    have fW:AB K (upd H6 pw (.lst zs)) zs _:=oI.mono (TK.new bp)
    generalize upd H6 pw (.lst zs)=H7 at s7 mw fW ⊢
    have sH7:=oG.trans s7
    obtain⟨jz,i5,g1,g2,g3⟩:=hh.mono sH7
    have hf7:=s7 _ _ oH
    refine⟨_,g1,_,rfl,⟨_,SqL.of hf7⟩,?_⟩
    refine ET (af:=[some (.ref h)]) (fun x=>match x with | .int g=>.int (mkR aa g)|_=>.non) rfl (SqL.of hf7) (by rw[ja_];exact hFz) (fun x hx R' jv=>?_) (fun D hD=>?_)
    ·obtain⟨g,hg,rfl⟩:=jv_.mp hx
     have cA:=mv (cS g hg)
     nofun
     refine⟨_,g1,_,rfl,jz,rfl,_,g2,_,B1 cA.1 (v:=V.int (mkR aa g)) ?_,jv⟩
     rw[je_,TH s!""];rfl
    ·have sD:=s7.newT hD (o:=.lst ((F.map V.int).map fun x=>match x with | .int g=>.int (mkR aa g)|_=>.non))
     have eD:upd H7 D (.lst ((F.map V.int).map fun x=>match x with | .int g=>.int (mkR aa g)|_=>.non)) D=some (.lst ((F.map (mkR aa)).map V.int)):=by rw[Ab,jR_,jR_];rfl
     have qV:=Same.new hD (o:=.lst ((F.map V.int).map fun x=>match x with | .int g=>.int (mkR aa g)|_=>.non))
     generalize upd H7 D (.lst ((F.map V.int).map fun x=>match x with | .int g=>.int (mkR aa g)|_=>.non))=H8 at sD eD qV ⊢
     refine⟨D,rfl,_,.inl ⟨SqL.of eD,fun l eZ=>?_⟩⟩
     have sl:=Same.new eZ (o:=.tup ((F.map (mkR aa)).map V.int))
     have el:upd H8 l (.tup ((F.map (mkR aa)).map V.int)) l=some (.tup ((F.map (mkR aa)).map V.int)):=Ab
     generalize upd H8 l (.tup ((F.map (mkR aa)).map V.int))=H9 at sl el ⊢
     have epw9:=sl _ _ (qV _ _ mw)
     refine⟨pw,rfl,_,.inl ⟨SqL.of epw9,fun l1 bo=>⟨by lia,fun p hp=>?_⟩⟩⟩
     have hz9:=fW.mono (TK.of (qV.trans sl))
     have i7:=(Same.new bo (o:=.tup zs)).newT hp (o:=.tup [V.int L,V.ref l,V.ref l1])
     have e1:=Same.new hp (o:=.tup [V.int L,V.ref l,V.ref l1]) _ _ (Ab (H:=H9) (a:=l1) (o:=.tup zs))
     have e2:upd (upd H9 l1 (.tup zs)) p (.tup [V.int L,V.ref l,V.ref l1]) p=some (.tup [V.int L,V.ref l,V.ref l1]):=Ab
     have gU:=hz9.mono (TK.of i7)
     generalize upd (upd H9 l1 (.tup zs)) p (.tup [V.int L,V.ref l,V.ref l1])=qW at i7 e1 e2 gU ⊢
     refine k p qW (((oG.trans sD).trans sl).trans i7) ⟨l,l1,SqT.of e2,SqT.of (i7 _ _ el),?_⟩
     obtain⟨os,x1,x2,x3⟩:=F9 gU
     refine⟨os.map (·.1),?_,by rw[<-x2,ja_,ja_],fun i t row hi hrow=>?_⟩
     ·rw[jR_]
      rw[x1]at e1
      exact SqT.of e1
     ·rw[<-x2,je_]at hrow
      rw[je_]at hi
      cases ho:os[i]? with
      |none=>rw[ho]at hi;cases hi
      |some o=>
       rw[ho]at hi hrow
       cases hi;cases hrow
       exact SqT.of (x3 o (jd_ ho))
def JQ (K:α3):Sp:=fun vs H Q _=>∃(h:Addr) (L:Int) (aa:α2) (ab:α1) (num:Int),vs=[.ref h,.int num]/\Ba K H h L aa ab/\Wf L aa ab/\∀h' ar aG H',Same H H'->Ba K H' h' L ar aG->Wf L ar aG->ar.length=aa.length->Q (.ref h') H'
def IK   (F:Fun K "_law_spoiled" "_law_spoiled" Cp f fd)(T:Txt mg)
  : nofun 1 f fd ["house","number"] (JQ K):=by
 delta Bo
 ·obtain⟨h,L,aa,ab,num,rfl,_⟩:=h;rfl
 ·obtain⟨h,L,aa,ab,num,rfl,hh,wf,k⟩:=h
  have hl:=As
  have cH:=wf.l1
  have cX:=wf.l6
  have cn:=wf.n1
  have a9:=wf.n40
  obtain⟨tm,tw,q1,q2,q3⟩:=id hh
  refine⟨_,(Ac (Bk (i:=2) Bo.nd rfl (rG rfl) (AD Ef rfl T.list xs_ (Aa (Ag (ixTD An) (pvD 0) Ad) Ae)))
   (BA (Bk (i:=3) Bo.nd rfl (rG rfl) (A9 rfl (A3 rfl) (cp:=DU) rA (Ed (Ag (ixTD An) (pvD 0) Ad)) (fun _ _ _ _=>(Ap (i:=0) Fx rfl (rC rfl))) (fun _ _ _ _=>Bd) (fun _ _ _ _=>(AD (J8 (K:=K) rfl) rfl T.list xs_ (Aa (pvD 0) Ae)))))
   (Ac (Bk (i:=4) Bo.nd rfl (rG rfl) (Am (opD AL) (Am (opD Bz) (pvD 1) Ad) (Ao (lenD Ai) (by rfl) T.len jF_ (Aa (pvD 2) Ae))))
   (BA (Bx (ptT (Ar (opE B0) (Am (opD AL) (pvD 1) Ad) Ad (AE _)))
   (Af (KR (Am (opD AL) (Am (opD0 AV) (Am (opD0 AV) (Ag (ixLD AS) (pvD 2) (pvD 4)) Ad) (Am (opD AL) (Am (opD Bz) (pvD 1) Ad) Ad)) Ad) (KQ (pvD 2) (pvD 4) set_list)))
   AH)
   (BA (Bx (ptT (Ar (opE B0) (Am (opD AL) (pvD 1) Ad) Ad (AE _)))
   (Ac (Bk (i:=5) Bo.nd rfl (rG rfl) (Am (opD AL) (Am (opD Bz) (pvD 1) Ad) (Ag (ixTD An) (pvD 0) Ad)))
   (Ac (Du (i:=6) Bo.nd rfl rfl rfl (A3 rfl) (cp:=DV) ⟨⟨rfl,rfl⟩,⟨⟨rfl,rfl⟩,⟨⟨rfl,rfl⟩,⟨⟨rfl,rfl⟩,rA⟩⟩⟩⟩ (AO rfl T.range (Aa (Ao (lenD Ai) (by rfl) T.len jF_ (Aa (pvD 2) Ae)) Ae)) (fun _ _ _ _=>(Ap (i:=0) Fy rfl (rC rfl))) (fun _ _ _ _=>(PZ (ptT (Ar (opE B0) (Ag (ixLD (Bh (K:=K) rfl)) (pvD 1) (pvD 0)) (Ag (ixLD (Bh (K:=K) rfl)) (pvD 1) (Ag (ixLD (Bh (K:=K) rfl)) (Ag (ixLD (Bh (K:=K) rfl)) (pvD 3) (pvD 4)) (pvD 2))) (AE _))))) (fun _ _ _ _=>(pvD 0)))
   (Af (KR (Ag (ixLD AS) (pvD 6) (Am (opD AL) (Am (opD Bz) (pvD 1) Ad) (Ao (lenD Ai) (by rfl) T.len jF_ (Aa (pvD 6) Ae)))) (KQ (Ag (ixLD AS) (pvD 3) (pvD 4)) (pvD 5) set_list)))))
   AH)
   (Af (AA (BN (Aa (Ag (ixTD An) (pvD 0) Ad) (Aa (AD Ax rfl T.tuple jC_ (Aa (pvD 2) Ae)) (Aa (AD Ax rfl T.tuple jC_ (Aa (A9 rfl (A3 rfl) (cp:=DW) rA (AW (pvD 3)) (fun _ _ _ _=>(Ap (i:=0) Fz rfl (rC rfl))) (fun _ _ _ _=>Bd) (fun _ _ _ _=>(AD (DB (K:=K) rfl) rfl T.tuple jC_ (Aa (pvD 0) Ae)))) Ae)) Ae))))))))))),?_⟩
  nofun
  refine⟨_,q1,_,rfl,?_⟩
  nofun
  refine⟨_,.inr q2,fun pm bZ=>?_⟩
  have sm:=Same.new (o:=.lst (aa.map V.int)) bZ
  have cI:upd H pm (.lst (aa.map V.int)) pm=some (.lst (aa.map V.int)):=Ab
  generalize upd H pm (.lst (aa.map V.int))=H0 at sm cI ⊢
  obtain⟨R,hR⟩:∃R:St->Hp->Prop,∀af H',R af H'↔(∃(pw:Addr) (xs:List V) (ar:α2) (aG:α1) (room:Int) (o5 o6:Option V),Same H H'/\H0 pw=none/\H' pm=some (.lst (ar.map V.int))/\H' pw=some (.lst xs)/\LLs H0 H' xs aG/\pw≠pm/\0<=room/\room<aa.length/\ar.length=aa.length/\Wf L ar aG/\af=[some (.ref h),some (.int num),some (.ref pm),some (.ref pw),some (.int room),o5,o6]):=⟨_,fun _ _=>qv_⟩
  obtain⟨R1,hR1⟩:∃R:St->Hp->Prop,∀af H',R af H'↔(∃(pw:Addr) (xs:List V),Same H0 H'/\H0 pw=none/\H' pw=some (.lst xs)/\LLs H0 H' xs ab/\af=[some (.ref h),some (.int num),some (.ref pm),some (.ref pw),none,none,none]):=⟨_,fun _ _=>qv_⟩
  refine⟨R1,?_,fun jf H1 h1=>?_⟩
  ·obtain⟨jz,i5,y1,y2,y3⟩:=hh.mono sm
   obtain⟨ts,z1,z2,z3⟩:=id y3
   nofun
   refine⟨_,y1,_,rfl,?_⟩
   nofun
   refine⟨⟨_,z1⟩,?_⟩
   have aj:=wf.len
   refine UE (xs:=ts.map V.ref) (fun i ys ai H2=>Same H0 H2/\LLs H0 H2 ys (ab.take i)/\∃o,ai=[o]) ⟨Same.refl _,by rw[z9_];exact LLs.nil _ _,none,rfl⟩ (by rw[ja_];lia) (fun i ys ai H2 _ h=>⟨h.1.seqT z1,by rw[h.2.1.len,jw_];lia⟩) (fun i x ys ai H2 hx h=>?_) (fun ys ai H2 h=>?_)
   ·obtain⟨s2,ef,o,rfl⟩:=h
    have hi:i<ts.length:=by have:=(jc_.mp hx).1;rwa [ja_]at this
    have jZ:ts[i]?=some ts[i]:=by simp[hi]
    rw[je_,jZ]at hx
    cases hx
    have bV:ab[i]?=some ab[i]:=by simp[show i<ab.length by lia]
    nofun
    refine⟨_,.inr (s2.seqT (z3 i _ _ jZ bV)),fun l fK=>⟨s2.newT fK,?_,_,rfl⟩⟩
    rw[jQ_,bV]
    exact ef.snoc (Same.none s2 fK) fK
   ·obtain⟨s2,ef,o,rfl⟩:=h
    rw[ja_,z2,jO_]at ef
    intro D hD
    exact (hR1 _ _).mpr ⟨D,ys,s2.newT hD,Same.none s2 hD,Ab,ef.mono (Same.new hD),rfl⟩
  obtain⟨pw,xs,s1,dG,bp,ef,rfl⟩:=(hR1 _ _).mp h1
  have ll:pw≠pm:=fun z=>by rw[z,cI]at dG;cases dG
  have hHpw:H pw=none:=Same.none sm dG
  nofun
  refine⟨(show CDiv num 3 from ⟨by lia,by lia⟩),_,.inl (SqL.of (s1 _ _ cI)),?_⟩
  rw[ja_]
  refine⟨by lia,?_⟩
  have r0:=qa_ (num / 3) (show (aa.length:Int)≠0 by lia)
  have r1:=jZ_ (num / 3) (show (0:Int)<aa.length by lia)
  generalize num / 3%(aa.length:Int)=room at r0 r1 ⊢
  refine⟨R,?_,fun ai H2 h2=>?_⟩
  ·nofun
   refine⟨by lia,ite2 (fun h3=>?_) (fun h3=>(hR _ _).mpr ⟨pw,xs,aa,ab,room,none,none,sm.trans s1,dG,s1 _ _ cI,bp,ef,ll,r0,r1,rfl,wf,rfl⟩)⟩
   have hi:room.toNat<aa.length:=by lia
   have m0:=qa_ (aa[room.toNat]+1+num / 120%1000000000) (show (1000000001:Int)≠0 by lia)
   have m1:=jZ_ (aa[room.toNat]+1+num / 120%1000000000) (show (0:Int)<1000000001 by lia)
   refine⟨_,SqL.of (s1 _ _ cI),_,AX r0 (show aa[room.toNat]?=some aa[room.toNat] by simp[hi]),_,rfl,(show CDiv num 120 from ⟨by lia,by lia⟩),by lia,by lia,_,s1 _ _ cI,room.toNat,Nz r0 (by rw[ja_];exact r1),?_⟩
   generalize (aa[room.toNat]+1+num / 120%1000000000)%1000000001=mk at m0 m1 ⊢
   refine (hR _ _).mpr ⟨pw,xs,aa.set room.toNat mk,ab,room,none,none,(sm.trans s1).over bZ,dG,by rw[Ab,Nm],by rw[Aj ll];exact bp,ef.off cI,ll,r0,r1,by rw[qV_],wf.setM _ ⟨m0,by lia⟩,rfl⟩
  clear ef bp s1 h1
  obtain⟨pw,xs,ar,aG,room,o5,o6,s2,dG,hZ,d8,ef,aw,r0,r1,iK,ip,rfl⟩:=(hR _ _).mp h2
  refine⟨R,?_,fun aE H3 h3=>?_⟩
  ·nofun
   refine⟨by lia,ite2 (fun h3=>?_) (fun h3=>h2)⟩
   obtain⟨jz,i5,y1,y2,y3⟩:=hh.mono s2
   have l0:=qa_ (num / 120) (show L≠0 by lia)
   have l1:=jZ_ (num / 120) (show (0:Int)<L by lia)
   refine⟨(show CDiv num 120 from ⟨by lia,by lia⟩),_,y1,_,rfl,_,rfl,by lia,_,.inl (SqL.of hZ),by lia,by rw[ja_];lia,?_⟩
   generalize num / 120%L=letter at l0 l1 ⊢
   rw[ja_,jg_]
   have fZ:=ip.n40
   obtain⟨row,hrow,fC,dm⟩:=ip.row r0 s!""
   obtain⟨t,ik,ht,iQ,gN⟩:=ef.at hrow
   have aq:letter.toNat<row.length:=by lia
   have hg:row[letter.toNat]?=some row[letter.toNat]:=by simp[aq]
   have cA:=(ip.rows row fC).2 row[letter.toNat] (j1_ aq)
   generalize row[letter.toNat]=g0 at hg cA
   refine J5 (fun i ys bR H4=>H4=H2/\(∃gs:α2,ys=gs.map V.int/\gs.length<=i/\(∀g∈gs,0<=g/\g<ar.length)/\(g0<i->gs ≠ []))/\∃o,bR=[o,some (.ref pm),some (.int letter),some (.ref pw),some (.int room)]) ⟨rfl,⟨[],rfl,by simp,by simp,fun h=>absurd h (by push_cast;lia)⟩,none,rfl⟩ s!"" (fun i ys bR H4 _ h=>by obtain⟨_,⟨gs,rfl,h,_⟩,_⟩:=h;rw[ja_];exact h) (fun i ys bR H4 hi h=>?_) (fun ys bR H4 h=>?_)
   ·obtain⟨rfl,⟨gs,rfl,hgl,oJ,qX⟩,o,rfl⟩:=h
    have ei:(0:Int)+(i:Nat)=(i:Int):=by lia
    rw[ei]
    nofun
    refine⟨_,SqL.of hZ,_,Qm s!"" s!"",_,SqL.of d8,_,B1 r0 ik,?_⟩
    nofun
    refine⟨_,SqL.of ht,_,AX l0 hg,_,_,rfl,SqL.of hZ,_,Qm cA.1 cA.2,rfl,?_⟩
    by_cases he:mkW ar (i:Int)=mkW ar g0
    ·rw[if_pos (jJ_ V.int he)]
     refine⟨⟨gs++[(i:Int)],by simp,by simp;lia,fun g hg=>?_,fun _=>by simp⟩,_,rfl⟩
     rcases jA_.mp hg with hg|hg
     ·exact oJ g hg
     ·rw[ju_.mp hg];lia
    ·rw[if_neg (fun z=>he (V.int.inj z))]
     refine⟨⟨gs,rfl,by lia,oJ,fun h=>qX ?_⟩,_,rfl⟩
     have:g0≠i:=fun z=>he (by rw[z])
     push_cast at h
     lia
   ·obtain⟨rfl,⟨gs,rfl,hgl,oJ,qX⟩,o,rfl⟩:=h
    intro D hD
    have hne':gs ≠ []:=qX cA.2
    have hgp:0<gs.length:=z2_.mpr hne'
    have sD:=Same.new (o:=.lst (gs.map V.int)) hD
    have i0:=qa_ (num / 720) (show (gs.length:Int)≠0 by lia)
    have i1:=jZ_ (num / 720) (show (0:Int)<gs.length by lia)
    have ft:(num / 720%(gs.length:Int)).toNat<gs.length:=by lia
    refine⟨(show CDiv num 720 from ⟨by lia,by lia⟩),D,rfl,_,.inl (SqL.of Ab),by rw[ja_];lia,D,rfl,_,SqL.of Ab,V.int gs[(num / 720%(gs.length:Int)).toNat],by rw[ja_];exact AX i0 (by simp[ft]),_,SqL.of (sD _ _ d8),_,B1 r0 ik,t,rfl,_,sD _ _ ht,letter.toNat,Nz l0 (by rw[ja_];lia),?_⟩
    have hgx:=oJ _ (j1_ ft)
    generalize gs[(num / 720%(gs.length:Int)).toNat]=gx at hgx ⊢
    have iL:pm≠t:=fun z=>by rw[<-z,cI]at iQ;cases iQ
    have hwt:pw≠t:=fun z=>by
     rw[<-z,d8]at ht
     have:=jJ_ (fun o=>match o with|some (HO.lst l)=>l[room.toNat]? | _=>none) ht
     simp only[ik]at this
     rw[je_]at this
     cases e:row[room.toNat]? with
     |none=>rw[e]at this;cases this
     |some v=>rw[e]at this;cases this
    rw[Nm]
    have hLs:LLs H0 (upd (upd H4 D (.lst (gs.map V.int))) t (.lst ((row.set letter.toNat gx).map V.int))) xs (aG.set room.toNat (row.set letter.toNat gx)):=by
     obtain⟨t',a1,_,_,a4⟩:=(ef.mono sD).at hrow
     rw[ik]at a1
     cases a1
     exact a4 _ _
    exact (hR _ _).mpr ⟨pw,xs,ar,_,room,_,_,(s2.newT hD).over (Same.none sm iQ),dG,by rw[Aj iL];exact sD _ _ hZ,by rw[Aj hwt];exact sD _ _ d8,hLs,aw,r0,r1,iK,ip.setW hrow _ hgx,rfl⟩
  obtain⟨pw,xs,ar,aG,room,o5,o6,s3,dG,ot,dF,ef,aw,r0,r1,iK,ip,rfl⟩:=(hR _ _).mp h3
  obtain⟨jz,i5,y1,y2,y3⟩:=hh.mono s3
  nofun
  refine⟨_,y1,_,rfl,?_⟩
  nofun
  refine⟨_,.inl ⟨SqL.of ot,fun l fK=>⟨⟨_,SqL.of (Same.new fK _ _ dF)⟩,?_⟩⟩⟩
  have sl:=Same.new (o:=.tup (ar.map V.int)) fK
  have wl:=ip.len
  have wn:=ip.n40
  refine R7 (xs:=xs) (ws:=aG) (af:=[]) (SqL.of (sl _ _ dF)) ef.len rfl (by rw[ef.len];lia) (fun i x w H4 s4 hx hw R hR=>?_) (fun H4 D ys s4 hD hT=>?_)
  ·obtain⟨t,a1,a2,_⟩:=ef.at hw
   rw[hx]at a1
   cases a1
   nofun
   refine⟨_,.inl ⟨SqL.of (s4 _ _ (sl _ _ a2)),fun p hp=>hR p _ (Same.new hp) (SqT.of Ab)⟩⟩
  ·obtain⟨ng,cq,iH⟩:=hT.rows
   rw[Ab]at cq
   cases cq
   refine⟨D,rfl,_,.inl ⟨SqL.of Ab,fun l1 bo=>⟨by lia,fun p5 cJ=>?_⟩⟩⟩
   have sD:=Same.new (o:=.lst ys) hD
   refine k p5 ar aG _ (((((s3.trans sl).trans s4).newT hD).newT bo).newT cJ) ⟨l,l1,SqT.of Ab,?_,(iH l1 bo).mono (Same.new cJ)⟩ ip iK
   exact SqT.of (Same.new cJ _ _ (Same.new bo _ _ (sD _ _ (s4 _ _ Ab))))
def N5 (K:α3):Sp:=fun vs H Q _=>∃(h a:Addr) (L r:Int) (aa:α2) (ab:α1) (ws:α2),vs=[.ref h,.int r,.ref a]/\Ba K H h L aa ab/\Wf L aa ab/\SqT K H a (ws.map V.int)/\isW L ws=true/\0<=r/\r<aa.length/\Q (.int (Bv ab r ws)) H
def LV   (F:Fun K "_law_walk" "_law_walk" DI f fd)(T:Txt mg)
  : nofun 1 f fd ["house","room","word"] (N5 K):=by
 delta Eu
 ·obtain⟨h,a,L,r,aa,ab,ws,rfl,_⟩:=h;rfl
 ·obtain⟨h,a,L,r,aa,ab,ws,rfl,hh,wf,ha,hv,r0,r1,k⟩:=h
  refine⟨_,(Ac (Bl jH_ rfl (Ed (pvD 2)) (Ap (i:=3) Eu.nd rfl (rC rfl))
   (Af (Ak (i:=1) Eu.nd (Ag (ixTD An) (Ag (ixTD An) (Ag (ixTD An) (pvD 0) Ad) (pvD 1)) (pvD 3)))))
   (Af (AA (pvD 1)))),?_⟩
  nofun
  refine⟨⟨_,ha⟩,forT (xs:=ws.map V.int) (fun i ai H2=>H2=H/\∃o,ai=[some (.ref h),some (.int (Bv ab r (ws.take i))),some (.ref a),o]) ⟨rfl,none,by simp[Bv]⟩ (fun i ai H2 _ h=>by rw[h.1];exact ha) (fun i x ai H2 hx h=>?_) (fun ai H2 h=>?_)⟩
  ·obtain⟨rfl,o,rfl⟩:=h
   obtain⟨n,hn,rfl⟩:=BP hx
   have bP:=Av.mp hv n (jd_ hn)
   have eT:=Hs wf (ws.take i) (Ht hv i) r0 r1
   obtain⟨row,g,r1,r2,r3,r4,r5⟩:=wf.step eT.1 eT.2 bP.1 bP.2
   obtain⟨m,wv,q1,q2,q3⟩:=id hh
   obtain⟨xs,t,z1,z2,z3⟩:=q3.atZ eT.1 r1
   nofun
   refine⟨_,q1,_,rfl,?_⟩
   nofun
   refine⟨_,z1,_,z2,?_⟩
   nofun
   refine⟨_,z3,_,AX bP.1 r2,?_⟩
   rw[Jq hn,r3]
   exact⟨rfl,_,rfl⟩
  ·obtain⟨rfl,o,rfl⟩:=h
   rw[ja_,jO_]
   nofun
   exact k
def Ct (K:α3)(H:Hp)(xs:List V)(aF:List (α2×Int)):Prop:=xs.length=aF.length/\∀(i:Nat) (tr:α2×Int),aF[i]?=some tr->∃t wt,xs[i]?=some (.ref t)/\SqT K H t [.ref wt,.int tr.2]/\SqT K H wt (tr.1.map V.int)/\tr.1.length<=600
def Ct.mono {K:α3}    (h:Ct K H xs aF)(s:Same H H'):Ct K H' xs aF:=by
 refine⟨h.1,fun i tr bu=>?_⟩
 obtain⟨t,wt,a,b,c,d⟩:=h.2 i tr bu
 exact⟨t,wt,a,s.seqT b,s.seqT c,d⟩
def Ct.nil {K:α3}  : Ct K H [] []:=⟨rfl,fun i tr h=>by simp at h⟩
def Ct.snoc {K:α3}{H:Hp}{xs:List V}{aF:List (α2×Int)}(h:Ct K H xs aF){t wt:Addr}{w:α2}{m:Int}(h1:SqT K H t [.ref wt,.int m])(h2:SqT K H wt (w.map V.int))(h3:w.length<=600):Ct K H (xs++[.ref t]) (aF++[(w,m)]):=by
 refine⟨by rw[jn_,jn_,h.1];rfl,fun i tr hi=>?_⟩
 by_cases eE:i<aF.length
 ·rw[jk_ eE]at hi
  rw[jk_ (by rw[h.1];exact eE)]
  exact h.2 i tr hi
 ·have:=(jc_.mp hi).1
  rw[jn_,jX_]at this
  have ei:i=aF.length:=by lia
  subst ei
  rw[jt_ (ji_ _),qG_]at hi
  simp at hi
  subst hi
  refine⟨t,wt,?_,h1,h2,h3⟩
  rw[jt_ (by rw[h.1];exact ji_ _),h.1,qG_];rfl
def Wds (K:α3)(H:Hp)(xs:List V)(ws:α1):Prop:=xs.length=ws.length/\∀(i:Nat) (w:α2),ws[i]?=some w->∃t,xs[i]?=some (.ref t)/\SqT K H t (w.map V.int)
def DQ (aa:α2)(ab:α1)(w:α2):α2×Int:=(w,Gz aa (Az ab w))
def Ui (K:α3):Sp:=fun vs H Q E=>∃(h a:Addr) (L:Int) (aa:α2) (ab:α1) (xs:List V) (ws:α1),vs=[.ref h,.ref a]/\Ba K H h L aa ab/\Wf L aa ab/\SqL K H a xs/\Wds K H xs ws/\(∀w∈ws,w.length<=600)/\xs.length<sizeLine /\
 ((∀w∈ws,isW L w=true)->∀H2 D ys,Same H H2->H2 D=none->Ct K H2 ys (ws.map (DQ aa ab))->Q (.ref D) (upd H2 D (.lst ys))) /\
 ((∃w∈ws,isW L w=false)->False)
def LW   (F:Fun K "trials_of" "trials_of" DF f fd)(T:Txt mg)
   (fM:⋯ 5 "mark_behind" B5 ["house","word"] (MQ K) DR C6)
  : nofun 6 f fd ["house","words"] (Ui K):=by
 delta LA
 ·obtain⟨h,a,L,aa,ab,xs,ws,rfl,_⟩:=h;rfl
 ·obtain⟨h,a,L,aa,ab,xs,ws,rfl,hh,wf,ha,hw,dj,bX,k,kE⟩:=h
  have hl:=As
  refine⟨_,(Af (AA (A9 rfl (A3 rfl) (cp:=F0) ⟨⟨rfl,rfl⟩,rA⟩ (AW (pvD 1)) (fun _ _ _ _=>(Ap (i:=0) Ha rfl (rC rfl))) (fun _ _ _ _=>Bd) (fun _ _ _ _=>(BN (Aa (pvD 0) (Aa (Ah fM hr.d AK (Aa (pvD 1) (Aa (pvD 0) Ae))) Ae))))))),?_⟩
  nofun
  refine⟨⟨_,ha⟩,?_⟩
  obtain⟨Pv,ao⟩:∃Pv:Nat->List V->St->Hp->Prop,∀i ys af H',Pv i ys af H'↔(Same H H'/\Ct K H' ys ((ws.take i).map (DQ aa ab))/\(∀w∈ws.take i,isW L w=true)/\i<=ws.length/\∃o,af=[o,some (.ref h)]):=⟨_,fun _ _ _ _=>qv_⟩
  refine IV (xs:=xs) Pv ((ao _ _ _ _).mpr ⟨Same.refl _,by rw[z9_];exact Ct.nil,by simp,jY_ _,none,rfl⟩) s!"" (fun i ys ai H2 hi h2=>?_) (fun i x ys ai H2 hx h2=>?_) (fun ys ai H2 h2 D hD=>?_)
  ·obtain⟨s2,t2,_,eE,_⟩:=(ao _ _ _ _).mp h2
   refine⟨s2.seq ha,?_⟩
   rw[t2.1,ja_,jw_]
   lia
  ·obtain⟨s2,t2,aA,eE,o,rfl⟩:=(ao _ _ _ _).mp h2
   have hi:i<ws.length:=by rw[<-hw.1];exact (jc_.mp hx).1
   have bV:ws[i]?=some ws[i]:=by simp[hi]
   obtain⟨t,e1,e2⟩:=hw.2 i _ bV
   rw[hx]at e1
   cases e1
   have hsz:=dj _ (jd_ bV)
   have ir:ws.take (i+1)=ws.take i++[ws[i]]:=by rw[List.take_succ,bV];rfl
   nofun
   refine⟨h,t,L,aa,ab,ws[i],rfl,hh.mono s2,wf,s2.seqT e2,hsz,fun hv H3 s3=>⟨by lia,fun p hp=>?_⟩,fun hv=>kE ⟨_,jd_ bV,hv⟩⟩
   have sp:=s3.newT (o:=.tup [V.ref t,V.int (Gz aa (Az ab ws[i]))]) hp
   refine (ao _ _ _ _).mpr ⟨s2.trans sp,?_,fun w nY=>?_,hi,_,rfl⟩
   ·rw[ir,jW_]
    exact (t2.mono sp).snoc (SqT.of Ab) ((s2.trans sp).seqT e2) hsz
   ·rw[ir]at nY
    rcases jA_.mp nY with z|z
    ·exact aA w z
    ·rw[ju_.mp z];exact hv
  ·obtain⟨s2,t2,aA,_,o,rfl⟩:=(ao _ _ _ _).mp h2
   rw[jP_ (by rw[hw.1];exact ji_ _)]at t2 aA
   exact k aA H2 D ys s2 hD t2
def EG (aa:α2)(ab:α1)(tr:α2×Int):Bool:=decide (Gz aa (Az ab tr.1)≠tr.2)
def Vr (K:α3):Sp:=fun vs H Q E=>∃(h a:Addr) (L:Int) (aa:α2) (ab:α1) (xs:List V) (aF:List (α2×Int)),vs=[.ref h,.ref a]/\Ba K H h L aa ab/\Wf L aa ab/\SqL K H a xs/\Ct K H xs aF /\
 ((∀tr∈aF,isW L tr.1=true)->∀H',Same H H'->((∀tr∈aF,EG aa ab tr=false)->Q .non H')/\∀(i:Nat) (tr:α2×Int) (x:V),(∀j,j<i->∀tr',aF[j]?=some tr'->EG aa ab tr'=false)->aF[i]?=some tr->xs[i]?=some x->EG aa ab tr=true->Q x H') /\
 ((∃tr∈aF,isW L tr.1=false)->False)
def IL   (F:Fun K "first_failed" "first_failed" BO f fd)(T:Txt mg)
   (cW:⋯ 2 "check_word" BU ["letters","word"] (HH K) C2 CG)
   (fM:⋯ 5 "mark_behind" B5 ["house","word"] (MQ K) DR C6)
  : nofun 6 f fd ["house","some"] (Vr K):=by
 delta CL
 ·obtain⟨h,a,L,aa,ab,xs,aF,rfl,_⟩:=h;rfl
 ·obtain⟨h,a,L,aa,ab,xs,aF,rfl,hh,wf,ha,ht,k,kE⟩:=h
  have hl:=As
  refine⟨_,(Ac (Bl jH_ rfl (AW (pvD 1)) (Ap (i:=2) CL.nd rfl (rC rfl))
   (Af (A8 (Ah cW hr.d AK (Aa (Ag (ixTD An) (pvD 0) Ad) (Aa (Ag (ixTD An) (pvD 2) Ad) Ae))))))
   (Ac (Bl jH_ rfl (AW (pvD 1)) (Ap (i:=2) CL.nd rfl (rC rfl))
   (Af (Bx (ptT (Ar (opN RH) (Ah fM hr.d AK (Aa (pvD 0) (Aa (Ag (ixTD An) (pvD 2) Ad) Ae))) (Ag (ixTD An) (pvD 2) Ad) (AE _)))
   (Af (AA (pvD 2)))
   AH)))
   (Af (AA O3)))),?_⟩
  nofun
  refine⟨⟨_,ha⟩,?_⟩
  obtain⟨Pv,ao⟩:∃Pv:Nat->St->Hp->Prop,∀i af H',Pv i af H'↔(Same H H'/\(∀j,j<i->∀tr,aF[j]?=some tr->isW L tr.1=true)/\∃o,af=[some (.ref h),some (.ref a),o]):=⟨_,fun _ _ _=>qv_⟩
  refine forL (xs:=xs) Pv ((ao _ _ _).mpr ⟨Same.refl _,fun j hj=>absurd hj (xb_ _),none,rfl⟩) (fun i ai H2 _ h2=>((ao _ _ _).mp h2).1.seq ha) (fun i x ai H2 hx h2=>?_) (fun ai H2 h2=>?_)
  ·obtain⟨s2,aA,o,rfl⟩:=(ao _ _ _).mp h2
   have hi:i<aF.length:=by rw[<-ht.1];exact (jc_.mp hx).1
   have bu:aF[i]?=some aF[i]:=by simp[hi]
   obtain⟨t,wt,e1,e2,e3,e4⟩:=ht.2 i _ bu
   rw[hx]at e1
   cases e1
   obtain⟨tm,tw,q1,q2,q3⟩:=hh.mono s2
   nofun
   refine⟨_,q1,_,rfl,?_⟩
   nofun
   refine⟨_,s2.seqT e2,_,rfl,?_⟩
   refine⟨L,wt,aF[i].1,rfl,s2.seqT e3,by lia,fun hv H3 s3=>?_,fun hv=>kE ⟨_,jd_ bu,hv⟩⟩
   refine (ao _ _ _).mpr ⟨s2.trans s3,fun j hj tr cB=>?_,_,rfl⟩
   by_cases mM:j<i
   ·exact aA j mM tr cB
   ·have:j=i:=by lia
    subst this
    rw[bu]at cB
    cases cB
    exact hv
  ·obtain⟨s2,aA,o,rfl⟩:=(ao _ _ _).mp h2
   have hW:∀tr∈aF,isW L tr.1=true:=fun tr bu=>by
    obtain⟨j,hj,ej⟩:=jV_ bu
    exact aA j (by rw[ht.1];exact hj) tr (by rw[jh_ hj,ej])
   nofun
   refine⟨⟨_,s2.seq ha⟩,?_⟩
   obtain⟨Pw,cx⟩:∃Pv:Nat->St->Hp->Prop,∀i af H',Pv i af H'↔(Same H H'/\(∀j,j<i->∀tr,aF[j]?=some tr->EG aa ab tr=false)/\∃o,af=[some (.ref h),some (.ref a),o]):=⟨_,fun _ _ _=>qv_⟩
   refine forL (xs:=xs) Pw ((cx _ _ _).mpr ⟨s2,fun j hj=>absurd hj (xb_ _),_,rfl⟩) (fun i aE H3 _ h3=>((cx _ _ _).mp h3).1.seq ha) (fun i x aE H3 hx h3=>?_) (fun aE H3 h3=>?_)
   ·obtain⟨s3,dM,o,rfl⟩:=(cx _ _ _).mp h3
    have hi:i<aF.length:=by rw[<-ht.1];exact (jc_.mp hx).1
    have bu:aF[i]?=some aF[i]:=by simp[hi]
    obtain⟨t,wt,e1,e2,e3,e4⟩:=ht.2 i _ bu
    rw[hx]at e1
    cases e1
    have hv:=hW _ (jd_ bu)
    nofun
    refine⟨_,s3.seqT e2,_,rfl,?_⟩
    refine⟨h,wt,L,aa,ab,aF[i].1,rfl,hh.mono s3,wf,s3.seqT e3,e4,fun _ H4 s4=>?_,fun z=>by rw[hv]at z;cases z⟩
    have kO:=s3.trans s4
    nofun
    refine⟨_,kO.seqT e2,_,rfl,rfl,?_⟩
    by_cases he:Gz aa (Az ab aF[i].1)=aF[i].2
    ·rw[if_neg (by rw[qb_ (jJ_ V.int he)];decide)]
     refine (cx _ _ _).mpr ⟨kO,fun j hj tr cB=>?_,_,rfl⟩
     by_cases mM:j<i
     ·exact dM j mM tr cB
     ·have:j=i:=by lia
      subst this
      rw[bu]at cB
      cases cB
      exact qk_ (fun z=>z he)
    ·rw[if_pos (by rw[qk_ (fun z=>he (V.int.inj z))];decide)]
     exact (k hW H4 kO).2 i _ _ dM bu hx (qb_ he)
   ·obtain⟨s3,dM,o,rfl⟩:=(cx _ _ _).mp h3
    nofun
    refine (k hW H3 s3).1 fun tr bu=>?_
    obtain⟨j,hj,ej⟩:=jV_ bu
    exact dM j (by rw[ht.1];exact hj) tr (by rw[jh_ hj,ej])
def LX (K:α3):Sp:=fun vs H Q E=>∃(h a:Addr) (L:Int) (aa:α2) (ab:α1) (xs:List V) (aF:List (α2×Int)),vs=[.ref h,.ref a]/\Ba K H h L aa ab/\Wf L aa ab/\SqL K H a xs/\Ct K H xs aF /\
 ((∀tr∈aF,isW L tr.1=true)->∀H',Same H H'->Q (.bl (aF.all fun tr => !EG aa ab tr)) H')/\((∃tr∈aF,isW L tr.1=false)->False)
def RA   (F:Fun K "passes" "passes" HG f fd)(T:Txt mg)
   (fN:⋯ 6 "first_failed" BO ["house","some"] (Vr K) C7 CQ)
  : nofun 7 f fd ["house","some"] (LX K):=by
 delta Rh
 ·obtain⟨h,a,L,aa,ab,xs,aF,rfl,_⟩:=h;rfl
 ·obtain⟨h,a,L,aa,ab,xs,aF,rfl,hh,wf,ha,ht,k,kE⟩:=h
  refine⟨_,(Af (AA (L7 VM (Ah fN hr.d AK (Aa (pvD 0) (Aa (pvD 1) Ae))) O3 (AE _)))),?_⟩
  nofun
  refine⟨h,a,L,aa,ab,xs,aF,rfl,hh,wf,ha,ht,fun hW H' s=>⟨fun aA=>?_,fun i tr x dM bu hx hf=>?_⟩,kE⟩
  ·nofun
   have:=k hW H' s
   rw[show (aF.all fun tr => !EG aa ab tr)=true from qw_.mpr fun tr bu=>by rw[aA tr bu];rfl]at this
   exact this
  ·obtain⟨t,wt,e1,_⟩:=ht.2 i tr bu
   rw[hx]at e1
   cases e1
   nofun
   have:=k hW H' s
   rw[show (aF.all fun tr => !EG aa ab tr)=false from Bool.eq_false_iff.mpr fun z=>by
    have:=qw_.mp z tr (jd_ bu)
    rw[hf]at this
    cases this]at this
   exact this
def MV {K:α3}     (e:SqT K H l zs)(h:AB K H zs ws):Rows K H l ws:=by
 obtain⟨os,x1,x2,x3⟩:=F9 h
 refine⟨os.map (·.1),?_,by rw[<-x2,ja_,ja_],fun i t row hi hrow=>?_⟩
 ·rw[jR_]
  rw[x1]at e
  exact e
 ·rw[<-x2,je_]at hrow
  rw[je_]at hi
  cases ho:os[i]? with
  |none=>rw[ho]at hi;cases hi
  |some o=>
   rw[ho]at hi hrow
   cases hi;cases hrow
   exact SqT.of (x3 o (jd_ ho))
def N6 (K:α3):Sp:=fun vs H Q _=>∃(h a:Addr) (L m:Nat) (ns:α2) (aa:α2) (ab:α1),vs=[.ref h,.ref a,.int m]/\Ba K H h L aa ab/\Wf L aa ab/\aa.length<=15/\m<=3/\SqL K H a (ns.map V.int)/\∀(h':Addr) (mr:α2) (wr:α1) (H':Hp),Same H H'->Ba K H' h' L mr wr->Wf L mr wr->mr.length<=(sM L aa ab).length+m->Q (.ref h') H'
def Hj   (F:Fun K "_law_rival_by" "_law_rival_by" Ca f fd)(T:Txt mg)
   (aU:⋯ 1 "_law_cell_at" A0 ["script","k"] (GG K) Bw Bp)
   (bj:⋯ 1 "_law_mixed" Bq ["number","k","many"] (E3) BZ BK)
   (fJ:⋯ 2 "_law_blown" Cu ["house","number","rooms"] (KL K) EC DP)
   (lq:⋯ 1 "_law_spoiled" Cp ["house","number"] (JQ K) Fn EH)
   (lr:⋯ 1 "_law_turned_by" BQ ["house","number"] (ID K) D4 Dr)
   (lu:⋯ 2 "_law_base" DH ["house"] (N4 K) IM GZ)
  : nofun 3 f fd ["house","script","many"] (N6 K):=by
 delta AG
 ·obtain⟨h,a,L,m,ns,aa,ab,rfl,_⟩:=h;rfl
 ·obtain⟨h,a,L,m,ns,aa,ab,rfl,hh,wf,h15,ot,hs,k⟩:=h
  have hl:=As
  have cH:=wf.l1
  have cX:=wf.l6
  have cn:=wf.n1
  have hsl:(sM L aa ab).length<=aa.length:=by
   rw[GR]
   exact TC wf
  have bK:=sWf wf
  have jj:=bK.n1
  refine⟨_,(Ac (Ak (i:=3) AG.nd (Ah lu hr.d AK (Aa (pvD 0) Ae)))
   (Ac (Bk (i:=4) AG.nd rfl (rG rfl) (Ah aU hr.d AK (Aa (pvD 1) (Aa Ad Ae))))
   (Ac (Ak (i:=5) AG.nd (Ag (ixLD AS) (Bt (Aa Ad (Aa Ad (Aa Ad (Aa Ad (Aa Ad (Aa Ad Ae))))))) (Am (opD AL) (pvD 4) Ad)))
   (Ac (Bk (i:=4) AG.nd rfl (rG rfl) (Am (opD Bz) (pvD 4) Ad))
   (Sm (Ak (i:=6) AG.nd (Am (opD0 AV) (Ao (lenD Ai) (by rfl) T.len jF_ (Aa (Ag (ixTD An) (pvD 3) Ad) Ae)) (pvD 2)))
   (Ac (Bx (ptT (Ar (opE B0) (pvD 5) Ad (AE _)))
   (Ac (Bk (i:=7) AG.nd rfl (rG rfl) (Am (opD0 AV) Ad (Am (opD AL) (pvD 4) (pvD 6))))
   (Ac (Du (i:=8) AG.nd rfl rfl rfl (A3 rfl) (cp:=Di) ⟨⟨rfl,rfl⟩,⟨⟨rfl,rfl⟩,rA⟩⟩ (AO rfl T.range (Aa (pvD 7) Ae)) (fun _ _ _ _=>(Ap (i:=0) E7 rfl (rC rfl))) (fun _ _ _ _=>Bd) (fun _ _ _ _=>(Ag (ixTD (Br (K:=K) rfl)) (Ag (ixTD (Br (K:=K) rfl)) (pvD 1) Ad) (Ah bj hr.d AK (Aa (pvD 2) (Aa (pvD 0) (Aa (Ao (lenD (J7 (K:=K) rfl)) (by rfl) T.len jF_ (Aa (Ag (ixTD (Br (K:=K) rfl)) (pvD 1) Ad) Ae)) Ae)))))))
   (Ac (R9 (i:=9) AG.nd rfl rfl rfl (UP rfl) (cp:=Dj) ⟨⟨rfl,rfl⟩,⟨⟨rfl,rfl⟩,⟨⟨rfl,rfl⟩,rA⟩⟩⟩ (AO rfl T.range (Aa (pvD 7) Ae)) (fun _ _ _ _=>(Ap (i:=0) E8 rfl (rG rfl))) (fun _ _ _ _=>Bd) (fun _ _ _ _=>(A9 rfl (A3 rfl) (cp:=Dk) ⟨⟨rfl,rfl⟩,⟨⟨rfl,rfl⟩,⟨⟨rfl,rfl⟩,rA⟩⟩⟩ (AO rfl T.range (Aa (Ag (ixTD (Br (K:=K) rfl)) (pvD 3) Ad) Ae)) (fun _ _ _ _=>(Ap (i:=0) E9 rfl (rC rfl))) (fun _ _ _ _=>Bd) (fun _ _ _ _=>(Ah bj hr.d AK (Aa (Am (opD0 AV) (pvD 2) Ad) (Aa (Am (opD0 AV) (Am (opD FG) (pvD 3) Ad) (pvD 0)) (Aa (pvD 1) Ae))))))))
   (Af (AA (BN (Aa (Ag (ixTD An) (pvD 0) Ad) (Aa (AD Ax rfl T.tuple jC_ (Aa (pvD 8) Ae)) (Aa (AD Ax rfl T.tuple jC_ (Aa (A9 rfl (A3 rfl) (cp:=Dn) rA (AW (pvD 9)) (fun _ _ _ _=>(Ap (i:=0) Fb rfl (rC rfl))) (fun _ _ _ _=>Bd) (fun _ _ _ _=>(AD (DB (K:=K) rfl) rfl T.tuple jC_ (Aa (pvD 0) Ae)))) Ae)) Ae)))))))))
   AH)
   (Ac (Ak (i:=10) AG.nd (Ah lr hr.d AK (Aa (Ah fJ hr.d AK (Aa (pvD 3) (Aa (pvD 4) (Aa (Am (opD0 CS) (pvD 6) (Am (opD AL) (pvD 4) (Am (opD0 AV) (pvD 2) Ad))) Ae)))) (Aa (Am (opD AL) (pvD 4) Ad) Ae))))
   (BA (Bx (ptT (Ar (opN RH) (pvD 5) Ad (AE _)))
   (Af (Ak (i:=10) AG.nd (Ah lq hr.d AK (Aa (pvD 10) (Aa (Am (opD0 AV) (Am (opD FG) (Am (opD Bz) (pvD 4) Ad) Ad) (pvD 5)) Ae)))))
   AH)
   (Af (AA (pvD 10))))))))))),?_⟩
  nofun
  refine⟨h,L,aa,ab,rfl,hh,wf,fun hb H1 s1 qY=>?_⟩
  generalize sM L aa ab=ms at bK jj hsl qY k
  generalize sW L aa ab=vs at bK qY
  refine⟨a,ns,5,rfl,s1.seq hs,?_⟩
  dsimp only
  generalize cell ns 5=num
  refine⟨by lia,fun p hp=>⟨num,rfl,by decide,?_⟩⟩
  have sp:=s1.newT hp (o:=.lst [V.int 0,V.int 1,V.int 2,V.int 3,V.int 2,V.int 2])
  have sp1:=Same.new hp (o:=.lst [V.int 0,V.int 1,V.int 2,V.int 3,V.int 2,V.int 2])
  have ep:upd H1 p (.lst [V.int 0,V.int 1,V.int 2,V.int 3,V.int 2,V.int 2]) p=some (.lst [V.int 0,V.int 1,V.int 2,V.int 3,V.int 2,V.int 2]):=Ab
  have lx:=qY.mono sp1
  have hh2:=hh.mono sp
  generalize upd H1 p (.lst [V.int 0,V.int 1,V.int 2,V.int 3,V.int 2,V.int 2])=H2 at sp sp1 ep lx hh2 ⊢
  obtain⟨wy,hwy⟩:∃wy:Int,atI [V.int 0,V.int 1,V.int 2,V.int 3,V.int 2,V.int 2] (num%6)=some (V.int wy):=by
   have h0:=qa_ num (show (6:Int)≠0 by decide)
   have h1:=jZ_ num (show (0:Int)<6 by decide)
   rcases (show num%6=0\/num%6=1\/num%6=2\/num%6=3\/num%6=4\/num%6=5 by lia) with e|e|e|e|e|e<;>rw[e]<;>exact⟨_,rfl⟩
  obtain⟨tb,wb,b1,b2,b3⟩:=id lx
  refine⟨_,SqL.of ep,_,hwy,num,rfl,⟨by decide,by decide⟩,hb,rfl,_,b1,_,rfl,tb,rfl,_,.inr b2,?_⟩
  rw[ja_]
  refine Sl ?_
  nofun
  refine ite2 (fun h3=>?_) (fun h3=>?_)
  ·have d6:=qa_ (num / 6) (show ((ms.length:Int)+m)≠0 by lia)
   have hr1:=jZ_ (num / 6) (show (0:Int)<(ms.length:Int)+m by lia)
   obtain⟨rn,hrn⟩:∃rn:Nat,1+num / 6%((ms.length:Int)+m)=(rn:Int):=⟨(1+num / 6%((ms.length:Int)+m)).toNat,by lia⟩
   rw[hrn]
   have hrn1:1<=rn:=by lia
   have hrnm:rn<=ms.length+m:=by lia
   obtain⟨tm,tw,q1,q2,q3⟩:=id hh2
   refine⟨by lia,by lia,by lia,?_⟩
   rw[jg_]
   obtain⟨Pc,dq⟩:∃Pc:Nat->List V->St->Hp->Prop,∀i ys af H',Pc i ys af H'↔(H'=H2/\(∃ks:α2,ys=ks.map V.int/\ks.length=i/\∀x∈ks,x∈aa)/\∃o,af=[o,some (.ref h),some (.int (num / 6))]):=⟨_,fun _ _ _ _=>qv_⟩
   refine J5 Pc ((dq _ _ _ _).mpr ⟨rfl,⟨[],rfl,rfl,fun x hx=>by cases hx⟩,none,rfl⟩) s!"" (fun i ys af H' hi h'=>by obtain⟨_,⟨ks,rfl,e,_⟩,_⟩:=(dq _ _ _ _).mp h';rw[ja_,e];exact ji_ _) (fun i ys af H' hi h'=>?_) (fun ys af H' h' pm bZ=>?_)
   ·obtain⟨rfl,⟨ks,rfl,iB,nJ⟩,o,rfl⟩:=(dq _ _ _ _).mp h'
    nofun
    refine⟨_,q1,_,rfl,_,q1,_,rfl,tm,rfl,_,.inr q2,?_⟩
    rw[ja_]
    refine⟨_,_,_,rfl,by lia,by lia,by lia,fun x dh cq=>?_⟩
    have bX:x.toNat<aa.length:=by lia
    refine⟨tm,rfl,_,x,rfl,q2,_,AX dh (v:=aa[x.toNat]) (jh_ bX),(dq _ _ _ _).mpr ⟨rfl,⟨ks++[aa[x.toNat]],by simp,by simp[iB],fun y hy=>?_⟩,_,rfl⟩⟩
    rcases jA_.mp hy with hy|hy
    ·exact nJ y hy
    ·rw[ju_.mp hy];exact j1_ bX
   ·obtain⟨rfl,⟨mr,rfl,iK,lQ⟩,o,rfl⟩:=(dq _ _ _ _).mp h'
    have s3:=Same.new bZ (o:=.lst (mr.map V.int))
    have lj:upd H' pm (.lst (mr.map V.int)) pm=some (.lst (mr.map V.int)):=Ab
    generalize upd H' pm (.lst (mr.map V.int))=H3 at s3 lj ⊢
    refine⟨by lia,by lia,?_⟩
    refine J5 (fun i ys af H'=>Same H3 H'/\(∃ws:α1,NC K H' ys ws/\ws.length=i/\∀row∈ws,row.length=L/\∀x∈row,0<=x/\x<(rn:Int))/\∃o,af=[o,some (.int rn),some (.int (num / 6)),some (.ref h)]) ⟨Same.refl _,⟨[],⟨rfl,fun i w h=>by simp at h⟩,rfl,fun x hx=>by cases hx⟩,none,rfl⟩ s!"" (fun i ys af H' hi h'=>by obtain⟨_,⟨ws,hw,e,_⟩,_⟩:=h';rw[hw.1,e];exact ji_ _) (fun i ys af H4 hi h'=>?_) (fun ys af H4 h' pw bp=>?_)
    ·obtain⟨s4,⟨ws,c9,dj,fV⟩,o,rfl⟩:=h'
     rw[zI_]
     nofun
     refine⟨_,(s3.trans s4).seqT q1,_,rfl,_,rfl,by lia,by lia,?_⟩
     rw[jg_]
     obtain⟨Pd,nK⟩:∃Pc:Nat->List V->St->Hp->Prop,∀j zs af H',Pc j zs af H'↔(H'=H4/\(∃ks:α2,zs=ks.map V.int/\ks.length=j/\∀x∈ks,0<=x/\x<(rn:Int))/\∃o,af=[o,some (.int rn),some (.int (num / 6)),some (.int i)]):=⟨_,fun _ _ _ _=>qv_⟩
     refine J5 Pd ((nK _ _ _ _).mpr ⟨rfl,⟨[],rfl,rfl,fun x hx=>by cases hx⟩,none,rfl⟩) s!"" (fun j zs af H' hj h'=>by obtain⟨_,⟨ks,rfl,e,_⟩,_⟩:=(nK _ _ _ _).mp h';rw[ja_,e];exact ji_ _) (fun j zs af H' hj h'=>?_) (fun zs af H' h' D hD=>?_)
     ·obtain⟨rfl,⟨ks,rfl,iB,nJ⟩,o,rfl⟩:=(nK _ _ _ _).mp h'
      rw[zI_]
      nofun
      refine⟨.inl ⟨by lia,by lia⟩,_,_,_,rfl,by lia,by lia,by lia,fun x dh cq=>(nK _ _ _ _).mpr ⟨rfl,⟨ks++[x],by simp,by simp[iB],fun y hy=>?_⟩,_,rfl⟩⟩
      rcases jA_.mp hy with hy|hy
      ·exact nJ y hy
      ·rw[ju_.mp hy];exact⟨dh,cq⟩
     ·obtain⟨rfl,⟨ks,rfl,iB,nJ⟩,o,rfl⟩:=(nK _ _ _ _).mp h'
      refine⟨s4.newT hD,⟨ws++[ks],?_,by simp[dj],fun row hr=>?_⟩,_,rfl⟩
      ·have sD:=Same.new hD (o:=.lst (ks.map V.int))
       refine⟨by rw[jn_,jn_,c9.1];rfl,fun i2 w hw=>?_⟩
       by_cases jl:i2<ws.length
       ·rw[jk_ jl]at hw
        obtain⟨t,a1,a2⟩:=c9.2 i2 w hw
        exact⟨t,by rw[jk_ (by rw[c9.1];exact jl)];exact a1,sD _ _ a2⟩
       ·rw[jt_ s!""]at hw
        have h0:i2-ws.length=0:=by
         have:=(jc_.mp hw).1
         simpa using this
        rw[h0]at hw
        have hw:ks=w:=by simpa using hw
        subst hw
        exact⟨D,by rw[jt_ (by rw[c9.1];lia),c9.1,h0];rfl,Ab⟩
      ·rcases jA_.mp hr with hr|hr
       ·exact fV row hr
       ·rw[ju_.mp hr];exact⟨iB,nJ⟩
    ·obtain⟨s4,⟨ws,c9,dj,fV⟩,o,rfl⟩:=h'
     have s5:=s4.newT bp (o:=.lst ys)
     have mw:upd H4 pw (.lst ys) pw=some (.lst ys):=Ab
     have fT:NC K (upd H4 pw (.lst ys)) ys ws:=⟨c9.1,fun i w h=>let ⟨t,a1,a2⟩:=c9.2 i w h;⟨t,a1,Same.new bp _ _ a2⟩⟩
     generalize upd H4 pw (.lst ys)=H5 at s5 mw fT ⊢
     have s35:=s3.trans s5
     refine⟨_,s35.seqT q1,_,rfl,pm,rfl,_,.inl ⟨SqL.of (s5 _ _ lj),fun l eZ=>⟨pw,rfl,⟨_,SqL.of (Same.new eZ _ _ mw)⟩,?_⟩⟩⟩
     have s6:=s35.newT eZ (o:=.tup (mr.map V.int))
     have qZ:=Same.new eZ (o:=.tup (mr.map V.int))
     have el:upd H5 l (.tup (mr.map V.int)) l=some (.tup (mr.map V.int)):=Ab
     generalize upd H5 l (.tup (mr.map V.int))=H6 at s6 qZ el ⊢
     refine IV (xs:=ys) (fun i zs af H'=>Same H6 H'/\AB K H' zs (ws.take i)/\∃o,af=[o]) ⟨Same.refl _,AB.nil,none,rfl⟩ (by rw[fT.1];lia) (fun i zs af H' hi h'=>⟨SqL.of (h'.1 _ _ (qZ _ _ mw)),by rw[h'.2.1.1,jw_];lia⟩) (fun i x zs af H' hx h'=>?_) (fun zs af H7 h' D hD=>?_)
     ·obtain⟨s7,fW,o,rfl⟩:=h'
      obtain⟨t,w0,bV,rfl,ht⟩:=fT.at hx
      nofun
      refine⟨_,.inl ⟨SqL.of (s7 _ _ (qZ _ _ ht)),fun l2 bE=>⟨s7.newT bE,?_,_,rfl⟩⟩⟩
      rw[jQ_,bV,qu_]
      exact (fW.mono (TK.new bE)).snoc Ab
     ·obtain⟨s7,fW,o,rfl⟩:=h'
      rw[fT.1,jO_]at fW
      have iF:AB K (upd H7 D (.lst zs)) zs ws:=fW.mono (TK.new hD)
      have s8:=(s6.trans s7).newT hD (o:=.lst zs)
      have eD:upd H7 D (.lst zs) D=some (.lst zs):=Ab
      have el8:=Same.new hD (o:=.lst zs) _ _ (s7 _ _ el)
      generalize upd H7 D (.lst zs)=H8 at iF s8 eD el8 ⊢
      refine⟨D,rfl,_,.inl ⟨SqL.of eD,fun l1 bo=>⟨by lia,fun p hp=>?_⟩⟩⟩
      have i7:=(Same.new bo (o:=.tup zs)).newT hp (o:=.tup [V.int L,V.ref l,V.ref l1])
      have e1:=Same.new hp (o:=.tup [V.int L,V.ref l,V.ref l1]) _ _ (Ab (H:=H8) (a:=l1) (o:=.tup zs))
      have e2:upd (upd H8 l1 (.tup zs)) p (.tup [V.int L,V.ref l,V.ref l1]) p=some (.tup [V.int L,V.ref l,V.ref l1]):=Ab
      have gU:=iF.mono (TK.of i7)
      generalize upd (upd H8 l1 (.tup zs)) p (.tup [V.int L,V.ref l,V.ref l1])=qW at i7 e1 e2 gU ⊢
      refine k p mr ws qW (sp.trans (s8.trans i7)) ⟨l,l1,SqT.of e2,SqT.of (i7 _ _ el8),MV (SqT.of e1) gU⟩ ⟨cH,cX,by lia,by lia,by lia,fun row hr=>⟨by rw[(fV row hr).1],fun x hx=>by rw[iK];exact (fV row hr).2 x hx⟩,fun m hm=>wf.mks _ (lQ m hm)⟩ s!""
  ·have d6:=qa_ (num / 6) (show ((m:Int)+1)≠0 by lia)
   have hr1:=jZ_ (num / 6) (show (0:Int)<(m:Int)+1 by lia)
   obtain⟨nb,hnb⟩:∃nb:Nat,(ms.length:Int)+m-num / 6%((m:Int)+1)=(nb:Int):=⟨((ms.length:Int)+m-num / 6%((m:Int)+1)).toNat,by lia⟩
   rw[hnb]
   refine⟨by lia,hb,L,ms,vs,num / 6,nb,rfl,lx,bK,by lia,fun h4 m4 w4 H4 s4 mj qL qA=>⟨by decide,?_⟩⟩
   refine⟨h4,L,m4,w4,_,rfl,mj,qL,fun ho mo wo H5 s5 hho wfo hU=>?_⟩
   have s05:=(sp.trans s4).trans s5
   obtain⟨R,hR⟩:∃R:St->Hp->Prop,∀af H',R af H'↔(∃(hx:Addr) (mx:α2) (wx:α1),Same H H'/\Ba K H' hx L mx wx/\Wf L mx wx/\mx.length<=ms.length+m/\af=[some (V.ref h),some (V.ref a),some (V.int m),some (V.ref hb),some (V.int (num / 6)),some (V.int wy),some (V.int ((ms.length:Int)+m)),none,none,none,some (.ref hx)]):=⟨_,fun _ _=>qv_⟩
   refine⟨R,?_,fun af H' h'=>?_⟩
   ·nofun
    refine ite2 (fun _=>?_) (fun _=>(hR _ _).mpr ⟨ho,mo,wo,s05,hho,wfo,by lia,rfl⟩)
    refine⟨⟨by decide,by decide⟩,.inr ⟨by decide,by decide⟩,ho,L,mo,wo,_,rfl,hho,wfo,fun hx mx wx H6 s6 q9 rg hlx=>(hR _ _).mpr ⟨hx,mx,wx,s05.trans s6,q9,rg,by lia,rfl⟩⟩
   ·obtain⟨hx,mx,wx,s6,q9,rg,hlx,rfl⟩:=(hR _ _).mp h'
    nofun
    exact k hx mx wx H' s6 q9 rg hlx
def LY (K:α3):Sp:=fun vs H Q _=>∃(a:Addr) (L:Int) (ns:α2),vs=[.ref a,.int L]/\SqL K H a (ns.map V.int)/\ns.length<=63/\1<=L/\L<=6/\∀p ws H',Same H H'->isW L ws=true->ws.length<=400->SqL K H' p (ws.map V.int)->Q (.ref p) H'
def IP   (F:Fun K "_law_word_by" "_law_word_by" Cr f fd)(T:Txt mg)
   (aU:⋯ 1 "_law_cell_at" A0 ["script","k"] (GG K) Bw Bp)
   (bj:⋯ 1 "_law_mixed" Bq ["number","k","many"] (E3) BZ BK)
  : nofun 2 f fd ["script","letters"] (LY K):=by
 delta BG
 ·obtain⟨a,L,ns,rfl,_⟩:=h;rfl
 ·obtain⟨a,L,ns,rfl,hs,hz,hL,cX,k⟩:=h
  have hl:=As
  refine⟨_,(Ac (Du (i:=2) BG.nd rfl rfl rfl (A3 rfl) (cp:=D0) ⟨⟨rfl,rfl⟩,rA⟩ (AW (JX Pp (pvD 0) L8 (L9 Ad))) (fun _ _ _ _=>(Ap (i:=0) FE rfl (rC rfl))) (fun _ _ _ _=>Bd) (fun _ _ _ _=>(Am (opD AL) (Am (opD0 AV) (pvD 0) (Am (opD Bz) (pvD 0) Ad)) (pvD 1))))
   (Ac (Ak (i:=3) BG.nd (Ah aU hr.d AK (Aa (pvD 0) (Aa Ad Ae))))
   (BA (Bx (ptT (Ar (opE B0) (Am (opD AL) (pvD 3) Ad) Ad (AE _)))
   (Ac (Ak (i:=2) BG.nd (JX Pp (pvD 2) L8 (L9 (Am (opD AL) (Am (opD Bz) (pvD 3) Ad) Ad))))
   (Af (Bl jH_ rfl (O6 rfl T.range (Aa (Ao (lenD Ai) (by rfl) T.len jF_ (Aa (pvD 2) Ae)) (Aa (Am (opD AL) (Am (opD Bz) (pvD 3) Ad) Ad) Ae))) (Ap (i:=4) BG.nd rfl (rC rfl))
   (Af (A8 (C8 jG_ jK_ jL_ AQ (pvD 2) (Aa (Ah bj hr.d AK (Aa (Ah aU hr.d AK (Aa (pvD 0) (Aa (Am (opD AL) (pvD 4) (Ao (Pe rfl) rfl T.max zH_ (Aa Ad (Aa (Ao (lenD Ai) (by rfl) T.len jF_ (Aa (pvD 0) Ae)) Ae)))) Ae))) (Aa (pvD 4) (Aa (pvD 1) Ae)))) Ae)))))))
   AH)
   (Af (AA (pvD 2)))))),?_⟩
  nofun
  refine⟨_,hs,fun p hp=>?_⟩
  rw[show (400:Int)=((400:Nat):Int) from rfl,Nx]
  refine⟨⟨_,SqL.of Ab⟩,?_⟩
  obtain⟨f,hf⟩:∃f:V->V,∀n:Int,f (V.int n)=.int ((n+n / 41)%L):=⟨fun x=>match x with | .int n=>.int ((n+n / 41)%L)|_=>.non,fun _=>rfl⟩
  have hzt:(ns.take 400).length<=63:=by rw[jw_];lia
  refine ET (xs:=(ns.take 400).map V.int) (af:=[some (.int L)]) f rfl (SqL.of Ab) (by rw[ja_];lia) (fun x hx R hR=>?_) (fun D hD=>?_)
  ·obtain⟨n,hn,rfl⟩:=jv_.mp hx
   rw[hf]at hR
   nofun
   refine⟨?_,?_⟩
   ·first|decide|lia|(unfold CDiv;decide)
   ·exact⟨by lia,hR⟩
  ·have em:((ns.take 400).map V.int).map f=((ns.take 400).map fun n=>(n+n / 41)%L).map V.int:=by
    rw[jR_,jR_]
    exact qo_ fun n _=>hf n
   rw[em]
   have cM:isW L ((ns.take 400).map fun n=>(n+n / 41)%L)=true:=Av.mpr fun z pK=>by
    obtain⟨n,hn,rfl⟩:=jv_.mp pK
    exact⟨qa_ _ s!"",jZ_ _ s!""⟩
   have d8:((ns.take 400).map fun n=>(n+n / 41)%L).length<=63:=by rw[ja_];exact hzt
   have sD:=(Same.new hp (o:=.lst ((ns.take 400).map V.int))).newT hD (o:=.lst (((ns.take 400).map fun n=>(n+n / 41)%L).map V.int))
   have eD:upd (upd H p (.lst ((ns.take 400).map V.int))) D (.lst (((ns.take 400).map fun n=>(n+n / 41)%L).map V.int)) D=some (.lst (((ns.take 400).map fun n=>(n+n / 41)%L).map V.int)):=Ab
   generalize upd (upd H p (.lst ((ns.take 400).map V.int))) D (.lst (((ns.take 400).map fun n=>(n+n / 41)%L).map V.int))=H2 at sD eD ⊢
   generalize (ns.take 400).map (fun n=>(n+n / 41)%L)=ws at cM d8 eD
   refine⟨a,ns,1,rfl,sD.seq hs,?_⟩
   dsimp only
   generalize cell ns 1=num
   obtain⟨R,hR⟩:∃R:St->Hp->Prop,∀af H',R af H'↔(∃(q:Addr) (us:α2) (o:Option V),Same H H'/\H' q=some (.lst (us.map V.int))/\isW L us=true/\us.length<=400/\af=[some (.ref a),some (.int L),some (.ref q),some (.int num),o]):=⟨_,fun _ _=>qv_⟩
   refine⟨R,?_,fun af H' h'=>?_⟩
   ·nofun
    refine⟨by decide,ite2 (fun _=>?_) (fun _=>(hR _ _).mpr ⟨D,ws,none,sD,eD,cM,by lia,rfl⟩)⟩
    have h0:=qa_ (num / 4) (show (401:Int)≠0 by decide)
    have h1:=jZ_ (num / 4) (show (0:Int)<401 by decide)
    obtain⟨c,hc⟩:∃c:Nat,num / 4%401=(c:Int):=⟨(num / 4%401).toNat,by lia⟩
    rw[hc]
    refine⟨⟨by decide,by decide⟩,by decide,_,SqL.of eD,fun p2 aY=>?_⟩
    rw[Nx]
    have s3:=sD.newT aY (o:=.lst ((ws.take c).map V.int))
    have kH:H p2=none:=sD.none aY
    have e3:upd H2 p2 (.lst ((ws.take c).map V.int)) p2=some (.lst ((ws.take c).map V.int)):=Ab
    generalize upd H2 p2 (.lst ((ws.take c).map V.int))=H3 at s3 e3 ⊢
    refine⟨_,.inl (SqL.of e3),?_⟩
    rw[ja_]
    have qx:(ws.take c).length<=c:=by rw[jw_];lia
    have dF:isW L (ws.take c)=true:=Ht cM c
    generalize ws.take c=us at qx dF e3
    refine⟨⟨by decide,by decide⟩,by decide,by lia,by lia,by lia,by lia,?_⟩
    rw[show ((c:Int)-(us.length:Int)).toNat=c-us.length by lia]
    obtain⟨Pv,ao⟩:∃Pv:Nat->St->Hp->Prop,∀i af H',Pv i af H'↔(∃(vs:α2) (o:Option V),Same H H'/\H' p2=some (.lst (vs.map V.int))/\isW L vs=true/\vs.length=us.length+i/\af=[some (.ref a),some (.int L),some (.ref p2),some (.int num),o]):=⟨_,fun _ _ _=>qv_⟩
    refine forR Pv ((ao _ _ _).mpr ⟨us,none,s3,e3,dF,rfl,rfl⟩) (fun i af H' hi h'=>?_) (fun af H' h'=>?_)
    ·obtain⟨vs,o,s4,e4,rh,qE,rfl⟩:=(ao _ _ _).mp h'
     nofun
     refine⟨.inl ⟨rfl,_,SqL.of e4⟩,_,.inl (s4.seq hs),?_⟩
     rw[ja_]
     have mR:(0:Int)<if (ns.length:Int) > 1 then (ns.length:Int) else 1:=by split<;>lia
     obtain⟨ix,ft⟩:∃ix:Nat,((us.length:Int)+i)%(if (ns.length:Int) > 1 then (ns.length:Int) else 1)=(ix:Int):=⟨_,(xr_ (qa_ _ s!"")).symm⟩
     rw[ft]
     refine⟨mR,a,ns,ix,rfl,s4.seq hs,_,_,_,rfl,by lia,by lia,by lia,fun x dh cq=>?_⟩
     refine⟨_,e4,by rw[ja_];lia,(ao _ _ _).mpr ⟨vs++[x],_,s4.over kH,by rw[Ab];simp,?_,by rw[jn_,qE];simp;lia,rfl⟩⟩
     exact BL rh (Av.mpr fun y hy=>by rw[ju_.mp hy];exact⟨dh,cq⟩)
    ·obtain⟨vs,o,s4,e4,rh,qE,rfl⟩:=(ao _ _ _).mp h'
     exact (hR _ _).mpr ⟨p2,vs,o,s4,e4,rh,by lia,rfl⟩
   ·obtain⟨q,us,o,s3,hq,hu,hul,rfl⟩:=(hR _ _).mp h'
    nofun
    exact k q us H' s3 hu hul (SqL.of hq)
def SX {L:Nat}{aa mr:α2}{ab wr:α1}{m:Nat}(wf:Wf L aa ab)(fY:Wf L mr wr)(hsz:mr.length<=(sM L aa ab).length+m){E:Nat->α1}
  (eW:∀r,r<(sM L aa ab).length->∀e∈E r,isW L e=true) (e0:∀r,r<(sM L aa ab).length->[]∈E r)
  (sep:∀r s,r<(sM L aa ab).length->s<(sM L aa ab).length->r≠s->∃e,e∈E r/\e∈E s/\bW (sM L aa ab) (sW L aa ab) e r≠bW (sM L aa ab) (sW L aa ab) e s)
  (agr:∀w∈allW (sW L aa ab) (sM L aa ab).length (Dq (L:Int) m) E,mkR aa (Az ab w)=mkR mr (Az wr w)):Vn L aa ab mr wr:=by
 have bK:=sWf wf
 have du:=sCan wf
 have hL:=wf.l1
 have A:Asked L (sM L aa ab).length m (sM L aa ab) mr (sW L aa ab) wr (wayW (sW L aa ab)) E:=by
  refine⟨rfl,bK,fY,hsz,fun r hr=>⟨(LO du hr).2.1,(LO du hr).2.2.1⟩,?_,eW,e0,fun r s hr hs aw=>?_,fun r hr v hv hl e he=>?_⟩
  ·obtain⟨top,bf⟩:=Bfs.mk bK
   exact MU bf.nod (r:=0) (jd_ bf.hd)
  ·obtain⟨e,h1,h2,h3⟩:=sep r s hr hs aw
   exact⟨e,h1,h2,h3⟩
  ·have hw:=LO du hr
   have hww:=L2.Wf.walk' bK (BL hw.2.1 hv)
   have iT:=BL (BL hw.2.1 hv) (eW _ s!"" e he)
   rw[WB wf iT]
   exact agr _ (KO.mpr ⟨r,hr,v,(KP s!"").mpr ⟨hv,hl⟩,e,he,rfl⟩)
 intro w hw
 rw[<-WB wf hw]
 exact A.all w hw
def MW {L:Nat}{aa mr:α2}{ab wr:α1}{m:Nat}(wf:Wf L aa ab)(fY:Wf L mr wr)(hsz:mr.length<=(sM L aa ab).length+m)(agr:∀w∈Jh L aa ab m,mkR aa (Az ab w)=mkR mr (Az wr w)):Vn L aa ab mr wr:=by
 have bK:=sWf wf
 have fin:=Fin17.mk' (b:=bW (sM L aa ab) (sW L aa ab)) (L:=L) bK.n1 bK.n40
 refine SX wf fY hsz (E:=ownW (sM L aa ab).length (bW (sM L aa ab) (sW L aa ab)) (wcOf (sM L aa ab).length L (bW (sM L aa ab) (sW L aa ab))).1) (fun r _ e he=>?_) (fun r _=>jp_) (fun r s hr hs aw=>?_) agr
 ·unfold ownW at he
  rcases jD_.mp he with rfl|he
  ·rfl
  ·exact Av.mpr (fin.wc.ok e (KI he))
 ·obtain⟨e,h1,_,h3,h4⟩:=W7 (sCan wf) hr hs aw
  have:=SS hr hs h1
  exact⟨e,this.1,this.2,qs_ h3⟩
def MX {L:Nat}{aa:α2}{ab:α1}{m:Nat}(wf:Wf L aa ab){w:α2}(h:w∈N0 L aa ab m):isW L w=true/\w.length<=81+m:=by
 have bK:=sWf wf
 have fin:=Fin17.mk' (b:=bW (sM L aa ab) (sW L aa ab)) (L:=L) bK.n1 bK.n40
 have md:(wcOf (sM L aa ab).length L (bW (sM L aa ab) (sW L aa ab))).1.length<=40:=by
  have h1:=fin.wc.le
  have h2:=Js (wcOf (sM L aa ab).length L (bW (sM L aa ab) (sW L aa ab))).2
  rw[fin.wc.len]at h2
  have:=bK.n40
  lia
 have dj:=Uc fin.wc
 unfold N0 at h
 rw[KO]at h
 obtain⟨r,hr,v,hv,e,he,rfl⟩:=h
 have hv:=(KP (by have:=wf.l1;lia)).mp hv
 have hw:=LO (sCan wf) hr
 obtain⟨j,hj⟩:=jN_.mp he
 have h1:=dj j e hj
 have h2:=(jc_.mp hj).1
 refine⟨BL (BL hw.2.1 hv.1) (Av.mpr (fin.wc.ok e he)),?_⟩
 rw[jn_,jn_]
 lia
def JR {L:Nat}{aa:α2}{ab:α1}{m:Nat}(wf:Wf L aa ab){w:α2}(h:w∈Jh L aa ab m):isW L w=true/\w.length<=81+m:=MX wf (SR wf h)
def SY (K:α3):Sp:=fun vs H Q _=>∃(a:Addr) (ns:α2),vs=[.ref a]/\SqL K H a (ns.map V.int)/\ns.length<=63/\H (tabP K "in_order")=some (.tbl #[])/\∀H',Q (.bl true) H'
def Xa   (F:Fun K "law" "law" Vj f fd)(T:Txt mg)
   (gV:⋯ 6 "slim" NS ["house","more"] (Rp K) Uj RC)
   (lA:⋯ 6 "trials_of" DF ["house","words"] (Ui K) IQ G0)
   (fN:⋯ 6 "first_failed" BO ["house","some"] (Vr K) C7 CQ)
   (gW:⋯ 7 "passes" HG ["house","some"] (LX K) N7 LZ)
   (lB:⋯ 3 "_law_house_by" B8 ["script"] (JN K) EI D5)
   (lC:⋯ 2 "_law_more_by" Co ["script","house"] (Rr K) Fo EJ)
   (lD:⋯ 3 "_law_rival_by" Ca ["house","script","many"] (N6 K) EK D6)
   (lE:⋯ 2 "_law_word_by" Cr ["script","letters"] (LY K) Fp EL)
   (lF:⋯ 1 "_law_is_word" Cs ["found","letters"] (Uh K) Fq EM)
   (i8:⋯ 1 "_law_walk" DI ["house","room","word"] (N5 K) IS G1)
  : nofun 8 f fd ["script"] (SY K):=by
 delta Dg
 ·obtain⟨a,ns,rfl,_⟩:=h;rfl
 ·obtain⟨a,ns,rfl,hs,hz,hT,k⟩:=h
  have hl:=As
  refine⟨_,(Ac (Ak (i:=1) Dg.nd (Ah lB hr.d AK (Aa (pvD 0) Ae)))
   (Ac (Ak (i:=2) Dg.nd (Ah lC hr.d AK (Aa (pvD 0) (Aa (pvD 1) Ae))))
   (Ac (Ak (i:=3) Dg.nd (Ah lD hr.d AK (Aa (pvD 1) (Aa (pvD 0) (Aa (pvD 2) Ae)))))
   (Ac (Ak (i:=4) Dg.nd (Ah lA hr.d AK (Aa (pvD 1) (Aa (Ah gV hr.d AK (Aa (pvD 1) (Aa (pvD 2) Ae))) Ae))))
   (Ac (Bx (Ji (ptB (HN (Ah gW hr.d AK (Aa (pvD 3) (Aa (pvD 4) Ae))))))
   (Ac (Ak (i:=5) Dg.nd (Ah fN hr.d AK (Aa (pvD 3) (Aa (pvD 4) Ae))))
   (Ac (Bx (PW.pt (N8 (Ji (ptB (HN (Ao CU rfl T.isinstance xm_ (Aa (pvD 5) (Aa (JU (v:=.ty "tuple") rfl T.tuple jC_ rfl) Ae)))))) (M9 (Ji (ptB (HN (Ah lF hr.d AK (Aa (Ag (ixTD An) (pvD 5) Ad) (Aa (Ag (ixTD An) (pvD 1) Ad) Ae)))))))))
   (Af (AA L6))
   AH)
   (Ac (Ak (i:=6) Dg.nd (Ag (ixTD An) (Ag (ixTD An) (pvD 1) Ad) (Ah i8 hr.d AK (Aa (pvD 1) (Aa Ad (Aa (Ag (ixTD An) (pvD 5) Ad) Ae))))))
   (Af (AA (VA (L7 (opE B0) (Ag (ixTD An) (pvD 5) Ad) (pvD 6) (AE _)) (Vz (L7 (opN RH) (Ag (ixTD An) (Ag (ixTD An) (pvD 3) Ad) (Ah i8 hr.d AK (Aa (pvD 3) (Aa Ad (Aa (Ag (ixTD An) (pvD 5) Ad) Ae))))) (pvD 6) (AE _)))))))))
   AH)
   (Ac (Ak (i:=7) Dg.nd (Ah lE hr.d AK (Aa (pvD 0) (Aa (Ag (ixTD An) (pvD 1) Ad) Ae))))
   (Ac (Ak (i:=8) Dg.nd Ad)
   (Ac (Ak (i:=9) Dg.nd Ad)
   (Ac (Bl jH_ rfl (AO rfl T.range (Aa (Am (opD0 AV) (Ao (lenD Ai) (by rfl) T.len jF_ (Aa (pvD 7) Ae)) Ad) Ae)) (Ap (i:=10) Dg.nd rfl (rC rfl))
   (Ac (Bx (ptT (Ar (opN RH) (Ag (ixTD An) (Ag (ixTD An) (pvD 1) Ad) (pvD 8)) (Ag (ixTD An) (Ag (ixTD An) (pvD 3) Ad) (pvD 9)) (AE _)))
   (Af (AA L6))
   AH)
   (Af (Bx (ptT (Ar (opD0 G2) (pvD 10) (Ao (lenD Ai) (by rfl) T.len jF_ (Aa (pvD 7) Ae)) (AE _)))
   (Ac (Ak (i:=8) Dg.nd (Ag (ixTD An) (Ag (ixTD An) (Ag (ixTD An) (pvD 1) Ad) (pvD 8)) (Ag (ixLD AS) (pvD 7) (pvD 10))))
   (Af (Ak (i:=9) Dg.nd (Ag (ixTD An) (Ag (ixTD An) (Ag (ixTD An) (pvD 3) Ad) (pvD 9)) (Ag (ixLD AS) (pvD 7) (pvD 10))))))
   AH))))
   (Af (AA L6))))))))))),?_⟩
  nofun
  refine⟨a,ns,rfl,hs,fun h L0 aa ab H1 s1 hh wf k6=>?_⟩
  obtain⟨L,rfl⟩:∃L:Nat,L0=(L:Int):=⟨L0.toNat,by have:=wf.l1;lia⟩
  refine⟨a,h,ns,L,aa,ab,rfl,s1.seq hs,hh,wf,fun m H2 hm cN s2=>?_⟩
  refine⟨h,a,L,m,ns,aa,ab,rfl,hh.mono s2,wf,k6,hm,(s1.trans s2).seq hs,fun hr mr wr H3 s3 qu fY hsz=>?_⟩
  have kb:=(s1.trans s2).trans s3
  have j6:=kb _ _ hT
  have hh3:=(hh.mono s2).mono s3
  have gS:=kb.seq hs
  clear s1 s2 s3 hh kb
  refine⟨h,L,m,aa,ab,rfl,hh3,wf,hm,cN,.inl j6,fun D1 H4 os s4 hL4 hDn1 hD1 dJ bZ kB=>?_⟩
  have t4:TSq K H3 H4:=Cj.tsq2 (T:=tabP K "in_order") s4 j6
  have mj:=Ba.monoQ hh3 t4
  have hhr4:=Ba.monoQ qu t4
  have hs4:SqL K H4 a (ns.map V.int):=Cj.lsq (T:=tabP K "in_order") s4 j6 gS
  obtain⟨ws,rj⟩:∃ws,ws=os.map (·.2):=⟨_,rfl⟩
  have a8:∀w,w∈ws↔w∈Jh L aa ab m:=fun w=>by rw[rj,bZ.mem_iff,IG]
  have ou:Wds K H4 (aS.wv os) ws:=by
   have:=Ru (K:=K) dJ
   rw[<-rj]at this
   exact⟨this.1,fun i w hw=>let ⟨t,a1,a2⟩:=this.2 i w hw;⟨t,a1,SqT.of a2⟩⟩
  have hosl:os.length<=545600:=by
   have h1:=bZ.length_eq
   have h2:=CJ (Jh L aa ab m) []
   have h3:=Rw wf cN
   rw[ja_]at h1
   rw[qt_]at h2
   lia
  have hwW:∀w∈ws,isW L w=true:=fun w hw=>(JR wf ((a8 w).mp hw)).1
  have hwL:∀w∈ws,w.length<=84:=fun w hw=>by have:=(JR wf ((a8 w).mp hw)).2;lia
  clear bZ kB dJ rj hDn1
  refine⟨h,D1,L,aa,ab,_,ws,rfl,mj,wf,SqL.of hD1,ou,fun w hw=>by have:=hwL w hw;lia,by simp only[aS.wv,ja_];lia,fun _ H5 D ys s5 jw hTr=>?_,fun hf=>?_⟩
  ·have s6:=s5.newT jw (o:=.lst ys)
   have eD:upd H5 D (.lst ys) D=some (.lst ys):=Ab
   have i9:=hTr.mono (Same.new jw (o:=.lst ys))
   generalize upd H5 D (.lst ys)=H6 at s6 eD i9 ⊢
   have hh6:=mj.mono s6
   have ja:=hhr4.mono s6
   have hs6:=s6.seq hs4
   have htW:∀tr∈ws.map (DQ aa ab),isW L tr.1=true:=fun tr bu=>by
    obtain⟨w,hw,rfl⟩:=jv_.mp bu
    exact hwW w hw
   have htF:¬ ∃tr∈ws.map (DQ aa ab),isW L tr.1=false:=fun ⟨tr,bu,hf⟩=>by rw[htW tr bu]at hf;cases hf
   refine⟨hr,D,L,mr,wr,ys,_,rfl,ja,fY,SqL.of eD,i9,fun _ H7 s7=>?_,fun hf=>absurd hf htF⟩
   refine⟨_,rfl,?_⟩
   refine ite2 (fun hc=>?_) (fun hc=>?_)
   ·have hc:¬ ∀tr∈ws.map (DQ aa ab),EG mr wr tr=false:=fun z=>by
     have:(ws.map (DQ aa ab)).all (fun tr => !EG mr wr tr)=true:=qw_.mpr fun tr bu=>by rw[z tr bu];rfl
     rw[this]at hc
     exact absurd hc (by decide)
    refine⟨hr,D,L,mr,wr,ys,_,rfl,ja.mono s7,fY,SqL.of (s7 _ _ eD),i9.mono s7,fun _ H8 s8=>⟨fun z=>absurd z hc,fun i tr x dM bu hx hfail=>?_⟩,fun hf=>absurd hf htF⟩
    obtain⟨t,wt,a1,a2,a3,a4⟩:=i9.2 i tr bu
    rw[hx]at a1
    cases a1
    have iU:=jd_ bu
    have jy:=htW tr iU
    have oK:=s7.trans s8
    have nL:=oK.seqT a2
    have rl:=oK.seqT a3
    have jt:tr.2=Gz aa (Az ab tr.1):=by
     obtain⟨w,hw,rfl⟩:=jv_.mp iU
     rfl
    have aw:Gz mr (Az wr tr.1)≠tr.2:=qr_ hfail
    have oM:=hh6.mono oK
    have jb:=ja.mono oK
    obtain⟨tm,tw,q1,q2,q3⟩:=id oM
    obtain⟨rm,rw0,r1,r2,r3⟩:=id jb
    have hwk1:=L2.Wf.walk' wf jy
    have hwk2:=L2.Wf.walk' fY jy
    have cn:=wf.n1
    have fR:=fY.n1
    refine⟨_,_,.tup nL,Nn,_,J6,?_⟩
    rw[if_neg (by decide)]
    refine⟨t,rfl,_,nL,_,rfl,h,rfl,_,q1,_,rfl,wt,L,tr.1,rfl,rl,jy,true,rfl,?_⟩
    rw[if_neg (by decide)]
    refine⟨h,rfl,_,q1,_,rfl,t,rfl,_,nL,_,rfl,h,wt,L,0,aa,ab,tr.1,rfl,oM,wf,rl,jy,by lia,by lia,?_⟩
    refine⟨tm,rfl,_,_,rfl,q2,_,F5 hwk1.1 hwk1.2,t,rfl,_,nL,_,rfl,rfl,?_⟩
    rw[if_pos (by rw[jt];rfl)]
    refine⟨hr,rfl,_,r1,_,rfl,t,rfl,_,nL,_,rfl,hr,wt,L,0,mr,wr,tr.1,rfl,jb,fY,rl,jy,by lia,by lia,?_⟩
    refine⟨rm,rfl,_,_,rfl,r2,_,F5 hwk2.1 hwk2.2,rfl,?_⟩
    rw[BJ,BJ,show (!decide (V.int (Gz mr (Az wr tr.1))=V.int (Gz aa (Az ab tr.1))))=true by rw[<-jt];simp[aw]]
    exact k _
   ·have hc:(ws.map (DQ aa ab)).all (fun tr => !EG mr wr tr)=true:=by simpa using hc
    have eI:Vn L aa ab mr wr:=by
     refine MW wf fY hsz fun w hw=>?_
     have:=qw_.mp hc (DQ aa ab w) (q8_ ((a8 w).mpr hw))
     have hf:EG mr wr (DQ aa ab w)=false:=by simpa using this
     have:=xA_ hf
     exact (j2_ fun z=>this (fun e=>z e.symm))
    have hh7:=hh6.mono s7
    have hhr7:=ja.mono s7
    obtain⟨tm,tw,q1,q2,q3⟩:=id hh7
    have cH:=wf.l1
    have cX:=wf.l6
    refine⟨h,rfl,_,q1,_,rfl,a,L,ns,rfl,s7.seq hs6,hz,by lia,by lia,fun pw bx H8 s8 jc hwl8 bp=>⟨pw,rfl,_,.inl bp,?_⟩⟩
    rw[ja_]
    refine⟨by lia,by lia,?_⟩
    rw[show ((bx.length:Int)+1).toNat=bx.length+1 by lia]
    have oM:=hh7.mono s8
    have jb:=hhr7.mono s8
    obtain⟨jz,i5,y1,y2,y3⟩:=id oM
    obtain⟨rm,rw0,r1,r2,r3⟩:=id jb
    obtain⟨Pv,ao⟩:∃Pv:Nat->St->Hp->Prop,∀i af H',Pv i af H'↔(H'=H8/\∃o,af=[some (.ref a),some (.ref h),some (.int m),some (.ref hr),some (.ref D),none,none,some (.ref pw),some (.int (Az ab (bx.take i))),some (.int (Az wr (bx.take i))),o]):=⟨_,fun _ _ _=>qv_⟩
    refine forR Pv ((ao _ _ _).mpr ⟨rfl,none,rfl⟩) (fun i af H' hi h'=>?_) (fun af H' h'=>?_)
    ·obtain⟨rfl,o,rfl⟩:=(ao _ _ _).mp h'
     have w1:=wf.walk jc i
     have w2:=fY.walk jc i
     have e:=eI (bx.take i) (Ht jc i)
     rw[zI_]
     nofun
     refine⟨_,y1,_,rfl,jz,rfl,_,y2,_,F5 w1.1 w1.2,_,r1,_,rfl,rm,rfl,_,r2,_,F5 w2.1 w2.2,rfl,?_⟩
     rw[if_neg (by rw[show Gz aa (Az ab (bx.take i))=Gz mr (Az wr (bx.take i)) from e];simp)]
     refine⟨_,.inl bp,?_⟩
     rw[ja_]
     refine ite2 (fun aq=>?_) (fun bC=>?_)
     ·have eE:i<bx.length:=by lia
      have bV:bx[i]?=some bx[i]:=jh_ eE
      have hx:=Av.mp jc bx[i] (j1_ eE)
      obtain⟨row,g,c1,c2,c3,c4,c5⟩:=wf.step w1.1 w1.2 hx.1 hx.2
      obtain⟨zs,t,z1,z2,z3⟩:=y3.atZ w1.1 c1
      obtain⟨dY,g',d1,d2,d3,d4,d5⟩:=fY.step w2.1 w2.2 hx.1 hx.2
      obtain⟨b7,t',x1,x2,x3⟩:=r3.atZ w2.1 d1
      refine⟨_,y1,_,rfl,i5,rfl,_,z1,_,z2,_,bp,_,B1 s!"" (v:=V.int bx[i]) (by rw[jg_,je_,bV];rfl),t,rfl,_,_,rfl,z3,_,AX hx.1 c2,_,r1,_,rfl,rw0,rfl,_,x1,_,x2,_,bp,_,B1 s!"" (v:=V.int bx[i]) (by rw[jg_,je_,bV];rfl),t',rfl,_,_,rfl,x3,_,AX hx.1 d2,(ao _ _ _).mpr ⟨rfl,some (.int i),?_⟩⟩
      rw[EW bV,EW bV,c3,d3]
     ·refine (ao _ _ _).mpr ⟨rfl,some (.int i),?_⟩
      rw[jP_ (show bx.length<=i by lia),jP_ (show bx.length<=i+1 by lia)]
    ·obtain⟨rfl,o,rfl⟩:=(ao _ _ _).mp h'
     nofun
     exact k _
  ·obtain⟨w,hw,hf⟩:=hf
   rw[hwW w hw]at hf
   cases hf
end
def all_mk {l:sN}{w:World}{K:α3}{h:Heap}{mg:Str->α5}{fa LD C2 Iv JI Ri DJ DR GC LH Iz JH BR LM GV Rk Rq E2 Cd Gd Ce GX Uj IQ C7 N7 Bw BZ EA Fl EC EI Fo EE Fn D4 Fm IM EK Fp Fq IS Xs:Addr}(X:K.In h)(G:h.Ns mainGlobals mg)(hfa:mg "law"=some (.ref fa))
  {JG CG GU IA NV C5 C6 FF JJ GF Iw BM JK F8 NZ N1 Cb Fj Cc Ge RC G0 CQ LZ Bp BK D2 EB DP D5 EJ D3 EH Dr EF GZ D6 EL EM G1 Uk:α6}
  {MY MZ:Option Addr} {M0:Array (α5)} {M3 M4 M5 M6 M7:Value}
  (j_is_word:HF K "is_word" FT LD JG)
  (j_check_word:HF K "check_word" BU C2 CG)
  (j_next_word:HF K "next_word" DD Iv GU)
  (j_words_to:HF K "words_to" EZ JI IA)
  (j_trail:HF K "trail" Kv Ri NV)
  (j_room_behind:HF K "room_behind" B4 DJ C5)
  (j_mark_behind:HF K "mark_behind" B5 DR C6)
  (j_words_in:HF K "words_in" Df GC FF)
  (j_ways_in:HF K "ways_in" FU LH JJ)
  (j_reached:HF K "reached" Er Iz GF)
  (j_numbered:HF K "numbered" E1 JH Iw)
  (j_words_and_classes:HF K "words_and_classes" A4 BR BM)
  (j_tellers:HF K "tellers" FV LM JK)
  (j_classes_of:HF K "classes_of" CY GV F8)
  (j_homes:HF K "homes" Kx Rk NZ)
  (j_least:HF K "least" Ky Rq N1)
  (a_j0:HA K "in_order" E2)
  {aJ:Addr}
  (l_j0:HL K "in_order" Ck E2 M3 MY M4 M5 M6 MZ (.ref aJ) M7 M0)
  {aK:Addr} {oC_in_order:Value} {dC_in_order:Option Addr} {sC_in_order:Array (α5)} {vC_in_order:Array Value} (lc_in_order:K.lookup aJ=some ⟨oC_in_order,dC_in_order,.fields vC_in_order,sC_in_order⟩) (hx_in_order:vC_in_order[11]?=some (.ref aK)) (kt_in_order:K.lookup aK=none) (ch_in_order:wM K aJ aK=true) (tb_in_order:h.get? aK=some (rJ #[]))
  (c_j0:codeIn K (.ref aJ) "in_order"=true)
  (k_j0:keepIn K (.ref E2)=true)
  (j_marks_from_each_room:HF K "marks_from_each_room" A6 Cd Cb)
  (j_own_tellers:HF K "own_tellers" CF Gd Fj)
  (j_tellers_of_each_room:HF K "tellers_of_each_room" A7 Ce Cc)
  (j_words_with:HF K "words_with" CZ GX Ge)
  (j_slim:HF K "slim" NS Uj RC)
  (j_trials_of:HF K "trials_of" DF IQ G0)
  (j_first_failed:HF K "first_failed" BO C7 CQ)
  (j_passes:HF K "passes" HG N7 LZ)
  (j__law_cell_at:HF K "_law_cell_at" A0 Bw Bp)
  (j__law_mixed:HF K "_law_mixed" Bq BZ BK)
  (j__law_marks_by:HF K "_law_marks_by" B7 EA D2)
  (j__law_ways_by:HF K "_law_ways_by" Cn Fl EB)
  (j__law_blown:HF K "_law_blown" Cu EC DP)
  (j__law_house_by:HF K "_law_house_by" B8 EI D5)
  (j__law_more_by:HF K "_law_more_by" Co Fo EJ)
  (j__law_order_of:HF K "_law_order_of" B9 EE D3)
  (j__law_spoiled:HF K "_law_spoiled" Cp Fn EH)
  (j__law_turned_by:HF K "_law_turned_by" BQ D4 Dr)
  (j__law_classes:HF K "_law_classes" Cq Fm EF)
  (j__law_base:HF K "_law_base" DH IM GZ)
  (j__law_rival_by:HF K "_law_rival_by" Ca EK D6)
  (j__law_word_by:HF K "_law_word_by" Cr Fp EL)
  (j__law_is_word:HF K "_law_is_word" Cs Fq EM)
  (j__law_walk:HF K "_law_walk" DI IS G1)
  (j_law:HF K "law" Vj Xs Uk)
  (z_all:nsIn K mainGlobals "all"=some none)
  (z_bool:nsIn K mainGlobals "bool"=some none)
  (z_enumerate:nsIn K mainGlobals "enumerate"=some none)
  (z_int:nsIn K mainGlobals "int"=some none)
  (z_isinstance:nsIn K mainGlobals "isinstance"=some none)
  (z_len:nsIn K mainGlobals "len"=some none)
  (z_list:nsIn K mainGlobals "list"=some none)
  (z_max:nsIn K mainGlobals "max"=some none)
  (z_min:nsIn K mainGlobals "min"=some none)
  (z_range:nsIn K mainGlobals "range"=some none)
  (z_sorted:nsIn K mainGlobals "sorted"=some none)
  (z_tuple:nsIn K mainGlobals "tuple"=some none)
  (z_zip:nsIn K mainGlobals "zip"=some none)
  : ∃(fd:α6) (c T:Addr),rH K "in_order"=some (c,T)/\K.lookup T=none/\rE h c T/\h.get? T=some (rJ #[])/\(∀(s:Shared) (v:Value),BindsTo s fd ⟨[v],[]⟩ [("script",v)])/\∀base:Heap,K.In base->base.Ns mainGlobals mg->rE base c T->BmOk mg base->FnOk l.prog w K mg base CX0 8 fa fd ["script"] (SY K):=by
 have e:=hfa.symm.trans (tJ X G j_law.a)
 cases e
 have T:Txt mg:=⟨qj_ X G z_all,qj_ X G z_bool,qj_ X G z_enumerate,qj_ X G z_int,qj_ X G z_isinstance,qj_ X G z_len,qj_ X G z_list,qj_ X G z_max,qj_ X G z_min,qj_ X G z_range,qj_ X G z_sorted,qj_ X G z_tuple,qj_ X G z_zip⟩
 have JS:=fun_mk (st:=Ck) l_j0 c_j0 k_j0
 have OX:=JS.binds (ps:=["words"]) fun _ _ _ _ _ _ us hl=>(by obtain⟨y0,rfl⟩:=len1 hl;rfl)
 have OY:=tJ X G a_j0
 have ti_in_order:=SF a_j0 l_j0 rfl lc_in_order hx_in_order
 refine⟨Uk,aJ,aK,ti_in_order,kt_in_order,vY X ch_in_order,tb_in_order,j_law.b fun _ _ _ _ _ _ _=>rfl,fun base _ _ hC_ hB_=>?_⟩
 have FL_in_order:=Vi (st:=Ck) ti_in_order l_j0 c_j0 hC_ hB_
 have Z_:Wh l.prog w K mg base:=⟨fun _ _ a=>tJ X G a⟩
 have j3:=j_is_word.c Z_ (OR j_is_word.F T )
 have cW:=j_check_word.c Z_ (Kz j_check_word.F T j3)
 have j4:=j_next_word.c Z_ (LF j_next_word.F T cW)
 have kC:=j_words_to.c Z_ (MN j_words_to.F T j4)
 have gG:=j_trail.c Z_ (SI j_trail.F T cW)
 have fA:=j_room_behind.c Z_ (Je j_room_behind.F T gG)
 have fM:=j_mark_behind.c Z_ (Jf j_mark_behind.F T fA)
 have fE:=j_words_in.c Z_ (MR j_words_in.F T )
 have kD:=j_ways_in.c Z_ (OS j_ways_in.F T fE)
 have fH:=j_reached.c Z_ (OT j_reached.F T fE)
 have iP:=j_numbered.c Z_ (MS j_numbered.F T )
 have fG:=j_words_and_classes.c Z_ (Fc j_words_and_classes.F T iP)
 have kJ:=j_tellers.c Z_ (OU j_tellers.F T fG)
 have ki:=j_classes_of.c Z_ (KD j_classes_of.F T fG)
 have gO:=j_homes.c Z_ (SK j_homes.F T fH ki)
 have gR:=j_least.c Z_ (SM j_least.F T fH gO)
 have OZ:=MT (P:=l.prog) (w:=w) (base:=base) FL_in_order T
 have kF:=Cal.mk (x := "in_order") (st:=Ck) OZ JS OX OY
 have kK:=j_marks_from_each_room.c Z_ (DM j_marks_from_each_room.F T )
 have kL:=j_own_tellers.c Z_ (Jg j_own_tellers.F T )
 have kM:=j_tellers_of_each_room.c Z_ (DO j_tellers_of_each_room.F T kJ kK kL)
 have kN:=j_words_with.c Z_ (KH j_words_with.F T kC fA kD kF)
 have gV:=j_slim.c Z_ (Vm j_slim.F T gR kM kN)
 have lA:=j_trials_of.c Z_ (LW j_trials_of.F T fM)
 have fN:=j_first_failed.c Z_ (IL j_first_failed.F T cW fM)
 have gW:=j_passes.c Z_ (RA j_passes.F T fN)
 have aU:=j__law_cell_at.c Z_ (IB j__law_cell_at.F T )
 have bj:=j__law_mixed.c Z_ (KJ j__law_mixed.F T )
 have kX:=j__law_marks_by.c Z_ (Hg j__law_marks_by.F T bj)
 have kY:=j__law_ways_by.c Z_ (IC j__law_ways_by.F T aU bj)
 have fJ:=j__law_blown.c Z_ (KN j__law_blown.F T bj)
 have lB:=j__law_house_by.c Z_ (Hh j__law_house_by.F T aU kX kY fJ)
 have lC:=j__law_more_by.c Z_ (IE j__law_more_by.F T aU)
 have lb:=j__law_order_of.c Z_ (Hi j__law_order_of.F T )
 have lq:=j__law_spoiled.c Z_ (IK j__law_spoiled.F T )
 have lr:=j__law_turned_by.c Z_ (GH j__law_turned_by.F T )
 have lg:=j__law_classes.c Z_ (IJ j__law_classes.F T )
 have lu:=j__law_base.c Z_ (LU j__law_base.F T lb lg)
 have lD:=j__law_rival_by.c Z_ (Hj j__law_rival_by.F T aU bj fJ lq lr lu)
 have lE:=j__law_word_by.c Z_ (IP j__law_word_by.F T aU bj)
 have lF:=j__law_is_word.c Z_ (IF j__law_is_word.F T )
 have i8:=j__law_walk.c Z_ (LV j__law_walk.F T )
 exact Xa j_law.F T gV lA fN gW lB lC lD lE lF i8
def walk {l:sN}{q:Program}{cL:List Str}{XP:(Str->α5)->Heap->Prop}{YP:World->Heap->Prop}{d:DefRec}{K:Params->α3}(hn:l.most=some 63)(mF:d.params.defaults=[])
  (hY:∀(w:World) (h:Heap),YP w h->(K w.params).In h)
  (F:∀(w:World) (mg:Str->α5) (fa:Addr) (h:Heap),YP w h->(K w.params).In h->h.Ns mainGlobals mg->mg d.name=some (.ref fa) ->
   ∃(fd:α6) (c T:Addr),rH (K w.params) "in_order"=some (c,T)/\(K w.params).lookup T=none/\rE h c T/\h.get? T=some (rJ #[])/\(∀(s:Shared) (u:Value),BindsTo s fd ⟨[u],[]⟩ [("script",u)])/\∀base:Heap,(K w.params).In base->base.Ns mainGlobals mg->rE base c T->BmOk mg base->FnOk l.prog w (K w.params) mg base CX0 8 fa fd ["script"] (SY (K w.params))):
  vn q cL XP YP l.row.toRowW d [] (fun f vs=>uK f vs):=
 L2.walk_ofT (xT := "in_order") (n:=63) (k:=8) (x := "script") (CX:=fun _=>CX0) (sp:=fun w=>SY (K w.params)) hn (by decide) mF ⟨rfl,by decide,by decide⟩ hY F (fun _ _ a _ _ ns hl ti hT hS=>⟨a,ns,rfl,hS,hl,by rw[Ra ti];exact hT,fun _=>rfl⟩) fun _ _ _ _ _ z=>z
end Mine
namespace PySem.W.Fast
def tw1168240181310334250:=0
def tw14235150983761732618:=0
def tw6082432969654809323:=0
def tw9584982404351829085:=0
def tw10688591099359677754:=0
def tw16258902813619563746:=0
def tw5129943052969303029:=0
def tw2740341009766871877:=0
def tw12838036710104712633:=0
def tw1825958788842090883:=0
def tw4778171229621549477:=0
def tw4010961666199724725:=0
def tw11195736443042737595:=0
def tw16532902975489295285:=0
def tw8871734065438311907:=0
def tw6291122716472336752:=0
def tw14252148890961604370:=0
def tw4072032476383695347:=0
def tw9695631613450868458:=0
def tw15023975153211221883:=0
def tw7572404939989419065:=0
def tw225408704837873139:=0
def tw8968385671140427378:=0
def tw9968180443109607291:=0
def tw5281139482287621394:=0
def tw125849593153275339:=0
def tw16372485063909843374:=0
def tw15844792744278509928:=0
def tw5737327030928116306:=0
def tw11536828834112942710:=0
def tw18397989931928398892:=0
def tw15505545156035412513:=0
def tw10531239200248194515:=0
def tw15938305448199675053:=0
def tw12658986644078540717:=0
def tw16262823829403342182:=0
def tw15163589643512704192:=0
def tw7090029235720479444:=0
def tw16316964830696395423:=0
def tw17526475588514612063:=0
def tw12333537458834800570:=0
def tw7440226793216009674:=0
def tw14894536989147446480:=0
def tw10670760640025517066:=0
def tw15396191513350451247:=0
def tw4648783216706421515:=0
def tw10833391798390669084:=0
def tw9850754011042553956:=0
def tw7230532711785154146:=0
def tw1020761649878356537:=0
def tw2330460740316015737:=0
def tw2803484037543749146:=0
def tw568371629504974412:=0
def tw3882237316833993869:=0
def tw16975719028088904100:=0
def tw16469387706136346291:=0
def tw13966063056116641806:=0
def tw17463934445727247931:=0
def tw1896800905915785658:=0
def tw8315534277178283555:=0
def tw4897894453972688484:=0
def tw15199000546657069318:=0
def tw3119745379665201611:=0
def tw17608139164931866363:=0
def tw5765500513520695160:=0
def tw15990160360172371553:=0
def tw9187500155078000120:=0
def tw13684141608387122464:=0
def tw13745004740665613184:=0
def tw8824254128967740445:=0
def tw6915818720204301847:=0
def tw482778617552095898:=0
def tw15852545587722600859:=0
def tw11167625398697190173:=0
def tw585137537725537390:=0
def tw9252434224227790727:=0
def tw14150583596498097511:=0
def tw13160339360165244976:=0
def tw652567011812380882:=0
def tw12870878860905516440:=0
def tw15497200617550477116:=0
def tw318716319536364909:=0
def tw9525207424646736670:=0
def tw1853325901599273558:=0
def tw18175205712002806105:=0
def tw4764738086087218587:=0
def tw3809063697966978770:=0
def tw6964188197435033237:=0
def tw13796999315297398451:=0
def tw9762612561321770235:=0
def tw15464529518315760713:=0
def tw12162567678145498989:=0
def tw16641800540779234784:=0
def tw15147154247128800598:=0
def tw8946531539298297371:=0
def tw10909787922135958835:=0
def tw4285546465386926359:=0
def tw6443716281076603451:=0
def tw4940178814695075482:=0
def tw4257401119071970004:=0
def tw11649726142595570109:=0
def tw14074880796020370266:=0
def tw12685786854434773404:=0
def tw6641781269761447442:=0
def tw4368780245419483105:=0
def tw14579827626355639559:=0
def tw3791348887256658445:=0
def tw16250502863966536561:=0
def tw6507484981409233799:=0
def tw17379179315747890182:=0
def tw11876067981886555862:=0
def tw17229542881724332273:=0
def tw10890989675965155958:=0
def tw8343984302352875245:=0
def tw11876684515191766568:=0
def tw13642812573949670918:=0
def tw10967473446990954594:=0
def tw4167949065837213086:=0
def tw4568321879104310255:=0
def tw14910831875581556776:=0
def tw6536017952351725058:=0
def tw2424308937797960686:=0
def tw1256415243147958747:=0
def tw11813198118888910187:=0
def tw3157747220248869549:=0
def tw6268655255514601641:=0
def tw5722462455253492493:=0
def tw18429148240867302085:=0
def tw15013241323148773885:=0
def tw10143123907874502935:=0
def tw17881822797509498824:=0
def tw5438154648246143678:=0
def tw537330098960003946:=0
def tw7135566818310562110:=0
def tw11791838910408047653:=0
def tw16893561269527779656:=0
def tw12021975575802920217:=0
def tw12006577502195000951:=0
def tw10881964782141012038:=0
def tw11879909667652771817:=0
def tw10593005372823640266:=0
def tw4971459223689612831:=0
def tw16574764593848921342:=0
def tw2917134141687801610:=0
def tw14134856635907492324:=0
def tw8738977232320331625:=0
def tw8850177047039276091:=0
def tw6769586581997382859:=0
def tw3775133082917392818:=0
def tw15614181031425098523:=0
def tw11203752072449811146:=0
def tw1587332699764212638:=0
def tw13576820429808663877:=0
def tw13300426927870435956:=0
def tw11174612238147033223:=0
def tw9292266136906367281:=0
def tw4073853307302359579:=0
def tw2964584505731108014:=0
def tw2902988995583355795:=0
def tw5379406972406514451:=0
def tw12880126624825842720:=0
def tw13273007089333332689:=0
def tw6603882783206703225:=0
def tw2886660908566345434:=0
def tw11243479587940572871:=0
def tw16449805748794125138:=0
def tw7492833347411390765:=0
def tw12953621696071447432:=0
def tw16652432666743352427:=0
def tw11156616599198482235:=0
def tw954589297985420400:=0
def tw16608073239597261766:=0
def tw5763914976383527164:=0
def tw7036989893782177557:=0
def tw15637340237696492352:=0
def tw10440800222439320776:=0
def tw9975583423462162190:=0
def tw17991180884414642498:=0
def tw13585931821495993708:=0
def tw16786256595683288908:=0
def tw8668092079165938895:=0
def tw14065856410795360601:=0
def tw12251569692726457608:=0
def tw18424169862215078125:=0
def tw16506194226543479043:=0
def tw12499874323704133180:=0
def tw15202045013526876487:=0
def tw16467069205155259574:=0
def tw16723044184678214845:=0
def tw6312625228364121639:=0
def tw1132496504942817589:=0
def tw10011228248476386927:=0
def tw8037592137594046197:=0
def tw13657151305800462809:=0
def tw5049108232474721432:=0
def tw16368866070264818482:=0
def tw6717591949260004225:=0
def tw9278687038737829577:=0
def tw4354537783813958829:=0
def tw17356056902581901317:=0
def tw14178261142797430154:=0
def tw2234653109498462116:=0
def tw2004054996074823998:=0
def tw10362660611300099188:=0
def tw17682920174363731774:=0
def tw16789984365534412812:=0
def tw9913207865636612790:=0
def tw8062518942305600325:=0
def tw6865449779261830182:=0
def tw9747742802774739784:=0
def tw2014911689800891062:=0
def tw4894359904740969063:=0
def tw280509150939073277:=0
def tw15517445402086474660:=0
def tw99518795440956345:=0
def tw2896612856873236079:=0
def tw21863492215404440:=0
def tw17681943470536550842:=0
def tw13312344858088220930:=0
def tw3043285155200959283:=0
def tw8497746697363655080:=0
def tw17652963265730312131:=0
def tw5681020534157980728:=0
def tw3189260949822798046:=0
def tw13652195870217756335:=0
def tw2872906670181245580:=0
def tw8595584995532323974:=0
def tw784580156827502134:=0
def tw1808884321243969074:=0
def tw7050363284928692243:=0
def tw37336259916353865:=0
def tw17540040221459455696:=0
def tw6764283171649411268:=0
def tw14332940507244673978:=0
def tw10315370462303268791:=0
def tw5902589815767670627:=0
def tw6191383446298260580:=0
def tw18010346251034520522:=0
def tw7578949450134920345:=0
def tw4901512028565383878:=0
def tw15593113252904203245:=0
def tw14277930707318557852:=0
def tw14821124014951861222:=0
def tw5583324385950128449:=0
def tw16792999898423172073:=0
def tw14758714750224501955:=0
def tw2067135326600758116:=0
def tw5800957820725245615:=0
def tw1747136779090614296:=0
def tw3778054230504176642:=0
def tw6388131839760149098:=0
def tw7124299478137525371:=0
def tw12363113692119198438:=0
def tw9256706498934759267:=0
def tw1833909302151381901:=0
def tw6515448618276203393:=0
def tw8849678288210021905:=0
def tw778423184550759809:=0
def tw10347920119962829256:=0
def tw5981048822767991016:=0
def tw1547404441974478153:=0
def tw14706627582395693740:=0
def tw1586722173669649132:=0
def tw5849699310242166382:=0
def tw6187086885808816616:=0
def tw10454599452925948082:=0
def tw2853330033382560796:=0
def tw5745905691727022474:=0
def tw6064242280444466393:=0
def tw11337818569692812842:=0
def tw13519969374115338275:=0
def tw6940803186388511128:=0
def tw8009367654485289995:=0
def tw7072856213834875720:=0
def tw17980201349146906578:=0
def tw11038733794693263510:=0
def tw5054188869645643517:=0
def tw5742111879154188397:=0
def tw9743364624143276760:=0
def tw697375709977578628:=0
def tw13611450158596644002:=0
def tw820835933696095907:=0
def tw16790093353268992103:=0
def tw8997046897051549063:=0
def tw15519455189217709861:=0
def tw13432310046405325140:=0
def tw6962498047681235969:=0
def tw14492508978237456054:=0
def tw7835131318388005927:=0
def tw2017977608281435912:=0
def tw9522244127089949893:=0
def tw6539321144621775712:=0
def tw12818765044876527632:=0
def tw4694518465071093810:=0
def tw17280676012817492497:=0
def tw1036479134948433722:=0
def tw4051278023120546173:=0
def tw4414239635548652438:=0
def tw11830752406950430599:=0
def tw12030008580478175704:=0
def tw8311797126990720032:=0
def tw18046585449914795579:=0
def tw3930501043106559337:=0
def tw16370793035030098733:=0
def tw4621174295611520283:=0
def tw4584539898792360075:=0
def tw10250976264829855990:=0
def tw1955312212145155028:=0
def tw13808108080589403488:=0
def tw1390854785343435489:=0
def tw11998789175951596602:=0
def tw4681250160556061911:=0
def tw4858217649071592184:=0
def tw8861098797034330758:=0
def tw1186676617139758791:=0
def tw9442636955322791344:=0
def tw14879369851694646176:=0
def tw6535480128391208704:=0
def tw4661838657969384731:=0
end PySem.W.Fast
open PySem PySem.W PyProof.Rows
set_option maxRecDepth 100000 in
set_option maxHeartbeats 0 in
theorem PySem.Challenge.cw_guessroom_k27_whole_slim_suite_is_enough_holds : PySem.Challenge.rw_guessroom_k27_whole_slim_suite_is_enough.Holds := by
  w_on; o_law; k_head; (case hw => w_witness2)
  k_fill
  refine Mine.walk (l := PySem.Challenge.rw_guessroom_k27_whole_slim_suite_is_enough) rfl rfl (fun w h Y => PySem.W.km_in_of Y) ?F
  case F =>
    intro w mg fa h Y KX G hmg
    refine' Mine.all_mk KX G hmg ?j_is_word ?j_check_word ?j_next_word ?j_words_to ?j_trail ?j_room_behind ?j_mark_behind ?j_words_in ?j_ways_in ?j_reached ?j_numbered ?j_words_and_classes ?j_tellers ?j_classes_of ?j_homes ?j_least ?a_j0 ?l_j0 ?lc_in_order ?hx_in_order ?kt_in_order ?ch_in_order ?tb_in_order ?c_j0 ?k_j0 ?j_marks_from_each_room ?j_own_tellers ?j_tellers_of_each_room ?j_words_with ?j_slim ?j_trials_of ?j_first_failed ?j_passes ?j__law_cell_at ?j__law_mixed ?j__law_marks_by ?j__law_ways_by ?j__law_blown ?j__law_house_by ?j__law_more_by ?j__law_order_of ?j__law_spoiled ?j__law_turned_by ?j__law_classes ?j__law_base ?j__law_rival_by ?j__law_word_by ?j__law_is_word ?j__law_walk ?j_law ?z_all ?z_bool ?z_enumerate ?z_int ?z_isinstance ?z_len ?z_list ?z_max ?z_min ?z_range ?z_sorted ?z_tuple ?z_zip
    all_goals try unfold L2.HA
    all_goals try unfold L2.HL
    (case j_is_word|j_check_word|j_next_word|j_words_to|j_trail|j_room_behind|j_mark_behind|j_words_in|j_ways_in|j_reached|j_numbered|j_words_and_classes|j_tellers|j_classes_of|j_homes|j_least|j_marks_from_each_room|j_own_tellers|j_tellers_of_each_room|j_words_with|j_slim|j_trials_of|j_first_failed|j_passes|j__law_cell_at|j__law_mixed|j__law_marks_by|j__law_ways_by|j__law_blown|j__law_house_by => constructor; k_is; apply L2.fun_mk <;> k_is)
    (case j__law_more_by|j__law_order_of|j__law_spoiled|j__law_turned_by|j__law_classes|j__law_base|j__law_rival_by|j__law_word_by|j__law_is_word|j__law_walk|j_law => constructor; k_is; apply L2.fun_mk <;> k_is)
    (case a_j0|l_j0|lc_in_order|c_j0|k_j0|z_all|z_bool|z_enumerate|z_int|z_isinstance|z_len|z_list|z_max|z_min|z_range|z_sorted|z_tuple|z_zip=>k_is)
    (case hx_in_order => exact rfl)
    (case kt_in_order => first | k_is | kernel_rfl | exact rfl)
    (case ch_in_order => first | k_is | kernel_rfl)
    (case tb_in_order => exact PySem.W.km_tabs_of Y _ (.head _))
