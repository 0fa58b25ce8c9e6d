import PyProof.Rows.All
import Wide.All
import OpenK.AllK
import Wide.FinOn
import Lean
import PyProof.EqAt
import PyProof.EqKinds
import PyProof.TupleCall
import KE.KRevIter
import PyProof.ListRange
import PyProof.TupleOfGen
import PyProof.Draws
import PyProof.EnumMake
import PyProof.EnumFor
import PyProof.NeKinds
import KE.KDictList
import PyProof.Rows.TupDisplay
import PyProof.ZipIter
import PyProof.Rows.ZipGen
import KE.KItemsList
import PyProof.Rows.SumAny
import PyProof.StrWalks
import PyProof.StrCalls
import PyProof.StrCalls3
import PyProof.StrLawsFirst
import PyProof.StrLawsIn
import PyProof.SliceStr2
import PyProof.StrBlockI
import PyProof.Rows.StrWeight2
import PyProof.ListNew
import PyProof.DictRoadsH
import PyProof.WalkInts
import PyProof.Rows.MinMaxN
import KE.KDictLaws
import PyProof.StrCalls2
import PyProof.StrLawsChain
import KE.KIntText
import KE.KxText
import KE.KMinKey
import KE.KPairComp
import PyProof.MaxThree
import PyProof.DictWalks
import OpenK.KCls
import PyProof.Rows.SortShellK
import KE.KSortTup
import KE.KLam
import KE.KNestM
import PySem.Challenge.RW_guessroom_k28_whole_suites_decide
set_option compiler.extract_closed false
local macro_rules | `(s!$_) => `(by lia)
namespace Al
abbrev jG_:=@congrArg
abbrev j7_:=@decide_eq_true
abbrev qc_:=@decide_eq_false
abbrev qs_:=@decide_eq_true_eq
abbrev qB_:=@of_decide_eq_true
abbrev qX_:=@if_false
abbrev xB_:=@of_decide_eq_false
abbrev xW_:=@if_true
abbrev zT_:=@beq_eq_false_iff_ne
abbrev wf_:=@beq_iff_eq
abbrev α0:=List (List (List Int))
abbrev α1:=List (List Int)
abbrev α2:=List Int
abbrev α5:=Option PySem.Value
abbrev α7:=List (PySem.Addr×PySem.Obj)
abbrev jI_:=@PySem.PassesOwn.never
abbrev j2_:=@Classical.byContradiction
abbrev qp_:=@Ne.symm
abbrev qq_:=@Iff.rfl
abbrev xq_:=@PySem.Heap.SameBut.update
abbrev xO_:=@List.cons.injEq
abbrev zf_:=@PySem.IsL.update
abbrev zm_:=@List.Pairwise.imp_of_mem
abbrev zJ_:=@PySem.AutoSeq1.idx_int
abbrev wl_:=@Prod.ext
end Al
open Al
open List renaming length_map->ja_,getElem?_eq_some_iff->jb_,mem_of_getElem?->jd_,getElem?_append_left->je_,getElem?_map->jf_,getElem?_eq_getElem->jh_,getD_eq_getElem?_getD->jk_,length_append->jl_,mem_cons_of_mem->jm_,mem_cons_self->jo_,getElem?_append_right->jp_,size_toArray->jq_,mem_singleton->jr_,mem_map->jv_,mem_append->jw_,length_take->jx_,mem_append_right->jy_,mem_range->jC_,mem_cons->jD_,mem_iff_getElem?->jK_,getElem_of_mem->jN_,length_singleton->jP_,take_length->jQ_,take_add_one->jR_,map_append->jS_,length_cons->jU_,getElem?_eq_none->jV_,map_map->jW_,take_of_length_le->jX_,map_cons->jZ_,getElem_mem->j0_,mem_append_left->j6_,lookup_cons->qa_,append_assoc->qh_,length_range->qi_,append_nil->ql_,length_nil->qn_,replicate_succ->qo_,map_congr_left->qx_,foldl_append->qA_,length_replicate->qD_,all_eq_true->qG_,length_pos_of_mem->qI_,drop_eq_nil_of_le->qJ_,nodup_cons->qL_,getElem?_range->qN_,idxOf_lt_length_of_mem->qO_,ext_getElem?->qS_,getElem?_set_self->qT_,length_set->qU_,getElem?_zip_eq_some->qW_,length_erase_of_mem->qZ_,foldl_cons->q2_,getElem_idxOf->q3_,reverse_reverse->q4_,pairwise_append->q5_,mem_reverse->q6_,reverse_append->q8_,mem_map_of_mem->q9_,mem_of_find?_eq_some->xa_,drop_eq_getElem_cons->xb_,take_append_drop->xc_,pairwise_reverse->xd_,length_drop->xf_,getElem?_set_ne->xi_,mem_erase_of_ne->xj_,mem_of_mem_take->xk_,pairwise_map->xn_,mem_filter->xo_,find?_cons->xp_,find?_eq_none->xA_,getElem?_eq_none_iff->xC_,pairwise_iff_getElem->xE_,of_mem_zip->xG_,getElem?_take_of_lt->xI_,flatten_cons->xK_,idxOf_lt_length_iff->xP_,length_reverse->xR_,getElem_inj->xT_,any_eq_true->xU_,map_nil->xX_,nil_append->xY_,forIn_cons->xZ_,range_succ->x2_,length_filter_le->x3_,nodup_append->x6_,mem_iff_getElem->x9_,forIn_nil->zd_,mem_or_eq_of_mem_set->ze_,cons_append->zh_,not_mem_nil->zi_,getElem?_replicate->zo_,getElem?_cons_zero->zs_,set_cons_zero->zv_,map_replicate->zw_,length_filter_eq_length_iff->zx_,reverse_replicate->zA_,nodup_range->zL_,mem_flatMap->zM_,any_cons->zQ_,filterMap_cons->zU_,idxOf_cons->z0_,length_pos_iff->z3_,length_zip->z4_,find?_some->z5_,toList_toArray->z6_,zip_cons_cons->z7_,map_inj_right->z9_,take_zero->wc_,idxOf_append->wh_,getElem_drop->wi_,replicate->rX,range->rY,length->su,take_append_of_le_length->sJ,drop_append_of_le_length->sL,eq_of_mem_replicate->sY,zipIdx_cons->tD,pairwise_singleton->tF,foldl->tI,find?_cons_of_neg->tR,getElem?_toArray->tU,perm_append_comm->tV,set_append_right->tY,nodup_nil->ub,flatMap_append->uf,take_succ_cons->ug,map_take->uh,zip_nil_right->uk,any_eq_false->ur,take_sublist->uv,map_set->uz,reverse_cons->uC,getElem?_map->uD,getElem_take->uE,reverse_perm->uG,map_fst_zip->uO,drop_length->uR,length_tail->uS,countP_cons->uU,zipIdx_nil->uY,drop_take->vf,take_take->vg,drop_zero->vj,all_cons->vM,drop->xk
open PySem renaming wpAny_bind->jc_,wpAny_pure->jn_,boot_len->jH_,wpAny_loadPart'->j4_,wpAny_callSpecial?_slot->j5_,wpAny_field->qd_,mem_of_lookup->qm_,wpAny_newObj_type->qr_,wpAny_mono->qE_,wpAny_call_entry->qF_,wpAny_holding->qK_,wpAny_seqItems->qR_,wpAny_setField_rec->xe_,wpAny_typeNameOfWhole_keyiter->xg_,wpAny_attempt->xl_,wpAny_pyIter_tuple->xu_,wpAny_Call_Name_kw->xw_,wpAny_passesOwn->xF_,call_meets->xL_,wpAny_typeNameOf_keyiter->xM_,wpAny_truthy_bool->x4_,wpAny_setField->zc_,wpAny_comprehension_free->zl_,tupleKind_room_in1->zr_,wpAny_nextOf_list_item->zB_,wpAny_pyIter_list->zC_,wpAny_dictEntries->zE_,wpAny_isOneOf_keyiter->zH_,wpAny_updateSeq_pair->zP_,wpAny_rule->zR_,wpAny_execs_nil->zV_,sizeLine_eq->zW_,wpAny_letGo->zZ_,wpAny_updateSeq->z2_,list_append->we_,FuncData->α6,seqSlot_of->uK,call->vc,Within->vX,Fin->xl
open PySem.Heap renaming get?_push_of_some->jg_,lt_size->jt_,get?_push_size->jz_,get?_update_other->j8_,size_push->qf_,get?_update_self->qM_
open Nat renaming le_refl->ji_,lt_of_lt_of_le->jA_,ne_of_lt->jO_,zero_le->jY_,lt_irrefl->qb_,ne_of_gt->qe_,sub_self->qg_,le_trans->qt_,not_lt_zero->qV_,lt_or_ge->q0_,lt_succ_of_lt->xm_,le_add_right->xt_,le_of_succ_le->xN_,lt_trans->xQ_,lt_succ_self->zg_,le_of_lt->zj_,zero_add->zI_,le_succ->wj_,not_lt->wm_,le_of_eq->tN,mul_le_mul_right->uc,lt_of_le_of_lt->um,mul_comm->uw,min_self->uy,add_zero->uB,le_of_not_lt->uJ,not_lt_of_le->uM,succ_le_succ->uN,strongRecOn->u5,succ_mul->v3,add_comm->v5,le_total->v9,sub_zero->we
open Int renaming toNat_natCast->jj_,mul_le_mul_of_nonneg_right->j1_,emod_lt_of_pos->j9_,emod_nonneg->qu_,le_of_lt->xx_,toNat_of_nonneg->xS_,le_refl->x0_,mul_nonneg->zb_,add_mul->zY_,lt_of_lt_of_le->z8_,zero_add->wa_,add_mul_ediv_right->tL,ediv_eq_zero_of_lt->tM,mul_le_mul->vk,le_trans->v7,add_comm->v8
open Option.some renaming inj->js_,injEq->zD_
open Bool renaming false_ne_true->ju_,false_eq_true->jT_,and_eq_true->qj_,eq_iff_iff->qy_,not_false->wb_,not_true->wk_,not_eq_true'->uF,or_eq_true->uX,false_and->va,true_and->vO
open PyProof.Rows renaming wpS_bind->jB_,boot_tuple->jF_,wpS_pure->jJ_,callWith_type1->qk_,wpS_forRange->qP_,boot_list->xr_,slot_tuple_getitem->xJ_,wpS_mono->x7_,KK_mirror_equal->zu_,wpS_modify->zS_,boot_max->t9,callWith_builtin1->uI,boot_isinstance->u7,boot_bool->wg,boot_all->wB,boot_min->wC,KeyKind->wG,lt_int->wK,setArr->wM
open PySem.F renaming plainAttrs_list->jE_,slot_list_append->jL_,type_list_append->jM_,slot_dict_keyiterator_next->q1_,slot_tuple_iterator_next->q7_,slot_tuple_iterator_next->xs_,plain_extend_loop->xD_,slot_zip_next->x1_,args_tuple_add_2->zk_,args_tuple_iterator_next_1->zn_,entry_tuple_add->zp_,entry_tuple_iterator_next->zt_,slot_tuple_add->zy_,slot_dict_get->zF_,slot_tuple_mul->zK_,args_list_append_2->zO_,slot_int_rmul->zX_,slot_zip_next->z1_,slot_dict_setdefault->sN,entry_extend_loop->sQ,args_dict_get_2->sZ,plainAttrs_dict->tq,args_zip_next_1->tE,slot_list_index->tG,type_list_index->tH,entry_dict_get->tJ,entry_zip_next->tP,args_dict_setdefault_3->uP,entry_dict_setdefault->uW,type_dict_setdefault->u3,args_object_init_3->vd,args_list_init_2->vP,slot_list_extend->vS,type_list_extend->vT,args_tuple_lt_2->vU,typeCall_list_1->vV,entry_list_init->vW,entry_tuple_lt->vZ,typeCall_zip_2->wa,slot_tuple_lt->wk,type_dict_get->wm,newCall_zip_2->wz,entry_zip_new->wA,called_list->wL,called_zip->wW
open Array renaming length_toList->j3_,getElem?_eq_getElem->qH_,toList_append->qY_,getElem?_toList->xz_,perm_iff_toList_perm->x8_,toList_reverse->za_,toList_push->wg_,toList_append->sx,toList_setIfInBounds->sP,getElem?_eq_none->tK,getElem_extract->tZ,forIn_toList->uo,size_push->uZ,toList->vY,ext'->wX
open Option renaming toList_some->qv_,isSome_iff_exists->xH_,isSome_some->zq_,none->sS,map_eq_none_iff->tO,isSome_none->uq,isSome_map->ux,getD_some->uT,map_some->u6
open PySem.W renaming mg_none_of->qw_,kia_one->qz_,cellsFrom_some->xV_,kitx_list->wd_,Frag->α3,CodeHd->si,tabIn->sq,tabObj->sr,kla_obj->sO,methodObj->sR,instObj->tS,OpenLaw->tT,lookIn->ua,mg_of->ui,kitx_tuple->uj,kitx_dict->uu,plainGet->uH,kdl_call->uL,kat_cons->uQ,kat_yes->u4,kla_makeFunctionHit->u9,findIn->vb,kat_go->vh,kat_no->vi,WalkO->vQ,kla_makeFunction->vR,kdl_hint_dict->wq,hideAll_size->wD,hideAll_none->wF,kla_callFunE->wH,kla_codeExpr->wI,hideAll_get->wJ,codeHd_of_K->wN,of_hideAll->wO,kitx_float->wQ,callWith_K->wR,codeRec_of->wU,ki_setBack->wV,hasDictIn->wY,plainOver->wZ,specialIn->w5,kitx_none->w6,kitx_bool->w9,eq_bytes->xb,ne_bytes->xc,kitx_int->xf,kitx_str->xg,kitx_own->xh,ki_setAt->xi,kdl_dict->xj,kat_kind->xm,kla_eval->xo,codeHdIn->xp,hideAll->xq,takesIn->xr,kat_nil->xt,kat_one->xu,KatTups->xw,InstAt->xx,KdlSrc->xy,kat_lt->xA,kla_fn->xB,mroIn->xC
open PyProof.Rows.KeyOrd renaming kle_of_klt->qC_,kle_refl->qQ_,kle_trans->xh_
open PySem.Calls renaming spliced_cons->xv_,spliced_nil->x5_,callWith_builtin->zz_,evalArgs_plain->zN_
open PySem.Obj renaming data_mapFields->xy_,isFreed_of_fields->zG_
open True renaming intro->rZ
open Sum renaming inl->r6,inr->ue
open Or renaming inl->r9,inr->sk
open ForInStep renaming yield->sf,done->ve
open False renaming elim->sj
open Classical renaming propDecidable->sG,not_forall->ud
open List.Pairwise renaming nil->sI,sublist->tW,map->uA,imp->xa
open List.Perm renaming append_right->tQ,append_left->tX
open Prod.mk renaming inj->uV,injEq->vN
open PySem.EqNone renaming eq_none_none->vm,eq_none_bool->vn,eq_bool_none->vo,ne_none_none->vt,ne_none_bool->vv,ne_bool_none->vw,eq_none_int->vz,eq_none_str->vA,eq_int_none->vB,eq_str_none->vE,ne_none_int->vG,ne_none_str->vH,ne_int_none->vI,ne_str_none->vK
open PySem.EqMixed renaming eq_bool_str->vp,eq_str_bool->vq,ne_bool_str->vx,ne_str_bool->vy,eq_int_str->vC,eq_str_int->vF,ne_int_str->vJ,ne_str_int->vL
open PySem.W (nsIn keepIn codeIn fnOf kitOne)
set_option Elab.async false
set_option linter.all false
set_option maxRecDepth 100000
namespace L2
open PySem PySem.Spec PyProof.Rows
abbrev Key:=Sum Int Str
def Lp:Key->Value->Bool
 |.inl k,v=>Value.isInt k v
 |.inr x,v=>Value.isStrOf x v
def keyH (w:World):Key->Int
 |.inl k=>hashInt k
 |.inr x=>hashStr w x
def Be:∀{k:Key} {v:Value},Lp k v=true->(∃i t,k=r6 i/\v=Value.int i t)\/(∃x t,k=ue x/\v=Value.str x t)
 |.inl i,v,h=>by
  obtain⟨t,e⟩:=Value.isInt_shape (k:=i) (v:=v) h
  exact .inl ⟨i,t,rfl,e⟩
 |.inr x,v,h=>by
  obtain⟨t,e⟩:=Value.isStrOf_shape (x:=x) (v:=v) h
  exact .inr ⟨x,t,rfl,e⟩
def Oi (i:Int)(t:Tok):Lp (.inl i) (.int i t)=true:=by simp[Lp,Value.isInt]
def Oj (x:Str)(t:Tok):Lp (.inr x) (.str x t)=true:=by simp[Lp,Value.isStrOf]
def UG (a b:Int):decide ((r6 a:Key)=r6 b)=(a==b):=by
 by_cases e:a=b
 ·subst e;simp
 ·have h:¬ (r6 a:Key)=r6 b:=fun q=>e (Sum.inl.inj q)
  rw[qc_ h]
  exact (zT_.mpr e).symm
def UH (a b:Str):decide ((ue a:Key)=ue b)=decide (a=b):=by
 by_cases e:a=b
 ·subst e;simp
 ·have h:¬ (ue a:Key)=ue b:=fun q=>e (Sum.inr.inj q)
  rw[qc_ h,qc_ e]
def UI (a:Int)(b:Str):decide ((r6 a:Key)=ue b)=false:=qc_ (fun q=>nomatch q)
def UJ (a:Str)(b:Int):decide ((ue a:Key)=r6 b)=false:=qc_ (fun q=>nomatch q)
def Bf (prog:Program)(w:World):PySem.KeyKind prog w Key where
 is:=Lp
 hash:=keyH w
 inj:=fun v a b ha hb=>by
  rcases Be ha with ⟨i,t,rfl,rfl⟩|⟨x,t,rfl,rfl⟩
  ·rcases Be hb with ⟨j,u,rfl,e⟩|⟨y,u,rfl,e⟩
   ·injection e with e1 _;rw[e1]
   ·exact nomatch e
  ·rcases Be hb with ⟨j,u,rfl,e⟩|⟨y,u,rfl,e⟩
   ·exact nomatch e
   ·injection e with e1 _;rw[e1]
 byValue:=fun k v h=>by
  rcases Be h with ⟨i,t,rfl,rfl⟩|⟨x,t,rfl,rfl⟩<;>rfl
 pyHash:=fun hv h=>by
  rcases Be hv with ⟨i,t,rfl,rfl⟩|⟨x,t,rfl,rfl⟩
  ·exact wpAny_pyHash_int h
  ·exact wpAny_pyHash_str h
 eqBool:=fun hu hv h=>by
  rcases Be hu with ⟨i,t,rfl,rfl⟩|⟨x,t,rfl,rfl⟩
  ·rcases Be hv with ⟨j,u,rfl,rfl⟩|⟨y,u,rfl,rfl⟩
   ·rw[UG]at h;exact wpAny_eqBool_int h
   ·rw[UI]at h;exact SeqAt.EqAt.int_str i t y u _ _ _ _ h
  ·rcases Be hv with ⟨j,u,rfl,rfl⟩|⟨y,u,rfl,rfl⟩
   ·rw[UJ]at h;exact SeqAt.EqAt.str_int x t j u _ _ _ _ h
   ·rw[UH]at h;exact wpAny_eqBool_str h
 «strs» := fun k x t v h=>by
  rcases Be h with ⟨i,u,rfl,e⟩|⟨y,u,rfl,e⟩
  ·exact nomatch e
  ·injection e with e1 _
   subst e1
   cases v<;>rfl
def Lq (prog:Program)(w:World)(i:Int)(t:Tok):(Bf prog w).is (.inl i) (.int i t)=true:=Oi i t
def Lr (prog:Program)(w:World)(x:Str)(t:Tok):(Bf prog w).is (.inr x) (.str x t)=true:=Oj x t
inductive V where
 | non|bl (b:Bool)|int (i:Int)|str (x:Str)|byt (b:Array UInt8)|flt (b:UInt64)|ref (a:Addr)|ty (n:String)
 deriving DecidableEq
def RelV:V->Value->Prop
 |.non,u=>u=Value.none
 |.bl b,u=>u=Value.bool b
 |.int i,u=>∃t,u=Value.int i t
 |.str x,u=>∃t,u=Value.str x t
 |.byt b,u=>∃t,u=Value.bytes b t
 |.flt b,u=>∃t,u=Value.float b t
 |.ref a,u=>u=Value.ref a
 |.ty n,u=>u=Value.type n
abbrev Vals:List V->List Value->Prop:=Paired RelV
def Vals.length   (r:Vals xs us):xs.length=us.length:=Paired.length r
def Vals.get:∀{xs:List V} {us:List Value} {i:Nat} {x:V},Vals xs us->xs[i]?=some x->∃u,us[i]?=some u/\RelV x u
 |_,_,_,_,.nil,e=>by simp at e
 |_,_,0,_,.cons r _,e=>by simp at e;subst e;exact⟨_,rfl,r⟩
 |_,_,i+1,x,.cons _ t,e=>by
  obtain⟨u,h1,h2⟩:=Vals.get (i:=i) (x:=x) t (by simpa using e)
  exact⟨u,by simpa using h1,h2⟩
def Vals.set {x:V}{u:Value}(r:RelV x u):∀{xs:List V} {us:List Value} (i:Nat),Vals xs us->Vals (xs.set i x) (us.set i u)
 |_,_,_,.nil=>.nil
 |_,_,0,.cons _ t=>.cons r t
 |_,_,i+1,.cons q t=>.cons q (Vals.set r i t)
def Vals.append:∀{xs ys:List V} {us ws:List Value},Vals xs us->Vals ys ws->Vals (xs++ys) (us++ws)
 |_,_,_,_,.nil,s=>s
 |_,_,_,_,.cons r t,s=>.cons r (Vals.append t s)
def Vals.take:∀{xs:List V} {us:List Value} (n:Nat),Vals xs us->Vals (xs.take n) (us.take n)
 |_,_,0,_=>.nil
 |_,_,_+1,.nil=>.nil
 |_,_,n+1,.cons r t=>.cons r (Vals.take n t)
def Vals.drop:∀{xs:List V} {us:List Value} (n:Nat),Vals xs us->Vals (xs.drop n) (us.drop n)
 |_,_,0,r=>r
 |_,_,_+1,.nil=>.nil
 |_,_,n+1,.cons _ t=>Vals.drop n t
def RelO:Option V->α5->Prop
 |some v,some u=>RelV v u
 |none,none=>True
 |_,_=>False
def KV {κ:Type}:List (κ×V)->List (κ×Value)->Prop:=Paired fun (p:κ×V) (q:κ×Value)=>p.1=q.1/\RelV p.2 q.2
def kV:Key->V
 |.inl i=>.int i
 |.inr x=>.str x
inductive HO where
 | lst (xs:List V)
 | tup (xs:List V)
 | dK (kvs:List (Key×V))|dT (kvs:List (List Key×V))
 | set (S:Int->Bool) (n:Nat)
 | ins (C dx:Addr) (fs:List (Str×V))
 | own (x:Addr)
 | xd (fs:List (Str×V))
 | met (f x:Addr)
 | rng (lo hi:Int)
 | frz (o:Obj) (u:HO)
 | tbl (ps:Array Value)
 | ext (φ:Heap->Prop)
abbrev Hp:=Addr->Option HO
def upd (H:Hp)(a:Addr)(o:HO):Hp:=fun b=>if b=a then some o else H b
def Ab    : upd H a o a=some o:=by unfold upd;rw[if_pos rfl]
def Ah    (h:b≠a):upd H a o b=H b:=by unfold upd;rw[if_neg h]
def Tn {H:Hp}{a b:Addr}{o u:HO}(h:H a=some o)(h':H b=some u)(d:o≠u):a≠b:=by
 intro e;subst e;rw[h]at h';exact d (js_ h')
def Ap {H:Hp}{a b:Addr}{o:HO}(h:H a=some o)(h':H b=none):a≠b:=by
 intro e;subst e;rw[h]at h';cases h'
section
variable (P:Program) (w:World)
def Bk (H:Hp)(h:Heap)(a:Addr):HO->Prop
 |.lst xs=>xs.length<=sizeLine/\∃(its:List Value) (n:Nat),Vals xs its/\h.get? a=some {cls:=.type "list",data:=.seq its.toArray n}
 |.tup xs=>xs.length<=sizeLine/\∃its:List Value,Vals xs its/\IsTup h a its.toArray
 |.dK kvs=>kvs.length<=sizeLine/\(a==sysModules)=false/\∃vs,KV kvs vs/\h.DictOf (Bf P w) a vs
 |.dT kvs=>kvs.length<=sizeLine/\(a==sysModules)=false/\∃xs:List (List Key×Addr×Value),
   Paired (fun (p:List Key×V) (q:List Key×Addr×Value)=>p.1=q.1/\H q.2.1=some (.tup (p.1.map kV))/\RelV p.2 q.2.2) kvs xs /\
   ∃o es ep,h.get? a=some o/\o.ExactDict/\o.data=.dict es ep/\es.toList=xs.map (entryOfKey (tupleKind (Bf P w)))/\(xs.map (·.1)).Nodup
 |.set S n=>h.SetOf (intKind P w) a S n
 |.ins C dx fs=>H dx=some (.own a)/\fs.length<=1000/\dx≠a/\h.get? a=some (tS C dx) /\
   ∃mA,h.Ns1 dx mA/\(∀f,RelO (fs.lookup f) (mA f))/\vX mA (fs.map (·.1))
 |.own _=>∃o,h.get? a=some o
 |.xd fs=>∃mA,h.Ns1 a mA/\∀f,RelO (fs.lookup f) (mA f)
 |.rng lo hi=>∃t u v,h.get? a=some {cls:=.type "range",data:=.fields #[.int lo t,.int hi u,.int 1 v]}
 |.frz o u=>h.get? a=some o/\Bk H h a u
 |.tbl ps=>h.get? a=some {cls:=.none,data:=.fields ps}
 |.met f x=>h.get? a=some (sR (.ref f) (.ref x))
 |.ext φ=>φ h/\(∃o,h.get? a=some o)/\∀h1 h2:Heap,φ h1->(∀o,h1.get? a=some o->h2.get? a=some o)->φ h2
def HOk (H:Hp)(h:Heap):Prop:=∀a o,H a=some o->Bk P w H h a o
end
section
variable {P:Program} {w:World} {H H':Hp} {h h':Heap} {a:Addr} {o:HO}
def Bk.lt (x:Bk P w H h a o):a<h.objs.size:=by
 cases o with
 |lst xs=>obtain⟨_,_,_,_,e⟩:=x;exact jt_ e
 |tup xs=>obtain⟨_,_,_,p⟩:=x;exact p.lt
 |dK kvs=>obtain⟨_,_,_,_,o,_,_,e,_⟩:=x;exact jt_ e
 |dT kvs=>obtain⟨_,_,_,_,o,_,_,e,_⟩:=x;exact jt_ e
 |set S n=>obtain⟨o,_,_,_,e,_⟩:=x;exact jt_ e
 |ins C dx fs=>obtain⟨_,_,_,e,_⟩:=x;exact jt_ e
 |own y=>obtain⟨_,e⟩:=x;exact jt_ e
 |xd fs=>obtain⟨_,⟨_,_,_,e,_⟩,_⟩:=x;exact jt_ e
 |rng lo hi=>obtain⟨_,_,_,e⟩:=x;exact jt_ e
 |frz ob u=>obtain⟨e,_⟩:=x;exact jt_ e
 |tbl ps=>exact jt_ (show h.get? a=some _ from x)
 |met f y=>exact jt_ (show h.get? a=some _ from x)
 |ext φ=>obtain⟨_,⟨_,e⟩,_⟩:=x;exact jt_ e
def Paired.mapP {α β:Type}{F G:α->β->Prop}:∀{l₁:List α} {l₂:List β},Paired F l₁ l₂->(∀a b,F a b->G a b)->Paired G l₁ l₂
 |_,_,.nil,_=>.nil
 |_,_,.cons r t,f=>.cons (f _ _ r) (Paired.mapP t f)
def Bk.stay (x:Bk P w H h a o)(k:∀b u,(b=a\/H b=some (.own a))->h.get? b=some u->h'.get? b=some u)
  (ho:∀b,H b=some (.own a)->H' b=some (.own a)) (ht:∀b xs,H b=some (.tup xs)->H' b=some (.tup xs)):Bk P w H' h' a o:=by
 induction o with
 |lst xs=>obtain⟨z,its,n,r,e⟩:=x;exact⟨z,its,n,r,k _ _ (.inl rfl) e⟩
 |tup xs=>obtain⟨z,its,r,ob,e,c⟩:=x;exact⟨z,its,r,ob,k _ _ (.inl rfl) e,c⟩
 |dK kvs=>obtain⟨z,y,vs,r,ob,es,ep,e,c⟩:=x;exact⟨z,y,vs,r,ob,es,ep,k _ _ (.inl rfl) e,c⟩
 |dT kvs=>
  obtain⟨z,y,xs,r,ob,es,ep,e,c⟩:=x
  exact⟨z,y,xs,Paired.mapP r fun p q z=>⟨z.1,ht _ _ z.2.1,z.2.2⟩,ob,es,ep,k _ _ (.inl rfl) e,c⟩
 |set S n=>obtain⟨ob,es,ep,t,e,c⟩:=x;exact⟨ob,es,ep,t,k _ _ (.inl rfl) e,c⟩
 |ins C dx fs=>
  obtain⟨d,z,ne,e,mA,⟨od,es,ep,e2,c⟩,r⟩:=x
  exact⟨ho _ d,z,ne,k _ _ (.inl rfl) e,mA,⟨od,es,ep,k _ _ (.inr d) e2,c⟩,r⟩
 |own y=>obtain⟨ob,e⟩:=x;exact⟨ob,k _ _ (.inl rfl) e⟩
 |xd fs=>obtain⟨mA,⟨od,es,ep,e,c⟩,r⟩:=x;exact⟨mA,⟨od,es,ep,k _ _ (.inl rfl) e,c⟩,r⟩
 |rng lo hi=>obtain⟨t,u,v,e⟩:=x;exact⟨t,u,v,k _ _ (.inl rfl) e⟩
 |frz ob u ih=>obtain⟨e,q⟩:=x;exact⟨k _ _ (.inl rfl) e,ih q⟩
 |tbl ps=>
  have e:h.get? a=some {cls:=.none,data:=.fields ps}:=x
  show h'.get? a=some {cls:=.none,data:=.fields ps}
  exact k a _ (.inl rfl) e
 |met f y=>
  have e:h.get? a=some (sR (.ref f) (.ref y)):=x
  show h'.get? a=some (sR (.ref f) (.ref y))
  exact k a _ (.inl rfl) e
 |ext φ=>obtain⟨p,⟨o,e⟩,st⟩:=x;exact⟨st _ _ p fun o q=>k _ _ (.inl rfl) q,⟨o,k _ _ (.inl rfl) e⟩,st⟩
def HOk.lt (x:HOk P w H h)(e:H a=some o):a<h.objs.size:=(x a o e).lt
def HOk.fresh (x:HOk P w H h)(e:h.objs.size<=a):H a=none:=by
 cases q:H a with
 |none=>rfl
 |some u=>exact absurd (jA_ (x.lt q) e) (qb_ _)
def HOk.kept (x:HOk P w H h)(k:∀b u,h.get? b=some u->h'.get? b=some u):HOk P w H h':=fun a o e=>
 (x a o e).stay (fun b u _ q=>k b u q) (fun _ q=>q) fun _ _ q=>q
def HOk.laid (x:HOk P w H h)(k:∀b u,h.get? b=some u->h'.get? b=some u)(hp:h.objs.size<=a)(new:Bk P w (upd H a o) h' a o):HOk P w (upd H a o) h':=fun b u e=>by
 have hn:=x.fresh hp
 by_cases hb:b=a
 ·subst hb;rw[Ab]at e;cases e;exact new
 ·rw[Ah hb]at e
  exact (x b u e).stay (fun c v _ q=>k c v q) (fun c q=>by rw[Ah (Ap q hn)];exact q) fun c xs q=>by rw[Ah (Ap q hn)];exact q
end
def Rd (H:Hp)(a:Addr)(u:HO):Prop:=H a=some u \/ ∃o,H a=some (.frz o u)
def Rd.ok       (r:Rd H a u)(x:HOk P w H h):Bk P w H h a u:=by
 rcases r with r|⟨o,r⟩
 ·exact x a u r
 ·obtain⟨_,q⟩:=x a _ r
  exact q
def Mut:Option HO->Prop
 |some (.lst _)=>True
 |some (.dK _)=>True
 |some (.dT _)=>True
 |some (.set _ _)=>True
 |some (.ins _ _ _)=>True
 |some (.ext _)=>True
 |_=>False
section
variable {P:Program} {w:World} {H:Hp} {h h':Heap} {x e:Addr} {o':HO}
def HOk.write (ok:HOk P w H h)(mu:Mut (H x))(he:e=x\/H e=some (.own x))(k:∀b u,b≠e->h.get? b=some u->h'.get? b=some u)(jz:∃u,h'.get? e=some u)
  (new:Bk P w (upd H x o') h' x o'):HOk P w (upd H x o') h':=fun b u q=>by
 have nown:∀c y,H c=some (.own y)->c≠x:=fun c y r z=>by subst z;rw[r]at mu;exact mu
 have ntup:∀c xs,H c=some (.tup xs)->c≠x:=fun c xs r z=>by subst z;rw[r]at mu;exact mu
 by_cases hb:b=x
 ·subst hb;rw[Ab]at q;cases q;exact new
 ·rw[Ah hb]at q
  by_cases jT:b=e
  ·have q':H b=some (.own x):=by
    rcases he with z|z
    ·exact absurd (jT.trans z) hb
    ·rw[jT];exact z
   rw[q]at q';cases q'
   obtain⟨v,hv⟩:=jz
   exact⟨v,by rw[jT];exact hv⟩
  ·refine (ok b u q).stay (fun c v hc r=>k c v ?_ r) (fun c r=>by rw[Ah (nown c b r)];exact r) fun c xs r=>by rw[Ah (ntup c xs r)];exact r
   rcases hc with rfl|hc
   ·exact jT
   ·rintro rfl
    rcases he with z|z
    ·exact nown c b hc z
    ·rw[hc]at z;cases z;exact hb rfl
end
structure Un (fs ex:List Addr)(H H':Hp)(h h':Heap):Prop where
 keep:∀b o,h.get? b=some o->H b=none->b∉fs->b∉ex->h'.get? b=some o
 slot:∀b o,h.get? b=some o->H b=none->b∈fs->b∉ex->∃sl,h'.get? b=some {o with slots:=sl}
 free:∀b o,h.get? b=some o->H b=none->b∉ex->H' b=none
 there:∀b o,h.get? b=some o->b∉ex->∃o',h'.get? b=some o'
 tups:∀b xs,H b=some (.tup xs)->H' b=some (.tup xs)
 frzs:∀b o u,H b=some (.frz o u)->H' b=some (.frz o u)
 tbls:∀b ps,H b=some (.tbl ps)->∃more,H' b=some (.tbl (ps++more))
section
variable {fs fs' ex ex':List Addr} {H H1 H2:Hp} {h h1 h2 h':Heap} {a x e:Addr} {o:HO}
def Un.any (u:Un fs ex H H1 h h1)   (q:h.get? b=some ob)(n:H b=none)(hx:b∉ex):∃sl,h1.get? b=some {ob with slots:=sl}:=by
 by_cases hb:b∈fs
 ·exact u.slot b ob q n hb hx
 ·exact⟨ob.slots,u.keep b ob q n hb hx⟩
def Un.kept (k:∀b u,h.get? b=some u->h'.get? b=some u):Un fs ex H H h h' :=
 ⟨fun b ob q _ _ _=>k b ob q,fun b ob q _ _ _=>⟨ob.slots,k b ob q⟩,fun _ _ _ n _=>n,fun b ob q _=>⟨ob,k b ob q⟩,fun _ _ q=>q,fun _ _ _ q=>q,fun _ ps q=>⟨#[],by rw[q];simp⟩⟩
def Un.refl:Un fs ex H H h h:=Un.kept fun _ _ q=>q
def Un.laid (k:∀b u,h.get? b=some u->h'.get? b=some u)(hp:h.objs.size<=a)(hn:H a=none):Un fs ex H (upd H a o) h h' where
 keep:=fun b u q _ _ _=>k b u q
 slot:=fun b u q _ _ _=>⟨u.slots,k b u q⟩
 free:=fun b u q n _=>by rw[Ah (jO_ (jA_ (jt_ q) hp))];exact n
 there:=fun b u q _=>⟨u,k b u q⟩
 tups:=fun b xs q=>by rw[Ah (Ap q hn)];exact q
 frzs:=fun b u xs q=>by rw[Ah (Ap q hn)];exact q
 tbls:=fun b ps q=>⟨#[],by rw[Ah (Ap q hn),q];simp⟩
def Un.write (mu:Mut (H x))(he:e=x\/H e=some (.own x))(k:∀b u,b≠e->h.get? b=some u->h'.get? b=some u)(jz:∃u,h'.get? e=some u):Un fs ex H (upd H x o) h h':=by
 have hx:∀b,H b=none->b≠x:=fun b n z=>by subst z;rw[n]at mu;exact mu
 have hb:∀b,H b=none->b≠e:=fun b n z=>by
  subst z
  rcases he with r|r
  ·exact hx b n r
  ·rw[n]at r;cases r
 have hm:∀b u,H b=some u->¬ Mut (some u)->b≠x:=fun b u q nm z=>by subst z;rw[q]at mu;exact nm mu
 refine⟨fun b u q n _ _=>k b u (hb b n) q,fun b u q n _ _=>⟨u.slots,k b u (hb b n) q⟩,fun b u q n _=>by rw[Ah (hx b n)];exact n,fun b u q _=>?_,
  fun b xs q=>by rw[Ah (hm b _ q fun z=>z)];exact q,fun b u xs q=>by rw[Ah (hm b _ q fun z=>z)];exact q,fun b ps q=>⟨#[],by rw[Ah (hm b _ q fun z=>z),q];simp⟩⟩
 by_cases jT:b=e
 ·subst jT;exact jz
 ·exact⟨u,k b u jT q⟩
end
def trk (h:Heap)(H:Hp):List Addr:=(rY h.objs.size).filter fun a=>(H a).isSome
def hidT (h:Heap)(H:Hp):Heap:=xq h (trk h H)
def Ol (h:Heap)(H:Hp):(hidT h H).objs.size=h.objs.size:=wD _ _
def GR     (e:h.get? b=some o)(n:H b=none):(hidT h H).get? b=some o:=
 wJ _ e fun hm=>by
  have q:(H b).isSome=true:=(xo_.mp hm).2
  rw[n]at q;simp at q
def To     (e:(hidT h H).get? b=some o):h.get? b=some o/\H b=none:=by
 have e':h.get? b=some o:=wO (trk h H) e
 refine⟨e',?_⟩
 cases q:H b with
 |none=>rfl
 |some x=>
  have hm:b∈trk h H:=xo_.mpr ⟨jC_.mpr (jt_ e'),by simp[q]⟩
  have z:(hidT h H).get? b=none:=wF (trk h H) hm
  rw[z]at e;cases e
def Tp (g h:Heap)(L:Addr):α7:=(rY h.objs.size).filterMap fun a=>if a=L\/(g.get? a).isSome=true then none else (h.get? a).map fun o=>(a,o)
def rest (g h:Heap)(L d:Addr):α7:=(Tp g h L).filter fun p=>decide (p.1≠d)
end L2
namespace L2
open PySem PySem.Spec PyProof.Rows
structure Mod (K:α3)(mg:Str->α5)(base:Heap):Prop where
 kin:K.In base
 glob:base.Ns mainGlobals mg
 blt:∃mb,base.Ns builtinsNs mb/\∀x:Str,x ≠ "__name__" -> mb x=bootBuiltins x
 nolimit:base.NoLimit
structure Cx where
 prog:Program
 w:World
 K:α3
 mg:Str->α5
 base:Heap
 A:Around
 N:List Str
 s₀:Shared
 H₀:Hp
 env:Env
 outer:List Env
 stack:List Env
 ex:List Addr
 fn:Str->Bool
 calm:Bool
 pn:α7
 xe:Value->Shared->Prop
def frs (l:List Env):List Addr:=l.filterMap (·.frame)
abbrev Cx.fs (X:Cx):List Addr:=frs X.outer
def Vis (sc:Scope)(x:Str):Prop:=sc.names.lookup x=some .local\/sc.names.lookup x=some .cell\/sc.names.lookup x=some .free
def Loc (sc:Scope)(x:Str):Prop:=sc.names.lookup x=some .local\/sc.names.lookup x=some .cell
def Look (env:Env)(h:Heap)(m:Str->α5)(x:Str)(u:Value):Prop:=
 (env.kindOf x=some .local/\m x=some u)\/((env.kindOf x=some .cell\/env.kindOf x=some .free)/\∃c,env.cells.lookup x=some c/\h.IsCell c (some u))
structure Cx.Ok (X:Cx):Prop where
 mod:Mod X.K X.mg X.base
 kind:X.env.scope.kind=.function
 glob:X.env.globals=mainGlobals
 blt:X.env.builtins=builtinsNs
 above:X.s₀.heap.objs.size<=X.env.locals
 inj:∀x y c,X.env.cells.lookup x=some c->X.env.cells.lookup y=some c->x=y
 has:∀x,(X.env.kindOf x=some .cell\/X.env.kindOf x=some .free)->∃c,X.env.cells.lookup x=some c
 cab:∀x c,X.fn x=true->X.env.cells.lookup x=some c->X.s₀.heap.objs.size<=c
 hd:X.calm=true->X.A.handled=none
 frames:X.A.frames=some X.stack
 stk:X.stack=X.outer\/(X.stack=X.env::X.outer/\X.env.frame=some X.env.locals)
 exf:∀b∈X.ex,b≠X.env.locals/\∀x c,X.env.cells.lookup x=some c->c≠b
 bs:∀b o,X.base.get? b=some o->X.s₀.heap.get? b=some o/\X.H₀ b=none
 bsz:X.base.objs.size<=X.s₀.heap.objs.size
 noex:∀b o,X.base.get? b=some o->b∉X.ex
 exfs:∀b∈X.ex,b∉X.fs
 funs:X.s₀.heap.FunFrames X.base X.outer
 frf:∀b∈X.fs,X.H₀ b=none
structure Inv (X:Cx)(ae:α7)(σ:List (Option V))(H:Hp)(s:Shared):Prop where
 ok:X.Ok
 os:s.os=X.s₀.os
 bare:AllBare s.gens
 base:Un X.fs X.ex X.H₀ H X.s₀.heap s.heap
 loc:∃m,s.heap.Ns X.env.locals m/\∀(i:Nat) (x:Str) (v:V),X.N[i]?=some x->σ[i]?=some (some v)->Vis X.env.scope x->∃u,RelV v u/\Look X.env s.heap m x u
 cell:∀x c,X.env.cells.lookup x=some c->∃v,s.heap.IsCell c v
 free:H X.env.locals=none
 freeC:∀x c,X.env.cells.lookup x=some c->H c=none
 pin:∀p∈X.pn++ae,s.heap.get? p.1=some p.2/\H p.1=none/\p.1≠X.env.locals/\p.1∉X.fs/\∀v,p.2.data ≠ .cell v
 hok:HOk X.prog X.w H s.heap
 len:σ.length=X.N.length
section
variable {X:Cx} {ae:α7} {σ:List (Option V)} {H H':Hp} {s:Shared} {h':Heap}
def Cx.Ok.nofr (ok:X.Ok)   (e:X.base.get? b=some o):b∉X.fs:=fun hb=>by
 have:=(ok.funs.mem hb).1
 rw[e]at this;cases this
def Inv.bs (I:Inv X ae σ H s):∀b o,X.base.get? b=some o->s.heap.get? b=some o/\H b=none:=fun b o e=>
 ⟨I.base.keep b o (I.ok.bs b o e).1 (I.ok.bs b o e).2 (I.ok.nofr e) (I.ok.noex b o e),I.base.free b o (I.ok.bs b o e).1 (I.ok.bs b o e).2 (I.ok.noex b o e)⟩
def Inv.bk (I:Inv X ae σ H s):∀b o,X.base.get? b=some o->s.heap.get? b=some o:=fun b o e=>(I.bs b o e).1
def Inv.mod (I:Inv X ae σ H s):Mod X.K X.mg X.base:=I.ok.mod
def Inv.kIn (I:Inv X ae σ H s):X.K.In s.heap:=I.ok.mod.kin.keeps I.bk
def Inv.lt (I:Inv X ae σ H s):X.env.locals<s.heap.objs.size:=let ⟨_,hn,_⟩:=I.loc;hn.lt
def Inv.sz (I:Inv X ae σ H s):X.s₀.heap.objs.size<=s.heap.objs.size:=qt_ I.ok.above (zj_ I.lt)
def Inv.nofs (I:Inv X ae σ H s)  (h:s.heap.objs.size<=a):a∉X.fs:=fun hb=>by
 obtain⟨_,o,ho,_⟩:=I.ok.funs.mem hb
 exact absurd (jA_ (jt_ ho) (qt_ I.sz h)) (qb_ _)
def Inv.cne (I:Inv X ae σ H s):∀x c,X.env.cells.lookup x=some c->c≠X.env.locals:=fun x c e z=>by
 obtain⟨v,o,ho,hd⟩:=I.cell x c e
 obtain⟨m,⟨o',es,ep,iR,dI,_⟩,_⟩:=I.loc
 rw[z,iR]at ho;cases ho;rw[dI]at hd;cases hd
def Inv.funs (I:Inv X ae σ H s):s.heap.FunFrames X.base X.outer:=by
 have all:∀(l:List Env),(∀b∈frs l,b∈X.fs)->X.s₀.heap.FunFrames X.base l->s.heap.FunFrames X.base l:=by
  intro l
  induction l with
  |nil=>intro _ _;trivial
  |cons env r ih=>
   intro hs hl
   obtain⟨hk,⟨L,o,hf,hn,ho,hd⟩,hr⟩:=hl
   have hL:L∈X.fs:=hs L (by unfold frs;rw[zU_,hf];exact jo_)
   obtain⟨sl,e⟩:=I.base.slot L o ho (I.ok.frf L hL) hL fun z=>I.ok.exfs L z hL
   exact⟨hk,⟨L,_,hf,hn,e,hd⟩,ih (fun b hb=>hs b (by unfold frs;rw[zU_,hf];exact jm_ _ hb)) hr⟩
 exact all X.outer (fun _ hb=>hb) I.ok.funs
def Inv.stack (I:Inv X ae σ H s):s.heap.FunFrames X.base X.stack:=by
 rcases I.ok.stk with e|⟨e,hf⟩
 ·rw[e];exact I.funs
 ·rw[e]
  obtain⟨m,hn,_⟩:=I.loc
  refine .cons (by rw[I.ok.kind];decide) hf hn ?_ I.funs
  exact Heap.get?_none_of_le (qt_ I.ok.bsz I.ok.above)
def Inv.stkSub (I:Inv X ae σ H s):∀b∈frs X.stack,b∈X.env.locals::X.fs:=fun b hb=>by
 rcases I.ok.stk with e|⟨e,hf⟩
 ·rw[e]at hb;exact jm_ _ hb
 ·rw[e]at hb
  unfold frs at hb
  rw[zU_,hf]at hb
  exact hb
def Inv.stkFree (I:Inv X ae σ H s):∀b∈frs X.stack,H b=none:=fun b hb=>by
 rcases jD_.mp (I.stkSub b hb) with e|hb
 ·rw[e];exact I.free
 ·obtain⟨_,o,ho,_⟩:=I.ok.funs.mem hb
  exact I.base.free b o ho (I.ok.frf b hb) fun z=>I.ok.exfs b z hb
def Inv.step {g':Array GenState}{t':Nat}{d':Drawn}{ch:List Addr}(I:Inv X ae σ H s)
  (ix:∀b∈ch,(b∈X.ex\/X.s₀.heap.objs.size<=b)/\b≠X.env.locals/\(∀x c,X.env.cells.lookup x=some c->c≠b)/\∀p∈X.pn++ae,p.1≠b)
  (keep:∀b o,b≠X.env.locals->b∉X.fs->b∉ch->s.heap.get? b=some o->H b=none->h'.get? b=some o)
  (slot:∀b o,b≠X.env.locals->b∈X.fs->b∉ch->s.heap.get? b=some o->H b=none->∃sl,h'.get? b=some {o with slots:=sl}) (free:∀b o,b∉ch->s.heap.get? b=some o->H b=none->H' b=none)
  (there:∀b o,b∉ch->s.heap.get? b=some o->∃o',h'.get? b=some o')
  (tups:∀b xs,H b=some (.tup xs)->H' b=some (.tup xs)) (frzs:∀b o u,H b=some (.frz o u)->H' b=some (.frz o u)) (tbls:∀b ps,H b=some (.tbl ps)->∃more,H' b=some (.tbl (ps++more)))
  (ns:∀m,s.heap.Ns X.env.locals m->h'.Ns X.env.locals m) (hok:HOk X.prog X.w H' h') (hg:AllBare g'):
  Inv X ae σ H' {s with heap:=h',gens:=g',drawn:=d',toks:=t' }:=by
 have neL:∀b o,X.s₀.heap.get? b=some o->b≠X.env.locals:=fun b o e=>jO_ (jA_ (jt_ e) I.ok.above)
 have og:∀b o,X.s₀.heap.get? b=some o->b∉X.ex->b∉ch:=fun b o e hx hb=>by
  rcases (ix b hb).1 with z|z
  ·exact hx z
  ·exact absurd (jA_ (jt_ e) z) (qb_ _)
 have cellK:∀x c,X.env.cells.lookup x=some c->∀v,s.heap.IsCell c v->h'.IsCell c v:=fun x c e v ⟨o,ho,hd⟩=>by
  have gf:c∉ch:=fun z=>(ix c z).2.2.1 x c e rfl
  by_cases hc:c∈X.fs
  ·obtain⟨sl,q⟩:=slot c o (I.cne x c e) hc gf ho (I.freeC x c e)
   exact⟨_,q,hd⟩
  ·exact⟨o,keep c o (I.cne x c e) hc gf ho (I.freeC x c e),hd⟩
 refine⟨I.ok,I.os,hg,⟨fun b o e n hb hx=>?_,fun b o e n hb hx=>?_,fun b o e n hx=>?_,fun b o e hx=>?_,fun b xs e=>tups b xs (I.base.tups b xs e),fun b o xs e=>frzs b o xs (I.base.frzs b o xs e),fun b ps e=>?_⟩,?_,fun x c e=>?_,?_,fun x c e=>?_,fun p hp=>?_,hok,I.len⟩
 ·exact keep b o (neL b o e) hb (og b o e hx) (I.base.keep b o e n hb hx) (I.base.free b o e n hx)
 ·obtain⟨sl,e1⟩:=I.base.slot b o e n hb hx
  obtain⟨pH,e2⟩:=slot b _ (neL b o e) hb (og b o e hx) e1 (I.base.free b o e n hx)
  exact⟨pH,e2⟩
 ·obtain⟨o',e1⟩:=I.base.there b o e hx
  exact free b o' (og b o e hx) e1 (I.base.free b o e n hx)
 ·obtain⟨o',e1⟩:=I.base.there b o e hx
  exact there b o' (og b o e hx) e1
 ·obtain⟨m1,e1⟩:=I.base.tbls b ps e
  obtain⟨m2,e2⟩:=tbls b _ e1
  exact⟨m1++m2,by rw[e2,Array.append_assoc]⟩
 ·obtain⟨m,hn,hl⟩:=I.loc
  refine⟨m,ns m hn,fun i x v e1 e2 e3=>?_⟩
  obtain⟨u,r,l⟩:=hl i x v e1 e2 e3
  refine⟨u,r,?_⟩
  rcases l with l|⟨k,c,e,z⟩
  ·exact .inl l
  ·exact .inr ⟨k,c,e,cellK x c e _ z⟩
 ·obtain⟨v,z⟩:=I.cell x c e
  exact⟨v,cellK x c e v z⟩
 ·obtain⟨m,⟨o,_,_,ho,_⟩,_⟩:=I.loc
  exact free _ o (fun z=>(ix _ z).2.1 rfl) ho I.free
 ·obtain⟨v,o,ho,hd⟩:=I.cell x c e
  exact free c o (fun z=>(ix c z).2.2.1 x c e rfl) ho (I.freeC x c e)
 ·obtain⟨e,n,ne,nf,d⟩:=I.pin p hp
  have gf:p.1∉ch:=fun z=>(ix p.1 z).2.2.2 p hp rfl
  exact⟨keep p.1 p.2 ne nf gf e n,free p.1 p.2 gf e n,ne,nf,d⟩
def Inv.un  (I:Inv X ae σ H s)(u:Un X.fs [] H H' s.heap h')(hok:HOk X.prog X.w H' h'):Inv X ae σ H' {s with heap:=h',toks:=t' }:=by
 obtain⟨m,⟨o,es,ep,ho,r⟩,_⟩:=id I.loc
 obtain⟨sl,hL⟩:=u.any ho I.free (by simp)
 exact I.step (g':=s.gens) (d':=s.drawn) (ch:=[]) (fun _ z=>nomatch z) (fun b o _ hb _ e n=>u.keep b o e n hb (by simp)) (fun b o _ hb _ e n=>u.slot b o e n hb (by simp)) (fun b o _ e n=>u.free b o e n (by simp)) (fun b o _ e=>u.there b o e (by simp)) u.tups u.frzs u.tbls (fun m' hm=>by
  obtain⟨o',pI,pJ,iR,r'⟩:=hm
  rw[ho]at iR;cases iR
  exact⟨_,pI,pJ,hL,r'⟩) hok I.bare
def Inv.call     (I:Inv X ae σ H s)(u:Un (frs X.stack) ch H H' s.heap h')(hok:HOk X.prog X.w H' h')(hg:AllBare g')
  (ix:∀b∈ch,(b∈X.ex\/X.s₀.heap.objs.size<=b)/\b≠X.env.locals/\(∀x c,X.env.cells.lookup x=some c->c≠b)/\∀p∈X.pn++ae,p.1≠b):
  Inv X ae σ H' {s with heap:=h',gens:=g',drawn:=d',toks:=t' }:=by
 obtain⟨m,⟨o,es,ep,ho,r⟩,_⟩:=id I.loc
 obtain⟨sl,hL⟩:=u.any ho I.free fun z=>(ix _ z).2.1 rfl
 exact I.step (ch:=ch) ix (fun b o hL hb hc e n=>u.keep b o e n (fun z=>(jD_.mp (I.stkSub b z)).elim hL hb) hc) (fun b o _ _ hc e n=>u.any e n hc) (fun b o hc e n=>u.free b o e n hc) (fun b o hc e=>u.there b o e hc) u.tups u.frzs u.tbls (fun m' hm=>by
  obtain⟨o',pI,pJ,iR,r'⟩:=hm
  rw[ho]at iR;cases iR
  exact⟨_,pI,pJ,hL,r'⟩) hok hg
def Inv.turned   (I:Inv X ae σ H s)(k:∀b o,b≠it->s.heap.get? b=some o->h'.get? b=some o)(hn:H it=none)(hL:it≠X.env.locals)
  (h1:it∈X.ex\/X.s₀.heap.objs.size<=it) (h2:∀x c,X.env.cells.lookup x=some c->c≠it) (h3:∀p∈X.pn++ae,p.1≠it):Inv X ae σ H {s with heap:=h',toks:=t' }:=by
 have nit:∀b u,H b=some u->b≠it:=fun b u e z=>by rw[z,hn]at e;cases e
 refine I.step (g':=s.gens) (d':=s.drawn) (ch:=[it]) (fun b hb=>?_) (fun b o _ _ hc e _=>k b o (fun z=>hc (by simp[z])) e) (fun b o _ _ hc e _=>⟨o.slots,k b o (fun z=>hc (by simp[z])) e⟩) (fun _ _ _ _ n=>n)
  (fun b o hc e=>⟨o,k b o (fun z=>hc (by simp[z])) e⟩) (fun _ _ e=>e) (fun _ _ _ e=>e) (fun b ps e=>⟨#[],by rw[e];simp⟩) (fun m hm=>?_) (fun b u e=>?_) I.bare
 ·have e:b=it:=by simpa using hb
  subst e
  exact⟨h1,hL,h2,h3⟩
 ·obtain⟨o,es,ep,ho,r⟩:=hm
  exact⟨o,es,ep,k _ o (qp_ hL) ho,r⟩
 ·refine (I.hok b u e).stay (fun c v hc q=>k c v ?_ q) (fun _ q=>q) fun _ _ q=>q
  rcases hc with z|z
  ·rw[z];exact nit b u e
  ·exact nit c _ z
def Inv.tok (I:Inv X ae σ H s)(t:Nat):Inv X ae σ H {s with toks:=t}:=I.un (h':=s.heap) (t':=t) Un.refl I.hok
def Inv.kept  (I:Inv X ae σ H s)(k:∀b u,s.heap.get? b=some u->h'.get? b=some u):Inv X ae σ H {s with heap:=h',toks:=t' }:=I.un (Un.kept k) (I.hok.kept k)
def Inv.laid    (I:Inv X ae σ H s)(k:∀b u,s.heap.get? b=some u->h'.get? b=some u)(hp:s.heap.objs.size<=a)(new:Bk X.prog X.w (upd H a o) h' a o):
  Inv X ae σ (upd H a o) {s with heap:=h',toks:=t' }:=I.un (Un.laid k hp (I.hok.fresh hp)) (I.hok.laid k hp new)
def Inv.write    (I:Inv X ae σ H s)(mu:Mut (H x))(he:e=x\/H e=some (.own x))(k:∀b u,b≠e->s.heap.get? b=some u->h'.get? b=some u)(jz:∃u,h'.get? e=some u)
  (new:Bk X.prog X.w (upd H x o) h' x o):Inv X ae σ (upd H x o) {s with heap:=h',toks:=t' }:=I.un (Un.write mu he k jz) (I.hok.write mu he k jz new)
def Inv.pins_of  (I:Inv X ae σ H s)(h:∀p∈br,s.heap.get? p.1=some p.2/\H p.1=none/\p.1≠X.env.locals/\p.1∉X.fs/\∀v,p.2.data ≠ .cell v):Inv X br σ H s:=
 ⟨I.ok,I.os,I.bare,I.base,I.loc,I.cell,I.free,I.freeC,fun p hp=>(jw_.mp hp).elim (fun z=>I.pin p (j6_ _ z)) (h p),I.hok,I.len⟩
def Mq {N:List Str}(hN:N.Nodup){i j:Nat}{x:Str}(a:N[i]?=some x)(b:N[j]?=some x):i=j:=by
 obtain⟨h1,e1⟩:=jb_.mp a
 obtain⟨h2,e2⟩:=jb_.mp b
 exact (xT_ hN).mp (e1.trans e2.symm)
def Hf         (I:Inv X ae σ H s)(hN:X.N.Nodup)(hi:X.N[i]?=some x)(hx:Loc X.env.scope x)(r:RelV v u)
  (h:∀s',Inv X ae (σ.set i (some v)) H s'->(∃a,Heap.SameBut a s.heap s'.heap/\(a=X.env.locals\/X.env.cells.lookup x=some a))->Q () s') (hf:X.fn x=true\/X.env.scope.names.lookup x=some .local:=by first|exact .inl rfl|exact .inr rfl|assumption):wpAny M A (storeName X.env x u) Q E s:=by
 obtain⟨m,hn,hl⟩:=id I.loc
 have jU:(X.env.scope.kind == .class||(X.env.scope.kind == .module&&X.env.locals != X.env.globals))=false:=by rw[I.ok.kind];rfl
 have hiσ:i<σ.length:=by rw[I.len];exact (jb_.mp hi).1
 have cne:=I.cne
 have tracked:∀{a:Addr} {h':Heap},(∃o,s.heap.get? a=some o/\H a=none)->Heap.SameBut a s.heap h'->HOk X.prog X.w H h':=fun {a h'} ha hs b ob e=>by
  obtain⟨_,_,hfree⟩:=ha
  refine (I.hok b ob e).stay (fun c w' hc q=>(hs.2 c ?_).trans q) (fun _ q=>q) fun _ _ q=>q
  rintro rfl
  rcases hc with rfl|hc
  ·rw[hfree]at e;cases e
  ·rw[hfree]at hc;cases hc
 rcases hx with hk|hk
 ·refine wpAny_storeName_local hk hn (fun h' gr hs=>?_) jU
  obtain⟨oL,_,_,pK,_⟩:=id hn
  refine h _ ⟨I.ok,I.os,I.bare,⟨fun b o e n hb hx=>?_,fun b o e n hb hx=>?_,I.base.free,fun b o e hx=>?_,I.base.tups,I.base.frzs,I.base.tbls⟩,⟨_,gr,fun j y v' e1 e2 e3=>?_⟩,fun y c e=>?_,I.free,I.freeC,fun p hp=>?_,tracked ⟨oL,pK,I.free⟩ hs,by simpa using I.len⟩ ⟨_,hs,.inl rfl⟩
  ·exact (hs.2 b (jO_ (jA_ (jt_ e) I.ok.above))).trans (I.base.keep b o e n hb hx)
  ·obtain⟨sl,e1⟩:=I.base.slot b o e n hb hx
   exact⟨sl,(hs.2 b (jO_ (jA_ (jt_ e) I.ok.above))).trans e1⟩
  ·obtain⟨o',e1⟩:=I.base.there b o e hx
   exact⟨o',(hs.2 b (jO_ (jA_ (jt_ e) I.ok.above))).trans e1⟩
  ·by_cases hj:j=i
   ·subst hj
    rw[hi]at e1;cases e1
    rw[qT_ hiσ]at e2
    cases e2
    exact⟨u,r,.inl ⟨hk,by simp⟩⟩
   ·rw[xi_ (qp_ hj)]at e2
    obtain⟨u',r',q⟩:=hl j y v' e1 e2 e3
    refine⟨u',r',?_⟩
    rcases q with ⟨k,e⟩|⟨k,c,e,z⟩
    ·refine .inl ⟨k,?_⟩
     have:y≠x:=fun e=>hj (Mq hN e1 (e ▸ hi))
     simp[this,e]
    ·exact .inr ⟨k,c,e,z.sameBut hs (cne y c e)⟩
  ·obtain⟨w',z⟩:=I.cell y c e
   exact⟨w',z.sameBut hs (cne y c e)⟩
  ·obtain⟨e,n,ne,nf,d⟩:=I.pin p hp
   exact⟨(hs.2 p.1 ne).trans e,n,ne,nf,d⟩
 ·have pL:X.fn x=true:=by
   rcases hf with z|z
   ·exact z
   ·rw[z]at hk;cases hk
  obtain⟨c,hc⟩:=I.ok.has x (.inl hk)
  obtain⟨w',z⟩:=I.cell x c hc
  refine wpAny_storeName_cell I.ok.kind hk hc z (fun h' jA hs=>?_)
  obtain⟨oc,ee,hocd⟩:=id z
  refine h {s with heap:=h' } ⟨I.ok,I.os,I.bare,⟨fun b o e n hb hx=>?_,fun b o e n hb hx=>?_,I.base.free,fun b o e hx=>?_,I.base.tups,I.base.frzs,I.base.tbls⟩,⟨m,hn.sameBut hs (qp_ (cne x c hc)),fun j y v' e1 e2 e3=>?_⟩,fun y c' e=>?_,I.free,I.freeC,fun p hp=>?_,tracked ⟨oc,ee,I.freeC x c hc⟩ hs,by simpa using I.len⟩ ⟨c,hs,.inr hc⟩
  ·exact (hs.2 b (jO_ (jA_ (jt_ e) (I.ok.cab x c pL hc)))).trans (I.base.keep b o e n hb hx)
  ·obtain⟨sl,e1⟩:=I.base.slot b o e n hb hx
   exact⟨sl,(hs.2 b (jO_ (jA_ (jt_ e) (I.ok.cab x c pL hc)))).trans e1⟩
  ·obtain⟨o',e1⟩:=I.base.there b o e hx
   exact⟨o',(hs.2 b (jO_ (jA_ (jt_ e) (I.ok.cab x c pL hc)))).trans e1⟩
  ·by_cases hj:j=i
   ·subst hj
    rw[hi]at e1;cases e1
    rw[qT_ hiσ]at e2
    cases e2
    exact⟨u,r,.inr ⟨.inl hk,c,hc,jA⟩⟩
   ·rw[xi_ (qp_ hj)]at e2
    obtain⟨u',r',q⟩:=hl j y v' e1 e2 e3
    refine⟨u',r',?_⟩
    rcases q with q|⟨k,c',e,z'⟩
    ·exact .inl q
    ·refine .inr ⟨k,c',e,z'.sameBut hs ?_⟩
     rintro rfl
     exact hj (Mq hN e1 (I.ok.inj _ _ _ e hc ▸ hi))
  ·by_cases hcc:c'=c
   ·subst hcc;exact⟨_,jA⟩
   ·obtain⟨w2,z2⟩:=I.cell y c' e
    exact⟨w2,z2.sameBut hs hcc⟩
  ·obtain⟨e,n,ne,nf,d⟩:=I.pin p hp
   refine⟨(hs.2 p.1 ?_).trans e,n,ne,nf,d⟩
   intro q
   rw[q,ee]at e
   have q':oc=p.2:=js_ e
   exact d w' (by rw[<-q'];exact hocd)
def Jk         (I:Inv X ae σ H s)(hN:X.N.Nodup)(hi:X.N[i]?=some x)(hx:Loc X.env.scope x)(r:RelV v u)
  (h:∀s',Inv X ae (σ.set i (some v)) H s'->Q () s') (hf:X.fn x=true\/X.env.scope.names.lookup x=some .local:=by first|exact .inl rfl|exact .inr rfl|assumption):wpAny M A (storeName X.env x u) Q E s:=
 Hf I hN hi hx r (fun s' I' _=>h s' I') hf
def Inv.call'   (I:Inv X ae σ H s)(ho:s'.os=s.os)(u:Un (frs X.stack) ch H H' s.heap s'.heap)(hok:HOk X.prog X.w H' s'.heap)(hg:AllBare s'.gens)
  (ix:∀b∈ch,(b∈X.ex\/X.s₀.heap.objs.size<=b)/\b≠X.env.locals/\(∀x c,X.env.cells.lookup x=some c->c≠b)/\∀p∈X.pn++ae,p.1≠b):Inv X ae σ H' s':=by
 obtain⟨h',g',d',t',o'⟩:=s'
 have e:o'=s.os:=ho
 subst e
 exact I.call (g':=g') (t':=t') (d':=d') u hok hg ix
end
abbrev XK:=Value->Option Addr->Hp->Prop
abbrev St:=List (Option V)
abbrev VK:=V->Hp->Prop
abbrev TE:=St->Hp->VK->Prop
abbrev TT:=St->Hp->(Bool->Hp->Prop)->Prop
abbrev TA:=St->Hp->(List V->Hp->Prop)->Prop
structure Ends where
 nx:St->Hp->Prop
 rt:VK
 bk:St->Hp->Prop:=fun _ _=>False
 ct:St->Hp->Prop:=fun _ _=>False
abbrev TS:=Ends->St->Hp->Prop
def EP (X:Cx)(ae:α7)(σ:St)(Q:VK)(u:Value)(s':Shared):Prop:=∃v H',Inv X ae σ H' s'/\RelV v u/\Q v H'
def TP (X:Cx)(ae:α7)(σ:St)(Q:Bool->Hp->Prop)(b:Bool)(s':Shared):Prop:=∃H',Inv X ae σ H' s'/\Q b H'
def AP (X:Cx)(ae:α7)(σ:St)(Q:List V->Hp->Prop)(us:List Value)(s':Shared):Prop:=∃vs H',Inv X ae σ H' s'/\Vals vs us/\Q vs H'
def SP (X:Cx)(ae:α7)(D:Ends)(f:Flow)(s':Shared):Prop:=
 match f with
 |.next=>∃af H',Inv X ae af H' s'/\D.nx af H'
 |.brk=>∃af H',Inv X ae af H' s'/\D.bk af H'
 |.cont=>∃af H',Inv X ae af H' s'/\D.ct af H'
 |.ret u=>∃v af H',Inv X ae af H' s'/\RelV v u/\D.rt v H'
def PE (X:Cx)(e:Expr)(t:TE):Prop:=
 ∀(ae:α7) (s:Shared) (σ:St) (H:Hp) (Q:VK),Inv X ae σ H s->t σ H Q->wpAny (model X.prog X.w) X.A (eval e X.env) (EP X ae σ Q) X.xe s
def PT (X:Cx)(e:Expr)(t:TT):Prop:=
 ∀(ae:α7) (s:Shared) (σ:St) (H:Hp) (Q:Bool->Hp->Prop),Inv X ae σ H s->t σ H Q->wpAny (model X.prog X.w) X.A (isTrue e X.env (eval e X.env)) (TP X ae σ Q) X.xe s
def PW (X:Cx)(e:Expr)(t:TT):Prop:=
 ∀(eO:Sem Value) (ae:α7) (s:Shared) (σ:St) (H:Hp) (Q:Bool->Hp->Prop),Inv X ae σ H s->t σ H Q->wpAny (model X.prog X.w) X.A (isTrue e X.env eO) (TP X ae σ Q) X.xe s
def PW.pt    (h:PW X e t):PT X e t:=h _
def PA (X:Cx)(es:List Expr)(t:TA):Prop:=
 ∀(pos:Pos) (ae:α7) (s:Shared) (σ:St) (H:Hp) (Q:List V->Hp->Prop),Inv X ae σ H s->t σ H Q->wpAny (model X.prog X.w) X.A (spliced (backTo pos (starEach es X.env))) (AP X ae σ Q) X.xe s
def PS (X:Cx)(st:Stmt)(t:TS):Prop:=
 ∀(ae:α7) (s:Shared) (σ:St) (H:Hp) (D:Ends),Inv X ae σ H s->t D σ H->wpAny (model X.prog X.w) X.A (exec st X.env) (SP X ae D) X.xe s
def PSs (X:Cx)(st:List Stmt)(t:TS):Prop:=
 ∀(ae:α7) (s:Shared) (σ:St) (H:Hp) (D:Ends),Inv X ae σ H s->t D σ H->wpAny (model X.prog X.w) X.A (execs st X.env) (SP X ae D) X.xe s
def thn        (h:wpAny M A t Q E s)(hQ:∀a s,Q a s->Q' a s):wpAny M A t Q' E s:=qE_ h hQ fun _ _ x=>x
end L2
namespace L2
open PySem PySem.Spec PyProof.Rows
section
variable {X:Cx}
def tVar (i:Nat):TE:=fun σ H Q=>∃v,σ[i]?=some (some v)/\Q v H
def tC (v:V):TE:=fun _ H Q=>Q v H
def UK    (hN:X.N[i]?=some x)(hv:Vis X.env.scope x)(hd:(x==("__debug__" : Str))=false:=by decide)(ck:(x==("__classdict__" : Str))=false:=by decide):PE X (.Name x pos) (tVar i):=by
 intro ae s σ H Q I h
 obtain⟨v,e,h⟩:=h
 obtain⟨m,hn,hl⟩:=I.loc
 obtain⟨u,r,l⟩:=hl i x v hN e hv
 have fin:EP X ae σ Q u s:=⟨v,H,I,r,h⟩
 rcases l with ⟨hk,hm⟩|⟨hk,c,hc,eQ⟩
 ·exact wpAny_Name (wpAny_loadName_local I.ok.kind hk hn hm fin) hd
 ·rcases hk with hk|hk
  ·exact wpAny_Name (wpAny_loadName_cell I.ok.kind hk hc eQ fin) hd
  ·exact wpAny_Name (wpAny_loadName_free I.ok.kind hk hc eQ fin ck) hd
def Ae {i j pos}:PE X (.Constant (.int i) j pos) (tC (.int i)):=fun _ _ _ H _ I h=>wpAny_Constant_int ⟨.int i,H,I.tok _,⟨_,rfl⟩,h⟩
def Ls {b j pos}:PE X (.Constant (.bool b) j pos) (tC (.bl b)):=fun _ _ _ H _ I h=>Constant_bool ⟨.bl b,H,I,rfl,h⟩
def Om {j pos}:PE X (.Constant .none j pos) (tC .non):=fun _ _ _ H _ I h=>Constant_none ⟨.non,H,I,rfl,h⟩
def Gl (X:Cx)(x:Str):Prop:=X.env.kindOf x=some .globalImplicit
def Tq          (I:Inv X ae σ H s)(hg:Gl X x)(hm:X.mg x=some u)(h:Q u s)
  (hd:(x==("__debug__" : Str))=false:=by decide):wpAny (model X.prog X.w) X.A (eval (.Name x pos) X.env) Q E s:=
 Calls.Name_function_global I.ok.kind hg (Calls.loadGlobal_global (by rw[I.ok.glob];exact I.mod.glob.keeps I.bk) hm h) hd
def DW          (I:Inv X ae σ H s)(hg:Gl X x)(hm:X.mg x=none)(hv:bootBuiltins x=some u)(h:Q u s)
  (hn:x ≠ "__name__" := by decide) (hd:(x==("__debug__" : Str))=false:=by decide):wpAny (model X.prog X.w) X.A (eval (.Name x pos) X.env) Q E s:=by
 obtain⟨mb,h1,h2⟩:=I.mod.blt
 exact Calls.Name_function_global I.ok.kind hg (Calls.loadGlobal_builtin (by rw[I.ok.glob];exact I.mod.glob.keeps I.bk) hm (by rw[I.ok.blt];exact h1.keeps I.bk) ((h2 x hn).trans hv) h) hd
def Tr     (hg:Gl X x)(hm:X.mg x=none)(hv:bootBuiltins x=some u)(r:RelV v u)(hn:x ≠ "__name__" := by decide)(hd:(x==("__debug__" : Str))=false:=by decide):PE X (.Name x pos) (tC v):=
 fun _ _ _ H _ I h=>DW I hg hm hv ⟨v,H,I,r,h⟩ hn hd
variable {a b:Expr} {ta tb:TE} {pos:Pos}
def PC (X:Cx)(op:CmpOp)(a b:Expr)(t:TE):Prop:=
 ∀(ae:α7) (s:Shared) (σ:St) (H:Hp) (Q:VK),Inv X ae σ H s->t σ H Q ->
  wpAny (model X.prog X.w) X.A (eval a X.env) (fun v s₁=>wpAny (model X.prog X.w) X.A (eval b X.env) (fun u bE=>wpAny (model X.prog X.w) X.A (compareOp op v u) (EP X ae σ Q) X.xe bE) X.xe s₁) X.xe s
def QR (b:Expr)  (h:op ≠ .In)(h2:op ≠ .NotIn):behindInMarks op b=false:=by
 have e1:(op==CmpOp.In)=false:=by cases op<;>first|rfl|exact absurd rfl h
 have e2:(op==CmpOp.NotIn)=false:=by cases op<;>first|rfl|exact absurd rfl h2
 cases b<;>simp[behindInMarks,e1,e2]
def tB (t:TE):TT:=fun σ H Q=>t σ H fun x H1=>∃c,x=.bl c/\Q c H1
def On   (h:PC X op a b t)(h1:behindInMarks op b=false:=by first|exact QR _ (by decide) (by decide)|rfl):PT X (.Compare a [op] [b] pos) (tB t):=by
 intro ae s σ H Q I hw
 refine wpAny_isTrue_Compare1 (thn (h ae s σ H _ I hw) fun v s1 h1=>thn h1 fun u s2 h2=>thn h2 fun c s3 ⟨x,H1,I1,r1,q1⟩=>?_) h1
 obtain⟨d,rfl,q⟩:=q1
 cases r1
 exact x4_ ⟨H1,I1,q⟩
def Se   (h:PE X e t)(he:∀eO,isTrue e X.env eO=(do let v <- eO;standAt e.pos;holding [v] (truthy v)):=by intro _;rfl):PT X e (tB t):=by
 intro ae s σ H Q I hw
 refine isTrue_plain (thn (h ae s σ H _ I hw) fun v s1 ⟨x,H1,I1,r1,q1⟩=>?_) (he _)
 obtain⟨d,rfl,q⟩:=q1
 cases r1
 exact x4_ ⟨H1,I1,q⟩
variable {tA oh:TT} {rest:List Expr}
def tAnd (t u:TT):TT:=fun σ H Q=>t σ H fun c H1=>if c=true then u σ H1 Q else Q false H1
def tOr (t u:TT):TT:=fun σ H Q=>t σ H fun c H1=>if c=true then Q true H1 else u σ H1 Q
def tNot (t:TT):TT:=fun σ H Q=>t σ H fun c H1=>Q (!c) H1
def DX (ha:PT X a tA):PW X (.BoolOp .And [a] pos) tA:=by
 intro wh ae s σ H Q I h
 refine isTrue_and (thn (ha ae s σ H Q I h) fun c s1 e=>?_)
 cases c with
 |true=>exact isTrue_and_nil e
 |false=>exact e
def Oo (ha:PT X a tA):PW X (.BoolOp .Or [a] pos) tA:=by
 intro wh ae s σ H Q I h
 refine isTrue_or (thn (ha ae s σ H Q I h) fun c s1 e=>?_)
 cases c with
 |false=>exact isTrue_or_nil e
 |true=>exact e
def Gn (ha:PT X a tA)(hb:PW X (.BoolOp .And (b::rest) pos) oh):PW X (.BoolOp .And (a::b::rest) pos) (tAnd tA oh):=by
 intro wh ae s σ H Q I h
 refine isTrue_and (thn (ha ae s σ H _ I h) fun c s1 ⟨H1,I1,q1⟩=>?_)
 cases c with
 |true=>exact hb wh ae s1 σ H1 Q I1 q1
 |false=>exact⟨H1,I1,q1⟩
def Ts (ha:PT X a tA)(hb:PW X (.BoolOp .Or (b::rest) pos) oh):PW X (.BoolOp .Or (a::b::rest) pos) (tOr tA oh):=by
 intro wh ae s σ H Q I h
 refine isTrue_or (thn (ha ae s σ H _ I h) fun c s1 ⟨H1,I1,q1⟩=>?_)
 cases c with
 |true=>exact⟨H1,I1,q1⟩
 |false=>exact hb wh ae s1 σ H1 Q I1 q1
def Sf (ha:PT X a tA):PT X (.UnaryOp .Not a pos) (tNot tA):=by
 intro ae s σ H Q I h
 exact isTrue_not (ha ae s σ H (fun c H1=>Q (!c) H1) I h)
end
end L2
namespace L2
open PySem PySem.Spec PyProof.Rows
def SqL (K:α3)(H:Hp)(a:Addr)(xs:List V):Prop:=
 Rd H a (.lst xs) \/
  ∃(o:Obj) (its:Array Value) (n:Nat),K.lookup a=some o/\o.cls=.type "list" /\ o.dict=none/\o.data=.seq its n/\its.size<=sizeLine/\Vals xs its.toList
def SqT (K:α3)(H:Hp)(a:Addr)(xs:List V):Prop:=
 Rd H a (.tup xs) \/
  ∃(o:Obj) (its:Array Value) (n:Nat),K.lookup a=some o/\o.cls=.type "tuple" /\ o.data=.seq its n/\its.size<=sizeLine/\Vals xs its.toList
def absV:Value->Option V
 |.none=>some .non
 |.bool b=>some (.bl b)
 |.int i _=>some (.int i)
 |.str x _=>some (.str x)
 |.bytes b _=>some (.byt b)
 |.float b _=>some (.flt b)
 |.ref a=>some (.ref a)
 |.type n=>some (.ty n)
 |_=>none
def RelV.abs   (r:RelV x u):absV u=some x:=by
 cases x with
 |non=>cases r;rfl
 |bl _=>cases r;rfl
 |int _=>obtain⟨t,rfl⟩:=r;rfl
 |str _=>obtain⟨t,rfl⟩:=r;rfl
 |byt _=>obtain⟨t,rfl⟩:=r;rfl
 |flt _=>obtain⟨t,rfl⟩:=r;rfl
 |ref _=>cases r;rfl
 |ty _=>cases r;rfl
def RelV.inj   (r:RelV x u)(q:RelV y u):x=y:=js_ (r.abs.symm.trans q.abs)
def Vals.inj:∀{xs ys:List V} {us:List Value},Vals xs us->Vals ys us->xs=ys
 |_,_,_,.nil,.nil=>rfl
 |_,_,_,.cons r t,.cons r' t'=>by rw[r.inj r',Vals.inj t t']
section
variable {X:Cx} {ae:α7} {σ:St} {H:Hp} {s:Shared} {a:Addr} {xs ys:List V}
def SqL.of {K:α3}(h:H a=some (.lst xs)):SqL K H a xs:=.inl (.inl h)
def SqT.of {K:α3}(h:H a=some (.tup xs)):SqT K H a xs:=.inl (.inl h)
def Inv.list (I:Inv X ae σ H s)(h:SqL X.K H a xs):∃its:List Value,Vals xs its/\PlainL s.heap a its.toArray/\xs.length<=sizeLine:=by
 rcases h with h|⟨o,its,n,hk,hc,hd,hs,hz,r⟩
 ·obtain⟨z,its,n,r,e⟩:=h.ok I.hok
  exact⟨its,r,⟨_,n,e,rfl,rfl,rfl⟩,z⟩
 ·refine⟨its.toList,r,⟨o,n,I.kIn a o hk,hc,hd,by simpa using hs⟩,?_⟩
  have e:=r.length
  simp only[j3_]at e
  lia
def Inv.tuple (I:Inv X ae σ H s)(h:SqT X.K H a xs):∃its:List Value,Vals xs its/\IsTup s.heap a its.toArray/\xs.length<=sizeLine:=by
 rcases h with h|⟨o,its,n,hk,hc,hs,hz,r⟩
 ·obtain⟨z,its,r,p⟩:=h.ok I.hok
  exact⟨its,r,p,z⟩
 ·refine⟨its.toList,r,⟨o,I.kIn a o hk,hc,n,by simpa using hs⟩,?_⟩
  have e:=r.length
  simp only[j3_]at e
  lia
def Inv.list_inj (I:Inv X ae σ H s)(h:SqL X.K H a xs)(h':SqL X.K H a ys):xs=ys:=by
 obtain⟨its,r,⟨o,n,e,_,_,d⟩,_⟩:=I.list h
 obtain⟨its',r',⟨o',n',e',_,_,d'⟩,_⟩:=I.list h'
 rw[e]at e';cases e'
 rw[d]at d'
 injection d' with d1 _
 have:its=its':=by simpa using jG_ vY d1
 subst this
 exact r.inj r'
def Inv.tuple_inj (I:Inv X ae σ H s)(h:SqT X.K H a xs)(h':SqT X.K H a ys):xs=ys:=by
 obtain⟨its,r,⟨o,e,_,n,d⟩,_⟩:=I.tuple h
 obtain⟨its',r',⟨o',e',_,n',d'⟩,_⟩:=I.tuple h'
 rw[e]at e';cases e'
 rw[d]at d'
 injection d' with d1 _
 have:its=its':=by simpa using jG_ vY d1
 subst this
 exact r.inj r'
end
abbrev Cx.wish (X:Cx)(E:Value->Shared->Prop):Cx:={X with xe:=E}
abbrev Cx.nox (X:Cx):Cx:=X.wish fun _ _=>False
def Cx.Ok.wish {X:Cx}(ok:X.Ok)(E:Value->Shared->Prop):(X.wish E).Ok:=
 ⟨ok.mod,ok.kind,ok.glob,ok.blt,ok.above,ok.inj,ok.has,ok.cab,ok.hd,ok.frames,ok.stk,ok.exf,ok.bs,ok.bsz,ok.noex,ok.exfs,ok.funs,ok.frf⟩
def Cx.Ok.unwish {X:Cx}{E:Value->Shared->Prop}(ok:(X.wish E).Ok):X.Ok:=
 ⟨ok.mod,ok.kind,ok.glob,ok.blt,ok.above,ok.inj,ok.has,ok.cab,ok.hd,ok.frames,ok.stk,ok.exf,ok.bs,ok.bsz,ok.noex,ok.exfs,ok.funs,ok.frf⟩
section
variable {X:Cx} {ae:α7} {σ:St} {H:Hp} {s:Shared} {E:Value->Shared->Prop}
def Inv.wish (I:Inv X ae σ H s)(E:Value->Shared->Prop):Inv (X.wish E) ae σ H s:=⟨I.ok.wish E,I.os,I.bare,I.base,I.loc,I.cell,I.free,I.freeC,I.pin,I.hok,I.len⟩
def Inv.unwish (I:Inv (X.wish E) ae σ H s):Inv X ae σ H s:=⟨I.ok.unwish,I.os,I.bare,I.base,I.loc,I.cell,I.free,I.freeC,I.pin,I.hok,I.len⟩
def SP.unwish    (h:SP (X.wish E) ae D f s'):SP X ae D f s':=by
 cases f with
 |next=>obtain⟨af,H',I,q⟩:=h;exact⟨af,H',I.unwish,q⟩
 |brk=>obtain⟨af,H',I,q⟩:=h;exact⟨af,H',I.unwish,q⟩
 |cont=>obtain⟨af,H',I,q⟩:=h;exact⟨af,H',I.unwish,q⟩
 |ret u=>obtain⟨v,af,H',I,r,q⟩:=h;exact⟨v,af,H',I.unwish,r,q⟩
def PSs.nox {st:List Stmt}  (h:PSs X.nox st t):PSs X st t:=fun ae s σ H D I hw=>
 qE_ (h ae s σ H D (I.wish _) hw) (fun _ _ q=>q.unwish) fun _ _ z=>sj z
end
section
variable {X:Cx} {st:Stmt} {rest:List Stmt} {t u:TS} {e:Expr} {te:TE} {pos:Pos}
def UL:TS:=fun D σ H=>D.nx σ H
def tSeq (t u:TS):TS:=fun D σ H=>t {D with nx:=u D} σ H
def AH:PSs X [] UL:=fun _ _ σ H _ I h=>zV_ ⟨σ,H,I,h⟩
def Ac (h1:PS X st t)(h2:PSs X rest u):PSs X (st::rest) (tSeq t u):=by
 intro ae s σ H D I h
 refine wpAny_execs_cons (thn (h1 ae s σ H {D with nx:=u D} I h) fun f s1 q=>?_)
 cases f with
 |next=>
  obtain⟨af,H',I',q⟩:=q
  exact h2 ae s1 af H' D I' q
 |ret v=>exact q
 |brk=>exact q
 |cont=>exact q
def Af (h1:PS X st t):PSs X [st] t:=by
 intro ae s σ H D I h
 refine wpAny_execs_cons (thn (h1 ae s σ H D I h) fun f s1 q=>?_)
 cases f with
 |next=>exact zV_ q
 |ret v=>exact q
 |brk=>exact q
 |cont=>exact q
def Inv.quiet     (I:Inv X ae σ H s):interactive X.env=false:=by simp[interactive,I.ok.kind]
def UM (te:TE):TS:=fun D σ H=>te σ H fun _ H1=>D.nx σ H1
def A8 (he:PE X e te)(hs:swapsWith e none pos.line X.env=pure false:=by rfl):PS X (.Expr e pos) (UM te):=by
 intro ae s σ H D I h
 exact wpAny_Expr_any (thn (he ae s σ H _ I h) fun v s1 ⟨x,H1,I1,r1,q1⟩=>⟨σ,H1,I1,q1⟩) I.quiet hs
def tRet (te:TE):TS:=fun D σ H=>te σ H D.rt
def AE (he:PE X e te):PS X (.Return (some e) pos) (tRet te):=by
 intro ae s σ H D I h
 exact wpAny_Return_some (thn (he ae s σ H _ I h) fun v s1 ⟨x,H1,I1,r1,q1⟩=>⟨x,σ,H1,I1,r1,q1⟩)
def tIfS (c:TT)(t u:TS):TS:=fun D σ H=>c σ H fun b H1=>if b=true then t D σ H1 else u D σ H1
def BF    (hc:PT X c tc)(ha:PSs X a t)(hb:PSs X b u):PS X (.If c a b pos) (tIfS tc t u):=by
 intro ae s σ H D I h
 refine wpAny_If (thn (hc ae s σ H _ I h) fun d s1 ⟨H1,I1,q1⟩=>?_)
 cases d with
 |true=>exact ha ae s1 σ H1 D I1 q1
 |false=>exact hb ae s1 σ H1 D I1 q1
def UN:TS:=fun _ _ _=>False
def QS:PS X st UN:=fun _ _ _ _ _ _ h=>h.elim
end
abbrev TG:=V->St->Hp->(St->Hp->Prop)->Prop
abbrev TGs:=List V->St->Hp->(St->Hp->Prop)->Prop
def PG (X:Cx)(bS:Expr)(t:TG):Prop:=
 ∀(ae:α7) (s:Shared) (σ:St) (H:Hp) (v:V) (u:Value) (Q:St->Hp->Prop),Inv X ae σ H s->RelV v u->t v σ H Q ->
  wpAny (model X.prog X.w) X.A (assign bS X.env u) (fun _ s'=>∃af H',Inv X ae af H' s'/\Q af H') X.xe s
def PGs (X:Cx)(ts:List Expr)(t:TGs):Prop:=
 ∀(ae:α7) (s:Shared) (σ:St) (H:Hp) (vs:List V) (us:List Value) (Q:St->Hp->Prop),Inv X ae σ H s->Vals vs us->t vs σ H Q ->
  wpAny (model X.prog X.w) X.A (assignInOrder ((assignEach ts X.env).map (·.2)) us) (fun _ s'=>∃af H',Inv X ae af H' s'/\Q af H') X.xe s
abbrev TSet:=V->V->V->Hp->(Hp->Prop)->Prop
def PSet (X:Cx)(t:TSet):Prop:=
 ∀(ae:α7) (s:Shared) (σ:St) (H:Hp) (o i v:V) (ov iv u:Value) (Q:Hp->Prop),Inv X ae σ H s->RelV o ov->RelV i iv->RelV v u->t o i v H Q ->
  wpAny (model X.prog X.w) X.A (setItem ov iv u) (fun _ s'=>∃H',Inv X ae σ H' s'/\Q H') X.xe s
abbrev TIp:=V->V->Hp->VK->Prop
def PIp (X:Cx)(op:Operator)(t:TIp):Prop:=
 ∀(ae:α7) (s:Shared) (σ:St) (H:Hp) (x y:V) (v u:Value) (Q:VK),Inv X ae σ H s->RelV x v->RelV y u->t x y H Q ->
  wpAny (model X.prog X.w) X.A (inplaceOp op v u) (EP X ae σ Q) X.xe s
section
variable {X:Cx} {pos:Pos}
def Fn (i:Nat):TG:=fun v σ H Q=>Q (σ.set i (some v)) H
def Am   (hN:X.N.Nodup)(hi:X.N[i]?=some x)(hx:Loc X.env.scope x)(hf:X.fn x=true\/X.env.scope.names.lookup x=some .local:=by first|exact .inl rfl|exact .inr rfl|assumption):PG X (.Name x pos) (Fn i):=by
 intro ae s σ H v u Q I r h
 exact wpAny_assign_Name (Jk I hN hi hx r (fun s' I'=>⟨_,H,I',h⟩) hf)
def gNil:TGs:=fun vs σ H Q=>vs=[]/\Q σ H
def UO (t:TG)(u:TGs):TGs:=fun vs σ H Q=>∃v r,vs=v::r/\t v σ H fun af H'=>u r af H' Q
def Op:PGs X [] gNil:=by
 intro ae s σ H vs us Q I r h
 obtain⟨e,h⟩:=h
 subst e
 cases r
 exact assignInOrder_nil ⟨σ,H,I,h⟩
def GS     (h1:PG X e t)(h2:PGs X es u)
  (hs:(assignEach (e::es) X.env).map (·.2)=assign e X.env::(assignEach es X.env).map (·.2):=by rfl):PGs X (e::es) (UO t u):=by
 intro ae s σ H vs us Q I r h
 obtain⟨v,vr,e1,h⟩:=h
 subst e1
 cases r with
 |cons r rr=>
  rw[hs]
  refine assignInOrder_cons (thn (h1 ae s σ H _ _ _ I r h) fun _ s1 ⟨jB,H1,I1,q1⟩=>?_)
  exact h2 ae s1 jB H1 _ _ Q I1 rr q1
def gTup (K:α3)(n:Nat)(t:TGs):TG:=fun v σ H Q=>∃a xs,v=.ref a/\SqT K H a xs/\xs.length=n/\t xs σ H Q
def Sg     (hc:X.calm=true)(h:PGs X es t)
  (hn:(assignEach es X.env).length=n:=by rfl) (dC:(assignEach es X.env).findIdx? (·.1)=none:=by rfl):PG X (.Tuple es k pos) (gTup X.K n t):=by
 intro ae s σ H v u Q I r hw
 obtain⟨a,xs,e1,hq,hl,hw⟩:=hw
 subst e1
 cases r
 obtain⟨its,rv,ht,hz⟩:=I.tuple hq
 refine assign_Tuple_tuple (I.ok.hd hc) ht (by simp[hn,<-hl,rv.length]) dC fun h' hx=>?_
 have I1:Inv X ae σ H {s with heap:=h' }:=I.kept (t':=s.toks) fun b o e=>hx b o (jO_ (jt_ e)) e
 exact h ae _ σ H xs _ Q I1 (by simpa using rv) hw
def gSub (to ti:TE)(t:TSet):TG:=fun v σ H Q=>to σ H fun o H1=>ti σ H1 fun i H2=>t o i v H2 fun H3=>Q σ H3
def Ki    (ho:PE X o to)(hi:PE X i ti)(hs:PSet X t)
  (ha:∀v,assign (.Subscript o i pos) X.env v=(do
   let ov <- holding [v] (eval o X.env)
   let iv <- holding [v,ov] (eval i X.env)
   standAt pos
   holding [v,ov,iv] (setItem ov iv v)
   release [v,ov,iv] []):=by intro _;rfl):PG X (.Subscript o i pos) (gSub to ti t):=by
 intro ae s σ H v u Q I r h
 rw[ha]
 refine jc_ (qK_ (thn (ho ae s σ H _ I h) fun ov s1 ⟨x,H1,I1,r1,q1⟩=>?_))
 refine jc_ (qK_ (thn (hi ae s1 σ H1 _ I1 q1) fun iv s2 ⟨y,H2,I2,r2,q2⟩=>?_))
 refine jc_ (wpAny_standAt (jc_ (qK_ (thn (hs ae s2 σ H2 x y v ov iv u _ I2 r1 r2 r q2) fun _ s3 ⟨H3,I3,q3⟩=>?_))))
 exact wpAny_release ⟨σ,H3,I3,q3⟩
def tAsg (te:TE)(g:TG):TS:=fun D σ H=>te σ H fun x H1=>g x σ H1 D.nx
def Kj    (he:PE X e te)(hg:PG X tg g)(hs:swapsWithSole [tg] e pos.line X.env=pure false:=by rfl)(hw:swappedStores [tg] e X.env=pure none:=by rfl)
  (h1:(assignEach [tg] X.env).map (·.2)=[assign tg X.env]:=by rfl):PS X (.Assign [tg] e pos) (tAsg te g):=by
 intro ae s σ H D I h
 refine wpAny_Assign_stores (thn (he ae s σ H _ I h) fun v s1 ⟨x,H1,I1,r1,q1⟩=>?_) hs hw
 rw[h1]
 exact thn (hg ae s1 σ H1 x v _ I1 r1 q1) fun _ s2 q=>q
def Ba      (hN:X.N.Nodup)(hi:X.N[i]?=some x)(hx:Loc X.env.scope x)(he:PE X e te)(hs:swapsWith e (some (.Name x bT)) pos.line X.env=pure false:=by rfl)(hf:X.fn x=true\/X.env.scope.names.lookup x=some .local:=by first|exact .inl rfl|exact .inr rfl|assumption):
  PS X (.Assign [.Name x bT] e pos) (tAsg te (Fn i)):=by
 intro ae s σ H D I h
 refine wpAny_Assign_Name (thn (he ae s σ H _ I h) fun v s1 ⟨y,H1,I1,r1,q1⟩=>?_) hs
 exact Jk I1 hN hi hx r1 (fun s2 I2=>⟨_,H1,I2,q1⟩) hf
def tAug (i:Nat)(te:TE)(ti:TIp):TS:=fun D σ H=>∃x,σ[i]?=some (some x)/\te σ H fun y H1=>ti x y H1 fun z H2=>D.nx (σ.set i (some z)) H2
def Oq        (hN:X.N.Nodup)(hi:X.N[i]?=some x)(hx:Loc X.env.scope x)(he:PE X e te)(ho:PIp X op ti)(hf:X.fn x=true\/X.env.scope.names.lookup x=some .local:=by first|exact .inl rfl|exact .inr rfl|assumption):
  PS X (.AugAssign (.Name x bT) op e pos) (tAug i te ti):=by
 intro ae s σ H D I h
 obtain⟨v,e1,h⟩:=h
 obtain⟨m,hn,hl⟩:=I.loc
 have mT:Vis X.env.scope x:=by rcases hx with k|k;exact .inl k;exact .inr (.inl k)
 obtain⟨u,r,l⟩:=hl i x v hi e1 mT
 refine wpAny_AugAssign_Name ?_
 have go:wpAny (model X.prog X.w) X.A (eval e X.env) (fun w bE=>wpAny (model X.prog X.w) X.A (inplaceOp op u w) (fun r a9=>wpAny (model X.prog X.w) X.A (storeName X.env x r) (fun _=>SP X ae D .next) X.xe a9) X.xe bE) X.xe s:=by
  refine thn (he ae s σ H _ I h) fun w s1 ⟨y,H1,I1,r1,q1⟩=>?_
  refine thn (ho ae s1 σ H1 v y u w _ I1 r r1 q1) fun z s2 ⟨zv,H2,I2,r2,q2⟩=>?_
  exact Jk I2 hN hi hx r2 (fun s3 I3=>⟨_,H2,I3,q2⟩) hf
 rcases l with ⟨hk,hm⟩|⟨hk,c,hc,eQ⟩
 ·exact wpAny_loadName_local I.ok.kind hk hn hm go
 ·rcases hk with hk|hk
  ·exact wpAny_loadName_cell I.ok.kind hk hc eQ go
  ·rcases hx with k|k
   ·have:X.env.scope.names.lookup x=some .free:=hk
    rw[k]at this;cases this
   ·have:X.env.scope.names.lookup x=some .free:=hk
    rw[k]at this;cases this
def ipI (f:Int->Int->Int):TIp:=fun x y H Q=>∃i j,x=.int i/\y=.int j/\Q (.int (f i j)) H
def Sh:PIp X .Add (ipI fun i j=>i+j):=by
 intro ae s σ H x y v u Q I r1 r2 h
 obtain⟨i,j,e1,e2,q⟩:=h
 subst e1;subst e2
 obtain⟨t,rfl⟩:=r1
 obtain⟨t',rfl⟩:=r2
 exact iadd_int ⟨.int _,H,I.tok _,⟨_,rfl⟩,q⟩
def UP:PIp X .Sub (ipI fun i j=>i-j):=by
 intro ae s σ H x y v u Q I r1 r2 h
 obtain⟨i,j,e1,e2,q⟩:=h
 subst e1;subst e2
 obtain⟨t,rfl⟩:=r1
 obtain⟨t',rfl⟩:=r2
 exact isub_int ⟨.int _,H,I.tok _,⟨_,rfl⟩,q⟩
end
section
variable {X:Cx} {pos:Pos}
def Si (c:TT)(tb:TS):TS:=fun D σ H=>∃W:Nat->St->Hp->Prop,(∃m,W m σ H)/\∀m σ H,W m σ H ->
 c σ H fun b H1=>if b=true then ∃N:St->Hp->Prop,(∀af H',N af H'->∃m',m'<m/\W m' af H')/\tb {D with nx:=N,ct:=N,bk:=D.nx} σ H1 else D.nx σ H1
def Df     (hp:PassesOwn (model X.prog X.w) X.A X.env X.xe)(hc:PT X c tc)(hb:PSs X body tb):PS X (.While c body [] pos) (Si tc tb):=by
 intro ae s σ H D I h
 obtain⟨W,⟨m0,w0⟩,turn⟩:=h
 refine wpAny_While (codeAny_whileLoop (fun n s'=>∃af H',Inv X ae af H' s'/\W n af H') ?_ m0 ⟨σ,H,I,w0⟩)
 rintro n s1 ⟨jB,H1,I1,w1⟩
 refine xF_ hp (thn (hc ae s1 jB H1 _ I1 (turn n jB H1 w1)) fun b s2 ⟨H2,I2,q2⟩=>?_)
 cases b with
 |true=>
  obtain⟨N,hN,q2⟩:=q2
  rw[if_pos rfl]
  refine xF_ hp (thn (hb ae s2 jB H2 _ I2 q2) fun f s3 q3=>?_)
  cases f with
  |next=>
   obtain⟨aE,H3,I3,n3⟩:=q3
   obtain⟨m',hm,w3⟩:=hN aE H3 n3
   exact⟨m',hm,aE,H3,I3,w3⟩
  |cont=>
   obtain⟨aE,H3,I3,n3⟩:=q3
   obtain⟨m',hm,w3⟩:=hN aE H3 n3
   exact⟨m',hm,aE,H3,I3,w3⟩
  |brk=>exact q3
  |ret v=>exact q3
 |false=>
  rw[if_neg ju_]
  exact zV_ ⟨jB,H2,I2,q2⟩
end
structure It where
 go:Nat->Hp->Prop
 yld:Nat->Hp->V->Hp->Prop
 stop:Nat->Hp->Prop
def FpOk (X:Cx)(ae:α7)(H:Hp)(b:Addr):Prop:=
 H b=none/\b≠X.env.locals/\b∉X.fs/\(b∈X.ex\/X.s₀.heap.objs.size<=b)/\(∀x c,X.env.cells.lookup x=some c->c≠b)/\∀p∈X.pn++ae,p.1≠b
def Inv.fpOk       (I:Inv X ae σ H s)(hb:s.heap.objs.size<=b)(hn:H' b=none):FpOk X ae H' b:=by
 refine⟨hn,qe_ (jA_ I.lt hb),I.nofs hb,.inr (qt_ I.sz hb),fun x c e z=>?_,fun p hp z=>?_⟩
 ·obtain⟨v,q⟩:=I.cell x c e
  exact absurd (jA_ q.lt (by rw[z];exact hb)) (qb_ _)
 ·exact absurd (jA_ (jt_ (I.pin p hp).1) (by rw[z];exact hb)) (qb_ _)
structure Turn (P:Program)(w:World)(K:α3)(tg:Expr)(J:It)(fp:List Addr)(it:Addr)(tn:Nat->Heap->Prop):Prop where
 mem:it∈fp
 obj:∀i h,tn i h->∀b∈fp,∃o,h.get? b=some o/\∀v,o.data ≠ .cell v
 keep:∀i h h',tn i h->(∀b∈fp,∀o,h.get? b=some o->h'.get? b=some o)->tn i h'
 item:∀(X:Cx),X.prog=P->X.w=w->X.K=K->X.calm=true->∀(i:Nat) (ae:α7) (s:Shared) (σ:St) (H:Hp) (E:Value->Shared->Prop),Inv X ae σ H s->(∀b∈fp,FpOk X ae H b)->tn i s.heap->J.go i H ->
  wpAny (model P w) X.A (pyNext (.ref it)) (fun r s1=>∃u,r=some u /\
   wpAny (model P w) X.A (letOwnedTupleGo tg (.ref it) u) (fun _ s2=>∃x H',Inv X ae σ H' s2/\RelV x u/\J.yld i H x H'/\tn (i+1) s2.heap/\∀b∈fp,H' b=none) E s1) E s
 done:∀(X:Cx),X.prog=P->X.w=w->X.K=K->X.calm=true->∀(i:Nat) (ae:α7) (s:Shared) (σ:St) (H:Hp) (E:Value->Shared->Prop),Inv X ae σ H s->(∀b∈fp,FpOk X ae H b)->tn i s.heap->J.stop i H ->
  wpAny (model P w) X.A (pyNext (.ref it)) (fun r s1=>r=none/\Inv X ae σ H s1) E s
 self:∀(A:Around) (i:Nat) (s:Shared) (Q:Value->Shared->Prop) (E:Value->Shared->Prop),tn i s.heap->Q (.ref it) s->wpAny (model P w) A (pyIter (.ref it)) Q E s
abbrev TI:=St->Hp->(It->Hp->Prop)->Prop
def PIE (X:Cx)(ae:α7)(σ:St)(tg:Expr)(R:It->Hp->Prop)(mU:Value)(s2:Shared):Prop:=
 ∃(it:Addr) (fp:List Addr) (tn:Nat->Heap->Prop) (J:It) (H':Hp),mU=.ref it/\Inv X ae σ H' s2/\Turn X.prog X.w X.K tg J fp it tn/\tn 0 s2.heap/\(∀b∈fp,FpOk X ae H' b)/\R J H'
def PI (X:Cx)(tg iter:Expr)(wi:TI):Prop:=
 ∀(ae:α7) (s:Shared) (σ:St) (H:Hp) (R:It->Hp->Prop),Inv X ae σ H s->wi σ H R ->
  wpAny (model X.prog X.w) X.A (eval iter X.env) (fun v s1=>wpAny (model X.prog X.w) X.A (pyIter v) (PIE X ae σ tg R) X.xe s1) X.xe s
def Tt            (ho:s.heap.get? it=some o)(hc:o.cls=.type n)(hd:o.data=.fields vs)
    (hn:["enumerate","zip","dict_itemiterator","dict_reverseitemiterator","odict_iterator","itertools.zip_longest","itertools.pairwise"].contains n=false) (hQ:Q () s):wpAny M A (letOwnedTupleGo tg (.ref it) u) Q E s:=by
  unfold letOwnedTupleGo
  cases tg<;>first
    | exact jn_ hQ
    | (cases u<;>first
        | exact jn_ hQ
        | (refine jc_ (wpAny_load ho ?_)
           rw[hc,hd]
           show wpAny M A (if (["enumerate","zip","dict_itemiterator","dict_reverseitemiterator","odict_iterator","itertools.zip_longest","itertools.pairwise"].contains n&&vs[0]? == some (rawInt _))=true then _ else _) Q E s
           rw[if_neg (by intro h;rw[hn,va]at h;cases h)]
           exact jn_ hQ))
def Itl (K:α3)(a:Addr):It:=
 ⟨fun i H=>∃xs x,SqL K H a xs/\xs[i]?=some x,fun i H x H'=>H'=H/\∀xs,SqL K H a xs->xs[i]?=some x,fun i H=>∃xs,SqL K H a xs/\xs.length<=i⟩
def Itt (K:α3)(a:Addr):It:=
 ⟨fun i H=>∃xs x,SqT K H a xs/\xs[i]?=some x,fun i H x H'=>H'=H/\∀xs,SqT K H a xs->xs[i]?=some x,fun i H=>∃xs,SqT K H a xs/\xs.length<=i⟩
def Itr (lo:Int)(n:Nat):It:=⟨fun i _=>i<n,fun i H x H'=>H'=H/\x=.int (lo+i),fun i _=>n<=i⟩
def Kk {P:Program}{w:World}{K:α3}{tg:Expr}(a it:Addr):Turn P w K tg (Itl K a) [it] it (fun i h=>h.IsListIter it a i) where
 mem:=by simp
 obj:=fun i h st b hb=>by
  have e:b=it:=by simpa using hb
  subst e
  obtain⟨o,e,c,d⟩:=st
  exact⟨o,e,fun v z=>by rw[d]at z;cases z⟩
 keep:=fun i h h' st k=>st.at fun o e=>k it (by simp) o e
 item:=by
  intro X hP hw hK hc i ae s σ H E I hf st hg
  subst hP hw hK
  obtain⟨xs,x,hq,hx⟩:=hg
  obtain⟨its,rv,p,hz⟩:=I.list hq
  obtain⟨u,hu,ru⟩:=rv.get hx
  obtain⟨f0,f1,f2,f3,f4,f5⟩:=hf it (by simp)
  refine wpAny_pyNext_list_item st p.isList (x:=u) (by simpa using hu) fun h' ag sb=>?_
  have I1:Inv X ae σ H {s with heap:=h' }:=I.turned (t':=s.toks) (fun b o hb e=>(sb.2 b hb).trans e) f0 f1 f3 f4 f5
  obtain⟨o,e,c,d⟩:=id ag
  exact⟨u,rfl,Tt (s:={s with heap:=h' }) e c d (by decide) ⟨x,H,I1,ru,⟨rfl,fun ys hy=>by rw[I.list_inj hy hq];exact hx⟩,ag,fun b hb=>(hf b hb).1⟩⟩
 done:=by
  intro X hP hw hK hc i ae s σ H E I hf st hg
  subst hP hw hK
  obtain⟨xs,hq,hx⟩:=hg
  obtain⟨its,rv,p,hz⟩:=I.list hq
  obtain⟨f0,f1,f2,f3,f4,f5⟩:=hf it (by simp)
  have hl:=rv.length
  exact wpAny_pyNext_list_end (I.ok.hd hc) st p.isList (by simp;lia) fun h' eb=>⟨rfl,I.turned (t':=s.toks) (fun b o hb e=>eb b o hb e) f0 f1 f3 f4 f5⟩
 self:=fun _ _ _ _ _ st h=>wpAny_pyIter_listiter st h
def IF {P:Program}{w:World}{K:α3}{tg:Expr}(a it:Addr):Turn P w K tg (Itt K a) [it] it (fun i h=>h.IsTupleIter it a i) where
 mem:=by simp
 obj:=fun i h st b hb=>by
  have e:b=it:=by simpa using hb
  subst e
  obtain⟨o,e,c,d⟩:=st
  exact⟨o,e,fun v z=>by rw[d]at z;cases z⟩
 keep:=fun i h h' st k=>st.at fun o e=>k it (by simp) o e
 item:=by
  intro X hP hw hK hc i ae s σ H E I hf st hg
  subst hP hw hK
  obtain⟨xs,x,hq,hx⟩:=hg
  obtain⟨its,rv,p,hz⟩:=I.tuple hq
  obtain⟨u,hu,ru⟩:=rv.get hx
  obtain⟨f0,f1,f2,f3,f4,f5⟩:=hf it (by simp)
  refine wpAny_pyNext_tuple_item st (show s.heap.IsTuple a its.toArray from p) (x:=u) (by simpa using hu) fun h' ag sb=>?_
  have I1:Inv X ae σ H {s with heap:=h' }:=I.turned (t':=s.toks) (fun b o hb e=>(sb.2 b hb).trans e) f0 f1 f3 f4 f5
  obtain⟨o,e,c,d⟩:=id ag
  exact⟨u,rfl,Tt (s:={s with heap:=h' }) e c d (by decide) ⟨x,H,I1,ru,⟨rfl,fun ys hy=>by rw[I.tuple_inj hy hq];exact hx⟩,ag,fun b hb=>(hf b hb).1⟩⟩
 done:=by
  intro X hP hw hK hc i ae s σ H E I hf st hg
  subst hP hw hK
  obtain⟨xs,hq,hx⟩:=hg
  obtain⟨its,rv,p,hz⟩:=I.tuple hq
  obtain⟨f0,f1,f2,f3,f4,f5⟩:=hf it (by simp)
  have hl:=rv.length
  exact wpAny_pyNext_tuple_end (I.ok.hd hc) st (show s.heap.IsTuple a its.toArray from p) (by simp;lia) fun h' eb=>⟨rfl,I.turned (t':=s.toks) (fun b o hb e=>eb b o hb e) f0 f1 f3 f4 f5⟩
 self:=fun _ _ _ _ _ st h=>wpAny_pyIter_tupleiter st h
def Np {P:Program}{w:World}{K:α3}{tg:Expr}(it:Addr)(lo:Int)(n:Nat):Turn P w K tg (Itr lo n) [it] it (fun i h=>IsRangeIter h it (lo+(i:Nat)*1) ((n:Int)-(i:Nat)) 1) where
 mem:=by simp
 obj:=fun i h st b hb=>by
  have e:b=it:=by simpa using hb
  subst e
  exact⟨_,st,fun v z=>by
   have z':Data.fields _=Data.cell v:=z
   cases z'⟩
 keep:=fun i h h' st k=>k it (by simp) _ st
 item:=by
  intro X hP hw hK hc i ae s σ H E I hf st hg
  subst hP hw hK
  obtain⟨f0,f1,f2,f3,f4,f5⟩:=hf it (by simp)
  have W:=Walks.range (prog:=X.prog) (w:=X.w) (I.ok.hd hc) it lo 1 n
  refine W.item i s _ _ hg st fun v h' tk hv ag kk=>?_
  obtain⟨t,rfl⟩:=hv
  have I1:Inv X ae σ H {s with heap:=h',toks:=tk}:=I.turned (fun b o hb e=>kk b o (by simpa using hb) e) f0 f1 f3 f4 f5
  refine⟨_,rfl,Tt (s:={s with heap:=h',toks:=tk}) (n := "range_iterator") ag rfl rfl (by decide) ⟨.int (lo+i),H,I1,⟨t,?_⟩,⟨rfl,rfl⟩,ag,fun b hb=>(hf b hb).1⟩⟩
  rw[Int.mul_one]
 done:=by
  intro X hP hw hK hc i ae s σ H E I hf st hg
  subst hP hw hK
  obtain⟨f0,f1,f2,f3,f4,f5⟩:=hf it (by simp)
  exact wpAny_pyNext_range_end (I.ok.hd hc) st (by have:n<=i:=hg;lia) fun h' eb=>⟨rfl,I.turned (t':=s.toks) (fun b o hb e=>eb b o hb e) f0 f1 f3 f4 f5⟩
 self:=fun _ _ _ _ _ st h=>wpAny_pyIter_rangeiter st h
end L2
namespace L2
open PySem PySem.Spec PyProof.Rows
section
variable {X:Cx} {tg:Expr}
def UQ (K:α3)(tl:TE):TI:=fun σ H R=>tl σ H fun x H1=>∃a,x=.ref a/\(∃xs,SqL K H1 a xs)/\R (Itl K a) H1
def iTup (K:α3)(tl:TE):TI:=fun σ H R=>tl σ H fun x H1=>∃a,x=.ref a/\(∃xs,SqT K H1 a xs)/\R (Itt K a) H1
def AS   (hl:PE X l tl):PI X tg l (UQ X.K tl):=by
 intro ae s σ H R I h
 refine thn (hl ae s σ H _ I h) fun v s1 ⟨x,H1,I1,r1,q1⟩=>?_
 obtain⟨a,e,⟨xs,hq⟩,q⟩:=q1
 subst e
 cases r1
 obtain⟨its,rv,p,hz⟩:=I1.list hq
 refine zC_ p.isList ?_
 refine⟨s1.heap.objs.size,[s1.heap.objs.size],_,_,H1,rfl,I1.kept (t':=s1.toks) fun b o e=>jg_ _ e,Kk a _,⟨_,jz_ _ rfl,rfl,rfl⟩,fun b hb=>?_,q⟩
 have e:b=s1.heap.objs.size:=by simpa using hb
 subst e
 exact I1.fpOk (ji_ _) (I1.hok.fresh (ji_ _))
def EU   (hl:PE X l tl):PI X tg l (iTup X.K tl):=by
 intro ae s σ H R I h
 refine thn (hl ae s σ H _ I h) fun v s1 ⟨x,H1,I1,r1,q1⟩=>?_
 obtain⟨a,e,⟨xs,hq⟩,q⟩:=q1
 subst e
 cases r1
 obtain⟨its,rv,p,hz⟩:=I1.tuple hq
 refine xu_ (show s1.heap.IsTuple a its.toArray from p) ?_
 refine⟨s1.heap.objs.size,[s1.heap.objs.size],_,_,H1,rfl,I1.kept (t':=s1.toks) fun b o e=>jg_ _ e,IF a _,⟨_,jz_ _ rfl,rfl,rfl⟩,fun b hb=>?_,q⟩
 have e:b=s1.heap.objs.size:=by simpa using hb
 subst e
 exact I1.fpOk (ji_ _) (I1.hok.fresh (ji_ _))
def QT       {lo hi:Int}   (I:Inv X ae σ H s)(h1 : -(2 ^ 62)<=lo)(h2:lo<2 ^ 62)(h3 : -(2 ^ 62)<=hi)(h4:hi<2 ^ 62)
  (q:R (Itr lo (hi-lo).toNat) H):wpAny (model X.prog X.w) X.A (pyIter (.ref s.heap.objs.size)) (PIE X ae σ tg R) E {s with heap:=s.heap.push {cls:=.type "range",data:=.fields #[.int lo t,.int hi u,.int 1 v]},toks:=tk}:=by
 refine wpAny_pyIter_range (IsRange.new ..) (small_one h1 h2 h3 h4) ?_
 have I1:Inv X ae σ H {s with heap:=s.heap.push {cls:=.type "range",data:=.fields #[.int lo t,.int hi u,.int 1 v]},toks:=tk}:=I.kept fun b o e=>jg_ _ e
 refine⟨(s.heap.push {cls:=.type "range",data:=.fields #[.int lo t,.int hi u,.int 1 v]}).objs.size,[(s.heap.push {cls:=.type "range",data:=.fields #[.int lo t,.int hi u,.int 1 v]}).objs.size],_,_,H,rfl,
  I1.kept (t':=tk) fun b o e=>jg_ _ e,Np _ lo (hi-lo).toNat,?_,fun b hb=>?_,q⟩
 ·have e1:lo+((0:Nat):Int)*1=lo:=by simp
  have e2:(((hi-lo).toNat:Nat):Int)-((0:Nat):Int)=Builtin.Range.rangeSize lo hi 1:=by rw[rangeSize_one];split<;>lia
  show IsRangeIter _ _ (lo+((0:Nat):Int)*1) ((((hi-lo).toNat:Nat):Int)-((0:Nat):Int)) 1
  rw[e1,e2]
  exact jz_ _ rfl
 ·have e:b=(s.heap.push {cls:=.type "range",data:=.fields #[.int lo t,.int hi u,.int 1 v]}).objs.size:=by simpa using hb
  subst e
  exact I1.fpOk (ji_ _) (I1.hok.fresh (ji_ _))
def UR (ta:TA):TI:=fun σ H R=>ta σ H fun vs H1=>∃j:Int,vs=[.int j] /\ -(2 ^ 62)<=j/\j<2 ^ 62/\R (Itr 0 j.toNat) H1
def AN    (hg:Gl X "range")(hm:X.mg "range"=none)(ha:PA X [a] ta)(hs:starEach [a] X.env=[(false,eval a X.env)]:=by rfl):PI X tg (.Call (.Name "range" p) [a] [] pos) (UR ta):=by
 intro ae s σ H R I h
 refine Call_ (DW I hg hm boot_range (qk_ (thn (ha pos ae s σ H _ I h) fun us s1 ⟨vs,H1,I1,r1,q1⟩=>?_) hs rfl))
 obtain⟨j,e,q1,q2,q⟩:=q1
 subst e
 cases r1 with
 |cons r rr=>
  cases rr
  obtain⟨t,rfl⟩:=r
  exact call_range_1 (QT I1 s!"" s!"" q1 q2 (by simpa using q))
def tFor (wi:TI)(g:TG)(tb:TS):TS:=fun D σ H=>wi σ H fun J H1=>∃W:Nat->Nat->St->Hp->Prop,(∃m,W 0 m σ H1)/\∀i m σ H,W i m σ H ->
 (J.stop i H/\D.nx σ H)\/(J.go i H/\∃N:St->Hp->Prop,(∀af H',N af H'->∃m',m'<m/\W (i+1) m' af H')/\∀x H',J.yld i H x H'->g x σ H' fun ai H2=>tb {D with nx:=N,ct:=N,bk:=D.nx} ai H2)
def IG (fp:List Addr)(h:Heap):α7:=fp.filterMap fun b=>(h.get? b).map fun o=>(b,o)
def CC     (hb:b∈fp)(e:h.get? b=some o):(b,o)∈IG fp h:=List.mem_filterMap.mpr ⟨b,hb,by rw[e];rfl⟩
def Os    (hp:p∈IG fp h):p.1∈fp/\h.get? p.1=some p.2:=by
 obtain⟨b,hb,e⟩:=List.mem_filterMap.mp hp
 cases q:h.get? b with
 |none=>rw[q]at e;cases e
 |some o=>
  rw[q]at e
  have e':(b,o)=p:=js_ e
  subst e'
  exact⟨hb,q⟩
def Inv.pinned      (I:Inv X ae σ H s)(hf:∀b∈fp,FpOk X ae H b)(ho:∀b∈fp,∃o,s.heap.get? b=some o/\∀v,o.data ≠ .cell v):Inv X (ae++IG fp s.heap) σ H s:=
 I.pins_of fun p hp=>(jw_.mp hp).elim (fun z=>I.pin p (jy_ _ z)) fun z=>by
  obtain⟨hb,e⟩:=Os z
  obtain⟨f0,f1,f2,_⟩:=hf p.1 hb
  obtain⟨o,e',d⟩:=ho p.1 hb
  rw[e]at e';cases e'
  exact⟨e,f0,f1,f2,d⟩
def Inv.unpinned     (I:Inv X (ae++pl) σ H s):Inv X ae σ H s:=I.pins_of fun p hp=>I.pin p (jy_ _ (j6_ _ hp))
def Bo {iter:Expr}  {wi:TI}    (hp:PassesOwn (model X.prog X.w) X.A X.env X.xe)(hc:X.calm=true)(hi:PI X tg iter wi)(hg:PG X tg g)(hb:PSs X body tb)
  (hs:∀x,foldedSetIterable iter X.env x=pure x:=by intro _;rfl):PS X (.For tg iter body [] pos) (tFor wi g tb):=by
 intro ae s σ H D I h
 refine wpAny_For (thn (hi ae s σ H _ I h) fun v s1 h1=>thn h1 fun mU s2 h2=>?_) hs
 obtain⟨it,fp,tn,J,H2,e,I2,T,aX,f2,W,⟨m0,w0⟩,turn⟩:=h2
 subst e
 -- what stays true of pM iterator's objects through pM fC
 have df:∀{H':Hp},(∀b∈fp,H' b=none)->∀b∈fp,FpOk X ae H' b:=fun hn b hb=>⟨hn b hb,(f2 b hb).2⟩
 refine codeAny_forLoop_any (fun n s'=>∃i af H',Inv X ae af H' s'/\tn i s'.heap/\(∀b∈fp,H' b=none)/\W i n af H') ?_ m0 ⟨0,σ,H2,I2,aX,fun b hb=>(f2 b hb).1,w0⟩
 rintro n s3 ⟨i,aE,H3,I3,cm,lW,w3⟩
 rcases turn i n aE H3 w3 with ⟨stop,qn⟩|⟨go,N,hN,step⟩
 ·refine xF_ hp (thn (T.done X rfl rfl rfl hc i ae s3 aE H3 X.xe I3 (df lW) cm stop) fun r s4 ⟨hr,I4⟩=>?_)
  subst hr
  exact zV_ ⟨aE,H3,I4,qn⟩
 ·refine xF_ hp (thn (T.item X rfl rfl rfl hc i ae s3 aE H3 X.xe I3 (df lW) cm go) fun r s4 ⟨u,hr,h4⟩=>?_)
  subst hr
  refine xF_ hp (thn h4 fun _ s5 ⟨x,H5,I5,r5,y5,bB,mV⟩=>?_)
  have mW:=I5.pinned (df mV) (T.obj _ _ bB)
  refine xF_ hp (thn (hg _ s5 aE H5 x u _ mW r5 (step x H5 y5)) fun _ s6 ⟨dJ,H6,I6,q6⟩=>?_)
  refine xF_ hp (thn (hb _ s6 dJ H6 _ I6 q6) fun f s7 q7=>?_)
  have again:∀{dD:St} {H7:Hp},Inv X (ae++IG fp s5.heap) dD H7 s7->N dD H7->∃m,m<n/\∃i af H',Inv X ae af H' s7/\tn i s7.heap/\(∀b∈fp,H' b=none)/\W i m af H':=fun {dD H7} I7 n7=>by
   obtain⟨m',hm,w7⟩:=hN dD H7 n7
   refine⟨m',hm,i+1,dD,H7,I7.unpinned,T.keep _ _ _ bB fun b hb o e=>(I7.pin (b,o) (jy_ _ (jy_ _ (CC hb e)))).1,fun b hb=>?_,w7⟩
   obtain⟨o,e,d⟩:=T.obj _ _ bB b hb
   exact (I7.pin (b,o) (jy_ _ (jy_ _ (CC hb e)))).2.1
  cases f with
  |next=>obtain⟨dD,H7,I7,n7⟩:=q7;exact again I7 n7
  |cont=>obtain⟨dD,H7,I7,n7⟩:=q7;exact again I7 n7
  |brk=>obtain⟨dD,H7,I7,q7⟩:=q7;exact⟨dD,H7,I7.unpinned,q7⟩
  |ret v=>obtain⟨x7,dD,H7,I7,r7,q7⟩:=q7;exact⟨x7,dD,H7,I7.unpinned,r7,q7⟩
end
def QU {K:α3}{a:Addr}{xs:List V}{g:TG}{tb:TS}{D:Ends}{σ:St}{H:Hp}(Pv:Nat->St->Hp->Prop)(h0:Pv 0 σ H)(hl:∀i σ H,i<=xs.length->Pv i σ H->SqL K H a xs)
  (hs:∀i x σ H,xs[i]?=some x->Pv i σ H->g x σ H fun ai H2=>tb {D with nx:=Pv (i+1),ct:=Pv (i+1),bk:=D.nx} ai H2) (hd:∀σ H,Pv xs.length σ H->D.nx σ H):
  ∃W:Nat->Nat->St->Hp->Prop,(∃m,W 0 m σ H)/\∀i m σ H,W i m σ H ->
   ((Itl K a).stop i H/\D.nx σ H)\/((Itl K a).go i H/\∃N:St->Hp->Prop,(∀af H',N af H'->∃m',m'<m/\W (i+1) m' af H')/\∀x H',(Itl K a).yld i H x H'->g x σ H' fun ai H2=>tb {D with nx:=N,ct:=N,bk:=D.nx} ai H2):=by
 refine⟨fun i m σ H=>m=xs.length-i/\i<=xs.length/\Pv i σ H,⟨xs.length,by simp,jY_ _,h0⟩,?_⟩
 rintro i m σ H ⟨rfl,hi,p⟩
 have q:=hl i σ H hi p
 by_cases ar:i<xs.length
 ·refine .inr ⟨⟨xs,xs[i],q,by simp[ar]⟩,Pv (i+1),fun af H' p'=>⟨xs.length-(i+1),by lia,rfl,ar,p'⟩,fun x H' y=>?_⟩
  obtain⟨e,y⟩:=y
  subst e
  exact hs i x σ _ (y xs q) p
 ·have e:i=xs.length:=by lia
  subst e
  exact .inl ⟨⟨xs,q,ji_ _⟩,hd σ H p⟩
def Tu {K:α3}{a:Addr}{xs:List V}{g:TG}{tb:TS}{D:Ends}{σ:St}{H:Hp}(Pv:Nat->St->Hp->Prop)(h0:Pv 0 σ H)(hl:∀i σ H,i<=xs.length->Pv i σ H->SqT K H a xs)
  (hs:∀i x σ H,xs[i]?=some x->Pv i σ H->g x σ H fun ai H2=>tb {D with nx:=Pv (i+1),ct:=Pv (i+1),bk:=D.nx} ai H2) (hd:∀σ H,Pv xs.length σ H->D.nx σ H):
  ∃W:Nat->Nat->St->Hp->Prop,(∃m,W 0 m σ H)/\∀i m σ H,W i m σ H ->
   ((Itt K a).stop i H/\D.nx σ H)\/((Itt K a).go i H/\∃N:St->Hp->Prop,(∀af H',N af H'->∃m',m'<m/\W (i+1) m' af H')/\∀x H',(Itt K a).yld i H x H'->g x σ H' fun ai H2=>tb {D with nx:=N,ct:=N,bk:=D.nx} ai H2):=by
 refine⟨fun i m σ H=>m=xs.length-i/\i<=xs.length/\Pv i σ H,⟨xs.length,by simp,jY_ _,h0⟩,?_⟩
 rintro i m σ H ⟨rfl,hi,p⟩
 have q:=hl i σ H hi p
 by_cases ar:i<xs.length
 ·refine .inr ⟨⟨xs,xs[i],q,by simp[ar]⟩,Pv (i+1),fun af H' p'=>⟨xs.length-(i+1),by lia,rfl,ar,p'⟩,fun x H' y=>?_⟩
  obtain⟨e,y⟩:=y
  subst e
  exact hs i x σ _ (y xs q) p
 ·have e:i=xs.length:=by lia
  subst e
  exact .inl ⟨⟨xs,q,ji_ _⟩,hd σ H p⟩
def Ot {lo:Int}{n:Nat}{g:TG}{tb:TS}{D:Ends}{σ:St}{H:Hp}(Pv:Nat->St->Hp->Prop)(h0:Pv 0 σ H)
  (hs:∀i σ H,i<n->Pv i σ H->g (.int (lo+i)) σ H fun ai H2=>tb {D with nx:=Pv (i+1),ct:=Pv (i+1),bk:=D.nx} ai H2) (hd:∀σ H,Pv n σ H->D.nx σ H):
  ∃W:Nat->Nat->St->Hp->Prop,(∃m,W 0 m σ H)/\∀i m σ H,W i m σ H ->
   ((Itr lo n).stop i H/\D.nx σ H)\/((Itr lo n).go i H/\∃N:St->Hp->Prop,(∀af H',N af H'->∃m',m'<m/\W (i+1) m' af H')/\∀x H',(Itr lo n).yld i H x H'->g x σ H' fun ai H2=>tb {D with nx:=N,ct:=N,bk:=D.nx} ai H2):=by
 refine⟨fun i m σ H=>m=n-i/\i<=n/\Pv i σ H,⟨n,by simp,jY_ _,h0⟩,?_⟩
 rintro i m σ H ⟨rfl,hi,p⟩
 by_cases ar:i<n
 ·refine .inr ⟨ar,Pv (i+1),fun af H' p'=>⟨n-(i+1),by lia,rfl,ar,p'⟩,fun x H' y=>?_⟩
  obtain⟨e,y⟩:=y
  subst e y
  exact hs i σ _ ar p
 ·have e:i=n:=by lia
  subst e
  exact .inl ⟨ji_ _,hd σ H p⟩
end L2
namespace L2
open PySem PySem.Spec PyProof.Rows
abbrev R2:=V->V->Hp->VK->Prop
def OpR (X:Cx)(f:Value->Value->Sem Value)(r:R2):Prop:=
 ∀(ae:α7) (s:Shared) (σ:St) (H:Hp) (x y:V) (v u:Value) (Q:VK),Inv X ae σ H s->RelV x v->RelV y u->r x y H Q ->
  wpAny (model X.prog X.w) X.A (f v u) (EP X ae σ Q) X.xe s
def UnR (X:Cx)(f:Value->Sem Value)(r:V->Hp->VK->Prop):Prop:=
 ∀(ae:α7) (s:Shared) (σ:St) (H:Hp) (x:V) (v:Value) (Q:VK),Inv X ae σ H s->RelV x v->r x H Q ->
  wpAny (model X.prog X.w) X.A (f v) (EP X ae σ Q) X.xe s
def Cm (X:Cx)(f:Value)(r:List V->Hp->VK->Prop):Prop:=
 ∀(ae:α7) (s:Shared) (σ:St) (H:Hp) (xs:List V) (us:List Value) (Q:VK),Inv X ae σ H s->Vals xs us->r xs H Q ->
  wpAny (model X.prog X.w) X.A (call f us) (EP X ae σ Q) X.xe s
def tOp (r:R2)(ta tb:TE):TE:=fun σ H Q=>ta σ H fun x H1=>tb σ H1 fun y H2=>r x y H2 Q
def tUn (r:V->Hp->VK->Prop)(ta:TE):TE:=fun σ H Q=>ta σ H fun x H1=>r x H1 Q
def rI (C:Int->Int->Prop)(g:Int->Int->V):R2:=fun x y H Q=>∃i j,x=.int i/\y=.int j/\C i j/\Q (g i j) H
def rI0 (g:Int->Int->V):R2:=fun x y H Q=>∃i j,x=.int i/\y=.int j/\Q (g i j) H
def rU (g:Int->V):V->Hp->VK->Prop:=fun x H Q=>∃i,x=.int i/\Q (g i) H
section
variable {X:Cx} {a b c:Expr} {ta tb tc:TE} {pos:Pos}
def binT (ha:PE X a ta)(hb:PE X b tb){ae:α7}{s:Shared}{σ:St}{H:Hp}{R:V->V->Hp->Prop}(I:Inv X ae σ H s)
  (h:ta σ H fun x H1=>tb σ H1 fun y H2=>R x y H2) {Q:Value->Shared->Prop} {f:Value->Value->Sem Value}
  (hf:∀v u s2 x y H2,Inv X ae σ H2 s2->RelV x v->RelV y u->R x y H2->wpAny (model X.prog X.w) X.A (f v u) Q X.xe s2):
  wpAny (model X.prog X.w) X.A (eval a X.env) (fun v s₁=>wpAny (model X.prog X.w) X.A (eval b X.env) (fun u bE=>wpAny (model X.prog X.w) X.A (f v u) Q X.xe bE) X.xe s₁) X.xe s:=by
 refine thn (ha ae s σ H _ I h) fun v s1 ⟨x,H1,I1,r1,q1⟩=>?_
 refine thn (hb ae s1 σ H1 _ I1 q1) fun u s2 ⟨y,H2,I2,r2,q2⟩=>?_
 exact hf v u s2 x y H2 I2 r1 r2 q2
def An   (ho:OpR X (binaryOp op) r)(ha:PE X a ta)(hb:PE X b tb):PE X (.BinOp a op b pos) (tOp r ta tb):=by
 intro ae s σ H Q I h
 exact wpAny_BinOp (binT ha hb I h fun v u s2 x y H2 I2 rx ry q=>ho ae s2 σ H2 x y v u Q I2 rx ry q)
def US   (ho:UnR X (unaryOp op) r)(ha:PE X a ta):PE X (.UnaryOp op a pos) (tUn r ta):=by
 intro ae s σ H Q I h
 exact UnaryOp_ (thn (ha ae s σ H _ I h) fun v s1 ⟨x,H1,I1,r1,q1⟩=>ho ae s1 σ H1 x v Q I1 r1 q1)
def opI {f:Value->Value->Sem Value}{C:Int->Int->Prop}{g:Int->Int->Int}
  (rule:∀(i j:Int) (t u:Tok) (s:Shared) (Q:Value->Shared->Prop) (E:Value->Shared->Prop),C i j->Q (.int (g i j) s.toks) {s with toks:=s.toks+1}->wpAny (model X.prog X.w) X.A (f (.int i t) (.int j u)) Q E s):
  OpR X f (rI C fun i j=>.int (g i j)):=by
 intro ae s σ H x y v u Q I rx ry h
 obtain⟨i,j,rfl,rfl,hc,q⟩:=h
 obtain⟨t,rfl⟩:=rx
 obtain⟨t',rfl⟩:=ry
 exact rule i j t t' s _ _ hc ⟨.int (g i j),H,I.tok _,⟨_,rfl⟩,q⟩
def opI0 {f:Value->Value->Sem Value}{g:Int->Int->Int}
  (rule:∀(i j:Int) (t u:Tok) (s:Shared) (Q:Value->Shared->Prop) (E:Value->Shared->Prop),Q (.int (g i j) s.toks) {s with toks:=s.toks+1}->wpAny (model X.prog X.w) X.A (f (.int i t) (.int j u)) Q E s):
  OpR X f (rI0 fun i j=>.int (g i j)):=by
 intro ae s σ H x y v u Q I rx ry h
 obtain⟨i,j,rfl,rfl,q⟩:=h
 obtain⟨t,rfl⟩:=rx
 obtain⟨t',rfl⟩:=ry
 exact rule i j t t' s _ _ ⟨.int (g i j),H,I.tok _,⟨_,rfl⟩,q⟩
def opB0 {f:Value->Value->Sem Value}{g:Int->Int->Bool}
  (rule:∀(i j:Int) (t u:Tok) (s:Shared) (Q:Value->Shared->Prop) (E:Value->Shared->Prop),Q (.bool (g i j)) s->wpAny (model X.prog X.w) X.A (f (.int i t) (.int j u)) Q E s):
  OpR X f (rI0 fun i j=>.bl (g i j)):=by
 intro ae s σ H x y v u Q I rx ry h
 obtain⟨i,j,rfl,rfl,q⟩:=h
 obtain⟨t,rfl⟩:=rx
 obtain⟨t',rfl⟩:=ry
 exact rule i j t t' s _ _ ⟨.bl (g i j),H,I,rfl,q⟩
def CDiv (i j:Int):Prop:=0<j/\j<1073741824
def CMul (i j:Int):Prop:=(-(2 ^ 64)<i/\i<2 ^ 64)\/(-(2 ^ 64)<j/\j<2 ^ 64)
def CMul.ok  (h:CMul i j):IntMulOk i j:=by
 rcases h with ⟨h1,h2⟩|⟨h1,h2⟩
 ·exact .of_left (intBits_le_64 h1 h2)
 ·exact .of_right (intBits_le_64 h1 h2)
def AU:OpR X (binaryOp .Add) (rI0 fun i j=>.int (i+j)):=opI0 fun _ _ _ _ _ _ _ q=>add_int q
def CM:OpR X (binaryOp .Sub) (rI0 fun i j=>.int (i-j)):=opI0 fun _ _ _ _ _ _ _ q=>sub_int q
def Fo:OpR X (binaryOp .Mult) (rI CMul fun i j=>.int (i*j)):=opI fun _ _ _ _ _ _ _ hc q=>mul_int q hc.ok
def BS:OpR X (binaryOp .FloorDiv) (rI CDiv fun i j=>.int (i / j)):=opI fun i j _ _ _ _ _ hc q=>by
 have h1:(0:Int)<j:=hc.1
 have h2:j<1073741824:=hc.2
 exact floordiv_int s!"" (by rw[Int.fdiv_eq_ediv_of_nonneg i s!""];exact q) (.inl (PyProof.noPylong_small s!""))
def AJ:OpR X (binaryOp .Mod) (rI (fun _ j=>0<j) fun i j=>.int (i%j)):=opI fun i j _ _ _ _ _ hc q=>by
 have h1:(0:Int)<j:=hc
 exact mod_int' s!"" (by rw[Int.fmod_eq_emod_of_nonneg i s!""];exact q)
def unI {f:Value->Sem Value}{g:Int->Int}
  (rule:∀(i:Int) (t:Tok) (s:Shared) (Q:Value->Shared->Prop) (E:Value->Shared->Prop),Q (.int (g i) s.toks) {s with toks:=s.toks+1}->wpAny (model X.prog X.w) X.A (f (.int i t)) Q E s):
  UnR X f (rU fun i=>.int (g i)):=by
 intro ae s σ H x v Q I rx h
 obtain⟨i,rfl,q⟩:=h
 obtain⟨t,rfl⟩:=rx
 exact rule i t s _ _ ⟨.int (g i),H,I.tok _,⟨_,rfl⟩,q⟩
def Sj:UnR X (unaryOp .USub) (rU fun i=>.int (-i)):=unI fun _ _ _ _ _ q=>neg_int q
end
def scal:V->V->Bool
 |.non,.non=>true | .non,.int _=>true | .int _,.non=>true | .non,.bl _=>true | .bl _,.non=>true | .non,.str _=>true | .str _,.non=>true
 |.int _,.int _=>true | .bl _,.bl _=>true | .str _,.str _=>true | .byt _,.byt _=>true
 |.int _,.str _=>true | .str _,.int _=>true | .bl _,.str _=>true | .str _,.bl _=>true
 |_,_=>false
def rEq:R2:=fun x y H Q=>scal x y=true/\Q (.bl (decide (x=y))) H
def rNe:R2:=fun x y H Q=>scal x y=true/\Q (.bl (!decide (x=y))) H
def Ou  : decide (V.int i=V.int j)=(i==j):=by
 rw[qy_]
 simp
def Sk  : decide (V.bl i=V.bl j)=(i==j):=by
 rw[qy_]
 simp
def Ov  : decide (V.str i=V.str j)=(i==j):=by
 rw[qy_]
 simp
def Ow  : decide (V.byt i=V.byt j)=(i.toList==j.toList):=by
 rw[qy_]
 cases i
 cases j
 simp
section
variable {X:Cx} {a b c:Expr} {ta tb tc:TE} {pos:Pos}
def A0       (I:Inv X ae σ H s)(q:Q (.bl k) H)(e:k=k'):EP X ae σ Q (.bool k') s:=by
 subst e
 exact⟨.bl k,H,I,rfl,q⟩
def B6:OpR X (compareOp .Eq) rEq:=by
 intro ae s σ H x y v u Q I rx ry h
 obtain⟨hs,q⟩:=h
 cases x with
 |non=>
  cases rx
  cases y with
  |non=>cases ry;exact vm (A0 I q (by simp))
  |bl j=>cases ry;exact vn (A0 I q (by simp))
  |int j=>obtain⟨t',rfl⟩:=ry;exact vz (A0 I q (by simp))
  |str j=>obtain⟨t',rfl⟩:=ry;exact vA (A0 I q (by simp))
  |_=>exact absurd (show false=true from hs) ju_
 |bl i=>
  cases rx
  cases y with
  |non=>cases ry;exact vo (A0 I q (by simp))
  |bl j=>cases ry;exact eq_bool (A0 I q Sk)
  |str j=>obtain⟨t',rfl⟩:=ry;exact vp (A0 I q (by simp))
  |_=>exact absurd (show false=true from hs) ju_
 |int i=>
  obtain⟨t,rfl⟩:=rx
  cases y with
  |non=>cases ry;exact vB (A0 I q (by simp))
  |int j=>obtain⟨t',rfl⟩:=ry;exact eq_int (A0 I q Ou)
  |str j=>obtain⟨t',rfl⟩:=ry;exact vC (A0 I q (by simp))
  |_=>exact absurd (show false=true from hs) ju_
 |str i=>
  obtain⟨t,rfl⟩:=rx
  cases y with
  |non=>cases ry;exact vE (A0 I q (by simp))
  |bl j=>cases ry;exact vq (A0 I q (by simp))
  |int j=>obtain⟨t',rfl⟩:=ry;exact vF (A0 I q (by simp))
  |str j=>obtain⟨t',rfl⟩:=ry;exact eq_str (A0 I q Ov)
  |_=>exact absurd (show false=true from hs) ju_
 |byt i=>
  obtain⟨t,rfl⟩:=rx
  cases y with
  |byt j=>obtain⟨t',rfl⟩:=ry;exact xb (A0 I q Ow)
  |_=>exact absurd (show false=true from hs) ju_
 |_=>cases y<;>exact absurd (show false=true from hs) ju_
def QV:OpR X (compareOp .NotEq) rNe:=by
 intro ae s σ H x y v u Q I rx ry h
 obtain⟨hs,q⟩:=h
 cases x with
 |non=>
  cases rx
  cases y with
  |non=>cases ry;exact vt (A0 I q (by simp))
  |bl j=>cases ry;exact vv (A0 I q (by simp))
  |int j=>obtain⟨t',rfl⟩:=ry;exact vG (A0 I q (by simp))
  |str j=>obtain⟨t',rfl⟩:=ry;exact vH (A0 I q (by simp))
  |_=>exact absurd (show false=true from hs) ju_
 |bl i=>
  cases rx
  cases y with
  |non=>cases ry;exact vw (A0 I q (by simp))
  |bl j=>cases ry;exact ne_bool (A0 I q (jG_ not Sk))
  |str j=>obtain⟨t',rfl⟩:=ry;exact vx (A0 I q (by simp))
  |_=>exact absurd (show false=true from hs) ju_
 |int i=>
  obtain⟨t,rfl⟩:=rx
  cases y with
  |non=>cases ry;exact vI (A0 I q (by simp))
  |int j=>obtain⟨t',rfl⟩:=ry;exact ne_int (A0 I q (jG_ not Ou))
  |str j=>obtain⟨t',rfl⟩:=ry;exact vJ (A0 I q (by simp))
  |_=>exact absurd (show false=true from hs) ju_
 |str i=>
  obtain⟨t,rfl⟩:=rx
  cases y with
  |non=>cases ry;exact vK (A0 I q (by simp))
  |bl j=>cases ry;exact vy (A0 I q (by simp))
  |int j=>obtain⟨t',rfl⟩:=ry;exact vL (A0 I q (by simp))
  |str j=>obtain⟨t',rfl⟩:=ry;exact ne_str (A0 I q (jG_ not Ov))
  |_=>exact absurd (show false=true from hs) ju_
 |byt i=>
  obtain⟨t,rfl⟩:=rx
  cases y with
  |byt j=>obtain⟨t',rfl⟩:=ry;exact xc (A0 I q (jG_ not Ow))
  |_=>exact absurd (show false=true from hs) ju_
 |_=>cases y<;>exact absurd (show false=true from hs) ju_
def Hg:OpR X (compareOp .Lt) (rI0 fun i j=>.bl (decide (i<j))):=opB0 fun _ _ _ _ _ _ _ q=>lt_int q
def UT:OpR X (compareOp .LtE) (rI0 fun i j=>.bl (decide (i<=j))):=opB0 fun _ _ _ _ _ _ _ q=>le_int q
def Tv:OpR X (compareOp .Gt) (rI0 fun i j=>.bl (decide (j<i))):=opB0 fun _ _ _ _ _ _ _ q=>gt_int q
def UU:OpR X (compareOp .Is) (fun x y H Q=>y=.non/\Q (.bl (decide (x=.non))) H):=by
 intro ae s σ H x y v u Q I rx ry h
 obtain⟨rfl,q⟩:=h
 cases ry
 refine is_none_gen (A0 I q ?_)
 cases x<;>first
  | (cases rx;rfl)
  | (obtain⟨t,rfl⟩:=rx;rfl)
def AF (b:Expr)  (h:op ≠ .In:=by decide)(h2:op ≠ .NotIn:=by decide):behindInMarks op b=false:=by
 have e1:(op==CmpOp.In)=false:=by cases op<;>first|rfl|exact absurd rfl h
 have e2:(op==CmpOp.NotIn)=false:=by cases op<;>first|rfl|exact absurd rfl h2
 cases b<;>simp[behindInMarks,e1,e2]
def Tw   (ho:OpR X (compareOp op) r)(ha:PE X a ta)(hb:PE X b tb)(hm:behindInMarks op b=false):PE X (.Compare a [op] [b] pos) (tOp r ta tb):=by
 intro ae s σ H Q I h
 exact wpAny_Compare1 (binT ha hb I h fun v u s2 x y H2 I2 rx ry q=>ho ae s2 σ H2 x y v u Q I2 rx ry q) hm
def QW (t:TE):TT:=fun σ H Q=>t σ H fun x H'=>∃k,x=.bl k/\Q k H'
def As   (ho:OpR X (compareOp op) r)(ha:PE X a ta)(hb:PE X b tb)(hm:behindInMarks op b=false):PT X (.Compare a [op] [b] pos) (QW (tOp r ta tb)):=by
 intro ae s σ H Q I h
 refine wpAny_isTrue_Compare1 (thn (ha ae s σ H _ I h) fun v s1 ⟨x,H1,I1,r1,q1⟩=>thn (hb ae s1 σ H1 _ I1 q1) fun u s2 ⟨y,H2,I2,r2,q2⟩ =>
  thn (ho ae s2 σ H2 x y v u _ I2 r1 r2 q2) fun c s3 ⟨z,H3,I3,r3,k,e,q3⟩=>?_) hm
 subst e
 cases r3
 exact x4_ ⟨H3,I3,q3⟩
def Sl (r r':R2)(ta tb tc:TE):TE:=fun σ H Q=>ta σ H fun x H1=>tb σ H1 fun y H2=>r x y H2 fun z H3=>∃k,z=.bl k /\
 (if k=true then tc σ H3 fun w' H4=>r' y w' H4 Q else Q (.bl false) H3)
def QX   (ho:OpR X (compareOp op) r)(iR:OpR X (compareOp op') r')(ha:PE X a ta)(hb:PE X b tb)(hc:PE X c tc)
  (hm:lastMarks [op,op'] [b,c]=false:=by with_unfolding_all rfl):PE X (.Compare a [op,op'] [b,c] pos) (Sl r r' ta tb tc):=by
 intro ae s σ H Q I h
 refine Compare_chain (thn (ha ae s σ H _ I h) fun v s1 ⟨x,H1,I1,r1,q1⟩=>chain_link (thn (hb ae s1 σ H1 _ I1 q1) fun u s2 ⟨y,H2,I2,r2,q2⟩ =>
  thn (ho ae s2 σ H2 x y v u _ I2 r1 r2 q2) fun d s3 ⟨z,H3,I3,r3,k,e,q3⟩=>?_)) hm
 subst e
 cases r3
 refine x4_ ?_
 cases k with
 |false=>exact ite_ff ⟨.bl false,H3,I3,rfl,q3⟩
 |true=>exact ite_tt (chain_last (thn (hc ae s3 σ H3 _ I3 q3) fun w' s4 ⟨z',H4,I4,r4,q4⟩=>iR ae s4 σ H4 y z' u w' Q I4 r2 r4 q4))
def Kl:(sizeLine:Nat)<2 ^ 63:=by rw[zW_];decide
def vals1   (r:Vals [x] us):∃u,us=[u]/\RelV x u:=by
 cases r with
 |cons r1 r2=>cases r2;exact⟨_,rfl,r1⟩
def vals2   (r:Vals [x,y] us):∃u w',us=[u,w']/\RelV x u/\RelV y w':=by
 cases r with
 |cons r1 r2=>
  cases r2 with
  |cons r3 r4=>cases r4;exact⟨_,_,rfl,r1,r3⟩
def Ox (hc:X.calm=true):Cm X (.builtin "min") (fun xs H Q=>∃i j,xs=[.int i,.int j]/\Q (.int (if j<i then j else i)) H):=by
 intro ae s σ H xs us Q I r h
 obtain⟨i,j,rfl,q⟩:=h
 obtain⟨u,w',rfl,⟨t,rfl⟩,⟨t',rfl⟩⟩:=vals2 r
 refine min_two_ints (I.ok.hd hc) fun h' tk k=>⟨_,H,I.kept k,?_,q⟩
 by_cases hj:j<i
 ·rw[if_pos hj,if_pos hj];exact⟨_,rfl⟩
 ·rw[if_neg hj,if_neg hj];exact⟨_,rfl⟩
end
end L2
namespace L2
open PySem PySem.Spec PyProof.Rows
structure ObjM (h:Heap)(x dx C:Addr)(mA:Str->α5):Prop where
 obj:h.get? x=some (tS C dx)
 ns:h.Ns1 dx mA
 ne:dx≠x
def Oy {h:Heap}{dx:Addr}{mA:Str->α5}(n:h.Ns1 dx mA):∃od,h.get? dx=some od/\∀name,ua name od=some (mA name):=by
 obtain⟨o,es,ep,ho,hd,hk,_,hm⟩:=n
 refine⟨o,ho,fun name=>?_⟩
 have e:=hm name
 unfold nsFind findBy at e
 rw[<-Array.find?_toList]at e
 unfold ua
 rw[hd]
 dsimp only
 split
 ·rename_i y q
  rw[q]at e
  exact jG_ some e
 ·rename_i q
  rw[q]at e
  have a:es.toList.any (·.refKey)=false:=by
   rw[ur]
   intro y hy
   obtain⟨z,t,bU⟩:=hk y (Array.mem_toList_iff.mp hy)
   simp[DictEntry.refKey,bU]
  have a':¬ es.toList.any (·.refKey)=true:=by rw[a];exact ju_
  rw[if_neg a']
  exact jG_ some e
def ObjM.look    (I:ObjM h x dx C mA):∃od,xx h x (tS C dx) C (some od)/\∀name,ua name od=some (mA name):=
 let ⟨od,ho,hl⟩:=Oy I.ns
 ⟨od,⟨I.obj,rfl,rfl,ho⟩,hl⟩
def RelO.some_of   (r:RelO (some v) o):∃u,o=some u/\RelV v u:=by
 cases o with
 |none=>exact (show False from r).elim
 |some u=>exact⟨u,rfl,r⟩
section
variable {P:Program} {w:World} {H H':Hp} {h h':Heap} {a C dx:Addr} {fs fs':List (Str×V)}
def Tx (hok:HOk P w H h)(e:H a=some (.ins C dx fs)):∃mA,ObjM h a dx C mA/\(∀f,RelO (fs.lookup f) (mA f))/\vX mA (fs.map (·.1))/\fs.length<=1000/\H dx=some (.own a):=by
 obtain⟨d,z,ne,ob,mA,n,r,q⟩:=(show Bk P w H h a (.ins C dx fs) from hok a _ e)
 exact⟨mA,⟨ob,n,ne⟩,r,q,z,d⟩
end
structure Cls (K:α3)(C:Addr):Prop where
 pg:uH K C Str.empty=true
 hd:wY K C=true
 po:wZ K C=true
 sa:vb K (.ref C) "__setattr__"=some (some (.builtin "object.__setattr__"))
def Cls.get {K:α3}  (c:Cls K C)(f:Str):uH K C f=true:=c.pg
section
variable {X:Cx} {ae:α7} {σ:St} {H:Hp} {s:Shared} {A:Around} {E:Value->Shared->Prop} {Q:Value->Shared->Prop} {c:Value} {b:Bool}
inductive TyOf (K:α3)(H:Hp):V->Value->Prop where
 | non:TyOf K H .non (.type "NoneType")
 | bl (x:Bool):TyOf K H (.bl x) (.type "bool")
 | int (i:Int):TyOf K H (.int i) (.type "int")
 | str (x:Str):TyOf K H (.str x) (.type "str")
 | flt (x:UInt64):TyOf K H (.flt x) (.type "float")
 | lst {a:Addr} {xs:List V} (e:H a=some (.lst xs)):TyOf K H (.ref a) (.type "list")
 | frz {a:Addr} {o:Obj} {xs:List V} (e:H a=some (.frz o (.lst xs))):TyOf K H (.ref a) (.type "list")
 | tup {a:Addr} {xs:List V} (e:H a=some (.tup xs)):TyOf K H (.ref a) (.type "tuple")
 | dK {a:Addr} {kvs:List (Key×V)} (e:H a=some (.dK kvs)):TyOf K H (.ref a) (.type "dict")
 | dT {a:Addr} {kvs:List (List Key×V)} (e:H a=some (.dT kvs)):TyOf K H (.ref a) (.type "dict")
 | ins {a C dx:Addr} {fs:List (Str×V)} (e:H a=some (.ins C dx fs)) (cl:Cls K C) (ha:vb K (.ref C) "__class__"=some (some (.builtin "object.__class__")))
   (hn:w5 K (.builtin "object.__class__") "__get__"=some (some (.builtin "getset_descriptor.__get__"))) (iS:xr K (.builtin "object.__class__")=some true)
   (hm:xC K C (.type "object")=some true):TyOf K H (.ref a) (.ref C)
def Oz   (I:Inv X ae σ H s)(rx:RelV x u)(ty:TyOf X.K H x t)(e:kitOne X.K t c=some b)(h:∀tk,Q (.bool b) {s with toks:=tk}):
  wpAny (model X.prog X.w) A (call (.builtin "isinstance") [u,c]) Q E s:=by
 cases ty with
 |non=>cases (show u=Value.none from rx);exact qz_ w6 I.kIn rZ e (fun z=>nomatch z) h
 |bl y=>cases (show u=Value.bool y from rx);exact qz_ w9 I.kIn rZ e (fun z=>nomatch z) h
 |int i=>obtain⟨t,q⟩:=(show ∃t,u=Value.int i t from rx);cases q;exact qz_ xf I.kIn rZ e (fun z=>nomatch z) h
 |str y=>obtain⟨t,q⟩:=(show ∃t,u=Value.str y t from rx);cases q;exact qz_ xg I.kIn rZ e (fun z=>nomatch z) h
 |flt y=>obtain⟨t,q⟩:=(show ∃t,u=Value.float y t from rx);cases q;exact qz_ wQ I.kIn rZ e (fun z=>nomatch z) h
 |@lst a xs ea=>
  cases (show u=Value.ref a from rx)
  obtain⟨_,_,n,_,h1⟩:=(show Bk X.prog X.w H s.heap a (.lst xs) from I.hok a _ ea)
  exact qz_ wd_ I.kIn ⟨_,h1,rfl⟩ e (fun z=>nomatch z) h
 |@frz a ob xs ea=>
  cases (show u=Value.ref a from rx)
  obtain⟨_,_,_,n,_,h1⟩:=(show Bk X.prog X.w H s.heap a (.frz ob (.lst xs)) from I.hok a _ ea)
  exact qz_ wd_ I.kIn ⟨_,h1,rfl⟩ e (fun z=>nomatch z) h
 |@tup a xs ea=>
  cases (show u=Value.ref a from rx)
  obtain⟨_,_,_,p⟩:=(show Bk X.prog X.w H s.heap a (.tup xs) from I.hok a _ ea)
  obtain⟨o,h1,h2,_⟩:=p
  exact qz_ uj I.kIn ⟨o,h1,h2⟩ e (fun z=>nomatch z) h
 |@dK a kvs ea=>
  cases (show u=Value.ref a from rx)
  obtain⟨_,_,vs,_,p⟩:=(show Bk X.prog X.w H s.heap a (.dK kvs) from I.hok a _ ea)
  obtain⟨o,es,ep,h1,h2,_⟩:=p
  exact qz_ uu I.kIn ⟨o,h1,h2.1⟩ e (fun z=>nomatch z) h
 |@dT a kvs ea=>
  cases (show u=Value.ref a from rx)
  obtain⟨_,_,xs,_,o,es,ep,h1,h2,_⟩:=(show Bk X.prog X.w H s.heap a (.dT kvs) from I.hok a _ ea)
  exact qz_ uu I.kIn ⟨o,h1,h2.1⟩ e (fun z=>nomatch z) h
 |@ins a C dx fs ea cl ha hn iS hm=>
  cases (show u=Value.ref a from rx)
  obtain⟨mA,O,_⟩:=Tx I.hok ea
  obtain⟨od,J,_⟩:=O.look
  exact qz_ (xh (cl.get _) cl.hd ha hn iS hm) I.kIn J e (fun z=>nomatch z) h
end
end L2
namespace L2
open PySem PySem.Spec PyProof.Rows
structure Room (k:Nat)(A:Around):Prop where
 hd:A.handled=none
 dp:A.depth+3*k+5<recursionLimit
 un:A.units+16*k+200<cLine
def Room.mono   (r:Room k A)(h:j<=k):Room j A:=⟨r.hd,by have:=r.dp;lia,by have:=r.un;lia⟩
def Room.deeper   (r:Room (k+1) A)(env:Env):Room k (A.deeper env):=
 ⟨r.hd,by have:=r.dp;show A.depth+1+3*k+5<_;lia,by have:=r.un;show A.units+3+16*k+200<_;lia⟩
def Room.in1   (r:Room (k+1) A):Room k A.in1:=
 ⟨r.hd,by have:=r.dp;show A.depth+3*k+5<_;lia,by have:=r.un;show A.units+1+16*k+200<_;lia⟩
def Room.depth   (r:Room k A):A.depth<recursionLimit:=by have:=r.dp;lia
def Room.units   (r:Room k A):A.units+64<cLine:=by have:=r.un;lia
def tNil:TA:=fun _ H Q=>Q [] H
def UV (ta:TE)(tr:TA):TA:=fun σ H Q=>ta σ H fun x H1=>tr σ H1 fun xs H2=>Q (x::xs) H2
section
variable {X:Cx} {e:Expr} {es:List Expr} {te:TE} {t:TA} {pos:Pos}
def Ad:PA X [] tNil:=fun _ _ _ _ H Q I h=>x5_ ⟨[],H,I,.nil,h⟩
def Aa (ha:PE X e te)(hr:PA X es t)(hs:starEach (e::es) X.env=(false,eval e X.env)::starEach es X.env:=by rfl):PA X (e::es) (UV te t):=by
 intro pos ae s σ H Q I h
 rw[hs]
 show wpAny _ _ (spliced ((false,eval e X.env)::backTo pos (starEach es X.env))) _ _ s
 refine xv_ (thn (ha ae s σ H _ I h) fun u s1 ⟨x,H1,I1,r1,q1⟩=>?_)
 exact thn (hr pos ae s1 σ H1 _ I1 q1) fun us s2 ⟨xs,H2,I2,r2,q2⟩=>⟨x::xs,H2,I2,.cons r1 r2,q2⟩
def tTup (t:TA):TE:=fun σ H Q=>t σ H fun xs H1=>xs.length<=sizeLine/\∀p,H1 p=none->Q (.ref p) (upd H1 p (.tup xs))
def tLst (t:TA):TE:=fun σ H Q=>t σ H fun xs H1=>xs.length<=sizeLine/\∀p,H1 p=none->Q (.ref p) (upd H1 p (.lst xs))
def Bs {x1}(h:PA X es t):PE X (.Tuple es x1 pos) (tTup t):=by
 intro ae s σ H Q I hq
 refine wpAny_Tuple_spliced (thn (h pos ae s σ H _ I hq) fun us s1 ⟨xs,H1,I1,r,z,q⟩=>⟨by rw[<-r.length];exact z,?_⟩)
 have hf:H1 s1.heap.objs.size=none:=I1.hok.fresh (ji_ _)
 refine⟨.ref s1.heap.objs.size,upd H1 s1.heap.objs.size (.tup xs),I1.laid (t':=s1.toks) (fun b u e=>jg_ _ e) (ji_ _) ?_,rfl,q _ hf⟩
 exact⟨z,us,r,⟨_,jz_ _ rfl,rfl,_,rfl⟩⟩
def Bl (h:PA X es t):PE X (.List es pos) (tLst t):=by
 intro ae s σ H Q I hq
 refine wpAny_List_spliced (thn (h pos ae s σ H _ I hq) fun us s1 ⟨xs,H1,I1,r,z,q⟩=>⟨by rw[<-r.length];exact z,?_⟩)
 have hf:H1 s1.heap.objs.size=none:=I1.hok.fresh (ji_ _)
 refine⟨.ref s1.heap.objs.size,upd H1 s1.heap.objs.size (.lst xs),I1.laid (t':=s1.toks) (fun b u e=>jg_ _ e) (ji_ _) ?_,rfl,q _ hf⟩
 exact⟨z,us,0,r,jz_ _ rfl⟩
end
abbrev Sp:=List V->Hp->VK->XK->Prop
abbrev CXT:=List Env->Hp->Shared->XK->Value->Shared->Prop
structure Env0 (P:Program)(w:World)(K:α3)(mg:Str->α5)(base:Heap)(A:Around)(outer:List Env)(s:Shared)(H:Hp):Prop where
 frames:A.frames=some outer
 mod:Mod K mg base
 bs:∀b o,base.get? b=some o->s.heap.get? b=some o/\H b=none
 bsz:base.objs.size<=s.heap.objs.size
 funs:s.heap.FunFrames base outer
 frf:∀b∈frs outer,H b=none
 hok:HOk P w H s.heap
 bare:AllBare s.gens
def CE (outer:List Env)(P:Program)(w:World)(H:Hp)(s:Shared)(Q:VK)(u:Value)(s':Shared):Prop:=
 ∃v H',s'.os=s.os/\AllBare s'.gens/\Un (frs outer) [] H H' s.heap s'.heap/\HOk P w H' s'.heap/\RelV v u/\Q v H'
def CR (CX:CXT)(outer:List Env)(P:Program)(w:World)(H:Hp)(s:Shared)(Q:VK)(E:XK)(r:Result)(s':Shared):Prop:=
 match r with
 |.ok (.ret u)=>CE outer P w H s Q u s'
 |.ok _=>False
 |.error e=>CX outer H s E e s'
structure FnOk (P:Program)(w:World)(K:α3)(mg:Str->α5)(base:Heap)(CX:CXT)(k:Nat)(f:Addr)(fd:α6)(ps:List Str)(sp:Sp):Prop where
 len:∀vs H Q E,sp vs H Q E->vs.length=ps.length
 run:∀(A:Around) (outer:List Env) (s:Shared) (H:Hp) (args:Args) (us:List Value) (vs:List V) (Q:VK) (E:XK),Room k A->Env0 P w K mg base A outer s H->BindsTo s fd args (ps.zip us)->Vals vs us->sp vs H Q E ->
  codeAny (model P w) A (.call (.ref f) args) (CR CX outer P w H s Q E) s
def Env0.in1   {K:α3}       (e:Env0 P w K mg base A outer s H):
  Env0 P w K mg base A.in1 outer s H:=⟨e.frames,e.mod,e.bs,e.bsz,e.funs,e.frf,e.hok,e.bare⟩
section
variable {X:Cx} {ae:α7} {σ:St} {H:Hp} {s s':Shared}
def Inv.env0 (I:Inv X ae σ H s):Env0 X.prog X.w X.K X.mg X.base X.A X.stack s H:=
 ⟨I.ok.frames,I.ok.mod,I.bs,qt_ I.ok.bsz I.sz,I.stack,I.stkFree,I.hok,I.bare⟩
def Inv.after   (I:Inv X ae σ H s)(h:CE X.stack X.prog X.w H s Q u s'):EP X ae σ Q u s':=by
 obtain⟨v,H',os,bare,un,hok,r,q⟩:=h
 obtain⟨hh,g,d,t,os'⟩:=s'
 obtain rfl:os'=s.os:=os
 exact⟨v,H',I.call (h':=hh) (g':=g) (d':=d) (t':=t) (ch:=[]) un hok bare (fun b z=>absurd z (by simp)),r,q⟩
end
def Ty (sp:Sp)(iy:List V)(E:XK)(t:TA):TE:=fun σ H Q=>t σ H fun vs H1=>sp (vs++iy) H1 Q E
def Binds (K:α3)(fd:α6)(ps:List Str)(ds:List Value):Prop:=
 ∀(s:Shared) (us:List Value),K.In s.heap->(us++ds).length=ps.length->BindsTo s fd ⟨us,[]⟩ (ps.zip (us++ds))
def Binds.all {K:α3}   (h:∀us:List Value,us.length=ps.length->bindArgs fd ⟨us,[]⟩=pure (ps.zip us)):Binds K fd ps []:=fun s us _ hl=>by
 rw[ql_]at hl ⊢
 exact .of_eq (h us hl)
def Mr (CX:CXT)(X:Cx)(E:XK):Prop:=∀(ae:α7) (σ:St) (H:Hp) (s:Shared) (e:Value) (s':Shared),Inv X ae σ H s->CX X.stack H s E e s'->X.xe e s'
section
variable {X:Cx} {CX:CXT} {k:Nat} {f C:Addr} {fd:α6} {ps:List Str} {sp:Sp} {iy:List V} {ds:List Value} {E:XK} {x m:Str} {p pos bM:Pos} {e o:Expr} {es:List Expr} {ta:TE} {t:TA}
def UW        (F:FnOk X.prog X.w X.K X.mg X.base CX k f fd ps sp)(hr:Room k X.A)(hb:Binds X.K fd ps ds)(hd:Vals iy ds)(hx:Mr CX X E)
  (I:Inv X ae σ H s) (r:Vals vs us) (h:sp (vs++iy) H Q E):wpAny (model X.prog X.w) X.A (call (.ref f) us) (EP X ae σ Q) X.xe s:=by
 have r2:Vals (vs++iy) (us++ds):=r.append hd
 have hl:(us++ds).length=ps.length:=by rw[<-r2.length];exact F.len _ _ _ _ h
 refine wpAny_call (codeAny_mono (F.run X.A X.stack s H ⟨us,[]⟩ (us++ds) (vs++iy) Q E hr I.env0 (hb s us I.kIn hl) r2 h) fun r s' hq=>?_)
 cases r with
 |error e=>exact hx ae σ H s e s' I hq
 |ok fl=>
  cases fl with
  |ret u=>exact I.after hq
  |next=>exact sj hq
  |brk=>exact sj hq
  |cont=>exact sj hq
def Tz (F:FnOk X.prog X.w X.K X.mg X.base CX k f fd ps sp)(hr:Room k X.A)(hg:Gl X x)(hm:X.mg x=some (.ref f))(hk:keepIn X.K (.ref f)=true)(hb:Binds X.K fd ps ds)(hd:Vals iy ds)(hx:Mr CX X E)
  (ha:PA X (e::es) t) (jV:(x==("__debug__" : Str))=false:=by decide) (he:starEach (e::es) X.env=(false,eval e X.env)::starEach es X.env:=by rfl) (iz:(backTo pos (starEach es X.env)).any (·.1)=false:=by rfl):
  PE X (.Call (.Name x p) (e::es) [] pos) (Ty sp iy E t):=by
 intro ae s σ H Q I h
 refine xw_ (Tq I hg hm ?_ jV)
 refine wR (h₀:=X.base) I.ok.mod.kin hk (thn (ha pos ae s σ H _ I h) fun us s1 ⟨vs,H1,I1,r,q⟩=>⟨I1.kIn,?_⟩) he iz
 exact UW F hr hb hd hx I1 r q
end
structure FnScope (N P:List Str)(sc:Scope):Prop where
 kind:sc.kind=.function
 co:sc.isCoroutine=false
 gen:sc.isGenerator=false
 nd:N.Nodup
 pre:N.take P.length=P
 par:∀x∈P,sc.names.lookup x=some .local\/sc.names.lookup x=some .cell
 nofree:∀y∈sc.names,y.2 ≠ .free
def Km {kindOf:Str->Option NameKind}{x:Str}:∀{binds:List (Str×Value)} {m:Str->α5},(∀v,(x,v)∉binds)->bindL kindOf binds m x=m x
 |[],_,_=>rfl
 | (n,v)::r,m,h=>by
  unfold bindL
  rw[Km fun w hw=>h w (jm_ _ hw)]
  split
  ·have:x≠n:=by rintro rfl;exact h v jo_
   simp[this]
  ·rfl
def Kn {kindOf:Str->Option NameKind}{x:Str}:∀{binds:List (Str×Value)} {m:Str->α5},(∀v,(x,v)∉binds)->bindC kindOf binds m x=m x
 |[],_,_=>rfl
 | (n,v)::r,m,h=>by
  unfold bindC
  rw[Kn fun w hw=>h w (jm_ _ hw)]
  split
  ·rfl
  ·have:x≠n:=by rintro rfl;exact h v jo_
   simp[this]
def Ko {kindOf:Str->Option NameKind}{x:Str}{v:Value}:∀{P:List Str} {vs:List Value} {i:Nat} {m:Str->α5},P.Nodup->P[i]?=some x->vs[i]?=some v->kindOf x=some .local ->
  bindL kindOf (P.zip vs) m x=some v
 |[],_,_,_,_,h,_,_=>by simp at h
 |_::_,[],_,_,_,_,h,_=>by simp at h
 |p::P,w::vs,0,m,nd,h1,h2,hk=>by
  simp at h1 h2;subst h1;subst h2
  show bindL kindOf ((p,w)::P.zip vs) m p=_
  unfold bindL
  rw[Km fun v hv=>(qL_.mp nd).1 (xG_ hv).1,if_pos hk]
  simp
 |p::P,w::vs,i+1,m,nd,h1,h2,hk=>by
  show bindL kindOf ((p,w)::P.zip vs) m x=_
  unfold bindL
  exact Ko (i:=i) (qL_.mp nd).2 (by simpa using h1) (by simpa using h2) hk
def Kp {kindOf:Str->Option NameKind}{x:Str}{v:Value}:∀{P:List Str} {vs:List Value} {i:Nat} {m:Str->α5},P.Nodup->P[i]?=some x->vs[i]?=some v->kindOf x≠some .local ->
  bindC kindOf (P.zip vs) m x=some v
 |[],_,_,_,_,h,_,_=>by simp at h
 |_::_,[],_,_,_,_,h,_=>by simp at h
 |p::P,w::vs,0,m,nd,h1,h2,hk=>by
  simp at h1 h2;subst h1;subst h2
  show bindC kindOf ((p,w)::P.zip vs) m p=_
  unfold bindC
  rw[Kn fun v hv=>(qL_.mp nd).1 (xG_ hv).1,if_neg hk]
  simp
 |p::P,w::vs,i+1,m,nd,h1,h2,hk=>by
  show bindC kindOf ((p,w)::P.zip vs) m x=_
  unfold bindC
  exact Kp (i:=i) (qL_.mp nd).2 (by simpa using h1) (by simpa using h2) hk
def start (N:List Str)(vs:List V):St:=vs.map some++rX (N.length-vs.length) none
def cxOf (CX:CXT)(P:Program)(w:World)(K:α3)(mg:Str->α5)(base:Heap)(N:List Str)(qual:Str)(scope:Scope)(f:Addr)(cd:Value)(A:Around)(outer:List Env)(s:Shared)(H:Hp)(E:XK):Cx where
 prog:=P
 w:=w
 K:=K
 mg:=mg
 base:=base
 A:=A.deeper (envOfC qual scope s.heap.objs.size f cd)
 N:=N
 s₀:=s
 H₀:=H
 env:=envOfC qual scope s.heap.objs.size f cd
 outer:=outer
 stack:=envOfC qual scope s.heap.objs.size f cd::outer
 ex:=[]
 calm:=true
 fn:=fun _=>true
 pn:=[]
 xe:=fun e s'=>wpAny (model P w) (A.deeper (envOfC qual scope s.heap.objs.size f cd)) (leaving (envOfC qual scope s.heap.objs.size f cd) e) (fun _ jW=>CX outer H s E e jW) (fun e' jW=>CX outer H s E e' jW) s'
def Ms {sc:Scope}{n:Nat}{x:Str}(h:sc.names.lookup x=some .cell):∃c,(cellsFrom n sc.names []).lookup x=some c:=by
 have q:=xV_ sc.names n [] (.inl h)
 exact xH_.mp q
def Kq    {K:α3}
  (S:FnScope N ps scope) (hd:A.handled=none) (e0:Env0 P w K mg base A outer s H) (hl:vs.length=ps.length) (r:Vals vs us)
  (x:InCallC s s.heap.objs.size (bindL (envOfC qual scope s.heap.objs.size f cd).kindOf (ps.zip us) fun _=>none) (cellsFrom (s.heap.objs.size+1) scope.names []) (bindC (envOfC qual scope s.heap.objs.size f cd).kindOf (ps.zip us) fun _=>none) s1):
  Inv (cxOf CX P w K mg base N qual scope f cd A outer s H E) [] (start N vs) H s1:=by
 have iz:ps.length<=N.length:=by have:=jG_ su S.pre;rw[jx_]at this;lia
 obtain⟨h1,tk,rfl,hk⟩:=x.done
 have pN:∀b:Addr,b∉(cxOf CX P w K mg base N qual scope f cd A outer s H E).ex:=fun b z=>absurd (show b∈([]:List Addr) from z) (by simp)
 refine⟨⟨e0.mod,S.kind,rfl,rfl,ji_ _,fun y z c h1 h2=>?_,fun y hy=>?_,fun y c _ h=>?_,fun _=>hd,Around.frames_deeper e0.frames,.inr ⟨rfl,rfl⟩,fun b z=>absurd z (pN b),e0.bs,e0.bsz,fun b _ _=>pN b,fun b z=>absurd z (pN b),e0.funs,e0.frf⟩,
  rfl,e0.bare,Un.kept hk,⟨_,x.toInCall.ns,fun i y v h1 h2 h3=>?_⟩,fun y c h=>⟨_,x.cell y c h⟩,e0.hok.fresh (ji_ _),fun y c h=>?_,fun p hp=>absurd (show p∈([]:α7) from hp) (by simp),e0.hok.kept hk,?_⟩
 ·exact name_of_addr x.apart (qm_ h1) (qm_ h2)
 ·have hy:scope.names.lookup y=some .cell\/scope.names.lookup y=some .free:=hy
  rcases hy with hy|hy
  ·exact Ms hy
  ·exact absurd rfl (S.nofree _ (qm_ hy))
 ·exact zj_ (x.above y c (qm_ h))
 ·have hi:i<vs.length:=by
   unfold start at h2
   by_cases hi:i<vs.length
   ·exact hi
   ·rw[jp_ (by simpa using hi)]at h2
    rw[zo_]at h2
    split at h2<;>cases h2
  have ha:vs[i]?=some v:=by
   unfold start at h2
   rw[je_ (by simpa using hi),jf_]at h2
   cases e:vs[i]? with
   |none=>rw[e]at h2;cases h2
   |some a=>rw[e]at h2;cases h2;rfl
  obtain⟨u,hu,rv⟩:=r.get ha
  have hp:ps[i]?=some y:=by
   rw[<-S.pre,xI_ s!""];exact h1
  have ndP:ps.Nodup:=by rw[<-S.pre];exact S.nd.sublist (uv _ _)
  refine⟨u,rv,?_⟩
  rcases S.par y (jd_ hp) with k|k
  ·exact .inl ⟨k,Ko ndP hp hu k⟩
  ·obtain⟨c,e⟩:=Ms (n:=s.heap.objs.size+1) k
   refine .inr ⟨.inl k,c,e,?_⟩
   have q:=x.cell y c e
   rw[Kp ndP hp hu (by show scope.names.lookup y≠_;rw[k];decide)]at q
   exact q
 ·exact e0.hok.fresh (zj_ (x.above y c (qm_ h)))
 ·unfold start
  show _=N.length
  rw[jl_,ja_,qD_]
  lia
def UX    {K:α3}         {dV kV bN pm aA ct oc:Value}
       (lk:K.lookup f=some ⟨oc,od,.func (fnOf name qual params body scope dV kV bN pm an aA ct),gu⟩) (ck:codeIn K aA qual=true) (S:FnScope N ps scope)
    (len:∀vs H Q E,sp vs H Q E->vs.length=ps.length)
    (dM:∀(A:Around) (outer:List Env) (s:Shared) (H:Hp) (vs:List V) (Q:VK) (E:XK),Room k (A.deeper (envOfC qual scope s.heap.objs.size f aA))->sp vs H Q E ->
      ∃t,PSs (cxOf CX P w K mg base N qual scope f aA A outer s H E) body t/\t {nx:=fun _ H'=>Q .non H',rt:=Q} (start N vs) H):
    FnOk P w K mg base CX (k+1) f (fnOf name qual params body scope dV kV bN pm an aA ct) ps sp:=by
  refine⟨len,fun A outer s H args us vs Q E hr e0 hb r fD=>?_⟩
  have hl:=len _ _ _ _ fD
  have KX:K.In s.heap:=e0.mod.kin.keeps fun b o e=>(e0.bs b o e).1
  have pO:s.heap.NoLimit:=e0.mod.nolimit.keeps fun b o e=>(e0.bs b o e).1
  have gv:∀y∈ps.zip us,scope.names.lookup y.1=some .local\/(scope.names.lookup y.1=some .cell/\((cellsFrom (s.heap.objs.size+1) scope.names []).lookup y.1).isSome=true):=fun ⟨n,v⟩ hy=>by
    rcases S.par n (xG_ hy).1 with q|q
    . exact .inl q
    . exact .inr ⟨q,xV_ _ _ _ (.inl q)⟩
  refine codeAny_call_function hr.depth (KX _ _ lk) rfl S.co S.gen rfl (wU KX ck) (hb _ _ _ _ ?_)
  refine wpAny_newFunctionEnv_cells S.kind gv fun env he s1 x=>?_
  subst he
  refine⟨pO.keeps x.toInCall.keep,codeAny_func ?_⟩
  obtain⟨t,ht,hq⟩:=dM A outer s H vs Q E (hr.deeper _) fD
  have I:Inv (cxOf CX P w K mg base N qual scope f aA A outer s H E) [] (start N vs) H s1:=Kq S hr.hd e0 hl r x
  refine qE_ (ht [] s1 (start N vs) H _ I hq) (fun fl s' hs=>?_) fun e s' hs=>hs
  have fin:∀{af:St} {H':Hp} {v:V} {u:Value},Inv (cxOf CX P w K mg base N qual scope f aA A outer s H E) [] af H' s'->RelV v u->Q v H'->CE outer P w H s Q u s' :=
    fun {af H' v u} J rv q=>⟨v,H',J.os,J.bare,J.base,J.hok,rv,q⟩
  cases fl with
  |ret u=>
    obtain⟨v,af,H',J,rv,q⟩:=hs
    exact fin J rv q
  |next=>
    obtain⟨af,H',J,q⟩:=hs
    exact fin (v:=V.non) (u:=Value.none) J rfl q
  |brk=>
    obtain⟨_,_,_,q⟩:=hs
    exact sj q
  |cont=>
    obtain⟨_,_,_,q⟩:=hs
    exact sj q
end L2
namespace L2
open PySem PySem.Spec PyProof.Rows
section
variable {X:Cx} {x:Str} {p pos:Pos} {e:Expr} {es:List Expr} {t:TA} {id T:String} {r:List V->Hp->VK->Prop}
def tCB (r:List V->Hp->VK->Prop)(t:TA):TE:=fun σ H Q=>t σ H fun vs H1=>r vs H1 Q
def Aq (hc:Cm X (.builtin id) r)(hg:Gl X x)(hm:X.mg x=none)(hv:bootBuiltins x=some (.builtin id))(ha:PA X (e::es) t)(hn:x ≠ "__name__" := by decide)(jV:(x==("__debug__" : Str))=false:=by decide)
  (he:starEach (e::es) X.env=(false,eval e X.env)::starEach es X.env:=by rfl) (iz:(backTo pos (starEach es X.env)).any (·.1)=false:=by rfl):PE X (.Call (.Name x p) (e::es) [] pos) (tCB r t):=by
 intro ae s σ H Q I h
 refine xw_ (DW I hg hm hv ?_ hn jV)
 exact uI (thn (ha pos ae s σ H _ I h) fun us s1 ⟨vs,H1,I1,r1,q1⟩=>hc ae s1 σ H1 vs us Q I1 r1 q1) he iz
def AB (hc:Cm X (.type T) r)(hg:Gl X x)(hm:X.mg x=none)(hv:bootBuiltins x=some (.type T))(ha:PA X (e::es) t)(hn:x ≠ "__name__" := by decide)(jV:(x==("__debug__" : Str))=false:=by decide)
  (he:starEach (e::es) X.env=(false,eval e X.env)::starEach es X.env:=by rfl) (iz:(backTo pos (starEach es X.env)).any (·.1)=false:=by rfl):PE X (.Call (.Name x p) (e::es) [] pos) (tCB r t):=by
 intro ae s σ H Q I h
 refine xw_ (DW I hg hm hv ?_ hn jV)
 exact qk_ (thn (ha pos ae s σ H _ I h) fun us s1 ⟨vs,H1,I1,r1,q1⟩=>hc ae s1 σ H1 vs us Q I1 r1 q1) he iz
end
end L2
namespace HT
open PySem PyProof.Rows
def lexLt:α2->α2->Bool
 |[],[]=>false
 |[],_::_=>true
 |_::_,[]=>false
 |x::xs,y::ys=>if x=y then lexLt xs ys else decide (x<y)
def lexLt_cons (x y:Int)(xs ys:α2):lexLt (x::xs) (y::ys)=if x=y then lexLt xs ys else decide (x<y):=rfl
def Jl:lexLt [] []=false:=rfl
def Io (y:Int)(ys:α2):lexLt [] (y::ys)=true:=rfl
def Ip (x:Int)(xs:α2):lexLt (x::xs) []=false:=rfl
def QY (A:Around)(s:Shared)(a:Int)(t:Tok)(c:Int)(u:Tok):∃e,SeqAt.EqAt A s (.int a t) (.int c u) e/\(e=true↔a=c):=
 ⟨(a==c),SeqAt.EqAt.int_int a t c u,by simp⟩
def QZ (A:Around)(s:Shared)(a:Int)(t:Tok)(c:Int)(u:Tok)(prog:Program)(w:World)(E:Value->Shared->Prop)(Q:Value->Shared->Prop)(h:Q (.bool (decide (a<c))) s):
  wpAny (model prog w) A (richCompare .Lt (.int a t) (.int c u)) Q E s:=
 (wK h:wpAny (model prog w) A (compareOp .Lt (.int a t) (.int c u)) Q E s)
section
open PySem.SeqAt
open PySem.AutoSeq1 (wpAny_loadPart')
open PySem.MeetsSeq PySem.MeetsSeq2 PySem.MeetsSeq3
def Jm (l b:Addr)(items aR:Array Value)(n n2:Nat)(dd iA:Option Addr)(sl gg:Array (α5))(ns ms:α2)(hi:IntsAre items.toList ns)(hj:IntsAre aR.toList ms):
  Meets (Builtin.«tuple.__lt__» ⟨[.ref l,.ref b],[]⟩)
   (fun _ R s=>s.heap.get? l=some {cls:=.type "tuple",dict:=dd,data:=.seq items n,slots:=sl}/\s.heap.get? b=some {cls:=.type "tuple",dict:=iA,data:=.seq aR n2,slots:=gg} /\
    R (.ok (.ret (.bool (lexLt ns ms)))) s):=
 .of_wp fun prog w A R s h=>by
  obtain⟨hp,g,d,tk,os⟩:=s;obtain⟨hl,hb,h⟩:=h
  have f2:=AutoSeq1.sub_tuple_tuple
  have z1:items.size=ns.length:=by rw[<-hi.length];simp
  have z2:aR.size=ms.length:=by rw[<-hj.length];simp
  wp_walk using j4_ hl,j4_ hb,wpAny_forIn_list _ (fun rest b s'=>b.1=none/\s'=⟨hp,g,d,tk,os⟩/\∃(vs ws:List Value) (lX lY:α2),rest=vs.zip ws /\
   IntsAre vs lX/\IntsAre ws lY/\lX.length+aR.size=lY.length+items.size/\R (.ok (.ret (.bool (lexLt lX lY)))) ⟨hp,g,d,tk,os⟩) _
  case turn=>
   rintro⟨y,x⟩ rest b s' ⟨iT,rfl,vs,ws,lX,lY,hz,dY,cH,aj,hR⟩
   cases dY with
   |nil=>rw[List.zip_nil_left]at hz;cases hz
   |cons a t hvi' =>
    cases cH with
    |nil=>rw[uk]at hz;cases hz
    |cons c u hwi' =>
     rw[z7_]at hz
     injection hz with iU hrest
     injection iU with hy hx
     subst hy hx
     rw[lexLt_cons]at hR
     simp only[jU_]at aj
     obtain⟨e,he,fE⟩:=QY A.in1 ⟨hp,g,d,tk,os⟩ a t c u
     refine jc_ (he prog w _ _ ?_)
     cases e with
     |true=>
      rw[if_pos (fE.mp rfl)]at hR
      wp_walk
      exact⟨rfl,rfl,_,_,_,_,hrest,hvi',hwi',by lia,hR⟩
     |false=>
      rw[if_neg (fun q=>absurd (fE.mpr q) ju_)]at hR
      have iV:=QZ A.in1 ⟨hp,g,d,tk,os⟩ a t c u prog w
      wp_walk using iV
      exact⟨_,rfl,by simpa using hR⟩
  case fin=>
   rintro⟨b1,b2⟩ s' ⟨iT,rfl,vs,ws,lX,lY,hz,dY,cH,aj,hR⟩
   simp only at iT
   subst iT
   have hv:lexLt lX lY=decide (items.size<aR.size):=by
    cases dY with
    |nil=>
     cases cH with
     |nil=>
      simp only[qn_]at aj
      rw[Jl]
      exact (qc_ s!"").symm
     |cons c u hw=>
      simp only[qn_,jU_]at aj
      rw[Io]
      exact (j7_ s!"").symm
    |cons a t hv=>
     cases cH with
     |nil=>
      simp only[qn_,jU_]at aj
      rw[Ip]
      exact (qc_ s!"").symm
     |cons c u hw=>
      rw[z7_]at hz
      cases hz
   rw[hv]at hR
   wp_walk
   exact⟨_,rfl,by simpa [Builtin.Tuple.tupleCompareSizes] using hR⟩
  case h=>
   exact⟨rfl,rfl,items.toList,aR.toList,ns,ms,rfl,hi,hj,by lia,h⟩
end
section
variable {prog:Program} {w:World} {A:Around} {E:Value->Shared->Prop} {s:Shared}
def lt_tupInts     (hl:IsTup s.heap l items)(hb:IsTup s.heap b aR)(hi:IntsAre items.toList ns)(hj:IntsAre aR.toList ms)
  (hu:A.units<cLine) (h:Q (.bool (lexLt ns ms)) s):wpAny (model prog w) A (compareOp .Lt (.ref l) (.ref b)) Q E s:=by
 obtain⟨⟨cls,dd,data,sl⟩,ho,hc,n,hd⟩:=id hl
 obtain⟨⟨cls2,iA,data2,gg⟩,iB,cL,n2,gw⟩:=id hb
 simp only at hc hd cL gw
 subst hc hd cL gw
 exact richCompare_meets_room (op:=.Lt) ⟨_,ho,rfl⟩ ⟨_,iB,rfl⟩ wk vZ (vU _ _) (Jm l b items aR n n2 dd iA sl gg ns ms hi hj)
  ⟨ho,iB,show Value.bool (lexLt ns ms)≠Value.notImplemented/\Q (.bool (lexLt ns ms)) s from ⟨(fun x=>nomatch x),h⟩⟩ hu
def cat_tup    (ht:IsTup s.heap t vs.toArray)(hb:IsTup s.heap b ws.toArray)(hv:vs ≠ [])
  (h1:ws=[]->Q (.ref t) s) (h2:ws ≠ []->Q (.ref s.heap.objs.size) {s with heap:=s.heap.push {cls:=.type "tuple",data:=.seq (vs++ws).toArray} })
  (hsz:vs.length+ws.length<=sizeLine):wpAny (model prog w) A (binaryOp .Add (.ref t) (.ref b)) Q E s:=by
 obtain⟨⟨cls,dd,data,sl⟩,ho,hc,n,hd⟩:=id ht
 obtain⟨⟨cls2,iA,data2,gg⟩,iB,cL,n2,gw⟩:=id hb
 simp only at hc hd cL gw
 subst hc hd cL gw
 have e:vs.toArray++ws.toArray=(vs++ws).toArray:=by simp
 by_cases hw:ws=[]
 ·exact concat_meets ⟨_,ho,rfl⟩ ⟨_,iB,rfl⟩ noFill_tuple_add seq_tuple_add zy_ zp_ (zk_ _ _)
   (tuple_addW1 t b vs.toArray ws.toArray n n2 dd iA sl gg (by simpa using hv) (by simp[hw])) ⟨ho,iB,h1 hw⟩
 ·refine concat_meets ⟨_,ho,rfl⟩ ⟨_,iB,rfl⟩ noFill_tuple_add seq_tuple_add zy_ zp_ (zk_ _ _)
   (tuple_addW2 t b vs.toArray ws.toArray n n2 dd iA sl gg (by simpa using hv) (by simpa using hw) (by rw[jq_,jq_];exact hsz)) ⟨ho,iB,?_⟩
  rw[e]
  exact h2 hw
def sIx (n d:Nat):Option Int->Nat
 |none=>d
 |some v=>if v<0 then (v+(n:Int)).toNat else min v.toNat n
def sIx_none (n d:Nat):sIx n d none=d:=rfl
def sIx_nat (n d k:Nat):sIx n d (some (k:Int))=min k n:=by
 show (if (k:Int)<0 then ((k:Int)+(n:Int)).toNat else min (k:Int).toNat n)=min k n
 rw[if_neg s!"",jj_]
def UY (n d:Nat)(hd:d<=n)(o:Option Int):sIx n d o<=n:=by
 cases o with
 |none=>exact hd
 |some v=>
  show (if v<0 then (v+(n:Int)).toNat else min v.toNat n)<=n
  by_cases hv:v<0
  ·rw[if_pos hv];lia
  ·rw[if_neg hv];exact Nat.min_le_right _ _
def OA (v:Int)(n d:Nat):(if v<0 then max (v+(n:Int)) 0 else min v (n:Int))=((sIx n d (some v):Nat):Int):=by
 show (if v<0 then max (v+(n:Int)) 0 else min v (n:Int))=(((if v<0 then (v+(n:Int)).toNat else min v.toNat n):Nat):Int)
 by_cases hv:v<0
 ·simp only[if_pos hv];lia
 ·simp only[if_neg hv];lia
def Nq (lo hi:Option Int)(n:Nat):Builtin.Slice.sliceAdjust lo hi 1 (n:Int)=(((sIx n 0 lo:Nat):Int),((sIx n n hi:Nat):Int)):=by
 have h1:¬ ((1:Int)<0):=by lia
 unfold Builtin.Slice.sliceAdjust
 simp only[h1,qX_]
 refine wl_ ?_ ?_
 ·cases lo with
  |none=>rfl
  |some v=>exact OA v n 0
 ·cases hi with
  |none=>rfl
  |some v=>exact OA v n n
def Nr (i j:Nat):Builtin.Slice.slicePlaces (i:Int) (j:Int) 1=j-i:=by
 unfold Builtin.Slice.slicePlaces
 have h1:(1:Int) > 0:=by lia
 simp only[h1,xW_,Int.ediv_one]
 split<;>lia
def IH    (p:IsPart v o)(h:Q o s):wpAny (model prog w) A (Builtin.Slice.slicePartIndex v) Q E s:=by
 cases p with
 |none=>exact slicePart_none h
 |int i t=>exact slicePart_int h
def GD {sl:Addr}{vl vu:Value}{lo hi:Option Int}{n:Nat}{Q:Int×Int×Nat->Shared->Prop}(hs:s.heap.IsSliceOf sl vl vu .none)(pl:IsPart vl lo)(pu:IsPart vu hi)
  (h:Q (((sIx n 0 lo:Nat):Int),1,sIx n n hi-sIx n 0 lo) s):wpAny (model prog w) A (Builtin.Slice.sliceApplied (.ref sl) (pure (n:Int))) Q E s:=by
 obtain⟨os,ef,hcs,oi⟩:=id hs
 unfold Builtin.Slice.sliceApplied Builtin.Slice.sliceFields
 refine jc_ (jc_ (qd_ ef oi (x:=vl) rfl (jc_ (qd_ ef oi (x:=vu) rfl (jc_ (qd_ ef oi (x:=.none) rfl (jn_ ?_)))))))
 refine jc_ (slicePart_none ?_)
 show wpAny _ _ (if ((1:Int)==0)=true then _ else _) _ _ s
 rw[if_neg (by decide)]
 refine jc_ (IH pl (jc_ (IH pu (jc_ (jn_ ?_)))))
 show wpAny _ _ (match Builtin.Slice.sliceAdjust lo hi 1 (n:Int) with|(lo,hi)=>pure (lo,(1:Int),Builtin.Slice.slicePlaces lo hi 1)) _ _ s
 rw[Nq lo hi n]
 show wpAny _ _ (pure (((sIx n 0 lo:Nat):Int),(1:Int),Builtin.Slice.slicePlaces ((sIx n 0 lo:Nat):Int) ((sIx n n hi:Nat):Int) 1)) _ _ s
 rw[Nr]
 exact jn_ h
def Q0 (xs:Array Value)(i k:Nat):((rY k).filterMap fun (m:Nat)=>xs[((i:Int)+(m:Int)*1).toNat]?).toArray=((xs.toList.drop i).take k).toArray:=by
 have e:(fun (m:Nat)=>xs[((i:Int)+(m:Int)*1).toNat]?)=fun m=>xs[i+m]?:=by
  funext m
  have:((i:Int)+(m:Int)*1).toNat=i+m:=by lia
  rw[this]
 rw[e]
 have:=pick_run xs i k
 rw[List.filterMap_map]at this
 have e2:((fun x=>xs[x]?) ∘ fun x=>i+x)=fun m=>xs[i+m]?:=rfl
 rw[e2]at this
 rw[this]
def getItem_tuple_cut {t sl:Addr}   {lo hi:Option Int}  (ht:IsTup s.heap t items)(hs:s.heap.IsSliceOf sl vl vu .none)(pl:IsPart vl lo)(pu:IsPart vu hi)
  (hw:¬ (sIx items.size 0 lo=0/\sIx items.size items.size hi=items.size))
  (h:Q (.ref s.heap.objs.size) {s with heap:=s.heap.push {cls:=.type "tuple",data:=.seq ((items.toList.drop (sIx items.size 0 lo)).take (sIx items.size items.size hi-sIx items.size 0 lo)).toArray} })
  (hsz:items.size<=sizeLine):wpAny (model prog w) A (getItem (.ref t) (.ref sl)) Q E s:=by
 have eT:sizeOk (.seq ((items.toList.drop (sIx items.size 0 lo)).take (sIx items.size items.size hi-sIx items.size 0 lo)).toArray):=by
  show ((items.toList.drop (sIx items.size 0 lo)).take (sIx items.size items.size hi-sIx items.size 0 lo)).toArray.size<=sizeLine
  rw[jq_,jx_,xf_,j3_]
  lia
 have hj:sIx items.size items.size hi<=items.size:=UY _ _ (ji_ _) hi
 obtain⟨os,ef,hcs,oi⟩:=id hs
 have hTs:s.TypeIs (.ref sl) "slice" := ⟨os,ef,hcs⟩
 unfold getItem
 try with_reducible refine qK_ ?_
 first|refine jc_ (jn_ ?_)|skip
 refine jc_ (wpAny_sequenceKey ht.typeIs (by decide) ?_)
 refine jc_ (j5_ (name:=Str.ofString "__getitem__") ht.typeIs xJ_
  (qF_ xJ_ ht.typeIs entry_tuple_getitem ?_ (args_tuple_getitem _ _)))
 show wpAny _ _ (Builtin.Tuple.tupleItemsOf (.ref t) >>= _) _ _ s
 refine jc_ (tupleItemsOf_ ht ?_)
 refine jc_ (wpAny_typeOf hTs ?_)
 rw[if_pos (by decide)]
 refine jc_ (GD hs pl pu ?_)
 have dN:¬ ((((sIx items.size 0 lo:Nat):Int)==0&&(1:Int)==1&&(sIx items.size items.size hi-sIx items.size 0 lo)==items.size)=true):=by
  intro q
  rw[qj_,qj_]at q
  have q1:((sIx items.size 0 lo:Nat):Int)=0:=eq_of_beq q.1.1
  have q2:sIx items.size items.size hi-sIx items.size 0 lo=items.size:=eq_of_beq q.2
  exact hw ⟨by lia,by lia⟩
 show wpAny _ _ (if (((sIx items.size 0 lo:Nat):Int)==0&&(1:Int)==1&&(sIx items.size items.size hi-sIx items.size 0 lo)==items.size)=true then _ else _) _ _ s
 rw[if_neg dN,Q0]
 first
  | exact jc_ (m:=Builtin.Tuple.tupleExact _) (qr_ (jn_ ⟨_,rfl,jn_ h⟩) eT)
  | exact jc_ (m:=Builtin.Tuple.tupleExact _) (qr_ (jc_ (jn_ (jn_ ⟨_,rfl,jn_ h⟩))) eT)
  | exact jc_ (jc_ (m:=Builtin.Tuple.tupleExact _) (qr_ (jn_ (jn_ ⟨_,rfl,jn_ h⟩)) eT))
  | exact jc_ (jc_ (m:=Builtin.Tuple.tupleExact _) (qr_ (jn_ ⟨_,rfl,jn_ h⟩) eT))
end
end HT
namespace L2
open PySem PySem.Spec PyProof.Rows
abbrev TO:=St->Hp->(Option Int->Hp->Prop)->Prop
def PO (X:Cx)(e:Option Expr)(t:TO):Prop:=
 ∀(ae:α7) (s:Shared) (σ:St) (H:Hp) (Q:Option Int->Hp->Prop),Inv X ae σ H s->t σ H Q ->
  wpAny (model X.prog X.w) X.A (evalPart e X.env) (fun u s'=>∃o H',Inv X ae σ H' s'/\IsPart u o/\Q o H') X.xe s
def OB:TO:=fun _ H Q=>Q none H
def UZ (t:TE):TO:=fun σ H Q=>t σ H fun x H1=>∃i,x=.int i/\Q (some i) H1
def intsAre_of  : ∀{us:List Value},Vals (ns.map V.int) us->IntsAre us ns:=by
 induction ns with
 |nil=>intro us r;rw[xX_]at r;cases r;exact .nil
 |cons n ns ih=>
  intro us r
  rw[jZ_]at r
  cases r with
  |cons r1 r2=>
   obtain⟨t,e⟩:=r1
   subst e
   exact .cons n t (ih r2)
section
variable {X:Cx} {e:Expr} {te:TE} {lo hi:Option Expr} {tl th:TO} {pos p2:Pos}
def TB:PO X none OB:=by
 intro ae s σ H Q I h
 rw[evalPart_none]
 exact jn_ ⟨none,H,I,.none,h⟩
def TC (h:PE X e te):PO X (some e) (UZ te):=by
 intro ae s σ H Q I hw
 rw[evalPart_some]
 refine thn (h ae s σ H _ I hw) fun u s1 ⟨x,H1,I1,r1,q1⟩=>?_
 obtain⟨i,rfl,q⟩:=q1
 obtain⟨t,rfl⟩:=r1
 exact⟨some i,H1,I1,.int i t,q⟩
def SlR (X:Cx)(r:V->Option Int->Option Int->Hp->VK->Prop):Prop:=
 ∀(ae:α7) (s:Shared) (σ:St) (H:Hp) (x:V) (v vl vu:Value) (lo hi:Option Int) (sl:Addr) (Q:VK),Inv X ae σ H s->RelV x v->s.heap.IsSliceOf sl vl vu .none->IsPart vl lo->IsPart vu hi->r x lo hi H Q ->
  ∃T id,typeLookup (.type T) "__getitem__"=pure (some (.builtin id))/\s.TypeIs v T/\wpAny (model X.prog X.w) X.A (getItem v (.ref sl)) (EP X ae σ Q) X.xe s
def tSl (r:V->Option Int->Option Int->Hp->VK->Prop)(te:TE)(tl th:TO):TE:=fun σ H Q=>te σ H fun x H1=>tl σ H1 fun l H2=>th σ H2 fun u H3=>r x l u H3 Q
def Q1  (hr:SlR X r)(he:PE X e te)(hl:PO X lo tl)(hu:PO X hi th):PE X (.Subscript e (.Slice lo hi none p2) pos) (tSl r te tl th):=by
 intro ae s σ H Q I h
 refine Subscript_ (thn (he ae s σ H _ I h) fun v s1 ⟨x,H1,I1,r1,q1⟩=>?_)
 refine wpAny_Slice (thn (hl ae s1 σ H1 _ I1 q1) fun vl s2 ⟨l,H2,I2,pl,q2⟩=>thn (hu ae s2 σ H2 _ I2 q2) fun vu s3 ⟨u,H3,I3,pu,q3⟩=>?_)
 rw[evalPart_none]
 refine jn_ ?_
 have I4:Inv X ae σ H3 {s3 with heap:=s3.heap.push {cls:=.type "slice",data:=.fields #[vl,vu,.none]} }:=I3.kept (t':=s3.toks) fun b ob q=>jg_ _ q
 obtain⟨T,id,hT,ht,hg⟩:=hr ae {s3 with heap:=s3.heap.push {cls:=.type "slice",data:=.fields #[vl,vu,.none]} } σ H3 x v vl vu l u s3.heap.objs.size Q I4 r1 (Heap.IsSliceOf.new ..) pl pu q3
 show wpAny (model X.prog X.w) X.A (subscriptTail e (.Slice lo hi none p2) v (.ref s3.heap.objs.size)) (EP X ae σ Q) X.xe {s3 with heap:=s3.heap.push {cls:=.type "slice",data:=.fields #[vl,vu,.none]} }
 exact tail_any (ops:=[.ref s3.heap.objs.size,v]) ht hT hg (by with_unfolding_all rfl)
def cutV (xs:List V)(lo hi:Option Int):List V:=(xs.drop (HT.sIx xs.length 0 lo)).take (HT.sIx xs.length xs.length hi-HT.sIx xs.length 0 lo)
def Lu (xs:List V)(lo hi:Option Int):(cutV xs lo hi).length<=xs.length:=by
 unfold cutV
 rw[jx_,xf_]
 lia
def rSlT (K:α3):V->Option Int->Option Int->Hp->VK->Prop:=fun x lo hi H Q=>∃a xs,x=.ref a/\SqT K H a xs /\
 ¬ (HT.sIx xs.length 0 lo=0/\HT.sIx xs.length xs.length hi=xs.length)/\∀p,H p=none->Q (.ref p) (upd H p (.tup (cutV xs lo hi)))
def U0:SlR X (rSlT X.K):=by
 intro ae s σ H x v vl vu lo hi sl Q I rx hs pl pu h
 obtain⟨a,xs,rfl,hx,hw,q⟩:=h
 cases rx
 obtain⟨its,r,ht,hz⟩:=I.tuple hx
 have aj:its.toArray.size=xs.length:=by rw[jq_];exact r.length.symm
 refine⟨"tuple",_,xJ_.lookup,ht.typeIs,?_⟩
 refine HT.getItem_tuple_cut ht hs pl pu (by rw[aj];exact hw) ?_ (by rw[aj];exact hz)
 rw[aj]
 refine⟨.ref s.heap.objs.size,_,I.laid (t':=s.toks) (o:=.tup (cutV xs lo hi)) (fun b ob q=>jg_ _ q) (ji_ _) ?_,rfl,q _ (I.hok.fresh (ji_ _))⟩
 exact⟨qt_ (Lu xs lo hi) hz,_,(r.drop (HT.sIx xs.length 0 lo)).take (HT.sIx xs.length xs.length hi-HT.sIx xs.length 0 lo),IsTup.new _ _⟩
def Wa (K:α3):R2:=fun x y H Q=>∃a b xs ys,x=.ref a/\y=.ref b/\SqT K H a xs/\SqT K H b ys/\xs ≠ []/\xs.length+ys.length<=sizeLine /\
 (ys=[]->Q (.ref a) H)/\(ys ≠ []->∀p,H p=none->Q (.ref p) (upd H p (.tup (xs++ys))))
def Vals.nil_iff   (r:Vals xs us):us=[]↔xs=[]:=by
 cases r with
 |nil=>simp
 |cons _ _=>simp
def TD:OpR X (binaryOp .Add) (Wa X.K):=by
 intro ae s σ H x y v u Q I rx ry h
 obtain⟨a,b,xs,ys,rfl,rfl,ha,hb,hx,hz,q1,q2⟩:=h
 cases rx
 cases ry
 obtain⟨its,r1,p1,_⟩:=I.tuple ha
 obtain⟨aN,r2,p2,_⟩:=I.tuple hb
 refine HT.cat_tup p1 p2 (fun z=>hx (r1.nil_iff.mp z)) (fun z=>⟨.ref a,H,I,rfl,q1 (r2.nil_iff.mp z)⟩) (fun z=>?_) (by rw[<-r1.length,<-r2.length];exact hz)
 refine⟨.ref s.heap.objs.size,_,I.laid (t':=s.toks) (o:=.tup (xs++ys)) (fun b ob q=>jg_ _ q) (ji_ _) ?_,rfl,q2 (fun w=>z (r2.nil_iff.mpr w)) _ (I.hok.fresh (ji_ _))⟩
 exact⟨by rw[jl_];exact hz,_,r1.append r2,IsTup.new _ _⟩
end
end L2
namespace L2
open PySem PySem.Spec PyProof.Rows
def ixN (n:Nat)(i:Int):Option Nat:=if 0<=i then (if i<n then some i.toNat else none) else if -(n:Int)<=i then some (i+n).toNat else none
def atI {α:Type}(xs:List α)(i:Int):Option α:=(ixN xs.length i).bind fun j=>xs[j]?
def OC    (h:ixN n i=some j):seqIndex? i n=some j/\j<n /\ -(n:Int)<=i/\i<n:=by
 unfold ixN at h
 by_cases h0:0<=i
 ·rw[if_pos h0]at h
  by_cases h1:i<n
  ·rw[if_pos h1]at h
   have e:i.toNat=j:=js_ h
   exact⟨by rw[seqIndex_of h0 h1,e],by lia,by lia,h1⟩
  ·rw[if_neg h1]at h;cases h
 ·rw[if_neg h0]at h
  by_cases h1 : -(n:Int)<=i
  ·rw[if_pos h1]at h
   have e:(i+n).toNat=j:=js_ h
   exact⟨by rw[seqIndex_neg s!"" h1,e],by lia,h1,by lia⟩
  ·rw[if_neg h1]at h;cases h
def OD     (h:atI xs i=some v):∃j,seqIndex? i xs.length=some j/\xs[j]?=some v/\j<xs.length /\ -(xs.length:Int)<=i/\i<xs.length:=by
 unfold atI at h
 cases e:ixN xs.length i with
 |none=>rw[e]at h;cases h
 |some j=>
  rw[e]at h
  obtain⟨h1,h2,h3,h4⟩:=OC e
  exact⟨j,h1,h,h2,h3,h4⟩
def DY {α:Type}{xs:List α}{j:Nat}{v:α}(h:xs[j]?=some v):atI xs (j:Int)=some v:=by
 have hj:j<xs.length:=(jb_.mp h).1
 have e:ixN xs.length (j:Int)=some j:=by
  unfold ixN
  rw[if_pos s!"",if_pos s!""];simp
 unfold atI;rw[e];exact h
def OE (b:Expr):Prop:=∀o i,subscripted b false o i=operate [o,i] (getItem o i)
def IxR (X:Cx)(r:R2):Prop:=
 ∀(value bt:Expr) (ae:α7) (s:Shared) (σ:St) (H:Hp) (x y:V) (v u:Value) (Q:VK),Inv X ae σ H s->RelV x v->RelV y u->r x y H Q ->
  subscripted bt false v u=operate [v,u] (getItem v u)->wpAny (model X.prog X.w) X.A (subscriptTail value bt v u) (EP X ae σ Q) X.xe s
def MtR (X:Cx)(id:String)(r:V->List V->Hp->VK->Prop):Prop:=
 ∀(ae:α7) (s:Shared) (σ:St) (H:Hp) (x:V) (xs:List V) (v:Value) (us:List Value) (Q:VK),Inv X ae σ H s->RelV x v->Vals xs us->r x xs H Q ->
  wpAny (model X.prog X.w) X.A (call (.builtin id) (v::us)) (EP X ae σ Q) X.xe s
section
variable {X:Cx} {a b:Expr} {ta tb:TE} {pos:Pos}
def IxR.or  (h:IxR X r)(h':IxR X r'):IxR X (fun x y H Q=>r x y H Q\/r' x y H Q):=by
 intro value bt ae s σ H x y v u Q I rx ry q hs
 rcases q with q|q
 ·exact h value bt ae s σ H x y v u Q I rx ry q hs
 ·exact h' value bt ae s σ H x y v u Q I rx ry q hs
def U1  (hr:IxR X r)(ha:PE X a ta)(hb:PE X b tb)(hs:OE b):PE X (.Subscript a b pos) (tOp r ta tb):=by
 intro ae s σ H Q I h
 exact Subscript_ (binT ha hb I h fun v u s2 x y H2 I2 rx ry q=>hr a b ae s2 σ H2 x y v u Q I2 rx ry q (hs _ _))
def rIxL (K:α3):R2:=fun x y H Q=>∃p xs i v,x=.ref p/\y=.int i/\SqL K H p xs/\atI xs i=some v/\Q v H
def rIxT (K:α3):R2:=fun x y H Q=>∃p xs i v,x=.ref p/\y=.int i/\SqT K H p xs/\atI xs i=some v/\Q v H
def AT:IxR X (rIxL X.K):=by
 intro value bt ae s σ H x y v u Q I rx ry h hs
 obtain⟨p,xs,i,z,rfl,rfl,hq,he,q⟩:=h
 cases rx
 obtain⟨t,rfl⟩:=ry
 obtain⟨its,r,pl,hz⟩:=I.list hq
 obtain⟨j,h1,h2,h3,h4,h5⟩:=OD he
 obtain⟨w,ew,fF⟩:=r.get h2
 have hl:=r.length
 have hn:=Kl
 have fin:EP X ae σ Q w s:=⟨z,H,I,fF,q⟩
 by_cases h0:0<=i
 ·have hj:i.toNat=j:=by
   rw[seqIndex_of h0 h5]at h1
   exact js_ h1
  exact item_listR pl.isList h0 s!"" (by rw[hj];simpa using ew) fin hs
 ·have hj:(i+(its.toArray.size:Int)).toNat=j:=by
   rw[seqIndex_neg s!"" h4]at h1
   rw[jq_,<-hl]
   exact js_ h1
  exact subscriptTail_builtinR (x:=w) pl.isList.typeIs slot_list_getitem.lookup
   (wpAny_getItem_list_neg (Q:=fun r s'=>r=w/\EP X ae σ Q r s') pl.isList s!"" (by rw[jq_]<;>lia) s!"" (by rw[hj];simpa using ew) ⟨rfl,fin⟩) hs
def Ao:IxR X (rIxT X.K):=by
 intro value bt ae s σ H x y v u Q I rx ry h hs
 obtain⟨p,xs,i,z,rfl,rfl,hq,he,q⟩:=h
 cases rx
 obtain⟨t,rfl⟩:=ry
 obtain⟨its,r,pl,hz⟩:=I.tuple hq
 obtain⟨j,h1,h2,h3,h4,h5⟩:=OD he
 obtain⟨w,ew,fF⟩:=r.get h2
 have hl:=r.length
 have hn:=Kl
 have fin:EP X ae σ Q w s:=⟨z,H,I,fF,q⟩
 exact subscriptTail_builtinR (x:=w) pl.typeIs slot_tuple_getitem.lookup
  (getItem_tuple (j:=j) (Q:=fun r s'=>r=w/\EP X ae σ Q r s') pl s!"" s!"" (by rw[jq_,<-hl];exact h1) (by simpa using ew) ⟨rfl,fin⟩) hs
def Nt (its:List Value)(n j:Nat)(u:Value):Obj.mapSeq (·.setIfInBounds j u) {cls:=.type "list",data:=.seq its.toArray n}={cls:=.type "list",data:=.seq (its.set j u).toArray n}:=by
 simp[Obj.mapSeq]
def Inv.lst {ae:α7}{σ:St}{H:Hp}{s:Shared}{p:Addr}{xs:List V}(I:Inv X ae σ H s)(h:H p=some (.lst xs)):
  ∃(its:List Value) (n:Nat),Vals xs its/\s.heap.get? p=some {cls:=.type "list",data:=.seq its.toArray n}/\xs.length<=sizeLine:=by
 obtain⟨z,its,n,r,e⟩:=I.hok p _ h
 exact⟨its,n,r,e,z⟩
def Inv.lstUpd {ae:α7}{σ:St}{H:Hp}{s:Shared}{p:Addr}{xs ys:List V}{its its':List Value}{n n':Nat}{f:Obj->Obj}(I:Inv X ae σ H s)(h:H p=some (.lst xs))
  (ho:s.heap.get? p=some {cls:=.type "list",data:=.seq its.toArray n}) (hf:f {cls:=.type "list",data:=.seq its.toArray n}={cls:=.type "list",data:=.seq its'.toArray n' }) (r:Vals ys its') (hz:ys.length<=sizeLine) (t:Nat):
  Inv X ae σ (upd H p (.lst ys)) {s with heap:=s.heap.update p f,toks:=t}:=by
 have e:(s.heap.update p f).get? p=some {cls:=.type "list",data:=.seq its'.toArray n' }:=by
  rw[qM_ f ho (by rw[hf]<;>rfl),hf]
 refine I.write (x:=p) (e:=p) (by rw[h];trivial) (.inl rfl) (fun b u hb q=>(j8_ _ _ (qp_ hb)).trans q) ⟨_,e⟩ ?_
 exact⟨hz,its',n',r,e⟩
def U2:V->V->V->Hp->(Hp->Prop)->Prop:=fun o i v H Q=>∃p xs k j,o=.ref p/\i=.int k/\H p=some (.lst xs)/\ixN xs.length k=some j/\Q (upd H p (.lst (xs.set j v)))
def set_list:PSet X U2:=by
 intro ae s σ H o i v ov iv u Q I ro ri rv h
 obtain⟨p,xs,k,j,rfl,rfl,hp,hj,q⟩:=h
 cases ro
 obtain⟨t,rfl⟩:=ri
 obtain⟨its,n,r,ho,hz⟩:=I.lst hp
 obtain⟨h1,h2,h3,h4⟩:=OC hj
 have hl:=r.length
 have hn:=Kl
 have I':Inv X ae σ (upd H p (.lst (xs.set j v))) {s with heap:=s.heap.update p (Obj.mapSeq (·.setIfInBounds j u))}:=
  I.lstUpd hp ho (Nt its n j u) (r.set rv j) (by rw[qU_];exact hz) s.toks
 by_cases h0:0<=k
 ·have hk:k.toNat=j:=by
   rw[seqIndex_of h0 h4]at h1
   exact js_ h1
  exact xi ho h0 s!"" (by rw[jq_,<-hl];exact h4) (by rw[hk];exact⟨_,I',q⟩)
 ·have hk:(k+(its.toArray.size:Int)).toNat=j:=by
   rw[seqIndex_neg s!"" h3]at h1
   rw[jq_,<-hl]
   exact js_ h1
  exact wV ho s!"" (by rw[jq_,<-hl];exact h3) s!"" (by rw[hk];exact⟨_,I',q⟩)
def Ct:V->Bool
 |.non=>true
 |.bl _=>true
 |.int _=>true
 |.str _=>true
 |_=>false
def eqV:V->V->Bool
 |.non,.non=>true
 |.bl a,.bl b=>a==b
 |.bl a,.int b=>(if a then 1 else 0)==b
 |.int a,.bl b=>a==(if b then 1 else 0)
 |.int a,.int b=>a==b
 |.str a,.str b=>a==b
 |_,_=>false
def OF     (ry:RelV y u)(rx:RelV x v)(fy:Ct y=true)(fx:Ct x=true):SeqAt.EqAt A s u v (eqV y x):=by
 cases y with
 |non=>
  cases ry
  cases x with
  |non=>cases rx;exact SeqAt.EqAt.same _
  |bl b=>cases rx;exact SeqAt.EqAt.none_bool b
  |int b=>obtain⟨t,rfl⟩:=rx;exact SeqAt.EqAt.none_int b t
  |str b=>obtain⟨t,rfl⟩:=rx;exact SeqAt.EqAt.none_str b t
  |_=>exact absurd (show false=true from fx) ju_
 |bl a=>
  cases ry
  cases x with
  |non=>cases rx;exact SeqAt.EqAt.bool_none a
  |bl b=>cases rx;exact SeqAt.EqAt.bool_bool a b
  |int b=>obtain⟨t,rfl⟩:=rx;exact SeqAt.EqAt.bool_int a b t
  |str b=>obtain⟨t,rfl⟩:=rx;exact SeqAt.EqAt.bool_str a b t
  |_=>exact absurd (show false=true from fx) ju_
 |int a=>
  obtain⟨t',rfl⟩:=ry
  cases x with
  |non=>cases rx;exact SeqAt.EqAt.int_none a t'
  |bl b=>cases rx;exact SeqAt.EqAt.int_bool a t' b
  |int b=>obtain⟨t,rfl⟩:=rx;exact SeqAt.EqAt.int_int a t' b t
  |str b=>obtain⟨t,rfl⟩:=rx;exact SeqAt.EqAt.int_str a t' b t
  |_=>exact absurd (show false=true from fx) ju_
 |str a=>
  obtain⟨t',rfl⟩:=ry
  cases x with
  |non=>cases rx;exact SeqAt.EqAt.str_none a t'
  |bl b=>cases rx;exact SeqAt.EqAt.str_bool a t' b
  |int b=>obtain⟨t,rfl⟩:=rx;exact SeqAt.EqAt.str_int a t' b t
  |str b=>obtain⟨t,rfl⟩:=rx;exact SeqAt.EqAt.str_str a t' b t
  |_=>exact absurd (show false=true from fx) ju_
 |_=>exact absurd (show false=true from fy) ju_
def eqU (x:V)(u:Value):Bool:=match u with
 |.none=>eqV .non x
 |.bool b=>eqV (.bl b) x
 |.int i _=>eqV (.int i) x
 |.str z _=>eqV (.str z) x
 |_=>false
def Sm   (r:RelV y u)(f:Ct y=true):eqU x u=eqV y x:=by
 cases y with
 |non=>cases r;rfl
 |bl b=>cases r;rfl
 |int i=>obtain⟨t,rfl⟩:=r;rfl
 |str z=>obtain⟨t,rfl⟩:=r;rfl
 |_=>exact absurd (show false=true from f) ju_
def Jn {x:V}:∀{xs:List V} {us:List Value},Vals xs us->xs.all Ct=true->us.any (eqU x)=xs.any fun y=>eqV y x
 |_,_,.nil,_=>rfl
 |y::xs,u::us,.cons r t,f=>by
  rw[vM,qj_]at f
  rw[zQ_,zQ_,Sm r f.1,Jn t f.2]
def GT {A:Around}{s:Shared}{x:V}{v:Value}(rx:RelV x v)(fx:Ct x=true):∀{xs:List V} {us:List Value},Vals xs us->xs.all Ct=true->∀u∈us,SeqAt.EqAt A s u v (eqU x u)
 |_,_,.nil,_=>fun u hu=>by cases hu
 |y::xs,u::us,.cons r t,f=>fun u' hu=>by
  rw[vM,qj_]at f
  rcases jD_.mp hu with rfl|hu
  ·rw[Sm r f.1];exact OF r rx f.1 fx
  ·exact GT rx fx t f.2 u' hu
def inV (x:V)(xs:List V):Bool:=xs.any fun y=>eqV y x
def rIn (K:α3)(jX:Bool):R2:=fun x y H Q=>∃p xs,y=.ref p/\(SqL K H p xs\/SqT K H p xs)/\Ct x=true/\xs.all Ct=true/\Q (.bl (if jX then !inV x xs else inV x xs)) H
def Go:OpR X (compareOp .NotIn) (rIn X.K true):=by
 intro ae s σ H x y v u Q I rx ry h
 obtain⟨p,xs,rfl,hq,fx,fs,q⟩:=h
 cases ry
 rcases hq with hq|hq
 ·obtain⟨its,r,pl,hz⟩:=I.list hq
  refine SeqAt.notIn_listAt (eqU x) pl.isList (fun w hw=>GT rx fx r fs w (by simpa using hw)) ⟨.bl _,H,I,rfl,?_⟩
  rw[show its.toArray.any (eqU x)=its.any (eqU x) by simp,Jn r fs]
  exact q
 ·obtain⟨its,r,pl,hz⟩:=I.tuple hq
  refine SeqAt.notIn_tupleAt (eqU x) pl (fun w hw=>GT rx fx r fs w (by simpa using hw)) ⟨.bl _,H,I,rfl,?_⟩
  rw[show its.toArray.any (eqU x)=its.any (eqU x) by simp,Jn r fs]
  exact q
def Aj:Cm X (.builtin "len") (fun xs H Q=>∃p ys,xs=[.ref p]/\(SqL X.K H p ys\/SqT X.K H p ys)/\Q (.int ys.length) H):=by
 intro ae s σ H xs us Q I r h
 obtain⟨p,ys,rfl,hq,q⟩:=h
 obtain⟨u,rfl,rx⟩:=vals1 r
 cases rx
 have hn:=Kl
 rcases hq with hq|hq
 ·obtain⟨its,r',pl,hz⟩:=I.list hq
  have aj:=r'.length
  exact Calls.call_len_list pl.isList (by simp only[jq_]<;>lia) ⟨.int ys.length,H,I.tok _,⟨s.toks+1,by rw[jq_,aj]⟩,q⟩
 ·obtain⟨its,r',pl,hz⟩:=I.tuple hq
  have aj:=r'.length
  exact len_tuple pl (by simp only[jq_]<;>lia) ⟨.int ys.length,H,I.tok _,⟨s.toks+1,by rw[jq_,aj]⟩,q⟩
def Cm.or   (h:Cm X f r)(h':Cm X f r'):Cm X f (fun xs H Q=>r xs H Q\/r' xs H Q):=by
 intro ae s σ H xs us Q I rs q
 rcases q with q|q
 ·exact h ae s σ H xs us Q I rs q
 ·exact h' ae s σ H xs us Q I rs q
def DZ:Cm X (.type "list") (fun xs H Q=>∃p ys,xs=[.ref p]/\(SqL X.K H p ys\/SqT X.K H p ys)/\∀l,H l=none->Q (.ref l) (upd H l (.lst ys))):=by
 intro ae s σ H xs us Q I r h
 obtain⟨p,ys,rfl,hq,q⟩:=h
 obtain⟨u,rfl,rx⟩:=vals1 r
 cases rx
 have fin:∀(its:List Value),Vals ys its->ys.length<=sizeLine->∀(h':Heap) (c':Nat),(∀b o',s.heap.get? b=some o'->h'.get? b=some o') ->
   h'.get? s.heap.objs.size=some {cls:=.type "list",dict:=none,data:=.seq its.toArray c',slots := #[]}->EP X ae σ Q (.ref s.heap.objs.size) {s with heap:=h' }:=fun its r' hz h' c' kp e=>
  ⟨.ref s.heap.objs.size,_,I.laid (t':=s.toks) kp (ji_ _) (show Bk X.prog X.w _ h' _ (.lst ys) from ⟨hz,its,c',r',e⟩),rfl,q _ (I.hok.fresh (ji_ _))⟩
 rcases hq with hq|hq
 ·obtain⟨its,r',pl,hz⟩:=I.list hq
  have aj:=r'.length
  obtain⟨o,ho,hc,n,hd⟩:=pl.isList
  exact call_list_seq p (.inl rfl) ho hc hd (fun h' c' kp e=>fin its r' hz h' c' kp e) (by simp only[jq_]<;>lia)
 ·obtain⟨its,r',pl,hz⟩:=I.tuple hq
  have aj:=r'.length
  obtain⟨o,ho,hc,n,hd⟩:=pl
  exact call_list_seq p (.inr rfl) ho hc hd (fun h' c' kp e=>fin its r' hz h' c' kp e) (by simp only[jq_]<;>lia)
def Jo:Cm X (.type "tuple") (fun xs H Q=>∃p ys,xs=[.ref p]/\((SqL X.K H p ys/\∀l,H l=none->Q (.ref l) (upd H l (.tup ys)))\/(SqT X.K H p ys/\Q (.ref p) H))):=by
 intro ae s σ H xs us Q I r h
 obtain⟨p,ys,rfl,h⟩:=h
 obtain⟨u,rfl,rx⟩:=vals1 r
 cases rx
 rcases h with ⟨hq,q⟩|⟨hq,q⟩
 ·obtain⟨its,r',pl,hz⟩:=I.list hq
  have aj:=r'.length
  refine call_tuple_list pl.isList (fun h' kp=>?_) (by simp only[jq_]<;>lia)
  have I1:Inv X ae σ H {s with heap:=h' }:=I.kept (t':=s.toks) kp
  have I2:Inv X ae σ (upd H h'.objs.size (.tup ys)) {s with heap:=h'.push {cls:=.type "tuple",data:=.seq its.toArray} }:=
   I1.laid (t':=s.toks) (fun b o e=>jg_ _ e) (ji_ _) (show Bk X.prog X.w _ _ _ (.tup ys) from ⟨hz,its,r',IsTup.new _ _⟩)
  exact⟨.ref h'.objs.size,_,I2,rfl,q _ (I1.hok.fresh (ji_ _))⟩
 ·obtain⟨its,r',pl,hz⟩:=I.tuple hq
  exact call_tuple_same pl ⟨.ref p,H,I,rfl,q⟩
def tyV (K:α3)(T:String)(x:V)(H:Hp):Prop:=match x with
 |.str _=>T = "str"
 |.int _=>T = "int"
 |.ref p=>(T = "list" /\ ∃xs,SqL K H p xs)\/(T = "tuple" /\ ∃o,K.lookup p=some o/\o.cls=.type "tuple" /\ o.dict=none) \/
   (T = "dict" /\ ((∃kvs,H p=some (.dK kvs)) \/ ∃kvs,H p=some (.dT kvs)))\/(T = "set" /\ ∃S n,H p=some (.set S n))
 |_=>False
def U3        (I:Inv X ae σ H s)(r:RelV x v)(ty:tyV X.K T x H):
  s.TypeIs v T/\∀a,v=.ref a->∃ob,s.heap.get? a=some ob/\ob.dict=none:=by
 cases x with
 |str z=>
  obtain⟨t,rfl⟩:=r
  cases (show T = "str" from ty)
  exact⟨typeIs_str s z t,fun _ e=>nomatch e⟩
 |int i=>
  obtain⟨t,rfl⟩:=r
  cases (show T = "int" from ty)
  exact⟨typeIs_int s i t,fun _ e=>nomatch e⟩
 |ref p=>
  cases r
  rcases ty with ⟨rfl,xs,hq⟩|⟨rfl,o,hk,hc,hd⟩|⟨rfl,hk⟩|⟨rfl,S,n,hk⟩
  ·obtain⟨its,_,pl,_⟩:=I.list hq
   refine⟨pl.isList.typeIs,fun a e=>?_⟩
   cases e
   obtain⟨o,n,e,c,hd,_⟩:=pl
   exact⟨o,e,hd⟩
  ·refine⟨⟨o,I.kIn p o hk,hc⟩,fun a e=>?_⟩
   cases e
   exact⟨o,I.kIn _ o hk,hd⟩
  ·have z:∃o,s.heap.get? p=some o/\o.ExactDict:=by
    rcases hk with ⟨kvs,hk⟩|⟨kvs,hk⟩
    ·obtain⟨_,_,_,_,o,_,_,e,ex,_⟩:=I.hok p _ hk
     exact⟨o,e,ex⟩
    ·obtain⟨_,_,_,_,o,_,_,e,ex,_⟩:=I.hok p _ hk
     exact⟨o,e,ex⟩
   obtain⟨o,e,ex⟩:=z
   refine⟨⟨o,e,ex.1⟩,fun a e2=>?_⟩
   cases e2
   exact⟨o,e,ex.2.1⟩
  ·obtain⟨o,_,_,_,e,ex,_⟩:=I.hok p _ hk
   refine⟨⟨o,e,ex.1⟩,fun a e2=>?_⟩
   cases e2
   exact⟨o,e,ex.2.1⟩
 |_=>exact sj ty
def tBM (K:α3)(T:String)(r:V->List V->Hp->VK->Prop)(to:TE)(t:TA):TE:=fun σ H Q=>to σ H fun x H1=>tyV K T x H1/\t σ H1 fun xs H2=>r x xs H2 Q
variable {o e:Expr} {es:List Expr} {to:TE} {t:TA} {name:Str} {bM aJ:Pos} {T id:String} {r:V->List V->Hp->VK->Prop}
def C1 (pa:PlainAttrs T)(slot:Slot T name id)(pP:typeOf (.builtin id)=pure (.type "method_descriptor"))(hm:MtR X id r)(ho:PE X o to)(ha:PA X (e::es) t)
  (gy:attributeBase o name X.env (eval o X.env)=eval o X.env:=by rfl)
  (iW:((backTo aJ (starEach (e::es) X.env)).all (fun x => !x.1)&&(backToKw aJ (keywordEach [] X.env)).all (fun x=>x.1.isSome)
   && decide ((e::es).length+([]:List Keyword).length+(if ([]:List Keyword).isEmpty then 0 else 1)<30))=true:=by rfl)
  (gz:(bM.endLine==aJ.line)=true:=by rfl) (hs:starEach (e::es) X.env=(false,eval e X.env)::starEach es X.env:=by rfl) (eg:(backTo aJ (starEach es X.env)).any (·.1)=false:=by rfl):
  PE X (.Call (.Attribute o name bM) (e::es) [] aJ) (tBM X.K T r to t):=by
 intro ae s σ H Q I h
 refine wpAny_Call_method_late gy iW gz rfl (thn (ho ae s σ H _ I h) fun v s1 ⟨x,H1,I1,r1,ty,q1⟩=>?_)
 obtain⟨h1,h2⟩:=U3 I1 r1 ty
 refine⟨T,id,pa,slot,pP,h1,h2,?_⟩
 have hA:=ha aJ ae s1 σ H1 _ I1 q1
 rw[hs]at hA ⊢
 refine zz_ (by show (false||(backTo aJ (starEach es X.env)).any (·.1))=false;rw[eg]<;>rfl) (zN_ ?_)
 exact thn hA fun us s2 ⟨vs,H2,I2,r2,q2⟩=>hm ae s2 σ H2 x vs v us Q I2 r1 r2 q2
/- xs.append(e),list.index on a module's tuple .. are MtR facts of 06m -/
end
end L2
namespace L2
open PySem PySem.Spec PyProof.Rows
def MtM (X:Cx)(id:String)(r:V->List V->Hp->VK->Prop):Prop:=
 ∀(ae:α7) (s:Shared) (σ:St) (H:Hp) (x:V) (xs:List V) (v:Value) (us:List Value) (Q:VK),Inv X ae σ H s->RelV x v->Vals xs us->r x xs H Q ->
  wpAny (model X.prog X.w) X.A (call (.builtin id) (v::us)) (EP X ae σ Q) X.xe s
def Vals.one:∀{x:V} {us:List Value},Vals [x] us->∃u,us=[u]/\RelV x u
 |_,_,.cons r .nil=>⟨_,rfl,r⟩
def Vals.rep {xs:List V}{us:List Value}(h:Vals xs us):∀k:Nat,Vals (rX k xs).flatten (rX k us).flatten
 |0=>.nil
 |k+1=>by
  rw[qo_,qo_,xK_,xK_]
  exact Vals.append h (Vals.rep h k)
def foldl_rep (its:List Value):∀(k:Nat) (ah:List Value),
  tI (fun x1 x2=>x1++x2) ah.toArray (rX k its.toArray)=(ah++(rX k its).flatten).toArray
 |0,ah=>by simp
 |k+1,ah=>by
  have e:ah.toArray++its.toArray=(ah++its).toArray:=by simp
  have e2:(ah++its)++(rX k its).flatten=ah++(rX (k+1) its).flatten:=by
   rw[qo_,xK_,qh_]
  rw[<-e2,<-foldl_rep its k (ah++its),<-e,qo_,q2_]
section
variable {X:Cx} {ae:α7} {σ:St} {H:Hp} {s:Shared} {l b:Addr} {xs ys zs:List V}
def Inv.lset {its its':List Value}{n:Nat}{f:Array Value->Array Value}{t':Nat}(I:Inv X ae σ H s)(hH:H l=some (.lst xs))
  (e:s.heap.get? l=some {cls:=.type "list",data:=.seq its.toArray n}) (hf:f its.toArray=its'.toArray) (hv:Vals ys its') (hz:ys.length<=sizeLine):
  Inv X ae σ (upd H l (.lst ys)) {s with heap:=s.heap.update l (Obj.mapSeq f),toks:=t' }:=by
 have q:=zf_ e f
 rw[hf]at q
 refine I.write (x:=l) (e:=l) (by rw[hH];exact trivial) (.inl rfl) (fun b' u hb hu=>(j8_ s.heap (Obj.mapSeq f) (qp_ hb)).trans hu) ⟨_,q⟩ ?_
 exact⟨hz,its',_,hv,q⟩
def Inv.lnew   (I:Inv X ae σ H s)(hv:Vals ys its)(hz:ys.length<=sizeLine):
  Inv X ae σ (upd H s.heap.objs.size (.lst ys)) {s with heap:=s.heap.push {cls:=.type "list",data:=.seq its.toArray},toks:=t' }:=
 I.laid (fun _ _ q=>jg_ _ q) (ji_ _) ⟨hz,its,0,hv,jz_ _ rfl⟩
def Inv.fresh (I:Inv X ae σ H s):H s.heap.objs.size=none:=I.hok.fresh (ji_ _)
def Inv.lstM (I:Inv X ae σ H s)(hH:H l=some (.lst xs)):xs.length<=sizeLine/\∃(its:List Value) (n:Nat),Vals xs its/\xs.length=its.length/\s.heap.get? l=some {cls:=.type "list",data:=.seq its.toArray n}:=by
 obtain⟨z,its,n,r,e⟩:=I.hok l _ hH
 exact⟨z,its,n,r,r.length,e⟩
def Mt  (h:n<=sizeLine):Builtin.List.listTooLong n=false:=by
 unfold Builtin.List.listTooLong
 exact qc_ s!""
end
section
variable {X:Cx}
def OG:V->List V->Hp->VK->Prop:=fun x vs H Q=>∃l xs y,x=.ref l/\vs=[y]/\H l=some (.lst xs)/\xs.length<sizeLine/\Q .non (upd H l (.lst (xs++[y])))
def AO:MtM X "list.append" OG:=by
 intro ae s σ H x vs v us Q I rx rv h
 obtain⟨l,xs,y,rfl,rfl,hH,hz,q⟩:=h
 cases rx
 obtain⟨u,rfl,ru⟩:=rv.one
 obtain⟨z,its,n,r,hl,e⟩:=I.lstM hH
 refine xL_ F.slot_list_append ⟨_,e,rfl⟩ F.entry_list_append (zO_ _ _) (we_ l its.toArray n u (by rw[jq_];lia)) ⟨e,?_⟩
 refine⟨.non,_,I.lset (its':=its++[u]) hH e (by simp) (r.append (.cons ru .nil)) ?_,rfl,q⟩
 rw[jl_,jP_]
 lia
def OH:V->List V->Hp->VK->Prop:=fun x vs H Q=>∃l b xs zs,x=.ref l/\vs=[.ref b]/\H l=some (.lst xs)/\H b=some (.lst zs)/\xs.length+zs.length<=sizeLine/\Q .non (upd H l (.lst (xs++zs)))
def OI:MtM X "list.extend" OH:=by
 intro ae s σ H x vs v us Q I rx rv h
 obtain⟨l,b,xs,zs,rfl,rfl,hH,hB,hz,q⟩:=h
 cases rx
 obtain⟨u,rfl,ru⟩:=rv.one
 cases ru
 obtain⟨z,its,n,r,hl,e⟩:=I.lstM hH
 obtain⟨z2,aN,n2,r2,bJ,e2⟩:=I.lstM hB
 have hsz:its.toArray.size+aN.toArray.size<=sizeLine:=by rw[jq_,jq_];lia
 have gA:¬ (!its.toArray.isEmpty&&Builtin.List.listTooLong (its.toArray.size+aN.toArray.size))=true:=by
  rw[Mt hsz,Bool.and_false]
  exact ju_
 refine xL_ F.slot_list_extend ⟨_,e,rfl⟩ F.entry_list_extend (F.args_list_extend_2 _ _)
  (AutoSeq1.list_extend_list_list_0 l its.toArray n b aN.toArray n2 gA (by rw[jq_];lia) s!"") ⟨e,e2,?_⟩
 refine⟨.non,_,I.lset (its':=its++aN) hH e (by simp) (r.append r2) ?_,rfl,q⟩
 rw[jl_]
 lia
def rCat:R2:=fun x y H Q=>∃l b xs zs,x=.ref l/\y=.ref b/\H l=some (.lst xs)/\H b=some (.lst zs)/\xs.length+zs.length<=sizeLine/\∀p,H p=none->Q (.ref p) (upd H p (.lst (xs++zs)))
def U4:OpR X (binaryOp .Add) rCat:=by
 intro ae s σ H x y v u Q I rx ry h
 obtain⟨l,b,xs,zs,rfl,rfl,hH,hB,hz,q⟩:=h
 cases rx
 cases ry
 obtain⟨z,its,n,r,hl,e⟩:=I.lstM hH
 obtain⟨z2,aN,n2,r2,bJ,e2⟩:=I.lstM hB
 refine PySem.P.add_list e e2 ?_ (by rw[jq_,jq_];lia)
 have ea:its.toArray++aN.toArray=(its++aN).toArray:=by simp
 rw[ea]
 exact⟨.ref _,_,I.lnew (t':=s.toks) (r.append r2) (by rw[jl_];lia),rfl,q _ I.fresh⟩
def rRep:R2:=fun x y H Q=>∃l k xs,x=.ref l/\y=.int k/\H l=some (.lst xs) /\ -(2 ^ 63)<=k/\k<2 ^ 63/\xs.length*k.toNat<=sizeLine /\
 ∀p,H p=none->Q (.ref p) (upd H p (.lst (rX k.toNat xs).flatten))
def len_rep {α:Type}(xs:List α)(k:Nat):(rX k xs).flatten.length=k*xs.length:=by
 induction k with
 |zero=>simp
 |succ k ih=>rw[qo_,xK_,jl_,ih,v3,v5]
def OJ:OpR X (binaryOp .Mult) rRep:=by
 intro ae s σ H x y v u Q I rx ry h
 obtain⟨l,k,xs,rfl,rfl,hH,h1,h2,hz,q⟩:=h
 cases rx
 obtain⟨t,rfl⟩:=ry
 obtain⟨z,its,n,r,hl,e⟩:=I.lstM hH
 have aj:its.toArray.size*k.toNat<=sizeLine:=by rw[jq_,<-hl];exact hz
 have hcap:¬ its.toArray.size*k.toNat > (2 ^ 63-1) / 8:=by
  have:(sizeLine:Nat)<=(2 ^ 63-1) / 8:=by decide
  lia
 have hfit:¬ (!Builtin.List.listFitsIndex k)=true:=by
  rw[fitsIndex_both h1 h2]
  exact ju_
 have gA:¬ Builtin.List.listTooLong (its.toArray.size*k.toNat)=true:=by
  rw[Mt aj]
  exact ju_
 have dO:tI (fun x1 x2=>x1++x2) #[] (rX (if its.toArray.isEmpty=true then 0 else k.toNat) its.toArray)=(rX k.toNat its).flatten.toArray:=by
  have f0:∀m:Nat,tI (fun x1 x2=>x1++x2) #[] (rX m its.toArray)=(rX m its).flatten.toArray:=fun m=>by
   have:=foldl_rep its m []
   rw[xY_]at this
   exact this
  rw[f0]
  cases its with
  |nil=>simp
  |cons a r'=>rw[if_neg (by simp)]
 refine wpAny_binaryOp_repeat_ref (T := "list") (U := "int") (by decide) ⟨_,e,rfl⟩ (fun s'=>typeIs_int s' k t) noFill_list_mul F.fills_int_mul zX_ repeat_list F.slot_int_index.lookup
  (xL_ zX_ (typeIs_int s k t) F.entry_int_rmul (F.args_int_rmul_2 _ _) (int___rmul___int_list k t l its.toArray n)
   ⟨e,rfl,⟨_,e,rfl⟩,xL_ F.slot_list_mul ⟨_,e,rfl⟩ F.entry_list_mul (F.args_list_mul_2 _ _) (AutoListH.list___mul___list_int_3 l its.toArray n k t hfit hcap gA) ⟨e,?_⟩⟩)
 rw[dO]
 exact⟨.ref _,_,I.lnew (t':=s.toks) (r.rep k.toNat) (by rw[len_rep,uw];exact hz),rfl,q _ I.fresh⟩
end
end L2
namespace Att
open PySem PySem.W PySem.Calls PyProof.Rows
def Hh   : ∀(ns:α2) (vs:List Value),WellAll P h vs (ns.map WData.int)->IntsAre vs ns:=by
 intro ns
 induction ns with
 |nil=>
  intro vs w
  rw[xX_]at w
  cases w
  exact .nil
 |cons n ns ih=>
  intro vs w
  rw[jZ_]at w
  cases w with
  |cons a b=>
   cases a
   exact .cons _ _ (ih _ b)
def OK {l:OpenLaw}{n:Nat}(hn:l.most=some n){P:Params}{h:Heap}{args:List WData}{jY:List Value}
  (iX:l.row.toRowW.claim.pre args=true) (cU:WellAll P h jY args):
  ∃a vs ns,jY=[Value.ref a]/\args=[WData.list (ns.map WData.int)]/\h.get? a=some {cls:=.type "list",data:=.seq vs.toArray}/\IntsAre vs ns/\ns.length<=n:=by
 have hsh:WShape.hasAll [] args [.list .int]=true:=(pre_splitW iX).1
 have hc:l.pre.holds [] {args:=args}=true:=(pre_splitW iX).2
 obtain⟨d,r,rfl,h1,h2⟩:=hasAllW_cons hsh
 obtain rfl:=hasAllW_nil h2
 obtain⟨xs,rfl,h3⟩:=hasW_list h1
 obtain⟨ns,rfl⟩:=items_int h3
 have aj:ns.length<=n:=by
  unfold OpenLaw.pre at hc
  have h4:(WTm.not (.lt (.lit (.int (n:Int))) (.len (.arg 0)))).holds [] {args:=[.list (ns.map .int)]}=true:=by
   have h4:=(holds_andW hc).1
   rw[hn]at h4
   exact h4
  have h5:=condW_of h4 (w_not (w_lt w_lit (w_len_list (w_arg rfl))))
  rw[ja_]at h5
  refine uJ fun q=>?_
  have q':(n:Int)<((ns.length:Nat):Int):=by lia
  first
   | (rw[j7_ q']at h5;exact absurd h5 (by decide))
   | (simp at h5;lia)
 cases cU with
 |cons w1 w2=>
  cases w2
  cases w1 with
  |list ho aB=>exact⟨_,_,ns,rfl,rfl,ho,Hh ns _ aB,aj⟩
def OL (l:OpenLaw)(args:List WData):l.row.toRowW.claim.post args (.bool true) args=true:=
 postW_of (r:=l.row.toRowW) (X:=(true==true))
  (show WShape.has [] (.bool true) .bool=true by first|rfl|decide|simp[WShape.has,WShape.arms,WShape.armsAll])
  (show (WTm.eq .res (.lit (.bool true))).value [] {args:=args,res:=some (.bool true),after:=args}=some (.bool (true==true)) from w_eq_bool (w_res rfl) w_lit) rfl
def attach_call {l:OpenLaw}{n:Nat}{q:Program}{cV:List Str}{XP:(Str->α5)->Heap->Prop}{YP:World->Heap->Prop}{d:DefRec}
  (hn:l.most=some n) (mY:d.params.defaults=[])
  (call:∀(w:World) (s₀ s₁:Shared) (mg mb:Str->α5) (fa:Addr) (o:Obj) (pm cd bN:Value) (a:Addr) (vs:List Value) (ns:α2),
   Ground q cV [] XP w s₀ mg mb s₁.heap->YP w s₁.heap ->
   s₁.heap.get? fa=some o->o.data=.func (docDef d.name d.params d.body d.scope pm cd bN)->s₁.heap.CodeRec cd d.name->mg d.name=some (.ref fa) ->
   s₁.heap.get? a=some {cls:=.type "list",data:=.seq vs.toArray}->IntsAre vs ns->ns.length<=n->s₁.gens = #[] ->
   codeAny (model l.prog w) callerA (.call (.ref fa) ⟨[.ref a],[]⟩) (fun r s'=>r=.ok (.ret (.bool true))/\OldK s₁.heap s'.heap/\s'.os=s₁.os/\AllBare s'.gens) s₁):
  WalkO q cV XP YP l.row.toRowW d [] (fun f vs=>vc f vs):=by
 intro w s₀ s₁ mg mb G Y fa o pm cd bN dV kV ho hd ck hD hmg hg args jY as iX hlay hrd cU iC
 obtain rfl:dV=.none:=Dflts.none hD mY
 obtain rfl:kV=.none:=Dflts.noKw hD
 obtain⟨a,vs,ns,rfl,rfl,bV,gC,aj⟩:=OK hn iX cU
 refine enter_call (codeAny_mono (call w s₀ s₁ mg mb fa o pm cd bN a vs ns G Y ho (fd_plain hd) ck hmg bV gC aj hg) fun r s' hq=>?_)
 obtain⟨rfl,h2,h3,h4⟩:=hq
 exact⟨.inl ⟨.bool true,.bool true,[],rfl,fun _=>rfl,.bool true,OL l _,fun _=>⟨sI,fun _ hm=>(nomatch hm)⟩⟩,h2,h3,h4⟩
end Att
namespace L2
open PySem PySem.Spec PyProof.Rows
def Kr:∀{vs:List Value} {ns:α2},IntsAre vs ns->Vals (ns.map V.int) vs
 |_,_,.nil=>.nil
 |_,_,.cons n t h=>.cons ⟨t,rfl⟩ (Kr h)
def CY (s:Stmt):Arguments:=match s with
 |.FunctionDef _ a _ _ _ _ _ _ _ _=>a
 |_=>{posonlyargs:=[],args:=[],vararg:=none,kwonlyargs:=[],kw_defaults:=[],kwarg:=none,defaults:=[]}
def Cu (s:Stmt):List Stmt:=match s with
 |.FunctionDef _ _ b _ _ _ _ _ _ _=>b
 |_=>[]
def Al (s:Stmt):Scope:=match s with
 |.FunctionDef _ _ _ _ _ _ sc _ _ _=>sc
 |_=>{kind:=.function,names:=[],isGenerator:=false,isCoroutine:=false}
abbrev CX0:CXT:=fun _ _ _ _ _ _=>False
abbrev E0:XK:=fun _ _ _=>False
def AI  : Mr CX0 X E0:=fun _ _ _ _ _ _ _ h=>h.elim
structure Fun (K:α3)(x qual:Str)(st:Stmt)(f:Addr)(fd:α6):Prop where
 ex:∃(oc:Value) (od:Option Addr) (kV bN pm:Value) (an:Option Addr) (aA ct:Value) (gu:Array (α5)),
  fd=fnOf x qual (CY st) (Cu st) (Al st) .none kV bN pm an aA ct/\K.lookup f=some ⟨oc,od,.func fd,gu⟩/\codeIn K aA qual=true
 kp:keepIn K (.ref f)=true
section
variable {P:Program} {w:World} {K:α3} {mg:Str->α5} {base:Heap}
def Fun.ok  {st:Stmt}      (F:Fun K x qual st f fd)(S:FnScope N ps (Al st))(len:∀vs H Q E,sp vs H Q E->vs.length=ps.length)
  (dM:∀(aA:Value) (A:Around) (outer:List Env) (s:Shared) (H:Hp) (vs:List V) (Q:VK) (E:XK),Room k (A.deeper (envOfC qual (Al st) s.heap.objs.size f aA))->sp vs H Q E ->
   ∃t,PSs (cxOf CX0 P w K mg base N qual (Al st) f aA A outer s H E).nox (Cu st) t/\t {nx:=fun _ H'=>Q .non H',rt:=Q} (start N vs) H):FnOk P w K mg base CX0 (k+1) f fd ps sp:=by
 obtain⟨oc,od,kV,bN,pm,an,aA,ct,gu,rfl,lk,ck⟩:=F.ex
 refine UX lk ck S len fun A outer s H vs Q E hr fD=>?_
 obtain⟨t,h,q⟩:=dM aA A outer s H vs Q E hr fD
 exact⟨t,h.nox,q⟩
def Fun.binds  {st:Stmt}    (F:Fun K x qual st f fd)
  (h:∀(kV bN pm:Value) (an:Option Addr) (aA ct:Value) (us:List Value),us.length=ps.length->bindArgs (fnOf x qual (CY st) (Cu st) (Al st) .none kV bN pm an aA ct) ⟨us,[]⟩=pure (ps.zip us)):Binds K fd ps []:=by
 obtain⟨oc,od,kV,bN,pm,an,aA,ct,gu,rfl,lk,ck⟩:=F.ex
 exact .all (h kV bN pm an aA ct)
def fun_mk  {st:Stmt}     {kV bN pm aA ct:Value}(l:K.lookup f=some ⟨oc,od,.func (fnOf x qual (CY st) (Cu st) (Al st) .none kV bN pm an aA ct),gu⟩)
  (c:codeIn K aA qual=true) (k:keepIn K (.ref f)=true):Fun K x qual st f (fnOf x qual (CY st) (Cu st) (Al st) .none kV bN pm an aA ct):=⟨⟨oc,od,kV,bN,pm,an,aA,ct,gu,rfl,l,c⟩,k⟩
end
def Hi   (hr:Room k A):A.units+1<cLine:=um (Nat.add_le_add_left (by decide:1<=64) _) hr.units
section
variable {X:Cx}
def pv (i:Nat)   (hN:X.N[i]?=some x:=by rfl)(hv:Vis X.env.scope x:=by first|exact r9 rfl|exact sk (r9 rfl)|exact sk (sk rfl))(hd:(x==("__debug__" : Str))=false:=by decide)
  (ck:(x==("__classdict__" : Str))=false:=by decide):PE X (.Name x pos) (tVar i):=UK hN hv hd ck
end
def ite2 {c A B:Prop}[Decidable c](h1:c->A)(h2:¬ c->B):if c then A else B:=by
 by_cases h:c
 ·rw[if_pos h]
  exact h1 h
 ·rw[if_neg h]
  exact h2 h
def Same (H H':Hp):Prop:=∀b o,H b=some o->H' b=some o
def Same.refl (H:Hp):Same H H:=fun _ _ h=>h
def Same.trans {H H1 H2:Hp}(a:Same H H1)(b:Same H1 H2):Same H H2:=fun c o h=>b c o (a c o h)
def Same.free  (e:Same H H')  (h:H' l=sS):H l=sS:=by
 cases q:H l with
 |none=>rfl
 |some o=>
  rw[e l o q]at h
  cases h
def Same.seq {K:α3}    (e:Same H H')(h:SqL K H a xs):SqL K H' a xs:=by
 rcases h with (h|⟨o,h⟩)|h
 ·exact .inl (.inl (e _ _ h))
 ·exact .inl (.inr ⟨o,e _ _ h⟩)
 ·exact .inr h
end L2
set_option maxHeartbeats 4000000
namespace L2
open PySem PySem.Spec PyProof.Rows
section
variable {κ:Type} [DecidableEq κ]
def valV (kvs:List (κ×V))(k:κ):Option V:=(kvs.find? fun kv=>decide (kv.1=k)).map (·.2)
def putK (kvs:List (κ×V))(k:κ)(v:V):List (κ×V):=
 if (kvs.any fun kv=>decide (kv.1=k))=true then kvs.map (fun kv=>if kv.1=k then (kv.1,v) else kv) else kvs++[(k,v)]
def GU {p:κ×V}{r:List (κ×V)}{k:κ}(e:p.1=k):valV (p::r) k=some p.2:=by simp[valV,xp_,e]
def GV {p:κ×V}{r:List (κ×V)}{k:κ}(e:¬ p.1=k):valV (p::r) k=valV r k:=by simp[valV,xp_,e]
def CN (k:κ):∀kvs:List (κ×V),(kvs.any fun kv=>decide (kv.1=k))=(valV kvs k).isSome
 |[]=>rfl
 |p::r=>by
  rw[zQ_]
  by_cases e:p.1=k
  ·simp only[GU e,j7_ e,Bool.true_or,zq_]
  ·rw[GV e,qc_ e,Bool.false_or];exact CN k r
def Dg (kvs:List (κ×V))(k:κ)(v:V):(putK kvs k v).length<=kvs.length+1:=by
 unfold putK
 split
 ·rw[ja_];lia
 ·rw[jl_,jU_,qn_];lia
def Mu {kvs:List (κ×V)}{k:κ}(v:V)(h:valV kvs k=none):putK kvs k v=kvs++[(k,v)]:=by
 unfold putK
 rw[CN,h]
 exact if_neg (by decide)
def RelO.isSome_eq   (r:RelO o u):o.isSome=u.isSome:=by
 cases o with
 |none=>cases u with
  |none=>rfl
  |some _=>exact (show False from r).elim
 |some _=>cases u with
  |none=>exact (show False from r).elim
  |some _=>rfl
def RelO.getD     (r:RelO o u)(rd:RelV d d'):RelV (o.getD d) (u.getD d'):=by
 cases o with
 |none=>cases u with
  |none=>exact rd
  |some _=>exact (show False from r).elim
 |some _=>cases u with
  |none=>exact (show False from r).elim
  |some _=>exact r
def KV.val   (r:KV kvs vs)(k:κ):RelO (valV kvs k) (valueAt vs k):=by
 unfold KV at r
 induction r with
 |nil=>exact rZ
 |@cons p q ps qs h t ih=>
  obtain⟨h1,h2⟩:=h
  by_cases e:p.1=k
  ·have e':q.1=k:=h1.symm.trans e
   have b:valueAt (q::qs) k=some q.2:=by simp[valueAt,xp_,e']
   rw[GU e,b];exact h2
  ·have e':¬ q.1=k:=fun z=>e (h1.trans z)
   have b:valueAt (q::qs) k=valueAt qs k:=by simp[valueAt,xp_,e']
   rw[GV e,b];exact ih
def KV.any   (r:KV kvs vs)(k:κ):(kvs.any fun kv=>decide (kv.1=k))=vs.any fun kv=>decide (kv.1=k):=by
 unfold KV at r
 induction r with
 |nil=>rfl
 |cons h t ih=>rw[zQ_,zQ_,ih,h.1]
def KV.repl   (r:KV kvs vs)(k:κ)   (ry:RelV y u):
  KV (kvs.map fun kv=>if kv.1=k then (kv.1,y) else kv) (vs.map fun kv=>if kv.1=k then (kv.1,u) else kv):=by
 unfold KV at r ⊢
 induction r with
 |nil=>exact .nil
 |@cons p q ps qs h t ih=>
  rw[jZ_,jZ_]
  refine .cons ?_ ih
  obtain⟨h1,h2⟩:=h
  by_cases e:p.1=k
  ·rw[if_pos e,if_pos (h1.symm.trans e)];exact⟨h1,ry⟩
  ·rw[if_neg e,if_neg (fun z=>e (h1.trans z))];exact⟨h1,h2⟩
def KV.put   (r:KV kvs vs)(k:κ)   (ry:RelV y u):KV (putK kvs k y) (stored vs k u):=by
 unfold putK stored
 rw[r.any k]
 by_cases e:(vs.any fun kv=>decide (kv.1=k))=true
 ·rw[if_pos e,if_pos e];exact r.repl k ry
 ·rw[if_neg e,if_neg e];exact Paired.snoc r ⟨rfl,ry⟩
def KV.keys {kvs:List (κ×V)}{vs:List (κ×Value)}(r:KV kvs vs):kvs.map (·.1)=vs.map (·.1):=by
 unfold KV at r
 induction r with
 |nil=>rfl
 |cons h t ih=>rw[jZ_,jZ_,ih,h.1]
def KV.length {kvs:List (κ×V)}{vs:List (κ×Value)}(r:KV kvs vs):kvs.length=vs.length:=Paired.length r
end
def Lv     (r:RelV (kV k) u):(Bf P w).is k u=true:=by
 cases k with
 |inl i=>obtain⟨t,e⟩:=(show ∃t,u=Value.int i t from r);subst e;exact Lq P w i t
 |inr x=>obtain⟨t,e⟩:=(show ∃t,u=Value.str x t from r);subst e;exact Lr P w x t
def Ks {P:Program}{w:World}:∀{ks:List Key} {us:List Value},Vals (ks.map kV) us->ItemsAre (Bf P w) ks us
 |[],_,r=>by rw[xX_]at r;cases r;exact .nil
 |k::ks,_,r=>by
  rw[jZ_]at r
  cases r with
  |cons h t=>exact .cons (Lv h) (Ks t)
abbrev KT (H:Hp):List (List Key×V)->List (List Key×Addr×Value)->Prop:=Paired fun p q=>p.1=q.1/\H q.2.1=some (.tup (p.1.map kV))/\RelV p.2 q.2.2
def KT.val    (r:KT H kvs xs)(k:List Key):RelO (valV kvs k) ((atKey xs k).map (·.2)):=by
 induction r with
 |nil=>exact rZ
 |@cons p q ps qs h t ih=>
  obtain⟨h1,_,h2⟩:=h
  by_cases e:p.1=k
  ·have e':q.1=k:=h1.symm.trans e
   have b:atKey (q::qs) k=some q.2:=by simp[atKey,xp_,e']
   rw[GU e,b];exact h2
  ·have e':¬ q.1=k:=fun z=>e (h1.trans z)
   have b:atKey (q::qs) k=atKey qs k:=by simp[atKey,xp_,e']
   rw[GV e,b];exact ih
def KT.repl    (r:KT H kvs xs)(k:List Key)   (ry:RelV y u):
  KT H (kvs.map fun kv=>if kv.1=k then (kv.1,y) else kv) (xs.map (putAt k u)):=by
 induction r with
 |nil=>exact .nil
 |@cons p q ps qs h t ih=>
  rw[jZ_,jZ_]
  refine .cons ?_ ih
  obtain⟨h1,h2,h3⟩:=h
  unfold putAt
  by_cases e:p.1=k
  ·rw[if_pos e,if_pos (h1.symm.trans e)];exact⟨h1,h2,ry⟩
  ·rw[if_neg e,if_neg (fun z=>e (h1.trans z))];exact⟨h1,h2,h3⟩
def KT.put    (r:KT H kvs xs)(k:List Key)    (hb:H b=some (.tup (k.map kV)))(ry:RelV y u):
  KT H (putK kvs k y) (storedH xs k b u):=by
 have e:(kvs.any fun kv=>decide (kv.1=k))=(atKey xs k).isSome:=by
  rw[CN,(r.val k).isSome_eq,ux]
 unfold putK storedH
 rw[e]
 by_cases q:(atKey xs k).isSome=true
 ·rw[if_pos q,if_pos q];exact r.repl k ry
 ·rw[if_neg q,if_neg q];exact Paired.snoc r ⟨rfl,hb,ry⟩
def KT.keeps    (r:KT H kvs xs)(ht:∀b ys,H b=some (.tup ys)->H' b=some (.tup ys)):KT H' kvs xs:=
 Paired.mapP r fun _ _ z=>⟨z.1,ht _ _ z.2.1,z.2.2⟩
section
variable {P:Program} {w:World} {H:Hp} {h:Heap} {a:Addr}
def TF  (ok:HOk P w H h)(e:Rd H a u):Bk P w H h a u:=e.ok ok
def Lw  (ok:HOk P w H h)(e:Rd H a (.dK kvs)):kvs.length<=sizeLine/\(a==sysModules)=false/\∃vs,KV kvs vs/\h.DictOf (Bf P w) a vs:=
 show Bk P w H h a (.dK kvs) from TF ok e
def Q2  (ok:HOk P w H h)(e:H a=some (.dK kvs)):kvs.length<=sizeLine/\(a==sysModules)=false/\∃vs,KV kvs vs/\h.DictOf (Bf P w) a vs:=Lw ok (.inl e)
def II  (ok:HOk P w H h)(e:H a=some (.tup (ks.map kV))):(tupleKind (Bf P w)).is h ks a:=by
 obtain⟨_,its,r,o,h1,h2,n,h3⟩:=(show Bk P w H h a (.tup (ks.map kV)) from ok a _ e)
 exact⟨o,its.toArray,n,h1,h2,h3,by simpa using Ks r⟩
def Nu  (ok:HOk P w H h)(e:Rd H a (.dT kvs)):kvs.length<=sizeLine/\(a==sysModules)=false /\
  ∃xs,KT H kvs xs/\h.DictOfH (tupleKind (Bf P w)) a xs:=by
 obtain⟨z,y,xs,r,o,es,ep,h1,h2,h3,h4,h5⟩:=(show Bk P w H h a (.dT kvs) from TF ok e)
 refine⟨z,y,xs,r,o,es,ep,h1,h2,h3,h4,fun x hx=>?_,h5⟩
 have all:∀{l:List (List Key×V)} {m:List (List Key×Addr×Value)},KT H l m->∀x∈m,(tupleKind (Bf P w)).is h x.1 x.2.1:=by
  intro l m q
  induction q with
  |nil=>intro x hx;exact nomatch hx
  |@cons p q ps qs hq t ih=>
   intro x hx
   rcases jD_.mp hx with e|hx
   ·subst e
    exact II ok (by rw[<-hq.1];exact hq.2.1)
   ·exact ih x hx
 exact all r x hx
def TH  (ok:HOk P w H h)(e:H a=some (.dT kvs)):kvs.length<=sizeLine/\(a==sysModules)=false /\
  ∃xs,KT H kvs xs/\h.DictOfH (tupleKind (Bf P w)) a xs:=Nu ok (.inl e)
end
def DGet (H:Hp)(a:Addr)(y:V)(r:Option V):Prop:=
 (∃kvs k,Rd H a (.dK kvs)/\y=kV k/\r=valV kvs k) \/ ∃kvs k b,Rd H a (.dT kvs)/\y=.ref b/\H b=some (.tup (k.map kV))/\r=valV kvs k
def DPut (H:Hp)(a:Addr)(y v:V)(H':Hp):Prop:=
 (∃kvs k,H a=some (.dK kvs)/\y=kV k/\kvs.length<sizeLine/\H'=upd H a (.dK (putK kvs k v))) \/
 ∃kvs k b,H a=some (.dT kvs)/\y=.ref b/\H b=some (.tup (k.map kV))/\kvs.length<sizeLine/\H'=upd H a (.dT (putK kvs k v))
def DGet.k    {k:Key}(e:H a=some (.dK kvs)):DGet H a (kV k) (valV kvs k):=.inl ⟨kvs,k,.inl e,rfl,rfl⟩
def DGet.t    {k:List Key}(e:H a=some (.dT kvs))(eb:H b=some (.tup (k.map kV))):DGet H a (.ref b) (valV kvs k):=.inr ⟨kvs,k,b,.inl e,rfl,eb,rfl⟩
def DPut.k    {k:Key}  (e:H a=some (.dK kvs))(hl:kvs.length<sizeLine):DPut H a (kV k) v (upd H a (.dK (putK kvs k v))):=.inl ⟨kvs,k,e,rfl,hl,rfl⟩
def DPut.t    {k:List Key}  (e:H a=some (.dT kvs))(eb:H b=some (.tup (k.map kV)))(hl:kvs.length<sizeLine):
  DPut H a (.ref b) v (upd H a (.dT (putK kvs k v))):=.inr ⟨kvs,k,b,e,rfl,eb,hl,rfl⟩
section
variable {X:Cx} {ae:α7} {σ:St} {H:Hp} {s:Shared} {a:Addr} {y v:V} {u r:Value} {o:Option V} {A:Around} {E:Value->Shared->Prop}
def Inv.big (I:Inv X ae σ H s):sysModules<s.heap.objs.size:=by
 have h:mainGlobals<s.heap.objs.size:=(I.mod.glob.keeps I.bk).lt
 exact xQ_ (by decide) h
def OM  (hu:A.units+1<cLine)(I:Inv X ae σ H s)(g:DGet H a y (some v))(ry:RelV y u)(h:∀w' s',Inv X ae σ H s'->RelV v w'->Q w' s'):
  wpAny (model X.prog X.w) A (getItem (.ref a) u) Q E s:=by
 rcases g with ⟨kvs,k,e,ey,l⟩|⟨kvs,k,b,e,ey,eb,l⟩
 ·subst ey
  obtain⟨z,hd,vs,bu,dd⟩:=Lw I.hok e
  obtain⟨w',hw,fF⟩:=RelO.some_of (v:=v) (o:=valueAt vs k) (by rw[l];exact bu.val k)
  exact wpAny_getItem_of (Lv ry) dd.mapOf hw (h w' _ (I.tok _) fF)
 ·subst ey
  cases (show u=Value.ref b from ry)
  obtain⟨z,hd,xs,bu,dd⟩:=Nu I.hok e
  obtain⟨w',hw,fF⟩:=RelO.some_of (v:=v) (o:=(atKey xs k).map (·.2)) (by rw[l];exact bu.val k)
  obtain⟨p,hp,aU⟩:=Option.map_eq_some_iff.mp hw
  refine wpAny_getItem_heap (zr_ hu) (II I.hok eb) dd hp ?_
  rw[aU]
  exact h w' _ (I.tok _) fF
def TJ  (hu:A.units+1<cLine)(I:Inv X ae σ H s)(g:DGet H a y o)(ry:RelV y u)(h:∀s',Inv X ae σ H s'->Q (.bool (!o.isSome)) s'):
  wpAny (model X.prog X.w) A (compareOp .NotIn u (.ref a)) Q E s:=by
 rcases g with ⟨kvs,k,e,ey,l⟩|⟨kvs,k,b,e,ey,eb,l⟩
 ·subst ey
  obtain⟨z,hd,vs,bu,dd⟩:=Lw I.hok e
  refine wpAny_notIn_of (Lv ry) hd dd.mapOf ?_
  rw[<-(bu.val k).isSome_eq,<-l]
  exact h _ (I.tok _)
 ·subst ey
  cases (show u=Value.ref b from ry)
  obtain⟨z,hd,xs,bu,dd⟩:=Nu I.hok e
  refine wpAny_notIn_heap (zr_ hu) (II I.hok eb) hd dd ?_
  have q:=(bu.val k).isSome_eq
  rw[ux]at q
  rw[<-q,<-l]
  exact h _ (I.tok _)
def Hj    (I:Inv X ae σ H s)(mu:Mut (H a))(hs:Heap.SameBut a s.heap h')(he:∃q,h'.get? a=some q)(new:Bk X.prog X.w (upd H a ob) h' a ob):
  Inv X ae σ (upd H a ob) {s with heap:=h',toks:=t' }:=
 I.write (x:=a) (e:=a) mu (.inl rfl) (fun b q hb z=>(hs.2 b hb).trans z) he new
def ON       (z:kvs.length<=sizeLine)(hd:(a==sysModules)=false)(bu:KV kvs vs)(dd:h'.DictOf (Bf P w) a vs):
  Bk P w H' h' a (.dK kvs):=⟨z,hd,vs,bu,dd⟩
def OO   (hu:A.units+1<cLine)(I:Inv X ae σ H s)(g:DPut H a y v H')(ry:RelV y u)(rv:RelV v r)(h:∀s',Inv X ae σ H' s'->Q () s'):
  wpAny (model X.prog X.w) A (setItem (.ref a) u r) Q E s:=by
 rcases g with ⟨kvs,k,e,ey,l,eH⟩|⟨kvs,k,b,e,ey,eb,l,eH⟩
 ·subst ey eH
  obtain⟨z,hd,vs,bu,dd⟩:=Q2 I.hok e
  have hz:vs.length<=sizeLine:=by rw[<-bu.length];exact z
  have hl:(putK kvs k v).length<=sizeLine:=by have:=Dg kvs k v;lia
  refine wpAny_setItem_pairs (hsz:=hz) (Lv ry) dd fun h' gh hs=>h _ ?_
  have he:∃q,h'.get? a=some q:=let ⟨q,_,_,hq,_⟩:=gh;⟨q,hq⟩
  exact Hj I (by rw[e];exact rZ) hs he (ON hl hd (bu.put k rv) gh)
 ·subst ey eH
  cases (show u=Value.ref b from ry)
  obtain⟨z,hd,xs,bu,dd⟩:=TH I.hok e
  have hz:xs.length<=sizeLine:=by rw[<-Paired.length bu];exact z
  have hl:(putK kvs k v).length<=sizeLine:=by have:=Dg kvs k v;lia
  refine wpAny_setItem_heap (hsz:=hz) (zr_ hu) (II I.hok eb) dd fun h' gh hs=>h _ ?_
  obtain⟨q,es,ep,hq,h2,h3,h4,_,h5⟩:=gh
  refine Hj I (by rw[e];exact rZ) hs ⟨q,hq⟩ ⟨hl,hd,_,(bu.put k eb rv).keeps fun c ys ec=>?_,q,es,ep,hq,h2,h3,h4,h5⟩
  rw[Ah (Tn ec e (fun z=>nomatch z))]
  exact ec
end
section
variable {X:Cx} {ae:α7} {σ:St} {H:Hp} {s:Shared} {a:Addr} {kvs:List (Key×V)} {k:Key} {u:Value} {A:Around} {E:Value->Shared->Prop}
def Wb  (I:Inv X ae σ H s)(e:Rd H a (.dK kvs))(h:∀t s',Inv X ae σ H s'->Q (.int kvs.length t) s'):wpAny (model X.prog X.w) A (call (.builtin "len") [.ref a]) Q E s:=by
 obtain⟨z,hd,vs,bu,dd⟩:=Lw I.hok e
 refine call_len_dict hd dd (by rw[<-bu.length];rw[zW_]at z;lia) ?_
 rw[<-bu.length]
 exact h _ _ (I.tok _)
end
def NoSl (i:Expr):Prop:=∀ov iv,subscripted i false ov iv=operate [ov,iv] (getItem ov iv)
def TL         {T id:String}
  (hl:typeLookup (.type T) "__getitem__"=pure (some (.builtin id))) (hs:NoSl bt)
  (h:wpAny (model prog w) A (eval value env) (fun o s₁=>wpAny (model prog w) A (eval bt env) (fun i bE=>bE.TypeIs o T/\wpAny (model prog w) A (getItem o i) Q E bE) E s₁) E s):
  wpAny (model prog w) A (eval (.Subscript value bt pos) env) Q E s:=by
 refine Subscript_ (qE_ h (fun o s₁ h₁=>qE_ h₁ (fun i bE bg=>?_) fun _ _ x=>x) fun _ _ x=>x)
 obtain⟨hT,bg⟩:=bg
 unfold subscriptTail
 refine jc_ ?_
 rw[getitemInPython_of_ne hT.not_modules]
 refine jc_ (wpAny_specialOf hT hl ?_)
 have fin:wpAny (model prog w) A (subscripted bt false o i) (fun r a9=>wpAny (model prog w) A (letTemporaryGo value o r >>= fun _=>pure r) Q E a9) E bE:=by
  rw[hs o i]
  exact wpAny_operating (qE_ bg (fun r a9 bw=>jc_ (wpAny_letTemporaryGo (jn_ bw))) fun _ _ x=>x)
 first
  | exact jn_ (jc_ fin)
  | exact jc_ (jn_ (jc_ fin))
  | exact jc_ fin
def Lx         (I:Inv X ae σ H s)(g:DGet H a y o):s.TypeIs (.ref a) "dict" := by
 rcases g with ⟨kvs,k,e,_,_⟩|⟨kvs,k,b,e,_,_,_⟩
 ·obtain⟨_,_,vs,_,dd⟩:=Lw I.hok e
  exact dd.typeIs
 ·obtain⟨_,_,xs,_,dd⟩:=Nu I.hok e
  exact dd.typeIs
def U5 (td ty:TE):TE:=fun σ H Q=>td σ H fun x H1=>ty σ H1 fun y H2=>∃a v,x=.ref a/\DGet H2 a y (some v)/\Q v H2
def OP (ty td:TE):TE:=fun σ H Q=>ty σ H fun y H1=>td σ H1 fun x H2=>∃a o,x=.ref a/\DGet H2 a y o/\Q (.bl (!o.isSome)) H2
def U6 (td ty tv:TE):TS:=fun D σ H=>tv σ H fun v H1=>td σ H1 fun x H2=>ty σ H2 fun y H3=>∃a H4,x=.ref a/\DPut H3 a y v H4/\D.nx σ H4
section
variable {X:Cx} {o i e value:Expr} {pos bT fG:Pos} {td ty tv:TE}
def OQ (hu:X.A.units+1<cLine)(ho:PE X o td)(hi:PE X i ty)(hs:NoSl i):PE X (.Subscript o i pos) (U5 td ty):=by
 intro ae s σ H Q I h
 refine TL PySem.F.slot_dict_getitem.lookup hs (thn (ho ae s σ H _ I h) fun u s1 ⟨x,H1,I1,rx,q1⟩=>thn (hi ae s1 σ H1 _ I1 q1) fun iv s2 ⟨y,H2,I2,ry,a,v,ex,g,q2⟩=>?_)
 subst ex
 obtain rfl:u=Value.ref a:=rx
 exact⟨Lx I2 g,OM hu I2 g ry fun w' s3 I3 fF=>⟨v,H2,I3,fF,q2⟩⟩
def Hk (hu:X.A.units+1<cLine)(hi:PE X i ty)(ho:PE X o td):PC X .NotIn i o (OP ty td):=by
 intro ae s σ H Q I h
 refine thn (hi ae s σ H _ I h) fun iv s1 ⟨y,H1,I1,ry,q1⟩=>thn (ho ae s1 σ H1 _ I1 q1) fun u s2 ⟨x,H2,I2,rx,a,ov,ex,g,q2⟩=>?_
 subst ex
 obtain rfl:u=Value.ref a:=rx
 exact TJ hu I2 g ry fun s3 I3=>⟨.bl (!ov.isSome),H2,I3,rfl,q2⟩
def Jp (hu:X.A.units+1<cLine)(ho:PE X o td)(hi:PE X i ty)(hv:PE X value tv)(hs:swapsWith value (some (.Subscript o i bT)) pos.line X.env=pure false):
  PS X (.Assign [.Subscript o i bT] value pos) (U6 td ty tv):=by
 intro ae s σ H D I h
 refine wpAny_Assign_Subscript (thn (hv ae s σ H _ I h) fun r s1 ⟨v,H1,I1,rv,q1⟩=>thn (ho ae s1 σ H1 _ I1 q1) fun u s2 ⟨x,H2,I2,rx,q2⟩=>thn (hi ae s2 σ H2 _ I2 q2) fun iv s3 ⟨y,H3,I3,ry,a,H4,ex,g,q3⟩=>?_) hs
 subst ex
 obtain rfl:u=Value.ref a:=rx
 exact OO hu I3 g ry rv fun s4 I4=>⟨σ,H4,I4,q3⟩
end
def Mv    (h:Heap)(hb:sysModules<h.objs.size):Bk P w H (h.push {cls:=.type "dict",data:=.dict #[]}) h.objs.size (.dK []):=
 ⟨jY_ _,zT_.mpr (qp_ (jO_ hb)),[],.nil,Heap.DictOf.new h⟩
def Mw    (h:Heap)(hb:sysModules<h.objs.size):Bk P w H (h.push {cls:=.type "dict",data:=.dict #[]}) h.objs.size (.dT []):=
 ⟨jY_ _,zT_.mpr (qp_ (jO_ hb)),[],.nil,_,#[],0,jz_ _ rfl,⟨rfl,rfl,rfl⟩,rfl,rfl,ub⟩
def OR:TE:=fun _ H Q=>∀p,H p=none->Q (.ref p) (upd H p (.dK []))
def OS:TE:=fun _ H Q=>∀p,H p=none->Q (.ref p) (upd H p (.dT []))
section
variable {X:Cx} {pos:Pos}
def Mx:PE X (.Dict [] [] pos) OR:=fun ae s σ H Q I h=>
 wpAny_Dict_empty ⟨.ref s.heap.objs.size,_,I.laid (a:=s.heap.objs.size) (o:=.dK []) (t':=s.toks) (fun _ _ q=>jg_ _ q) (ji_ _) (Mv s.heap I.big),rfl,h _ (I.hok.fresh (ji_ _))⟩
def My:PE X (.Dict [] [] pos) OS:=fun ae s σ H Q I h=>
 wpAny_Dict_empty ⟨.ref s.heap.objs.size,_,I.laid (a:=s.heap.objs.size) (o:=.dT []) (t':=s.toks) (fun _ _ q=>jg_ _ q) (ji_ _) (Mw s.heap I.big),rfl,h _ (I.hok.fresh (ji_ _))⟩
end
def Hl:List (TE×TE)->St->Hp->(List (V×V)->Hp->Prop)->Prop
 |[],_,H,Q=>Q [] H
 | (tk,tv)::r,σ,H,Q=>tk σ H fun x H1=>tv σ H1 fun y H2=>Hl r σ H2 fun ps H3=>Q ((x,y)::ps) H3
abbrev VV:List (V×V)->List (Value×Value)->Prop:=Paired fun p q=>RelV p.1 q.1/\RelV p.2 q.2
def PPs (X:Cx)(pos:Pos)(keys:List (Option Expr))(dh:List Expr)(aH:List (TE×TE)):Prop:=
 ∀(ae:α7) (s:Shared) (σ:St) (H:Hp) (Q:List (V×V)->Hp->Prop),Inv X ae σ H s->Hl aH σ H Q ->
  wpAny (model X.prog X.w) X.A (evalPairs (pairTrees keys dh X.env pos)) (fun vs s'=>∃ps H',Inv X ae σ H' s'/\VV ps vs/\Q ps H') X.xe s
def TM   : PPs X pos [] [] []:=fun ae s σ H Q I h=>pairTrees_nil_walk ⟨[],H,I,.nil,h⟩
def Q3        (hk:PE X k tk)(hv:PE X v tv)(hr:PPs X pos ks vs aH):
  PPs X pos (some k::ks) (v::vs) ((tk,tv)::aH):=fun ae s σ H Q I h=>
 pairTrees_cons_walk (thn (hk ae s σ H _ I h) fun u s1 ⟨x,H1,I1,rx,q1⟩=>thn (hv ae s1 σ H1 _ I1 q1) fun w2 s2 ⟨y,H2,I2,ry,q2⟩ =>
  thn (hr ae s2 σ H2 _ I2 q2) fun ws s3 ⟨ps,H3,I3,bu,q3⟩=>⟨(x,y)::ps,H3,I3,.cons ⟨rx,ry⟩ bu,q3⟩)
def Gp (kvs more:List (Key×V)):List (Key×V):=more.foldl (fun ah kv=>putK ah kv.1 kv.2) kvs
def KV.merge:∀{more:List (Key×V)} {rs:List (Key×Value)} {kvs:List (Key×V)} {vs:List (Key×Value)},KV more rs->KV kvs vs->KV (Gp kvs more) (merged vs rs):=by
 intro more rs kvs vs r
 unfold KV at r
 induction r generalizing kvs vs with
 |nil=>intro q;exact q
 |@cons p q ps qs h t ih=>
  intro r0
  have e:KV (putK kvs p.1 p.2) (stored vs q.1 q.2):=by
   have:=r0.put p.1 h.2
   rw[<-h.1];exact this
  exact ih e
def Fp:∀(more kvs:List (Key×V)),(Gp kvs more).length<=kvs.length+more.length
 |[],kvs=>by show kvs.length<=kvs.length+0;lia
 |p::r,kvs=>by
  have h1:=Fp r (putK kvs p.1 p.2)
  have h2:=Dg kvs p.1 p.2
  show (Gp (putK kvs p.1 p.2) r).length<=_
  rw[jU_];lia
def IJ {P:Program}{w:World}:∀{kvs:List (Key×V)} {ws:List (Value×Value)},VV (kvs.map fun kv=>(kV kv.1,kv.2)) ws->∃rs,Carries (Bf P w) ws rs/\KV kvs rs
 |[],_,r=>by rw[xX_]at r;cases r;exact⟨[],rZ,.nil⟩
 |p::kvs,_,r=>by
  rw[jZ_]at r
  cases r with
  |@cons a b as bs h t=>
   obtain⟨rs,c,q⟩:=IJ (P:=P) (w:=w) t
   obtain⟨b1,b2⟩:=b
   exact⟨(p.1,b2)::rs,⟨Lv h.1,rfl,c⟩,.cons ⟨rfl,h.2⟩ q⟩
def TN (aH:List (TE×TE)):TE:=fun σ H Q=>∀p,H p=none->Hl aH σ (upd H p (.dK [])) fun ps H2=>H2 p=some (.dK [])/\∃kvs:List (Key×V),ps=kvs.map (fun kv=>(kV kv.1,kv.2))/\kvs.length<=15/\Q (.ref p) (upd H2 p (.dK (Gp [] kvs)))
def TQ      (h:PPs X pos keys dh aH)(aB:keys.all (·.isSome)=true)(hl:keys.length=dh.length)(h0:keys ≠ [])
  (h15:keys.length<=15):PE X (.Dict keys dh pos) (TN aH):=by
 intro ae s σ H Q I q
 have hn:=I.hok.fresh (ji_ s.heap.objs.size)
 have I1:=I.laid (a:=s.heap.objs.size) (o:=.dK []) (h':=s.heap.push {cls:=.type "dict",data:=.dict #[]}) (t':=s.toks) (fun _ _ q=>jg_ _ q) (ji_ _) (Mv s.heap I.big)
 refine wpAny_Dict_walk (knd:=Bf X.prog X.w) aB hl h0 h15 (thn (h ae _ σ _ _ I1 (q _ hn)) fun ws s2 ⟨ps,H2,I2,bu,e,kvs,ep,lk,q2⟩=>?_)
 subst ep
 obtain⟨rs,c,rk⟩:=IJ (P:=X.prog) (w:=X.w) bu
 obtain⟨z,hd,vs0,r0,dd⟩:=Q2 I2.hok e
 cases r0
 refine⟨rs,c,dd,fun h' gh hs=>⟨.ref s.heap.objs.size,_,?_,rfl,q2⟩⟩
 have hz:(Gp [] kvs).length<=sizeLine:=by
  have h1:=Fp kvs []
  rw[qn_]at h1
  rw[zW_];lia
 have he:∃q,h'.get? s.heap.objs.size=some q:=let ⟨q,_,_,hq,_⟩:=gh;⟨q,hq⟩
 exact Hj I2 (by rw[e];exact rZ) hs he (ON hz hd (rk.merge .nil) gh)
structure M1 (X:Cx)(o:Expr)(m:Str)(bM:Pos)(e:Expr)(aJ:Pos):Prop where
 base:attributeBase o m X.env (eval o X.env)=eval o X.env
 few:((backTo aJ (starEach [e] X.env)).all (fun x => !x.1)&&(backToKw aJ (keywordEach [] X.env)).all (fun x=>x.1.isSome)
  && decide (([e]:List Expr).length+([]:List Keyword).length+(if ([]:List Keyword).isEmpty then 0 else 1)<30))=true
 line:(bM.endLine==aJ.line)=true
 trees:backTo aJ (starEach [e] X.env)=[(false,eval e X.env)]
structure M2 (X:Cx)(o:Expr)(m:Str)(bM:Pos)(e f:Expr)(aJ:Pos):Prop where
 base:attributeBase o m X.env (eval o X.env)=eval o X.env
 few:((backTo aJ (starEach [e,f] X.env)).all (fun x => !x.1)&&(backToKw aJ (keywordEach [] X.env)).all (fun x=>x.1.isSome)
  && decide (([e,f]:List Expr).length+([]:List Keyword).length+(if ([]:List Keyword).isEmpty then 0 else 1)<30))=true
 line:(bM.endLine==aJ.line)=true
 trees:backTo aJ (starEach [e,f] X.env)=[(false,eval e X.env),(false,eval f X.env)]
def IsD (H:Hp)(a:Addr):Prop:=(∃kvs,Rd H a (.dK kvs)) \/ ∃kvs,Rd H a (.dT kvs)
def Sn       (I:Inv X ae σ H s)(d:IsD H a):
  s.TypeIs (.ref a) "dict" /\ (∀b,Value.ref a=.ref b->∃ob,s.heap.get? b=some ob/\ob.dict=none)/\(a==sysModules)=false:=by
 rcases d with ⟨kvs,e⟩|⟨kvs,e⟩
 ·obtain⟨_,hd,vs,_,dd⟩:=Lw I.hok e
  refine⟨dd.typeIs,fun b q=>?_,hd⟩
  cases q
  obtain⟨ob,_,_,h1,h2,_⟩:=dd
  exact⟨ob,h1,h2.2.1⟩
 ·obtain⟨_,hd,xs,_,dd⟩:=Nu I.hok e
  refine⟨dd.typeIs,fun b q=>?_,hd⟩
  cases q
  obtain⟨ob,_,_,h1,h2,_⟩:=dd
  exact⟨ob,h1,h2.2.1⟩
section
variable {X:Cx} {ae:α7} {σ:St} {H:Hp} {s:Shared} {a:Addr} {y d:V} {u r:Value} {o:Option V} {A:Around} {E:Value->Shared->Prop}
def U7  (hu:A.units+1<cLine)(I:Inv X ae σ H s)(g:DGet H a y o)(ry:RelV y u)(h:∀w' s',Inv X ae σ H s'->RelV (o.getD .non) w'->Q w' s'):
  wpAny (model X.prog X.w) A (call (.builtin "dict.get") [.ref a,u]) Q E s:=by
 rcases g with ⟨kvs,k,e,ey,l⟩|⟨kvs,k,b,e,ey,eb,l⟩
 ·subst ey
  obtain⟨z,hd,vs,bu,dd⟩:=Lw I.hok e
  refine call_meetsIn zF_ dd.typeIs tJ (sZ _ _) (meets_dict_get (Bf X.prog X.w) a (Lv ry) hd) ⟨_,dd.mapOf,h _ _ (I.tok _) ?_⟩
  rw[l]
  exact (bu.val k).getD rfl
 ·subst ey
  cases (show u=Value.ref b from ry)
  obtain⟨z,hd,xs,bu,dd⟩:=Nu I.hok e
  refine call_meetsIn zF_ dd.typeIs tJ (sZ _ _) (meetsH_dict_get (tupleKind (Bf X.prog X.w)) a b hd) ⟨zr_ hu,k,xs,II I.hok eb,dd,h _ _ (I.tok _) ?_⟩
  rw[l]
  exact (bu.val k).getD rfl
end
def OT (td ty:TE):TE:=fun σ H Q=>td σ H fun x H1=>∃a,x=.ref a/\IsD H1 a/\ty σ H1 fun y H2=>∃o,DGet H2 a y o/\Q (o.getD .non) H2
section
variable {X:Cx} {o e f:Expr} {bM aJ:Pos} {td ty tx:TE}
def Q4 (hu:X.A.units+1<cLine)(ho:PE X o td)(he:PE X e ty)(m:M1 X o "get" bM e aJ):PE X (.Call (.Attribute o "get" bM) [e] [] aJ) (OT td ty):=by
 intro ae s σ H Q I h
 refine wpAny_Call_method m.base m.few m.line tq zF_ wm (thn (ho ae s σ H _ I h) fun u s1 ⟨x,H1,I1,rx,a,ex,d,q1⟩=>?_)
 subst ex
 obtain rfl:u=Value.ref a:=rx
 obtain⟨t1,t2,_⟩:=Sn I1 d
 refine⟨t1,t2,?_⟩
 rw[m.trees]
 refine zz_ rfl (zN_ (xv_ (thn (he ae s1 σ H1 _ I1 q1) fun iv s2 ⟨y,H2,I2,ry,ov,g,q2⟩=>x5_ ?_)))
 exact U7 hu I2 g ry fun w' s3 I3 fF=>⟨_,H2,I3,fF,q2⟩
end
end L2
namespace L2
open PySem PySem.Spec PyProof.Rows
def clOf (env:Env):List (Str×NameKind)->List (Str×Addr)->List (Str×Addr)
 |[],ah=>ah
 | (n,k)::r,ah=>if (k == .free)=true then clOf env r ((n,(env.cells.lookup n).getD 0)::ah) else clOf env r ah
def FX   (h:∀p∈scope.names,p.2=.free->∃c,env.cells.lookup p.1=some c):closureFor scope env=pure (clOf env scope.names []):=by
 have go:∀(l:List (Str×NameKind)) (ah:List (Str×Addr)),(∀p∈l,p.2=.free->∃c,env.cells.lookup p.1=some c) ->
   (forIn l ah fun (x:Str×NameKind) (cs:List (Str×Addr))=>(if (x.2 == .free)=true then do let c <- cellOf env x.1;pure (sf ((x.1,c)::cs)) else pure (sf cs):Sem (ForInStep (List (Str×Addr)))))=(pure (clOf env l ah):Sem (List (Str×Addr))):=by
  intro l
  induction l with
  |nil=>intro ah _;rfl
  |cons p r ih=>
   intro ah hl
   obtain⟨n,k⟩:=p
   rw[xZ_]
   by_cases hk:(k == .free)=true
   ·obtain⟨c,hc⟩:=hl (n,k) jo_ (by simpa using hk)
    have e1:cellOf env n=pure c:=by unfold cellOf;rw[hc]
    have pQ:=ih ((n,c)::ah) fun q hq=>hl q (jm_ _ hq)
    show ((if (k == .free)=true then do let c <- cellOf env n;pure (sf ((n,c)::ah)) else pure (sf ah):Sem _) >>= _)=_
    rw[if_pos hk,e1]
    show (forIn r ((n,c)::ah) _:Sem _)=_
    rw[clOf,if_pos hk,hc]
    exact pQ
   ·have pQ:=ih ah fun q hq=>hl q (jm_ _ hq)
    show ((if (k == .free)=true then do let c <- cellOf env n;pure (sf ((n,c)::ah)) else pure (sf ah):Sem _) >>= _)=_
    rw[if_neg hk]
    show (forIn r ah _:Sem _)=_
    rw[clOf,if_neg hk]
    exact pQ
 have e:=go scope.names [] h
 unfold closureFor
 show (forIn scope.names [] _ >>= fun cs=>pure cs:Sem _)=_
 have e2:(forIn scope.names [] (fun (x:Str×NameKind) (r:List (Str×Addr))=>(match x with
   | (name,kind)=>if (kind == .free)=true then do let c <- cellOf env name;pure (sf ((name,c)::r)) else do pure PUnit.unit;pure (sf r):Sem (ForInStep (List (Str×Addr))))))=(pure (clOf env scope.names []):Sem (List (Str×Addr))):=e
 exact jG_ (fun z=>z >>= fun cs=>pure cs) e2
def GX {env:Env}:∀(l:List (Str×NameKind)) (ah:List (Str×Addr)),(∀p∈l,p.2=.free->∃c,env.cells.lookup p.1=some c)->(∀q∈ah,env.cells.lookup q.1=some q.2)->∀q∈clOf env l ah,env.cells.lookup q.1=some q.2
 |[],_,_,ha,q,hq=>ha q hq
 | (n,k)::r,ah,hl,ha,q,hq=>by
  unfold clOf at hq
  by_cases hk:(k == .free)=true
  ·rw[if_pos hk]at hq
   obtain⟨c,hc⟩:=hl (n,k) jo_ (by simpa using hk)
   refine GX r _ (fun p hp=>hl p (jm_ _ hp)) (fun p hp=>?_) q hq
   rcases jD_.mp hp with rfl|hp
   ·show env.cells.lookup n=some ((env.cells.lookup n).getD 0)
    rw[hc];rfl
   ·exact ha p hp
  ·rw[if_neg hk]at hq
   exact GX r _ (fun p hp=>hl p (jm_ _ hp)) ha q hq
def EB {env:Env}:∀(l:List (Str×NameKind)) (ah:List (Str×Addr)) (x:Str),((x,NameKind.free)∈l \/ ∃c,(x,c)∈ah)->∃c,(x,c)∈clOf env l ah
 |[],_,_,h=>by
  rcases h with h|h
  ·cases h
  ·exact h
 | (n,k)::r,ah,x,h=>by
  unfold clOf
  by_cases hk:(k == .free)=true
  ·rw[if_pos hk]
   refine EB r _ x ?_
   rcases h with h|⟨c,h⟩
   ·rcases jD_.mp h with h|h
    ·cases h
     exact .inr ⟨_,jo_⟩
    ·exact .inl h
   ·exact .inr ⟨c,jm_ _ h⟩
  ·rw[if_neg hk]
   refine EB r _ x ?_
   rcases h with h|h
   ·rcases jD_.mp h with h|h
    ·cases h
     exact absurd rfl hk
    ·exact .inl h
   ·exact .inr h
def Bb {β:Type}:∀{l:List (Str×β)} {x:Str} {c:β},(x,c)∈l->∃c',l.lookup x=some c'
 |[],_,_,h=>by cases h
 | (n,d)::r,x,c,h=>by
  by_cases hx:(x==n)=true
  ·exact⟨d,by rw[qa_,hx]⟩
  ·rcases jD_.mp h with h|h
   ·cases h;exact absurd (beq_self_eq_true _) hx
   ·obtain⟨c',e⟩:=Bb h
    exact⟨c',by rw[qa_];simp only[Bool.not_eq_true]at hx;rw[hx];exact e⟩
def relF (env:Env):Str×NameKind->Str×NameKind:=fun (n,k)=>if (k==NameKind.free&&env.scope.kind == .function&&env.kindOf n==some .cell) then (n,NameKind.cell) else (n,k)
def GY    (h:(k==NameKind.free&&env.scope.kind == .function&&env.kindOf n==some .cell)=true):relF env (n,k)=(n,.cell):=if_pos h
def Jq    (h:¬ (k==NameKind.free&&env.scope.kind == .function&&env.kindOf n==some .cell)=true):relF env (n,k)=(n,k):=if_neg h
def D0 {env:Env}:∀{names:List (Str×NameKind)} {x:Str} {k:NameKind},(∀y∈names,y.2 ≠ .cell) ->
  (names.map (relF env)).lookup x=some k->(k=.cell\/k=.free)->(x,NameKind.free)∈names
 |[],_,_,_,h,_=>by simp at h
 | (n,k')::r,x,k,hc,h,hk=>by
  have ih := @D0 env r x k (fun y hy=>hc y (jm_ _ hy))
  rw[jZ_]at h
  by_cases hb:(k'==NameKind.free&&env.scope.kind == .function&&env.kindOf n==some .cell)=true
  ·rw[GY hb,qa_]at h
   cases hx:x==n with
   |true=>
    have e:x=n:=by simpa using hx
    subst e
    have e2:k'=.free:=by
     simp only[qj_]at hb
     simpa using hb.1.1
    subst e2
    exact jo_
   |false=>
    rw[hx]at h
    exact jm_ _ (ih h hk)
  ·rw[Jq hb,qa_]at h
   cases hx:x==n with
   |true=>
    rw[hx]at h
    have e:x=n:=by simpa using hx
    subst e
    have e2:k'=k:=js_ h
    subst e2
    rcases hk with rfl|rfl
    ·exact absurd rfl (hc _ jo_)
    ·exact jo_
   |false=>
    rw[hx]at h
    exact jm_ _ (ih h hk)
def D4 {env:Env}:∀{names:List (Str×NameKind)} {x:Str},names.lookup x=some .free ->
  ∃k,(k=NameKind.cell\/k=NameKind.free)/\(names.map (relF env)).lookup x=some k
 |[],_,h=>by simp at h
 | (n,k')::r,x,h=>by
  have ih := @D4 env r x
  rw[qa_]at h
  rw[jZ_]
  cases hx:x==n with
  |true=>
   rw[hx]at h
   have e2:k'=.free:=js_ h
   subst e2
   by_cases hb:((NameKind.free:NameKind)==NameKind.free&&env.scope.kind == .function&&env.kindOf n==some .cell)=true
   ·exact⟨.cell,.inl rfl,by rw[GY hb,qa_,hx]⟩
   ·exact⟨.free,.inr rfl,by rw[Jq hb,qa_,hx]⟩
  |false=>
   rw[hx]at h
   obtain⟨k,hk,e⟩:=ih h
   refine⟨k,hk,?_⟩
   by_cases hb:(k'==NameKind.free&&env.scope.kind == .function&&env.kindOf n==some .cell)=true
   ·rw[GY hb,qa_,hx];exact e
   ·rw[Jq hb,qa_,hx];exact e
end L2
namespace L2
open PySem PySem.Spec PyProof.Rows
section
variable {prog:Program} {w:World} {A:Around} {R:Result->Shared->Prop} {s:Shared}
def Gq {cM bS iter:Expr}      (I:Nat->Shared->Prop)
  (turn:∀n s,I n s->wpAny (model prog w) A (pyNext it) (fun r s₁=>match r with
   |none=>R (.ok .next) s₁
   |some v=>wpAny (model prog w) A (letOwnedTupleGo bS it v) (fun _ s₁'=>wpAny (model prog w) A (assign bS env v) (fun _ bE=>
     wpAny (model prog w) A (forIn cI true fun c r=>if r=true then do let ok <- isTrue c env (eval c env);pure (sf ok) else pure (sf r)) (fun ok a9=>
      if ok=true then wpAny (model prog w) A (eval cM env) (fun x fH=>
       wpAny (model prog w) A (call (.builtin "list.append") [ah,x]) (fun _ s₅=>∃m,m<n/\I m s₅) (notedBy (model prog w) A env fun e s'=>R (.error e) s') fH) (notedBy (model prog w) A env fun e s'=>R (.error e) s') a9
      else ∃m,m<n/\I m a9) (notedBy (model prog w) A env fun e s'=>R (.error e) s') bE) (notedBy (model prog w) A env fun e s'=>R (.error e) s') s₁') (notedBy (model prog w) A env fun e s'=>R (.error e) s') s₁) (notedBy (model prog w) A env fun e s'=>R (.error e) s') s)
  (n:Nat) (h:I n s):
  codeAny (model prog w) A (.compLoop (.ListComp cM [⟨bS,iter,cI,0⟩] scope pos) 0 it ah env) R s:=by
 refine codeAny_loop rfl I (fun n s hI=>?_) n h
 show wpAny _ A ((compTurn (.ListComp cM [⟨bS,iter,cI,0⟩] scope pos) 0 it ah env).onRaise (fun x=>do noteFrame x env;theTreesLotGoes x)) _ _ s
 refine wpAny_noted ?_
 rw[compTurn_list]
 refine jc_ (wpAny_standAt (jc_ (qE_ (turn n s hI) (fun r s₁ h₁=>?_) fun _ _ h'=>h')))
 cases r with
 |none=>exact jn_ h₁
 |some v=>
  refine jc_ (qE_ h₁ (fun _ s₁' h₁'=>?_) fun _ _ h'=>h')
  refine jc_ (qE_ h₁' (fun _ bE bg=>jc_ (qE_ bg (fun ok a9 bw=>?_) fun _ _ h'=>h')) fun _ _ h'=>h')
  cases ok with
  |false=>exact jn_ ⟨rfl,bw⟩
  |true=>
   exact jc_ (jc_ (qE_ bw (fun x fH gD=>jc_ (qE_ gD (fun _ s₅ aV=>jn_ (jn_ ⟨rfl,aV⟩)) fun _ _ h'=>h')) fun _ _ h'=>h'))
end
abbrev Cx.blk (X:Cx)(N:List Str)(sc:Scope)(C:Addr)(s₀:Shared)(H₀:Hp)(ex:List Addr):Cx:=
 {X with N:=N,env:=compEnvC sc (clOf X.env sc.names []) C X.env,outer:=X.stack,s₀:=s₀,H₀:=H₀,ex:=ex,fn:=fun _=>false,pn:=[],xe:=fun _ _=>False}
structure BlkSc (X:Cx)(sc:Scope):Prop where
 kind:sc.kind=.function
 nocell:∀y∈sc.names,y.2 ≠ .cell
 loc:∀y∈sc.names,y.2=.local->sc.names.lookup y.1=some .local
 free:∀y∈sc.names,y.2=.free->X.env.kindOf y.1=some .cell\/X.env.kindOf y.1=some .free
abbrev Caps:=List (Str×Option Nat)
def Caps.names (c:Caps):List Str:=c.map (·.1)
def Caps.st (c:Caps)(σ:St):St:=c.map fun p=>p.2.bind fun j=>(σ[j]?).join
def CG (N:List Str)(sc:Scope):Caps->Prop
 |[]=>True
 | (_,none)::r=>CG N sc r
 | (x,some j)::r=>(N[j]?=some x/\sc.names.lookup x=some .free)/\CG N sc r
def CG.get {N:List Str}{sc:Scope}:∀{c:Caps} {i:Nat} {x:Str} {j:Nat},CG N sc c->c[i]?=some (x,some j)->N[j]?=some x/\sc.names.lookup x=some .free
 |[],_,_,_,_,h=>by simp at h
 | (y,none)::r,0,x,j,_,h=>by simp at h
 | (y,none)::r,i+1,x,j,ok,h=>CG.get (c:=r) (i:=i) ok (by simpa using h)
 | (y,some k)::r,0,x,j,ok,h=>by
  simp only[zs_,zD_,vN]at h
  obtain⟨rfl,rfl⟩:=h
  exact ok.1
 | (y,some k)::r,i+1,x,j,ok,h=>CG.get (c:=r) (i:=i) ok.2 (by simpa using h)
section
variable {X:Cx} {ae:α7} {σ:St} {H:Hp} {s:Shared} {sc:Scope} {fp:List Addr}
def Hm (I:Inv X ae σ H s)(S:BlkSc X sc):∀p∈sc.names,p.2=.free->∃c,X.env.cells.lookup p.1=some c:=fun p hp e=>I.ok.has p.1 (S.free p hp e)
def BL (I:Inv X ae σ H s)(S:BlkSc X sc)   (h:(clOf X.env sc.names []).lookup x=some c):X.env.cells.lookup x=some c:=
 GX sc.names [] (Hm I S) (fun q hq=>by cases hq) (x,c) (qm_ h)
def U8 {N:List Str}{C:Addr}(I:Inv X ae σ H s)(S:BlkSc X sc)(hC:s.heap.objs.size<=C)(hf:∀b∈fp,FpOk X ae H b)(ho:∀b∈fp,∃o,s.heap.get? b=some o):(X.blk N sc C s H fp).Ok where
 mod:=I.ok.mod
 kind:=S.kind
 glob:=I.ok.glob
 blt:=I.ok.blt
 above:=hC
 inj:=fun x y c h1 h2=>I.ok.inj x y c (BL I S h1) (BL I S h2)
 has:=fun x hx=>by
  have fI:(x,NameKind.free)∈sc.names:=by
   rcases hx with hx|hx
   ·exact D0 (env:=X.env) S.nocell hx (.inl rfl)
   ·exact D0 (env:=X.env) S.nocell hx (.inr rfl)
  obtain⟨c,hc⟩:=EB (env:=X.env) sc.names [] x (.inl fI)
  exact Bb hc
 cab:=fun x c h=>absurd (show false=true from h) ju_
 hd:=I.ok.hd
 frames:=I.ok.frames
 stk:=.inl rfl
 exf:=fun b hb=>by
  obtain⟨o,ho⟩:=ho b hb
  refine⟨jO_ (jA_ (jt_ ho) hC),fun x c h=>(hf b hb).2.2.2.2.1 x c (BL I S h)⟩
 bs:=I.bs
 bsz:=qt_ I.ok.bsz I.sz
 noex:=fun b o e hb=>by
  rcases (hf b hb).2.2.2.1 with z|z
  ·exact I.ok.noex b o e z
  ·exact absurd (jA_ (jt_ (I.ok.bs b o e).1) z) (qb_ _)
 exfs:=fun b hb z=>by
  rcases jD_.mp (I.stkSub b z) with e|e
  ·exact (hf b hb).2.1 e
  ·exact (hf b hb).2.2.1 e
 funs:=I.stack
 frf:=I.stkFree
def OU {c:Caps}{C:Addr}{s4:Shared}{m:Str->α5}(I:Inv X ae σ H s)(S:BlkSc X sc)(hc:CG X.N sc c)(hC:s.heap.objs.size<=C)(hf:∀b∈fp,FpOk X ae H b)(ho:∀b∈fp,∃o,s.heap.get? b=some o)
  (ef:s4.os=s.os) (hb:s4.gens=s.gens) (hk:∀b o,s.heap.get? b=some o->s4.heap.get? b=some o) (hn:s4.heap.Ns C m):Inv (X.blk c.names sc C s H fp) [] (c.st σ) H s4 where
 ok:=U8 I S hC hf ho
 os:=ef
 bare:=by rw[hb];exact I.bare
 base:=Un.kept hk
 loc:=by
  refine⟨m,hn,fun i x v h1 h2 hv=>?_⟩
  have gE:(c.map (·.1))[i]?=some x:=h1
  have eU:(c.map fun p=>p.2.bind fun j=>(σ[j]?).join)[i]?=some (some v):=h2
  rw[jf_]at gE eU
  cases e:c[i]? with
  |none=>rw[e]at gE;cases gE
  |some p=>
   obtain⟨y,oj⟩:=p
   rw[e]at gE eU
   have e1:y=x:=js_ gE
   subst e1
   have e2:(oj.bind fun j=>(σ[j]?).join)=some v:=js_ eU
   cases oj with
   |none=>cases e2
   |some j=>
    have e3:(σ[j]?).join=some v:=e2
    have e4:σ[j]?=some (some v):=by
     cases q:σ[j]? with
     |none=>rw[q]at e3;cases e3
     |some z=>rw[q]at e3;exact jG_ some e3
    obtain⟨k1,k2⟩:=CG.get hc e
    have k3:X.env.kindOf y=some .cell\/X.env.kindOf y=some .free:=S.free (y,.free) (qm_ k2) rfl
    have mT:Vis X.env.scope y:=by
     rcases k3 with k|k
     ·exact .inr (.inl k)
     ·exact .inr (.inr k)
    obtain⟨mX,hnX,hl⟩:=I.loc
    obtain⟨u,r,l⟩:=hl j y v k1 e4 mT
    refine⟨u,r,?_⟩
    rcases l with ⟨k,_⟩|⟨_,ca,pS,z⟩
    ·rcases k3 with k' | k'<;>(rw[k]at k';cases k')
    ·obtain⟨kd,mZ,ek⟩:=D4 (env:=X.env) k2
     have fJ:(compEnvC sc (clOf X.env sc.names []) C X.env).kindOf y=some kd:=ek
     obtain⟨c',jA⟩:=EB (env:=X.env) sc.names [] y (.inl (qm_ k2))
     obtain⟨c2,cL⟩:=Bb jA
     have e5:=BL I S cL
     rw[pS]at e5
     have e6:ca=c2:=js_ e5
     subst e6
     refine .inr ⟨?_,ca,cL,?_⟩
     ·rcases mZ with rfl|rfl
      ·exact .inl fJ
      ·exact .inr fJ
     ·obtain⟨oc,ee,hd⟩:=z
      exact⟨oc,hk _ _ ee,hd⟩
 cell:=fun x ca h=>by
  obtain⟨v,oc,ee,hd⟩:=I.cell x ca (BL I S h)
  exact⟨v,oc,hk _ _ ee,hd⟩
 free:=I.hok.fresh hC
 freeC:=fun x ca h=>I.freeC x ca (BL I S h)
 pin:=fun p hp=>absurd (show p∈([]:α7) from hp) (by simp)
 hok:=I.hok.kept hk
 len:=by show (c.map _).length=(c.map _).length;rw[ja_,ja_]
def HOk.track       (x:HOk P w H h)(hn:H a=none)(new:Bk P w (upd H a o) h a o):HOk P w (upd H a o) h:=fun b u e=>by
 by_cases hb:b=a
 ·subst hb;rw[Ab]at e;cases e;exact new
 ·rw[Ah hb]at e
  exact (x b u e).stay (fun c v _ q=>q) (fun c q=>by rw[Ah (Ap q hn)];exact q) fun c xs q=>by rw[Ah (Ap q hn)];exact q
def Un.track {fs ex:List Addr}{H H':Hp}{h h':Heap}{a:Addr}{o:HO}(u:Un fs ex H H' h h')(ha:h.objs.size<=a)(hn:H' a=none):Un fs ex H (upd H' a o) h h' where
 keep:=u.keep
 slot:=u.slot
 free:=fun b ob q n hx=>by rw[Ah (jO_ (jA_ (jt_ q) ha))];exact u.free b ob q n hx
 there:=u.there
 tups:=fun b xs q=>by rw[Ah (Ap (u.tups b xs q) hn)];exact u.tups b xs q
 frzs:=fun b ob xs q=>by rw[Ah (Ap (u.frzs b ob xs q) hn)];exact u.frzs b ob xs q
 tbls:=fun b ps q=>by
  obtain⟨more,e⟩:=u.tbls b ps q
  exact⟨more,by rw[Ah (Ap e hn)];exact e⟩
def TR {c:Caps}{C D:Addr}{s':Shared}{af:St}{H':Hp}{o:HO}(I:Inv X ae σ H s)(J:Inv (X.blk c.names sc C s H fp) [] af H' s')(hf:∀b∈fp,FpOk X ae H b)(hD:s.heap.objs.size<=D)(hn:H' D=none)
  (new:Bk X.prog X.w (upd H' D o) s'.heap D o):Inv X ae σ (upd H' D o) s':=by
 have u:Un (frs X.stack) fp H H' s.heap s'.heap:=J.base
 exact I.call' J.os (u.track hD hn) (J.hok.track hn new) J.bare fun b hb=>⟨(hf b hb).2.2.2.1,(hf b hb).2.1,(hf b hb).2.2.2.2.1,(hf b hb).2.2.2.2.2⟩
end
def PF (X:Cx)(cI:List Expr)(t:TT):Prop:=
 ∀(ae:α7) (s:Shared) (σ:St) (H:Hp) (Q:Bool->Hp->Prop),Inv X ae σ H s->t σ H Q ->
  wpAny (model X.prog X.w) X.A (forIn cI true fun c r=>if r=true then do let ok <- isTrue c X.env (eval c X.env);pure (sf ok) else pure (sf r)) (TP X ae σ Q) X.xe s
def Nv:TT:=fun _ H Q=>Q true H
def Bc  : PF X [] Nv:=fun _ _ _ H _ I h=>wpAny_tests_nil ⟨H,I,h⟩
def OV    (h:PT X c t):PF X [c] t:=fun ae s σ H Q I hw=>wpAny_tests_one (h ae s σ H Q I hw)
def Q5 (wi:TI)(cp:Caps)(g:TG)(tc:TT)(te:TE):TE:=fun σ H Q=>wi σ H fun J H1=>∃W:Nat->Nat->List V->St->Hp->Prop,(∃m,W 0 m [] (cp.st σ) H1)/\∀i m ys af H',W i m ys af H' ->
 ys.length<sizeLine/\((J.stop i H'/\∀D,H' D=none->Q (.ref D) (upd H' D (.lst ys)))\/(J.go i H'/\∃N:List V->St->Hp->Prop,(∀zs ai H2,N zs ai H2->∃m',m'<m/\W (i+1) m' zs ai H2)/\∀x H2,J.yld i H' x H2->g x af H2 fun ai H3=>tc ai H3 fun b H4=>
  if b=true then te ai H4 fun v H5=>N (ys++[v]) ai H5 else N ys ai H4))
section
variable {X:Cx} {tg iter cM:Expr} {cI:List Expr} {sc:Scope} {pos:Pos} {wi:TI} {cp:Caps} {g:TG} {tc:TT} {te:TE}
def Kt (hc:X.calm=true)(S:BlkSc X sc)(iY:CG X.N sc cp)
  (hg:∀C s₀ H₀ ex,PG (X.blk cp.names sc C s₀ H₀ ex) tg g) (hf:∀C s₀ H₀ ex,PF (X.blk cp.names sc C s₀ H₀ ex) cI tc) (he:∀C s₀ H₀ ex,PE (X.blk cp.names sc C s₀ H₀ ex) cM te)
  {ae:α7} {σ:St} {H:Hp} {s:Shared} {J:It} {it:Addr} {fp:List Addr} {tn:Nat->Heap->Prop} {Q:VK} {RR:Value->Addr->Result->Shared->Prop} {E:Value->Shared->Prop}
  (I:Inv X ae σ H s) (T:Turn X.prog X.w X.K tg J fp it tn) (st:tn 0 s.heap) (fK:∀b∈fp,FpOk X ae H b)
  (hw:∃W:Nat->Nat->List V->St->Hp->Prop,(∃m,W 0 m [] (cp.st σ) H)/\∀i m ys af H',W i m ys af H' ->
   ys.length<sizeLine/\((J.stop i H'/\∀D,H' D=none->Q (.ref D) (upd H' D (.lst ys)))\/(J.go i H'/\∃N:List V->St->Hp->Prop,(∀zs ai H2,N zs ai H2->∃m',m'<m/\W (i+1) m' zs ai H2)/\∀x H2,J.yld i H' x H2->g x af H2 fun ai H3=>tc ai H3 fun b H4=>
    if b=true then te ai H4 fun v H5=>N (ys++[v]) ai H5 else N ys ai H4)))
  (hR:∀D C s' H' (m:Str->α5),Inv X ae σ H' s'->Q (.ref D) H'->s'.heap.Ns C m->H' C=none->C≠X.env.locals->X.s₀.heap.objs.size<=C->(∀x c,X.env.cells.lookup x=some c->c≠C)->(∀p∈X.pn++ae,p.1≠C)->RR (.ref D) C (.ok .next) s'):
  wpAny (model X.prog X.w) X.A (newList []) (fun ah a9=>wpAny (model X.prog X.w) X.A (newFunctionEnv sc X.env.globals (clOf X.env sc.names []) [] X.env.qual none .none (some X.env)) (fun gF fH=>
   codeAny (model X.prog X.w) X.A (.compStart (.ListComp cM [⟨tg,iter,cI,0⟩] sc pos) 0 (.ref it) ah {gF with scope:=relabel sc X.env}) (RR ah gF.locals) fH) E a9) E s:=by
 obtain⟨W,⟨m0,w0⟩,turn⟩:=hw
 refine qr_ (wpAny_newFunctionEnv S.nocell (by intro y hy;simp at hy) (fun h₁ cy di=>?_) S.kind)
 dsimp only at cy di ⊢
 generalize jZ:s.heap.push {cls:=.type "list",dict:=none,data:=.seq ([]:List Value).toArray}=H2 at cy di ⊢
 have hC:H2.objs.size=s.heap.objs.size+1:=by rw[<-jZ,qf_]
 have jC:s.heap.objs.size≠H2.objs.size:=by rw[hC];exact jO_ (zg_ _)
 have bX:s.heap.objs.size<=H2.objs.size:=by rw[hC];exact wj_ _
 have below:∀b,b<s.heap.objs.size->b≠H2.objs.size:=fun b hb=>by rw[hC];exact jO_ (xm_ hb)
 have ez:∀b o,s.heap.get? b=some o->h₁.get? b=some o:=fun b o e=>di.extBut b o (below b (jt_ e)) (jg_ _ (jZ ▸ jg_ _ e))
 have aS:h₁.get? s.heap.objs.size=some {cls:=.type "list",data:=.seq ([]:List Value).toArray 0}:=di.extBut _ _ jC (jg_ _ (jZ ▸ jz_ _ rfl))
 have cz:tn 0 h₁:=T.keep 0 _ _ st fun b _ o e=>ez b o e
 have bV:∀b∈fp,∃o,s.heap.get? b=some o:=fun b hb=>let ⟨o,e,_⟩:=T.obj 0 _ st b hb;⟨o,e⟩
 have J0:Inv (X.blk cp.names sc H2.objs.size s H fp) [] (cp.st σ) H {s with heap:=h₁,toks:=s.toks+([]:List (Str×Value)).length}:=OU I S iY bX fK bV rfl rfl ez cy
 have pT:∀b,s.heap.objs.size<=b->b∉frs X.stack:=fun b hb z=>by
  rcases jD_.mp (I.stkSub b z) with e|e
  ·exact absurd (jA_ I.lt (by rw[<-e];exact hb)) (qb_ _)
  ·exact I.nofs hb e
 have dP:∀b,s.heap.objs.size<=b->∀x c,X.env.cells.lookup x=some c->c≠b:=fun b hb x c e z=>by
  obtain⟨v,q⟩:=I.cell x c e
  exact absurd (jA_ q.lt (by rw[z];exact hb)) (qb_ _)
 have m5:∀{br:α7} {H':Hp},(∀b∈fp,H' b=none)->(∀p∈br,p.1∉fp)->∀b∈fp,FpOk (X.blk cp.names sc H2.objs.size s H fp) br H' b:=fun {br H'} hn hp b hb=>by
  obtain⟨o,e⟩:=bV b hb
  refine⟨hn b hb,below b (jt_ e),fun z=>?_,.inl hb,fun x c h=>(fK b hb).2.2.2.2.1 x c (BL I S h),fun p lZ z=>?_⟩
  ·rcases jD_.mp (I.stkSub b z) with e|e
   ·exact (fK b hb).2.1 e
   ·exact (fK b hb).2.2.1 e
  ·have j0:p∈br:=by simpa using lZ
   exact hp p j0 (by rw[z];exact hb)
 have fC:∀a9:Shared,a9={s with heap:=h₁,toks:=s.toks+([]:List (Str×Value)).length} ->
   codeAny (model X.prog X.w) X.A (.compLoop (.ListComp cM [⟨tg,iter,cI,0⟩] sc pos) 0 (.ref it) (.ref s.heap.objs.size) (compEnvC sc (clOf X.env sc.names []) H2.objs.size X.env))
    (RR (.ref s.heap.objs.size) H2.objs.size) a9:=by
  rintro a9 rfl
  refine Gq (fun n s'=>∃i af H' ys its k,Inv (X.blk cp.names sc H2.objs.size s H fp) [] af H' s'/\tn i s'.heap/\(∀b∈fp,H' b=none)/\H' s.heap.objs.size=none /\
   s'.heap.get? s.heap.objs.size=some {cls:=.type "list",data:=.seq its.toArray k}/\Vals ys its/\W i n ys af H') ?_ m0
   ⟨0,_,H,[],[],0,J0,cz,fun b hb=>(fK b hb).1,I.hok.fresh (ji_ _),aS,.nil,w0⟩
  rintro n s3 ⟨i,aE,H3,ys,its,k,I3,cm,lW,pU,e3,rv,w3⟩
  obtain⟨hz,tr⟩:=turn i n ys aE H3 w3
  have aj:=rv.length
  -- pM accumulator stands still while anything else runs
  have gG:∀p ∈ [(s.heap.objs.size,({cls:=.type "list",data:=.seq its.toArray k}:Obj))],p.1∉fp:=fun p hp z=>by
   have e:p=_:=jr_.mp hp
   subst e
   obtain⟨o,e⟩:=bV _ z
   exact absurd (jt_ e) (qb_ _)
  have m6:Inv (X.blk cp.names sc H2.objs.size s H fp) [(s.heap.objs.size,({cls:=.type "list",data:=.seq its.toArray k}:Obj))] aE H3 s3:=I3.pins_of fun p hp=>by
   have e:p=_:=jr_.mp hp
   subst e
   exact⟨e3,pU,jC,pT _ (ji_ _),fun v z=>by cases z⟩
  have df:∀b∈fp,FpOk (X.blk cp.names sc H2.objs.size s H fp) [(s.heap.objs.size,({cls:=.type "list",data:=.seq its.toArray k}:Obj))] H3 b:=m5 lW gG
  rcases tr with ⟨stop,qn⟩|⟨go,N,hN,step⟩
  ·refine thn (T.done (X.blk cp.names sc H2.objs.size s H fp) rfl rfl rfl hc i _ s3 aE H3 _ m6 df cm stop) fun r s4 ⟨hr,I4⟩=>?_
   subst hr
   obtain⟨e4,n4,_⟩:=I4.pin (s.heap.objs.size,({cls:=.type "list",data:=.seq its.toArray k}:Obj)) (by simp)
   have new:Bk X.prog X.w (upd H3 s.heap.objs.size (.lst ys)) s4.heap s.heap.objs.size (.lst ys):=⟨zj_ hz,its,k,rv,e4⟩
   obtain⟨mC,pV,_⟩:=I4.loc
   have pW:Inv (X.blk cp.names sc H2.objs.size s H fp) [] aE H3 s4:=I4.pins_of fun p hp=>by cases hp
   have I5:=TR I pW fK (ji_ _) n4 new
   refine hR _ _ s4 _ mC I5 (qn _ n4) pV ?_ (qe_ (jA_ I.lt bX)) (qt_ I.sz bX) (dP _ bX) fun p hp z=>?_
   ·rw[Ah (qp_ jC)];exact I4.free
   ·exact absurd (jA_ (jt_ (I.pin p hp).1) (by rw[z];exact bX)) (qb_ _)
  ·refine thn (T.item (X.blk cp.names sc H2.objs.size s H fp) rfl rfl rfl hc i _ s3 aE H3 _ m6 df cm go) fun r s4 ⟨u,hr,h4⟩=>?_
   subst hr
   refine thn h4 fun _ s5 ⟨x,H5,I5,r5,y5,bB,mV⟩=>?_
   have mW:=I5.pinned (m5 mV gG) (T.obj _ _ bB)
   have fin:∀{dD:St} {H7:Hp} {s7:Shared},Inv (X.blk cp.names sc H2.objs.size s H fp) ([(s.heap.objs.size,({cls:=.type "list",data:=.seq its.toArray k}:Obj))]++IG fp s5.heap) dD H7 s7 ->
     s7.heap.get? s.heap.objs.size=some {cls:=.type "list",data:=.seq its.toArray k}/\H7 s.heap.objs.size=none/\(∀b∈fp,H7 b=none)/\∀b∈fp,∀o,s5.heap.get? b=some o->s7.heap.get? b=some o:=fun {dD H7 s7} I7=>by
    obtain⟨e7,n7,_⟩:=I7.pin (s.heap.objs.size,({cls:=.type "list",data:=.seq its.toArray k}:Obj)) (by simp)
    refine⟨e7,n7,fun b hb=>?_,fun b hb o e=>?_⟩
    ·obtain⟨o,e,_⟩:=T.obj _ _ bB b hb
     exact (I7.pin (b,o) (jy_ _ (jy_ _ (CC hb e)))).2.1
    ·exact (I7.pin (b,o) (jy_ _ (jy_ _ (CC hb e)))).1
   refine qE_ (hg _ _ _ _ _ s5 aE H5 x u _ mW r5 (step x H5 y5)) (fun _ s6 ⟨dJ,H6,I6,q6⟩=>?_) fun _ _ z=>sj z
   refine qE_ (hf _ _ _ _ _ s6 dJ H6 _ I6 q6) (fun ok s7 ⟨H7,I7,q7⟩=>?_) fun _ _ z=>sj z
   cases ok with
   |false=>
    rw[if_neg ju_]
    rw[if_neg ju_]at q7
    obtain⟨m',hm,w7⟩:=hN _ _ _ q7
    obtain⟨e7,n7,pX,k7⟩:=fin I7
    exact⟨m',hm,i+1,dJ,H7,ys,its,k,I7.pins_of (fun p hp=>by cases hp),T.keep _ _ _ bB k7,pX,n7,e7,rv,w7⟩
   |true=>
    rw[if_pos rfl]
    rw[if_pos rfl]at q7
    refine qE_ (he _ _ _ _ _ s7 dJ H7 _ I7 q7) (fun v s8 ⟨y,H8,I8,r8,q8⟩=>?_) fun _ _ z=>sj z
    obtain⟨m',hm,w8⟩:=hN _ _ _ q8
    obtain⟨e8,n8,pY,k8⟩:=fin I8
    refine xL_ F.slot_list_append ⟨_,e8,rfl⟩ F.entry_list_append (zO_ _ _) (we_ s.heap.objs.size its.toArray k v (by rw[jq_];lia)) ⟨e8,?_⟩
    obtain⟨k',q⟩:∃k',(s8.heap.update s.heap.objs.size (Obj.mapSeq fun x=>x.push v)).get? s.heap.objs.size=some {cls:=.type "list",data:=.seq (its++[v]).toArray k' }:=⟨_,by
     have q:=zf_ e8 fun x=>x.push v
     have e:(its++[v]).toArray=its.toArray.push v:=by simp
     rw[e]
     exact q⟩
    have I8':Inv (X.blk cp.names sc H2.objs.size s H fp) [] dJ H8 s8:=I8.pins_of fun p hp=>by cases hp
    have I9:Inv (X.blk cp.names sc H2.objs.size s H fp) [] dJ H8 {s8 with heap:=s8.heap.update s.heap.objs.size (Obj.mapSeq fun x=>x.push v),toks:=s8.toks}:=
     I8'.turned (it:=s.heap.objs.size) (fun b o hb e=>(j8_ _ _ (qp_ hb)).trans e) n8 jC (.inr (ji_ _)) (fun x c e=>dP _ (ji_ _) x c (BL I S e)) (fun p hp=>by cases hp)
    refine⟨m',hm,i+1,dJ,H8,ys++[y],its++[v],k',I9,T.keep (i+1) s5.heap _ bB (fun b hb o e=>?_),pY,n8,q,rv.append (.cons r8 .nil),w8⟩
    ·refine (j8_ _ _ ?_).trans (k8 b hb o e)
     intro z
     obtain⟨ob,eb⟩:=bV b hb
     exact absurd (jt_ eb) (by rw[<-z];exact qb_ _)
 exact codeAny_compStart_list (fC _ rfl) (T.self _ 0 _ _ _ cz (fC _ rfl))
def A1 (hc:X.calm=true)(S:BlkSc X sc)(iY:CG X.N sc cp)(hi:PI X tg iter wi)
  (hg:∀C s₀ H₀ ex,PG (X.blk cp.names sc C s₀ H₀ ex) tg g) (hf:∀C s₀ H₀ ex,PF (X.blk cp.names sc C s₀ H₀ ex) cI tc) (he:∀C s₀ H₀ ex,PE (X.blk cp.names sc C s₀ H₀ ex) cM te)
  (hs:∀x,foldedSetIterable iter X.env x=pure x:=by intro _;rfl):PE X (.ListComp cM [⟨tg,iter,cI,0⟩] sc pos) (Q5 wi cp g tc te):=by
 intro ae s σ H Q I h
 rw[eval_ListComp]
 refine zl_ (use:=none) rfl hs (FX (Hm I S)) S.kind S.loc (thn (hi ae s σ H _ I h) fun xv s₁ h₁=>thn h₁ fun mU bE bg=>?_)
 obtain⟨it,fp,tn,J,H2,e,I2,T,aX,f2,hw⟩:=bg
 subst e
 refine Kt (RR:=fun ah C=>compPost (model X.prog X.w) X.A X.xe none (EP X ae σ Q) ah C) hc S iY hg hf he I2 T aX f2 hw ?_
 intro D C s' H' m I' q hn hC hL hz bZ hp
 exact⟨m,hn,fun h' bK=>⟨.ref D,H',I'.turned (t':=s'.toks) (it:=C) (fun b o hb e=>bK.extBut b o hb e) hC hL (.inr hz) bZ hp,rfl,q⟩⟩
def D5    (hN:X.N.Nodup)(hi:X.N[i]?=some x)(hx:X.env.scope.names.lookup x=some .local)(hc:X.calm=true)(S:BlkSc X sc)(iY:CG X.N sc cp)(aQ:PI X tg iter wi)
  (hg:∀C s₀ H₀ ex,PG (X.blk cp.names sc C s₀ H₀ ex) tg g) (hf:∀C s₀ H₀ ex,PF (X.blk cp.names sc C s₀ H₀ ex) cI tc) (he:∀C s₀ H₀ ex,PE (X.blk cp.names sc C s₀ H₀ ex) cM te)
  (pZ:swapsWith (.ListComp cM [⟨tg,iter,cI,0⟩] sc pos) (some (.Name x px)) j3.line X.env=pure true:=by rfl)
  (hs:∀x,foldedSetIterable iter X.env x=pure x:=by intro _;rfl):PS X (.Assign [.Name x px] (.ListComp cM [⟨tg,iter,cI,0⟩] sc pos) j3) (tAsg (Q5 wi cp g tc te) (Fn i)):=by
 intro ae s σ H D I h
 rw[exec_Assign_Name_used _ _ _ _ pZ]
 refine jc_ (wpAny_standAt (jc_ ?_))
 show wpAny _ X.A (do let _ <- comprehension (.ListComp cM [⟨tg,iter,cI,0⟩] sc pos) sc X.env _ (newList []) false (eval iter X.env) (some (assign (.Name x px) X.env))) _ _ s
 refine jc_ (qE_ (zl_ (use:=some (assign (.Name x px) X.env)) (Q:=fun _ s'=>SP X ae D .next s') rfl hs (FX (Hm I S)) S.kind S.loc
  (thn (aQ ae s σ H _ I h) fun xv s₁ h₁=>thn h₁ fun mU bE bg=>?_)) (fun _ s' hq=>jn_ (jn_ hq)) fun _ _ e=>e)
 obtain⟨it,fp,tn,J,H2,e,I2,T,aX,f2,hw⟩:=bg
 subst e
 refine Kt (RR:=fun ah C=>compPost (model X.prog X.w) X.A X.xe (some (assign (.Name x px) X.env)) (fun _ s'=>SP X ae D .next s') ah C) (Q:=fun v H1=>Fn i v σ H1 D.nx) hc S iY hg hf he I2 T aX f2 hw ?_
 intro Dl C s' H' m I' q hn hC hL hz bZ hp
 show wpAny _ X.A (assign (.Name x px) X.env (.ref Dl)) _ _ _
 refine wpAny_assign_Name (Hf I' hN hi (.inl hx) (v:=.ref Dl) rfl (fun jW p0 ⟨a,om,ha⟩=>?_) (.inr hx))
 have ay:C≠a:=by
  rcases ha with rfl|ha
  ·exact hL
  ·exact fun z=>bZ _ _ ha z.symm
 refine⟨m,hn.sameBut om ay,fun h' bK=>⟨_,H',p0.turned (t':=jW.toks) (it:=C) (fun b o hb e=>bK.extBut b o hb e) hC hL (.inr hz) bZ hp,q⟩⟩
end
def OW {K:α3}{a:Addr}{xs:List V}{g:TG}{tc:TT}{te:TE}{Q:VK}{σ:St}{H:Hp}(Pv:Nat->List V->St->Hp->Prop)(h0:Pv 0 [] σ H)(hz:xs.length<sizeLine)
  (hl:∀i ys σ H,i<=xs.length->Pv i ys σ H->SqL K H a xs/\ys.length<=i)
  (hs:∀i x ys σ H,xs[i]?=some x->Pv i ys σ H->g x σ H fun ai H2=>tc ai H2 fun b H3=>if b=true then te ai H3 fun v H4=>Pv (i+1) (ys++[v]) ai H4 else Pv (i+1) ys ai H3)
  (hd:∀ys σ H,Pv xs.length ys σ H->∀D,H D=none->Q (.ref D) (upd H D (.lst ys))):
  ∃W:Nat->Nat->List V->St->Hp->Prop,(∃m,W 0 m [] σ H)/\∀i m ys af H',W i m ys af H' ->
   ys.length<sizeLine/\(((Itl K a).stop i H'/\∀D,H' D=none->Q (.ref D) (upd H' D (.lst ys)))\/((Itl K a).go i H'/\∃N:List V->St->Hp->Prop,(∀zs ai H2,N zs ai H2->∃m',m'<m/\W (i+1) m' zs ai H2)/\∀x H2,(Itl K a).yld i H' x H2->g x af H2 fun ai H3=>tc ai H3 fun b H4=>
    if b=true then te ai H4 fun v H5=>N (ys++[v]) ai H5 else N ys ai H4)):=by
 refine⟨fun i m ys σ H=>m=xs.length-i/\i<=xs.length/\Pv i ys σ H,⟨xs.length,by simp,jY_ _,h0⟩,?_⟩
 rintro i m ys σ H ⟨rfl,hi,p⟩
 obtain⟨q,ly⟩:=hl i ys σ H hi p
 refine⟨by lia,?_⟩
 by_cases ar:i<xs.length
 ·refine .inr ⟨⟨xs,xs[i],q,by simp[ar]⟩,Pv (i+1),fun zs af H' p'=>⟨xs.length-(i+1),by lia,rfl,ar,p'⟩,fun x H' y=>?_⟩
  obtain⟨e,y⟩:=y
  subst e
  exact hs i x ys σ _ (y xs q) p
 ·have e:i=xs.length:=by lia
  subst e
  exact .inl ⟨⟨xs,q,ji_ _⟩,hd ys σ H p⟩
def Q6 {K:α3}{a:Addr}{xs:List V}{g:TG}{tc:TT}{te:TE}{Q:VK}{σ:St}{H:Hp}(Pv:Nat->List V->St->Hp->Prop)(h0:Pv 0 [] σ H)(hz:xs.length<sizeLine)
  (hl:∀i ys σ H,i<=xs.length->Pv i ys σ H->SqT K H a xs/\ys.length<=i)
  (hs:∀i x ys σ H,xs[i]?=some x->Pv i ys σ H->g x σ H fun ai H2=>tc ai H2 fun b H3=>if b=true then te ai H3 fun v H4=>Pv (i+1) (ys++[v]) ai H4 else Pv (i+1) ys ai H3)
  (hd:∀ys σ H,Pv xs.length ys σ H->∀D,H D=none->Q (.ref D) (upd H D (.lst ys))):
  ∃W:Nat->Nat->List V->St->Hp->Prop,(∃m,W 0 m [] σ H)/\∀i m ys af H',W i m ys af H' ->
   ys.length<sizeLine/\(((Itt K a).stop i H'/\∀D,H' D=none->Q (.ref D) (upd H' D (.lst ys)))\/((Itt K a).go i H'/\∃N:List V->St->Hp->Prop,(∀zs ai H2,N zs ai H2->∃m',m'<m/\W (i+1) m' zs ai H2)/\∀x H2,(Itt K a).yld i H' x H2->g x af H2 fun ai H3=>tc ai H3 fun b H4=>
    if b=true then te ai H4 fun v H5=>N (ys++[v]) ai H5 else N ys ai H4)):=by
 refine⟨fun i m ys σ H=>m=xs.length-i/\i<=xs.length/\Pv i ys σ H,⟨xs.length,by simp,jY_ _,h0⟩,?_⟩
 rintro i m ys σ H ⟨rfl,hi,p⟩
 obtain⟨q,ly⟩:=hl i ys σ H hi p
 refine⟨by lia,?_⟩
 by_cases ar:i<xs.length
 ·refine .inr ⟨⟨xs,xs[i],q,by simp[ar]⟩,Pv (i+1),fun zs af H' p'=>⟨xs.length-(i+1),by lia,rfl,ar,p'⟩,fun x H' y=>?_⟩
  obtain⟨e,y⟩:=y
  subst e
  exact hs i x ys σ _ (y xs q) p
 ·have e:i=xs.length:=by lia
  subst e
  exact .inl ⟨⟨xs,q,ji_ _⟩,hd ys σ H p⟩
def Nw {lo:Int}{n:Nat}{g:TG}{tc:TT}{te:TE}{Q:VK}{σ:St}{H:Hp}(Pv:Nat->List V->St->Hp->Prop)(h0:Pv 0 [] σ H)(hz:n<sizeLine)
  (hl:∀i ys σ H,i<=n->Pv i ys σ H->ys.length<=i)
  (hs:∀i ys σ H,i<n->Pv i ys σ H->g (.int (lo+i)) σ H fun ai H2=>tc ai H2 fun b H3=>if b=true then te ai H3 fun v H4=>Pv (i+1) (ys++[v]) ai H4 else Pv (i+1) ys ai H3)
  (hd:∀ys σ H,Pv n ys σ H->∀D,H D=none->Q (.ref D) (upd H D (.lst ys))):
  ∃W:Nat->Nat->List V->St->Hp->Prop,(∃m,W 0 m [] σ H)/\∀i m ys af H',W i m ys af H' ->
   ys.length<sizeLine/\(((Itr lo n).stop i H'/\∀D,H' D=none->Q (.ref D) (upd H' D (.lst ys)))\/((Itr lo n).go i H'/\∃N:List V->St->Hp->Prop,(∀zs ai H2,N zs ai H2->∃m',m'<m/\W (i+1) m' zs ai H2)/\∀x H2,(Itr lo n).yld i H' x H2->g x af H2 fun ai H3=>tc ai H3 fun b H4=>
    if b=true then te ai H4 fun v H5=>N (ys++[v]) ai H5 else N ys ai H4)):=by
 refine⟨fun i m ys σ H=>m=n-i/\i<=n/\Pv i ys σ H,⟨n,by simp,jY_ _,h0⟩,?_⟩
 rintro i m ys σ H ⟨rfl,hi,p⟩
 have ly:=hl i ys σ H hi p
 refine⟨by lia,?_⟩
 by_cases ar:i<n
 ·refine .inr ⟨ar,Pv (i+1),fun zs af H' p'=>⟨n-(i+1),by lia,rfl,ar,p'⟩,fun x H' y=>?_⟩
  obtain⟨e,y⟩:=y
  subst e y
  exact hs i ys σ _ ar p
 ·have e:i=n:=by lia
  subst e
  exact .inl ⟨ji_ _,hd ys σ H p⟩
end L2
namespace L2
open PySem PySem.Spec PyProof.Rows
section
variable {X:Cx}
def Jr {bs:List Bool}{its:List Value}(r:Vals (bs.map V.bl) its){i:Nat}{v:Value}(h:its[i]?=some v):∃b,bs[i]?=some b/\v=.bool b:=by
 have hi:i<its.length:=(jb_.mp h).1
 have hl:=r.length
 rw[ja_]at hl
 obtain⟨u,hu,ru⟩:=r.get (i:=i) (x:=V.bl bs[i]) (by rw[jf_];simp[show i<bs.length by lia])
 rw[h]at hu
 cases hu
 exact⟨bs[i],by simp[show i<bs.length by lia],ru⟩
def range_all {bs:List Bool}:(rY bs.length).all (fun i=>bs.getD i false)=bs.all id:=by
 rw[qy_,qG_,qG_]
 constructor
 ·intro h x hx
  obtain⟨i,hi,e⟩:=jN_ hx
  have:=h i (jC_.mpr hi)
  rw[jk_]at this
  simp[hi]at this
  rw[e]at this
  exact this
 ·intro h i hi
  have hi:=jC_.mp hi
  rw[jk_]
  simp[hi]
  exact h _ (j0_ hi)
def Ly {bs:List Bool}{its:List Value}{A:Around}{P:Program}{w:World}(r:Vals (bs.map V.bl) its):TruthOf P w A (fun i v=>its.toArray[i]?=some v) (fun i=>bs.getD i false):=by
 intro i v s Q E hv hq
 obtain⟨b,hb,e⟩:=Jr r (by simpa using hv)
 subst e
 refine x4_ ?_
 have e:bs.getD i false=b:=by rw[jk_,hb];rfl
 have iE:Q (bs.getD i false) s:=hq
 rw[e]at iE
 exact iE
def Q7 (hc:X.calm=true):Cm X (.builtin "all") (fun xs H Q=>∃(p:Addr) (bs:List Bool),xs=[.ref p]/\SqL X.K H p (bs.map V.bl)/\Q (.bl (bs.all id)) H):=by
 intro ae s σ H xs us Q I r h
 obtain⟨p,bs,rfl,hq,q⟩:=h
 obtain⟨u,rfl,ru⟩:=vals1 r
 cases ru
 obtain⟨its,rv,pl,hz⟩:=I.list hq
 have aj:=rv.length
 rw[ja_]at aj
 have hh:X.A.in1.handled=none:=I.ok.hd hc
 obtain⟨o,ho,_⟩:=id pl.isList
 have ay:p≠s.heap.objs.size:=jO_ (jt_ ho)
 refine call_all_walk (zC_ pl.isList ?_)
 refine⟨s.heap.objs.size,_,_,its.toArray.size,_,_,fun i=>bs.getD i false,rfl,Walks.list hh _ p ay its.toArray,⟨⟨_,jz_ _ rfl,rfl,rfl⟩,pl.isList.at fun o e=>jg_ _ e⟩,Ly rv,fun h' tk hk=>?_⟩
 refine⟨.bl (bs.all id),H,I.kept (t':=tk) fun b o e=>hk b o ?_ (jg_ _ e),?_,q⟩
 ·intro hb
  have e':b=s.heap.objs.size:=by simpa using hb
  exact absurd (jt_ e) (by rw[e'];exact qb_ _)
 ·rw[jq_,<-aj,range_all];rfl
def Dh:Cm X (.builtin "isinstance") (fun xs H Q=>∃x c cv t b,xs=[x,c]/\TyOf X.K H x t/\(∀u,RelV c u->u=cv)/\kitOne X.K t cv=some b/\Q (.bl b) H):=by
 intro ae s σ H xs us Q I r h
 obtain⟨x,c,cv,t,b,rfl,ty,hc,hk,q⟩:=h
 obtain⟨u,w',rfl,rx,rc⟩:=vals2 r
 rw[hc _ rc]
 exact Oz I rx ty hk fun tk=>⟨.bl b,H,I.tok tk,rfl,q⟩
def EqD (K:α3)(H:Hp):Nat->V->V->Bool->Prop
 |0,x,y,b=>Ct x=true/\Ct y=true/\b=eqV x y
 |n+1,x,y,b=>(Ct x=true/\Ct y=true/\b=eqV x y) \/ ∃a c xs ys,x=.ref a/\y=.ref c/\((SqL K H a xs/\SqL K H c ys)\/(SqT K H a xs/\SqT K H c ys)) /\
   ∃e:Nat->Bool,(∀i x y,xs[i]?=some x->ys[i]?=some y->EqD K H n x y (e i))/\b=(decide (xs.length=ys.length)&&(rY (min xs.length ys.length)).all e)
def in1_units (A:Around):A.in1.units=A.units+1:=rfl
def Mz  (h:Ct x=true):eqV x x=true:=by
 cases x<;>first|rfl|(simp[eqV];done)|exact absurd (show false=true from h) ju_
def EqD.self     (I:Inv X ae σ H s):∀(n:Nat) {x:V} {b:Bool},EqD X.K H n x x b->b=true:=by
 intro n
 induction n with
 |zero=>
  rintro x b ⟨fx,_,rfl⟩
  exact Mz fx
 |succ n ih=>
  rintro x b (⟨fx,_,rfl⟩|⟨a,c,xs,ys,rfl,e2,hq,e,he,rfl⟩)
  ·exact Mz fx
  ·cases e2
   have p8:xs=ys:=by
    rcases hq with ⟨h1,h2⟩|⟨h1,h2⟩
    ·exact I.list_inj h1 h2
    ·exact I.tuple_inj h1 h2
   subst p8
   simp only[decide_true,vO,uy,qG_,jC_]
   intro i hi
   exact ih (he i xs[i] xs[i] (by simp[hi]) (by simp[hi]))
def TU   : ((rY (min n m)).all e&&n==m)=(decide (n=m)&&(rY (min n m)).all e):=by
 rw[Bool.and_comm]
 congr 1
def EqD.at     (I:Inv X ae σ H s):∀(n:Nat) (A:Around) {x y:V} {u v:Value} {b:Bool},A.units+n<cLine->RelV x u->RelV y v->EqD X.K H n x y b ->
  SeqAt.EqAt A s u v b/\∀a c,x=.ref a->y=.ref c->SeqAt.RcAt A s u v b:=by
 intro n
 induction n with
 |zero=>
  intro A x y u v b hu rx ry h
  obtain⟨fx,fy,rfl⟩:=h
  refine⟨OF rx ry fx fy,?_⟩
  rintro a c rfl rfl
  exact absurd (show false=true from fx) ju_
 |succ n ih=>
  intro A x y u v b hu rx ry h
  have hself:=h
  rcases h with ⟨fx,fy,rfl⟩|⟨a,c,xs,ys,rfl,rfl,hq,e,he,rfl⟩
  ·refine⟨OF rx ry fx fy,?_⟩
   rintro a c rfl rfl
   exact absurd (show false=true from fx) ju_
  ·cases rx
   cases ry
   have key:∀(its aN:List Value),Vals xs its->Vals ys aN->∀j (h1:j<its.toArray.size) (h2:j<aN.toArray.size),SeqAt.EqAt A.in1 s its.toArray[j] aN.toArray[j] (e j):=fun its aN r1 r2 j h1 h2=>by
    have l1:=r1.length
    have l2:=r2.length
    rw[jq_]at h1 h2
    obtain⟨u1,g1,q1⟩:=r1.get (i:=j) (x:=xs[j]'s!"") (by simp[show j<xs.length by lia])
    obtain⟨u2,g2,q2⟩:=r2.get (i:=j) (x:=ys[j]'s!"") (by simp[show j<ys.length by lia])
    have k1:its.toArray[j]'(by rw[jq_];exact h1)=u1:=by
     have:=(jb_.mp g1).2
     simpa using this
    have k2:aN.toArray[j]'(by rw[jq_];exact h2)=u2:=by
     have:=(jb_.mp g2).2
     simpa using this
    rw[k1,k2]
    exact (ih A.in1 (by rw[in1_units];lia) q1 q2 (he j _ _ (by simp[show j<xs.length by lia]) (by simp[show j<ys.length by lia]))).1
   have rc:SeqAt.RcAt A s (.ref a) (.ref c) (decide (xs.length=ys.length)&&(rY (min xs.length ys.length)).all e):=by
    rcases hq with ⟨h1,h2⟩|⟨h1,h2⟩
    ·obtain⟨its,r1,p1,_⟩:=I.list h1
     obtain⟨aN,r2,p2,_⟩:=I.list h2
     have l1:=r1.length
     have l2:=r2.length
     by_cases hl:xs.length=ys.length
     ·have:=SeqAt.RcAt.lists (e:=e) p1.isList p2.isList (by rw[jq_,jq_];lia) s!"" (key its aN r1 r2)
      rw[jq_,<-l1]at this
      rw[j7_ hl,vO,<-hl,uy]
      exact this
     ·rw[qc_ hl,va]
      exact SeqAt.RcAt.lists_lengths p1.isList p2.isList (by rw[jq_,jq_];simp;lia) s!""
    ·obtain⟨its,r1,p1,_⟩:=I.tuple h1
     obtain⟨aN,r2,p2,_⟩:=I.tuple h2
     have l1:=r1.length
     have l2:=r2.length
     have:=SeqAt.RcAt.tuples (e:=e) (show s.heap.IsTuple a its.toArray from p1) (show s.heap.IsTuple c aN.toArray from p2) s!"" (key its aN r1 r2)
     rw[jq_,jq_,<-l1,<-l2,TU]at this
     exact this
   refine⟨?_,fun a' c' _ _=>rc⟩
   by_cases hac:a=c
   ·subst hac
    rw[EqD.self I (n+1) hself]
    exact SeqAt.EqAt.same _
   ·exact SeqAt.EqAt.of_refs hac rc
def EqD.flat {K:α3}    (hq:(SqL K H a xs/\SqL K H c ys)\/(SqT K H a xs/\SqT K H c ys))(fx:∀x∈xs,Ct x=true)(fy:∀y∈ys,Ct y=true)(hi:∀x∈xs,∀y∈ys,eqV x y=decide (x=y))(n:Nat):
  EqD K H (n+1) (.ref a) (.ref c) (decide (xs=ys)):=by
 have base:∀m i x y,xs[i]?=some x->ys[i]?=some y->EqD K H m x y (decide (x=y)):=fun m i x y h1 h2=>by
  have m1:=jd_ h1
  have m2:=jd_ h2
  cases m with
  |zero=>exact⟨fx _ m1,fy _ m2,(hi _ m1 _ m2).symm⟩
  |succ m=>exact .inl ⟨fx _ m1,fy _ m2,(hi _ m1 _ m2).symm⟩
 refine .inr ⟨a,c,xs,ys,rfl,rfl,hq,fun i=>match xs[i]?,ys[i]? with|some x,some y=>decide (x=y)|_,_=>true,fun i x y h1 h2=>?_,?_⟩
 ·simp only[h1,h2]
  exact base n i x y h1 h2
 ·rw[qy_]
  simp only[qs_,qj_,qG_,jC_]
  constructor
  ·rintro rfl
   refine⟨rfl,fun i hi=>?_⟩
   have hi:i<xs.length:=by lia
   simp[hi]
  ·rintro⟨hl,h⟩
   refine qS_ fun i=>?_
   by_cases hi:i<xs.length
   ·have:=h i s!""
    simp[hi,show i<ys.length by lia]at this
    simp[hi,show i<ys.length by lia,this]
   ·rw[jV_ s!"",jV_ s!""]
end
end L2
namespace L2
open PySem PySem.Spec PyProof.Rows
def U9 (outer:List (Str×NameKind))(sc:Scope):Bool:=
 sc.kind == .function&&sc.names.all (fun y=>y.2 != .cell&&(y.2 != .local||sc.names.lookup y.1==some .local)&&(y.2 != .free||outer.lookup y.1==some .cell||outer.lookup y.1==some .free))
def A2   (h:U9 X.env.scope.names sc=true):BlkSc X sc:=by
 unfold U9 at h
 rw[qj_,qG_]at h
 obtain⟨h1,h2⟩:=h
 refine⟨by simpa using h1,fun y hy z=>?_,fun y hy z=>?_,fun y hy z=>?_⟩
 ·have:=h2 y hy
  simp only[qj_]at this
  have:=this.1.1
  rw[z]at this
  exact absurd this (by decide)
 ·have:=h2 y hy
  simp only[qj_]at this
  have:=this.1.2
  rw[z]at this
  simpa using this
 ·have:=h2 y hy
  simp only[qj_]at this
  have:=this.2
  rw[z]at this
  have t:(X.env.scope.names.lookup y.1==some .cell||X.env.scope.names.lookup y.1==some .free)=true:=by simpa using this
  rw[uX]at t
  rcases t with t|t
  ·exact .inl (by show X.env.scope.names.lookup y.1=some .cell;simpa using t)
  ·exact .inr (by show X.env.scope.names.lookup y.1=some .free;simpa using t)
section
variable {t u:TS} {te ta tb tc':TE} {tt tu:TT} {A B:TA} {D:Ends} {σ:St} {H:Hp} {Q:VK} {R:Bool->Hp->Prop} {S:List V->Hp->Prop} {i:Nat} {v:V} {g:TG} {r r':R2} {K:α3} {wi:TI} {cp:Caps}
theorem Va:tSeq t u D σ H=t {D with nx:=u D} σ H:=rfl
theorem So:UL D σ H=D.nx σ H:=rfl
theorem Vb:tAsg te g D σ H=te σ H fun x H1=>g x σ H1 D.nx:=rfl
theorem OX  : Fn i v σ H N=N (σ.set i (some v)) H:=rfl
theorem Vc:tVar i σ H Q=∃v,σ[i]?=some (some v)/\Q v H:=rfl
theorem r_c:tC v σ H Q=Q v H:=rfl
theorem r_op:tOp r ta tb σ H Q=ta σ H fun x H1=>tb σ H1 fun y H2=>r x y H2 Q:=rfl
theorem r_un  : tUn f ta σ H Q=ta σ H fun x H1=>f x H1 Q:=rfl
theorem r_I    : rI C f x y H Q=∃i j,x=.int i/\y=.int j/\C i j/\Q (f i j) H:=rfl
theorem r_I0   : rI0 f x y H Q=∃i j,x=.int i/\y=.int j/\Q (f i j) H:=rfl
theorem r_U   : rU f x H Q=∃i,x=.int i/\Q (f i) H:=rfl
theorem Sq    : Ty sp iy E A σ H Q=A σ H fun vs H1=>sp (vs++iy) H1 Q E:=rfl
theorem Sr:UV te A σ H S=te σ H fun x H1=>A σ H1 fun xs H2=>S (x::xs) H2:=rfl
theorem Vd:tNil σ H S=S [] H:=rfl
theorem Ve:tRet te D σ H=te σ H D.rt:=rfl
theorem Ss:UM te D σ H=te σ H fun _ H1=>D.nx σ H1:=rfl
theorem r_if:tIfS tt t u D σ H=tt σ H fun b H1=>if b=true then t D σ H1 else u D σ H1:=rfl
theorem r_B:tB te σ H R=te σ H fun x H1=>∃c,x=.bl c/\R c H1:=rfl
theorem Su:QW te σ H R=te σ H fun x H1=>∃c,x=.bl c/\R c H1:=rfl
theorem Vf:tAnd tt tu σ H R=tt σ H fun c H1=>if c=true then tu σ H1 R else R false H1:=rfl
theorem r_or:tOr tt tu σ H R=tt σ H fun c H1=>if c=true then R true H1 else tu σ H1 R:=rfl
theorem Vg:tNot tt σ H R=tt σ H fun c H1=>R (!c) H1:=rfl
theorem OY:Sl r r' ta tb tc' σ H Q=ta σ H fun x H1=>tb σ H1 fun y H2=>r x y H2 fun z H3=>∃k,z=.bl k/\(if k=true then tc' σ H3 fun w' H4=>r' y w' H4 Q else Q (.bl false) H3):=rfl
theorem r_CB  : tCB f A σ H Q=A σ H fun vs H1=>f vs H1 Q:=rfl
theorem Vh:tLst A σ H Q=A σ H fun xs H1=>xs.length<=sizeLine/\∀p,H1 p=none->Q (.ref p) (upd H1 p (.lst xs)):=rfl
theorem Vi:tTup A σ H Q=A σ H fun xs H1=>xs.length<=sizeLine/\∀p,H1 p=none->Q (.ref p) (upd H1 p (.tup xs)):=rfl
theorem Vj  : rIxL K x y H Q=∃p xs i v,x=.ref p/\y=.int i/\SqL K H p xs/\atI xs i=some v/\Q v H:=rfl
theorem Vk  : rIxT K x y H Q=∃p xs i v,x=.ref p/\y=.int i/\SqT K H p xs/\atI xs i=some v/\Q v H:=rfl
theorem r_sl   : tSl f te tl th σ H Q=te σ H fun x H1=>tl σ H1 fun l H2=>th σ H2 fun u H3=>f x l u H3 Q:=rfl
theorem Sv  : UZ te σ H U=te σ H fun x H1=>∃i,x=.int i/\U (some i) H1:=rfl
theorem MA  : OB σ H U=U none H:=rfl
theorem r_BM   : tBM K T f te A σ H Q=te σ H fun x H1=>tyV K T x H1/\A σ H1 fun xs H2=>f x xs H2 Q:=rfl
theorem MB   : OG x vs H Q=∃l xs y,x=.ref l/\vs=[y]/\H l=some (.lst xs)/\xs.length<sizeLine/\Q .non (upd H l (.lst (xs++[y]))):=rfl
theorem Sw    : gSub to ti ts v σ H N=to σ H fun o H1=>ti σ H1 fun i H2=>ts o i v H2 fun H3=>N σ H3:=rfl
theorem Sx   : U2 o k v H N=∃p xs m j,o=.ref p/\k=.int m/\H p=some (.lst xs)/\ixN xs.length m=some j/\N (upd H p (.lst (xs.set j v))):=rfl
theorem r_Eq  : rEq x y H Q=(scal x y=true/\Q (.bl (decide (x=y))) H):=rfl
theorem r_Ne  : rNe x y H Q=(scal x y=true/\Q (.bl (!decide (x=y))) H):=rfl
theorem OZ  : UQ K te σ H Z=te σ H fun x H1=>∃a,x=.ref a/\(∃xs,SqL K H1 a xs)/\Z (Itl K a) H1:=rfl
theorem Sy  : iTup K te σ H Z=te σ H fun x H1=>∃a,x=.ref a/\(∃xs,SqT K H1 a xs)/\Z (Itt K a) H1:=rfl
theorem O0  : UR A σ H Z=A σ H fun vs H1=>∃j:Int,vs=[.int j] /\ -(2 ^ 62)<=j/\j<2 ^ 62/\Z (Itr 0 j.toNat) H1:=rfl
theorem Vl  : tAug i te ti D σ H=∃x,σ[i]?=some (some x)/\te σ H fun y H1=>ti x y H1 fun z H2=>D.nx (σ.set i (some z)) H2:=rfl
theorem r_ip   : ipI f x y H Q=∃i j,x=.int i/\y=.int j/\Q (.int (f i j)) H:=rfl
theorem Sz:Nv σ H R=R true H:=rfl
end
def Same.new    (h:H p=none):Same H (upd H p o):=fun b u e=>by rw[Ah (Ap e h)];exact e
def Same.newT    (s:Same H H')(h:H' p=none):Same H (upd H' p o):=s.trans (Same.new h)
def Same.over    (s:Same H H')(h:H p=none):Same H (upd H' p o):=fun b u e=>by rw[Ah (Ap e h)];exact s b u e
def At    (h:upd H p o D=none):H D=none/\D≠p:=by
 by_cases e:D=p
 ·subst e;rw[Ab]at h;cases h
 ·rw[Ah e]at h;exact⟨h,e⟩
def Same.seqT {K:α3}    (e:Same H H')(h:SqT K H a xs):SqT K H' a xs:=by
 rcases h with (h|⟨o,h⟩)|h
 ·exact .inl (.inl (e _ _ h))
 ·exact .inl (.inr ⟨o,e _ _ h⟩)
 ·exact .inr h
def hu9   (hr:Room k A):A.units+8<cLine:=by have:=hr.units;lia
section
variable {K:α3} {wi:TI} {cp:Caps} {g:TG} {tc:TT} {te:TE} {σ:St} {H:Hp} {Q:VK}
theorem Vm               : (cxOf CX P w K mg base N qual scope f cd A outer s H E).K=K:=rfl
def Ku (J:It)(cp:Caps)(g:TG)(tc:TT)(te:TE)(σ:St)(H1:Hp)(Q:VK):Prop:=∃W:Nat->Nat->List V->St->Hp->Prop,(∃m,W 0 m [] (cp.st σ) H1)/\∀i m ys af H',W i m ys af H' ->
 ys.length<sizeLine/\((J.stop i H'/\∀D,H' D=none->Q (.ref D) (upd H' D (.lst ys)))\/(J.go i H'/\∃N:List V->St->Hp->Prop,(∀zs ai H2,N zs ai H2->∃m',m'<m/\W (i+1) m' zs ai H2)/\∀x H2,J.yld i H' x H2->g x af H2 fun ai H3=>tc ai H3 fun b H4=>
  if b=true then te ai H4 fun v H5=>N (ys++[v]) ai H5 else N ys ai H4))
theorem SA:Q5 wi cp g tc te σ H Q=wi σ H fun J H1=>Ku J cp g tc te σ H1 Q:=rfl
def ForW (J:It)(g:TG)(tb:TS)(D:Ends)(σ:St)(H1:Hp):Prop:=∃W:Nat->Nat->St->Hp->Prop,(∃m,W 0 m σ H1)/\∀i m σ H,W i m σ H ->
 (J.stop i H/\D.nx σ H)\/(J.go i H/\∃N:St->Hp->Prop,(∀af H',N af H'->∃m',m'<m/\W (i+1) m' af H')/\∀x H',J.yld i H x H'->g x σ H' fun ai H2=>tb {D with nx:=N,ct:=N,bk:=D.nx} ai H2)
theorem Vn   : tFor wi g tb D σ H=wi σ H fun J H1=>ForW J g tb D σ H1:=rfl
def forL        (Pv:Nat->St->Hp->Prop)(h0:Pv 0 σ H)(hl:∀i σ H,i<=xs.length->Pv i σ H->SqL K H a xs)
  (hs:∀i x σ H,xs[i]?=some x->Pv i σ H->g x σ H fun ai H2=>tb {D with nx:=Pv (i+1),ct:=Pv (i+1),bk:=D.nx} ai H2) (hd:∀σ H,Pv xs.length σ H->D.nx σ H):ForW (Itl K a) g tb D σ H:=QU Pv h0 hl hs hd
def forT        (Pv:Nat->St->Hp->Prop)(h0:Pv 0 σ H)(hl:∀i σ H,i<=xs.length->Pv i σ H->SqT K H a xs)
  (hs:∀i x σ H,xs[i]?=some x->Pv i σ H->g x σ H fun ai H2=>tb {D with nx:=Pv (i+1),ct:=Pv (i+1),bk:=D.nx} ai H2) (hd:∀σ H,Pv xs.length σ H->D.nx σ H):ForW (Itt K a) g tb D σ H:=Tu Pv h0 hl hs hd
def forR {lo:Int}       (Pv:Nat->St->Hp->Prop)(h0:Pv 0 σ H)
  (hs:∀i σ H,i<n->Pv i σ H->g (.int (lo+i)) σ H fun ai H2=>tb {D with nx:=Pv (i+1),ct:=Pv (i+1),bk:=D.nx} ai H2) (hd:∀σ H,Pv n σ H->D.nx σ H):ForW (Itr lo n) g tb D σ H:=Ot Pv h0 hs hd
def Iq   (Pv:Nat->List V->St->Hp->Prop)(h0:Pv 0 [] (cp.st σ) H)(hz:xs.length<sizeLine)
  (hl:∀i ys σ H,i<=xs.length->Pv i ys σ H->SqL K H a xs/\ys.length<=i)
  (hs:∀i x ys σ H,xs[i]?=some x->Pv i ys σ H->g x σ H fun ai H2=>tc ai H2 fun b H3=>if b=true then te ai H3 fun v H4=>Pv (i+1) (ys++[v]) ai H4 else Pv (i+1) ys ai H3)
  (hd:∀ys σ H,Pv xs.length ys σ H->∀D,H D=none->Q (.ref D) (upd H D (.lst ys))):Ku (Itl K a) cp g tc te σ H Q:=OW Pv h0 hz hl hs hd
def Q8   (Pv:Nat->List V->St->Hp->Prop)(h0:Pv 0 [] (cp.st σ) H)(hz:xs.length<sizeLine)
  (hl:∀i ys σ H,i<=xs.length->Pv i ys σ H->SqT K H a xs/\ys.length<=i)
  (hs:∀i x ys σ H,xs[i]?=some x->Pv i ys σ H->g x σ H fun ai H2=>tc ai H2 fun b H3=>if b=true then te ai H3 fun v H4=>Pv (i+1) (ys++[v]) ai H4 else Pv (i+1) ys ai H3)
  (hd:∀ys σ H,Pv xs.length ys σ H->∀D,H D=none->Q (.ref D) (upd H D (.lst ys))):Ku (Itt K a) cp g tc te σ H Q:=Q6 Pv h0 hz hl hs hd
def Js {lo:Int}  (Pv:Nat->List V->St->Hp->Prop)(h0:Pv 0 [] (cp.st σ) H)(hz:n<sizeLine)
  (hl:∀i ys σ H,i<=n->Pv i ys σ H->ys.length<=i)
  (hs:∀i ys σ H,i<n->Pv i ys σ H->g (.int (lo+i)) σ H fun ai H2=>tc ai H2 fun b H3=>if b=true then te ai H3 fun v H4=>Pv (i+1) (ys++[v]) ai H4 else Pv (i+1) ys ai H3)
  (hd:∀ys σ H,Pv n ys σ H->∀D,H D=none->Q (.ref D) (upd H D (.lst ys))):Ku (Itr lo n) cp g tc te σ H Q:=Nw Pv h0 hz hl hs hd
def EC    (f:V->V)(e:cp.st σ=none::af)(hl:SqT K H a xs)(hz:xs.length<sizeLine)(hs:∀x∈xs,∀R:VK,R (f x) H->te (some x::af) H R)(hd:∀D,H D=none->Q (.ref D) (upd H D (.lst (xs.map f)))):
  Ku (Itt K a) cp (Fn 0) Nv te σ H Q:=by
 refine Q8 (xs:=xs) (fun i ys ai H2=>H2=H/\ys=(xs.take i).map f/\∃o,ai=o::af) ⟨rfl,by simp,none,e⟩ hz (fun i ys ai H2 hi h=>?_) (fun i x ys ai H2 hx h=>?_) (fun ys ai H2 h=>?_)
 ·obtain⟨rfl,rfl,_⟩:=h
  exact⟨hl,by rw[ja_,jx_];lia⟩
 ·obtain⟨rfl,rfl,o,rfl⟩:=h
  refine hs x (jd_ hx) _ ⟨rfl,?_,some x,rfl⟩
  rw[jR_,hx];simp
 ·obtain⟨rfl,rfl,_⟩:=h
  rw[jQ_]
  exact hd
def Fq    (f:V->V)(e:cp.st σ=none::af)(hl:SqL K H a xs)(hz:xs.length<sizeLine)(hs:∀x∈xs,∀R:VK,R (f x) H->te (some x::af) H R)(hd:∀D,H D=none->Q (.ref D) (upd H D (.lst (xs.map f)))):
  Ku (Itl K a) cp (Fn 0) Nv te σ H Q:=by
 refine Iq (xs:=xs) (fun i ys ai H2=>H2=H/\ys=(xs.take i).map f/\∃o,ai=o::af) ⟨rfl,by simp,none,e⟩ hz (fun i ys ai H2 hi h=>?_) (fun i x ys ai H2 hx h=>?_) (fun ys ai H2 h=>?_)
 ·obtain⟨rfl,rfl,_⟩:=h
  exact⟨hl,by rw[ja_,jx_];lia⟩
 ·obtain⟨rfl,rfl,o,rfl⟩:=h
  refine hs x (jd_ hx) _ ⟨rfl,?_,some x,rfl⟩
  rw[jR_,hx];simp
 ·obtain⟨rfl,rfl,_⟩:=h
  rw[jQ_]
  exact hd
end
def tCut (t u:TS):TS:=fun D σ H=>∃R:St->Hp->Prop,t {D with nx:=R} σ H/\∀af H',R af H'->u D af H'
def Bu  {st:Stmt}{rest:List Stmt}  (h1:PS X st t)(h2:PSs X rest u):PSs X (st::rest) (tCut t u):=by
 intro ae s σ H D I h
 obtain⟨R,ha,hb⟩:=h
 refine wpAny_execs_cons (thn (h1 ae s σ H {D with nx:=R} I ha) fun f s1 q=>?_)
 cases f with
 |next=>
  obtain⟨af,H',I',q⟩:=q
  exact h2 ae s1 af H' D I' (hb af H' q)
 |ret v=>exact q
 |brk=>exact q
 |cont=>exact q
def Ar:1000000<sizeLine:=by rw[zW_];decide
def CO {ns:α2}{x:V}(h:x∈ns.map V.int):∃n,n∈ns/\x=.int n:=by
 obtain⟨n,hn,e⟩:=jv_.mp h
 exact⟨n,hn,e.symm⟩
def Cf {ns:α2}{i:Nat}{x:V}(h:(ns.map V.int)[i]?=some x):∃n,ns[i]?=some n/\x=.int n:=by
 rw[jf_]at h
 cases e:ns[i]? with
 |none=>rw[e]at h;cases h
 |some n=>rw[e]at h;exact⟨n,rfl,(js_ h).symm⟩
def cutI (ns:α2)(lo hi:Option Int):α2:=(ns.drop (HT.sIx ns.length 0 lo)).take (HT.sIx ns.length ns.length hi-HT.sIx ns.length 0 lo)
def Q9 (ns:α2)(lo hi:Option Int):cutV (ns.map V.int) lo hi=(cutI ns lo hi).map V.int:=by
 unfold cutV cutI
 rw[ja_,<-List.map_drop,<-uh]
def MC (ns:α2)(j:Nat)(x:Int):(ns.map V.int).set j (.int x)=(ns.set j x).map V.int:=by rw[uz]
def Vo {n:Nat}{i:Int}(h0:0<=i)(h1:i<n):ixN n i=some i.toNat:=by
 unfold ixN;rw[if_pos h0,if_pos h1]
def B7     (h0:0<=i)(h:xs[i.toNat]?=some v):atI xs i=some v:=by
 have:=DY h
 rwa [show ((i.toNat:Nat):Int)=i by lia]at this
def Ra {K:α3}  : kitOne K t t=some true:=by unfold kitOne;rw[if_pos (by simp)]
def Vp  : ∀u,RelV (V.ty n) u->u=.type n:=fun _ h=>h
end L2
namespace L2
open PySem PySem.W PySem.Spec PySem.Calls PyProof.Rows
section
variable {prog:Program} {w:World} {A:Around} {E:Value->Shared->Prop} {s:Shared} {K:Frag} {x D:Addr} {ox:Obj}
structure ExcCls (K:Frag)(D:Addr):Prop where
 ga:findIn K (.ref D) "__getattribute__"=some (some (.builtin "BaseException.__getattribute__"))
 hk:findIn K (.ref D) "__getattr__"=some none
 cl:(clsIn K D).isSome=true
 ca:findIn K (.ref D) "__class__"=some (some (.builtin "object.__class__"))
 gs:specialIn K (.builtin "object.__class__") "__get__"=some (some (.builtin "getset_descriptor.__get__"))
 tk:takesIn K (.builtin "object.__class__")=some true
 mo:mroIn K D (.type "object")=some true
 mb:mroIn K D (.type "BaseException")=some true
def ExcAt (x D:Addr)(h:Heap):Prop:=∃ox,h.get? x=some ox/\ox.cls=.ref D
def ExcAt.type   (I:ExcAt x D h):Looks M h (typeOf (.ref x)) (.ref D):=by
 obtain⟨ox,h1,h2⟩:=I
 exact h2 ▸ (Looks.ld h1).andThen .now
def Rb   (X:K.In h)(C:ExcCls K D):Looks M h (Builtin.ObjectAttr.find (.ref x) (.ref D) "__class__") (.bind (.builtin "getset_descriptor.__get__") (.builtin "object.__class__")):=
 (looks_findIn X C.ca).andThen ((show Looks M h (Builtin.ObjectAttr.getOf (some (.builtin "object.__class__"))) _ from looks_specialIn X C.gs).andThen
  ((show Looks M h (Builtin.ObjectAttr.dataDescriptor? (some (.builtin "object.__class__")) (some (.builtin "getset_descriptor.__get__"))) (some (.builtin "getset_descriptor.__get__",.builtin "object.__class__")) from (looks_takesIn X C.tk).andThen .now).andThen (Looks.tag .now)))
open Builtin Builtin.ObjectAttr Builtin.Getset_descriptor in
def TV {R:Result->Shared->Prop}{tp:Value}(X:K.In s.heap)(I:ExcAt x D s.heap)(hm:mroIn K D (.type "object")=some true)
  (h:R (.ok (.ret (.ref D))) s):codeAny (model prog w) A (.call (.builtin "getset_descriptor.__get__") ⟨[.builtin "object.__class__",.ref x,tp],[]⟩) R s:=by
 obtain⟨hh,g,dr,t,os⟩:=s
 have L0:=I.type (M:=model prog w)
 have L1:=looks_mroIn (M:=model prog w) X hm
 refine codeAny_call_builtin KF.slot_gs.plain KF.entry_gs (KF.slot_gs.check _ _ _ _ _ _ _ _ KF.type_class (KF.args_gs _ _ _) ?_)
 unfold Builtin.«getset_descriptor.__get__» descrGet
 rw[dga_obj]
 refine jc_ (jn_ ?_)
 unfold descrGetter descrCheckInstance descrNameAndClass isInstance
 simp only[KF.owner_class]
 repeat lk
 refine⟨Code.quiet_builtin _ (by decide +kernel),codeAny_builtin KF.entry_class ?_⟩
 unfold Builtin.«object.__class__» shownTypeOf
 repeat lk
 exact h
def O1    (X:K.In s.heap)(I:ExcAt x D s.heap)(C:ExcCls K D)(hq:Q () s):wpAny M A (checkBuiltinCall "BaseException.__getattribute__" ⟨[.ref x,nameV],[]⟩) Q E s:=by
 obtain⟨hh,g,d,t,os⟩:=s
 have hk:builtinKind "BaseException.__getattribute__"=some .slot:=by decide +kernel
 have hsplit:splitId "BaseException.__getattribute__"=some ("BaseException","__getattribute__"):=by decide +kernel
 have ha:=F.args_bexc_ga (.ref x) nameV
 have L0:=I.type (M:=M)
 have L1:=looks_mroIn (M:=M) X C.mb
 simp only[checkBuiltinCall,hk,hsplit]
 refine jc_ ?_
 unfold isInstance
 repeat (first|lk|wp_step)
 exact hq
def O2   (X:K.In s.heap)(I:ExcAt x D s.heap)(C:ExcCls K D)(hq:Q (.done (.ret (.ref D))) s):wpAny (model prog w) A (Builtin.«object.__getattribute__» ⟨[.ref x,.str "__class__" tk],[]⟩) Q E s:=by
 obtain⟨hh,g,d,t,os⟩:=s
 have L0:=I.type (M:=model prog w)
 have L1:=Rb (M:=model prog w) (x:=x) X C
 unfold Builtin.«object.__getattribute__»
 refine jc_ (jn_ ?_)
 refine jc_ (jn_ ?_)
 refine jc_ (L0.at ?_)
 refine jc_ (L1.at ?_)
 show wpAny _ _ (Builtin.ObjectAttr.bindTo _ _ _ _) _ _ _
 unfold Builtin.ObjectAttr.bindTo
 dsimp only
 refine jc_ (qK_ (wpAny_call (TV (K:=K) (s:=⟨hh,g,d,t,os⟩) X I C.mo ?_)))
 exact jn_ hq
def O3  (X:K.In s.heap)(I:ExcAt x D s.heap)(C:ExcCls K D)(h:Q (some (.ref D)) {s with toks:=s.toks+1}):wpAny (model prog w) A (getAttr? (.ref x) "__class__") Q E s:=by
 obtain⟨hh,g,d,t,os⟩:=s
 have L0:=I.type (M:=model prog w)
 have L1:=looks_findIn (M:=model prog w) X C.ga
 have L2:=looks_findIn (M:=model prog w) X C.hk
 unfold getAttr? getAttrBy? getAttrBy
 refine jc_ (wpAny_mkText (jc_ (xl_ (qK_ (jc_ (L0.at (jc_ (L1.at ?_))))))))
 show wpAny _ _ (getAttrByItsOwn _ _ _ _ _ _) _ _ _
 unfold getAttrByItsOwn hookBefore
 refine jc_ ?_
 rw[if_pos (by rfl)]
 refine L2.at (jc_ (xl_ (qK_ ?_)))
 unfold callGetattribute
 rw[if_neg (by decide)]
 unfold boundAndCalled
 have f3:=PySem.F.attr_ValueError.ga.bind (.ref x)
 refine jc_ (wpAny_of_eq f3 ?_)
 refine wpAny_call (codeAny_call_builtin PySem.F.attr_ValueError.ga.plain F.entry_bexc_ga (O1 (K:=K) (s:=⟨hh,g,d,t+1,os⟩) X I C (O2 (K:=K) (s:=⟨hh,g,d,t+1,os⟩) X I C ?_)))
 exact jn_ (jn_ h)
def Rc (C:ExcCls K D):KitX K (.ref x) (.ref D) (ExcAt x D) where
 ty:=fun _ _ _ I=>I.type
 it:=fun _ _ X _=>by
  obtain⟨cdD,j4⟩:=xH_.mp C.cl
  unfold clsIn at j4
  split at j4
  ·rename_i c' d' cd' pH ho
   intro A' Q' E' s' k q
   unfold isType loadHead
   exact jc_ (wpAny_loadPart (k _ _ (X _ _ ho)) (jn_ q))
  ·cases j4
 ne:=fun h tp dd its n sl X htp=>by
  obtain⟨cdD,j4⟩:=xH_.mp C.cl
  refine Bool.eq_false_iff.mpr fun q=>?_
  have e:D=tp:=Value.ref.inj (wf_.mp q)
  subst e
  unfold clsIn at j4
  split at j4
  ·rename_i c' d' cd' pH ho
   have z:=(X _ _ ho).symm.trans htp
   cases z
  ·cases j4
 ca:=fun X I k=>O3 X I C k
end
end L2
namespace L2
open PySem PySem.Spec PyProof.Rows
def excO (ea C:Addr):HO:=.ext (ExcAt ea C)
def Kv  : Cm X (.builtin "isinstance") (fun xs H Q=>∃ea C c cv b,xs=[.ref ea,c]/\H ea=some (excO ea C)/\ExcCls X.K C/\(∀u,RelV c u->u=cv)/\kitOne X.K (.ref C) cv=some b/\Q (.bl b) H):=by
 intro ae s σ H xs us Q I r h
 obtain⟨ea,C,c,cv,b,rfl,hea,hC,hc,hk,q⟩:=h
 obtain⟨u,w',rfl,rx,rc⟩:=vals2 r
 rw[hc _ rc]
 cases rx
 obtain⟨p,_,_⟩:=(show Bk X.prog X.w H s.heap ea (.ext (ExcAt ea C)) from I.hok ea _ hea)
 exact qz_ (Rc hC) I.kIn p hk (fun z=>nomatch z) fun tk=>⟨.bl b,H,I.tok tk,rfl,q⟩
end L2
namespace HT
open PySem PySem.Spec PyProof.Rows
open PySem.AutoSeq1 (wpAny_loadPart')
section
open PySem.SeqAt PySem.MeetsSeq PySem.MeetsSeq2 PySem.MeetsSeq3
def tuple_addW0 (l b:Addr)(items aR:Array Value)(n n2:Nat)(dd iA:Option Addr)(sl gg:Array (α5))(hc0:items.isEmpty=true):
  Meets (Builtin.«tuple.__add__» ⟨[.ref l,.ref b],[]⟩) (fun _ R s=>s.heap.get? l=some {cls:=.type "tuple",dict:=dd,data:=.seq items n,slots:=sl}/\s.heap.get? b=some {cls:=.type "tuple",dict:=iA,data:=.seq aR n2,slots:=gg}/\R (.ok (.ret (Value.ref b))) {s with heap:=s.heap,toks:=s.toks}):=
 .of_wp fun prog w A R s h=>by obtain⟨hp,g,d,tk,os⟩:=s;obtain⟨hl,hb,h⟩:=h;have f1:=zJ_;have f2:=AutoSeq1.sub_tuple_tuple;have f3:=AutoSeq1.sub_list_list;have f4:=AutoSeq1.sub_tuple_list;have f5:=AutoSeq1.sub_list_tuple;wp_walk using j4_ hl,j4_ hb;exact⟨_,rfl,h⟩
def int_rmul_tup (a:Int)(t:Tok)(l:Addr)(items:Array Value)(n:Nat)(dd:Option Addr)(sl:Array (α5)):
  Meets (Builtin.«int.__rmul__» ⟨[.int a t,.ref l],[]⟩) (fun _ R s=>s.heap.get? l=some {cls:=.type "tuple",dict:=dd,data:=.seq items n,slots:=sl}/\R (.ok (.ret Value.notImplemented)) s):=
 .of_wp fun prog w A R s h=>by obtain⟨hp,g,d,tk,os⟩:=s;obtain⟨hl,h⟩:=h;wp_walk using j4_ hl;exact⟨_,rfl,h⟩
def noFill_tuple_mul:fillsNumberSlot (.type "tuple") "mul"=pure false:=by
 first|exact fillsNumberSlot_false (by decide +kernel)|(unfold fillsNumberSlot;kernel_rfl)|kernel_rfl
def repeat_tuple:seqRepeat? (.type "tuple")=pure (some (.builtin "tuple.__mul__")):=by
 unfold seqRepeat?
 rw[uK (T := "tuple") (name := "__mul__") (id := "tuple.__mul__") zK_.lookup (by decide +kernel),uK (T := "tuple") (name := "__rmul__") (id := "tuple.__rmul__") F.slot_tuple_rmul.lookup (by decide +kernel)]
 rfl
def tup_mul_one (l:Addr)(items:Array Value)(n:Nat)(dd:Option Addr)(sl:Array (α5))(u:Tok):
  Meets (Builtin.«tuple.__mul__» ⟨[.ref l,.int 1 u],[]⟩) (fun _ R s=>s.heap.get? l=some {cls:=.type "tuple",dict:=dd,data:=.seq items n,slots:=sl}/\R (.ok (.ret (Value.ref l))) s):=
 .of_wp fun prog w A R s h=>by
  obtain⟨hp,g,d,tk,os⟩:=s;obtain⟨hl,h⟩:=h
  have f1:=zJ_
  unfold Builtin.«tuple.__mul__»
  wp_walk using j4_ hl
  exact⟨_,rfl,h⟩
def tup_mul_none (l:Addr)(items:Array Value)(n:Nat)(dd:Option Addr)(sl:Array (α5))(x:Int)(u:Tok)(h0:¬ items.isEmpty=true)(h1:x<=0)(h2 : -(2 ^ 63)<=x):
  Meets (Builtin.«tuple.__mul__» ⟨[.ref l,.int x u],[]⟩) (fun _ R s=>s.heap.get? l=some {cls:=.type "tuple",dict:=dd,data:=.seq items n,slots:=sl}/\R (.ok (.ret (Value.ref s.heap.objs.size))) {s with heap:=s.heap.push {cls:=.type "tuple",data:=.seq #[]} }):=
 .of_wp fun prog w A R s h=>by
  obtain⟨hp,g,d,tk,os⟩:=s;obtain⟨hl,h⟩:=h
  have f1:=zJ_
  have c1:(decide (x < -(2 ^ 63:Int))||decide (x >= 2 ^ 63))=false:=by simp;lia
  have c2:(items.isEmpty||x==1)=false:=by simp at h0 ⊢;exact⟨h0,by lia⟩
  have c3:(decide (x<=0)||items.isEmpty)=true:=by simp[h1]
  unfold Builtin.«tuple.__mul__»
  wp_walk using j4_ hl
  rw[if_neg (by rw[c1];exact ju_)]
  wp_walk using j4_ hl
  rw[if_neg (by rw[c2];exact ju_)]
  rw[if_pos c3]
  wp_walk using j4_ hl
  exact⟨_,rfl,h⟩
def tup_mul_many (l:Addr)(items:Array Value)(n:Nat)(dd:Option Addr)(sl:Array (α5))(x:Int)(u:Tok)(h0:¬ items.isEmpty=true)(h1:1<x)(h2:x<2 ^ 63)(h3:items.size*x.toNat<=sizeLine):
  Meets (Builtin.«tuple.__mul__» ⟨[.ref l,.int x u],[]⟩) (fun _ R s=>s.heap.get? l=some {cls:=.type "tuple",dict:=dd,data:=.seq items n,slots:=sl}/\R (.ok (.ret (Value.ref s.heap.objs.size))) {s with heap:=s.heap.push {cls:=.type "tuple",data:=.seq ((rX x.toNat items).foldl (· ++ ·) #[])} }):=
 .of_wp fun prog w A R s h=>by
  obtain⟨hp,g,d,tk,os⟩:=s;obtain⟨hl,h⟩:=h
  have f1:=zJ_
  have hs:sizeLine=16777216:=zW_
  have c1:(decide (x < -(2 ^ 63:Int))||decide (x >= 2 ^ 63))=false:=by simp;lia
  have c2:(items.isEmpty||x==1)=false:=by simp at h0 ⊢;exact⟨h0,by lia⟩
  have c3:(decide (x<=0)||items.isEmpty)=false:=by simp at h0 ⊢;exact⟨by lia,h0⟩
  obtain⟨k,rfl⟩:∃k:Nat,x=(k:Int):=⟨x.toNat,by lia⟩
  have c4:¬ ((items.size:Int)*(k:Int) > (2 ^ 63-1) / 8):=by
   rw[jj_]at h3
   have:((items.size*k:Nat):Int)=(items.size:Int)*(k:Int):=by push_cast;rfl
   lia
  have c5:Builtin.Tuple.tupleTooMany ((items.size:Int)*(k:Int))=false:=by
   unfold Builtin.Tuple.tupleTooMany
   rw[jj_]at h3
   have:((items.size*k:Nat):Int)=(items.size:Int)*(k:Int):=by push_cast;rfl
   simp
   lia
  unfold Builtin.«tuple.__mul__»
  wp_walk using j4_ hl
  rw[if_neg (by rw[c1];exact ju_)]
  wp_walk using j4_ hl
  rw[if_neg (by rw[c2];exact ju_)]
  rw[if_neg (by rw[c3];exact ju_),if_neg c4,if_neg (by rw[c5];exact ju_)]
  wp_walk using j4_ hl
  have hz:¬ (tI (fun x1 x2=>x1++x2) #[] (rX ((k:Int)).toNat items)).size > sizeLine:=by
   have:=L2.foldl_rep items.toList k []
   rw[xY_]at this
   have e:items.toList.toArray=items:=by simp
   rw[e]at this
   rw[jj_,this,jq_,L2.len_rep]
   rw[jj_]at h3
   rw[j3_,uw]
   lia
  rw[if_neg hz]
  wp_walk using j4_ hl
  exact⟨_,rfl,h⟩
end
end HT
namespace L2
open PySem PySem.Spec PyProof.Rows
section
variable {X:Cx}
def O4 (K:α3):R2:=fun x y H Q=>∃l k xs,x=.ref l/\y=.int k/\SqT K H l xs/\xs ≠ [] /\ -(2 ^ 63)<=k/\k<2 ^ 63/\xs.length*k.toNat<=sizeLine /\
 (k=1->Q (.ref l) H)/\(k≠1->∀p,H p=none->Q (.ref p) (upd H p (.tup (rX k.toNat xs).flatten)))
def O5:OpR X (binaryOp .Mult) (O4 X.K):=by
 intro ae s σ H x y v u Q I rx ry h
 obtain⟨l,k,xs,rfl,rfl,hq,ay,h1,h2,hz,q1,q2⟩:=h
 cases rx
 obtain⟨t,rfl⟩:=ry
 obtain⟨its,r,p1,_⟩:=I.tuple hq
 have aj:=r.length
 have gr:¬ its.toArray.isEmpty=true:=by
  intro z
  have:its=[]:=by simpa using z
  exact ay (r.nil_iff.mp this)
 obtain⟨⟨cls,dd,data,sl⟩,ho,hc,n,hd⟩:=id p1
 simp only at hc hd
 subst hc hd
 refine wpAny_binaryOp_repeat_ref (T := "tuple") (U := "int") (by decide) ⟨_,ho,rfl⟩ (fun s'=>typeIs_int s' k t) HT.noFill_tuple_mul F.fills_int_mul zX_ HT.repeat_tuple F.slot_int_index.lookup
  (xL_ zX_ (typeIs_int s k t) F.entry_int_rmul (F.args_int_rmul_2 _ _) (HT.int_rmul_tup k t l its.toArray n dd sl) ⟨ho,rfl,⟨_,ho,rfl⟩,?_⟩)
 by_cases k1:k=1
 ·subst k1
  exact xL_ zK_ ⟨_,ho,rfl⟩ F.entry_tuple_mul (F.args_tuple_mul_2 _ _) (HT.tup_mul_one l its.toArray n dd sl t) ⟨ho,⟨.ref l,H,I,rfl,q1 rfl⟩⟩
 ·have fin:∀(ys:List Value),Vals (rX k.toNat xs).flatten ys->EP X ae σ Q (.ref s.heap.objs.size) {s with heap:=s.heap.push {cls:=.type "tuple",data:=.seq ys.toArray} }:=fun ys rv=>
   ⟨.ref s.heap.objs.size,_,I.laid (t':=s.toks) (o:=.tup (rX k.toNat xs).flatten) (fun b ob q=>jg_ _ q) (ji_ _) ⟨by rw[len_rep,uw];exact hz,_,rv,IsTup.new _ _⟩,rfl,q2 k1 _ (I.hok.fresh (ji_ _))⟩
  by_cases k0:k<=0
  ·refine xL_ zK_ ⟨_,ho,rfl⟩ F.entry_tuple_mul (F.args_tuple_mul_2 _ _) (HT.tup_mul_none l its.toArray n dd sl k t gr k0 h1) ⟨ho,?_⟩
   exact fin [] (by rw[show k.toNat=0 by lia];exact .nil)
  ·refine xL_ zK_ ⟨_,ho,rfl⟩ F.entry_tuple_mul (F.args_tuple_mul_2 _ _) (HT.tup_mul_many l its.toArray n dd sl k t gr s!"" h2 (by rw[jq_,<-aj];exact hz)) ⟨ho,?_⟩
   have e:=foldl_rep its k.toNat []
   rw[xY_]at e
   have e':tI (fun x1 x2=>x1++x2) #[] (rX k.toNat its.toArray)=(rX k.toNat its).flatten.toArray:=e
   rw[e']
   exact fin _ (r.rep k.toNat)
def EV (K:α3):R2:=fun x y H Q=>∃a b xs ys,x=.ref a/\y=.ref b/\SqT K H a xs/\SqT K H b ys/\xs.length+ys.length<=sizeLine /\
 (xs=[]->Q (.ref b) H)/\(xs ≠ []->ys=[]->Q (.ref a) H)/\(xs ≠ []->ys ≠ []->∀p,H p=none->Q (.ref p) (upd H p (.tup (xs++ys))))
def ED:OpR X (binaryOp .Add) (EV X.K):=by
 intro ae s σ H x y v u Q I rx ry h
 obtain⟨a,b,xs,ys,rfl,rfl,ha,hb,hz,q0,q1,q2⟩:=h
 by_cases hx:xs=[]
 ·subst hx
  cases rx
  cases ry
  obtain⟨its,r1,p1,_⟩:=I.tuple ha
  obtain⟨aN,r2,p2,_⟩:=I.tuple hb
  have:its=[]:=r1.nil_iff.mpr rfl
  subst this
  obtain⟨⟨cls,dd,data,sl⟩,ho,hc,n,hd⟩:=id p1
  obtain⟨⟨cls2,iA,data2,gg⟩,iB,cL,n2,gw⟩:=id p2
  simp only at hc hd cL gw
  subst hc hd cL gw
  exact concat_meets ⟨_,ho,rfl⟩ ⟨_,iB,rfl⟩ noFill_tuple_add seq_tuple_add zy_ zp_ (zk_ _ _)
   (HT.tuple_addW0 a b _ _ n n2 dd iA sl gg rfl) ⟨ho,iB,⟨.ref b,H,I,rfl,q0 rfl⟩⟩
 ·exact TD ae s σ H _ _ v u Q I rx ry ⟨a,b,xs,ys,rfl,rfl,ha,hb,hx,hz,q1 hx,q2 hx⟩
end
def Hn      (Pv:Nat->St->Hp->Prop)(h0:∃m,Pv m σ H)
  (hs:∀m σ H,Pv m σ H->c σ H fun b H1=>if b=true then ∃N:St->Hp->Prop,(∀af H',N af H'->∃m',m'<m/\Pv m' af H')/\tb {D with nx:=N,ct:=N,bk:=D.nx} σ H1 else D.nx σ H1):Si c tb D σ H:=⟨Pv,h0,hs⟩
theorem Vq {K:α3}    {lo hi:Option Int}:rSlT K x lo hi H Q=∃a xs,x=.ref a/\SqT K H a xs /\
 ¬ (HT.sIx xs.length 0 lo=0/\HT.sIx xs.length xs.length hi=xs.length)/\∀p,H p=none->Q (.ref p) (upd H p (.tup (cutV xs lo hi))):=rfl
def Ho {α:Type}(x:α)(k:Nat):(rX k [x]).flatten=rX k x:=by
 induction k with
 |zero=>rfl
 |succ k ih=>rw[qo_,xK_,ih,qo_];rfl
inductive TyW (K:α3)(H:Hp):V->Value->Prop where
 | non:TyW K H .non (.type "NoneType")
 | bl (x:Bool):TyW K H (.bl x) (.type "bool")
 | int (i:Int):TyW K H (.int i) (.type "int")
 | str (x:Str):TyW K H (.str x) (.type "str")
 | lst {a:Addr} {xs:List V} (e:SqL K H a xs):TyW K H (.ref a) (.type "list")
 | tup {a:Addr} {xs:List V} (e:SqT K H a xs):TyW K H (.ref a) (.type "tuple")
 | exc {a C:Addr} (e:H a=some (excO a C)) (c:ExcCls K C):TyW K H (.ref a) (.ref C)
def Kw  : Cm X (.builtin "isinstance") (fun xs H Q=>∃x c cv t b,xs=[x,c]/\TyW X.K H x t/\(∀u,RelV c u->u=cv)/\kitOne X.K t cv=some b/\Q (.bl b) H):=by
 intro ae s σ H xs us Q I r h
 obtain⟨x,c,cv,t,b,rfl,ty,hc,hk,q⟩:=h
 cases ty with
 |non=>exact Dh ae s σ H _ us Q I r ⟨_,c,cv,_,b,rfl,.non,hc,hk,q⟩
 |bl y=>exact Dh ae s σ H _ us Q I r ⟨_,c,cv,_,b,rfl,.bl y,hc,hk,q⟩
 |int y=>exact Dh ae s σ H _ us Q I r ⟨_,c,cv,_,b,rfl,.int y,hc,hk,q⟩
 |str y=>exact Dh ae s σ H _ us Q I r ⟨_,c,cv,_,b,rfl,.str y,hc,hk,q⟩
 |exc e hC=>exact Kv ae s σ H _ us Q I r ⟨_,_,c,cv,b,rfl,e,hC,hc,hk,q⟩
 |@lst a xs e=>
  obtain⟨u,w',rfl,rx,rc⟩:=vals2 r
  rw[hc _ rc]
  cases rx
  obtain⟨its,_,pl,_⟩:=I.list e
  obtain⟨o,ho,bZ,_⟩:=pl.isList
  exact qz_ wd_ I.kIn ⟨o,ho,bZ⟩ hk (fun z=>nomatch z) fun tk=>⟨.bl b,H,I.tok tk,rfl,q⟩
 |@tup a xs e=>
  obtain⟨u,w',rfl,rx,rc⟩:=vals2 r
  rw[hc _ rc]
  cases rx
  obtain⟨its,_,⟨o,ho,bZ,_⟩,_⟩:=I.tuple e
  exact qz_ uj I.kIn ⟨o,ho,bZ⟩ hk (fun z=>nomatch z) fun tk=>⟨.bl b,H,I.tok tk,rfl,q⟩
end L2
namespace GW
def D6 (L:Int):α2->α2
 |[]=>[0]
 |x::r=>if x=L-1 then 0::D6 L r else (x+1)::r
def D7 (L:Int)(w:α2):α2:=(D6 L w.reverse).reverse
def AQ (L:Int):α2->Int
 |[]=>0
 |x::r=>AQ L r*L+x+1
def place (L:Int)(w:α2):Int:=AQ L w.reverse
def inW (L x:Int):Bool:=decide (0<=x)&&decide (x<L)
def isW (L:Int)(ws:α2):Bool:=ws.all (inW L)
def TW  : inW L x=true↔0<=x/\x<L:=by simp[inW]
def Aw   : isW L ws=true ↔ ∀x∈ws,0<=x/\x<L:=by simp[isW,TW]
def Kx (L:Int)(m:Nat)(r:α2):D6 L (rX m (L-1)++r)=rX m 0++D6 L r:=by
 induction m with
 |zero=>rfl
 |succ m ih=>rw[qo_,zh_,D6,if_pos rfl,ih,qo_,zh_]
def O6 (L:Int)(a:α2)(x:Int)(m:Nat)(h:x≠L-1):D7 L (a++[x]++rX m (L-1))=a++[x+1]++rX m 0:=by
 unfold D7
 rw[q8_,zA_,q8_,List.reverse_singleton,Kx]
 show (rX m 0++D6 L (x::a.reverse)).reverse=_
 rw[D6,if_neg h]
 simp
def O7 (L:Int)(m:Nat):D7 L (rX m (L-1))=rX (m+1) 0:=by
 unfold D7
 have:=Kx L m []
 rw[ql_]at this
 rw[zA_,this]
 show (rX m (0:Int)++[0]).reverse=_
 rw[q8_,zA_]
 rfl
def Lz (L:Int)(l:α2):AQ L (D6 L l)=AQ L l+1:=by
 induction l with
 |nil=>simp[D6,AQ]
 |cons x r ih=>
  rw[D6]
  by_cases h:x=L-1
  ·rw[if_pos h,AQ,ih,AQ,h,zY_];lia
  ·rw[if_neg h,AQ,AQ];lia
def Nx (L:Int)(w:α2):place L (D7 L w)=place L w+1:=by
 unfold place D7
 rw[q4_,Lz]
def LA  (hL:0<L)  (h:∀x∈l,0<=x/\x<L):∀x∈D6 L l,0<=x/\x<L:=by
 induction l with
 |nil=>intro x hx;simp[D6]at hx;subst hx;exact⟨x0_ _,hL⟩
 |cons y r ih=>
  have hy:=h y jo_
  have hr:∀x∈r,0<=x/\x<L:=fun x hx=>h x (jm_ _ hx)
  intro x hx
  rw[D6]at hx
  by_cases e:y=L-1
  ·rw[if_pos e]at hx
   rcases jD_.mp hx with rfl|hx
   ·exact⟨x0_ _,hL⟩
   ·exact ih hr x hx
  ·rw[if_neg e]at hx
   rcases jD_.mp hx with rfl|hx
   ·lia
   ·exact hr x hx
def LB  (hL:0<L)  (h:isW L w=true):isW L (D7 L w)=true:=by
 rw[Aw]at h ⊢
 intro x hx
 unfold D7 at hx
 rw[q6_]at hx
 exact LA hL (fun y hy=>h y (q6_.mp hy)) x hx
def Ky (L:Int)(l:α2):l.length<=(D6 L l).length/\(D6 L l).length<=l.length+1:=by
 induction l with
 |nil=>simp[D6]
 |cons x r ih=>
  rw[D6]
  by_cases h:x=L-1
  ·rw[if_pos h];simp;lia
  ·rw[if_neg h];simp
def Kz (L:Int)(w:α2):w.length<=(D7 L w).length/\(D7 L w).length<=w.length+1:=by
 have:=Ky L w.reverse
 unfold D7
 rw[xR_]at this
 rw[xR_]
 exact this
def many (L:Int):Nat->Int
 |0=>0
 |k+1=>many L k*L+1
def Ca {L:Int}(hL:0<L):∀k,0<=many L k
 |0=>x0_ _
 |k+1=>by
  have:=zb_ (Ca hL k) (xx_ hL)
  show 0<=many L k*L+1
  lia
def Cz {L:Int}(hL:0<L):∀{l:α2},(∀x∈l,0<=x/\x<L)->many L l.length<=AQ L l/\AQ L l<many L (l.length+1)
 |[],_=>by simp[AQ,many]
 |x::r,h=>by
  have hx:=h x jo_
  obtain⟨h1,h2⟩:=Cz hL (l:=r) fun y hy=>h y (jm_ _ hy)
  show many L r.length*L+1<=AQ L r*L+x+1/\AQ L r*L+x+1<many L (r.length+1)*L+1
  have a1:=j1_ h1 (xx_ hL)
  have a2:=j1_ (show AQ L r+1<=many L (r.length+1) by lia) (xx_ hL)
  rw[zY_]at a2
  lia
def Gr  (hL:0<L)  (h:isW L w=true):many L w.length<=place L w/\place L w<many L (w.length+1):=by
 have:=Cz hL (l:=w.reverse) (fun x hx=>Aw.mp h x (q6_.mp hx))
 rw[xR_]at this
 exact this
def KA  (hL:0<L)  (h:j<=k):many L j<=many L k:=by
 induction h with
 |refl=>exact x0_ _
 |step _ ih=>
  rename_i m _
  refine v7 ih ?_
  show many L m<=many L m*L+1
  have:many L m*1<=many L m*L:=Int.mul_le_mul_of_nonneg_left s!"" (Ca hL m)
  lia
def EE  (hL:0<L)  (h:isW L w=true)(k:Nat):w.length<=k↔place L w<many L (k+1):=by
 obtain⟨h1,h2⟩:=Gr hL h
 constructor
 ·intro hk
  exact z8_ h2 (KA hL s!"")
 ·intro hp
  refine uJ fun hk=>?_
  have:=KA hL (show k+1<=w.length from hk)
  lia
def nth (L:Int):Nat->α2
 |0=>[]
 |n+1=>D7 L (nth L n)
def C2 {L:Int}(hL:0<L):∀n,isW L (nth L n)=true
 |0=>rfl
 |n+1=>LB hL (C2 hL n)
def D8 (L:Int):∀n:Nat,place L (nth L n)=n
 |0=>rfl
 |n+1=>by show place L (D7 L (nth L n))=_;rw[Nx,D8 L n];push_cast;rfl
def Ny  (hL:0<L)(n:Nat):(nth L n).length<=n:=by
 induction n with
 |zero=>simp[nth]
 |succ n ih=>have:=(Kz L (nth L n)).2;show (D7 L (nth L n)).length<=n+1;lia
def CD (L:Int)(w:α2)(x:Int):place L (w++[x])=place L w*L+x+1:=by
 unfold place
 rw[q8_];rfl
def MD {L:Int}{w:α2}{k:Nat}(hk:k<=w.length)(h:∀j,k<=j->j<w.length->w[j]?=some (L-1)):w=w.take k++rX (w.length-k) (L-1):=by
 apply qS_
 intro j
 by_cases hj:j<k
 ·rw[je_ (by rw[jx_];lia),xI_ hj]
 ·by_cases hl:j<w.length
  ·rw[h j s!"" hl,jp_ (by rw[jx_];lia),zo_,if_pos (by rw[jx_];lia)]
  ·rw[jV_ s!"",jV_ (by rw[jl_,jx_,qD_];lia)]
def KB     (hk:k<w.length)(h:∀j,k+1<=j->j<w.length->w[j]?=some (L-1))(hx:w[k]?=some x)(ay:x≠L-1):
  D7 L w=w.take k++[x+1]++rX (w.length-(k+1)) 0:=by
 have e:=MD (show k+1<=w.length from hk) h
 have e2:w.take (k+1)=w.take k++[x]:=by rw[jR_,hx];rfl
 rw[e2]at e
 have:=O6 L (w.take k) x (w.length-(k+1)) ay
 rw[<-e]at this
 exact this
def LC   (h:∀j,0<=j->j<w.length->w[j]?=some (L-1)):D7 L w=rX (w.length+1) 0:=by
 have e:=MD (jY_ _) h
 simp at e
 have:=O7 L w.length
 rw[<-e]at this
 exact this
end GW
namespace L2
open PySem PySem.Spec PyProof.Rows
section
variable {te ta tb:TE} {A:TA} {D:Ends} {σ:St} {H:Hp} {Q:VK} {K:α3} {tbd ts:TS}
theorem ME   : OH x vs H Q=∃l b xs zs,x=.ref l/\vs=[.ref b]/\H l=some (.lst xs)/\H b=some (.lst zs)/\xs.length+zs.length<=sizeLine/\Q .non (upd H l (.lst (xs++zs))):=rfl
theorem Vr  : rCat x y H Q=∃l b xs zs,x=.ref l/\y=.ref b/\H l=some (.lst xs)/\H b=some (.lst zs)/\xs.length+zs.length<=sizeLine/\∀p,H p=none->Q (.ref p) (upd H p (.lst (xs++zs))):=rfl
theorem Vs  : rRep x y H Q=∃l k xs,x=.ref l/\y=.int k/\H l=some (.lst xs) /\ -(2 ^ 63)<=k/\k<2 ^ 63/\xs.length*k.toNat<=sizeLine/\∀p,H p=none->Q (.ref p) (upd H p (.lst (rX k.toNat xs).flatten)):=rfl
end
end L2
namespace L2
open PySem PySem.Spec PyProof.Rows
def iteB {c A B:Prop}[Decidable c](hB:B)(h:c->B->A):if c then A else B:=by
 by_cases hc:c
 ·rw[if_pos hc];exact h hc hB
 ·rw[if_neg hc];exact hB
def TX (x y:Int):eqV (.int x) (.int y)=decide (V.int x=V.int y):=by
 by_cases h:x=y
 ·subst h;simp[eqV]
 ·rw[qc_ (fun z=>h (by injection z))];simp[eqV,h]
def EqD.ints {K:α3}{H:Hp}{a c:Addr}{xs ys:α2}(hq:(SqL K H a (xs.map V.int)/\SqL K H c (ys.map V.int))\/(SqT K H a (xs.map V.int)/\SqT K H c (ys.map V.int)))(n:Nat):EqD K H (n+1) (.ref a) (.ref c) (decide (xs=ys)):=by
 have:=EqD.flat hq (fun x hx=>by obtain⟨_,_,rfl⟩:=CO hx;rfl) (fun x hx=>by obtain⟨_,_,rfl⟩:=CO hx;rfl) (fun x hx y hy=>by obtain⟨_,_,rfl⟩:=CO hx;obtain⟨_,_,rfl⟩:=CO hy;exact TX _ _) n
 have e:decide (xs.map V.int=ys.map V.int)=decide (xs=ys):=by
  rw[qy_]
  simp only[qs_]
  constructor
  ·intro h
   exact (z9_ (fun a b h=>by injection h)).mp h
  ·intro h;rw[h]
 rw[e]at this
 exact this
end L2
namespace L2
open PySem PySem.Spec PyProof.Rows
def iSeq (K:α3)(tl:TE):TI:=fun σ H R=>tl σ H fun x H1=>∃a,x=.ref a/\(((∃xs,SqL K H1 a xs)/\R (Itl K a) H1)\/((∃xs,SqT K H1 a xs)/\R (Itt K a) H1))
theorem SC {K:α3}     : iSeq K te σ H Z=te σ H fun x H1=>∃a,x=.ref a/\(((∃xs,SqL K H1 a xs)/\Z (Itl K a) H1)\/((∃xs,SqT K H1 a xs)/\Z (Itt K a) H1)):=rfl
def SD    (hl:PE X l tl):PI X tg l (iSeq X.K tl):=by
 intro ae s σ H R I h
 refine thn (hl ae s σ H _ I h) fun v s1 ⟨x,H1,I1,r1,q1⟩=>?_
 obtain⟨a,e,q⟩:=q1
 subst e
 cases r1
 rcases q with ⟨⟨xs,hq⟩,q⟩|⟨⟨xs,hq⟩,q⟩
 ·obtain⟨its,rv,p,hz⟩:=I1.list hq
  refine zC_ p.isList ?_
  refine⟨s1.heap.objs.size,[s1.heap.objs.size],_,_,H1,rfl,I1.kept (t':=s1.toks) fun b o e=>jg_ _ e,Kk a _,⟨_,jz_ _ rfl,rfl,rfl⟩,fun b hb=>?_,q⟩
  have e:b=s1.heap.objs.size:=by simpa using hb
  subst e
  exact I1.fpOk (ji_ _) (I1.hok.fresh (ji_ _))
 ·obtain⟨its,rv,p,hz⟩:=I1.tuple hq
  refine xu_ (show s1.heap.IsTuple a its.toArray from p) ?_
  refine⟨s1.heap.objs.size,[s1.heap.objs.size],_,_,H1,rfl,I1.kept (t':=s1.toks) fun b o e=>jg_ _ e,IF a _,⟨_,jz_ _ rfl,rfl,rfl⟩,fun b hb=>?_,q⟩
  have e:b=s1.heap.objs.size:=by simpa using hb
  subst e
  exact I1.fpOk (ji_ _) (I1.hok.fresh (ji_ _))
end L2
namespace GW
def KC  (hL:0<L)  (hx:isW L xs=true):0<=place L xs:=by
 have:=(Gr hL hx).1
 have:=Ca hL xs.length
 lia
def O8  (hL:0<L):∀{xs ys:α2},isW L xs=true->isW L ys=true->place L xs=place L ys->xs=ys:=by
 have key:∀{l m:α2},(∀x∈l,0<=x/\x<L)->(∀x∈m,0<=x/\x<L)->AQ L l=AQ L m->l=m:=by
  intro l
  induction l with
  |nil=>
   intro m _ hm h
   cases m with
   |nil=>rfl
   |cons y s=>
    have hy:=hm y jo_
    have:=(Cz hL (l:=s) fun z hz=>hm z (jm_ _ hz)).1
    have h0:=Ca hL s.length
    have hp:=zb_ (show 0<=AQ L s by lia) (xx_ hL)
    have h':(0:Int)=AQ L s*L+y+1:=h
    lia
  |cons x r ih=>
   intro m hl hm h
   have hx:=hl x jo_
   cases m with
   |nil=>
    have:=(Cz hL (l:=r) fun z hz=>hl z (jm_ _ hz)).1
    have h0:=Ca hL r.length
    have hp:=zb_ (show 0<=AQ L r by lia) (xx_ hL)
    have h':AQ L r*L+x+1=(0:Int):=h
    lia
   |cons y s=>
    have hy:=hm y jo_
    have h':AQ L r*L+x+1=AQ L s*L+y+1:=h
    have e1:AQ L r=AQ L s:=by
     rcases Int.lt_trichotomy (AQ L r) (AQ L s) with ar|he|ar
     ·have:=j1_ (show AQ L r+1<=AQ L s by lia) (xx_ hL)
      rw[zY_]at this;lia
     ·exact he
     ·have:=j1_ (show AQ L s+1<=AQ L r by lia) (xx_ hL)
      rw[zY_]at this;lia
    rw[e1]at h'
    rw[ih (fun z hz=>hl z (jm_ _ hz)) (fun z hz=>hm z (jm_ _ hz)) e1,show x=y by lia]
 intro xs ys hx hy h
 have:=key (l:=xs.reverse) (m:=ys.reverse) (fun x h=>Aw.mp hx x (q6_.mp h)) (fun x h=>Aw.mp hy x (q6_.mp h)) h
 exact List.reverse_inj.mp this
end GW
namespace L2
open PySem PySem.Spec PyProof.Rows
def SE  {K:α3}{T id:String}        (hK:X.K=K)(pa:PlainAttrs T)(slot:Slot T name id)(pP:typeOf (.builtin id)=pure (.type "method_descriptor"))(hm:MtR X id r)(ho:PE X o to)(ha:PA X (e::es) t)
  (gy:attributeBase o name X.env (eval o X.env)=eval o X.env:=by rfl)
  (iW:((backTo aJ (starEach (e::es) X.env)).all (fun x => !x.1)&&(backToKw aJ (keywordEach [] X.env)).all (fun x=>x.1.isSome)
   && decide ((e::es).length+([]:List Keyword).length+(if ([]:List Keyword).isEmpty then 0 else 1)<30))=true:=by rfl)
  (gz:(bM.endLine==aJ.line)=true:=by rfl) (hs:starEach (e::es) X.env=(false,eval e X.env)::starEach es X.env:=by rfl) (eg:(backTo aJ (starEach es X.env)).any (·.1)=false:=by rfl):
  PE X (.Call (.Attribute o name bM) (e::es) [] aJ) (tBM K T r to t):=by
 subst hK
 exact C1 pa slot pP hm ho ha gy iW gz hs eg
section
variable {X:Cx} {K:α3}
def Bp (h:X.K=K):IxR X (rIxT K):=by subst h;exact Ao
def Bj (h:X.K=K):IxR X (rIxL K):=by subst h;exact AT
def Jt (h:X.K=K):Cm X (.builtin "len") (fun xs H Q=>∃p ys,xs=[.ref p]/\(SqL K H p ys\/SqT K H p ys)/\Q (.int ys.length) H):=by subst h;exact Aj
def Ju (h:X.K=K):Cm X (.type "list") (fun xs H Q=>∃p ys,xs=[.ref p]/\(SqL K H p ys\/SqT K H p ys)/\∀l,H l=none->Q (.ref l) (upd H l (.lst ys))):=by subst h;exact DZ
end
end L2
namespace GW
def Bi (ab:α1)(r x:Int):Int:=(ab.getD r.toNat []).getD x.toNat 0
def Az (ab:α1)(ws:α2):Int:=ws.foldl (Bi ab) 0
def IK (ab:α1)(ws:α2):α2:=(rY (ws.length+1)).map fun j=>Az ab (ws.take j)
structure Wf (L:Int)(aa:α2)(ab:α1):Prop where
 l1:1<=L
 l6:L<=6
 n1:1<=aa.length
 n40:aa.length<=40
 len:ab.length=aa.length
 rows:∀row∈ab,(row.length:Int)=L/\∀x∈row,0<=x/\x<aa.length
 mks:∀m∈aa,0<=m/\m<=1000000000
def BC     (h1:ab[r.toNat]?=some row)(h2:row[x.toNat]?=some g):Bi ab r x=g:=by
 unfold Bi
 have e:ab.getD r.toNat []=row:=by rw[jk_,h1];rfl
 rw[e,jk_,h2];rfl
def Wf.row {L:Int}{aa:α2}{ab:α1}(wf:Wf L aa ab){r:Int}(h0:0<=r)(h1:r<aa.length):∃row,ab[r.toNat]?=some row/\row∈ab/\(row.length:Int)=L:=by
 have ar:r.toNat<ab.length:=by rw[wf.len];lia
 exact⟨ab[r.toNat],by simp[ar],j0_ ar,(wf.rows _ (j0_ ar)).1⟩
def Wf.step {L:Int}{aa:α2}{ab:α1}(wf:Wf L aa ab){r x:Int}(h0:0<=r)(h1:r<aa.length)(x0:0<=x)(x1:x<L):∃row g,ab[r.toNat]?=some row/\row[x.toNat]?=some g/\Bi ab r x=g/\0<=g/\g<aa.length:=by
 obtain⟨row,hr,hm,hl⟩:=wf.row h0 h1
 have ar:x.toNat<row.length:=by lia
 have hg:row[x.toNat]?=some row[x.toNat]:=by simp[ar]
 exact⟨row,row[x.toNat],hr,hg,BC hr hg,(wf.rows row hm).2 _ (j0_ ar)⟩
def BD (ab:α1)(ws:α2)(x:Int):Az ab (ws++[x])=Bi ab (Az ab ws) x:=by
 unfold Az
 rw[qA_];rfl
def IL {ab:α1}{ws:α2}{i:Nat}{x:Int}(h:ws[i]?=some x):Az ab (ws.take (i+1))=Bi ab (Az ab (ws.take i)) x:=by
 rw[jR_,h]
 exact BD _ _ _
def Wf.walk    (wf:Wf L aa ab)  (hw:isW L ws=true):∀i,0<=Az ab (ws.take i)/\Az ab (ws.take i)<aa.length:=by
 intro i
 induction i with
 |zero=>have:=wf.n1;simp[Az];lia
 |succ i ih=>
  cases e:ws[i]? with
  |none=>
   have bh:=xC_.mp e
   rw[jX_ s!""]
   rw[jX_ bh]at ih
   exact ih
  |some x=>
   rw[IL e]
   have hx:=Aw.mp hw x (jd_ e)
   obtain⟨_,g,_,_,h,h0,h1⟩:=wf.step ih.1 ih.2 hx.1 hx.2
   rw[h];exact⟨h0,h1⟩
def Jv (ab:α1)(ws:α2):(IK ab ws).length=ws.length+1:=by simp[IK]
def Nz    (h:i<=ws.length):(IK ab ws)[i]?=some (Az ab (ws.take i)):=by
 unfold IK
 rw[jf_,qN_ s!""];rfl
def LD (ab:α1)(ws:α2):(IK ab ws)[ws.length]?=some (Az ab ws):=by
 rw[Nz (ji_ _),jQ_]
end GW
namespace L2
open PySem PySem.Spec PyProof.Rows GW
def Rows (K:α3)(H:Hp)(w:Addr)(ab:α1):Prop:=∃ts:List Addr,SqT K H w (ts.map V.ref)/\ts.length=ab.length/\∀(i:Nat) (t:Addr) (row:α2),ts[i]?=some t->ab[i]?=some row->SqT K H t (row.map V.int)
def AV (K:α3)(H:Hp)(h:Addr)(L:Int)(aa:α2)(ab:α1):Prop:=∃m w:Addr,SqT K H h [.int L,.ref m,.ref w]/\SqT K H m (aa.map V.int)/\Rows K H w ab
def Rows.mono {K:α3}    (h:Rows K H w ab)(e:Same H H'):Rows K H' w ab:=by
 obtain⟨ts,h1,h2,h3⟩:=h
 exact⟨ts,e.seqT h1,h2,fun i t r a b=>e.seqT (h3 i t r a b)⟩
def AV.mono {K:α3}      (x:AV K H h L aa ab)(e:Same H H'):AV K H' h L aa ab:=by
 obtain⟨m,w,h1,h2,h3⟩:=x
 exact⟨m,w,e.seqT h1,e.seqT h2,h3.mono e⟩
def Rows.at {K:α3}{H:Hp}{w:Addr}{ab:α1}(h:Rows K H w ab){i:Nat}{row:α2}(hr:ab[i]?=some row):∃xs t,SqT K H w xs/\atI xs (i:Int)=some (V.ref t)/\SqT K H t (row.map V.int):=by
 obtain⟨ts,h1,h2,h3⟩:=h
 have ar:i<ts.length:=by rw[h2];exact (jb_.mp hr).1
 have ht:ts[i]?=some ts[i]:=by simp[ar]
 exact⟨_,ts[i],h1,DY (by rw[jf_,ht];rfl),h3 i _ _ ht hr⟩
def Rows.atZ {K:α3}    (h:Rows K H w ab)   (h0:0<=r)(hr:ab[r.toNat]?=some row):∃xs t,SqT K H w xs/\atI xs r=some (V.ref t)/\SqT K H t (row.map V.int):=by
 obtain⟨xs,t,a,b,c⟩:=h.at hr
 exact⟨xs,t,a,by rw[<-b];congr 1;lia,c⟩
def O9    (h:xs[xs.length-1]?=some v):atI xs (-1)=some v:=by
 have ar:=(jb_.mp h).1
 unfold atI ixN
 rw[if_neg s!"",if_pos s!""]
 show xs[(-1+(xs.length:Int)).toNat]?=some v
 rw[show (-1+(xs.length:Int)).toNat=xs.length-1 by lia]
 exact h
def A3 {ns:α2}{i:Int}{v:Int}(h0:0<=i)(h:ns[i.toNat]?=some v):atI (ns.map V.int) i=some (V.int v):=B7 h0 (by rw[jf_,h];rfl)
def Jw {K:α3}    (hp:H p=some (.lst zs))(h:SqT K H t xs):SqT K (upd H p (.lst ys)) t xs:=by
 rcases h with (q|⟨o,q⟩)|q
 ·refine .inl (.inl ?_)
  rw[Ah (fun z=>by rw[z,hp]at q;cases q)];exact q
 ·refine .inl (.inr ⟨o,?_⟩)
  rw[Ah (fun z=>by rw[z,hp]at q;cases q)];exact q
 ·exact .inr q
def Cv (K:α3)(H:Hp)(l:Addr)(ws:α1):Prop:=∃ts:List Addr,H l=some (.lst (ts.map V.ref))/\ts.length=ws.length/\∀(i:Nat) (t:Addr) (w:α2),ts[i]?=some t->ws[i]?=some w->SqT K H t (w.map V.int)
def Cv.mono {K:α3}    (h:Cv K H l ws)(e:Same H H'):Cv K H' l ws:=by
 obtain⟨ts,h1,h2,h3⟩:=h
 exact⟨ts,e _ _ h1,h2,fun i t w a b=>e.seqT (h3 i t w a b)⟩
def Cv.off {K:α3}     (h:Cv K H l ws)(hp:H p=some (.lst zs))(ne:l≠p):Cv K (upd H p (.lst ys)) l ws:=by
 obtain⟨ts,h1,h2,h3⟩:=h
 exact⟨ts,by rw[Ah ne];exact h1,h2,fun i t w a b=>Jw hp (h3 i t w a b)⟩
def Cv.push {K:α3}     (h:Cv K H l ws)(hw:SqT K H t (w.map V.int)):∃xs,H l=some (.lst xs)/\xs.length=ws.length/\Cv K (upd H l (.lst (xs++[V.ref t]))) l (ws++[w]):=by
 obtain⟨ts,h1,h2,h3⟩:=h
 refine⟨ts.map V.ref,h1,by rw[ja_,h2],ts++[t],by rw[Ab,jS_];rfl,by simp[h2],fun i t' w' a b=>Jw h1 ?_⟩
 by_cases hi:i<ts.length
 ·rw[je_ hi]at a
  rw[je_ s!""]at b
  exact h3 i t' w' a b
 ·have ht:=(jb_.mp a).1
  rw[jl_,jP_]at ht
  have e:i=ts.length:=by lia
  subst e
  rw[jp_ (ji_ _),qg_]at a
  rw[jp_ s!"",h2,qg_]at b
  simp at a b
  subst a b
  exact hw
def Cv.nil {K:α3}   (h:H l=some (.lst [])):Cv K H l []:=⟨[],h,rfl,fun i t w a _=>by simp at a⟩
def Cv.rows {K:α3}    (h:Cv K H l ws):∃xs,H l=some (.lst xs)/\∀t,H t=none->Rows K (upd H t (.tup xs)) t ws:=by
 obtain⟨ts,h1,h2,h3⟩:=h
 exact⟨_,h1,fun t ht=>⟨ts,SqT.of Ab,h2,fun i t' w a b=>(Same.new ht).seqT (h3 i t' w a b)⟩⟩
end L2
namespace PySem
open Sem (wp)
open AutoSeq1 (wpAny_loadPart')
section
variable {prog:Program} {w:World} {A:Around} {E:Value->Shared->Prop} {s:Shared}
def FY   {items}   (aQ:s.heap.IsTupleIter it l i)
  (hl:s.heap.IsTuple l items) (hx:items[i]?=some x)
  (hQ:∀h',h'.IsTupleIter it l (i+1)->Heap.SameBut it s.heap h'->Q x {s with heap:=h' }):
  wpAny (model prog w) A (Builtin.SmallTypes.nextOf (.ref it)) Q E s:=by
 obtain⟨o,ho,hc,hd⟩:=id aQ
 obtain⟨ol,gH,_,nl,j5⟩:=hl
 unfold Builtin.SmallTypes.nextOf
 refine jc_ (j5_ (name:=Str.ofString "__next__") aQ.typeIs xs_
  (qF_ xs_ aQ.typeIs F.entry_tuple_iterator_next ?_ (F.args_tuple_iterator_next_1 _)))
 show wpAny _ _ (field (.ref it) 0 >>= _) _ _ s
 refine jc_ (qd_ ho hd (x:=.ref l) rfl ?_)
 show wpAny _ _ (if (Value.ref l==Value.none)=true then _ else _) _ _ s
 rw[if_neg (show ¬ ((Value.ref l==Value.none)=true) from ju_)]
 show wpAny _ _ (field (.ref it) 1 >>= _) _ _ s
 refine jc_ (qd_ ho hd (x:=.int i 0) rfl ?_)
 show wpAny _ _ (seqItems? (.ref l) >>= _) _ _ s
 refine jc_ (qR_ gH j5 ?_)
 simp only[jj_,hx]
 refine jc_ (zc_ ho hd (by simp) (jn_ ⟨x,rfl,jn_ (hQ _ ?_ (xq_ ..))⟩))
 exact⟨_,qM_ _ ho (zG_ (xy_ hd _)),(Obj.cls_mapFields ..).trans hc,by
  rw[xy_ hd];simp[rawInt]⟩
def GE   {items}  (hh:A.handled=none)
  (aQ:s.heap.IsTupleIter it l i) (hl:s.heap.IsTuple l items) (hx:items[i]?=none)
  (hE:∀h' e,Heap.ExtBut it s.heap h'->(∃o,h'.get? e=some o/\o.cls=.type "StopIteration")->E (.ref e) {s with heap:=h' }):
  wpAny (model prog w) A (Builtin.SmallTypes.nextOf (.ref it)) Q E s:=by
 obtain⟨o,ho,hc,hd⟩:=id aQ
 obtain⟨ol,gH,_,nl,j5⟩:=hl
 unfold Builtin.SmallTypes.nextOf
 refine jc_ (j5_ (name:=Str.ofString "__next__") aQ.typeIs xs_
  (qF_ xs_ aQ.typeIs F.entry_tuple_iterator_next ?_ (F.args_tuple_iterator_next_1 _)))
 show wpAny _ _ (field (.ref it) 0 >>= _) _ _ s
 refine jc_ (qd_ ho hd (x:=.ref l) rfl ?_)
 show wpAny _ _ (if (Value.ref l==Value.none)=true then _ else _) _ _ s
 rw[if_neg (show ¬ ((Value.ref l==Value.none)=true) from ju_)]
 show wpAny _ _ (field (.ref it) 1 >>= _) _ _ s
 refine jc_ (qd_ ho hd (x:=.int i 0) rfl ?_)
 show wpAny _ _ (seqItems? (.ref l) >>= _) _ _ s
 refine jc_ (qR_ gH j5 ?_)
 simp only[jj_,hx]
 refine jc_ (zR_ (jc_ (zc_ ho hd (by simp) ?_)))
 show wpAny _ _ (newExc (.type "StopIteration") [] >>= _) _ _ _
 refine jc_ ?_
 simp only[newExc,newTuple]
 refine jc_ (qr_ ?_ (by size_fits))
 refine jc_ (m:=firstArgMember _ _) (wpAny_of_eq (a:=Value.none) (by first|rfl|(simp only[firstArgMember];rfl)) ?_)
 refine qr_ ?_ (by size_fits)
 simp only[raiseNew]
 refine jc_ (wpAny_handled ?_)
 first|rw[show A.in1.handled=none from hh]|rw[hh]
 refine jc_ (jn_ (wpAny_throw ?_))
 exact hE _ _ (((xq_ ..).extBut.push _).push _) ⟨_,jz_ _ rfl,rfl⟩
def Draws.tuple (hh:A.handled=none)(it l:Addr)(ay:l≠it)(items:Array Value):
  Draws prog w A it [it,l] items.size (fun i v=>items[i]?=some v) (fun i h=>h.IsTupleIter it l i/\h.IsTuple l items) where
 live:=fun _ _ st=>let ⟨o,ho,_⟩:=st.1;⟨o,ho⟩
 frame:=fun _ _ _ st hk=>⟨st.1.at fun o e=>hk it (by simp) o e,by
  obtain⟨o,ho,r⟩:=st.2
  exact⟨o,hk l (by simp) o ho,r⟩⟩
 item:=fun i s Q E hi st hQ=>by
  refine FY st.1 st.2 (x:=items[i]) (by simp[hi]) fun h' dQ bK=>?_
  exact hQ _ h' s.toks (by simp[hi]) ⟨dQ,st.2.extBut bK.extBut ay⟩ bK
 done:=fun s Q E st hE=>GE hh st.1 st.2 (by simp) hE
def EK (l:Addr)(items:Array Value)(n:Nat)(p9:Option Addr)(sl:Array (α5)):
  Meets (Builtin.«enumerate.__new__» ⟨[.type "enumerate",.ref l],[]⟩) (fun _ R s=>s.heap.get? l=some {cls:=.type "tuple",dict:=p9,data:=.seq items n,slots:=sl} /\
   R (.ok (.ret (.ref (s.heap.push {cls:=.type "tuple_iterator",data:=.fields #[.ref l,.int 0 0]}).objs.size)))
    {s with heap:=(s.heap.push {cls:=.type "tuple_iterator",data:=.fields #[.ref l,.int 0 0]}).push {cls:=.type "enumerate",data:=.fields #[.none,.bool false,.ref s.heap.objs.size,rawInt 0,.none,.none]} }):=
 .of_wp fun prog w A R s h=>by
  obtain⟨hp,g,d,tk,os⟩:=s;obtain⟨hl,h⟩:=h
  have dj:=sub_enumerate
  have hL:Heap.IsTuple (Shared.heap ⟨hp,g,d,tk,os⟩) l items:=⟨_,hl,rfl,n,rfl⟩
  wp_walk using j4_ hl
  refine wpAny_stack_any fun st=>jn_ ?_
  split
  ·rename_i c _ _ _ _ _
   cases (c==Value.type "enumerate")
   ·wp_walk using j4_ hl,xu_ hL
    exact⟨_,rfl,h⟩
   ·wp_walk using j4_ hl,xu_ hL
    exact⟨_,rfl,h⟩
  ·wp_walk using j4_ hl,xu_ hL
   exact⟨_,rfl,h⟩
def EL    (hL:s.heap.IsTuple l items)
  (h:∀h',IsEnum h' (s.heap.objs.size+1) s.heap.objs.size 0 .none->h'.IsTupleIter s.heap.objs.size l 0->h'.objs.size=s.heap.objs.size+2 ->
   (∀b o,s.heap.get? b=some o->h'.get? b=some o)->Q (.ref (s.heap.objs.size+1)) {s with heap:=h' }):
  wpAny (model prog w) A (call (.type "enumerate") [.ref l]) Q E s:=by
 obtain⟨⟨c,p9,dt,sl⟩,hl,hc,n,hd⟩:=hL
 replace hc:c=.type "tuple" := hc
 replace hd:dt=.seq items n:=hd
 subst hc hd
 refine callType_new F.called_enumerate (by decide) (F.typeCall_enumerate_1 _) (F.newCall_enumerate_1 _) (fun obj=>F.args_object_init_2 obj _) F.entry_enumerate_new
  (EK l items n p9 sl) ⟨hl,?_⟩
 have hz:(s.heap.push {cls:=.type "tuple_iterator",data:=.fields #[.ref l,.int 0 0]}).objs.size=s.heap.objs.size+1:=qf_ ..
 show _/\_
 rw[hz]
 have he:IsEnum ((s.heap.push {cls:=.type "tuple_iterator",data:=.fields #[.ref l,.int 0 0]}).push
   {cls:=.type "enumerate",data:=.fields #[.none,.bool false,.ref s.heap.objs.size,rawInt 0,.none,.none]}) (s.heap.objs.size+1) s.heap.objs.size 0 .none:=by
  have:=jz_ (s.heap.push {cls:=.type "tuple_iterator",data:=.fields #[.ref l,.int 0 0]})
   (o:={cls:=.type "enumerate",data:=.fields #[.none,.bool false,.ref s.heap.objs.size,rawInt 0,.none,.none]}) rfl
  rw[hz]at this;exact this
 refine⟨⟨_,he,rfl⟩,h _ he ⟨_,jg_ _ (jz_ _ rfl),rfl,rfl⟩ (by rw[qf_,hz]) fun b o x=>jg_ _ (jg_ _ x)⟩
end
end PySem
namespace L2
open PySem PySem.Spec PyProof.Rows
section
variable {X:Cx} {ae:α7} {σ:St} {H:Hp} {s:Shared}
def Inv.un2   (I:Inv X ae σ H s)(k:∀b o,b≠e->b≠it->s.heap.get? b=some o->h'.get? b=some o)(f1:FpOk X ae H e)(f2:FpOk X ae H it):Un (frs X.stack) [e,it] H H s.heap h'/\HOk X.prog X.w H h':=by
 have ne:∀b u,H b=some u->b≠e/\b≠it:=fun b u q=>⟨(fun z=>by rw[z,f1.1]at q;cases q),(fun z=>by rw[z,f2.1]at q;cases q)⟩
 have gf:∀{b:Addr},b ∉ [e,it]->b≠e/\b≠it:=fun hb=>by simpa using hb
 refine⟨⟨fun b o q _ _ hb=>k b o (gf hb).1 (gf hb).2 q,fun b o q _ _ hb=>⟨o.slots,k b o (gf hb).1 (gf hb).2 q⟩,fun _ _ _ n _=>n,fun b o q hb=>⟨o,k b o (gf hb).1 (gf hb).2 q⟩,fun _ _ q=>q,fun _ _ _ q=>q,fun b ps q=>⟨#[],by rw[q];simp⟩⟩,fun b u q=>?_⟩
 refine (I.hok b u q).stay (fun c v hc qv=>?_) (fun _ q=>q) fun _ _ q=>q
 have ay:c≠e/\c≠it:=by
  rcases hc with rfl|hc
  ·exact ne _ _ q
  ·exact ne _ _ hc
 exact k c v ay.1 ay.2 qv
def FpOk.ch  (f:FpOk X ae H b):(b∈X.ex\/X.s₀.heap.objs.size<=b)/\b≠X.env.locals/\(∀x c,X.env.cells.lookup x=some c->c≠b)/\∀p∈X.pn++ae,p.1≠b:=⟨f.2.2.2.1,f.2.1,f.2.2.2.2.1,f.2.2.2.2.2⟩
end
def Itn (K:α3)(a:Addr)(xs:List V):It:=⟨fun i H=>i<xs.length/\SqT K H a xs,fun i H x H'=>∃t v,H t=none/\xs[i]?=some v/\x=.ref t/\H'=upd H t (.tup [.int i,v]),fun i H=>i=xs.length/\SqT K H a xs⟩
def NA {P:Program}{w:World}{K:α3}{gI:List Expr}{x1}{fG:Pos}(a e it:Addr)(iF:e≠it)(m7:a≠it)(hae:a≠e)(xs:List V):Turn P w K (.Tuple gI x1 fG) (Itn K a xs) [e,it] e (fun i h=>∃ez,IsEnum h e it (i:Nat) ez/\h.IsTupleIter it a i) where
 mem:=by simp
 obj:=fun i h st b hb=>by
  obtain⟨ez,h1,o,h2,c,d⟩:=st
  rcases jD_.mp hb with rfl|hb
  ·exact⟨_,h1,fun v z=>by cases z⟩
  ·rw[jr_.mp hb]
   exact⟨o,h2,fun v z=>by rw[d]at z;cases z⟩
 keep:=fun i h h' st k=>by
  obtain⟨ez,h1,h2⟩:=st
  exact⟨ez,k e (by simp) _ h1,h2.at fun o q=>k it (by simp) o q⟩
 item:=by
  intro X hP hw hK hc i ae s σ H E I hf st hg
  subst hP hw hK
  obtain⟨hi,hq⟩:=hg
  obtain⟨ez,he,aQ⟩:=st
  obtain⟨its,rv,p,hz⟩:=I.tuple hq
  have hl:=rv.length
  have pt:s.heap.IsTuple a its.toArray:=p
  have f1:=hf e (by simp)
  have f2:=hf it (by simp)
  have Dw:=Draws.tuple (prog:=X.prog) (w:=X.w) (A:=X.A.in1) (I.ok.hd hc) it a m7 its.toArray
  refine wpAny_pyNext_enum_itemD Dw he ⟨aQ,pt⟩ (by simp;lia) iF (by simp[iF,qp_ hae]) fun u h' tk hu jz j6 hget hsz hk=>?_
  have hT:s.heap.objs.size≠e:=qe_ (jt_ he)
  refine⟨_,rfl,wpAny_letOwnedTupleGo_enum jz fun h2 qa dk=>?_⟩
  have fJ:∀b o,b≠e->b≠it->s.heap.get? b=some o->h2.get? b=some o:=fun b o h1 h3 q=>(dk.2 b h1).trans (hk b o h1 h3 q)
  obtain⟨un,hok⟩:=I.un2 fJ f1 f2
  have hn:H s.heap.objs.size=none:=I.hok.fresh (ji_ _)
  have hv:xs[i]?=some xs[i]:=by simp[hi]
  obtain⟨u',jD,ru⟩:=rv.get hv
  have eu:u'=u:=by
   have hu2:its[i]?=some u:=by simpa using hu
   rw[jD]at hu2
   exact js_ hu2
  subst eu
  have hget2:h2.get? s.heap.objs.size=some {cls:=.type "tuple",data:=.seq #[.int i tk,u']}:=(dk.2 _ hT).trans hget
  have new:Bk X.prog X.w (upd H s.heap.objs.size (.tup [.int i,xs[i]])) h2 s.heap.objs.size (.tup [.int i,xs[i]]):=⟨by have:=Ar;simp;lia,[.int i tk,u'],.cons ⟨tk,rfl⟩ (.cons ru .nil),_,hget2,rfl,_,rfl⟩
  refine⟨.ref s.heap.objs.size,upd H s.heap.objs.size (.tup [.int i,xs[i]]),I.call' (s':={s with heap:=h2,toks:=tk+1}) (ch:=[e,it]) rfl (un.track (ji_ _) hn) (hok.track hn new) I.bare (fun b hb=>?_),rfl,⟨_,_,hn,hv,rfl,rfl⟩,?_,fun b hb=>?_⟩
  ·exact (hf b hb).ch
  ·refine⟨u',by simpa using qa,?_⟩
   exact j6.1.at fun o q=>(dk.2 it (qp_ iF)).trans q
  ·have iT:=hf b hb
   have:∃o,s.heap.get? b=some o:=by
    rcases jD_.mp hb with rfl|hb
    ·exact⟨_,he⟩
    ·rw[jr_.mp hb]
     obtain⟨o,ho,_⟩:=aQ
     exact⟨o,ho⟩
   obtain⟨o,ho⟩:=this
   rw[Ah (jO_ (jt_ ho))]
   exact iT.1
 done:=by
  intro X hP hw hK hc i ae s σ H E I hf st hg
  subst hP hw hK
  obtain⟨hi,hq⟩:=hg
  subst hi
  obtain⟨ez,he,aQ⟩:=st
  obtain⟨its,rv,p,hz⟩:=I.tuple hq
  have hl:=rv.length
  have pt:s.heap.IsTuple a its.toArray:=p
  have Dw:=Draws.tuple (prog:=X.prog) (w:=X.w) (A:=X.A.in1) (I.ok.hd hc) it a m7 its.toArray
  obtain⟨f0,f1,f2,f3,f4,f5⟩:=hf it (by simp)
  refine wpAny_pyNext_enum_endD Dw he ⟨by rw[jq_,<-hl];exact aQ,pt⟩ fun h' eb=>⟨rfl,I.turned (t':=s.toks) (fun b o hb e=>eb b o hb e) f0 f1 f3 f4 f5⟩
 self:=fun A i s Q E st h=>by
  obtain⟨ez,he,_⟩:=st
  exact wpAny_pyIter_enum he h
def SF (K:α3)(tl:TE):TI:=fun σ H R=>tl σ H fun x H1=>∃a xs,x=.ref a/\SqT K H1 a xs/\R (Itn K a xs) H1
theorem MF {K:α3}     : SF K te σ H Z=te σ H fun x H1=>∃a xs,x=.ref a/\SqT K H1 a xs/\Z (Itn K a xs) H1:=rfl
theorem SH {K:α3}       : gTup K n t v σ H N=∃a xs,v=.ref a/\SqT K H a xs/\xs.length=n/\t xs σ H N:=rfl
theorem Pa       : UO t u vs σ H N=∃v r,vs=v::r/\t v σ H fun af H'=>u r af H' N:=rfl
theorem SI     : gNil vs σ H N=(vs=[]/\N σ H):=rfl
def Re   {x1}     (hg:Gl X "enumerate")(hm:X.mg "enumerate"=none)(he:PE X e te)(hs:starEach [e] X.env=[(false,eval e X.env)]:=by rfl):PI X (.Tuple gI x1 fG) (.Call (.Name "enumerate" p) [e] [] pos) (SF X.K te):=by
 intro ae s σ H R I h
 refine Call_ (DW I hg hm boot_enumerate (qk_ (thn (Aa he Ad hs pos ae s σ H (fun vs H1=>∃a xs,vs=[.ref a]/\SqT X.K H1 a xs/\R (Itn X.K a xs) H1) I ?_) fun us s1 ⟨vs,H1,I1,r1,q1⟩=>?_) hs rfl))
 ·show te σ H _
  have:(fun x H1=>∃a xs,x=V.ref a/\SqT X.K H1 a xs/\R (Itn X.K a xs) H1)=(fun x H1=>tNil σ H1 fun xs H2=>∃a ys,x::xs=[V.ref a]/\SqT X.K H2 a ys/\R (Itn X.K a ys) H2):=by
   funext x H1
   simp[tNil]
  rw[<-this]
  exact h
 ·obtain⟨a,xs,rfl,hq,q⟩:=q1
  cases r1 with
  |cons r rr=>
   cases rr
   cases r
   obtain⟨its,rv,p,hz⟩:=I1.tuple hq
   have pt:s1.heap.IsTuple a its.toArray:=p
   obtain⟨oa,hoa,_⟩:=id pt
   have ha:=jt_ hoa
   refine EL pt fun h' eA dQ hsz hk=>?_
   refine wpAny_pyIter_enum (s:={s1 with heap:=h' }) eA ?_
   have I2:Inv X ae σ H1 {s1 with heap:=h' }:=I1.kept (t':=s1.toks) hk
   refine⟨s1.heap.objs.size+1,[s1.heap.objs.size+1,s1.heap.objs.size],_,_,H1,rfl,I2,NA a (s1.heap.objs.size+1) s1.heap.objs.size (Nat.succ_ne_self _) (jO_ ha) (jO_ (xm_ ha)) xs,⟨_,eA,dQ⟩,fun b hb=>?_,q⟩
   have bh:s1.heap.objs.size<=b:=by
    rcases jD_.mp hb with rfl|hb
    ·lia
    ·rw[jr_.mp hb];exact ji_ _
   exact I1.fpOk bh (I1.hok.fresh bh)
def forN {K:α3}        (Pv:Nat->St->Hp->Prop)(h0:Pv 0 σ H)(hl:∀i σ H,i<=xs.length->Pv i σ H->SqT K H a xs)
  (hs:∀i v σ H t,xs[i]?=some v->Pv i σ H->H t=none->g (.ref t) σ (upd H t (.tup [.int i,v])) fun ai H2=>tb {D with nx:=Pv (i+1),ct:=Pv (i+1),bk:=D.nx} ai H2) (hd:∀σ H,Pv xs.length σ H->D.nx σ H):ForW (Itn K a xs) g tb D σ H:=by
 refine⟨fun i m σ H=>m=xs.length-i/\i<=xs.length/\Pv i σ H,⟨xs.length,by simp,jY_ _,h0⟩,?_⟩
 rintro i m σ H ⟨rfl,hi,p⟩
 by_cases ar:i<xs.length
 ·refine .inr ⟨⟨ar,hl i σ H hi p⟩,Pv (i+1),fun af H' p'=>⟨xs.length-(i+1),by lia,rfl,ar,p'⟩,fun x H' y=>?_⟩
  obtain⟨t,v,hn,hv,rfl,rfl⟩:=y
  exact hs i v σ H t hv p hn
 ·have e:i=xs.length:=by lia
  subst e
  exact .inl ⟨⟨rfl,hl _ σ H hi p⟩,hd σ H p⟩
section
variable {td ty tv tx:TE} {D:Ends} {σ:St} {H:Hp} {Q:VK}
theorem SJ:U5 td ty σ H Q=td σ H fun x H1=>ty σ H1 fun y H2=>∃a v,x=.ref a/\DGet H2 a y (some v)/\Q v H2:=rfl
theorem MG:OP ty td σ H Q=ty σ H fun y H1=>td σ H1 fun x H2=>∃a o,x=.ref a/\DGet H2 a y o/\Q (.bl (!o.isSome)) H2:=rfl
theorem SK:U6 td ty tv D σ H=tv σ H fun v H1=>td σ H1 fun x H2=>ty σ H2 fun y H3=>∃a H4,x=.ref a/\DPut H3 a y v H4/\D.nx σ H4:=rfl
theorem Pb:OT td ty σ H Q=td σ H fun x H1=>∃a,x=.ref a/\IsD H1 a/\ty σ H1 fun y H2=>∃o,DGet H2 a y o/\Q (o.getD .non) H2:=rfl
theorem SL  : TN aH σ H Q=∀p,H p=none->Hl aH σ (upd H p (.dK [])) fun ps H2=>H2 p=some (.dK [])/\∃kvs:List (Key×V),ps=kvs.map (fun kv=>(kV kv.1,kv.2))/\kvs.length<=15/\Q (.ref p) (upd H2 p (.dK (Gp [] kvs))):=rfl
theorem MK  : Hl [] σ H R=R [] H:=rfl
theorem ML   : Hl ((td,tv)::r) σ H R=td σ H fun x H1=>tv σ H1 fun y H2=>Hl r σ H2 fun ps H3=>R ((x,y)::ps) H3:=rfl
end
end L2
namespace GW
def CP (w:α2):List (Int×α2)->Nat->α2->List (Int×α2)
 |ents,_,[]=>ents
 |ents,x,g::r=>CP w (if g∈ents.map (·.1) then ents else ents++[(g,w++[(x:Int)])]) (x+1) r
def bfs (ab:α1):Nat->List (Int×α2)->Nat->List (Int×α2)
 |0,ents,_=>ents
 |f+1,ents,i=>match ents[i]? with
  |none=>ents
  |some e=>bfs ab f (CP e.2 ents 0 (ab.getD e.1.toNat [])) (i+1)
def Au (ab:α1):List (Int×α2):=bfs ab (ab.length+1) [(0,[])] 0
def Jx {ab:α1}{ents:List (Int×α2)}{i:Nat}(h:ents[i]?=none):∀f,bfs ab f ents i=ents
 |0=>rfl
 |f+1=>by rw[bfs,h]
def Jy  {ents:List (Int×α2)}   (h:ents[i]?=some e)(f:Nat):bfs ab (f+1) ents i=bfs ab f (CP e.2 ents 0 (ab.getD e.1.toNat [])) (i+1):=by rw[bfs,h]
def Fr:∀(n:Nat) {l:α2},l.Nodup->(∀x∈l,0<=x/\x<(n:Int))->l.length<=n
 |0,l,_,h=>by
  cases l with
  |nil=>simp
  |cons x r=>have:=h x jo_;lia
 |n+1,l,hn,h=>by
  by_cases hm:(n:Int)∈l
  ·have e:=qZ_ hm
   have:=Fr n (l:=l.erase (n:Int)) (hn.erase _) (fun x hx=>by
    have h1:=(hn.mem_erase_iff).mp hx
    have h2:=h x h1.2
    have h3:=h1.1
    lia)
   lia
  ·have:=Fr n hn (fun x hx=>by
    have h2:=h x hx
    have:x≠n:=fun z=>hm (z ▸ hx)
    lia)
   lia
structure Bfs (L:Int)(n:Nat)(ab:α1)(ents:List (Int×α2))(i:Nat)(top:Int):Prop where
 hd:ents[0]?=some (0,[])
 il:i<=ents.length
 sh:∀(j:Nat) (e:Int×α2),ents[j]?=some e->e.2.length<=j
 nod:(ents.map (·.1)).Nodup
 rng:∀e∈ents,0<=e.1/\e.1<(n:Int)
 wd:∀e∈ents,isW L e.2=true/\Az ab e.2=e.1
 inc:∀(j k:Nat) (a b:Int×α2),j<k->ents[j]?=some a->ents[k]?=some b->place L a.2<place L b.2
 bnd:∀e∈ents,place L e.2<top
 don:∀j,j<i->∀e,ents[j]?=some e->∀x:Int,0<=x->x<L->∃e'∈ents,e'.1=Bi ab e.1 x/\place L e'.2<=place L (e.2++[x])
def Bfs.len    {ents:List (Int×α2)}   (h:Bfs L n ab ents i top):ents.length<=n:=by
 have:=Fr n h.nod (fun x hx=>by
  obtain⟨e,he,rfl⟩:=jv_.mp hx
  exact h.rng e he)
 simpa using this
def Bfs.start (L:Int)  (hn:1<=n)(ab:α1):Bfs L n ab [(0,[])] 0 1:=by
 refine⟨rfl,by simp,(fun j e he=>by cases j with|zero=>(simp at he;subst he;simp)|succ j=>simp at he),by simp,fun e he=>?_,fun e he=>?_,fun j k a b h h1 h2=>?_,fun e he=>?_,fun j hj=>absurd hj (qV_ _)⟩
 ·simp at he;subst he;simp;lia
 ·simp at he;subst he;exact⟨rfl,rfl⟩
 ·have:=(jb_.mp h2).1;simp at this;lia
 ·simp at he;subst he;simp[place,AQ]
def Bfs.add  (hL:0<L)   {ents:List (Int×α2)}   (h:Bfs L n ab ents i top)   (hw:(r,w)∈ents)(hx:0<=x/\x<L)(ht:top<=place L w*L+x+1)
  (hg:g=Bi ab r x) (b7:0<=g/\g<(n:Int)) (dN:g∉ents.map (·.1)):Bfs L n ab (ents++[(g,w++[x])]) i (place L w*L+x+2):=by
 obtain⟨v1,v2⟩:=h.wd _ hw
 have hp:=CD L w x
 have aj:0<ents.length:=by have:=(jb_.mp h.hd).1;lia
 refine⟨?_,by have:=h.il;simp;lia,fun j e he=>?_,?_,fun e he=>?_,fun e he=>?_,fun j k a b iG h1 h2=>?_,fun e he=>?_,fun j hj e he y gJ fL=>?_⟩
 ·rw[je_ aj];exact h.hd
 ·have hj:=(jb_.mp he).1
  rw[jl_,jP_]at hj
  by_cases cN:j<ents.length
  ·rw[je_ cN]at he
   exact h.sh j e he
  ·have e1:j=ents.length:=by lia
   subst e1
   rw[jp_ (ji_ _),qg_]at he
   simp at he
   subst he
   obtain⟨j',cn,ej⟩:=jN_ hw
   have:=h.sh j' (r,w) (by rw[jh_ cn,ej])
   have this':w.length<=j':=this
   show (w++[x]).length<=ents.length
   simp;lia
 ·rw[jS_,x6_]
  refine⟨h.nod,by simp,fun a ha b hb=>?_⟩
  simp at hb
  subst hb
  exact fun z=>dN (z ▸ ha)
 ·rcases jw_.mp he with he|he
  ·exact h.rng e he
  ·rw[jr_.mp he];exact b7
 ·rcases jw_.mp he with he|he
  ·exact h.wd e he
  ·rw[jr_.mp he]
   refine⟨?_,?_⟩
   ·rw[Aw]at v1 ⊢
    intro z hz
    rcases jw_.mp hz with hz|hz
    ·exact v1 z hz
    ·rw[jr_.mp hz];exact hx
   ·show Az ab (w++[x])=g
    rw[BD]
    have qb:Az ab w=r:=v2
    rw[qb,hg]
 ·have hk:=(jb_.mp h2).1
  rw[jl_,jP_]at hk
  by_cases gK:k<ents.length
  ·rw[je_ gK]at h2
   rw[je_ s!""]at h1
   exact h.inc j k a b iG h1 h2
  ·have qc:k=ents.length:=by lia
   subst qc
   rw[je_ s!""]at h1
   rw[jp_ (ji_ _),qg_]at h2
   simp at h2
   subst h2
   have:=h.bnd a (jd_ h1)
   show place L a.2<place L (w++[x])
   rw[hp];lia
 ·rcases jw_.mp he with he|he
  ·have:=h.bnd e he;lia
  ·rw[jr_.mp he]
   show place L (w++[x])<_
   rw[hp];lia
 ·have cN:j<ents.length\/j=ents.length:=by
   have:=(jb_.mp he).1
   rw[jl_,jP_]at this
   lia
  rcases cN with cN|cN
  ·rw[je_ cN]at he
   obtain⟨e',m,q⟩:=h.don j hj e he y gJ fL
   exact⟨e',j6_ _ m,q⟩
  ·exact absurd cN (by have:=h.il;lia)
def Bfs.up    {ents:List (Int×α2)}   (h:Bfs L n ab ents i top)(ht:top<=eB):Bfs L n ab ents i eB :=
 ⟨h.hd,h.il,h.sh,h.nod,h.rng,h.wd,h.inc,fun e he=>z8_ (h.bnd e he) ht,h.don⟩
def Seen (L:Int)(ab:α1)(ents:List (Int×α2))(r:Int)(w:α2)(x:Nat):Prop:=∀y:Int,0<=y->y<x->∃e'∈ents,e'.1=Bi ab r y/\place L e'.2<=place L (w++[y])
def Bfs.letter {L:Int}(hL:0<L){n:Nat}{ab:α1}{ents:List (Int×α2)}{i x:Nat}{w:α2}{r g:Int}(h:Bfs L n ab ents i (place L w*L+x+1))(hs:Seen L ab ents r w x)(hw:(r,w)∈ents)(hx:(x:Int)<L)
  (hg:g=Bi ab r x) (b7:0<=g/\g<(n:Int)):Bfs L n ab (if g∈ents.map (·.1) then ents else ents++[(g,w++[(x:Int)])]) i (place L w*L+((x+1:Nat):Int)+1)/\Seen L ab (if g∈ents.map (·.1) then ents else ents++[(g,w++[(x:Int)])]) r w (x+1):=by
 by_cases hm:g∈ents.map (·.1)
 ·rw[if_pos hm]
  refine⟨h.up (by push_cast;lia),fun y gJ fL=>?_⟩
  by_cases iU:y<x
  ·exact hs y gJ iU
  ·have e:y=x:=by push_cast at fL;lia
   subst e
   obtain⟨e',eA,e1⟩:=jv_.mp hm
   refine⟨e',eA,by rw[<-hg];exact e1,?_⟩
   have:=h.bnd e' eA
   rw[CD];lia
 ·rw[if_neg hm]
  refine⟨(h.add hL hw ⟨by lia,hx⟩ (x0_ _) hg b7 hm).up (by push_cast;lia),fun y gJ fL=>?_⟩
  by_cases iU:y<x
  ·obtain⟨e',m,q⟩:=hs y gJ iU
   exact⟨e',j6_ _ m,q⟩
  ·have e:y=x:=by push_cast at fL;lia
   subst e
   exact⟨_,jy_ _ jo_,hg,x0_ _⟩
def Bfs.next {L:Int}(hL:0<L){n i m:Nat}{ab:α1}{ents:List (Int×α2)}{w:α2}{r:Int}(h:Bfs L n ab ents i (place L w*L+m+1))(hm:(m:Int)=L)(hs:Seen L ab ents r w m)(hw:ents[i]?=some (r,w)):
  Bfs L n ab ents (i+1) (place L w*L+L+1)/\∀e,ents[i+1]?=some e->place L w*L+L+1<=place L e.2*L+1:=by
 have hi:=(jb_.mp hw).1
 rw[hm]at h
 refine⟨⟨h.hd,hi,h.sh,h.nod,h.rng,h.wd,h.inc,h.bnd,fun j hj e he x h0 h1=>?_⟩,fun e he=>?_⟩
 ·by_cases iZ:j<i
  ·exact h.don j iZ e he x h0 h1
  ·have e1:j=i:=by lia
   subst e1
   rw[hw]at he
   cases he
   exact hs x h0 s!""
 ·have:=h.inc i (i+1) _ _ (zg_ _) hw he
  have h2:=j1_ (show place L w+1<=place L e.2 from this) (xx_ hL)
  rw[zY_]at h2
  lia
def FZ (w:α2)(ents:List (Int×α2))(x:Nat):CP w ents x []=ents:=rfl
def Fa (w:α2)(ents:List (Int×α2))(x:Nat)(g:Int)(r:α2):CP w ents x (g::r)=CP w (if g∈ents.map (·.1) then ents else ents++[(g,w++[(x:Int)])]) (x+1) r:=rfl
def Fb {ents:List (Int×α2)}{g:Int}{v:α2}{i:Nat}{e:Int×α2}(h:ents[i]?=some e):(if g∈ents.map (·.1) then ents else ents++[(g,v)])[i]?=some e:=by
 split
 ·exact h
 ·rw[je_ (jb_.mp h).1];exact h
end GW
namespace L2
open PySem PySem.Spec PyProof.Rows
def ups (n:Nat):α2:=(rY n).map fun i:Nat=>(i:Int)
def MM (te:TE):TE:=fun σ H Q=>te σ H fun x H1=>∃j:Int,x=.int j/\0<=j/\j<=100000/\∀p,H1 p=none->Q (.ref p) (upd H1 p (.lst ((ups j.toNat).map V.int)))
theorem KD     : MM te σ H Q=te σ H fun x H1=>∃j:Int,x=.int j/\0<=j/\j<=100000/\∀p,H1 p=none->Q (.ref p) (upd H1 p (.lst ((ups j.toNat).map V.int))):=rfl
def Pe   (h:ItemsOf (fun i v=>∃t,v=.int ((0:Int)+(i:Nat)*1) t) ah n):Vals ((ups n).map V.int) ah.toList:=by
 have hs:=h.1
 have key:∀(l:List Value) (k:Nat),(∀i v,l[i]?=some v->∃t,v=Value.int ((k+i:Nat):Int) t)->Vals (((rY l.length).map fun i=>((k+i:Nat):Int)).map V.int) l:=by
  intro l
  induction l with
  |nil=>intro k _;exact .nil
  |cons u r ih=>
   intro k hk
   rw[jU_,List.range_succ_eq_map,jZ_,jZ_]
   refine .cons ?_ ?_
   ·obtain⟨t,e⟩:=hk 0 u (by simp)
    exact⟨t,by simpa using e⟩
   ·have:=ih (k+1) (fun i v hv=>by
     obtain⟨t,e⟩:=hk (i+1) v (by simpa using hv)
     exact⟨t,by rw[e];congr 1;push_cast;lia⟩)
    have e:((List.map Nat.succ (rY r.length)).map fun i=>((k+i:Nat):Int))=((rY r.length).map fun i=>((k+1+i:Nat):Int)):=by
     rw[jW_]
     apply qx_
     intro i _
     show ((k+(i+1):Nat):Int)=_
     congr 1;lia
    rw[e]
    exact this
 have:=key ah.toList 0 (fun i v hv=>by
  obtain⟨t,e⟩:=h.2 i v (by simpa using hv)
  exact⟨t,by rw[e];congr 1;push_cast;lia⟩)
 have hl:ah.toList.length=n:=by simpa using hs
 rw[hl]at this
 have e2:((rY n).map fun i=>((0+i:Nat):Int))=ups n:=by
  unfold ups
  apply qx_
  intro i _
  congr 1;lia
 rw[e2]at this
 exact this
def F0     (hc:X.calm=true)(hg:Gl X "list")(hm:X.mg "list"=none)(j7:Gl X "range")(iH:X.mg "range"=none)(he:PE X e te)
  (jE:starEach [.Call (.Name "range" p2) [e] [] eC] X.env=[(false,eval (.Call (.Name "range" p2) [e] [] eC) X.env)]:=by rfl) (hs:starEach [e] X.env=[(false,eval e X.env)]:=by rfl):
  PE X (.Call (.Name "list" p) [.Call (.Name "range" p2) [e] [] eC] [] pos) (MM te):=by
 intro ae s σ H Q I h
 refine xw_ (DW I hg hm boot_list ?_)
 refine qk_ ?_ jE rfl
 rw[jE]
 refine xv_ ?_
 refine Call_ (DW I j7 iH boot_range (qk_ (thn (Aa he Ad hs eC ae s σ H (fun vs H1=>∃j:Int,vs=[.int j]/\0<=j/\j<=100000/\∀p,H1 p=none->Q (.ref p) (upd H1 p (.lst ((ups j.toNat).map V.int)))) I ?_) fun us s1 ⟨vs,H1,I1,r1,q1⟩=>?_) hs rfl))
 ·show te σ H _
  have:(fun x H1=>∃j:Int,x=V.int j/\0<=j/\j<=100000/\∀p,H1 p=none->Q (.ref p) (upd H1 p (.lst ((ups j.toNat).map V.int))))=(fun x H1=>tNil σ H1 fun xs H2=>∃j:Int,x::xs=[V.int j]/\0<=j/\j<=100000/\∀p,H2 p=none->Q (.ref p) (upd H2 p (.lst ((ups j.toNat).map V.int)))):=by
   funext x H1
   simp[tNil]
  rw[<-this]
  exact h
 ·obtain⟨j,rfl,h0,h1,q⟩:=q1
  cases r1 with
  |cons r rr=>
   cases rr
   obtain⟨t,rfl⟩:=r
   refine call_range_1 ?_
   refine x5_ ?_
   refine call_list_range (n:=j.toNat) (I.ok.hd hc) (IsRange.new ..) (small_one s!"" s!"" s!"" s!"") ?_ s!"" fun h' tk eE c' hk hS aS=>?_
   ·rw[rangeSize_one];split<;>lia
   ·have kp:∀b o,s1.heap.get? b=some o->h'.get? b=some o:=fun b o e=>hk b o (jg_ _ e)
    have hz:(ups j.toNat).length=j.toNat:=by simp[ups]
    have hl:=Ar
    refine⟨.ref _,_,I1.laid (t':=tk) kp (by rw[qf_];exact wj_ _) (show Bk X.prog X.w _ h' _ (.lst ((ups j.toNat).map V.int)) from ⟨by rw[ja_,hz];lia,eE.toList,c',Pe aS,by simpa using hS⟩),rfl,q _ (I1.hok.fresh (by rw[qf_];exact wj_ _))⟩
def Pf (tk tv:TE):TE:=TN [(tk,tv)]
def Rf     (hk:PE X k tk)(hv:PE X v tv):PE X (.Dict [some k] [v] pos) (Pf tk tv):=TQ (Q3 hk hv TM) rfl rfl (by intro z;cases z) (by show 1<=15;decide)
theorem Pg     : Pf tk tv σ H Q=∀p,H p=none->tk σ (upd H p (.dK [])) fun x H1=>tv σ H1 fun y H2=>H2 p=some (.dK [])/\∃kvs:List (Key×V),[(x,y)]=kvs.map (fun kv=>(kV kv.1,kv.2))/\kvs.length<=15/\Q (.ref p) (upd H2 p (.dK (Gp [] kvs))):=rfl
def TY {X:Cx}{i:Nat}{x:Str}{k v:Expr}{tk tv:TE}{pos bT gL:Pos}(hN:X.N.Nodup)(hi:X.N[i]?=some x)(hx:Loc X.env.scope x)(hk:PE X k tk)(hv:PE X v tv)(hs:swapsWith (.Dict [some k] [v] gL) (some (.Name x bT)) pos.line X.env=pure false)
  (hf:X.fn x=true\/X.env.scope.names.lookup x=some .local):PS X (.Assign [.Name x bT] (.Dict [some k] [v] gL) pos) (tAsg (Pf tk tv) (Fn i)):=Ba hN hi hx (Rf hk hv) hs hf
end L2
namespace L2
open PySem GW
def mkW (aa:α2)(r:Int):Int:=aa.getD r.toNat 0
def Vt   (h0:0<=r)(h1:r<aa.length):mkW aa r∈aa:=by
 have ar:r.toNat<aa.length:=by lia
 unfold mkW
 rw[jk_,jh_ ar]
 exact j0_ ar
def KG   (h0:0<=r)(h1:r<aa.length):atI (aa.map V.int) r=some (V.int (mkW aa r)):=by
 have ar:r.toNat<aa.length:=by lia
 refine A3 h0 ?_
 unfold mkW
 rw[jk_,jh_ ar];rfl
end L2
namespace GW
def Bfs.least {L:Int}{n:Nat}{ab:α1}{top:Int}{ents:List (Int×α2)}(h:Bfs L n ab ents ents.length top){ws:α2}(hv:isW L ws=true):∀i,i<=ws.length->∃w',(Az ab (ws.take i),w')∈ents/\place L w'<=place L (ws.take i)
 |0,_=>⟨[],by simpa [Az] using jd_ h.hd,by simp⟩
 |i+1,hi=>by
  obtain⟨w',m,hp⟩:=Bfs.least h hv i s!""
  have cH:ws[i]?=some ws[i]:=by simp
  have cc:=Aw.mp hv ws[i] (j0_ _)
  obtain⟨j,hj,ej⟩:=jN_ m
  obtain⟨e',me,e1,e2⟩:=h.don j hj _ (by rw[jh_ hj,ej]) ws[i] cc.1 cc.2
  obtain⟨g,v⟩:=e'
  have e1:g=Bi ab (Az ab (ws.take i)) ws[i]:=e1
  have e2:place L v<=place L (w'++[ws[i]]):=e2
  have et:ws.take (i+1)=ws.take i++[ws[i]]:=by rw[jR_,cH];rfl
  have hL:0<=L:=by lia
  refine⟨v,?_,?_⟩
  ·rw[et,BD,<-e1];exact me
  ·rw[et]
   rw[CD]at e2 ⊢
   have:=j1_ hp hL
   lia
end GW
namespace L2
open PySem PySem.Spec PyProof.Rows
def Vals.ofIx:∀{xs:List V} {us:List Value},us.length=xs.length->(∀(i:Nat) (v:Value),us[i]?=some v->∃x,xs[i]?=some x/\RelV x v)->Vals xs us
 |[],[],_,_=>.nil
 |[],_::_,h,_=>by simp at h
 |_::_,[],h,_=>by simp at h
 |x::xs,u::us,h,k=>by
  refine .cons ?_ (Vals.ofIx (by simpa using h) fun i v hv=>?_)
  ·obtain⟨y,e,r⟩:=k 0 u rfl
   cases e
   exact r
  ·obtain⟨y,e,r⟩:=k (i+1) v (by simpa using hv)
   exact⟨y,by simpa using e,r⟩
def Ph   (h:Lp k v=true):RelV (kV k) v:=by
 rcases Be h with ⟨i,t,rfl,e⟩|⟨x,t,rfl,e⟩
 ·exact⟨t,e⟩
 ·exact⟨t,e⟩
def Ir  (hc:X.calm=true):Cm X (.type "list") (fun xs H Q=>∃p kvs,xs=[.ref p]/\H p=some (.dK kvs)/\∀l,H l=none->Q (.ref l) (upd H l (.lst (kvs.map fun kv=>kV kv.1)))):=by
 intro ae s σ H xs us Q I r h
 obtain⟨p,kvs,rfl,hp,q⟩:=h
 obtain⟨u,rfl,rx⟩:=vals1 r
 cases rx
 obtain⟨hz,hS,vs,rr,m⟩:=Q2 I.hok hp
 obtain⟨ep,m8⟩:=m.dictAt
 have aj:=rr.length
 have oo:=rr.keys
 refine uL (xj (knd:=Bf X.prog X.w) (kvs:=vs) (ep:=ep) hS) (I.ok.hd hc) m8 s!"" fun h' tk eE c' hk hD aS=>?_
 have hv:Vals (kvs.map fun kv=>kV kv.1) eE.toList:=by
  refine Vals.ofIx (by rw[ja_,aj];simpa using aS.1) fun i v hv=>?_
  obtain⟨k,x,hx,cO⟩:=aS.2 i v (by simpa using hv)
  refine⟨kV k,?_,Ph cO⟩
  have e1:(kvs.map (·.1))[i]?=some k:=by rw[oo,jf_,hx];rfl
  rw[jf_]at e1 ⊢
  cases hq:kvs[i]? with
  |none=>rw[hq]at e1;cases e1
  |some kv=>rw[hq]at e1;cases e1;rfl
 exact⟨.ref _,_,I.laid (t':=tk) hk (ji_ _) (show Bk X.prog X.w _ h' _ (.lst (kvs.map fun kv=>kV kv.1)) from ⟨by rw[ja_];exact hz,eE.toList,c',hv,by simpa using hD⟩),rfl,q _ (I.hok.fresh (ji_ _))⟩
end L2
namespace L2
theorem r_in {K:α3}     : rIn K jX x y H Q=∃p xs,y=.ref p/\(SqL K H p xs\/SqT K H p xs)/\Ct x=true/\xs.all Ct=true/\Q (.bl (if jX then !inV x xs else inV x xs)) H:=rfl
def Hq (ns:α2):(ns.map V.int).all Ct=true:=by
 rw[qG_]
 intro x hx
 obtain⟨n,_,rfl⟩:=jv_.mp hx
 rfl
def MN (g:Int)(ns:α2):inV (.int g) (ns.map V.int)=decide (g∈ns):=by
 unfold inV
 rw[List.any_map,qy_,xU_,qs_]
 constructor
 ·rintro⟨n,hn,e⟩
  have e:decide (n=g)=true:=by simpa [eqV] using e
  rw[<-qB_ e];exact hn
 ·exact fun h=>⟨g,h,by simp[eqV]⟩
end L2
namespace L2
open PySem PySem.Spec PyProof.Rows
def rng (i j:Int):α2:=(rY (j-i).toNat).map fun k:Nat=>i+(k:Int)
end L2
namespace GW
open L2
def Hr:∀{l m:α2},l.Nodup->(∀x∈l,x∈m)->m.length<=l.length->l.Perm m
 |[],m,_,_,h=>by
  have:m=[]:=List.eq_nil_of_length_eq_zero (by simpa using h)
  subst this;exact .refl _
 |x::l,m,hn,h,hl=>by
  have hx:=h x jo_
  have gr:=qL_.mp hn
  have p:=Hr (l:=l) (m:=m.erase x) gr.2 (fun y hy=>(xj_ (fun (z:y=x)=>gr.1 (z ▸ hy))).mpr (h y (jm_ _ hy))) (by rw[qZ_ hx];simp at hl;lia)
  exact (p.cons x).trans (List.perm_cons_erase hx).symm
def Pi (n:Nat):(ups n).Nodup:=by
 unfold ups
 exact uA (R:=(· ≠ ·)) _ (fun a b b8 z=>b8 s!"") zL_
def Pj   : x∈ups n↔0<=x/\x<(n:Int):=by
 unfold ups
 rw[jv_]
 constructor
 ·rintro⟨r,hr,rfl⟩
  have:=jC_.mp hr
  lia
 ·exact fun h=>⟨x.toNat,jC_.mpr s!"",by lia⟩
def Pk (n:Nat):(ups n).length=n:=by simp[ups]
def C3 (n:Nat)(o:α2):Prop:=o.Perm (ups n)/\o[0]?=some 0
def C3.len   (h:C3 n o):o.length=n:=by rw[h.1.length_eq,Pk]
def C3.nod   (h:C3 n o):o.Nodup:=(h.1.nodup_iff).mpr (Pi n)
def C3.mem   (h:C3 n o)  : x∈o↔0<=x/\x<(n:Int):=by rw[h.1.mem_iff,Pj]
def ordW (o:α2)(r:Int):Int:=o.getD r.toNat 0
def TZ   (h0:0<=r)(h1:r<o.length):o[r.toNat]?=some (ordW o r):=by
 unfold ordW
 rw[jk_,jh_ s!""];rfl
def C3.at   (h:C3 n o)  (h0:0<=r)(h1:r<(n:Int)):o[r.toNat]?=some (ordW o r)/\0<=ordW o r/\ordW o r<(n:Int):=by
 have:=TZ (o:=o) h0 (by rw[h.len];exact h1)
 exact⟨this,h.mem.mp (jd_ this)⟩
def C3.inv   (h:C3 n o)  (h0:0<=x)(h1:x<(n:Int)):∃r:Nat,r<n/\o[r]?=some x:=by
 obtain⟨r,hr,e⟩:=jN_ (h.mem.mpr ⟨h0,h1⟩)
 exact⟨r,by rw[<-h.len];exact hr,by rw[jh_ hr,e]⟩
def Cw {α:Type}(o:α2)(f:Nat->α):Nat->List α->List α
 |0,d=>d
 |i+1,d=>(Cw o f i d).set (ordW o i).toNat (f i)
def CF {α:Type}(o:α2)(f:Nat->α):∀(i:Nat) (d:List α),(Cw o f i d).length=d.length
 |0,_=>rfl
 |i+1,d=>by rw[Cw,qU_,CF o f i d]
def C3.inj   (h:C3 n o)  (hr:r<n)(hq:q<n)(e:ordW o r=ordW o q):r=q:=by
 have a:=(h.at (r:=(r:Int)) s!"" s!"").1
 have b:=(h.at (r:=(q:Int)) s!"" s!"").1
 rw[jj_]at a b
 have bO:r<o.length:=by rw[h.len];exact hr
 have iE:q<o.length:=by rw[h.len];exact hq
 refine (xT_ (h₀:=bO) (h₁:=iE) h.nod).mp ?_
 rw[jh_ bO]at a
 rw[jh_ iE]at b
 rw[js_ a,js_ b,e]
def Hs {α:Type}{n:Nat}{o:α2}(h:C3 n o)(f:Nat->α):∀(i:Nat) (d:List α),i<=n->d.length=n->∀r:Nat,r<i->(Cw o f i d)[(ordW o r).toNat]?=some (f r)
 |0,_,_,_,r,hr=>absurd hr (qV_ _)
 |i+1,d,hi,hd,r,hr=>by
  have b:=(h.at (r:=(r:Int)) s!"" s!"").2
  have c:=(h.at (r:=(i:Int)) s!"" s!"").2
  rw[Cw]
  by_cases e:r=i
  ·subst e
   rw[qT_ (by rw[CF,hd];lia)]
  ·have ne:ordW o i≠ordW o r:=fun z=>e (h.inj s!"" s!"" z.symm)
   rw[xi_ s!""]
   exact Hs h f i d s!"" hd r s!""
def Pl (n:Nat)(o aa:α2):α2:=Cw o (fun r=>aa.getD r 0) n (rX n 0)
def Pm (n:Nat)(o:α2)(ab:α1):α1:=Cw o (fun r=>(ab.getD r []).map (ordW o)) n (rX n [])
end GW
namespace L2
open PySem PySem.Spec PyProof.Rows GW
def Cv.set {K:α3}      (h:Cv K H l ws)(hw:SqT K H t (w.map V.int)):∃xs,H l=some (.lst xs)/\xs.length=ws.length/\Cv K (upd H l (.lst (xs.set j (V.ref t)))) l (ws.set j w):=by
 obtain⟨ts,h1,h2,h3⟩:=h
 refine⟨_,h1,by simpa using h2,ts.set j t,by rw[Ab,uz],by simpa using h2,fun i t' w' a b=>?_⟩
 have key:∀{u:Addr} {v:α2},SqT K H u (v.map V.int)->SqT K (upd H l (.lst ((ts.map V.ref).set j (V.ref t)))) u (v.map V.int):=fun q=>Jw h1 q
 by_cases e:j=i
 ·subst e
  rw[qT_ (by have:=(jb_.mp a).1;simpa using this)]at a
  rw[qT_ (by have:=(jb_.mp b).1;simpa using this)]at b
  cases a;cases b
  exact key hw
 ·rw[xi_ e]at a b
  exact key (h3 i t' w' a b)
end L2
namespace L2
def Jz {α:Type}(x:α):∀n:Nat,(rX n [x]).flatten=rX n x
 |0=>rfl
 |n+1=>by rw[qo_,xK_,Jz x n,qo_];rfl
end L2
namespace L2
def MO {n:Nat}{x:Int}(h0:0<=x)(h1:x<(n:Int)):ixN n x=some x.toNat:=by
 unfold ixN
 simp only[h0,h1,and_self,xW_]
end L2
namespace GW
def C4 (n:Nat)(o aa:α2):(Pl n o aa).length=n:=by unfold Pl;rw[CF,qD_]
def KH (n:Nat)(o:α2)(ab:α1):(Pm n o ab).length=n:=by unfold Pm;rw[CF,qD_]
def Rg   (h:C3 n o)(aa:α2)  (hr:r<n):(Pl n o aa)[(ordW o r).toNat]?=some (aa.getD r 0):=Hs h _ n _ (ji_ _) (qD_) r hr
def Rh   (h:C3 n o)(ab:α1)  (hr:r<n):(Pm n o ab)[(ordW o r).toNat]?=some ((ab.getD r []).map (ordW o)):=Hs h _ n _ (ji_ _) (qD_) r hr
end GW
namespace GW
open L2
def C3.nat   (h:C3 n o)  (hj:j<n):∃r:Nat,r<n/\ordW o r=(j:Int):=by
 obtain⟨r,hr,er⟩:=h.inv (x:=(j:Int)) s!"" s!""
 have a:=(h.at (r:=(r:Int)) s!"" s!"").1
 rw[jj_,er]at a
 exact⟨r,hr,(js_ a).symm⟩
def Wf.getW    (wf:Wf L aa ab)  (hr:r<aa.length):ab[r]?=some (ab.getD r [])/\ab.getD r []∈ab:=by
 have ar:r<ab.length:=by rw[wf.len];exact hr
 have e:ab.getD r []=ab[r]:=by rw[jk_,jh_ ar];rfl
 rw[e]
 exact⟨jh_ ar,j0_ ar⟩
def Ri {L:Int}{aa:α2}{ab:α1}{o:α2}(wf:Wf L aa ab)(h:C3 aa.length o){j:Nat}{row:α2}(hj:(Pm aa.length o ab)[j]?=some row):∃r:Nat,r<aa.length/\ordW o r=(j:Int)/\row=(ab.getD r []).map (ordW o):=by
 have ar:=(jb_.mp hj).1
 rw[KH]at ar
 obtain⟨r,hr,er⟩:=h.nat ar
 have:=Rh h ab hr
 rw[er,jj_,hj]at this
 exact⟨r,hr,er,js_ this⟩
def T0     (wf:Wf L aa ab)(h:C3 aa.length o):Wf L (Pl aa.length o aa) (Pm aa.length o ab):=by
 refine⟨wf.l1,wf.l6,by rw[C4];exact wf.n1,by rw[C4];exact wf.n40,by rw[C4,KH],fun row hrow=>?_,fun m hm=>?_⟩
 ·rw[C4]
  obtain⟨j,hj,e⟩:=jN_ hrow
  obtain⟨r,hr,_,rfl⟩:=Ri wf h (j:=j) (row:=row) (by rw[jh_ hj,e])
  have hw:=wf.rows _ (wf.getW hr).2
  refine⟨by rw[ja_];exact hw.1,fun x hx=>?_⟩
  obtain⟨g,hg,rfl⟩:=jv_.mp hx
  have:=hw.2 g hg
  exact (h.at this.1 this.2).2
 ·obtain⟨j,hj,e⟩:=jN_ hm
  have ar:=hj
  rw[C4]at ar
  obtain⟨r,hr,er⟩:=h.nat ar
  have:=Rg h aa hr
  rw[er,jj_,jh_ hj,e]at this
  have:m=aa.getD r 0:=js_ this
  rw[this,jk_,jh_ hr]
  exact wf.mks _ (j0_ hr)
end GW
namespace PySem
open Sem (wp)
def Heap.DEnt (h:Heap)(d:Addr)(es:Array DictEntry)(ep:Nat):Prop:=∃o,h.get? d=some o/\o.ExactDict/\o.data=.dict es ep
section
variable {prog:Program} {w:World} {A:Around} {E:Value->Shared->Prop} {s:Shared} {d it:Addr} {es:Array DictEntry} {i ep:Nat}
def Heap.DEnt.typeIs (h:s.heap.DEnt d es ep):s.TypeIs (.ref d) "dict" := let ⟨o,ho,hc,_⟩:=h;⟨o,ho,hc.1⟩
def Heap.DEnt.at {h h':Heap}(x:h.DEnt d es ep)(e:∀o,h.get? d=some o->h'.get? d=some o):h'.DEnt d es ep:=let ⟨o,ho,r⟩:=x;⟨o,e _ ho,r⟩
def Heap.DEnt.lt_size {h:Heap}(x:h.DEnt d es ep):d<h.objs.size:=let ⟨_,ho,_⟩:=x;jt_ ho
def LE  (hd:(d==sysModules)=false)(hm:s.heap.DEnt d es ep)
  (hQ:Q (.ref s.heap.objs.size) {s with heap:=s.heap.push {cls:=.type "dict_keyiterator",data:=.fields #[.ref d,.int 0 0,.int es.size 0,.int ep 0]} }):wpAny (model prog w) A (pyIter (.ref d)) Q E s:=by
 have hT:=hm.typeIs
 obtain⟨o,ho,hc,i3⟩:=id hm
 refine wpAny_pyIter_slot hT F.slot_dict_iter (qF_ F.slot_dict_iter hT F.entry_dict_iter (?_:wpAny _ _ (Builtin.«dict.__iter__» _) _ _ s) (F.args_dict_iter_1 _))
 unfold Builtin.«dict.__iter__»;refine wpAny_bind ?_
 unfold Builtin.Dict.dictSlotNone;refine wpAny_bind (wpAny_notOrdered_dict hT ?_)
 show wpAny _ _ (pure (Value.ref d)) _ _ s;refine jn_ ?_
 show wpAny _ _ (Builtin.Dict.showsAll d >>= _) _ _ s;unfold Builtin.Dict.showsAll
 rw[if_neg (fun z=>by rw[hd]at z;cases z)]
 refine jc_ (jn_ (jc_ (zE_ ho i3 (jc_ (wpAny_dictEpoch ho i3 ?_)))))
 refine jc_ (qr_ (jn_ ⟨_,rfl,"dict_keyiterator",_,⟨_,jz_ _ rfl,rfl⟩,q1_.lookup,?_⟩));simpa [rawInt] using hQ
def GF  (aQ:s.heap.IsKeyIter it d i es.size ep)(hm:s.heap.DEnt d es ep)(ar:i<es.size)
  (hQ:∀h',h'.IsKeyIter it d (i+1) es.size ep->Heap.SameBut it s.heap h'->Q (some es[i].key) {s with heap:=h' }):wpAny (model prog w) A (pyNext (.ref it)) Q E s:=by
 obtain⟨o,ho,hc,hd⟩:=id aQ
 obtain⟨od,m9,ck,nc⟩:=id hm
 have j8:Builtin.Dict_items.ownsTuple "dict_keyiterator"=false:=by decide
 unfold pyNext
 refine jc_ (xl_ (j5_ (name:=Str.ofString "__next__") aQ.typeIs q1_ (qF_ q1_ aQ.typeIs F.entry_dict_keyiterator_next ?_ (F.args_dict_keyiterator_next_1 _))))
 refine jc_ (jn_ (jc_ (jc_ ?_)))
 first|refine jc_ (xg_ aQ.typeIs (jn_ (jc_ (wpAny_fieldsOf ho hd ?_))))|refine jc_ (xM_ aQ.typeIs (jn_ (jc_ (wpAny_fieldsOf ho hd ?_))))
 simp only[j8,jT_,qX_];show wpAny _ _ (if (Value.ref d==Value.none)=true then _ else _) _ _ s
 rw[if_neg (show ¬ ((Value.ref d==Value.none)=true) from fun z=>ju_ z)]
 refine jc_ (jn_ (jc_ (zE_ m9 nc ?_)))
 rw[if_neg (by simp)];refine jc_ (jn_ (jc_ (wpAny_dictEpoch m9 nc ?_)))
 rw[if_neg (by simp)];refine jn_ ?_
 simp only[show ¬ ((i:Int)<0) from by lia,qX_,jj_,qH_ ar];refine jc_ ?_
 first|refine jc_ (xg_ aQ.typeIs (jn_ (jc_ (zH_ aQ.typeIs ?_))))|refine jc_ (xM_ aQ.typeIs (jn_ (jc_ (zH_ aQ.typeIs ?_))))
 show wpAny _ _ (setField (.ref it) 1 (rawInt ((i:Int)+1)) >>= _) _ _ s;refine jc_ (zc_ ho hd (by simp) ?_)
 have dQ:(s.heap.update it (Obj.mapFields (·.setIfInBounds 1 (rawInt ((i:Int)+1))))).IsKeyIter it d (i+1) es.size ep:=⟨_,qM_ _ ho (zG_ (xy_ hd _)),(Obj.cls_mapFields ..).trans hc,by rw[xy_ hd];simp[rawInt]⟩
 refine jc_ (qK_ (jc_ (zH_ (s:={s with heap:=s.heap.update it (Obj.mapFields (·.setIfInBounds 1 (rawInt ((i:Int)+1))))}) dQ.typeIs ?_)))
 show wpAny _ _ (pure es[i].key) _ _ _;exact jn_ (jn_ ⟨_,rfl,jn_ (hQ _ dQ (xq_ ..))⟩)
def Ht  (hh:A.handled=none)(aQ:s.heap.IsKeyIter it d i es.size ep)(hm:s.heap.DEnt d es ep)(bF:es.size<=i)
  (hQ:∀h',Heap.ExtBut it s.heap h'->Q none {s with heap:=h' }):wpAny (model prog w) A (pyNext (.ref it)) Q E s:=by
 obtain⟨o,ho,hc,hd⟩:=id aQ
 obtain⟨od,m9,ck,nc⟩:=id hm
 have j8:Builtin.Dict_items.ownsTuple "dict_keyiterator"=false:=by decide
 unfold pyNext
 refine jc_ (xl_ (j5_ (name:=Str.ofString "__next__") aQ.typeIs q1_ (qF_ q1_ aQ.typeIs F.entry_dict_keyiterator_next ?_ (F.args_dict_keyiterator_next_1 _))))
 refine jc_ (jn_ (jc_ (jc_ ?_)))
 first|refine jc_ (xg_ aQ.typeIs (jn_ (jc_ (wpAny_fieldsOf ho hd ?_))))|refine jc_ (xM_ aQ.typeIs (jn_ (jc_ (wpAny_fieldsOf ho hd ?_))))
 simp only[j8,jT_,qX_];show wpAny _ _ (if (Value.ref d==Value.none)=true then _ else _) _ _ s
 rw[if_neg (show ¬ ((Value.ref d==Value.none)=true) from fun z=>ju_ z)]
 refine jc_ (jn_ (jc_ (zE_ m9 nc ?_)))
 rw[if_neg (by simp)];refine jc_ (jn_ (jc_ (wpAny_dictEpoch m9 nc ?_)))
 rw[if_neg (by simp)];refine jn_ ?_
 simp only[show ¬ ((i:Int)<0) from by lia,qX_,jj_,tK bF];refine jc_ ?_
 first|refine jc_ (xg_ aQ.typeIs (jn_ ?_))|refine jc_ (xM_ aQ.typeIs (jn_ ?_))
 show wpAny _ _ (setField (.ref it) 0 .none >>= _) _ _ s;refine jc_ (zc_ ho hd (by simp) ?_)
 show wpAny _ _ (newExc (.type "StopIteration") [] >>= _) _ _ _;refine jc_ ?_
 simp only[newExc,newTuple];refine jc_ (qr_ ?_ (by size_fits))
 refine jc_ (m:=firstArgMember _ _) (wpAny_of_eq (a:=Value.none) (by first|rfl|(simp only[firstArgMember];rfl)) (qr_ ?_ (by size_fits)))
 simp only[raiseNew];refine jc_ (wpAny_handled ?_)
 rw[show A.in1.handled=none from hh];refine jc_ (jn_ (wpAny_throw ?_))
 refine jc_ (wpAny_isInstance (T := "StopIteration") (b:=true) ⟨_,jz_ _ rfl,rfl⟩ isSubtype_stop (jn_ (hQ _ (((xq_ ..).extBut.push _).push _))))
def Walks.dent (hh:A.handled=none)(I:Addr)(ay:d≠I):Walks prog w A I [I,d] [I] es.size (fun i v=>∃e,es[i]?=some e/\v=e.key) (fun i h=>h.IsKeyIter I d i es.size ep/\h.DEnt d es ep) where
 sub:=fun b hb=>by simp at hb;simp[hb]
 frame:=fun _ _ _ st hk=>⟨st.1.at fun o e=>hk I (by simp) o e,st.2.at fun o e=>hk d (by simp) o e⟩
 item:=fun i s Q E hi st hQ=>by
  refine GF st.1 st.2 hi fun h' dQ bK=>?_
  exact hQ _ h' s.toks ⟨es[i],by simp[hi],rfl⟩ ⟨dQ,st.2.at fun o e=>bK.extBut d o ay e⟩ fun b o hb e=>bK.extBut b o (fun z=>hb (by simp[z])) e
 done:=fun s Q E st hQ=>Ht hh st.1 st.2 (ji_ _) fun h' eA=>hQ h' s.toks fun b o hb e=>eA b o (fun z=>hb (by simp[z])) e
 self:=fun _ _ _ _ st hQ=>wpAny_pyIter_keyiter st.1 hQ
def Rj (lo:(d==sysModules)=false):xy prog w "dict" d d es.size (fun i v=>∃e,es[i]?=some e/\v=e.key) (fun h=>h.DEnt d es ep) where
 type:=fun _ hm=>hm.typeIs
 there:=fun _ hm=>⟨hm.lt_size,hm.lt_size⟩
 keep:=fun _ _ hm hk=>hm.at fun o e=>hk d (.inl rfl) o e
 notList:=by decide
 notTuple:=by decide
 hint:=fun _ _ _ _ hm hq=>wq hm.typeIs hq
 iter:=fun _ _ hh hm=>⟨_,_,(fun _ _ hq=>LE lo hm hq),Walks.dent hh _ (jO_ hm.lt_size),⟨⟨_,jz_ _ rfl,rfl,rfl⟩,hm.at fun o e=>jg_ _ e⟩⟩
end
end PySem
namespace L2
open PySem PySem.Spec PyProof.Rows
def IM {α β:Type}{F:α->β->Prop}:∀{l:List α} {m:List β} {i:Nat} {a:α},Paired F l m->l[i]?=some a->∃b,m[i]?=some b/\F a b
 |_,_,_,_,.nil,e=>by simp at e
 |_,_,0,_,.cons r _,e=>by simp at e;subst e;exact⟨_,rfl,r⟩
 |_,_,i+1,a,.cons _ t,e=>by
  obtain⟨b,h1,h2⟩:=IM (i:=i) (a:=a) t (by simpa using e)
  exact⟨b,by simpa using h1,h2⟩
def T1       (ok:HOk P w H h)(e:Rd H a (.dT kvs)):
  ∃o es ep,h.get? a=some o/\o.ExactDict/\o.data=.dict es ep/\es.size=kvs.length/\(a==sysModules)=false/\kvs.length<=sizeLine /\
   ∀(i:Nat) (k:List Key) (v:V),kvs[i]?=some (k,v)->∃b en,es[i]?=some en/\en.key=.ref b/\H b=some (.tup (k.map kV)):=by
 obtain⟨z,y,xs,r,o,es,ep,h1,h2,h3,h4,h5⟩:=(show Bk P w H h a (.dT kvs) from TF ok e)
 have hl:=Paired.length r
 have hs:es.size=kvs.length:=by rw[<-j3_,h4,ja_,hl]
 refine⟨o,es,ep,h1,h2,h3,hs,y,z,fun i k v hk=>?_⟩
 obtain⟨q,hq,e1,e2,_⟩:=IM r hk
 refine⟨q.2.1,entryOfKey (tupleKind (Bf P w)) q,?_,rfl,e2⟩
 rw[<-xz_,h4,jf_,hq];rfl
def Hu  (hc:X.calm=true):Cm X (.type "list") (fun xs H Q=>∃p kvs,xs=[.ref p]/\Rd H p (.dT kvs)/\∀l rs,H l=none->rs.length=kvs.length ->
  (∀(i:Nat) (k:List Key) (v:V),kvs[i]?=some (k,v)->∃b,rs[i]?=some (V.ref b)/\H b=some (.tup (k.map kV)))->Q (.ref l) (upd H l (.lst rs))):=by
 intro ae s σ H xs us Q I r h
 obtain⟨p,kvs,rfl,hp,q⟩:=h
 obtain⟨u,rfl,rx⟩:=vals1 r
 cases rx
 obtain⟨o,es,ep,g1,g2,g3,g4,g5,g6,g7⟩:=T1 I.hok hp
 refine uL (Rj (es:=es) (ep:=ep) g5) (I.ok.hd hc) ⟨o,g1,g2,g3⟩ s!"" fun h' tk eE c' hk hD aS=>?_
 let f:DictEntry->V:=fun e=>match e.key with | .ref b=>V.ref b|_=>.non
 have m8:∀(i:Nat) (k:List Key) (v:V),kvs[i]?=some (k,v)->∃b,(es.toList.map f)[i]?=some (V.ref b)/\H b=some (.tup (k.map kV)):=fun i k v gM=>by
  obtain⟨b,en,e1,e2,e3⟩:=g7 i k v gM
  refine⟨b,?_,e3⟩
  rw[jf_,xz_,e1]
  show some (f en)=_
  simp only[f,e2]
 have aj:(es.toList.map f).length=kvs.length:=by rw[ja_,j3_,g4]
 have hv:Vals (es.toList.map f) eE.toList:=by
  refine Vals.ofIx (by rw[aj,<-g4];simpa using aS.1) fun i v hv=>?_
  obtain⟨e,he,rfl⟩:=aS.2 i v (by simpa using hv)
  have hi:i<kvs.length:=by rw[<-g4];exact (Array.getElem?_eq_some_iff.mp he).1
  obtain⟨b,en,e1,e2,e3⟩:=g7 i kvs[i].1 kvs[i].2 (by simp[hi])
  rw[he]at e1
  cases e1
  refine⟨V.ref b,?_,by rw[e2];rfl⟩
  rw[jf_,xz_,he]
  show some (f e)=_
  simp only[f,e2]
 exact⟨.ref _,_,I.laid (t':=tk) hk (ji_ _) (show Bk X.prog X.w _ h' _ (.lst (es.toList.map f)) from ⟨by rw[aj];exact g6,eE.toList,c',hv,by simpa using hD⟩),rfl,q _ _ (I.hok.fresh (ji_ _)) aj m8⟩
def LF (tk tv:TE):TE:=fun σ H Q=>∀p,H p=none->tk σ (upd H p (.dT [])) fun x H1=>tv σ H1 fun y H2=>H2 p=some (.dT [])/\∃b k,x=.ref b/\H2 b=some (.tup (k.map kV))/\Q (.ref p) (upd H2 p (.dT [(k,y)]))
theorem MQ     : LF tk tv σ H Q=∀p,H p=none->tk σ (upd H p (.dT [])) fun x H1=>tv σ H1 fun y H2=>H2 p=some (.dT [])/\∃b k,x=.ref b/\H2 b=some (.tup (k.map kV))/\Q (.ref p) (upd H2 p (.dT [(k,y)])):=rfl
def Po     (hu:X.A.units+1<cLine)(hk:PE X k tk)(hv:PE X v tv):PE X (.Dict [some k] [v] pos) (LF tk tv):=by
 intro ae s σ H Q I q
 have hn:=I.hok.fresh (ji_ s.heap.objs.size)
 have I1:=I.laid (a:=s.heap.objs.size) (o:=.dT []) (h':=s.heap.push {cls:=.type "dict",data:=.dict #[]}) (t':=s.toks) (fun _ _ q=>jg_ _ q) (ji_ _) (Mw s.heap I.big)
 refine wpAny_Dict_any rfl rfl (by intro z;cases z) (by show 1<=15;decide) (pairTrees_cons_walk (thn (hk ae _ σ _ _ I1 (q _ hn)) fun u s1 ⟨x,H1,J1,rx,q1⟩=>thn (hv ae s1 σ H1 _ J1 q1) fun w2 s2 ⟨y,H2,J2,ry,q2⟩=>pairTrees_nil_walk ?_))
 obtain⟨e,b,ks,rfl,hb,q3⟩:=q2
 obtain rfl:u=Value.ref b:=rx
 obtain⟨z,hd,xs,bu,dd⟩:=TH J2.hok e
 cases bu
 unfold storeAll
 rw[xZ_]
 refine jc_ (jc_ (wpAny_dictSet_heap (hsz:=by simp) (show (tupleKind (Bf X.prog X.w)).room X.A from (show X.A.units<cLine by lia)) (II J2.hok hb) dd fun h' gh hs=>jn_ ?_))
 show wpAny _ _ (forIn [] PUnit.unit _) _ _ _
 rw[zd_]
 refine jn_ ⟨.ref s.heap.objs.size,_,?_,rfl,q3⟩
 obtain⟨qo,es,ep,hq,h2,h3,h4,_,h5⟩:=gh
 have hl:([(ks,y)]:List (List Key×V)).length<=sizeLine:=by rw[zW_];simp
 refine Hj J2 (by rw[e];exact rZ) hs ⟨qo,hq⟩ ⟨hl,hd,_,KT.keeps (.cons ⟨rfl,hb,ry⟩ .nil) fun c ys ec=>?_,qo,es,ep,hq,h2,h3,h4,h5⟩
 rw[Ah (Tn ec e (fun z=>nomatch z))]
 exact ec
def Rk {X:Cx}{i:Nat}{x:Str}{k v:Expr}{tk tv:TE}{pos bT gL:Pos}(hu:X.A.units+1<cLine)(hN:X.N.Nodup)(hi:X.N[i]?=some x)(hx:Loc X.env.scope x)(hk:PE X k tk)(hv:PE X v tv)(hs:swapsWith (.Dict [some k] [v] gL) (some (.Name x bT)) pos.line X.env=pure false)
  (hf:X.fn x=true\/X.env.scope.names.lookup x=some .local):PS X (.Assign [.Name x bT] (.Dict [some k] [v] gL) pos) (tAsg (LF tk tv) (Fn i)):=Ba hN hi hx (Po hu hk hv) hs hf
end L2
namespace GB
open GW
variable {α:Type} [DecidableEq α]
def F1 (step:α->Int->α)(a:α)(ws:α2):α:=ws.foldl step a
def IN (step:α->Int->α)(a:α)(ws:α2)(x:Int):F1 step a (ws++[x])=step (F1 step a ws) x:=by
 unfold F1
 rw[qA_];rfl
def NB (step:α->Int->α)(a:α)(ws:α2)(x:Int):F1 step a (x::ws)=F1 step (step a x) ws:=rfl
def put (step:α->Int->α)(r:α)(w:α2)(ents:List (α×α2))(x:Nat):List (α×α2):=if step r x∈ents.map (·.1) then ents else ents++[(step r x,w++[(x:Int)])]
def addF (step:α->Int->α)(r:α)(w:α2):Nat->Nat->List (α×α2)->List (α×α2)
 |0,_,ents=>ents
 |m+1,x,ents=>addF step r w m (x+1) (put step r w ents x)
def bfsF (step:α->Int->α)(m:Nat):Nat->List (α×α2)->Nat->List (α×α2)
 |0,ents,_=>ents
 |f+1,ents,i=>match ents[i]? with
  |none=>ents
  |some e=>bfsF step m f (addF step e.1 e.2 m 0 ents) (i+1)
def Pp {step:α->Int->α}{m:Nat}{ents:List (α×α2)}{i:Nat}(h:ents[i]?=none):∀f,bfsF step m f ents i=ents
 |0=>rfl
 |f+1=>by rw[bfsF,h]
def Pq {step:α->Int->α}  {ents:List (α×α2)}   (h:ents[i]?=some e)(f:Nat):bfsF step m (f+1) ents i=bfsF step m f (addF step e.1 e.2 m 0 ents) (i+1):=by rw[bfsF,h]
def Ps (step:α->Int->α)(r:α)(w:α2)(x:Nat)(ents:List (α×α2)):addF step r w 0 x ents=ents:=rfl
def Pt (step:α->Int->α)(r:α)(w:α2)(m x:Nat)(ents:List (α×α2)):addF step r w (m+1) x ents=addF step r w m (x+1) (put step r w ents x):=rfl
structure B (L:Int)(step:α->Int->α)(st:α)(ok:α->Prop)(ents:List (α×α2))(i:Nat)(top:Int):Prop where
 hd:ents[0]?=some (st,[])
 il:i<=ents.length
 sh:∀(j:Nat) (e:α×α2),ents[j]?=some e->e.2.length<=j
 nod:(ents.map (·.1)).Nodup
 rng:∀e∈ents,ok e.1
 wd:∀e∈ents,isW L e.2=true/\F1 step st e.2=e.1
 inc:∀(j k:Nat) (a b:α×α2),j<k->ents[j]?=some a->ents[k]?=some b->place L a.2<place L b.2
 bnd:∀e∈ents,place L e.2<top
 don:∀j,j<i->∀e,ents[j]?=some e->∀x:Int,0<=x->x<L->∃e'∈ents,e'.1=step e.1 x/\place L e'.2<=place L (e.2++[x])
variable {L:Int} {step:α->Int->α} {st:α} {ok:α->Prop} {ents:List (α×α2)} {i:Nat} {top:Int}
def B.start (L:Int)(step:α->Int->α){st:α}  (h:ok st):B L step st ok [(st,[])] 0 1:=by
 refine⟨rfl,by simp,(fun j e he=>by cases j with|zero=>(simp at he;subst he;simp)|succ j=>simp at he),by simp,fun e he=>?_,fun e he=>?_,fun j k a b h h1 h2=>?_,fun e he=>?_,fun j hj=>absurd hj (qV_ _)⟩
 ·simp at he;subst he;exact h
 ·simp at he;subst he;exact⟨rfl,rfl⟩
 ·have:=(jb_.mp h2).1;simp at this;lia
 ·simp at he;subst he;simp[place,AQ]
def B.up  (h:B L step st ok ents i top)(ht:top<=eB):B L step st ok ents i eB :=
 ⟨h.hd,h.il,h.sh,h.nod,h.rng,h.wd,h.inc,fun e he=>z8_ (h.bnd e he) ht,h.don⟩
def B.add (h:B L step st ok ents i top)    (hw:(r,w)∈ents)(hx:0<=x/\x<L)(ht:top<=place L w*L+x+1)
  (b7:ok (step r x)) (dN:step r x∉ents.map (·.1)):B L step st ok (ents++[(step r x,w++[x])]) i (place L w*L+x+2):=by
 obtain⟨v1,v2⟩:=h.wd _ hw
 have hp:=CD L w x
 have aj:0<ents.length:=by have:=(jb_.mp h.hd).1;lia
 refine⟨?_,by have:=h.il;simp;lia,fun j e he=>?_,?_,fun e he=>?_,fun e he=>?_,fun j k a b iG h1 h2=>?_,fun e he=>?_,fun j hj e he y gJ fL=>?_⟩
 ·rw[je_ aj];exact h.hd
 ·have hj:=(jb_.mp he).1
  rw[jl_,jP_]at hj
  by_cases cN:j<ents.length
  ·rw[je_ cN]at he
   exact h.sh j e he
  ·have e1:j=ents.length:=by lia
   subst e1
   rw[jp_ (ji_ _),qg_]at he
   simp at he
   subst he
   obtain⟨j',cn,ej⟩:=jN_ hw
   have:=h.sh j' (r,w) (by rw[jh_ cn,ej])
   have this':w.length<=j':=this
   show (w++[x]).length<=ents.length
   simp;lia
 ·rw[jS_,x6_]
  refine⟨h.nod,by simp,fun a ha b hb=>?_⟩
  simp at hb
  subst hb
  exact fun z=>dN (z ▸ ha)
 ·rcases jw_.mp he with he|he
  ·exact h.rng e he
  ·rw[jr_.mp he];exact b7
 ·rcases jw_.mp he with he|he
  ·exact h.wd e he
  ·rw[jr_.mp he]
   refine⟨?_,?_⟩
   ·rw[Aw]at v1 ⊢
    intro z hz
    rcases jw_.mp hz with hz|hz
    ·exact v1 z hz
    ·rw[jr_.mp hz];exact hx
   ·show F1 step st (w++[x])=step r x
    rw[IN]
    have qb:F1 step st w=r:=v2
    rw[qb]
 ·have hk:=(jb_.mp h2).1
  rw[jl_,jP_]at hk
  by_cases gK:k<ents.length
  ·rw[je_ gK]at h2
   rw[je_ s!""]at h1
   exact h.inc j k a b iG h1 h2
  ·have qc:k=ents.length:=by lia
   subst qc
   rw[je_ s!""]at h1
   rw[jp_ (ji_ _),qg_]at h2
   simp at h2
   subst h2
   have:=h.bnd a (jd_ h1)
   show place L a.2<place L (w++[x])
   rw[hp];lia
 ·rcases jw_.mp he with he|he
  ·have:=h.bnd e he;lia
  ·rw[jr_.mp he]
   show place L (w++[x])<_
   rw[hp];lia
 ·have cN:j<ents.length\/j=ents.length:=by
   have:=(jb_.mp he).1
   rw[jl_,jP_]at this
   lia
  rcases cN with cN|cN
  ·rw[je_ cN]at he
   obtain⟨e',m,q⟩:=h.don j hj e he y gJ fL
   exact⟨e',j6_ _ m,q⟩
  ·exact absurd cN (by have:=h.il;lia)
def Rl (L:Int)(step:α->Int->α)(ents:List (α×α2))(r:α)(w:α2)(x:Nat):Prop:=∀y:Int,0<=y->y<x->∃e'∈ents,e'.1=step r y/\place L e'.2<=place L (w++[y])
def B.letter {x:Nat}{w:α2}{r:α}(h:B L step st ok ents i (place L w*L+x+1))(hs:Rl L step ents r w x)(hw:(r,w)∈ents)(hx:(x:Int)<L)
  (b7:ok (step r x)):B L step st ok (put step r w ents x) i (place L w*L+((x+1:Nat):Int)+1)/\Rl L step (put step r w ents x) r w (x+1):=by
 unfold put
 by_cases hm:step r x∈ents.map (·.1)
 ·rw[if_pos hm]
  refine⟨h.up (by push_cast;lia),fun y gJ fL=>?_⟩
  by_cases iU:y<x
  ·exact hs y gJ iU
  ·have e:y=x:=by push_cast at fL;lia
   subst e
   obtain⟨e',eA,e1⟩:=jv_.mp hm
   refine⟨e',eA,e1,?_⟩
   have:=h.bnd e' eA
   rw[CD];lia
 ·rw[if_neg hm]
  refine⟨(h.add hw ⟨by lia,hx⟩ (x0_ _) b7 hm).up (by push_cast;lia),fun y gJ fL=>?_⟩
  by_cases iU:y<x
  ·obtain⟨e',m,q⟩:=hs y gJ iU
   exact⟨e',j6_ _ m,q⟩
  ·have e:y=x:=by push_cast at fL;lia
   subst e
   exact⟨_,jy_ _ jo_,rfl,x0_ _⟩
def B.next (hL:0<L){m:Nat}{w:α2}{r:α}(h:B L step st ok ents i (place L w*L+m+1))(hm:(m:Int)=L)(hs:Rl L step ents r w m)(hw:ents[i]?=some (r,w)):
  B L step st ok ents (i+1) (place L w*L+L+1)/\∀e,ents[i+1]?=some e->place L w*L+L+1<=place L e.2*L+1:=by
 have hi:=(jb_.mp hw).1
 rw[hm]at h
 refine⟨⟨h.hd,hi,h.sh,h.nod,h.rng,h.wd,h.inc,h.bnd,fun j hj e he x h0 h1=>?_⟩,fun e he=>?_⟩
 ·by_cases iZ:j<i
  ·exact h.don j iZ e he x h0 h1
  ·have e1:j=i:=by lia
   subst e1
   rw[hw]at he
   cases he
   exact hs x h0 s!""
 ·have:=h.inc i (i+1) _ _ (zg_ _) hw he
  have h2:=j1_ (show place L w+1<=place L e.2 from this) (xx_ hL)
  rw[zY_]at h2
  lia
def Rm {r:α}{w:α2}{x j:Nat}{e:α×α2}(h:ents[j]?=some e):(put step r w ents x)[j]?=some e:=by
 unfold put
 split
 ·exact h
 ·rw[je_ (jb_.mp h).1];exact h
def B.least (h:B L step st ok ents ents.length top){ws:α2}(hv:isW L ws=true):∀i,i<=ws.length->∃w',(F1 step st (ws.take i),w')∈ents/\place L w'<=place L (ws.take i)
 |0,_=>⟨[],by simpa [F1] using jd_ h.hd,by simp⟩
 |i+1,hi=>by
  obtain⟨w',m,hp⟩:=B.least h hv i s!""
  have cH:ws[i]?=some ws[i]:=by simp
  have cc:=Aw.mp hv ws[i] (j0_ _)
  obtain⟨j,hj,ej⟩:=jN_ m
  obtain⟨e',me,e1,e2⟩:=h.don j hj _ (by rw[jh_ hj,ej]) ws[i] cc.1 cc.2
  obtain⟨g,v⟩:=e'
  have e1:g=step (F1 step st (ws.take i)) ws[i]:=e1
  have e2:place L v<=place L (w'++[ws[i]]):=e2
  have et:ws.take (i+1)=ws.take i++[ws[i]]:=by rw[jR_,cH];rfl
  have hL:0<=L:=by lia
  refine⟨v,?_,?_⟩
  ·rw[et,IN,<-e1];exact me
  ·rw[et]
   rw[CD]at e2 ⊢
   have:=j1_ hp hL
   lia
def B.leastW (h:B L step st ok ents ents.length top)  (hv:isW L ws=true):∃w',(F1 step st ws,w')∈ents/\place L w'<=place L ws:=by
 have:=h.least hv ws.length (ji_ _)
 rwa [jQ_]at this
def Fc (w1 w2:α1)(p:Int×Int)(x:Int):Int×Int:=(Bi w1 p.1 x,Bi w2 p.2 x)
def okP (n m:Nat)(p:Int×Int):Prop:=(0<=p.1/\p.1<(n:Int))/\(0<=p.2/\p.2<(m:Int))
def Bq (ab:α1)(r:Int)(ws:α2):Int:=ws.foldl (Bi ab) r
def BE (ab:α1)(ws:α2):Bq ab 0 ws=Az ab ws:=rfl
def AY (ab:α1)(r x:Int)(ws:α2):Bq ab r (x::ws)=Bq ab (Bi ab r x) ws:=rfl
def NC (ab:α1)(r x:Int)(ws:α2):Bq ab r (ws++[x])=Bi ab (Bq ab r ws) x:=by
 unfold Bq
 rw[qA_];rfl
def ND {ab:α1}{ws:α2}{i:Nat}{x r:Int}(h:ws[i]?=some x):Bq ab r (ws.take (i+1))=Bi ab (Bq ab r (ws.take i)) x:=by
 rw[jR_,h]
 exact NC _ _ _ _
def T2 (w1 w2:α1):∀(ws:α2) (p:Int×Int),F1 (Fc w1 w2) p ws=(Bq w1 p.1 ws,Bq w2 p.2 ws)
 |[],p=>rfl
 |x::ws,p=>by rw[NB,T2 w1 w2 ws,AY,AY];rfl
def JA {L:Int}{aa:α2}{ab:α1}(wf:Wf L aa ab):∀(ws:α2) {r:Int},isW L ws=true->0<=r->r<aa.length->0<=Bq ab r ws/\Bq ab r ws<aa.length
 |[],r,_,h0,h1=>⟨h0,h1⟩
 |x::ws,r,hv,h0,h1=>by
  have hx:=Aw.mp hv x jo_
  obtain⟨_,g,_,_,h,g0,g1⟩:=wf.step h0 h1 hx.1 hx.2
  rw[AY,h]
  exact JA wf ws (Aw.mpr fun y hy=>Aw.mp hv y (jm_ _ hy)) g0 g1
def Ro (n m:Nat){l:List (Int×Int)}(hn:l.Nodup)(h:∀p∈l,okP n m p):l.length<=n*m:=by
 have hk:∀p∈l.map (fun p:Int×Int=>p.1*m+p.2),0<=p/\p<((n*m:Nat):Int):=fun q hq=>by
  obtain⟨p,hp,rfl⟩:=jv_.mp hq
  obtain⟨⟨a0,a1⟩,b0,b1⟩:=h p hp
  have h1:=zb_ a0 (show (0:Int)<=m by lia)
  have h2:=j1_ (show p.1<=(n:Int)-1 by lia) (show (0:Int)<=m by lia)
  rw[Int.sub_mul]at h2
  push_cast
  exact⟨by show 0<=p.1*m+p.2;lia,by show p.1*m+p.2<_;lia⟩
 have hd:(l.map (fun p:Int×Int=>p.1*m+p.2)).Nodup:=by
  refine xn_.mpr (zm_ (fun {a b} ha hb b8 z=>b8 ?_) hn)
  obtain⟨⟨a0,a1⟩,b0,b1⟩:=h a ha
  obtain⟨⟨c0,c1⟩,d0,d1⟩:=h b hb
  have z:a.1*m+a.2=b.1*m+b.2:=z
  have e1:a.1=b.1:=by
   have q1:(a.1*m+a.2) / m=a.1:=by rw[v8,tL _ _ s!"",tM b0 b1];lia
   have q2:(b.1*m+b.2) / m=b.1:=by rw[v8,tL _ _ s!"",tM d0 d1];lia
   rw[<-q1,<-q2,z]
  rw[e1]at z
  exact wl_ e1 s!""
 have:=Fr (n*m) hd hk
 simpa using this
def B.lenP   {st:Int×Int}{ents:List ((Int×Int)×α2)}   (h:B L (Fc w1 w2) st (okP n m) ents i top):ents.length<=n*m:=by
 have:=Ro n m h.nod (fun p hp=>by
  obtain⟨e,he,rfl⟩:=jv_.mp hp
  exact h.rng e he)
 simpa using this
end GB
namespace L2
open PySem PySem.Spec PyProof.Rows GW GB
def TK (H H':Hp):Prop:=∀b xs,H b=some (.tup xs)->H' b=some (.tup xs)
def TK.refl (H:Hp):TK H H:=fun _ _ h=>h
def TK.of  (s:Same H H'):TK H H':=fun b xs h=>s b _ h
def TK.trans  (a:TK H H')(b:TK H' i4):TK H i4:=fun c xs h=>b c xs (a c xs h)
def TK.new    (h:H p=none):TK H (upd H p o):=TK.of (Same.new h)
def TK.lst {H:Hp}{p:Addr}{o:HO}{xs:List V}(h:H p=some (.lst xs)):TK H (upd H p o):=fun b ys e=>by rw[Ah (fun z=>by rw[z,h]at e;cases e)];exact e
def TK.dT {H:Hp}{p:Addr}{o:HO}{kvs:List (List Key×V)}(h:H p=some (.dT kvs)):TK H (upd H p o):=fun b ys e=>by rw[Ah (fun z=>by rw[z,h]at e;cases e)];exact e
def keyP (p:Int×Int):List Key:=[r6 p.1,r6 p.2]
def Rp  (h:keyP p=keyP q):p=q:=by
 unfold keyP at h
 injection h with h1 h2
 injection h2 with h2 _
 injection h1 with h1
 injection h2 with h2
 exact wl_ h1 h2
def T3 {κ:Type}[DecidableEq κ]{kvs:List (κ×V)}{i:Nat}{k:κ}{v:V}(hn:(kvs.map (·.1)).Nodup)(h:kvs[i]?=some (k,v)):valV kvs k=some v:=by
 induction kvs generalizing i with
 |nil=>simp at h
 |cons p r ih=>
  rw[jZ_,qL_]at hn
  cases i with
  |zero=>simp at h;subst h;exact GU rfl
  |succ i=>
   have h':r[i]?=some (k,v):=by simpa using h
   rw[GV (fun z=>hn.1 (jv_.mpr ⟨(k,v),jd_ h',z.symm⟩))]
   exact ih hn.2 h'
def EW (H:Hp)(ps:List (Int×Int))(rs:List V):Prop:=rs.length=ps.length/\∀(i:Nat) (p:Int×Int),ps[i]?=some p->∃b,rs[i]?=some (.ref b)/\H b=some (.tup [.int p.1,.int p.2])
def EW.mono    (h:EW H ps rs)(k:TK H H'):EW H' ps rs:=by
 refine⟨h.1,fun i p hp=>?_⟩
 obtain⟨b,h1,h2⟩:=h.2 i p hp
 exact⟨b,h1,k _ _ h2⟩
def EW.snoc    (h:EW H ps rs)   (hb:H b=some (.tup [.int p.1,.int p.2])):EW H (ps++[p]) (rs++[.ref b]):=by
 refine⟨by rw[jl_,jl_,h.1];rfl,fun i q hi=>?_⟩
 by_cases eV:i<ps.length
 ·rw[je_ eV]at hi
  rw[je_ (by rw[h.1];exact eV)]
  exact h.2 i q hi
 ·have:=(jb_.mp hi).1
  rw[jl_,jP_]at this
  have ei:i=ps.length:=by lia
  subst ei
  rw[jp_ (ji_ _),qg_]at hi
  simp at hi
  subst hi
  refine⟨b,?_,hb⟩
  rw[jp_ (by rw[h.1];exact ji_ _),h.1,qg_];rfl
end L2
namespace L2
theorem Pu    : OR σ H Q=∀p,H p=none->Q (.ref p) (upd H p (.dK [])):=rfl
theorem Px    : OS σ H Q=∀p,H p=none->Q (.ref p) (upd H p (.dT [])):=rfl
end L2
namespace GB
open GW
def JC   : isW L (x::w)=true↔(0<=x/\x<L)/\isW L w=true:=by
 rw[Aw,Aw]
 simp
def Rq   (h:isW L w=true)(j:Nat):isW L (w.take j)=true:=Aw.mpr fun x hx=>Aw.mp h x (xk_ hx)
def BJ   (h:isW L v=true)(g:isW L w=true):isW L (v++w)=true:=Aw.mpr fun x hx=>(jw_.mp hx).elim (Aw.mp h x) (Aw.mp g x)
end GB
namespace L2
open GW
def PD (n:Nat)(num:Int):α2:=0::(rY (n-1)).map fun j:Nat=>1+((j:Int)+num)%((n:Int)-1)
def PH  (hn:2<=n)(num:Int):C3 n (PD n num):=by
 have rng:∀j:Nat,0<=((j:Int)+num)%((n:Int)-1)/\((j:Int)+num)%((n:Int)-1)<(n:Int)-1:=fun j=>⟨qu_ _ s!"",j9_ _ s!""⟩
 refine⟨Hr ?_ (fun x hx=>?_) ?_,rfl⟩
 ·unfold PD
  rw[qL_]
  refine⟨fun h=>?_,?_⟩
  ·obtain⟨j,_,e⟩:=jv_.mp h
   have:=rng j
   lia
  ·refine xn_.mpr (zm_ (fun {a b} ha hb b8 z=>b8 ?_) zL_)
   have ha:=jC_.mp ha
   have hb:=jC_.mp hb
   have z:((a:Int)+num)%((n:Int)-1)=((b:Int)+num)%((n:Int)-1):=by lia
   have key:∀{a b:Nat},b<=a->a<n-1->((a:Int)+num)%((n:Int)-1)=((b:Int)+num)%((n:Int)-1)->a=b:=fun {a b} h1 h2 z=>by
    have:=Int.emod_eq_emod_iff_emod_sub_eq_zero.mp z
    rw[show (a:Int)+num-((b:Int)+num)=(a:Int)-b by lia,Int.emod_eq_of_lt s!"" s!""]at this
    lia
   rcases v9 b a with h|h
   ·exact key h ha z
   ·exact (key h hb z.symm).symm
 ·rw[Pj]
  unfold PD at hx
  rcases jD_.mp hx with rfl|hx
  ·lia
  ·obtain⟨j,_,rfl⟩:=jv_.mp hx
   have:=rng j
   lia
 ·unfold PD
  rw[Pk];simp;lia
end L2
namespace L2
open PySem PySem.Spec PyProof.Rows GW
def LLs (H0 H:Hp)(xs:List V)(ws:α1):Prop:=∃ts:List Addr,xs=ts.map V.ref/\ts.length=ws.length/\ts.Nodup/\(∀(i:Nat) (t:Addr) (w:α2),ts[i]?=some t->ws[i]?=some w->H t=some (.lst (w.map V.int)))/\∀t∈ts,H0 t=none
def LLs.nil (H0 H:Hp):LLs H0 H [] []:=⟨[],rfl,rfl,ub,fun i t w h=>by simp at h,fun t h=>by simp at h⟩
def LLs.mono    (h:LLs H0 H xs ws)(s:Same H H'):LLs H0 H' xs ws:=by
 obtain⟨ts,a,b,c,d,e⟩:=h
 exact⟨ts,a,b,c,fun i t w h1 h2=>s _ _ (d i t w h1 h2),e⟩
def LLs.len    (h:LLs H0 H xs ws):xs.length=ws.length:=by
 obtain⟨ts,a,b,_⟩:=h
 rw[a,ja_,b]
def LLs.snoc      (h:LLs H0 H xs ws)(h0:H0 p=none)(hp:H p=none):LLs H0 (upd H p (.lst (w.map V.int))) (xs++[.ref p]) (ws++[w]):=by
 obtain⟨ts,a,b,c,d,e⟩:=h
 have hts:∀t∈ts,t≠p:=fun t ht z=>by
  obtain⟨i,hi,ei⟩:=jN_ ht
  have:=d i t ws[i] (by rw[jh_ hi,ei]) (by simp[show i<ws.length by lia])
  rw[z,hp]at this;cases this
 refine⟨ts++[p],by rw[a];simp,by simp[b],?_,fun i t v h1 h2=>?_,fun t ht=>?_⟩
 ·rw[x6_]
  refine⟨c,by simp,fun x hx y hy=>?_⟩
  simp at hy;subst hy;exact hts x hx
 ·by_cases hi:i<ts.length
  ·rw[je_ hi]at h1
   rw[je_ s!""]at h2
   rw[Ah (hts t (jd_ h1))]
   exact d i t v h1 h2
  ·have:=(jb_.mp h1).1
   rw[jl_,jP_]at this
   have ei:i=ts.length:=by lia
   subst ei
   rw[jp_ (ji_ _),qg_]at h1
   rw[b,jp_ (ji_ _),qg_]at h2
   simp at h1 h2
   subst h1 h2
   exact Ab
 ·rcases jw_.mp ht with ht|ht
  ·exact e t ht
  ·rw[jr_.mp ht];exact h0
def LLs.at    (h:LLs H0 H xs ws)   (hw:ws[i]?=some w):∃t,xs[i]?=some (.ref t)/\H t=some (.lst (w.map V.int))/\H0 t=none/\∀j x,LLs H0 (upd H t (.lst ((w.set j x).map V.int))) xs (ws.set i (w.set j x)):=by
 obtain⟨ts,a,b,c,d,e⟩:=h
 have hi:i<ts.length:=by rw[b];exact (jb_.mp hw).1
 have ht:ts[i]?=some ts[i]:=by simp[hi]
 refine⟨ts[i],by rw[a,jf_,ht];rfl,d i _ w ht hw,e _ (j0_ hi),fun j x=>⟨ts,a,by rw[qU_];exact b,c,fun k t v h1 h2=>?_,e⟩⟩
 by_cases hk:k=i
 ·subst hk
  rw[ht]at h1;cases h1
  rw[qT_ s!""]at h2;cases h2
  exact Ab
 ·have ay:t≠ts[i]:=fun z=>hk (by
   have dE:=(jb_.mp h1).1
   refine (xT_ (h₀:=dE) (h₁:=hi) c).mp ?_
   rw[<-z]
   exact (jb_.mp h1).2)
  rw[xi_ (qp_ hk)]at h2
  rw[Ah ay]
  exact d k t v h1 h2
def Same.none  (s:Same H H')  (h:H' p=none):H p=none:=by
 cases e:H p with
 |none=>rfl
 |some u=>rw[s _ _ e]at h;cases h
def Rr {K:α3}         (hl:SqL K H a xs)(aj:xs.length=ws.length)(e:cp.st σ=sS::af)(hz:xs.length<sizeLine)
  (hs:∀(i:Nat) (x:V) (w:α2) H2,Same H H2->xs[i]?=some x->ws[i]?=some w->∀R:VK,(∀p H3,Same H2 H3->SqT K H3 p (w.map V.int)->R (.ref p) H3)->te (some x::af) H2 R)
  (hd:∀H2 D ys,Same H H2->H2 D=sS->Cv K (upd H2 D (.lst ys)) D ws->Q (.ref D) (upd H2 D (.lst ys))):Ku (Itl K a) cp (Fn 0) Nv te σ H Q:=by
 refine Iq (xs:=xs) (fun i ys ai H2=>Same H H2/\(∃ts:List Addr,ys=ts.map V.ref/\ts.length=i/\∀(j:Nat) (t:Addr) (w:α2),ts[j]?=some t->ws[j]?=some w->SqT K H2 t (w.map V.int))/\∃o,ai=o::af) ⟨Same.refl _,⟨[],rfl,rfl,fun j t w h=>by simp at h⟩,sS,e⟩ hz (fun i ys ai H2 hi h=>?_) (fun i x ys ai H2 hx h=>?_) (fun ys ai H2 h=>?_)
 ·obtain⟨s,⟨ts,rfl,hm,_⟩,_⟩:=h
  exact⟨s.seq hl,by rw[ja_];lia⟩
 ·obtain⟨s,⟨ts,rfl,hm,ht⟩,o,rfl⟩:=h
  have hi:i<ws.length:=by rw[<-aj];exact (jb_.mp hx).1
  refine hs i x ws[i] H2 s hx (by simp[hi]) _ fun p H3 s3 hp=>⟨s.trans s3,⟨ts++[p],by simp,by simp[hm],fun j t w h1 h2=>?_⟩,some x,rfl⟩
  by_cases hj:j<ts.length
  ·rw[je_ hj]at h1
   exact s3.seqT (ht j t w h1 h2)
  ·have:=(jb_.mp h1).1
   rw[jl_,jP_]at this
   have ej:j=i:=by lia
   subst ej
   rw[<-hm,jp_ (ji_ _),qg_]at h1
   simp at h1
   subst h1
   rw[jh_ hi]at h2
   cases h2
   exact hp
 ·obtain⟨s,⟨ts,rfl,hm,ht⟩,_⟩:=h
  exact fun D hD=>hd H2 D _ s hD ⟨ts,Ab,by lia,fun j t w h1 h2=>(Same.new hD).seqT (ht j t w h1 h2)⟩
end L2
namespace GW
def Wf.setM    (wf:Wf L aa ab)(r:Nat)  (h:0<=m/\m<=1000000000):Wf L (aa.set r m) ab:=by
 refine⟨wf.l1,wf.l6,by rw[qU_];exact wf.n1,by rw[qU_];exact wf.n40,by rw[qU_];exact wf.len,fun row hr=>?_,fun x hx=>?_⟩
 ·rw[qU_];exact wf.rows row hr
 ·rcases ze_ hx with hx|rfl
  ·exact wf.mks x hx
  ·exact h
def Wf.setW {L:Int}{aa:α2}{ab:α1}(wf:Wf L aa ab){i:Nat}{row:α2}(hr:ab[i]?=some row)(j:Nat){g:Int}(h:0<=g/\g<aa.length):Wf L aa (ab.set i (row.set j g)):=by
 refine⟨wf.l1,wf.l6,wf.n1,wf.n40,by rw[qU_];exact wf.len,fun x hx=>?_,wf.mks⟩
 rcases ze_ hx with hx|rfl
 ·exact wf.rows x hx
 ·have:=wf.rows row (jd_ hr)
  refine⟨by rw[qU_];exact this.1,fun y hy=>?_⟩
  rcases ze_ hy with hy|rfl
  ·exact this.2 y hy
  ·exact h
end GW
namespace L2
open PySem GW
def LLs.off      (h:LLs H0 H xs ws)(hp:H0 p=some u):LLs H0 (upd H p o) xs ws:=by
 obtain⟨ts,a,b,c,d,e⟩:=h
 refine⟨ts,a,b,c,fun i t w h1 h2=>?_,e⟩
 rw[Ah (fun z=>by have:=e t (jd_ h1);rw[z,hp]at this;cases this)]
 exact d i t w h1 h2
end L2
namespace L2
open PySem PySem.Spec PyProof.Rows
def LG:∀(names:List (Str×NameKind)) (h:Heap) (ah:List (Str×Addr)) (x:Str) (c:Addr),(cellsFrom h.objs.size names ah).lookup x=some c->((pushCells h names).IsCell c none/\h.objs.size<=c)\/ah.lookup x=some c
 |[],_,_,_,_,e=>.inr e
 | (y,k)::r,h,ah,x,c,e=>by
  unfold cellsFrom at e
  unfold pushCells
  by_cases hk:(k == .cell)=true
  ·rw[if_pos hk]at e ⊢
   have e':(cellsFrom (h.push {cls:=.type "cell",data:=.cell none}).objs.size r ((y,h.objs.size)::ah)).lookup x=some c:=by rw[qf_];exact e
   rcases LG r _ _ x c e' with ⟨a,b⟩|q
   ·rw[qf_]at b
    exact .inl ⟨a,xN_ b⟩
   ·rw[qa_]at q
    cases hx:x==y with
    |true=>
     rw[hx]at q
     have:h.objs.size=c:=js_ q
     subst this
     exact .inl ⟨⟨_,pushCells_keeps _ _ _ _ (jz_ _ rfl),rfl⟩,ji_ _⟩
    |false=>rw[hx]at q;exact .inr q
  ·rw[if_neg hk]at e ⊢
   exact LG r h ah x c e
def GZ:∀(names:List (Str×NameKind)) (n:Nat) (ah:List (Str×Addr)) (x:Str) (c:Addr),(cellsFrom n names ah).lookup x=some c->n<=c\/ah.lookup x=some c
 |[],_,_,_,_,e=>.inr e
 | (y,k)::r,n,ah,x,c,e=>by
  unfold cellsFrom at e
  by_cases hk:(k == .cell)=true
  ·rw[if_pos hk]at e
   rcases GZ r _ _ x c e with b|q
   ·exact .inl (xN_ b)
   ·rw[qa_]at q
    cases hx:x==y with
    |true=>rw[hx]at q;have:n=c:=js_ q;exact .inl (tN this)
    |false=>rw[hx]at q;exact .inr q
  ·rw[if_neg hk]at e
   exact GZ r n ah x c e
def PJ:∀(names:List (Str×NameKind)) (n:Nat) (ah:List (Str×Addr)),(∀x y c,ah.lookup x=some c->ah.lookup y=some c->x=y)->(∀x c,ah.lookup x=some c->c<n)->∀x y c,(cellsFrom n names ah).lookup x=some c->(cellsFrom n names ah).lookup y=some c->x=y
 |[],_,_,hi,_,x,y,c,e1,e2=>hi x y c e1 e2
 | (z,k)::r,n,ah,hi,hb,x,y,c,e1,e2=>by
  unfold cellsFrom at e1 e2
  by_cases hk:(k == .cell)=true
  ·rw[if_pos hk]at e1 e2
   refine PJ r (n+1) ((z,n)::ah) (fun x y c h1 h2=>?_) (fun x c h=>?_) x y c e1 e2
   ·rw[qa_]at h1 h2
    cases hx:x==z with
    |true=>
     cases hy:y==z with
     |true=>rw[wf_.mp hx,wf_.mp hy]
     |false=>
      rw[hx]at h1;rw[hy]at h2
      have e:n=c:=js_ h1
      exact absurd (hb y c h2) (by rw[<-e];exact qb_ _)
    |false=>
     cases hy:y==z with
     |true=>
      rw[hx]at h1;rw[hy]at h2
      have e:n=c:=js_ h2
      exact absurd (hb x c h1) (by rw[<-e];exact qb_ _)
     |false=>rw[hx]at h1;rw[hy]at h2;exact hi x y c h1 h2
   ·rw[qa_]at h
    cases hx:x==z with
    |true=>rw[hx]at h;have e:n=c:=js_ h;rw[<-e];exact zg_ _
    |false=>rw[hx]at h;exact xm_ (hb x c h)
  ·rw[if_neg hk]at e1 e2
   exact PJ r n ah hi hb x y c e1 e2
def LH:∀(names:List (Str×NameKind)) (n:Nat) (ah:List (Str×Addr)) (x:Str),(∀p∈names,p.1=x->p.2 ≠ .cell)->(cellsFrom n names ah).lookup x=ah.lookup x
 |[],_,_,_,_=>rfl
 | (y,k)::r,n,ah,x,h=>by
  unfold cellsFrom
  by_cases hk:(k == .cell)=true
  ·rw[if_pos hk,LH r _ _ x fun p hp=>h p (jm_ _ hp),qa_]
   cases hx:x==y with
   |true=>exact absurd (wf_.mp hk) (h (y,k) jo_ (wf_.mp hx).symm)
   |false=>rfl
  ·rw[if_neg hk]
   exact LH r n ah x fun p hp=>h p (jm_ _ hp)
def KI      {globals:Addr}
  (hQ:Q {scope:=sc,locals:=s.heap.objs.size,globals,cells:=cellsFrom (s.heap.objs.size+1) sc.names cl,qual,func:=none,code:=outer.code,frame:=outer.frame,builtins:=outer.builtins} {s with heap:=pushCells (s.heap.push {cls:=.type "dict",data:=.dict #[]}) sc.names}):
  wpAny M A (newFunctionEnv sc globals cl [] qual none .none (some outer)) Q E s:=by
 simp only[newFunctionEnv,zq_,xW_]
 refine jc_ (wpAny_alloc (jc_ (wpAny_layCells _ (fun name kind cells=>by cases j9:kind==NameKind.cell<;>simp[j9]) _ _ _ _ ?_)))
 rw[show ({s with heap:=s.heap.push {cls:=.type "dict",data:=.dict #[]} }:Shared).heap.objs.size=s.heap.objs.size+1 from qf_ ..]
 refine jc_ ?_
 rw[zd_]
 exact jn_ (jn_ hQ)
abbrev ownC (X:Cx)(sc:Scope)(C:Addr):List (Str×Addr):=cellsFrom (C+1) sc.names (clOf X.env sc.names [])
abbrev Cx.blkC (X:Cx)(N:List Str)(sc:Scope)(C:Addr)(s₀:Shared)(H₀:Hp)(ex:List Addr):Cx:=
 {X with N:=N,env:=compEnvC sc (ownC X sc C) C X.env,outer:=X.stack,s₀:=s₀,H₀:=H₀,ex:=ex,fn:=fun x=>sc.names.lookup x==some .cell,pn:=[],xe:=fun _ _=>False}
def Hv {env:Env}:∀(l:List (Str×NameKind)) (ah:List (Str×Addr)) (x:Str) (c:Addr),(x,c)∈clOf env l ah->(x,NameKind.free)∈l\/(x,c)∈ah
 |[],_,_,_,h=>.inr h
 | (n,k)::r,ah,x,c,h=>by
  unfold clOf at h
  by_cases hk:(k == .free)=true
  ·rw[if_pos hk]at h
   rcases Hv r _ x c h with q|q
   ·exact .inl (jm_ _ q)
   ·rcases jD_.mp q with q|q
    ·cases q
     rw[wf_.mp hk]
     exact .inl jo_
    ·exact .inr q
  ·rw[if_neg hk]at h
   rcases Hv r _ x c h with q|q
   ·exact .inl (jm_ _ q)
   ·exact .inr q
structure BlkScC (X:Cx)(sc:Scope):Prop where
 kind:sc.kind=.function
 one:∀y∈sc.names,∀z∈sc.names,y.1=z.1->y.2=z.2
 loc:∀y∈sc.names,y.2=.local->sc.names.lookup y.1=some .local
 free:∀y∈sc.names,y.2=.free->X.env.kindOf y.1=some .cell\/X.env.kindOf y.1=some .free
section
variable {X:Cx} {ae:α7} {σ:St} {H:Hp} {s:Shared} {sc:Scope} {fp:List Addr}
def IO (I:Inv X ae σ H s)(S:BlkScC X sc):∀p∈sc.names,p.2=.free->∃c,X.env.cells.lookup p.1=some c:=fun p hp e=>I.ok.has p.1 (S.free p hp e)
def Di (I:Inv X ae σ H s)(S:BlkScC X sc)   (h:(clOf X.env sc.names []).lookup x=some c):X.env.cells.lookup x=some c:=
 GX sc.names [] (IO I S) (fun q hq=>by cases hq) (x,c) (qm_ h)
def F2  (I:Inv X ae σ H s)(S:BlkScC X sc)   (h:(ownC X sc C).lookup x=some c):C+1<=c\/X.env.cells.lookup x=some c:=by
 rcases GZ _ _ _ _ _ h with q|q
 ·exact .inl q
 ·exact .inr (Di I S q)
def Dj {env:Env}:∀{names:List (Str×NameKind)} {x:Str} {k:NameKind},(names.map (relF env)).lookup x=some k->(k=.cell\/k=.free)->(x,NameKind.free)∈names\/names.lookup x=some .cell
 |[],_,_,h,_=>by simp at h
 | (n,k')::r,x,k,h,hk=>by
  have ih := @Dj env r x k
  rw[jZ_]at h
  rw[qa_]
  by_cases hb:(k'==NameKind.free&&env.scope.kind == .function&&env.kindOf n==some .cell)=true
  ·rw[GY hb,qa_]at h
   cases hx:x==n with
   |true=>
    have e:x=n:=by simpa using hx
    subst e
    have e2:k'=.free:=by
     simp only[qj_]at hb
     simpa using hb.1.1
    subst e2
    exact .inl jo_
   |false=>
    rw[hx]at h
    rcases ih h hk with q|q
    ·exact .inl (jm_ _ q)
    ·exact .inr q
  ·rw[Jq hb,qa_]at h
   cases hx:x==n with
   |true=>
    rw[hx]at h
    have e:x=n:=by simpa using hx
    subst e
    have e2:k'=k:=js_ h
    subst e2
    rcases hk with rfl|rfl
    ·exact .inr rfl
    ·exact .inl jo_
   |false=>
    rw[hx]at h
    rcases ih h hk with q|q
    ·exact .inl (jm_ _ q)
    ·exact .inr q
def T4 {N:List Str}{C:Addr}(I:Inv X ae σ H s)(S:BlkScC X sc)(hC:s.heap.objs.size<=C)(hf:∀b∈fp,FpOk X ae H b)(ho:∀b∈fp,∃o,s.heap.get? b=some o):(X.blkC N sc C s H fp).Ok where
 mod:=I.ok.mod
 kind:=S.kind
 glob:=I.ok.glob
 blt:=I.ok.blt
 above:=hC
 inj:=fun x y c h1 h2=>by
  refine PJ sc.names (C+1) (clOf X.env sc.names []) (fun x y c h1 h2=>I.ok.inj x y c (Di I S h1) (Di I S h2)) (fun x c h=>?_) x y c h1 h2
  obtain⟨v,q⟩:=I.cell x c (Di I S h)
  exact xm_ (jA_ q.lt hC)
 has:=fun x hx=>by
  have fI:(x,NameKind.free)∈sc.names\/sc.names.lookup x=some .cell:=by
   rcases hx with hx|hx
   ·exact Dj (env:=X.env) hx (.inl rfl)
   ·exact Dj (env:=X.env) hx (.inr rfl)
  refine xH_.mp (xV_ sc.names (C+1) (clOf X.env sc.names []) ?_)
  rcases fI with q|q
  ·obtain⟨c,hc⟩:=EB (env:=X.env) sc.names [] x (.inl q)
   obtain⟨c',e⟩:=Bb hc
   exact .inr (by rw[e];rfl)
  ·exact .inl q
 cab:=fun x c h e=>by
  have hx:sc.names.lookup x=some .cell:=by simpa using h
  rcases GZ _ _ _ _ _ e with q|q
  ·exact qt_ hC (xN_ q)
  ·rcases Hv _ _ _ _ (qm_ q) with z|z
   ·have:=S.one _ (qm_ hx) _ z rfl
    cases this
   ·cases z
 hd:=I.ok.hd
 frames:=I.ok.frames
 stk:=.inl rfl
 exf:=fun b hb=>by
  obtain⟨o,ho⟩:=ho b hb
  refine⟨jO_ (jA_ (jt_ ho) hC),fun x c h=>?_⟩
  rcases F2 I S h with q|q
  ·intro z;rw[z]at q;exact absurd (jA_ (jt_ ho) hC) (uM (xN_ q))
  ·exact (hf b hb).2.2.2.2.1 x c q
 bs:=I.bs
 bsz:=qt_ I.ok.bsz I.sz
 noex:=fun b o e hb=>by
  rcases (hf b hb).2.2.2.1 with z|z
  ·exact I.ok.noex b o e z
  ·exact absurd (jA_ (jt_ (I.ok.bs b o e).1) z) (qb_ _)
 exfs:=fun b hb z=>by
  rcases jD_.mp (I.stkSub b z) with e|e
  ·exact (hf b hb).2.1 e
  ·exact (hf b hb).2.2.1 e
 funs:=I.stack
 frf:=I.stkFree
def NE {c:Caps}{C:Addr}{s4:Shared}{m:Str->α5}(I:Inv X ae σ H s)(S:BlkScC X sc)(hc:CG X.N sc c)(hC:s.heap.objs.size<=C)(hf:∀b∈fp,FpOk X ae H b)(ho:∀b∈fp,∃o,s.heap.get? b=some o)
  (ef:s4.os=s.os) (hb:s4.gens=s.gens) (hk:∀b o,s.heap.get? b=some o->s4.heap.get? b=some o) (hn:s4.heap.Ns C m)
  (bZ:∀x c,(ownC X sc C).lookup x=some c->(s4.heap.IsCell c none/\C+1<=c)\/(clOf X.env sc.names []).lookup x=some c):Inv (X.blkC c.names sc C s H fp) [] (c.st σ) H s4 where
 ok:=T4 I S hC hf ho
 os:=ef
 bare:=by rw[hb];exact I.bare
 base:=Un.kept hk
 loc:=by
  refine⟨m,hn,fun i x v h1 h2 hv=>?_⟩
  have gE:(c.map (·.1))[i]?=some x:=h1
  have eU:(c.map fun p=>p.2.bind fun j=>(σ[j]?).join)[i]?=some (some v):=h2
  rw[jf_]at gE eU
  cases e:c[i]? with
  |none=>rw[e]at gE;cases gE
  |some p=>
   obtain⟨y,oj⟩:=p
   rw[e]at gE eU
   have e1:y=x:=js_ gE
   subst e1
   have e2:(oj.bind fun j=>(σ[j]?).join)=some v:=js_ eU
   cases oj with
   |none=>cases e2
   |some j=>
    have e3:(σ[j]?).join=some v:=e2
    have e4:σ[j]?=some (some v):=by
     cases q:σ[j]? with
     |none=>rw[q]at e3;cases e3
     |some z=>rw[q]at e3;exact jG_ some e3
    obtain⟨k1,k2⟩:=CG.get hc e
    have ka:=qm_ k2
    have k3:X.env.kindOf y=some .cell\/X.env.kindOf y=some .free:=S.free (y,.free) ka rfl
    have mT:Vis X.env.scope y:=by
     rcases k3 with k|k
     ·exact .inr (.inl k)
     ·exact .inr (.inr k)
    obtain⟨mX,hnX,hl⟩:=I.loc
    obtain⟨u,r,l⟩:=hl j y v k1 e4 mT
    refine⟨u,r,?_⟩
    rcases l with ⟨k,_⟩|⟨_,ca,pS,z⟩
    ·rcases k3 with k' | k'<;>(rw[k]at k';cases k')
    ·obtain⟨kd,mZ,ek⟩:=D4 (env:=X.env) k2
     have fJ:(compEnvC sc (ownC X sc C) C X.env).kindOf y=some kd:=ek
     obtain⟨c',jA⟩:=EB (env:=X.env) sc.names [] y (.inl ka)
     obtain⟨c2,cL⟩:=Bb jA
     have e5:=Di I S cL
     rw[pS]at e5
     have e6:ca=c2:=js_ e5
     subst e6
     have e7:(ownC X sc C).lookup y=some ca:=by
      rw[LH sc.names (C+1) _ y fun p hp ep z=>?_]
      ·exact cL
      ·have:=S.one p hp (y,.free) ka ep
       rw[z]at this;cases this
     refine .inr ⟨?_,ca,e7,?_⟩
     ·rcases mZ with rfl|rfl
      ·exact .inl fJ
      ·exact .inr fJ
     ·obtain⟨oc,ee,hd⟩:=z
      exact⟨oc,hk _ _ ee,hd⟩
 cell:=fun x ca h=>by
  rcases bZ x ca h with ⟨q,_⟩|q
  ·exact⟨_,q⟩
  ·obtain⟨v,oc,ee,hd⟩:=I.cell x ca (Di I S q)
   exact⟨v,oc,hk _ _ ee,hd⟩
 free:=I.hok.fresh hC
 freeC:=fun x ca h=>by
  rcases bZ x ca h with ⟨_,q⟩|q
  ·exact I.hok.fresh (qt_ hC (xN_ q))
  ·exact I.freeC x ca (Di I S q)
 pin:=fun p hp=>absurd (show p∈([]:α7) from hp) (by simp)
 hok:=I.hok.kept hk
 len:=by show (c.map _).length=(c.map _).length;rw[ja_,ja_]
def Rs {c:Caps}{C D:Addr}{s':Shared}{af:St}{H':Hp}{o:HO}(I:Inv X ae σ H s)(J:Inv (X.blkC c.names sc C s H fp) [] af H' s')(hf:∀b∈fp,FpOk X ae H b)(hD:s.heap.objs.size<=D)(hn:H' D=none)
  (new:Bk X.prog X.w (upd H' D o) s'.heap D o):Inv X ae σ (upd H' D o) s':=by
 have u:Un (frs X.stack) fp H H' s.heap s'.heap:=J.base
 exact I.call' J.os (u.track hD hn) (J.hok.track hn new) J.bare fun b hb=>⟨(hf b hb).2.2.2.1,(hf b hb).2.1,(hf b hb).2.2.2.2.1,(hf b hb).2.2.2.2.2⟩
end
section
variable {X:Cx} {tg iter cM:Expr} {cI:List Expr} {sc:Scope} {pos:Pos} {wi:TI} {cp:Caps} {g:TG} {tc:TT} {te:TE}
def NF (hc:X.calm=true)(S:BlkScC X sc)(iY:CG X.N sc cp)
  (hg:∀C s₀ H₀ ex,PG (X.blkC cp.names sc C s₀ H₀ ex) tg g) (hf:∀C s₀ H₀ ex,PF (X.blkC cp.names sc C s₀ H₀ ex) cI tc) (he:∀C s₀ H₀ ex,PE (X.blkC cp.names sc C s₀ H₀ ex) cM te)
  {ae:α7} {σ:St} {H:Hp} {s:Shared} {J:It} {it:Addr} {fp:List Addr} {tn:Nat->Heap->Prop} {Q:VK} {RR:Value->Addr->Result->Shared->Prop} {E:Value->Shared->Prop}
  (I:Inv X ae σ H s) (T:Turn X.prog X.w X.K tg J fp it tn) (st:tn 0 s.heap) (fK:∀b∈fp,FpOk X ae H b)
  (hw:∃W:Nat->Nat->List V->St->Hp->Prop,(∃m,W 0 m [] (cp.st σ) H)/\∀i m ys af H',W i m ys af H' ->
   ys.length<sizeLine/\((J.stop i H'/\∀D,H' D=none->Q (.ref D) (upd H' D (.lst ys)))\/(J.go i H'/\∃N:List V->St->Hp->Prop,(∀zs ai H2,N zs ai H2->∃m',m'<m/\W (i+1) m' zs ai H2)/\∀x H2,J.yld i H' x H2->g x af H2 fun ai H3=>tc ai H3 fun b H4=>
    if b=true then te ai H4 fun v H5=>N (ys++[v]) ai H5 else N ys ai H4)))
  (hR:∀D C s' H' (m:Str->α5),Inv X ae σ H' s'->Q (.ref D) H'->s'.heap.Ns C m->H' C=none->C≠X.env.locals->X.s₀.heap.objs.size<=C->(∀x c,X.env.cells.lookup x=some c->c≠C)->(∀p∈X.pn++ae,p.1≠C)->RR (.ref D) C (.ok .next) s'):
  wpAny (model X.prog X.w) X.A (newList []) (fun ah a9=>wpAny (model X.prog X.w) X.A (newFunctionEnv sc X.env.globals (clOf X.env sc.names []) [] X.env.qual none .none (some X.env)) (fun gF fH=>
   codeAny (model X.prog X.w) X.A (.compStart (.ListComp cM [⟨tg,iter,cI,0⟩] sc pos) 0 (.ref it) ah {gF with scope:=relabel sc X.env}) (RR ah gF.locals) fH) E a9) E s:=by
 obtain⟨W,⟨m0,w0⟩,turn⟩:=hw
 refine qr_ (KI ?_)
 dsimp only
 generalize jZ:s.heap.push {cls:=.type "list",dict:=none,data:=.seq ([]:List Value).toArray}=H2
 obtain⟨h₁,eX⟩:∃h₁,h₁=pushCells (H2.push {cls:=.type "dict",data:=.dict #[]}) sc.names:=⟨_,rfl⟩
 rw[<-eX]
 have hcells:∀x c,(ownC X sc H2.objs.size).lookup x=some c->(h₁.IsCell c none/\H2.objs.size+1<=c)\/(clOf X.env sc.names []).lookup x=some c:=fun x c e=>by
  have:=LG sc.names (H2.push {cls:=.type "dict",data:=.dict #[]}) (clOf X.env sc.names []) x c (by rw[qf_];exact e)
  rw[qf_]at this
  rw[eX];exact this
 have cy:h₁.Ns H2.objs.size (fun _=>none):=by rw[eX];exact (Heap.Ns.new H2 (.type "dict")).keeps (pushCells_keeps _ _)
 have keep₁:∀b o,H2.get? b=some o->h₁.get? b=some o:=fun b o e=>by rw[eX];exact pushCells_keeps _ _ b o (jg_ _ e)
 have hC:H2.objs.size=s.heap.objs.size+1:=by rw[<-jZ,qf_]
 have jC:s.heap.objs.size≠H2.objs.size:=by rw[hC];exact jO_ (zg_ _)
 have bX:s.heap.objs.size<=H2.objs.size:=by rw[hC];exact wj_ _
 have below:∀b,b<s.heap.objs.size->b≠H2.objs.size:=fun b hb=>by rw[hC];exact jO_ (xm_ hb)
 have ez:∀b o,s.heap.get? b=some o->h₁.get? b=some o:=fun b o e=>keep₁ b o (jZ ▸ jg_ _ e)
 have aS:h₁.get? s.heap.objs.size=some {cls:=.type "list",data:=.seq ([]:List Value).toArray 0}:=keep₁ _ _ (jZ ▸ jz_ _ rfl)
 have cz:tn 0 h₁:=T.keep 0 _ _ st fun b _ o e=>ez b o e
 have bV:∀b∈fp,∃o,s.heap.get? b=some o:=fun b hb=>let ⟨o,e,_⟩:=T.obj 0 _ st b hb;⟨o,e⟩
 have J0:Inv (X.blkC cp.names sc H2.objs.size s H fp) [] (cp.st σ) H {s with heap:=h₁}:=NE I S iY bX fK bV rfl rfl ez cy hcells
 have pT:∀b,s.heap.objs.size<=b->b∉frs X.stack:=fun b hb z=>by
  rcases jD_.mp (I.stkSub b z) with e|e
  ·exact absurd (jA_ I.lt (by rw[<-e];exact hb)) (qb_ _)
  ·exact I.nofs hb e
 have dP:∀b,s.heap.objs.size<=b->∀x c,X.env.cells.lookup x=some c->c≠b:=fun b hb x c e z=>by
  obtain⟨v,q⟩:=I.cell x c e
  exact absurd (jA_ q.lt (by rw[z];exact hb)) (qb_ _)
 have m5:∀{br:α7} {H':Hp},(∀b∈fp,H' b=none)->(∀p∈br,p.1∉fp)->∀b∈fp,FpOk (X.blkC cp.names sc H2.objs.size s H fp) br H' b:=fun {br H'} hn hp b hb=>by
  obtain⟨o,e⟩:=bV b hb
  refine⟨hn b hb,below b (jt_ e),fun z=>?_,.inl hb,fun x c h=>(by
   rcases F2 I S h with q|q
   ·intro z;rw[z]at q;exact absurd (jt_ e) (uM (qt_ bX (xN_ q)))
   ·exact (fK b hb).2.2.2.2.1 x c q),fun p lZ z=>?_⟩
  ·rcases jD_.mp (I.stkSub b z) with e|e
   ·exact (fK b hb).2.1 e
   ·exact (fK b hb).2.2.1 e
  ·have j0:p∈br:=by simpa using lZ
   exact hp p j0 (by rw[z];exact hb)
 have fC:∀a9:Shared,a9={s with heap:=h₁} ->
   codeAny (model X.prog X.w) X.A (.compLoop (.ListComp cM [⟨tg,iter,cI,0⟩] sc pos) 0 (.ref it) (.ref s.heap.objs.size) (compEnvC sc (ownC X sc H2.objs.size) H2.objs.size X.env))
    (RR (.ref s.heap.objs.size) H2.objs.size) a9:=by
  rintro a9 rfl
  refine Gq (fun n s'=>∃i af H' ys its k,Inv (X.blkC cp.names sc H2.objs.size s H fp) [] af H' s'/\tn i s'.heap/\(∀b∈fp,H' b=none)/\H' s.heap.objs.size=none /\
   s'.heap.get? s.heap.objs.size=some {cls:=.type "list",data:=.seq its.toArray k}/\Vals ys its/\W i n ys af H') ?_ m0
   ⟨0,_,H,[],[],0,J0,cz,fun b hb=>(fK b hb).1,I.hok.fresh (ji_ _),aS,.nil,w0⟩
  rintro n s3 ⟨i,aE,H3,ys,its,k,I3,cm,lW,pU,e3,rv,w3⟩
  obtain⟨hz,tr⟩:=turn i n ys aE H3 w3
  have aj:=rv.length
  -- pM accumulator stands still while anything else runs
  have gG:∀p ∈ [(s.heap.objs.size,({cls:=.type "list",data:=.seq its.toArray k}:Obj))],p.1∉fp:=fun p hp z=>by
   have e:p=_:=jr_.mp hp
   subst e
   obtain⟨o,e⟩:=bV _ z
   exact absurd (jt_ e) (qb_ _)
  have m6:Inv (X.blkC cp.names sc H2.objs.size s H fp) [(s.heap.objs.size,({cls:=.type "list",data:=.seq its.toArray k}:Obj))] aE H3 s3:=I3.pins_of fun p hp=>by
   have e:p=_:=jr_.mp hp
   subst e
   exact⟨e3,pU,jC,pT _ (ji_ _),fun v z=>by cases z⟩
  have df:∀b∈fp,FpOk (X.blkC cp.names sc H2.objs.size s H fp) [(s.heap.objs.size,({cls:=.type "list",data:=.seq its.toArray k}:Obj))] H3 b:=m5 lW gG
  rcases tr with ⟨stop,qn⟩|⟨go,N,hN,step⟩
  ·refine thn (T.done (X.blkC cp.names sc H2.objs.size s H fp) rfl rfl rfl hc i _ s3 aE H3 _ m6 df cm stop) fun r s4 ⟨hr,I4⟩=>?_
   subst hr
   obtain⟨e4,n4,_⟩:=I4.pin (s.heap.objs.size,({cls:=.type "list",data:=.seq its.toArray k}:Obj)) (by simp)
   have new:Bk X.prog X.w (upd H3 s.heap.objs.size (.lst ys)) s4.heap s.heap.objs.size (.lst ys):=⟨zj_ hz,its,k,rv,e4⟩
   obtain⟨mC,pV,_⟩:=I4.loc
   have pW:Inv (X.blkC cp.names sc H2.objs.size s H fp) [] aE H3 s4:=I4.pins_of fun p hp=>by cases hp
   have I5:=Rs I pW fK (ji_ _) n4 new
   refine hR _ _ s4 _ mC I5 (qn _ n4) pV ?_ (qe_ (jA_ I.lt bX)) (qt_ I.sz bX) (dP _ bX) fun p hp z=>?_
   ·rw[Ah (qp_ jC)];exact I4.free
   ·exact absurd (jA_ (jt_ (I.pin p hp).1) (by rw[z];exact bX)) (qb_ _)
  ·refine thn (T.item (X.blkC cp.names sc H2.objs.size s H fp) rfl rfl rfl hc i _ s3 aE H3 _ m6 df cm go) fun r s4 ⟨u,hr,h4⟩=>?_
   subst hr
   refine thn h4 fun _ s5 ⟨x,H5,I5,r5,y5,bB,mV⟩=>?_
   have mW:=I5.pinned (m5 mV gG) (T.obj _ _ bB)
   have fin:∀{dD:St} {H7:Hp} {s7:Shared},Inv (X.blkC cp.names sc H2.objs.size s H fp) ([(s.heap.objs.size,({cls:=.type "list",data:=.seq its.toArray k}:Obj))]++IG fp s5.heap) dD H7 s7 ->
     s7.heap.get? s.heap.objs.size=some {cls:=.type "list",data:=.seq its.toArray k}/\H7 s.heap.objs.size=none/\(∀b∈fp,H7 b=none)/\∀b∈fp,∀o,s5.heap.get? b=some o->s7.heap.get? b=some o:=fun {dD H7 s7} I7=>by
    obtain⟨e7,n7,_⟩:=I7.pin (s.heap.objs.size,({cls:=.type "list",data:=.seq its.toArray k}:Obj)) (by simp)
    refine⟨e7,n7,fun b hb=>?_,fun b hb o e=>?_⟩
    ·obtain⟨o,e,_⟩:=T.obj _ _ bB b hb
     exact (I7.pin (b,o) (jy_ _ (jy_ _ (CC hb e)))).2.1
    ·exact (I7.pin (b,o) (jy_ _ (jy_ _ (CC hb e)))).1
   refine qE_ (hg _ _ _ _ _ s5 aE H5 x u _ mW r5 (step x H5 y5)) (fun _ s6 ⟨dJ,H6,I6,q6⟩=>?_) fun _ _ z=>sj z
   refine qE_ (hf _ _ _ _ _ s6 dJ H6 _ I6 q6) (fun ok s7 ⟨H7,I7,q7⟩=>?_) fun _ _ z=>sj z
   cases ok with
   |false=>
    rw[if_neg ju_]
    rw[if_neg ju_]at q7
    obtain⟨m',hm,w7⟩:=hN _ _ _ q7
    obtain⟨e7,n7,pX,k7⟩:=fin I7
    exact⟨m',hm,i+1,dJ,H7,ys,its,k,I7.pins_of (fun p hp=>by cases hp),T.keep _ _ _ bB k7,pX,n7,e7,rv,w7⟩
   |true=>
    rw[if_pos rfl]
    rw[if_pos rfl]at q7
    refine qE_ (he _ _ _ _ _ s7 dJ H7 _ I7 q7) (fun v s8 ⟨y,H8,I8,r8,q8⟩=>?_) fun _ _ z=>sj z
    obtain⟨m',hm,w8⟩:=hN _ _ _ q8
    obtain⟨e8,n8,pY,k8⟩:=fin I8
    refine xL_ F.slot_list_append ⟨_,e8,rfl⟩ F.entry_list_append (zO_ _ _) (we_ s.heap.objs.size its.toArray k v (by rw[jq_];lia)) ⟨e8,?_⟩
    obtain⟨k',q⟩:∃k',(s8.heap.update s.heap.objs.size (Obj.mapSeq fun x=>x.push v)).get? s.heap.objs.size=some {cls:=.type "list",data:=.seq (its++[v]).toArray k' }:=⟨_,by
     have q:=zf_ e8 fun x=>x.push v
     have e:(its++[v]).toArray=its.toArray.push v:=by simp
     rw[e]
     exact q⟩
    have I8':Inv (X.blkC cp.names sc H2.objs.size s H fp) [] dJ H8 s8:=I8.pins_of fun p hp=>by cases hp
    have I9:Inv (X.blkC cp.names sc H2.objs.size s H fp) [] dJ H8 {s8 with heap:=s8.heap.update s.heap.objs.size (Obj.mapSeq fun x=>x.push v),toks:=s8.toks}:=
     I8'.turned (it:=s.heap.objs.size) (fun b o hb e=>(j8_ _ _ (qp_ hb)).trans e) n8 jC (.inr (ji_ _)) (fun x c e=>by
      rcases F2 I S e with q|q
      ·intro z;rw[z]at q;exact absurd (qt_ q bX) (Nat.not_succ_le_self _)
      ·exact dP _ (ji_ _) x c q) (fun p hp=>by cases hp)
    refine⟨m',hm,i+1,dJ,H8,ys++[y],its++[v],k',I9,T.keep (i+1) s5.heap _ bB (fun b hb o e=>?_),pY,n8,q,rv.append (.cons r8 .nil),w8⟩
    ·refine (j8_ _ _ ?_).trans (k8 b hb o e)
     intro z
     obtain⟨ob,eb⟩:=bV b hb
     exact absurd (jt_ eb) (by rw[<-z];exact qb_ _)
 exact codeAny_compStart_list (fC _ rfl) (T.self _ 0 _ _ _ cz (fC _ rfl))
def Rt    (hN:X.N.Nodup)(hi:X.N[i]?=some x)(hx:X.env.scope.names.lookup x=some .local)(hc:X.calm=true)(S:BlkScC X sc)(iY:CG X.N sc cp)(aQ:PI X tg iter wi)
  (hg:∀C s₀ H₀ ex,PG (X.blkC cp.names sc C s₀ H₀ ex) tg g) (hf:∀C s₀ H₀ ex,PF (X.blkC cp.names sc C s₀ H₀ ex) cI tc) (he:∀C s₀ H₀ ex,PE (X.blkC cp.names sc C s₀ H₀ ex) cM te)
  (pZ:swapsWith (.ListComp cM [⟨tg,iter,cI,0⟩] sc pos) (some (.Name x px)) j3.line X.env=pure true:=by rfl)
  (hs:∀x,foldedSetIterable iter X.env x=pure x:=by intro _;rfl):PS X (.Assign [.Name x px] (.ListComp cM [⟨tg,iter,cI,0⟩] sc pos) j3) (tAsg (Q5 wi cp g tc te) (Fn i)):=by
 intro ae s σ H D I h
 rw[exec_Assign_Name_used _ _ _ _ pZ]
 refine jc_ (wpAny_standAt (jc_ ?_))
 show wpAny _ X.A (do let _ <- comprehension (.ListComp cM [⟨tg,iter,cI,0⟩] sc pos) sc X.env _ (newList []) false (eval iter X.env) (some (assign (.Name x px) X.env))) _ _ s
 refine jc_ (qE_ (zl_ (use:=some (assign (.Name x px) X.env)) (Q:=fun _ s'=>SP X ae D .next s') rfl hs (FX (IO I S)) S.kind S.loc
  (thn (aQ ae s σ H _ I h) fun xv s₁ h₁=>thn h₁ fun mU bE bg=>?_)) (fun _ s' hq=>jn_ (jn_ hq)) fun _ _ e=>e)
 obtain⟨it,fp,tn,J,H2,e,I2,T,aX,f2,hw⟩:=bg
 subst e
 refine NF (RR:=fun ah C=>compPost (model X.prog X.w) X.A X.xe (some (assign (.Name x px) X.env)) (fun _ s'=>SP X ae D .next s') ah C) (Q:=fun v H1=>Fn i v σ H1 D.nx) hc S iY hg hf he I2 T aX f2 hw ?_
 intro Dl C s' H' m I' q hn hC hL hz bZ hp
 show wpAny _ X.A (assign (.Name x px) X.env (.ref Dl)) _ _ _
 refine wpAny_assign_Name (Hf I' hN hi (.inl hx) (v:=.ref Dl) rfl (fun jW p0 ⟨a,om,ha⟩=>?_) (.inr hx))
 have ay:C≠a:=by
  rcases ha with rfl|ha
  ·exact hL
  ·exact fun z=>bZ _ _ ha z.symm
 refine⟨m,hn.sameBut om ay,fun h' bK=>⟨_,H',p0.turned (t':=jW.toks) (it:=C) (fun b o hb e=>bK.extBut b o hb e) hC hL (.inr hz) bZ hp,q⟩⟩
end
def SM (outer:List (Str×NameKind))(sc:Scope):Bool:=
 sc.kind == .function&&sc.names.all (fun y=>(y.2 != .local||sc.names.lookup y.1==some .local)&&(y.2 != .free||outer.lookup y.1==some .cell||outer.lookup y.1==some .free)&&sc.names.all fun z=>y.1 != z.1||y.2==z.2)
def T5   (h:SM X.env.scope.names sc=true):BlkScC X sc:=by
 unfold SM at h
 rw[qj_,qG_]at h
 obtain⟨h1,h2⟩:=h
 refine⟨by simpa using h1,fun y hy z hz e=>?_,fun y hy z=>?_,fun y hy z=>?_⟩
 ·have:=h2 y hy
  simp only[qj_,qG_]at this
  have:=this.2 z hz
  rw[e]at this
  simpa using this
 ·have:=h2 y hy
  simp only[qj_]at this
  have:=this.1.1
  rw[z]at this
  simpa using this
 ·have:=h2 y hy
  simp only[qj_]at this
  have:=this.1.2
  rw[z]at this
  have t:(X.env.scope.names.lookup y.1==some .cell||X.env.scope.names.lookup y.1==some .free)=true:=by simpa using this
  rw[uX]at t
  rcases t with t|t
  ·exact .inl (by show X.env.scope.names.lookup y.1=some .cell;simpa using t)
  ·exact .inr (by show X.env.scope.names.lookup y.1=some .free;simpa using t)
end L2
namespace L2
open PySem PySem.Spec PyProof.Rows GW GB
def F3 (ps:List (Int×Int))(kvs:List (List Key×V)):Prop:=kvs.map (·.1)=ps.map keyP
def F3.no   (h:F3 ps kvs)  (hg:g∉ps):valV kvs (keyP g)=none:=by
 unfold valV
 rw[tO,xA_]
 intro kv gM
 simp only[qs_]
 intro z
 have:keyP g∈ps.map keyP:=by rw[<-h,<-z];exact jv_.mpr ⟨kv,gM,rfl⟩
 obtain⟨q,hq,e⟩:=jv_.mp this
 exact hg (Rp e ▸ hq)
def F3.yes   (h:F3 ps kvs)  (hg:g∈ps):(valV kvs (keyP g)).isSome=true:=by
 rw[<-CN]
 have:keyP g∈kvs.map (·.1):=by rw[h];exact jv_.mpr ⟨g,hg,rfl⟩
 obtain⟨kv,gM,e⟩:=jv_.mp this
 exact xU_.mpr ⟨kv,gM,j7_ e⟩
def F3.put   (h:F3 ps kvs)  (hg:g∉ps)(v:V):F3 (ps++[g]) (putK kvs (keyP g) v):=by
 rw[Mu _ (h.no hg)]
 unfold F3
 rw[jS_,jS_,h];rfl
def F3.len   (h:F3 ps kvs):kvs.length=ps.length:=by
 have:=jG_ su h
 simpa using this
end L2
namespace L2
open PySem PySem.Spec PyProof.Rows GW
def AA (K:α3)(H:Hp)(xs:List V)(ws:α1):Prop:=xs.length=ws.length/\∀(i:Nat) (w:α2),ws[i]?=some w->∃t,xs[i]?=some (.ref t)/\H t=some (.tup (w.map V.int))
def AA.nil {K:α3}  : AA K H [] []:=⟨rfl,fun i w h=>by simp at h⟩
def AA.mono {K:α3}    (h:AA K H xs ws)(k:TK H H'):AA K H' xs ws:=by
 refine⟨h.1,fun i w hw=>?_⟩
 obtain⟨t,a,b⟩:=h.2 i w hw
 exact⟨t,a,k _ _ b⟩
def AA.snoc {K:α3}    (h:AA K H xs ws)   (ht:H t=some (.tup (w.map V.int))):AA K H (xs++[.ref t]) (ws++[w]):=by
 refine⟨by rw[jl_,jl_,h.1];rfl,fun i v hi=>?_⟩
 by_cases eV:i<ws.length
 ·rw[je_ eV]at hi
  rw[je_ (by rw[h.1];exact eV)]
  exact h.2 i v hi
 ·have:=(jb_.mp hi).1
  rw[jl_,jP_]at this
  have ei:i=ws.length:=by lia
  subst ei
  rw[jp_ (ji_ _),qg_]at hi
  simp at hi
  subst hi
  refine⟨t,?_,ht⟩
  rw[jp_ (by rw[h.1];exact ji_ _),h.1,qg_];rfl
def AA.at {K:α3}{H:Hp}{xs:List V}{ws:α1}(h:AA K H xs ws){i:Nat}{x:V}(hx:xs[i]?=some x):∃t w,ws[i]?=some w/\x=.ref t/\H t=some (.tup (w.map V.int)):=by
 have hi:i<ws.length:=by rw[<-h.1];exact (jb_.mp hx).1
 obtain⟨t,a,b⟩:=h.2 i ws[i] (by simp[hi])
 rw[hx]at a
 exact⟨t,ws[i],by simp[hi],js_ a,b⟩
def EV.ofS {K:α3}     (ha:H a=some (.tup xs))(hb:H b=some (.tup ys))(hz:xs.length+ys.length<=sizeLine)(h:∀p H',Same H H'->H' p=some (.tup (xs++ys))->Q (.ref p) H'):EV K (.ref a) (.ref b) H Q:=by
 refine⟨a,b,xs,ys,rfl,rfl,SqT.of ha,SqT.of hb,hz,fun e=>?_,fun _ e=>?_,fun _ _ p hp=>h p _ (Same.new hp) Ab⟩
 ·subst e;exact h b H (Same.refl _) (by simpa using hb)
 ·subst e;exact h a H (Same.refl _) (by simpa using ha)
def Inv.unL        (I:Inv X ae σ H s)(k:∀b o,b∉fp->s.heap.get? b=some o->h'.get? b=some o)(f:∀b∈fp,FpOk X ae H b):Un (frs X.stack) fp H H s.heap h'/\HOk X.prog X.w H h':=by
 have ne:∀b u,H b=some u->b∉fp:=fun b u q hb=>by rw[(f b hb).1]at q;cases q
 refine⟨⟨fun b o q _ _ hb=>k b o hb q,fun b o q _ _ hb=>⟨o.slots,k b o hb q⟩,fun _ _ _ n _=>n,fun b o q hb=>⟨o,k b o hb q⟩,fun _ _ q=>q,fun _ _ _ q=>q,fun b ps q=>⟨#[],by rw[q];simp⟩⟩,fun b u q=>?_⟩
 refine (I.hok b u q).stay (fun c v hc qv=>?_) (fun _ q=>q) fun _ _ q=>q
 have ay:c∉fp:=by
  rcases hc with rfl|hc
  ·exact ne _ _ q
  ·exact ne _ _ hc
 exact k c v ay qv
end L2
namespace GW
def ins (s:α1)(w:α2):α1:=if w∈s then s else s++[w]
def T6 (s:α1)(w:α2):(ins s w).length<=s.length+1:=by
 unfold ins;split
 ·lia
 ·simp
def Cb:∀(l s:α1),(l.foldl ins s).length<=s.length+l.length
 |[],s=>by simp
 |w::l,s=>by
  have h1:=Cb l (ins s w)
  have h2:=T6 s w
  rw[q2_,jU_];lia
end GW
namespace L2
open PySem PySem.Spec PyProof.Rows GW
def wkey (w:α2):List Key:=w.map r6
def JD (w:α2):(wkey w).map kV=w.map V.int:=by unfold wkey;rw[jW_];rfl
def Fs  (h:wkey v=wkey w):v=w:=(z9_ (fun x y z=>Sum.inl.inj z)).mp h
def EM (ws:α1)(kvs:List (List Key×V)):Prop:=kvs.map (·.1)=ws.map wkey
def EM.len   (h:EM ws kvs):kvs.length=ws.length:=by
 have:=jG_ su h
 simpa using this
def EM.some_iff   (h:EM ws kvs)(w:α2):(valV kvs (wkey w)).isSome=decide (w∈ws):=by
 rw[<-CN,qy_,qs_,xU_]
 constructor
 ·rintro⟨kv,gM,e⟩
  have e:=qB_ e
  have:wkey w∈ws.map wkey:=by rw[<-h,<-e];exact jv_.mpr ⟨kv,gM,rfl⟩
  obtain⟨q,hq,e2⟩:=jv_.mp this
  exact Fs e2 ▸ hq
 ·intro hw
  have:wkey w∈kvs.map (·.1):=by rw[h];exact jv_.mpr ⟨w,hw,rfl⟩
  obtain⟨kv,gM,e⟩:=jv_.mp this
  exact⟨kv,gM,j7_ e⟩
def EM.put   (h:EM ws kvs)(w:α2)(v:V):EM (ins ws w) (putK kvs (wkey w) v):=by
 have hs:=h.some_iff w
 unfold putK ins
 rw[CN,hs]
 by_cases hw:w∈ws
 ·rw[if_pos hw,if_pos (show decide (w∈ws)=true from j7_ hw)]
  unfold EM
  rw[<-h,jW_]
  refine qx_ fun kv _=>?_
  show (if kv.1=wkey w then (kv.1,v) else kv).1=kv.1
  split<;>rfl
 ·rw[if_neg hw,if_neg (show ¬ decide (w∈ws)=true by simp[hw])]
  unfold EM
  rw[jS_,jS_,h];rfl
def EM.nil:EM [] []:=rfl
def EM.words {K:α3}     (h:EM ws kvs)(hl:rs.length=kvs.length)(hr:∀(i:Nat) (k:List Key) (v:V),kvs[i]?=some (k,v)->∃b,rs[i]?=some (V.ref b)/\H b=some (.tup (k.map kV))):AA K H rs ws:=by
 refine⟨by rw[hl,h.len],fun i w hw=>?_⟩
 have hi:i<kvs.length:=by rw[h.len];exact (jb_.mp hw).1
 have e:(kvs.map (·.1))[i]?=some (wkey w):=by rw[h,jf_,hw];rfl
 rw[jf_,jh_ hi]at e
 have e:kvs[i].1=wkey w:=js_ e
 obtain⟨b,b1,b2⟩:=hr i kvs[i].1 kvs[i].2 (by simp[hi])
 exact⟨b,b1,by rw[b2,e,JD]⟩
end L2
namespace PySem.W
open PySem PySem.Calls PyProof.Rows PyProof.V PySem.Spec
end PySem.W
namespace PySem.W
open PySem PySem.Calls PyProof.Rows PyProof.V PySem.Spec
end PySem.W
namespace L2
open PySem PySem.Spec PyProof.Rows
def MR {P:Program}{w:World}{fs:List Addr}{H0:Hp}{h0 h':Heap}:∀(as:List (Addr×List V)),(as.map (·.1)).Nodup ->
  (∀p∈as,h0.objs.size<=p.1/\p.2.length<=sizeLine/\∃its:List Value,Vals p.2 its/\IsTup h' p.1 its.toArray)->∀H,Un fs [] H0 H h0 h'->HOk P w H h'->(∀p∈as,H p.1=none) ->
  ∃H2,Un fs [] H0 H2 h0 h'/\HOk P w H2 h'/\Same H H2/\(∀p∈as,H2 p.1=some (.tup p.2))/\∀b,b∉as.map (·.1)->H2 b=H b
 |[],_,_,H,u,k,_=>⟨H,u,k,Same.refl _,(fun p hp=>by simp at hp),fun b _=>rfl⟩
 |p::r,nd,hp,H,u,k,hn=>by
  rw[jZ_,qL_]at nd
  obtain⟨h1,h2,its,h3,h4⟩:=hp p jo_
  have qd:=hn p jo_
  have k2:HOk P w (upd H p.1 (.tup p.2)) h':=k.track qd ⟨h2,its,h3,h4⟩
  obtain⟨H2,e1,e2,e3,e4,e5⟩:=MR r nd.2 (fun q hq=>hp q (jm_ _ hq)) (upd H p.1 (.tup p.2)) (u.track h1 qd) k2 (fun q hq=>by
   have ay:q.1≠p.1:=fun z=>nd.1 (by rw[<-z];exact q9_ hq)
   rw[Ah ay]
   exact hn q (jm_ _ hq))
  refine⟨H2,e1,e2,(Same.new qd).trans e3,fun q hq=>?_,fun b hb=>?_⟩
  ·rcases jD_.mp hq with rfl|hq
   ·exact e3 _ _ Ab
   ·exact e4 q hq
  ·rw[jZ_,jD_,not_or]at hb
   rw[e5 b hb.2,Ah hb.1]
def Vals.two'   (h1:RelV x u)(h2:RelV y v):Vals [x,y] [u,v]:=.cons h1 (.cons h2 .nil)
def Cn (K:α3)(H:Hp)(xs:List V)(aH:List (α2×Int)):Prop:=xs.length=aH.length/\∀(i:Nat) (tr:α2×Int),aH[i]?=some tr->∃t wt,xs[i]?=some (.ref t)/\SqT K H t [.ref wt,.int tr.2]/\SqT K H wt (tr.1.map V.int)/\tr.1.length<=600
def Cn.mono {K:α3}    (h:Cn K H xs aH)(s:Same H H'):Cn K H' xs aH:=by
 refine⟨h.1,fun i tr bC=>?_⟩
 obtain⟨t,wt,a,b,c,d⟩:=h.2 i tr bC
 exact⟨t,wt,a,s.seqT b,s.seqT c,d⟩
def ents (es:List (α2×Int)):List (List Key×V):=es.map fun e=>(wkey e.1,V.int e.2)
def PK:V->List V->Hp->VK->Prop:=fun x vs H Q=>∃l xs y j,x=.ref l/\vs=[y]/\H l=some (.lst xs)/\Ct y=true/\xs.all Ct=true/\j<1000000/\(∃z,xs[j]?=some z/\eqV z y=true)/\(∀m z,m<j->xs[m]?=some z->eqV z y=false)/\Q (.int (j:Nat)) H
theorem MS     : PK x vs H Q=∃l xs y j,x=.ref l/\vs=[y]/\H l=some (.lst xs)/\Ct y=true/\xs.all Ct=true/\j<1000000/\(∃z,xs[j]?=some z/\eqV z y=true)/\(∀m z,m<j->xs[m]?=some z->eqV z y=false)/\Q (.int (j:Nat)) H:=rfl
def T7   (r:RelV z u)(f:Ct z=true):eqU x u=eqV z x:=by
 have:=Jn (x:=x) (xs:=[z]) (us:=[u]) (.cons r .nil) (by simp[f])
 simpa using this
def PL  : MtM X "list.index" PK:=by
 intro ae s σ H x vs v us Q I rx rv h
 obtain⟨l,xs,y,j,rfl,rfl,hH,fy,fs,hj,⟨z,qe,hz2⟩,dN,q⟩:=h
 cases rx
 obtain⟨u,rfl,ry⟩:=vals1 rv
 obtain⟨zz,its,n,r,hl,e⟩:=I.lstM hH
 have get:∀(m:Nat) (hm:m<its.toArray.size) (w:V),xs[m]?=some w->Ct w=true->eqU y its.toArray[m]=eqV w y:=fun m hm w hw fw=>by
  obtain⟨w',e1,e2⟩:=r.get hw
  have e3:its.toArray[m]=w':=by
   have:its[m]?=some its.toArray[m]:=by simp at hm;simp[hm]
   rw[e1]at this
   exact (js_ this).symm
  rw[e3]
  exact T7 e2 fw
 have fl:∀(m:Nat) (w:V),xs[m]?=some w->Ct w=true:=fun m w hw=>qG_.mp fs w (jd_ hw)
 have jF:=(jb_.mp qe).1
 have ng:j<its.toArray.size:=by rw[jq_];lia
 refine xL_ F.slot_list_index ⟨_,e,rfl⟩ F.entry_list_index (F.args_list_index_2 _ _) (SeqAt.list_indexAt l its.toArray n none #[] u (eqU y) j ng s!"" ?_ fun m hm hmj=>?_) ⟨e,fun w hw=>GT ry fy r fs w (by simpa using hw),?_⟩
 ·rw[get j ng z qe (fl j z qe)];exact hz2
 ·have qf:xs[m]?=some xs[m]:=by simp[show m<xs.length by lia]
  rw[get m hm _ qf (fl m _ qf)]
  exact dN m _ hmj qf
 ·exact⟨.int (j:Nat),H,I.tok _,⟨_,rfl⟩,q⟩
end L2
namespace L2
open PySem PySem.W PySem.Spec PySem.Calls PyProof.Rows
def O4.ofS {K:α3}      (hq:H l=some (.tup xs))(ay:xs ≠ [])(h1 : -(2 ^ 63)<=k)(h2:k<2 ^ 63)(hz:xs.length*k.toNat<=sizeLine)(h:∀p H',Same H H'->H' p=some (.tup (rX k.toNat xs).flatten)->Q (.ref p) H'):O4 K (.ref l) (.int k) H Q:=by
 refine⟨l,k,xs,rfl,rfl,SqT.of hq,ay,h1,h2,hz,fun e=>?_,fun _ p hp=>h p _ (Same.new hp) Ab⟩
 subst e
 exact h l H (Same.refl _) (by simpa using hq)
end L2
namespace PrimeO
def Wc (p:Nat):Prop:=∀d,2<=d->d<p->p%d≠0
def Pr (p:Int):Prop:=2<=p/\p<1000000000000000000/\Wc p.toNat
end PrimeO
namespace PySem
open Sem (wp)
open PySem.F
section
variable {prog:Program} {w:World} {A:Around} {E:Value->Shared->Prop} {s:Shared}
def DR   {items}   (aQ:s.heap.IsTupleIter it l i)
  (hl:s.heap.IsTuple l items) (hx:items[i]?=some x)
  (hQ:∀h',h'.IsTupleIter it l (i+1)->Heap.SameBut it s.heap h'->Q x {s with heap:=h' }):
  wpAny (model prog w) A (Builtin.SmallTypes.nextOf (.ref it)) Q E s:=by
 obtain⟨o,ho,hc,hd⟩:=id aQ
 obtain⟨ol,gH,_,nl,j5⟩:=hl
 unfold Builtin.SmallTypes.nextOf
 refine jc_ (j5_ (name:=Str.ofString "__next__") aQ.typeIs q7_
  (qF_ q7_ aQ.typeIs zt_ ?_ (zn_ _)))
 show wpAny _ _ (field (.ref it) 0 >>= _) _ _ s
 refine jc_ (qd_ ho hd (x:=.ref l) rfl ?_)
 show wpAny _ _ (if (Value.ref l==Value.none)=true then _ else _) _ _ s
 rw[if_neg (show ¬ ((Value.ref l==Value.none)=true) from ju_)]
 show wpAny _ _ (field (.ref it) 1 >>= _) _ _ s
 refine jc_ (qd_ ho hd (x:=.int i 0) rfl ?_)
 show wpAny _ _ (seqItems? (.ref l) >>= _) _ _ s
 refine jc_ (qR_ gH j5 ?_)
 simp only[jj_,hx]
 refine jc_ (zc_ ho hd (by simp) (jn_ ⟨x,rfl,jn_ (hQ _ ?_ (xq_ ..))⟩))
 exact⟨_,qM_ _ ho (zG_ (xy_ hd _)),(Obj.cls_mapFields ..).trans hc,by
  rw[xy_ hd];simp[rawInt]⟩
def D9   {items}  (hh:A.handled=none)
  (aQ:s.heap.IsTupleIter it l i) (hl:s.heap.IsTuple l items) (hx:items[i]?=none)
  (hE:∀h' e,Heap.ExtBut it s.heap h'->(∃o,h'.get? e=some o/\o.cls=.type "StopIteration")->E (.ref e) {s with heap:=h' }):
  wpAny (model prog w) A (Builtin.SmallTypes.nextOf (.ref it)) Q E s:=by
 obtain⟨o,ho,hc,hd⟩:=id aQ
 obtain⟨ol,gH,_,nl,j5⟩:=hl
 unfold Builtin.SmallTypes.nextOf
 refine jc_ (j5_ (name:=Str.ofString "__next__") aQ.typeIs q7_
  (qF_ q7_ aQ.typeIs zt_ ?_ (zn_ _)))
 show wpAny _ _ (field (.ref it) 0 >>= _) _ _ s
 refine jc_ (qd_ ho hd (x:=.ref l) rfl ?_)
 show wpAny _ _ (if (Value.ref l==Value.none)=true then _ else _) _ _ s
 rw[if_neg (show ¬ ((Value.ref l==Value.none)=true) from ju_)]
 show wpAny _ _ (field (.ref it) 1 >>= _) _ _ s
 refine jc_ (qd_ ho hd (x:=.int i 0) rfl ?_)
 show wpAny _ _ (seqItems? (.ref l) >>= _) _ _ s
 refine jc_ (qR_ gH j5 ?_)
 simp only[jj_,hx]
 refine jc_ (zR_ (jc_ (zc_ ho hd (by simp) ?_)))
 show wpAny _ _ (newExc (.type "StopIteration") [] >>= _) _ _ _
 refine jc_ ?_
 simp only[newExc,newTuple]
 refine jc_ (qr_ ?_ (by size_fits))
 refine jc_ (m:=firstArgMember _ _) (wpAny_of_eq (a:=Value.none) (by first|rfl|(simp only[firstArgMember];rfl)) ?_)
 refine qr_ ?_ (by size_fits)
 simp only[raiseNew]
 refine jc_ (wpAny_handled ?_)
 first|rw[show A.in1.handled=none from hh]|rw[hh]
 refine jc_ (jn_ (wpAny_throw ?_))
 exact hE _ _ (((xq_ ..).extBut.push _).push _) ⟨_,jz_ _ rfl,rfl⟩
end
def Cc (t:Bool)(h:Heap)(l:Addr)(xs:Array Value):Prop:=match t with|false=>h.IsList l xs|true=>h.IsTuple l xs
def Bv (t:Bool)(h:Heap)(i l:Addr)(k:Nat):Prop:=match t with|false=>h.IsListIter i l k|true=>h.IsTupleIter i l k
def Cc.extBut   {a b items}(x:Cc t h a items)(hs:Heap.ExtBut b h h')(b8:a≠b):Cc t h' a items:=by
 cases t
 ·exact Heap.IsList.extBut x hs b8
 ·exact Heap.IsTuple.extBut x hs b8
def Cc.push   {a items}(x:Cc t h a items)(o:Obj):Cc t (h.push o) a items:=by
 cases t
 ·exact Heap.IsList.push x o
 ·exact Heap.IsTuple.push x o
def Cc.lt   {a items}(x:Cc t h a items):a<h.objs.size:=by
 cases t
 ·obtain⟨_,e,_⟩:=x;exact jt_ e
 ·obtain⟨_,e,_⟩:=x;exact jt_ e
def Bv.extBut   {a b l i}(x:Bv t h a l i)(hs:Heap.ExtBut b h h')(b8:a≠b):Bv t h' a l i:=by
 cases t
 ·exact Heap.IsListIter.extBut x hs b8
 ·exact Heap.IsTupleIter.extBut x hs b8
def Bv.at   {a l i}(x:Bv t h a l i)(e:∀o,h.get? a=some o->h'.get? a=some o):Bv t h' a l i:=by
 cases t
 ·exact Heap.IsListIter.at x e
 ·exact Heap.IsTupleIter.at x e
def Bv.ob   {a l i}(x:Bv t h a l i):∃o,h.get? a=some o/\o.data=.fields #[.ref l,.int i 0]:=by
 cases t
 ·obtain⟨o,e,_,d⟩:=x;exact⟨o,e,d⟩
 ·obtain⟨o,e,_,d⟩:=x;exact⟨o,e,d⟩
def Bv.lt   {a l i}(x:Bv t h a l i):a<h.objs.size:=by
 obtain⟨_,e,_⟩:=x.ob;exact jt_ e
section
variable {prog:Program} {w:World} {A:Around} {E:Value->Shared->Prop} {s:Shared}
def Bw    {items}   (aQ:Bv t s.heap it l i)(hl:Cc t s.heap l items)(hx:items[i]?=some x)
  (hQ:∀h',Bv t h' it l (i+1)->Heap.SameBut it s.heap h'->Q x {s with heap:=h' }):wpAny (model prog w) A (Builtin.SmallTypes.nextOf (.ref it)) Q E s:=by
 cases t
 ·exact zB_ aQ hl hx hQ
 ·exact DR aQ hl hx hQ
def Cy    {items}  (hh:A.handled=none)(aQ:Bv t s.heap it l i)(hl:Cc t s.heap l items)(hx:items[i]?=none)
  (hE:∀h' e,Heap.ExtBut it s.heap h'->(∃o,h'.get? e=some o/\o.cls=.type "StopIteration")->E (.ref e) {s with heap:=h' }):wpAny (model prog w) A (Builtin.SmallTypes.nextOf (.ref it)) Q E s:=by
 cases t
 ·exact wpAny_nextOf_list_end hh aQ hl hx hE
 ·exact D9 hh aQ hl hx hE
def PM (t:Bool):Value:=match t with|false=>.type "list_iterator" |true=>.type "tuple_iterator"
def Bv.mk    (g:h.get? a=some {cls:=PM t,data:=.fields #[.ref l,.int 0 0]}):Bv t h a l 0:=by
 cases t
 ·exact⟨_,g,rfl,rfl⟩
 ·exact⟨_,g,rfl,rfl⟩
def DE   {items}  (hl:Cc t s.heap l items)
  (hQ:Q (.ref s.heap.objs.size) {s with heap:=s.heap.push {cls:=PM t,data:=.fields #[.ref l,.int 0 0]} }):wpAny (model prog w) A (pyIter (.ref l)) Q E s:=by
 cases t
 ·exact zC_ hl hQ
 ·exact xu_ hl hQ
end
section
variable {prog:Program} {w:World} {A:Around} {E:Value->Shared->Prop} {s:Shared}
def Iu {t1 t2:Bool}{z TI TO i1 i2 l1 l2:Addr}{k1 k2:Nat}{xs ys:Array Value}{x y a b:Value}{Q:Value->Shared->Prop}(D:ZipApart z TI TO i1 i2 l1 l2)
  (hz:IsZip s.heap z TI TO .none) (cq:IsPair s.heap TI (.ref i1) (.ref i2)) (dm:IsPair s.heap TO a b)
  (h1:Bv t1 s.heap i1 l1 k1) (h2:Bv t2 s.heap i2 l2 k2) (bo:Cc t1 s.heap l1 xs) (bJ:Cc t2 s.heap l2 ys) (hx:xs[k1]?=some x) (hy:ys[k2]?=some y)
  (hQ:∀h',IsZip h' z TI TO (rawInt s.heap.objs.size)->IsPair h' TO x y->Bv t1 h' i1 l1 (k1+1)->Bv t2 h' i2 l2 (k2+1)->IsPair h' s.heap.objs.size x y->h'.objs.size=s.heap.objs.size+1 ->
   (∀c o,c≠z->c≠TO->c≠i1->c≠i2->s.heap.get? c=some o->h'.get? c=some o)->Q (.ref s.heap.objs.size) {s with heap:=h' }):
  wpAny (model prog w) A (Builtin.«zip.__next__» ⟨[.ref z],[]⟩) (fun fin s'=>∃v,fin=.done (.ret v)/\Q v s') E s:=by
 show wpAny _ _ (field (.ref z) 2 >>= _) _ _ _
 refine jc_ (qd_ hz rfl (x:=.bool false) rfl ?_)
 show wpAny _ _ (field (.ref z) 3 >>= _) _ _ _
 refine jc_ (qd_ hz rfl (x:=.ref TI) rfl ?_)
 refine jc_ (qR_ cq rfl ?_)
 show wpAny _ _ (Builtin.SmallTypes.ownedTupleIsFree (.ref z) >>= _) _ _ _
 refine jc_ ?_
 unfold Builtin.SmallTypes.ownedTupleIsFree
 refine jc_ (qd_ hz rfl (x:=.none) rfl (jn_ ?_))
 simp only[xW_]
 refine jc_ (zR_ ?_)
 refine jc_ (qd_ hz rfl (x:=.ref TO) rfl ?_)
 refine jc_ (xe_ hz (by simp) fun h₁ bx aw=>?_)
 replace bx:IsZip h₁ z TI TO .ellipsis:=bx
 refine jc_ ?_
 simp only[tD,uY,xZ_,zd_]
 refine jc_ (jc_ (wpAny_onRaise ?_))
 show wpAny _ _ (Builtin.SmallTypes.nextOf (.ref i1) >>= _) _ _ _
 refine jc_ (Bw (h1.extBut aw.extBut D.i1z) (bo.extBut aw.extBut D.l1z) hx fun bg eY aC=>jn_ ?_)
 have cA:IsPair bg TO a b:=aC.extBut _ _ D.TOi1 (aw.extBut _ _ D.TOz dm)
 refine jc_ (qR_ cA rfl ?_)
 refine jc_ (zP_ cA fun bw dn aF=>?_)
 replace dn:IsPair bw TO x b:=dn
 refine jc_ (zZ_ (jn_ ?_))
 refine jc_ (jc_ (wpAny_onRaise ?_))
 show wpAny _ _ (Builtin.SmallTypes.nextOf (.ref i2) >>= _) _ _ _
 refine jc_ (Bw (((h2.extBut aw.extBut D.i2z).extBut aC.extBut D.i12.symm).extBut aF.extBut D.TOi2.symm)
  (((bJ.extBut aw.extBut D.l2z).extBut aC.extBut D.l2i1).extBut aF.extBut D.l2TO) hy fun gD h2₄ b9=>jn_ ?_)
 have hTO₄:IsPair gD TO x b:=b9.extBut _ _ D.TOi2 dn
 refine jc_ (qR_ hTO₄ rfl ?_)
 refine jc_ (zP_ hTO₄ fun aV cB hs₅=>?_)
 replace cB:IsPair aV TO x y:=cB
 refine jc_ (zZ_ (jn_ (jn_ ?_)))
 refine jc_ (qR_ cB rfl ?_)
 refine jc_ (wpAny_newTuple ?_)
 have hsz:aV.objs.size=s.heap.objs.size:=by rw[hs₅.1,b9.1,aF.1,aC.1,aw.1]
 have hz₅:IsZip aV z TI TO .ellipsis:=hs₅.extBut _ _ D.TOz.symm (b9.extBut _ _ D.i2z.symm (aF.extBut _ _ D.TOz.symm (aC.extBut _ _ D.i1z.symm bx)))
 have hk₅:∀c o,c≠z->c≠TO->c≠i1->c≠i2->s.heap.get? c=some o->aV.get? c=some o:=fun c o c1 c2 c3 c4 e=>
  hs₅.extBut _ _ c2 (b9.extBut _ _ c4 (aF.extBut _ _ c2 (aC.extBut _ _ c3 (aw.extBut _ _ c1 e))))
 have h1₅:Bv t1 aV i1 l1 (k1+1):=((eY.extBut aF.extBut D.TOi1.symm).extBut b9.extBut D.i12).extBut hs₅.extBut D.TOi1.symm
 have h2₅:Bv t2 aV i2 l2 (k2+1):=h2₄.extBut hs₅.extBut D.TOi2.symm
 have hzlt:z<aV.objs.size:=jt_ hz₅
 have hTOlt:TO<aV.objs.size:=jt_ cB
 have hi1lt:i1<aV.objs.size:=h1₅.lt
 have hi2lt:i2<aV.objs.size:=h2₅.lt
 show wpAny _ _ (Builtin.SmallTypes.ownedTupleHandOut (.ref z) (.ref aV.objs.size) >>= _) _ _ _
 refine jc_ ?_
 unfold Builtin.SmallTypes.ownedTupleHandOut
 have hz₆:IsZip (aV.push {cls:=.type "tuple",data:=.seq #[x,y]}) z TI TO .ellipsis:=jg_ _ hz₅
 refine jc_ (xe_ hz₆ (by simp) fun h₇ gN gO=>?_)
 replace gN:IsZip h₇ z TI TO (rawInt aV.objs.size):=gN
 refine xe_ gN (by simp) fun gP eZ gQ=>?_
 replace eZ:IsZip gP z TI TO (rawInt aV.objs.size):=eZ
 have up:∀c o,c≠z->aV.get? c=some o->gP.get? c=some o:=fun c o c1 e=>gQ.extBut _ _ c1 (gO.extBut _ _ c1 (jg_ _ e))
 have hT₈:IsPair gP aV.objs.size x y:=gQ.extBut _ _ (qe_ hzlt) (gO.extBut _ _ (qe_ hzlt) (jz_ _ rfl))
 have i5:gP.objs.size=aV.objs.size+1:=by rw[gQ.1,gO.1,qf_]
 rw[hsz]at eZ hT₈ i5
 refine jn_ ⟨_,rfl,?_⟩
 show Q (.ref aV.objs.size) _
 rw[hsz]
 exact hQ gP eZ (up _ _ D.TOz cB) (h1₅.at fun o e=>up _ o D.i1z e) (h2₅.at fun o e=>up _ o D.i2z e) hT₈ i5 fun c o c1 c2 c3 c4 e=>up c o c1 (hk₅ c o c1 c2 c3 c4 e)
def JE  {z TI TO i1 i2 l1 l2:Addr}     (hh:A.handled=none)(D:ZipApart z TI TO i1 i2 l1 l2)
  (hz:IsZip s.heap z TI TO .none) (cq:IsPair s.heap TI (.ref i1) (.ref i2)) (dm:IsPair s.heap TO a b)
  (h1:Bv t1 s.heap i1 l1 k1) (h2:Bv t2 s.heap i2 l2 k2) (bo:Cc t1 s.heap l1 xs) (bJ:Cc t2 s.heap l2 ys) (fM:xs[k1]?=none\/ys[k2]?=none)
  (hE:∀h' e,(∀c o,c≠z->c≠TO->c≠i1->c≠i2->s.heap.get? c=some o->h'.get? c=some o)->(∃o,h'.get? e=some o/\o.cls=.type "StopIteration")->E (.ref e) {s with heap:=h' }):
  wpAny (model prog w) A (Builtin.«zip.__next__» ⟨[.ref z],[]⟩) Q E s:=by
 show wpAny _ _ (field (.ref z) 2 >>= _) _ _ _
 refine jc_ (qd_ hz rfl (x:=.bool false) rfl ?_)
 show wpAny _ _ (field (.ref z) 3 >>= _) _ _ _
 refine jc_ (qd_ hz rfl (x:=.ref TI) rfl ?_)
 refine jc_ (qR_ cq rfl ?_)
 show wpAny _ _ (Builtin.SmallTypes.ownedTupleIsFree (.ref z) >>= _) _ _ _
 refine jc_ ?_
 unfold Builtin.SmallTypes.ownedTupleIsFree
 refine jc_ (qd_ hz rfl (x:=.none) rfl (jn_ ?_))
 simp only[xW_]
 refine jc_ (zR_ ?_)
 refine jc_ (qd_ hz rfl (x:=.ref TO) rfl ?_)
 refine jc_ (xe_ hz (by simp) fun h₁ bx aw=>?_)
 replace bx:IsZip h₁ z TI TO .ellipsis:=bx
 refine jc_ ?_
 simp only[tD,uY,xZ_,zd_]
 refine jc_ (jc_ (wpAny_onRaise ?_))
 show wpAny _ _ (Builtin.SmallTypes.nextOf (.ref i1) >>= _) _ _ _
 cases hx:xs[k1]? with
 |none=>
  refine jc_ (Cy hh (h1.extBut aw.extBut D.i1z) (bo.extBut aw.extBut D.l1z) hx fun bg e aC he=>?_)
  obtain⟨oe,kb,nh⟩:=he
  have hz₂:IsZip bg z TI TO .ellipsis:=aC _ _ D.i1z.symm bx
  have qg:e≠z:=fun x=>by subst x;rw[hz₂]at kb;cases kb;simp at nh
  refine xe_ hz₂ (by simp) fun bw _ aF=>hE bw e (fun c o c1 _ c3 _ x=>aF.extBut _ _ c1 (aC _ _ c3 (aw.extBut _ _ c1 x))) ⟨oe,aF.extBut _ _ qg kb,nh⟩
 |some x=>
  have hy:ys[k2]?=none:=by rcases fM with h|h;rw[hx]at h;cases h;exact h
  refine jc_ (Bw (h1.extBut aw.extBut D.i1z) (bo.extBut aw.extBut D.l1z) hx fun bg eY aC=>jn_ ?_)
  have cA:IsPair bg TO a b:=aC.extBut _ _ D.TOi1 (aw.extBut _ _ D.TOz dm)
  refine jc_ (qR_ cA rfl ?_)
  refine jc_ (zP_ cA fun bw dn aF=>?_)
  refine jc_ (zZ_ (jn_ ?_))
  refine jc_ (jc_ (wpAny_onRaise ?_))
  show wpAny _ _ (Builtin.SmallTypes.nextOf (.ref i2) >>= _) _ _ _
  refine jc_ (Cy hh (((h2.extBut aw.extBut D.i2z).extBut aC.extBut D.i12.symm).extBut aF.extBut D.TOi2.symm)
   (((bJ.extBut aw.extBut D.l2z).extBut aC.extBut D.l2i1).extBut aF.extBut D.l2TO) hy fun gD e b9 he=>?_)
  obtain⟨oe,kb,nh⟩:=he
  have hz₄:IsZip gD z TI TO .ellipsis:=b9 _ _ D.i2z.symm (aF.extBut _ _ D.TOz.symm (aC.extBut _ _ D.i1z.symm bx))
  have qg:e≠z:=fun x=>by subst x;rw[hz₄]at kb;cases kb;simp at nh
  refine xe_ hz₄ (by simp) fun aV _ hs₅=>hE aV e (fun c o c1 c2 c3 c4 x=>hs₅.extBut _ _ c1 (b9 _ _ c4 (aF.extBut _ _ c2 (aC.extBut _ _ c3 (aw.extBut _ _ c1 x))))) ⟨oe,hs₅.extBut _ _ qg kb,nh⟩
def DS  {z TI TO i1 i2 l1 l2:Addr}     (D:ZipApart z TI TO i1 i2 l1 l2)
  (hz:IsZip s.heap z TI TO .none) (cq:IsPair s.heap TI (.ref i1) (.ref i2)) (dm:IsPair s.heap TO a b)
  (h1:Bv t1 s.heap i1 l1 k1) (h2:Bv t2 s.heap i2 l2 k2) (bo:Cc t1 s.heap l1 xs) (bJ:Cc t2 s.heap l2 ys) (hx:xs[k1]?=some x) (hy:ys[k2]?=some y)
  (hQ:∀h',IsZip h' z TI TO (rawInt s.heap.objs.size)->IsPair h' TO x y->Bv t1 h' i1 l1 (k1+1)->Bv t2 h' i2 l2 (k2+1)->IsPair h' s.heap.objs.size x y->h'.objs.size=s.heap.objs.size+1 ->
   (∀c o,c≠z->c≠TO->c≠i1->c≠i2->s.heap.get? c=some o->h'.get? c=some o)->Q (some (.ref s.heap.objs.size)) {s with heap:=h' }):
  wpAny (model prog w) A (pyNext (.ref z)) Q E s:=by
 have hT:s.TypeIs (.ref z) "zip" := ⟨_,hz,rfl⟩
 unfold pyNext
 exact jc_ (xl_ (j5_ (name:=Str.ofString "__next__") hT x1_
  (qF_ x1_ hT tP
   (Iu D hz cq dm h1 h2 bo bJ hx hy fun h' a1 a2 a3 a4 a5 a6 a7=>jn_ (hQ h' a1 a2 a3 a4 a5 a6 a7)) (tE _))))
def Ea  {z TI TO i1 i2 l1 l2:Addr}     (hh:A.handled=none)(D:ZipApart z TI TO i1 i2 l1 l2)
  (hz:IsZip s.heap z TI TO .none) (cq:IsPair s.heap TI (.ref i1) (.ref i2)) (dm:IsPair s.heap TO a b)
  (h1:Bv t1 s.heap i1 l1 k1) (h2:Bv t2 s.heap i2 l2 k2) (bo:Cc t1 s.heap l1 xs) (bJ:Cc t2 s.heap l2 ys) (fM:xs[k1]?=none\/ys[k2]?=none)
  (hQ:∀h',(∀c o,c≠z->c≠TO->c≠i1->c≠i2->s.heap.get? c=some o->h'.get? c=some o)->Q none {s with heap:=h' }):wpAny (model prog w) A (pyNext (.ref z)) Q E s:=by
 have hT:s.TypeIs (.ref z) "zip" := ⟨_,hz,rfl⟩
 unfold pyNext
 refine jc_ (xl_ (j5_ (name:=Str.ofString "__next__") hT x1_
  (qF_ x1_ hT tP (JE hh D hz cq dm h1 h2 bo bJ fM fun h' e hk he=>?_) (tE _))))
 obtain⟨o,ho,hc⟩:=he
 refine jc_ (wpAny_isInstance (T := "StopIteration") (b:=true) ⟨o,ho,hc⟩ isSubtype_stop ?_)
 exact jn_ (hQ _ hk)
end
abbrev Ru (t1 t2:Bool)(h:Heap)(l1:Addr):Heap:=h.push {cls:=PM t1,data:=.fields #[.ref l1,.int 0 0]}
abbrev Rv (t1 t2:Bool)(h:Heap)(l1 l2:Addr):Heap:=(Ru t1 t2 h l1).push {cls:=PM t2,data:=.fields #[.ref l2,.int 0 0]}
abbrev Rw (t1 t2:Bool)(h:Heap)(l1 l2:Addr):Heap:=(Rv t1 t2 h l1 l2).push {cls:=.type "tuple",data:=.seq #[.ref h.objs.size,.ref (Ru t1 t2 h l1).objs.size]}
abbrev Rx (t1 t2:Bool)(h:Heap)(l1 l2:Addr):Heap:=(Rw t1 t2 h l1 l2).push {cls:=.type "tuple",data:=.seq #[.none,.none]}
abbrev LI (t1 t2:Bool)(h:Heap)(l1 l2:Addr):Heap:=(Rx t1 t2 h l1 l2).push {cls:=.type "zip",data:=.fields #[.none,.bool false,.bool false,.ref (Rv t1 t2 h l1 l2).objs.size,.ref (Rw t1 t2 h l1 l2).objs.size]}
def Iv (t1 t2:Bool)(l1 l2:Addr)(xs ys:Array Value):
  Meets (Builtin.«zip.__new__» ⟨[.type "zip",.ref l1,.ref l2],[]⟩) (fun _ R s=>Cc t1 s.heap l1 xs/\Cc t2 s.heap l2 ys /\
   R (.ok (.ret (.ref (Rx t1 t2 s.heap l1 l2).objs.size))) {s with heap:=LI t1 t2 s.heap l1 l2}):=
 .of_wp fun prog w A R s h=>by
  obtain⟨hp,g,d,tk,os⟩:=s;obtain⟨bo,bJ,h⟩:=h
  have dj:=sub_zip
  have cP:Cc t1 (Shared.heap ⟨hp,g,d,tk,os⟩) l1 xs:=bo
  have hL2:Cc t2 (Shared.heap ⟨hp.push {cls:=PM t1,data:=.fields #[.ref l1,.int 0 0]},g,d,tk,os⟩) l2 ys:=Cc.push bJ _
  wp_walk using DE cP,DE hL2
  exact⟨_,rfl,h⟩
section
variable {prog:Program} {w:World} {A:Around} {E:Value->Shared->Prop} {s:Shared}
def LJ     (bo:Cc t1 s.heap l1 xs)(bJ:Cc t2 s.heap l2 ys)
  (h:∀h',IsZip h' (s.heap.objs.size+4) (s.heap.objs.size+2) (s.heap.objs.size+3) .none->IsPair h' (s.heap.objs.size+2) (.ref s.heap.objs.size) (.ref (s.heap.objs.size+1)) ->
   IsPair h' (s.heap.objs.size+3) .none .none->Bv t1 h' s.heap.objs.size l1 0->Bv t2 h' (s.heap.objs.size+1) l2 0->h'.objs.size=s.heap.objs.size+5 ->
   (∀c o,s.heap.get? c=some o->h'.get? c=some o)->Q (.ref (s.heap.objs.size+4)) {s with heap:=h' }):
  wpAny (model prog w) A (call (.type "zip") [.ref l1,.ref l2]) Q E s:=by
 refine callType_new wW (by decide) (wa _ _) (wz _ _) (fun obj=>vd obj _ _) wA
  (Iv t1 t2 l1 l2 xs ys) ⟨bo,bJ,?_⟩
 have z1:(Ru t1 t2 s.heap l1).objs.size=s.heap.objs.size+1:=qf_ ..
 have z2:(Rv t1 t2 s.heap l1 l2).objs.size=s.heap.objs.size+2:=by rw[qf_,z1]
 have z3:(Rw t1 t2 s.heap l1 l2).objs.size=s.heap.objs.size+3:=by rw[qf_,z2]
 have z4:(Rx t1 t2 s.heap l1 l2).objs.size=s.heap.objs.size+4:=by rw[qf_,z3]
 have z5:(LI t1 t2 s.heap l1 l2).objs.size=s.heap.objs.size+5:=by rw[qf_,z4]
 have g5:(LI t1 t2 s.heap l1 l2).get? (Rx t1 t2 s.heap l1 l2).objs.size=some _:=jz_ _ rfl
 have g4:(LI t1 t2 s.heap l1 l2).get? (Rw t1 t2 s.heap l1 l2).objs.size=some _:=jg_ _ (jz_ _ rfl)
 have g3:(LI t1 t2 s.heap l1 l2).get? (Rv t1 t2 s.heap l1 l2).objs.size=some _:=jg_ _ (jg_ _ (jz_ _ rfl))
 have g2:(LI t1 t2 s.heap l1 l2).get? (Ru t1 t2 s.heap l1).objs.size=some _:=jg_ _ (jg_ _ (jg_ _ (jz_ _ rfl)))
 have g1:(LI t1 t2 s.heap l1 l2).get? s.heap.objs.size=some _:=jg_ _ (jg_ _ (jg_ _ (jg_ _ (jz_ _ rfl))))
 show _/\_
 rw[z2,z3,z4]at g5
 rw[z1,z2]at g3
 rw[z3]at g4
 rw[z1]at g2
 rw[z4]
 exact⟨⟨_,g5,rfl⟩,h _ g5 g3 g4 (Bv.mk g1) (Bv.mk g2) z5 fun c o x=>
  jg_ _ (jg_ _ (jg_ _ (jg_ _ (jg_ _ x))))⟩
end
end PySem
namespace L2
open PySem PySem.Spec PyProof.Rows GW
def SqB (K:α3)(H:Hp)(t:Bool)(a:Addr)(xs:List V):Prop:=match t with|false=>SqL K H a xs|true=>SqT K H a xs
def Inv.seqB         (I:Inv X ae σ H s)(h:SqB X.K H t a xs):∃its:List Value,Vals xs its/\Cc t s.heap a its.toArray:=by
 cases t
 ·obtain⟨its,r,p,_⟩:=I.list h
  exact⟨its,r,p.isList⟩
 ·obtain⟨its,r,p,_⟩:=I.tuple h
  exact⟨its,r,p⟩
def Itz2 (K:α3)(t1 t2:Bool)(a b:Addr)(xs ys:List V):It:=⟨fun i H=>i<xs.length/\i<ys.length/\SqB K H t1 a xs/\SqB K H t2 b ys,fun i H x H'=>∃t u v,H t=none/\xs[i]?=some u/\ys[i]?=some v/\x=.ref t/\H'=upd H t (.tup [u,v]),fun i H=>(xs.length<=i\/ys.length<=i)/\SqB K H t1 a xs/\SqB K H t2 b ys⟩
def PN {P:Program}{w:World}{K:α3}{gI:List Expr}{x1}{fG:Pos}{t1 t2:Bool}{a b z TI TO i1 i2:Addr}(D:ZipApart z TI TO i1 i2 a b)(xs ys:List V):Turn P w K (.Tuple gI x1 fG) (Itz2 K t1 t2 a b xs ys) [z,TI,TO,i1,i2] z
  (fun i h=>IsZip h z TI TO .none/\IsPair h TI (.ref i1) (.ref i2)/\(∃c d,IsPair h TO c d)/\Bv t1 h i1 a i/\Bv t2 h i2 b i) where
 mem:=by simp
 obj:=fun i h st c hc=>by
  obtain⟨h1,h2,⟨u,v,h3⟩,h4',h5'⟩:=st
  obtain⟨o4,h4,d4⟩:=h4'.ob
  obtain⟨o5,h5,d5⟩:=h5'.ob
  simp only[jD_,zi_,or_false]at hc
  rcases hc with rfl|rfl|rfl|rfl|rfl
  ·exact⟨_,h1,fun v z=>by cases z⟩
  ·exact⟨_,h2,fun v z=>by cases z⟩
  ·exact⟨_,h3,fun v z=>by cases z⟩
  ·exact⟨o4,h4,fun v z=>by rw[d4]at z;cases z⟩
  ·exact⟨o5,h5,fun v z=>by rw[d5]at z;cases z⟩
 keep:=fun i h h' st k=>by
  obtain⟨h1,h2,⟨u,v,h3⟩,h4,h5⟩:=st
  exact⟨k z (by simp) _ h1,k TI (by simp) _ h2,⟨u,v,k TO (by simp) _ h3⟩,h4.at fun o q=>k i1 (by simp) o q,h5.at fun o q=>k i2 (by simp) o q⟩
 item:=by
  intro X hP hw hK hc i ae s σ H E I hf st hg
  subst hP hw hK
  obtain⟨hi,hj,hq,dq⟩:=hg
  obtain⟨hz,cq,⟨c,d,dm⟩,h1,h2⟩:=st
  obtain⟨its,rv,p⟩:=I.seqB hq
  obtain⟨aN,kc,p2⟩:=I.seqB dq
  obtain⟨u,hu,ru⟩:=rv.get (i:=i) (x:=xs[i]) (by simp[hi])
  obtain⟨v,hv,rv'⟩:=kc.get (i:=i) (x:=ys[i]) (by simp[hj])
  refine DS D hz cq dm h1 h2 p p2 (x:=u) (y:=v) (by simpa using hu) (by simpa using hv) fun h' g1 g2 g3 g4 g5 gs gk=>?_
  have l3:s.heap.objs.size≠z:=qe_ (jt_ hz)
  refine⟨_,rfl,wpAny_letOwnedTupleGo_zip g1 fun eU e1 dk=>?_⟩
  have fJ:∀b o,b ∉ [z,TI,TO,i1,i2]->s.heap.get? b=some o->eU.get? b=some o:=fun b o hb q=>by
   simp only[jD_,zi_,or_false,not_or]at hb
   exact (dk.2 b hb.1).trans (gk b o hb.1 hb.2.2.1 hb.2.2.2.1 hb.2.2.2.2 q)
  obtain⟨un,hok⟩:=I.unL fJ hf
  have hn:H s.heap.objs.size=none:=I.hok.fresh (ji_ _)
  have new:Bk X.prog X.w (upd H s.heap.objs.size (.tup [xs[i],ys[i]])) eU s.heap.objs.size (.tup [xs[i],ys[i]]):=⟨by have:=Ar;simp;lia,[u,v],.cons ru (.cons rv' .nil),_,(dk.2 _ l3).trans g5,rfl,_,rfl⟩
  refine⟨.ref s.heap.objs.size,upd H s.heap.objs.size (.tup [xs[i],ys[i]]),I.call' (s':={s with heap:=eU }) (ch:=[z,TI,TO,i1,i2]) rfl (un.track (ji_ _) hn) (hok.track hn new) I.bare (fun b hb=>?_),rfl,⟨_,_,_,hn,by simp[hi],by simp[hj],rfl,rfl⟩,?_,fun b hb=>?_⟩
  ·exact (hf b hb).ch
  ·refine⟨e1,(dk.2 TI D.TIz).trans (gk TI _ D.TIz D.TITO D.TIi1 D.TIi2 cq),⟨u,v,(dk.2 TO D.TOz).trans g2⟩,g3.at fun o q=>(dk.2 i1 D.i1z).trans q,g4.at fun o q=>(dk.2 i2 D.i2z).trans q⟩
  ·have iT:=hf b hb
   have:∃o,s.heap.get? b=some o:=by
    simp only[jD_,zi_,or_false]at hb
    rcases hb with rfl|rfl|rfl|rfl|rfl
    ·exact⟨_,hz⟩
    ·exact⟨_,cq⟩
    ·exact⟨_,dm⟩
    ·obtain⟨o,ho,_⟩:=h1.ob;exact⟨o,ho⟩
    ·obtain⟨o,ho,_⟩:=h2.ob;exact⟨o,ho⟩
   obtain⟨o,ho⟩:=this
   rw[Ah (jO_ (jt_ ho))]
   exact iT.1
 done:=by
  intro X hP hw hK hc i ae s σ H E I hf st hg
  subst hP hw hK
  obtain⟨hi,hq,dq⟩:=hg
  obtain⟨hz,cq,⟨c,d,dm⟩,h1,h2⟩:=st
  obtain⟨its,rv,p⟩:=I.seqB hq
  obtain⟨aN,kc,p2⟩:=I.seqB dq
  have l1:=rv.length
  have l2:=kc.length
  refine Ea (I.ok.hd hc) D hz cq dm h1 h2 p p2 (by simp;lia) fun h' gk=>⟨rfl,?_⟩
  obtain⟨un,hok⟩:=I.unL (h':=h') (fun b o hb q=>by
   simp only[jD_,zi_,or_false,not_or]at hb
   exact gk b o hb.1 hb.2.2.1 hb.2.2.2.1 hb.2.2.2.2 q) hf
  exact I.call' (s':={s with heap:=h' }) (ch:=[z,TI,TO,i1,i2]) rfl un hok I.bare fun b hb=>(hf b hb).ch
 self:=fun A i s Q E st h=>wpAny_pyIter_zip st.1 h
def Vu (K:α3)(ta:TA):TI:=fun σ H R=>ta σ H fun vs H1=>∃a b xs ys t1 t2,vs=[.ref a,.ref b]/\SqB K H1 t1 a xs/\SqB K H1 t2 b ys/\R (Itz2 K t1 t2 a b xs ys) H1
theorem PP {K:α3}     : Vu K ta σ H Z=ta σ H fun vs H1=>∃a b xs ys t1 t2,vs=[.ref a,.ref b]/\SqB K H1 t1 a xs/\SqB K H1 t2 b ys/\Z (Itz2 K t1 t2 a b xs ys) H1:=rfl
def T8   {x1}     (hg:Gl X "zip")(hm:X.mg "zip"=none)(ha:PA X [e,f] ta)(hs:starEach [e,f] X.env=[(false,eval e X.env),(false,eval f X.env)]:=by rfl)(dk:starEach [f] X.env=[(false,eval f X.env)]:=by rfl):PI X (.Tuple gI x1 fG) (.Call (.Name "zip" p) [e,f] [] pos) (Vu X.K ta):=by
 intro ae s σ H R I h
 refine Call_ (DW I hg hm boot_zip (qk_ (thn (ha pos ae s σ H _ I h) fun us s1 ⟨vs,H1,I1,r1,q1⟩=>?_) (by rw[hs,dk]) (by rw[dk];rfl)))
 obtain⟨a,b,xs,ys,t1,t2,ev,hq,dq,q⟩:=q1
 subst ev
 cases r1 with
 |cons r rr=>cases rr with
  |cons r' rr=>
   cases rr
   cases r
   cases r'
   obtain⟨its,rv,pl⟩:=I1.seqB hq
   obtain⟨aN,kc,l4⟩:=I1.seqB dq
   refine LJ pl l4 fun h' hz cq dm qh jG hsz hk=>?_
   refine wpAny_pyIter_zip (s:={s1 with heap:=h' }) hz ?_
   have I2:Inv X ae σ H1 {s1 with heap:=h' }:=I1.kept (t':=s1.toks) hk
   refine⟨_,_,_,_,H1,rfl,I2,PN (zipApart_new pl.lt l4.lt) xs ys,⟨hz,cq,⟨_,_,dm⟩,qh,jG⟩,fun c hc=>?_,q⟩
   have bh:s1.heap.objs.size<=c:=by
    simp only[jD_,zi_,or_false]at hc
    rcases hc with rfl|rfl|rfl|rfl|rfl
    ·exact xt_ _ 4
    ·exact xt_ _ 2
    ·exact xt_ _ 3
    ·exact ji_ _
    ·exact xt_ _ 1
   exact I1.fpOk bh (I1.hok.fresh bh)
def We {K:α3}         (n:Nat)(cC:n<=xs.length)(gR:n<=ys.length)(hn3:xs.length=n\/ys.length=n)(Pv:Nat->St->Hp->Prop)(h0:Pv 0 σ H)(hl:∀i σ H,i<=n->Pv i σ H->SqB K H t1 a xs/\SqB K H t2 b ys)
  (hs:∀i u v σ H t,i<n->xs[i]?=some u->ys[i]?=some v->Pv i σ H->H t=none->g (.ref t) σ (upd H t (.tup [u,v])) fun ai H2=>tb {D with nx:=Pv (i+1),ct:=Pv (i+1),bk:=D.nx} ai H2) (hd:∀σ H,Pv n σ H->D.nx σ H):ForW (Itz2 K t1 t2 a b xs ys) g tb D σ H:=by
 refine⟨fun i m σ H=>m+i=n/\Pv i σ H,⟨n,by lia,h0⟩,fun i m σ H ⟨hm,hp⟩=>?_⟩
 obtain⟨q1,q2⟩:=hl i σ H s!"" hp
 by_cases hi:i<n
 ·refine .inr ⟨⟨by lia,by lia,q1,q2⟩,Pv (i+1),fun af H' h=>⟨m-1,by lia,by lia,h⟩,fun x H' hy=>?_⟩
  obtain⟨t,u,v,e1,e2,e3,rfl,rfl⟩:=hy
  exact hs i u v σ H t hi e2 e3 hp e1
 ·have e:i=n:=by lia
  subst e
  exact .inl ⟨⟨by lia,q1,q2⟩,hd σ H hp⟩
end L2
namespace Nest
def sl (row:α2)(b i:Nat):α2:=(row.take i).drop b
def outF (p e:Int)(s:α2×Int)(x:Int):α2×Int:=if x=e then (s.1,s.2-1) else (if s.2=0 then s.1++[x] else s.1,if p<=x then s.2+1 else s.2)
def outS (p e:Int)(l:α2):α2×Int:=l.foldl (outF p e) ([],0)
def outW (p e:Int)(l:α2):α2:=(outS p e l).1
def wd (p e:Int)(row:α2)(i a:Nat):α2:=outW p e (sl row (a+1) i)
end Nest
namespace L2
open PySem PySem.Spec PyProof.Rows GW
def PQ  {K:α3}   (hK:X.K=K)(hl:PE X l tl):PI X tg l (iTup K tl):=by subst hK;exact EU hl
end L2
namespace L2
open PySem PySem.Spec PyProof.Rows
def PR  {K:α3}(h:X.K=K):OpR X (binaryOp .Add) (EV K):=by subst h;exact ED
end L2
namespace L2
open PySem PySem.W PySem.Spec PySem.Calls PyProof.Rows
def NG    [DecidableEq κ](knd:HeapKind prog w κ)  (hd:(d==sysModules)=false):
  MeetsIn prog w (Builtin.«dict.__len__» ⟨[.ref d],[]⟩) (fun _ R s=>∃xs,s.heap.DictOfH knd d xs/\R (.ok (.ret (.int (xs.length:Nat) s.toks))) {s with toks:=s.toks+1}):=
 .of_wp fun A R s ⟨xs,⟨o,es,ep,ho,_,i3,he,_⟩,h⟩=>by
  show wpAny _ _ (dictSize d >>= _) _ _ s
  unfold dictSize
  refine jc_ (jc_ (zE_ ho i3 (jn_ ?_)))
  refine jc_ (wpAny_pendingCount_other hd (wpAny_ret_mkInt ?_))
  rw[uB,size_of_entries he]
  exact h
def Vv {prog:Program}{w:World}{κ:Type}[DecidableEq κ]{knd:HeapKind prog w κ}{A:Around}{E:Value->Shared->Prop}{s:Shared}{d:Addr}{xs:List (κ×Addr×Value)}{Q:Value->Shared->Prop}(hd:(d==sysModules)=false)(hm:s.heap.DictOfH knd d xs)(hfit:(xs.length:Int)<2 ^ 63)
  (h:Q (.int xs.length (s.toks+1)) {s with toks:=s.toks+1+1}):wpAny (model prog w) A (call (.builtin "len") [.ref d]) Q E s:=by
 refine Calls.call_function_entry kind_len plain_len entry_len (args_len1 _) ?_
 unfold Builtin.«len»
 refine jc_ (m:=oneArg "len" _) (jn_ (jc_ (m:=callSpecial? (.ref d) (Str.ofString "__len__")) (j5_ (name:=Str.ofString "__len__") hm.typeIs F.slot_dict_len (call_meetsIn F.slot_dict_len hm.typeIs F.entry_dict_len (F.args_dict_len_1 _) (NG knd hd) ⟨xs,hm,?_⟩))))
 show wpAny _ _ _ _ _ {s with toks:=s.toks+1}
 refine jc_ (qK_ (jn_ (jc_ (zZ_ ?_))))
 show wpAny _ _ (if ((xs.length:Nat):Int)<0 then _ else _) _ _ _
 rw[if_neg s!""]
 show wpAny _ _ (if ((xs.length:Nat):Int) >= 2 ^ 63 then _ else _) _ _ _
 rw[if_neg s!""]
 exact jc_ (wpAny_mkInt (jn_ ⟨_,rfl,h⟩))
def Iw  : Cm X (.builtin "len") (fun xs H Q=>∃p kvs,xs=[.ref p]/\H p=some (.dT kvs)/\Q (.int kvs.length) H):=by
 intro ae s σ H xs us Q I r h
 obtain⟨p,kvs,rfl,e,q⟩:=h
 obtain⟨u,rfl,rx⟩:=vals1 r
 cases rx
 obtain⟨z,hd,xs,bu,dd⟩:=TH I.hok e
 have hn:=Kl
 have aj:kvs.length=xs.length:=bu.length
 exact Vv hd dd s!"" ⟨.int kvs.length,H,I.tok _,⟨_,by rw[aj]⟩,q⟩
def MT (K:α3)(H:Hp)(xs:List V)(ws:α1):Prop:=xs.length=ws.length/\∀(i:Nat) (w:α2),ws[i]?=some w->∃t,xs[i]?=some (.ref t)/\H t=some (.lst (w.map V.int))
def MT.at {K:α3}{H:Hp}{xs:List V}{ws:α1}(h:MT K H xs ws){i:Nat}{x:V}(hx:xs[i]?=some x):∃t w,ws[i]?=some w/\x=.ref t/\H t=some (.lst (w.map V.int)):=by
 have hi:i<ws.length:=by rw[<-h.1];exact (jb_.mp hx).1
 obtain⟨t,a,b⟩:=h.2 i ws[i] (by simp[hi])
 rw[hx]at a
 exact⟨t,ws[i],by simp[hi],js_ a,b⟩
def MU:∀{ws:α1} {m:Nat} {w:α2},ws[m]?=some w->ws.idxOf w<=m
 |[],m,w,h=>by simp at h
 |v::ws,m,w,h=>by
  rw[z0_]
  cases m with
  |zero=>
   have:v=w:=by simpa using h
   simp[this]
  |succ m=>
   have:=MU (ws:=ws) (m:=m) (w:=w) (by simpa using h)
   cases e:(v==w) with
   |true=>exact jY_ _
   |false=>exact uN this
end L2
set_option maxHeartbeats 1000000
set_option maxHeartbeats 4000000
namespace L2
open PySem
abbrev Hw (h:Heap)(z TI TO T:Addr)(f:Bool):Prop:=
 h.get? z=some {cls:=.type "zip",dict:=none,data:=.fields #[rawInt T,.bool f,.bool false,.ref TI,.ref TO],slots := #[]}
section
variable {prog:Program} {w:World} {A:Around} {E:Value->Shared->Prop} {s:Shared}
def Ry    (ho:s.heap.get? a=some o)(h:Q (some o) s):wpAny (model prog w) A (loadIfAlive a) Q E s:=by
 have h':Q (s.heap.get? a) s:=by rw[ho];exact h
 exact fun _ _ _=>h'
def PU {z TI TO T:Addr}    (hz:Hw s.heap z TI TO T f)(hT:s.heap.get? T=some oT)(l3:T≠z)
  (hQ:∀h',Hw h' z TI TO T true->Heap.SameBut z s.heap h'->Q false {s with heap:=h' }):wpAny (model prog w) A (Builtin.SmallTypes.ownedTupleIsFree (.ref z)) Q E s:=by
 unfold Builtin.SmallTypes.ownedTupleIsFree
 refine jc_ (qd_ hz rfl (x:=rawInt T) rfl ?_)
 show wpAny _ _ (loadIfAlive ((T:Int).toNat) >>= _) _ _ _
 rw[jj_]
 refine jc_ (Ry hT ?_)
 simp only[Option.isNone_some,jT_,qX_]
 refine jc_ (qd_ hz rfl (x:=.bool f) rfl ?_)
 cases f with
 |true=>
  rw[if_neg (show ¬ ((Value.bool true != Value.bool true)=true) from ju_)]
  exact jn_ (hQ _ hz (Heap.SameBut.refl _ _))
 |false=>
  rw[if_pos (show (Value.bool false != Value.bool true)=true from rfl)]
  exact jc_ (xe_ hz (by simp) fun bw he₃ aF=>jn_ (hQ bw he₃ aF))
def LK {z TI TO i1 i2 l1 l2 T:Addr}{f:Bool}{oT:Obj}{k1 k2:Nat}{xs ys:Array Value}{x y:Value}{Q:Value->Shared->Prop}(D:ZipApart z TI TO i1 i2 l1 l2)
  (hz:Hw s.heap z TI TO T f) (hT:s.heap.get? T=some oT) (l3:T≠z) (cq:IsPair s.heap TI (.ref i1) (.ref i2))
  (h1:s.heap.IsListIter i1 l1 k1) (h2:s.heap.IsListIter i2 l2 k2) (bo:s.heap.IsList l1 xs) (bJ:s.heap.IsList l2 ys) (hx:xs[k1]?=some x) (hy:ys[k2]?=some y)
  (hQ:∀h',Hw h' z TI TO T true->h'.IsListIter i1 l1 (k1+1)->h'.IsListIter i2 l2 (k2+1)->IsPair h' s.heap.objs.size x y->h'.objs.size=s.heap.objs.size+1 ->
   (∀c o,c≠z->c≠i1->c≠i2->s.heap.get? c=some o->h'.get? c=some o)->Q (.ref s.heap.objs.size) {s with heap:=h' }):
  wpAny (model prog w) A (Builtin.«zip.__next__» ⟨[.ref z],[]⟩) (fun fin s'=>∃v,fin=.done (.ret v)/\Q v s') E s:=by
 show wpAny _ _ (field (.ref z) 2 >>= _) _ _ _
 refine jc_ (qd_ hz rfl (x:=.bool false) rfl ?_)
 show wpAny _ _ (field (.ref z) 3 >>= _) _ _ _
 refine jc_ (qd_ hz rfl (x:=.ref TI) rfl ?_)
 refine jc_ (qR_ cq rfl ?_)
 show wpAny _ _ (Builtin.SmallTypes.ownedTupleIsFree (.ref z) >>= _) _ _ _
 refine jc_ (PU hz hT l3 fun h₁ bx aw=>?_)
 simp only[jT_,qX_]
 rw[<-uo]
 simp only[xZ_,zd_]
 refine jc_ (jc_ (jc_ (qK_ ?_)))
 show wpAny _ _ (Builtin.SmallTypes.nextOf (.ref i1) >>= _) _ _ _
 refine jc_ (zB_ (h1.extBut aw.extBut D.i1z) (bo.extBut aw.extBut D.l1z) hx fun bg eY aC=>jn_ (jn_ ?_))
 refine jc_ (jc_ (qK_ ?_))
 show wpAny _ _ (Builtin.SmallTypes.nextOf (.ref i2) >>= _) _ _ _
 refine jc_ (zB_ ((h2.extBut aw.extBut D.i2z).extBut aC.extBut D.i12.symm) ((bJ.extBut aw.extBut D.l2z).extBut aC.extBut D.l2i1) hy fun bw h2₃ aF=>jn_ (jn_ (jn_ ?_)))
 have hsz:bw.objs.size=s.heap.objs.size:=by rw[aF.1,aC.1,aw.1]
 have hz₃:Hw bw z TI TO T true:=aF.extBut _ _ D.i2z.symm (aC.extBut _ _ D.i1z.symm bx)
 have hk:∀c o,c≠z->c≠i1->c≠i2->s.heap.get? c=some o->bw.get? c=some o:=fun c o c1 c2 c3 e=>aF.extBut _ _ c3 (aC.extBut _ _ c2 (aw.extBut _ _ c1 e))
 have h1₃:bw.IsListIter i1 l1 (k1+1):=eY.extBut aF.extBut D.i12
 refine jc_ (wpAny_newTuple ?_ (hsz:=by show 2<=sizeLine;decide))
 refine jn_ ⟨_,rfl,?_⟩
 show Q (.ref bw.objs.size) _
 rw[hsz]
 refine hQ _ (jg_ _ hz₃) (h1₃.at fun o e=>jg_ _ e) (h2₃.at fun o e=>jg_ _ e) ?_ (by rw[qf_,hsz]) fun c o c1 c2 c3 e=>jg_ _ (hk c o c1 c2 c3 e)
 rw[<-hsz]
 exact jz_ _ rfl
def NH {z TI TO i1 i2 l1 l2 T:Addr}      (hh:A.handled=none)(D:ZipApart z TI TO i1 i2 l1 l2)
  (hz:Hw s.heap z TI TO T f) (hT:s.heap.get? T=some oT) (l3:T≠z) (cq:IsPair s.heap TI (.ref i1) (.ref i2))
  (h1:s.heap.IsListIter i1 l1 k1) (bo:s.heap.IsList l1 xs) (hx:xs[k1]?=none)
  (hE:∀h' e,(∀c o,c≠z->c≠i1->c≠i2->s.heap.get? c=some o->h'.get? c=some o)->(∃o,h'.get? e=some o/\o.cls=.type "StopIteration")->E (.ref e) {s with heap:=h' }):
  wpAny (model prog w) A (Builtin.«zip.__next__» ⟨[.ref z],[]⟩) Q E s:=by
 show wpAny _ _ (field (.ref z) 2 >>= _) _ _ _
 refine jc_ (qd_ hz rfl (x:=.bool false) rfl ?_)
 show wpAny _ _ (field (.ref z) 3 >>= _) _ _ _
 refine jc_ (qd_ hz rfl (x:=.ref TI) rfl ?_)
 refine jc_ (qR_ cq rfl ?_)
 show wpAny _ _ (Builtin.SmallTypes.ownedTupleIsFree (.ref z) >>= _) _ _ _
 refine jc_ (PU hz hT l3 fun h₁ bx aw=>?_)
 simp only[jT_,qX_]
 rw[<-uo]
 simp only[xZ_,zd_]
 refine jc_ (jc_ (jc_ (qK_ ?_)))
 show wpAny _ _ (Builtin.SmallTypes.nextOf (.ref i1) >>= _) _ _ _
 exact jc_ (wpAny_nextOf_list_end hh (h1.extBut aw.extBut D.i1z) (bo.extBut aw.extBut D.l1z) hx fun bg e aC he=>hE bg e (fun c o c1 c2 _ x=>aC _ _ c2 (aw.extBut _ _ c1 x)) he)
def ZSt (h:Heap)(z TI TO i1 i2 l1 l2 S:Addr)(xs ys:Array Value)(i:Nat):Prop:=
 IsPair h TI (.ref i1) (.ref i2)/\h.IsListIter i1 l1 i/\h.IsListIter i2 l2 i/\h.IsList l1 xs/\h.IsList l2 ys /\
 ((IsZip h z TI TO .none/\∃a b,IsPair h TO a b) \/ ∃T f oT,Hw h z TI TO T f/\h.get? T=some oT/\T≠z/\T≠i1/\T≠i2/\T≠S)
structure ZFar (z TI TO i1 i2 l1 l2 S:Addr):Prop where
 z:z≠S
 TI:TI≠S
 TO:TO≠S
 i1:i1≠S
 i2:i2≠S
 l1:l1≠S
 l2:l2≠S
def ZSt.keep  {z TI TO i1 i2 l1 l2 S:Addr}   (F:ZFar z TI TO i1 i2 l1 l2 S)(x:ZSt h z TI TO i1 i2 l1 l2 S xs ys i)(hk:∀b o,b≠S->h.get? b=some o->h'.get? b=some o):ZSt h' z TI TO i1 i2 l1 l2 S xs ys i:=by
 obtain⟨a1,a2,a3,a4,a5,a6⟩:=x
 refine⟨hk _ _ F.TI a1,a2.at fun o e=>hk _ o F.i1 e,a3.at fun o e=>hk _ o F.i2 e,a4.at fun o e=>hk _ o F.l1 e,a5.at fun o e=>hk _ o F.l2 e,?_⟩
 rcases a6 with ⟨b1,u,v,b2⟩|⟨T,f,oT,b1,b2,b3,b4,b5,b6⟩
 ·exact .inl ⟨hk _ _ F.z b1,u,v,hk _ _ F.TO b2⟩
 ·exact .inr ⟨T,f,oT,hk _ _ F.z b1,hk _ _ b6 b2,b3,b4,b5,b6⟩
def T9 {z TI TO i1 i2 l1 l2 S:Addr}     (D:ZipApart z TI TO i1 i2 l1 l2)(dC:ZSt s.heap z TI TO i1 i2 l1 l2 S xs ys i)(hS:S<s.heap.objs.size)
  (hx:xs[i]?=some x) (hy:ys[i]?=some y)
  (hQ:∀h',ZSt h' z TI TO i1 i2 l1 l2 S xs ys (i+1)->IsPair h' s.heap.objs.size x y->h'.objs.size=s.heap.objs.size+1 ->
   (∀c o,c≠z->c≠TO->c≠i1->c≠i2->s.heap.get? c=some o->h'.get? c=some o)->Q (some (.ref s.heap.objs.size)) {s with heap:=h' }):
  wpAny (model prog w) A (pyNext (.ref z)) Q E s:=by
 obtain⟨a1,a2,a3,a4,a5,a6⟩:=dC
 have oq:i1<s.heap.objs.size:=by obtain⟨_,e,_⟩:=id a2;exact jt_ e
 have ot:i2<s.heap.objs.size:=by obtain⟨_,e,_⟩:=id a3;exact jt_ e
 rcases a6 with ⟨b1,u,v,b2⟩|⟨T,f,oT,b1,b2,b3,b4,b5,b6⟩
 ·have lz:=jt_ b1
  refine wpAny_pyNext_zip_item D b1 a1 b2 a2 a3 a4 a5 hx hy fun h' c1 c2 c3 c4 c5 c6 c7=>hQ h' ⟨?_,c3,c4,a4.at fun o e=>c7 _ o D.l1z D.l1TO D.l1i1 D.l1i2 e,a5.at fun o e=>c7 _ o D.l2z D.l2TO D.l2i1 D.l2i2 e,.inr ⟨_,false,_,c1,c5,qe_ lz,qe_ oq,qe_ ot,qe_ hS⟩⟩ c5 c6 c7
  exact c7 _ _ D.TIz D.TITO D.TIi1 D.TIi2 a1
 ·have hT:s.TypeIs (.ref z) "zip" := ⟨_,b1,rfl⟩
  unfold pyNext
  refine jc_ (xl_ (j5_ (name:=Str.ofString "__next__") hT z1_
   (qF_ z1_ hT F.entry_zip_next
    (LK D b1 b2 b3 a1 a2 a3 a4 a5 hx hy fun h' c1 c3 c4 c5 c6 c7=>jn_ (hQ h' ⟨?_,c3,c4,a4.at fun o e=>c7 _ o D.l1z D.l1i1 D.l1i2 e,a5.at fun o e=>c7 _ o D.l2z D.l2i1 D.l2i2 e,.inr ⟨T,true,oT,c1,c7 _ _ b3 b4 b5 b2,b3,b4,b5,b6⟩⟩ c5 c6 fun c o d1 _ d3 d4 e=>c7 c o d1 d3 d4 e)) (F.args_zip_next_1 _))))
  exact c7 _ _ D.TIz D.TIi1 D.TIi2 a1
def Ua {z TI TO i1 i2 l1 l2 S:Addr}    (hh:A.handled=none)(D:ZipApart z TI TO i1 i2 l1 l2)(dC:ZSt s.heap z TI TO i1 i2 l1 l2 S xs ys i)(hx:xs[i]?=none)
  (hQ:∀h',(∀c o,c≠z->c≠TO->c≠i1->c≠i2->s.heap.get? c=some o->h'.get? c=some o)->Q none {s with heap:=h' }):wpAny (model prog w) A (pyNext (.ref z)) Q E s:=by
 obtain⟨a1,a2,a3,a4,a5,a6⟩:=dC
 rcases a6 with ⟨b1,u,v,b2⟩|⟨T,f,oT,b1,b2,b3,b4,b5,b6⟩
 ·exact wpAny_pyNext_zip_end hh D b1 a1 b2 a2 a3 a4 a5 (.inl hx) hQ
 ·have hT:s.TypeIs (.ref z) "zip" := ⟨_,b1,rfl⟩
  unfold pyNext
  refine jc_ (xl_ (j5_ (name:=Str.ofString "__next__") hT z1_
   (qF_ z1_ hT F.entry_zip_next (NH (A:=A.in1) hh D b1 b2 b3 a1 a2 a4 hx fun h' e hk he=>?_) (F.args_zip_next_1 _))))
  obtain⟨o,ho,hc⟩:=he
  refine jc_ (wpAny_isInstance (T := "StopIteration") (b:=true) ⟨o,ho,hc⟩ isSubtype_stop ?_)
  exact jn_ (hQ _ fun c o c1 _ c3 c4 e=>hk c o c1 c3 c4 e)
end
structure ZG (xs ys:Array Value)(lo:Addr)(h:Heap)(as:List Addr):Prop where
 rise:as.Pairwise (· < ·)
 above:∀a∈as,lo<a
 pairs:∀(j:Nat) (a:Addr),as[j]?=some a->∃x y,xs[j]?=some x/\ys[j]?=some y/\IsPair h a x y
def ZG.low  {lo:Addr}   (g:ZG xs ys lo h as)  (ha:a∈as):a<h.objs.size:=by
 obtain⟨j,hj⟩:=jK_.mp ha
 obtain⟨_,_,_,_,e⟩:=g.pairs j a hj
 exact jt_ e
section
variable {prog:Program} {w:World} {A:Around} {s:Shared} {R:Result->Shared->Prop} {xs ys:Array Value} {z TI TO i1 i2 l1 l2 S:Addr}
def Rz (z TO i1 i2 S:Addr)(h h':Heap):Prop:=∀b o,b≠S->b≠z->b≠TO->b≠i1->b≠i2->h.get? b=some o->h'.get? b=some o
def Ub (hh:A.handled=none)(D:ZipApart z TI TO i1 i2 l1 l2)(F:ZFar z TI TO i1 i2 l1 l2 S)(ar:z<S/\TO<S/\i1<S/\i2<S)(hn:xs.size<=sizeLine)(l5:xs.size=ys.size)(res:Value)
  (hR:∀h' tk ah c as,Rz z TO i1 i2 S h₁ h'->h'.get? S=some {cls:=.type "list",dict:=none,data:=.seq ah c,slots := #[]}->as.length=xs.size->ZG xs ys S h' as->ah.toList=as.map Value.ref->R (.ok (.ret res)) {s with heap:=h',toks:=tk}):
  ∀(k i:Nat) (h:Heap) (tk c:Nat) (ah:Array Value) (as:List Addr),xs.size-i=k->i<=xs.size->ZSt h z TI TO i1 i2 l1 l2 S xs ys i->Rz z TO i1 i2 S h₁ h ->
   h.get? S=some {cls:=.type "list",dict:=none,data:=.seq ah c,slots := #[]}->ah.toList=as.map Value.ref->as.length=i->ZG xs ys S h as ->
   codeAny (model prog w) A (.builtin "list.extend.loop" ⟨[.ref S,.ref z,res],[]⟩) R {s with heap:=h,toks:=tk}:=by
 obtain⟨g1,g2,g3,g4⟩:=ar
 intro k
 induction k with
 |zero=>
  intro i h tk c ah as hk hi dC gS hS aS e9 hG
  refine codeAny_builtin sQ ?_
  rw[Around.under_plainId xD_ _]
  show wpAny _ A.in1 (pyNext (.ref z) >>= _) _ _ _
  refine jc_ (Ua (s:={s with heap:=h,toks:=tk}) (A:=A.in1) hh D dC (tK s!"") fun h' he=>?_)
  refine jn_ (hR h' tk ah c as (fun b o b0 b1 b2 b3 b4 e=>he b o b1 b2 b3 b4 (gS b o b0 b1 b2 b3 b4 e)) (he S _ F.z.symm F.TO.symm F.i1.symm F.i2.symm hS) s!"" ⟨hG.rise,hG.above,fun j a hj=>?_⟩ aS)
  obtain⟨x,y,e1,e2,e3⟩:=hG.pairs j a hj
  have:=hG.above a (jd_ hj)
  exact⟨x,y,e1,e2,he a _ (qe_ (xQ_ g1 this)) (qe_ (xQ_ g2 this)) (qe_ (xQ_ g3 this)) (qe_ (xQ_ g4 this)) e3⟩
 |succ k ih=>
  intro i h tk c ah as hk hi dC gS hS aS e9 hG
  have ar:i<xs.size:=by lia
  have hx:xs[i]?=some xs[i]:=by simp[ar]
  have hy:ys[i]?=some (ys[i]'s!""):=by simp[show i<ys.size by lia]
  generalize xs[i]=x at hx
  generalize ys[i]'s!""=y at hy
  have hsz:ah.size=i:=by rw[<-j3_,aS,ja_,e9]
  have qk:S<h.objs.size:=jt_ hS
  refine codeAny_builtin sQ ?_
  rw[Around.under_plainId xD_ _]
  show wpAny _ A.in1 (pyNext (.ref z) >>= _) _ _ _
  refine jc_ (T9 (s:={s with heap:=h,toks:=tk}) (S:=S) D dC qk hx hy fun h' j6 ht hz ou=>?_)
  dsimp only at ht hz ou ⊢
  have l7:=ou S _ F.z.symm F.TO.symm F.i1.symm F.i2.symm hS
  have up:∀b o,b≠S->h'.get? b=some o->(h'.update S (Obj.mapSeq (·.push (Value.ref h.objs.size)))).get? b=some o:=fun b o hb e=>(j8_ _ _ (qp_ hb)).trans e
  show wpAny _ A.in1 (updateSeq S (·.push (Value.ref h.objs.size)) >>= _) _ _ _
  refine jc_ ?_
  refine z2_ l7 rfl (jn_ ⟨plainId_quiet xD_ _,ih (i+1) _ tk _ (ah.push (Value.ref h.objs.size)) (as++[h.objs.size]) s!"" ar (j6.keep F up)
   (fun b o b0 b1 b2 b3 b4 e=>up b o b0 (ou b o b1 b2 b3 b4 (gS b o b0 b1 b2 b3 b4 e))) (qM_ _ l7 rfl) (by rw[wg_,aS,jS_];rfl) (by rw[jl_,e9];rfl) ⟨?_,?_,?_⟩⟩) (by rw[hsz];lia) (by show (ah.push (Value.ref h.objs.size)).size<=sizeLine+1;rw[uZ];lia)
  ·refine q5_.mpr ⟨hG.rise,tF _ _,fun a ha b hb=>?_⟩
   rw[jr_.mp hb]
   exact hG.low ha
  ·intro a ha
   rcases jw_.mp ha with ha|ha
   ·exact hG.above a ha
   ·rw[jr_.mp ha];exact qk
  ·intro j b hj
   rcases Nat.lt_trichotomy j as.length with h1|h1|h1
   ·rw[je_ h1]at hj
    obtain⟨x',y',e1,e2,e3⟩:=hG.pairs j b hj
    have hb:=hG.above b (jd_ hj)
    exact⟨x',y',e1,e2,up b _ (qe_ hb) (ou b _ (qe_ (xQ_ g1 hb)) (qe_ (xQ_ g2 hb)) (qe_ (xQ_ g3 hb)) (qe_ (xQ_ g4 hb)) e3)⟩
   ·subst h1
    have hb:h.objs.size=b:=by simpa using hj
    subst hb
    exact⟨x,y,by rw[e9];exact hx,by rw[e9];exact hy,up _ _ (qe_ qk) ht⟩
   ·have hnone:(as++[h.objs.size])[j]?=none:=jV_ (by rw[jl_,jP_];lia)
    rw[hnone]at hj;cases hj
end
def PV:typeLookup (.type "zip") "__len__"=pure none:=by rw[typeLookup_type,builtinLookup_eq_fast];kernel_rfl
def NJ:typeLookup (.type "zip") "__length_hint__"=pure none:=by rw[typeLookup_type,builtinLookup_eq_fast];kernel_rfl
section
variable {prog:Program} {w:World} {A:Around} {s:Shared} {R:Result->Shared->Prop} {xs ys:Array Value} {z TI TO i1 i2 l1 l2 S:Addr}
def PX (hh:A.handled=none)(D:ZipApart z TI TO i1 i2 l1 l2)(F:ZFar z TI TO i1 i2 l1 l2 S)(ar:z<S/\TO<S/\i1<S/\i2<S)(hn:xs.size<=sizeLine)(l5:xs.size=ys.size)(res:Value)(c₀:Nat)
  (hz:IsZip s.heap z TI TO .none) (dC:ZSt s.heap z TI TO i1 i2 l1 l2 S xs ys 0) (hS:s.heap.get? S=some {cls:=.type "list",data:=.seq #[] c₀})
  (hR:∀h' tk ah c as,Rz z TO i1 i2 S s.heap h'->h'.get? S=some {cls:=.type "list",dict:=none,data:=.seq ah c,slots := #[]}->as.length=xs.size->ZG xs ys S h' as->ah.toList=as.map Value.ref->R (.ok (.ret res)) {s with heap:=h',toks:=tk}):
  wpAny (model prog w) A.in1 (Builtin.List.listExtendWith (.ref S) (.ref z) res)
   (fun fin s'=>match fin with | .done f=>R (.ok f) s' | .again c'=>c'.quiet=true/\codeAny (model prog w) A c' R s') (fun e s'=>R (.error e) s') s:=by
 have hT:s.TypeIs (.ref z) "zip" := ⟨_,hz,rfl⟩
 unfold Builtin.List.listExtendWith
 refine jc_ (wpAny_typeOf hT ?_)
 have h1:Builtin.List.listSameRef (.ref S) (.ref z)=false:=by simp[Builtin.List.listSameRef,F.z.symm]
 have h2:(Value.type "zip" == Value.type "list")=false:=by decide
 have h3:(Value.type "zip" == Value.type "tuple")=false:=by decide
 simp only[h1,h2,h3,Bool.or_false,jT_,qX_]
 refine jc_ (wpAny_pyIter_zip hz ?_)
 refine jc_ (qK_ ?_)
 unfold Builtin.List.listLengthHint
 refine jc_ (wpAny_specialOf hT PV ?_)
 show wpAny _ A.in1 (specialOf (Value.ref z) (Str.ofString "__length_hint__") >>= _) _ _ _
 refine jc_ (wpAny_specialOf hT NJ ?_)
 refine jn_ ?_
 show wpAny _ A.in1 (rule "list.extend.makes-room" >>= fun _=>Builtin.List.listTouch (.ref S) >>= fun _=>
  again (.builtin "list.extend.loop" ⟨[.ref S,.ref z,res],[]⟩)) _ _ _
 refine jc_ (zR_ ?_)
 refine jc_ ?_
 show wpAny _ A.in1 (updateSeq S (·.push .none) >>= fun _=>updateSeq S (·.pop)) _ _ _
 refine jc_ (z2_ hS rfl ?_)
 have fb:=qM_ (Obj.mapSeq (·.push Value.none)) hS rfl
 refine z2_ (hz:=by seq_fits) fb rfl ?_
 have hS₃:=qM_ (Obj.mapSeq (·.pop)) fb rfl
 have l8:∀b o,b≠S->s.heap.get? b=some o->((s.heap.update S (Obj.mapSeq (·.push Value.none))).update S (Obj.mapSeq (·.pop))).get? b=some o:=
  fun b o hb e=>(j8_ _ _ (qp_ hb)).trans ((j8_ _ _ (qp_ hb)).trans e)
 exact jn_ ⟨plainId_quiet xD_ _,Ub (s:=s) (h₁:=s.heap) hh D F ar hn l5 res hR xs.size 0 _ s.toks _ #[] [] (we _) (jY_ _) (dC.keep F l8) (fun b o b0 _ _ _ _ e=>l8 b o b0 e) hS₃ rfl rfl
  ⟨sI,(fun _ ha=>nomatch ha),(fun j a hj=>by simp at hj)⟩⟩
def Uc (hh:A.handled=none)(D:ZipApart z TI TO i1 i2 l1 l2)(F:ZFar z TI TO i1 i2 l1 l2 S)(ar:z<S/\TO<S/\i1<S/\i2<S)(hn:xs.size<=sizeLine)(l5:xs.size=ys.size)
  (hz:IsZip s.heap z TI TO .none) (dC:ZSt s.heap z TI TO i1 i2 l1 l2 S xs ys 0) (hS:s.heap.get? S=some {cls:=.type "list",data:=.seq #[]})
  (hR:∀h' tk ah c as,Rz z TO i1 i2 S s.heap h'->h'.get? S=some {cls:=.type "list",dict:=none,data:=.seq ah c,slots := #[]}->as.length=xs.size->ZG xs ys S h' as->ah.toList=as.map Value.ref->R (.ok (.ret .none)) {s with heap:=h',toks:=tk}):
  wpAny (model prog w) A.in1 (Builtin.«list.__init__» ⟨[.ref S,.ref z],[]⟩)
   (fun fin s'=>match fin with | .done f=>R (.ok f) s' | .again c'=>c'.quiet=true/\codeAny (model prog w) A c' R s') (fun e s'=>R (.error e) s') s:=by
 show wpAny _ A.in1 (do let ez <- Builtin.List.listItems (.ref S);Builtin.List.listUpdate (.ref S) (fun _ => #[]);letGo ez.toList.reverse;Builtin.List.listExtendWith (.ref S) (.ref z) .none) _ _ s
 refine jc_ ?_
 unfold Builtin.List.listItems
 refine jc_ (qR_ hS rfl (jn_ ?_))
 show wpAny _ A.in1 (updateSeq S (fun _ => #[]) >>= fun _=>letGo (#[]:Array Value).toList.reverse >>= fun _=>Builtin.List.listExtendWith (.ref S) (.ref z) .none) _ _ s
 refine jc_ (z2_ hS rfl ?_)
 have fb:=qM_ (Obj.mapSeq (fun _=>(#[]:Array Value))) hS rfl
 have l8:∀b o,b≠S->s.heap.get? b=some o->(s.heap.update S (Obj.mapSeq (fun _=>(#[]:Array Value)))).get? b=some o:=
  fun b o hb e=>(j8_ _ _ (qp_ hb)).trans e
 refine jc_ (zZ_ ?_)
 exact PX (s:={s with heap:=s.heap.update S (Obj.mapSeq (fun _=>(#[]:Array Value)))}) hh D F ar hn l5 .none _ (l8 _ _ F.z hz) (dC.keep F l8) fb fun h' tk ah c as hk l7 hl hG aS=>hR h' tk ah c as (fun b o b0 b1 b2 b3 b4 e=>hk b o b0 b1 b2 b3 b4 (l8 b o b0 e)) l7 hl hG aS
end
section
variable {prog:Program} {w:World} {A:Around} {E:Value->Shared->Prop} {s:Shared} {xs ys:Array Value} {z TI TO i1 i2 l1 l2:Addr}
def Ud  (hh:A.handled=none)(D:ZipApart z TI TO i1 i2 l1 l2)(hn:xs.size<=sizeLine)(l5:xs.size=ys.size)
  (hz:IsZip s.heap z TI TO .none) (cq:IsPair s.heap TI (.ref i1) (.ref i2))  (dm:IsPair s.heap TO a b) (h1:s.heap.IsListIter i1 l1 0) (h2:s.heap.IsListIter i2 l2 0) (bo:s.heap.IsList l1 xs) (bJ:s.heap.IsList l2 ys)
  (hQ:∀h' tk ah c as,(∀b o,b≠z->b≠TO->b≠i1->b≠i2->s.heap.get? b=some o->h'.get? b=some o)->h'.get? s.heap.objs.size=some {cls:=.type "list",dict:=none,data:=.seq ah c,slots := #[]}->as.length=xs.size->ZG xs ys s.heap.objs.size h' as->ah.toList=as.map Value.ref ->
   Q (.ref s.heap.objs.size) {s with heap:=h',toks:=tk}):
  wpAny (model prog w) A (call (.type "list") [.ref z]) Q E s:=by
 refine callType_codes (Q₁:=fun obj s₁=>obj=.ref s.heap.objs.size/\s₁={s with heap:=s.heap.push {cls:=.type "list",data:=.seq #[]} }) wL (vV _) vW
  (code_list_new _ ⟨rfl,rfl⟩) fun obj s₁ e₁=>?_
 obtain⟨rfl,rfl⟩:=e₁
 have hS:(s.heap.push {cls:=.type "list",data:=.seq #[]}).get? s.heap.objs.size=some {cls:=.type "list",data:=.seq #[]}:=jz_ _ rfl
 have lz:=jt_ hz
 have lTI:=jt_ cq
 have lTO:=jt_ dm
 have oq:i1<s.heap.objs.size:=by obtain⟨_,e,_⟩:=id h1;exact jt_ e
 have ot:i2<s.heap.objs.size:=by obtain⟨_,e,_⟩:=id h2;exact jt_ e
 have ll1:l1<s.heap.objs.size:=by obtain⟨_,e,_⟩:=id bo;exact jt_ e
 have ll2:l2<s.heap.objs.size:=by obtain⟨_,e,_⟩:=id bJ;exact jt_ e
 have up:∀b o,s.heap.get? b=some o->(s.heap.push {cls:=.type "list",data:=.seq #[]}).get? b=some o:=fun b o e=>jg_ _ e
 have F:ZFar z TI TO i1 i2 l1 l2 s.heap.objs.size:=⟨jO_ lz,jO_ lTI,jO_ lTO,jO_ oq,jO_ ot,jO_ ll1,jO_ ll2⟩
 refine⟨⟨_,hS,rfl⟩,vP _ _,Uc (s:={s with heap:=s.heap.push {cls:=.type "list",data:=.seq #[]} }) (A:=A.in1) hh D F ⟨lz,lTO,oq,ot⟩ hn l5 (up _ _ hz) ⟨up _ _ cq,h1.at fun o e=>up _ o e,h2.at fun o e=>up _ o e,bo.at fun o e=>up _ o e,bJ.at fun o e=>up _ o e,.inl ⟨up _ _ hz,a,b,up _ _ dm⟩⟩ hS fun h' tk ah c as hk l7 hl hG aS=>?_⟩
 exact⟨rfl,hQ h' tk ah c as (fun b o b1 b2 b3 b4 e=>hk b o (jO_ (jt_ e)) b1 b2 b3 b4 (up b o e)) l7 hl hG aS⟩
end
end L2
namespace L2
open PySem PySem.W PySem.Spec PySem.Calls PyProof.Rows
def MV (K:α3)(ta:TA):TE:=fun σ H Q=>ta σ H fun vs H1=>∃a b xs ys,vs=[.ref a,.ref b]/\SqL K H1 a xs/\SqL K H1 b ys/\xs.length=ys.length/\∀l rs H',Same H1 H'->H' l=none->rs.length=xs.length ->
 (∀(i:Nat) (x y:V),xs[i]?=some x->ys[i]?=some y->∃t,rs[i]?=some (V.ref t)/\H' t=some (.tup [x,y]))->Q (.ref l) (upd H' l (.lst rs))
theorem KJ {K:α3}     : MV K ta σ H Q=ta σ H fun vs H1=>∃a b xs ys,vs=[.ref a,.ref b]/\SqL K H1 a xs/\SqL K H1 b ys/\xs.length=ys.length/\∀l rs H',Same H1 H'->H' l=none->rs.length=xs.length ->
 (∀(i:Nat) (x y:V),xs[i]?=some x->ys[i]?=some y->∃t,rs[i]?=some (V.ref t)/\H' t=some (.tup [x,y]))->Q (.ref l) (upd H' l (.lst rs)):=rfl
def NL     (hc:X.calm=true)(hg:Gl X "list")(hm:X.mg "list"=none)(j7:Gl X "zip")(iH:X.mg "zip"=none)(ha:PA X [e,f] ta)
  (jE:starEach [.Call (.Name "zip" p2) [e,f] [] eC] X.env=[(false,eval (.Call (.Name "zip" p2) [e,f] [] eC) X.env)]:=by rfl) (hs:starEach [e,f] X.env=[(false,eval e X.env),(false,eval f X.env)]:=by rfl) (dk:starEach [f] X.env=[(false,eval f X.env)]:=by rfl):
  PE X (.Call (.Name "list" p) [.Call (.Name "zip" p2) [e,f] [] eC] [] pos) (MV X.K ta):=by
 intro ae s σ H Q I h
 refine xw_ (DW I hg hm boot_list ?_)
 refine qk_ ?_ jE rfl
 rw[jE]
 refine xv_ ?_
 refine Call_ (DW I j7 iH boot_zip (qk_ (thn (ha eC ae s σ H _ I h) fun us s1 ⟨vs,H1,I1,r1,q1⟩=>?_) (by rw[hs,dk]) (by rw[dk];rfl)))
 obtain⟨a,b,xs,ys,ev,hq,dq,aj,q⟩:=q1
 subst ev
 cases r1 with
 |cons r rr=>cases rr with
  |cons r' rr=>
   cases rr
   cases r
   cases r'
   obtain⟨its,rv,pl,fe⟩:=I1.list hq
   obtain⟨aN,kc,l4,_⟩:=I1.list dq
   have a1:a<s1.heap.objs.size:=by obtain⟨_,e,_⟩:=id pl.isList;exact jt_ e
   have a2:b<s1.heap.objs.size:=by obtain⟨_,e,_⟩:=id l4.isList;exact jt_ e
   have ln1:=rv.length
   have ln2:=kc.length
   refine call_zip_2 pl.isList l4.isList fun h1 hz cq dm qh jG hsz hk=>?_
   refine x5_ ?_
   refine Ud (s:={s1 with heap:=h1}) (I1.ok.hd hc) (zipApart_new a1 a2) (by rw[jq_,<-ln1];exact fe) (by rw[jq_,jq_,<-ln1,<-ln2];exact aj) hz cq dm qh jG (pl.isList.at fun o e=>hk _ o e) (l4.isList.at fun o e=>hk _ o e) fun h' tk ah c as dE hS hl hG aS=>?_
   dsimp only at dE hS hG
   have bh:s1.heap.objs.size<=h1.objs.size:=by lia
   have ql:∀b o,s1.heap.get? b=some o->h'.get? b=some o:=fun b o e=>by
    have:=jt_ e
    exact dE b o (jO_ (jA_ this (xt_ _ 4))) (jO_ (jA_ this (xt_ _ 3))) (jO_ this) (jO_ (jA_ this (xt_ _ 1))) (hk b o e)
   rw[jq_]at hl
   have e9:as.length=xs.length:=by lia
   let cs:List (List V):=(xs.zip ys).map fun q=>[q.1,q.2]
   have bZ:cs.length=xs.length:=by simp[cs,aj]
   have hci:∀(i:Nat) (x y:V),xs[i]?=some x->ys[i]?=some y->cs[i]?=some [x,y]:=fun i x y h1 h2=>by
    simp only[cs]
    rw[jf_,show (xs.zip ys)[i]?=some (x,y) from qW_.mpr ⟨h1,h2⟩];rfl
   have qp:(as.zip cs).map (·.1)=as:=by rw[uO];rw[e9,bZ];exact ji_ _
   have u0:Un X.fs [] H1 H1 s1.heap h':=Un.kept ql
   have k0:HOk X.prog X.w H1 h':=I1.hok.kept ql
   have bq:∀p∈as.zip cs,∃i:Nat,as[i]?=some p.1/\cs[i]?=some p.2:=fun p hp=>by
    obtain⟨i,hi⟩:=jK_.mp hp
    exact⟨i,qW_.mp hi⟩
   have b8:∀x∈as,s1.heap.objs.size<=x:=fun x hx=>by
    exact zj_ (um bh (hG.above x hx))
   obtain⟨H2,e1,e2,e3,e4,e5⟩:=MR (as.zip cs) (by rw[qp];exact hG.rise.imp fun a=>jO_ a) (fun p hp=>by
    obtain⟨i,h1,h2⟩:=bq p hp
    have hi:i<xs.length:=by rw[<-e9];exact (jb_.mp h1).1
    have jG:i<ys.length:=by lia
    have ni:xs[i]?=some xs[i]:=by simp[hi]
    have hyi:ys[i]?=some ys[i]:=by simp[jG]
    rw[hci i _ _ ni hyi]at h2
    have eU:=js_ h2
    obtain⟨u,hu,ru⟩:=rv.get ni
    obtain⟨v,hv,rvv⟩:=kc.get hyi
    obtain⟨x',y',b1,b2,b3⟩:=hG.pairs i p.1 h1
    have eu:x'=u:=by
     rw[tU,hu]at b1;exact (js_ b1).symm
    have ew:y'=v:=by
     rw[tU,hv]at b2;exact (js_ b2).symm
    subst eu ew
    refine⟨b8 _ (jd_ h1),by rw[<-eU];have:=Ar;simp;lia,[x',y'],?_,⟨_,b3,rfl,0,rfl⟩⟩
    rw[<-eU]
    exact Vals.two' ru rvv) H1 u0 k0 (fun p hp=>by
    obtain⟨i,h1,h2⟩:=bq p hp
    exact I1.hok.fresh (b8 _ (jd_ h1)))
   have hD:H2 h1.objs.size=none:=by
    rw[e5 _ (by rw[qp];exact fun z=>absurd (hG.above _ z) (qb_ _))]
    exact I1.hok.fresh bh
   have hv:Vals (as.map V.ref) ah.toList:=by
    rw[aS]
    clear hS hl hG aS e9 qp bq e4 e5 b8
    induction as with
    |nil=>exact .nil
    |cons a r ih=>exact .cons rfl ih
   have new:Bk X.prog X.w (upd H2 h1.objs.size (.lst (as.map V.ref))) h' h1.objs.size (.lst (as.map V.ref)):=⟨by rw[ja_,e9];exact fe,ah.toList,c,hv,by simpa using hS⟩
   refine⟨.ref _,_,I1.un (t':=tk) (e1.track bh hD) (e2.track hD new),rfl,q _ _ H2 e3 hD (by rw[ja_,e9]) fun i x y hx hy=>?_⟩
   have hi:i<as.length:=by rw[e9];exact (jb_.mp hx).1
   have m7:as[i]?=some as[i]:=by simp[hi]
   refine⟨as[i],by rw[jf_,m7];rfl,?_⟩
   exact e4 (as[i],[x,y]) (jK_.mpr ⟨i,qW_.mpr ⟨m7,hci i x y hx hy⟩⟩)
def KL  (hc:X.calm=true):Cm X (.builtin "max") (fun xs H Q=>∃(p:Addr) (ns:α2) (m:Int),xs=[.ref p]/\SqL X.K H p (ns.map V.int)/\m∈ns/\(∀x∈ns,x<=m)/\Q (.int m) H):=by
 intro ae s σ H xs us Q I r h
 obtain⟨p,ns,m,rfl,hq,hm,hmax,q⟩:=h
 obtain⟨u,rfl,rx⟩:=vals1 r
 cases rx
 obtain⟨its,r',pl,_⟩:=I.list hq
 have hi:IntsAre its ns:=by simpa using intsAre_of r'
 obtain⟨zs,e⟩:=hi.allInts.items
 have i6:ns=zs.toList.map (·.1):=by rw[<-hi.numsOf,<-nums_intItems,<-e]
 have ay:0<ns.length:=qI_ hm
 have hsz:0<zs.size:=by rw[i6,ja_,j3_]at ay;exact ay
 have hl:=pl.isList
 rw[e]at hl
 refine max_intList (I.ok.hd hc) hl hsz fun v h' tk hv hk=>?_
 obtain⟨t,rfl⟩:=intItems_at hv
 obtain⟨h1,h2⟩:=argBest_gt (numAt zs) (zs.size-1)
 have g1:numAt zs (argBest (fun i j=>decide (numAt zs i > numAt zs j)) (zs.size-1))∈ns:=by
  rw[i6,numAt_eq];exact getD_mem (by rw[ja_,j3_];lia)
 have g2:m<=numAt zs (argBest (fun i j=>decide (numAt zs i > numAt zs j)) (zs.size-1)):=by
  rw[i6]at hm
  obtain⟨j,hj,rfl⟩:=mem_getD hm
  rw[ja_,j3_]at hj
  rw[<-numAt_eq];exact h2 j s!""
 have g3:=hmax _ g1
 have g4:numAt zs (argBest (fun i j=>decide (numAt zs i > numAt zs j)) (zs.size-1))=m:=by lia
 exact⟨.int m,H,I.kept hk,⟨t,by rw[g4]⟩,q⟩
def KM  : Cm X (.builtin "len") (fun xs H Q=>(∃a kvs,xs=[V.ref a]/\H a=some (.dK kvs)/\Q (.int kvs.length) H) \/ ∃p kvs,xs=[.ref p]/\H p=some (.dT kvs)/\Q (.int kvs.length) H):=
 Cm.or (by
  intro ae s σ H xs us Q I r h
  obtain⟨a,kvs,rfl,ha,q⟩:=h
  obtain⟨u,rfl,ru⟩:=vals1 r
  cases ru
  exact Wb I (.inl ha) fun t s' I'=>⟨.int kvs.length,H,I',⟨t,rfl⟩,q⟩) Iw
def rIxB (K:α3):R2:=fun x y H Q=>rIxL K x y H Q\/rIxT K x y H Q
def Ue  {K:α3}(h:X.K=K):IxR X (rIxB K):=IxR.or (Bj h) (Bp h)
theorem Vw {K:α3}    : rIxB K x y H Q=((∃p xs i v,x=.ref p/\y=.int i/\SqL K H p xs/\atI xs i=some v/\Q v H) \/ ∃p xs i v,x=.ref p/\y=.int i/\SqT K H p xs/\atI xs i=some v/\Q v H):=rfl
def SN:TE:=fun σ H Q=>OR σ H Q\/OS σ H Q
theorem PY    : SN σ H Q=((∀p,H p=none->Q (.ref p) (upd H p (.dK []))) \/ ∀p,H p=none->Q (.ref p) (upd H p (.dT []))):=rfl
def RA   : PE X (.Dict [] [] pos) SN:=fun ae s σ H Q I h=>h.elim (fun h=>Mx ae s σ H Q I h) (fun h=>My ae s σ H Q I h)
end L2
namespace L2
section
variable {α:Type} [DecidableEq α]
def ins1 (ah:List α)(x:α):List α:=if x∈ah then ah else ah++[x]
def Bx (ah row:List α):List α:=row.foldl ins1 ah
def Ay (row:List α):List α:=Bx [] row
def JF {ah:List α}{x y:α}:y∈ins1 ah x↔y∈ah\/y=x:=by
 unfold ins1
 split
 ·rename_i h
  constructor
  ·exact .inl
  ·rintro (h' | rfl)
   ·exact h'
   ·exact h
 ·simp
def Hx:∀{row ah:List α} {y:α},y∈Bx ah row↔y∈ah\/y∈row
 |[],ah,y=>by simp[Bx]
 |x::row,ah,y=>by
  show y∈Bx (ins1 ah x) row↔_
  rw[Hx,JF,jD_,or_assoc]
def AK {row:List α}{y:α}:y∈Ay row↔y∈row:=by
 unfold Ay
 rw[Hx];simp
def NM {ah:List α}{x:α}(h:ah.Nodup):(ins1 ah x).Nodup:=by
 unfold ins1
 split
 ·exact h
 ·rename_i hx
  exact x6_.mpr ⟨h,by simp,fun a ha b hb z=>by simp at hb;subst z hb;exact hx ha⟩
def Ft:∀{row ah:List α},ah.Nodup->(Bx ah row).Nodup
 |[],ah,h=>h
 |x::row,ah,h=>Ft (row:=row) (NM h)
def Bd (row:List α):(Ay row).Nodup:=Ft ub
def LL (row:List α)(x:α):Ay (row++[x])=ins1 (Ay row) x:=by
 unfold Ay Bx
 rw[qA_];rfl
def PZ {l:List α}{x y:α}(hx:x∈l)(hy:y∈l)(h:l.idxOf x=l.idxOf y):x=y:=by
 have h1:=qO_ hx
 have h2:=qO_ hy
 have e1:l[l.idxOf x]=x:=q3_ h1
 have e2:l[l.idxOf y]=y:=q3_ h2
 rw[<-e1,<-e2]
 congr 1
def num (row:List α):α2:=row.map fun x=>((Ay row).idxOf x:Int)
def F4 (row:List α):(num row).length=row.length:=by unfold num;rw[ja_]
def Dk {β:Type}[DecidableEq β](f:α->β):∀(row ah:List α),(∀x y,x∈ah\/x∈row->y∈ah\/y∈row->f x=f y->x=y)->Bx (ah.map f) (row.map f)=(Bx ah row).map f
 |[],ah,_=>rfl
 |x::row,ah,h=>by
  show Bx (ins1 (ah.map f) (f x)) (row.map f)=(Bx (ins1 ah x) row).map f
  have e:ins1 (ah.map f) (f x)=(ins1 ah x).map f:=by
   unfold ins1
   by_cases hx:x∈ah
   ·rw[if_pos hx,if_pos (q9_ hx)]
   ·rw[if_neg hx,if_neg,jS_];rfl
    intro z
    obtain⟨y,hy,e⟩:=jv_.mp z
    have:=h y x (.inl hy) (.inr (jo_ ..)) e
    subst this
    exact hx hy
  rw[e]
  refine Dk f row _ fun a b ha hb=>h a b ?_ ?_
  ·rcases ha with ha|ha
   ·rcases JF.mp ha with ha|rfl
    ·exact .inl ha
    ·exact .inr (jo_ ..)
   ·exact .inr (jm_ _ ha)
  ·rcases hb with hb|hb
   ·rcases JF.mp hb with hb|rfl
    ·exact .inl hb
    ·exact .inr (jo_ ..)
   ·exact .inr (jm_ _ hb)
def ncl (row:List α):Nat:=(Ay row).length
def F5 (row:List α):ncl (num row)=ncl row:=by
 unfold ncl num Ay
 have:=Dk (fun x=>((Ay row).idxOf x:Int)) row [] (fun x y hx hy e=>by
  simp at hx hy
  exact PZ (AK.mpr hx) (AK.mpr hy) s!"")
 unfold Ay at this
 simp only[xX_]at this
 rw[this,ja_]
def MW {row:List α}{i:Nat}{x:α}(h:row[i]?=some x):(num row)[i]?=some ((Ay row).idxOf x:Int):=by
 unfold num
 rw[jf_,h];rfl
def LM {row:List α}{i j:Nat}{x y:α}(hx:row[i]?=some x)(hy:row[j]?=some y):(num row)[i]?=(num row)[j]? ↔ x=y:=by
 rw[MW hx,MW hy]
 constructor
 ·intro h
  have:=js_ h
  exact PZ (AK.mpr (jd_ hx)) (AK.mpr (jd_ hy)) s!""
 ·rintro rfl;rfl
def MX {row:List α}{n:Int}(h:n∈num row):0<=n/\n<ncl row:=by
 unfold num at h
 obtain⟨x,hx,rfl⟩:=jv_.mp h
 have:=qO_ (AK.mpr hx)
 exact⟨by lia,by unfold ncl;lia⟩
def JG {row:List α}(h:row ≠ []):((ncl row:Int)-1)∈num row:=by
 have ay:Ay row ≠ []:=fun z=>by
  cases row with
  |nil=>exact h rfl
  |cons x row=>
   have:x∈Ay (x::row):=AK.mpr (jo_ ..)
   rw[z]at this;cases this
 have ke:0<(Ay row).length:=z3_.mpr ay
 have ar:(Ay row).length-1<(Ay row).length:=by lia
 refine jv_.mpr ⟨(Ay row)[(Ay row).length-1],AK.mp (j0_ ar),?_⟩
 have e:=(Bd row).idxOf_getElem _ ar
 rw[e]
 unfold ncl
 lia
def Uf {row:List α}(h:row ≠ []):1<=ncl row:=by
 have h1:=JG h
 have:=MX h1
 lia
def Gs (row:List α):ncl row<=row.length:=by
 unfold ncl
 have:∀(row ah:List α),(Bx ah row).length<=ah.length+row.length:=fun row=>by
  induction row with
  |nil=>intro ah;exact ji_ _
  |cons x row ih=>
   intro ah
   have:=ih (ins1 ah x)
   have h2:(ins1 ah x).length<=ah.length+1:=by unfold ins1;split<;>simp
   show (Bx (ins1 ah x) row).length<=_
   rw[jU_];lia
 have:=this row []
 simpa [Ay] using this
end
def MY {α:Type}[DecidableEq α]:∀{l m:List α},l.Nodup->(∀x∈l,x∈m)->l.length<=m.length
 |[],m,_,_=>jY_ _
 |x::l,m,hn,h=>by
  have hx:=h x (jo_ ..)
  have h1:=qL_.mp hn
  have:=MY (m:=m.erase x) h1.2 fun y hy=>by
   have ay:y≠x:=fun z=>h1.1 (z ▸ hy)
   exact (xj_ ay).mpr (h y (jm_ _ hy))
  rw[qZ_ hx]at this
  have hp:0<m.length:=qI_ hx
  rw[jU_];lia
def NN {α β:Type}[DecidableEq α][DecidableEq β](f:α->β){l:List α}{m:List β}(hl:l.Nodup)(hm:m.Nodup)(hs:∀y∈m,∃x∈l,f x=y)(aj:l.length<=m.length){x y:α}(hx:x∈l)(hy:y∈l)(e:f x=f y):x=y:=by
 refine Decidable.byContradiction fun ay=>?_
 have dj:∀z∈m,z∈(l.erase y).map f:=fun z hz=>by
  obtain⟨u,hu,rfl⟩:=hs z hz
  by_cases huy:u=y
  ·subst huy
   exact jv_.mpr ⟨x,(xj_ ay).mpr hx,e⟩
  ·exact jv_.mpr ⟨u,(xj_ huy).mpr hu,rfl⟩
 have:=MY hm dj
 rw[ja_,qZ_ hy]at this
 have hp:0<l.length:=qI_ hy
 lia
def NO {α β:Type}[DecidableEq α][DecidableEq β]{row:List (α×β)}(h:ncl row<=ncl (row.map (·.1))){x y:α×β}(hx:x∈row)(hy:y∈row)(e:x.1=y.1):x.2=y.2:=by
 have h':(Ay row).length<=(Ay (row.map fun p:α×β=>p.1)).length:=h
 have:=NN (fun p:α×β=>p.1) (Bd row) (Bd (row.map fun p:α×β=>p.1)) (fun z hz=>by
  obtain⟨p,hp,rfl⟩:=jv_.mp (AK.mp hz)
  exact⟨p,AK.mpr hp,rfl⟩) h' (AK.mpr hx) (AK.mpr hy) e
 rw[this]
def Ug {α β:Type}[DecidableEq α][DecidableEq β]{row:List (α×β)}(h:∀x∈row,∀y∈row,x.1=y.1->x=y):ncl (row.map (·.1))=ncl row:=by
 unfold ncl Ay
 have:=Dk (fun p:α×β=>p.1) row [] (fun x y hx hy e=>by
  simp at hx hy
  exact h x hx y hy e)
 simp only[xX_]at this
 rw[this,ja_]
structure WC (L:Int)(n:Nat)(b:α2->Nat->Int)(words:α1)(c:α2):Prop where
 w0:words[0]?=some []
 ok:∀w∈words,∀x∈w,0<=x/\x<L
 tl:∀(k:Nat) (w:α2),words[k]?=some w->0<k->w.tail∈words.take k
 nd:words.Nodup
 len:c.length=n
 rng:∀v∈c,0<=v/\v<ncl c
 top:((ncl c:Int)-1)∈c
 iff:∀r s,r<n->s<n->(c[r]?=c[s]? ↔ ∀w∈words,b w r=b w s)
 le:words.length<=ncl c
def rowB (n:Nat)(b:α2->Nat->Int)(w:α2):α2:=(rY n).map (b w)
def BT     (hr:r<n):(rowB n b w)[r]?=some (b w r):=by
 unfold rowB
 rw[jf_,qN_ hr];rfl
def P0 {c m:α2}(h:c.length=m.length):(c.zip m).map (·.1)=c:=by
 rw[uO s!""]
def IP {c m:α2}{r:Nat}{u v:Int}(hu:c[r]?=some u)(hv:m[r]?=some v):(c.zip m)[r]?=some (u,v):=by
 rw[qW_];exact⟨hu,hv⟩
section
variable {L:Int} {n:Nat} {b:α2->Nat->Int} {words:α1} {c:α2} {w:α2} {x:Int}
def WC.start (hn:1<=n):WC L n b [[]] (num (rowB n b [])):=by
 have ay:rowB n b [] ≠ []:=fun z=>by
  have:=jG_ su z
  unfold rowB at this
  simp at this;lia
 refine⟨rfl,(fun w hw x hx=>by simp at hw;subst hw;cases hx),fun k w hk h0=>?_,by simp,by rw[F4];unfold rowB;simp,fun v hv=>?_,?_,fun r s hr hs=>?_,?_⟩
 ·cases k with
  |zero=>lia
  |succ k=>simp at hk
 ·rw[F5];exact MX hv
 ·rw[F5];exact JG ay
 ·rw[LM (BT hr) (BT hs)]
  simp
 ·rw[F5]
  exact Uf ay
def WC.at (h:WC L n b words c)  (hr:r<n):∃u,c[r]?=some u:=⟨c[r]'(by rw[h.len];exact hr),by simp[h.len,hr]⟩
def Dn:(rowB n b w).length=n:=by unfold rowB;simp
def WC.zlen (h:WC L n b words c):c.length=(rowB n b w).length:=by rw[h.len,Dn]
def WC.same (h:WC L n b words c)(bh:ncl (c.zip (rowB n b w))<=ncl c)  (hr:r<n)(hs:s<n)(e:c[r]?=c[s]?):b w r=b w s:=by
 obtain⟨u,hu⟩:=h.at hr
 obtain⟨v,hv⟩:=h.at hs
 have huv:u=v:=by rw[hu,hv]at e;exact js_ e
 have h1:=jd_ (IP hu (BT (b:=b) (w:=w) hr))
 have h2:=jd_ (IP hv (BT (b:=b) (w:=w) hs))
 exact NO (by rw[P0 (h.zlen)];exact bh) h1 h2 huv
def P3 {c m:α2}{p:Int×Int}(hp:p∈c.zip m):∃r:Nat,c[r]?=some p.1/\m[r]?=some p.2:=by
 obtain⟨r,hr⟩:=jK_.mp hp
 have:=qW_.mp (show (c.zip m)[r]?=some (p.1,p.2) from hr)
 exact⟨r,this.1,this.2⟩
def WC.told (h:WC L n b words c)(hs:∀r s,r<n->s<n->c[r]?=c[s]?->b w r=b w s):ncl (c.zip (rowB n b w))<=ncl c:=by
 have e:=Ug (row:=c.zip (rowB n b w)) fun p hp q hq e=>by
  obtain⟨r,p1,p2⟩:=P3 hp
  obtain⟨s,q1,q2⟩:=P3 hq
  have hr:r<n:=by rw[<-h.len];exact (jb_.mp p1).1
  have bK:s<n:=by rw[<-h.len];exact (jb_.mp q1).1
  have:=hs r s hr bK (by rw[p1,q1,e])
  rw[BT hr]at p2
  rw[BT bK]at q2
  have e2:p.2=q.2:=by rw[<-js_ p2,<-js_ q2,this]
  exact wl_ e e2
 rw[<-e,P0 h.zlen]
 exact ji_ _
def WC.more (h:WC L n b words c)(hn:1<=n)(hw:w∈words)(hx:0<=x/\x<L)(l9:ncl c<ncl (c.zip (rowB n b (x::w)))):WC L n b (words++[x::w]) (num (c.zip (rowB n b (x::w)))):=by
 have dO:x::w∉words:=fun hm=>by
  have:=h.told (w:=x::w) fun r s hr hs e=>((h.iff r s hr hs).mp e) _ hm
  lia
 have fe:(c.zip (rowB n b (x::w))).length=n:=by rw[z4_,h.len,Dn];lia
 have ay:c.zip (rowB n b (x::w)) ≠ []:=fun z=>by rw[z]at fe;simp at fe;lia
 have ke:0<words.length:=by
  have:=(jb_.mp h.w0).1
  exact this
 refine⟨by rw[je_ ke];exact h.w0,fun v hv y hy=>?_,fun k v hk h0=>?_,?_,by rw[F4,fe],fun v hv=>?_,?_,fun r s hr hs=>?_,?_⟩
 ·rcases jw_.mp hv with hv|hv
  ·exact h.ok v hv y hy
  ·rw[jr_.mp hv]at hy
   rcases jD_.mp hy with rfl|hy
   ·exact hx
   ·exact h.ok w hw y hy
 ·by_cases gK:k<words.length
  ·rw[je_ gK]at hk
   rw[sJ s!""]
   exact h.tl k v hk h0
  ·have:=(jb_.mp hk).1
   rw[jl_,jP_]at this
   have e:k=words.length:=by lia
   subst e
   rw[jp_ (ji_ _),qg_]at hk
   simp at hk
   subst hk
   rw[List.take_left']
   ·exact hw
   ·rfl
 ·exact x6_.mpr ⟨h.nd,by simp,fun a ha y hy z=>by simp at hy;subst z hy;exact dO ha⟩
 ·rw[F5];exact MX hv
 ·rw[F5];exact JG ay
 ·obtain⟨u,hu⟩:=h.at hr
  obtain⟨v,hv⟩:=h.at hs
  rw[LM (IP hu (BT hr)) (IP hv (BT hs))]
  constructor
  ·intro e y hy
   rcases jw_.mp hy with hy|hy
   ·exact ((h.iff r s hr hs).mp (by rw[hu,hv,(uV e).1])) y hy
   ·rw[jr_.mp hy];exact (uV e).2
  ·intro e
   have e1:=(h.iff r s hr hs).mpr fun y hy=>e y (j6_ _ hy)
   rw[hu,hv]at e1
   have e2:=e (x::w) (jy_ _ (jr_.mpr rfl))
   rw[js_ e1,e2]
 ·rw[jl_,jP_,F5]
  have:=h.le
  lia
def Told (n:Nat)(b:α2->Nat->Int)(c:α2)(w:α2):Prop:=∀r s,r<n->s<n->c[r]?=c[s]?->b w r=b w s
def WC.finer (h:WC L n b words c)(hz:c.length=n)  (ht:Told n b c u):Told n b (num (c.zip (rowB n b w))) u:=fun r s hr hs e=>by
 obtain⟨p,hp⟩:=h.at hr
 obtain⟨q,hq⟩:=h.at hs
 have:=(LM (IP hp (BT (b:=b) (w:=w) hr)) (IP hq (BT (b:=b) (w:=w) hs))).mp e
 exact ht r s hr hs (by rw[hp,hq,(uV this).1])
def WC.mine (h:WC L n b words c)(hw:w∈words):Told n b c w:=fun r s hr hs e=>((h.iff r s hr hs).mp e) w hw
end
def P4 {α β:Type}[DecidableEq α][DecidableEq β](f:α->β):∀(l:List α) (x:α),(∀y∈l,f y=f x->y=x)->(l.map f).idxOf (f x)=l.idxOf x
 |[],x,_=>rfl
 |a::l,x,h=>by
  rw[jZ_,z0_,z0_,P4 f l x fun y hy=>h y (jm_ _ hy)]
  by_cases e:a=x
  ·subst e;simp
  ·have:¬ f a=f x:=fun z=>e (h a (jo_ ..) z)
   rw[show (a==x)=false by simpa using e,show (f a==f x)=false by simpa using this]
def Uh  [DecidableEq α][DecidableEq β](f:α->β)  (h:∀x∈row,∀y∈row,f x=f y->x=y):num (row.map f)=num row:=by
 have e:Ay (row.map f)=(Ay row).map f:=by
  unfold Ay
  have:=Dk f row [] (fun x y hx hy e=>h x (hx.resolve_left (by simp)) y (hy.resolve_left (by simp)) e)
  simpa using this
 unfold num
 rw[jW_,e]
 refine qx_ fun x hx=>?_
 show (((Ay row).map f).idxOf (f x):Int)=_
 rw[P4 f _ _ fun y hy e=>h y (AK.mp hy) x hx e]
def RC {α:Type}[DecidableEq α]{l:List α}{x y:α}(hy:y∈l):(l++[x]).idxOf y=l.idxOf y:=by
 rw[wh_,if_pos hy]
def LN {α:Type}[DecidableEq α]{l:List α}{x:α}(hx:x∉l):(l++[x]).idxOf x=l.length:=by
 rw[wh_,if_neg hx];simp
abbrev StC:=α1×α2
def Ix (n:Nat)(b:α2->Nat->Int)(w:α2)(st:StC)(x:Nat):StC:=if ncl st.2<ncl (st.2.zip (rowB n b ((x:Int)::w))) then (st.1++[(x:Int)::w],num (st.2.zip (rowB n b ((x:Int)::w)))) else st
def Fu (n:Nat)(b:α2->Nat->Int)(w:α2)(L:Nat)(st:StC):StC:=(rY L).foldl (Ix n b w) st
def Fv (n:Nat)(b:α2->Nat->Int)(L:Nat):Nat->Nat->StC->StC
 |0,_,st=>st
 |f+1,k,st=>if k<st.1.length then Fv n b L f (k+1) (Fu n b (st.1.getD k []) L st) else st
section
variable {n L:Nat} {b:α2->Nat->Int} {w:α2} {st:StC}
def Hy  : Fu n b w (i+1) st=Ix n b w (Fu n b w i st) i:=by
 unfold Fu
 rw[x2_,qA_];rfl
def IQ  (h:st.1.length<=k):Fv n b L f k st=st:=by
 cases f with
 |zero=>rfl
 |succ f=>unfold Fv;rw[if_neg s!""]
def KN   (h:st.1[k]?=some v):Fv n b L (f+1) k st=Fv n b L f (k+1) (Fu n b v L st):=by
 have hk:=(jb_.mp h).1
 rw[Fv,if_pos hk,jk_,h];rfl
structure WS (n L:Nat)(b:α2->Nat->Int)(k i:Nat)(st:StC):Prop where
 wc:WC L n b st.1 st.2
 told:∀(j:Nat) (v:α2),st.1[j]?=some v->∀x:Nat,x<L->(j<k\/(j=k/\x<i))->Told n b st.2 ((x:Int)::v)
def WS.start (hn:1<=n):WS n L b 0 0 ([[]],num (rowB n b [])):=⟨WC.start hn,fun j v hj x hx h=>by lia⟩
def WS.next  (h:WS n L b k L st):WS n L b (k+1) 0 st:=⟨h.wc,fun j v hj x hx hh=>h.told j v hj x hx s!""⟩
def WS.step  (hn:1<=n)(hw:st.1[k]?=some w)(hi:i<L)(h:WS n L b k i st):WS n L b k (i+1) (Ix n b w st i)/\(Ix n b w st i).1[k]?=some w:=by
 have hm:=jd_ hw
 unfold Ix
 by_cases hc:ncl st.2<ncl (st.2.zip (rowB n b ((i:Int)::w)))
 ·rw[if_pos hc]
  have hW:=h.wc.more hn hm (show 0<=(i:Int)/\(i:Int)<L by lia) hc
  have hk:=(jb_.mp hw).1
  refine⟨⟨hW,fun j v hj x hx hh=>?_⟩,by rw[je_ hk];exact hw⟩
  by_cases e:j=k/\x=i
  ·obtain⟨rfl,rfl⟩:=e
   rw[je_ hk,hw]at hj
   cases hj
   exact hW.mine (jy_ _ (jr_.mpr rfl))
  ·have cN:j<st.1.length:=by lia
   rw[je_ cN]at hj
   exact h.wc.finer h.wc.len (h.told j v hj x hx s!"")
 ·rw[if_neg hc]
  refine⟨⟨h.wc,fun j v hj x hx hh=>?_⟩,hw⟩
  by_cases e:j=k/\x=i
  ·obtain⟨rfl,rfl⟩:=e
   rw[hw]at hj
   cases hj
   exact fun r s hr hs er=>h.wc.same s!"" hr hs er
  ·exact h.told j v hj x hx s!""
def WS.few  (h:WS n L b k i st):st.1.length<=n:=by
 have h1:=h.wc.le
 have h2:=Gs st.2
 rw[h.wc.len]at h2
 lia
def wcOf (n L:Nat)(b:α2->Nat->Int):StC:=Fv n b L 41 0 ([[]],num (rowB n b []))
structure Fin17 (n L:Nat)(b:α2->Nat->Int)(st:StC):Prop where
 wc:WC L n b st.1 st.2
 told:∀v∈st.1,∀x:Nat,x<L->Told n b st.2 ((x:Int)::v)
def WS.fin  (h:WS n L b k 0 st)(hk:st.1.length<=k):Fin17 n L b st:=⟨h.wc,fun v hv x hx=>by
 obtain⟨j,hj⟩:=jK_.mp hv
 have:=(jb_.mp hj).1
 exact h.told j v hj x hx s!""⟩
end
end L2
namespace L2
open PySem PySem.W PySem.Spec PySem.Calls PyProof.Rows
def P5              (I:Inv X ae σ H s)(e:H a=some (.dK kvs))(l:kvs.length<sizeLine)(ry:RelV (kV k) u)(rv:RelV v r)
  (h0:∀x,valV kvs k=some x->∀w' s',Inv X ae σ H s'->RelV x w'->Q w' s') (h1:valV kvs k=none->∀s',Inv X ae σ (upd H a (.dK (putK kvs k v))) s'->Q r s'):
  wpAny (model X.prog X.w) A (call (.builtin "dict.setdefault") [.ref a,u,r]) Q E s:=by
 obtain⟨z,hd,vs,bu,dd⟩:=Q2 I.hok e
 have hz:vs.length<=sizeLine:=by rw[<-bu.length];exact z
 refine call_meetsIn sN dd.typeIs uW (uP _ _ _) (kt_meets_setdefault (Bf X.prog X.w) a (Lv ry) hd r) ⟨vs,dd,hz,fun x hx=>?_,fun hn h' gh hs=>?_⟩
 ·have rk:=bu.val k
  rw[hx]at rk
  cases q:valV kvs k with
  |none=>rw[q]at rk;exact (rk:False).elim
  |some y=>rw[q]at rk;exact h0 y q _ _ (I.tok _) rk
 ·have rk:=bu.val k
  rw[hn]at rk
  cases q:valV kvs k with
  |some y=>rw[q]at rk;exact (rk:False).elim
  |none=>
   refine h1 q _ ?_
   have hl:(putK kvs k v).length<=sizeLine:=by have:=Dg kvs k v;lia
   have he:∃q,h'.get? a=some q:=let ⟨q,_,_,hq,_⟩:=gh;⟨q,hq⟩
   exact Hj I (by rw[e];exact rZ) hs he (ON hl hd (bu.put k rv) gh)
def MZ (td ty tx:TE):TE:=fun σ H Q=>td σ H fun x H1=>∃a,x=.ref a/\IsD H1 a/\ty σ H1 fun y H2=>tx σ H2 fun z H3=>∃n kvs,y=.int n/\H3 a=some (.dK kvs)/\kvs.length<sizeLine/\(∀v,valV kvs (r6 n)=some v->Q v H3)/\(valV kvs (r6 n)=none->Q z (upd H3 a (.dK (putK kvs (r6 n) z))))
theorem KO     : MZ td ty tx σ H Q=td σ H fun x H1=>∃a,x=.ref a/\IsD H1 a/\ty σ H1 fun y H2=>tx σ H2 fun z H3=>∃n kvs,y=.int n/\H3 a=some (.dK kvs)/\kvs.length<sizeLine/\(∀v,valV kvs (r6 n)=some v->Q v H3)/\(valV kvs (r6 n)=none->Q z (upd H3 a (.dK (putK kvs (r6 n) z)))):=rfl
def NP     (ho:PE X o td)(he:PE X e ty)(hf:PE X f tx)(m:M2 X o "setdefault" bM e f aJ):PE X (.Call (.Attribute o "setdefault" bM) [e,f] [] aJ) (MZ td ty tx):=by
 intro ae s σ H Q I h
 refine wpAny_Call_method m.base m.few m.line tq sN u3 (thn (ho ae s σ H _ I h) fun u s1 ⟨x,H1,I1,rx,a,ex,d,q1⟩=>?_)
 subst ex
 obtain rfl:u=Value.ref a:=rx
 obtain⟨t1,t2,_⟩:=Sn I1 d
 refine⟨t1,t2,?_⟩
 rw[m.trees]
 refine zz_ rfl (zN_ (xv_ (thn (he ae s1 σ H1 _ I1 q1) fun iv s2 ⟨y,H2,I2,ry,q2⟩ =>
  xv_ (thn (hf ae s2 σ H2 _ I2 q2) fun fv s3 ⟨z,H3,I3,rz,n,kvs,ey,ea,l,q3,q4⟩=>x5_ ?_))))
 subst ey
 exact P5 (k:=r6 n) I3 ea l ry rz (fun v hv w' s4 I4 fF=>⟨v,H3,I4,fF,q3 v hv⟩) fun hn s4 I4=>⟨z,_,I4,rz,q4 hn⟩
end L2
namespace L2
open GW GB
def P6 {L:Int}(hL:0<L){n i:Nat}{ab:α1}{r:Int}{w:α2}:∀(rest:α2) (x:Nat) (ents:List (Int×α2)),((x+rest.length:Nat):Int)=L->(∀(k:Nat) (g:Int),rest[k]?=some g->g=Bi ab r ((x+k:Nat):Int)/\0<=g/\g<(n:Int))->Bfs L n ab ents i (place L w*L+x+1)->Seen L ab ents r w x->ents[i]?=some (r,w) ->
  Bfs L n ab (CP w ents x rest) i (place L w*L+L+1)/\Seen L ab (CP w ents x rest) r w L.toNat/\(CP w ents x rest)[i]?=some (r,w)
 |[],x,ents,hx,hg,bf,se,he=>by
  rw[FZ]
  have e:(x:Int)=L:=by simpa using hx
  rw[e]at bf
  exact⟨bf,by rw[show L.toNat=x by lia];exact se,he⟩
 |g::rest,x,ents,hx,hg,bf,se,he=>by
  rw[Fa]
  obtain⟨g1,g2⟩:=hg 0 g rfl
  have cg:(x:Int)<L:=by rw[jU_]at hx;lia
  obtain⟨qq,se'⟩:=bf.letter hL se (jd_ he) cg g1 g2
  refine P6 hL rest (x+1) _ (by rw[<-hx,jU_];congr 1;lia) (fun k g' hk=>?_) qq se' (Fb he)
  have:=hg (k+1) g' (by simpa using hk)
  rwa [show x+(k+1)=x+1+k by lia]at this
def P7 {L:Int}{aa:α2}{ab:α1}(wf:Wf L aa ab):∀(f:Nat) (ents:List (Int×α2)) (i:Nat) (top:Int),Bfs L aa.length ab ents i top->(∀e,ents[i]?=some e->top<=place L e.2*L+1)->aa.length<i+f->∃eB,Bfs L aa.length ab (bfs ab f ents i) (bfs ab f ents i).length eB
 |0,ents,i,top,bf,ht,hf=>absurd bf.il (by have:=bf.len;lia)
 |f+1,ents,i,top,bf,ht,hf=>by
  have hL:0<L:=by have:=wf.l1;lia
  cases he:ents[i]? with
  |none=>
   rw[Jx he]
   have:i=ents.length:=by have:=bf.il;have:=xC_.mp he;lia
   exact⟨top,this ▸ bf⟩
  |some e=>
   obtain⟨r,w⟩:=e
   rw[Jy he]
   have hr:=bf.rng _ (jd_ he)
   obtain⟨row,h1,h2,h3⟩:=wf.row hr.1 hr.2
   have nj:ab.getD r.toNat []=row:=by rw[jk_,h1];rfl
   obtain⟨a,b,c⟩:=P6 (w:=w) (r:=r) hL row 0 ents (by simpa using h3) (fun k g hk=>⟨by rw[zI_];exact (BC h1 (by rw[jj_];exact hk)).symm,(wf.rows row h2).2 g (jd_ hk)⟩) (bf.up (by have h9:top<=place L w*L+1:=ht _ he;push_cast;lia)) (fun y h0 h1=>absurd h1 (by push_cast;lia)) he
   obtain⟨qq,ff⟩:=Bfs.next hL (m:=L.toNat) (by rw[show ((L.toNat:Nat):Int)=L by lia];exact a) s!"" b c
   show ∃eB,Bfs L aa.length ab (bfs ab f (CP w ents 0 (ab.getD r.toNat [])) (i+1)) _ eB
   rw[nj]
   exact P7 wf f _ (i+1) _ qq ff s!""
def Bfs.mk    (wf:Wf L aa ab):∃top,Bfs L aa.length ab (Au ab) (Au ab).length top:=by
 unfold Au
 refine P7 wf _ _ 0 1 (Bfs.start L wf.n1 ab) (fun e he=>?_) (by rw[wf.len];lia)
 simp at he;subst he;simp[place,AQ]
def KP {n L:Nat}{b:α2->Nat->Int}{st:StC}{k:Nat}{w:α2}(hn:1<=n)(hw:st.1[k]?=some w)(h:WS n L b k 0 st):∀i,i<=L->WS n L b k i (Fu n b w i st)/\(Fu n b w i st).1[k]?=some w
 |0,_=>⟨h,hw⟩
 |i+1,hi=>by
  obtain⟨a,c⟩:=KP hn hw h i s!""
  rw[Hy]
  exact a.step hn c s!""
def IR {n L:Nat}{b:α2->Nat->Int}(hn:1<=n)(aW:n<=40):∀(f k:Nat) (st:StC),k+f=41->WS n L b k 0 st->Fin17 n L b (Fv n b L f k st)
 |0,k,st,hk,h=>h.fin (by have:=h.few;lia)
 |f+1,k,st,hk,h=>by
  cases hw:st.1[k]? with
  |none=>
   have:=xC_.mp hw
   rw[IQ this]
   exact h.fin this
  |some w=>
   rw[KN hw]
   exact IR hn aW f (k+1) _ s!"" (KP hn hw h L (ji_ _)).1.next
def Fin17.mk'   (hn:1<=n)(aW:n<=40):Fin17 n L b (wcOf n L b):=IR hn aW 41 0 _ rfl (WS.start hn)
def bW (aa:α2)(ab:α1)(w:α2)(r:Nat):Int:=aa.getD (Bq ab (r:Int) w).toNat 0
def SR   : rowB aa.length (bW aa ab) []=aa:=by
 refine qS_ fun i=>?_
 by_cases hi:i<aa.length
 ·rw[BT hi]
  unfold bW
  show some (aa.getD ((i:Int)).toNat 0)=_
  rw[jj_,jk_,jh_ hi];rfl
 ·rw[jV_ (by rw[Dn];lia),jV_ s!""]
def LO   (w:α2)(x:Int)(r:Nat)(h:0<=Bi ab (r:Int) x):bW aa ab (x::w) r=bW aa ab w (Bi ab (r:Int) x).toNat:=by
 unfold bW
 rw[AY,xS_ h]
def cf (c:α2)(r:Int):Int:=c.getD r.toNat 0
def hm (c R:α2)(r:Int):Int:=(((Ay (R.map (cf c))).idxOf (cf c r):Nat):Int)
def Bt (c ah:α2)(r:Int):α2:=if cf c r∈ah.map (cf c) then ah else ah++[r]
def FR (c R:α2):α2:=R.foldl (Bt c) []
def NQ (c ah:α2)(r:Int):(Bt c ah r).map (cf c)=ins1 (ah.map (cf c)) (cf c r):=by
 unfold Bt ins1
 split
 ·rfl
 ·rw[jS_];rfl
def P8 (c:α2):∀(R ah:α2),(R.foldl (Bt c) ah).map (cf c)=Bx (ah.map (cf c)) (R.map (cf c))
 |[],ah=>rfl
 |r::R,ah=>by
  rw[q2_,P8 c R,NQ];rfl
def Hz (c R:α2):(FR c R).map (cf c)=Ay (R.map (cf c)):=P8 c R []
def P9 {c R:α2}{i:Nat}{r:Int}(h:R[i]?=some r):FR c (R.take (i+1))=Bt c (FR c (R.take i)) r:=by
 unfold FR
 rw[jR_,h,qv_,qA_];rfl
def Ui (c R:α2)(r:Int):FR c (R++[r])=Bt c (FR c R) r:=by
 unfold FR
 rw[qA_];rfl
def Qa (c:α2):∀(R ah:α2) (r:Int),r∈R.foldl (Bt c) ah->r∈ah\/r∈R
 |[],ah,r,h=>.inl h
 |q::R,ah,r,h=>by
  rcases Qa c R _ r h with h|h
  ·unfold Bt at h
   split at h
   ·exact .inl h
   ·rcases jw_.mp h with h|h
    ·exact .inl h
    ·exact .inr (by rw[jr_.mp h];exact jo_ ..)
  ·exact .inr (jm_ _ h)
def Fw   (h:r∈FR c R):r∈R:=(Qa c R [] r h).resolve_left (by simp)
def M0 (c R:α2):(FR c R).length<=R.length:=by
 have h:=jG_ su (Hz c R)
 have h2:=Gs (R.map (cf c))
 unfold ncl at h2
 rw[ja_]at h h2
 lia
def mkR (aa:α2)(r:Int):Int:=aa.getD r.toNat 0
def hrow (c R:α2)(ab:α1)(r:Int):α2:=(ab.getD r.toNat []).map (hm c R)
def hm_F {c R:α2}{j:Nat}{r:Int}(h:(FR c R)[j]?=some r):hm c R r=j:=by
 have h1:(Ay (R.map (cf c)))[j]?=some (cf c r):=by rw[<-Hz,jf_,h];rfl
 unfold hm
 obtain⟨hj,e⟩:=jb_.mp h1
 rw[<-e,(Bd _).idxOf_getElem _ hj]
def F_hm   (h:r∈R):∃(j:Nat) (q:Int),j<(FR c R).length/\hm c R r=j/\(FR c R)[j]?=some q/\cf c q=cf c r:=by
 have cu:cf c r∈Ay (R.map (cf c)):=AK.mpr (q9_ h)
 have hi:=qO_ cu
 have hl:(FR c R).length=(Ay (R.map (cf c))).length:=by rw[<-Hz,ja_]
 refine⟨(Ay (R.map (cf c))).idxOf (cf c r),(FR c R)[(Ay (R.map (cf c))).idxOf (cf c r)]'s!"",by lia,rfl,by simp[hl,hi],?_⟩
 have e:((FR c R).map (cf c))[(Ay (R.map (cf c))).idxOf (cf c r)]?=some (cf c r):=by rw[Hz,jh_ hi,q3_]
 rw[jf_,jh_ s!""]at e
 exact js_ e
def hm_congr   (h:cf c r=cf c s):hm c R r=hm c R s:=by unfold hm;rw[h]
def KQ {c:α2}(p:Int->Int):∀Q:α2,Q.reverse.Pairwise (fun a b=>p a<p b)->(FR c Q.reverse).Pairwise (fun a b=>p a<p b)/\∀r∈Q.reverse,∃f∈FR c Q.reverse,cf c f=cf c r/\p f<=p r
 |[],_=>⟨sI,fun r hr=>by simp at hr⟩
 |q::Q,h=>by
  rw[uC]at h ⊢
  obtain⟨h1,_,h3⟩:=q5_.mp h
  obtain⟨i1,i2⟩:=KQ p Q h1
  rw[Ui]
  unfold Bt
  by_cases hc:cf c q∈(FR c Q.reverse).map (cf c)
  ·rw[if_pos hc]
   refine⟨i1,fun r hr=>?_⟩
   rcases jw_.mp hr with hr|hr
   ·exact i2 r hr
   ·rw[jr_.mp hr]
    obtain⟨f,hf,e⟩:=jv_.mp hc
    exact⟨f,hf,e,xx_ (h3 f (Fw hf) q (jr_.mpr rfl))⟩
  ·rw[if_neg hc]
   refine⟨q5_.mpr ⟨i1,tF _ _,fun a ha b hb=>?_⟩,fun r hr=>?_⟩
   ·exact h3 a (Fw ha) b hb
   ·rcases jw_.mp hr with hr|hr
    ·obtain⟨f,hf,e⟩:=i2 r hr
     exact⟨f,j6_ _ hf,e⟩
    ·exact⟨r,jy_ _ hr,rfl,x0_ _⟩
def RD  (p:Int->Int)(h:R.Pairwise (fun a b=>p a<p b)):(FR c R).Pairwise (fun a b=>p a<p b)/\∀r∈R,∃f∈FR c R,cf c f=cf c r/\p f<=p r:=by
 have:=KQ (c:=c) p R.reverse (by rw[q4_];exact h)
 rwa [q4_]at this
section
variable {L:Nat} {aa:α2} {ab:α1}
def KR {c:α2}{n:Nat}(hc:c.length=n){r:Int}(h0:0<=r)(h1:r<(n:Int)):c[r.toNat]?=some (cf c r):=by
 unfold cf
 rw[jk_]
 simp[show r.toNat<c.length by lia]
def Wf.stp (wf:Wf L aa ab){r x:Int}(h0:0<=r)(h1:r<aa.length)(x0:0<=x)(x1:x<L):0<=Bi ab r x/\Bi ab r x<aa.length:=by
 obtain⟨_,g,_,_,e,a,b⟩:=wf.step h0 h1 x0 x1
 rw[e];exact⟨a,b⟩
def G0 (wf:Wf L aa ab){st:StC}(fin:Fin17 aa.length L (bW aa ab) st){r s:Int}(r0:0<=r)(r1:r<aa.length)(s0:0<=s)(s1:s<aa.length)(e:cf st.2 r=cf st.2 s):
  mkR aa r=mkR aa s/\∀x:Nat,x<L->cf st.2 (Bi ab r x)=cf st.2 (Bi ab s x):=by
 have ec:st.2[r.toNat]?=st.2[s.toNat]?:=by rw[KR fin.wc.len r0 r1,KR fin.wc.len s0 s1,e]
 have hr:r.toNat<aa.length:=by lia
 have hs:s.toNat<aa.length:=by lia
 have all:=(fin.wc.iff _ _ hr hs).mp ec
 have eR:((r.toNat:Nat):Int)=r:=by lia
 have eS:((s.toNat:Nat):Int)=s:=by lia
 refine⟨?_,fun x hx=>?_⟩
 ·have:=all [] (jd_ fin.wc.w0)
  unfold bW at this
  rw[eR,eS]at this
  exact this
 ·obtain⟨a0,a1⟩:=Wf.stp wf r0 r1 (show (0:Int)<=x by lia) s!""
  obtain⟨b0,b1⟩:=Wf.stp wf s0 s1 (show (0:Int)<=x by lia) s!""
  have:=(fin.wc.iff (Bi ab r x).toNat (Bi ab s x).toNat s!"" s!"").mpr fun w hw=>by
   have:=fin.told w hw x hx r.toNat s.toNat hr hs ec
   rw[LO _ _ _ (by rw[eR];exact a0),LO _ _ _ (by rw[eS];exact b0),eR,eS]at this
   exact this
  rw[KR fin.wc.len a0 a1,KR fin.wc.len b0 b1]at this
  exact js_ this
def LP (wf:Wf L aa ab){st:StC}(fin:Fin17 aa.length L (bW aa ab) st):∀(w:α2) {r s:Int},isW L w=true->0<=r->r<aa.length->0<=s->s<aa.length->cf st.2 r=cf st.2 s->mkR aa (Bq ab r w)=mkR aa (Bq ab s w)
 |[],r,s,_,r0,r1,s0,s1,e=>(G0 wf fin r0 r1 s0 s1 e).1
 |x::w,r,s,hw,r0,r1,s0,s1,e=>by
  obtain⟨hx,hw⟩:=JC.mp hw
  obtain⟨a0,a1⟩:=Wf.stp wf r0 r1 hx.1 hx.2
  obtain⟨b0,b1⟩:=Wf.stp wf s0 s1 hx.1 hx.2
  rw[AY,AY]
  refine LP wf fin w hw a0 a1 b0 b1 ?_
  have:=(G0 wf fin r0 r1 s0 s1 e).2 x.toNat s!""
  rwa [show ((x.toNat:Nat):Int)=x by lia]at this
def IS (wf:Wf L aa ab){st:StC}(fin:Fin17 aa.length L (bW aa ab) st){r s:Int}(r0:0<=r)(r1:r<aa.length)(s0:0<=s)(s1:s<aa.length)(h:∀w,isW L w=true->mkR aa (Bq ab r w)=mkR aa (Bq ab s w)):cf st.2 r=cf st.2 s:=by
 have eR:((r.toNat:Nat):Int)=r:=by lia
 have eS:((s.toNat:Nat):Int)=s:=by lia
 have:=(fin.wc.iff r.toNat s.toNat s!"" s!"").mpr fun w hw=>by
  have:=h w (Aw.mpr (fin.wc.ok w hw))
  unfold bW
  rw[eR,eS]
  exact this
 rw[KR fin.wc.len r0 r1,KR fin.wc.len s0 s1]at this
 exact js_ this
end
def cOf (L:Nat)(aa:α2)(ab:α1):α2:=(wcOf aa.length L (bW aa ab)).2
def rOf (ab:α1):α2:=(Au ab).map (·.1)
def sF (L:Nat)(aa:α2)(ab:α1):α2:=FR (cOf L aa ab) (rOf ab)
def sM (L:Nat)(aa:α2)(ab:α1):α2:=(sF L aa ab).map (mkR aa)
def sW (L:Nat)(aa:α2)(ab:α1):α1:=(sF L aa ab).map (hrow (cOf L aa ab) (rOf ab) ab)
def hO (L:Nat)(aa:α2)(ab:α1)(r:Int):Int:=hm (cOf L aa ab) (rOf ab) r
section
variable {L:Nat} {aa:α2} {ab:α1}
def finO (wf:Wf L aa ab):Fin17 aa.length L (bW aa ab) (wcOf aa.length L (bW aa ab)):=Fin17.mk' wf.n1 wf.n40
def C5 (wf:Wf L aa ab)  (h:r∈rOf ab):0<=r/\r<aa.length:=by
 obtain⟨top,bf⟩:=Bfs.mk wf
 obtain⟨e,he,rfl⟩:=jv_.mp h
 exact bf.rng e he
def F6 (wf:Wf L aa ab){r x:Int}(h:r∈rOf ab)(x0:0<=x)(x1:x<L):Bi ab r x∈rOf ab:=by
 obtain⟨top,bf⟩:=Bfs.mk wf
 obtain⟨e,he,rfl⟩:=jv_.mp h
 obtain⟨j,hj⟩:=jK_.mp he
 obtain⟨e',h1,h2,_⟩:=bf.don j (jb_.mp hj).1 e hj x x0 x1
 rw[<-h2]
 exact q9_ h1
def Qb (wf:Wf L aa ab):(rOf ab)[0]?=some 0:=by
 obtain⟨top,bf⟩:=Bfs.mk wf
 unfold rOf
 rw[jf_,bf.hd];rfl
def Qc (wf:Wf L aa ab):(rOf ab).length<=aa.length:=by
 obtain⟨top,bf⟩:=Bfs.mk wf
 unfold rOf
 rw[ja_];exact bf.len
def JH (wf:Wf L aa ab):∀(w:α2) {r:Int},r∈rOf ab->isW L w=true->Bq ab r w∈rOf ab
 |[],r,h,_=>h
 |x::w,r,h,hw=>by
  obtain⟨hx,hw⟩:=JC.mp hw
  rw[AY]
  exact JH wf w (F6 wf h hx.1 hx.2) hw
def Gu (wf:Wf L aa ab){j:Nat}{r:Int}(h:(sF L aa ab)[j]?=some r):r∈rOf ab/\0<=r/\r<aa.length/\hO L aa ab r=j:=by
 have h1:=Fw (jd_ h)
 have:=C5 wf h1
 exact⟨h1,this.1,this.2,hm_F h⟩
def SS (wf:Wf L aa ab):(sF L aa ab).length<=aa.length:=qt_ (M0 _ _) (Qc wf)
def Uj (wf:Wf L aa ab)  (h:r∈rOf ab):∃(j:Nat) (q:Int),j<(sF L aa ab).length/\hO L aa ab r=j/\(sF L aa ab)[j]?=some q/\cf (cOf L aa ab) q=cf (cOf L aa ab) r:=F_hm h
def Vx (wf:Wf L aa ab)  (h:r∈rOf ab):0<=hO L aa ab r/\hO L aa ab r<(sF L aa ab).length:=by
 obtain⟨j,q,h1,h2,_⟩:=Uj wf h
 lia
def HD (wf:Wf L aa ab):(0:Int)∈rOf ab:=jd_ (Qb wf)
def Qd (wf:Wf L aa ab):(sF L aa ab)[0]?=some 0:=by
 have h:=Qb wf
 unfold sF
 cases hR:rOf ab with
 |nil=>rw[hR]at h;cases h
 |cons a R=>
  rw[hR]at h
  cases h
  unfold FR
  rw[q2_]
  have e:Bt (cOf L aa ab) [] 0=[0]:=by unfold Bt;simp
  rw[e]
  have:∀(R ah:α2),ah[0]?=some 0->(R.foldl (Bt (cOf L aa ab)) ah)[0]?=some 0:=fun R=>by
   induction R with
   |nil=>intro ah h;exact h
   |cons r R ih=>
    intro ah h
    refine ih _ ?_
    unfold Bt
    split
    ·exact h
    ·rw[je_ (jb_.mp h).1];exact h
  exact this R [0] rfl
def LQ (wf:Wf L aa ab):hO L aa ab 0=0:=by
 have:=(Gu wf (Qd wf)).2.2.2
 simpa using this
def Wg {j:Nat}{r:Int}(h:(sF L aa ab)[j]?=some r):(sM L aa ab)[j]?=some (mkR aa r):=by
 unfold sM;rw[uD,h];rfl
def Vy {j:Nat}{r:Int}(h:(sF L aa ab)[j]?=some r):(sW L aa ab)[j]?=some (hrow (cOf L aa ab) (rOf ab) ab r):=by
 unfold sW;rw[uD,h];rfl
def Gv:(sM L aa ab).length=(sF L aa ab).length:=by unfold sM;rw[ja_]
def ST:(sW L aa ab).length=(sF L aa ab).length:=by unfold sW;rw[ja_]
def Vz    (h:ms[r.toNat]?=some m):mkR ms r=m:=by unfold mkR;rw[jk_,h];rfl
def SU   (h:r.toNat<ms.length):ms[r.toNat]?=some (mkR ms r):=by unfold mkR;rw[jk_];simp[h]
def LR (wf:Wf L aa ab)  (h:r∈rOf ab):mkR (sM L aa ab) (hO L aa ab r)=mkR aa r:=by
 obtain⟨j,q,h1,h2,h3,h4⟩:=Uj wf h
 have hq:=Gu wf h3
 have hr:=C5 wf h
 rw[h2]
 rw[Vz (show (sM L aa ab)[((j:Nat):Int).toNat]?=some (mkR aa q) by rw[jj_];exact Wg h3)]
 exact (G0 wf (finO wf) hq.2.1 hq.2.2.1 hr.1 hr.2 h4).1
def VA (wf:Wf L aa ab)  (h:r∈rOf ab):(sW L aa ab)[(hO L aa ab r).toNat]?=some ((ab.getD r.toNat []).map (hO L aa ab)):=by
 obtain⟨j,q,h1,h2,h3,h4⟩:=Uj wf h
 have hq:=Gu wf h3
 have hr:=C5 wf h
 rw[h2,jj_,Vy h3]
 congr 1
 unfold hrow
 obtain⟨row,a1,a2,a3⟩:=wf.row hq.2.1 hq.2.2.1
 obtain⟨fN,b1,b2,b3⟩:=wf.row hr.1 hr.2
 have e1:ab.getD q.toNat []=row:=by rw[jk_,a1];rfl
 have e2:ab.getD r.toNat []=fN:=by rw[jk_,b1];rfl
 rw[e1,e2]
 refine qS_ fun x=>?_
 by_cases hx:x<L
 ·have i7:x<row.length:=by lia
  have hxr':x<fN.length:=by lia
  rw[jf_,jf_,jh_ i7,jh_ hxr']
  show some (hm _ _ row[x])=some (hm _ _ fN[x])
  have c1:Bi ab q (x:Nat)=row[x]:=BC a1 (by rw[jj_];simp[i7])
  have c2:Bi ab r (x:Nat)=fN[x]:=BC b1 (by rw[jj_];simp[hxr'])
  have:=(G0 wf (finO wf) hq.2.1 hq.2.2.1 hr.1 hr.2 h4).2 x hx
  rw[c1,c2]at this
  exact jG_ some (hm_congr this)
 ·rw[jV_ (by rw[ja_];lia),jV_ (by rw[ja_];lia)]
def Uk (wf:Wf L aa ab){r x:Int}(h:r∈rOf ab)(x0:0<=x)(x1:x<L):Bi (sW L aa ab) (hO L aa ab r) x=hO L aa ab (Bi ab r x):=by
 have hr:=C5 wf h
 obtain⟨row,b1,b2,b3⟩:=wf.row hr.1 hr.2
 have e2:ab.getD r.toNat []=row:=by rw[jk_,b1];rfl
 have h1:=VA wf h
 rw[e2]at h1
 have i7:x.toNat<row.length:=by lia
 rw[BC b1 (show row[x.toNat]?=some row[x.toNat] by simp[i7])]
 exact BC h1 (by rw[jf_,jh_ i7];rfl)
def F7 (wf:Wf L aa ab):∀(w:α2) {r:Int},r∈rOf ab->isW L w=true->Bq (sW L aa ab) (hO L aa ab r) w=hO L aa ab (Bq ab r w)
 |[],r,h,_=>rfl
 |x::w,r,h,hw=>by
  obtain⟨hx,hw⟩:=JC.mp hw
  rw[AY,AY,Uk wf h hx.1 hx.2]
  exact F7 wf w (F6 wf h hx.1 hx.2) hw
def sWf (wf:Wf L aa ab):Wf L (sM L aa ab) (sW L aa ab):=by
 have hz:=Qd wf
 refine⟨wf.l1,wf.l6,?_,?_,by rw[Gv,ST],fun row hrow'=>?_,fun m md=>?_⟩
 ·rw[Gv];have:=(jb_.mp hz).1;lia
 ·rw[Gv];have:=SS wf;have:=wf.n40;lia
 ·obtain⟨j,hj⟩:=jK_.mp hrow'
  have cN:=(jb_.mp hj).1
  rw[ST]at cN
  have hq:=Gu wf (show (sF L aa ab)[j]?=some (sF L aa ab)[j] by simp[cN])
  rw[Vy (show (sF L aa ab)[j]?=some (sF L aa ab)[j] by simp[cN])]at hj
  have hj:=js_ hj
  obtain⟨fN,b1,b2,b3⟩:=wf.row hq.2.1 hq.2.2.1
  have e2:ab.getD ((sF L aa ab)[j]).toNat []=fN:=by rw[jk_,b1];rfl
  unfold hrow at hj
  rw[e2]at hj
  subst hj
  refine⟨by rw[ja_];exact b3,fun x hx=>?_⟩
  obtain⟨g,hg,rfl⟩:=jv_.mp hx
  rw[Gv]
  refine Vx wf ?_
  obtain⟨y,hy⟩:=jK_.mp hg
  have i8:=(jb_.mp hy).1
  have:=F6 wf hq.1 (x:=(y:Nat)) s!"" s!""
  rwa [BC b1 (by rw[jj_];exact hy)]at this
 ·unfold sM at md
  obtain⟨r,hr,rfl⟩:=jv_.mp md
  have:=C5 wf (Fw hr)
  refine wf.mks _ (jd_ (SU (ms:=aa) (r:=r) s!""))
structure Can (L:Nat)(aa:α2)(ab:α1):Prop where
 wf:Wf L aa ab
 lw:∃u:Nat->α2,(∀j,j<aa.length->isW L (u j)=true/\Az ab (u j)=(j:Int))/\(∀v,isW L v=true->∀j:Nat,Az ab v=(j:Int)->place L (u j)<=place L v)/\(∀j k,j<k->k<aa.length->place L (u j)<place L (u k))
 red:∀i j:Nat,i<aa.length->j<aa.length->(∀w,isW L w=true->mkR aa (Bq ab i w)=mkR aa (Bq ab j w))->i=j
def wi (ab:α1)(r:Int):α2:=(((Au ab).find? fun e=>decide (e.1=r)).map (·.2)).getD []
def RE {L:Int}{n:Nat}{top:Int}(bf:Bfs L n ab (Au ab) (Au ab).length top){e:Int×α2}(he:e∈Au ab):wi ab e.1=e.2:=by
 unfold wi
 cases hq:(Au ab).find? (fun e'=>decide (e'.1=e.1)) with
 |none=>
  rw[xA_]at hq
  have:=hq _ he
  simp at this
 |some e' =>
  have hk:=z5_ hq
  simp only[qs_]at hk
  obtain⟨i,hi,ei⟩:=jN_ (xa_ hq)
  obtain⟨j,hj,ej⟩:=jN_ he
  have ij:i=j:=(xT_ (h₀:=by simpa using hi) (h₁:=by simpa using hj) bf.nod).mp (by simp[ei,ej,hk])
  subst ij
  rw[<-ei,ej];rfl
def SV {L:Int}{n:Nat}{top:Int}(bf:Bfs L n ab (Au ab) (Au ab).length top):(rOf ab).Pairwise (fun a b=>place L (wi ab a)<place L (wi ab b)):=by
 unfold rOf
 rw[xn_,xE_]
 intro i j hi hj a8
 rw[RE bf (j0_ hi),RE bf (j0_ hj)]
 exact bf.inc i j _ _ a8 (by simp[hi]) (by simp[hj])
def VB {α:Type}{R:α->α->Prop}{l:List α}(h:l.Pairwise R){i j:Nat}{a b:α}(a8:i<j)(ha:l[i]?=some a)(hb:l[j]?=some b):R a b:=by
 obtain⟨h1,rfl⟩:=jb_.mp ha
 obtain⟨h2,rfl⟩:=jb_.mp hb
 exact xE_.mp h i j h1 h2 a8
def VC (wf:Wf L aa ab)  (h:r∈rOf ab):isW L (wi ab r)=true/\Az ab (wi ab r)=r:=by
 obtain⟨top,bf⟩:=Bfs.mk wf
 obtain⟨e,he,rfl⟩:=jv_.mp h
 rw[RE bf he]
 exact bf.wd e he
def JI (wf:Wf L aa ab)  (hv:isW L v=true):Az ab v∈rOf ab/\place L (wi ab (Az ab v))<=place L v:=by
 obtain⟨top,bf⟩:=Bfs.mk wf
 obtain⟨w',h1,h2⟩:=bf.least hv v.length (ji_ _)
 rw[jQ_]at h1 h2
 have:=RE bf h1
 exact⟨jv_.mpr ⟨_,h1,rfl⟩,by rw[show wi ab (Az ab v)=w' from this];exact h2⟩
def sCan (wf:Wf L aa ab):Can L (sM L aa ab) (sW L aa ab):=by
 obtain⟨top,bf⟩:=Bfs.mk wf
 obtain⟨f1,f2⟩:=RD (c:=cOf L aa ab) (fun r=>place L (wi ab r)) (SV bf)
 have nk:∀{j:Nat},j<(sF L aa ab).length->(sF L aa ab)[j]?=some ((sF L aa ab).getD j 0):=fun {j} hj=>by rw[jk_];simp[hj]
 refine⟨sWf wf,⟨fun j=>wi ab ((sF L aa ab).getD j 0),fun j hj=>?_,fun v hv j hj=>?_,fun j k iG hk=>?_⟩,fun i j hi hj aB=>?_⟩
 ·rw[Gv]at hj
  have hq:=Gu wf (nk hj)
  have:=VC wf hq.1
  refine⟨this.1,?_⟩
  have h2:=F7 wf (wi ab ((sF L aa ab).getD j 0)) (HD wf) this.1
  rw[LQ wf,BE,BE,this.2,hq.2.2.2]at h2
  exact h2
 ·obtain⟨h1,h2⟩:=JI wf hv
  have h3:=F7 wf v (HD wf) hv
  rw[LQ wf,BE,BE,hj]at h3
  obtain⟨f,hf,hc,hp⟩:=f2 _ h1
  obtain⟨i,hi⟩:=jK_.mp hf
  have hi':=(Gu wf hi).2.2.2
  have e:hO L aa ab f=hO L aa ab (Az ab v):=hm_congr hc
  rw[hi',<-h3]at e
  have e':i=j:=by lia
  subst e'
  show place L (wi ab ((sF L aa ab).getD i 0))<=_
  rw[jk_,show (sF L aa ab)[i]?=some f from hi]
  exact v7 hp h2
 ·rw[Gv]at hk
  exact VB f1 iG (nk s!"") (nk hk)
 ·rw[Gv]at hi hj
  have qi:=Gu wf (nk hi)
  have qj:=Gu wf (nk hj)
  have:=IS wf (finO wf) qi.2.1 qi.2.2.1 qj.2.1 qj.2.2.1 fun w hw=>by
   have:=aB w hw
   rw[<-qi.2.2.2,<-qj.2.2.2,F7 wf w qi.1 hw,F7 wf w qj.1 hw,LR wf (JH wf w qi.1 hw),LR wf (JH wf w qj.1 hw)]at this
   exact this
  have e:hO L aa ab ((sF L aa ab).getD i 0)=hO L aa ab ((sF L aa ab).getD j 0):=hm_congr this
  rw[qi.2.2.2,qj.2.2.2]at e
  lia
def VD (wf:Wf L aa ab)  (hv:isW L v=true):mkR (sM L aa ab) (Az (sW L aa ab) v)=mkR aa (Az ab v):=by
 have h:=F7 wf v (HD wf) hv
 rw[LQ wf,BE,BE]at h
 rw[h,LR wf]
 have:=JH wf v (HD wf) hv
 rwa [BE]at this
end
def Wf.walk' {L:Nat}{aa:α2}{ab:α1}(wf:Wf L aa ab){w:α2}(hw:isW L w=true):0<=Az ab w/\Az ab w<aa.length:=by
 have:=wf.walk hw w.length
 rwa [jQ_]at this
section
variable {L:Nat} {m1 m2:α2} {w1 w2:α1}
def SW:∀{l m:α2},l.Pairwise (· < ·)->m.Pairwise (· < ·)->(∀x,x∈l↔x∈m)->l=m
 |[],[],_,_,_=>rfl
 |[],y::m,_,_,h=>absurd ((h y).mpr (jo_ ..)) (by simp)
 |x::l,[],_,_,h=>absurd ((h x).mp (jo_ ..)) (by simp)
 |x::l,y::m,hl,hm,h=>by
  obtain⟨l1,l2⟩:=List.pairwise_cons.mp hl
  obtain⟨k1,k2⟩:=List.pairwise_cons.mp hm
  have p8:x=y:=by
   have h1:=(h x).mp (jo_ ..)
   have h2:=(h y).mpr (jo_ ..)
   rcases jD_.mp h1 with h1|h1
   ·exact h1
   ·rcases jD_.mp h2 with h2|h2
    ·exact h2.symm
    ·have:=l1 y h2
     have:=k1 x h1
     lia
  subst p8
  congr 1
  refine SW l2 k2 fun z=>⟨fun hz=>?_,fun hz=>?_⟩
  ·rcases jD_.mp ((h z).mp (jm_ _ hz)) with e|e
   ·have:=l1 z hz;lia
   ·exact e
  ·rcases jD_.mp ((h z).mpr (jm_ _ hz)) with e|e
   ·have:=k1 z hz;lia
   ·exact e
def Can.order (c:Can L m1 w1):rOf w1=(rY m1.length).map fun j:Nat=>(j:Int):=by
 obtain⟨u,p,q,s⟩:=c.lw
 obtain⟨top,bf⟩:=Bfs.mk c.wf
 have hL:(0:Int)<L:=by have:=c.wf.l1;lia
 have pl:∀r∈rOf w1,place L (wi w1 r)=place L (u r.toNat):=fun r hr=>by
  have cJ:=C5 c.wf hr
  obtain⟨a,b⟩:=VC c.wf hr
  have g1:=q _ a r.toNat s!""
  obtain⟨a',b'⟩:=p r.toNat s!""
  obtain⟨_,g2⟩:=JI c.wf a'
  rw[b',xS_ cJ.1]at g2
  lia
 refine SW ?_ ?_ fun x=>⟨fun hx=>?_,fun hx=>?_⟩
 ·have h1:=SV bf
  refine zm_ (fun {a b} ha hb b8=>?_) h1
  have ra:=C5 c.wf ha
  have rb:=C5 c.wf hb
  rw[pl a ha,pl b hb]at b8
  refine Int.lt_of_not_ge fun bF=>?_
  rcases q0_ b.toNat a.toNat with ar|hge'
  ·have:=s b.toNat a.toNat ar s!""
   lia
  ·have:a.toNat=b.toNat:=by lia
   rw[this]at b8
   lia
 ·rw[xn_]
  exact xa (fun h=>by lia) List.pairwise_lt_range
 ·have:=C5 c.wf hx
  exact jv_.mpr ⟨x.toNat,jC_.mpr s!"",by lia⟩
 ·obtain⟨j,hj,rfl⟩:=jv_.mp hx
  obtain⟨a,b⟩:=p j (jC_.mp hj)
  have:=(JI c.wf a).1
  rwa [b]at this
end
end L2
set_option maxHeartbeats 1000000
set_option maxHeartbeats 4000000
namespace L2
open PySem PySem.Spec PyProof.Rows
def Ax  : Cm X (.type "tuple") (fun xs H Q=>∃p ys,xs=[.ref p]/\((SqL X.K H p ys/\∀l,H l=none->Q (.ref l) (upd H l (.tup ys)))\/False)):=fun ae s σ H xs us Q I r h=>by
 obtain⟨p,ys,e,h|h⟩:=h
 ·exact Jo ae s σ H xs us Q I r ⟨p,ys,e,.inl h⟩
 ·exact h.elim
def Do  {K:α3}(h:X.K=K):Cm X (.type "tuple") (fun xs H Q=>∃p ys,xs=[.ref p]/\((SqL K H p ys/\∀l,H l=none->Q (.ref l) (upd H l (.tup ys)))\/False)):=by subst h;exact Ax
def len1 {α:Type}{us:List α}(h:us.length=1):∃a,us=[a]:=by match us,h with|[a],_=>exact⟨a,rfl⟩
def len2 {α:Type}{us:List α}(h:us.length=2):∃a b,us=[a,b]:=by match us,h with|[a,b],_=>exact⟨a,b,rfl⟩
def len3 {α:Type}{us:List α}(h:us.length=3):∃a b c,us=[a,b,c]:=by match us,h with|[a,b,c],_=>exact⟨a,b,c,rfl⟩
def Qe (u:TS)(D:Ends):St->Hp->Prop:=u D
def VE (t u:TS):TS:=fun D σ H=>t {D with nx:=Qe u D} σ H
theorem SX     : VE t u D σ H=t {D with nx:=Qe u D} σ H:=rfl
def RG     (h:u D σ H):Qe u D σ H:=h
def RH  {st:Stmt}{rest:List Stmt}  (h1:PS X st t)(h2:PSs X rest u):PSs X (st::rest) (VE t u):=Ac h1 h2
end L2
set_option maxHeartbeats 1000000
set_option maxHeartbeats 4000000
namespace L2
open PySem PySem.W PySem.Spec PySem.Calls PyProof.Rows
def vD:Option (Option V)->(V->Prop)->Prop
 |some (some v),q=>q v
 |_,_=>False
theorem Qf   : vD (some (some v)) q=q v:=rfl
def Wi   (h:vD o q):∃v,o=some (some v)/\q v:=by
 match o,h with
 |some (some v),h=>exact⟨v,rfl,h⟩
def NR (i:Nat):TE:=fun σ H Q=>vD σ[i]? fun v=>Q v H
theorem SY     : NR i σ H Q=vD σ[i]? fun v=>Q v H:=rfl
def pvD  (i:Nat)   (hN:X.N[i]?=some x:=by rfl)(hv:Vis X.env.scope x:=by first|exact r9 rfl|exact sk (r9 rfl)|exact sk (sk rfl))(hd:(x==("__debug__" : Str))=false:=by decide)
  (ck:(x==("__classdict__" : Str))=false:=by decide):PE X (.Name x pos) (NR i):=fun ae s σ H Q I h=>pv i hN hv hd ck ae s σ H Q I (Wi h)
def iD:V->V->(Int->Int->Prop)->Prop
 |.int i,.int j,q=>q i j
 |x,y,q=>∃i j,x=.int i/\y=.int j/\q i j
theorem SZ   : iD (.int i) (.int j) q=q i j:=rfl
def Ul   : iD x y q=∃i j,x=.int i/\y=.int j/\q i j:=by
 cases x<;>cases y<;>first|rfl|(simp[iD])
def rID (C:Int->Int->Prop)(g:Int->Int->V):R2:=fun x y H Q=>iD x y fun i j=>C i j/\Q (g i j) H
def rI0D (g:Int->Int->V):R2:=fun x y H Q=>iD x y fun i j=>Q (g i j) H
theorem r_ID      : rID C f x y H Q=iD x y fun i j=>C i j/\Q (f i j) H:=rfl
theorem VF     : rI0D f x y H Q=iD x y fun i j=>Q (f i j) H:=rfl
def VG   : rID C g=rI C g:=by
 funext x y H Q;exact Ul
def Um  : rI0D g=rI0 g:=by
 funext x y H Q;exact Ul
def opD     (h:OpR X f (rI C g)):OpR X f (rID C g):=by rw[VG];exact h
def opD0    (h:OpR X f (rI0 g)):OpR X f (rI0D g):=by rw[Um];exact h
def bD:V->(Bool->Prop)->Prop
 |.bl c,q=>q c
 |x,q=>∃c,x=.bl c/\q c
theorem VH   : bD (.bl c) q=q c:=rfl
def VI   : bD x q=∃c,x=.bl c/\q c:=by
 cases x<;>first|rfl|(simp[bD])
def tBD (t:TE):TT:=fun σ H Q=>t σ H fun x H1=>bD x fun c=>Q c H1
theorem r_BD     : tBD te σ H R=te σ H fun x H1=>bD x fun c=>R c H1:=rfl
def S0  : tBD t=tB t:=by
 funext σ H Q
 show t σ H _=t σ H _
 congr 1
 funext x H1;exact VI
def Uo  : tBD t=QW t:=S0
def ptB    (h:PT X e (tB t)):PT X e (tBD t):=by rw[S0];exact h
def ptT    (h:PT X e (QW t)):PT X e (tBD t):=by rw[Uo];exact h
def eD:V->V->Prop->Prop
 |.int _,.int _,q=>q
 |.str _,.str _,q=>q
 |.non,.non,q=>q
 |.bl _,.bl _,q=>q
 |x,y,q=>scal x y=true/\q
theorem S1   : eD (.int i) (.int j) q=q:=rfl
theorem S2   : eD (.str i) (.str j) q=q:=rfl
theorem S3  : eD .non .non q=q:=rfl
theorem VJ   : eD (.bl i) (.bl j) q=q:=rfl
def Up   : eD x y q=(scal x y=true/\q):=by
 cases x<;>cases y<;>first|rfl|(simp[eD,scal])
def rEqF:R2:=fun x y H Q=>eD x y (Q (.bl (decide (x=y))) H)
def rNeF:R2:=fun x y H Q=>eD x y (Q (.bl (!decide (x=y))) H)
theorem VL    : rEqF x y H Q=eD x y (Q (.bl (decide (x=y))) H):=rfl
theorem VM    : rNeF x y H Q=eD x y (Q (.bl (!decide (x=y))) H):=rfl
def Uq:rEqF=rEq:=by funext x y H Q;exact Up
def Ur:rNeF=rNe:=by funext x y H Q;exact Up
def opE   (h:OpR X f rEq):OpR X f rEqF:=by rw[Uq];exact h
def opN   (h:OpR X f rNe):OpR X f rNeF:=by rw[Ur];exact h
def aD:V->(Addr->Prop)->Prop
 |.ref a,q=>q a
 |x,q=>∃a,x=.ref a/\q a
theorem S4   : aD (.ref a) q=q a:=rfl
def RI   : aD x q=∃a,x=.ref a/\q a:=by
 cases x<;>first|rfl|(simp[aD])
def nD:V->(Int->Prop)->Prop
 |.int a,q=>q a
 |x,q=>∃a,x=.int a/\q a
theorem S5   : nD (.int a) q=q a:=rfl
def Qg   : nD x q=∃a,x=.int a/\q a:=by
 cases x<;>first|rfl|(simp[nD])
def Us (K:α3):R2:=fun x y H Q=>aD x fun p=>∃xs,nD y fun i=>SqT K H p xs/\∃v,atI xs i=some v/\Q v H
def RJ (K:α3):R2:=fun x y H Q=>aD x fun p=>∃xs,nD y fun i=>SqL K H p xs/\∃v,atI xs i=some v/\Q v H
theorem S6 {K:α3}    : Us K x y H Q=aD x fun p=>∃xs,nD y fun i=>SqT K H p xs/\∃v,atI xs i=some v/\Q v H:=rfl
theorem S7 {K:α3}    : RJ K x y H Q=aD x fun p=>∃xs,nD y fun i=>SqL K H p xs/\∃v,atI xs i=some v/\Q v H:=rfl
def RK {K:α3}:Us K=rIxT K:=by
 funext x y H Q
 show aD x _=∃p xs i v,_
 rw[RI]
 refine propext ⟨fun ⟨p,e,h⟩=>?_,fun ⟨p,xs,i,v,e1,e2,e3,e4,e5⟩=>⟨p,e1,?_⟩⟩
 ·obtain⟨xs,h⟩:=h
  rw[Qg]at h
  obtain⟨i,e2,e3,v,e4,e5⟩:=h
  exact⟨p,xs,i,v,e,e2,e3,e4,e5⟩
 ·refine⟨xs,?_⟩
  rw[Qg]
  exact⟨i,e2,e3,v,e4,e5⟩
def RL {K:α3}:RJ K=rIxL K:=by
 funext x y H Q
 show aD x _=∃p xs i v,_
 rw[RI]
 refine propext ⟨fun ⟨p,e,h⟩=>?_,fun ⟨p,xs,i,v,e1,e2,e3,e4,e5⟩=>⟨p,e1,?_⟩⟩
 ·obtain⟨xs,h⟩:=h
  rw[Qg]at h
  obtain⟨i,e2,e3,v,e4,e5⟩:=h
  exact⟨p,xs,i,v,e,e2,e3,e4,e5⟩
 ·refine⟨xs,?_⟩
  rw[Qg]
  exact⟨i,e2,e3,v,e4,e5⟩
def ixTD  {K:α3}(h:IxR X (rIxT K)):IxR X (Us K):=by rw[RK];exact h
def ixLD  {K:α3}(h:IxR X (rIxL K)):IxR X (RJ K):=by rw[RL];exact h
def lD1:List V->(V->Prop)->Prop
 |[x],q=>q x
 |xs,q=>∃x,xs=[x]/\q x
theorem Qh   : lD1 [x] q=q x:=rfl
def VN   : lD1 xs q=∃x,xs=[x]/\q x:=by
 match xs with
 |[]=>rfl
 |[x]=>simp[lD1]
 |x::y::r=>rfl
def Ut (K:α3):List V->Hp->VK->Prop:=fun xs H Q=>lD1 xs fun x=>aD x fun p=>∃ys,(SqL K H p ys\/SqT K H p ys)/\Q (.int ys.length) H
theorem S8 {K:α3}    : Ut K xs H Q=lD1 xs fun x=>aD x fun p=>∃ys,(SqL K H p ys\/SqT K H p ys)/\Q (.int ys.length) H:=rfl
def lenD  {K:α3}  (h:Cm X f (fun xs H Q=>∃p ys,xs=[.ref p]/\(SqL K H p ys\/SqT K H p ys)/\Q (.int ys.length) H)):Cm X f (Ut K):=by
 have e:Ut K=fun xs H Q=>∃p ys,xs=[.ref p]/\(SqL K H p ys\/SqT K H p ys)/\Q (.int ys.length) H:=by
  funext xs H Q
  show lD1 xs _=_
  rw[VN]
  refine propext ⟨fun ⟨x,e,h⟩=>?_,fun ⟨p,ys,e,h1,h2⟩=>⟨_,e,ys,h1,h2⟩⟩
  rw[RI]at h
  obtain⟨p,rfl,ys,h1,h2⟩:=h
  exact⟨p,ys,e,h1,h2⟩
 rw[e];exact h
def Ak       (hN:X.N.Nodup)(he:PE X e te)(hi:X.N[i]?=some x:=by rfl)(hx:Loc X.env.scope x:=by exact r9 rfl)(hs:swapsWith e (some (.Name x bT)) pos.line X.env=pure false:=by rfl)(hf:X.fn x=true\/X.env.scope.names.lookup x=some .local:=by first|exact .inl rfl|exact .inr rfl|assumption):PS X (.Assign [.Name x bT] e pos) (tAsg te (Fn i)):=Ba hN hi hx he hs hf
def Ag      (hr:IxR X r)(ha:PE X a ta)(hb:PE X b tb)(hs:OE b:=by exact fun _ _=>rfl):PE X (.Subscript a b pos) (tOp r ta tb):=U1 hr ha hb hs
end L2
namespace PySem
open Sem (wp)
structure VKind (prog:Program)(w:World)(K:Type)[DecidableEq K] where
 is:Heap->K->Value->Prop
 hash:K->Int
 draws:K->Nat
 room:Around->Prop
 inj:∀{h:Heap} {a:Value} {x y:K},is h x a->is h y a->x=y
 keeps:∀{h h':Heap} {k:K} {a:Value} {d:Addr} {o:Obj} {es ep},is h k a->h.get? d=some o->o.data=.dict es ep->Heap.SameBut d h h'->is h' k a
 pyHash:∀{A:Around} {E:Value->Shared->Prop} {s:Shared} {k:K} {a:Addr} {Q:Int->Shared->Prop},room A->is s.heap k (.ref a)->Q (hash k) {s with toks:=s.toks+draws k}->wpAny (model prog w) A (PySem.pyHash (.ref a)) Q E s
 eqBool:∀{A:Around} {E:Value->Shared->Prop} {s:Shared} {x y:K} {u:Value} {b:Addr} {Q:Bool->Shared->Prop},room A->is s.heap x u->is s.heap y (.ref b)->Q (decide (x=y)) s->wpAny (model prog w) A (PySem.eqBool u (.ref b)) Q E s
 quiet:∀{A:Around} {E:Value->Shared->Prop} {s:Shared} {k:K} {a:Value} {Q:Bool->Shared->Prop},room A->is s.heap k a->Q true s->wpAny (model prog w) A (eqIsQuiet 8 a) Q E s
abbrev NI:=Int ⊕ α2
abbrev NK:=Option (List NI)
end PySem
namespace L2
open PySem PySem.W PySem.Spec PySem.Calls PyProof.Rows
def TSq (K:α3)(H H':Hp):Prop:=∀b ys,SqT K H b ys->SqT K H' b ys
def TSq.un {K:α3}    (h1:∀xs,H p≠some (.tup xs))(h2:∀ob xs,H p≠some (.frz ob (.tup xs))):TSq K H (upd H p o):=fun b ys e=>by
 rcases e with (e|⟨ob,e⟩)|e
 ·exact .inl (.inl (by rw[Ah (fun z=>by rw[z]at e;exact h1 _ e)];exact e))
 ·exact .inl (.inr ⟨ob,by rw[Ah (fun z=>by rw[z]at e;exact h2 _ _ e)];exact e⟩)
 ·exact .inr e
end L2
namespace aO
open PySem PyProof.Rows
def KE (κ:KeyKind)(x:Keyed):κ.α:=(κ.keyOf x.1).getD κ.dflt
def RM     (h:xs[i]?=some x):KK κ xs i=KE κ x:=by unfold KK KE;rw[h]
structure SB (kd:SortKind)(a₀:Array Keyed)(st:SortSt):Prop where
 perm:(arrOf st).Perm a₀
 kind:kindOf st=kd
 failed:failedOf st=none
def SB.size   {st:SortSt}(h:SB kd a₀ st):(arrOf st).size=a₀.size:=h.perm.size_eq
def SB.setArr   {st:SortSt}(h:SB kd a₀ st)  (hp:xs.Perm (arrOf st)):SB kd a₀ (wM st xs):=⟨hp.trans h.perm,h.kind,h.failed⟩
def SB.mem   {st:SortSt}(h:SB kd a₀ st)  (hx:x∈(arrOf st).toList):x∈a₀.toList:=(x8_.mp h.perm).mem_iff.mp hx
def SB.get   {st:SortSt}(h:SB kd a₀ st)  (hi:i<a₀.size):∃x,(arrOf st)[i]?=some x/\x∈a₀.toList:=by
 have hi':i<(arrOf st).size:=by rw[h.size];exact hi
 exact⟨(arrOf st)[i],getElem?_pos _ i hi',h.mem (by simp)⟩
def LtOk (kd:SortKind)(κ:KeyKind)(a₀:Array Keyed)(prog:Program)(w:World)(A:Around)(E:Value->Shared->Prop)(s:Shared):Prop:=
 ∀(x y:Keyed) (st:SortSt) (Q:Option Bool->SortSt->Prop),x∈a₀.toList->y∈a₀.toList->kindOf st=kd->Q (some (κ.blt (KE κ x) (KE κ y))) st->wpS (model prog w) A E s (lt' x y) Q st
def SO (κ:KeyKind)(xs:Array Keyed)(lo hi:Nat):Prop:=∀i j,lo<=i->i<=j->j<hi->κ.kle (KK κ xs i) (KK κ xs j)
def NI (κ:KeyKind)(xs:Array Keyed)(lo hi:Nat):Prop:=∀i j,lo<=i->i<=j->j<hi->κ.kle (KK κ xs j) (KK κ xs i)
def Out (lo hi:Nat)(xs ys:Array Keyed):Prop:=∀i,i<lo\/hi<=i->ys[i]?=xs[i]?
def Out.refl (lo hi:Nat)(xs:Array Keyed):Out lo hi xs xs:=fun _ _=>rfl
def Out.trans {lo hi:Nat}  (h:Out lo hi xs ys)(g:Out lo hi ys zs):Out lo hi xs zs:=fun i hi=>(g i hi).trans (h i hi)
def IT  {lo hi i j:Nat}(hj:j<=xs.size)(h1:lo<=i)(h2:j<=hi):Out lo hi xs (mirror xs i j ((j-i) / 2)):=fun k hk=>by
 rw[getElem?_mirror_all hj,if_neg s!""]
def NS  {lo hi nq d:Nat}(hs:nq<xs.size)(hd:d<=nq)(h1:lo<=nq-d)(h2:nq<hi):Out lo hi xs (bubble xs nq d):=fun k hk=>by
 rw[getElem?_bubble hs d hd,if_neg s!"",if_neg s!""]
section
variable {prog:Program} {w:World} {A:Around} {E:Value->Shared->Prop} {s:Shared} {a₀:Array Keyed} {κ:KeyKind} {kd:SortKind}
def HE {st:SortSt}   (hO:LtOk kd κ a₀ prog w A E s)(hB:SB kd a₀ st)(hi:i<a₀.size)(hj:j<a₀.size)(h:Q (some (κ.blt (KK κ (arrOf st) i) (KK κ (arrOf st) j))) st):wpS (model prog w) A E s (ltAt' i j) Q st:=by
 obtain⟨x,e1,hx⟩:=hB.get hi
 obtain⟨y,e2,hy⟩:=hB.get hj
 rw[RM e1,RM e2]at h
 rw[ltAt'_eq]
 refine jB_ (wpS_get ?_)
 show wpS _ _ _ _ (do let x <- elem' (arrOf st) i;let y <- elem' (arrOf st) j;lt' x y) Q st
 rw[elem'_eq,elem'_eq,e1,e2]
 exact jB_ (jJ_ (jB_ (jJ_ (hO x y st Q hx hy hB.kind h))))
def ascL (lo a ak:Nat):StateT SortSt Sem AscSt:=
 forIn [a:ak] ((none,a):AscSt) fun _ jH=>do
  let __x <- ltAt' (lo+jH.snd) (lo+jH.snd-1)
  match __x with
  |some aP=>if aP=true then pure (ve (none,jH.snd)) else pure (sf (none,jH.snd+1))
  |_=>pure (ve (some none,jH.snd))
def S9 {st:SortSt}{lo a ak:Nat}  (hO:LtOk kd κ a₀ prog w A E s)(hn:lo+ak<=a₀.size)(ha:1<=a)(han:a<=ak)(hB:SB kd a₀ st)(hs:SO κ (arrOf st) lo (lo+a))
  (h:∀n,a<=n->n<=ak->SO κ (arrOf st) lo (lo+n)->(n=ak\/κ.klt (KK κ (arrOf st) (lo+n)) (KK κ (arrOf st) (lo+n-1)))->Q (none,n) st):
  wpS (model prog w) A E s (ascL lo a ak) Q st:=by
 unfold ascL
 refine qP_ (I:=fun x c ag=>ag=st/\c=(none,x)/\SO κ (arrOf st) lo (lo+x)) ?step ?fin ⟨rfl,rfl,hs⟩
 case fin=>
  rintro c ag ⟨rfl,rfl,bK⟩
  rw[show max a ak=ak by lia]at bK ⊢
  exact h ak han (ji_ _) bK (.inl rfl)
 case step=>
  rintro x c ag qr hxn ⟨rfl,rfl,bK⟩
  dsimp only
  refine jB_ (HE hO hB s!"" s!"" ?_)
  cases cb:κ.blt (KK κ (arrOf ag) (lo+x)) (KK κ (arrOf ag) (lo+x-1))
  case true=>
   simp only[xW_]
   exact jJ_ (h x qr s!"" bK (.inr cb))
  case false=>
   simp only[jT_,qX_]
   refine jJ_ ⟨rfl,rfl,fun i j hl a8 hj=>?_⟩
   by_cases jF:j<lo+x
   ·exact bK i j hl a8 jF
   ·have cn:j=lo+x:=by lia
    subst cn
    by_cases hi':i=lo+x
    ·subst hi';exact qQ_ _
    ·exact xh_ (bK i (lo+x-1) hl s!"" s!"") cb
def LS (lo n ak:Nat):StateT SortSt Sem (Option Nat):=do
 reverseSlice' lo (lo+n)
 let jH <- ascL lo n ak
 match jH.fst with
 |some r=>pure r
 |none=>pure (some jH.snd)
def EF {st:SortSt}   (h:Q () (setArr st (mirror (arrOf st) i j ((j-i) / 2)))):wpS (model prog w) A E s (reverseSlice' i j) Q st:=by
 rw[reverseSlice'_eq];exact zS_ h
def Uu {st:SortSt}{lo n ak:Nat}  (hO:LtOk kd κ a₀ prog w A E s)(hn:lo+ak<=a₀.size)(h1:1<=n)(gi:n<=ak)(hB:SB kd a₀ st)(hs:NI κ (arrOf st) lo (lo+n))
  (h:∀m ag,SB kd a₀ ag->pendingOf ag=pendingOf st->Out lo (lo+ak) (arrOf st) (arrOf ag)->1<=m->m<=ak->SO κ (arrOf ag) lo (lo+m)->Q (some m) ag):
  wpS (model prog w) A E s (LS lo n ak) Q st:=by
 unfold LS
 have hsz:lo+n<=(arrOf st).size:=by rw[hB.size];lia
 refine jB_ (EF ?_)
 have fO:SB kd a₀ (setArr st (mirror (arrOf st) lo (lo+n) ((lo+n-lo) / 2))):=hB.setArr (mirror_perm _ _ _ _)
 refine jB_ (S9 hO hn h1 gi fO ?_ fun m i9 iH hsm _=>jJ_ (h m _ fO rfl (IT hsz (ji_ _) s!"") s!"" iH hsm))
 intro i j hl a8 hj
 show κ.kle (KK κ (mirror (arrOf st) lo (lo+n) ((lo+n-lo) / 2)) i) (KK κ (mirror (arrOf st) lo (lo+n) ((lo+n-lo) / 2)) j)
 rw[KK_mirror hsz,KK_mirror hsz,if_pos s!"",if_pos s!""]
 exact hs _ _ s!"" s!"" s!""
end
end aO
namespace aO
open PySem PyProof.Rows
def BU:Bool->Keyed->Array Keyed->Nat->Nat->Nat->StateT SortSt Sem (Option Nat):=sortPriv% PySem.Builtin.gallop
def IU (left:Bool)(key:Keyed)(arr:Array Keyed)(base i:Nat):StateT SortSt Sem (Option Bool):=do
 let x <- elem' arr (base+i)
 if left then lt' x key else return ( <- lt' key x).map (!·)
def RO (left:Bool)(key:Keyed)(arr:Array Keyed)(base n lo hi:Nat):StateT SortSt Sem (Option Nat):=do
 let mut lo:=lo
 let mut hi:=hi
 for _ in [0:n] do
  if lo >= hi then break
  let m:=lo+(hi-lo) / 2
  let some more <- IU left key arr base m|return none
  if more then lo:=m+1 else hi:=m
 return some hi
def NT (left:Bool)(key:Keyed)(arr:Array Keyed)(base n hint:Nat):BU left key arr base n hint=(do
 let some right <- IU left key arr base hint|return none
 if right then
  let mut lastofs:=0
  let mut ofs:=1
  for _ in [0:n] do
   if ofs >= n-hint then break
   let some more <- IU left key arr base (hint+ofs)|return none
   if !more then break
   lastofs:=ofs
   ofs:=2*ofs+1
  RO left key arr base n (hint+lastofs+1) (hint+min ofs (n-hint))
 else
  let mut lastofs:=0
  let mut ofs:=1
  for _ in [0:n] do
   if ofs >= hint+1 then break
   let some found <- IU left key arr base (hint-ofs)|return none
   if found then break
   lastofs:=ofs
   ofs:=2*ofs+1
  RO left key arr base n (hint+1-min ofs (hint+1)) (hint-lastofs)):=rfl
section
variable {prog:Program} {w:World} {A:Around} {E:Value->Shared->Prop} {s:Shared} {a₀:Array Keyed} {κ:KeyKind} {kd:SortKind}
def gB (κ:KeyKind)(left:Bool)(key:Keyed)(arr:Array Keyed)(base i:Nat):Bool:=if left then κ.blt (KK κ arr (base+i)) (KE κ key) else !κ.blt (KE κ key) (KK κ arr (base+i))
def InA (a₀ arr:Array Keyed)(base n:Nat):Prop:=∀i,i<n->∃x,arr[base+i]?=some x/\x∈a₀.toList
def Fx     {st:SortSt}  (hO:LtOk kd κ a₀ prog w A E s)(hk:kindOf st=kd)(bU:key∈a₀.toList)(hA:InA a₀ arr base n)(hi:i<n)(h:Q (some (gB κ left key arr base i)) st):
  wpS (model prog w) A E s (IU left key arr base i) Q st:=by
 obtain⟨x,e,hx⟩:=hA i hi
 unfold IU
 rw[elem'_eq,e]
 refine jB_ (jJ_ ?_)
 unfold gB at h
 rw[RM e]at h
 cases left with
 |true=>exact hO x key st Q hx bU hk h
 |false=>
  refine jB_ (hO key x st _ bU hx hk ?_)
  exact jJ_ h
def KS     {st:SortSt}  (hO:LtOk kd κ a₀ prog w A E s)(hk:kindOf st=kd)(bU:key∈a₀.toList)(hA:InA a₀ arr base n)(hh:hint<n)
  (fg:∀i j,i<=j->j<n->gB κ left key arr base j=true->gB κ left key arr base i=true)
  (h:∀k,k<=n->(∀i,i<k->gB κ left key arr base i=true)->(∀i,k<=i->i<n->gB κ left key arr base i=false)->Q (some k) st):
  wpS (model prog w) A E s (BU left key arr base n hint) Q st:=by
 have gT:∀i j,i<=j->j<n->gB κ left key arr base i=false->gB κ left key arr base j=false:=fun i j a8 hj hf=>by
  cases e:gB κ left key arr base j with
  |false=>rfl
  |true=>rw[fg i j a8 hj e]at hf;cases hf
 have hlast:∀lo hi:Nat,lo<=hi->hi<=n->(∀i,i<lo->gB κ left key arr base i=true)->(∀i,hi<=i->i<n->gB κ left key arr base i=false)->wpS (model prog w) A E s (RO left key arr base n lo hi) Q st:=by
  intro lo hi hlh hhn iC jI
  unfold RO
  refine jB_ (x7_ (qP_ (I:=fun x c ag=>ag=st/\∃lo hi,c=(none,lo,hi)/\lo<=hi/\hi<=n/\hi-lo<=n-x/\(∀i,i<lo->gB κ left key arr base i=true)/\(∀i,hi<=i->i<n->gB κ left key arr base i=false))
   (Q:=fun c ag=>ag=st/\∃k,∃lo,c=(none,lo,k)/\k<=n/\(∀i,i<k->gB κ left key arr base i=true)/\(∀i,k<=i->i<n->gB κ left key arr base i=false)) ?step ?fin ⟨rfl,lo,hi,rfl,hlh,hhn,by lia,iC,jI⟩) ?post)
  case fin=>
   rintro c ag ⟨rfl,lo,hi,rfl,h1,h2,h3,h4,h5⟩
   have:lo=hi:=by lia
   subst this
   exact⟨rfl,lo,lo,rfl,h2,h4,h5⟩
  case post=>
   rintro c ag ⟨rfl,k,lo,rfl,h1,h2,h3⟩
   exact jJ_ (h k h1 h2 h3)
  case step=>
   rintro x c ag _ hx ⟨rfl,lo,hi,rfl,h1,h2,h3,h4,h5⟩
   dsimp only
   by_cases bF:lo >= hi
   ·rw[if_pos bF]
    have:lo=hi:=by lia
    subst this
    exact jJ_ ⟨rfl,lo,lo,rfl,h2,h4,h5⟩
   ·rw[if_neg bF]
    refine jB_ (Fx hO hk bU hA (n:=n) s!"" ?_)
    cases hg:gB κ left key arr base (lo+(hi-lo) / 2) with
    |true=>
     dsimp only
     rw[if_pos rfl]
     refine jJ_ ⟨rfl,lo+(hi-lo) / 2+1,hi,rfl,by lia,h2,by lia,fun i hi'=>?_,h5⟩
     exact fg i (lo+(hi-lo) / 2) s!"" s!"" hg
    |false=>
     dsimp only
     rw[if_neg (by simp)]
     refine jJ_ ⟨rfl,lo,lo+(hi-lo) / 2,rfl,by lia,by lia,by lia,h4,fun i hi' hn=>?_⟩
     exact gT (lo+(hi-lo) / 2) i hi' hn hg
 rw[NT]
 refine jB_ (Fx hO hk bU hA hh ?_)
 cases hg:gB κ left key arr base hint with
 |true=>
  dsimp only
  rw[if_pos rfl]
  refine jB_ (x7_ (qP_ (I:=fun x c ag=>ag=st/\∃last ofs,c=(none,last,ofs)/\last<ofs/\x<ofs/\hint+last<n/\gB κ left key arr base (hint+last)=true)
   (Q:=fun c ag=>ag=st/\∃last ofs,c=(none,last,ofs)/\last<ofs/\hint+last<n/\gB κ left key arr base (hint+last)=true/\(n-hint<=ofs\/hint+ofs<n/\gB κ left key arr base (hint+ofs)=false)) ?step ?fin ⟨rfl,0,1,rfl,by lia,by lia,by lia,hg⟩) ?post)
  case fin=>
   rintro c ag ⟨rfl,last,ofs,rfl,h1,h2,h3,h4⟩
   exact⟨rfl,last,ofs,rfl,h1,h3,h4,.inl s!""⟩
  case step=>
   rintro x c ag _ hx ⟨rfl,last,ofs,rfl,h1,h2,h3,h4⟩
   dsimp only
   by_cases bF:ofs >= n-hint
   ·rw[if_pos bF]
    exact jJ_ ⟨rfl,last,ofs,rfl,h1,h3,h4,.inl bF⟩
   ·rw[if_neg bF]
    refine jB_ (Fx hO hk bU hA (n:=n) s!"" ?_)
    cases ja:gB κ left key arr base (hint+ofs) with
    |true=>
     dsimp only
     rw[if_neg (by simp)]
     exact jJ_ ⟨rfl,ofs,2*ofs+1,rfl,by lia,by lia,by lia,ja⟩
    |false=>
     dsimp only
     rw[if_pos (by simp)]
     exact jJ_ ⟨rfl,last,ofs,rfl,h1,h3,h4,.inr ⟨by lia,ja⟩⟩
  case post=>
   rintro c ag ⟨rfl,last,ofs,rfl,h1,h3,h4,h5⟩
   dsimp only
   refine hlast (hint+last+1) (hint+min ofs (n-hint)) s!"" s!"" (fun i hi=>fg i (hint+last) s!"" h3 h4) (fun i hi hn=>?_)
   rcases h5 with h5|⟨h5,h6⟩
   ·lia
   ·exact gT (hint+ofs) i s!"" hn h6
 |false=>
  dsimp only
  rw[if_neg (by simp)]
  refine jB_ (x7_ (qP_ (I:=fun x c ag=>ag=st/\∃last ofs,c=(none,last,ofs)/\last<ofs/\x<ofs/\last<=hint/\gB κ left key arr base (hint-last)=false)
   (Q:=fun c ag=>ag=st/\∃last ofs,c=(none,last,ofs)/\last<ofs/\last<=hint/\gB κ left key arr base (hint-last)=false/\(hint+1<=ofs\/ofs<=hint/\gB κ left key arr base (hint-ofs)=true)) ?step ?fin ⟨rfl,0,1,rfl,by lia,by lia,by lia,hg⟩) ?post)
  case fin=>
   rintro c ag ⟨rfl,last,ofs,rfl,h1,h2,h3,h4⟩
   exact⟨rfl,last,ofs,rfl,h1,h3,h4,.inl s!""⟩
  case step=>
   rintro x c ag _ hx ⟨rfl,last,ofs,rfl,h1,h2,h3,h4⟩
   dsimp only
   by_cases bF:ofs >= hint+1
   ·rw[if_pos bF]
    exact jJ_ ⟨rfl,last,ofs,rfl,h1,h3,h4,.inl bF⟩
   ·rw[if_neg bF]
    refine jB_ (Fx hO hk bU hA (n:=n) s!"" ?_)
    cases ja:gB κ left key arr base (hint-ofs) with
    |true=>
     dsimp only
     rw[if_pos rfl]
     exact jJ_ ⟨rfl,last,ofs,rfl,h1,h3,h4,.inr ⟨by lia,ja⟩⟩
    |false=>
     dsimp only
     rw[if_neg (by simp)]
     exact jJ_ ⟨rfl,ofs,2*ofs+1,rfl,by lia,by lia,by lia,ja⟩
  case post=>
   rintro c ag ⟨rfl,last,ofs,rfl,h1,h3,h4,h5⟩
   dsimp only
   refine hlast (hint+1-min ofs (hint+1)) (hint-last) s!"" s!"" (fun i hi=>?_) (fun i hi hn=>gT (hint-last) i s!"" hn h4)
   rcases h5 with h5|⟨h5,h6⟩
   ·lia
   ·exact fg i (hint-ofs) s!"" s!"" h6
end
end aO
namespace aO
open PySem PyProof.Rows
abbrev Eb (st:SortSt)(g:Nat):SortSt:=SortSt.mk' (kindOf st) (arrOf st) (pendingOf st) g (failedOf st)
def AR:Nat->StateT SortSt Sem Unit:=sortPriv% PySem.Builtin.setMinGallop
def GG (g:Nat):AR g=modify fun s=>Eb s g:=rfl
def G1:Array Keyed->Array Keyed->StateT SortSt Sem (Array Keyed):=sortPriv% PySem.Builtin.mergeLo
def Dp (a b out:Array Keyed)(ia ib:Nat):Array Keyed:=out++a.extract ia a.size++b.extract ib b.size
def HG (a b out:Array Keyed)(ia ib:Nat):Array Keyed:=out++b.extract ib b.size++a.extract ia a.size
def LT (a b:Array Keyed):G1 a b=(do
 rule "list.sort.merge-lo"
 let mut out:Array Keyed := #[<-elem' b 0]
 let mut ia:=0
 let mut ib:=1
 if ib==b.size then return Dp a b out ia ib
 if ia+1==a.size then return HG a b out ia ib
 let mut minGallop:=gallopOf ( <- get)
 for _ in [0:a.size+b.size] do
  let mut acount:=0
  let mut bcount:=0
  for _ in [0:a.size+b.size] do
   let some gU <- lt' ( <- elem' b ib) ( <- elem' a ia)|return Dp a b out ia ib
   if gU then
    out:=out.push ( <- elem' b ib);ib:=ib+1;bcount:=bcount+1;acount:=0
    if ib==b.size then return Dp a b out ia ib
    if bcount >= minGallop then break
   else
    out:=out.push ( <- elem' a ia);ia:=ia+1;acount:=acount+1;bcount:=0
    if ia+1==a.size then return HG a b out ia ib
    if acount >= minGallop then break
  rule "list.sort.gallop"
  minGallop:=minGallop+1
  for _ in [0:a.size+b.size] do
   if minGallop > 1 then minGallop:=minGallop-1
   AR minGallop
   let some k <- BU false ( <- elem' b ib) a ia (a.size-ia) 0|return Dp a b out ia ib
   acount:=k
   if k > 0 then
    out:=out++a.extract ia (ia+k);ia:=ia+k
    if ia+1==a.size then return HG a b out ia ib
    if ia==a.size then return Dp a b out ia ib
   out:=out.push ( <- elem' b ib);ib:=ib+1
   if ib==b.size then return Dp a b out ia ib
   let some k <- BU true ( <- elem' a ia) b ib (b.size-ib) 0|return Dp a b out ia ib
   bcount:=k
   if k > 0 then
    out:=out++b.extract ib (ib+k);ib:=ib+k
    if ib==b.size then return Dp a b out ia ib
   out:=out.push ( <- elem' a ia);ia:=ia+1
   if ia+1==a.size then return HG a b out ia ib
   if acount<7&&bcount<7 then break
  minGallop:=minGallop+1
  AR minGallop
 unsupported "internal:list.sort.merge-bound"):=rfl
section
variable {α:Type} {R:α->α->Prop} {A B out:List α} {ia ib:Nat}
structure MI (R:α->α->Prop)(A B out:List α)(ia ib:Nat):Prop where
 ha:ia<=A.length
 hb:ib<=B.length
 pm:out.Perm (A.take ia++B.take ib)
 so:out.Pairwise R
 le:∀x∈out,∀y∈A.drop ia++B.drop ib,R x y
def MI.swap (h:MI R A B out ia ib):MI R B A out ib ia:=⟨h.hb,h.ha,h.pm.trans tV,h.so,fun x hx y hy=>h.le x hx y (by rcases jw_.mp hy with z|z;exact jy_ _ z;exact j6_ _ z)⟩
def NU (A:List α)(i k:Nat):A.drop i=(A.drop i).take k++A.drop (i+k):=by
 rw[<-List.drop_drop,xc_]
def MI.ta (h:MI R A B out ia ib)(sA:A.Pairwise R)  (hk:ia+k<=A.length)(hx:∀x∈(A.drop ia).take k,∀y∈B.drop ib,R x y):MI R A B (out++(A.drop ia).take k) (ia+k) ib:=by
 have fD:=NU A ia k
 have qt:(A.drop ia).Pairwise R:=tW (List.drop_sublist _ _) sA
 refine⟨hk,h.hb,?_,?_,fun x mf y hy=>?_⟩
 ·have e:A.take (ia+k)=A.take ia++(A.drop ia).take k:=List.take_add
  rw[e,qh_]
  refine (tQ _ h.pm).trans ?_
  rw[qh_]
  exact tX _ tV
 ·refine q5_.mpr ⟨h.so,tW (uv _ _) qt,fun x cQ y fL=>h.le x cQ y (j6_ _ (xk_ fL))⟩
 ·rcases jw_.mp mf with mf|mf
  ·refine h.le x mf y ?_
   rcases jw_.mp hy with hy|hy
   ·exact j6_ _ (by rw[fD];exact jy_ _ hy)
   ·exact jy_ _ hy
  ·rcases jw_.mp hy with hy|hy
   ·rw[fD]at qt
    exact (q5_.mp qt).2.2 x mf y hy
   ·exact hx x mf y hy
def MI.tb (h:MI R A B out ia ib)(sB:B.Pairwise R)  (hk:ib+k<=B.length)(hx:∀x∈(B.drop ib).take k,∀y∈A.drop ia,R x y):MI R A B (out++(B.drop ib).take k) ia (ib+k):=(h.swap.ta sB hk hx).swap
def MI.start (A B:List α):MI R A B [] 0 0:=⟨jY_ _,jY_ _,by simp,sI,fun x hx=>by cases hx⟩
def Mgd (R:α->α->Prop)(A B r:List α):Prop:=r.Perm (A++B)/\r.Pairwise R
def MI.done (h:MI R A B out ia ib)(sA:A.Pairwise R)(sB:B.Pairwise R)(he:A.length<=ia\/B.length<=ib):Mgd R A B (out++A.drop ia++B.drop ib):=by
 rcases he with he|he
 ·have:=(h.tb sB (k:=B.length-ib) (by have:=h.hb;lia) (fun x _ y hy=>by rw[qJ_ he]at hy;cases hy))
  have e:(B.drop ib).take (B.length-ib)=B.drop ib:=jX_ (by rw[xf_];exact ji_ _)
  rw[e]at this
  rw[qJ_ he,ql_]
  refine⟨?_,this.so⟩
  have p:=this.pm
  rw[jX_ he,jX_ (by have:=h.hb;lia)]at p
  exact p
 ·have:=(h.ta sA (k:=A.length-ia) (by have:=h.ha;lia) (fun x _ y hy=>by rw[qJ_ he]at hy;cases hy))
  have e:(A.drop ia).take (A.length-ia)=A.drop ia:=jX_ (by rw[xf_];exact ji_ _)
  rw[e]at this
  rw[qJ_ he,ql_]
  refine⟨?_,this.so⟩
  have p:=this.pm
  rw[jX_ he,jX_ (by have:=h.ha;lia)]at p
  exact p
def MI.last (h:MI R A B out ia ib)(sA:A.Pairwise R)(sB:B.Pairwise R)(hl:∀x∈B,∀y∈A.drop ia,R x y):Mgd R A B (out++B.drop ib++A.drop ia):=by
 have h1:=h.tb sB (k:=B.length-ib) (by have:=h.hb;lia) (fun x hx y hy=>hl x (List.mem_of_mem_drop (xk_ hx)) y hy)
 have e:(B.drop ib).take (B.length-ib)=B.drop ib:=jX_ (by rw[xf_];exact ji_ _)
 rw[e]at h1
 have h2:=h1.done sA sB (.inr (by have:=h.hb;lia))
 rw[qJ_ (show B.length<=ib+(B.length-ib) by have:=h.hb;lia),ql_]at h2
 exact h2
end
end aO
namespace aO
open PySem PyProof.Rows
def LeK (κ:KeyKind)(x y:Keyed):Prop:=κ.kle (KE κ x) (KE κ y)
structure SG (st ag:SortSt):Prop where
 kd:kindOf ag=kindOf st
 arr:arrOf ag=arrOf st
 pe:pendingOf ag=pendingOf st
 fa:failedOf ag=failedOf st
def SG.refl (st:SortSt):SG st st:=⟨rfl,rfl,rfl,rfl⟩
def SG.set {st ag:SortSt}(h:SG st ag)(g:Nat):SG st (Eb ag g):=⟨h.kd,h.arr,h.pe,h.fa⟩
abbrev G5:=Option (Array Keyed)×Array Keyed×Nat×Nat×Nat
abbrev G6:=Option (Array Keyed)×Array Keyed×Nat×Nat×Nat×Nat
abbrev G7:=Option (Array Keyed)×Array Keyed×Nat×Nat×Nat×Nat×Nat
def PC (a b out:Array Keyed)(ia ib mg ac bc:Nat):StateT SortSt Sem (ForInStep G7):=do
 let y <- elem' a ia
 if (ia+1+1==a.size)=true then pure (.done (some (HG a b (out.push y) (ia+1) ib),out.push y,ia+1,ib,mg,ac,bc))
 else if (decide (ac<7)&&decide (bc<7))=true then pure (.done (none,out.push y,ia+1,ib,mg,ac,bc)) else pure (.yield (none,out.push y,ia+1,ib,mg,ac,bc))
def PB (a b out:Array Keyed)(ia ib mg ac bc:Nat):StateT SortSt Sem (ForInStep G7):=do
 let y <- elem' b ib
 if (ib+1==b.size)=true then pure (.done (some (Dp a b (out.push y) ia (ib+1)),out.push y,ia,ib+1,mg,ac,bc))
 else do
  let z <- elem' a ia
  let x <- BU true z b (ib+1) (b.size-(ib+1)) 0
  match x with
  |some k=>if k > 0 then (if (ib+1+k==b.size)=true then pure (.done (some (Dp a b (out.push y++b.extract (ib+1) (ib+1+k)) ia (ib+1+k)),out.push y++b.extract (ib+1) (ib+1+k),ia,ib+1+k,mg,ac,k)) else PC a b (out.push y++b.extract (ib+1) (ib+1+k)) ia (ib+1+k) mg ac k) else PC a b (out.push y) ia (ib+1) mg ac k
  |_=>pure (.done (some (Dp a b (out.push y) ia (ib+1)),out.push y,ia,ib+1,mg,ac,bc))
def PA (a b out:Array Keyed)(ia ib mg ac bc:Nat):StateT SortSt Sem (ForInStep G7):=do
 AR mg
 let y <- elem' b ib
 let x <- BU false y a ia (a.size-ia) 0
 match x with
 |some k=>if k > 0 then (if (ia+k+1==a.size)=true then pure (.done (some (HG a b (out++a.extract ia (ia+k)) (ia+k) ib),out++a.extract ia (ia+k),ia+k,ib,mg,k,bc)) else if (ia+k==a.size)=true then pure (.done (some (Dp a b (out++a.extract ia (ia+k)) (ia+k) ib),out++a.extract ia (ia+k),ia+k,ib,mg,k,bc)) else PB a b (out++a.extract ia (ia+k)) (ia+k) ib mg k bc) else PB a b out ia ib mg k bc
 |_=>pure (.done (some (Dp a b out ia ib),out,ia,ib,mg,ac,bc))
def P1 (a b:Array Keyed)(mg:Nat)(c:G6):StateT SortSt Sem (ForInStep G6):=do
 let y <- elem' b c.2.2.2.1
 let z <- elem' a c.2.2.1
 let x <- lt' y z
 match x with
 |some gU=>
  if gU=true then
   elem' b c.2.2.2.1 >>= fun y=>
   if (c.2.2.2.1+1==b.size)=true then pure (.done (some (Dp a b (c.2.1.push y) c.2.2.1 (c.2.2.2.1+1)),c.2.1.push y,c.2.2.1,c.2.2.2.1+1,0,c.2.2.2.2.2+1))
   else if c.2.2.2.2.2+1 >= mg then pure (.done (none,c.2.1.push y,c.2.2.1,c.2.2.2.1+1,0,c.2.2.2.2.2+1)) else pure (.yield (none,c.2.1.push y,c.2.2.1,c.2.2.2.1+1,0,c.2.2.2.2.2+1))
  else
   elem' a c.2.2.1 >>= fun y=>
   if (c.2.2.1+1+1==a.size)=true then pure (.done (some (HG a b (c.2.1.push y) (c.2.2.1+1) c.2.2.2.1),c.2.1.push y,c.2.2.1+1,c.2.2.2.1,c.2.2.2.2.1+1,0))
   else if c.2.2.2.2.1+1 >= mg then pure (.done (none,c.2.1.push y,c.2.2.1+1,c.2.2.2.1,c.2.2.2.2.1+1,0)) else pure (.yield (none,c.2.1.push y,c.2.2.1+1,c.2.2.2.1,c.2.2.2.2.1+1,0))
 |_=>pure (.done (some (Dp a b c.2.1 c.2.2.1 c.2.2.2.1),c.2.1,c.2.2.1,c.2.2.2.1,c.2.2.2.2.1,c.2.2.2.2.2))
def P2 (a b:Array Keyed)(c:G7):StateT SortSt Sem (ForInStep G7):=if c.2.2.2.2.1 > 1 then PA a b c.2.1 c.2.2.1 c.2.2.2.1 (c.2.2.2.2.1-1) c.2.2.2.2.2.1 c.2.2.2.2.2.2 else PA a b c.2.1 c.2.2.1 c.2.2.2.1 c.2.2.2.2.1 c.2.2.2.2.2.1 c.2.2.2.2.2.2
def PO (a b:Array Keyed)(c:G5):StateT SortSt Sem (ForInStep G5):=do
 let d <- forIn [0:a.size+b.size] ((none,c.2.1,c.2.2.1,c.2.2.2.1,0,0):G6) fun _ d=>P1 a b c.2.2.2.2 d
 match d.1 with
 |some r=>pure (.done (some r,d.2.1,d.2.2.1,d.2.2.2.1,c.2.2.2.2))
 |none=>do
  liftM (rule "list.sort.gallop")
  let e <- forIn [0:a.size+b.size] ((none,d.2.1,d.2.2.1,d.2.2.2.1,c.2.2.2.2+1,d.2.2.2.2.1,d.2.2.2.2.2):G7) fun _ e=>P2 a b e
  match e.1 with
  |some r=>pure (.done (some r,e.2.1,e.2.2.1,e.2.2.2.1,e.2.2.2.2.1))
  |none=>do
   AR (e.2.2.2.2.1+1)
   pure (.yield (none,e.2.1,e.2.2.1,e.2.2.2.1,e.2.2.2.2.1+1))
def KU (a b:Array Keyed):G1 a b=(do
 liftM (rule "list.sort.merge-lo")
 let y <- elem' b 0
 if (1==b.size)=true then pure (Dp a b #[y] 0 1)
 else if (0+1==a.size)=true then pure (HG a b #[y] 0 1)
 else do
  let g <- get
  let c <- forIn [0:a.size+b.size] ((none,#[y],0,1,gallopOf g):G5) fun _ c=>PO a b c
  match c.1 with
  |some r=>pure r
  |none=>unsupported "internal:list.sort.merge-bound"):=by
 rw[LT]
 refine jG_ (bind _) (funext fun _=>jG_ (bind _) (funext fun y=>?_))
 refine jG_ (ite _ _) (jG_ (ite _ _) (jG_ (bind _) (funext fun g=>?_)))
 refine congr (jG_ bind (jG_ (forIn _ _) (funext fun _=>funext fun c=>?_))) (funext fun c=>?_)
 ·unfold PO
  dsimp only
  refine congr (jG_ bind (jG_ (forIn _ _) (funext fun _=>funext fun d=>?_))) (funext fun d=>?_)
  ·unfold P1
   rfl
  ·cases d.1 with
   |some r=>rfl
   |none=>
    dsimp only
    refine jG_ (bind _) (funext fun _=>congr (jG_ bind (jG_ (forIn _ _) (funext fun _=>funext fun e=>?_))) (funext fun e=>?_))
    ·unfold P2 PA PB PC
     rfl
    ·cases e.1 with
     |some r=>rfl
     |none=>rfl
 ·cases c.1 with
  |some r=>rfl
  |none=>rfl
end aO
namespace aO
open PySem PyProof.Rows
section
variable {prog:Program} {w:World} {A:Around} {E:Value->Shared->Prop} {s:Shared} {a₀:Array Keyed} {κ:KeyKind} {kd:SortKind}
def Bm   {st:SortSt}  (hi:i<arr.size)(h:Q arr[i] st):wpS (model prog w) A E s (elem' arr i) Q st:=by
 rw[elem'_eq,getElem?_pos arr i hi]
 exact jJ_ h
def F8  {st:SortSt}  (h:Q () st):wpS (model prog w) A E s (rule n:StateT SortSt Sem Unit) Q st:=wpS_lift (zR_ ⟨rfl,h⟩)
def EG (a:Array Keyed)(i j:Nat):(a.extract i j).toList=(a.toList.drop i).take (j-i):=by simp[List.extract_eq_take_drop]
def JJ (a:Array Keyed)(i:Nat):(a.extract i a.size).toList=a.toList.drop i:=by
 rw[EG];exact jX_ (by simp)
def NV (a b out:Array Keyed)(ia ib:Nat):(Dp a b out ia ib).toList=out.toList++a.toList.drop ia++b.toList.drop ib:=by
 unfold Dp;rw[sx,sx,JJ,JJ]
def NW (a b out:Array Keyed)(ia ib:Nat):(HG a b out ia ib).toList=out.toList++b.toList.drop ib++a.toList.drop ia:=by
 unfold HG;rw[sx,sx,JJ,JJ]
def LeK.refl (x:Keyed):LeK κ x x:=qQ_ _
def LeK.trans  (h:LeK κ x y)(g:LeK κ y z):LeK κ x z:=xh_ h g
def Qi {a:Array Keyed}(sA:a.toList.Pairwise (LeK κ)){i j:Nat}(a8:i<=j)(hj:j<a.size):LeK κ a[i] a[j]:=by
 by_cases e:i=j
 ·subst e;exact LeK.refl _
 ·exact xE_.mp sA i j (by simpa using s!"") (by simpa using hj) s!""
def CQ {a:Array Keyed}{i:Nat}{y:Keyed}(h:y∈a.toList.drop i):∃j,∃hj:j<a.size,i<=j/\y=a[j]:=by
 obtain⟨k,hk,e⟩:=x9_.mp h
 rw[wi_]at e
 rw[xf_]at hk
 exact⟨i+k,by simpa using (by simp at hk;lia),by lia,by rw[<-e];simp⟩
def NX {a:Array Keyed}{i k:Nat}{y:Keyed}(h:y∈(a.toList.drop i).take k):∃j,∃hj:i+j<a.size,j<k/\y=a[i+j]:=by
 obtain⟨j,hj,e⟩:=x9_.mp h
 rw[uE,wi_]at e
 rw[jx_,xf_]at hj
 exact⟨j,by simp at hj;lia,by lia,by rw[<-e];simp⟩
def G2 {a:Array Keyed}(sA:a.toList.Pairwise (LeK κ)){i:Nat}(hi:i<a.size):∀y∈a.toList.drop i,LeK κ a[i] y:=fun y hy=>by
 obtain⟨j,hj,a8,rfl⟩:=CQ hy
 exact Qi sA a8 hj
def Uv {a:Array Keyed}{i:Nat}(hi:i<a.size):(a.toList.drop i).take 1=[a[i]]:=by
 rw[xb_ (by simpa using hi)];simp
section
variable {a b out:Array Keyed} {ia ib:Nat}
def MI.pushA (h:MI (LeK κ) a.toList b.toList out.toList ia ib)(sA:a.toList.Pairwise (LeK κ))(hi:ia<a.size)(hx:∀y∈b.toList.drop ib,LeK κ a[ia] y):MI (LeK κ) a.toList b.toList (out.push a[ia]).toList (ia+1) ib:=by
 have:=h.ta sA (k:=1) (by simp;lia) (by rw[Uv hi];intro x fI y hy;rw[jr_.mp fI];exact hx y hy)
 rw[Uv hi]at this
 rw[wg_];exact this
def MI.pushB (h:MI (LeK κ) a.toList b.toList out.toList ia ib)(sB:b.toList.Pairwise (LeK κ))(hi:ib<b.size)(hx:∀y∈a.toList.drop ia,LeK κ b[ib] y):MI (LeK κ) a.toList b.toList (out.push b[ib]).toList ia (ib+1):=(h.swap.pushA sB hi hx).swap
def MI.extA (h:MI (LeK κ) a.toList b.toList out.toList ia ib)(sA:a.toList.Pairwise (LeK κ))  (hk:ia+k<=a.size)(hx:∀j,j<k->∀(hj:ia+j<a.size),∀y∈b.toList.drop ib,LeK κ a[ia+j] y):MI (LeK κ) a.toList b.toList (out++a.extract ia (ia+k)).toList (ia+k) ib:=by
 have:=h.ta sA (k:=k) (by simpa using hk) (fun x fI y hy=>by
  obtain⟨j,hj,iG,rfl⟩:=NX fI
  exact hx j iG hj y hy)
 rw[qY_,EG,show ia+k-ia=k by lia];exact this
def MI.extB (h:MI (LeK κ) a.toList b.toList out.toList ia ib)(sB:b.toList.Pairwise (LeK κ))  (hk:ib+k<=b.size)(hx:∀j,j<k->∀(hj:ib+j<b.size),∀y∈a.toList.drop ia,LeK κ b[ib+j] y):MI (LeK κ) a.toList b.toList (out++b.extract ib (ib+k)).toList ia (ib+k):=(h.swap.extA sB hk hx).swap
end
def DT   (hi:i<xs.size):KK κ xs i=KE κ xs[i]:=RM (getElem?_pos xs i hi)
def Ta  (hA:∀x∈a.toList,x∈a₀.toList)  (h:i+n<=a.size):InA a₀ a i n:=fun j hj=>⟨a[i+j],getElem?_pos _ _ s!"",hA _ (by simp)⟩
def JK    {st:SortSt}  (hO:LtOk kd κ a₀ prog w A E s)(hk:kindOf st=kd)(bU:key∈a₀.toList)(hA:∀x∈a.toList,x∈a₀.toList)(sA:∀i j (hi:i<a.size) (hj:j<a.size),base<=i->i<=j->j<base+n->LeK κ a[i] a[j])(hn:base+n<=a.size)(hh:hint<n)
  (h:∀k,k<=n->(∀i (hi:base+i<a.size),i<k->LeK κ a[base+i] key)->(∀i (hi:base+i<a.size),k<=i->i<n->κ.klt (KE κ key) (KE κ a[base+i]))->Q (some k) st):
  wpS (model prog w) A E s (BU false key a base n hint) Q st:=by
 refine KS hO hk bU (Ta hA hn) hh (fun i j a8 hj hb=>?_) (fun k kf h1 h2=>h k kf (fun i hi kg=>?_) (fun i hi kg cc=>?_))
 ·simp only[gB,jT_,qX_,DT (show base+i<a.size by lia),DT (show base+j<a.size by lia),uF]at hb ⊢
  exact xh_ (sA _ _ s!"" s!"" s!"" s!"" s!"") hb
 ·have:=h1 i kg
  simp only[gB,jT_,qX_,DT hi,uF]at this
  exact this
 ·have:=h2 i kg cc
  simp only[gB,jT_,qX_,DT hi,Bool.not_eq_false']at this
  exact this
def JL    {st:SortSt}  (hO:LtOk kd κ a₀ prog w A E s)(hk:kindOf st=kd)(bU:key∈a₀.toList)(hA:∀x∈a.toList,x∈a₀.toList)(sA:∀i j (hi:i<a.size) (hj:j<a.size),base<=i->i<=j->j<base+n->LeK κ a[i] a[j])(hn:base+n<=a.size)(hh:hint<n)
  (h:∀k,k<=n->(∀i (hi:base+i<a.size),i<k->κ.klt (KE κ a[base+i]) (KE κ key))->(∀i (hi:base+i<a.size),k<=i->i<n->LeK κ key a[base+i])->Q (some k) st):
  wpS (model prog w) A E s (BU true key a base n hint) Q st:=by
 refine KS hO hk bU (Ta hA hn) hh (fun i j a8 hj hb=>?_) (fun k kf h1 h2=>h k kf (fun i hi kg=>?_) (fun i hi kg cc=>?_))
 ·simp only[gB,xW_,DT (show base+i<a.size by lia),DT (show base+j<a.size by lia)]at hb ⊢
  exact KeyOrd.klt_of_kle_of_klt (sA _ _ s!"" s!"" s!"" s!"" s!"") hb
 ·have:=h1 i kg
  simp only[gB,xW_,DT hi]at this
  exact this
 ·have:=h2 i kg cc
  simp only[gB,xW_,DT hi]at this
  exact this
def JN {a:Array Keyed}(sA:a.toList.Pairwise (LeK κ))(base n:Nat):∀i j (hi:i<a.size) (hj:j<a.size),base<=i->i<=j->j<base+n->LeK κ a[i] a[j]:=fun _ _ _ hj _ a8 _=>Qi sA a8 hj
structure MP (a₀:Array Keyed)(κ:KeyKind)(a b:Array Keyed):Prop where
 hA:∀x∈a.toList,x∈a₀.toList
 hB:∀x∈b.toList,x∈a₀.toList
 sA:a.toList.Pairwise (LeK κ)
 sB:b.toList.Pairwise (LeK κ)
 ha:1<=a.size
 hb:1<=b.size
 hf:∀y∈a.toList,LeK κ b[0] y
 hl:∀x∈b.toList,LeK κ x a[a.size-1]
section
variable {a b:Array Keyed}
def MP.done (M:MP a₀ κ a b)   (h:MI (LeK κ) a.toList b.toList out.toList ia ib)(he:a.size<=ia\/b.size<=ib):Mgd (LeK κ) a.toList b.toList (Dp a b out ia ib).toList:=by
 rw[NV];exact h.done M.sA M.sB (by simpa using he)
def MP.last (M:MP a₀ κ a b)   (h:MI (LeK κ) a.toList b.toList out.toList ia ib)(he:ia+1=a.size):Mgd (LeK κ) a.toList b.toList (HG a b out ia ib).toList:=by
 rw[NW]
 refine h.last M.sA M.sB (fun x hx y hy=>?_)
 obtain⟨j,hj,a8,rfl⟩:=CQ hy
 have e:j=a.size-1:=by lia
 subst e
 exact M.hl x hx
def MJ (κ:KeyKind)(a b:Array Keyed)(out:Array Keyed)(ia ib p:Nat):Prop:=MI (LeK κ) a.toList b.toList out.toList ia ib/\ia+1<a.size/\ib<b.size/\p<=ia+ib
def Wj (hO:LtOk kd κ a₀ prog w A E s)(M:MP a₀ κ a b){st:SortSt}(hk:kindOf st=kd)   (h1:c.1=none)(hJ:MJ κ a b c.2.1 c.2.2.1 c.2.2.2.1 p)
  (h:∀d:G6,d.1=none->MJ κ a b d.2.1 d.2.2.1 d.2.2.2.1 (p+1)->Q (.yield d) st/\Q (.done d) st) (hd:∀(d:G6) x,d.1=some x->Mgd (LeK κ) a.toList b.toList x.toList->Q (.done d) st):
  wpS (model prog w) A E s (P1 a b mg c) Q st:=by
 obtain⟨c0,out,ia,ib,ac,bc⟩:=c
 obtain⟨hM,h2,h3,h4⟩:=hJ
 dsimp only at *
 unfold P1
 dsimp only
 refine jB_ (Bm h3 (jB_ (Bm (show ia<a.size by lia) (jB_ (hO _ _ _ _ (M.hB _ (by simp)) (M.hA _ (by simp)) hk ?_)))))
 cases e:κ.blt (KE κ b[ib]) (KE κ a[ia]) with
 |true=>
  dsimp only
  rw[if_pos rfl]
  have cj:=hM.pushB M.sB h3 (fun y hy=>LeK.trans (qC_ e) (G2 M.sA s!"" y hy))
  refine jB_ (Bm h3 ?_)
  by_cases hq:ib+1=b.size
  ·rw[if_pos (by simpa using hq)]
   exact jJ_ (hd _ _ rfl (M.done cj (.inr s!"")))
  ·rw[if_neg (by simpa using hq)]
   have hh:=h (none,out.push b[ib],ia,ib+1,0,bc+1) rfl (show MJ κ a b (out.push b[ib]) ia (ib+1) (p+1) from ⟨cj,h2,by lia,by lia⟩)
   split
   ·exact jJ_ hh.2
   ·exact jJ_ hh.1
 |false=>
  dsimp only
  rw[if_neg (by simp)]
  have cj:=hM.pushA M.sA (show ia<a.size by lia) (fun y hy=>LeK.trans e (G2 M.sB h3 y hy))
  refine jB_ (Bm (show ia<a.size by lia) ?_)
  by_cases hq:ia+1+1=a.size
  ·rw[if_pos (by simpa using hq)]
   exact jJ_ (hd _ _ rfl (M.last cj hq))
  ·rw[if_neg (by simpa using hq)]
   have hh:=h (none,out.push a[ia],ia+1,ib,ac+1,0) rfl (show MJ κ a b (out.push a[ia]) (ia+1) ib (p+1) from ⟨cj,by lia,h3,by lia⟩)
   split
   ·exact jJ_ hh.2
   ·exact jJ_ hh.1
def VO (M:MP a₀ κ a b){st:SortSt}   (hM:MI (LeK κ) a.toList b.toList out.toList ia ib)(h2:ia+1<a.size)(h3:ib<b.size)(h4:p<=ia+ib)(bh:∀y∈b.toList.drop ib,LeK κ a[ia] y)
  (h:∀d:G7,d.1=none->MJ κ a b d.2.1 d.2.2.1 d.2.2.2.1 p->Q (.yield d) st/\Q (.done d) st) (hd:∀(d:G7) x,d.1=some x->Mgd (LeK κ) a.toList b.toList x.toList->Q (.done d) st):
  wpS (model prog w) A E s (PC a b out ia ib mg ac bc) Q st:=by
 unfold PC
 refine jB_ (Bm (show ia<a.size by lia) ?_)
 have cj:=hM.pushA M.sA (show ia<a.size by lia) bh
 by_cases hq:ia+1+1=a.size
 ·rw[if_pos (by simpa using hq)]
  exact jJ_ (hd _ _ rfl (M.last cj hq))
 ·rw[if_neg (by simpa using hq)]
  have hh:=h (none,out.push a[ia],ia+1,ib,mg,ac,bc) rfl (show MJ κ a b (out.push a[ia]) (ia+1) ib p from ⟨cj,by lia,h3,by lia⟩)
  split
  ·exact jJ_ hh.2
  ·exact jJ_ hh.1
def VP (hO:LtOk kd κ a₀ prog w A E s)(M:MP a₀ κ a b){st:SortSt}(hk:kindOf st=kd)   (hM:MI (LeK κ) a.toList b.toList out.toList ia ib)(h2:ia+1<a.size)(h3:ib<b.size)(h4:p<=ia+ib)(bh:∀y∈a.toList.drop ia,LeK κ b[ib] y)
  (h:∀d:G7,d.1=none->MJ κ a b d.2.1 d.2.2.1 d.2.2.2.1 p->Q (.yield d) st/\Q (.done d) st) (hd:∀(d:G7) x,d.1=some x->Mgd (LeK κ) a.toList b.toList x.toList->Q (.done d) st):
  wpS (model prog w) A E s (PB a b out ia ib mg ac bc) Q st:=by
 unfold PB
 refine jB_ (Bm h3 ?_)
 have cj:=hM.pushB M.sB h3 bh
 by_cases hq:ib+1=b.size
 ·rw[if_pos (by simpa using hq)]
  exact jJ_ (hd _ _ rfl (M.done cj (.inr s!"")))
 ·rw[if_neg (by simpa using hq)]
  refine jB_ (Bm (show ia<a.size by lia) (jB_ (JL hO hk (M.hA _ (by simp)) M.hB (JN M.sB _ _) s!"" s!"" (fun k kf g1 g2=>?_))))
  dsimp only
  have gV:∀y∈b.toList.drop (ib+1+k),LeK κ a[ia] y:=fun y hy=>by
   obtain⟨j,hj,a8,rfl⟩:=CQ hy
   have:=g2 (j-(ib+1)) s!"" s!"" s!""
   have e:ib+1+(j-(ib+1))=j:=by lia
   simp only[e]at this
   exact this
  by_cases dZ:k > 0
  ·rw[if_pos dZ]
   have d6:=cj.extB M.sB (k:=k) s!"" (fun j hj cn y hy=>LeK.trans (qC_ (g1 j cn hj)) (G2 M.sA s!"" y hy))
   by_cases dq:ib+1+k=b.size
   ·rw[if_pos (by simpa using dq)]
    exact jJ_ (hd _ _ rfl (M.done d6 (.inr s!"")))
   ·rw[if_neg (by simpa using dq)]
    exact VO M d6 h2 s!"" s!"" gV h hd
  ·rw[if_neg dZ]
   have e:k=0:=by lia
   subst e
   exact VO M cj h2 s!"" s!"" gV h hd
def SG.trans {st ag aG:SortSt}(h:SG st ag)(g:SG ag aG):SG st aG:=⟨g.kd.trans h.kd,g.arr.trans h.arr,g.pe.trans h.pe,g.fa.trans h.fa⟩
def JO  {st:SortSt}  (h:Q () (Eb st g)):wpS (model prog w) A E s (AR g) Q st:=by
 rw[GG];exact zS_ h
def VQ (hO:LtOk kd κ a₀ prog w A E s)(M:MP a₀ κ a b){st:SortSt}(hk:kindOf st=kd)   (hJ:MJ κ a b out ia ib p)
  (h:∀(d:G7) ag,SG st ag->d.1=none->MJ κ a b d.2.1 d.2.2.1 d.2.2.2.1 p->Q (.yield d) ag/\Q (.done d) ag) (hd:∀(d:G7) x ag,SG st ag->d.1=some x->Mgd (LeK κ) a.toList b.toList x.toList->Q (.done d) ag):
  wpS (model prog w) A E s (PA a b out ia ib mg ac bc) Q st:=by
 obtain⟨hM,h2,h3,h4⟩:=hJ
 unfold PA
 refine jB_ (JO ?_)
 have hG:SG st (Eb st mg):=(SG.refl st).set mg
 refine jB_ (Bm h3 (jB_ (JK hO (hG.kd.trans hk) (M.hB _ (by simp)) M.hA (JN M.sA _ _) s!"" s!"" (fun k kf g1 g2=>?_))))
 dsimp only
 have bh:∀y∈a.toList.drop (ia+k),LeK κ b[ib] y:=fun y hy=>by
  obtain⟨j,hj,a8,rfl⟩:=CQ hy
  have:=g2 (j-ia) s!"" s!"" s!""
  have e:ia+(j-ia)=j:=by lia
  simp only[e]at this
  exact qC_ this
 by_cases dZ:k > 0
 ·rw[if_pos dZ]
  have d6:=hM.extA M.sA (k:=k) s!"" (fun j hj cn y hy=>LeK.trans (g1 j cn hj) (G2 M.sB h3 y hy))
  by_cases hq:ia+k+1=a.size
  ·rw[if_pos (by simpa using hq)]
   exact jJ_ (hd _ _ _ hG rfl (M.last d6 hq))
  ·rw[if_neg (by simpa using hq)]
   by_cases dq:ia+k=a.size
   ·rw[if_pos (by simpa using dq)]
    exact jJ_ (hd _ _ _ hG rfl (M.done d6 (.inl s!"")))
   ·rw[if_neg (by simpa using dq)]
    exact VP hO M (hG.kd.trans hk) d6 s!"" h3 s!"" bh (fun d=>h d _ hG) (fun d x=>hd d x _ hG)
 ·rw[if_neg dZ]
  have e:k=0:=by lia
  subst e
  exact VP hO M (hG.kd.trans hk) hM h2 h3 h4 bh (fun d=>h d _ hG) (fun d x=>hd d x _ hG)
def Wk (hO:LtOk kd κ a₀ prog w A E s)(M:MP a₀ κ a b){st:SortSt}(hk:kindOf st=kd)   (hJ:MJ κ a b c.2.1 c.2.2.1 c.2.2.2.1 p)
  (h:∀(d:G7) ag,SG st ag->d.1=none->MJ κ a b d.2.1 d.2.2.1 d.2.2.2.1 p->Q (.yield d) ag/\Q (.done d) ag) (hd:∀(d:G7) x ag,SG st ag->d.1=some x->Mgd (LeK κ) a.toList b.toList x.toList->Q (.done d) ag):
  wpS (model prog w) A E s (P2 a b c) Q st:=by
 unfold P2
 split
 ·exact VQ hO M hk hJ h hd
 ·exact VQ hO M hk hJ h hd
def Wl (hO:LtOk kd κ a₀ prog w A E s)(M:MP a₀ κ a b){st:SortSt}(hk:kindOf st=kd)   (hJ:MJ κ a b c.2.1 c.2.2.1 c.2.2.2.1 p)
  (h:∀(d:G5) ag,SG st ag->d.1=none->MJ κ a b d.2.1 d.2.2.1 d.2.2.2.1 (p+1)->Q (.yield d) ag) (hd:∀(d:G5) x ag,SG st ag->d.1=some x->Mgd (LeK κ) a.toList b.toList x.toList->Q (.done d) ag):
  wpS (model prog w) A E s (PO a b c) Q st:=by
 have b8:1<=a.size+b.size:=by have:=M.ha;lia
 unfold PO
 refine jB_ (x7_ (qP_ (I:=fun x d ag=>ag=st/\d.1=none/\MJ κ a b d.2.1 d.2.2.1 d.2.2.2.1 (p+x))
   (Q:=fun d ag=>ag=st/\((d.1=none/\MJ κ a b d.2.1 d.2.2.1 d.2.2.2.1 (p+1)) \/ ∃x,d.1=some x/\Mgd (LeK κ) a.toList b.toList x.toList)) ?step ?fin ⟨rfl,rfl,hJ⟩) ?post)
 case step=>
  rintro x d ag _ hx ⟨rfl,h1,h2⟩
  refine Wj hO M hk h1 h2 (fun d' g1 g2=>⟨⟨rfl,g1,g2⟩,rfl,.inl ⟨g1,g2.1,g2.2.1,g2.2.2.1,?_⟩⟩) (fun d' x g1 g2=>⟨rfl,.inr ⟨x,g1,g2⟩⟩)
  have:=g2.2.2.2;lia
 case fin=>
  rintro d ag ⟨rfl,h1,h2⟩
  refine⟨rfl,.inl ⟨h1,h2.1,h2.2.1,h2.2.2.1,?_⟩⟩
  have:=h2.2.2.2;lia
 case post=>
  rintro d ag ⟨rfl,hh⟩
  rcases hh with ⟨h1,h2⟩|⟨x,h1,h2⟩
  ·rw[h1]
   dsimp only
   refine jB_ (F8 ?_)
   refine jB_ (x7_ (qP_ (I:=fun x d aG=>SG ag aG/\d.1=none/\MJ κ a b d.2.1 d.2.2.1 d.2.2.2.1 (p+1))
    (Q:=fun d aG=>SG ag aG/\((d.1=none/\MJ κ a b d.2.1 d.2.2.1 d.2.2.2.1 (p+1)) \/ ∃x,d.1=some x/\Mgd (LeK κ) a.toList b.toList x.toList)) ?step2 ?fin2 ⟨SG.refl _,rfl,h2⟩) ?post2)
   case step2=>
    rintro x e aG _ hx ⟨g0,g1,g2⟩
    exact Wk hO M (g0.kd.trans hk) g2 (fun d' cm k0 k1 k2=>⟨⟨g0.trans k0,k1,k2⟩,g0.trans k0,.inl ⟨k1,k2⟩⟩) (fun d' x cm k0 k1 k2=>⟨g0.trans k0,.inr ⟨x,k1,k2⟩⟩)
   case fin2=>
    rintro e aG ⟨g0,g1,g2⟩
    exact⟨g0,.inl ⟨g1,g2⟩⟩
   case post2=>
    rintro e aG ⟨g0,hh⟩
    rcases hh with ⟨g1,g2⟩|⟨x,g1,g2⟩
    ·rw[g1]
     dsimp only
     refine jB_ (JO (jJ_ ?_))
     exact h (none,e.2.1,e.2.2.1,e.2.2.2.1,e.2.2.2.2.1+1) _ (g0.set _) rfl g2
    ·rw[g1]
     dsimp only
     exact jJ_ (hd _ x _ g0 rfl g2)
  ·rw[h1]
   dsimp only
   exact jJ_ (hd _ x _ (SG.refl _) rfl h2)
def NY {st:SortSt}  (hO:LtOk kd κ a₀ prog w A E s)(M:MP a₀ κ a b)(hk:kindOf st=kd)
  (h:∀r ag,SG st ag->Mgd (LeK κ) a.toList b.toList r.toList->Q r ag):wpS (model prog w) A E s (G1 a b) Q st:=by
 have ha:=M.ha
 have hb:=M.hb
 rw[KU]
 refine jB_ (F8 (jB_ (Bm hb ?_)))
 have hM:MI (LeK κ) a.toList b.toList (#[b[0]]:Array Keyed).toList 0 1:=MI.pushB (out := #[]) (MI.start _ _) M.sB hb (by simpa using M.hf)
 by_cases h1:1=b.size
 ·rw[if_pos (by simpa using h1)]
  exact jJ_ (h _ _ (SG.refl _) (M.done hM (.inr s!"")))
 ·rw[if_neg (by simpa using h1)]
  by_cases h2:0+1=a.size
  ·rw[if_pos (by simpa using h2)]
   exact jJ_ (h _ _ (SG.refl _) (M.last hM h2))
  ·rw[if_neg (by simpa using h2)]
   refine jB_ (wpS_get ?_)
   refine jB_ (x7_ (qP_ (I:=fun x c ag=>SG st ag/\c.1=none/\MJ κ a b c.2.1 c.2.2.1 c.2.2.2.1 (1+x))
    (Q:=fun c ag=>SG st ag/\∃x,c.1=some x/\Mgd (LeK κ) a.toList b.toList x.toList) ?step ?fin ⟨SG.refl _,rfl,show MJ κ a b #[b[0]] 0 1 (1+0) from ⟨hM,by lia,by lia,by lia⟩⟩) ?post)
   case step=>
    rintro x c ag _ hx ⟨g0,g1,g2⟩
    exact Wl hO M (g0.kd.trans hk) g2 (fun d aX k0 k1 k2=>⟨g0.trans k0,k1,k2⟩) (fun d x aX k0 k1 k2=>⟨g0.trans k0,x,k1,k2⟩)
   case fin=>
    rintro c ag ⟨g0,g1,g2⟩
    have:=g2.2.1;have:=g2.2.2.1;have:=g2.2.2.2
    lia
   case post=>
    rintro c ag ⟨g0,x,g1,g2⟩
    rw[g1]
    dsimp only
    exact jJ_ (h x ag g0 g2)
end
end
end aO
namespace aO
open PySem PyProof.Rows
def G3:Array Keyed->Array Keyed->StateT SortSt Sem (Array Keyed):=sortPriv% PySem.Builtin.mergeHi
def doneH (a b out:Array Keyed)(na nb:Nat):Array Keyed:=a.extract 0 na++b.extract 0 nb++out.reverse
def firstB (a b out:Array Keyed)(na nb:Nat):Array Keyed:=b.extract 0 nb++a.extract 0 na++out.reverse
def LU (a b:Array Keyed):G3 a b=(do
 rule "list.sort.merge-hi"
 let mut na:=a.size-1
 let mut nb:=b.size
 let mut out:Array Keyed := #[<-elem' a na]
 if na==0 then return doneH a b out na nb
 if nb==1 then return firstB a b out na nb
 let mut minGallop:=gallopOf ( <- get)
 for _ in [0:a.size+b.size] do
  let mut acount:=0
  let mut bcount:=0
  for _ in [0:a.size+b.size] do
   let some gW <- lt' ( <- elem' b (nb-1)) ( <- elem' a (na-1))|return doneH a b out na nb
   if gW then
    na:=na-1;out:=out.push ( <- elem' a na);acount:=acount+1;bcount:=0
    if na==0 then return doneH a b out na nb
    if acount >= minGallop then break
   else
    nb:=nb-1;out:=out.push ( <- elem' b nb);bcount:=bcount+1;acount:=0
    if nb==1 then return firstB a b out na nb
    if bcount >= minGallop then break
  rule "list.sort.gallop"
  minGallop:=minGallop+1
  for _ in [0:a.size+b.size] do
   if minGallop > 1 then minGallop:=minGallop-1
   AR minGallop
   let some gX <- BU false ( <- elem' b (nb-1)) a 0 na (na-1)|return doneH a b out na nb
   let k:=na-gX
   acount:=k
   if k > 0 then
    out:=out++(a.extract gX na).reverse;na:=gX
    if na==0 then return doneH a b out na nb
   nb:=nb-1;out:=out.push ( <- elem' b nb)
   if nb==1 then return firstB a b out na nb
   let some gX <- BU true ( <- elem' a (na-1)) b 0 nb (nb-1)|return doneH a b out na nb
   let k:=nb-gX
   bcount:=k
   if k > 0 then
    out:=out++(b.extract gX nb).reverse;nb:=gX
    if nb==1 then return firstB a b out na nb
    if nb==0 then return doneH a b out na nb
   na:=na-1;out:=out.push ( <- elem' a na)
   if na==0 then return doneH a b out na nb
   if acount<7&&bcount<7 then break
  minGallop:=minGallop+1
  AR minGallop
 unsupported "internal:list.sort.merge-bound"):=rfl
abbrev H5:=Option (Array Keyed)×Nat×Nat×Array Keyed×Nat
abbrev H6:=Option (Array Keyed)×Nat×Nat×Array Keyed×Nat×Nat
abbrev H7:=Option (Array Keyed)×Nat×Nat×Array Keyed×Nat×Nat×Nat
def HC (a b out:Array Keyed)(na nb mg ac bc:Nat):StateT SortSt Sem (ForInStep H7):=do
 let y <- elem' a (na-1)
 if (na-1==0)=true then pure (.done (some (doneH a b (out.push y) (na-1) nb),na-1,nb,out.push y,mg,ac,bc))
 else if (decide (ac<7)&&decide (bc<7))=true then pure (.done (none,na-1,nb,out.push y,mg,ac,bc)) else pure (.yield (none,na-1,nb,out.push y,mg,ac,bc))
def HB (a b out:Array Keyed)(na nb mg ac bc:Nat):StateT SortSt Sem (ForInStep H7):=do
 let y <- elem' b (nb-1)
 if (nb-1==1)=true then pure (.done (some (firstB a b (out.push y) na (nb-1)),na,nb-1,out.push y,mg,ac,bc))
 else do
  let z <- elem' a (na-1)
  let x <- BU true z b 0 (nb-1) (nb-1-1)
  match x with
  |some t=>if nb-1-t > 0 then (if (t==1)=true then pure (.done (some (firstB a b (out.push y++(b.extract t (nb-1)).reverse) na t),na,t,out.push y++(b.extract t (nb-1)).reverse,mg,ac,nb-1-t)) else if (t==0)=true then pure (.done (some (doneH a b (out.push y++(b.extract t (nb-1)).reverse) na t),na,t,out.push y++(b.extract t (nb-1)).reverse,mg,ac,nb-1-t)) else HC a b (out.push y++(b.extract t (nb-1)).reverse) na t mg ac (nb-1-t)) else HC a b (out.push y) na (nb-1) mg ac (nb-1-t)
  |_=>pure (.done (some (doneH a b (out.push y) na (nb-1)),na,nb-1,out.push y,mg,ac,bc))
def HA (a b out:Array Keyed)(na nb mg ac bc:Nat):StateT SortSt Sem (ForInStep H7):=do
 AR mg
 let y <- elem' b (nb-1)
 let x <- BU false y a 0 na (na-1)
 match x with
 |some t=>if na-t > 0 then (if (t==0)=true then pure (.done (some (doneH a b (out++(a.extract t na).reverse) t nb),t,nb,out++(a.extract t na).reverse,mg,na-t,bc)) else HB a b (out++(a.extract t na).reverse) t nb mg (na-t) bc) else HB a b out na nb mg (na-t) bc
 |_=>pure (.done (some (doneH a b out na nb),na,nb,out,mg,ac,bc))
def H1 (a b:Array Keyed)(mg:Nat)(c:H6):StateT SortSt Sem (ForInStep H6):=do
 let y <- elem' b (c.2.2.1-1)
 let z <- elem' a (c.2.1-1)
 let x <- lt' y z
 match x with
 |some gW=>
  if gW=true then
   elem' a (c.2.1-1) >>= fun y=>
   if (c.2.1-1==0)=true then pure (.done (some (doneH a b (c.2.2.2.1.push y) (c.2.1-1) c.2.2.1),c.2.1-1,c.2.2.1,c.2.2.2.1.push y,c.2.2.2.2.1+1,0))
   else if c.2.2.2.2.1+1 >= mg then pure (.done (none,c.2.1-1,c.2.2.1,c.2.2.2.1.push y,c.2.2.2.2.1+1,0)) else pure (.yield (none,c.2.1-1,c.2.2.1,c.2.2.2.1.push y,c.2.2.2.2.1+1,0))
  else
   elem' b (c.2.2.1-1) >>= fun y=>
   if (c.2.2.1-1==1)=true then pure (.done (some (firstB a b (c.2.2.2.1.push y) c.2.1 (c.2.2.1-1)),c.2.1,c.2.2.1-1,c.2.2.2.1.push y,0,c.2.2.2.2.2+1))
   else if c.2.2.2.2.2+1 >= mg then pure (.done (none,c.2.1,c.2.2.1-1,c.2.2.2.1.push y,0,c.2.2.2.2.2+1)) else pure (.yield (none,c.2.1,c.2.2.1-1,c.2.2.2.1.push y,0,c.2.2.2.2.2+1))
 |_=>pure (.done (some (doneH a b c.2.2.2.1 c.2.1 c.2.2.1),c.2.1,c.2.2.1,c.2.2.2.1,c.2.2.2.2.1,c.2.2.2.2.2))
def H2 (a b:Array Keyed)(c:H7):StateT SortSt Sem (ForInStep H7):=if c.2.2.2.2.1 > 1 then HA a b c.2.2.2.1 c.2.1 c.2.2.1 (c.2.2.2.2.1-1) c.2.2.2.2.2.1 c.2.2.2.2.2.2 else HA a b c.2.2.2.1 c.2.1 c.2.2.1 c.2.2.2.2.1 c.2.2.2.2.2.1 c.2.2.2.2.2.2
def HO (a b:Array Keyed)(c:H5):StateT SortSt Sem (ForInStep H5):=do
 let d <- forIn [0:a.size+b.size] ((none,c.2.1,c.2.2.1,c.2.2.2.1,0,0):H6) fun _ d=>H1 a b c.2.2.2.2 d
 match d.1 with
 |some r=>pure (.done (some r,d.2.1,d.2.2.1,d.2.2.2.1,c.2.2.2.2))
 |none=>do
  liftM (rule "list.sort.gallop")
  let e <- forIn [0:a.size+b.size] ((none,d.2.1,d.2.2.1,d.2.2.2.1,c.2.2.2.2+1,d.2.2.2.2.1,d.2.2.2.2.2):H7) fun _ e=>H2 a b e
  match e.1 with
  |some r=>pure (.done (some r,e.2.1,e.2.2.1,e.2.2.2.1,e.2.2.2.2.1))
  |none=>do
   AR (e.2.2.2.2.1+1)
   pure (.yield (none,e.2.1,e.2.2.1,e.2.2.2.1,e.2.2.2.2.1+1))
def KW (a b:Array Keyed):G3 a b=(do
 liftM (rule "list.sort.merge-hi")
 let y <- elem' a (a.size-1)
 if (a.size-1==0)=true then pure (doneH a b #[y] (a.size-1) b.size)
 else if (b.size==1)=true then pure (firstB a b #[y] (a.size-1) b.size)
 else do
  let g <- get
  let c <- forIn [0:a.size+b.size] ((none,a.size-1,b.size,#[y],gallopOf g):H5) fun _ c=>HO a b c
  match c.1 with
  |some r=>pure r
  |none=>unsupported "internal:list.sort.merge-bound"):=by
 rw[LU]
 refine jG_ (bind _) (funext fun _=>jG_ (bind _) (funext fun y=>?_))
 refine jG_ (ite _ _) (jG_ (ite _ _) (jG_ (bind _) (funext fun g=>?_)))
 refine congr (jG_ bind (jG_ (forIn _ _) (funext fun _=>funext fun c=>?_))) (funext fun c=>?_)
 ·unfold HO
  dsimp only
  refine congr (jG_ bind (jG_ (forIn _ _) (funext fun _=>funext fun d=>?_))) (funext fun d=>?_)
  ·unfold H1
   rfl
  ·cases d.1 with
   |some r=>rfl
   |none=>
    dsimp only
    refine jG_ (bind _) (funext fun _=>congr (jG_ bind (jG_ (forIn _ _) (funext fun _=>funext fun e=>?_))) (funext fun e=>?_))
    ·unfold H2 HA HB HC
     rfl
    ·cases e.1 with
     |some r=>rfl
     |none=>rfl
 ·cases c.1 with
  |some r=>rfl
  |none=>rfl
section
variable {α:Type} {R:α->α->Prop} {A B:List α}
def HH (A:List α)  (h:n<=A.length):A.reverse.drop (A.length-n)=(A.take n).reverse:=by
 rw[List.drop_reverse,show A.length-(A.length-n)=n by lia]
def Qj (A:List α)  (h:n<=A.length)(ht:t<=n):(A.reverse.drop (A.length-n)).take (n-t)=((A.take n).drop t).reverse:=by
 rw[HH A h,List.take_reverse,jx_,show min n A.length-(n-t)=t by lia]
def Mgd.rev  (h:Mgd (fun x y=>R y x) B.reverse A.reverse r.reverse):Mgd R A B r:=by
 refine⟨?_,xd_.mp h.2⟩
 have:=h.1
 rw[<-q8_]at this
 exact ((uG r).symm.trans this).trans (uG _)
end
section
variable {prog:Program} {w:World} {A:Around} {E:Value->Shared->Prop} {s:Shared} {a₀:Array Keyed} {κ:KeyKind} {kd:SortKind} {a b out:Array Keyed} {na nb:Nat}
structure MH (κ:KeyKind)(a b out:Array Keyed)(na nb:Nat):Prop where
 ha:na<=a.size
 hb:nb<=b.size
 mi:MI (fun x y=>LeK κ y x) a.toList.reverse b.toList.reverse out.toList (a.toList.length-na) (b.toList.length-nb)
def MH.swap (h:MH κ a b out na nb):MH κ b a out nb na:=⟨h.hb,h.ha,h.mi.swap⟩
def Qk   (h:x∈(a.toList.take na).drop t):∃j,∃hj:j<a.size,t<=j/\j<na/\x=a[j]:=by
 obtain⟨k,hk,e⟩:=x9_.mp h
 rw[wi_,uE]at e
 rw[xf_,jx_]at hk
 exact⟨t+k,by simp at hk;lia,by lia,by lia,by rw[<-e];simp⟩
def M3  (h:x∈a.toList.take na):∃j,∃hj:j<a.size,j<na/\x=a[j]:=by
 obtain⟨j,hj,_,h2,e⟩:=Qk (t:=0) (by simpa using h)
 exact⟨j,hj,h2,e⟩
def MH.extA (h:MH κ a b out na nb)(sA:a.toList.Pairwise (LeK κ))  (ht:t<=na)(hx:∀j (hj:j<a.size),t<=j->j<na->∀y∈b.toList.take nb,LeK κ y a[j]):MH κ a b (out++(a.extract t na).reverse) t nb:=by
 have hna:=h.ha
 have hl:a.toList.length=a.size:=j3_
 have:=h.mi.ta (xd_.mpr sA) (k:=na-t) (by rw[xR_];lia) (by
  rw[Qj _ s!"" ht,HH _ (by have:=h.hb;simpa using this)]
  intro x fI y hy
  obtain⟨j,hj,h1,h2,rfl⟩:=Qk (q6_.mp fI)
  exact hx j hj h1 h2 y (q6_.mp hy))
 rw[Qj _ s!"" ht,show a.toList.length-na+(na-t)=a.toList.length-t by lia]at this
 refine⟨by lia,h.hb,?_⟩
 rw[qY_,za_,EG,show (xk t a.toList).take (na-t)=(a.toList.take na).drop t by rw[vf]]
 exact this
def MH.extB (h:MH κ a b out na nb)(sB:b.toList.Pairwise (LeK κ))  (ht:t<=nb)(hx:∀j (hj:j<b.size),t<=j->j<nb->∀y∈a.toList.take na,LeK κ y b[j]):MH κ a b (out++(b.extract t nb).reverse) na t:=(h.swap.extA sB ht hx).swap
def MH.pushA (h:MH κ a b out na nb)(sA:a.toList.Pairwise (LeK κ))(h1:1<=na)(hi:na-1<a.size)(hx:∀y∈b.toList.take nb,LeK κ y a[na-1]):MH κ a b (out.push a[na-1]) (na-1) nb:=by
 have hna:=h.ha
 have:=h.extA sA (t:=na-1) s!"" (fun j hj g1 g2 y hy=>by (have e:j=na-1:=by lia);subst e;exact hx y hy)
 have e:(a.extract (na-1) na).reverse = #[a[na-1]]:=by
  apply wX
  rw[za_,EG,show na-(na-1)=1 by lia,Uv hi];rfl
 rw[e]at this
 simpa using this
def MH.pushB (h:MH κ a b out na nb)(sB:b.toList.Pairwise (LeK κ))(h1:1<=nb)(hi:nb-1<b.size)(hx:∀y∈a.toList.take na,LeK κ y b[nb-1]):MH κ a b (out.push b[nb-1]) na (nb-1):=(h.swap.pushA sB h1 hi hx).swap
def VR (a:Array Keyed)(n:Nat):(a.extract 0 n).toList=a.toList.take n:=by rw[EG];simp
def MP.doneH (M:MP a₀ κ a b)(h:MH κ a b out na nb)(he:na=0\/nb=0):Mgd (LeK κ) a.toList b.toList (doneH a b out na nb).toList:=by
 apply Mgd.rev
 have hA:=h.ha
 have hB:=h.hb
 have:=h.mi.swap.done (xd_.mpr M.sB) (xd_.mpr M.sA) (by simp only[xR_];simp only[j3_];lia)
 rw[HH _ (by simpa using hB),HH _ (by simpa using hA)]at this
 have e:(aO.doneH a b out na nb).toList.reverse=out.toList++(b.toList.take nb).reverse++(a.toList.take na).reverse:=by
  unfold aO.doneH
  simp only[qY_,VR,za_,q8_,q4_,qh_]
 rw[e];exact this
def MP.firstB (M:MP a₀ κ a b)(h:MH κ a b out na nb)(he:nb=1):Mgd (LeK κ) a.toList b.toList (firstB a b out na nb).toList:=by
 apply Mgd.rev
 have hA:=h.ha
 have hB:=h.hb
 have:=h.mi.swap.last (xd_.mpr M.sB) (xd_.mpr M.sA) (by
  rw[HH _ (by simpa using hB)]
  intro x hx y hy
  obtain⟨j,hj,h2,rfl⟩:=M3 (q6_.mp hy)
  have e:j=0:=by lia
  subst e
  exact M.hf x (q6_.mp hx))
 rw[HH _ (by simpa using hA),HH _ (by simpa using hB)]at this
 have e:(aO.firstB a b out na nb).toList.reverse=out.toList++(a.toList.take na).reverse++(b.toList.take nb).reverse:=by
  unfold aO.firstB
  simp only[qY_,VR,za_,q8_,q4_,qh_]
 rw[e];exact this
def G4 (sA:a.toList.Pairwise (LeK κ))(hi:na-1<a.size):∀y∈a.toList.take na,LeK κ y a[na-1]:=fun y hy=>by
 obtain⟨j,hj,h2,rfl⟩:=M3 hy
 exact Qi sA s!"" hi
def MHJ (κ:KeyKind)(a b out:Array Keyed)(na nb p:Nat):Prop:=MH κ a b out na nb/\1<=na/\2<=nb/\na+nb+p<=a.size+b.size
def Wm (hO:LtOk kd κ a₀ prog w A E s)(M:MP a₀ κ a b){st:SortSt}(hk:kindOf st=kd)   (h1:c.1=none)(hJ:MHJ κ a b c.2.2.2.1 c.2.1 c.2.2.1 p)
  (h:∀d:H6,d.1=none->MHJ κ a b d.2.2.2.1 d.2.1 d.2.2.1 (p+1)->Q (.yield d) st/\Q (.done d) st) (hd:∀(d:H6) x,d.1=some x->Mgd (LeK κ) a.toList b.toList x.toList->Q (.done d) st):
  wpS (model prog w) A E s (H1 a b mg c) Q st:=by
 obtain⟨c0,na,nb,out,ac,bc⟩:=c
 obtain⟨hM,h2,h3,h4⟩:=hJ
 dsimp only at *
 have hA:=hM.ha
 have hB:=hM.hb
 unfold H1
 dsimp only
 refine jB_ (Bm (show nb-1<b.size by lia) (jB_ (Bm (show na-1<a.size by lia) (jB_ (hO _ _ _ _ (M.hB _ (by simp)) (M.hA _ (by simp)) hk ?_)))))
 cases e:κ.blt (KE κ b[nb-1]) (KE κ a[na-1]) with
 |true=>
  dsimp only
  rw[if_pos rfl]
  have cj:=hM.pushA M.sA h2 s!"" (fun y hy=>LeK.trans (G4 M.sB s!"" y hy) (qC_ e))
  refine jB_ (Bm (show na-1<a.size by lia) ?_)
  by_cases hq:na-1=0
  ·rw[if_pos (by simpa using hq)]
   exact jJ_ (hd _ _ rfl (M.doneH cj (.inl hq)))
  ·rw[if_neg (by simpa using hq)]
   have hh:=h (none,na-1,nb,out.push a[na-1],ac+1,0) rfl (show MHJ κ a b (out.push a[na-1]) (na-1) nb (p+1) from ⟨cj,by lia,h3,by lia⟩)
   split
   ·exact jJ_ hh.2
   ·exact jJ_ hh.1
 |false=>
  dsimp only
  rw[if_neg (by simp)]
  have cj:=hM.pushB M.sB s!"" s!"" (fun y hy=>LeK.trans (G4 M.sA s!"" y hy) e)
  refine jB_ (Bm (show nb-1<b.size by lia) ?_)
  by_cases hq:nb-1=1
  ·rw[if_pos (by simpa using hq)]
   exact jJ_ (hd _ _ rfl (M.firstB cj hq))
  ·rw[if_neg (by simpa using hq)]
   have hh:=h (none,na,nb-1,out.push b[nb-1],0,bc+1) rfl (show MHJ κ a b (out.push b[nb-1]) na (nb-1) (p+1) from ⟨cj,h2,by lia,by lia⟩)
   split
   ·exact jJ_ hh.2
   ·exact jJ_ hh.1
def VS (M:MP a₀ κ a b){st:SortSt}  (hM:MH κ a b out na nb)(h2:1<=na)(h3:2<=nb)(h4:na+nb+p<=a.size+b.size)(hi:na-1<a.size)(bh:∀y∈b.toList.take nb,LeK κ y a[na-1])
  (h:∀d:H7,d.1=none->MHJ κ a b d.2.2.2.1 d.2.1 d.2.2.1 p->Q (.yield d) st/\Q (.done d) st) (hd:∀(d:H7) x,d.1=some x->Mgd (LeK κ) a.toList b.toList x.toList->Q (.done d) st):
  wpS (model prog w) A E s (HC a b out na nb mg ac bc) Q st:=by
 unfold HC
 refine jB_ (Bm hi ?_)
 have cj:=hM.pushA M.sA h2 hi bh
 by_cases hq:na-1=0
 ·rw[if_pos (by simpa using hq)]
  exact jJ_ (hd _ _ rfl (M.doneH cj (.inl hq)))
 ·rw[if_neg (by simpa using hq)]
  have hh:=h (none,na-1,nb,out.push a[na-1],mg,ac,bc) rfl (show MHJ κ a b (out.push a[na-1]) (na-1) nb p from ⟨cj,by lia,h3,by lia⟩)
  split
  ·exact jJ_ hh.2
  ·exact jJ_ hh.1
def VT (hO:LtOk kd κ a₀ prog w A E s)(M:MP a₀ κ a b){st:SortSt}(hk:kindOf st=kd)  (hM:MH κ a b out na nb)(h2:1<=na)(h3:2<=nb)(h4:na+nb+p<=a.size+b.size)(hi:nb-1<b.size)(bh:∀y∈a.toList.take na,LeK κ y b[nb-1])
  (h:∀d:H7,d.1=none->MHJ κ a b d.2.2.2.1 d.2.1 d.2.2.1 p->Q (.yield d) st/\Q (.done d) st) (hd:∀(d:H7) x,d.1=some x->Mgd (LeK κ) a.toList b.toList x.toList->Q (.done d) st):
  wpS (model prog w) A E s (HB a b out na nb mg ac bc) Q st:=by
 unfold HB
 have hA:=hM.ha
 have hB:=hM.hb
 refine jB_ (Bm hi ?_)
 have cj:=hM.pushB M.sB s!"" hi bh
 by_cases hq:nb-1=1
 ·rw[if_pos (by simpa using hq)]
  exact jJ_ (hd _ _ rfl (M.firstB cj hq))
 ·rw[if_neg (by simpa using hq)]
  refine jB_ (Bm (show na-1<a.size by lia) (jB_ (JL hO hk (M.hA _ (by simp)) M.hB (JN M.sB _ _) s!"" s!"" (fun t nr g1 g2=>?_))))
  dsimp only
  have gV:∀y∈b.toList.take t,LeK κ y a[na-1]:=fun y hy=>by
   obtain⟨j,hj,a8,rfl⟩:=M3 hy
   have:=g1 j s!"" a8
   simp only[zI_]at this
   exact qC_ this
  by_cases dZ:nb-1-t > 0
  ·rw[if_pos dZ]
   have d6:=cj.extB M.sB (t:=t) s!"" (fun j hj qu qw y hy=>by
    have:=g2 j s!"" qu qw
    simp only[zI_]at this
    exact LeK.trans (G4 M.sA s!"" y hy) this)
   by_cases dq:t=1
   ·rw[if_pos (by simpa using dq)]
    exact jJ_ (hd _ _ rfl (M.firstB d6 dq))
   ·rw[if_neg (by simpa using dq)]
    by_cases jJ:t=0
    ·rw[if_pos (by simpa using jJ)]
     exact jJ_ (hd _ _ rfl (M.doneH d6 (.inr jJ)))
    ·rw[if_neg (by simpa using jJ)]
     exact VS M d6 h2 s!"" s!"" s!"" gV h hd
  ·rw[if_neg dZ]
   have e:t=nb-1:=by lia
   subst e
   exact VS M cj h2 s!"" s!"" s!"" gV h hd
def VU (hO:LtOk kd κ a₀ prog w A E s)(M:MP a₀ κ a b){st:SortSt}(hk:kindOf st=kd)  (hJ:MHJ κ a b out na nb p)
  (h:∀(d:H7) ag,SG st ag->d.1=none->MHJ κ a b d.2.2.2.1 d.2.1 d.2.2.1 p->Q (.yield d) ag/\Q (.done d) ag) (hd:∀(d:H7) x ag,SG st ag->d.1=some x->Mgd (LeK κ) a.toList b.toList x.toList->Q (.done d) ag):
  wpS (model prog w) A E s (HA a b out na nb mg ac bc) Q st:=by
 obtain⟨hM,h2,h3,h4⟩:=hJ
 have hA:=hM.ha
 have hB:=hM.hb
 unfold HA
 refine jB_ (JO ?_)
 have hG:SG st (Eb st mg):=(SG.refl st).set mg
 refine jB_ (Bm (show nb-1<b.size by lia) (jB_ (JK hO (hG.kd.trans hk) (M.hB _ (by simp)) M.hA (JN M.sA _ _) s!"" s!"" (fun t nr g1 g2=>?_))))
 dsimp only
 have bh:∀y∈a.toList.take t,LeK κ y b[nb-1]:=fun y hy=>by
  obtain⟨j,hj,a8,rfl⟩:=M3 hy
  have:=g1 j s!"" a8
  simp only[zI_]at this
  exact this
 by_cases dZ:na-t > 0
 ·rw[if_pos dZ]
  have d6:=hM.extA M.sA (t:=t) s!"" (fun j hj qu qw y hy=>by
   have:=g2 j s!"" qu qw
   simp only[zI_]at this
   exact LeK.trans (G4 M.sB s!"" y hy) (qC_ this))
  by_cases hq:t=0
  ·rw[if_pos (by simpa using hq)]
   exact jJ_ (hd _ _ _ hG rfl (M.doneH d6 (.inl hq)))
  ·rw[if_neg (by simpa using hq)]
   exact VT hO M (hG.kd.trans hk) d6 s!"" h3 s!"" s!"" bh (fun d=>h d _ hG) (fun d x=>hd d x _ hG)
 ·rw[if_neg dZ]
  have e:t=na:=by lia
  subst e
  exact VT hO M (hG.kd.trans hk) hM h2 h3 h4 s!"" bh (fun d=>h d _ hG) (fun d x=>hd d x _ hG)
def Wn (hO:LtOk kd κ a₀ prog w A E s)(M:MP a₀ κ a b){st:SortSt}(hk:kindOf st=kd)   (hJ:MHJ κ a b c.2.2.2.1 c.2.1 c.2.2.1 p)
  (h:∀(d:H7) ag,SG st ag->d.1=none->MHJ κ a b d.2.2.2.1 d.2.1 d.2.2.1 p->Q (.yield d) ag/\Q (.done d) ag) (hd:∀(d:H7) x ag,SG st ag->d.1=some x->Mgd (LeK κ) a.toList b.toList x.toList->Q (.done d) ag):
  wpS (model prog w) A E s (H2 a b c) Q st:=by
 unfold H2
 split
 ·exact VU hO M hk hJ h hd
 ·exact VU hO M hk hJ h hd
def Wo (hO:LtOk kd κ a₀ prog w A E s)(M:MP a₀ κ a b){st:SortSt}(hk:kindOf st=kd)   (hJ:MHJ κ a b c.2.2.2.1 c.2.1 c.2.2.1 p)
  (h:∀(d:H5) ag,SG st ag->d.1=none->MHJ κ a b d.2.2.2.1 d.2.1 d.2.2.1 (p+1)->Q (.yield d) ag) (hd:∀(d:H5) x ag,SG st ag->d.1=some x->Mgd (LeK κ) a.toList b.toList x.toList->Q (.done d) ag):
  wpS (model prog w) A E s (HO a b c) Q st:=by
 have b8:1<=a.size+b.size:=by have:=M.ha;lia
 unfold HO
 refine jB_ (x7_ (qP_ (I:=fun x d ag=>ag=st/\d.1=none/\MHJ κ a b d.2.2.2.1 d.2.1 d.2.2.1 (p+x))
   (Q:=fun d ag=>ag=st/\((d.1=none/\MHJ κ a b d.2.2.2.1 d.2.1 d.2.2.1 (p+1)) \/ ∃x,d.1=some x/\Mgd (LeK κ) a.toList b.toList x.toList)) ?step ?fin ⟨rfl,rfl,hJ⟩) ?post)
 case step=>
  rintro x d ag _ hx ⟨rfl,h1,h2⟩
  refine Wm hO M hk h1 h2 (fun d' g1 g2=>⟨⟨rfl,g1,g2⟩,rfl,.inl ⟨g1,g2.1,g2.2.1,g2.2.2.1,?_⟩⟩) (fun d' x g1 g2=>⟨rfl,.inr ⟨x,g1,g2⟩⟩)
  have:=g2.2.2.2;lia
 case fin=>
  rintro d ag ⟨rfl,h1,h2⟩
  refine⟨rfl,.inl ⟨h1,h2.1,h2.2.1,h2.2.2.1,?_⟩⟩
  have:=h2.2.2.2;lia
 case post=>
  rintro d ag ⟨rfl,hh⟩
  rcases hh with ⟨h1,h2⟩|⟨x,h1,h2⟩
  ·rw[h1]
   dsimp only
   refine jB_ (F8 ?_)
   refine jB_ (x7_ (qP_ (I:=fun x d aG=>SG ag aG/\d.1=none/\MHJ κ a b d.2.2.2.1 d.2.1 d.2.2.1 (p+1))
    (Q:=fun d aG=>SG ag aG/\((d.1=none/\MHJ κ a b d.2.2.2.1 d.2.1 d.2.2.1 (p+1)) \/ ∃x,d.1=some x/\Mgd (LeK κ) a.toList b.toList x.toList)) ?step2 ?fin2 ⟨SG.refl _,rfl,h2⟩) ?post2)
   case step2=>
    rintro x e aG _ hx ⟨g0,g1,g2⟩
    exact Wn hO M (g0.kd.trans hk) g2 (fun d' cm k0 k1 k2=>⟨⟨g0.trans k0,k1,k2⟩,g0.trans k0,.inl ⟨k1,k2⟩⟩) (fun d' x cm k0 k1 k2=>⟨g0.trans k0,.inr ⟨x,k1,k2⟩⟩)
   case fin2=>
    rintro e aG ⟨g0,g1,g2⟩
    exact⟨g0,.inl ⟨g1,g2⟩⟩
   case post2=>
    rintro e aG ⟨g0,hh⟩
    rcases hh with ⟨g1,g2⟩|⟨x,g1,g2⟩
    ·rw[g1]
     dsimp only
     refine jB_ (JO (jJ_ ?_))
     exact h (none,e.2.1,e.2.2.1,e.2.2.2.1,e.2.2.2.2.1+1) _ (g0.set _) rfl g2
    ·rw[g1]
     dsimp only
     exact jJ_ (hd _ x _ g0 rfl g2)
  ·rw[h1]
   dsimp only
   exact jJ_ (hd _ x _ (SG.refl _) rfl h2)
def NZ {st:SortSt}  (hO:LtOk kd κ a₀ prog w A E s)(M:MP a₀ κ a b)(hk:kindOf st=kd)
  (h:∀r ag,SG st ag->Mgd (LeK κ) a.toList b.toList r.toList->Q r ag):wpS (model prog w) A E s (G3 a b) Q st:=by
 have ha:=M.ha
 have hb:=M.hb
 rw[KW]
 refine jB_ (F8 (jB_ (Bm (show a.size-1<a.size by lia) ?_)))
 have hM0:MH κ a b #[] a.size b.size:=⟨ji_ _,ji_ _,by simpa using MI.start _ _⟩
 have hM:MH κ a b #[a[a.size-1]] (a.size-1) b.size:=hM0.pushA M.sA ha s!"" (fun y hy=>M.hl y (xk_ hy))
 by_cases h1:a.size-1=0
 ·rw[if_pos (by simpa using h1)]
  exact jJ_ (h _ _ (SG.refl _) (M.doneH hM (.inl h1)))
 ·rw[if_neg (by simpa using h1)]
  by_cases h2:b.size=1
  ·rw[if_pos (by simpa using h2)]
   exact jJ_ (h _ _ (SG.refl _) (M.firstB hM h2))
  ·rw[if_neg (by simpa using h2)]
   refine jB_ (wpS_get ?_)
   refine jB_ (x7_ (qP_ (I:=fun x c ag=>SG st ag/\c.1=none/\MHJ κ a b c.2.2.2.1 c.2.1 c.2.2.1 (1+x))
    (Q:=fun c ag=>SG st ag/\∃x,c.1=some x/\Mgd (LeK κ) a.toList b.toList x.toList) ?step ?fin ⟨SG.refl _,rfl,show MHJ κ a b #[a[a.size-1]] (a.size-1) b.size (1+0) from ⟨hM,by lia,by lia,by lia⟩⟩) ?post)
   case step=>
    rintro x c ag _ hx ⟨g0,g1,g2⟩
    exact Wo hO M (g0.kd.trans hk) g2 (fun d aX k0 k1 k2=>⟨g0.trans k0,k1,k2⟩) (fun d x aX k0 k1 k2=>⟨g0.trans k0,x,k1,k2⟩)
   case fin=>
    rintro c ag ⟨g0,g1,g2⟩
    have:=g2.2.1;have:=g2.2.2.1;have:=g2.2.2.2
    lia
   case post=>
    rintro c ag ⟨g0,x,g1,g2⟩
    rw[g1]
    dsimp only
    exact jJ_ (h x ag g0 g2)
end
end aO
namespace aO
open PySem PyProof.Rows
section
variable {prog:Program} {w:World} {A:Around} {E:Value->Shared->Prop} {s:Shared} {a₀:Array Keyed} {κ:KeyKind} {kd:SortKind}
structure SQ (kd:SortKind)(a₀:Array Keyed)(lo hi:Nat)(st ag:SortSt):Prop where
 b:SB kd a₀ ag
 pe:pendingOf ag=pendingOf st
 out:Out lo hi (arrOf st) (arrOf ag)
def SQ.refl {lo hi:Nat}{st:SortSt}(h:SB kd a₀ st):SQ kd a₀ lo hi st st:=⟨h,rfl,Out.refl _ _ _⟩
def SQ.trans {lo hi:Nat}{st ag aG:SortSt}(h:SQ kd a₀ lo hi st ag)(g:SQ kd a₀ lo hi ag aG):SQ kd a₀ lo hi st aG:=⟨g.b,g.pe.trans h.pe,h.out.trans g.out⟩
def SQ.mir {lo hi i j:Nat}{st ag:SortSt}(h:SQ kd a₀ lo hi st ag)(hj:j<=a₀.size)(h1:lo<=i)(h2:j<=hi):SQ kd a₀ lo hi st (setArr ag (mirror (arrOf ag) i j ((j-i) / 2))):=
 ⟨h.b.setArr (mirror_perm _ _ _ _),h.pe,h.out.trans (IT (by rw[h.b.size];exact hj) h1 h2)⟩
def SQ.bub {lo hi k l:Nat}{st ag:SortSt}(h:SQ kd a₀ lo hi st ag)(hk:k<a₀.size)(h1:lo<=l)(hl:l<=k)(h2:k<hi):SQ kd a₀ lo hi st (setArr ag (bubble (arrOf ag) k (k-l))):=
 ⟨h.b.setArr (bubble_perm _ _ _),h.pe,h.out.trans (NS (by rw[h.b.size];exact hk) s!"" s!"" h2)⟩
def M4 {st bP:SortSt}{lo n ak:Nat}  (hO:LtOk kd κ a₀ prog w A E s)(hn:lo+ak<=a₀.size)(h1:1<=n)(gi:n<=ak)(hB:SQ kd a₀ lo (lo+ak) bP st)(hs:NI κ (arrOf st) lo (lo+n))
  (h:∀m ag,SQ kd a₀ lo (lo+ak) bP ag->1<=m->m<=ak->SO κ (arrOf ag) lo (lo+m)->Q (some m) ag):
  wpS (model prog w) A E s (LS lo n ak) Q st:=Uu hO hn h1 gi hB.b hs (fun m ag g1 g2 g3 g4 g5 g6=>h m ag (hB.trans ⟨g1,g2,g3⟩) g4 g5 g6)
def RP (lo n ak:Nat):StateT SortSt Sem DescSt:=
 forIn [n:ak] ((none,n,0):DescSt) fun _ c=>do
  let x <- ltAt' (lo+c.2.1) (lo+c.2.1-1)
  match x with
  |some aP=>
   if aP=true then
    if c.2.2 > 0 then do
     reverseSlice' (lo+c.2.1-(c.2.2+1)) (lo+c.2.1)
     pure (.yield (none,c.2.1+1,0))
    else pure (.yield (none,c.2.1+1,0))
   else do
    let x <- ltAt' (lo+c.2.1-1) (lo+c.2.1)
    match x with
    |some eF=>if eF=true then pure (.done (none,c.2.1,c.2.2)) else pure (.yield (none,c.2.1+1,c.2.2+1))
    |_=>pure (.done (some none,c.2.1,c.2.2))
  |_=>pure (.done (some none,c.2.1,c.2.2))
def N0 (lo n ak:Nat):StateT SortSt Sem (Option Nat):=do
 liftM (rule "list.sort.descending-run")
 let c <- RP lo (n+1) ak
 match c.1 with
 |some r=>pure r
 |none=>
  if c.2.2 > 0 then do
   reverseSlice' (lo+c.2.1-(c.2.2+1)) (lo+c.2.1)
   LS lo c.2.1 ak
  else LS lo c.2.1 ak
def JQ (lo ak:Nat):countRun' lo ak=(do
  let c <- ascL lo 1 ak
  match c.1 with
  |some r=>pure r
  |none=>
   if (c.2==ak)=true then pure (some c.2)
   else if c.2 > 1 then do
    let x <- ltAt' lo (lo+c.2-1)
    match x with
    |some rose=>if rose=true then pure (some c.2) else do
      reverseSlice' lo (lo+c.2)
      N0 lo c.2 ak
    |_=>pure none
   else N0 lo c.2 ak):=by
 have tl:∀n,(do
   reverseSlice' lo (lo+n)
   let mut n:=n
   for _ in [n:ak] do
    let some aP <- ltAt' (lo+n) (lo+n-1)|return none
    if aP then break
    n:=n+1
   return some n:StateT SortSt Sem (Option Nat))=LS lo n ak:=fun n=>by
  unfold LS ascL
  refine jG_ (bind _) (funext fun _=>jG_ (bind _) (funext fun c=>?_))
  obtain⟨r,m⟩:=c
  cases r<;>rfl
 have pl:∀n,(do
   rule "list.sort.descending-run"
   let mut n:=n
   n:=n+1
   let mut neq:=0
   for _ in [n:ak] do
    let some aP <- ltAt' (lo+n) (lo+n-1)|return none
    if aP then
     if neq > 0 then reverseSlice' (lo+n-(neq+1)) (lo+n)
     neq:=0
    else
     let some eF <- ltAt' (lo+n-1) (lo+n)|return none
     if eF then break
     neq:=neq+1
    n:=n+1
   if neq > 0 then reverseSlice' (lo+n-(neq+1)) (lo+n)
   reverseSlice' lo (lo+n)
   for _ in [n:ak] do
    let some aP <- ltAt' (lo+n) (lo+n-1)|return none
    if aP then break
    n:=n+1
   return some n:StateT SortSt Sem (Option Nat))=N0 lo n ak:=fun n=>by
  unfold N0 RP
  refine jG_ (bind _) (funext fun _=>jG_ (bind _) (funext fun c=>?_))
  obtain⟨r,m,q⟩:=c
  cases r with
  |some r=>rfl
  |none=>
   dsimp only
   by_cases hq:q > 0
   ·rw[if_pos hq,if_pos hq]
    exact jG_ (bind _) (funext fun _=>tl m)
   ·rw[if_neg hq,if_neg hq]
    exact tl m
 rw[countRun'_eq]
 unfold ascL
 refine jG_ (bind _) (funext fun c=>?_)
 obtain⟨r,n⟩:=c
 cases r with
 |some r=>rfl
 |none=>
  dsimp only
  refine jG_ (ite _ _) ?_
  by_cases hn:n > 1
  ·rw[if_pos hn,if_pos hn]
   refine jG_ (bind _) (funext fun x=>?_)
   cases x with
   |none=>rfl
   |some rose=>
    dsimp only
    refine jG_ (ite _ _) (jG_ (bind _) (funext fun _=>pl n))
  ·rw[if_neg hn,if_neg hn]
   exact pl n
def Uw {st bP:SortSt}{lo n ak:Nat}  (hO:LtOk kd κ a₀ prog w A E s)(hn:lo+ak<=a₀.size)(h1:1<=n)(gi:n<=ak)(hB:SQ kd a₀ lo (lo+ak) bP st)(hs:NI κ (arrOf st) lo (lo+n))
  (h:∀m neq ag,SQ kd a₀ lo (lo+ak) bP ag->n<=m->m<=ak->NI κ (arrOf ag) lo (lo+m)->neq+1<=m->(∀i,lo+m-(neq+1)<=i->i<lo+m->KK κ (arrOf ag) i=KK κ (arrOf ag) (lo+m-1))->Q (none,m,neq) ag):
  wpS (model prog w) A E s (RP lo n ak) Q st:=by
 unfold RP
 refine qP_ (I:=fun x c ag=>∃neq,c=(none,x,neq)/\SQ kd a₀ lo (lo+ak) bP ag/\NI κ (arrOf ag) lo (lo+x)/\neq+1<=x /\
   (∀i,lo+x-(neq+1)<=i->i<lo+x->KK κ (arrOf ag) i=KK κ (arrOf ag) (lo+x-1))) ?step ?fin ⟨0,rfl,hB,hs,by lia,fun i h1 h2=>by congr 1;lia⟩
 case fin=>
  rintro c ag ⟨neq,rfl,g1,g2,g3,g4⟩
  rw[show max n ak=ak by lia]at g2 g3 g4 ⊢
  exact h ak neq ag g1 gi (ji_ _) g2 g3 g4
 case step=>
  rintro x c ag qr hxn ⟨neq,rfl,hQ,hN,hq,he⟩
  dsimp only
  have hsz:lo+x<=(arrOf ag).size:=by rw[hQ.b.size];lia
  refine jB_ (HE hO hQ.b s!"" s!"" ?_)
  cases cb:κ.blt (KK κ (arrOf ag) (lo+x)) (KK κ (arrOf ag) (lo+x-1))
  case true=>
   simp only[xW_]
   have jb:∀xs:Array Keyed,(∀k,KK κ xs k=KK κ (arrOf ag) k)->NI κ xs lo (lo+(x+1)):=by
    intro xs hk i j hl a8 hj
    rw[hk,hk]
    rcases q0_ j (lo+x) with jF|jF
    ·exact hN i j hl a8 jF
    ·obtain rfl:j=lo+x:=by lia
     rcases q0_ i (lo+x) with hi' | hi'
     ·exact xh_ (qC_ cb) (hN i (lo+x-1) hl s!"" s!"")
     ·obtain rfl:i=lo+x:=by lia
      exact qQ_ _
   by_cases gY:neq > 0
   ·rw[if_pos gY]
    exact jB_ (EF (jJ_ ⟨0,rfl,hQ.mir s!"" s!"" s!"",jb _ (zu_ hsz he),by lia,fun i h1 h2=>by congr 1;lia⟩))
   ·rw[if_neg gY]
    exact jJ_ ⟨0,rfl,hQ,jb _ (fun _=>rfl),by lia,fun i h1 h2=>by congr 1;lia⟩
  case false=>
   simp only[jT_,qX_]
   refine jB_ (HE hO hQ.b s!"" s!"" ?_)
   cases hlarger:κ.blt (KK κ (arrOf ag) (lo+x-1)) (KK κ (arrOf ag) (lo+x))
   case true=>
    simp only[xW_]
    exact jJ_ (h x neq ag hQ qr s!"" hN hq he)
   case false=>
    simp only[jT_,qX_]
    have same:KK κ (arrOf ag) (lo+x)=KK κ (arrOf ag) (lo+x-1):=KeyOrd.kle_antisymm hlarger cb
    refine jJ_ ⟨neq+1,rfl,hQ,fun i j hl a8 hj=>?_,by lia,fun i h1 h2=>?_⟩
    ·rcases q0_ j (lo+x) with jF|jF
     ·exact hN i j hl a8 jF
     ·obtain rfl:j=lo+x:=by lia
      rcases q0_ i (lo+x) with hi' | hi'
      ·rw[same];exact hN i (lo+x-1) hl s!"" s!""
      ·obtain rfl:i=lo+x:=by lia
       exact qQ_ _
    ·rw[show lo+(x+1)-1=lo+x by lia]
     by_cases gZ:i=lo+x
     ·rw[gZ]
     ·rw[same];exact he i s!"" s!""
def Ql {st bP:SortSt}{lo n ak:Nat}  (hO:LtOk kd κ a₀ prog w A E s)(hn:lo+ak<=a₀.size)(gi:n+1<=ak)(hB:SQ kd a₀ lo (lo+ak) bP st)(hs:NI κ (arrOf st) lo (lo+(n+1)))
  (h:∀m ag,SQ kd a₀ lo (lo+ak) bP ag->1<=m->m<=ak->SO κ (arrOf ag) lo (lo+m)->Q (some m) ag):
  wpS (model prog w) A E s (N0 lo n ak) Q st:=by
 unfold N0
 refine jB_ (F8 (jB_ (Uw hO hn s!"" gi hB hs fun m neq ag g1 g2 g3 g4 g5 g6=>?_)))
 dsimp only
 have hsz:lo+m<=(arrOf ag).size:=by rw[g1.b.size];lia
 by_cases gY:neq > 0
 ·rw[if_pos gY]
  refine jB_ (EF (M4 hO hn s!"" g3 (g1.mir s!"" s!"" s!"") ?_ h))
  intro i j hl a8 hj
  show κ.kle (KK κ (mirror (arrOf ag) _ _ _) j) (KK κ (mirror (arrOf ag) _ _ _) i)
  rw[zu_ hsz g6,zu_ hsz g6]
  exact g4 i j hl a8 hj
 ·rw[if_neg gY]
  exact M4 hO hn s!"" g3 g1 g4 h
def LV {st:SortSt}{lo ak:Nat}  (hO:LtOk kd κ a₀ prog w A E s)(hn:lo+ak<=a₀.size)(h1:1<=ak)(hB:SB kd a₀ st)
  (h:∀m ag,SQ kd a₀ lo (lo+ak) st ag->1<=m->m<=ak->SO κ (arrOf ag) lo (lo+m)->Q (some m) ag):
  wpS (model prog w) A E s (countRun' lo ak) Q st:=by
 have hQ:SQ kd a₀ lo (lo+ak) st st:=SQ.refl hB
 rw[JQ]
 refine jB_ (S9 hO hn (ji_ 1) h1 hB (fun i j hl a8 hj=>by (obtain rfl:i=j:=by lia);exact qQ_ _) fun n cC gR jc hor=>?_)
 dsimp only
 by_cases gi:n=ak
 ·rw[if_pos (by simpa using gi)]
  exact jJ_ (h n st hQ cC gR jc)
 ·rw[if_neg (by simpa using gi)]
  have ar:=hor.resolve_left gi
  by_cases l9:n > 1
  ·rw[if_pos l9]
   refine jB_ (HE hO hB s!"" s!"" ?_)
   cases hrose:κ.blt (KK κ (arrOf st) lo) (KK κ (arrOf st) (lo+n-1))
   case true=>
    simp only[xW_]
    exact jJ_ (h n st hQ cC gR jc)
   case false=>
    simp only[jT_,qX_]
    have hsz:lo+n<=(arrOf st).size:=by rw[hB.size];lia
    have aB:∀k,lo<=k->k<lo+n->KK κ (arrOf st) k=KK κ (arrOf st) (lo+n-1):=fun k mh fJ=>
     KeyOrd.kle_antisymm (jc k (lo+n-1) mh s!"" s!"") (xh_ hrose (jc lo k (ji_ _) mh fJ))
    refine jB_ (EF (Ql hO hn s!"" (hQ.mir s!"" (ji_ _) s!"") ?_ h))
    intro i j hl a8 hj
    show κ.kle (KK κ (mirror (arrOf st) _ _ _) j) (KK κ (mirror (arrOf st) _ _ _) i)
    rw[zu_ hsz aB,zu_ hsz aB]
    rcases q0_ j (lo+n) with hjn|hjn
    ·rw[aB i hl s!"",aB j s!"" hjn];exact qQ_ _
    ·obtain rfl:j=lo+n:=by lia
     rcases q0_ i (lo+n) with hi' | hi'
     ·rw[aB i hl hi'];exact qC_ ar
     ·obtain rfl:i=lo+n:=by lia
      exact qQ_ _
  ·rw[if_neg l9]
   obtain rfl:n=1:=by lia
   refine Ql hO hn s!"" hQ ?_ h
   intro i j hl a8 hj
   by_cases hi':i=j
   ·subst hi';exact qQ_ _
   ·obtain rfl:i=lo:=by lia
    obtain rfl:j=i+1:=by lia
    exact qC_ ar
def JR {st:SortSt}{lo n ok:Nat}  (hO:LtOk kd κ a₀ prog w A E s)(hn:lo+n<=a₀.size)(hok:ok<=n)(hB:SB kd a₀ st)(hs:SO κ (arrOf st) lo (lo+ok))
  (h:∀ag,SQ kd a₀ lo (lo+n) st ag->SO κ (arrOf ag) lo (lo+n)->Q true ag):wpS (model prog w) A E s (binarySort' lo n ok) Q st:=by
 rw[binarySort'_eq]
 refine jB_ (x7_ (qP_ (I:=fun k c ag=>c=(none,())/\SQ kd a₀ lo (lo+n) st ag/\SO κ (arrOf ag) lo (lo+min k n))
  (Q:=fun c ag=>c=(none,())/\SQ kd a₀ lo (lo+n) st ag/\SO κ (arrOf ag) lo (lo+n)) ?step ?fin ?init) ?post)
 case post=>
  rintro c ag ⟨rfl,fO,bK⟩
  exact jJ_ (h ag fO bK)
 case init=>
  refine⟨rfl,SQ.refl hB,fun i j hl a8 hj=>?_⟩
  by_cases h1:ok=0
  ·obtain rfl:i=j:=by lia
   exact qQ_ _
  ·exact hs i j hl a8 s!""
 case fin=>
  rintro c ag ⟨hc,fO,bK⟩
  refine⟨hc,fO,?_⟩
  rwa [show min (max (max ok 1) n) n=n by lia]at bK
 case step=>
  rintro k c ag hak kf ⟨rfl,hQ,bK⟩
  rw[show min k n=k by lia]at bK
  have hk:lo+k<a₀.size:=by lia
  refine jB_ (x7_ (qP_ (I:=fun x c aG=>aG=ag/\∃l r,c=(none,l,r)/\l<=r/\r<=k/\r-l<=k-x /\
    (∀i,lo<=i->i<lo+l->κ.kle (KK κ (arrOf ag) i) (KK κ (arrOf ag) (lo+k)))/\(∀i,lo+r<=i->i<lo+k->κ.klt (KK κ (arrOf ag) (lo+k)) (KK κ (arrOf ag) i)))
   (Q:=fun c aG=>aG=ag/\∃l r,c=(none,l,r)/\l<=k /\
    (∀i,lo<=i->i<lo+l->κ.kle (KK κ (arrOf ag) i) (KK κ (arrOf ag) (lo+k)))/\(∀i,lo+l<=i->i<lo+k->κ.klt (KK κ (arrOf ag) (lo+k)) (KK κ (arrOf ag) i))) ?istep ?ifin ?iinit) ?ipost)
  case iinit=>exact⟨rfl,0,k,rfl,by lia,by lia,by lia,fun i h0 hi=>by lia,fun i h1 h2=>by lia⟩
  case ifin=>
   rintro c aG ⟨rfl,l,r,rfl,hlr,qx,hm,iC,jI⟩
   obtain rfl:l=r:=by lia
   exact⟨rfl,l,l,rfl,qx,iC,jI⟩
  case istep=>
   rintro x c aG _ hxk ⟨rfl,l,r,rfl,hlr,qx,hm,iC,jI⟩
   dsimp only
   by_cases bF:l >= r
   ·rw[if_pos bF]
    obtain rfl:l=r:=by lia
    exact jJ_ ⟨rfl,l,l,rfl,qx,iC,jI⟩
   ·rw[if_neg bF]
    refine jB_ (HE hO hQ.b hk s!"" ?_)
    cases cb:κ.blt (KK κ (arrOf aG) (lo+k)) (KK κ (arrOf aG) (lo+(l+r) / 2))
    case true=>
     simp only[xW_]
     refine jJ_ ⟨rfl,l,(l+r) / 2,rfl,by lia,by lia,by lia,iC,fun i h1 h2=>?_⟩
     exact KeyOrd.klt_of_klt_of_kle cb (bK _ _ s!"" h1 h2)
    case false=>
     simp only[jT_,qX_]
     refine jJ_ ⟨rfl,(l+r) / 2+1,r,rfl,by lia,by lia,by lia,fun i h0 h1=>?_,jI⟩
     exact xh_ (bK i (lo+(l+r) / 2) h0 s!"" s!"") cb
  case ipost=>
   rintro c aG ⟨rfl,l,r,rfl,hlk,iC,jI⟩
   show wpS _ _ _ _ (do moveDown' (lo+k) (lo+l);pure (sf (none,()))) _ _
   rw[moveDown'_eq]
   refine jB_ (zS_ (jJ_ ⟨rfl,hQ.bub hk s!"" s!"" s!"",?_⟩))
   rw[show min (k+1) n=k+1 by lia]
   have oo:lo+k<(arrOf aG).size:=by rw[hQ.b.size];exact hk
   intro i j hl a8 hj
   show κ.kle (KK κ (bubble (arrOf aG) (lo+k) (lo+k-(lo+l))) i) (KK κ (bubble (arrOf aG) (lo+k) (lo+k-(lo+l))) j)
   rw[KK_bubble oo s!"",KK_bubble oo s!"",show lo+k-(lo+k-(lo+l))=lo+l by lia]
   repeat' split
   all_goals first
    | (exfalso;lia)
    | exact qQ_ _
    | exact iC _ s!"" s!""
    | exact qC_ (jI _ s!"" s!"")
    | exact bK _ _ s!"" s!"" s!""
end
end aO
namespace aO
open PySem PyProof.Rows
def wr (a:Array Keyed)(base:Nat)(r:List Keyed)(n:Nat):Array Keyed:=(r.zipIdx n).foldl (fun a (p,j)=>a.setIfInBounds (base+j) p) a
def LW (i:Nat):mergeAt' i=(do
 let s <- get
 let (some (sa,na,power),some (sb,nb,_)):=((pendingOf s)[i]?,(pendingOf s)[i+1]?)|unsupported "internal:list.sort.pending"
 set (setPending s (((pendingOf s).setIfInBounds i (sa,na+nb,power)).eraseIdxIfInBounds (i+1)))
 let some k <- BU false ( <- elem' (arrOf s) sb) (arrOf s) sa na 0|return false
 if na-k==0 then return true
 let some m <- BU true ( <- elem' (arrOf s) (sa+k+(na-k)-1)) (arrOf s) sb nb (nb-1)|return false
 if m==0 then return true
 let merged <- if na-k<=m then G1 ((arrOf s).extract (sa+k) sb) ((arrOf s).extract sb (sb+m)) else G3 ((arrOf s).extract (sa+k) sb) ((arrOf s).extract sb (sb+m))
 modify fun s=>setArr s (wr (arrOf s) (sa+k) merged.toList 0)
 return (failedOf ( <- get)).isNone):=rfl
def Qm {base:Nat}:∀(r:List Keyed) (n:Nat) (a:Array Keyed),base+n+r.length<=a.size->(wr a base r n).toList=a.toList.take (base+n)++r++a.toList.drop (base+n+r.length)
 |[],n,a,h=>by simp[wr]
 |x::r,n,a,h=>by
  have ih:=Qm (base:=base) r (n+1) (a.setIfInBounds (base+n) x) (by simp at h ⊢;lia)
  unfold wr at ih ⊢
  rw[tD,q2_]
  simp only at ih ⊢
  simp only[jU_]at h
  have hl:base+n<a.toList.length:=by simp;lia
  rw[ih,sP,show base+(n+1)=base+n+1 by lia,List.take_set,List.drop_set_of_lt s!"",List.take_succ_eq_append_getElem hl,tY _ _ (by simp;lia)]
  simp only[jx_,j3_,jU_]
  rw[show base+n-min (base+n) a.size=0 by lia,zv_,show base+n+1+r.length=base+n+(r.length+1) by lia]
  simp
section
variable {prog:Program} {w:World} {A:Around} {E:Value->Shared->Prop} {s:Shared} {a₀:Array Keyed} {κ:KeyKind} {kd:SortKind}
def seg (a:Array Keyed)(lo hi:Nat):List Keyed:=(a.toList.take hi).drop lo
def LX  {lo hi:Nat}(h:hi<=a.size):(seg a lo hi).length=hi-lo:=by unfold seg;simp;lia
def JS  {lo hi i:Nat}(h:i<(seg a lo hi).length)(hi':lo+i<a.size):(seg a lo hi)[i]=a[lo+i]:=by simp[seg]
def IV  {lo hi:Nat}(h:hi<=a.size):SO κ a lo hi↔(seg a lo hi).Pairwise (LeK κ):=by
 rw[xE_]
 constructor
 ·intro g i j hi hj a8
  have hl:=LX (lo:=lo) h
  have:=g (lo+i) (lo+j) s!"" s!"" s!""
  rw[DT s!"",DT s!""]at this
  rw[JS hi s!"",JS hj s!""]
  exact this
 ·intro g i j hl a8 hj
  rcases q0_ i j with ar|bF
  ·have aj:=LX (lo:=lo) h
   have:=g (i-lo) (j-lo) s!"" s!"" s!""
   rw[JS s!"" s!"",JS s!"" s!""]at this
   simp only[show lo+(i-lo)=i by lia,show lo+(j-lo)=j by lia]at this
   rw[DT s!"",DT s!""]
   exact this
  ·obtain rfl:i=j:=by lia
   exact qQ_ _
def Fd  {lo hi:Nat}  (h:x∈seg a lo hi):∃j,∃hj:j<a.size,lo<=j/\j<hi/\x=a[j]:=Qk h
def F9 (a:Array Keyed)  (h1:l<=m)(h2:m<=h):seg a l h=seg a l m++seg a m h:=by
 unfold seg
 have e:a.toList.take h=a.toList.take m++(a.toList.take h).drop m:=by
  have:=xc_ m (a.toList.take h)
  rw[vg,show min m h=m by lia]at this
  exact this.symm
 rw[e]
 rcases v9 m a.toList.length with hm|hm
 ·rw[sL (by rw[jx_];lia)]
  congr 1
  rw[<-e]
 ·rw[show (a.toList.take h).drop m=[] from qJ_ (by rw[jx_];lia)]
  simp only[ql_]
  rw[show xk m (a.toList.take m)=[] from qJ_ (by rw[jx_];lia),ql_]
def LY  {lo hi i j:Nat}(h:SO κ a lo hi)(h1:lo<=i)(h2:i<=j)(h3:j<hi)(hi':i<a.size)(hj:j<a.size):LeK κ a[i] a[j]:=by
 have:=h i j h1 h2 h3
 rw[DT hi',DT hj]at this
 exact this
def G8  {lo hi:Nat}(e:∀i,lo<=i->i<hi->ys[i]?=xs[i]?)(h:SO κ xs lo hi):SO κ ys lo hi:=fun i j h1 h2 h3=>by
 rw[KK_congr (e i h1 s!""),KK_congr (e j s!"" h3)];exact h i j h1 h2 h3
def RQ    (bh:l<=e)(he:e<=a.size)(hp:r.Perm (seg a l e)):
  (wr a l r 0).Perm a/\Out l e a (wr a l r 0)/\seg (wr a l r 0) l e=r:=by
 have hl:r.length=e-l:=by rw[hp.length_eq,LX he]
 have hw:=Qm (base:=l) r 0 a s!""
 rw[uB,show l+r.length=e by lia]at hw
 have h0:a.toList=a.toList.take l++seg a l e++a.toList.drop e:=by
  have h1:=xc_ e a.toList
  have h2:=xc_ l (a.toList.take e)
  rw[vg,show min l e=l by lia]at h2
  rw[show seg a l e=(a.toList.take e).drop l from rfl,h2,h1]
 have ar:(a.toList.take l).length=l:=by simp;lia
 refine⟨?_,fun i hi=>?_,?_⟩
 ·rw[x8_,hw]
  conv=>rhs;rw[h0]
  exact tQ _ (tX _ hp)
 ·rw[<-xz_,<-xz_,hw]
  rcases hi with hi|hi
  ·rw[qh_,je_ s!"",xI_ hi]
  ·rw[jp_ (by rw[jl_];lia),jl_,ar,List.getElem?_drop]
   congr 1;lia
 ·unfold seg
  rw[hw,qh_,<-qh_,sJ (by rw[jl_];lia),jX_ (by rw[jl_];lia),sL s!"",qJ_ s!"",xY_]
def Ec (a:Array Keyed)(i j:Nat):(a.extract i j).toList=seg a i j:=by rw[EG,seg,vf]
def VW {st ag:SortSt}  (h:Q ⟨⟩ ag):wpS (model prog w) A E s (set ag:StateT SortSt Sem PUnit) Q st:=zS_ (f:=fun _=>ag) h
def N1 {st:SortSt}   (hO:LtOk kd κ a₀ prog w A E s)(hB:SB kd a₀ st)(e1:(pendingOf st)[i]?=some (sa,na,pw))(e2:(pendingOf st)[i+1]?=some (sb,nb,q))(om:sb=sa+na)(hna:1<=na)(hnb:1<=nb)(hz:sb+nb<=a₀.size)
  (s1:SO κ (arrOf st) sa sb) (s2:SO κ (arrOf st) sb (sb+nb))
  (h:∀ag,SB kd a₀ ag->pendingOf ag=((pendingOf st).setIfInBounds i (sa,na+nb,pw)).eraseIdxIfInBounds (i+1)->Out sa (sb+nb) (arrOf st) (arrOf ag)->SO κ (arrOf ag) sa (sb+nb)->Q true ag):
  wpS (model prog w) A E s (mergeAt' i) Q st:=by
 have hsz:=hB.size
 rw[LW]
 refine jB_ (wpS_get ?_)
 rw[e1,e2]
 dsimp only
 refine jB_ (VW ?_)
 have fO:SB kd a₀ (setPending st (((pendingOf st).setIfInBounds i (sa,na+nb,pw)).eraseIdxIfInBounds (i+1))):=⟨hB.perm,hB.kind,hB.failed⟩
 have bq:∀x∈(arrOf st).toList,x∈a₀.toList:=fun x hx=>hB.mem hx
 refine jB_ (Bm (show sb<(arrOf st).size by lia) (jB_ (JK hO fO.kind (bq _ (by simp)) bq (fun i j hi hj g1 g2 g3=>LY s1 g1 g2 s!"" hi hj) s!"" s!"" (fun k kf g1 g2=>?_))))
 dsimp only
 by_cases dZ:na-k=0
 ·rw[if_pos (by simpa using dZ)]
  refine jJ_ (h _ fO rfl (Out.refl _ _ _) ?_)
  intro i j hl a8 hj
  show κ.kle (KK κ (arrOf st) i) (KK κ (arrOf st) j)
  rcases q0_ j sb with c|c
  ·exact s1 i j hl a8 c
  ·rcases q0_ i sb with c2|c2
   ·have a1:=g1 (i-sa) s!"" s!""
    simp only[show sa+(i-sa)=i by lia]at a1
    have a2:=s2 sb j (ji_ _) c hj
    rw[DT (show sb<(arrOf st).size by lia)]at a2
    rw[DT (show i<(arrOf st).size by lia)]
    exact xh_ a1 a2
   ·exact s2 i j c2 a8 hj
 ·rw[if_neg (by simpa using dZ)]
  have el:sa+k+(na-k)-1=sb-1:=by lia
  rw[el]
  refine jB_ (Bm (show sb-1<(arrOf st).size by lia) (jB_ (JL hO fO.kind (bq _ (by simp)) bq (fun i j hi hj g1 g2 g3=>LY s2 g1 g2 s!"" hi hj) s!"" s!"" (fun m hmn g3 g4=>?_))))
  dsimp only
  by_cases cR:m=0
  ·rw[if_pos (by simpa using cR)]
   refine jJ_ (h _ fO rfl (Out.refl _ _ _) ?_)
   intro i j hl a8 hj
   show κ.kle (KK κ (arrOf st) i) (KK κ (arrOf st) j)
   rcases q0_ j sb with c|c
   ·exact s1 i j hl a8 c
   ·rcases q0_ i sb with c2|c2
    ·have a1:=g4 (j-sb) s!"" s!"" s!""
     simp only[show sb+(j-sb)=j by lia]at a1
     have a2:=s1 i (sb-1) hl s!"" s!""
     rw[DT (show sb-1<(arrOf st).size by lia)]at a2
     rw[DT (show j<(arrOf st).size by lia)]
     exact xh_ a2 a1
    ·exact s2 i j c2 a8 hj
  ·rw[if_neg (by simpa using cR)]
   have z1:((arrOf st).extract (sa+k) sb).size=sb-(sa+k):=by simp;lia
   have z2:((arrOf st).extract sb (sb+m)).size=m:=by simp;lia
   have hM:MP a₀ κ ((arrOf st).extract (sa+k) sb) ((arrOf st).extract sb (sb+m)):=by
    refine {hA:=fun x hx=>?_,hB:=fun x hx=>?_,sA:=?_,sB:=?_,ha:=by lia,hb:=by lia,hf:=fun y hy=>?_,hl:=fun x hx=>?_}
    ·rw[Ec]at hx;obtain⟨j,hj,_,_,rfl⟩:=Fd hx;exact bq _ (by simp)
    ·rw[Ec]at hx;obtain⟨j,hj,_,_,rfl⟩:=Fd hx;exact bq _ (by simp)
    ·rw[Ec];exact (IV s!"").mp (fun i j c1 c2 c3=>s1 i j s!"" c2 c3)
    ·rw[Ec];exact (IV s!"").mp (fun i j c1 c2 c3=>s2 i j c1 c2 s!"")
    ·rw[Ec]at hy;obtain⟨j,hj,c1,c2,rfl⟩:=Fd hy
     have a1:=g2 (j-sa) s!"" s!"" s!""
     simp only[show sa+(j-sa)=j by lia]at a1
     simp only[tZ,uB]
     exact qC_ a1
    ·rw[Ec]at hx;obtain⟨j,hj,c1,c2,rfl⟩:=Fd hx
     have a1:=g3 (j-sb) s!"" s!""
     simp only[show sb+(j-sb)=j by lia]at a1
     simp only[tZ,z1,show sa+k+(sb-(sa+k)-1)=sb-1 by lia]
     exact qC_ a1
   have fM:∀(r:Array Keyed) (ag:SortSt),SG (setPending st (((pendingOf st).setIfInBounds i (sa,na+nb,pw)).eraseIdxIfInBounds (i+1))) ag->Mgd (LeK κ) ((arrOf st).extract (sa+k) sb).toList ((arrOf st).extract sb (sb+m)).toList r.toList ->
     wpS (model prog w) A E s (do
      modify fun s=>setArr s (wr (arrOf s) (sa+k) r.toList 0)
      return (failedOf ( <- get)).isNone:StateT SortSt Sem Bool) Q ag:=by
    intro r ag hG hR
    refine jB_ (zS_ (jB_ (wpS_get (jJ_ ?_))))
    have ea:arrOf ag=arrOf st:=hG.arr
    have hf:failedOf (setArr ag (wr (arrOf ag) (sa+k) r.toList 0))=none:=hG.fa.trans hB.failed
    rw[hf]
    rw[Ec,Ec]at hR
    have hp:r.toList.Perm (seg (arrOf st) (sa+k) (sb+m)):=by rw[F9 _ (show sa+k<=sb by lia) (show sb<=sb+m by lia)];exact hR.1
    obtain⟨w1,w2,w3⟩:=RQ s!"" s!"" hp
    have hsz2:(wr (arrOf st) (sa+k) r.toList 0).size=(arrOf st).size:=w1.size_eq
    have kh:arrOf (setArr ag (wr (arrOf ag) (sa+k) r.toList 0))=wr (arrOf st) (sa+k) r.toList 0:=by rw[<-ea]
    refine h _ ⟨?_,hG.kd.trans hB.kind,hf⟩ hG.pe ?_ ?_
    ·rw[kh];exact w1.trans hB.perm
    ·rw[kh];exact fun i hi=>w2 i s!""
    ·rw[kh,IV s!"",F9 _ (show sa<=sa+k by lia) (show sa+k<=sb+nb by lia),F9 _ (show sa+k<=sb+m by lia) (show sb+m<=sb+nb by lia),w3]
     have f1:∀x∈seg (wr (arrOf st) (sa+k) r.toList 0) sa (sa+k),∃j,∃hj:j<(arrOf st).size,sa<=j/\j<sa+k/\x=(arrOf st)[j]:=fun x hx=>by
      obtain⟨j,hj,c1,c2,rfl⟩:=Fd hx
      refine⟨j,by lia,c1,c2,?_⟩
      have:=w2 j s!""
      rw[qH_ hj,qH_ (show j<(arrOf st).size by lia)]at this
      exact js_ this
     have f3:∀x∈seg (wr (arrOf st) (sa+k) r.toList 0) (sb+m) (sb+nb),∃j,∃hj:j<(arrOf st).size,sb+m<=j/\j<sb+nb/\x=(arrOf st)[j]:=fun x hx=>by
      obtain⟨j,hj,c1,c2,rfl⟩:=Fd hx
      refine⟨j,by lia,c1,c2,?_⟩
      have:=w2 j s!""
      rw[qH_ hj,qH_ (show j<(arrOf st).size by lia)]at this
      exact js_ this
     have f2:∀x∈r.toList,∃j,∃hj:j<(arrOf st).size,sa+k<=j/\j<sb+m/\x=(arrOf st)[j]:=fun x hx=>by
      obtain⟨j,hj,c1,c2,rfl⟩:=Fd (hp.mem_iff.mp hx)
      exact⟨j,hj,c1,c2,rfl⟩
     have low:∀j (hj:j<(arrOf st).size),sa<=j->j<sa+k->LeK κ (arrOf st)[j] ((arrOf st)[sb]'s!""):=fun j hj c1 c2=>by
      have a1:=g1 (j-sa) s!"" s!""
      simp only[show sa+(j-sa)=j by lia]at a1
      exact a1
     have high:∀j (hj:j<(arrOf st).size),sb+m<=j->j<sb+nb->LeK κ ((arrOf st)[sb-1]'s!"") (arrOf st)[j]:=fun j hj c1 c2=>by
      have a1:=g4 (j-sb) s!"" s!"" s!""
      simp only[show sb+(j-sb)=j by lia]at a1
      exact a1
     refine q5_.mpr ⟨?_,q5_.mpr ⟨hR.2,?_,fun x hx y hy=>?_⟩,fun x hx y hy=>?_⟩
     ·exact (IV s!"").mp (G8 (fun i c1 c2=>w2 i s!"") (fun i j c1 c2 c3=>s1 i j c1 c2 s!""))
     ·exact (IV s!"").mp (G8 (fun i c1 c2=>w2 i s!"") (fun i j c1 c2 c3=>s2 i j s!"" c2 s!""))
     ·obtain⟨j,hj,c1,c2,rfl⟩:=f2 x hx
      obtain⟨l,hl,d1,d2,rfl⟩:=f3 y hy
      rcases q0_ j sb with c|c
      ·exact LeK.trans (LY s1 s!"" s!"" s!"" hj s!"") (high l hl d1 d2)
      ·exact LY s2 c s!"" d2 hj hl
     ·obtain⟨j,hj,c1,c2,rfl⟩:=f1 x hx
      rcases jw_.mp hy with hy|hy
      ·obtain⟨l,hl,d1,d2,rfl⟩:=f2 y hy
       rcases q0_ l sb with c|c
       ·exact LY s1 c1 s!"" c hj hl
       ·exact LeK.trans (low j hj c1 c2) (LY s2 (ji_ _) c s!"" s!"" hl)
      ·obtain⟨l,hl,d1,d2,rfl⟩:=f3 y hy
       exact LeK.trans (low j hj c1 c2) (LY s2 (ji_ _) s!"" d2 s!"" hl)
   by_cases hc:na-k<=m
   ·rw[if_pos hc]
    exact jB_ (NY hO hM fO.kind fM)
   ·rw[if_neg hc]
    exact jB_ (NZ hO hM fO.kind fM)
end
end aO
namespace aO
open PySem PyProof.Rows
abbrev Rn:=Nat×Nat×Nat
def JP (lo n:Nat):StateT SortSt Sem (ForInStep (Option Unit×Nat)):=do
 modify fun s=>setPending s ((pendingOf s).push (lo,n,0))
 pure (.yield (none,lo+n))
def JM (pw:Nat):StateT SortSt Sem (ForInStep (Option Unit×Unit)):=do
 let g <- get
 match if (pendingOf g).size > 1 then (pendingOf g)[(pendingOf g).size-2]? else none with
 |some (_,_,older)=>if older<=pw then pure (.done (none,())) else do
   let b <- mergeAt' ((pendingOf g).size-2)
   if (!b)=true then pure (.done (some (),())) else pure (.yield (none,()))
 |_=>pure (.done (none,()))
def JB (size lo n:Nat):StateT SortSt Sem (ForInStep (Option Unit×Nat)):=do
 let g <- get
 match (pendingOf g).back? with
 |some (s1,n1,_)=>do
  let c <- forIn [0:size] ((none,()):Option Unit×Unit) fun _ _=>JM (power' size (2*s1+n1) (2*s1+n1+n1+n) size)
  match c.1 with
  |some r=>pure (.done (some r,lo))
  |none=>do
   modify fun s=>setPending s ((pendingOf s).modify ((pendingOf s).size-1) fun (st,len,_)=>(st,len,power' size (2*s1+n1) (2*s1+n1+n1+n) size))
   JP lo n
 |_=>JP lo n
def RN (size cD lo n:Nat):StateT SortSt Sem (ForInStep (Option Unit×Nat)):=
 if n<cD then (do
  liftM (rule "list.sort.binary-insertion")
  let b <- binarySort' lo (min (size-lo) cD) n
  if (!b)=true then pure (.done (some (),lo)) else JB size lo (min (size-lo) cD))
 else JB size lo n
def RB (size cD:Nat)(c:Option Unit×Nat):StateT SortSt Sem (ForInStep (Option Unit×Nat)):=
 if c.2 >= size then pure (.done (none,c.2)) else do
  let x <- countRun' c.2 (size-c.2)
  match x with
  |some n=>RN size cD c.2 n
  |_=>pure (.done (some (),c.2))
def FI (p:Array Rn):Nat:=if Option.any (fun x=>decide (x<p[p.size-2+1]?.elim 0 fun x=>x.snd.fst)) (if p.size-2 > 0 then Option.map (fun x=>x.snd.fst) p[p.size-2-1]? else none)=true then p.size-2-1 else p.size-2
def FB:StateT SortSt Sem (ForInStep (Option Unit×Unit)):=do
 let g <- get
 if (pendingOf g).size<=1 then pure (.done (none,()))
 else do
  let b <- mergeAt' (FI (pendingOf g))
  if (!b)=true then pure (.done (some (),())) else pure (.yield (none,()))
def JT:sortRuns'=(do
 let g <- get
 let c <- forIn [0:(arrOf g).size] ((none,0):Option Unit×Nat) fun _ c=>RB (arrOf g).size (minRun' (arrOf g).size (arrOf g).size 0) c
 match c.1 with
 |some r=>pure r
 |none=>do
  let c <- forIn [0:(arrOf g).size] ((none,()):Option Unit×Unit) fun _ _=>FB
  match c.1 with
  |some r=>pure r
  |none=>pure ()):=by
 rw[sortRuns'_eq]
 refine jG_ (bind _) (funext fun g=>?_)
 refine congr (jG_ bind (jG_ (forIn _ _) (funext fun _=>funext fun c=>?_))) (funext fun c=>?_)
 ·unfold RB
  refine jG_ (ite _ _) (jG_ (bind _) (funext fun x=>?_))
  cases x with
  |none=>rfl
  |some n=>
   dsimp only
   unfold RN
   by_cases hn:n<minRun' (arrOf g).size (arrOf g).size 0
   ·rw[if_pos hn,if_pos hn]
    refine jG_ (bind _) (funext fun _=>jG_ (bind _) (funext fun b=>jG_ (ite _ _) ?_))
    unfold JB
    refine jG_ (bind _) (funext fun g'=>?_)
    try dsimp only
    rcases (pendingOf g').back? with _|⟨s1,n1,q⟩
    ·rfl
    ·try dsimp only
     refine congr (jG_ bind (jG_ (forIn _ _) (funext fun _=>funext fun _=>?_))) (funext fun c=>?_)
     ·unfold JM
      refine jG_ (bind _) (funext fun g2=>?_)
      try dsimp only
      rcases (if (pendingOf g2).size > 1 then (pendingOf g2)[(pendingOf g2).size-2]? else none) with _|⟨a,b,c⟩
      ·rfl
      ·rfl
     ·obtain⟨r,u⟩:=c
      cases r<;>rfl
   ·rw[if_neg hn,if_neg hn]
    unfold JB
    refine jG_ (bind _) (funext fun g'=>?_)
    try dsimp only
    rcases (pendingOf g').back? with _|⟨s1,n1,q⟩
    ·rfl
    ·try dsimp only
     refine congr (jG_ bind (jG_ (forIn _ _) (funext fun _=>funext fun _=>?_))) (funext fun c=>?_)
     ·unfold JM
      refine jG_ (bind _) (funext fun g2=>?_)
      try dsimp only
      rcases (if (pendingOf g2).size > 1 then (pendingOf g2)[(pendingOf g2).size-2]? else none) with _|⟨a,b,c⟩
      ·rfl
      ·rfl
     ·obtain⟨r,u⟩:=c
      cases r<;>rfl
 ·obtain⟨r,lo⟩:=c
  cases r with
  |some r=>rfl
  |none=>
   dsimp only
   refine congr (jG_ bind (jG_ (forIn _ _) (funext fun _=>funext fun c=>?_))) (funext fun c=>?_)
   ·rfl
   ·obtain⟨r,u⟩:=c
    cases r<;>rfl
section
variable {prog:Program} {w:World} {A:Around} {E:Value->Shared->Prop} {s:Shared} {a₀:Array Keyed} {κ:KeyKind} {kd:SortKind}
def Ch (κ:KeyKind)(xs:Array Keyed):List Rn->Nat->Nat->Prop
 |[],a,b=>a=b
 |p::r,a,b=>p.1=a/\1<=p.2.1/\SO κ xs a (a+p.2.1)/\Ch κ xs r (a+p.2.1) b
def Ch.le {xs:Array Keyed}:∀{l:List Rn} {a b:Nat},Ch κ xs l a b->a+l.length<=b
 |[],a,b,h=>tN h
 |p::r,a,b,h=>by have:=Ch.le h.2.2.2;have:=h.2.1;simp only[jU_];lia
def Ch.append {xs:Array Keyed}:∀{l l':List Rn} {a b:Nat},Ch κ xs (l++l') a b ↔ ∃c,Ch κ xs l a c/\Ch κ xs l' c b
 |[],l',a,b=>⟨fun h=>⟨a,rfl,h⟩,fun ⟨c,e,h⟩=>by cases e;exact h⟩
 |p::r,l',a,b=>⟨fun ⟨h1,h2,h3,h4⟩=>by obtain⟨c,g1,g2⟩:=Ch.append.mp h4;exact⟨c,⟨h1,h2,h3,g1⟩,g2⟩,fun ⟨c,⟨h1,h2,h3,h4⟩,h5⟩=>⟨h1,h2,h3,Ch.append.mpr ⟨c,h4,h5⟩⟩⟩
def Ch.congr {xs ys:Array Keyed}:∀{l:List Rn} {a b:Nat},(∀i,a<=i->i<b->ys[i]?=xs[i]?)->Ch κ xs l a b->Ch κ ys l a b
 |[],a,b,_,h=>h
 |p::r,a,b,e,⟨h1,h2,h3,h4⟩=>⟨h1,h2,G8 (fun i g1 g2=>e i g1 (by have:=h4.le;lia)) h3,h4.congr (fun i g1 g2=>e i s!"" g2)⟩
def Ch.same {xs:Array Keyed}:∀{l l':List Rn} {a b:Nat},l.map (fun p=>(p.1,p.2.1))=l'.map (fun p=>(p.1,p.2.1))->Ch κ xs l a b->Ch κ xs l' a b
 |[],[],_,_,_,h=>h
 |[],_::_,_,_,e,_=>by cases e
 |_::_,[],_,_,e,_=>by cases e
 |p::r,p'::r',a,b,e,⟨h1,h2,h3,h4⟩=>by
  simp only[jZ_,xO_,vN]at e
  obtain⟨⟨e1,e2⟩,e3⟩:=e
  refine⟨e1 ▸ h1,e2 ▸ h2,e2 ▸ h3,?_⟩
  rw[<-e2]
  exact h4.same e3
def KY {st:SortSt}   (hO:LtOk kd κ a₀ prog w A E s)(hB:SB kd a₀ st)(hC:Ch κ (arrOf st) (pendingOf st).toList 0 m)(hm:m<=a₀.size)(hi:i+1<(pendingOf st).size)
  (h:∀ag,SB kd a₀ ag->Ch κ (arrOf ag) (pendingOf ag).toList 0 m->(pendingOf ag).size+1=(pendingOf st).size->Out 0 m (arrOf st) (arrOf ag)->Q true ag):
  wpS (model prog w) A E s (mergeAt' i) Q st:=by
 have hl:(pendingOf st).toList.length=(pendingOf st).size:=j3_
 have e0:(pendingOf st).toList=(pendingOf st).toList.take i++(pendingOf st)[i]::(pendingOf st)[i+1]::(pendingOf st).toList.drop (i+2):=by
  have h1:=(xc_ i (pendingOf st).toList).symm
  rw[xb_ s!"",xb_ s!""]at h1
  exact h1
 obtain⟨l1,bo⟩:∃l,l=(pendingOf st).toList.take i:=⟨_,rfl⟩
 obtain⟨l2,bJ⟩:∃l,l=(pendingOf st).toList.drop (i+2):=⟨_,rfl⟩
 obtain⟨⟨sa,na,pw⟩,hx⟩:∃p,p=(pendingOf st)[i]:=⟨_,rfl⟩
 obtain⟨⟨sb,nb,q⟩,hy⟩:∃p,p=(pendingOf st)[i+1]:=⟨_,rfl⟩
 rw[<-bo,<-bJ,<-hx,<-hy]at e0
 have mj:l1.length=i:=by rw[bo,jx_];lia
 rw[e0]at hC
 obtain⟨c,c1,c2,c3,c4,c5,c6,c7,c8⟩:=Ch.append.mp hC
 dsimp only at c2 c3 c4 c5 c6 c7 c8
 subst c2
 subst c5
 have bh:=c8.le
 have hle1:=c1.le
 refine N1 hO hB (by rw[hx];exact qH_ s!"") (by rw[hy];exact qH_ hi) rfl c3 c6 s!"" c4 c7 (fun ag g1 g2 g3 g4=>?_)
 have e1:(pendingOf ag).toList=l1++(sa,na+nb,pw)::l2:=by
  rw[g2,Array.toList_eraseIdxIfInBounds,sP,e0,tY _ _ s!"",mj,qg_,zv_,List.eraseIdx_append_of_length_le s!"",mj,show i+1-i=1 by lia]
  rfl
 refine h ag g1 ?_ ?_ (fun i hi=>g3 i s!"")
 ·rw[e1]
  refine Ch.append.mpr ⟨sa,c1.congr (fun i _ h2=>g3 i s!""),rfl,?_,?_,?_⟩
  ·show 1<=na+nb
   lia
  ·rw[show sa+(na+nb)=sa+na+nb by lia];exact g4
  ·show Ch κ (arrOf ag) l2 (sa+(na+nb)) m
   rw[show sa+(na+nb)=sa+na+nb by lia]
   exact c8.congr (fun i h1 _=>g3 i s!"")
 ·have l1':(pendingOf ag).toList.length=(l1++(sa,na+nb,pw)::l2).length:=by rw[e1]
  have l2':(pendingOf st).toList.length=(l1++(sa,na,pw)::(sa+na,nb,q)::l2).length:=by rw[e0]
  simp only[jl_,jU_,j3_]at l1' l2'
  lia
def VX {st:SortSt}{lo n:Nat}  (hB:SB kd a₀ st)(hC:Ch κ (arrOf st) (pendingOf st).toList 0 lo)(hn:1<=n)(hs:SO κ (arrOf st) lo (lo+n))
  (h:∀ag,SB kd a₀ ag->Ch κ (arrOf ag) (pendingOf ag).toList 0 (lo+n)->Q (.yield (none,lo+n)) ag):wpS (model prog w) A E s (JP lo n) Q st:=by
 unfold JP
 refine jB_ (zS_ (jJ_ (h _ ⟨hB.perm,hB.kind,hB.failed⟩ ?_)))
 show Ch κ (arrOf st) ((pendingOf st).push (lo,n,0)).toList 0 (lo+n)
 rw[wg_]
 exact Ch.append.mpr ⟨lo,hC,rfl,hn,hs,rfl⟩
def VY {st:SortSt}{lo n:Nat}  (hO:LtOk kd κ a₀ prog w A E s)(hB:SB kd a₀ st)(hC:Ch κ (arrOf st) (pendingOf st).toList 0 lo)(hn:1<=n)(hz:lo+n<=a₀.size)(hs:SO κ (arrOf st) lo (lo+n))
  (h:∀ag,SB kd a₀ ag->Ch κ (arrOf ag) (pendingOf ag).toList 0 (lo+n)->Q (.yield (none,lo+n)) ag):wpS (model prog w) A E s (JB a₀.size lo n) Q st:=by
 unfold JB
 refine jB_ (wpS_get ?_)
 rcases (pendingOf st).back? with _|⟨s1,n1,q⟩
 ·exact VX hB hC hn hs h
 ·dsimp only
  generalize power' a₀.size (2*s1+n1) (2*s1+n1+n1+n) a₀.size=pw
  refine jB_ (x7_ (qP_ (I:=fun _ c ag=>c=(none,())/\SB kd a₀ ag/\Ch κ (arrOf ag) (pendingOf ag).toList 0 lo/\Out 0 lo (arrOf st) (arrOf ag))
   (Q:=fun c ag=>c=(none,())/\SB kd a₀ ag/\Ch κ (arrOf ag) (pendingOf ag).toList 0 lo/\Out 0 lo (arrOf st) (arrOf ag)) ?step (fun _ _ hh=>hh) ⟨rfl,hB,hC,Out.refl _ _ _⟩) ?post)
  case step=>
   rintro x c ag _ _ ⟨rfl,g1,g2,g3⟩
   unfold JM
   refine jB_ (wpS_get ?_)
   rcases hh:(if (pendingOf ag).size > 1 then (pendingOf ag)[(pendingOf ag).size-2]? else none) with _|⟨a,b,older⟩
   ·exact jJ_ ⟨rfl,g1,g2,g3⟩
   ·dsimp only
    have l9:(pendingOf ag).size > 1:=by
     by_cases hq:(pendingOf ag).size > 1
     ·exact hq
     ·rw[if_neg hq]at hh;cases hh
    split
    ·exact jJ_ ⟨rfl,g1,g2,g3⟩
    ·refine jB_ (KY hO g1 g2 s!"" s!"" (fun aX k1 k2 k3 k4=>?_))
     rw[if_neg (by simp)]
     exact jJ_ ⟨rfl,k1,k2,g3.trans k4⟩
  case post=>
   rintro c ag ⟨rfl,g1,g2,g3⟩
   dsimp only
   refine jB_ (zS_ ?_)
   refine VX ⟨g1.perm,g1.kind,g1.failed⟩ ?_ hn ?_ h
   ·refine Ch.same ?_ g2
    show _=((pendingOf ag).modify _ _).toList.map _
    rw[Array.toList_modify]
    apply qS_
    intro i
    rw[jf_,jf_,List.getElem?_modify]
    by_cases hi:(pendingOf ag).size-1=i
    ·simp only[if_pos hi];cases (pendingOf ag).toList[i]?<;>rfl
    ·simp only[if_neg hi];cases (pendingOf ag).toList[i]?<;>rfl
   ·exact G8 (fun i h1 h2=>g3 i s!"") hs
def LZ {st:SortSt}  (hO:LtOk kd κ a₀ prog w A E s)(hB:SB kd a₀ st)(hp:pendingOf st = #[])
  (h:∀ag,SB kd a₀ ag->SO κ (arrOf ag) 0 a₀.size->Q () ag):wpS (model prog w) A E s sortRuns' Q st:=by
 rw[JT]
 refine jB_ (wpS_get ?_)
 rw[hB.size]
 generalize minRun' a₀.size a₀.size 0=mr
 refine jB_ (x7_ (qP_ (I:=fun x c ag=>SB kd a₀ ag/\∃lo,c=(none,lo)/\lo<=a₀.size/\(x<=lo\/a₀.size<=lo)/\Ch κ (arrOf ag) (pendingOf ag).toList 0 lo)
  (Q:=fun c ag=>SB kd a₀ ag/\c=(none,a₀.size)/\Ch κ (arrOf ag) (pendingOf ag).toList 0 a₀.size) ?step ?fin ⟨hB,0,rfl,by lia,by lia,by rw[hp];rfl⟩) ?post)
 case fin=>
  rintro c ag ⟨g1,lo,rfl,g2,g3,g4⟩
  obtain rfl:lo=a₀.size:=by lia
  exact⟨g1,rfl,g4⟩
 case step=>
  rintro x c ag _ hx ⟨g1,lo,rfl,g2,g3,g4⟩
  unfold RB
  dsimp only
  by_cases bF:lo >= a₀.size
  ·rw[if_pos bF]
   obtain rfl:lo=a₀.size:=by lia
   exact jJ_ ⟨g1,rfl,g4⟩
  ·rw[if_neg bF]
   have bj:∀n,1<=n->lo+n<=a₀.size->∀aX,SB kd a₀ aX->Ch κ (arrOf aX) (pendingOf aX).toList 0 (lo+n)->SB kd a₀ aX/\∃nu,((none,lo+n):Option Unit×Nat)=(none,nu)/\nu<=a₀.size/\(x+1<=nu\/a₀.size<=nu)/\Ch κ (arrOf aX) (pendingOf aX).toList 0 nu :=
    fun n h1 h2 aX k1 k2=>⟨k1,lo+n,rfl,h2,by lia,k2⟩
   refine jB_ (LV hO s!"" s!"" g1 (fun m aX k1 k2 k3 k4=>?_))
   have k5:Ch κ (arrOf aX) (pendingOf aX).toList 0 lo:=by rw[k1.pe];exact g4.congr (fun i _ h2=>k1.out i (.inl h2))
   dsimp only
   unfold RN
   by_cases hm:m<mr
   ·rw[if_pos hm]
    refine jB_ (F8 (jB_ (JR hO s!"" s!"" k1.b k4 (fun cm q1 q2=>?_))))
    rw[if_neg (by simp)]
    have q3:Ch κ (arrOf cm) (pendingOf cm).toList 0 lo:=by rw[q1.pe];exact k5.congr (fun i _ h2=>q1.out i (.inl h2))
    exact VY hO q1.b q3 s!"" s!"" q2 (bj _ s!"" s!"")
   ·rw[if_neg hm]
    exact VY hO k1.b k5 k2 s!"" k4 (bj _ k2 s!"")
 case post=>
  rintro c ag ⟨g1,rfl,g4⟩
  dsimp only
  have bh:=g4.le
  refine jB_ (x7_ (qP_ (I:=fun x c aX=>c=(none,())/\SB kd a₀ aX/\Ch κ (arrOf aX) (pendingOf aX).toList 0 a₀.size/\(pendingOf aX).size+x<=a₀.size)
   (Q:=fun c aX=>c=(none,())/\SB kd a₀ aX/\Ch κ (arrOf aX) (pendingOf aX).toList 0 a₀.size/\(pendingOf aX).size<=1) ?step2 ?fin2 ⟨rfl,g1,g4,by simpa using bh⟩) ?post2)
  case fin2=>
   rintro c aX ⟨rfl,k1,k2,k3⟩
   exact⟨rfl,k1,k2,by lia⟩
  case step2=>
   rintro x c aX _ hx ⟨rfl,k1,k2,k3⟩
   unfold FB
   refine jB_ (wpS_get ?_)
   by_cases h1:(pendingOf aX).size<=1
   ·rw[if_pos h1]
    exact jJ_ ⟨rfl,k1,k2,h1⟩
   ·rw[if_neg h1]
    have hFI:FI (pendingOf aX)+1<(pendingOf aX).size:=by
     unfold FI
     repeat' split
     all_goals lia
    refine jB_ (KY hO k1 k2 (ji_ _) hFI (fun cm q1 q2 q3 q4=>?_))
    rw[if_neg (by simp)]
    exact jJ_ ⟨rfl,q1,q2,by lia⟩
  case post2=>
   rintro c aX ⟨rfl,k1,k2,k3⟩
   refine jJ_ (h aX k1 ?_)
   have hl:(pendingOf aX).toList.length<=1:=by simpa using k3
   match aU:(pendingOf aX).toList,hl with
   |[],_=>rw[aU]at k2;intro i j h1 h2 h3;rw[<-show 0=a₀.size from k2]at h3;lia
   |[p],_=>
    rw[aU]at k2
    obtain⟨c1,c2,c3,c4⟩:=k2
    have e:0+p.2.1=a₀.size:=c4
    rw[e]at c3
    exact c3
end
end aO
namespace HT
def lexLt_irr2:∀{xs:α2},HT.lexLt xs xs=false
 |[]=>rfl
 |x::xs=>by rw[HT.lexLt_cons,if_pos rfl];exact lexLt_irr2
def lexLt_trans:∀{xs ys zs:α2},lexLt xs ys=true->lexLt ys zs=true->lexLt xs zs=true
 |[],[],_,h,_=>by cases h
 |_::_,[],_,h,_=>by cases h
 |_,_::_,[],_,h=>by cases h
 |[],_::_,_::_,_,_=>rfl
 |x::xs,y::ys,z::zs,h,g=>by
  rw[lexLt_cons]at h g ⊢
  by_cases e1:x=y
  ·rw[if_pos e1]at h
   by_cases e2:y=z
   ·rw[if_pos e2]at g;rw[if_pos (e1.trans e2)];exact lexLt_trans h g
   ·rw[if_neg e2]at g;rw[if_neg (e1 ▸ e2),e1];exact g
  ·rw[if_neg e1]at h
   by_cases e2:y=z
   ·rw[if_neg (e2 ▸ e1),<-e2];exact h
   ·rw[if_neg e2]at g
    have:=qB_ h
    have:=qB_ g
    rw[if_neg s!""]
    exact j7_ s!""
def lexLt_total:∀{xs ys:α2},lexLt xs ys=false->lexLt ys xs=false->xs=ys
 |[],[],_,_=>rfl
 |[],_::_,h,_=>by cases h
 |_::_,[],_,h=>by cases h
 |x::xs,y::ys,h,g=>by
  rw[lexLt_cons]at h g
  by_cases e:x=y
  ·rw[if_pos e]at h;rw[if_pos e.symm]at g;rw[e,lexLt_total h g]
  ·rw[if_neg e]at h;rw[if_neg (qp_ e)]at g
   have:=xB_ h
   have:=xB_ g
   lia
end HT
namespace aO
open PySem PyProof.Rows L2
def pblt (x y:Int×α2):Bool:=if x.1=y.1 then HT.lexLt x.2 y.2 else decide (x.1<y.1)
def IW  (h:pblt a b=true)(g:pblt b c=true):pblt a c=true:=by
 unfold pblt at *
 by_cases e1:a.1=b.1
 ·rw[if_pos e1]at h
  by_cases e2:b.1=c.1
  ·rw[if_pos e2]at g;rw[if_pos (e1.trans e2)];exact HT.lexLt_trans h g
  ·rw[if_neg e2]at g;rw[if_neg (e1 ▸ e2),e1];exact g
 ·rw[if_neg e1]at h
  by_cases e2:b.1=c.1
  ·rw[if_neg (e2 ▸ e1),<-e2];exact h
  ·rw[if_neg e2]at g
   have:=qB_ h
   have:=qB_ g
   rw[if_neg s!""]
   exact j7_ s!""
def IX  (h:pblt a b=false)(g:pblt b a=false):a=b:=by
 unfold pblt at *
 by_cases e:a.1=b.1
 ·rw[if_pos e]at h;rw[if_pos e.symm]at g
  exact wl_ e (HT.lexLt_total h g)
 ·rw[if_neg e]at h;rw[if_neg (qp_ e)]at g
  have:=xB_ h
  have:=xB_ g
  lia
def RS  (h:pblt a c=true):pblt a b=true\/pblt b c=true:=by
 cases e:pblt a b with
 |true=>exact .inl rfl
 |false=>
  cases e2:pblt b a with
  |true=>exact .inr (IW e2 h)
  |false=>have:=IX e e2;subst this;exact .inr h
def KeyV (K:α3)(H:Hp)(v:Value)(n:Int)(ns:α2):Prop:=∃t u,v=.ref t/\SqT K H t [.int n,.ref u]/\SqT K H u (ns.map V.int)
open Classical in
noncomputable def kS (K:α3)(H:Hp):wG where
 α:=Int×α2
 blt:=pblt
 irrefl:=fun a=>by unfold pblt;rw[if_pos rfl];exact HT.lexLt_irr2
 trans:=fun _ _ _=>IW
 negTrans:=fun _ _ _=>RS
 total:=fun _ _=>IX
 keyOf:=fun v=>if h:∃p:Int×α2,KeyV K H v p.1 p.2 then some h.choose else none
 dflt:=(0,[])
section
variable {X:Cx} {ae:α7} {σ:L2.St} {H:Hp} {s:Shared}
def HI:∀{ns ms:α2},ns.map V.int=ms.map V.int->ns=ms
 |[],[],_=>rfl
 |[],_::_,h=>by cases h
 |_::_,[],h=>by cases h
 |n::ns,m::ms,h=>by
  simp only[jZ_,xO_,V.int.injEq]at h
  rw[h.1,HI h.2]
def KeyV.inj (I:Inv X ae σ H s)    (h:KeyV X.K H v n ns)(g:KeyV X.K H v m ms):n=m/\ns=ms:=by
 obtain⟨t,u,rfl,h1,h2⟩:=h
 obtain⟨t',u',e,g1,g2⟩:=g
 cases e
 have e:=I.tuple_inj h1 g1
 simp only[xO_,V.int.injEq,V.ref.injEq,and_true]at e
 obtain⟨rfl,rfl⟩:=e
 exact⟨rfl,HI (I.tuple_inj h2 g2)⟩
def RT (I:Inv X ae σ H s)    (h:KeyV X.K H x.1 n ns):KE (kS X.K H) x=(n,ns):=by
 have hex:∃p:Int×α2,KeyV X.K H x.1 p.1 p.2:=⟨(n,ns),h⟩
 have e:(kS X.K H).keyOf x.1=some hex.choose:=dif_pos hex
 have e2:=KeyV.inj I hex.choose_spec h
 unfold KE
 rw[e]
 exact wl_ e2.1 e2.2
def Ux (I:Inv X ae σ H s)   (hu:A.units+6<cLine)    (hv:KeyV X.K H v n ns)(hw:KeyV X.K H u m ms)  (h:Q (pblt (n,ns) (m,ms)) s):
  wpAny (model X.prog X.w) A (keyLt' (tuples' true) v u) Q E s:=by
 obtain⟨a,ta,rfl,ha,hta⟩:=hv
 obtain⟨b,tb,rfl,hb,mn⟩:=hw
 obtain⟨its,r1,⟨o1,q1,c1,n1,d1⟩,_⟩:=I.tuple ha
 obtain⟨aN,r2,⟨o2,q2,c2,n2,d2⟩,_⟩:=I.tuple hb
 obtain⟨jts,k1,p1,_⟩:=I.tuple hta
 obtain⟨jts2,k2,p2,_⟩:=I.tuple mn
 have i1:IntsAre jts.toArray.toList ns:=intsAre_of k1
 have i2:IntsAre jts2.toArray.toList ms:=intsAre_of k2
 have eqT:=fun (bb:Bool) (he:EqD X.K H 2 (.ref ta) (.ref tb) bb)=>(EqD.at (x:=V.ref ta) (y:=V.ref tb) (u:=Value.ref ta) (v:=Value.ref tb) I 2 A s!"" rfl rfl he).1
 have hed:=EqD.ints (K:=X.K) (H:=H) (a:=ta) (c:=tb) (xs:=ns) (ys:=ms) (.inr ⟨hta,mn⟩) 1
 cases r1 with
 |cons e1 r1'=>cases r1' with
  |cons e2 r1''=>cases r1'';cases r2 with
   |cons e3 r2'=>cases r2' with
    |cons e4 r2'' =>
     cases r2''
     obtain⟨t1,rfl⟩:=e1
     obtain⟨t2,rfl⟩:=e3
     cases e2
     cases e4
     refine xA q1 d1 q2 d2 ?_
     simp only[z7_,uk]
     refine uQ (wpAny_eqBool_int (vh (fun e=>?_) (fun e=>?_)))
     ·have nv:n=m:=by simpa using e
      refine u4 (uQ (eqT _ hed _ _ _ _ (vh (fun e'=>?_) (fun e'=>?_))))
      ·have i6:ns=ms:=qB_ e'
       refine u4 (xt ?_)
       have:pblt (n,ns) (m,ms)=decide (([Value.int n t1,Value.ref ta].toArray).size<([Value.int m t2,Value.ref tb].toArray).size):=by
        subst nv;subst i6
        unfold pblt
        rw[if_pos rfl,HT.lexLt_irr2];rfl
       rw[<-this];exact h
      ·have i6:ns≠ms:=xB_ e'
       refine vi (xu _ _ ?_)
       have:pblt (n,ns) (m,ms)=HT.lexLt ns ms:=by unfold pblt;rw[if_pos nv]
       rw[this]at h
       exact HT.lt_tupInts p1 p2 i1 i2 s!"" h
     ·have nv:n≠m:=by simpa using e
      refine vi ?_
      show wpAny _ _ (oneLt' true _ _) _ _ _
      refine oneLt_int ?_
      have:pblt (n,ns) (m,ms)=decide (n<m):=by unfold pblt;rw[if_neg nv]
      rw[<-this];exact h
def ltOk (I:Inv X ae σ H s)   (hu:A.units+6<cLine)  (hk:∀x∈a₀.toList,∃n ns,KeyV X.K H x.1 n ns):LtOk (tuples' true) (kS X.K H) a₀ X.prog X.w A E s:=by
 intro x y st Q hx hy mZ h
 obtain⟨n,ns,h1⟩:=hk x hx
 obtain⟨m,ms,h2⟩:=hk y hy
 rw[RT I h1,RT I h2]at h
 rw[lt'_eq]
 refine jB_ (wpS_get ?_)
 rw[mZ]
 refine jB_ (wpS_lift (xl_ (Ux I hu h1 h2 ⟨rfl,?_⟩)))
 exact jJ_ h
end
end aO
namespace aO
open PySem PyProof.Rows L2
def L3 {α β:Type}{f:α->β}:∀{k l:List β},k.Perm l->∀m:List α,k=m.map f->∃m':List α,m'.Perm m/\l=m'.map f:=by
 intro k l h
 induction h with
 |nil=>intro m e;cases m with
  |nil=>exact⟨[],.refl _,rfl⟩
  |cons=>cases e
 |cons x _ ih=>intro m e;cases m with
  |nil=>cases e
  |cons y m=>
   simp only[jZ_,xO_]at e
   obtain⟨rfl,e⟩:=e
   obtain⟨m',p,rfl⟩:=ih m e
   exact⟨y::m',p.cons y,rfl⟩
 |swap x y l=>intro m e;cases m with
  |nil=>cases e
  |cons a m=>cases m with
   |nil=>cases e
   |cons b m=>
    simp only[jZ_,xO_]at e
    obtain⟨rfl,rfl,rfl⟩:=e
    exact⟨b::a::m,.swap a b m,rfl⟩
 |trans _ _ ih1 ih2=>
  intro m e
  obtain⟨m1,p1,e1⟩:=ih1 m e
  obtain⟨m2,p2,e2⟩:=ih2 m1 e1
  exact⟨m2,p2.trans p1,e2⟩
abbrev Wd:=Addr×α2
def wv (ws:List Wd):List V:=ws.map fun w=>V.ref w.1
def wu (ws:List Wd):List Value:=ws.map fun w=>Value.ref w.1
def Qn:∀ws:List Wd,Vals (wv ws) (wu ws)
 |[]=>.nil
 |_::r=>.cons rfl (Qn r)
def Fy:∀{ts:List Addr} {us:List Value},Vals (ts.map V.ref) us->us=ts.map Value.ref
 |[],_,h=>by cases h;rfl
 |t::ts,_,h=>by
  cases h with
  |cons e r=>
   have e':_=Value.ref t:=e
   rw[Fy r,e'];rfl
def kw (w:Wd):Int×α2:=((w.2.length:Int),w.2)
def Srt (os:List Wd):Prop:=os.Pairwise fun p q=>pblt (kw q) (kw p)=false
def WsOk (K:α3)(H:Hp)(ws:List Wd):Prop:=∀w∈ws,SqT K H w.1 (w.2.map V.int)
def TsOk (K:α3)(H:Hp)(ts:List Addr)(ws:List Wd):Prop:=∀(j:Nat) t w,ts[j]?=some t->ws[j]?=some w->SqT K H t [.int w.2.length,.ref w.1]
section
variable {X:Cx} {ae:α7} {σ:L2.St} {H H0:Hp} {s:Shared} {A:Around} {E:Value->Shared->Prop} {ws:List Wd} {ts:List Addr} {a kT:Addr} {e1:Nat} {P:xl->Shared->Prop} {f:Value}
def Turn (X:Cx)(ae:α7)(σ:L2.St)(A:Around)(f:Value)(ws:List Wd)(H0:Hp):Prop:=∀w∈ws,∀(H':Hp) (s':Shared),Inv X ae σ H' s'->Same H0 H' ->
 wpAny (model X.prog X.w) A (call f [.ref w.1]) (EP X ae σ (fun k i4=>∃t,k=.ref t/\Same H' i4/\SqT X.K i4 t [.int w.2.length,.ref w.1])) (fun _ _=>False) s'
abbrev Emp (a:Addr)(e1:Nat):L2.HO:=.ext fun h=>h.get? a=some (seqObj "list" #[] e1)
def RU (X:Cx)(ae:α7)(σ:L2.St)(H0:Hp)(a:Addr)(ws:List Wd)(P:xl->Shared->Prop):Prop:=
 ∀s' H' os,Inv X ae σ H' s'->Same H0 H'->H' a=some (.lst (wv os))->os.Perm ws->Srt os->P (.done (.ret .none)) s'
def VZ {st:SortSt}{os:List Wd}(I:Inv X ae σ H s)(ha:H a=some (Emp a e1))(hk:H kT=some (.lst (ts.map V.ref)))(mq:kT≠a)(h0:Same H0 H)(hn:H0 a=none)(mv:H0 kT=none)(hz:os.length<=sizeLine)
  (harr:(arrOf st).map (·.2)=(wu os).toArray) (hf:failedOf st=none) (hp:os.Perm ws) (hs:Srt os) (h:RU X ae σ H0 a ws P):
  wpAny (model X.prog X.w) A (ksk_tail a false e1 (.ref kT) st) P E s:=by
 obtain⟨z,its,n,r,el,e⟩:=I.lstM hk
 have I1:Inv X ae σ (upd H kT (.lst [])) {s with heap:=s.heap.update kT (Obj.mapSeq fun _=>(#[]:Array Value)),toks:=s.toks}:=I.lset (its':=[]) (f:=fun _ => #[]) hk e rfl .nil (jY_ _)
 have mw:upd H kT (.lst []) a=some (Emp a e1):=by rw[Ah (qp_ mq)];exact ha
 obtain⟨e2,_,_⟩:=I1.hok a _ mw
 unfold ksk_tail
 refine jc_ (listUpdate_at e rfl ?_ (by rw[jq_,<-el];exact z) (jY_ _))
 refine jc_ (zZ_ ?_)
 refine jc_ (seqEpoch_at e2 rfl ?_)
 simp only[jT_,qX_]
 rw[harr]
 refine jc_ (listUpdate_at e2 rfl ?_ (jY_ _) (by rw[jq_];simp only[wu,ja_];lia))
 rw[hf]
 simp only[bne_self_eq_false,jT_,qX_]
 have q:=zf_ (f:=fun _=>(wu os).toArray) e2
 have I2:Inv X ae σ (upd (upd H kT (.lst [])) a (.lst (wv os))) {s with heap:=(s.heap.update kT (Obj.mapSeq fun _=>(#[]:Array Value))).update a (Obj.mapSeq fun _=>(wu os).toArray),toks:=s.toks}:=by
  refine I1.write (x:=a) (e:=a) (by rw[mw];exact trivial) (.inl rfl) (fun b' u hb hu=>(j8_ _ _ (qp_ hb)).trans hu) ⟨_,q⟩ ⟨by simp only[wv,ja_];exact hz,wu os,_,Qn os,q⟩
 exact jn_ (h _ _ os I2 ((h0.over mv).over hn) Ab hp hs)
def IY (hl:ts.length=ws.length):((ts.map Value.ref).toArray.zip (wu ws).toArray).toList=(ts.zip ws).map fun p=>(Value.ref p.1,Value.ref p.2.1):=by
 rw[ksk_zip,z6_]
 unfold wu
 rw[List.zip_map]
 rfl
def Qo (hl:ts.length=ws.length)(hT:TsOk X.K H ts ws)  (hp:p∈ts.zip ws):SqT X.K H p.1 [.int p.2.2.length,.ref p.2.1]:=by
 obtain⟨j,hj,e⟩:=x9_.mp hp
 rw[List.getElem_zip]at e
 rw[z4_]at hj
 subst e
 exact hT j _ _ (jh_ s!"") (jh_ s!"")
def Qp (I:Inv X ae σ H s):∀(ts:List Addr) (ws:List Wd),ts.length=ws.length->(∀p∈ts.zip ws,SqT X.K H p.1 [.int p.2.2.length,.ref p.2.1])->∃fs:List Value,xw s.heap (ts.map Value.ref) fs/\fs.length=ts.length/\∀v∈fs,∃n t,v=.int n t
 |[],[],_,_=>⟨[],trivial,rfl,fun v hv=>by cases hv⟩
 |t::ts,w::ws,hl,h=>by
  obtain⟨fs,h1,h2,h3⟩:=Qp I ts ws (by simpa using hl) (fun p hp=>h p (jm_ _ hp))
  have h4:SqT X.K H t [.int w.2.length,.ref w.1]:=h (t,w) jo_
  obtain⟨its,r,⟨o,ho,hc,n,hd⟩,_⟩:=I.tuple h4
  cases r with
  |cons e1 r' =>
   obtain⟨tk,rfl⟩:=e1
   refine⟨.int w.2.length tk::fs,PySem.W.KatTups.cons ho hc hd rfl h1,by simp[h2],fun v hv=>?_⟩
   rcases jD_.mp hv with rfl|hv
   ·exact⟨_,_,rfl⟩
   ·exact h3 v hv
def Wp (I:Inv X ae σ H s)(hu:A.units+6<cLine)(ha:H a=some (Emp a e1))(hk:H kT=some (.lst (ts.map V.ref)))(mq:kT≠a)(h0:Same H0 H)(hn:H0 a=none)(mv:H0 kT=none)(hz:ws.length<=sizeLine)
  (hl:ts.length=ws.length) (hW:WsOk X.K H ws) (hT:TsOk X.K H ts ws) (h:RU X ae σ H0 a ws P):
  wpAny (model X.prog X.w) A (ksk_end a false (wu ws).toArray e1 (.ref kT) (ts.map Value.ref).toArray) P E s:=by
 have hsz:(wu ws).toArray.size=ws.length:=by simp[wu]
 have cO:=fun p hp=>Qo (X:=X) (H:=H) hl hT (p:=p) hp
 have fin:∀st:SortSt,(arrOf st).Perm ((ts.map Value.ref).toArray.zip (wu ws).toArray)->failedOf st=none->SO (kS X.K H) (arrOf st) 0 (arrOf st).size->wpAny (model X.prog X.w) A (ksk_tail a false e1 (.ref kT) st) P E s:=by
  intro st hp hf hs
  have lZ:=(x8_.mp hp).symm
  rw[IY hl]at lZ
  obtain⟨m',p1,e⟩:=L3 lZ _ rfl
  have e2:(arrOf st).map (·.2)=(wu (m'.map (·.2))).toArray:=by
   apply wX
   rw[Array.toList_map,e,z6_]
   simp[wu]
  have pz:(m'.map (·.2)).Perm ws:=by
   have:=p1.map (·.2)
   rwa [List.map_snd_zip s!""]at this
  refine VZ I ha hk mq h0 hn mv (by rw[pz.length_eq];exact hz) e2 hf pz ?_ h
  have dk:=(IV (ji_ _)).mp hs
  have e3:seg (arrOf st) 0 (arrOf st).size=(arrOf st).toList:=by unfold seg;rw[vj];exact jX_ (by simp)
  rw[e3,e,xn_]at dk
  unfold Srt
  rw[xn_]
  refine dk.imp_of_mem (fun {x y} hx hy bh=>?_)
  have kx:KeyV X.K H (Value.ref x.1) x.2.2.length x.2.2:=⟨_,_,rfl,cO x (p1.mem_iff.mp hx),hW _ (xG_ (p1.mem_iff.mp hx)).2⟩
  have ky:KeyV X.K H (Value.ref y.1) y.2.2.length y.2.2:=⟨_,_,rfl,cO y (p1.mem_iff.mp hy),hW _ (xG_ (p1.mem_iff.mp hy)).2⟩
  unfold LeK at bh
  rw[RT I (x:=(Value.ref x.1,Value.ref x.2.1)) kx,RT I (x:=(Value.ref y.1,Value.ref y.2.1)) ky]at bh
  exact bh
 unfold ksk_end
 simp only[jT_,qX_]
 by_cases h2:(wu ws).toArray.size<2
 ·rw[if_pos h2,if_pos h2]
  refine jc_ (jn_ ?_)
  rw[StateT.run_pure]
  refine jc_ (jn_ ?_)
  refine fin (SortSt.mk' general' ((ts.map Value.ref).toArray.zip (wu ws).toArray) #[] 7 none) (Array.Perm.refl _) rfl ?_
  intro i j g1 g2 g3
  have g4:j<((ts.map Value.ref).toArray.zip (wu ws).toArray).size:=g3
  rw[Array.size_zip,hsz]at g4
  have:i=j:=by lia
  subst this
  exact qQ_ _
 ·rw[if_neg h2,if_neg h2]
  obtain⟨fs,f1,f2,f3⟩:=Qp I ts ws hl cO
  refine jc_ (xm (T:=.type "int") f1 s!"" (fun v hv=>?_) (by decide) ?_)
  ·obtain⟨n,t,rfl⟩:=f3 v hv
   exact PySem.W.Looks.of_pure rfl
  ·have hz0:((ts.map Value.ref).toArray.zip (wu ws).toArray).size=ws.length:=by simp[wu,hl]
   refine jc_ (qE_ (LZ (κ:=kS X.K H) (kd:=tuples' true) (a₀:=(ts.map Value.ref).toArray.zip (wu ws).toArray) (st:=SortSt.mk' (tuples' true) ((ts.map Value.ref).toArray.zip (wu ws).toArray) #[] 7 none)
    (Q:=fun _ ag=>SB (tuples' true) ((ts.map Value.ref).toArray.zip (wu ws).toArray) ag/\SO (kS X.K H) (arrOf ag) 0 ((ts.map Value.ref).toArray.zip (wu ws).toArray).size)
    (ltOk I hu (fun x hx=>?_)) ⟨Array.Perm.refl _,rfl,rfl⟩ rfl fun ag a1 a2=>⟨a1,a2⟩) ?_ fun _ _ e=>e)
   ·rw[IY hl]at hx
    obtain⟨p,hp,rfl⟩:=jv_.mp hx
    exact⟨p.2.2.length,p.2.2,_,_,rfl,cO p hp,hW _ (xG_ hp).2⟩
   ·rintro⟨⟨⟩,ag⟩ s' ⟨rfl,hB,hS⟩
    exact fin ag hB.perm hB.failed (by rw[hB.size];exact hS)
def WsOk.same {K:α3}  (h:WsOk K H ws)(e:Same H H'):WsOk K H' ws:=fun w hw=>e.seqT (h w hw)
def RV {K:α3}     (hp:H p=some (.lst zs))(h:SqT K H b xs):SqT K (upd H p o) b xs:=by
 have:TSq K H (upd H p o):=TSq.un (fun xs e=>by rw[hp]at e;cases e) (fun ob xs e=>by rw[hp]at e;cases e)
 exact this b xs h
def V0 (I:Inv X ae σ H s)(hu:A.units+6<cLine)(ha:H a=some (Emp a e1))(hk:H kT=some (.lst []))(mq:kT≠a)(h0:Same H0 H)(hn:H0 a=none)(mv:H0 kT=none)(hz:ws.length<sizeLine)
  (hW:WsOk X.K H0 ws) (hT:Turn X ae σ A f ws H0) (h:RU X ae σ H0 a ws P):
  wpAny (model X.prog X.w) A (ksk_rest a f false (wu ws).toArray e1 (.ref kT)) P E s:=by
 unfold ksk_rest
 refine jc_ (zR_ ?_)
 rw[List.forIn_toArray]
 refine jc_ (ksk_fold (fun i s'=>∃(H':Hp) (ts:List Addr),Inv X ae σ H' s'/\Same H0 H'/\H' a=some (Emp a e1)/\H' kT=some (.lst (ts.map V.ref))/\ts.length=i/\TsOk X.K H' ts ws) (wu ws) 0 s
  ⟨H,[],I,h0,ha,hk,rfl,fun j t w h1 _=>by simp at h1⟩ ?step ?done)
 case step=>
  rintro j x s' hx ⟨H',ts,I',g0,g1,g2,g3,g4⟩
  simp only[zI_]at g3 ⊢
  unfold wu at hx
  rw[jf_]at hx
  obtain⟨w,hw,rfl⟩:∃w,ws[j]?=some w/\Value.ref w.1=x:=by
   cases e:ws[j]? with
   |none=>rw[e]at hx;cases hx
   |some w=>rw[e]at hx;cases hx;exact⟨w,rfl,rfl⟩
  have hj:j<ws.length:=(jb_.mp hw).1
  refine jc_ (xl_ (qE_ (hT w (jd_ hw) H' s' I' g0) (fun k s2 fJ=>?_) fun _ _ z=>z.elim))
  obtain⟨v,H2,I2,rv,t,rfl,q1,q2⟩:=fJ
  have rk:k=Value.ref t:=rv
  subst rk
  have iI:=q1 _ _ g2
  obtain⟨z,its,n,r,el,e⟩:=I2.lstM iI
  dsimp only
  have hi:=Fy r
  have ki:its.length=j:=by rw[hi,ja_];exact g3
  refine jc_ (listUpdate_at e rfl ?_ (by rw[jq_,ki];lia) (by rw[uZ,jq_,ki];lia))
  refine jn_ ⟨rfl,upd H2 kT (.lst ((ts++[t]).map V.ref)),ts++[t],?_,?_,?_,Ab,by simp[g3],?_⟩
  ·have:=I2.lset (its':=its++[Value.ref t]) (ys:=(ts++[t]).map V.ref) (f:=fun a=>a.push (Value.ref t)) (t':=s2.toks) iI e (by simp) (by rw[jS_];exact r.append (.cons rfl .nil)) (by rw[ja_,jl_,g3];simp;lia)
   exact this
  ·exact (g0.trans q1).over mv
  ·rw[Ah (qp_ mq)];exact q1 _ _ g1
  ·intro i t' w' h1 h2
   refine RV iI ?_
   by_cases hi:i<ts.length
   ·rw[je_ hi]at h1
    exact q1.seqT (g4 i t' w' h1 h2)
   ·rw[jp_ s!""]at h1
    have:i-ts.length=0:=by
     by_cases hq:i-ts.length=0
     ·exact hq
     ·rw[jV_ (by simp;lia)]at h1;cases h1
    rw[this]at h1
    cases h1
    have:i=j:=by lia
    subst this
    rw[hw]at h2;cases h2
    exact q2
 case done=>
  rintro s' ⟨H',ts,I',g0,g1,g2,g3,g4⟩
  obtain⟨z,its,n,r,el,e⟩:=I'.lstM g2
  have hi:=Fy r
  subst hi
  refine jc_ (listItems_at e rfl ?_)
  exact Wp I' hu g1 g2 mq g0 hn mv s!"" (by rw[g3];simp[wu]) (hW.same g0) g4 h
def V1 {n:Nat}(I:Inv X ae σ H s)(hu:A.units+6<cLine)(ha:H a=some (.lst (wv ws)))(h0:Same H0 H)(hn:H0 a=none)(hz:ws.length<sizeLine)(kj:∀b,s.heap.objs.size<=b->H0 b=none)
  (hW:WsOk X.K H0 ws) (hT:Turn X ae σ A f ws H0) (h:RU X ae σ H0 a ws P):
  wpAny (model X.prog X.w) A (ksk_tree a f false) P E s:=by
 obtain⟨z,its,n,r,el,e⟩:=I.lstM ha
 have hi:its=wu ws:=by
  have:Vals ((ws.map (·.1)).map V.ref) its:=by rw[jW_];exact r
  rw[Fy this,jW_];rfl
 subst hi
 have q:=zf_ (f:=fun _=>(#[]:Array Value)) e
 obtain⟨e1,my⟩:∃e1,(s.heap.update a (Obj.mapSeq fun _=>(#[]:Array Value))).get? a=some (seqObj "list" #[] e1):=⟨_,q⟩
 have I1:Inv X ae σ (upd H a (Emp a e1)) {s with heap:=s.heap.update a (Obj.mapSeq fun _=>(#[]:Array Value)),toks:=s.toks}:=by
  refine I.write (x:=a) (e:=a) (by rw[ha];exact trivial) (.inl rfl) (fun b' u hb hu=>(j8_ _ _ (qp_ hb)).trans hu) ⟨_,my⟩ ⟨my,⟨_,my⟩,fun h1 h2 g1 g2=>g2 _ g1⟩
 unfold ksk_tree
 refine jc_ (listItems_at e rfl ?_)
 refine jc_ (listUpdate_at e rfl ?_ (by rw[jq_];simp only[wu,ja_];lia) (jY_ _))
 refine jc_ (seqEpoch_at my rfl ?_)
 refine jc_ (wpAny_newTuple ?_ (by rw[z6_];simp only[wu,ja_];lia))
 refine jc_ (wpAny_newList ?_ (jY_ _))
 refine qK_ ?_
 have I2:=I1.kept (t':=s.toks) (h':=(s.heap.update a (Obj.mapSeq fun _=>(#[]:Array Value))).push {cls:=.type "tuple",data:=.seq (wu ws).toArray}) (fun _ _ q=>jg_ _ q)
 have I3:=I2.lnew (t':=s.toks) (its:=[]) (ys:=[]) .nil (jY_ _)
 have hk:((s.heap.update a (Obj.mapSeq fun _=>(#[]:Array Value))).push {cls:=.type "tuple",data:=.seq (wu ws).toArray}).objs.size=s.heap.objs.size+1:=by rw[size_push',Heap.size_update]
 have ar:=jt_ e
 refine V0 I3 hu ?_ Ab ?_ ?_ hn ?_ hz hW hT h
 ·rw[Ah (by show a≠_;rw[hk];exact jO_ (xm_ ar))];exact Ab
 ·show _≠a
  rw[hk];exact qe_ (xm_ ar)
 ·refine (h0.over hn).over (kj _ ?_)
  show _<=_
  rw[hk];lia
 ·refine kj _ ?_
  show _<=_
  rw[hk];lia
def Wq (X:Cx)(ae:α7)(σ:L2.St)(H:Hp)(ws:List Wd)(Q:Value->Shared->Prop):Prop:=
 ∀s' H' D os,Inv X ae σ H' s'->Same H H'->H D=none->H' D=some (.lst (wv os))->os.Perm ws->Srt os->Q (.ref D) s'
def RW   (I:Inv X ae σ H s)(hu:A.units+8<cLine)(hl:SqL X.K H l (wv ws))(hz:ws.length<sizeLine)(hW:WsOk X.K H ws)
  (hT:Turn X ae σ A.in1.in1 (.ref q) ws H) (h:Wq X ae σ H ws Q):
  wpAny (model X.prog X.w) A (call (.builtin "sorted") [.ref l] [(Str.ofString "key",.ref q)]) Q E s:=by
 obtain⟨its,r,pl,_⟩:=I.list hl
 have hi:its=wu ws:=by
  have:Vals ((ws.map (·.1)).map V.ref) its:=by rw[jW_];exact r
  rw[Fy this,jW_];rfl
 subst hi
 have aj:(wu ws).length=ws.length:=by simp[wu]
 refine call_function_entry_kw kind_sorted plain_sorted entry_sorted (ksk_s1 _ _) ?_
 unfold Builtin.«sorted»
 refine jc_ (m:=checkCount "sorted" 1 1 _) (jn_ ?_)
 refine jc_ (collect_list (vs:=wu ws) ?isl ?_ s!"")
 case isl=>
  exact pl.isList
 refine jc_ (wpAny_newList ?_ s!"")
 have hsz:((s.heap.push (seqObj "list" #[] 0)).update s.heap.objs.size (Obj.mapSeq (· ++ (wu ws).toArray))).objs.size=s.heap.objs.size+1:=by
  rw[Heap.size_update,size_push']
 have keep:∀b o,s.heap.get? b=some o->((s.heap.push (seqObj "list" #[] 0)).update s.heap.objs.size (Obj.mapSeq (· ++ (wu ws).toArray))).get? b=some o:=fun b o q=>by
  have ar:b<s.heap.objs.size:=jt_ q
  rw[Heap.get?_update_ne _ _ _ _ (jO_ ar),Heap.get?_push_ne _ _ _ (jO_ ar)]
  exact q
 have I1:=I.kept (t':=s.toks) keep
 have I2:=I1.lnew (t':=s.toks) (its:=wu ws) (ys:=wv ws) (Qn ws) (by simp only[wv,ja_];lia)
 have hD:H (s.heap.objs.size+1)=none:=I.hok.fresh (wj_ _)
 have pK:(((s.heap.push (seqObj "list" #[] 0)).update s.heap.objs.size (Obj.mapSeq (· ++ (wu ws).toArray))).push (seqObj "list" (wu ws).toArray 0)).get? (s.heap.objs.size+1)=some (seqObj "list" (wu ws).toArray 0):=by
  rw[<-hsz];exact jz_ _ rfl
 show wpAny _ _ _ _ _ {s with heap:=((s.heap.push (seqObj "list" #[] 0)).update s.heap.objs.size (Obj.mapSeq (· ++ (wu ws).toArray))).push (seqObj "list" (wu ws).toArray 0)}
 have I3:Inv X ae σ (upd H (s.heap.objs.size+1) (.lst (wv ws))) {s with heap:=((s.heap.push (seqObj "list" #[] 0)).update s.heap.objs.size (Obj.mapSeq (· ++ (wu ws).toArray))).push (seqObj "list" (wu ws).toArray 0)}:=by
  have:=I2
  dsimp only at this
  rw[hsz]at this
  exact this
 rw[hsz]
 refine jc_ (qK_ (wpAny_call_entry_kw slot_list_sort ⟨_,pK,rfl⟩ entry_list_sort ?body (ksk_l1 _ _)))
 case body=>
  have ff:=ksk_t1 q (s.heap.objs.size+1)
  show wpAny (model X.prog X.w) A.in1.in1 (Builtin.«list.sort» ⟨[.ref (s.heap.objs.size+1)],[(Str.ofString "key",.ref q)]⟩) _ _ _
  rw[ff]
  refine V1 (n:=0) (H0:=H) I3 (by rw[in1_units,in1_units];lia) Ab (Same.new hD) hD hz (fun b hb=>I.hok.fresh ?_) hW hT fun s' H' os I' g1 g2 g3 g4=>⟨_,rfl,?_⟩
  ·have iT:(((s.heap.push (seqObj "list" #[] 0)).update s.heap.objs.size (Obj.mapSeq (· ++ (wu ws).toArray))).push (seqObj "list" (wu ws).toArray 0)).objs.size<=b:=hb
   rw[size_push',hsz]at iT
   lia
  ·exact jn_ ⟨_,rfl,h s' H' _ os I' g1 hD g2 g3 g4⟩
end
end aO
namespace L2
open PySem PySem.Spec PyProof.Rows
def V2   {K:α3}
               (S:FnScope N ps scope) (hr:Room (k+1) A) (e0:Env0 P w K mg base A outer s H)
    (ho:s.heap.get? f=some (sO name qual params body scope [] pm c' iJ)) (ck:s.heap.CodeRec (.ref c') qual) (hb:bindArgs (xB name qual params body scope [] pm (.ref c') iJ) args=pure (ps.zip us)) (r:Vals vs us) (hl:vs.length=ps.length)
    (ht:PE (cxOf CX0 P w K mg base N qual scope f (.ref c') A outer s H E).nox body t) (hq:t (start N vs) H Q):codeAny (model P w) A (.call (.ref f) args) (CR CX0 outer P w H s Q E) s:=by
  have pO:s.heap.NoLimit:=e0.mod.nolimit.keeps fun b o e=>(e0.bs b o e).1
  have gv:∀y∈ps.zip us,scope.names.lookup y.1=some .local\/(scope.names.lookup y.1=some .cell/\((cellsFrom (s.heap.objs.size+1) scope.names []).lookup y.1).isSome=true):=fun ⟨n,v⟩ hy=>by
    rcases S.par n (xG_ hy).1 with q|q
    . exact .inl q
    . exact .inr ⟨q,xV_ _ _ _ (.inl q)⟩
  refine wH hr.depth ho rfl S.co S.gen rfl ck ?_
  rw[hb]
  refine jn_ ?_
  refine wpAny_newFunctionEnv_cells S.kind gv fun env he s1 x=>?_
  subst he
  refine⟨pO.keeps x.toInCall.keep,wI ?_⟩
  have I:Inv (cxOf CX0 P w K mg base N qual scope f (.ref c') A outer s H E) [] (start N vs) H s1:=Kq S hr.hd e0 hl r x
  refine qE_ (ht [] s1 (start N vs) H _ (I.wish _) hq) (fun u s' hs=>?_) fun e s' hs=>hs.elim
  obtain⟨v,H',J,rv,q⟩:=hs
  have J':=J.unwish
  exact⟨v,H',J'.os,J'.bare,J'.base,J'.hok,rv,q⟩
def BmOk (mg:Str->α5)(base:Heap):Prop:=∃bm ob,mg "__builtins__"=some (.ref bm)/\bm≠builtinsNs/\base.get? bm=some ob/\ob.cls=.type "module" /\ ob.dict=some builtinsNs/\ob.data=.plain
end L2
namespace L2
open PySem PySem.Spec PyProof.Rows aO
abbrev lamA (ap:Pos):Arguments:={posonlyargs:=[],args:=[{arg := "word",annotation:=none,pos:=ap}],vararg:=none,kwonlyargs:=[],kw_defaults:=[],kwarg:=none,defaults:=[]}
abbrev lamB (p1 p2 p3 p4 p5:Pos):Expr:=.Tuple [.Call (.Name "len" p1) [.Name "word" p2] [] p3,.Name "word" p4] 0 p5
abbrev lamS:Scope:={kind:=.function,names:=[(Str.ofString "word",.local),(Str.ofString "len",.globalImplicit)],isGenerator:=false,isCoroutine:=false,more:=[]}
def RX:FnScope ["word"] ["word"] lamS:=⟨rfl,rfl,rfl,by decide,rfl,fun x hx=>.inl (by rw[jr_.mp hx];rfl),fun y hy=>by
 rcases jD_.mp hy with rfl|hy
 ·simp
 ·rw[jr_.mp hy];simp⟩
end L2
namespace L2
open PySem PySem.Spec PyProof.Rows
def Qq   {K:α3}
  (KX:K.In s₁.heap) (i6:s₁.heap.Ns mainGlobals mg) (hb:s₁.heap.Ns builtinsNs mb) (hbb:∀x:Str,x ≠ "__name__" -> mb x=bootBuiltins x) (hlim:s₁.heap.NoLimit) (hg:s₁.gens = #[]) (qy:BmOk mg s₁.heap)
  (hC:si s₁.heap c T) (hT:s₁.heap.get? T=some (sr #[])) (qz:K.lookup T=none)
  (ha:s₁.heap.get? a=some {cls:=.type "list",data:=.seq vs.toArray}) (hi:IntsAre vs ns) (hl:ns.length<=sizeLine) (hr:Room k callerA)
  (F:∀base:Heap,K.In base->base.Ns mainGlobals mg->si base c T->BmOk mg base->FnOk P w K mg base CX k fa fd [x] sp) (hbind:∀(s:Shared) (u:Value),BindsTo s fd ⟨[u],[]⟩ [(x,u)])
  (fD:∀H:Hp,H T=some (.tbl #[])->SqL K H a (ns.map V.int)->sp [.ref a] H (fun v _=>v=.bl true) fun _ _ _=>False)
  (qA:∀H e s',CX [] H s₁ (fun _ _ _=>False) e s'->False):
  codeAny (model P w) callerA (.call (.ref fa) ⟨[.ref a],[]⟩) (fun r s'=>r=.ok (.ret (.bool true))/\OldK s₁.heap s'.heap/\s'.os=s₁.os/\AllBare s'.gens) s₁:=by
 have rv:=Kr hi
 have lenV:=hi.length
 have hTa:T≠a:=fun z=>by subst z;rw[hT]at ha;cases ha
 have core:∀H:Hp,H T=some (.tbl #[])->SqL K H a (ns.map V.int)->HOk P w H s₁.heap->(∀b,H b≠none->b=T\/(b=a/\K.lookup a=none/\∃o xs,H a=some (.frz o (.lst xs)))) ->
   codeAny (model P w) callerA (.call (.ref fa) ⟨[.ref a],[]⟩) (fun r s'=>r=.ok (.ret (.bool true))/\OldK s₁.heap s'.heap/\s'.os=s₁.os/\AllBare s'.gens) s₁:=by
  intro H hHT hS hok hA
  have free:∀{b:Addr} {o:Obj},s₁.heap.get? b=some o->o.cls ≠ .none->o.data ≠ .seq vs.toArray 0->H b=none:=fun {b o} e h1 h2=>by
   cases q:H b with
   |none=>rfl
   |some u=>
    rcases hA b (by rw[q];simp) with rfl|⟨rfl,_⟩
    ·rw[hT]at e;cases e;exact absurd rfl h1
    ·rw[ha]at e;cases e;exact absurd rfl h2
  have ow:∀{b:Addr} {m:Str->α5},s₁.heap.Ns b m->(hidT s₁.heap H).Ns b m:=fun {b m} ⟨o,es,ep,e,d,r⟩=>⟨o,es,ep,GR e (by
   cases q:H b with
   |none=>rfl
   |some u=>
    rcases hA b (by rw[q];simp) with rfl|⟨rfl,_⟩
    ·rw[hT]at e;cases e;cases d
    ·rw[ha]at e;cases e;cases d),d,r⟩
  have hKb:K.In (hidT s₁.heap H):=fun b o e=>GR (KX b o e) (by
   cases q:H b with
   |none=>rfl
   |some u=>
    rcases hA b (by rw[q];simp) with rfl|⟨rfl,z,_⟩
    ·rw[qz]at e;cases e
    ·rw[z]at e;cases e)
  have hM:Mod K mg (hidT s₁.heap H):=⟨hKb,ow i6,⟨mb,ow hb,hbb⟩,let ⟨mc,h1,h2⟩:=hlim;⟨mc,ow h1,h2⟩⟩
  have e0:Env0 P w K mg (hidT s₁.heap H) callerA [] s₁ H:=⟨rfl,hM,fun b o e=>To e,tN (Ol _ _),trivial,fun b hb=>absurd (show b∈([]:List Addr) from hb) (by simp),hok,.of_eq hg⟩
  have hCb:si (hidT s₁.heap H) c T:=by
   obtain⟨o,ws,file,tf,flags,tg,inF,text,tt,e,hc,hd,r⟩:=id hC
   exact⟨o,ws,file,tf,flags,tg,inF,text,tt,GR e (free e (by rw[hc];intro z;cases z) (by rw[hd];intro z;cases z)),hc,hd,r⟩
  have hbb2:BmOk mg (hidT s₁.heap H):=by
   obtain⟨bm,ob,b1,b2,b3,b4,b5,b6⟩:=qy
   exact⟨bm,ob,b1,b2,GR b3 (free b3 (by rw[b4];intro z;cases z) (by rw[b6];intro z;cases z)),b4,b5,b6⟩
  refine codeAny_mono ((F _ hKb (ow i6) hCb hbb2).run callerA [] s₁ H ⟨[.ref a],[]⟩ [.ref a] [.ref a] _ _ hr e0 (hbind s₁ (.ref a)) (.cons rfl .nil) (fD H hHT hS)) fun r s' h=>?_
  cases r with
  |error e=>exact (qA H e s' h).elim
  |ok fl=>
   cases fl with
   |next=>exact sj h
   |brk=>exact sj h
   |cont=>exact sj h
   |ret u=>
    obtain⟨v,H',os,bare,un,hok',r',q⟩:=h
    have q':v=.bl true:=q
    subst q'
    obtain rfl:u=Value.bool true:=r'
    have noB:∀b:Addr,b∉frs ([]:List Env):=fun b z=>absurd (show b∈([]:List Addr) from z) (by simp)
    have all:∀b o,s₁.heap.get? b=some o->asItWas s₁.heap s'.heap b o:=fun b o e=>by
     cases q:H b with
     |none=>exact .inl (un.keep b o e q (noB b) (by simp))
     |some u=>
      rcases hA b (by rw[q];simp) with rfl|⟨rfl,_,ob,xs,z⟩
      ·obtain⟨more,z2⟩:=un.tbls b _ hHT
       have e2:s'.heap.get? b=some {cls:=.none,data:=.fields (#[]++more)}:=hok' b _ z2
       rw[hT]at e;cases e
       obtain⟨o',ws,_,_,_,_,_,_,_,e3,hc,hd,h11,_⟩:=hC
       exact .inr (.inl ⟨⟨c,o',ws,e3,hc,hd,h11⟩,rfl,#[],more,rfl,e2⟩)
      ·have z2:=un.frzs b ob _ z
       obtain⟨e1,_⟩:=hok b _ z
       obtain⟨e2,_⟩:=hok' b _ z2
       rw[e]at e1;cases e1
       exact .inl e2
    refine⟨rfl,⟨all,fun b o e=>?_⟩,os,bare⟩
    exact un.there b o e (by simp)
 cases hk:K.lookup a with
 |some o=>
  have e:=KX a o hk
  rw[ha]at e
  cases e
  refine core (fun b=>if b=T then some (.tbl #[]) else none) (if_pos rfl) (.inr ⟨_,vs.toArray,_,hk,rfl,rfl,rfl,by rw[jq_,lenV];exact hl,by simpa using rv⟩) (fun b u z=>?_) (fun b z=>?_)
  ·by_cases hb:b=T
   ·have z':=(if_pos hb).symm.trans z
    cases z';subst hb;exact hT
   ·have z':=(if_neg hb).symm.trans z
    cases z'
  ·by_cases hb:b=T
   ·exact .inl hb
   ·exact absurd (if_neg hb) z
 |none=>
  refine core (fun b=>if b=T then some (.tbl #[]) else if b=a then some (.frz {cls:=.type "list",data:=.seq vs.toArray} (.lst (ns.map V.int))) else none) (if_pos rfl) (.inl (.inr ⟨{cls:=.type "list",data:=.seq vs.toArray},by show (if a=T then _ else _)=_;rw[if_neg (qp_ hTa),if_pos rfl]⟩)) (fun b u z=>?_) (fun b z=>?_)
  ·by_cases hb:b=T
   ·have z':=(if_pos hb).symm.trans z
    cases z';subst hb;exact hT
   ·have z1:=(if_neg hb).symm.trans z
    by_cases fP:b=a
    ·have z':=(if_pos fP).symm.trans z1
     cases z'
     subst fP
     exact⟨ha,by rw[ja_];exact hl,vs,_,rv,ha⟩
    ·have z':=(if_neg fP).symm.trans z1
     cases z'
  ·by_cases hb:b=T
   ·exact .inl hb
   ·by_cases fP:b=a
    ·exact .inr ⟨fP,hk,_,_,by show (if a=T then _ else _)=_;rw[if_neg (qp_ hTa),if_pos rfl]⟩
    ·exact absurd (by show (if b=T then _ else _)=_;rw[if_neg hb,if_neg fP]) z
def walk_ofT {l:tT}{n k:Nat}{q:Program}{cV:List Str}{XP:(Str->α5)->Heap->Prop}{YP:World->Heap->Prop}{d:DefRec}{K:Params->α3}{CX:World->CXT}{sp:World->Sp}{x xT:Str}
  (hn:l.most=some n) (gR:n<=sizeLine) (mY:d.params.defaults=[]) (hr:Room k callerA)
  (hY:∀(w:World) (h:Heap),YP w h->(K w.params).In h)
  (F:∀(w:World) (mg:Str->α5) (fa:Addr) (h:Heap),YP w h->(K w.params).In h->h.Ns mainGlobals mg->mg d.name=some (.ref fa) ->
   ∃(fd:α6) (c T:Addr),sq (K w.params) xT=some (c,T)/\(K w.params).lookup T=none/\si h c T/\h.get? T=some (sr #[])/\(∀(s:Shared) (u:Value),BindsTo s fd ⟨[u],[]⟩ [(x,u)]) /\
    ∀base:Heap,(K w.params).In base->base.Ns mainGlobals mg->si base c T->BmOk mg base->FnOk l.prog w (K w.params) mg base (CX w) k fa fd [x] (sp w))
  (fD:∀(w:World) (H:Hp) (a c T:Addr) (ns:α2),ns.length<=n->sq (K w.params) xT=some (c,T)->H T=some (.tbl #[])->SqL (K w.params) H a (ns.map V.int)->sp w [.ref a] H (fun v _=>v=.bl true) fun _ _ _=>False)
  (qA:∀(w:World) (H:Hp) (s:Shared) (e:Value) (s':Shared),CX w [] H s (fun _ _ _=>False) e s'->False):
  vQ q cV XP YP l.row.toRowW d [] (fun f vs=>vc f vs):=by
 refine Att.attach_call hn mY fun w s₀ s₁ mg mb fa o pm cd bN a vs ns G Y ho hd ck hmg bV gC aj hg=>?_
 have KX:=hY w _ Y
 obtain⟨fd,c,T,ki,qz,hC,hT,hb,hF⟩:=F w mg fa _ Y KX G.T.g hmg
 exact Qq KX G.T.g G.T.b G.T.builtins G.T.nolimit hg (let ⟨bm,ob,b1,b2,b3,b4,b5,b6⟩:=G.T.bmain;⟨bm,ob,b1,b2,b3,b4,b5,b6⟩) hC hT qz bV gC (qt_ aj gR) hr hF hb (fun H hO hS=>fD w H a c T ns aj ki hO hS) fun H e s'=>qA w H s₁ e s'
def tabC (K:α3)(x:Str):Addr:=((sq K x).getD (0,0)).1
def tabP (K:α3)(x:Str):Addr:=((sq K x).getD (0,0)).2
def L4 {K:α3}   (h:sq K x=some (c,T)):tabC K x=c:=by unfold tabC;rw[h];rfl
def Qr {K:α3}   (h:sq K x=some (c,T)):tabP K x=T:=by unfold tabP;rw[h];rfl
def RY {K:α3}      {sl gg:Array (α5)}  (a:nsIn K mainGlobals x=some (some (.ref f)))(l:K.lookup f=some ⟨oc,od,.func fd,sl⟩)(hc:fd.code=.ref c)
  (lc:K.lookup c=some ⟨oc2,od2,.fields vs,gg⟩) (h:vs[11]?=some (.ref T)):sq K x=some (c,T):=by
 unfold sq
 rw[a]
 dsimp only
 rw[l]
 dsimp only
 rw[hc]
 dsimp only
 rw[lc]
 dsimp only
 rw[h]
structure FunL (K:α3)(mg:Str->α5)(base:Heap)(x qual:Str)(st:Stmt)(f:Addr)(fd:α6):Prop where
 ex:∃(oc:Value) (od:Option Addr) (kV bN pm:Value) (an:Option Addr) (ct:Value) (gu:Array (α5)),
  fd=fnOf x qual (CY st) (Cu st) (Al st) .none kV bN pm an (.ref (tabC K x)) ct/\K.lookup f=some ⟨oc,od,.func fd,gu⟩/\codeIn K (.ref (tabC K x)) qual=true
 C:si base (tabC K x) (tabP K x)
 B:BmOk mg base
section
variable {P:Program} {w:World} {K:α3} {mg:Str->α5} {base:Heap}
def FunL.ok  {st:Stmt}      (F:FunL K mg base x qual st f fd)(S:FnScope N ps (Al st))(len:∀vs H Q E,sp vs H Q E->vs.length=ps.length)
  (dM:∀(aA:Value) (ck:aA=.ref (tabC K x)) (A:Around) (outer:List Env) (s:Shared) (H:Hp) (vs:List V) (Q:VK) (E:XK),Room k (A.deeper (envOfC qual (Al st) s.heap.objs.size f aA))->sp vs H Q E ->
   ∃t,PSs (cxOf CX0 P w K mg base N qual (Al st) f aA A outer s H E).nox (Cu st) t/\t {nx:=fun _ H'=>Q .non H',rt:=Q} (start N vs) H):FnOk P w K mg base CX0 (k+1) f fd ps sp:=by
 obtain⟨oc,od,kV,bN,pm,an,ct,gu,rfl,lk,ck⟩:=F.ex
 refine UX lk ck S len fun A outer s H vs Q E hr fD=>?_
 obtain⟨t,h,q⟩:=dM _ rfl A outer s H vs Q E hr fD
 exact⟨t,h.nox,q⟩
def Uy  {st:Stmt}     {kV bN pm ct:Value}(ti:sq K x=some (c,T))(l:K.lookup f=some ⟨oc,od,.func (fnOf x qual (CY st) (Cu st) (Al st) .none kV bN pm an (.ref c) ct),gu⟩)
  (hc:codeIn K (.ref c) qual=true) (C:si base c T) (B:BmOk mg base):FunL K mg base x qual st f (fnOf x qual (CY st) (Cu st) (Al st) .none kV bN pm an (.ref c) ct):=
 ⟨⟨oc,od,kV,bN,pm,an,ct,gu,by rw[L4 ti],l,by rw[L4 ti];exact hc⟩,by rw[L4 ti,Qr ti];exact C,B⟩
end
end L2
namespace L2
open PySem PySem.Spec PyProof.Rows aO
def BR (T:Addr)(H H':Hp):Prop:=∀b o,b≠T->H b=some o->H' b=some o
def LamT (T:Addr)(lp:Pos)(qual:Str)(H:Hp):Prop:=H T=some (.tbl #[]) \/ ∃(c':Addr) (oc:Obj) (vs:Array Value) (t:Tok),H T=some (.tbl #[rawInt lp.line,rawInt lp.col,.ref c'])/\H c'=some (.frz oc (.own 0))/\oc.data=.fields vs/\vs[1]?=some (.str (qual ++ "<lambda>") t)
def LamT.is     (h:LamT T lp qual H):∃ps,H T=some (.tbl ps):=by
 rcases h with h|⟨_,_,_,_,h,_⟩
 ·exact⟨_,h⟩
 ·exact⟨_,h⟩
def LamT.mono     (h:LamT T lp qual H)(s:Same H H'):LamT T lp qual H':=by
 rcases h with h|⟨c',oc,vs,t,h,h2,h3,h4⟩
 ·exact .inl (s _ _ h)
 ·exact .inr ⟨c',oc,vs,t,s _ _ h,s _ _ h2,h3,h4⟩
def BR.of   (s:Same H H'):BR T H H':=fun b o _ e=>s b o e
def BR.trans   (s:BR T H H')(s':BR T H' i4):BR T H i4:=fun b o hb e=>s' b o hb (s b o hb e)
def BR.ne   (s:BR T H H')   (e:H b=some o)(ho:∀ps,o ≠ .tbl ps)  (hT:H T=some (.tbl ps)):H' b=some o:=s b o (fun z=>by subst z;rw[hT]at e;cases e;exact ho _ rfl) e
def BR.tsq {K:α3}   (s:BR T H H')  (hT:H T=some (.tbl ps))   (h:SqT K H b ys):SqT K H' b ys:=by
 rcases h with h|h
 ·left
  rcases h with h|⟨o,h⟩
  ·exact .inl (s.ne h (fun _ z=>by cases z) hT)
  ·exact .inr ⟨o,s.ne h (fun _ z=>by cases z) hT⟩
 ·exact .inr h
def BR.lsq {K:α3}   (s:BR T H H')  (hT:H T=some (.tbl ps))   (h:SqL K H b ys):SqL K H' b ys:=by
 rcases h with h|h
 ·left
  rcases h with h|⟨o,h⟩
  ·exact .inl (s.ne h (fun _ z=>by cases z) hT)
  ·exact .inr ⟨o,s.ne h (fun _ z=>by cases z) hT⟩
 ·exact .inr h
def BR.none   (s:BR T H H')  (hT:H' T=some (.tbl ps))  (h:H' b=none):H b=none:=by
 cases q:H b with
 |none=>rfl
 |some o=>
  have:=s b o (fun z=>by subst z;rw[hT]at h;cases h) q
  rw[h]at this;cases this
section
variable {X:Cx} {ae:α7} {σ:St} {H:Hp} {s:Shared}
def Inv.tabK      (I:Inv X ae σ H s)(hP:H P=some (.tbl ps))(k:∀b o,b≠P->s.heap.get? b=some o->h'.get? b=some o)(e:h'.get? P=some (sr (ps++ps')))
  (hc:s.heap.objs.size<=c') (ee:h'.get? c'=some oc):Inv X ae σ (upd (upd H P (.tbl (ps++ps'))) c' (.frz oc (.own 0))) {s with heap:=h',toks:=t' }:=by
 have nP:∀b,H b=none->b≠P:=fun b n z=>by subst z;rw[hP]at n;cases n
 have ny:∀b u,H b=some u->(∀qs,u ≠ .tbl qs)->b≠P:=fun b u q hu z=>by subst z;rw[hP]at q;cases q;exact hu _ rfl
 have nC:∀b u,H b=some u->b≠c':=fun b u q z=>by subst z;rw[I.hok.fresh hc]at q;cases q
 have nC2:∀b o,s.heap.get? b=some o->b≠c':=fun b o q z=>by subst z;exact absurd (jt_ q) (wm_.mpr hc)
 refine I.un ⟨fun b o q n _ _=>k b o (nP b n) q,fun b o q n _ _=>⟨o.slots,k b o (nP b n) q⟩,fun b o q n _=>by rw[Ah (nC2 b o q),Ah (nP b n)];exact n,fun b o q _=>?_,fun b xs q=>?_,fun b o u q=>?_,fun b qs q=>?_⟩ (fun b u q=>?_)
 ·by_cases hb:b=P
  ·subst hb;exact⟨_,e⟩
  ·exact⟨o,k b o hb q⟩
 ·rw[Ah (nC b _ q),Ah (ny b _ q (fun _ z=>by cases z))];exact q
 ·rw[Ah (nC b _ q),Ah (ny b _ q (fun _ z=>by cases z))];exact q
 ·by_cases hb:b=P
  ·subst hb;rw[hP]at q;cases q;exact⟨ps',by rw[Ah (nC b _ hP)];exact Ab⟩
  ·rw[Ah (nC b _ q),Ah hb];exact⟨#[],by rw[q];simp⟩
 ·by_cases hbc:b=c'
  ·subst hbc;rw[Ab]at q;cases q;exact⟨ee,_,ee⟩
  rw[Ah hbc]at q
  by_cases hb:b=P
  ·subst hb;rw[Ab]at q;cases q;exact e
  ·rw[Ah hb]at q
   refine (I.hok b u q).stay (fun c v hc r=>k c v ?_ r) (fun c r=>by rw[Ah (nC c _ r),Ah (ny c _ r (fun _ z=>by cases z))];exact r) fun c xs r=>by rw[Ah (nC c _ r),Ah (ny c _ r (fun _ z=>by cases z))];exact r
   rcases hc with rfl|hc
   ·exact hb
   ·exact ny c _ hc (fun _ z=>by cases z)
def Qs          (I:Inv X ae σ H s)(fh:X.env.code=.ref c)(C:si X.base c P)(hL:LamT P pos X.env.qual H)
  (hb:BmOk X.mg X.base) (bZ:closureFor scope X.env=pure []) (hdef:defaultsOf params X.env=([],[]))
  (h:∀(f c':Addr) (oc:Obj) (vs:Array Value) (t:Tok) (iJ:Value) (H':Hp) (s':Shared),Inv X (ae++[(f,sO "<lambda>" (X.env.qual ++ "<lambda>") params body scope [] ((X.mg "__name__").getD .none) c' iJ)]) σ H' s'->BR P H H'->H' P=some (.tbl #[rawInt pos.line,rawInt pos.col,.ref c'])->H' c'=some (.frz oc (.own 0))->oc.data=.fields vs->vs[1]?=some (.str (X.env.qual ++ "<lambda>") t)->Q (.ref f) s'):
  wpAny M A (eval (.Lambda params body scope pos) X.env) Q E s:=by
 obtain⟨ps,hP⟩:=hL.is
 obtain⟨bm,ob,b1,b2,b3,b4,b5,b6⟩:=hb
 have hg:s.heap.Ns mainGlobals X.mg:=I.mod.glob.keeps I.bk
 have eP:s.heap.get? P=some (sr ps):=I.hok P _ hP
 have nb:∀b o,X.base.get? b=some o->b≠P:=fun b o e z=>by subst z;have:=(I.bs b o e).2;rw[hP]at this;cases this
 have hgP:mainGlobals≠P:=by
  obtain⟨o,es,ep,e,_⟩:=I.mod.glob
  exact nb _ _ e
 have hbG:bm≠mainGlobals:=fun q=>by
  obtain⟨o,es,ep,e,hd,_⟩:=I.mod.glob
  rw[q,e]at b3;cases b3;rw[hd]at b6;cases b6
 refine xo hdef ?_
 rcases hL with hL|⟨c',oc,vs,t,h1,h2,h3,h4⟩
 ·have:ps = #[]:=by rw[hL]at hP;cases hP;rfl
  subst this
  refine vR (mg:=X.mg) bZ I.ok.glob hg fh (C.keeps I.bk) eP (by trivial) rfl hgP ⟨bm,ob,b1,b2,hbG,nb _ _ b3,I.bk _ _ b3,b4,b5,b6⟩ fun c' iJ h' tk hx bF ar hrec mn=>?_
  obtain⟨c₂,oc,vs,t,e2,ee,hd,hv⟩:=hrec
  cases e2
  have I1:=I.tabK (t':=tk) (h':=h'.push (sO "<lambda>" (X.env.qual ++ "<lambda>") params body scope [] ((X.mg "__name__").getD .none) c' iJ)) hP (fun b o hb e=>jg_ _ (hx b o hb e)) (jg_ _ mn) bF (jg_ _ ee)
  have hsz:s.heap.objs.size<=h'.objs.size:=qt_ bF (zj_ ar)
  have hcP:P≠c':=fun z=>by subst z;exact absurd (jt_ eP) (wm_.mpr bF)
  refine h h'.objs.size c' oc vs t iJ _ _ (I1.pins_of fun p hp=>?_) (fun b o hb e=>?_) ((Ah hcP).trans Ab) Ab hd hv
  ·rcases jw_.mp hp with hp|hp
   ·exact I1.pin p (jy_ _ hp)
   ·rw[jr_.mp hp]
    refine⟨jz_ _ rfl,?_,fun z=>?_,I.nofs hsz,fun v z=>by cases z⟩
    ·rw[Ah (fun z=>absurd ar (by dsimp only at z;rw[z];exact qb_ _)),Ah (fun z=>by dsimp only at z;subst z;exact absurd (jt_ eP) (wm_.mpr hsz))]
     exact I.hok.fresh hsz
    ·dsimp only at z
     have:=I.lt
     rw[<-z]at this
     exact absurd this (wm_.mpr hsz)
  ·rw[Ah (fun z=>by subst z;rw[I.hok.fresh bF]at e;cases e),Ah hb];exact e
 ·have:ps = #[rawInt pos.line,rawInt pos.col,.ref c']:=by rw[h1]at hP;cases hP;rfl
  subst this
  refine u9 (mg:=X.mg) (cv:=.ref c') bZ I.ok.glob hg fh (C.keeps I.bk) eP (by trivial) (by simp[codeAmong,rawInt]) ⟨bm,ob,b1,b2,hbG,nb _ _ b3,I.bk _ _ b3,b4,b5,b6⟩ fun iJ h' tk hk hsz=>?_
  have I1:=I.kept (t':=tk) (h':=h'.push (sO "<lambda>" (X.env.qual ++ "<lambda>") params body scope [] ((X.mg "__name__").getD .none) c' iJ)) (fun b o e=>jg_ _ (hk b o e))
  refine h h'.objs.size c' oc vs t iJ _ _ (I1.pins_of fun p hp=>?_) (fun b o hb e=>e) h1 h2 h3 h4
  rcases jw_.mp hp with hp|hp
  ·exact I1.pin p (jy_ _ hp)
  ·rw[jr_.mp hp]
   refine⟨jz_ _ rfl,I.hok.fresh hsz,fun z=>?_,I.nofs hsz,fun v z=>by cases z⟩
   dsimp only at z
   have:=I.lt
   rw[<-z]at this
   exact absurd this (wm_.mpr hsz)
end
def M5 (K:α3)(P:Addr)(lp:Pos)(qual:Str)(t:TA):TE:=fun σ H Q=>t σ H fun vs H1=>∃l ws,vs=[.ref l]/\SqL K H1 l (wv ws)/\WsOk K H1 ws/\ws.length<sizeLine/\LamT P lp qual H1 /\
 ∀H2 D os,BR P H1 H2->LamT P lp qual H2->H1 D=none->H2 D=some (.lst (wv os))->os.Perm ws->Srt os->Q (.ref D) H2
theorem KZ {K:α3}        : M5 K P lp qual t σ H Q=t σ H fun vs H1=>∃l ws,vs=[.ref l]/\SqL K H1 l (wv ws)/\WsOk K H1 ws/\ws.length<sizeLine/\LamT P lp qual H1 /\
 ∀H2 D os,BR P H1 H2->LamT P lp qual H2->H1 D=none->H2 D=some (.lst (wv os))->os.Perm ws->Srt os->Q (.ref D) H2:=rfl
def N2        (hr:Room (k+3) X.A)(hg:Gl X "sorted")(hm:X.mg "sorted"=none)(jd:X.mg "len"=none)(fh:X.env.code=.ref c)(C:si X.base c P)(qy:BmOk X.mg X.base)
  (ha:PA X [e] ta) (hq:X.env.qual=qual:=by rfl)
  (he:backTo pos (starEach [e] X.env)=(false,eval e X.env)::backTo pos (starEach [] X.env):=by rfl) (iz:(backTo pos (starEach [e] X.env)).any (·.1)=false:=by rfl):
  PE X (.Call (.Name "sorted" p) [e] [⟨some "key",.Lambda (lamA ap) (lamB p1 p2 p3 p4 p5) lamS lp,kp⟩] pos) (M5 X.K P lp qual ta):=by
 intro ae s σ H Q I h
 subst hq
 refine xw_ (DW I hg hm rfl ?_)
 refine callWith_kw ?_ he iz
 refine thn (ha pos ae s σ H _ I h) fun us s1 ⟨vs,H1,I1,r1,q1⟩=>?_
 obtain⟨l,ws,rfl,hl,hW,hz,hP,q⟩:=q1
 obtain⟨ps,hP1⟩:=hP.is
 obtain⟨u1,rfl,rx⟩:=vals1 r1
 cases rx
 refine kws_cons (Qs I1 fh C hP qy rfl rfl fun f c' oc vs t iJ H2 s2 I2 oy hT2 cL hd hv=>kws_nil ?_)
 show wpAny (model X.prog X.w) X.A (call (.builtin "sorted") [.ref l] [(Str.ofString "key",.ref f)]) _ _ s2
 have nP:∀b ys,SqT X.K H1 b ys->SqT X.K H2 b ys:=fun b ys=>oy.tsq hP1
 have bJ:SqL X.K H2 l (wv ws):=oy.lsq hP1 hl
 refine RW I2 (by have:=hr.un;lia) bJ hz (fun w hw=>nP _ _ (hW w hw)) (fun w hw H' s' I' hS=>?_) (fun s' H' D os I' g1 g2 g3 g4 g5=>?_)
 ·have hf:=(I'.pin _ (jy_ _ (jy_ _ (jo_)))).1
  have jA:s'.heap.get? c'=some oc:=(I'.hok c' _ (hS _ _ cL)).1
  have nz:s'.heap.CodeRec (.ref c') (X.env.qual ++ "<lambda>"):=⟨c',oc,vs,t,rfl,jA,hd,hv⟩
  have qB:SqT X.K H' w.1 (w.2.map V.int):=hS.seqT (nP _ _ (hW w hw))
  refine wpAny_call (codeAny_mono (V2 (k:=k) (N:=["word"]) (ps:=["word"]) (vs:=[.ref w.1]) (us:=[.ref w.1]) (E:=fun _ _ _=>False) (Q:=fun kv i4=>∃t,kv=.ref t/\Same H' i4/\SqT X.K i4 t [.int w.2.length,.ref w.1]) RX hr.in1.in1 I'.env0.in1.in1 hf nz rfl (.cons rfl .nil) rfl
   (Bs (Aa (Aq Aj rfl jd rfl (Aa (pv 0) Ad)) (Aa (pv 0) Ad))) ?_) fun r s2 hq=>?_)
  ·refine⟨.ref w.1,rfl,w.1,w.2.map V.int,rfl,.inr qB,.ref w.1,rfl,?_,fun p hp=>?_⟩
   ·show 2<=sizeLine
    decide
   ·rw[ja_]
    exact⟨p,rfl,Same.new hp,.inl (.inl Ab)⟩
  ·cases r with
   |error e=>exact hq.elim
   |ok fl=>
    cases fl with
    |ret u=>exact I'.after hq
    |next=>exact sj hq
    |brk=>exact sj hq
    |cont=>exact sj hq
 ·exact⟨.ref D,H',I'.unpinned,rfl,q H' D os (oy.trans (BR.of g1)) (.inr ⟨c',oc,vs,t,g1 _ _ hT2,g1 _ _ cL,hd,hv⟩) (oy.none hT2 g2) g3 g4 g5⟩
end L2
namespace L2
open PySem PySem.Spec PyProof.Rows
def EqsD (K:α3)(H:Hp)(n:Nat)(xs:List V)(x:V)(e:Nat->Bool):Prop:=(∀(i:Nat) (v:V),xs[i]?=some v->∃a,v=.ref a/\EqD K H n v x (e i))/\∀(i j:Nat) (v:V),xs[i]?=some v->xs[j]?=some v->e i=e j
noncomputable def evG (xs:List V)(e:Nat->Bool)(y:Value):Bool := @decide (∃(i:Nat) (a:Addr),y=.ref a/\xs[i]?=some (.ref a)/\e i=true) (sG _)
def K0 {K:α3}      (h:EqsD K H n xs x e)   (hx:xs[i]?=some (.ref a)):evG xs e (.ref a)=e i:=by
 rw[qy_]
 unfold evG
 rw[@decide_eq_true_iff _ (sG _)]
 constructor
 ·rintro⟨j,b,hb,qC,nA⟩
  cases hb
  rw[h.2 i j _ hx qC];exact nA
 ·intro he
  exact⟨i,a,rfl,hx,he⟩
def rInG (K:α3)(n:Nat)(jX:Bool):R2:=fun x y H Q=>∃p t xs e,y=.ref p/\x=.ref t/\SqL K H p xs/\EqsD K H n xs x e/\Q (.bl (if jX then !((rY xs.length).any e) else (rY xs.length).any e)) H
theorem V3 {K:α3}      : rInG K n jX x y H Q=∃p t xs e,y=.ref p/\x=.ref t/\SqL K H p xs/\EqsD K H n xs x e/\Q (.bl (if jX then !((rY xs.length).any e) else (rY xs.length).any e)) H:=rfl
def RZ          (hu:X.A.units+n+1<cLine)(I:Inv X ae σ H s)(hp:SqL X.K H p xs)(hE:EqsD X.K H n xs (.ref t) e):
  ∃(its:Array Value),s.heap.IsList p its/\(∀y,y∈its->SeqAt.EqAt X.A.in1 s y (.ref t) (evG xs e y))/\its.any (evG xs e)=(rY xs.length).any e:=by
 obtain⟨its,r,pl,_⟩:=I.list hp
 have hl:=r.length
 refine⟨its.toArray,pl.isList,fun y hy=>?_,?_⟩
 ·have hy':y∈its:=by simpa using hy
  obtain⟨i,hi,ei⟩:=jN_ hy'
  have gZ:i<xs.length:=by lia
  obtain⟨u,jD,ru⟩:=r.get (i:=i) (x:=xs[i]) (by simp[gZ])
  rw[jh_ hi,ei]at jD
  cases jD
  obtain⟨a,e2,e3⟩:=hE.1 i xs[i] (by simp[gZ])
  rw[e2]at ru e3
  cases ru
  rw[K0 hE (i:=i) (by rw[jh_ gZ,e2])]
  exact (EqD.at (x:=V.ref a) (y:=V.ref t) I n X.A.in1 (by rw[in1_units];lia) rfl rfl e3).1
 ·rw[show its.toArray.any (evG xs e)=its.any (evG xs e) by simp,qy_,xU_,xU_]
  constructor
  ·rintro⟨y,hy,hey⟩
   obtain⟨j,b,_,qC,nA⟩:=(@decide_eq_true_iff _ (sG _)).mp hey
   exact⟨j,jC_.mpr (jb_.mp qC).1,nA⟩
  ·rintro⟨i,hi,iF⟩
   have hi:=jC_.mp hi
   obtain⟨a,e2,e3⟩:=hE.1 i xs[i] (by simp[hi])
   have hx:xs[i]?=some (.ref a):=by rw[jh_ hi,e2]
   obtain⟨u,jD,ru⟩:=r.get hx
   cases ru
   exact⟨.ref a,jd_ jD,by rw[K0 hE hx];exact iF⟩
def hu45  (h:u+8<cLine):u+4+1<cLine:=by lia
def hu46  (h:u+8<cLine):u+4+2<cLine:=by lia
def Qt  (n:Nat)(hu:X.A.units+n+1<cLine):OpR X (compareOp .NotIn) (rInG X.K n true):=by
 intro ae s σ H x y v u Q I rx ry h
 obtain⟨p,t,xs,e,rfl,rfl,hp,hw,q⟩:=h
 cases ry
 cases rx
 obtain⟨its,h1,h2,h3⟩:=RZ hu I hp hw
 refine SeqAt.notIn_listAt _ h1 h2 ⟨.bl _,H,I,rfl,?_⟩
 rw[h3]
 exact q
def L5 (K:α3)(n:Nat):V->List V->Hp->VK->Prop:=fun x vs H Q=>∃l xs t e m,x=.ref l/\vs=[.ref t]/\H l=some (.lst xs)/\EqsD K H n xs (.ref t) e/\m<xs.length/\e m=true/\(∀j,j<m->e j=false)/\xs.length<1000000/\Q (.int (m:Nat)) H
theorem M6 {K:α3}      : L5 K n x vs H Q=∃l xs t e m,x=.ref l/\vs=[.ref t]/\H l=some (.lst xs)/\EqsD K H n xs (.ref t) e/\m<xs.length/\e m=true/\(∀j,j<m->e j=false)/\xs.length<1000000/\Q (.int (m:Nat)) H:=rfl
def Qu  (n:Nat)(hu:X.A.units+n+2<cLine):MtM X "list.index" (L5 X.K n):=by
 intro ae s σ H x vs v us Q I rx rv h
 obtain⟨l,xs,t,e,m,rfl,rfl,hH,hE,hm,hem,nA,ar,q⟩:=h
 cases rx
 obtain⟨u,rfl,ry⟩:=vals1 rv
 cases ry
 obtain⟨zz,its,k,r,hl,eo⟩:=I.lstM hH
 have cW:xs.length=its.length:=r.length
 have get:∀(j:Nat) (hj:j<its.toArray.size),∃(a:Addr),its.toArray[j]=.ref a/\xs[j]?=some (.ref a)/\EqD X.K H n (.ref a) (.ref t) (e j):=fun j hj=>by
  have cn:j<xs.length:=by rw[jq_]at hj;lia
  obtain⟨a,e2,e3⟩:=hE.1 j xs[j] (by simp[cn])
  rw[e2]at e3
  have hx:xs[j]?=some (.ref a):=by rw[jh_ cn,e2]
  obtain⟨w',f1,f2⟩:=r.get hx
  have e4:its.toArray[j]=w':=by
   have:its[j]?=some its.toArray[j]:=by simp at hj;simp[hj]
   rw[f1]at this
   exact (js_ this).symm
  cases f2
  exact⟨a,e4,hx,e3⟩
 have ng:m<its.toArray.size:=by rw[jq_];lia
 refine xL_ F.slot_list_index ⟨_,eo,rfl⟩ F.entry_list_index (F.args_list_index_2 _ _) (SeqAt.list_indexAt l its.toArray k none #[] (.ref t) (evG xs e) m ng s!"" ?_ fun j hj hjm=>?_) ⟨eo,fun y hy=>?_,?_⟩
 ·obtain⟨a,e1,e2,e3⟩:=get _ ng
  rw[e1,K0 hE e2];exact hem
 ·obtain⟨a,e1,e2,e3⟩:=get j hj
  rw[e1,K0 hE e2];exact nA j hjm
 ·obtain⟨j,hj,ej⟩:=jN_ (show y∈its by simpa using hy)
  obtain⟨a,e1,e2,e3⟩:=get j (by rw[jq_];exact hj)
  have:y=.ref a:=by rw[<-ej,<-e1];simp
  rw[this,K0 hE e2]
  exact (EqD.at (x:=V.ref a) (y:=V.ref t) I n _ (by rw[in1_units];lia) rfl rfl e3).1
 ·exact⟨.int (m:Nat),H,I.tok _,⟨_,rfl⟩,q⟩
def N3  {K:α3}(h:X.K=K)(n:Nat)(hu:X.A.units+n+2<cLine):MtR X "list.index" (L5 K n):=by subst h;exact Qu n hu
structure Cal (P:Program)(w:World)(K:α3)(mg:Str->α5)(base:Heap)(CX:CXT)(k:Nat)(x:Str)(st:Stmt)(ps:List Str)(sp:Sp)(f:Addr)(fd:α6):Prop where
 g:FnOk P w K mg base CX k f fd ps sp
 F:Fun K x x st f fd
 b:Binds K fd ps []
 m:mg x=some (.ref f)
def Room.d   (r:Room k A)(h:j<=k:=by decide):Room j A:=r.mono h
def Ai          {st:Stmt}     (q:Cal X.prog X.w X.K X.mg X.base CX k x st ps sp f fd)(hr:Room k X.A)(hx:Mr CX X E)
  (ha:PA X (e::es) t) (hg:Gl X x:=by rfl) (jV:(x==("__debug__" : Str))=false:=by decide) (he:starEach (e::es) X.env=(false,eval e X.env)::starEach es X.env:=by rfl) (iz:(backTo pos (starEach es X.env)).any (·.1)=false:=by rfl):
  PE X (.Call (.Name x p) (e::es) [] pos) (Ty sp [] E t):=Tz q.g hr hg q.m q.F.kp q.b .nil hx ha jV he iz
abbrev HA (K:α3)(x:Str)(f:Addr):Prop:=nsIn K mainGlobals x=some (some (.ref f))
abbrev HL (K:α3)(x:Str)(st:Stmt)(f:Addr)(oc:Value)(od:Option Addr)(kV dc pm:Value)(an:Option Addr)(cd ct:Value)(sl:Array (α5)):Prop:=K.lookup f=some ⟨oc,od,.func (fnOf x x (CY st) (Cu st) (Al st) .none kV dc pm an cd ct),sl⟩
structure HF (K:α3)(x:Str)(st:Stmt)(f:Addr)(fd:α6):Prop where
 a:nsIn K mainGlobals x=some (some (.ref f))
 F:Fun K x x st f fd
structure Wh (P:Program)(w:World)(K:α3)(mg:Str->α5)(base:Heap):Prop where
 m:∀(x:Str) (f:Addr),nsIn K mainGlobals x=some (some (.ref f))->mg x=some (.ref f)
def HF.c   {K:α3}      {st:Stmt}     (h:HF K x st f fd)(Z:Wh P w K mg base)(g:FnOk P w K mg base CX k f fd ps sp)
  (e:∀(kV bN pm:Value) (an:Option Addr) (aA ct:Value) (us:List Value),us.length=ps.length->bindArgs (fnOf x x (CY st) (Cu st) (Al st) .none kV bN pm an aA ct) ⟨us,[]⟩=pure (ps.zip us):=by
   intro _ _ _ _ _ _ us hl;first|(obtain⟨_,rfl⟩:=len1 hl;rfl)|(obtain⟨_,_,rfl⟩:=len2 hl;rfl)|(obtain⟨_,_,_,rfl⟩:=len3 hl;rfl)|(obtain⟨_,_,_,_,rfl⟩:=len4 hl;rfl)):Cal P w K mg base CX k x st ps sp f fd:=⟨g,h.F,h.F.binds e,Z.m _ _ h.a⟩
def HF.b {K:α3}  {st:Stmt}   (h:HF K x st f fd)(e:∀(kV bN pm:Value) (an:Option Addr) (aA ct v:Value),bindArgs (fnOf x x (CY st) (Cu st) (Al st) .none kV bN pm an aA ct) ⟨[v],[]⟩=pure [(p,v)])(s:Shared)(v:Value):BindsTo s fd ⟨[v],[]⟩ [(p,v)]:=by
 obtain⟨_,_,_,_,_,_,_,_,_,rfl,_,_⟩:=h.F.ex
 exact .of_eq (e _ _ _ _ _ _ _)
end L2
namespace Mine
open PySem L2 GW GB
local macro_rules | `(tactic| walk_at "rd") => `(tactic| (try dsimp only[↓SY,Qf,↓r_ID,↓VF,SZ,↓r_BD,VH,↓VL,↓VM,S1,S2,S3,VJ,↓S6,↓S7,S4,S5,↓S8,Qh,↓Va,↓So,↓Vb,↓OX,↓Vc,↓r_c,↓r_op,↓r_un,↓r_I,↓r_I0,↓r_U,↓Sq,↓Sr,↓Vd,↓Ve,↓Ss,↓r_if,↓r_B,↓Su,↓Vf,↓r_or,↓Vg,↓OY,↓r_CB,↓Vh,↓Vi,↓Vj,↓Vk,↓r_sl,↓Sv,↓MA,↓Vq,↓r_BM,↓MB,↓Sw,↓Sx,↓r_Eq,↓r_Ne,↓OZ,↓Sy,↓O0,↓Vl,↓r_ip,↓Sz,↓SA,↓Vn,↓ME,↓Vr,↓Vs,↓MF,↓Pg,↓KD,↓SH,↓Pa,↓SI,↓SJ,↓MG,↓SK,↓Pb,↓SL,↓MK,↓ML,↓r_in,↓SC,↓KJ,↓PY,Vw,↓KO,KZ,V3,M6,↓SX,↓MQ,↓Pu,↓Px,↓MS,↓PP,Vm,L2.start,jZ_,xX_,jU_,qn_,zh_,xY_,rX,zs_,List.getElem?_cons_succ,zv_,List.set_cons_succ,scal])<;>(try simp only[↓SY,Qf,↓r_ID,↓VF,SZ,↓r_BD,VH,↓VL,↓VM,S1,S2,S3,VJ,↓S6,↓S7,S4,S5,↓S8,Qh,Ul,VI,Up,RI,Qg,↓Va,↓So,↓Vb,↓OX,↓Vc,↓r_c,↓r_op,↓r_un,↓r_I,↓r_I0,↓r_U,↓Sq,↓Sr,↓Vd,↓Ve,↓Ss,↓r_if,↓r_B,↓Su,↓Vf,↓r_or,↓Vg,↓OY,↓r_CB,↓Vh,↓Vi,↓Vj,↓Vk,↓r_sl,↓Sv,↓MA,↓Vq,↓r_BM,↓MB,↓Sw,↓Sx,↓r_Eq,↓r_Ne,↓OZ,↓Sy,↓O0,↓Vl,↓r_ip,↓Sz,↓SA,↓Vn,↓ME,↓Vr,↓Vs,↓MF,↓Pg,↓KD,↓SH,↓Pa,↓SI,↓SJ,↓MG,↓SK,↓Pb,↓SL,↓MK,↓ML,↓r_in,↓SC,↓KJ,↓PY,Vw,↓KO,KZ,V3,M6,↓SX,↓MQ,↓Pu,↓Px,↓MS,↓PP,Vm,L2.start,jZ_,xX_,jU_,qn_,zh_,xY_,ql_,rX,zs_,List.getElem?_cons_succ,zv_,List.set_cons_succ,zD_,V.int.injEq,V.str.injEq,V.ref.injEq,V.bl.injEq,xO_,and_true,true_and,and_assoc,exists_and_left,exists_eq_left',exists_eq_left,exists_eq_right,exists_eq,xW_,qX_,jT_,qs_,scal,Nat.reduceAdd,Nat.reduceSub,reduceCtorEq,wk_,wb_]))
local macro_rules|`(tactic|nofun)=>`(tactic|walk_at "rd")
set_option hygiene false in
local macro_rules|`(tactic|delta $x:ident)=>`(tactic|refine F.ok $x (fun vs H Q E h=>?_) (fun aA A outer s H vs Q E hr h=>?_))
set_option hygiene false in
local macro_rules|`(nofun)=>`(FnOk P w K mg base CX0)
set_option hygiene false in
local macro_rules|`(⋯)=>`(Cal P w K mg base CX0)
local macro_rules | `(tactic| walk_at "sc") => `(tactic| exact⟨rfl,rfl,rfl,by decide +kernel,rfl,by decide +kernel,by decide +kernel⟩)
def top (i:Nat):Stmt:=PySem.Challenge.pw_guessroom_k28_whole_suites_decide.main.body.getD i (.Pass ⟨0,0,0,0⟩)
abbrev Fz:Stmt:=top 4
def N4:FnScope ["letters","word"] ["letters","word"] (Al Fz):=by walk_at "sc"
abbrev BM:Stmt:=top 5
def JU:FnScope ["letters","word"] ["letters","word"] (Al BM):=by walk_at "sc"
abbrev Dq:Stmt:=top 6
def Ed:FnScope ["letters","word","kept"] ["letters","word"] (Al Dq):=by walk_at "sc"
abbrev EH:Stmt:=top 7
def Dr:FnScope ["letters","most","words","word"] ["letters","most"] (Al EH):=by walk_at "sc"
abbrev JV:Stmt:=top 9
def G9:FnScope ["house","word","ways","rooms","letter"] ["house","word"] (Al JV):=by walk_at "sc"
abbrev BV:Stmt:=top 10
def Iy:FnScope ["house","word"] ["house","word"] (Al BV):=by walk_at "sc"
abbrev BW:Stmt:=top 11
def Iz:FnScope ["house","word"] ["house","word"] (Al BW):=by walk_at "sc"
abbrev C6:Stmt:=top 13
def By:FnScope ["house","words","rooms","walked","room","letter","goal"] ["house"] (Al C6):=by walk_at "sc"
abbrev FA:Stmt:=top 14
def IZ:FnScope ["house","words"] ["house"] (Al FA):=by walk_at "sc"
abbrev Ee:Stmt:=top 15
def N5:FnScope ["house"] ["house"] (Al Ee):=by walk_at "sc"
abbrev EI:Stmt:=top 17
def Fe:FnScope ["row","numbers","thing"] ["row"] (Al EI):=by walk_at "sc"
abbrev A4:Stmt:=top 18
def Av:FnScope ["house","words","marks_behind","classes","walked","letter","marks","finer"] ["house"] (Al A4):=by walk_at "sc"
abbrev Ef:Stmt:=top 19
def N6:FnScope ["house"] ["house"] (Al Ef):=by walk_at "sc"
abbrev CS:Stmt:=top 20
def JW:FnScope ["house"] ["house"] (Al CS):=by walk_at "sc"
abbrev JX:Stmt:=top 22
def FC:FnScope ["house","classes","numbers","told","room"] ["house"] (Al JX):=by walk_at "sc"
abbrev HJ:Stmt:=top 23
def FD:FnScope ["house","home_of","marks","ways","room"] ["house"] (Al HJ):=by walk_at "sc"
abbrev Cd:Stmt:=top 25
def Ff:FnScope ["words","once","word"] ["words"] (Al Cd):=by walk_at "sc"
abbrev A6:Stmt:=top 26
def AW:FnScope ["house","word","rooms","letter"] ["house","word"] (Al A6):=by walk_at "sc"
abbrev CA:Stmt:=top 27
def Bg:FnScope ["words","marks_behind","room","own","left","word","marks","still"] ["words","marks_behind","room"] (Al CA):=by walk_at "sc"
abbrev A7:Stmt:=top 28
def Br:FnScope ["house","words","marks_behind"] ["house"] (Al A7):=by walk_at "sc"
abbrev Co:Stmt:=top 29
def BX:FnScope ["base","more","ends","words","way","middle","first"] ["base","more","ends"] (Al Co):=by walk_at "sc"
abbrev JY:Stmt:=top 30
def JZ:FnScope ["house","more","base","words"] ["house","more"] (Al JY):=by walk_at "sc"
abbrev M7:Stmt:=top 31
def Qv:FnScope ["house","more","base"] ["house","more"] (Al M7):=by walk_at "sc"
abbrev Ds:Stmt:=top 32
def K1:FnScope ["house","words"] ["house","words"] (Al Ds):=by walk_at "sc"
abbrev Cg:Stmt:=top 33
def CH:FnScope ["house","some","trial"] ["house","some"] (Al Cg):=by walk_at "sc"
abbrev Ha:Stmt:=top 34
def Qw:FnScope ["house","some"] ["house","some"] (Al Ha):=by walk_at "sc"
abbrev Bh:Stmt:=top 36
def HK:FnScope ["script","k"] ["script","k"] (Al Bh):=by walk_at "sc"
abbrev Bz:Stmt:=top 37
def Dt:FnScope ["number","k","many","turn"] ["number","k","many"] (Al Bz):=by walk_at "sc"
abbrev BY:Stmt:=top 38
def AG:FnScope ["number","rooms","way","top","marks","room","mark"] ["number","rooms"] (Al BY):=by walk_at "sc"
abbrev Ci:Stmt:=top 39
def AC:FnScope ["script","letters","rooms","shape","ways","room","row","letter","k","goal"] ["script","letters","rooms"] (Al Ci):=by walk_at "sc"
abbrev Cp:Stmt:=top 40
def AX:FnScope ["house","number","rooms","small","fold","ways","room","row","letter","goal","twins"] ["house","number","rooms"] (Al Cp):=by walk_at "sc"
abbrev BZ:Stmt:=top 41
def AL:FnScope ["script","letters","rooms","marks","house","number"] ["script"] (Al BZ):=by walk_at "sc"
abbrev Cj:Stmt:=top 42
def Eg:FnScope ["script","house","number"] ["script","house"] (Al Cj):=by walk_at "sc"
abbrev B0:Stmt:=top 43
def A9:FnScope ["house","row","at","here","goal"] ["house"] (Al B0):=by walk_at "sc"
abbrev Ck:Stmt:=top 44
def Bn:FnScope ["house","number","marks","ways","room","letter","same"] ["house","number"] (Al Ck):=by walk_at "sc"
abbrev BI:Stmt:=top 45
def AZ:FnScope ["house","number","rooms","order","marks","ways","room"] ["house","number"] (Al BI):=by walk_at "sc"
abbrev Cl:Stmt:=top 46
def A5:FnScope ["house","row","turn","keys","known","key"] ["house"] (Al Cl):=by walk_at "sc"
abbrev Du:Stmt:=top 47
def BA:FnScope ["house","row","order","first","room","number","ways"] ["house"] (Al Du):=by walk_at "sc"
abbrev B1:Stmt:=top 48
def AD:FnScope ["house","script","many","base","number","way","most","rooms","marks","ways","rival"] ["house","script","many"] (Al B1):=by walk_at "sc"
abbrev B2:Stmt:=top 49
def AM:FnScope ["house","other","known","row","at","here","letter","goal"] ["house","other"] (Al B2):=by walk_at "sc"
abbrev Uz:Stmt:=top 50
def FE:FnScope ["script","house","many","rival","due","pair","words","told"] ["script"] (Al Uz):=by walk_at "sc"
abbrev FF:Pos:=⟨105,34,105,64⟩
def HN:Caps:=[("letter",none),("letters",some 0)]
def IA:(Caps.names HN).Nodup:=by decide +kernel
def HP:Caps:=[("room",none),("words",some 1)]
def IB:(Caps.names HP).Nodup:=by decide +kernel
def Gw:Caps:=[("thing",none),("numbers",some 1)]
def HQ:(Caps.names Gw).Nodup:=by decide +kernel
def Cq:Caps:=[("goals",none),("marks_behind",some 2),("walked",some 4),("letter",some 5)]
def C7:(Caps.names Cq).Nodup:=by decide +kernel
def K2:Caps:=[("goal",none),("home_of",some 1)]
def K3:(Caps.names K2).Nodup:=by decide +kernel
def BN:Caps:=[("room",none),("letter",some 3),("house",some 0)]
def CI:(Caps.names BN).Nodup:=by decide +kernel
def BO:Caps:=[("room",none),("house",some 0)]
def CJ:(Caps.names BO).Nodup:=by decide +kernel
def Eh:Caps:=[("other",none),("marks",some 6),("room",some 2)]
def FG:(Caps.names Eh).Nodup:=by decide +kernel
def BP:Caps:=[("word",none),("house",some 0)]
def CK:(Caps.names BP).Nodup:=by decide +kernel
def BQ:Caps:=[("room",none),("words",some 1),("marks_behind",some 2)]
def CL:(Caps.names BQ).Nodup:=by decide +kernel
def EX:Caps:=[("end",none),("first",some 6)]
def Ga:(Caps.names EX).Nodup:=by decide +kernel
def K4:Caps:=[("mark",none),("words",some 3)]
def K5:(Caps.names K4).Nodup:=by decide +kernel
def FH:Caps:=[("word",none),("house",some 0)]
def GH:(Caps.names FH).Nodup:=by decide +kernel
def EY:Caps:=[("twin",none),("goal",some 9),("fold",some 4)]
def Gb:(Caps.names EY).Nodup:=by decide +kernel
def EZ:Caps:=[("room",none),("house",some 0)]
def Gc:(Caps.names EZ).Nodup:=by decide +kernel
def DF:Caps:=[("row",none)]
def Fg:(Caps.names DF).Nodup:=by decide +kernel
def DG:Caps:=[("goal",none),("marks",some 2),("letter",some 5),("ways",some 3),("room",some 4)]
def Fh:(Caps.names DG).Nodup:=by decide +kernel
def DH:Caps:=[("row",none)]
def Fi:(Caps.names DH).Nodup:=by decide +kernel
def CT:Caps:=[("room",none),("number",some 1),("rooms",some 2)]
def Ei:(Caps.names CT).Nodup:=by decide +kernel
def CU:Caps:=[("goal",none),("order",some 3)]
def Ej:(Caps.names CU).Nodup:=by decide +kernel
def DI:Caps:=[("room",none),("row",some 1),("house",some 0)]
def Fj:(Caps.names DI).Nodup:=by decide +kernel
def DJ:Caps:=[("goal",none),("row",some 1)]
def Fk:(Caps.names DJ).Nodup:=by decide +kernel
def DK:Caps:=[("key",none),("known",some 4)]
def Fl:(Caps.names DK).Nodup:=by decide +kernel
def FJ:Caps:=[("seen",none),("row",some 1)]
def GI:(Caps.names FJ).Nodup:=by decide +kernel
def FK:Caps:=[("room",none),("row",some 1)]
def GJ:(Caps.names FK).Nodup:=by decide +kernel
def FL:Caps:=[("room",none),("number",some 5),("row",some 1),("house",some 0)]
def GK:(Caps.names FL).Nodup:=by decide +kernel
def FM:Caps:=[("goal",none),("number",some 1),("row",some 2)]
def GL:(Caps.names FM).Nodup:=by decide +kernel
def E1:Caps:=[("room",none),("house",some 0)]
def Gd:(Caps.names E1).Nodup:=by decide +kernel
def C8:Caps:=[("room",none),("house",some 0),("number",some 4)]
def EN:(Caps.names C8).Nodup:=by decide +kernel
def C9:Caps:=[("room",none),("rooms",some 7),("number",some 4),("house",some 0)]
def EO:(Caps.names C9).Nodup:=by decide +kernel
def Da:Caps:=[("k",none),("rooms",some 1),("number",some 2),("room",some 0)]
def EQ:(Caps.names Da).Nodup:=by decide +kernel
def Db:Caps:=[("row",none)]
def ER:(Caps.names Db).Nodup:=by decide +kernel
structure Txt (mg:Str->α5):Prop where
 all:mg "all"=none
 bool:mg "bool"=none
 enumerate:mg "enumerate"=none
 isinstance:mg "isinstance"=none
 len:mg "len"=none
 list:mg "list"=none
 max:mg "max"=none
 min:mg "min"=none
 range:mg "range"=none
 sorted:mg "sorted"=none
 tuple:mg "tuple"=none
 zip:mg "zip"=none
section
variable {P:Program} {w:World} {K:α3} {mg:Str->α5} {base:Heap}
def I0 (K:α3):Sp:=fun vs H Q _=>∃(L:Int) (a:Addr) (ws:α2),vs=[.int L,.ref a]/\SqT K H a (ws.map V.int)/\ws.length<=1000/\∀H',Same H H'->Q (.bl (isW L ws)) H'
def N7   (F:Fun K "is_word" "is_word" Fz f fd)(T:Txt mg)
  : nofun 1 f fd ["letters","word"] (I0 K):=by
 delta N4
 ·obtain⟨L,a,ws,rfl,_⟩:=h;rfl
 ·obtain⟨L,a,ws,rfl,hw,hz,k⟩:=h
  have hl:=Ar
  refine⟨_,(Af (AE (Aq (Q7 rfl) rfl T.all wB (Aa (A1 rfl (A2 rfl) (cp:=HN) ⟨⟨rfl,rfl⟩,rZ⟩ (EU (pvD 1)) (fun _ _ _ _=>(Am (i:=0) IA rfl (r9 rfl))) (fun _ _ _ _=>Bc) (fun _ _ _ _=>(QX UT Hg Ae (pvD 0) (pvD 1)))) Ad)))),?_⟩
  nofun
  refine⟨⟨_,hw⟩,EC (af:=[some (.int L)]) (fun x=>match x with | .int n=>.bl (inW L n)|_=>.non) rfl hw (by rw[ja_];lia) (fun x hx R hR=>?_) (fun D hD=>?_)⟩
  ·obtain⟨n,_,rfl⟩:=CO hx
   nofun
   by_cases h0:0<=n
   ·simp only[h0,xW_]
    simpa [inW,h0] using hR
   ·simp only[h0,qX_]
    simpa [inW,h0] using hR
  ·refine⟨D,rfl,ws.map (inW L),.inl (.inl ?_),?_⟩
   ·rw[Ab,jW_,jW_];rfl
   ·have:=k _ (Same.new hD (o:=.lst ((ws.map V.int).map fun x=>match x with | .int n=>.bl (inW L n)|_=>.non)))
    simpa [isW,List.all_map] using this
def Hb (K:α3):Sp:=fun vs H Q E=>∃(L:Int) (a:Addr) (ws:α2),vs=[.int L,.ref a]/\SqT K H a (ws.map V.int)/\ws.length<=1000/\(isW L ws=true->∀H',Same H H'->Q .non H')/\(isW L ws=false->False)
def J3   (F:Fun K "check_word" "check_word" BM f fd)(T:Txt mg)
   (kl:⋯ 1 "is_word" Fz ["letters","word"] (I0 K) K6 Ja)
  : nofun 2 f fd ["letters","word"] (Hb K):=by
 delta JU
 ·obtain⟨L,a,ws,rfl,_⟩:=h;rfl
 ·obtain⟨L,a,ws,rfl,hw,hz,k,kE⟩:=h
  have hl:=Ar
  refine⟨_,(Af (BF (Sf (ptB (Se (Ai kl hr.d AI (Aa (pvD 0) (Aa (pvD 1) Ad))))))
   (Af QS)
   AH)),?_⟩
  nofun
  refine⟨L,a,ws,rfl,hw,hz,fun H' s'=>?_⟩
  nofun
  cases hv:isW L ws with
  |true=>
   simp only[wk_,jT_,qX_]
   exact k hv H' s'
  |false=>
   simp only[wb_,xW_]
   exact (kE hv).elim
def M8 (K:α3):Sp:=fun vs H Q E=>∃(L:Int) (a:Addr) (ws:α2),vs=[.int L,.ref a]/\SqT K H a (ws.map V.int)/\ws.length<=990/\(isW L ws=true->∀p H',Same H H'->H' p=some (.tup ((D7 L ws).map V.int))->Q (.ref p) H')/\(isW L ws=false->False)
def K7   (F:Fun K "next_word" "next_word" Dq f fd)(T:Txt mg)
   (du:⋯ 2 "check_word" BM ["letters","word"] (Hb K) CV CB)
  : nofun 3 f fd ["letters","word"] (M8 K):=by
 delta Ed
 ·obtain⟨L,a,ws,rfl,_⟩:=h;rfl
 ·obtain⟨L,a,ws,rfl,hw,hz,k',kE⟩:=h
  have hl:=Ar
  refine⟨_,(Ac (A8 (Ai du hr.d AI (Aa (pvD 0) (Aa (pvD 1) Ad))))
   (Ac (Ak (i:=2) Ed.nd (Aq (lenD Aj) (by rfl) T.len jH_ (Aa (pvD 1) Ad)))
   (Ac (Df jI_ (PW.pt (Gn (ptT (As (opD0 Tv) (pvD 2) Ae (AF _))) (DX (ptT (As (opE B6) (Ag (ixTD Ao) (pvD 1) (An (opD0 CM) (pvD 2) Ae)) (An (opD0 CM) (pvD 0) Ae) (AF _))))))
   (Af (Oq (i:=2) Ed.nd rfl (r9 rfl) Ae UP)))
   (Ac (BF (ptT (As (opE B6) (pvD 2) Ae (AF _)))
   (Af (AE (An O5 (Bs (Aa Ae Ad)) (An (opD0 AU) (Aq (lenD Aj) (by rfl) T.len jH_ (Aa (pvD 1) Ad)) Ae))))
   AH)
   (Af (AE (An ED (An ED (Q1 U0 (pvD 1) TB (TC (An (opD0 CM) (pvD 2) Ae))) (Bs (Aa (An (opD0 AU) (Ag (ixTD Ao) (pvD 1) (An (opD0 CM) (pvD 2) Ae)) Ae) Ad))) (An O5 (Bs (Aa Ae Ad)) (An (opD0 CM) (Aq (lenD Aj) (by rfl) T.len jH_ (Aa (pvD 1) Ad)) (pvD 2)))))))))),?_⟩
  nofun
  refine⟨L,a,ws,rfl,hw,by lia,fun hv H1 s1=>?_,kE⟩
  have k:=k' hv
  nofun
  have d7:=s1.seqT hw
  refine⟨_,.inr d7,?_⟩
  rw[ja_]
  obtain⟨Pv,aq⟩:∃Pv:Nat->St->Hp->Prop,∀m ai H2,Pv m ai H2↔(H2=H1/\∃kept:Nat,m=kept/\kept<=ws.length/\(∀j,kept<=j->j<ws.length->ws[j]?=some (L-1))/\ai=[some (.int L),some (.ref a),some (.int kept)]):=⟨_,fun _ _ _=>qq_⟩
  refine Hn Pv ⟨ws.length,(aq _ _ _).mpr ⟨rfl,ws.length,rfl,ji_ _,fun j h1 h2=>absurd h2 s!"",rfl⟩⟩ ?_
  intro m ai H2 hp
  obtain⟨rfl,kept,em,hk,hj,rfl⟩:=(aq _ _ _).mp hp
  nofun
  by_cases h0:0<kept
  ·have ar:kept-1<ws.length:=by lia
   have hx:ws[kept-1]?=some (ws[kept-1]'ar):=by simp[ar]
   have ax:atI (ws.map V.int) ((kept:Int)-1)=some (V.int (ws[kept-1]'ar)):=B7 s!"" (by rw[jf_,show ((kept:Int)-1).toNat=kept-1 by lia,hx];rfl)
   rw[if_pos (show (0:Int)<kept by lia)]
   refine⟨_,d7,_,ax,?_⟩
   nofun
   refine ite2 (fun he=>?_) (fun ay=>?_)
   ·refine⟨fun af H'=>H'=H2/\af=[some (.int L),some (.ref a),some (.int ((kept:Int)-1))],fun af H' h=>?_,rfl,rfl⟩
    obtain⟨rfl,rfl⟩:=h
    refine⟨kept-1,by lia,(aq _ _ _).mpr ⟨rfl,kept-1,rfl,by lia,fun j h1 h2=>?_,by rw[show ((kept-1:Nat):Int)=(kept:Int)-1 by lia]⟩⟩
    by_cases e:j=kept-1
    ·subst e;rw[hx,he]
    ·exact hj j s!"" h2
   ·-- return word[:kept-1]+(word[kept-1]+1,)+(0,) * ..
    rw[if_neg (show ¬ (kept:Int)=0 by lia)]
    have hcut:¬ (HT.sIx (ws.map V.int).length 0 none=0/\HT.sIx (ws.map V.int).length (ws.map V.int).length (some ((kept:Int)-1))=(ws.map V.int).length):=by
     rintro⟨_,h2⟩
     rw[show (kept:Int)-1=((kept-1:Nat):Int) by lia,HT.sIx_nat,ja_]at h2
     lia
    have ecut:cutV (ws.map V.int) none (some ((kept:Int)-1))=(ws.take (kept-1)).map V.int:=by
     rw[Q9]
     unfold cutI
     rw[show (kept:Int)-1=((kept-1:Nat):Int) by lia,HT.sIx_nat,HT.sIx_none,vj,we]
     congr 2
     lia
    refine⟨_,d7,hcut,fun p1 bL=>?_⟩
    rw[ecut]
    have t1:Same H2 (upd H2 p1 (.tup ((ws.take (kept-1)).map V.int))):=Same.new bL
    have q1:(upd H2 p1 (.tup ((ws.take (kept-1)).map V.int))) p1=some (.tup ((ws.take (kept-1)).map V.int)):=Ab
    generalize upd H2 p1 (.tup ((ws.take (kept-1)).map V.int))=H3 at t1 q1 ⊢
    refine⟨_,t1.seqT d7,_,ax,?_⟩
    nofun
    refine⟨by lia,fun p2 aU=>?_⟩
    refine EV.ofS ((Same.new aU) _ _ q1) Ab (by simp;lia) fun p3 H4 t4 q3=>?_
    nofun
    have t5:Same H2 H4:=(t1.newT aU).trans t4
    refine⟨by lia,fun p4 fi=>?_⟩
    have nB:=(Same.new fi (o:=.tup [V.int 0])) _ _ q3
    have w4:=((t5.newT fi (o:=.tup [V.int 0])).seqT d7)
    have t6:=t5.newT fi (o:=.tup [V.int 0])
    have z4:(upd H4 p4 (.tup [V.int 0])) p4=some (.tup [V.int 0]):=Ab
    generalize upd H4 p4 (.tup [V.int 0])=H5 at nB w4 t6 z4 ⊢
    refine⟨_,.inr w4,?_⟩
    refine O4.ofS z4 (by simp) s!"" (by rw[ja_];lia) (by simp;lia) fun p5 H6 t7 q5=>?_
    refine EV.ofS (t7 _ _ nB) q5 (by simp[Ho];lia) fun p6 H7 t8 q6=>?_
    refine k p6 H7 (s1.trans (t6.trans (t7.trans t8))) ?_
    have e:=KB (L:=L) (w:=ws) (k:=kept-1) ar (fun j h1 h2=>hj j s!"" h2) hx (by intro z;exact ay (by rw[z]))
    rw[e]
    rw[Ho]at q6
    have en:(((ws.map V.int).length:Int)-(kept:Int)).toNat=ws.length-(kept-1+1):=by rw[ja_];lia
    rw[en]at q6
    simpa [jS_,zw_] using q6
  ·have h00:kept=0:=by lia
   subst h00
   rw[if_neg s!""]
   nofun
   refine⟨by lia,fun p1 bL=>?_⟩
   refine⟨_,.inr ((Same.new bL).seqT d7),?_⟩
   refine O4.ofS Ab (by simp) s!"" (by rw[ja_];lia) (by simp;lia) fun p5 H6 t7 q5=>?_
   refine k p5 H6 (s1.trans ((Same.new bL).trans t7)) ?_
   rw[LC (L:=L) (w:=ws) hj]
   rw[Ho]at q5
   have en:(((ws.map V.int).length:Int)+1).toNat=ws.length+1:=by rw[ja_];lia
   rw[en]at q5
   simpa [zw_] using q5
def Tb (K:α3):Sp:=fun vs H Q _=>∃(L:Int) (m:Nat),vs=[.int L,.int m]/\1<=L/\L<=6/\m<=8/\many L (m+1)<=4000/\∀p xs H',Same H H'->H p=none->H' p=some (.lst xs)->AA K H' xs ((rY (many L (m+1)).toNat).map (nth L))->Q (.ref p) H'
def L6   (F:Fun K "words_to" "words_to" EH f fd)(T:Txt mg)
   (km:⋯ 3 "next_word" Dq ["letters","word"] (M8 K) HR Gx)
  : nofun 4 f fd ["letters","most"] (Tb K):=by
 delta Dr
 ·obtain⟨L,m,rfl,_⟩:=h;rfl
 ·obtain⟨L,m,rfl,cP,dv,hm,bH,k⟩:=h
  have hl:=Ar
  refine⟨_,(Ac (Ak (i:=2) Dr.nd (Bl Ad))
   (Ac (Ak (i:=3) Dr.nd (Bs Ad))
   (Ac (Df jI_ (ptT (As (opD0 UT) (Aq (lenD Aj) (by rfl) T.len jH_ (Aa (pvD 3) Ad)) (pvD 1) (AF _)))
   (Ac (A8 (C1 jE_ jL_ jM_ AO (pvD 2) (Aa (pvD 3) Ad)))
   (Af (Ak (i:=3) Dr.nd (Ai km hr.d AI (Aa (pvD 0) (Aa (pvD 3) Ad)))))))
   (Af (AE (pvD 2)))))),?_⟩
  nofun
  refine⟨by lia,fun p hp=>⟨by lia,fun t ht=>?_⟩⟩
  have je:p≠t:=fun z=>by rw[<-z,Ab]at ht;cases ht
  obtain⟨Pv,aq⟩:∃Pv:Nat->St->Hp->Prop,∀m' ai H2,Pv m' ai H2↔(∃(n:Nat) (t2:Addr) (xs:List V),m'=((many L (m+1)).toNat-n)/\n<=(many L (m+1)).toNat/\Same H H2/\H2 p=some (.lst xs)/\AA K H2 xs ((rY n).map (nth L))/\H2 t2=some (.tup ((nth L n).map V.int))/\ai=[some (.int L),some (.int m),some (.ref p),some (.ref t2)]):=⟨_,fun _ _ _=>qq_⟩
  refine Hn Pv ⟨_,(aq _ _ _).mpr ⟨0,t,[],rfl,jY_ _,(Same.new hp).newT ht,by rw[Ah je,Ab],AA.nil,Ab,rfl⟩⟩ ?_
  intro m' ai H2 d8
  obtain⟨n,t2,xs,rfl,hn,s2,nE,hW,hT,rfl⟩:=(aq _ _ _).mp d8
  have hv:=C2 (show 0<L by lia) n
  have fE:=EE (show 0<L by lia) hv m
  rw[D8]at fE
  have gi:=Ca (show 0<L by lia) (m+1)
  have cg:=hW.1
  rw[ja_,qi_]at cg
  nofun
  refine⟨_,.inr (SqT.of hT),?_⟩
  rw[ja_]
  refine ite2 (fun bh=>?_) (fun l9=>?_)
  ·have kn:(nth L n).length<=m:=by lia
   have ar:=fE.mp kn
   refine⟨fun af H'=>∃t3 mz,af=[some (.int L),some (.int m),some (.ref p),some (.ref t3)]/\Same H H'/\H' p=some (.lst mz)/\AA K H' mz ((rY (n+1)).map (nth L))/\H' t3=some (.tup ((nth L (n+1)).map V.int)),fun af H' h=>?_,?_⟩
   ·obtain⟨t3,mz,rfl,s3,dy,qD,nF⟩:=h
    exact⟨_,by lia,(aq _ _ _).mpr ⟨n+1,t3,mz,rfl,by lia,s3,dy,qD,nF,rfl⟩⟩
   ·have aj:=Ny (show 0<L by lia) n
    have hT':=TK.lst nE (o:=.lst (xs++[V.ref t2])) _ _ hT
    refine⟨.inl ⟨rfl,_,SqL.of nE⟩,_,nE,by lia,L,t2,nth L n,rfl,SqT.of hT',by lia,fun _ t3 H3 s3 nF=>?_,fun hf=>by rw[hv]at hf;cases hf⟩
    refine⟨t3,xs++[V.ref t2],rfl,(s2.over hp).trans s3,s3 _ _ Ab,?_,nF⟩
    rw[x2_,jS_]
    exact ((hW.mono (TK.lst nE)).snoc hT').mono (TK.of s3)
  ·have bF:¬ (nth L n).length<=m:=by lia
   have hnl:¬ ((n:Int)<many L (m+1)):=fun z=>bF (fE.mpr z)
   have e:n=(many L (m+1)).toNat:=by lia
   subst e
   nofun
   exact k p xs H2 s2 hp nE hW
def M9 (K:α3):Sp:=fun vs H Q E=>∃(h a:Addr) (L:Int) (aa:α2) (ab:α1) (ws:α2),vs=[.ref h,.ref a]/\AV K H h L aa ab/\Wf L aa ab/\SqT K H a (ws.map V.int)/\ws.length<=600/\(isW L ws=true->∀p H',Same H H'->H p=none->H' p=some (.lst ((IK ab ws).map V.int))->Q (.ref p) H')/\(isW L ws=false->False)
def R0   (F:Fun K "trail" "trail" JV f fd)(T:Txt mg)
   (du:⋯ 2 "check_word" BM ["letters","word"] (Hb K) CV CB)
  : nofun 3 f fd ["house","word"] (M9 K):=by
 delta G9
 ·obtain⟨h,a,L,aa,ab,ws,rfl,_⟩:=h;rfl
 ·obtain⟨h,a,L,aa,ab,ws,rfl,hh,wf,hw,hz,k,kE⟩:=h
  have hl:=Ar
  refine⟨_,(Ac (A8 (Ai du hr.d AI (Aa (Ag (ixTD Ao) (pvD 0) Ae) (Aa (pvD 1) Ad))))
   (Ac (Ak (i:=2) G9.nd (Ag (ixTD Ao) (pvD 0) Ae))
   (Ac (Ak (i:=3) G9.nd (Bl (Aa Ae Ad)))
   (Ac (Bo jI_ rfl (EU (pvD 1)) (Am (i:=4) G9.nd rfl (r9 rfl))
   (Af (A8 (C1 jE_ jL_ jM_ AO (pvD 3) (Aa (Ag (ixTD Ao) (Ag (ixTD Ao) (pvD 2) (Ag (ixLD AT) (pvD 3) (US Sj Ae))) (pvD 4)) Ad)))))
   (Af (AE (pvD 3))))))),?_⟩
  nofun
  obtain⟨m,wv,h1,h2,h3⟩:=hh
  refine⟨_,h1,_,rfl,L,a,ws,rfl,hw,by lia,fun hv H1 s1=>?_,kE⟩
  nofun
  have d7:=s1.seqT hw
  have h3':=h3.mono s1
  refine⟨_,s1.seqT h1,_,rfl,by lia,fun p hp=>?_⟩
  have s2:=Same.new hp (o:=.lst [V.int 0])
  refine⟨⟨_,s2.seqT d7⟩,forT (xs:=ws.map V.int) (fun i ai H2=>Same H1 H2/\H2 p=some (.lst (((rY (i+1)).map fun j=>Az ab (ws.take j)).map V.int))/\∃o,ai=[some (.ref h),some (.ref a),some (.ref wv),some (.ref p),o]) ⟨s2,by rw[Ab];simp[Az],none,rfl⟩ (fun i ai H2 _ h=>h.1.seqT d7) (fun i x ai H2 hx h=>?_) (fun ai H2 h=>?_)⟩
  ·obtain⟨s3,dy,o,rfl⟩:=h
   obtain⟨n,hn,rfl⟩:=Cf hx
   have hi:=(jb_.mp hn).1
   have hx:=Aw.mp hv n (jd_ hn)
   have iK:=wf.walk hv i
   obtain⟨row,g,r1,r2,r3,r4,r5⟩:=wf.step iK.1 iK.2 hx.1 hx.2
   obtain⟨xs,t,q1,q2,q3⟩:=(h3'.mono s3).atZ iK.1 r1
   nofun
   refine⟨.inl ⟨rfl,_,SqL.of dy⟩,_,SqL.of dy,_,O9 (v:=V.int (Az ab (ws.take i))) (by simp),?_⟩
   nofun
   refine⟨_,q1,_,q2,?_⟩
   nofun
   refine⟨_,q3,_,A3 hx.1 r2,_,dy,by simp;lia,s3.over hp,?_,_,rfl⟩
   rw[Ab,show rY (i+1+1)=rY (i+1)++[i+1] from x2_,jS_,jS_,<-r3,<-IL hn]
   rfl
  ·obtain⟨s3,dy,o,rfl⟩:=h
   nofun
   rw[ja_]at dy
   exact k hv p H2 (s1.trans s3) (s1.free hp) dy
def L7 (K:α3):Sp:=fun vs H Q E=>∃(h a:Addr) (L:Int) (aa:α2) (ab:α1) (ws:α2),vs=[.ref h,.ref a]/\AV K H h L aa ab/\Wf L aa ab/\SqT K H a (ws.map V.int)/\ws.length<=600/\(isW L ws=true->∀H',Same H H'->Q (.int (Az ab ws)) H')/\(isW L ws=false->False)
def IC   (F:Fun K "room_behind" "room_behind" BV f fd)(T:Txt mg)
   (g8:⋯ 3 "trail" JV ["house","word"] (M9 K) Qx Na)
  : nofun 4 f fd ["house","word"] (L7 K):=by
 delta Iy
 ·obtain⟨h,a,L,aa,ab,ws,rfl,_⟩:=h;rfl
 ·obtain⟨h,a,L,aa,ab,ws,rfl,hh,wf,hw,hz,k,kE⟩:=h
  have hl:=Ar
  refine⟨_,(Af (AE (Ag (ixLD AT) (Ai g8 hr.d AI (Aa (pvD 0) (Aa (pvD 1) Ad))) (US Sj Ae)))),?_⟩
  nofun
  refine⟨h,a,L,aa,ab,ws,rfl,hh,wf,hw,hz,fun hv p H1 s1 _ hp=>?_,kE⟩
  nofun
  refine⟨_,SqL.of hp,_,O9 (v:=V.int (Az ab ws)) ?_,k hv H1 s1⟩
  rw[jf_,ja_,Jv,show ws.length+1-1=ws.length by lia,LD];rfl
def L8 (aa:α2)(r:Int):Int:=aa.getD r.toNat 0
def R3   (h0:0<=r)(h1:r<aa.length):atI (aa.map V.int) r=some (V.int (L8 aa r)):=by
 have ar:r.toNat<aa.length:=by lia
 refine A3 h0 ?_
 unfold L8
 rw[jk_]
 simp[ar]
def L9 (K:α3):Sp:=fun vs H Q E=>∃(h a:Addr) (L:Int) (aa:α2) (ab:α1) (ws:α2),vs=[.ref h,.ref a]/\AV K H h L aa ab/\Wf L aa ab/\SqT K H a (ws.map V.int)/\ws.length<=600/\(isW L ws=true->∀H',Same H H'->Q (.int (L8 aa (Az ab ws))) H')/\(isW L ws=false->False)
def ID   (F:Fun K "mark_behind" "mark_behind" BW f fd)(T:Txt mg)
   (fQ:⋯ 4 "room_behind" BV ["house","word"] (L7 K) Dv CZ)
  : nofun 5 f fd ["house","word"] (L9 K):=by
 delta Iz
 ·obtain⟨h,a,L,aa,ab,ws,rfl,_⟩:=h;rfl
 ·obtain⟨h,a,L,aa,ab,ws,rfl,hh,wf,hw,hz,k,kE⟩:=h
  have hl:=Ar
  refine⟨_,(Af (AE (Ag (ixTD Ao) (Ag (ixTD Ao) (pvD 0) Ae) (Ai fQ hr.d AI (Aa (pvD 0) (Aa (pvD 1) Ad)))))),?_⟩
  nofun
  have qE:=hh
  obtain⟨m,wv,h1,h2,h3⟩:=hh
  refine⟨_,h1,_,rfl,?_⟩
  nofun
  refine⟨h,a,L,aa,ab,ws,rfl,qE,wf,hw,hz,fun hv H1 s1=>?_,kE⟩
  nofun
  have iK:=wf.walk hv ws.length
  rw[jQ_]at iK
  exact⟨_,s1.seqT h2,_,R3 iK.1 iK.2,k hv H1 s1⟩
def Ek (K:α3)(H:Hp)(d:Addr)(ents:List (Int×α2)):Prop:=∃kvs:List (Key×V),H d=some (.dK kvs)/\kvs.length=ents.length/\∀(i:Nat) (e:Int×α2),ents[i]?=some e->∃t,kvs[i]?=some (r6 e.1,V.ref t)/\H t=some (.tup (e.2.map V.int))
def V4     (hp:H p=some (.dK kvs))(h:H t=some (.tup xs)):upd H p (.dK bz) t=some (.tup xs):=by
 rw[Ah (fun z=>by rw[z,hp]at h;cases h)];exact h
def Ek.mono {K:α3}   {ents:List (Int×α2)}(h:Ek K H d ents)(s:Same H H'):Ek K H' d ents:=by
 obtain⟨kvs,h1,h2,h3⟩:=h
 refine⟨kvs,s _ _ h1,h2,fun i e he=>?_⟩
 obtain⟨t,a,b⟩:=h3 i e he
 exact⟨t,a,s _ _ b⟩
def Ek.off {K:α3}   {ents:List (Int×α2)}  (h:Ek K H d ents)(hp:H p=some (.lst zs)):Ek K (upd H p (.lst ys)) d ents:=by
 obtain⟨kvs,h1,h2,h3⟩:=h
 refine⟨kvs,by rw[Ah (fun z=>by rw[z,hp]at h1;cases h1)];exact h1,h2,fun i e he=>?_⟩
 obtain⟨t,a,b⟩:=h3 i e he
 exact⟨t,a,TK.lst hp _ _ b⟩
def Ek.no {K:α3}   {ents:List (Int×α2)}(h:Ek K H d ents)  (hg:g∉ents.map (·.1)):DGet H d (.int g) none:=by
 obtain⟨kvs,h1,h2,h3⟩:=h
 have e:valV kvs (r6 g:Key)=none:=by
  unfold valV
  rw[tO,xA_]
  intro kv gM
  obtain⟨i,hi,e⟩:=jN_ gM
  obtain⟨t,a,_⟩:=h3 i ents[i] (by simp[show i<ents.length by lia])
  have e2:kvs[i]?=some kv:=by rw[jh_ hi,e]
  rw[e2]at a
  cases a
  simp only[qs_]
  intro z
  injection z with z
  exact hg (jv_.mpr ⟨ents[i],j0_ _,z⟩)
 have:=DGet.k (k:=(r6 g:Key)) h1
 rw[e]at this
 exact this
def Ek.yes {K:α3}{H:Hp}{d:Addr}{ents:List (Int×α2)}(h:Ek K H d ents)(nod:(ents.map (·.1)).Nodup){g:Int}{w:α2}(hg:(g,w)∈ents):∃t,DGet H d (.int g) (some (.ref t))/\H t=some (.tup (w.map V.int)):=by
 obtain⟨kvs,h1,h2,h3⟩:=h
 obtain⟨i,hi,ei⟩:=jN_ hg
 have ei':ents[i]?=some (g,w):=by rw[jh_ hi,ei]
 obtain⟨t,a,b⟩:=h3 i _ ei'
 refine⟨t,?_,b⟩
 have hf:valV kvs (r6 g:Key)=some (.ref t):=by
  unfold valV
  cases hq:kvs.find? (fun kv=>decide (kv.1=(r6 g:Key))) with
  |none=>
   rw[xA_]at hq
   have:=hq _ (jd_ a)
   simp at this
  |some kv=>
   have hk:=z5_ hq
   simp only[qs_]at hk
   obtain⟨j,hj,ej⟩:=jN_ (xa_ hq)
   have cn:j<ents.length:=by lia
   obtain⟨t',a',b'⟩:=h3 j ents[j] (by simp[cn])
   have e2:kvs[j]?=some kv:=by rw[jh_ hj,ej]
   rw[e2]at a'
   have a2:kv=(r6 ents[j].1,V.ref t'):=js_ a'
   rw[a2]at hk
   have dE:ents[j].1=g:=by injection hk
   have ij:i=j:=by
    refine (xT_ (h₀:=by simpa using hi) (h₁:=by simpa using cn) nod).mp ?_
    simp[ei,dE]
   subst ij
   rw[e2]at a
   have a3:kv=(r6 g,V.ref t):=js_ a
   rw[a3];rfl
 have:=DGet.k (k:=(r6 g:Key)) h1
 rw[hf]at this
 exact this
def Ek.put {K:α3}{H:Hp}{d t:Addr}{ents:List (Int×α2)}{g:Int}{w:α2}(h:Ek K H d ents)(hg:g∉ents.map (·.1))(hz:ents.length<1000)(ht:H t=some (.tup (w.map V.int))):∃H',DPut H d (.int g) (.ref t) H'/\(∃kvs bz,H d=some (.dK kvs)/\H'=upd H d (.dK bz))/\Ek K H' d (ents++[(g,w)]):=by
 have dN:=h.no hg
 obtain⟨kvs,h1,h2,h3⟩:=h
 have hl:=Ar
 have hv:valV kvs (r6 g:Key)=none:=by
  rcases dN with ⟨bz,k,e,ey,er⟩|⟨bz,k,b,e,ey,_⟩
  ·have e1:bz=kvs:=by
    rcases e with e|⟨o,e⟩
    ·rw[h1]at e;cases e;rfl
    ·rw[h1]at e;cases e
   subst e1
   cases k with
   |inl m=>
    have:m=g:=by injection ey with ey;exact ey.symm
    subst this
    exact er.symm
   |inr m=>cases ey
  ·cases ey
 have hp:putK kvs (r6 g:Key) (V.ref t)=kvs++[(r6 g,V.ref t)]:=by
  unfold putK
  rw[CN,hv]
  rfl
 refine⟨_,DPut.k (k:=(r6 g:Key)) h1 s!"",⟨kvs,_,h1,rfl⟩,kvs++[(r6 g,V.ref t)],by rw[Ab,hp],by simp[h2],fun i e he=>?_⟩
 by_cases hi:i<ents.length
 ·rw[je_ hi]at he
  obtain⟨t',a,b⟩:=h3 i e he
  exact⟨t',by rw[je_ s!""];exact a,V4 h1 b⟩
 ·have ar:=(jb_.mp he).1
  rw[jl_,jP_]at ar
  have e1:i=ents.length:=by lia
  subst e1
  rw[jp_ (ji_ _),qg_]at he
  simp at he
  subst he
  exact⟨t,by rw[jp_ s!"",h2,qg_];rfl,V4 h1 ht⟩
def Ge (K:α3):Sp:=fun vs H Q _=>∃(h:Addr) (L:Int) (aa:α2) (ab:α1),vs=[.ref h]/\AV K H h L aa ab/\Wf L aa ab/\∀d top H',Same H H'->H d=none->Ek K H' d (Au ab)->Bfs L aa.length ab (Au ab) (Au ab).length top->Q (.ref d) H'
def Ma   (F:Fun K "words_in" "words_in" C6 f fd)(T:Txt mg)
  : nofun 1 f fd ["house"] (Ge K):=by
 delta By
 ·obtain⟨h,L,aa,ab,rfl,_⟩:=h;rfl
 ·obtain⟨h,L,aa,ab,rfl,hh,wf,k⟩:=h
  have hl:=Ar
  have cP:=wf.l1
  have cC:=wf.n1
  have aW:=wf.n40
  refine⟨_,(@Ac _ _ _ _ _ (@TY _ 1 _ _ _ _ _ _ _ _ By.nd rfl (r9 rfl) Ae (Bs Ad) rfl (r9 rfl))
   (Ac (Ak (i:=2) By.nd (Bl (Aa Ae Ad)))
   (Ac (Ak (i:=3) By.nd Ae)
   (Ac (Df jI_ (ptT (As (opD0 Hg) (pvD 3) (Aq (lenD Aj) (by rfl) T.len jH_ (Aa (pvD 2) Ad)) (AF _)))
   (Ac (Ak (i:=4) By.nd (Ag (ixLD AT) (pvD 2) (pvD 3)))
   (Ac (Bo jI_ rfl (Re rfl T.enumerate (Ag (ixTD Ao) (Ag (ixTD Ao) (pvD 0) Ae) (pvD 4))) (Sg rfl (GS (Am (i:=5) By.nd rfl (r9 rfl)) (GS (Am (i:=6) By.nd rfl (r9 rfl)) Op)))
   (Af (BF (On (Hk (Hi hr) (pvD 6) (pvD 1)))
   (Ac (Jp (Hi hr) (pvD 1) (pvD 6) (An ED (OQ (Hi hr) (pvD 1) (pvD 4) (fun _ _=>rfl)) (Bs (Aa (pvD 5) Ad))) rfl)
   (Af (A8 (C1 jE_ jL_ jM_ AO (pvD 2) (Aa (pvD 6) Ad)))))
   AH)))
   (Af (Oq (i:=3) By.nd rfl (r9 rfl) Ae Sh)))))
   (Af (AE (pvD 1))))))),?_⟩
  nofun
  intro p hp
  refine⟨by lia,fun p1 bL=>⟨Same.new bL _ _ Ab,[(r6 0,V.ref p1)],rfl,by simp,by lia,fun p2 aU=>?_⟩⟩
  have i9:Gp [] [((r6 0:Key),V.ref p1)]=[((r6 0:Key),V.ref p1)]:=rfl
  rw[i9]at aU ⊢
  have hne1:p1≠p:=(At bL).2
  have jf:p2≠p:=(At aU).2
  have s0:Same H (upd (upd (upd (upd H p (.dK [])) p1 (.tup [])) p (.dK [(r6 0,V.ref p1)])) p2 (.lst [V.int 0])):=(((Same.new hp).newT bL).over hp).newT aU
  have nG:Ek K (upd (upd (upd (upd H p (.dK [])) p1 (.tup [])) p (.dK [(r6 0,V.ref p1)])) p2 (.lst [V.int 0])) p [(0,[])]:=by
   refine⟨[(r6 0,V.ref p1)],Same.new aU _ _ Ab,rfl,fun i e he=>?_⟩
   cases i with
   |zero=>
    simp at he
    subst he
    refine⟨p1,rfl,?_⟩
    refine Same.new aU _ _ ?_
    rw[Ah hne1];exact Ab
   |succ i=>simp at he
  have dF:upd (upd (upd (upd H p (.dK [])) p1 (.tup [])) p (.dK [(r6 0,V.ref p1)])) p2 (.lst [V.int 0]) p2=some (.lst ((([(0,[])]:List (Int×α2)).map (·.1)).map V.int)):=Ab
  have jg:H p2=none:=by
   have h1:=(At aU).1
   have h2:=(At h1).1
   exact (At h2).1
  generalize upd (upd (upd (upd H p (.dK [])) p1 (.tup [])) p (.dK [(r6 0,V.ref p1)])) p2 (.lst [V.int 0])=H0 at s0 nG dF ⊢
  clear bL aU i9
  obtain⟨Pv,aq⟩:∃Pv:Nat->St->Hp->Prop,∀m ai H2,Pv m ai H2↔(∃(ents:List (Int×α2)) (i:Nat) (top:Int) (o4 o5 o6:Option V),m=aa.length+1-i/\Same H H2/\Ek K H2 p ents/\H2 p2=some (.lst ((ents.map (·.1)).map V.int))/\Bfs L aa.length ab ents i top/\(∀e,ents[i]?=some e->top<=place L e.2*L+1)/\bfs ab (aa.length+1-i) ents i=Au ab/\ai=[some (.ref h),some (.ref p),some (.ref p2),some (.int i),o4,o5,o6]):=⟨_,fun _ _ _=>qq_⟩
  refine Hn Pv ⟨_,(aq _ _ _).mpr ⟨[(0,[])],0,1,none,none,none,rfl,s0,nG,dF,Bfs.start L cC ab,fun e he=>?_,by unfold Au;rw[wf.len];rfl,rfl⟩⟩ ?_
  ·simp at he;subst he;simp[place,AQ]
  intro m ai H2 d8
  obtain⟨ents,i,top,o4,o5,o6,rfl,s2,oz,dG,bf,g9,bQ,rfl⟩:=(aq _ _ _).mp d8
  have qF:=bf.len
  nofun
  refine⟨_,.inl (SqL.of dG),?_⟩
  rw[ja_,ja_]
  refine ite2 (fun ar=>?_) (fun bF=>?_)
  ·have hi:i<ents.length:=by lia
   obtain⟨e,he⟩:∃e,ents[i]?=some e:=⟨ents[i],by simp[hi]⟩
   obtain⟨r,w⟩:=e
   have bq:=jd_ he
   have bO:=bf.rng _ bq
   have htop':top<=place L w*L+1:=g9 _ he
   obtain⟨row,hrow,fj,cW⟩:=wf.row bO.1 bO.2
   have nj:ab.getD r.toNat []=row:=by rw[jk_,hrow];rfl
   obtain⟨mm,wv,q1,q2,q3⟩:=id hh
   obtain⟨xs,t,z1,z2,z3⟩:=q3.atZ bO.1 hrow
   refine⟨Pv (aa.length+1-(i+1)),fun af H' h=>⟨_,by lia,h⟩,?_⟩
   refine⟨_,SqL.of dG,_,A3 (v:=r) s!"" (by rw[jj_,jf_,he];rfl),?_⟩
   nofun
   refine⟨_,s2.seqT q1,_,rfl,?_⟩
   nofun
   refine⟨_,s2.seqT z1,_,z2,?_⟩
   nofun
   refine⟨_,s2.seqT z3,?_⟩
   obtain⟨Pn,cw⟩:∃Pn:Nat->St->Hp->Prop,∀x aE H3,Pn x aE H3↔(∃(ao:List (Int×α2)) (o5 o6:Option V),Same H H3/\Ek K H3 p ao/\H3 p2=some (.lst ((ao.map (·.1)).map V.int))/\Bfs L aa.length ab ao i (place L w*L+(x:Int)+1)/\Seen L ab ao r w x/\ao[i]?=some (r,w)/\CP w ao x (row.drop x)=CP w ents 0 row/\aE=[some (.ref h),some (.ref p),some (.ref p2),some (.int i),some (.int r),o5,o6]):=⟨_,fun _ _ _=>qq_⟩
   refine forN Pn ((cw _ _ _).mpr ⟨ents,o5,o6,s2,oz,dG,bf.up (by push_cast;lia),(fun y h0 h1=>absurd h1 (by push_cast;lia)),he,rfl,rfl⟩) (fun x aE H3 _ h3=>?_) (fun x v aE H3 t' hx h3 ff=>?_) (fun aE H3 h3=>?_)
   ·obtain⟨ao,_,_,s3,_⟩:=(cw _ _ _).mp h3
    exact s3.seqT z3
   ·obtain⟨ao,o5,o6,s3,ko,cX,cY,fR,eG,bR,rfl⟩:=(cw _ _ _).mp h3
    obtain⟨g,hg,rfl⟩:=Cf hx
    have cg:=(jb_.mp hg).1
    have kq:=(wf.rows row fj).2 g (jd_ hg)
    have qG:g=Bi ab r (x:Int):=(BC hrow (by rw[jj_];exact hg)).symm
    have cZ:=jd_ eG
    have hU:row.drop x=g::row.drop (x+1):=by
     rw[xb_ cg]
     congr 1
     exact (jb_.mp hg).2
    obtain⟨c9,fk⟩:=cY.letter s!"" fR cZ s!"" qG kq
    have fm:=Fb (g:=g) (v:=w++[(x:Int)]) eG
    rw[hU,Fa]at bR
    have sT:=s3.newT ff (o:=.tup [V.int x,V.int g])
    have gj:=ko.mono (Same.new ff (o:=.tup [V.int x,V.int g]))
    have kr:=Same.new ff (o:=.tup [V.int x,V.int g]) _ _ cX
    nofun
    refine⟨_,SqT.of Ab,rfl,?_⟩
    nofun
    generalize upd H3 t' (.tup [V.int x,V.int g])=oA at sT gj kr ⊢
    by_cases hm:g∈ao.map (·.1)
    ·rw[if_pos hm]at c9 fk fm bR
     obtain⟨e',eA,e1⟩:=jv_.mp hm
     obtain⟨g',w'⟩:=e'
     have e1:g'=g:=e1
     subst e1
     obtain⟨tt,dg,_⟩:=gj.yes cY.nod eA
     refine⟨_,dg,?_⟩
     rw[if_neg (by simp)]
     exact (cw _ _ _).mpr ⟨ao,_,_,sT,gj,kr,c9,fk,fm,bR,rfl⟩
    ·rw[if_neg hm]at c9 fk fm bR
     refine⟨_,gj.no hm,?_⟩
     rw[if_pos (by simp)]
     obtain⟨tw,dw,oB⟩:=gj.yes cY.nod cZ
     refine⟨_,dw,by lia,fun q5 oC=>?_⟩
     have cU:w.length<=100:=by
      have h1:w.length<=i:=cY.sh i _ eG
      lia
     refine EV.ofS (Same.new oC _ _ oB) Ab (by simp;lia) fun q6 H6 s6 hq6=>?_
     have sU:=(sT.newT oC).trans s6
     have enU:=(gj.mono (Same.new oC)).mono s6
     have hrU:=s6 _ _ (Same.new oC _ _ kr)
     have hq6':H6 q6=some (.tup ((w++[(x:Int)]).map V.int)):=by simpa using hq6
     obtain⟨H7,dp,⟨kvs,bz,hd,rfl⟩,enV⟩:=enU.put hm (by have:=cY.len;lia) hq6'
     nofun
     refine⟨_,dp,?_⟩
     have jh:upd H6 p (.dK bz) p2=some (.lst ((ao.map (·.1)).map V.int)):=by rw[Ah jf];exact hrU
     refine⟨.inl ⟨rfl,_,SqL.of jh⟩,_,jh,by have:=cY.len;simp;lia,(cw _ _ _).mpr ⟨ao++[(g,w++[(x:Int)])],_,_,(sU.over hp).over jg,enV.off jh,by rw[Ab];simp,c9,fk,fm,bR,rfl⟩⟩
   ·obtain⟨ao,o5,o6,s3,ko,cX,cY,fR,eG,bR,rfl⟩:=(cw _ _ _).mp h3
    rw[ja_]at cY fR bR
    rw[uR,FZ]at bR
    nofun
    obtain⟨c9,dR⟩:=cY.next s!"" cW fR eG
    refine (aq _ _ _).mpr ⟨ao,i+1,_,_,_,_,rfl,s3,ko,cX,c9,dR,?_,by push_cast;rfl⟩
    rw[show aa.length+1-i=(aa.length+1-(i+1))+1 by lia,Jy he]at bQ
    rw[bR,<-nj]
    exact bQ
  ·have hi:i=ents.length:=by have:=bf.il;lia
   subst hi
   rw[Jx (by simp)]at bQ
   rw[<-bQ]at k
   exact k p top H2 s2 hp oz bf
def Wr (H:Hp)(d:Addr)(ents:List (Int×α2))(n:Nat):Prop:=∃xs:List V,H d=some (.lst xs)/\xs.length=n/\∀r:Nat,r<n->(∃(w:α2) (t:Addr),((r:Int),w)∈ents/\xs[r]?=some (.ref t)/\H t=some (.tup (w.map V.int)))\/((r:Int)∉ents.map (·.1)/\xs[r]?=some .non)
def K8 (K:α3):Sp:=fun vs H Q _=>∃(h:Addr) (L:Int) (aa:α2) (ab:α1),vs=[.ref h]/\AV K H h L aa ab/\Wf L aa ab/\∀d top H',Same H H'->H d=none->Wr H' d (Au ab) aa.length->Bfs L aa.length ab (Au ab) (Au ab).length top->Q (.ref d) H'
def N8   (F:Fun K "ways_in" "ways_in" FA f fd)(T:Txt mg)
   (fS:⋯ 1 "words_in" C6 ["house"] (Ge K) Gf Fm)
  : nofun 2 f fd ["house"] (K8 K):=by
 delta IZ
 ·obtain⟨h,L,aa,ab,rfl,_⟩:=h;rfl
 ·obtain⟨h,L,aa,ab,rfl,hh,wf,k⟩:=h
  have hl:=Ar
  have aW:=wf.n40
  refine⟨_,(Ac (Ba (i:=1) IZ.nd rfl (sk rfl) (Ai fS hr.d AI (Aa (pvD 0) Ad)))
   (Af (AE (A1 rfl (A2 rfl) (cp:=HP) (te:=OT (NR 1) (NR 0)) ⟨⟨rfl,rfl⟩,rZ⟩ (AN rfl T.range (Aa (Aq (lenD Aj) (by rfl) T.len jH_ (Aa (Ag (ixTD Ao) (pvD 0) Ae) Ad)) Ad)) (fun _ _ _ _=>(Am (i:=0) IB rfl (r9 rfl))) (fun _ _ _ _=>Bc) (fun _ _ _ _=>(by exact (Q4 (Hi hr) (pvD 1) (pvD 0) ⟨rfl,rfl,rfl,rfl⟩))))))),?_⟩
  nofun
  refine⟨h,L,aa,ab,rfl,hh,wf,fun d top H1 s1 hd en bf=>?_⟩
  obtain⟨mm,wv,q1,q2,q3⟩:=hh.mono s1
  nofun
  refine⟨_,q1,_,rfl,?_⟩
  nofun
  refine⟨_,.inr q2,?_⟩
  rw[ja_]
  refine⟨by lia,by lia,?_⟩
  rw[jj_]
  obtain⟨Pc,dH⟩:∃Pc:Nat->List V->St->Hp->Prop,∀j ys bY H4,Pc j ys bY H4↔(H4=H1/\ys.length=j/\(∀r:Nat,r<j->(∃(w:α2) (t:Addr),((r:Int),w)∈Au ab/\ys[r]?=some (.ref t)/\H1 t=some (.tup (w.map V.int)))\/((r:Int)∉(Au ab).map (·.1)/\ys[r]?=some .non))/\∃o,bY=[o,some (.ref d)]):=⟨_,fun _ _ _ _=>qq_⟩
  refine Js Pc ((dH _ _ _ _).mpr ⟨rfl,rfl,(fun r hr=>absurd hr (qV_ _)),none,rfl⟩) s!"" (fun j ys bY H4 _ h4=>?_) (fun j ys bY H4 hj h4=>?_) (fun ys bY H4 h4 D hD=>?_)
  ·obtain⟨_,aj,_⟩:=(dH _ _ _ _).mp h4
   lia
  ·obtain⟨rfl,aj,aB,o,rfl⟩:=(dH _ _ _ _).mp h4
   obtain⟨kvs,mh,_⟩:=id en
   have ext:∀v:V,((∃(w:α2) (t:Addr),((j:Int),w)∈Au ab/\v=.ref t/\H4 t=some (.tup (w.map V.int)))\/((j:Int)∉(Au ab).map (·.1)/\v=.non))->∀o,Pc (j+1) (ys++[v]) [o,some (.ref d)] H4:=fun v hv o=>by
    refine (dH _ _ _ _).mpr ⟨rfl,by simp[aj],fun r hr=>?_,o,rfl⟩
    by_cases nH:r<j
    ·rw[je_ s!""]
     exact aB r nH
    ·have e:r=j:=by lia
     subst e
     rw[jp_ s!"",aj,qg_]
     rcases hv with ⟨w,t,a,b,c⟩|⟨a,b⟩
     ·exact .inl ⟨w,t,a,by rw[b];rfl,c⟩
     ·exact .inr ⟨a,by rw[b];rfl⟩
   nofun
   refine⟨.inl ⟨kvs,.inl mh⟩,?_⟩
   have ej:(0:Int)+(j:Nat)=(j:Int):=by lia
   rw[ej]
   by_cases hm:(j:Int)∈(Au ab).map (·.1)
   ·obtain⟨e',eA,e1⟩:=jv_.mp hm
    obtain⟨g',w'⟩:=e'
    have e1:g'=(j:Int):=e1
    subst e1
    obtain⟨tt,dg,hw⟩:=en.yes bf.nod eA
    exact⟨_,dg,ext _ (.inl ⟨w',tt,eA,rfl,hw⟩) _⟩
   ·exact⟨_,en.no hm,ext _ (.inr ⟨hm,rfl⟩) _⟩
  ·obtain⟨rfl,aj,aB,o,rfl⟩:=(dH _ _ _ _).mp h4
   refine k D top _ (s1.newT hD) (s1.free hD) ⟨ys,Ab,aj,fun r hr=>?_⟩ bf
   rcases aB r hr with ⟨w,t,a,b,c⟩|h
   ·exact .inl ⟨w,t,a,b,Same.new hD _ _ c⟩
   ·exact .inr h
structure RF (L n:Nat)(ab:α1)(R:α2):Prop where
 hd:R[0]?=some 0
 nod:R.Nodup
 rng:∀r∈R,0<=r/\r<(n:Int)
 len:R.length<=n
 cls:∀r∈R,∀x:Nat,x<L->Bi ab r (x:Int)∈R
def RF.of {L n:Nat}{ab:α1}{top:Int}(bf:Bfs L n ab (Au ab) (Au ab).length top):RF L n ab ((Au ab).map (·.1)):=by
 refine⟨by rw[jf_,bf.hd];rfl,bf.nod,fun r hr=>?_,by rw[ja_];exact bf.len,fun r hr x hx=>?_⟩
 ·obtain⟨e,he,rfl⟩:=jv_.mp hr
  exact bf.rng e he
 ·obtain⟨e,he,rfl⟩:=jv_.mp hr
  obtain⟨j,hj⟩:=jK_.mp he
  obtain⟨e',h1,h2,_⟩:=bf.don j (jb_.mp hj).1 e hj (x:Int) s!"" s!""
  rw[<-h2]
  exact q9_ h1
def Gg (K:α3):Sp:=fun vs H Q _=>∃(h:Addr) (L:Nat) (aa:α2) (ab:α1),vs=[.ref h]/\AV K H h L aa ab/\Wf L aa ab/\∀p H',Same H H'->H p=none->H' p=some (.lst (((Au ab).map (·.1)).map V.int))->RF L aa.length ab ((Au ab).map (·.1))->Q (.ref p) H'
def N9   (F:Fun K "reached" "reached" Ee f fd)(T:Txt mg)
   (fS:⋯ 1 "words_in" C6 ["house"] (Ge K) Gf Fm)
  : nofun 2 f fd ["house"] (Gg K):=by
 delta N5
 ·obtain⟨h,L,aa,ab,rfl,_⟩:=h;rfl
 ·obtain⟨h,L,aa,ab,rfl,hh,wf,k⟩:=h
  refine⟨_,(Af (AE (AB (Ir rfl) rfl T.list xr_ (Aa (Ai fS hr.d AI (Aa (pvD 0) Ad)) Ad)))),?_⟩
  nofun
  refine⟨h,L,aa,ab,rfl,hh,wf,fun d top H1 s1 hd en bf=>?_⟩
  obtain⟨kvs,h1,h2,h3⟩:=en
  refine⟨d,rfl,kvs,h1,fun l hl=>k l _ (s1.newT hl) (s1.free hl) ?_ (RF.of bf)⟩
  rw[Ab]
  congr 2
  refine qS_ fun i=>?_
  rw[jf_,jf_,jf_]
  cases he:(Au ab)[i]? with
  |none=>
   have:kvs[i]?=none:=by rw[xC_]at he ⊢;lia
   rw[this];rfl
  |some e=>
   obtain⟨t,a,_⟩:=h3 i e he
   rw[a];rfl
def numD {α κ:Type}[DecidableEq α](k:α->κ)(ks:List α):List (κ×V):=ks.map fun x=>(k x,V.int ((ks.idxOf x:Nat):Int))
def Dx {α κ:Type}[DecidableEq α]{k:α->κ}{ks:List α}:(numD k ks).length=ks.length:=by unfold numD;rw[ja_]
def Dc {α κ:Type}[DecidableEq α][DecidableEq κ]{k:α->κ}(hk:∀x y,k x=k y->x=y){ks:List α}(nd:ks.Nodup){x:α}(hx:x∈ks):valV (numD k ks) (k x)=some (V.int ((ks.idxOf x:Nat):Int)):=by
 have hi:=qO_ hx
 refine T3 (i:=ks.idxOf x) ?_ ?_
 ·unfold numD
  rw[jW_]
  exact uA _ (fun a b b8 z=>b8 (hk a b z)) nd
 ·unfold numD
  rw[jf_,jh_ hi,q3_];rfl
def FN {α κ:Type}[DecidableEq α][DecidableEq κ]{k:α->κ}(hk:∀x y,k x=k y->x=y){ks:List α}{x:α}(hx:x∉ks):valV (numD k ks) (k x)=none:=by
 have h1:=CN (k x) (numD k ks)
 have h2:((numD k ks).any fun kv=>decide (kv.1=k x))=false:=by
  rw[ur]
  intro p hp
  unfold numD at hp
  obtain⟨y,hy,rfl⟩:=jv_.mp hp
  simp only[qs_]
  intro z
  exact hx (hk _ _ z ▸ hy)
 rw[h2]at h1
 cases q:valV (numD k ks) (k x) with
 |none=>rfl
 |some v=>rw[q]at h1;cases h1
def J4 {α κ:Type}[DecidableEq α][DecidableEq κ]{k:α->κ}(hk:∀x y,k x=k y->x=y){ks:List α}{x:α}(hx:x∉ks):putK (numD k ks) (k x) (V.int ((ks.length:Nat):Int))=numD k (ks++[x]):=by
 rw[Mu _ (FN hk hx)]
 unfold numD
 rw[jS_,List.map_singleton,LN hx]
 congr 1
 exact qx_ fun y hy=>by rw[RC hy]
def Dy {α:Type}[DecidableEq α]{row:List α}{i:Nat}{x:α}(h:row[i]?=some x):Ay (row.take (i+1))=ins1 (Ay (row.take i)) x:=by
 rw[jR_,h];exact LL _ _
def J5  [DecidableEq α](row:List α)(i:Nat):(Ay (row.take i)).length<=row.length:=by
 have h1:=Gs (row.take i)
 unfold ncl at h1
 rw[jx_]at h1
 lia
def Tc (K:α3):Sp:=fun vs H Q _=>∃(a:Addr),vs=[.ref a]/\((∃ns:α2,SqT K H a (ns.map V.int)/\ns.length<=100/\∀l H',Same H H'->H l=none->H' l=some (.lst ((num ns).map V.int))->Q (.ref l) H')\/(∃(xs:List V) (ws:α1),SqL K H a xs/\AA K H xs ws/\ws.length<=100/\∀l H',Same H H'->H l=none->H' l=some (.lst ((num ws).map V.int))->Q (.ref l) H'))
def Mb   (F:Fun K "numbered" "numbered" EI f fd)(T:Txt mg)
  : nofun 1 f fd ["row"] (Tc K):=by
 delta Fe
 ·obtain⟨a,rfl,_⟩:=h;rfl
 ·obtain⟨a,rfl,b8⟩:=h
  have hl:=Ar
  refine⟨_,(Ac (Ba (i:=1) Fe.nd rfl (sk rfl) RA)
   (Ac (Bo jI_ rfl (SD (pvD 0)) (Am (i:=2) Fe.nd rfl (r9 rfl))
   (Af (BF (On (Hk (Hi hr) (pvD 2) (pvD 1)))
   (Af (Jp (Hi hr) (pvD 1) (pvD 2) (Aq KM (by rfl) T.len jH_ (Aa (pvD 1) Ad)) rfl))
   AH)))
   (Af (AE (A1 rfl (A2 rfl) (cp:=Gw) ⟨⟨rfl,rfl⟩,rZ⟩ (SD (pvD 0)) (fun _ _ _ _=>(Am (i:=0) HQ rfl (r9 rfl))) (fun _ _ _ _=>Bc) (fun _ _ _ _=>(OQ (Hi hr) (pvD 1) (pvD 0) (fun _ _=>rfl)))))))),?_⟩
  rcases b8 with ⟨ns,ha,hz,k⟩|⟨xs,ws,ha,hW,hz,k⟩
  ·nofun
   refine .inl fun d hd=>?_
   have sd:=Same.new hd (o:=.dK [])
   have cO:∀x y:Int,(r6 x:Key)=r6 y->x=y:=fun x y z=>Sum.inl.inj z
   obtain⟨Pv,aq⟩:∃Pv:Nat->St->Hp->Prop,∀i af H',Pv i af H'↔(∃o:Option V,Same H H'/\H' d=some (.dK (numD (fun x:Int=>(r6 x:Key)) (Ay (ns.take i))))/\af=[some (.ref a),some (.ref d),o]):=⟨_,fun _ _ _=>qq_⟩
   refine .inr ⟨⟨_,sd.seqT ha⟩,forT (xs:=ns.map V.int) Pv ((aq _ _ _).mpr ⟨none,sd,Ab,rfl⟩) (fun i af H' _ h'=>by obtain⟨_,s',_⟩:=(aq _ _ _).mp h';exact s'.seqT ha) (fun i x af H' hx h'=>?_) (fun af H' h'=>?_)⟩
   ·obtain⟨o,s',dI,rfl⟩:=(aq _ _ _).mp h'
    obtain⟨n,hn,rfl⟩:=Cf hx
    have mB:=J5 ns i
    have nd:=Bd (ns.take i)
    have et:=Dy hn
    nofun
    refine⟨_,DGet.k (k:=r6 n) dI,?_⟩
    by_cases hm:n∈Ay (ns.take i)
    ·rw[Dc cO nd hm]
     simp only[zq_,wk_,jT_,qX_]
     exact (aq _ _ _).mpr ⟨_,s',by rw[et,ins1,if_pos hm];exact dI,rfl⟩
    ·rw[FN cO hm]
     simp only[uq,wb_,xW_]
     have eI:=J4 (k:=fun x:Int=>(r6 x:Key)) cO hm
     refine .inl ⟨_,dI,_,DPut.k (k:=r6 n) dI (by rw[Dx];lia),(aq _ _ _).mpr ⟨_,s'.over hd,?_,rfl⟩⟩
     rw[Ab,et,ins1,if_neg hm,Dx]
     exact jG_ (fun z=>some (HO.dK z)) eI
   ·obtain⟨o,s',dI,rfl⟩:=(aq _ _ _).mp h'
    rw[ja_,jQ_]at dI
    nofun
    obtain⟨f,hf⟩:∃f:V->V,∀n:Int,f (V.int n)=.int (((Ay ns).idxOf n:Nat):Int):=⟨fun x=>match x with | .int n=>.int (((Ay ns).idxOf n:Nat):Int)|_=>.non,fun _=>rfl⟩
    refine .inr ⟨⟨_,s'.seqT ha⟩,EC (af:=[some (.ref d)]) f rfl (s'.seqT ha) (by rw[ja_];lia) (fun x hx R hR=>?_) (fun D hD=>?_)⟩
    ·obtain⟨n,hn,rfl⟩:=CO hx
     rw[hf]at hR
     have e:=Dc (k:=fun x:Int=>(r6 x:Key)) cO (Bd ns) (AK.mpr hn)
     have hg:=DGet.k (k:=r6 n) dI
     rw[e]at hg
     nofun
     exact⟨_,hg,hR⟩
    ·have em:(ns.map V.int).map f=(num ns).map V.int:=by
      unfold num
      rw[jW_,jW_]
      exact qx_ fun n _=>hf n
     exact k D _ (s'.newT hD) (s'.none hD) (by rw[Ab,em])
  ·nofun
   refine .inr fun d hd=>?_
   have sd:=Same.new hd (o:=.dT [])
   obtain⟨Pv,aq⟩:∃Pv:Nat->St->Hp->Prop,∀i af H',Pv i af H'↔(∃o:Option V,Same H H'/\H' d=some (.dT (numD wkey (Ay (ws.take i))))/\af=[some (.ref a),some (.ref d),o]):=⟨_,fun _ _ _=>qq_⟩
   refine .inl ⟨⟨_,sd.seq ha⟩,forL (xs:=xs) Pv ((aq _ _ _).mpr ⟨none,sd,Ab,rfl⟩) (fun i af H' _ h'=>by obtain⟨_,s',_⟩:=(aq _ _ _).mp h';exact s'.seq ha) (fun i x af H' hx h'=>?_) (fun af H' h'=>?_)⟩
   ·obtain⟨o,s',dI,rfl⟩:=(aq _ _ _).mp h'
    obtain⟨t,v,dY,rfl,ht⟩:=hW.at hx
    have mB:=J5 ws i
    have nd:=Bd (ws.take i)
    have et:=Dy dY
    have ff:H' t=some (.tup ((wkey v).map kV)):=by rw[JD];exact s' _ _ ht
    nofun
    refine⟨_,DGet.t dI ff,?_⟩
    by_cases hm:v∈Ay (ws.take i)
    ·rw[Dc (fun x y z=>Fs z) nd hm]
     simp only[zq_,wk_,jT_,qX_]
     exact (aq _ _ _).mpr ⟨_,s',by rw[et,ins1,if_pos hm];exact dI,rfl⟩
    ·rw[FN (fun x y z=>Fs z) hm]
     simp only[uq,wb_,xW_]
     refine .inr ⟨_,dI,_,DPut.t (k:=wkey v) dI ff (by rw[Dx];lia),(aq _ _ _).mpr ⟨_,s'.over hd,?_,rfl⟩⟩
     rw[Ab,et,ins1,if_neg hm,Dx,J4 (fun x y z=>Fs z) hm]
   ·obtain⟨o,s',dI,rfl⟩:=(aq _ _ _).mp h'
    rw[hW.1,jQ_]at dI
    nofun
    refine .inl ⟨⟨_,s'.seq ha⟩,Iq (xs:=xs) (fun i zs ai H2=>H2=H'/\zs=((num ws).take i).map V.int/\∃o,ai=[o,some (.ref d)]) ⟨rfl,rfl,none,rfl⟩ (by rw[hW.1];lia) (fun i zs ai H2 hi h2=>⟨by rw[h2.1];exact s'.seq ha,by rw[h2.2.1,ja_,jx_];lia⟩) (fun i x zs ai H2 hx h2=>?_) (fun zs ai H2 h2 D hD=>?_)⟩
    ·obtain⟨rfl,rfl,o2,rfl⟩:=h2
     obtain⟨t,v,dY,rfl,ht⟩:=hW.at hx
     have ff:H2 t=some (.tup ((wkey v).map kV)):=by rw[JD];exact s' _ _ ht
     have e:=Dc (fun x y z=>Fs z) (Bd ws) (AK.mpr (jd_ dY))
     have hg:=DGet.t dI ff
     rw[e]at hg
     nofun
     refine⟨_,hg,?_⟩
     first
      | (refine⟨rfl,?_,_,rfl⟩;rw[jR_,MW dY,jS_];rfl)
      | (refine⟨?_,_,rfl⟩;rw[jR_,MW dY,jS_];rfl)
    ·obtain⟨rfl,rfl,o2,rfl⟩:=h2
     rw[hW.1,jX_ (by rw[F4];exact ji_ _)]
     exact k D _ (s'.newT hD) (s'.none hD) Ab
def BehL (H:Hp)(mm pw pb:Addr)(aa:α2)(n:Nat)(b:α2->Nat->Int)(bs:List V)(words:α1):Prop:=bs.length=words.length/\∀(i:Nat) (w:α2),words[i]?=some w->∃t,bs[i]?=some (.ref t)/\((H t=some (.lst ((rowB n b w).map V.int))/\t≠pw/\t≠pb)\/(t=mm/\rowB n b w=aa))
def BehL.keep        (h:BehL H mm pw pb aa n b bs words)(s:∀t o,t≠pw->t≠pb->H t=some o->H' t=some o):BehL H' mm pw pb aa n b bs words:=⟨h.1,fun i w hi=>by
 obtain⟨t,e1,e2⟩:=h.2 i w hi
 exact⟨t,e1,e2.imp (fun e=>⟨s _ _ e.2.1 e.2.2 e.1,e.2⟩) id⟩⟩
def BehL.snoc {H:Hp}{mm pw pb:Addr}{aa:α2}{n:Nat}{b:α2->Nat->Int}{bs:List V}{words:α1}{t:Addr}{w:α2}(h:BehL H mm pw pb aa n b bs words)(ht:H t=some (.lst ((rowB n b w).map V.int)))(h1:t≠pw)(h2:t≠pb):BehL H mm pw pb aa n b (bs++[.ref t]) (words++[w]):=by
 refine⟨by simp[h.1],fun i r hi=>?_⟩
 by_cases hl:i<words.length
 ·rw[je_ hl]at hi
  rw[je_ (by rw[h.1];exact hl)]
  exact h.2 i r hi
 ·have:=(jb_.mp hi).1
  rw[jl_,jP_]at this
  have e:i=words.length:=by lia
  subst e
  rw[jp_ (ji_ _),qg_]at hi
  simp at hi
  subst hi
  exact⟨t,by rw[<-h.1];simp,.inl ⟨ht,h1,h2⟩⟩
def WC.short      (h:WC L n b words c):∀(k:Nat) (w:α2),words[k]?=some w->w.length<=k:=by
 intro k
 induction k using u5 with
 |_ k ih=>
  intro w hw
  cases k with
  |zero=>
   rw[h.w0]at hw
   cases hw
   exact jY_ _
  |succ k=>
   obtain⟨j,hj⟩:=jK_.mp (h.tl (k+1) w hw (Nat.succ_pos _))
   rw[List.getElem?_take]at hj
   split at hj
   ·rename_i ar
    have:=ih j ar _ hj
    rw[uS]at this
    lia
   ·cases hj
def zipW (c m:α2):α1:=(c.zip m).map fun p=>[p.1,p.2]
def R4 (c m:α2):num (zipW c m)=num (c.zip m):=Uh _ fun p _ q _ e=>by
 have h1:=List.cons.inj e
 exact wl_ h1.1 (List.cons.inj h1.2).1
def UA (K:α3):Sp:=fun vs H Q _=>∃(h:Addr) (L:Nat) (aa:α2) (ab:α1),vs=[.ref h]/\AV K H h L aa ab/\Wf L aa ab/\∀t pw pc xs H',Same H H'->H' t=some (.tup [.ref pw,.ref pc])->H pw=none->H' pw=some (.lst xs)->AA K H' xs (wcOf aa.length L (bW aa ab)).1->H' pc=some (.lst ((wcOf aa.length L (bW aa ab)).2.map V.int))->Fin17 aa.length L (bW aa ab) (wcOf aa.length L (bW aa ab))->Q (.ref t) H'
def ES   (F:Fun K "words_and_classes" "words_and_classes" A4 f fd)(T:Txt mg)
   (ji:⋯ 1 "numbered" EI ["row"] (Tc K) Jb HS)
  : nofun 2 f fd ["house"] (UA K):=by
 delta Av
 ·obtain⟨h,L,aa,ab,rfl,_⟩:=h;rfl
 ·obtain⟨h,L,aa,ab,rfl,hh,wf,k⟩:=h
  have hl:=Ar
  have cP:=wf.l1
  have dv:=wf.l6
  have cC:=wf.n1
  have aW:=wf.n40
  refine⟨_,(Ac (Ak (i:=1) Av.nd (Bl (Aa (Bs Ad) Ad)))
   (Ac (Ba (i:=2) Av.nd rfl (sk rfl) (Bl (Aa (Ag (ixTD Ao) (pvD 0) Ae) Ad)))
   (Ac (Ak (i:=3) Av.nd (Ai ji hr.d AI (Aa (Ag (ixTD Ao) (pvD 0) Ae) Ad)))
   (Ac (Ba (i:=4) Av.nd rfl (sk rfl) Ae)
   (Ac (Df jI_ (ptT (As (opD0 Hg) (pvD 4) (Aq (lenD Aj) (by rfl) T.len jH_ (Aa (pvD 1) Ad)) (AF _)))
   (Ac (Bo jI_ rfl (AN rfl T.range (Aa (Ag (ixTD Ao) (pvD 0) Ae) Ad)) (Am (i:=5) Av.nd rfl (sk rfl))
   (Ac (D5 (i:=6) Av.nd rfl rfl rfl (A2 rfl) (cp:=Cq) ⟨⟨rfl,rfl⟩,⟨⟨rfl,rfl⟩,⟨⟨rfl,rfl⟩,rZ⟩⟩⟩ (EU (Ag (ixTD Ao) (pvD 0) Ae)) (fun _ _ _ _=>(Am (i:=0) C7 rfl (r9 rfl))) (fun _ _ _ _=>Bc) (fun _ _ _ _=>(U1 (Ue (K:=K) rfl) (Ag (ixLD (Bj (K:=K) rfl)) (pvD 1) (pvD 2)) (Ag (ixTD (Bp (K:=K) rfl)) (pvD 0) (pvD 3)) (fun _ _=>rfl))))
   (Ac (Ak (i:=7) Av.nd (Ai ji hr.d AI (Aa (NL rfl rfl T.list rfl T.zip (Aa (pvD 3) (Aa (pvD 6) Ad))) Ad)))
   (Af (BF (ptT (As (opD0 Tv) (Aq (KL rfl) rfl T.max t9 (Aa (pvD 7) Ad)) (Aq (KL rfl) rfl T.max t9 (Aa (pvD 3) Ad)) (AF _)))
   (Ac (A8 (C1 jE_ jL_ jM_ AO (pvD 1) (Aa (An ED (Bs (Aa (pvD 5) Ad)) (Ag (ixLD AT) (pvD 1) (pvD 4))) Ad)))
   (Ac (A8 (C1 jE_ jL_ jM_ AO (pvD 2) (Aa (pvD 6) Ad)))
   (Af (Ak (i:=3) Av.nd (pvD 7)))))
   AH)))))
   (Af (Oq (i:=4) Av.nd rfl (sk rfl) Ae Sh))))
   (Af (AE (Bs (Aa (pvD 1) (Aa (pvD 3) Ad)))))))))),?_⟩
  obtain⟨mm,wv,q1,q2,ts,q3,q4,q5⟩:=id hh
  nofun
  refine⟨jY_ _,fun t0 jj=>⟨by lia,fun pw bI=>?_⟩⟩
  have s1:=(Same.new jj (o:=.tup [])).newT bI (o:=.lst [V.ref t0])
  have hpwH:H pw=none:=(Same.new jj (o:=.tup [])).none bI
  have d7:upd (upd H t0 (.tup [])) pw (.lst [V.ref t0]) pw=some (.lst [V.ref t0]):=Ab
  have hW1:AA K (upd (upd H t0 (.tup [])) pw (.lst [V.ref t0])) [V.ref t0] [[]]:=⟨rfl,fun i w hi=>by
   match i,hi with
   |0,hi=>cases hi;exact⟨t0,rfl,Same.new bI _ _ Ab⟩⟩
  generalize upd (upd H t0 (.tup [])) pw (.lst [V.ref t0])=H1 at s1 d7 hW1 ⊢
  refine⟨_,s1.seqT q1,_,rfl,by lia,fun pb mD=>?_⟩
  have hpbH:H pb=none:=s1.none mD
  have hpbw:pb≠pw:=fun z=>by rw[z,d7]at mD;cases mD
  have s2:=s1.newT mD (o:=.lst [V.ref mm])
  have fP:upd H1 pb (.lst [V.ref mm]) pb=some (.lst [V.ref mm]):=Ab
  have fT:=Same.new mD (o:=.lst [V.ref mm]) _ _ d7
  have ku:=hW1.mono (TK.new mD (o:=.lst [V.ref mm]))
  generalize upd H1 pb (.lst [V.ref mm])=H2 at s2 fP fT ku ⊢
  refine⟨_,s2.seqT q1,_,rfl,mm,rfl,.inl ⟨aa,s2.seqT q2,by lia,fun pc H3 s3 jk hpc3=>?_⟩⟩
  have mE:=s2.trans s3
  obtain⟨Pv,aq⟩:∃Pv:Nat->St->Hp->Prop,∀m af H',Pv m af H'↔(∃(st:StC) (k:Nat) (xs bs:List V) (pc:Addr) (o5 o6 o7:Option V),m=41-k/\Same H H'/\H' pw=some (.lst xs)/\AA K H' xs st.1/\H' pb=some (.lst bs)/\BehL H' mm pw pb aa aa.length (bW aa ab) bs st.1/\H' pc=some (.lst (st.2.map V.int))/\pc≠pw/\pc≠pb/\WS aa.length L (bW aa ab) k 0 st/\Fv aa.length (bW aa ab) L (41-k) k st=wcOf aa.length L (bW aa ab)/\af=[some (.ref h),some (.ref pw),some (.ref pb),some (.ref pc),some (.int k),o5,o6,o7]):=⟨_,fun _ _ _=>qq_⟩
  have hpcw:pc≠pw:=fun z=>by rw[z,fT]at jk;cases jk
  have hpcb:pc≠pb:=fun z=>by rw[z,fP]at jk;cases jk
  refine Hn Pv ⟨_,(aq _ _ _).mpr ⟨([[]],num (rowB aa.length (bW aa ab) [])),0,[V.ref t0],[V.ref mm],pc,none,none,none,rfl,mE,s3 _ _ fT,ku.mono (TK.of s3),s3 _ _ fP,⟨rfl,fun i w hi=>?_⟩,by rw[SR];exact hpc3,hpcw,hpcb,WS.start cC,rfl,rfl⟩⟩ ?_
  ·match i,hi with
   |0,hi=>cases hi;exact⟨mm,rfl,.inr ⟨rfl,SR⟩⟩
  intro m bY H4 h4
  obtain⟨st,k0,xs,bs,pc4,o5,o6,o7,rfl,s4,dz,iL,hb4,hB4,qH,hcw4,hcb4,qI,ho4,rfl⟩:=(aq _ _ _).mp h4
  have iW:=qI.few
  nofun
  refine⟨_,.inl (SqL.of dz),?_⟩
  rw[iL.1]
  refine ite2 (fun ar=>?_) (fun bF=>?_)
  ·have hk:k0<st.1.length:=by lia
   obtain⟨w,iK⟩:∃w,st.1[k0]?=some w:=⟨st.1[k0],by simp[hk]⟩
   refine⟨Pv (41-(k0+1)),fun af H' h=>⟨_,by lia,h⟩,?_⟩
   nofun
   refine⟨_,s4.seqT q1,_,rfl,L,rfl,by lia,by lia,?_⟩
   rw[jj_]
   obtain⟨Pz,nI⟩:∃Pv:Nat->St->Hp->Prop,∀i af H',Pv i af H'↔(∃(ag:StC) (xs bs:List V) (pc:Addr) (o5 o6 o7:Option V),ag=Fu aa.length (bW aa ab) w i st/\Same H H'/\H' pw=some (.lst xs)/\AA K H' xs ag.1/\H' pb=some (.lst bs)/\BehL H' mm pw pb aa aa.length (bW aa ab) bs ag.1/\H' pc=some (.lst (ag.2.map V.int))/\pc≠pw/\pc≠pb/\WS aa.length L (bW aa ab) k0 i ag/\ag.1[k0]?=some w/\af=[some (.ref h),some (.ref pw),some (.ref pb),some (.ref pc),some (.int k0),o5,o6,o7]):=⟨_,fun _ _ _=>qq_⟩
   refine forR Pz ((nI _ _ _).mpr ⟨st,xs,bs,pc4,o5,o6,o7,rfl,s4,dz,iL,hb4,hB4,qH,hcw4,hcb4,qI,iK,rfl⟩) (fun i jl H5 hi h5=>?_) (fun jl H5 h5=>?_)
   ·obtain⟨bB,nJ,nK,qJ,p5,p6,p7,kz,s5,gm,jK,mF,mG,oD,kA,kB,gn,fU,rfl⟩:=(nI _ _ _).mp h5
    rw[wa_]
    have hfew5:=gn.few
    have hisw:=gn.wc.ok w (jd_ fU)
    obtain⟨tb,mn,htbv⟩:=mG.2 k0 w fU
    nofun
    refine⟨_,s5.seqT q1,_,rfl,wv,rfl,⟨_,s5.seqT q3⟩,Q8 (xs:=ts.map V.ref) (fun j zs af H'=>H'=H5/\zs=((rowB aa.length (bW aa ab) ((i:Int)::w)).take j).map V.int/\∃o,af=[o,some (.ref pb),some (.int k0),some (.int i)]) ⟨rfl,rfl,none,rfl⟩ (by rw[ja_,q4,wf.len];lia) (fun j zs af H' hj h'=>⟨by rw[h'.1];exact s5.seqT q3,by rw[h'.2.1,ja_,jx_];lia⟩) (fun j x zs af H' hx h'=>?_) (fun zs af H' h' D hD=>?_)⟩
    ·obtain⟨rfl,rfl,o,rfl⟩:=h'
     rw[jf_]at hx
     cases oE:ts[j]? with
     |none=>rw[oE]at hx;cases hx
     |some tj=>
      rw[oE]at hx
      cases hx
      have hj:j<aa.length:=by rw[<-wf.len,<-q4];exact (jb_.mp oE).1
      obtain⟨row,g,r1,r2,r3,r4,r5⟩:=wf.step (show (0:Int)<=(j:Nat) by lia) s!"" (show (0:Int)<=(i:Nat) by lia) s!""
      rw[jj_]at r1 r2
      have hrow:=q5 j tj row oE r1
      have jm:(rowB aa.length (bW aa ab) w)[g.toNat]?=some (bW aa ab ((i:Int)::w) j):=by
       rw[BT s!"",LO w (i:Int) j (by rw[r3];exact r4),r3]
      have nH:(rowB aa.length (bW aa ab) ((i:Int)::w))[j]?=some (bW aa ab ((i:Int)::w) j):=BT hj
      nofun
      refine⟨_,SqL.of mF,_,DY mn,_,s5.seqT hrow,_,A3 s!"" (by rw[jj_];exact r2),?_⟩
      have bj:((rowB aa.length (bW aa ab) ((i:Int)::w)).take j).map V.int++[V.int (bW aa ab ((i:Int)::w) j)]=((rowB aa.length (bW aa ab) ((i:Int)::w)).take (j+1)).map V.int:=by rw[jR_,nH,jS_];rfl
      rcases htbv with ⟨bo,_,_⟩|⟨mH,iM⟩
      ·exact .inl ⟨tb,rfl,_,g,rfl,SqL.of bo,_,A3 r4 jm,bj,_,rfl⟩
      ·exact .inr ⟨tb,rfl,_,g,rfl,by rw[mH];exact s5.seqT q2,_,A3 r4 (by have hv:=jm;rw[iM]at hv;exact hv),bj,_,rfl⟩
    ·obtain⟨rfl,rfl,o,rfl⟩:=h'
     rw[ja_,q4,wf.len,jX_ (by rw[Dn];exact ji_ _)]
     have ay:bB.2.zip (rowB aa.length (bW aa ab) ((i:Int)::w)) ≠ []:=fun z=>by
      have:=jG_ su z
      rw[z4_,gn.wc.len,Dn,uy,qn_]at this
      lia
     have fe:(zipW bB.2 (rowB aa.length (bW aa ab) ((i:Int)::w))).length=aa.length:=by
      unfold zipW
      rw[ja_,z4_,gn.wc.len,Dn];lia
     refine⟨D,rfl,_,SqL.of (Same.new hD _ _ oD),_,SqL.of Ab,by rw[ja_,ja_,gn.wc.len,Dn],fun l rs H6 s6 mI cW qK=>⟨l,rfl,.inr ⟨rs,zipW bB.2 (rowB aa.length (bW aa ab) ((i:Int)::w)),SqL.of Ab,⟨?_,fun j v hj=>?_⟩,by lia,fun pf H7 s7 kC hV=>?_⟩⟩⟩
     ·rw[cW,fe,ja_,gn.wc.len]
     ·unfold zipW at hj
      rw[jf_]at hj
      cases hq:(bB.2.zip (rowB aa.length (bW aa ab) ((i:Int)::w)))[j]? with
      |none=>rw[hq]at hj;cases hj
      |some p=>
       rw[hq]at hj
       cases hj
       obtain⟨u1,u2⟩:=qW_.mp (show (bB.2.zip (rowB aa.length (bW aa ab) ((i:Int)::w)))[j]?=some (p.1,p.2) from hq)
       obtain⟨t,t1,t2⟩:=qK j (V.int p.1) (V.int p.2) (by rw[jf_,u1];rfl) (by rw[jf_,u2];rfl)
       exact⟨t,t1,Same.new mI _ _ t2⟩
     have sD:Same H' (upd H' D (.lst ((rowB aa.length (bW aa ab) ((i:Int)::w)).map V.int))):=Same.new hD
     have fo:upd H' D (.lst ((rowB aa.length (bW aa ab) ((i:Int)::w)).map V.int)) D=some (.lst ((rowB aa.length (bW aa ab) ((i:Int)::w)).map V.int)):=Ab
     have kD:=(Same.new mI (o:=.lst rs)).trans s7
     have jL:=sD.trans (s6.trans kD)
     have oF:=(s6.trans kD) _ _ fo
     have oG:=jL _ _ gm
     have hb7:=jL _ _ mF
     have hc7:=jL _ _ oD
     have hDw:D≠pw:=fun z=>by rw[z,gm]at hD;cases hD
     have hDb:D≠pb:=fun z=>by rw[z,mF]at hD;cases hD
     have jo:H' pf=none:=sD.none (s6.none ((Same.new mI (o:=.lst rs)).none kC))
     have hpfw:pf≠pw:=fun z=>by rw[z,gm]at jo;cases jo
     have hpfb:pf≠pb:=fun z=>by rw[z,mF]at jo;cases jo
     have da:=gn.step cC fU hi
     have fq:Fu aa.length (bW aa ab) w (i+1) st=Ix aa.length (bW aa ab) w bB i:=by rw[Hy,<-kz]
     rw[R4]at hV
     refine⟨pf,rfl,_,SqL.of hV,(ncl (bB.2.zip (rowB aa.length (bW aa ab) ((i:Int)::w))):Int)-1,JG ay,(fun x hx=>by have:=MX hx;lia),_,SqL.of hc7,(ncl bB.2:Int)-1,gn.wc.top,(fun x hx=>by have:=gn.wc.rng x hx;lia),?_⟩
     refine ite2 (fun l9=>?_) (fun bh=>?_)
     ·have hgt':ncl bB.2<ncl (bB.2.zip (rowB aa.length (bW aa ab) ((i:Int)::w))):=by lia
      have qL:Ix aa.length (bW aa ab) w bB i=(bB.1++[(i:Int)::w],num (bB.2.zip (rowB aa.length (bW aa ab) ((i:Int)::w)))):=by unfold Ix;rw[if_pos hgt']
      obtain⟨tw,htw1,htw2⟩:=jK.2 k0 w fU
      have hwlen:=WC.short gn.wc k0 w fU
      refine⟨.inl ⟨rfl,_,SqL.of oG⟩,by lia,fun p1 bL=>⟨_,SqL.of (Same.new bL _ _ oG),_,DY htw1,EV.ofS Ab (Same.new bL _ _ (jL _ _ htw2)) (by simp;lia) fun q H8 s8 hq=>?_⟩⟩
      have nL:=(Same.new bL (o:=.tup [V.int i])).trans s8
      have hw8:=nL _ _ oG
      have hb8:=nL _ _ hb7
      have cg:=jK.1
      have qF:=mG.1
      refine⟨_,hw8,by lia,?_⟩
      have qM:upd H8 pw (.lst (nJ++[V.ref q])) pb=some (.lst nK):=by rw[Ah hpbw];exact hb8
      have qN:=jL.trans nL
      rw[qL]at da fq
      refine⟨.inl ⟨rfl,_,SqL.of qM⟩,_,qM,by lia,(nI _ _ _).mpr ⟨_,nJ++[V.ref q],nK++[V.ref D],pf,_,_,_,fq.symm,((s5.trans qN).over hpwH).over hpbH,by rw[Ah (qp_ hpbw),Ab],(((jK.mono (TK.of qN)).snoc (w:=(i:Int)::w) hq).mono (TK.lst hw8)).mono (TK.lst qM),Ab,?_,by rw[Ah hpfb,Ah hpfw];exact nL _ _ hV,hpfw,hpfb,da.1,da.2,rfl⟩⟩
      exact BehL.snoc (mG.keep (fun t o t1 t2 e=>by rw[Ah t2,Ah t1];exact qN _ _ e)) (by rw[Ah hDb,Ah hDw];exact nL _ _ oF) hDw hDb
     ·have kn:¬ ncl bB.2<ncl (bB.2.zip (rowB aa.length (bW aa ab) ((i:Int)::w))):=by lia
      have qL:Ix aa.length (bW aa ab) w bB i=bB:=by unfold Ix;rw[if_neg kn]
      rw[qL]at da fq
      exact (nI _ _ _).mpr ⟨bB,nJ,nK,qJ,_,_,_,fq.symm,s5.trans jL,oG,jK.mono (TK.of jL),hb7,mG.keep (fun t o _ _ e=>jL _ _ e),hc7,kA,kB,da.1,da.2,rfl⟩
   ·obtain⟨bB,nJ,nK,qJ,p5,p6,p7,kz,s5,gm,jK,mF,mG,oD,kA,kB,gn,fU,rfl⟩:=(nI _ _ _).mp h5
    nofun
    have e41:41-k0=(41-(k0+1))+1:=by lia
    refine (aq _ _ _).mpr ⟨bB,k0+1,nJ,nK,qJ,_,_,_,rfl,s5,gm,jK,mF,mG,oD,kA,kB,gn.next,?_,rfl⟩
    rw[kz,<-ho4,e41,KN iK]
  ·have e:st=wcOf aa.length L (bW aa ab):=by rw[<-ho4,IQ s!""]
   have bj:=qI.fin s!""
   rw[e]at iL qH bj
   exact⟨by lia,fun p hp=>k p pw pc4 xs _ (s4.newT hp) Ab hpwH (Same.new hp _ _ dz) (iL.mono (TK.new hp)) (Same.new hp _ _ qH) bj⟩
def Qy (K:α3):Sp:=fun vs H Q _=>∃(h:Addr) (L:Nat) (aa:α2) (ab:α1),vs=[.ref h]/\AV K H h L aa ab/\Wf L aa ab/\∀pw xs H',Same H H'->H pw=none->H' pw=some (.lst xs)->AA K H' xs (wcOf aa.length L (bW aa ab)).1->Fin17 aa.length L (bW aa ab) (wcOf aa.length L (bW aa ab))->Q (.ref pw) H'
def Oa   (F:Fun K "tellers" "tellers" Ef f fd)(T:Txt mg)
   (fV:⋯ 2 "words_and_classes" A4 ["house"] (UA K) BK BG)
  : nofun 3 f fd ["house"] (Qy K):=by
 delta N6
 ·obtain⟨h,L,aa,ab,rfl,_⟩:=h;rfl
 ·obtain⟨h,L,aa,ab,rfl,hh,wf,k⟩:=h
  refine⟨_,(Af (AE (Ag (ixTD Ao) (Ai fV hr.d AI (Aa (pvD 0) Ad)) Ae))),?_⟩
  nofun
  exact⟨h,L,aa,ab,rfl,hh,wf,fun t pw pc xs H' s' ht kF bI hW nM bj=>⟨t,rfl,_,SqT.of ht,_,rfl,k pw xs H' s' kF bI hW bj⟩⟩
def Td (K:α3):Sp:=fun vs H Q _=>∃(h:Addr) (L:Nat) (aa:α2) (ab:α1),vs=[.ref h]/\AV K H h L aa ab/\Wf L aa ab/\∀pc H',Same H H'->H' pc=some (.lst ((wcOf aa.length L (bW aa ab)).2.map V.int))->Fin17 aa.length L (bW aa ab) (wcOf aa.length L (bW aa ab))->Q (.ref pc) H'
def J6   (F:Fun K "classes_of" "classes_of" CS f fd)(T:Txt mg)
   (fV:⋯ 2 "words_and_classes" A4 ["house"] (UA K) BK BG)
  : nofun 3 f fd ["house"] (Td K):=by
 delta JW
 ·obtain⟨h,L,aa,ab,rfl,_⟩:=h;rfl
 ·obtain⟨h,L,aa,ab,rfl,hh,wf,k⟩:=h
  refine⟨_,(Af (AE (Ag (ixTD Ao) (Ai fV hr.d AI (Aa (pvD 0) Ad)) Ae))),?_⟩
  nofun
  exact⟨h,L,aa,ab,rfl,hh,wf,fun t pw pc xs H' s' ht kF bI hW nM bj=>⟨t,rfl,_,SqT.of ht,_,rfl,k pc H' s' nM bj⟩⟩
def HV {α:Type}[DecidableEq α]:∀(row ah:List α),∃t,Bx ah row=ah++t
 |[],ah=>⟨[],by simp[Bx]⟩
 |x::row,ah=>by
  obtain⟨t,ht⟩:=HV row (ins1 ah x)
  show ∃t,Bx (ins1 ah x) row=ah++t
  rw[ht]
  unfold ins1
  split
  ·exact⟨t,rfl⟩
  ·exact⟨x::t,by simp⟩
def Ob  [DecidableEq α](a b:List α):∃t,Ay (a++b)=Ay a++t:=by
 unfold Ay Bx
 rw[qA_]
 exact HV b _
def J7 {α:Type}[DecidableEq α]{row:List α}{i:Nat}{x:α}(h:x∈Ay (row.take i)):(Ay row).idxOf x=(Ay (row.take i)).idxOf x:=by
 obtain⟨t,ht⟩:=Ob (row.take i) (row.drop i)
 rw[xc_]at ht
 rw[ht,wh_,if_pos h]
def DU (c R:α2)(n i:Nat):List V:=(rY n).map fun r:Nat=>if (r:Int)∈R.take i then V.int (hm c R r) else V.non
def FO   : (DU c R n i).length=n:=by unfold DU;simp
def Qz {c R:α2}{n i:Nat}{r:Int}(hr:R[i]?=some r)(h0:0<=r)(h1:r<(n:Int)):(DU c R n i).set r.toNat (V.int (hm c R r))=DU c R n (i+1):=by
 have et:R.take (i+1)=R.take i++[r]:=by rw[jR_,hr];rfl
 refine qS_ fun j=>?_
 by_cases hj:j<n
 ·have e2:(DU c R n (i+1))[j]?=some (if (j:Int)∈R.take (i+1) then V.int (hm c R j) else V.non):=by
   unfold DU
   rw[jf_,qN_ hj];rfl
  have e1:(DU c R n i)[j]?=some (if (j:Int)∈R.take i then V.int (hm c R j) else V.non):=by
   unfold DU
   rw[jf_,qN_ hj];rfl
  rw[e2]
  by_cases e:r.toNat=j
  ·have nH:r=(j:Int):=by lia
   rw[<-e,qT_ (by rw[FO];lia),e,<-nH,if_pos (by rw[et];simp)]
  ·rw[xi_ e,e1]
   have ay:¬ (j:Int)=r:=fun z=>e s!""
   by_cases cu:(j:Int)∈R.take i
   ·rw[if_pos cu,if_pos (by rw[et];exact j6_ _ cu)]
   ·rw[if_neg cu,if_neg (by rw[et];intro z;rcases jw_.mp z with z|z;exact cu z;exact ay (jr_.mp z))]
 ·rw[jV_ (by rw[qU_,FO];lia),jV_ (by rw[FO];lia)]
def Nb (K:α3):Sp:=fun vs H Q _=>∃(h:Addr) (L:Nat) (aa:α2) (ab:α1),vs=[.ref h]/\AV K H h L aa ab/\Wf L aa ab/\∀p H',Same H H'->H p=none->H' p=some (.lst (DU (wcOf aa.length L (bW aa ab)).2 ((Au ab).map (·.1)) aa.length ((Au ab).map (·.1)).length))->Fin17 aa.length L (bW aa ab) (wcOf aa.length L (bW aa ab))->RF L aa.length ab ((Au ab).map (·.1))->Q (.ref p) H'
def R5   (F:Fun K "homes" "homes" JX f fd)(T:Txt mg)
   (fW:⋯ 2 "reached" Ee ["house"] (Gg K) HW Gh)
   (kG:⋯ 3 "classes_of" CS ["house"] (Td K) Gy FP)
  : nofun 4 f fd ["house"] (Nb K):=by
 delta FC
 ·obtain⟨h,L,aa,ab,rfl,_⟩:=h;rfl
 ·obtain⟨h,L,aa,ab,rfl,hh,wf,k⟩:=h
  have hl:=Ar
  have aW:=wf.n40
  obtain⟨mm,wv,q1,q2,q3⟩:=id hh
  refine⟨_,(Ac (Ak (i:=1) FC.nd (Ai kG hr.d AI (Aa (pvD 0) Ad)))
   (Ac (Ak (i:=2) FC.nd Mx)
   (Ac (Ak (i:=3) FC.nd (An OJ (Bl (Aa Om Ad)) (Aq (lenD Aj) (by rfl) T.len jH_ (Aa (Ag (ixTD Ao) (pvD 0) Ae) Ad))))
   (Ac (Bo jI_ rfl (AS (Ai fW hr.d AI (Aa (pvD 0) Ad))) (Am (i:=4) FC.nd rfl (r9 rfl))
   (Af (Kj (NP (pvD 2) (Ag (ixLD AT) (pvD 1) (pvD 4)) (Aq KM (by rfl) T.len jH_ (Aa (pvD 2) Ad)) ⟨by rfl,by rfl,by rfl,by rfl⟩) (Ki (pvD 3) (pvD 4) set_list))))
   (Af (AE (pvD 3))))))),?_⟩
  nofun
  refine⟨h,L,aa,ab,rfl,hh,wf,fun pc H1 s1 nM bj=>?_⟩
  intro pd mJ
  have sd:=s1.newT mJ (o:=.dK [])
  refine⟨by lia,fun p1 bL=>⟨_,(sd.newT bL).seqT q1,_,rfl,mm,rfl,_,.inr ((sd.newT bL).seqT q2),_,Ab,by lia,by rw[ja_];lia,by rw[ja_,jP_,jj_];lia,fun pt je=>?_⟩⟩
  rw[ja_,jj_]
  have sT:=(sd.newT bL (o:=.lst [V.non])).newT je (o:=.lst (rX aa.length [V.non]).flatten)
  have kH:H pt=none:=(sd.newT bL (o:=.lst [V.non])).none je
  have hpdN:H pd=none:=s1.none mJ
  have kI:upd (upd (upd H1 pd (.dK [])) p1 (.lst [V.non])) pt (.lst (rX aa.length [V.non]).flatten) pd=some (.dK []):=(Same.new je) _ _ ((Same.new bL) _ _ Ab)
  have kJ:upd (upd (upd H1 pd (.dK [])) p1 (.lst [V.non])) pt (.lst (rX aa.length [V.non]).flatten) pt=some (.lst (rX aa.length [V.non]).flatten):=Ab
  have kK:upd (upd (upd H1 pd (.dK [])) p1 (.lst [V.non])) pt (.lst (rX aa.length [V.non]).flatten) pc=some (.lst ((wcOf aa.length L (bW aa ab)).2.map V.int)):=(Same.new je) _ _ ((Same.new bL) _ _ ((Same.new mJ) _ _ nM))
  generalize upd (upd (upd H1 pd (.dK [])) p1 (.lst [V.non])) pt (.lst (rX aa.length [V.non]).flatten)=HT at sT kI kJ kK ⊢
  clear sd bL je mJ s1 nM
  refine⟨h,L,aa,ab,rfl,hh.mono sT,wf,fun pR H2 s2 dA kL rf=>⟨pR,rfl,⟨_,SqL.of kL⟩,?_⟩⟩
  generalize hR:(Au ab).map (·.1)=R at kL rf k
  generalize dC:wcOf aa.length L (bW aa ab)=st at kK bj k
  have s02:=sT.trans s2
  have jq:=s2 _ _ kI
  have kM:=s2 _ _ kJ
  have hX:=s2 _ _ kK
  have qO:pd≠pt:=fun z=>by rw[z,kM]at jq;cases jq
  have hRt:pR≠pt:=fun z=>by rw[z,kJ]at dA;cases dA
  have hRd:pR≠pd:=fun z=>by rw[z,kI]at dA;cases dA
  have ck:pc≠pd:=fun z=>by rw[z,jq]at hX;cases hX
  have hct:pc≠pt:=fun z=>by
   rw[z,kM]at hX
   have bZ:=bj.wc.len
   have e:=js_ hX
   injection e with e
   have cC:=wf.n1
   have e0:=jG_ (fun l:List V=>l[0]?) e
   obtain⟨n,hn⟩:∃n,aa.length=n+1:=⟨aa.length-1,by lia⟩
   cases hc:st.2 with
   |nil=>rw[hc]at bZ;simp at bZ;lia
   |cons a r=>rw[hc,hn]at e0;simp[qo_]at e0
  have cO:∀x y:Int,(r6 x:Key)=r6 y->x=y:=fun x y z=>Sum.inl.inj z
  obtain⟨Pv,aq⟩:∃Pv:Nat->St->Hp->Prop,∀i af H',Pv i af H'↔(∃o:Option V,Same H H'/\H' pR=some (.lst (R.map V.int))/\H' pc=some (.lst (st.2.map V.int))/\H' pd=some (.dK (numD (fun x:Int=>(r6 x:Key)) (Ay ((R.map (cf st.2)).take i))))/\H' pt=some (.lst (DU st.2 R aa.length i))/\af=[some (.ref h),some (.ref pc),some (.ref pd),some (.ref pt),o]):=⟨_,fun _ _ _=>qq_⟩
  refine forL (xs:=R.map V.int) Pv ((aq _ _ _).mpr ⟨none,s02,kL,hX,jq,?_,rfl⟩) (fun i af H' _ h'=>by obtain⟨_,_,h2,_⟩:=(aq _ _ _).mp h';exact SqL.of h2) (fun i x af H' hx h'=>?_) (fun af H' h'=>?_)
  ·rw[kM]
   congr 2
   unfold DU
   refine qS_ fun j=>?_
   by_cases hj:j<aa.length
   ·rw[jf_,qN_ hj];simp[hj]
   ·rw[jV_ (by simp;lia),jV_ (by simp;lia)]
  ·obtain⟨o,s',eJ,jr,hZ,h8,rfl⟩:=(aq _ _ _).mp h'
   obtain⟨r,hr,rfl⟩:=Cf hx
   have fj:=jd_ hr
   have cJ:=rf.rng r fj
   have nz:(R.map (cf st.2))[i]?=some (cf st.2 r):=by rw[jf_,hr];rfl
   have bZ:=bj.wc.len
   have mB:=J5 (R.map (cf st.2)) i
   rw[ja_]at mB
   have qP:=rf.len
   have nd:=Bd ((R.map (cf st.2)).take i)
   have et:=Dy nz
   have hcat:(st.2)[r.toNat]?=some (cf st.2 r):=by unfold cf;rw[jk_];simp[show r.toNat<st.2.length by lia]
   nofun
   have gZ:ixN (DU st.2 R aa.length i).length r=some r.toNat:=by rw[FO];exact Vo cJ.1 s!""
   have ic:=Qz (c:=st.2) (n:=aa.length) hr cJ.1 cJ.2
   refine⟨.inl ⟨_,.inl hZ⟩,_,SqL.of jr,_,A3 cJ.1 hcat,.inl ⟨_,hZ,_,rfl,_,hZ,by rw[Dx];lia,fun v hv=>?_,fun hn=>?_⟩⟩
   ·by_cases cu:cf st.2 r∈Ay ((R.map (cf st.2)).take i)
    ·have e:=Dc (k:=fun x:Int=>(r6 x:Key)) cO nd cu
     have e2:=hv.symm.trans e
     cases e2
     have eh:hm st.2 R r=(((Ay ((R.map (cf st.2)).take i)).idxOf (cf st.2 r):Nat):Int):=by unfold hm;rw[J7 cu]
     refine⟨_,h8,_,gZ,(aq _ _ _).mpr ⟨_,s'.over kH,by rw[Ah hRt];exact eJ,by rw[Ah hct];exact jr,by rw[Ah qO,et,ins1,if_pos cu];exact hZ,by rw[Ab,<-ic,eh],rfl⟩⟩
    ·have e:=FN (k:=fun x:Int=>(r6 x:Key)) cO cu
     have e2:=hv.symm.trans e
     cases e2
   ·have cu:cf st.2 r∉Ay ((R.map (cf st.2)).take i):=fun z=>by
     have e:=Dc (k:=fun x:Int=>(r6 x:Key)) cO nd z
     have e2:=hn.symm.trans e
     cases e2
    have eI:=J4 (k:=fun x:Int=>(r6 x:Key)) cO cu
    have eh:hm st.2 R r=((numD (fun x:Int=>(r6 x:Key)) (Ay ((R.map (cf st.2)).take i))).length:Int):=by
     unfold hm
     rw[Dx,J7 (i:=i+1) (by rw[et,ins1,if_neg cu];simp),et,ins1,if_neg cu,LN cu]
    have hpt2':upd H' pd (.dK (putK (numD (fun x:Int=>(r6 x:Key)) (Ay ((R.map (cf st.2)).take i))) (r6 (cf st.2 r)) (V.int ((numD (fun x:Int=>(r6 x:Key)) (Ay ((R.map (cf st.2)).take i))).length:Int)))) pt=some (.lst (DU st.2 R aa.length i)):=by rw[Ah (qp_ qO)];exact h8
    refine⟨_,hpt2',_,gZ,(aq _ _ _).mpr ⟨_,(s'.over hpdN).over kH,by rw[Ah hRt,Ah hRd];exact eJ,by rw[Ah hct,Ah ck];exact jr,?_,by rw[Ab,<-ic,eh],rfl⟩⟩
    rw[Ah qO,Ab,et,ins1,if_neg cu,Dx]
    exact jG_ (fun z=>some (HO.dK z)) eI
  ·obtain⟨o,s',eJ,jr,hZ,h8,rfl⟩:=(aq _ _ _).mp h'
   rw[ja_]at h8
   nofun
   exact k pt _ s' kH h8 bj rf
def V5    (h:R[i]?=some r):(hm c R r=((FR c (R.take i)).length:Int))↔cf c r∉(FR c (R.take i)).map (cf c):=by
 have nz:(R.map (cf c))[i]?=some (cf c r):=by rw[jf_,h];rfl
 have aj:(FR c (R.take i)).length=(Ay ((R.map (cf c)).take i)).length:=by
  have:=jG_ su (Hz c (R.take i))
  rw[ja_,uh]at this
  exact this
 rw[Hz,uh,aj]
 have et:=Dy nz
 unfold hm
 constructor
 ·intro e cu
  rw[J7 cu]at e
  have:=qO_ cu
  lia
 ·intro cu
  rw[J7 (i:=i+1) (by rw[et,ins1,if_neg cu];simp),et,ins1,if_neg cu,LN cu]
def Nc {c R:α2}{n:Nat}{r:Int}(hr:r∈R)(h0:0<=r)(h1:r<(n:Int)):(DU c R n R.length)[r.toNat]?=some (V.int (hm c R r)):=by
 unfold DU
 rw[jf_,qN_ s!"",jQ_]
 have e:((r.toNat:Nat):Int)=r:=by lia
 show some (if ((r.toNat:Nat):Int)∈R then V.int (hm c R ((r.toNat:Nat):Int)) else V.non)=_
 rw[e,if_pos hr]
def AA.toRows {K:α3}{H:Hp}{w:Addr}{zs:List V}{ws:α1}(h:AA K H zs ws)(hw:SqT K H w zs):Rows K H w ws:=by
 refine⟨zs.map (fun v=>match v with | .ref t=>t|_=>0),?_,by rw[ja_];exact h.1,fun i t r hi hr=>?_⟩
 ·have e:(zs.map (fun v=>match v with | .ref t=>t|_=>0)).map V.ref=zs:=by
   rw[jW_]
   refine qS_ fun i=>?_
   rw[jf_]
   by_cases hi:i<ws.length
   ·obtain⟨t,a,_⟩:=h.2 i ws[i] (by simp[hi])
    rw[a];rfl
   ·rw[jV_ (by rw[h.1];lia)];rfl
  rw[e];exact hw
 ·obtain⟨t',a,b⟩:=h.2 i r hr
  rw[jf_,a]at hi
  cases hi
  exact SqT.of b
def J8 (K:α3):Sp:=fun vs H Q _=>∃(h:Addr) (L:Nat) (aa:α2) (ab:α1),vs=[.ref h]/\AV K H h L aa ab/\Wf L aa ab/\∀t H',Same H H'->AV K H' t L (sM L aa ab) (sW L aa ab)->Q (.ref t) H'
def R6   (F:Fun K "least" "least" HJ f fd)(T:Txt mg)
   (fW:⋯ 2 "reached" Ee ["house"] (Gg K) HW Gh)
   (ie:⋯ 4 "homes" JX ["house"] (Nb K) QA Nd)
  : nofun 5 f fd ["house"] (J8 K):=by
 delta FD
 ·obtain⟨h,L,aa,ab,rfl,_⟩:=h;rfl
 ·obtain⟨h,L,aa,ab,rfl,hh,wf,k⟩:=h
  have hl:=Ar
  have aW:=wf.n40
  have dv:=wf.l6
  obtain⟨mm,wv,q1,q2,q3⟩:=id hh
  refine⟨_,(Ac (Ba (i:=1) FD.nd rfl (sk rfl) (Ai ie hr.d AI (Aa (pvD 0) Ad)))
   (Ac (Ak (i:=2) FD.nd (Bl Ad))
   (Ac (Ak (i:=3) FD.nd (Bl Ad))
   (Ac (Bo jI_ rfl (AS (Ai fW hr.d AI (Aa (pvD 0) Ad))) (Am (i:=4) FD.nd rfl (r9 rfl))
   (Af (BF (ptT (As (opE B6) (Ag (ixLD AT) (pvD 1) (pvD 4)) (Aq (lenD Aj) (by rfl) T.len jH_ (Aa (pvD 2) Ad)) (AF _)))
   (Ac (A8 (C1 jE_ jL_ jM_ AO (pvD 2) (Aa (Ag (ixTD Ao) (Ag (ixTD Ao) (pvD 0) Ae) (pvD 4)) Ad)))
   (Af (A8 (C1 jE_ jL_ jM_ AO (pvD 3) (Aa (AB Ax rfl T.tuple jF_ (Aa (A1 rfl (A2 rfl) (cp:=K2) ⟨⟨rfl,rfl⟩,rZ⟩ (EU (Ag (ixTD Ao) (Ag (ixTD Ao) (pvD 0) Ae) (pvD 4))) (fun _ _ _ _=>(Am (i:=0) K3 rfl (r9 rfl))) (fun _ _ _ _=>Bc) (fun _ _ _ _=>(Ag (ixLD (Bj (K:=K) rfl)) (pvD 1) (pvD 0)))) Ad)) Ad)))))
   AH)))
   (Af (AE (Bs (Aa (Ag (ixTD Ao) (pvD 0) Ae) (Aa (AB Ax rfl T.tuple jF_ (Aa (pvD 2) Ad)) (Aa (AB Ax rfl T.tuple jF_ (Aa (pvD 3) Ad)) Ad)))))))))),?_⟩
  nofun
  refine⟨h,L,aa,ab,rfl,hh,wf,fun ph H1 s1 hphN mK bj rf=>?_⟩
  generalize hR:(Au ab).map (·.1)=R at mK rf
  generalize dC:wcOf aa.length L (bW aa ab)=st at mK bj
  refine⟨jY_ _,fun pm cE=>⟨jY_ _,fun pv d8=>?_⟩⟩
  have hpmN:H pm=none:=s1.none cE
  have s2:=(s1.newT cE (o:=.lst [])).newT d8 (o:=.lst [])
  have hpvN:H pv=none:=(s1.newT cE (o:=.lst [])).none d8
  have dS:upd (upd H1 pm (.lst [])) pv (.lst []) pm=some (.lst []):=(Same.new d8) _ _ Ab
  have kN:upd (upd H1 pm (.lst [])) pv (.lst []) pv=some (.lst []):=Ab
  have hph2:upd (upd H1 pm (.lst [])) pv (.lst []) ph=some (.lst (DU st.2 R aa.length R.length)):=(Same.new d8) _ _ ((Same.new cE) _ _ mK)
  have hphm:ph≠pm:=fun z=>by rw[z,cE]at mK;cases mK
  have oH:pm≠pv:=fun z=>by rw[<-z,Ab]at d8;cases d8
  have hphv:ph≠pv:=fun z=>by rw[<-z,(Same.new cE) _ _ mK]at d8;cases d8
  generalize upd (upd H1 pm (.lst [])) pv (.lst [])=H2 at s2 dS kN hph2 ⊢
  refine⟨h,L,aa,ab,rfl,hh.mono s2,wf,fun pR H3 s3 dA kL rf2=>?_⟩
  rw[hR]at kL
  have mE:=s2.trans s3
  have hRm:pR≠pm:=fun z=>by rw[z,dS]at dA;cases dA
  have hRv:pR≠pv:=fun z=>by rw[z,kN]at dA;cases dA
  have hpm3:=s3 _ _ dS
  have hpv3:=s3 _ _ kN
  have hph3:=s3 _ _ hph2
  refine⟨pR,rfl,⟨_,SqL.of kL⟩,?_⟩
  obtain⟨Pv,aq⟩:∃Pv:Nat->St->Hp->Prop,∀i af H',Pv i af H'↔(∃(zs:List V) (o:Option V),Same H H'/\H' pR=some (.lst (R.map V.int))/\H' ph=some (.lst (DU st.2 R aa.length R.length))/\H' pm=some (.lst (((FR st.2 (R.take i)).map (mkR aa)).map V.int))/\H' pv=some (.lst zs)/\AA K H' zs ((FR st.2 (R.take i)).map (hrow st.2 R ab))/\af=[some (.ref h),some (.ref ph),some (.ref pm),some (.ref pv),o]):=⟨_,fun _ _ _=>qq_⟩
  refine forL (xs:=R.map V.int) Pv ((aq _ _ _).mpr ⟨[],none,mE,kL,hph3,hpm3,hpv3,AA.nil,rfl⟩) (fun i af H' _ h'=>by obtain⟨_,_,_,h2,_⟩:=(aq _ _ _).mp h';exact SqL.of h2) (fun i x af H' hx h'=>?_) (fun af H' h'=>?_)
  ·obtain⟨zs,o,s',eJ,js,dU,jt,mL,rfl⟩:=(aq _ _ _).mp h'
   obtain⟨r,hr,rfl⟩:=Cf hx
   have fj:=jd_ hr
   have cJ:=rf.rng r fj
   have mB:=M0 st.2 (R.take i)
   have qP:=rf.len
   rw[jx_]at mB
   have m8:=Nc (c:=st.2) (n:=aa.length) fj cJ.1 cJ.2
   have dO:=V5 (c:=st.2) hr
   have eFR:=P9 (c:=st.2) hr
   obtain⟨row,ig,ft,hrow3⟩:=wf.row cJ.1 cJ.2
   have cF:=wf.rows row ft
   have jU:∀g∈row,g∈R:=fun g hg=>by
    obtain⟨x,hx⟩:=jK_.mp hg
    have cg:=(jb_.mp hx).1
    have:=rf.cls r fj x s!""
    rwa [BC ig (by rw[jj_];exact hx)]at this
   have iM:aa[r.toNat]?=some (mkR aa r):=by unfold mkR;rw[jk_];simp[show r.toNat<aa.length by lia]
   have mM:hrow st.2 R ab r=row.map (hm st.2 R):=by unfold hrow;rw[jk_,ig];rfl
   obtain⟨xs1,t1,z1,z2,z3⟩:=q3.atZ cJ.1 ig
   nofun
   refine⟨_,SqL.of js,_,B7 cJ.1 m8,_,.inl (SqL.of dU),?_⟩
   rw[ja_,ja_]
   refine⟨rfl,ite2 (fun he=>?_) (fun he=>?_)⟩
   ·have hnot:=dO.mp (V.int.inj he)
    have ik:FR st.2 (R.take (i+1))=FR st.2 (R.take i)++[r]:=by rw[eFR,Bt,if_neg hnot]
    refine⟨.inl ⟨rfl,_,SqL.of dU⟩,_,s'.seqT q1,_,rfl,mm,rfl,_,s'.seqT q2,_,A3 cJ.1 iM,_,dU,by rw[ja_,ja_];lia,?_⟩
    have sM:=s'.over hpmN (o:=.lst (((FR st.2 (R.take i)).map (mkR aa)).map V.int++[V.int (mkR aa r)]))
    have kO:upd H' pm (.lst (((FR st.2 (R.take i)).map (mkR aa)).map V.int++[V.int (mkR aa r)])) pv=some (.lst zs):=by rw[Ah (qp_ oH)];exact jt
    have kP:upd H' pm (.lst (((FR st.2 (R.take i)).map (mkR aa)).map V.int++[V.int (mkR aa r)])) ph=some (.lst (DU st.2 R aa.length R.length)):=by rw[Ah hphm];exact js
    have hpRM:upd H' pm (.lst (((FR st.2 (R.take i)).map (mkR aa)).map V.int++[V.int (mkR aa r)])) pR=some (.lst (R.map V.int)):=by rw[Ah hRm];exact eJ
    have hpmM:upd H' pm (.lst (((FR st.2 (R.take i)).map (mkR aa)).map V.int++[V.int (mkR aa r)])) pm=some (.lst (((FR st.2 (R.take i)).map (mkR aa)).map V.int++[V.int (mkR aa r)])):=Ab
    have hZM:=mL.mono (TK.lst dU (o:=.lst (((FR st.2 (R.take i)).map (mkR aa)).map V.int++[V.int (mkR aa r)])))
    generalize upd H' pm (.lst (((FR st.2 (R.take i)).map (mkR aa)).map V.int++[V.int (mkR aa r)]))=HM at sM kO kP hpRM hpmM hZM ⊢
    obtain⟨f,hf⟩:∃f:V->V,∀n:Int,f (V.int n)=.int (hm st.2 R n):=⟨fun x=>match x with | .int n=>.int (hm st.2 R n)|_=>.non,fun _=>rfl⟩
    refine⟨.inl ⟨rfl,_,SqL.of kO⟩,_,sM.seqT q1,_,rfl,wv,rfl,_,sM.seqT z1,_,z2,t1,rfl,⟨_,sM.seqT z3⟩,EC (af:=[some (.ref ph)]) f rfl (sM.seqT z3) (by rw[ja_];lia) (fun x hx R' jM=>?_) (fun D hD=>?_)⟩
    ·obtain⟨g,hg,rfl⟩:=CO hx
     rw[hf]at jM
     have qQ:=cF.2 g hg
     nofun
     exact⟨_,SqL.of kP,_,B7 qQ.1 (Nc (jU g hg) qQ.1 qQ.2),jM⟩
    ·have em:(row.map V.int).map f=(hrow st.2 R ab r).map V.int:=by
      rw[mM,jW_,jW_]
      exact qx_ fun n _=>hf n
     rw[em]
     refine⟨D,rfl,_,.inl ⟨SqL.of Ab,fun tl htl=>?_⟩⟩
     have sX:=(Same.new hD (o:=.lst ((hrow st.2 R ab r).map V.int))).newT htl (o:=.tup ((hrow st.2 R ab r).map V.int))
     have hpvX:=sX _ _ kO
     have fe:zs.length<=1000:=by rw[mL.1,ja_];lia
     refine⟨_,hpvX,by lia,(aq _ _ _).mpr ⟨zs++[V.ref tl],_,(sM.trans sX).over hpvN,by rw[Ah hRv];exact sX _ _ hpRM,by rw[Ah hphv];exact sX _ _ kP,?_,Ab,?_,rfl⟩⟩
     ·rw[Ah oH,sX _ _ hpmM,ik,jS_,jS_];rfl
     ·rw[ik,jS_]
      exact ((hZM.mono (TK.of sX)).snoc (w:=hrow st.2 R ab r) Ab).mono (TK.lst hpvX)
   ·have cc:cf st.2 r∈(FR st.2 (R.take i)).map (cf st.2):=Decidable.byContradiction fun z=>he (by rw[dO.mpr z])
    have ik:FR st.2 (R.take (i+1))=FR st.2 (R.take i):=by rw[eFR,Bt,if_pos cc]
    exact (aq _ _ _).mpr ⟨zs,_,s',eJ,js,by rw[ik];exact dU,jt,by rw[ik];exact mL,rfl⟩
  ·obtain⟨zs,o,s',eJ,js,dU,jt,mL,rfl⟩:=(aq _ _ _).mp h'
   rw[ja_,jQ_]at dU mL
   nofun
   refine⟨_,s'.seqT q1,_,rfl,_,.inl ⟨SqL.of dU,fun tm mH=>⟨_,.inl ⟨SqL.of ((Same.new mH) _ _ jt),fun tw nN=>⟨by lia,fun t ht=>?_⟩⟩⟩⟩⟩
   have sE:=((Same.new mH (o:=.tup (((FR st.2 R).map (mkR aa)).map V.int))).newT nN (o:=.tup zs)).newT ht (o:=.tup [V.int L,V.ref tm,V.ref tw])
   subst hR dC
   exact k t _ (s'.trans sE) ⟨tm,tw,SqT.of Ab,SqT.of ((Same.new ht) _ _ ((Same.new nN) _ _ Ab)),AA.toRows (mL.mono (TK.of sE)) (SqT.of ((Same.new ht) _ _ Ab))⟩
abbrev LamH (K:α3)(H:Hp):Prop:=LamT (tabP K "in_order") FF (Str.ofString "in_order" ++ ".<locals>.") H
def FQ {K:α3}{H:Hp}:∀{us:α1} {xs:List V},AA K H xs us->∃os:List aO.Wd,xs=aO.wv os/\os.map (·.2)=us/\∀w∈os,H w.1=some (.tup (w.2.map V.int))
 |[],xs,h=>⟨[],List.length_eq_zero_iff.mp h.1,rfl,fun w hw=>by cases hw⟩
 |u::us,xs,h=>by
  obtain⟨t,h1,h2⟩:=h.2 0 u rfl
  match xs,h with
  |[],h=>exact absurd h.1 (by simp)
  |x::xs,h=>
   have e:x=V.ref t:=by simpa using h1
   obtain⟨os,e1,e2,e3⟩:=FQ (K:=K) (H:=H) (us:=us) (xs:=xs) ⟨by simpa using h.1,fun i w hw=>h.2 (i+1) w (by simpa using hw)⟩
   refine⟨(t,u)::os,by rw[e,e1];rfl,by simp[e2],fun w hw=>?_⟩
   rcases jD_.mp hw with rfl|hw
   ·exact h2
   ·exact e3 w hw
def WsT (H:Hp)(os:List aO.Wd):Prop:=∀w∈os,H w.1=some (.tup (w.2.map V.int))
def Te (K:α3):Sp:=fun vs H Q _=>∃(a:Addr) (xs:List V) (ws:α1),vs=[.ref a]/\SqL K H a xs/\AA K H xs ws/\ws.length<sizeLine/\LamH K H /\
 ∀D H' os,BR (tabP K "in_order") H H'->LamH K H'->H D=none->H' D=some (.lst (aO.wv os))->WsT H' os->(os.map (·.2)).Perm (ws.foldl ins [])->aO.Srt os->Q (.ref D) H'
def Mc   (F:FunL K mg base "in_order" "in_order" Cd f fd)(T:Txt mg)
  : nofun 4 f fd ["words"] (Te K):=by
 refine F.ok Ff (fun vs H Q E h=>?_) (fun aA ck A outer s H vs Q E hr h=>?_)
 ·obtain⟨a,xs,ws,rfl,_⟩:=h;rfl
 ·obtain⟨a,xs,ws,rfl,hs,hW,hz,hT,k⟩:=h
  have hl:=Ar
  refine⟨_,(Ac (Ba (i:=1) Ff.nd rfl (r9 rfl) My)
   (Ac (Bo jI_ rfl (AS (pvD 0)) (Am (i:=2) Ff.nd rfl (r9 rfl))
   (Af (Jp (Hi hr) (pvD 1) (pvD 2) Ls rfl)))
   (Af (AE (N2 (k:=0) (c:=tabC K "in_order") (P:=tabP K "in_order") (lp:=FF) (qual:=Str.ofString "in_order" ++ ".<locals>.") hr rfl T.sorted T.len ck F.C F.B (Aa (AB (Hu rfl) rfl T.list xr_ (Aa (pvD 1) Ad)) Ad)))))),?_⟩
  nofun
  intro p hp
  have sp:=Same.new (o:=.dT []) hp
  refine⟨⟨_,sp.seq hs⟩,?_⟩
  obtain⟨Py,nO⟩:∃Pv:Nat->St->Hp->Prop,∀j af H',Pv j af H'↔(∃(kvs:List (List Key×V)) (o':Option V),Same H H'/\H' p=some (.dT kvs)/\EM ((ws.take j).foldl ins []) kvs/\af=[some (.ref a),some (.ref p),o']):=⟨_,fun _ _ _=>qq_⟩
  refine forL (xs:=xs) Py ((nO _ _ _).mpr ⟨[],_,sp,Ab,by rw[wc_];exact EM.nil,rfl⟩) (fun j af H' _ h'=>by obtain⟨_,_,s',_⟩:=(nO _ _ _).mp h';exact s'.seq hs) (fun j y aE H3 hy h3=>?_) (fun aE H3 h3=>?_)
  ·obtain⟨kvs,o',s3,hd,hk,rfl⟩:=(nO _ _ _).mp h3
   obtain⟨u,v,dY,rfl,hu⟩:=hW.at hy
   have hj:j<ws.length:=(jb_.mp dY).1
   have aj:kvs.length<sizeLine:=by
    have h1:=Cb (ws.take j) []
    rw[hk.len]
    rw[jx_,qn_]at h1
    lia
   nofun
   have iE:H3 u=some (.tup ((wkey v).map kV)):=by rw[JD];exact s3 _ _ hu
   refine⟨_,DPut.t (k:=wkey v) hd iE s!"",(nO _ _ _).mpr ⟨_,_,s3.over hp,Ab,?_,rfl⟩⟩
   rw[jR_,dY,qv_,qA_]
   exact hk.put _ _
  ·obtain⟨kvs,o',s3,hd,hk,rfl⟩:=(nO _ _ _).mp h3
   rw[hW.1,jQ_]at hk
   nofun
   refine⟨kvs,.inl hd,fun l rs mj cW qK=>?_⟩
   have hWr:AA K (upd H3 l (.lst rs)) rs (ws.foldl ins []):=(hk.words (K:=K) cW qK).mono (TK.new mj)
   obtain⟨qR,e1,e2,e3⟩:=FQ hWr
   have s4:Same H (upd H3 l (.lst rs)):=s3.newT mj
   have mN:=hT.mono s4
   have aj:qR.length<sizeLine:=by
    have h1:=jG_ su e2
    have h2:=Cb ws []
    rw[ja_]at h1
    rw[qn_]at h2
    lia
   have qS:SqL K (upd H3 l (.lst rs)) l (aO.wv qR):=by rw[<-e1];exact SqL.of Ab
   generalize upd H3 l (.lst rs)=H4 at hWr e3 s4 mN qS ⊢
   refine⟨qR,qS,fun w hw=>SqT.of (e3 w hw),aj,mN,fun H5 D os s5 oI iN hD cS hsrt=>?_⟩
   refine k D H5 os (fun b o hb e=>s5 b o hb (s4 b o e)) oI (Same.none s4 iN) hD (fun w hw=>?_) ?_ hsrt
   ·have h1:=e3 w (cS.mem_iff.mp hw)
    obtain⟨_,nQ⟩:=mN.is
    exact s5.ne h1 (fun _ z=>by cases z) nQ
   ·have:=cS.map (·.2)
    rw[e2]at this
    exact this
def Tf (K:α3)(H:Hp)(e:Addr)(n:Nat)(E:Nat->α1):Prop:=∃es:List V,H e=some (.lst es)/\∀r,r<n->∃q ys,es[r]?=some (.ref q)/\H q=some (.lst ys)/\AA K H ys (E r)
def wayW (ab:α1)(r:Nat):α2:=(((Au ab).find? fun e=>e.1==(r:Int)).getD (0,[])).2
def Md {ab:α1}(nod:((Au ab).map (·.1)).Nodup){r:Nat}{w:α2}(h:((r:Int),w)∈Au ab):wayW ab r=w:=by
 unfold wayW
 cases hf:(Au ab).find? fun e=>e.1==(r:Int) with
 |none=>exact absurd (xA_.mp hf _ h) (by simp)
 |some e=>
  have h1:=z5_ hf
  have h2:=xa_ hf
  have e1:e.1=(r:Int):=by simpa using h1
  obtain⟨i,hi,ei⟩:=jN_ h2
  obtain⟨j,hj,ej⟩:=jN_ h
  have ij:i=j:=(xT_ (h₀:=by simpa using hi) (h₁:=by simpa using hj) nod).mp (by simp[ei,ej,e1])
  subst ij
  rw[ei]at ej
  rw[uT,ej]
def oneW (ab:α1)(E:Nat->α1)(r:Nat)(m:α2):α1:=(E (Az ab (wayW ab r++m)).toNat).map ((wayW ab r++m) ++ ·)
def allW (ab:α1)(n:Nat)(dB:α1)(E:Nat->α1):α1:=(rY n).flatMap fun r=>dB.flatMap (oneW ab E r)
abbrev Dd (L:Int)(m:Nat):α1:=(rY (many L (m+2)).toNat).map (nth L)
def FS {α β:Type}{f:α->List β}{c:Nat}:∀(l:List α),(∀x∈l,(f x).length<=c)->(l.flatMap f).length<=l.length*c
 |[],_=>by simp
 |x::l,h=>by
  have h1:=h x jo_
  have h2:=FS l (fun y hy=>h y (jm_ _ hy))
  rw[List.flatMap_cons,jl_,jU_,v3]
  lia
def Oc {K:α3}    (h:AA K H xs us)(g:AA K H ys vs):AA K H (xs++ys) (us++vs):=by
 refine⟨by rw[jl_,jl_,h.1,g.1],fun i w hw=>?_⟩
 by_cases hi:i<us.length
 ·rw[je_ hi]at hw
  obtain⟨t,a,b⟩:=h.2 i w hw
  exact⟨t,by rw[je_ (by rw[h.1];exact hi)];exact a,b⟩
 ·rw[jp_ s!""]at hw
  obtain⟨t,a,b⟩:=g.2 _ w hw
  exact⟨t,by rw[jp_ (by rw[h.1];lia),h.1];exact a,b⟩
def Me (K:α3):Sp:=fun vs H Q _=>∃(h e:Addr) (L:Int) (m:Nat) (aa:α2) (ab:α1) (E:Nat->α1),vs=[.ref h,.int m,.ref e]/\AV K H h L aa ab/\Wf L aa ab/\m<=3/\many L (m+2)<=341/\Tf K H e aa.length E/\(∀r,r<aa.length->(E r).length<=40/\∀w∈E r,w.length<=40)/\(∀r:Nat,r<aa.length->(r:Int)∈(Au ab).map (·.1))/\LamH K H /\
 ∀D H' os,BR (tabP K "in_order") H H'->LamH K H'->H D=none->H' D=some (.lst (aO.wv os))->WsT H' os->(os.map (·.2)).Perm ((allW ab aa.length (Dd L m) E).foldl ins [])->aO.Srt os->Q (.ref D) H'
def J9   (F:Fun K "words_with" "words_with" Co f fd)(T:Txt mg)
   (kQ:⋯ 4 "words_to" EH ["letters","most"] (Tb K) Jc HX)
   (fQ:⋯ 4 "room_behind" BV ["house","word"] (L7 K) Dv CZ)
   (kR:⋯ 2 "ways_in" FA ["house"] (K8 K) K9 Jd)
   (kU:⋯ 4 "in_order" Cd ["words"] (Te K) EJ UB)
  : nofun 5 f fd ["base","more","ends"] (Me K):=by
 delta BX
 ·obtain⟨h,e,L,m,aa,ab,E,rfl,_⟩:=h;rfl
 ·obtain⟨h,e,L,m,aa,ab,E,rfl,hh,wf,hm,bH,hE,hEl,aB,hT,k⟩:=h
  have hl:=Ar
  have cP:=wf.l1
  have dv:=wf.l6
  have aW:=wf.n40
  refine⟨_,(Ac (Ak (i:=3) BX.nd (Bl Ad))
   (Ac (Bo jI_ rfl (AS (Ai kR hr.d AI (Aa (pvD 0) Ad))) (Am (i:=4) BX.nd rfl (r9 rfl))
   (Af (Bo jI_ rfl (AS (Ai kQ hr.d AI (Aa (Ag (ixTD Ao) (pvD 0) Ae) (Aa (An (opD0 AU) (pvD 1) Ae) Ad)))) (Am (i:=5) BX.nd rfl (r9 rfl))
   (Ac (Ba (i:=6) BX.nd rfl (sk rfl) (An ED (pvD 4) (pvD 5)))
   (Af (A8 (C1 jE_ vS vT OI (pvD 3) (Aa (A1 rfl (A2 rfl) (cp:=EX) ⟨⟨rfl,rfl⟩,rZ⟩ (AS (Ag (ixLD AT) (pvD 2) (Ai fQ hr.d AI (Aa (pvD 0) (Aa (pvD 6) Ad))))) (fun _ _ _ _=>(Am (i:=0) Ga rfl (r9 rfl))) (fun _ _ _ _=>Bc) (fun _ _ _ _=>(An (PR (K:=K) rfl) (pvD 1) (pvD 0)))) Ad))))))))
   (Af (AE (Ai kU hr.d AI (Aa (pvD 3) Ad)))))),?_⟩
  nofun
  refine⟨by lia,fun p hp=>?_⟩
  have s0:=Same.new (o:=.lst []) hp
  refine⟨h,L,aa,ab,rfl,hh.mono s0,wf,fun d top H1 s1 hdn hWS bf=>?_⟩
  obtain⟨xs,hd,cg,hxs⟩:=hWS
  have s01:=s0.trans s1
  have bL:=s1 _ _ (Ab (H:=H) (a:=p) (o:=.lst []))
  have mJ:d≠p:=(At hdn).2
  refine⟨d,rfl,⟨_,SqL.of hd⟩,?_⟩
  have hmL:(Dd L m).length<=341:=by
   rw[ja_,qi_];lia
  have hone:∀(r:Nat) (v:α2),r<aa.length->isW L (wayW ab r++v)=true->(oneW ab E r v).length<=40:=fun r v hr hv=>by
   have h1:=wf.walk hv (wayW ab r++v).length
   rw[jQ_]at h1
   unfold oneW
   rw[ja_]
   exact (hEl _ s!"").1
  have hway:∀r,r<aa.length->∃t,xs[r]?=some (.ref t)/\H1 t=some (.tup ((wayW ab r).map V.int))/\isW L (wayW ab r)=true/\(wayW ab r).length<=40:=fun r hr=>by
   rcases hxs r hr with ⟨w,t,a,b,c⟩|⟨a,_⟩
   ·rw[Md bf.nod a]
    obtain⟨j,hj⟩:=jK_.mp a
    have h1:=bf.sh j _ hj
    have h2:=(jb_.mp hj).1
    have h3:=bf.len
    exact⟨t,b,c,(bf.wd _ a).1,by dsimp only at h1;lia⟩
   ·exact absurd (aB r hr) a
  have oH:∀v∈Dd L m,isW L v=true:=fun v hv=>by
   obtain⟨k',_,rfl⟩:=jv_.mp hv
   exact C2 (show 0<L by lia) k'
  have happ:∀r,r<aa.length->∀v,isW L v=true->isW L (wayW ab r++v)=true:=fun r hr v hv=>by
   obtain⟨_,_,_,nR,_⟩:=hway r hr
   rw[Aw]at nR hv ⊢
   intro x hx
   rcases jw_.mp hx with hx|hx
   ·exact nR x hx
   ·exact hv x hx
  have hb1:∀r,r<aa.length->∀j,(((Dd L m).take j).flatMap (oneW ab E r)).length<=13640:=fun r hr j=>by
   have h1:=FS (f:=oneW ab E r) (c:=40) ((Dd L m).take j) (fun v hv=>hone r v hr (happ r hr v (oH v (xk_ hv))))
   have h2:((Dd L m).take j).length<=341:=qt_ (by rw[jx_];lia) hmL
   lia
  have fP:∀i,i<=aa.length->((rY i).flatMap fun r=>(Dd L m).flatMap (oneW ab E r)).length<=545600:=fun i hi=>by
   have h1:=FS (f:=fun r=>(Dd L m).flatMap (oneW ab E r)) (c:=13640) (rY i) (fun r hr=>by
    have:=hb1 r (by have:=jC_.mp hr;lia) (Dd L m).length
    rw[jQ_]at this
    exact this)
   rw[qi_]at h1
   have h2:i*13640<=40*13640:=uc _ s!""
   lia
  obtain⟨Pv,aq⟩:∃Pv:Nat->St->Hp->Prop,∀i af H',Pv i af H'↔(∃(ys:List V) (o4 o5 o6:Option V),Same H H'/\TK H1 H'/\H' d=some (.lst xs)/\H' p=some (.lst ys)/\AA K H' ys ((rY i).flatMap fun r=>(Dd L m).flatMap (oneW ab E r))/\af=[some (.ref h),some (.int m),some (.ref e),some (.ref p),o4,o5,o6]):=⟨_,fun _ _ _=>qq_⟩
  refine forL (xs:=xs) Pv ((aq _ _ _).mpr ⟨[],none,none,none,s01,TK.refl _,hd,bL,AA.nil,rfl⟩) (fun i af H' _ h'=>by obtain⟨_,_,_,_,_,_,q,_⟩:=(aq _ _ _).mp h';exact SqL.of q) (fun i x ai H2 hx h2=>?_) (fun ai H2 h2=>?_)
  ·obtain⟨ys,o4,o5,o6,s2,qT,gw,aU,ku,rfl⟩:=(aq _ _ _).mp h2
   have hi:i<aa.length:=by rw[<-cg];exact (jb_.mp hx).1
   obtain⟨t,iO,ht,nR,cU⟩:=hway i hi
   rw[hx]at iO
   cases iO
   nofun
   obtain⟨mm,wv,q1,q2,q3⟩:=id hh
   refine⟨_,s2.seqT q1,_,rfl,L,m+1,by rw[Int.natCast_add];rfl,cP,dv,by lia,by show many L (m+2)<=4000;lia,fun pm zs H3 s3 hpmn cE hWm=>⟨pm,rfl,⟨_,SqL.of cE⟩,?_⟩⟩
   have hWm':AA K H3 zs (Dd L m):=hWm
   have hppm:pm≠p:=fun z=>by rw[z,aU]at hpmn;cases hpmn
   have hpH:H p=none:=hp
   obtain⟨Pw,cG⟩:∃Pv:Nat->St->Hp->Prop,∀j af H',Pv j af H'↔(∃(fX:List V) (o5 o6:Option V),Same H H'/\TK H3 H'/\H' d=some (.lst xs)/\H' pm=some (.lst zs)/\H' p=some (.lst fX)/\AA K H' fX (((rY i).flatMap fun r=>(Dd L m).flatMap (oneW ab E r))++((Dd L m).take j).flatMap (oneW ab E i))/\af=[some (.ref h),some (.int m),some (.ref e),some (.ref p),some (.ref t),o5,o6]):=⟨_,fun _ _ _=>qq_⟩
   refine forL (xs:=zs) Pw ((cG _ _ _).mpr ⟨ys,o5,o6,s2.trans s3,TK.refl _,s3 _ _ gw,cE,s3 _ _ aU,by rw[wc_,List.flatMap_nil,ql_];exact ku.mono (TK.of s3),rfl⟩) (fun j af H' _ h'=>by obtain⟨_,_,_,_,_,_,q,_⟩:=(cG _ _ _).mp h';exact SqL.of q) (fun j y bY H4 hy h4=>?_) (fun bY H4 h4=>?_)
   ·obtain⟨fX,o5,o6,s4,nS,qU,hpm4,fi,iL,rfl⟩:=(cG _ _ _).mp h4
    obtain⟨u,v,hvj,rfl,hu⟩:=hWm'.at hy
    have hvm:isW L v=true/\v.length<=4:=by
     obtain⟨k',dE,rfl⟩:=jv_.mp (jd_ hvj)
     have hv:=C2 (show 0<L by lia) k'
     refine⟨hv,?_⟩
     have h1:=(EE (show 0<L by lia) hv (m+1)).mpr (by
      rw[D8]
      have:=jC_.mp dE
      show (k':Int)<many L (m+2)
      lia)
     lia
    have ht4:=nS _ _ (TK.of s3 _ _ (qT _ _ ht))
    have hu4:=nS _ _ hu
    nofun
    refine EV.ofS ht4 hu4 (by simp;lia) fun q H5 s5 hq=>?_
    have jN:isW L (wayW ab i++v)=true:=by
     rw[Aw]at nR ⊢
     intro x hx
     rcases jw_.mp hx with hx|hx
     ·exact nR x hx
     ·exact Aw.mp hvm.1 x hx
    have iE:H5 q=some (.tup ((wayW ab i++v).map V.int)):=by rw[hq,jS_]
    nofun
    have cS:=s5 _ _ fi
    refine⟨.inl ⟨rfl,_,SqL.of cS⟩,h,q,L,aa,ab,wayW ab i++v,rfl,hh.mono (s4.trans s5),wf,SqT.of iE,by rw[jl_];lia,fun _ H6 s6=>?_,fun hf=>by rw[jN]at hf;cases hf⟩
    have gp:=wf.walk jN (wayW ab i++v).length
    rw[jQ_]at gp
    obtain⟨es,my,qa⟩:=id hE
    obtain⟨pe,ye,qV,hye,hWe⟩:=qa (Az ab (wayW ab i++v)).toNat s!""
    have hEr:=hEl (Az ab (wayW ab i++v)).toNat s!""
    have qW:=(s4.trans s5).trans s6
    have hye6:=qW _ _ hye
    have hWe6:=hWe.mono (TK.of qW)
    have i8:=hWe.1
    refine⟨es,_,rfl,SqL.of (qW _ _ my),_,B7 s!"" qV,pe,rfl,⟨_,SqL.of hye6⟩,?_⟩
    refine Iq (xs:=ye) (fun j' cx af H'=>Same H6 H'/\AA K H' cx (((E (Az ab (wayW ab i++v)).toNat).take j').map ((wayW ab i++v) ++ ·))/\∃o,af=[o,some (.ref q)]) ⟨Same.refl _,AA.nil,none,rfl⟩ s!"" (fun j' cx af H' cn h'=>⟨SqL.of (h'.1 _ _ hye6),by have:=h'.2.1.1;rw[ja_,jx_]at this;lia⟩) (fun j' x' cx af H' fI h'=>?_) (fun cx af H' h' D hD=>?_)
    ·obtain⟨s7,gq,o,rfl⟩:=h'
     obtain⟨u',v',nT,rfl,jD⟩:=hWe6.at fI
     have hvl:=hEr.2 v' (jd_ nT)
     nofun
     refine EV.ofS (s7 _ _ (s6 _ _ iE)) (s7 _ _ jD) (by simp;lia) fun q2 H8 s8 dq=>⟨s7.trans s8,?_,_,rfl⟩
     rw[jR_,nT,qv_,jS_]
     exact (gq.mono (TK.of s8)).snoc (by rw[dq];simp)
    ·obtain⟨s7,gq,o,_⟩:=h'
     rw[i8,jQ_]at gq
     have qX:upd H' D (.lst cx) p=some (.lst fX):=by
      have:=s7 _ _ (s6 _ _ cS)
      rw[Ah (Ap this hD)];exact this
     have s7D:Same H6 (upd H' D (.lst cx)):=s7.newT hD
     have oF:upd H' D (.lst cx) D=some (.lst cx):=Ab
     have i5:AA K (upd H' D (.lst cx)) cx _:=gq.mono (TK.new hD)
     generalize upd H' D (.lst cx)=H9 at qX s7D oF i5 ⊢
     have nU:=(s5.trans s6).trans s7D
     have s49:=s4.trans nU
     have bo:=iL.1
     have bJ:=i5.1
     rw[jl_]at bo
     rw[ja_]at bJ
     have nV:=hb1 i hi j
     have hb4:=fP i s!""
     have kT:TK H9 (upd H9 p (.lst (fX++cx))):=TK.lst qX
     refine⟨D,rfl,fX,qX,cx,oF,by lia,(cG _ _ _).mpr ⟨fX++cx,_,_,s49.over hpH,(nS.trans (TK.of nU)).trans kT,by rw[Ah mJ];exact nU _ _ qU,by rw[Ah hppm];exact nU _ _ hpm4,Ab,?_,rfl⟩⟩
     rw[jR_,hvj,qv_,uf,<-qh_]
     refine Oc ((iL.mono (TK.of nU)).mono kT) ?_
     have e1:[v].flatMap (oneW ab E i)=(E (Az ab (wayW ab i++v)).toNat).map ((wayW ab i++v) ++ ·):=by simp[oneW]
     rw[e1]
     exact i5.mono kT
   ·obtain⟨fX,o5,o6,s4,nS,qU,hpm4,fi,iL,rfl⟩:=(cG _ _ _).mp h4
    refine (aq _ _ _).mpr ⟨fX,_,_,_,s4,(qT.trans (TK.of s3)).trans nS,qU,fi,?_,rfl⟩
    have:(Dd L m).take zs.length=Dd L m:=jX_ (by rw[hWm'.1];exact ji_ _)
    rw[this]at iL
    rw[x2_,uf]
    simpa using iL
  ·obtain⟨ys,o4,o5,o6,s2,qT,gw,aU,ku,rfl⟩:=(aq _ _ _).mp h2
   rw[cg]at ku
   nofun
   refine⟨p,ys,_,rfl,SqL.of aU,ku,?_,hT.mono s2,fun D H3 os s3 hL3 iN hD ef cE hs=>?_⟩
   ·have:=fP aa.length (ji_ _)
    lia
   ·exact k D H3 os (fun b o hb e=>s3 b o hb (s2 b o e)) hL3 (Same.none s2 iN) hD ef cE hs
def QB      (h:WC L n b words c):∀(k:Nat) (w:α2),words[k]?=some w->w.length<=k:=by
 intro k
 induction k using u5 with
 |ind k ih=>
  intro w hw
  by_cases hk:k=0
  ·subst hk
   rw[h.w0]at hw
   cases hw
   simp
  ·have ht:=h.tl k w hw s!""
   obtain⟨j,hj⟩:=jK_.mp ht
   have iG:j<k:=by
    have:=(jb_.mp hj).1
    rw[jx_]at this
    lia
   rw[xI_ iG]at hj
   have:=ih j iG _ hj
   rw[uS]at this
   lia
def E2 (L:Nat)(aa:α2)(ab:α1)(m:Nat):α1:=allW (sW L aa ab) (sM L aa ab).length (Dd (L:Int) m) fun _=>(wcOf (sM L aa ab).length L (bW (sM L aa ab) (sW L aa ab))).1
def Nf (K:α3):Sp:=fun vs H Q _=>∃(h:Addr) (L m:Nat) (aa:α2) (ab:α1),vs=[.ref h,.int m]/\AV K H h L aa ab/\Wf L aa ab/\m<=3/\many L (m+2)<=341/\LamH K H /\
 ∀D H' os,BR (tabP K "in_order") H H'->LamH K H'->H D=none->H' D=some (.lst (aO.wv os))->WsT H' os->(os.map (·.2)).Perm ((E2 L aa ab m).foldl ins [])->aO.Srt os->Q (.ref D) H'
def R7   (F:Fun K "suite" "suite" JY f fd)(T:Txt mg)
   (fY:⋯ 3 "tellers" Ef ["house"] (Qy K) HY Gi)
   (fZ:⋯ 5 "least" HJ ["house"] (J8 K) Mf Ka)
   (f6:⋯ 5 "words_with" Co ["base","more","ends"] (Me K) El Dz)
  : nofun 6 f fd ["house","more"] (Nf K):=by
 delta JZ
 ·obtain⟨h,L,m,aa,ab,rfl,_⟩:=h;rfl
 ·obtain⟨h,L,m,aa,ab,rfl,hh,wf,hm,bH,hT,k⟩:=h
  have hl:=Ar
  refine⟨_,(Ac (Ak (i:=2) JZ.nd (Ai fZ hr.d AI (Aa (pvD 0) Ad)))
   (Ac (Ba (i:=3) JZ.nd rfl (sk rfl) (Ai fY hr.d AI (Aa (pvD 2) Ad)))
   (Af (AE (Ai f6 hr.d AI (Aa (pvD 2) (Aa (pvD 1) (Aa (A1 rfl (A2 rfl) (cp:=K4) ⟨⟨rfl,rfl⟩,rZ⟩ (EU (Ag (ixTD Ao) (pvD 2) Ae)) (fun _ _ _ _=>(Am (i:=0) K5 rfl (r9 rfl))) (fun _ _ _ _=>Bc) (fun _ _ _ _=>(pvD 1))) Ad)))))))),?_⟩
  nofun
  have aY:=sWf wf
  have cK:=sCan wf
  have jc:=aY.n40
  refine⟨h,L,aa,ab,rfl,hh,wf,fun ps H3 s3 eK=>?_⟩
  unfold E2 at k
  generalize sM L aa ab=ms at aY cK eK jc k
  generalize sW L aa ab=vs at aY cK eK k
  obtain⟨sm,sv,r1,r2,r3⟩:=id eK
  refine⟨ps,L,ms,vs,rfl,eK,aY,fun pe xs H7 s7 hpeN qV hW fin=>?_⟩
  have s37:=s3.trans s7
  generalize dC:wcOf ms.length L (bW ms vs)=st at hW fin k
  have jN:st.1.length<=40:=by
   have h1:=fin.wc.le
   have h2:=Gs st.2
   rw[fin.wc.len]at h2
   lia
  have cU:=QB fin.wc
  nofun
  refine⟨_,s7.seqT r1,_,rfl,sm,rfl,⟨_,s7.seqT r2⟩,?_⟩
  refine Q8 (xs:=ms.map V.int) (fun i ys af H'=>H'=H7/\ys=rX i (V.ref pe)/\∃o,af=[o,some (.ref pe)]) ⟨rfl,rfl,none,rfl⟩ (by rw[ja_];lia) (fun i ys af H' hi h'=>?_) (fun i x ys af H' hx h'=>?_) (fun ys af H' h' D hD=>?_)
  ·obtain⟨rfl,rfl,_⟩:=h'
   exact⟨s7.seqT r2,by rw[qD_];exact ji_ _⟩
  ·obtain⟨rfl,rfl,o,rfl⟩:=h'
   nofun
   refine⟨?_,_,rfl⟩
   exact (List.replicate_succ' ..).symm
  ·obtain⟨rfl,rfl,o,rfl⟩:=h'
   rw[ja_]
   have sD:=s37.newT hD (o:=.lst (rX ms.length (V.ref pe)))
   have jO:=Same.new hD (o:=.lst (rX ms.length (V.ref pe)))
   have fo:upd H' D (.lst (rX ms.length (V.ref pe))) D=some (.lst (rX ms.length (V.ref pe))):=Ab
   generalize upd H' D (.lst (rX ms.length (V.ref pe)))=H8 at sD jO fo ⊢
   refine⟨ps,D,L,m,ms,vs,fun _=>st.1,rfl,eK.mono (s7.trans jO),aY,hm,bH,⟨_,fo,fun r hr=>⟨pe,xs,by rw[zo_,if_pos hr],jO _ _ qV,hW.mono (TK.of jO)⟩⟩,fun r hr=>⟨jN,fun w hw=>?_⟩,fun r hr=>?_,hT.mono sD,fun D' H9 os sT qY iN jP ef cE hs=>?_⟩
   ·obtain⟨j,hj⟩:=jK_.mp hw
    have h1:=cU j w hj
    have h2:j<st.1.length:=(jb_.mp hj).1
    lia
   ·have h1:=cK.order
    unfold rOf at h1
    rw[h1]
    exact jv_.mpr ⟨r,jC_.mpr hr,rfl⟩
   ·exact k D' H9 os (fun b o hb e=>sT b o hb (sD b o e)) qY (Same.none sD iN) jP ef cE hs
def ownF (b:α2->Nat->Int)(r:Nat):α1->List Nat->α1
 |[],_=>[]
 |v::ws,left=>(if (left.filter fun o=>decide (b v o=b v r)).length<left.length then [v] else [])++ownF b r ws (left.filter fun o=>decide (b v o=b v r))
def FT (b:α2->Nat->Int)(r n:Nat)(ws:α1):List Nat:=ws.foldl (fun left v=>left.filter fun o=>decide (b v o=b v r)) (rY n)
def ownW (n:Nat)(b:α2->Nat->Int)(ws:α1)(r:Nat):α1:=[]::ownF b r ws (rY n)
def QC {b:α2->Nat->Int}{r:Nat}{v:α2}(left:List Nat):(left.filter fun o=>decide (b v o=b v r)).length<left.length ↔ ∃o∈left,b v o≠b v r:=by
 constructor
 ·intro h
  refine j2_ fun z=>?_
  have:=(zx_ (p:=fun o=>decide (b v o=b v r)) (l:=left)).mpr fun o ho=>j7_ (j2_ fun y=>z ⟨o,ho,y⟩)
  lia
 ·rintro⟨o,ho,ay⟩
  refine Nat.lt_of_not_le fun h=>?_
  have:=zx_.mp (Nat.le_antisymm (x3_ _ _) h) o ho
  exact ay (qB_ this)
def Hd {b:α2->Nat->Int}{r:Nat}{w:α2}:∀(ws:α1) (left:List Nat),w∈ownF b r ws left ↔ ∃o∈left,ws.find? (fun v=>decide (b v o≠b v r))=some w
 |[],left=>by simp[ownF]
 |v::ws,left=>by
  unfold ownF
  rw[jw_,Hd ws]
  constructor
  ·rintro (h|⟨o,ho,h⟩)
   ·split at h
    ·rename_i ar
     obtain⟨o,ho,ay⟩:=(QC left).mp ar
     rw[jr_.mp h]
     exact⟨o,ho,by simp[xp_,ay]⟩
    ·cases h
   ·obtain⟨ho,he⟩:=xo_.mp ho
    have he:=qB_ he
    exact⟨o,ho,by rw[tR (by simp[he])];exact h⟩
  ·rintro⟨o,ho,h⟩
   by_cases ay:b v o=b v r
   ·rw[tR (by simp[ay])]at h
    exact .inr ⟨o,xo_.mpr ⟨ho,j7_ ay⟩,h⟩
   ·have h:v=w:=by simpa [xp_,ay] using h
    subst h
    left
    rw[if_pos ((QC left).mpr ⟨o,ho,ay⟩)]
    exact jo_
def He {b:α2->Nat->Int}{r:Nat}:∀(ws:α1) (left:List Nat),r∈left->(ownF b r ws left).length+1<=left.length
 |[],left,h=>by
  have:=qI_ h
  simp only[ownF,qn_];lia
 |v::ws,left,h=>by
  have h2:=He (b:=b) (r:=r) ws (left.filter fun o=>decide (b v o=b v r)) (xo_.mpr ⟨h,by simp⟩)
  unfold ownF
  rw[jl_]
  split
  ·simp only[jP_];lia
  ·rename_i hh
   have:=x3_ (fun o=>decide (b v o=b v r)) left
   simp only[qn_];lia
def Kb {b:α2->Nat->Int}{r:Nat}{w:α2}{ws:α1}{left:List Nat}(h:w∈ownF b r ws left):w∈ws:=by
 obtain⟨o,_,h⟩:=(Hd ws left).mp h
 exact xa_ h
def La {b:α2->Nat->Int}{r:Nat}{v:α2}:∀(ws:α1) (left:List Nat) (i:Nat),ws[i]?=some v->ownF b r (ws.take (i+1)) left=ownF b r (ws.take i) left++(if (((ws.take i).foldl (fun left v=>left.filter fun o=>decide (b v o=b v r)) left).filter fun o=>decide (b v o=b v r)).length<((ws.take i).foldl (fun left v=>left.filter fun o=>decide (b v o=b v r)) left).length then [v] else [])
 |[],left,i,h=>by simp at h
 |u::ws,left,0,h=>by
  have h:u=v:=by simpa using h
  subst h
  simp[ownF]
 |u::ws,left,i+1,h=>by
  rw[ug,ug,ownF,ownF,q2_,La ws _ i (by simpa using h),qh_]
def Lb {b:α2->Nat->Int}{r:Nat}:∀(ws:α1) (left:List Nat) (o:Nat),o∈ws.foldl (fun left v=>left.filter fun o=>decide (b v o=b v r)) left->o∈left
 |[],left,o,h=>h
 |v::ws,left,o,h=>(xo_.mp (Lb ws _ o h)).1
def Lc {b:α2->Nat->Int}{r:Nat}:∀(ws:α1) (left:List Nat),(ws.foldl (fun left v=>left.filter fun o=>decide (b v o=b v r)) left).length<=left.length
 |[],left=>ji_ _
 |v::ws,left=>qt_ (Lc ws _) (x3_ _ _)
def R8   (ws:α1):∀o∈FT b r n ws,o<n:=fun o h=>jC_.mp (Lb ws _ o h)
def QD   (ws:α1):(FT b r n ws).length<=n:=by
 have:=Lc (b:=b) (r:=r) ws (rY n)
 rw[qi_]at this
 exact this
def Ld (H:Hp)(n:Nat)(b:α2->Nat->Int)(ws:α1)(ys:List V):Prop:=ys.length=ws.length/\∀(i:Nat) (v:α2),ws[i]?=some v->∃q,ys[i]?=some (.ref q)/\H q=some (.lst ((rowB n b v).map V.int))
def Ld.mono      (h:Ld H n b ws ys)(s:Same H H'):Ld H' n b ws ys:=
 ⟨h.1,fun i v hv=>let ⟨q,a,c⟩:=h.2 i v hv;⟨q,a,s _ _ c⟩⟩
def Tg (K:α3):Sp:=fun vs H Q _=>∃(h a:Addr) (L:Nat) (aa:α2) (ab:α1) (ws:α2),vs=[.ref h,.ref a]/\AV K H h L aa ab/\Wf L aa ab/\SqT K H a (ws.map V.int)/\isW L ws=true /\
 ∀p H',Same H H'->H p=none->H' p=some (.lst ((rowB aa.length (bW aa ab) ws).map V.int))->Q (.ref p) H'
def DA   (F:Fun K "marks_from_each_room" "marks_from_each_room" A6 f fd)(T:Txt mg)
  : nofun 1 f fd ["house","word"] (Tg K):=by
 delta AW
 ·obtain⟨h,a,L,aa,ab,ws,rfl,_⟩:=h;rfl
 ·obtain⟨h,a,L,aa,ab,ws,rfl,hh,wf,ha,hv,k⟩:=h
  have hl:=Ar
  have hn:=wf.n40
  obtain⟨m,wv,q1,q2,q3⟩:=id hh
  refine⟨_,(Ac (Ak (i:=2) AW.nd (F0 rfl rfl T.list rfl T.range (Aq (lenD Aj) (by rfl) T.len jH_ (Aa (Ag (ixTD Ao) (pvD 0) Ae) Ad))))
   (Ac (Bo jI_ rfl (EU (pvD 1)) (Am (i:=3) AW.nd rfl (sk rfl))
   (Af (D5 (i:=2) AW.nd rfl rfl rfl (A2 rfl) (cp:=BN) ⟨⟨rfl,rfl⟩,⟨⟨rfl,rfl⟩,rZ⟩⟩ (AS (pvD 2)) (fun _ _ _ _=>(Am (i:=0) CI rfl (r9 rfl))) (fun _ _ _ _=>Bc) (fun _ _ _ _=>(Ag (ixTD (Bp (K:=K) rfl)) (Ag (ixTD (Bp (K:=K) rfl)) (Ag (ixTD (Bp (K:=K) rfl)) (pvD 2) Ae) (pvD 0)) (pvD 1))))))
   (Af (AE (A1 rfl (A2 rfl) (cp:=BO) ⟨⟨rfl,rfl⟩,rZ⟩ (AS (pvD 2)) (fun _ _ _ _=>(Am (i:=0) CJ rfl (r9 rfl))) (fun _ _ _ _=>Bc) (fun _ _ _ _=>(Ag (ixTD (Bp (K:=K) rfl)) (Ag (ixTD (Bp (K:=K) rfl)) (pvD 1) Ae) (pvD 0)))))))),?_⟩
  nofun
  refine⟨_,q1,_,rfl,m,rfl,_,.inr q2,?_⟩
  rw[ja_]
  refine⟨by lia,by lia,fun p hp=>?_⟩
  rw[jj_]
  have s0:=Same.new hp (o:=.lst ((ups aa.length).map V.int))
  refine⟨⟨_,s0.seqT ha⟩,?_⟩
  have fu:∀(i r:Nat),r<aa.length->0<=Bq ab r (ws.take i)/\Bq ab r (ws.take i)<aa.length:=fun i r hr=>JA wf (ws.take i) (Rq hv i) s!"" s!""
  obtain⟨Pv,aq⟩:∃Pv:Nat->St->Hp->Prop,∀i af H',Pv i af H'↔(∃(q:Addr) (o:Option V),Same H H'/\H' q=some (.lst (((rY aa.length).map fun r:Nat=>Bq ab r (ws.take i)).map V.int))/\af=[some (.ref h),some (.ref a),some (.ref q),o]):=⟨_,fun _ _ _=>qq_⟩
  refine forT (xs:=ws.map V.int) Pv ((aq _ _ _).mpr ⟨p,none,s0,Ab,rfl⟩) (fun i af H' _ h'=>by obtain⟨_,_,s',_⟩:=(aq _ _ _).mp h';exact s'.seqT ha) (fun i x af H' hx h'=>?_) (fun af H' h'=>?_)
  ·obtain⟨q,o,s1,hq,rfl⟩:=(aq _ _ _).mp h'
   obtain⟨l,kW,rfl⟩:=Cf hx
   have cc:=Aw.mp hv l (jd_ kW)
   nofun
   refine⟨⟨_,SqL.of hq⟩,?_⟩
   obtain⟨m',qZ,g1,g2,g3⟩:=hh.mono s1
   refine Fq (af:=[some (.int l),some (.ref h)]) (fun x=>match x with | .int r=>.int (Bi ab r l)|_=>.non) rfl (SqL.of hq) (by simp;lia) (fun x hx R hR=>?_) (fun D hD=>?_)
   ·obtain⟨y,hy,rfl⟩:=jv_.mp hx
    obtain⟨r,hr,rfl⟩:=jv_.mp hy
    have hr:=jC_.mp hr
    have hw:=fu i r hr
    generalize Bq ab r (ws.take i)=y at hw hR
    obtain⟨row,g,r1,r2,r3,r4,r5⟩:=wf.step hw.1 hw.2 cc.1 cc.2
    obtain⟨xs,t,z1,z2,z3⟩:=g3.atZ hw.1 r1
    nofun
    refine⟨_,g1,_,rfl,qZ,rfl,_,z1,_,z2,_,rfl,_,z3,_,A3 cc.1 r2,?_⟩
    rw[<-r3]
    exact hR
   ·refine (aq _ _ _).mpr ⟨D,_,s1.newT hD,?_,rfl⟩
    rw[Ab,jW_,jW_,jW_]
    congr 2
    refine qx_ fun r hr=>?_
    show V.int (Bi ab (Bq ab r (ws.take i)) l)=V.int (Bq ab r (ws.take (i+1)))
    rw[ND kW]
  ·obtain⟨q,o,s1,hq,rfl⟩:=(aq _ _ _).mp h'
   rw[ja_,jQ_]at hq
   nofun
   refine⟨⟨_,SqL.of hq⟩,?_⟩
   obtain⟨m',qZ,g1,g2,g3⟩:=hh.mono s1
   refine Fq (af:=[some (.ref h)]) (fun x=>match x with | .int r=>.int (aa.getD r.toNat 0)|_=>.non) rfl (SqL.of hq) (by simp;lia) (fun x hx R hR=>?_) (fun D hD=>?_)
   ·obtain⟨y,hy,rfl⟩:=jv_.mp hx
    obtain⟨r,hr,rfl⟩:=jv_.mp hy
    have hr:=jC_.mp hr
    have hw:=JA wf ws hv (show (0:Int)<=r by lia) s!""
    generalize Bq ab r ws=y at hw hR
    nofun
    refine⟨_,g1,_,rfl,m',rfl,_,g2,_,?_,hR⟩
    rw[B7 hw.1 (v:=V.int (aa.getD y.toNat 0)) (by rw[jf_,jk_];simp[show y.toNat<aa.length by lia])]
   ·refine k D _ (s1.newT hD) (Same.none s1 hD) ?_
    rw[Ab,jW_,jW_]
    unfold rowB
    rw[jW_]
    rfl
def Th (K:α3):Sp:=fun vs H Q _=>∃(a c:Addr) (n r:Nat) (b:α2->Nat->Int) (ws:α1) (xs ys:List V),vs=[.ref a,.ref c,.int r]/\SqL K H a xs/\AA K H xs ws/\SqL K H c ys/\Ld H n b ws ys/\1<=ws.length/\ws.length<=40/\n<=40/\r<n /\
 ∀p zs H',Same H H'->H p=none->H' p=some (.lst zs)->AA K H' zs (ownW n b ws r)->Q (.ref p) H'
def IE   (F:Fun K "own_tellers" "own_tellers" CA f fd)(T:Txt mg)
  : nofun 1 f fd ["words","marks_behind","room"] (Th K):=by
 delta Bg
 ·obtain⟨a,c,n,r,b,ws,xs,ys,rfl,_⟩:=h;rfl
 ·obtain⟨a,c,n,r,b,ws,xs,ys,rfl,ha,hW,hc,hM,d7,hw40,hn,bO,k⟩:=h
  have hl:=Ar
  refine⟨_,(Ac (Ak (i:=3) Bg.nd (Bl (Aa (Bs Ad) Ad)))
   (Ac (Ak (i:=4) Bg.nd (F0 rfl rfl T.list rfl T.range (Aq (lenD Aj) (by rfl) T.len jH_ (Aa (Ag (ixLD AT) (pvD 1) Ae) Ad))))
   (Ac (Bo jI_ rfl (T8 rfl T.zip (Aa (pvD 0) (Aa (pvD 1) Ad))) (Sg rfl (GS (Am (i:=5) Bg.nd rfl (r9 rfl)) (GS (Am (i:=6) Bg.nd rfl (sk rfl)) Op)))
   (Ac (D5 (i:=7) Bg.nd rfl rfl rfl (A2 rfl) (cp:=Eh) ⟨⟨rfl,rfl⟩,⟨⟨rfl,rfl⟩,rZ⟩⟩ (AS (pvD 4)) (fun _ _ _ _=>(Am (i:=0) FG rfl (r9 rfl))) (fun _ _ _ _=>(OV (ptT (As (opE B6) (Ag (ixLD (Bj (K:=K) rfl)) (pvD 1) (pvD 0)) (Ag (ixLD (Bj (K:=K) rfl)) (pvD 1) (pvD 2)) (AF _))))) (fun _ _ _ _=>(pvD 0)))
   (Bu (BF (ptT (As (opD0 Hg) (Aq (lenD Aj) (by rfl) T.len jH_ (Aa (pvD 7) Ad)) (Aq (lenD Aj) (by rfl) T.len jH_ (Aa (pvD 4) Ad)) (AF _)))
   (Af (A8 (C1 jE_ jL_ jM_ AO (pvD 3) (Aa (pvD 5) Ad))))
   AH)
   (Af (Ak (i:=4) Bg.nd (pvD 7))))))
   (Af (AE (pvD 3)))))),?_⟩
  nofun
  refine⟨by lia,fun p hp=>⟨by lia,fun p1 bL=>?_⟩⟩
  have s1:Same H (upd (upd H p (.tup [])) p1 (.lst [V.ref p])):=(Same.new hp).newT bL
  have hp1N:H p1=none:=(Same.new hp).none bL
  have hpp:p1≠p:=(At bL).2
  have e1:upd (upd H p (.tup [])) p1 (.lst [V.ref p]) p1=some (.lst [V.ref p]):=Ab
  have e0:upd (upd H p (.tup [])) p1 (.lst [V.ref p]) p=some (.tup []):=by rw[Ah (qp_ hpp)];exact Ab
  generalize upd (upd H p (.tup [])) p1 (.lst [V.ref p])=H1 at s1 e1 e0 ⊢
  obtain⟨v0,hv0⟩:∃v,ws[0]?=some v:=⟨_,jh_ s!""⟩
  obtain⟨q0,hq0,cR⟩:=hM.2 0 v0 hv0
  have cW:∀v,(rowB n b v).length=n:=fun v=>by unfold rowB;rw[ja_,qi_]
  refine⟨_,s1.seq hc,_,B7 (by decide) hq0,q0,rfl,_,.inl (SqL.of (s1 _ _ cR)),?_⟩
  rw[ja_,cW]
  refine⟨by lia,by lia,fun p2 aU=>?_⟩
  rw[jj_]
  have hp2N:H p2=none:=s1.none aU
  have hp12:p1≠p2:=Ap e1 aU
  have s2:=s1.newT aU (o:=.lst ((ups n).map V.int))
  have nW:upd H1 p2 (.lst ((ups n).map V.int)) p1=some (.lst [V.ref p]):=by rw[Ah hp12];exact e1
  have e02:upd H1 p2 (.lst ((ups n).map V.int)) p=some (.tup []):=by rw[Ah (Ap e0 aU)];exact e0
  have e22:upd H1 p2 (.lst ((ups n).map V.int)) p2=some (.lst ((ups n).map V.int)):=Ab
  generalize upd H1 p2 (.lst ((ups n).map V.int))=H2 at s2 nW e02 e22 ⊢
  refine⟨xs,ys,false,s2.seq ha,false,s2.seq hc,?_⟩
  obtain⟨Pv,aq⟩:∃Pv:Nat->St->Hp->Prop,∀i af H',Pv i af H'↔(∃(zs:List V) (q:Addr) (o5 o6 o7:Option V),Same H H'/\H' p1=some (.lst zs)/\AA K H' zs ([]::ownF b r (ws.take i) (rY n))/\H q=none/\q≠p1/\H' q=some (.lst (((FT b r n (ws.take i)).map fun o:Nat=>(o:Int)).map V.int))/\af=[some (.ref a),some (.ref c),some (.int r),some (.ref p1),some (.ref q),o5,o6,o7]):=⟨_,fun _ _ _=>qq_⟩
  have cg:=hW.1
  have i8:=hM.1
  refine We ws.length s!"" s!"" (.inl s!"") Pv ((aq _ _ _).mpr ⟨_,p2,none,none,none,s2,nW,AA.nil.snoc (w:=[]) e02,hp2N,qp_ hp12,e22,rfl⟩) (fun i af H' _ h'=>?_) (fun i u v af H' t hi hu hv h' ht=>?_) (fun af H' h'=>?_)
  ·obtain⟨_,_,_,_,_,s',_⟩:=(aq _ _ _).mp h'
   exact⟨s'.seq ha,s'.seq hc⟩
  ·obtain⟨zs,q,o5,o6,o7,s',hz,oJ,hqN,hqp,hq,rfl⟩:=(aq _ _ _).mp h'
   obtain⟨tw,w0,cH,rfl,nN⟩:=hW.at hu
   obtain⟨qm,hqm,md⟩:=hM.2 i w0 cH
   rw[hv]at hqm
   cases hqm
   have sT:=s'.newT ht (o:=.tup [V.ref tw,V.ref qm])
   have oK:=Same.new ht (o:=.tup [V.ref tw,V.ref qm])
   have hT:upd H' t (.tup [V.ref tw,V.ref qm]) t=some (.tup [V.ref tw,V.ref qm]):=Ab
   generalize upd H' t (.tup [V.ref tw,V.ref qm])=H3 at sT oK hT ⊢
   have hz3:=oK _ _ hz
   have jJ:=oK _ _ hq
   have hWz3:=oJ.mono (TK.of oK)
   have hmm3:=sT _ _ md
   nofun
   refine⟨_,SqT.of hT,rfl,?_⟩
   nofun
   refine⟨⟨_,SqL.of jJ⟩,?_⟩
   have ar:=R8 (b:=b) (r:=r) (n:=n) (ws.take i)
   have iS:FT b r n (ws.take (i+1))=(FT b r n (ws.take i)).filter fun o=>decide (b w0 o=b w0 r):=by
    unfold FT
    rw[jR_,cH,qv_,qA_]
    rfl
   have q9:=La (b:=b) (r:=r) ws (rY n) i cH
   rw[show (ws.take i).foldl (fun left v=>left.filter fun o=>decide (b v o=b v r)) (rY n)=FT b r n (ws.take i) from rfl,<-iS]at q9
   have hll:=QD (b:=b) (r:=r) (n:=n) (ws.take i)
   generalize FT b r n (ws.take i)=left at jJ ar iS q9 hll
   have hrow:∀o:Nat,o<n->((rowB n b w0).map V.int)[o]?=some (V.int (b w0 o)):=fun o ho=>by rw[jf_,BT ho];rfl
   refine Iq (xs:=(left.map fun o:Nat=>(o:Int)).map V.int) (fun i' cx ai mO=>mO=H3/\cx=(((left.take i').filter fun o=>decide (b w0 o=b w0 r)).map fun o:Nat=>(o:Int)).map V.int/\∃o,ai=[o,some (.ref qm),some (.int r)]) ⟨rfl,rfl,none,rfl⟩ (by simp only[ja_];lia) (fun i' cx ai mO hi' h2=>?_) (fun i' x cx ai mO hx h2=>?_) (fun cx ai mO h2 D hD=>?_)
   ·obtain⟨rfl,rfl,_⟩:=h2
    refine⟨SqL.of jJ,?_⟩
    rw[ja_,ja_]
    exact qt_ (x3_ _ _) (by rw[jx_];lia)
   ·obtain⟨rfl,rfl,o,rfl⟩:=h2
    rw[jf_,jf_]at hx
    cases kW:left[i']? with
    |none=>rw[kW]at hx;cases hx
    |some o1=>
     rw[kW]at hx
     cases hx
     have ho1:=ar o1 (jd_ kW)
     nofun
     refine⟨_,SqL.of hmm3,_,B7 s!"" (by rw[jj_];exact hrow o1 ho1),_,SqL.of hmm3,_,B7 s!"" (by rw[jj_];exact hrow r bO),?_⟩
     refine⟨rfl,?_⟩
     rw[jR_,kW,qv_,List.filter_append]
     by_cases he:b w0 o1=b w0 r
     ·rw[if_pos (by rw[he]),List.filter_cons_of_pos (by simp[he])]
      exact⟨by simp,_,rfl⟩
     ·rw[if_neg (fun z=>he (V.int.inj z)),List.filter_cons_of_neg (by simp[he])]
      exact⟨by simp,_,rfl⟩
   ·obtain⟨rfl,rfl,o,rfl⟩:=h2
    rw[ja_,ja_,jQ_,<-iS]
    have sD:=sT.newT hD (o:=.lst (((FT b r n (ws.take (i+1))).map fun o:Nat=>(o:Int)).map V.int))
    have jQ:=Same.new hD (o:=.lst (((FT b r n (ws.take (i+1))).map fun o:Nat=>(o:Int)).map V.int))
    have fo:upd mO D (.lst (((FT b r n (ws.take (i+1))).map fun o:Nat=>(o:Int)).map V.int)) D=some (.lst (((FT b r n (ws.take (i+1))).map fun o:Nat=>(o:Int)).map V.int)):=Ab
    have hDN:H D=none:=sT.none hD
    have hDp:D≠p1:=qp_ (Ap hz3 hD)
    generalize upd mO D (.lst (((FT b r n (ws.take (i+1))).map fun o:Nat=>(o:Int)).map V.int))=H4 at sD jQ fo ⊢
    have nX:=jQ _ _ hz3
    have hq4:=jQ _ _ jJ
    have kX:=hWz3.mono (TK.of jQ)
    have fe:=kX.1
    have gH:=He (b:=b) (r:=r) (ws.take i) (rY n) (jC_.mpr bO)
    rw[qi_]at gH
    rw[jU_]at fe
    refine⟨fun af H'=>∃cx,Same H H'/\H' p1=some (.lst cx)/\AA K H' cx ([]::ownF b r (ws.take (i+1)) (rY n))/\H' D=some (.lst (((FT b r n (ws.take (i+1))).map fun o:Nat=>(o:Int)).map V.int))/\af=[some (.ref a),some (.ref c),some (.int r),some (.ref p1),some (.ref q),some (.ref tw),some (.ref qm),some (.ref D)],?_,fun af H' hR=>?_⟩
    ·nofun
     refine⟨_,.inl (SqL.of fo),_,.inl (SqL.of hq4),?_⟩
     rw[q9]
     simp only[ja_]
     refine ite2 (fun hlt2=>?_) (fun bF=>?_)
     ·rw[if_pos s!""]
      refine⟨.inl ⟨rfl,_,SqL.of nX⟩,zs,nX,by lia,sD.over hp1N,_,Ab,?_,?_⟩
      ·rw[<-zh_]
       exact (kX.mono (TK.lst nX)).snoc (by rw[Ah (Tn nX (sD _ _ nN) (by intro z;cases z)).symm];exact sD _ _ nN)
      ·rw[Ah hDp];exact fo
     ·rw[if_neg s!"",ql_]
      exact⟨sD,zs,nX,kX,fo⟩
    ·obtain⟨cx,s5,hz5,jK,hD5,rfl⟩:=hR
     nofun
     exact (aq _ _ _).mpr ⟨cx,D,_,_,_,s5,hz5,jK,hDN,hDp,hD5,rfl⟩
  ·obtain⟨zs,q,o5,o6,o7,s',hz,oJ,hqN,hqp,hq,rfl⟩:=(aq _ _ _).mp h'
   rw[jQ_]at oJ
   nofun
   exact k p1 zs _ s' hp1N hz oJ
def Ti (K:α3):Sp:=fun vs H Q _=>∃(h:Addr) (L:Nat) (aa:α2) (ab:α1),vs=[.ref h]/\AV K H h L aa ab/\Wf L aa ab /\
 ∀e H',Same H H'->H e=none->Tf K H' e aa.length (ownW aa.length (bW aa ab) (wcOf aa.length L (bW aa ab)).1)->Q (.ref e) H'
def DB   (F:Fun K "tellers_of_each_room" "tellers_of_each_room" A7 f fd)(T:Txt mg)
   (fY:⋯ 3 "tellers" Ef ["house"] (Qy K) HY Gi)
   (kY:⋯ 1 "marks_from_each_room" A6 ["house","word"] (Tg K) B8 B3)
   (kZ:⋯ 1 "own_tellers" CA ["words","marks_behind","room"] (Th K) FU E3)
  : nofun 4 f fd ["house"] (Ti K):=by
 delta Br
 ·obtain⟨h,L,aa,ab,rfl,_⟩:=h;rfl
 ·obtain⟨h,L,aa,ab,rfl,hh,wf,k⟩:=h
  have hl:=Ar
  have hn:=wf.n40
  have cC:=wf.n1
  refine⟨_,(Ac (Ba (i:=1) Br.nd rfl (sk rfl) (Ai fY hr.d AI (Aa (pvD 0) Ad)))
   (Ac (Ba (i:=2) Br.nd rfl (sk rfl) (A1 rfl (A2 rfl) (cp:=BP) ⟨⟨rfl,rfl⟩,rZ⟩ (AS (pvD 1)) (fun _ _ _ _=>(Am (i:=0) CK rfl (r9 rfl))) (fun _ _ _ _=>Bc) (fun _ _ _ _=>(Ai kY hr.d AI (Aa (pvD 1) (Aa (pvD 0) Ad))))))
   (Af (AE (A1 rfl (A2 rfl) (cp:=BQ) ⟨⟨rfl,rfl⟩,⟨⟨rfl,rfl⟩,rZ⟩⟩ (AN rfl T.range (Aa (Aq (lenD Aj) (by rfl) T.len jH_ (Aa (Ag (ixTD Ao) (pvD 0) Ae) Ad)) Ad)) (fun _ _ _ _=>(Am (i:=0) CL rfl (r9 rfl))) (fun _ _ _ _=>Bc) (fun _ _ _ _=>(Ai kZ hr.d AI (Aa (pvD 1) (Aa (pvD 2) (Aa (pvD 0) Ad)))))))))),?_⟩
  nofun
  refine⟨h,L,aa,ab,rfl,hh,wf,fun pw xs H1 s1 kF bI hW fin=>?_⟩
  generalize dC:wcOf aa.length L (bW aa ab)=st at hW fin k
  have jN:st.1.length<=40:=by
   have h1:=fin.wc.le
   have h2:=Gs st.2
   rw[fin.wc.len]at h2
   lia
  have hf1:1<=st.1.length:=by
   have:=(jb_.mp fin.wc.w0).1
   lia
  nofun
  refine⟨⟨_,SqL.of bI⟩,?_⟩
  have cg:=hW.1
  refine Iq (xs:=xs) (fun i ys af H'=>Same H1 H'/\Ld H' aa.length (bW aa ab) (st.1.take i) ys/\∃o,af=[o,some (.ref h)]) ⟨Same.refl _,⟨rfl,fun i v hv=>by simp at hv⟩,none,rfl⟩ s!"" (fun i ys af H' hi h'=>⟨SqL.of (h'.1 _ _ bI),by rw[h'.2.1.1,jx_];lia⟩) (fun i x ys af H' hx h'=>?_) (fun ys af H' h' D hD=>?_)
  ·obtain⟨s2,hM,o,rfl⟩:=h'
   obtain⟨t,v,dY,rfl,ht⟩:=hW.at hx
   nofun
   refine⟨h,t,L,aa,ab,v,rfl,hh.mono (s1.trans s2),wf,SqT.of (s2 _ _ ht),Aw.mpr (fin.wc.ok v (jd_ dY)),fun p H3 s3 rg hp=>⟨s2.trans s3,?_,_,rfl⟩⟩
   have hM3:=hM.mono s3
   have i8:=hM.1
   rw[jR_,dY,qv_]
   refine⟨by rw[jl_,jl_,i8];rfl,fun j w hw=>?_⟩
   rw[jx_]at i8
   have hiL:=(jb_.mp dY).1
   by_cases hj:j<ys.length
   ·rw[je_ (by rw[jx_];lia)]at hw
    obtain⟨q,a1,a2⟩:=hM3.2 j w hw
    exact⟨q,by rw[je_ hj];exact a1,a2⟩
   ·rw[jp_ (by rw[jx_];lia)]at hw
    have:j-(st.1.take i).length=0:=by
     have:=(jb_.mp hw).1
     simpa using this
    rw[this]at hw
    have hw:v=w:=by simpa using hw
    subst hw
    rw[jx_]at this
    exact⟨p,by rw[jp_ s!"",show j-ys.length=0 by lia];rfl,hp⟩
  ·obtain⟨s2,hM,o,rfl⟩:=h'
   rw[cg,jQ_]at hM
   have sD:=(s1.trans s2).newT hD (o:=.lst ys)
   have jQ:=s2.newT hD (o:=.lst ys)
   have fo:upd H' D (.lst ys) D=some (.lst ys):=Ab
   have d6:=hM.mono (Same.new hD (o:=.lst ys))
   generalize upd H' D (.lst ys)=H3 at sD jQ fo d6 ⊢
   obtain⟨m,wv,q1,q2,q3⟩:=hh.mono sD
   nofun
   refine⟨_,q1,_,rfl,m,rfl,_,.inr q2,?_⟩
   rw[ja_,jj_]
   refine⟨by lia,by lia,?_⟩
   have hpw3:=jQ _ _ bI
   have qD:=hW.mono (TK.of jQ)
   refine Js (fun i zs af H'=>Same H3 H'/\zs.length=i/\(∀r,r<i->∃q ys,zs[r]?=some (.ref q)/\H' q=some (.lst ys)/\AA K H' ys (ownW aa.length (bW aa ab) st.1 r))/\∃o,af=[o,some (.ref pw),some (.ref D)]) ⟨Same.refl _,rfl,fun r hr=>absurd hr (qV_ _),none,rfl⟩ s!"" (fun i zs af H' hi h'=>tN h'.2.1) (fun i zs af H' hi h'=>?_) (fun zs af H' h' D' jP=>?_)
   ·obtain⟨s4,fe,hz,o,rfl⟩:=h'
    nofun
    refine⟨pw,D,aa.length,i,bW aa ab,st.1,xs,ys,by rw[wa_],SqL.of (s4 _ _ hpw3),qD.mono (TK.of s4),SqL.of (s4 _ _ fo),d6.mono s4,hf1,jN,hn,hi,fun p us H5 s5 rg hp hWu=>⟨s4.trans s5,by rw[jl_,fe];rfl,fun r hr=>?_,_,rfl⟩⟩
    by_cases iV:r<i
    ·obtain⟨q,fX,b1,b2,b3⟩:=hz r iV
     exact⟨q,by rw[je_ s!""];exact b1,fX,s5 _ _ b2,b3.mono (TK.of s5)⟩
    ·obtain rfl:r=i:=by lia
     exact⟨p,by rw[jp_ s!"",show r-zs.length=0 by lia];rfl,us,hp,hWu⟩
   ·obtain⟨s4,fe,hz,o,rfl⟩:=h'
    refine k D' _ ((sD.trans s4).newT jP) ((sD.trans s4).none jP) ⟨zs,Ab,fun r hr=>?_⟩
    obtain⟨q,fX,b1,b2,b3⟩:=hz r hr
    exact⟨q,fX,b1,by rw[Ah (Ap b2 jP)];exact b2,b3.mono (TK.new jP)⟩
def Kc (L:Nat)(aa:α2)(ab:α1)(m:Nat):α1:=allW (sW L aa ab) (sM L aa ab).length (Dd (L:Int) m) (ownW (sM L aa ab).length (bW (sM L aa ab) (sW L aa ab)) (wcOf (sM L aa ab).length L (bW (sM L aa ab) (sW L aa ab))).1)
def QE (K:α3):Sp:=fun vs H Q _=>∃(h:Addr) (L m:Nat) (aa:α2) (ab:α1),vs=[.ref h,.int m]/\AV K H h L aa ab/\Wf L aa ab/\m<=3/\many L (m+2)<=341/\LamH K H /\
 ∀D H' os,BR (tabP K "in_order") H H'->LamH K H'->H D=none->H' D=some (.lst (aO.wv os))->WsT H' os->(os.map (·.2)).Perm ((Kc L aa ab m).foldl ins [])->aO.Srt os->Q (.ref D) H'
def UC   (F:Fun K "slim" "slim" M7 f fd)(T:Txt mg)
   (fZ:⋯ 5 "least" HJ ["house"] (J8 K) Mf Ka)
   (k6:⋯ 4 "tellers_of_each_room" A7 ["house"] (Ti K) B9 B4)
   (f6:⋯ 5 "words_with" Co ["base","more","ends"] (Me K) El Dz)
  : nofun 6 f fd ["house","more"] (QE K):=by
 delta Qv
 ·obtain⟨h,L,m,aa,ab,rfl,_⟩:=h;rfl
 ·obtain⟨h,L,m,aa,ab,rfl,hh,wf,hm,bH,hT,k⟩:=h
  have hl:=Ar
  refine⟨_,(Ac (Ak (i:=2) Qv.nd (Ai fZ hr.d AI (Aa (pvD 0) Ad)))
   (Af (AE (Ai f6 hr.d AI (Aa (pvD 2) (Aa (pvD 1) (Aa (Ai k6 hr.d AI (Aa (pvD 2) Ad)) Ad))))))),?_⟩
  nofun
  have aY:=sWf wf
  have cK:=sCan wf
  have jc:=aY.n40
  refine⟨h,L,aa,ab,rfl,hh,wf,fun ps H3 s3 eK=>?_⟩
  unfold Kc at k
  generalize sM L aa ab=ms at aY cK eK jc k
  generalize sW L aa ab=vs at aY cK eK k
  have fin:Fin17 ms.length L (bW ms vs) (wcOf ms.length L (bW ms vs)):=Fin17.mk' aY.n1 jc
  refine⟨ps,L,ms,vs,rfl,eK,aY,fun e H4 s4 heN hE=>?_⟩
  have k9:=s3.trans s4
  have cU:=QB fin.wc
  have jN:(wcOf ms.length L (bW ms vs)).1.length<=40:=by
   have h1:=fin.wc.le
   have h2:=Gs (wcOf ms.length L (bW ms vs)).2
   rw[fin.wc.len]at h2
   lia
  refine⟨ps,e,L,m,ms,vs,_,rfl,eK.mono s4,aY,hm,bH,hE,fun r hr=>⟨?_,fun w hw=>?_⟩,fun r hr=>?_,hT.mono k9,fun D' H9 os sT qY iN jP ef cE hs=>?_⟩
  ·have:=He (b:=bW ms vs) (r:=r) (wcOf ms.length L (bW ms vs)).1 (rY ms.length) (jC_.mpr hr)
   rw[qi_]at this
   unfold ownW
   rw[jU_]
   lia
  ·unfold ownW at hw
   rcases jD_.mp hw with rfl|hw
   ·simp
   ·obtain⟨j,hj⟩:=jK_.mp (Kb hw)
    have h1:=cU j w hj
    have h2:=(jb_.mp hj).1
    lia
  ·have h1:=cK.order
   unfold rOf at h1
   rw[h1]
   exact jv_.mpr ⟨r,jC_.mpr hr,rfl⟩
  ·exact k D' H9 os (fun b o hb e=>sT b o hb (k9 b o e)) qY (Same.none k9 iN) jP ef cE hs
def cell (ns:α2)(k:Nat):Int:=ns.getD k 0
def HZ (K:α3):Sp:=fun vs H Q _=>∃(a:Addr) (ns:α2) (k:Nat),vs=[.ref a,.int k]/\SqL K H a (ns.map V.int)/\Q (.int (cell ns k)) H
def Ia   (F:Fun K "_law_cell_at" "_law_cell_at" Bh f fd)(T:Txt mg)
  : nofun 1 f fd ["script","k"] (HZ K):=by
 delta HK
 ·obtain⟨a,ns,k,rfl,_⟩:=h;rfl
 ·obtain⟨a,ns,k,rfl,hs,q⟩:=h
  refine⟨_,(Ac (BF (ptT (As (opD0 Hg) (pvD 1) (Aq (lenD Aj) (by rfl) T.len jH_ (Aa (pvD 0) Ad)) (AF _)))
   (Af (AE (Ag (ixLD AT) (pvD 0) (pvD 1))))
   AH)
   (Af (AE Ae))),?_⟩
  nofun
  refine⟨_,.inl hs,?_⟩
  rw[ja_]
  refine ite2 (fun hk=>?_) (fun hk=>?_)
  ·have dE:k<ns.length:=by simpa using hk
   refine⟨_,hs,V.int (cell ns k),?_,q⟩
   refine DY ?_
   rw[jf_]
   unfold cell
   rw[jk_]
   simp[dE]
  ·have dE:¬ k<ns.length:=by simpa using hk
   have:cell ns k=0:=by
    unfold cell
    rw[jk_,jV_ s!""];rfl
   rw[<-this]
   exact q
def FV:Sp:=fun vs H Q _=>∃num k m:Int,vs=[.int num,.int k,.int m]/\0<=k/\k<=1000000/\0<m/\∀x,0<=x->x<m->Q (.int x) H
def Kd   (F:Fun K "_law_mixed" "_law_mixed" Bz f fd)(T:Txt mg)
  : nofun 1 f fd ["number","k","many"] (FV):=by
 delta Dt
 ·obtain⟨num,k,m,rfl,_⟩:=h;rfl
 ·obtain⟨num,k,m,rfl,dZ,mh,hm,q⟩:=h
  refine⟨_,(Ac (Ak (i:=3) Dt.nd (An (opD AJ) (An (opD0 AU) (An (opD0 AU) (An (opD0 AU) (An (opD AJ) (pvD 0) Ae) (An (opD Fo) (An (opD Fo) Ae (pvD 1)) (pvD 1))) (An (opD Fo) Ae (pvD 1))) Ae) Ae))
   (Ac (Ak (i:=3) Dt.nd (An (opD AJ) (An (opD Fo) (pvD 3) Ae) Ae))
   (Af (AE (An (opD AJ) (An (opD AJ) (An (opD Fo) (pvD 3) (pvD 3)) Ae) (pvD 2)))))),?_⟩
  nofun
  refine⟨by decide,.inl ⟨by decide,by decide⟩,.inr ⟨by lia,by lia⟩,.inl ⟨by decide,by decide⟩,by decide,.inr ⟨by decide,by decide⟩,by decide,?_⟩
  generalize (num%2147483647+69621*k*k+40692*k+1)%2147483647*48271=z
  have m0:=qu_ z (show (2147483647:Int)≠0 by decide)
  have m1:=j9_ z (show (0:Int)<2147483647 by decide)
  exact⟨.inl ⟨by lia,by lia⟩,by decide,hm,q _ (qu_ _ s!"") (j9_ _ hm)⟩
def Je (K:α3):Sp:=fun vs H Q _=>∃(num:Int) (n:Nat),vs=[.int num,.int n]/\1<=n/\n<=40/\∀(t:Addr) (aa:α2) (H':Hp),Same H H'->SqT K H' t (aa.map V.int)->aa.length=n->(∀m∈aa,0<=m/\m<=1000000000)->Q (.ref t) H'
def GM   (F:Fun K "_law_marks_by" "_law_marks_by" BY f fd)(T:Txt mg)
   (bG:⋯ 1 "_law_mixed" Bz ["number","k","many"] (FV) Cr B5)
  : nofun 2 f fd ["number","rooms"] (Je K):=by
 delta AG
 ·obtain⟨num,n,rfl,_⟩:=h;rfl
 ·obtain⟨num,n,rfl,cC,aW,k⟩:=h
  have hl:=Ar
  refine⟨_,(Ac (Ak (i:=2) AG.nd (An (opD AJ) (An (opD0 AU) (pvD 0) Ae) Ae))
   (Ac (Ak (i:=3) AG.nd (An (opD AJ) (An (opD BS) (pvD 0) Ae) Ae))
   (Ac (Ak (i:=4) AG.nd (Bl Ad))
   (Ac (Bo jI_ rfl (AN rfl T.range (Aa (pvD 1) Ad)) (Am (i:=5) AG.nd rfl (r9 rfl))
   (Ac (Ak (i:=6) AG.nd (pvD 3))
   (Bu (BF (PW.pt (Gn (ptT (As (opE B6) (An (opD AJ) (pvD 2) Ae) Ae (AF _))) (DX (ptT (As (opE B6) (Ai bG hr.d AI (Aa (pvD 0) (Aa (pvD 5) (Aa Ae Ad)))) Ae (AF _))))))
   (Af (Ak (i:=6) AG.nd (An (opD0 CM) Ae (pvD 3))))
   AH)
   (Bu (BF (ptT (As (opE B6) (pvD 2) Ae (AF _)))
   (Af (Ak (i:=6) AG.nd (Ai bG hr.d AI (Aa (pvD 0) (Aa (pvD 5) (Aa Ae Ad))))))
   AH)
   (Bu (BF (PW.pt (Ts (PW.pt (Gn (ptT (As (opE B6) (pvD 2) Ae (AF _))) (DX (ptT (As (opE B6) (pvD 5) (An (opD AJ) (An (opD BS) (pvD 0) Ae) (pvD 1)) (AF _)))))) (Oo (PW.pt (Gn (ptT (As (opE B6) (pvD 2) Ae (AF _))) (DX (ptT (As (opE B6) (pvD 5) (An (opD0 CM) (pvD 1) Ae) (AF _)))))))))
   (Af (Ak (i:=6) AG.nd (An (opD AJ) (An (opD0 AU) (pvD 3) Ae) Ae)))
   AH)
   (Bu (BF (PW.pt (Ts (ptT (As (opE B6) (pvD 2) Ae (AF _))) (Oo (ptT (As (opE B6) (pvD 2) Ae (AF _))))))
   (Af (Ak (i:=6) AG.nd (Ai bG hr.d AI (Aa (pvD 0) (Aa (pvD 5) (Aa Ae Ad))))))
   AH)
   (Af (A8 (C1 jE_ jL_ jM_ AO (pvD 4) (Aa (pvD 6) Ad))))))))))
   (Af (AE (AB Ax rfl T.tuple jF_ (Aa (pvD 4) Ad)))))))),?_⟩
  nofun
  refine⟨by decide,⟨by decide,by decide⟩,by decide,by lia,fun p hp=>⟨by lia,by lia,?_⟩⟩
  rw[jj_]
  have jj:=qu_ (num / 8) (show (1000000001:Int)≠0 by decide)
  have oM:=j9_ (num / 8) (show (0:Int)<1000000001 by decide)
  generalize (num+1)%8=la
  generalize num / 8%1000000001=top at jj oM ⊢
  obtain⟨Pv,aq⟩:∃Pv:Nat->St->Hp->Prop,∀i ai H2,Pv i ai H2↔(∃(aa:α2) (o1 o2:Option V),Same H H2/\H2 p=some (.lst (aa.map V.int))/\aa.length=i/\(∀m∈aa,0<=m/\m<=1000000000)/\ai=[some (.int num),some (.int n),some (.int la),some (.int top),some (.ref p),o1,o2]):=⟨_,fun _ _ _=>qq_⟩
  refine forR Pv ((aq _ _ _).mpr ⟨[],none,none,Same.new hp,by rw[Ab];rfl,rfl,(fun m hm=>by cases hm),rfl⟩) (fun i ai H2 hi h2=>?_) (fun ai H2 h2=>?_)
  ·obtain⟨aa,o1,o2,s2,aU,aj,bO,rfl⟩:=(aq _ _ _).mp h2
   generalize fu:(0:Int)+(i:Nat)=room
   have aZ:0<=room:=by lia
   have eL:room<=40:=by lia
   obtain⟨R,hR⟩:∃R:St->Hp->Prop,∀aE H3,R aE H3↔(H3=H2/\∃cT:Int,0<=cT/\cT<=1000000000/\aE=[some (.int num),some (.int n),some (.int la),some (.int top),some (.ref p),some (.int room),some (.int cT)]):=⟨_,fun _ _=>qq_⟩
   nofun
   refine⟨R,?_,fun aE H3 h3=>⟨R,?_,fun bY H4 h4=>⟨R,?_,fun jl H5 h5=>⟨R,?_,fun dJ H6 h6=>?_⟩⟩⟩⟩
   ·nofun
    refine⟨by decide,iteB ((hR _ _).mpr ⟨rfl,top,jj,by lia,rfl⟩) (fun _ hB=>⟨num,room,2,rfl,aZ,by lia,by decide,fun x _ _=>?_⟩)⟩
    nofun
    exact ite2 (fun _=>(hR _ _).mpr ⟨rfl,_,by lia,by lia,rfl⟩) (fun _=>hB)
   ·obtain⟨rfl,cT,cR,i9,rfl⟩:=(hR _ _).mp h3
    nofun
    refine ite2 (fun _=>⟨num,room,1000000001,rfl,aZ,by lia,by decide,fun x dW cQ=>?_⟩) (fun _=>h3)
    nofun
    exact (hR _ _).mpr ⟨rfl,x,dW,by lia,rfl⟩
   ·obtain⟨rfl,cT,cR,i9,rfl⟩:=(hR _ _).mp h4
    nofun
    have hA:R [some (.int num),some (.int n),some (.int la),some (.int top),some (.ref p),some (.int room),some (.int ((top+1)%1000000001))] H4:=(hR _ _).mpr ⟨rfl,_,qu_ _ (by decide),by have:=j9_ (top+1) (show (0:Int)<1000000001 by decide);lia,rfl⟩
    have hE:if la=5 then (if room=(n:Int)-1 then (0:Int)<1000000001/\R [some (.int num),some (.int n),some (.int la),some (.int top),some (.ref p),some (.int room),some (.int ((top+1)%1000000001))] H4 else R [some (.int num),some (.int n),some (.int la),some (.int top),some (.ref p),some (.int room),some (.int cT)] H4) else R [some (.int num),some (.int n),some (.int la),some (.int top),some (.ref p),some (.int room),some (.int cT)] H4:=
     ite2 (fun _=>ite2 (fun _=>⟨by decide,hA⟩) (fun _=>h4)) (fun _=>h4)
    exact ite2 (fun _=>⟨⟨by decide,by decide⟩,by lia,ite2 (fun _=>⟨by decide,hA⟩) (fun _=>hE)⟩) (fun _=>hE)
   ·obtain⟨rfl,cT,cR,i9,rfl⟩:=(hR _ _).mp h5
    nofun
    exact ite2 (fun _=>⟨num,room,3,rfl,aZ,by lia,by decide,fun x dW cQ=>(hR _ _).mpr ⟨rfl,x,dW,by lia,rfl⟩⟩) (fun _=>ite2 (fun _=>⟨num,room,3,rfl,aZ,by lia,by decide,fun x dW cQ=>(hR _ _).mpr ⟨rfl,x,dW,by lia,rfl⟩⟩) (fun _=>h5))
   ·obtain⟨rfl,cT,cR,i9,rfl⟩:=(hR _ _).mp h6
    nofun
    refine⟨.inl ⟨rfl,_,SqL.of aU⟩,_,aU,by rw[ja_];lia,(aq _ _ _).mpr ⟨aa++[cT],_,_,s2.over hp,by rw[Ab];simp,by simp[aj],fun m hm=>?_,rfl⟩⟩
    rcases jw_.mp hm with hm|hm
    ·exact bO m hm
    ·rw[jr_.mp hm];exact⟨cR,i9⟩
  ·obtain⟨aa,o1,o2,s2,aU,aj,bO,rfl⟩:=(aq _ _ _).mp h2
   nofun
   refine⟨_,.inl ⟨SqL.of aU,fun t ht=>?_⟩⟩
   exact k t aa _ (s2.newT ht) (SqT.of Ab) aj bO
def Le (K:α3):Sp:=fun vs H Q _=>∃(a:Addr) (ns:α2) (L:Int) (n:Nat),vs=[.ref a,.int L,.int n]/\SqL K H a (ns.map V.int)/\1<=L/\L<=6/\1<=n/\n<=40/\∀(t:Addr) (ab:α1) (H':Hp),Same H H'->Rows K H' t ab->ab.length=n->(∀row∈ab,(row.length:Int)=L/\∀x∈row,0<=x/\x<(n:Int))->Q (.ref t) H'
def Ib   (F:Fun K "_law_ways_by" "_law_ways_by" Ci f fd)(T:Txt mg)
   (bA:⋯ 1 "_law_cell_at" Bh ["script","k"] (HZ K) BH BB)
   (bG:⋯ 1 "_law_mixed" Bz ["number","k","many"] (FV) Cr B5)
  : nofun 2 f fd ["script","letters","rooms"] (Le K):=by
 delta AC
 ·obtain⟨a,ns,L,n,rfl,_⟩:=h;rfl
 ·obtain⟨a,ns,L,n,rfl,hs,cP,dv,cC,aW,k⟩:=h
  have hl:=Ar
  refine⟨_,(Ac (Ak (i:=3) AC.nd (Ai bA hr.d AI (Aa (pvD 0) (Aa Ae Ad))))
   (Ac (Ak (i:=4) AC.nd (Bl Ad))
   (Ac (Bo jI_ rfl (AN rfl T.range (Aa (pvD 2) Ad)) (Am (i:=5) AC.nd rfl (r9 rfl))
   (Ac (Ak (i:=6) AC.nd (Bl Ad))
   (Ac (Bo jI_ rfl (AN rfl T.range (Aa (pvD 1) Ad)) (Am (i:=7) AC.nd rfl (r9 rfl))
   (Ac (Ak (i:=8) AC.nd (An (opD0 AU) (An (opD0 AU) Ae (An (opD Fo) (pvD 5) (pvD 1))) (pvD 7)))
   (Ac (Ak (i:=9) AC.nd (Ai bG hr.d AI (Aa (pvD 3) (Aa (pvD 8) (Aa (pvD 2) Ad)))))
   (Bu (BF (ptT (As (opD0 Hg) (pvD 8) (Aq (lenD Aj) (by rfl) T.len jH_ (Aa (pvD 0) Ad)) (AF _)))
   (Af (Ak (i:=9) AC.nd (An (opD AJ) (Ag (ixLD AT) (pvD 0) (pvD 8)) (pvD 2))))
   AH)
   (Bu (BF (PW.pt (Gn (ptT (As (opE B6) (An (opD AJ) (pvD 3) Ae) Ae (AF _))) (DX (ptT (As (opE B6) (pvD 7) (An (opD AJ) (An (opD BS) (pvD 3) Ae) (pvD 1)) (AF _))))))
   (Af (Ak (i:=9) AC.nd (An (opD AJ) (An (opD0 AU) (pvD 5) Ae) (pvD 2))))
   AH)
   (Bu (BF (ptT (As (opE B6) (An (opD AJ) (pvD 3) Ae) Ae (AF _)))
   (Af (Ak (i:=9) AC.nd (pvD 5)))
   AH)
   (Bu (BF (PW.pt (Gn (ptT (As (opE B6) (An (opD AJ) (pvD 3) Ae) Ae (AF _))) (DX (ptT (As (opE B6) (pvD 7) (An (opD AJ) (An (opD BS) (pvD 3) Ae) (pvD 1)) (AF _))))))
   (Af (Ak (i:=9) AC.nd (Aq (Ox rfl) rfl T.min wC (Aa (An (opD0 AU) (pvD 5) Ae) (Aa (An (opD0 CM) (pvD 2) Ae) Ad)))))
   AH)
   (Af (A8 (C1 jE_ jL_ jM_ AO (pvD 6) (Aa (pvD 9) Ad)))))))))))
   (Af (A8 (C1 jE_ jL_ jM_ AO (pvD 4) (Aa (AB Ax rfl T.tuple jF_ (Aa (pvD 6) Ad)) Ad)))))))
   (Af (AE (AB Ax rfl T.tuple jF_ (Aa (pvD 4) Ad))))))),?_⟩
  nofun
  refine⟨a,ns,3,rfl,hs,?_⟩
  nofun
  generalize cell ns 3=fz
  refine⟨by lia,fun pw bI=>⟨by lia,by lia,?_⟩⟩
  rw[jj_]
  obtain⟨Pv,aq⟩:∃Pv:Nat->St->Hp->Prop,∀i ai H2,Pv i ai H2↔(∃(ab:α1) (o1 o2 o3 o4 o5:Option V),Same H H2/\Cv K H2 pw ab/\ab.length=i/\(∀row∈ab,(row.length:Int)=L/\∀x∈row,0<=x/\x<(n:Int))/\ai=[some (.ref a),some (.int L),some (.int n),some (.int fz),some (.ref pw),o1,o2,o3,o4,o5]):=⟨_,fun _ _ _=>qq_⟩
  refine forR Pv ((aq _ _ _).mpr ⟨[],none,none,none,none,none,Same.new bI,Cv.nil Ab,rfl,(fun m hm=>by cases hm),rfl⟩) (fun i ai H2 hi h2=>?_) (fun ai H2 h2=>?_)
  ·obtain⟨ab,o1,o2,o3,o4,o5,s2,fT,aj,bO,rfl⟩:=(aq _ _ _).mp h2
   generalize fu:(0:Int)+(i:Nat)=room
   have aZ:0<=room:=by lia
   have eL:room<n:=by lia
   nofun
   refine⟨by lia,fun pr d9=>⟨by lia,by lia,?_⟩⟩
   have lb:H pr=none:=s2.free d9
   have sA:=s2.newT d9 (o:=.lst [])
   have hwA:=fT.mono (Same.new d9 (o:=.lst []))
   have hrA:upd H2 pr (.lst []) pr=some (.lst (([]:α2).map V.int)):=Ab
   have ay:pw≠pr:=by
    obtain⟨ts,e,_⟩:=fT
    exact Ap e d9
   generalize upd H2 pr (.lst [])=HA at sA hwA hrA ⊢
   obtain⟨Pr,ju⟩:∃Pv:Nat->St->Hp->Prop,∀j aE H3,Pv j aE H3↔(∃(row:α2) (o3 o4 o5:Option V),Same H H3/\Cv K H3 pw ab/\H3 pr=some (.lst (row.map V.int))/\row.length=j/\(∀x∈row,0<=x/\x<(n:Int))/\aE=[some (.ref a),some (.int L),some (.int n),some (.int fz),some (.ref pw),some (.int room),some (.ref pr),o3,o4,o5]):=⟨_,fun _ _ _=>qq_⟩
   refine forR Pr ((ju _ _ _).mpr ⟨[],o3,o4,o5,sA,hwA,hrA,rfl,(fun m hm=>by cases hm),rfl⟩) (fun j aE H3 hj h3=>?_) (fun aE H3 h3=>?_)
   ·obtain⟨row,o3,o4,o5,s3,fA,cX,cW,cJ,rfl⟩:=(ju _ _ _).mp h3
    generalize hlet:(0:Int)+(j:Nat)=letter
    nofun
    have dZ:0<=room*L:=zb_ aZ s!""
    have mh:room*L<=40*6:=vk s!"" s!"" s!"" s!""
    refine⟨.inl ⟨by lia,by lia⟩,?_⟩
    generalize ql:6+room*L+letter=kk
    refine⟨fz,kk,n,rfl,by lia,by lia,by lia,fun g0 hg00 hg01=>?_⟩
    obtain⟨R,hR⟩:∃R:St->Hp->Prop,∀bY H4,R bY H4↔(H4=H3/\∃g:Int,0<=g/\g<(n:Int)/\bY=[some (.ref a),some (.int L),some (.int n),some (.int fz),some (.ref pw),some (.int room),some (.ref pr),some (.int letter),some (.int kk),some (.int g)]):=⟨_,fun _ _=>qq_⟩
    refine⟨R,?_,fun bY H4 h4=>⟨R,?_,fun jl H5 h5=>⟨R,?_,fun dJ H6 h6=>⟨R,?_,fun dD H7 h7=>?_⟩⟩⟩⟩
    ·nofun
     refine⟨_,.inl (s3.seq hs),?_⟩
     rw[ja_]
     refine ite2 (fun ar=>?_) (fun _=>(hR _ _).mpr ⟨rfl,g0,hg00,hg01,rfl⟩)
     have dE:kk.toNat<ns.length:=by lia
     refine⟨_,s3.seq hs,_,A3 s!"" (v:=ns[kk.toNat]) (by simp[dE]),?_⟩
     nofun
     exact⟨by lia,(hR _ _).mpr ⟨rfl,_,qu_ _ s!"",j9_ _ s!"",rfl⟩⟩
    ·obtain⟨rfl,g,oN,oO,rfl⟩:=(hR _ _).mp h4
     nofun
     exact⟨by decide,ite2 (fun _=>⟨⟨by decide,by decide⟩,by lia,ite2 (fun _=>⟨by lia,(hR _ _).mpr ⟨rfl,_,qu_ _ s!"",j9_ _ s!"",rfl⟩⟩) (fun _=>h4)⟩) (fun _=>h4)⟩
    ·obtain⟨rfl,g,oN,oO,rfl⟩:=(hR _ _).mp h5
     nofun
     exact⟨by decide,ite2 (fun _=>(hR _ _).mpr ⟨rfl,room,aZ,eL,rfl⟩) (fun _=>h5)⟩
    ·obtain⟨rfl,g,oN,oO,rfl⟩:=(hR _ _).mp h6
     nofun
     exact⟨by decide,ite2 (fun _=>⟨⟨by decide,by decide⟩,by lia,ite2 (fun _=>(hR _ _).mpr ⟨rfl,_,by split<;>lia,by split<;>lia,rfl⟩) (fun _=>h6)⟩) (fun _=>h6)⟩
    ·obtain⟨rfl,g,oN,oO,rfl⟩:=(hR _ _).mp h7
     nofun
     refine⟨.inl ⟨rfl,_,SqL.of cX⟩,_,cX,by rw[ja_];lia,(ju _ _ _).mpr ⟨row++[g],_,_,_,s3.over lb,fA.off cX ay,by rw[Ab];simp,by simp[cW],fun x hx=>?_,rfl⟩⟩
     rcases jw_.mp hx with hx|hx
     ·exact cJ x hx
     ·rw[jr_.mp hx];exact⟨oN,oO⟩
   ·obtain⟨row,o3,o4,o5,s3,fA,cX,cW,cJ,rfl⟩:=(ju _ _ _).mp h3
    nofun
    obtain⟨ts,e0,_⟩:=id fA
    refine⟨.inl ⟨rfl,_,SqL.of e0⟩,_,.inl ⟨SqL.of cX,fun t ht=>?_⟩⟩
    obtain⟨xs,e1,e2,dz⟩:=(fA.mono (Same.new ht (o:=.tup (row.map V.int)))).push (w:=row) (SqT.of Ab)
    refine⟨xs,e1,by lia,(aq _ _ _).mpr ⟨ab++[row],_,_,_,_,_,(s3.newT ht).over bI,dz,by simp[aj],fun r hr=>?_,rfl⟩⟩
    rcases jw_.mp hr with hr|hr
    ·exact bO r hr
    ·rw[jr_.mp hr];exact⟨by lia,cJ⟩
  ·obtain⟨ab,o1,o2,o3,o4,o5,s2,fT,aj,bO,rfl⟩:=(aq _ _ _).mp h2
   nofun
   obtain⟨xs,e1,cF⟩:=fT.rows
   refine⟨_,.inl ⟨SqL.of e1,fun t ht=>?_⟩⟩
   exact k t ab _ (s2.newT ht) (cF t ht) aj bO
def R9 (L:Int)(m1:α2)(w1:α1)(m2:α2)(w2:α1):Prop:=∀w,isW L w=true->mkR m1 (Az w1 w)=mkR m2 (Az w2 w)
def Ke (K:α3):Sp:=fun vs H Q _=>∃(h:Addr) (L:Int) (aa:α2) (ab:α1) (num:Int) (n:Nat),vs=[.ref h,.int num,.int n]/\AV K H h L aa ab/\Wf L aa ab/\n<=40/\∀h' au aI H',Same H H'->AV K H' h' L au aI->Wf L au aI->au.length=max aa.length n->Q (.ref h') H'
def Kf   (F:Fun K "_law_blown" "_law_blown" Cp f fd)(T:Txt mg)
   (bG:⋯ 1 "_law_mixed" Bz ["number","k","many"] (FV) Cr B5)
  : nofun 2 f fd ["house","number","rooms"] (Ke K):=by
 delta AX
 ·obtain⟨h,L,aa,ab,num,n,rfl,_⟩:=h;rfl
 ·obtain⟨h,L,aa,ab,num,n,rfl,hh,wf,aW,k⟩:=h
  have hl:=Ar
  have cP:=wf.l1
  have dv:=wf.l6
  have jE:=wf.n1
  have hs40:=wf.n40
  refine⟨_,(Ac (Ak (i:=3) AX.nd (Aq (lenD Aj) (by rfl) T.len jH_ (Aa (Ag (ixTD Ao) (pvD 0) Ae) Ad)))
   (Ac (Ba (i:=4) AX.nd rfl (sk rfl) (F0 rfl rfl T.list rfl T.range (pvD 3)))
   (Ac (Df jI_ (ptT (As (opD0 Hg) (Aq (lenD Aj) (by rfl) T.len jH_ (Aa (pvD 4) Ad)) (pvD 2) (AF _)))
   (Af (A8 (C1 jE_ jL_ jM_ AO (pvD 4) (Aa (Ai bG hr.d AI (Aa (pvD 1) (Aa (Aq (lenD Aj) (by rfl) T.len jH_ (Aa (pvD 4) Ad)) (Aa (pvD 3) Ad)))) Ad)))))
   (Ac (Ak (i:=5) AX.nd (Bl Ad))
   (Ac (Bo jI_ rfl (AN rfl T.range (Aa (Aq (lenD Aj) (by rfl) T.len jH_ (Aa (pvD 4) Ad)) Ad)) (Am (i:=6) AX.nd rfl (r9 rfl))
   (Ac (Ak (i:=7) AX.nd (Bl Ad))
   (Ac (Bo jI_ rfl (AN rfl T.range (Aa (Ag (ixTD Ao) (pvD 0) Ae) Ad)) (Am (i:=8) AX.nd rfl (r9 rfl))
   (Ac (Ba (i:=9) AX.nd rfl (sk rfl) (Ag (ixTD Ao) (Ag (ixTD Ao) (Ag (ixTD Ao) (pvD 0) Ae) (Ag (ixLD AT) (pvD 4) (pvD 6))) (pvD 8)))
   (Ac (D5 (i:=10) AX.nd rfl rfl rfl (A2 rfl) (cp:=EY) ⟨⟨rfl,rfl⟩,⟨⟨rfl,rfl⟩,rZ⟩⟩ (AN rfl T.range (Aa (Aq (lenD Aj) (by rfl) T.len jH_ (Aa (pvD 4) Ad)) Ad)) (fun _ _ _ _=>(Am (i:=0) Gb rfl (r9 rfl))) (fun _ _ _ _=>(OV (ptT (As (opE B6) (Ag (ixLD (Bj (K:=K) rfl)) (pvD 2) (pvD 0)) (pvD 1) (AF _))))) (fun _ _ _ _=>(pvD 0)))
   (Af (A8 (C1 jE_ jL_ jM_ AO (pvD 7) (Aa (Ag (ixLD AT) (pvD 10) (Ai bG hr.d AI (Aa (An (opD0 AU) (pvD 1) Ae) (Aa (An (opD0 AU) (An (opD Fo) (pvD 6) (Ag (ixTD Ao) (pvD 0) Ae)) (pvD 8)) (Aa (Aq (lenD Aj) (by rfl) T.len jH_ (Aa (pvD 10) Ad)) Ad))))) Ad)))))))
   (Af (A8 (C1 jE_ jL_ jM_ AO (pvD 5) (Aa (AB Ax rfl T.tuple jF_ (Aa (pvD 7) Ad)) Ad)))))))
   (Af (AE (Bs (Aa (Ag (ixTD Ao) (pvD 0) Ae) (Aa (AB Ax rfl T.tuple jF_ (Aa (A1 rfl (A2 rfl) (cp:=EZ) ⟨⟨rfl,rfl⟩,rZ⟩ (AS (pvD 4)) (fun _ _ _ _=>(Am (i:=0) Gc rfl (r9 rfl))) (fun _ _ _ _=>Bc) (fun _ _ _ _=>(Ag (ixTD (Bp (K:=K) rfl)) (Ag (ixTD (Bp (K:=K) rfl)) (pvD 1) Ae) (pvD 0)))) Ad)) (Aa (AB Ax rfl T.tuple jF_ (Aa (pvD 5) Ad)) Ad))))))))))),?_⟩
  nofun
  obtain⟨tm,tw,q1,q2,q3⟩:=id hh
  refine⟨_,q1,_,rfl,?_⟩
  nofun
  refine⟨_,.inr q2,?_⟩
  rw[ja_]
  refine⟨by lia,by lia,fun pf hV=>?_⟩
  rw[jj_]
  obtain⟨Pw,cG⟩:∃Pv:Nat->St->Hp->Prop,∀m ai H2,Pv m ai H2↔(∃aK:α2,m=41-aK.length/\Same H H2/\H2 pf=some (.lst (aK.map V.int))/\aa.length<=aK.length/\aK.length<=40/\aK.length<=max aa.length n/\(∀x∈aK,0<=x/\x<(aa.length:Int))/\(∀g:Nat,g<aa.length->aK[g]?=some (g:Int))/\ai=[some (.ref h),some (.int num),some (.int n),some (.int aa.length),some (.ref pf),none,none,none,none,none,none]):=⟨_,fun _ _ _=>qq_⟩
  refine Hn Pw ⟨_,(cG _ _ _).mpr ⟨ups aa.length,rfl,Same.new hV,by rw[Ab],by simp[ups],by simp[ups];lia,by simp[ups];lia,fun x hx=>?_,fun g hg=>?_,rfl⟩⟩ ?_
  ·obtain⟨i,hi,rfl⟩:=jv_.mp hx
   have:=jC_.mp hi
   lia
  ·unfold ups
   rw[jf_,qN_ hg];rfl
  intro m ai H2 bI
  obtain⟨aK,rfl,s2,lg,mB,hf40,hfm,kj,hfg,rfl⟩:=(cG _ _ _).mp bI
  nofun
  refine⟨_,.inl (SqL.of lg),?_⟩
  rw[ja_]
  refine ite2 (fun ar=>?_) (fun bF=>?_)
  ·refine⟨Pw (41-(aK.length+1)),fun af H' h=>⟨_,by lia,h⟩,?_⟩
   refine⟨.inl ⟨rfl,_,SqL.of lg⟩,_,.inl (SqL.of lg),?_⟩
   rw[ja_]
   refine⟨num,_,aa.length,rfl,by lia,by lia,by lia,fun x dW cQ=>?_⟩
   nofun
   refine⟨_,lg,by rw[ja_];lia,(cG _ _ _).mpr ⟨aK++[x],by simp,s2.over hV,by rw[Ab];simp,by simp;lia,by simp;lia,by simp;lia,fun y hy=>?_,fun g hg=>?_,rfl⟩⟩
   ·rcases jw_.mp hy with hy|hy
    ·exact kj y hy
    ·rw[jr_.mp hy];exact⟨dW,cQ⟩
   ·rw[je_ s!""];exact hfg g hg
  ·clear bI cG Pw
   refine⟨by lia,fun pw bI=>⟨_,.inl (SqL.of (Same.new bI _ _ lg)),?_⟩⟩
   rw[ja_]
   refine⟨by lia,by lia,?_⟩
   rw[jj_]
   have hpwn:H pw=none:=s2.free bI
   have hnefw:pf≠pw:=Ap lg bI
   have sB:=s2.newT bI (o:=.lst [])
   have hfB:=Same.new bI (o:=.lst []) _ _ lg
   have hwB:upd H2 pw (.lst []) pw=some (.lst []):=Ab
   generalize upd H2 pw (.lst [])=HB at sB hfB hwB ⊢
   obtain⟨Pv,aq⟩:∃Pv:Nat->St->Hp->Prop,∀i aE H3,Pv i aE H3↔(∃(ws:α1) (o6 o7 o8 o9 lh:Option V),Same H H3/\H3 pf=some (.lst (aK.map V.int))/\Cv K H3 pw ws/\ws.length=i/\(∀row∈ws,(row.length:Int)=L/\∀x∈row,0<=x/\x<(aK.length:Int))/\aE=[some (.ref h),some (.int num),some (.int n),some (.int aa.length),some (.ref pf),some (.ref pw),o6,o7,o8,o9,lh]):=⟨_,fun _ _ _=>qq_⟩
   refine forR Pv ((aq _ _ _).mpr ⟨[],none,none,none,none,none,sB,hfB,Cv.nil hwB,rfl,(fun r hr=>by cases hr),rfl⟩) (fun i aE H3 hi h3=>?_) (fun aE H3 h3=>?_)
   ·obtain⟨ws,o6,o7,o8,o9,lh,s3,nY,fA,cU,gp,rfl⟩:=(aq _ _ _).mp h3
    generalize fu:(0:Int)+(i:Nat)=room
    have aZ:0<=room:=by lia
    have eL:room<aK.length:=by lia
    nofun
    refine⟨by lia,fun pr d9=>⟨_,(s3.newT d9).seqT q1,_,rfl,?_⟩⟩
    nofun
    refine⟨by lia,by lia,?_⟩
    have lb:H pr=none:=s3.free d9
    have dO:pw≠pr:=by
     obtain⟨ts,e,_⟩:=id fA
     exact Ap e d9
    have hnef:pf≠pr:=Ap nY d9
    have sC:=s3.newT d9 (o:=.lst [])
    have hfC:=Same.new d9 (o:=.lst []) _ _ nY
    have hwC:=fA.mono (Same.new d9 (o:=.lst []))
    have hrC:upd H3 pr (.lst []) pr=some (.lst (([]:α2).map V.int)):=Ab
    generalize upd H3 pr (.lst [])=HC at sC hfC hwC hrC ⊢
    obtain⟨Pr,ju⟩:∃Pv:Nat->St->Hp->Prop,∀j bY H4,Pv j bY H4↔(∃(row:α2) (o8 o9 lh:Option V),Same H H4/\H4 pf=some (.lst (aK.map V.int))/\Cv K H4 pw ws/\H4 pr=some (.lst (row.map V.int))/\row.length=j/\(∀x∈row,0<=x/\x<(aK.length:Int))/\bY=[some (.ref h),some (.int num),some (.int n),some (.int aa.length),some (.ref pf),some (.ref pw),some (.int room),some (.ref pr),o8,o9,lh]):=⟨_,fun _ _ _=>qq_⟩
    refine forR Pr ((ju _ _ _).mpr ⟨[],_,_,_,sC,hfC,hwC,hrC,rfl,(fun r hr=>by cases hr),rfl⟩) (fun j bY H4 hj h4=>?_) (fun bY H4 h4=>?_)
    ·obtain⟨row,o8,o9,lh,s4,ed,dz,nZ,cW,cJ,rfl⟩:=(ju _ _ _).mp h4
     generalize hlet:(0:Int)+(j:Nat)=letter
     obtain⟨fr,hfr1⟩:∃fr,aK[room.toNat]?=some fr:=⟨aK[room.toNat]'s!"",by simp[show room.toNat<aK.length by lia]⟩
     have lj:=kj fr (jd_ hfr1)
     obtain⟨row0,g,r1,r2,r3,r4,r5⟩:=wf.step (x:=letter) lj.1 lj.2 s!"" s!""
     obtain⟨xs,t,z1,z2,z3⟩:=q3.atZ lj.1 r1
     nofun
     refine⟨_,s4.seqT q1,_,rfl,?_⟩
     nofun
     refine⟨_,SqL.of ed,_,A3 aZ hfr1,?_⟩
     nofun
     refine⟨_,s4.seqT z1,_,z2,?_⟩
     nofun
     refine⟨_,s4.seqT z3,_,A3 s!"" r2,?_⟩
     nofun
     refine⟨_,.inl (SqL.of ed),?_⟩
     rw[ja_]
     refine⟨by lia,by lia,?_⟩
     rw[jj_]
     obtain⟨Pc,dH⟩:∃Pc:Nat->List V->St->Hp->Prop,∀c ys jl H5,Pc c ys jl H5↔(H5=H4/\∃(aT:α2) (o:Option V),ys=aT.map V.int/\aT.length<=c/\(∀x∈aT,0<=x/\x<(aK.length:Int))/\(g.toNat<c->aT ≠ [])/\jl=[o,some (.int g),some (.ref pf)]):=⟨_,fun _ _ _ _=>qq_⟩
     refine Js Pc ((dH _ _ _ _).mpr ⟨rfl,[],none,rfl,ji_ _,(fun x hx=>by cases hx),(fun z=>absurd z (qV_ _)),rfl⟩) s!"" (fun c ys jl H5 _ h5=>?_) (fun c ys jl H5 hc h5=>?_) (fun ys jl H5 h5 D hD=>?_)
     ·obtain⟨_,aT,o,rfl,aj,_⟩:=(dH _ _ _ _).mp h5
      rw[ja_];exact aj
     ·obtain⟨rfl,aT,o,rfl,aj,bC,nr,rfl⟩:=(dH _ _ _ _).mp h5
      obtain⟨fv,hfv⟩:∃fv,aK[c]?=some fv:=⟨aK[c]'hc,by simp[hc]⟩
      have ec:(0:Int)+(c:Nat)=(c:Int):=by lia
      rw[ec]
      nofun
      refine⟨_,SqL.of ed,_,A3 s!"" (by rw[jj_];exact hfv),?_⟩
      nofun
      refine ite2 (fun he=>?_) (fun ay=>?_)
      ·refine (dH _ _ _ _).mpr ⟨rfl,aT++[(c:Int)],_,by simp,by simp;lia,fun x hx=>?_,(fun _ z=>by simp at z),rfl⟩
       rcases jw_.mp hx with hx|hx
       ·exact bC x hx
       ·rw[jr_.mp hx];lia
      ·refine (dH _ _ _ _).mpr ⟨rfl,aT,_,rfl,by lia,bC,fun hlt'=>?_,rfl⟩
       by_cases hgc:g.toNat=c
       ·exfalso
        have:=hfg c s!""
        rw[hfv]at this
        have e2:=js_ this
        apply ay
        lia
       ·exact nr s!""
     ·obtain⟨rfl,aT,o,rfl,aj,bC,nr,rfl⟩:=(dH _ _ _ _).mp h5
      have ay:aT ≠ []:=nr s!""
      have ke:0<aT.length:=z3_.mpr ay
      have sD:=Same.new hD (o:=.lst (aT.map V.int))
      have hmul0:0<=room*L:=zb_ aZ s!""
      have hmul1:room*L<=40*6:=vk s!"" s!"" s!"" s!""
      refine⟨.inl ⟨rfl,_,SqL.of (sD _ _ nZ)⟩,_,(s4.trans sD).seqT q1,_,rfl,L,rfl,.inl ⟨by lia,by lia⟩,D,rfl,_,.inl (SqL.of Ab),?_⟩
      rw[ja_]
      refine⟨_,_,_,rfl,by lia,by lia,by lia,fun x dW cQ=>?_⟩
      have iO:x.toNat<aT.length:=by lia
      refine⟨D,rfl,_,x,rfl,SqL.of Ab,_,A3 dW (v:=aT[x.toNat]) (by simp[iO]),_,sD _ _ nZ,by rw[ja_];lia,(ju _ _ _).mpr ⟨row++[aT[x.toNat]],_,_,_,(s4.trans sD).over lb,?_,(dz.mono sD).off (sD _ _ nZ) dO,by rw[Ab];simp,by simp[cW],fun y hy=>?_,rfl⟩⟩
      ·rw[Ah hnef];exact sD _ _ ed
      ·rcases jw_.mp hy with hy|hy
       ·exact cJ y hy
       ·rw[jr_.mp hy];exact bC _ (j0_ iO)
    ·obtain⟨row,o8,o9,lh,s4,ed,dz,nZ,cW,cJ,rfl⟩:=(ju _ _ _).mp h4
     nofun
     obtain⟨ts,e0,_⟩:=id dz
     refine⟨.inl ⟨rfl,_,SqL.of e0⟩,_,.inl ⟨SqL.of nZ,fun t ht=>?_⟩⟩
     obtain⟨xs,e1,e2,gm⟩:=(dz.mono (Same.new ht (o:=.tup (row.map V.int)))).push (w:=row) (SqT.of Ab)
     refine⟨xs,e1,by lia,(aq _ _ _).mpr ⟨ws++[row],_,_,_,_,_,(s4.newT ht).over hpwn,?_,gm,by simp[cU],fun r hr=>?_,rfl⟩⟩
     ·rw[Ah hnefw];exact Same.new ht _ _ ed
     ·rcases jw_.mp hr with hr|hr
      ·exact gp r hr
      ·rw[jr_.mp hr];exact⟨by lia,cJ⟩
   ·obtain⟨ws,o6,o7,o8,o9,lh,s3,nY,fA,cU,gp,rfl⟩:=(aq _ _ _).mp h3
    nofun
    refine⟨_,s3.seqT q1,_,rfl,⟨_,SqL.of nY⟩,Fq (af:=[some (.ref h)]) (fun x=>match x with | .int n=>.int (mkW aa n)|_=>.non) rfl (SqL.of nY) (by rw[ja_];lia) (fun x hx R hR=>?_) (fun Dm hDm=>?_)⟩
    ·obtain⟨y,hy,rfl⟩:=CO hx
     have cc:=kj y hy
     nofun
     refine⟨_,s3.seqT q1,_,rfl,?_⟩
     nofun
     exact⟨_,s3.seqT q2,_,KG cc.1 cc.2,hR⟩
    have em:(aK.map V.int).map (fun x=>match x with | .int n=>.int (mkW aa n)|_=>.non)=(aK.map (mkW aa)).map V.int:=by rw[jW_,jW_];rfl
    rw[em]
    refine⟨Dm,rfl,_,.inl ⟨SqL.of Ab,fun t1 oM=>?_⟩⟩
    obtain⟨xs,cQ,cF⟩:=(fA.mono ((Same.new hDm (o:=.lst ((aK.map (mkW aa)).map V.int))).newT oM (o:=.tup ((aK.map (mkW aa)).map V.int)))).rows
    refine⟨xs,.inl ⟨SqL.of cQ,fun t2 rh=>⟨by lia,fun h9 rj=>?_⟩⟩⟩
    refine k h9 (aK.map (mkW aa)) ws _ ((((s3.newT hDm).newT oM).newT rh).newT rj) ⟨t1,t2,SqT.of Ab,((Same.new rh).newT rj).seqT (SqT.of Ab),(cF t2 rh).mono (Same.new rj)⟩ ⟨cP,dv,by rw[ja_];lia,by rw[ja_];lia,by rw[ja_];lia,fun row hr=>by rw[ja_];exact gp row hr,fun m hm=>?_⟩ (by rw[ja_];lia)
    obtain⟨y,hy,rfl⟩:=jv_.mp hm
    have cc:=kj y hy
    exact wf.mks _ (Vt cc.1 cc.2)
def Jf (K:α3):Sp:=fun vs H Q _=>∃(a:Addr) (ns:α2),vs=[.ref a]/\SqL K H a (ns.map V.int)/\∀h L aa ab H',Same H H'->AV K H' h L aa ab->Wf L aa ab->aa.length<=15->Q (.ref h) H'
def GN   (F:Fun K "_law_house_by" "_law_house_by" BZ f fd)(T:Txt mg)
   (bA:⋯ 1 "_law_cell_at" Bh ["script","k"] (HZ K) BH BB)
   (ll:⋯ 2 "_law_marks_by" BY ["number","rooms"] (Je K) Em DL)
   (lq:⋯ 2 "_law_ways_by" Ci ["script","letters","rooms"] (Le K) E4 En)
   (f7:⋯ 2 "_law_blown" Cp ["house","number","rooms"] (Ke K) Eo DC)
  : nofun 3 f fd ["script"] (Jf K):=by
 delta AL
 ·obtain⟨a,ns,rfl,_⟩:=h;rfl
 ·obtain⟨a,ns,rfl,hs,k⟩:=h
  have hl:=Ar
  refine⟨_,(Ac (Ak (i:=1) AL.nd (An (opD0 AU) Ae (An (opD AJ) (An (opD0 AU) (Ai bA hr.d AI (Aa (pvD 0) (Aa Ae Ad))) Ae) Ae)))
   (Ac (Ak (i:=2) AL.nd (An (opD0 AU) Ae (An (opD AJ) (An (opD0 AU) (Ai bA hr.d AI (Aa (pvD 0) (Aa Ae Ad))) Ae) Ae)))
   (Bu (BF (PW.pt (Gn (ptT (As (opE B6) (An (opD AJ) (An (opD BS) (Ai bA hr.d AI (Aa (pvD 0) (Aa Ae Ad))) Ae) Ae) Ae (AF _))) (DX (ptT (As (opD0 Hg) (pvD 1) Ae (AF _))))))
   (Af (Ak (i:=2) AL.nd (An (opD0 AU) Ae (An (opD AJ) (An (opD BS) (Ai bA hr.d AI (Aa (pvD 0) (Aa Ae Ad))) Ae) Ae))))
   AH)
   (Ac (Ak (i:=3) AL.nd (Ai ll hr.d AI (Aa (Ai bA hr.d AI (Aa (pvD 0) (Aa Ae Ad))) (Aa (pvD 2) Ad))))
   (Ac (Ak (i:=4) AL.nd (Bs (Aa (pvD 1) (Aa (pvD 3) (Aa (Ai lq hr.d AI (Aa (pvD 0) (Aa (pvD 1) (Aa (pvD 2) Ad)))) Ad)))))
   (Ac (Ak (i:=5) AL.nd (Ai bA hr.d AI (Aa (pvD 0) (Aa Ae Ad))))
   (Bu (BF (ptT (As (opE B6) (An (opD AJ) (pvD 5) Ae) Ae (AF _)))
   (Af (Ak (i:=4) AL.nd (Ai f7 hr.d AI (Aa (pvD 4) (Aa (pvD 5) (Aa (An (opD0 AU) (An (opD0 AU) (pvD 2) Ae) (An (opD AJ) (An (opD BS) (pvD 5) Ae) Ae)) Ad))))))
   AH)
   (Af (AE (pvD 4)))))))))),?_⟩
  nofun
  refine⟨a,ns,0,rfl,hs,?_⟩
  nofun
  refine⟨by decide,a,ns,1,rfl,hs,?_⟩
  nofun
  have cP:1<=1+(cell ns 0+1)%6:=by lia
  have dv:1+(cell ns 0+1)%6<=6:=by lia
  generalize 1+(cell ns 0+1)%6=L at cP dv ⊢
  obtain⟨R,hR⟩:∃R:St->Hp->Prop,∀af H',R af H'↔(H'=H/\∃n:Nat,1<=n/\n<=12/\af=[some (.ref a),some (.int L),some (.int n),none,none,none]):=⟨_,fun _ _=>qq_⟩
  refine⟨by decide,R,?_,?_⟩
  ·nofun
   refine⟨a,ns,1,rfl,hs,?_⟩
   nofun
   refine⟨⟨by decide,by decide⟩,by decide,?_⟩
   have hb:R [some (V.ref a),some (V.int L),some (V.int (1+(cell ns 1+3)%5)),none,none,none] H:=(hR _ _).mpr ⟨rfl,(1+(cell ns 1+3)%5).toNat,by lia,by lia,by rw[show (((1+(cell ns 1+3)%5).toNat:Nat):Int)=1+(cell ns 1+3)%5 by lia]⟩
   refine ite2 (fun _=>ite2 (fun _=>?_) (fun _=>hb)) (fun _=>hb)
   refine⟨a,ns,1,rfl,hs,_,rfl,⟨by decide,by decide⟩,by decide,(hR _ _).mpr ⟨rfl,(1+cell ns 1 / 80%12).toNat,by lia,by lia,?_⟩⟩
   rw[show (((1+cell ns 1 / 80%12).toNat:Nat):Int)=1+cell ns 1 / 80%12 by lia]
  ·intro af H' h'
   obtain⟨rfl,n,cC,hn12,rfl⟩:=(hR _ _).mp h'
   have aW:n<=40:=by lia
   nofun
   refine⟨a,ns,2,rfl,hs,?_⟩
   nofun
   refine⟨_,n,rfl,cC,aW,fun tm aa H1 s1 mH jd hmr=>?_⟩
   nofun
   refine⟨a,ns,L,n,rfl,s1.seq hs,cP,dv,cC,aW,fun tw ab H2 s2 cF cU gp=>?_⟩
   nofun
   refine⟨by lia,fun h hh=>?_⟩
   have wf:Wf L aa ab:=⟨cP,dv,by lia,by lia,by lia,fun row hr=>by rw[jd];exact gp row hr,hmr⟩
   have eK:=(s1.trans s2).newT hh (o:=.tup [V.int L,V.ref tm,V.ref tw])
   have lr:AV K (upd H2 h (.tup [V.int L,V.ref tm,V.ref tw])) h L aa ab:=⟨tm,tw,SqT.of Ab,(s2.newT hh).seqT mH,cF.mono (Same.new hh)⟩
   generalize upd H2 h (.tup [V.int L,V.ref tm,V.ref tw])=H3 at eK lr ⊢
   refine⟨a,ns,4,rfl,eK.seq hs,?_⟩
   nofun
   obtain⟨R2,rl⟩:∃R:St->Hp->Prop,∀bY H4,R bY H4↔(∃(h:Addr) (aa:α2) (ab:α1) (o1 o2 o3:Option V),Same H' H4/\AV K H4 h L aa ab/\Wf L aa ab/\aa.length<=15/\bY=[some (.ref a),some (.int L),o1,o2,some (.ref h),o3]):=⟨_,fun _ _=>qq_⟩
   refine⟨R2,?_,?_⟩
   ·nofun
    refine⟨by decide,ite2 (fun _=>⟨⟨by decide,by decide⟩,by decide,?_⟩) (fun _=>(rl _ _).mpr ⟨h,aa,ab,_,_,_,eK,lr,wf,by lia,rfl⟩)⟩
    have dW:=qu_ (cell ns 4 / 3) (show (3:Int)≠0 by decide)
    have cQ:=j9_ (cell ns 4 / 3) (show (0:Int)<3 by decide)
    obtain⟨m,hm,hm40⟩:∃m:Nat,(n:Int)+1+cell ns 4 / 3%3=(m:Int)/\m<=15:=⟨((n:Int)+1+cell ns 4 / 3%3).toNat,by lia,by lia⟩
    rw[hm]
    refine⟨h,L,aa,ab,_,m,rfl,lr,wf,by lia,fun h' au aI H4 s4 qE iP hml'=>?_⟩
    exact (rl _ _).mpr ⟨h',au,aI,_,_,_,eK.trans s4,qE,iP,by rw[hml'];lia,rfl⟩
   ·intro bY H4 h4
    obtain⟨h,aa,ab,o1,o2,o3,s4,lu,rm,lx,rfl⟩:=(rl _ _).mp h4
    nofun
    exact k h L aa ab H4 s4 lu rm lx
def Ic (K:α3):Sp:=fun vs H Q _=>∃(h:Addr) (L:Int) (aa:α2) (ab:α1) (num:Int),vs=[.ref h,.int num]/\AV K H h L aa ab/\Wf L aa ab/\∀h' au aI H',Same H H'->AV K H' h' L au aI->Wf L au aI->au.length=aa.length->Q (.ref h') H'
def Gj   (F:Fun K "_law_turned_by" "_law_turned_by" BI f fd)(T:Txt mg)
  : nofun 1 f fd ["house","number"] (Ic K):=by
 delta AZ
 ·obtain⟨h,L,aa,ab,num,rfl,_⟩:=h;rfl
 ·obtain⟨h,L,aa,ab,num,rfl,hh,wf,k⟩:=h
  have hl:=Ar
  have cC:=wf.n1
  have aW:=wf.n40
  obtain⟨tm,tw,q1,q2,q3⟩:=id hh
  refine⟨_,(Ac (Ba (i:=2) AZ.nd rfl (sk rfl) (Aq (lenD Aj) (by rfl) T.len jH_ (Aa (Ag (ixTD Ao) (pvD 0) Ae) Ad)))
   (Ac (BF (ptT (As (opE B6) (pvD 2) Ae (AF _)))
   (Af (AE (pvD 0)))
   AH)
   (Bu (Ba (i:=3) AZ.nd rfl (sk rfl) (An U4 (Bl (Aa Ae Ad)) (A1 rfl (A2 rfl) (cp:=CT) ⟨⟨rfl,rfl⟩,⟨⟨rfl,rfl⟩,rZ⟩⟩ (AN rfl T.range (Aa (An (opD0 CM) (pvD 2) Ae) Ad)) (fun _ _ _ _=>(Am (i:=0) Ei rfl (r9 rfl))) (fun _ _ _ _=>Bc) (fun _ _ _ _=>(An (opD0 AU) Ae (An (opD AJ) (An (opD0 AU) (pvD 0) (pvD 1)) (An (opD0 CM) (pvD 2) Ae)))))))
   (Ac (Ak (i:=4) AZ.nd (An OJ (Bl (Aa Ae Ad)) (pvD 2)))
   (Ac (Ak (i:=5) AZ.nd (An OJ (Bl (Aa (Bs Ad) Ad)) (pvD 2)))
   (Ac (Bo jI_ rfl (AN rfl T.range (Aa (pvD 2) Ad)) (Am (i:=6) AZ.nd rfl (r9 rfl))
   (Ac (Kj (Ag (ixTD Ao) (Ag (ixTD Ao) (pvD 0) Ae) (pvD 6)) (Ki (pvD 4) (Ag (ixLD AT) (pvD 3) (pvD 6)) set_list))
   (Af (Kj (AB Ax rfl T.tuple jF_ (Aa (A1 rfl (A2 rfl) (cp:=CU) ⟨⟨rfl,rfl⟩,rZ⟩ (EU (Ag (ixTD Ao) (Ag (ixTD Ao) (pvD 0) Ae) (pvD 6))) (fun _ _ _ _=>(Am (i:=0) Ej rfl (r9 rfl))) (fun _ _ _ _=>Bc) (fun _ _ _ _=>(Ag (ixLD (Bj (K:=K) rfl)) (pvD 1) (pvD 0)))) Ad)) (Ki (pvD 5) (Ag (ixLD AT) (pvD 3) (pvD 6)) set_list)))))
   (Af (AE (Bs (Aa (Ag (ixTD Ao) (pvD 0) Ae) (Aa (AB Ax rfl T.tuple jF_ (Aa (pvD 4) Ad)) (Aa (AB Ax rfl T.tuple jF_ (Aa (pvD 5) Ad)) Ad)))))))))))),?_⟩
  nofun
  refine⟨_,q1,_,rfl,?_⟩
  nofun
  refine⟨_,.inr q2,?_⟩
  rw[ja_]
  refine ite2 (fun h1=>k h aa ab H (Same.refl _) hh wf rfl) (fun h1=>?_)
  have h2:2<=aa.length:=by lia
  have ho:=PH h2 num
  have gH:=ho.len
  generalize hspin:PD aa.length num=o at ho gH
  refine⟨fun af H'=>Same H H'/\∃a,H' a=some (.lst (o.map V.int))/\af=[some (.ref h),some (.int num),some (.int aa.length),some (.ref a),none,none,none],?_,fun jB H1 hR=>?_⟩
  ·nofun
   refine⟨by lia,fun p hp=>⟨by lia,by lia,?_⟩⟩
   refine Js (n:=((aa.length:Int)-1).toNat) (fun i ys ai H2=>H2=upd H p (.lst [V.int 0])/\ys=((rY i).map fun j:Nat=>1+((j:Int)+num)%((aa.length:Int)-1)).map V.int/\∃o,ai=[o,some (.int num),some (.int aa.length)]) ⟨rfl,rfl,none,rfl⟩ s!"" (fun i ys ai H2 _ h=>by rw[h.2.1];simp) (fun i ys ai H2 hi h=>?_) (fun ys ai H2 h=>?_)
   ·obtain⟨rfl,rfl,o,rfl⟩:=h
    nofun
    refine⟨by lia,?_⟩
    rw[x2_,show (0:Int)+(i:Nat)=(i:Int) by lia]
    simp
   ·obtain⟨rfl,rfl,o,rfl⟩:=h
    intro D hD
    have n1:p≠D:=fun z=>by rw[<-z,Ab]at hD;cases hD
    refine⟨D,rfl,_,by rw[Ah n1];exact Ab,_,Ab,by simp;lia,fun q hq=>⟨((Same.new hp).newT hD).newT hq,q,?_,rfl⟩⟩
    rw[Ab,<-hspin,show ((aa.length:Int)-1).toNat=aa.length-1 by lia]
    rfl
  obtain⟨s1,a,ha,rfl⟩:=hR
  have mw:SqL K H1 a (o.map V.int):=SqL.of ha
  nofun
  rw[jj_]
  refine⟨by lia,fun p hp=>⟨_,Ab,by lia,by lia,by simp;lia,fun p1 bL=>⟨by lia,fun p2 aU=>⟨by lia,fun p3 dy=>⟨_,Ab,by lia,by lia,by simp;lia,fun p4 fi=>?_⟩⟩⟩⟩⟩
  rw[Jz]at aU dy fi ⊢
  rw[Jz]
  have sA:=(((((Same.new (o:=.lst [V.int 0]) hp).newT (o:=.lst (rX aa.length (V.int 0))) bL).newT (o:=.tup []) aU).newT (o:=.lst [V.ref p2]) dy).newT (o:=.lst (rX aa.length (V.ref p2))) fi)
  have n41:p4≠p1:=(At (At (At fi).1).1).2
  have cR:upd (upd (upd (upd (upd H1 p (.lst [V.int 0])) p1 (.lst (rX aa.length (V.int 0)))) p2 (.tup [])) p3 (.lst [V.ref p2])) p4 (.lst (rX aa.length (V.ref p2))) p1=some (.lst ((rX aa.length (0:Int)).map V.int)):=by
   rw[zw_]
   exact Same.new fi _ _ (Same.new dy _ _ (Same.new aU _ _ Ab))
  have hw0:Cv K (upd (upd (upd (upd (upd H1 p (.lst [V.int 0])) p1 (.lst (rX aa.length (V.int 0)))) p2 (.tup [])) p3 (.lst [V.ref p2])) p4 (.lst (rX aa.length (V.ref p2)))) p4 (rX aa.length []):=by
   refine⟨rX aa.length p2,by rw[Ab,zw_],by simp,fun i t w e1 e2=>?_⟩
   have e3:t=p2:=sY (jd_ e1)
   have e4:w=[]:=sY (jd_ e2)
   subst e3 e4
   exact SqT.of (Same.new fi _ _ (Same.new dy _ _ Ab))
  have hp1n:H1 p1=none:=(At bL).1
  have hp4n:H1 p4=none:=(At (At (At (At fi).1).1).1).1
  generalize upd (upd (upd (upd (upd H1 p (.lst [V.int 0])) p1 (.lst (rX aa.length (V.int 0)))) p2 (.tup [])) p3 (.lst [V.ref p2])) p4 (.lst (rX aa.length (V.ref p2)))=H2 at sA cR hw0 ⊢
  refine⟨by lia,by lia,?_⟩
  obtain⟨Pn,cw⟩:∃Pn:Nat->St->Hp->Prop,∀i aE H3,Pn i aE H3↔(∃(o5:Option V),Same H1 H3/\H3 p1=some (.lst ((Cw o (fun r=>aa.getD r 0) i (rX aa.length 0)).map V.int))/\Cv K H3 p4 (Cw o (fun r=>(ab.getD r []).map (ordW o)) i (rX aa.length []))/\aE=[some (.ref h),some (.int num),some (.int aa.length),some (.ref a),some (.ref p1),some (.ref p4),o5]):=⟨_,fun _ _ _=>qq_⟩
  refine forR Pn ((cw _ _ _).mpr ⟨none,sA,cR,hw0,rfl⟩) (fun i aE HT hi h3=>?_) (fun aE H3 h3=>?_)
  ·obtain⟨o5,sT,hmT,qB,rfl⟩:=(cw _ _ _).mp h3
   have ei:(0:Int)+(i:Nat)=(i:Int):=by lia
   rw[ei]
   have hxa:=ho.at (r:=(i:Int)) s!"" s!""
   rw[jj_]at hxa
   obtain⟨ni,dW,cQ⟩:=hxa
   obtain⟨tm3,tw3,y1,y2,y3⟩:=hh.mono (s1.trans sT)
   have iM:aa[i]?=some (aa.getD i 0):=by rw[jk_,jh_ hi];rfl
   obtain⟨row,hrow,fj,cW⟩:=wf.row (r:=(i:Int)) s!"" s!""
   rw[jj_]at hrow
   nofun
   refine⟨_,y1,_,rfl,_,rfl,_,y2,_,DY (by rw[jf_,iM];rfl),_,sT.seq mw,_,DY (by rw[jf_,ni];rfl),?_⟩
   refine⟨_,_,rfl,hmT,(ordW o i).toNat,MO dW (by rw[ja_,CF,qD_];exact cQ),?_⟩
   have sU:Same H1 (upd HT p1 (.lst (((Cw o (fun r=>aa.getD r 0) i (rX aa.length 0)).map V.int).set (ordW o i).toNat (V.int (aa.getD i 0))))):=sT.over hp1n
   have hmU:upd HT p1 (.lst (((Cw o (fun r=>aa.getD r 0) i (rX aa.length 0)).map V.int).set (ordW o i).toNat (V.int (aa.getD i 0)))) p1=some (.lst ((Cw o (fun r=>aa.getD r 0) (i+1) (rX aa.length 0)).map V.int)):=by
    rw[Ab,Cw,uz]
   have hwU:=qB.off (ys:=((Cw o (fun r=>aa.getD r 0) i (rX aa.length 0)).map V.int).set (ordW o i).toNat (V.int (aa.getD i 0))) hmT n41
   generalize upd HT p1 (.lst (((Cw o (fun r=>aa.getD r 0) i (rX aa.length 0)).map V.int).set (ordW o i).toNat (V.int (aa.getD i 0))))=HU at sU hmU hwU ⊢
   obtain⟨tm4,tw4,z1,z2,z3⟩:=hh.mono (s1.trans sU)
   obtain⟨xs4,t4,c1,c2,c3⟩:=z3.at hrow
   refine⟨_,z1,_,rfl,_,rfl,_,c1,_,c2,_,rfl,⟨_,c3⟩,?_⟩
   obtain⟨f,hf⟩:∃f:V->V,∀g:Int,f (V.int g)=.int (ordW o g):=⟨fun v=>match v with | .int g=>.int (ordW o g)|_=>.non,fun _=>rfl⟩
   refine EC (xs:=row.map V.int) (af:=[some (.ref a)]) f rfl c3 (by rw[ja_];have:=wf.l6;lia) (fun v hv R hR=>?_) (fun D hD=>?_)
   ·obtain⟨g,hg,rfl⟩:=jv_.mp hv
    rw[hf]at hR
    have j7:=(wf.rows row fj).2 g hg
    nofun
    exact⟨_,sU.seq mw,_,A3 j7.1 (ho.at j7.1 j7.2).1,hR⟩
   ·have em:(row.map V.int).map f=(row.map (ordW o)).map V.int:=by
     rw[jW_,jW_]
     exact qx_ fun g _=>hf g
    rw[em]
    refine⟨D,rfl,_,.inl ⟨SqL.of Ab,fun l f9=>?_⟩⟩
    have sV:=(Same.new (o:=.lst ((row.map (ordW o)).map V.int)) hD).newT (o:=.tup ((row.map (ordW o)).map V.int)) f9
    obtain⟨xs8,e1,e2,ic⟩:=(hwU.mono sV).set (j:=(ordW o i).toNat) (w:=row.map (ordW o)) (SqT.of Ab)
    refine⟨_,(sU.trans sV).seq mw,_,DY (by rw[jf_,ni];rfl),xs8,_,rfl,e1,(ordW o i).toNat,MO dW (by rw[e2,CF,qD_];exact cQ),(cw _ _ _).mpr ⟨_,(sU.trans sV).over hp4n,?_,?_,rfl⟩⟩
    ·rw[Ah n41.symm];exact sV _ _ hmU
    ·rw[Cw,jk_,hrow];exact ic
  ·obtain⟨o5,s3,oP,fA,rfl⟩:=(cw _ _ _).mp h3
   nofun
   obtain⟨tm3,tw3,y1,y2,y3⟩:=hh.mono (s1.trans s3)
   refine⟨_,y1,_,rfl,_,.inl ⟨SqL.of oP,fun l f9=>?_⟩⟩
   obtain⟨xs,cQ,i7⟩:=(fA.mono (Same.new (o:=.tup ((Pl aa.length o aa).map V.int)) f9)).rows
   refine⟨_,.inl ⟨SqL.of cQ,fun l1 bo=>⟨by lia,fun p5 cS=>?_⟩⟩⟩
   exact k p5 _ _ _ (((s1.trans s3).newT f9).newT bo |>.newT cS) ⟨l,l1,SqT.of Ab,SqT.of (Same.new cS _ _ (Same.new bo _ _ Ab)),(i7 l1 bo).mono (Same.new cS)⟩ (T0 wf ho) (C4 _ _ _)
def QF (K:α3):Sp:=fun vs H Q _=>∃(a h:Addr) (ns:α2) (L:Int) (aa:α2) (ab:α1),vs=[.ref a,.ref h]/\SqL K H a (ns.map V.int)/\AV K H h L aa ab/\Wf L aa ab/\∀(m:Nat) H',m<=3->many L (m+2)<=341->Same H H'->Q (.int m) H'
def Id   (F:Fun K "_law_more_by" "_law_more_by" Cj f fd)(T:Txt mg)
   (bA:⋯ 1 "_law_cell_at" Bh ["script","k"] (HZ K) BH BB)
  : nofun 2 f fd ["script","house"] (QF K):=by
 delta Eg
 ·obtain⟨a,h,ns,L,aa,ab,rfl,_⟩:=h;rfl
 ·obtain⟨a,h,ns,L,aa,ab,rfl,hs,hh,wf,k⟩:=h
  have hl:=Ar
  refine⟨_,(Ac (Ak (i:=2) Eg.nd (An (opD BS) (Ai bA hr.d AI (Aa (pvD 0) (Aa Ae Ad))) Ae))
   (Ac (BF (ptT (As (opD0 Tv) (Aq (lenD Aj) (by rfl) T.len jH_ (Aa (Ag (ixTD Ao) (pvD 1) Ae) Ad)) Ae (AF _)))
   (Af (AE (An (opD AJ) (pvD 2) Ae)))
   AH)
   (Ac (BF (PW.pt (Gn (ptT (As (opD0 Hg) (Aq (lenD Aj) (by rfl) T.len jH_ (Aa (Ag (ixTD Ao) (pvD 1) Ae) Ad)) Ae (AF _))) (DX (ptT (As (opE B6) (An (opD AJ) (pvD 2) Ae) Ae (AF _))))))
   (Af (AE (Ag (ixLD AT) (Bl (Aa Ae (Aa Ae (Aa Ae (Aa Ae (Aa Ae (Aa Ae Ad))))))) (An (opD0 CM) (Ag (ixTD Ao) (pvD 1) Ae) Ae))))
   AH)
   (Ac (BF (ptT (As (opE B6) (An (opD AJ) (pvD 2) Ae) Ae (AF _)))
   (Af (AE (Ag (ixLD AT) (Bl (Aa Ae (Aa Ae (Aa Ae (Aa Ae (Aa Ae (Aa Ae Ad))))))) (An (opD0 CM) (Ag (ixTD Ao) (pvD 1) Ae) Ae))))
   AH)
   (Af (AE (An (opD AJ) (pvD 2) (Ag (ixLD AT) (Bl (Aa Ae (Aa Ae (Aa Ae (Aa Ae (Aa Ae (Aa Ae Ad))))))) (An (opD0 CM) (Ag (ixTD Ao) (pvD 1) Ae) Ae))))))))),?_⟩
  nofun
  obtain⟨mm,wv,q1,q2,q3⟩:=id hh
  have cP:=wf.l1
  have dv:=wf.l6
  refine⟨a,ns,0,rfl,hs,_,rfl,⟨by decide,by decide⟩,_,q1,_,rfl,mm,rfl,_,.inr q2,?_⟩
  generalize cell ns 0 / 6=c
  rw[ja_]
  have hL:L=1\/L=2\/L=3\/L=4\/L=5\/L=6:=by lia
  have m0:many L (0+2)<=341:=by rcases hL with rfl|rfl|rfl|rfl|rfl|rfl<;>decide
  have m1:many L (1+2)<=341:=by rcases hL with rfl|rfl|rfl|rfl|rfl|rfl<;>decide
  have m2:many L (2+2)<=341:=by rcases hL with rfl|rfl|rfl|rfl|rfl|rfl<;>decide
  have m3:L<=4->many L (3+2)<=341:=fun h=>by
   rcases hL with rfl|rfl|rfl|rfl|rfl|rfl
   all_goals first|decide|lia
  -- each answer
  have rp:∀(c:Int) H',Same H H'->0<=c->c<=3->(c=3->L<=4)->Q (.int c) H':=fun c H' hS h0 h3 hc=>by
   obtain⟨m,rfl⟩:∃m:Nat,c=(m:Int):=⟨c.toNat,by lia⟩
   refine k m H' s!"" ?_ hS
   rcases (show m=0\/m=1\/m=2\/m=3 by lia) with rfl|rfl|rfl|rfl
   ·exact m0
   ·exact m1
   ·exact m2
   ·exact m3 (hc rfl)
  refine ite2 (fun _=>⟨by decide,rp _ _ (Same.refl _) s!"" s!"" s!""⟩) (fun _=>?_)
  refine⟨_,q1,_,rfl,mm,rfl,_,.inr q2,?_⟩
  rw[ja_]
  refine ite2 (fun h3=>⟨by decide,ite2 (fun _=>⟨by decide,fun p hp=>?_⟩) (fun _=>⟨by decide,ite2 (fun _=>⟨by decide,fun p hp=>?_⟩) (fun _=>⟨by decide,fun p hp=>?_⟩)⟩)⟩) (fun h3=>⟨by decide,ite2 (fun _=>⟨by decide,fun p hp=>?_⟩) (fun _=>⟨by decide,fun p hp=>?_⟩)⟩)
  all_goals
   refine⟨_,(Same.new hp).seqT q1,_,rfl,L,rfl,_,SqL.of Ab,?_⟩
   clear hh wf q1 q2 q3 k m0 m1 m2 m3
   rcases hL with rfl|rfl|rfl|rfl|rfl|rfl
   all_goals first
    | exact⟨_,rfl,rp _ _ (Same.new hp) (by decide) (by decide) (by decide)⟩
    | exact⟨_,rfl,_,rfl,by decide,rp _ _ (Same.new hp) s!"" s!"" s!""⟩
def BR.tsq2 {K:α3}    (h:BR T H H')(hT:H T=some (.tbl ps)):TSq K H H':=fun b ys q=>h.tsq hT q
def AV.monoQ {K:α3}      (x:AV K H h L aa ab)(e:TSq K H H'):AV K H' h L aa ab:=by
 obtain⟨m,w,h1,h2,ts,h3,h4,h5⟩:=x
 exact⟨m,w,e _ _ h1,e _ _ h2,ts,e _ _ h3,h4,fun i t r a b=>e _ _ (h5 i t r a b)⟩
def QG:∀(l s:α1) (w:α2),w∈l.foldl ins s->w∈s\/w∈l
 |[],s,w,h=>.inl h
 |v::l,s,w,h=>by
  rw[q2_]at h
  rcases QG l _ w h with h|h
  ·unfold ins at h
   split at h
   ·exact .inl h
   ·rcases jw_.mp h with h|h
    ·exact .inl h
    ·rw[jr_.mp h];exact .inr jo_
  ·exact .inr (jm_ _ h)
def QH {K:α3}  {os:List aO.Wd}(h:WsT H os):AA K H (aO.wv os) (os.map (·.2)):=by
 refine⟨by simp[aO.wv],fun i w hw=>?_⟩
 rw[jf_]at hw
 cases e:os[i]? with
 |none=>rw[e]at hw;cases hw
 |some o=>
  rw[e]at hw;cases hw
  exact⟨o.1,by rw[aO.wv,jf_,e];rfl,h o (jd_ e)⟩
def QI:∀(l s:α1) (w:α2),(w∈s\/w∈l)->w∈l.foldl ins s
 |[],s,w,h=>h.resolve_right (by simp)
 |v::l,s,w,h=>by
  rw[q2_]
  refine QI l _ w ?_
  unfold ins
  rcases h with h|h
  ·left
   split
   ·exact h
   ·exact j6_ _ h
  ·rcases jD_.mp h with rfl|h
   ·left
    split
    ·rename_i hh;exact hh
    ·exact jy_ _ jo_
   ·exact .inr h
def Ep {l:α1}{w:α2}:w∈l.foldl ins []↔w∈l:=⟨fun h=>(QG l [] w h).resolve_left (by simp),fun h=>QI l [] w (.inr h)⟩
def Kg {ab:α1}{n:Nat}{dB:α1}{E:Nat->α1}{w:α2}:w∈allW ab n dB E ↔ ∃r,r<n/\∃v∈dB,∃e∈E (Az ab (wayW ab r++v)).toNat,w=wayW ab r++v++e:=by
 unfold allW oneW
 constructor
 ·intro h
  obtain⟨r,hr,h⟩:=zM_.mp h
  obtain⟨v,hv,h⟩:=zM_.mp h
  obtain⟨e,he,rfl⟩:=jv_.mp h
  exact⟨r,jC_.mp hr,v,hv,e,he,rfl⟩
 ·rintro⟨r,hr,v,hv,e,he,rfl⟩
  exact zM_.mpr ⟨r,jC_.mpr hr,zM_.mpr ⟨v,hv,jv_.mpr ⟨e,he,rfl⟩⟩⟩
def Kh   (hL:0<L)  : v∈Dd L m↔isW L v=true/\v.length<=m+1:=by
 constructor
 ·intro h
  obtain⟨k',dE,rfl⟩:=jv_.mp h
  have hv:=C2 hL k'
  refine⟨hv,?_⟩
  have h1:=(EE hL hv (m+1)).mpr (by
   rw[D8]
   have:=jC_.mp dE
   show (k':Int)<many L (m+2)
   lia)
  lia
 ·rintro⟨hv,hl⟩
  have h1:=(EE hL hv (m+1)).mp s!""
  obtain⟨k',dE⟩:∃k':Nat,place L v=(k':Int):=⟨(place L v).toNat,by have:=KC hL hv;lia⟩
  refine jv_.mpr ⟨k',jC_.mpr ?_,?_⟩
  ·have:(k':Int)<many L (m+2):=by rw[<-dE];exact h1
   lia
  ·exact O8 hL (C2 hL k') hv (by rw[D8,dE])
def Lf    (cK:Can L ms vs)  (hr:r<ms.length):((r:Int),wayW vs r)∈Au vs/\isW L (wayW vs r)=true/\Az vs (wayW vs r)=(r:Int)/\(wayW vs r).length<=40:=by
 obtain⟨top,bf⟩:=Bfs.mk cK.wf
 have hord:=cK.order
 unfold rOf at hord
 have cc:((r:Int),wayW vs r)∈Au vs:=by
  have:(r:Int)∈(Au vs).map (·.1):=by rw[hord];exact jv_.mpr ⟨r,jC_.mpr hr,rfl⟩
  obtain⟨e,he,e1⟩:=jv_.mp this
  obtain⟨g,w⟩:=e
  have e1:g=(r:Int):=e1
  subst e1
  rw[Md bf.nod he]
  exact he
 have jR:=bf.wd _ cc
 obtain⟨j,hj⟩:=jK_.mp cc
 have h1:=bf.sh j _ hj
 have h2:=(jb_.mp hj).1
 have h3:=bf.len
 have h4:=cK.wf.n40
 exact⟨cc,jR.1,jR.2,by dsimp only at h1;lia⟩
def Lg {α:Type}{p q:α->Bool}:∀{l:List α},(∀x∈l,p x=true->q x=true)->(∃x∈l,q x=true/\p x=false)->l.countP p<l.countP q
 |[],_,⟨x,hx,_⟩=>by cases hx
 |a::l,h,⟨x,hx,h1,h2⟩=>by
  have hm:l.countP p<=l.countP q:=List.countP_mono_left fun y hy=>h y (jm_ _ hy)
  rw[uU,uU]
  rcases jD_.mp hx with rfl|hx
  ·rw[h1,h2];simp;lia
  ·have:=Lg (l:=l) (fun y hy=>h y (jm_ _ hy)) ⟨x,hx,h1,h2⟩
   have ha:=h a jo_
   by_cases pa:p a=true
   ·rw[pa,ha pa];simp;lia
   ·have:p a=false:=by simpa using pa
    rw[this]
    have:0<=(if q a=true then 1 else 0):=jY_ _
    simp only[jT_,qX_];lia
def Ng {α:Type}[DecidableEq α]:∀{l m:List α},l.Nodup->(∀x∈l,x∈m)->l.length<=m.length
 |[],m,_,_=>jY_ _
 |a::l,m,hn,hs=>by
  have gr:=qL_.mp hn
  have h1:=Ng (l:=l) (m:=m.erase a) gr.2 fun x hx=>by
   have:x≠a:=fun z=>gr.1 (z ▸ hx)
   exact (xj_ this).mpr (hs x (jm_ _ hx))
  have h2:=qZ_ (hs a jo_)
  have h3:=qI_ (hs a jo_)
  rw[jU_];lia
def Ie {f:Nat->Nat}{n:Nat}(h:∀i j,i<n->j<n->f i=f j->i=j):((rY n).map f).Nodup:=by
 rw[List.nodup_iff_pairwise_ne,xn_]
 refine (List.nodup_iff_pairwise_ne.mp zL_).imp_of_mem fun {a b} ha hb b8 z=>b8 (h a b (jC_.mp ha) (jC_.mp hb) z)
def BJ   (hu:isW L u=true)(hv:isW L v=true):isW L (u++v)=true:=by
 rw[Aw]at hu hv ⊢
 intro x hx
 rcases jw_.mp hx with hx|hx
 ·exact hu x hx
 ·exact hv x hx
section
variable {L n m:Nat} {ms mr:α2} {vs wr:α1} {ah:Nat->α2} {E:Nat->α1}
structure Asked (L n m:Nat)(ms mr:α2)(vs wr:α1)(ah:Nat->α2)(E:Nat->α1):Prop where
 hn:n=ms.length
 w1:Wf L ms vs
 w2:Wf L mr wr
 sz:mr.length<=n+m
 acW:∀r,r<n->isW L (ah r)=true/\Az vs (ah r)=(r:Int)
 ac0:ah 0=[]
 eW:∀r,r<n->∀e∈E r,isW L e=true
 e0:∀r,r<n->[]∈E r
 sep:∀r s,r<n->s<n->r≠s->∃e,e∈E r/\e∈E s/\mkR ms (Bq vs r e)≠mkR ms (Bq vs s e)
 agr:∀r,r<n->∀v,isW L v=true->v.length<=m+1->∀e∈E (Az vs (ah r++v)).toNat,mkR ms (Az vs (ah r++v++e))=mkR mr (Az wr (ah r++v++e))
def Lh (ab:α1)(u v:α2):Az ab (u++v)=Bq ab (Az ab u) v:=by unfold Bq Az;rw[qA_]
def Asked.fwd (A:Asked L n m ms mr vs wr ah E)   (hr:r<n)(bO:r'<n)(hv:isW L v=true)(nT:isW L v'=true)(l:v.length<=m+1)(l':v'.length<=m+1)(e:Az wr (ah r++v)=Az wr (ah r'++v')):Az vs (ah r++v)=Az vs (ah r'++v'):=by
 refine j2_ fun ay=>?_
 have h1:=L2.Wf.walk' A.w1 (BJ (A.acW r hr).1 hv)
 have h2:=L2.Wf.walk' A.w1 (BJ (A.acW r' bO).1 nT)
 have hn:=A.hn
 obtain⟨x,ha,hb,hd⟩:=A.sep (Az vs (ah r++v)).toNat (Az vs (ah r'++v')).toNat s!"" s!"" s!""
 have g1:=A.agr r hr v hv l x ha
 have g2:=A.agr r' bO v' nT l' x hb
 rw[Lh vs,Lh wr]at g1 g2
 rw[xS_ h1.1,xS_ h2.1,g1,g2,e]at hd
 exact hd rfl
def DV (L n:Nat)(wr:α1)(ah:Nat->α2)(k q:Nat):Prop:=∃r,r<n/\∃v,isW L v=true/\v.length<=k/\Az wr (ah r++v)=(q:Int)
def Gk (A:Asked L n m ms mr vs wr ah E){k:Nat}(h:∀q,DV L n wr ah (k+1) q->DV L n wr ah k q):∀j q,DV L n wr ah (k+j) q->DV L n wr ah k q
 |0,q,g=>g
 |j+1,q,⟨r,hr,v,hv,hl,e⟩=>by
  by_cases ar:v.length<=k+j
  ·exact Gk A h j q ⟨r,hr,v,hv,ar,e⟩
  ·have ay:v ≠ []:=fun z=>by subst z;simp at ar
   have ev:=(List.dropLast_concat_getLast ay).symm
   have hvv:=Aw.mp hv
   have hd:isW L v.dropLast=true:=Aw.mpr fun x hx=>hvv x (List.dropLast_subset _ hx)
   have hx:=hvv _ (List.getLast_mem ay)
   have w1:=L2.Wf.walk' A.w2 (BJ (A.acW r hr).1 hd)
   obtain⟨r2,dG,v2,oQ,bJ,e2⟩:=Gk A h j (Az wr (ah r++v.dropLast)).toNat ⟨r,hr,v.dropLast,hd,by rw[List.length_dropLast];lia,by lia⟩
   refine h q ⟨r2,dG,v2++[v.getLast ay],BJ oQ (Aw.mpr fun x fI=>by rw[jr_.mp fI];exact hx),by rw[jl_];simpa using bJ,?_⟩
   rw[<-e]
   conv=>rhs;rw[ev]
   rw[<-qh_,<-qh_,BD,BD,e2,xS_ w1.1]
open Classical in
def Li (A:Asked L n m ms mr vs wr ah E):∀q,DV L n wr ah (m+1) q->DV L n wr ah m q:=by
 refine j2_ fun dN=>?_
 have up:∀k q,DV L n wr ah k q->DV L n wr ah (k+1) q:=fun k q ⟨r,hr,v,hv,hl,e⟩=>⟨r,hr,v,hv,by lia,e⟩
 have lt:∀k q,DV L n wr ah k q->q<mr.length:=fun k q ⟨r,hr,v,hv,hl,e⟩=>by
  have:=L2.Wf.walk' A.w2 (BJ (A.acW r hr).1 hv)
  lia
 have jb:∀k,k<=m+1->n+k<=(rY mr.length).countP (fun q=>decide (DV L n wr ah k q)):=by
  intro k
  induction k with
  |zero=>
   intro _
   rw[List.countP_eq_length_filter]
   have:=Ng (l:=(rY n).map fun r=>(Az wr (ah r)).toNat) (m:=(rY mr.length).filter fun q=>decide (DV L n wr ah 0 q)) (Ie fun i j hi hj e=>?_) (fun x hx=>?_)
   ·rw[ja_,qi_]at this
    lia
   ·have wi:=L2.Wf.walk' A.w2 (A.acW i hi).1
    have wj:=L2.Wf.walk' A.w2 (A.acW j hj).1
    have:=A.fwd (v:=[]) (v':=[]) hi hj rfl rfl (by simp) (by simp) (by rw[ql_,ql_];lia)
    rw[ql_,ql_,(A.acW i hi).2,(A.acW j hj).2]at this
    lia
   ·obtain⟨r,hr,rfl⟩:=jv_.mp hx
    have hr:=jC_.mp hr
    have wi:=L2.Wf.walk' A.w2 (A.acW r hr).1
    refine xo_.mpr ⟨jC_.mpr s!"",j7_ ⟨r,hr,[],rfl,ji_ _,by rw[ql_];lia⟩⟩
  |succ k ih=>
   intro hk
   have h1:=ih s!""
   have hex:∃q,DV L n wr ah (k+1) q/\¬ DV L n wr ah k q:=by
    refine j2_ fun hh=>dN ?_
    have st:∀q,DV L n wr ah (k+1) q->DV L n wr ah k q:=fun q g=>j2_ fun z=>hh ⟨q,g,z⟩
    intro q g
    have e:m+1=k+(m+1-k):=by lia
    rw[e]at g
    obtain⟨r,hr,v,hv,hl,e⟩:=Gk A st _ q g
    exact⟨r,hr,v,hv,by lia,e⟩
   obtain⟨q,g1,g2⟩:=hex
   have h2:=Lg (l:=rY mr.length) (p:=fun q=>decide (DV L n wr ah k q)) (q:=fun q=>decide (DV L n wr ah (k+1) q)) (fun x _ hx=>j7_ (up k x (qB_ hx))) ⟨q,jC_.mpr (lt _ q g1),j7_ g1,qc_ g2⟩
   lia
 have h1:=jb (m+1) (ji_ _)
 have h2:=List.countP_le_length (l:=rY mr.length) (p:=fun q=>decide (DV L n wr ah (m+1) q))
 rw[qi_]at h2
 have:=A.sz
 lia
def Asked.all (A:Asked L n m ms mr vs wr ah E):∀w,isW L w=true->mkR ms (Az vs w)=mkR mr (Az wr w):=by
 have hn:=A.hn
 have n1:=A.w1.n1
 have key:∀w:α2,isW L w.reverse=true->∃r,r<n/\∃v,isW L v=true/\v.length<=m/\Az wr w.reverse=Az wr (ah r++v)/\Az vs w.reverse=Az vs (ah r++v):=by
  intro w
  induction w with
  |nil=>exact fun _=>⟨0,by lia,[],rfl,jY_ _,by rw[A.ac0];rfl,by rw[A.ac0];rfl⟩
  |cons x w ih=>
   intro hw
   rw[uC]at hw ⊢
   have d7:isW L w.reverse=true:=Aw.mpr fun y hy=>Aw.mp hw y (j6_ _ hy)
   have hx:isW L [x]=true:=Aw.mpr fun y hy=>Aw.mp hw y (jy_ _ hy)
   obtain⟨r,hr,v,hv,hl,e1,e2⟩:=ih d7
   have rq:=BJ hv hx
   have w1:=L2.Wf.walk' A.w2 (BJ (A.acW r hr).1 rq)
   obtain⟨r2,dG,v2,oQ,bJ,e3⟩:=Li A (Az wr (ah r++(v++[x]))).toNat ⟨r,hr,v++[x],rq,by rw[jl_];simpa using hl,by lia⟩
   have e4:Az wr (ah r++(v++[x]))=Az wr (ah r2++v2):=by rw[e3];lia
   refine⟨r2,dG,v2,oQ,bJ,?_,?_⟩
   ·rw[<-e4,BD,e1,<-qh_,BD]
   ·rw[<-A.fwd hr dG rq oQ (by rw[jl_];simpa using hl) s!"" e4,BD,e2,<-qh_,BD]
 intro w hw
 obtain⟨r,hr,v,hv,hl,e1,e2⟩:=key w.reverse (by rw[q4_];exact hw)
 rw[q4_]at e1 e2
 rw[e1,e2]
 have h1:=L2.Wf.walk' A.w1 (BJ (A.acW r hr).1 hv)
 have:=A.agr r hr v hv s!"" [] (A.e0 _ s!"")
 rw[ql_]at this
 exact this
end
def Qo {kvs:List (List Key×V)}{ws:α1}(h:EM (ws.foldl ins []) kvs){w:α2}:(valV kvs (wkey w)).isSome=decide (w∈ws):=by
 rw[h.some_iff w]
 exact decide_eq_decide.mpr Ep
def Sa {L:Nat}{aa:α2}{ab:α1}{m:Nat}(wf:Wf L aa ab){w:α2}(h:w∈Kc L aa ab m):w∈E2 L aa ab m:=by
 have aY:=sWf wf
 have fin:=Fin17.mk' (b:=bW (sM L aa ab) (sW L aa ab)) (L:=L) aY.n1 aY.n40
 unfold Kc at h
 unfold E2
 rw[Kg]at h ⊢
 obtain⟨r,hr,v,hv,e,he,rfl⟩:=h
 refine⟨r,hr,v,hv,e,?_,rfl⟩
 unfold ownW at he
 rcases jD_.mp he with rfl|he
 ·exact jd_ fin.wc.w0
 ·exact Kb he
def Sb     (hr:r<n)(hs:s<n)  (he:ws.find? (fun v=>decide (b v s≠b v r))=some e):e∈ownW n b ws r/\e∈ownW n b ws s:=by
 unfold ownW
 refine⟨jm_ _ ((Hd ws _).mpr ⟨s,jC_.mpr hs,he⟩),jm_ _ ((Hd ws _).mpr ⟨r,jC_.mpr hr,?_⟩)⟩
 rw[<-he]
 congr 1
 exact funext fun v=>decide_eq_decide.mpr ⟨qp_,qp_⟩
def Tj    (cK:Can L ms vs)  (hr:r<ms.length)(hs:s<ms.length)(ay:r≠s):∃e,(wcOf ms.length L (bW ms vs)).1.find? (fun v=>decide (bW ms vs v s≠bW ms vs v r))=some e/\isW L e=true/\bW ms vs e s≠bW ms vs e r/\e∈(wcOf ms.length L (bW ms vs)).1:=by
 have fin:=Fin17.mk' (b:=bW ms vs) (L:=L) cK.wf.n1 cK.wf.n40
 cases hf:(wcOf ms.length L (bW ms vs)).1.find? (fun v=>decide (bW ms vs v s≠bW ms vs v r)) with
 |some e=>
  have hm:=xa_ hf
  have hd:=z5_ hf
  exact⟨e,rfl,Aw.mpr (fin.wc.ok e hm),qB_ hd,hm⟩
 |none=>
  refine absurd ?_ ay
  have aB:=xA_.mp hf
  have hc:=(fin.wc.iff r s hr hs).mpr fun w hw=>by
   have:=aB w hw
   exact (j2_ fun z=>this (j7_ (qp_ z)))
  have cL:cf (wcOf ms.length L (bW ms vs)).2 r=cf (wcOf ms.length L (bW ms vs)).2 s:=by
   have e1:=KR (c:=(wcOf ms.length L (bW ms vs)).2) fin.wc.len (r:=(r:Int)) s!"" s!""
   have e2:=KR (c:=(wcOf ms.length L (bW ms vs)).2) fin.wc.len (r:=(s:Int)) s!"" s!""
   rw[jj_]at e1 e2
   rw[e1,e2]at hc
   exact js_ hc
  exact cK.red r s hr hs fun w hw=>LP cK.wf fin w hw s!"" s!"" s!"" s!"" cL
def Nh     (hn:n<=40)(hm:dB.length<=341)(hE:∀r<n,∀v∈dB,(E (Az ab (wayW ab r++v)).toNat).length<=40):(allW ab n dB E).length<=545600:=by
 unfold allW
 have h1:=FS (f:=fun r=>dB.flatMap (oneW ab E r)) (c:=13640) (rY n) (fun r hr=>by
  have h2:=FS (f:=oneW ab E r) (c:=40) dB (fun v hv=>by unfold oneW;rw[ja_];exact hE r (jC_.mp hr) v hv)
  lia)
 rw[qi_]at h1
 have h2:n*13640<=40*13640:=uc _ s!""
 lia
def Ni   (h:many L (m+2)<=341):(Dd L m).length<=341:=by
 rw[ja_,qi_];lia
def Od {L:Nat}{aa:α2}{ab:α1}{m:Nat}(wf:Wf L aa ab)(h:many L (m+2)<=341):(E2 L aa ab m).length<=545600:=by
 have aY:=sWf wf
 have fin:=Fin17.mk' (b:=bW (sM L aa ab) (sW L aa ab)) (L:=L) aY.n1 aY.n40
 unfold E2
 refine Nh aY.n40 (Ni h) fun r hr v hv=>?_
 have h1:=fin.wc.le
 have h2:=Gs (wcOf (sM L aa ab).length L (bW (sM L aa ab) (sW L aa ab))).2
 rw[fin.wc.len]at h2
 have:=aY.n40
 lia
def QJ {L:Nat}{aa:α2}{ab:α1}{m:Nat}(wf:Wf L aa ab)(h:many L (m+2)<=341):(Kc L aa ab m).length<=545600:=by
 have aY:=sWf wf
 have cK:=sCan wf
 unfold Kc
 refine Nh aY.n40 (Ni h) fun r hr v hv=>?_
 have hv:=(Kh (by have:=wf.l1;lia)).mp hv
 have hw:=L2.Wf.walk' aY (BJ (Lf cK hr).2.1 hv.1)
 have h3:=He (b:=bW (sM L aa ab) (sW L aa ab)) (r:=(Az (sW L aa ab) (wayW (sW L aa ab) r++v)).toNat) (wcOf (sM L aa ab).length L (bW (sM L aa ab) (sW L aa ab))).1 (rY (sM L aa ab).length) (jC_.mpr s!"")
 rw[qi_]at h3
 unfold ownW
 rw[jU_]
 have:=aY.n40
 lia
def Jg (K:α3):Sp:=fun vs H Q _=>∃(h:Addr) (L:Int) (aa:α2) (ab:α1),vs=[.ref h]/\AV K H h L aa ab/\Wf L aa ab/\∀p H',Same H H'->H p=none->H' p=some (.lst (((Au ab).map (·.1)).map V.int))->Q (.ref p) H'
def GO   (F:Fun K "_law_order_of" "_law_order_of" B0 f fd)(T:Txt mg)
  : nofun 1 f fd ["house"] (Jg K):=by
 delta A9
 ·obtain⟨h,L,aa,ab,rfl,_⟩:=h;rfl
 ·obtain⟨h,L,aa,ab,rfl,hh,wf,k⟩:=h
  have hl:=Ar
  have cP:=wf.l1
  have cC:=wf.n1
  have aW:=wf.n40
  refine⟨_,(Ac (Ak (i:=1) A9.nd (Bl (Aa Ae Ad)))
   (Ac (Ak (i:=2) A9.nd Ae)
   (Ac (Df jI_ (ptT (As (opD0 Hg) (pvD 2) (Aq (lenD Aj) (by rfl) T.len jH_ (Aa (pvD 1) Ad)) (AF _)))
   (Ac (Ak (i:=3) A9.nd (Ag (ixTD Ao) (Ag (ixTD Ao) (pvD 0) Ae) (Ag (ixLD AT) (pvD 1) (pvD 2))))
   (Ac (Bo jI_ rfl (EU (pvD 3)) (Am (i:=4) A9.nd rfl (r9 rfl))
   (Af (BF (ptT (As Go (pvD 4) (pvD 1) rfl))
   (Af (A8 (C1 jE_ jL_ jM_ AO (pvD 1) (Aa (pvD 4) Ad))))
   AH)))
   (Af (Ak (i:=2) A9.nd (An (opD0 AU) (pvD 2) Ae))))))
   (Af (AE (pvD 1)))))),?_⟩
  nofun
  refine⟨by lia,fun p2 aU=>?_⟩
  have s0:Same H (upd H p2 (.lst [V.int 0])):=Same.new aU
  have dF:upd H p2 (.lst [V.int 0]) p2=some (.lst ((([(0,[])]:List (Int×α2)).map (·.1)).map V.int)):=Ab
  generalize upd H p2 (.lst [V.int 0])=H0 at s0 dF ⊢
  obtain⟨Pv,aq⟩:∃Pv:Nat->St->Hp->Prop,∀m ai H2,Pv m ai H2↔(∃(ents:List (Int×α2)) (i:Nat) (top:Int) (o4 o5:Option V),m=aa.length+1-i/\Same H H2/\H2 p2=some (.lst ((ents.map (·.1)).map V.int))/\Bfs L aa.length ab ents i top/\(∀e,ents[i]?=some e->top<=place L e.2*L+1)/\bfs ab (aa.length+1-i) ents i=Au ab/\ai=[some (.ref h),some (.ref p2),some (.int i),o4,o5]):=⟨_,fun _ _ _=>qq_⟩
  refine Hn Pv ⟨_,(aq _ _ _).mpr ⟨[(0,[])],0,1,none,none,rfl,s0,dF,Bfs.start L cC ab,fun e he=>?_,by unfold Au;rw[wf.len];rfl,rfl⟩⟩ ?_
  ·simp at he;subst he;simp[place,AQ]
  intro m ai H2 d8
  obtain⟨ents,i,top,o4,o5,rfl,s2,dG,bf,g9,bQ,rfl⟩:=(aq _ _ _).mp d8
  have qF:=bf.len
  nofun
  refine⟨_,.inl (SqL.of dG),?_⟩
  rw[ja_,ja_]
  refine ite2 (fun ar=>?_) (fun bF=>?_)
  ·have hi:i<ents.length:=by lia
   obtain⟨e,he⟩:∃e,ents[i]?=some e:=⟨ents[i],by simp[hi]⟩
   obtain⟨r,w⟩:=e
   have bq:=jd_ he
   have bO:=bf.rng _ bq
   have htop':top<=place L w*L+1:=g9 _ he
   obtain⟨row,hrow,fj,cW⟩:=wf.row bO.1 bO.2
   have nj:ab.getD r.toNat []=row:=by rw[jk_,hrow];rfl
   obtain⟨mm,wv,q1,q2,q3⟩:=id hh
   obtain⟨xs,t,z1,z2,z3⟩:=q3.atZ bO.1 hrow
   refine⟨Pv (aa.length+1-(i+1)),fun af H' h=>⟨_,by lia,h⟩,?_⟩
   refine⟨_,s2.seqT q1,_,rfl,_,SqL.of dG,_,A3 (v:=r) s!"" (by rw[jj_,jf_,he];rfl),_,rfl,_,_,rfl,s2.seqT z1,_,z2,_,rfl,⟨_,s2.seqT z3⟩,?_⟩
   obtain⟨Pn,cw⟩:∃Pn:Nat->St->Hp->Prop,∀x aE H3,Pn x aE H3↔(∃(ao:List (Int×α2)) (o5:Option V),Same H H3/\H3 p2=some (.lst ((ao.map (·.1)).map V.int))/\Bfs L aa.length ab ao i (place L w*L+(x:Int)+1)/\Seen L ab ao r w x/\ao[i]?=some (r,w)/\CP w ao x (row.drop x)=CP w ents 0 row/\aE=[some (.ref h),some (.ref p2),some (.int i),some (.ref t),o5]):=⟨_,fun _ _ _=>qq_⟩
   refine forT (xs:=row.map V.int) Pn ((cw _ _ _).mpr ⟨ents,o5,s2,dG,bf.up (by push_cast;lia),(fun y h0 h1=>absurd h1 (by push_cast;lia)),he,rfl,rfl⟩) (fun x aE H3 _ h3=>?_) (fun x v aE H3 hx h3=>?_) (fun aE H3 h3=>?_)
   ·obtain⟨ao,_,s3,_⟩:=(cw _ _ _).mp h3
    exact s3.seqT z3
   ·obtain⟨ao,o5,s3,cX,cY,fR,eG,bR,rfl⟩:=(cw _ _ _).mp h3
    obtain⟨g,hg,rfl⟩:=Cf hx
    have cg:=(jb_.mp hg).1
    have kq:=(wf.rows row fj).2 g (jd_ hg)
    have qG:g=Bi ab r (x:Int):=(BC hrow (by rw[jj_];exact hg)).symm
    have cZ:=jd_ eG
    have hU:row.drop x=g::row.drop (x+1):=by
     rw[xb_ cg]
     congr 1
     exact (jb_.mp hg).2
    obtain⟨c9,fk⟩:=cY.letter s!"" fR cZ s!"" qG kq
    have fm:=Fb (g:=g) (v:=w++[(x:Int)]) eG
    rw[hU,Fa]at bR
    nofun
    refine⟨_,.inl (SqL.of cX),rfl,Hq _,?_⟩
    rw[MN]
    by_cases hm:g∈ao.map (·.1)
    ·rw[if_pos hm]at c9 fk fm bR
     rw[j7_ hm,if_neg (by simp)]
     exact (cw _ _ _).mpr ⟨ao,_,s3,cX,c9,fk,fm,bR,rfl⟩
    ·rw[if_neg hm]at c9 fk fm bR
     rw[qc_ hm,if_pos (by simp)]
     refine⟨.inl ⟨rfl,_,SqL.of cX⟩,_,cX,by have:=cY.len;simp;lia,(cw _ _ _).mpr ⟨ao++[(g,w++[(x:Int)])],_,s3.over aU,by rw[Ab];simp,c9,fk,fm,bR,rfl⟩⟩
   ·obtain⟨ao,o5,s3,cX,cY,fR,eG,bR,rfl⟩:=(cw _ _ _).mp h3
    rw[ja_]at cY fR bR
    rw[uR,FZ]at bR
    nofun
    obtain⟨c9,dR⟩:=cY.next s!"" cW fR eG
    refine (aq _ _ _).mpr ⟨ao,i+1,_,_,_,rfl,s3,cX,c9,dR,?_,by push_cast;rfl⟩
    rw[show aa.length+1-i=(aa.length+1-(i+1))+1 by lia,Jy he]at bQ
    rw[bR,<-nj]
    exact bQ
  ·have hi:i=ents.length:=by have:=bf.il;lia
   subst hi
   rw[Jx (by simp)]at bQ
   nofun
   rw[<-bQ]at k
   exact k p2 H2 s2 aU dG
def Gz {α:Type}[DecidableEq α]{l k:List α}(h:l.Nodup)(hs:∀x∈l,x∈k):l.length<=k.length:=by
 induction l generalizing k with
 |nil=>simp
 |cons a l ih=>
  rw[qL_]at h
  have ha:=hs a jo_
  have h1:∀x∈l,x∈k.erase a:=fun x hx=>by
   refine (xj_ ?_).mpr (hs x (jm_ _ hx))
   intro z;subst z;exact h.1 hx
  have:=ih h.2 h1
  rw[qZ_ ha]at this
  have hp:=qI_ ha
  rw[jU_];lia
section
variable {rs:α2} {E:Nat->Int->Int->Prop}
def QK (rs:α2)(E:Nat->Int->Int->Prop)(k i:Nat):Prop:=∀a,rs[i]?=some a->∀j b,j<i->rs[j]?=some b->¬ E k b a
open Classical in
noncomputable def Er (rs:α2)(E:Nat->Int->Int->Prop)(k:Nat):List Nat:=(rY rs.length).filter fun i=>decide (QK rs E k i)
open Classical in
def Cs {k i:Nat}:i∈Er rs E k↔i<rs.length/\QK rs E k i:=by
 unfold Er
 rw[xo_,jC_,qs_]
def Ig (k:Nat):(Er rs E k).Nodup:=zL_.filter _
def Nj (rf:∀k a,E k a a)(sy:∀k a b,E k a b->E k b a)(tr:∀k a b c,E k a b->E k b c->E k a c)(k:Nat):∀(n i:Nat) (a:Int),i<=n->rs[i]?=some a->∃j b,rs[j]?=some b/\E k b a/\QK rs E k j:=by
 intro n
 induction n with
 |zero=>
  intro i a hi ha
  have:i=0:=by lia
  subst this
  exact⟨0,a,ha,rf k a,fun a' _ j b hj=>absurd hj (qV_ _)⟩
 |succ n ih=>
  intro i a hi ha
  by_cases h:QK rs E k i
  ·exact⟨i,a,ha,rf k a,h⟩
  ·unfold QK at h
   simp only[ud]at h
   obtain⟨a',e',j,b,hj,hb,hE⟩:=h
   rw[ha]at e'
   cases e'
   have hE:E k b a:=Classical.not_not.mp hE
   obtain⟨j',b',h1,h2,h3⟩:=ih j b s!"" hb
   exact⟨j',b',h1,tr k _ _ _ h2 hE,h3⟩
def V6 (rf:∀k a,E k a a)(sy:∀k a b,E k a b->E k b a)(tr:∀k a b c,E k a b->E k b c->E k a c)(mo:∀k a b,E (k+1) a b->E k a b)   (ha:a∈rs)(hb:b∈rs)(h:E k a b)(hn:¬ E (k+1) a b):(Er rs E k).length+1<=(Er rs E (k+1)).length:=by
 have sub:∀i∈Er rs E k,i∈Er rs E (k+1):=fun i hi=>by
  obtain⟨h1,h2⟩:=Cs.mp hi
  exact Cs.mpr ⟨h1,fun a ha j b hj hb hE=>h2 a ha j b hj hb (mo k _ _ hE)⟩
 obtain⟨i,hi,hni⟩:∃i,i∈Er rs E (k+1)/\i∉Er rs E k:=by
  refine j2_ fun hc=>hn ?_
  have aB:∀i,i∈Er rs E (k+1)->i∈Er rs E k:=fun i hi=>j2_ fun z=>hc ⟨i,hi,z⟩
  obtain⟨ia,hia⟩:=jK_.mp ha
  obtain⟨ib,hib⟩:=jK_.mp hb
  obtain⟨j1,c1,p1,p2,p3⟩:=Nj (rs:=rs) rf sy tr (k+1) ia ia a (ji_ _) hia
  obtain⟨j2,c2,r1,r2,r3⟩:=Nj (rs:=rs) rf sy tr (k+1) ib ib b (ji_ _) hib
  have g1:=(Cs.mp (aB j1 (Cs.mpr ⟨(jb_.mp p1).1,p3⟩))).2
  have g2:=(Cs.mp (aB j2 (Cs.mpr ⟨(jb_.mp r1).1,r3⟩))).2
  have nW:E k c1 c2:=tr k _ _ _ (mo k _ _ p2) (tr k _ _ _ h (sy k _ _ (mo k _ _ r2)))
  have ej:j1=j2:=by
   refine j2_ fun ay=>?_
   rcases Nat.lt_or_gt_of_ne ay with ar|ar
   ·exact g2 c2 r1 j1 c1 ar p1 nW
   ·exact g1 c1 p1 j2 c2 ar r1 (sy k _ _ nW)
  subst ej
  rw[p1]at r1
  cases r1
  exact tr _ _ _ _ (sy _ _ _ p2) r2
 have:=Gz (l:=i::Er rs E k) (k:=Er rs E (k+1)) (by rw[qL_];exact⟨hni,Ig k⟩) fun y hy=>by
  rcases jD_.mp hy with rfl|hy
  ·exact hi
  ·exact sub y hy
 simpa using this
def V7 (rf:∀k a,E k a a)(sy:∀k a b,E k a b->E k b a)(tr:∀k a b c,E k a b->E k b c->E k a c)(mo:∀k a b,E (k+1) a b->E k a b)(st:∀k,(∀a∈rs,∀b∈rs,E k a b->E (k+1) a b)->∀a∈rs,∀b∈rs,E (k+1) a b->E (k+2) a b)(h0:0<rs.length)  (ha:a∈rs)(hb:b∈rs)(h:E rs.length a b)(j:Nat):E j a b:=by
 have key:∀k,(∃k',k'<k/\∀a∈rs,∀b∈rs,E k' a b->E (k'+1) a b)\/k+1<=(Er rs E k).length:=by
  intro k
  induction k with
  |zero=>
   right
   have:0∈Er rs E 0:=Cs.mpr ⟨h0,fun a _ j b hj=>absurd hj (qV_ _)⟩
   exact qI_ this
  |succ k ih=>
   rcases ih with ⟨k',h1,h2⟩|ih
   ·exact .inl ⟨k',by lia,h2⟩
   ·by_cases hs:∀a∈rs,∀b∈rs,E k a b->E (k+1) a b
    ·exact .inl ⟨k,by lia,hs⟩
    ·simp only[ud]at hs
     obtain⟨a,ha,b,hb,h1,h2⟩:=hs
     right
     have:=V6 rf sy tr mo ha hb h1 h2
     lia
 have bh:(Er rs E rs.length).length<=rs.length:=by
  have:=Gz (l:=Er rs E rs.length) (k:=rY rs.length) (Ig _) fun i hi=>jC_.mpr (Cs.mp hi).1
  simpa using this
 rcases key rs.length with ⟨k',h1,h2⟩|h1
 ·have up:∀d,∀a∈rs,∀b∈rs,E (k'+d) a b->E (k'+d+1) a b:=by
   intro d
   induction d with
   |zero=>exact h2
   |succ d ih=>exact st _ ih
  have far:∀d,E (rs.length+d) a b:=by
   intro d
   induction d with
   |zero=>exact h
   |succ d ih=>
    have:=up (rs.length+d-k') a ha b hb (by rw[show k'+(rs.length+d-k')=rs.length+d by lia];exact ih)
    rw[show k'+(rs.length+d-k')+1=rs.length+(d+1) by lia]at this
    exact this
  have down:∀d i,E (i+d) a b->E i a b:=by
   intro d
   induction d with
   |zero=>exact fun i h=>h
   |succ d ih=>exact fun i h=>ih i (mo _ _ _ h)
  exact down rs.length j (by rw[v5];exact far j)
 ·lia
end
def Gm (L:Int)(aa:α2)(ab:α1)(k:Nat)(a b:Int):Prop:=∀v,isW L v=true->v.length<=k->mkW aa (Bq ab a v)=mkW aa (Bq ab b v)
def Gm.succ      : Gm L aa ab (k+1) a b↔Gm L aa ab k a b/\∀x:Int,0<=x->x<L->Gm L aa ab k (Bi ab a x) (Bi ab b x):=by
 constructor
 ·intro h
  refine⟨fun v hv hl=>h v hv s!"",fun x x0 x1 v hv hl=>?_⟩
  have:=h (x::v) (Aw.mpr fun y hy=>by
   rcases jD_.mp hy with rfl|hy
   ·exact⟨x0,x1⟩
   ·exact Aw.mp hv y hy) (by rw[jU_];lia)
  rw[AY,AY]at this
  exact this
 ·rintro⟨h1,h2⟩ v hv hl
  cases v with
  |nil=>exact h1 [] hv (by simp)
  |cons x v=>
   have hx:=Aw.mp hv x jo_
   rw[AY,AY]
   exact h2 x hx.1 hx.2 v (Aw.mpr fun y hy=>Aw.mp hv y (jm_ _ hy)) (by rw[jU_]at hl;lia)
def Gm.all {L:Int}{aa:α2}{ab:α1}{rs:α2}(hz:0∈rs)(cl:∀r∈rs,∀x:Int,0<=x->x<L->Bi ab r x∈rs){a b:Int}(ha:a∈rs)(hb:b∈rs)(h:Gm L aa ab rs.length a b):∀v,isW L v=true->mkW aa (Bq ab a v)=mkW aa (Bq ab b v):=fun v hv=>
 V7 (rs:=rs) (E:=Gm L aa ab) (fun _ _ _ _ _=>rfl) (fun _ _ _ h v hv hl=>(h v hv hl).symm) (fun _ _ _ _ h g v hv hl=>(h v hv hl).trans (g v hv hl)) (fun _ _ _ h=>(Gm.succ.mp h).1) (fun k hs a ha b hb h=>by
  obtain⟨h1,h2⟩:=Gm.succ.mp h
  exact Gm.succ.mpr ⟨h,fun x x0 x1=>hs _ (cl a ha x x0 x1) _ (cl b hb x x0 x1) (h2 x x0 x1)⟩) (qI_ hz) ha hb h v.length v hv (ji_ _)
def ln41 (names:α2)(ab:α1)(r:Nat):α2:=names.getD r 0::(ab.getD r []).map fun a=>names.getD a.toNat 0
def CW (L:Int)(aa:α2)(ab:α1)(k:Nat)(names:α2):Prop:=names.length=aa.length/\∀a b:Nat,a<aa.length->b<aa.length->(names.getD a 0=names.getD b 0↔Gm L aa ab k a b)
def CW.more    (wf:Wf L aa ab)   (h:CW L aa ab k names)(hl:eM.length=aa.length)(he:∀a b:Nat,a<aa.length->b<aa.length->(eM.getD a 0=eM.getD b 0↔ln41 names ab a=ln41 names ab b)):CW L aa ab (k+1) eM:=by
 refine⟨hl,fun a b ha hb=>?_⟩
 rw[he a b ha hb,Gm.succ]
 obtain⟨ra,lA,ra2,ra3⟩:=wf.row (r:=(a:Int)) s!"" s!""
 obtain⟨rb,lB,rb2,rb3⟩:=wf.row (r:=(b:Int)) s!"" s!""
 rw[jj_]at lA lB
 have ga:ab.getD a []=ra:=by rw[jk_,lA];rfl
 have gb:ab.getD b []=rb:=by rw[jk_,lB];rfl
 have st:∀(c:Nat) (rc:α2),ab[c]?=some rc->rc∈ab->∀x:Nat,(x:Int)<L->∃g:Nat,rc[x]?=some (g:Int)/\g<aa.length/\Bi ab c x=g:=fun c rc h1 h2 x hx=>by
  have h3:=wf.rows rc h2
  have cg:x<rc.length:=by lia
  have h4:=h3.2 rc[x] (j0_ _)
  refine⟨rc[x].toNat,by rw[jh_ cg];congr 1;lia,by lia,?_⟩
  rw[BC (row:=rc) (g:=rc[x]) (by rw[jj_];exact h1) (by rw[jj_];exact jh_ cg)]
  lia
 unfold ln41
 rw[ga,gb,xO_,h.2 a b ha hb]
 refine and_congr qq_ ?_
 constructor
 ·intro e x x0 x1
  obtain⟨xn,rfl⟩:∃xn:Nat,x=(xn:Int):=⟨x.toNat,by lia⟩
  obtain⟨g,g1,g2,g3⟩:=st a ra lA ra2 xn x1
  obtain⟨f,f1,f2,f3⟩:=st b rb lB rb2 xn x1
  rw[g3,f3,<-h.2 g f g2 f2]
  have:=jG_ (fun l:α2=>l[xn]?) e
  simp only[jf_,g1,f1,u6,jj_,zD_]at this
  exact this
 ·intro e
  refine qS_ fun xn=>?_
  by_cases hx:(xn:Int)<L
  ·obtain⟨g,g1,g2,g3⟩:=st a ra lA ra2 xn hx
   obtain⟨f,f1,f2,f3⟩:=st b rb lB rb2 xn hx
   have e1:=e (xn:Int) s!"" hx
   rw[g3,f3,<-h.2 g f g2 f2]at e1
   simp only[jf_,g1,f1,u6,jj_,zD_]
   exact e1
  ·rw[jV_ (by rw[ja_];lia),jV_ (by rw[ja_];lia)]
def CW.first    : CW L aa ab 0 aa:=⟨rfl,fun a b ha hb=>by
 constructor
 ·intro e v hv hl
  have:v=[]:=List.length_eq_zero_iff.mp s!""
  subst this
  show aa.getD ((a:Int)).toNat 0=aa.getD ((b:Int)).toNat 0
  rw[jj_,jj_];exact e
 ·intro h
  have:=h [] (Aw.mpr fun x hx=>(by cases hx)) (jY_ _)
  have:aa.getD ((a:Int)).toNat 0=aa.getD ((b:Int)).toNat 0:=this
  rw[jj_,jj_]at this
  exact this⟩
def ET (H:Hp)(xs:List V)(ks:α1):Prop:=xs.length=ks.length/\∀(i:Nat) (k:α2),ks[i]?=some k->∃(t l:Addr) (c:Int) (w:α2),xs[i]?=some (.ref t)/\k=c::w/\H t=some (.tup [.int c,.ref l])/\H l=some (.lst (w.map V.int))
def ET.nil  : ET H [] []:=⟨rfl,fun i k h=>by simp at h⟩
def ET.mono    (h:ET H xs ks)(s:Same H H'):ET H' xs ks:=⟨h.1,fun i k hk=>let ⟨t,l,c,w,a,b,d,e⟩:=h.2 i k hk;⟨t,l,c,w,a,b,s _ _ d,s _ _ e⟩⟩
def ET.snoc {H:Hp}{xs:List V}{ks:α1}(h:ET H xs ks){t l:Addr}{c:Int}{w:α2}(ht:H t=some (.tup [.int c,.ref l]))(hl:H l=some (.lst (w.map V.int))):ET H (xs++[.ref t]) (ks++[c::w]):=by
 refine⟨by rw[jl_,jl_,h.1];rfl,fun i k hk=>?_⟩
 by_cases hi:i<ks.length
 ·rw[je_ hi]at hk
  obtain⟨t',l',c',w',a,b,d,e⟩:=h.2 i k hk
  exact⟨t',l',c',w',by rw[je_ (by rw[h.1];exact hi)];exact a,b,d,e⟩
 ·rw[jp_ s!""]at hk
  have h0:i-ks.length=0:=by
   have:=(jb_.mp hk).1
   simpa using this
  rw[h0]at hk
  have hk:c::w=k:=by simpa using hk
  subst hk
  exact⟨t,l,c,w,by rw[jp_ (by rw[h.1];lia),h.1,h0];rfl,rfl,ht,hl⟩
def ET.at {H:Hp}{xs:List V}{ks:α1}(h:ET H xs ks){i:Nat}{x:V}(hx:xs[i]?=some x):∃(t l:Addr) (c:Int) (w:α2),ks[i]?=some (c::w)/\x=.ref t/\H t=some (.tup [.int c,.ref l])/\H l=some (.lst (w.map V.int)):=by
 have hi:i<ks.length:=by rw[<-h.1];exact (jb_.mp hx).1
 obtain⟨t,l,c,w,a,b,d,e⟩:=h.2 i ks[i] (by simp[hi])
 rw[hx]at a
 exact⟨t,l,c,w,by rw[<-b];simp[hi],js_ a,d,e⟩
def eqP {K:α3}{H:Hp}{t l t' l':Addr}{c c':Int}{w w':α2}(ht:H t=some (.tup [.int c,.ref l]))(hl:H l=some (.lst (w.map V.int)))(ff:H t'=some (.tup [.int c',.ref l']))(f9:H l'=some (.lst (w'.map V.int))):
  EqD K H 4 (.ref t) (.ref t') (decide (c::w=c'::w')):=by
 refine .inr ⟨t,t',_,_,rfl,rfl,.inr ⟨SqT.of ht,SqT.of ff⟩,fun i=>if i=0 then decide (c=c') else decide (w=w'),fun i x y hx hy=>?_,?_⟩
 ·match i,hx,hy with
  |0,hx,hy=>
   cases hx;cases hy
   refine .inl ⟨rfl,rfl,?_⟩
   show decide (c=c')=(c==c')
   by_cases h:c=c'<;>simp[h]
  |1,hx,hy=>
   cases hx;cases hy
   have:=EqD.ints (K:=K) (xs:=w) (ys:=w') (.inl ⟨SqL.of hl,SqL.of f9⟩) 2
   exact this
  |i+2,hx,hy=>simp at hx
 ·rw[qy_,qs_]
  simp[x2_]
def ET.eqs {K:α3}{H:Hp}{xs:List V}{ks:α1}(h:ET H xs ks){t l:Addr}{c:Int}{w:α2}(ht:H t=some (.tup [.int c,.ref l]))(hl:H l=some (.lst (w.map V.int))):EqsD K H 4 xs (.ref t) (fun i=>decide (ks[i]?=some (c::w))):=by
 refine⟨fun i v hv=>?_,fun i j v hi hj=>?_⟩
 ·obtain⟨t',l',c',w',a,rfl,d,e⟩:=h.at hv
  refine⟨t',rfl,?_⟩
  show EqD K H 4 (.ref t') (.ref t) (decide (ks[i]?=some (c::w)))
  rw[show (decide (ks[i]?=some (c::w)))=decide (c'::w'=c::w) by rw[a];simp]
  exact eqP d e ht hl
 ·obtain⟨t1,l1,c1,w1,a1,rfl,d1,e1⟩:=h.at hi
  obtain⟨t2,l2,c2,w2,a2,z,d2,e2⟩:=h.at hj
  cases z
  rw[d1]at d2
  cases d2
  rw[e1]at e2
  have:=js_ e2
  injection this with this
  have:=(z9_ (fun x y z=>V.int.inj z)).mp this
  show decide (ks[i]?=some (c::w))=decide (ks[j]?=some (c::w))
  rw[a1,a2,this]
def UD {ks:α1}{k:α2}:((rY ks.length).any fun i=>decide (ks[i]?=some k))=decide (k∈ks):=by
 rw[qy_,xU_,qs_]
 constructor
 ·rintro⟨i,_,h⟩
  exact jd_ (qB_ h)
 ·intro h
  obtain⟨i,hi⟩:=jK_.mp h
  exact⟨i,jC_.mpr (jb_.mp hi).1,j7_ hi⟩
def Ce (names:α2)(ab:α1):α1:=(rY names.length).map (ln41 names ab)
def nx31 (names:α2)(ab:α1):α2:=(Ce names ab).map fun k=>((((Ce names ab).foldl ins []).idxOf k:Nat):Int)
def CW.turn    (wf:Wf L aa ab)   (h:CW L aa ab k names):CW L aa ab (k+1) (nx31 names ab):=by
 have gX:∀a:Nat,a<aa.length->(Ce names ab)[a]?=some (ln41 names ab a):=fun a ha=>by
  unfold Ce
  rw[jf_,qN_ (by rw[h.1];exact ha)];rfl
 have nat:∀a:Nat,a<aa.length->(nx31 names ab).getD a 0=((((Ce names ab).foldl ins []).idxOf (ln41 names ab a):Nat):Int):=fun a ha=>by
  unfold nx31
  rw[jk_,jf_,gX a ha];rfl
 refine CW.more wf h (by unfold nx31 Ce;rw[ja_,ja_,qi_,h.1]) fun a b ha hb=>?_
 rw[nat a ha,nat b hb]
 constructor
 ·intro e
  have e:((Ce names ab).foldl ins []).idxOf (ln41 names ab a)=((Ce names ab).foldl ins []).idxOf (ln41 names ab b):=by lia
  have ma:=Ep.mpr (jd_ (gX a ha))
  have mb:=Ep.mpr (jd_ (gX b hb))
  have ga:=q3_ (xP_.mpr ma)
  have gb:=q3_ (xP_.mpr mb)
  rw[<-ga,<-gb]
  congr 1
 ·intro e;rw[e]
def QL (K:α3):Sp:=fun vs H Q _=>∃(h:Addr) (L:Int) (aa:α2) (ab:α1),vs=[.ref h]/\AV K H h L aa ab/\Wf L aa ab/\∀(p:Addr) (names:α2) (H':Hp),Same H H'->H p=none->H' p=some (.lst (names.map V.int))->CW L aa ab aa.length names->Q (.ref p) H'
def Ih   (F:Fun K "_law_classes" "_law_classes" Cl f fd)(T:Txt mg)
  : nofun 1 f fd ["house"] (QL K):=by
 delta A5
 ·obtain⟨h,L,aa,ab,rfl,_⟩:=h;rfl
 ·obtain⟨h,L,aa,ab,rfl,hh,wf,k⟩:=h
  have hl:=Ar
  have aW:=wf.n40
  have cC:=wf.n1
  have cP:=wf.l1
  have dv:=wf.l6
  refine⟨_,(Ac (Ba (i:=1) A5.nd rfl (sk rfl) (AB DZ rfl T.list xr_ (Aa (Ag (ixTD Ao) (pvD 0) Ae) Ad)))
   (Ac (Bo jI_ rfl (AN rfl T.range (Aa (Aq (lenD Aj) (by rfl) T.len jH_ (Aa (Ag (ixTD Ao) (pvD 0) Ae) Ad)) Ad)) (Am (i:=2) A5.nd rfl (r9 rfl))
   (Ac (D5 (i:=3) A5.nd rfl rfl rfl (A2 rfl) (cp:=DI) ⟨⟨rfl,rfl⟩,⟨⟨rfl,rfl⟩,rZ⟩⟩ (AN rfl T.range (Aa (Aq (lenD Aj) (by rfl) T.len jH_ (Aa (pvD 1) Ad)) Ad)) (fun _ _ _ _=>(Am (i:=0) Fj rfl (r9 rfl))) (fun _ _ _ _=>Bc) (fun _ _ _ _=>(Bs (Aa (Ag (ixLD (Bj (K:=K) rfl)) (pvD 1) (pvD 0)) (Aa (A1 rfl (A2 rfl) (cp:=DJ) ⟨⟨rfl,rfl⟩,rZ⟩ (PQ (K:=K) rfl (Ag (ixTD (Bp (K:=K) rfl)) (Ag (ixTD (Bp (K:=K) rfl)) (pvD 2) Ae) (pvD 0))) (fun _ _ _ _=>(Am (i:=0) Fk rfl (r9 rfl))) (fun _ _ _ _=>Bc) (fun _ _ _ _=>(Ag (ixLD (Bj (K:=K) rfl)) (pvD 1) (pvD 0)))) Ad)))))
   (Ac (Ba (i:=4) A5.nd rfl (sk rfl) (Bl Ad))
   (Ac (Bo jI_ rfl (AS (pvD 3)) (Am (i:=5) A5.nd rfl (r9 rfl))
   (Af (BF (ptT (As (Qt 4 (hu45 (hu9 hr))) (pvD 5) (pvD 4) rfl))
   (Af (A8 (C1 jE_ jL_ jM_ AO (pvD 4) (Aa (pvD 5) Ad))))
   AH)))
   (Af (Ba (i:=1) A5.nd rfl (sk rfl) (A1 rfl (A2 rfl) (cp:=DK) ⟨⟨rfl,rfl⟩,rZ⟩ (AS (pvD 3)) (fun _ _ _ _=>(Am (i:=0) Fl rfl (r9 rfl))) (fun _ _ _ _=>Bc) (fun _ _ _ _=>(SE (K:=K) rfl jE_ tG tH (N3 (K:=K) rfl 4 (hu46 (hu9 hr))) (pvD 1) (Aa (pvD 0) Ad))))))))))
   (Af (AE (pvD 1))))),?_⟩
  obtain⟨tm,tw,q1,q2,q3⟩:=id hh
  nofun
  refine⟨_,q1,_,rfl,tm,rfl,_,.inr q2,fun pn oR=>?_⟩
  have s0:=Same.new oR (o:=.lst (aa.map V.int))
  refine⟨_,s0.seqT q1,_,rfl,tm,rfl,_,.inr (s0.seqT q2),?_⟩
  rw[ja_]
  refine⟨by lia,by lia,?_⟩
  rw[jj_]
  obtain⟨Pv,aq⟩:∃Pv:Nat->St->Hp->Prop,∀i af H',Pv i af H'↔(∃(names:α2) (pn:Addr) (o2 o3 o4 o5:Option V),Same H H'/\H pn=none/\H' pn=some (.lst (names.map V.int))/\CW L aa ab i names/\af=[some (.ref h),some (.ref pn),o2,o3,o4,o5]):=⟨_,fun _ _ _=>qq_⟩
  refine forR Pv ((aq _ _ _).mpr ⟨aa,pn,none,none,none,none,s0,oR,Ab,CW.first,rfl⟩) (fun i ai H2 hi h2=>?_) (fun ai H2 h2=>?_)
  ·obtain⟨names,pn,o2,o3,o4,o5,s2,hnN,gR,nm,rfl⟩:=(aq _ _ _).mp h2
   have hnl:names.length=aa.length:=nm.1
   nofun
   refine⟨_,.inl (SqL.of gR),?_⟩
   rw[ja_]
   refine⟨by lia,by lia,?_⟩
   rw[jj_]
   have hlk:(Ce names ab).length=names.length:=by unfold Ce;rw[ja_,qi_]
   have hlat:∀r,r<names.length->(Ce names ab)[r]?=some (ln41 names ab r):=fun r hr=>by unfold Ce;rw[jf_,qN_ hr];rfl
   have gc:∀g:Int,0<=g->g<aa.length->(names.map V.int)[g.toNat]?=some (V.int (names.getD g.toNat 0)):=fun g g0 g1=>by rw[jf_,jk_,jh_ s!""];rfl
   refine Js (fun i' xs af H'=>Same H2 H'/\ET H' xs ((Ce names ab).take i')/\∃o,af=[o,some (.ref pn),some (.ref h)]) ⟨Same.refl _,ET.nil,none,rfl⟩ s!"" (fun i' xs af H' hi' h'=>by rw[h'.2.1.1,jx_];lia) (fun i' xs af H' hi' h'=>?_) (fun xs af Hc h' pk lC=>?_)
   ·obtain⟨s3,iI,o,rfl⟩:=h'
    rw[wa_]
    obtain⟨row,w1,w2,w3⟩:=wf.row (r:=(i':Int)) s!"" s!""
    rw[jj_]at w1
    obtain⟨lD,jS,g1,g2,g3⟩:=hh.mono (s2.trans s3)
    obtain⟨zs,t,z1,z2,z3⟩:=g3.at w1
    have hrow:=wf.rows row w2
    nofun
    refine⟨_,SqL.of (s3 _ _ gR),_,B7 s!"" (gc _ s!"" s!""),?_⟩
    refine⟨_,g1,_,rfl,jS,rfl,_,z1,_,z2,t,rfl,⟨_,z3⟩,?_⟩
    refine EC (af:=[some (.ref pn)]) (fun x=>match x with | .int g=>.int (names.getD g.toNat 0)|_=>.non) rfl z3 (by rw[ja_];lia) (fun x hx R hR=>?_) (fun D hD=>?_)
    ·obtain⟨g,hg,rfl⟩:=jv_.mp hx
     have b7:=hrow.2 g hg
     nofun
     exact⟨_,SqL.of (s3 _ _ gR),_,B7 b7.1 (gc g b7.1 b7.2),hR⟩
    ·refine⟨by lia,fun p hp=>?_⟩
     rw[jj_]
     have sD:=(Same.new hD (o:=.lst ((row.map V.int).map fun x=>match x with | .int g=>.int (names.getD g.toNat 0)|_=>.non))).newT hp (o:=.tup [V.int (names.getD i' 0),V.ref D])
     have e1:=Same.new hp (o:=.tup [V.int (names.getD i' 0),V.ref D]) _ _ (Ab (H:=H') (a:=D) (o:=.lst ((row.map V.int).map fun x=>match x with | .int g=>.int (names.getD g.toNat 0)|_=>.non)))
     have e2:upd (upd H' D (.lst ((row.map V.int).map fun x=>match x with | .int g=>.int (names.getD g.toNat 0)|_=>.non))) p (.tup [V.int (names.getD i' 0),V.ref D]) p=some (.tup [V.int (names.getD i' 0),V.ref D]):=Ab
     generalize upd (upd H' D (.lst ((row.map V.int).map fun x=>match x with | .int g=>.int (names.getD g.toNat 0)|_=>.non))) p (.tup [V.int (names.getD i' 0),V.ref D])=H4 at sD e1 e2 ⊢
     refine⟨s3.trans sD,?_,_,rfl⟩
     rw[jR_,hlat i' hi',qv_]
     have e3:ln41 names ab i'=names.getD i' 0::row.map fun a=>names.getD a.toNat 0:=by
      unfold ln41
      rw[jk_ (l:=ab),w1];rfl
     rw[e3]
     refine (iI.mono sD).snoc e2 ?_
     rw[e1,jW_,jW_]
     rfl
   ·obtain⟨s3,iI,o,rfl⟩:=h'
    rw[<-hlk,jQ_]at iI
    nofun
    refine⟨by lia,fun p hp=>?_⟩
    have sK:=s3.newT lC (o:=.lst xs)
    have sp:=(Same.new lC (o:=.lst xs)).newT hp (o:=.lst [])
    have lE:pk≠p:=qp_ (At hp).2
    have oS:upd (upd Hc pk (.lst xs)) p (.lst []) pk=some (.lst xs):=by rw[Ah lE];exact Ab
    have ep:upd (upd Hc pk (.lst xs)) p (.lst []) p=some (.lst []):=Ab
    have rg:H2 p=none:=(s3.newT lC (o:=.lst xs)).none hp
    have hk4:=iI.mono sp
    have s4:Same H2 (upd (upd Hc pk (.lst xs)) p (.lst [])):=s3.trans sp
    have lF:=sp
    generalize upd (upd Hc pk (.lst xs)) p (.lst [])=H4 at s4 oS ep hk4 lF ⊢
    have hpN2:H p=none:=s2.none rg
    have cg:=hk4.1
    refine⟨⟨_,SqL.of oS⟩,?_⟩
    have mP:=(At hp).1
    obtain⟨Pw,cG⟩:∃Pv:Nat->St->Hp->Prop,∀j af H',Pv j af H'↔(∃(ys:List V) (o5:Option V),BR p H4 H'/\H' p=some (.lst ys)/\ET Hc ys (((Ce names ab).take j).foldl ins [])/\af=[some (.ref h),some (.ref pn),some (.int (0+(i:Int))),some (.ref pk),some (.ref p),o5]):=⟨_,fun _ _ _=>qq_⟩
    refine forL (xs:=xs) Pw ((cG _ _ _).mpr ⟨[],_,fun _ _ _ e=>e,ep,ET.nil,rfl⟩) (fun j af H' _ h'=>by obtain⟨_,_,s',_⟩:=(cG _ _ _).mp h';exact SqL.of (s' _ _ lE oS)) (fun j x af H5 hx h'=>?_) (fun af H5 h'=>?_)
    ·obtain⟨ys,o5,s5,cS,j9,rfl⟩:=(cG _ _ _).mp h'
     have sc:Same Hc H5:=fun b o e=>s5 b o (Ap e mP) (lF _ _ e)
     have mQ:=j9.mono sc
     obtain⟨t,l,c,w0,cO,rfl,ht,fB⟩:=iI.at hx
     have rA:H5 t=some (.tup [.int c,.ref l]):=s5 _ _ (Ap ht mP) (lF _ _ ht)
     have rB:H5 l=some (.lst (w0.map V.int)):=s5 _ _ (Ap fB mP) (lF _ _ fB)
     have i8:=mQ.1
     have eV:=Cb ((Ce names ab).take j) []
     rw[jx_,qn_]at eV
     nofun
     refine⟨ys,SqL.of cS,_,mQ.eqs rA rB,?_⟩
     rw[i8,UD]
     have n0:((Ce names ab).take (j+1)).foldl ins []=ins (((Ce names ab).take j).foldl ins []) (c::w0):=by rw[jR_,cO,qv_,qA_];rfl
     refine ite2 (fun hy=>?_) (fun hn=>?_)
     ·have hy:¬ (c::w0∈((Ce names ab).take j).foldl ins []):=by simpa using hy
      refine⟨.inl ⟨rfl,_,SqL.of cS⟩,ys,cS,by lia,(cG _ _ _).mpr ⟨_,_,fun b o hb e=>by rw[Ah hb];exact s5 b o hb e,Ab,?_,rfl⟩⟩
      rw[n0,show ins (((Ce names ab).take j).foldl ins []) (c::w0)=((Ce names ab).take j).foldl ins []++[c::w0] from if_neg hy]
      exact j9.snoc ht fB
     ·have hn:c::w0∈((Ce names ab).take j).foldl ins []:=by simpa using hn
      refine (cG _ _ _).mpr ⟨ys,_,s5,cS,?_,rfl⟩
      rw[n0,show ins (((Ce names ab).take j).foldl ins []) (c::w0)=((Ce names ab).take j).foldl ins [] from if_pos hn]
      exact j9
    ·obtain⟨ys,o5,s5,cS,j9,rfl⟩:=(cG _ _ _).mp h'
     have sc:Same Hc H5:=fun b o e=>s5 b o (Ap e mP) (lF _ _ e)
     have mQ:=j9.mono sc
     rw[cg,jQ_]at mQ
     have eV:=Cb (Ce names ab) []
     rw[qn_]at eV
     have i8:=mQ.1
     have epk5:=s5 _ _ lE oS
     nofun
     refine⟨⟨_,SqL.of epk5⟩,?_⟩
     refine Iq (xs:=xs) (fun i' us af H'=>H'=H5/\us=(((Ce names ab).take i').map fun k=>(((((Ce names ab).foldl ins []).idxOf k:Nat):Int))).map V.int/\∃o,af=[o,some (.ref p)]) ⟨rfl,rfl,none,rfl⟩ s!"" (fun i' us af H' hi' h'=>by obtain⟨rfl,rfl,_⟩:=h';exact⟨SqL.of epk5,by rw[ja_,ja_,jx_];lia⟩) (fun i' x us af H' hx h'=>?_) (fun us af H' h' D hD=>?_)
     ·obtain⟨rfl,rfl,o,rfl⟩:=h'
      obtain⟨t,l,c,w0,cO,rfl,ht,fB⟩:=iI.at hx
      have rA:H' t=some (.tup [.int c,.ref l]):=s5 _ _ (Ap ht mP) (lF _ _ ht)
      have rB:H' l=some (.lst (w0.map V.int)):=s5 _ _ (Ap fB mP) (lF _ _ fB)
      have bq:=Ep.mpr (jd_ cO)
      have jv:=xP_.mpr bq
      nofun
      refine⟨.inl ⟨rfl,_,SqL.of cS⟩,ys,cS,_,mQ.eqs rA rB,((Ce names ab).foldl ins []).idxOf (c::w0),by lia,?_,fun j hj=>?_,by lia,?_,_,rfl⟩
      ·exact j7_ (by rw[jh_ jv,q3_])
      ·refine qc_ fun z=>?_
       have:=MU z
       lia
      ·rw[jR_,cO,qv_,jS_,jS_]
       rfl
     ·obtain⟨rfl,rfl,o,rfl⟩:=h'
      rw[cg,jQ_]
      have sH:Same H H':=fun b o e=>s5 b o (Ap e hpN2) (s4 _ _ (s2 _ _ e))
      exact (aq _ _ _).mpr ⟨nx31 names ab,D,_,_,_,_,sH.newT hD,sH.none hD,Ab,nm.turn wf,rfl⟩
  ·obtain⟨names,pn,o2,o3,o4,o5,s2,hnN,gR,nm,rfl⟩:=(aq _ _ _).mp h2
   nofun
   exact k pn names _ s2 hnN gR nm
def QM {c c':α2}:∀(R ah:α2),(∀r s,(r∈ah\/r∈R)->(s∈ah\/s∈R)->(cf c r=cf c s↔cf c' r=cf c' s))->R.foldl (Bt c) ah=R.foldl (Bt c') ah
 |[],ah,_=>rfl
 |q::R,ah,h=>by
  have e:Bt c ah q=Bt c' ah q:=by
   unfold Bt
   have:cf c q∈ah.map (cf c)↔cf c' q∈ah.map (cf c'):=by
    rw[jv_,jv_]
    constructor
    ·rintro⟨a,ha,e⟩;exact⟨a,ha,(h a q (.inl ha) (.inr jo_)).mp e⟩
    ·rintro⟨a,ha,e⟩;exact⟨a,ha,(h a q (.inl ha) (.inr jo_)).mpr e⟩
   by_cases hq:cf c q∈ah.map (cf c)
   ·rw[if_pos hq,if_pos (this.mp hq)]
   ·rw[if_neg hq,if_neg (fun z=>hq (this.mpr z))]
  rw[q2_,q2_,e]
  have sub:∀r,r∈Bt c' ah q->r∈ah\/r∈q::R:=fun r hr=>by
   unfold Bt at hr
   split at hr
   ·exact .inl hr
   ·rcases jw_.mp hr with hr|hr
    ·exact .inl hr
    ·exact .inr (by rw[jr_.mp hr];exact jo_)
  refine QM R _ fun r s hr hs=>h r s ?_ ?_
  ·rcases hr with hr|hr
   ·exact sub r hr
   ·exact .inr (jm_ _ hr)
  ·rcases hs with hs|hs
   ·exact sub s hs
   ·exact .inr (jm_ _ hs)
def UE  (h:∀r s,r∈R->s∈R->(cf c r=cf c s↔cf c' r=cf c' s)):FR c R=FR c' R/\∀r∈R,hm c R r=hm c' R r:=by
 have e:FR c R=FR c' R:=QM R [] fun r s hr hs=>h r s (hr.resolve_left (by simp)) (hs.resolve_left (by simp))
 refine⟨e,fun r hr=>?_⟩
 obtain⟨j,q,hj,e1,e2,e3⟩:=F_hm (c:=c) hr
 have hq:q∈R:=Fw (jd_ e2)
 rw[e]at e2
 rw[e1,<-hm_F e2]
 exact L2.hm_congr ((h q r hq hr).mp e3)
def Sc {L:Nat}{aa:α2}{ab:α1}(wf:Wf L aa ab){names:α2}(nm:CW L aa ab aa.length names):∀r s,r∈rOf ab->s∈rOf ab->(cf names r=cf names s↔cf (cOf L aa ab) r=cf (cOf L aa ab) s):=by
 intro r s hr hs
 have r0:=C5 wf hr
 have s0:=C5 wf hs
 have h1:=nm.2 r.toNat s.toNat s!"" s!""
 rw[show ((r.toNat:Nat):Int)=r by lia,show ((s.toNat:Nat):Int)=s by lia]at h1
 show names.getD r.toNat 0=names.getD s.toNat 0↔_
 rw[h1]
 constructor
 ·intro h
  refine IS wf (finO wf) r0.1 r0.2 s0.1 s0.2 fun w hw=>?_
  have bh:=Qc wf
  exact Gm.all (rs:=rOf ab) (HD wf) (fun q hq x x0 x1=>F6 wf hq x0 x1) hr hs (fun v hv hl=>h v hv s!"") w hw
 ·intro h v hv _
  exact LP wf (finO wf) v hv r0.1 r0.2 s0.1 s0.2 h
def UF {L:Nat}{aa:α2}{ab:α1}(wf:Wf L aa ab){names:α2}(nm:CW L aa ab aa.length names):FR names (rOf ab)=sF L aa ab/\(sF L aa ab).map (hrow names (rOf ab) ab)=sW L aa ab:=by
 obtain⟨e1,e2⟩:=UE (Sc wf nm)
 refine⟨e1,?_⟩
 unfold sW
 refine qx_ fun r hr=>?_
 unfold hrow
 refine qx_ fun g hg=>e2 g ?_
 have bO:r∈rOf ab:=Fw hr
 have r0:=C5 wf bO
 obtain⟨row,w1,w2,w3⟩:=wf.row r0.1 r0.2
 rw[jk_,w1]at hg
 obtain⟨x,hx,rfl⟩:=jN_ (show g∈row from hg)
 have:=F6 wf bO (x:=(x:Int)) s!"" s!""
 rw[BC w1 (g:=row[x]) (by rw[jj_];exact jh_ hx)]at this
 exact this
def Lj:∀{ws:α2} {m:Nat} {w:Int},ws[m]?=some w->ws.idxOf w<=m
 |[],m,w,h=>by simp at h
 |v::ws,m,w,h=>by
  rw[z0_]
  cases m with
  |zero=>
   have:v=w:=by simpa using h
   simp[this]
  |succ m=>
   have:=Lj (ws:=ws) (m:=m) (w:=w) (by simpa using h)
   cases e:(v==w) with
   |true=>exact jY_ _
   |false=>exact uN this
def Nk (K:α3):Sp:=fun vs H Q _=>∃(h:Addr) (L:Nat) (aa:α2) (ab:α1),vs=[.ref h]/\AV K H h L aa ab/\Wf L aa ab/\∀(p:Addr) (H':Hp),Same H H'->AV K H' p L (sM L aa ab) (sW L aa ab)->Q (.ref p) H'
def Lk   (F:Fun K "_law_base" "_law_base" Du f fd)(T:Txt mg)
   (lG:⋯ 1 "_law_order_of" B0 ["house"] (Jg K) Es DM)
   (lH:⋯ 1 "_law_classes" Cl ["house"] (QL K) E5 Et)
  : nofun 2 f fd ["house"] (Nk K):=by
 delta BA
 ·obtain⟨h,L,aa,ab,rfl,_⟩:=h;rfl
 ·obtain⟨h,L,aa,ab,rfl,hh,wf,k⟩:=h
  have hl:=Ar
  have aW:=wf.n40
  have cC:=wf.n1
  have cP:=wf.l1
  have dv:=wf.l6
  refine⟨_,(Ac (Ba (i:=1) BA.nd rfl (sk rfl) (Ai lH hr.d AI (Aa (pvD 0) Ad)))
   (Ac (Ak (i:=2) BA.nd (Ai lG hr.d AI (Aa (pvD 0) Ad)))
   (Ac (Ak (i:=3) BA.nd (Bl Ad))
   (Ac (Bo jI_ rfl (AS (pvD 2)) (Am (i:=4) BA.nd rfl (r9 rfl))
   (Af (BF (ptT (As Go (Ag (ixLD AT) (pvD 1) (pvD 4)) (A1 rfl (A2 rfl) (cp:=FJ) ⟨⟨rfl,rfl⟩,rZ⟩ (AS (pvD 3)) (fun _ _ _ _=>(Am (i:=0) GI rfl (r9 rfl))) (fun _ _ _ _=>Bc) (fun _ _ _ _=>(Ag (ixLD (Bj (K:=K) rfl)) (pvD 1) (pvD 0)))) rfl))
   (Af (A8 (C1 jE_ jL_ jM_ AO (pvD 3) (Aa (pvD 4) Ad))))
   AH)))
   (Ac (Ba (i:=5) BA.nd rfl (sk rfl) (A1 rfl (A2 rfl) (cp:=FK) ⟨⟨rfl,rfl⟩,rZ⟩ (AS (pvD 3)) (fun _ _ _ _=>(Am (i:=0) GJ rfl (r9 rfl))) (fun _ _ _ _=>Bc) (fun _ _ _ _=>(Ag (ixLD (Bj (K:=K) rfl)) (pvD 1) (pvD 0)))))
   (Ac (D5 (i:=6) BA.nd rfl rfl rfl (A2 rfl) (cp:=FL) ⟨⟨rfl,rfl⟩,⟨⟨rfl,rfl⟩,⟨⟨rfl,rfl⟩,rZ⟩⟩⟩ (AS (pvD 3)) (fun _ _ _ _=>(Am (i:=0) GK rfl (r9 rfl))) (fun _ _ _ _=>Bc) (fun _ _ _ _=>(AB (Do (K:=K) rfl) rfl T.tuple jF_ (Aa (A1 rfl (A2 rfl) (cp:=FM) ⟨⟨rfl,rfl⟩,⟨⟨rfl,rfl⟩,rZ⟩⟩ (PQ (K:=K) rfl (Ag (ixTD (Bp (K:=K) rfl)) (Ag (ixTD (Bp (K:=K) rfl)) (pvD 3) Ae) (pvD 0))) (fun _ _ _ _=>(Am (i:=0) GL rfl (r9 rfl))) (fun _ _ _ _=>Bc) (fun _ _ _ _=>(SE (K:=K) rfl jE_ tG tH PL (pvD 1) (Aa (Ag (ixLD (Bj (K:=K) rfl)) (pvD 2) (pvD 0)) Ad)))) Ad))))
   (Af (AE (Bs (Aa (Ag (ixTD Ao) (pvD 0) Ae) (Aa (AB Ax rfl T.tuple jF_ (Aa (A1 rfl (A2 rfl) (cp:=E1) ⟨⟨rfl,rfl⟩,rZ⟩ (AS (pvD 3)) (fun _ _ _ _=>(Am (i:=0) Gd rfl (r9 rfl))) (fun _ _ _ _=>Bc) (fun _ _ _ _=>(Ag (ixTD (Bp (K:=K) rfl)) (Ag (ixTD (Bp (K:=K) rfl)) (pvD 1) Ae) (pvD 0)))) Ad)) (Aa (AB Ax rfl T.tuple jF_ (Aa (pvD 6) Ad)) Ad)))))))))))),?_⟩
  nofun
  refine⟨h,L,aa,ab,rfl,hh,wf,fun pn names H1 s1 hpnN oR nm=>?_⟩
  refine⟨h,L,aa,ab,rfl,hh.mono s1,wf,fun po H2 s2 hpoN oU=>?_⟩
  refine⟨by lia,fun pf hV=>?_⟩
  obtain⟨hF,hW⟩:=UF wf nm
  have hR:((Au ab).map (·.1))=rOf ab:=rfl
  rw[hR]at oU
  have qP:=Qc wf
  have mR:=fun {r:Int} (h:r∈rOf ab)=>C5 wf h
  have hRs:=fun {r x:Int} (h:r∈rOf ab) (x0:0<=x) (x1:x<L)=>F6 wf h x0 x1
  have hnl:names.length=aa.length:=nm.1
  have gc:∀g:Int,0<=g->g<aa.length->(names.map V.int)[g.toNat]?=some (V.int (cf names g)):=fun g g0 g1=>by unfold cf;rw[jf_,jk_,jh_ s!""];rfl
  unfold sM at k
  rw[<-hW,<-hF]at k
  generalize rOf ab=R at oU qP mR hRs k
  have s12:=s1.trans s2
  have s3:=s12.newT hV (o:=.lst [])
  have kC:H pf=none:=s12.none hV
  have hpn2:=s2 _ _ oR
  have hpfo:pf≠po:=qp_ (Ap oU hV)
  have lI:pf≠pn:=qp_ (Ap hpn2 hV)
  have epf:upd H2 pf (.lst []) pf=some (.lst []):=Ab
  have rC:upd H2 pf (.lst []) po=some (.lst (R.map V.int)):=by rw[Ah (qp_ hpfo)];exact oU
  have rD:upd H2 pf (.lst []) pn=some (.lst (names.map V.int)):=by rw[Ah (qp_ lI)];exact hpn2
  generalize upd H2 pf (.lst [])=H3 at s3 epf rC rD ⊢
  refine⟨po,rfl,⟨_,SqL.of rC⟩,?_⟩
  have comp1:∀{H':Hp} {F:α2} {Q':VK} {cp:Caps} {σ:St},H' pn=some (.lst (names.map V.int))->H' pf=some (.lst (F.map V.int))->(∀r∈F,r∈R)->F.length<=40->cp.st σ=[none,some (.ref pn)]->(∀D,H' D=none->Q' (.ref D) (upd H' D (.lst ((F.map (cf names)).map V.int))))->Ku (Itl K pf) cp (Fn 0) Nv (tOp (RJ K) (NR 1) (NR 0)) σ H' Q':=fun {H' F Q' cp σ} h1 h2 dj aj e hd=>by
   refine Fq (af:=[some (.ref pn)]) (fun x=>match x with | .int g=>.int (cf names g)|_=>.non) e (SqL.of h2) (by rw[ja_];lia) (fun x hx R' jM=>?_) (fun D hD=>?_)
   ·obtain⟨g,hg,rfl⟩:=jv_.mp hx
    have b7:=mR (dj g hg)
    nofun
    exact⟨_,SqL.of h1,_,B7 b7.1 (gc g b7.1 b7.2),jM⟩
   ·have:=hd D hD
    rw[jW_]at this ⊢
    exact this
  obtain⟨Pv,aq⟩:∃Pv:Nat->St->Hp->Prop,∀j af H',Pv j af H'↔(∃(o4:Option V),BR pf H3 H'/\Same H H'/\H' pf=some (.lst ((FR names (R.take j)).map V.int))/\af=[some (.ref h),some (.ref pn),some (.ref po),some (.ref pf),o4,none,none]):=⟨_,fun _ _ _=>qq_⟩
  refine forL (xs:=R.map V.int) Pv ((aq _ _ _).mpr ⟨none,fun _ _ _ e=>e,s3,epf,rfl⟩) (fun j af H' _ h'=>by obtain⟨_,s',_⟩:=(aq _ _ _).mp h';exact SqL.of (s' _ _ (qp_ hpfo) rC)) (fun j x af H' hx h'=>?_) (fun af H' h'=>?_)
  ·obtain⟨o4,s4,oV,ed,rfl⟩:=(aq _ _ _).mp h'
   obtain⟨r,iV,rfl⟩:=Cf hx
   have oW:=jd_ iV
   have dF:=mR oW
   have rE:=M0 names (R.take j)
   rw[jx_]at rE
   have ip:=s4 _ _ (qp_ lI) rD
   nofun
   refine⟨_,SqL.of ip,_,B7 dF.1 (gc r dF.1 dF.2),⟨_,SqL.of ed⟩,?_⟩
   refine comp1 ip ed (fun q hq=>xk_ (Fw hq)) s!"" rfl fun D hD=>?_
   have sD:=Same.new hD (o:=.lst (((FR names (R.take j)).map (cf names)).map V.int))
   have eD:upd H' D (.lst (((FR names (R.take j)).map (cf names)).map V.int)) D=some (.lst (((FR names (R.take j)).map (cf names)).map V.int)):=Ab
   have oX:=sD _ _ ed
   generalize upd H' D (.lst (((FR names (R.take j)).map (cf names)).map V.int))=H5 at sD eD oX ⊢
   refine⟨D,rfl,_,.inl (SqL.of eD),rfl,Hq _,?_⟩
   rw[MN]
   have n0:=P9 (c:=names) iV
   refine ite2 (fun hy=>?_) (fun hn=>?_)
   ·have hy:¬ (cf names r∈(FR names (R.take j)).map (cf names)):=by simpa using hy
    refine⟨.inl ⟨rfl,_,SqL.of oX⟩,_,oX,by rw[ja_];lia,(aq _ _ _).mpr ⟨_,fun b o hb e=>by rw[Ah hb];exact sD _ _ (s4 b o hb e),(oV.trans sD).over kC,?_,rfl⟩⟩
    rw[Ab,n0,show Bt names (FR names (R.take j)) r=FR names (R.take j)++[r] from if_neg hy,jS_]
    rfl
   ·have hn:cf names r∈(FR names (R.take j)).map (cf names):=by simpa using hn
    refine (aq _ _ _).mpr ⟨_,fun b o hb e=>sD _ _ (s4 b o hb e),oV.trans sD,?_,rfl⟩
    rw[oX,n0,show Bt names (FR names (R.take j)) r=FR names (R.take j) from if_pos hn]
  ·obtain⟨o4,s4,oV,ed,rfl⟩:=(aq _ _ _).mp h'
   rw[ja_,jQ_]at ed
   have ip:=s4 _ _ (qp_ lI) rD
   have rE:=M0 names R
   nofun
   refine⟨⟨_,SqL.of ed⟩,?_⟩
   refine comp1 ip ed (fun q hq=>Fw hq) s!"" rfl fun pm cE=>?_
   have dj:∀q∈FR names R,q∈R:=fun q hq=>Fw hq
   have bZ:∀g∈R,cf names g∈(FR names R).map (cf names)/\hm names R g=((((FR names R).map (cf names)).idxOf (cf names g):Nat):Int):=fun g hg=>by
    unfold hm
    rw[Hz]
    exact⟨AK.mpr (q9_ hg),rfl⟩
   have oY:=oV.newT cE (o:=.lst (((FR names R).map (cf names)).map V.int))
   have rF:=Same.new cE (o:=.lst (((FR names R).map (cf names)).map V.int))
   have lJ:upd H' pm (.lst (((FR names R).map (cf names)).map V.int)) pm=some (.lst (((FR names R).map (cf names)).map V.int)):=Ab
   generalize upd H' pm (.lst (((FR names R).map (cf names)).map V.int))=H5 at oY rF lJ ⊢
   have oZ:=rF _ _ ed
   have epn5:=rF _ _ ip
   generalize FR names R=F at ed oZ rE dj bZ k lJ
   refine⟨⟨_,SqL.of oZ⟩,?_⟩
   have hFz:F.length<sizeLine:=by lia
   refine Iq (xs:=F.map V.int) (fun i' zs af H'=>Same H5 H'/\AA K H' zs ((F.take i').map (hrow names R ab))/\∃o,af=[o,some (.ref pm),some (.ref pn),some (.ref h)]) ⟨Same.refl _,AA.nil,none,rfl⟩ (by rw[ja_];exact hFz) (fun i' zs af H' hi' h'=>⟨SqL.of (h'.1 _ _ oZ),by rw[h'.2.1.1,ja_,jx_];lia⟩) (fun i' x zs af H6 hx h'=>?_) (fun zs af H6 h' pw bI=>?_)
   ·obtain⟨s6,pj,o,rfl⟩:=h'
    obtain⟨r,iV,rfl⟩:=Cf hx
    have oW:=dj r (jd_ iV)
    have dF:=mR oW
    obtain⟨row,w1,w2,w3⟩:=wf.row dF.1 dF.2
    obtain⟨lD,jS,g1,g2,g3⟩:=hh.mono (oY.trans s6)
    obtain⟨ys,t,z1,z2,z3⟩:=g3.atZ dF.1 w1
    have hrw:=wf.rows row w2
    have hgR:∀g∈row,g∈R:=fun g hg=>by
     obtain⟨x,hx,rfl⟩:=jN_ hg
     have:=hRs oW (x:=(x:Int)) s!"" s!""
     rw[BC w1 (g:=row[x]) (by rw[jj_];exact jh_ hx)]at this
     exact this
    nofun
    refine⟨_,g1,_,rfl,jS,rfl,_,z1,_,z2,t,rfl,⟨_,z3⟩,?_⟩
    refine EC (af:=[some (.ref pm),some (.ref pn)]) (fun x=>match x with | .int g=>.int (hm names R g)|_=>.non) rfl z3 (by rw[ja_];lia) (fun x hx R' jM=>?_) (fun D hD=>?_)
    ·obtain⟨g,hg,rfl⟩:=jv_.mp hx
     have b7:=mR (hgR g hg)
     obtain⟨hc1,cL⟩:=bZ g (hgR g hg)
     have jv:=xP_.mpr hc1
     rw[ja_]at jv
     nofun
     refine⟨.inl ⟨rfl,_,SqL.of (s6 _ _ lJ)⟩,_,SqL.of (s6 _ _ epn5),_,B7 b7.1 (gc g b7.1 b7.2),_,s6 _ _ lJ,rfl,Hq _,(F.map (cf names)).idxOf (cf names g),by lia,⟨V.int (cf names g),?_,by simp[eqV]⟩,fun m z hm hz=>?_,?_⟩
     ·rw[jf_,jh_ (by rw[ja_];exact jv),q3_];rfl
     ·obtain⟨y,hy,rfl⟩:=Cf hz
      have ay:y≠cf names g:=fun z=>by
       have:=Lj (by rw[hy,z])
       lia
      simp[eqV,ay]
     ·rw[<-cL];exact jM
    ·refine⟨D,rfl,_,.inl ⟨SqL.of Ab,fun l fB=>?_⟩⟩
     have sD:=(Same.new hD (o:=.lst ((row.map V.int).map fun x=>match x with | .int g=>.int (hm names R g)|_=>.non))).newT fB (o:=.tup ((row.map V.int).map fun x=>match x with | .int g=>.int (hm names R g)|_=>.non))
     refine⟨s6.trans sD,?_,_,rfl⟩
     rw[jR_,iV,qv_,jS_]
     refine (pj.mono (TK.of sD)).snoc ?_
     rw[Ab,jW_]
     unfold hrow
     rw[jk_,w1,uT,jW_]
     rfl
   ·obtain⟨s6,pj,o,rfl⟩:=h'
    rw[ja_,jQ_]at pj
    have s7:=s6.newT bI (o:=.lst zs)
    have mS:upd H6 pw (.lst zs) pw=some (.lst zs):=Ab
    have gq:AA K (upd H6 pw (.lst zs)) zs _:=pj.mono (TK.new bI)
    generalize upd H6 pw (.lst zs)=H7 at s7 mS gq ⊢
    have sH7:=oY.trans s7
    obtain⟨lD,jS,g1,g2,g3⟩:=hh.mono sH7
    have hf7:=s7 _ _ oZ
    refine⟨_,g1,_,rfl,⟨_,SqL.of hf7⟩,?_⟩
    refine Fq (af:=[some (.ref h)]) (fun x=>match x with | .int g=>.int (mkR aa g)|_=>.non) rfl (SqL.of hf7) (by rw[ja_];exact hFz) (fun x hx R' jM=>?_) (fun D hD=>?_)
    ·obtain⟨g,hg,rfl⟩:=jv_.mp hx
     have b7:=mR (dj g hg)
     nofun
     refine⟨_,g1,_,rfl,lD,rfl,_,g2,_,B7 b7.1 (v:=V.int (mkR aa g)) ?_,jM⟩
     rw[jf_,SU s!""];rfl
    ·have sD:=s7.newT hD (o:=.lst ((F.map V.int).map fun x=>match x with | .int g=>.int (mkR aa g)|_=>.non))
     have eD:upd H7 D (.lst ((F.map V.int).map fun x=>match x with | .int g=>.int (mkR aa g)|_=>.non)) D=some (.lst ((F.map (mkR aa)).map V.int)):=by rw[Ab,jW_,jW_];rfl
     have jO:=Same.new hD (o:=.lst ((F.map V.int).map fun x=>match x with | .int g=>.int (mkR aa g)|_=>.non))
     generalize upd H7 D (.lst ((F.map V.int).map fun x=>match x with | .int g=>.int (mkR aa g)|_=>.non))=H8 at sD eD jO ⊢
     refine⟨D,rfl,_,.inl ⟨SqL.of eD,fun l fB=>?_⟩⟩
     have sl:=Same.new fB (o:=.tup ((F.map (mkR aa)).map V.int))
     have el:upd H8 l (.tup ((F.map (mkR aa)).map V.int)) l=some (.tup ((F.map (mkR aa)).map V.int)):=Ab
     generalize upd H8 l (.tup ((F.map (mkR aa)).map V.int))=H9 at sl el ⊢
     have epw9:=sl _ _ (jO _ _ mS)
     refine⟨pw,rfl,_,.inl ⟨SqL.of epw9,fun l1 bo=>⟨by lia,fun p hp=>?_⟩⟩⟩
     have hz9:=gq.mono (TK.of (jO.trans sl))
     have iq:=(Same.new bo (o:=.tup zs)).newT hp (o:=.tup [V.int L,V.ref l,V.ref l1])
     have e1:=Same.new hp (o:=.tup [V.int L,V.ref l,V.ref l1]) _ _ (Ab (H:=H9) (a:=l1) (o:=.tup zs))
     have e2:upd (upd H9 l1 (.tup zs)) p (.tup [V.int L,V.ref l,V.ref l1]) p=some (.tup [V.int L,V.ref l,V.ref l1]):=Ab
     have ir:=hz9.mono (TK.of iq)
     generalize upd (upd H9 l1 (.tup zs)) p (.tup [V.int L,V.ref l,V.ref l1])=pq at iq e1 e2 ir ⊢
     refine k p pq (((oY.trans sD).trans sl).trans iq) ⟨l,l1,SqT.of e2,SqT.of (iq _ _ el),?_⟩
     obtain⟨os,x1,x2,x3⟩:=FQ ir
     refine⟨os.map (·.1),?_,by rw[<-x2,ja_,ja_],fun i t row hi hrow=>?_⟩
     ·rw[jW_]
      rw[x1]at e1
      exact SqT.of e1
     ·rw[<-x2,jf_]at hrow
      rw[jf_]at hi
      cases ho:os[i]? with
      |none=>rw[ho]at hi;cases hi
      |some o=>
       rw[ho]at hi hrow
       cases hi;cases hrow
       exact SqT.of (x3 o (jd_ ho))
def WsT.monoT   {os:List aO.Wd}  (h:WsT H os)(s:BR T H H')(hT:H T=some (.tbl ps)):WsT H' os:=fun w hw=>s.ne (h w hw) (fun _ z=>by cases z) hT
def Jh (K:α3):Sp:=fun vs H Q _=>∃(h:Addr) (L:Int) (aa:α2) (ab:α1) (num:Int),vs=[.ref h,.int num]/\AV K H h L aa ab/\Wf L aa ab/\∀h' au aI H',Same H H'->AV K H' h' L au aI->Wf L au aI->au.length=aa.length->Q (.ref h') H'
def Ii   (F:Fun K "_law_spoiled" "_law_spoiled" Ck f fd)(T:Txt mg)
  : nofun 1 f fd ["house","number"] (Jh K):=by
 delta Bn
 ·obtain⟨h,L,aa,ab,num,rfl,_⟩:=h;rfl
 ·obtain⟨h,L,aa,ab,num,rfl,hh,wf,k⟩:=h
  have hl:=Ar
  have cP:=wf.l1
  have dv:=wf.l6
  have cC:=wf.n1
  have aW:=wf.n40
  obtain⟨tm,tw,q1,q2,q3⟩:=id hh
  refine⟨_,(Ac (Ba (i:=2) Bn.nd rfl (sk rfl) (AB DZ rfl T.list xr_ (Aa (Ag (ixTD Ao) (pvD 0) Ae) Ad)))
   (Bu (Ba (i:=3) Bn.nd rfl (sk rfl) (A1 rfl (A2 rfl) (cp:=DF) rZ (EU (Ag (ixTD Ao) (pvD 0) Ae)) (fun _ _ _ _=>(Am (i:=0) Fg rfl (r9 rfl))) (fun _ _ _ _=>Bc) (fun _ _ _ _=>(AB (Ju (K:=K) rfl) rfl T.list xr_ (Aa (pvD 0) Ad)))))
   (Ac (Ba (i:=4) Bn.nd rfl (sk rfl) (An (opD AJ) (An (opD BS) (pvD 1) Ae) (Aq (lenD Aj) (by rfl) T.len jH_ (Aa (pvD 2) Ad))))
   (Bu (BF (ptT (As (opE B6) (An (opD AJ) (pvD 1) Ae) Ae (AF _)))
   (Af (Kj (An (opD AJ) (An (opD0 AU) (An (opD0 AU) (Ag (ixLD AT) (pvD 2) (pvD 4)) Ae) (An (opD AJ) (An (opD BS) (pvD 1) Ae) Ae)) Ae) (Ki (pvD 2) (pvD 4) set_list)))
   AH)
   (Bu (BF (ptT (As (opE B6) (An (opD AJ) (pvD 1) Ae) Ae (AF _)))
   (Ac (Ba (i:=5) Bn.nd rfl (sk rfl) (An (opD AJ) (An (opD BS) (pvD 1) Ae) (Ag (ixTD Ao) (pvD 0) Ae)))
   (Ac (D5 (i:=6) Bn.nd rfl rfl rfl (A2 rfl) (cp:=DG) ⟨⟨rfl,rfl⟩,⟨⟨rfl,rfl⟩,⟨⟨rfl,rfl⟩,⟨⟨rfl,rfl⟩,rZ⟩⟩⟩⟩ (AN rfl T.range (Aa (Aq (lenD Aj) (by rfl) T.len jH_ (Aa (pvD 2) Ad)) Ad)) (fun _ _ _ _=>(Am (i:=0) Fh rfl (r9 rfl))) (fun _ _ _ _=>(OV (ptT (As (opE B6) (Ag (ixLD (Bj (K:=K) rfl)) (pvD 1) (pvD 0)) (Ag (ixLD (Bj (K:=K) rfl)) (pvD 1) (Ag (ixLD (Bj (K:=K) rfl)) (Ag (ixLD (Bj (K:=K) rfl)) (pvD 3) (pvD 4)) (pvD 2))) (AF _))))) (fun _ _ _ _=>(pvD 0)))
   (Af (Kj (Ag (ixLD AT) (pvD 6) (An (opD AJ) (An (opD BS) (pvD 1) Ae) (Aq (lenD Aj) (by rfl) T.len jH_ (Aa (pvD 6) Ad)))) (Ki (Ag (ixLD AT) (pvD 3) (pvD 4)) (pvD 5) set_list)))))
   AH)
   (Af (AE (Bs (Aa (Ag (ixTD Ao) (pvD 0) Ae) (Aa (AB Ax rfl T.tuple jF_ (Aa (pvD 2) Ad)) (Aa (AB Ax rfl T.tuple jF_ (Aa (A1 rfl (A2 rfl) (cp:=DH) rZ (AS (pvD 3)) (fun _ _ _ _=>(Am (i:=0) Fi rfl (r9 rfl))) (fun _ _ _ _=>Bc) (fun _ _ _ _=>(AB (Do (K:=K) rfl) rfl T.tuple jF_ (Aa (pvD 0) Ad)))) Ad)) Ad))))))))))),?_⟩
  nofun
  refine⟨_,q1,_,rfl,?_⟩
  nofun
  refine⟨_,.inr q2,fun pm cE=>?_⟩
  have sm:=Same.new (o:=.lst (aa.map V.int)) cE
  have cR:upd H pm (.lst (aa.map V.int)) pm=some (.lst (aa.map V.int)):=Ab
  generalize upd H pm (.lst (aa.map V.int))=H0 at sm cR ⊢
  obtain⟨R,hR⟩:∃R:St->Hp->Prop,∀af H',R af H'↔(∃(pw:Addr) (xs:List V) (au:α2) (aI:α1) (room:Int) (o5 o6:Option V),Same H H'/\H0 pw=none/\H' pm=some (.lst (au.map V.int))/\H' pw=some (.lst xs)/\LLs H0 H' xs aI/\pw≠pm/\0<=room/\room<aa.length/\au.length=aa.length/\Wf L au aI/\af=[some (.ref h),some (.int num),some (.ref pm),some (.ref pw),some (.int room),o5,o6]):=⟨_,fun _ _=>qq_⟩
  obtain⟨R1,hR1⟩:∃R:St->Hp->Prop,∀af H',R af H'↔(∃(pw:Addr) (xs:List V),Same H0 H'/\H0 pw=none/\H' pw=some (.lst xs)/\LLs H0 H' xs ab/\af=[some (.ref h),some (.int num),some (.ref pm),some (.ref pw),none,none,none]):=⟨_,fun _ _=>qq_⟩
  refine⟨R1,?_,fun jB H1 h1=>?_⟩
  ·obtain⟨lD,jS,y1,y2,y3⟩:=hh.mono sm
   obtain⟨ts,z1,z2,z3⟩:=id y3
   nofun
   refine⟨_,y1,_,rfl,?_⟩
   nofun
   refine⟨⟨_,z1⟩,?_⟩
   have aj:=wf.len
   refine Q8 (xs:=ts.map V.ref) (fun i ys ai H2=>Same H0 H2/\LLs H0 H2 ys (ab.take i)/\∃o,ai=[o]) ⟨Same.refl _,by rw[wc_];exact LLs.nil _ _,none,rfl⟩ (by rw[ja_];lia) (fun i ys ai H2 _ h=>⟨h.1.seqT z1,by rw[h.2.1.len,jx_];lia⟩) (fun i x ys ai H2 hx h=>?_) (fun ys ai H2 h=>?_)
   ·obtain⟨s2,eN,o,rfl⟩:=h
    have hi:i<ts.length:=by have:=(jb_.mp hx).1;rwa [ja_]at this
    have ki:ts[i]?=some ts[i]:=by simp[hi]
    rw[jf_,ki]at hx
    cases hx
    have cH:ab[i]?=some ab[i]:=by simp[show i<ab.length by lia]
    nofun
    refine⟨_,.inr (s2.seqT (z3 i _ _ ki cH)),fun l f9=>⟨s2.newT f9,?_,_,rfl⟩⟩
    rw[jR_,cH]
    exact eN.snoc (Same.none s2 f9) f9
   ·obtain⟨s2,eN,o,rfl⟩:=h
    rw[ja_,z2,jQ_]at eN
    intro D hD
    exact (hR1 _ _).mpr ⟨D,ys,s2.newT hD,Same.none s2 hD,Ab,eN.mono (Same.new hD),rfl⟩
  obtain⟨pw,xs,s1,dX,bI,eN,rfl⟩:=(hR1 _ _).mp h1
  have lK:pw≠pm:=fun z=>by rw[z,cR]at dX;cases dX
  have hHpw:H pw=none:=Same.none sm dX
  nofun
  refine⟨(show CDiv num 3 from ⟨by lia,by lia⟩),_,.inl (SqL.of (s1 _ _ cR)),?_⟩
  rw[ja_]
  refine⟨by lia,?_⟩
  have r0:=qu_ (num / 3) (show (aa.length:Int)≠0 by lia)
  have r1:=j9_ (num / 3) (show (0:Int)<aa.length by lia)
  generalize num / 3%(aa.length:Int)=room at r0 r1 ⊢
  refine⟨R,?_,fun ai H2 h2=>?_⟩
  ·nofun
   refine⟨by lia,ite2 (fun h3=>?_) (fun h3=>(hR _ _).mpr ⟨pw,xs,aa,ab,room,none,none,sm.trans s1,dX,s1 _ _ cR,bI,eN,lK,r0,r1,rfl,wf,rfl⟩)⟩
   have hi:room.toNat<aa.length:=by lia
   have m0:=qu_ (aa[room.toNat]+1+num / 120%1000000000) (show (1000000001:Int)≠0 by lia)
   have m1:=j9_ (aa[room.toNat]+1+num / 120%1000000000) (show (0:Int)<1000000001 by lia)
   refine⟨_,SqL.of (s1 _ _ cR),_,A3 r0 (show aa[room.toNat]?=some aa[room.toNat] by simp[hi]),_,rfl,(show CDiv num 120 from ⟨by lia,by lia⟩),by lia,by lia,_,s1 _ _ cR,room.toNat,MO r0 (by rw[ja_];exact r1),?_⟩
   generalize (aa[room.toNat]+1+num / 120%1000000000)%1000000001=mk at m0 m1 ⊢
   refine (hR _ _).mpr ⟨pw,xs,aa.set room.toNat mk,ab,room,none,none,(sm.trans s1).over cE,dX,by rw[Ab,MC],by rw[Ah lK];exact bI,eN.off cR,lK,r0,r1,by rw[qU_],wf.setM _ ⟨m0,by lia⟩,rfl⟩
  clear eN bI s1 h1
  obtain⟨pw,xs,au,aI,room,o5,o6,s2,dX,iH,fT,eN,ay,r0,r1,jd,iP,rfl⟩:=(hR _ _).mp h2
  refine⟨R,?_,fun aE H3 h3=>?_⟩
  ·nofun
   refine⟨by lia,ite2 (fun h3=>?_) (fun h3=>h2)⟩
   obtain⟨lD,jS,y1,y2,y3⟩:=hh.mono s2
   have l0:=qu_ (num / 120) (show L≠0 by lia)
   have l1:=j9_ (num / 120) (show (0:Int)<L by lia)
   refine⟨(show CDiv num 120 from ⟨by lia,by lia⟩),_,y1,_,rfl,_,rfl,by lia,_,.inl (SqL.of iH),by lia,by rw[ja_];lia,?_⟩
   generalize num / 120%L=letter at l0 l1 ⊢
   rw[ja_,jj_]
   have gr:=iP.n40
   obtain⟨row,hrow,fj,cW⟩:=iP.row r0 s!""
   obtain⟨t,iO,ht,jj,ic⟩:=eN.at hrow
   have ar:letter.toNat<row.length:=by lia
   have hg:row[letter.toNat]?=some row[letter.toNat]:=by simp[ar]
   have b7:=(iP.rows row fj).2 row[letter.toNat] (j0_ ar)
   generalize row[letter.toNat]=g0 at hg b7
   refine Js (fun i ys bY H4=>H4=H2/\(∃gs:α2,ys=gs.map V.int/\gs.length<=i/\(∀g∈gs,0<=g/\g<au.length)/\(g0<i->gs ≠ []))/\∃o,bY=[o,some (.ref pm),some (.int letter),some (.ref pw),some (.int room)]) ⟨rfl,⟨[],rfl,by simp,by simp,fun h=>absurd h (by push_cast;lia)⟩,none,rfl⟩ s!"" (fun i ys bY H4 _ h=>by obtain⟨_,⟨gs,rfl,h,_⟩,_⟩:=h;rw[ja_];exact h) (fun i ys bY H4 hi h=>?_) (fun ys bY H4 h=>?_)
   ·obtain⟨rfl,⟨gs,rfl,hgl,pA,rG⟩,o,rfl⟩:=h
    have ei:(0:Int)+(i:Nat)=(i:Int):=by lia
    rw[ei]
    nofun
    refine⟨_,SqL.of iH,_,KG s!"" s!"",_,SqL.of fT,_,B7 r0 iO,?_⟩
    nofun
    refine⟨_,SqL.of ht,_,A3 l0 hg,_,_,rfl,SqL.of iH,_,KG b7.1 b7.2,rfl,?_⟩
    by_cases he:mkW au (i:Int)=mkW au g0
    ·rw[if_pos (jG_ V.int he)]
     refine⟨⟨gs++[(i:Int)],by simp,by simp;lia,fun g hg=>?_,fun _=>by simp⟩,_,rfl⟩
     rcases jw_.mp hg with hg|hg
     ·exact pA g hg
     ·rw[jr_.mp hg];lia
    ·rw[if_neg (fun z=>he (V.int.inj z))]
     refine⟨⟨gs,rfl,by lia,pA,fun h=>rG ?_⟩,_,rfl⟩
     have:g0≠i:=fun z=>he (by rw[z])
     push_cast at h
     lia
   ·obtain⟨rfl,⟨gs,rfl,hgl,pA,rG⟩,o,rfl⟩:=h
    intro D hD
    have hne':gs ≠ []:=rG b7.2
    have hgp:0<gs.length:=z3_.mpr hne'
    have sD:=Same.new (o:=.lst (gs.map V.int)) hD
    have i0:=qu_ (num / 720) (show (gs.length:Int)≠0 by lia)
    have i1:=j9_ (num / 720) (show (0:Int)<gs.length by lia)
    have gZ:(num / 720%(gs.length:Int)).toNat<gs.length:=by lia
    refine⟨(show CDiv num 720 from ⟨by lia,by lia⟩),D,rfl,_,.inl (SqL.of Ab),by rw[ja_];lia,D,rfl,_,SqL.of Ab,V.int gs[(num / 720%(gs.length:Int)).toNat],by rw[ja_];exact A3 i0 (by simp[gZ]),_,SqL.of (sD _ _ fT),_,B7 r0 iO,t,rfl,_,sD _ _ ht,letter.toNat,MO l0 (by rw[ja_];lia),?_⟩
    have hgx:=pA _ (j0_ gZ)
    generalize gs[(num / 720%(gs.length:Int)).toNat]=gx at hgx ⊢
    have je:pm≠t:=fun z=>by rw[<-z,cR]at jj;cases jj
    have hwt:pw≠t:=fun z=>by
     rw[<-z,fT]at ht
     have:=jG_ (fun o=>match o with|some (HO.lst l)=>l[room.toNat]? | _=>none) ht
     simp only[iO]at this
     rw[jf_]at this
     cases e:row[room.toNat]? with
     |none=>rw[e]at this;cases this
     |some v=>rw[e]at this;cases this
    rw[MC]
    have hLs:LLs H0 (upd (upd H4 D (.lst (gs.map V.int))) t (.lst ((row.set letter.toNat gx).map V.int))) xs (aI.set room.toNat (row.set letter.toNat gx)):=by
     obtain⟨t',a1,_,_,a4⟩:=(eN.mono sD).at hrow
     rw[iO]at a1
     cases a1
     exact a4 _ _
    exact (hR _ _).mpr ⟨pw,xs,au,_,room,_,_,(s2.newT hD).over (Same.none sm jj),dX,by rw[Ah je];exact sD _ _ iH,by rw[Ah hwt];exact sD _ _ fT,hLs,ay,r0,r1,jd,iP.setW hrow _ hgx,rfl⟩
  obtain⟨pw,xs,au,aI,room,o5,o6,s3,dX,oP,fA,eN,ay,r0,r1,jd,iP,rfl⟩:=(hR _ _).mp h3
  obtain⟨lD,jS,y1,y2,y3⟩:=hh.mono s3
  nofun
  refine⟨_,y1,_,rfl,?_⟩
  nofun
  refine⟨_,.inl ⟨SqL.of oP,fun l f9=>⟨⟨_,SqL.of (Same.new f9 _ _ fA)⟩,?_⟩⟩⟩
  have sl:=Same.new (o:=.tup (au.map V.int)) f9
  have wl:=iP.len
  have wn:=iP.n40
  refine Rr (xs:=xs) (ws:=aI) (af:=[]) (SqL.of (sl _ _ fA)) eN.len rfl (by rw[eN.len];lia) (fun i x w H4 s4 hx hw R hR=>?_) (fun H4 D ys s4 hD hT=>?_)
  ·obtain⟨t,a1,a2,_⟩:=eN.at hw
   rw[hx]at a1
   cases a1
   nofun
   refine⟨_,.inl ⟨SqL.of (s4 _ _ (sl _ _ a2)),fun p hp=>hR p _ (Same.new hp) (SqT.of Ab)⟩⟩
  ·obtain⟨mz,cQ,i7⟩:=hT.rows
   rw[Ab]at cQ
   cases cQ
   refine⟨D,rfl,_,.inl ⟨SqL.of Ab,fun l1 bo=>⟨by lia,fun p5 cS=>?_⟩⟩⟩
   have sD:=Same.new (o:=.lst ys) hD
   refine k p5 au aI _ (((((s3.trans sl).trans s4).newT hD).newT bo).newT cS) ⟨l,l1,SqT.of Ab,?_,(i7 l1 bo).mono (Same.new cS)⟩ iP jd
   exact SqT.of (Same.new cS _ _ (Same.new bo _ _ (sD _ _ (s4 _ _ Ab))))
def Cn (K:α3)(H:Hp)(xs:List V)(aH:List (α2×Int)):Prop:=xs.length=aH.length/\∀(i:Nat) (tr:α2×Int),aH[i]?=some tr->∃t wt,xs[i]?=some (.ref t)/\SqT K H t [.ref wt,.int tr.2]/\SqT K H wt (tr.1.map V.int)/\tr.1.length<=600
def Cn.mono {K:α3}    (h:Cn K H xs aH)(s:Same H H'):Cn K H' xs aH:=by
 refine⟨h.1,fun i tr bC=>?_⟩
 obtain⟨t,wt,a,b,c,d⟩:=h.2 i tr bC
 exact⟨t,wt,a,s.seqT b,s.seqT c,d⟩
def Cn.nil {K:α3}  : Cn K H [] []:=⟨rfl,fun i tr h=>by simp at h⟩
def Cn.snoc {K:α3}{H:Hp}{xs:List V}{aH:List (α2×Int)}(h:Cn K H xs aH){t wt:Addr}{w:α2}{m:Int}(h1:SqT K H t [.ref wt,.int m])(h2:SqT K H wt (w.map V.int))(h3:w.length<=600):Cn K H (xs++[.ref t]) (aH++[(w,m)]):=by
 refine⟨by rw[jl_,jl_,h.1];rfl,fun i tr hi=>?_⟩
 by_cases eV:i<aH.length
 ·rw[je_ eV]at hi
  rw[je_ (by rw[h.1];exact eV)]
  exact h.2 i tr hi
 ·have:=(jb_.mp hi).1
  rw[jl_,jP_]at this
  have ei:i=aH.length:=by lia
  subst ei
  rw[jp_ (ji_ _),qg_]at hi
  simp at hi
  subst hi
  refine⟨t,wt,?_,h1,h2,h3⟩
  rw[jp_ (by rw[h.1];exact ji_ _),h.1,qg_];rfl
def Wds (K:α3)(H:Hp)(xs:List V)(ws:α1):Prop:=xs.length=ws.length/\∀(i:Nat) (w:α2),ws[i]?=some w->∃t,xs[i]?=some (.ref t)/\SqT K H t (w.map V.int)
def Wds.mono {K:α3}    (h:Wds K H xs ws)(s:Same H H'):Wds K H' xs ws:=by
 refine⟨h.1,fun i tr bC=>?_⟩
 obtain⟨t,a,b⟩:=h.2 i tr bC
 exact⟨t,a,s.seqT b⟩
def Eu (aa:α2)(ab:α1)(w:α2):α2×Int:=(w,L8 aa (Az ab w))
def Tk (K:α3):Sp:=fun vs H Q E=>∃(h a:Addr) (L:Int) (aa:α2) (ab:α1) (xs:List V) (ws:α1),vs=[.ref h,.ref a]/\AV K H h L aa ab/\Wf L aa ab/\SqL K H a xs/\Wds K H xs ws/\(∀w∈ws,w.length<=600)/\xs.length<sizeLine /\
 ((∀w∈ws,isW L w=true)->∀H2 D ys,Same H H2->H2 D=none->Cn K H2 ys (ws.map (Eu aa ab))->Q (.ref D) (upd H2 D (.lst ys))) /\
 ((∃w∈ws,isW L w=false)->False)
def Ll   (F:Fun K "trials_of" "trials_of" Ds f fd)(T:Txt mg)
   (gd:⋯ 5 "mark_behind" BW ["house","word"] (L9 K) DD C0)
  : nofun 6 f fd ["house","words"] (Tk K):=by
 delta K1
 ·obtain⟨h,a,L,aa,ab,xs,ws,rfl,_⟩:=h;rfl
 ·obtain⟨h,a,L,aa,ab,xs,ws,rfl,hh,wf,ha,hw,cU,cg,k,kE⟩:=h
  have hl:=Ar
  refine⟨_,(Af (AE (A1 rfl (A2 rfl) (cp:=FH) ⟨⟨rfl,rfl⟩,rZ⟩ (AS (pvD 1)) (fun _ _ _ _=>(Am (i:=0) GH rfl (r9 rfl))) (fun _ _ _ _=>Bc) (fun _ _ _ _=>(Bs (Aa (pvD 0) (Aa (Ai gd hr.d AI (Aa (pvD 1) (Aa (pvD 0) Ad))) Ad))))))),?_⟩
  nofun
  refine⟨⟨_,ha⟩,?_⟩
  obtain⟨Pv,aq⟩:∃Pv:Nat->List V->St->Hp->Prop,∀i ys af H',Pv i ys af H'↔(Same H H'/\Cn K H' ys ((ws.take i).map (Eu aa ab))/\(∀w∈ws.take i,isW L w=true)/\i<=ws.length/\∃o,af=[o,some (.ref h)]):=⟨_,fun _ _ _ _=>qq_⟩
  refine Iq (xs:=xs) Pv ((aq _ _ _ _).mpr ⟨Same.refl _,by rw[wc_];exact Cn.nil,by simp,jY_ _,none,rfl⟩) s!"" (fun i ys ai H2 hi h2=>?_) (fun i x ys ai H2 hx h2=>?_) (fun ys ai H2 h2 D hD=>?_)
  ·obtain⟨s2,t2,_,eV,_⟩:=(aq _ _ _ _).mp h2
   refine⟨s2.seq ha,?_⟩
   rw[t2.1,ja_,jx_]
   lia
  ·obtain⟨s2,t2,aB,eV,o,rfl⟩:=(aq _ _ _ _).mp h2
   have hi:i<ws.length:=by rw[<-hw.1];exact (jb_.mp hx).1
   have cH:ws[i]?=some ws[i]:=by simp[hi]
   obtain⟨t,e1,e2⟩:=hw.2 i _ cH
   rw[hx]at e1
   cases e1
   have hsz:=cU _ (jd_ cH)
   have iS:ws.take (i+1)=ws.take i++[ws[i]]:=by rw[List.take_succ,cH];rfl
   nofun
   refine⟨h,t,L,aa,ab,ws[i],rfl,hh.mono s2,wf,s2.seqT e2,hsz,fun hv H3 s3=>⟨by lia,fun p hp=>?_⟩,fun hv=>kE ⟨_,jd_ cH,hv⟩⟩
   have sp:=s3.newT (o:=.tup [V.ref t,V.int (L8 aa (Az ab ws[i]))]) hp
   refine (aq _ _ _ _).mpr ⟨s2.trans sp,?_,fun w oB=>?_,hi,_,rfl⟩
   ·rw[iS,jS_]
    exact (t2.mono sp).snoc (SqT.of Ab) ((s2.trans sp).seqT e2) hsz
   ·rw[iS]at oB
    rcases jw_.mp oB with z|z
    ·exact aB w z
    ·rw[jr_.mp z];exact hv
  ·obtain⟨s2,t2,aB,_,o,rfl⟩:=(aq _ _ _ _).mp h2
   rw[jX_ (by rw[hw.1];exact ji_ _)]at t2 aB
   exact k aB H2 D ys s2 hD t2
def E6 (aa:α2)(ab:α1)(tr:α2×Int):Bool:=decide (L8 aa (Az ab tr.1)≠tr.2)
def V8 (K:α3):Sp:=fun vs H Q E=>∃(h a:Addr) (L:Int) (aa:α2) (ab:α1) (xs:List V) (aH:List (α2×Int)),vs=[.ref h,.ref a]/\AV K H h L aa ab/\Wf L aa ab/\SqL K H a xs/\Cn K H xs aH /\
 ((∀tr∈aH,isW L tr.1=true)->∀H',Same H H'->((∀tr∈aH,E6 aa ab tr=false)->Q .non H')/\∀(i:Nat) (tr:α2×Int) (x:V),(∀j,j<i->∀tr',aH[j]?=some tr'->E6 aa ab tr'=false)->aH[i]?=some tr->xs[i]?=some x->E6 aa ab tr=true->Q x H') /\
 ((∃tr∈aH,isW L tr.1=false)->False)
def Ij   (F:Fun K "first_failed" "first_failed" Cg f fd)(T:Txt mg)
   (du:⋯ 2 "check_word" BM ["letters","word"] (Hb K) CV CB)
   (gd:⋯ 5 "mark_behind" BW ["house","word"] (L9 K) DD C0)
  : nofun 6 f fd ["house","some"] (V8 K):=by
 delta CH
 ·obtain⟨h,a,L,aa,ab,xs,aH,rfl,_⟩:=h;rfl
 ·obtain⟨h,a,L,aa,ab,xs,aH,rfl,hh,wf,ha,ht,k,kE⟩:=h
  have hl:=Ar
  refine⟨_,(Ac (Bo jI_ rfl (AS (pvD 1)) (Am (i:=2) CH.nd rfl (r9 rfl))
   (Af (A8 (Ai du hr.d AI (Aa (Ag (ixTD Ao) (pvD 0) Ae) (Aa (Ag (ixTD Ao) (pvD 2) Ae) Ad))))))
   (Ac (Bo jI_ rfl (AS (pvD 1)) (Am (i:=2) CH.nd rfl (r9 rfl))
   (Af (BF (ptT (As (opN QV) (Ai gd hr.d AI (Aa (pvD 0) (Aa (Ag (ixTD Ao) (pvD 2) Ae) Ad))) (Ag (ixTD Ao) (pvD 2) Ae) (AF _)))
   (Af (AE (pvD 2)))
   AH)))
   (Af (AE Om)))),?_⟩
  nofun
  refine⟨⟨_,ha⟩,?_⟩
  obtain⟨Pv,aq⟩:∃Pv:Nat->St->Hp->Prop,∀i af H',Pv i af H'↔(Same H H'/\(∀j,j<i->∀tr,aH[j]?=some tr->isW L tr.1=true)/\∃o,af=[some (.ref h),some (.ref a),o]):=⟨_,fun _ _ _=>qq_⟩
  refine forL (xs:=xs) Pv ((aq _ _ _).mpr ⟨Same.refl _,fun j hj=>absurd hj (qV_ _),none,rfl⟩) (fun i ai H2 _ h2=>((aq _ _ _).mp h2).1.seq ha) (fun i x ai H2 hx h2=>?_) (fun ai H2 h2=>?_)
  ·obtain⟨s2,aB,o,rfl⟩:=(aq _ _ _).mp h2
   have hi:i<aH.length:=by rw[<-ht.1];exact (jb_.mp hx).1
   have bC:aH[i]?=some aH[i]:=by simp[hi]
   obtain⟨t,wt,e1,e2,e3,e4⟩:=ht.2 i _ bC
   rw[hx]at e1
   cases e1
   obtain⟨tm,tw,q1,q2,q3⟩:=hh.mono s2
   nofun
   refine⟨_,q1,_,rfl,?_⟩
   nofun
   refine⟨_,s2.seqT e2,_,rfl,?_⟩
   refine⟨L,wt,aH[i].1,rfl,s2.seqT e3,by lia,fun hv H3 s3=>?_,fun hv=>kE ⟨_,jd_ bC,hv⟩⟩
   refine (aq _ _ _).mpr ⟨s2.trans s3,fun j hj tr cn=>?_,_,rfl⟩
   by_cases iZ:j<i
   ·exact aB j iZ tr cn
   ·have:j=i:=by lia
    subst this
    rw[bC]at cn
    cases cn
    exact hv
  ·obtain⟨s2,aB,o,rfl⟩:=(aq _ _ _).mp h2
   have hW:∀tr∈aH,isW L tr.1=true:=fun tr bC=>by
    obtain⟨j,hj,ej⟩:=jN_ bC
    exact aB j (by rw[ht.1];exact hj) tr (by rw[jh_ hj,ej])
   nofun
   refine⟨⟨_,s2.seq ha⟩,?_⟩
   obtain⟨Pw,cG⟩:∃Pv:Nat->St->Hp->Prop,∀i af H',Pv i af H'↔(Same H H'/\(∀j,j<i->∀tr,aH[j]?=some tr->E6 aa ab tr=false)/\∃o,af=[some (.ref h),some (.ref a),o]):=⟨_,fun _ _ _=>qq_⟩
   refine forL (xs:=xs) Pw ((cG _ _ _).mpr ⟨s2,fun j hj=>absurd hj (qV_ _),_,rfl⟩) (fun i aE H3 _ h3=>((cG _ _ _).mp h3).1.seq ha) (fun i x aE H3 hx h3=>?_) (fun aE H3 h3=>?_)
   ·obtain⟨s3,dN,o,rfl⟩:=(cG _ _ _).mp h3
    have hi:i<aH.length:=by rw[<-ht.1];exact (jb_.mp hx).1
    have bC:aH[i]?=some aH[i]:=by simp[hi]
    obtain⟨t,wt,e1,e2,e3,e4⟩:=ht.2 i _ bC
    rw[hx]at e1
    cases e1
    have hv:=hW _ (jd_ bC)
    nofun
    refine⟨_,s3.seqT e2,_,rfl,?_⟩
    refine⟨h,wt,L,aa,ab,aH[i].1,rfl,hh.mono s3,wf,s3.seqT e3,e4,fun _ H4 s4=>?_,fun z=>by rw[hv]at z;cases z⟩
    have k9:=s3.trans s4
    nofun
    refine⟨_,k9.seqT e2,_,rfl,rfl,?_⟩
    by_cases he:L8 aa (Az ab aH[i].1)=aH[i].2
    ·rw[if_neg (by rw[j7_ (jG_ V.int he)];decide)]
     refine (cG _ _ _).mpr ⟨k9,fun j hj tr cn=>?_,_,rfl⟩
     by_cases iZ:j<i
     ·exact dN j iZ tr cn
     ·have:j=i:=by lia
      subst this
      rw[bC]at cn
      cases cn
      exact qc_ (fun z=>z he)
    ·rw[if_pos (by rw[qc_ (fun z=>he (V.int.inj z))];decide)]
     exact (k hW H4 k9).2 i _ _ dN bC hx (j7_ he)
   ·obtain⟨s3,dN,o,rfl⟩:=(cG _ _ _).mp h3
    nofun
    refine (k hW H3 s3).1 fun tr bC=>?_
    obtain⟨j,hj,ej⟩:=jN_ bC
    exact dN j (by rw[ht.1];exact hj) tr (by rw[jh_ hj,ej])
def Lm (K:α3):Sp:=fun vs H Q E=>∃(h a:Addr) (L:Int) (aa:α2) (ab:α1) (xs:List V) (aH:List (α2×Int)),vs=[.ref h,.ref a]/\AV K H h L aa ab/\Wf L aa ab/\SqL K H a xs/\Cn K H xs aH /\
 ((∀tr∈aH,isW L tr.1=true)->∀H',Same H H'->Q (.bl (aH.all fun tr => !E6 aa ab tr)) H')/\((∃tr∈aH,isW L tr.1=false)->False)
def QN   (F:Fun K "passes" "passes" Ha f fd)(T:Txt mg)
   (lL:⋯ 6 "first_failed" Cg ["house","some"] (V8 K) E7 Ev)
  : nofun 7 f fd ["house","some"] (Lm K):=by
 delta Qw
 ·obtain⟨h,a,L,aa,ab,xs,aH,rfl,_⟩:=h;rfl
 ·obtain⟨h,a,L,aa,ab,xs,aH,rfl,hh,wf,ha,ht,k,kE⟩:=h
  refine⟨_,(Af (AE (Tw UU (Ai lL hr.d AI (Aa (pvD 0) (Aa (pvD 1) Ad))) Om (AF _)))),?_⟩
  nofun
  refine⟨h,a,L,aa,ab,xs,aH,rfl,hh,wf,ha,ht,fun hW H' s=>⟨fun aB=>?_,fun i tr x dN bC hx hf=>?_⟩,kE⟩
  ·nofun
   have:=k hW H' s
   rw[show (aH.all fun tr => !E6 aa ab tr)=true from qG_.mpr fun tr bC=>by rw[aB tr bC];rfl]at this
   exact this
  ·obtain⟨t,wt,e1,_⟩:=ht.2 i tr bC
   rw[hx]at e1
   cases e1
   nofun
   have:=k hW H' s
   rw[show (aH.all fun tr => !E6 aa ab tr)=false from Bool.eq_false_iff.mpr fun z=>by
    have:=qG_.mp z tr (jd_ bC)
    rw[hf]at this
    cases this]at this
   exact this
def Mg {K:α3}     (e:SqT K H l zs)(h:AA K H zs ws):Rows K H l ws:=by
 obtain⟨os,x1,x2,x3⟩:=FQ h
 refine⟨os.map (·.1),?_,by rw[<-x2,ja_,ja_],fun i t row hi hrow=>?_⟩
 ·rw[jW_]
  rw[x1]at e
  exact e
 ·rw[<-x2,jf_]at hrow
  rw[jf_]at hi
  cases ho:os[i]? with
  |none=>rw[ho]at hi;cases hi
  |some o=>
   rw[ho]at hi hrow
   cases hi;cases hrow
   exact SqT.of (x3 o (jd_ ho))
def Nl (K:α3):Sp:=fun vs H Q _=>∃(h a:Addr) (L m:Nat) (ns:α2) (aa:α2) (ab:α1),vs=[.ref h,.ref a,.int m]/\AV K H h L aa ab/\Wf L aa ab/\aa.length<=15/\m<=3/\SqL K H a (ns.map V.int)/\∀(h':Addr) (mr:α2) (wr:α1) (H':Hp),Same H H'->AV K H' h' L mr wr->Wf L mr wr->mr.length<=(sM L aa ab).length+m->Q (.ref h') H'
def GP   (F:Fun K "_law_rival_by" "_law_rival_by" B1 f fd)(T:Txt mg)
   (bA:⋯ 1 "_law_cell_at" Bh ["script","k"] (HZ K) BH BB)
   (bG:⋯ 1 "_law_mixed" Bz ["number","k","many"] (FV) Cr B5)
   (f7:⋯ 2 "_law_blown" Cp ["house","number","rooms"] (Ke K) Eo DC)
   (lM:⋯ 1 "_law_spoiled" Ck ["house","number"] (Jh K) E8 Ew)
   (lN:⋯ 1 "_law_turned_by" BI ["house","number"] (Ic K) DN De)
   (lO:⋯ 2 "_law_base" Du ["house"] (Nk K) Ik GA)
  : nofun 3 f fd ["house","script","many"] (Nl K):=by
 delta AD
 ·obtain⟨h,a,L,m,ns,aa,ab,rfl,_⟩:=h;rfl
 ·obtain⟨h,a,L,m,ns,aa,ab,rfl,hh,wf,h15,oP,hs,k⟩:=h
  have hl:=Ar
  have cP:=wf.l1
  have dv:=wf.l6
  have cC:=wf.n1
  have hsl:(sM L aa ab).length<=aa.length:=by
   rw[Gv]
   exact SS wf
  have aY:=sWf wf
  have jE:=aY.n1
  refine⟨_,(Ac (Ak (i:=3) AD.nd (Ai lO hr.d AI (Aa (pvD 0) Ad)))
   (Ac (Ba (i:=4) AD.nd rfl (sk rfl) (Ai bA hr.d AI (Aa (pvD 1) (Aa Ae Ad))))
   (Ac (Ak (i:=5) AD.nd (Ag (ixLD AT) (Bl (Aa Ae (Aa Ae (Aa Ae (Aa Ae (Aa Ae (Aa Ae Ad))))))) (An (opD AJ) (pvD 4) Ae)))
   (Ac (Ba (i:=4) AD.nd rfl (sk rfl) (An (opD BS) (pvD 4) Ae))
   (RH (Ak (i:=6) AD.nd (An (opD0 AU) (Aq (lenD Aj) (by rfl) T.len jH_ (Aa (Ag (ixTD Ao) (pvD 3) Ae) Ad)) (pvD 2)))
   (Ac (BF (ptT (As (opE B6) (pvD 5) Ae (AF _)))
   (Ac (Ba (i:=7) AD.nd rfl (sk rfl) (An (opD0 AU) Ae (An (opD AJ) (pvD 4) (pvD 6))))
   (Ac (D5 (i:=8) AD.nd rfl rfl rfl (A2 rfl) (cp:=C8) ⟨⟨rfl,rfl⟩,⟨⟨rfl,rfl⟩,rZ⟩⟩ (AN rfl T.range (Aa (pvD 7) Ad)) (fun _ _ _ _=>(Am (i:=0) EN rfl (r9 rfl))) (fun _ _ _ _=>Bc) (fun _ _ _ _=>(Ag (ixTD (Bp (K:=K) rfl)) (Ag (ixTD (Bp (K:=K) rfl)) (pvD 1) Ae) (Ai bG hr.d AI (Aa (pvD 2) (Aa (pvD 0) (Aa (Aq (lenD (Jt (K:=K) rfl)) (by rfl) T.len jH_ (Aa (Ag (ixTD (Bp (K:=K) rfl)) (pvD 1) Ae) Ad)) Ad)))))))
   (Ac (Rt (i:=9) AD.nd rfl rfl rfl (T5 rfl) (cp:=C9) ⟨⟨rfl,rfl⟩,⟨⟨rfl,rfl⟩,⟨⟨rfl,rfl⟩,rZ⟩⟩⟩ (AN rfl T.range (Aa (pvD 7) Ad)) (fun _ _ _ _=>(Am (i:=0) EO rfl (sk rfl))) (fun _ _ _ _=>Bc) (fun _ _ _ _=>(A1 rfl (A2 rfl) (cp:=Da) ⟨⟨rfl,rfl⟩,⟨⟨rfl,rfl⟩,⟨⟨rfl,rfl⟩,rZ⟩⟩⟩ (AN rfl T.range (Aa (Ag (ixTD (Bp (K:=K) rfl)) (pvD 3) Ae) Ad)) (fun _ _ _ _=>(Am (i:=0) EQ rfl (r9 rfl))) (fun _ _ _ _=>Bc) (fun _ _ _ _=>(Ai bG hr.d AI (Aa (An (opD0 AU) (pvD 2) Ae) (Aa (An (opD0 AU) (An (opD Fo) (pvD 3) Ae) (pvD 0)) (Aa (pvD 1) Ad))))))))
   (Af (AE (Bs (Aa (Ag (ixTD Ao) (pvD 0) Ae) (Aa (AB Ax rfl T.tuple jF_ (Aa (pvD 8) Ad)) (Aa (AB Ax rfl T.tuple jF_ (Aa (A1 rfl (A2 rfl) (cp:=Db) rZ (AS (pvD 9)) (fun _ _ _ _=>(Am (i:=0) ER rfl (r9 rfl))) (fun _ _ _ _=>Bc) (fun _ _ _ _=>(AB (Do (K:=K) rfl) rfl T.tuple jF_ (Aa (pvD 0) Ad)))) Ad)) Ad)))))))))
   AH)
   (Ac (Ak (i:=10) AD.nd (Ai lN hr.d AI (Aa (Ai f7 hr.d AI (Aa (pvD 3) (Aa (pvD 4) (Aa (An (opD0 CM) (pvD 6) (An (opD AJ) (pvD 4) (An (opD0 AU) (pvD 2) Ae))) Ad)))) (Aa (An (opD AJ) (pvD 4) Ae) Ad))))
   (Bu (BF (ptT (As (opN QV) (pvD 5) Ae (AF _)))
   (Af (Ak (i:=10) AD.nd (Ai lM hr.d AI (Aa (pvD 10) (Aa (An (opD0 AU) (An (opD Fo) (An (opD BS) (pvD 4) Ae) Ae) (pvD 5)) Ad)))))
   AH)
   (Af (AE (pvD 10))))))))))),?_⟩
  nofun
  refine⟨h,L,aa,ab,rfl,hh,wf,fun hb H1 s1 rH=>?_⟩
  generalize sM L aa ab=ms at aY jE hsl rH k
  generalize sW L aa ab=vs at aY rH
  refine⟨a,ns,5,rfl,s1.seq hs,?_⟩
  dsimp only
  generalize cell ns 5=num
  refine⟨by lia,fun p hp=>⟨num,rfl,by decide,?_⟩⟩
  have sp:=s1.newT hp (o:=.lst [V.int 0,V.int 1,V.int 2,V.int 3,V.int 2,V.int 2])
  have sp1:=Same.new hp (o:=.lst [V.int 0,V.int 1,V.int 2,V.int 3,V.int 2,V.int 2])
  have ep:upd H1 p (.lst [V.int 0,V.int 1,V.int 2,V.int 3,V.int 2,V.int 2]) p=some (.lst [V.int 0,V.int 1,V.int 2,V.int 3,V.int 2,V.int 2]):=Ab
  have lP:=rH.mono sp1
  have pB:=hh.mono sp
  generalize upd H1 p (.lst [V.int 0,V.int 1,V.int 2,V.int 3,V.int 2,V.int 2])=H2 at sp sp1 ep lP pB ⊢
  obtain⟨wy,hwy⟩:∃wy:Int,atI [V.int 0,V.int 1,V.int 2,V.int 3,V.int 2,V.int 2] (num%6)=some (V.int wy):=by
   have h0:=qu_ num (show (6:Int)≠0 by decide)
   have h1:=j9_ num (show (0:Int)<6 by decide)
   rcases (show num%6=0\/num%6=1\/num%6=2\/num%6=3\/num%6=4\/num%6=5 by lia) with e|e|e|e|e|e<;>rw[e]<;>exact⟨_,rfl⟩
  obtain⟨tb,wb,b1,b2,b3⟩:=id lP
  refine⟨_,SqL.of ep,_,hwy,num,rfl,⟨by decide,by decide⟩,hb,rfl,_,b1,_,rfl,tb,rfl,_,.inr b2,?_⟩
  rw[ja_]
  refine RG ?_
  nofun
  refine ite2 (fun h3=>?_) (fun h3=>?_)
  ·have dF:=qu_ (num / 6) (show ((ms.length:Int)+m)≠0 by lia)
   have hr1:=j9_ (num / 6) (show (0:Int)<(ms.length:Int)+m by lia)
   obtain⟨rn,hrn⟩:∃rn:Nat,1+num / 6%((ms.length:Int)+m)=(rn:Int):=⟨(1+num / 6%((ms.length:Int)+m)).toNat,by lia⟩
   rw[hrn]
   have hrn1:1<=rn:=by lia
   have hrnm:rn<=ms.length+m:=by lia
   obtain⟨tm,tw,q1,q2,q3⟩:=id pB
   refine⟨by lia,by lia,by lia,?_⟩
   rw[jj_]
   obtain⟨Pc,dH⟩:∃Pc:Nat->List V->St->Hp->Prop,∀i ys af H',Pc i ys af H'↔(H'=H2/\(∃ks:α2,ys=ks.map V.int/\ks.length=i/\∀x∈ks,x∈aa)/\∃o,af=[o,some (.ref h),some (.int (num / 6))]):=⟨_,fun _ _ _ _=>qq_⟩
   refine Js Pc ((dH _ _ _ _).mpr ⟨rfl,⟨[],rfl,rfl,fun x hx=>by cases hx⟩,none,rfl⟩) s!"" (fun i ys af H' hi h'=>by obtain⟨_,⟨ks,rfl,e,_⟩,_⟩:=(dH _ _ _ _).mp h';rw[ja_,e];exact ji_ _) (fun i ys af H' hi h'=>?_) (fun ys af H' h' pm cE=>?_)
   ·obtain⟨rfl,⟨ks,rfl,gK,n5⟩,o,rfl⟩:=(dH _ _ _ _).mp h'
    nofun
    refine⟨_,q1,_,rfl,_,q1,_,rfl,tm,rfl,_,.inr q2,?_⟩
    rw[ja_]
    refine⟨_,_,_,rfl,by lia,by lia,by lia,fun x dW cQ=>?_⟩
    have cg:x.toNat<aa.length:=by lia
    refine⟨tm,rfl,_,x,rfl,q2,_,A3 dW (v:=aa[x.toNat]) (jh_ cg),(dH _ _ _ _).mpr ⟨rfl,⟨ks++[aa[x.toNat]],by simp,by simp[gK],fun y hy=>?_⟩,_,rfl⟩⟩
    rcases jw_.mp hy with hy|hy
    ·exact n5 y hy
    ·rw[jr_.mp hy];exact j0_ cg
   ·obtain⟨rfl,⟨mr,rfl,jd,md⟩,o,rfl⟩:=(dH _ _ _ _).mp h'
    have s3:=Same.new cE (o:=.lst (mr.map V.int))
    have lJ:upd H' pm (.lst (mr.map V.int)) pm=some (.lst (mr.map V.int)):=Ab
    generalize upd H' pm (.lst (mr.map V.int))=H3 at s3 lJ ⊢
    refine⟨by lia,by lia,?_⟩
    refine Js (fun i ys af H'=>Same H3 H'/\(∃ws:α1,MT K H' ys ws/\ws.length=i/\∀row∈ws,row.length=L/\∀x∈row,0<=x/\x<(rn:Int))/\∃o,af=[o,some (.int rn),some (.int (num / 6)),some (.ref h)]) ⟨Same.refl _,⟨[],⟨rfl,fun i w h=>by simp at h⟩,rfl,fun x hx=>by cases hx⟩,none,rfl⟩ s!"" (fun i ys af H' hi h'=>by obtain⟨_,⟨ws,hw,e,_⟩,_⟩:=h';rw[hw.1,e];exact ji_ _) (fun i ys af H4 hi h'=>?_) (fun ys af H4 h' pw bI=>?_)
    ·obtain⟨s4,⟨ws,dz,cU,gp⟩,o,rfl⟩:=h'
     rw[wa_]
     nofun
     refine⟨_,(s3.trans s4).seqT q1,_,rfl,_,rfl,by lia,by lia,?_⟩
     rw[jj_]
     obtain⟨Pd,n6⟩:∃Pc:Nat->List V->St->Hp->Prop,∀j zs af H',Pc j zs af H'↔(H'=H4/\(∃ks:α2,zs=ks.map V.int/\ks.length=j/\∀x∈ks,0<=x/\x<(rn:Int))/\∃o,af=[o,some (.int rn),some (.int (num / 6)),some (.int i)]):=⟨_,fun _ _ _ _=>qq_⟩
     refine Js Pd ((n6 _ _ _ _).mpr ⟨rfl,⟨[],rfl,rfl,fun x hx=>by cases hx⟩,none,rfl⟩) s!"" (fun j zs af H' hj h'=>by obtain⟨_,⟨ks,rfl,e,_⟩,_⟩:=(n6 _ _ _ _).mp h';rw[ja_,e];exact ji_ _) (fun j zs af H' hj h'=>?_) (fun zs af H' h' D hD=>?_)
     ·obtain⟨rfl,⟨ks,rfl,gK,n5⟩,o,rfl⟩:=(n6 _ _ _ _).mp h'
      rw[wa_]
      nofun
      refine⟨.inl ⟨by lia,by lia⟩,_,_,_,rfl,by lia,by lia,by lia,fun x dW cQ=>(n6 _ _ _ _).mpr ⟨rfl,⟨ks++[x],by simp,by simp[gK],fun y hy=>?_⟩,_,rfl⟩⟩
      rcases jw_.mp hy with hy|hy
      ·exact n5 y hy
      ·rw[jr_.mp hy];exact⟨dW,cQ⟩
     ·obtain⟨rfl,⟨ks,rfl,gK,n5⟩,o,rfl⟩:=(n6 _ _ _ _).mp h'
      refine⟨s4.newT hD,⟨ws++[ks],?_,by simp[cU],fun row hr=>?_⟩,_,rfl⟩
      ·have sD:=Same.new hD (o:=.lst (ks.map V.int))
       refine⟨by rw[jl_,jl_,dz.1];rfl,fun i2 w hw=>?_⟩
       by_cases jG:i2<ws.length
       ·rw[je_ jG]at hw
        obtain⟨t,a1,a2⟩:=dz.2 i2 w hw
        exact⟨t,by rw[je_ (by rw[dz.1];exact jG)];exact a1,sD _ _ a2⟩
       ·rw[jp_ s!""]at hw
        have h0:i2-ws.length=0:=by
         have:=(jb_.mp hw).1
         simpa using this
        rw[h0]at hw
        have hw:ks=w:=by simpa using hw
        subst hw
        exact⟨D,by rw[jp_ (by rw[dz.1];lia),dz.1,h0];rfl,Ab⟩
      ·rcases jw_.mp hr with hr|hr
       ·exact gp row hr
       ·rw[jr_.mp hr];exact⟨gK,n5⟩
    ·obtain⟨s4,⟨ws,dz,cU,gp⟩,o,rfl⟩:=h'
     have s5:=s4.newT bI (o:=.lst ys)
     have mS:upd H4 pw (.lst ys) pw=some (.lst ys):=Ab
     have gm:MT K (upd H4 pw (.lst ys)) ys ws:=⟨dz.1,fun i w h=>let ⟨t,a1,a2⟩:=dz.2 i w h;⟨t,a1,Same.new bI _ _ a2⟩⟩
     generalize upd H4 pw (.lst ys)=H5 at s5 mS gm ⊢
     have s35:=s3.trans s5
     refine⟨_,s35.seqT q1,_,rfl,pm,rfl,_,.inl ⟨SqL.of (s5 _ _ lJ),fun l fB=>⟨pw,rfl,⟨_,SqL.of (Same.new fB _ _ mS)⟩,?_⟩⟩⟩
     have s6:=s35.newT fB (o:=.tup (mr.map V.int))
     have rJ:=Same.new fB (o:=.tup (mr.map V.int))
     have el:upd H5 l (.tup (mr.map V.int)) l=some (.tup (mr.map V.int)):=Ab
     generalize upd H5 l (.tup (mr.map V.int))=H6 at s6 rJ el ⊢
     refine Iq (xs:=ys) (fun i zs af H'=>Same H6 H'/\AA K H' zs (ws.take i)/\∃o,af=[o]) ⟨Same.refl _,AA.nil,none,rfl⟩ (by rw[gm.1];lia) (fun i zs af H' hi h'=>⟨SqL.of (h'.1 _ _ (rJ _ _ mS)),by rw[h'.2.1.1,jx_];lia⟩) (fun i x zs af H' hx h'=>?_) (fun zs af H7 h' D hD=>?_)
     ·obtain⟨s7,gq,o,rfl⟩:=h'
      obtain⟨t,w0,cH,rfl,ht⟩:=gm.at hx
      nofun
      refine⟨_,.inl ⟨SqL.of (s7 _ _ (rJ _ _ ht)),fun l2 bJ=>⟨s7.newT bJ,?_,_,rfl⟩⟩⟩
      rw[jR_,cH,qv_]
      exact (gq.mono (TK.new bJ)).snoc Ab
     ·obtain⟨s7,gq,o,rfl⟩:=h'
      rw[gm.1,jQ_]at gq
      have i5:AA K (upd H7 D (.lst zs)) zs ws:=gq.mono (TK.new hD)
      have s8:=(s6.trans s7).newT hD (o:=.lst zs)
      have eD:upd H7 D (.lst zs) D=some (.lst zs):=Ab
      have el8:=Same.new hD (o:=.lst zs) _ _ (s7 _ _ el)
      generalize upd H7 D (.lst zs)=H8 at i5 s8 eD el8 ⊢
      refine⟨D,rfl,_,.inl ⟨SqL.of eD,fun l1 bo=>⟨by lia,fun p hp=>?_⟩⟩⟩
      have iq:=(Same.new bo (o:=.tup zs)).newT hp (o:=.tup [V.int L,V.ref l,V.ref l1])
      have e1:=Same.new hp (o:=.tup [V.int L,V.ref l,V.ref l1]) _ _ (Ab (H:=H8) (a:=l1) (o:=.tup zs))
      have e2:upd (upd H8 l1 (.tup zs)) p (.tup [V.int L,V.ref l,V.ref l1]) p=some (.tup [V.int L,V.ref l,V.ref l1]):=Ab
      have ir:=i5.mono (TK.of iq)
      generalize upd (upd H8 l1 (.tup zs)) p (.tup [V.int L,V.ref l,V.ref l1])=pq at iq e1 e2 ir ⊢
      refine k p mr ws pq (sp.trans (s8.trans iq)) ⟨l,l1,SqT.of e2,SqT.of (iq _ _ el8),Mg (SqT.of e1) ir⟩ ⟨cP,dv,by lia,by lia,by lia,fun row hr=>⟨by rw[(gp row hr).1],fun x hx=>by rw[jd];exact (gp row hr).2 x hx⟩,fun m hm=>wf.mks _ (md m hm)⟩ s!""
  ·have dF:=qu_ (num / 6) (show ((m:Int)+1)≠0 by lia)
   have hr1:=j9_ (num / 6) (show (0:Int)<(m:Int)+1 by lia)
   obtain⟨nb,hnb⟩:∃nb:Nat,(ms.length:Int)+m-num / 6%((m:Int)+1)=(nb:Int):=⟨((ms.length:Int)+m-num / 6%((m:Int)+1)).toNat,by lia⟩
   rw[hnb]
   refine⟨by lia,hb,L,ms,vs,num / 6,nb,rfl,lP,aY,by lia,fun h4 m4 w4 H4 s4 lu rm qS=>⟨by decide,?_⟩⟩
   refine⟨h4,L,m4,w4,_,rfl,lu,rm,fun ho mo wo H5 s5 hho wfo iC=>?_⟩
   have s05:=(sp.trans s4).trans s5
   obtain⟨R,hR⟩:∃R:St->Hp->Prop,∀af H',R af H'↔(∃(hx:Addr) (mx:α2) (wx:α1),Same H H'/\AV K H' hx L mx wx/\Wf L mx wx/\mx.length<=ms.length+m/\af=[some (V.ref h),some (V.ref a),some (V.int m),some (V.ref hb),some (V.int (num / 6)),some (V.int wy),some (V.int ((ms.length:Int)+m)),none,none,none,some (.ref hx)]):=⟨_,fun _ _=>qq_⟩
   refine⟨R,?_,fun af H' h'=>?_⟩
   ·nofun
    refine ite2 (fun _=>?_) (fun _=>(hR _ _).mpr ⟨ho,mo,wo,s05,hho,wfo,by lia,rfl⟩)
    refine⟨⟨by decide,by decide⟩,.inr ⟨by decide,by decide⟩,ho,L,mo,wo,_,rfl,hho,wfo,fun hx mx wx H6 s6 rK rL hlx=>(hR _ _).mpr ⟨hx,mx,wx,s05.trans s6,rK,rL,by lia,rfl⟩⟩
   ·obtain⟨hx,mx,wx,s6,rK,rL,hlx,rfl⟩:=(hR _ _).mp h'
    nofun
    exact k hx mx wx H' s6 rK rL hlx
def FW (w1 w2:α1)(L:Int)(n m:Nat)(a b:Int):List ((Int×Int)×α2):=bfsF (Fc w1 w2) L.toNat (n*m+1) [((a,b),[])] 0
def Ji (K:α3):Sp:=fun vs H Q _=>∃(h h2:Addr) (L:Int) (aa av:α2) (ab az:α1),vs=[.ref h,.ref h2]/\AV K H h L aa ab/\Wf L aa ab/\AV K H h2 L av az/\Wf L av az /\
 ∀l rs H',Same H H'->H l=none->H' l=some (.lst rs)->EW H' ((FW ab az L aa.length av.length 0 0).map (·.1)) rs->(∃top,B L (Fc ab az) (0,0) (okP aa.length av.length) (FW ab az L aa.length av.length 0 0) (FW ab az L aa.length av.length 0 0).length top)->Q (.ref l) H'
def GQ   (F:Fun K "_law_pairs_of" "_law_pairs_of" B2 f fd)(T:Txt mg)
  : nofun 1 f fd ["house","other"] (Ji K):=by
 delta AM
 ·obtain⟨h,h2,L,aa,av,ab,az,rfl,_⟩:=h;rfl
 ·obtain⟨h,h2,L,aa,av,ab,az,rfl,hh,wf,pB,pC,k⟩:=h
  have hl:=Ar
  have cP:=wf.l1
  have dv:=wf.l6
  have aW:=wf.n40
  have hm40:=pC.n40
  refine⟨_,(@Ac _ _ _ _ _ (@Rk _ 2 _ _ _ _ _ _ _ _ (Hi hr) AM.nd rfl (r9 rfl) (Bs (Aa Ae (Aa Ae Ad))) Ls rfl (r9 rfl))
   (Ac (Ak (i:=3) AM.nd (Bl (Aa (Bs (Aa Ae (Aa Ae Ad))) Ad)))
   (Ac (Ak (i:=4) AM.nd Ae)
   (Ac (Df jI_ (ptT (As (opD0 Hg) (pvD 4) (Aq (lenD Aj) (by rfl) T.len jH_ (Aa (pvD 3) Ad)) (AF _)))
   (Ac (Ak (i:=5) AM.nd (Ag (ixLD AT) (pvD 3) (pvD 4)))
   (Ac (Bo jI_ rfl (AN rfl T.range (Aa (Ag (ixTD Ao) (pvD 0) Ae) Ad)) (Am (i:=6) AM.nd rfl (r9 rfl))
   (Ac (Ak (i:=7) AM.nd (Bs (Aa (Ag (ixTD Ao) (Ag (ixTD Ao) (Ag (ixTD Ao) (pvD 0) Ae) (Ag (ixTD Ao) (pvD 5) Ae)) (pvD 6)) (Aa (Ag (ixTD Ao) (Ag (ixTD Ao) (Ag (ixTD Ao) (pvD 1) Ae) (Ag (ixTD Ao) (pvD 5) Ae)) (pvD 6)) Ad))))
   (Af (BF (On (Hk (Hi hr) (pvD 7) (pvD 2)))
   (Ac (Jp (Hi hr) (pvD 2) (pvD 7) Ls rfl)
   (Af (A8 (C1 jE_ jL_ jM_ AO (pvD 3) (Aa (pvD 7) Ad)))))
   AH))))
   (Af (Ak (i:=4) AM.nd (An (opD0 AU) (pvD 4) Ae))))))
   (Af (AE (pvD 3))))))),?_⟩
  nofun
  have cC:=wf.n1
  have i9:=pC.n1
  have hok:okP aa.length av.length (0,0):=⟨⟨by lia,by show (0:Int)<_;lia⟩,by lia,by show (0:Int)<_;lia⟩
  intro p hp
  refine⟨by lia,fun pk lC=>⟨Same.new lC _ _ Ab,keyP (0,0),Ab,by lia,fun pr d9=>⟨by lia,fun p2 aU=>?_⟩⟩⟩
  have jf:p2≠p:=(At (At aU).1).2
  have jg:H p2=none:=(At (At (At (At aU).1).1).1).1
  have s0:Same H (upd (upd (upd (upd (upd H p (.dT [])) pk (.tup [V.int 0,V.int 0])) p (.dT [(keyP (0,0),V.bl true)])) pr (.tup [V.int 0,V.int 0])) p2 (.lst [V.ref pr])):=((((Same.new hp).newT lC).over hp).newT d9).newT aU
  have nG:upd (upd (upd (upd (upd H p (.dT [])) pk (.tup [V.int 0,V.int 0])) p (.dT [(keyP (0,0),V.bl true)])) pr (.tup [V.int 0,V.int 0])) p2 (.lst [V.ref pr]) p=some (.dT [(keyP (0,0),V.bl true)]):=Same.new aU _ _ (Same.new d9 _ _ Ab)
  have dF:upd (upd (upd (upd (upd H p (.dT [])) pk (.tup [V.int 0,V.int 0])) p (.dT [(keyP (0,0),V.bl true)])) pr (.tup [V.int 0,V.int 0])) p2 (.lst [V.ref pr]) p2=some (.lst [V.ref pr]):=Ab
  have st0:F3 (([((0,0),[])]:List ((Int×Int)×α2)).map (·.1)) [(keyP (0,0),V.bl true)]:=rfl
  have fo0:EW (upd (upd (upd (upd (upd H p (.dT [])) pk (.tup [V.int 0,V.int 0])) p (.dT [(keyP (0,0),V.bl true)])) pr (.tup [V.int 0,V.int 0])) p2 (.lst [V.ref pr])) (([((0,0),[])]:List ((Int×Int)×α2)).map (·.1)) [V.ref pr]:=⟨rfl,fun i q hq=>by
   cases i with
   |zero=>simp at hq;subst hq;exact⟨pr,rfl,Same.new aU _ _ Ab⟩
   |succ i=>simp at hq⟩
  generalize upd (upd (upd (upd (upd H p (.dT [])) pk (.tup [V.int 0,V.int 0])) p (.dT [(keyP (0,0),V.bl true)])) pr (.tup [V.int 0,V.int 0])) p2 (.lst [V.ref pr])=H0 at s0 nG dF st0 fo0 ⊢
  clear aU d9 lC
  obtain⟨Pv,aq⟩:∃Pv:Nat->St->Hp->Prop,∀m ai H2,Pv m ai H2↔(∃(ents:List ((Int×Int)×α2)) (kvs:List (List Key×V)) (rs:List V) (i:Nat) (top:Int) (o6 o7 o8:Option V),m=aa.length*av.length+1-i/\Same H H2/\H2 p=some (.dT kvs)/\H2 p2=some (.lst rs)/\F3 (ents.map (·.1)) kvs/\EW H2 (ents.map (·.1)) rs/\B L (Fc ab az) (0,0) (okP aa.length av.length) ents i top/\(∀e,ents[i]?=some e->top<=place L e.2*L+1)/\bfsF (Fc ab az) L.toNat (aa.length*av.length+1-i) ents i=FW ab az L aa.length av.length 0 0/\ai=[some (.ref h),some (.ref h2),some (.ref p),some (.ref p2),some (.int i),o6,o7,o8]):=⟨_,fun _ _ _=>qq_⟩
  refine Hn Pv ⟨_,(aq _ _ _).mpr ⟨_,_,_,0,1,none,none,none,rfl,s0,nG,dF,st0,fo0,B.start L _ hok,fun e he=>?_,rfl,rfl⟩⟩ ?_
  ·simp at he;subst he;simp[place,AQ]
  intro m ai H2 d8
  obtain⟨ents,kvs,rs,i,top,o6,o7,o8,rfl,s2,oz,dG,aX,pD,bf,g9,bQ,rfl⟩:=(aq _ _ _).mp d8
  have qF:=bf.lenP
  have nv:aa.length*av.length<=1600:=Nat.mul_le_mul aW hm40
  nofun
  refine⟨_,.inl (SqL.of dG),?_⟩
  have cW:rs.length=ents.length:=by rw[pD.1,ja_]
  rw[cW]
  refine ite2 (fun ar=>?_) (fun bF=>?_)
  ·have hi:i<ents.length:=by lia
   obtain⟨e,he⟩:∃e,ents[i]?=some e:=⟨ents[i],by simp[hi]⟩
   obtain⟨⟨ra,rb⟩,w⟩:=e
   have bq:=jd_ he
   have bO:okP aa.length av.length (ra,rb):=bf.rng _ bq
   obtain⟨⟨rM,lA⟩,rN,lB⟩:=id bO
   have htop':top<=place L w*L+1:=g9 _ he
   obtain⟨row,hrow,fj,hrowl⟩:=wf.row rM lA
   obtain⟨row2,ft,hrm2,hrowl2⟩:=pC.row rN lB
   obtain⟨mm,wv,q1,q2,q3⟩:=id hh
   obtain⟨mm',qZ,rO,q2',nB⟩:=id pB
   obtain⟨xs,t,z1,z2,z3⟩:=q3.atZ rM hrow
   obtain⟨mz,t',z1',z2',z3'⟩:=nB.atZ rN ft
   obtain⟨bp,hbp1,hbp2⟩:=pD.2 i (ra,rb) (by rw[jf_,he];rfl)
   refine⟨Pv (aa.length*av.length+1-(i+1)),fun af H' h=>⟨_,by lia,h⟩,?_⟩
   refine⟨_,SqL.of dG,_,B7 (v:=V.ref bp) s!"" (by rw[jj_];exact hbp1),?_⟩
   nofun
   refine⟨_,s2.seqT q1,_,rfl,?_⟩
   nofun
   refine⟨by lia,by lia,?_⟩
   obtain⟨Pn,cw⟩:∃Pn:Nat->St->Hp->Prop,∀x aE H3,Pn x aE H3↔(∃(ao:List ((Int×Int)×α2)) (bz:List (List Key×V)) (jw:List V) (o7 o8:Option V),Same H H3/\H3 p=some (.dT bz)/\H3 p2=some (.lst jw)/\F3 (ao.map (·.1)) bz/\EW H3 (ao.map (·.1)) jw/\H3 bp=some (.tup [.int ra,.int rb])/\B L (Fc ab az) (0,0) (okP aa.length av.length) ao i (place L w*L+(x:Int)+1)/\Rl L (Fc ab az) ao (ra,rb) w x/\ao[i]?=some ((ra,rb),w)/\addF (Fc ab az) (ra,rb) w (L.toNat-x) x ao=addF (Fc ab az) (ra,rb) w L.toNat 0 ents/\aE=[some (.ref h),some (.ref h2),some (.ref p),some (.ref p2),some (.int i),some (.ref bp),o7,o8]):=⟨_,fun _ _ _=>qq_⟩
   refine forR Pn ((cw _ _ _).mpr ⟨ents,kvs,rs,o7,o8,s2,oz,dG,aX,pD,hbp2,bf.up (by push_cast;lia),(fun y h0 h1=>absurd h1 (by push_cast;lia)),he,rfl,rfl⟩) (fun x aE H3 hx h3=>?_) (fun aE H3 h3=>?_)
   ·obtain⟨ao,bz,jw,o7,o8,s3,ko,cX,cm,pE,nV,cY,fR,eG,bR,rfl⟩:=(cw _ _ _).mp h3
    have ex:(0:Int)+(x:Nat)=(x:Int):=by lia
    rw[ex]
    have rP:(x:Int)<L:=by lia
    obtain⟨rw1,g1,c1,c2,c3,c4,c5⟩:=wf.step rM lA (show (0:Int)<=(x:Int) by lia) rP
    obtain⟨rw2,g2,d1,d2,d3,d4,d5⟩:=pC.step rN lB (show (0:Int)<=(x:Int) by lia) rP
    rw[hrow]at c1;cases c1
    rw[ft]at d1;cases d1
    have ja:Fc ab az (ra,rb) (x:Int)=(g1,g2):=by show (Bi ab ra x,Bi az rb x)=_;rw[c3,d3]
    have cZ:=jd_ eG
    obtain⟨c9,fk⟩:=cY.letter fR cZ rP (by rw[ja];exact⟨⟨c4,c5⟩,d4,d5⟩)
    have fm:=Rm (step:=Fc ab az) (r:=(ra,rb)) (w:=w) (x:=x) eG
    rw[show L.toNat-x=(L.toNat-(x+1))+1 by lia,Pt]at bR
    nofun
    refine⟨_,s3.seqT q1,_,rfl,?_⟩
    nofun
    refine⟨_,SqT.of nV,_,rfl,?_⟩
    nofun
    refine⟨_,s3.seqT z1,_,z2,?_⟩
    nofun
    refine⟨_,s3.seqT z3,_,A3 s!"" c2,_,s3.seqT rO,_,rfl,_,SqT.of nV,_,rfl,_,rfl,_,_,rfl,s3.seqT z1',_,z2',_,rfl,_,s3.seqT z3',_,A3 s!"" d2,by lia,fun p3 dy=>?_⟩
    have sT:=s3.newT dy (o:=.tup [V.int g1,V.int g2])
    have kT:TK H3 (upd H3 p3 (.tup [V.int g1,V.int g2])):=TK.new dy
    have gj:=Same.new dy (o:=.tup [V.int g1,V.int g2]) _ _ ko
    have kr:=Same.new dy (o:=.tup [V.int g1,V.int g2]) _ _ cX
    have rQ:=Same.new dy (o:=.tup [V.int g1,V.int g2]) _ _ nV
    have rR:=pE.mono kT
    have jx:upd H3 p3 (.tup [V.int g1,V.int g2]) p3=some (.tup ((keyP (g1,g2)).map kV)):=Ab
    generalize upd H3 p3 (.tup [V.int g1,V.int g2])=oA at sT kT gj kr rQ rR jx ⊢
    refine⟨_,DGet.t gj jx,?_⟩
    by_cases hm:(g1,g2)∈ao.map (·.1)
    ·have eI:put (Fc ab az) (ra,rb) w ao x=ao:=by unfold put;rw[ja,if_pos hm]
     rw[eI]at c9 fk fm bR
     rw[cm.yes hm,if_neg (by decide)]
     exact (cw _ _ _).mpr ⟨ao,bz,jw,_,_,sT,gj,kr,cm,rR,rQ,c9,fk,fm,bR,rfl⟩
    ·have eI:put (Fc ab az) (ra,rb) w ao x=ao++[((g1,g2),w++[(x:Int)])]:=by unfold put;rw[ja,if_neg hm]
     rw[eI]at c9 fk fm bR
     rw[cm.no hm,if_pos (by simp)]
     have hlen3:=cY.lenP
     refine⟨_,DPut.t (k:=keyP (g1,g2)) gj jx (by rw[cm.len,ja_];lia),?_⟩
     have rS:TK oA (upd oA p (.dT (putK bz (keyP (g1,g2)) (V.bl true)))):=TK.dT gj
     have jh:upd oA p (.dT (putK bz (keyP (g1,g2)) (V.bl true))) p2=some (.lst jw):=by rw[Ah jf];exact kr
     refine⟨.inl ⟨rfl,_,SqL.of jh⟩,_,jh,by rw[pE.1,ja_];lia,(cw _ _ _).mpr ⟨ao++[((g1,g2),w++[(x:Int)])],putK bz (keyP (g1,g2)) (V.bl true),jw++[V.ref p3],_,_,(sT.over hp).over jg,?_,Ab,?_,?_,TK.lst jh _ _ (rS _ _ rQ),c9,fk,fm,bR,rfl⟩⟩
     ·rw[Ah (qp_ jf)];exact Ab
     ·have:=cm.put hm (V.bl true)
      simpa using this
     ·have:=((rR.mono rS).mono (TK.lst (o:=.lst (jw++[V.ref p3])) jh)).snoc (p:=(g1,g2)) (b:=p3) (TK.lst jh _ _ (rS _ _ jx))
      simpa using this
   ·obtain⟨ao,bz,jw,o7,o8,s3,ko,cX,cm,pE,nV,cY,fR,eG,bR,rfl⟩:=(cw _ _ _).mp h3
    rw[qg_,Ps]at bR
    nofun
    obtain⟨c9,dR⟩:=cY.next s!"" s!"" fR eG
    refine (aq _ _ _).mpr ⟨ao,bz,jw,i+1,_,_,_,_,rfl,s3,ko,cX,cm,pE,c9,dR,?_,by push_cast;rfl⟩
    rw[show aa.length*av.length+1-i=(aa.length*av.length+1-(i+1))+1 by lia,Pq he]at bQ
    rw[bR]
    exact bQ
  ·have hi:i=ents.length:=by have:=bf.il;lia
   subst hi
   rw[Pp (by simp)]at bQ
   rw[<-bQ]at k
   exact k p2 rs H2 s2 jg dG pD ⟨top,bf⟩
def Nm {L:Nat}{aa mr:α2}{ab wr:α1}{m:Nat}(wf:Wf L aa ab)(iQ:Wf L mr wr)(hsz:mr.length<=(sM L aa ab).length+m){E:Nat->α1}
  (eW:∀r,r<(sM L aa ab).length->∀e∈E r,isW L e=true) (e0:∀r,r<(sM L aa ab).length->[]∈E r)
  (sep:∀r s,r<(sM L aa ab).length->s<(sM L aa ab).length->r≠s->∃e,e∈E r/\e∈E s/\bW (sM L aa ab) (sW L aa ab) e r≠bW (sM L aa ab) (sW L aa ab) e s)
  (agr:∀w∈allW (sW L aa ab) (sM L aa ab).length (Dd (L:Int) m) E,mkR aa (Az ab w)=mkR mr (Az wr w)):R9 L aa ab mr wr:=by
 have aY:=sWf wf
 have cK:=sCan wf
 have hL:=wf.l1
 have A:Asked L (sM L aa ab).length m (sM L aa ab) mr (sW L aa ab) wr (wayW (sW L aa ab)) E:=by
  refine⟨rfl,aY,iQ,hsz,fun r hr=>⟨(Lf cK hr).2.1,(Lf cK hr).2.2.1⟩,?_,eW,e0,fun r s hr hs ay=>?_,fun r hr v hv hl e he=>?_⟩
  ·obtain⟨top,bf⟩:=Bfs.mk aY
   exact Md bf.nod (r:=0) (jd_ bf.hd)
  ·obtain⟨e,h1,h2,h3⟩:=sep r s hr hs ay
   exact⟨e,h1,h2,h3⟩
  ·have hw:=Lf cK hr
   have hww:=L2.Wf.walk' aY (BJ hw.2.1 hv)
   have jm:=BJ (BJ hw.2.1 hv) (eW _ s!"" e he)
   rw[VD wf jm]
   exact agr _ (Kg.mpr ⟨r,hr,v,(Kh s!"").mpr ⟨hv,hl⟩,e,he,rfl⟩)
 intro w hw
 rw[<-VD wf hw]
 exact A.all w hw
def Ln {L:Nat}{aa mr:α2}{ab wr:α1}{m:Nat}(wf:Wf L aa ab)(iQ:Wf L mr wr)(hsz:mr.length<=(sM L aa ab).length+m)(agr:∀w∈E2 L aa ab m,mkR aa (Az ab w)=mkR mr (Az wr w)):R9 L aa ab mr wr:=by
 have aY:=sWf wf
 have fin:=Fin17.mk' (b:=bW (sM L aa ab) (sW L aa ab)) (L:=L) aY.n1 aY.n40
 refine Nm wf iQ hsz (E:=fun _=>(wcOf (sM L aa ab).length L (bW (sM L aa ab) (sW L aa ab))).1) (fun r _ e he=>Aw.mpr (fin.wc.ok e he)) (fun r _=>jd_ fin.wc.w0) (fun r s hr hs ay=>?_) agr
 obtain⟨e,_,_,h3,h4⟩:=Tj (sCan wf) hr hs ay
 exact⟨e,h4,h4,qp_ h3⟩
def Mh {L:Nat}{aa mr:α2}{ab wr:α1}{m:Nat}(wf:Wf L aa ab)(iQ:Wf L mr wr)(hsz:mr.length<=(sM L aa ab).length+m)(agr:∀w∈Kc L aa ab m,mkR aa (Az ab w)=mkR mr (Az wr w)):R9 L aa ab mr wr:=by
 have aY:=sWf wf
 have fin:=Fin17.mk' (b:=bW (sM L aa ab) (sW L aa ab)) (L:=L) aY.n1 aY.n40
 refine Nm wf iQ hsz (E:=ownW (sM L aa ab).length (bW (sM L aa ab) (sW L aa ab)) (wcOf (sM L aa ab).length L (bW (sM L aa ab) (sW L aa ab))).1) (fun r _ e he=>?_) (fun r _=>jo_) (fun r s hr hs ay=>?_) agr
 ·unfold ownW at he
  rcases jD_.mp he with rfl|he
  ·rfl
  ·exact Aw.mpr (fin.wc.ok e (Kb he))
 ·obtain⟨e,h1,_,h3,h4⟩:=Tj (sCan wf) hr hs ay
  have:=Sb hr hs h1
  exact⟨e,this.1,this.2,qp_ h3⟩
def Il {L:Nat}{aa:α2}{ab:α1}{m:Nat}(wf:Wf L aa ab){w:α2}(h:w∈E2 L aa ab m):isW L w=true/\w.length<=81+m:=by
 have aY:=sWf wf
 have fin:=Fin17.mk' (b:=bW (sM L aa ab) (sW L aa ab)) (L:=L) aY.n1 aY.n40
 have jN:(wcOf (sM L aa ab).length L (bW (sM L aa ab) (sW L aa ab))).1.length<=40:=by
  have h1:=fin.wc.le
  have h2:=Gs (wcOf (sM L aa ab).length L (bW (sM L aa ab) (sW L aa ab))).2
  rw[fin.wc.len]at h2
  have:=aY.n40
  lia
 have cU:=QB fin.wc
 unfold E2 at h
 rw[Kg]at h
 obtain⟨r,hr,v,hv,e,he,rfl⟩:=h
 have hv:=(Kh (by have:=wf.l1;lia)).mp hv
 have hw:=Lf (sCan wf) hr
 obtain⟨j,hj⟩:=jK_.mp he
 have h1:=cU j e hj
 have h2:=(jb_.mp hj).1
 refine⟨BJ (BJ hw.2.1 hv.1) (Aw.mpr (fin.wc.ok e he)),?_⟩
 rw[jl_,jl_]
 lia
def Oe {L:Nat}{aa:α2}{ab:α1}{m:Nat}(wf:Wf L aa ab){w:α2}(h:w∈Kc L aa ab m):isW L w=true/\w.length<=81+m:=Il wf (Sa wf h)
def QO {L:Nat}{aa av:α2}{ab az:α1}{ents:List ((Int×Int)×α2)}{ok:Int×Int->Prop}{top:Int}(bf:B L (Fc ab az) (0,0) ok ents ents.length top):(∀j,j<ents.length->∀e,ents[j]?=some e->mkW aa e.1.1=mkW av e.1.2) ↔ ∀v,isW L v=true->mkR aa (Az ab v)=mkR av (Az az v):=by
 constructor
 ·intro h v hv
  obtain⟨w',hm,_⟩:=bf.leastW hv
  obtain⟨j,hj,ej⟩:=jN_ hm
  have:=h j hj _ (by rw[jh_ hj,ej])
  rw[T2]at this
  exact this
 ·intro h j hj e he
  have jR:=bf.wd e (jd_ he)
  have h1:=jR.2
  rw[T2]at h1
  have:=h e.2 jR.1
  rw[<-BE,<-BE,show Bq ab 0 e.2=e.1.1 from jG_ Prod.fst h1,show Bq az 0 e.2=e.1.2 from jG_ Prod.snd h1]at this
  exact this
def Sd (K:α3):Sp:=fun vs H Q _=>∃(a:Addr) (ns:α2),vs=[.ref a]/\SqL K H a (ns.map V.int)/\ns.length<=63/\H (tabP K "in_order")=some (.tbl #[])/\∀H',Q (.bl true) H'
def V9   (F:Fun K "law" "law" Uz f fd)(T:Txt mg)
   (iu:⋯ 6 "suite" JY ["house","more"] (Nf K) QP Nn)
   (iw:⋯ 6 "slim" M7 ["house","more"] (QE K) Tl QQ)
   (lQ:⋯ 6 "trials_of" Ds ["house","words"] (Tk K) Im GC)
   (lR:⋯ 7 "passes" Ha ["house","some"] (Lm K) No Lo)
   (lS:⋯ 3 "_law_house_by" BZ ["script"] (Jf K) Ex DO)
   (lT:⋯ 2 "_law_more_by" Cj ["script","house"] (QF K) E9 Ey)
   (lU:⋯ 3 "_law_rival_by" B1 ["house","script","many"] (Nl K) Ez DP)
   (lV:⋯ 1 "_law_pairs_of" B2 ["house","other"] (Ji K) EA DQ)
  : nofun 8 f fd ["script"] (Sd K):=by
 delta FE
 ·obtain⟨a,ns,rfl,_⟩:=h;rfl
 ·obtain⟨a,ns,rfl,hs,hz,hT,k⟩:=h
  have hl:=Ar
  refine⟨_,(Ac (Ak (i:=1) FE.nd (Ai lS hr.d AI (Aa (pvD 0) Ad)))
   (Ac (Ak (i:=2) FE.nd (Ai lT hr.d AI (Aa (pvD 0) (Aa (pvD 1) Ad))))
   (Ac (Ak (i:=3) FE.nd (Ai lU hr.d AI (Aa (pvD 1) (Aa (pvD 0) (Aa (pvD 2) Ad)))))
   (Ac (Ak (i:=4) FE.nd Ls)
   (Bu (Bo jI_ rfl (AS (Ai lV hr.d AI (Aa (pvD 1) (Aa (pvD 3) Ad)))) (Am (i:=5) FE.nd rfl (r9 rfl))
   (Af (BF (ptT (As (opN QV) (Ag (ixTD Ao) (Ag (ixTD Ao) (pvD 1) Ae) (Ag (ixTD Ao) (pvD 5) Ae)) (Ag (ixTD Ao) (Ag (ixTD Ao) (pvD 3) Ae) (Ag (ixTD Ao) (pvD 5) Ae)) (AF _)))
   (Af (Ak (i:=4) FE.nd Ls))
   AH)))
   (Ac (Bo jI_ rfl (AS (Bl (Aa (Ai iu hr.d AI (Aa (pvD 1) (Aa (pvD 2) Ad))) (Aa (Ai iw hr.d AI (Aa (pvD 1) (Aa (pvD 2) Ad))) Ad)))) (Am (i:=6) FE.nd rfl (r9 rfl))
   (Ac (Ak (i:=7) FE.nd (Ai lR hr.d AI (Aa (pvD 3) (Aa (Ai lQ hr.d AI (Aa (pvD 1) (Aa (pvD 6) Ad))) Ad))))
   (Af (BF (PW.pt (Ts (Sf (ptB (Se (Aq Kw rfl T.isinstance u7 (Aa (pvD 7) (Aa (Tr (v:=.ty "bool") rfl T.bool wg rfl) Ad)))))) (Oo (ptT (As (opN QV) (pvD 7) (pvD 4) (AF _))))))
   (Af (AE Ls))
   AH))))
   (Af (AE Ls)))))))),?_⟩
  nofun
  refine⟨a,ns,rfl,hs,fun h L0 aa ab H1 s1 hh wf lx=>?_⟩
  obtain⟨L,rfl⟩:∃L:Nat,L0=(L:Int):=⟨L0.toNat,by have:=wf.l1;lia⟩
  refine⟨a,h,ns,L,aa,ab,rfl,s1.seq hs,hh,wf,fun m H2 hm bH s2=>?_⟩
  refine⟨h,a,L,m,ns,aa,ab,rfl,hh.mono s2,wf,lx,hm,(s1.trans s2).seq hs,fun hr mr wr H3 s3 mM iQ hsz=>?_⟩
  have mE:=(s1.trans s2).trans s3
  have nF:=mE _ _ hT
  have pF:=(hh.mono s2).mono s3
  clear s1 s2 s3 hh mE
  dsimp only
  obtain⟨R,hR⟩:∃R:St->Hp->Prop,∀af H',R af H'↔(Same H3 H'/\∃(d:Bool) (o:Option V),(d=true ↔ ∀v,isW L v=true->mkR aa (Az ab v)=mkR mr (Az wr v))/\af=[some (.ref a),some (.ref h),some (.int m),some (.ref hr),some (.bl d),o,none,none]):=⟨_,fun _ _=>qq_⟩
  refine⟨R,?_,fun aE H4 h3=>?_⟩
  ·nofun
   refine⟨h,hr,L,aa,mr,ab,wr,rfl,pF,wf,mM,iQ,fun l rs H6 s6 mj mI pG ⟨top,bf⟩=>?_⟩
   generalize FW ab wr L aa.length mr.length 0 0=ents at pG bf
   obtain⟨tm,tw,q1,q2,q3⟩:=pF.mono s6
   obtain⟨lD,jS,rO,q2',nB⟩:=mM.mono s6
   refine⟨l,rfl,⟨_,SqL.of mI⟩,?_⟩
   obtain⟨Pv,aq⟩:∃Pv:Nat->St->Hp->Prop,∀i af H',Pv i af H'↔(H'=H6/\∃(d:Bool) (o:Option V),(d=true ↔ ∀j,j<i->∀e,ents[j]?=some e->mkW aa e.1.1=mkW mr e.1.2)/\af=[some (.ref a),some (.ref h),some (.int m),some (.ref hr),some (.bl d),o,none,none]):=⟨_,fun _ _ _=>qq_⟩
   refine forL (xs:=rs) Pv ((aq _ _ _).mpr ⟨rfl,true,none,⟨fun _ j hj=>absurd hj (qV_ _),fun _=>rfl⟩,rfl⟩) (fun i af H' _ h'=>by rw[((aq _ _ _).mp h').1];exact SqL.of mI) (fun i x af H' hx h'=>?_) (fun af H' h'=>?_)
   ·obtain⟨rfl,d,o,hd,rfl⟩:=(aq _ _ _).mp h'
    have hi:i<ents.length:=by have:=(jb_.mp hx).1;rw[pG.1,ja_]at this;exact this
    have iF:ents[i]?=some ents[i]:=by simp[hi]
    obtain⟨b,e1,e2⟩:=pG.2 i ents[i].1 (by rw[jf_,iF];rfl)
    rw[hx]at e1
    cases e1
    obtain⟨⟨a0,a1⟩,b0,b1⟩:=bf.rng _ (jd_ iF)
    nofun
    refine⟨_,q1,_,rfl,?_⟩
    nofun
    refine⟨_,SqT.of e2,_,rfl,?_⟩
    nofun
    refine⟨_,q2,_,KG a0 a1,_,rO,_,rfl,?_⟩
    nofun
    refine⟨_,SqT.of e2,_,rfl,_,_,rfl,q2',_,KG b0 b1,rfl,?_⟩
    by_cases iM:mkW aa ents[i].1.1=mkW mr ents[i].1.2
    ·rw[if_neg (by rw[j7_ (jG_ V.int iM)];decide)]
     refine (aq _ _ _).mpr ⟨rfl,d,_,⟨fun z j hj e he=>?_,fun z=>hd.mpr fun j hj e he=>z j s!"" e he⟩,rfl⟩
     by_cases iZ:j<i
     ·exact hd.mp z j iZ e he
     ·have:j=i:=by lia
      subst this
      rw[iF]at he
      cases he
      exact iM
    ·rw[if_pos (by rw[qc_ (fun z=>iM (V.int.inj z))];decide)]
     exact (aq _ _ _).mpr ⟨rfl,false,_,⟨(fun z=>by cases z),fun z=>absurd (z i s!"" _ iF) iM⟩,rfl⟩
   ·obtain⟨rfl,d,o,hd,rfl⟩:=(aq _ _ _).mp h'
    rw[pG.1,ja_]at hd
    exact (hR _ _).mpr ⟨s6,d,o,hd.trans (QO bf),rfl⟩
  obtain⟨s4,d,o,hd,rfl⟩:=(hR _ _).mp h3
  have mN:=s4 _ _ nF
  have lu:=pF.mono s4
  have hhr4:=mM.mono s4
  clear hR R h3 pF mM
  nofun
  refine⟨h,L,m,aa,ab,rfl,lu,wf,hm,bH,.inl mN,fun D1 H5 rT s5 oI hDn1 hD1 hos1 jy hsrt1=>?_⟩
  have t5:TSq K H4 H5:=BR.tsq2 (T:=tabP K "in_order") s5 mN
  have rV:=AV.monoQ lu t5
  have hhr5:=AV.monoQ hhr4 t5
  obtain⟨ps5,nQ⟩:=oI.is
  refine⟨h,L,m,aa,ab,rfl,rV,wf,hm,bH,oI,fun D2 H6 os2 s6 dv hDn2 hD2 hos2 dS hsrt2=>?_⟩
  have t6:TSq K H5 H6:=BR.tsq2 (T:=tabP K "in_order") s6 nQ
  have hh6:=AV.monoQ rV t6
  have hhr6:=AV.monoQ hhr5 t6
  have hD16:H6 D1=some (.lst (aO.wv rT)):=BR.ne (T:=tabP K "in_order") s6 hD1 (fun _ z=>by cases z) nQ
  have hos16:WsT H6 rT:=WsT.monoT (T:=tabP K "in_order") hos1 s6 nQ
  have rW:∀{os:List aO.Wd},WsT H6 os->Wds K H6 (aO.wv os) (os.map (·.2)):=fun h=>by
   have:=QH (K:=K) h
   exact⟨this.1,fun i w hw=>let ⟨t,a1,a2⟩:=this.2 i w hw;⟨t,a1,SqT.of a2⟩⟩
  -- what both lists are
  have both:∀(D:Addr),(D=D1\/D=D2)->∃(os:List aO.Wd),H6 D=some (.lst (aO.wv os))/\Wds K H6 (aO.wv os) (os.map (·.2))/\os.length<=545600/\(∀w∈os.map (·.2),isW L w=true/\w.length<=84)/\((∀w∈os.map (·.2),mkR aa (Az ab w)=mkR mr (Az wr w))->R9 L aa ab mr wr):=by
   rintro D (rfl|rfl)
   ·refine⟨rT,hD16,rW hos16,?_,fun w hw=>?_,fun h=>Ln wf iQ hsz fun w hw=>h w (by rw[jy.mem_iff,Ep];exact hw)⟩
    ·have h1:=jy.length_eq
     have h2:=Cb (E2 L aa ab m) []
     have h3:=Od wf bH
     rw[ja_]at h1
     rw[qn_]at h2
     lia
    ·rw[jy.mem_iff,Ep]at hw
     have:=Il wf hw
     exact⟨this.1,by lia⟩
   ·refine⟨os2,hD2,rW hos2,?_,fun w hw=>?_,fun h=>Mh wf iQ hsz fun w hw=>h w (by rw[dS.mem_iff,Ep];exact hw)⟩
    ·have h1:=dS.length_eq
     have h2:=Cb (Kc L aa ab m) []
     have h3:=QJ wf bH
     rw[ja_]at h1
     rw[qn_]at h2
     lia
    ·rw[dS.mem_iff,Ep]at hw
     have:=Oe wf hw
     exact⟨this.1,by lia⟩
  clear jy dS hsrt1 hsrt2 hos1 hos2 hos16 rW hDn1 hDn2 hD1 lu rV hhr4 hhr5
  refine⟨by lia,fun p hp=>?_⟩
  have sp:=Same.new hp (o:=.lst [V.ref D1,V.ref D2])
  have ep:upd H6 p (.lst [V.ref D1,V.ref D2]) p=some (.lst [V.ref D1,V.ref D2]):=Ab
  generalize upd H6 p (.lst [V.ref D1,V.ref D2])=H7 at sp ep ⊢
  refine⟨⟨_,SqL.of ep⟩,?_⟩
  obtain⟨Pv,aq⟩:∃Pv:Nat->St->Hp->Prop,∀i af H',Pv i af H'↔(Same H7 H'/\∃(o6 o7:Option V),af=[some (.ref a),some (.ref h),some (.int m),some (.ref hr),some (.bl d),o,o6,o7]):=⟨_,fun _ _ _=>qq_⟩
  refine forL (xs:=[V.ref D1,V.ref D2]) Pv ((aq _ _ _).mpr ⟨Same.refl _,none,none,rfl⟩) (fun i af H' _ h'=>SqL.of (((aq _ _ _).mp h').1 _ _ ep)) (fun i x af H' hx h'=>?_) (fun af H' h'=>?_)
  ·obtain⟨s7,o6,o7,rfl⟩:=(aq _ _ _).mp h'
   obtain⟨D,rfl,fo⟩:∃D,x=V.ref D/\(D=D1\/D=D2):=by
    match i,hx with
    |0,hx=>cases hx;exact⟨D1,rfl,.inl rfl⟩
    |1,hx=>cases hx;exact⟨D2,rfl,.inr rfl⟩
    |i+2,hx=>simp at hx
   obtain⟨os,hD,jR,hosl,n9,aB⟩:=both D fo
   have kD:=sp.trans s7
   generalize hws:os.map (·.2)=ws at jR n9 aB
   nofun
   refine⟨h,D,L,aa,ab,_,ws,rfl,hh6.mono kD,wf,SqL.of (kD _ _ hD),jR.mono kD,fun w hw=>by have:=(n9 w hw).2;lia,by simp only[aO.wv,ja_];lia,fun _ H8 D3 ys s8 iN hTr=>?_,fun hf=>?_⟩
   ·have s9:=s8.newT iN (o:=.lst ys)
    have eD:upd H8 D3 (.lst ys) D3=some (.lst ys):=Ab
    have hTr9:=hTr.mono (Same.new iN (o:=.lst ys))
    generalize upd H8 D3 (.lst ys)=H9 at s9 eD hTr9 ⊢
    have htW:∀tr∈ws.map (Eu aa ab),isW L tr.1=true:=fun tr bC=>by
     obtain⟨w,hw,rfl⟩:=jv_.mp bC
     exact (n9 w hw).1
    have htF:¬ ∃tr∈ws.map (Eu aa ab),isW L tr.1=false:=fun ⟨tr,bC,hf⟩=>by rw[htW tr bC]at hf;cases hf
    refine⟨hr,D3,L,mr,wr,ys,_,rfl,(hhr6.mono kD).mono s9,iQ,SqL.of eD,hTr9,fun _ pq iq=>?_,fun hf=>absurd hf htF⟩
    have hpass:(ws.map (Eu aa ab)).all (fun tr => !E6 mr wr tr)=d:=by
     rw[qy_,hd,qG_]
     constructor
     ·intro hc
      refine aB fun w hw=>?_
      have:=hc (Eu aa ab w) (q9_ hw)
      have hf:E6 mr wr (Eu aa ab w)=false:=by simpa using this
      have:=xB_ hf
      exact (j2_ fun z=>this (fun e=>z e.symm))
     ·intro e9 tr bC
      obtain⟨w,hw,rfl⟩:=jv_.mp bC
      have e:=e9 w (n9 w hw).1
      have:E6 mr wr (Eu aa ab w)=false:=qc_ fun z=>z e.symm
      rw[this];rfl
    rw[hpass]
    refine⟨_,_,.bl _,Vp,_,Ra,?_⟩
    rw[if_neg (by decide)]
    refine⟨rfl,?_⟩
    rw[if_neg (by simp)]
    exact (aq _ _ _).mpr ⟨(s7.trans s9).trans iq,_,_,rfl⟩
   ·obtain⟨w,hw,hf⟩:=hf
    rw[(n9 w hw).1]at hf
    cases hf
  ·obtain⟨s7,o6,o7,rfl⟩:=(aq _ _ _).mp h'
   nofun
   exact k _
end
def all_mk {l:tT}{w:World}{K:α3}{h:Heap}{mg:Str->α5}{fa K6 CV HR Jc Qx Dv DD Gf K9 HW Jb BK HY Gy QA Mf EJ B8 FU B9 El QP Tl Im E7 No BH Cr Em E4 Eo Ex E9 Es E8 DN E5 Ik Ez EA Ws:Addr}(X:K.In h)(G:h.Ns mainGlobals mg)(hfa:mg "law"=some (.ref fa))
  {Ja CB Gx HX Na CZ C0 Fm Jd Gh HS BG Gi FP Nd Ka B3 E3 B4 Dz Nn QQ GC Ev Lo BB B5 DL En DC DO Ey DM Ew De Et GA DP DQ Tm:α6}
  {Mi Mj:Option Addr} {Mk:Array (α5)} {Ml Mm Mn Mo Mp:Value}
  (j_is_word:HF K "is_word" Fz K6 Ja)
  (j_check_word:HF K "check_word" BM CV CB)
  (j_next_word:HF K "next_word" Dq HR Gx)
  (j_words_to:HF K "words_to" EH Jc HX)
  (j_trail:HF K "trail" JV Qx Na)
  (j_room_behind:HF K "room_behind" BV Dv CZ)
  (j_mark_behind:HF K "mark_behind" BW DD C0)
  (j_words_in:HF K "words_in" C6 Gf Fm)
  (j_ways_in:HF K "ways_in" FA K9 Jd)
  (j_reached:HF K "reached" Ee HW Gh)
  (j_numbered:HF K "numbered" EI Jb HS)
  (j_words_and_classes:HF K "words_and_classes" A4 BK BG)
  (j_tellers:HF K "tellers" Ef HY Gi)
  (j_classes_of:HF K "classes_of" CS Gy FP)
  (j_homes:HF K "homes" JX QA Nd)
  (j_least:HF K "least" HJ Mf Ka)
  (a_j0:HA K "in_order" EJ)
  {aL:Addr}
  (l_j0:HL K "in_order" Cd EJ Ml Mi Mm Mn Mo Mj (.ref aL) Mp Mk)
  {aM:Addr} {oC_in_order:Value} {dC_in_order:Option Addr} {sC_in_order:Array (α5)} {vC_in_order:Array Value} (lc_in_order:K.lookup aL=some ⟨oC_in_order,dC_in_order,.fields vC_in_order,sC_in_order⟩) (hx_in_order:vC_in_order[11]?=some (.ref aM)) (kt_in_order:K.lookup aM=none) (ch_in_order:xp K aL aM=true) (tb_in_order:h.get? aM=some (sr #[]))
  (c_j0:codeIn K (.ref aL) "in_order"=true)
  (k_j0:keepIn K (.ref EJ)=true)
  (j_marks_from_each_room:HF K "marks_from_each_room" A6 B8 B3)
  (j_own_tellers:HF K "own_tellers" CA FU E3)
  (j_tellers_of_each_room:HF K "tellers_of_each_room" A7 B9 B4)
  (j_words_with:HF K "words_with" Co El Dz)
  (j_suite:HF K "suite" JY QP Nn)
  (j_slim:HF K "slim" M7 Tl QQ)
  (j_trials_of:HF K "trials_of" Ds Im GC)
  (j_first_failed:HF K "first_failed" Cg E7 Ev)
  (j_passes:HF K "passes" Ha No Lo)
  (j__law_cell_at:HF K "_law_cell_at" Bh BH BB)
  (j__law_mixed:HF K "_law_mixed" Bz Cr B5)
  (j__law_marks_by:HF K "_law_marks_by" BY Em DL)
  (j__law_ways_by:HF K "_law_ways_by" Ci E4 En)
  (j__law_blown:HF K "_law_blown" Cp Eo DC)
  (j__law_house_by:HF K "_law_house_by" BZ Ex DO)
  (j__law_more_by:HF K "_law_more_by" Cj E9 Ey)
  (j__law_order_of:HF K "_law_order_of" B0 Es DM)
  (j__law_spoiled:HF K "_law_spoiled" Ck E8 Ew)
  (j__law_turned_by:HF K "_law_turned_by" BI DN De)
  (j__law_classes:HF K "_law_classes" Cl E5 Et)
  (j__law_base:HF K "_law_base" Du Ik GA)
  (j__law_rival_by:HF K "_law_rival_by" B1 Ez DP)
  (j__law_pairs_of:HF K "_law_pairs_of" B2 EA DQ)
  (j_law:HF K "law" Uz Ws Tm)
  (z_all:nsIn K mainGlobals "all"=some none)
  (z_bool:nsIn K mainGlobals "bool"=some none)
  (z_enumerate:nsIn K mainGlobals "enumerate"=some none)
  (z_isinstance:nsIn K mainGlobals "isinstance"=some none)
  (z_len:nsIn K mainGlobals "len"=some none)
  (z_list:nsIn K mainGlobals "list"=some none)
  (z_max:nsIn K mainGlobals "max"=some none)
  (z_min:nsIn K mainGlobals "min"=some none)
  (z_range:nsIn K mainGlobals "range"=some none)
  (z_sorted:nsIn K mainGlobals "sorted"=some none)
  (z_tuple:nsIn K mainGlobals "tuple"=some none)
  (z_zip:nsIn K mainGlobals "zip"=some none)
  : ∃(fd:α6) (c T:Addr),sq K "in_order"=some (c,T)/\K.lookup T=none/\si h c T/\h.get? T=some (sr #[])/\(∀(s:Shared) (v:Value),BindsTo s fd ⟨[v],[]⟩ [("script",v)])/\∀base:Heap,K.In base->base.Ns mainGlobals mg->si base c T->BmOk mg base->FnOk l.prog w K mg base CX0 8 fa fd ["script"] (Sd K):=by
 have e:=hfa.symm.trans (ui X G j_law.a)
 cases e
 have T:Txt mg:=⟨qw_ X G z_all,qw_ X G z_bool,qw_ X G z_enumerate,qw_ X G z_isinstance,qw_ X G z_len,qw_ X G z_list,qw_ X G z_max,qw_ X G z_min,qw_ X G z_range,qw_ X G z_sorted,qw_ X G z_tuple,qw_ X G z_zip⟩
 have Jj:=fun_mk (st:=Cd) l_j0 c_j0 k_j0
 have Of:=Jj.binds (ps:=["words"]) fun _ _ _ _ _ _ us hl=>(by obtain⟨y0,rfl⟩:=len1 hl;rfl)
 have Og:=ui X G a_j0
 have ti_in_order:=RY a_j0 l_j0 rfl lc_in_order hx_in_order
 refine⟨Tm,aL,aM,ti_in_order,kt_in_order,wN X ch_in_order,tb_in_order,j_law.b fun _ _ _ _ _ _ _=>rfl,fun base _ _ hC_ hB_=>?_⟩
 have FL_in_order:=Uy (st:=Cd) ti_in_order l_j0 c_j0 hC_ hB_
 have Z_:Wh l.prog w K mg base:=⟨fun _ _ a=>ui X G a⟩
 have kl:=j_is_word.c Z_ (N7 j_is_word.F T )
 have du:=j_check_word.c Z_ (J3 j_check_word.F T kl)
 have km:=j_next_word.c Z_ (K7 j_next_word.F T du)
 have kQ:=j_words_to.c Z_ (L6 j_words_to.F T km)
 have g8:=j_trail.c Z_ (R0 j_trail.F T du)
 have fQ:=j_room_behind.c Z_ (IC j_room_behind.F T g8)
 have gd:=j_mark_behind.c Z_ (ID j_mark_behind.F T fQ)
 have fS:=j_words_in.c Z_ (Ma j_words_in.F T )
 have kR:=j_ways_in.c Z_ (N8 j_ways_in.F T fS)
 have fW:=j_reached.c Z_ (N9 j_reached.F T fS)
 have ji:=j_numbered.c Z_ (Mb j_numbered.F T )
 have fV:=j_words_and_classes.c Z_ (ES j_words_and_classes.F T ji)
 have fY:=j_tellers.c Z_ (Oa j_tellers.F T fV)
 have kG:=j_classes_of.c Z_ (J6 j_classes_of.F T fV)
 have ie:=j_homes.c Z_ (R5 j_homes.F T fW kG)
 have fZ:=j_least.c Z_ (R6 j_least.F T fW ie)
 have Oh:=Mc (P:=l.prog) (w:=w) (base:=base) FL_in_order T
 have kU:=Cal.mk (x := "in_order") (st:=Cd) Oh Jj Of Og
 have kY:=j_marks_from_each_room.c Z_ (DA j_marks_from_each_room.F T )
 have kZ:=j_own_tellers.c Z_ (IE j_own_tellers.F T )
 have k6:=j_tellers_of_each_room.c Z_ (DB j_tellers_of_each_room.F T fY kY kZ)
 have f6:=j_words_with.c Z_ (J9 j_words_with.F T kQ fQ kR kU)
 have iu:=j_suite.c Z_ (R7 j_suite.F T fY fZ f6)
 have iw:=j_slim.c Z_ (UC j_slim.F T fZ k6 f6)
 have lQ:=j_trials_of.c Z_ (Ll j_trials_of.F T gd)
 have lL:=j_first_failed.c Z_ (Ij j_first_failed.F T du gd)
 have lR:=j_passes.c Z_ (QN j_passes.F T lL)
 have bA:=j__law_cell_at.c Z_ (Ia j__law_cell_at.F T )
 have bG:=j__law_mixed.c Z_ (Kd j__law_mixed.F T )
 have ll:=j__law_marks_by.c Z_ (GM j__law_marks_by.F T bG)
 have lq:=j__law_ways_by.c Z_ (Ib j__law_ways_by.F T bA bG)
 have f7:=j__law_blown.c Z_ (Kf j__law_blown.F T bG)
 have lS:=j__law_house_by.c Z_ (GN j__law_house_by.F T bA ll lq f7)
 have lT:=j__law_more_by.c Z_ (Id j__law_more_by.F T bA)
 have lG:=j__law_order_of.c Z_ (GO j__law_order_of.F T )
 have lM:=j__law_spoiled.c Z_ (Ii j__law_spoiled.F T )
 have lN:=j__law_turned_by.c Z_ (Gj j__law_turned_by.F T )
 have lH:=j__law_classes.c Z_ (Ih j__law_classes.F T )
 have lO:=j__law_base.c Z_ (Lk j__law_base.F T lG lH)
 have lU:=j__law_rival_by.c Z_ (GP j__law_rival_by.F T bA bG f7 lM lN lO)
 have lV:=j__law_pairs_of.c Z_ (GQ j__law_pairs_of.F T )
 exact V9 j_law.F T iu iw lQ lR lS lT lU lV
def walk {l:tT}{q:Program}{cV:List Str}{XP:(Str->α5)->Heap->Prop}{YP:World->Heap->Prop}{d:DefRec}{K:Params->α3}(hn:l.most=some 63)(mY:d.params.defaults=[])
  (hY:∀(w:World) (h:Heap),YP w h->(K w.params).In h)
  (F:∀(w:World) (mg:Str->α5) (fa:Addr) (h:Heap),YP w h->(K w.params).In h->h.Ns mainGlobals mg->mg d.name=some (.ref fa) ->
   ∃(fd:α6) (c T:Addr),sq (K w.params) "in_order"=some (c,T)/\(K w.params).lookup T=none/\si h c T/\h.get? T=some (sr #[])/\(∀(s:Shared) (u:Value),BindsTo s fd ⟨[u],[]⟩ [("script",u)])/\∀base:Heap,(K w.params).In base->base.Ns mainGlobals mg->si base c T->BmOk mg base->FnOk l.prog w (K w.params) mg base CX0 8 fa fd ["script"] (Sd (K w.params))):
  vQ q cV XP YP l.row.toRowW d [] (fun f vs=>vc f vs):=
 L2.walk_ofT (xT := "in_order") (n:=63) (k:=8) (x := "script") (CX:=fun _=>CX0) (sp:=fun w=>Sd (K w.params)) hn (by decide) mY ⟨rfl,by decide,by decide⟩ hY F (fun _ _ a _ _ ns hl ti hT hS=>⟨a,ns,rfl,hS,hl,by rw[Qr ti];exact hT,fun _=>rfl⟩) fun _ _ _ _ _ z=>z
end Mine
namespace PySem.W.Fast
def tw17937879513927114740:=0
def tw13688305929920856003:=0
def tw12042906141869751132:=0
def tw9384339272434323410:=0
def tw10252689145398617840:=0
def tw15295872872680221718:=0
def tw13681678508979539553:=0
def tw15859441684707794388:=0
def tw859007965791440959:=0
def tw903146191653768815:=0
def tw4028075938261455645:=0
def tw17950677419396191041:=0
def tw2327409567696664933:=0
def tw9639836124121059388:=0
def tw5700649006269295818:=0
def tw2111162124017904815:=0
def tw16011073008783391403:=0
def tw9576895825749265476:=0
def tw703055002467142437:=0
def tw10911066479763725901:=0
def tw1857459404817482272:=0
def tw3476434016252362477:=0
def tw18215213939852659075:=0
def tw3346772160081243594:=0
def tw3810042380053468502:=0
def tw7573776613063104706:=0
def tw9612314593655642259:=0
def tw768323079226913876:=0
def tw1015716225315984469:=0
def tw2204274290866500618:=0
def tw16593220622954954594:=0
def tw3506126258375788715:=0
def tw12492143125872031751:=0
def tw8640767922306730273:=0
def tw8331082006225854223:=0
def tw1953057081374945055:=0
def tw8902782110223672725:=0
def tw7173321055356008760:=0
def tw4284300934425936779:=0
def tw2394972015093432636:=0
def tw10094195782996594676:=0
def tw15006239275938177021:=0
def tw17804753136028558786:=0
def tw3798527255503491336:=0
def tw15015157080101087418:=0
def tw11082966509722415580:=0
def tw433071606895748968:=0
def tw5992242208094323788:=0
def tw6741581087605734833:=0
def tw16225939161461178426:=0
def tw16023164100838549784:=0
def tw914215135336144877:=0
def tw3108857901432470466:=0
def tw11452003288549916642:=0
def tw10770152289749741178:=0
def tw16189493909045487658:=0
def tw15148713224757825067:=0
def tw10904084663529869686:=0
def tw2431125871856612374:=0
def tw9541112806724696171:=0
def tw11427734745511982355:=0
def tw16052597261193787161:=0
def tw10658426263070241121:=0
def tw8723830797093682959:=0
def tw556465339600004836:=0
def tw5560808546927486581:=0
def tw11714362426289684089:=0
def tw12567581093800292124:=0
def tw8746659471928035612:=0
def tw5765500513520695160:=0
def tw16158730804712780605:=0
def tw12458080493967259901:=0
def tw15321276448795431739:=0
def tw11033546359428392284:=0
def tw10234255352330797355:=0
def tw12464296306310564266:=0
def tw5598592774649083230:=0
def tw792989706496073177:=0
def tw5116786556192064342:=0
def tw1015996917941412883:=0
def tw16576233832308608345:=0
def tw16478655242073379663:=0
def tw14924442857951351670:=0
def tw1472281793880588887:=0
def tw12594989342681594326:=0
def tw9952167267000087221:=0
def tw9500062416273996965:=0
def tw5025545949322174959:=0
def tw12326761225585422115:=0
def tw4215685396365641943:=0
def tw10406823964626813424:=0
def tw18014164194705799171:=0
def tw1609843950408497861:=0
def tw14545474334148325095:=0
def tw6921803551661603804:=0
def tw17768149959794663839:=0
def tw16556221695805778401:=0
def tw17671518404028501508:=0
def tw2688319328180531657:=0
def tw3022918780943324002:=0
def tw14805450842911212834:=0
def tw2314034373452151684:=0
def tw8282219357412184253:=0
def tw2558894651611728104:=0
def tw4899681677037324747:=0
def tw4731761616198130691:=0
def tw12957700313736752441:=0
def tw15553724574910378181:=0
def tw566281555944521992:=0
def tw13412659339156381682:=0
def tw14289885444500089369:=0
def tw14934543468660248898:=0
def tw16460580164708379095:=0
def tw2690027860310602986:=0
def tw1388182620713235238:=0
def tw7701622292833361183:=0
def tw12032889091803065758:=0
def tw18047838292312702448:=0
def tw9752757797414944705:=0
def tw12890832864275427095:=0
def tw4220885724227301047:=0
def tw8489528816904941235:=0
def tw9726432869657030086:=0
def tw1439060406021514970:=0
def tw9986757792475793528:=0
def tw11196986498945685185:=0
def tw4594739653909320563:=0
def tw3966493733578644642:=0
def tw6060444676534517290:=0
def tw6835534893527520884:=0
def tw179826164046074795:=0
def tw1801939410341560424:=0
def tw15728326119483897231:=0
def tw13299213950422230836:=0
def tw10578321010068791570:=0
def tw16355718143860149384:=0
def tw10512632588957897572:=0
def tw3913596259375054352:=0
def tw12234258189329078882:=0
def tw3761521390624346125:=0
def tw3181111093587970824:=0
def tw17813237508762262825:=0
def tw727551627684631873:=0
def tw6805076879066440516:=0
def tw11971929634052855499:=0
def tw9583641876180399338:=0
def tw7634093328422214641:=0
def tw16489937370767204433:=0
def tw7173395866500339419:=0
def tw6324900264562573696:=0
def tw16030040903797461207:=0
def tw14969152455330446658:=0
def tw16739938694604782096:=0
def tw2555627841922006801:=0
def tw9775273445388975355:=0
def tw11956522235919425236:=0
def tw17065411793453548527:=0
def tw16458525499106069955:=0
def tw2944370971724232848:=0
def tw16936621034040915185:=0
def tw9068160007997738793:=0
def tw4570336706335636263:=0
def tw3204901267572432332:=0
def tw16643931373929043605:=0
def tw12191422027157337982:=0
def tw4732928072584995374:=0
def tw8402862415296617045:=0
def tw18012627136526098659:=0
def tw2024813993555171547:=0
def tw8171190840665518626:=0
def tw5579835820439426358:=0
def tw11378474222310697838:=0
def tw14437294193857536777:=0
def tw12251622909271944463:=0
def tw17938451022650527041:=0
def tw12615005382721863788:=0
def tw16933843363876625885:=0
def tw14723463821932498114:=0
def tw2271311538006727390:=0
def tw16533832185001519521:=0
def tw3149361900983904864:=0
def tw6421943919795127070:=0
def tw12361475132334991843:=0
def tw14858256857000662335:=0
def tw6214418018451333255:=0
def tw5535724769453941175:=0
def tw6742496523944618339:=0
def tw3521606705326929116:=0
def tw9535307581528258647:=0
def tw17728203515770508763:=0
def tw18028377510434787143:=0
def tw15306702939104271810:=0
def tw10425369849326948150:=0
def tw4847621750540979900:=0
def tw14942975014082942099:=0
def tw10406043130345610899:=0
def tw3385802906148740489:=0
def tw2024321562251991095:=0
def tw2120082884996924528:=0
def tw6793089267811575831:=0
def tw12632188894514471107:=0
def tw17617748146526157721:=0
def tw91252672339650458:=0
def tw15760063779186741728:=0
def tw5399416079064070017:=0
def tw14220799281146225120:=0
def tw11998743119312292593:=0
def tw10119317001372958339:=0
def tw5330889126288506507:=0
def tw15051860671747634407:=0
def tw6379278782962700181:=0
def tw12679032339002767066:=0
def tw18230341955839017667:=0
def tw14806207054310499698:=0
def tw14784619309066600264:=0
def tw5726169919502423179:=0
def tw14983261543854606854:=0
def tw3893145016243042035:=0
def tw15493708147223670125:=0
def tw7742452906872031435:=0
def tw8418950957908849383:=0
def tw17713592112380127890:=0
def tw5480455483591254106:=0
def tw11376673729145988889:=0
def tw651150366217087308:=0
def tw1138655618412213585:=0
def tw3050011350812175324:=0
def tw5383627813961368052:=0
def tw13058876787563343035:=0
def tw8408833654188538012:=0
def tw6204244224299378414:=0
def tw3661330737428983458:=0
def tw7952264855366892118:=0
def tw15017826050417135281:=0
def tw13046872207127546778:=0
def tw17340652608519501376:=0
def tw5619616610763392167:=0
def tw4942266203669755482:=0
def tw13026844528514974098:=0
def tw3248577840470093115:=0
def tw17236756023279016347:=0
def tw7163730304341335172:=0
def tw12741780239295777465:=0
def tw8838651947413701741:=0
def tw14873381630846572940:=0
def tw3640234109978677078:=0
def tw4248190256429341328:=0
def tw6559892806914357623:=0
def tw16678845409680120220:=0
def tw179782284906031970:=0
def tw16659212217642793314:=0
def tw14704961575059126677:=0
def tw9854615229363130914:=0
def tw6935290056020863040:=0
def tw10414147357333759847:=0
def tw10996413391407501333:=0
def tw12383889305642477033:=0
def tw10849551720819878273:=0
def tw13799773977299539137:=0
def tw18401183958337493190:=0
def tw5975859595412794781:=0
def tw5185735050512548176:=0
def tw7431578957946768165:=0
def tw648487033402546204:=0
def tw11741776271155143463:=0
def tw17492516130839969286:=0
def tw2220546660018261753:=0
def tw16002411567544527965:=0
def tw750298270995661349:=0
def tw9618451606069636683:=0
def tw10801543556186596468:=0
def tw1166202062995352408:=0
def tw8236064131473561235:=0
def tw2804109495666279720:=0
def tw17210424527518355275:=0
def tw3520191865798135367:=0
def tw4664888729200346073:=0
def tw8055925019378615948:=0
def tw8085231207301453397:=0
def tw12099813070867993554:=0
def tw7253276819318687680:=0
def tw11651797870471858981:=0
def tw9994280459728324038:=0
def tw11007284991128135756:=0
def tw12434085662182341946:=0
def tw8518544407043566976:=0
def tw9881139171515903932:=0
def tw2311782786505711968:=0
def tw8426730274968449162:=0
def tw4495016415797087795:=0
def tw3830062083449664903:=0
def tw14775873424580935203:=0
def tw18190958317141545229:=0
def tw13876537162364255009:=0
def tw12305988651775648416:=0
def tw11928136834271828723:=0
def tw8459477005136393112:=0
def tw2476860493337097260:=0
def tw9929396174372318431:=0
def tw15200206870339083576:=0
def tw17612994761683720159:=0
def tw4615930563081285014:=0
def tw856576264281958886:=0
def tw713800118403687682:=0
def tw15045475105741731670:=0
def tw7180416457822683879:=0
def tw13719514942922306924:=0
def tw5952807785970749034:=0
def tw6837677536897790750:=0
def tw15475396458271389953:=0
def tw13267749060363043894:=0
def tw11388811001961267934:=0
end PySem.W.Fast
open PySem PySem.W PyProof.Rows
set_option maxRecDepth 100000 in
set_option maxHeartbeats 0 in
theorem PySem.Challenge.cw_guessroom_k28_whole_suites_decide_holds : PySem.Challenge.rw_guessroom_k28_whole_suites_decide.Holds := by
  w_on; o_law; k_head; (case hw => w_witness2)
  k_fill
  refine Mine.walk (l := PySem.Challenge.rw_guessroom_k28_whole_suites_decide) rfl rfl (fun w h Y => PySem.W.km_in_of Y) ?F
  case F =>
    intro w mg fa h Y KX G hmg
    refine' Mine.all_mk KX G hmg ?j_is_word ?j_check_word ?j_next_word ?j_words_to ?j_trail ?j_room_behind ?j_mark_behind ?j_words_in ?j_ways_in ?j_reached ?j_numbered ?j_words_and_classes ?j_tellers ?j_classes_of ?j_homes ?j_least ?a_j0 ?l_j0 ?lc_in_order ?hx_in_order ?kt_in_order ?ch_in_order ?tb_in_order ?c_j0 ?k_j0 ?j_marks_from_each_room ?j_own_tellers ?j_tellers_of_each_room ?j_words_with ?j_suite ?j_slim ?j_trials_of ?j_first_failed ?j_passes ?j__law_cell_at ?j__law_mixed ?j__law_marks_by ?j__law_ways_by ?j__law_blown ?j__law_house_by ?j__law_more_by ?j__law_order_of ?j__law_spoiled ?j__law_turned_by ?j__law_classes ?j__law_base ?j__law_rival_by ?j__law_pairs_of ?j_law ?z_all ?z_bool ?z_enumerate ?z_isinstance ?z_len ?z_list ?z_max ?z_min ?z_range ?z_sorted ?z_tuple ?z_zip
    all_goals try unfold L2.HA
    all_goals try unfold L2.HL
    (case j_is_word|j_check_word|j_next_word|j_words_to|j_trail|j_room_behind|j_mark_behind|j_words_in|j_ways_in|j_reached|j_numbered|j_words_and_classes|j_tellers|j_classes_of|j_homes|j_least|j_marks_from_each_room|j_own_tellers|j_tellers_of_each_room|j_words_with|j_suite|j_slim|j_trials_of|j_first_failed|j_passes|j__law_cell_at|j__law_mixed|j__law_marks_by|j__law_ways_by|j__law_blown => constructor; k_is; apply L2.fun_mk <;> k_is)
    (case j__law_house_by|j__law_more_by|j__law_order_of|j__law_spoiled|j__law_turned_by|j__law_classes|j__law_base|j__law_rival_by|j__law_pairs_of|j_law => constructor; k_is; apply L2.fun_mk <;> k_is)
    (case a_j0|l_j0|lc_in_order|c_j0|k_j0|z_all|z_bool|z_enumerate|z_isinstance|z_len|z_list|z_max|z_min|z_range|z_sorted|z_tuple|z_zip=>k_is)
    (case hx_in_order => exact rfl)
    (case kt_in_order => first | k_is | kernel_rfl | exact rfl)
    (case ch_in_order => first | k_is | kernel_rfl)
    (case tb_in_order => exact PySem.W.km_tabs_of Y _ (.head _))
