import PyProof.Rows.All
import Wide.All
import OpenK.AllK
import Wide.FinOn
import Lean
import PyProof.EqAt
import PyProof.EqKinds
import PyProof.TupleCall
import KE.KRevIter
import PyProof.ListRange
import PyProof.TupleOfGen
import PyProof.Draws
import PyProof.EnumMake
import PyProof.EnumFor
import PyProof.NeKinds
import KE.KDictList
import PyProof.Rows.TupDisplay
import PyProof.ZipIter
import PyProof.Rows.ZipGen
import KE.KItemsList
import PyProof.Rows.SumAny
import PyProof.StrWalks
import PyProof.StrCalls
import PyProof.StrCalls3
import PyProof.StrLawsFirst
import PyProof.StrLawsIn
import PyProof.SliceStr2
import PyProof.StrBlockI
import PyProof.Rows.StrWeight2
import PyProof.ListNew
import PyProof.DictRoadsH
import PyProof.WalkInts
import PyProof.Rows.MinMaxN
import KE.KDictLaws
import PyProof.StrCalls2
import PyProof.StrLawsChain
import KE.KIntText
import KE.KxText
import KE.KMinKey
import KE.KPairComp
import PyProof.MaxThree
import PyProof.DictValues
import OpenK.KCls
import PyProof.Rows.SortShellK
import KE.KSortTup
import KE.KLam
import KE.KNestM
import PyProof.AttrMissHeap
import KE.KDictOf
import PyProof.TupleKey
import PyProof.SetKind
import PyProof.IsRules
import PyProof.Rows.SetFrom
import PyProof.Rows.Range3
import PySem.Challenge.RW_guessroom_k74_sum_papers
set_option compiler.extract_closed false
local macro_rules | `(s!$_) => `(by lia)
namespace Al
abbrev jX_:=@decide_eq_false
abbrev jZ_:=@decide_eq_true
abbrev j5_:=@decide_eq_true_eq
abbrev qU_:=@of_decide_eq_true
abbrev xd_:=@congrArg
abbrev x6_:=@if_false
abbrev zQ_:=@beq_eq_false_iff_ne
abbrev we_:=@beq_iff_eq
abbrev wi_:=@if_true
noncomputable abbrev α0:=List (List (List Int))
noncomputable abbrev α1:=List (List Int)
noncomputable abbrev α2:=List Int
noncomputable abbrev α5:=Option PySem.Value
noncomputable abbrev α7:=List (PySem.Addr×PySem.Obj)
abbrev jC_:=@Option.some.inj
abbrev jN_:=@PySem.PassesOwn.never
abbrev j8_:=@Iff.rfl
abbrev qv_:=@PySem.Around.under_plainId
abbrev q3_:=@Ne.symm
abbrev q4_:=@PySem.Heap.SameBut.update
abbrev xp_:=@Classical.byContradiction
abbrev zg_:=@PySem.AutoSeq1.wpAny_loadPart'
abbrev zi_:=@PySem.Paired.length
abbrev zD_:=@List.Pairwise.and_mem
end Al
open Al
open List renaming length_map->ja_,getElem?_eq_getElem->jb_,getD_eq_getElem?_getD->jc_,getElem?_eq_some_iff->jd_,getElem?_map->jf_,map_append->jg_,length_append->ji_,mem_of_getElem?->jj_,size_toArray->jl_,getElem?_append_left->jm_,mem_singleton->jn_,mem_map->jo_,getElem?_append_right->jp_,take_length->jr_,getElem?_eq_none->jt_,getElem_mem->jy_,length_take->jz_,mem_cons_of_mem->jA_,take_add_one->jB_,map_congr_left->jD_,mem_cons->jE_,length_singleton->jG_,mem_append->jH_,length_range->jI_,map_map->jJ_,mem_cons_self->jL_,getElem?_range->jO_,mem_append_left->jQ_,mem_append_right->jV_,length_eq_zero_iff->jW_,foldl_append->j0_,ext_getElem?->j2_,mem_range->j3_,range_succ->j4_,map_cons->j6_,mem_iff_getElem?->j7_,take_append_of_le_length->qe_,lookup_cons->qk_,take_of_length_le->qm_,length_cons->qp_,dropLast_concat_getLast->qt_,length_drop->qw_,take_succ_eq_append_getElem->qE_,ext_getElem->qI_,all_eq_true->qP_,replicate_succ->qR_,getElem_of_mem->qS_,mem_map_of_mem->qT_,getElem?_replicate->qY_,any_eq_true->q1_,getElem?_set_self->q2_,length_replicate->q6_,getElem?_take->xa_,map_singleton->xb_,pairwise_singleton->xe_,find?_cons->xh_,not_mem_nil->xi_,mem_flatMap->xj_,take_zero->xq_,getElem?_set_ne->xr_,pairwise_append->xs_,append_nil->xu_,length_nil->xv_,nil_append->xw_,eraseIdx_eq_take_drop_succ->xA_,length_flatMap->xE_,getElem_map->xH_,sum_replicate_nat->xJ_,nodup_cons->xM_,foldl_cons->xN_,getElem?_zipWith->xR_,take_append_drop->xU_,flatten_cons->xW_,nodup_append->xX_,pairwise_map->xY_,drop_zero->x1_,mem_of_find?_eq_some->x4_,pairwise_iff_getElem->x5_,flatMap_append->zb_,map_nil->ze_,all_map->zf_,map_inj_right->zn_,flatten_replicate_singleton->zp_,take_eq_take_iff->zB_,eq_replicate_iff->zC_,length_filter_le->zF_,eraseIdx_sublist->zG_,mem_reverse->zI_,reverse_reverse->zN_,any_cons->zO_,map_take->zP_,mem_filter->zR_,filterMap_cons->zS_,length_set->zT_,length_reverse->zW_,length_zipWith->z0_,map_const'->z2_,mem_filterMap->z3_,find?_eq_none->z5_,mem_replicate->z7_,reverse_cons->wa_,append_assoc->wb_,replicate->oU,range->oW,zipWith->pk,reverse->pA,getElem?_take_of_lt->pF,getElem_inj->pH,drop_length->pK,drop_of_length_le->pQ,zipWith_cons_cons->pR,getElem?_eraseIdx->pS,of_mem_zip->pV,find?_some->pZ,take_left'->p0,map->qg,map_id->qh,mem_of_mem_take->qi,length_eraseIdx->qj,foldl->qB,filter_append->qE,getElem_range->qF,getElem?_drop->qG,any_eq_false->qH,any_map->qL,flatMap_cons->qS,cons_append->rm,length->rn,forIn_cons->rB,nodup_nil->rF,forIn_nil->rG,take_succ->rJ,all_cons->sx,take_nil->sQ,map_drop->sR,sum_cons->sS
open PySem renaming wpAny_bind->je_,wpAny_pure->jq_,boot_len->jF_,wpAny_callSpecial?_slot->qg_,wpAny_call_entry->qj_,wpAny_holding->qC_,mem_of_lookup->qF_,wpAny_loadPart'->qH_,wpAny_newObj_type->qK_,codeAny_builtin->qN_,builtinLookup_eq_fast->qW_,plainId_quiet->q5_,wpAny_mono->q9_,wpAny_typeNameOfWhole_keyiter->xc_,wpAny_truthy_bool->xf_,wpAny_pyIter_tuple->xk_,wpAny_Call_Name_kw->xl_,wpAny_attempt->xm_,wpAny_setField_rec->xn_,wpAny_passesOwn->xt_,wpAny_typeNameOf_keyiter->xx_,typeLookup_type->xz_,wpAny_of_eq->xD_,wpAny_isInstance->xF_,tupleKind_room_in1->xK_,wpAny_execs_nil->xL_,wpAny_specialOf->xO_,wpAny_notOrdered_dict->xP_,wpAny_pyIter_list->xV_,isSubtype_type->x2_,wpAny_typeOf->zd_,wpAny_field->zu_,wpAny_pyIter_enum->zv_,wpAny_dictEntries->zw_,wpAny_isOneOf_keyiter->zy_,codeAny_call_builtin->zK_,wpAny_pyIter_keyiter->zM_,wpAny_updateSeq->zX_,wpAny_ite_split->zY_,call_meets->wc_,FuncData->α6,evalArgs_none->qr,list_append->qK,seqSlot_of->qX,call->rE,Within->sU
open Nat renaming le_refl->jh_,lt_of_lt_of_le->jK_,ne_of_lt->jP_,le_trans->jY_,lt_irrefl->j9_,sub_self->qq_,zero_le->qs_,mul_le_mul->qJ_,lt_of_sub_eq_succ->q7_,lt_succ_of_lt->xg_,le_of_succ_le->xy_,ne_of_gt->xB_,le_of_not_lt->x7_,le_add_right->x8_,sub_zero->zA_,min_eq_left->z1_,lt_or_ge->z4_,le_of_lt->pL,succ_mul->pM,min_self->pO,dvd_of_mod_eq_zero->pP,div_add_mod->pX,gcd->qm,mul_right_comm->qD,mul_comm->qM,pow_succ->qO,zero_add->qP,succ_ne_self->qY,lt_succ_self->ra,not_lt_of_le->rb,lt_of_not_le->rf,mul_mod_left->rg,mod_eq_of_lt->rh,min_eq_right->rl,not_lt_zero->rD,le_of_eq->sY,le_total->tD,gcd_comm->tF,le_succ->tO,gcd_rec->tQ,mod_lt->tU,mod->tZ,beq->uu
open PySem.Heap renaming get?_push_of_some->jk_,lt_size->ju_,get?_push_size->jv_,get?_update_other->qB_,get?_update_self->qG_,size_push->qO_
open PySem.W renaming mg_of->js_,mg_none_of->j1_,kia_one->qy_,callWith_K->zj_,cellsFrom_some->zq_,kitx_list->z9_,Frag->α3,findIn->pB,methodObj->pE,instObj->pT,hideAll->pU,OpenLaw->pW,lookIn->qb,codeIn->qc,hideAll_get->qp,mroIn->qu,of_hideAll->qy,kitx_tuple->qA,specialIn->qI,kitx_dict->qJ,plainGet->qU,kdl_call->qZ,takesIn->rA,exm_one->rC,WalkO->sy,Looks->sG,excIn->sO,funFrames_hide->tj,kdl_hint_dict->tI,hideAll_size->tM,hideAll_none->tN,kitx_float->tR,codeRec_of->tS,ki_setBack->tT,hasDictIn->tV,plainOver->tW,kitx_none->tX,kitx_bool->tY,eq_bytes->t8,ne_bytes->ub,kitx_int->uc,kitx_str->uf,kitx_own->ug,ki_setAt->ui,kcp_self->uj,InstAt->uo,KdlSrc->uq,clsIn->ur
open PyProof.Rows renaming boot_tuple->jw_,boot_list->qd_,slot_tuple_getitem->qi_,callWith_type1->ql_,boot_isinstance->qu_,boot_sum->xo_,boot_all->xS_,boot_dict->zt_,boot_int->p6,boot_max->p9,callWith_builtin1->qV,tuple_addW0->sH,boot_bool->tG,kmk_tree->tJ,boot_any->tL
open Bool renaming false_ne_true->jx_,and_eq_true->qo_,eq_iff_iff->qx_,false_eq_true->zm_,false_and->qa,true_and->qw
open Int renaming emod_lt_of_pos->jM_,emod_emod_of_dvd->jR_,emod_nonneg->jS_,emod_eq_emod_iff_emod_sub_eq_zero->jT_,toNat_natCast->jU_,emod_eq_of_lt->qa_,zero_add->qf_,dvd_refl->qn_,dvd_of_emod_eq_zero->qr_,mul_le_mul_of_nonneg_right->qz_,mul_emod->qL_,dvd_mul_of_dvd_right->qV_,emod_eq_zero_of_dvd->qZ_,eq_ofNat_of_zero_le->q0_,add_emod->q8_,le_of_lt->xC_,natCast_mul->xT_,toNat_of_nonneg->za_,mul_comm->zh_,mul_assoc->zo_,pow_succ->zz_,mul_ediv_add_emod->zE_,le_refl->zU_,add_mul->zV_,one_mul->zZ_,sub_emod->z6_,mul_nonneg->z8_,mul_one->wf_,mul_add->wg_,dvd_sub->wh_,gcd->pq,fdiv_eq_ediv_of_nonneg->pC,natCast_pow->pY,sub_mul->qd,le_of_dvd->qx,lt_trichotomy->qN,add_zero->qQ,sub_self->qR,mul_sub->rp,neg_mul->rz,dvd_trans->sI,gcd_comm->tq,sub_zero->tE,pow_mul->tP,toNat->um
open PySem.F renaming slot_list_append->qb_,type_list_append->qc_,plainAttrs_list->qh_,slot_dict_keyiterator_next->qX_,plain_max_loop->xG_,excBase_ValueError->xZ_,slot_dict_valueiterator_next->x3_,plain_extend_loop->x9_,args_tuple_add_2->zc_,entry_tuple_add->zk_,plainAttrs_dict->zl_,slot_tuple_add->zr_,slot_dict_get->zx_,slot_tuple_mul->zH_,args_object_init_2->zL_,slot_dict_values->pG,args_dict_get_2->pI,slot_dict_items->pJ,entry_dict_get->pN,args_dict_valueiterator_next_1->qe,entry_dict_valueiterator_next->qo,args_dict_values_iter_1->qT,entry_dict_values_iter->rj,slot_dict_values_iter->rq,args_dict_values_1->rH,args_dict_items_1->rV,entry_dict_values->rW,entry_dict_items->sJ,type_dict_values->sL,type_dict_items->sT,type_dict_get->tH
open Array renaming getElem?_eq_some_iff->qA_,length_toList->qQ_,getElem?_toList->xQ_,getElem?_eq_getElem->x0_,getElem?_eq_none_iff->pD,toList->sX
open Option renaming isSome_iff_exists->qD_,toList_some->qM_,map_eq_some_iff->zs_,isSome_map->wd_,isSome_some->qC,getD_none->qW
open PySem.Calls renaming callWith_builtin->xI_,evalArgs_plain->zJ_
open True renaming intro->oX
open Or renaming inl->oY,inr->ph
open Classical renaming propDecidable->oZ,choose_spec->tK,choose->uk
open ForInStep renaming yield->pb
open False renaming elim->pd
open Sum renaming inl->pj,inr->qk
open PySem.EqNone renaming eq_none_none->rK,eq_none_bool->rL,eq_bool_none->rM,ne_none_none->rP,ne_none_bool->rQ,ne_bool_none->rR,eq_none_int->rX,eq_none_str->rY,eq_int_none->rZ,eq_str_none->se,ne_none_int->si,ne_none_str->sj,ne_int_none->sm,ne_str_none->su
open PySem.EqMixed renaming eq_bool_str->rN,eq_str_bool->rO,ne_bool_str->rS,ne_str_bool->rT,eq_int_str->r9,eq_str_int->sf,ne_int_str->sr,ne_str_int->sv
open PySem.W (nsIn keepIn fnOf kitOne exmOne)
set_option Elab.async false
set_option linter.all false
set_option maxRecDepth 100000
namespace L2
open PySem PySem.Spec PyProof.Rows
noncomputable abbrev Key:=Sum Int Str
noncomputable def Nl:Key->Value->Bool
 |.inl k,v=>Value.isInt k v
 |.inr x,v=>Value.isStrOf x v
noncomputable def keyH (w:World):Key->Int
 |.inl k=>hashInt k
 |.inr x=>hashStr w x
def A9:∀{k:Key} {v:Value},Nl k v=true->(∃i t,k=pj i/\v=Value.int i t)\/(∃x t,k=qk x/\v=Value.str x t)
 |.inl i,v,h=>by
  obtain⟨t,e⟩:=Value.isInt_shape (k:=i) (v:=v) h;exact .inl ⟨i,t,rfl,e⟩
 |.inr x,v,h=>by
  obtain⟨t,e⟩:=Value.isStrOf_shape (x:=x) (v:=v) h;exact .inr ⟨x,t,rfl,e⟩
def P5 (i:Int)(t:Tok):Nl (.inl i) (.int i t)=true:=by simp[Nl,Value.isInt]
def P6 (x:Str)(t:Tok):Nl (.inr x) (.str x t)=true:=by simp[Nl,Value.isStrOf]
def Wj (a b:Int):decide ((pj a:Key)=pj b)=(a==b):=by
 by_cases e:a=b
 ·subst e;simp
 ·have h:¬ (pj a:Key)=pj b:=fun q=>e (Sum.inl.inj q);rw[jX_ h];exact (zQ_.mpr e).symm
def Wk (a b:Str):decide ((qk a:Key)=qk b)=decide (a=b):=by
 by_cases e:a=b
 ·subst e;simp
 ·have h:¬ (qk a:Key)=qk b:=fun q=>e (Sum.inr.inj q);rw[jX_ h,jX_ e]
def Wl (a:Int)(b:Str):decide ((pj a:Key)=qk b)=false:=jX_ (fun q=>nomatch q)
def Wm (a:Str)(b:Int):decide ((qk a:Key)=pj b)=false:=jX_ (fun q=>nomatch q)
noncomputable def A4 (prog:Program)(w:World):PySem.KeyKind prog w Key where
 is:=Nl
 hash:=keyH w
 inj:=fun v a b ha hb=>by
  rcases A9 ha with ⟨i,t,rfl,rfl⟩|⟨x,t,rfl,rfl⟩
  ·rcases A9 hb with ⟨j,u,rfl,e⟩|⟨y,u,rfl,e⟩
   ·injection e with e1 _;rw[e1]
   ·exact nomatch e
  ·rcases A9 hb with ⟨j,u,rfl,e⟩|⟨y,u,rfl,e⟩
   ·exact nomatch e
   ·injection e with e1 _;rw[e1]
 byValue:=fun k v h=>by
  rcases A9 h with ⟨i,t,rfl,rfl⟩|⟨x,t,rfl,rfl⟩<;>rfl
 pyHash:=fun hv h=>by
  rcases A9 hv with ⟨i,t,rfl,rfl⟩|⟨x,t,rfl,rfl⟩
  ·exact wpAny_pyHash_int h
  ·exact wpAny_pyHash_str h
 eqBool:=fun hu hv h=>by
  rcases A9 hu with ⟨i,t,rfl,rfl⟩|⟨x,t,rfl,rfl⟩
  ·rcases A9 hv with ⟨j,u,rfl,rfl⟩|⟨y,u,rfl,rfl⟩
   ·rw[Wj]at h;exact wpAny_eqBool_int h
   ·rw[Wl]at h;exact SeqAt.EqAt.int_str i t y u _ _ _ _ h
  ·rcases A9 hv with ⟨j,u,rfl,rfl⟩|⟨y,u,rfl,rfl⟩
   ·rw[Wm]at h;exact SeqAt.EqAt.str_int x t j u _ _ _ _ h
   ·rw[Wk]at h;exact wpAny_eqBool_str h
 «strs» := fun k x t v h=>by
  rcases A9 h with ⟨i,u,rfl,e⟩|⟨y,u,rfl,e⟩
  ·exact nomatch e
  ·injection e with e1 _;subst e1;cases v<;>rfl
def Nm (prog:Program)(w:World)(i:Int)(t:Tok):(A4 prog w).is (.inl i) (.int i t)=true:=P5 i t
def Nn (prog:Program)(w:World)(x:Str)(t:Tok):(A4 prog w).is (.inr x) (.str x t)=true:=P6 x t
inductive V where
 | non|bl (b:Bool)|int (i:Int)|str (x:Str)|byt (b:Array UInt8)|flt (b:UInt64)|ref (a:Addr)|ty (n:String)
 deriving DecidableEq
noncomputable def RelV:V->Value->Prop
 |.non,u=>u=Value.none
 |.bl b,u=>u=Value.bool b
 |.int i,u=>∃t,u=Value.int i t
 |.str x,u=>∃t,u=Value.str x t
 |.byt b,u=>∃t,u=Value.bytes b t
 |.flt b,u=>∃t,u=Value.float b t
 |.ref a,u=>u=Value.ref a
 |.ty n,u=>u=Value.type n
noncomputable abbrev Vals:List V->List Value->Prop:=Paired RelV
def Vals.length (r:Vals xs us):xs.length=us.length:=zi_ r
def Vals.get:∀{xs:List V} {us:List Value} {i:Nat} {x:V},Vals xs us->xs[i]?=some x->∃u,us[i]?=some u/\RelV x u
 |_,_,_,_,.nil,e=>by simp at e
 |_,_,0,_,.cons r _,e=>by simp at e;subst e;exact⟨_,rfl,r⟩
 |_,_,i+1,x,.cons _ t,e=>by
  obtain⟨u,h1,h2⟩:=Vals.get (i:=i) (x:=x) t (by simpa using e);exact⟨u,by simpa using h1,h2⟩
def Vals.set {x:V}{u:Value}(r:RelV x u):∀{xs:List V} {us:List Value} (i:Nat),Vals xs us->Vals (xs.set i x) (us.set i u)
 |_,_,_,.nil=>.nil
 |_,_,0,.cons _ t=>.cons r t
 |_,_,i+1,.cons q t=>.cons q (Vals.set r i t)
def Vals.append:∀{xs ys:List V} {us ws:List Value},Vals xs us->Vals ys ws->Vals (xs++ys) (us++ws)
 |_,_,_,_,.nil,s=>s
 |_,_,_,_,.cons r t,s=>.cons r (Vals.append t s)
def Vals.take:∀{xs:List V} {us:List Value} (n:Nat),Vals xs us->Vals (xs.take n) (us.take n)
 |_,_,0,_=>.nil
 |_,_,_+1,.nil=>.nil
 |_,_,n+1,.cons r t=>.cons r (Vals.take n t)
def Vals.drop:∀{xs:List V} {us:List Value} (n:Nat),Vals xs us->Vals (xs.drop n) (us.drop n)
 |_,_,0,r=>r
 |_,_,_+1,.nil=>.nil
 |_,_,n+1,.cons _ t=>Vals.drop n t
noncomputable def RelO:Option V->α5->Prop
 |some v,some u=>RelV v u
 |none,none=>True
 |_,_=>False
noncomputable def KV {κ:Type}:List (κ×V)->List (κ×Value)->Prop:=Paired fun (p:κ×V) (q:κ×Value)=>p.1=q.1/\RelV p.2 q.2
noncomputable def kV:Key->V
 |.inl i=>.int i
 |.inr x=>.str x
inductive HO where
 | lst (xs:List V)
 | tup (xs:List V)
 | dK (kvs:List (Key×V))|dT (kvs:List (List Key×V))
 | set (S:Int->Bool) (n:Nat)
 | ins (C dx:Addr) (fs:List (Str×V))
 | own (x:Addr)
 | xd (fs:List (Str×V))
 | met (f x:Addr)
 | rng (lo hi:Int)
 | frz (o:Obj) (u:HO)
 | tbl (ps:Array Value)
 | ext (φ:Heap->Prop)
noncomputable abbrev Hp:=Addr->Option HO
noncomputable def upd (H:Hp)(a:Addr)(o:HO):Hp:=fun b=>if b=a then some o else H b
def Ab : upd H a o a=some o:=by unfold upd;rw[if_pos rfl]
def Au (h:b≠a):upd H a o b=H b:=by unfold upd;rw[if_neg h]
def U2 : upd (upd H a o) a u=upd H a u:=by
 funext b;unfold upd;split<;>rfl
def U3 {H:Hp}{a b:Addr}{o u:HO}(h:H a=some o)(h':H b=some u)(d:o≠u):a≠b:=by
 intro e;subst e;rw[h]at h';exact d (jC_ h')
def AO {H:Hp}{a b:Addr}{o:HO}(h:H a=some o)(h':H b=none):a≠b:=by
 intro e;subst e;rw[h]at h';cases h'
section
variable (P:Program) (w:World)
noncomputable def AU (H:Hp)(h:Heap)(a:Addr):HO->Prop
 |.lst xs=>xs.length<=sizeLine/\∃(its:List Value) (n:Nat),Vals xs its/\h.get? a=some {cls:=.type "list",data:=.seq its.toArray n}
 |.tup xs=>xs.length<=sizeLine/\∃its:List Value,Vals xs its/\IsTup h a its.toArray
 |.dK kvs=>kvs.length<=sizeLine/\(a==sysModules)=false/\∃vs,KV kvs vs/\h.DictOf (A4 P w) a vs
 |.dT kvs=>kvs.length<=sizeLine/\(a==sysModules)=false/\∃xs:List (List Key×Addr×Value),
   Paired (fun (p:List Key×V) (q:List Key×Addr×Value)=>p.1=q.1/\H q.2.1=some (.tup (p.1.map kV))/\RelV p.2 q.2.2) kvs xs /\
   ∃o es ep,h.get? a=some o/\o.ExactDict/\o.data=.dict es ep/\es.toList=xs.map (entryOfKey (tupleKind (A4 P w)))/\(xs.map (·.1)).Nodup
 |.set S n=>h.SetOf (intKind P w) a S n
 |.ins C dx fs=>H dx=some (.own a)/\fs.length<=1000/\dx≠a/\h.get? a=some (pT C dx) /\
   ∃mA,h.Ns1 dx mA/\(∀f,RelO (fs.lookup f) (mA f))/\sU mA (fs.map (·.1))
 |.own _=>∃o,h.get? a=some o
 |.xd fs=>∃mA,h.Ns1 a mA/\∀f,RelO (fs.lookup f) (mA f)
 |.rng lo hi=>∃t u v,h.get? a=some {cls:=.type "range",data:=.fields #[.int lo t,.int hi u,.int 1 v]}
 |.frz o u=>h.get? a=some o/\AU H h a u
 |.tbl ps=>h.get? a=some {cls:=.none,data:=.fields ps}
 |.met f x=>h.get? a=some (pE (.ref f) (.ref x))
 |.ext φ=>φ h/\(∃o,h.get? a=some o)/\∀h1 h2:Heap,φ h1->(∀o,h1.get? a=some o->h2.get? a=some o)->φ h2
noncomputable def HOk (H:Hp)(h:Heap):Prop:=∀a o,H a=some o->AU P w H h a o
end
section
variable {P:Program} {w:World} {H H':Hp} {h h':Heap} {a:Addr} {o:HO}
def AU.lt (x:AU P w H h a o):a<h.objs.size:=by
 cases o with
 |lst xs=>obtain⟨_,_,_,_,e⟩:=x;exact ju_ e
 |tup xs=>obtain⟨_,_,_,p⟩:=x;exact p.lt
 |dK kvs=>obtain⟨_,_,_,_,o,_,_,e,_⟩:=x;exact ju_ e
 |dT kvs=>obtain⟨_,_,_,_,o,_,_,e,_⟩:=x;exact ju_ e
 |set S n=>obtain⟨o,_,_,_,e,_⟩:=x;exact ju_ e
 |ins C dx fs=>obtain⟨_,_,_,e,_⟩:=x;exact ju_ e
 |own y=>obtain⟨_,e⟩:=x;exact ju_ e
 |xd fs=>obtain⟨_,⟨_,_,_,e,_⟩,_⟩:=x;exact ju_ e
 |rng lo hi=>obtain⟨_,_,_,e⟩:=x;exact ju_ e
 |frz ob u=>obtain⟨e,_⟩:=x;exact ju_ e
 |tbl ps=>exact ju_ (show h.get? a=some _ from x)
 |met f y=>exact ju_ (show h.get? a=some _ from x)
 |ext φ=>obtain⟨_,⟨_,e⟩,_⟩:=x;exact ju_ e
def Paired.mapP {α β:Type}{F G:α->β->Prop}:∀{l₁:List α} {l₂:List β},Paired F l₁ l₂->(∀a b,F a b->G a b)->Paired G l₁ l₂
 |_,_,.nil,_=>.nil
 |_,_,.cons r t,f=>.cons (f _ _ r) (Paired.mapP t f)
def AU.stay (x:AU P w H h a o)(k:∀b u,(b=a\/H b=some (.own a))->h.get? b=some u->h'.get? b=some u)
  (ho:∀b,H b=some (.own a)->H' b=some (.own a)) (ht:∀b xs,H b=some (.tup xs)->H' b=some (.tup xs)):AU P w H' h' a o:=by
 induction o with
 |lst xs=>obtain⟨z,its,n,r,e⟩:=x;exact⟨z,its,n,r,k _ _ (.inl rfl) e⟩
 |tup xs=>obtain⟨z,its,r,ob,e,c⟩:=x;exact⟨z,its,r,ob,k _ _ (.inl rfl) e,c⟩
 |dK kvs=>obtain⟨z,y,vs,r,ob,es,ep,e,c⟩:=x;exact⟨z,y,vs,r,ob,es,ep,k _ _ (.inl rfl) e,c⟩
 |dT kvs=>
  obtain⟨z,y,xs,r,ob,es,ep,e,c⟩:=x;exact⟨z,y,xs,Paired.mapP r fun p q z=>⟨z.1,ht _ _ z.2.1,z.2.2⟩,ob,es,ep,k _ _ (.inl rfl) e,c⟩
 |set S n=>obtain⟨ob,es,ep,t,e,c⟩:=x;exact⟨ob,es,ep,t,k _ _ (.inl rfl) e,c⟩
 |ins C dx fs=>
  obtain⟨d,z,ne,e,mA,⟨od,es,ep,e2,c⟩,r⟩:=x;exact⟨ho _ d,z,ne,k _ _ (.inl rfl) e,mA,⟨od,es,ep,k _ _ (.inr d) e2,c⟩,r⟩
 |own y=>obtain⟨ob,e⟩:=x;exact⟨ob,k _ _ (.inl rfl) e⟩
 |xd fs=>obtain⟨mA,⟨od,es,ep,e,c⟩,r⟩:=x;exact⟨mA,⟨od,es,ep,k _ _ (.inl rfl) e,c⟩,r⟩
 |rng lo hi=>obtain⟨t,u,v,e⟩:=x;exact⟨t,u,v,k _ _ (.inl rfl) e⟩
 |frz ob u ih=>obtain⟨e,q⟩:=x;exact⟨k _ _ (.inl rfl) e,ih q⟩
 |tbl ps=>
  have e:h.get? a=some {cls:=.none,data:=.fields ps}:=x;show h'.get? a=some {cls:=.none,data:=.fields ps};exact k a _ (.inl rfl) e
 |met f y=>
  have e:h.get? a=some (pE (.ref f) (.ref y)):=x;show h'.get? a=some (pE (.ref f) (.ref y));exact k a _ (.inl rfl) e
 |ext φ=>obtain⟨p,⟨o,e⟩,st⟩:=x;exact⟨st _ _ p fun o q=>k _ _ (.inl rfl) q,⟨o,k _ _ (.inl rfl) e⟩,st⟩
def HOk.lt (x:HOk P w H h)(e:H a=some o):a<h.objs.size:=(x a o e).lt
def HOk.fresh (x:HOk P w H h)(e:h.objs.size<=a):H a=none:=by
 cases q:H a with
 |none=>rfl
 |some u=>exact absurd (jK_ (x.lt q) e) (j9_ _)
def HOk.kept (x:HOk P w H h)(k:∀b u,h.get? b=some u->h'.get? b=some u):HOk P w H h':=fun a o e=>
 (x a o e).stay (fun b u _ q=>k b u q) (fun _ q=>q) fun _ _ q=>q
def HOk.laid (x:HOk P w H h)(k:∀b u,h.get? b=some u->h'.get? b=some u)(hp:h.objs.size<=a)(new:AU P w (upd H a o) h' a o):HOk P w (upd H a o) h':=fun b u e=>by
 have hn:=x.fresh hp;by_cases hb:b=a
 ·subst hb;rw[Ab]at e;cases e;exact new
 ·rw[Au hb]at e;exact (x b u e).stay (fun c v _ q=>k c v q) (fun c q=>by rw[Au (AO q hn)];exact q) fun c xs q=>by rw[Au (AO q hn)];exact q
end
noncomputable def Rd (H:Hp)(a:Addr)(u:HO):Prop:=H a=some u \/ ∃o,H a=some (.frz o u)
def Rd.ok (r:Rd H a u)(x:HOk P w H h):AU P w H h a u:=by
 rcases r with r|⟨o,r⟩
 ·exact x a u r
 ·obtain⟨_,q⟩:=x a _ r;exact q
noncomputable def Mut:Option HO->Prop
 |some (.lst _)=>True
 |some (.dK _)=>True
 |some (.dT _)=>True
 |some (.set _ _)=>True
 |some (.ins _ _ _)=>True
 |some (.ext _)=>True
 |_=>False
section
variable {P:Program} {w:World} {H:Hp} {h h':Heap} {x e:Addr} {o':HO}
def HOk.write (ok:HOk P w H h)(mu:Mut (H x))(he:e=x\/H e=some (.own x))(k:∀b u,b≠e->h.get? b=some u->h'.get? b=some u)(fq:∃u,h'.get? e=some u)
  (new:AU P w (upd H x o') h' x o'):HOk P w (upd H x o') h':=fun b u q=>by
 have nown:∀c y,H c=some (.own y)->c≠x:=fun c y r z=>by subst z;rw[r]at mu;exact mu
 have ntup:∀c xs,H c=some (.tup xs)->c≠x:=fun c xs r z=>by subst z;rw[r]at mu;exact mu
 by_cases hb:b=x
 ·subst hb;rw[Ab]at q;cases q;exact new
 ·rw[Au hb]at q;by_cases ig:b=e
  ·have q':H b=some (.own x):=by
    rcases he with z|z
    ·exact absurd (ig.trans z) hb
    ·rw[ig];exact z
   rw[q]at q';cases q';obtain⟨v,hv⟩:=fq;exact⟨v,by rw[ig];exact hv⟩
  ·refine (ok b u q).stay (fun c v hc r=>k c v ?_ r) (fun c r=>by rw[Au (nown c b r)];exact r) fun c xs r=>by rw[Au (ntup c xs r)];exact r
   rcases hc with rfl|hc
   ·exact ig
   ·rintro rfl;rcases he with z|z
    ·exact nown c b hc z
    ·rw[hc]at z;cases z;exact hb rfl
end
structure Un (fs ex:List Addr)(H H':Hp)(h h':Heap):Prop where
 keep:∀b o,h.get? b=some o->H b=none->b∉fs->b∉ex->h'.get? b=some o
 slot:∀b o,h.get? b=some o->H b=none->b∈fs->b∉ex->∃sl,h'.get? b=some {o with slots:=sl}
 free:∀b o,h.get? b=some o->H b=none->b∉ex->H' b=none
 there:∀b o,h.get? b=some o->b∉ex->∃o',h'.get? b=some o'
 tups:∀b xs,H b=some (.tup xs)->H' b=some (.tup xs)
 frzs:∀b o u,H b=some (.frz o u)->H' b=some (.frz o u)
 tbls:∀b ps,H b=some (.tbl ps)->∃more,H' b=some (.tbl (ps++more))
section
variable {fs fs' ex ex':List Addr} {H H1 H2:Hp} {h h1 h2 h':Heap} {a x e:Addr} {o:HO}
def Un.any (u:Un fs ex H H1 h h1) (q:h.get? b=some ob)(n:H b=none)(hx:b∉ex):∃sl,h1.get? b=some {ob with slots:=sl}:=by
 by_cases hb:b∈fs
 ·exact u.slot b ob q n hb hx
 ·exact⟨ob.slots,u.keep b ob q n hb hx⟩
def Un.kept (k:∀b u,h.get? b=some u->h'.get? b=some u):Un fs ex H H h h' :=
 ⟨fun b ob q _ _ _=>k b ob q,fun b ob q _ _ _=>⟨ob.slots,k b ob q⟩,fun _ _ _ n _=>n,fun b ob q _=>⟨ob,k b ob q⟩,fun _ _ q=>q,fun _ _ _ q=>q,fun _ ps q=>⟨#[],by rw[q];simp⟩⟩
def Un.refl:Un fs ex H H h h:=Un.kept fun _ _ q=>q
def Un.laid (k:∀b u,h.get? b=some u->h'.get? b=some u)(hp:h.objs.size<=a)(hn:H a=none):Un fs ex H (upd H a o) h h' where
 keep:=fun b u q _ _ _=>k b u q
 slot:=fun b u q _ _ _=>⟨u.slots,k b u q⟩
 free:=fun b u q n _=>by rw[Au (jP_ (jK_ (ju_ q) hp))];exact n
 there:=fun b u q _=>⟨u,k b u q⟩
 tups:=fun b xs q=>by rw[Au (AO q hn)];exact q
 frzs:=fun b u xs q=>by rw[Au (AO q hn)];exact q
 tbls:=fun b ps q=>⟨#[],by rw[Au (AO q hn),q];simp⟩
def Un.write (mu:Mut (H x))(he:e=x\/H e=some (.own x))(k:∀b u,b≠e->h.get? b=some u->h'.get? b=some u)(fq:∃u,h'.get? e=some u):Un fs ex H (upd H x o) h h':=by
 have hx:∀b,H b=none->b≠x:=fun b n z=>by subst z;rw[n]at mu;exact mu
 have hb:∀b,H b=none->b≠e:=fun b n z=>by
  subst z;rcases he with r|r
  ·exact hx b n r
  ·rw[n]at r;cases r
 have hm:∀b u,H b=some u->¬ Mut (some u)->b≠x:=fun b u q nm z=>by subst z;rw[q]at mu;exact nm mu
 refine⟨fun b u q n _ _=>k b u (hb b n) q,fun b u q n _ _=>⟨u.slots,k b u (hb b n) q⟩,fun b u q n _=>by rw[Au (hx b n)];exact n,fun b u q _=>?_,
  fun b xs q=>by rw[Au (hm b _ q fun z=>z)];exact q,fun b u xs q=>by rw[Au (hm b _ q fun z=>z)];exact q,fun b ps q=>⟨#[],by rw[Au (hm b _ q fun z=>z),q];simp⟩⟩
 by_cases ig:b=e
 ·subst ig;exact fq
 ·exact⟨u,k b u ig q⟩
end
noncomputable def trk (h:Heap)(H:Hp):List Addr:=(oW h.objs.size).filter fun a=>(H a).isSome
noncomputable def hidT (h:Heap)(H:Hp):Heap:=pU h (trk h H)
def P7 (h:Heap)(H:Hp):(hidT h H).objs.size=h.objs.size:=tM _ _
def Sj (e:h.get? b=some o)(n:H b=none):(hidT h H).get? b=some o:=
 qp _ e fun hm=>by
  have q:(H b).isSome=true:=(zR_.mp hm).2;rw[n]at q;simp at q
def U4 (e:(hidT h H).get? b=some o):h.get? b=some o/\H b=none:=by
 have e':h.get? b=some o:=qy (trk h H) e;refine⟨e',?_⟩;cases q:H b with
 |none=>rfl
 |some x=>
  have hm:b∈trk h H:=zR_.mpr ⟨j3_.mpr (ju_ e'),by simp[q]⟩;have z:(hidT h H).get? b=none:=tN (trk h H) hm;rw[z]at e;cases e
noncomputable def U5 (g h:Heap)(L:Addr):α7:=(oW h.objs.size).filterMap fun a=>if a=L\/(g.get? a).isSome=true then none else (h.get? a).map fun o=>(a,o)
noncomputable def rest (g h:Heap)(L d:Addr):α7:=(U5 g h L).filter fun p=>decide (p.1≠d)
end L2
namespace L2
open PySem PySem.Spec PyProof.Rows
structure Mod (K:α3)(mg:Str->α5)(base:Heap):Prop where
 kin:K.In base
 glob:base.Ns mainGlobals mg
 blt:∃mb,base.Ns builtinsNs mb/\∀x:Str,x ≠ "__name__" -> mb x=bootBuiltins x
 nolimit:base.NoLimit
structure Cx where
 prog:Program
 w:World
 K:α3
 mg:Str->α5
 base:Heap
 A:Around
 N:List Str
 s₀:Shared
 H₀:Hp
 env:Env
 outer:List Env
 stack:List Env
 ex:List Addr
 fn:Str->Bool
 calm:Bool
 pn:α7
 xe:Value->Shared->Prop
noncomputable def frs (l:List Env):List Addr:=l.filterMap (·.frame)
noncomputable abbrev Cx.fs (X:Cx):List Addr:=frs X.outer
noncomputable def Vis (sc:Scope)(x:Str):Prop:=sc.names.lookup x=some .local\/sc.names.lookup x=some .cell\/sc.names.lookup x=some .free
noncomputable def Loc (sc:Scope)(x:Str):Prop:=sc.names.lookup x=some .local\/sc.names.lookup x=some .cell
noncomputable def Look (env:Env)(h:Heap)(m:Str->α5)(x:Str)(u:Value):Prop:=
 (env.kindOf x=some .local/\m x=some u)\/((env.kindOf x=some .cell\/env.kindOf x=some .free)/\∃c,env.cells.lookup x=some c/\h.IsCell c (some u))
structure Cx.Ok (X:Cx):Prop where
 mod:Mod X.K X.mg X.base
 kind:X.env.scope.kind=.function
 glob:X.env.globals=mainGlobals
 blt:X.env.builtins=builtinsNs
 above:X.s₀.heap.objs.size<=X.env.locals
 inj:∀x y c,X.env.cells.lookup x=some c->X.env.cells.lookup y=some c->x=y
 has:∀x,(X.env.kindOf x=some .cell\/X.env.kindOf x=some .free)->∃c,X.env.cells.lookup x=some c
 cab:∀x c,X.fn x=true->X.env.cells.lookup x=some c->X.s₀.heap.objs.size<=c
 hd:X.calm=true->X.A.handled=none
 frames:X.A.frames=some X.stack
 stk:X.stack=X.outer\/(X.stack=X.env::X.outer/\X.env.frame=some X.env.locals)
 exf:∀b∈X.ex,b≠X.env.locals/\∀x c,X.env.cells.lookup x=some c->c≠b
 bs:∀b o,X.base.get? b=some o->X.s₀.heap.get? b=some o/\X.H₀ b=none
 bsz:X.base.objs.size<=X.s₀.heap.objs.size
 noex:∀b o,X.base.get? b=some o->b∉X.ex
 exfs:∀b∈X.ex,b∉X.fs
 funs:X.s₀.heap.FunFrames X.base X.outer
 frf:∀b∈X.fs,X.H₀ b=none
structure Inv (X:Cx)(aa:α7)(σ:List (Option V))(H:Hp)(s:Shared):Prop where
 ok:X.Ok
 os:s.os=X.s₀.os
 bare:AllBare s.gens
 base:Un X.fs X.ex X.H₀ H X.s₀.heap s.heap
 loc:∃m,s.heap.Ns X.env.locals m/\∀(i:Nat) (x:Str) (v:V),X.N[i]?=some x->σ[i]?=some (some v)->Vis X.env.scope x->∃u,RelV v u/\Look X.env s.heap m x u
 cell:∀x c,X.env.cells.lookup x=some c->∃v,s.heap.IsCell c v
 free:H X.env.locals=none
 freeC:∀x c,X.env.cells.lookup x=some c->H c=none
 pin:∀p∈X.pn++aa,s.heap.get? p.1=some p.2/\H p.1=none/\p.1≠X.env.locals/\p.1∉X.fs/\∀v,p.2.data ≠ .cell v
 hok:HOk X.prog X.w H s.heap
 len:σ.length=X.N.length
section
variable {X:Cx} {aa:α7} {σ:List (Option V)} {H H':Hp} {s:Shared} {h':Heap}
def Cx.Ok.nofr (ok:X.Ok) (e:X.base.get? b=some o):b∉X.fs:=fun hb=>by
 have:=(ok.funs.mem hb).1;rw[e]at this;cases this
def Inv.bs (I:Inv X aa σ H s):∀b o,X.base.get? b=some o->s.heap.get? b=some o/\H b=none:=fun b o e=>
 ⟨I.base.keep b o (I.ok.bs b o e).1 (I.ok.bs b o e).2 (I.ok.nofr e) (I.ok.noex b o e),I.base.free b o (I.ok.bs b o e).1 (I.ok.bs b o e).2 (I.ok.noex b o e)⟩
def Inv.bk (I:Inv X aa σ H s):∀b o,X.base.get? b=some o->s.heap.get? b=some o:=fun b o e=>(I.bs b o e).1
def Inv.mod (I:Inv X aa σ H s):Mod X.K X.mg X.base:=I.ok.mod
def Inv.kIn (I:Inv X aa σ H s):X.K.In s.heap:=I.ok.mod.kin.keeps I.bk
def Inv.lt (I:Inv X aa σ H s):X.env.locals<s.heap.objs.size:=let ⟨_,hn,_⟩:=I.loc;hn.lt
def Inv.sz (I:Inv X aa σ H s):X.s₀.heap.objs.size<=s.heap.objs.size:=jY_ I.ok.above (pL I.lt)
def Inv.nofs (I:Inv X aa σ H s) (h:s.heap.objs.size<=a):a∉X.fs:=fun hb=>by
 obtain⟨_,o,ho,_⟩:=I.ok.funs.mem hb;exact absurd (jK_ (ju_ ho) (jY_ I.sz h)) (j9_ _)
def Inv.cne (I:Inv X aa σ H s):∀x c,X.env.cells.lookup x=some c->c≠X.env.locals:=fun x c e z=>by
 obtain⟨v,o,ho,hd⟩:=I.cell x c e;obtain⟨m,⟨o',es,ep,bf,gF,_⟩,_⟩:=I.loc;rw[z,bf]at ho;cases ho;rw[gF]at hd;cases hd
def Inv.funs (I:Inv X aa σ H s):s.heap.FunFrames X.base X.outer:=by
 have all:∀(l:List Env),(∀b∈frs l,b∈X.fs)->X.s₀.heap.FunFrames X.base l->s.heap.FunFrames X.base l:=by
  intro l
  induction l with
  |nil=>intro _ _;trivial
  |cons env r ih=>
   intro hs hl;obtain⟨hk,⟨L,o,hf,hn,ho,hd⟩,hr⟩:=hl;have hL:L∈X.fs:=hs L (by unfold frs;rw[zS_,hf];exact jL_);obtain⟨sl,e⟩:=I.base.slot L o ho (I.ok.frf L hL) hL fun z=>I.ok.exfs L z hL;exact⟨hk,⟨L,_,hf,hn,e,hd⟩,ih (fun b hb=>hs b (by unfold frs;rw[zS_,hf];exact jA_ _ hb)) hr⟩
 exact all X.outer (fun _ hb=>hb) I.ok.funs
def Inv.stack (I:Inv X aa σ H s):s.heap.FunFrames X.base X.stack:=by
 rcases I.ok.stk with e|⟨e,hf⟩
 ·rw[e];exact I.funs
 ·rw[e];obtain⟨m,hn,_⟩:=I.loc;refine .cons (by rw[I.ok.kind];decide) hf hn ?_ I.funs;exact Heap.get?_none_of_le (jY_ I.ok.bsz I.ok.above)
def Inv.stkSub (I:Inv X aa σ H s):∀b∈frs X.stack,b∈X.env.locals::X.fs:=fun b hb=>by
 rcases I.ok.stk with e|⟨e,hf⟩
 ·rw[e]at hb;exact jA_ _ hb
 ·rw[e]at hb;unfold frs at hb;rw[zS_,hf]at hb;exact hb
def Inv.stkFree (I:Inv X aa σ H s):∀b∈frs X.stack,H b=none:=fun b hb=>by
 rcases jE_.mp (I.stkSub b hb) with e|hb
 ·rw[e];exact I.free
 ·obtain⟨_,o,ho,_⟩:=I.ok.funs.mem hb;exact I.base.free b o ho (I.ok.frf b hb) fun z=>I.ok.exfs b z hb
def Inv.step {g':Array GenState}{t':Nat}{d':Drawn}{ch:List Addr}(I:Inv X aa σ H s)
  (ft:∀b∈ch,(b∈X.ex\/X.s₀.heap.objs.size<=b)/\b≠X.env.locals/\(∀x c,X.env.cells.lookup x=some c->c≠b)/\∀p∈X.pn++aa,p.1≠b)
  (keep:∀b o,b≠X.env.locals->b∉X.fs->b∉ch->s.heap.get? b=some o->H b=none->h'.get? b=some o)
  (slot:∀b o,b≠X.env.locals->b∈X.fs->b∉ch->s.heap.get? b=some o->H b=none->∃sl,h'.get? b=some {o with slots:=sl}) (free:∀b o,b∉ch->s.heap.get? b=some o->H b=none->H' b=none)
  (there:∀b o,b∉ch->s.heap.get? b=some o->∃o',h'.get? b=some o')
  (tups:∀b xs,H b=some (.tup xs)->H' b=some (.tup xs)) (frzs:∀b o u,H b=some (.frz o u)->H' b=some (.frz o u)) (tbls:∀b ps,H b=some (.tbl ps)->∃more,H' b=some (.tbl (ps++more)))
  (ns:∀m,s.heap.Ns X.env.locals m->h'.Ns X.env.locals m) (hok:HOk X.prog X.w H' h') (hg:AllBare g'):
  Inv X aa σ H' {s with heap:=h',gens:=g',drawn:=d',toks:=t' }:=by
 have neL:∀b o,X.s₀.heap.get? b=some o->b≠X.env.locals:=fun b o e=>jP_ (jK_ (ju_ e) I.ok.above);have kQ:∀b o,X.s₀.heap.get? b=some o->b∉X.ex->b∉ch:=fun b o e hx hb=>by
  rcases (ft b hb).1 with z|z
  ·exact hx z
  ·exact absurd (jK_ (ju_ e) z) (j9_ _)
 have cellK:∀x c,X.env.cells.lookup x=some c->∀v,s.heap.IsCell c v->h'.IsCell c v:=fun x c e v ⟨o,ho,hd⟩=>by
  have dZ:c∉ch:=fun z=>(ft c z).2.2.1 x c e rfl;by_cases hc:c∈X.fs
  ·obtain⟨sl,q⟩:=slot c o (I.cne x c e) hc dZ ho (I.freeC x c e);exact⟨_,q,hd⟩
  ·exact⟨o,keep c o (I.cne x c e) hc dZ ho (I.freeC x c e),hd⟩
 refine⟨I.ok,I.os,hg,⟨fun b o e n hb hx=>?_,fun b o e n hb hx=>?_,fun b o e n hx=>?_,fun b o e hx=>?_,fun b xs e=>tups b xs (I.base.tups b xs e),fun b o xs e=>frzs b o xs (I.base.frzs b o xs e),fun b ps e=>?_⟩,?_,fun x c e=>?_,?_,fun x c e=>?_,fun p hp=>?_,hok,I.len⟩
 ·exact keep b o (neL b o e) hb (kQ b o e hx) (I.base.keep b o e n hb hx) (I.base.free b o e n hx)
 ·obtain⟨sl,e1⟩:=I.base.slot b o e n hb hx;obtain⟨jP,e2⟩:=slot b _ (neL b o e) hb (kQ b o e hx) e1 (I.base.free b o e n hx);exact⟨jP,e2⟩
 ·obtain⟨o',e1⟩:=I.base.there b o e hx;exact free b o' (kQ b o e hx) e1 (I.base.free b o e n hx)
 ·obtain⟨o',e1⟩:=I.base.there b o e hx;exact there b o' (kQ b o e hx) e1
 ·obtain⟨m1,e1⟩:=I.base.tbls b ps e;obtain⟨m2,e2⟩:=tbls b _ e1;exact⟨m1++m2,by rw[e2,Array.append_assoc]⟩
 ·obtain⟨m,hn,hl⟩:=I.loc;refine⟨m,ns m hn,fun i x v e1 e2 e3=>?_⟩;obtain⟨u,r,l⟩:=hl i x v e1 e2 e3;refine⟨u,r,?_⟩;rcases l with l|⟨k,c,e,z⟩
  ·exact .inl l
  ·exact .inr ⟨k,c,e,cellK x c e _ z⟩
 ·obtain⟨v,z⟩:=I.cell x c e;exact⟨v,cellK x c e v z⟩
 ·obtain⟨m,⟨o,_,_,ho,_⟩,_⟩:=I.loc;exact free _ o (fun z=>(ft _ z).2.1 rfl) ho I.free
 ·obtain⟨v,o,ho,hd⟩:=I.cell x c e;exact free c o (fun z=>(ft c z).2.2.1 x c e rfl) ho (I.freeC x c e)
 ·obtain⟨e,n,ne,nf,d⟩:=I.pin p hp;have dZ:p.1∉ch:=fun z=>(ft p.1 z).2.2.2 p hp rfl;exact⟨keep p.1 p.2 ne nf dZ e n,free p.1 p.2 dZ e n,ne,nf,d⟩
def Inv.un (I:Inv X aa σ H s)(u:Un X.fs [] H H' s.heap h')(hok:HOk X.prog X.w H' h'):Inv X aa σ H' {s with heap:=h',toks:=t' }:=by
 obtain⟨m,⟨o,es,ep,ho,r⟩,_⟩:=id I.loc;obtain⟨sl,hL⟩:=u.any ho I.free (by simp);exact I.step (g':=s.gens) (d':=s.drawn) (ch:=[]) (fun _ z=>nomatch z) (fun b o _ hb _ e n=>u.keep b o e n hb (by simp)) (fun b o _ hb _ e n=>u.slot b o e n hb (by simp)) (fun b o _ e n=>u.free b o e n (by simp)) (fun b o _ e=>u.there b o e (by simp)) u.tups u.frzs u.tbls (fun m' hm=>by
  obtain⟨o',au,jQ,bf,r'⟩:=hm;rw[ho]at bf;cases bf;exact⟨_,au,jQ,hL,r'⟩) hok I.bare
def Inv.call (I:Inv X aa σ H s)(u:Un (frs X.stack) ch H H' s.heap h')(hok:HOk X.prog X.w H' h')(hg:AllBare g')
  (ft:∀b∈ch,(b∈X.ex\/X.s₀.heap.objs.size<=b)/\b≠X.env.locals/\(∀x c,X.env.cells.lookup x=some c->c≠b)/\∀p∈X.pn++aa,p.1≠b):
  Inv X aa σ H' {s with heap:=h',gens:=g',drawn:=d',toks:=t' }:=by
 obtain⟨m,⟨o,es,ep,ho,r⟩,_⟩:=id I.loc;obtain⟨sl,hL⟩:=u.any ho I.free fun z=>(ft _ z).2.1 rfl;exact I.step (ch:=ch) ft (fun b o hL hb hc e n=>u.keep b o e n (fun z=>(jE_.mp (I.stkSub b z)).elim hL hb) hc) (fun b o _ _ hc e n=>u.any e n hc) (fun b o hc e n=>u.free b o e n hc) (fun b o hc e=>u.there b o e hc) u.tups u.frzs u.tbls (fun m' hm=>by
  obtain⟨o',au,jQ,bf,r'⟩:=hm;rw[ho]at bf;cases bf;exact⟨_,au,jQ,hL,r'⟩) hok hg
def Inv.turned {it:Addr}(I:Inv X aa σ H s)(k:∀b o,b≠it->s.heap.get? b=some o->h'.get? b=some o)(hn:H it=none)(hL:it≠X.env.locals)
  (h1:it∈X.ex\/X.s₀.heap.objs.size<=it) (h2:∀x c,X.env.cells.lookup x=some c->c≠it) (h3:∀p∈X.pn++aa,p.1≠it):Inv X aa σ H {s with heap:=h',toks:=t' }:=by
 have nit:∀b u,H b=some u->b≠it:=fun b u e z=>by rw[z,hn]at e;cases e
 refine I.step (g':=s.gens) (d':=s.drawn) (ch:=[it]) (fun b hb=>?_) (fun b o _ _ hc e _=>k b o (fun z=>hc (by simp[z])) e) (fun b o _ _ hc e _=>⟨o.slots,k b o (fun z=>hc (by simp[z])) e⟩) (fun _ _ _ _ n=>n)
  (fun b o hc e=>⟨o,k b o (fun z=>hc (by simp[z])) e⟩) (fun _ _ e=>e) (fun _ _ _ e=>e) (fun b ps e=>⟨#[],by rw[e];simp⟩) (fun m hm=>?_) (fun b u e=>?_) I.bare
 ·have e:b=it:=by simpa using hb
  subst e;exact⟨h1,hL,h2,h3⟩
 ·obtain⟨o,es,ep,ho,r⟩:=hm;exact⟨o,es,ep,k _ o (q3_ hL) ho,r⟩
 ·refine (I.hok b u e).stay (fun c v hc q=>k c v ?_ q) (fun _ q=>q) fun _ _ q=>q;rcases hc with z|z
  ·rw[z];exact nit b u e
  ·exact nit c _ z
def Inv.tok (I:Inv X aa σ H s)(t:Nat):Inv X aa σ H {s with toks:=t}:=I.un (h':=s.heap) (t':=t) Un.refl I.hok
def Inv.kept (I:Inv X aa σ H s)(k:∀b u,s.heap.get? b=some u->h'.get? b=some u):Inv X aa σ H {s with heap:=h',toks:=t' }:=I.un (Un.kept k) (I.hok.kept k)
def Inv.laid (I:Inv X aa σ H s)(k:∀b u,s.heap.get? b=some u->h'.get? b=some u)(hp:s.heap.objs.size<=a)(new:AU X.prog X.w (upd H a o) h' a o):
  Inv X aa σ (upd H a o) {s with heap:=h',toks:=t' }:=I.un (Un.laid k hp (I.hok.fresh hp)) (I.hok.laid k hp new)
def Inv.write (I:Inv X aa σ H s)(mu:Mut (H x))(he:e=x\/H e=some (.own x))(k:∀b u,b≠e->s.heap.get? b=some u->h'.get? b=some u)(fq:∃u,h'.get? e=some u)
  (new:AU X.prog X.w (upd H x o) h' x o):Inv X aa σ (upd H x o) {s with heap:=h',toks:=t' }:=I.un (Un.write mu he k fq) (I.hok.write mu he k fq new)
def Inv.pins_of (I:Inv X aa σ H s)(h:∀p∈ay,s.heap.get? p.1=some p.2/\H p.1=none/\p.1≠X.env.locals/\p.1∉X.fs/\∀v,p.2.data ≠ .cell v):Inv X ay σ H s:=
 ⟨I.ok,I.os,I.bare,I.base,I.loc,I.cell,I.free,I.freeC,fun p hp=>(jH_.mp hp).elim (fun z=>I.pin p (jQ_ _ z)) (h p),I.hok,I.len⟩
def K9 {N:List Str}(hN:N.Nodup){i j:Nat}{x:Str}(a:N[i]?=some x)(b:N[j]?=some x):i=j:=by
 obtain⟨h1,e1⟩:=jd_.mp a;obtain⟨h2,e2⟩:=jd_.mp b;exact (pH hN).mp (e1.trans e2.symm)
def Mb (I:Inv X aa σ H s)(hN:X.N.Nodup)(hi:X.N[i]?=some x)(hx:Loc X.env.scope x)(r:RelV v u)
  (h:∀s',Inv X aa (σ.set i (some v)) H s'->(∃a,Heap.SameBut a s.heap s'.heap/\(a=X.env.locals\/X.env.cells.lookup x=some a))->Q () s') (hf:X.fn x=true\/X.env.scope.names.lookup x=some .local:=by first|exact .inl rfl|exact .inr rfl|assumption):wpAny M A (storeName X.env x u) Q E s:=by
 obtain⟨m,hn,hl⟩:=id I.loc;have hcls:(X.env.scope.kind == .class||(X.env.scope.kind == .module&&X.env.locals != X.env.globals))=false:=by rw[I.ok.kind];rfl
 have hiσ:i<σ.length:=by rw[I.len];exact (jd_.mp hi).1
 have cne:=I.cne;have aP:∀{a:Addr} {h':Heap},(∃o,s.heap.get? a=some o/\H a=none)->Heap.SameBut a s.heap h'->HOk X.prog X.w H h':=fun {a h'} ha hs b ob e=>by
  obtain⟨_,_,hfree⟩:=ha;refine (I.hok b ob e).stay (fun c w' hc q=>(hs.2 c ?_).trans q) (fun _ q=>q) fun _ _ q=>q;rintro rfl;rcases hc with rfl|hc
  ·rw[hfree]at e;cases e
  ·rw[hfree]at hc;cases hc
 rcases hx with hk|hk
 ·refine wpAny_storeName_local hk hn (fun h' jg hs=>?_) hcls;obtain⟨oL,_,_,hoL,_⟩:=id hn;refine h _ ⟨I.ok,I.os,I.bare,⟨fun b o e n hb hx=>?_,fun b o e n hb hx=>?_,I.base.free,fun b o e hx=>?_,I.base.tups,I.base.frzs,I.base.tbls⟩,⟨_,jg,fun j y v' e1 e2 e3=>?_⟩,fun y c e=>?_,I.free,I.freeC,fun p hp=>?_,aP ⟨oL,hoL,I.free⟩ hs,by simpa using I.len⟩ ⟨_,hs,.inl rfl⟩
  ·exact (hs.2 b (jP_ (jK_ (ju_ e) I.ok.above))).trans (I.base.keep b o e n hb hx)
  ·obtain⟨sl,e1⟩:=I.base.slot b o e n hb hx;exact⟨sl,(hs.2 b (jP_ (jK_ (ju_ e) I.ok.above))).trans e1⟩
  ·obtain⟨o',e1⟩:=I.base.there b o e hx;exact⟨o',(hs.2 b (jP_ (jK_ (ju_ e) I.ok.above))).trans e1⟩
  ·by_cases hj:j=i
   ·subst hj;rw[hi]at e1;cases e1;rw[q2_ hiσ]at e2;cases e2;exact⟨u,r,.inl ⟨hk,by simp⟩⟩
   ·rw[xr_ (q3_ hj)]at e2;obtain⟨u',r',q⟩:=hl j y v' e1 e2 e3;refine⟨u',r',?_⟩;rcases q with ⟨k,e⟩|⟨k,c,e,z⟩
    ·refine .inl ⟨k,?_⟩;have:y≠x:=fun e=>hj (K9 hN e1 (e ▸ hi));simp[this,e]
    ·exact .inr ⟨k,c,e,z.sameBut hs (cne y c e)⟩
  ·obtain⟨w',z⟩:=I.cell y c e;exact⟨w',z.sameBut hs (cne y c e)⟩
  ·obtain⟨e,n,ne,nf,d⟩:=I.pin p hp;exact⟨(hs.2 p.1 ne).trans e,n,ne,nf,d⟩
 ·have d6:X.fn x=true:=by
   rcases hf with z|z
   ·exact z
   ·rw[z]at hk;cases hk
  obtain⟨c,hc⟩:=I.ok.has x (.inl hk);obtain⟨w',z⟩:=I.cell x c hc;refine wpAny_storeName_cell I.ok.kind hk hc z (fun h' d8 hs=>?_);obtain⟨oc,d9,hocd⟩:=id z;refine h {s with heap:=h' } ⟨I.ok,I.os,I.bare,⟨fun b o e n hb hx=>?_,fun b o e n hb hx=>?_,I.base.free,fun b o e hx=>?_,I.base.tups,I.base.frzs,I.base.tbls⟩,⟨m,hn.sameBut hs (q3_ (cne x c hc)),fun j y v' e1 e2 e3=>?_⟩,fun y c' e=>?_,I.free,I.freeC,fun p hp=>?_,aP ⟨oc,d9,I.freeC x c hc⟩ hs,by simpa using I.len⟩ ⟨c,hs,.inr hc⟩
  ·exact (hs.2 b (jP_ (jK_ (ju_ e) (I.ok.cab x c d6 hc)))).trans (I.base.keep b o e n hb hx)
  ·obtain⟨sl,e1⟩:=I.base.slot b o e n hb hx;exact⟨sl,(hs.2 b (jP_ (jK_ (ju_ e) (I.ok.cab x c d6 hc)))).trans e1⟩
  ·obtain⟨o',e1⟩:=I.base.there b o e hx;exact⟨o',(hs.2 b (jP_ (jK_ (ju_ e) (I.ok.cab x c d6 hc)))).trans e1⟩
  ·by_cases hj:j=i
   ·subst hj;rw[hi]at e1;cases e1;rw[q2_ hiσ]at e2;cases e2;exact⟨u,r,.inr ⟨.inl hk,c,hc,d8⟩⟩
   ·rw[xr_ (q3_ hj)]at e2;obtain⟨u',r',q⟩:=hl j y v' e1 e2 e3;refine⟨u',r',?_⟩;rcases q with q|⟨k,c',e,z'⟩
    ·exact .inl q
    ·refine .inr ⟨k,c',e,z'.sameBut hs ?_⟩;rintro rfl;exact hj (K9 hN e1 (I.ok.inj _ _ _ e hc ▸ hi))
  ·by_cases hcc:c'=c
   ·subst hcc;exact⟨_,d8⟩
   ·obtain⟨w2,z2⟩:=I.cell y c' e;exact⟨w2,z2.sameBut hs hcc⟩
  ·obtain⟨e,n,ne,nf,d⟩:=I.pin p hp;refine⟨(hs.2 p.1 ?_).trans e,n,ne,nf,d⟩;intro q;rw[q,d9]at e;have q':oc=p.2:=jC_ e;exact d w' (by rw[<-q'];exact hocd)
def IQ (I:Inv X aa σ H s)(hN:X.N.Nodup)(hi:X.N[i]?=some x)(hx:Loc X.env.scope x)(r:RelV v u)
  (h:∀s',Inv X aa (σ.set i (some v)) H s'->Q () s') (hf:X.fn x=true\/X.env.scope.names.lookup x=some .local:=by first|exact .inl rfl|exact .inr rfl|assumption):wpAny M A (storeName X.env x u) Q E s:=
 Mb I hN hi hx r (fun s' I' _=>h s' I') hf
def Inv.call' (I:Inv X aa σ H s)(ho:s'.os=s.os)(u:Un (frs X.stack) ch H H' s.heap s'.heap)(hok:HOk X.prog X.w H' s'.heap)(hg:AllBare s'.gens)
  (ft:∀b∈ch,(b∈X.ex\/X.s₀.heap.objs.size<=b)/\b≠X.env.locals/\(∀x c,X.env.cells.lookup x=some c->c≠b)/\∀p∈X.pn++aa,p.1≠b):Inv X aa σ H' s':=by
 obtain⟨h',g',d',t',o'⟩:=s';have e:o'=s.os:=ho;subst e;exact I.call (g':=g') (t':=t') (d':=d') u hok hg ft
end
noncomputable abbrev XK:=Value->Option Addr->Hp->Prop
noncomputable abbrev St:=List (Option V)
noncomputable abbrev VK:=V->Hp->Prop
noncomputable abbrev TE:=St->Hp->VK->Prop
noncomputable abbrev TT:=St->Hp->(Bool->Hp->Prop)->Prop
noncomputable abbrev TA:=St->Hp->(List V->Hp->Prop)->Prop
structure Ends where
 nx:St->Hp->Prop
 rt:VK
 bk:St->Hp->Prop:=fun _ _=>False
 ct:St->Hp->Prop:=fun _ _=>False
noncomputable abbrev TS:=Ends->St->Hp->Prop
noncomputable def EP (X:Cx)(aa:α7)(σ:St)(Q:VK)(u:Value)(s':Shared):Prop:=∃v H',Inv X aa σ H' s'/\RelV v u/\Q v H'
noncomputable def TP (X:Cx)(aa:α7)(σ:St)(Q:Bool->Hp->Prop)(b:Bool)(s':Shared):Prop:=∃H',Inv X aa σ H' s'/\Q b H'
noncomputable def AP (X:Cx)(aa:α7)(σ:St)(Q:List V->Hp->Prop)(us:List Value)(s':Shared):Prop:=∃vs H',Inv X aa σ H' s'/\Vals vs us/\Q vs H'
noncomputable def SP (X:Cx)(aa:α7)(D:Ends)(f:Flow)(s':Shared):Prop:=
 match f with
 |.next=>∃af H',Inv X aa af H' s'/\D.nx af H'
 |.brk=>∃af H',Inv X aa af H' s'/\D.bk af H'
 |.cont=>∃af H',Inv X aa af H' s'/\D.ct af H'
 |.ret u=>∃v af H',Inv X aa af H' s'/\RelV v u/\D.rt v H'
noncomputable def PE (X:Cx)(e:Expr)(t:TE):Prop:=
 ∀(aa:α7) (s:Shared) (σ:St) (H:Hp) (Q:VK),Inv X aa σ H s->t σ H Q->wpAny (model X.prog X.w) X.A (eval e X.env) (EP X aa σ Q) X.xe s
noncomputable def PT (X:Cx)(e:Expr)(t:TT):Prop:=
 ∀(aa:α7) (s:Shared) (σ:St) (H:Hp) (Q:Bool->Hp->Prop),Inv X aa σ H s->t σ H Q->wpAny (model X.prog X.w) X.A (isTrue e X.env (eval e X.env)) (TP X aa σ Q) X.xe s
noncomputable def PW (X:Cx)(e:Expr)(t:TT):Prop:=
 ∀(dn:Sem Value) (aa:α7) (s:Shared) (σ:St) (H:Hp) (Q:Bool->Hp->Prop),Inv X aa σ H s->t σ H Q->wpAny (model X.prog X.w) X.A (isTrue e X.env dn) (TP X aa σ Q) X.xe s
def PW.pt (h:PW X e t):PT X e t:=h _
noncomputable def PA (X:Cx)(es:List Expr)(t:TA):Prop:=
 ∀(pos:Pos) (aa:α7) (s:Shared) (σ:St) (H:Hp) (Q:List V->Hp->Prop),Inv X aa σ H s->t σ H Q->wpAny (model X.prog X.w) X.A (spliced (backTo pos (starEach es X.env))) (AP X aa σ Q) X.xe s
noncomputable def PS (X:Cx)(st:Stmt)(t:TS):Prop:=
 ∀(aa:α7) (s:Shared) (σ:St) (H:Hp) (D:Ends),Inv X aa σ H s->t D σ H->wpAny (model X.prog X.w) X.A (exec st X.env) (SP X aa D) X.xe s
noncomputable def PSs (X:Cx)(st:List Stmt)(t:TS):Prop:=
 ∀(aa:α7) (s:Shared) (σ:St) (H:Hp) (D:Ends),Inv X aa σ H s->t D σ H->wpAny (model X.prog X.w) X.A (execs st X.env) (SP X aa D) X.xe s
def thn (h:wpAny M A t Q E s)(hQ:∀a s,Q a s->Q' a s):wpAny M A t Q' E s:=q9_ h hQ fun _ _ x=>x
end L2
namespace L2
open PySem PySem.Spec PyProof.Rows
section
variable {X:Cx}
noncomputable def tVar (i:Nat):TE:=fun σ H Q=>∃v,σ[i]?=some (some v)/\Q v H
noncomputable def tC (v:V):TE:=fun _ H Q=>Q v H
def Wn (hN:X.N[i]?=some x)(hv:Vis X.env.scope x)(hd:(x==("__debug__" : Str))=false:=by decide)(bZ:(x==("__classdict__" : Str))=false:=by decide):PE X (.Name x pos) (tVar i):=by
 intro aa s σ H Q I h;obtain⟨v,e,h⟩:=h;obtain⟨m,hn,hl⟩:=I.loc;obtain⟨u,r,l⟩:=hl i x v hN e hv;have aN:EP X aa σ Q u s:=⟨v,H,I,r,h⟩;rcases l with ⟨hk,hm⟩|⟨hk,c,hc,dq⟩
 ·exact wpAny_Name (wpAny_loadName_local I.ok.kind hk hn hm aN) hd
 ·rcases hk with hk|hk
  ·exact wpAny_Name (wpAny_loadName_cell I.ok.kind hk hc dq aN) hd
  ·exact wpAny_Name (wpAny_loadName_free I.ok.kind hk hc dq aN bZ) hd
def Ae {i j pos}:PE X (.Constant (.int i) j pos) (tC (.int i)):=fun _ _ _ H _ I h=>wpAny_Constant_int ⟨.int i,H,I.tok _,⟨_,rfl⟩,h⟩
def Bo {b j pos}:PE X (.Constant (.bool b) j pos) (tC (.bl b)):=fun _ _ _ H _ I h=>Constant_bool ⟨.bl b,H,I,rfl,h⟩
def Kr {j pos}:PE X (.Constant .none j pos) (tC .non):=fun _ _ _ H _ I h=>Constant_none ⟨.non,H,I,rfl,h⟩
def P8 {x j pos}:PE X (.Constant (.str x) j pos) (tC (.str x)):=fun _ _ _ H _ I h=>Calls.Constant_str ⟨.str x,H,I.tok _,⟨_,rfl⟩,h⟩
noncomputable def Gl (X:Cx)(x:Str):Prop:=X.env.kindOf x=some .globalImplicit
def Jf (I:Inv X aa σ H s)(hg:Gl X x)(hm:X.mg x=some u)(h:Q u s)
  (hd:(x==("__debug__" : Str))=false:=by decide):wpAny (model X.prog X.w) X.A (eval (.Name x pos) X.env) Q E s:=
 Calls.Name_function_global I.ok.kind hg (Calls.loadGlobal_global (by rw[I.ok.glob];exact I.mod.glob.keeps I.bk) hm h) hd
def Ee (I:Inv X aa σ H s)(hg:Gl X x)(hm:X.mg x=none)(hv:bootBuiltins x=some u)(h:Q u s)
  (hn:x ≠ "__name__" := by decide) (hd:(x==("__debug__" : Str))=false:=by decide):wpAny (model X.prog X.w) X.A (eval (.Name x pos) X.env) Q E s:=by
 obtain⟨mb,h1,h2⟩:=I.mod.blt;exact Calls.Name_function_global I.ok.kind hg (Calls.loadGlobal_builtin (by rw[I.ok.glob];exact I.mod.glob.keeps I.bk) hm (by rw[I.ok.blt];exact h1.keeps I.bk) ((h2 x hn).trans hv) h) hd
def Ef (hg:Gl X x)(hm:X.mg x=some u)(r:RelV v u)(hd:(x==("__debug__" : Str))=false:=by decide):PE X (.Name x pos) (tC v):=
 fun _ _ _ H _ I h=>Jf I hg hm ⟨v,H,I,r,h⟩ hd
def Jg (hg:Gl X x)(hm:X.mg x=none)(hv:bootBuiltins x=some u)(r:RelV v u)(hn:x ≠ "__name__" := by decide)(hd:(x==("__debug__" : Str))=false:=by decide):PE X (.Name x pos) (tC v):=
 fun _ _ _ H _ I h=>Ee I hg hm hv ⟨v,H,I,r,h⟩ hn hd
variable {a b:Expr} {ta tb:TE} {pos:Pos}
noncomputable def PC (X:Cx)(op:CmpOp)(a b:Expr)(t:TE):Prop:=
 ∀(aa:α7) (s:Shared) (σ:St) (H:Hp) (Q:VK),Inv X aa σ H s->t σ H Q ->
  wpAny (model X.prog X.w) X.A (eval a X.env) (fun v s₁=>wpAny (model X.prog X.w) X.A (eval b X.env) (fun u bo=>wpAny (model X.prog X.w) X.A (compareOp op v u) (EP X aa σ Q) X.xe bo) X.xe s₁) X.xe s
def Sk (b:Expr) (h:op ≠ .In)(h2:op ≠ .NotIn):behindInMarks op b=false:=by
 have e1:(op==CmpOp.In)=false:=by cases op<;>first|rfl|exact absurd rfl h
 have e2:(op==CmpOp.NotIn)=false:=by cases op<;>first|rfl|exact absurd rfl h2
 cases b<;>simp[behindInMarks,e1,e2]
noncomputable def tB (t:TE):TT:=fun σ H Q=>t σ H fun x H1=>∃c,x=.bl c/\Q c H1
def Wo (h:PC X op a b t)(h1:behindInMarks op b=false:=by first|exact Sk _ (by decide) (by decide)|rfl):PE X (.Compare a [op] [b] pos) t:=fun aa s σ H Q I hw=>wpAny_Compare1 (h aa s σ H Q I hw) h1
def BH (h:PE X e t)(he:∀dn,isTrue e X.env dn=(do let v <- dn;standAt e.pos;holding [v] (truthy v)):=by intro _;rfl):PT X e (tB t):=by
 intro aa s σ H Q I hw;refine isTrue_plain (thn (h aa s σ H _ I hw) fun v s1 ⟨x,H1,I1,r1,q1⟩=>?_) (he _);obtain⟨d,rfl,q⟩:=q1;cases r1;exact xf_ ⟨H1,I1,q⟩
variable {tA kR:TT} {rest:List Expr}
noncomputable def tAnd (t u:TT):TT:=fun σ H Q=>t σ H fun c H1=>if c=true then u σ H1 Q else Q false H1
noncomputable def tOr (t u:TT):TT:=fun σ H Q=>t σ H fun c H1=>if c=true then Q true H1 else u σ H1 Q
noncomputable def tNot (t:TT):TT:=fun σ H Q=>t σ H fun c H1=>Q (!c) H1
def Eg (ha:PT X a tA):PW X (.BoolOp .And [a] pos) tA:=by
 intro wh aa s σ H Q I h;refine isTrue_and (thn (ha aa s σ H Q I h) fun c s1 e=>?_);cases c with
 |true=>exact isTrue_and_nil e
 |false=>exact e
def DS (ha:PT X a tA):PW X (.BoolOp .Or [a] pos) tA:=by
 intro wh aa s σ H Q I h;refine isTrue_or (thn (ha aa s σ H Q I h) fun c s1 e=>?_);cases c with
 |false=>exact isTrue_or_nil e
 |true=>exact e
def F7 (ha:PT X a tA)(hb:PW X (.BoolOp .And (b::rest) pos) kR):PW X (.BoolOp .And (a::b::rest) pos) (tAnd tA kR):=by
 intro wh aa s σ H Q I h;refine isTrue_and (thn (ha aa s σ H _ I h) fun c s1 ⟨H1,I1,q1⟩=>?_);cases c with
 |true=>exact hb wh aa s1 σ H1 Q I1 q1
 |false=>exact⟨H1,I1,q1⟩
def G4 (ha:PT X a tA)(hb:PW X (.BoolOp .Or (b::rest) pos) kR):PW X (.BoolOp .Or (a::b::rest) pos) (tOr tA kR):=by
 intro wh aa s σ H Q I h;refine isTrue_or (thn (ha aa s σ H _ I h) fun c s1 ⟨H1,I1,q1⟩=>?_);cases c with
 |true=>exact⟨H1,I1,q1⟩
 |false=>exact hb wh aa s1 σ H1 Q I1 q1
def Cb (ha:PT X a tA):PT X (.UnaryOp .Not a pos) (tNot tA):=by
 intro aa s σ H Q I h;exact isTrue_not (ha aa s σ H (fun c H1=>Q (!c) H1) I h)
noncomputable def Wq (ta tb:TE):TE:=fun σ H Q=>ta σ H fun x H1=>∃c,x=.bl c/\if c=true then tb σ H1 Q else Q (.bl false) H1
noncomputable def Wr (ta:TE):TE:=fun σ H Q=>ta σ H fun x H1=>∃c,x=.bl c/\Q (.bl (!c)) H1
def Mc {op} (h:PE X a t):PE X (.BoolOp op [a] pos) t:=fun aa s σ H Q I hw=>BoolOp_one (h aa s σ H Q I hw)
def Kt (ha:PE X a ta)(hb:PE X (.BoolOp .And (b::rest) pos) tb):PE X (.BoolOp .And (a::b::rest) pos) (Wq ta tb):=by
 intro aa s σ H Q I h;refine BoolOp_and (thn (ha aa s σ H _ I h) fun v s1 ⟨x,H1,I1,r1,q1⟩=>?_);obtain⟨c,rfl,q1⟩:=q1;cases r1;refine xf_ ?_;cases c with
 |true=>exact hb aa s1 σ H1 Q I1 q1
 |false=>exact⟨.bl false,H1,I1,rfl,q1⟩
def P9 (ha:PE X a ta):PE X (.UnaryOp .Not a pos) (Wr ta):=by
 intro aa s σ H Q I h;refine UnaryOp_ (thn (ha aa s σ H _ I h) fun v s1 ⟨x,H1,I1,r1,q1⟩=>?_);obtain⟨c,rfl,q1⟩:=q1;cases r1;exact not_of (xf_ ⟨.bl (!c),H1,I1,rfl,q1⟩)
noncomputable def tIf (t:TT)(ta tb:TE):TE:=fun σ H Q=>t σ H fun c H1=>if c=true then ta σ H1 Q else tb σ H1 Q
def N2 (hc:PT X c tA)(ha:PE X a ta)(hb:PE X b tb):PE X (.IfExp c a b pos) (tIf tA ta tb):=by
 intro aa s σ H Q I h;refine wpAny_IfExp (thn (hc aa s σ H _ I h) fun d s1 ⟨H1,I1,q1⟩=>?_);cases d with
 |true=>exact ha aa s1 σ H1 Q I1 q1
 |false=>exact hb aa s1 σ H1 Q I1 q1
end
end L2
namespace L2
open PySem PySem.Spec PyProof.Rows
noncomputable def SqL (K:α3)(H:Hp)(a:Addr)(xs:List V):Prop:=
 Rd H a (.lst xs) \/
  ∃(o:Obj) (its:Array Value) (n:Nat),K.lookup a=some o/\o.cls=.type "list" /\ o.dict=none/\o.data=.seq its n/\its.size<=sizeLine/\Vals xs its.toList
noncomputable def SqT (K:α3)(H:Hp)(a:Addr)(xs:List V):Prop:=
 Rd H a (.tup xs) \/
  ∃(o:Obj) (its:Array Value) (n:Nat),K.lookup a=some o/\o.cls=.type "tuple" /\ o.data=.seq its n/\its.size<=sizeLine/\Vals xs its.toList
noncomputable def absV:Value->Option V
 |.none=>some .non
 |.bool b=>some (.bl b)
 |.int i _=>some (.int i)
 |.str x _=>some (.str x)
 |.bytes b _=>some (.byt b)
 |.float b _=>some (.flt b)
 |.ref a=>some (.ref a)
 |.type n=>some (.ty n)
 |_=>none
def RelV.abs (r:RelV x u):absV u=some x:=by
 cases x with
 |non=>cases r;rfl
 |bl _=>cases r;rfl
 |int _=>obtain⟨t,rfl⟩:=r;rfl
 |str _=>obtain⟨t,rfl⟩:=r;rfl
 |byt _=>obtain⟨t,rfl⟩:=r;rfl
 |flt _=>obtain⟨t,rfl⟩:=r;rfl
 |ref _=>cases r;rfl
 |ty _=>cases r;rfl
def RelV.inj (r:RelV x u)(q:RelV y u):x=y:=jC_ (r.abs.symm.trans q.abs)
def Vals.inj:∀{xs ys:List V} {us:List Value},Vals xs us->Vals ys us->xs=ys
 |_,_,_,.nil,.nil=>rfl
 |_,_,_,.cons r t,.cons r' t'=>by rw[r.inj r',Vals.inj t t']
section
variable {X:Cx} {aa:α7} {σ:St} {H:Hp} {s:Shared} {a:Addr} {xs ys:List V}
def SqL.of {K:α3}(h:H a=some (.lst xs)):SqL K H a xs:=.inl (.inl h)
def SqT.of {K:α3}(h:H a=some (.tup xs)):SqT K H a xs:=.inl (.inl h)
def Inv.list (I:Inv X aa σ H s)(h:SqL X.K H a xs):∃its:List Value,Vals xs its/\PlainL s.heap a its.toArray/\xs.length<=sizeLine:=by
 rcases h with h|⟨o,its,n,hk,hc,hd,hs,hz,r⟩
 ·obtain⟨z,its,n,r,e⟩:=h.ok I.hok;exact⟨its,r,⟨_,n,e,rfl,rfl,rfl⟩,z⟩
 ·refine⟨its.toList,r,⟨o,n,I.kIn a o hk,hc,hd,by simpa using hs⟩,?_⟩;have e:=r.length;simp only[qQ_]at e;lia
def Inv.tuple (I:Inv X aa σ H s)(h:SqT X.K H a xs):∃its:List Value,Vals xs its/\IsTup s.heap a its.toArray/\xs.length<=sizeLine:=by
 rcases h with h|⟨o,its,n,hk,hc,hs,hz,r⟩
 ·obtain⟨z,its,r,p⟩:=h.ok I.hok;exact⟨its,r,p,z⟩
 ·refine⟨its.toList,r,⟨o,I.kIn a o hk,hc,n,by simpa using hs⟩,?_⟩;have e:=r.length;simp only[qQ_]at e;lia
def Inv.list_inj (I:Inv X aa σ H s)(h:SqL X.K H a xs)(h':SqL X.K H a ys):xs=ys:=by
 obtain⟨its,r,⟨o,n,e,_,_,d⟩,_⟩:=I.list h;obtain⟨its',r',⟨o',n',e',_,_,d'⟩,_⟩:=I.list h';rw[e]at e';cases e';rw[d]at d';injection d' with d1 _;have:its=its':=by simpa using xd_ sX d1
 subst this;exact r.inj r'
def Inv.tuple_inj (I:Inv X aa σ H s)(h:SqT X.K H a xs)(h':SqT X.K H a ys):xs=ys:=by
 obtain⟨its,r,⟨o,e,_,n,d⟩,_⟩:=I.tuple h;obtain⟨its',r',⟨o',e',_,n',d'⟩,_⟩:=I.tuple h';rw[e]at e';cases e';rw[d]at d';injection d' with d1 _;have:its=its':=by simpa using xd_ sX d1
 subst this;exact r.inj r'
end
noncomputable abbrev Cx.wish (X:Cx)(E:Value->Shared->Prop):Cx:={X with xe:=E}
noncomputable abbrev Cx.nox (X:Cx):Cx:=X.wish fun _ _=>False
def Cx.Ok.wish {X:Cx}(ok:X.Ok)(E:Value->Shared->Prop):(X.wish E).Ok:=
 ⟨ok.mod,ok.kind,ok.glob,ok.blt,ok.above,ok.inj,ok.has,ok.cab,ok.hd,ok.frames,ok.stk,ok.exf,ok.bs,ok.bsz,ok.noex,ok.exfs,ok.funs,ok.frf⟩
def Cx.Ok.unwish {X:Cx}{E:Value->Shared->Prop}(ok:(X.wish E).Ok):X.Ok:=
 ⟨ok.mod,ok.kind,ok.glob,ok.blt,ok.above,ok.inj,ok.has,ok.cab,ok.hd,ok.frames,ok.stk,ok.exf,ok.bs,ok.bsz,ok.noex,ok.exfs,ok.funs,ok.frf⟩
section
variable {X:Cx} {aa:α7} {σ:St} {H:Hp} {s:Shared} {E:Value->Shared->Prop}
def Inv.wish (I:Inv X aa σ H s)(E:Value->Shared->Prop):Inv (X.wish E) aa σ H s:=⟨I.ok.wish E,I.os,I.bare,I.base,I.loc,I.cell,I.free,I.freeC,I.pin,I.hok,I.len⟩
def Inv.unwish (I:Inv (X.wish E) aa σ H s):Inv X aa σ H s:=⟨I.ok.unwish,I.os,I.bare,I.base,I.loc,I.cell,I.free,I.freeC,I.pin,I.hok,I.len⟩
def SP.unwish (h:SP (X.wish E) aa D f s'):SP X aa D f s':=by
 cases f with
 |next=>obtain⟨af,H',I,q⟩:=h;exact⟨af,H',I.unwish,q⟩
 |brk=>obtain⟨af,H',I,q⟩:=h;exact⟨af,H',I.unwish,q⟩
 |cont=>obtain⟨af,H',I,q⟩:=h;exact⟨af,H',I.unwish,q⟩
 |ret u=>obtain⟨v,af,H',I,r,q⟩:=h;exact⟨v,af,H',I.unwish,r,q⟩
def PSs.nox {st:List Stmt} (h:PSs X.nox st t):PSs X st t:=fun aa s σ H D I hw=>
 q9_ (h aa s σ H D (I.wish _) hw) (fun _ _ q=>q.unwish) fun _ _ z=>pd z
end
section
variable {X:Cx} {st:Stmt} {rest:List Stmt} {t u:TS} {e:Expr} {te:TE} {pos:Pos}
noncomputable def Ws:TS:=fun D σ H=>D.nx σ H
noncomputable def tSeq (t u:TS):TS:=fun D σ H=>t {D with nx:=u D} σ H
def AE:PSs X [] Ws:=fun _ _ σ H _ I h=>xL_ ⟨σ,H,I,h⟩
def Ad (h1:PS X st t)(h2:PSs X rest u):PSs X (st::rest) (tSeq t u):=by
 intro aa s σ H D I h;refine wpAny_execs_cons (thn (h1 aa s σ H {D with nx:=u D} I h) fun f s1 q=>?_);cases f with
 |next=>
  obtain⟨af,H',I',q⟩:=q;exact h2 aa s1 af H' D I' q
 |ret v=>exact q
 |brk=>exact q
 |cont=>exact q
def Af (h1:PS X st t):PSs X [st] t:=by
 intro aa s σ H D I h;refine wpAny_execs_cons (thn (h1 aa s σ H D I h) fun f s1 q=>?_);cases f with
 |next=>exact xL_ q
 |ret v=>exact q
 |brk=>exact q
 |cont=>exact q
def Inv.quiet (I:Inv X aa σ H s):interactive X.env=false:=by simp[interactive,I.ok.kind]
noncomputable def Wt (te:TE):TS:=fun D σ H=>te σ H fun _ H1=>D.nx σ H1
def Bx (he:PE X e te)(hs:swapsWith e none pos.line X.env=pure false:=by rfl):PS X (.Expr e pos) (Wt te):=by
 intro aa s σ H D I h;exact wpAny_Expr_any (thn (he aa s σ H _ I h) fun v s1 ⟨x,H1,I1,r1,q1⟩=>⟨σ,H1,I1,q1⟩) I.quiet hs
noncomputable def tRet (te:TE):TS:=fun D σ H=>te σ H D.rt
def Ap (he:PE X e te):PS X (.Return (some e) pos) (tRet te):=by
 intro aa s σ H D I h;exact wpAny_Return_some (thn (he aa s σ H _ I h) fun v s1 ⟨x,H1,I1,r1,q1⟩=>⟨x,σ,H1,I1,r1,q1⟩)
noncomputable def tIfS (c:TT)(t u:TS):TS:=fun D σ H=>c σ H fun b H1=>if b=true then t D σ H1 else u D σ H1
def A5 (hc:PT X c tc)(ha:PSs X a t)(hb:PSs X b u):PS X (.If c a b pos) (tIfS tc t u):=by
 intro aa s σ H D I h;refine wpAny_If (thn (hc aa s σ H _ I h) fun d s1 ⟨H1,I1,q1⟩=>?_);cases d with
 |true=>exact ha aa s1 σ H1 D I1 q1
 |false=>exact hb aa s1 σ H1 D I1 q1
noncomputable def Wu:TS:=fun _ _ _=>False
def N3:PS X st Wu:=fun _ _ _ _ _ _ h=>h.elim
end
noncomputable abbrev TG:=V->St->Hp->(St->Hp->Prop)->Prop
noncomputable abbrev TGs:=List V->St->Hp->(St->Hp->Prop)->Prop
noncomputable def PG (X:Cx)(bC:Expr)(t:TG):Prop:=
 ∀(aa:α7) (s:Shared) (σ:St) (H:Hp) (v:V) (u:Value) (Q:St->Hp->Prop),Inv X aa σ H s->RelV v u->t v σ H Q ->
  wpAny (model X.prog X.w) X.A (assign bC X.env u) (fun _ s'=>∃af H',Inv X aa af H' s'/\Q af H') X.xe s
noncomputable def PGs (X:Cx)(ts:List Expr)(t:TGs):Prop:=
 ∀(aa:α7) (s:Shared) (σ:St) (H:Hp) (vs:List V) (us:List Value) (Q:St->Hp->Prop),Inv X aa σ H s->Vals vs us->t vs σ H Q ->
  wpAny (model X.prog X.w) X.A (assignInOrder ((assignEach ts X.env).map (·.2)) us) (fun _ s'=>∃af H',Inv X aa af H' s'/\Q af H') X.xe s
noncomputable abbrev TSet:=V->V->V->Hp->(Hp->Prop)->Prop
noncomputable def PSet (X:Cx)(t:TSet):Prop:=
 ∀(aa:α7) (s:Shared) (σ:St) (H:Hp) (o i v:V) (ov iv u:Value) (Q:Hp->Prop),Inv X aa σ H s->RelV o ov->RelV i iv->RelV v u->t o i v H Q ->
  wpAny (model X.prog X.w) X.A (setItem ov iv u) (fun _ s'=>∃H',Inv X aa σ H' s'/\Q H') X.xe s
noncomputable abbrev TIp:=V->V->Hp->VK->Prop
noncomputable def PIp (X:Cx)(op:Operator)(t:TIp):Prop:=
 ∀(aa:α7) (s:Shared) (σ:St) (H:Hp) (x y:V) (v u:Value) (Q:VK),Inv X aa σ H s->RelV x v->RelV y u->t x y H Q ->
  wpAny (model X.prog X.w) X.A (inplaceOp op v u) (EP X aa σ Q) X.xe s
section
variable {X:Cx} {pos:Pos}
noncomputable def G8 (i:Nat):TG:=fun v σ H Q=>Q (σ.set i (some v)) H
def Al (hN:X.N.Nodup)(hi:X.N[i]?=some x)(hx:Loc X.env.scope x)(hf:X.fn x=true\/X.env.scope.names.lookup x=some .local:=by first|exact .inl rfl|exact .inr rfl|assumption):PG X (.Name x pos) (G8 i):=by
 intro aa s σ H v u Q I r h;exact wpAny_assign_Name (IQ I hN hi hx r (fun s' I'=>⟨_,H,I',h⟩) hf)
noncomputable def gNil:TGs:=fun vs σ H Q=>vs=[]/\Q σ H
noncomputable def Wv (t:TG)(u:TGs):TGs:=fun vs σ H Q=>∃v r,vs=v::r/\t v σ H fun af H'=>u r af H' Q
def G9:PGs X [] gNil:=by
 intro aa s σ H vs us Q I r h;obtain⟨e,h⟩:=h;subst e;cases r;exact assignInOrder_nil ⟨σ,H,I,h⟩
def BA (h1:PG X e t)(h2:PGs X es u)
  (hs:(assignEach (e::es) X.env).map (·.2)=assign e X.env::(assignEach es X.env).map (·.2):=by rfl):PGs X (e::es) (Wv t u):=by
 intro aa s σ H vs us Q I r h;obtain⟨v,vr,e1,h⟩:=h;subst e1;cases r with
 |cons r rr=>
  rw[hs];refine assignInOrder_cons (thn (h1 aa s σ H _ _ _ I r h) fun _ s1 ⟨bu,H1,I1,q1⟩=>?_);exact h2 aa s1 bu H1 _ _ Q I1 rr q1
noncomputable def gTup (K:α3)(n:Nat)(t:TGs):TG:=fun v σ H Q=>∃a xs,v=.ref a/\SqT K H a xs/\xs.length=n/\t xs σ H Q
def N4 (hc:X.calm=true)(h:PGs X es t)
  (hn:(assignEach es X.env).length=n:=by rfl) (fQ:(assignEach es X.env).findIdx? (·.1)=none:=by rfl):PG X (.Tuple es k pos) (gTup X.K n t):=by
 intro aa s σ H v u Q I r hw;obtain⟨a,xs,e1,hq,hl,hw⟩:=hw;subst e1;cases r;obtain⟨its,rv,ht,hz⟩:=I.tuple hq;refine assign_Tuple_tuple (I.ok.hd hc) ht (by simp[hn,<-hl,rv.length]) fQ fun h' hx=>?_;have I1:Inv X aa σ H {s with heap:=h' }:=I.kept (t':=s.toks) fun b o e=>hx b o (jP_ (ju_ e)) e;exact h aa _ σ H xs _ Q I1 (by simpa using rv) hw
noncomputable def gSub (to ti:TE)(t:TSet):TG:=fun v σ H Q=>to σ H fun o H1=>ti σ H1 fun i H2=>t o i v H2 fun H3=>Q σ H3
def Ww (ho:PE X o to)(hi:PE X i ti)(hs:PSet X t)
  (ha:∀v,assign (.Subscript o i pos) X.env v=(do
   let ov <- holding [v] (eval o X.env)
   let iv <- holding [v,ov] (eval i X.env)
   standAt pos
   holding [v,ov,iv] (setItem ov iv v)
   release [v,ov,iv] []):=by intro _;rfl):PG X (.Subscript o i pos) (gSub to ti t):=by
 intro aa s σ H v u Q I r h;rw[ha];refine je_ (qC_ (thn (ho aa s σ H _ I h) fun ov s1 ⟨x,H1,I1,r1,q1⟩=>?_));refine je_ (qC_ (thn (hi aa s1 σ H1 _ I1 q1) fun iv s2 ⟨y,H2,I2,r2,q2⟩=>?_));refine je_ (wpAny_standAt (je_ (qC_ (thn (hs aa s2 σ H2 x y v ov iv u _ I2 r1 r2 r q2) fun _ s3 ⟨H3,I3,q3⟩=>?_))));exact wpAny_release ⟨σ,H3,I3,q3⟩
noncomputable def tAsg (te:TE)(g:TG):TS:=fun D σ H=>te σ H fun x H1=>g x σ H1 D.nx
def Wx (he:PE X e te)(hg:PG X tg g)(hs:swapsWithSole [tg] e pos.line X.env=pure false:=by rfl)(hw:swappedStores [tg] e X.env=pure none:=by rfl)
  (h1:(assignEach [tg] X.env).map (·.2)=[assign tg X.env]:=by rfl):PS X (.Assign [tg] e pos) (tAsg te g):=by
 intro aa s σ H D I h;refine wpAny_Assign_stores (thn (he aa s σ H _ I h) fun v s1 ⟨x,H1,I1,r1,q1⟩=>?_) hs hw;rw[h1];exact thn (hg aa s1 σ H1 x v _ I1 r1 q1) fun _ s2 q=>q
def BS (hN:X.N.Nodup)(hi:X.N[i]?=some x)(hx:Loc X.env.scope x)(he:PE X e te)(hs:swapsWith e (some (.Name x cW)) pos.line X.env=pure false:=by rfl)(hf:X.fn x=true\/X.env.scope.names.lookup x=some .local:=by first|exact .inl rfl|exact .inr rfl|assumption):
  PS X (.Assign [.Name x cW] e pos) (tAsg te (G8 i)):=by
 intro aa s σ H D I h;refine wpAny_Assign_Name (thn (he aa s σ H _ I h) fun v s1 ⟨y,H1,I1,r1,q1⟩=>?_) hs;exact IQ I1 hN hi hx r1 (fun s2 I2=>⟨_,H1,I2,q1⟩) hf
noncomputable def tAug (i:Nat)(te:TE)(ti:TIp):TS:=fun D σ H=>∃x,σ[i]?=some (some x)/\te σ H fun y H1=>ti x y H1 fun z H2=>D.nx (σ.set i (some z)) H2
def Wy (hN:X.N.Nodup)(hi:X.N[i]?=some x)(hx:Loc X.env.scope x)(he:PE X e te)(ho:PIp X op ti)(hf:X.fn x=true\/X.env.scope.names.lookup x=some .local:=by first|exact .inl rfl|exact .inr rfl|assumption):
  PS X (.AugAssign (.Name x cW) op e pos) (tAug i te ti):=by
 intro aa s σ H D I h;obtain⟨v,e1,h⟩:=h;obtain⟨m,hn,hl⟩:=I.loc;have mz:Vis X.env.scope x:=by rcases hx with k|k;exact .inl k;exact .inr (.inl k)
 obtain⟨u,r,l⟩:=hl i x v hi e1 mz;refine wpAny_AugAssign_Name ?_;have go:wpAny (model X.prog X.w) X.A (eval e X.env) (fun w bo=>wpAny (model X.prog X.w) X.A (inplaceOp op u w) (fun r bO=>wpAny (model X.prog X.w) X.A (storeName X.env x r) (fun _=>SP X aa D .next) X.xe bO) X.xe bo) X.xe s:=by
  refine thn (he aa s σ H _ I h) fun w s1 ⟨y,H1,I1,r1,q1⟩=>?_;refine thn (ho aa s1 σ H1 v y u w _ I1 r r1 q1) fun z s2 ⟨zv,H2,I2,r2,q2⟩=>?_;exact IQ I2 hN hi hx r2 (fun s3 I3=>⟨_,H2,I3,q2⟩) hf
 rcases l with ⟨hk,hm⟩|⟨hk,c,hc,dq⟩
 ·exact wpAny_loadName_local I.ok.kind hk hn hm go
 ·rcases hk with hk|hk
  ·exact wpAny_loadName_cell I.ok.kind hk hc dq go
  ·rcases hx with k|k
   ·have:X.env.scope.names.lookup x=some .free:=hk;rw[k]at this;cases this
   ·have:X.env.scope.names.lookup x=some .free:=hk;rw[k]at this;cases this
noncomputable def ipI (f:Int->Int->Int):TIp:=fun x y H Q=>∃i j,x=.int i/\y=.int j/\Q (.int (f i j)) H
def Wz:PIp X .Add (ipI fun i j=>i+j):=by
 intro aa s σ H x y v u Q I r1 r2 h;obtain⟨i,j,e1,e2,q⟩:=h;subst e1;subst e2;obtain⟨t,rfl⟩:=r1;obtain⟨t',rfl⟩:=r2;exact iadd_int ⟨.int _,H,I.tok _,⟨_,rfl⟩,q⟩
end
section
variable {X:Cx} {pos:Pos}
noncomputable def TQ (c:TT)(tb:TS):TS:=fun D σ H=>∃W:Nat->St->Hp->Prop,(∃m,W m σ H)/\∀m σ H,W m σ H ->
 c σ H fun b H1=>if b=true then ∃N:St->Hp->Prop,(∀af H',N af H'->∃m',m'<m/\W m' af H')/\tb {D with nx:=N,ct:=N,bk:=D.nx} σ H1 else D.nx σ H1
def La (hp:PassesOwn (model X.prog X.w) X.A X.env X.xe)(hc:PT X c tc)(hb:PSs X body tb):PS X (.While c body [] pos) (TQ tc tb):=by
 intro aa s σ H D I h;obtain⟨W,⟨m0,w0⟩,cX⟩:=h;refine wpAny_While (codeAny_whileLoop (fun n s'=>∃af H',Inv X aa af H' s'/\W n af H') ?_ m0 ⟨σ,H,I,w0⟩);rintro n s1 ⟨bu,H1,I1,w1⟩;refine xt_ hp (thn (hc aa s1 bu H1 _ I1 (cX n bu H1 w1)) fun b s2 ⟨H2,I2,q2⟩=>?_);cases b with
 |true=>
  obtain⟨N,hN,q2⟩:=q2;rw[if_pos rfl];refine xt_ hp (thn (hb aa s2 bu H2 _ I2 q2) fun f s3 q3=>?_);cases f with
  |next=>
   obtain⟨aJ,H3,I3,n3⟩:=q3;obtain⟨m',hm,w3⟩:=hN aJ H3 n3;exact⟨m',hm,aJ,H3,I3,w3⟩
  |cont=>
   obtain⟨aJ,H3,I3,n3⟩:=q3;obtain⟨m',hm,w3⟩:=hN aJ H3 n3;exact⟨m',hm,aJ,H3,I3,w3⟩
  |brk=>exact q3
  |ret v=>exact q3
 |false=>
  rw[if_neg jx_];exact xL_ ⟨bu,H2,I2,q2⟩
end
structure It where
 go:Nat->Hp->Prop
 yld:Nat->Hp->V->Hp->Prop
 stop:Nat->Hp->Prop
noncomputable def FpOk (X:Cx)(aa:α7)(H:Hp)(b:Addr):Prop:=
 H b=none/\b≠X.env.locals/\b∉X.fs/\(b∈X.ex\/X.s₀.heap.objs.size<=b)/\(∀x c,X.env.cells.lookup x=some c->c≠b)/\∀p∈X.pn++aa,p.1≠b
def Inv.fpOk (I:Inv X aa σ H s)(hb:s.heap.objs.size<=b)(hn:H' b=none):FpOk X aa H' b:=by
 refine⟨hn,xB_ (jK_ I.lt hb),I.nofs hb,.inr (jY_ I.sz hb),fun x c e z=>?_,fun p hp z=>?_⟩
 ·obtain⟨v,q⟩:=I.cell x c e;exact absurd (jK_ q.lt (by rw[z];exact hb)) (j9_ _)
 ·exact absurd (jK_ (ju_ (I.pin p hp).1) (by rw[z];exact hb)) (j9_ _)
structure Turn (P:Program)(w:World)(K:α3)(tg:Expr)(J:It)(fp:List Addr)(it:Addr)(tn:Nat->Heap->Prop):Prop where
 mem:it∈fp
 obj:∀i h,tn i h->∀b∈fp,∃o,h.get? b=some o/\∀v,o.data ≠ .cell v
 keep:∀i h h',tn i h->(∀b∈fp,∀o,h.get? b=some o->h'.get? b=some o)->tn i h'
 item:∀(X:Cx),X.prog=P->X.w=w->X.K=K->X.calm=true->∀(i:Nat) (aa:α7) (s:Shared) (σ:St) (H:Hp) (E:Value->Shared->Prop),Inv X aa σ H s->(∀b∈fp,FpOk X aa H b)->tn i s.heap->J.go i H ->
  wpAny (model P w) X.A (pyNext (.ref it)) (fun r s1=>∃u,r=some u /\
   wpAny (model P w) X.A (letOwnedTupleGo tg (.ref it) u) (fun _ s2=>∃x H',Inv X aa σ H' s2/\RelV x u/\J.yld i H x H'/\tn (i+1) s2.heap/\∀b∈fp,H' b=none) E s1) E s
 done:∀(X:Cx),X.prog=P->X.w=w->X.K=K->X.calm=true->∀(i:Nat) (aa:α7) (s:Shared) (σ:St) (H:Hp) (E:Value->Shared->Prop),Inv X aa σ H s->(∀b∈fp,FpOk X aa H b)->tn i s.heap->J.stop i H ->
  wpAny (model P w) X.A (pyNext (.ref it)) (fun r s1=>r=none/\Inv X aa σ H s1) E s
 self:∀(A:Around) (i:Nat) (s:Shared) (Q:Value->Shared->Prop) (E:Value->Shared->Prop),tn i s.heap->Q (.ref it) s->wpAny (model P w) A (pyIter (.ref it)) Q E s
noncomputable abbrev TI:=St->Hp->(It->Hp->Prop)->Prop
noncomputable def PIE (X:Cx)(aa:α7)(σ:St)(tg:Expr)(R:It->Hp->Prop)(kT:Value)(s2:Shared):Prop:=
 ∃(it:Addr) (fp:List Addr) (tn:Nat->Heap->Prop) (J:It) (H':Hp),kT=.ref it/\Inv X aa σ H' s2/\Turn X.prog X.w X.K tg J fp it tn/\tn 0 s2.heap/\(∀b∈fp,FpOk X aa H' b)/\R J H'
noncomputable def PI (X:Cx)(tg iter:Expr)(wi:TI):Prop:=
 ∀(aa:α7) (s:Shared) (σ:St) (H:Hp) (R:It->Hp->Prop),Inv X aa σ H s->wi σ H R ->
  wpAny (model X.prog X.w) X.A (eval iter X.env) (fun v s1=>wpAny (model X.prog X.w) X.A (pyIter v) (PIE X aa σ tg R) X.xe s1) X.xe s
def Qa {it:Addr} (ho:s.heap.get? it=some o)(hc:o.cls=.type n)(hd:o.data=.fields vs)
    (hn:["enumerate","zip","dict_itemiterator","dict_reverseitemiterator","odict_iterator","itertools.zip_longest","itertools.pairwise"].contains n=false) (hQ:Q () s):wpAny M A (letOwnedTupleGo tg (.ref it) u) Q E s:=by
  unfold letOwnedTupleGo;cases tg<;>first
    | exact jq_ hQ
    | (cases u<;>first
        | exact jq_ hQ
        | (refine je_ (wpAny_load ho ?_)
           rw[hc,hd];show wpAny M A (if (["enumerate","zip","dict_itemiterator","dict_reverseitemiterator","odict_iterator","itertools.zip_longest","itertools.pairwise"].contains n&&vs[0]? == some (rawInt _))=true then _ else _) Q E s;rw[if_neg (by intro h;rw[hn,qa]at h;cases h)];exact jq_ hQ))
noncomputable def Itl (K:α3)(a:Addr):It:=
 ⟨fun i H=>∃xs x,SqL K H a xs/\xs[i]?=some x,fun i H x H'=>H'=H/\∀xs,SqL K H a xs->xs[i]?=some x,fun i H=>∃xs,SqL K H a xs/\xs.length<=i⟩
noncomputable def Itt (K:α3)(a:Addr):It:=
 ⟨fun i H=>∃xs x,SqT K H a xs/\xs[i]?=some x,fun i H x H'=>H'=H/\∀xs,SqT K H a xs->xs[i]?=some x,fun i H=>∃xs,SqT K H a xs/\xs.length<=i⟩
noncomputable def Itr (lo:Int)(n:Nat):It:=⟨fun i _=>i<n,fun i H x H'=>H'=H/\x=.int (lo+i),fun i _=>n<=i⟩
def Md {P:Program}{w:World}{K:α3}{tg:Expr}(a it:Addr):Turn P w K tg (Itl K a) [it] it (fun i h=>h.IsListIter it a i) where
 mem:=by simp
 obj:=fun i h st b hb=>by
  have e:b=it:=by simpa using hb
  subst e;obtain⟨o,e,c,d⟩:=st;exact⟨o,e,fun v z=>by rw[d]at z;cases z⟩
 keep:=fun i h h' st k=>st.at fun o e=>k it (by simp) o e
 item:=by
  intro X hP hw hK hc i aa s σ H E I hf st hg;subst hP hw hK;obtain⟨xs,x,hq,hx⟩:=hg;obtain⟨its,rv,p,hz⟩:=I.list hq;obtain⟨u,hu,ru⟩:=rv.get hx;obtain⟨f0,f1,f2,f3,f4,f5⟩:=hf it (by simp);refine wpAny_pyNext_list_item st p.isList (x:=u) (by simpa using hu) fun h' bK sb=>?_;have I1:Inv X aa σ H {s with heap:=h' }:=I.turned (t':=s.toks) (fun b o hb e=>(sb.2 b hb).trans e) f0 f1 f3 f4 f5;obtain⟨o,e,c,d⟩:=id bK;exact⟨u,rfl,Qa (s:={s with heap:=h' }) e c d (by decide) ⟨x,H,I1,ru,⟨rfl,fun ys hy=>by rw[I.list_inj hy hq];exact hx⟩,bK,fun b hb=>(hf b hb).1⟩⟩
 done:=by
  intro X hP hw hK hc i aa s σ H E I hf st hg;subst hP hw hK;obtain⟨xs,hq,hx⟩:=hg;obtain⟨its,rv,p,hz⟩:=I.list hq;obtain⟨f0,f1,f2,f3,f4,f5⟩:=hf it (by simp);have hl:=rv.length;exact wpAny_pyNext_list_end (I.ok.hd hc) st p.isList (by simp;lia) fun h' eb=>⟨rfl,I.turned (t':=s.toks) (fun b o hb e=>eb b o hb e) f0 f1 f3 f4 f5⟩
 self:=fun _ _ _ _ _ st h=>wpAny_pyIter_listiter st h
def Ku {P:Program}{w:World}{K:α3}{tg:Expr}(a it:Addr):Turn P w K tg (Itt K a) [it] it (fun i h=>h.IsTupleIter it a i) where
 mem:=by simp
 obj:=fun i h st b hb=>by
  have e:b=it:=by simpa using hb
  subst e;obtain⟨o,e,c,d⟩:=st;exact⟨o,e,fun v z=>by rw[d]at z;cases z⟩
 keep:=fun i h h' st k=>st.at fun o e=>k it (by simp) o e
 item:=by
  intro X hP hw hK hc i aa s σ H E I hf st hg;subst hP hw hK;obtain⟨xs,x,hq,hx⟩:=hg;obtain⟨its,rv,p,hz⟩:=I.tuple hq;obtain⟨u,hu,ru⟩:=rv.get hx;obtain⟨f0,f1,f2,f3,f4,f5⟩:=hf it (by simp);refine wpAny_pyNext_tuple_item st (show s.heap.IsTuple a its.toArray from p) (x:=u) (by simpa using hu) fun h' bK sb=>?_;have I1:Inv X aa σ H {s with heap:=h' }:=I.turned (t':=s.toks) (fun b o hb e=>(sb.2 b hb).trans e) f0 f1 f3 f4 f5;obtain⟨o,e,c,d⟩:=id bK;exact⟨u,rfl,Qa (s:={s with heap:=h' }) e c d (by decide) ⟨x,H,I1,ru,⟨rfl,fun ys hy=>by rw[I.tuple_inj hy hq];exact hx⟩,bK,fun b hb=>(hf b hb).1⟩⟩
 done:=by
  intro X hP hw hK hc i aa s σ H E I hf st hg;subst hP hw hK;obtain⟨xs,hq,hx⟩:=hg;obtain⟨its,rv,p,hz⟩:=I.tuple hq;obtain⟨f0,f1,f2,f3,f4,f5⟩:=hf it (by simp);have hl:=rv.length;exact wpAny_pyNext_tuple_end (I.ok.hd hc) st (show s.heap.IsTuple a its.toArray from p) (by simp;lia) fun h' eb=>⟨rfl,I.turned (t':=s.toks) (fun b o hb e=>eb b o hb e) f0 f1 f3 f4 f5⟩
 self:=fun _ _ _ _ _ st h=>wpAny_pyIter_tupleiter st h
def OS {P:Program}{w:World}{K:α3}{tg:Expr}(it:Addr)(lo:Int)(n:Nat):Turn P w K tg (Itr lo n) [it] it (fun i h=>IsRangeIter h it (lo+(i:Nat)*1) ((n:Int)-(i:Nat)) 1) where
 mem:=by simp
 obj:=fun i h st b hb=>by
  have e:b=it:=by simpa using hb
  subst e;exact⟨_,st,fun v z=>by
   have z':Data.fields _=Data.cell v:=z;cases z'⟩
 keep:=fun i h h' st k=>k it (by simp) _ st
 item:=by
  intro X hP hw hK hc i aa s σ H E I hf st hg;subst hP hw hK;obtain⟨f0,f1,f2,f3,f4,f5⟩:=hf it (by simp);have W:=Walks.range (prog:=X.prog) (w:=X.w) (I.ok.hd hc) it lo 1 n;refine W.item i s _ _ hg st fun v h' tk hv bK kk=>?_;obtain⟨t,rfl⟩:=hv;have I1:Inv X aa σ H {s with heap:=h',toks:=tk}:=I.turned (fun b o hb e=>kk b o (by simpa using hb) e) f0 f1 f3 f4 f5;refine⟨_,rfl,Qa (s:={s with heap:=h',toks:=tk}) (n := "range_iterator") bK rfl rfl (by decide) ⟨.int (lo+i),H,I1,⟨t,?_⟩,⟨rfl,rfl⟩,bK,fun b hb=>(hf b hb).1⟩⟩;rw[wf_]
 done:=by
  intro X hP hw hK hc i aa s σ H E I hf st hg;subst hP hw hK;obtain⟨f0,f1,f2,f3,f4,f5⟩:=hf it (by simp);exact wpAny_pyNext_range_end (I.ok.hd hc) st (by have:n<=i:=hg;lia) fun h' eb=>⟨rfl,I.turned (t':=s.toks) (fun b o hb e=>eb b o hb e) f0 f1 f3 f4 f5⟩
 self:=fun _ _ _ _ _ st h=>wpAny_pyIter_rangeiter st h
end L2
namespace L2
open PySem PySem.Spec PyProof.Rows
section
variable {X:Cx} {tg:Expr}
noncomputable def U6 (K:α3)(tl:TE):TI:=fun σ H R=>tl σ H fun x H1=>∃a,x=.ref a/\(∃xs,SqL K H1 a xs)/\R (Itl K a) H1
noncomputable def iTup (K:α3)(tl:TE):TI:=fun σ H R=>tl σ H fun x H1=>∃a,x=.ref a/\(∃xs,SqT K H1 a xs)/\R (Itt K a) H1
def Ba (hl:PE X l tl):PI X tg l (U6 X.K tl):=by
 intro aa s σ H R I h;refine thn (hl aa s σ H _ I h) fun v s1 ⟨x,H1,I1,r1,q1⟩=>?_;obtain⟨a,e,⟨xs,hq⟩,q⟩:=q1;subst e;cases r1;obtain⟨its,rv,p,hz⟩:=I1.list hq;refine xV_ p.isList ?_;refine⟨s1.heap.objs.size,[s1.heap.objs.size],_,_,H1,rfl,I1.kept (t':=s1.toks) fun b o e=>jk_ _ e,Md a _,⟨_,jv_ _ rfl,rfl,rfl⟩,fun b hb=>?_,q⟩;have e:b=s1.heap.objs.size:=by simpa using hb
 subst e;exact I1.fpOk (jh_ _) (I1.hok.fresh (jh_ _))
def Cc (hl:PE X l tl):PI X tg l (iTup X.K tl):=by
 intro aa s σ H R I h;refine thn (hl aa s σ H _ I h) fun v s1 ⟨x,H1,I1,r1,q1⟩=>?_;obtain⟨a,e,⟨xs,hq⟩,q⟩:=q1;subst e;cases r1;obtain⟨its,rv,p,hz⟩:=I1.tuple hq;refine xk_ (show s1.heap.IsTuple a its.toArray from p) ?_;refine⟨s1.heap.objs.size,[s1.heap.objs.size],_,_,H1,rfl,I1.kept (t':=s1.toks) fun b o e=>jk_ _ e,Ku a _,⟨_,jv_ _ rfl,rfl,rfl⟩,fun b hb=>?_,q⟩;have e:b=s1.heap.objs.size:=by simpa using hb
 subst e;exact I1.fpOk (jh_ _) (I1.hok.fresh (jh_ _))
def N5 {lo hi:Int} (I:Inv X aa σ H s)(h1 : -(2 ^ 62)<=lo)(h2:lo<2 ^ 62)(h3 : -(2 ^ 62)<=hi)(h4:hi<2 ^ 62)
  (q:R (Itr lo (hi-lo).toNat) H):wpAny (model X.prog X.w) X.A (pyIter (.ref s.heap.objs.size)) (PIE X aa σ tg R) E {s with heap:=s.heap.push {cls:=.type "range",data:=.fields #[.int lo t,.int hi u,.int 1 v]},toks:=tk}:=by
 refine wpAny_pyIter_range (IsRange.new ..) (small_one h1 h2 h3 h4) ?_;have I1:Inv X aa σ H {s with heap:=s.heap.push {cls:=.type "range",data:=.fields #[.int lo t,.int hi u,.int 1 v]},toks:=tk}:=I.kept fun b o e=>jk_ _ e;refine⟨(s.heap.push {cls:=.type "range",data:=.fields #[.int lo t,.int hi u,.int 1 v]}).objs.size,[(s.heap.push {cls:=.type "range",data:=.fields #[.int lo t,.int hi u,.int 1 v]}).objs.size],_,_,H,rfl,
  I1.kept (t':=tk) fun b o e=>jk_ _ e,OS _ lo (hi-lo).toNat,?_,fun b hb=>?_,q⟩
 ·have e1:lo+((0:Nat):Int)*1=lo:=by simp
  have e2:(((hi-lo).toNat:Nat):Int)-((0:Nat):Int)=Builtin.Range.rangeSize lo hi 1:=by rw[rangeSize_one];split<;>lia
  show IsRangeIter _ _ (lo+((0:Nat):Int)*1) ((((hi-lo).toNat:Nat):Int)-((0:Nat):Int)) 1;rw[e1,e2];exact jv_ _ rfl
 ·have e:b=(s.heap.push {cls:=.type "range",data:=.fields #[.int lo t,.int hi u,.int 1 v]}).objs.size:=by simpa using hb
  subst e;exact I1.fpOk (jh_ _) (I1.hok.fresh (jh_ _))
noncomputable def WA (ta:TA):TI:=fun σ H R=>ta σ H fun vs H1=>∃j:Int,vs=[.int j] /\ -(2 ^ 62)<=j/\j<2 ^ 62/\R (Itr 0 j.toNat) H1
noncomputable def WB (ta:TA):TI:=fun σ H R=>ta σ H fun vs H1=>∃i j:Int,vs=[.int i,.int j]/\(-(2 ^ 62)<=i/\i<2 ^ 62 /\ -(2 ^ 62)<=j/\j<2 ^ 62)/\R (Itr i (j-i).toNat) H1
def AF (hg:Gl X "range")(hm:X.mg "range"=none)(ha:PA X [a] ta)(hs:starEach [a] X.env=[(false,eval a X.env)]:=by rfl):PI X tg (.Call (.Name "range" p) [a] [] pos) (WA ta):=by
 intro aa s σ H R I h;refine Call_ (Ee I hg hm boot_range (ql_ (thn (ha pos aa s σ H _ I h) fun us s1 ⟨vs,H1,I1,r1,q1⟩=>?_) hs rfl));obtain⟨j,e,q1,q2,q⟩:=q1;subst e;cases r1 with
 |cons r rr=>
  cases rr;obtain⟨t,rfl⟩:=r;exact call_range_1 (N5 I1 s!"" s!"" q1 q2 (by simpa using q))
def Qb (hg:Gl X "range")(hm:X.mg "range"=none)(ha:PA X [a,b] ta)(hs:starEach [a,b] X.env=[(false,eval a X.env),(false,eval b X.env)]:=by rfl)(bE:starEach [b] X.env=[(false,eval b X.env)]:=by rfl):
  PI X tg (.Call (.Name "range" p) [a,b] [] pos) (WB ta):=by
 intro aa s σ H R I h;refine Call_ (Ee I hg hm boot_range (ql_ (thn (ha pos aa s σ H _ I h) fun us s1 ⟨vs,H1,I1,r1,q1⟩=>?_) (by rw[hs,bE]) (by rw[bE];rfl)));obtain⟨i,j,e,⟨q1,q2,q3,q4⟩,q⟩:=q1;subst e;cases r1 with
 |cons r rr=>
  cases rr with
  |cons r' rr=>
   cases rr;obtain⟨t,rfl⟩:=r;obtain⟨t',rfl⟩:=r';exact call_range_2 (N5 I1 q1 q2 q3 q4 q)
noncomputable def tFor (wi:TI)(g:TG)(tb:TS):TS:=fun D σ H=>wi σ H fun J H1=>∃W:Nat->Nat->St->Hp->Prop,(∃m,W 0 m σ H1)/\∀i m σ H,W i m σ H ->
 (J.stop i H/\D.nx σ H)\/(J.go i H/\∃N:St->Hp->Prop,(∀af H',N af H'->∃m',m'<m/\W (i+1) m' af H')/\∀x H',J.yld i H x H'->g x σ H' fun ag H2=>tb {D with nx:=N,ct:=N,bk:=D.nx} ag H2)
noncomputable def Me (fp:List Addr)(h:Heap):α7:=fp.filterMap fun b=>(h.get? b).map fun o=>(b,o)
def E3 (hb:b∈fp)(e:h.get? b=some o):(b,o)∈Me fp h:=z3_.mpr ⟨b,hb,by rw[e];rfl⟩
def Qc (hp:p∈Me fp h):p.1∈fp/\h.get? p.1=some p.2:=by
 obtain⟨b,hb,e⟩:=z3_.mp hp;cases q:h.get? b with
 |none=>rw[q]at e;cases e
 |some o=>
  rw[q]at e;have e':(b,o)=p:=jC_ e;subst e';exact⟨hb,q⟩
def Inv.pinned (I:Inv X aa σ H s)(hf:∀b∈fp,FpOk X aa H b)(ho:∀b∈fp,∃o,s.heap.get? b=some o/\∀v,o.data ≠ .cell v):Inv X (aa++Me fp s.heap) σ H s:=
 I.pins_of fun p hp=>(jH_.mp hp).elim (fun z=>I.pin p (jV_ _ z)) fun z=>by
  obtain⟨hb,e⟩:=Qc z;obtain⟨f0,f1,f2,_⟩:=hf p.1 hb;obtain⟨o,e',d⟩:=ho p.1 hb;rw[e]at e';cases e';exact⟨e,f0,f1,f2,d⟩
def Inv.unpinned (I:Inv X (aa++pl) σ H s):Inv X aa σ H s:=I.pins_of fun p hp=>I.pin p (jV_ _ (jQ_ _ hp))
def A3 {iter:Expr} {wi:TI} (hp:PassesOwn (model X.prog X.w) X.A X.env X.xe)(hc:X.calm=true)(hi:PI X tg iter wi)(hg:PG X tg g)(hb:PSs X body tb)
  (hs:∀x,foldedSetIterable iter X.env x=pure x:=by intro _;rfl):PS X (.For tg iter body [] pos) (tFor wi g tb):=by
 intro aa s σ H D I h;refine wpAny_For (thn (hi aa s σ H _ I h) fun v s1 h1=>thn h1 fun kT s2 h2=>?_) hs;obtain⟨it,fp,tn,J,H2,e,I2,T,jR,f2,W,⟨m0,w0⟩,cX⟩:=h2;subst e
 -- what stays true of dE iterator's objects through dE loop
 have dF:∀{H':Hp},(∀b∈fp,H' b=none)->∀b∈fp,FpOk X aa H' b:=fun hn b hb=>⟨hn b hb,(f2 b hb).2⟩;refine codeAny_forLoop_any (fun n s'=>∃i af H',Inv X aa af H' s'/\tn i s'.heap/\(∀b∈fp,H' b=none)/\W i n af H') ?_ m0 ⟨0,σ,H2,I2,jR,fun b hb=>(f2 b hb).1,w0⟩;rintro n s3 ⟨i,aJ,H3,I3,jS,kU,w3⟩;rcases cX i n aJ H3 w3 with ⟨stop,qn⟩|⟨go,N,hN,step⟩
 ·refine xt_ hp (thn (T.done X rfl rfl rfl hc i aa s3 aJ H3 X.xe I3 (dF kU) jS stop) fun r s4 ⟨hr,I4⟩=>?_);subst hr;exact xL_ ⟨aJ,H3,I4,qn⟩
 ·refine xt_ hp (thn (T.item X rfl rfl rfl hc i aa s3 aJ H3 X.xe I3 (dF kU) jS go) fun r s4 ⟨u,hr,h4⟩=>?_);subst hr;refine xt_ hp (thn h4 fun _ s5 ⟨x,H5,I5,r5,y5,gG,mB⟩=>?_);have mD:=I5.pinned (dF mB) (T.obj _ _ gG);refine xt_ hp (thn (hg _ s5 aJ H5 x u _ mD r5 (step x H5 y5)) fun _ s6 ⟨gH,H6,I6,q6⟩=>?_);refine xt_ hp (thn (hb _ s6 gH H6 _ I6 q6) fun f s7 q7=>?_);have again:∀{dt:St} {H7:Hp},Inv X (aa++Me fp s5.heap) dt H7 s7->N dt H7->∃m,m<n/\∃i af H',Inv X aa af H' s7/\tn i s7.heap/\(∀b∈fp,H' b=none)/\W i m af H':=fun {dt H7} I7 n7=>by
   obtain⟨m',hm,w7⟩:=hN dt H7 n7;refine⟨m',hm,i+1,dt,H7,I7.unpinned,T.keep _ _ _ gG fun b hb o e=>(I7.pin (b,o) (jV_ _ (jV_ _ (E3 hb e)))).1,fun b hb=>?_,w7⟩;obtain⟨o,e,d⟩:=T.obj _ _ gG b hb;exact (I7.pin (b,o) (jV_ _ (jV_ _ (E3 hb e)))).2.1
  cases f with
  |next=>obtain⟨dt,H7,I7,n7⟩:=q7;exact again I7 n7
  |cont=>obtain⟨dt,H7,I7,n7⟩:=q7;exact again I7 n7
  |brk=>obtain⟨dt,H7,I7,q7⟩:=q7;exact⟨dt,H7,I7.unpinned,q7⟩
  |ret v=>obtain⟨x7,dt,H7,I7,r7,q7⟩:=q7;exact⟨x7,dt,H7,I7.unpinned,r7,q7⟩
end
def Sl {K:α3}{a:Addr}{xs:List V}{g:TG}{tb:TS}{D:Ends}{σ:St}{H:Hp}(Pv:Nat->St->Hp->Prop)(h0:Pv 0 σ H)(hl:∀i σ H,i<=xs.length->Pv i σ H->SqL K H a xs)
  (hs:∀i x σ H,xs[i]?=some x->Pv i σ H->g x σ H fun ag H2=>tb {D with nx:=Pv (i+1),ct:=Pv (i+1),bk:=D.nx} ag H2) (hd:∀σ H,Pv xs.length σ H->D.nx σ H):
  ∃W:Nat->Nat->St->Hp->Prop,(∃m,W 0 m σ H)/\∀i m σ H,W i m σ H ->
   ((Itl K a).stop i H/\D.nx σ H)\/((Itl K a).go i H/\∃N:St->Hp->Prop,(∀af H',N af H'->∃m',m'<m/\W (i+1) m' af H')/\∀x H',(Itl K a).yld i H x H'->g x σ H' fun ag H2=>tb {D with nx:=N,ct:=N,bk:=D.nx} ag H2):=by
 refine⟨fun i m σ H=>m=xs.length-i/\i<=xs.length/\Pv i σ H,⟨xs.length,by simp,qs_ _,h0⟩,?_⟩;rintro i m σ H ⟨rfl,hi,p⟩;have q:=hl i σ H hi p;by_cases ao:i<xs.length
 ·refine .inr ⟨⟨xs,xs[i],q,by simp[ao]⟩,Pv (i+1),fun af H' p'=>⟨xs.length-(i+1),by lia,rfl,ao,p'⟩,fun x H' y=>?_⟩;obtain⟨e,y⟩:=y;subst e;exact hs i x σ _ (y xs q) p
 ·have e:i=xs.length:=by lia
  subst e;exact .inl ⟨⟨xs,q,jh_ _⟩,hd σ H p⟩
def U7 {K:α3}{a:Addr}{xs:List V}{g:TG}{tb:TS}{D:Ends}{σ:St}{H:Hp}(Pv:Nat->St->Hp->Prop)(h0:Pv 0 σ H)(hl:∀i σ H,i<=xs.length->Pv i σ H->SqT K H a xs)
  (hs:∀i x σ H,xs[i]?=some x->Pv i σ H->g x σ H fun ag H2=>tb {D with nx:=Pv (i+1),ct:=Pv (i+1),bk:=D.nx} ag H2) (hd:∀σ H,Pv xs.length σ H->D.nx σ H):
  ∃W:Nat->Nat->St->Hp->Prop,(∃m,W 0 m σ H)/\∀i m σ H,W i m σ H ->
   ((Itt K a).stop i H/\D.nx σ H)\/((Itt K a).go i H/\∃N:St->Hp->Prop,(∀af H',N af H'->∃m',m'<m/\W (i+1) m' af H')/\∀x H',(Itt K a).yld i H x H'->g x σ H' fun ag H2=>tb {D with nx:=N,ct:=N,bk:=D.nx} ag H2):=by
 refine⟨fun i m σ H=>m=xs.length-i/\i<=xs.length/\Pv i σ H,⟨xs.length,by simp,qs_ _,h0⟩,?_⟩;rintro i m σ H ⟨rfl,hi,p⟩;have q:=hl i σ H hi p;by_cases ao:i<xs.length
 ·refine .inr ⟨⟨xs,xs[i],q,by simp[ao]⟩,Pv (i+1),fun af H' p'=>⟨xs.length-(i+1),by lia,rfl,ao,p'⟩,fun x H' y=>?_⟩;obtain⟨e,y⟩:=y;subst e;exact hs i x σ _ (y xs q) p
 ·have e:i=xs.length:=by lia
  subst e;exact .inl ⟨⟨xs,q,jh_ _⟩,hd σ H p⟩
def Qd {lo:Int}{n:Nat}{g:TG}{tb:TS}{D:Ends}{σ:St}{H:Hp}(Pv:Nat->St->Hp->Prop)(h0:Pv 0 σ H)
  (hs:∀i σ H,i<n->Pv i σ H->g (.int (lo+i)) σ H fun ag H2=>tb {D with nx:=Pv (i+1),ct:=Pv (i+1),bk:=D.nx} ag H2) (hd:∀σ H,Pv n σ H->D.nx σ H):
  ∃W:Nat->Nat->St->Hp->Prop,(∃m,W 0 m σ H)/\∀i m σ H,W i m σ H ->
   ((Itr lo n).stop i H/\D.nx σ H)\/((Itr lo n).go i H/\∃N:St->Hp->Prop,(∀af H',N af H'->∃m',m'<m/\W (i+1) m' af H')/\∀x H',(Itr lo n).yld i H x H'->g x σ H' fun ag H2=>tb {D with nx:=N,ct:=N,bk:=D.nx} ag H2):=by
 refine⟨fun i m σ H=>m=n-i/\i<=n/\Pv i σ H,⟨n,by simp,qs_ _,h0⟩,?_⟩;rintro i m σ H ⟨rfl,hi,p⟩;by_cases ao:i<n
 ·refine .inr ⟨ao,Pv (i+1),fun af H' p'=>⟨n-(i+1),by lia,rfl,ao,p'⟩,fun x H' y=>?_⟩;obtain⟨e,y⟩:=y;subst e y;exact hs i σ _ ao p
 ·have e:i=n:=by lia
  subst e;exact .inl ⟨jh_ _,hd σ H p⟩
end L2
namespace L2
open PySem PySem.Spec PyProof.Rows
noncomputable abbrev R2:=V->V->Hp->VK->Prop
noncomputable def OpR (X:Cx)(f:Value->Value->Sem Value)(r:R2):Prop:=
 ∀(aa:α7) (s:Shared) (σ:St) (H:Hp) (x y:V) (v u:Value) (Q:VK),Inv X aa σ H s->RelV x v->RelV y u->r x y H Q ->
  wpAny (model X.prog X.w) X.A (f v u) (EP X aa σ Q) X.xe s
noncomputable def UnR (X:Cx)(f:Value->Sem Value)(r:V->Hp->VK->Prop):Prop:=
 ∀(aa:α7) (s:Shared) (σ:St) (H:Hp) (x:V) (v:Value) (Q:VK),Inv X aa σ H s->RelV x v->r x H Q ->
  wpAny (model X.prog X.w) X.A (f v) (EP X aa σ Q) X.xe s
noncomputable def Cd (X:Cx)(f:Value)(r:List V->Hp->VK->Prop):Prop:=
 ∀(aa:α7) (s:Shared) (σ:St) (H:Hp) (xs:List V) (us:List Value) (Q:VK),Inv X aa σ H s->Vals xs us->r xs H Q ->
  wpAny (model X.prog X.w) X.A (call f us) (EP X aa σ Q) X.xe s
noncomputable def tOp (r:R2)(ta tb:TE):TE:=fun σ H Q=>ta σ H fun x H1=>tb σ H1 fun y H2=>r x y H2 Q
noncomputable def tUn (r:V->Hp->VK->Prop)(ta:TE):TE:=fun σ H Q=>ta σ H fun x H1=>r x H1 Q
noncomputable def rI (C:Int->Int->Prop)(g:Int->Int->V):R2:=fun x y H Q=>∃i j,x=.int i/\y=.int j/\C i j/\Q (g i j) H
noncomputable def rI0 (g:Int->Int->V):R2:=fun x y H Q=>∃i j,x=.int i/\y=.int j/\Q (g i j) H
noncomputable def rU (g:Int->V):V->Hp->VK->Prop:=fun x H Q=>∃i,x=.int i/\Q (g i) H
section
variable {X:Cx} {a b c:Expr} {ta tb tc:TE} {pos:Pos}
def binT (ha:PE X a ta)(hb:PE X b tb){aa:α7}{s:Shared}{σ:St}{H:Hp}{R:V->V->Hp->Prop}(I:Inv X aa σ H s)
  (h:ta σ H fun x H1=>tb σ H1 fun y H2=>R x y H2) {Q:Value->Shared->Prop} {f:Value->Value->Sem Value}
  (hf:∀v u s2 x y H2,Inv X aa σ H2 s2->RelV x v->RelV y u->R x y H2->wpAny (model X.prog X.w) X.A (f v u) Q X.xe s2):
  wpAny (model X.prog X.w) X.A (eval a X.env) (fun v s₁=>wpAny (model X.prog X.w) X.A (eval b X.env) (fun u bo=>wpAny (model X.prog X.w) X.A (f v u) Q X.xe bo) X.xe s₁) X.xe s:=by
 refine thn (ha aa s σ H _ I h) fun v s1 ⟨x,H1,I1,r1,q1⟩=>?_;refine thn (hb aa s1 σ H1 _ I1 q1) fun u s2 ⟨y,H2,I2,r2,q2⟩=>?_;exact hf v u s2 x y H2 I2 r1 r2 q2
def As (ho:OpR X (binaryOp op) r)(ha:PE X a ta)(hb:PE X b tb):PE X (.BinOp a op b pos) (tOp r ta tb):=by
 intro aa s σ H Q I h;exact wpAny_BinOp (binT ha hb I h fun v u s2 x y H2 I2 rx ry q=>ho aa s2 σ H2 x y v u Q I2 rx ry q)
def OT (ho:UnR X (unaryOp op) r)(ha:PE X a ta):PE X (.UnaryOp op a pos) (tUn r ta):=by
 intro aa s σ H Q I h;exact UnaryOp_ (thn (ha aa s σ H _ I h) fun v s1 ⟨x,H1,I1,r1,q1⟩=>ho aa s1 σ H1 x v Q I1 r1 q1)
def opI {f:Value->Value->Sem Value}{C:Int->Int->Prop}{g:Int->Int->Int}
  (rule:∀(i j:Int) (t u:Tok) (s:Shared) (Q:Value->Shared->Prop) (E:Value->Shared->Prop),C i j->Q (.int (g i j) s.toks) {s with toks:=s.toks+1}->wpAny (model X.prog X.w) X.A (f (.int i t) (.int j u)) Q E s):
  OpR X f (rI C fun i j=>.int (g i j)):=by
 intro aa s σ H x y v u Q I rx ry h;obtain⟨i,j,rfl,rfl,hc,q⟩:=h;obtain⟨t,rfl⟩:=rx;obtain⟨t',rfl⟩:=ry;exact rule i j t t' s _ _ hc ⟨.int (g i j),H,I.tok _,⟨_,rfl⟩,q⟩
def opI0 {f:Value->Value->Sem Value}{g:Int->Int->Int}
  (rule:∀(i j:Int) (t u:Tok) (s:Shared) (Q:Value->Shared->Prop) (E:Value->Shared->Prop),Q (.int (g i j) s.toks) {s with toks:=s.toks+1}->wpAny (model X.prog X.w) X.A (f (.int i t) (.int j u)) Q E s):
  OpR X f (rI0 fun i j=>.int (g i j)):=by
 intro aa s σ H x y v u Q I rx ry h;obtain⟨i,j,rfl,rfl,q⟩:=h;obtain⟨t,rfl⟩:=rx;obtain⟨t',rfl⟩:=ry;exact rule i j t t' s _ _ ⟨.int (g i j),H,I.tok _,⟨_,rfl⟩,q⟩
def opB0 {f:Value->Value->Sem Value}{g:Int->Int->Bool}
  (rule:∀(i j:Int) (t u:Tok) (s:Shared) (Q:Value->Shared->Prop) (E:Value->Shared->Prop),Q (.bool (g i j)) s->wpAny (model X.prog X.w) X.A (f (.int i t) (.int j u)) Q E s):
  OpR X f (rI0 fun i j=>.bl (g i j)):=by
 intro aa s σ H x y v u Q I rx ry h;obtain⟨i,j,rfl,rfl,q⟩:=h;obtain⟨t,rfl⟩:=rx;obtain⟨t',rfl⟩:=ry;exact rule i j t t' s _ _ ⟨.bl (g i j),H,I,rfl,q⟩
noncomputable def CDiv (i j:Int):Prop:=0<j/\j<1073741824
noncomputable def CPow (i j:Int):Prop:=0<=j/\j<=1000000/\i.natAbs<2 ^ 64
noncomputable def CMul (i j:Int):Prop:=(-(2 ^ 64)<i/\i<2 ^ 64)\/(-(2 ^ 64)<j/\j<2 ^ 64)
def CMul.ok (h:CMul i j):IntMulOk i j:=by
 rcases h with ⟨h1,h2⟩|⟨h1,h2⟩
 ·exact .of_left (intBits_le_64 h1 h2)
 ·exact .of_right (intBits_le_64 h1 h2)
def Cp:OpR X (binaryOp .Add) (rI0 fun i j=>.int (i+j)):=opI0 fun _ _ _ _ _ _ _ q=>add_int q
def N6:OpR X (binaryOp .Sub) (rI0 fun i j=>.int (i-j)):=opI0 fun _ _ _ _ _ _ _ q=>sub_int q
def BU:OpR X (binaryOp .Mult) (rI CMul fun i j=>.int (i*j)):=opI fun _ _ _ _ _ _ _ hc q=>mul_int q hc.ok
def C3:OpR X (binaryOp .FloorDiv) (rI CDiv fun i j=>.int (i / j)):=opI fun i j _ _ _ _ _ hc q=>by
 have h1:(0:Int)<j:=hc.1;have h2:j<1073741824:=hc.2;exact floordiv_int s!"" (by rw[pC i s!""];exact q) (.inl (PyProof.noPylong_small s!""))
def AS:OpR X (binaryOp .Mod) (rI (fun _ j=>0<j) fun i j=>.int (i%j)):=opI fun i j _ _ _ _ _ hc q=>by
 have h1:(0:Int)<j:=hc;exact mod_int' s!"" (by rw[Int.fmod_eq_emod_of_nonneg i s!""];exact q)
def N7:OpR X (binaryOp .Pow) (rI CPow fun i j=>.int (i ^ j.toNat)):=opI fun _ _ _ _ _ _ _ hc q=>pow_int_small hc.1 hc.2.1 hc.2.2 q
def unI {f:Value->Sem Value}{g:Int->Int}
  (rule:∀(i:Int) (t:Tok) (s:Shared) (Q:Value->Shared->Prop) (E:Value->Shared->Prop),Q (.int (g i) s.toks) {s with toks:=s.toks+1}->wpAny (model X.prog X.w) X.A (f (.int i t)) Q E s):
  UnR X f (rU fun i=>.int (g i)):=by
 intro aa s σ H x v Q I rx h;obtain⟨i,rfl,q⟩:=h;obtain⟨t,rfl⟩:=rx;exact rule i t s _ _ ⟨.int (g i),H,I.tok _,⟨_,rfl⟩,q⟩
def Kv:UnR X (unaryOp .USub) (rU fun i=>.int (-i)):=unI fun _ _ _ _ _ q=>neg_int q
end
noncomputable def scal:V->V->Bool
 |.non,.non=>true | .non,.int _=>true | .int _,.non=>true | .non,.bl _=>true | .bl _,.non=>true | .non,.str _=>true | .str _,.non=>true
 |.int _,.int _=>true | .bl _,.bl _=>true | .str _,.str _=>true | .byt _,.byt _=>true
 |.int _,.str _=>true | .str _,.int _=>true | .bl _,.str _=>true | .str _,.bl _=>true
 |_,_=>false
noncomputable def rEq:R2:=fun x y H Q=>scal x y=true/\Q (.bl (decide (x=y))) H
noncomputable def rNe:R2:=fun x y H Q=>scal x y=true/\Q (.bl (!decide (x=y))) H
def Qe : decide (V.int i=V.int j)=(i==j):=by
 rw[qx_];simp
def TR : decide (V.bl i=V.bl j)=(i==j):=by
 rw[qx_];simp
def Qf : decide (V.str i=V.str j)=(i==j):=by
 rw[qx_];simp
def Qg : decide (V.byt i=V.byt j)=(i.toList==j.toList):=by
 rw[qx_];cases i;cases j;simp
section
variable {X:Cx} {a b c:Expr} {ta tb tc:TE} {pos:Pos}
def AZ (I:Inv X aa σ H s)(q:Q (.bl k) H)(e:k=k'):EP X aa σ Q (.bool k') s:=by
 subst e;exact⟨.bl k,H,I,rfl,q⟩
def FH:OpR X (compareOp .Eq) rEq:=by
 intro aa s σ H x y v u Q I rx ry h;obtain⟨hs,q⟩:=h;cases x with
 |non=>
  cases rx;cases y with
  |non=>cases ry;exact rK (AZ I q (by simp))
  |bl j=>cases ry;exact rL (AZ I q (by simp))
  |int j=>obtain⟨t',rfl⟩:=ry;exact rX (AZ I q (by simp))
  |str j=>obtain⟨t',rfl⟩:=ry;exact rY (AZ I q (by simp))
  |_=>exact absurd (show false=true from hs) jx_
 |bl i=>
  cases rx;cases y with
  |non=>cases ry;exact rM (AZ I q (by simp))
  |bl j=>cases ry;exact eq_bool (AZ I q TR)
  |str j=>obtain⟨t',rfl⟩:=ry;exact rN (AZ I q (by simp))
  |_=>exact absurd (show false=true from hs) jx_
 |int i=>
  obtain⟨t,rfl⟩:=rx;cases y with
  |non=>cases ry;exact rZ (AZ I q (by simp))
  |int j=>obtain⟨t',rfl⟩:=ry;exact eq_int (AZ I q Qe)
  |str j=>obtain⟨t',rfl⟩:=ry;exact r9 (AZ I q (by simp))
  |_=>exact absurd (show false=true from hs) jx_
 |str i=>
  obtain⟨t,rfl⟩:=rx;cases y with
  |non=>cases ry;exact se (AZ I q (by simp))
  |bl j=>cases ry;exact rO (AZ I q (by simp))
  |int j=>obtain⟨t',rfl⟩:=ry;exact sf (AZ I q (by simp))
  |str j=>obtain⟨t',rfl⟩:=ry;exact eq_str (AZ I q Qf)
  |_=>exact absurd (show false=true from hs) jx_
 |byt i=>
  obtain⟨t,rfl⟩:=rx;cases y with
  |byt j=>obtain⟨t',rfl⟩:=ry;exact t8 (AZ I q Qg)
  |_=>exact absurd (show false=true from hs) jx_
 |_=>cases y<;>exact absurd (show false=true from hs) jx_
def FJ:OpR X (compareOp .NotEq) rNe:=by
 intro aa s σ H x y v u Q I rx ry h;obtain⟨hs,q⟩:=h;cases x with
 |non=>
  cases rx;cases y with
  |non=>cases ry;exact rP (AZ I q (by simp))
  |bl j=>cases ry;exact rQ (AZ I q (by simp))
  |int j=>obtain⟨t',rfl⟩:=ry;exact si (AZ I q (by simp))
  |str j=>obtain⟨t',rfl⟩:=ry;exact sj (AZ I q (by simp))
  |_=>exact absurd (show false=true from hs) jx_
 |bl i=>
  cases rx;cases y with
  |non=>cases ry;exact rR (AZ I q (by simp))
  |bl j=>cases ry;exact ne_bool (AZ I q (xd_ not TR))
  |str j=>obtain⟨t',rfl⟩:=ry;exact rS (AZ I q (by simp))
  |_=>exact absurd (show false=true from hs) jx_
 |int i=>
  obtain⟨t,rfl⟩:=rx;cases y with
  |non=>cases ry;exact sm (AZ I q (by simp))
  |int j=>obtain⟨t',rfl⟩:=ry;exact ne_int (AZ I q (xd_ not Qe))
  |str j=>obtain⟨t',rfl⟩:=ry;exact sr (AZ I q (by simp))
  |_=>exact absurd (show false=true from hs) jx_
 |str i=>
  obtain⟨t,rfl⟩:=rx;cases y with
  |non=>cases ry;exact su (AZ I q (by simp))
  |bl j=>cases ry;exact rT (AZ I q (by simp))
  |int j=>obtain⟨t',rfl⟩:=ry;exact sv (AZ I q (by simp))
  |str j=>obtain⟨t',rfl⟩:=ry;exact ne_str (AZ I q (xd_ not Qf))
  |_=>exact absurd (show false=true from hs) jx_
 |byt i=>
  obtain⟨t,rfl⟩:=rx;cases y with
  |byt j=>obtain⟨t',rfl⟩:=ry;exact ub (AZ I q (xd_ not Qg))
  |_=>exact absurd (show false=true from hs) jx_
 |_=>cases y<;>exact absurd (show false=true from hs) jx_
def Lb:OpR X (compareOp .Lt) (rI0 fun i j=>.bl (decide (i<j))):=opB0 fun _ _ _ _ _ _ _ q=>lt_int q
def WD:OpR X (compareOp .LtE) (rI0 fun i j=>.bl (decide (i<=j))):=opB0 fun _ _ _ _ _ _ _ q=>le_int q
def Mf:OpR X (compareOp .Gt) (rI0 fun i j=>.bl (decide (j<i))):=opB0 fun _ _ _ _ _ _ _ q=>gt_int q
def Ye:OpR X (compareOp .GtE) (rI0 fun i j=>.bl (decide (j<=i))):=opB0 fun _ _ _ _ _ _ _ q=>ge_int q
def WE:OpR X (compareOp .Is) (fun x y H Q=>y=.non/\Q (.bl (decide (x=.non))) H):=by
 intro aa s σ H x y v u Q I rx ry h;obtain⟨rfl,q⟩:=h;cases ry;refine is_none_gen (AZ I q ?_);cases x<;>first
  | (cases rx;rfl)
  | (obtain⟨t,rfl⟩:=rx;rfl)
def Qh:OpR X (compareOp .IsNot) (fun x y H Q=>y=.non/\Q (.bl (!decide (x=.non))) H):=by
 intro aa s σ H x y v u Q I rx ry h;obtain⟨rfl,q⟩:=h;cases ry;refine isnot_none_gen (AZ I q ?_);cases x<;>first
  | (cases rx;rfl)
  | (obtain⟨t,rfl⟩:=rx;rfl)
def AB (b:Expr) (h:op ≠ .In:=by decide)(h2:op ≠ .NotIn:=by decide):behindInMarks op b=false:=by
 have e1:(op==CmpOp.In)=false:=by cases op<;>first|rfl|exact absurd rfl h
 have e2:(op==CmpOp.NotIn)=false:=by cases op<;>first|rfl|exact absurd rfl h2
 cases b<;>simp[behindInMarks,e1,e2]
def Jh (ho:OpR X (compareOp op) r)(ha:PE X a ta)(hb:PE X b tb)(hm:behindInMarks op b=false):PE X (.Compare a [op] [b] pos) (tOp r ta tb):=by
 intro aa s σ H Q I h;exact wpAny_Compare1 (binT ha hb I h fun v u s2 x y H2 I2 rx ry q=>ho aa s2 σ H2 x y v u Q I2 rx ry q) hm
noncomputable def Sn (t:TE):TT:=fun σ H Q=>t σ H fun x H'=>∃k,x=.bl k/\Q k H'
def Ax (ho:OpR X (compareOp op) r)(ha:PE X a ta)(hb:PE X b tb)(hm:behindInMarks op b=false):PT X (.Compare a [op] [b] pos) (Sn (tOp r ta tb)):=by
 intro aa s σ H Q I h;refine wpAny_isTrue_Compare1 (thn (ha aa s σ H _ I h) fun v s1 ⟨x,H1,I1,r1,q1⟩=>thn (hb aa s1 σ H1 _ I1 q1) fun u s2 ⟨y,H2,I2,r2,q2⟩ =>
  thn (ho aa s2 σ H2 x y v u _ I2 r1 r2 q2) fun c s3 ⟨z,H3,I3,r3,k,e,q3⟩=>?_) hm
 subst e;cases r3;exact xf_ ⟨H3,I3,q3⟩
noncomputable def TU (r r':R2)(ta tb tc:TE):TE:=fun σ H Q=>ta σ H fun x H1=>tb σ H1 fun y H2=>r x y H2 fun z H3=>∃k,z=.bl k /\
 (if k=true then tc σ H3 fun w' H4=>r' y w' H4 Q else Q (.bl false) H3)
def N8 (ho:OpR X (compareOp op) r)(bf:OpR X (compareOp op') r')(ha:PE X a ta)(hb:PE X b tb)(hc:PE X c tc)
  (hm:lastMarks [op,op'] [b,c]=false:=by with_unfolding_all rfl):PE X (.Compare a [op,op'] [b,c] pos) (TU r r' ta tb tc):=by
 intro aa s σ H Q I h;refine Compare_chain (thn (ha aa s σ H _ I h) fun v s1 ⟨x,H1,I1,r1,q1⟩=>chain_link (thn (hb aa s1 σ H1 _ I1 q1) fun u s2 ⟨y,H2,I2,r2,q2⟩ =>
  thn (ho aa s2 σ H2 x y v u _ I2 r1 r2 q2) fun d s3 ⟨z,H3,I3,r3,k,e,q3⟩=>?_)) hm
 subst e;cases r3;refine xf_ ?_;cases k with
 |false=>exact ite_ff ⟨.bl false,H3,I3,rfl,q3⟩
 |true=>exact ite_tt (chain_last (thn (hc aa s3 σ H3 _ I3 q3) fun w' s4 ⟨z',H4,I4,r4,q4⟩=>bf aa s4 σ H4 y z' u w' Q I4 r2 r4 q4))
def Mg:(sizeLine:Nat)<2 ^ 63:=by rw[sizeLine_eq];decide
def vals1 (r:Vals [x] us):∃u,us=[u]/\RelV x u:=by
 cases r with
 |cons r1 r2=>cases r2;exact⟨_,rfl,r1⟩
def vals2 (r:Vals [x,y] us):∃u w',us=[u,w']/\RelV x u/\RelV y w':=by
 cases r with
 |cons r1 r2=>
  cases r2 with
  |cons r3 r4=>cases r4;exact⟨_,_,rfl,r1,r3⟩
def Mh (hc:X.calm=true):Cd X (.builtin "max") (fun xs H Q=>∃i j,xs=[.int i,.int j]/\Q (.int (if j > i then j else i)) H):=by
 intro aa s σ H xs us Q I r h;obtain⟨i,j,rfl,q⟩:=h;obtain⟨u,w',rfl,⟨t,rfl⟩,⟨t',rfl⟩⟩:=vals2 r;refine max_two_ints (I.ok.hd hc) fun h' tk k=>⟨_,H,I.kept k,?_,q⟩;by_cases hj:j > i
 ·rw[if_pos hj,if_pos hj];exact⟨_,rfl⟩
 ·rw[if_neg hj,if_neg hj];exact⟨_,rfl⟩
def Qi:Cd X (.type "int") (fun xs H Q=>(∃i,xs=[.int i]/\Q (.int i) H) \/ ∃k,xs=[.bl k]/\Q (.int (if k then 1 else 0)) H):=by
 intro aa s σ H xs us Q I r h;rcases h with ⟨i,rfl,q⟩|⟨k,rfl,q⟩
 ·obtain⟨u,rfl,t,rfl⟩:=vals1 r;exact call_int_int ⟨.int i,H,I,⟨_,rfl⟩,q⟩
 ·obtain⟨u,rfl,r1⟩:=vals1 r;cases r1;exact call_int_bool ⟨.int (if k then 1 else 0),H,I.tok _,⟨_,rfl⟩,q⟩
end
end L2
namespace L2
open PySem PySem.Spec PyProof.Rows
structure ObjM (h:Heap)(x dx C:Addr)(mA:Str->α5):Prop where
 obj:h.get? x=some (pT C dx)
 ns:h.Ns1 dx mA
 ne:dx≠x
def Qj {h:Heap}{dx:Addr}{mA:Str->α5}(n:h.Ns1 dx mA):∃od,h.get? dx=some od/\∀name,qb name od=some (mA name):=by
 obtain⟨o,es,ep,ho,hd,hk,_,hm⟩:=n;refine⟨o,ho,fun name=>?_⟩;have e:=hm name;unfold nsFind findBy at e;rw[<-Array.find?_toList]at e;unfold qb;rw[hd];dsimp only;split
 ·rename_i y q
  rw[q]at e;exact xd_ some e
 ·rename_i q
  rw[q]at e;have a:es.toList.any (·.refKey)=false:=by
   rw[qH];intro y hy;obtain⟨z,t,hkey⟩:=hk y (Array.mem_toList_iff.mp hy);simp[DictEntry.refKey,hkey]
  have a':¬ es.toList.any (·.refKey)=true:=by rw[a];exact jx_
  rw[if_neg a'];exact xd_ some e
def ObjM.look (I:ObjM h x dx C mA):∃od,uo h x (pT C dx) C (some od)/\∀name,qb name od=some (mA name):=
 let ⟨od,ho,hl⟩:=Qj I.ns
 ⟨od,⟨I.obj,rfl,rfl,ho⟩,hl⟩
def RelO.some_of (r:RelO (some v) o):∃u,o=some u/\RelV v u:=by
 cases o with
 |none=>exact (show False from r).elim
 |some u=>exact⟨u,rfl,r⟩
section
variable {P:Program} {w:World} {H H':Hp} {h h':Heap} {a C dx:Addr} {fs fs':List (Str×V)}
def U8 (hok:HOk P w H h)(e:H a=some (.ins C dx fs)):∃mA,ObjM h a dx C mA/\(∀f,RelO (fs.lookup f) (mA f))/\sU mA (fs.map (·.1))/\fs.length<=1000/\H dx=some (.own a):=by
 obtain⟨d,z,ne,ob,mA,n,r,q⟩:=(show AU P w H h a (.ins C dx fs) from hok a _ e);exact⟨mA,⟨ob,n,ne⟩,r,q,z,d⟩
end
structure Cls (K:α3)(C:Addr):Prop where
 pg:qU K C Str.empty=true
 hd:tV K C=true
 po:tW K C=true
 sa:pB K (.ref C) "__setattr__"=some (some (.builtin "object.__setattr__"))
def Cls.get {K:α3} (c:Cls K C)(f:Str):qU K C f=true:=c.pg
section
variable {X:Cx} {aa:α7} {σ:St} {H:Hp} {s:Shared} {A:Around} {E:Value->Shared->Prop} {Q:Value->Shared->Prop} {c:Value} {b:Bool}
inductive TyOf (K:α3)(H:Hp):V->Value->Prop where
 | non:TyOf K H .non (.type "NoneType")
 | bl (x:Bool):TyOf K H (.bl x) (.type "bool")
 | int (i:Int):TyOf K H (.int i) (.type "int")
 | str (x:Str):TyOf K H (.str x) (.type "str")
 | flt (x:UInt64):TyOf K H (.flt x) (.type "float")
 | lst {a:Addr} {xs:List V} (e:H a=some (.lst xs)):TyOf K H (.ref a) (.type "list")
 | frz {a:Addr} {o:Obj} {xs:List V} (e:H a=some (.frz o (.lst xs))):TyOf K H (.ref a) (.type "list")
 | tup {a:Addr} {xs:List V} (e:H a=some (.tup xs)):TyOf K H (.ref a) (.type "tuple")
 | dK {a:Addr} {kvs:List (Key×V)} (e:H a=some (.dK kvs)):TyOf K H (.ref a) (.type "dict")
 | dT {a:Addr} {kvs:List (List Key×V)} (e:H a=some (.dT kvs)):TyOf K H (.ref a) (.type "dict")
 | ins {a C dx:Addr} {fs:List (Str×V)} (e:H a=some (.ins C dx fs)) (cl:Cls K C) (ha:pB K (.ref C) "__class__"=some (some (.builtin "object.__class__")))
   (hn:qI K (.builtin "object.__class__") "__get__"=some (some (.builtin "getset_descriptor.__get__"))) (dG:rA K (.builtin "object.__class__")=some true)
   (hm:qu K C (.type "object")=some true):TyOf K H (.ref a) (.ref C)
def Qk (I:Inv X aa σ H s)(rx:RelV x u)(ty:TyOf X.K H x t)(e:kitOne X.K t c=some b)(h:∀tk,Q (.bool b) {s with toks:=tk}):
  wpAny (model X.prog X.w) A (call (.builtin "isinstance") [u,c]) Q E s:=by
 cases ty with
 |non=>cases (show u=Value.none from rx);exact qy_ tX I.kIn oX e (fun z=>nomatch z) h
 |bl y=>cases (show u=Value.bool y from rx);exact qy_ tY I.kIn oX e (fun z=>nomatch z) h
 |int i=>obtain⟨t,q⟩:=(show ∃t,u=Value.int i t from rx);cases q;exact qy_ uc I.kIn oX e (fun z=>nomatch z) h
 |str y=>obtain⟨t,q⟩:=(show ∃t,u=Value.str y t from rx);cases q;exact qy_ uf I.kIn oX e (fun z=>nomatch z) h
 |flt y=>obtain⟨t,q⟩:=(show ∃t,u=Value.float y t from rx);cases q;exact qy_ tR I.kIn oX e (fun z=>nomatch z) h
 |@lst a xs ea=>
  cases (show u=Value.ref a from rx);obtain⟨_,_,n,_,h1⟩:=(show AU X.prog X.w H s.heap a (.lst xs) from I.hok a _ ea);exact qy_ z9_ I.kIn ⟨_,h1,rfl⟩ e (fun z=>nomatch z) h
 |@frz a ob xs ea=>
  cases (show u=Value.ref a from rx);obtain⟨_,_,_,n,_,h1⟩:=(show AU X.prog X.w H s.heap a (.frz ob (.lst xs)) from I.hok a _ ea);exact qy_ z9_ I.kIn ⟨_,h1,rfl⟩ e (fun z=>nomatch z) h
 |@tup a xs ea=>
  cases (show u=Value.ref a from rx);obtain⟨_,_,_,p⟩:=(show AU X.prog X.w H s.heap a (.tup xs) from I.hok a _ ea);obtain⟨o,h1,h2,_⟩:=p;exact qy_ qA I.kIn ⟨o,h1,h2⟩ e (fun z=>nomatch z) h
 |@dK a kvs ea=>
  cases (show u=Value.ref a from rx);obtain⟨_,_,vs,_,p⟩:=(show AU X.prog X.w H s.heap a (.dK kvs) from I.hok a _ ea);obtain⟨o,es,ep,h1,h2,_⟩:=p;exact qy_ qJ I.kIn ⟨o,h1,h2.1⟩ e (fun z=>nomatch z) h
 |@dT a kvs ea=>
  cases (show u=Value.ref a from rx);obtain⟨_,_,xs,_,o,es,ep,h1,h2,_⟩:=(show AU X.prog X.w H s.heap a (.dT kvs) from I.hok a _ ea);exact qy_ qJ I.kIn ⟨o,h1,h2.1⟩ e (fun z=>nomatch z) h
 |@ins a C dx fs ea cl ha hn dG hm=>
  cases (show u=Value.ref a from rx);obtain⟨mA,O,_⟩:=U8 I.hok ea;obtain⟨od,J,_⟩:=O.look;exact qy_ (ug (cl.get _) cl.hd ha hn dG hm) I.kIn J e (fun z=>nomatch z) h
end
end L2
namespace L2
open PySem PySem.Spec PyProof.Rows
structure Room (k:Nat)(A:Around):Prop where
 hd:A.handled=none
 dp:A.depth+3*k+5<recursionLimit
 un:A.units+16*k+200<cLine
def Room.mono (r:Room k A)(h:j<=k):Room j A:=⟨r.hd,by have:=r.dp;lia,by have:=r.un;lia⟩
def Room.deeper (r:Room (k+1) A)(env:Env):Room k (A.deeper env):=
 ⟨r.hd,by have:=r.dp;show A.depth+1+3*k+5<_;lia,by have:=r.un;show A.units+3+16*k+200<_;lia⟩
def Room.depth (r:Room k A):A.depth<recursionLimit:=by have:=r.dp;lia
def Room.units (r:Room k A):A.units+64<cLine:=by have:=r.un;lia
noncomputable def tNil:TA:=fun _ H Q=>Q [] H
noncomputable def WG (ta:TE)(tr:TA):TA:=fun σ H Q=>ta σ H fun x H1=>tr σ H1 fun xs H2=>Q (x::xs) H2
section
variable {X:Cx} {e:Expr} {es:List Expr} {te:TE} {t:TA} {pos:Pos}
def Ac:PA X [] tNil:=fun _ _ _ _ H Q I h=>Calls.spliced_nil ⟨[],H,I,.nil,h⟩
def Aa (ha:PE X e te)(hr:PA X es t)(hs:starEach (e::es) X.env=(false,eval e X.env)::starEach es X.env:=by rfl):PA X (e::es) (WG te t):=by
 intro pos aa s σ H Q I h;rw[hs];show wpAny _ _ (spliced ((false,eval e X.env)::backTo pos (starEach es X.env))) _ _ s;refine Calls.spliced_cons (thn (ha aa s σ H _ I h) fun u s1 ⟨x,H1,I1,r1,q1⟩=>?_);exact thn (hr pos aa s1 σ H1 _ I1 q1) fun us s2 ⟨xs,H2,I2,r2,q2⟩=>⟨x::xs,H2,I2,.cons r1 r2,q2⟩
noncomputable def tTup (t:TA):TE:=fun σ H Q=>t σ H fun xs H1=>xs.length<=sizeLine/\∀p,H1 p=none->Q (.ref p) (upd H1 p (.tup xs))
noncomputable def tLst (t:TA):TE:=fun σ H Q=>t σ H fun xs H1=>xs.length<=sizeLine/\∀p,H1 p=none->Q (.ref p) (upd H1 p (.lst xs))
def AW {x1}(h:PA X es t):PE X (.Tuple es x1 pos) (tTup t):=by
 intro aa s σ H Q I hq;refine wpAny_Tuple_spliced (thn (h pos aa s σ H _ I hq) fun us s1 ⟨xs,H1,I1,r,z,q⟩=>⟨by rw[<-r.length];exact z,?_⟩);have hf:H1 s1.heap.objs.size=none:=I1.hok.fresh (jh_ _);refine⟨.ref s1.heap.objs.size,upd H1 s1.heap.objs.size (.tup xs),I1.laid (t':=s1.toks) (fun b u e=>jk_ _ e) (jh_ _) ?_,rfl,q _ hf⟩;exact⟨z,us,r,⟨_,jv_ _ rfl,rfl,_,rfl⟩⟩
def CU (h:PA X es t):PE X (.List es pos) (tLst t):=by
 intro aa s σ H Q I hq;refine wpAny_List_spliced (thn (h pos aa s σ H _ I hq) fun us s1 ⟨xs,H1,I1,r,z,q⟩=>⟨by rw[<-r.length];exact z,?_⟩);have hf:H1 s1.heap.objs.size=none:=I1.hok.fresh (jh_ _);refine⟨.ref s1.heap.objs.size,upd H1 s1.heap.objs.size (.lst xs),I1.laid (t':=s1.toks) (fun b u e=>jk_ _ e) (jh_ _) ?_,rfl,q _ hf⟩;exact⟨z,us,0,r,jv_ _ rfl⟩
end
noncomputable abbrev Sp:=List V->Hp->VK->XK->Prop
noncomputable abbrev CXT:=List Env->Hp->Shared->XK->Value->Shared->Prop
structure Env0 (P:Program)(w:World)(K:α3)(mg:Str->α5)(base:Heap)(A:Around)(outer:List Env)(s:Shared)(H:Hp):Prop where
 frames:A.frames=some outer
 mod:Mod K mg base
 bs:∀b o,base.get? b=some o->s.heap.get? b=some o/\H b=none
 bsz:base.objs.size<=s.heap.objs.size
 funs:s.heap.FunFrames base outer
 frf:∀b∈frs outer,H b=none
 hok:HOk P w H s.heap
 bare:AllBare s.gens
noncomputable def CE (outer:List Env)(P:Program)(w:World)(H:Hp)(s:Shared)(Q:VK)(u:Value)(s':Shared):Prop:=
 ∃v H',s'.os=s.os/\AllBare s'.gens/\Un (frs outer) [] H H' s.heap s'.heap/\HOk P w H' s'.heap/\RelV v u/\Q v H'
noncomputable def CR (CX:CXT)(outer:List Env)(P:Program)(w:World)(H:Hp)(s:Shared)(Q:VK)(E:XK)(r:Result)(s':Shared):Prop:=
 match r with
 |.ok (.ret u)=>CE outer P w H s Q u s'
 |.ok _=>False
 |.error e=>CX outer H s E e s'
structure FnOk (P:Program)(w:World)(K:α3)(mg:Str->α5)(base:Heap)(CX:CXT)(k:Nat)(f:Addr)(fd:α6)(ps:List Str)(sp:Sp):Prop where
 len:∀vs H Q E,sp vs H Q E->vs.length=ps.length
 run:∀(A:Around) (outer:List Env) (s:Shared) (H:Hp) (args:Args) (us:List Value) (vs:List V) (Q:VK) (E:XK),Room k A->Env0 P w K mg base A outer s H->BindsTo s fd args (ps.zip us)->Vals vs us->sp vs H Q E ->
  codeAny (model P w) A (.call (.ref f) args) (CR CX outer P w H s Q E) s
section
variable {X:Cx} {aa:α7} {σ:St} {H:Hp} {s s':Shared}
def Inv.env0 (I:Inv X aa σ H s):Env0 X.prog X.w X.K X.mg X.base X.A X.stack s H:=
 ⟨I.ok.frames,I.ok.mod,I.bs,jY_ I.ok.bsz I.sz,I.stack,I.stkFree,I.hok,I.bare⟩
def Inv.after (I:Inv X aa σ H s)(h:CE X.stack X.prog X.w H s Q u s'):EP X aa σ Q u s':=by
 obtain⟨v,H',os,bare,un,hok,r,q⟩:=h;obtain⟨hh,g,d,t,os'⟩:=s';obtain rfl:os'=s.os:=os;exact⟨v,H',I.call (h':=hh) (g':=g) (d':=d) (t':=t) (ch:=[]) un hok bare (fun b z=>absurd z (by simp)),r,q⟩
end
noncomputable def U9 (sp:Sp)(bL:List V)(E:XK)(t:TA):TE:=fun σ H Q=>t σ H fun vs H1=>sp (vs++bL) H1 Q E
noncomputable def Binds (K:α3)(fd:α6)(ps:List Str)(ds:List Value):Prop:=
 ∀(s:Shared) (us:List Value),K.In s.heap->(us++ds).length=ps.length->BindsTo s fd ⟨us,[]⟩ (ps.zip (us++ds))
def Binds.all {K:α3} (h:∀us:List Value,us.length=ps.length->bindArgs fd ⟨us,[]⟩=pure (ps.zip us)):Binds K fd ps []:=fun s us _ hl=>by
 rw[xu_]at hl ⊢;exact .of_eq (h us hl)
noncomputable def Kw (CX:CXT)(X:Cx)(E:XK):Prop:=∀(aa:α7) (σ:St) (H:Hp) (s:Shared) (e:Value) (s':Shared),Inv X aa σ H s->CX X.stack H s E e s'->X.xe e s'
section
variable {X:Cx} {CX:CXT} {k:Nat} {f C:Addr} {fd:α6} {ps:List Str} {sp:Sp} {bL:List V} {ds:List Value} {E:XK} {x m:Str} {p pos bp:Pos} {e o:Expr} {es:List Expr} {ta:TE} {t:TA}
def WH (F:FnOk X.prog X.w X.K X.mg X.base CX k f fd ps sp)(hr:Room k X.A)(hb:Binds X.K fd ps ds)(hd:Vals bL ds)(hx:Kw CX X E)
  (I:Inv X aa σ H s) (r:Vals vs us) (h:sp (vs++bL) H Q E):wpAny (model X.prog X.w) X.A (call (.ref f) us) (EP X aa σ Q) X.xe s:=by
 have r2:Vals (vs++bL) (us++ds):=r.append hd;have hl:(us++ds).length=ps.length:=by rw[<-r2.length];exact F.len _ _ _ _ h
 refine wpAny_call (codeAny_mono (F.run X.A X.stack s H ⟨us,[]⟩ (us++ds) (vs++bL) Q E hr I.env0 (hb s us I.kIn hl) r2 h) fun r s' hq=>?_);cases r with
 |error e=>exact hx aa σ H s e s' I hq
 |ok fl=>
  cases fl with
  |ret u=>exact I.after hq
  |next=>exact pd hq
  |brk=>exact pd hq
  |cont=>exact pd hq
def Va (F:FnOk X.prog X.w X.K X.mg X.base CX k f fd ps sp)(hr:Room k X.A)(hg:Gl X x)(hm:X.mg x=some (.ref f))(hk:keepIn X.K (.ref f)=true)(hb:Binds X.K fd ps ds)(hd:Vals bL ds)(hx:Kw CX X E)
  (ha:PA X (e::es) t) (b6:(x==("__debug__" : Str))=false:=by decide) (he:starEach (e::es) X.env=(false,eval e X.env)::starEach es X.env:=by rfl) (bg:(backTo pos (starEach es X.env)).any (·.1)=false:=by rfl):
  PE X (.Call (.Name x p) (e::es) [] pos) (U9 sp bL E t):=by
 intro aa s σ H Q I h;refine xl_ (Jf I hg hm ?_ b6);refine zj_ (h₀:=X.base) I.ok.mod.kin hk (thn (ha pos aa s σ H _ I h) fun us s1 ⟨vs,H1,I1,r,q⟩=>⟨I1.kIn,?_⟩) he bg;exact WH F hr hb hd hx I1 r q
end
structure FnScope (N P:List Str)(sc:Scope):Prop where
 kind:sc.kind=.function
 co:sc.isCoroutine=false
 gen:sc.isGenerator=false
 nd:N.Nodup
 pre:N.take P.length=P
 par:∀x∈P,sc.names.lookup x=some .local\/sc.names.lookup x=some .cell
 nofree:∀y∈sc.names,y.2 ≠ .free
def Mi {kindOf:Str->Option NameKind}{x:Str}:∀{binds:List (Str×Value)} {m:Str->α5},(∀v,(x,v)∉binds)->bindL kindOf binds m x=m x
 |[],_,_=>rfl
 | (n,v)::r,m,h=>by
  unfold bindL;rw[Mi fun w hw=>h w (jA_ _ hw)];split
  ·have:x≠n:=by rintro rfl;exact h v jL_
   simp[this]
  ·rfl
def Mj {kindOf:Str->Option NameKind}{x:Str}:∀{binds:List (Str×Value)} {m:Str->α5},(∀v,(x,v)∉binds)->bindC kindOf binds m x=m x
 |[],_,_=>rfl
 | (n,v)::r,m,h=>by
  unfold bindC;rw[Mj fun w hw=>h w (jA_ _ hw)];split
  ·rfl
  ·have:x≠n:=by rintro rfl;exact h v jL_
   simp[this]
def Ml {kindOf:Str->Option NameKind}{x:Str}{v:Value}:∀{P:List Str} {vs:List Value} {i:Nat} {m:Str->α5},P.Nodup->P[i]?=some x->vs[i]?=some v->kindOf x=some .local ->
  bindL kindOf (P.zip vs) m x=some v
 |[],_,_,_,_,h,_,_=>by simp at h
 |_::_,[],_,_,_,_,h,_=>by simp at h
 |p::P,w::vs,0,m,nd,h1,h2,hk=>by
  simp at h1 h2;subst h1;subst h2;show bindL kindOf ((p,w)::P.zip vs) m p=_;unfold bindL;rw[Mi fun v hv=>(xM_.mp nd).1 (pV hv).1,if_pos hk];simp
 |p::P,w::vs,i+1,m,nd,h1,h2,hk=>by
  show bindL kindOf ((p,w)::P.zip vs) m x=_;unfold bindL;exact Ml (i:=i) (xM_.mp nd).2 (by simpa using h1) (by simpa using h2) hk
def Mm {kindOf:Str->Option NameKind}{x:Str}{v:Value}:∀{P:List Str} {vs:List Value} {i:Nat} {m:Str->α5},P.Nodup->P[i]?=some x->vs[i]?=some v->kindOf x≠some .local ->
  bindC kindOf (P.zip vs) m x=some v
 |[],_,_,_,_,h,_,_=>by simp at h
 |_::_,[],_,_,_,_,h,_=>by simp at h
 |p::P,w::vs,0,m,nd,h1,h2,hk=>by
  simp at h1 h2;subst h1;subst h2;show bindC kindOf ((p,w)::P.zip vs) m p=_;unfold bindC;rw[Mj fun v hv=>(xM_.mp nd).1 (pV hv).1,if_neg hk];simp
 |p::P,w::vs,i+1,m,nd,h1,h2,hk=>by
  show bindC kindOf ((p,w)::P.zip vs) m x=_;unfold bindC;exact Mm (i:=i) (xM_.mp nd).2 (by simpa using h1) (by simpa using h2) hk
noncomputable def start (N:List Str)(vs:List V):St:=vs.map some++oU (N.length-vs.length) none
noncomputable def cxOf (CX:CXT)(P:Program)(w:World)(K:α3)(mg:Str->α5)(base:Heap)(N:List Str)(qual:Str)(scope:Scope)(f:Addr)(cd:Value)(A:Around)(outer:List Env)(s:Shared)(H:Hp)(E:XK):Cx where
 prog:=P
 w:=w
 K:=K
 mg:=mg
 base:=base
 A:=A.deeper (envOfC qual scope s.heap.objs.size f cd)
 N:=N
 s₀:=s
 H₀:=H
 env:=envOfC qual scope s.heap.objs.size f cd
 outer:=outer
 stack:=envOfC qual scope s.heap.objs.size f cd::outer
 ex:=[]
 calm:=true
 fn:=fun _=>true
 pn:=[]
 xe:=fun e s'=>wpAny (model P w) (A.deeper (envOfC qual scope s.heap.objs.size f cd)) (leaving (envOfC qual scope s.heap.objs.size f cd) e) (fun _ ik=>CX outer H s E e ik) (fun e' ik=>CX outer H s E e' ik) s'
def N9 {sc:Scope}{n:Nat}{x:Str}(h:sc.names.lookup x=some .cell):∃c,(cellsFrom n sc.names []).lookup x=some c:=by
 have q:=zq_ sc.names n [] (.inl h);exact qD_.mp q
def Ql {K:α3}
  (S:FnScope N ps scope) (hd:A.handled=none) (e0:Env0 P w K mg base A outer s H) (hl:vs.length=ps.length) (r:Vals vs us)
  (x:InCallC s s.heap.objs.size (bindL (envOfC qual scope s.heap.objs.size f cd).kindOf (ps.zip us) fun _=>none) (cellsFrom (s.heap.objs.size+1) scope.names []) (bindC (envOfC qual scope s.heap.objs.size f cd).kindOf (ps.zip us) fun _=>none) s1):
  Inv (cxOf CX P w K mg base N qual scope f cd A outer s H E) [] (start N vs) H s1:=by
 have bg:ps.length<=N.length:=by have:=xd_ rn S.pre;rw[jz_]at this;lia
 obtain⟨h1,tk,rfl,hk⟩:=x.done;have jT:∀b:Addr,b∉(cxOf CX P w K mg base N qual scope f cd A outer s H E).ex:=fun b z=>absurd (show b∈([]:List Addr) from z) (by simp);refine⟨⟨e0.mod,S.kind,rfl,rfl,jh_ _,fun y z c h1 h2=>?_,fun y hy=>?_,fun y c _ h=>?_,fun _=>hd,Around.frames_deeper e0.frames,.inr ⟨rfl,rfl⟩,fun b z=>absurd z (jT b),e0.bs,e0.bsz,fun b _ _=>jT b,fun b z=>absurd z (jT b),e0.funs,e0.frf⟩,
  rfl,e0.bare,Un.kept hk,⟨_,x.toInCall.ns,fun i y v h1 h2 h3=>?_⟩,fun y c h=>⟨_,x.cell y c h⟩,e0.hok.fresh (jh_ _),fun y c h=>?_,fun p hp=>absurd (show p∈([]:α7) from hp) (by simp),e0.hok.kept hk,?_⟩
 ·exact name_of_addr x.apart (qF_ h1) (qF_ h2)
 ·have hy:scope.names.lookup y=some .cell\/scope.names.lookup y=some .free:=hy;rcases hy with hy|hy
  ·exact N9 hy
  ·exact absurd rfl (S.nofree _ (qF_ hy))
 ·exact pL (x.above y c (qF_ h))
 ·have hi:i<vs.length:=by
   unfold start at h2;by_cases hi:i<vs.length
   ·exact hi
   ·rw[jp_ (by simpa using hi)]at h2;rw[qY_]at h2;split at h2<;>cases h2
  have ha:vs[i]?=some v:=by
   unfold start at h2;rw[jm_ (by simpa using hi),jf_]at h2;cases e:vs[i]? with
   |none=>rw[e]at h2;cases h2
   |some a=>rw[e]at h2;cases h2;rfl
  obtain⟨u,hu,rv⟩:=r.get ha;have hp:ps[i]?=some y:=by
   rw[<-S.pre,pF s!""];exact h1
  have ndP:ps.Nodup:=by rw[<-S.pre];exact S.nd.sublist (List.take_sublist _ _)
  refine⟨u,rv,?_⟩;rcases S.par y (jj_ hp) with k|k
  ·exact .inl ⟨k,Ml ndP hp hu k⟩
  ·obtain⟨c,e⟩:=N9 (n:=s.heap.objs.size+1) k;refine .inr ⟨.inl k,c,e,?_⟩;have q:=x.cell y c e;rw[Mm ndP hp hu (by show scope.names.lookup y≠_;rw[k];decide)]at q;exact q
 ·exact e0.hok.fresh (pL (x.above y c (qF_ h)))
 ·unfold start;show _=N.length;rw[ji_,ja_,q6_];lia
def WI {K:α3} {dV kV bF pm ai ct oc:Value}
       (lk:K.lookup f=some ⟨oc,od,.func (fnOf name qual params body scope dV kV bF pm an ai ct),ip⟩) (bZ:qc K ai qual=true) (S:FnScope N ps scope)
    (len:∀vs H Q E,sp vs H Q E->vs.length=ps.length)
    (aK:∀(A:Around) (outer:List Env) (s:Shared) (H:Hp) (vs:List V) (Q:VK) (E:XK),Room k (A.deeper (envOfC qual scope s.heap.objs.size f ai))->sp vs H Q E ->
      ∃t,PSs (cxOf CX P w K mg base N qual scope f ai A outer s H E) body t/\t {nx:=fun _ H'=>Q .non H',rt:=Q} (start N vs) H):
    FnOk P w K mg base CX (k+1) f (fnOf name qual params body scope dV kV bF pm an ai ct) ps sp:=by
  refine⟨len,fun A outer s H args us vs Q E hr e0 hb r bx=>?_⟩;have hl:=len _ _ _ _ bx;have KX:K.In s.heap:=e0.mod.kin.keeps fun b o e=>(e0.bs b o e).1;have lim:s.heap.NoLimit:=e0.mod.nolimit.keeps fun b o e=>(e0.bs b o e).1;have hkind:∀y∈ps.zip us,scope.names.lookup y.1=some .local\/(scope.names.lookup y.1=some .cell/\((cellsFrom (s.heap.objs.size+1) scope.names []).lookup y.1).isSome=true):=fun ⟨n,v⟩ hy=>by
    rcases S.par n (pV hy).1 with q|q
    . exact .inl q
    . exact .inr ⟨q,zq_ _ _ _ (.inl q)⟩
  refine codeAny_call_function hr.depth (KX _ _ lk) rfl S.co S.gen rfl (tS KX bZ) (hb _ _ _ _ ?_);refine wpAny_newFunctionEnv_cells S.kind hkind fun env he s1 x=>?_;subst he;refine⟨lim.keeps x.toInCall.keep,codeAny_func ?_⟩;obtain⟨t,ht,hq⟩:=aK A outer s H vs Q E (hr.deeper _) bx;have I:Inv (cxOf CX P w K mg base N qual scope f ai A outer s H E) [] (start N vs) H s1:=Ql S hr.hd e0 hl r x;refine q9_ (ht [] s1 (start N vs) H _ I hq) (fun fl s' hs=>?_) fun e s' hs=>hs;have aN:∀{af:St} {H':Hp} {v:V} {u:Value},Inv (cxOf CX P w K mg base N qual scope f ai A outer s H E) [] af H' s'->RelV v u->Q v H'->CE outer P w H s Q u s' :=
    fun {af H' v u} J rv q=>⟨v,H',J.os,J.bare,J.base,J.hok,rv,q⟩
  cases fl with
  |ret u=>
    obtain⟨v,af,H',J,rv,q⟩:=hs;exact aN J rv q
  |next=>
    obtain⟨af,H',J,q⟩:=hs;exact aN (v:=V.non) (u:=Value.none) J rfl q
  |brk=>
    obtain⟨_,_,_,q⟩:=hs;exact pd q
  |cont=>
    obtain⟨_,_,_,q⟩:=hs;exact pd q
end L2
namespace L2
open PySem PySem.Spec PyProof.Rows
section
variable {X:Cx} {x:Str} {p pos:Pos} {e:Expr} {es:List Expr} {t:TA} {id T:String} {r:List V->Hp->VK->Prop}
noncomputable def tCB (r:List V->Hp->VK->Prop)(t:TA):TE:=fun σ H Q=>t σ H fun vs H1=>r vs H1 Q
def Am (hc:Cd X (.builtin id) r)(hg:Gl X x)(hm:X.mg x=none)(hv:bootBuiltins x=some (.builtin id))(ha:PA X (e::es) t)(hn:x ≠ "__name__" := by decide)(b6:(x==("__debug__" : Str))=false:=by decide)
  (he:starEach (e::es) X.env=(false,eval e X.env)::starEach es X.env:=by rfl) (bg:(backTo pos (starEach es X.env)).any (·.1)=false:=by rfl):PE X (.Call (.Name x p) (e::es) [] pos) (tCB r t):=by
 intro aa s σ H Q I h;refine xl_ (Ee I hg hm hv ?_ hn b6);exact qV (thn (ha pos aa s σ H _ I h) fun us s1 ⟨vs,H1,I1,r1,q1⟩=>hc aa s1 σ H1 vs us Q I1 r1 q1) he bg
def Ar (hc:Cd X (.type T) r)(hg:Gl X x)(hm:X.mg x=none)(hv:bootBuiltins x=some (.type T))(ha:PA X (e::es) t)(hn:x ≠ "__name__" := by decide)(b6:(x==("__debug__" : Str))=false:=by decide)
  (he:starEach (e::es) X.env=(false,eval e X.env)::starEach es X.env:=by rfl) (bg:(backTo pos (starEach es X.env)).any (·.1)=false:=by rfl):PE X (.Call (.Name x p) (e::es) [] pos) (tCB r t):=by
 intro aa s σ H Q I h;refine xl_ (Ee I hg hm hv ?_ hn b6);exact ql_ (thn (ha pos aa s σ H _ I h) fun us s1 ⟨vs,H1,I1,r1,q1⟩=>hc aa s1 σ H1 vs us Q I1 r1 q1) he bg
end
end L2
namespace HT
open PySem PyProof.Rows
section
variable {prog:Program} {w:World} {A:Around} {E:Value->Shared->Prop} {s:Shared}
def cat_tup (ht:IsTup s.heap t vs.toArray)(hb:IsTup s.heap b ws.toArray)(hv:vs ≠ [])
  (h1:ws=[]->Q (.ref t) s) (h2:ws ≠ []->Q (.ref s.heap.objs.size) {s with heap:=s.heap.push {cls:=.type "tuple",data:=.seq (vs++ws).toArray} })
  (hsz:vs.length+ws.length<=sizeLine):wpAny (model prog w) A (binaryOp .Add (.ref t) (.ref b)) Q E s:=by
 obtain⟨⟨cls,dd,data,sl⟩,ho,hc,n,hd⟩:=id ht;obtain⟨⟨cls2,kW,data2,kX⟩,fv,dH,n2,fR⟩:=id hb;simp only at hc hd dH fR;subst hc hd dH fR;have e:vs.toArray++ws.toArray=(vs++ws).toArray:=by simp
 by_cases hw:ws=[]
 ·exact concat_meets ⟨_,ho,rfl⟩ ⟨_,fv,rfl⟩ noFill_tuple_add seq_tuple_add zr_ zk_ (zc_ _ _)
   (tuple_addW1 t b vs.toArray ws.toArray n n2 dd kW sl kX (by simpa using hv) (by simp[hw])) ⟨ho,fv,h1 hw⟩
 ·refine concat_meets ⟨_,ho,rfl⟩ ⟨_,fv,rfl⟩ noFill_tuple_add seq_tuple_add zr_ zk_ (zc_ _ _)
   (tuple_addW2 t b vs.toArray ws.toArray n n2 dd kW sl kX (by simpa using hv) (by simpa using hw) (by rw[jl_,jl_];exact hsz)) ⟨ho,fv,?_⟩
  rw[e];exact h2 hw
noncomputable def sIx (n d:Nat):Option Int->Nat
 |none=>d
 |some v=>if v<0 then (v+(n:Int)).toNat else min v.toNat n
def sIx_none (n d:Nat):sIx n d none=d:=rfl
def sIx_nat (n d k:Nat):sIx n d (some (k:Int))=min k n:=by
 show (if (k:Int)<0 then ((k:Int)+(n:Int)).toNat else min (k:Int).toNat n)=min k n;rw[if_neg s!"",jU_]
def WJ (n d:Nat)(hd:d<=n)(o:Option Int):sIx n d o<=n:=by
 cases o with
 |none=>exact hd
 |some v=>
  show (if v<0 then (v+(n:Int)).toNat else min v.toNat n)<=n;by_cases hv:v<0
  ·rw[if_pos hv];lia
  ·rw[if_neg hv];exact Nat.min_le_right _ _
def Qm (v:Int)(n d:Nat):(if v<0 then max (v+(n:Int)) 0 else min v (n:Int))=((sIx n d (some v):Nat):Int):=by
 show (if v<0 then max (v+(n:Int)) 0 else min v (n:Int))=(((if v<0 then (v+(n:Int)).toNat else min v.toNat n):Nat):Int);by_cases hv:v<0
 ·simp only[if_pos hv];lia
 ·simp only[if_neg hv];lia
def OU (lo hi:Option Int)(n:Nat):Builtin.Slice.sliceAdjust lo hi 1 (n:Int)=(((sIx n 0 lo:Nat):Int),((sIx n n hi:Nat):Int)):=by
 have h1:¬ ((1:Int)<0):=by lia
 unfold Builtin.Slice.sliceAdjust;simp only[h1,x6_];refine Prod.ext ?_ ?_
 ·cases lo with
  |none=>rfl
  |some v=>exact Qm v n 0
 ·cases hi with
  |none=>rfl
  |some v=>exact Qm v n n
def OV (i j:Nat):Builtin.Slice.slicePlaces (i:Int) (j:Int) 1=j-i:=by
 unfold Builtin.Slice.slicePlaces;have h1:(1:Int) > 0:=by lia
 simp only[h1,wi_,Int.ediv_one];split<;>lia
def Kx (p:IsPart v o)(h:Q o s):wpAny (model prog w) A (Builtin.Slice.slicePartIndex v) Q E s:=by
 cases p with
 |none=>exact slicePart_none h
 |int i t=>exact slicePart_int h
def DT {sl:Addr}{vl vu:Value}{lo hi:Option Int}{n:Nat}{Q:Int×Int×Nat->Shared->Prop}(hs:s.heap.IsSliceOf sl vl vu .none)(pl:IsPart vl lo)(pu:IsPart vu hi)
  (h:Q (((sIx n 0 lo:Nat):Int),1,sIx n n hi-sIx n 0 lo) s):wpAny (model prog w) A (Builtin.Slice.sliceApplied (.ref sl) (pure (n:Int))) Q E s:=by
 obtain⟨os,fS,kY,jU⟩:=id hs;unfold Builtin.Slice.sliceApplied Builtin.Slice.sliceFields;refine je_ (je_ (zu_ fS jU (x:=vl) rfl (je_ (zu_ fS jU (x:=vu) rfl (je_ (zu_ fS jU (x:=.none) rfl (jq_ ?_)))))));refine je_ (slicePart_none ?_);show wpAny _ _ (if ((1:Int)==0)=true then _ else _) _ _ s;rw[if_neg (by decide)];refine je_ (Kx pl (je_ (Kx pu (je_ (jq_ ?_)))));show wpAny _ _ (match Builtin.Slice.sliceAdjust lo hi 1 (n:Int) with|(lo,hi)=>pure (lo,(1:Int),Builtin.Slice.slicePlaces lo hi 1)) _ _ s;rw[OU lo hi n];show wpAny _ _ (pure (((sIx n 0 lo:Nat):Int),(1:Int),Builtin.Slice.slicePlaces ((sIx n 0 lo:Nat):Int) ((sIx n n hi:Nat):Int) 1)) _ _ s;rw[OV];exact jq_ h
def So (xs:Array Value)(i k:Nat):((oW k).filterMap fun (m:Nat)=>xs[((i:Int)+(m:Int)*1).toNat]?).toArray=((xs.toList.drop i).take k).toArray:=by
 have e:(fun (m:Nat)=>xs[((i:Int)+(m:Int)*1).toNat]?)=fun m=>xs[i+m]?:=by
  funext m
  have:((i:Int)+(m:Int)*1).toNat=i+m:=by lia
  rw[this]
 rw[e];have:=pick_run xs i k;rw[List.filterMap_map]at this;have e2:((fun x=>xs[x]?) ∘ fun x=>i+x)=fun m=>xs[i+m]?:=rfl;rw[e2]at this;rw[this]
def getItem_tuple_cut {t sl:Addr} {lo hi:Option Int} (ht:IsTup s.heap t items)(hs:s.heap.IsSliceOf sl vl vu .none)(pl:IsPart vl lo)(pu:IsPart vu hi)
  (hw:¬ (sIx items.size 0 lo=0/\sIx items.size items.size hi=items.size))
  (h:Q (.ref s.heap.objs.size) {s with heap:=s.heap.push {cls:=.type "tuple",data:=.seq ((items.toList.drop (sIx items.size 0 lo)).take (sIx items.size items.size hi-sIx items.size 0 lo)).toArray} })
  (hsz:items.size<=sizeLine):wpAny (model prog w) A (getItem (.ref t) (.ref sl)) Q E s:=by
 have du:sizeOk (.seq ((items.toList.drop (sIx items.size 0 lo)).take (sIx items.size items.size hi-sIx items.size 0 lo)).toArray):=by
  show ((items.toList.drop (sIx items.size 0 lo)).take (sIx items.size items.size hi-sIx items.size 0 lo)).toArray.size<=sizeLine;rw[jl_,jz_,qw_,qQ_];lia
 have hj:sIx items.size items.size hi<=items.size:=WJ _ _ (jh_ _) hi;obtain⟨os,fS,kY,jU⟩:=id hs;have mE:s.TypeIs (.ref sl) "slice" := ⟨os,fS,kY⟩;unfold getItem
 try with_reducible refine qC_ ?_
 first|refine je_ (jq_ ?_)|skip
 refine je_ (wpAny_sequenceKey ht.typeIs (by decide) ?_);refine je_ (qg_ (name:=Str.ofString "__getitem__") ht.typeIs qi_
  (qj_ qi_ ht.typeIs entry_tuple_getitem ?_ (args_tuple_getitem _ _)))
 show wpAny _ _ (Builtin.Tuple.tupleItemsOf (.ref t) >>= _) _ _ s;refine je_ (tupleItemsOf_ ht ?_);refine je_ (zd_ mE ?_);rw[if_pos (by decide)];refine je_ (DT hs pl pu ?_);have gJ:¬ ((((sIx items.size 0 lo:Nat):Int)==0&&(1:Int)==1&&(sIx items.size items.size hi-sIx items.size 0 lo)==items.size)=true):=by
  intro q;rw[qo_,qo_]at q;have q1:((sIx items.size 0 lo:Nat):Int)=0:=eq_of_beq q.1.1;have q2:sIx items.size items.size hi-sIx items.size 0 lo=items.size:=eq_of_beq q.2;exact hw ⟨by lia,by lia⟩
 show wpAny _ _ (if (((sIx items.size 0 lo:Nat):Int)==0&&(1:Int)==1&&(sIx items.size items.size hi-sIx items.size 0 lo)==items.size)=true then _ else _) _ _ s;rw[if_neg gJ,So]
 first
  | exact je_ (m:=Builtin.Tuple.tupleExact _) (qK_ (jq_ ⟨_,rfl,jq_ h⟩) du)
  | exact je_ (m:=Builtin.Tuple.tupleExact _) (qK_ (je_ (jq_ (jq_ ⟨_,rfl,jq_ h⟩))) du)
  | exact je_ (je_ (m:=Builtin.Tuple.tupleExact _) (qK_ (jq_ (jq_ ⟨_,rfl,jq_ h⟩)) du))
  | exact je_ (je_ (m:=Builtin.Tuple.tupleExact _) (qK_ (jq_ ⟨_,rfl,jq_ h⟩) du))
end
end HT
namespace L2
open PySem PySem.Spec PyProof.Rows
noncomputable abbrev TO:=St->Hp->(Option Int->Hp->Prop)->Prop
noncomputable def PO (X:Cx)(e:Option Expr)(t:TO):Prop:=
 ∀(aa:α7) (s:Shared) (σ:St) (H:Hp) (Q:Option Int->Hp->Prop),Inv X aa σ H s->t σ H Q ->
  wpAny (model X.prog X.w) X.A (evalPart e X.env) (fun u s'=>∃o H',Inv X aa σ H' s'/\IsPart u o/\Q o H') X.xe s
noncomputable def Qn:TO:=fun _ H Q=>Q none H
noncomputable def WK (t:TE):TO:=fun σ H Q=>t σ H fun x H1=>∃i,x=.int i/\Q (some i) H1
def intsAre_of : ∀{us:List Value},Vals (ns.map V.int) us->IntsAre us ns:=by
 induction ns with
 |nil=>intro us r;rw[ze_]at r;cases r;exact .nil
 |cons n ns ih=>
  intro us r;rw[j6_]at r;cases r with
  |cons r1 r2=>
   obtain⟨t,e⟩:=r1;subst e;exact .cons n t (ih r2)
section
variable {X:Cx} {e:Expr} {te:TE} {lo hi:Option Expr} {tl th:TO} {pos p2:Pos}
def BY:PO X none Qn:=by
 intro aa s σ H Q I h;rw[evalPart_none];exact jq_ ⟨none,H,I,.none,h⟩
def BZ (h:PE X e te):PO X (some e) (WK te):=by
 intro aa s σ H Q I hw;rw[evalPart_some];refine thn (h aa s σ H _ I hw) fun u s1 ⟨x,H1,I1,r1,q1⟩=>?_;obtain⟨i,rfl,q⟩:=q1;obtain⟨t,rfl⟩:=r1;exact⟨some i,H1,I1,.int i t,q⟩
noncomputable def SlR (X:Cx)(r:V->Option Int->Option Int->Hp->VK->Prop):Prop:=
 ∀(aa:α7) (s:Shared) (σ:St) (H:Hp) (x:V) (v vl vu:Value) (lo hi:Option Int) (sl:Addr) (Q:VK),Inv X aa σ H s->RelV x v->s.heap.IsSliceOf sl vl vu .none->IsPart vl lo->IsPart vu hi->r x lo hi H Q ->
  ∃T id,typeLookup (.type T) "__getitem__"=pure (some (.builtin id))/\s.TypeIs v T/\wpAny (model X.prog X.w) X.A (getItem v (.ref sl)) (EP X aa σ Q) X.xe s
noncomputable def tSl (r:V->Option Int->Option Int->Hp->VK->Prop)(te:TE)(tl th:TO):TE:=fun σ H Q=>te σ H fun x H1=>tl σ H1 fun l H2=>th σ H2 fun u H3=>r x l u H3 Q
def Bp (hr:SlR X r)(he:PE X e te)(hl:PO X lo tl)(hu:PO X hi th):PE X (.Subscript e (.Slice lo hi none p2) pos) (tSl r te tl th):=by
 intro aa s σ H Q I h;refine Subscript_ (thn (he aa s σ H _ I h) fun v s1 ⟨x,H1,I1,r1,q1⟩=>?_);refine wpAny_Slice (thn (hl aa s1 σ H1 _ I1 q1) fun vl s2 ⟨l,H2,I2,pl,q2⟩=>thn (hu aa s2 σ H2 _ I2 q2) fun vu s3 ⟨u,H3,I3,pu,q3⟩=>?_);rw[evalPart_none];refine jq_ ?_;have I4:Inv X aa σ H3 {s3 with heap:=s3.heap.push {cls:=.type "slice",data:=.fields #[vl,vu,.none]} }:=I3.kept (t':=s3.toks) fun b ob q=>jk_ _ q;obtain⟨T,id,hT,ht,hg⟩:=hr aa {s3 with heap:=s3.heap.push {cls:=.type "slice",data:=.fields #[vl,vu,.none]} } σ H3 x v vl vu l u s3.heap.objs.size Q I4 r1 (Heap.IsSliceOf.new ..) pl pu q3;show wpAny (model X.prog X.w) X.A (subscriptTail e (.Slice lo hi none p2) v (.ref s3.heap.objs.size)) (EP X aa σ Q) X.xe {s3 with heap:=s3.heap.push {cls:=.type "slice",data:=.fields #[vl,vu,.none]} };exact tail_any (ops:=[.ref s3.heap.objs.size,v]) ht hT hg (by with_unfolding_all rfl)
noncomputable def cutV (xs:List V)(lo hi:Option Int):List V:=(xs.drop (HT.sIx xs.length 0 lo)).take (HT.sIx xs.length xs.length hi-HT.sIx xs.length 0 lo)
def Ji (xs:List V)(lo hi:Option Int):(cutV xs lo hi).length<=xs.length:=by
 unfold cutV;rw[jz_,qw_];lia
noncomputable def rSlT (K:α3):V->Option Int->Option Int->Hp->VK->Prop:=fun x lo hi H Q=>∃a xs,x=.ref a/\SqT K H a xs /\
 ¬ (HT.sIx xs.length 0 lo=0/\HT.sIx xs.length xs.length hi=xs.length)/\∀p,H p=none->Q (.ref p) (upd H p (.tup (cutV xs lo hi)))
def TV:SlR X (rSlT X.K):=by
 intro aa s σ H x v vl vu lo hi sl Q I rx hs pl pu h;obtain⟨a,xs,rfl,hx,hw,q⟩:=h;cases rx;obtain⟨its,r,ht,hz⟩:=I.tuple hx;have ah:its.toArray.size=xs.length:=by rw[jl_];exact r.length.symm
 refine⟨"tuple",_,qi_.lookup,ht.typeIs,?_⟩;refine HT.getItem_tuple_cut ht hs pl pu (by rw[ah];exact hw) ?_ (by rw[ah];exact hz);rw[ah];refine⟨.ref s.heap.objs.size,_,I.laid (t':=s.toks) (o:=.tup (cutV xs lo hi)) (fun b ob q=>jk_ _ q) (jh_ _) ?_,rfl,q _ (I.hok.fresh (jh_ _))⟩;exact⟨jY_ (Ji xs lo hi) hz,_,(r.drop (HT.sIx xs.length 0 lo)).take (HT.sIx xs.length xs.length hi-HT.sIx xs.length 0 lo),IsTup.new _ _⟩
noncomputable def Yf (K:α3):R2:=fun x y H Q=>∃a b xs ys,x=.ref a/\y=.ref b/\SqT K H a xs/\SqT K H b ys/\xs ≠ []/\xs.length+ys.length<=sizeLine /\
 (ys=[]->Q (.ref a) H)/\(ys ≠ []->∀p,H p=none->Q (.ref p) (upd H p (.tup (xs++ys))))
def Vals.nil_iff (r:Vals xs us):us=[]↔xs=[]:=by
 cases r with
 |nil=>simp
 |cons _ _=>simp
def Vb:OpR X (binaryOp .Add) (Yf X.K):=by
 intro aa s σ H x y v u Q I rx ry h;obtain⟨a,b,xs,ys,rfl,rfl,ha,hb,hx,hz,q1,q2⟩:=h;cases rx;cases ry;obtain⟨its,r1,p1,_⟩:=I.tuple ha;obtain⟨aA,r2,p2,_⟩:=I.tuple hb;refine HT.cat_tup p1 p2 (fun z=>hx (r1.nil_iff.mp z)) (fun z=>⟨.ref a,H,I,rfl,q1 (r2.nil_iff.mp z)⟩) (fun z=>?_) (by rw[<-r1.length,<-r2.length];exact hz);refine⟨.ref s.heap.objs.size,_,I.laid (t':=s.toks) (o:=.tup (xs++ys)) (fun b ob q=>jk_ _ q) (jh_ _) ?_,rfl,q2 (fun w=>z (r2.nil_iff.mpr w)) _ (I.hok.fresh (jh_ _))⟩;exact⟨by rw[ji_];exact hz,_,r1.append r2,IsTup.new _ _⟩
end
end L2
namespace L2
open PySem PySem.Spec PyProof.Rows
noncomputable def ixN (n:Nat)(i:Int):Option Nat:=if 0<=i then (if i<n then some i.toNat else none) else if -(n:Int)<=i then some (i+n).toNat else none
noncomputable def atI {α:Type}(xs:List α)(i:Int):Option α:=(ixN xs.length i).bind fun j=>xs[j]?
def Qo (h:ixN n i=some j):seqIndex? i n=some j/\j<n /\ -(n:Int)<=i/\i<n:=by
 unfold ixN at h;by_cases h0:0<=i
 ·rw[if_pos h0]at h;by_cases h1:i<n
  ·rw[if_pos h1]at h;have e:i.toNat=j:=jC_ h;exact⟨by rw[seqIndex_of h0 h1,e],by lia,by lia,h1⟩
  ·rw[if_neg h1]at h;cases h
 ·rw[if_neg h0]at h;by_cases h1 : -(n:Int)<=i
  ·rw[if_pos h1]at h;have e:(i+n).toNat=j:=jC_ h;exact⟨by rw[seqIndex_neg s!"" h1,e],by lia,h1,by lia⟩
  ·rw[if_neg h1]at h;cases h
def Qp (h:atI xs i=some v):∃j,seqIndex? i xs.length=some j/\xs[j]?=some v/\j<xs.length /\ -(xs.length:Int)<=i/\i<xs.length:=by
 unfold atI at h;cases e:ixN xs.length i with
 |none=>rw[e]at h;cases h
 |some j=>
  rw[e]at h;obtain⟨h1,h2,h3,h4⟩:=Qo e;exact⟨j,h1,h,h2,h3,h4⟩
def FK {α:Type}{xs:List α}{j:Nat}{v:α}(h:xs[j]?=some v):atI xs (j:Int)=some v:=by
 have hj:j<xs.length:=(jd_.mp h).1;have e:ixN xs.length (j:Int)=some j:=by
  unfold ixN;rw[if_pos s!"",if_pos s!""];simp
 unfold atI;rw[e];exact h
noncomputable def Qq (b:Expr):Prop:=∀o i,subscripted b false o i=operate [o,i] (getItem o i)
noncomputable def IxR (X:Cx)(r:R2):Prop:=
 ∀(value bh:Expr) (aa:α7) (s:Shared) (σ:St) (H:Hp) (x y:V) (v u:Value) (Q:VK),Inv X aa σ H s->RelV x v->RelV y u->r x y H Q ->
  subscripted bh false v u=operate [v,u] (getItem v u)->wpAny (model X.prog X.w) X.A (subscriptTail value bh v u) (EP X aa σ Q) X.xe s
noncomputable def MtR (X:Cx)(id:String)(r:V->List V->Hp->VK->Prop):Prop:=
 ∀(aa:α7) (s:Shared) (σ:St) (H:Hp) (x:V) (xs:List V) (v:Value) (us:List Value) (Q:VK),Inv X aa σ H s->RelV x v->Vals xs us->r x xs H Q ->
  wpAny (model X.prog X.w) X.A (call (.builtin id) (v::us)) (EP X aa σ Q) X.xe s
section
variable {X:Cx} {a b:Expr} {ta tb:TE} {pos:Pos}
def Yg (hr:IxR X r)(ha:PE X a ta)(hb:PE X b tb)(hs:Qq b):PE X (.Subscript a b pos) (tOp r ta tb):=by
 intro aa s σ H Q I h;exact Subscript_ (binT ha hb I h fun v u s2 x y H2 I2 rx ry q=>hr a b aa s2 σ H2 x y v u Q I2 rx ry q (hs _ _))
noncomputable def rIxL (K:α3):R2:=fun x y H Q=>∃p xs i v,x=.ref p/\y=.int i/\SqL K H p xs/\atI xs i=some v/\Q v H
noncomputable def rIxT (K:α3):R2:=fun x y H Q=>∃p xs i v,x=.ref p/\y=.int i/\SqT K H p xs/\atI xs i=some v/\Q v H
def BC:IxR X (rIxL X.K):=by
 intro value bh aa s σ H x y v u Q I rx ry h hs;obtain⟨p,xs,i,z,rfl,rfl,hq,he,q⟩:=h;cases rx;obtain⟨t,rfl⟩:=ry;obtain⟨its,r,pl,hz⟩:=I.list hq;obtain⟨j,h1,h2,h3,h4,h5⟩:=Qp he;obtain⟨w,ew,eI⟩:=r.get h2;have hl:=r.length;have hn:=Mg;have aN:EP X aa σ Q w s:=⟨z,H,I,eI,q⟩;by_cases h0:0<=i
 ·have hj:i.toNat=j:=by
   rw[seqIndex_of h0 h5]at h1;exact jC_ h1
  exact item_listR pl.isList h0 s!"" (by rw[hj];simpa using ew) aN hs
 ·have hj:(i+(its.toArray.size:Int)).toNat=j:=by
   rw[seqIndex_neg s!"" h4]at h1;rw[jl_,<-hl];exact jC_ h1
  exact subscriptTail_builtinR (x:=w) pl.isList.typeIs slot_list_getitem.lookup
   (wpAny_getItem_list_neg (Q:=fun r s'=>r=w/\EP X aa σ Q r s') pl.isList s!"" (by rw[jl_]<;>lia) s!"" (by rw[hj];simpa using ew) ⟨rfl,aN⟩) hs
def Ao:IxR X (rIxT X.K):=by
 intro value bh aa s σ H x y v u Q I rx ry h hs;obtain⟨p,xs,i,z,rfl,rfl,hq,he,q⟩:=h;cases rx;obtain⟨t,rfl⟩:=ry;obtain⟨its,r,pl,hz⟩:=I.tuple hq;obtain⟨j,h1,h2,h3,h4,h5⟩:=Qp he;obtain⟨w,ew,eI⟩:=r.get h2;have hl:=r.length;have hn:=Mg;have aN:EP X aa σ Q w s:=⟨z,H,I,eI,q⟩;exact subscriptTail_builtinR (x:=w) pl.typeIs slot_tuple_getitem.lookup
  (getItem_tuple (j:=j) (Q:=fun r s'=>r=w/\EP X aa σ Q r s') pl s!"" s!"" (by rw[jl_,<-hl];exact h1) (by simpa using ew) ⟨rfl,aN⟩) hs
def OW (its:List Value)(n j:Nat)(u:Value):Obj.mapSeq (·.setIfInBounds j u) {cls:=.type "list",data:=.seq its.toArray n}={cls:=.type "list",data:=.seq (its.set j u).toArray n}:=by
 simp[Obj.mapSeq]
def Inv.lst {aa:α7}{σ:St}{H:Hp}{s:Shared}{p:Addr}{xs:List V}(I:Inv X aa σ H s)(h:H p=some (.lst xs)):
  ∃(its:List Value) (n:Nat),Vals xs its/\s.heap.get? p=some {cls:=.type "list",data:=.seq its.toArray n}/\xs.length<=sizeLine:=by
 obtain⟨z,its,n,r,e⟩:=I.hok p _ h;exact⟨its,n,r,e,z⟩
def Inv.lstUpd {its its':List Value} (I:Inv X aa σ H s)(h:H p=some (.lst xs))
  (ho:s.heap.get? p=some {cls:=.type "list",data:=.seq its.toArray n}) (hf:f {cls:=.type "list",data:=.seq its.toArray n}={cls:=.type "list",data:=.seq its'.toArray n' }) (r:Vals ys its') (hz:ys.length<=sizeLine) (t:Nat):
  Inv X aa σ (upd H p (.lst ys)) {s with heap:=s.heap.update p f,toks:=t}:=by
 have e:(s.heap.update p f).get? p=some {cls:=.type "list",data:=.seq its'.toArray n' }:=by
  rw[qG_ f ho (by rw[hf]<;>rfl),hf]
 refine I.write (x:=p) (e:=p) (by rw[h];trivial) (.inl rfl) (fun b u hb q=>(qB_ _ _ (q3_ hb)).trans q) ⟨_,e⟩ ?_;exact⟨hz,its',n',r,e⟩
noncomputable def WL:V->V->V->Hp->(Hp->Prop)->Prop:=fun o i v H Q=>∃p xs k j,o=.ref p/\i=.int k/\H p=some (.lst xs)/\ixN xs.length k=some j/\Q (upd H p (.lst (xs.set j v)))
def set_list:PSet X WL:=by
 intro aa s σ H o i v ov iv u Q I ro ri rv h;obtain⟨p,xs,k,j,rfl,rfl,hp,hj,q⟩:=h;cases ro;obtain⟨t,rfl⟩:=ri;obtain⟨its,n,r,ho,hz⟩:=I.lst hp;obtain⟨h1,h2,h3,h4⟩:=Qo hj;have hl:=r.length;have hn:=Mg;have I':Inv X aa σ (upd H p (.lst (xs.set j v))) {s with heap:=s.heap.update p (Obj.mapSeq (·.setIfInBounds j u))}:=
  I.lstUpd hp ho (OW its n j u) (r.set rv j) (by rw[zT_];exact hz) s.toks
 by_cases h0:0<=k
 ·have hk:k.toNat=j:=by
   rw[seqIndex_of h0 h4]at h1;exact jC_ h1
  exact ui ho h0 s!"" (by rw[jl_,<-hl];exact h4) (by rw[hk];exact⟨_,I',q⟩)
 ·have hk:(k+(its.toArray.size:Int)).toNat=j:=by
   rw[seqIndex_neg s!"" h3]at h1;rw[jl_,<-hl];exact jC_ h1
  exact tT ho s!"" (by rw[jl_,<-hl];exact h3) s!"" (by rw[hk];exact⟨_,I',q⟩)
def Mn (lo hi:Option Int)(n:Nat):(sliceBounds lo hi none n).1=((HT.sIx n 0 lo:Nat):Int)/\(sliceBounds lo hi none n).2.1=((HT.sIx n n hi:Nat):Int)/\(sliceBounds lo hi none n).2.2=1:=by
 refine⟨?_,?_,rfl⟩
 ·cases lo with
  |none=>simp[sliceBounds,HT.sIx]
  |some i=>
   simp only[sliceBounds,HT.sIx,qW,show (1:Int) > 0 by decide,wi_];by_cases h:i<0
   ·simp only[h,wi_]<;>lia
   ·simp only[h,x6_]<;>lia
 ·cases hi with
  |none=>simp[sliceBounds,HT.sIx]
  |some i=>
   simp only[sliceBounds,HT.sIx,qW,show (1:Int) > 0 by decide,wi_];by_cases h:i<0
   ·simp only[h,wi_]<;>lia
   ·simp only[h,x6_]<;>lia
def Lc (its:List Value)(lo hi:Option Int):slicePick its.toArray lo hi none=((its.drop (HT.sIx its.length 0 lo)).take (HT.sIx its.length its.length hi-HT.sIx its.length 0 lo)).toArray:=by
 obtain⟨h1,h2,h3⟩:=Mn lo hi its.toArray.size;unfold slicePick;rw[h1,h2,h3];simp only[sliceRange_one,pick_run,jl_]<;>rfl
noncomputable def rSlL (K:α3):V->Option Int->Option Int->Hp->VK->Prop:=fun x lo hi H Q=>∃a xs,x=.ref a/\SqL K H a xs/\∀p,H p=none->Q (.ref p) (upd H p (.lst (cutV xs lo hi)))
def Np:SlR X (rSlL X.K):=by
 intro aa s σ H x v vl vu lo hi sl Q I rx hs pl pu h;obtain⟨a,xs,rfl,hx,q⟩:=h;cases rx;obtain⟨its,r,ht,hz⟩:=I.list hx;have ah:=r.length;refine⟨"list",_,slot_list_getitem.lookup,ht.isList.typeIs,?_⟩;refine wpAny_getItem_list_slice ht.isList hs pl pu .none (by simp) ?_ (by rw[jl_]<;>lia);rw[Lc,<-ah];refine⟨.ref s.heap.objs.size,_,I.laid (t':=s.toks) (o:=.lst (cutV xs lo hi)) (fun b ob q=>jk_ _ q) (jh_ _) ?_,rfl,q _ (I.hok.fresh (jh_ _))⟩;exact⟨jY_ (Ji xs lo hi) hz,_,0,(r.drop (HT.sIx xs.length 0 lo)).take (HT.sIx xs.length xs.length hi-HT.sIx xs.length 0 lo),jv_ _ rfl⟩
noncomputable def D9:V->Bool
 |.non=>true
 |.bl _=>true
 |.int _=>true
 |.str _=>true
 |_=>false
noncomputable def eqV:V->V->Bool
 |.non,.non=>true
 |.bl a,.bl b=>a==b
 |.bl a,.int b=>(if a then 1 else 0)==b
 |.int a,.bl b=>a==(if b then 1 else 0)
 |.int a,.int b=>a==b
 |.str a,.str b=>a==b
 |_,_=>false
def Qr (ry:RelV y u)(rx:RelV x v)(fy:D9 y=true)(fx:D9 x=true):SeqAt.EqAt A s u v (eqV y x):=by
 cases y with
 |non=>
  cases ry;cases x with
  |non=>cases rx;exact SeqAt.EqAt.same _
  |bl b=>cases rx;exact SeqAt.EqAt.none_bool b
  |int b=>obtain⟨t,rfl⟩:=rx;exact SeqAt.EqAt.none_int b t
  |str b=>obtain⟨t,rfl⟩:=rx;exact SeqAt.EqAt.none_str b t
  |_=>exact absurd (show false=true from fx) jx_
 |bl a=>
  cases ry;cases x with
  |non=>cases rx;exact SeqAt.EqAt.bool_none a
  |bl b=>cases rx;exact SeqAt.EqAt.bool_bool a b
  |int b=>obtain⟨t,rfl⟩:=rx;exact SeqAt.EqAt.bool_int a b t
  |str b=>obtain⟨t,rfl⟩:=rx;exact SeqAt.EqAt.bool_str a b t
  |_=>exact absurd (show false=true from fx) jx_
 |int a=>
  obtain⟨t',rfl⟩:=ry;cases x with
  |non=>cases rx;exact SeqAt.EqAt.int_none a t'
  |bl b=>cases rx;exact SeqAt.EqAt.int_bool a t' b
  |int b=>obtain⟨t,rfl⟩:=rx;exact SeqAt.EqAt.int_int a t' b t
  |str b=>obtain⟨t,rfl⟩:=rx;exact SeqAt.EqAt.int_str a t' b t
  |_=>exact absurd (show false=true from fx) jx_
 |str a=>
  obtain⟨t',rfl⟩:=ry;cases x with
  |non=>cases rx;exact SeqAt.EqAt.str_none a t'
  |bl b=>cases rx;exact SeqAt.EqAt.str_bool a t' b
  |int b=>obtain⟨t,rfl⟩:=rx;exact SeqAt.EqAt.str_int a t' b t
  |str b=>obtain⟨t,rfl⟩:=rx;exact SeqAt.EqAt.str_str a t' b t
  |_=>exact absurd (show false=true from fx) jx_
 |_=>exact absurd (show false=true from fy) jx_
noncomputable def eqU (x:V)(u:Value):Bool:=match u with
 |.none=>eqV .non x
 |.bool b=>eqV (.bl b) x
 |.int i _=>eqV (.int i) x
 |.str z _=>eqV (.str z) x
 |_=>false
def TX (r:RelV y u)(f:D9 y=true):eqU x u=eqV y x:=by
 cases y with
 |non=>cases r;rfl
 |bl b=>cases r;rfl
 |int i=>obtain⟨t,rfl⟩:=r;rfl
 |str z=>obtain⟨t,rfl⟩:=r;rfl
 |_=>exact absurd (show false=true from f) jx_
def Nq {x:V}:∀{xs:List V} {us:List Value},Vals xs us->xs.all D9=true->us.any (eqU x)=xs.any fun y=>eqV y x
 |_,_,.nil,_=>rfl
 |y::xs,u::us,.cons r t,f=>by
  rw[sx,qo_]at f;rw[zO_,zO_,TX r f.1,Nq t f.2]
def Ld {A:Around}{s:Shared}{x:V}{v:Value}(rx:RelV x v)(fx:D9 x=true):∀{xs:List V} {us:List Value},Vals xs us->xs.all D9=true->∀u∈us,SeqAt.EqAt A s u v (eqU x u)
 |_,_,.nil,_=>fun u hu=>by cases hu
 |y::xs,u::us,.cons r t,f=>fun u' hu=>by
  rw[sx,qo_]at f;rcases jE_.mp hu with rfl|hu
  ·rw[TX r f.1];exact Qr r rx f.1 fx
  ·exact Ld rx fx t f.2 u' hu
noncomputable def inV (x:V)(xs:List V):Bool:=xs.any fun y=>eqV y x
noncomputable def rIn (K:α3)(iq:Bool):R2:=fun x y H Q=>∃p xs,y=.ref p/\(SqL K H p xs\/SqT K H p xs)/\D9 x=true/\xs.all D9=true/\Q (.bl (if iq then !inV x xs else inV x xs)) H
def Qs:OpR X (compareOp .In) (rIn X.K false):=by
 intro aa s σ H x y v u Q I rx ry h;obtain⟨p,xs,rfl,hq,fx,fs,q⟩:=h;cases ry;rcases hq with hq|hq
 ·obtain⟨its,r,pl,hz⟩:=I.list hq;refine SeqAt.in_listAt (eqU x) pl.isList (fun w hw=>Ld rx fx r fs w (by simpa using hw)) ⟨.bl _,H,I,rfl,?_⟩;rw[show its.toArray.any (eqU x)=its.any (eqU x) by simp,Nq r fs];exact q
 ·obtain⟨its,r,pl,hz⟩:=I.tuple hq;refine SeqAt.in_tupleAt (eqU x) pl (fun w hw=>Ld rx fx r fs w (by simpa using hw)) ⟨.bl _,H,I,rfl,?_⟩;rw[show its.toArray.any (eqU x)=its.any (eqU x) by simp,Nq r fs];exact q
def Ai:Cd X (.builtin "len") (fun xs H Q=>∃p ys,xs=[.ref p]/\(SqL X.K H p ys\/SqT X.K H p ys)/\Q (.int ys.length) H):=by
 intro aa s σ H xs us Q I r h;obtain⟨p,ys,rfl,hq,q⟩:=h;obtain⟨u,rfl,rx⟩:=vals1 r;cases rx;have hn:=Mg;rcases hq with hq|hq
 ·obtain⟨its,r',pl,hz⟩:=I.list hq;have ah:=r'.length;exact Calls.call_len_list pl.isList (by simp only[jl_]<;>lia) ⟨.int ys.length,H,I.tok _,⟨s.toks+1,by rw[jl_,ah]⟩,q⟩
 ·obtain⟨its,r',pl,hz⟩:=I.tuple hq;have ah:=r'.length;exact len_tuple pl (by simp only[jl_]<;>lia) ⟨.int ys.length,H,I.tok _,⟨s.toks+1,by rw[jl_,ah]⟩,q⟩
def Eh:Cd X (.type "list") (fun xs H Q=>∃p ys,xs=[.ref p]/\(SqL X.K H p ys\/SqT X.K H p ys)/\∀l,H l=none->Q (.ref l) (upd H l (.lst ys))):=by
 intro aa s σ H xs us Q I r h;obtain⟨p,ys,rfl,hq,q⟩:=h;obtain⟨u,rfl,rx⟩:=vals1 r;cases rx;have aN:∀(its:List Value),Vals ys its->ys.length<=sizeLine->∀(h':Heap) (c':Nat),(∀b o',s.heap.get? b=some o'->h'.get? b=some o') ->
   h'.get? s.heap.objs.size=some {cls:=.type "list",dict:=none,data:=.seq its.toArray c',slots := #[]}->EP X aa σ Q (.ref s.heap.objs.size) {s with heap:=h' }:=fun its r' hz h' c' kp e=>
  ⟨.ref s.heap.objs.size,_,I.laid (t':=s.toks) kp (jh_ _) (show AU X.prog X.w _ h' _ (.lst ys) from ⟨hz,its,c',r',e⟩),rfl,q _ (I.hok.fresh (jh_ _))⟩
 rcases hq with hq|hq
 ·obtain⟨its,r',pl,hz⟩:=I.list hq;have ah:=r'.length;obtain⟨o,ho,hc,n,hd⟩:=pl.isList;exact call_list_seq p (.inl rfl) ho hc hd (fun h' c' kp e=>aN its r' hz h' c' kp e) (by simp only[jl_]<;>lia)
 ·obtain⟨its,r',pl,hz⟩:=I.tuple hq;have ah:=r'.length;obtain⟨o,ho,hc,n,hd⟩:=pl;exact call_list_seq p (.inr rfl) ho hc hd (fun h' c' kp e=>aN its r' hz h' c' kp e) (by simp only[jl_]<;>lia)
def F8:Cd X (.type "tuple") (fun xs H Q=>∃p ys,xs=[.ref p]/\((SqL X.K H p ys/\∀l,H l=none->Q (.ref l) (upd H l (.tup ys)))\/(SqT X.K H p ys/\Q (.ref p) H))):=by
 intro aa s σ H xs us Q I r h;obtain⟨p,ys,rfl,h⟩:=h;obtain⟨u,rfl,rx⟩:=vals1 r;cases rx;rcases h with ⟨hq,q⟩|⟨hq,q⟩
 ·obtain⟨its,r',pl,hz⟩:=I.list hq;have ah:=r'.length;refine call_tuple_list pl.isList (fun h' kp=>?_) (by simp only[jl_]<;>lia);have I1:Inv X aa σ H {s with heap:=h' }:=I.kept (t':=s.toks) kp;have I2:Inv X aa σ (upd H h'.objs.size (.tup ys)) {s with heap:=h'.push {cls:=.type "tuple",data:=.seq its.toArray} }:=
   I1.laid (t':=s.toks) (fun b o e=>jk_ _ e) (jh_ _) (show AU X.prog X.w _ _ _ (.tup ys) from ⟨hz,its,r',IsTup.new _ _⟩)
  exact⟨.ref h'.objs.size,_,I2,rfl,q _ (I1.hok.fresh (jh_ _))⟩
 ·obtain⟨its,r',pl,hz⟩:=I.tuple hq;exact call_tuple_same pl ⟨.ref p,H,I,rfl,q⟩
noncomputable def tyV (K:α3)(T:String)(x:V)(H:Hp):Prop:=match x with
 |.str _=>T = "str"
 |.int _=>T = "int"
 |.ref p=>(T = "list" /\ ∃xs,SqL K H p xs)\/(T = "tuple" /\ ∃o,K.lookup p=some o/\o.cls=.type "tuple" /\ o.dict=none) \/
   (T = "dict" /\ ((∃kvs,H p=some (.dK kvs)) \/ ∃kvs,H p=some (.dT kvs)))\/(T = "set" /\ ∃S n,H p=some (.set S n))
 |_=>False
def WM (I:Inv X aa σ H s)(r:RelV x v)(ty:tyV X.K T x H):
  s.TypeIs v T/\∀a,v=.ref a->∃ob,s.heap.get? a=some ob/\ob.dict=none:=by
 cases x with
 |str z=>
  obtain⟨t,rfl⟩:=r;cases (show T = "str" from ty);exact⟨typeIs_str s z t,fun _ e=>nomatch e⟩
 |int i=>
  obtain⟨t,rfl⟩:=r;cases (show T = "int" from ty);exact⟨typeIs_int s i t,fun _ e=>nomatch e⟩
 |ref p=>
  cases r;rcases ty with ⟨rfl,xs,hq⟩|⟨rfl,o,hk,hc,hd⟩|⟨rfl,hk⟩|⟨rfl,S,n,hk⟩
  ·obtain⟨its,_,pl,_⟩:=I.list hq;refine⟨pl.isList.typeIs,fun a e=>?_⟩;cases e;obtain⟨o,n,e,c,hd,_⟩:=pl;exact⟨o,e,hd⟩
  ·refine⟨⟨o,I.kIn p o hk,hc⟩,fun a e=>?_⟩;cases e;exact⟨o,I.kIn _ o hk,hd⟩
  ·have z:∃o,s.heap.get? p=some o/\o.ExactDict:=by
    rcases hk with ⟨kvs,hk⟩|⟨kvs,hk⟩
    ·obtain⟨_,_,_,_,o,_,_,e,ex,_⟩:=I.hok p _ hk;exact⟨o,e,ex⟩
    ·obtain⟨_,_,_,_,o,_,_,e,ex,_⟩:=I.hok p _ hk;exact⟨o,e,ex⟩
   obtain⟨o,e,ex⟩:=z;refine⟨⟨o,e,ex.1⟩,fun a e2=>?_⟩;cases e2;exact⟨o,e,ex.2.1⟩
  ·obtain⟨o,_,_,_,e,ex,_⟩:=I.hok p _ hk;refine⟨⟨o,e,ex.1⟩,fun a e2=>?_⟩;cases e2;exact⟨o,e,ex.2.1⟩
 |_=>exact pd ty
noncomputable def tBM (K:α3)(T:String)(r:V->List V->Hp->VK->Prop)(to:TE)(t:TA):TE:=fun σ H Q=>to σ H fun x H1=>tyV K T x H1/\t σ H1 fun xs H2=>r x xs H2 Q
variable {o e:Expr} {es:List Expr} {to:TE} {t:TA} {name:Str} {bp aF:Pos} {T id:String} {r:V->List V->Hp->VK->Prop}
def Ka (pa:PlainAttrs T)(slot:Slot T name id)(hty:typeOf (.builtin id)=pure (.type "method_descriptor"))(hm:MtR X id r)(ho:PE X o to)(ha:PA X (e::es) t)
  (aG:attributeBase o name X.env (eval o X.env)=eval o X.env:=by rfl)
  (hfew:((backTo aF (starEach (e::es) X.env)).all (fun x => !x.1)&&(backToKw aF (keywordEach [] X.env)).all (fun x=>x.1.isSome)
   && decide ((e::es).length+([]:List Keyword).length+(if ([]:List Keyword).isEmpty then 0 else 1)<30))=true:=by rfl)
  (cB:(bp.endLine==aF.line)=true:=by rfl) (hs:starEach (e::es) X.env=(false,eval e X.env)::starEach es X.env:=by rfl) (cY:(backTo aF (starEach es X.env)).any (·.1)=false:=by rfl):
  PE X (.Call (.Attribute o name bp) (e::es) [] aF) (tBM X.K T r to t):=by
 intro aa s σ H Q I h;refine wpAny_Call_method_late aG hfew cB rfl (thn (ho aa s σ H _ I h) fun v s1 ⟨x,H1,I1,r1,ty,q1⟩=>?_);obtain⟨h1,h2⟩:=WM I1 r1 ty;refine⟨T,id,pa,slot,hty,h1,h2,?_⟩;have hA:=ha aF aa s1 σ H1 _ I1 q1;rw[hs]at hA ⊢;refine xI_ (by show (false||(backTo aF (starEach es X.env)).any (·.1))=false;rw[cY]<;>rfl) (zJ_ ?_);exact thn hA fun us s2 ⟨vs,H2,I2,r2,q2⟩=>hm aa s2 σ H2 x vs v us Q I2 r1 r2 q2
/- xs.append(e),list.index on a module's tuple .. are MtR facts of 06m -/
end
end L2
namespace L2
open PySem PySem.Spec PyProof.Rows
noncomputable def MtM (X:Cx)(id:String)(r:V->List V->Hp->VK->Prop):Prop:=
 ∀(aa:α7) (s:Shared) (σ:St) (H:Hp) (x:V) (xs:List V) (v:Value) (us:List Value) (Q:VK),Inv X aa σ H s->RelV x v->Vals xs us->r x xs H Q ->
  wpAny (model X.prog X.w) X.A (call (.builtin id) (v::us)) (EP X aa σ Q) X.xe s
def Vals.one:∀{x:V} {us:List Value},Vals [x] us->∃u,us=[u]/\RelV x u
 |_,_,.cons r .nil=>⟨_,rfl,r⟩
def Vals.reverse (h:Vals xs us):Vals xs.reverse us.reverse:=by
 induction h with
 |nil=>exact .nil
 |cons r t ih=>rw[wa_,wa_];exact Vals.append ih (.cons r .nil)
def Vals.rep {xs:List V}{us:List Value}(h:Vals xs us):∀k:Nat,Vals (oU k xs).flatten (oU k us).flatten
 |0=>.nil
 |k+1=>by
  rw[qR_,qR_,xW_,xW_];exact Vals.append h (Vals.rep h k)
def foldl_rep (its:List Value):∀(k:Nat) (acc:List Value),
  qB (fun x1 x2=>x1++x2) acc.toArray (oU k its.toArray)=(acc++(oU k its).flatten).toArray
 |0,acc=>by simp
 |k+1,acc=>by
  have e:acc.toArray++its.toArray=(acc++its).toArray:=by simp
  have e2:(acc++its)++(oU k its).flatten=acc++(oU (k+1) its).flatten:=by
   rw[qR_,xW_,wb_]
  rw[<-e2,<-foldl_rep its k (acc++its),<-e,qR_,xN_]
section
variable {X:Cx} {aa:α7} {σ:St} {H:Hp} {s:Shared} {l b:Addr} {xs ys zs:List V}
def Inv.lset {its its':List Value} (I:Inv X aa σ H s)(hH:H l=some (.lst xs))
  (e:s.heap.get? l=some {cls:=.type "list",data:=.seq its.toArray n}) (hf:f its.toArray=its'.toArray) (hv:Vals ys its') (hz:ys.length<=sizeLine):
  Inv X aa σ (upd H l (.lst ys)) {s with heap:=s.heap.update l (Obj.mapSeq f),toks:=t' }:=by
 have q:=PySem.IsL.update e f;rw[hf]at q;refine I.write (x:=l) (e:=l) (by rw[hH];exact trivial) (.inl rfl) (fun b' u hb hu=>(qB_ s.heap (Obj.mapSeq f) (q3_ hb)).trans hu) ⟨_,q⟩ ?_;exact⟨hz,its',_,hv,q⟩
def Inv.lnew {its:List Value} (I:Inv X aa σ H s)(hv:Vals ys its)(hz:ys.length<=sizeLine):
  Inv X aa σ (upd H s.heap.objs.size (.lst ys)) {s with heap:=s.heap.push {cls:=.type "list",data:=.seq its.toArray},toks:=t' }:=
 I.laid (fun _ _ q=>jk_ _ q) (jh_ _) ⟨hz,its,0,hv,jv_ _ rfl⟩
def Inv.fresh (I:Inv X aa σ H s):H s.heap.objs.size=none:=I.hok.fresh (jh_ _)
def Inv.lstM (I:Inv X aa σ H s)(hH:H l=some (.lst xs)):xs.length<=sizeLine/\∃(its:List Value) (n:Nat),Vals xs its/\xs.length=its.length/\s.heap.get? l=some {cls:=.type "list",data:=.seq its.toArray n}:=by
 obtain⟨z,its,n,r,e⟩:=I.hok l _ hH;exact⟨z,its,n,r,r.length,e⟩
end
section
variable {X:Cx}
noncomputable def Qt:V->List V->Hp->VK->Prop:=fun x vs H Q=>∃l xs y,x=.ref l/\vs=[y]/\H l=some (.lst xs)/\xs.length<sizeLine/\Q .non (upd H l (.lst (xs++[y])))
def By:MtM X "list.append" Qt:=by
 intro aa s σ H x vs v us Q I rx rv h;obtain⟨l,xs,y,rfl,rfl,hH,hz,q⟩:=h;cases rx;obtain⟨u,rfl,ru⟩:=rv.one;obtain⟨z,its,n,r,hl,e⟩:=I.lstM hH;refine wc_ F.slot_list_append ⟨_,e,rfl⟩ F.entry_list_append (F.args_list_append_2 _ _) (qK l its.toArray n u (by rw[jl_];lia)) ⟨e,?_⟩;refine⟨.non,_,I.lset (its':=its++[u]) hH e (by simp) (r.append (.cons ru .nil)) ?_,rfl,q⟩;rw[ji_,jG_];lia
noncomputable def rCat:R2:=fun x y H Q=>∃l b xs zs,x=.ref l/\y=.ref b/\H l=some (.lst xs)/\H b=some (.lst zs)/\xs.length+zs.length<=sizeLine/\∀p,H p=none->Q (.ref p) (upd H p (.lst (xs++zs)))
def Qu:OpR X (binaryOp .Add) rCat:=by
 intro aa s σ H x y v u Q I rx ry h;obtain⟨l,b,xs,zs,rfl,rfl,hH,hB,hz,q⟩:=h;cases rx;cases ry;obtain⟨z,its,n,r,hl,e⟩:=I.lstM hH;obtain⟨z2,aA,n2,r2,fT,e2⟩:=I.lstM hB;refine PySem.P.add_list e e2 ?_ (by rw[jl_,jl_];lia);have ea:its.toArray++aA.toArray=(its++aA).toArray:=by simp
 rw[ea];exact⟨.ref _,_,I.lnew (t':=s.toks) (r.append r2) (by rw[ji_];lia),rfl,q _ I.fresh⟩
def len_rep {α:Type}(xs:List α)(k:Nat):(oU k xs).flatten.length=k*xs.length:=by
 induction k with
 |zero=>simp
 |succ k ih=>rw[qR_,xW_,ji_,ih,pM,Nat.add_comm]
end
end L2
namespace Att
open PySem PySem.W PySem.Calls PyProof.Rows
def Jj : ∀(ns:α2) (vs:List Value),WellAll P h vs (ns.map WData.int)->IntsAre vs ns:=by
 intro ns
 induction ns with
 |nil=>
  intro vs w;rw[ze_]at w;cases w;exact .nil
 |cons n ns ih=>
  intro vs w;rw[j6_]at w;cases w with
  |cons a b=>
   cases a;exact .cons _ _ (ih _ b)
def Qv {l:OpenLaw}{n:Nat}(hn:l.most=some n){P:Params}{h:Heap}{args:List WData}{ir:List Value}
  (fU:l.row.toRowW.claim.pre args=true) (b7:WellAll P h ir args):
  ∃a vs ns,ir=[Value.ref a]/\args=[WData.list (ns.map WData.int)]/\h.get? a=some {cls:=.type "list",data:=.seq vs.toArray}/\IntsAre vs ns/\ns.length<=n:=by
 have hsh:WShape.hasAll [] args [.list .int]=true:=(pre_splitW fU).1;have hc:l.pre.holds [] {args:=args}=true:=(pre_splitW fU).2;obtain⟨d,r,rfl,h1,h2⟩:=hasAllW_cons hsh;obtain rfl:=hasAllW_nil h2;obtain⟨xs,rfl,h3⟩:=hasW_list h1;obtain⟨ns,rfl⟩:=items_int h3;have ah:ns.length<=n:=by
  unfold OpenLaw.pre at hc;have h4:(WTm.not (.lt (.lit (.int (n:Int))) (.len (.arg 0)))).holds [] {args:=[.list (ns.map .int)]}=true:=by
   have h4:=(holds_andW hc).1;rw[hn]at h4;exact h4
  have h5:=condW_of h4 (w_not (w_lt w_lit (w_len_list (w_arg rfl))));rw[ja_]at h5;refine x7_ fun q=>?_;have q':(n:Int)<((ns.length:Nat):Int):=by lia
  first
   | (rw[jZ_ q']at h5;exact absurd h5 (by decide))
   | (simp at h5;lia)
 cases b7 with
 |cons w1 w2=>
  cases w2;cases w1 with
  |list ho aB=>exact⟨_,_,ns,rfl,rfl,ho,Jj ns _ aB,ah⟩
def Qw (l:OpenLaw)(args:List WData):l.row.toRowW.claim.post args (.bool true) args=true:=
 postW_of (r:=l.row.toRowW) (X:=(true==true))
  (show WShape.has [] (.bool true) .bool=true by first|rfl|decide|simp[WShape.has,WShape.arms,WShape.armsAll])
  (show (WTm.eq .res (.lit (.bool true))).value [] {args:=args,res:=some (.bool true),after:=args}=some (.bool (true==true)) from w_eq_bool (w_res rfl) w_lit) rfl
def attach_call {l:OpenLaw}{n:Nat}{q:Program}{bU:List Str}{XP:(Str->α5)->Heap->Prop}{YP:World->Heap->Prop}{d:DefRec}
  (hn:l.most=some n) (jV:d.params.defaults=[])
  (call:∀(w:World) (s₀ s₁:Shared) (mg mb:Str->α5) (fa:Addr) (o:Obj) (pm cd bF:Value) (a:Addr) (vs:List Value) (ns:α2),
   Ground q bU [] XP w s₀ mg mb s₁.heap->YP w s₁.heap ->
   s₁.heap.get? fa=some o->o.data=.func (docDef d.name d.params d.body d.scope pm cd bF)->s₁.heap.CodeRec cd d.name->mg d.name=some (.ref fa) ->
   s₁.heap.get? a=some {cls:=.type "list",data:=.seq vs.toArray}->IntsAre vs ns->ns.length<=n->s₁.gens = #[] ->
   codeAny (model l.prog w) callerA (.call (.ref fa) ⟨[.ref a],[]⟩) (fun r s'=>r=.ok (.ret (.bool true))/\OldK s₁.heap s'.heap/\s'.os=s₁.os/\AllBare s'.gens) s₁):
  WalkO q bU XP YP l.row.toRowW d [] (fun f vs=>rE f vs):=by
 intro w s₀ s₁ mg mb G Y fa o pm cd bF dV kV ho hd bZ hD hmg hg args ir as fU hlay hrd b7 hlo;obtain rfl:dV=.none:=Dflts.none hD jV;obtain rfl:kV=.none:=Dflts.noKw hD;obtain⟨a,vs,ns,rfl,rfl,cC,eJ,ah⟩:=Qv hn fU b7;refine enter_call (codeAny_mono (call w s₀ s₁ mg mb fa o pm cd bF a vs ns G Y ho (fd_plain hd) bZ hmg cC eJ ah hg) fun r s' hq=>?_);obtain⟨rfl,h2,h3,h4⟩:=hq;exact⟨.inl ⟨.bool true,.bool true,[],rfl,fun _=>rfl,.bool true,Qw l _,fun _=>⟨List.Pairwise.nil,fun _ hm=>(nomatch hm)⟩⟩,h2,h3,h4⟩
end Att
namespace L2
open PySem PySem.Spec PyProof.Rows
def Mo:∀{vs:List Value} {ns:α2},IntsAre vs ns->Vals (ns.map V.int) vs
 |_,_,.nil=>.nil
 |_,_,.cons n t h=>.cons ⟨t,rfl⟩ (Mo h)
noncomputable def Only (H:Hp):Prop:=∀b,H b=none \/ ∃o xs,H b=some (.frz o (.lst xs))
def Sq {K:α3}
  (KX:K.In s₁.heap) (jW:s₁.heap.Ns mainGlobals mg) (hb:s₁.heap.Ns builtinsNs mb) (hbb:∀x:Str,x ≠ "__name__" -> mb x=bootBuiltins x) (hlim:s₁.heap.NoLimit) (hg:s₁.gens = #[])
  (ha:s₁.heap.get? a=some {cls:=.type "list",data:=.seq vs.toArray}) (hi:IntsAre vs ns) (hl:ns.length<=sizeLine) (hr:Room k callerA)
  (F:∀base:Heap,K.In base->base.Ns mainGlobals mg->FnOk P w K mg base CX k fa fd [x] sp) (hbind:∀(s:Shared) (u:Value),BindsTo s fd ⟨[u],[]⟩ [(x,u)])
  (bx:∀H:Hp,Only H->SqL K H a (ns.map V.int)->sp [.ref a] H (fun v _=>v=.bl true) fun _ _ _=>False)
  (mF:∀H e s',CX [] H s₁ (fun _ _ _=>False) e s'->False):
  codeAny (model P w) callerA (.call (.ref fa) ⟨[.ref a],[]⟩) (fun r s'=>r=.ok (.ret (.bool true))/\OldK s₁.heap s'.heap/\s'.os=s₁.os/\AllBare s'.gens) s₁:=by
 have rv:=Mo hi;have lenV:=hi.length
 -- from an abstract heap in which nothing but dE script may be aP
 have core:∀H:Hp,Only H->SqL K H a (ns.map V.int)->HOk P w H s₁.heap->(∀b,H b≠none->b=a)->(H a≠none->K.lookup a=none) ->
   codeAny (model P w) callerA (.call (.ref fa) ⟨[.ref a],[]⟩) (fun r s'=>r=.ok (.ret (.bool true))/\OldK s₁.heap s'.heap/\s'.os=s₁.os/\AllBare s'.gens) s₁:=by
  intro H hO hS hok hA hK;have base_of:∀{b:Addr} {o:Obj},s₁.heap.get? b=some o->H b=none->(hidT s₁.heap H).get? b=some o:=fun e n=>Sj e n;have jT:∀{b:Addr} {o:Obj} {es:Array DictEntry} {ep:Nat},s₁.heap.get? b=some o->o.data=.dict es ep->H b=none:=fun {b o es ep} e d=>by
   cases q:H b with
   |none=>rfl
   |some u=>
    have e':b=a:=hA b (by rw[q];simp);subst e';rw[ha]at e;cases e;have d':Data.seq vs.toArray _=Data.dict es ep:=d;cases d'
  have kZ:∀{b:Addr} {m:Str->α5},s₁.heap.Ns b m->(hidT s₁.heap H).Ns b m:=fun {b m} ⟨o,es,ep,e,d,r⟩=>⟨o,es,ep,base_of e (jT e d),d,r⟩;have hKb:K.In (hidT s₁.heap H):=fun b o e=>base_of (KX b o e) (by
   cases q:H b with
   |none=>rfl
   |some u=>
    have e':b=a:=hA b (by rw[q];simp);subst e';rw[hK (by rw[q];simp)]at e;cases e)
  have hM:Mod K mg (hidT s₁.heap H):=⟨hKb,kZ jW,⟨mb,kZ hb,hbb⟩,let ⟨mc,h1,h2⟩:=hlim;⟨mc,kZ h1,h2⟩⟩;have e0:Env0 P w K mg (hidT s₁.heap H) callerA [] s₁ H:=⟨rfl,hM,fun b o e=>U4 e,sY (P7 _ _),trivial,fun b hb=>absurd (show b∈([]:List Addr) from hb) (by simp),hok,.of_eq hg⟩;refine codeAny_mono ((F _ hKb (kZ jW)).run callerA [] s₁ H ⟨[.ref a],[]⟩ [.ref a] [.ref a] _ _ hr e0 (hbind s₁ (.ref a)) (.cons rfl .nil) (bx H hO hS)) fun r s' h=>?_;cases r with
  |error e=>exact (mF H e s' h).elim
  |ok fl=>
   cases fl with
   |next=>exact pd h
   |brk=>exact pd h
   |cont=>exact pd h
   |ret u=>
    obtain⟨v,H',os,bare,un,hok',r',q⟩:=h;have q':v=.bl true:=q;subst q';obtain rfl:u=Value.bool true:=r';refine⟨rfl,OldK.of_keep fun b o e=>?_,os,bare⟩;cases q:H b with
    |none=>exact un.keep b o e q (by intro z;exact absurd (show b∈([]:List Addr) from z) (by simp)) (by simp)
    |some u=>
     rcases hO b with z|⟨ob,xs,z⟩
     ·rw[q]at z;cases z
     ·have z2:=un.frzs b ob _ z;obtain⟨e1,_⟩:=hok b _ z;obtain⟨e2,_⟩:=hok' b _ z2;rw[e]at e1;cases e1;exact e2
 cases hk:K.lookup a with
 |some o=>
  -- dE script is one of dE module's own objects
  have e:=KX a o hk;rw[ha]at e;cases e;refine core (fun _=>none) (fun _=>.inl rfl) (.inr ⟨_,vs.toArray,_,hk,rfl,rfl,rfl,by rw[jl_,lenV];exact hl,by simpa using rv⟩) (fun b u z=>by have z':(none:Option HO)=some u:=z;cases z') (fun b z=>absurd rfl z) fun z=>absurd rfl z
 |none=>
  refine core (fun b=>if b=a then some (.frz {cls:=.type "list",data:=.seq vs.toArray} (.lst (ns.map V.int))) else none) (fun b=>?_) (.inl (.inr ⟨{cls:=.type "list",data:=.seq vs.toArray},if_pos rfl⟩)) (fun b u z=>?_) (fun b z=>?_) fun _=>hk
  ·by_cases hb:b=a
   ·exact .inr ⟨_,_,if_pos hb⟩
   ·exact .inl (if_neg hb)
  ·by_cases hb:b=a
   ·have z':=(if_pos hb).symm.trans z;cases z';subst hb;exact⟨ha,by rw[ja_];exact hl,vs,_,rv,ha⟩
   ·have z':=(if_neg hb).symm.trans z;cases z'
  ·by_cases hb:b=a
   ·exact hb
   ·exact absurd (if_neg hb) z
def walk_of {l:pW}{n k:Nat}{q:Program}{bU:List Str}{XP:(Str->α5)->Heap->Prop}{YP:World->Heap->Prop}{d:DefRec}{K:Params->α3}{CX:World->CXT}{sp:World->Sp}{x:Str}
  (hn:l.most=some n) (hn2:n<=sizeLine) (jV:d.params.defaults=[]) (hr:Room k callerA)
  (hY:∀(w:World) (h:Heap),YP w h->(K w.params).In h)
  (F:∀(w:World) (mg:Str->α5) (fa:Addr) (h:Heap),(K w.params).In h->h.Ns mainGlobals mg->mg d.name=some (.ref fa) ->
   ∃fd:α6,(∀(s:Shared) (u:Value),BindsTo s fd ⟨[u],[]⟩ [(x,u)]) /\
    ∀base:Heap,(K w.params).In base->base.Ns mainGlobals mg->FnOk l.prog w (K w.params) mg base (CX w) k fa fd [x] (sp w))
  (bx:∀(w:World) (H:Hp) (a:Addr) (ns:α2),ns.length<=n->Only H->SqL (K w.params) H a (ns.map V.int)->sp w [.ref a] H (fun v _=>v=.bl true) fun _ _ _=>False)
  (mF:∀(w:World) (H:Hp) (s:Shared) (e:Value) (s':Shared),CX w [] H s (fun _ _ _=>False) e s'->False):
  sy q bU XP YP l.row.toRowW d [] (fun f vs=>rE f vs):=by
 refine Att.attach_call hn jV fun w s₀ s₁ mg mb fa o pm cd bF a vs ns G Y ho hd bZ hmg cC eJ ah hg=>?_;have KX:=hY w _ Y;obtain⟨fd,hb,hF⟩:=F w mg fa _ KX G.T.g hmg;exact Sq KX G.T.g G.T.b G.T.builtins G.T.nolimit hg cC eJ (jY_ ah hn2) hr hF hb (fun H hO hS=>bx w H a ns ah hO hS) fun H e s'=>mF w H s₁ e s'
noncomputable def Ha (s:Stmt):Arguments:=match s with
 |.FunctionDef _ a _ _ _ _ _ _ _ _=>a
 |_=>{posonlyargs:=[],args:=[],vararg:=none,kwonlyargs:=[],kw_defaults:=[],kwarg:=none,defaults:=[]}
noncomputable def C4 (s:Stmt):List Stmt:=match s with
 |.FunctionDef _ _ b _ _ _ _ _ _ _=>b
 |_=>[]
noncomputable def Ah (s:Stmt):Scope:=match s with
 |.FunctionDef _ _ _ _ _ _ sc _ _ _=>sc
 |_=>{kind:=.function,names:=[],isGenerator:=false,isCoroutine:=false}
noncomputable abbrev CX0:CXT:=fun _ _ _ _ _ _=>False
noncomputable abbrev E0:XK:=fun _ _ _=>False
def Aw : Kw CX0 X E0:=fun _ _ _ _ _ _ _ h=>h.elim
structure Fun (K:α3)(x qual:Str)(st:Stmt)(f:Addr)(fd:α6):Prop where
 ex:∃(oc:Value) (od:Option Addr) (kV bF pm:Value) (an:Option Addr) (ai ct:Value) (ip:Array (α5)),
  fd=fnOf x qual (Ha st) (C4 st) (Ah st) .none kV bF pm an ai ct/\K.lookup f=some ⟨oc,od,.func fd,ip⟩/\qc K ai qual=true
 kp:keepIn K (.ref f)=true
section
variable {P:Program} {w:World} {K:α3} {mg:Str->α5} {base:Heap}
def Fun.ok {st:Stmt} (F:Fun K x qual st f fd)(S:FnScope N ps (Ah st))(len:∀vs H Q E,sp vs H Q E->vs.length=ps.length)
  (aK:∀(ai:Value) (A:Around) (outer:List Env) (s:Shared) (H:Hp) (vs:List V) (Q:VK) (E:XK),Room k (A.deeper (envOfC qual (Ah st) s.heap.objs.size f ai))->sp vs H Q E ->
   ∃t,PSs (cxOf CX0 P w K mg base N qual (Ah st) f ai A outer s H E).nox (C4 st) t/\t {nx:=fun _ H'=>Q .non H',rt:=Q} (start N vs) H):FnOk P w K mg base CX0 (k+1) f fd ps sp:=by
 obtain⟨oc,od,kV,bF,pm,an,ai,ct,ip,rfl,lk,bZ⟩:=F.ex;refine WI lk bZ S len fun A outer s H vs Q E hr bx=>?_;obtain⟨t,h,q⟩:=aK ai A outer s H vs Q E hr bx;exact⟨t,h.nox,q⟩
def Fun.binds {st:Stmt} (F:Fun K x qual st f fd)
  (h:∀(kV bF pm:Value) (an:Option Addr) (ai ct:Value) (us:List Value),us.length=ps.length->bindArgs (fnOf x qual (Ha st) (C4 st) (Ah st) .none kV bF pm an ai ct) ⟨us,[]⟩=pure (ps.zip us)):Binds K fd ps []:=by
 obtain⟨oc,od,kV,bF,pm,an,ai,ct,ip,rfl,lk,bZ⟩:=F.ex;exact .all (h kV bF pm an ai ct)
def fun_mk {st:Stmt} {kV bF pm ai ct:Value}(l:K.lookup f=some ⟨oc,od,.func (fnOf x qual (Ha st) (C4 st) (Ah st) .none kV bF pm an ai ct),ip⟩)
  (c:qc K ai qual=true) (k:keepIn K (.ref f)=true):Fun K x qual st f (fnOf x qual (Ha st) (C4 st) (Ah st) .none kV bF pm an ai ct):=⟨⟨oc,od,kV,bF,pm,an,ai,ct,ip,rfl,l,c⟩,k⟩
end
def Hb (hr:Room k A):A.units+1<cLine:=Nat.lt_of_le_of_lt (Nat.add_le_add_left (by decide:1<=64) _) hr.units
section
variable {X:Cx}
def pv (i:Nat) (hN:X.N[i]?=some x:=by rfl)(hv:Vis X.env.scope x:=by first|exact oY rfl|exact ph (oY rfl)|exact ph (ph rfl))(hd:(x==("__debug__" : Str))=false:=by decide)
  (bZ:(x==("__classdict__" : Str))=false:=by decide):PE X (.Name x pos) (tVar i):=Wn hN hv hd bZ
end
def ite2 {c A B:Prop}[Decidable c](h1:c->A)(h2:¬ c->B):if c then A else B:=by
 by_cases h:c
 ·rw[if_pos h];exact h1 h
 ·rw[if_neg h];exact h2 h
noncomputable def Same (H H':Hp):Prop:=∀b o,H b=some o->H' b=some o
def Same.refl (H:Hp):Same H H:=fun _ _ h=>h
def Same.trans {H H1 H2:Hp}(a:Same H H1)(b:Same H1 H2):Same H H2:=fun c o h=>b c o (a c o h)
def Same.seq {K:α3} (e:Same H H')(h:SqL K H a xs):SqL K H' a xs:=by
 rcases h with (h|⟨o,h⟩)|h
 ·exact .inl (.inl (e _ _ h))
 ·exact .inl (.inr ⟨o,e _ _ h⟩)
 ·exact .inr h
end L2
set_option maxHeartbeats 4000000
namespace L2
open PySem PySem.Spec PyProof.Rows
section
variable {κ:Type} [DecidableEq κ]
noncomputable def valV (kvs:List (κ×V))(k:κ):Option V:=(kvs.find? fun kv=>decide (kv.1=k)).map (·.2)
noncomputable def putK (kvs:List (κ×V))(k:κ)(v:V):List (κ×V):=
 if (kvs.any fun kv=>decide (kv.1=k))=true then kvs.map (fun kv=>if kv.1=k then (kv.1,v) else kv) else kvs++[(k,v)]
def Le {p:κ×V}{r:List (κ×V)}{k:κ}(e:p.1=k):valV (p::r) k=some p.2:=by simp[valV,xh_,e]
def Lf {p:κ×V}{r:List (κ×V)}{k:κ}(e:¬ p.1=k):valV (p::r) k=valV r k:=by simp[valV,xh_,e]
def E4 (k:κ):∀kvs:List (κ×V),(kvs.any fun kv=>decide (kv.1=k))=(valV kvs k).isSome
 |[]=>rfl
 |p::r=>by
  rw[zO_];by_cases e:p.1=k
  ·simp only[Le e,jZ_ e,Bool.true_or,qC]
  ·rw[Lf e,jX_ e,Bool.false_or];exact E4 k r
def B0 (kvs:List (κ×V))(k:κ)(v:V):(putK kvs k v).length<=kvs.length+1:=by
 unfold putK;split
 ·rw[ja_];lia
 ·rw[ji_,qp_,xv_];lia
def Sr {kvs:List (κ×V)}{k:κ}(v:V)(h:valV kvs k=none):putK kvs k v=kvs++[(k,v)]:=by
 unfold putK;rw[E4,h];exact if_neg (by decide)
def RelO.isSome_eq (r:RelO o u):o.isSome=u.isSome:=by
 cases o with
 |none=>cases u with
  |none=>rfl
  |some _=>exact (show False from r).elim
 |some _=>cases u with
  |none=>exact (show False from r).elim
  |some _=>rfl
def RelO.getD (r:RelO o u)(rd:RelV d d'):RelV (o.getD d) (u.getD d'):=by
 cases o with
 |none=>cases u with
  |none=>exact rd
  |some _=>exact (show False from r).elim
 |some _=>cases u with
  |none=>exact (show False from r).elim
  |some _=>exact r
def KV.val (r:KV kvs vs)(k:κ):RelO (valV kvs k) (valueAt vs k):=by
 unfold KV at r
 induction r with
 |nil=>exact oX
 |@cons p q ps qs h t ih=>
  obtain⟨h1,h2⟩:=h;by_cases e:p.1=k
  ·have e':q.1=k:=h1.symm.trans e;have b:valueAt (q::qs) k=some q.2:=by simp[valueAt,xh_,e']
   rw[Le e,b];exact h2
  ·have e':¬ q.1=k:=fun z=>e (h1.trans z);have b:valueAt (q::qs) k=valueAt qs k:=by simp[valueAt,xh_,e']
   rw[Lf e,b];exact ih
def KV.any (r:KV kvs vs)(k:κ):(kvs.any fun kv=>decide (kv.1=k))=vs.any fun kv=>decide (kv.1=k):=by
 unfold KV at r
 induction r with
 |nil=>rfl
 |cons h t ih=>rw[zO_,zO_,ih,h.1]
def KV.repl (r:KV kvs vs)(k:κ) (ry:RelV y u):
  KV (kvs.map fun kv=>if kv.1=k then (kv.1,y) else kv) (vs.map fun kv=>if kv.1=k then (kv.1,u) else kv):=by
 unfold KV at r ⊢
 induction r with
 |nil=>exact .nil
 |@cons p q ps qs h t ih=>
  rw[j6_,j6_];refine .cons ?_ ih;obtain⟨h1,h2⟩:=h;by_cases e:p.1=k
  ·rw[if_pos e,if_pos (h1.symm.trans e)];exact⟨h1,ry⟩
  ·rw[if_neg e,if_neg (fun z=>e (h1.trans z))];exact⟨h1,h2⟩
def KV.put (r:KV kvs vs)(k:κ) (ry:RelV y u):KV (putK kvs k y) (stored vs k u):=by
 unfold putK stored;rw[r.any k];by_cases e:(vs.any fun kv=>decide (kv.1=k))=true
 ·rw[if_pos e,if_pos e];exact r.repl k ry
 ·rw[if_neg e,if_neg e];exact Paired.snoc r ⟨rfl,ry⟩
def KV.length {kvs:List (κ×V)}{vs:List (κ×Value)}(r:KV kvs vs):kvs.length=vs.length:=zi_ r
end
def OX (r:RelV (kV k) u):(A4 P w).is k u=true:=by
 cases k with
 |inl i=>obtain⟨t,e⟩:=(show ∃t,u=Value.int i t from r);subst e;exact Nm P w i t
 |inr x=>obtain⟨t,e⟩:=(show ∃t,u=Value.str x t from r);subst e;exact Nn P w x t
def Mp {P:Program}{w:World}:∀{ks:List Key} {us:List Value},Vals (ks.map kV) us->ItemsAre (A4 P w) ks us
 |[],_,r=>by rw[ze_]at r;cases r;exact .nil
 |k::ks,_,r=>by
  rw[j6_]at r;cases r with
  |cons h t=>exact .cons (OX h) (Mp t)
noncomputable abbrev KT (H:Hp):List (List Key×V)->List (List Key×Addr×Value)->Prop:=Paired fun p q=>p.1=q.1/\H q.2.1=some (.tup (p.1.map kV))/\RelV p.2 q.2.2
def KT.val (r:KT H kvs xs)(k:List Key):RelO (valV kvs k) ((atKey xs k).map (·.2)):=by
 induction r with
 |nil=>exact oX
 |@cons p q ps qs h t ih=>
  obtain⟨h1,_,h2⟩:=h;by_cases e:p.1=k
  ·have e':q.1=k:=h1.symm.trans e;have b:atKey (q::qs) k=some q.2:=by simp[atKey,xh_,e']
   rw[Le e,b];exact h2
  ·have e':¬ q.1=k:=fun z=>e (h1.trans z);have b:atKey (q::qs) k=atKey qs k:=by simp[atKey,xh_,e']
   rw[Lf e,b];exact ih
def KT.repl (r:KT H kvs xs)(k:List Key) (ry:RelV y u):
  KT H (kvs.map fun kv=>if kv.1=k then (kv.1,y) else kv) (xs.map (putAt k u)):=by
 induction r with
 |nil=>exact .nil
 |@cons p q ps qs h t ih=>
  rw[j6_,j6_];refine .cons ?_ ih;obtain⟨h1,h2,h3⟩:=h;unfold putAt;by_cases e:p.1=k
  ·rw[if_pos e,if_pos (h1.symm.trans e)];exact⟨h1,h2,ry⟩
  ·rw[if_neg e,if_neg (fun z=>e (h1.trans z))];exact⟨h1,h2,h3⟩
def KT.put (r:KT H kvs xs)(k:List Key) (hb:H b=some (.tup (k.map kV)))(ry:RelV y u):
  KT H (putK kvs k y) (storedH xs k b u):=by
 have e:(kvs.any fun kv=>decide (kv.1=k))=(atKey xs k).isSome:=by
  rw[E4,(r.val k).isSome_eq,wd_]
 unfold putK storedH;rw[e];by_cases q:(atKey xs k).isSome=true
 ·rw[if_pos q,if_pos q];exact r.repl k ry
 ·rw[if_neg q,if_neg q];exact Paired.snoc r ⟨rfl,hb,ry⟩
def KT.keeps (r:KT H kvs xs)(ht:∀b ys,H b=some (.tup ys)->H' b=some (.tup ys)):KT H' kvs xs:=
 Paired.mapP r fun _ _ z=>⟨z.1,ht _ _ z.2.1,z.2.2⟩
section
variable {P:Program} {w:World} {H:Hp} {h:Heap} {a:Addr}
def Ss (ok:HOk P w H h)(e:Rd H a u):AU P w H h a u:=e.ok ok
def Nr (ok:HOk P w H h)(e:Rd H a (.dK kvs)):kvs.length<=sizeLine/\(a==sysModules)=false/\∃vs,KV kvs vs/\h.DictOf (A4 P w) a vs:=
 show AU P w H h a (.dK kvs) from Ss ok e
def WN (ok:HOk P w H h)(e:H a=some (.dK kvs)):kvs.length<=sizeLine/\(a==sysModules)=false/\∃vs,KV kvs vs/\h.DictOf (A4 P w) a vs:=Nr ok (.inl e)
def Ky (ok:HOk P w H h)(e:H a=some (.tup (ks.map kV))):(tupleKind (A4 P w)).is h ks a:=by
 obtain⟨_,its,r,o,h1,h2,n,h3⟩:=(show AU P w H h a (.tup (ks.map kV)) from ok a _ e);exact⟨o,its.toArray,n,h1,h2,h3,by simpa using Mp r⟩
def OY (ok:HOk P w H h)(e:Rd H a (.dT kvs)):kvs.length<=sizeLine/\(a==sysModules)=false /\
  ∃xs,KT H kvs xs/\h.DictOfH (tupleKind (A4 P w)) a xs:=by
 obtain⟨z,y,xs,r,o,es,ep,h1,h2,h3,h4,h5⟩:=(show AU P w H h a (.dT kvs) from Ss ok e);refine⟨z,y,xs,r,o,es,ep,h1,h2,h3,h4,fun x hx=>?_,h5⟩;have all:∀{l:List (List Key×V)} {m:List (List Key×Addr×Value)},KT H l m->∀x∈m,(tupleKind (A4 P w)).is h x.1 x.2.1:=by
  intro l m q
  induction q with
  |nil=>intro x hx;exact nomatch hx
  |@cons p q ps qs hq t ih=>
   intro x hx;rcases jE_.mp hx with e|hx
   ·subst e;exact Ky ok (by rw[<-hq.1];exact hq.2.1)
   ·exact ih x hx
 exact all r x hx
def Vc (ok:HOk P w H h)(e:H a=some (.dT kvs)):kvs.length<=sizeLine/\(a==sysModules)=false /\
  ∃xs,KT H kvs xs/\h.DictOfH (tupleKind (A4 P w)) a xs:=OY ok (.inl e)
end
noncomputable def DGet (H:Hp)(a:Addr)(y:V)(r:Option V):Prop:=
 (∃kvs k,Rd H a (.dK kvs)/\y=kV k/\r=valV kvs k) \/ ∃kvs k b,Rd H a (.dT kvs)/\y=.ref b/\H b=some (.tup (k.map kV))/\r=valV kvs k
noncomputable def DPut (H:Hp)(a:Addr)(y v:V)(H':Hp):Prop:=
 (∃kvs k,H a=some (.dK kvs)/\y=kV k/\kvs.length<sizeLine/\H'=upd H a (.dK (putK kvs k v))) \/
 ∃kvs k b,H a=some (.dT kvs)/\y=.ref b/\H b=some (.tup (k.map kV))/\kvs.length<sizeLine/\H'=upd H a (.dT (putK kvs k v))
def DGet.k {H:Hp}{a:Addr}{kvs:List (Key×V)}{k:Key}(e:H a=some (.dK kvs)):DGet H a (kV k) (valV kvs k):=.inl ⟨kvs,k,.inl e,rfl,rfl⟩
def DGet.t {H:Hp}{a b:Addr}{kvs:List (List Key×V)}{k:List Key}(e:H a=some (.dT kvs))(eb:H b=some (.tup (k.map kV))):DGet H a (.ref b) (valV kvs k):=.inr ⟨kvs,k,b,.inl e,rfl,eb,rfl⟩
def DPut.k {H:Hp}{a:Addr}{kvs:List (Key×V)}{k:Key}{v:V}(e:H a=some (.dK kvs))(hl:kvs.length<sizeLine):DPut H a (kV k) v (upd H a (.dK (putK kvs k v))):=.inl ⟨kvs,k,e,rfl,hl,rfl⟩
def DPut.t {H:Hp}{a b:Addr}{kvs:List (List Key×V)}{k:List Key}{v:V}(e:H a=some (.dT kvs))(eb:H b=some (.tup (k.map kV)))(hl:kvs.length<sizeLine):
  DPut H a (.ref b) v (upd H a (.dT (putK kvs k v))):=.inr ⟨kvs,k,b,e,rfl,eb,hl,rfl⟩
section
variable {X:Cx} {aa:α7} {σ:St} {H:Hp} {s:Shared} {a:Addr} {y v:V} {u r:Value} {o:Option V} {A:Around} {E:Value->Shared->Prop}
def Inv.big (I:Inv X aa σ H s):sysModules<s.heap.objs.size:=by
 have h:mainGlobals<s.heap.objs.size:=(I.mod.glob.keeps I.bk).lt;exact Nat.lt_trans (by decide) h
def Qx (hu:A.units+1<cLine)(I:Inv X aa σ H s)(g:DGet H a y (some v))(ry:RelV y u)(h:∀w' s',Inv X aa σ H s'->RelV v w'->Q w' s'):
  wpAny (model X.prog X.w) A (getItem (.ref a) u) Q E s:=by
 rcases g with ⟨kvs,k,e,ey,l⟩|⟨kvs,k,b,e,ey,eb,l⟩
 ·subst ey;obtain⟨z,hd,vs,aX,dd⟩:=Nr I.hok e;obtain⟨w',hw,eI⟩:=RelO.some_of (v:=v) (o:=valueAt vs k) (by rw[l];exact aX.val k);exact wpAny_getItem_of (OX ry) dd.mapOf hw (h w' _ (I.tok _) eI)
 ·subst ey;cases (show u=Value.ref b from ry);obtain⟨z,hd,xs,aX,dd⟩:=OY I.hok e;obtain⟨w',hw,eI⟩:=RelO.some_of (v:=v) (o:=(atKey xs k).map (·.2)) (by rw[l];exact aX.val k);obtain⟨p,hp,bj⟩:=zs_.mp hw;refine wpAny_getItem_heap (xK_ hu) (Ky I.hok eb) dd hp ?_;rw[bj];exact h w' _ (I.tok _) eI
def d_in (hu:A.units+1<cLine)(I:Inv X aa σ H s)(g:DGet H a y o)(ry:RelV y u)(h:∀s',Inv X aa σ H s'->Q (.bool o.isSome) s'):
  wpAny (model X.prog X.w) A (compareOp .In u (.ref a)) Q E s:=by
 rcases g with ⟨kvs,k,e,ey,l⟩|⟨kvs,k,b,e,ey,eb,l⟩
 ·subst ey;obtain⟨z,hd,vs,aX,dd⟩:=Nr I.hok e;refine wpAny_in_of (OX ry) hd dd.mapOf ?_;rw[<-(aX.val k).isSome_eq,<-l];exact h _ (I.tok _)
 ·subst ey;cases (show u=Value.ref b from ry);obtain⟨z,hd,xs,aX,dd⟩:=OY I.hok e;refine wpAny_in_heap (xK_ hu) (Ky I.hok eb) hd dd ?_;have q:=(aX.val k).isSome_eq;rw[wd_]at q;rw[<-q,<-l];exact h _ (I.tok _)
def Hc (I:Inv X aa σ H s)(mu:Mut (H a))(hs:Heap.SameBut a s.heap h')(he:∃q,h'.get? a=some q)(new:AU X.prog X.w (upd H a ob) h' a ob):
  Inv X aa σ (upd H a ob) {s with heap:=h',toks:=t' }:=
 I.write (x:=a) (e:=a) mu (.inl rfl) (fun b q hb z=>(hs.2 b hb).trans z) he new
def TY (z:kvs.length<=sizeLine)(hd:(a==sysModules)=false)(aX:KV kvs vs)(dd:h'.DictOf (A4 P w) a vs):
  AU P w H' h' a (.dK kvs):=⟨z,hd,vs,aX,dd⟩
def Qy (hu:A.units+1<cLine)(I:Inv X aa σ H s)(g:DPut H a y v H')(ry:RelV y u)(rv:RelV v r)(h:∀s',Inv X aa σ H' s'->Q () s'):
  wpAny (model X.prog X.w) A (setItem (.ref a) u r) Q E s:=by
 rcases g with ⟨kvs,k,e,ey,l,eH⟩|⟨kvs,k,b,e,ey,eb,l,eH⟩
 ·subst ey eH;obtain⟨z,hd,vs,aX,dd⟩:=WN I.hok e;have hz:vs.length<=sizeLine:=by rw[<-aX.length];exact z
  have hl:(putK kvs k v).length<=sizeLine:=by have:=B0 kvs k v;lia
  refine wpAny_setItem_pairs (hsz:=hz) (OX ry) dd fun h' fV hs=>h _ ?_;have he:∃q,h'.get? a=some q:=let ⟨q,_,_,hq,_⟩:=fV;⟨q,hq⟩;exact Hc I (by rw[e];exact oX) hs he (TY hl hd (aX.put k rv) fV)
 ·subst ey eH;cases (show u=Value.ref b from ry);obtain⟨z,hd,xs,aX,dd⟩:=Vc I.hok e;have hz:xs.length<=sizeLine:=by rw[<-zi_ aX];exact z
  have hl:(putK kvs k v).length<=sizeLine:=by have:=B0 kvs k v;lia
  refine wpAny_setItem_heap (hsz:=hz) (xK_ hu) (Ky I.hok eb) dd fun h' fV hs=>h _ ?_;obtain⟨q,es,ep,hq,h2,h3,h4,_,h5⟩:=fV;refine Hc I (by rw[e];exact oX) hs ⟨q,hq⟩ ⟨hl,hd,_,(aX.put k eb rv).keeps fun c ys ec=>?_,q,es,ep,hq,h2,h3,h4,h5⟩;rw[Au (U3 ec e (fun z=>nomatch z))];exact ec
end
noncomputable def NoSl (i:Expr):Prop:=∀ov iv,subscripted i false ov iv=operate [ov,iv] (getItem ov iv)
def Vd {T id:String}
  (hl:typeLookup (.type T) "__getitem__"=pure (some (.builtin id))) (hs:NoSl bh)
  (h:wpAny (model prog w) A (eval value env) (fun o s₁=>wpAny (model prog w) A (eval bh env) (fun i bo=>bo.TypeIs o T/\wpAny (model prog w) A (getItem o i) Q E bo) E s₁) E s):
  wpAny (model prog w) A (eval (.Subscript value bh pos) env) Q E s:=by
 refine Subscript_ (q9_ h (fun o s₁ h₁=>q9_ h₁ (fun i bo cZ=>?_) fun _ _ x=>x) fun _ _ x=>x);obtain⟨hT,cZ⟩:=cZ;unfold subscriptTail;refine je_ ?_;rw[getitemInPython_of_ne hT.not_modules];refine je_ (xO_ hT hl ?_);have aN:wpAny (model prog w) A (subscripted bh false o i) (fun r bO=>wpAny (model prog w) A (letTemporaryGo value o r >>= fun _=>pure r) Q E bO) E bo:=by
  rw[hs o i];exact wpAny_operating (q9_ cZ (fun r bO h₃=>je_ (wpAny_letTemporaryGo (jq_ h₃))) fun _ _ x=>x)
 first
  | exact jq_ (je_ aN)
  | exact je_ (jq_ (je_ aN))
  | exact je_ aN
def Nt (I:Inv X aa σ H s)(g:DGet H a y o):s.TypeIs (.ref a) "dict" := by
 rcases g with ⟨kvs,k,e,_,_⟩|⟨kvs,k,b,e,_,_,_⟩
 ·obtain⟨_,_,vs,_,dd⟩:=Nr I.hok e;exact dd.typeIs
 ·obtain⟨_,_,xs,_,dd⟩:=OY I.hok e;exact dd.typeIs
noncomputable def WO (td ty:TE):TE:=fun σ H Q=>td σ H fun x H1=>ty σ H1 fun y H2=>∃a v,x=.ref a/\DGet H2 a y (some v)/\Q v H2
noncomputable def tDIn (ty td:TE):TE:=fun σ H Q=>ty σ H fun y H1=>td σ H1 fun x H2=>∃a o,x=.ref a/\DGet H2 a y o/\Q (.bl o.isSome) H2
noncomputable def WQ (td ty tv:TE):TS:=fun D σ H=>tv σ H fun v H1=>td σ H1 fun x H2=>ty σ H2 fun y H3=>∃a H4,x=.ref a/\DPut H3 a y v H4/\D.nx σ H4
section
variable {X:Cx} {o i e value:Expr} {pos cW bq:Pos} {td ty tv:TE}
def Qz (hu:X.A.units+1<cLine)(ho:PE X o td)(hi:PE X i ty)(hs:NoSl i):PE X (.Subscript o i pos) (WO td ty):=by
 intro aa s σ H Q I h;refine Vd PySem.F.slot_dict_getitem.lookup hs (thn (ho aa s σ H _ I h) fun u s1 ⟨x,H1,I1,rx,q1⟩=>thn (hi aa s1 σ H1 _ I1 q1) fun iv s2 ⟨y,H2,I2,ry,a,v,ex,g,q2⟩=>?_);subst ex;obtain rfl:u=Value.ref a:=rx;exact⟨Nt I2 g,Qx hu I2 g ry fun w' s3 I3 eI=>⟨v,H2,I3,eI,q2⟩⟩
def WR (hu:X.A.units+1<cLine)(hi:PE X i ty)(ho:PE X o td):PC X .In i o (tDIn ty td):=by
 intro aa s σ H Q I h;refine thn (hi aa s σ H _ I h) fun iv s1 ⟨y,H1,I1,ry,q1⟩=>thn (ho aa s1 σ H1 _ I1 q1) fun u s2 ⟨x,H2,I2,rx,a,ov,ex,g,q2⟩=>?_;subst ex;obtain rfl:u=Value.ref a:=rx;exact d_in hu I2 g ry fun s3 I3=>⟨.bl ov.isSome,H2,I3,rfl,q2⟩
def Ds (hu:X.A.units+1<cLine)(ho:PE X o td)(hi:PE X i ty)(hv:PE X value tv)(hs:swapsWith value (some (.Subscript o i cW)) pos.line X.env=pure false):
  PS X (.Assign [.Subscript o i cW] value pos) (WQ td ty tv):=by
 intro aa s σ H D I h;refine wpAny_Assign_Subscript (thn (hv aa s σ H _ I h) fun r s1 ⟨v,H1,I1,rv,q1⟩=>thn (ho aa s1 σ H1 _ I1 q1) fun u s2 ⟨x,H2,I2,rx,q2⟩=>thn (hi aa s2 σ H2 _ I2 q2) fun iv s3 ⟨y,H3,I3,ry,a,H4,ex,g,q3⟩=>?_) hs;subst ex;obtain rfl:u=Value.ref a:=rx;exact Qy hu I3 g ry rv fun s4 I4=>⟨σ,H4,I4,q3⟩
end
def Oa (h:Heap)(hb:sysModules<h.objs.size):AU P w H (h.push {cls:=.type "dict",data:=.dict #[]}) h.objs.size (.dK []):=
 ⟨qs_ _,zQ_.mpr (q3_ (jP_ hb)),[],.nil,Heap.DictOf.new h⟩
def Ob (h:Heap)(hb:sysModules<h.objs.size):AU P w H (h.push {cls:=.type "dict",data:=.dict #[]}) h.objs.size (.dT []):=
 ⟨qs_ _,zQ_.mpr (q3_ (jP_ hb)),[],.nil,_,#[],0,jv_ _ rfl,⟨rfl,rfl,rfl⟩,rfl,rfl,rF⟩
noncomputable def TZ:TE:=fun _ H Q=>∀p,H p=none->Q (.ref p) (upd H p (.dK []))
noncomputable def T1:TE:=fun _ H Q=>∀p,H p=none->Q (.ref p) (upd H p (.dT []))
section
variable {X:Cx} {pos:Pos}
def Lg:PE X (.Dict [] [] pos) TZ:=fun aa s σ H Q I h=>
 wpAny_Dict_empty ⟨.ref s.heap.objs.size,_,I.laid (a:=s.heap.objs.size) (o:=.dK []) (t':=s.toks) (fun _ _ q=>jk_ _ q) (jh_ _) (Oa s.heap I.big),rfl,h _ (I.hok.fresh (jh_ _))⟩
def IS:PE X (.Dict [] [] pos) T1:=fun aa s σ H Q I h=>
 wpAny_Dict_empty ⟨.ref s.heap.objs.size,_,I.laid (a:=s.heap.objs.size) (o:=.dT []) (t':=s.toks) (fun _ _ q=>jk_ _ q) (jh_ _) (Ob s.heap I.big),rfl,h _ (I.hok.fresh (jh_ _))⟩
end
noncomputable def Jk:List (TE×TE)->St->Hp->(List (V×V)->Hp->Prop)->Prop
 |[],_,H,Q=>Q [] H
 | (tk,tv)::r,σ,H,Q=>tk σ H fun x H1=>tv σ H1 fun y H2=>Jk r σ H2 fun ps H3=>Q ((x,y)::ps) H3
noncomputable abbrev VV:List (V×V)->List (Value×Value)->Prop:=Paired fun p q=>RelV p.1 q.1/\RelV p.2 q.2
noncomputable def PPs (X:Cx)(pos:Pos)(c7:List (Option Expr))(values:List Expr)(fW:List (TE×TE)):Prop:=
 ∀(aa:α7) (s:Shared) (σ:St) (H:Hp) (Q:List (V×V)->Hp->Prop),Inv X aa σ H s->Jk fW σ H Q ->
  wpAny (model X.prog X.w) X.A (evalPairs (pairTrees c7 values X.env pos)) (fun vs s'=>∃ps H',Inv X aa σ H' s'/\VV ps vs/\Q ps H') X.xe s
def Ve : PPs X pos [] [] []:=fun aa s σ H Q I h=>pairTrees_nil_walk ⟨[],H,I,.nil,h⟩
def Su (hk:PE X k tk)(hv:PE X v tv)(hr:PPs X pos ks vs fW):
  PPs X pos (some k::ks) (v::vs) ((tk,tv)::fW):=fun aa s σ H Q I h=>
 pairTrees_cons_walk (thn (hk aa s σ H _ I h) fun u s1 ⟨x,H1,I1,rx,q1⟩=>thn (hv aa s1 σ H1 _ I1 q1) fun w2 s2 ⟨y,H2,I2,ry,q2⟩ =>
  thn (hr aa s2 σ H2 _ I2 q2) fun ws s3 ⟨ps,H3,I3,aX,q3⟩=>⟨(x,y)::ps,H3,I3,.cons ⟨rx,ry⟩ aX,q3⟩)
noncomputable def Hz (kvs more:List (Key×V)):List (Key×V):=more.foldl (fun acc kv=>putK acc kv.1 kv.2) kvs
def KV.merge:∀{more:List (Key×V)} {rs:List (Key×Value)} {kvs:List (Key×V)} {vs:List (Key×Value)},KV more rs->KV kvs vs->KV (Hz kvs more) (merged vs rs):=by
 intro more rs kvs vs r;unfold KV at r
 induction r generalizing kvs vs with
 |nil=>intro q;exact q
 |@cons p q ps qs h t ih=>
  intro r0;have e:KV (putK kvs p.1 p.2) (stored vs q.1 q.2):=by
   have:=r0.put p.1 h.2;rw[<-h.1];exact this
  exact ih e
def F9:∀(more kvs:List (Key×V)),(Hz kvs more).length<=kvs.length+more.length
 |[],kvs=>by show kvs.length<=kvs.length+0;lia
 |p::r,kvs=>by
  have h1:=F9 r (putK kvs p.1 p.2);have h2:=B0 kvs p.1 p.2;show (Hz (putK kvs p.1 p.2) r).length<=_;rw[qp_];lia
def Kz {P:Program}{w:World}:∀{kvs:List (Key×V)} {ws:List (Value×Value)},VV (kvs.map fun kv=>(kV kv.1,kv.2)) ws->∃rs,Carries (A4 P w) ws rs/\KV kvs rs
 |[],_,r=>by rw[ze_]at r;cases r;exact⟨[],oX,.nil⟩
 |p::kvs,_,r=>by
  rw[j6_]at r;cases r with
  |@cons a b as bs h t=>
   obtain⟨rs,c,q⟩:=Kz (P:=P) (w:=w) t;obtain⟨b1,b2⟩:=b;exact⟨(p.1,b2)::rs,⟨OX h.1,rfl,c⟩,.cons ⟨rfl,h.2⟩ q⟩
noncomputable def Vf (fW:List (TE×TE)):TE:=fun σ H Q=>∀p,H p=none->Jk fW σ (upd H p (.dK [])) fun ps H2=>H2 p=some (.dK [])/\∃kvs:List (Key×V),ps=kvs.map (fun kv=>(kV kv.1,kv.2))/\kvs.length<=15/\Q (.ref p) (upd H2 p (.dK (Hz [] kvs)))
def Vg (h:PPs X pos c7 values fW)(aB:c7.all (·.isSome)=true)(hl:c7.length=values.length)(h0:c7 ≠ [])
  (h15:c7.length<=15):PE X (.Dict c7 values pos) (Vf fW):=by
 intro aa s σ H Q I q;have hn:=I.hok.fresh (jh_ s.heap.objs.size);have I1:=I.laid (a:=s.heap.objs.size) (o:=.dK []) (h':=s.heap.push {cls:=.type "dict",data:=.dict #[]}) (t':=s.toks) (fun _ _ q=>jk_ _ q) (jh_ _) (Oa s.heap I.big);refine wpAny_Dict_walk (knd:=A4 X.prog X.w) aB hl h0 h15 (thn (h aa _ σ _ _ I1 (q _ hn)) fun ws s2 ⟨ps,H2,I2,aX,e,kvs,ep,lk,q2⟩=>?_);subst ep;obtain⟨rs,c,rk⟩:=Kz (P:=X.prog) (w:=X.w) aX;obtain⟨z,hd,vs0,r0,dd⟩:=WN I2.hok e;cases r0;refine⟨rs,c,dd,fun h' fV hs=>⟨.ref s.heap.objs.size,_,?_,rfl,q2⟩⟩;have hz:(Hz [] kvs).length<=sizeLine:=by
  have h1:=F9 kvs [];rw[xv_]at h1;rw[sizeLine_eq];lia
 have he:∃q,h'.get? s.heap.objs.size=some q:=let ⟨q,_,_,hq,_⟩:=fV;⟨q,hq⟩;exact Hc I2 (by rw[e];exact oX) hs he (TY hz hd (rk.merge .nil) fV)
structure M1 (X:Cx)(o:Expr)(m:Str)(bp:Pos)(e:Expr)(aF:Pos):Prop where
 base:attributeBase o m X.env (eval o X.env)=eval o X.env
 few:((backTo aF (starEach [e] X.env)).all (fun x => !x.1)&&(backToKw aF (keywordEach [] X.env)).all (fun x=>x.1.isSome)
  && decide (([e]:List Expr).length+([]:List Keyword).length+(if ([]:List Keyword).isEmpty then 0 else 1)<30))=true
 line:(bp.endLine==aF.line)=true
 trees:backTo aF (starEach [e] X.env)=[(false,eval e X.env)]
noncomputable def IsD (H:Hp)(a:Addr):Prop:=(∃kvs,Rd H a (.dK kvs)) \/ ∃kvs,Rd H a (.dT kvs)
def WT (I:Inv X aa σ H s)(d:IsD H a):
  s.TypeIs (.ref a) "dict" /\ (∀b,Value.ref a=.ref b->∃ob,s.heap.get? b=some ob/\ob.dict=none)/\(a==sysModules)=false:=by
 rcases d with ⟨kvs,e⟩|⟨kvs,e⟩
 ·obtain⟨_,hd,vs,_,dd⟩:=Nr I.hok e;refine⟨dd.typeIs,fun b q=>?_,hd⟩;cases q;obtain⟨ob,_,_,h1,h2,_⟩:=dd;exact⟨ob,h1,h2.2.1⟩
 ·obtain⟨_,hd,xs,_,dd⟩:=OY I.hok e;refine⟨dd.typeIs,fun b q=>?_,hd⟩;cases q;obtain⟨ob,_,_,h1,h2,_⟩:=dd;exact⟨ob,h1,h2.2.1⟩
section
variable {X:Cx} {aa:α7} {σ:St} {H:Hp} {s:Shared} {a:Addr} {y d:V} {u r:Value} {o:Option V} {A:Around} {E:Value->Shared->Prop}
def WU (hu:A.units+1<cLine)(I:Inv X aa σ H s)(g:DGet H a y o)(ry:RelV y u)(h:∀w' s',Inv X aa σ H s'->RelV (o.getD .non) w'->Q w' s'):
  wpAny (model X.prog X.w) A (call (.builtin "dict.get") [.ref a,u]) Q E s:=by
 rcases g with ⟨kvs,k,e,ey,l⟩|⟨kvs,k,b,e,ey,eb,l⟩
 ·subst ey;obtain⟨z,hd,vs,aX,dd⟩:=Nr I.hok e;refine call_meetsIn zx_ dd.typeIs pN (pI _ _) (meets_dict_get (A4 X.prog X.w) a (OX ry) hd) ⟨_,dd.mapOf,h _ _ (I.tok _) ?_⟩;rw[l];exact (aX.val k).getD rfl
 ·subst ey;cases (show u=Value.ref b from ry);obtain⟨z,hd,xs,aX,dd⟩:=OY I.hok e;refine call_meetsIn zx_ dd.typeIs pN (pI _ _) (meetsH_dict_get (tupleKind (A4 X.prog X.w)) a b hd) ⟨xK_ hu,k,xs,Ky I.hok eb,dd,h _ _ (I.tok _) ?_⟩;rw[l];exact (aX.val k).getD rfl
end
noncomputable def T2 (td ty:TE):TE:=fun σ H Q=>td σ H fun x H1=>∃a,x=.ref a/\IsD H1 a/\ty σ H1 fun y H2=>∃o,DGet H2 a y o/\Q (o.getD .non) H2
section
variable {X:Cx} {o e f:Expr} {bp aF:Pos} {td ty tx:TE}
def Sv (hu:X.A.units+1<cLine)(ho:PE X o td)(he:PE X e ty)(m:M1 X o "get" bp e aF):PE X (.Call (.Attribute o "get" bp) [e] [] aF) (T2 td ty):=by
 intro aa s σ H Q I h;refine wpAny_Call_method m.base m.few m.line zl_ zx_ tH (thn (ho aa s σ H _ I h) fun u s1 ⟨x,H1,I1,rx,a,ex,d,q1⟩=>?_);subst ex;obtain rfl:u=Value.ref a:=rx;obtain⟨t1,t2,_⟩:=WT I1 d;refine⟨t1,t2,?_⟩;rw[m.trees];refine xI_ rfl (zJ_ (Calls.spliced_cons (thn (he aa s1 σ H1 _ I1 q1) fun iv s2 ⟨y,H2,I2,ry,ov,g,q2⟩=>Calls.spliced_nil ?_)));exact WU hu I2 g ry fun w' s3 I3 eI=>⟨_,H2,I3,eI,q2⟩
end
end L2
namespace L2
open PySem PySem.Spec PyProof.Rows
noncomputable def clOf (env:Env):List (Str×NameKind)->List (Str×Addr)->List (Str×Addr)
 |[],acc=>acc
 | (n,k)::r,acc=>if (k == .free)=true then clOf env r ((n,(env.cells.lookup n).getD 0)::acc) else clOf env r acc
def KA (h:∀p∈scope.names,p.2=.free->∃c,env.cells.lookup p.1=some c):closureFor scope env=pure (clOf env scope.names []):=by
 have go:∀(l:List (Str×NameKind)) (acc:List (Str×Addr)),(∀p∈l,p.2=.free->∃c,env.cells.lookup p.1=some c) ->
   (forIn l acc fun (x:Str×NameKind) (cs:List (Str×Addr))=>(if (x.2 == .free)=true then do let c <- cellOf env x.1;pure (pb ((x.1,c)::cs)) else pure (pb cs):Sem (ForInStep (List (Str×Addr)))))=(pure (clOf env l acc):Sem (List (Str×Addr))):=by
  intro l
  induction l with
  |nil=>intro acc _;rfl
  |cons p r ih=>
   intro acc hl;obtain⟨n,k⟩:=p;rw[rB];by_cases hk:(k == .free)=true
   ·obtain⟨c,hc⟩:=hl (n,k) jL_ (by simpa using hk);have e1:cellOf env n=pure c:=by unfold cellOf;rw[hc]
    have mG:=ih ((n,c)::acc) fun q hq=>hl q (jA_ _ hq);show ((if (k == .free)=true then do let c <- cellOf env n;pure (pb ((n,c)::acc)) else pure (pb acc):Sem _) >>= _)=_;rw[if_pos hk,e1];show (forIn r ((n,c)::acc) _:Sem _)=_;rw[clOf,if_pos hk,hc];exact mG
   ·have mG:=ih acc fun q hq=>hl q (jA_ _ hq);show ((if (k == .free)=true then do let c <- cellOf env n;pure (pb ((n,c)::acc)) else pure (pb acc):Sem _) >>= _)=_;rw[if_neg hk];show (forIn r acc _:Sem _)=_;rw[clOf,if_neg hk];exact mG
 have e:=go scope.names [] h;unfold closureFor;show (forIn scope.names [] _ >>= fun cs=>pure cs:Sem _)=_;have e2:(forIn scope.names [] (fun (x:Str×NameKind) (r:List (Str×Addr))=>(match x with
   | (name,kind)=>if (kind == .free)=true then do let c <- cellOf env name;pure (pb ((name,c)::r)) else do pure PUnit.unit;pure (pb r):Sem (ForInStep (List (Str×Addr))))))=(pure (clOf env scope.names []):Sem (List (Str×Addr))):=e
 exact xd_ (fun z=>z >>= fun cs=>pure cs) e2
def Lh {env:Env}:∀(l:List (Str×NameKind)) (acc:List (Str×Addr)),(∀p∈l,p.2=.free->∃c,env.cells.lookup p.1=some c)->(∀q∈acc,env.cells.lookup q.1=some q.2)->∀q∈clOf env l acc,env.cells.lookup q.1=some q.2
 |[],_,_,ha,q,hq=>ha q hq
 | (n,k)::r,acc,hl,ha,q,hq=>by
  unfold clOf at hq;by_cases hk:(k == .free)=true
  ·rw[if_pos hk]at hq;obtain⟨c,hc⟩:=hl (n,k) jL_ (by simpa using hk);refine Lh r _ (fun p hp=>hl p (jA_ _ hp)) (fun p hp=>?_) q hq;rcases jE_.mp hp with rfl|hp
   ·show env.cells.lookup n=some ((env.cells.lookup n).getD 0);rw[hc];rfl
   ·exact ha p hp
  ·rw[if_neg hk]at hq;exact Lh r _ (fun p hp=>hl p (jA_ _ hp)) ha q hq
def IT {env:Env}:∀(l:List (Str×NameKind)) (acc:List (Str×Addr)) (x:Str),((x,NameKind.free)∈l \/ ∃c,(x,c)∈acc)->∃c,(x,c)∈clOf env l acc
 |[],_,_,h=>by
  rcases h with h|h
  ·cases h
  ·exact h
 | (n,k)::r,acc,x,h=>by
  unfold clOf;by_cases hk:(k == .free)=true
  ·rw[if_pos hk];refine IT r _ x ?_;rcases h with h|⟨c,h⟩
   ·rcases jE_.mp h with h|h
    ·cases h;exact .inr ⟨_,jL_⟩
    ·exact .inl h
   ·exact .inr ⟨c,jA_ _ h⟩
  ·rw[if_neg hk];refine IT r _ x ?_;rcases h with h|h
   ·rcases jE_.mp h with h|h
    ·cases h;exact absurd rfl hk
    ·exact .inl h
   ·exact .inr h
def BI {β:Type}:∀{l:List (Str×β)} {x:Str} {c:β},(x,c)∈l->∃c',l.lookup x=some c'
 |[],_,_,h=>by cases h
 | (n,d)::r,x,c,h=>by
  by_cases hx:(x==n)=true
  ·exact⟨d,by rw[qk_,hx]⟩
  ·rcases jE_.mp h with h|h
   ·cases h;exact absurd (beq_self_eq_true _) hx
   ·obtain⟨c',e⟩:=BI h;exact⟨c',by rw[qk_];simp only[Bool.not_eq_true]at hx;rw[hx];exact e⟩
noncomputable def relF (env:Env):Str×NameKind->Str×NameKind:=fun (n,k)=>if (k==NameKind.free&&env.scope.kind == .function&&env.kindOf n==some .cell) then (n,NameKind.cell) else (n,k)
def Li (h:(k==NameKind.free&&env.scope.kind == .function&&env.kindOf n==some .cell)=true):relF env (n,k)=(n,.cell):=if_pos h
def Nu (h:¬ (k==NameKind.free&&env.scope.kind == .function&&env.kindOf n==some .cell)=true):relF env (n,k)=(n,k):=if_neg h
def HH {env:Env}:∀{names:List (Str×NameKind)} {x:Str},names.lookup x=some .free ->
  ∃k,(k=NameKind.cell\/k=NameKind.free)/\(names.map (relF env)).lookup x=some k
 |[],_,h=>by simp at h
 | (n,k')::r,x,h=>by
  have ih := @HH env r x;rw[qk_]at h;rw[j6_];cases hx:x==n with
  |true=>
   rw[hx]at h;have e2:k'=.free:=jC_ h;subst e2;by_cases hb:((NameKind.free:NameKind)==NameKind.free&&env.scope.kind == .function&&env.kindOf n==some .cell)=true
   ·exact⟨.cell,.inl rfl,by rw[Li hb,qk_,hx]⟩
   ·exact⟨.free,.inr rfl,by rw[Nu hb,qk_,hx]⟩
  |false=>
   rw[hx]at h;obtain⟨k,hk,e⟩:=ih h;refine⟨k,hk,?_⟩;by_cases hb:(k'==NameKind.free&&env.scope.kind == .function&&env.kindOf n==some .cell)=true
   ·rw[Li hb,qk_,hx];exact e
   ·rw[Nu hb,qk_,hx];exact e
end L2
namespace L2
open PySem PySem.Spec PyProof.Rows
section
variable {prog:Program} {w:World} {A:Around} {R:Result->Shared->Prop} {s:Shared}
noncomputable abbrev cpW (prog:Program)(w:World)(A:Around)(R:Result->Shared->Prop)(env:Env){α:Type}(m:Sem α)(Q:α->Shared->Prop):Shared->Prop:=wpAny (model prog w) A m Q (notedBy (model prog w) A env fun e t=>R (.error e) t)
def Mq {ed bC iter:Expr} {it acc:Value} (I:Nat->Shared->Prop)
  (cX:∀n s,I n s->cpW prog w A R env (pyNext it) (fun r s=>match r with
   |none=>R (.ok .next) s
   |some v=>cpW prog w A R env (letOwnedTupleGo bC it v) (fun _=>cpW prog w A R env (assign bC env v) fun _=>cpW prog w A R env (forIn dI true fun c r=>if r=true then do let ok <- isTrue c env (eval c env);pure (pb ok) else pure (pb r)) fun ok s=>
     if ok=true then cpW prog w A R env (eval ed env) (fun x=>cpW prog w A R env (call (.builtin "list.append") [acc,x]) fun _ t=>∃m,m<n/\I m t) s else ∃m,m<n/\I m s) s) s)
  (n:Nat) (h:I n s):codeAny (model prog w) A (.compLoop (.ListComp ed [⟨bC,iter,dI,0⟩] scope pos) 0 it acc env) R s:=by
 have mono:∀{α β:Type} {m:Sem α} {f:α->Sem β} {Q:α->Shared->Prop} {Q':β->Shared->Prop} {s:Shared},cpW prog w A R env m Q s->(∀a t,Q a t->cpW prog w A R env (f a) Q' t)->cpW prog w A R env (m >>= f) Q' s:=fun h k=>je_ (q9_ h k fun _ _ e=>e);refine codeAny_loop rfl I (fun n s hI=>wpAny_noted ?_) n h;rw[compTurn_list];refine je_ (wpAny_standAt (mono (cX n s hI) fun r s1 h1=>?_));cases r with
 |none=>exact jq_ h1
 |some v=>
  refine mono h1 fun _ _ h2=>mono h2 fun _ _ h3=>mono h3 fun ok s4 h4=>?_;cases ok with
  |false=>exact jq_ ⟨rfl,h4⟩
  |true=>exact je_ (mono h4 fun _ _ h5=>mono h5 fun _ _ h6=>jq_ (jq_ ⟨rfl,h6⟩))
end
noncomputable abbrev Caps:=List (Str×Option Nat)
noncomputable def Caps.names (c:Caps):List Str:=c.map (·.1)
noncomputable def Caps.st (c:Caps)(σ:St):St:=c.map fun p=>p.2.bind fun j=>(σ[j]?).join
noncomputable def Ei (N:List Str)(sc:Scope):Caps->Prop
 |[]=>True
 | (_,none)::r=>Ei N sc r
 | (x,some j)::r=>(N[j]?=some x/\sc.names.lookup x=some .free)/\Ei N sc r
def Ei.get {N:List Str}{sc:Scope}:∀{c:Caps} {i:Nat} {x:Str} {j:Nat},Ei N sc c->c[i]?=some (x,some j)->N[j]?=some x/\sc.names.lookup x=some .free
 |[],_,_,_,_,h=>by simp at h
 | (y,none)::r,0,x,j,_,h=>by simp at h
 | (y,none)::r,i+1,x,j,ok,h=>Ei.get (c:=r) (i:=i) ok (by simpa using h)
 | (y,some k)::r,0,x,j,ok,h=>by
  simp only[List.getElem?_cons_zero,Option.some.injEq,Prod.mk.injEq]at h;obtain⟨rfl,rfl⟩:=h;exact ok.1
 | (y,some k)::r,i+1,x,j,ok,h=>Ei.get (c:=r) (i:=i) ok.2 (by simpa using h)
section
variable {X:Cx} {aa:α7} {σ:St} {H:Hp} {s:Shared} {sc:Scope} {fp:List Addr}
def HOk.track (x:HOk P w H h)(hn:H a=none)(new:AU P w (upd H a o) h a o):HOk P w (upd H a o) h:=fun b u e=>by
 by_cases hb:b=a
 ·subst hb;rw[Ab]at e;cases e;exact new
 ·rw[Au hb]at e;exact (x b u e).stay (fun c v _ q=>q) (fun c q=>by rw[Au (AO q hn)];exact q) fun c xs q=>by rw[Au (AO q hn)];exact q
def Un.track {fs ex:List Addr}{H H':Hp}{h h':Heap}{a:Addr}{o:HO}(u:Un fs ex H H' h h')(ha:h.objs.size<=a)(hn:H' a=none):Un fs ex H (upd H' a o) h h' where
 keep:=u.keep
 slot:=u.slot
 free:=fun b ob q n hx=>by rw[Au (jP_ (jK_ (ju_ q) ha))];exact u.free b ob q n hx
 there:=u.there
 tups:=fun b xs q=>by rw[Au (AO (u.tups b xs q) hn)];exact u.tups b xs q
 frzs:=fun b ob xs q=>by rw[Au (AO (u.frzs b ob xs q) hn)];exact u.frzs b ob xs q
 tbls:=fun b ps q=>by
  obtain⟨more,e⟩:=u.tbls b ps q;exact⟨more,by rw[Au (AO e hn)];exact e⟩
end
noncomputable def PF (X:Cx)(dI:List Expr)(t:TT):Prop:=
 ∀(aa:α7) (s:Shared) (σ:St) (H:Hp) (Q:Bool->Hp->Prop),Inv X aa σ H s->t σ H Q ->
  wpAny (model X.prog X.w) X.A (forIn dI true fun c r=>if r=true then do let ok <- isTrue c X.env (eval c X.env);pure (pb ok) else pure (pb r)) (TP X aa σ Q) X.xe s
noncomputable def Kb:TT:=fun _ H Q=>Q true H
def AJ : PF X [] Kb:=fun _ _ _ H _ I h=>wpAny_tests_nil ⟨H,I,h⟩
def WV (h:PT X c t):PF X [c] t:=fun aa s σ H Q I hw=>wpAny_tests_one (h aa s σ H Q I hw)
noncomputable def Vh (wi:TI)(cp:Caps)(g:TG)(tc:TT)(te:TE):TE:=fun σ H Q=>wi σ H fun J H1=>∃W:Nat->Nat->List V->St->Hp->Prop,(∃m,W 0 m [] (cp.st σ) H1)/\∀i m ys af H',W i m ys af H' ->
 ys.length<sizeLine/\((J.stop i H'/\∀D,H' D=none->Q (.ref D) (upd H' D (.lst ys)))\/(J.go i H'/\∃N:List V->St->Hp->Prop,(∀zs ag H2,N zs ag H2->∃m',m'<m/\W (i+1) m' zs ag H2)/\∀x H2,J.yld i H' x H2->g x af H2 fun ag H3=>tc ag H3 fun b H4=>
  if b=true then te ag H4 fun v H5=>N (ys++[v]) ag H5 else N ys ag H4))
def QA {K:α3}{a:Addr}{xs:List V}{g:TG}{tc:TT}{te:TE}{Q:VK}{σ:St}{H:Hp}(Pv:Nat->List V->St->Hp->Prop)(h0:Pv 0 [] σ H)(hz:xs.length<sizeLine)
  (hl:∀i ys σ H,i<=xs.length->Pv i ys σ H->SqL K H a xs/\ys.length<=i)
  (hs:∀i x ys σ H,xs[i]?=some x->Pv i ys σ H->g x σ H fun ag H2=>tc ag H2 fun b H3=>if b=true then te ag H3 fun v H4=>Pv (i+1) (ys++[v]) ag H4 else Pv (i+1) ys ag H3)
  (hd:∀ys σ H,Pv xs.length ys σ H->∀D,H D=none->Q (.ref D) (upd H D (.lst ys))):
  ∃W:Nat->Nat->List V->St->Hp->Prop,(∃m,W 0 m [] σ H)/\∀i m ys af H',W i m ys af H' ->
   ys.length<sizeLine/\(((Itl K a).stop i H'/\∀D,H' D=none->Q (.ref D) (upd H' D (.lst ys)))\/((Itl K a).go i H'/\∃N:List V->St->Hp->Prop,(∀zs ag H2,N zs ag H2->∃m',m'<m/\W (i+1) m' zs ag H2)/\∀x H2,(Itl K a).yld i H' x H2->g x af H2 fun ag H3=>tc ag H3 fun b H4=>
    if b=true then te ag H4 fun v H5=>N (ys++[v]) ag H5 else N ys ag H4)):=by
 refine⟨fun i m ys σ H=>m=xs.length-i/\i<=xs.length/\Pv i ys σ H,⟨xs.length,by simp,qs_ _,h0⟩,?_⟩;rintro i m ys σ H ⟨rfl,hi,p⟩;obtain⟨q,ly⟩:=hl i ys σ H hi p;refine⟨by lia,?_⟩;by_cases ao:i<xs.length
 ·refine .inr ⟨⟨xs,xs[i],q,by simp[ao]⟩,Pv (i+1),fun zs af H' p'=>⟨xs.length-(i+1),by lia,rfl,ao,p'⟩,fun x H' y=>?_⟩;obtain⟨e,y⟩:=y;subst e;exact hs i x ys σ _ (y xs q) p
 ·have e:i=xs.length:=by lia
  subst e;exact .inl ⟨⟨xs,q,jh_ _⟩,hd ys σ H p⟩
def Sw {K:α3}{a:Addr}{xs:List V}{g:TG}{tc:TT}{te:TE}{Q:VK}{σ:St}{H:Hp}(Pv:Nat->List V->St->Hp->Prop)(h0:Pv 0 [] σ H)(hz:xs.length<sizeLine)
  (hl:∀i ys σ H,i<=xs.length->Pv i ys σ H->SqT K H a xs/\ys.length<=i)
  (hs:∀i x ys σ H,xs[i]?=some x->Pv i ys σ H->g x σ H fun ag H2=>tc ag H2 fun b H3=>if b=true then te ag H3 fun v H4=>Pv (i+1) (ys++[v]) ag H4 else Pv (i+1) ys ag H3)
  (hd:∀ys σ H,Pv xs.length ys σ H->∀D,H D=none->Q (.ref D) (upd H D (.lst ys))):
  ∃W:Nat->Nat->List V->St->Hp->Prop,(∃m,W 0 m [] σ H)/\∀i m ys af H',W i m ys af H' ->
   ys.length<sizeLine/\(((Itt K a).stop i H'/\∀D,H' D=none->Q (.ref D) (upd H' D (.lst ys)))\/((Itt K a).go i H'/\∃N:List V->St->Hp->Prop,(∀zs ag H2,N zs ag H2->∃m',m'<m/\W (i+1) m' zs ag H2)/\∀x H2,(Itt K a).yld i H' x H2->g x af H2 fun ag H3=>tc ag H3 fun b H4=>
    if b=true then te ag H4 fun v H5=>N (ys++[v]) ag H5 else N ys ag H4)):=by
 refine⟨fun i m ys σ H=>m=xs.length-i/\i<=xs.length/\Pv i ys σ H,⟨xs.length,by simp,qs_ _,h0⟩,?_⟩;rintro i m ys σ H ⟨rfl,hi,p⟩;obtain⟨q,ly⟩:=hl i ys σ H hi p;refine⟨by lia,?_⟩;by_cases ao:i<xs.length
 ·refine .inr ⟨⟨xs,xs[i],q,by simp[ao]⟩,Pv (i+1),fun zs af H' p'=>⟨xs.length-(i+1),by lia,rfl,ao,p'⟩,fun x H' y=>?_⟩;obtain⟨e,y⟩:=y;subst e;exact hs i x ys σ _ (y xs q) p
 ·have e:i=xs.length:=by lia
  subst e;exact .inl ⟨⟨xs,q,jh_ _⟩,hd ys σ H p⟩
def OZ {lo:Int}{n:Nat}{g:TG}{tc:TT}{te:TE}{Q:VK}{σ:St}{H:Hp}(Pv:Nat->List V->St->Hp->Prop)(h0:Pv 0 [] σ H)(hz:n<sizeLine)
  (hl:∀i ys σ H,i<=n->Pv i ys σ H->ys.length<=i)
  (hs:∀i ys σ H,i<n->Pv i ys σ H->g (.int (lo+i)) σ H fun ag H2=>tc ag H2 fun b H3=>if b=true then te ag H3 fun v H4=>Pv (i+1) (ys++[v]) ag H4 else Pv (i+1) ys ag H3)
  (hd:∀ys σ H,Pv n ys σ H->∀D,H D=none->Q (.ref D) (upd H D (.lst ys))):
  ∃W:Nat->Nat->List V->St->Hp->Prop,(∃m,W 0 m [] σ H)/\∀i m ys af H',W i m ys af H' ->
   ys.length<sizeLine/\(((Itr lo n).stop i H'/\∀D,H' D=none->Q (.ref D) (upd H' D (.lst ys)))\/((Itr lo n).go i H'/\∃N:List V->St->Hp->Prop,(∀zs ag H2,N zs ag H2->∃m',m'<m/\W (i+1) m' zs ag H2)/\∀x H2,(Itr lo n).yld i H' x H2->g x af H2 fun ag H3=>tc ag H3 fun b H4=>
    if b=true then te ag H4 fun v H5=>N (ys++[v]) ag H5 else N ys ag H4)):=by
 refine⟨fun i m ys σ H=>m=n-i/\i<=n/\Pv i ys σ H,⟨n,by simp,qs_ _,h0⟩,?_⟩;rintro i m ys σ H ⟨rfl,hi,p⟩;have ly:=hl i ys σ H hi p;refine⟨by lia,?_⟩;by_cases ao:i<n
 ·refine .inr ⟨ao,Pv (i+1),fun zs af H' p'=>⟨n-(i+1),by lia,rfl,ao,p'⟩,fun x H' y=>?_⟩;obtain⟨e,y⟩:=y;subst e y;exact hs i ys σ _ ao p
 ·have e:i=n:=by lia
  subst e;exact .inl ⟨jh_ _,hd ys σ H p⟩
end L2
namespace L2
open PySem PySem.Spec PyProof.Rows
section
variable {X:Cx}
def Lj {bs:List Bool}{its:List Value}(r:Vals (bs.map V.bl) its){i:Nat}{v:Value}(h:its[i]?=some v):∃b,bs[i]?=some b/\v=.bool b:=by
 have hi:i<its.length:=(jd_.mp h).1;have hl:=r.length;rw[ja_]at hl;obtain⟨u,hu,ru⟩:=r.get (i:=i) (x:=V.bl bs[i]) (by rw[jf_];simp[show i<bs.length by lia]);rw[h]at hu;cases hu;exact⟨bs[i],by simp[show i<bs.length by lia],ru⟩
def T3 (bs:List Bool):(oW bs.length).map (fun i=>bs.getD i false)=bs:=
 qI_ (by simp) fun i _ h=>by simp[h]
def range_all {bs:List Bool}:(oW bs.length).all (fun i=>bs.getD i false)=bs.all id:=by
 have e:=xd_ (fun l=>l.all id) (T3 bs);rw[zf_]at e;exact e
def QB {bs:List Bool}:(oW bs.length).any (fun i=>bs.getD i false)=bs.any id:=by
 have e:=xd_ (fun l=>l.any id) (T3 bs);rw[qL]at e;exact e
def Jl {bs:List Bool}{its:List Value}{A:Around}{P:Program}{w:World}(r:Vals (bs.map V.bl) its):TruthOf P w A (fun i v=>its.toArray[i]?=some v) (fun i=>bs.getD i false):=by
 intro i v s Q E hv hq;obtain⟨b,hb,e⟩:=Lj r (by simpa using hv);subst e;refine xf_ ?_;have e:bs.getD i false=b:=by rw[jc_,hb];rfl
 have cD:Q (bs.getD i false) s:=hq;rw[e]at cD;exact cD
def IU (hc:X.calm=true):Cd X (.builtin "all") (fun xs H Q=>∃(p:Addr) (bs:List Bool),xs=[.ref p]/\SqL X.K H p (bs.map V.bl)/\Q (.bl (bs.all id)) H):=by
 intro aa s σ H xs us Q I r h;obtain⟨p,bs,rfl,hq,q⟩:=h;obtain⟨u,rfl,ru⟩:=vals1 r;cases ru;obtain⟨its,rv,pl,hz⟩:=I.list hq;have ah:=rv.length;rw[ja_]at ah;have hh:X.A.in1.handled=none:=I.ok.hd hc;obtain⟨o,ho,_⟩:=id pl.isList;have aw:p≠s.heap.objs.size:=jP_ (ju_ ho);refine call_all_walk (xV_ pl.isList ?_);refine⟨s.heap.objs.size,_,_,its.toArray.size,_,_,fun i=>bs.getD i false,rfl,Walks.list hh _ p aw its.toArray,⟨⟨_,jv_ _ rfl,rfl,rfl⟩,pl.isList.at fun o e=>jk_ _ e⟩,Jl rv,fun h' tk hk=>?_⟩;refine⟨.bl (bs.all id),H,I.kept (t':=tk) fun b o e=>hk b o ?_ (jk_ _ e),?_,q⟩
 ·intro hb;have e':b=s.heap.objs.size:=by simpa using hb
  exact absurd (ju_ e) (by rw[e'];exact j9_ _)
 ·rw[jl_,<-ah,range_all];rfl
def Sx (hc:X.calm=true):Cd X (.builtin "any") (fun xs H Q=>∃(p:Addr) (bs:List Bool),xs=[.ref p]/\SqL X.K H p (bs.map V.bl)/\Q (.bl (bs.any id)) H):=by
 intro aa s σ H xs us Q I r h;obtain⟨p,bs,rfl,hq,q⟩:=h;obtain⟨u,rfl,ru⟩:=vals1 r;cases ru;obtain⟨its,rv,pl,hz⟩:=I.list hq;have ah:=rv.length;rw[ja_]at ah;have hh:X.A.in1.handled=none:=I.ok.hd hc;obtain⟨o,ho,_⟩:=id pl.isList;have aw:p≠s.heap.objs.size:=jP_ (ju_ ho);refine call_any_walk (xV_ pl.isList ?_);refine⟨s.heap.objs.size,_,_,its.toArray.size,_,_,fun i=>bs.getD i false,rfl,Walks.list hh _ p aw its.toArray,⟨⟨_,jv_ _ rfl,rfl,rfl⟩,pl.isList.at fun o e=>jk_ _ e⟩,Jl rv,fun h' tk hk=>?_⟩;refine⟨.bl (bs.any id),H,I.kept (t':=tk) fun b o e=>hk b o ?_ (jk_ _ e),?_,q⟩
 ·intro hb;have e':b=s.heap.objs.size:=by simpa using hb
  exact absurd (ju_ e) (by rw[e'];exact j9_ _)
 ·rw[jl_,<-ah,QB];rfl
def Dt:Cd X (.builtin "isinstance") (fun xs H Q=>∃x c cv t b,xs=[x,c]/\TyOf X.K H x t/\(∀u,RelV c u->u=cv)/\kitOne X.K t cv=some b/\Q (.bl b) H):=by
 intro aa s σ H xs us Q I r h;obtain⟨x,c,cv,t,b,rfl,ty,hc,hk,q⟩:=h;obtain⟨u,w',rfl,rx,rc⟩:=vals2 r;rw[hc _ rc];exact Qk I rx ty hk fun tk=>⟨.bl b,H,I.tok tk,rfl,q⟩
noncomputable def EqD (K:α3)(H:Hp):Nat->V->V->Bool->Prop
 |0,x,y,b=>D9 x=true/\D9 y=true/\b=eqV x y
 |n+1,x,y,b=>(D9 x=true/\D9 y=true/\b=eqV x y) \/ ∃a c xs ys,x=.ref a/\y=.ref c/\((SqL K H a xs/\SqL K H c ys)\/(SqT K H a xs/\SqT K H c ys)) /\
   ∃e:Nat->Bool,(∀i x y,xs[i]?=some x->ys[i]?=some y->EqD K H n x y (e i))/\b=(decide (xs.length=ys.length)&&(oW (min xs.length ys.length)).all e)
def in1_units (A:Around):A.in1.units=A.units+1:=rfl
def Oc (h:D9 x=true):eqV x x=true:=by
 cases x<;>first|rfl|(simp[eqV];done)|exact absurd (show false=true from h) jx_
def EqD.self (I:Inv X aa σ H s):∀(n:Nat) {x:V} {b:Bool},EqD X.K H n x x b->b=true:=by
 intro n
 induction n with
 |zero=>
  rintro x b ⟨fx,_,rfl⟩;exact Oc fx
 |succ n ih=>
  rintro x b (⟨fx,_,rfl⟩|⟨a,c,xs,ys,rfl,e2,hq,e,he,rfl⟩)
  ·exact Oc fx
  ·cases e2;have exy:xs=ys:=by
    rcases hq with ⟨h1,h2⟩|⟨h1,h2⟩
    ·exact I.list_inj h1 h2
    ·exact I.tuple_inj h1 h2
   subst exy;simp only[decide_true,qw,pO,qP_,j3_];intro i hi;exact ih (he i xs[i] xs[i] (by simp[hi]) (by simp[hi]))
def QC : ((oW (min n m)).all e&&n==m)=(decide (n=m)&&(oW (min n m)).all e):=by
 rw[Bool.and_comm]
 congr 1
def EqD.at (I:Inv X aa σ H s):∀(n:Nat) (A:Around) {x y:V} {u v:Value} {b:Bool},A.units+n<cLine->RelV x u->RelV y v->EqD X.K H n x y b ->
  SeqAt.EqAt A s u v b/\∀a c,x=.ref a->y=.ref c->SeqAt.RcAt A s u v b:=by
 intro n
 induction n with
 |zero=>
  intro A x y u v b hu rx ry h;obtain⟨fx,fy,rfl⟩:=h;refine⟨Qr rx ry fx fy,?_⟩;rintro a c rfl rfl;exact absurd (show false=true from fx) jx_
 |succ n ih=>
  intro A x y u v b hu rx ry h;have hself:=h;rcases h with ⟨fx,fy,rfl⟩|⟨a,c,xs,ys,rfl,rfl,hq,e,he,rfl⟩
  ·refine⟨Qr rx ry fx fy,?_⟩;rintro a c rfl rfl;exact absurd (show false=true from fx) jx_
  ·cases rx;cases ry;have key:∀(its aA:List Value),Vals xs its->Vals ys aA->∀j (h1:j<its.toArray.size) (h2:j<aA.toArray.size),SeqAt.EqAt A.in1 s its.toArray[j] aA.toArray[j] (e j):=fun its aA r1 r2 j h1 h2=>by
    have l1:=r1.length;have l2:=r2.length;rw[jl_]at h1 h2;obtain⟨u1,g1,q1⟩:=r1.get (i:=j) (x:=xs[j]'s!"") (by simp[show j<xs.length by lia]);obtain⟨u2,g2,q2⟩:=r2.get (i:=j) (x:=ys[j]'s!"") (by simp[show j<ys.length by lia]);have k1:its.toArray[j]'(by rw[jl_];exact h1)=u1:=by
     have:=(jd_.mp g1).2;simpa using this
    have k2:aA.toArray[j]'(by rw[jl_];exact h2)=u2:=by
     have:=(jd_.mp g2).2;simpa using this
    rw[k1,k2];exact (ih A.in1 (by rw[in1_units];lia) q1 q2 (he j _ _ (by simp[show j<xs.length by lia]) (by simp[show j<ys.length by lia]))).1
   have rc:SeqAt.RcAt A s (.ref a) (.ref c) (decide (xs.length=ys.length)&&(oW (min xs.length ys.length)).all e):=by
    rcases hq with ⟨h1,h2⟩|⟨h1,h2⟩
    ·obtain⟨its,r1,p1,_⟩:=I.list h1;obtain⟨aA,r2,p2,_⟩:=I.list h2;have l1:=r1.length;have l2:=r2.length;by_cases hl:xs.length=ys.length
     ·have:=SeqAt.RcAt.lists (e:=e) p1.isList p2.isList (by rw[jl_,jl_];lia) s!"" (key its aA r1 r2);rw[jl_,<-l1]at this;rw[jZ_ hl,qw,<-hl,pO];exact this
     ·rw[jX_ hl,qa];exact SeqAt.RcAt.lists_lengths p1.isList p2.isList (by rw[jl_,jl_];simp;lia) s!""
    ·obtain⟨its,r1,p1,_⟩:=I.tuple h1;obtain⟨aA,r2,p2,_⟩:=I.tuple h2;have l1:=r1.length;have l2:=r2.length;have:=SeqAt.RcAt.tuples (e:=e) (show s.heap.IsTuple a its.toArray from p1) (show s.heap.IsTuple c aA.toArray from p2) s!"" (key its aA r1 r2);rw[jl_,jl_,<-l1,<-l2,QC]at this;exact this
   refine⟨?_,fun a' c' _ _=>rc⟩;by_cases hac:a=c
   ·subst hac;rw[EqD.self I (n+1) hself];exact SeqAt.EqAt.same _
   ·exact SeqAt.EqAt.of_refs hac rc
noncomputable def rEqD (K:α3)(n:Nat):R2:=fun x y H Q=>∃a c b,x=.ref a/\y=.ref c/\EqD K H n x y b/\Q (.bl b) H
def WW (n:Nat)(hu:X.A.units+n<cLine):OpR X (compareOp .Eq) (rEqD X.K n):=by
 intro aa s σ H x y v u Q I rx ry h;obtain⟨a,c,b,ex,ey,h,q⟩:=h;exact (EqD.at I n X.A hu rx ry h).2 a c ex ey _ _ _ _ ⟨.bl b,H,I,rfl,q⟩
def EqD.flat {K:α3} (hq:(SqL K H a xs/\SqL K H c ys)\/(SqT K H a xs/\SqT K H c ys))(fx:∀x∈xs,D9 x=true)(fy:∀y∈ys,D9 y=true)(hi:∀x∈xs,∀y∈ys,eqV x y=decide (x=y))(n:Nat):
  EqD K H (n+1) (.ref a) (.ref c) (decide (xs=ys)):=by
 have base:∀m i x y,xs[i]?=some x->ys[i]?=some y->EqD K H m x y (decide (x=y)):=fun m i x y h1 h2=>by
  have m1:=jj_ h1;have m2:=jj_ h2;cases m with
  |zero=>exact⟨fx _ m1,fy _ m2,(hi _ m1 _ m2).symm⟩
  |succ m=>exact .inl ⟨fx _ m1,fy _ m2,(hi _ m1 _ m2).symm⟩
 refine .inr ⟨a,c,xs,ys,rfl,rfl,hq,fun i=>match xs[i]?,ys[i]? with|some x,some y=>decide (x=y)|_,_=>true,fun i x y h1 h2=>?_,?_⟩
 ·simp only[h1,h2];exact base n i x y h1 h2
 ·rw[qx_];simp only[j5_,qo_,qP_,j3_];constructor
  ·rintro rfl;refine⟨rfl,fun i hi=>?_⟩;have hi:i<xs.length:=by lia
   simp[hi]
  ·rintro⟨hl,h⟩;refine j2_ fun i=>?_;by_cases hi:i<xs.length
   ·have:=h i s!"";simp[hi,show i<ys.length by lia]at this;simp[hi,show i<ys.length by lia,this]
   ·rw[jt_ s!"",jt_ s!""]
end
end L2
namespace L2
open PySem PySem.Spec PyProof.Rows
section
variable {t u:TS} {te ta tb tc':TE} {tt tu:TT} {A B:TA} {D:Ends} {σ:St} {H:Hp} {Q:VK} {R:Bool->Hp->Prop} {S:List V->Hp->Prop} {i:Nat} {v:V} {g:TG} {r r':R2} {K:α3} {wi:TI} {cp:Caps}
theorem WX:tSeq t u D σ H=t {D with nx:=u D} σ H:=rfl
theorem T4:Ws D σ H=D.nx σ H:=rfl
theorem WY:tAsg te g D σ H=te σ H fun x H1=>g x σ H1 D.nx:=rfl
theorem QD : G8 i v σ H N=N (σ.set i (some v)) H:=rfl
theorem WZ:tVar i σ H Q=∃v,σ[i]?=some (some v)/\Q v H:=rfl
theorem r_c:tC v σ H Q=Q v H:=rfl
theorem r_op:tOp r ta tb σ H Q=ta σ H fun x H1=>tb σ H1 fun y H2=>r x y H2 Q:=rfl
theorem r_un : tUn f ta σ H Q=ta σ H fun x H1=>f x H1 Q:=rfl
theorem r_I : rI C f x y H Q=∃i j,x=.int i/\y=.int j/\C i j/\Q (f i j) H:=rfl
theorem r_I0 : rI0 f x y H Q=∃i j,x=.int i/\y=.int j/\Q (f i j) H:=rfl
theorem r_U : rU f x H Q=∃i,x=.int i/\Q (f i) H:=rfl
theorem T5 : U9 sp bL E A σ H Q=A σ H fun vs H1=>sp (vs++bL) H1 Q E:=rfl
theorem T6:WG te A σ H S=te σ H fun x H1=>A σ H1 fun xs H2=>S (x::xs) H2:=rfl
theorem W2:tNil σ H S=S [] H:=rfl
theorem W4:tRet te D σ H=te σ H D.rt:=rfl
theorem T7:Wt te D σ H=te σ H fun _ H1=>D.nx σ H1:=rfl
theorem r_if:tIfS tt t u D σ H=tt σ H fun b H1=>if b=true then t D σ H1 else u D σ H1:=rfl
theorem r_B:tB te σ H R=te σ H fun x H1=>∃c,x=.bl c/\R c H1:=rfl
theorem T8:Sn te σ H R=te σ H fun x H1=>∃c,x=.bl c/\R c H1:=rfl
theorem W5:tAnd tt tu σ H R=tt σ H fun c H1=>if c=true then tu σ H1 R else R false H1:=rfl
theorem r_or:tOr tt tu σ H R=tt σ H fun c H1=>if c=true then R true H1 else tu σ H1 R:=rfl
theorem W6:tNot tt σ H R=tt σ H fun c H1=>R (!c) H1:=rfl
theorem T9:Wq ta tb σ H Q=ta σ H fun x H1=>∃c,x=.bl c/\if c=true then tb σ H1 Q else Q (.bl false) H1:=rfl
theorem Ua:Wr ta σ H Q=ta σ H fun x H1=>∃c,x=.bl c/\Q (.bl (!c)) H1:=rfl
theorem QE:TU r r' ta tb tc' σ H Q=ta σ H fun x H1=>tb σ H1 fun y H2=>r x y H2 fun z H3=>∃k,z=.bl k/\(if k=true then tc' σ H3 fun w' H4=>r' y w' H4 Q else Q (.bl false) H3):=rfl
theorem W7:tIf tt ta tb σ H Q=tt σ H fun c H1=>if c=true then ta σ H1 Q else tb σ H1 Q:=rfl
theorem r_CB : tCB f A σ H Q=A σ H fun vs H1=>f vs H1 Q:=rfl
theorem W8:tLst A σ H Q=A σ H fun xs H1=>xs.length<=sizeLine/\∀p,H1 p=none->Q (.ref p) (upd H1 p (.lst xs)):=rfl
theorem W9:tTup A σ H Q=A σ H fun xs H1=>xs.length<=sizeLine/\∀p,H1 p=none->Q (.ref p) (upd H1 p (.tup xs)):=rfl
theorem Xa : rIxL K x y H Q=∃p xs i v,x=.ref p/\y=.int i/\SqL K H p xs/\atI xs i=some v/\Q v H:=rfl
theorem Xb : rIxT K x y H Q=∃p xs i v,x=.ref p/\y=.int i/\SqT K H p xs/\atI xs i=some v/\Q v H:=rfl
theorem r_sl : tSl f te tl th σ H Q=te σ H fun x H1=>tl σ H1 fun l H2=>th σ H2 fun u H3=>f x l u H3 Q:=rfl
theorem Ub : WK te σ H U=te σ H fun x H1=>∃i,x=.int i/\U (some i) H1:=rfl
theorem Od : Qn σ H U=U none H:=rfl
theorem Xc {lo hi:Option Int}:rSlL K x lo hi H Q=∃a xs,x=.ref a/\SqL K H a xs/\∀p,H p=none->Q (.ref p) (upd H p (.lst (cutV xs lo hi))):=rfl
theorem r_BM : tBM K T f te A σ H Q=te σ H fun x H1=>tyV K T x H1/\A σ H1 fun xs H2=>f x xs H2 Q:=rfl
theorem Oe : Qt x vs H Q=∃l xs y,x=.ref l/\vs=[y]/\H l=some (.lst xs)/\xs.length<sizeLine/\Q .non (upd H l (.lst (xs++[y]))):=rfl
theorem Uc : gSub to ti ts v σ H N=to σ H fun o H1=>ti σ H1 fun i H2=>ts o i v H2 fun H3=>N σ H3:=rfl
theorem Ud : WL o k v H N=∃p xs m j,o=.ref p/\k=.int m/\H p=some (.lst xs)/\ixN xs.length m=some j/\N (upd H p (.lst (xs.set j v))):=rfl
theorem r_Eq : rEq x y H Q=(scal x y=true/\Q (.bl (decide (x=y))) H):=rfl
theorem r_Ne : rNe x y H Q=(scal x y=true/\Q (.bl (!decide (x=y))) H):=rfl
theorem Xd : rEqD K n x y H Q=∃a c b,x=.ref a/\y=.ref c/\EqD K H n x y b/\Q (.bl b) H:=rfl
theorem QF : U6 K te σ H Z=te σ H fun x H1=>∃a,x=.ref a/\(∃xs,SqL K H1 a xs)/\Z (Itl K a) H1:=rfl
theorem Ue : iTup K te σ H Z=te σ H fun x H1=>∃a,x=.ref a/\(∃xs,SqT K H1 a xs)/\Z (Itt K a) H1:=rfl
theorem QG : WA A σ H Z=A σ H fun vs H1=>∃j:Int,vs=[.int j] /\ -(2 ^ 62)<=j/\j<2 ^ 62/\Z (Itr 0 j.toNat) H1:=rfl
theorem Xe : tAug i te ti D σ H=∃x,σ[i]?=some (some x)/\te σ H fun y H1=>ti x y H1 fun z H2=>D.nx (σ.set i (some z)) H2:=rfl
theorem r_ip : ipI f x y H Q=∃i j,x=.int i/\y=.int j/\Q (.int (f i j)) H:=rfl
theorem QH:Kb σ H R=R true H:=rfl
end
def Same.new (h:H p=none):Same H (upd H p o):=fun b u e=>by rw[Au (AO e h)];exact e
def Same.newT (s:Same H H')(h:H' p=none):Same H (upd H' p o):=s.trans (Same.new h)
def Same.over (s:Same H H')(h:H p=none):Same H (upd H' p o):=fun b u e=>by rw[Au (AO e h)];exact s b u e
def Nv (h:upd H p o D=none):H D=none/\D≠p:=by
 by_cases e:D=p
 ·subst e;rw[Ab]at h;cases h
 ·rw[Au e]at h;exact⟨h,e⟩
def Same.seqT {K:α3} (e:Same H H')(h:SqT K H a xs):SqT K H' a xs:=by
 rcases h with (h|⟨o,h⟩)|h
 ·exact .inl (.inl (e _ _ h))
 ·exact .inl (.inr ⟨o,e _ _ h⟩)
 ·exact .inr h
def hu9 (hr:Room k A):A.units+8<cLine:=by have:=hr.units;lia
section
variable {K:α3} {wi:TI} {cp:Caps} {g:TG} {tc:TT} {te:TE} {σ:St} {H:Hp} {Q:VK}
theorem Xf : (cxOf CX P w K mg base N qual scope f cd A outer s H E).K=K:=rfl
noncomputable def Ea (J:It)(cp:Caps)(g:TG)(tc:TT)(te:TE)(σ:St)(H1:Hp)(Q:VK):Prop:=∃W:Nat->Nat->List V->St->Hp->Prop,(∃m,W 0 m [] (cp.st σ) H1)/\∀i m ys af H',W i m ys af H' ->
 ys.length<sizeLine/\((J.stop i H'/\∀D,H' D=none->Q (.ref D) (upd H' D (.lst ys)))\/(J.go i H'/\∃N:List V->St->Hp->Prop,(∀zs ag H2,N zs ag H2->∃m',m'<m/\W (i+1) m' zs ag H2)/\∀x H2,J.yld i H' x H2->g x af H2 fun ag H3=>tc ag H3 fun b H4=>
  if b=true then te ag H4 fun v H5=>N (ys++[v]) ag H5 else N ys ag H4))
theorem Ug:Vh wi cp g tc te σ H Q=wi σ H fun J H1=>Ea J cp g tc te σ H1 Q:=rfl
noncomputable def ForW (J:It)(g:TG)(tb:TS)(D:Ends)(σ:St)(H1:Hp):Prop:=∃W:Nat->Nat->St->Hp->Prop,(∃m,W 0 m σ H1)/\∀i m σ H,W i m σ H ->
 (J.stop i H/\D.nx σ H)\/(J.go i H/\∃N:St->Hp->Prop,(∀af H',N af H'->∃m',m'<m/\W (i+1) m' af H')/\∀x H',J.yld i H x H'->g x σ H' fun ag H2=>tb {D with nx:=N,ct:=N,bk:=D.nx} ag H2)
theorem Xg : tFor wi g tb D σ H=wi σ H fun J H1=>ForW J g tb D σ H1:=rfl
def forL (Pv:Nat->St->Hp->Prop)(h0:Pv 0 σ H)(hl:∀i σ H,i<=xs.length->Pv i σ H->SqL K H a xs)
  (hs:∀i x σ H,xs[i]?=some x->Pv i σ H->g x σ H fun ag H2=>tb {D with nx:=Pv (i+1),ct:=Pv (i+1),bk:=D.nx} ag H2) (hd:∀σ H,Pv xs.length σ H->D.nx σ H):ForW (Itl K a) g tb D σ H:=Sl Pv h0 hl hs hd
def forT (Pv:Nat->St->Hp->Prop)(h0:Pv 0 σ H)(hl:∀i σ H,i<=xs.length->Pv i σ H->SqT K H a xs)
  (hs:∀i x σ H,xs[i]?=some x->Pv i σ H->g x σ H fun ag H2=>tb {D with nx:=Pv (i+1),ct:=Pv (i+1),bk:=D.nx} ag H2) (hd:∀σ H,Pv xs.length σ H->D.nx σ H):ForW (Itt K a) g tb D σ H:=U7 Pv h0 hl hs hd
def forR {lo:Int} (Pv:Nat->St->Hp->Prop)(h0:Pv 0 σ H)
  (hs:∀i σ H,i<n->Pv i σ H->g (.int (lo+i)) σ H fun ag H2=>tb {D with nx:=Pv (i+1),ct:=Pv (i+1),bk:=D.nx} ag H2) (hd:∀σ H,Pv n σ H->D.nx σ H):ForW (Itr lo n) g tb D σ H:=Qd Pv h0 hs hd
def Fb (Pv:Nat->List V->St->Hp->Prop)(h0:Pv 0 [] (cp.st σ) H)(hz:xs.length<sizeLine)
  (hl:∀i ys σ H,i<=xs.length->Pv i ys σ H->SqL K H a xs/\ys.length<=i)
  (hs:∀i x ys σ H,xs[i]?=some x->Pv i ys σ H->g x σ H fun ag H2=>tc ag H2 fun b H3=>if b=true then te ag H3 fun v H4=>Pv (i+1) (ys++[v]) ag H4 else Pv (i+1) ys ag H3)
  (hd:∀ys σ H,Pv xs.length ys σ H->∀D,H D=none->Q (.ref D) (upd H D (.lst ys))):Ea (Itl K a) cp g tc te σ H Q:=QA Pv h0 hz hl hs hd
def IE (Pv:Nat->List V->St->Hp->Prop)(h0:Pv 0 [] (cp.st σ) H)(hz:xs.length<sizeLine)
  (hl:∀i ys σ H,i<=xs.length->Pv i ys σ H->SqT K H a xs/\ys.length<=i)
  (hs:∀i x ys σ H,xs[i]?=some x->Pv i ys σ H->g x σ H fun ag H2=>tc ag H2 fun b H3=>if b=true then te ag H3 fun v H4=>Pv (i+1) (ys++[v]) ag H4 else Pv (i+1) ys ag H3)
  (hd:∀ys σ H,Pv xs.length ys σ H->∀D,H D=none->Q (.ref D) (upd H D (.lst ys))):Ea (Itt K a) cp g tc te σ H Q:=Sw Pv h0 hz hl hs hd
def Hd {lo:Int} (Pv:Nat->List V->St->Hp->Prop)(h0:Pv 0 [] (cp.st σ) H)(hz:n<sizeLine)
  (hl:∀i ys σ H,i<=n->Pv i ys σ H->ys.length<=i)
  (hs:∀i ys σ H,i<n->Pv i ys σ H->g (.int (lo+i)) σ H fun ag H2=>tc ag H2 fun b H3=>if b=true then te ag H3 fun v H4=>Pv (i+1) (ys++[v]) ag H4 else Pv (i+1) ys ag H3)
  (hd:∀ys σ H,Pv n ys σ H->∀D,H D=none->Q (.ref D) (upd H D (.lst ys))):Ea (Itr lo n) cp g tc te σ H Q:=OZ Pv h0 hz hl hs hd
def Lk (f:V->V)(e:cp.st σ=none::af)(hl:SqT K H a xs)(hz:xs.length<sizeLine)(hs:∀x∈xs,∀R:VK,R (f x) H->te (some x::af) H R)(hd:∀D,H D=none->Q (.ref D) (upd H D (.lst (xs.map f)))):
  Ea (Itt K a) cp (G8 0) Kb te σ H Q:=by
 refine IE (xs:=xs) (fun i ys ag H2=>H2=H/\ys=(xs.take i).map f/\∃o,ag=o::af) ⟨rfl,by simp,none,e⟩ hz (fun i ys ag H2 hi h=>?_) (fun i x ys ag H2 hx h=>?_) (fun ys ag H2 h=>?_)
 ·obtain⟨rfl,rfl,_⟩:=h;exact⟨hl,by rw[ja_,jz_];lia⟩
 ·obtain⟨rfl,rfl,o,rfl⟩:=h;refine hs x (jj_ hx) _ ⟨rfl,?_,some x,rfl⟩;rw[jB_,hx];simp
 ·obtain⟨rfl,rfl,_⟩:=h;rw[jr_];exact hd
def Sy (f:V->V)(e:cp.st σ=none::af)(hl:SqL K H a xs)(hz:xs.length<sizeLine)(hs:∀x∈xs,∀R:VK,R (f x) H->te (some x::af) H R)(hd:∀D,H D=none->Q (.ref D) (upd H D (.lst (xs.map f)))):
  Ea (Itl K a) cp (G8 0) Kb te σ H Q:=by
 refine Fb (xs:=xs) (fun i ys ag H2=>H2=H/\ys=(xs.take i).map f/\∃o,ag=o::af) ⟨rfl,by simp,none,e⟩ hz (fun i ys ag H2 hi h=>?_) (fun i x ys ag H2 hx h=>?_) (fun ys ag H2 h=>?_)
 ·obtain⟨rfl,rfl,_⟩:=h;exact⟨hl,by rw[ja_,jz_];lia⟩
 ·obtain⟨rfl,rfl,o,rfl⟩:=h;refine hs x (jj_ hx) _ ⟨rfl,?_,some x,rfl⟩;rw[jB_,hx];simp
 ·obtain⟨rfl,rfl,_⟩:=h;rw[jr_];exact hd
end
noncomputable def tCut (t u:TS):TS:=fun D σ H=>∃R:St->Hp->Prop,t {D with nx:=R} σ H/\∀af H',R af H'->u D af H'
def Jm {st:Stmt}{rest:List Stmt} (h1:PS X st t)(h2:PSs X rest u):PSs X (st::rest) (tCut t u):=by
 intro aa s σ H D I h;obtain⟨R,ha,hb⟩:=h;refine wpAny_execs_cons (thn (h1 aa s σ H {D with nx:=R} I ha) fun f s1 q=>?_);cases f with
 |next=>
  obtain⟨af,H',I',q⟩:=q;exact h2 aa s1 af H' D I' (hb af H' q)
 |ret v=>exact q
 |brk=>exact q
 |cont=>exact q
def An:1000000<sizeLine:=by rw[sizeLine_eq];decide
def Ga {ns:α2}{x:V}(h:x∈ns.map V.int):∃n,n∈ns/\x=.int n:=by
 obtain⟨n,hn,e⟩:=jo_.mp h;exact⟨n,hn,e.symm⟩
def IV {ns:α2}{i:Nat}{x:V}(h:(ns.map V.int)[i]?=some x):∃n,ns[i]?=some n/\x=.int n:=by
 rw[jf_]at h;cases e:ns[i]? with
 |none=>rw[e]at h;cases h
 |some n=>rw[e]at h;exact⟨n,rfl,(jC_ h).symm⟩
def Cq (h0:0<=i)(h:xs[i.toNat]?=some v):atI xs i=some v:=by
 have:=FK h
 rwa [show ((i.toNat:Nat):Int)=i by lia]at this
def Ll {K:α3} : kitOne K t t=some true:=by unfold kitOne;rw[if_pos (by simp)]
def Mr {K:α3}:kitOne K (.type "int") (.type "bool")=some false:=by
 first|rfl|decide +kernel|(unfold kitOne;kernel_rfl)
def Ms : ∀u,RelV (V.ty n) u->u=.type n:=fun _ h=>h
def QI : ∀u,RelV (V.ref a) u->u=.ref a:=fun _ h=>h
end L2
namespace L2
open PySem PySem.W PySem.Spec PySem.Calls PyProof.Rows
section
variable {prog:Program} {w:World} {A:Around} {E:Value->Shared->Prop} {s:Shared} {K:Frag} {x D:Addr} {ox:Obj}
structure ExcCls (K:Frag)(D:Addr):Prop where
 ga:findIn K (.ref D) "__getattribute__"=some (some (.builtin "BaseException.__getattribute__"))
 hk:findIn K (.ref D) "__getattr__"=some none
 cl:(clsIn K D).isSome=true
 ca:findIn K (.ref D) "__class__"=some (some (.builtin "object.__class__"))
 gs:specialIn K (.builtin "object.__class__") "__get__"=some (some (.builtin "getset_descriptor.__get__"))
 tk:takesIn K (.builtin "object.__class__")=some true
 mo:mroIn K D (.type "object")=some true
 mb:mroIn K D (.type "BaseException")=some true
noncomputable def ExcAt (x D:Addr)(h:Heap):Prop:=∃ox,h.get? x=some ox/\ox.cls=.ref D
def ExcAt.type (I:ExcAt x D h):Looks M h (typeOf (.ref x)) (.ref D):=by
 obtain⟨ox,h1,h2⟩:=I;exact h2 ▸ (Looks.ld h1).andThen .now
def Sz (X:K.In h)(C:ExcCls K D):Looks M h (Builtin.ObjectAttr.find (.ref x) (.ref D) "__class__") (.bind (.builtin "getset_descriptor.__get__") (.builtin "object.__class__")):=
 (looks_findIn X C.ca).andThen ((show Looks M h (Builtin.ObjectAttr.getOf (some (.builtin "object.__class__"))) _ from looks_specialIn X C.gs).andThen
  ((show Looks M h (Builtin.ObjectAttr.dataDescriptor? (some (.builtin "object.__class__")) (some (.builtin "getset_descriptor.__get__"))) (some (.builtin "getset_descriptor.__get__",.builtin "object.__class__")) from (looks_takesIn X C.tk).andThen .now).andThen (Looks.tag .now)))
open Builtin Builtin.ObjectAttr Builtin.Getset_descriptor in
def Vi {R:Result->Shared->Prop}{tp:Value}(X:K.In s.heap)(I:ExcAt x D s.heap)(hm:mroIn K D (.type "object")=some true)(h:R (.ok (.ret (.ref D))) s):codeAny (model prog w) A (.call (.builtin "getset_descriptor.__get__") ⟨[.builtin "object.__class__",.ref x,tp],[]⟩) R s:=by
 have l0:=I.type (M:=model prog w);have l1:=looks_mroIn (M:=model prog w) X hm;obtain⟨_,_,_,_,_⟩:=s;have sg:=KF.slot_gs;refine zK_ sg.plain KF.entry_gs (sg.check _ _ _ _ _ _ _ _ KF.type_class (KF.args_gs _ _ _) ?_);unfold Builtin.«getset_descriptor.__get__» descrGet;rw[dga_obj];unfold descrGetter descrCheckInstance isInstance descrNameAndClass;refine je_ (jq_ ?_);simp only[KF.owner_class]
 repeat lk
 refine⟨Code.quiet_builtin _ (by decide +kernel),qN_ KF.entry_class ?_⟩;unfold Builtin.«object.__class__» shownTypeOf
 repeat lk
 exact h
def QJ (X:K.In s.heap)(I:ExcAt x D s.heap)(C:ExcCls K D)(hq:Q () s):wpAny M A (checkBuiltinCall "BaseException.__getattribute__" ⟨[.ref x,nameV],[]⟩) Q E s:=by
 have a1:=F.args_bexc_ga (.ref x) nameV;have l0:=I.type (M:=M);have l1:=looks_mroIn (M:=M) X C.mb;obtain⟨_,_,_,_,_⟩:=s;simp only[checkBuiltinCall,show builtinKind "BaseException.__getattribute__"=some .slot by decide +kernel,show splitId "BaseException.__getattribute__"=some ("BaseException","__getattribute__") by decide +kernel,isInstance]
 repeat (first|lk|wp_step)
 exact hq
def QK (X:K.In s.heap)(I:ExcAt x D s.heap)(C:ExcCls K D)(hq:Q (.done (.ret (.ref D))) s):wpAny (model prog w) A (Builtin.«object.__getattribute__» ⟨[.ref x,.str "__class__" tk],[]⟩) Q E s:=by
 obtain⟨hh,g,d,t,os⟩:=s;have L0:=I.type (M:=model prog w);have L1:=Sz (M:=model prog w) (x:=x) X C;unfold Builtin.«object.__getattribute__»;refine je_ (jq_ ?_);refine je_ (jq_ ?_);refine je_ (L0.at ?_);refine je_ (L1.at ?_);show wpAny _ _ (Builtin.ObjectAttr.bindTo _ _ _ _) _ _ _;unfold Builtin.ObjectAttr.bindTo;dsimp only;refine je_ (qC_ (wpAny_call (Vi (K:=K) (s:=⟨hh,g,d,t,os⟩) X I C.mo ?_)));exact jq_ hq
def QL (X:K.In s.heap)(I:ExcAt x D s.heap)(C:ExcCls K D)(h:Q (some (.ref D)) {s with toks:=s.toks+1}):wpAny (model prog w) A (getAttr? (.ref x) "__class__") Q E s:=by
 obtain⟨hh,g,d,t,os⟩:=s;have L0:=I.type (M:=model prog w);have L1:=looks_findIn (M:=model prog w) X C.ga;have L2:=looks_findIn (M:=model prog w) X C.hk;unfold getAttr? getAttrBy? getAttrBy;refine je_ (wpAny_mkText (je_ (xm_ (qC_ (je_ (L0.at (je_ (L1.at ?_))))))));show wpAny _ _ (getAttrByItsOwn _ _ _ _ _ _) _ _ _;unfold getAttrByItsOwn hookBefore;refine je_ ?_;rw[if_pos (by rfl)];refine L2.at (je_ (xm_ (qC_ ?_)));unfold callGetattribute;rw[if_neg (by decide)];unfold boundAndCalled;have f3:=PySem.F.attr_ValueError.ga.bind (.ref x);refine je_ (xD_ f3 ?_);refine wpAny_call (zK_ PySem.F.attr_ValueError.ga.plain F.entry_bexc_ga (QJ (K:=K) (s:=⟨hh,g,d,t+1,os⟩) X I C (QK (K:=K) (s:=⟨hh,g,d,t+1,os⟩) X I C ?_)));exact jq_ (jq_ h)
def SA (C:ExcCls K D):KitX K (.ref x) (.ref D) (ExcAt x D):=by
 have cl:=C.cl;unfold clsIn at cl;refine⟨fun _ _ _ I=>I.type,fun _ _ X _=>?_,fun h tp dd its n sl X mH=>?_,fun X I k=>QL X I C k⟩
 ·split at cl
  ·rename_i ho
   intro A' Q' E' s' k q;exact je_ (wpAny_loadPart (k _ _ (X _ _ ho)) (jq_ q))
  ·cases cl
 ·split at cl
  ·rename_i ho
   cases hb:(Value.ref D==Value.ref tp) with
   |false=>rfl
   |true=>
    obtain rfl:D=tp:=Value.ref.inj (we_.mp hb);cases (X _ _ ho).symm.trans mH
  ·cases cl
end
section
variable {P:Program} {w:World}
def AU.there (x:AU P w H h a o):∃ob,h.get? a=some ob:=by
 induction o with
 |lst xs=>obtain⟨_,_,_,_,e⟩:=x;exact⟨_,e⟩
 |tup xs=>obtain⟨_,_,_,ob,e,_⟩:=x;exact⟨_,e⟩
 |dK kvs=>obtain⟨_,_,_,_,o,_,_,e,_⟩:=x;exact⟨_,e⟩
 |dT kvs=>obtain⟨_,_,_,_,o,_,_,e,_⟩:=x;exact⟨_,e⟩
 |set S n=>obtain⟨o,_,_,_,e,_⟩:=x;exact⟨_,e⟩
 |ins C dx fs=>obtain⟨_,_,_,e,_⟩:=x;exact⟨_,e⟩
 |own y=>obtain⟨_,e⟩:=x;exact⟨_,e⟩
 |xd fs=>obtain⟨_,⟨_,_,_,e,_⟩,_⟩:=x;exact⟨_,e⟩
 |rng lo hi=>obtain⟨_,_,_,e⟩:=x;exact⟨_,e⟩
 |frz ob u ih=>obtain⟨e,_⟩:=x;exact⟨_,e⟩
 |tbl ps=>exact⟨_,(show h.get? a=some _ from x)⟩
 |met f y=>exact⟨_,(show h.get? a=some _ from x)⟩
 |ext φ=>obtain⟨_,⟨_,e⟩,_⟩:=x;exact⟨_,e⟩
structure Fly (P:Program)(w:World)(fs:List Addr)(H1 H':Hp)(h1 g B:Heap):Prop where
 un:Un fs [] H1 H' h1 g
 hok:HOk P w H' g
 cov:∀b o,g.get? b=some o->(H' b≠none \/ ∃o',h1.get? b=some o')->b∉fs->B.get? b=some o
def Fly.move {H1 H':Hp}{h1 g B h2:Heap}(x:Fly P w fs H1 H' h1 g B)(frees:∀b∈fs,H' b=none)(st:B.StaysIn h2)(up:∀b∈fs,∀o,g.get? b=some o->∃sl,h2.get? b=some {o with slots:=sl}):Fly P w fs H1 H' h1 h2 B:=by
 have keep:∀b o,g.get? b=some o->(H' b≠none \/ ∃o',h1.get? b=some o')->b∉fs->h2.get? b=some o:=fun b o e h n=>st b o (x.cov b o e h n);have jh:∀b u,H' b=some u->b∉fs:=fun b u e z=>by rw[frees b z]at e;cases e
 refine⟨⟨fun b o e n hb hx=>?_,fun b o e n hb hx=>?_,fun b o e n hx=>x.un.free b o e n hx,fun b o e hx=>?_,x.un.tups,x.un.frzs,x.un.tbls⟩,fun b u e=>?_,fun b o e h n=>?_⟩
 ·exact keep b o (x.un.keep b o e n hb hx) (.inr ⟨o,e⟩) hb
 ·obtain⟨sl,e1⟩:=x.un.slot b o e n hb hx;obtain⟨jP,e2⟩:=up b hb _ e1;exact⟨jP,e2⟩
 ·obtain⟨o',e1⟩:=x.un.there b o e hx;by_cases hb:b∈fs
  ·obtain⟨jP,e2⟩:=up b hb _ e1;exact⟨_,e2⟩
  ·exact⟨o',keep b o' e1 (.inr ⟨o,e⟩) hb⟩
 ·refine (x.hok b u e).stay (fun c v hc q=>?_) (fun _ q=>q) fun _ _ q=>q;rcases hc with rfl|hc
  ·exact keep c v q (.inl (by rw[e];simp)) (jh c u e)
  ·exact keep c v q (.inl (by rw[hc];simp)) (jh c _ hc)
 ·-- B has it still
  have ⟨o1,e1⟩:∃o1,g.get? b=some o1:=by
   rcases h with h|⟨o',h⟩
   ·cases q:H' b with
    |none=>exact absurd q h
    |some u=>exact (x.hok b u q).there
   ·exact x.un.there b o' h (by simp)
  have e2:=x.cov b o1 e1 h n;have e3:=st b o1 e2;rw[e]at e3;cases e3;exact e2
noncomputable def CXe (P:Program)(w:World):CXT:=fun outer H s E e s'=>∃(ea:Addr) (cls a0:Value) (H':Hp) (B:Heap),e=.ref ea/\s'.os=s.os/\AllBare s'.gens/\Fly P w (frs outer) H H' s.heap s'.heap B/\Heap.FlyingW B outer ea cls a0 s'.heap/\E cls none H'
def Gb {H1 H':Hp} {g B:Heap}(I:Inv X aa σ H1 s1)(x:Fly P w (frs X.stack) H1 H' s1.heap g B):∀b∈frs X.stack,H' b=none:=fun b hb=>by
 obtain⟨_,o,ho,_⟩:=I.stack.mem hb;exact x.un.free b o ho (I.stkFree b hb) (by simp)
def Vj {K:α3} (hE:∀c d H',E' c d H'->E c d H'):
  Kw (CXe P w) (cxOf (CXe P w) P w K mg base N qual scope f cd A outer s H E) E':=by
 intro aa σ H1 s1 e s' I hc;obtain⟨ea,cls,a0,H',B,rfl,os,bare,fl,fw,q⟩:=hc;have fr:(cxOf (CXe P w) P w K mg base N qual scope f cd A outer s H E).A.frames=some (envOfC qual scope s.heap.objs.size f cd::outer):=I.ok.frames;refine wpAny_leaves_onW fr rfl fw fun h' fX ups=>?_;have dJ:=fl.move (Gb I fl) fX.1 (fun b hb o e=>by
  obtain⟨_,o',bf,nf⟩:=fw.2.2.1.mem hb;rw[e]at bf;cases bf;exact ups b o e nf)
 have I2:Inv (cxOf (CXe P w) P w K mg base N qual scope f cd A outer s H E) aa σ H' {s' with heap:=h' }:=I.call' (s':={s' with heap:=h' }) os dJ.un dJ.hok bare (fun b hb=>by cases hb);refine⟨ea,cls,a0,H',B,rfl,I2.os,I2.bare,⟨I2.base,I2.hok,fun b o e h n=>dJ.cov b o e ?_ (fun z=>?_)⟩,fX,hE _ _ _ q⟩
 ·rcases h with h|⟨o',h⟩
  ·exact .inl h
  ·obtain⟨o2,e2⟩:=I.base.there b o' h (by show b∉([]:List Addr);simp);exact .inr ⟨o2,e2⟩
 ·rcases jE_.mp (I.stkSub b z) with e' | e'
  ·rcases h with h|⟨o',h⟩
   ·exact h (by rw[e'];exact I2.free)
   ·have:=ju_ h;rw[e']at this;exact absurd (jK_ this I.ok.above) (j9_ _)
  ·exact n e'
def Xh {K:α3}
   {H1:Hp}
  (I:Inv (cxOf (CXe P w) P w K mg base N qual scope f cd A outer s H E) aa σ H1 s1) (hx:Heap.MadeExcOf s1.heap h' ea cls vs) (q:E cls none H1):
  (cxOf (CXe P w) P w K mg base N qual scope f cd A outer s H E).xe (.ref ea) {s1 with heap:=h' }:=by
 have fr:(cxOf (CXe P w) P w K mg base N qual scope f cd A outer s H E).A.frames=some (envOfC qual scope s.heap.objs.size f cd::outer):=I.ok.frames;have dM:∀env∈(envOfC qual scope s.heap.objs.size f cd::outer),∀b,env.frame=some b->b∈frs (envOfC qual scope s.heap.objs.size f cd::outer):=fun env he b hb=>z3_.mpr ⟨env,he,hb⟩;have stk:=I.stack;have fl:Fly P w (frs (envOfC qual scope s.heap.objs.size f cd::outer)) H1 H1 s1.heap s1.heap (pU s1.heap (frs (envOfC qual scope s.heap.objs.size f cd::outer))):=⟨Un.refl,I.hok,fun b o e _ n=>qp _ e n⟩;refine wpAny_leaves_madeW (base:=pU s1.heap (frs (envOfC qual scope s.heap.objs.size f cd::outer))) (h:=s1.heap) fr rfl (fun b o q=>qy _ q) ?_ hx fun h'' t fX ht hnt ups=>?_
 ·exact tj stk dM
 ·have dJ:=fl.move (Gb (X:=cxOf (CXe P w) P w K mg base N qual scope f cd A outer s H E) I fl) fX.1 (fun b hb o e=>by
   obtain⟨_,o',bf,nf⟩:=stk.mem hb;rw[e]at bf;cases bf;exact ups b o (hx.keeps b o e) nf)
  have I2:Inv (cxOf (CXe P w) P w K mg base N qual scope f cd A outer s H E) aa σ H1 {s1 with heap:=h'' }:=I.call' (s':={s1 with heap:=h'' }) rfl dJ.un dJ.hok I.bare (fun b hb=>by cases hb);refine⟨ea,cls,.ref t,H1,_,rfl,I2.os,I2.bare,⟨I2.base,I2.hok,fun b o e h n=>dJ.cov b o e ?_ (fun z=>?_)⟩,fX,q⟩
  ·rcases h with h|⟨o',h⟩
   ·exact .inl h
   ·obtain⟨o2,e2⟩:=I.base.there b o' h (by show b∉([]:List Addr);simp);exact .inr ⟨o2,e2⟩
  ·rcases jE_.mp (I.stkSub b z) with e' | e'
   ·rcases h with h|⟨o',h⟩
    ·exact h (by rw[e'];exact I2.free)
    ·have:=ju_ h;rw[e']at this;exact absurd (jK_ this I.ok.above) (j9_ _)
   ·exact n e'
end
def Vk {K:Frag} (X:K.In h)(q:excIn K C bmB eK=true):
  ∃bm N nm q bs hdct sn sub ab col dd k0 k1 k2 k3 k5 mN,h.get? C=some (excClassObj nm q C N bs bm hdct sn sub ab col dd k0 k1 k2 k3 k5 eK)/\h.Ns N mN/\mN "__init__"=none/\OwnTail h bmB bm:=by
 unfold excIn at q;split at q
 case h_2=>cases q
 rename_i d0 c0 s0 hl
 split at q
 case h_2=>cases q
 rename_i B tl a0 a1 a2 a3 id0 a5 em es
 have g:=X C _ hl
 repeat rw[qo_]at q
 rcases q with ⟨⟨⟨⟨⟨e1,e2⟩,e3⟩,e4⟩,e5⟩,e6⟩;cases eq_of_beq e1;cases eq_of_beq e2;rcases s0 with ⟨l0⟩;cases es;rcases c0 with ⟨f0,f1,f2,f3,f4,f5,f6,f7,f8,f9,f10⟩;cases em;cases f10
 ·exact⟨tl,f3,f0,f4,f1,f5,f6,f7,f8,f9,d0,a0,a1,a2,a3,a5,h.nsMap f3,g,.of_isNs (isNs_of_in X e5),nsMap_none_of_in X e5 (eq_of_beq e6),tail_of_in X e4⟩
 ·cases e3
def bmV:List Value:=[.type "ValueError",.type "Exception",.type "BaseException",.type "object"]
section
variable {P:Program} {w:World} {K:α3} {mg:Str->α5} {base:Heap} {N:List Str} {qual:Str} {scope:Scope} {f:Addr} {cd:Value} {A:Around} {outer:List Env} {s:Shared} {H:Hp} {E:XK}
noncomputable def Uh (C:Addr)(E:XK)(ta:TA):TS:=fun _ σ H=>ta σ H fun vs H1=>vs.length<=sizeLine/\E (.ref C) none H1
def Lm {rest:List Expr} (hm:mg x=some (.ref C))(hx:excIn K C bmV eK=true)(hg:Gl (cxOf (CXe P w) P w K mg base N qual scope f cd A outer s H E) x)
  (hn:eK = "ValueError.__new__") (ha:PA (cxOf (CXe P w) P w K mg base N qual scope f cd A outer s H E) (iw::rest) ta)
  (he:starEach (iw::rest) (cxOf (CXe P w) P w K mg base N qual scope f cd A outer s H E).env=(false,eval iw (cxOf (CXe P w) P w K mg base N qual scope f cd A outer s H E).env)::starEach rest (cxOf (CXe P w) P w K mg base N qual scope f cd A outer s H E).env:=by rfl)
  (cY:(backTo aF (starEach rest (cxOf (CXe P w) P w K mg base N qual scope f cd A outer s H E).env)).any (·.1)=false:=by rfl) (hd:(x==("__debug__" : Str))=false:=by decide):
  PS (cxOf (CXe P w) P w K mg base N qual scope f cd A outer s H E) (.Raise (some (.Call (.Name x np) (iw::rest) [] aF)) none pos) (Uh C E ta):=by
 intro aa s1 σ H1 D I h;subst hn;obtain⟨bm,Nc,nm,q,bs,hdct,sn,sub,ab,col,dd,k0,k1,k2,k3,k5,mN,hC,hN,hni,T⟩:=Vk I.mod.kin hx;refine wpAny_Raise_call_subU (C:=C) (nm:=nm) (q:=q) (N:=Nc) (bs:=bs) (bm:=bm) (hdct:=hdct) (sn:=sn) (sub:=sub) (ab:=ab) (col:=col) (dd:=dd) (k0:=k0) (k1:=k1) (k2:=k2) (k3:=k3) (k5:=k5)
  xZ_ (bmB:=bmV) (by decide +kernel) xZ_ (mN:=mN) (T.hasType xZ_.hasBase) (I.ok.hd rfl) (by rw[he];show (false||(backTo aF (starEach rest _)).any (·.1))=false;rw[cY];rfl) hni (Jf I hg hm ⟨rfl,?_⟩ hd)
 have hA:=ha aF aa s1 σ H1 _ I h;rw[he]at hA ⊢;refine zJ_ (thn hA fun us s2 ⟨vs,H2,I2,r2,hz,q2⟩=>⟨rfl,by rw[<-r2.length];exact hz,I2.bk _ _ hC,hN.keeps I2.bk,T.keeps I2.bk,fun h' e hm=>Xh I2 hm q2⟩)
end
end L2
namespace L2
open PySem PySem.Spec PyProof.Rows
noncomputable abbrev Cx.body (X:Cx)(xe:Value->Shared->Prop)(pn:α7):Cx:={X with xe:=xe,pn:=pn}
noncomputable abbrev Cx.suite (X:Cx)(ea:Addr)(pn:α7):Cx:={X with A:=X.A.mark (some (.ref ea)),calm:=false,xe:=fun _ _=>False,pn:=pn}
section
variable {X:Cx} {aa ay:α7} {σ:St} {H:Hp} {s:Shared} {xe xe':Value->Shared->Prop} {ea:Addr}
def Inv.toBody (I:Inv X aa σ H s):Inv (X.body xe (X.pn++aa)) [] σ H s:=
 ⟨⟨I.ok.mod,I.ok.kind,I.ok.glob,I.ok.blt,I.ok.above,I.ok.inj,I.ok.has,I.ok.cab,I.ok.hd,I.ok.frames,I.ok.stk,I.ok.exf,I.ok.bs,I.ok.bsz,I.ok.noex,I.ok.exfs,I.ok.funs,I.ok.frf⟩,I.os,I.bare,I.base,I.loc,I.cell,I.free,I.freeC,fun p hp=>I.pin p (by simpa using hp),I.hok,I.len⟩
def Inv.ofBody (I:Inv (X.body xe (X.pn++aa)) ay σ H s):Inv X aa σ H s:=
 ⟨⟨I.ok.mod,I.ok.kind,I.ok.glob,I.ok.blt,I.ok.above,I.ok.inj,I.ok.has,I.ok.cab,I.ok.hd,I.ok.frames,I.ok.stk,I.ok.exf,I.ok.bs,I.ok.bsz,I.ok.noex,I.ok.exfs,I.ok.funs,I.ok.frf⟩,I.os,I.bare,I.base,I.loc,I.cell,I.free,I.freeC,fun p hp=>I.pin p (jQ_ _ hp),I.hok,I.len⟩
def Inv.reBody (I:Inv (X.body xe pn) ay σ H s):Inv (X.body xe' pn) ay σ H s:=
 ⟨⟨I.ok.mod,I.ok.kind,I.ok.glob,I.ok.blt,I.ok.above,I.ok.inj,I.ok.has,I.ok.cab,I.ok.hd,I.ok.frames,I.ok.stk,I.ok.exf,I.ok.bs,I.ok.bsz,I.ok.noex,I.ok.exfs,I.ok.funs,I.ok.frf⟩,I.os,I.bare,I.base,I.loc,I.cell,I.free,I.freeC,I.pin,I.hok,I.len⟩
def Inv.toSuite (I:Inv X aa σ H s):Inv (X.suite ea (X.pn++aa)) [] σ H s:=
 ⟨⟨I.ok.mod,I.ok.kind,I.ok.glob,I.ok.blt,I.ok.above,I.ok.inj,I.ok.has,I.ok.cab,fun z=>absurd (show false=true from z) jx_,I.ok.frames,I.ok.stk,I.ok.exf,I.ok.bs,I.ok.bsz,I.ok.noex,I.ok.exfs,I.ok.funs,I.ok.frf⟩,I.os,I.bare,I.base,I.loc,I.cell,I.free,I.freeC,fun p hp=>I.pin p (by simpa using hp),I.hok,I.len⟩
def Inv.ofSuite (hd:X.calm=true->X.A.handled=none)(I:Inv (X.suite ea (X.pn++aa)) ay σ H s):Inv X aa σ H s:=
 ⟨⟨I.ok.mod,I.ok.kind,I.ok.glob,I.ok.blt,I.ok.above,I.ok.inj,I.ok.has,I.ok.cab,hd,I.ok.frames,I.ok.stk,I.ok.exf,I.ok.bs,I.ok.bsz,I.ok.noex,I.ok.exfs,I.ok.funs,I.ok.frf⟩,I.os,I.bare,I.base,I.loc,I.cell,I.free,I.freeC,fun p hp=>I.pin p (jQ_ _ hp),I.hok,I.len⟩
def Inv.forget (I:Inv X aa σ H s)(hN:X.N.Nodup)(hi:X.N[i]?=some n)(hx:X.env.scope.names.lookup n=some .local)
  (hl:∀(i:Nat) (x:Str) (v:V),X.N[i]?=some x->σ[i]?=some (some v)->Vis X.env.scope x->∃u,RelV v u/\Look X.env s.heap m x u) (hn:s.heap.Ns X.env.locals m)
  (jg:h'.Ns X.env.locals (fun x=>if x=n then v else m x)) (hs:Heap.SameBut X.env.locals s.heap h'):Inv X aa (σ.set i none) H {s with heap:=h',toks:=t' }:=by
 have cne:=I.cne;obtain⟨oL,_,_,hoL,_⟩:=id hn;have aP:HOk X.prog X.w H h':=fun b ob e=>by
  refine (I.hok b ob e).stay (fun c w' hc q=>(hs.2 c ?_).trans q) (fun _ q=>q) fun _ _ q=>q;rintro rfl;rcases hc with rfl|hc
  ·rw[I.free]at e;cases e
  ·rw[I.free]at hc;cases hc
 refine⟨I.ok,I.os,I.bare,⟨fun b o e n hb hx=>?_,fun b o e n hb hx=>?_,I.base.free,fun b o e hx=>?_,I.base.tups,I.base.frzs,I.base.tbls⟩,⟨_,jg,fun j y v' e1 e2 e3=>?_⟩,fun y c e=>?_,I.free,I.freeC,fun p hp=>?_,aP,by simpa using I.len⟩
 ·exact (hs.2 b (jP_ (jK_ (ju_ e) I.ok.above))).trans (I.base.keep b o e n hb hx)
 ·obtain⟨sl,e1⟩:=I.base.slot b o e n hb hx;exact⟨sl,(hs.2 b (jP_ (jK_ (ju_ e) I.ok.above))).trans e1⟩
 ·obtain⟨o',e1⟩:=I.base.there b o e hx;exact⟨o',(hs.2 b (jP_ (jK_ (ju_ e) I.ok.above))).trans e1⟩
 ·by_cases hj:j=i
  ·subst hj;have ao:j<σ.length:=by
    have:=(jd_.mp e2).1;simpa using this
   rw[q2_ ao]at e2;cases e2
  ·rw[xr_ (q3_ hj)]at e2;obtain⟨u',r',q⟩:=hl j y v' e1 e2 e3;refine⟨u',r',?_⟩;rcases q with ⟨k,e⟩|⟨k,c,e,z⟩
   ·refine .inl ⟨k,?_⟩;have:y≠n:=fun e=>hj (K9 hN e1 (e ▸ hi));simp[this,e]
   ·exact .inr ⟨k,c,e,z.sameBut hs (cne y c e)⟩
 ·obtain⟨w',z⟩:=I.cell y c e;exact⟨w',z.sameBut hs (cne y c e)⟩
 ·obtain⟨e,n,ne,nf,d⟩:=I.pin p hp;exact⟨(hs.2 p.1 ne).trans e,n,ne,nf,d⟩
end
noncomputable def E5 (CX:CXT)(X:Cx)(σ:St)(E:XK):Prop:=∀(aa:α7) (H:Hp) (s:Shared) (e:Value) (s':Shared),Inv X aa σ H s->CX X.stack H s E e s'->X.xe e s'
section
variable {X:Cx} {CX:CXT} {k:Nat} {f C:Addr} {fd:α6} {ps:List Str} {sp:Sp} {bL:List V} {ds:List Value} {E:St->XK} {x:Str} {p pos:Pos} {e:Expr} {es:List Expr} {t:TA}
def Nw {aa:α7}{σ:St}{H:Hp}{s:Shared}{Q:VK}{us:List Value}{vs:List V}{E:XK}(F:FnOk X.prog X.w X.K X.mg X.base CX k f fd ps sp)(hr:Room k X.A)(hb:Binds X.K fd ps ds)(hd:Vals bL ds)(hx:E5 CX X σ E)
  (I:Inv X aa σ H s) (r:Vals vs us) (h:sp (vs++bL) H Q E):wpAny (model X.prog X.w) X.A (call (.ref f) us) (EP X aa σ Q) X.xe s:=by
 have r2:Vals (vs++bL) (us++ds):=r.append hd;have hl:(us++ds).length=ps.length:=by rw[<-r2.length];exact F.len _ _ _ _ h
 refine wpAny_call (codeAny_mono (F.run X.A X.stack s H ⟨us,[]⟩ (us++ds) (vs++bL) Q E hr I.env0 (hb s us I.kIn hl) r2 h) fun r s' hq=>?_);cases r with
 |error e=>exact hx aa H s e s' I hq
 |ok fl=>
  cases fl with
  |ret u=>exact I.after hq
  |next=>exact pd hq
  |brk=>exact pd hq
  |cont=>exact pd hq
end
noncomputable def excO (ea C:Addr):HO:=.ext (ExcAt ea C)
noncomputable def Ends.un (D:Ends)(i:Nat):Ends:={nx:=fun σ H=>D.nx (σ.set i none) H,rt:=D.rt,bk:=fun σ H=>D.bk (σ.set i none) H,ct:=fun σ H=>D.ct (σ.set i none) H}
noncomputable def tTry (K:α3)(Ca:Addr)(i:Nat)(E:St->XK)(tb ts:TS):TS:=fun D σ H=>tb D σ H/\∀af cls H',E af cls none H' ->
 ∃C,cls=.ref C/\exmOne K (.ref C) (.ref Ca)=some true/\∀ea,H' ea=none->ts (D.un i) (af.set i (some (.ref ea))) (upd H' ea (excO ea C))
def Xi (hN:X.N.Nodup)(hi:X.N[i]?=some n)(hn:X.env.scope.names.lookup n=some .local)
  (hg:Gl X c) (hm:X.mg c=some (.ref Ca)) (fQ:X.stack=X.env::X.outer) (hL:X.env.frame=some X.env.locals) (hex:X.ex=[])
  (hb:∀xe pn,(∀σ,E5 (CXe X.prog X.w) (X.body xe pn) σ (E σ))->PSs (X.body xe pn) body tb) (hs:∀ea pn,PSs (X.suite ea pn) (ix::suite) ts) (hd:(c==("__debug__" : Str))=false:=by decide):
  PS X (.Try body [.ExceptHandler (some (.Name c np)) (some n) (ix::suite) hpos] [] [] pos) (tTry X.K Ca i E tb ts):=by
 intro aa s σ H D I h;obtain⟨aK,eL⟩:=h;have hB:=hb (fun e s'=>∃ay af H1 s1,Inv (X.body (fun _ _=>True) (X.pn++aa)) ay af H1 s1/\CXe X.prog X.w X.stack H1 s1 (E af) e s') (X.pn++aa) (fun σ ay H s e s' I' mI=>⟨ay,σ,H,s,I'.reBody,mI⟩) [] s σ H D I.toBody aK;refine wpAny_Try_except (q9_ hB (fun f s1 q=>?_) fun e s1 q=>?_)
 ·cases f with
  |next=>obtain⟨bu,H1,I1,q1⟩:=q;exact xL_ ⟨bu,H1,I1.ofBody,q1⟩
  |brk=>obtain⟨bu,H1,I1,q1⟩:=q;exact⟨bu,H1,I1.ofBody,q1⟩
  |cont=>obtain⟨bu,H1,I1,q1⟩:=q;exact⟨bu,H1,I1.ofBody,q1⟩
  |ret v=>obtain⟨x1,bu,H1,I1,r1,q1⟩:=q;exact⟨x1,bu,H1,I1.ofBody,r1,q1⟩
 ·obtain⟨ay,af,H1,s2,I2,ea,cls,a0,H',B,rfl,os,bare,fl,fw,hE⟩:=q;obtain⟨C,rfl,iy,fB⟩:=eL af cls H' hE;have fC:Inv X aa af H1 s2:=I2.ofBody;have fr:X.A.frames=some (X.env::X.outer):=by rw[I.ok.frames,fQ]
  have frees:=Gb fC fl;have k9:=fw;rw[fQ]at fw;have cE:∀h',Heap.FlyingW B (X.env::X.outer) ea (.ref C) a0 h'->s1.heap.UpToSlots h'->Inv X aa af H' {s1 with heap:=h' }:=fun h' fX ups=>by
   have dJ:=fl.move frees fX.1 (fun b hb o e=>by
    obtain⟨_,o',bf,nf⟩:=k9.2.2.1.mem hb;rw[e]at bf;cases bf;exact ups b o e nf)
   exact fC.call' (s':={s1 with heap:=h' }) os dJ.un dJ.hok bare (fun b hb=>by cases hb)
  refine wpAny_looks_onW fr hL fw fun h4 eM jX=>?_;refine wpAny_landsW eM fun h5 iz jY=>?_;have I5:=cE h5 iz (jX.trans jY);have mJ:Inv (X.suite ea (X.pn++aa)) [] af H' {s1 with heap:=h5}:=I5.toSuite;refine wpAny_handleBy_cons (codeAny_handlers_test (Jf (X:=X.suite ea (X.pn++aa)) mJ hg hm ?_ hd)) (by intro q;cases q);have LT:sG (model X.prog X.w) h5 (typeOf (.ref ea)) (.ref C):=by
   obtain⟨ob,ji,d9⟩:=iz.there;exact d9 ▸ (PySem.W.Looks.ld ji).andThen .now
  refine (rC (K:=X.K) (M:=model X.prog X.w) I5.kIn LT iy) _ _ _ _ (fun b o e=>e) ?_;refine codeAny_handlers_suite_as ?_;refine lands_againW iz fun h6 lg mK=>?_;have I6:=cE h6 lg ((jX.trans jY).trans mK)
  -- dE exception's object is not aP yet
  have aw:H' ea=none:=by
   cases q:H' ea with
   |none=>rfl
   |some u=>
    have jh:ea∉frs X.stack:=fun z=>by rw[frees ea z]at q;cases q
    obtain⟨o,ho⟩:=(fl.hok ea u q).there;have:=fl.cov ea o ho (.inl (by rw[q];simp)) jh;rw[fw.2.1]at this;cases this
  have new:AU X.prog X.w (upd H' ea (excO ea C)) h6 ea (excO ea C):=by
   obtain⟨ob,ji,d9⟩:=lg.there;refine⟨⟨ob,ji,d9⟩,⟨ob,ji⟩,fun g1 g2 ⟨o1,e1,c1⟩ k=>⟨o1,k o1 e1,c1⟩⟩
  have hsz:s2.heap.get? ea=none:=by
   cases q:s2.heap.get? ea with
   |none=>rfl
   |some o=>
    by_cases z:ea∈frs X.stack
    ·obtain⟨_,o',bf,nf⟩:=k9.2.2.1.mem z;obtain⟨oe,vs,hoe,_,hdt,_⟩:=fw.first;rw[bf]at hoe;cases hoe;exact absurd hdt (nf vs)
    ·obtain⟨o',e'⟩:=fl.un.there ea o q (by simp);have:=fl.cov ea o' e' (.inr ⟨o,q⟩) z;rw[fw.2.1]at this;cases this
  have I6t:Inv X aa af (upd H' ea (excO ea C)) {s1 with heap:=h6}:=by
   refine⟨I6.ok,I6.os,I6.bare,?_,I6.loc,I6.cell,?_,fun x c e=>?_,fun p hp=>?_,I6.hok.track aw new,I6.len⟩
   ·-- newer than dE entry
    have h0:X.s₀.heap.get? ea=none:=by
     cases q:X.s₀.heap.get? ea with
     |none=>rfl
     |some o=>
      obtain⟨o',e'⟩:=fC.base.there ea o q (by rw[hex];simp);rw[hsz]at e';cases e'
    refine⟨I6.base.keep,I6.base.slot,fun b o e n hx=>?_,I6.base.there,fun b xs q=>?_,fun b ob xs q=>?_,fun b ps q=>?_⟩
    ·rw[Au (fun z=>by rw[z,h0]at e;cases e)];exact I6.base.free b o e n hx
    ·have:=I6.base.tups b xs q;rw[Au (AO this aw)];exact this
    ·have:=I6.base.frzs b ob xs q;rw[Au (AO this aw)];exact this
    ·obtain⟨more,e⟩:=I6.base.tbls b ps q;exact⟨more,by rw[Au (AO e aw)];exact e⟩
   ·rw[Au (fun z=>?_)]
    ·exact I6.free
    ·have:=fC.lt;obtain⟨m,⟨o,_,_,ho,_⟩,_⟩:=fC.loc;rw[z,hsz]at ho;cases ho
   ·rw[Au (fun z=>?_)]
    ·exact I6.freeC x c e
    ·obtain⟨v,o,ho,_⟩:=fC.cell x c e;rw[z,hsz]at ho;cases ho
   ·obtain⟨e,n,r⟩:=I6.pin p hp;refine⟨e,?_,r⟩;rw[Au (fun z=>?_)]
    ·exact n
    ·have:=(fC.pin p hp).1;rw[z,hsz]at this;cases this
  have I6m:Inv (X.suite ea (X.pn++aa)) [] af (upd H' ea (excO ea C)) {s1 with heap:=h6}:=I6t.toSuite;refine IQ (X:=X.suite ea (X.pn++aa)) I6m hN hi (.inl hn) (v:=.ref ea) rfl (fun s7 I7=>?_) (.inr hn);refine q9_ (hs ea (X.pn++aa) [] s7 _ _ (D.un i) I7 (fB ea aw)) (fun f s8 q8=>?_) (fun _ _ z=>pd z);have aY:(X.env.scope.kind == .class||(X.env.scope.kind == .module&&X.env.locals != X.env.globals))=false:=by rw[I.ok.kind];rfl
  have fY:∀{cS:St} {H8:Hp},Inv (X.suite ea (X.pn++aa)) [] cS H8 s8->∀(R:Unit->Shared->Prop),(∀s9,Inv X aa (cS.set i none) H8 s9->R () s9) ->
    wpAny (model X.prog X.w) X.A (do bindName X.env n .none;unbindBehindTheSuite X.env n hpos) R X.xe s8:=fun {cS H8} I8 R hR=>by
   have I8':Inv X aa cS H8 s8:=I8.ofSuite I.ok.hd;obtain⟨m,jW,hl⟩:=I8'.loc;exact wpAny_nameGoes_keeps hn jW aY fun h9 v hn9 sb=>hR _ (I8'.forget hN hi hn hl jW hn9 sb)
  cases f with
  |next=>obtain⟨cS,H8,I8,q⟩:=q8;exact fY I8 _ fun s9 I9=>⟨_,H8,I9,q⟩
  |brk=>obtain⟨cS,H8,I8,q⟩:=q8;exact fY I8 _ fun s9 I9=>⟨_,H8,I9,q⟩
  |cont=>obtain⟨cS,H8,I8,q⟩:=q8;exact fY I8 _ fun s9 I9=>⟨_,H8,I9,q⟩
  |ret v=>obtain⟨x8,cS,H8,I8,r8,q⟩:=q8;exact fY I8 _ fun s9 I9=>⟨x8,_,H8,I9,r8,q⟩
def Mt : Cd X (.builtin "isinstance") (fun xs H Q=>∃ea C c cv b,xs=[.ref ea,c]/\H ea=some (excO ea C)/\ExcCls X.K C/\(∀u,RelV c u->u=cv)/\kitOne X.K (.ref C) cv=some b/\Q (.bl b) H):=by
 intro aa s σ H xs us Q I r h;obtain⟨ea,C,c,cv,b,rfl,mL,hC,hc,hk,q⟩:=h;obtain⟨u,w',rfl,rx,rc⟩:=vals2 r;rw[hc _ rc];cases rx;obtain⟨p,_,_⟩:=(show AU X.prog X.w H s.heap ea (.ext (ExcAt ea C)) from I.hok ea _ mL);exact qy_ (SA hC) I.kIn p hk (fun z=>nomatch z) fun tk=>⟨.bl b,H,I.tok tk,rfl,q⟩
end L2
namespace HT
open PySem PySem.Spec PyProof.Rows
open PySem.AutoSeq1 (wpAny_loadPart')
section
open PySem.SeqAt PySem.MeetsSeq PySem.MeetsSeq2 PySem.MeetsSeq3
def int_rmul_tup (a:Int)(t:Tok)(l:Addr)(items:Array Value)(n:Nat)(dd:Option Addr)(sl:Array (α5)):
  Meets (Builtin.«int.__rmul__» ⟨[.int a t,.ref l],[]⟩) (fun _ R s=>s.heap.get? l=some {cls:=.type "tuple",dict:=dd,data:=.seq items n,slots:=sl}/\R (.ok (.ret Value.notImplemented)) s):=
 .of_wp fun prog w A R s h=>by obtain⟨hp,g,d,tk,os⟩:=s;obtain⟨hl,h⟩:=h;wp_walk using qH_ hl;exact⟨_,rfl,h⟩
def noFill_tuple_mul:fillsNumberSlot (.type "tuple") "mul"=pure false:=by
 first|exact fillsNumberSlot_false (by decide +kernel)|(unfold fillsNumberSlot;kernel_rfl)|kernel_rfl
def repeat_tuple:seqRepeat? (.type "tuple")=pure (some (.builtin "tuple.__mul__")):=by
 unfold seqRepeat?;rw[qX (T := "tuple") (name := "__mul__") (id := "tuple.__mul__") zH_.lookup (by decide +kernel),qX (T := "tuple") (name := "__rmul__") (id := "tuple.__rmul__") F.slot_tuple_rmul.lookup (by decide +kernel)];rfl
def tup_mul_one (l:Addr)(items:Array Value)(n:Nat)(dd:Option Addr)(sl:Array (α5))(u:Tok):
  Meets (Builtin.«tuple.__mul__» ⟨[.ref l,.int 1 u],[]⟩) (fun _ R s=>s.heap.get? l=some {cls:=.type "tuple",dict:=dd,data:=.seq items n,slots:=sl}/\R (.ok (.ret (Value.ref l))) s):=
 .of_wp fun prog w A R s h=>by
  obtain⟨hp,g,d,tk,os⟩:=s;obtain⟨hl,h⟩:=h;have f1:=AutoSeq1.idx_int;unfold Builtin.«tuple.__mul__»
  wp_walk using qH_ hl
  exact⟨_,rfl,h⟩
def tup_mul_none (l:Addr)(items:Array Value)(n:Nat)(dd:Option Addr)(sl:Array (α5))(x:Int)(u:Tok)(h0:¬ items.isEmpty=true)(h1:x<=0)(h2 : -(2 ^ 63)<=x):
  Meets (Builtin.«tuple.__mul__» ⟨[.ref l,.int x u],[]⟩) (fun _ R s=>s.heap.get? l=some {cls:=.type "tuple",dict:=dd,data:=.seq items n,slots:=sl}/\R (.ok (.ret (Value.ref s.heap.objs.size))) {s with heap:=s.heap.push {cls:=.type "tuple",data:=.seq #[]} }):=
 .of_wp fun prog w A R s h=>by
  obtain⟨hp,g,d,tk,os⟩:=s;obtain⟨hl,h⟩:=h;have f1:=AutoSeq1.idx_int;have c1:(decide (x < -(2 ^ 63:Int))||decide (x >= 2 ^ 63))=false:=by simp;lia
  have c2:(items.isEmpty||x==1)=false:=by simp at h0 ⊢;exact⟨h0,by lia⟩
  have c3:(decide (x<=0)||items.isEmpty)=true:=by simp[h1]
  unfold Builtin.«tuple.__mul__»
  wp_walk using qH_ hl
  rw[if_neg (by rw[c1];exact jx_)]
  wp_walk using qH_ hl
  rw[if_neg (by rw[c2];exact jx_)];rw[if_pos c3]
  wp_walk using qH_ hl
  exact⟨_,rfl,h⟩
def tup_mul_many (l:Addr)(items:Array Value)(n:Nat)(dd:Option Addr)(sl:Array (α5))(x:Int)(u:Tok)(h0:¬ items.isEmpty=true)(h1:1<x)(h2:x<2 ^ 63)(h3:items.size*x.toNat<=sizeLine):
  Meets (Builtin.«tuple.__mul__» ⟨[.ref l,.int x u],[]⟩) (fun _ R s=>s.heap.get? l=some {cls:=.type "tuple",dict:=dd,data:=.seq items n,slots:=sl}/\R (.ok (.ret (Value.ref s.heap.objs.size))) {s with heap:=s.heap.push {cls:=.type "tuple",data:=.seq ((oU x.toNat items).foldl (· ++ ·) #[])} }):=
 .of_wp fun prog w A R s h=>by
  obtain⟨hp,g,d,tk,os⟩:=s;obtain⟨hl,h⟩:=h;have f1:=AutoSeq1.idx_int;have hs:sizeLine=16777216:=sizeLine_eq;have c1:(decide (x < -(2 ^ 63:Int))||decide (x >= 2 ^ 63))=false:=by simp;lia
  have c2:(items.isEmpty||x==1)=false:=by simp at h0 ⊢;exact⟨h0,by lia⟩
  have c3:(decide (x<=0)||items.isEmpty)=false:=by simp at h0 ⊢;exact⟨by lia,h0⟩
  obtain⟨k,rfl⟩:∃k:Nat,x=(k:Int):=⟨x.toNat,by lia⟩;have c4:¬ ((items.size:Int)*(k:Int) > (2 ^ 63-1) / 8):=by
   rw[jU_]at h3;have:((items.size*k:Nat):Int)=(items.size:Int)*(k:Int):=by push_cast;rfl
   lia
  have c5:Builtin.Tuple.tupleTooMany ((items.size:Int)*(k:Int))=false:=by
   unfold Builtin.Tuple.tupleTooMany;rw[jU_]at h3;have:((items.size*k:Nat):Int)=(items.size:Int)*(k:Int):=by push_cast;rfl
   simp;lia
  unfold Builtin.«tuple.__mul__»
  wp_walk using qH_ hl
  rw[if_neg (by rw[c1];exact jx_)]
  wp_walk using qH_ hl
  rw[if_neg (by rw[c2];exact jx_)];rw[if_neg (by rw[c3];exact jx_),if_neg c4,if_neg (by rw[c5];exact jx_)]
  wp_walk using qH_ hl
  have hz:¬ (qB (fun x1 x2=>x1++x2) #[] (oU ((k:Int)).toNat items)).size > sizeLine:=by
   have:=L2.foldl_rep items.toList k [];rw[xw_]at this;have e:items.toList.toArray=items:=by simp
   rw[e]at this;rw[jU_,this,jl_,L2.len_rep];rw[jU_]at h3;rw[qQ_,qM];lia
  rw[if_neg hz]
  wp_walk using qH_ hl
  exact⟨_,rfl,h⟩
end
end HT
namespace L2
open PySem PySem.Spec PyProof.Rows
section
variable {X:Cx}
noncomputable def Mu (K:α3):R2:=fun x y H Q=>∃l k xs,x=.ref l/\y=.int k/\SqT K H l xs/\xs ≠ [] /\ -(2 ^ 63)<=k/\k<2 ^ 63/\xs.length*k.toNat<=sizeLine /\
 (k=1->Q (.ref l) H)/\(k≠1->∀p,H p=none->Q (.ref p) (upd H p (.tup (oU k.toNat xs).flatten)))
def Nx:OpR X (binaryOp .Mult) (Mu X.K):=by
 intro aa s σ H x y v u Q I rx ry h;obtain⟨l,k,xs,rfl,rfl,hq,aw,h1,h2,hz,q1,q2⟩:=h;cases rx;obtain⟨t,rfl⟩:=ry;obtain⟨its,r,p1,_⟩:=I.tuple hq;have ah:=r.length;have jg:¬ its.toArray.isEmpty=true:=by
  intro z;have:its=[]:=by simpa using z
  exact aw (r.nil_iff.mp this)
 obtain⟨⟨cls,dd,data,sl⟩,ho,hc,n,hd⟩:=id p1;simp only at hc hd;subst hc hd;refine wpAny_binaryOp_repeat_ref (T := "tuple") (U := "int") (by decide) ⟨_,ho,rfl⟩ (fun s'=>typeIs_int s' k t) HT.noFill_tuple_mul F.fills_int_mul F.slot_int_rmul HT.repeat_tuple F.slot_int_index.lookup
  (wc_ F.slot_int_rmul (typeIs_int s k t) F.entry_int_rmul (F.args_int_rmul_2 _ _) (HT.int_rmul_tup k t l its.toArray n dd sl) ⟨ho,rfl,⟨_,ho,rfl⟩,?_⟩)
 by_cases k1:k=1
 ·subst k1;exact wc_ zH_ ⟨_,ho,rfl⟩ F.entry_tuple_mul (F.args_tuple_mul_2 _ _) (HT.tup_mul_one l its.toArray n dd sl t) ⟨ho,⟨.ref l,H,I,rfl,q1 rfl⟩⟩
 ·have aN:∀(ys:List Value),Vals (oU k.toNat xs).flatten ys->EP X aa σ Q (.ref s.heap.objs.size) {s with heap:=s.heap.push {cls:=.type "tuple",data:=.seq ys.toArray} }:=fun ys rv=>
   ⟨.ref s.heap.objs.size,_,I.laid (t':=s.toks) (o:=.tup (oU k.toNat xs).flatten) (fun b ob q=>jk_ _ q) (jh_ _) ⟨by rw[len_rep,qM];exact hz,_,rv,IsTup.new _ _⟩,rfl,q2 k1 _ (I.hok.fresh (jh_ _))⟩
  by_cases k0:k<=0
  ·refine wc_ zH_ ⟨_,ho,rfl⟩ F.entry_tuple_mul (F.args_tuple_mul_2 _ _) (HT.tup_mul_none l its.toArray n dd sl k t jg k0 h1) ⟨ho,?_⟩;exact aN [] (by rw[show k.toNat=0 by lia];exact .nil)
  ·refine wc_ zH_ ⟨_,ho,rfl⟩ F.entry_tuple_mul (F.args_tuple_mul_2 _ _) (HT.tup_mul_many l its.toArray n dd sl k t jg s!"" h2 (by rw[jl_,<-ah];exact hz)) ⟨ho,?_⟩;have e:=foldl_rep its k.toNat [];rw[xw_]at e;have e':qB (fun x1 x2=>x1++x2) #[] (oU k.toNat its.toArray)=(oU k.toNat its).flatten.toArray:=e;rw[e'];exact aN _ (r.rep k.toNat)
noncomputable def A0 (K:α3):R2:=fun x y H Q=>∃a b xs ys,x=.ref a/\y=.ref b/\SqT K H a xs/\SqT K H b ys/\xs.length+ys.length<=sizeLine /\
 (xs=[]->Q (.ref b) H)/\(xs ≠ []->ys=[]->Q (.ref a) H)/\(xs ≠ []->ys ≠ []->∀p,H p=none->Q (.ref p) (upd H p (.tup (xs++ys))))
def AX:OpR X (binaryOp .Add) (A0 X.K):=by
 intro aa s σ H x y v u Q I rx ry h;obtain⟨a,b,xs,ys,rfl,rfl,ha,hb,hz,q0,q1,q2⟩:=h;by_cases hx:xs=[]
 ·subst hx;cases rx;cases ry;obtain⟨its,r1,p1,_⟩:=I.tuple ha;obtain⟨aA,r2,p2,_⟩:=I.tuple hb;have:its=[]:=r1.nil_iff.mpr rfl;subst this;obtain⟨⟨cls,dd,data,sl⟩,ho,hc,n,hd⟩:=id p1;obtain⟨⟨cls2,kW,data2,kX⟩,fv,dH,n2,fR⟩:=id p2;simp only at hc hd dH fR;subst hc hd dH fR;exact concat_meets ⟨_,ho,rfl⟩ ⟨_,fv,rfl⟩ noFill_tuple_add seq_tuple_add zr_ zk_ (zc_ _ _)
   (sH a b _ _ n n2 dd kW sl kX rfl) ⟨ho,fv,⟨.ref b,H,I,rfl,q0 rfl⟩⟩
 ·exact Vb aa s σ H _ _ v u Q I rx ry ⟨a,b,xs,ys,rfl,rfl,ha,hb,hx,hz,q1 hx,q2 hx⟩
end
def QM (Pv:Nat->St->Hp->Prop)(h0:∃m,Pv m σ H)
  (hs:∀m σ H,Pv m σ H->c σ H fun b H1=>if b=true then ∃N:St->Hp->Prop,(∀af H',N af H'->∃m',m'<m/\Pv m' af H')/\tb {D with nx:=N,ct:=N,bk:=D.nx} σ H1 else D.nx σ H1):TQ c tb D σ H:=⟨Pv,h0,hs⟩
section
variable {K:α3} {H:Hp} {Q:VK}
def Mu.of (hq:SqT K H l xs)(aw:xs ≠ [])(h1 : -(2 ^ 63)<=k)(h2:k<2 ^ 63)(hz:xs.length*k.toNat<=sizeLine)(h:∀p H',Same H H'->SqT K H' p (oU k.toNat xs).flatten->Q (.ref p) H'):Mu K (.ref l) (.int k) H Q:=by
 refine⟨l,k,xs,rfl,rfl,hq,aw,h1,h2,hz,fun e=>?_,fun _ p hp=>h p _ (Same.new hp) (SqT.of Ab)⟩;subst e;exact h l H (Same.refl _) (by simpa using hq)
def A0.of (ha:SqT K H a xs)(hb:SqT K H b ys)(hz:xs.length+ys.length<=sizeLine)(h:∀p H',Same H H'->SqT K H' p (xs++ys)->Q (.ref p) H'):A0 K (.ref a) (.ref b) H Q:=by
 refine⟨a,b,xs,ys,rfl,rfl,ha,hb,hz,fun e=>?_,fun _ e=>?_,fun _ _ p hp=>h p _ (Same.new hp) (SqT.of Ab)⟩
 ·subst e;exact h b H (Same.refl _) (by simpa using hb)
 ·subst e;exact h a H (Same.refl _) (by simpa using ha)
end
theorem Xj {K:α3} {lo hi:Option Int}:rSlT K x lo hi H Q=∃a xs,x=.ref a/\SqT K H a xs /\
 ¬ (HT.sIx xs.length 0 lo=0/\HT.sIx xs.length xs.length hi=xs.length)/\∀p,H p=none->Q (.ref p) (upd H p (.tup (cutV xs lo hi))):=rfl
inductive TyW (K:α3)(H:Hp):V->Value->Prop where
 | non:TyW K H .non (.type "NoneType")
 | bl (x:Bool):TyW K H (.bl x) (.type "bool")
 | int (i:Int):TyW K H (.int i) (.type "int")
 | str (x:Str):TyW K H (.str x) (.type "str")
 | lst {a:Addr} {xs:List V} (e:SqL K H a xs):TyW K H (.ref a) (.type "list")
 | tup {a:Addr} {xs:List V} (e:SqT K H a xs):TyW K H (.ref a) (.type "tuple")
 | exc {a C:Addr} (e:H a=some (excO a C)) (c:ExcCls K C):TyW K H (.ref a) (.ref C)
def Ce : Cd X (.builtin "isinstance") (fun xs H Q=>∃x c cv t b,xs=[x,c]/\TyW X.K H x t/\(∀u,RelV c u->u=cv)/\kitOne X.K t cv=some b/\Q (.bl b) H):=by
 intro aa s σ H xs us Q I r h;obtain⟨x,c,cv,t,b,rfl,ty,hc,hk,q⟩:=h;cases ty with
 |non=>exact Dt aa s σ H _ us Q I r ⟨_,c,cv,_,b,rfl,.non,hc,hk,q⟩
 |bl y=>exact Dt aa s σ H _ us Q I r ⟨_,c,cv,_,b,rfl,.bl y,hc,hk,q⟩
 |int y=>exact Dt aa s σ H _ us Q I r ⟨_,c,cv,_,b,rfl,.int y,hc,hk,q⟩
 |str y=>exact Dt aa s σ H _ us Q I r ⟨_,c,cv,_,b,rfl,.str y,hc,hk,q⟩
 |exc e hC=>exact Mt aa s σ H _ us Q I r ⟨_,_,c,cv,b,rfl,e,hC,hc,hk,q⟩
 |@lst a xs e=>
  obtain⟨u,w',rfl,rx,rc⟩:=vals2 r;rw[hc _ rc];cases rx;obtain⟨its,_,pl,_⟩:=I.list e;obtain⟨o,ho,aY,_⟩:=pl.isList;exact qy_ z9_ I.kIn ⟨o,ho,aY⟩ hk (fun z=>nomatch z) fun tk=>⟨.bl b,H,I.tok tk,rfl,q⟩
 |@tup a xs e=>
  obtain⟨u,w',rfl,rx,rc⟩:=vals2 r;rw[hc _ rc];cases rx;obtain⟨its,_,⟨o,ho,aY,_⟩,_⟩:=I.tuple e;exact qy_ qA I.kIn ⟨o,ho,aY⟩ hk (fun z=>nomatch z) fun tk=>⟨.bl b,H,I.tok tk,rfl,q⟩
end L2
namespace GW
noncomputable def Bf (L:Int):α2->Int
 |[]=>0
 |x::r=>Bf L r*L+x+1
noncomputable def place (L:Int)(w:α2):Int:=Bf L w.reverse
noncomputable def inW (L x:Int):Bool:=decide (0<=x)&&decide (x<L)
noncomputable def isW (L:Int)(ws:α2):Bool:=ws.all (inW L)
def Vl : inW L x=true↔0<=x/\x<L:=by simp[inW]
def AM : isW L ws=true ↔ ∀x∈ws,0<=x/\x<L:=by simp[isW,Vl]
def Mv (L:Int):place L []=0:=rfl
noncomputable def many (L:Int):Nat->Int
 |0=>0
 |k+1=>many L k*L+1
def CB {L:Int}(hL:0<L):∀k,0<=many L k
 |0=>zU_ _
 |k+1=>by
  have:=z8_ (CB hL k) (xC_ hL);show 0<=many L k*L+1;lia
def Cv {L:Int}(hL:0<L):∀{l:α2},(∀x∈l,0<=x/\x<L)->many L l.length<=Bf L l/\Bf L l<many L (l.length+1)
 |[],_=>by simp[Bf,many]
 |x::r,h=>by
  have hx:=h x jL_;obtain⟨h1,h2⟩:=Cv hL (l:=r) fun y hy=>h y (jA_ _ hy);show many L r.length*L+1<=Bf L r*L+x+1/\Bf L r*L+x+1<many L (r.length+1)*L+1;have a1:=qz_ h1 (xC_ hL);have a2:=qz_ (show Bf L r+1<=many L (r.length+1) by lia) (xC_ hL);rw[zV_]at a2;lia
def HI (hL:0<L) (h:isW L w=true):many L w.length<=place L w/\place L w<many L (w.length+1):=by
 have:=Cv hL (l:=w.reverse) (fun x hx=>AM.mp h x (zI_.mp hx));rw[zW_]at this;exact this
noncomputable def val (L:Int):α2->Int
 |[]=>0
 |x::r=>val L r*L+x
def Dc (L:Int)(w:α2)(x:Int):place L (w++[x])=place L w*L+x+1:=by
 unfold place;rw[List.reverse_append];rfl
end GW
namespace PySem
section
variable {prog:Program} {w:World} {A:Around} {E:Value->Shared->Prop} {s:Shared}
noncomputable abbrev lsO (acc:Array Value)(c:Nat):Obj:={cls:=.type "list",dict:=none,data:=.seq acc c,slots := #[]}
noncomputable def KP (wr:Addr->Prop)(h h':Heap):Prop:=∀b o,¬ wr b->h.get? b=some o->h'.get? b=some o
structure Gat (prog:Program)(w:World)(s:Shared)(r I:Addr)(T:String)(n:Nat)(wr:Addr->Prop)(J:Nat->List Value->Heap->Prop)(Fn:List Value->Heap->Prop):Prop where
 type:s.TypeIs (.ref r) T
 nl:(Value.type T==Value.type "list")=false
 nt:(Value.type T==Value.type "tuple")=false
 le:n<=sizeLine
 hint:∀(A:Around) (t:Shared) (Q:Bool->Shared->Prop) (E:Value->Shared->Prop),(∀b o,s.heap.get? b=some o->t.heap.get? b=some o)->(∀b tk,Q b {t with toks:=tk})->wpAny (model prog w) A (Builtin.List.listLengthHint (.ref r)) Q E t
 iter:∀(A:Around) (h1:Heap) (Q:Value->Shared->Prop) (E:Value->Shared->Prop),(∀b o,s.heap.get? b=some o->h1.get? b=some o)->h1.objs.size=s.heap.objs.size+1->(∀h',J 0 [] h'->(∀b o,h1.get? b=some o->h'.get? b=some o)->Q (.ref I) {s with heap:=h' })->wpAny (model prog w) A (pyIter (.ref r)) Q E {s with heap:=h1}
 next:∀(A:Around) i acc (t:Shared) (Q:α5->Shared->Prop) (E:Value->Shared->Prop),A.handled=none->J i acc t.heap->acc.length=i->i<=n->s.heap.objs.size<t.heap.objs.size ->
  (∀v h' tk,i<n->J (i+1) (acc++[v]) h'->KP wr t.heap h'->Q (some v) {t with heap:=h',toks:=tk})->(∀h' tk,i=n->Fn acc h'->KP wr t.heap h'->Q none {t with heap:=h',toks:=tk})->wpAny (model prog w) A (pyNext (.ref I)) Q E t
 frame:∀i acc h h',J i acc h->(∀b o,b≠s.heap.objs.size->h.get? b=some o->h'.get? b=some o)->J i acc h'
 nw:¬ wr s.heap.objs.size
variable {I r:Addr} {T:String} {n:Nat} {wr:Addr->Prop} {J:Nat->List Value->Heap->Prop} {Fn:List Value->Heap->Prop} {R:Result->Shared->Prop} {res:Value}
def Gat.loop (G:Gat prog w s r I T n wr J Fn)(hh:A.handled=none)
  (hR:∀h' tk acc c,Fn acc h'->acc.length=n->h'.get? s.heap.objs.size=some (lsO acc.toArray c)->KP wr s.heap h'->R (.ok (.ret res)) {s with heap:=h',toks:=tk}):
  ∀(k:Nat) (h:Heap) (tk c:Nat) (acc:List Value),n-acc.length=k->acc.length<=n->J acc.length acc h->h.get? s.heap.objs.size=some (lsO acc.toArray c)->KP wr s.heap h->codeAny (model prog w) A (.builtin "list.extend.loop" ⟨[.ref s.heap.objs.size,.ref I,res],[]⟩) R {s with heap:=h,toks:=tk}:=by
 intro k
 induction k with
 |zero=>
  intro h tk c acc hk hi j hS kp;refine qN_ F.entry_extend_loop ?_;rw[qv_ x9_ _];refine je_ (G.next A.in1 _ acc {s with heap:=h,toks:=tk} _ _ hh j rfl hi (ju_ hS) (fun v h' tk l=>by lia) fun h' tk e j' kk=>?_);exact jq_ (hR h' tk acc c j' s!"" (kk _ _ G.nw hS) fun b o m q=>kk b o m (kp b o m q))
 |succ k ih=>
  intro h tk c acc hk hi j hS kp;refine qN_ F.entry_extend_loop ?_;rw[qv_ x9_ _];refine je_ (G.next A.in1 _ acc {s with heap:=h,toks:=tk} _ _ hh j rfl hi (ju_ hS) (fun v h' tk l j' kk=>?_) fun h' tk e=>by lia);have cT:=kk _ _ G.nw hS;have up:∀b o,b≠s.heap.objs.size->h'.get? b=some o->(h'.update s.heap.objs.size (Obj.mapSeq (·.push v))).get? b=some o:=fun b o m q=>(qB_ _ _ (q3_ m)).trans q;have hl:(acc++[v]).length=acc.length+1:=by simp
  have:=G.le;obtain⟨c',hS2⟩:∃c',(h'.update s.heap.objs.size (Obj.mapSeq (·.push v))).get? s.heap.objs.size=some (lsO (acc++[v]).toArray c'):=⟨_,by rw[<-List.push_toArray];exact qG_ _ cT rfl⟩;exact je_ (zX_ cT rfl (jq_ ⟨q5_ x9_ _,ih _ tk c' (acc++[v]) s!"" s!"" (by rw[hl];exact G.frame _ _ _ _ j' up) hS2 fun b o m q=>up b o (jP_ (ju_ q)) (kk b o m (kp b o m q))⟩) (by simp;lia))
def Gat.extend (G:Gat prog w s r I T n wr J Fn)(hh:A.handled=none)(k1:∀b o,s.heap.get? b=some o->h1.get? b=some o)(hz:h1.objs.size=s.heap.objs.size+1)(hS:h1.get? s.heap.objs.size=some (lsO #[] c₀))
  (hZ:∀c t,c.quiet=true->codeAny (model prog w) A c R t->Z (.again c) t)
  (hR:∀h' tk acc c,Fn acc h'->acc.length=n->h'.get? s.heap.objs.size=some (lsO acc.toArray c)->KP wr s.heap h'->R (.ok (.ret res)) {s with heap:=h',toks:=tk}):
  wpAny (model prog w) A.in1 (Builtin.List.listExtendWith (.ref s.heap.objs.size) (.ref r) res) Z E {s with heap:=h1}:=by
 have hr:r<s.heap.objs.size:=let ⟨_,ho,_⟩:=G.type;ju_ ho;have e1:Builtin.List.listSameRef (.ref s.heap.objs.size) (.ref r)=false:=by simp[Builtin.List.listSameRef,xB_ hr]
 have hT:Shared.TypeIs {s with heap:=h1} (.ref r) T:=let ⟨o,ho,x⟩:=G.type;⟨o,k1 _ _ ho,x⟩;have lj:∀(h:Heap) f b o,b≠s.heap.objs.size->h.get? b=some o->(h.update s.heap.objs.size f).get? b=some o:=fun h f b o n q=>(qB_ _ _ (q3_ n)).trans q;have go:∀(h:Heap) c tk,J 0 [] h->h.get? s.heap.objs.size=some (lsO #[] c)->(∀b o,b≠s.heap.objs.size->h1.get? b=some o->h.get? b=some o)->Z (.again (.builtin "list.extend.loop" ⟨[.ref s.heap.objs.size,.ref I,res],[]⟩)) {s with heap:=h,toks:=tk}:=fun h c tk j q k=>
  hZ _ _ (q5_ x9_ _) (G.loop hh hR n h tk c [] rfl (qs_ _) j q fun b o _ x=>k b o (jP_ (ju_ x)) (k1 b o x))
 unfold Builtin.List.listExtendWith;refine je_ (zd_ hT ?_);simp only[e1,G.nl,G.nt,Bool.or_false,zm_,x6_];refine je_ (G.iter A.in1 h1 _ _ k1 hz fun h' j kk=>je_ (qC_ (G.hint A.in1 _ _ _ (fun b o q=>kk b o (k1 b o q)) fun bb tk=>?_)));have cT:=kk _ _ hS;refine zY_ (fun _=>?_) fun _=>jq_ (go h' c₀ tk j cT fun b o _ q=>kk b o q)
 wp_walk
 exact go _ _ tk (G.frame _ _ _ _ (G.frame _ _ _ _ j fun b o m q=>lj _ _ b o m q) fun b o m q=>lj _ _ b o m q) (qG_ _ (qG_ _ cT rfl) rfl) fun b o m q=>lj _ _ b o m (lj _ _ b o m (kk b o q))
def Gat.collect (G:Gat prog w s r I T n wr J Fn)(hh:A.handled=none)(hQ:∀h' tk acc,Fn acc h'->acc.length=n->KP wr s.heap h'->Q acc {s with heap:=h',toks:=tk}):wpAny (model prog w) A (collect (.ref r)) Q E s:=by
 have hS:(s.heap.push (lsO #[] 0)).get? s.heap.objs.size=some (lsO #[] 0):=jv_ _ rfl;unfold PySem.collect;refine je_ (wpAny_runValue (qN_ F.entry_proto_collect ?_));rw[qv_ F.plain_proto_collect _]
 wp_walk
 refine⟨q5_ F.plain_list_iadd _,qN_ F.entry_list_iadd ?_⟩;rw[qv_ F.plain_list_iadd _];refine G.extend hh (fun b o e=>jk_ _ e) (qO_ ..) hS (fun _ _ a b=>⟨a,b⟩) fun h' tk acc c k1 k2 k3 k4=>?_;exact je_ (wpAny_load k3 (jq_ (hQ h' tk acc k1 k2 k4)))
def Gat.tuple (G:Gat prog w s r I T n wr J Fn)(hh:A.handled=none)
  (hQ:∀(h':Heap) tk acc,Fn acc h'->acc.length=n->KP wr s.heap h'->Q (.ref h'.objs.size) {s with heap:=h'.push {cls:=.type "tuple",data:=.seq acc.toArray},toks:=tk}):wpAny (model prog w) A (call (.type "tuple") [.ref r]) Q E s:=by
 have fZ:=sub_tuple_self;have hinit:=init_tuple_lookup;have hmh:=madeHere_tuple;have hT:=G.type;refine callType_codes (Q₁:=fun obj s₁=>s₁.TypeIs obj "tuple" /\ Q obj s₁) F.called_tuple (F.typeCall_tuple_1 _) F.entry_object_init ?_ fun obj s₁ h₁=>⟨h₁.1,zL_ obj _,object_init_meets F.called_tuple.init.lookup F.called_tuple.made (by decide) prog w A.in1 _ s₁ ⟨h₁.1,rfl,h₁.2⟩⟩;refine codeAny_of_tree (je_ (xD_ (F.newCall_tuple_1 _) (jq_ ⟨q5_ F.plain_tuple_new _,qN_ F.entry_tuple_new ?_⟩)));rw[qv_ F.plain_tuple_new _];have h2:A.in1.in1.handled=none:=hh;have n1:=G.nl;have n2:=G.nt
 wp_walk using zd_ hT,G.collect h2
 intro h' tk acc k1 k2 k3;have hl:acc.length<=sizeLine:=k2 ▸ G.le;have q:=hQ h' tk acc k1 k2 k3;clear k2
 wp_walk
 exact⟨⟨_,jv_ _ rfl,rfl⟩,q⟩
def Gat.ofWalks {fp wl:List Addr}{P:Nat->Value->Prop}{St:Nat->Heap->Prop}(W:∀A:Around,A.handled=none->Walks prog w A I fp wl n P St)(hh:A.handled=none)(hf:s.heap.objs.size∉fp)(ty:s.TypeIs (.ref r) T)(nl:(Value.type T==Value.type "list")=false)(nt:(Value.type T==Value.type "tuple")=false)(le:n<=sizeLine)
  (hint:∀(A:Around) (t:Shared) (Q:Bool->Shared->Prop) (E:Value->Shared->Prop),(∀b o,s.heap.get? b=some o->t.heap.get? b=some o)->(∀b tk,Q b {t with toks:=tk})->wpAny (model prog w) A (Builtin.List.listLengthHint (.ref r)) Q E t)
  (iter:∀(A:Around) (h1:Heap) (Q:Value->Shared->Prop) (E:Value->Shared->Prop),(∀b o,s.heap.get? b=some o->h1.get? b=some o)->h1.objs.size=s.heap.objs.size+1->(∀h',St 0 h'->(∀b o,h1.get? b=some o->h'.get? b=some o)->Q (.ref I) {s with heap:=h' })->wpAny (model prog w) A (pyIter (.ref r)) Q E {s with heap:=h1}):
  Gat prog w s r I T n (· ∈ wl) (fun i acc h=>St i h/\∀(j:Nat) v,acc[j]?=some v->P j v) (fun acc _=>∀(j:Nat) v,acc[j]?=some v->P j v) where
 type:=ty
 nl:=nl
 nt:=nt
 le:=le
 hint:=hint
 iter:=fun A h1 Q E k z q=>iter A h1 Q E k z fun h' st=>q h' ⟨st,fun j v e=>by simp at e⟩
 next:=fun A i acc t Q E hh j hl hi _ q1 q2=>by
  have W:=W A hh;rcases z4_ i n with l|l
  ·refine W.item i t Q E l j.1 fun v h' tk p bK k=>q1 v h' tk l ⟨bK,fun m u e=>?_⟩ k;rcases z4_ m acc.length with a|a
   ·rw[jm_ a]at e;exact j.2 m u e
   ·have:=(jd_.mp e).1;obtain rfl:m=i:=by simp at this;lia
    rw[jp_ a,hl,qq_]at e;exact (show v=u by simpa using e) ▸ p
  ·obtain rfl:i=n:=by lia
   exact W.done t Q E j.1 fun h' tk k=>q2 h' tk rfl j.2 k
 frame:=fun i acc h h' j k=>⟨(W A hh).frame _ _ _ j.1 fun b hb o q=>k b o (fun z=>hf (z ▸ hb)) q,j.2⟩
 nw:=fun m=>hf ((W A hh).sub _ m)
end
end PySem
namespace PySem
open Sem (wp)
open AutoSeq1 (wpAny_loadPart')
section
variable {prog:Program} {w:World} {A:Around} {E:Value->Shared->Prop} {s:Shared}
def QN {items:Array Value}{acc:List Value}(l:acc.length=items.size)(h:∀(j:Nat) v,acc[j]?=some v->items[items.size-1-j]?=some v):ItemsOf (fun i v=>items[items.size-1-i]?=some v) acc.toArray items.size:=⟨by simpa using l,fun i v e=>h i v (by simpa using e)⟩
end
end PySem
namespace L2
open PySem PySem.Spec PyProof.Rows
def boot_ValueError:bootBuiltins "ValueError"=some (.type "ValueError"):=by decide +kernel
section
variable {P:Program} {w:World} {K:α3} {mg:Str->α5} {base:Heap}
def Fun.okE {st:Stmt} (F:Fun K x qual st f fd)(S:FnScope N ps (Ah st))(len:∀vs H Q E,sp vs H Q E->vs.length=ps.length)
  (aK:∀(ai:Value) (A:Around) (outer:List Env) (s:Shared) (H:Hp) (vs:List V) (Q:VK) (E:XK),Room k (A.deeper (envOfC qual (Ah st) s.heap.objs.size f ai))->sp vs H Q E ->
   ∃t,PSs (cxOf (CXe P w) P w K mg base N qual (Ah st) f ai A outer s H E) (C4 st) t/\t {nx:=fun _ H'=>Q .non H',rt:=Q} (start N vs) H):FnOk P w K mg base (CXe P w) (k+1) f fd ps sp:=by
 obtain⟨oc,od,kV,bF,pm,an,ai,ct,ip,rfl,lk,bZ⟩:=F.ex;exact WI lk bZ S len fun A outer s H vs Q E hr bx=>aK ai A outer s H vs Q E hr bx
def Lo : Kw (CXe P w) X E0:=fun _ _ _ _ _ _ _ h=>by
 obtain⟨_,_,_,_,_,_,_,_,_,_,q⟩:=h;exact q.elim
end
section
variable {te ta tb:TE} {A:TA} {D:Ends} {σ:St} {H:Hp} {Q:VK} {K:α3} {tbd ts:TS}
theorem Xk : rCat x y H Q=∃l b xs zs,x=.ref l/\y=.ref b/\H l=some (.lst xs)/\H b=some (.lst zs)/\xs.length+zs.length<=sizeLine/\∀p,H p=none->Q (.ref p) (upd H p (.lst (xs++zs))):=rfl
theorem QO : Uh C E A D σ H=A σ H fun vs H1=>vs.length<=sizeLine/\E (.ref C) none H1:=rfl
theorem Xl : tTry K Ca i E tbd ts D σ H=(tbd D σ H/\∀af cls H',E af cls none H' ->
 ∃C,cls=.ref C/\exmOne K (.ref C) (.ref Ca)=some true/\∀ea,H' ea=none->ts (D.un i) (af.set i (some (.ref ea))) (upd H' ea (excO ea C))):=rfl
theorem Ui : (Ends.un D i).nx σ H=D.nx (σ.set i none) H:=rfl
theorem Uj : (Ends.un D i).rt v H=D.rt v H:=rfl
end
section
variable {X:Cx} {tg:Expr}
def QP {its:List Value} (rv:Vals xs its)(h:ItemsOf (fun i v=>its.toArray[its.toArray.size-1-i]?=some v) acc its.toArray.size):Vals xs.reverse acc.toList:=by
 have hl:=rv.length;have e:acc.toList=its.reverse:=by
  apply j2_;intro i;by_cases hi:i<its.length
  ·have hs:acc.size=its.length:=by rw[h.1,jl_]
   have:=h.2 i acc[i] (by simp[hs,hi]);rw[jl_]at this;rw[List.getElem?_reverse hi];have z:its[its.length-1-i]?=some acc[i]:=by simpa using this
   rw[z];simp[hs,hi]
  ·have hs:acc.size=its.length:=by rw[h.1,jl_]
   rw[jt_ (by simp;lia),jt_ (by simp;lia)]
 rw[e];exact rv.reverse
end
end L2
namespace L2
open PySem PySem.Spec PyProof.Rows
def Vm (x y:Int):eqV (.int x) (.int y)=decide (V.int x=V.int y):=by
 by_cases h:x=y
 ·subst h;simp[eqV]
 ·rw[jX_ (fun z=>h (by injection z))];simp[eqV,h]
def EqD.ints {K:α3}{H:Hp}{a c:Addr}{xs ys:α2}(hq:(SqL K H a (xs.map V.int)/\SqL K H c (ys.map V.int))\/(SqT K H a (xs.map V.int)/\SqT K H c (ys.map V.int)))(n:Nat):EqD K H (n+1) (.ref a) (.ref c) (decide (xs=ys)):=by
 have:=EqD.flat hq (fun x hx=>by obtain⟨_,_,rfl⟩:=Ga hx;rfl) (fun x hx=>by obtain⟨_,_,rfl⟩:=Ga hx;rfl) (fun x hx y hy=>by obtain⟨_,_,rfl⟩:=Ga hx;obtain⟨_,_,rfl⟩:=Ga hy;exact Vm _ _) n;have e:decide (xs.map V.int=ys.map V.int)=decide (xs=ys):=by
  rw[qx_];simp only[j5_];constructor
  ·intro h;exact (zn_ (fun a b h=>by injection h)).mp h
  ·intro h;rw[h]
 rw[e]at this;exact this
end L2
namespace L2
open PySem PySem.Spec PyProof.Rows
noncomputable def iSeq (K:α3)(tl:TE):TI:=fun σ H R=>tl σ H fun x H1=>∃a,x=.ref a/\(((∃xs,SqL K H1 a xs)/\R (Itl K a) H1)\/((∃xs,SqT K H1 a xs)/\R (Itt K a) H1))
theorem Uk {K:α3} : iSeq K te σ H Z=te σ H fun x H1=>∃a,x=.ref a/\(((∃xs,SqL K H1 a xs)/\Z (Itl K a) H1)\/((∃xs,SqT K H1 a xs)/\Z (Itt K a) H1)):=rfl
def KC (hl:PE X l tl):PI X tg l (iSeq X.K tl):=by
 intro aa s σ H R I h;refine thn (hl aa s σ H _ I h) fun v s1 ⟨x,H1,I1,r1,q1⟩=>?_;obtain⟨a,e,q⟩:=q1;subst e;cases r1;rcases q with ⟨⟨xs,hq⟩,q⟩|⟨⟨xs,hq⟩,q⟩
 ·obtain⟨its,rv,p,hz⟩:=I1.list hq;refine xV_ p.isList ?_;refine⟨s1.heap.objs.size,[s1.heap.objs.size],_,_,H1,rfl,I1.kept (t':=s1.toks) fun b o e=>jk_ _ e,Md a _,⟨_,jv_ _ rfl,rfl,rfl⟩,fun b hb=>?_,q⟩;have e:b=s1.heap.objs.size:=by simpa using hb
  subst e;exact I1.fpOk (jh_ _) (I1.hok.fresh (jh_ _))
 ·obtain⟨its,rv,p,hz⟩:=I1.tuple hq;refine xk_ (show s1.heap.IsTuple a its.toArray from p) ?_;refine⟨s1.heap.objs.size,[s1.heap.objs.size],_,_,H1,rfl,I1.kept (t':=s1.toks) fun b o e=>jk_ _ e,Ku a _,⟨_,jv_ _ rfl,rfl,rfl⟩,fun b hb=>?_,q⟩;have e:b=s1.heap.objs.size:=by simpa using hb
  subst e;exact I1.fpOk (jh_ _) (I1.hok.fresh (jh_ _))
end L2
namespace GW
def QR (hL:0<L):∀{xs ys:α2},isW L xs=true->isW L ys=true->place L xs=place L ys->xs=ys:=by
 have key:∀{l m:α2},(∀x∈l,0<=x/\x<L)->(∀x∈m,0<=x/\x<L)->Bf L l=Bf L m->l=m:=by
  intro l
  induction l with
  |nil=>
   intro m _ hm h;cases m with
   |nil=>rfl
   |cons y s=>
    have hy:=hm y jL_;have:=(Cv hL (l:=s) fun z hz=>hm z (jA_ _ hz)).1;have h0:=CB hL s.length;have hp:=z8_ (show 0<=Bf L s by lia) (xC_ hL);have h':(0:Int)=Bf L s*L+y+1:=h;lia
  |cons x r ih=>
   intro m hl hm h;have hx:=hl x jL_;cases m with
   |nil=>
    have:=(Cv hL (l:=r) fun z hz=>hl z (jA_ _ hz)).1;have h0:=CB hL r.length;have hp:=z8_ (show 0<=Bf L r by lia) (xC_ hL);have h':Bf L r*L+x+1=(0:Int):=h;lia
   |cons y s=>
    have hy:=hm y jL_;have h':Bf L r*L+x+1=Bf L s*L+y+1:=h;have e1:Bf L r=Bf L s:=by
     rcases qN (Bf L r) (Bf L s) with ao|he|ao
     ·have:=qz_ (show Bf L r+1<=Bf L s by lia) (xC_ hL);rw[zV_]at this;lia
     ·exact he
     ·have:=qz_ (show Bf L s+1<=Bf L r by lia) (xC_ hL);rw[zV_]at this;lia
    rw[e1]at h';rw[ih (fun z hz=>hl z (jA_ _ hz)) (fun z hz=>hm z (jA_ _ hz)) e1,show x=y by lia]
 intro xs ys hx hy h;have:=key (l:=xs.reverse) (m:=ys.reverse) (fun x h=>AM.mp hx x (zI_.mp h)) (fun x h=>AM.mp hy x (zI_.mp h)) h;exact List.reverse_inj.mp this
end GW
namespace L2
open PySem PySem.Spec PyProof.Rows
def Ej {K:α3}(hK:X.K=K):Cd X (.builtin "isinstance") (fun xs H Q=>∃x c cv t b,xs=[x,c]/\TyW K H x t/\(∀u,RelV c u->u=cv)/\kitOne K t cv=some b/\Q (.bl b) H):=by
 subst hK;exact Ce
section
variable {X:Cx} {K:α3}
def Bb (h:X.K=K):IxR X (rIxT K):=by subst h;exact Ao
def Lp (h:X.K=K):IxR X (rIxL K):=by subst h;exact BC
def Gd (h:X.K=K):Cd X (.builtin "len") (fun xs H Q=>∃p ys,xs=[.ref p]/\(SqL K H p ys\/SqT K H p ys)/\Q (.int ys.length) H):=by subst h;exact Ai
end
end L2
namespace GW
noncomputable def Xm (aC:α1)(r x:Int):Int:=(aC.getD r.toNat []).getD x.toNat 0
end GW
namespace L2
open PySem PySem.Spec PyProof.Rows GW
def QS (h:xs[xs.length-1]?=some v):atI xs (-1)=some v:=by
 have ao:=(jd_.mp h).1;unfold atI ixN;rw[if_neg s!"",if_pos s!""];show xs[(-1+(xs.length:Int)).toNat]?=some v;rw[show (-1+(xs.length:Int)).toNat=xs.length-1 by lia];exact h
def Du {ns:α2}{i:Int}{v:Int}(h0:0<=i)(h:ns[i.toNat]?=some v):atI (ns.map V.int) i=some (V.int v):=Cq h0 (by rw[jf_,h];rfl)
def Bq {K:α3} (hp:H p=some (.lst zs))(h:SqT K H t xs):SqT K (upd H p (.lst ys)) t xs:=by
 rcases h with (q|⟨o,q⟩)|q
 ·refine .inl (.inl ?_);rw[Au (fun z=>by rw[z,hp]at q;cases q)];exact q
 ·refine .inl (.inr ⟨o,?_⟩);rw[Au (fun z=>by rw[z,hp]at q;cases q)];exact q
 ·exact .inr q
end L2
namespace PySem
open Sem (wp)
open AutoSeq1 (wpAny_loadPart')
section
variable {prog:Program} {w:World} {A:Around} {E:Value->Shared->Prop} {s:Shared}
def newT (hl:l.length<=sizeLine)(h:∀h',s.heap.push {cls:=.type "tuple",data:=.seq l.toArray}=h'->Q (.ref s.heap.objs.size) {s with heap:=h' }):wpAny (model prog w) A (newTuple l) Q E s:=wpAny_newTuple (h _ rfl)
def psh {h h':Heap}{o:Obj}(q:h.push o=h')(ho:o.isFreed=false):(∀c u,h.get? c=some u->h'.get? c=some u)/\h'.get? h.objs.size=some o/\h'.objs.size=h.objs.size+1:=by
 subst q;exact⟨fun c u x=>jk_ _ x,jv_ _ ho,qO_ ..⟩
def He {it l:Addr} (aq:s.heap.IsTupleIter it l i)(hl:s.heap.IsTuple l items)
  (hQ:∀x h',items[i]?=some x->h'.IsTupleIter it l (i+1)->Heap.SameBut it s.heap h'->Q x {s with heap:=h' })
  (hE:items[i]?=none->A.handled=none/\∀h' e,Heap.ExtBut it s.heap h'->(∃o,h'.get? e=some o/\o.cls=.type "StopIteration")->E (.ref e) {s with heap:=h' }):wpAny (model prog w) A (Builtin.SmallTypes.nextOf (.ref it)) Q E s:=by
 obtain⟨⟨c,dc,da,sl⟩,ho,hc,hd⟩:=id aq;obtain⟨⟨c',dc',da',jP⟩,hol,d8,nl,iA⟩:=hl;replace hc:c=_:=hc;replace hd:da=_:=hd;replace d8:c'=_:=d8;replace iA:da'=_:=iA;subst hc hd d8 iA;have e1:=F.slot_tuple_iterator_next;unfold Builtin.SmallTypes.nextOf;refine je_ (qg_ aq.typeIs e1 (qj_ e1 aq.typeIs F.entry_tuple_iterator_next ?_ (F.args_tuple_iterator_next_1 _)))
 wp_walk
 cases hx:items[i]? with
 |some x=>
  simp only[jU_,hx]
  wp_walk
  exact⟨x,rfl,jq_ (hQ x _ hx ⟨_,qG_ _ ho (by simp[Obj.mapFields,Obj.isFreed]),rfl,by simp[Obj.mapFields,rawInt]⟩ (q4_ ..))⟩
 |none=>
  obtain⟨hh,hE⟩:=hE hx;have h1:A.in1.handled=none:=hh;simp only[jU_,hx]
  wp_walk
  unfold raiseNew
  wp_walk
  exact hE _ _ (((q4_ ..).extBut.push _).push _) ⟨_,jv_ _ rfl,rfl⟩
def Draws.tuple (hh:A.handled=none)(it l:Addr)(aw:l≠it)(items:Array Value):
  Draws prog w A it [it,l] items.size (fun i v=>items[i]?=some v) (fun i h=>h.IsTupleIter it l i/\h.IsTuple l items) where
 live:=fun _ _ st=>let ⟨o,e,_⟩:=st.1;⟨o,e⟩
 frame:=fun _ _ _ st k=>⟨st.1.at fun o e=>k it (by simp) o e,let ⟨o,e,r⟩:=st.2;⟨o,k l (by simp) o e,r⟩⟩
 item:=fun i t Q E hi st q=>He st.1 st.2 (fun x h' e1 e2 e3=>q x h' t.toks e1 ⟨e2,st.2.extBut e3.extBut aw⟩ e3) fun z=>by rw[pD]at z;lia
 done:=fun t Q E st q=>He st.1 st.2 (fun x h' e1=>by have:=(qA_.mp e1).1;lia) fun _=>⟨hh,q⟩
def Fc (hL:s.heap.IsTuple l items)
  (h:∀h',IsEnum h' (s.heap.objs.size+1) s.heap.objs.size 0 .none->h'.IsTupleIter s.heap.objs.size l 0->h'.objs.size=s.heap.objs.size+2->(∀b o,s.heap.get? b=some o->h'.get? b=some o)->Q (.ref (s.heap.objs.size+1)) {s with heap:=h' }):
  wpAny (model prog w) A (call (.type "enumerate") [.ref l]) Q E s:=by
 have M:Meets (Builtin.«enumerate.__new__» ⟨[.type "enumerate",.ref l],[]⟩) fun _ R t=>t.heap.IsTuple l items/\∀h',IsEnum h' (t.heap.objs.size+1) t.heap.objs.size 0 .none->h'.IsTupleIter t.heap.objs.size l 0->h'.objs.size=t.heap.objs.size+2->(∀b o,t.heap.get? b=some o->h'.get? b=some o)->R (.ok (.ret (.ref (t.heap.objs.size+1)))) {t with heap:=h' }:=.of_wp fun prog w A R t ⟨hl,q⟩=>by
  have fZ:=sub_enumerate;obtain⟨hp,g,d,tk,os⟩:=t;obtain⟨⟨c,dc,da,sl⟩,e1,hc,n,hd⟩:=id hl;have aN:∀f,f=Fin.done (.ret (.ref (hp.push {cls:=.type "tuple_iterator",data:=.fields #[.ref l,.int 0 0]}).objs.size))->∃x,f=.done (.ret x)/\R (.ok (.ret x)) ⟨(hp.push {cls:=.type "tuple_iterator",data:=.fields #[.ref l,.int 0 0]}).push {cls:=.type "enumerate",data:=.fields #[.none,.bool false,.ref hp.objs.size,rawInt 0,.none,.none]},g,d,tk,os⟩:=fun f hf=>by
   have z:=qO_ hp {cls:=.type "tuple_iterator",data:=.fields #[.ref l,.int 0 0]};rw[z]at hf;have y:=jv_ (hp.push {cls:=.type "tuple_iterator",data:=.fields #[.ref l,.int 0 0]}) (o:={cls:=.type "enumerate",data:=.fields #[.none,.bool false,.ref hp.objs.size,rawInt 0,.none,.none]}) rfl;rw[z]at y;exact⟨_,hf,q _ y ⟨_,jk_ _ (jv_ _ rfl),rfl,rfl⟩ (by rw[qO_,z]) fun b o x=>jk_ _ (jk_ _ x)⟩
  wp_walk using zg_ e1
  refine wpAny_stack_any fun st=>jq_ ?_;split
  ·rename_i c _ _ _ _ _
   cases (c==Value.type "enumerate")<;>(wp_walk using zg_ e1,xk_ hl;exact aN _ rfl)
  ·wp_walk using zg_ e1,xk_ hl
   exact aN _ rfl
 exact callType_new F.called_enumerate (by decide) (F.typeCall_enumerate_1 _) (F.newCall_enumerate_1 _) (fun obj=>zL_ obj _) F.entry_enumerate_new M ⟨hL,fun h' a b c d=>⟨⟨_,a,rfl⟩,h h' a b c d⟩⟩
end
end PySem
namespace L2
open PySem PySem.Spec PyProof.Rows
section
variable {X:Cx} {aa:α7} {σ:St} {H:Hp} {s:Shared}
def Inv.un2 {e it:Addr}(I:Inv X aa σ H s)(k:∀b o,b≠e->b≠it->s.heap.get? b=some o->h'.get? b=some o)(f1:FpOk X aa H e)(f2:FpOk X aa H it):Un (frs X.stack) [e,it] H H s.heap h'/\HOk X.prog X.w H h':=by
 have ne:∀b u,H b=some u->b≠e/\b≠it:=fun b u q=>⟨(fun z=>by rw[z,f1.1]at q;cases q),(fun z=>by rw[z,f2.1]at q;cases q)⟩;have dZ:∀{b:Addr},b ∉ [e,it]->b≠e/\b≠it:=fun hb=>by simpa using hb
 refine⟨⟨fun b o q _ _ hb=>k b o (dZ hb).1 (dZ hb).2 q,fun b o q _ _ hb=>⟨o.slots,k b o (dZ hb).1 (dZ hb).2 q⟩,fun _ _ _ n _=>n,fun b o q hb=>⟨o,k b o (dZ hb).1 (dZ hb).2 q⟩,fun _ _ q=>q,fun _ _ _ q=>q,fun b ps q=>⟨#[],by rw[q];simp⟩⟩,fun b u q=>?_⟩;refine (I.hok b u q).stay (fun c v hc qv=>?_) (fun _ q=>q) fun _ _ q=>q;have aw:c≠e/\c≠it:=by
  rcases hc with rfl|hc
  ·exact ne _ _ q
  ·exact ne _ _ hc
 exact k c v aw.1 aw.2 qv
def FpOk.ch (f:FpOk X aa H b):(b∈X.ex\/X.s₀.heap.objs.size<=b)/\b≠X.env.locals/\(∀x c,X.env.cells.lookup x=some c->c≠b)/\∀p∈X.pn++aa,p.1≠b:=⟨f.2.2.2.1,f.2.1,f.2.2.2.2.1,f.2.2.2.2.2⟩
end
noncomputable def Itn (K:α3)(a:Addr)(xs:List V):It:=⟨fun i H=>i<xs.length/\SqT K H a xs,fun i H x H'=>∃t v,H t=none/\xs[i]?=some v/\x=.ref t/\H'=upd H t (.tup [.int i,v]),fun i H=>i=xs.length/\SqT K H a xs⟩
def O0 {P:Program}{w:World}{K:α3}{bG:List Expr}{x1}{bq:Pos}(a e it:Addr)(bM:e≠it)(eN:a≠it)(mM:a≠e)(xs:List V):Turn P w K (.Tuple bG x1 bq) (Itn K a xs) [e,it] e (fun i h=>∃old,IsEnum h e it (i:Nat) old/\h.IsTupleIter it a i) where
 mem:=by simp
 obj:=fun i h st b hb=>by
  obtain⟨old,h1,o,h2,c,d⟩:=st;rcases jE_.mp hb with rfl|hb
  ·exact⟨_,h1,fun v z=>by cases z⟩
  ·rw[jn_.mp hb];exact⟨o,h2,fun v z=>by rw[d]at z;cases z⟩
 keep:=fun i h h' st k=>by
  obtain⟨old,h1,h2⟩:=st;exact⟨old,k e (by simp) _ h1,h2.at fun o q=>k it (by simp) o q⟩
 item:=by
  intro X hP hw hK hc i aa s σ H E I hf st hg;subst hP hw hK;obtain⟨hi,hq⟩:=hg;obtain⟨old,he,aq⟩:=st;obtain⟨its,rv,p,hz⟩:=I.tuple hq;have hl:=rv.length;have pt:s.heap.IsTuple a its.toArray:=p;have f1:=hf e (by simp);have f2:=hf it (by simp);have Dw:=Draws.tuple (prog:=X.prog) (w:=X.w) (A:=X.A.in1) (I.ok.hd hc) it a eN its.toArray;refine wpAny_pyNext_enum_itemD Dw he ⟨aq,pt⟩ (by simp;lia) bM (by simp[bM,q3_ mM]) fun u h' tk hu fq iB eO hsz hk=>?_;have hT:s.heap.objs.size≠e:=xB_ (ju_ he);refine⟨_,rfl,wpAny_letOwnedTupleGo_enum fq fun h2 fE bE=>?_⟩;have eg:∀b o,b≠e->b≠it->s.heap.get? b=some o->h2.get? b=some o:=fun b o h1 h3 q=>(bE.2 b h1).trans (hk b o h1 h3 q);obtain⟨un,hok⟩:=I.un2 eg f1 f2;have hn:H s.heap.objs.size=none:=I.hok.fresh (jh_ _);have hv:xs[i]?=some xs[i]:=by simp[hi]
  obtain⟨u',br,ru⟩:=rv.get hv;have eu:u'=u:=by
   have gb:its[i]?=some u:=by simpa using hu
   rw[br]at gb;exact jC_ gb
  subst eu;have eP:h2.get? s.heap.objs.size=some {cls:=.type "tuple",data:=.seq #[.int i tk,u']}:=(bE.2 _ hT).trans eO;have new:AU X.prog X.w (upd H s.heap.objs.size (.tup [.int i,xs[i]])) h2 s.heap.objs.size (.tup [.int i,xs[i]]):=⟨by have:=An;simp;lia,[.int i tk,u'],.cons ⟨tk,rfl⟩ (.cons ru .nil),_,eP,rfl,_,rfl⟩;refine⟨.ref s.heap.objs.size,upd H s.heap.objs.size (.tup [.int i,xs[i]]),I.call' (s':={s with heap:=h2,toks:=tk+1}) (ch:=[e,it]) rfl (un.track (jh_ _) hn) (hok.track hn new) I.bare (fun b hb=>?_),rfl,⟨_,_,hn,hv,rfl,rfl⟩,?_,fun b hb=>?_⟩
  ·exact (hf b hb).ch
  ·refine⟨u',by simpa using fE,?_⟩;exact iB.1.at fun o q=>(bE.2 it (q3_ bM)).trans q
  ·have dv:=hf b hb;have:∃o,s.heap.get? b=some o:=by
    rcases jE_.mp hb with rfl|hb
    ·exact⟨_,he⟩
    ·rw[jn_.mp hb];obtain⟨o,ho,_⟩:=aq;exact⟨o,ho⟩
   obtain⟨o,ho⟩:=this;rw[Au (jP_ (ju_ ho))];exact dv.1
 done:=by
  intro X hP hw hK hc i aa s σ H E I hf st hg;subst hP hw hK;obtain⟨hi,hq⟩:=hg;subst hi;obtain⟨old,he,aq⟩:=st;obtain⟨its,rv,p,hz⟩:=I.tuple hq;have hl:=rv.length;have pt:s.heap.IsTuple a its.toArray:=p;have Dw:=Draws.tuple (prog:=X.prog) (w:=X.w) (A:=X.A.in1) (I.ok.hd hc) it a eN its.toArray;obtain⟨f0,f1,f2,f3,f4,f5⟩:=hf it (by simp);refine wpAny_pyNext_enum_endD Dw he ⟨by rw[jl_,<-hl];exact aq,pt⟩ fun h' eb=>⟨rfl,I.turned (t':=s.toks) (fun b o hb e=>eb b o hb e) f0 f1 f3 f4 f5⟩
 self:=fun A i s Q E st h=>by
  obtain⟨old,he,_⟩:=st;exact zv_ he h
noncomputable def Ul (K:α3)(tl:TE):TI:=fun σ H R=>tl σ H fun x H1=>∃a xs,x=.ref a/\SqT K H1 a xs/\R (Itn K a xs) H1
theorem Of {K:α3} : Ul K te σ H Z=te σ H fun x H1=>∃a xs,x=.ref a/\SqT K H1 a xs/\Z (Itn K a xs) H1:=rfl
theorem Um {K:α3} : gTup K n t v σ H N=∃a xs,v=.ref a/\SqT K H a xs/\xs.length=n/\t xs σ H N:=rfl
theorem QT : Wv t u vs σ H N=∃v r,vs=v::r/\t v σ H fun af H'=>u r af H' N:=rfl
theorem Uo : gNil vs σ H N=(vs=[]/\N σ H):=rfl
def Lq {x1} (hg:Gl X "enumerate")(hm:X.mg "enumerate"=none)(he:PE X e te)(hs:starEach [e] X.env=[(false,eval e X.env)]:=by rfl):PI X (.Tuple bG x1 bq) (.Call (.Name "enumerate" p) [e] [] pos) (Ul X.K te):=by
 intro aa s σ H R I h;refine Call_ (Ee I hg hm boot_enumerate (ql_ (thn (Aa he Ac hs pos aa s σ H (fun vs H1=>∃a xs,vs=[.ref a]/\SqT X.K H1 a xs/\R (Itn X.K a xs) H1) I ?_) fun us s1 ⟨vs,H1,I1,r1,q1⟩=>?_) hs rfl))
 ·show te σ H _;have:(fun x H1=>∃a xs,x=V.ref a/\SqT X.K H1 a xs/\R (Itn X.K a xs) H1)=(fun x H1=>tNil σ H1 fun xs H2=>∃a ys,x::xs=[V.ref a]/\SqT X.K H2 a ys/\R (Itn X.K a ys) H2):=by
   funext x H1
   simp[tNil]
  rw[<-this];exact h
 ·obtain⟨a,xs,rfl,hq,q⟩:=q1;cases r1 with
  |cons r rr=>
   cases rr;cases r;obtain⟨its,rv,p,hz⟩:=I1.tuple hq;have pt:s1.heap.IsTuple a its.toArray:=p;obtain⟨oa,mO,_⟩:=id pt;have ha:=ju_ mO;refine Fc pt fun h' fF cF hsz hk=>?_;refine zv_ (s:={s1 with heap:=h' }) fF ?_;have I2:Inv X aa σ H1 {s1 with heap:=h' }:=I1.kept (t':=s1.toks) hk;refine⟨s1.heap.objs.size+1,[s1.heap.objs.size+1,s1.heap.objs.size],_,_,H1,rfl,I2,O0 a (s1.heap.objs.size+1) s1.heap.objs.size (qY _) (jP_ ha) (jP_ (xg_ ha)) xs,⟨_,fF,cF⟩,fun b hb=>?_,q⟩;have cG:s1.heap.objs.size<=b:=by
    rcases jE_.mp hb with rfl|hb
    ·lia
    ·rw[jn_.mp hb];exact jh_ _
   exact I1.fpOk cG (I1.hok.fresh cG)
def forN {K:α3} (Pv:Nat->St->Hp->Prop)(h0:Pv 0 σ H)(hl:∀i σ H,i<=xs.length->Pv i σ H->SqT K H a xs)
  (hs:∀i v σ H t,xs[i]?=some v->Pv i σ H->H t=none->g (.ref t) σ (upd H t (.tup [.int i,v])) fun ag H2=>tb {D with nx:=Pv (i+1),ct:=Pv (i+1),bk:=D.nx} ag H2) (hd:∀σ H,Pv xs.length σ H->D.nx σ H):ForW (Itn K a xs) g tb D σ H:=by
 refine⟨fun i m σ H=>m=xs.length-i/\i<=xs.length/\Pv i σ H,⟨xs.length,by simp,qs_ _,h0⟩,?_⟩;rintro i m σ H ⟨rfl,hi,p⟩;by_cases ao:i<xs.length
 ·refine .inr ⟨⟨ao,hl i σ H hi p⟩,Pv (i+1),fun af H' p'=>⟨xs.length-(i+1),by lia,rfl,ao,p'⟩,fun x H' y=>?_⟩;obtain⟨t,v,hn,hv,rfl,rfl⟩:=y;exact hs i v σ H t hv p hn
 ·have e:i=xs.length:=by lia
  subst e;exact .inl ⟨⟨rfl,hl _ σ H hi p⟩,hd σ H p⟩
section
variable {td ty tv tx:TE} {D:Ends} {σ:St} {H:Hp} {Q:VK}
theorem Uq:WO td ty σ H Q=td σ H fun x H1=>ty σ H1 fun y H2=>∃a v,x=.ref a/\DGet H2 a y (some v)/\Q v H2:=rfl
theorem Xn:tDIn ty td σ H Q=ty σ H fun y H1=>td σ H1 fun x H2=>∃a o,x=.ref a/\DGet H2 a y o/\Q (.bl o.isSome) H2:=rfl
theorem Ur:WQ td ty tv D σ H=tv σ H fun v H1=>td σ H1 fun x H2=>ty σ H2 fun y H3=>∃a H4,x=.ref a/\DPut H3 a y v H4/\D.nx σ H4:=rfl
theorem QU:T2 td ty σ H Q=td σ H fun x H1=>∃a,x=.ref a/\IsD H1 a/\ty σ H1 fun y H2=>∃o,DGet H2 a y o/\Q (o.getD .non) H2:=rfl
theorem Us : Vf fW σ H Q=∀p,H p=none->Jk fW σ (upd H p (.dK [])) fun ps H2=>H2 p=some (.dK [])/\∃kvs:List (Key×V),ps=kvs.map (fun kv=>(kV kv.1,kv.2))/\kvs.length<=15/\Q (.ref p) (upd H2 p (.dK (Hz [] kvs))):=rfl
theorem Og : Jk [] σ H R=R [] H:=rfl
theorem Oh : Jk ((td,tv)::r) σ H R=td σ H fun x H1=>tv σ H1 fun y H2=>Jk r σ H2 fun ps H3=>R ((x,y)::ps) H3:=rfl
end
end L2
namespace GW
noncomputable def Ut (w:α2):List (Int×α2)->Nat->α2->List (Int×α2)
 |ents,_,[]=>ents
 |ents,x,g::r=>Ut w (if g∈ents.map (·.1) then ents else ents++[(g,w++[(x:Int)])]) (x+1) r
noncomputable def bfs (aC:α1):Nat->List (Int×α2)->Nat->List (Int×α2)
 |0,ents,_=>ents
 |f+1,ents,i=>match ents[i]? with
  |none=>ents
  |some e=>bfs aC f (Ut e.2 ents 0 (aC.getD e.1.toNat [])) (i+1)
noncomputable def QV (aC:α1):List (Int×α2):=bfs aC (aC.length+1) [(0,[])] 0
noncomputable def Seen (L:Int)(aC:α1)(ents:List (Int×α2))(r:Int)(w:α2)(x:Nat):Prop:=∀y:Int,0<=y->y<x->∃e'∈ents,e'.1=Xm aC r y/\place L e'.2<=place L (w++[y])
end GW
namespace L2
open PySem PySem.Spec PyProof.Rows GW
noncomputable def Ents (K:α3)(H:Hp)(d:Addr)(ents:List (Int×α2)):Prop:=∃kvs:List (Key×V),H d=some (.dK kvs)/\kvs.length=ents.length/\∀(i:Nat) (e:Int×α2),ents[i]?=some e->∃t,kvs[i]?=some (pj e.1,V.ref t)/\SqT K H t (e.2.map V.int)
def Mw {K:α3} (hp:H p=some (.dK kvs))(h:SqT K H t xs):SqT K (upd H p (.dK kvs')) t xs:=by
 rcases h with (q|⟨o,q⟩)|q
 ·refine .inl (.inl ?_);rw[Au (fun z=>by rw[z,hp]at q;cases q)];exact q
 ·refine .inl (.inr ⟨o,?_⟩);rw[Au (fun z=>by rw[z,hp]at q;cases q)];exact q
 ·exact .inr q
def Ents.no {K:α3} {ents:List (Int×α2)}(h:Ents K H d ents) (hg:g∉ents.map (·.1)):DGet H d (.int g) none:=by
 obtain⟨kvs,h1,h2,h3⟩:=h;have e:valV kvs (pj g:Key)=none:=by
  unfold valV;rw[Option.map_eq_none_iff,z5_];intro kv bz;obtain⟨i,hi,e⟩:=qS_ bz;obtain⟨t,a,_⟩:=h3 i ents[i] (by simp[show i<ents.length by lia]);have e2:kvs[i]?=some kv:=by rw[jb_ hi,e]
  rw[e2]at a;cases a;simp only[j5_];intro z;injection z with z;exact hg (jo_.mpr ⟨ents[i],jy_ _,z⟩)
 have:=DGet.k (k:=(pj g:Key)) h1;rw[e]at this;exact this
def Ents.put {K:α3} {ents:List (Int×α2)} (h:Ents K H d ents)(hg:g∉ents.map (·.1))(hz:ents.length<1000)(ht:SqT K H t (w.map V.int)):∃H',DPut H d (.int g) (.ref t) H'/\(∃kvs kvs',H d=some (.dK kvs)/\H'=upd H d (.dK kvs'))/\Ents K H' d (ents++[(g,w)]):=by
 have gJ:=h.no hg;obtain⟨kvs,h1,h2,h3⟩:=h;have hl:=An;have hv:valV kvs (pj g:Key)=none:=by
  rcases gJ with ⟨kvs',k,e,ey,er⟩|⟨kvs',k,b,e,ey,_⟩
  ·have e1:kvs'=kvs:=by
    rcases e with e|⟨o,e⟩
    ·rw[h1]at e;cases e;rfl
    ·rw[h1]at e;cases e
   subst e1;cases k with
   |inl m=>
    have:m=g:=by injection ey with ey;exact ey.symm
    subst this;exact er.symm
   |inr m=>cases ey
  ·cases ey
 have hp:putK kvs (pj g:Key) (V.ref t)=kvs++[(pj g,V.ref t)]:=by
  unfold putK;rw[E4,hv];rfl
 refine⟨_,DPut.k (k:=(pj g:Key)) h1 s!"",⟨kvs,_,h1,rfl⟩,kvs++[(pj g,V.ref t)],by rw[Ab,hp],by simp[h2],fun i e he=>?_⟩;by_cases hi:i<ents.length
 ·rw[jm_ hi]at he;obtain⟨t',a,b⟩:=h3 i e he;exact⟨t',by rw[jm_ s!""];exact a,Mw h1 b⟩
 ·have ao:=(jd_.mp he).1;rw[ji_,jG_]at ao;have e1:i=ents.length:=by lia
  subst e1;rw[jp_ (jh_ _),qq_]at he;simp at he;subst he;exact⟨t,by rw[jp_ s!"",h2,qq_];rfl,Mw h1 ht⟩
end L2
namespace L2
open PySem PySem.Spec PyProof.Rows
noncomputable def ups (n:Nat):α2:=(oW n).map fun i:Nat=>(i:Int)
noncomputable def rNeD (K:α3)(n:Nat):R2:=fun x y H Q=>∃a c b,x=.ref a/\y=.ref c/\EqD K H n x y b/\Q (.bl (!b)) H
theorem Xo {K:α3} : rNeD K n x y H Q=∃a c b,x=.ref a/\y=.ref c/\EqD K H n x y b/\Q (.bl (!b)) H:=rfl
def Oi (n:Nat)(hu:X.A.units+n<cLine):OpR X (compareOp .NotEq) (rNeD X.K n):=by
 intro aa s σ H x y v u Q I rx ry h;obtain⟨a,c,b,rfl,rfl,h,q⟩:=h;cases rx;cases ry;cases n with
 |zero=>exact absurd (show false=true from h.1) jx_
 |succ n=>
  rcases h with ⟨fx,_⟩|⟨a',c',xs,ys,e1,e2,hq,e,he,rfl⟩
  ·exact absurd (show false=true from fx) jx_
  ·cases e1;cases e2;have key:∀(its aA:List Value),Vals xs its->Vals ys aA->∀j (h1:j<its.toArray.size) (h2:j<aA.toArray.size),SeqAt.EqAt X.A.in1 s its.toArray[j] aA.toArray[j] (e j):=fun its aA r1 r2 j h1 h2=>by
    have l1:=r1.length;have l2:=r2.length;rw[jl_]at h1 h2;obtain⟨u1,g1,q1⟩:=r1.get (i:=j) (x:=xs[j]'s!"") (by simp[show j<xs.length by lia]);obtain⟨u2,g2,q2⟩:=r2.get (i:=j) (x:=ys[j]'s!"") (by simp[show j<ys.length by lia]);have k1:its.toArray[j]'(by rw[jl_];exact h1)=u1:=by
     have:=(jd_.mp g1).2;simpa using this
    have k2:aA.toArray[j]'(by rw[jl_];exact h2)=u2:=by
     have:=(jd_.mp g2).2;simpa using this
    rw[k1,k2];exact (EqD.at I n X.A.in1 (by rw[in1_units];lia) q1 q2 (he j _ _ (by simp[show j<xs.length by lia]) (by simp[show j<ys.length by lia]))).1
   have aN:EP X aa σ Q (.bool (!(decide (xs.length=ys.length)&&(oW (min xs.length ys.length)).all e))) s:=⟨.bl _,H,I,rfl,q⟩;rcases hq with ⟨h1,h2⟩|⟨h1,h2⟩
   ·obtain⟨its,r1,p1,_⟩:=I.list h1;obtain⟨aA,r2,p2,_⟩:=I.list h2;have l1:=r1.length;have l2:=r2.length;by_cases hl:xs.length=ys.length
    ·have:=SeqAt.RcNeAt.lists (e:=e) p1.isList p2.isList (by rw[jl_,jl_];lia) s!"" (key its aA r1 r2);rw[jl_,<-l1]at this;rw[jZ_ hl,qw,<-hl,pO]at aN;exact this _ _ _ _ aN
    ·have:=SeqAt.RcNeAt.lists_lengths (A:=X.A) p1.isList p2.isList (by rw[jl_,jl_];simp;lia) s!"";rw[jX_ hl,qa]at aN;exact this _ _ _ _ aN
   ·obtain⟨its,r1,p1,_⟩:=I.tuple h1;obtain⟨aA,r2,p2,_⟩:=I.tuple h2;have l1:=r1.length;have l2:=r2.length;have:=SeqAt.RcNeAt.tuples (e:=e) (show s.heap.IsTuple a its.toArray from p1) (show s.heap.IsTuple c aA.toArray from p2) s!"" (key its aA r1 r2);rw[jl_,jl_,<-l1,<-l2,QC]at this;exact this _ _ _ _ aN
noncomputable def Uu (tk tv:TE):TE:=Vf [(tk,tv)]
def SD (hk:PE X k tk)(hv:PE X v tv):PE X (.Dict [some k] [v] pos) (Uu tk tv):=Vg (Su hk hv Ve) rfl rfl (by intro z;cases z) (by show 1<=15;decide)
theorem QW : Uu tk tv σ H Q=∀p,H p=none->tk σ (upd H p (.dK [])) fun x H1=>tv σ H1 fun y H2=>H2 p=some (.dK [])/\∃kvs:List (Key×V),[(x,y)]=kvs.map (fun kv=>(kV kv.1,kv.2))/\kvs.length<=15/\Q (.ref p) (upd H2 p (.dK (Hz [] kvs))):=rfl
def Vals.ofIx:∀{xs:List V} {us:List Value},us.length=xs.length->(∀(i:Nat) (v:Value),us[i]?=some v->∃x,xs[i]?=some x/\RelV x v)->Vals xs us
 |[],[],_,_=>.nil
 |[],_::_,h,_=>by simp at h
 |_::_,[],h,_=>by simp at h
 |x::xs,u::us,h,k=>by
  refine .cons ?_ (Vals.ofIx (by simpa using h) fun i v hv=>?_)
  ·obtain⟨y,e,r⟩:=k 0 u rfl;cases e;exact r
  ·obtain⟨y,e,r⟩:=k (i+1) v (by simpa using hv);exact⟨y,by simpa using e,r⟩
def My (h:Nl k v=true):RelV (kV k) v:=by
 rcases A9 h with ⟨i,t,rfl,e⟩|⟨x,t,rfl,e⟩
 ·exact⟨t,e⟩
 ·exact⟨t,e⟩
end L2
namespace L2
theorem r_in {K:α3} : rIn K iq x y H Q=∃p xs,y=.ref p/\(SqL K H p xs\/SqT K H p xs)/\D9 x=true/\xs.all D9=true/\Q (.bl (if iq then !inV x xs else inV x xs)) H:=rfl
end L2
namespace L2
open PySem PySem.Spec PyProof.Rows
noncomputable def Itm (K:α3)(a:Addr)(xs:List V):It:=⟨fun i H=>i<xs.length/\SqL K H a xs,fun i H x H'=>∃t v,H t=none/\xs[i]?=some v/\x=.ref t/\H'=upd H t (.tup [.int i,v]),fun i H=>i=xs.length/\SqL K H a xs⟩
def O1 {P:Program}{w:World}{K:α3}{bG:List Expr}{x1}{bq:Pos}(a e it:Addr)(bM:e≠it)(eN:a≠it)(mM:a≠e)(xs:List V):Turn P w K (.Tuple bG x1 bq) (Itm K a xs) [e,it] e (fun i h=>∃old,IsEnum h e it (i:Nat) old/\h.IsListIter it a i) where
 mem:=by simp
 obj:=fun i h st b hb=>by
  obtain⟨old,h1,o,h2,c,d⟩:=st;rcases jE_.mp hb with rfl|hb
  ·exact⟨_,h1,fun v z=>by cases z⟩
  ·rw[jn_.mp hb];exact⟨o,h2,fun v z=>by rw[d]at z;cases z⟩
 keep:=fun i h h' st k=>by
  obtain⟨old,h1,h2⟩:=st;exact⟨old,k e (by simp) _ h1,h2.at fun o q=>k it (by simp) o q⟩
 item:=by
  intro X hP hw hK hc i aa s σ H E I hf st hg;subst hP hw hK;obtain⟨hi,hq⟩:=hg;obtain⟨old,he,aq⟩:=st;obtain⟨its,rv,p,hz⟩:=I.list hq;have hl:=rv.length;have pt:s.heap.IsList a its.toArray:=p.isList;have f1:=hf e (by simp);have f2:=hf it (by simp);have Dw:=Draws.list (prog:=X.prog) (w:=X.w) (A:=X.A.in1) (I.ok.hd hc) it a eN its.toArray;refine wpAny_pyNext_enum_itemD Dw he ⟨aq,pt⟩ (by simp;lia) bM (by simp[bM,q3_ mM]) fun u h' tk hu fq iB eO hsz hk=>?_;have hT:s.heap.objs.size≠e:=xB_ (ju_ he);refine⟨_,rfl,wpAny_letOwnedTupleGo_enum fq fun h2 fE bE=>?_⟩;have eg:∀b o,b≠e->b≠it->s.heap.get? b=some o->h2.get? b=some o:=fun b o h1 h3 q=>(bE.2 b h1).trans (hk b o h1 h3 q);obtain⟨un,hok⟩:=I.un2 eg f1 f2;have hn:H s.heap.objs.size=none:=I.hok.fresh (jh_ _);have hv:xs[i]?=some xs[i]:=by simp[hi]
  obtain⟨u',br,ru⟩:=rv.get hv;have eu:u'=u:=by
   have gb:its[i]?=some u:=by simpa using hu
   rw[br]at gb;exact jC_ gb
  subst eu;have eP:h2.get? s.heap.objs.size=some {cls:=.type "tuple",data:=.seq #[.int i tk,u']}:=(bE.2 _ hT).trans eO;have new:AU X.prog X.w (upd H s.heap.objs.size (.tup [.int i,xs[i]])) h2 s.heap.objs.size (.tup [.int i,xs[i]]):=⟨by have:=An;simp;lia,[.int i tk,u'],.cons ⟨tk,rfl⟩ (.cons ru .nil),_,eP,rfl,_,rfl⟩;refine⟨.ref s.heap.objs.size,upd H s.heap.objs.size (.tup [.int i,xs[i]]),I.call' (s':={s with heap:=h2,toks:=tk+1}) (ch:=[e,it]) rfl (un.track (jh_ _) hn) (hok.track hn new) I.bare (fun b hb=>?_),rfl,⟨_,_,hn,hv,rfl,rfl⟩,?_,fun b hb=>?_⟩
  ·exact (hf b hb).ch
  ·refine⟨u',by simpa using fE,?_⟩;exact iB.1.at fun o q=>(bE.2 it (q3_ bM)).trans q
  ·have dv:=hf b hb;have:∃o,s.heap.get? b=some o:=by
    rcases jE_.mp hb with rfl|hb
    ·exact⟨_,he⟩
    ·rw[jn_.mp hb];obtain⟨o,ho,_⟩:=aq;exact⟨o,ho⟩
   obtain⟨o,ho⟩:=this;rw[Au (jP_ (ju_ ho))];exact dv.1
 done:=by
  intro X hP hw hK hc i aa s σ H E I hf st hg;subst hP hw hK;obtain⟨hi,hq⟩:=hg;subst hi;obtain⟨old,he,aq⟩:=st;obtain⟨its,rv,p,hz⟩:=I.list hq;have hl:=rv.length;have pt:s.heap.IsList a its.toArray:=p.isList;have Dw:=Draws.list (prog:=X.prog) (w:=X.w) (A:=X.A.in1) (I.ok.hd hc) it a eN its.toArray;obtain⟨f0,f1,f2,f3,f4,f5⟩:=hf it (by simp);refine wpAny_pyNext_enum_endD Dw he ⟨by rw[jl_,<-hl];exact aq,pt⟩ fun h' eb=>⟨rfl,I.turned (t':=s.toks) (fun b o hb e=>eb b o hb e) f0 f1 f3 f4 f5⟩
 self:=fun A i s Q E st h=>by
  obtain⟨old,he,_⟩:=st;exact zv_ he h
noncomputable def Uv (K:α3)(tl:TE):TI:=fun σ H R=>tl σ H fun x H1=>∃a xs,x=.ref a/\SqL K H1 a xs/\R (Itm K a xs) H1
theorem Oj {K:α3} : Uv K te σ H Z=te σ H fun x H1=>∃a xs,x=.ref a/\SqL K H1 a xs/\Z (Itm K a xs) H1:=rfl
def Ol {x1} (hg:Gl X "enumerate")(hm:X.mg "enumerate"=none)(he:PE X e te)(hs:starEach [e] X.env=[(false,eval e X.env)]:=by rfl):PI X (.Tuple bG x1 bq) (.Call (.Name "enumerate" p) [e] [] pos) (Uv X.K te):=by
 intro aa s σ H R I h;refine Call_ (Ee I hg hm boot_enumerate (ql_ (thn (Aa he Ac hs pos aa s σ H (fun vs H1=>∃a xs,vs=[.ref a]/\SqL X.K H1 a xs/\R (Itm X.K a xs) H1) I ?_) fun us s1 ⟨vs,H1,I1,r1,q1⟩=>?_) hs rfl))
 ·show te σ H _;have:(fun x H1=>∃a xs,x=V.ref a/\SqL X.K H1 a xs/\R (Itm X.K a xs) H1)=(fun x H1=>tNil σ H1 fun xs H2=>∃a ys,x::xs=[V.ref a]/\SqL X.K H2 a ys/\R (Itm X.K a ys) H2):=by
   funext x H1
   simp[tNil]
  rw[<-this];exact h
 ·obtain⟨a,xs,rfl,hq,q⟩:=q1;cases r1 with
  |cons r rr=>
   cases rr;cases r;obtain⟨its,rv,p,hz⟩:=I1.list hq;have pt:s1.heap.IsList a its.toArray:=p.isList;obtain⟨oa,mO,_⟩:=id pt;have ha:=ju_ mO;refine call_enumerate_list pt fun h' fF cF hsz hk=>?_;refine zv_ (s:={s1 with heap:=h' }) fF ?_;have I2:Inv X aa σ H1 {s1 with heap:=h' }:=I1.kept (t':=s1.toks) hk;refine⟨s1.heap.objs.size+1,[s1.heap.objs.size+1,s1.heap.objs.size],_,_,H1,rfl,I2,O1 a (s1.heap.objs.size+1) s1.heap.objs.size (qY _) (jP_ ha) (jP_ (xg_ ha)) xs,⟨_,fF,cF⟩,fun b hb=>?_,q⟩;have cG:s1.heap.objs.size<=b:=by
    rcases jE_.mp hb with rfl|hb
    ·lia
    ·rw[jn_.mp hb];exact jh_ _
   exact I1.fpOk cG (I1.hok.fresh cG)
def forM {K:α3} (Pv:Nat->St->Hp->Prop)(h0:Pv 0 σ H)(hl:∀i σ H,i<=xs.length->Pv i σ H->SqL K H a xs)
  (hs:∀i v σ H t,xs[i]?=some v->Pv i σ H->H t=none->g (.ref t) σ (upd H t (.tup [.int i,v])) fun ag H2=>tb {D with nx:=Pv (i+1),ct:=Pv (i+1),bk:=D.nx} ag H2) (hd:∀σ H,Pv xs.length σ H->D.nx σ H):ForW (Itm K a xs) g tb D σ H:=by
 refine⟨fun i m σ H=>m=xs.length-i/\i<=xs.length/\Pv i σ H,⟨xs.length,by simp,qs_ _,h0⟩,?_⟩;rintro i m σ H ⟨rfl,hi,p⟩;by_cases ao:i<xs.length
 ·refine .inr ⟨⟨ao,hl i σ H hi p⟩,Pv (i+1),fun af H' p'=>⟨xs.length-(i+1),by lia,rfl,ao,p'⟩,fun x H' y=>?_⟩;obtain⟨t,v,hn,hv,rfl,rfl⟩:=y;exact hs i v σ H t hv p hn
 ·have e:i=xs.length:=by lia
  subst e;exact .inl ⟨⟨rfl,hl _ σ H hi p⟩,hd σ H p⟩
noncomputable def rng (i j:Int):α2:=(oW (j-i).toNat).map fun k:Nat=>i+(k:Int)
end L2
namespace PySem
open Sem (wp)
noncomputable def Heap.DEnt (h:Heap)(d:Addr)(es:Array DictEntry)(ep:Nat):Prop:=∃o,h.get? d=some o/\o.ExactDict/\o.data=.dict es ep
section
variable {prog:Program} {w:World} {A:Around} {E:Value->Shared->Prop} {s:Shared} {d it:Addr} {es:Array DictEntry} {i ep:Nat}
def Heap.DEnt.typeIs (h:s.heap.DEnt d es ep):s.TypeIs (.ref d) "dict" := let ⟨o,ho,hc,_⟩:=h;⟨o,ho,hc.1⟩
def Heap.DEnt.at {h h':Heap}(x:h.DEnt d es ep)(e:∀o,h.get? d=some o->h'.get? d=some o):h'.DEnt d es ep:=let ⟨o,ho,r⟩:=x;⟨o,e _ ho,r⟩
def Heap.DEnt.lt_size {h:Heap}(x:h.DEnt d es ep):d<h.objs.size:=let ⟨_,ho,_⟩:=x;ju_ ho
def Jn (hd:(d==sysModules)=false)(hm:s.heap.DEnt d es ep)
  (hQ:Q (.ref s.heap.objs.size) {s with heap:=s.heap.push {cls:=.type "dict_keyiterator",data:=.fields #[.ref d,.int 0 0,.int es.size 0,.int ep 0]} }):wpAny (model prog w) A (pyIter (.ref d)) Q E s:=by
 have hT:=hm.typeIs;obtain⟨o,ho,hc,dN⟩:=id hm;refine wpAny_pyIter_slot hT F.slot_dict_iter (qj_ F.slot_dict_iter hT F.entry_dict_iter (?_:wpAny _ _ (Builtin.«dict.__iter__» _) _ _ s) (F.args_dict_iter_1 _));unfold Builtin.«dict.__iter__»;refine wpAny_bind ?_;unfold Builtin.Dict.dictSlotNone;refine wpAny_bind (wpAny_notOrdered_dict hT ?_);show wpAny _ _ (pure (Value.ref d)) _ _ s;refine jq_ ?_;show wpAny _ _ (Builtin.Dict.showsAll d >>= _) _ _ s;unfold Builtin.Dict.showsAll;rw[if_neg (fun z=>by rw[hd]at z;cases z)];refine je_ (jq_ (je_ (zw_ ho dN (je_ (wpAny_dictEpoch ho dN ?_)))));refine je_ (qK_ (jq_ ⟨_,rfl,"dict_keyiterator",_,⟨_,jv_ _ rfl,rfl⟩,qX_.lookup,?_⟩));simpa [rawInt] using hQ
def DU (aq:s.heap.IsKeyIter it d i es.size ep)(hm:s.heap.DEnt d es ep)(ao:i<es.size)
  (hQ:∀h',h'.IsKeyIter it d (i+1) es.size ep->Heap.SameBut it s.heap h'->Q (some es[i].key) {s with heap:=h' }):wpAny (model prog w) A (pyNext (.ref it)) Q E s:=by
 obtain⟨o,ho,hc,hd⟩:=id aq;obtain⟨od,c8,bZ,cH⟩:=id hm;have b8:Builtin.Dict_items.ownsTuple "dict_keyiterator"=false:=by decide
 unfold pyNext;refine je_ (xm_ (qg_ (name:=Str.ofString "__next__") aq.typeIs qX_ (qj_ qX_ aq.typeIs F.entry_dict_keyiterator_next ?_ (F.args_dict_keyiterator_next_1 _))));refine je_ (jq_ (je_ (je_ ?_)))
 first|refine je_ (xc_ aq.typeIs (jq_ (je_ (wpAny_fieldsOf ho hd ?_))))|refine je_ (xx_ aq.typeIs (jq_ (je_ (wpAny_fieldsOf ho hd ?_))))
 simp only[b8,zm_,x6_];show wpAny _ _ (if (Value.ref d==Value.none)=true then _ else _) _ _ s;rw[if_neg (show ¬ ((Value.ref d==Value.none)=true) from fun z=>jx_ z)];refine je_ (jq_ (je_ (zw_ c8 cH ?_)));rw[if_neg (by simp)];refine je_ (jq_ (je_ (wpAny_dictEpoch c8 cH ?_)));rw[if_neg (by simp)];refine jq_ ?_;simp only[show ¬ ((i:Int)<0) from by lia,x6_,jU_,x0_ ao];refine je_ ?_
 first|refine je_ (xc_ aq.typeIs (jq_ (je_ (zy_ aq.typeIs ?_))))|refine je_ (xx_ aq.typeIs (jq_ (je_ (zy_ aq.typeIs ?_))))
 show wpAny _ _ (setField (.ref it) 1 (rawInt ((i:Int)+1)) >>= _) _ _ s;refine je_ (wpAny_setField ho hd (by simp) ?_);have cF:(s.heap.update it (Obj.mapFields (·.setIfInBounds 1 (rawInt ((i:Int)+1))))).IsKeyIter it d (i+1) es.size ep:=⟨_,qG_ _ ho (Obj.isFreed_of_fields (Obj.data_mapFields hd _)),(Obj.cls_mapFields ..).trans hc,by rw[Obj.data_mapFields hd];simp[rawInt]⟩;refine je_ (qC_ (je_ (zy_ (s:={s with heap:=s.heap.update it (Obj.mapFields (·.setIfInBounds 1 (rawInt ((i:Int)+1))))}) cF.typeIs ?_)));show wpAny _ _ (pure es[i].key) _ _ _;exact jq_ (jq_ ⟨_,rfl,jq_ (hQ _ cF (q4_ ..))⟩)
def Ek (hh:A.handled=none)(aq:s.heap.IsKeyIter it d i es.size ep)(hm:s.heap.DEnt d es ep)(lp:es.size<=i)
  (hQ:∀h',Heap.ExtBut it s.heap h'->Q none {s with heap:=h' }):wpAny (model prog w) A (pyNext (.ref it)) Q E s:=by
 obtain⟨o,ho,hc,hd⟩:=id aq;obtain⟨od,c8,bZ,cH⟩:=id hm;have b8:Builtin.Dict_items.ownsTuple "dict_keyiterator"=false:=by decide
 unfold pyNext;refine je_ (xm_ (qg_ (name:=Str.ofString "__next__") aq.typeIs qX_ (qj_ qX_ aq.typeIs F.entry_dict_keyiterator_next ?_ (F.args_dict_keyiterator_next_1 _))));refine je_ (jq_ (je_ (je_ ?_)))
 first|refine je_ (xc_ aq.typeIs (jq_ (je_ (wpAny_fieldsOf ho hd ?_))))|refine je_ (xx_ aq.typeIs (jq_ (je_ (wpAny_fieldsOf ho hd ?_))))
 simp only[b8,zm_,x6_];show wpAny _ _ (if (Value.ref d==Value.none)=true then _ else _) _ _ s;rw[if_neg (show ¬ ((Value.ref d==Value.none)=true) from fun z=>jx_ z)];refine je_ (jq_ (je_ (zw_ c8 cH ?_)));rw[if_neg (by simp)];refine je_ (jq_ (je_ (wpAny_dictEpoch c8 cH ?_)));rw[if_neg (by simp)];refine jq_ ?_;simp only[show ¬ ((i:Int)<0) from by lia,x6_,jU_,Array.getElem?_eq_none lp];refine je_ ?_
 first|refine je_ (xc_ aq.typeIs (jq_ ?_))|refine je_ (xx_ aq.typeIs (jq_ ?_))
 show wpAny _ _ (setField (.ref it) 0 .none >>= _) _ _ s;refine je_ (wpAny_setField ho hd (by simp) ?_);show wpAny _ _ (newExc (.type "StopIteration") [] >>= _) _ _ _;refine je_ ?_;simp only[newExc,newTuple];refine je_ (qK_ ?_ (by size_fits));refine je_ (m:=firstArgMember _ _) (xD_ (a:=Value.none) (by first|rfl|(simp only[firstArgMember];rfl)) (qK_ ?_ (by size_fits)));simp only[raiseNew];refine je_ (wpAny_handled ?_);rw[show A.in1.handled=none from hh];refine je_ (jq_ (wpAny_throw ?_));refine je_ (xF_ (T := "StopIteration") (b:=true) ⟨_,jv_ _ rfl,rfl⟩ isSubtype_stop (jq_ (hQ _ (((q4_ ..).extBut.push _).push _))))
def Walks.dent (hh:A.handled=none)(I:Addr)(aw:d≠I):Walks prog w A I [I,d] [I] es.size (fun i v=>∃e,es[i]?=some e/\v=e.key) (fun i h=>h.IsKeyIter I d i es.size ep/\h.DEnt d es ep) where
 sub:=fun b hb=>by simp at hb;simp[hb]
 frame:=fun _ _ _ st hk=>⟨st.1.at fun o e=>hk I (by simp) o e,st.2.at fun o e=>hk d (by simp) o e⟩
 item:=fun i s Q E hi st hQ=>by
  refine DU st.1 st.2 hi fun h' cF fG=>?_;exact hQ _ h' s.toks ⟨es[i],by simp[hi],rfl⟩ ⟨cF,st.2.at fun o e=>fG.extBut d o aw e⟩ fun b o hb e=>fG.extBut b o (fun z=>hb (by simp[z])) e
 done:=fun s Q E st hQ=>Ek hh st.1 st.2 (jh_ _) fun h' fF=>hQ h' s.toks fun b o hb e=>fF b o (fun z=>hb (by simp[z])) e
 self:=fun _ _ _ _ st hQ=>zM_ st.1 hQ
def SE (lo:(d==sysModules)=false):uq prog w "dict" d d es.size (fun i v=>∃e,es[i]?=some e/\v=e.key) (fun h=>h.DEnt d es ep) where
 type:=fun _ hm=>hm.typeIs
 there:=fun _ hm=>⟨hm.lt_size,hm.lt_size⟩
 keep:=fun _ _ hm hk=>hm.at fun o e=>hk d (.inl rfl) o e
 notList:=by decide
 notTuple:=by decide
 hint:=fun _ _ _ _ hm hq=>tI hm.typeIs hq
 iter:=fun _ _ hh hm=>⟨_,_,(fun _ _ hq=>Jn lo hm hq),Walks.dent hh _ (jP_ hm.lt_size),⟨⟨_,jv_ _ rfl,rfl,rfl⟩,hm.at fun o e=>jk_ _ e⟩⟩
end
end PySem
namespace L2
open PySem PySem.Spec PyProof.Rows
def E6 {α β:Type}{F:α->β->Prop}:∀{l:List α} {m:List β} {i:Nat} {a:α},Paired F l m->l[i]?=some a->∃b,m[i]?=some b/\F a b
 |_,_,_,_,.nil,e=>by simp at e
 |_,_,0,_,.cons r _,e=>by simp at e;subst e;exact⟨_,rfl,r⟩
 |_,_,i+1,a,.cons _ t,e=>by
  obtain⟨b,h1,h2⟩:=E6 (i:=i) (a:=a) t (by simpa using e);exact⟨b,by simpa using h1,h2⟩
def Ny (ok:HOk P w H h)(e:Rd H a (.dT kvs)):
  ∃o es ep,h.get? a=some o/\o.ExactDict/\o.data=.dict es ep/\es.size=kvs.length/\(a==sysModules)=false/\kvs.length<=sizeLine /\
   ∀(i:Nat) (k:List Key) (v:V),kvs[i]?=some (k,v)->∃b en,es[i]?=some en/\en.key=.ref b/\H b=some (.tup (k.map kV)):=by
 obtain⟨z,y,xs,r,o,es,ep,h1,h2,h3,h4,h5⟩:=(show AU P w H h a (.dT kvs) from Ss ok e);have hl:=zi_ r;have hs:es.size=kvs.length:=by rw[<-qQ_,h4,ja_,hl]
 refine⟨o,es,ep,h1,h2,h3,hs,y,z,fun i k v hk=>?_⟩;obtain⟨q,hq,e1,e2,_⟩:=E6 r hk;refine⟨q.2.1,entryOfKey (tupleKind (A4 P w)) q,?_,rfl,e2⟩;rw[<-xQ_,h4,jf_,hq];rfl
section
variable {X:Cx} {aa:α7} {σ:St} {H:Hp} {s:Shared} {a:Addr}
def Inv.freeze (I:Inv X aa σ H s)(e:H a=some (.dT kvs))(ho:s.heap.get? a=some o):Inv X aa σ (upd H a (.frz o (.dT kvs))) s:=by
 refine Hc (h':=s.heap) (t':=s.toks) I (by rw[e];exact oX) ⟨rfl,fun _ _=>rfl⟩ ⟨o,ho⟩ ?_;obtain⟨z,y,xs,r,q⟩:=(show AU X.prog X.w H s.heap a (.dT kvs) from I.hok a _ e);refine⟨ho,z,y,xs,Paired.mapP r fun p x hx=>⟨hx.1,?_,hx.2.2⟩,q⟩;rw[Au (fun z=>by have h1:=hx.2.1;rw[z,e]at h1;cases h1)];exact hx.2.1
end
noncomputable def Itd (o:Obj)(a:Addr)(kvs:List (List Key×V)):It:=⟨fun i H=>i<kvs.length/\H a=some (.frz o (.dT kvs)),fun i H x H'=>H'=H/\∃b k v,kvs[i]?=some (k,v)/\x=.ref b/\H b=some (.tup (k.map kV)),fun i H=>kvs.length<=i/\H a=some (.frz o (.dT kvs))⟩
def O2 {P:Program}{w:World}{K:α3}{tg:Expr}{o:Obj}{a it:Addr}{kvs:List (List Key×V)}{es:Array DictEntry}{ep:Nat}(eN:a≠it)(hc:o.ExactDict)(hd:o.data=.dict es ep)(hs:es.size=kvs.length):
  Turn P w K tg (Itd o a kvs) [it] it (fun i h=>h.IsKeyIter it a i es.size ep) where
 mem:=by simp
 obj:=fun i h st b hb=>by
  have e:b=it:=by simpa using hb
  subst e;obtain⟨o,e,c,d⟩:=st;exact⟨o,e,fun v z=>by rw[d]at z;cases z⟩
 keep:=fun i h h' st k=>st.at fun o e=>k it (by simp) o e
 item:=by
  intro X hP hw hK gK i aa s σ H E I hf st hg;subst hP hw hK;obtain⟨hi,hq⟩:=hg;obtain⟨gd,_⟩:=(show AU X.prog X.w H s.heap a (.frz o (.dT kvs)) from I.hok a _ hq);obtain⟨o',au,jQ,g1,g2,g3,g4,g5,g6,g7⟩:=Ny I.hok (.inr ⟨o,hq⟩);rw[gd]at g1;cases g1;rw[hd]at g3;cases g3;obtain⟨kv,bz⟩:∃kv,kvs[i]?=some kv:=⟨kvs[i],by simp[hi]⟩;obtain⟨k,v⟩:=kv;obtain⟨b,en,e1,e2,e3⟩:=g7 i k v bz;obtain⟨f0,f1,f2,f3,f4,f5⟩:=hf it (by simp);have ao:i<es.size:=by lia
  have ee:es[i]=en:=by rw[x0_ ao]at e1;exact jC_ e1
  refine DU st ⟨o,gd,hc,hd⟩ ao fun h' bK sb=>?_;have I1:Inv X aa σ H {s with heap:=h' }:=I.turned (t':=s.toks) (fun b o hb e=>(sb.2 b hb).trans e) f0 f1 f3 f4 f5;obtain⟨io,e,c,d⟩:=id bK;exact⟨_,rfl,Qa (s:={s with heap:=h' }) e c d (by decide) ⟨.ref b,H,I1,(by rw[ee,e2];rfl),⟨rfl,b,k,v,bz,rfl,e3⟩,bK,fun b hb=>(hf b hb).1⟩⟩
 done:=by
  intro X hP hw hK gK i aa s σ H E I hf st hg;subst hP hw hK;obtain⟨hi,hq⟩:=hg;obtain⟨gd,_⟩:=(show AU X.prog X.w H s.heap a (.frz o (.dT kvs)) from I.hok a _ hq);obtain⟨f0,f1,f2,f3,f4,f5⟩:=hf it (by simp);exact Ek (I.ok.hd gK) st ⟨o,gd,hc,hd⟩ s!"" fun h' eb=>⟨rfl,I.turned (t':=s.toks) (fun b o hb e=>eb b o hb e) f0 f1 f3 f4 f5⟩
 self:=fun _ _ _ _ _ st h=>zM_ st h
noncomputable def Uw (td:TE):TI:=fun σ H R=>td σ H fun x H1=>∃a kvs,x=.ref a/\H1 a=some (.dT kvs)/\∀o,R (Itd o a kvs) (upd H1 a (.frz o (.dT kvs)))
theorem Om : Uw te σ H Z=te σ H fun x H1=>∃a kvs,x=.ref a/\H1 a=some (.dT kvs)/\∀o,Z (Itd o a kvs) (upd H1 a (.frz o (.dT kvs))):=rfl
def SF (hl:PE X l tl):PI X tg l (Uw tl):=by
 intro aa s σ H R I h;refine thn (hl aa s σ H _ I h) fun v s1 ⟨x,H1,I1,r1,q1⟩=>?_;obtain⟨a,kvs,e,hq,q⟩:=q1;subst e;cases r1;obtain⟨o,es,ep,g1,g2,g3,g4,g5,g6,g7⟩:=Ny I1.hok (.inl hq);have I2:=I1.freeze hq g1;refine Jn g5 ⟨o,g1,g2,g3⟩ ?_;refine⟨s1.heap.objs.size,[s1.heap.objs.size],_,_,_,rfl,I2.kept (t':=s1.toks) fun b o e=>jk_ _ e,O2 (o:=o) (kvs:=kvs) (jP_ (ju_ g1)) g2 g3 g4,⟨_,jv_ _ rfl,rfl,rfl⟩,fun b hb=>?_,q o⟩;have e:b=s1.heap.objs.size:=by simpa using hb
 subst e;exact I2.fpOk (jh_ _) (I2.hok.fresh (jh_ _))
def Bi (hc:X.calm=true):Cd X (.type "list") (fun xs H Q=>∃p kvs,xs=[.ref p]/\Rd H p (.dT kvs)/\∀l rs,H l=none->rs.length=kvs.length ->
  (∀(i:Nat) (k:List Key) (v:V),kvs[i]?=some (k,v)->∃b,rs[i]?=some (V.ref b)/\H b=some (.tup (k.map kV)))->Q (.ref l) (upd H l (.lst rs))):=by
 intro aa s σ H xs us Q I r h;obtain⟨p,kvs,rfl,hp,q⟩:=h;obtain⟨u,rfl,rx⟩:=vals1 r;cases rx;obtain⟨o,es,ep,g1,g2,g3,g4,g5,g6,g7⟩:=Ny I.hok hp;refine qZ (SE (es:=es) (ep:=ep) g5) (I.ok.hd hc) ⟨o,g1,g2,g3⟩ s!"" fun h' tk c9 c' hk hD b9=>?_
 let f:DictEntry->V:=fun e=>match e.key with | .ref b=>V.ref b|_=>.non
 have aM:∀(i:Nat) (k:List Key) (v:V),kvs[i]?=some (k,v)->∃b,(es.toList.map f)[i]?=some (V.ref b)/\H b=some (.tup (k.map kV)):=fun i k v bz=>by
  obtain⟨b,en,e1,e2,e3⟩:=g7 i k v bz;refine⟨b,?_,e3⟩;rw[jf_,xQ_,e1];show some (f en)=_;simp only[f,e2]
 have ah:(es.toList.map f).length=kvs.length:=by rw[ja_,qQ_,g4]
 have hv:Vals (es.toList.map f) c9.toList:=by
  refine Vals.ofIx (by rw[ah,<-g4];simpa using b9.1) fun i v hv=>?_;obtain⟨e,he,rfl⟩:=b9.2 i v (by simpa using hv);have hi:i<kvs.length:=by rw[<-g4];exact (qA_.mp he).1
  obtain⟨b,en,e1,e2,e3⟩:=g7 i kvs[i].1 kvs[i].2 (by simp[hi]);rw[he]at e1;cases e1;refine⟨V.ref b,?_,by rw[e2];rfl⟩;rw[jf_,xQ_,he];show some (f e)=_;simp only[f,e2]
 exact⟨.ref _,_,I.laid (t':=tk) hk (jh_ _) (show AU X.prog X.w _ h' _ (.lst (es.toList.map f)) from ⟨by rw[ah];exact g6,c9.toList,c',hv,by simpa using hD⟩),rfl,q _ _ (I.hok.fresh (jh_ _)) ah aM⟩
end L2
namespace GB
open GW
variable {α:Type} [DecidableEq α]
noncomputable def Yh (step:α->Int->α)(a:α)(ws:α2):α:=ws.foldl step a
noncomputable def put (step:α->Int->α)(r:α)(w:α2)(ents:List (α×α2))(x:Nat):List (α×α2):=if step r x∈ents.map (·.1) then ents else ents++[(step r x,w++[(x:Int)])]
structure B (L:Int)(step:α->Int->α)(st:α)(ok:α->Prop)(ents:List (α×α2))(i:Nat)(top:Int):Prop where
 hd:ents[0]?=some (st,[])
 il:i<=ents.length
 sh:∀(j:Nat) (e:α×α2),ents[j]?=some e->e.2.length<=j
 nod:(ents.map (·.1)).Nodup
 rng:∀e∈ents,ok e.1
 wd:∀e∈ents,isW L e.2=true/\Yh step st e.2=e.1
 inc:∀(j k:Nat) (a b:α×α2),j<k->ents[j]?=some a->ents[k]?=some b->place L a.2<place L b.2
 bnd:∀e∈ents,place L e.2<top
 don:∀j,j<i->∀e,ents[j]?=some e->∀x:Int,0<=x->x<L->∃e'∈ents,e'.1=step e.1 x/\place L e'.2<=place L (e.2++[x])
variable {L:Int} {step:α->Int->α} {st:α} {ok:α->Prop} {ents:List (α×α2)} {i:Nat} {top:Int}
noncomputable def Yi (aC:α1)(r:Int)(ws:α2):Int:=ws.foldl (Xm aC) r
end GB
namespace L2
open PySem PySem.Spec PyProof.Rows GW GB
noncomputable def TK (H H':Hp):Prop:=∀b xs,H b=some (.tup xs)->H' b=some (.tup xs)
def TK.of (s:Same H H'):TK H H':=fun b xs h=>s b _ h
def TK.new (h:H p=none):TK H (upd H p o):=TK.of (Same.new h)
def TK.lst {H:Hp}{p:Addr}{o:HO}{xs:List V}(h:H p=some (.lst xs)):TK H (upd H p o):=fun b ys e=>by rw[Au (fun z=>by rw[z,h]at e;cases e)];exact e
def TK.dT {H:Hp}{p:Addr}{o:HO}{kvs:List (List Key×V)}(h:H p=some (.dT kvs)):TK H (upd H p o):=fun b ys e=>by rw[Au (fun z=>by rw[z,h]at e;cases e)];exact e
end L2
namespace L2
theorem QX : TZ σ H Q=∀p,H p=none->Q (.ref p) (upd H p (.dK [])):=rfl
theorem QY : T1 σ H Q=∀p,H p=none->Q (.ref p) (upd H p (.dT [])):=rfl
end L2
namespace GB
open GW
def QZ (hL:0<L) (hw:isW L w=true):0<=place L w:=by
 have:=(HI hL hw).1;have:=CB hL w.length;lia
def BD (h:isW L v=true)(g:isW L w=true):isW L (v++w)=true:=AM.mpr fun x hx=>(jH_.mp hx).elim (AM.mp h x) (AM.mp g x)
end GB
namespace L2
open PySem PySem.Spec PyProof.Rows GW
def Same.none (s:Same H H') (h:H' p=none):H p=none:=by
 cases e:H p with
 |none=>rfl
 |some u=>rw[s _ _ e]at h;cases h
end L2
namespace L2
open PySem PySem.Spec PyProof.Rows
def Nz:∀(names:List (Str×NameKind)) (h:Heap) (acc:List (Str×Addr)) (x:Str) (c:Addr),(cellsFrom h.objs.size names acc).lookup x=some c->((pushCells h names).IsCell c none/\h.objs.size<=c)\/acc.lookup x=some c
 |[],_,_,_,_,e=>.inr e
 | (y,k)::r,h,acc,x,c,e=>by
  unfold cellsFrom at e;unfold pushCells;by_cases hk:(k == .cell)=true
  ·rw[if_pos hk]at e ⊢;have e':(cellsFrom (h.push {cls:=.type "cell",data:=.cell none}).objs.size r ((y,h.objs.size)::acc)).lookup x=some c:=by rw[qO_];exact e
   rcases Nz r _ _ x c e' with ⟨a,b⟩|q
   ·rw[qO_]at b;exact .inl ⟨a,xy_ b⟩
   ·rw[qk_]at q;cases hx:x==y with
    |true=>
     rw[hx]at q;have:h.objs.size=c:=jC_ q;subst this;exact .inl ⟨⟨_,pushCells_keeps _ _ _ _ (jv_ _ rfl),rfl⟩,jh_ _⟩
    |false=>rw[hx]at q;exact .inr q
  ·rw[if_neg hk]at e ⊢;exact Nz r h acc x c e
def IW:∀(names:List (Str×NameKind)) (n:Nat) (acc:List (Str×Addr)) (x:Str) (c:Addr),(cellsFrom n names acc).lookup x=some c->n<=c\/acc.lookup x=some c
 |[],_,_,_,_,e=>.inr e
 | (y,k)::r,n,acc,x,c,e=>by
  unfold cellsFrom at e;by_cases hk:(k == .cell)=true
  ·rw[if_pos hk]at e;rcases IW r _ _ x c e with b|q
   ·exact .inl (xy_ b)
   ·rw[qk_]at q;cases hx:x==y with
    |true=>rw[hx]at q;have:n=c:=jC_ q;exact .inl (sY this)
    |false=>rw[hx]at q;exact .inr q
  ·rw[if_neg hk]at e;exact IW r n acc x c e
def Q0:∀(names:List (Str×NameKind)) (n:Nat) (acc:List (Str×Addr)),(∀x y c,acc.lookup x=some c->acc.lookup y=some c->x=y)->(∀x c,acc.lookup x=some c->c<n)->∀x y c,(cellsFrom n names acc).lookup x=some c->(cellsFrom n names acc).lookup y=some c->x=y
 |[],_,_,hi,_,x,y,c,e1,e2=>hi x y c e1 e2
 | (z,k)::r,n,acc,hi,hb,x,y,c,e1,e2=>by
  unfold cellsFrom at e1 e2;by_cases hk:(k == .cell)=true
  ·rw[if_pos hk]at e1 e2;refine Q0 r (n+1) ((z,n)::acc) (fun x y c h1 h2=>?_) (fun x c h=>?_) x y c e1 e2
   ·rw[qk_]at h1 h2;cases hx:x==z with
    |true=>
     cases hy:y==z with
     |true=>rw[we_.mp hx,we_.mp hy]
     |false=>
      rw[hx]at h1;rw[hy]at h2;have e:n=c:=jC_ h1;exact absurd (hb y c h2) (by rw[<-e];exact j9_ _)
    |false=>
     cases hy:y==z with
     |true=>
      rw[hx]at h1;rw[hy]at h2;have e:n=c:=jC_ h2;exact absurd (hb x c h1) (by rw[<-e];exact j9_ _)
     |false=>rw[hx]at h1;rw[hy]at h2;exact hi x y c h1 h2
   ·rw[qk_]at h;cases hx:x==z with
    |true=>rw[hx]at h;have e:n=c:=jC_ h;rw[<-e];exact ra _
    |false=>rw[hx]at h;exact xg_ (hb x c h)
  ·rw[if_neg hk]at e1 e2;exact Q0 r n acc hi hb x y c e1 e2
def NA:∀(names:List (Str×NameKind)) (n:Nat) (acc:List (Str×Addr)) (x:Str),(∀p∈names,p.1=x->p.2 ≠ .cell)->(cellsFrom n names acc).lookup x=acc.lookup x
 |[],_,_,_,_=>rfl
 | (y,k)::r,n,acc,x,h=>by
  unfold cellsFrom;by_cases hk:(k == .cell)=true
  ·rw[if_pos hk,NA r _ _ x fun p hp=>h p (jA_ _ hp),qk_];cases hx:x==y with
   |true=>exact absurd (we_.mp hk) (h (y,k) jL_ (we_.mp hx).symm)
   |false=>rfl
  ·rw[if_neg hk];exact NA r n acc x fun p hp=>h p (jA_ _ hp)
def Mz {globals:Addr}
  (hQ:Q {scope:=sc,locals:=s.heap.objs.size,globals,cells:=cellsFrom (s.heap.objs.size+1) sc.names cl,qual,func:=none,code:=outer.code,frame:=outer.frame,builtins:=outer.builtins} {s with heap:=pushCells (s.heap.push {cls:=.type "dict",data:=.dict #[]}) sc.names}):
  wpAny M A (newFunctionEnv sc globals cl [] qual none .none (some outer)) Q E s:=by
 simp only[newFunctionEnv,qC,wi_];refine je_ (wpAny_alloc (je_ (wpAny_layCells _ (fun name kind cells=>by cases hkc:kind==NameKind.cell<;>simp[hkc]) _ _ _ _ ?_)));rw[show ({s with heap:=s.heap.push {cls:=.type "dict",data:=.dict #[]} }:Shared).heap.objs.size=s.heap.objs.size+1 from qO_ ..];refine je_ ?_;rw[rG];exact jq_ (jq_ hQ)
noncomputable abbrev ownC (X:Cx)(sc:Scope)(C:Addr):List (Str×Addr):=cellsFrom (C+1) sc.names (clOf X.env sc.names [])
noncomputable abbrev Cx.blkC (X:Cx)(N:List Str)(sc:Scope)(C:Addr)(s₀:Shared)(H₀:Hp)(ex:List Addr):Cx:=
 {X with N:=N,env:=compEnvC sc (ownC X sc C) C X.env,outer:=X.stack,s₀:=s₀,H₀:=H₀,ex:=ex,fn:=fun x=>sc.names.lookup x==some .cell,pn:=[],xe:=fun _ _=>False}
def Jo {env:Env}:∀(l:List (Str×NameKind)) (acc:List (Str×Addr)) (x:Str) (c:Addr),(x,c)∈clOf env l acc->(x,NameKind.free)∈l\/(x,c)∈acc
 |[],_,_,_,h=>.inr h
 | (n,k)::r,acc,x,c,h=>by
  unfold clOf at h;by_cases hk:(k == .free)=true
  ·rw[if_pos hk]at h;rcases Jo r _ x c h with q|q
   ·exact .inl (jA_ _ q)
   ·rcases jE_.mp q with q|q
    ·cases q;rw[we_.mp hk];exact .inl jL_
    ·exact .inr q
  ·rw[if_neg hk]at h;rcases Jo r _ x c h with q|q
   ·exact .inl (jA_ _ q)
   ·exact .inr q
structure BlkScC (X:Cx)(sc:Scope):Prop where
 kind:sc.kind=.function
 one:∀y∈sc.names,∀z∈sc.names,y.1=z.1->y.2=z.2
 loc:∀y∈sc.names,y.2=.local->sc.names.lookup y.1=some .local
 free:∀y∈sc.names,y.2=.free->X.env.kindOf y.1=some .cell\/X.env.kindOf y.1=some .free
section
variable {X:Cx} {aa:α7} {σ:St} {H:Hp} {s:Shared} {sc:Scope} {fp:List Addr}
def Hf (I:Inv X aa σ H s)(S:BlkScC X sc):∀p∈sc.names,p.2=.free->∃c,X.env.cells.lookup p.1=some c:=fun p hp e=>I.ok.has p.1 (S.free p hp e)
def Dv (I:Inv X aa σ H s)(S:BlkScC X sc) (h:(clOf X.env sc.names []).lookup x=some c):X.env.cells.lookup x=some c:=
 Lh sc.names [] (Hf I S) (fun q hq=>by cases hq) (x,c) (qF_ h)
def Hg (I:Inv X aa σ H s)(S:BlkScC X sc) (h:(ownC X sc C).lookup x=some c):C+1<=c\/X.env.cells.lookup x=some c:=by
 rcases IW _ _ _ _ _ h with q|q
 ·exact .inl q
 ·exact .inr (Dv I S q)
def Dx {env:Env}:∀{names:List (Str×NameKind)} {x:Str} {k:NameKind},(names.map (relF env)).lookup x=some k->(k=.cell\/k=.free)->(x,NameKind.free)∈names\/names.lookup x=some .cell
 |[],_,_,h,_=>by simp at h
 | (n,k')::r,x,k,h,hk=>by
  have ih := @Dx env r x k;rw[j6_]at h;rw[qk_];by_cases hb:(k'==NameKind.free&&env.scope.kind == .function&&env.kindOf n==some .cell)=true
  ·rw[Li hb,qk_]at h;cases hx:x==n with
   |true=>
    have e:x=n:=by simpa using hx
    subst e;have e2:k'=.free:=by
     simp only[qo_]at hb;simpa using hb.1.1
    subst e2;exact .inl jL_
   |false=>
    rw[hx]at h;rcases ih h hk with q|q
    ·exact .inl (jA_ _ q)
    ·exact .inr q
  ·rw[Nu hb,qk_]at h;cases hx:x==n with
   |true=>
    rw[hx]at h;have e:x=n:=by simpa using hx
    subst e;have e2:k'=k:=jC_ h;subst e2;rcases hk with rfl|rfl
    ·exact .inr rfl
    ·exact .inl jL_
   |false=>
    rw[hx]at h;rcases ih h hk with q|q
    ·exact .inl (jA_ _ q)
    ·exact .inr q
def Vn {N:List Str}{C:Addr}(I:Inv X aa σ H s)(S:BlkScC X sc)(hC:s.heap.objs.size<=C)(hf:∀b∈fp,FpOk X aa H b)(ho:∀b∈fp,∃o,s.heap.get? b=some o):(X.blkC N sc C s H fp).Ok where
 mod:=I.ok.mod
 kind:=S.kind
 glob:=I.ok.glob
 blt:=I.ok.blt
 above:=hC
 inj:=fun x y c h1 h2=>by
  refine Q0 sc.names (C+1) (clOf X.env sc.names []) (fun x y c h1 h2=>I.ok.inj x y c (Dv I S h1) (Dv I S h2)) (fun x c h=>?_) x y c h1 h2;obtain⟨v,q⟩:=I.cell x c (Dv I S h);exact xg_ (jK_ q.lt hC)
 has:=fun x hx=>by
  have df:(x,NameKind.free)∈sc.names\/sc.names.lookup x=some .cell:=by
   rcases hx with hx|hx
   ·exact Dx (env:=X.env) hx (.inl rfl)
   ·exact Dx (env:=X.env) hx (.inr rfl)
  refine qD_.mp (zq_ sc.names (C+1) (clOf X.env sc.names []) ?_);rcases df with q|q
  ·obtain⟨c,hc⟩:=IT (env:=X.env) sc.names [] x (.inl q);obtain⟨c',e⟩:=BI hc;exact .inr (by rw[e];rfl)
  ·exact .inl q
 cab:=fun x c h e=>by
  have hx:sc.names.lookup x=some .cell:=by simpa using h
  rcases IW _ _ _ _ _ e with q|q
  ·exact jY_ hC (xy_ q)
  ·rcases Jo _ _ _ _ (qF_ q) with z|z
   ·have:=S.one _ (qF_ hx) _ z rfl;cases this
   ·cases z
 hd:=I.ok.hd
 frames:=I.ok.frames
 stk:=.inl rfl
 exf:=fun b hb=>by
  obtain⟨o,ho⟩:=ho b hb;refine⟨jP_ (jK_ (ju_ ho) hC),fun x c h=>?_⟩;rcases Hg I S h with q|q
  ·intro z;rw[z]at q;exact absurd (jK_ (ju_ ho) hC) (rb (xy_ q))
  ·exact (hf b hb).2.2.2.2.1 x c q
 bs:=I.bs
 bsz:=jY_ I.ok.bsz I.sz
 noex:=fun b o e hb=>by
  rcases (hf b hb).2.2.2.1 with z|z
  ·exact I.ok.noex b o e z
  ·exact absurd (jK_ (ju_ (I.ok.bs b o e).1) z) (j9_ _)
 exfs:=fun b hb z=>by
  rcases jE_.mp (I.stkSub b z) with e|e
  ·exact (hf b hb).2.1 e
  ·exact (hf b hb).2.2.1 e
 funs:=I.stack
 frf:=I.stkFree
def O3 {c:Caps}{C:Addr}{s4:Shared}{m:Str->α5}(I:Inv X aa σ H s)(S:BlkScC X sc)(hc:Ei X.N sc c)(hC:s.heap.objs.size<=C)(hf:∀b∈fp,FpOk X aa H b)(ho:∀b∈fp,∃o,s.heap.get? b=some o)
  (fS:s4.os=s.os) (hb:s4.gens=s.gens) (hk:∀b o,s.heap.get? b=some o->s4.heap.get? b=some o) (hn:s4.heap.Ns C m)
  (aY:∀x c,(ownC X sc C).lookup x=some c->(s4.heap.IsCell c none/\C+1<=c)\/(clOf X.env sc.names []).lookup x=some c):Inv (X.blkC c.names sc C s H fp) [] (c.st σ) H s4 where
 ok:=Vn I S hC hf ho
 os:=fS
 bare:=by rw[hb];exact I.bare
 base:=Un.kept hk
 loc:=by
  refine⟨m,hn,fun i x v h1 h2 hv=>?_⟩;have jZ:(c.map (·.1))[i]?=some x:=h1;have dO:(c.map fun p=>p.2.bind fun j=>(σ[j]?).join)[i]?=some (some v):=h2;rw[jf_]at jZ dO;cases e:c[i]? with
  |none=>rw[e]at jZ;cases jZ
  |some p=>
   obtain⟨y,oj⟩:=p;rw[e]at jZ dO;have e1:y=x:=jC_ jZ;subst e1;have e2:(oj.bind fun j=>(σ[j]?).join)=some v:=jC_ dO;cases oj with
   |none=>cases e2
   |some j=>
    have e3:(σ[j]?).join=some v:=e2;have e4:σ[j]?=some (some v):=by
     cases q:σ[j]? with
     |none=>rw[q]at e3;cases e3
     |some z=>rw[q]at e3;exact xd_ some e3
    obtain⟨k1,k2⟩:=Ei.get hc e;have iC:=qF_ k2;have k3:X.env.kindOf y=some .cell\/X.env.kindOf y=some .free:=S.free (y,.free) iC rfl;have mz:Vis X.env.scope y:=by
     rcases k3 with k|k
     ·exact .inr (.inl k)
     ·exact .inr (.inr k)
    obtain⟨mX,hnX,hl⟩:=I.loc;obtain⟨u,r,l⟩:=hl j y v k1 e4 mz;refine⟨u,r,?_⟩;rcases l with ⟨k,_⟩|⟨_,ca,hca,z⟩
    ·rcases k3 with k' | k'<;>(rw[k]at k';cases k')
    ·obtain⟨kd,hkd,ek⟩:=HH (env:=X.env) k2;have eg:(compEnvC sc (ownC X sc C) C X.env).kindOf y=some kd:=ek;obtain⟨c',d8⟩:=IT (env:=X.env) sc.names [] y (.inl iC);obtain⟨c2,dH⟩:=BI d8;have e5:=Dv I S dH;rw[hca]at e5;have e6:ca=c2:=jC_ e5;subst e6;have e7:(ownC X sc C).lookup y=some ca:=by
      rw[NA sc.names (C+1) _ y fun p hp ep z=>?_]
      ·exact dH
      ·have:=S.one p hp (y,.free) iC ep;rw[z]at this;cases this
     refine .inr ⟨?_,ca,e7,?_⟩
     ·rcases hkd with rfl|rfl
      ·exact .inl eg
      ·exact .inr eg
     ·obtain⟨oc,d9,hd⟩:=z;exact⟨oc,hk _ _ d9,hd⟩
 cell:=fun x ca h=>by
  rcases aY x ca h with ⟨q,_⟩|q
  ·exact⟨_,q⟩
  ·obtain⟨v,oc,d9,hd⟩:=I.cell x ca (Dv I S q);exact⟨v,oc,hk _ _ d9,hd⟩
 free:=I.hok.fresh hC
 freeC:=fun x ca h=>by
  rcases aY x ca h with ⟨_,q⟩|q
  ·exact I.hok.fresh (jY_ hC (xy_ q))
  ·exact I.freeC x ca (Dv I S q)
 pin:=fun p hp=>absurd (show p∈([]:α7) from hp) (by simp)
 hok:=I.hok.kept hk
 len:=by show (c.map _).length=(c.map _).length;rw[ja_,ja_]
def SH {c:Caps}{C D:Addr}{s':Shared}{af:St}{H':Hp}{o:HO}(I:Inv X aa σ H s)(J:Inv (X.blkC c.names sc C s H fp) [] af H' s')(hf:∀b∈fp,FpOk X aa H b)(hD:s.heap.objs.size<=D)(hn:H' D=none)
  (new:AU X.prog X.w (upd H' D o) s'.heap D o):Inv X aa σ (upd H' D o) s':=by
 have u:Un (frs X.stack) fp H H' s.heap s'.heap:=J.base;exact I.call' J.os (u.track hD hn) (J.hok.track hn new) J.bare fun b hb=>⟨(hf b hb).2.2.2.1,(hf b hb).2.1,(hf b hb).2.2.2.2.1,(hf b hb).2.2.2.2.2⟩
end
section
variable {X:Cx} {tg iter ed:Expr} {dI:List Expr} {sc:Scope} {pos:Pos} {wi:TI} {cp:Caps} {g:TG} {tc:TT} {te:TE}
def KD (hc:X.calm=true)(S:BlkScC X sc)(gL:Ei X.N sc cp)
  (hg:∀C s₀ H₀ ex,PG (X.blkC cp.names sc C s₀ H₀ ex) tg g) (hf:∀C s₀ H₀ ex,PF (X.blkC cp.names sc C s₀ H₀ ex) dI tc) (he:∀C s₀ H₀ ex,PE (X.blkC cp.names sc C s₀ H₀ ex) ed te)
  {aa:α7} {σ:St} {H:Hp} {s:Shared} {J:It} {it:Addr} {fp:List Addr} {tn:Nat->Heap->Prop} {Q:VK} {RR:Value->Addr->Result->Shared->Prop} {E:Value->Shared->Prop}
  (I:Inv X aa σ H s) (T:Turn X.prog X.w X.K tg J fp it tn) (st:tn 0 s.heap) (jj:∀b∈fp,FpOk X aa H b)
  (hw:∃W:Nat->Nat->List V->St->Hp->Prop,(∃m,W 0 m [] (cp.st σ) H)/\∀i m ys af H',W i m ys af H' ->
   ys.length<sizeLine/\((J.stop i H'/\∀D,H' D=none->Q (.ref D) (upd H' D (.lst ys)))\/(J.go i H'/\∃N:List V->St->Hp->Prop,(∀zs ag H2,N zs ag H2->∃m',m'<m/\W (i+1) m' zs ag H2)/\∀x H2,J.yld i H' x H2->g x af H2 fun ag H3=>tc ag H3 fun b H4=>
    if b=true then te ag H4 fun v H5=>N (ys++[v]) ag H5 else N ys ag H4)))
  (hR:∀D C s' H' (m:Str->α5),Inv X aa σ H' s'->Q (.ref D) H'->s'.heap.Ns C m->H' C=none->C≠X.env.locals->X.s₀.heap.objs.size<=C->(∀x c,X.env.cells.lookup x=some c->c≠C)->(∀p∈X.pn++aa,p.1≠C)->RR (.ref D) C (.ok .next) s'):
  wpAny (model X.prog X.w) X.A (newList []) (fun acc bO=>wpAny (model X.prog X.w) X.A (newFunctionEnv sc X.env.globals (clOf X.env sc.names []) [] X.env.qual none .none (some X.env)) (fun cenv s₄=>
   codeAny (model X.prog X.w) X.A (.compStart (.ListComp ed [⟨tg,iter,dI,0⟩] sc pos) 0 (.ref it) acc {cenv with scope:=relabel sc X.env}) (RR acc cenv.locals) s₄) E bO) E s:=by
 obtain⟨W,⟨m0,w0⟩,cX⟩:=hw;refine qK_ (Mz ?_);dsimp only;generalize mP:s.heap.push {cls:=.type "list",dict:=none,data:=.seq ([]:List Value).toArray}=H2;obtain⟨h₁,dw⟩:∃h₁,h₁=pushCells (H2.push {cls:=.type "dict",data:=.dict #[]}) sc.names:=⟨_,rfl⟩;rw[<-dw];have hcells:∀x c,(ownC X sc H2.objs.size).lookup x=some c->(h₁.IsCell c none/\H2.objs.size+1<=c)\/(clOf X.env sc.names []).lookup x=some c:=fun x c e=>by
  have:=Nz sc.names (H2.push {cls:=.type "dict",data:=.dict #[]}) (clOf X.env sc.names []) x c (by rw[qO_];exact e);rw[qO_]at this;rw[dw];exact this
 have hns₁:h₁.Ns H2.objs.size (fun _=>none):=by rw[dw];exact (Heap.Ns.new H2 (.type "dict")).keeps (pushCells_keeps _ _)
 have keep₁:∀b o,H2.get? b=some o->h₁.get? b=some o:=fun b o e=>by rw[dw];exact pushCells_keeps _ _ b o (jk_ _ e)
 have hC:H2.objs.size=s.heap.objs.size+1:=by rw[<-mP,qO_]
 have mQ:s.heap.objs.size≠H2.objs.size:=by rw[hC];exact jP_ (ra _)
 have dh:s.heap.objs.size<=H2.objs.size:=by rw[hC];exact tO _
 have below:∀b,b<s.heap.objs.size->b≠H2.objs.size:=fun b hb=>by rw[hC];exact jP_ (xg_ hb)
 have old:∀b o,s.heap.get? b=some o->h₁.get? b=some o:=fun b o e=>keep₁ b o (mP ▸ jk_ _ e);have b9:h₁.get? s.heap.objs.size=some {cls:=.type "list",data:=.seq ([]:List Value).toArray 0}:=keep₁ _ _ (mP ▸ jv_ _ rfl);have hst₁:tn 0 h₁:=T.keep 0 _ _ st fun b _ o e=>old b o e;have cC:∀b∈fp,∃o,s.heap.get? b=some o:=fun b hb=>let ⟨o,e,_⟩:=T.obj 0 _ st b hb;⟨o,e⟩;have J0:Inv (X.blkC cp.names sc H2.objs.size s H fp) [] (cp.st σ) H {s with heap:=h₁}:=O3 I S gL dh jj cC rfl rfl old hns₁ hcells;have jh:∀b,s.heap.objs.size<=b->b∉frs X.stack:=fun b hb z=>by
  rcases jE_.mp (I.stkSub b z) with e|e
  ·exact absurd (jK_ I.lt (by rw[<-e];exact hb)) (j9_ _)
  ·exact I.nofs hb e
 have ncell:∀b,s.heap.objs.size<=b->∀x c,X.env.cells.lookup x=some c->c≠b:=fun b hb x c e z=>by
  obtain⟨v,q⟩:=I.cell x c e;exact absurd (jK_ q.lt (by rw[z];exact hb)) (j9_ _)
 have fpb:∀{ay:α7} {H':Hp},(∀b∈fp,H' b=none)->(∀p∈ay,p.1∉fp)->∀b∈fp,FpOk (X.blkC cp.names sc H2.objs.size s H fp) ay H' b:=fun {ay H'} hn hp b hb=>by
  obtain⟨o,e⟩:=cC b hb;refine⟨hn b hb,below b (ju_ e),fun z=>?_,.inl hb,fun x c h=>(by
   rcases Hg I S h with q|q
   ·intro z;rw[z]at q;exact absurd (ju_ e) (rb (jY_ dh (xy_ q)))
   ·exact (jj b hb).2.2.2.2.1 x c q),fun p mR z=>?_⟩
  ·rcases jE_.mp (I.stkSub b z) with e|e
   ·exact (jj b hb).2.1 e
   ·exact (jj b hb).2.2.1 e
  ·have hp'':p∈ay:=by simpa using mR
   exact hp p hp'' (by rw[z];exact hb)
 have loop:∀bO:Shared,bO={s with heap:=h₁} ->
   codeAny (model X.prog X.w) X.A (.compLoop (.ListComp ed [⟨tg,iter,dI,0⟩] sc pos) 0 (.ref it) (.ref s.heap.objs.size) (compEnvC sc (ownC X sc H2.objs.size) H2.objs.size X.env))
    (RR (.ref s.heap.objs.size) H2.objs.size) bO:=by
  rintro bO rfl;refine Mq (fun n s'=>∃i af H' ys its k,Inv (X.blkC cp.names sc H2.objs.size s H fp) [] af H' s'/\tn i s'.heap/\(∀b∈fp,H' b=none)/\H' s.heap.objs.size=none /\
   s'.heap.get? s.heap.objs.size=some {cls:=.type "list",data:=.seq its.toArray k}/\Vals ys its/\W i n ys af H') ?_ m0
   ⟨0,_,H,[],[],0,J0,hst₁,fun b hb=>(jj b hb).1,I.hok.fresh (jh_ _),b9,.nil,w0⟩
  rintro n s3 ⟨i,aJ,H3,ys,its,k,I3,jS,kU,jk,e3,rv,w3⟩;obtain⟨hz,tr⟩:=cX i n ys aJ H3 w3;have ah:=rv.length
  -- dE accumulator stands still while anything else runs
  have dpin:∀p ∈ [(s.heap.objs.size,({cls:=.type "list",data:=.seq its.toArray k}:Obj))],p.1∉fp:=fun p hp z=>by
   have e:p=_:=jn_.mp hp;subst e;obtain⟨o,e⟩:=cC _ z;exact absurd (ju_ e) (j9_ _)
  have I3':Inv (X.blkC cp.names sc H2.objs.size s H fp) [(s.heap.objs.size,({cls:=.type "list",data:=.seq its.toArray k}:Obj))] aJ H3 s3:=I3.pins_of fun p hp=>by
   have e:p=_:=jn_.mp hp;subst e;exact⟨e3,jk,mQ,jh _ (jh_ _),fun v z=>by cases z⟩
  have dF:∀b∈fp,FpOk (X.blkC cp.names sc H2.objs.size s H fp) [(s.heap.objs.size,({cls:=.type "list",data:=.seq its.toArray k}:Obj))] H3 b:=fpb kU dpin;rcases tr with ⟨stop,qn⟩|⟨go,N,hN,step⟩
  ·refine thn (T.done (X.blkC cp.names sc H2.objs.size s H fp) rfl rfl rfl hc i _ s3 aJ H3 _ I3' dF jS stop) fun r s4 ⟨hr,I4⟩=>?_;subst hr;obtain⟨e4,n4,_⟩:=I4.pin (s.heap.objs.size,({cls:=.type "list",data:=.seq its.toArray k}:Obj)) (by simp);have new:AU X.prog X.w (upd H3 s.heap.objs.size (.lst ys)) s4.heap s.heap.objs.size (.lst ys):=⟨pL hz,its,k,rv,e4⟩;obtain⟨mC,hnC,_⟩:=I4.loc;have I4':Inv (X.blkC cp.names sc H2.objs.size s H fp) [] aJ H3 s4:=I4.pins_of fun p hp=>by cases hp
   have I5:=SH I I4' jj (jh_ _) n4 new;refine hR _ _ s4 _ mC I5 (qn _ n4) hnC ?_ (xB_ (jK_ I.lt dh)) (jY_ I.sz dh) (ncell _ dh) fun p hp z=>?_
   ·rw[Au (q3_ mQ)];exact I4.free
   ·exact absurd (jK_ (ju_ (I.pin p hp).1) (by rw[z];exact dh)) (j9_ _)
  ·refine thn (T.item (X.blkC cp.names sc H2.objs.size s H fp) rfl rfl rfl hc i _ s3 aJ H3 _ I3' dF jS go) fun r s4 ⟨u,hr,h4⟩=>?_;subst hr;refine thn h4 fun _ s5 ⟨x,H5,I5,r5,y5,gG,mB⟩=>?_;have mD:=I5.pinned (fpb mB dpin) (T.obj _ _ gG);have aN:∀{dt:St} {H7:Hp} {s7:Shared},Inv (X.blkC cp.names sc H2.objs.size s H fp) ([(s.heap.objs.size,({cls:=.type "list",data:=.seq its.toArray k}:Obj))]++Me fp s5.heap) dt H7 s7 ->
     s7.heap.get? s.heap.objs.size=some {cls:=.type "list",data:=.seq its.toArray k}/\H7 s.heap.objs.size=none/\(∀b∈fp,H7 b=none)/\∀b∈fp,∀o,s5.heap.get? b=some o->s7.heap.get? b=some o:=fun {dt H7 s7} I7=>by
    obtain⟨e7,n7,_⟩:=I7.pin (s.heap.objs.size,({cls:=.type "list",data:=.seq its.toArray k}:Obj)) (by simp);refine⟨e7,n7,fun b hb=>?_,fun b hb o e=>?_⟩
    ·obtain⟨o,e,_⟩:=T.obj _ _ gG b hb;exact (I7.pin (b,o) (jV_ _ (jV_ _ (E3 hb e)))).2.1
    ·exact (I7.pin (b,o) (jV_ _ (jV_ _ (E3 hb e)))).1
   refine q9_ (hg _ _ _ _ _ s5 aJ H5 x u _ mD r5 (step x H5 y5)) (fun _ s6 ⟨gH,H6,I6,q6⟩=>?_) fun _ _ z=>pd z;refine q9_ (hf _ _ _ _ _ s6 gH H6 _ I6 q6) (fun ok s7 ⟨H7,I7,q7⟩=>?_) fun _ _ z=>pd z;cases ok with
   |false=>
    rw[if_neg jx_];rw[if_neg jx_]at q7;obtain⟨m',hm,w7⟩:=hN _ _ _ q7;obtain⟨e7,n7,fr7,k7⟩:=aN I7;exact⟨m',hm,i+1,gH,H7,ys,its,k,I7.pins_of (fun p hp=>by cases hp),T.keep _ _ _ gG k7,fr7,n7,e7,rv,w7⟩
   |true=>
    rw[if_pos rfl];rw[if_pos rfl]at q7;refine q9_ (he _ _ _ _ _ s7 gH H7 _ I7 q7) (fun v s8 ⟨y,H8,I8,r8,q8⟩=>?_) fun _ _ z=>pd z;obtain⟨m',hm,w8⟩:=hN _ _ _ q8;obtain⟨e8,n8,fr8,k8⟩:=aN I8;refine wc_ F.slot_list_append ⟨_,e8,rfl⟩ F.entry_list_append (F.args_list_append_2 _ _) (qK s.heap.objs.size its.toArray k v (by rw[jl_];lia)) ⟨e8,?_⟩;obtain⟨k',q⟩:∃k',(s8.heap.update s.heap.objs.size (Obj.mapSeq fun x=>x.push v)).get? s.heap.objs.size=some {cls:=.type "list",data:=.seq (its++[v]).toArray k' }:=⟨_,by
     have q:=PySem.IsL.update e8 fun x=>x.push v;have e:(its++[v]).toArray=its.toArray.push v:=by simp
     rw[e];exact q⟩
    have I8':Inv (X.blkC cp.names sc H2.objs.size s H fp) [] gH H8 s8:=I8.pins_of fun p hp=>by cases hp
    have I9:Inv (X.blkC cp.names sc H2.objs.size s H fp) [] gH H8 {s8 with heap:=s8.heap.update s.heap.objs.size (Obj.mapSeq fun x=>x.push v),toks:=s8.toks}:=
     I8'.turned (it:=s.heap.objs.size) (fun b o hb e=>(qB_ _ _ (q3_ hb)).trans e) n8 mQ (.inr (jh_ _)) (fun x c e=>by
      rcases Hg I S e with q|q
      ·intro z;rw[z]at q;exact absurd (jY_ q dh) (Nat.not_succ_le_self _)
      ·exact ncell _ (jh_ _) x c q) (fun p hp=>by cases hp)
    refine⟨m',hm,i+1,gH,H8,ys++[y],its++[v],k',I9,T.keep (i+1) s5.heap _ gG (fun b hb o e=>?_),fr8,n8,q,rv.append (.cons r8 .nil),w8⟩
    ·refine (qB_ _ _ ?_).trans (k8 b hb o e);intro z;obtain⟨ob,eb⟩:=cC b hb;exact absurd (ju_ eb) (by rw[<-z];exact j9_ _)
 exact codeAny_compStart_list (loop _ rfl) (T.self _ 0 _ _ _ hst₁ (loop _ rfl))
def AA (hc:X.calm=true)(S:BlkScC X sc)(gL:Ei X.N sc cp)(hi:PI X tg iter wi)
  (hg:∀C s₀ H₀ ex,PG (X.blkC cp.names sc C s₀ H₀ ex) tg g) (hf:∀C s₀ H₀ ex,PF (X.blkC cp.names sc C s₀ H₀ ex) dI tc) (he:∀C s₀ H₀ ex,PE (X.blkC cp.names sc C s₀ H₀ ex) ed te)
  (hs:∀x,foldedSetIterable iter X.env x=pure x:=by intro _;rfl):PE X (.ListComp ed [⟨tg,iter,dI,0⟩] sc pos) (Vh wi cp g tc te):=by
 intro aa s σ H Q I h;rw[eval_ListComp];refine wpAny_comprehension_free (use:=none) rfl hs (KA (Hf I S)) S.kind S.loc (thn (hi aa s σ H _ I h) fun xv s₁ h₁=>thn h₁ fun kT bo cZ=>?_);obtain⟨it,fp,tn,J,H2,e,I2,T,jR,f2,hw⟩:=cZ;subst e;refine KD (RR:=fun acc C=>compPost (model X.prog X.w) X.A X.xe none (EP X aa σ Q) acc C) hc S gL hg hf he I2 T jR f2 hw ?_;intro D C s' H' m I' q hn hC hL hz aY hp;exact⟨m,hn,fun h' fG=>⟨.ref D,H',I'.turned (t':=s'.toks) (it:=C) (fun b o hb e=>fG.extBut b o hb e) hC hL (.inr hz) aY hp,rfl,q⟩⟩
def BJ (hN:X.N.Nodup)(hi:X.N[i]?=some x)(hx:X.env.scope.names.lookup x=some .local)(hc:X.calm=true)(S:BlkScC X sc)(gL:Ei X.N sc cp)(aq:PI X tg iter wi)
  (hg:∀C s₀ H₀ ex,PG (X.blkC cp.names sc C s₀ H₀ ex) tg g) (hf:∀C s₀ H₀ ex,PF (X.blkC cp.names sc C s₀ H₀ ex) dI tc) (he:∀C s₀ H₀ ex,PE (X.blkC cp.names sc C s₀ H₀ ex) ed te)
  (hsw:swapsWith (.ListComp ed [⟨tg,iter,dI,0⟩] sc pos) (some (.Name x px)) spos.line X.env=pure true:=by rfl)
  (hs:∀x,foldedSetIterable iter X.env x=pure x:=by intro _;rfl):PS X (.Assign [.Name x px] (.ListComp ed [⟨tg,iter,dI,0⟩] sc pos) spos) (tAsg (Vh wi cp g tc te) (G8 i)):=by
 intro aa s σ H D I h;rw[exec_Assign_Name_used _ _ _ _ hsw];refine je_ (wpAny_standAt (je_ ?_));show wpAny _ X.A (do let _ <- comprehension (.ListComp ed [⟨tg,iter,dI,0⟩] sc pos) sc X.env _ (newList []) false (eval iter X.env) (some (assign (.Name x px) X.env))) _ _ s;refine je_ (q9_ (wpAny_comprehension_free (use:=some (assign (.Name x px) X.env)) (Q:=fun _ s'=>SP X aa D .next s') rfl hs (KA (Hf I S)) S.kind S.loc
  (thn (aq aa s σ H _ I h) fun xv s₁ h₁=>thn h₁ fun kT bo cZ=>?_)) (fun _ s' hq=>jq_ (jq_ hq)) fun _ _ e=>e)
 obtain⟨it,fp,tn,J,H2,e,I2,T,jR,f2,hw⟩:=cZ;subst e;refine KD (RR:=fun acc C=>compPost (model X.prog X.w) X.A X.xe (some (assign (.Name x px) X.env)) (fun _ s'=>SP X aa D .next s') acc C) (Q:=fun v H1=>G8 i v σ H1 D.nx) hc S gL hg hf he I2 T jR f2 hw ?_;intro Dl C s' H' m I' q hn hC hL hz aY hp;show wpAny _ X.A (assign (.Name x px) X.env (.ref Dl)) _ _ _;refine wpAny_assign_Name (Mb I' hN hi (.inl hx) (v:=.ref Dl) rfl (fun ik I'' ⟨a,hsb,ha⟩=>?_) (.inr hx));have aw:C≠a:=by
  rcases ha with rfl|ha
  ·exact hL
  ·exact fun z=>aY _ _ ha z.symm
 refine⟨m,hn.sameBut hsb aw,fun h' fG=>⟨_,H',I''.turned (t':=ik.toks) (it:=C) (fun b o hb e=>fG.extBut b o hb e) hC hL (.inr hz) aY hp,q⟩⟩
end
noncomputable def Ux (outer:List (Str×NameKind))(sc:Scope):Bool:=
 sc.kind == .function&&sc.names.all (fun y=>(y.2 != .local||sc.names.lookup y.1==some .local)&&(y.2 != .free||outer.lookup y.1==some .cell||outer.lookup y.1==some .free)&&sc.names.all fun z=>y.1 != z.1||y.2==z.2)
def Ay (h:Ux X.env.scope.names sc=true):BlkScC X sc:=by
 unfold Ux at h;rw[qo_,qP_]at h;obtain⟨h1,h2⟩:=h;refine⟨by simpa using h1,fun y hy z hz e=>?_,fun y hy z=>?_,fun y hy z=>?_⟩
 ·have:=h2 y hy;simp only[qo_,qP_]at this;have:=this.2 z hz;rw[e]at this;simpa using this
 ·have:=h2 y hy;simp only[qo_]at this;have:=this.1.1;rw[z]at this;simpa using this
 ·have:=h2 y hy;simp only[qo_]at this;have:=this.1.2;rw[z]at this;have t:(X.env.scope.names.lookup y.1==some .cell||X.env.scope.names.lookup y.1==some .free)=true:=by simpa using this
  rw[Bool.or_eq_true]at t;rcases t with t|t
  ·exact .inl (by show X.env.scope.names.lookup y.1=some .cell;simpa using t)
  ·exact .inr (by show X.env.scope.names.lookup y.1=some .free;simpa using t)
end L2
namespace L2
open PySem PySem.Spec PyProof.Rows GW
noncomputable def Aq (K:α3)(H:Hp)(xs:List V)(ws:α1):Prop:=xs.length=ws.length/\∀(i:Nat) (w:α2),ws[i]?=some w->∃t,xs[i]?=some (.ref t)/\H t=some (.tup (w.map V.int))
def Aq.nil {K:α3} : Aq K H [] []:=⟨rfl,fun i w h=>by simp at h⟩
def Aq.mono {K:α3} (h:Aq K H xs ws)(k:TK H H'):Aq K H' xs ws:=by
 refine⟨h.1,fun i w hw=>?_⟩;obtain⟨t,a,b⟩:=h.2 i w hw;exact⟨t,a,k _ _ b⟩
def Aq.snoc {K:α3} (h:Aq K H xs ws) (ht:H t=some (.tup (w.map V.int))):Aq K H (xs++[.ref t]) (ws++[w]):=by
 refine⟨by rw[ji_,ji_,h.1];rfl,fun i v hi=>?_⟩;by_cases aQ:i<ws.length
 ·rw[jm_ aQ]at hi;rw[jm_ (by rw[h.1];exact aQ)];exact h.2 i v hi
 ·have:=(jd_.mp hi).1;rw[ji_,jG_]at this;have ei:i=ws.length:=by lia
  subst ei;rw[jp_ (jh_ _),qq_]at hi;simp at hi;subst hi;refine⟨t,?_,ht⟩;rw[jp_ (by rw[h.1];exact jh_ _),h.1,qq_];rfl
def Aq.at {K:α3}{H:Hp}{xs:List V}{ws:α1}(h:Aq K H xs ws){i:Nat}{x:V}(hx:xs[i]?=some x):∃t w,ws[i]?=some w/\x=.ref t/\H t=some (.tup (w.map V.int)):=by
 have hi:i<ws.length:=by rw[<-h.1];exact (jd_.mp hx).1
 obtain⟨t,a,b⟩:=h.2 i ws[i] (by simp[hi]);rw[hx]at a;exact⟨t,ws[i],by simp[hi],jC_ a,b⟩
noncomputable def rInW (K:α3)(iq:Bool):R2:=fun x y H Q=>∃p t xs w ws,y=.ref p/\x=.ref t/\SqL K H p xs/\Aq K H xs ws/\SqT K H t (w.map V.int)/\Q (.bl (if iq then !decide (w∈ws) else decide (w∈ws))) H
theorem Xp {K:α3} : rInW K iq x y H Q=∃p t xs w ws,y=.ref p/\x=.ref t/\SqL K H p xs/\Aq K H xs ws/\SqT K H t (w.map V.int)/\Q (.bl (if iq then !decide (w∈ws) else decide (w∈ws))) H:=rfl
def SI (hu:X.A.units+8<cLine)(I:Inv X aa σ H s)(hp:SqL X.K H p xs)(hw:Aq X.K H xs ws)(ht:SqT X.K H t (w.map V.int)):
  ∃(its:Array Value) (e:Value->Bool),s.heap.IsList p its/\(∀y,y∈its->SeqAt.EqAt X.A.in1 s y (.ref t) (e y))/\its.any e=decide (w∈ws):=by
 obtain⟨its,r,pl,_⟩:=I.list hp;have hl:=r.length
 let e:Value->Bool:=fun y => @decide (∃(i:Nat) (a:Addr),y=.ref a/\xs[i]?=some (.ref a)/\ws[i]?=some w) (oZ _)
 have ee:∀(i:Nat) (a:Addr) (v:α2),xs[i]?=some (.ref a)->ws[i]?=some v->e (.ref a)=decide (v=w):=fun i a v hx hv=>by
  obtain⟨a',a1,a2⟩:=hw.2 i v hv;rw[hx]at a1;cases a1;rw[qx_];show @decide _ (oZ _)=true↔_;rw[@decide_eq_true_iff _ (oZ _),j5_];constructor
  ·rintro⟨j,b,hb,jl,mS⟩;cases hb;obtain⟨b',b1,b2⟩:=hw.2 j w mS;rw[jl]at b1;cases b1;rw[a2]at b2;have:=jC_ b2;injection this with this;exact (zn_ (fun x y z=>V.int.inj z)).mp this
  ·rintro rfl;exact⟨i,a,rfl,hx,hv⟩
 refine⟨its.toArray,e,pl.isList,fun y hy=>?_,?_⟩
 ·have iE:y∈its:=by simpa using hy
  obtain⟨i,hi,ei⟩:=qS_ iE;have eh:i<xs.length:=by lia
  obtain⟨u,br,ru⟩:=r.get (i:=i) (x:=xs[i]) (by simp[eh]);rw[jb_ hi,ei]at br;cases br;obtain⟨a,v,e1,e2,e3⟩:=hw.at (i:=i) (x:=xs[i]) (by simp[eh]);rw[e2]at ru;cases ru;rw[ee i a v (by rw[jb_ eh,e2]) e1];exact (EqD.at (x:=V.ref a) (y:=V.ref t) I 2 X.A.in1 (by rw[in1_units];lia) rfl rfl (EqD.ints (xs:=v) (ys:=w) (.inr ⟨SqT.of e3,ht⟩) 1)).1
 ·rw[qx_,j5_];rw[show its.toArray.any e=its.any e by simp,q1_];constructor
  ·rintro⟨y,hy,ka⟩;obtain⟨j,b,_,_,mS⟩:=(@decide_eq_true_iff _ (oZ _)).mp ka;exact jj_ mS
  ·intro hm;obtain⟨i,hi,ei⟩:=qS_ hm;obtain⟨a,a1,a2⟩:=hw.2 i w (by rw[jb_ hi,ei]);obtain⟨u,br,ru⟩:=r.get a1;cases ru;refine⟨.ref a,jj_ br,?_⟩;rw[ee i a w a1 (by rw[jb_ hi,ei])];simp
def Q1 (hu:X.A.units+8<cLine):OpR X (compareOp .NotIn) (rInW X.K true):=by
 intro aa s σ H x y v u Q I rx ry h;obtain⟨p,t,xs,w,ws,rfl,rfl,hp,hw,ht,q⟩:=h;cases ry;cases rx;obtain⟨its,e,h1,h2,h3⟩:=SI hu I hp hw ht;refine SeqAt.notIn_listAt e h1 h2 ⟨.bl _,H,I,rfl,?_⟩;rw[h3];exact q
def A0.ofS {K:α3} (ha:H a=some (.tup xs))(hb:H b=some (.tup ys))(hz:xs.length+ys.length<=sizeLine)(h:∀p H',Same H H'->H' p=some (.tup (xs++ys))->Q (.ref p) H'):A0 K (.ref a) (.ref b) H Q:=by
 refine⟨a,b,xs,ys,rfl,rfl,SqT.of ha,SqT.of hb,hz,fun e=>?_,fun _ e=>?_,fun _ _ p hp=>h p _ (Same.new hp) Ab⟩
 ·subst e;exact h b H (Same.refl _) (by simpa using hb)
 ·subst e;exact h a H (Same.refl _) (by simpa using ha)
def Inv.unL (I:Inv X aa σ H s)(k:∀b o,b∉fp->s.heap.get? b=some o->h'.get? b=some o)(f:∀b∈fp,FpOk X aa H b):Un (frs X.stack) fp H H s.heap h'/\HOk X.prog X.w H h':=by
 have ne:∀b u,H b=some u->b∉fp:=fun b u q hb=>by rw[(f b hb).1]at q;cases q
 refine⟨⟨fun b o q _ _ hb=>k b o hb q,fun b o q _ _ hb=>⟨o.slots,k b o hb q⟩,fun _ _ _ n _=>n,fun b o q hb=>⟨o,k b o hb q⟩,fun _ _ q=>q,fun _ _ _ q=>q,fun b ps q=>⟨#[],by rw[q];simp⟩⟩,fun b u q=>?_⟩;refine (I.hok b u q).stay (fun c v hc qv=>?_) (fun _ q=>q) fun _ _ q=>q;have aw:c∉fp:=by
  rcases hc with rfl|hc
  ·exact ne _ _ q
  ·exact ne _ _ hc
 exact k c v aw qv
end L2
namespace GW
noncomputable def ins (s:α1)(w:α2):α1:=if w∈s then s else s++[w]
def Vo (s:α1)(w:α2):(ins s w).length<=s.length+1:=by
 unfold ins;split
 ·lia
 ·simp
def A1:∀(l s:α1),(l.foldl ins s).length<=s.length+l.length
 |[],s=>by simp
 |w::l,s=>by
  have h1:=A1 l (ins s w);have h2:=Vo s w;rw[xN_,qp_];lia
noncomputable def extW (n:Nat)(w:α2):α1:=(oW n).map fun x:Nat=>w++[(x:Int)]
noncomputable def Dy (n:Nat)(acc:α1):α1:=(acc.flatMap (extW n)).foldl ins (acc.foldl ins [])
noncomputable def Jp (ae ends:α1):α1:=(ae.flatMap fun r=>ends.map (r ++ ·)).foldl ins []
end GW
namespace L2
open PySem PySem.Spec PyProof.Rows GW
noncomputable def wkey (w:α2):List Key:=w.map pj
def BE (w:α2):(wkey w).map kV=w.map V.int:=by unfold wkey;rw[jJ_];rfl
def IX (h:wkey v=wkey w):v=w:=(zn_ (fun x y z=>Sum.inl.inj z)).mp h
noncomputable def BK (ws:α1)(kvs:List (List Key×V)):Prop:=kvs.map (·.1)=ws.map wkey
def BK.len (h:BK ws kvs):kvs.length=ws.length:=by
 have:=xd_ rn h;simpa using this
def BK.some_iff (h:BK ws kvs)(w:α2):(valV kvs (wkey w)).isSome=decide (w∈ws):=by
 rw[<-E4,qx_,j5_,q1_];constructor
 ·rintro⟨kv,bz,e⟩;have e:=qU_ e;have:wkey w∈ws.map wkey:=by rw[<-h,<-e];exact jo_.mpr ⟨kv,bz,rfl⟩
  obtain⟨q,hq,e2⟩:=jo_.mp this;exact IX e2 ▸ hq
 ·intro hw;have:wkey w∈kvs.map (·.1):=by rw[h];exact jo_.mpr ⟨w,hw,rfl⟩
  obtain⟨kv,bz,e⟩:=jo_.mp this;exact⟨kv,bz,jZ_ e⟩
def BK.put (h:BK ws kvs)(w:α2)(v:V):BK (ins ws w) (putK kvs (wkey w) v):=by
 have hs:=h.some_iff w;unfold putK ins;rw[E4,hs];by_cases hw:w∈ws
 ·rw[if_pos hw,if_pos (show decide (w∈ws)=true from jZ_ hw)];unfold BK;rw[<-h,jJ_];refine jD_ fun kv _=>?_;show (if kv.1=wkey w then (kv.1,v) else kv).1=kv.1;split<;>rfl
 ·rw[if_neg hw,if_neg (show ¬ decide (w∈ws)=true by simp[hw])];unfold BK;rw[jg_,jg_,h];rfl
def BK.nil:BK [] []:=rfl
def BK.words {K:α3} (h:BK ws kvs)(hl:rs.length=kvs.length)(hr:∀(i:Nat) (k:List Key) (v:V),kvs[i]?=some (k,v)->∃b,rs[i]?=some (V.ref b)/\H b=some (.tup (k.map kV))):Aq K H rs ws:=by
 refine⟨by rw[hl,h.len],fun i w hw=>?_⟩;have hi:i<kvs.length:=by rw[h.len];exact (jd_.mp hw).1
 have e:(kvs.map (·.1))[i]?=some (wkey w):=by rw[h,jf_,hw];rfl
 rw[jf_,jb_ hi]at e;have e:kvs[i].1=wkey w:=jC_ e;obtain⟨b,b1,b2⟩:=hr i kvs[i].1 kvs[i].2 (by simp[hi]);exact⟨b,b1,by rw[b2,e,BE]⟩
end L2
namespace PySem.W
open PySem PySem.Calls PyProof.Rows PyProof.V PySem.Spec
end PySem.W
namespace L2
open PySem PySem.Spec PyProof.Rows
def Oo (ok:HOk P w H h)(e:Rd H a (.dT kvs)):
  ∃o es ep,h.get? a=some o/\o.ExactDict/\o.data=.dict es ep/\es.size=kvs.length/\(a==sysModules)=false/\kvs.length<=sizeLine /\
   ∀(i:Nat) (k:List Key) (v:V),kvs[i]?=some (k,v)->∃b en,es[i]?=some en/\en.key=.ref b/\H b=some (.tup (k.map kV))/\RelV v en.val:=by
 obtain⟨z,y,xs,r,o,es,ep,h1,h2,h3,h4,h5⟩:=(show AU P w H h a (.dT kvs) from Ss ok e);have hl:=zi_ r;have hs:es.size=kvs.length:=by rw[<-qQ_,h4,ja_,hl]
 refine⟨o,es,ep,h1,h2,h3,hs,y,z,fun i k v hk=>?_⟩;obtain⟨q,hq,e1,e2,e3⟩:=E6 r hk;refine⟨q.2.1,entryOfKey (tupleKind (A4 P w)) q,?_,rfl,e2,e3⟩;rw[<-xQ_,h4,jf_,hq];rfl
noncomputable def ents (es:List (α2×Int)):List (List Key×V):=es.map fun e=>(wkey e.1,V.int e.2)
def Q2 (es:List (α2×Int)):BK (es.map (·.1)) (ents es):=by unfold BK ents;rw[jJ_,jJ_];rfl
def MA (h:w∉es.map (·.1)):valV (ents es) (wkey w)=none:=by
 have:=(Q2 es).some_iff w;rw[jX_ h]at this;cases q:valV (ents es) (wkey w) with
 |none=>rfl
 |some v=>rw[q]at this;cases this
def IY:∀{es:List (α2×Int)} {w:α2} {m:Int},(es.map (·.1)).Nodup->(w,m)∈es->valV (ents es) (wkey w)=some (.int m)
 |[],_,_,_,h=>by cases h
 |e::r,w,m,nd,h=>by
  rw[j6_,xM_]at nd;unfold valV ents;rw[j6_,xh_];by_cases hw:e.1=w
  ·have hem:e.2=m:=by
    rcases jE_.mp h with q|q
    ·rw[<-q]
    ·exact absurd (jo_.mpr ⟨_,q,hw.symm⟩) nd.1
   rw[show decide ((wkey e.1,V.int e.2).1=wkey w)=true from jZ_ (by rw[hw]),<-hem];rfl
  ·rw[show decide ((wkey e.1,V.int e.2).1=wkey w)=false from jX_ fun z=>hw (IX z)];rcases jE_.mp h with q|q
   ·exact absurd (by rw[<-q]) hw
   ·exact IY nd.2 q
def Yj (Pv:Nat->List V->St->Hp->Prop)(h0:Pv 0 [] (cp.st σ) H)(hz:kvs.length<sizeLine)
  (hl:∀i ys σ H,i<=kvs.length->Pv i ys σ H->H a=some (.frz o (.dT kvs))/\ys.length<=i)
  (hs:∀i k v b ys σ H,kvs[i]?=some (k,v)->Pv i ys σ H->H b=some (.tup (k.map kV))->g (.ref b) σ H fun ag H2=>tc ag H2 fun b H3=>if b=true then te ag H3 fun v H4=>Pv (i+1) (ys++[v]) ag H4 else Pv (i+1) ys ag H3)
  (hd:∀ys σ H,Pv kvs.length ys σ H->∀D,H D=none->Q (.ref D) (upd H D (.lst ys))):Ea (Itd o a kvs) cp g tc te σ H Q:=by
 refine⟨fun i m ys σ H=>m=kvs.length-i/\i<=kvs.length/\Pv i ys σ H,⟨kvs.length,by simp,qs_ _,h0⟩,?_⟩;rintro i m ys σ H ⟨rfl,hi,p⟩;obtain⟨q,ly⟩:=hl i ys σ H hi p;refine⟨by lia,?_⟩;by_cases ao:i<kvs.length
 ·refine .inr ⟨⟨ao,q⟩,Pv (i+1),fun zs af H' p'=>⟨kvs.length-(i+1),by lia,rfl,ao,p'⟩,fun x H' y=>?_⟩;obtain⟨rfl,b,k,v,hk,rfl,hb⟩:=y;exact hs i k v b ys σ H' hk p hb
 ·have e:i=kvs.length:=by lia
  subst e;exact .inl ⟨⟨jh_ _,q⟩,hd ys σ H p⟩
def Ge (hc:X.calm=true):Cd X (.builtin "sum") (fun xs H Q=>∃(p:Addr) (ns:α2),xs=[.ref p]/\SqL X.K H p (ns.map V.int)/\Q (.int ns.sum) H):=by
 intro aa s σ H xs us Q I r h;obtain⟨p,ns,rfl,hq,q⟩:=h;obtain⟨u,rfl,rx⟩:=vals1 r;cases rx;obtain⟨its,r',pl,_⟩:=I.list hq;have i1:IntsAre its ns:=by simpa using intsAre_of r'
 obtain⟨ys,e⟩:=i1.allInts.items;have e2:=i1.numsOf;rw[show its=its.toArray.toList from rfl,e,nums_intItems]at e2;have hl:=pl.isList;rw[e]at hl;refine sum_intListG (I.ok.hd hc) hl fun h' tk t' hk=>?_;rw[preSum_eq,qm_ (by simp),e2];exact⟨.int ns.sum,H,I.kept hk,⟨_,rfl⟩,q⟩
end L2
namespace L2
open PySem PySem.W PySem.Spec PySem.Calls PyProof.Rows
noncomputable def Xq (K:α3)(Ca:Addr)(E:St->XK)(tb ts:TS):TS:=fun D σ H=>tb D σ H/\∀af cls H',E af cls none H'->∃C,cls=.ref C/\exmOne K (.ref C) (.ref Ca)=some true/\ts D af H'
theorem Uy {K:α3} : Xq K Ca E tb ts D σ H=(tb D σ H/\∀af cls H',E af cls none H'->∃C,cls=.ref C/\exmOne K (.ref C) (.ref Ca)=some true/\ts D af H'):=rfl
def Vp (hg:Gl X c)(hm:X.mg c=some (.ref Ca))(fQ:X.stack=X.env::X.outer)(hL:X.env.frame=some X.env.locals)(hex:X.ex=[])
  (hb:∀xe pn,(∀σ,E5 (CXe X.prog X.w) (X.body xe pn) σ (E σ))->PSs (X.body xe pn) body tb) (hs:∀ea pn,PSs (X.suite ea pn) (ix::suite) ts) (hd:(c==("__debug__" : Str))=false:=by decide):
  PS X (.Try body [.ExceptHandler (some (.Name c np)) none (ix::suite) hpos] [] [] pos) (Xq X.K Ca E tb ts):=by
 intro aa s σ H D I h;obtain⟨aK,eL⟩:=h;have hB:=hb (fun e s'=>∃ay af H1 s1,Inv (X.body (fun _ _=>True) (X.pn++aa)) ay af H1 s1/\CXe X.prog X.w X.stack H1 s1 (E af) e s') (X.pn++aa) (fun σ ay H s e s' I' mI=>⟨ay,σ,H,s,I'.reBody,mI⟩) [] s σ H D I.toBody aK;refine wpAny_Try_except (q9_ hB (fun f s1 q=>?_) fun e s1 q=>?_)
 ·cases f with
  |next=>obtain⟨bu,H1,I1,q1⟩:=q;exact xL_ ⟨bu,H1,I1.ofBody,q1⟩
  |brk=>obtain⟨bu,H1,I1,q1⟩:=q;exact⟨bu,H1,I1.ofBody,q1⟩
  |cont=>obtain⟨bu,H1,I1,q1⟩:=q;exact⟨bu,H1,I1.ofBody,q1⟩
  |ret v=>obtain⟨x1,bu,H1,I1,r1,q1⟩:=q;exact⟨x1,bu,H1,I1.ofBody,r1,q1⟩
 ·obtain⟨ay,af,H1,s2,I2,ea,cls,a0,H',B,rfl,os,bare,fl,fw,hE⟩:=q;obtain⟨C,rfl,iy,fB⟩:=eL af cls H' hE;have fC:Inv X aa af H1 s2:=I2.ofBody;have fr:X.A.frames=some (X.env::X.outer):=by rw[I.ok.frames,fQ]
  have frees:=Gb fC fl;have k9:=fw;rw[fQ]at fw;have cE:∀h',Heap.FlyingW B (X.env::X.outer) ea (.ref C) a0 h'->s1.heap.UpToSlots h'->Inv X aa af H' {s1 with heap:=h' }:=fun h' fX ups=>by
   have dJ:=fl.move frees fX.1 (fun b hb o e=>by
    obtain⟨_,o',bf,nf⟩:=k9.2.2.1.mem hb;rw[e]at bf;cases bf;exact ups b o e nf)
   exact fC.call' (s':={s1 with heap:=h' }) os dJ.un dJ.hok bare (fun b hb=>by cases hb)
  refine wpAny_looks_onW fr hL fw fun h4 eM jX=>?_;refine wpAny_landsW eM fun h5 iz jY=>?_;have I5:=cE h5 iz (jX.trans jY);have mJ:Inv (X.suite ea (X.pn++aa)) [] af H' {s1 with heap:=h5}:=I5.toSuite;refine wpAny_handleBy_cons (codeAny_handlers_test (Jf (X:=X.suite ea (X.pn++aa)) mJ hg hm ?_ hd)) (by intro q;cases q);have LT:sG (model X.prog X.w) h5 (typeOf (.ref ea)) (.ref C):=by
   obtain⟨ob,ji,d9⟩:=iz.there;exact d9 ▸ (PySem.W.Looks.ld ji).andThen .now
  refine (rC (K:=X.K) (M:=model X.prog X.w) I5.kIn LT iy) _ _ _ _ (fun b o e=>e) ?_;refine codeAny_handlers_suite ?_;refine lands_againW iz fun h6 lg mK=>?_;have I6:=cE h6 lg ((jX.trans jY).trans mK);refine q9_ (hs ea (X.pn++aa) [] _ _ _ D I6.toSuite fB) (fun f s8 q8=>?_) (fun _ _ z=>pd z);cases f with
  |next=>obtain⟨cS,H8,I8,q⟩:=q8;exact⟨cS,H8,I8.ofSuite I.ok.hd,q⟩
  |brk=>obtain⟨cS,H8,I8,q⟩:=q8;exact⟨cS,H8,I8.ofSuite I.ok.hd,q⟩
  |cont=>obtain⟨cS,H8,I8,q⟩:=q8;exact⟨cS,H8,I8.ofSuite I.ok.hd,q⟩
  |ret v=>obtain⟨x8,cS,H8,I8,r8,q⟩:=q8;exact⟨x8,cS,H8,I8.ofSuite I.ok.hd,r8,q⟩
def Mu.ofS {K:α3} (hq:H l=some (.tup xs))(aw:xs ≠ [])(h1 : -(2 ^ 63)<=k)(h2:k<2 ^ 63)(hz:xs.length*k.toNat<=sizeLine)(h:∀p H',Same H H'->H' p=some (.tup (oU k.toNat xs).flatten)->Q (.ref p) H'):Mu K (.ref l) (.int k) H Q:=by
 refine⟨l,k,xs,rfl,rfl,SqT.of hq,aw,h1,h2,hz,fun e=>?_,fun _ p hp=>h p _ (Same.new hp) Ab⟩;subst e;exact h l H (Same.refl _) (by simpa using hq)
end L2
namespace PrimeO
noncomputable def Dz (p:Nat):Prop:=∀d,2<=d->d<p->p%d≠0
def Dz.small (hp:2<=p)(hk:p<k*k)(h:∀d,2<=d->d<k->d<p->p%d≠0):Dz p:=by
 intro d h1 h2 h3;by_cases hd:d<k
 ·exact h d h1 hd h2 h3
 ·have e:d*(p / d)=p:=by have:=pX p d;lia
  generalize p / d=q at e;have dP:q≠0:=fun z=>by rw[z]at e;lia
  have cI:q≠1:=fun z=>by rw[z]at e;lia
  have hqk:q<k:=by
   refine rf fun z=>?_;have:=qJ_ (x7_ hd) z;lia
  refine h q s!"" hqk ?_ (by rw[<-e];exact rg d q);have:2*q<=d*q:=Nat.mul_le_mul_right q h1;lia
noncomputable def chk (p lo:Nat):Nat->Bool
 |0=>(uu (tZ p lo) 0).not
 |n+1=>(chk p lo n).and (chk p (Nat.add lo (Nat.pow 2 n)) n)
def Lr (p:Nat):∀(n lo:Nat),chk p lo n=true->∀d,lo<=d->d<lo+2 ^ n->p%d≠0
 |0,lo,h,d,h1,h2=>by
  have:d=lo:=by simp at h2;lia
  subst this;intro z;have z':tZ p d=0:=z;unfold chk at h;rw[z']at h;simp at h
 |n+1,lo,h,d,h1,h2=>by
  unfold chk at h;have h':=Bool.and_eq_true_iff.mp h;by_cases hd:d<lo+2 ^ n
  ·exact Lr p n lo h'.1 d h1 hd
  ·have e:lo+2 ^ n+2 ^ n=lo+2 ^ (n+1):=by rw[qO];lia
   exact Lr p n (lo+2 ^ n) h'.2 d s!"" s!""
def Dd (hp:2<=p)(h:chk p 2 n=true)(hk:p<(2+2 ^ n)*(2+2 ^ n)):Dz p:=
 Dz.small hp hk fun d h1 h2 _=>Lr p n 2 h d h1 h2
def nd2:Dz 2:=fun d h1 h2=>by lia
def nd3:Dz 3:=fun d h1 h2=>by
 have:d=2:=by lia
 subst this;decide
def nd5:Dz 5:=Dd (n:=0) (by decide) (by decide) (by decide)
def nd7:Dz 7:=Dd (n:=0) (by decide) (by decide) (by decide)
def Vq:Dz 65537:=Dd (n:=8) (by decide) (by decide +kernel) (by decide +kernel)
def Yk:Dz 998244353:=Dd (n:=15) (by decide) (by decide +kernel) (by decide +kernel)
def Xr:Dz 2147483647:=Dd (n:=16) (by decide) (by decide +kernel) (by decide +kernel)
def Uz:∀(m n:Nat) (f:Nat->Nat),(∀i,i<n->f i<m)->(∀i j,i<j->j<n->f i≠f j)->n<=m
 |0,n,f,h,_=>by
  refine x7_ fun z=>?_;exact absurd (h 0 z) (rD _)
 |m+1,0,f,_,_=>qs_ _
 |m+1,n+1,f,h,g=>by
  -- dE last value is taken out: whoever has dE value m takes dE value of dE last one
  let f':Nat->Nat:=fun i=>if f i=m then f n else f i
  refine Nat.succ_le_succ (Uz m n f' (fun i hi=>?_) (fun i j lq hj=>?_))
  ·show (if f i=m then f n else f i)<m;by_cases e:f i=m
   ·rw[if_pos e];have h1:=h n s!"";have h2:=g i n hi s!"";lia
   ·rw[if_neg e];have:=h i s!"";lia
  ·show (if f i=m then f n else f i)≠(if f j=m then f n else f j);have a:=g i j lq s!"";have b:=g i n s!"" s!"";have c:=g j n s!"" s!"";by_cases e:f i=m
   ·rw[if_pos e];by_cases e':f j=m
    ·lia
    ·rw[if_neg e'];lia
   ·rw[if_neg e];by_cases e':f j=m
    ·rw[if_pos e'];exact b
    ·rw[if_neg e'];exact a
def pow_one {q x:Int}(h:q ∣ x-1):∀n:Nat,q ∣ x ^ n-1
 |0=>by simp
 |n+1=>by
  have e:x ^ (n+1)-1=x ^ n*(x-1)+(x ^ n-1):=by
   rw[zz_,rp];lia
  rw[e];exact Int.dvd_add (qV_ h) (pow_one h n)
def Q3 {q x:Int}(h:q ∣ x+1):∀n:Nat,q ∣ x ^ (2*n+1)+1
 |0=>by rw[show 2*0+1=1 from rfl,zz_,Int.pow_zero,zZ_];exact h
 |n+1=>by
  have e:x ^ (2*(n+1)+1)+1=x*x*(x ^ (2*n+1)+1)-(x-1)*(x+1):=by
   have:x ^ (2*(n+1)+1)=x*x*x ^ (2*n+1):=by
    rw[show 2*(n+1)+1=2*n+1+1+1 from by lia,zz_,zz_,zo_,zh_]
   rw[this,wg_,wg_,qd,wf_,wf_,zZ_];lia
  rw[e];exact wh_ (qV_ (Q3 h n)) (qV_ h)
def SJ:∀(d:Nat),0<d->∃k m,d=2 ^ k*(2*m+1):=by
 intro d
 induction d using Nat.strongRecOn with
 |ind d ih=>
  intro hd;by_cases h:d%2=0
  ·obtain⟨k,m,e⟩:=ih (d / 2) s!"" s!"";refine⟨k+1,m,?_⟩;rw[qO,qD,<-e];lia
  ·exact⟨0,d / 2,by simp;lia⟩
def order {q b:Nat}{e:Nat}(hq:3<=q)(h:(q:Int) ∣ (b:Int) ^ (2 ^ e)+1):2 ^ (e+1)<=q:=by
 have hb:pq (b:Int) q=1:=by
  have h1:((pq (b:Int) q:Nat):Int) ∣ (b:Int):=Int.gcd_dvd_left ..;have h2:((pq (b:Int) q:Nat):Int) ∣ (q:Int):=Int.gcd_dvd_right ..;have h3:=sI h2 h;have h4:((pq (b:Int) q:Nat):Int) ∣ (b:Int) ^ (2 ^ e):=by
   obtain⟨c,hc⟩:∃c,2 ^ e=c+1:=⟨2 ^ e-1,by have:=Nat.two_pow_pos e;lia⟩;rw[hc,zz_];exact qV_ h1
  have h5:((pq (b:Int) q:Nat):Int) ∣ 1:=by
   have:=wh_ h3 h4
   rwa [show (b:Int) ^ (2 ^ e)+1-(b:Int) ^ (2 ^ e)=1 from by lia]at this
  have:=qx (by decide) h5;have h6:pq (b:Int) q≠0:=fun z=>by
   have:=Int.gcd_eq_zero_iff.mp z;lia
  lia
 refine Uz q (2 ^ (e+1)) (fun i=>b ^ i%q) (fun i _=>tU _ s!"") (fun i j lq hj hm=>?_)
 -- q divides b ^ (j-i)-1
 have hm:b ^ i%q=b ^ j%q:=hm;have d1:(q:Int) ∣ (b:Int) ^ i*((b:Int) ^ (j-i)-1):=by
  have e1:(b:Int) ^ i*((b:Int) ^ (j-i)-1)=((b ^ j:Nat):Int)-((b ^ i:Nat):Int):=by
   rw[rp,<-Int.pow_add,show i+(j-i)=j from by lia,wf_,pY,pY]
  rw[e1];refine qr_ ?_;have:((b ^ i:Nat):Int)%q=((b ^ j:Nat):Int)%q:=by exact_mod_cast hm
  exact jT_.mp this.symm
 have cop:∀n:Nat,(pq ((b:Int) ^ n) q)=1:=fun n=>by
  induction n with
  |zero=>simp
  |succ n ih=>rw[zz_,Int.gcd_mul_right_left_of_gcd_eq_one ih];exact hb
 have d2:(q:Int) ∣ (b:Int) ^ (j-i)-1:=by
  refine Int.natAbs_dvd_natAbs.mp ?_;have:=Int.natAbs_dvd_natAbs.mpr d1;rw[Int.natAbs_mul]at this;exact Nat.Coprime.dvd_of_dvd_mul_left (show Nat.Coprime _ _ from by have:=cop i;rw[tq]at this;exact this) this
 obtain⟨k,m,hd⟩:=SJ (j-i) s!"";have hk:k<=e:=by
  refine x7_ fun z=>?_;have h1:2 ^ (e+1)<=2 ^ k:=Nat.pow_le_pow_right (by decide) z;have h2:2 ^ k*1<=2 ^ k*(2*m+1):=Nat.mul_le_mul_left _ s!"";lia
 have d3:=pow_one d2 (2 ^ (e-k));rw[<-tP,hd,show 2 ^ k*(2*m+1)*2 ^ (e-k)=2 ^ e*(2*m+1) from by
  rw[qD,<-Nat.pow_add,show k+(e-k)=e from by lia],tP]at d3
 have d4:=Q3 h m;have d5:=wh_ d4 d3;rw[show ((b:Int) ^ 2 ^ e) ^ (2*m+1)+1-(((b:Int) ^ 2 ^ e) ^ (2*m+1)-1)=2 from by lia]at d5;have:=qx (by decide) d5;lia
noncomputable def chain (p:Nat):List Nat->Bool
 |[]=>true
 |a::l=>match l with
  |[]=>true
  |b::_=>(uu (tZ (Nat.mul a a) p) b).and (chain p l)
def KG {p:Nat}:∀(l:List Nat) (a z:Nat),chain p (a::l)=true->(a::l).getLast?=some z->z<p->a<p->a ^ (2 ^ l.length)%p=z
 |[],a,z,_,h,_,ha=>by simp at h;subst h;simp[rh ha]
 |b::l,a,z,hc,h,hz,ha=>by
  unfold chain at hc;have hc:=Bool.and_eq_true_iff.mp hc;have e1:a*a%p=b:=Nat.eq_of_beq_eq_true hc.1;have hb:b<p:=by rw[<-e1];exact tU _ s!""
  have:=KG l b z hc.2 (by simpa using h) hz hb;rw[qp_,qO,qM,Nat.pow_mul,Nat.pow_two,Nat.pow_mod,e1];exact this
def Yl (hc:chain p (b::l)=true)(hl:(b::l).getLast?=some (p-1))(hp:2<=p)(hb:b<p)(q:Nat)(hq:3<=q)(h:p%q=0):2 ^ (l.length+1)<=q:=by
 have hs:=KG l b (p-1) hc hl s!"" hb;generalize l.length=e at hs;generalize hB:b ^ (2 ^ e)=B at hs;have hd:(p:Int) ∣ (b:Int) ^ (2 ^ e)+1:=by
  rw[<-pY,hB];have e1:(B+1)%p=0:=by
   rw[Nat.add_mod,hs];by_cases h1:p=1
   ·lia
   ·rw[rh (show 1<p by lia),show p-1+1=p from by lia,Nat.mod_self]
  have:=pP e1
  exact_mod_cast this
 exact order hq (sI (Int.natCast_dvd_natCast.mpr (pP h)) hd)
def Q4 (big:∀q,2<=q->p%q=0->m<=q)(hm:p<m*m):Dz p:=by
 intro d h1 h2 h3;have e:d*(p / d)=p:=by have:=pX p d;lia
 generalize p / d=q at e;have dP:q≠0:=fun z=>by rw[z]at e;lia
 have cI:q≠1:=fun z=>by rw[z]at e;lia
 have a:=big d h1 h3;have b:=big q s!"" (by rw[<-e];exact rg d q);have:=qJ_ a b;lia
noncomputable def Xs:List Nat:=[59049,3486784401,88018457703999454,45929738478236762,40666034766347230,7693334418966794,176686083274693707,64249661930383583,109385274370896747,125617409189584062,109468562634608601,122701423696867897,35622580771213151,82435950289412150,18627153503673630,120469760524761789,172035590580311624,13190307153726193,3107064753164151,70140624860640424,166009780229527061,23535563731210449,68090728368441414,150068836334812601,160932145882353616,92767654578329832,20253417367123262,76076963643055978,116396373174297913,124091118791727052,120512899165957516,106587366619394153,174473325657852776,42422798089771761,51278126999645464,27655269229009543,75436749302249212,127846334706536764,179803962838676295,39860844515238771,117110086334503012,28926655053941789,99636062047316279,57472177291655405,45590227996605173,164322947671277915,78463280652552016,5197029465238183,37154148892138879,155338536803674377,66159313984295070,171458397805620753,174530742592475567,180143985094819840]
def Ym:Dz 180143985094819841:=Q4 (m:=36028797018963968) (fun q hq h=>by
  have h2:q≠2:=fun z=>by subst z;exact absurd h (by decide +kernel)
  have:=Yl (p:=180143985094819841) (b:=243) (l:=Xs) (by decide +kernel) (by decide +kernel) (by decide +kernel) (by decide +kernel) q s!"" h
  rwa [show 2 ^ (Xs.length+1)=36028797018963968 from by decide +kernel]at this) (by decide +kernel)
def Dz.gcd (h:Dz p) (h0:0<x)(h1:x<p):qm x p=1:=by
 have g1:qm x p<=x:=Nat.le_of_dvd h0 (Nat.gcd_dvd_left ..);have g0:0<qm x p:=Nat.gcd_pos_of_pos_left _ h0;refine xp_ fun z=>?_;exact h (qm x p) s!"" s!"" (Nat.mod_eq_zero_of_dvd (Nat.gcd_dvd_right ..))
noncomputable def Pr (p:Int):Prop:=2<=p/\p<1000000000000000000/\Dz p.toNat
def Pr.gcd (h:Pr p)(h0:0<x)(h1:x<p):pq x p=1:=by
 have:=h.2.2.gcd (x:=x.toNat) s!"" s!"";have e:pq x p=qm x.toNat p.toNat:=by
  unfold pq;rw[show x.natAbs=x.toNat from by lia,show p.natAbs=p.toNat from by have:=h.1;lia]
 rw[e];exact this
def Vr:∀p ∈ [(2:Int),3,5,7,65537,998244353,2147483647,180143985094819841],Pr p:=by
 intro p hp;simp at hp;rcases hp with rfl|rfl|rfl|rfl|rfl|rfl|rfl|rfl
 ·exact⟨by decide,by decide,nd2⟩
 ·exact⟨by decide,by decide,nd3⟩
 ·exact⟨by decide,by decide,nd5⟩
 ·exact⟨by decide,by decide,nd7⟩
 ·exact⟨by decide,by decide,Vq⟩
 ·exact⟨by decide,by decide,Yk⟩
 ·exact⟨by decide,by decide,Xr⟩
 ·exact⟨by decide,by decide,Ym⟩
end PrimeO
namespace L2
open PySem PySem.Spec PyProof.Rows
def SK : OpR X (binaryOp .FloorDiv) (rI (fun _ j=>0<j/\j<1208925819614629174706176) fun i j=>.int (i / j)):=opI fun i j _ _ _ _ _ hc q=>by
 have h1:(0:Int)<j:=hc.1;have h2:j<1208925819614629174706176:=hc.2;refine floordiv_int s!"" (by rw[pC i s!""];exact q) (.inl (PyProof.noPylong_of_log2 ?_));have:j.natAbs<2 ^ 80:=by
  rw[show (2:Nat) ^ 80=1208925819614629174706176 from by decide];lia
 have:=(Nat.log2_lt (n:=j.natAbs) (k:=80) s!"").mpr this;lia
theorem Q5 : WB A σ H Z=A σ H fun vs H1=>∃i j:Int,vs=[.int i,.int j]/\(-(2 ^ 62)<=i/\i<2 ^ 62 /\ -(2 ^ 62)<=j/\j<2 ^ 62)/\Z (Itr i (j-i).toNat) H1:=rfl
end L2
namespace PySem
open Sem (wp)
open PySem.F
noncomputable def CC (t:Bool)(h:Heap)(l:Addr)(xs:Array Value):Prop:=match t with|false=>h.IsList l xs|true=>h.IsTuple l xs
noncomputable def BR (t:Bool)(h:Heap)(i l:Addr)(k:Nat):Prop:=match t with|false=>h.IsListIter i l k|true=>h.IsTupleIter i l k
def CC.extBut {a b items}(x:CC t h a items)(hs:Heap.ExtBut b h h')(eQ:a≠b):CC t h' a items:=by
 cases t
 ·exact Heap.IsList.extBut x hs eQ
 ·exact Heap.IsTuple.extBut x hs eQ
def CC.push {a items}(x:CC t h a items)(o:Obj):CC t (h.push o) a items:=by
 cases t
 ·exact Heap.IsList.push x o
 ·exact Heap.IsTuple.push x o
def CC.lt {a items}(x:CC t h a items):a<h.objs.size:=by
 cases t
 ·obtain⟨_,e,_⟩:=x;exact ju_ e
 ·obtain⟨_,e,_⟩:=x;exact ju_ e
def BR.extBut {a b l i}(x:BR t h a l i)(hs:Heap.ExtBut b h h')(eQ:a≠b):BR t h' a l i:=by
 cases t
 ·exact Heap.IsListIter.extBut x hs eQ
 ·exact Heap.IsTupleIter.extBut x hs eQ
def BR.at {a l i}(x:BR t h a l i)(e:∀o,h.get? a=some o->h'.get? a=some o):BR t h' a l i:=by
 cases t
 ·exact Heap.IsListIter.at x e
 ·exact Heap.IsTupleIter.at x e
def BR.ob {a l i}(x:BR t h a l i):∃o,h.get? a=some o/\o.data=.fields #[.ref l,.int i 0]:=by
 cases t
 ·obtain⟨o,e,_,d⟩:=x;exact⟨o,e,d⟩
 ·obtain⟨o,e,_,d⟩:=x;exact⟨o,e,d⟩
section
variable {prog:Program} {w:World} {A:Around} {E:Value->Shared->Prop} {s:Shared}
def Q6 {it l:Addr} (aq:BR t s.heap it l i)(hl:CC t s.heap l items)
  (hQ:∀x h',items[i]?=some x->BR t h' it l (i+1)->Heap.SameBut it s.heap h'->Q x {s with heap:=h' })
  (hE:items[i]?=none->A.handled=none/\∀h' e,Heap.ExtBut it s.heap h'->(∃o,h'.get? e=some o/\o.cls=.type "StopIteration")->E (.ref e) {s with heap:=h' }):wpAny (model prog w) A (Builtin.SmallTypes.nextOf (.ref it)) Q E s:=by
 cases t
 ·cases hx:items[i]? with
  |some x=>exact wpAny_nextOf_list_item aq hl hx fun h'=>hQ x h' hx
  |none=>exact wpAny_nextOf_list_end (hE hx).1 aq hl hx (hE hx).2
 ·exact He aq hl hQ hE
noncomputable def Vs (t:Bool):Value:=match t with|false=>.type "list_iterator" |true=>.type "tuple_iterator"
def BR.mk (g:h.get? a=some {cls:=Vs t,data:=.fields #[.ref l,.int 0 0]}):BR t h a l 0:=by
 cases t
 ·exact⟨_,g,rfl,rfl⟩
 ·exact⟨_,g,rfl,rfl⟩
def IF {items} (hl:CC t s.heap l items)
  (hQ:Q (.ref s.heap.objs.size) {s with heap:=s.heap.push {cls:=Vs t,data:=.fields #[.ref l,.int 0 0]} }):wpAny (model prog w) A (pyIter (.ref l)) Q E s:=by
 cases t
 ·exact xV_ hl hQ
 ·exact xk_ hl hQ
end
section
variable {prog:Program} {w:World} {A:Around} {E:Value->Shared->Prop} {s:Shared}
def NB {items} (hl:CC t s.heap l items)(h:∀h',s.heap.push {cls:=Vs t,data:=.fields #[.ref l,.int 0 0]}=h'->Q (.ref s.heap.objs.size) {s with heap:=h' }):wpAny (model prog w) A (pyIter (.ref l)) Q E s:=IF hl (h _ rfl)
def zipN {z TI TO i1 i2 l1 l2:Addr} (D:ZipApart z TI TO i1 i2 l1 l2)(hz:IsZip s.heap z TI TO .none)(gM:IsPair s.heap TI (.ref i1) (.ref i2))(gN:IsPair s.heap TO a b)
  (h1:BR t1 s.heap i1 l1 k1) (h2:BR t2 s.heap i2 l2 k2) (eo:CC t1 s.heap l1 xs) (fT:CC t2 s.heap l2 ys)
  (hQ:∀x y h',xs[k1]?=some x->ys[k2]?=some y->IsZip h' z TI TO (rawInt s.heap.objs.size)->IsPair h' TO x y->BR t1 h' i1 l1 (k1+1)->BR t2 h' i2 l2 (k2+1)->IsPair h' s.heap.objs.size x y->h'.objs.size=s.heap.objs.size+1->(∀c o,c≠z->c≠TO->c≠i1->c≠i2->s.heap.get? c=some o->h'.get? c=some o)->Q (some (.ref s.heap.objs.size)) {s with heap:=h' })
  (hN:xs[k1]?=none\/ys[k2]?=none->A.handled=none/\∀h',(∀c o,c≠z->c≠TO->c≠i1->c≠i2->s.heap.get? c=some o->h'.get? c=some o)->Q none {s with heap:=h' }):wpAny (model prog w) A (pyNext (.ref z)) Q E s:=by
 have hT:s.TypeIs (.ref z) "zip" := ⟨_,hz,rfl⟩;have e1:=F.slot_zip_next;unfold pyNext;refine je_ (xm_ (qg_ hT e1 (qj_ e1 hT F.entry_zip_next ?_ (F.args_zip_next_1 _))))
 wp_walk using xn_ hz
 ·exact q7_ rfl
 intro u0 g0 k0;replace g0:IsZip u0 z TI TO .ellipsis:=g0;have m1:BR t1 u0 i1 l1 k1:=h1.extBut k0.extBut D.i1z;have m2:CC t1 u0 l1 xs:=eo.extBut k0.extBut D.l1z;simp only[List.zipIdx_cons,List.zipIdx_nil,rB,rG];have stop:∀h' (e:Addr),(∀c o,c≠z->c≠TO->c≠i1->c≠i2->s.heap.get? c=some o->h'.get? c=some o)->IsZip h' z TI TO .ellipsis->(∃o,h'.get? e=some o/\o.cls=.type "StopIteration")->xs[k1]?=none\/ys[k2]?=none ->
   wpAny (model prog w) A.in1 (setField (.ref z) 0 .none) (fun _ ik=>wpAny (model prog w) A (do if <- isInstance (.ref e) (.type "StopIteration") then pure none else throw (.ref e)) Q E ik) (fun e s'=>wpAny (model prog w) A (do if <- isInstance e (.type "StopIteration") then pure none else throw e) Q E s') {s with heap:=h' }:=fun h' e kk eA he hx=>by
  obtain⟨o,e2,e3⟩:=he;have n:e≠z:=fun x=>by subst x;rw[eA]at e2;cases e2;simp at e3
  refine xn_ eA (q7_ rfl) fun h2 _ k2=>je_ (xF_ (T := "StopIteration") (b:=true) ⟨o,k2.extBut e o n e2,e3⟩ isSubtype_stop (jq_ ((hN hx).2 h2 fun c o n1 n2 n3 n4 q=>k2.extBut c o n1 (kk c o n1 n2 n3 n4 q))))
 wp_walk using wpAny_onRaise,Q6 (A:=A.in1) (s:={s with heap:=u0}) m1 m2
 ·intro x u1 hx m3 k3;have y0:IsPair u1 TO a b:=k3.extBut TO _ D.TOi1 (k0.extBut TO _ D.TOz gN)
  wp_walk using wpAny_updateSeq_pair y0
  intro u2 y2 k4;replace y2:IsPair u2 TO x b:=y2;have kk:∀c o,c≠z->c≠TO->c≠i1->s.heap.get? c=some o->u2.get? c=some o:=fun c o n1 n2 n3 q=>k4.extBut c o n2 (k3.extBut c o n3 (k0.extBut c o n1 q));have g2:IsZip u2 z TI TO .ellipsis:=k4.extBut _ _ D.TOz.symm (k3.extBut _ _ D.i1z.symm g0);have m4:BR t2 u2 i2 l2 k2:=h2.at fun o q=>kk _ o D.i2z D.TOi2.symm D.i12.symm q;have m5:CC t2 u2 l2 ys:=((fT.extBut k0.extBut D.l2z).extBut k3.extBut D.l2i1).extBut k4.extBut D.l2TO
  wp_walk using wpAny_onRaise,Q6 (A:=A.in1) (s:={s with heap:=u2}) m4 m5
  ·intro y u3 hy m6 k5;have y3:IsPair u3 TO x b:=k5.extBut TO _ D.TOi2 y2
   wp_walk using wpAny_updateSeq_pair y3
   intro u4 y4 k6;replace y4:IsPair u4 TO x y:=y4;have g4:IsZip u4 z TI TO .ellipsis:=k6.extBut _ _ D.TOz.symm (k5.extBut _ _ D.i2z.symm g2);have zz:u4.objs.size=s.heap.objs.size:=k6.1.trans (k5.1.trans (k4.1.trans (k3.1.trans k0.1)))
   wp_walk using newT
   ·exact (show 2<=sizeLine from by decide)
   intro u5 q5;have kp:∀c o,u4.get? c=some o->u5.get? c=some o:=fun c o q=>by rw[<-q5];exact jk_ _ q
   have g5:=kp z _ g4;have y5:IsPair u5 u4.objs.size x y:=by rw[<-q5];exact jv_ _ rfl
   have z5:u5.objs.size=u4.objs.size+1:=by rw[<-q5];exact qO_ ..
   wp_walk using xn_ g5
   ·exact q7_ rfl
   intro u6 g6 k7;replace g6:IsZip u6 z TI TO (rawInt u4.objs.size):=g6
   wp_walk using xn_ g6
   ·exact q7_ rfl
   intro u7 g7 k8;replace g7:IsZip u7 z TI TO (rawInt u4.objs.size):=g7;refine jq_ ⟨_,rfl,jq_ ?_⟩;show Q (some (Value.ref u4.objs.size)) _;have up:∀c o,c≠z->u4.get? c=some o->u7.get? c=some o:=fun c o n q=>k8.extBut c o n (k7.extBut c o n (kp c o q));have nz:u4.objs.size≠z:=xB_ (ju_ g4);have y7:=k8.extBut _ _ nz (k7.extBut _ _ nz y5);rw[zz]at g7 y7 z5 ⊢;exact hQ x y u7 hx hy g7 (up _ _ D.TOz y4) ((m3.at fun o q=>k6.extBut _ o D.TOi1.symm (k5.extBut _ o D.i12 (k4.extBut _ o D.TOi1.symm q))).at fun o q=>up _ o D.i1z q) ((m6.at fun o q=>k6.extBut _ o D.TOi2.symm q).at fun o q=>up _ o D.i2z q) y7 ((k8.1.trans k7.1).trans z5)
    fun c o n1 n2 n3 n4 q=>up c o n1 (k6.extBut c o n2 (k5.extBut c o n4 (kk c o n1 n2 n3 q)))
  ·refine fun hy=>⟨(hN (.inr hy)).1,fun u3 e k5 he=>?_⟩;exact stop u3 e (fun c o n1 n2 n3 n4 q=>k5 c o n4 (kk c o n1 n2 n3 q)) (k5 z _ D.i2z.symm g2) he (.inr hy)
 ·refine fun hx=>⟨(hN (.inl hx)).1,fun u1 e k3 he=>?_⟩;exact stop u1 e (fun c o n1 n2 n3 n4 q=>k3 c o n3 (k0.extBut c o n1 q)) (k3 z _ D.i1z.symm g0) he (.inl hx)
def NC (eo:CC t1 s.heap l1 xs)(fT:CC t2 s.heap l2 ys)
  (h:∀h',IsZip h' (s.heap.objs.size+4) (s.heap.objs.size+2) (s.heap.objs.size+3) .none->IsPair h' (s.heap.objs.size+2) (.ref s.heap.objs.size) (.ref (s.heap.objs.size+1))->IsPair h' (s.heap.objs.size+3) .none .none->BR t1 h' s.heap.objs.size l1 0->BR t2 h' (s.heap.objs.size+1) l2 0->h'.objs.size=s.heap.objs.size+5->(∀c o,s.heap.get? c=some o->h'.get? c=some o)->Q (.ref (s.heap.objs.size+4)) {s with heap:=h' }):
  wpAny (model prog w) A (call (.type "zip") [.ref l1,.ref l2]) Q E s:=by
 have M:Meets (Builtin.«zip.__new__» ⟨[.type "zip",.ref l1,.ref l2],[]⟩) fun _ R t=>t=s/\∀h',IsZip h' (s.heap.objs.size+4) (s.heap.objs.size+2) (s.heap.objs.size+3) .none->IsPair h' (s.heap.objs.size+2) (.ref s.heap.objs.size) (.ref (s.heap.objs.size+1))->IsPair h' (s.heap.objs.size+3) .none .none->BR t1 h' s.heap.objs.size l1 0->BR t2 h' (s.heap.objs.size+1) l2 0->h'.objs.size=s.heap.objs.size+5->(∀c o,s.heap.get? c=some o->h'.get? c=some o)->R (.ok (.ret (.ref (s.heap.objs.size+4)))) {s with heap:=h' }:=.of_wp fun prog w A R t ⟨e,q⟩=>by
  subst e;obtain⟨hp,g,d,tk,os⟩:=t;have fZ:=sub_zip
  wp_walk using NB eo
  intro u1 q1;obtain⟨a1,b1,c1⟩:=psh q1 rfl;have hl2':CC t2 u1 l2 ys:=by rw[<-q1];exact CC.push fT _
  wp_walk using NB (s:=⟨u1,g,d,tk,os⟩) hl2'
  intro u2 q2;obtain⟨a2,b2,c2⟩:=psh q2 rfl
  wp_walk using newT
  ·exact (show 2<=sizeLine from by decide)
  intro u3 q3;obtain⟨a3,b3,c3⟩:=psh q3 rfl
  wp_walk using newT
  ·exact (show 2<=sizeLine from by decide)
  intro u4 q4;obtain⟨a4,b4,c4⟩:=psh q4 rfl
  wp_walk
  refine⟨_,rfl,?_⟩;have Z1:u1.objs.size=hp.objs.size+1:=c1;have Z2:u2.objs.size=hp.objs.size+2:=(show u2.objs.size=u1.objs.size+1 from c2).trans (by rw[Z1]);have Z3:u3.objs.size=hp.objs.size+3:=(show u3.objs.size=u2.objs.size+1 from c3).trans (by rw[Z2]);have Z4:u4.objs.size=hp.objs.size+4:=(show u4.objs.size=u3.objs.size+1 from c4).trans (by rw[Z3]);obtain⟨a5,b5,c5⟩:=psh (rfl:u4.push {cls:=.type "zip",data:=.fields #[.none,.bool false,.bool false,.ref u2.objs.size,.ref u3.objs.size]}=_) rfl;replace b1:u1.get? hp.objs.size=_:=b1;replace b2:u2.get? u1.objs.size=_:=b2;replace b3:IsPair u3 u2.objs.size (.ref hp.objs.size) (.ref u1.objs.size):=b3;replace b4:IsPair u4 u3.objs.size .none .none:=b4;show R (.ok (.ret (.ref u4.objs.size))) ⟨u4.push {cls:=.type "zip",data:=.fields #[.none,.bool false,.bool false,.ref u2.objs.size,.ref u3.objs.size]},g,d,tk,os⟩;rw[Z1,Z2]at b3;rw[Z1]at b2;rw[Z3]at b4;rw[Z2,Z3,Z4]at b5;rw[Z2,Z3]at a5 c5 ⊢;rw[Z4]at c5 ⊢;exact q _ b5 (a5 _ _ (a4 _ _ b3)) (a5 _ _ b4) (BR.mk (a5 _ _ (a4 _ _ (a3 _ _ (a2 _ _ b1))))) (BR.mk (a5 _ _ (a4 _ _ (a3 _ _ b2)))) c5 fun c o x=>a5 _ _ (a4 _ _ (a3 _ _ (a2 _ _ (a1 _ _ x))))
 exact callType_new F.called_zip (by decide) (F.typeCall_zip_2 _ _) (F.newCall_zip_2 _ _) (fun obj=>F.args_object_init_3 obj _ _) F.entry_zip_new M ⟨rfl,fun h' a b c d e f g=>⟨⟨_,a,rfl⟩,h h' a b c d e f g⟩⟩
end
end PySem
namespace L2
open PySem PySem.Spec PyProof.Rows GW
noncomputable def SqB (K:α3)(H:Hp)(t:Bool)(a:Addr)(xs:List V):Prop:=match t with|false=>SqL K H a xs|true=>SqT K H a xs
def SqB.mono {K:α3} (h:SqB K H t a xs)(s:Same H H'):SqB K H' t a xs:=by
 cases t
 ·exact s.seq h
 ·exact s.seqT h
def Inv.seqB (I:Inv X aa σ H s)(h:SqB X.K H t a xs):∃its:List Value,Vals xs its/\CC t s.heap a its.toArray:=by
 cases t
 ·obtain⟨its,r,p,_⟩:=I.list h;exact⟨its,r,p.isList⟩
 ·obtain⟨its,r,p,_⟩:=I.tuple h;exact⟨its,r,p⟩
noncomputable def Itz2 (K:α3)(t1 t2:Bool)(a b:Addr)(xs ys:List V):It:=⟨fun i H=>i<xs.length/\i<ys.length/\SqB K H t1 a xs/\SqB K H t2 b ys,fun i H x H'=>∃t u v,H t=none/\xs[i]?=some u/\ys[i]?=some v/\x=.ref t/\H'=upd H t (.tup [u,v]),fun i H=>(xs.length<=i\/ys.length<=i)/\SqB K H t1 a xs/\SqB K H t2 b ys⟩
def Q7 {P:Program}{w:World}{K:α3}{bG:List Expr}{x1}{bq:Pos}{t1 t2:Bool}{a b z TI TO i1 i2:Addr}(D:ZipApart z TI TO i1 i2 a b)(xs ys:List V):Turn P w K (.Tuple bG x1 bq) (Itz2 K t1 t2 a b xs ys) [z,TI,TO,i1,i2] z
  (fun i h=>IsZip h z TI TO .none/\IsPair h TI (.ref i1) (.ref i2)/\(∃c d,IsPair h TO c d)/\BR t1 h i1 a i/\BR t2 h i2 b i) where
 mem:=by simp
 obj:=fun i h st c hc=>by
  obtain⟨h1,h2,⟨u,v,h3⟩,kb,h5'⟩:=st;obtain⟨o4,h4,d4⟩:=kb.ob;obtain⟨o5,h5,d5⟩:=h5'.ob;simp only[jE_,xi_,or_false]at hc;rcases hc with rfl|rfl|rfl|rfl|rfl
  ·exact⟨_,h1,fun v z=>by cases z⟩
  ·exact⟨_,h2,fun v z=>by cases z⟩
  ·exact⟨_,h3,fun v z=>by cases z⟩
  ·exact⟨o4,h4,fun v z=>by rw[d4]at z;cases z⟩
  ·exact⟨o5,h5,fun v z=>by rw[d5]at z;cases z⟩
 keep:=fun i h h' st k=>by
  obtain⟨h1,h2,⟨u,v,h3⟩,h4,h5⟩:=st;exact⟨k z (by simp) _ h1,k TI (by simp) _ h2,⟨u,v,k TO (by simp) _ h3⟩,h4.at fun o q=>k i1 (by simp) o q,h5.at fun o q=>k i2 (by simp) o q⟩
 item:=by
  intro X hP hw hK hc i aa s σ H E I hf st hg;subst hP hw hK;obtain⟨hi,hj,hq,aH⟩:=hg;obtain⟨hz,gM,⟨c,d,gN⟩,h1,h2⟩:=st;obtain⟨its,rv,p⟩:=I.seqB hq;obtain⟨aA,iF,p2⟩:=I.seqB aH;obtain⟨u,hu,ru⟩:=rv.get (i:=i) (x:=xs[i]) (by simp[hi]);obtain⟨v,hv,rv'⟩:=iF.get (i:=i) (x:=ys[i]) (by simp[hj]);have l1:=rv.length;have l2:=iF.length;refine zipN D hz gM gN h1 h2 p p2 (fun u' v' h' eu ev g1 g2 g3 g4 g5 gs gk=>?_) fun y=>by simp at y;lia
  obtain rfl:u=u':=by simpa [hu] using eu
  obtain rfl:v=v':=by simpa [hv] using ev
  have mT:s.heap.objs.size≠z:=xB_ (ju_ hz);refine⟨_,rfl,wpAny_letOwnedTupleGo_zip g1 fun dO e1 bE=>?_⟩;have eg:∀b o,b ∉ [z,TI,TO,i1,i2]->s.heap.get? b=some o->dO.get? b=some o:=fun b o hb q=>by
   simp only[jE_,xi_,or_false,not_or]at hb;exact (bE.2 b hb.1).trans (gk b o hb.1 hb.2.2.1 hb.2.2.2.1 hb.2.2.2.2 q)
  obtain⟨un,hok⟩:=I.unL eg hf;have hn:H s.heap.objs.size=none:=I.hok.fresh (jh_ _);have new:AU X.prog X.w (upd H s.heap.objs.size (.tup [xs[i],ys[i]])) dO s.heap.objs.size (.tup [xs[i],ys[i]]):=⟨by have:=An;simp;lia,[u,v],.cons ru (.cons rv' .nil),_,(bE.2 _ mT).trans g5,rfl,_,rfl⟩;refine⟨.ref s.heap.objs.size,upd H s.heap.objs.size (.tup [xs[i],ys[i]]),I.call' (s':={s with heap:=dO }) (ch:=[z,TI,TO,i1,i2]) rfl (un.track (jh_ _) hn) (hok.track hn new) I.bare (fun b hb=>?_),rfl,⟨_,_,_,hn,by simp[hi],by simp[hj],rfl,rfl⟩,?_,fun b hb=>?_⟩
  ·exact (hf b hb).ch
  ·refine⟨e1,(bE.2 TI D.TIz).trans (gk TI _ D.TIz D.TITO D.TIi1 D.TIi2 gM),⟨u,v,(bE.2 TO D.TOz).trans g2⟩,g3.at fun o q=>(bE.2 i1 D.i1z).trans q,g4.at fun o q=>(bE.2 i2 D.i2z).trans q⟩
  ·have dv:=hf b hb;have:∃o,s.heap.get? b=some o:=by
    simp only[jE_,xi_,or_false]at hb;rcases hb with rfl|rfl|rfl|rfl|rfl
    ·exact⟨_,hz⟩
    ·exact⟨_,gM⟩
    ·exact⟨_,gN⟩
    ·obtain⟨o,ho,_⟩:=h1.ob;exact⟨o,ho⟩
    ·obtain⟨o,ho,_⟩:=h2.ob;exact⟨o,ho⟩
   obtain⟨o,ho⟩:=this;rw[Au (jP_ (ju_ ho))];exact dv.1
 done:=by
  intro X hP hw hK hc i aa s σ H E I hf st hg;subst hP hw hK;obtain⟨hi,hq,aH⟩:=hg;obtain⟨hz,gM,⟨c,d,gN⟩,h1,h2⟩:=st;obtain⟨its,rv,p⟩:=I.seqB hq;obtain⟨aA,iF,p2⟩:=I.seqB aH;have l1:=rv.length;have l2:=iF.length;refine zipN D hz gM gN h1 h2 p p2 (fun u v h' eu ev=>by have a:=(qA_.mp eu).1;have b:=(qA_.mp ev).1;simp at a b;lia) fun _=>⟨I.ok.hd hc,fun h' gk=>⟨rfl,?_⟩⟩;obtain⟨un,hok⟩:=I.unL (h':=h') (fun b o hb q=>by
   simp only[jE_,xi_,or_false,not_or]at hb;exact gk b o hb.1 hb.2.2.1 hb.2.2.2.1 hb.2.2.2.2 q) hf
  exact I.call' (s':={s with heap:=h' }) (ch:=[z,TI,TO,i1,i2]) rfl un hok I.bare fun b hb=>(hf b hb).ch
 self:=fun A i s Q E st h=>wpAny_pyIter_zip st.1 h
noncomputable def Xt (K:α3)(ta:TA):TI:=fun σ H R=>ta σ H fun vs H1=>∃a b xs ys t1 t2,vs=[.ref a,.ref b]/\SqB K H1 t1 a xs/\SqB K H1 t2 b ys/\R (Itz2 K t1 t2 a b xs ys) H1
theorem Q8 {K:α3} : Xt K ta σ H Z=ta σ H fun vs H1=>∃a b xs ys t1 t2,vs=[.ref a,.ref b]/\SqB K H1 t1 a xs/\SqB K H1 t2 b ys/\Z (Itz2 K t1 t2 a b xs ys) H1:=rfl
def Q9 {x1} (hg:Gl X "zip")(hm:X.mg "zip"=none)(ha:PA X [e,f] ta)(hs:starEach [e,f] X.env=[(false,eval e X.env),(false,eval f X.env)]:=by rfl)(bE:starEach [f] X.env=[(false,eval f X.env)]:=by rfl):PI X (.Tuple bG x1 bq) (.Call (.Name "zip" p) [e,f] [] pos) (Xt X.K ta):=by
 intro aa s σ H R I h;refine Call_ (Ee I hg hm boot_zip (ql_ (thn (ha pos aa s σ H _ I h) fun us s1 ⟨vs,H1,I1,r1,q1⟩=>?_) (by rw[hs,bE]) (by rw[bE];rfl)));obtain⟨a,b,xs,ys,t1,t2,ev,hq,aH,q⟩:=q1;subst ev;cases r1 with
 |cons r rr=>cases rr with
  |cons r' rr=>
   cases rr;cases r;cases r';obtain⟨its,rv,pl⟩:=I1.seqB hq;obtain⟨aA,iF,pl2⟩:=I1.seqB aH;refine NC pl pl2 fun h' hz gM gN hi1 hi2 hsz hk=>?_;refine wpAny_pyIter_zip (s:={s1 with heap:=h' }) hz ?_;have I2:Inv X aa σ H1 {s1 with heap:=h' }:=I1.kept (t':=s1.toks) hk;refine⟨_,_,_,_,H1,rfl,I2,Q7 (zipApart_new pl.lt pl2.lt) xs ys,⟨hz,gM,⟨_,_,gN⟩,hi1,hi2⟩,fun c hc=>?_,q⟩;have cG:s1.heap.objs.size<=c:=by
    simp only[jE_,xi_,or_false]at hc;rcases hc with rfl|rfl|rfl|rfl|rfl
    ·exact x8_ _ 4
    ·exact x8_ _ 2
    ·exact x8_ _ 3
    ·exact jh_ _
    ·exact x8_ _ 1
   exact I1.fpOk cG (I1.hok.fresh cG)
def Xu {K:α3} (n:Nat)(hn1:n<=xs.length)(hn2:n<=ys.length)(hn3:xs.length=n\/ys.length=n)(Pv:Nat->List V->St->Hp->Prop)(h0:Pv 0 [] (cp.st σ) H)(hz:n<sizeLine)
  (hl:∀i zs σ H,i<=n->Pv i zs σ H->SqB K H t1 a xs/\SqB K H t2 b ys/\zs.length<=i)
  (hs:∀i u v zs σ H t,i<n->xs[i]?=some u->ys[i]?=some v->Pv i zs σ H->H t=none->g (.ref t) σ (upd H t (.tup [u,v])) fun ag H2=>tc ag H2 fun b H3=>if b=true then te ag H3 fun v H4=>Pv (i+1) (zs++[v]) ag H4 else Pv (i+1) zs ag H3)
  (hd:∀zs σ H,Pv n zs σ H->∀D,H D=none->Q (.ref D) (upd H D (.lst zs))):Ea (Itz2 K t1 t2 a b xs ys) cp g tc te σ H Q:=by
 refine⟨fun i m zs σ H=>m=n-i/\i<=n/\Pv i zs σ H,⟨n,by simp,qs_ _,h0⟩,?_⟩;rintro i m zs σ H ⟨rfl,hi,p⟩;obtain⟨q1,q2,ly⟩:=hl i zs σ H hi p;refine⟨by lia,?_⟩;by_cases ao:i<n
 ·refine .inr ⟨⟨by lia,by lia,q1,q2⟩,Pv (i+1),fun dQ af H' p'=>⟨n-(i+1),by lia,rfl,ao,p'⟩,fun x H' y=>?_⟩;obtain⟨t,u,v,e1,e2,e3,rfl,rfl⟩:=y;exact hs i u v zs σ H t ao e2 e3 p e1
 ·have e:i=n:=by lia
  subst e;exact .inl ⟨⟨by lia,q1,q2⟩,hd zs σ H p⟩
def Oq {K:α3} (f:V->V)(e:cp.st σ=none::af)(hl:SqB K H t a xs)(hz:xs.length<sizeLine)(hs:∀x∈xs,∀R:VK,R (f x) H->te (some x::af) H R)(hd:∀D,H D=none->Q (.ref D) (upd H D (.lst (xs.map f)))):
  ((∃xs,SqL K H a xs)/\Ea (Itl K a) cp (G8 0) Kb te σ H Q)\/((∃xs,SqT K H a xs)/\Ea (Itt K a) cp (G8 0) Kb te σ H Q):=by
 cases t
 ·exact .inl ⟨⟨_,hl⟩,Sy f e hl hz hs hd⟩
 ·exact .inr ⟨⟨_,hl⟩,Lk f e hl hz hs hd⟩
def Ot {K:α3} (f:Int->Int->Int)(e:cp.st σ=none::none::af)(h1:SqB K H t1 a (xs.map V.int))(h2:SqB K H t2 b (ys.map V.int))(ah:xs.length=ys.length)(hz:xs.length<sizeLine)
  (hg:∀t u v o1 o2 H N,H t=some (.tup [u,v])->N (some u::some v::af) H->g (.ref t) (o1::o2::af) H N)
  (hs:∀x y H',x∈xs->y∈ys->Same H H'->∀R:VK,R (.int (f x y)) H'->te (some (.int x)::some (.int y)::af) H' R)
  (hd:∀H' D,Same H H'->H' D=none->Q (.ref D) (upd H' D (.lst ((pk f xs ys).map V.int)))):Ea (Itz2 K t1 t2 a b (xs.map V.int) (ys.map V.int)) cp g Kb te σ H Q:=by
 refine Xu xs.length (by rw[ja_];lia) (by rw[ja_];lia) (by rw[ja_];exact .inl rfl) (fun i zs ag H2=>Same H H2/\zs=((pk f xs ys).take i).map V.int/\∃o1 o2,ag=o1::o2::af) ⟨Same.refl _,by simp,none,none,e⟩ hz (fun i zs ag H2 hi h=>?_) (fun i u v zs ag H2 t hi hu hv h ht=>?_) (fun zs ag H2 h D hD=>?_)
 ·obtain⟨s2,rfl,_⟩:=h;exact⟨h1.mono s2,h2.mono s2,by rw[ja_,jz_];lia⟩
 ·obtain⟨s2,rfl,o1,o2,rfl⟩:=h;obtain⟨x,hx,rfl⟩:=IV hu;obtain⟨y,hy,rfl⟩:=IV hv;refine hg t _ _ o1 o2 _ _ Ab ?_;rw[QH,if_pos rfl];refine hs x y _ (jj_ hx) (jj_ hy) (s2.newT ht) _ ⟨s2.newT ht,?_,_,_,rfl⟩;rw[jB_,xR_,hx,hy];simp
 ·obtain⟨s2,rfl,_⟩:=h;have:=hd H2 D s2 hD
  rwa [qm_ (by rw[z0_];lia)]
end L2
namespace Nest
noncomputable def sl (row:α2)(b i:Nat):α2:=(row.take i).drop b
noncomputable def dl (p e x:Int):Int:=if x=e then -1 else if p<=x then 1 else 0
noncomputable def outF (p e:Int)(s:α2×Int)(x:Int):α2×Int:=if x=e then (s.1,s.2-1) else (if s.2=0 then s.1++[x] else s.1,if p<=x then s.2+1 else s.2)
noncomputable def outS (p e:Int)(l:α2):α2×Int:=l.foldl (outF p e) ([],0)
noncomputable def outW (p e:Int)(l:α2):α2:=(outS p e l).1
noncomputable def wd (p e:Int)(row:α2)(i a:Nat):α2:=outW p e (sl row (a+1) i)
end Nest
namespace L2
open PySem PySem.Spec PyProof.Rows GW
def ND {K:α3} (hK:X.K=K)(hc:X.calm=true)(h:PGs X es t)
  (hn:(assignEach es X.env).length=n:=by rfl) (fQ:(assignEach es X.env).findIdx? (·.1)=none:=by rfl):PG X (.Tuple es k pos) (gTup K n t):=by
 subst hK;exact N4 hc h hn fQ
end L2
namespace HT
open PySem PySem.Spec PyProof.Rows L2
section
variable {prog:Program} {w:World} {A:Around} {E:Value->Shared->Prop} {s:Shared}
def getItem_tuple_whole {t sl:Addr} {lo hi:Option Int} (ht:IsTup s.heap t items)(hs:s.heap.IsSliceOf sl vl vu .none)(pl:IsPart vl lo)(pu:IsPart vu hi)
  (hw:sIx items.size 0 lo=0/\sIx items.size items.size hi=items.size) (h:Q (.ref t) s):wpAny (model prog w) A (getItem (.ref t) (.ref sl)) Q E s:=by
 obtain⟨os,fS,kY,jU⟩:=id hs;have mE:s.TypeIs (.ref sl) "slice" := ⟨os,fS,kY⟩;unfold getItem
 try with_reducible refine qC_ ?_
 first|refine je_ (jq_ ?_)|skip
 refine je_ (wpAny_sequenceKey ht.typeIs (by decide) ?_);refine je_ (qg_ (name:=Str.ofString "__getitem__") ht.typeIs qi_
  (qj_ qi_ ht.typeIs entry_tuple_getitem ?_ (args_tuple_getitem _ _)))
 show wpAny _ _ (Builtin.Tuple.tupleItemsOf (.ref t) >>= _) _ _ s;refine je_ (tupleItemsOf_ ht ?_);refine je_ (zd_ mE ?_);rw[if_pos (by decide)];refine je_ (DT hs pl pu ?_);rw[hw.1,hw.2];show wpAny _ _ (if ((((0:Nat):Int)==0&&(1:Int)==1&&(items.size-0)==items.size)=true) then _ else _) _ _ s;rw[if_pos (by simp)];refine je_ ?_;unfold Builtin.Tuple.tupleIsExact;refine je_ (zd_ ht.typeIs (jq_ ?_));rw[if_pos (by decide)];refine je_ (wpAny_rule ?_);exact jq_ ⟨_,rfl,jq_ h⟩
end
end HT
namespace L2
open PySem PySem.Spec PyProof.Rows GW
noncomputable def Xv (K:α3):V->Option Int->Option Int->Hp->VK->Prop:=fun x lo hi H Q=>∃a xs,x=.ref a/\SqT K H a xs/\∀p H',Same H H'->SqT K H' p (cutV xs lo hi)->Q (.ref p) H'
theorem UA {K:α3} {lo hi:Option Int} : Xv K x lo hi H Q=∃a xs,x=.ref a/\SqT K H a xs/\∀p H',Same H H'->SqT K H' p (cutV xs lo hi)->Q (.ref p) H':=rfl
def El : SlR X (Xv X.K):=by
 intro aa s σ H x v vl vu lo hi sl Q I rx hs pl pu h;obtain⟨a,xs,rfl,hx,q⟩:=h;by_cases hw:HT.sIx xs.length 0 lo=0/\HT.sIx xs.length xs.length hi=xs.length
 ·cases rx;obtain⟨its,r,ht,hz⟩:=I.tuple hx;have ah:its.toArray.size=xs.length:=by rw[jl_];exact r.length.symm
  refine⟨"tuple",_,qi_.lookup,ht.typeIs,?_⟩;refine HT.getItem_tuple_whole ht hs pl pu (by rw[ah];exact hw) ⟨.ref a,H,I,rfl,q a H (Same.refl _) ?_⟩;unfold cutV;rw[hw.1,hw.2,x1_,zA_,jr_];exact hx
 ·exact TV aa s σ H (.ref a) v vl vu lo hi sl Q I rx hs pl pu ⟨a,xs,rfl,hx,hw,fun p hp=>q p _ (Same.new hp) (SqT.of Ab)⟩
def Vt {K:α3} (hK:X.K=K)(hl:PE X l tl):PI X tg l (iSeq K tl):=by subst hK;exact KC hl
def SM {K:α3} (hK:X.K=K)(hl:PE X l tl):PI X tg l (U6 K tl):=by subst hK;exact Ba hl
def Ra {K:α3} (hK:X.K=K)(hl:PE X l tl):PI X tg l (iTup K tl):=by subst hK;exact Cc hl
def Rb {K:α3} (g:Nat->V)(e:cp.st σ=none::af)(hl:SqB K H t a xs)(hz:xs.length<sizeLine)(hs:∀i x,xs[i]?=some x->∀R:VK,R (g i) H->te (some x::af) H R)(hd:∀D,H D=none->Q (.ref D) (upd H D (.lst ((oW xs.length).map g)))):
  ((∃xs,SqL K H a xs)/\Ea (Itl K a) cp (G8 0) Kb te σ H Q)\/((∃xs,SqT K H a xs)/\Ea (Itt K a) cp (G8 0) Kb te σ H Q):=by
 cases t
 ·refine .inl ⟨⟨_,hl⟩,Fb (xs:=xs) (fun i ys ag H2=>H2=H/\ys=(oW i).map g/\∃o,ag=o::af) ⟨rfl,rfl,none,e⟩ hz (fun i ys ag H2 hi h=>?_) (fun i x ys ag H2 hx h=>?_) (fun ys ag H2 h=>?_)⟩
  ·obtain⟨rfl,rfl,_⟩:=h;exact⟨hl,by rw[ja_,jI_];exact jh_ _⟩
  ·obtain⟨rfl,rfl,o,rfl⟩:=h;refine hs i x hx _ ⟨rfl,?_,some x,rfl⟩;rw[j4_,jg_];rfl
  ·obtain⟨rfl,rfl,_⟩:=h;exact hd
 ·refine .inr ⟨⟨_,hl⟩,IE (xs:=xs) (fun i ys ag H2=>H2=H/\ys=(oW i).map g/\∃o,ag=o::af) ⟨rfl,rfl,none,e⟩ hz (fun i ys ag H2 hi h=>?_) (fun i x ys ag H2 hx h=>?_) (fun ys ag H2 h=>?_)⟩
  ·obtain⟨rfl,rfl,_⟩:=h;exact⟨hl,by rw[ja_,jI_];exact jh_ _⟩
  ·obtain⟨rfl,rfl,o,rfl⟩:=h;refine hs i x hx _ ⟨rfl,?_,some x,rfl⟩;rw[j4_,jg_];rfl
  ·obtain⟨rfl,rfl,_⟩:=h;exact hd
end L2
namespace L2
open PySem PySem.Spec PyProof.Rows
def CD {K:α3}(h:X.K=K):OpR X (binaryOp .Add) (A0 K):=by subst h;exact AX
end L2
namespace L2
open PySem PySem.W PySem.Spec PySem.Calls PyProof.Rows
def O4 [DecidableEq κ](knd:HeapKind prog w κ) (hd:(d==sysModules)=false):
  MeetsIn prog w (Builtin.«dict.__len__» ⟨[.ref d],[]⟩) (fun _ R s=>∃xs,s.heap.DictOfH knd d xs/\R (.ok (.ret (.int (xs.length:Nat) s.toks))) {s with toks:=s.toks+1}):=
 .of_wp fun A R s ⟨xs,⟨o,es,ep,ho,_,dN,he,_⟩,h⟩=>by
  show wpAny _ _ (dictSize d >>= _) _ _ s;unfold dictSize;refine je_ (je_ (zw_ ho dN (jq_ ?_)));refine je_ (wpAny_pendingCount_other hd (wpAny_ret_mkInt ?_));rw[Nat.add_zero,size_of_entries he];exact h
def Xw {prog:Program}{w:World}{κ:Type}[DecidableEq κ]{knd:HeapKind prog w κ}{A:Around}{E:Value->Shared->Prop}{s:Shared}{d:Addr}{xs:List (κ×Addr×Value)}{Q:Value->Shared->Prop}(hd:(d==sysModules)=false)(hm:s.heap.DictOfH knd d xs)(cb:(xs.length:Int)<2 ^ 63)
  (h:Q (.int xs.length (s.toks+1)) {s with toks:=s.toks+1+1}):wpAny (model prog w) A (call (.builtin "len") [.ref d]) Q E s:=by
 refine Calls.call_function_entry kind_len plain_len entry_len (args_len1 _) ?_;unfold Builtin.«len»;refine je_ (m:=oneArg "len" _) (jq_ (je_ (m:=callSpecial? (.ref d) (Str.ofString "__len__")) (qg_ (name:=Str.ofString "__len__") hm.typeIs F.slot_dict_len (call_meetsIn F.slot_dict_len hm.typeIs F.entry_dict_len (F.args_dict_len_1 _) (O4 knd hd) ⟨xs,hm,?_⟩))));show wpAny _ _ _ _ _ {s with toks:=s.toks+1};refine je_ (qC_ (jq_ (je_ (wpAny_letGo ?_))));show wpAny _ _ (if ((xs.length:Nat):Int)<0 then _ else _) _ _ _;rw[if_neg s!""];show wpAny _ _ (if ((xs.length:Nat):Int) >= 2 ^ 63 then _ else _) _ _ _;rw[if_neg s!""];exact je_ (wpAny_mkInt (jq_ ⟨_,rfl,h⟩))
def Kc : Cd X (.builtin "len") (fun xs H Q=>∃p kvs,xs=[.ref p]/\H p=some (.dT kvs)/\Q (.int kvs.length) H):=by
 intro aa s σ H xs us Q I r h;obtain⟨p,kvs,rfl,e,q⟩:=h;obtain⟨u,rfl,rx⟩:=vals1 r;cases rx;obtain⟨z,hd,xs,aX,dd⟩:=Vc I.hok e;have hn:=Mg;have ah:kvs.length=xs.length:=aX.length;exact Xw hd dd s!"" ⟨.int kvs.length,H,I.tok _,⟨_,by rw[ah]⟩,q⟩
end L2
set_option maxHeartbeats 1000000
set_option maxHeartbeats 4000000
namespace L2
section
variable {α:Type} [DecidableEq α]
noncomputable def ins1 (acc:List α)(x:α):List α:=if x∈acc then acc else acc++[x]
noncomputable def Vu (acc row:List α):List α:=row.foldl ins1 acc
noncomputable def Rc (row:List α):List α:=Vu [] row
noncomputable def num (row:List α):α2:=row.map fun x=>((Rc row).idxOf x:Int)
noncomputable def ncl (row:List α):Nat:=(Rc row).length
end
noncomputable def rowB (n:Nat)(b:α2->Nat->Int)(w:α2):α2:=(oW n).map (b w)
noncomputable abbrev StC:=α1×α2
noncomputable def Yn (n:Nat)(b:α2->Nat->Int)(w:α2)(st:StC)(x:Nat):StC:=if ncl st.2<ncl (st.2.zip (rowB n b ((x:Int)::w))) then (st.1++[(x:Int)::w],num (st.2.zip (rowB n b ((x:Int)::w)))) else st
noncomputable def Xx (n:Nat)(b:α2->Nat->Int)(w:α2)(L:Nat)(st:StC):StC:=(oW L).foldl (Yn n b w) st
noncomputable def UB (n:Nat)(b:α2->Nat->Int)(L:Nat):Nat->Nat->StC->StC
 |0,_,st=>st
 |f+1,k,st=>if k<st.1.length then UB n b L f (k+1) (Xx n b (st.1.getD k []) L st) else st
section
variable {n L:Nat} {b:α2->Nat->Int} {w:α2} {st:StC}
noncomputable def wcOf (n L:Nat)(b:α2->Nat->Int):StC:=UB n b L 41 0 ([[]],num (rowB n b []))
end
end L2
namespace L2
open GW GB
noncomputable def bW (aV:α2)(aC:α1)(w:α2)(r:Nat):Int:=aV.getD (Yi aC (r:Int) w).toNat 0
noncomputable def cf (c:α2)(r:Int):Int:=c.getD r.toNat 0
noncomputable def hm (c R:α2)(r:Int):Int:=(((Rc (R.map (cf c))).idxOf (cf c r):Nat):Int)
noncomputable def Xy (c acc:α2)(r:Int):α2:=if cf c r∈acc.map (cf c) then acc else acc++[r]
noncomputable def FR (c R:α2):α2:=R.foldl (Xy c) []
noncomputable def hrow (c R:α2)(aC:α1)(r:Int):α2:=(aC.getD r.toNat []).map (hm c R)
noncomputable def cOf (L:Nat)(aV:α2)(aC:α1):α2:=(wcOf aV.length L (bW aV aC)).2
noncomputable def rOf (aC:α1):α2:=(QV aC).map (·.1)
noncomputable def sF (L:Nat)(aV:α2)(aC:α1):α2:=FR (cOf L aV aC) (rOf aC)
noncomputable def hO (L:Nat)(aV:α2)(aC:α1)(r:Int):Int:=hm (cOf L aV aC) (rOf aC) r
section
variable {L:Nat} {aV:α2} {aC:α1}
noncomputable def wi (aC:α1)(r:Int):α2:=(((QV aC).find? fun e=>decide (e.1=r)).map (·.2)).getD []
end
end L2
set_option maxHeartbeats 1000000
namespace L2
open PySem PySem.Spec PyProof.Rows
noncomputable def nt (n:Int):Str:=Str.ofString (toString n)
end L2
set_option maxHeartbeats 4000000
namespace PySem
open Sem (wp)
namespace F
def Jq:Manifest.owners.lookup (String.ofList ['d','e','s','r','e','v','e','r'].reverse)=some Manifest.sig_reversed:=by kernel_rfl
def slot_rvt_next:Slot "reversed" "__next__" "reversed.__next__" :=
 .of (owner := "reversed") (n := "__next__") (by rw[xz_,qW_];kernel_rfl) (by decide +kernel) (by decide +kernel) (by decide +kernel)
  (by first|exact .inl (by decide +kernel)|exact .inr (by decide +kernel)) (by rw[x2_];kernel_rfl)
def entry_rvt_next:entryFor table "reversed.__next__"=some Builtin.«reversed.__next__» := entryFor_of_tree (by kernel_rfl)
def args_rvt_next_1 (a:Value):argsOk "reversed.__next__" ⟨[a],[]⟩:=by
 unfold argsOk;rw[signature?_of (id := "reversed.__next__") (n:=['_','_','t','x','e','n','_','_']) (o:=['d','e','s','r','e','v','e','r']) (by kernel_rfl) Jq];kernel_rfl
def slot_rvt_iter:Slot "reversed" "__iter__" "reversed.__iter__" :=
 .of (owner := "reversed") (n := "__iter__") (by rw[xz_,qW_];kernel_rfl) (by decide +kernel) (by decide +kernel) (by decide +kernel)
  (by first|exact .inl (by decide +kernel)|exact .inr (by decide +kernel)) (by rw[x2_];kernel_rfl)
def args_rvt_iter_1 (a:Value):argsOk "reversed.__iter__" ⟨[a],[]⟩:=by
 unfold argsOk;rw[signature?_of (id := "reversed.__iter__") (n:=['_','_','r','e','t','i','_','_']) (o:=['d','e','s','r','e','v','e','r']) (by kernel_rfl) Jq];kernel_rfl
def entry_rvt_iter:entryFor table "reversed.__iter__"=some Builtin.«dict_keyiterator.__iter__» :=
 entryFor_alias (id' := "dict_keyiterator.__iter__") (by kernel_rfl) (by first|rfl|decide +kernel|(unfold String.splitOn;simp +decide [String.splitOnAux])) (by decide +kernel) (by kernel_rfl)
def slot_rvt_hint:Slot "reversed" "__length_hint__" "reversed.__length_hint__" :=
 .of (owner := "reversed") (n := "__length_hint__") (by rw[xz_,qW_];kernel_rfl) (by decide +kernel) (by decide +kernel) (by decide +kernel)
  (by first|exact .inl (by decide +kernel)|exact .inr (by decide +kernel)) (by rw[x2_];kernel_rfl)
def entry_rvt_hint:entryFor table "reversed.__length_hint__"=some Builtin.«reversed.__length_hint__» := entryFor_of_tree (by kernel_rfl)
def args_rvt_hint_1 (a:Value):argsOk "reversed.__length_hint__" ⟨[a],[]⟩:=by
 unfold argsOk;rw[signature?_of (id := "reversed.__length_hint__") (n:=['_','_','t','n','i','h','_','h','t','g','n','e','l','_','_']) (o:=['d','e','s','r','e','v','e','r']) (by kernel_rfl) Jq];kernel_rfl
def rvt_no_len:typeLookup (.type "reversed") "__len__"=pure none:=by rw[xz_,qW_];kernel_rfl
def tup_no_rev:typeLookup (.type "tuple") "__reversed__"=pure none:=by rw[xz_,qW_];kernel_rfl
def Ls:Slot "reversed" "__init__" "object.__init__" :=
 .of (owner := "object") (n := "__init__") (by rw[xz_,qW_];kernel_rfl) (by decide +kernel) (by decide +kernel) (by decide +kernel)
  (by first|exact .inl (by decide +kernel)|exact .inr (by decide +kernel)) (by rw[x2_];kernel_rfl)
def called_reversed:TypeCalled "reversed" "reversed.__new__" "object.__init__" :=
 ⟨by decide +kernel,by decide +kernel,⟨_,_,mro_reversed⟩,made_reversed,plain_reversed_new,sub_reversed_self,Ls⟩
def tup_no_dict:isSubtype (.type "tuple") (.type "dict")=pure false:=by rw[x2_];kernel_rfl
end F
section
variable {prog:Program} {w:World} {A:Around} {E:Value->Shared->Prop} {s:Shared}
noncomputable def Rf (l:Addr)(i:Int):Obj:={cls:=.type "reversed",data:=.fields #[.ref l,rawInt i]}
noncomputable def Heap.IsRvt (h:Heap)(a l:Addr)(i:Int):Prop:=∃o,h.get? a=some o/\o.cls=.type "reversed" /\ o.data=.fields #[.ref l,rawInt i]
def Heap.IsRvt.typeIs (x:s.heap.IsRvt a l i):s.TypeIs (.ref a) "reversed" := let ⟨o,ho,hc,_⟩:=x;⟨o,ho,hc⟩
def Heap.IsRvt.at {h h':Heap}{a l:Addr}{i:Int}(x:h.IsRvt a l i)(e:∀o,h.get? a=some o->h'.get? a=some o):h'.IsRvt a l i:=let ⟨o,ho,r⟩:=x;⟨o,e _ ho,r⟩
open PyProof.Rows in
def MB {l:Addr}{items:Array Value}{Q₁:Value->Shared->Prop}(hl:IsTup s.heap l items)(cb:(items.size:Int)<2 ^ 63)(h:∀tk,Q₁ (.ref s.heap.objs.size) {s with heap:=s.heap.push (Rf l ((items.size:Int)-1)),toks:=tk}):
  codeAny (model prog w) A (.call (.builtin "reversed.__new__") ⟨[.type "reversed",.ref l],[]⟩) (wants Q₁ E) s:=by
 have T:=hl.typeIs;have nc:=newClass_reversed (.ref l);refine codeAny_of_tree (je_ (xD_ (F.newCall_reversed_1 _) (jq_ ⟨q5_ F.plain_reversed_new _,qN_ F.entry_reversed_new ?_⟩)));rw[qv_ F.plain_reversed_new _]
 wp_walk using xO_ T F.tup_no_rev,xO_ T F.slot_tuple_getitem.lookup,xF_ T F.tup_no_dict,len_tuple (A:=A.in1) hl cb
 exact h _
open PyProof.Rows in
def SN {l:Addr}{items:Array Value}{Q:Value->Shared->Prop}(hl:IsTup s.heap l items)(cb:(items.size:Int)<2 ^ 63)
  (h:∀tk,Q (.ref s.heap.objs.size) {s with heap:=s.heap.push (Rf l ((items.size:Int)-1)),toks:=tk}):wpAny (model prog w) A (call (.type "reversed") [.ref l]) Q E s:=by
 refine callType_codes (Q₁:=fun obj s₁=>s₁.TypeIs obj "reversed" /\ Q obj s₁) F.called_reversed (F.typeCall_reversed_1 _) F.entry_object_init
  (MB hl cb fun tk=>⟨⟨_,jv_ _ rfl,rfl⟩,h tk⟩) fun obj s₁ h₁=>?_
 exact⟨h₁.1,zL_ obj _,object_init_meets F.called_reversed.init.lookup F.called_reversed.made (by decide) prog w A.in1 _ s₁ ⟨h₁.1,rfl,h₁.2⟩⟩
open PyProof.Rows in
def SR {it l:Addr}{i:Nat}{items:Array Value}{x:Value}{Q:α5->Shared->Prop}(aq:s.heap.IsRvt it l (i:Int))(hl:IsTup s.heap l items)(hx:items[i]?=some x)(cb:(items.size:Int)<2 ^ 63)
  (hQ:∀h' tk,h'.IsRvt it l ((i:Int)-1)->Heap.SameBut it s.heap h'->Q (some x) {s with heap:=h',toks:=tk}):wpAny (model prog w) A (pyNext (.ref it)) Q E s:=by
 obtain⟨⟨c,dc,da,sl⟩,ho,hc,hd⟩:=id aq;obtain rfl:da=_:=hd;have hi:i<items.size:=(qA_.mp hx).1;have nn:¬ ((i:Int)<0):=by lia
 have e1:=F.slot_rvt_next;have T:=hl.typeIs;unfold pyNext;refine je_ (xm_ (qg_ aq.typeIs e1 (qj_ e1 aq.typeIs F.entry_rvt_next ?_ (F.args_rvt_next_1 _))));have f0:(#[Value.ref l,rawInt (i:Int)]:Array Value)[0]?=some (.ref l):=rfl;have f1:(#[Value.ref l,rawInt (i:Int)]:Array Value)[1]?=some (rawInt (i:Int)):=rfl;have dd:(⟨c,dc,.fields #[.ref l,rawInt (i:Int)],sl⟩:Obj).data=.fields #[.ref l,rawInt (i:Int)]:=rfl;have gi:∀(A:Around) (Q:Value->Shared->Prop) (E:Value->Shared->Prop),Q x {s with toks:=s.toks+1}->wpAny (model prog w) A (getItem (.ref l) (.int (i:Int) s.toks)) Q E {s with toks:=s.toks+1}:=fun A Q E q=>getItem_tuple (s:={s with toks:=s.toks+1}) hl s!"" s!"" (j:=i) (by unfold seqIndex?;simp;lia) hx q
 wp_walk using zu_ ho dd f0,zu_ ho dd f1,xO_ T F.slot_tuple_getitem.lookup,gi A.in1
 exact⟨x,rfl,jq_ (hQ _ _ ⟨_,qG_ _ ho (by simp[Obj.mapFields,Obj.isFreed]),hc,by simp[Obj.mapFields,rawInt]⟩ (q4_ ..))⟩
def Vv {it l:Addr} (hh:A.handled=none)(aq:s.heap.IsRvt it l (-1))(hQ:∀h',Heap.ExtBut it s.heap h'->Q none {s with heap:=h' }):wpAny (model prog w) A (pyNext (.ref it)) Q E s:=by
 obtain⟨⟨c,dc,da,sl⟩,ho,hc,hd⟩:=id aq;obtain rfl:da=_:=hd;have e1:=F.slot_rvt_next;unfold pyNext;refine je_ (xm_ (qg_ aq.typeIs e1 (qj_ e1 aq.typeIs F.entry_rvt_next ?_ (F.args_rvt_next_1 _))))
 wp_walk
 exact wpAny_raiseNew_none hh (je_ (xF_ (T := "StopIteration") (b:=true) ⟨_,jv_ _ rfl,rfl⟩ isSubtype_stop (jq_ (hQ _ ((((q4_ ..).extBut.trans (q4_ ..).extBut).push _).push _)))))
def Ou {it l:Addr} (aq:s.heap.IsRvt it l i)(h:Q (.ref it) s):wpAny (model prog w) A (pyIter (.ref it)) Q E s:=by
 refine wpAny_pyIter_slot aq.typeIs F.slot_rvt_iter (qj_ F.slot_rvt_iter aq.typeIs F.entry_rvt_iter ?_ (F.args_rvt_iter_1 _));show wpAny _ _ (ret (.ref it)) _ _ s;exact jq_ ⟨_,rfl,"reversed",_,aq.typeIs,F.slot_rvt_next.lookup,h⟩
open PyProof.Rows in
def SS {I l:Addr}{items:Array Value}{Q:Bool->Shared->Prop}(aq:s.heap.IsRvt I l ((items.size:Int)-1))(hl:IsTup s.heap l items)(cb:items.size<=sizeLine)(h:∀b tk,Q b {s with toks:=tk}):wpAny (model prog w) A (Builtin.List.listLengthHint (.ref I)) Q E s:=by
 obtain⟨o,ho,hc,hd⟩:=id aq;unfold Builtin.List.listLengthHint;refine je_ (xO_ aq.typeIs F.rvt_no_len ?_);show wpAny _ A (specialOf (Value.ref I) (Str.ofString "__length_hint__") >>= _) _ _ _;refine je_ (xO_ aq.typeIs F.slot_rvt_hint.lookup ?_);generalize hid:("reversed.__length_hint__" : String)=id0
 wp_delta
 rw[show splitId id0=some ("reversed","__length_hint__") from by subst hid;decide +kernel];subst hid;refine je_ (xF_ (T := "reversed") (b:=true) aq.typeIs (by rw[x2_];kernel_rfl) ?_);refine zY_ (fun eQ=>absurd eQ (by decide)) (fun _=>?_);refine zY_ (fun eQ=>absurd eQ (by decide +kernel)) (fun _=>?_);refine je_ (wpAny_rule ?_);refine je_ (xD_ (F.slot_rvt_hint.bind _) ?_)
 try dsimp only
 refine je_ (xm_ (qj_ F.slot_rvt_hint aq.typeIs F.entry_rvt_hint ?_ (F.args_rvt_hint_1 _)));have hz24:items.size<=16777216:=cb;unfold Builtin.«reversed.__length_hint__»;refine je_ (xD_ (a:=Value.ref I) rfl ?_);refine je_ (zu_ ho hd (x:=.ref l) rfl ?_);refine zY_ (fun eQ=>absurd eQ (by simp[BEq.beq])) (fun _=>?_);refine je_ (len_tuple hl s!"" ?_);refine je_ (xD_ (a:=some ((items.size:Nat):Int)) rfl ?_)
 try dsimp only
 refine je_ (zu_ ho hd (x:=rawInt ((items.size:Int)-1)) rfl ?_);show wpAny _ _ (if ((items.size:Nat):Int)<(items.size:Int)-1+1 then _ else _) _ _ _;rw[if_neg s!""];refine je_ (wpAny_mkInt (jq_ ⟨_,rfl,?_⟩));refine je_ (xD_ (a:=some ((items.size:Int)-1+1)) rfl ?_)
 try dsimp only
 rw[if_neg (by unfold Builtin.List.listFitsIndex;simp;lia),if_neg s!"",if_neg (by unfold Builtin.List.listTooLong;simp;show _<=16777216;lia)];exact jq_ (h _ _)
end
open PyProof.Rows in
def Jr {h h':Heap}{a:Addr}{items:Array Value}(x:IsTup h a items)(e:∀o,h.get? a=some o->h'.get? a=some o):IsTup h' a items:=by obtain⟨o,ho,r⟩:=x;exact⟨o,e o ho,r⟩
open PyProof.Rows in
def Walks.rvt {prog:Program}{w:World}{A:Around}(hh:A.handled=none)(I l:Addr)(aw:l≠I)(items:Array Value)(cb:items.size<=sizeLine):
  Walks prog w A I [I,l] [I] items.size (fun i v=>items[items.size-1-i]?=some v) (fun i h=>∃k:Nat,i+k=items.size/\h.IsRvt I l ((k:Int)-1)/\IsTup h l items) where
 sub:=fun _ m=>jE_.mpr (.inl (jn_.mp m))
 frame:=fun _ _ _ ⟨k,e,r,t⟩ q=>⟨k,e,r.at (q I jL_),Jr t (q l (jA_ _ jL_))⟩
 item:=fun i s Q E lt ⟨k,e,r,t⟩ next=>by
  obtain _|k:=k
  ·lia
  have z:items.size<=16777216:=cb;have p:items[k]?=some (items[k]'s!""):=x0_ _;rw[show ((k+1:Nat):Int)-1=(k:Int) by lia]at r;exact SR r t p s!"" fun u tk r' same=>next _ u tk (by rw[show items.size-1-i=k by lia];exact p) ⟨k,by lia,r',Jr t fun o g=>(same.2 l aw).trans g⟩ fun b o n g=>same.extBut b o (fun y=>n (y ▸ jL_)) g
 done:=fun s Q E ⟨k,e,r,t⟩ next=>by
  obtain rfl:k=0:=by lia
  exact Vv hh r fun u x=>next u s.toks fun b o n g=>x b o (fun y=>n (y ▸ jL_)) g
 self:=fun _ _ _ _ ⟨_,_,r,_⟩ q=>Ou r q
section
open PyProof.Rows
variable {prog:Program} {w:World} {A:Around} {E:Value->Shared->Prop} {s:Shared}
def Kd (hh:A.handled=none)(aq:s.heap.IsRvt I l ((items.size:Int)-1))(hl:IsTup s.heap l items)(hz:items.size<=sizeLine)
  (hQ:∀(h':Heap) (tk:Nat) (c9:Array Value),(∀b o,b≠I->s.heap.get? b=some o->h'.get? b=some o)->ItemsOf (fun i v=>items[items.size-1-i]?=some v) c9 items.size->Q (.ref h'.objs.size) {s with heap:=h'.push {cls:=.type "tuple",data:=.seq c9 },toks:=tk}):
  wpAny (model prog w) A (call (.type "tuple") [.ref I]) Q E s:=by
 obtain⟨oi,e1,e2,e3⟩:=id aq;obtain⟨ol,f1,f2,f3⟩:=id hl;have ne:l≠I:=fun z=>by
  subst z;rw[e1]at f1;cases f1;rw[e2]at f2;exact absurd f2 (by decide)
 have G:=Gat.ofWalks (s:=s) (r:=I) (T := "reversed") (fun A h=>Walks.rvt (prog:=prog) (w:=w) (A:=A) h I l ne items hz) hh (fun m=>by
  rcases jE_.mp m with z|z
  ·exact absurd (ju_ e1) (by rw[<-z];exact j9_ _)
  ·exact absurd (ju_ f1) (by rw[<-jn_.mp z];exact j9_ _)) aq.typeIs (by decide) (by decide) hz (fun A t Q E k q=>SS (items:=items) (aq.at fun o z=>k _ o z) (Jr hl fun o z=>k _ o z) hz q) fun A h1 Q E k _ q=>Ou (aq.at (h':=h1) fun o z=>k _ o z) (q h1 ⟨items.size,qP _,aq.at (h':=h1) fun o z=>k _ o z,Jr hl fun o z=>k _ o z⟩ fun b o z=>z)
 exact G.tuple hh fun h' tk acc f le k4=>hQ h' tk acc.toArray (fun b o n q=>k4 b o (fun z=>n (jn_.mp z)) q) (QN le f)
end
end PySem
namespace L2
open PySem PySem.Spec PyProof.Rows
noncomputable def Lu (K:α3)(te:TE):TE:=fun σ H Q=>te σ H fun x H1=>∃a xs,x=.ref a/\SqT K H1 a xs/\∀p,H1 p=none->Q (.ref p) (upd H1 p (.tup xs.reverse))
theorem MC {K:α3} : Lu K te σ H Q=te σ H fun x H1=>∃a xs,x=.ref a/\SqT K H1 a xs/\∀p,H1 p=none->Q (.ref p) (upd H1 p (.tup xs.reverse)):=rfl
section
variable {X:Cx}
def Vw {e:Expr}{te:TE}{p pos pos1:Pos}{aa:α7}{σ:St}{H:Hp}{s:Shared}{W:Hp->Addr->List V->Prop}{QQ:List Value->Shared->Prop}(hg:Gl X "reversed")(hm:X.mg "reversed"=none)(he:PE X e te)(I:Inv X aa σ H s)
  (h:te σ H fun x H1=>∃a xs,x=.ref a/\SqT X.K H1 a xs/\W H1 a xs) (jm:starEach [.Call (.Name "reversed" p) [e] [] pos] X.env=[(false,eval (.Call (.Name "reversed" p) [e] [] pos) X.env)]) (hs:starEach [e] X.env=[(false,eval e X.env)])
  (k:∀s1 H1 a xs its tk,Inv X aa σ H1 s1->Vals xs its->IsTup s1.heap a its.toArray->xs.length<=sizeLine->H1 a≠none\/True->W H1 a xs->QQ [.ref s1.heap.objs.size] {s1 with heap:=s1.heap.push (Rf a ((its.toArray.size:Int)-1)),toks:=tk}):
  wpAny (model X.prog X.w) X.A (spliced (backTo pos1 (starEach [.Call (.Name "reversed" p) [e] [] pos] X.env))) QQ X.xe s:=by
 rw[jm];refine Calls.spliced_cons ?_;refine Call_ (Ee I hg hm boot_reversed (ql_ (thn (Aa he Ac hs pos aa s σ H (fun vs H1=>∃a xs,vs=[.ref a]/\SqT X.K H1 a xs/\W H1 a xs) I ?_) fun us s1 ⟨vs,H1,I1,r1,q1⟩=>?_) hs rfl))
 ·show te σ H _;have:(fun x H1=>∃a xs,x=V.ref a/\SqT X.K H1 a xs/\W H1 a xs)=(fun x H1=>tNil σ H1 fun xs H2=>∃a ys,x::xs=[V.ref a]/\SqT X.K H2 a ys/\W H2 a ys):=by
   funext x H1
   simp[tNil]
  rw[<-this];exact h
 ·obtain⟨a,xs,rfl,hq,q⟩:=q1;cases r1 with
  |cons r rr=>
   cases rr;cases r;obtain⟨its,rv,p,hz⟩:=I1.tuple hq;have hl:=rv.length;have hz24:xs.length<=16777216:=hz;refine SN p (by rw[jl_];lia) fun tk=>?_;exact Calls.spliced_nil (k s1 H1 a xs its tk I1 rv p hz (.inr trivial) q)
def ME (hc:X.calm=true)(hg:Gl X "tuple")(hm:X.mg "tuple"=none)(mU:Gl X "reversed")(mV:X.mg "reversed"=none)(he:PE X e te)
  (jm:starEach [.Call (.Name "reversed" p2) [e] [] eR] X.env=[(false,eval (.Call (.Name "reversed" p2) [e] [] eR) X.env)]:=by rfl) (hs:starEach [e] X.env=[(false,eval e X.env)]:=by rfl):
  PE X (.Call (.Name "tuple" p) [.Call (.Name "reversed" p2) [e] [] eR] [] pos) (Lu X.K te):=by
 intro aa s σ H Q I h;refine xl_ (Ee I hg hm boot_tuple ?_);refine ql_ (Vw (W:=fun H1 a xs=>∀p,H1 p=none->Q (.ref p) (upd H1 p (.tup xs.reverse))) mU mV he I h jm hs fun s1 H1 a xs its tk0 I1 rv pl hz _ q=>?_) jm rfl;have hl:=rv.length;refine Kd (items:=its.toArray) (I.ok.hd hc) ⟨_,jv_ _ rfl,rfl,rfl⟩ (Jr pl fun o e=>jk_ _ e) (by rw[jl_,<-hl];exact hz) fun h' tk c9 hk b9=>?_;have kp:∀b o,s1.heap.get? b=some o->h'.get? b=some o:=fun b o e=>hk b o (jP_ (ju_ e)) (jk_ _ e);have I2:Inv X aa σ H1 {s1 with heap:=h',toks:=tk}:=I1.kept kp;refine⟨.ref h'.objs.size,_,I2.laid (t':=tk) (fun b o e=>jk_ _ e) (jh_ _) (show AU X.prog X.w _ _ _ (.tup xs.reverse) from ⟨by rw[zW_];exact hz,c9.toList,QP rv b9,by simpa using IsTup.new _ _⟩),rfl,q _ (I2.hok.fresh (jh_ _))⟩
end
end L2
namespace PySem
def Rg (a v:Value):argsOk "max" ⟨[a],[("default",v)]⟩:=by unfold argsOk;kernel_rfl
section
variable {prog:Program} {w:World} {A:Around} {R:Result->Shared->Prop} {I:Addr} {fp wr:List Addr} {n:Nat} {P:Nat->Value->Prop} {St:Nat->Heap->Prop} {d:Int} {td:Tok}
def gtI (h:Q (.bool (decide (a > b))) s):wpAny (model prog w) A (richCompare .Gt (.int a ta) (.int b tb)) Q E s:=
 CmpOf.ints_gt (P:=fun i v=>∃t,v=.int (if i=0 then a else b) t) (fun i=>if i=0 then a else b) (fun _ _ h=>h) 0 1 _ _ s Q E ⟨ta,rfl⟩ ⟨tb,rfl⟩ h
noncomputable def Mx (f:Nat->Int)(j:Nat)(m:Int):Prop:=(∃i,i<j/\f i=m)/\∀i,i<j->f i<=m
def mxL (W:Walks prog w A.in1 I fp wr n P St)(f:Nat->Int)(hP:∀i v,P i v->∃t,v=.int (f i) t)(S:Addr)(hSf:S∉fp):
  ∀(k j:Nat) (s:Shared) (acc:Array Value) (c:Nat),n-j=k->j<=n->St j s.heap->s.heap.get? S=some {cls:=.type "list",dict:=none,data:=.seq acc c,slots := #[]} ->
  ((acc = #[]/\j=0) \/ ∃m t,acc = #[.int m t,.int m t]/\Mx f j m) ->
  (∀m t h' tk,((n=0/\m=d)\/Mx f n m)->(∀b o,b∉wr->b≠S->s.heap.get? b=some o->h'.get? b=some o)->R (.ok (.ret (.int m t))) {s with heap:=h',toks:=tk}) ->
  codeAny (model prog w) A (.builtin "max.loop" ⟨[.ref I,.none,.ref S],[("default",.int d td)]⟩) R s:=by
 have hSw:S∉wr:=fun h=>hSf (W.sub _ h);have nm:(toString "max" ++ toString ".loop" : String) = "max.loop" := by decide
 intro k
 induction k with
 |zero=>
  intro j s acc c hk hj st hS ha hR;obtain rfl:j=n:=by lia
  refine qN_ F.entry_max_loop ?_;rw[qv_ xG_ _];show wpAny _ _ (seqItems? (.ref S) >>= _) _ _ s;refine je_ (wpAny_seqItems hS rfl ?_);show wpAny _ _ (tryCatch (pyNext (.ref I)) _ >>= _) _ _ s;refine je_ (wpAny_tryCatch (W.done s _ _ st fun h' tk k'=>?_));have cT:=k' S _ hSw hS;rcases ha with ⟨rfl,rfl⟩|⟨m,t,rfl,hm⟩
  ·wp_walk
   exact hR d td h' tk (.inl ⟨rfl,rfl⟩) fun b o n _ q=>k' b o n q
  ·refine je_ (zX_ cT rfl (je_ (wpAny_letGo (jq_ ?_))));exact hR m t _ tk (.inr hm) fun b o n1 n2 q=>(qB_ _ _ (q3_ n2)).trans (k' b o n1 q)
 |succ k ih=>
  intro j s acc c hk hj st hS ha hR;have ao:j<n:=by lia
  refine qN_ F.entry_max_loop ?_;rw[qv_ xG_ _];show wpAny _ _ (seqItems? (.ref S) >>= _) _ _ s;refine je_ (wpAny_seqItems hS rfl ?_);show wpAny _ _ (tryCatch (pyNext (.ref I)) _ >>= _) _ _ s;refine je_ (wpAny_tryCatch (W.item j s _ _ ao st fun v h' tk p bK k'=>?_));have cT:=k' S _ hSw hS;obtain⟨t',rfl⟩:=hP _ _ p;have up:∀g b o,b≠S->h'.get? b=some o->(h'.update S (Obj.mapSeq g)).get? b=some o:=fun g b o n q=>(qB_ _ _ (q3_ n)).trans q;have put:Mx f (j+1) (f j)->codeAny (model prog w) A (.builtin "max.loop" ⟨[.ref I,.none,.ref S],[("default",.int d td)]⟩) R {s with heap:=h'.update S (Obj.mapSeq fun _ => #[.int (f j) t',.int (f j) t']),toks:=tk}:=fun hm=>
   ih (j+1) _ _ _ s!"" ao (W.frame _ _ _ bK fun b hb o q=>up _ b o (fun z=>hSf (z ▸ hb)) q) (qG_ _ cT rfl) (.inr ⟨_,_,rfl,hm⟩) fun m t h2 mW hm k2=>hR m t h2 mW hm fun b o n1 n2 q=>k2 b o n1 n2 (up _ b o n2 (k' b o n1 q))
  rcases ha with ⟨rfl,rfl⟩|⟨m,t,rfl,⟨i,hi,e⟩,hm⟩
  ·show wpAny _ _ (updateSeq S (fun _ => #[.int (f 0) t',.int (f 0) t']) >>= _) _ _ _;refine je_ (zX_ cT rfl ?_);rw[nm];exact jq_ ⟨q5_ xG_ _,put ⟨⟨0,by lia,rfl⟩,fun i hi=>by obtain rfl:i=0:=s!"";exact zU_ _⟩⟩
  ·show wpAny _ _ (tryCatch (holding [.int (f j) t',.int (f j) t'] (richCompare .Gt (.int (f j) t') (.int m t) >>= _)) _ >>= _) _ _ _;refine je_ (wpAny_tryCatch (qC_ (je_ (gtI ?_))));refine je_ (qC_ (xf_ (je_ (wpAny_letGo (jq_ ?_)))));by_cases g:f j > m
   ·rw[jZ_ g,if_pos rfl];refine je_ (zX_ cT rfl (je_ (wpAny_letGo ?_)));rw[nm];exact jq_ ⟨q5_ xG_ _,put ⟨⟨j,by lia,rfl⟩,fun i hi=>by
     rcases z4_ i j with l|l
     ·have:=hm i l;lia
     ·obtain rfl:i=j:=by lia
      exact zU_ _⟩⟩
   ·rw[jX_ g,if_neg jx_];refine je_ (wpAny_letGo ?_);rw[nm];refine jq_ ⟨q5_ xG_ _,ih (j+1) _ _ c s!"" ao bK cT (.inr ⟨m,t,rfl,⟨i,by lia,e⟩,fun i hi=>?_⟩) fun m t h2 mW hm k2=>hR m t h2 mW hm fun b o n1 n2 q=>k2 b o n1 n2 (k' b o n1 q)⟩;rcases z4_ i j with l|l
    ·exact hm i l
    ·obtain rfl:i=j:=by lia
     lia
def Vx {its:Array Value} (hh:A.handled=none)(hl:CC t s.heap l its)(hi:∀(i:Nat) (v:Value),its[i]?=some v->∃t,v=.int (f i) t)
  (hQ:∀m t h' tk,((its.size=0/\m=d)\/Mx f its.size m)->(∀b o,s.heap.get? b=some o->h'.get? b=some o)->Q (.int m t) {s with heap:=h',toks:=tk}):wpAny (model prog w) A (call (.builtin "max") [.ref l] [("default",.int d td)]) Q E s:=by
 have nm:(toString "max" ++ toString ".loop" : String) = "max.loop" := by decide
 have ll:=hl.lt;obtain⟨St,W,st⟩:∃St:Nat->Heap->Prop,Walks prog w A.in1 s.heap.objs.size [s.heap.objs.size,l] [s.heap.objs.size] its.size (fun i v=>its[i]?=some v) St/\∀h,BR t h s.heap.objs.size l 0->CC t h l its->St 0 h:=by
  cases t
  ·exact⟨_,Walks.list (A:=A.in1) hh _ l (jP_ ll) its,fun h a b=>⟨a,b⟩⟩
  ·exact⟨_,Walks.tuple (A:=A.in1) hh _ l (jP_ ll) its,fun h a b=>⟨a,b⟩⟩
 refine tJ F.kind_max F.plain_max F.entry_max (Rg _ _) (je_ (xD_ (show Builtin.Builtins.bindParams "max" ["key","default"] 0 ⟨[],[("default",Value.int d td)]⟩=pure [none,some (Value.int d td)] from rfl) ?_))
 wp_walk using NB (A:=A.in1) hl
 intro h1 q1;obtain⟨a1,b1,c1⟩:=psh q1 (by cases t<;>rfl)
 wp_walk
 rw[nm];have c2:h1.objs.size=s.heap.objs.size+1:=c1;have n1:h1.objs.size ∉ [s.heap.objs.size,l]:=fun z=>by
  rcases jE_.mp z with z|z
  ·lia
  ·exact absurd (jn_.mp z) (xB_ (by rw[c2];exact xg_ ll))
 refine⟨q5_ xG_ _,mxL W f hi _ n1 its.size 0 _ #[] 0 rfl (qs_ _) (st _ (BR.mk (jk_ _ b1)) (by rw[<-q1];exact (hl.push _).push _)) (jv_ _ rfl) (.inl ⟨rfl,rfl⟩) fun m t h' tk hm k'=>hQ m t h' tk hm fun b o q=>?_⟩;have lb:=ju_ q;exact k' b o (fun z=>absurd (jn_.mp z) (jP_ lb)) (jP_ (show b<h1.objs.size by rw[c2];exact xg_ lb)) (jk_ _ (a1 _ _ q))
end
end PySem
namespace L2
open PySem PySem.Spec PyProof.Rows
def maxV {its:List Value} (hc:X.calm=true)(I:Inv X aa σ H s)(r:Vals (ns.map V.int) its)(hl:CC t s.heap a its.toArray)(hm:(ns=[]/\m=d)\/(m∈ns/\∀z∈ns,z<=m))(q:Q (.int m) H):
  wpAny (model X.prog X.w) X.A (call (.builtin "max") [.ref a] [("default",.int d td)]) (EP X aa σ Q) X.xe s:=by
 have hn:=r.length;rw[ja_]at hn;refine Vx (f:=fun i=>ns.getD i 0) (I.ok.hd hc) hl (fun i v hv=>?_) fun m' t' h' tk' gh hk=>?_
 ·have hi:i<ns.length:=by have:=(qA_.mp hv).1;simp at this;lia
  obtain⟨u,hu,ru⟩:=r.get (i:=i) (x:=V.int ns[i]) (by simp[hi]);obtain rfl:u=v:=by simpa [hu] using hv
  obtain⟨t,e⟩:=(show ∃t,u=Value.int ns[i] t from ru);exact⟨t,by rw[e,jc_,jb_ hi];rfl⟩
 ·obtain rfl:m'=m:=by
   simp only[jl_,<-hn]at gh;rcases hm with ⟨rfl,rfl⟩|⟨h1,h2⟩
   ·rcases gh with e|⟨⟨i,hi,_⟩,_⟩
    ·exact e.2
    ·simp at hi
   ·rcases gh with e|⟨⟨i,hi,e⟩,h3⟩
    ·rw[jW_.mp e.1]at h1;simp at h1
    ·obtain⟨j,hj,ej⟩:=qS_ h1;have e1:ns.getD j 0<=m':=h3 j hj;replace e:ns.getD i 0=m':=e;rw[jc_,jb_ hj]at e1;rw[jc_,jb_ hi]at e;have e2:=h2 ns[i] (jy_ hi);simp at e1 e;lia
  exact⟨.int m',H,I.kept hk,⟨t',rfl⟩,q⟩
noncomputable def Xz (ta:TA)(tb:TE)(K:α3):TE:=fun σ H Q=>ta σ H fun vs H1=>tb σ H1 fun y H2=>∃(p:Addr) (ns:α2) (d m:Int),vs=[.ref p]/\y=.int d/\SqL K H2 p (ns.map V.int)/\((ns=[]/\m=d)\/(m∈ns/\∀z∈ns,z<=m))/\Q (.int m) H2
theorem UC {K:α3} : Xz ta tb K σ H Q=ta σ H fun vs H1=>tb σ H1 fun y H2=>∃(p:Addr) (ns:α2) (d m:Int),vs=[.ref p]/\y=.int d/\SqL K H2 p (ns.map V.int)/\((ns=[]/\m=d)\/(m∈ns/\∀z∈ns,z<=m))/\Q (.int m) H2:=rfl
def Vy (hc:X.calm=true)(hg:Gl X "max")(hm:X.mg "max"=none)(ha:PA X [e] ta)(hb:PE X de tb)
  (he:backTo pos (starEach [e] X.env)=(false,eval e X.env)::backTo pos (starEach [] X.env):=by rfl) (bg:(backTo pos (starEach [e] X.env)).any (·.1)=false:=by rfl):PE X (.Call (.Name "max" p) [e] [⟨some "default",de,kp⟩] pos) (Xz ta tb X.K):=by
 intro aa s σ H Q I h;refine xl_ (Ee I hg hm boot_max ?_);refine callWith_kw ?_ he bg;refine thn (ha pos aa s σ H _ I h) fun us s1 ⟨vs,H1,I1,r1,q1⟩=>?_;refine kws_cons (thn (hb aa s1 σ H1 _ I1 q1) fun u s2 ⟨y,H2,I2,r2,q2⟩=>kws_nil ?_);obtain⟨a,ns,d,m,rfl,rfl,hq,hmx,q⟩:=q2;obtain⟨u1,rfl,rx⟩:=vals1 r1;cases rx;obtain⟨t,rfl⟩:=(show ∃t,u=Value.int d t from r2);show wpAny (model X.prog X.w) X.A (call (.builtin "max") [.ref a] [("default",.int d t)]) _ _ s2;obtain⟨its,r',pl,_⟩:=I2.list hq;exact maxV (t:=false) hc I2 r' pl.isList hmx q
section
variable {X:Cx} {aa:α7} {σ:St} {H:Hp} {s:Shared} {a:Addr}
def Inv.freezeK (I:Inv X aa σ H s)(e:H a=some (.dK kvs))(ho:s.heap.get? a=some o):Inv X aa σ (upd H a (.frz o (.dK kvs))) s:=by
 refine Hc (h':=s.heap) (t':=s.toks) I (by rw[e];exact oX) ⟨rfl,fun _ _=>rfl⟩ ⟨o,ho⟩ ?_;exact⟨ho,(show AU X.prog X.w H s.heap a (.dK kvs) from I.hok a _ e)⟩
end
def dkAt (ok:HOk P w H h)(e:Rd H a (.dK kvs)):
  ∃vs ep,h.DictAt (A4 P w) a vs ep/\KV kvs vs/\(a==sysModules)=false/\kvs.length<=sizeLine:=by
 obtain⟨z,y,vs,r,m⟩:=Nr ok e;obtain⟨ep,aM⟩:=m.dictAt;exact⟨vs,ep,aM,r,y,z⟩
def KV.get {kvs:List (Key×V)}{vs:List (Key×Value)}(r:KV kvs vs){i:Nat}{k:Key}{v:V}(h:kvs[i]?=some (k,v)):∃u,vs[i]?=some (k,u)/\RelV v u:=by
 obtain⟨q,hq,e1,e2⟩:=E6 r h;exact⟨q.2,by rw[hq,show k=q.1 from e1],e2⟩
noncomputable def ItkK (o:Obj)(a:Addr)(kvs:List (Key×V)):It:=⟨fun i H=>i<kvs.length/\H a=some (.frz o (.dK kvs)),fun i H x H'=>H'=H/\∃k v,kvs[i]?=some (k,v)/\x=kV k,fun i H=>kvs.length<=i/\H a=some (.frz o (.dK kvs))⟩
def SU (ok:HOk P w H h)(hd:o.data=.dict es ep)(e:H a=some (.frz o (.dK kvs))):∃vs,h.DictAt (A4 P w) a vs ep/\KV kvs vs/\vs.length=kvs.length:=by
 obtain⟨gd,_⟩:=(show AU P w H h a (.frz o (.dK kvs)) from ok a _ e);obtain⟨vs,jQ,aM,r,_,_⟩:=dkAt ok (.inr ⟨o,e⟩);obtain⟨o',au,g1,g2,g3,g4⟩:=id aM;rw[gd]at g1;cases g1;rw[hd]at g3;cases g3;exact⟨vs,aM,r,r.length.symm⟩
noncomputable def FzAt (d:Addr)(H H':Hp):Prop:=(∀a u,a≠d->H a=some u->H' a=some u)/\∀u,H d=some u->H' d=some u \/ ∃kvs o,u=.dK kvs/\H' d=some (.frz o (.dK kvs))
def FzAt.of (s:Same H H'):FzAt d H H':=⟨fun a u _ h=>s a u h,fun u h=>.inl (s d u h)⟩
def FzAt.trans {H H' H2:Hp}(s:FzAt d H H')(t:FzAt d H' H2):FzAt d H H2:=by
 refine⟨fun a u ha h=>t.1 a u ha (s.1 a u ha h),fun u h=>?_⟩;rcases s.2 u h with h' | ⟨kvs,o,e,h'⟩
 ·exact t.2 u h'
 ·rcases t.2 _ h' with h2|⟨_,_,e2,_⟩
  ·exact .inr ⟨kvs,o,e,h2⟩
  ·cases e2
def FzAt.lst {d a:Addr}{H H':Hp}{xs:List V}(s:FzAt d H H')(h:H a=some (.lst xs)):H' a=some (.lst xs):=by
 by_cases e:a=d
 ·subst e;rcases s.2 _ h with h' | ⟨_,_,e,_⟩
  ·exact h'
  ·cases e
 ·exact s.1 a _ e h
def FzAt.seqT {K:α3} (s:FzAt d H H')(h:SqT K H a xs):SqT K H' a xs:=by
 have key:∀u,(∀kvs,u ≠ .dK kvs)->H a=some u->H' a=some u:=fun u hu h=>by
  by_cases e:a=d
  ·subst e;rcases s.2 _ h with h' | ⟨kvs,_,e,_⟩
   ·exact h'
   ·exact absurd e (hu kvs)
  ·exact s.1 a _ e h
 rcases h with (q|⟨o,q⟩)|q
 ·exact .inl (.inl (key _ (fun _ z=>nomatch z) q))
 ·exact .inl (.inr ⟨o,key _ (fun _ z=>nomatch z) q⟩)
 ·exact .inr q
def FzAt.rd (s:FzAt d H H')(h:Rd H a (.dK kvs)):Rd H' a (.dK kvs):=by
 by_cases e:a=d
 ·subst e;rcases h with h|⟨o,h⟩
  ·rcases s.2 _ h with h' | ⟨kvs,o,e,h'⟩
   ·exact .inl h'
   ·cases e;exact .inr ⟨o,h'⟩
  ·rcases s.2 _ h with h' | ⟨kvs,o',e,h'⟩
   ·exact .inr ⟨o,h'⟩
   ·cases e
 ·rcases h with h|⟨o,h⟩
  ·exact .inl (s.1 a _ e h)
  ·exact .inr ⟨o,s.1 a _ e h⟩
def FzAt.same (s:FzAt d H H')(h:Same H0 H)(hd:H0 d=none):Same H0 H':=fun a u e=>s.1 a u (fun z=>by rw[z,hd]at e;cases e) (h a u e)
def FzAt.new (h:Rd H d (.dK kvs))(h1:H' d=some (.frz o (.dK kvs)))(h2:∀b,b≠d->H' b=H b)(h3:∀o',H d=some (.frz o' (.dK kvs))->o'=o):FzAt d H H':=by
 refine⟨fun a u ha e=>by rw[h2 a ha];exact e,fun u e=>?_⟩;rcases h with h|⟨o',h⟩
 ·rw[h]at e;cases e;exact .inr ⟨kvs,o,rfl,h1⟩
 ·rw[h]at e;cases e;rw[h3 o' h] ;exact .inl h1
def frzK (I:Inv X aa σ H s)(e:Rd H a (.dK kvs)):
  ∃o es vs ep H2,Inv X aa σ H2 s/\H2 a=some (.frz o (.dK kvs))/\FzAt a H H2/\s.heap.DictAt (A4 X.prog X.w) a vs ep/\s.heap.get? a=some o/\o.ExactDict/\o.data=.dict es ep/\vs.length=kvs.length/\(a==sysModules)=false:=by
 obtain⟨vs,ep,aM,r,g5,g6⟩:=dkAt I.hok e;obtain⟨od,es,g1,g2,g3,g4⟩:=id aM;rcases e with e|⟨o,e⟩
 ·exact⟨od,es,vs,ep,_,I.freezeK e g1,Ab,FzAt.new (.inl e) Ab (fun b hb=>Au hb) (fun o' z=>by rw[e]at z;cases z),aM,g1,g2,g3,r.length.symm,g5⟩
 ·obtain⟨gd,_⟩:=(show AU X.prog X.w H s.heap a (.frz o (.dK kvs)) from I.hok a _ e);rw[gd]at g1;cases g1;exact⟨_,es,vs,ep,H,I,e,FzAt.of (Same.refl _),aM,gd,g2,g3,r.length.symm,g5⟩
def O5 {P:Program}{w:World}{K:α3}{tg:Expr}{o:Obj}{a it:Addr}{kvs:List (Key×V)}{es:Array DictEntry}{ep:Nat}(eN:a≠it)(hd:o.data=.dict es ep):
  Turn P w K tg (ItkK o a kvs) [it] it (fun i h=>h.IsKeyIter it a i kvs.length ep) where
 mem:=by simp
 obj:=fun i h st b hb=>by
  have e:b=it:=by simpa using hb
  subst e;obtain⟨o,e,c,d⟩:=st;exact⟨o,e,fun v z=>by rw[d]at z;cases z⟩
 keep:=fun i h h' st k=>st.at fun o e=>k it (by simp) o e
 item:=by
  intro X hP hw hK gK i aa s σ H E I hf st hg;subst hP hw hK;obtain⟨hi,hq⟩:=hg;obtain⟨vs,aM,r,hl⟩:=SU I.hok hd hq;obtain⟨kv,bz⟩:∃kv,kvs[i]?=some kv:=⟨kvs[i],by simp[hi]⟩;obtain⟨k,v⟩:=kv;obtain⟨u,hu,ru⟩:=KV.get r bz;obtain⟨f0,f1,f2,f3,f4,f5⟩:=hf it (by simp);refine wpAny_pyNext_dict_item (kvs:=vs) (by rw[hl];exact st) aM hu fun key h' hk bK sb=>?_;rw[hl]at bK;have I1:Inv X aa σ H {s with heap:=h' }:=I.turned (t':=s.toks) (fun b o hb e=>(sb.2 b hb).trans e) f0 f1 f3 f4 f5;obtain⟨io,e,c,d⟩:=id bK;exact⟨_,rfl,Qa (s:={s with heap:=h' }) e c d (by decide) ⟨kV k,H,I1,My hk,⟨rfl,k,v,bz,rfl⟩,bK,fun b hb=>(hf b hb).1⟩⟩
 done:=by
  intro X hP hw hK gK i aa s σ H E I hf st hg;subst hP hw hK;obtain⟨hi,hq⟩:=hg;obtain⟨vs,aM,r,hl⟩:=SU I.hok hd hq;obtain⟨f0,f1,f2,f3,f4,f5⟩:=hf it (by simp);exact wpAny_pyNext_dict_end (kvs:=vs) (I.ok.hd gK) (by rw[hl];exact st) aM (jt_ s!"") fun h' eb=>⟨rfl,I.turned (t':=s.toks) (fun b o hb e=>eb b o hb e) f0 f1 f3 f4 f5⟩
 self:=fun _ _ _ _ _ st h=>zM_ st h
noncomputable def UD (td:TE):TI:=fun σ H R=>td σ H fun x H1=>∃a kvs,x=.ref a/\Rd H1 a (.dK kvs)/\∀o H2,H2 a=some (.frz o (.dK kvs))->FzAt a H1 H2->R (ItkK o a kvs) H2
theorem Ov : UD te σ H Z=te σ H fun x H1=>∃a kvs,x=.ref a/\Rd H1 a (.dK kvs)/\∀o H2,H2 a=some (.frz o (.dK kvs))->FzAt a H1 H2->Z (ItkK o a kvs) H2:=rfl
def SV (hl:PE X l tl):PI X tg l (UD tl):=by
 intro aa s σ H R I h;refine thn (hl aa s σ H _ I h) fun v s1 ⟨x,H1,I1,r1,q1⟩=>?_;obtain⟨a,kvs,e,hq,q⟩:=q1;subst e;cases r1;obtain⟨o,es,vs,ep,H2,I2,mY,hF,aM,g1,g2,g3,ah,g5⟩:=frzK I1 hq;refine wpAny_pyIter_dict g5 aM ?_;refine⟨s1.heap.objs.size,[s1.heap.objs.size],_,_,_,rfl,I2.kept (t':=s1.toks) fun b o e=>jk_ _ e,O5 (o:=o) (kvs:=kvs) (jP_ (ju_ g1)) g3,⟨_,jv_ _ rfl,rfl,by rw[ah];rfl⟩,fun b hb=>?_,q o H2 mY hF⟩;have e:b=s1.heap.objs.size:=by simpa using hb
 subst e;exact I2.fpOk (jh_ _) (I2.hok.fresh (jh_ _))
def Yo (Pv:Nat->St->Hp->Prop)(h0:Pv 0 σ H)(hl:∀i σ H,i<=kvs.length->Pv i σ H->H a=some (.frz o (.dK kvs)))
  (hs:∀i k v σ H,kvs[i]?=some (k,v)->Pv i σ H->g (kV k) σ H fun ag H2=>tb {D with nx:=Pv (i+1),ct:=Pv (i+1),bk:=D.nx} ag H2) (hd:∀σ H,Pv kvs.length σ H->D.nx σ H):ForW (ItkK o a kvs) g tb D σ H:=by
 refine⟨fun i m σ H=>m+i=kvs.length/\Pv i σ H,⟨kvs.length,by lia,h0⟩,fun i m σ H ⟨hm,hp⟩=>?_⟩;have hq:=hl i σ H s!"" hp;by_cases hi:i<kvs.length
 ·refine .inr ⟨⟨hi,hq⟩,Pv (i+1),fun af H' h=>⟨m-1,by lia,by lia,h⟩,fun x H' hy=>?_⟩;obtain⟨rfl,k,v,hk,rfl⟩:=hy;exact hs i k v σ _ hk hp
 ·have e:i=kvs.length:=by lia
  subst e;exact .inl ⟨⟨jh_ _,hq⟩,hd σ H hp⟩
noncomputable def ItiK (o:Obj)(a:Addr)(kvs:List (Key×V)):It:=⟨fun i H=>i<kvs.length/\H a=some (.frz o (.dK kvs)),fun i H x H'=>∃t k v,H t=none/\kvs[i]?=some (k,v)/\x=.ref t/\H'=upd H t (.tup [kV k,v]),fun i H=>kvs.length<=i/\H a=some (.frz o (.dK kvs))⟩
def NF {P:Program}{w:World}{K:α3}{bG:List Expr}{x1}{bq:Pos}{o:Obj}{a it:Addr}{kvs:List (Key×V)}{es:Array DictEntry}{ep:Nat}(eN:a≠it)(hd:o.data=.dict es ep):
  Turn P w K (.Tuple bG x1 bq) (ItiK o a kvs) [it] it (fun i h=>∃ok ov,IsItemIter h it a i kvs.length ep ok ov) where
 mem:=by simp
 obj:=fun i h st b hb=>by
  have e:b=it:=by simpa using hb
  subst e;obtain⟨ok,ov,e⟩:=st;exact⟨_,e,fun v z=>by cases z⟩
 keep:=fun i h h' st k=>by
  obtain⟨ok,ov,e⟩:=st;exact⟨ok,ov,k it (by simp) _ e⟩
 item:=by
  intro X hP hw hK gK i aa s σ H E I hf st hg;subst hP hw hK;obtain⟨hi,hq⟩:=hg;obtain⟨ok,ov,st⟩:=st;obtain⟨vs,aM,r,hl⟩:=SU I.hok hd hq;obtain⟨kv,bz⟩:∃kv,kvs[i]?=some kv:=⟨kvs[i],by simp[hi]⟩;obtain⟨k,v⟩:=kv;obtain⟨u,hu,ru⟩:=KV.get r bz;refine wpAny_pyNext_items_item (kvs:=vs) (by rw[hl];exact st) aM hu fun key h' hk g1 g5 gsz gk=>?_;rw[hl]at g1;have mT:s.heap.objs.size≠it:=xB_ (ju_ st);refine⟨_,rfl,wpAny_letOwnedTupleGo_items g1 fun dO e1 bE=>?_⟩;have eg:∀b o,b ∉ [it]->s.heap.get? b=some o->dO.get? b=some o:=fun b o hb q=>by
   simp only[jn_]at hb;exact (bE.2 b hb).trans (gk b o hb q)
  obtain⟨un,hok⟩:=I.unL eg hf;have hn:H s.heap.objs.size=none:=I.hok.fresh (jh_ _);have new:AU X.prog X.w (upd H s.heap.objs.size (.tup [kV k,v])) dO s.heap.objs.size (.tup [kV k,v]):=⟨by have:=An;simp;lia,[key,u],.cons (My hk) (.cons ru .nil),_,(bE.2 _ mT).trans g5,rfl,_,rfl⟩;refine⟨.ref s.heap.objs.size,upd H s.heap.objs.size (.tup [kV k,v]),I.call' (s':={s with heap:=dO }) (ch:=[it]) rfl (un.track (jh_ _) hn) (hok.track hn new) I.bare (fun b hb=>(hf b hb).ch),rfl,⟨_,k,v,hn,bz,rfl,rfl⟩,⟨_,_,e1⟩,fun b hb=>?_⟩;have dv:=hf b hb;have e:b=it:=by simpa using hb
  subst e;rw[Au (jP_ (ju_ st))];exact dv.1
 done:=by
  intro X hP hw hK gK i aa s σ H E I hf st hg;subst hP hw hK;obtain⟨hi,hq⟩:=hg;obtain⟨ok,ov,st⟩:=st;obtain⟨vs,aM,r,hl⟩:=SU I.hok hd hq;refine wpAny_pyNext_items_end (kvs:=vs) (I.ok.hd gK) (by rw[hl];exact st) aM (jt_ s!"") fun h' eb=>⟨rfl,?_⟩;obtain⟨f0,f1,f2,f3,f4,f5⟩:=hf it (by simp);exact I.turned (t':=s.toks) (fun b o hb e=>eb b o hb e) f0 f1 f3 f4 f5
 self:=fun A i s Q E st h=>by
  obtain⟨ok,ov,st⟩:=st;exact uj st h
noncomputable def Rh (td:TE):TI:=fun σ H R=>td σ H fun x H1=>∃a kvs,x=.ref a/\Rd H1 a (.dK kvs)/\∀o H2,H2 a=some (.frz o (.dK kvs))->FzAt a H1 H2->R (ItiK o a kvs) H2
theorem MF : Rh te σ H Z=te σ H fun x H1=>∃a kvs,x=.ref a/\Rd H1 a (.dK kvs)/\∀o H2,H2 a=some (.frz o (.dK kvs))->FzAt a H1 H2->Z (ItiK o a kvs) H2:=rfl
def Ri {x1} (ho:PE X o td)(aG:attributeBase o "items" X.env (eval o X.env)=eval o X.env:=by rfl)(cB:(bp.endLine==aF.line)=true:=by rfl):PI X (.Tuple bG x1 bq) (.Call (.Attribute o "items" bp) [] [] aF) (Rh td):=by
 intro aa s σ H R I h;refine wpAny_Call_method0_late aG cB (thn (ho aa s σ H _ I h) fun v s1 ⟨x,H1,I1,r1,q1⟩=>?_);obtain⟨a,kvs,e,hq,q⟩:=q1;subst e;obtain rfl:v=Value.ref a:=r1;obtain⟨od,es,vs,ep,H2,I2,mY,hF,aM,g1,g2,g3,ah,g5⟩:=frzK I1 hq;have hT:s1.TypeIs (.ref a) "dict" := ⟨od,g1,g2.1⟩;refine⟨"dict","dict.items",zl_,pJ,sT,hT,fun b e=>?_,xI_ rfl (qr ?_)⟩
 ·cases e;exact⟨od,g1,g2.2.1⟩
 refine qj_ pJ hT sJ (?_:wpAny _ _ (Builtin.«dict.items» _) _ _ s1) (rV _);unfold Builtin.«dict.items»;refine je_ ?_;unfold Builtin.Dict.noArgs;refine je_ (xP_ hT ?_);show wpAny _ _ (pure a) _ _ s1;refine jq_ ?_;show wpAny _ _ (Builtin.Dict.showsAll a >>= _) _ _ s1;unfold Builtin.Dict.showsAll;rw[if_neg (by rw[g5];exact jx_)];refine je_ (jq_ ?_);refine je_ (qK_ (jq_ ⟨_,rfl,?_⟩));have hk1:∀b u,s1.heap.get? b=some u->(s1.heap.push {cls:=.type "dict_items",data:=.fields #[.ref a]}).get? b=some u:=fun b u e=>jk_ _ e;refine wpAny_pyIter_items (s:={s1 with heap:=s1.heap.push {cls:=.type "dict_items",data:=.fields #[.ref a]} }) ⟨_,jv_ _ rfl,rfl,rfl⟩ (aM.keep hk1) ?_;have cG:s1.heap.objs.size<=(s1.heap.push {cls:=.type "dict_items",data:=.fields #[.ref a]}).objs.size:=by rw[qO_];exact tO _
 refine⟨_,[(s1.heap.push {cls:=.type "dict_items",data:=.fields #[.ref a]}).objs.size],_,_,_,rfl,I2.kept (t':=s1.toks) fun b u e=>jk_ _ (hk1 b u e),NF (o:=od) (kvs:=kvs) (jP_ (jK_ (ju_ g1) cG)) g3,⟨.none,.none,?_⟩,fun b hb=>?_,q od H2 mY hF⟩
 ·rw[<-ah];exact jv_ _ rfl
 ·have e:b=(s1.heap.push {cls:=.type "dict_items",data:=.fields #[.ref a]}).objs.size:=by simpa using hb
  subst e;exact I2.fpOk cG (I2.hok.fresh cG)
def Yp (Pv:Nat->St->Hp->Prop)(h0:Pv 0 σ H)(hl:∀i σ H,i<=kvs.length->Pv i σ H->H a=some (.frz o (.dK kvs)))
  (hs:∀i k v t σ H,kvs[i]?=some (k,v)->Pv i σ H->H t=none->g (.ref t) σ (upd H t (.tup [kV k,v])) fun ag H2=>tb {D with nx:=Pv (i+1),ct:=Pv (i+1),bk:=D.nx} ag H2) (hd:∀σ H,Pv kvs.length σ H->D.nx σ H):ForW (ItiK o a kvs) g tb D σ H:=by
 refine⟨fun i m σ H=>m+i=kvs.length/\Pv i σ H,⟨kvs.length,by lia,h0⟩,fun i m σ H ⟨hm,hp⟩=>?_⟩;have hq:=hl i σ H s!"" hp;by_cases hi:i<kvs.length
 ·refine .inr ⟨⟨hi,hq⟩,Pv (i+1),fun af H' h=>⟨m-1,by lia,by lia,h⟩,fun x H' hy=>?_⟩;obtain⟨t,k,v,ht,hk,rfl,rfl⟩:=hy;exact hs i k v t σ _ hk hp ht
 ·have e:i=kvs.length:=by lia
  subst e;exact .inl ⟨⟨jh_ _,hq⟩,hd σ H hp⟩
noncomputable def iOr (t u:TI):TI:=fun σ H R=>t σ H R\/u σ H R
theorem XA : iOr t u σ H Z=(t σ H Z\/u σ H Z):=rfl
def XB (h:PI X tg e t)(g:PI X tg e u):PI X tg e (iOr t u):=fun aa s σ H R I q=>q.elim (fun q=>h aa s σ H R I q) (fun q=>g aa s σ H R I q)
def forE {K:α3} (h:SqB K H t a xs)(Pv:Nat->St->Hp->Prop)(h0:Pv 0 σ H)(hl:∀i σ H,i<=xs.length->Pv i σ H->SqB K H t a xs)
  (hs:∀i v σ H q,xs[i]?=some v->Pv i σ H->H q=none->g (.ref q) σ (upd H q (.tup [.int i,v])) fun ag H2=>tb {D with nx:=Pv (i+1),ct:=Pv (i+1),bk:=D.nx} ag H2) (hd:∀σ H,Pv xs.length σ H->D.nx σ H):
  (∃ys,SqL K H a ys/\ForW (Itm K a ys) g tb D σ H) \/ ∃ys,SqT K H a ys/\ForW (Itn K a ys) g tb D σ H:=by
 cases t
 ·exact .inl ⟨xs,h,forM Pv h0 hl hs hd⟩
 ·exact .inr ⟨xs,h,forN Pv h0 hl hs hd⟩
def Yq {K:α3} (h:SqB K H t a xs)(Pv:Nat->List V->St->Hp->Prop)(h0:Pv 0 [] (cp.st σ) H)(hz:xs.length<sizeLine)
  (hl:∀i zs σ H,i<=xs.length->Pv i zs σ H->SqB K H t a xs/\zs.length<=i)
  (hs:∀i v zs σ H q,xs[i]?=some v->Pv i zs σ H->H q=none->g (.ref q) σ (upd H q (.tup [.int i,v])) fun ag H2=>tc ag H2 fun b H3=>if b=true then te ag H3 fun v H4=>Pv (i+1) (zs++[v]) ag H4 else Pv (i+1) zs ag H3)
  (hd:∀zs σ H,Pv xs.length zs σ H->∀D,H D=none->Q (.ref D) (upd H D (.lst zs))):
  (∃ys,SqL K H a ys/\Ea (Itm K a ys) cp g tc te σ H Q) \/ ∃ys,SqT K H a ys/\Ea (Itn K a ys) cp g tc te σ H Q:=by
 cases t
 ·refine .inl ⟨xs,h,fun i m zs σ H=>m=xs.length-i/\i<=xs.length/\Pv i zs σ H,⟨xs.length,by simp,qs_ _,h0⟩,?_⟩;rintro i m zs σ H ⟨rfl,hi,p⟩;obtain⟨q1,ly⟩:=hl i zs σ H hi p;refine⟨by lia,?_⟩;by_cases ao:i<xs.length
  ·refine .inr ⟨⟨ao,q1⟩,Pv (i+1),fun dQ af H' p'=>⟨xs.length-(i+1),by lia,rfl,ao,p'⟩,fun x H' y=>?_⟩;obtain⟨q,v,e1,e2,rfl,rfl⟩:=y;exact hs i v zs σ H q e2 p e1
  ·have e:i=xs.length:=by lia
   subst e;exact .inl ⟨⟨rfl,q1⟩,hd zs σ H p⟩
 ·refine .inr ⟨xs,h,fun i m zs σ H=>m=xs.length-i/\i<=xs.length/\Pv i zs σ H,⟨xs.length,by simp,qs_ _,h0⟩,?_⟩;rintro i m zs σ H ⟨rfl,hi,p⟩;obtain⟨q1,ly⟩:=hl i zs σ H hi p;refine⟨by lia,?_⟩;by_cases ao:i<xs.length
  ·refine .inr ⟨⟨ao,q1⟩,Pv (i+1),fun dQ af H' p'=>⟨xs.length-(i+1),by lia,rfl,ao,p'⟩,fun x H' y=>?_⟩;obtain⟨q,v,e1,e2,rfl,rfl⟩:=y;exact hs i v zs σ H q e2 p e1
  ·have e:i=xs.length:=by lia
   subst e;exact .inl ⟨⟨rfl,q1⟩,hd zs σ H p⟩
def Av : Cd X (.type "tuple") (fun xs H Q=>∃p ys,xs=[.ref p]/\((SqL X.K H p ys/\∀l,H l=none->Q (.ref l) (upd H l (.tup ys)))\/False)):=fun aa s σ H xs us Q I r h=>by
 obtain⟨p,ys,e,h|h⟩:=h
 ·exact F8 aa s σ H xs us Q I r ⟨p,ys,e,.inl h⟩
 ·exact h.elim
def HJ : Cd X (.type "tuple") (fun xs H Q=>∃p ys,xs=[.ref p]/\(False\/(SqT X.K H p ys/\Q (.ref p) H))):=fun aa s σ H xs us Q I r h=>by
 obtain⟨p,ys,e,h|h⟩:=h
 ·exact h.elim
 ·exact F8 aa s σ H xs us Q I r ⟨p,ys,e,.inr h⟩
def BL {K:α3}(h:X.K=K):Cd X (.type "tuple") (fun xs H Q=>∃p ys,xs=[.ref p]/\((SqL K H p ys/\∀l,H l=none->Q (.ref l) (upd H l (.tup ys)))\/False)):=by subst h;exact Av
def Lv {K:α3}(h:X.K=K):Cd X (.type "tuple") (fun xs H Q=>∃p ys,xs=[.ref p]/\(False\/(SqT K H p ys/\Q (.ref p) H))):=by subst h;exact HJ
def len1 {α:Type}{us:List α}(h:us.length=1):∃a,us=[a]:=by match us,h with|[a],_=>exact⟨a,rfl⟩
def len2 {α:Type}{us:List α}(h:us.length=2):∃a b,us=[a,b]:=by match us,h with|[a,b],_=>exact⟨a,b,rfl⟩
def len3 {α:Type}{us:List α}(h:us.length=3):∃a b c,us=[a,b,c]:=by match us,h with|[a,b,c],_=>exact⟨a,b,c,rfl⟩
def len4 {α:Type}{us:List α}(h:us.length=4):∃a b c d,us=[a,b,c,d]:=by match us,h with|[a,b,c,d],_=>exact⟨a,b,c,d,rfl⟩
def len5 {α:Type}{us:List α}(h:us.length=5):∃a b c d e,us=[a,b,c,d,e]:=by match us,h with|[a,b,c,d,e],_=>exact⟨a,b,c,d,e,rfl⟩
noncomputable def Ow (u:TS)(D:Ends):St->Hp->Prop:=u D
noncomputable def XC (t u:TS):TS:=fun D σ H=>t {D with nx:=Ow u D} σ H
theorem UE : XC t u D σ H=t {D with nx:=Ow u D} σ H:=rfl
def AY (h:u D σ H):Ow u D σ H:=h
def BB {st:Stmt}{rest:List Stmt} (h1:PS X st t)(h2:PSs X rest u):PSs X (st::rest) (XC t u):=Ad h1 h2
end L2
set_option maxHeartbeats 1000000
set_option maxHeartbeats 4000000
namespace PySem.W
open PySem PySem.Calls PyProof.Rows PyProof.V PySem.Spec
section
variable {prog:Program} {w:World} {A:Around} {E:Value->Shared->Prop} {s:Shared} {r d:Addr} {es:Array DictEntry} {ep:Nat} {od:Obj}
noncomputable abbrev viO (d:Addr)(i n ep:Nat):Obj:={cls:=.type "dict_valueiterator",dict:=none,data:=.fields #[.ref d,.int i 0,.int n 0,.int ep 0],slots := #[]}
def SW (hv:s.heap.IsValuesView v d)(c8:s.heap.get? d=some od)(cH:od.data=.dict es ep)
  (h:Q (.ref s.heap.objs.size) {s with heap:=s.heap.push (viO d 0 es.size ep)}):wpAny (model prog w) A (pyIter (.ref v)) Q E s:=by
 have hT:=hv.typeIs;obtain⟨⟨c1,d1,a1,s1⟩,hv1,hc,mZ⟩:=hv;replace mZ:a1=_:=mZ;obtain⟨c,dc,da,sl⟩:=od;replace cH:da=_:=cH;subst cH mZ;have e1:=rq;refine wpAny_pyIter_slot hT e1 (qj_ e1 hT rj ?_ (qT _))
 wp_walk
 exact⟨_,rfl,_,_,⟨_,jv_ _ rfl,rfl⟩,x3_.lookup,h⟩
def Ox {it:Addr} (hh:A.handled=none)(aq:s.heap.get? it=some (viO d i es.size ep))(c8:s.heap.get? d=some od)(cH:od.data=.dict es ep)
  (hQ:∀e h',es[i]?=some e->h'.get? it=some (viO d (i+1) es.size ep)->Heap.SameBut it s.heap h'->Q (some e.val) {s with heap:=h' })
  (hN:es[i]?=none->∀h',Heap.ExtBut it s.heap h'->Q none {s with heap:=h' }):wpAny (model prog w) A (pyNext (.ref it)) Q E s:=by
 have hT:s.TypeIs (.ref it) "dict_valueiterator" := ⟨_,aq,rfl⟩;have e1:=x3_;have h1:A.in1.handled=none:=hh;obtain⟨c,dc,da,sl⟩:=od;replace cH:da=_:=cH;subst cH;unfold pyNext;refine je_ (xm_ (qg_ hT e1 (qj_ e1 hT qo ?_ (qe _))))
 wp_walk
 cases hi:es[i]? with
 |some e=>
  simp only[show ¬ ((i:Int)<0) from by lia,x6_,jU_,hi]
  wp_walk using xn_ aq
  ·exact q7_ rfl
  intro h1 g1 k1;replace g1:h1.get? it=some (viO d (i+1) es.size ep):=g1
  wp_walk
  exact⟨_,rfl,jq_ (hQ e h1 hi g1 k1)⟩
 |none=>
  simp only[show ¬ ((i:Int)<0) from by lia,x6_,jU_,hi]
  wp_walk using xn_ aq
  ·exact q7_ rfl
  intro h1 g1 k1
  wp_walk
  exact wpAny_raiseNew_none hh (je_ (xF_ (T := "StopIteration") (b:=true) ⟨_,jv_ _ rfl,rfl⟩ isSubtype_stop (jq_ (hN hi _ ((k1.extBut.push _).push _)))))
end
section
variable {prog:Program} {w:World} {r d:Addr} {es:Array DictEntry} {ep:Nat} {od:Obj}
def val_src (cH:od.data=.dict es ep):KdlSrc prog w "dict_values" r d es.size (fun i v=>∃e,es[i]?=some e/\v=e.val) (fun h=>h.IsValuesView r d/\h.get? d=some od) where
 type:=fun _ m=>m.1.typeIs
 there:=fun _ m=>⟨let ⟨_,o,_⟩:=m.1;ju_ o,ju_ m.2⟩
 keep:=fun _ _ m k=>⟨let ⟨o,e,x⟩:=m.1;⟨o,k r (.inl rfl) o e,x⟩,k d (.inr rfl) _ m.2⟩
 notList:=by decide
 notTuple:=by decide
 hint:=fun _ _ _ _ m q=>kdl_hint_values m.1.typeIs q
 iter:=fun A s hh m=>⟨viO d 0 es.size ep,fun i h=>h.get? s.heap.objs.size=some (viO d i es.size ep)/\h.get? d=some od,fun _ _ q=>SW m.1 m.2 cH q,{
   sub:=fun b hb=>by simp at hb;simp[hb]
   frame:=fun _ _ _ st k=>⟨k _ (by simp) _ st.1,k _ (by simp) _ st.2⟩
   item:=fun i t Q E hi st q=>Ox hh st.1 st.2 cH (fun e h' e1 e2 e3=>q _ h' t.toks ⟨e,e1,rfl⟩ ⟨e2,e3.extBut _ _ (jP_ (ju_ m.2)) st.2⟩ fun b o n z=>e3.extBut b o (fun y=>n (by simp[y])) z) fun z=>by rw[pD]at z;lia
   done:=fun t Q E st q=>Ox hh st.1 st.2 cH (fun e h' e1=>by have:=(qA_.mp e1).1;lia) fun _ h' x=>q h' t.toks fun b o n z=>x b o (fun y=>n (by simp[y])) z
   self:=fun _ _ _ _ st q=>wpAny_pyIter_valiter ⟨_,st.1,rfl,rfl⟩ q},⟨jv_ _ rfl,jk_ _ m.2⟩⟩
end
end PySem.W
namespace L2
open PySem PySem.Spec PyProof.Rows
noncomputable def Ke (v d:Addr):HO:=.ext (fun h=>h.IsValuesView v d)
noncomputable def XD (td:TE):TE:=fun σ H Q=>td σ H fun x H1=>∃d kvs,x=.ref d/\Rd H1 d (.dT kvs)/\∀v,H1 v=none->Q (.ref v) (upd H1 v (Ke v d))
theorem UG : XD td σ H Q=td σ H fun x H1=>∃d kvs,x=.ref d/\Rd H1 d (.dT kvs)/\∀v,H1 v=none->Q (.ref v) (upd H1 v (Ke v d)):=rfl
def Rj (ho:PE X o td)(aG:attributeBase o "values" X.env (eval o X.env)=eval o X.env:=by rfl)(cB:(bp.endLine==aF.line)=true:=by rfl):PE X (.Call (.Attribute o "values" bp) [] [] aF) (XD td):=by
 intro aa s σ H Q I h;refine wpAny_Call_method0_late aG cB (thn (ho aa s σ H _ I h) fun v s1 ⟨x,H1,I1,r1,d,kvs,ex,hd,q⟩=>?_);subst ex;obtain rfl:v=Value.ref d:=r1;obtain⟨od,es,ep,g1,g2,g3,g4,g5,g6,g7⟩:=Oo I1.hok hd;have hT:s1.TypeIs (.ref d) "dict" := ⟨od,g1,g2.1⟩;refine⟨"dict","dict.values",zl_,pG,sL,hT,fun b e=>?_,xI_ rfl (qr ?_)⟩
 ·cases e;exact⟨od,g1,g2.2.1⟩
 refine qj_ pG hT rW (?_:wpAny _ _ (Builtin.«dict.values» _) _ _ s1) (rH _);refine je_ ?_;unfold Builtin.Dict.noArgs;refine je_ (xP_ hT ?_);show wpAny _ _ (pure d) _ _ s1;refine jq_ ?_;show wpAny _ _ (Builtin.Dict.showsAll d >>= _) _ _ s1;unfold Builtin.Dict.showsAll;rw[if_neg (by rw[g5];exact jx_)];refine je_ (jq_ ?_);refine je_ (qK_ (jq_ ⟨_,rfl,?_⟩));have new:AU X.prog X.w (upd H1 s1.heap.objs.size (Ke s1.heap.objs.size d)) (s1.heap.push {cls:=.type "dict_values",data:=.fields #[.ref d]}) s1.heap.objs.size (Ke s1.heap.objs.size d):=
  ⟨⟨_,jv_ _ rfl,rfl,rfl⟩,⟨_,jv_ _ rfl⟩,fun h1 h2 ⟨o,e,r⟩ k=>⟨o,k o e,r⟩⟩
 exact⟨.ref _,_,I1.laid (t':=s1.toks) (fun b u e=>jk_ _ e) (jh_ _) new,rfl,q _ (I1.hok.fresh (jh_ _))⟩
def IG (hc:X.calm=true):Cd X (.type "list") (fun xs H Q=>∃v d kvs,xs=[.ref v]/\H v=some (Ke v d)/\Rd H d (.dT kvs)/\∀l,H l=none->Q (.ref l) (upd H l (.lst (kvs.map (·.2))))):=by
 intro aa s σ H xs us Q I r h;obtain⟨p,d,kvs,rfl,hv,hp,q⟩:=h;obtain⟨u,rfl,rx⟩:=vals1 r;cases rx;obtain⟨o,es,ep,g1,g2,g3,g4,g5,g6,g7⟩:=Oo I.hok hp;obtain⟨hview,_⟩:=(show AU X.prog X.w H s.heap p (Ke p d) from I.hok p _ hv);refine qZ (PySem.W.val_src g3) (I.ok.hd hc) ⟨hview,g1⟩ (by rw[g4];exact g6) fun h' tk acc c hk hS b9=>?_;have cc:acc.size=kvs.length:=b9.1.trans g4;have hv:Vals (kvs.map (·.2)) acc.toList:=by
  refine Vals.ofIx (by rw[ja_,qQ_,cc]) fun i v hv=>?_;have hi:i<kvs.length:=by rw[<-cc];simpa using (jd_.mp hv).1
  obtain⟨e,eS,rfl⟩:=b9.2 i v (by simpa using hv);obtain⟨b,en,a1,a2,a3,a4⟩:=g7 i kvs[i].1 kvs[i].2 (by simp[hi]);rw[a1]at eS;cases eS;exact⟨kvs[i].2,by simp[hi],a4⟩
 exact⟨.ref _,_,I.laid (t':=tk) hk (jh_ _) (show AU X.prog X.w _ h' _ (.lst (kvs.map (·.2))) from ⟨by rw[ja_];exact g6,acc.toList,c,hv,by simpa using hS⟩),rfl,q _ (I.hok.fresh (jh_ _))⟩
def MG {K:α3}(h:X.K=K) (hc:X.calm=true)(hg:Gl X "tuple")(hm:X.mg "tuple"=none)(mU:Gl X "reversed")(mV:X.mg "reversed"=none)(he:PE X e te)
  (jm:starEach [.Call (.Name "reversed" p2) [e] [] eR] X.env=[(false,eval (.Call (.Name "reversed" p2) [e] [] eR) X.env)]:=by rfl) (hs:starEach [e] X.env=[(false,eval e X.env)]:=by rfl):
  PE X (.Call (.Name "tuple" p) [.Call (.Name "reversed" p2) [e] [] eR] [] pos) (Lu K te):=by subst h;exact ME hc hg hm mU mV he jm hs
end L2
namespace L2
open PySem PySem.W PySem.Spec PySem.Calls PyProof.Rows
noncomputable def vD:Option (Option V)->(V->Prop)->Prop
 |some (some v),q=>q v
 |_,_=>False
theorem Rk : vD (some (some v)) q=q v:=rfl
def Yr (h:vD o q):∃v,o=some (some v)/\q v:=by
 match o,h with
 |some (some v),h=>exact⟨v,rfl,h⟩
noncomputable def XE (i:Nat):TE:=fun σ H Q=>vD σ[i]? fun v=>Q v H
theorem UH : XE i σ H Q=vD σ[i]? fun v=>Q v H:=rfl
def pvD (i:Nat) (hN:X.N[i]?=some x:=by rfl)(hv:Vis X.env.scope x:=by first|exact oY rfl|exact ph (oY rfl)|exact ph (ph rfl))(hd:(x==("__debug__" : Str))=false:=by decide)
  (bZ:(x==("__classdict__" : Str))=false:=by decide):PE X (.Name x pos) (XE i):=fun aa s σ H Q I h=>pv i hN hv hd bZ aa s σ H Q I (Yr h)
noncomputable def iD:V->V->(Int->Int->Prop)->Prop
 |.int i,.int j,q=>q i j
 |x,y,q=>∃i j,x=.int i/\y=.int j/\q i j
theorem UI : iD (.int i) (.int j) q=q i j:=rfl
def Vz : iD x y q=∃i j,x=.int i/\y=.int j/\q i j:=by
 cases x<;>cases y<;>first|rfl|(simp[iD])
noncomputable def rID (C:Int->Int->Prop)(g:Int->Int->V):R2:=fun x y H Q=>iD x y fun i j=>C i j/\Q (g i j) H
noncomputable def rI0D (g:Int->Int->V):R2:=fun x y H Q=>iD x y fun i j=>Q (g i j) H
theorem r_ID : rID C f x y H Q=iD x y fun i j=>C i j/\Q (f i j) H:=rfl
theorem XF : rI0D f x y H Q=iD x y fun i j=>Q (f i j) H:=rfl
def XG : rID C g=rI C g:=by
 funext x y H Q;exact Vz
def VA : rI0D g=rI0 g:=by
 funext x y H Q;exact Vz
def opD (h:OpR X f (rI C g)):OpR X f (rID C g):=by rw[XG];exact h
def opD0 (h:OpR X f (rI0 g)):OpR X f (rI0D g):=by rw[VA];exact h
noncomputable def bD:V->(Bool->Prop)->Prop
 |.bl c,q=>q c
 |x,q=>∃c,x=.bl c/\q c
theorem XH : bD (.bl c) q=q c:=rfl
def XI : bD x q=∃c,x=.bl c/\q c:=by
 cases x<;>first|rfl|(simp[bD])
noncomputable def tBD (t:TE):TT:=fun σ H Q=>t σ H fun x H1=>bD x fun c=>Q c H1
theorem r_BD : tBD te σ H R=te σ H fun x H1=>bD x fun c=>R c H1:=rfl
def UJ : tBD t=tB t:=by
 funext σ H Q
 show t σ H _=t σ H _
 congr 1
 funext x H1;exact XI
def VB : tBD t=Sn t:=UJ
def ptB (h:PT X e (tB t)):PT X e (tBD t):=by rw[UJ];exact h
def ptT (h:PT X e (Sn t)):PT X e (tBD t):=by rw[VB];exact h
noncomputable def eD:V->V->Prop->Prop
 |.int _,.int _,q=>q
 |.str _,.str _,q=>q
 |.non,.non,q=>q
 |.bl _,.bl _,q=>q
 |x,y,q=>scal x y=true/\q
theorem UK : eD (.int i) (.int j) q=q:=rfl
theorem UL : eD (.str i) (.str j) q=q:=rfl
theorem UM : eD .non .non q=q:=rfl
theorem XJ : eD (.bl i) (.bl j) q=q:=rfl
def VC : eD x y q=(scal x y=true/\q):=by
 cases x<;>cases y<;>first|rfl|(simp[eD,scal])
noncomputable def rEqF:R2:=fun x y H Q=>eD x y (Q (.bl (decide (x=y))) H)
noncomputable def rNeF:R2:=fun x y H Q=>eD x y (Q (.bl (!decide (x=y))) H)
theorem XM : rEqF x y H Q=eD x y (Q (.bl (decide (x=y))) H):=rfl
theorem XN : rNeF x y H Q=eD x y (Q (.bl (!decide (x=y))) H):=rfl
def VD:rEqF=rEq:=by funext x y H Q;exact VC
def VE:rNeF=rNe:=by funext x y H Q;exact VC
def opE (h:OpR X f rEq):OpR X f rEqF:=by rw[VD];exact h
def opN (h:OpR X f rNe):OpR X f rNeF:=by rw[VE];exact h
noncomputable def aD:V->(Addr->Prop)->Prop
 |.ref a,q=>q a
 |x,q=>∃a,x=.ref a/\q a
theorem UN : aD (.ref a) q=q a:=rfl
def SX : aD x q=∃a,x=.ref a/\q a:=by
 cases x<;>first|rfl|(simp[aD])
noncomputable def nD:V->(Int->Prop)->Prop
 |.int a,q=>q a
 |x,q=>∃a,x=.int a/\q a
theorem UO : nD (.int a) q=q a:=rfl
def Rl : nD x q=∃a,x=.int a/\q a:=by
 cases x<;>first|rfl|(simp[nD])
noncomputable def VF (K:α3):R2:=fun x y H Q=>aD x fun p=>∃xs,nD y fun i=>SqT K H p xs/\∃v,atI xs i=some v/\Q v H
noncomputable def VG (K:α3):R2:=fun x y H Q=>aD x fun p=>∃xs,nD y fun i=>SqL K H p xs/\∃v,atI xs i=some v/\Q v H
theorem UP {K:α3} : VF K x y H Q=aD x fun p=>∃xs,nD y fun i=>SqT K H p xs/\∃v,atI xs i=some v/\Q v H:=rfl
theorem UQ {K:α3} : VG K x y H Q=aD x fun p=>∃xs,nD y fun i=>SqL K H p xs/\∃v,atI xs i=some v/\Q v H:=rfl
def SY {K:α3}:VF K=rIxT K:=by
 funext x y H Q
 show aD x _=∃p xs i v,_;rw[SX];refine propext ⟨fun ⟨p,e,h⟩=>?_,fun ⟨p,xs,i,v,e1,e2,e3,e4,e5⟩=>⟨p,e1,?_⟩⟩
 ·obtain⟨xs,h⟩:=h;rw[Rl]at h;obtain⟨i,e2,e3,v,e4,e5⟩:=h;exact⟨p,xs,i,v,e,e2,e3,e4,e5⟩
 ·refine⟨xs,?_⟩;rw[Rl];exact⟨i,e2,e3,v,e4,e5⟩
def S0 {K:α3}:VG K=rIxL K:=by
 funext x y H Q
 show aD x _=∃p xs i v,_;rw[SX];refine propext ⟨fun ⟨p,e,h⟩=>?_,fun ⟨p,xs,i,v,e1,e2,e3,e4,e5⟩=>⟨p,e1,?_⟩⟩
 ·obtain⟨xs,h⟩:=h;rw[Rl]at h;obtain⟨i,e2,e3,v,e4,e5⟩:=h;exact⟨p,xs,i,v,e,e2,e3,e4,e5⟩
 ·refine⟨xs,?_⟩;rw[Rl];exact⟨i,e2,e3,v,e4,e5⟩
def ixTD {K:α3}(h:IxR X (rIxT K)):IxR X (VF K):=by rw[SY];exact h
def ixLD {K:α3}(h:IxR X (rIxL K)):IxR X (VG K):=by rw[S0];exact h
noncomputable def lD1:List V->(V->Prop)->Prop
 |[x],q=>q x
 |xs,q=>∃x,xs=[x]/\q x
theorem Rm : lD1 [x] q=q x:=rfl
def XO : lD1 xs q=∃x,xs=[x]/\q x:=by
 match xs with
 |[]=>rfl
 |[x]=>simp[lD1]
 |x::y::r=>rfl
noncomputable def VH (K:α3):List V->Hp->VK->Prop:=fun xs H Q=>lD1 xs fun x=>aD x fun p=>∃ys,(SqL K H p ys\/SqT K H p ys)/\Q (.int ys.length) H
theorem UR {K:α3} : VH K xs H Q=lD1 xs fun x=>aD x fun p=>∃ys,(SqL K H p ys\/SqT K H p ys)/\Q (.int ys.length) H:=rfl
def lenD {K:α3} (h:Cd X f (fun xs H Q=>∃p ys,xs=[.ref p]/\(SqL K H p ys\/SqT K H p ys)/\Q (.int ys.length) H)):Cd X f (VH K):=by
 have e:VH K=fun xs H Q=>∃p ys,xs=[.ref p]/\(SqL K H p ys\/SqT K H p ys)/\Q (.int ys.length) H:=by
  funext xs H Q
  show lD1 xs _=_;rw[XO];refine propext ⟨fun ⟨x,e,h⟩=>?_,fun ⟨p,ys,e,h1,h2⟩=>⟨_,e,ys,h1,h2⟩⟩;rw[SX]at h;obtain⟨p,rfl,ys,h1,h2⟩:=h;exact⟨p,ys,e,h1,h2⟩
 rw[e];exact h
def Ak (hN:X.N.Nodup)(he:PE X e te)(hi:X.N[i]?=some x:=by rfl)(hx:Loc X.env.scope x:=by exact oY rfl)(hs:swapsWith e (some (.Name x cW)) pos.line X.env=pure false:=by rfl)(hf:X.fn x=true\/X.env.scope.names.lookup x=some .local:=by first|exact .inl rfl|exact .inr rfl|assumption):PS X (.Assign [.Name x cW] e pos) (tAsg te (G8 i)):=BS hN hi hx he hs hf
def Aj (hr:IxR X r)(ha:PE X a ta)(hb:PE X b tb)(hs:Qq b:=by exact fun _ _=>rfl):PE X (.Subscript a b pos) (tOp r ta tb):=Yg hr ha hb hs
end L2
namespace PySem
open Sem (wp)
structure VKind (prog:Program)(w:World)(K:Type)[DecidableEq K] where
 is:Heap->K->Value->Prop
 hash:K->Int
 draws:K->Nat
 room:Around->Prop
 inj:∀{h:Heap} {a:Value} {x y:K},is h x a->is h y a->x=y
 keeps:∀{h h':Heap} {k:K} {a:Value} {d:Addr} {o:Obj} {es ep},is h k a->h.get? d=some o->o.data=.dict es ep->Heap.SameBut d h h'->is h' k a
 pyHash:∀{A:Around} {E:Value->Shared->Prop} {s:Shared} {k:K} {a:Addr} {Q:Int->Shared->Prop},room A->is s.heap k (.ref a)->Q (hash k) {s with toks:=s.toks+draws k}->wpAny (model prog w) A (PySem.pyHash (.ref a)) Q E s
 eqBool:∀{A:Around} {E:Value->Shared->Prop} {s:Shared} {x y:K} {u:Value} {b:Addr} {Q:Bool->Shared->Prop},room A->is s.heap x u->is s.heap y (.ref b)->Q (decide (x=y)) s->wpAny (model prog w) A (PySem.eqBool u (.ref b)) Q E s
 quiet:∀{A:Around} {E:Value->Shared->Prop} {s:Shared} {k:K} {a:Value} {Q:Bool->Shared->Prop},room A->is s.heap k a->Q true s->wpAny (model prog w) A (eqIsQuiet 8 a) Q E s
noncomputable abbrev NI:=Int ⊕ α2
noncomputable abbrev NK:=Option (List NI)
end PySem
namespace L2
open PySem PySem.Spec PyProof.Rows
noncomputable def EqsD (K:α3)(H:Hp)(n:Nat)(xs:List V)(x:V)(e:Nat->Bool):Prop:=(∀(i:Nat) (v:V),xs[i]?=some v->∃a,v=.ref a/\EqD K H n v x (e i))/\∀(i j:Nat) (v:V),xs[i]?=some v->xs[j]?=some v->e i=e j
noncomputable def evG (xs:List V)(e:Nat->Bool)(y:Value):Bool := @decide (∃(i:Nat) (a:Addr),y=.ref a/\xs[i]?=some (.ref a)/\e i=true) (oZ _)
def Oy {K:α3} (h:EqsD K H n xs x e) (hx:xs[i]?=some (.ref a)):evG xs e (.ref a)=e i:=by
 rw[qx_];unfold evG;rw[@decide_eq_true_iff _ (oZ _)];constructor
 ·rintro⟨j,b,hb,jl,kc⟩;cases hb;rw[h.2 i j _ hx jl];exact kc
 ·intro he;exact⟨i,a,rfl,hx,he⟩
def hu45 (h:u+8<cLine):u+4+1<cLine:=by lia
def Room.d (r:Room k A)(h:j<=k:=by decide):Room j A:=r.mono h
noncomputable abbrev HA (K:α3)(x:Str)(f:Addr):Prop:=nsIn K mainGlobals x=some (some (.ref f))
structure HF (K:α3)(x:Str)(st:Stmt)(f:Addr)(fd:α6):Prop where
 a:nsIn K mainGlobals x=some (some (.ref f))
 F:Fun K x x st f fd
def HF.b {K:α3} {st:Stmt} (h:HF K x st f fd)(e:∀(kV bF pm:Value) (an:Option Addr) (ai ct v:Value),bindArgs (fnOf x x (Ha st) (C4 st) (Ah st) .none kV bF pm an ai ct) ⟨[v],[]⟩=pure [(p,v)])(s:Shared)(v:Value):BindsTo s fd ⟨[v],[]⟩ [(p,v)]:=by
 obtain⟨_,_,_,_,_,_,_,_,_,rfl,_,_⟩:=h.F.ex;exact .of_eq (e _ _ _ _ _ _ _)
end L2
namespace PySem
def O6 {id:String}{B:Builtin} {rest:List Value} (slot:Slot T name id)(hT:s.TypeIs self T)(entry:entryFor table id=some B)(args:argsOk id ⟨self::rest,[]⟩)(g:Meets (B ⟨self::rest,[]⟩) S)(h:S A R s):codeAny (model prog w) A (.call (.builtin id) ⟨self::rest,[]⟩) R s:=
 zK_ slot.plain entry (slot.check _ _ _ _ _ _ _ _ hT args (g prog w A R s h))
def FL
  (hx:s.heap.get? a=some o) (hc:o.cls=.type "tuple") (dN:o.data=.seq xs k) (hd:o.dict=none) (hmiss:typeLookup (.type "tuple") name=pure none) (hname:(["__module__","__name__","__qualname__","__doc__","__annotations__"]:List Str).contains name=false) (hA:A.handled=none)
  (h:∀h' tk e,Heap.NewExcOf s.heap h' e "AttributeError" -> Q none {s with heap:=h',toks:=tk}) (hsz:name.length+100<=sizeLine:=by size_fits):wpAny (model prog w) A (getAttr? (.ref a) name) Q E s:=by
 obtain⟨c,dct,dat,sl⟩:=o;obtain rfl:c=_:=hc;obtain rfl:dat=_:=dN;obtain rfl:dct=_:=hd;obtain⟨hp,g,d,tk,os⟩:=s;have T:∀tk,Shared.TypeIs ⟨hp,g,d,tk,os⟩ (.ref a) "tuple" := fun _=>⟨_,hx,rfl⟩;have e:=F.slot_tuple_getattribute;have f1:=sub_AttributeError;have f4:=e.bind (.ref a);have f5:=am_tuple_getattr_none;unfold getAttr? getAttrBy? getAttrBy
 wp_walk
 refine xD_ e.lookup ?_
 wp_walk
 refine O6 e (T _) am_entry_tuple_getattribute (F.args_tuple_getattribute_2 _ _) (meets_getattribute_miss_tuple a xs k sl name _ hmiss hname hsz) ⟨hx,hA,fun h' tk' e' df=>?_⟩;obtain⟨t',u',he⟩:=df.there
 wp_walk
 exact h _ _ _ df.of
end PySem
namespace L2
open PySem PySem.Spec PyProof.Rows
namespace DP
def entry_loop:entryFor table "dict.update.loop"=some Builtin.«dict.update.loop» := entryFor_of_tree (by kernel_rfl)
def plain_loop:plainId "dict.update.loop"=true:=by decide +kernel
end DP
noncomputable def Bw (kvs:List (List Key×V))(ps:List (List Key×V)):List (List Key×V):=ps.foldl (fun acc p=>putK acc p.1 p.2) kvs
def Rd.upd_dT (hd:H d=some (.dT kvs))(h:Rd H a u)(hu:∀z,u ≠ .dT z):Rd (upd H d (.dT kvs')) a u:=by
 have aw:a≠d:=by
  rintro rfl;rcases h with h|⟨o,h⟩<;>rw[hd]at h<;>injection h with h
  ·exact hu _ h.symm
  ·cases h
 unfold Rd;rw[Au aw];exact h
section
variable {X:Cx} {aa:α7} {σ:St}
noncomputable def PrsAt (H:Hp)(ts:List Addr)(ps:List (List Key×V)):Prop:=
 ts.length=ps.length/\∀(j:Nat) (p:List Key×V) (q:Addr),ps[j]?=some p->ts[j]?=some q->∃b,Rd H q (.tup [.ref b,p.2])/\H b=some (.tup (p.1.map kV))
def S1 {d a it:Addr} (hu:A.units+20<cLine)(hh:A.handled=none):
  ∀(n i:Nat) (s:Shared) (H:Hp) (kvs:List (List Key×V)) (t:Tok),ps.length-i=n->i<=ps.length->Inv X aa σ H s->H d=some (.dT kvs)->kvs.length+n<sizeLine->s.heap.IsTupleIter it a i->FpOk X aa H it->Rd H a (.tup (ts.map V.ref))->PrsAt H ts ps ->
   (∀s',Inv X aa σ (upd H d (.dT (Bw kvs (ps.drop i)))) s'->R (.ok (.ret .none)) s') ->
   codeAny (model X.prog X.w) A (.builtin "dict.update.loop" ⟨[.ref d,.ref it,.int i t,.none],[]⟩) R s:=by
 intro n
 induction n with
 |zero=>
  intro i s H kvs t hn hi I hd hz st hF hS hP hR;have dM:i=ps.length:=by lia
  subst dM;obtain⟨f0,f1,f2,f3,f4,f5⟩:=hF;obtain⟨its,rv,p,eA⟩:=I.tuple (.inl hS);have hl:=rv.length;refine qN_ DP.entry_loop ?_;rw[qv_ DP.plain_loop _];show wpAny _ A.in1 (pyNext (.ref it) >>= _) _ _ s;refine je_ (wpAny_pyNext_tuple_end hh st (show s.heap.IsTuple a its.toArray from p) (by have:=hP.1;simp at hl ⊢;lia) fun h' eb=>?_);have I1:Inv X aa σ H {s with heap:=h' }:=I.turned (t':=s.toks) (fun b o hb e=>eb b o hb e) f0 f1 f3 f4 f5;have e0:upd H d (.dT (Bw kvs (ps.drop ps.length)))=H:=by
   rw[pK];show upd H d (.dT kvs)=H
   funext b;unfold upd;split
   ·rename_i q;rw[q];exact hd.symm
   ·rfl
  rw[e0]at hR;exact je_ (jq_ (jq_ (hR _ I1)))
 |succ n ih=>
  intro i s H kvs t hn hi I hd hz st hF hS hP hR;obtain⟨f0,f1,f2,f3,f4,f5⟩:=id hF;obtain⟨its,rv,p,eA⟩:=I.tuple (.inl hS);have aQ:i<ps.length:=by lia
  have aq:i<ts.length:=by rw[hP.1];exact aQ
  obtain⟨u,br,ru⟩:=rv.get (i:=i) (x:=V.ref ts[i]) (by simp[aq]);cases (show u=Value.ref ts[i] from ru);obtain⟨b,hq,hb⟩:=hP.2 i ps[i] ts[i] (by simp) (by simp);refine qN_ DP.entry_loop ?_;rw[qv_ DP.plain_loop _];show wpAny _ A.in1 (pyNext (.ref it) >>= _) _ _ s;refine je_ (wpAny_pyNext_tuple_item st (show s.heap.IsTuple a its.toArray from p) (x:=.ref ts[i]) (by simpa using br) fun h' bK sb=>?_);have I1:Inv X aa σ H {s with heap:=h' }:=I.turned (t':=s.toks) (fun b o hb e=>(sb.2 b hb).trans e) f0 f1 f3 f4 f5;refine je_ (qC_ ?_);obtain⟨aA,iF,⟨o2,fv,dH,k2,fR⟩,_⟩:=I1.tuple (.inl hq);refine je_ (wpAny_tryCatch ?_);unfold Builtin.Dict.pairItems;refine je_ (zd_ ⟨o2,fv,dH⟩ ?_);rw[if_pos (by decide)];refine je_ (wpAny_seqItems fv fR (jq_ ?_));cases iF with
  |cons r1 t2=>
  cases t2 with
  |cons r2 t3=>
  cases t3
  rename_i u1 u2
  cases (show u1=Value.ref b from r1);refine qC_ ?_;obtain⟨z,gF,xs,aX,dd⟩:=Vc I1.hok hd;have hzx:xs.length<=sizeLine:=by rw[<-zi_ aX];exact z
  have hl:(putK kvs ps[i].1 ps[i].2).length<=kvs.length+1:=B0 kvs _ _;refine wpAny_dictSet_heap (hsz:=hzx) (xK_ s!"") (Ky I1.hok hb) dd fun h2 fV hs=>?_;obtain⟨q,es,ep,cD,dO,h3,h4,_,h5⟩:=fV;have I2:=fun t'=>Hc (t':=t') (ob:=.dT (putK kvs ps[i].1 ps[i].2)) I1 (by rw[hd];exact oX) hs ⟨q,cD⟩ ⟨by lia,gF,_,(aX.put ps[i].1 hb r2).keeps fun c ys ec=>by
   rw[Au (U3 ec hd (fun z=>nomatch z))];exact ec,q,es,ep,cD,dO,h3,h4,h5⟩
  refine jq_ ⟨q5_ DP.plain_loop _,?_⟩;have hdit:d≠it:=AO hd f0;refine ih (i+1) _ _ (putK kvs ps[i].1 ps[i].2) _ s!"" s!"" (I2 _) (by unfold upd;rw[if_pos rfl]) s!"" ?_ ?_ (hS.upd_dT hd (fun z e=>nomatch e)) ⟨hP.1,fun j p' q' hj lx=>?_⟩ ?_
  ·obtain⟨o,ho,r⟩:=bK;exact⟨o,(hs.2 it (q3_ hdit)).trans ho,r⟩
  ·exact⟨by rw[Au (q3_ hdit)];exact f0,f1,f2,f3,f4,f5⟩
  ·obtain⟨b',hb1,gO⟩:=hP.2 j p' q' hj lx;exact⟨b',hb1.upd_dT hd (fun z e=>nomatch e),by rw[Au (U3 gO hd (fun z=>nomatch z))];exact gO⟩
  ·intro s' I';refine hR s' ?_;have e1:Bw kvs (ps.drop i)=Bw (putK kvs ps[i].1 ps[i].2) (ps.drop (i+1)):=by
    rw[List.drop_eq_getElem_cons aQ];rfl
   have e2:upd (upd H d (.dT (putK kvs ps[i].1 ps[i].2))) d (.dT (Bw (putK kvs ps[i].1 ps[i].2) (ps.drop (i+1))))=upd H d (.dT (Bw kvs (ps.drop i))):=by
    rw[e1];funext c;unfold upd;split<;>rfl
   rw[<-e2];exact I'
end
end L2
namespace L2
open PySem PySem.Spec PyProof.Rows
namespace DP
def keys_none:typeLookup (.type "tuple") "keys"=pure none:=by rw[xz_,qW_];kernel_rfl
end DP
section
variable {X:Cx} {aa:α7} {σ:St} {H:Hp} {s:Shared} {A:Around} {E:Value->Shared->Prop}
def O7 (I:Inv X aa σ H s)(ha:H a=some (.frz o (.tup (ts.map V.ref))))(c8:o.dict=none)(hP:PrsAt H ts ps)(hl:ps.length<sizeLine)(hu:A.units+30<cLine)(hh:A.handled=none)
  (h:∀s',Inv X aa σ (upd H s.heap.objs.size (.dT (Bw [] ps))) s'->Q (.ref s.heap.objs.size) s'):wpAny (model X.prog X.w) A (call (.type "dict") [.ref a]) Q E s:=by
 refine callType_codes (Q₁:=fun obj s₁=>obj=.ref s.heap.objs.size/\s₁={s with heap:=s.heap.push {cls:=.type "dict",data:=.dict #[]} }) F.kt_called_dict (F.kt_typeCall_dict_1 _) F.entry_dict_init (kt_code_dict_new _ ⟨rfl,rfl⟩) ?_;rintro obj s₁ ⟨rfl,rfl⟩;have I1:Inv X aa σ (upd H s.heap.objs.size (.dT [])) {s with heap:=s.heap.push {cls:=.type "dict",data:=.dict #[]} }:=I.laid (a:=s.heap.objs.size) (o:=.dT []) (t':=s.toks) (fun _ _ q=>jk_ _ q) (jh_ _) (Ob s.heap I.big);have hf:H s.heap.objs.size=none:=I.hok.fresh (jh_ _);have hT:Shared.TypeIs {s with heap:=s.heap.push {cls:=.type "dict",data:=.dict #[]} } (.ref s.heap.objs.size) "dict" := ⟨_,jv_ _ rfl,rfl⟩;obtain⟨ho,hz,its,rv,o',bf,d8,k',gF⟩:=(show AU X.prog X.w H s.heap a (.frz o (.tup (ts.map V.ref))) from I.hok a _ ha);rw[ho]at bf;cases bf;have m7:(s.heap.push {cls:=.type "dict",data:=.dict #[]}).get? a=some o:=jk_ _ ho;refine⟨hT,F.args_dict_init_2 _ _,?_⟩;unfold Builtin.«dict.__init__»;refine je_ ?_;unfold Builtin.Dict.selfAndRest;refine je_ (xP_ hT ?_);show wpAny _ _ (pure (s.heap.objs.size,[Value.ref a])) _ _ _;refine jq_ ?_;show wpAny _ _ (Builtin.Dict.updateFrom "dict.__init__" s.heap.objs.size (.ref a) [] .none) _ _ _;unfold Builtin.Dict.updateFrom;refine je_ (zd_ ⟨o,m7,d8⟩ ?_);rw[if_pos (by decide)];refine je_ ?_;refine FL (A:=A.in1.in1) (s:={s with heap:=s.heap.push {cls:=.type "dict",data:=.dict #[]} }) m7 d8 gF c8 DP.keys_none (by decide) (show A.in1.in1.handled=none from hh) fun h2 tk e hx=>?_;rw[if_pos (show (none:α5).isNone=true from rfl)];refine je_ (wpAny_rule (je_ ?_));have I2:Inv X aa σ (upd H s.heap.objs.size (.dT [])) {s with heap:=h2,toks:=tk}:=I1.kept (t':=tk) (fun b u q=>hx.keeps b u q);have hoP2:h2.get? a=some o:=hx.keeps _ _ m7;refine xk_ (s:={s with heap:=h2,toks:=tk}) ⟨o,hoP2,d8,_,gF⟩ ?_;have I3:Inv X aa σ (upd H s.heap.objs.size (.dT [])) {s with heap:=h2.push {cls:=.type "tuple_iterator",data:=.fields #[.ref a,.int 0 0]},toks:=tk}:=I2.kept (t':=tk) (fun b u q=>jk_ _ q);refine jq_ ⟨q5_ DP.plain_loop _,?_⟩;have aw:∀b,H b≠none->b≠s.heap.objs.size:=fun b hb e=>hb (by rw[e];exact hf);refine S1 (A:=A.in1) (a:=a) (ts:=ts) (ps:=ps) (by show A.units+1+20<cLine;lia) (show A.in1.handled=none from hh) ps.length 0 _ _ [] _ s!"" s!"" I3 (by unfold upd;rw[if_pos rfl]) (by simpa using hl) ⟨_,jv_ _ rfl,rfl,rfl⟩ (I2.fpOk (jh_ _) ?_) ?_ ⟨hP.1,fun j p q hj hq=>?_⟩ fun s' I'=>?_
 ·exact I2.hok.fresh (jh_ _)
 ·exact .inr ⟨o,by rw[Au (aw a (by rw[ha];exact fun z=>nomatch z))];exact ha⟩
 ·obtain⟨b,h1,h2⟩:=hP.2 j p q hj hq;refine⟨b,?_,by rw[Au (aw b (by rw[h2];exact fun z=>nomatch z))];exact h2⟩;unfold Rd;rw[Au (aw q (by rcases h1 with h1|⟨o1,h1⟩<;>rw[h1]<;>exact fun z=>nomatch z))];exact h1
 ·refine⟨rfl,h s' ?_⟩;have e2:upd (upd H s.heap.objs.size (.dT [])) s.heap.objs.size (.dT (Bw [] (ps.drop 0)))=upd H s.heap.objs.size (.dT (Bw [] ps)):=by
   rw[x1_];funext c;unfold upd;split<;>rfl
  rw[<-e2];exact I'
end
end L2
namespace L2
open PySem PySem.Spec PyProof.Rows
section
variable {X:Cx}
def HK:Cd X (.type "tuple") (fun xs H Q=>∃p ys,xs=[.ref p]/\SqL X.K H p ys/\∀l o,H l=none->o.dict=none->Q (.ref l) (upd H l (.frz o (.tup ys)))):=by
 intro aa s σ H xs us Q I r h;obtain⟨p,ys,rfl,hq,q⟩:=h;obtain⟨u,rfl,rx⟩:=vals1 r;cases rx;obtain⟨its,r',pl,hz⟩:=I.list hq;have ah:=r'.length;refine call_tuple_list pl.isList (fun h' kp=>?_) (by simp only[jl_]<;>lia);have I1:Inv X aa σ H {s with heap:=h' }:=I.kept (t':=s.toks) kp;have I2:Inv X aa σ (upd H h'.objs.size (.frz {cls:=.type "tuple",data:=.seq its.toArray} (.tup ys))) {s with heap:=h'.push {cls:=.type "tuple",data:=.seq its.toArray} }:=
  I1.laid (t':=s.toks) (fun b o e=>jk_ _ e) (jh_ _) (show AU X.prog X.w _ _ _ (.frz _ (.tup ys)) from ⟨jv_ _ rfl,hz,its,r',IsTup.new _ _⟩)
 exact⟨.ref h'.objs.size,_,I2,rfl,q _ _ (I1.hok.fresh (jh_ _)) rfl⟩
noncomputable abbrev XQ:List V->Hp->VK->Prop:=fun xs H Q=>∃(a:Addr) (o:Obj) (ts:List Addr) (ps:List (List Key×V)),xs=[.ref a]/\H a=some (.frz o (.tup (ts.map V.ref)))/\o.dict=none/\PrsAt H ts ps/\ps.length<sizeLine/\∀p,H p=none->Q (.ref p) (upd H p (.dT (Bw [] ps)))
def FN (hc:X.calm=true)(hr:Room k X.A):Cd X (.type "dict") XQ:=by
 intro aa s σ H xs us Q I r h;obtain⟨a,o,ts,ps,rfl,ha,c8,hP,hl,q⟩:=h;obtain⟨u,rfl,rx⟩:=vals1 r;cases rx;exact O7 I ha c8 hP hl (by have:=hr.units;lia) (I.ok.hd hc) fun s' I'=>⟨.ref s.heap.objs.size,_,I',rfl,q _ (I.hok.fresh (jh_ _))⟩
end
def HN:∀(ps kvs:List (List Key×V)),((kvs++ps).map (·.1)).Nodup->Bw kvs ps=kvs++ps
 |[],kvs,_=>by simp[Bw]
 |p::ps,kvs,h=>by
  have hp:putK kvs p.1 p.2=kvs++[p]:=by
   unfold putK;rw[if_neg];intro hx;rw[q1_]at hx;obtain⟨q,hq,e⟩:=hx;have e:=qU_ e;rw[jg_,j6_,xX_]at h;exact h.2.2 q.1 (jo_.mpr ⟨q,hq,rfl⟩) p.1 (by simp) e
  show Bw (putK kvs p.1 p.2) ps=kvs++p::ps;rw[hp,HN ps (kvs++[p]) (by simpa using h)];simp
end L2
namespace L2
open PySem PySem.Spec PyProof.Rows
def O8 {K:α3}(h:X.K=K):OpR X (compareOp .In) (rIn K false):=by subst h;exact Qs
noncomputable def rInT (K:α3):R2:=fun x y H Q=>∃p t xs w ws,y=.ref p/\x=.ref t/\SqT K H p xs/\Aq K H xs ws/\SqT K H t (w.map V.int)/\Q (.bl (decide (w∈ws))) H
theorem XR {K:α3} : rInT K x y H Q=∃p t xs w ws,y=.ref p/\x=.ref t/\SqT K H p xs/\Aq K H xs ws/\SqT K H t (w.map V.int)/\Q (.bl (decide (w∈ws))) H:=rfl
def Ro {K:α3} (hw:Aq K H xs ws)(ht:SqT K H t (w.map V.int)):EqsD K H 2 xs (.ref t) (fun i=>decide (ws[i]?=some w)):=by
 refine⟨fun i v hv=>?_,fun i j v hi hj=>?_⟩
 ·obtain⟨a,u,e1,rfl,e2⟩:=hw.at hv;refine⟨a,rfl,?_⟩;have:=EqD.ints (K:=K) (H:=H) (xs:=u) (ys:=w) (.inr ⟨SqT.of e2,ht⟩) 1;show EqD K H 2 (.ref a) (.ref t) (decide (ws[i]?=some w));rw[show decide (ws[i]?=some w)=decide (u=w) by rw[e1];simp];exact this
 ·obtain⟨a,u,e1,rfl,e2⟩:=hw.at hi;obtain⟨b,u',f1,z,f2⟩:=hw.at hj;cases z;rw[e2]at f2;have:=jC_ f2;injection this with this;have:=(zn_ (fun x y z=>V.int.inj z)).mp this;show decide (ws[i]?=some w)=decide (ws[j]?=some w);rw[e1,f1,this]
def XS (hu:X.A.units+8<cLine):OpR X (compareOp .In) (rInT X.K):=by
 intro aa s σ H x y v u Q I rx ry h;obtain⟨p,t,xs,w,ws,rfl,rfl,hp,hw,ht,q⟩:=h;cases ry;cases rx;have hE:=Ro hw ht;obtain⟨its,r,pl,_⟩:=I.tuple hp;have hl:=r.length;refine SeqAt.in_tupleAt (evG xs fun i=>decide (ws[i]?=some w)) pl (fun y hy=>?_) ⟨.bl _,H,I,rfl,?_⟩
 ·have iE:y∈its:=by simpa using hy
  obtain⟨i,hi,ei⟩:=qS_ iE;have eh:i<xs.length:=by lia
  obtain⟨u,br,ru⟩:=r.get (i:=i) (x:=xs[i]) (by simp[eh]);rw[jb_ hi,ei]at br;cases br;obtain⟨a,e2,e3⟩:=hE.1 i xs[i] (by simp[eh]);rw[e2]at ru e3;cases ru;rw[Oy hE (i:=i) (by rw[jb_ eh,e2])];exact (EqD.at (x:=V.ref a) (y:=V.ref t) I 2 X.A.in1 (by rw[in1_units];lia) rfl rfl e3).1
 ·have:its.toArray.any (evG xs fun i=>decide (ws[i]?=some w))=decide (w∈ws):=by
   rw[show its.toArray.any (evG xs fun i=>decide (ws[i]?=some w))=its.any (evG xs fun i=>decide (ws[i]?=some w)) by simp,qx_,q1_,j5_];constructor
   ·rintro⟨y,hy,ka⟩;obtain⟨j,b,_,jl,kc⟩:=(@decide_eq_true_iff _ (oZ _)).mp ka;exact jj_ (qU_ kc)
   ·intro hm;obtain⟨i,hi⟩:=j7_.mp hm;obtain⟨a,hx,_⟩:=hw.2 i w hi;obtain⟨u,br,ru⟩:=r.get hx;cases ru;exact⟨.ref a,jj_ br,by rw[Oy hE hx];exact jZ_ hi⟩
  rw[this];exact q
def VI {K:α3}(h:X.K=K)(hu:X.A.units+8<cLine):OpR X (compareOp .In) (rInT K):=by subst h;exact XS hu
def Aq.append {K:α3} (h:Aq K H xs as)(g:Aq K H ys bs):Aq K H (xs++ys) (as++bs):=by
 refine⟨by rw[ji_,ji_,h.1,g.1],fun i u hu=>?_⟩;by_cases hi:i<as.length
 ·rw[jm_ hi]at hu;obtain⟨t,a,b⟩:=h.2 i u hu;exact⟨t,by rw[jm_ (by rw[h.1];exact hi)];exact a,b⟩
 ·rw[jp_ s!""]at hu;obtain⟨t,a,b⟩:=g.2 _ u hu;exact⟨t,by rw[jp_ (by rw[h.1];lia),h.1];exact a,b⟩
def Aq.rowsN {K:α3} (h:Aq K H zs ws):∃ts:List Addr,zs=ts.map V.ref/\ts.length=ws.length/\∀(i:Nat) (t:Addr) (row:α2),ts[i]?=some t->ws[i]?=some row->H t=some (.tup (row.map V.int)):=by
 refine⟨zs.map fun v=>match v with | .ref t=>t|_=>0,?_,by rw[ja_,h.1],fun i t row h1 h2=>?_⟩
 ·refine j2_ fun i=>?_;rw[jJ_,jf_];cases hz:zs[i]? with
  |none=>rfl
  |some v=>
   obtain⟨t,u,_,rfl,_⟩:=h.at hz;rfl
 ·obtain⟨t',a,b⟩:=h.2 i row h2;rw[jf_,a]at h1;cases h1;exact b
end L2
namespace L2
open PySem PySem.Spec PyProof.Rows
section
variable {X:Cx} {aa:α7} {σ:L2.St} {A:Around}
noncomputable abbrev ends (Q E:Value->Shared->Prop):Result->Shared->Prop:=fun r s'=>match r with | .ok (.ret v)=>Q v s' | .ok _=>False | .error e=>E e s'
end
end L2
namespace N80
open Nest L2 GW
noncomputable def val (b:Nat)(v:α2):Nat:=v.foldl (fun a x=>a*b+x.toNat) 0
noncomputable def cod (b:Nat)(v:α2):Nat:=b ^ v.length+val b v
structure Turn {R:Type}(A:Int->α2->Prop)(p e:Int)(b:Nat)(aN:R->Prop)(best:R->Option (α2))(res:Option (α2)):Prop where
 s:∀t,res=some t->∃r,best r=some t/\aN r
 l:∀r t,best r=some t->aN r->∃t',res=some t'/\cod b t'<=cod b t
end N80
namespace HT
open PySem PyProof.Rows
inductive LtE (A:Around)(s:Shared)(f:Bool):List Value->List Value->Bool->Prop
 | endL {ws:List Value}:LtE A s f [] ws f
 | endR {vs:List Value}:LtE A s f vs [] f
 | eq {v w:Value} {vs ws:List Value} {b:Bool}:SeqAt.EqAt A s v w true->LtE A s f vs ws b->LtE A s f (v::vs) (w::ws) b
 | ne {v w:Value} {vs ws:List Value} {b:Bool}:SeqAt.EqAt A s v w false->(∀(prog:Program) (wd:World) (E:Value->Shared->Prop) (Q:Value->Shared->Prop),Q (.bool b) s->wpAny (model prog wd) A (richCompare .Lt v w) Q E s)->LtE A s f (v::vs) (w::ws) b
end HT
namespace L2
open PySem PySem.Spec PyProof.Rows
structure HG (K:α3)(x q:Str)(st:Stmt)(f:Addr)(fd:α6)(M:Prop):Prop where
 m:M
 F:Fun K x q st f fd
section
variable {P:Program} {w:World} {K:α3} {mg:Str->α5} {base:Heap} {CX:CXT} {k:Nat} {x q:Str} {st:Stmt} {N ps:List Str} {sp:Sp} {f:Addr} {fd:α6} {M:Prop}
structure CalH (P:Program)(w:World)(mg:Str->α5)(base:Heap)(CX:CXT){K:α3}{x q:Str}{st:Stmt}{f:Addr}{fd:α6}{M:Prop}(h:HG K x q st f fd M)(k:Nat)(ps:List Str)(sp:Sp):Prop where
 g:FnOk P w K mg base CX k f fd ps sp
 b:Binds K fd ps []
noncomputable abbrev Bnd (x q:Str)(st:Stmt)(ps:List Str):Prop:=∀(kV bF pm:Value) (an:Option Addr) (ai ct:Value) (us:List Value),us.length=ps.length->bindArgs (fnOf x q (Ha st) (C4 st) (Ah st) .none kV bF pm an ai ct) ⟨us,[]⟩=pure (ps.zip us)
def HG.ok (h:HG K x q st f fd M)(S:FnScope N ps (Ah st))(len:∀vs H Q E,sp vs H Q E->vs.length=ps.length)
  (aK:∀(ai:Value) (A:Around) (outer:List Env) (s:Shared) (H:Hp) (vs:List V) (Q:VK) (E:XK),Room k (A.deeper (envOfC q (Ah st) s.heap.objs.size f ai))->sp vs H Q E ->
   ∃t,PSs (cxOf CX0 P w K mg base N q (Ah st) f ai A outer s H E).nox (C4 st) t/\t {nx:=fun _ H'=>Q .non H',rt:=Q} (start N vs) H)
  (e:Bnd x q st ps:=by
   intro _ _ _ _ _ _ us hl;first|(obtain⟨_,rfl⟩:=len1 hl;rfl)|(obtain⟨_,_,rfl⟩:=len2 hl;rfl)|(obtain⟨_,_,_,rfl⟩:=len3 hl;rfl)|(obtain⟨_,_,_,_,rfl⟩:=len4 hl;rfl)|(obtain⟨_,_,_,_,_,rfl⟩:=len5 hl;rfl)|(obtain⟨_,_,_,_,_,_,rfl⟩:=len6 hl;rfl)):CalH P w mg base CX0 h (k+1) ps sp:=⟨h.F.ok S len aK,h.F.binds e⟩
def HG.okE (h:HG K x q st f fd M)(S:FnScope N ps (Ah st))(len:∀vs H Q E,sp vs H Q E->vs.length=ps.length)
  (aK:∀(ai:Value) (A:Around) (outer:List Env) (s:Shared) (H:Hp) (vs:List V) (Q:VK) (E:XK),Room k (A.deeper (envOfC q (Ah st) s.heap.objs.size f ai))->sp vs H Q E ->
   ∃t,PSs (cxOf (CXe P w) P w K mg base N q (Ah st) f ai A outer s H E) (C4 st) t/\t {nx:=fun _ H'=>Q .non H',rt:=Q} (start N vs) H)
  (e:Bnd x q st ps:=by
   intro _ _ _ _ _ _ us hl;first|(obtain⟨_,rfl⟩:=len1 hl;rfl)|(obtain⟨_,_,rfl⟩:=len2 hl;rfl)|(obtain⟨_,_,_,rfl⟩:=len3 hl;rfl)|(obtain⟨_,_,_,_,rfl⟩:=len4 hl;rfl)|(obtain⟨_,_,_,_,_,rfl⟩:=len5 hl;rfl)|(obtain⟨_,_,_,_,_,_,rfl⟩:=len6 hl;rfl)):CalH P w mg base (CXe P w) h (k+1) ps sp:=⟨h.F.okE S len aK,h.F.binds e⟩
noncomputable abbrev HP (K:α3)(mg:Str->α5)(fA:Nat->Addr)(fD:Nat->α6)(x:Str)(st:Stmt)(i:Nat):Prop:=HG K x x st (fA i) (fD i) (mg x=some (.ref (fA i)))
def Ag {X:Cx}{h:HG X.K x x st f fd (X.mg x=some (.ref f))}{E:XK}{p pos:Pos}{e:Expr}{es:List Expr}{t:TA}(q:CalH X.prog X.w X.mg X.base CX h k ps sp)(hr:Room k X.A)(hx:Kw CX X E)
  (ha:PA X (e::es) t) (hg:Gl X x:=by rfl) (b6:(x==("__debug__" : Str))=false:=by decide) (he:starEach (e::es) X.env=(false,eval e X.env)::starEach es X.env:=by rfl) (bg:(backTo pos (starEach es X.env)).any (·.1)=false:=by rfl):
  PE X (.Call (.Name x p) (e::es) [] pos) (U9 sp [] E t):=Va q.g hr hg h.m h.F.kp q.b .nil hx ha b6 he bg
def xcls (ga:pB K (.ref D) "__getattribute__"=some (some (.builtin "BaseException.__getattribute__")))(hk:pB K (.ref D) "__getattr__"=some none)(cl:ur K D=some cd)(ca:pB K (.ref D) "__class__"=some (some (.builtin "object.__class__")))(gs:qI K (.builtin "object.__class__") "__get__"=some (some (.builtin "getset_descriptor.__get__")))(tk:rA K (.builtin "object.__class__")=some true)(mo:qu K D (.type "object")=some true)(mb:qu K D (.type "BaseException")=some true):ExcCls K D:=⟨ga,hk,by rw[cl];rfl,ca,gs,tk,mo,mb⟩
end
end L2
namespace L2
open PySem PySem.Spec PyProof.Rows
noncomputable def US (K:α3)(n:Nat):R2:=fun x y H Q=>∃p t xs e,y=.ref p/\x=.ref t/\SqT K H p xs/\EqsD K H n xs x e/\Q (.bl (!((oW xs.length).any e))) H
theorem Rp {K:α3} : US K n x y H Q=∃p t xs e,y=.ref p/\x=.ref t/\SqT K H p xs/\EqsD K H n xs x e/\Q (.bl (!((oW xs.length).any e))) H:=rfl
def S2 (n:Nat)(hu:X.A.units+n+1<cLine):OpR X (compareOp .NotIn) (US X.K n):=by
 intro aa s σ H x y v u Q I rx ry h;obtain⟨p,t,xs,e,rfl,rfl,hp,hE,q⟩:=h;cases ry;cases rx;obtain⟨its,r,pl,_⟩:=I.tuple hp;have hl:=r.length;refine SeqAt.notIn_tupleAt (evG xs e) pl (fun y hy=>?_) ⟨.bl _,H,I,rfl,?_⟩
 ·have iE:y∈its:=by simpa using hy
  obtain⟨i,hi,ei⟩:=qS_ iE;have eh:i<xs.length:=by lia
  obtain⟨u,br,ru⟩:=r.get (i:=i) (x:=xs[i]) (by simp[eh]);rw[jb_ hi,ei]at br;cases br;obtain⟨a,e2,e3⟩:=hE.1 i xs[i] (by simp[eh]);rw[e2]at ru e3;cases ru;rw[Oy hE (i:=i) (by rw[jb_ eh,e2])];exact (EqD.at (x:=V.ref a) (y:=V.ref t) I n X.A.in1 (by rw[in1_units];lia) rfl rfl e3).1
 ·have:its.toArray.any (evG xs e)=(oW xs.length).any e:=by
   rw[show its.toArray.any (evG xs e)=its.any (evG xs e) by simp,qx_,q1_,q1_];constructor
   ·rintro⟨y,hy,ka⟩;obtain⟨j,b,_,jl,kc⟩:=(@decide_eq_true_iff _ (oZ _)).mp ka;exact⟨j,j3_.mpr (jd_.mp jl).1,kc⟩
   ·rintro⟨i,hi,bM⟩;have hi:=j3_.mp hi;obtain⟨a,e2,e3⟩:=hE.1 i xs[i] (by simp[hi]);have hx:xs[i]?=some (.ref a):=by rw[jb_ hi,e2]
    obtain⟨u,br,ru⟩:=r.get hx;cases ru;exact⟨.ref a,jj_ br,by rw[Oy hE hx];exact bM⟩
  rw[this];exact q
end L2
namespace L2
open PySem
section
variable {α β:Type} {f:α->β} {a b:α} {l m:List α} {n:Nat}
theorem mp_C:qg f (a::l)=f a::qg f l:=rfl
theorem mp_N:qg f []=[]:=rfl
theorem ap_C:a::l++m=a::(l++m):=rfl
theorem ap_N:[]++m=m:=rfl
theorem gt_Z:(a::l)[0]?=some a:=rfl
theorem gt_S:(a::l)[n+1]?=l[n]?:=rfl
theorem st_Z:(a::l).set 0 b=b::l:=rfl
theorem st_S:(a::l).set (n+1) b=a::l.set n b:=rfl
theorem rp_Z:oU 0 a=[]:=rfl
theorem rp_S:oU (n+1) a=a::oU n a:=rfl
theorem ln_N:([]:List α).length=0:=rfl
theorem ln_C:(a::l).length=l.length+1:=rfl
end
end L2
namespace L2
open PySem PySem.Spec PyProof.Rows
noncomputable def Oz (i:Nat)(f f' f2:Addr)(sp jo jq:Sp)(bL dR jr:List V)(E:St->XK)(t:TA):TE:=fun σ H Q=>tVar i σ H fun v H1=>(v=.ref f/\t σ H1 fun vs H2=>sp (vs++bL) H2 Q (E σ))\/(v=.ref f'/\t σ H1 fun vs H2=>jo (vs++dR) H2 Q (E σ))\/(v=.ref f2/\t σ H1 fun vs H2=>jq (vs++jr) H2 Q (E σ))
theorem MK : Oz i f f' f2 sp jo jq bL dR jr E t σ H Q=tVar i σ H fun v H1=>(v=.ref f/\t σ H1 fun vs H2=>sp (vs++bL) H2 Q (E σ))\/(v=.ref f'/\t σ H1 fun vs H2=>jo (vs++dR) H2 Q (E σ))\/(v=.ref f2/\t σ H1 fun vs H2=>jq (vs++jr) H2 Q (E σ)):=rfl
section
variable {X:Cx} {CX CX' CX2:CXT} {k k' k2:Nat} {f f' f2:Addr} {fd fd' fd2:α6} {ps ps' ps2:List Str} {sp jo jq:Sp} {bL dR jr:List V} {ds ds' ds2:List Value} {x:Str} {p pos:Pos} {e:Expr} {es:List Expr} {t:TA}
def KH (i:Nat)(F:FnOk X.prog X.w X.K X.mg X.base CX k f fd ps sp)(hr:Room k X.A)(hk:keepIn X.K (.ref f)=true)(hb:Binds X.K fd ps ds)(hd:Vals bL ds)(hx:∀σ,E5 CX X σ (E σ))
  (F':FnOk X.prog X.w X.K X.mg X.base CX' k' f' fd' ps' jo) (eT:Room k' X.A) (eS:keepIn X.K (.ref f')=true) (dv:Binds X.K fd' ps' ds') (gF:Vals dR ds') (df:∀σ,E5 CX' X σ (E σ))
  (F2:FnOk X.prog X.w X.K X.mg X.base CX2 k2 f2 fd2 ps2 jq) (lz:Room k2 X.A) (eg:keepIn X.K (.ref f2)=true) (gO:Binds X.K fd2 ps2 ds2) (fR:Vals jr ds2) (iG:∀σ,E5 CX2 X σ (E σ)) (ha:PA X (e::es) t)
  (hN:X.N[i]?=some x:=by rfl) (hv:Vis X.env.scope x:=by first|exact oY rfl|exact ph (oY rfl)|exact ph (ph rfl)) (b6:(x==("__debug__" : Str))=false:=by decide) (bZ:(x==("__classdict__" : Str))=false:=by decide)
  (he:starEach (e::es) X.env=(false,eval e X.env)::starEach es X.env:=by rfl) (bg:(backTo pos (starEach es X.env)).any (·.1)=false:=by rfl):
  PE X (.Call (.Name x p) (e::es) [] pos) (Oz i f f' f2 sp jo jq bL dR jr E t):=by
 intro aa s σ H Q I h;refine xl_ (thn (pv i hN hv b6 bZ aa s σ H _ I h) fun u s1 ⟨v,H1,I1,rv,ev⟩=>?_);rcases ev with ⟨ev,q⟩|⟨ev,q⟩|⟨ev,q⟩
 ·subst ev;obtain rfl:u=Value.ref f:=rv;refine zj_ (h₀:=X.base) I.ok.mod.kin hk (thn (ha pos aa s1 σ H1 _ I1 q) fun us s2 ⟨vs,H2,I2,r,q2⟩=>⟨I2.kIn,?_⟩) he bg;exact Nw F hr hb hd (hx σ) I2 r q2
 ·subst ev;obtain rfl:u=Value.ref f':=rv;refine zj_ (h₀:=X.base) I.ok.mod.kin eS (thn (ha pos aa s1 σ H1 _ I1 q) fun us s2 ⟨vs,H2,I2,r,q2⟩=>⟨I2.kIn,?_⟩) he bg;exact Nw F' eT dv gF (df σ) I2 r q2
 ·subst ev;obtain rfl:u=Value.ref f2:=rv;refine zj_ (h₀:=X.base) I.ok.mod.kin eg (thn (ha pos aa s1 σ H1 _ I1 q) fun us s2 ⟨vs,H2,I2,r,q2⟩=>⟨I2.kIn,?_⟩) he bg;exact Nw F2 lz gO fR (iG σ) I2 r q2
end
end L2
namespace Mine
open PySem L2 GW GB PrimeO
local macro_rules | `(tactic| walk_at "rd") => `(tactic| (try dsimp only[↓UH,Rk,↓r_ID,↓XF,UI,↓r_BD,XH,↓XM,↓XN,UK,UL,UM,XJ,↓UP,↓UQ,UN,UO,↓UR,Rm,↓WX,↓T4,↓WY,↓QD,↓WZ,↓r_c,↓r_op,↓r_un,↓r_I,↓r_I0,↓r_U,↓T5,↓T6,↓W2,↓W4,↓T7,↓r_if,↓r_B,↓T8,↓W5,↓r_or,↓W6,↓T9,↓Ua,↓QE,↓W7,↓r_CB,↓W8,↓W9,↓Xa,↓Xb,↓r_sl,↓Ub,↓Od,↓Xc,↓Xj,↓r_BM,↓Oe,↓Uc,↓Ud,↓r_Eq,↓r_Ne,↓Xd,↓QF,↓Ue,↓QG,↓Xe,↓r_ip,↓QH,↓Ug,↓Xg,↓Xk,↓QO,↓Xl,↓Ui,↓Uj,↓Of,↓QW,↓Xo,↓Um,↓QT,↓Uo,↓Uq,↓Xn,↓Ur,↓QU,↓Us,↓Og,↓Oh,↓r_in,↓Oj,↓Uk,↓MC,Rp,UC,↓Ov,↓MF,↓XR,↓XA,↓UE,↓Om,↓QX,↓QY,↓Xp,↓UG,↓Uy,↓Q5,↓Q8,↓UA,↓MK,Xf,L2.start,scal,mp_C,mp_N,ap_C,ap_N,gt_Z,gt_S,st_Z,st_S,rp_Z,rp_S,ln_N,ln_C,Nat.reduceAdd,Nat.reduceSub])<;>(try simp only[↓UH,Rk,↓r_ID,↓XF,UI,↓r_BD,XH,↓XM,↓XN,UK,UL,UM,XJ,↓UP,↓UQ,UN,UO,↓UR,Rm,Vz,XI,VC,SX,Rl,↓WX,↓T4,↓WY,↓QD,↓WZ,↓r_c,↓r_op,↓r_un,↓r_I,↓r_I0,↓r_U,↓T5,↓T6,↓W2,↓W4,↓T7,↓r_if,↓r_B,↓T8,↓W5,↓r_or,↓W6,↓T9,↓Ua,↓QE,↓W7,↓r_CB,↓W8,↓W9,↓Xa,↓Xb,↓r_sl,↓Ub,↓Od,↓Xc,↓Xj,↓r_BM,↓Oe,↓Uc,↓Ud,↓r_Eq,↓r_Ne,↓Xd,↓QF,↓Ue,↓QG,↓Xe,↓r_ip,↓QH,↓Ug,↓Xg,↓Xk,↓QO,↓Xl,↓Ui,↓Uj,↓Of,↓QW,↓Xo,↓Um,↓QT,↓Uo,↓Uq,↓Xn,↓Ur,↓QU,↓Us,↓Og,↓Oh,↓r_in,↓Oj,↓Uk,↓MC,Rp,UC,↓Ov,↓MF,↓XR,↓XA,↓UE,↓Om,↓QX,↓QY,↓Xp,↓UG,↓Uy,↓Q5,↓Q8,↓UA,↓MK,Xf,L2.start,j6_,ze_,qp_,xv_,rm,xw_,xu_,oU,List.getElem?_cons_zero,List.getElem?_cons_succ,List.set_cons_zero,List.set_cons_succ,Option.some.injEq,V.int.injEq,V.str.injEq,V.ref.injEq,V.bl.injEq,List.cons.injEq,and_true,true_and,and_assoc,exists_and_left,exists_eq_left',exists_eq_left,exists_eq_right,exists_eq,wi_,x6_,zm_,j5_,scal,Nat.reduceAdd,Nat.reduceSub,reduceCtorEq,Bool.not_true,Bool.not_false]))
local macro_rules|`(tactic|nofun)=>`(tactic|walk_at "rd")
set_option hygiene false in
local macro_rules|`(tactic|delta $x:ident $y:ident)=>`(tactic|refine HG.ok $x $y (fun vs H Q E h=>?_) (fun ai A outer s H vs Q E hr h=>?_))
set_option hygiene false in
local macro_rules|`(⋯)=>`(CalH P w mg base CX0)
local macro_rules | `(tactic| walk_at "sc") => `(tactic| exact⟨rfl,rfl,rfl,by decide +kernel,rfl,by decide +kernel,by decide +kernel⟩)
noncomputable def top (i:Nat):Stmt:=PySem.Challenge.pw_guessroom_k74_sum_papers.main.body.getD i (.Pass ⟨0,0,0,0⟩)
noncomputable abbrev Js:Stmt:=top 7
def O9:FnScope ["letters","word"] ["letters","word"] (Ah Js):=by walk_at "sc"
noncomputable abbrev Em:Stmt:=top 8
def Lw:FnScope ["letters","word"] ["letters","word"] (Ah Em):=by walk_at "sc"
noncomputable abbrev Jt:Stmt:=top 10
def De:FnScope ["letters","access","rows","word","letter"] ["letters","access"] (Ah Jt):=by walk_at "sc"
noncomputable abbrev NG:Stmt:=top 11
def IZ:FnScope ["letters","access","ends","words","row","end"] ["letters","access","ends"] (Ah NG):=by walk_at "sc"
noncomputable abbrev BF:Stmt:=top 13
def Cr:FnScope ["letters","parts","words"] ["letters","parts"] (Ah BF):=by walk_at "sc"
noncomputable abbrev Ju:Stmt:=top 15
def A7:FnScope ["p","number","one","two","factor_of_one","factor_of_two","times","rest","factor_of_rest"] ["p","number"] (Ah Ju):=by walk_at "sc"
noncomputable abbrev Lx:Stmt:=top 16
def Rq:FnScope ["p","factor","row"] ["p","factor","row"] (Ah Lx):=by walk_at "sc"
noncomputable abbrev NH:Stmt:=top 17
def S3:FnScope ["p","row","other"] ["p","row","other"] (Ah NH):=by walk_at "sc"
noncomputable abbrev Jv:Stmt:=top 18
def Pb:FnScope ["p","row","other"] ["p","row","other"] (Ah Jv):=by walk_at "sc"
noncomputable abbrev Ck:Stmt:=top 20
def B1:FnScope ["row","place","number"] ["row"] (Ah Ck):=by walk_at "sc"
noncomputable abbrev Jw:Stmt:=top 21
def Df:FnScope ["p","bases","row","left","place","base"] ["p","bases","row"] (Ah Jw):=by walk_at "sc"
noncomputable abbrev FO:Stmt:=top 22
def CV:FnScope ["p","bases","left","place","base","more","other"] ["p","bases","left","place"] (Ah FO):=by walk_at "sc"
noncomputable abbrev BM:Stmt:=top 23
def AG:FnScope ["p","rows","size","places","bases","number","row","left","place"] ["p","rows","size"] (Ah BM):=by walk_at "sc"
noncomputable abbrev Jx:Stmt:=top 24
def Pg:FnScope ["rows"] ["rows"] (Ah Jx):=by walk_at "sc"
noncomputable abbrev Lz:Stmt:=top 25
def Rt:FnScope ["p","rows"] ["p","rows"] (Ah Lz):=by walk_at "sc"
noncomputable abbrev Ru:Stmt:=top 26
def VJ:FnScope ["p","rows"] ["p","rows"] (Ah Ru):=by walk_at "sc"
noncomputable abbrev Rv:Stmt:=top 27
def VL:FnScope ["p","rows"] ["p","rows"] (Ah Rv):=by walk_at "sc"
noncomputable abbrev Rw:Stmt:=top 28
def VM:FnScope ["size","place"] ["size","place"] (Ah Rw):=by walk_at "sc"
noncomputable abbrev B2:Stmt:=top 29
def AK:FnScope ["p","rows","some","size","count","marked","bases","told","row","left","is_made"] ["p","rows","some","size"] (Ah B2):=by walk_at "sc"
noncomputable abbrev Jy:Stmt:=top 30
def Ph:FnScope ["p","rows","parts","size"] ["p","rows","parts","size"] (Ah Jy):=by walk_at "sc"
noncomputable abbrev FP:Stmt:=top 32
def ML:FnScope ["p","number"] ["p","number"] (Ah FP):=by walk_at "sc"
noncomputable abbrev Jz:Stmt:=top 33
def Pj:FnScope ["house","row","letter"] ["house","row","letter"] (Ah Jz):=by walk_at "sc"
noncomputable abbrev Eo:Stmt:=top 34
def DA:FnScope ["house","word","rows","letter"] ["house","word"] (Ah Eo):=by walk_at "sc"
noncomputable abbrev Ep:Stmt:=top 35
def LA:FnScope ["house","word"] ["house","word"] (Ah Ep):=by walk_at "sc"
noncomputable abbrev NJ:Stmt:=top 36
def S4:FnScope ["house","word"] ["house","word"] (Ah NJ):=by walk_at "sc"
noncomputable abbrev Er:Stmt:=top 37
def LB:FnScope ["table"] ["table"] (Ah Er):=by walk_at "sc"
noncomputable abbrev FQ:Stmt:=top 38
def HR:FnScope ["house","tables"] ["house"] (Ah FQ):=by walk_at "sc"
noncomputable abbrev Cm:Stmt:=top 40
def Hh:FnScope ["told","word","ends"] ["told","word","ends"] (Ah Cm):=by walk_at "sc"
noncomputable abbrev FT:Stmt:=top 41
def Bj:FnScope ["p","letters","access","ends","told","size","rows","tables","letter","goals","last"] ["p","letters","access","ends","told"] (Ah FT):=by walk_at "sc"
noncomputable abbrev Es:Stmt:=top 43
def Gf:FnScope ["paper","heard"] ["paper"] (Ah Es):=by walk_at "sc"
noncomputable abbrev LC:Stmt:=top 44
def MM:FnScope ["paper","rows"] ["paper"] (Ah LC):=by walk_at "sc"
noncomputable abbrev C5:Stmt:=top 45
def JA:FnScope ["paper"] ["paper"] (Ah C5):=by walk_at "sc"
noncomputable abbrev C6:Stmt:=top 46
def JC:FnScope ["paper"] ["paper"] (Ah C6):=by walk_at "sc"
noncomputable abbrev Et:Stmt:=top 47
def DB:FnScope ["paper","size","units"] ["paper"] (Ah Et):=by walk_at "sc"
noncomputable abbrev Eu:Stmt:=top 48
def Cw:FnScope ["paper","access","heard","needed"] ["paper"] (Ah Eu):=by walk_at "sc"
noncomputable abbrev Ew:Stmt:=top 50
def AI:FnScope ["house","p","rows","bases","found","walked","word","row","left","place","letter"] ["house"] (Ah Ew):=by walk_at "sc"
noncomputable abbrev Ex:Stmt:=top 51
def Br:FnScope ["house","rows","own","made","row","goals"] ["house"] (Ah Ex):=by walk_at "sc"
noncomputable abbrev Hi:Stmt:=top 52
def B3:FnScope ["house","basis","size","tables","letter","last"] ["house"] (Ah Hi):=by walk_at "sc"
noncomputable abbrev FU:Stmt:=top 53
def MN:FnScope ["house"] ["house"] (Ah FU):=by walk_at "sc"
noncomputable abbrev DC:Stmt:=top 54
def Kf:FnScope ["house"] ["house"] (Ah DC):=by walk_at "sc"
noncomputable abbrev Ey:Stmt:=top 55
def LD:FnScope ["house"] ["house"] (Ah Ey):=by walk_at "sc"
noncomputable abbrev NL:Stmt:=top 56
def S5:FnScope ["least"] ["least"] (Ah NL):=by walk_at "sc"
noncomputable abbrev Ez:Stmt:=top 57
def Bt:FnScope ["house","access","ends","size","rows","units"] ["house"] (Ah Ez):=by walk_at "sc"
noncomputable abbrev FV:Stmt:=top 59
def MO:FnScope ["script","k"] ["script","k"] (Ah FV):=by walk_at "sc"
noncomputable abbrev CF:Stmt:=top 60
def DV:FnScope ["number","part"] ["number"] (Ah CF):=by walk_at "sc"
noncomputable abbrev EA:Stmt:=top 61
def Cy:FnScope ["cell","some","number"] ["cell"] (Ah EA):=by walk_at "sc"
noncomputable abbrev EB:Stmt:=top 62
def LF:FnScope ["found"] ["found"] (Ah EB):=by walk_at "sc"
noncomputable abbrev DD:Stmt:=top 63
def Fg:FnScope ["script","k","p","many"] ["script","k","p"] (Ah DD):=by walk_at "sc"
noncomputable abbrev Hj:Stmt:=top 64
def NM:FnScope ["script","at","many","p"] ["script","at","many","p"] (Ah Hj):=by walk_at "sc"
noncomputable abbrev EC:Stmt:=top 65
def BN:FnScope ["script","at","p","letters","many","tables","letter","base","first"] ["script","at","p","letters","many"] (Ah EC):=by walk_at "sc"
noncomputable abbrev FW:Stmt:=top 66
def ED:FnScope ["p","row","table","told","c"] ["p","row","table"] (Ah FW):=by walk_at "sc"
noncomputable abbrev EF:Stmt:=top 67
def LG:FnScope ["p","one","two"] ["p","one","two"] (Ah EF):=by walk_at "sc"
noncomputable abbrev DE:Stmt:=top 68
def B8:FnScope ["house","word","row","letter"] ["house","word"] (Ah DE):=by walk_at "sc"
noncomputable abbrev EG:Stmt:=top 69
def LH:FnScope ["house","word"] ["house","word"] (Ah EG):=by walk_at "sc"
noncomputable abbrev DF:Stmt:=top 70
def Bz:FnScope ["letters","access","ends","found","word","end","letter"] ["letters","access","ends"] (Ah DF):=by walk_at "sc"
noncomputable abbrev C7:Stmt:=top 71
def CG:FnScope ["deed","paper","refused"] ["deed","paper"] (Ah C7):=by walk_at "sc"
noncomputable abbrev Bl:Stmt:=top 72
def A2:FnScope ["deed","paper","told","e"] ["deed","paper"] (Ah Bl):=by walk_at "sc"
noncomputable abbrev CH:Stmt:=top 73
def DW:FnScope ["paper","many","found"] ["paper","many"] (Ah CH):=by walk_at "sc"
noncomputable abbrev DG:Stmt:=top 74
def Bd:FnScope ["p","house","access","ends","undone","many","k","number","c","due"] ["p","house","access","ends","undone"] (Ah DG):=by walk_at "sc"
noncomputable abbrev CI:Stmt:=top 75
def Co:FnScope ["pair","way","cell","p","letters","word","place"] ["pair","way","cell","p","letters"] (Ah CI):=by walk_at "sc"
noncomputable abbrev C8:Stmt:=top 76
def AD:FnScope ["paper","way","cell","access","ends","heard","place"] ["paper","way","cell"] (Ah C8):=by walk_at "sc"
noncomputable abbrev B4:Stmt:=top 77
def Bg:FnScope ["paper","way","heard","word","end"] ["paper","way"] (Ah B4):=by walk_at "sc"
noncomputable abbrev DH:Stmt:=top 78
def B9:FnScope ["house","access","ends","cell","word","longer","rows"] ["house","access","ends","cell"] (Ah DH):=by walk_at "sc"
noncomputable abbrev BO:Stmt:=top 79
def AH:FnScope ["house","access","ends","found","p","many","letter","k","row","end","due"] ["house","access","ends","found"] (Ah BO):=by walk_at "sc"
noncomputable abbrev VN:Stmt:=top 80
def DX:FnScope ["script","p","letters","house","told","ends","access","heard","paper","found","way","bad"] ["script"] (Ah VN):=by walk_at "sc"
noncomputable def JD:Caps:=[("letter",none),("letters",some 0)]
def Kg:(Caps.names JD).Nodup:=by decide +kernel
noncomputable def Cf:Caps:=[("pair",none)]
def Dh:(Caps.names Cf).Nodup:=by decide +kernel
noncomputable def Cg:Caps:=[("word",none),("letters",some 0)]
def Di:(Caps.names Cg).Nodup:=by decide +kernel
noncomputable def KI:Caps:=[("number",none),("p",some 0),("factor",some 1)]
def LI:(Caps.names KI).Nodup:=by decide +kernel
noncomputable def MQ:Caps:=[("one",none),("two",none),("p",some 0)]
def HS:(Caps.names MQ).Nodup:=by decide +kernel
noncomputable def JE:Caps:=[("one",none),("two",none)]
def Fh:(Caps.names JE).Nodup:=by decide +kernel
noncomputable def JF:Caps:=[("number",none),("p",some 0)]
def Kh:(Caps.names JF).Nodup:=by decide +kernel
noncomputable def JG:Caps:=[("row",none)]
def Ki:(Caps.names JG).Nodup:=by decide +kernel
noncomputable def OA:Caps:=[("other",none),("place",some 1)]
def NN:(Caps.names OA).Nodup:=by decide +kernel
noncomputable def CJ:Caps:=[("place",none),("row",none),("count",some 4)]
def BV:(Caps.names CJ).Nodup:=by decide +kernel
noncomputable def CK:Caps:=[("number",none),("p",some 0)]
def Eb:(Caps.names CK).Nodup:=by decide +kernel
noncomputable def JH:Caps:=[("place",none),("p",some 0),("parts",some 2),("rows",some 1)]
def Kj:(Caps.names JH).Nodup:=by decide +kernel
noncomputable def JI:Caps:=[("row",none),("place",some 0)]
def Kk:(Caps.names JI).Nodup:=by decide +kernel
noncomputable def EH:Caps:=[("place",none),("table",some 0)]
def Gg:(Caps.names EH).Nodup:=by decide +kernel
noncomputable def EI:Caps:=[("row",none),("place",some 0)]
def Gh:(Caps.names EI).Nodup:=by decide +kernel
noncomputable def Gi:Caps:=[("table",none)]
def IH:(Caps.names Gi).Nodup:=by decide +kernel
noncomputable def CW:Caps:=[("end",none),("told",some 0),("word",some 1)]
def EJ:(Caps.names CW).Nodup:=by decide +kernel
noncomputable def Gj:Caps:=[("word",none),("told",some 4),("ends",some 3)]
def II:(Caps.names Gj).Nodup:=by decide +kernel
noncomputable def Gk:Caps:=[("word",none),("told",some 4),("ends",some 3),("letter",some 8)]
def IJ:(Caps.names Gk).Nodup:=by decide +kernel
noncomputable def Gm:Caps:=[("made",none)]
def IK:(Caps.names Gm).Nodup:=by decide +kernel
noncomputable def Fi:Caps:=[("word",none),("told",some 4)]
def Hk:(Caps.names Fi).Nodup:=by decide +kernel
noncomputable def Fj:Caps:=[("word",none),("heard",some 1),("paper",some 0)]
def Hl:(Caps.names Fj).Nodup:=by decide +kernel
noncomputable def KJ:Caps:=[("pair",none),("paper",some 0)]
def LJ:(Caps.names KJ).Nodup:=by decide +kernel
noncomputable def KL:Caps:=[("row",none)]
def LK:(Caps.names KL).Nodup:=by decide +kernel
noncomputable def Fl:Caps:=[("place",none),("size",some 1)]
def Hm:(Caps.names Fl).Nodup:=by decide +kernel
noncomputable def Fm:Caps:=[("word",none),("heard",some 2)]
def Hn:(Caps.names Fm).Nodup:=by decide +kernel
noncomputable def Fo:Caps:=[("letter",none),("house",some 0),("row",some 4)]
def Ho:(Caps.names Fo).Nodup:=by decide +kernel
noncomputable def HU:Caps:=[("made",none),("letter",some 4)]
def JJ:(Caps.names HU).Nodup:=by decide +kernel
noncomputable def HV:Caps:=[("word",none),("house",some 0)]
def JK:(Caps.names HV).Nodup:=by decide +kernel
noncomputable def MR:Caps:=[("word",none)]
def MS:(Caps.names MR).Nodup:=by decide +kernel
noncomputable def Fp:Caps:=[("word",none),("house",some 0),("ends",some 2)]
def Hq:(Caps.names Fp).Nodup:=by decide +kernel
noncomputable def Fq:Caps:=[("end",none),("house",some 1),("word",some 0)]
def Hr:(Caps.names Fq).Nodup:=by decide +kernel
noncomputable def Fs:Caps:=[("place",none),("size",some 3)]
def Ht:(Caps.names Fs).Nodup:=by decide +kernel
noncomputable def HW:Caps:=[("k",none),("script",some 0),("p",some 3),("at",some 1)]
def JL:(Caps.names HW).Nodup:=by decide +kernel
noncomputable def Ft:Caps:=[("k",none),("script",some 0),("many",some 4),("p",some 2),("base",some 7)]
def Hu:(Caps.names Ft).Nodup:=by decide +kernel
noncomputable def Gn:Caps:=[("k",none),("row",some 1),("c",some 4),("table",some 2)]
def IL:(Caps.names Gn).Nodup:=by decide +kernel
noncomputable def Fu:Caps:=[("k",none),("one",some 1),("two",some 2)]
def Hv:(Caps.names Fu).Nodup:=by decide +kernel
noncomputable def EK:Caps:=[("i",none),("house",some 1),("undone",some 4),("k",some 6),("access",some 2),("ends",some 3),("c",some 8)]
def Gp:(Caps.names EK).Nodup:=by decide +kernel
noncomputable def DY:Caps:=[("pair",none),("access",some 3),("place",some 6)]
def FX:(Caps.names DY).Nodup:=by decide +kernel
noncomputable def CL:Caps:=[("pair",none)]
def Ec:(Caps.names CL).Nodup:=by decide +kernel
noncomputable def EL:Caps:=[("k",none),("cell",some 3),("house",some 0)]
def Gq:(Caps.names EL).Nodup:=by decide +kernel
noncomputable def EM:Caps:=[("each",none),("house",some 0),("ends",some 2)]
def Gr:(Caps.names EM).Nodup:=by decide +kernel
noncomputable def EO:Caps:=[("end",none),("house",some 1),("each",some 0)]
def Gs:(Caps.names EO).Nodup:=by decide +kernel
noncomputable def Cs:Caps:=[("word",none),("house",some 0)]
def DI:(Caps.names Cs).Nodup:=by decide +kernel
noncomputable def Ct:Caps:=[("i",none),("row",some 8),("house",some 0),("end",some 9),("access",some 1)]
def DJ:(Caps.names Ct).Nodup:=by decide +kernel
noncomputable def Rx:Caps:=[("word",none),("house",some 3)]
def Pl:(Caps.names Rx).Nodup:=by decide +kernel
structure Txt (mg:Str->α5):Prop where
 ValueError:mg "ValueError"=none
 all:mg "all"=none
 any:mg "any"=none
 bool:mg "bool"=none
 dict:mg "dict"=none
 enumerate:mg "enumerate"=none
 int:mg "int"=none
 isinstance:mg "isinstance"=none
 len:mg "len"=none
 list:mg "list"=none
 max:mg "max"=none
 range:mg "range"=none
 reversed:mg "reversed"=none
 sum:mg "sum"=none
 tuple:mg "tuple"=none
 zip:mg "zip"=none
structure Exs (K:α3)(mg:Str->α5)(cj az bP bQ:Addr):Prop where
 m_j2:mg "AskError"=some (.ref cj)
 m_j0:mg "NoPaper"=some (.ref az)
 m_j1:mg "BadHouse"=some (.ref bP)
 m_j3:mg "BadWord"=some (.ref bQ)
 x_j0:sO K az bmV "ValueError.__new__"=true
 c_j0:ExcCls K az
 e_j0:exmOne K (.ref az) (.ref cj)=some true
 v_j0:kitOne K (.ref az) (.type "ValueError")=some true
 ee_j0:exmOne K (.ref az) (.ref az)=some true
 k_j0_j1:kitOne K (.ref az) (.ref bP)=some false
 k_j0_j3:kitOne K (.ref az) (.ref bQ)=some false
structure En (P:Program)(w:World)(K:α3)(mg:Str->α5)(base:Heap)(cj az bP bQ:Addr)(fA:Nat->Addr)(fD:Nat->α6):Prop extends Txt mg,Exs K mg cj az bP bQ where
 j0:HP K mg fA fD "is_word" Js 0
 j1:HP K mg fA fD "check_word" Em 1
 j2:HP K mg fA fD "rows_of" Jt 2
 j3:HP K mg fA fD "cells" NG 3
 j4:HP K mg fA fD "has_letters_alone" BF 4
 j5:HP K mg fA fD "inverse" Ju 5
 j6:HP K mg fA fD "scaled" Lx 6
 j7:HP K mg fA fD "added" NH 7
 j8:HP K mg fA fD "product" Jv 8
 j9:HP K mg fA fD "place_of_first" Ck 9
 j10:HP K mg fA fD "left_of" Jw 10
 j11:HP K mg fA fD "with_base" FO 11
 j12:HP K mg fA fD "chosen_and_bases" BM 12
 j13:HP K mg fA fD "size_of" Jx 13
 j14:HP K mg fA fD "chosen" Lz 14
 j15:HP K mg fA fD "rank" Ru 15
 j16:HP K mg fA fD "free" Rv 16
 j17:HP K mg fA fD "unit" Rw 17
 j18:HP K mg fA fD "factors_of_each" B2 18
 j19:HP K mg fA fD "made_of" Jy 19
 j20:HP K mg fA fD "is_number" FP 20
 j21:HP K mg fA fD "stepped" Jz 21
 j22:HP K mg fA fD "rows_along" Eo 22
 j23:HP K mg fA fD "row_behind" Ep 23
 j24:HP K mg fA fD "worth" NJ 24
 j25:HP K mg fA fD "table_back" Er 25
 j26:HP K mg fA fD "sums_back" FQ 26
 j27:HP K mg fA fD "numbers_behind" Cm 27
 j28:HP K mg fA fD "sum_guess" FT 28
 j29:HP K mg fA fD "rows_heard" Es 29
 j30:HP K mg fA fD "counts" LC 30
 j31:HP K mg fA fD "check_counts" C5 31
 j32:HP K mg fA fD "sum_at_least" C6 32
 j33:HP K mg fA fD "sum_undone" Et 33
 j34:HP K mg fA fD "sum_judged" Eu 34
 j35:HP K mg fA fD "basis_rows" Ew 35
 j36:HP K mg fA fD "sums_basis" Ex 36
 j37:HP K mg fA fD "on_basis" Hi 37
 j38:HP K mg fA fD "by_worths" FU 38
 j39:HP K mg fA fD "sums_access" DC 39
 j40:HP K mg fA fD "sums_least" Ey 40
 j41:HP K mg fA fD "tails" NL 41
 j42:HP K mg fA fD "sums_paper" Ez 42
 j43:HP K mg fA fD "_law_cell" FV 43
 j44:HP K mg fA fD "_law_is_prime" CF 44
 j45:HP K mg fA fD "_law_prime" EA 45
 j46:HP K mg fA fD "_law_whole" EB 46
 j47:HP K mg fA fD "_law_number" DD 47
 j48:HP K mg fA fD "_law_row" Hj 48
 j49:HP K mg fA fD "_law_house" EC 49
 j50:HP K mg fA fD "_law_step" FW 50
 j51:HP K mg fA fD "_law_times" EF 51
 j52:HP K mg fA fD "_law_behind" DE 52
 j53:HP K mg fA fD "_law_worth" EG 53
 j54:HP K mg fA fD "_law_needed" DF 54
 j55:HP K mg fA fD "_law_refused" C7 55
 j56:HP K mg fA fD "_law_refused_by_any" Bl 56
 j57:HP K mg fA fD "_law_count_is" CH 57
 j58:HP K mg fA fD "_law_undoes" DG 58
 j59:HP K mg fA fD "_law_odd_pair" CI 59
 j60:HP K mg fA fD "_law_spoiled" C8 60
 j61:HP K mg fA fD "_law_rows_stand" B4 61
 j62:HP K mg fA fD "_law_longer" DH 62
 j63:HP K mg fA fD "_law_judged_good" BO 63
 j64:HP K mg fA fD "law" VN 64
section
variable {P:Program} {w:World} {K:α3} {mg:Str->α5} {base:Heap}
variable {cj az bP bQ:Addr} {fA:Nat->Addr} {fD:Nat->α6} (EE:En P w K mg base cj az bP bQ fA fD)
noncomputable def Po (K:α3):Sp:=fun vs H Q _=>∃(L:Int) (a:Addr) (ws:α2),vs=[.int L,.ref a]/\SqT K H a (ws.map V.int)/\ws.length<=1000/\∀H',Same H H'->Q (.bl (isW L ws)) H'
def KN:⋯ EE.j0 1 ["letters","word"] (Po K):=by
 delta EE.j0 O9
 ·obtain⟨L,a,ws,rfl,_⟩:=h;rfl
 ·obtain⟨L,a,ws,rfl,hw,hz,k⟩:=h;have hl:=An;refine⟨_,(Af (Ap (Am (IU rfl) rfl EE.all xS_ (Aa (AA rfl (Ay rfl) (cp:=JD) ⟨⟨rfl,rfl⟩,oX⟩ (Cc (pvD 1)) (fun _ _ _ _=>(Al (i:=0) Kg rfl (oY rfl))) (fun _ _ _ _=>AJ) (fun _ _ _ _=>(N8 WD Lb Ae (pvD 0) (pvD 1)))) Ac)))),?_⟩;nofun;refine⟨⟨_,hw⟩,Lk (af:=[some (.int L)]) (fun x=>match x with | .int n=>.bl (inW L n)|_=>.non) rfl hw (by rw[ja_];lia) (fun x hx R hR=>?_) (fun D hD=>?_)⟩
  ·obtain⟨n,_,rfl⟩:=Ga hx;nofun;by_cases h0:0<=n
   ·simp only[h0,wi_];simpa [inW,h0] using hR
   ·simp only[h0,x6_];simpa [inW,h0] using hR
  ·refine⟨D,rfl,ws.map (inW L),.inl (.inl ?_),?_⟩
   ·rw[Ab,jJ_,jJ_];rfl
   ·have:=k _ (Same.new hD (o:=.lst ((ws.map V.int).map fun x=>match x with | .int n=>.bl (inW L n)|_=>.non)));simpa [isW,zf_] using this
noncomputable def S6 (K:α3):Sp:=fun vs H Q _=>∃(L:Int) (a:Addr) (ws:α2),vs=[.int L,.ref a]/\SqT K H a (ws.map V.int)/\ws.length<=1000/\isW L ws=true/\∀H',Same H H'->Q .non H'
def LL:⋯ EE.j1 2 ["letters","word"] (S6 K):=by
 delta EE.j1 Lw
 ·obtain⟨L,a,ws,rfl,_⟩:=h;rfl
 ·obtain⟨L,a,ws,rfl,hw,hz,hv,k⟩:=h;refine⟨_,(Af (A5 (Cb (ptB (BH (Ag (KN EE) hr.d Aw (Aa (pvD 0) (Aa (pvD 1) Ac))))))
   (Af N3)
   AE)),?_⟩
  nofun;refine⟨L,a,ws,rfl,hw,hz,fun H' s'=>?_⟩;nofun;rw[hv];exact k H' s'
noncomputable def dotW (xs ys:α2):Int:=(pk (fun x y=>x*y) xs ys).sum
noncomputable def colW (ae:α1)(c:Nat):α2:=ae.map fun r=>r.getD c 0
noncomputable def AR (K:α3)(H:Hp)(xs:List V)(ae:α1):Prop:=xs.length=ae.length/\∀(i:Nat) (r:α2),ae[i]?=some r->∃t,xs[i]?=some (.ref t)/\SqT K H t (r.map V.int)
def AR.mono {K:α3} (h:AR K H xs ae)(s:Same H H'):AR K H' xs ae:=by
 refine⟨h.1,fun i r hi=>?_⟩;obtain⟨t,a,b⟩:=h.2 i r hi;exact⟨t,a,s.seqT b⟩
def AR.nil {K:α3} : AR K H [] []:=⟨rfl,fun i r h=>by simp at h⟩
def AR.snoc {K:α3} (h:AR K H xs ae)(g:SqT K H t (r.map V.int)):AR K H (xs++[.ref t]) (ae++[r]):=by
 refine⟨by simp[h.1],fun i v hi=>?_⟩;by_cases hl:i<ae.length
 ·rw[jm_ hl]at hi;rw[jm_ (by rw[h.1];exact hl)];exact h.2 i v hi
 ·have:=(jd_.mp hi).1;rw[ji_,jG_]at this;have e:i=ae.length:=by lia
  subst e;rw[jp_ (jh_ _),qq_]at hi;simp at hi;subst hi;exact⟨t,by rw[<-h.1];simp,g⟩
noncomputable def CM (p:Int)(ae:α1)(am:α2)(n:Nat):α2:=(oW n).map fun c=>dotW am (colW ae c)%p
def XT (ae:α1)(c:Nat):(oW ae.length).map (fun i=>V.int ((ae.getD i []).getD c 0))=(colW ae c).map V.int:=by
 refine qI_ (by simp[colW]) fun i h1 h2=>?_;have hi:i<ae.length:=by simpa using h1
 simp[colW,jc_,hi]
def XU (am:α2)(ae:α1)(c:Nat)(h:am.length=ae.length):(oW ae.length).map (fun k=>am.getD k 0*(ae.getD k []).getD c 0)=pk (fun x y=>x*y) am (colW ae c):=by
 refine qI_ (by simp[colW,h]) fun i h1 h2=>?_;have hi:i<ae.length:=by simpa using h1
 have m8:i<am.length:=by lia
 simp[colW,jc_,hi,m8]
def I0 {r:α2}{c:Nat}(h:c<r.length):atI (r.map V.int) (c:Int)=some (.int (r.getD c 0)):=by
 refine FK ?_;rw[jf_,jb_ h,jc_,jb_ h];rfl
def KO (xs:List V)(m:Nat):cutV xs none (some (m:Int))=xs.take m:=by
 unfold cutV;rw[HT.sIx_nat,HT.sIx_none,x1_,zA_,zB_];lia
def Dj (xs:List V)(m:Nat):cutV xs (some (m:Int)) none=xs.drop m:=by
 unfold cutV;rw[HT.sIx_nat,HT.sIx_none];rcases tD m xs.length with h|h
 ·rw[z1_ h];exact qm_ (by rw[qw_];exact jh_ _)
 ·rw[rl h,pQ h,pK,sQ]
def forB {K:α3} (Pv:Nat->St->Hp->Prop)(h0:Pv 0 σ H)(hl:∀i σ H,i<=xs.length->Pv i σ H->SqB K H t a xs)
  (hs:∀i x σ H,xs[i]?=some x->Pv i σ H->g x σ H fun ag H2=>tb {D with nx:=Pv (i+1),ct:=Pv (i+1),bk:=D.nx} ag H2) (hd:∀σ H,Pv xs.length σ H->D.nx σ H):((∃xs,SqL K H a xs)/\ForW (Itl K a) g tb D σ H)\/((∃xs,SqT K H a xs)/\ForW (Itt K a) g tb D σ H):=by
 cases t
 ·exact .inl ⟨⟨_,hl 0 σ H (qs_ _) h0⟩,forL Pv h0 hl hs hd⟩
 ·exact .inr ⟨⟨_,hl 0 σ H (qs_ _) h0⟩,forT Pv h0 hl hs hd⟩
def XW {K:α3} (Pv:Nat->List V->St->Hp->Prop)(h0:Pv 0 [] (cp.st σ) H)(hz:xs.length<sizeLine)
  (hl:∀i ys σ H,i<=xs.length->Pv i ys σ H->SqB K H t a xs/\ys.length<=i) (dy:SqB K H t a xs)
  (hs:∀i x ys σ H,xs[i]?=some x->Pv i ys σ H->g x σ H fun ag H2=>tc ag H2 fun b H3=>if b=true then te ag H3 fun v H4=>Pv (i+1) (ys++[v]) ag H4 else Pv (i+1) ys ag H3)
  (hd:∀ys σ H,Pv xs.length ys σ H->∀D,H D=none->Q (.ref D) (upd H D (.lst ys))):((∃xs,SqL K H a xs)/\Ea (Itl K a) cp g tc te σ H Q)\/((∃xs,SqT K H a xs)/\Ea (Itt K a) cp g tc te σ H Q):=by
 cases t
 ·exact .inl ⟨⟨_,dy⟩,Fb Pv h0 hz hl hs hd⟩
 ·exact .inr ⟨⟨_,dy⟩,IE Pv h0 hz hl hs hd⟩
def Bc (ys:α2):dotW [] ys=0:=by unfold dotW;simp
def Cz (xs:α2):dotW xs []=0:=by unfold dotW;simp
def AN (x y:Int)(xs ys:α2):dotW (x::xs) (y::ys)=x*y+dotW xs ys:=by unfold dotW;simp
def AL:∀xs ys:α2,dotW xs ys=dotW ys xs
 |[],ys=>by rw[Bc,Cz]
 |x::xs,[]=>by rw[Bc,Cz]
 |x::xs,y::ys=>by rw[AN,AN,AL xs ys,zh_]
def Hw:∀(xs ys us vs:α2),xs.length=us.length->dotW (xs++ys) (us++vs)=dotW xs us+dotW ys vs
 |[],ys,us,vs,h=>by
  have:us=[]:=jW_.mp (by simpa using h.symm);subst this;simp[Bc]
 |x::xs,ys,u::us,vs,h=>by
  rw[rm,rm,AN,AN,Hw xs ys us vs (by simpa using h)];lia
 |x::xs,ys,[],vs,h=>by simp at h
def CA (n:Nat):∀xs:α2,dotW xs (oU n 0)=0:=by
 induction n with
 |zero=>intro xs;rw[List.replicate_zero,Cz]
 |succ n ih=>
  intro xs;cases xs with
  |nil=>rw[Bc]
  |cons x xs=>rw[qR_,AN,ih];lia
def ER (a:Int):∀xs ys:α2,dotW (xs.map (a * ·)) ys=a*dotW xs ys
 |[],ys=>by rw[ze_,Bc];lia
 |x::xs,[]=>by rw[Cz,Cz];lia
 |x::xs,y::ys=>by rw[j6_,AN,AN,ER a xs ys,wg_,zo_]
noncomputable def cg (p:Int)(xs ys:α2):Prop:=xs.map (· % p)=ys.map (· % p)
def cg.len (h:cg p xs ys):xs.length=ys.length:=by
 have:=xd_ rn h;simpa using this
def cg.refl (p:Int)(xs:α2):cg p xs xs:=rfl
def cg.dot {p:Int}:∀{xs bV ys ys':α2},cg p xs bV->cg p ys ys'->dotW xs ys%p=dotW bV ys'%p
 |[],[],ys,ys',_,_=>by rw[Bc,Bc]
 |[],x::bV,ys,ys',h,_=>by have:=h.len;simp at this
 |x::xs,[],ys,ys',h,_=>by have:=h.len;simp at this
 |x::xs,x'::bV,[],[],_,_=>by rw[Cz,Cz]
 |x::xs,x'::bV,[],y::ys',_,h=>by have:=h.len;simp at this
 |x::xs,x'::bV,y::ys,[],_,h=>by have:=h.len;simp at this
 |x::xs,x'::bV,y::ys,y'::ys',h,g=>by
  obtain⟨h1,h2⟩:=List.cons.inj h;obtain⟨g1,g2⟩:=List.cons.inj g;have h1:x%p=x'%p:=h1;have g1:y%p=y'%p:=g1;rw[AN,AN,q8_,qL_,h1,g1,cg.dot (xs:=xs) (ys:=ys) h2 g2,<-qL_,<-q8_]
def cg.map {p:Int}{α:Type}{f g:α->Int}{l:List α}(h:∀a∈l,f a%p=g a%p):cg p (l.map f) (l.map g):=by
 unfold cg;rw[jJ_,jJ_];exact jD_ h
def cg.getD (h:cg p xs ys)(c:Nat):xs.getD c 0%p=ys.getD c 0%p:=by
 have hl:=h.len;by_cases hc:c<xs.length
 ·have e:=xd_ (fun l:α2=>l[c]?) h;rw[jf_,jf_,jb_ hc,jb_ s!""]at e;rw[jc_,jc_,jb_ hc,jb_ s!""];exact jC_ e
 ·rw[jc_,jc_,jt_ s!"",jt_ s!""]
noncomputable def cgT (p:Int)(a b:α1):Prop:=a.length=b.length/\∀i,cg p (a.getD i []) (b.getD i [])
def cgT.refl (p:Int)(a:α1):cgT p a a:=⟨rfl,fun _=>rfl⟩
def cgT.col (h:cgT p a b)(c:Nat):cg p (colW a c) (colW b c):=by
 unfold cg colW;rw[jJ_,jJ_];refine j2_ fun i=>?_;rw[jf_,jf_];have hl:=h.1;by_cases hi:i<a.length
 ·rw[jb_ hi,jb_ (show i<b.length by lia)];have:=(h.2 i).getD c;rw[jc_ (l:=a),jc_ (l:=b),jb_ hi,jb_ (show i<b.length by lia)]at this;exact xd_ some this
 ·rw[jt_ s!"",jt_ s!""]
def LM:∀(u v w:α2),u.length=v.length->dotW (pk (· + ·) u v) w=dotW u w+dotW v w
 |[],[],w,_=>by simp[Bc]
 |[],y::v,w,h=>by simp at h
 |x::u,[],w,h=>by simp at h
 |x::u,y::v,[],_=>by simp[Cz]
 |x::u,y::v,z::w,h=>by
  rw[pR,AN,AN,AN,LM u v w (by simpa using h),zV_];lia
def DK {d:Nat}{col:α2}(hc:col.length=d):∀(tb:α1) (row:α2),(∀r∈tb,r.length=d)->row.length=tb.length->dotW ((oW d).map fun c=>dotW row (colW tb c)) col=dotW row (tb.map fun r=>dotW col r)
 |[],row,_,h=>by
  have:row=[]:=jW_.mp (by simpa using h);subst this;rw[Bc];have e:((oW d).map fun c=>dotW [] (colW [] c))=oU d 0:=by
   refine j2_ fun i=>?_;by_cases hi:i<d
   ·rw[jf_,jO_ hi,qY_,if_pos hi];rfl
   ·rw[jt_ (by simp;lia),jt_ (by simp;lia)]
  rw[e,AL,CA]
 |r::tb,[],_,h=>by simp at h
 |r::tb,x::row,hd,h=>by
  have ih:=DK hc tb row (fun s hs=>hd s (jA_ _ hs)) (by simpa using h);have hr:=hd r (jL_ ..);have e:((oW d).map fun c=>dotW (x::row) (colW (r::tb) c))=pk (· + ·) (r.map (x * ·)) ((oW d).map fun c=>dotW row (colW tb c)):=by
   refine j2_ fun i=>?_;rw[xR_];by_cases hi:i<d
   ·rw[jf_,jO_ hi,jf_,jf_,jO_ hi,jb_ (show i<r.length by lia)];show some (dotW (x::row) (r.getD i 0::colW tb i))=some (x*r[i]+dotW row (colW tb i));rw[AN,jc_,jb_ (show i<r.length by lia)];rfl
   ·rw[jt_ (by simp;lia),jt_ (show (r.map (x * ·)).length<=i by simp;lia)]
  rw[e,LM _ _ _ (by simp[hr]),ER,ih,j6_,AN,AL r col]
def KQ {α:Type}(z:α)(r:List α):(oW r.length).map (fun i=>r.getD i z)=r:=by
 refine qI_ (by simp) fun i h1 h2=>?_;simp[jc_,h2]
noncomputable def Span (p:Int)(n:Nat)(S:α1)(v:Nat->Int):Prop:=∃cs:α2,cs.length=S.length/\∀i:Nat,i<n->v i%p=dotW cs (colW S i)%p
def CY (S:α1)(i:Nat):(colW S i).length=S.length:=by unfold colW;rw[ja_]
def Span.congr (h:Span p n S v)(e:∀i:Nat,i<n->u i%p=v i%p):Span p n S u:=by
 obtain⟨cs,a,b⟩:=h;exact⟨cs,a,fun i hi=>(e i hi).trans (b i hi)⟩
def Span.zero : Span p n S fun _=>0:=
 ⟨oU S.length 0,q6_,fun i _=>by rw[AL,CA]⟩
def Span.add (h:Span p n S v)(g:Span p n S u):Span p n S fun i=>v i+u i:=by
 obtain⟨cs,a,b⟩:=h;obtain⟨ds,a',b'⟩:=g;refine⟨pk (· + ·) cs ds,by rw[z0_,a,a',pO],fun i hi=>?_⟩;rw[LM _ _ _ (by rw[a,a']),q8_,b i hi,b' i hi,<-q8_]
def Span.smul (c:Int)(h:Span p n S v):Span p n S fun i=>c*v i:=by
 obtain⟨cs,a,b⟩:=h;refine⟨cs.map (c * ·),by rw[ja_,a],fun i hi=>?_⟩;rw[ER,qL_,b i hi,<-qL_]
def Span.app (h:Span p n S v)(T:α1):Span p n (S++T) v:=by
 obtain⟨cs,a,b⟩:=h;refine⟨cs++oU T.length 0,by rw[ji_,ji_,q6_,a],fun i hi=>?_⟩;unfold colW at *;rw[jg_,Hw _ _ _ _ (by rw[ja_,a]),AL (oU _ _),CA,qQ];exact b i hi
def Span.last (S:α1)(r:α2):Span p n (S++[r]) fun i=>r.getD i 0:=by
 refine⟨oU S.length 0++[1],by simp,fun i _=>?_⟩;unfold colW;rw[jg_,Hw _ _ _ _ (by rw[ja_,q6_]),AL (oU _ _),CA];show _=(0+dotW [1] [r.getD i 0])%p;rw[AN,Bc]
 congr 1
 show r.getD i 0=0+(1*r.getD i 0+0);lia
def Span.mem (h:r∈S):Span p n S fun i=>r.getD i 0:=by
 obtain⟨A,B,rfl⟩:=List.append_of_mem h;rw[show A++r::B=(A++[r])++B by simp];exact (Span.last A r).app B
def Span.comb {p:Int}{n:Nat}{S:α1}:∀{T:α1} (cs:α2),(∀r∈T,Span p n S fun i=>r.getD i 0)->cs.length=T.length->Span p n S fun i=>dotW cs (colW T i)
 |[],cs,_,h=>by
  have:cs=[]:=jW_.mp h;subst this;exact Span.zero.congr fun i _=>by rw[Bc]
 |r::T,[],_,h=>by simp at h
 |r::T,c::cs,hT,h=>by
  have ih:=Span.comb (T:=T) cs (fun s hs=>hT s (jA_ _ hs)) (by simpa using h);refine (((hT r (jL_ ..)).smul c).add ih).congr fun i _=>?_;show dotW (c::cs) (r.getD i 0::colW T i)%p=_;rw[AN]
def Span.trans (h:Span p n T v)(hT:∀r∈T,Span p n S fun i=>r.getD i 0):Span p n S v:=by
 obtain⟨cs,a,b⟩:=h;exact (Span.comb cs hT a).congr b
def S7 (cs:α2):∀(zs:α2),(∀z∈zs,z%p=0)->dotW cs zs%p=0:=by
 induction cs with
 |nil=>intro zs _;rw[Bc];simp
 |cons c cs ih=>
  intro zs hz;cases zs with
  |nil=>rw[Cz];simp
  |cons z zs=>
   rw[AN,q8_,ih zs fun y hy=>hz y (jA_ _ hy),qL_,hz z (jL_ ..)];simp
noncomputable def cof (bs:List (Nat×α2))(row:α2):α2:=bs.map fun x=>row.getD x.1 0
noncomputable def basR (bs:List (Nat×α2)):α1:=bs.map (·.2)
structure Bs (p:Int)(n:Nat)(bs:List (Nat×α2)):Prop where
 len:∀x∈bs,x.2.length=n/\x.1<n/\∀y∈x.2,0<=y/\y<p
 own:∀x∈bs,x.2.getD x.1 0=1
 off:bs.Pairwise fun x y=>x.2.getD y.1 0=0/\y.2.getD x.1 0=0
noncomputable def DL (p:Int)(left:α2)(x:Nat×α2):α2:=if left.getD x.1 0=0 then left else pk (fun a b=>(a+b)%p) left (x.2.map fun y => -left.getD x.1 0*y%p)
noncomputable def Az (p:Int)(bs:List (Nat×α2))(row:α2):α2:=bs.foldl (DL p) (row.map (· % p))
def S8 {f:Int->Int->Int}(f0:f 0 0=0){xs ys:α2}(h:xs.length=ys.length)(i:Nat):(pk f xs ys).getD i 0=f (xs.getD i 0) (ys.getD i 0):=by
 rw[jc_,jc_,jc_,xR_];by_cases hi:i<xs.length
 ·rw[jb_ hi,jb_ (show i<ys.length by lia)];rfl
 ·rw[jt_ s!"",jt_ s!""];exact f0.symm
def Gu {f:Int->Int}(f0:f 0=0)(xs:α2)(i:Nat):(xs.map f).getD i 0=f (xs.getD i 0):=by
 rw[jc_,jc_,jf_];cases xs[i]? with
 |none=>exact f0.symm
 |some x=>rfl
def LN (hl:left.length=n)(hx:x.2.length=n)(i:Nat):(DL p left x).length=n/\(DL p left x).getD i 0%p=(left.getD i 0-left.getD x.1 0*x.2.getD i 0)%p:=by
 unfold DL;split
 ·rename_i h0
  exact⟨hl,by rw[h0];congr 1;lia⟩
 ·refine⟨by rw[z0_,ja_];lia,?_⟩;rw[S8 (by simp) (by rw[ja_];lia),Gu (by simp),jR_ _ (qn_ p),q8_,jR_ _ (qn_ p),<-q8_]
  congr 1
  rw[rz];lia
def LO (xs ys:α2)(h:xs.length=ys.length)(x y:Int):dotW (xs++[x]) (ys++[y])=dotW xs ys+x*y:=by
 rw[Hw _ _ _ _ h,AN,Bc];lia
def BP (row:α2)(hr:row.length=n):∀(bs:List (Nat×α2)),Bs p n bs->(Az p bs row).length=n/\∀i:Nat,(Az p bs row).getD i 0%p=(row.getD i 0-dotW (cof bs row) (colW (basR bs) i))%p:=by
 intro bs;generalize hk:bs.length=k
 induction k generalizing bs with
 |zero=>
  intro _;have:bs=[]:=jW_.mp hk;subst this;refine⟨by unfold Az;simp[hr],fun i=>?_⟩;show (row.map (· % p)).getD i 0%p=(row.getD i 0-dotW [] _)%p;rw[Gu (by simp),jR_ _ (qn_ p),Bc]
  congr 1;lia
 |succ k ih=>
  intro hB;obtain⟨P,x,rfl⟩:∃P x,bs=P++[x]:=⟨bs.dropLast,bs.getLast (by intro e;subst e;simp at hk),(qt_ _).symm⟩;have hP:Bs p n P:=⟨fun y hy=>hB.len y (jQ_ _ hy),fun y hy=>hB.own y (jQ_ _ hy),(xs_.mp hB.off).1⟩;obtain⟨l1,l2⟩:=ih P (by simp at hk;lia) hP;have hx:=hB.len x (by simp);have ck:∀y∈P,y.2.getD x.1 0=0:=fun y hy=>((xs_.mp hB.off).2.2 y hy x (by simp)).1;have e:Az p (P++[x]) row=DL p (Az p P row) x:=by unfold Az;rw[j0_];rfl
  rw[e];refine⟨(LN l1 hx.1 0).1,fun i=>?_⟩;have hz:dotW (cof P row) (colW (basR P) x.1)=0:=by
   have:colW (basR P) x.1=oU P.length 0:=by
    refine zC_.mpr ⟨by unfold colW basR;simp,fun z hz=>?_⟩;unfold colW basR at hz;rw[jJ_]at hz;obtain⟨y,hy,rfl⟩:=jo_.mp hz;exact ck y hy
   rw[this,CA]
  have hq:=l2 x.1;rw[hz,tE]at hq;have e2:dotW (cof (P++[x]) row) (colW (basR (P++[x])) i)=dotW (cof P row) (colW (basR P) i)+row.getD x.1 0*x.2.getD i 0:=by
   unfold cof colW basR;rw[jg_,jg_,jg_];exact LO _ _ (by simp) _ _
  rw[(LN l1 hx.1 i).2,e2,z6_,l2 i,qL_,hq,<-qL_,<-z6_]
  congr 1
  lia
def DM (hp:0<p)(row:α2)(bs:List (Nat×α2)):∀y∈Az p bs row,0<=y/\y<p:=by
 have key:∀(bs:List (Nat×α2)) (l:α2),(∀y∈l,0<=y/\y<p)->∀y∈bs.foldl (DL p) l,0<=y/\y<p:=fun bs=>by
  induction bs with
  |nil=>exact fun l h=>h
  |cons x bs ih=>
   intro l h;refine ih (DL p l x) ?_;unfold DL;split
   ·exact h
   ·intro y hy;obtain⟨i,hi⟩:=j7_.mp hy;rw[xR_]at hi;split at hi
    ·cases hi;exact⟨jS_ _ s!"",jM_ _ hp⟩
    ·cases hi
 refine key bs _ fun y hy=>?_;obtain⟨z,_,rfl⟩:=jo_.mp hy;exact⟨jS_ _ s!"",jM_ _ hp⟩
def getD_in {p:Int}(hp:0<p){l:α2}(h:∀y∈l,0<=y/\y<p)(i:Nat):0<=l.getD i 0/\l.getD i 0<p:=by
 rw[jc_];cases e:l[i]? with
 |none=>exact⟨by simp,by simpa using hp⟩
 |some y=>exact h y (jj_ e)
def Ry {p:Int}{n:Nat}(row:α2):∀{bs:List (Nat×α2)},Bs p n bs->∀x∈bs,dotW (cof bs row) (colW (basR bs) x.1)=row.getD x.1 0
 |[],_,x,hx=>by simp at hx
 |y::bs,hB,x,hx=>by
  have ck:=List.pairwise_cons.mp hB.off;have hT:Bs p n bs:=⟨fun z hz=>hB.len z (jA_ _ hz),fun z hz=>hB.own z (jA_ _ hz),ck.2⟩;show dotW (row.getD y.1 0::cof bs row) (y.2.getD x.1 0::colW (basR bs) x.1)=_;rw[AN];rcases jE_.mp hx with rfl|hx
  ·have:colW (basR bs) x.1=oU bs.length 0:=by
    refine zC_.mpr ⟨by unfold colW basR;simp,fun z hz=>?_⟩;unfold colW basR at hz;rw[jJ_]at hz;obtain⟨y,hy,rfl⟩:=jo_.mp hz;exact (ck.1 y hy).2
   rw[this,CA,hB.own x (jL_ ..)];lia
  ·rw[(ck.1 x hx).1,Ry row hT x hx];lia
def LP (hp:0<p) (hr:row.length=n) (hB:Bs p n bs):∀x∈bs,(Az p bs row).getD x.1 0=0:=fun x hx=>by
 have h:=(BP row hr bs hB).2 x.1;rw[Ry row hB x hx,qR]at h;have:=getD_in hp (DM hp row bs) x.1;rw[qa_ this.1 this.2]at h;simpa using h
noncomputable def LQ (p inv:Int)(bs:List (Nat×α2))(left:α2)(q:Nat):List (Nat×α2):=
 let base:=left.map fun y=>inv*y%p
 (bs.map fun x=>(x.1,Az p [(q,base)] x.2))++[(q,base)]
def S9 (hp:2<=p) (hB:Bs p n bs) (hl:left.length=n)(dM:∀y∈left,0<=y/\y<p)(h0:∀x∈bs,left.getD x.1 0=0) (hq:q<n)(hi:inv*left.getD q 0%p=1):Bs p n (LQ p inv bs left q):=by
 obtain⟨base,hb⟩:∃base:α2,base=left.map fun y=>inv*y%p:=⟨_,rfl⟩;have di:base.length=n:=by rw[hb,ja_,hl]
 have hbin:∀y∈base,0<=y/\y<p:=fun y hy=>by
  rw[hb]at hy;obtain⟨z,_,rfl⟩:=jo_.mp hy;exact⟨jS_ _ s!"",jM_ _ s!""⟩
 have eU:∀i,base.getD i 0=inv*left.getD i 0%p:=fun i=>by rw[hb,Gu (by simp)]
 have m9:base.getD q 0=1:=by rw[eU,hi]
 have lA:∀x∈bs,base.getD x.1 0=0:=fun x hx=>by rw[eU,h0 x hx];simp
 have h1:Bs p n [(q,base)]:=⟨fun x hx=>by rw[jn_.mp hx];exact⟨di,hq,hbin⟩,fun x hx=>by rw[jn_.mp hx];exact m9,xe_ ..⟩;have bH:∀x∈bs,∀i,(Az p [(q,base)] x.2).getD i 0=(x.2.getD i 0-x.2.getD q 0*base.getD i 0)%p:=fun x hx i=>by
  have:=(BP x.2 (hB.len x hx).1 _ h1).2 i;have g:=getD_in s!"" (DM (p:=p) s!"" x.2 [(q,base)]) i;rw[qa_ g.1 g.2]at this;rw[this]
  congr 2
  show dotW [x.2.getD q 0] [base.getD i 0]=_;rw[AN,Bc];lia
 have dS:∀x∈bs,∀i,base.getD i 0=0->(Az p [(q,base)] x.2).getD i 0=x.2.getD i 0:=fun x hx i h=>by
  rw[bH x hx i,h,Int.mul_zero,tE];have g:=getD_in s!"" (hB.len x hx).2.2 i;exact qa_ g.1 g.2
 show Bs p n ((bs.map fun x=>(x.1,Az p [(q,left.map fun y=>inv*y%p)] x.2))++[(q,left.map fun y=>inv*y%p)]);rw[<-hb];refine⟨fun x hx=>?_,fun x hx=>?_,?_⟩
 ·rcases jH_.mp hx with hx|hx
  ·obtain⟨y,hy,rfl⟩:=jo_.mp hx;exact⟨(BP y.2 (hB.len y hy).1 _ h1).1,(hB.len y hy).2.1,DM s!"" _ _⟩
  ·rw[jn_.mp hx];exact⟨di,hq,hbin⟩
 ·rcases jH_.mp hx with hx|hx
  ·obtain⟨y,hy,rfl⟩:=jo_.mp hx;show (Az p [(q,base)] y.2).getD y.1 0=1;rw[dS y hy _ (lA y hy)];exact hB.own y hy
  ·rw[jn_.mp hx];exact m9
 ·refine xs_.mpr ⟨?_,xe_ ..,fun x hx y hy=>?_⟩
  ·refine xY_.mpr ((zD_.mp hB.off).imp fun {x y} h=>?_);obtain⟨hx,hy,h⟩:=h;exact⟨by show (Az p [(q,base)] x.2).getD y.1 0=0;rw[dS x hx _ (lA y hy)];exact h.1,by show (Az p [(q,base)] y.2).getD x.1 0=0;rw[dS y hy _ (lA x hx)];exact h.2⟩
  ·obtain⟨z,hz,rfl⟩:=jo_.mp hx;rw[jn_.mp hy];refine⟨?_,lA z hz⟩;show (Az p [(q,base)] z.2).getD q 0=0;rw[bH z hz,m9,wf_,qR];simp
def UT {p:Int}{n:Nat}:∀{bs:List (Nat×α2)} (cs:α2),Bs p n bs->cs.length=bs.length->bs.map (fun x=>dotW cs (colW (basR bs) x.1))=cs
 |[],cs,_,h=>by
  have:cs=[]:=jW_.mp h;subst this;rfl
 |y::bs,[],_,h=>by simp at h
 |y::bs,c::cs,hB,h=>by
  have ck:=List.pairwise_cons.mp hB.off;have hT:Bs p n bs:=⟨fun z hz=>hB.len z (jA_ _ hz),fun z hz=>hB.own z (jA_ _ hz),ck.2⟩;have ih:=UT cs hT (by simpa using h);have z0:colW (basR bs) y.1=oU bs.length 0:=by
   refine zC_.mpr ⟨by unfold colW basR;simp,fun z hz=>?_⟩;unfold colW basR at hz;rw[jJ_]at hz;obtain⟨x,hx,rfl⟩:=jo_.mp hz;exact (ck.1 x hx).2
  have e:∀i,dotW (c::cs) (colW (basR (y::bs)) i)=c*y.2.getD i 0+dotW cs (colW (basR bs) i):=fun i=>by
   show dotW (c::cs) (y.2.getD i 0::colW (basR bs) i)=_;rw[AN]
  rw[j6_,e,z0,CA,hB.own y (jL_ ..)]
  congr 1
  ·lia
  ·refine (jD_ fun x hx=>?_).trans ih;rw[e,(ck.1 x hx).1];lia
def Rz (hp:0<p) (hr:row.length=n) (hB:Bs p n bs)(hm:∀x∈bs,x.1<m)(h:Span p m (basR bs) fun i=>row.getD i 0):∀i:Nat,i<m->(Az p bs row).getD i 0=0:=fun i hi=>by
 obtain⟨cs,a,b⟩:=h;have a':cs.length=bs.length:=by rw[a];unfold basR;rw[ja_]
 have e:cg p (cof bs row) cs:=by
  rw[<-UT cs hB a'];unfold cof;exact cg.map fun x hx=>b x.1 (hm x hx)
 have h1:=(BP row hr bs hB).2 i;rw[z6_,cg.dot e (cg.refl p (colW (basR bs) i)),<-b i hi,<-z6_,qR]at h1;have g:=getD_in hp (DM hp row bs) i;rw[qa_ g.1 g.2]at h1;simpa using h1
def MT (hr:row.length=n) (hB:Bs p n bs)(h:∀i:Nat,i<m->(Az p bs row).getD i 0=0):Span p m (basR bs) fun i=>row.getD i 0:=by
 refine⟨cof bs row,by unfold cof basR;simp,fun i hi=>?_⟩;have h1:=(BP row hr bs hB).2 i;rw[h i hi]at h1;have:=jR_ (row.getD i 0-dotW (cof bs row) (colW (basR bs) i)) (qn_ p);exact jT_.mpr (by rw[<-h1];simp)
structure Seen (p:Int)(n m:Nat)(seen:α1)(bs:List (Nat×α2)):Prop where
 b:Bs p n bs
 lt:∀x∈bs,x.1<m
 made:∀x∈bs,Span p n seen fun i=>x.2.getD i 0
 kept:∀r∈seen,r.length=n/\Span p m (basR bs) fun i=>r.getD i 0
def RA (hr:row.length=n) (hB:Bs p n bs){seen:α1}(h:∀x∈bs,Span p n seen fun i=>x.2.getD i 0):Span p n (seen++[row]) fun i=>(Az p bs row).getD i 0:=by
 have h1:Span p n (seen++[row]) fun i=>dotW (cof bs row) (colW (basR bs) i):=Span.comb _ (fun r eT=>by
  obtain⟨x,hx,rfl⟩:=jo_.mp eT;exact (h x hx).app [row]) (by unfold cof basR;simp)
 refine ((Span.last seen row).add (h1.smul (-1))).congr fun i _=>?_;rw[(BP row hr bs hB).2 i]
 congr 1
 show _=row.getD i 0 + -1*dotW (cof bs row) (colW (basR bs) i);lia
def Seen.same {seen:α1} (S:Seen p n m seen bs) (hr:row.length=n)(h:∀i:Nat,i<m->(Az p bs row).getD i 0=0):Seen p n m (seen++[row]) bs:=
 ⟨S.b,S.lt,fun x hx=>(S.made x hx).app [row],fun r eT=>by
  rcases jH_.mp eT with h' | h'
  ·exact S.kept r h'
  ·rw[jn_.mp h'];exact⟨hr,MT hr S.b h⟩⟩
def Seen.more (hp:2<=p)(gP:m<=n){seen:α1} (S:Seen p n m seen bs) (hr:row.length=n) (hq:q<m)(hi:inv*(Az p bs row).getD q 0%p=1):Seen p n m (seen++[row]) (LQ p inv bs (Az p bs row) q):=by
 have hl:=(BP row hr bs S.b).1;have hB:=S9 hp S.b hl (DM s!"" row bs) (LP s!"" hr S.b) (show q<n by lia) hi;have dz:=RA hr S.b S.made;have aM:=(BP row hr bs S.b).2;generalize Az p bs row=left at hl hi hB dz aM ⊢;obtain⟨base,hb⟩:∃base:α2,base=left.map fun y=>inv*y%p:=⟨_,rfl⟩;have ew:LQ p inv bs left q=(bs.map fun x=>(x.1,Az p [(q,base)] x.2))++[(q,base)]:=by rw[hb];rfl
 have eU:∀i,base.getD i 0=inv*left.getD i 0%p:=fun i=>by rw[hb,Gu (by simp)]
 rw[ew]at hB ⊢;have di:base.length=n:=(hB.len (q,base) (by simp)).1;have h1:Bs p n [(q,base)]:=⟨fun x hx=>by rw[jn_.mp hx];exact hB.len (q,base) (by simp),fun x hx=>by rw[jn_.mp hx];exact hB.own (q,base) (by simp),xe_ ..⟩;have bH:∀x∈bs,∀i,(Az p [(q,base)] x.2).getD i 0%p=(x.2.getD i 0-x.2.getD q 0*base.getD i 0)%p:=fun x hx i=>by
  rw[(BP x.2 (S.b.len x hx).1 _ h1).2 i]
  congr 2
  show dotW [x.2.getD q 0] [base.getD i 0]=_;rw[AN,Bc];lia
 have aG:Span p n (seen++[row]) fun i=>base.getD i 0:=(dz.smul inv).congr fun i _=>by
  rw[eU,jR_ _ (qn_ p)]
 have hbn:base∈basR ((bs.map fun x=>(x.1,Az p [(q,base)] x.2))++[(q,base)]):=by unfold basR;simp
 have hnb:∀x∈bs,Az p [(q,base)] x.2∈basR ((bs.map fun x=>(x.1,Az p [(q,base)] x.2))++[(q,base)]):=fun x hx=>by
  unfold basR;rw[jg_,jJ_];exact jQ_ _ (jo_.mpr ⟨x,hx,rfl⟩)
 have dS:∀r∈basR bs,Span p m (basR ((bs.map fun x=>(x.1,Az p [(q,base)] x.2))++[(q,base)])) fun i=>r.getD i 0:=fun r eT=>by
  obtain⟨x,hx,rfl⟩:=jo_.mp eT;refine ((Span.mem (hnb x hx)).add ((Span.mem hbn).smul (x.2.getD q 0))).congr fun i _=>?_;show _=((Az p [(q,base)] x.2).getD i 0+x.2.getD q 0*base.getD i 0)%p;rw[q8_,bH x hx i,<-q8_]
  congr 1
  lia
 refine⟨hB,fun x hx=>?_,fun x hx=>?_,fun r eT=>?_⟩
 ·rcases jH_.mp hx with hx|hx
  ·obtain⟨y,hy,rfl⟩:=jo_.mp hx;exact S.lt y hy
  ·rw[jn_.mp hx];exact hq
 ·rcases jH_.mp hx with hx|hx
  ·obtain⟨y,hy,rfl⟩:=jo_.mp hx;refine (((S.made y hy).app [row]).add (aG.smul (-y.2.getD q 0))).congr fun i _=>?_;show (Az p [(q,base)] y.2).getD i 0%p=(y.2.getD i 0 + -y.2.getD q 0*base.getD i 0)%p;rw[bH y hy i,rz]
   congr 1
  ·rw[jn_.mp hx];exact aG
 ·rcases jH_.mp eT with h' | h'
  ·exact⟨(S.kept r h').1,(S.kept r h').2.trans dS⟩
  ·rw[jn_.mp h'];refine⟨hr,?_⟩;have h2:Span p m (basR ((bs.map fun x=>(x.1,Az p [(q,base)] x.2))++[(q,base)])) fun i=>dotW (cof bs row) (colW (basR bs) i):=Span.comb _ dS (by unfold cof basR;simp);refine (h2.add ((Span.mem hbn).smul (left.getD q 0))).congr fun i _=>?_;show row.getD i 0%p=(dotW (cof bs row) (colW (basR bs) i)+left.getD q 0*base.getD i 0)%p;have e3:left.getD q 0*base.getD i 0%p=left.getD i 0%p:=by
    rw[eU,qL_,jR_ _ (qn_ p),<-qL_,show left.getD q 0*(inv*left.getD i 0)=(inv*left.getD q 0)*left.getD i 0 by rw[<-zo_,zh_ (left.getD q 0)],qL_,hi];rw[zZ_,jR_ _ (qn_ p)]
   rw[q8_,e3,aM i,<-q8_]
   congr 1
   lia
noncomputable def AQ (n k:Nat):α2:=(oW n).map fun i=>if i=k then 1 else 0
def Ja : ∀cs:α2,cs.length=n->dotW cs ((oW n).map fun i=>if i=k then 1 else 0)=cs.getD k 0:=by
 intro cs hc;have key:∀(m:Nat) (cs:α2),dotW cs ((List.range' m cs.length).map fun i=>if i=k then 1 else 0)=if m<=k then cs.getD (k-m) 0 else 0:=fun m cs=>by
  induction cs generalizing m with
  |nil=>rw[Bc];split<;>simp
  |cons c cs ih=>
   rw[qp_,List.range'_succ,j6_,AN,ih (m+1)];by_cases h1:m=k
   ·subst h1;rw[if_pos rfl,if_neg s!"",if_pos (jh_ _),qq_];show c*1+0=c;lia
   ·rw[if_neg h1];by_cases h2:m+1<=k
    ·rw[if_pos h2,if_pos s!"",show k-m=(k-(m+1))+1 by lia];show c*0+cs.getD (k-(m+1)) 0=cs.getD (k-(m+1)) 0;lia
    ·rw[if_neg h2,if_neg s!""];lia
 have:=key 0 cs;rw[if_pos (qs_ _),zA_,hc,<-List.range_eq_range']at this;exact this
noncomputable def AV (ae:α1):α1:=(oW ae.length).map fun k=>ae.getD k []++AQ ae.length k
def Gv {xs ys:α2}{i:Nat}(h:i<xs.length):(xs++ys).getD i 0=xs.getD i 0:=by
 rw[jc_,jm_ h,<-jc_]
def MU {xs ys:α2}{i:Nat}:(xs++ys).getD (xs.length+i) 0=ys.getD i 0:=by
 rw[jc_,jp_ s!"",show xs.length+i-xs.length=i by lia,<-jc_]
def VO (hi:i<n):(AQ n k).getD i 0=if i=k then 1 else 0:=by
 unfold AQ;rw[jc_,jf_,jO_ hi];rfl
def FY (h:∀r∈ae,r.length=m) (hi:i<m):colW (AV ae) i=colW ae i:=by
 unfold colW AV;rw[jJ_];have:(oW ae.length).map ((fun r:α2=>r.getD i 0) ∘ fun k=>ae.getD k []++AQ ae.length k)=(oW ae.length).map fun k=>(ae.getD k []).getD i 0:=by
  refine jD_ fun k hk=>?_;have hk:=j3_.mp hk;have e:ae.getD k []=ae[k]:=by rw[jc_,jb_ hk];rfl
  show (ae.getD k []++AQ ae.length k).getD i 0=_;rw[Gv (by rw[e,h _ (jy_ hk)];exact hi)]
 rw[this];have:ae.map (fun r=>r.getD i 0)=((oW ae.length).map fun k=>ae.getD k []).map fun r=>r.getD i 0:=by rw[KQ]
 rw[this,jJ_];rfl
def NO (h:∀r∈ae,r.length=m) (hj:j<ae.length):colW (AV ae) (m+j)=AQ ae.length j:=by
 unfold colW AV;rw[jJ_];show (oW ae.length).map _=(oW ae.length).map _;refine jD_ fun k hk=>?_;have hk:=j3_.mp hk;have e:ae.getD k []=ae[k]:=by rw[jc_,jb_ hk];rfl
 have hl:(ae.getD k []).length=m:=by rw[e,h _ (jy_ hk)]
 show (ae.getD k []++AQ ae.length k).getD (m+j) 0=if k=j then 1 else 0
 rw[<-hl,MU,VO hj];by_cases js:k=j
 ·rw[if_pos js,if_pos js.symm]
 ·rw[if_neg js,if_neg (q3_ js)]
def NQ (h:∀r∈ae,r.length=m) (hv:Span p (m+ae.length) (AV ae) v):∀i:Nat,i<m->v i%p=dotW ((oW ae.length).map fun k=>v (m+k)) (colW ae i)%p:=fun i hi=>by
 obtain⟨cs,a,b⟩:=hv;have a':cs.length=ae.length:=by rw[a];unfold AV;simp
 have e:cg p ((oW ae.length).map fun k=>v (m+k)) cs:=by
  have:cs=(oW ae.length).map fun k=>cs.getD k 0:=by rw[<-a'];exact (KQ 0 cs).symm
  rw[this];refine cg.map fun k hk=>?_;have hk:=j3_.mp hk;rw[b (m+k) s!"",NO h hk];unfold AQ;rw[Ja cs a']
 rw[b i s!"",FY h hi,cg.dot e (cg.refl p _)]
def Span.less (h:Span p n S v)(hm:m<=n):Span p m S v:=by
 obtain⟨cs,a,b⟩:=h;exact⟨cs,a,fun i hi=>b i s!""⟩
def Seen.iff (hp:0<p)(gP:m<=n){seen:α1} (S:Seen p n m seen bs) (hw:row.length=n):(∀i:Nat,i<m->(Az p bs row).getD i 0=0)↔Span p m seen fun i=>row.getD i 0:=by
 refine⟨fun h=>(MT hw S.b h).trans fun r hr=>?_,fun h=>Rz hp hw S.b S.lt (h.trans fun r hr=>(S.kept r hr).2)⟩;obtain⟨x,hx,rfl⟩:=jo_.mp hr;exact (S.made x hx).less gP
open Classical in
noncomputable def A6 (p:Int)(m:Nat)(ae:α1):List Nat:=(oW ae.length).filter fun k=>decide (¬ Span p m (ae.take k) fun i=>(ae.getD k []).getD i 0)
open Classical in
def DO (p:Int)(m:Nat)(ae:α1)(r:α2):A6 p m (ae++[r])=A6 p m ae++(if Span p m ae (fun i=>r.getD i 0) then [] else [ae.length]):=by
 unfold A6;rw[ji_,jG_,j4_,qE]
 congr 1
 ·refine List.filter_congr fun k hk=>?_;have hk:=j3_.mp hk;rw[qe_ s!"",jc_,jm_ hk,<-jc_]
 ·rw[List.filter_cons,List.filter_nil,List.take_left,jc_,jp_ (jh_ _),qq_];show (if decide (¬ Span p m ae fun i=>r.getD i 0)=true then [ae.length] else [])=_;by_cases h:Span p m ae fun i=>r.getD i 0
  ·rw[if_neg (by rw[j5_];exact fun g=>g h),if_pos h]
  ·rw[if_pos (jZ_ h),if_neg h]
noncomputable def Indep (p:Int)(m:Nat)(ae:α1):Prop:=∀cs:α2,cs.length=ae.length->(∀i:Nat,i<m->dotW cs (colW ae i)%p=0)->∀c∈cs,c%p=0
def Jb (R S:α1)(i:Nat):colW (R++S) i=colW R i++colW S i:=by unfold colW;rw[jg_]
def Indep.left (h:Indep p m (R++S)):Indep p m R:=fun cs a b c hc=>
 h (cs++oU S.length 0) (by simp[a]) (fun i hi=>by
  rw[Jb,Hw _ _ _ _ (by rw[a,CY]),AL (oU _ _),CA,qQ];exact b i hi) c (jQ_ _ hc)
def Indep.not (hp:2<=p) (h:Indep p m (R++[r])):¬ Span p m R fun i=>r.getD i 0:=fun ⟨cs,a,b⟩=>by
 have:=h (cs++[-1]) (by simp[a]) (fun i hi=>by
  rw[Jb,show colW [r] i=[r.getD i 0] from rfl,LO _ _ (by rw[a,CY])];have:=b i hi;exact qZ_ (by
   have:=jR_ (r.getD i 0) (qn_ p);have e:r.getD i 0%p=dotW cs (colW R i)%p:=b i hi;have d:=qr_ (jT_.mp e.symm)
   rwa [show dotW cs (colW R i) + -1*r.getD i 0=dotW cs (colW R i)-r.getD i 0 by lia])) (-1) (by simp)
 have d:=qr_ this;have:=qx (by decide) (Int.dvd_neg.mpr d);lia
def Indep.chosen (hp:2<=p) : ∀{ae:α1},Indep p m ae->A6 p m ae=oW ae.length:=by
 intro ae;generalize hk:ae.length=k
 induction k generalizing ae with
 |zero=>
  intro _;have:ae=[]:=jW_.mp hk;subst this;rfl
 |succ k ih=>
  intro h;obtain⟨R,r,rfl⟩:∃R r,ae=R++[r]:=⟨ae.dropLast,ae.getLast (by intro e;subst e;simp at hk),(qt_ _).symm⟩;have hR:R.length=k:=by simp at hk;lia
  rw[DO,if_neg (h.not hp),ih hR h.left,hR,j4_]
def Indep.uniq (h:Indep p m ae) (hc:cs.length=ae.length)(hd:ds.length=ae.length)(e:∀i:Nat,i<m->dotW cs (colW ae i)%p=dotW ds (colW ae i)%p):cg p cs ds:=by
 have key:=h (pk (· + ·) cs (ds.map (-1 * ·))) (by simp[hc,hd]) fun i hi=>by
  rw[LM _ _ _ (by simp[hc,hd]),ER];have:=jT_.mp (e i hi)
  rwa [show dotW cs (colW ae i) + -1*dotW ds (colW ae i)=dotW cs (colW ae i)-dotW ds (colW ae i) by lia]
 unfold cg;refine qI_ (by simp[hc,hd]) fun i h1 h2=>?_;rw[xH_,xH_];have i1:i<cs.length:=by simpa using h1
 have i2:i<ds.length:=by simpa using h2
 have:=key (cs[i] + -1*ds[i]) (List.mem_iff_getElem.mpr ⟨i,by simp;lia,by simp⟩);refine jT_.mpr ?_
 rwa [show cs[i]-ds[i]=cs[i] + -1*ds[i] by lia]
def Indep.nil (p:Int)(m:Nat):Indep p m []:=fun cs a _ c hc=>by
 have:cs=[]:=jW_.mp a;subst this;simp at hc
def KR (h:∀r∈ae,r.length=m):∀r∈AV ae,r.length=m+ae.length:=fun r hr=>by
 unfold AV at hr;obtain⟨k,hk,rfl⟩:=jo_.mp hr;have hk:=j3_.mp hk;have e:ae.getD k []=ae[k]:=by rw[jc_,jb_ hk];rfl
 rw[ji_,e,h _ (jy_ hk)];unfold AQ;simp
def NR (h:∀r∈ae,r.length=m) : Span p m (AV ae) v↔Span p m ae v:=by
 have l:(AV ae).length=ae.length:=by unfold AV;simp
 constructor
 ·rintro⟨cs,a,b⟩;exact⟨cs,by rw[a,l],fun i hi=>by rw[b i hi,FY h hi]⟩
 ·rintro⟨cs,a,b⟩;exact⟨cs,by rw[a,l],fun i hi=>by rw[b i hi,FY h hi]⟩
def VP (c i:Nat):(oU c (0:Int)).getD i 0=0:=by
 rw[jc_,qY_];split<;>rfl
def RC (hp:0<p) (h:∀r∈ae,r.length=m) (S:Seen p (m+ae.length) m (AV ae) bs) (hw:row.length=m):(∀i:Nat,i<m->(Az p bs (row++oU ae.length 0)).getD i 0=0)↔Span p m ae fun i=>row.getD i 0:=by
 rw[S.iff hp s!"" (by simp[hw]),NR h];exact⟨fun g=>g.congr fun i hi=>by rw[Gv s!""],fun g=>g.congr fun i hi=>by rw[Gv s!""]⟩
def XX (hp:0<p) (h:∀r∈ae,r.length=m) (S:Seen p (m+ae.length) m (AV ae) bs) (hw:row.length=m)(h0:∀i:Nat,i<m->(Az p bs (row++oU ae.length 0)).getD i 0=0):∀i:Nat,i<m->row.getD i 0%p=dotW ((oW ae.length).map fun k => -(Az p bs (row++oU ae.length 0)).getD (m+k) 0%p) (colW ae i)%p:=by
 have aM:=(BP (row++oU ae.length 0) (by simp[hw]:_=m+ae.length) bs S.b).2;generalize hL:Az p bs (row++oU ae.length 0)=left at aM h0 ⊢;have hs:Span p (m+ae.length) (AV ae) fun i=>dotW (cof bs (row++oU ae.length 0)) (colW (basR bs) i):=Span.comb _ (fun r hr=>by
  obtain⟨x,hx,rfl⟩:=jo_.mp hr;exact S.made x hx) (by unfold cof basR;simp)
 intro i hi;have h1:=NQ h hs i hi;have h2:=aM i;rw[h0 i hi,Gv s!""]at h2;have e1:row.getD i 0%p=dotW (cof bs (row++oU ae.length 0)) (colW (basR bs) i)%p:=jT_.mpr (by rw[<-h2];simp);rw[e1,h1];refine cg.dot (cg.map fun k hk=>?_) (cg.refl p _);have h3:=aM (m+k);rw[<-hw,MU,VP,hw,Int.zero_sub]at h3;rw[jR_ _ (qn_ p),<-Int.neg_neg (dotW _ _)];have d:=qr_ (jT_.mp h3);refine jT_.mpr (qZ_ ?_);have e:∀x y:Int,- -x - -y=y - -x:=fun x y=>by lia
 rw[e];exact d
def RD (hp:0<p) (h:∀r∈ae,r.length=m)(hI:Indep p m ae) (S:Seen p (m+ae.length) m (AV ae) bs) (hw:row.length=m) (ha:am.length=ae.length)(dM:∀x∈am,0<=x/\x<p)(he:∀i:Nat,i<m->row.getD i 0%p=dotW am (colW ae i)%p):((Az p bs (row++oU ae.length 0)).drop m).map (fun y => -y%p)=am:=by
 have h0:=(RC hp h S hw).mpr ⟨am,ha,he⟩;have hl:=(BP (row++oU ae.length 0) (by simp[hw]:_=m+ae.length) bs S.b).1;have hf:=XX hp h S hw h0;generalize Az p bs (row++oU ae.length 0)=left at hl hf h0 ⊢;have e0:(left.drop m).map (fun y => -y%p)=(oW ae.length).map fun k => -left.getD (m+k) 0%p:=by
  refine qI_ (by simp[hl]) fun i h1 h2=>?_;have hi:m+i<left.length:=by simp at h1;lia
  rw[xH_,xH_,qF,List.getElem_drop,jc_,jb_ hi];rfl
 have hu:=hI.uniq (cs:=(oW ae.length).map fun k => -left.getD (m+k) 0%p) (ds:=am) (by simp) ha fun i hi=>(hf i hi).symm.trans (he i hi);rw[e0];unfold cg at hu;rw[jJ_]at hu;have e2:am.map (· % p)=am:=by
  conv=>rhs;rw[<-qh am]
  exact jD_ fun x hx=>qa_ (dM x hx).1 (dM x hx).2
 rw[e2]at hu;rw[<-hu];refine jD_ fun k _=>?_;show _=(-left.getD (m+k) 0%p)%p;rw[jR_ _ (qn_ p)]
def LR:∀(m:Nat) (l:List Nat),l.Nodup->(∀x∈l,x<m)->l.length<=m
 |0,l,_,h=>by
  cases l with
  |nil=>exact jh_ _
  |cons x l=>exact absurd (h x (jL_ ..)) (rD _)
 |m+1,l,nd,h=>by
  have h1:=LR m (l.erase m) (nd.erase m) fun x hx=>by
   have gQ:=h x (List.mem_of_mem_erase hx);have iG:x≠m:=fun e=>by
    subst e;exact (List.Nodup.not_mem_erase nd) hx
   lia
  have h2:=List.length_erase (a:=m) (l:=l);by_cases hm:m∈l
  ·rw[if_pos hm]at h2;lia
  ·rw[if_neg hm]at h2;lia
def bez (a b:Nat):∃x y:Int,x*a+y*b=(qm a b:Int):=by
 induction a,b using Nat.gcd.induction with
 |H0 n=>exact⟨0,1,by simp⟩
 |H1 m n hm ih=>
  obtain⟨x,y,h⟩:=ih;refine⟨y-x*((n / m:Nat):Int),x,?_⟩;rw[tQ m n,<-h];have e:(n:Int)=(m:Int)*((n / m:Nat):Int)+((n%m:Nat):Int):=by
   have:=pX n m;rw[<-xT_,<-Int.natCast_add,this]
  have e2:x*(n:Int)=x*((m:Int)*((n / m:Nat):Int))+x*((n%m:Nat):Int):=by rw[<-wg_,<-e]
  rw[e2,qd,zo_,zh_ ((n / m:Nat):Int) (m:Int)];lia
def UU (hp:2<=p)(h0:0<a)(hg:pq a p=1):∃inv:Int,inv*a%p=1:=by
 obtain⟨x,y,h⟩:=bez a.natAbs p.natAbs;rw[show qm a.natAbs p.natAbs=1 from hg,show (a.natAbs:Int)=a by lia,show (p.natAbs:Int)=p by lia]at h;refine⟨x,?_⟩;have e:x*a=1+p*(-y):=by rw[Int.mul_neg,zh_ p y];lia
 rw[e,Int.add_mul_emod_self_left];exact qa_ (by decide) s!""
def RE (hp:2<=p)(hI:∀a:Int,0<a->a<p->∃inv:Int,inv*a%p=1) (gP:m<=n):∀ae:α1,(∀r∈ae,r.length=n)->∃bs,Seen p n m ae bs/\bs.length=(A6 p m ae).length:=by
 intro ae;generalize hk:ae.length=k
 induction k generalizing ae with
 |zero=>
  intro _;have:ae=[]:=jW_.mp hk;subst this;exact⟨[],⟨⟨by simp,by simp,.nil⟩,by simp,by simp,by simp⟩,rfl⟩
 |succ k ih=>
  intro h;obtain⟨R,x,rfl⟩:∃R x,ae=R++[x]:=⟨ae.dropLast,ae.getLast (by intro e;subst e;simp at hk),(qt_ _).symm⟩;obtain⟨bs,S,hb⟩:=ih R (by simp at hk;lia) fun r hr=>h r (jQ_ _ hr);have hx:x.length=n:=h x (by simp);have aW:=S.iff s!"" gP hx;rw[DO];by_cases hs:Span p m R fun i=>x.getD i 0
  ·rw[if_pos hs,xu_];exact⟨bs,S.same hx (aW.mpr hs),hb⟩
  ·rw[if_neg hs];obtain⟨q,hq,h0⟩:∃q:Nat,q<m/\(Az p bs x).getD q 0≠0:=xp_ fun hc=>hs (aW.mp fun i hi=>xp_ fun g=>hc ⟨i,hi,g⟩);have g:=getD_in (show 0<p by lia) (DM s!"" x bs) q;obtain⟨inv,cm⟩:=hI _ s!"" g.2;exact⟨_,S.more hp gP hx hq cm,by unfold LQ;simp[hb]⟩
def RF (h:Bs p n bs):(bs.map (·.1)).Nodup:=by
 refine xY_.mpr ((zD_.mp h.off).imp fun {x y} g e=>?_);obtain⟨hx,hy,g1,_⟩:=g;rw[<-e,h.own x hx]at g1;exact absurd g1 (by decide)
def RG (hp:2<=p)(hI:∀a:Int,0<a->a<p->∃inv:Int,inv*a%p=1) (h:∀r∈ae,r.length=n):(A6 p n ae).length<=n:=by
 obtain⟨bs,S,hb⟩:=RE hp hI (jh_ n) ae h;rw[<-hb,<-ja_ (f:=(·.1)) (as:=bs)];refine LR n _ (RF S.b) fun x hx=>?_;obtain⟨y,hy,rfl⟩:=jo_.mp hx;exact S.lt y hy
structure GcdI (p n one aO f g:Int):Prop where
 o:0<one
 o1:one<=p
 t:0<=aO
 t1:aO<=p
 gc:pq one aO=1
 f1:(f*n-one)%p=0
 g1:(g*n-aO)%p=0
def VQ (ha:0<a)(hb:0<b)(h:pq a b=1):pq b (a%b)=1:=by
 have m0:=jS_ a (show b≠0 by lia);have e:(a%b).natAbs=a.natAbs%b.natAbs:=by
  have e1:a%b=((a.natAbs%b.natAbs:Nat):Int):=by rw[Int.natCast_emod,show (a.natAbs:Int)=a from by lia,show (b.natAbs:Int)=b from by lia]
  rw[e1,Int.natAbs_natCast]
 unfold pq at h ⊢;rw[e,tF,<-tQ,tF];exact h
def GcdI.step (h:GcdI p n one aO f g)(ht:aO≠0):GcdI p n aO (one-one / aO*aO) g (f-one / aO*g):=by
 have hp:0<aO:=by have:=h.t;lia
 have e:one-one / aO*aO=one%aO:=by have:=zE_ one aO;rw[zh_];lia
 refine⟨hp,h.t1,by rw[e];exact jS_ _ ht,by rw[e];have:=jM_ one hp;have:=h.t1;lia,?_,h.g1,?_⟩
 ·rw[e];exact VQ h.o hp h.gc
 ·have e2:(f-one / aO*g)*n-(one-one / aO*aO)=(f*n-one)-one / aO*(g*n-aO):=by
   rw[qd,rp,zo_];lia
  have d1:=qr_ h.f1;have d2:=qr_ h.g1;rw[e2];exact qZ_ (wh_ d1 (qV_ d2))
def GcdI.done (h:GcdI p n one 0 f g)(hp:2<=p):f%p*n%p=1:=by
 have e:one=1:=by have:=h.gc;have:=h.o;rw[Int.gcd_zero_right] at *;lia
 have:=h.f1;rw[e]at this;have d:=qr_ this;have e3:f*n%p=1%p:=jT_.mpr this;have e4:f%p*n%p=f*n%p:=by rw[qL_,Int.emod_emod,<-qL_]
 rw[e4,e3];exact qa_ (by decide) s!""
noncomputable def Pp:Sp:=fun vs H Q _=>∃(p n:Int),vs=[.int p,.int n]/\2<=p/\p<1000000000000000000/\n%p≠0/\pq (n%p) p=1/\∀r,0<=r->r<p->r*n%p=1->Q (.int r) H
def Pq:⋯ EE.j5 1 ["p","number"] (Pp):=by
 delta EE.j5 A7
 ·obtain⟨p,n,rfl,_⟩:=h;rfl
 ·obtain⟨p,n,rfl,hp,gj,e,hg,kq⟩:=h;have hl:=An;refine⟨_,(Ad (Ak (i:=2) A7.nd (pvD 0))
   (Ad (Ak (i:=3) A7.nd (As (opD AS) (pvD 1) (pvD 0)))
   (Ad (A5 (ptT (Ax (opE FH) (pvD 3) Ae (AB _)))
   (Af N3)
   AE)
   (Ad (Ak (i:=4) A7.nd Ae)
   (Ad (Ak (i:=5) A7.nd Ae)
   (Ad (La jN_ (ptT (Ax (opN FJ) (pvD 3) Ae (AB _)))
   (Ad (Ak (i:=6) A7.nd (As (opD SK) (pvD 2) (pvD 3)))
   (Ad (Ak (i:=7) A7.nd (As (opD0 N6) (pvD 2) (As (opD BU) (pvD 6) (pvD 3))))
   (Ad (Ak (i:=8) A7.nd (As (opD0 N6) (pvD 4) (As (opD BU) (pvD 6) (pvD 5))))
   (Ad (Ak (i:=2) A7.nd (pvD 3))
   (Ad (Ak (i:=4) A7.nd (pvD 5))
   (Ad (Ak (i:=3) A7.nd (pvD 7))
   (Af (Ak (i:=5) A7.nd (pvD 8))))))))))
   (Af (Ap (As (opD AS) (pvD 4) (pvD 0)))))))))),?_⟩
  nofun;refine⟨by lia,ite2 (fun z=>absurd z e) (fun _=>?_)⟩;have m0:=jS_ n (show p≠0 by lia);have m1:=jM_ n (show 0<p by lia);obtain⟨Pv,aj⟩:∃Pv:Nat->St->Hp->Prop,∀m ag H2,Pv m ag H2↔(H2=H/\∃(one aO f g:Int) (o6 o7 o8:Option V),m=aO.toNat/\GcdI p n one aO f g/\ag=[some (.int p),some (.int n),some (.int one),some (.int aO),some (.int f),some (.int g),o6,o7,o8]):=⟨_,fun _ _ _=>j8_⟩;refine QM Pv ⟨_,(aj _ _ _).mpr ⟨rfl,p,n%p,0,1,none,none,none,rfl,⟨by lia,by lia,m0,by lia,by rw[tq];exact hg,qZ_ ⟨-1,by rw[Int.zero_mul];lia⟩,qZ_ ⟨n / p,by rw[zZ_];have:=zE_ n p;lia⟩⟩,rfl⟩⟩ ?_;intro m ag H2 ng;obtain⟨rfl,one,aO,f,g,o6,o7,o8,rfl,G,rfl⟩:=(aj _ _ _).mp ng;have g1:=G.o;have g2:=G.o1;have g3:=G.t;have g4:=G.t1;nofun;by_cases ht:aO=0
  ·rw[if_neg (by simp[ht])];subst ht;nofun;exact⟨by lia,kq _ (jS_ _ s!"") (jM_ _ s!"") (G.done hp)⟩
  ·rw[if_pos (by simp[ht])];have q0:=Int.ediv_nonneg (show 0<=one by lia) g3;have q1:one / aO<=one:=Int.ediv_le_self _ s!"";have G':=G.step ht;have r1:=G'.t;refine⟨fun af H'=>∃m',m'<aO.toNat/\Pv m' af H',fun _ _ h=>h,by lia,by lia,.inr ⟨by lia,by lia⟩,.inl ⟨by lia,by lia⟩,(one-one / aO*aO).toNat,?_,(aj _ _ _).mpr ⟨rfl,_,_,_,_,_,_,_,rfl,G',rfl⟩⟩;have e1:one-one / aO*aO=one%aO:=by have:=zE_ one aO;rw[zh_];lia
   have:=jM_ one (show 0<aO by lia);lia
noncomputable def RH (K:α3):Sp:=fun vs H Q _=>∃(p f:Int) (t:Bool) (a:Addr) (xs:α2),vs=[.int p,.int f,.ref a]/\0<p/\(-(2 ^ 64)<f/\f<2 ^ 64)/\SqB K H t a (xs.map V.int)/\xs.length<=900/\∀q H',Same H H'->H' q=some (.tup ((xs.map fun x=>f*x%p).map V.int))->Q (.ref q) H'
def MV:⋯ EE.j6 1 ["p","factor","row"] (RH K):=by
 delta EE.j6 Rq
 ·obtain⟨p,f,t,a,xs,rfl,_⟩:=h;rfl
 ·obtain⟨p,f,t,a,xs,rfl,hp,hf,ha,hz,k⟩:=h;have hl:=An;refine⟨_,(Af (Ap (Ar Av rfl EE.tuple jw_ (Aa (AA rfl (Ay rfl) (cp:=KI) ⟨⟨rfl,rfl⟩,⟨⟨rfl,rfl⟩,oX⟩⟩ (KC (pvD 2)) (fun _ _ _ _=>(Al (i:=0) LI rfl (oY rfl))) (fun _ _ _ _=>AJ) (fun _ _ _ _=>(As (opD AS) (As (opD BU) (pvD 2) (pvD 0)) (pvD 1)))) Ac)))),?_⟩;nofun;obtain⟨g,hg⟩:∃g:V->V,∀n:Int,g (V.int n)=.int (f*n%p):=⟨fun x=>match x with | .int n=>.int (f*n%p)|_=>.non,fun _=>rfl⟩;refine Oq (af:=[some (.int p),some (.int f)]) g rfl ha (by rw[ja_];lia) (fun x hx R hR=>?_) (fun D hD=>?_)
  ·obtain⟨n,hn,rfl⟩:=jo_.mp hx;rw[hg]at hR;nofun;exact⟨.inl hf,hp,hR⟩
  ·have em:(xs.map V.int).map g=(xs.map fun x=>f*x%p).map V.int:=by
    rw[jJ_,jJ_];exact jD_ fun n _=>hg n
   rw[em];refine⟨D,rfl,_,.inl ⟨SqL.of Ab,fun q hq=>k q _ ((Same.new hD).newT hq) Ab⟩⟩
noncomputable def Ta (K:α3):Sp:=fun vs H Q _=>∃(p:Int) (t1 t2:Bool) (a b:Addr) (xs ys:α2),vs=[.int p,.ref a,.ref b]/\0<p/\SqB K H t1 a (xs.map V.int)/\SqB K H t2 b (ys.map V.int)/\xs.length=ys.length/\xs.length<=900/\∀q H',Same H H'->H' q=some (.tup ((pk (fun x y=>(x+y)%p) xs ys).map V.int))->Q (.ref q) H'
def Tc:⋯ EE.j7 1 ["p","row","other"] (Ta K):=by
 delta EE.j7 S3
 ·obtain⟨p,t1,t2,a,b,xs,ys,rfl,_⟩:=h;rfl
 ·obtain⟨p,t1,t2,a,b,xs,ys,rfl,hp,ha,hb,ah,hz,k⟩:=h;have hl:=An;refine⟨_,(Af (Ap (Ar Av rfl EE.tuple jw_ (Aa (AA rfl (Ay rfl) (cp:=MQ) ⟨⟨rfl,rfl⟩,oX⟩ (Q9 rfl EE.zip (Aa (pvD 1) (Aa (pvD 2) Ac))) (fun _ _ _ _=>(ND (K:=K) (n:=2) rfl rfl (BA (Al (i:=0) HS rfl (oY rfl)) (BA (Al (i:=1) HS rfl (oY rfl)) G9)))) (fun _ _ _ _=>AJ) (fun _ _ _ _=>(As (opD AS) (As (opD0 Cp) (pvD 0) (pvD 1)) (pvD 2)))) Ac)))),?_⟩;nofun;refine⟨_,_,t1,ha,t2,hb,Ot (af:=[some (.int p)]) (fun x y=>(x+y)%p) rfl ha hb ah s!"" (fun t u v o1 o2 H1 N ht hN=>?_) (fun x y H1 hx hy s1 R hR=>?_) (fun H1 D s1 hD=>?_)⟩
  ·nofun;exact⟨_,SqT.of ht,rfl,_,_,rfl,_,_,rfl,rfl,hN⟩
  ·nofun;exact⟨hp,hR⟩
  ·refine⟨D,rfl,_,.inl ⟨SqL.of Ab,fun q hq=>k q _ ((s1.newT hD).newT hq) Ab⟩⟩
noncomputable def Pt (K:α3):Sp:=fun vs H Q _=>∃(p:Int) (t1 t2:Bool) (a b:Addr) (xs ys:α2),vs=[.int p,.ref a,.ref b]/\0<p/\SqB K H t1 a (xs.map V.int)/\SqB K H t2 b (ys.map V.int)/\xs.length=ys.length/\xs.length<=900/\(∀x∈xs,-(2 ^ 64)<x/\x<2 ^ 64)/\∀H',Same H H'->Q (.int (dotW xs ys%p)) H'
def KS:⋯ EE.j8 1 ["p","row","other"] (Pt K):=by
 delta EE.j8 Pb
 ·obtain⟨p,t1,t2,a,b,xs,ys,rfl,_⟩:=h;rfl
 ·obtain⟨p,t1,t2,a,b,xs,ys,rfl,hp,ha,hb,ah,hz,hx64,k⟩:=h;have hl:=An;refine⟨_,(Af (Ap (As (opD AS) (Am (Ge rfl) rfl EE.sum xo_ (Aa (AA rfl (Ay rfl) (cp:=JE) oX (Q9 rfl EE.zip (Aa (pvD 1) (Aa (pvD 2) Ac))) (fun _ _ _ _=>(ND (K:=K) (n:=2) rfl rfl (BA (Al (i:=0) Fh rfl (oY rfl)) (BA (Al (i:=1) Fh rfl (oY rfl)) G9)))) (fun _ _ _ _=>AJ) (fun _ _ _ _=>(As (opD BU) (pvD 0) (pvD 1)))) Ac)) (pvD 0)))),?_⟩;nofun;refine⟨_,_,t1,ha,t2,hb,Ot (af:=[]) (fun x y=>x*y) rfl ha hb ah s!"" (fun t u v o1 o2 H1 N ht hN=>?_) (fun x y H1 hx hy s1 R hR=>?_) (fun H1 D s1 hD=>?_)⟩
  ·nofun;exact⟨_,SqT.of ht,rfl,_,_,rfl,_,_,rfl,rfl,hN⟩
  ·nofun;exact⟨.inl (hx64 x hx),hR⟩
  ·exact⟨D,rfl,_,SqL.of Ab,hp,k _ (s1.newT hD)⟩
noncomputable def Pu (K:α3):Sp:=fun vs H Q _=>∃(p:Int) (t1 t2:Bool) (a b:Addr) (xs:List V) (ae:α1) (am:α2) (n:Nat),vs=[.int p,.ref a,.ref b,.int n]/\0<p/\SqB K H t1 a xs/\AR K H xs ae/\(∀r∈ae,r.length=n)/\SqB K H t2 b (am.map V.int)/\am.length=ae.length/\ae.length<=900/\n<=900/\(∀x∈am,-(2 ^ 64)<x/\x<2 ^ 64)/\∀q H',Same H H'->H' q=some (.tup ((CM p ae am n).map V.int))->Q (.ref q) H'
def Px:⋯ EE.j19 2 ["p","rows","parts","size"] (Pu K):=by
 delta EE.j19 Ph
 ·obtain⟨p,t1,t2,a,b,xs,ae,am,n,rfl,_⟩:=h;rfl
 ·obtain⟨p,t1,t2,a,b,xs,ae,am,n,rfl,hp,ha,gm,aZ,hb,ah,hz,hn,ke,k⟩:=h;have hl:=An;refine⟨_,(Af (Ap (Ar Av rfl EE.tuple jw_ (Aa (AA rfl (Ay rfl) (cp:=JH) ⟨⟨rfl,rfl⟩,⟨⟨rfl,rfl⟩,⟨⟨rfl,rfl⟩,oX⟩⟩⟩ (AF rfl EE.range (Aa (pvD 3) Ac)) (fun _ _ _ _=>(Al (i:=0) Kj rfl (ph rfl))) (fun _ _ _ _=>AJ) (fun _ _ _ _=>(Ag (KS EE) hr.d Aw (Aa (pvD 1) (Aa (pvD 2) (Aa (AA rfl (Ay rfl) (cp:=JI) ⟨⟨rfl,rfl⟩,oX⟩ (Vt (K:=K) rfl (pvD 3)) (fun _ _ _ _=>(Al (i:=0) Kk rfl (oY rfl))) (fun _ _ _ _=>AJ) (fun _ _ _ _=>(Aj (ixTD (Bb (K:=K) rfl)) (pvD 0) (pvD 1)))) Ac)))))) Ac)))),?_⟩;nofun;refine⟨by lia,by lia,?_⟩;rw[jU_];obtain⟨Pc,aL⟩:∃Pc:Nat->List V->St->Hp->Prop,∀c ys ax H4,Pc c ys ax H4↔(Same H H4/\ys=((oW c).map fun c=>dotW am (colW ae c)%p).map V.int/\∃o,ax=[o,some (.int p),some (.ref b),some (.ref a)]):=⟨_,fun _ _ _ _=>j8_⟩;refine Hd Pc ((aL _ _ _ _).mpr ⟨Same.refl _,rfl,none,rfl⟩) s!"" (fun c ys ax H4 _ h4=>?_) (fun c ys ax H4 hc h4=>?_) (fun ys ax H4 h4 D hD=>?_)
  ·obtain⟨_,rfl,_⟩:=(aL _ _ _ _).mp h4;rw[ja_,ja_,jI_];exact jh_ _
  ·obtain⟨s4,rfl,o,rfl⟩:=(aL _ _ _ _).mp h4;rw[qf_];nofun;refine Rb (af:=[some (.int c)]) (fun i=>V.int ((ae.getD i []).getD c 0)) rfl (ha.mono s4) (by rw[gm.1];lia) (fun i x hx R hR=>?_) (fun D hD=>?_)
   ·have hi:i<ae.length:=by rw[<-gm.1];exact (jd_.mp hx).1
    obtain⟨t,e1,e2⟩:=gm.2 i ae[i] (by simp[hi]);rw[hx]at e1;cases e1;have aY:c<(ae[i]).length:=by rw[aZ _ (jy_ hi)];exact hc
    have er:ae.getD i []=ae[i]:=by rw[jc_,jb_ hi];rfl
    rw[er,jc_,jb_ aY]at hR;nofun;exact⟨_,s4.seqT e2,_,Du s!"" (v:=(ae[i])[c]) (by simp[aY]),hR⟩
   ·rw[gm.1,XT] at *;have sD:=Same.new hD (o:=.lst ((colW ae c).map V.int));nofun;refine⟨p,t2,false,b,D,am,colW ae c,rfl,hp,hb.mono (s4.trans sD),SqL.of Ab,by unfold colW;rw[ja_];exact ah,by lia,ke,fun H5 s5=>(aL _ _ _ _).mpr ⟨(s4.trans sD).trans s5,?_,_,rfl⟩⟩;rw[j4_,jg_,jg_];rfl
  ·obtain⟨s4,rfl,o,rfl⟩:=(aL _ _ _ _).mp h4;exact⟨D,rfl,_,.inl ⟨SqL.of Ab,fun q hq=>k q _ ((s4.newT hD).newT hq) Ab⟩⟩
noncomputable def BasD (K:α3)(H:Hp)(d:Addr)(bs:List (Nat×α2)):Prop:=∃kvs:List (Key×V),Rd H d (.dK kvs)/\kvs.length=bs.length/\∀(i:Nat) (x:Nat×α2),bs[i]?=some x->∃t,kvs[i]?=some (pj (x.1:Int),V.ref t)/\SqT K H t (x.2.map V.int)
def BasD.fz {K:α3} (h:BasD K H d bs)(s:FzAt e H H'):BasD K H' d bs:=by
 obtain⟨kvs,h1,h2,h3⟩:=h;refine⟨kvs,s.rd h1,h2,fun i x hx=>?_⟩;obtain⟨t,a,b⟩:=h3 i x hx;exact⟨t,a,s.seqT b⟩
def BasD.mono {K:α3} (h:BasD K H d bs)(s:Same H H'):BasD K H' d bs:=h.fz (FzAt.of (d:=d) s)
noncomputable def XY (K:α3):Sp:=fun vs H Q _=>∃(a:Addr) (xs:α2),vs=[.ref a]/\SqT K H a (xs.map V.int)/\xs.length<=900/\(∀(q:Nat) (H':Hp),Same H H'->q<xs.length->xs.getD q 0≠0->Q (.int q) H')/\∀H',Same H H'->(∀q:Nat,q<xs.length->xs.getD q 0=0)->Q .non H'
def B5:⋯ EE.j9 1 ["row"] (XY K):=by
 delta EE.j9 B1
 ·obtain⟨a,xs,rfl,_⟩:=h;rfl
 ·obtain⟨a,xs,rfl,ha,hz,k1,k2⟩:=h;have hl:=An;refine⟨_,(Ad (A3 jN_ rfl (Lq rfl EE.enumerate (pvD 0)) (N4 rfl (BA (Al (i:=1) B1.nd rfl (oY rfl)) (BA (Al (i:=2) B1.nd rfl (oY rfl)) G9)))
   (Af (A5 (ptT (Ax (opN FJ) (pvD 2) Ae (AB _)))
   (Af (Ap (pvD 1)))
   AE)))
   (Af (Ap Kr))),?_⟩
  nofun;obtain⟨Pv,aj⟩:∃Pv:Nat->St->Hp->Prop,∀i af H',Pv i af H'↔(Same H H'/\(∀q:Nat,q<i->xs.getD q 0=0)/\∃o1 o2,af=[some (.ref a),o1,o2]):=⟨_,fun _ _ _=>j8_⟩;refine⟨_,ha,forN Pv ((aj _ _ _).mpr ⟨Same.refl _,fun q hq=>by lia,none,none,rfl⟩) (fun i af H' _ h'=>((aj _ _ _).mp h').1.seqT ha) (fun i v af H' t hv h' ht=>?_) (fun af H' h'=>?_)⟩
  ·obtain⟨s1,h0,o1,o2,rfl⟩:=(aj _ _ _).mp h';obtain⟨x,hx,rfl⟩:∃x,xs[i]?=some x/\v=.int x:=by
    rw[jf_]at hv;cases e:xs[i]? with
    |none=>rw[e]at hv;cases hv
    |some x=>rw[e]at hv;exact⟨x,rfl,(jC_ hv).symm⟩
   have hi:i<xs.length:=(jd_.mp hx).1;have ex:xs.getD i 0=x:=by rw[jc_,hx];rfl
   nofun;refine⟨_,SqT.of Ab,rfl,_,_,rfl,_,_,rfl,rfl,rfl,?_⟩;have s2:=s1.newT ht (o:=.tup [.int i,.int x]);by_cases lB:x=0
   ·rw[if_neg (by simp[lB])];refine (aj _ _ _).mpr ⟨s2,fun q hq=>?_,_,_,rfl⟩;rcases z4_ q i with h|h
    ·exact h0 q h
    ·rw[show q=i by lia,ex,lB]
   ·rw[if_pos (by simp[lB])];exact k1 i _ s2 hi (by rw[ex];exact lB)
  ·obtain⟨s1,h0,o1,o2,rfl⟩:=(aj _ _ _).mp h';nofun;exact k2 _ s1 (by simpa using h0)
noncomputable def VR (K:α3):Sp:=fun vs H Q _=>∃(p:Int) (d r:Addr) (t:Bool) (bs:List (Nat×α2)) (row:α2),vs=[.int p,.ref d,.ref r]/\0<p/\p<2 ^ 62/\BasD K H d bs/\SqB K H t r (row.map V.int)/\row.length<=900/\(∀x∈bs,x.2.length=row.length/\x.1<row.length)/\∀q H',FzAt d H H'->SqT K H' q ((Az p bs row).map V.int)->Q (.ref q) H'
def E7:⋯ EE.j10 2 ["p","bases","row"] (VR K):=by
 delta EE.j10 Df
 ·obtain⟨p,d,r,t,bs,row,rfl,_⟩:=h;rfl
 ·obtain⟨p,d,r,t,bs,row,rfl,hp,hp62,hB,hrow,hz,jt,k⟩:=h;have hl:=An;refine⟨_,(Ad (Ak (i:=3) Df.nd (Ar Av rfl EE.tuple jw_ (Aa (AA rfl (Ay rfl) (cp:=JF) ⟨⟨rfl,rfl⟩,oX⟩ (KC (pvD 2)) (fun _ _ _ _=>(Al (i:=0) Kh rfl (oY rfl))) (fun _ _ _ _=>AJ) (fun _ _ _ _=>(As (opD AS) (pvD 0) (pvD 1)))) Ac)))
   (Ad (A3 jN_ rfl (Ri (pvD 1)) (N4 rfl (BA (Al (i:=4) Df.nd rfl (oY rfl)) (BA (Al (i:=5) Df.nd rfl (oY rfl)) G9)))
   (Af (A5 (ptT (Ax (opN FJ) (Aj (ixTD Ao) (pvD 3) (pvD 4)) Ae (AB _)))
   (Af (Ak (i:=3) Df.nd (Ag (Tc EE) hr.d Aw (Aa (pvD 0) (Aa (pvD 3) (Aa (Ag (MV EE) hr.d Aw (Aa (pvD 0) (Aa (OT Kv (Aj (ixTD Ao) (pvD 3) (pvD 4))) (Aa (pvD 5) Ac)))) Ac))))))
   AE)))
   (Af (Ap (pvD 3))))),?_⟩
  nofun;obtain⟨g,hg⟩:∃g:V->V,∀n:Int,g (V.int n)=.int (n%p):=⟨fun x=>match x with | .int n=>.int (n%p)|_=>.non,fun _=>rfl⟩;refine Oq (af:=[some (.int p)]) g rfl hrow (by rw[ja_];lia) (fun x hx R hR=>?_) (fun D hD=>?_)
  ·obtain⟨n,hn,rfl⟩:=jo_.mp hx;rw[hg]at hR;nofun;exact⟨hp,hR⟩
  ·have em:(row.map V.int).map g=(row.map fun x=>x%p).map V.int:=by
    rw[jJ_,jJ_];exact jD_ fun n _=>hg n
   rw[em];refine⟨D,rfl,_,.inl ⟨SqL.of Ab,fun q hq=>?_⟩⟩;have s0:=(Same.new hD (o:=.lst ((row.map fun x=>x%p).map V.int))).newT hq (o:=.tup ((row.map fun x=>x%p).map V.int));obtain⟨kvs,b1,b2,b3⟩:=hB.mono s0;refine⟨kvs,b1,fun o H2 kg hF=>?_⟩;have iH:FzAt d H H2:=(FzAt.of s0).trans hF;obtain⟨Pv,aj⟩:∃Pv:Nat->St->Hp->Prop,∀i af H',Pv i af H'↔(Same H2 H'/\∃(l:Addr) (o1 o2:Option V),SqT K H' l (((bs.take i).foldl (DL p) (row.map fun x=>x%p)).map V.int)/\af=[some (.int p),some (.ref d),some (.ref r),some (.ref l),o1,o2]):=⟨_,fun _ _ _=>j8_⟩;have ah:∀i:Nat,((bs.take i).foldl (DL p) (row.map fun x=>x%p)).length=row.length/\∀y∈(bs.take i).foldl (DL p) (row.map fun x=>x%p),0<=y/\y<p:=fun i=>⟨by
    have key:∀(bs:List (Nat×α2)) (l:α2),(∀x∈bs,x.2.length=l.length)->(bs.foldl (DL p) l).length=l.length:=fun bs=>by
     induction bs with
     |nil=>exact fun l _=>rfl
     |cons x bs ih=>
      intro l h;have e:(DL p l x).length=l.length:=(LN rfl (h x (jL_ ..)) 0).1;rw[xN_,ih _ (fun y hy=>by rw[e];exact h y (jA_ _ hy)),e]
    rw[key _ _ fun x hx=>by rw[ja_];exact (jt x (qi hx)).1,ja_],DM hp row (bs.take i)⟩
   refine Yp Pv ((aj _ _ _).mpr ⟨Same.refl _,q,none,none,by rw[xq_];exact hF.seqT (SqT.of Ab),rfl⟩) (fun i af H' _ h'=>((aj _ _ _).mp h').1 _ _ kg) (fun i key v tt af H' bz h' ju=>?_) (fun af H' h'=>?_)
   ·obtain⟨s1,lf,o1,o2,gR,rfl⟩:=(aj _ _ _).mp h';have gS:i<bs.length:=by rw[<-b2];exact (jd_.mp bz).1
    have nh:bs[i]?=some bs[i]:=by simp[gS]
    obtain⟨bt,hbt,aG⟩:=b3 i _ nh;rw[bz]at hbt;cases hbt;have cJ:bs[i]∈bs:=jy_ gS;have di:=jt _ cJ;obtain⟨ll,lin⟩:=ah i;have bI:(bs.take (i+1)).foldl (DL p) (row.map fun x=>x%p)=DL p ((bs.take i).foldl (DL p) (row.map fun x=>x%p)) bs[i]:=by
     rw[qE_ gS,j0_];rfl
    have hbase':SqT K H' bt (bs[i].2.map V.int):=s1.seqT (hF.seqT aG);generalize (bs.take i).foldl (DL p) (row.map fun x=>x%p)=left at ll lin gR bI;generalize bs[i]=x at di hbase' bI bz;obtain⟨pl,xb⟩:=x;have g:=getD_in hp lin pl;have s2:=Same.new ju (o:=.tup [kV (pj (pl:Int)),.ref bt]);have bg:pl<left.length:=by rw[ll];exact di.2
    nofun;refine⟨_,SqT.of Ab,rfl,_,_,rfl,_,_,rfl,rfl,?_⟩;refine⟨_,(pl:Int),rfl,s2.seqT gR,_,I0 bg,rfl,?_⟩;have cx:xb.length=row.length:=di.1;by_cases h0:left.getD pl 0=0
    ·rw[if_neg (by rw[h0];simp)];refine (aj _ _ _).mpr ⟨s1.trans s2,lf,_,_,?_,rfl⟩;rw[bI];unfold DL;rw[if_pos h0];exact s2.seqT gR
    ·rw[if_pos (by simp only[V.int.injEq,Bool.not_eq_eq_eq_not,Bool.not_true,decide_eq_false_iff_not];exact h0)];refine⟨_,(pl:Int),rfl,s2.seqT gR,_,I0 bg,_,rfl,p,-left.getD pl 0,true,bt,xb,rfl,hp,⟨by lia,by lia⟩,s2.seqT hbase',by lia,fun q1 H4 s4 cI=>⟨p,true,true,lf,q1,left,_,rfl,hp,(s2.trans s4).seqT gR,SqT.of cI,by rw[ja_];lia,by lia,fun q5 H5 s5 fH=>(aj _ _ _).mpr ⟨s1.trans (s2.trans (s4.trans s5)),q5,_,_,?_,rfl⟩⟩⟩;rw[bI];unfold DL;rw[if_neg h0];exact SqT.of fH
   ·obtain⟨s1,lf,o1,o2,gR,rfl⟩:=(aj _ _ _).mp h';rw[b2,jr_]at gR;nofun;exact k lf _ (iH.trans (FzAt.of s1)) gR
def Bs.nodup (h:Bs p n bs):(bs.map (·.1)).Nodup:=by
 refine xY_.mpr ((zD_.mp h.off).imp fun {x y} g e=>?_);obtain⟨hx,hy,g1,_⟩:=g;rw[<-e,h.own x hx]at g1;exact absurd g1 (by decide)
noncomputable def Ys (K:α3):Sp:=fun vs H Q _=>∃(p:Int) (d l:Addr) (q:Nat) (bs:List (Nat×α2)) (left:α2),vs=[.int p,.ref d,.ref l,.int q]/\Pr p/\BasD K H d bs/\SqT K H l (left.map V.int)/\q<left.length/\left.length<=900/\0<left.getD q 0/\left.getD q 0<p/\bs.length<=900/\(∀x∈bs,x.2.length=left.length/\x.1<left.length)/\(bs.map (·.1)).Nodup/\q∉bs.map (·.1)/\∀m inv H',FzAt d H H'->0<=inv->inv<p->inv*left.getD q 0%p=1->BasD K H' m (LQ p inv bs left q)->H m=none->Q (.ref m) H'
noncomputable def PutD (K:α3)(H:Hp)(d:Addr)(bs:List (Nat×α2)):Prop:=Ents K H d (bs.map fun x=>((x.1:Int),x.2))
def PutD.bas {K:α3} (h:PutD K H d bs):BasD K H d bs:=by
 obtain⟨kvs,h1,h2,h3⟩:=h;refine⟨kvs,.inl h1,by rw[h2,ja_],fun i x hx=>?_⟩;exact h3 i ((x.1:Int),x.2) (by rw[jf_,hx];rfl)
def PutD.fz {K:α3} (h:PutD K H d bs)(s:FzAt e H H')(aw:d≠e):PutD K H' d bs:=by
 obtain⟨kvs,h1,h2,h3⟩:=h;refine⟨kvs,s.1 _ _ aw h1,h2,fun i x hx=>?_⟩;obtain⟨t,a,b⟩:=h3 i x hx;exact⟨t,a,s.seqT b⟩
def PutD.put {K:α3}{H:Hp}{d t:Addr}{bs:List (Nat×α2)}{q:Nat}{v:α2}(h:PutD K H d bs)(hq:q∉bs.map (·.1))(hz:bs.length<1000)(ht:SqT K H t (v.map V.int)):∃H',DPut H d (.int q) (.ref t) H'/\(∃kvs kvs',H d=some (.dK kvs)/\H'=upd H d (.dK kvs'))/\PutD K H' d (bs++[(q,v)]):=by
 have:=Ents.put (g:=(q:Int)) (w:=v) h (fun hm=>hq (by
  rw[jJ_]at hm;obtain⟨x,hx,e⟩:=jo_.mp hm;exact jo_.mpr ⟨x,hx,by have:((x.1:Int))=(q:Int):=e;lia⟩)) (by rw[ja_];exact hz) ht
 obtain⟨H',a,b,c⟩:=this;exact⟨H',a,b,by unfold PutD;rw[jg_];exact c⟩
def PutD.nil {K:α3} (h:H d=some (.dK [])):PutD K H d []:=⟨[],h,rfl,fun i x hx=>by simp at hx⟩
def BasD.get {K:α3} (h:BasD K H d bs)(nod:(bs.map (·.1)).Nodup) (hx:x∈bs):∃t,DGet H d (.int x.1) (some (.ref t))/\SqT K H t (x.2.map V.int):=by
 obtain⟨kvs,h1,h2,h3⟩:=h;obtain⟨i,hi,ei⟩:=qS_ hx;have ei':bs[i]?=some x:=by rw[jb_ hi,ei]
 obtain⟨t,a,b⟩:=h3 i _ ei';refine⟨t,?_,b⟩;have hf:valV kvs (pj (x.1:Int):Key)=some (.ref t):=by
  unfold valV;cases hq:kvs.find? (fun kv=>decide (kv.1=(pj (x.1:Int):Key))) with
  |none=>
   rw[z5_]at hq;have:=hq _ (jj_ a);simp at this
  |some kv=>
   have hk:=pZ hq;simp only[j5_]at hk;obtain⟨j,hj,ej⟩:=qS_ (x4_ hq);have lx:j<bs.length:=by lia
   obtain⟨t',a',b'⟩:=h3 j bs[j] (by simp[lx]);have e2:kvs[j]?=some kv:=by rw[jb_ hj,ej]
   rw[e2]at a';have a2:kv=(pj (bs[j].1:Int),V.ref t'):=jC_ a';rw[a2]at hk;have eS:bs[j].1=x.1:=by injection hk with hk;lia
   have ij:i=j:=by
    refine (pH (h₀:=by simpa using hi) (h₁:=by simpa using lx) nod).mp ?_;simp[ei,eS]
   subst ij;rw[e2]at a;have a3:kv=(pj (x.1:Int),V.ref t):=jC_ a;rw[a3];rfl
 exact .inl ⟨kvs,pj (x.1:Int),h1,rfl,hf.symm⟩
def SqT.offm {K:α3} (h:SqT K H t xs)(hm:H m=some (.dK kv))(s:∀a u,a≠m->H a=some u->H' a=some u):SqT K H' t xs:=by
 rcases h with (q|⟨o,q⟩)|q
 ·exact .inl (.inl (s _ _ (fun z=>by rw[z,hm]at q;cases q) q))
 ·exact .inl (.inr ⟨o,s _ _ (fun z=>by rw[z,hm]at q;cases q) q⟩)
 ·exact .inr q
def BasD.offm {K:α3} (h:BasD K H d bs)(hm:H m=some (.dK kv))(hd:d≠m)(s:∀a u,a≠m->H a=some u->H' a=some u):BasD K H' d bs:=by
 obtain⟨kvs,h1,h2,h3⟩:=h;refine⟨kvs,?_,h2,fun i x hx=>?_⟩
 ·rcases h1 with h1|⟨o,h1⟩
  ·exact .inl (s _ _ hd h1)
  ·exact .inr ⟨o,s _ _ hd h1⟩
 ·obtain⟨t,a,b⟩:=h3 i x hx;exact⟨t,a,SqT.offm b hm s⟩
def HX:⋯ EE.j11 3 ["p","bases","left","place"] (Ys K):=by
 delta EE.j11 CV
 ·obtain⟨p,d,l,q,bs,left,rfl,_⟩:=h;rfl
 ·obtain⟨p,d,l,q,bs,left,rfl,hp,hB,hL,hq,hz,h0,h1,hbz,jt,nod,dU,k⟩:=h;have hl:=An;have aR:=hp.1;have bj:=hp.2.1;have em:left.getD q 0%p=left.getD q 0:=qa_ s!"" h1;refine⟨_,(Ad (Ak (i:=4) CV.nd (Ag (MV EE) hr.d Aw (Aa (pvD 0) (Aa (Ag (Pq EE) hr.d Aw (Aa (pvD 0) (Aa (Aj (ixTD Ao) (pvD 2) (pvD 3)) Ac))) (Aa (pvD 2) Ac)))))
   (Ad (Ak (i:=5) CV.nd Lg)
   (Ad (A3 jN_ rfl (SV (pvD 1)) (Al (i:=6) CV.nd rfl (oY rfl))
   (Af (Ds (Hb hr) (pvD 5) (pvD 6) (Ag (E7 EE) hr.d Aw (Aa (pvD 0) (Aa (SD (pvD 3) (pvD 4)) (Aa (Qz (Hb hr) (pvD 1) (pvD 6) (fun _ _=>rfl)) Ac)))) rfl)))
   (Ad (Ds (Hb hr) (pvD 5) (pvD 3) (pvD 4) rfl)
   (Af (Ap (pvD 5))))))),?_⟩
  nofun;refine⟨_,hL,_,I0 hq,p,_,rfl,aR,bj,by rw[em];lia,by rw[em];exact hp.gcd h0 h1,fun inv i0 i1 cm=>?_⟩;nofun;refine⟨p,inv,true,l,left,rfl,by lia,⟨by lia,by lia⟩,hL,hz,fun b H1 s1 hb=>?_⟩;nofun;intro m hm;obtain⟨base,aG⟩:∃base:α2,base=left.map fun y=>inv*y%p:=⟨_,rfl⟩;rw[<-aG]at hb;have iI:H m=none:=by
   cases e:H m with
   |none=>rfl
   |some u=>rw[s1 _ _ e]at hm;cases hm
  have s2:=s1.trans (Same.new hm (o:=.dK []));obtain⟨kvs,b1,b2,b3⟩:=hB.mono s2;refine⟨kvs,b1,fun o H3 kg hF=>?_⟩;have jv:d≠m:=fun z=>by
   subst z;obtain⟨kvs0,c1,_⟩:=hB;rcases c1 with c1|⟨o',c1⟩
   ·rw[iI]at c1;cases c1
   ·rw[iI]at c1;cases c1
  have hb3:H3 b=some (.tup (base.map V.int)):=by
   have:upd H1 m (.dK []) b=some (.tup (base.map V.int)):=(Same.new hm) _ _ hb;exact (hF.1 b _ (fun z=>by
    subst z;rcases b1 with c1|⟨o',c1⟩
    ·rw[this]at c1;cases c1
    ·rw[this]at c1;cases c1) this)
  have lC:H3 m=some (.dK []):=hF.1 m _ (q3_ jv) Ab;have hB3:BasD K H3 d bs:=BasD.fz ⟨kvs,b1,b2,b3⟩ hF;have hqn':q<left.length:=hq;obtain⟨Pv,aj⟩:∃Pv:Nat->St->Hp->Prop,∀i af H',Pv i af H'↔((∀a u,a≠m->H3 a=some u->H' a=some u)/\PutD K H' m ((bs.take i).map fun x=>(x.1,Az p [(q,base)] x.2))/\∃o1,af=[some (.int p),some (.ref d),some (.ref l),some (.int q),some (.ref b),some (.ref m),o1]):=⟨_,fun _ _ _=>j8_⟩;have hbaseLen:base.length=left.length:=by rw[aG,ja_]
  refine Yo Pv ((aj _ _ _).mpr ⟨fun a u _ h=>h,PutD.nil lC,none,rfl⟩) (fun i af H' _ h'=>((aj _ _ _).mp h').1 d _ jv kg) (fun i key v af H' bz h'=>?_) (fun af H' h'=>?_)
  ·obtain⟨s3,hP,o1,rfl⟩:=(aj _ _ _).mp h';have gS:i<bs.length:=by rw[<-b2];exact (jd_.mp bz).1
   have nh:bs[i]?=some bs[i]:=by simp[gS]
   obtain⟨t,ht,_⟩:=b3 i _ nh;rw[bz]at ht;cases ht;have cJ:bs[i]∈bs:=jy_ gS;have bI:bs.take (i+1)=bs.take i++[bs[i]]:=qE_ gS;have hnk:bs[i].1∉(bs.take i).map (·.1):=fun hm=>by
    rw[zP_]at hm;obtain⟨j,hj1,lD⟩:=List.mem_take_iff_getElem.mp hm;have:(bs.map (·.1))[j]'s!""=(bs.map (·.1))[i]'(by rw[ja_];exact gS):=by rw[lD];simp
    have:=(pH nod).mp this;lia
   have di:=jt _ cJ;generalize bs[i]=x at cJ bI hnk di bz;obtain⟨pl,xb⟩:=x;nofun;intro e he;have sE:=Same.new he (o:=.dK (Hz [] [((pj (q:Int):Key),V.ref b)]));have hB':=(hB3.offm lC jv s3).mono sE;have dv:=sE.seqT (SqT.offm (SqT.of (K:=K) hb3) lC s3);refine⟨Ab,[((pj (q:Int):Key),V.ref b)],rfl,Nat.le_of_ble_eq_true rfl,?_⟩;rw[U2];obtain⟨t',eO,hrow⟩:=hB'.get nod cJ;have aw:m≠e:=fun z=>by
    subst z;obtain⟨kk,h1,_⟩:=hP;rw[he]at h1;cases h1
   have cx:xb.length=left.length:=di.1;refine⟨_,eO,p,e,t',true,[(q,base)],xb,rfl,by lia,by lia,⟨_,.inl Ab,rfl,fun j x hx=>?_⟩,hrow,by lia,fun x hx=>?_,fun q1 H4 hF4 cI=>?_⟩
   ·have hj:j=0:=by
     have:=(jd_.mp hx).1;simp at this;lia
    subst hj;cases hx;exact⟨b,rfl,dv⟩
   ·rw[jn_.mp hx];exact⟨hbaseLen.trans cx.symm,by lia⟩
   ·have hP4:PutD K H4 m ((bs.take i).map fun x=>(x.1,Az p [(q,base)] x.2)):=(hP.fz (FzAt.of sE) aw).fz hF4 aw;obtain⟨H5,g1,⟨kv1,kv2,g2,rfl⟩,g3⟩:=hP4.put (q:=pl) (v:=Az p [(q,base)] xb) (t:=q1) (by rw[jJ_];exact hnk) (by rw[ja_,jz_];lia) cI;refine⟨_,g1,(aj _ _ _).mpr ⟨fun a u ha h=>?_,by rw[bI,jg_];exact g3,_,rfl⟩⟩;rw[Au ha];exact hF4.1 a u (fun z=>by have:=s3 a u ha h;rw[z,he]at this;cases this) (sE _ _ (s3 a u ha h))
  ·obtain⟨s3,hP,o1,rfl⟩:=(aj _ _ _).mp h';rw[b2,jr_]at hP;nofun;obtain⟨H5,g1,⟨kv1,kv2,g2,rfl⟩,g3⟩:=hP.put (q:=q) (v:=base) (t:=b) (by rw[jJ_];exact dU) (by rw[ja_];lia) (SqT.offm (SqT.of (K:=K) hb3) lC s3);refine⟨_,g1,k m inv _ ⟨fun a u ha h=>?_,fun u h=>?_⟩ i0 i1 cm (by
    have ew:LQ p inv bs left q=(bs.map fun x=>(x.1,Az p [(q,base)] x.2))++[(q,base)]:=by rw[aG];rfl
    rw[ew];exact g3.bas) iI⟩
   ·have iJ:a≠m:=fun z=>by rw[z,iI]at h;cases h
    rw[Au iJ];exact s3 a u iJ (hF.1 a u ha (s2 _ _ h))
   ·rw[Au jv];rcases hF.2 u (s2 _ _ h) with h' | ⟨kvs,o,e,h'⟩
    ·exact .inl (s3 _ _ jv h')
    ·exact .inr ⟨kvs,o,e,s3 _ _ jv h'⟩
noncomputable def natV (ks:List Nat):List V:=ks.map fun (k:Nat)=>V.int (k:Int)
noncomputable def XZ (K:α3):Sp:=fun vs H Q _=>∃(p:Int) (t:Bool) (a:Addr) (m n:Nat) (xs:List V) (ae:α1),vs=[.int p,.ref a,.int m]/\Pr p/\SqB K H t a xs/\AR K H xs ae/\(∀r∈ae,r.length=n)/\m<=n/\n<=900/\ae.length<=900/\∀q l d bs H',Same H H'->SqT K H' q [.ref l,.ref d]->H' l=some (.lst (natV (A6 p m ae)))->BasD K H' d bs->Seen p n m ae bs->H d=none->H l=none->Q (.ref q) H'
def BasD.offl {K:α3} (h:BasD K H d bs)(hp:H p=some (.lst zs)):BasD K (upd H p (.lst ys)) d bs:=by
 obtain⟨kvs,h1,h2,h3⟩:=h;refine⟨kvs,?_,h2,fun i x hx=>?_⟩
 ·rcases h1 with h1|⟨o,h1⟩
  ·exact .inl (by rw[Au (fun z=>by rw[z,hp]at h1;cases h1)];exact h1)
  ·exact .inr ⟨o,by rw[Au (fun z=>by rw[z,hp]at h1;cases h1)];exact h1⟩
 ·obtain⟨t,a,b⟩:=h3 i x hx;exact⟨t,a,Bq hp b⟩
def Same.gone (s:Same H H')(h:H' a=none):H a=none:=by
 cases e:H a with
 |none=>rfl
 |some u=>rw[s _ _ e]at h;cases h
def MW (p inv:Int)(bs:List (Nat×α2))(left:α2)(q:Nat):(LQ p inv bs left q).length=bs.length+1:=by unfold LQ;simp
def CN:⋯ EE.j12 4 ["p","rows","size"] (XZ K):=by
 delta EE.j12 AG
 ·obtain⟨p,t,a,m,n,xs,ae,rfl,_⟩:=h;rfl
 ·obtain⟨p,t,a,m,n,xs,ae,rfl,hp,ha,hR,aZ,gP,hn,hz,k⟩:=h;have hl:=An;have aR:=hp.1;have bj:=hp.2.1;refine⟨_,(Ad (Ak (i:=3) AG.nd (CU Ac))
   (Ad (Ak (i:=4) AG.nd Lg)
   (Ad (A3 jN_ rfl (XB (Ol rfl EE.enumerate (pvD 1)) (Lq rfl EE.enumerate (pvD 1))) (N4 rfl (BA (Al (i:=5) AG.nd rfl (oY rfl)) (BA (Al (i:=6) AG.nd rfl (oY rfl)) G9)))
   (Ad (Ak (i:=7) AG.nd (Ag (E7 EE) hr.d Aw (Aa (pvD 0) (Aa (pvD 4) (Aa (pvD 6) Ac)))))
   (Ad (Ak (i:=8) AG.nd (Ag (B5 EE) hr.d Aw (Aa (Bp El (pvD 7) BY (BZ (pvD 2))) Ac)))
   (Af (A5 (ptT (Ax Qh (pvD 8) Kr (AB _)))
   (Ad (Bx (Ka qh_ qb_ qc_ By (pvD 3) (Aa (pvD 5) Ac)))
   (Af (Ak (i:=4) AG.nd (Ag (HX EE) hr.d Aw (Aa (pvD 0) (Aa (pvD 4) (Aa (pvD 7) (Aa (pvD 8) Ac))))))))
   AE)))))
   (Af (Ap (AW (Aa (pvD 3) (Aa (pvD 4) Ac)))))))),?_⟩
  nofun;refine⟨qs_ _,fun l dy d0 iK=>?_⟩;have s0:=(Same.new dy (o:=.lst [])).newT iK (o:=.dK []);have iL:H d0=none:=by
   cases e:H d0 with
   |none=>rfl
   |some u=>rw[(Same.new dy (o:=.lst [])) _ _ e]at iK;cases iK
  have aw:l≠d0:=fun z=>by subst z;rw[Ab]at iK;cases iK
  obtain⟨Pv,aj⟩:∃Pv:Nat->St->Hp->Prop,∀i af H',Pv i af H'↔(Same H H'/\H' l=some (.lst (natV (A6 p m (ae.take i))))/\∃(d:Addr) (bs:List (Nat×α2)) (o1 o2 o3 o4:Option V),H d=none/\BasD K H' d bs/\Seen p n m (ae.take i) bs/\bs.length<=i/\af=[some (.int p),some (.ref a),some (.int m),some (.ref l),some (.ref d),o1,o2,o3,o4]):=⟨_,fun _ _ _=>j8_⟩;refine forE (ha.mono s0) Pv ((aj _ _ _).mpr ⟨s0,by rw[Au aw,Ab];rfl,d0,[],none,none,none,none,iL,PutD.bas (PutD.nil Ab),⟨⟨by simp,by simp,.nil⟩,by simp,by simp,by simp⟩,jh_ _,rfl⟩) (fun i af H' _ h'=>ha.mono ((aj _ _ _).mp h').1) (fun i v af H' q hv h' hq=>?_) (fun af H' h'=>?_)
  ·obtain⟨s1,eo,d,bs,o1,o2,o3,o4,hd,hB,hS,hbz,rfl⟩:=(aj _ _ _).mp h';have hi:i<ae.length:=by rw[<-hR.1];exact (jd_.mp hv).1
   have ni:ae[i]?=some ae[i]:=by simp[hi]
   obtain⟨tr,ht,hrow⟩:=hR.2 i _ ni;rw[hv]at ht;cases ht;have ar:=aZ _ (jy_ hi);have bI:ae.take (i+1)=ae.take i++[ae[i]]:=(qE_ hi);generalize ae[i]=row at hrow ar bI;nofun;have s2:=Same.new hq (o:=.tup [.int i,.ref tr]);refine⟨_,SqT.of Ab,rfl,_,_,rfl,_,_,rfl,rfl,p,d,tr,true,bs,row,rfl,by lia,by lia,hB.mono s2,s2.seqT (s1.seqT hrow),by lia,fun x hx=>by rw[ar];exact⟨(hS.b.len x hx).1,(hS.b.len x hx).2.1⟩,fun q1 H3 cy cI=>⟨q1,rfl,_,cI,fun p1 H4 s4 eV=>?_⟩⟩;rw[KO,<-zP_]at eV;have aW:=hS.iff s!"" gP ar;have eX:=(BP row ar bs hS.b).1;have eY:=DM (p:=p) s!"" row bs;have b8:=LP (p:=p) s!"" ar hS.b;have cK:=fun (inv:Int) (qq:Nat) (h1:qq<m) (h2:inv*(Az p bs row).getD qq 0%p=1)=>hS.more (inv:=inv) aR gP ar h1 h2;have cL:=hS.same ar;generalize Az p bs row=left at cI eV aW eX eY b8 cK cL;have dG:∀qq:Nat,qq<m->(left.take m).getD qq 0=left.getD qq 0:=fun qq nk=>by
    rw[jc_,xa_,if_pos nk,<-jc_]
   have ao:(left.take m).length=m:=by rw[jz_];lia
   have lE:=cy.lst (s2 _ _ eo);have gn:(ae.take i).length=i:=by rw[jz_];lia
   have aY:(A6 p m (ae.take i)).length<=i:=by
    unfold A6;refine jY_ (zF_ _ _) ?_;rw[jI_,gn];exact jh_ _
   refine⟨p1,left.take m,rfl,eV,by lia,fun qn H5 s5 dU dP=>?_,fun H5 s5 aB=>?_⟩
   ·rw[ao]at dU;rw[dG qn dU]at dP;rw[if_pos (by simp)];have fI:=s5 _ _ (s4 _ _ lE);have g:=getD_in (show 0<p by lia) eY qn;have bx:¬ Span p m (ae.take i) fun j=>row.getD j 0:=fun z=>dP (aW.mpr z qn dU);have lF:=((hB.mono s2).fz cy).mono (s4.trans s5);have hS5:Same H H5:=(cy.same (s1.trans s2) hd).trans (s4.trans s5);have aw:d≠l:=fun z=>by
     obtain⟨kk,c1,_⟩:=hB;rcases c1 with c1|⟨o,c1⟩
     ·rw[z,eo]at c1;cases c1
     ·rw[z,eo]at c1;cases c1
    refine⟨.inl ⟨rfl,_,SqL.of fI⟩,_,fI,by unfold natV;rw[ja_];lia,p,d,q1,qn,bs,left,rfl,hp,lF.offl fI,Bq fI ((s4.trans s5).seqT cI),by lia,by lia,by lia,g.2,by lia,fun x hx=>by rw[eX];exact⟨(hS.b.len x hx).1,(hS.b.len x hx).2.1⟩,hS.b.nodup,fun hm=>?_,fun m' inv H7 gT i0 i1 cm nq hm7=>?_⟩
    ·obtain⟨x,hx,e⟩:=jo_.mp hm;exact dP (by rw[<-e];exact b8 x hx)
    ·have kh:Same H (upd H5 l (.lst (natV (A6 p m (ae.take i))++[V.int i]))):=hS5.over dy;refine (aj _ _ _).mpr ⟨gT.same kh hd,?_,m',_,_,_,_,_,Mine.Same.gone kh hm7,nq,by rw[bI];exact cK inv qn dU cm,by rw[MW];lia,rfl⟩;rw[gT.lst Ab,bI,DO,if_neg bx,gn];unfold natV;rw[jg_];rfl
   ·show if (!decide (V.non=V.non))=true then _ else _
    rw[if_neg (by simp)];have iM:∀j:Nat,j<m->left.getD j 0=0:=fun j hj=>by rw[<-dG j hj];exact aB j s!""
    have bx:=aW.mp iM;refine (aj _ _ _).mpr ⟨(cy.same (s1.trans s2) hd).trans (s4.trans s5),?_,d,bs,_,_,_,_,hd,((hB.mono s2).fz cy).mono (s4.trans s5),by rw[bI];exact cL iM,by lia,rfl⟩;rw[s5 _ _ (s4 _ _ lE),bI,DO,if_pos bx,xu_]
  ·obtain⟨s1,eo,d,bs,o1,o2,o3,o4,hd,hB,hS,hbz,rfl⟩:=(aj _ _ _).mp h';rw[hR.1,jr_]at eo hS;nofun;refine⟨by lia,fun q hq=>?_⟩;have s2:=Same.new hq (o:=.tup [.ref l,.ref d]);exact k q l d bs _ (s1.trans s2) (SqT.of Ab) (s2 _ _ eo) (hB.mono s2) hS hd dy
noncomputable def VS (K:α3):Sp:=fun vs H Q _=>∃(n:Nat) (k:Nat),vs=[.int n,.int k]/\n<=900/\∀q H',Same H H'->H' q=some (.tup ((AQ n k).map V.int))->Q (.ref q) H'
def JN:⋯ EE.j17 1 ["size","place"] (VS K):=by
 delta EE.j17 VM
 ·obtain⟨n,k,rfl,_⟩:=h;rfl
 ·obtain⟨n,c,rfl,hn,k⟩:=h;have hl:=An;refine⟨_,(Af (Ap (Ar Av rfl EE.tuple jw_ (Aa (AA rfl (Ay rfl) (cp:=OA) ⟨⟨rfl,rfl⟩,oX⟩ (AF rfl EE.range (Aa (pvD 0) Ac)) (fun _ _ _ _=>(Al (i:=0) NN rfl (oY rfl))) (fun _ _ _ _=>AJ) (fun _ _ _ _=>(N2 (ptT (Ax (opE FH) (pvD 0) (pvD 1) (AB _))) Ae Ae))) Ac)))),?_⟩;nofun;refine⟨by lia,by lia,?_⟩;rw[jU_];refine Hd (fun j zs ax H4=>H4=H/\zs=(((oW j).map fun i=>if i=c then (1:Int) else 0)).map V.int/\∃o,ax=[o,some (.int c)]) ⟨rfl,rfl,none,rfl⟩ s!"" (fun j zs ax H4 _ h4=>?_) (fun j zs ax H4 hj h4=>?_) (fun zs ax H4 h4 D hD=>?_)
  ·rw[h4.2.1,ja_,ja_,jI_];exact jh_ _
  ·obtain⟨rfl,rfl,o,rfl⟩:=h4;rw[qf_];nofun;rw[j4_,jg_,jg_];by_cases nr:j=c
   ·rw[if_pos (by rw[nr])];exact⟨by rw[xb_,if_pos nr];rfl,_,rfl⟩
   ·rw[if_neg s!""];exact⟨by rw[xb_,if_neg nr];rfl,_,rfl⟩
  ·obtain⟨rfl,rfl,o,rfl⟩:=h4;exact⟨D,rfl,_,.inl ⟨SqL.of Ab,fun q hq=>k q _ ((Same.new hD).newT hq) Ab⟩⟩
def PD (d:Nat)(v:V):(oU d [v]).flatten=oU d v:=by
 induction d with
 |zero=>rfl
 |succ d ih=>rw[qR_,xW_,ih,qR_];rfl
noncomputable def ToldF (H:Hp)(p:Int)(m:Nat)(ae:α1)(bs:List (Nat×α2))(zs:List V)(ak:α1):Prop:=zs.length=ak.length/\∀(i:Nat) (r:α2),ak[i]?=some r->(Span p m ae (fun j=>r.getD j 0)/\∃c,zs[i]?=some (.ref c)/\H c=some (.lst ((((Az p bs (r++oU ae.length 0)).drop m).map fun y => -y%p).map V.int)))\/(¬ Span p m ae (fun j=>r.getD j 0)/\zs[i]?=some .non)
noncomputable def Yt (K:α3):Sp:=fun vs H Q _=>∃(p:Int) (t:Bool) (a b:Addr) (m:Nat) (xs ys:List V) (ae ak:α1),vs=[.int p,.ref a,.ref b,.int m]/\Pr p/\SqB K H t a xs/\AR K H xs ae/\(∀r∈ae,r.length=m)/\SqL K H b ys/\AR K H ys ak/\(∀r∈ak,r.length=m)/\m<=400/\ae.length<=400/\ak.length<=900/\∀l zs bs H',Same H H'->H l=none->H' l=some (.lst zs)->Seen p (m+ae.length) m (AV ae) bs->ToldF H' p m ae bs zs ak->Q (.ref l) H'
def ToldF.keep (h:ToldF H p m ae bs zs ak)(k:∀c ys,(∃j:Nat,zs[j]?=some (V.ref c))->H c=some (.lst ys)->H' c=some (.lst ys)):ToldF H' p m ae bs zs ak:=by
 refine⟨h.1,fun i r hi=>?_⟩;rcases h.2 i r hi with ⟨a,c,e1,e2⟩|h'
 ·exact .inl ⟨a,c,e1,k c _ ⟨i,e1⟩ e2⟩
 ·exact .inr h'
def ToldF.snoc (h:ToldF H p m ae bs zs ak)(g:(Span p m ae (fun j=>r.getD j 0)/\∃c,z=.ref c/\H c=some (.lst ((((Az p bs (r++oU ae.length 0)).drop m).map fun y => -y%p).map V.int)))\/(¬ Span p m ae (fun j=>r.getD j 0)/\z=.non)):ToldF H p m ae bs (zs++[z]) (ak++[r]):=by
 refine⟨by simp[h.1],fun i v hi=>?_⟩;by_cases hl:i<ak.length
 ·rw[jm_ hl]at hi;rw[jm_ (by rw[h.1];exact hl)];exact h.2 i v hi
 ·have:=(jd_.mp hi).1;rw[ji_,jG_]at this;have e:i=ak.length:=by lia
  subst e;rw[jp_ (jh_ _),qq_]at hi;simp at hi;subst hi;have ez:(zs++[z])[ak.length]?=some z:=by rw[<-h.1];simp
  rw[ez];rcases g with ⟨a,c,e1,e2⟩|⟨a,e1⟩
  ·exact .inl ⟨a,c,by rw[e1],e2⟩
  ·exact .inr ⟨a,by rw[e1]⟩
def OB {zs:List V}{z v:V}{j:Nat}(h:(zs++[z])[j]?=some v):zs[j]?=some v\/z=v:=by
 by_cases hl:j<zs.length
 ·rw[jm_ hl]at h;exact .inl h
 ·rw[jp_ s!""]at h;have:=(jd_.mp h).1;simp at this;have e:j-zs.length=0:=by lia
  rw[e]at h;exact .inr (by simpa using h)
def Bh:⋯ EE.j18 5 ["p","rows","some","size"] (Yt K):=by
 delta EE.j18 AK
 ·obtain⟨p,t,a,b,m,xs,ys,ae,ak,rfl,_⟩:=h;rfl
 ·obtain⟨p,t,a,b,m,xs,ys,ae,ak,rfl,hp,ha,hR,aZ,hb,hY,hsn,hm,hz,hsz,k⟩:=h;have hl:=An;have aR:=hp.1;have bj:=hp.2.1;refine⟨_,(Ad (BS (i:=4) AK.nd rfl (ph rfl) (Am (lenD Ai) (by rfl) EE.len jF_ (Aa (pvD 1) Ac)))
   (Ad (BJ (i:=5) AK.nd rfl rfl rfl (Ay rfl) (cp:=CJ) ⟨⟨rfl,rfl⟩,oX⟩ (XB (Ol rfl EE.enumerate (pvD 1)) (Lq rfl EE.enumerate (pvD 1))) (fun _ _ _ _=>(ND (K:=K) (n:=2) rfl rfl (BA (Al (i:=0) BV rfl (oY rfl)) (BA (Al (i:=1) BV rfl (oY rfl)) G9)))) (fun _ _ _ _=>AJ) (fun _ _ _ _=>(As (CD (K:=K) rfl) (Ar (Lv (K:=K) rfl) rfl EE.tuple jw_ (Aa (pvD 1) Ac)) (Ag (JN EE) hr.d Aw (Aa (pvD 2) (Aa (pvD 0) Ac))))))
   (Ad (Ak (i:=6) AK.nd (Aj (ixTD Ao) (Ag (CN EE) hr.d Aw (Aa (pvD 0) (Aa (pvD 5) (Aa (pvD 3) Ac)))) Ae))
   (Ad (Ak (i:=7) AK.nd (CU Ac))
   (Ad (A3 jN_ rfl (Ba (pvD 2)) (Al (i:=8) AK.nd rfl (oY rfl))
   (Ad (Ak (i:=9) AK.nd (Ag (E7 EE) hr.d Aw (Aa (pvD 0) (Aa (pvD 6) (Aa (As AX (Ar HJ rfl EE.tuple jw_ (Aa (pvD 8) Ac)) (As Nx (AW (Aa Ae Ac)) (pvD 4))) Ac)))))
   (Ad (Ak (i:=10) AK.nd (Jh WE (Ag (B5 EE) hr.d Aw (Aa (Bp El (pvD 9) BY (BZ (pvD 3))) Ac)) Kr (AB _)))
   (Af (Bx (Ka qh_ qb_ qc_ By (pvD 7) (Aa (N2 (ptB (BH (pvD 10))) (AA rfl (Ay rfl) (cp:=CK) ⟨⟨rfl,rfl⟩,oX⟩ (Cc (Bp El (pvD 9) (BZ (pvD 3)) BY)) (fun _ _ _ _=>(Al (i:=0) Eb rfl (oY rfl))) (fun _ _ _ _=>AJ) (fun _ _ _ _=>(As (opD AS) (OT Kv (pvD 0)) (pvD 1)))) Kr) Ac)))))))
   (Af (Ap (pvD 7)))))))),?_⟩
  nofun;refine⟨xs,(by cases t;exact .inl ha;exact .inr ha),?_⟩;rw[hR.1];have iN:(AV ae).length=ae.length:=by unfold AV;simp
  obtain⟨Pc,aL⟩:∃Pc:Nat->List V->St->Hp->Prop,∀j zs ax H4,Pc j zs ax H4↔(Same H H4/\AR K H4 zs ((AV ae).take j)/\∃o1 o2,ax=[o1,o2,some (.int ae.length)]):=⟨_,fun _ _ _ _=>j8_⟩;refine Yq ha Pc ((aL _ _ _ _).mpr ⟨Same.refl _,by rw[xq_];exact AR.nil,none,none,rfl⟩) (by rw[hR.1];lia) (fun j zs ax H4 hj h4=>?_) (fun j v zs ax H4 q hv h4 hq=>?_) (fun zs ax H4 h4 D hD=>?_)
  ·obtain⟨s4,eZ,_⟩:=(aL _ _ _ _).mp h4;exact⟨ha.mono s4,by rw[eZ.1,jz_];lia⟩
  ·obtain⟨s4,eZ,o1,o2,rfl⟩:=(aL _ _ _ _).mp h4;have hi:j<ae.length:=by rw[<-hR.1];exact (jd_.mp hv).1
   obtain⟨tr,ht,hrow⟩:=hR.2 j ae[j] (by simp[hi]);rw[hv]at ht;cases ht;have s5:=Same.new hq (o:=.tup [.int j,.ref tr]);have bI:(AV ae).take (j+1)=(AV ae).take j++[ae[j]++AQ ae.length j]:=by
    rw[qE_ (iN ▸ hi)]
    congr 2
    unfold AV;rw[xH_,qF,jc_,jb_ hi];rfl
   have ar:=aZ _ (jy_ hi);generalize ae[j]=row at hrow bI ar;nofun;refine⟨_,SqT.of Ab,rfl,_,_,rfl,_,_,rfl,rfl,tr,rfl,_,.inr ⟨s5.seqT (s4.seqT hrow),ae.length,j,rfl,by lia,fun q6 H6 s6 eB=>?_⟩⟩;refine A0.of (s6.seqT (s5.seqT (s4.seqT hrow))) (SqT.of eB) (by unfold AQ;simp;lia) fun q7 H7 s7 nu=>?_;refine (aL _ _ _ _).mpr ⟨s4.trans (s5.trans (s6.trans s7)),?_,_,_,rfl⟩;rw[bI];exact (eZ.mono (s5.trans (s6.trans s7))).snoc (by rw[jg_];exact nu)
  ·obtain⟨s4,eZ,o1,o2,rfl⟩:=(aL _ _ _ _).mp h4;rw[hR.1,<-iN,jr_]at eZ;nofun;have sD:=Same.new hD (o:=.lst zs);refine⟨p,false,D,m,m+ae.length,zs,AV ae,rfl,hp,SqL.of Ab,eZ.mono sD,KR aZ,by lia,by lia,by lia,fun q6 l6 d bs H6 s6 eB _ hB S iK _=>⟨q6,rfl,_,eB,.ref d,rfl,qs_ _,fun l dy=>?_⟩⟩;have nv:Same H H6:=(s4.trans sD).trans s6;have s7:=Same.new dy (o:=.lst []);have iL:H d=none:=Mine.Same.gone (s4.trans sD) iK;have fb:H l=none:=Mine.Same.gone nv dy;refine⟨⟨_,(nv.trans s7).seq hb⟩,?_⟩;obtain⟨Pv,aj⟩:∃Pv:Nat->St->Hp->Prop,∀i af H',Pv i af H'↔(Same H H'/\BasD K H' d bs/\∃(us:List V) (o1 o2 o3:Option V),H' l=some (.lst us)/\ToldF H' p m ae bs us (ak.take i)/\(∀(j:Nat) (c:Addr),us[j]?=some (.ref c)->c≠l)/\af=[some (.int p),some (.ref a),some (.ref b),some (.int m),some (.int ae.length),some (.ref D),some (.ref d),some (.ref l),o1,o2,o3]):=⟨_,fun _ _ _=>j8_⟩;refine forL Pv ((aj _ _ _).mpr ⟨nv.trans s7,hB.mono s7,[],none,none,none,Ab,⟨rfl,fun i r hi=>by simp at hi⟩,by simp,rfl⟩) (fun i af H' _ h'=>((aj _ _ _).mp h').1.seq hb) (fun i v af H' hv h'=>?_) (fun af H' h'=>?_)
   ·obtain⟨s8,lG,us,o1,o2,o3,hu,hT,aw,rfl⟩:=(aj _ _ _).mp h';have hi:i<ak.length:=by rw[<-hY.1];exact (jd_.mp hv).1
    obtain⟨tr,ht,hrow⟩:=hY.2 i ak[i] (by simp[hi]);rw[hv]at ht;cases ht;have ar:=hsn _ (jy_ hi);have bI:ak.take (i+1)=ak.take i++[ak[i]]:=qE_ hi;generalize ak[i]=row at hrow ar bI;nofun;have etl:(ak.take i).length=i:=by rw[jz_];lia
    refine⟨_,.inr ⟨s8.seqT hrow,by lia,fun p1 eV=>?_⟩⟩;have sA:=Same.new eV (o:=.tup [V.int 0]);refine Mu.of (SqT.of Ab) (by simp) s!"" s!"" (by simp;lia) fun pt H2 s2 ht=>?_;rw[jU_,PD]at ht;refine A0.of ((s8.trans (sA.trans s2)).seqT hrow) ht (by simp;lia) fun q5 H5 s5 fH=>?_;have sB:=sA.trans (s2.trans s5);have erow:(row++oU ae.length 0).map V.int=row.map V.int++oU ae.length (V.int 0):=by rw[jg_,List.map_replicate]
    rw[<-erow]at fH;have hr0:(row++oU ae.length (0:Int)).length=m+ae.length:=by simp[ar]
    have eX:=(BP (row++oU ae.length 0) hr0 bs S.b).1;have aW:=RC (show 0<p by lia) aZ S ar;refine⟨p,d,q5,true,bs,row++oU ae.length 0,rfl,by lia,by lia,lG.mono sB,fH,by lia,fun x hx=>by rw[hr0];exact⟨(S.b.len x hx).1,(S.b.len x hx).2.1⟩,fun q6 H6 jw eB=>⟨q6,rfl,_,eB,fun p7 H7 s7 ny=>?_⟩⟩;rw[KO,<-zP_]at ny;have ao:((Az p bs (row++oU ae.length 0)).take m).length=m:=by rw[jz_];lia
    have dG:∀qq:Nat,qq<m->((Az p bs (row++oU ae.length 0)).take m).getD qq 0=(Az p bs (row++oU ae.length 0)).getD qq 0:=fun qq nk=>by
     rw[jc_,xa_,if_pos nk,<-jc_]
    generalize dz:Az p bs (row++oU ae.length 0)=left at eB ny eX aW ao dG;have hu6:=jw.lst (sB _ _ hu);have kh:Same H H6:=jw.same (s8.trans sB) iL;refine⟨p7,left.take m,rfl,ny,by lia,fun qn H9 s9 dU dP=>?_,fun H9 s9 aB=>?_⟩
    ·rw[ao]at dU;rw[dG qn dU]at dP;have hu9:=s9 _ _ (s7 _ _ hu6);refine⟨.inl ⟨rfl,_,SqL.of hu9⟩,?_⟩;show if V.int qn=V.non then _ else _
     rw[if_neg (by simp)];have hnsp:¬ Span p m ae fun j=>row.getD j 0:=fun z=>dP (aW.mpr z qn dU);refine⟨_,hu9,by rw[hT.1];lia,(aj _ _ _).mpr ⟨((kh.trans (s7.trans s9))).over fb,(((lG.mono sB).fz jw).mono (s7.trans s9)).offl hu9,us++[.non],_,_,_,Ab,?_,fun j c hj=>?_,rfl⟩⟩
     ·rw[bI];refine (hT.keep fun c ys hc h=>?_).snoc (.inr ⟨hnsp,rfl⟩);obtain⟨j,hj⟩:=hc;rw[Au (aw j c hj)];exact s9 _ _ (s7 _ _ (jw.lst (sB _ _ h)))
     ·rcases OB hj with hj|hj
      ·exact aw j c hj
      ·cases hj
    ·have iM:∀j:Nat,j<m->left.getD j 0=0:=fun j hj=>by rw[<-dG j hj];exact aB j s!""
     have bx:=aW.mp iM;have hu9:=s9 _ _ (s7 _ _ hu6);refine⟨.inl ⟨rfl,_,SqL.of hu9⟩,?_⟩;show if V.non=V.non then _ else _
     rw[if_pos rfl];refine⟨q6,rfl,_,(s7.trans s9).seqT eB,fun p8 nA cq nB=>⟨⟨_,nB⟩,?_⟩⟩;rw[Dj,<-sR]at nB;obtain⟨gg,hgg⟩:∃g:V->V,∀n:Int,g (V.int n)=.int (-n%p):=⟨fun x=>match x with | .int n=>.int (-n%p)|_=>.non,fun _=>rfl⟩;refine Lk (af:=[some (.int p)]) gg rfl nB (by rw[ja_,qw_];lia) (fun x hx R hR=>?_) (fun D2 bX=>?_)
     ·obtain⟨n,hn,rfl⟩:=jo_.mp hx;rw[hgg]at hR;nofun;exact⟨by lia,hR⟩
     ·have em:((left.drop m).map V.int).map gg=((left.drop m).map fun y => -y%p).map V.int:=by
       rw[jJ_,jJ_];exact jD_ fun n _=>hgg n
      rw[em];have sD2:=Same.new bX (o:=.lst (((left.drop m).map fun y => -y%p).map V.int));have hu10:=sD2 _ _ (cq _ _ hu9);have hDl:D2≠l:=fun z=>by rw[z,cq _ _ hu9]at bX;cases bX
      have sZ:=s7.trans (s9.trans (cq.trans sD2));refine⟨_,hu10,by rw[hT.1];lia,(aj _ _ _).mpr ⟨(kh.trans sZ).over fb,(((lG.mono sB).fz jw).mono sZ).offl hu10,us++[.ref D2],_,_,_,Ab,?_,fun j c hj=>?_,rfl⟩⟩
      ·rw[bI];refine (hT.keep fun c ys hc h=>?_).snoc (.inl ⟨bx,D2,rfl,?_⟩)
       ·obtain⟨j,hj⟩:=hc;rw[Au (aw j c hj)];exact sZ _ _ (jw.lst (sB _ _ h))
       ·rw[Au hDl,Ab,dz]
      ·rcases OB hj with hj|hj
       ·exact aw j c hj
       ·cases hj;exact hDl
   ·obtain⟨s8,lG,us,o1,o2,o3,hu,hT,aw,rfl⟩:=(aj _ _ _).mp h';rw[hY.1,jr_]at hT;nofun;exact k l us bs _ s8 fb hu S hT
noncomputable def Tabs (K:α3)(H:Hp)(tt:Addr)(tables:α0):Prop:=∃us:List Addr,SqT K H tt (us.map V.ref)/\us.length=tables.length/\∀(i:Nat) (u:Addr) (tb:α1),us[i]?=some u->tables[i]?=some tb->∃xs,SqT K H u xs/\AR K H xs tb
def Tabs.mono {K:α3} (h:Tabs K H tt tables)(s:Same H H'):Tabs K H' tt tables:=by
 obtain⟨us,a,b,c⟩:=h;refine⟨us,s.seqT a,b,fun i u tb h1 h2=>?_⟩;obtain⟨xs,d,e⟩:=c i u tb h1 h2;exact⟨xs,s.seqT d,e.mono s⟩
noncomputable def SumH (K:α3)(H:Hp)(h:Addr)(p:Int)(L:Int)(first:α2)(tables:α0)(last:α2):Prop:=∃tf tt tl:Addr,SqT K H h [.int p,.int L,.ref tf,.ref tt,.ref tl]/\SqT K H tf (first.map V.int)/\SqT K H tl (last.map V.int)/\Tabs K H tt tables
def SumH.mono {K:α3} (x:SumH K H h p L first tables last)(s:Same H H'):SumH K H' h p L first tables last:=by
 obtain⟨tf,tt,tl,a,b,c,d⟩:=x;exact⟨tf,tt,tl,s.seqT a,s.seqT b,s.seqT c,d.mono s⟩
structure WfSum (p L:Int)(d:Nat)(first:α2)(tables:α0)(last:α2):Prop where
 p2:2<=p
 p18:p<1000000000000000000
 dl:d<=16
 f:first.length=d/\∀x∈first,0<=x/\x<p
 l:last.length=d/\∀x∈last,0<=x/\x<p
 t:(tables.length:Int)=L
 tt:∀tb∈tables,tb.length=d/\∀r∈tb,r.length=d
noncomputable def Fd (p:Int)(d:Nat)(tables:α0)(row:α2)(x:Int):α2:=CM p (tables.getD x.toNat []) row d
noncomputable def rowS (p:Int)(d:Nat)(tables:α0)(first ws:α2):α2:=ws.foldl (Fd p d tables) first
def Td (hp:0<p) : ∀x∈CM p ae am n,0<=x/\x<p:=fun x hx=>by
 obtain⟨c,_,rfl⟩:=jo_.mp hx;exact⟨jS_ _ s!"",jM_ _ hp⟩
def RI (p:Int)(ae:α1)(am:α2)(n:Nat):(CM p ae am n).length=n:=by unfold CM;rw[ja_,jI_]
def WfSum.row (wf:WfSum p L d first tables last)(ws:α2):(rowS p d tables first ws).length=d/\∀x∈rowS p d tables first ws,0<=x/\x<p:=by
 have h2:=wf.p2;have key:∀(ws r:α2),(r.length=d/\∀x∈r,0<=x/\x<p)->((ws.foldl (Fd p d tables) r).length=d/\∀x∈ws.foldl (Fd p d tables) r,0<=x/\x<p):=fun ws=>by
  induction ws with
  |nil=>exact fun r h=>h
  |cons y ws ih=>exact fun r _=>ih _ ⟨RI _ _ _ _,Td s!""⟩
 exact key ws first wf.f
def MX {p:Int}{d:Nat}{tables:α0}{first ws:α2}{i:Nat}{x:Int}(h:ws[i]?=some x):rowS p d tables first (ws.take (i+1))=Fd p d tables (rowS p d tables first (ws.take i)) x:=by
 unfold rowS;rw[jB_,h,qM_,j0_];rfl
def WfSum.table (wf:WfSum p L d first tables last) (x0:0<=x)(x1:x<L):tables[x.toNat]?=some (tables.getD x.toNat [])/\(tables.getD x.toNat []).length=d/\∀r∈tables.getD x.toNat [],r.length=d:=by
 have hx:x.toNat<tables.length:=by have:=wf.t;lia
 have e:tables.getD x.toNat []=tables[x.toNat]:=by rw[jc_,jb_ hx];rfl
 rw[e];exact⟨by rw[jb_ hx],wf.tt _ (jy_ hx)⟩
def Tabs.at {K:α3}{H:Hp}{tt:Addr}{tables:α0}(h:Tabs K H tt tables){i:Nat}{tb:α1}(ht:tables[i]?=some tb):∃zs u xs,SqT K H tt zs/\atI zs (i:Int)=some (V.ref u)/\SqT K H u xs/\AR K H xs tb:=by
 obtain⟨us,a,b,c⟩:=h;have hi:i<us.length:=by rw[b];exact (jd_.mp ht).1
 have hu:us[i]?=some us[i]:=by simp[hi]
 obtain⟨xs,d,e⟩:=c i _ tb hu ht;exact⟨_,us[i],xs,a,FK (by rw[jf_,hu];rfl),d,e⟩
noncomputable def PH (K:α3):Sp:=fun vs H Q _=>∃(h r:Addr) (p L x:Int) (d:Nat) (first last row:α2) (tables:α0),vs=[.ref h,.ref r,.int x]/\SumH K H h p L first tables last/\WfSum p L d first tables last/\SqT K H r (row.map V.int)/\row.length=d/\(∀y∈row,0<=y/\y<p)/\0<=x/\x<L/\∀q H',Same H H'->H' q=some (.tup ((Fd p d tables row x).map V.int))->Q (.ref q) H'
def Hx:⋯ EE.j21 3 ["house","row","letter"] (PH K):=by
 delta EE.j21 Pj
 ·obtain⟨h,r,p,L,x,d,first,last,row,tables,rfl,_⟩:=h;rfl
 ·obtain⟨h,r,p,L,x,d,first,last,row,tables,rfl,hh,wf,gU,ar,ni,x0,x1,k⟩:=h;have h2:=wf.p2;have h18:=wf.p18;have hd:=wf.dl;refine⟨_,(Af (Ap (Ag (Px EE) hr.d Aw (Aa (Aj (ixTD Ao) (pvD 0) Ae) (Aa (Aj (ixTD Ao) (Aj (ixTD Ao) (pvD 0) Ae) (pvD 2)) (Aa (pvD 1) (Aa (Am (lenD Ai) (by rfl) EE.len jF_ (Aa (pvD 1) Ac)) Ac))))))),?_⟩;obtain⟨tf,tt,tl,e1,e2,e3,e4⟩:=id hh;obtain⟨t1,t2,t3⟩:=wf.table x0 x1;obtain⟨zs,u,xs,z1,z2,z3,z4⟩:=e4.at t1;rw[za_ x0]at z2;nofun;refine⟨_,e1,_,rfl,_,e1,_,rfl,?_⟩;nofun;exact⟨_,z1,_,z2,_,.inr gU,p,true,true,u,r,xs,tables.getD x.toNat [],row,d,by rw[ja_,ar],by lia,z3,z4,t3,gU,by rw[t2];exact ar,by lia,by lia,(fun y hy=>by have:=ni y hy;lia),fun q H' s' hq=>k q H' s' hq⟩
noncomputable def X0 (K:α3)(H:Hp)(xs:List V)(n:Nat)(f:Nat->α2):Prop:=xs.length=n+1/\∀i:Nat,i<=n->∃t,xs[i]?=some (.ref t)/\SqT K H t ((f i).map V.int)
noncomputable def LS (K:α3):Sp:=fun vs H Q _=>∃(h a:Addr) (p L:Int) (d:Nat) (first last ws:α2) (tables:α0),vs=[.ref h,.ref a]/\SumH K H h p L first tables last/\WfSum p L d first tables last/\SqT K H a (ws.map V.int)/\ws.length<=600/\isW L ws=true/\∀(q:Addr) (xs:List V) (H':Hp),Same H H'->H' q=some (.lst xs)->X0 K H' xs ws.length (fun i=>rowS p d tables first (ws.take i))->Q (.ref q) H'
def LU:⋯ EE.j22 4 ["house","word"] (LS K):=by
 delta EE.j22 DA
 ·obtain⟨h,a,p,L,d,first,last,ws,tables,rfl,_⟩:=h;rfl
 ·obtain⟨h,a,p,L,d,first,last,ws,tables,rfl,hh,wf,hw,hz,hv,k⟩:=h;have hl:=An;refine⟨_,(Ad (Bx (Ag (LL EE) hr.d Aw (Aa (Aj (ixTD Ao) (pvD 0) Ae) (Aa (pvD 1) Ac))))
   (Ad (Ak (i:=2) DA.nd (CU (Aa (Aj (ixTD Ao) (pvD 0) Ae) Ac)))
   (Ad (A3 jN_ rfl (Cc (pvD 1)) (Al (i:=3) DA.nd rfl (oY rfl))
   (Af (Bx (Ka qh_ qb_ qc_ By (pvD 2) (Aa (Ag (Hx EE) hr.d Aw (Aa (pvD 0) (Aa (Aj (ixLD BC) (pvD 2) (OT Kv Ae)) (Aa (pvD 3) Ac)))) Ac)))))
   (Af (Ap (pvD 2)))))),?_⟩
  obtain⟨tf,tt,tl,e1,e2,e3,e4⟩:=id hh;nofun;refine⟨_,e1,_,rfl,L,a,ws,rfl,hw,by lia,hv,fun H1 s1=>?_⟩;nofun;refine⟨_,s1.seqT e1,_,rfl,by lia,fun q hq=>?_⟩;have s0:=Same.new hq (o:=.lst [V.ref tf]);refine⟨⟨_,(s1.trans s0).seqT hw⟩,?_⟩;obtain⟨Pv,aj⟩:∃Pv:Nat->St->Hp->Prop,∀i af H',Pv i af H'↔(∃(xs:List V) (o:Option V),Same H1 H'/\H' q=some (.lst xs)/\X0 K H' xs i (fun i=>rowS p d tables first (ws.take i))/\af=[some (.ref h),some (.ref a),some (.ref q),o]):=⟨_,fun _ _ _=>j8_⟩;refine forT (xs:=ws.map V.int) Pv ((aj _ _ _).mpr ⟨[V.ref tf],none,s0,Ab,⟨rfl,fun i hi=>⟨tf,by rw[show i=0 by lia];rfl,by rw[show i=0 by lia];exact (s1.trans s0).seqT e2⟩⟩,rfl⟩) (fun i af H' _ h'=>by obtain⟨_,_,s',_⟩:=(aj _ _ _).mp h';exact (s1.trans s').seqT hw) (fun i x af H' hx h'=>?_) (fun af H' h'=>?_)
  ·obtain⟨xs,o,s2,aH,hA,rfl⟩:=(aj _ _ _).mp h';obtain⟨n,hn,rfl⟩:=IV hx;have hi:=(jd_.mp hn).1;have jx:=AM.mp hv n (jj_ hn);obtain⟨r1,r2⟩:=wf.row (ws.take i);obtain⟨t,gn,ht⟩:=hA.2 i (jh_ _);nofun;refine⟨.inl ⟨rfl,_,SqL.of aH⟩,_,SqL.of aH,_,QS (v:=V.ref t) (by rw[hA.1];exact gn),h,t,p,L,n,d,first,last,_,tables,rfl,hh.mono (s1.trans s2),wf,ht,r1,r2,jx.1,jx.2,fun q3 H3 s3 gV=>?_⟩;refine⟨_,s3 _ _ aH,by rw[hA.1];lia,(aj _ _ _).mpr ⟨xs++[V.ref q3],_,(s2.trans s3).over hq,Ab,⟨by simp[hA.1],fun j hj=>?_⟩,rfl⟩⟩;by_cases iO:j<=i
   ·obtain⟨u,lH,gb⟩:=hA.2 j iO;exact⟨u,by rw[jm_ (by rw[hA.1];lia)];exact lH,Bq (s3 _ _ aH) (s3.seqT gb)⟩
   ·have hj1:j=i+1:=by lia
    subst hj1;refine⟨q3,by rw[jp_ (by rw[hA.1];exact jh_ _),hA.1,qq_];rfl,?_⟩;show SqT K _ q3 ((rowS p d tables first (ws.take (i+1))).map V.int);rw[MX hn];exact Bq (s3 _ _ aH) (SqT.of gV)
  ·obtain⟨xs,o,s2,aH,hA,rfl⟩:=(aj _ _ _).mp h';rw[ja_]at hA;nofun;exact k q xs _ (s1.trans s2) aH hA
noncomputable def LV (K:α3):Sp:=fun vs H Q _=>∃(h a:Addr) (p L:Int) (d:Nat) (first last ws:α2) (tables:α0),vs=[.ref h,.ref a]/\SumH K H h p L first tables last/\WfSum p L d first tables last/\SqT K H a (ws.map V.int)/\ws.length<=600/\isW L ws=true/\∀(t:Addr) (H':Hp),Same H H'->SqT K H' t ((rowS p d tables first ws).map V.int)->Q (.ref t) H'
def LW:⋯ EE.j23 5 ["house","word"] (LV K):=by
 delta EE.j23 LA
 ·obtain⟨h,a,p,L,d,first,last,ws,tables,rfl,_⟩:=h;rfl
 ·obtain⟨h,a,p,L,d,first,last,ws,tables,rfl,hh,wf,hw,hz,hv,k⟩:=h;refine⟨_,(Af (Ap (Aj (ixLD BC) (Ag (LU EE) hr.d Aw (Aa (pvD 0) (Aa (pvD 1) Ac))) (OT Kv Ae)))),?_⟩;nofun;refine⟨h,a,p,L,d,first,last,ws,tables,rfl,hh,wf,hw,hz,hv,fun q xs H1 s1 hq hA=>?_⟩;obtain⟨t,gn,ht⟩:=hA.2 ws.length (jh_ _);have ht:SqT K H1 t ((rowS p d tables first (ws.take ws.length)).map V.int):=ht;rw[jr_]at ht;nofun;exact⟨_,SqL.of hq,_,QS (v:=V.ref t) (by rw[hA.1];exact gn),k t _ s1 ht⟩
noncomputable def Te (K:α3):Sp:=fun vs H Q _=>∃(h a:Addr) (p L:Int) (d:Nat) (first last ws:α2) (tables:α0),vs=[.ref h,.ref a]/\SumH K H h p L first tables last/\WfSum p L d first tables last/\SqT K H a (ws.map V.int)/\ws.length<=600/\isW L ws=true/\∀H',Same H H'->Q (.int (dotW last (rowS p d tables first ws)%p)) H'
def OC:⋯ EE.j24 6 ["house","word"] (Te K):=by
 delta EE.j24 S4
 ·obtain⟨h,a,p,L,d,first,last,ws,tables,rfl,_⟩:=h;rfl
 ·obtain⟨h,a,p,L,d,first,last,ws,tables,rfl,hh,wf,hw,hz,hv,k⟩:=h;have h2:=wf.p2;have h18:=wf.p18;have hd:=wf.dl;have ki:=wf.l;refine⟨_,(Af (Ap (Ag (KS EE) hr.d Aw (Aa (Aj (ixTD Ao) (pvD 0) Ae) (Aa (Aj (ixTD Ao) (pvD 0) Ae) (Aa (Ag (LW EE) hr.d Aw (Aa (pvD 0) (Aa (pvD 1) Ac))) Ac)))))),?_⟩;obtain⟨tf,tt,tl,e1,e2,e3,e4⟩:=id hh;obtain⟨r1,r2⟩:=wf.row ws;nofun;refine⟨_,e1,_,rfl,_,e1,_,rfl,h,a,p,L,d,first,last,ws,tables,rfl,hh,wf,hw,hz,hv,fun t H1 s1 ht=>?_⟩;nofun;exact⟨p,true,true,tl,t,last,_,rfl,by lia,s1.seqT e3,ht,by rw[r1];exact ki.1,by lia,(fun x hx=>by have:=ki.2 x hx;lia),fun H2 s2=>k _ (s1.trans s2)⟩
noncomputable def stepI (d:Nat)(tables:α0)(row:α2)(x:Int):α2:=(oW d).map fun c=>dotW row (colW (tables.getD x.toNat []) c)
noncomputable def rowI (d:Nat)(tables:α0)(first ws:α2):α2:=ws.foldl (stepI d tables) first
def Tf (ht:cgT p (t.getD x.toNat []) (t'.getD x.toNat []))(hr:cg p r r'):cg p (Fd p d t r x) (stepI d t' r' x):=by
 unfold Fd CM stepI;refine cg.map fun c _=>?_;rw[jR_ _ (qn_ p)];exact hr.dot (ht.col c)
def NS {p:Int}{d:Nat}{t t':α0}(ht:∀i:Nat,cgT p (t.getD i []) (t'.getD i [])):∀(ws:α2) {r r':α2},cg p r r'->cg p (rowS p d t r ws) (rowI d t' r' ws)
 |[],r,r',h=>h
 |x::ws,r,r',h=>NS ht ws (Tf (ht _) h)
def MY : (stepI d t r x).length=d:=by unfold stepI;simp
def OD {d:Nat}{t:α0}:∀(ws:α2) {r:α2},r.length=d->(rowI d t r ws).length=d
 |[],r,h=>h
 |x::ws,r,h=>OD ws MY
structure Dim (d:Nat)(tb:α1):Prop where
 n:tb.length=d
 r:∀r∈tb,r.length=d
noncomputable def Ci (d:Nat)(tb:α1):α1:=(oW d).map fun c=>colW tb c
def OE (h:Dim d tb)(hk:k<d):colW (Ci d tb) k=tb.getD k []:=by
 have cU:k<tb.length:=by rw[h.n];exact hk
 have e:tb.getD k []=tb[k]:=by rw[jc_,jb_ cU];rfl
 have hl:=h.r _ (jy_ cU);rw[e];unfold colW Ci;rw[jJ_];refine j2_ fun i=>?_;by_cases hi:i<d
 ·rw[jf_,jO_ hi,jb_ (show i<tb[k].length by lia)];show some ((colW tb i).getD k 0)=_
  congr 1
  unfold colW;rw[jc_,jf_,jb_ cU];show tb[k].getD i 0=_;rw[jc_,jb_ (show i<tb[k].length by lia)];rfl
 ·rw[jt_ (by simp;lia),jt_ s!""]
def RJ (hT:T.getD x.toNat []=Ci d (t.getD x.toNat []))(h:Dim d (t.getD x.toNat [])) (l1:row.length=d)(l2:col.length=d):dotW (stepI d t row x) col=dotW row (stepI d T col x):=by
 unfold stepI;rw[DK l2 _ row h.r (by rw[h.n];exact l1),hT]
 congr 1
 refine j2_ fun k=>?_;by_cases hk:k<d
 ·have cU:k<(t.getD x.toNat []).length:=by rw[h.n];exact hk
  rw[jf_,jf_,jO_ hk,jb_ cU];show some (dotW col (t.getD x.toNat [])[k])=some (dotW col (colW (Ci d (t.getD x.toNat [])) k));rw[OE h hk]
  congr 2
  rw[jc_ (l:=t.getD x.toNat []),jb_ cU];rfl
 ·rw[jt_ (by rw[ja_,h.n];lia),jt_ (by simp;lia)]
def OF {L d:Nat}{T t:α0}(hT:∀i:Nat,i<L->T.getD i []=Ci d (t.getD i []))(h:∀i:Nat,i<L->Dim d (t.getD i [])):∀(ws:α2) {row col:α2},(∀x∈ws,0<=x/\x<L)->row.length=d->col.length=d->dotW (rowI d t row ws) col=dotW row (rowI d T col ws.reverse)
 |[],row,col,_,_,_=>rfl
 |x::ws,row,col,hw,l1,l2=>by
  have hx:=hw x (jL_ ..);show dotW (rowI d t (stepI d t row x) ws) col=_;rw[OF hT h ws (fun y hy=>hw y (jA_ _ hy)) MY l2,RJ (hT _ s!"") (h _ s!"") l1 (OD _ l2),wa_];unfold rowI;rw[j0_];rfl
def RK (h:Dim d tb):Dim d (Ci d tb):=⟨by unfold Ci;simp,fun r hr=>by
 obtain⟨c,_,rfl⟩:=jo_.mp hr;unfold colW;rw[List.length_map];exact h.n⟩
def PJ (h:Dim d tb):Ci d (Ci d tb)=tb:=by
 refine j2_ fun k=>?_;by_cases hk:k<d
 ·have cU:k<tb.length:=by rw[h.n];exact hk
  show ((oW d).map fun c=>colW (Ci d tb) c)[k]?=_;rw[jf_,jO_ hk,jb_ cU];show some (colW (Ci d tb) k)=_;rw[OE h hk,jc_,jb_ cU];rfl
 ·rw[jt_ (by unfold Ci;simp;lia),jt_ (by rw[h.n];lia)]
noncomputable def Ed (K:α3)(H:Hp)(zs:List V)(tabs:α0):Prop:=zs.length=tabs.length/\∀(i:Nat) (tb:α1),tabs[i]?=some tb->∃(u:Addr) (xs:List V),zs[i]?=some (.ref u)/\SqT K H u xs/\AR K H xs tb
def Ed.mono {K:α3}{H H':Hp}{zs:List V}{tabs:α0}(h:Ed K H zs tabs)(s:Same H H'):Ed K H' zs tabs:=⟨h.1,fun i tb hi=>by
 obtain⟨u,xs,a,b,c⟩:=h.2 i tb hi;exact⟨u,xs,a,s.seqT b,c.mono s⟩⟩
def Ed.nil {K:α3} : Ed K H [] []:=⟨rfl,fun i tb h=>by simp at h⟩
def Ed.snoc {K:α3}{H:Hp}{zs:List V}{tabs:α0}(h:Ed K H zs tabs){u:Addr}{xs:List V}{tb:α1}(h1:SqT K H u xs)(h2:AR K H xs tb):Ed K H (zs++[.ref u]) (tabs++[tb]):=by
 refine⟨by rw[ji_,ji_,h.1];rfl,fun i r hi=>?_⟩;by_cases hl:i<tabs.length
 ·rw[jm_ hl]at hi;rw[jm_ (by rw[h.1];exact hl)];exact h.2 i r hi
 ·have:=(jd_.mp hi).1;rw[ji_,jG_]at this;have e:i=tabs.length:=by lia
  subst e;rw[jp_ (jh_ _),qq_]at hi;simp at hi;subst hi;exact⟨u,xs,by rw[<-h.1];simp,h1,h2⟩
def Ed.tabs {K:α3}{H:Hp}{tt:Addr}{zs:List V}{tabs:α0}(h:Ed K H zs tabs)(ht:SqT K H tt zs):Tabs K H tt tabs:=by
 refine⟨zs.map (fun v=>match v with | .ref t=>t|_=>0),?_,by rw[ja_];exact h.1,fun i u tb hi hr=>?_⟩
 ·have e:(zs.map (fun v=>match v with | .ref t=>t|_=>0)).map V.ref=zs:=by
   rw[jJ_];refine j2_ fun i=>?_;rw[jf_];by_cases hi:i<tabs.length
   ·obtain⟨t,_,a,_⟩:=h.2 i tabs[i] (by simp[hi]);rw[a];rfl
   ·rw[jt_ (by rw[h.1];lia)];rfl
  rw[e];exact ht
 ·obtain⟨t',xs,a,b,c⟩:=h.2 i tb hr;rw[jf_,a]at hi;cases hi;exact⟨xs,b,c⟩
def Tg {K:α3} (c:Nat)(e:cp.st σ=none::af)(hu:SqT K H u xs)(hX:AR K H xs tb)(hc:∀r∈tb,c<r.length)(hz:tb.length<=900)
  (hs:∀(t:Addr) (r:α2) (R:VK),c<r.length->SqT K H t (r.map V.int)->R (.int (r.getD c 0)) H->te (some (.ref t)::af) H R)
  (hd:∀D,H D=none->Q (.ref D) (upd H D (.lst ((colW tb c).map V.int)))):(∃xs,SqT K H u xs)/\Ea (Itt K u) cp (G8 0) Kb te σ H Q:=by
 have hl:=An;have cx:=hX.1;refine⟨⟨_,hu⟩,IE (xs:=xs) (fun i ys ag H2=>H2=H/\ys=(colW (tb.take i) c).map V.int/\∃o,ag=o::af) ⟨rfl,by simp[colW],none,e⟩ s!"" (fun i ys ag H2 hi h=>⟨by rw[h.1];exact hu,by rw[h.2.1];unfold colW;rw[ja_,ja_,jz_];lia⟩) (fun i x ys ag H2 hx h=>?_) (fun ys ag H2 h D hD=>?_)⟩
 ·obtain⟨rfl,rfl,o,rfl⟩:=h;have hi:i<tb.length:=by rw[<-cx];exact (jd_.mp hx).1
  have eN:tb[i]?=some tb[i]:=by simp[hi]
  obtain⟨t,e1,e2⟩:=hX.2 i _ eN;rw[hx]at e1;cases e1;refine hs t tb[i] _ (hc _ (jy_ hi)) e2 ⟨rfl,?_,_,rfl⟩;unfold colW;rw[jB_,eN,jg_,jg_];rfl
 ·obtain⟨rfl,rfl,_⟩:=h;rw[cx,jr_];exact hd D hD
noncomputable def Th (K:α3):Sp:=fun vs H Q _=>∃(u:Addr) (xs:List V) (tb:α1) (d:Nat),vs=[.ref u]/\SqT K H u xs/\AR K H xs tb/\Dim d tb/\d<=16/\∀q zs H',Same H H'->H' q=some (.tup zs)->AR K H' zs (Ci d tb)->Q (.ref q) H'
def LX:⋯ EE.j25 1 ["table"] (Th K):=by
 delta EE.j25 LB
 ·obtain⟨u,xs,tb,d,rfl,_⟩:=h;rfl
 ·obtain⟨u,xs,tb,d,rfl,hu,hX,da,hd,k⟩:=h;have hl:=An;have cx:=hX.1;have hdn:=da.n;refine⟨_,(Af (Ap (Ar Av rfl EE.tuple jw_ (Aa (AA rfl (Ay rfl) (cp:=EH) ⟨⟨rfl,rfl⟩,oX⟩ (AF rfl EE.range (Aa (Am (lenD Ai) (by rfl) EE.len jF_ (Aa (pvD 0) Ac)) Ac)) (fun _ _ _ _=>(Al (i:=0) Gg rfl (ph rfl))) (fun _ _ _ _=>AJ) (fun _ _ _ _=>(Ar (BL (K:=K) rfl) rfl EE.tuple jw_ (Aa (AA rfl (Ay rfl) (cp:=EI) ⟨⟨rfl,rfl⟩,oX⟩ (Ra (K:=K) rfl (pvD 1)) (fun _ _ _ _=>(Al (i:=0) Gh rfl (oY rfl))) (fun _ _ _ _=>AJ) (fun _ _ _ _=>(Aj (ixTD (Bb (K:=K) rfl)) (pvD 0) (pvD 1)))) Ac)))) Ac)))),?_⟩;nofun;refine⟨_,.inr hu,by lia,by lia,?_⟩;rw[jU_,cx,hdn];refine Hd (fun c zs ax H4=>Same H H4/\AR K H4 zs ((oW c).map (fun c=>colW tb c))/\∃o,ax=[o,some (.ref u)]) ⟨Same.refl _,AR.nil,none,rfl⟩ s!"" (fun c zs ax H4 _ h4=>?_) (fun c zs ax H4 hc h4=>?_) (fun zs ax H4 h4 D hD=>?_)
  ·rw[h4.2.1.1,ja_,jI_];exact jh_ _
  ·obtain⟨s4,hZ,o,rfl⟩:=h4;rw[qf_];nofun;refine Tg (af:=[some (.int c)]) c rfl (s4.seqT hu) (hX.mono s4) (fun r hr=>by rw[da.r r hr];exact hc) s!"" (fun t r R hcr ht hR=>?_) (fun D hD=>?_)
   ·nofun;exact⟨_,ht,_,I0 hcr,hR⟩
   ·refine⟨D,rfl,_,.inl ⟨SqL.of Ab,fun q hq=>?_⟩⟩;have sq:=(Same.new hD (o:=.lst ((colW tb c).map V.int))).newT hq (o:=.tup ((colW tb c).map V.int));refine⟨s4.trans sq,?_,_,rfl⟩;rw[j4_,jg_];exact (hZ.mono sq).snoc (SqT.of Ab)
  ·obtain⟨s4,hZ,o,rfl⟩:=h4;refine⟨D,rfl,_,.inl ⟨SqL.of Ab,fun q hq=>?_⟩⟩;have sq:=(Same.new hD (o:=.lst zs)).newT hq (o:=.tup zs);exact k q zs _ (s4.trans sq) Ab (hZ.mono sq)
noncomputable def Ti (K:α3):Sp:=fun vs H Q _=>∃(h:Addr) (p L:Int) (d:Nat) (f l:α2) (t:α0),vs=[.ref h]/\SumH K H h p L f t l/\WfSum p L d f t l/\L<=6/\∀q H',Same H H'->SumH K H' q p L l (t.map (Ci d)) f->Q (.ref q) H'
def ES:⋯ EE.j26 2 ["house"] (Ti K):=by
 delta EE.j26 HR
 ·obtain⟨h,p,L,d,f,l,t,rfl,_⟩:=h;rfl
 ·obtain⟨h,p,L,d,f,l,t,rfl,hs,wf,bR,k⟩:=h;have hl:=An;obtain⟨a1,a2,a3,x1,x2,x3,us,x4,x5,x6⟩:=hs;have ht:=wf.t;refine⟨_,(Ad (Ak (i:=1) HR.nd (Ar Av rfl EE.tuple jw_ (Aa (AA rfl (Ay rfl) (cp:=Gi) oX (Cc (Aj (ixTD Ao) (pvD 0) Ae)) (fun _ _ _ _=>(Al (i:=0) IH rfl (oY rfl))) (fun _ _ _ _=>AJ) (fun _ _ _ _=>(Ag (LX EE) hr.d Aw (Aa (pvD 0) Ac)))) Ac)))
   (Af (Ap (AW (Aa (Aj (ixTD Ao) (pvD 0) Ae) (Aa (Aj (ixTD Ao) (pvD 0) Ae) (Aa (Aj (ixTD Ao) (pvD 0) Ae) (Aa (pvD 1) (Aa (Aj (ixTD Ao) (pvD 0) Ae) Ac))))))))),?_⟩
  nofun;refine⟨_,x1,_,rfl,a2,rfl,⟨_,x4⟩,IE (xs:=us.map V.ref) (fun i zs ag H2=>Same H H2/\Ed K H2 zs ((t.map (Ci d)).take i)/\∃o,ag=[o]) ⟨Same.refl _,Ed.nil,none,rfl⟩ (by rw[ja_];lia) (fun i zs ag H2 hi h=>⟨h.1.seqT x4,by rw[h.2.1.1,jz_];lia⟩) (fun i x zs ag H2 hx h=>?_) (fun zs ag H2 h D hD=>?_)⟩
  ·obtain⟨s,hZ,o,rfl⟩:=h;obtain⟨u,hu,rfl⟩:∃u,us[i]?=some u/\x=.ref u:=by
    rw[jf_]at hx;cases h1:us[i]? with
    |none=>rw[h1]at hx;cases hx
    |some u=>rw[h1]at hx;cases hx;exact⟨u,rfl,rfl⟩
   have hi:i<t.length:=by rw[<-x5];exact (jd_.mp hu).1
   have gn:t[i]?=some t[i]:=by simp[hi]
   obtain⟨xs,c1,c2⟩:=x6 i u _ hu gn;have hw:=wf.tt _ (jy_ hi);nofun;refine⟨u,xs,t[i],d,rfl,s.seqT c1,c2.mono s,⟨hw.1,hw.2⟩,wf.dl,fun q ys H3 s3 hq hy=>⟨s.trans s3,?_,_,rfl⟩⟩;rw[jB_,jf_,gn];exact (hZ.mono s3).snoc (SqT.of hq) hy
  ·obtain⟨s,hZ,_⟩:=h;rw[ja_,x5,<-ja_ (f:=Ci d),jr_]at hZ;refine⟨D,rfl,_,.inl ⟨SqL.of Ab,fun q hq=>?_⟩⟩;have sD:=(Same.new hD (o:=.lst zs)).newT hq (o:=.tup zs);have s3:=s.trans sD;have gV:upd (upd H2 D (.lst zs)) q (.tup zs) q=some (.tup zs):=Ab;have hZ3:=hZ.mono sD;generalize upd (upd H2 D (.lst zs)) q (.tup zs)=H3 at sD s3 gV hZ3 ⊢;refine⟨_,s3.seqT x1,_,rfl,_,s3.seqT x1,_,rfl,_,s3.seqT x1,_,rfl,_,s3.seqT x1,_,rfl,by lia,fun qz hqz=>?_⟩;have sz:=Same.new hqz (o:=.tup [V.int p,V.int L,V.ref a3,V.ref q,V.ref a1]);have s4:=s3.trans sz;exact k qz _ s4 ⟨a3,q,a1,SqT.of Ab,s4.seqT x3,s4.seqT x2,(hZ3.mono sz).tabs (sz.seqT (SqT.of gV))⟩
def Indep.of {p:Int}(hp:2<=p)(hI:∀a:Int,0<a->a<p->∃inv:Int,inv*a%p=1){m:Nat}:∀(k:Nat) (ae:α1),ae.length=k->(∀i:Nat,i<ae.length->¬ Span p m (ae.take i) fun j=>(ae.getD i []).getD j 0)->Indep p m ae
 |0,ae,hk,_=>by
  have:ae=[]:=jW_.mp hk;subst this;exact Indep.nil p m
 |k+1,ae,hk,h=>by
  obtain⟨R,r,rfl⟩:∃R r,ae=R++[r]:=⟨ae.dropLast,ae.getLast (by intro e;subst e;simp at hk),(qt_ _).symm⟩;have cU:R.length=k:=by simp at hk;exact hk
  have ih:=Indep.of hp hI k R cU fun i hi=>by
   have:=h i (by simp;lia);rw[qe_ s!""]at this;rw[jc_,jm_ hi]at this;rw[jc_];exact this
  have hl:=h R.length (by simp);rw[p0 rfl,jc_,jp_ (jh_ _),qq_]at hl;intro cs hc h0;obtain⟨ds,c,rfl⟩:∃ds c,cs=ds++[c]:=⟨cs.dropLast,cs.getLast (by intro e;subst e;simp at hc),(qt_ _).symm⟩;have iA:ds.length=R.length:=by simp at hc;exact hc
  have gp:∀i:Nat,i<m->(dotW ds (colW R i)+c*r.getD i 0)%p=0:=fun i hi=>by
   have:=h0 i hi;rw[Jb]at this;rw[show colW [r] i=[r.getD i 0] from rfl,LO _ _ (by rw[CY,iA])]at this;exact this
  have nC:c%p=0:=by
   refine Decidable.byContradiction fun aw=>hl ?_;have iI:=jS_ c (show p≠0 by lia);have nE:=jM_ c (show 0<p by lia);obtain⟨inv,cm⟩:=hI (c%p) s!"" nE;refine⟨ds.map (-inv * ·),by rw[ja_,iA],fun i hi=>?_⟩;rw[ER];show ((some r).getD []).getD i 0%p=_;have h1:=gp i hi;have hinv':inv*c%p=1:=by rw[qL_,<-cm,qL_ inv (c%p),jR_ _ (qn_ p)]
   have e:r.getD i 0 - -inv*dotW ds (colW R i)=inv*(dotW ds (colW R i)+c*r.getD i 0)-(inv*c-1)*r.getD i 0:=by
    rw[wg_,qd,zZ_,rz,zo_];lia
   refine jT_.mpr ?_;show (r.getD i 0-_)%p=0;rw[e];have d1:p ∣ inv*(dotW ds (colW R i)+c*r.getD i 0):=qV_ (qr_ h1);have d2:p ∣ (inv*c-1)*r.getD i 0:=Int.dvd_mul_of_dvd_left (qr_ (by rw[z6_,hinv'];have:(1:Int)%p=1:=qa_ s!"" s!"";rw[this];simp));exact qZ_ (wh_ d1 d2)
  intro x hx;rcases jH_.mp hx with hx|hx
  ·refine ih ds iA (fun i hi=>?_) x hx;have h1:=gp i hi;rw[q8_,qL_,nC]at h1;simpa using h1
  ·rw[jn_.mp hx];exact nC
structure BW (p L:Int)(d:Nat)(tables:α0)(first:α2)(F:α1)(n:Nat)(K:α1):Prop where
 nF:n<=F.length
 f0:F[0]?=some []
 valid:∀f∈F,isW L f=true
 sorted:F.Pairwise fun a b=>place L a<place L b
 from_:∀f∈F,f=[] \/ ∃u x,f=u++[x]/\u∈F.take n
 kF:∀w∈K,w∈F.take n
 kSort:K.Pairwise fun a b=>place L a<place L b
 kids:∀w∈K,∀x:Int,0<=x->x<L->w++[x]∈F
 kPre:∀w∈K,w=[]\/w.dropLast∈K
 fPre:∀f∈F,f=[]\/f.dropLast∈K
 free:∀i:Nat,i<K.length->¬ Span p d ((K.take i).map (rowS p d tables first)) fun j=>(rowS p d tables first (K.getD i [])).getD j 0
 span:∀f∈F.take n,∃j:Nat,j<=K.length/\Span p d ((K.take j).map (rowS p d tables first)) (fun i=>(rowS p d tables first f).getD i 0)/\∀w∈K.take j,place L w<=place L f
 flen:(F.length:Int)=1+K.length*L
 short:∀f∈F,f.length<=K.length
 zero:n=0->K=[]/\F=[[]]
 nil0:0<n->(∀i:Nat,i<d->first.getD i 0%p=0)->K=[]
 nil1:0<n->¬ (∀i:Nat,i<d->first.getD i 0%p=0)->K[0]?=some []
def BW.start {p L:Int}{d:Nat}{tables:α0}{first:α2}:BW p L d tables first [[]] 0 [] where
 nF:=by simp
 f0:=rfl
 valid:=fun f hf=>by rw[jn_.mp hf];rfl
 sorted:=xe_ ..
 from_:=fun f hf=>.inl (jn_.mp hf)
 kF:=fun w hw=>by cases hw
 kSort:=.nil
 kids:=fun w hw=>by cases hw
 kPre:=fun w hw=>by cases hw
 fPre:=fun f hf=>.inl (jn_.mp hf)
 free:=fun i hi=>by simp at hi
 span:=fun f hf=>by simp at hf
 flen:=by simp
 short:=fun f hf=>by rw[jn_.mp hf];exact jh_ _
 zero:=fun _=>⟨rfl,rfl⟩
 nil0:=fun h=>absurd h (j9_ 0)
 nil1:=fun h=>absurd h (j9_ 0)
def NT {α:Type}{R:α->α->Prop}{F:List α}(h:F.Pairwise R){n:Nat}{f w:α}(hf:F[n]?=some f)(hw:w∈F.take n):R w f:=by
 obtain⟨i,hi⟩:=j7_.mp hw;rw[xa_]at hi;split at hi
 ·rename_i ao
  have h1:=(jd_.mp hi);have h2:=(jd_.mp hf);have:=x5_.mp h i n h1.1 h2.1 ao;rw[h1.2,h2.2]at this;exact this
 ·cases hi
def A8 {α:Type}{F:List α}{n:Nat}{f x:α}(hf:F[n]?=some f):x∈F.take (n+1)↔x∈F.take n\/x=f:=by
 rw[jB_,hf];simp
section
variable {p L:Int} {d:Nat} {tables:α0} {first:α2} {F:α1} {n:Nat} {K:α1}
def BW.lt (h:BW p L d tables first F n K){f w:α2}(hf:F[n]?=some f)(hw:w∈K):place L w<place L f:=NT h.sorted hf (h.kF w hw)
def BW.once (h:BW p L d tables first F n K) (hf:F[n]?=some f)(hn:0<n):f ≠ []:=fun e=>by
 have h0:([]:α2)∈F.take n:=j7_.mpr ⟨0,by rw[xa_,if_pos hn];exact h.f0⟩;have:=NT h.sorted hf h0;rw[e]at this;lia
def BW.some_ (h:BW p L d tables first F n K) (hf:F[n]?=some f)(hn:0<n):K ≠ []:=fun e=>by
 rcases h.fPre f (jj_ hf) with z|z
 ·exact h.once hf hn z
 ·rw[e]at z;cases z
def BW.same (h:BW p L d tables first F n K) : Span p d ((F.take n).map (rowS p d tables first)) v↔Span p d (K.map (rowS p d tables first)) v:=by
 constructor
 ·refine fun g=>g.trans fun r hr=>?_;obtain⟨f,hf,rfl⟩:=jo_.mp hr;obtain⟨j,hj,a,_⟩:=h.span f hf;have:=a.app ((K.drop j).map (rowS p d tables first))
  rwa [<-jg_,xU_]at this
 ·refine fun g=>g.trans fun r hr=>?_;obtain⟨w,hw,rfl⟩:=jo_.mp hr;exact Span.mem (qT_ (h.kF w hw))
def BW.skip (h:BW p L d tables first F n K){f:α2}(hf:F[n]?=some f)(hs:Span p d (K.map (rowS p d tables first)) fun i=>(rowS p d tables first f).getD i 0):BW p L d tables first F (n+1) K where
 nF:=(jd_.mp hf).1
 f0:=h.f0
 valid:=h.valid
 sorted:=h.sorted
 from_:=fun g hg=>by
  rcases h.from_ g hg with z|⟨u,x,a,b⟩
  ·exact .inl z
  ·exact .inr ⟨u,x,a,(A8 hf).mpr (.inl b)⟩
 kF:=fun w hw=>(A8 hf).mpr (.inl (h.kF w hw))
 kSort:=h.kSort
 kids:=h.kids
 kPre:=h.kPre
 fPre:=h.fPre
 free:=h.free
 flen:=h.flen
 short:=h.short
 span:=fun g hg=>by
  rcases (A8 hf).mp hg with hg|rfl
  ·exact h.span g hg
  ·exact⟨K.length,jh_ _,by rw[jr_];exact hs,fun w hw=>by rw[jr_]at hw;exact xC_ (h.lt hf hw)⟩
 zero:=fun z=>by lia
 nil0:=fun _ z=>by
  by_cases hn:n=0
  ·exact (h.zero hn).1
  ·exact h.nil0 s!"" z
 nil1:=fun _ z=>by
  by_cases hn:n=0
  ·subst hn;obtain⟨e1,e2⟩:=h.zero rfl;rw[h.f0]at hf;cases hf;rw[e1]at hs;obtain⟨cs,a,b⟩:=hs;have:cs=[]:=jW_.mp a;subst this;refine absurd (fun i hi=>?_) z;have e:first.getD i 0%p=dotW [] _%p:=b i hi
   rw[e,Bc];simp
  ·exact h.nil1 s!"" z
def BW.add {Ln:Nat}(hL:L=(Ln:Int))(h:BW p L d tables first F n K){f:α2}(hf:F[n]?=some f)(hs:¬ Span p d (K.map (rowS p d tables first)) fun i=>(rowS p d tables first f).getD i 0):BW p L d tables first (F++(oW Ln).map fun (x:Nat)=>f++[(x:Int)]) (n+1) (K++[f]):=by
 have nG:=jj_ hf;have kj:=h.valid f nG;have hnl:=(jd_.mp hf).1;have dG:(F++(oW Ln).map fun (x:Nat)=>f++[(x:Int)]).take (n+1)=F.take (n+1):=qe_ s!"";have hp0:∀w:α2,isW L w=true->0<=place L w:=fun w hw=>by
  by_cases hL0:0<L
  ·have:=(HI hL0 hw).1;have:=CB hL0 w.length;lia
  ·cases w with
   |nil=>rw[Mv];exact zU_ 0
   |cons x w=>have:=AM.mp hw x (by simp);lia
 have bH:∀g∈(oW Ln).map (fun (x:Nat)=>f++[(x:Int)]),∃x:Int,g=f++[x]/\0<=x/\x<L:=fun g hg=>by
  obtain⟨x,hx,rfl⟩:=jo_.mp hg;exact⟨x,rfl,by lia,by have:=j3_.mp hx;lia⟩
 refine⟨by simp;lia,?_,fun g hg=>?_,?_,fun g hg=>?_,fun w hw=>?_,?_,fun w hw x x0 x1=>?_,fun w hw=>?_,fun g hg=>?_,fun i hi=>?_,fun g hg=>?_,?_,fun g hg=>?_,fun z=>by lia,fun _ z=>?_,fun _ z=>?_⟩
 ·rw[jm_ s!""];exact h.f0
 ·rcases jH_.mp hg with hg|hg
  ·exact h.valid g hg
  ·obtain⟨x,rfl,x0,x1⟩:=bH g hg;refine AM.mpr fun y hy=>?_;rcases jH_.mp hy with hy|hy
   ·exact AM.mp kj y hy
   ·rw[jn_.mp hy];exact⟨x0,x1⟩
 ·refine xs_.mpr ⟨h.sorted,?_,fun a ha b hb=>?_⟩
  ·refine xY_.mpr ((List.pairwise_lt_range).imp fun {x y} hxy=>?_);rw[Dc,Dc];lia
  ·obtain⟨x,rfl,x0,x1⟩:=bH b hb;rw[Dc];have gq:=hp0 f kj;have hm:0<=place L f*L:=z8_ gq s!"";rcases h.from_ a ha with rfl|⟨u,y,rfl,hu⟩
   ·rw[Mv];lia
   ·have ao:=NT h.sorted hf hu;have hy:=AM.mp (h.valid _ ha) y (by simp);rw[Dc];have:(place L u+1)*L<=place L f*L:=qz_ s!"" s!"";rw[zV_,zZ_]at this;lia
 ·rw[dG];rcases jH_.mp hg with hg|hg
  ·rcases h.from_ g hg with z|⟨u,x,a,b⟩
   ·exact .inl z
   ·exact .inr ⟨u,x,a,(A8 hf).mpr (.inl b)⟩
  ·obtain⟨x,rfl,x0,x1⟩:=bH g hg;exact .inr ⟨f,x,rfl,(A8 hf).mpr (.inr rfl)⟩
 ·rw[dG];rcases jH_.mp hw with hw|hw
  ·exact (A8 hf).mpr (.inl (h.kF w hw))
  ·exact (A8 hf).mpr (.inr (jn_.mp hw))
 ·refine xs_.mpr ⟨h.kSort,xe_ ..,fun a ha b hb=>?_⟩;rw[jn_.mp hb];exact h.lt hf ha
 ·rcases jH_.mp hw with hw|hw
  ·exact jQ_ _ (h.kids w hw x x0 x1)
  ·rw[jn_.mp hw];refine jV_ _ (jo_.mpr ⟨x.toNat,j3_.mpr s!"",?_⟩);rw[za_ x0]
 ·rcases jH_.mp hw with hw|hw
  ·rcases h.kPre w hw with z|z
   ·exact .inl z
   ·exact .inr (jQ_ _ z)
  ·rw[jn_.mp hw];rcases h.fPre f nG with z|z
   ·exact .inl z
   ·exact .inr (jQ_ _ z)
 ·rcases jH_.mp hg with hg|hg
  ·rcases h.fPre g hg with z|z
   ·exact .inl z
   ·exact .inr (jQ_ _ z)
  ·obtain⟨x,rfl,x0,x1⟩:=bH g hg;exact .inr (by rw[List.dropLast_concat];simp)
 ·by_cases gW:i<K.length
  ·have:=h.free i gW;rw[qe_ s!"",jc_,jm_ gW,<-jc_];exact this
  ·have ei:i=K.length:=by simp at hi;lia
   subst ei;rw[p0 rfl,jc_,jp_ (jh_ _),qq_];exact hs
 ·rw[dG]at hg;rcases (A8 hf).mp hg with hg|rfl
  ·obtain⟨j,a,b,c⟩:=h.span g hg;refine⟨j,by simp;lia,?_,?_⟩
   ·rw[qe_ a];exact b
   ·rw[qe_ a];exact c
  ·refine⟨K.length+1,by simp,?_,fun w hw=>?_⟩
   ·rw[qm_ (by simp),jg_];exact Span.last _ _
   ·rw[qm_ (by simp)]at hw;rcases jH_.mp hw with hw|hw
    ·exact xC_ (h.lt hf hw)
    ·rw[jn_.mp hw];exact zU_ _
 ·have:=h.flen;rw[ji_,ji_,ja_,jI_];push_cast;rw[this,<-hL,zV_];simp;lia
 ·rw[ji_,jG_];rcases jH_.mp hg with hg|hg
  ·have:=h.short g hg;lia
  ·obtain⟨x,rfl,x0,x1⟩:=bH g hg;rw[ji_,jG_];have:=h.short f nG;lia
 ·exfalso;by_cases hn:n=0
  ·subst hn;obtain⟨e1,e2⟩:=h.zero rfl;rw[h.f0]at hf;cases hf;rw[e1]at hs;exact hs ⟨[],rfl,fun i hi=>by rw[Bc];show first.getD i 0%p=0%p;rw[z i hi];simp⟩
  ·exact h.some_ hf s!"" (h.nil0 s!"" z)
 ·by_cases hn:n=0
  ·subst hn;obtain⟨e1,e2⟩:=h.zero rfl;rw[h.f0]at hf;cases hf;rw[e1];rfl
  ·have:=h.nil1 s!"" z;have hk:0<K.length:=(jd_.mp this).1;rw[jm_ hk];exact this
end
noncomputable def RowD (K:α3)(H:Hp)(kvs:List (List Key×V))(ws:α1)(row:α2->α2):Prop:=BK ws kvs/\AR K H (kvs.map (·.2)) (ws.map row)
noncomputable def Prs (K:α3)(H:Hp)(xs:List V)(ws:α1)(row:α2->α2):Prop:=xs.length=ws.length/\∀(i:Nat) (v:α2),ws[i]?=some v->∃t a b,xs[i]?=some (.ref t)/\SqT K H t [.ref a,.ref b]/\H a=some (.tup (v.map V.int))/\SqT K H b ((row v).map V.int)
def Prs.mono {K:α3} (h:Prs K H xs ws row)(s:∀t ys,SqT K H t ys->SqT K H' t ys)(s2:∀t ys,H t=some (.tup ys)->H' t=some (.tup ys)):Prs K H' xs ws row:=⟨h.1,fun i v hi=>by
 obtain⟨t,a,b,e,h1,h2,h3⟩:=h.2 i v hi;exact⟨t,a,b,e,s _ _ h1,s2 _ _ h2,s _ _ h3⟩⟩
def Prs.snoc {K:α3} (h:Prs K H xs ws row) (h1:SqT K H t [.ref a,.ref b])(h2:H a=some (.tup (v.map V.int)))(h3:SqT K H b ((row v).map V.int)):Prs K H (xs++[.ref t]) (ws++[v]) row:=by
 refine⟨by rw[ji_,ji_,h.1];rfl,fun i r hi=>?_⟩;by_cases aQ:i<ws.length
 ·rw[jm_ aQ]at hi;rw[jm_ (by rw[h.1];exact aQ)];exact h.2 i r hi
 ·have:=(jd_.mp hi).1;rw[ji_,jG_]at this;have ei:i=ws.length:=by lia
  subst ei;rw[jp_ (jh_ _),qq_]at hi;simp at hi;subst hi;exact⟨t,a,b,by rw[<-h.1];simp,h1,h2,h3⟩
def AR.mono2 {K:α3} (h:AR K H xs ae)(s:∀t ys,SqT K H t ys->SqT K H' t ys):AR K H' xs ae:=⟨h.1,fun i r hi=>by
 obtain⟨t,e,h1⟩:=h.2 i r hi;exact⟨t,e,s _ _ h1⟩⟩
def _root_.L2.Same.gone' {H H':Hp}{a:Addr}(s:Same H H')(h:H' a=none):H a=none:=by
 cases e:H a with
 |none=>rfl
 |some u=>rw[s _ _ e]at h;cases h
def JO {K:α3} (hp:H p=some (.dT kvs))(h:SqT K H t xs):SqT K (upd H p (.dT kvs')) t xs:=by
 rcases h with (q|⟨o,q⟩)|q
 ·refine .inl (.inl ?_);rw[Au (fun z=>by rw[z,hp]at q;cases q)];exact q
 ·refine .inl (.inr ⟨o,?_⟩);rw[Au (fun z=>by rw[z,hp]at q;cases q)];exact q
 ·exact .inr q
def BasD.offT {K:α3} (h:BasD K H d bs)(hp:H p=some (.dT kvs)):BasD K (upd H p (.dT kvs')) d bs:=by
 obtain⟨kv,h1,h2,h3⟩:=h;refine⟨kv,?_,h2,fun i x hx=>?_⟩
 ·rcases h1 with h1|⟨o,h1⟩
  ·exact .inl (by rw[Au (fun z=>by rw[z,hp]at h1;cases h1)];exact h1)
  ·exact .inr ⟨o,by rw[Au (fun z=>by rw[z,hp]at h1;cases h1)];exact h1⟩
 ·obtain⟨t,a,b⟩:=h3 i x hx;exact⟨t,a,JO hp b⟩
def BasD.ne {K:α3} (h:BasD K H d bs)(hp:H p=some o)(h1:∀kvs,o ≠ .dK kvs)(h2:∀ob kvs,o ≠ .frz ob (.dK kvs)):p≠d:=fun z=>by
 obtain⟨kv,h3,_⟩:=h;rcases h3 with h3|⟨ob,h3⟩
 ·rw[<-z,hp]at h3;exact h1 _ (jC_ h3)
 ·rw[<-z,hp]at h3;exact h2 _ _ (jC_ h3)
def _root_.L2.FzAt.tup {d a:Addr}{H H':Hp}{xs:List V}(s:FzAt d H H')(h:H a=some (.tup xs)):H' a=some (.tup xs):=by
 by_cases e:a=d
 ·subst e;rcases s.2 _ h with g|⟨kvs,o,g,_⟩
  ·exact g
  ·cases g
 ·exact s.1 a _ e h
noncomputable def Tj (K:α3):Sp:=fun vs H Q _=>∃(h:Addr) (p:Int) (L d:Nat) (first last:α2) (tables:α0),vs=[.ref h]/\Pr p/\SumH K H h p L first tables last/\WfSum p L d first tables last/\L<=6/\d<=16/\∀q kvs F ws H',Same H H'->H' q=some (.dT kvs)->H q=none->RowD K H' kvs ws (Mine.rowS p d tables first)->BW p L d tables first F F.length ws->ws.length<=d->Q (.ref q) H'
def DQ:⋯ EE.j35 4 ["house"] (Tj K):=by
 delta EE.j35 AI
 ·obtain⟨h,p,L,d,first,last,tables,rfl,_⟩:=h;rfl
 ·obtain⟨h,p,L,d,first,last,tables,rfl,hp,hh,wf,bR,aI,k⟩:=h;have hl:=An;have aR:=hp.1;have bj:=hp.2.1;obtain⟨tf,tt,tl,h1,h2,h3,h4⟩:=id hh;refine⟨_,(Ad (Ak (i:=1) AI.nd (Aj (ixTD Ao) (pvD 0) Ae))
   (Ad (BS (i:=2) AI.nd rfl (oY rfl) IS)
   (Ad (Ak (i:=3) AI.nd Lg)
   (Ad (Ak (i:=4) AI.nd (CU (Aa (AW (Aa (AW Ac) (Aa (Aj (ixTD Ao) (pvD 0) Ae) Ac))) Ac)))
   (Ad (Ak (i:=5) AI.nd Ae)
   (Ad (La jN_ (ptT (Ax (opD0 Lb) (pvD 5) (Am (lenD Ai) (by rfl) EE.len jF_ (Aa (pvD 4) Ac)) (AB _)))
   (Ad (Ak (i:=6) AI.nd (Aj (ixTD Ao) (Aj (ixLD BC) (pvD 4) (pvD 5)) Ae))
   (Ad (Ak (i:=7) AI.nd (Aj (ixTD Ao) (Aj (ixLD BC) (pvD 4) (pvD 5)) Ae))
   (Ad (Ak (i:=8) AI.nd (Ag (E7 EE) hr.d Aw (Aa (pvD 1) (Aa (pvD 3) (Aa (pvD 7) Ac)))))
   (Ad (Ak (i:=9) AI.nd (Ag (B5 EE) hr.d Aw (Aa (pvD 8) Ac)))
   (Jm (A5 (ptT (Ax Qh (pvD 9) Kr (AB _)))
   (Ad (Ds (Hb hr) (pvD 2) (pvD 6) (pvD 7) rfl)
   (Ad (Ak (i:=3) AI.nd (Ag (HX EE) hr.d Aw (Aa (pvD 1) (Aa (pvD 3) (Aa (pvD 8) (Aa (pvD 9) Ac))))))
   (Af (A3 jN_ rfl (AF rfl EE.range (Aa (Aj (ixTD Ao) (pvD 0) Ae) Ac)) (Al (i:=10) AI.nd rfl (oY rfl))
   (Af (Bx (Ka qh_ qb_ qc_ By (pvD 4) (Aa (AW (Aa (As AX (pvD 6) (AW (Aa (pvD 10) Ac))) (Aa (Ag (Hx EE) hr.d Aw (Aa (pvD 0) (Aa (pvD 7) (Aa (pvD 10) Ac)))) Ac))) Ac))))))))
   AE)
   (Af (Wy (i:=5) AI.nd rfl (oY rfl) Ae Wz))))))))
   (Af (Ap (pvD 2))))))))),?_⟩
  nofun;refine⟨_,h1,V.int p,rfl,fun dr kl db b6=>?_⟩;refine⟨by lia,fun t0 km=>⟨_,(((Same.new kl (o:=.dT [])).newT b6 (o:=.dK [])).newT km (o:=.tup [])).seqT h1,V.ref tf,rfl,by lia,fun t1 kn=>⟨by lia,fun pf gq=>?_⟩⟩⟩;have s0:=(((Same.new kl (o:=.dT [])).newT b6 (o:=.dK [])).newT km (o:=.tup [])).newT kn (o:=.tup [V.ref t0,V.ref tf]);have sP:=s0.newT gq (o:=.lst [V.ref t1]);have hdbN:H db=none:=(Same.new kl (o:=.dT [])).gone' b6;have hpfN:H pf=none:=s0.gone' gq;have u_dr:upd (upd (upd (upd (upd H dr (HO.dT [])) db (HO.dK [])) t0 (HO.tup [])) t1 (HO.tup [V.ref t0,V.ref tf])) pf (HO.lst [V.ref t1]) dr=some (.dT []):=Same.new gq _ _ (Same.new kn _ _ (Same.new km _ _ (Same.new b6 _ _ Ab)));have u_db:upd (upd (upd (upd (upd H dr (HO.dT [])) db (HO.dK [])) t0 (HO.tup [])) t1 (HO.tup [V.ref t0,V.ref tf])) pf (HO.lst [V.ref t1]) db=some (.dK []):=Same.new gq _ _ (Same.new kn _ _ (Same.new km _ _ Ab));have u_pf:upd (upd (upd (upd (upd H dr (HO.dT [])) db (HO.dK [])) t0 (HO.tup [])) t1 (HO.tup [V.ref t0,V.ref tf])) pf (HO.lst [V.ref t1]) pf=some (.lst [V.ref t1]):=Ab;have u_t1:upd (upd (upd (upd (upd H dr (HO.dT [])) db (HO.dK [])) t0 (HO.tup [])) t1 (HO.tup [V.ref t0,V.ref tf])) pf (HO.lst [V.ref t1]) t1=some (.tup [V.ref t0,V.ref tf]):=Same.new gq _ _ Ab;have u_t0:upd (upd (upd (upd (upd H dr (HO.dT [])) db (HO.dK [])) t0 (HO.tup [])) t1 (HO.tup [V.ref t0,V.ref tf])) pf (HO.lst [V.ref t1]) t0=some (.tup []):=Same.new gq _ _ (Same.new kn _ _ Ab);generalize upd (upd (upd (upd (upd H dr (HO.dT [])) db (HO.dK [])) t0 (HO.tup [])) t1 (HO.tup [V.ref t0,V.ref tf])) pf (HO.lst [V.ref t1])=H0 at sP u_dr u_db u_pf u_t1 u_t0 ⊢;clear s0 gq kn km b6;obtain⟨R,dj⟩:∃R:α2->α2,R=Mine.rowS p d tables first:=⟨_,rfl⟩
  have hR0:R []=first:=by rw[dj];rfl
  have jy:∀v,isW L v=true->(R v).length=d/\∀y∈R v,0<=y/\y<p:=fun v hv=>by rw[dj];exact wf.row v
  have nH:∀v x,R (v++[x])=Fd p d tables (R v) x:=fun v x=>by rw[dj];unfold Mine.rowS;rw[j0_];rfl
  obtain⟨Pv,aj⟩:∃Pv:Nat->St->Hp->Prop,∀m af H',Pv m af H'↔(∃(F ws:α1) (bs:List (Nat×α2)) (n:Nat) (b:Addr) (kvs:List (List Key×V)) (xs:List V) (o6 o7 o8 o9 gX:Option V),m=1+d*L-n/\Same H H'/\H' dr=some (.dT kvs)/\RowD K H' kvs ws R/\BasD K H' b bs/\H b=none/\H' pf=some (.lst xs)/\Prs K H' xs F R/\BW p L d tables first F n ws/\Seen p d d ((F.take n).map R) bs/\bs.length=ws.length/\af=[some (.ref h),some (.int p),some (.ref dr),some (.ref b),some (.ref pf),some (.int n),o6,o7,o8,o9,gX]):=⟨_,fun _ _ _=>j8_⟩;refine QM Pv ⟨_,(aj _ _ _).mpr ⟨[[]],[],[],0,db,[],[V.ref t1],none,none,none,none,none,rfl,sP,u_dr,⟨rfl,rfl,fun i r hi=>by simp at hi⟩,PutD.bas (PutD.nil u_db),hdbN,u_pf,⟨rfl,fun i v hi=>?_⟩,BW.start,⟨⟨by simp,by simp,.nil⟩,by simp,by simp,by simp⟩,rfl,rfl⟩⟩ ?_
  ·match i,hi with
   |0,hi=>
    cases hi;exact⟨t1,t0,tf,rfl,SqT.of u_t1,u_t0,by rw[hR0];exact sP.seqT h2⟩
   |j+1,hi=>simp at hi
  intro m af H' h';obtain⟨F,ws,bs,n,b,kvs,xs,o6,o7,o8,o9,gX,rfl,s1,c1,c2,c3,c4,c5,c6,bw,sn,di,rfl⟩:=(aj _ _ _).mp h';have hbd:bs.length<=d:=by
   have:=LR d (bs.map (·.1)) sn.b.nodup fun x hx=>by
    obtain⟨y,hy,rfl⟩:=jo_.mp hx;exact sn.lt y hy
   rwa [ja_]at this
  have hFl:=bw.flen;have hFd:F.length<=1+d*L:=by
   have:(ws.length:Int)*L<=d*L:=qz_ s!"" s!"";have e:((d*L:Nat):Int)=(d:Int)*L:=by push_cast;rfl
   lia
  have hdL:d*L<=96:=by
   have:=qJ_ aI bR;lia
  have c6l:=c6.1;nofun;refine⟨_,.inl (SqL.of c5),ite2 (fun ao=>?_) (fun lp=>?_)⟩
  ·have hnF:n<F.length:=by lia
   have d6:F[n]?=some F[n]:=by simp
   obtain⟨t,a,rr,e1,e2,e3,e4⟩:=c6.2 n _ d6;have kj:=bw.valid _ (jj_ d6);generalize F[n]=f at d6 e3 e4 kj;have ar:=jy f kj;refine⟨Pv (1+d*L-(n+1)),fun ag H2 h2=>⟨_,by lia,h2⟩,?_⟩;refine⟨_,SqL.of c5,V.ref t,FK e1,t,rfl,_,e2,V.ref a,rfl,_,SqL.of c5,V.ref t,FK e1,t,rfl,_,e2,V.ref rr,rfl,?_⟩;have b6:dr≠b:=c3.ne c1 (fun _ z=>by cases z) (fun _ _ z=>by cases z);have hpb:pf≠b:=c3.ne c5 (fun _ z=>by cases z) (fun _ _ z=>by cases z);have hdp:dr≠pf:=fun z=>by rw[z,c5]at c1;cases c1
   refine⟨p,b,rr,true,bs,R f,rfl,by lia,by lia,c3,e4,by lia,fun x hx=>by rw[ar.1];exact⟨(sn.b.len x hx).1,(sn.b.len x hx).2.1⟩,fun q1 H3 cy cI=>?_⟩;have aW:=sn.iff s!"" (jh_ d) ar.1;have eX:=(BP (R f) ar.1 bs sn.b).1;have eY:=DM (p:=p) s!"" (R f) bs;have b8:=LP (p:=p) s!"" ar.1 sn.b;have cK:=fun (inv:Int) (qq:Nat) (h1:qq<d) (h2:inv*(Az p bs (R f)).getD qq 0%p=1)=>sn.more (inv:=inv) aR (jh_ d) ar.1 h1 h2;have cL:=sn.same ar.1;generalize Az p bs (R f)=left at cI aW eX eY b8 cK cL;have bI:F.take (n+1)=F.take n++[f]:=by rw[jB_,d6];rfl
   obtain⟨Rr,nI⟩:∃Rr:St->Hp->Prop,∀af H',Rr af H'↔(∃(F ws:α1) (bs:List (Nat×α2)) (b:Addr) (kvs:List (List Key×V)) (xs:List V) (o6 o7 o8 o9 gX:Option V),Same H H'/\H' dr=some (.dT kvs)/\RowD K H' kvs ws R/\BasD K H' b bs/\H b=none/\H' pf=some (.lst xs)/\Prs K H' xs F R/\BW p L d tables first F (n+1) ws/\Seen p d d ((F.take (n+1)).map R) bs/\bs.length=ws.length/\af=[some (.ref h),some (.int p),some (.ref dr),some (.ref b),some (.ref pf),some (.int n),o6,o7,o8,o9,gX]):=⟨_,fun _ _=>j8_⟩;have finR:∀ag H2,Rr ag H2->tAug 5 (tC (V.int 1)) (ipI fun i j=>i+j) {nx:=Pv (1+d*L-(n+1)),rt:=Q,bk:=tRet (tVar 2) {nx:=fun x H'=>Q V.non H',rt:=Q},ct:=Pv (1+d*L-(n+1))} ag H2:=fun ag H2 h2=>by
    obtain⟨F,ws,bs,b,kvs,xs,o6,o7,o8,o9,gX,g1,g2,g3,g4,g5,g6,g7,g8,g9,g10,rfl⟩:=(nI _ _).mp h2;nofun;exact (aj _ _ _).mpr ⟨F,ws,bs,n+1,b,kvs,xs,_,_,_,_,_,rfl,g1,g2,g3,g4,g5,g6,g7,g8,g9,g10,rfl⟩
   refine⟨q1,left,rfl,cI,by lia,fun qn H4 s4 dU dP=>⟨Rr,?_,finR⟩,fun H4 s4 aB=>⟨Rr,?_,finR⟩⟩
   ·have dA:Same H H4:=(cy.same s1 c4).trans s4;have d4:=s4 _ _ (cy.1 dr _ b6 c1);have p4:=s4 _ _ (cy.lst c5);have sk:∀t ys,SqT K H' t ys->SqT K H4 t ys:=fun t ys z=>s4.seqT (cy.seqT z);have tk:∀t ys,H' t=some (.tup ys)->H4 t=some (.tup ys):=fun t ys z=>s4 _ _ (cy.tup z);have bx:¬ Span p d (ws.map R) fun j=>(R f).getD j 0:=fun z=>dP (aW.mpr (by rw[dj]at z ⊢;exact bw.same.mpr z) qn s!"");have hfw:f∉ws:=fun z=>by have:=bw.lt d6 z;lia
    have nJ:=bw.add (Ln:=L) rfl d6 (by rw[<-dj];exact bx);have cU:kvs.length=ws.length:=by have:=c2.2.1;rw[ja_,ja_]at this;exact this
    have hnone:valV kvs (wkey f)=none:=by
     have:=c2.1.some_iff f;rw[jX_ hfw]at this;cases e:valV kvs (wkey f) with
     |none=>rfl
     |some v=>rw[e]at this;cases this
    nofun;refine⟨_,DPut.t d4 (by rw[BE];exact tk _ _ e3) s!"",?_⟩;rw[Sr _ hnone];have iP:=dA.over kl (o:=.dT (kvs++[(wkey f,V.ref rr)]));have d5:upd H4 dr (.dT (kvs++[(wkey f,V.ref rr)])) dr=some (.dT (kvs++[(wkey f,V.ref rr)])):=Ab;have p5:upd H4 dr (.dT (kvs++[(wkey f,V.ref rr)])) pf=some (.lst xs):=by rw[Au (q3_ hdp)];exact p4
    have sk5:∀t ys,SqT K H' t ys->SqT K (upd H4 dr (.dT (kvs++[(wkey f,V.ref rr)]))) t ys:=fun t ys z=>JO d4 (sk t ys z);have tk5:∀t ys,H' t=some (.tup ys)->upd H4 dr (.dT (kvs++[(wkey f,V.ref rr)])) t=some (.tup ys):=fun t ys z=>by
     have:=tk t ys z;rw[Au (fun e=>by rw[e,d4]at this;cases this)];exact this
    have lF:=(((c3.fz cy).mono s4).offT d4 (kvs':=kvs++[(wkey f,V.ref rr)]));have fH:SqT K (upd H4 dr (.dT (kvs++[(wkey f,V.ref rr)]))) q1 (left.map V.int):=JO d4 (s4.seqT cI);generalize upd H4 dr (.dT (kvs++[(wkey f,V.ref rr)]))=H5 at iP d5 p5 sk5 tk5 lF fH ⊢;have g:=getD_in (show 0<p by lia) eY qn;refine⟨p,b,q1,qn,bs,left,rfl,hp,lF,fH,by lia,by lia,by lia,g.2,by lia,fun x hx=>by rw[eX];exact⟨(sn.b.len x hx).1,(sn.b.len x hx).2.1⟩,sn.b.nodup,fun hm=>?_,fun b2 inv H7 gT i0 i1 cm nq gO=>?_⟩
    ·obtain⟨x,hx,e⟩:=jo_.mp hm;exact dP (by rw[<-e];exact b8 x hx)
    have jz:=gT.same iP c4;have d7:=gT.1 dr _ b6 d5;have p7:=gT.lst p5;have lI:∀t ys,SqT K H' t ys->SqT K H7 t ys:=fun t ys z=>gT.seqT (sk5 t ys z);have tk7:∀t ys,H' t=some (.tup ys)->H7 t=some (.tup ys):=fun t ys z=>gT.tup (tk5 t ys z);have hb2N:H b2=none:=iP.gone' gO;have rd7:RowD K H7 (kvs++[(wkey f,V.ref rr)]) (ws++[f]) R:=⟨by unfold BK;rw[jg_,jg_,c2.1];rfl,by rw[jg_,jg_];exact AR.snoc (c2.2.mono2 lI) (lI _ _ e4)⟩;refine⟨_,jz.seqT h1,V.int L,rfl,(L:Int),rfl,by lia,by lia,?_⟩;obtain⟨Pz,dk⟩:∃Pz:Nat->St->Hp->Prop,∀i af H',Pz i af H'↔(∃(xs:List V) (gX:Option V),Same H H'/\H' dr=some (.dT (kvs++[(wkey f,V.ref rr)]))/\RowD K H' (kvs++[(wkey f,V.ref rr)]) (ws++[f]) R/\BasD K H' b2 (LQ p inv bs left qn)/\H' pf=some (.lst xs)/\Prs K H' xs (F++(oW i).map fun (x:Nat)=>f++[(x:Int)]) R/\H' a=some (.tup (f.map V.int))/\SqT K H' rr ((R f).map V.int)/\af=[some (.ref h),some (.int p),some (.ref dr),some (.ref b2),some (.ref pf),some (.int n),some (.ref a),some (.ref rr),some (.ref q1),some (.int qn),gX]):=⟨_,fun _ _ _=>j8_⟩;refine forR Pz ((dk _ _ _).mpr ⟨xs,gX,jz,d7,rd7,nq,p7,by simpa using c6.mono lI tk7,tk7 _ _ e3,lI _ _ e4,rfl⟩) (fun i ag H8 hi h8=>?_) (fun ag H8 h8=>?_)
    ·obtain⟨ys,o,k1,k2,k3,k4,k5,k6,k7,k8,rfl⟩:=(dk _ _ _).mp h8;rw[qf_];nofun;have hfs:=bw.short f (jj_ d6);refine⟨.inl ⟨rfl,_,SqL.of k5⟩,by lia,fun u1 lH=>A0.ofS (Same.new lH _ _ k7) Ab (by simp;lia) fun u2 H9 s9 gb=>?_⟩;have nK:=(Same.new lH (o:=.tup [V.int i])).trans s9;have s19:=k1.trans nK;refine⟨h,rr,p,L,i,d,first,last,R f,tables,rfl,hh.mono s19,wf,nK.seqT k8,ar.1,ar.2,by lia,by lia,fun u3 nA cq hu3=>⟨by lia,fun u4 ko=>?_⟩⟩;have s8a:=nK.trans cq;have sN:=s8a.newT ko (o:=.tup [V.ref u2,V.ref u3]);have dW:=sN _ _ k5;refine⟨ys,dW,?_,(dk _ _ _).mpr ⟨_,_,(k1.trans sN).over hpfN,?_,⟨k3.1,k3.2.mono2 fun t ys z=>Bq dW (sN.seqT z)⟩,(k4.mono sN).offl dW,Ab,?_,?_,Bq dW (sN.seqT k8),rfl⟩⟩
     ·have:=k6.1;rw[ji_,ja_,jI_]at this;lia
     ·rw[Au hdp];exact sN _ _ k2
     ·rw[j4_,jg_,<-wb_];refine (k6.mono (fun t ys z=>Bq dW (sN.seqT z)) fun t ys z=>?_).snoc (t:=u4) (a:=u2) (b:=u3) (v:=f++[(i:Int)]) (Bq dW (SqT.of Ab)) ?_ ?_
      ·have:=sN _ _ z;rw[Au (fun e=>by rw[e,dW]at this;cases this)];exact this
      ·have:upd nA u4 (.tup [V.ref u2,V.ref u3]) u2=some (.tup ((f++[(i:Int)]).map V.int)):=by
        have:=Same.new ko (o:=.tup [V.ref u2,V.ref u3]) _ _ (cq _ _ gb);rw[jg_];exact this
       exact (Au (fun e=>by have z:=this.symm.trans ((xd_ (upd nA u4 (.tup [V.ref u2,V.ref u3])) e).trans dW);cases z)).trans this
      ·rw[nH];exact Bq dW (SqT.of (Same.new ko (o:=.tup [V.ref u2,V.ref u3]) _ _ hu3))
     ·have:=sN _ _ k7;rw[Au (fun e=>by rw[e,dW]at this;cases this)];exact this
    ·obtain⟨ys,o,k1,k2,k3,k4,k5,k6,k7,k8,rfl⟩:=(dk _ _ _).mp h8;rw[show ((L:Int)).toNat=L by lia]at k6;refine (nI _ _).mpr ⟨_,ws++[f],_,b2,_,ys,_,_,_,_,_,k1,k2,k3,k4,hb2N,k5,k6,nJ,?_,by rw[MW,ji_,di];rfl,rfl⟩;rw[qe_ s!"",bI,jg_];exact cK inv qn s!"" cm
   ·nofun;have dA:Same H H4:=(cy.same s1 c4).trans s4;have d4:=s4 _ _ (cy.1 dr _ b6 c1);have p4:=s4 _ _ (cy.lst c5);have sk:∀t ys,SqT K H' t ys->SqT K H4 t ys:=fun t ys z=>s4.seqT (cy.seqT z);have tk:∀t ys,H' t=some (.tup ys)->H4 t=some (.tup ys):=fun t ys z=>s4 _ _ (cy.tup z);have iM:∀i:Nat,i<d->left.getD i 0=0:=fun i hi=>aB i s!"";have nJ:=bw.skip d6 (by
     have:=bw.same.mp (by rw[<-dj];exact aW.mp iM)
     rwa [<-dj]at this ⊢)
    refine (nI _ _).mpr ⟨F,ws,bs,b,kvs,xs,_,_,_,_,_,dA,d4,⟨c2.1,c2.2.mono2 sk⟩,(c3.fz cy).mono s4,c4,p4,c6.mono sk tk,nJ,?_,di,rfl⟩;rw[bI,jg_];exact cL iM
  ·have hnF:n=F.length:=by have:=bw.nF;lia
   subst hnF;nofun;exact k dr kvs F ws H' s1 c1 kl (by rw[<-dj];exact c2) bw s!""
noncomputable def HY (p L:Int)(d:Nat)(R:α2->α2)(ws:α1)(f l:α2):Prop:=l.length=ws.length/\(∀x∈l,0<=x/\x<p)/\(∀i:Nat,i<d->(R f).getD i 0%p=dotW l (colW (ws.map R) i)%p)/\∀(k:Nat) (v:α2),ws[k]?=some v->l.getD k 0≠0->place L v<=place L f
def BW.indep (hp:Pr p)(h:BW p L d tables first F n ws):Indep p d (ws.map (Mine.rowS p d tables first)):=by
 refine Indep.of hp.1 (fun a a0 a1=>UU hp.1 a0 (hp.gcd a0 a1)) _ _ rfl fun i hi=>?_;rw[ja_]at hi;have:=h.free i hi;rw[<-zP_];have e:(ws.map (Mine.rowS p d tables first)).getD i []=Mine.rowS p d tables first (ws.getD i []):=by
  rw[jc_,jf_,jc_,jb_ hi];rfl
 rw[e];exact this
def UW (hp:Pr p)(wf:WfSum p L d first tables last)(h:BW p L d tables first F F.length ws) (S:Seen p (d+(ws.map (Mine.rowS p d tables first)).length) d (AV (ws.map (Mine.rowS p d tables first))) bs) (hf:f∈F):
  Span p d (ws.map (Mine.rowS p d tables first)) (fun i=>(Mine.rowS p d tables first f).getD i 0)/\HY p L d (Mine.rowS p d tables first) ws f (((Az p bs (Mine.rowS p d tables first f++oU (ws.map (Mine.rowS p d tables first)).length 0)).drop d).map fun y => -y%p):=by
 have aR:=hp.1;obtain⟨j,hj,⟨cs,hc,he⟩,bg⟩:=h.span f (by rw[jr_];exact hf);rw[ja_,jz_,z1_ hj]at hc;have hsplit:ws.map (Mine.rowS p d tables first)=(ws.take j).map (Mine.rowS p d tables first)++(ws.drop j).map (Mine.rowS p d tables first):=by rw[<-jg_,xU_]
 obtain⟨am,iJ⟩:∃am:α2,am=cs.map (· % p)++oU (ws.length-j) 0:=⟨_,rfl⟩;have cc:am.length=ws.length:=by rw[iJ,ji_,ja_,q6_,hc];lia
 have dM:∀x∈am,0<=x/\x<p:=fun x hx=>by
  rw[iJ]at hx;rcases jH_.mp hx with hx|hx
  ·obtain⟨y,_,rfl⟩:=jo_.mp hx;exact⟨jS_ _ s!"",jM_ _ s!""⟩
  ·rw[(z7_.mp hx).2];lia
 have fE:∀i:Nat,i<d->(Mine.rowS p d tables first f).getD i 0%p=dotW am (colW (ws.map (Mine.rowS p d tables first)) i)%p:=fun i hi=>by
  rw[he i hi,iJ,hsplit,Jb,Hw _ _ _ _ (by rw[CY,ja_,ja_,jz_];lia),AL (oU _ _),CA,qQ];refine cg.dot ?_ (cg.refl p _);unfold cg;rw[jJ_];exact (jD_ fun y _=>by show y%p=(y%p)%p;rw[jR_ _ (qn_ p)])
 have ah:∀r∈ws.map (Mine.rowS p d tables first),r.length=d:=fun r hr=>by
  obtain⟨v,_,rfl⟩:=jo_.mp hr;exact (wf.row v).1
 refine⟨⟨am,by rw[ja_];exact cc,fE⟩,?_⟩;rw[RD (show 0<p by lia) ah (h.indep hp) S (wf.row f).1 (by rw[ja_];exact cc) dM fE];refine⟨cc,dM,fE,fun k v hk aw=>?_⟩;by_cases js:k<j
 ·exact bg v (j7_.mpr ⟨k,by rw[xa_,if_pos js];exact hk⟩)
 ·refine absurd ?_ aw;rw[iJ,jc_,jp_ (by rw[ja_];lia),qY_];split<;>rfl
noncomputable def AmD (H:Hp)(pm:Addr)(xs:List V)(am:α0):Prop:=xs.length=am.length/\∀(i:Nat) (a:α1),am[i]?=some a->∃c ys,c≠pm/\xs[i]?=some (.ref c)/\H c=some (.lst ys)/\ys.length=a.length/\∀(j:Nat) (l:α2),a[j]?=some l->∃e,e≠pm/\ys[j]?=some (.ref e)/\H e=some (.lst (l.map V.int))
noncomputable def AmF (p:Int)(L d:Nat)(R:α2->α2)(ws:α1)(am:α0):Prop:=am.length=ws.length/\∀(i:Nat) (a:α1) (v:α2),am[i]?=some a->ws[i]?=some v->a.length=L/\∀(x:Nat) (l:α2),a[x]?=some l->HY p L d R ws (v++[(x:Int)]) l
def AmD.mono (h:AmD H pm xs am)(s:∀(a:Addr) ys,a≠pm->H a=some (.lst ys)->H' a=some (.lst ys)):AmD H' pm xs am:=⟨h.1,fun i a hi=>by
 obtain⟨c,ys,n1,e1,e2,e3,e4⟩:=h.2 i a hi;refine⟨c,ys,n1,e1,s _ _ n1 e2,e3,fun j l hj=>?_⟩;obtain⟨e,n2,f1,f2⟩:=e4 j l hj;exact⟨e,n2,f1,s _ _ n2 f2⟩⟩
def AmD.snoc (h:AmD H pm xs am) (n1:c≠pm)(e2:H c=some (.lst ys))(e3:ys.length=a.length)(e4:∀(j:Nat) (l:α2),a[j]?=some l->∃e,e≠pm/\ys[j]?=some (.ref e)/\H e=some (.lst (l.map V.int))):AmD H pm (xs++[.ref c]) (am++[a]):=by
 refine⟨by rw[ji_,ji_,h.1];rfl,fun i r hi=>?_⟩;by_cases aQ:i<am.length
 ·rw[jm_ aQ]at hi;rw[jm_ (by rw[h.1];exact aQ)];exact h.2 i r hi
 ·have:=(jd_.mp hi).1;rw[ji_,jG_]at this;have ei:i=am.length:=by lia
  subst ei;rw[jp_ (jh_ _),qq_]at hi;simp at hi;subst hi;exact⟨c,ys,n1,by rw[<-h.1];simp,e2,e3,e4⟩
noncomputable def RL (K:α3):Sp:=fun vs H Q _=>∃(h:Addr) (p:Int) (L d:Nat) (first last:α2) (tables:α0),vs=[.ref h]/\Pr p/\SumH K H h p L first tables last/\WfSum p L d first tables last/\L<=6/\d<=16/\∀q lw lm zs xs F ws am H',Same H H'->SqT K H' q [.ref lw,.ref lm]->H' lw=some (.lst zs)->Aq K H' zs ws->H' lm=some (.lst xs)->AmD H' lm xs am->AmF p L d (Mine.rowS p d tables first) ws am->BW p L d tables first F F.length ws->ws.length<=d->Q (.ref q) H'
def LY:⋯ EE.j36 6 ["house"] (RL K):=by
 delta EE.j36 Br
 ·obtain⟨h,p,L,d,first,last,tables,rfl,_⟩:=h;rfl
 ·obtain⟨h,p,L,d,first,last,tables,rfl,hp,hh,wf,bR,aI,k⟩:=h;have hl:=An;have aR:=hp.1;obtain⟨tf,tt,tl,h1,h2,h3,h4⟩:=id hh;refine⟨_,(Ad (Ak (i:=1) Br.nd (Ag (DQ EE) hr.d Aw (Aa (pvD 0) Ac)))
   (Ad (Ak (i:=2) Br.nd (Ar (IG rfl) rfl EE.list qd_ (Aa (Rj (pvD 1)) Ac)))
   (Ad (Ak (i:=3) Br.nd (CU Ac))
   (Ad (A3 jN_ rfl (Ba (pvD 2)) (Al (i:=4) Br.nd rfl (ph rfl))
   (Ad (BJ (i:=5) Br.nd rfl rfl rfl (Ay rfl) (cp:=Fo) ⟨⟨rfl,rfl⟩,⟨⟨rfl,rfl⟩,oX⟩⟩ (AF rfl EE.range (Aa (Aj (ixTD Ao) (pvD 0) Ae) Ac)) (fun _ _ _ _=>(Al (i:=0) Ho rfl (oY rfl))) (fun _ _ _ _=>AJ) (fun _ _ _ _=>(Ag (Hx EE) hr.d Aw (Aa (pvD 1) (Aa (pvD 2) (Aa (pvD 0) Ac))))))
   (Af (Bx (Ka qh_ qb_ qc_ By (pvD 3) (Aa (Ag (Bh EE) hr.d Aw (Aa (Aj (ixTD Ao) (pvD 0) Ae) (Aa (pvD 2) (Aa (pvD 5) (Aa (Am (lenD Ai) (by rfl) EE.len jF_ (Aa (Aj (ixTD Ao) (pvD 0) Ae) Ac)) Ac))))) Ac))))))
   (Af (Ap (AW (Aa (Ar (Bi rfl) rfl EE.list qd_ (Aa (pvD 1) Ac)) (Aa (pvD 3) Ac))))))))),?_⟩
  nofun;refine⟨h,p,L,d,first,last,tables,rfl,hp,hh,wf,bR,aI,fun q kvs F ws H1 s1 hq hqN rd bw eC=>?_⟩;show (fun x H1=>_) (V.ref q) H1;nofun;refine⟨kvs,.inl hq,fun v hv=>⟨q,Ab,kvs,.inl (Same.new hv _ _ hq),fun l cz=>⟨by lia,fun pm iQ=>?_⟩⟩⟩;obtain⟨R,dj⟩:∃R:α2->α2,R=Mine.rowS p d tables first:=⟨_,rfl⟩
  rw[<-dj]at rd;have jy:∀v,(R v).length=d/\∀y∈R v,0<=y/\y<p:=fun v=>by rw[dj];exact wf.row v
  have nH:∀v x,R (v++[x])=Fd p d tables (R v) x:=fun v x=>by rw[dj];unfold Mine.rowS;rw[j0_];rfl
  have sV:=Same.new hv (o:=Ke v q);have s2:=(s1.trans sV).newT cz (o:=.lst (kvs.map (·.2)));have s3:=s2.newT iQ (o:=.lst []);have aU:=(sV.newT cz (o:=.lst (kvs.map (·.2)))).newT iQ (o:=.lst []);have hpmN:H pm=none:=s2.gone' iQ;have nL:upd (upd (upd H1 v (Ke v q)) l (.lst (kvs.map (·.2)))) pm (.lst []) l=some (.lst (kvs.map (·.2))):=Same.new iQ _ _ Ab;have u_m:upd (upd (upd H1 v (Ke v q)) l (.lst (kvs.map (·.2)))) pm (.lst []) pm=some (.lst []):=Ab;generalize upd (upd (upd H1 v (Ke v q)) l (.lst (kvs.map (·.2)))) pm (.lst [])=H3 at s3 aU nL u_m ⊢;have iN:l≠pm:=fun z=>by rw[z]at cz iQ;rw[Ab]at iQ;cases iQ
  have ar:(kvs.map (·.2)).length=ws.length:=by have:=rd.2.1;rw[ja_ (f:=R)]at this;exact this
  obtain⟨Pv,aj⟩:∃Pv:Nat->St->Hp->Prop,∀i af H',Pv i af H'↔(∃(xs:List V) (am:α0) (o4 o5:Option V),Same H H'/\H' q=some (.dT kvs)/\AR K H' (kvs.map (·.2)) (ws.map R)/\H' l=some (.lst (kvs.map (·.2)))/\H' pm=some (.lst xs)/\AmD H' pm xs am/\am.length=i/\(∀(j:Nat) (a:α1) (v:α2),am[j]?=some a->ws[j]?=some v->a.length=L/\∀(x:Nat) (g:α2),a[x]?=some g->HY p L d R ws (v++[(x:Int)]) g)/\af=[some (.ref h),some (.ref q),some (.ref l),some (.ref pm),o4,o5]):=⟨_,fun _ _ _=>j8_⟩;refine⟨⟨_,SqL.of nL⟩,?_⟩;refine forL (xs:=kvs.map (·.2)) Pv ((aj _ _ _).mpr ⟨[],[],none,none,s3,aU _ _ hq,rd.2.mono2 fun t ys z=>aU.seqT z,nL,u_m,⟨rfl,fun i a hi=>by simp at hi⟩,rfl,fun j a v hj=>by simp at hj,rfl⟩) (fun i af H' _ h'=>by obtain⟨_,_,_,_,_,_,_,z,_⟩:=(aj _ _ _).mp h';exact SqL.of z) (fun i x af H' hx h'=>?_) (fun af H' h'=>?_)
  ·obtain⟨xs,am,o4,o5,g1,g2,g3,g4,g5,g6,g7,g8,rfl⟩:=(aj _ _ _).mp h';have nM:i<ws.length:=by rw[<-ar];exact (jd_.mp hx).1
   have cu:ws[i]?=some ws[i]:=by simp
   obtain⟨tr,et,hrow⟩:=g3.2 i (R ws[i]) (by rw[jf_,cu];rfl);rw[hx]at et;cases et;generalize ws[i]=w0 at cu hrow;have fJ:w0∈ws:=jj_ cu;nofun;refine⟨_,g1.seqT h1,V.int L,rfl,(L:Int),rfl,by lia,by lia,Hd (fun j ys ag H2=>Same H' H2/\AR K H2 ys ((oW j).map fun (x:Nat)=>R (w0++[(x:Int)]))/\∃o,ag=[o,some (.ref h),some (.ref tr)]) ⟨Same.refl _,⟨rfl,fun i r hi=>by simp at hi⟩,none,rfl⟩ s!"" (fun j ys ag H2 hj h2=>by have:=h2.2.1.1;rw[ja_,jI_]at this;lia) (fun j ys ag H2 hj h2=>?_) (fun ys ag H2 h2 D hD=>?_)⟩
   ·obtain⟨kr,hy,o,rfl⟩:=h2;rw[qf_];nofun;refine⟨h,tr,p,L,j,d,first,last,R w0,tables,rfl,(hh.mono g1).mono kr,wf,kr.seqT hrow,(jy w0).1,(jy w0).2,by lia,by lia,fun u H5 s5 hu=>⟨kr.trans s5,?_,_,rfl⟩⟩;rw[j4_,jg_];refine AR.snoc (hy.mono2 fun t ys z=>s5.seqT z) ?_;show SqT K H5 u ((R (w0++[(j:Int)])).map V.int);rw[nH];exact SqT.of hu
   ·obtain⟨kr,hy,o,rfl⟩:=h2;rw[show ((L:Int)).toNat=L by lia]at hy;have sD:=kr.newT hD (o:=.lst ys);have uD:upd H2 D (.lst ys) D=some (.lst ys):=Ab;have ku:=hy.mono2 fun t zs z=>(Same.new hD (o:=.lst ys)).seqT z;generalize upd H2 D (.lst ys)=H4 at sD uD ku ⊢;have q4:=sD _ _ g5;have dA:=g1.trans sD;refine⟨.inl ⟨rfl,_,SqL.of q4⟩,_,dA.seqT h1,V.int p,rfl,_,dA.seqT h1,V.ref tf,rfl,tf,rfl,_,.inr (dA.seqT h2),?_⟩;rw[ja_,wf.f.1];refine⟨p,false,l,D,d,kvs.map (·.2),ys,ws.map R,(oW L).map fun (x:Nat)=>R (w0++[(x:Int)]),rfl,hp,SqL.of (sD _ _ g4),g3.mono2 fun t zs z=>sD.seqT z,fun r hr=>by obtain⟨v,_,rfl⟩:=jo_.mp hr;exact (jy v).1,SqL.of uD,ku,fun r hr=>by obtain⟨v,_,rfl⟩:=jo_.mp hr;exact (jy _).1,by lia,by rw[ja_];lia,by rw[ja_,jI_];lia,fun c zs bs H5 s5 hcN hc sn gr=>?_⟩;have q5:=s5 _ _ q4;have gL:c≠pm:=fun z=>by rw[z,q4]at hcN;cases hcN
    have bN:=sD.trans s5;have hgood:∀x:Nat,x<L->∃g,HY p L d R ws (w0++[(x:Int)]) g/\∃e,e≠pm/\zs[x]?=some (.ref e)/\H5 e=some (.lst (g.map V.int)):=fun x df=>by
     have hf:w0++[(x:Int)]∈F:=bw.kids w0 fJ x s!"" s!"";rw[dj]at sn;obtain⟨gs,gg⟩:=UW hp wf bw sn hf;rw[<-dj]at gs gg;rcases gr.2 x (R (w0++[(x:Int)])) (by rw[jf_,jO_ df];rfl) with ⟨_,e,e1,e2⟩|⟨z,_⟩
     ·refine⟨_,gg,e,fun z=>?_,e1,e2⟩;rw[z,q5]at e2;have e3:=HO.lst.inj (jC_ e2);have nN:=gg.1;have cx:xs.length=ws.length:=by rw[e3,ja_,nN]
      have cc:=g6.1;lia
     ·exact absurd gs z
    obtain⟨ga,lJ⟩:∃ga:α1,ga.length=L/\∀(x:Nat) (g:α2),ga[x]?=some g->HY p L d R ws (w0++[(x:Int)]) g/\∃e,e≠pm/\zs[x]?=some (.ref e)/\H5 e=some (.lst (g.map V.int)):=by
     have key:∀n:Nat,n<=L->∃ga:α1,ga.length=n/\∀(x:Nat) (g:α2),ga[x]?=some g->HY p L d R ws (w0++[(x:Int)]) g/\∃e,e≠pm/\zs[x]?=some (.ref e)/\H5 e=some (.lst (g.map V.int)):=fun n=>by
      induction n with
      |zero=>exact fun _=>⟨[],rfl,fun x g hg=>by simp at hg⟩
      |succ n ih=>
       intro hn;obtain⟨ga,e1,e2⟩:=ih s!"";obtain⟨g,hg⟩:=hgood n s!"";refine⟨ga++[g],by rw[ji_,e1];rfl,fun x g' df=>?_⟩;by_cases hxn:x<n
       ·rw[jm_ s!""]at df;exact e2 x g' df
       ·have:=(jd_.mp df).1;rw[ji_,jG_]at this;have ex:x=n:=by lia
        subst ex;rw[jp_ s!"",e1,qq_]at df;simp at df;subst df;exact hg
     exact key L (jh_ _)
    have zl:zs.length=ga.length:=by rw[gr.1,ja_,jI_,lJ.1]
    have cc:=g6.1;refine⟨xs,q5,by lia,(aj _ _ _).mpr ⟨_,am++[ga],_,_,(dA.trans s5).over hpmN,?_,(g3.mono2 fun t zs z=>bN.seqT z).mono2 fun t zs z=>Bq q5 z,?_,Ab,?_,by rw[ji_,g7];rfl,fun j a v hj gu=>?_,rfl⟩⟩
    ·rw[Au (fun z=>by have:=bN _ _ g2;rw[z,q5]at this;cases this)];exact bN _ _ g2
    ·rw[Au iN];exact bN _ _ g4
    ·refine (g6.mono fun a ys ha z=>?_).snoc (c:=c) gL ?_ zl fun j g hj=>?_
     ·rw[Au ha];exact bN _ _ z
     ·rw[Au gL];exact hc
     ·obtain⟨_,e,n2,e1,e2⟩:=lJ.2 j g hj;exact⟨e,n2,e1,by rw[Au n2];exact e2⟩
    ·by_cases iO:j<am.length
     ·rw[jm_ iO]at hj;exact g8 j a v hj gu
     ·have:=(jd_.mp hj).1;rw[ji_,jG_]at this;have ej:j=i:=by lia
      subst ej;rw[jp_ s!"",g7,qq_]at hj;simp at hj;subst hj;rw[cu]at gu;cases gu;exact⟨lJ.1,fun x g hg=>(lJ.2 x g hg).1⟩
  ·obtain⟨xs,am,o4,o5,g1,g2,g3,g4,g5,g6,g7,g8,rfl⟩:=(aj _ _ _).mp h';rw[ar]at g7;nofun;refine⟨kvs,.inl g2,fun lw rs iR fK aM=>⟨by lia,fun z hz=>?_⟩⟩;have sZ:=(Same.new iR (o:=.lst rs)).newT hz (o:=.tup [V.ref lw,V.ref pm]);rw[dj]at g8;refine k z lw pm rs xs F ws am _ (g1.trans sZ) (SqT.of Ab) (Same.new hz _ _ Ab) ⟨?_,fun i v hi=>?_⟩ (sZ _ _ g5) (g6.mono fun a ys _ z=>sZ _ _ z) ⟨g7,g8⟩ bw eC
   ·rw[fK];rw[ja_]at ar;exact ar
   ·have hk:(kvs.map (·.1))[i]?=some (wkey v):=by rw[rd.1,jf_,hi];rfl
    rw[jf_]at hk;cases e:kvs[i]? with
    |none=>rw[e]at hk;cases hk
    |some kv=>
     rw[e]at hk;obtain⟨t,e1,e2⟩:=aM i kv.1 kv.2 e;refine⟨t,e1,sZ _ _ ?_⟩;rw[e2,show kv.1=wkey v from jC_ hk,BE]
def FZ (hi:i<n):(CM p ae am n).getD i 0=dotW am (colW ae i)%p:=by
 unfold CM;rw[jc_,jf_,jO_ hi];rfl
def RM (p:Int)(ae:α1)(am:α2)(n:Nat):cg p (CM p ae am n) ((oW n).map fun c=>dotW am (colW ae c)):=by
 unfold CM;exact cg.map fun c _=>jR_ _ (qn_ p)
def LZ (hl:r.length=d) (h:∀i:Nat,i<d->r.getD i 0%p=f i%p):cg p r ((oW d).map f):=by
 have e:r=(oW d).map fun i=>r.getD i 0:=by
  refine j2_ fun i=>?_;by_cases hi:i<d
  ·rw[jf_,jO_ hi,jb_ (show i<r.length by lia)];show some _=some (r.getD i 0);rw[jc_,jb_ (show i<r.length by lia)];rfl
  ·rw[jt_ s!"",jt_ (by simp;lia)]
 rw[e];exact cg.map fun i hi=>h i (j3_.mp hi)
def X1 {p:Int}{L d x:Nat}{tables:α0}{first last:α2}{ws:α1}(wf:WfSum p L d first tables last){W:α1}{tv r:α2}(hx:x<L)
  (hW:W.length=ws.length) (hg:∀(i:Nat) (g v:α2),W[i]?=some g->ws[i]?=some v->HY p L d (Mine.rowS p d tables first) ws (v++[(x:Int)]) g) (kx:tv.length=ws.length) (hr:r.length=d)
  (he:∀i:Nat,i<d->r.getD i 0%p=dotW tv (colW (ws.map (Mine.rowS p d tables first)) i)%p):
  ∀c:Nat,c<d->(Fd p d tables r x).getD c 0%p=dotW (CM p W tv ws.length) (colW (ws.map (Mine.rowS p d tables first)) c)%p:=fun c hc=>by
 have p2:=wf.p2;have aY:(colW (ws.map (Mine.rowS p d tables first)) c).length=ws.length:=by rw[CY,ja_]
 have lK:∀g∈W,g.length=ws.length:=fun g hg'=>by
  obtain⟨i,hi⟩:=j7_.mp hg';have aQ:i<ws.length:=by rw[<-hW];exact (jd_.mp hi).1
  exact (hg i g ws[i] hi (by simp)).1
 have hT:(tables.getD ((x:Int)).toNat []).length=d/\∀q∈tables.getD ((x:Int)).toNat [],q.length=d:=by
  have jA:x<tables.length:=by have:=wf.t;lia
  rw[show ((x:Int)).toNat=x by lia,jc_,jb_ jA];exact wf.tt _ (jy_ jA)
 -- dE right side
 rw[cg.dot (RM p W tv ws.length) (cg.refl p (colW (ws.map (Mine.rowS p d tables first)) c)),DK aY W tv lK (by rw[kx,hW])];have hR:cg p (W.map fun g=>dotW (colW (ws.map (Mine.rowS p d tables first)) c) g) (ws.map fun v=>(Mine.rowS p d tables first (v++[(x:Int)])).getD c 0):=by
  unfold cg;rw[jJ_,jJ_];refine j2_ fun i=>?_;rw[jf_,jf_];by_cases hi:i<ws.length
  ·rw[jb_ (show i<W.length by lia),jb_ hi];have:=(hg i W[i] ws[i] (by simp) (by simp)).2.2.1 c hc;rw[AL]at this;exact xd_ some this.symm
  ·rw[jt_ s!"",jt_ s!""];rfl
 rw[cg.dot (cg.refl p tv) hR]
 -- dE left side
 unfold Fd;rw[FZ hc,jR_ _ (qn_ p)];rw[cg.dot (LZ hr he) (cg.refl p (colW (tables.getD ((x:Int)).toNat []) c)),DK (by rw[CY];exact hT.1) (ws.map (Mine.rowS p d tables first)) tv (fun q hq=>by obtain⟨v,_,rfl⟩:=jo_.mp hq;exact (wf.row v).1) (by rw[ja_,kx]),jJ_];refine cg.dot (cg.refl p tv) (cg.map fun v _=>?_);show dotW _ (Mine.rowS p d tables first v)%p=_;rw[AL];have e:Mine.rowS p d tables first (v++[(x:Int)])=Fd p d tables (Mine.rowS p d tables first v) x:=by unfold Mine.rowS;rw[j0_];rfl
 rw[e];unfold Fd;rw[FZ hc,jR_ _ (qn_ p)]
structure Hs where
 d:Nat
 f:α2
 t:α0
 l:α2
noncomputable def Hs.R (h:Hs)(p:Int)(v:α2):α2:=Mine.rowS p h.d h.t h.f v
noncomputable def Hs.W (h:Hs)(p:Int)(v:α2):Int:=dotW h.l (h.R p v)%p
noncomputable def Hs.ok (h:Hs)(p:Int)(L:Nat):Prop:=WfSum p L h.d h.f h.t h.l
noncomputable def Hs.back (h:Hs):Hs:=⟨h.d,h.l,h.t.map (Ci h.d),h.f⟩
def Hs.ok.dim {h:Hs}{p:Int}{L:Nat}(k:h.ok p L){i:Nat}(hi:i<L):Dim h.d (h.t.getD i []):=by
 have aq:i<h.t.length:=by have:=k.t;lia
 rw[jc_,jb_ aq];have:=k.tt _ (jy_ aq);exact⟨this.1,this.2⟩
def Hs.ok.back {h:Hs}{p:Int}{L:Nat}(k:h.ok p L):h.back.ok p L where
 p2:=k.p2
 p18:=k.p18
 dl:=k.dl
 f:=k.l
 l:=k.f
 t:=by show (((h.t.map (Ci h.d)).length:Nat):Int)=L;rw[ja_];exact k.t
 tt:=fun tb ky=>by
  obtain⟨a,ha,rfl⟩:=jo_.mp ky;have:=k.tt a ha;have:=RK (d:=h.d) (tb:=a) ⟨this.1,this.2⟩;exact⟨this.n,this.r⟩
def Hs.row_app (h:Hs)(p:Int)(a e:α2):h.R p (a++e)=Mine.rowS p h.d h.t (h.R p a) e:=by
 unfold Hs.R Mine.rowS;rw[j0_]
def Hs.split {h:Hs}{p:Int}{L:Nat}(k:h.ok p L){a e:α2}(he:isW L e=true):h.W p (a++e)=dotW (h.back.R p e.reverse) (h.R p a)%p:=by
 unfold Hs.W;rw[Hs.row_app,AL];have c1:cg p (Mine.rowS p h.d h.t (h.R p a) e) (rowI h.d h.t (h.R p a) e):=NS (fun i=>cgT.refl p _) e (cg.refl p _);have c2:cg p (h.back.R p e.reverse) (rowI h.d (h.t.map (Ci h.d)) h.l e.reverse):=NS (fun i=>cgT.refl p _) e.reverse (cg.refl p _);rw[cg.dot c1 (cg.refl p h.l),cg.dot c2 (cg.refl p (h.R p a))];have hT:∀i:Nat,i<L->(h.t.map (Ci h.d)).getD i []=Ci h.d (h.t.getD i []):=fun i hi=>by
  have aq:i<h.t.length:=by have:=k.t;lia
  rw[jc_,jf_,jb_ aq,jc_,jb_ aq];rfl
 have key:dotW (rowI h.d h.t (h.R p a) e) h.l=dotW (h.R p a) (rowI h.d (h.t.map (Ci h.d)) h.l e.reverse):=OF (L:=L) hT (fun i hi=>k.dim hi) e (fun x hx=>AM.mp he x hx) (show (h.R p a).length=h.d from (k.row a).1) k.l.1;rw[key,AL]
def Hs.back_W {h:Hs}{p:Int}{L:Nat}(k:h.ok p L){v:α2}(hv:isW L v=true):h.back.W p v.reverse=h.W p v:=by
 have:=Hs.split k (a:=[]) hv;rw[xw_]at this;rw[this];show dotW h.f (h.back.R p v.reverse)%p=_;rw[AL];rfl
def ET (h:isW L v=true):isW L v.reverse=true:=AM.mpr fun x hx=>AM.mp h x (zI_.mp hx)
noncomputable def onB (h:Hs)(p:Int)(L:Nat)(ws:α1)(am:α0):Hs:=⟨ws.length,AQ ws.length 0,(oW L).map fun x=>am.map fun a=>a.getD x [],ws.map (h.W p)⟩
structure OnB (h:Hs)(p:Int)(L:Nat)(F ws:α1)(am:α0):Prop where
 ok:h.ok p L
 pr:Pr p
 bw:BW p L h.d h.t h.f F F.length ws
 am:AmF p L h.d (h.R p) ws am
 sz:ws.length<=h.d
section
variable {h:Hs} {p:Int} {L:Nat} {F ws:α1} {am:α0}
def OnB.tab (o:OnB h p L F ws am) (hx:x<L):((oW L).map fun x=>am.map fun a=>a.getD x []).getD x []=am.map fun a=>a.getD x []:=by
 rw[jc_,jf_,jO_ hx];rfl
def OnB.good (o:OnB h p L F ws am) (hx:x<L)(i:Nat)(g v:α2)(hg:(am.map fun a=>a.getD x [])[i]?=some g)(hv:ws[i]?=some v):HY p L h.d (h.R p) ws (v++[(x:Int)]) g:=by
 rw[jf_]at hg;cases ha:am[i]? with
 |none=>rw[ha]at hg;cases hg
 |some a=>
  rw[ha]at hg;cases hg;obtain⟨b1,b2⟩:=o.am.2 i a v ha hv;refine b2 x _ ?_;show a[x]?=some (a.getD x []);rw[jc_,jb_ (show x<a.length by lia)];rfl
def OnB.okN (o:OnB h p L F ws am):(onB h p L ws am).ok p L where
 p2:=o.ok.p2
 p18:=o.ok.p18
 dl:=jY_ o.sz o.ok.dl
 f:=⟨by show (AQ ws.length 0).length=ws.length;unfold AQ;simp,fun x hx=>by
  obtain⟨i,_,rfl⟩:=jo_.mp hx;have:=o.ok.p2;split<;>lia⟩
 l:=⟨by show (ws.map (h.W p)).length=ws.length;rw[ja_],fun x hx=>by
  obtain⟨v,_,rfl⟩:=jo_.mp hx;have:=o.ok.p2;exact⟨jS_ _ s!"",jM_ _ s!""⟩⟩
 t:=by show ((((oW L).map fun x=>am.map fun a=>a.getD x []).length:Nat):Int)=L;simp
 tt:=fun tb ky=>by
  obtain⟨x,hx,rfl⟩:=jo_.mp ky;have hx:=j3_.mp hx;refine⟨by rw[ja_];exact o.am.1,fun r hr=>?_⟩;obtain⟨i,hi⟩:=j7_.mp hr;have aQ:i<ws.length:=by rw[<-o.am.1];have:=(jd_.mp hi).1;rwa [ja_]at this
  exact (o.good hx i r ws[i] hi (by simp)).1
def MZ (hi:i<n):(AQ n k).getD i 0=if i=k then 1 else 0:=by
 unfold AQ;rw[jc_,jf_,jO_ hi];rfl
def JQ (h:cs.length=n):dotW (AQ n k) cs=cs.getD k 0:=by
 rw[AL];exact Ja cs h
def OnB.rep (o:OnB h p L F ws am):∀(v:α2),isW L v=true->∀c:Nat,c<h.d->(h.R p v).getD c 0%p=dotW ((onB h p L ws am).R p v) (colW (ws.map (h.R p)) c)%p:=by
 have key:∀(n:Nat) (v:α2),v.length=n->isW L v=true->∀c:Nat,c<h.d->(h.R p v).getD c 0%p=dotW ((onB h p L ws am).R p v) (colW (ws.map (h.R p)) c)%p:=fun n=>by
  induction n with
  |zero=>
   intro v hv _ c hc;have:v=[]:=jW_.mp hv;subst this;show h.f.getD c 0%p=dotW (AQ ws.length 0) (colW (ws.map (h.R p)) c)%p;rw[JQ (by rw[CY,ja_])];have iH:0<F.length:=(jd_.mp o.bw.f0).1;by_cases hz:∀i:Nat,i<h.d->h.f.getD i 0%p=0
   ·have:=o.bw.nil0 iH hz;rw[this,hz c hc];simp[colW]
   ·have:=o.bw.nil1 iH hz;cases ws with
    |nil=>cases this
    |cons a t=>cases this;rfl
  |succ n ih=>
   intro v hv hw c hc;obtain⟨u,x,rfl⟩:∃u x,v=u++[x]:=⟨v.dropLast,v.getLast (by intro e;subst e;simp at hv),(qt_ _).symm⟩;have hwu:isW L u=true:=AM.mpr fun y hy=>AM.mp hw y (jQ_ _ hy);have kz:=AM.mp hw x (by simp);obtain⟨x,rfl⟩:=q0_ kz.1;have hx:x<L:=by lia
   have iu:=ih u (by simp at hv;lia) hwu;have e1:h.R p (u++[(x:Int)])=Fd p h.d h.t (h.R p u) x:=by unfold Hs.R Mine.rowS;rw[j0_];rfl
   have e2:(onB h p L ws am).R p (u++[(x:Int)])=CM p (am.map fun a=>a.getD x []) ((onB h p L ws am).R p u) ws.length:=by
    have:(onB h p L ws am).R p (u++[(x:Int)])=Fd p ws.length ((oW L).map fun x=>am.map fun a=>a.getD x []) ((onB h p L ws am).R p u) x:=by unfold Hs.R Mine.rowS;rw[j0_];rfl
    rw[this];unfold Fd;rw[show ((x:Int)).toNat=x by lia,o.tab hx]
   rw[e1,e2];exact X1 (x:=x) o.ok hx (by rw[ja_];exact o.am.1) (o.good hx) (o.okN.row u).1 (o.ok.row u).1 iu c hc
 exact fun v=>key v.length v rfl
def OnB.rowsL (o:OnB h p L F ws am):∀r∈ws.map (h.R p),r.length=h.d:=fun r hr=>by
 obtain⟨v,_,rfl⟩:=jo_.mp hr;exact (o.ok.row v).1
def OnB.worth (o:OnB h p L F ws am) (hv:isW L v=true):(onB h p L ws am).W p v=h.W p v:=by
 have ah:((onB h p L ws am).R p v).length=ws.length:=(o.okN.row v).1;have c1:=LZ (o.ok.row v).1 (o.rep v hv);show dotW (ws.map (h.W p)) ((onB h p L ws am).R p v)%p=dotW h.l (h.R p v)%p;rw[AL h.l,cg.dot (show cg p (h.R p v) _ from c1) (cg.refl p h.l),DK o.ok.l.1 (ws.map (h.R p)) _ o.rowsL (by rw[ja_,ah]),AL,jJ_];refine cg.dot (cg.refl p _) (cg.map fun u _=>?_);show h.W p u%p=dotW h.l (h.R p u)%p;unfold Hs.W;rw[jR_ _ (qn_ p)]
def OnB.unit (o:OnB h p L F ws am) (hv:ws[i]?=some v):(onB h p L ws am).R p v=AQ ws.length i:=by
 have bj:=o.ok.p2;have aQ:i<ws.length:=(jd_.mp hv).1;have hvF:v∈F:=by have:=o.bw.kF v (jj_ hv);rwa [jr_]at this
 have hu:=(o.bw.indep o.pr).uniq (cs:=(onB h p L ws am).R p v) (ds:=AQ ws.length i) (by rw[ja_];exact (o.okN.row v).1) (by rw[ja_];unfold AQ;simp) fun c hc=>by
  have h1:=o.rep v (o.bw.valid v hvF) c hc;rw[JQ (by rw[CY,ja_])];refine h1.symm.trans ?_;have:(colW (ws.map (h.R p)) c).getD i 0=(h.R p v).getD c 0:=by
   unfold colW;rw[jJ_,jc_,jf_,hv];rfl
  exact xd_ (· % p) this.symm
 unfold cg at hu;have e1:((onB h p L ws am).R p v).map (· % p)=(onB h p L ws am).R p v:=by
  conv=>rhs;rw[<-qh ((onB h p L ws am).R p v)]
  exact jD_ fun x hx=>qa_ ((o.okN.row v).2 x hx).1 ((o.okN.row v).2 x hx).2
 have e2:(AQ ws.length i).map (· % p)=AQ ws.length i:=by
  unfold AQ;rw[jJ_];refine jD_ fun j _=>?_;show (if j=i then (1:Int) else 0)%p=_;split
  ·exact qa_ s!"" s!""
  ·simp
 rw[e1,e2]at hu;exact hu
end
def BW.uniq {f0:α2}{F G K J:α1}(hL:0<L)(a:BW p L d tb f0 F F.length K)(b:BW p L d tb f0 G G.length J):K=J:=by
 have fresh:∀{F G K J:α1},BW p L d tb f0 F F.length K->BW p L d tb f0 G G.length J->∀(i:Nat) (u:α2),K[i]?=some u->K.take i=J.take i->(∀v,J[i]?=some v->place L u<place L v)->False:=fun {F G K J} a b i u hu ht ao=>by
  have aQ:=(jd_.mp hu).1;have huK:=jj_ hu;have huF:u∈F:=by have:=a.kF u huK;rwa [jr_]at this
  have huG:u∈G:=by
   rcases a.kPre u huK with h|h
   ·rw[h];exact jj_ b.f0
   ·have aw:u ≠ []\/u=[]:=by by_cases e:u=[]<;>simp[e]
    rcases aw with aw|he
    ·have hx:=AM.mp (a.valid u huF) (u.getLast aw) (List.getLast_mem aw);have e:u=u.dropLast++[u.getLast aw]:=(qt_ aw).symm;have hd:u.dropLast∈K.take i:=by
      obtain⟨j,hj⟩:=j7_.mp h;have nO:=(jd_.mp hj).1;have hW:isW L u.dropLast=true:=AM.mpr fun y hy=>AM.mp (a.valid u huF) y (List.dropLast_subset u hy);have bg:place L u.dropLast<place L u:=by
       rw[show place L u=place L (u.dropLast++[u.getLast aw]) by rw[<-e],Dc];have h0:=QZ hL hW;have:place L u.dropLast*1<=place L u.dropLast*L:=Int.mul_le_mul_of_nonneg_left s!"" h0;lia
      have iO:j<i:=by
       refine rf fun lp=>?_;rcases Nat.lt_or_eq_of_le lp with hlt' | heq
       ·have:=x5_.mp a.kSort i j aQ nO hlt';rw[(jd_.mp hu).2,(jd_.mp hj).2]at this;lia
       ·subst heq;have e2:u=u.dropLast:=jC_ (hu.symm.trans hj);rw[<-e2]at bg;lia
      refine j7_.mpr ⟨j,?_⟩;rw[xa_,if_pos iO];exact hj
     rw[ht]at hd;rw[e];exact b.kids _ (qi hd) _ hx.1 hx.2
    ·rw[he];exact jj_ b.f0
  obtain⟨j,hj,hs,hb⟩:=b.span u (by rwa [jr_]);have iO:j<=i:=by
   refine x7_ fun hgt=>?_;have hiJ:i<J.length:=by lia
   have hv:=ao _ (jb_ hiJ);have:=hb J[i] (j7_.mpr ⟨i,by rw[xa_,if_pos hgt];exact jb_ hiJ⟩);lia
  refine a.free i aQ ?_;rw[ht,jc_,hu];have e:J.take i=J.take j++(J.take i).drop j:=by
   conv=>lhs;rw[<-xU_ j (J.take i)]
   rw[List.take_take,z1_ iO]
  rw[e,jg_];exact hs.app _
 have all:∀i:Nat,K.take i=J.take i:=fun i=>by
  induction i with
  |zero=>rfl
  |succ i ih=>
   rw[rJ,rJ,ih]
   congr 1
   cases hK:K[i]? with
   |none=>
    cases hJ:J[i]? with
    |none=>rfl
    |some v=>exact (fresh b a i v hJ ih.symm fun u hu=>by rw[hK]at hu;cases hu).elim
   |some u=>
    cases hJ:J[i]? with
    |none=>exact (fresh a b i u hK ih fun v hv=>by rw[hJ]at hv;cases hv).elim
    |some v=>
     have br:=a.valid u (by have:=a.kF u (jj_ hK);rwa [jr_]at this);have gu:=b.valid v (by have:=b.kF v (jj_ hJ);rwa [jr_]at this);rcases qN (place L u) (place L v) with h|h|h
     ·exact (fresh a b i u hK ih fun x hx=>by rw[hJ]at hx;cases hx;exact h).elim
     ·rw[QR hL br gu h]
     ·exact (fresh b a i v hJ ih.symm fun x hx=>by rw[hK]at hx;cases hx;exact h).elim
 have:=all (max K.length J.length)
 rwa [qm_ (Nat.le_max_left ..),qm_ (Nat.le_max_right ..)]at this
def X2 (h:cg p a b)(ha:∀x∈a,0<=x/\x<p)(hb:∀x∈b,0<=x/\x<p):a=b:=by
 have key:∀{a:α2},(∀x∈a,0<=x/\x<p)->a.map (· % p)=a:=fun {a} ha=>by
  conv=>rhs;rw[<-qh a]
  exact jD_ fun x hx=>qa_ (ha x hx).1 (ha x hx).2
 unfold cg at h
 rwa [key ha,key hb]at h
def OnB.uniq {am:α0}(hL:0<L)(a:OnB h p L F ws am)(b:OnB h p L G vs bm):ws=vs/\am=bm:=by
 have e:=BW.uniq s!"" a.bw b.bw;subst e;refine⟨rfl,?_⟩;refine j2_ fun i=>?_;by_cases hi:i<ws.length
 ·have h1:i<am.length:=by rw[a.am.1];exact hi
  have h2:i<bm.length:=by rw[b.am.1];exact hi
  rw[jb_ h1,jb_ h2]
  congr 1
  obtain⟨l1,g1⟩:=a.am.2 i _ _ (jb_ h1) (jb_ hi);obtain⟨l2,g2⟩:=b.am.2 i _ _ (jb_ h2) (jb_ hi);refine qI_ (by rw[l1,l2]) fun x gQ iG=>?_;have q1:=g1 x _ (jb_ gQ);have q2:=g2 x _ (jb_ iG);exact X2 ((a.bw.indep a.pr).uniq (by rw[ja_];exact q1.1) (by rw[ja_];exact q2.1) fun c hc=>(q1.2.2.1 c hc).symm.trans (q2.2.2.1 c hc)) q1.2.1 q2.2.1
 ·rw[jt_ (by rw[a.am.1];lia),jt_ (by rw[b.am.1];lia)]
def OG (hp:Pr p):∀a:Int,0<a->a<p->∃inv:Int,inv*a%p=1:=fun a a0 a1=>UU hp.1 a0 (hp.gcd a0 a1)
def Indep.size (hp:Pr p) (h:Indep p n ae)(hl:∀r∈ae,r.length=n):ae.length<=n:=by
 have h1:=RG hp.1 (OG hp) hl;rw[h.chosen hp.1,jI_]at h1;exact h1
def Indep.all {p:Int}(hp:Pr p){n:Nat}{ae:α1}(h:Indep p n ae)(hl:∀r∈ae,r.length=n)(hn:ae.length=n){v:α2}(hv:v.length=n):Span p n ae fun i=>v.getD i 0:=by
 refine xp_ fun gJ=>?_;have hi:Indep p n (ae++[v]):=Indep.of hp.1 (OG hp) _ _ rfl fun i hi=>by
  simp only[ji_,jG_]at hi;by_cases he:i=ae.length
  ·subst he;rw[p0 rfl,jc_,jp_ (jh_ _),qq_];exact gJ
  ·have ao:i<ae.length:=by lia
   rw[qe_ s!"",jc_,jm_ ao,jb_ ao];have h2:Indep p n (ae.take i++[ae[i]]):=by
    rw[List.take_append_getElem];rw[<-xU_ (i+1) ae]at h;exact h.left
   exact h2.not hp.1
 have:=hi.size hp fun r hr=>by
  rcases jH_.mp hr with h|h
  ·exact hl r h
  ·rw[jn_.mp h];exact hv
 simp at this;lia
noncomputable def tabW (h:Hs)(p:Int)(ws es:α1):α1:=ws.map fun a=>es.map fun e=>h.W p (a++e)
def OH (he:es[j]?=some e):colW (tabW h p ws es) j=ws.map fun a=>h.W p (a++e):=by
 unfold colW tabW;rw[jJ_];refine jD_ fun a _=>?_;show (es.map fun e=>h.W p (a++e)).getD j 0=_;rw[jc_,jf_,he];rfl
def RO {h:Hs}{p:Int}{L:Nat}(k:h.ok p L){ws es:α1}{e:α2}(he:isW L e=true){cs:α2}(hc:cs.length=ws.length):dotW cs (ws.map fun a=>h.W p (a++e))%p=dotW ((oW h.d).map fun c=>dotW cs (colW (ws.map (h.R p)) c)) (h.back.R p e.reverse)%p:=by
 have key:dotW ((oW h.d).map fun c=>dotW cs (colW (ws.map (h.R p)) c)) (h.back.R p e.reverse)=dotW cs ((ws.map (h.R p)).map fun r=>dotW (h.back.R p e.reverse) r):=DK (show (h.back.R p e.reverse).length=h.d from (k.back.row e.reverse).1) (ws.map (h.R p)) cs (fun r hr=>by
  obtain⟨v,_,rfl⟩:=jo_.mp hr;exact (k.row v).1) (by rw[ja_,hc])
 rw[key,jJ_];refine cg.dot (cg.refl p _) (cg.map fun a _=>?_);rw[Hs.split k he];exact jR_ _ (qn_ p)
def OnB.ex {h:Hs}{p:Int}{L:Nat}{F ws:α1}(ok:h.ok p L)(pr:Pr p)(bw:BW p L h.d h.t h.f F F.length ws)(sz:ws.length<=h.d):∃am,OnB h p L F ws am:=by
 obtain⟨bs,S,_⟩:=RE pr.1 (OG pr) (x8_ h.d (ws.map (h.R p)).length) (AV (ws.map (h.R p))) (KR fun r hr=>by
  obtain⟨v,_,rfl⟩:=jo_.mp hr;exact (ok.row v).1)
 refine⟨ws.map fun v=>(oW L).map fun x:Nat=>(((Az p bs (h.R p (v++[(x:Int)])++oU (ws.map (h.R p)).length 0)).drop h.d).map fun y => -y%p),ok,pr,bw,⟨by rw[ja_],fun i a v ha hv=>?_⟩,sz⟩;rw[jf_,hv]at ha;cases ha;refine⟨by rw[ja_,jI_],fun x l hl=>?_⟩;rw[jf_]at hl;cases hx:(oW L)[x]? with
 |none=>rw[hx]at hl;cases hl
 |some y=>
  rw[hx]at hl;cases hl;have cx:x<L:=by have:=(jd_.mp hx).1;rwa [jI_]at this
  rw[jO_ cx]at hx;cases hx;exact (UW pr ok bw S (bw.kids v (jj_ hv) x s!"" s!"")).2
def Hs.back_back {h:Hs}{p:Int}{L:Nat}(k:h.ok p L):h.back.back=h:=by
 have:(h.t.map (Ci h.d)).map (Ci h.d)=h.t:=by
  rw[jJ_]
  conv=>rhs;rw[<-qh h.t]
  refine jD_ fun a ha=>?_;have:=k.tt a ha;exact PJ ⟨this.1,this.2⟩
 show (⟨h.d,h.f,(h.t.map (Ci h.d)).map (Ci h.d),h.l⟩:Hs)=h;rw[this]
section
variable {h B:Hs} {p:Int} {L:Nat} {F1 F2 F3 aS aE cM:α1} {bJ aT:α0}
def BD {L:Int}{a b:α2}(ha:isW L a=true)(hb:isW L b=true):isW L (a++b)=true:=AM.mpr fun x hx=>by
 rcases jH_.mp hx with h|h
 ·exact AM.mp ha x h
 ·exact AM.mp hb x h
def OnB.wsW (o:OnB h p L F1 aS bJ) (hv:v∈aS):isW L v=true:=o.bw.valid v (by have:=o.bw.kF v hv;rwa [jr_]at this)
def OnB.behind (o:OnB B p L F2 aE aT) (he:isW L e=true):(aE.map fun a=>B.W p (a++e))=(onB B p L aE aT).back.R p e.reverse:=by
 have bj:=o.ok.p2;have hr:WfSum p L aE.length _ _ _:=o.okN.back;have hrow:=hr.row (e.reverse);refine qI_ (by rw[ja_];exact hrow.1.symm) fun i h1 h2=>?_;rw[ja_]at h1;rw[xH_];have hW:isW L (aE[i]++e)=true:=BD (o.wsW (jy_ h1)) he;rw[<-o.worth hW,Hs.split o.okN he,o.unit (jb_ h1)];have e1:dotW ((onB B p L aE aT).back.R p e.reverse) (AQ aE.length i)=((onB B p L aE aT).back.R p e.reverse).getD i 0:=Ja _ hrow.1;have e2:=hrow.2 _ (jy_ h2);have e3:((onB B p L aE aT).back.R p e.reverse).getD i 0=((onB B p L aE aT).back.R p e.reverse)[i]:=by rw[jc_,jb_ h2];rfl
 rw[e1,e3];exact qa_ e2.1 e2.2
def Tn (pr:Pr p)(o1:OnB h.back p L F1 aS bJ)(hB:B=(onB h.back p L aS bJ).back)(o2:OnB B p L F2 aE aT)(b3:BW p L aE.length (onB B p L aE aT).back.t (onB B p L aE aT).back.f F3 F3.length cM)(s3:cM.length<=aE.length):Indep p cM.length (tabW B p aE (cM.map pA)):=by
 obtain⟨am3,o3⟩:=OnB.ex (h:=(onB B p L aE aT).back) o2.okN.back pr b3 s3;intro cs hc h0;have aY:cs.length=aE.length:=by unfold tabW at hc;rwa [ja_]at hc
 have all:∀e:α2,isW L e=true->dotW cs (aE.map fun a=>B.W p (a++e))%p=0:=fun e he=>by
  have c1:cg p ((onB B p L aE aT).back.R p e.reverse) _:=LZ (d:=aE.length) (o3.ok.row e.reverse).1 (o3.rep e.reverse (ET he));have k3:((onB (onB B p L aE aT).back p L cM am3).R p e.reverse).length=cM.length:=(o3.okN.row e.reverse).1;rw[o2.behind he,AL,cg.dot c1 (cg.refl p cs),DK aY (cM.map ((onB B p L aE aT).back.R p)) _ o3.rowsL (by rw[ja_];exact k3),jJ_];refine S7 _ _ fun z hz=>?_;obtain⟨v,hv,rfl⟩:=jo_.mp hz;obtain⟨j,hj⟩:=j7_.mp hv;have nO:=(jd_.mp hj).1;have h1:=h0 j nO;rw[OH (e:=v.reverse) (by rw[jf_,hj];rfl),o2.behind (ET (o3.wsW hv)),zN_]at h1;exact h1
 refine (o2.bw.indep pr) cs (by rw[ja_,aY]) fun i hi=>?_;have aQ:i<aS.length:=by rw[hB]at hi;exact hi
 have gY:=o1.wsW (jy_ aQ);have h1:=all aS[i].reverse (ET gY);rw[RO (es:=[]) o2.ok (ET gY) aY,zN_]at h1;have e1:B.back.R p aS[i]=AQ aS.length i:=by
  rw[hB,Hs.back_back o1.okN];exact o1.unit (jb_ aQ)
 have hBd:B.d=aS.length:=by rw[hB];rfl
 have e2:dotW ((oW B.d).map fun c=>dotW cs (colW (aE.map (B.R p)) c)) (AQ aS.length i)=_:=Ja _ (by rw[ja_,jI_,hBd]);rw[e1,e2,jc_,jf_,jO_ hi]at h1;exact h1
end
def byW {h:Hs}{p:Int}{L:Nat}{F1 aS:α1}{bJ:α0}(ok:h.ok p L)(o1:OnB h.back p L F1 aS bJ){v:α2}(hv:isW L v=true):(onB h.back p L aS bJ).back.W p v=h.W p v:=by
 have h1:=Hs.back_W o1.okN (ET hv);rw[zN_]at h1;rw[h1,o1.worth (ET hv),Hs.back_W ok hv]
def RP {h B:Hs} (ok:h.ok p L)(pr:Pr p)(o1:OnB h.back p L F1 aS bJ)(hB:B=(onB h.back p L aS bJ).back)(o2:OnB B p L F2 aE aT)(b3:BW p L aE.length (onB B p L aE aT).back.t (onB B p L aE aT).back.f F3 F3.length cM)(s3:cM.length<=aE.length):cM.length=aE.length/\Indep p aE.length (tabW h p aE (cM.map pA)):=by
 have h1:=Tn pr o1 hB o2 b3 s3;have hv:∀v∈cM,isW L v=true:=fun v hv=>b3.valid v (by have:=b3.kF v hv;rwa [jr_]at this);have e:tabW B p aE (cM.map pA)=tabW h p aE (cM.map pA):=by
  unfold tabW;refine jD_ fun a ha=>jD_ fun e he=>?_;obtain⟨v,gu,rfl⟩:=jo_.mp he;rw[hB];exact byW ok o1 (BD (o2.wsW ha) (ET (hv v gu)))
 rw[e]at h1;have h2:=h1.size pr fun r hr=>by
  obtain⟨a,_,rfl⟩:=jo_.mp hr;rw[ja_,ja_]
 have h3:cM.length=aE.length:=by unfold tabW at h2;rw[ja_]at h2;lia
 rw[h3]at h1;exact⟨h3,h1⟩
def AR.off66 {K:α3} (hq:H q=some (.lst zs))(h:AR K H xs ae):AR K (upd H q (.lst ys)) xs ae:=⟨h.1,fun i r hi=>by
 obtain⟨t,a,b⟩:=h.2 i r hi;exact⟨t,a,Bq hq b⟩⟩
def Ed.off66 {K:α3}{H:Hp}{q:Addr}{zs ys xs:List V}{tabs:α0}(hq:H q=some (.lst xs))(h:Ed K H zs tabs):Ed K (upd H q (.lst ys)) zs tabs:=⟨h.1,fun i tb hi=>by
 obtain⟨u,us,a,b,c⟩:=h.2 i tb hi;exact⟨u,us,a,Bq hq b,c.off66 hq⟩⟩
noncomputable def Fe (K:α3)(H:Hp)(h:Addr)(p:Int)(L:Nat)(hs:Hs):Prop:=SumH K H h p L hs.f hs.t hs.l
noncomputable def X3 (K:α3):Sp:=fun vs H Q _=>∃(h:Addr) (p:Int) (L:Nat) (hs:Hs),vs=[.ref h]/\Pr p/\Fe K H h p L hs/\hs.ok p L/\L<=6/\hs.d<=16/\∀q F ws am H',Same H H'->OnB hs p L F ws am->Fe K H' q p L (onB hs p L ws am)->Q (.ref q) H'
def JR:⋯ EE.j37 7 ["house"] (X3 K):=by
 delta EE.j37 B3
 ·obtain⟨h,p,L,hs,rfl,_⟩:=h;rfl
 ·obtain⟨h,p,L,hs,rfl,hp,hh,ok,bR,aI,k⟩:=h;have hl:=An;obtain⟨tf,tt,tl,h1,h2,h3,h4⟩:=id hh;refine⟨_,(Ad (Ak (i:=1) B3.nd (Ag (LY EE) hr.d Aw (Aa (pvD 0) Ac)))
   (Ad (Ak (i:=2) B3.nd (Am (lenD Ai) (by rfl) EE.len jF_ (Aa (Aj (ixTD Ao) (pvD 1) Ae) Ac)))
   (Ad (Ak (i:=3) B3.nd (CU Ac))
   (Ad (A3 jN_ rfl (AF rfl EE.range (Aa (Aj (ixTD Ao) (pvD 0) Ae) Ac)) (Al (i:=4) B3.nd rfl (ph rfl))
   (Af (Bx (Ka qh_ qb_ qc_ By (pvD 3) (Aa (Ar Av rfl EE.tuple jw_ (Aa (AA rfl (Ay rfl) (cp:=HU) ⟨⟨rfl,rfl⟩,oX⟩ (Ba (Aj (ixTD Ao) (pvD 1) Ae)) (fun _ _ _ _=>(Al (i:=0) JJ rfl (oY rfl))) (fun _ _ _ _=>AJ) (fun _ _ _ _=>(Ar (BL (K:=K) rfl) rfl EE.tuple jw_ (Aa (Aj (ixLD (Lp (K:=K) rfl)) (pvD 0) (pvD 1)) Ac)))) Ac)) Ac)))))
   (Ad (Ak (i:=5) B3.nd (Ar Av rfl EE.tuple jw_ (Aa (AA rfl (Ay rfl) (cp:=HV) ⟨⟨rfl,rfl⟩,oX⟩ (Ba (Aj (ixTD Ao) (pvD 1) Ae)) (fun _ _ _ _=>(Al (i:=0) JK rfl (oY rfl))) (fun _ _ _ _=>AJ) (fun _ _ _ _=>(Ag (OC EE) hr.d Aw (Aa (pvD 1) (Aa (pvD 0) Ac))))) Ac)))
   (Af (Ap (AW (Aa (Aj (ixTD Ao) (pvD 0) Ae) (Aa (Aj (ixTD Ao) (pvD 0) Ae) (Aa (Ag (JN EE) hr.d Aw (Aa (pvD 2) (Aa Ae Ac))) (Aa (Ar Av rfl EE.tuple jw_ (Aa (pvD 3) Ac)) (Aa (pvD 5) Ac))))))))))))),?_⟩
  nofun;refine⟨h,p,L,hs.d,hs.f,hs.l,hs.t,rfl,hp,hh,ok,bR,aI,fun b lw lm zs xs F ws am H1 s1 hb iR hW iN lL nP bw eC=>?_⟩;have o1:OnB hs p L F ws am:=⟨ok,hp,bw,nP,eC⟩;show (fun x H1=>_) (V.ref b) H1;nofun;have iS:zs.length=ws.length:=hW.1;have cx:xs.length=ws.length:=lL.1.trans nP.1;refine⟨_,hb,_,rfl,lw,rfl,zs,.inl (SqL.of iR),by lia,fun pt lM=>?_⟩;have sP:=Same.new lM (o:=.lst []);have uP:upd H1 pt (.lst []) pt=some (.lst []):=Ab;generalize upd H1 pt (.lst [])=H2 at sP uP ⊢;have s2:=s1.trans sP;refine⟨_,s2.seqT h1,_,rfl,(L:Int),rfl,by lia,by lia,?_⟩;rw[show ((L:Int)).toNat=L by lia];obtain⟨Pv,aj⟩:∃Pv:Nat->St->Hp->Prop,∀i af H',Pv i af H'↔(∃(ys:List V) (o4:Option V),Same H1 H'/\H' pt=some (.lst ys)/\Ed K H' ys (((oW L).map fun x=>am.map fun a=>a.getD x []).take i)/\af=[some (.ref h),some (.ref b),some (.int zs.length),some (.ref pt),o4,none]):=⟨_,fun _ _ _=>j8_⟩;refine forR Pv ((aj _ _ _).mpr ⟨[],none,sP,uP,Ed.nil,rfl⟩) (fun i af H' hi h'=>?_) (fun af H' h'=>?_)
  ·obtain⟨ys,o4,g1,g2,g3,rfl⟩:=(aj _ _ _).mp h';rw[qf_];nofun;refine⟨.inl ⟨rfl,_,SqL.of g2⟩,_,g1.seqT hb,_,rfl,lm,rfl,⟨_,SqL.of (g1 _ _ iN)⟩,Fb (xs:=xs) (fun j us ag H3=>Same H' H3/\AR K H3 us ((am.map fun a=>a.getD i []).take j)/\∃o,ag=[o,some (.int i)]) ⟨Same.refl _,⟨rfl,fun i r hi=>by simp at hi⟩,none,rfl⟩ s!"" (fun j us ag H3 hj h2=>⟨SqL.of (h2.1 _ _ (g1 _ _ iN)),by rw[h2.2.1.1,jz_];lia⟩) (fun j x us ag H3 hx h2=>?_) (fun us ag H3 h2 D hD=>?_)⟩
   ·obtain⟨s3,hy,o,rfl⟩:=h2;have lN:=(jd_.mp hx).1;have iT:j<am.length:=by rw[<-lL.1];exact lN
    have fL:j<ws.length:=by rw[<-cx];exact lN
    obtain⟨c,vs,_,e1,e2,e3,e4⟩:=lL.2 j _ (jb_ iT);obtain⟨b1,_⟩:=nP.2 j _ _ (jb_ iT) (jb_ fL);obtain⟨e,_,f1,f2⟩:=e4 i _ (jb_ (show i<am[j].length by lia));rw[hx]at e1;cases e1;nofun;refine⟨vs,SqL.of (s3 _ _ (g1 _ _ e2)),.ref e,Cq s!"" (by rw[show ((i:Int)).toNat=i by lia];exact f1),e,rfl,_,.inl ⟨SqL.of (s3 _ _ (g1 _ _ f2)),fun l cz=>⟨s3.newT cz,?_,_,rfl⟩⟩⟩;rw[jB_,jf_,jb_ iT];refine AR.snoc (hy.mono (Same.new cz)) ?_;show SqT K _ l ((am[j].getD i []).map V.int);rw[show am[j].getD i []=am[j][i] by rw[jc_,jb_ (show i<am[j].length by lia)];rfl];exact SqT.of Ab
   ·obtain⟨s3,hy,o,rfl⟩:=h2;rw[lL.1,<-ja_ (f:=fun a=>a.getD i []),jr_]at hy;refine⟨D,rfl,_,.inl ⟨SqL.of Ab,fun l cz=>?_⟩⟩;have sD:=(Same.new hD (o:=.lst us)).newT cz (o:=.tup us);have sE:=s3.trans sD;have ul:upd (upd H3 D (.lst us)) l (.tup us) l=some (.tup us):=Ab;have kA:=hy.mono sD;generalize upd (upd H3 D (.lst us)) l (.tup us)=H5 at sD sE ul kA ⊢;have q5:=sE _ _ g2;have hyl:ys.length<=L:=by rw[g3.1,jz_,ja_,jI_];lia
    refine⟨ys,q5,by lia,(aj _ _ _).mpr ⟨_,_,(g1.trans sE).over lM,Ab,?_,rfl⟩⟩;rw[jB_,jf_,jO_ hi];exact Ed.off66 q5 ((g3.mono sE).snoc (SqT.of ul) kA)
  ·obtain⟨ys,o4,g1,g2,g3,rfl⟩:=(aj _ _ _).mp h';nofun;refine⟨_,g1.seqT hb,_,rfl,lw,rfl,⟨_,SqL.of (g1 _ _ iR)⟩,Fb (xs:=zs) (fun j us ag H3=>Same H' H3/\us=((ws.map (hs.W p)).take j).map V.int/\∃o,ag=[o,some (.ref h)]) ⟨Same.refl _,rfl,none,rfl⟩ s!"" (fun j us ag H3 hj h2=>⟨SqL.of (h2.1 _ _ (g1 _ _ iR)),by rw[h2.2.1,ja_,jz_];lia⟩) (fun j x us ag H3 hx h2=>?_) (fun us ag H3 h2 D hD=>?_)⟩
   ·obtain⟨s3,rfl,o,rfl⟩:=h2;have lN:=(jd_.mp hx).1;have fL:j<ws.length:=by lia
    obtain⟨t,e1,e2⟩:=hW.2 j _ (jb_ fL);rw[hx]at e1;cases e1;nofun;have hwd':isW L ws[j]=true:=o1.wsW (jy_ fL);have aU:=g1.trans s3;have ah:ws[j].length<=ws.length:=bw.short _ (by have:=bw.kF _ (jy_ fL);rwa [jr_]at this);refine⟨h,t,p,L,hs.d,hs.f,hs.l,ws[j],hs.t,rfl,(hh.mono (s1.trans aU)),ok,SqT.of (aU _ _ e2),by lia,hwd',fun H4 s4=>⟨s3.trans s4,?_,_,rfl⟩⟩;rw[jB_,jf_,jb_ fL,jg_];rfl
   ·obtain⟨s3,rfl,o,rfl⟩:=h2;rw[show (ws.map (hs.W p)).take zs.length=ws.map (hs.W p) by rw[iS,<-ja_ (f:=hs.W p),jr_]];refine⟨D,rfl,_,.inl ⟨SqL.of Ab,fun l cz=>?_⟩⟩;have sD:=(Same.new hD (o:=.lst ((ws.map (hs.W p)).map V.int))).newT cz (o:=.tup ((ws.map (hs.W p)).map V.int));have sE:=s3.trans sD;have ul:upd (upd H3 D (.lst ((ws.map (hs.W p)).map V.int))) l (.tup ((ws.map (hs.W p)).map V.int)) l=some (.tup ((ws.map (hs.W p)).map V.int)):=Ab;generalize upd (upd H3 D (.lst ((ws.map (hs.W p)).map V.int))) l (.tup ((ws.map (hs.W p)).map V.int))=H5 at sD sE ul ⊢;have iP:=s1.trans (g1.trans sE);refine⟨_,iP.seqT h1,_,rfl,_,iP.seqT h1,_,rfl,?_⟩;rw[iS];refine⟨ws.length,0,rfl,by lia,fun q0 H6 s6 dP=>?_⟩;have g2':=s6 _ _ (sE _ _ g2);refine⟨ys,.inl ⟨SqL.of g2',fun l1 eo=>⟨by lia,fun pz dW=>?_⟩⟩⟩;have s7:=Same.new eo (o:=.tup ys);have u7:upd H6 l1 (.tup ys) l1=some (.tup ys):=Ab;generalize upd H6 l1 (.tup ys)=H7 at s7 u7 dW ⊢;have s8:=Same.new dW (o:=.tup [V.int p,V.int L,V.ref q0,V.ref l1,V.ref l]);have u8:upd H7 pz (.tup [V.int p,V.int L,V.ref q0,V.ref l1,V.ref l]) pz=some (.tup [V.int p,V.int L,V.ref q0,V.ref l1,V.ref l]):=Ab;generalize upd H7 pz (.tup [V.int p,V.int L,V.ref q0,V.ref l1,V.ref l])=H8 at s8 u8 ⊢;have lO:=s7.trans s8;have hT:((oW L).map fun x=>am.map fun a=>a.getD x []).take L=(oW L).map fun x=>am.map fun a=>a.getD x []:=qm_ (by simp);rw[hT]at g3;exact k pz F ws am H8 (iP.trans (s6.trans lO)) o1 ⟨q0,l1,l,SqT.of u8,lO.seqT (SqT.of dP),SqT.of ((s6.trans lO) _ _ ul),(g3.mono (sE.trans (s6.trans lO))).tabs (SqT.of (s8 _ _ u7))⟩
def Fe.mono {K:α3} (x:Fe K H h p L hs)(s:Same H H'):Fe K H' h p L hs:=SumH.mono x s
noncomputable def X4 (K:α3):Sp:=fun vs H Q _=>∃(h:Addr) (p:Int) (L:Nat) (hs:Hs),vs=[.ref h]/\Pr p/\Fe K H h p L hs/\hs.ok p L/\L<=6/\hs.d<=16/\∀q F ws am H',Same H H'->OnB hs.back p L F ws am->Fe K H' q p L (onB hs.back p L ws am).back->Q (.ref q) H'
def HZ:⋯ EE.j38 8 ["house"] (X4 K):=by
 delta EE.j38 MN
 ·obtain⟨h,p,L,hs,rfl,_⟩:=h;rfl
 ·obtain⟨h,p,L,hs,rfl,hp,hh,ok,bR,aI,k⟩:=h;have hl:=An;refine⟨_,(Af (Ap (Ag (ES EE) hr.d Aw (Aa (Ag (JR EE) hr.d Aw (Aa (Ag (ES EE) hr.d Aw (Aa (pvD 0) Ac)) Ac)) Ac)))),?_⟩;nofun;refine⟨h,p,L,hs.d,hs.f,hs.l,hs.t,rfl,hh,ok,by lia,fun b H1 s1 hb=>?_⟩;refine⟨b,p,L,hs.back,rfl,hp,hb,ok.back,bR,aI,fun q F ws am H2 s2 o hq=>?_⟩;have h16:ws.length<=16:=jY_ o.sz aI;exact⟨q,p,L,ws.length,_,_,_,rfl,hq,o.okN,by lia,fun b2 H3 s3 gO=>k b2 F ws am H3 (s1.trans (s2.trans s3)) o gO⟩
noncomputable def PL (K:α3):Sp:=fun vs H Q _=>∃(h:Addr) (p:Int) (L:Nat) (hs:Hs),vs=[.ref h]/\Pr p/\Fe K H h p L hs/\hs.ok p L/\L<=6/\hs.d<=16/\∀q F ws am F2 aE aT H',Same H H'->OnB hs.back p L F ws am->OnB (onB hs.back p L ws am).back p L F2 aE aT->Fe K H' q p L (onB (onB hs.back p L ws am).back p L aE aT)->Q (.ref q) H'
def Gw:⋯ EE.j40 9 ["house"] (PL K):=by
 delta EE.j40 LD
 ·obtain⟨h,p,L,hs,rfl,_⟩:=h;rfl
 ·obtain⟨h,p,L,hs,rfl,hp,hh,ok,bR,aI,k⟩:=h;refine⟨_,(Af (Ap (Ag (JR EE) hr.d Aw (Aa (Ag (HZ EE) hr.d Aw (Aa (pvD 0) Ac)) Ac)))),?_⟩;nofun;refine⟨h,p,L,hs,rfl,hp,hh,ok,bR,aI,fun q F ws am H1 s1 o hq=>?_⟩;exact⟨q,p,L,_,rfl,hp,hq,o.okN.back,bR,jY_ o.sz aI,fun q2 F2 aE aT H2 s2 o2 aH=>k q2 F ws am F2 aE aT H2 (s1.trans s2) o o2 aH⟩
noncomputable def To (K:α3):Sp:=fun vs H Q _=>∃(h:Addr) (p:Int) (L:Nat) (hs:Hs),vs=[.ref h]/\Pr p/\Fe K H h p L hs/\hs.ok p L/\L<=6/\hs.d<=16/\∀q zs F ws am F2 aE H',Same H H'->H' q=some (.lst zs)->Aq K H' zs aE->OnB hs.back p L F ws am->BW p L ws.length (onB hs.back p L ws am).back.t (onB hs.back p L ws am).back.f F2 F2.length aE->aE.length<=ws.length->Q (.ref q) H'
def Kl:⋯ EE.j39 9 ["house"] (To K):=by
 delta EE.j39 Kf
 ·obtain⟨h,p,L,hs,rfl,_⟩:=h;rfl
 ·obtain⟨h,p,L,hs,rfl,hp,hh,ok,bR,aI,k⟩:=h;have hl:=An;refine⟨_,(Af (Ap (Ar (Bi rfl) rfl EE.list qd_ (Aa (Ag (DQ EE) hr.d Aw (Aa (Ag (HZ EE) hr.d Aw (Aa (pvD 0) Ac)) Ac)) Ac)))),?_⟩;nofun;refine⟨h,p,L,hs,rfl,hp,hh,ok,bR,aI,fun q F ws am H1 s1 o hq=>?_⟩;refine⟨q,p,L,ws.length,_,_,_,rfl,hp,hq,o.okN.back,bR,jY_ o.sz aI,fun d kvs F2 aE H2 s2 hd _ rd bw eC=>?_⟩;refine⟨d,rfl,kvs,.inl hd,fun l rs cz ar fK=>?_⟩;have hw:=rd.1.words (K:=K) ar fK;exact k l rs F ws am F2 aE _ ((s1.trans s2).newT cz) Ab (hw.mono (TK.of (Same.new cz))) o bw eC
noncomputable def PM (K:α3):Sp:=fun vs H Q _=>∃(h:Addr) (p:Int) (L:Nat) (hs:Hs),vs=[.ref h]/\Pr p/\Fe K H h p L hs/\hs.ok p L/\L<=6/\hs.d<=16/\∀q zs F ws H',Same H H'->H' q=some (.lst zs)->Aq K H' zs (ws.map pA)->BW p L hs.d hs.back.t hs.back.f F F.length ws->ws.length<=hs.d->Q (.ref q) H'
def Tp:⋯ EE.j41 5 ["least"] (PM K):=by
 delta EE.j41 S5
 ·obtain⟨h,p,L,hs,rfl,_⟩:=h;rfl
 ·obtain⟨h,p,L,hs,rfl,hp,hh,ok,bR,aI,k⟩:=h;have hl:=An;refine⟨_,(Af (Ap (AA rfl (Ay rfl) (cp:=MR) oX (SF (Ag (DQ EE) hr.d Aw (Aa (Ag (ES EE) hr.d Aw (Aa (pvD 0) Ac)) Ac))) (fun _ _ _ _=>(Al (i:=0) MS rfl (oY rfl))) (fun _ _ _ _=>AJ) (fun _ _ _ _=>(MG (K:=K) rfl rfl rfl EE.tuple rfl EE.reversed (pvD 0)))))),?_⟩;nofun;refine⟨h,p,L,hs.d,hs.f,hs.l,hs.t,rfl,hh,ok,by lia,fun b H1 s1 hb=>?_⟩;refine⟨b,p,L,hs.d,_,_,_,rfl,hp,hb,ok.back,bR,aI,fun d kvs F2 aE H2 s2 hd hdN rd bw eC=>?_⟩;refine⟨d,rfl,kvs,hd,fun o=>?_⟩;have cU:=rd.1.len;have hdH:=s1.none hdN;have ud:upd H2 d (.frz o (.dT kvs)) d=some (.frz o (.dT kvs)):=Ab;have s3:=(s1.trans s2).over hdH (o:=.frz o (.dT kvs));generalize upd H2 d (.frz o (.dT kvs))=H3 at ud s3 ⊢;refine Yj (kvs:=kvs) (fun i ys ag H4=>Same H H4/\H4 d=some (.frz o (.dT kvs))/\Aq K H4 ys ((aE.map pA).take i)/\∃o',ag=[o']) ⟨s3,ud,Aq.nil,none,rfl⟩ s!"" (fun i ys ag H4 hi h=>⟨h.2.1,by rw[h.2.2.1.1,jz_];lia⟩) (fun i k' v b ys ag H4 hi h dv=>?_) (fun ys ag H4 h D hD=>?_)
  ·obtain⟨g1,g2,g3,o',rfl⟩:=h;have gW:=(jd_.mp hi).1;have nM:i<aE.length:=by lia
   have e:(kvs.map (·.1))[i]?=(aE.map wkey)[i]?:=by rw[show kvs.map (·.1)=aE.map wkey from rd.1]
   rw[jf_,jf_,hi,jb_ nM]at e;have e:k'=wkey aE[i]:=jC_ e;rw[e,BE]at dv;nofun;refine⟨_,SqT.of dv,fun q hq=>⟨g1.newT hq,Same.new hq _ _ g2,?_,_,rfl⟩⟩;rw[jB_,jf_,jb_ nM];refine Aq.snoc (g3.mono (TK.new hq)) ?_;rw[List.map_reverse];exact Ab
  ·obtain⟨g1,g2,g3,o',rfl⟩:=h;rw[cU,<-ja_ (f:=pA),jr_]at g3;exact k D ys F2 aE _ (g1.newT hD) Ab (g3.mono (TK.new hD)) bw eC
noncomputable def AccR (hs:Hs)(p:Int)(L:Nat)(ws:α1):Prop:=∃F1 aS bJ F2,OnB hs.back p L F1 aS bJ/\BW p L aS.length (onB hs.back p L aS bJ).back.t (onB hs.back p L aS bJ).back.f F2 F2.length ws/\ws.length<=aS.length
structure Pap (hs:Hs)(p:Int)(L:Nat)(ws ends gs:α1):Prop where
 acc:AccR hs p L ws
 wW:∀v∈ws,isW L v=true/\v.length<=16
 n16:ws.length<=16
 len:ends.length=ws.length
 eW:∀e∈ends,isW L e=true/\e.length<ws.length
 ind:Indep p ws.length (tabW hs p ws ends)
 gl:gs.length=ws.length
 gs:∀(k:Nat) (g:α2),gs[k]?=some g->g.length=ws.length/\(∀x∈g,0<=x/\x<p)/\CM p (tabW hs p ws ends) g ws.length=AQ ws.length k
def X5 (hp:Pr p)(hi:Indep p n ae)(hl:∀r∈ae,r.length=n)(hn:ae.length=n) (S:Seen p (n+ae.length) n (AV ae) bs):Span p n ae (fun i=>(AQ n k).getD i 0)/\∃g:α2,((Az p bs (AQ n k++oU ae.length 0)).drop n).map (fun y => -y%p)=g/\g.length=n/\(∀x∈g,0<=x/\x<p)/\CM p ae g n=AQ n k:=by
 have aR:=hp.1;have kB:(AQ n k).length=n:=by unfold AQ;simp
 have bx:=hi.all hp hl hn kB;obtain⟨cs,hc,he⟩:=id bx;have fE:∀i:Nat,i<n->(AQ n k).getD i 0%p=dotW (cs.map (· % p)) (colW ae i)%p:=fun i hi=>by
  rw[he i hi];refine cg.dot ?_ (cg.refl p _);unfold cg;rw[jJ_];exact (jD_ fun y _=>by show y%p=(y%p)%p;rw[jR_ _ (qn_ p)])
 have dM:∀x∈cs.map (· % p),0<=x/\x<p:=fun x hx=>by
  obtain⟨y,_,rfl⟩:=jo_.mp hx;exact⟨jS_ _ s!"",jM_ _ s!""⟩
 refine⟨bx,cs.map (· % p),RD (show 0<p by lia) hl hi S kB (by rw[ja_,hc]) dM fE,by rw[ja_,hc,hn],dM,?_⟩;unfold CM AQ;refine jD_ fun c hc=>?_;have hc:=j3_.mp hc;rw[<-fE c hc,MZ hc];split
 ·exact qa_ s!"" s!""
 ·simp
def BW.shorter (hL:0<L)(b:BW p L d tb f F F.length ws) (hv:v∈ws):v.length<ws.length:=by
 have:=b.short _ (b.kids v hv 0 s!"" hL);rw[ji_]at this;simp at this;lia
def BW.wsW (b:BW p L d tb f F F.length ws) (hv:v∈ws):isW L v=true:=b.valid v (by have:=b.kF v hv;rwa [jr_]at this)
noncomputable def PN (K:α3):Sp:=fun vs H Q _=>∃(h:Addr) (p:Int) (L:Nat) (hs:Hs),vs=[.ref h]/\Pr p/\Fe K H h p L hs/\hs.ok p L/\1<=L/\L<=6/\hs.d<=16/\∀q la le lu zs es us ws ends gs H',Same H H'->SqT K H' q [.ref la,.ref le,.ref lu]->H' la=some (.lst zs)->Aq K H' zs ws->H' le=some (.lst es)->Aq K H' es ends->H' lu=some (.lst us)->us.length=gs.length->(∀(i:Nat) (g:α2),gs[i]?=some g->∃e,us[i]?=some (.ref e)/\H' e=some (.lst (g.map V.int)))->Pap hs p L ws ends gs->Q (.ref q) H'
def L3:⋯ EE.j42 10 ["house"] (PN K):=by
 delta EE.j42 Bt
 ·obtain⟨h,p,L,hs,rfl,_⟩:=h;rfl
 ·obtain⟨h,p,L,hs,rfl,hp,hh,ok,gZ,bR,aI,k⟩:=h;have hl:=An;obtain⟨tf,tt,tl,h1,h2,h3,h4⟩:=id hh;refine⟨_,(Ad (Ak (i:=1) Bt.nd (Ag (Kl EE) hr.d Aw (Aa (pvD 0) Ac)))
   (Ad (BS (i:=2) Bt.nd rfl (ph rfl) (Ag (Tp EE) hr.d Aw (Aa (Ag (Gw EE) hr.d Aw (Aa (pvD 0) Ac)) Ac)))
   (Ad (BS (i:=3) Bt.nd rfl (ph rfl) (Am (lenD Ai) (by rfl) EE.len jF_ (Aa (pvD 1) Ac)))
   (Ad (BJ (i:=4) Bt.nd rfl rfl rfl (Ay rfl) (cp:=Fp) ⟨⟨rfl,rfl⟩,⟨⟨rfl,rfl⟩,oX⟩⟩ (Ba (pvD 1)) (fun _ _ _ _=>(Al (i:=0) Hq rfl (ph rfl))) (fun _ _ _ _=>AJ) (fun _ _ _ _=>(Ar (BL (K:=K) rfl) rfl EE.tuple jw_ (Aa (AA rfl (Ay rfl) (cp:=Fq) ⟨⟨rfl,rfl⟩,⟨⟨rfl,rfl⟩,oX⟩⟩ (SM (K:=K) rfl (pvD 2)) (fun _ _ _ _=>(Al (i:=0) Hr rfl (oY rfl))) (fun _ _ _ _=>AJ) (fun _ _ _ _=>(Ag (OC EE) hr.d Aw (Aa (pvD 1) (Aa (As (CD (K:=K) rfl) (pvD 2) (pvD 0)) Ac))))) Ac))))
   (Ad (BJ (i:=5) Bt.nd rfl rfl rfl (Ay rfl) (cp:=Fs) ⟨⟨rfl,rfl⟩,oX⟩ (AF rfl EE.range (Aa (pvD 3) Ac)) (fun _ _ _ _=>(Al (i:=0) Ht rfl (oY rfl))) (fun _ _ _ _=>AJ) (fun _ _ _ _=>(Ag (JN EE) hr.d Aw (Aa (pvD 1) (Aa (pvD 0) Ac)))))
   (Af (Ap (AW (Aa (pvD 1) (Aa (pvD 2) (Aa (Ag (Bh EE) hr.d Aw (Aa (Aj (ixTD Ao) (pvD 0) Ae) (Aa (pvD 4) (Aa (pvD 5) (Aa (pvD 3) Ac))))) Ac))))))))))),?_⟩
  nofun;refine⟨h,p,L,hs,rfl,hp,hh,ok,bR,aI,fun la zs F1 aS bJ F2 ws H1 s1 lP hW o1 b2 gY=>?_⟩;show (fun x H1=>_) (V.ref la) H1;nofun;refine⟨h,p,L,hs,rfl,hp,hh.mono s1,ok,bR,aI,fun m F1' ws1' am1' F2' ws2' aT H2 s2 o1' o2 hm=>?_⟩;obtain⟨rfl,rfl⟩:=OnB.uniq s!"" o1 o1';obtain rfl:ws=ws2':=BW.uniq s!"" b2 o2.bw;refine⟨m,p,L,_,rfl,hp,hm,o2.okN,bR,jY_ gY (jY_ o1.sz aI),fun le es F3 cM H3 s3 cG hE b3 hw3=>?_⟩;obtain⟨ah,iU⟩:=RP ok hp o1 rfl o2 b3 hw3;have h16:ws.length<=16:=jY_ gY (jY_ o1.sz aI);show (fun x H1=>_) (V.ref le) H3;nofun;have aU:=s1.trans (s2.trans s3);have gv:=(s2.trans s3) _ _ lP;have iS:zs.length=ws.length:=hW.1;have dB:es.length=ws.length:=by rw[hE.1,ja_,ah]
  have iV:=hW.mono (TK.of (s2.trans s3));obtain⟨ends,ff⟩:∃ends,ends=cM.map pA:=⟨_,rfl⟩;rw[<-ff]at hE iU;have gw:ends.length=ws.length:=by rw[ff,ja_,ah]
  have hV:∀e∈ends,isW L e=true/\e.length<ws.length:=fun e he=>by
   rw[ff]at he;obtain⟨v,hv,rfl⟩:=jo_.mp he;refine⟨ET (b3.wsW hv),?_⟩;rw[zW_,<-ah];exact b3.shorter s!"" hv
  have bA:∀v∈ws,isW L v=true/\v.length<=16:=fun v hv=>⟨b2.wsW hv,by have:=b2.shorter s!"" hv;lia⟩;refine⟨zs,.inl (SqL.of gv),⟨_,SqL.of gv⟩,Fb (xs:=zs) (fun j ys ag H4=>Same H3 H4/\AR K H4 ys ((tabW hs p ws ends).take j)/\∃o,ag=[o,some (.ref h),some (.ref le)]) ⟨Same.refl _,⟨rfl,fun i r hi=>by simp at hi⟩,none,rfl⟩ s!"" (fun j ys ag H4 hj h=>⟨SqL.of (h.1 _ _ gv),by rw[h.2.1.1,jz_];lia⟩) (fun j x ys ag H4 hx h=>?_) (fun ys ag H4 h D hD=>?_)⟩
  ·obtain⟨s4,hy,o,rfl⟩:=h;have lN:=(jd_.mp hx).1;have fL:j<ws.length:=by lia
   obtain⟨t,e1,e2⟩:=iV.2 j _ (jb_ fL);rw[hx]at e1;cases e1;obtain⟨v,hv⟩:∃v,v=ws[j]:=⟨_,rfl⟩;have lQ:=bA ws[j] (jy_ fL);rw[<-hv]at e2 lQ;nofun;have hle4:=s4 _ _ cG;refine⟨⟨_,SqL.of hle4⟩,Fb (xs:=es) (fun i us aJ H5=>Same H4 H5/\us=((ends.map fun e=>hs.W p (v++e)).take i).map V.int/\∃o,aJ=[o,some (.ref h),some (.ref t)]) ⟨Same.refl _,rfl,none,rfl⟩ s!"" (fun i us aJ H5 hi h=>⟨SqL.of (h.1 _ _ hle4),by rw[h.2.1,ja_,jz_];lia⟩) (fun i x us aJ H5 hx h=>?_) (fun us aJ H5 h D hD=>?_)⟩
   ·obtain⟨s5,rfl,o,rfl⟩:=h;have eh:=(jd_.mp hx).1;have nQ:i<ends.length:=by lia
    obtain⟨t2,e3,e4⟩:=hE.2 i _ (jb_ nQ);rw[hx]at e3;cases e3;obtain⟨q1,q2⟩:=hV _ (jy_ nQ);nofun;have e2':=(s4.trans s5) _ _ e2;have e4':=(s4.trans s5) _ _ e4;have hap:isW L (v++ends[i])=true:=BD lQ.1 q1;refine A0.ofS e2' e4' (by rw[ja_,ja_];lia) fun q H6 s6 hq=>?_;rw[<-jg_]at hq;refine⟨h,q,p,L,hs.d,hs.f,hs.l,v++ends[i],hs.t,rfl,hh.mono (aU.trans ((s4.trans s5).trans s6)),ok,SqT.of hq,by rw[ji_];lia,hap,fun H7 s7=>⟨s5.trans (s6.trans s7),?_,_,rfl⟩⟩;rw[jB_,jf_,jb_ nQ,jg_];rfl
   ·obtain⟨s5,rfl,o,rfl⟩:=h;rw[show (ends.map fun e=>hs.W p (v++e)).take es.length=ends.map fun e=>hs.W p (v++e) by rw[dB,<-gw,<-ja_ (f:=fun e=>hs.W p (v++e)),jr_]];refine⟨D,rfl,_,.inl ⟨SqL.of Ab,fun l cz=>?_⟩⟩;refine⟨(s4.trans s5).trans ((Same.new hD).newT cz),?_,_,rfl⟩;unfold tabW;rw[jB_,jf_,jb_ fL,<-hv];exact AR.snoc (hy.mono (s5.trans ((Same.new hD).newT cz))) (SqT.of Ab)
  ·obtain⟨s4,hy,o,rfl⟩:=h;have jB:(tabW hs p ws ends).length=ws.length:=by unfold tabW;rw[ja_]
   rw[iS,<-jB,jr_]at hy;have sD:=s4.newT hD (o:=.lst ys);have uD:upd H4 D (.lst ys) D=some (.lst ys):=Ab;have ku:=hy.mono (Same.new hD (o:=.lst ys));generalize upd H4 D (.lst ys)=H5 at sD uD ku ⊢;refine⟨by lia,by lia,?_⟩;rw[iS,show ((ws.length:Int)).toNat=ws.length by lia];refine Hd (fun j us ag H6=>Same H5 H6/\AR K H6 us ((oW j).map fun i=>AQ ws.length i)/\∃o,ag=[o,some (.int ws.length)]) ⟨Same.refl _,⟨rfl,fun i r hi=>by simp at hi⟩,none,rfl⟩ s!"" (fun j us ag H6 hj h=>by rw[h.2.1.1,ja_,jI_];exact jh_ _) (fun j us ag H6 hj h=>?_) (fun us ag H6 h E ia=>?_)
   ·obtain⟨s6,hu,o,rfl⟩:=h;rw[qf_];nofun;refine⟨ws.length,j,rfl,by lia,fun q H7 s7 hq=>⟨s6.trans s7,?_,_,rfl⟩⟩;rw[j4_,jg_];exact AR.snoc (hu.mono s7) (SqT.of hq)
   ·obtain⟨s6,hu,o,rfl⟩:=h;have sE:=s6.newT ia (o:=.lst us);have uE:upd H6 E (.lst us) E=some (.lst us):=Ab;have kC:=hu.mono (Same.new ia (o:=.lst us));generalize upd H6 E (.lst us)=H7 at sE uE kC ⊢;have eE:=aU.trans (sD.trans sE);refine⟨_,eE.seqT h1,_,rfl,p,false,D,E,ws.length,ys,us,tabW hs p ws ends,(oW ws.length).map fun i=>AQ ws.length i,rfl,hp,SqL.of (sE _ _ uD),ku.mono sE,fun r hr=>?_,SqL.of uE,kC,fun r hr=>?_,by lia,by lia,by rw[ja_,jI_];lia,fun l vs bs H8 s8 cz lR sn gr=>⟨by lia,fun q hq=>?_⟩⟩
    ·obtain⟨a,_,rfl⟩:=jo_.mp hr;rw[ja_,gw]
    ·obtain⟨a,_,rfl⟩:=jo_.mp hr;unfold AQ;simp
    ·have s9:=Same.new hq (o:=.tup [V.ref la,V.ref le,V.ref l]);have u9:upd H8 q (.tup [V.ref la,V.ref le,V.ref l]) q=some (.tup [V.ref la,V.ref le,V.ref l]):=Ab;generalize upd H8 q (.tup [V.ref la,V.ref le,V.ref l])=H9 at s9 u9 ⊢;have kE:=(sD.trans sE).trans (s8.trans s9);have lS:∀r∈tabW hs p ws ends,r.length=ws.length:=fun r hr=>by
      obtain⟨a,_,rfl⟩:=jo_.mp hr;rw[ja_,gw]
     have fk:=fun k=>X5 (k:=k) hp iU lS jB sn;obtain⟨gf,kG⟩:∃gf:Nat->α2,gf=fun k=>((Az p bs (AQ ws.length k++oU (tabW hs p ws ends).length 0)).drop ws.length).map (fun y => -y%p):=⟨_,rfl⟩;have hg:∀k,(gf k).length=ws.length/\(∀x∈gf k,0<=x/\x<p)/\CM p (tabW hs p ws ends) (gf k) ws.length=AQ ws.length k:=fun k=>by
      obtain⟨_,g,z1,z2⟩:=fk k;have e:gf k=g:=by rw[kG];exact z1
      rw[e];exact z2
     have fg:∀(i:Nat) (g:α2),((oW ws.length).map gf)[i]?=some g->i<ws.length/\g=gf i:=fun i g hi=>by
      have aQ:i<ws.length:=by have:=(jd_.mp hi).1;simpa using this
      rw[jf_,jO_ aQ]at hi;exact⟨aQ,(jC_ hi).symm⟩
     refine k q la le l zs es vs ws ends ((oW ws.length).map gf) H9 (aU.trans kE) (SqT.of u9) (kE _ _ gv) (iV.mono (TK.of kE)) (kE _ _ cG) (hE.mono (TK.of kE)) (s9 _ _ lR) (by rw[gr.1,ja_,ja_]) (fun i g hi=>?_) ⟨⟨F1,aS,bJ,F2,o1,b2,gY⟩,bA,h16,gw,hV,iU,by rw[ja_,jI_],fun i g hi=>?_⟩
     ·obtain⟨aQ,rfl⟩:=fg i g hi;rcases gr.2 i (AQ ws.length i) (by rw[jf_,jO_ aQ];rfl) with ⟨_,c,c1,c2⟩|⟨z,_⟩
      ·exact⟨c,c1,by rw[kG];exact s9 _ _ c2⟩
      ·exact absurd (fk i).1 z
     ·obtain⟨aQ,rfl⟩:=fg i g hi;exact hg i
noncomputable def mkO (es:List (α2×Int))(w:α2):Option Int:=(es.find? fun e=>decide (e.1=w)).map (·.2)
noncomputable def oV:Option Int->V
 |some m=>.int m
 |none=>.non
def Jc:∀{es:List (α2×Int)} {w:α2} {m:Int},(es.map (·.1)).Nodup->(w,m)∈es->mkO es w=some m
 |[],_,_,_,h=>by cases h
 |e::es,w,m,nd,h=>by
  rw[j6_,xM_]at nd;unfold mkO;rw[xh_];rcases jE_.mp h with h|h
  ·subst h;simp
  ·have aw:e.1≠w:=fun z=>nd.1 (by rw[z];exact qT_ (f:=(·.1)) h);rw[jX_ aw];exact Jc nd.2 h
def OI {es:List (α2×Int)}{w:α2}(h:w∉es.map (·.1)):mkO es w=none:=by
 unfold mkO;rw[z5_.mpr fun e he z=>h (by have:=qU_ z;rw[<-this];exact qT_ (f:=(·.1)) he)];rfl
def RQ {s:α1}{w:α2}(h:s.Nodup):(ins s w).Nodup:=by
 unfold ins;split
 ·exact h
 ·rename_i hw
  rw[xX_];refine⟨h,by simp,fun a ha b hb z=>?_⟩;rw[jn_.mp hb]at z;exact hw (z ▸ ha)
def Ia:∀{l s:α1},s.Nodup->(l.foldl ins s).Nodup
 |[],_,h=>h
 |w::l,s,h=>by rw[xN_];exact Ia (RQ h)
def RS (n:Nat):∀(acc:α1),(acc.flatMap (extW n)).length<=acc.length*n
 |[]=>by simp
 |w::acc=>by
  rw[qS,ji_,qp_,pM];have h1:=RS n acc;have h2:(extW n w).length=n:=by unfold extW;simp
  lia
def RT (n:Nat)(acc:α1):(Dy n acc).length<=acc.length+acc.length*n:=by
 unfold Dy;have h1:=A1 (acc.flatMap (extW n)) (acc.foldl ins []);have h2:=A1 acc [];have h3:=RS n acc;simp at h2;lia
noncomputable def RU (K:α3):Sp:=fun vs H Q _=>∃(L:Nat) (a:Addr) (xs:List V) (acc:α1),vs=[.int L,.ref a]/\L<=6/\SqL K H a xs/\Aq K H xs acc/\acc.length<=100/\(∀w∈acc,w.length<=100)/\∀l rs H',Same H H'->H l=none->H' l=some (.lst rs)->Aq K H' rs (Dy L acc)->Q (.ref l) H'
def PQ:⋯ EE.j2 1 ["letters","access"] (RU K):=by
 delta EE.j2 De
 ·obtain⟨L,a,xs,acc,rfl,_⟩:=h;rfl
 ·obtain⟨L,a,xs,acc,rfl,hL,ha,hw,cc,b7,k⟩:=h;have hl:=An;refine⟨_,(Ad (BS (i:=2) De.nd rfl (oY rfl) IS)
   (Ad (A3 jN_ rfl (Ba (pvD 1)) (Al (i:=3) De.nd rfl (oY rfl))
   (Af (Ds (Hb hr) (pvD 2) (pvD 3) Bo rfl)))
   (Ad (A3 jN_ rfl (Ba (pvD 1)) (Al (i:=3) De.nd rfl (oY rfl))
   (Af (A3 jN_ rfl (AF rfl EE.range (Aa (pvD 0) Ac)) (Al (i:=4) De.nd rfl (oY rfl))
   (Af (Ds (Hb hr) (pvD 2) (As AX (pvD 3) (AW (Aa (pvD 4) Ac))) Bo rfl)))))
   (Af (Ap (Ar (Bi rfl) rfl EE.list qd_ (Aa (pvD 2) Ac))))))),?_⟩
  nofun;intro p hp;have sp:=Same.new (o:=.dT []) hp;refine⟨⟨_,sp.seq ha⟩,?_⟩;obtain⟨Pv,aj⟩:∃Pv:Nat->St->Hp->Prop,∀i af H',Pv i af H'↔(∃(kvs:List (List Key×V)) (o:Option V),Same H H'/\H' p=some (.dT kvs)/\BK ((acc.take i).foldl ins []) kvs/\af=[some (.int L),some (.ref a),some (.ref p),o,none]):=⟨_,fun _ _ _=>j8_⟩;refine forL (xs:=xs) Pv ((aj _ _ _).mpr ⟨[],none,sp,Ab,by rw[xq_];exact BK.nil,rfl⟩) (fun i af H' _ h'=>by obtain⟨_,_,s',_⟩:=(aj _ _ _).mp h';exact s'.seq ha) (fun i x af H' hx h'=>?_) (fun af H' h'=>?_)
  ·obtain⟨kvs,o,s',hd,hk,rfl⟩:=(aj _ _ _).mp h';obtain⟨t,w,cu,rfl,ht⟩:=hw.at hx;have ah:kvs.length<=100:=by
    have:=A1 (acc.take i) [];rw[hk.len];simp at this ⊢;lia
   nofun;refine⟨_,DPut.t (k:=wkey w) hd (by rw[BE];exact s' _ _ ht) s!"",(aj _ _ _).mpr ⟨_,_,s'.over hp,Ab,?_,rfl⟩⟩;rw[jB_,cu,qM_,j0_];exact hk.put w _
  ·obtain⟨kvs,o,s',hd,hk,rfl⟩:=(aj _ _ _).mp h';rw[hw.1,jr_]at hk;nofun;refine⟨⟨_,s'.seq ha⟩,?_⟩;obtain⟨Pw,cN⟩:∃Pv:Nat->St->Hp->Prop,∀i af H',Pv i af H'↔(∃(kvs:List (List Key×V)) (o o':Option V),Same H H'/\H' p=some (.dT kvs)/\BK (((acc.take i).flatMap (extW L)).foldl ins (acc.foldl ins [])) kvs/\af=[some (.int L),some (.ref a),some (.ref p),o,o']):=⟨_,fun _ _ _=>j8_⟩;refine forL (xs:=xs) Pw ((cN _ _ _).mpr ⟨kvs,_,_,s',hd,by rw[xq_];exact hk,rfl⟩) (fun i af H' _ h'=>by obtain⟨_,_,_,s',_⟩:=(cN _ _ _).mp h';exact s'.seq ha) (fun i x ag H2 hx h2=>?_) (fun ag H2 h2=>?_)
   ·obtain⟨kvs,o,o',s2,hd,hk,rfl⟩:=(cN _ _ _).mp h2;obtain⟨t,w,cu,rfl,ht⟩:=hw.at hx;have hwlen:=b7 w (jj_ cu);have nR:=s2 _ _ ht;nofun;refine⟨by lia,by lia,?_⟩;rw[jU_];obtain⟨Py,cV⟩:∃Pv:Nat->St->Hp->Prop,∀j af H',Pv j af H'↔(∃(kvs:List (List Key×V)) (o':Option V),Same H H'/\H' p=some (.dT kvs)/\BK (((oW j).map fun x:Nat=>w++[(x:Int)]).foldl ins (((acc.take i).flatMap (extW L)).foldl ins (acc.foldl ins []))) kvs/\af=[some (.int L),some (.ref a),some (.ref p),some (.ref t),o']):=⟨_,fun _ _ _=>j8_⟩;refine forR Py ((cV _ _ _).mpr ⟨kvs,_,s2,hd,hk,rfl⟩) (fun j aJ H3 hj h3=>?_) (fun aJ H3 h3=>?_)
    ·obtain⟨kvs,o',s3,hd,hk,rfl⟩:=(cV _ _ _).mp h3;have ej:(0:Int)+(j:Nat)=(j:Int):=by lia
     rw[ej];have ib:=s3 _ _ ht;have ah:kvs.length<=10000:=by
      have h1:=A1 ((oW j).map fun x:Nat=>w++[(x:Int)]) (((acc.take i).flatMap (extW L)).foldl ins (acc.foldl ins []));have h2:=A1 ((acc.take i).flatMap (extW L)) (acc.foldl ins []);have h3:=A1 acc [];have h4:((acc.take i).flatMap (extW L)).length<=600:=by
       rw[xE_];have:(acc.take i).map (fun a=>(extW L a).length)=(acc.take i).map (fun _=>L):=jD_ fun a _=>by simp[extW]
       rw[this,z2_,xJ_];have:(acc.take i).length<=100:=by rw[jz_];lia
       exact jY_ (qJ_ this hL) s!""
      rw[hk.len];simp at h1 h3;lia
     nofun;refine⟨by lia,fun p1 aR=>?_⟩;refine A0.ofS (Same.new aR _ _ ib) Ab (by simp;lia) fun q H4 s4 hq=>?_;have s34:=(Same.new (o:=.tup [V.int (j:Int)]) aR).trans s4;have cD:H4 q=some (.tup ((wkey (w++[(j:Int)])).map kV)):=by rw[BE,hq];simp
     refine⟨_,DPut.t (k:=wkey (w++[(j:Int)])) (s34 _ _ hd) cD s!"",(cV _ _ _).mpr ⟨_,_,(s3.trans s34).over hp,Ab,?_,rfl⟩⟩;rw[j4_,jg_,j0_];exact hk.put _ _
    ·obtain⟨kvs,o',s3,hd,hk,rfl⟩:=(cV _ _ _).mp h3;refine (cN _ _ _).mpr ⟨kvs,_,_,s3,hd,?_,rfl⟩;rw[jB_,cu,qM_,zb_,j0_];simpa [extW] using hk
   ·obtain⟨kvs,o,o',s2,hd,hk,rfl⟩:=(cN _ _ _).mp h2;rw[hw.1,jr_]at hk;nofun;refine⟨kvs,.inl hd,fun l rs bS ar fK=>?_⟩;exact k l rs _ (s2.newT bS) (Same.none s2 bS) Ab ((hk.words (K:=K) ar fK).mono (TK.new bS))
noncomputable def Tq (K:α3):Sp:=fun vs H Q _=>∃(tp:Bool) (L:Nat) (a e:Addr) (xs ys:List V) (acc ends:α1),vs=[.int L,.ref a,.ref e]/\L<=6/\SqL K H a xs/\Aq K H xs acc/\acc.length<=100/\(∀w∈acc,w.length<=100)/\SqB K H tp e ys/\Aq K H ys ends/\ends.length<=100/\(∀w∈ends,w.length<=500)/\∀l rs H',Same H H'->H l=none->H' l=some (.lst rs)->Aq K H' rs (Jp (Dy L acc) ends)->Q (.ref l) H'
def NU (hL:L<=6)(cc:acc.length<=100)(b7:∀w∈acc,w.length<=100):(Dy L acc).length<=700/\∀w∈Dy L acc,w.length<=101:=by
 have mem:∀(l s:α1) (w:α2),w∈l.foldl ins s->w∈s\/w∈l:=by
  intro l
  induction l with
  |nil=>intro s w h;exact .inl h
  |cons v l ih=>
   intro s w h;rw[xN_]at h;rcases ih _ _ h with h|h
   ·unfold ins at h;split at h
    ·exact .inl h
    ·rcases jH_.mp h with h|h
     ·exact .inl h
     ·rw[jn_.mp h];exact .inr jL_
   ·exact .inr (jA_ _ h)
 refine⟨?_,fun w hw=>?_⟩
 ·have h2:=A1 (acc.flatMap (extW L)) (acc.foldl ins []);have h3:=A1 acc [];have h4:(acc.flatMap (extW L)).length<=600:=by
   rw[xE_];have:acc.map (fun a=>(extW L a).length)=acc.map (fun _=>L):=jD_ fun a _=>by simp[extW]
   rw[this,z2_,xJ_];exact jY_ (qJ_ cc hL) s!""
  unfold Dy;simp at h3;lia
 ·unfold Dy at hw;rcases mem _ _ _ hw with h|h
  ·rcases mem _ _ _ h with h|h
   ·simp at h
   ·have:=b7 w h;lia
  ·obtain⟨v,hv,h⟩:=xj_.mp h;obtain⟨x,_,rfl⟩:=jo_.mp h;have:=b7 v hv;simp;lia
def Tr:⋯ EE.j3 2 ["letters","access","ends"] (Tq K):=by
 delta EE.j3 IZ
 ·obtain⟨tp,L,a,e,xs,ys,acc,ends,rfl,_⟩:=h;rfl
 ·obtain⟨tp,L,a,e,xs,ys,acc,ends,rfl,hL,ha,hw,cc,b7,he,jC,dB,iW,k⟩:=h;have hl:=An;obtain⟨ar,gm⟩:=NU hL cc b7;refine⟨_,(Ad (BS (i:=3) IZ.nd rfl (oY rfl) IS)
   (Ad (A3 jN_ rfl (Ba (Ag (PQ EE) hr.d Aw (Aa (pvD 0) (Aa (pvD 1) Ac)))) (Al (i:=4) IZ.nd rfl (oY rfl))
   (Af (A3 jN_ rfl (KC (pvD 2)) (Al (i:=5) IZ.nd rfl (oY rfl))
   (Af (Ds (Hb hr) (pvD 3) (As AX (pvD 4) (pvD 5)) Bo rfl)))))
   (Af (Ap (Ar (Bi rfl) rfl EE.list qd_ (Aa (pvD 3) Ac)))))),?_⟩
  nofun;intro p hp;have sp:=Same.new (o:=.dT []) hp;refine⟨L,a,xs,acc,rfl,hL,sp.seq ha,hw.mono (TK.of sp),cc,b7,fun r rs H1 s1 aZ hr fK=>?_⟩;generalize Dy L acc=ae at ar gm fK k;have gx:=sp.trans s1;have hrH:H r=none:=Same.none sp aZ;have aR:=s1 _ _ (Ab (H:=H) (a:=p) (o:=.dT []));nofun;refine⟨⟨_,SqL.of hr⟩,?_⟩;have hpr:r≠p:=(Nv aZ).2;obtain⟨Pw,cN⟩:∃Pv:Nat->St->Hp->Prop,∀i af H',Pv i af H'↔(∃(kvs:List (List Key×V)) (o o':Option V),Same H H'/\H' r=some (.lst rs)/\Aq K H' rs ae/\H' p=some (.dT kvs)/\BK (((ae.take i).flatMap fun r=>ends.map (r ++ ·)).foldl ins []) kvs/\af=[some (.int L),some (.ref a),some (.ref e),some (.ref p),o,o']):=⟨_,fun _ _ _=>j8_⟩;refine forL (xs:=rs) Pw ((cN _ _ _).mpr ⟨[],_,_,gx,hr,fK,aR,by rw[xq_];exact BK.nil,rfl⟩) (fun i af H' _ h'=>by obtain⟨_,_,_,_,q,_⟩:=(cN _ _ _).mp h';exact SqL.of q) (fun i x ag H2 hx h2=>?_) (fun ag H2 h2=>?_)
  ·obtain⟨kvs,o,o',s2,lz,iX,hd,hk,rfl⟩:=(cN _ _ _).mp h2;obtain⟨t,w,cu,rfl,ht⟩:=iX.at hx;have hwlen:=gm w (jj_ cu);nofun;obtain⟨Py,cV⟩:∃Pv:Nat->St->Hp->Prop,∀j af H',Pv j af H'↔(∃(kvs:List (List Key×V)) (o':Option V),Same H H'/\H' r=some (.lst rs)/\Aq K H' rs ae/\H' t=some (.tup (w.map V.int))/\H' p=some (.dT kvs)/\BK (((ends.take j).map (w ++ ·)).foldl ins (((ae.take i).flatMap fun r=>ends.map (r ++ ·)).foldl ins [])) kvs/\af=[some (.int L),some (.ref a),some (.ref e),some (.ref p),some (.ref t),o']):=⟨_,fun _ _ _=>j8_⟩;refine forB (t:=tp) (xs:=ys) Py ((cV _ _ _).mpr ⟨kvs,_,s2,lz,iX,ht,hd,by rw[xq_];exact hk,rfl⟩) (fun j af H' _ h'=>by obtain⟨_,_,s',_⟩:=(cV _ _ _).mp h';exact he.mono s') (fun j y aJ H3 hy h3=>?_) (fun aJ H3 h3=>?_)
   ·obtain⟨kvs,o',s3,nS,iY,ib,hd,hk,rfl⟩:=(cV _ _ _).mp h3;obtain⟨u,v,bc,rfl,hu⟩:=jC.at hy;have hvlen:=iW v (jj_ bc);have ah:kvs.length<=100000:=by
     have h1:=A1 ((ends.take j).map (w ++ ·)) (((ae.take i).flatMap fun r=>ends.map (r ++ ·)).foldl ins []);have h2:=A1 ((ae.take i).flatMap fun r=>ends.map (r ++ ·)) [];have h4:((ae.take i).flatMap fun r=>ends.map (r ++ ·)).length<=70000:=by
      rw[xE_];have:(ae.take i).map (fun a=>(ends.map (a ++ ·)).length)=(ae.take i).map (fun _=>ends.length):=jD_ fun a _=>by simp
      rw[this,z2_,xJ_];have:(ae.take i).length<=700:=by rw[jz_];lia
      exact jY_ (qJ_ this dB) s!""
     rw[hk.len];rw[ja_,jz_]at h1;rw[xv_,qP]at h2;lia
    nofun;refine A0.ofS ib (s3 _ _ hu) (by simp;lia) fun q H4 s4 hq=>?_;have cD:H4 q=some (.tup ((wkey (w++v)).map kV)):=by rw[BE,hq];simp
    have jD:=s4 _ _ hd;have kD:TK H4 (upd H4 p (.dT (putK kvs (wkey (w++v)) (V.bl true)))):=TK.dT jD;refine⟨_,DPut.t (k:=wkey (w++v)) jD cD s!"",(cV _ _ _).mpr ⟨_,_,(s3.trans s4).over hp,by rw[Au hpr];exact s4 _ _ nS,(iY.mono (TK.of s4)).mono kD,kD _ _ (s4 _ _ ib),Ab,?_,rfl⟩⟩;rw[jB_,bc,qM_,jg_,j0_];exact hk.put _ _
   ·obtain⟨kvs,o',s3,nS,iY,ib,hd,hk,rfl⟩:=(cV _ _ _).mp h3;rw[jC.1,jr_]at hk;refine (cN _ _ _).mpr ⟨kvs,_,_,s3,nS,iY,hd,?_,rfl⟩;rw[jB_,cu,qM_,zb_,j0_];simpa using hk
  ·obtain⟨kvs,o,o',s2,lz,iX,hd,hk,rfl⟩:=(cN _ _ _).mp h2;rw[fK.1,jr_]at hk;nofun;refine⟨kvs,.inl hd,fun l dX bS dY iZ=>?_⟩;exact k l dX _ (s2.newT bS) (Same.none s2 bS) Ab ((hk.words (K:=K) dY iZ).mono (TK.new bS))
noncomputable def NV (_K:α3):V->Option Int->Option Int->Hp->VK->Prop:=fun x lo hi H Q=>∃a xs,x=.ref a/\H a=some (.tup xs)/\∀p H',Same H H'->H' p=some (.tup (cutV xs lo hi))->Q (.ref p) H'
def RV : SlR X (NV X.K):=by
 intro aa s σ H x v vl vu lo hi sl Q I rx hs pl pu h;obtain⟨a,xs,rfl,hx,q⟩:=h;by_cases hw:HT.sIx xs.length 0 lo=0/\HT.sIx xs.length xs.length hi=xs.length
 ·cases rx;obtain⟨its,r,ht,hz⟩:=I.tuple (SqT.of hx);have ah:its.toArray.size=xs.length:=by rw[jl_];exact r.length.symm
  refine⟨"tuple",_,qi_.lookup,ht.typeIs,?_⟩;refine HT.getItem_tuple_whole ht hs pl pu (by rw[ah];exact hw) ⟨.ref a,H,I,rfl,q a H (Same.refl _) ?_⟩;unfold cutV;rw[hw.1,hw.2,x1_,zA_,jr_];exact hx
 ·exact TV aa s σ H (.ref a) v vl vu lo hi sl Q I rx hs pl pu ⟨a,xs,rfl,SqT.of hx,hw,fun p hp=>q p _ (Same.new hp) Ab⟩
def NV.of {K:α3}{a:Addr}{xs:List V}{m:Nat}{H:Hp}{Q:VK}(ha:H a=some (.tup xs))(q:∀p H',Same H H'->H' p=some (.tup (xs.take m))->Q (.ref p) H'):NV K (.ref a) none (some (m:Int)) H Q:=by
 refine⟨a,xs,rfl,ha,fun p H' s' h=>q p H' s' ?_⟩;rw[h];unfold cutV;rw[HT.sIx_nat,HT.sIx_none,x1_,zA_]
 congr 2
 rw[zB_];lia
noncomputable def BG (H:Hp)(rs:List V)(es:List (α2×Int)):Prop:=rs.length=es.length/\∀(i:Nat) (tr:α2×Int),es[i]?=some tr->∃t b,rs[i]?=some (V.ref t)/\H t=some (.tup [.ref b,.int tr.2])/\H b=some (.tup (tr.1.map V.int))
def BG.mono (h:BG H rs es)(k:∀b xs,H b=some (.tup xs)->H' b=some (.tup xs)):BG H' rs es:=⟨h.1,fun i tr hi=>by
 obtain⟨t,b,e1,e2,e3⟩:=h.2 i tr hi;exact⟨t,b,e1,k _ _ e2,k _ _ e3⟩⟩
def Je (l:α1):∀(s:α1) (v:α2),v∈l.foldl ins s↔v∈s\/v∈l:=by
 induction l with
 |nil=>intro s v;simp
 |cons a l ih=>
  intro s v;rw[xN_,ih];unfold ins;split
  ·rename_i h
   constructor
   ·rintro (h1|h1)
    ·exact .inl h1
    ·exact .inr (jA_ _ h1)
   ·rintro (h1|h1)
    ·exact .inl h1
    ·rcases jE_.mp h1 with rfl|h1
     ·exact .inl h
     ·exact .inr h1
  ·constructor
   ·rintro (h1|h1)
    ·rcases jH_.mp h1 with h1|h1
     ·exact .inl h1
     ·rw[jn_.mp h1];exact .inr (jL_ ..)
    ·exact .inr (jA_ _ h1)
   ·rintro (h1|h1)
    ·exact .inl (jQ_ _ h1)
    ·rcases jE_.mp h1 with rfl|h1
     ·exact .inl (by simp)
     ·exact .inr h1
def Hy : v∈Dy L W↔v∈W \/ ∃a∈W,∃x:Nat,x<L/\v=a++[(x:Int)]:=by
 unfold Dy;rw[Je,Je];simp only[xi_,false_or,xj_,extW,jo_,j3_];constructor
 ·rintro (h|⟨a,ha,x,hx,rfl⟩)
  ·exact .inl h
  ·exact .inr ⟨a,ha,x,hx,rfl⟩
 ·rintro (h|⟨a,ha,x,hx,rfl⟩)
  ·exact .inl h
  ·exact .inr ⟨a,ha,x,hx,rfl⟩
def F0 : c∈Jp R E ↔ ∃r∈R,∃e∈E,c=r++e:=by
 unfold Jp;rw[Je];simp only[xi_,false_or,xj_,jo_];constructor
 ·rintro⟨r,hr,e,he,rfl⟩;exact⟨r,hr,e,he,rfl⟩
 ·rintro⟨r,hr,e,he,rfl⟩;exact⟨r,hr,e,he,rfl⟩
noncomputable abbrev Bk:=List (α2×Int)
def VT (h:mkO es v=some m):(v,m)∈es:=by
 unfold mkO at h;cases hf:es.find? (fun e=>decide (e.1=v)) with
 |none=>rw[hf]at h;cases h
 |some e=>
  rw[hf]at h;have h1:=x4_ hf;have h2:=pZ hf;simp at h h2;subst h h2;exact h1
noncomputable def gOf (E:α1)(es:Bk)(v:α2):α2:=E.map fun e=>(mkO es (v++e)).getD 0
def EU (E:α1)(es:Bk)(v:α2):(gOf E es v).length=E.length:=by unfold gOf;rw[ja_]
open Classical in
noncomputable def facL (p:Int)(ae:α1)(row:α2):α2:=if h:∃am:α2,am.length=ae.length/\(∀y∈am,0<=y/\y<p)/\∀i:Nat,i<row.length->row.getD i 0%p=dotW am (colW ae i)%p then uk h else []
noncomputable def gTab (p:Int)(L:Nat)(W E:α1)(es:Bk):α0:=(oW L).map fun x:Nat=>W.map fun v=>facL p (W.map (gOf E es)) (gOf E es (v++[(x:Int)]))
noncomputable def Dk (W:α1)(es:Bk):α2:=W.map fun v=>(mkO es v).getD 0
noncomputable def need (L:Nat)(W E:α1):α1:=W++Jp (Dy L W) E
noncomputable def Full (L:Nat)(W E:α1)(es:Bk):Prop:=∀c∈need L W E,∃m,mkO es c=some m
def X6 (h:v∈W):v∈need L W E:=jQ_ _ h
def UX (h:v∈W)(hx:x<L)(he:e∈E):v++[(x:Int)]++e∈need L W E:=jV_ _ (F0.mpr ⟨_,Hy.mpr (.inr ⟨v,h,x,hx,rfl⟩),e,he,rfl⟩)
noncomputable def M0 (n:Nat)(ae:α1):Nat:=if ae=[] then 0 else n
noncomputable def VU (K:α3):Sp:=fun vs H Q _=>∃(t:Bool) (a:Addr) (n:Nat) (xs:List V) (ae:α1),vs=[.ref a]/\SqB K H t a xs/\AR K H xs ae/\(∀r∈ae,r.length=n)/\ae.length<=900/\∀H',Same H H'->Q (.int (M0 n ae)) H'
def PR:⋯ EE.j13 1 ["rows"] (VU K):=by
 delta EE.j13 Pg
 ·obtain⟨t,a,n,xs,ae,rfl,_⟩:=h;rfl
 ·obtain⟨t,a,n,xs,ae,rfl,ha,hR,aZ,hz,k⟩:=h;have hl:=An;refine⟨_,(Af (Ap (Vy rfl rfl EE.max (Aa (AA rfl (Ay rfl) (cp:=JG) oX (KC (pvD 0)) (fun _ _ _ _=>(Al (i:=0) Ki rfl (oY rfl))) (fun _ _ _ _=>AJ) (fun _ _ _ _=>(Am (lenD (Gd (K:=K) rfl)) (by rfl) EE.len jF_ (Aa (pvD 0) Ac)))) Ac) Ae))),?_⟩;nofun;refine XW (t:=t) (fun c zs ax H4=>H4=H/\zs=((oU c (n:Int))).map V.int/\∃o,ax=[o]) ⟨rfl,rfl,none,rfl⟩ (by rw[hR.1];lia) (fun c zs ax H4 _ h4=>?_) ha (fun c x zs ax H4 hc h4=>?_) (fun zs ax H4 h4 D hD=>?_)
  ·obtain⟨rfl,rfl,o,rfl⟩:=h4;exact⟨ha,by rw[ja_,q6_];exact jh_ _⟩
  ·obtain⟨rfl,rfl,o,rfl⟩:=h4;have hi:c<ae.length:=by rw[<-hR.1];exact (jd_.mp hc).1
   obtain⟨tr,ht,hrow⟩:=hR.2 c ae[c] (by simp[hi]);rw[hc]at ht;cases ht;nofun;refine⟨_,.inr hrow,?_⟩;rw[ja_,aZ _ (jy_ hi)];exact⟨(by rw[List.replicate_succ',jg_];rfl:qg V.int (oU c (n:Int))++[V.int n]=qg V.int (oU (c+1) (n:Int))),_,rfl⟩
  ·obtain⟨rfl,rfl,o,rfl⟩:=h4;nofun;refine⟨oU xs.length (n:Int),SqL.of Ab,(M0 n ae:Int),?_,k _ (Same.new hD)⟩;unfold M0;rw[hR.1];by_cases h0:ae=[]
   ·rw[if_pos h0,h0];exact .inl ⟨rfl,rfl⟩
   ·rw[if_neg h0];refine .inr ⟨z7_.mpr ⟨fun z=>h0 (jW_.mp z),rfl⟩,fun z hz=>?_⟩;rw[(z7_.mp hz).2];exact zU_ _
def KU (p:Int)(m:Nat):A6 p m []=[]:=rfl
def NW (p:Int)(n:Nat)(ae:α1):A6 p (M0 n ae) ae=A6 p n ae:=by
 unfold M0;by_cases h0:ae=[]
 ·rw[h0,KU,KU]
 ·rw[if_neg h0]
def VW (n:Nat)(ae:α1):M0 n ae<=n:=by unfold M0;split<;>lia
noncomputable def RW (K:α3):Sp:=fun vs H Q _=>∃(p:Int) (t:Bool) (a:Addr) (n:Nat) (xs:List V) (ae:α1),vs=[.int p,.ref a]/\Pr p/\SqB K H t a xs/\AR K H xs ae/\(∀r∈ae,r.length=n)/\n<=900/\ae.length<=900/\∀l H',Same H H'->H l=none->H' l=some (.lst (natV (A6 p n ae)))->Q (.ref l) H'
def RX:⋯ EE.j14 5 ["p","rows"] (RW K):=by
 delta EE.j14 Rt
 ·obtain⟨p,t,a,n,xs,ae,rfl,_⟩:=h;rfl
 ·obtain⟨p,t,a,n,xs,ae,rfl,hp,ha,hR,aZ,hn,hz,k⟩:=h;have hl:=An;refine⟨_,(Af (Ap (Aj (ixTD Ao) (Ag (CN EE) hr.d Aw (Aa (pvD 0) (Aa (pvD 1) (Aa (Ag (PR EE) hr.d Aw (Aa (pvD 1) Ac)) Ac)))) Ae))),?_⟩;nofun;refine⟨t,a,n,xs,ae,rfl,ha,hR,aZ,hz,fun H1 s1=>?_⟩;nofun;refine⟨p,t,a,M0 n ae,n,xs,ae,rfl,hp,ha.mono s1,hR.mono s1,aZ,VW n ae,hn,hz,fun q l d bs H2 s2 hq fT _ _ _ dy=>?_⟩;nofun;rw[NW]at fT;have fb:H l=none:=by
   cases e:H l with
   |none=>rfl
   |some u=>rw[s1 _ _ e]at dy;cases dy
  exact⟨_,hq,_,rfl,k l _ (s1.trans s2) fb fT⟩
noncomputable def VX (K:α3):Sp:=fun vs H Q _=>∃(p:Int) (t:Bool) (a:Addr) (n:Nat) (xs:List V) (ae:α1),vs=[.int p,.ref a]/\Pr p/\SqB K H t a xs/\AR K H xs ae/\(∀r∈ae,r.length=n)/\n<=900/\ae.length<=900/\∀H',Same H H'->Q (.int ((A6 p n ae).length:Nat)) H'
def VY:⋯ EE.j15 6 ["p","rows"] (VX K):=by
 delta EE.j15 VJ
 ·obtain⟨p,t,a,n,xs,ae,rfl,_⟩:=h;rfl
 ·obtain⟨p,t,a,n,xs,ae,rfl,hp,ha,hR,aZ,hn,hz,k⟩:=h;have hl:=An;refine⟨_,(Af (Ap (Am (lenD Ai) (by rfl) EE.len jF_ (Aa (Ag (RX EE) hr.d Aw (Aa (pvD 0) (Aa (pvD 1) Ac))) Ac)))),?_⟩;nofun;refine⟨p,t,a,n,xs,ae,rfl,hp,ha,hR,aZ,hn,hz,fun l H1 s1 _ h1=>?_⟩;nofun;refine⟨_,.inl (SqL.of h1),?_⟩;unfold natV;rw[ja_];exact k _ s1
noncomputable def VZ (K:α3):Sp:=fun vs H Q _=>∃(p:Int) (t:Bool) (a:Addr) (n:Nat) (xs:List V) (ae:α1),vs=[.int p,.ref a]/\Pr p/\SqB K H t a xs/\AR K H xs ae/\(∀r∈ae,r.length=n)/\n<=900/\ae.length<=900/\∀H',Same H H'->Q (.bl (decide ((A6 p n ae).length=ae.length))) H'
def RY:⋯ EE.j16 7 ["p","rows"] (VZ K):=by
 delta EE.j16 VL
 ·obtain⟨p,t,a,n,xs,ae,rfl,_⟩:=h;rfl
 ·obtain⟨p,t,a,n,xs,ae,rfl,hp,ha,hR,aZ,hn,hz,k⟩:=h;have hl:=An;refine⟨_,(Af (Ap (Jh (opE FH) (Ag (VY EE) hr.d Aw (Aa (pvD 0) (Aa (pvD 1) Ac))) (Am (lenD Ai) (by rfl) EE.len jF_ (Aa (pvD 1) Ac)) (AB _)))),?_⟩;nofun;refine⟨p,t,a,n,xs,ae,rfl,hp,ha,hR,aZ,hn,hz,fun H1 s1=>?_⟩;nofun;refine⟨xs,(by cases t;exact .inl (ha.mono s1);exact .inr (ha.mono s1)),?_⟩;rw[hR.1,show decide (((A6 p n ae).length:Int)=(ae.length:Int))=decide ((A6 p n ae).length=ae.length) from decide_eq_decide.mpr Int.ofNat_inj];exact k _ s1
def F4 (xs:List V)(m:Nat):cutV xs none (some (m:Int))=xs.take m:=by
 unfold cutV;rw[HT.sIx_nat,HT.sIx_none,x1_,zA_,zB_];lia
def V0 (nd:(es.map (·.1)).Nodup)(w:α2):(valV (ents es) (wkey w)).getD V.non=oV (mkO es w):=by
 by_cases h:w∈es.map (·.1)
 ·obtain⟨e,he,rfl⟩:=jo_.mp h;rw[IY nd (show (e.1,e.2)∈es from he),Jc nd (show (e.1,e.2)∈es from he)];rfl
 ·rw[MA h,OI h];rfl
def M3 (h:mkO es v=some m):(v,m)∈es:=by
 unfold mkO at h;cases hf:es.find? fun e=>decide (e.1=v) with
 |none=>rw[hf]at h;cases h
 |some e=>
  rw[hf]at h;cases h;have h1:=x4_ hf;have h2:e.1=v:=qU_ (pZ (p:=fun e:α2×Int=>decide (e.1=v)) hf);rw[<-h2];exact h1
noncomputable def rowO (es:List (α2×Int))(ends:α1)(u:α2):List (Option Int):=ends.map fun e=>mkO es (u++e)
noncomputable def gI (es:List (α2×Int))(ends:α1)(u:α2):α2:=ends.map fun e=>(mkO es (u++e)).getD 0
noncomputable def Ful (es:List (α2×Int))(ends:α1)(u:α2):Prop:=∀e∈ends,(mkO es (u++e)).isSome=true
def RZ {ends:α1} (h:Ful es ends u):(rowO es ends u).map oV=(gI es ends u).map V.int:=by
 unfold rowO gI;rw[jJ_,jJ_];refine jD_ fun e he=>?_;obtain⟨m,hm⟩:=qD_.mp (h e he);show oV (mkO es (u++e))=V.int ((mkO es (u++e)).getD 0);rw[hm];rfl
def NX {ends:α1} : Ful es ends u↔none∉rowO es ends u:=by
 unfold rowO;constructor
 ·intro h z;obtain⟨e,he,e2⟩:=jo_.mp z;have:=h e he;rw[e2]at this;cases this
 ·intro h e he;cases hm:mkO es (u++e) with
  |some m=>rfl
  |none=>exact absurd (jo_.mpr ⟨e,he,hm⟩) h
noncomputable instance (es:List (α2×Int)) (ends:α1) (u:α2):Decidable (Ful es ends u):=decidable_of_iff _ NX.symm
def X7 (l:List (Option Int)):inV .non (l.map oV)=decide (none∈l):=by
 unfold inV;rw[qL,qx_,q1_,j5_];constructor
 ·rintro⟨x,hx,e⟩;cases x with
  |none=>exact hx
  |some m=>cases e
 ·intro h;exact⟨none,h,rfl⟩
def V1 (l:List (Option Int)):(l.map oV).all D9=true:=by
 rw[zf_,qP_];intro x _;cases x<;>rfl
def _root_.L2.PrsAt.mono {H H':Hp}{ts:List Addr}{ps:List (List Key×V)}(h:PrsAt H ts ps)(s:Same H H'):PrsAt H' ts ps:=⟨h.1,fun j p q a b=>by
 obtain⟨c,e1,e2⟩:=h.2 j p q a b;refine⟨c,?_,s _ _ e2⟩;rcases e1 with e1|⟨o,e1⟩
 ·exact .inl (s _ _ e1)
 ·exact .inr ⟨o,s _ _ e1⟩⟩
def L4 (nd:(es.map (·.1)).Nodup):Bw [] (ents es)=ents es:=by
 rw[HN _ _ ?_,xw_];rw[xw_];unfold ents;rw[jJ_];have:((fun x:List Key×V=>x.1) ∘ fun e:α2×Int=>(wkey e.1,V.int e.2))=wkey ∘ fun e=>e.1:=rfl;rw[this,<-jJ_];exact List.Pairwise.map _ (fun a b h z=>h (IX z)) nd
def L5 (kvs:List (List Key×V))(k:List Key)(v:V):(putK kvs k v).length<=kvs.length+1:=B0 kvs k v
def KW:∀(ps kvs:List (List Key×V)),(Bw kvs ps).length<=kvs.length+ps.length
 |[],kvs=>by simp[Bw]
 |p::ps,kvs=>by
  have h1:=KW ps (putK kvs p.1 p.2);have h2:=B0 kvs p.1 p.2;show (Bw (putK kvs p.1 p.2) ps).length<=_;rw[qp_];lia
def JS:∀(ps kvs:List (List Key×V)),(kvs.map (·.1)).Nodup->¬ ((kvs++ps).map (·.1)).Nodup->(Bw kvs ps).length<kvs.length+ps.length
 |[],kvs,h1,h2=>absurd (by rw[xu_];exact h1) h2
 |p::ps,kvs,h1,h2=>by
  by_cases hp:p.1∈kvs.map (·.1)
  ·have e1:(putK kvs p.1 p.2).length=kvs.length:=by
    obtain⟨q,hq,e⟩:=jo_.mp hp;unfold putK;rw[if_pos (q1_.mpr ⟨q,hq,jZ_ e⟩),ja_]
   have:=KW ps (putK kvs p.1 p.2);show (Bw (putK kvs p.1 p.2) ps).length<_;rw[qp_];lia
  ·have e1:putK kvs p.1 p.2=kvs++[p]:=by
    unfold putK;rw[if_neg];intro hx;obtain⟨q,hq,e⟩:=q1_.mp hx;exact hp (jo_.mpr ⟨q,hq,qU_ e⟩)
   have:=JS ps (kvs++[p]) (by
    rw[jg_,xX_];exact⟨h1,by simp,fun a ha b hb z=>by
     simp only[j6_,ze_,jn_]at hb;rw[z,hb]at ha;exact hp ha⟩) (by rw[wb_];exact h2)
   show (Bw (putK kvs p.1 p.2) ps).length<_;rw[e1,qp_];rw[ji_,jG_]at this;lia
def V2 : ((ents es).map (·.1)).Nodup↔(es.map (·.1)).Nodup:=by
 unfold ents;rw[jJ_];have:((fun x:List Key×V=>x.1) ∘ fun e:α2×Int=>(wkey e.1,V.int e.2))=wkey ∘ fun e=>e.1:=rfl;rw[this,<-jJ_];constructor
 ·intro h;exact List.Pairwise.imp (fun h z=>h (by rw[z])) (xY_.mp h)
 ·intro h;exact List.Pairwise.map _ (fun a b h z=>h (IX z)) h
structure B49 (N:Nat)(acc ends:α1)(es:List (α2×Int)):Prop where
 n1:1<=N
 n6:N<=6
 al:acc.length<=6
 el:ends.length<=12
 hl:es.length<=505
 wa:∀w∈acc,w.length<=60
 we:∀e∈ends,e.length<=60
 wh:∀p∈es,p.1.length<=510
noncomputable def Lal (N:Nat)(acc ends:α1)(es:List (α2×Int)):Prop:=∀u∈acc++ends++es.map (·.1),isW N u=true
noncomputable def Ts (K:α3):Sp:=fun vs H Q _=>∃(N:Nat) (a ta te th:Addr) (xs ys:List V) (acc ends:α1) (es:List (α2×Int)) (ts:List Addr),vs=[.int N,.ref a]/\SqT K H a [.ref ta,.ref te,.ref th]/\SqT K H ta xs/\Aq K H xs acc/\SqT K H te ys/\Aq K H ys ends/\SqT K H th (ts.map V.ref)/\PrsAt H ts (ents es)/\B49 N acc ends es/\(∀H',Same H H'->Lal N acc ends es->Q (.bl true) H')/\(∀H',Same H H'->¬ Lal N acc ends es->Q (.bl false) H')
def Ff:⋯ EE.j4 2 ["letters","parts"] (Ts K):=by
 delta EE.j4 Cr
 ·obtain⟨N,a,ta,te,th,xs,ys,acc,ends,es,ts,rfl,_⟩:=h;rfl
 ·obtain⟨N,a,ta,te,th,xs,ys,acc,ends,es,ts,rfl,q1,ha,hA,hb,hB,hc,hP,B,k1,k0⟩:=h;have hl:=An;have b1:=B.al;have b2:=B.el;have b3:=B.hl;refine⟨_,(Ad (Ak (i:=2) Cr.nd (As Qu (Ar Eh rfl EE.list qd_ (Aa (As AX (Aj (ixTD Ao) (pvD 1) Ae) (Aj (ixTD Ao) (pvD 1) Ae)) Ac)) (AA rfl (Ay rfl) (cp:=Cf) oX (Cc (Aj (ixTD Ao) (pvD 1) Ae)) (fun _ _ _ _=>(Al (i:=0) Dh rfl (oY rfl))) (fun _ _ _ _=>AJ) (fun _ _ _ _=>(Aj (ixTD (Bb (K:=K) rfl)) (pvD 0) Ae)))))
   (Af (Ap (Am (IU rfl) rfl EE.all xS_ (Aa (AA rfl (Ay rfl) (cp:=Cg) ⟨⟨rfl,rfl⟩,oX⟩ (Ba (pvD 2)) (fun _ _ _ _=>(Al (i:=0) Di rfl (oY rfl))) (fun _ _ _ _=>AJ) (fun _ _ _ _=>(Ag (KN EE) hr.d Aw (Aa (pvD 1) (Aa (pvD 0) Ac))))) Ac))))),?_⟩
  nofun;refine⟨_,q1,_,rfl,_,q1,_,rfl,A0.of ha hb (by rw[hA.1,hB.1];lia) fun p1 H1 s1 h1=>⟨p1,rfl,_,.inr h1,fun l bS=>⟨_,(s1.newT bS).seqT q1,_,rfl,th,rfl,⟨_,(s1.newT bS).seqT hc⟩,?_⟩⟩⟩;have s2:=s1.newT bS (o:=.lst (xs++ys));have bg:ts.length=es.length:=by rw[hP.1];unfold ents;rw[ja_]
  have aM:∀(i:Nat) (x:V),(ts.map V.ref)[i]?=some x->∃(q b:Addr) (p:α2×Int),x=.ref q/\es[i]?=some p/\Rd H q (.tup [.ref b,.int p.2])/\H b=some (.tup (p.1.map V.int)):=fun i x hx=>by
   rw[jf_]at hx;cases ht:ts[i]? with
   |none=>rw[ht]at hx;cases hx
   |some q=>
    rw[ht]at hx;have hi:i<es.length:=by rw[<-bg];exact (jd_.mp ht).1
    obtain⟨b,e1,e2⟩:=hP.2 i (wkey es[i].1,.int es[i].2) q (by unfold ents;rw[jf_,jb_ hi];rfl) ht;rw[BE]at e2;exact⟨q,b,es[i],(jC_ hx).symm,jb_ hi,e1,e2⟩
  obtain⟨Pc,aL⟩:∃Pc:Nat->List V->St->Hp->Prop,∀i us af H',Pc i us af H'↔(H'=upd H1 l (.lst (xs++ys))/\Aq K H' us ((es.take i).map (·.1))/\∃o,af=[o]):=⟨_,fun _ _ _ _=>j8_⟩;refine IE (xs:=ts.map V.ref) Pc ((aL _ _ _ _).mpr ⟨rfl,Aq.nil,none,rfl⟩) (by rw[ja_];lia) (fun i us af H' hi h'=>?_) (fun i x us af H' hx h'=>?_) (fun us af H' h' D hD=>?_)
  ·obtain⟨rfl,hW,_⟩:=(aL _ _ _ _).mp h';exact⟨s2.seqT hc,by rw[hW.1,ja_,jz_];lia⟩
  ·obtain⟨rfl,hW,o,rfl⟩:=(aL _ _ _ _).mp h';obtain⟨q,b,p,rfl,hp,e1,e2⟩:=aM i x hx;have et:es.take (i+1)=es.take i++[p]:=by rw[jB_,hp];rfl
   nofun;refine⟨_,s2.seqT (.inl e1),_,rfl,(aL _ _ _ _).mpr ⟨rfl,?_,_,rfl⟩⟩;rw[et,jg_];exact hW.snoc (s2 _ _ e2)
  ·obtain⟨rfl,hW,o,rfl⟩:=(aL _ _ _ _).mp h';rw[ja_,bg,jr_]at hW;have sD:=Same.new hD (o:=.lst us);refine⟨D,rfl,xs++ys,sD _ _ Ab,us,Ab,by rw[ji_,hA.1,hB.1,hW.1,ja_];lia,fun p hp=>⟨⟨_,SqL.of Ab⟩,?_⟩⟩;have s3:=s2.trans (sD.newT hp (o:=.lst (xs++ys++us)));have nT:=sD.newT hp (o:=.lst (xs++ys++us));have aB:Aq K (upd (upd (upd H1 l (.lst (xs++ys))) D (.lst us)) p (.lst (xs++ys++us))) (xs++ys++us) (acc++ends++es.map (·.1)):=((hA.mono (TK.of s3)).append (hB.mono (TK.of s3))).append (hW.mono (TK.of nT));have hlen':∀u∈acc++ends++es.map (·.1),u.length<=510:=fun u hu=>by
    rcases jH_.mp hu with hu|hu
    ·rcases jH_.mp hu with hu|hu
     ·have:=B.wa u hu;lia
     ·have:=B.we u hu;lia
    ·obtain⟨p,hp,rfl⟩:=jo_.mp hu;exact B.wh p hp
   have ah:(xs++ys++us).length<=600:=by rw[aB.1,ji_,ji_,ja_];lia
   unfold Lal at k1 k0;generalize xs++ys++us=dQ at aB ah s3 nT ⊢;generalize acc++ends++es.map (·.1)=dC at aB hlen' k1 k0;generalize hH5:upd (upd (upd H1 l (.lst (xs++ys))) D (.lst us)) p (.lst dQ)=H5 at aB s3 nT ⊢;have gy:H5 p=some (.lst dQ):=by rw[<-hH5];exact Ab
   obtain⟨Pd,cO⟩:∃Pc:Nat->List V->St->Hp->Prop,∀i us af H',Pc i us af H'↔(Same H5 H'/\us=((dC.take i).map (isW (N:Int))).map V.bl/\∃o,af=[o,some (.int N)]):=⟨_,fun _ _ _ _=>j8_⟩;refine Fb (xs:=dQ) Pd ((cO _ _ _ _).mpr ⟨Same.refl _,rfl,none,rfl⟩) s!"" (fun i us af H' hi h'=>?_) (fun i x us af H' hx h'=>?_) (fun us af H' h' D2 bX=>?_)
   ·obtain⟨s6,rfl,_⟩:=(cO _ _ _ _).mp h';exact⟨SqL.of (s6 _ _ gy),by rw[ja_,ja_,jz_];lia⟩
   ·obtain⟨s6,rfl,o,rfl⟩:=(cO _ _ _ _).mp h';obtain⟨t,u,hu,rfl,ht⟩:=aB.at hx;have u1:=hlen' u (jj_ hu);have et:dC.take (i+1)=dC.take i++[u]:=by rw[jB_,hu];rfl
    nofun;refine⟨N,t,u,rfl,SqT.of (s6 _ _ ht),by lia,fun H' s7=>(cO _ _ _ _).mpr ⟨s6.trans s7,?_,_,rfl⟩⟩;rw[et,jg_,jg_];rfl
   ·obtain⟨s6,rfl,o,rfl⟩:=(cO _ _ _ _).mp h';rw[aB.1,jr_];refine⟨D2,rfl,_,SqL.of Ab,?_⟩;cases hq:((dC.map (isW (N:Int))).all id) with
    |true=>
     refine k1 _ ((s3.trans s6).newT bX) fun u hu=>?_;rw[zf_,qP_]at hq;exact hq u hu
    |false=>
     refine k0 _ ((s3.trans s6).newT bX) fun hx=>?_;rw[zf_]at hq;have:dC.all (id ∘ isW (N:Int))=true:=qP_.mpr hx;rw[this]at hq;cases hq
def BG.prs (h:BG H rs es):∃ts:List Addr,rs=ts.map V.ref/\PrsAt H ts (ents es):=by
 refine⟨rs.map (fun v=>match v with | .ref t=>t|_=>0),?_,by unfold ents;rw[ja_,ja_];exact h.1,fun j p q hp hq=>?_⟩
 ·rw[jJ_];refine j2_ fun i=>?_;rw[jf_];by_cases hi:i<es.length
  ·obtain⟨t,b,a,_⟩:=h.2 i es[i] (by simp[hi]);rw[a];rfl
  ·rw[jt_ (by rw[h.1];lia)];rfl
 ·unfold ents at hp;rw[jf_]at hp;obtain⟨e,he,rfl⟩:=zs_.mp hp;obtain⟨t,b,a1,a2,a3⟩:=h.2 j e he;rw[jf_,a1]at hq;cases hq;exact⟨b,.inl a2,by rw[a3,BE]⟩
noncomputable def JT (p n:Int):Bool:=decide (0<=n)&&decide (n<p)
noncomputable def Tt:Sp:=fun vs H Q _=>∃p n:Int,vs=[.int p,.int n]/\Q (.bl (JT p n)) H
def M4:⋯ EE.j20 1 ["p","number"] (Tt):=by
 delta EE.j20 ML
 ·obtain⟨p,n,rfl,_⟩:=h;rfl
 ·obtain⟨p,n,rfl,k⟩:=h;refine⟨_,(Af (Ap (N8 WD Lb Ae (pvD 1) (pvD 0)))),?_⟩;nofun;by_cases h0:0<=n
  ·simp only[h0,wi_];simpa [JT,h0] using k
  ·simp only[h0,x6_];simpa [JT,h0] using k
noncomputable def V3 (K:α3):Sp:=fun vs H Q _=>∃(tp:Bool) (d t pe:Addr) (es:Bk) (v:α2) (ys:List V) (E:α1),vs=[.ref d,.ref t,.ref pe]/\H d=some (.dT (ents es))/\(es.map (·.1)).Nodup/\H t=some (.tup (v.map V.int))/\SqB K H tp pe ys/\Aq K H ys E/\v.length<=600/\(∀e∈E,e.length<=600)/\E.length<=100/\∀q H',Same H H'->H' q=some (.tup ((rowO es E v).map oV))->((∀e∈E,∃m,mkO es (v++e)=some m)->H' q=some (.tup ((gOf E es v).map V.int)))->Q (.ref q) H'
def B6:⋯ EE.j27 1 ["told","word","ends"] (V3 K):=by
 delta EE.j27 Hh
 ·obtain⟨tp,d,t,pe,es,v,ys,E,rfl,_⟩:=h;rfl
 ·obtain⟨tp,d,t,pe,es,v,ys,E,rfl,hd,nd,ht,kH,hE,hvl,dB,lT,k⟩:=h;have hl:=An;refine⟨_,(Af (Ap (Ar Av rfl EE.tuple jw_ (Aa (AA rfl (Ay rfl) (cp:=CW) ⟨⟨rfl,rfl⟩,⟨⟨rfl,rfl⟩,oX⟩⟩ (KC (pvD 2)) (fun _ _ _ _=>(Al (i:=0) EJ rfl (oY rfl))) (fun _ _ _ _=>AJ) (fun _ _ _ _=>(Sv (Hb hr) (pvD 1) (As (CD (K:=K) rfl) (pvD 2) (pvD 0)) ⟨by rfl,by rfl,by rfl,by rfl⟩))) Ac)))),?_⟩;nofun;refine XW (t:=tp) (xs:=ys) (fun i us af H'=>Same H H'/\us=(rowO es (E.take i) v).map oV/\∃o,af=[o,some (.ref d),some (.ref t)]) ⟨Same.refl _,rfl,none,rfl⟩ (by rw[hE.1];lia) (fun i us af H' hi h'=>⟨kH.mono h'.1,by rw[h'.2.1,ja_];unfold rowO;rw[ja_,jz_];lia⟩) kH (fun i x us af H' hx h'=>?_) (fun us af H' h' D hD=>?_)
  ·obtain⟨s1,rfl,o,rfl⟩:=h';obtain⟨te,e,bM,rfl,ic⟩:=hE.at hx;have heE:=jj_ bM;have hel':=dB e heE;have et:E.take (i+1)=E.take i++[e]:=by rw[jB_,bM];rfl
   nofun;refine⟨.inr ⟨_,.inl (s1 _ _ hd)⟩,A0.ofS (s1 _ _ ht) (s1 _ _ ic) (by simp;lia) fun q H2 s2 hq=>?_⟩;have bB:=s1.trans s2;rw[<-jg_,<-BE]at hq;refine⟨_,DGet.t (bB _ _ hd) hq,bB,?_,_,rfl⟩;rw[et,V0 nd];unfold rowO;rw[jg_,jg_,xb_];rfl
  ·obtain⟨s1,rfl,o,rfl⟩:=h';rw[hE.1,jr_];exact⟨D,rfl,_,.inl ⟨SqL.of Ab,fun q hq=>k q _ ((s1.newT hD).newT hq) Ab fun hf=>by rw[Ab,RZ (fun e he=>by obtain⟨m,hm⟩:=hf e he;rw[hm];rfl)];rfl⟩⟩
structure Bd74 (p:Int)(L:Nat)(W E:α1)(es:Bk):Prop where
 pr:Pr p
 p18:p<1000000000000000000
 l1:1<=L
 l6:L<=6
 wn:W.length<=6
 en:E.length<=6
 hl:es.length<=100
 wa:∀w∈W,w.length<=12
 we:∀w∈E,w.length<=12
 wh:∀q∈es,q.1.length<=60
structure Cn (p:Int)(L:Nat)(W E:α1)(es:Bk):Prop where
 lt:Lal L W E es
 sq:E.length=W.length
 nd:(es.map (·.1)).Nodup
 nm:∀q∈es,0<=q.2/\q.2<p
 fu:∀u∈W,Ful es E u
 ind:Indep p W.length (W.map (gOf E es))
def Cn.tl (c:Cn p L W E es) (he:e∈E) (hv:v∈W):∃m,mkO es (v++e)=some m:=qD_.mp (c.fu v hv e he)
def Cn.fac (hp:Pr p)(c:Cn p L W E es) (hr:row.length=W.length):(facL p (W.map (gOf E es)) row).length=W.length/\(∀y∈facL p (W.map (gOf E es)) row,0<=y/\y<p)/\∀i:Nat,i<W.length->row.getD i 0%p=dotW (facL p (W.map (gOf E es)) row) (colW (W.map (gOf E es)) i)%p:=by
 have p2:=hp.1;obtain⟨cs,c1,c2⟩:=c.ind.all hp (fun r h=>by obtain⟨v,_,rfl⟩:=jo_.mp h;rw[EU,c.sq]) (by rw[ja_]) hr;rw[ja_]at c1;have ex:∃am:α2,am.length=(W.map (gOf E es)).length/\(∀y∈am,0<=y/\y<p)/\∀i:Nat,i<row.length->row.getD i 0%p=dotW am (colW (W.map (gOf E es)) i)%p:=by
  refine⟨cs.map (· % p),by rw[ja_,ja_];exact c1,fun y hy=>?_,fun i hi=>?_⟩
  ·obtain⟨c,_,rfl⟩:=jo_.mp hy;exact⟨jS_ _ s!"",jM_ _ s!""⟩
  ·rw[c2 i s!""];refine cg.dot ?_ (cg.refl _ _);unfold cg;rw[jJ_];exact jD_ fun c _=>(jR_ c (qn_ p)).symm
 unfold facL;rw[dif_pos ex];have h:=tK ex;exact⟨h.1.trans (ja_ _),h.2.1,fun i hi=>h.2.2 i s!""⟩
noncomputable def TabT (K:α3)(H:Hp)(us:List V)(t:α0):Prop:=us.length=t.length/\∀(x:Nat) (tb:α1),t[x]?=some tb->∃u zs,us[x]?=some (.ref u)/\H u=some (.tup zs)/\Aq K H zs tb
def TabT.mono {K:α3} (h:TabT K H us t)(k:TK H H'):TabT K H' us t:=⟨h.1,fun x tb hx=>by
 obtain⟨u,zs,a,b,c⟩:=h.2 x tb hx;exact⟨u,zs,a,k _ _ b,c.mono k⟩⟩
def TabT.snoc {K:α3} (h:TabT K H us t)(hu:H u=some (.tup zs))(hz:Aq K H zs tb):TabT K H (us++[.ref u]) (t++[tb]):=⟨by simp[h.1],fun x nU hx=>by
 by_cases hl:x<t.length
 ·rw[jm_ hl]at hx;obtain⟨q,ws,a,b,c⟩:=h.2 x nU hx;exact⟨q,ws,by rw[jm_ (by rw[h.1];exact hl)];exact a,b,c⟩
 ·have ao:=(jd_.mp hx).1;rw[ji_,jG_]at ao;rw[jp_ s!"",show x-t.length=0 by lia]at hx;cases hx;exact⟨u,zs,by rw[jp_ (by rw[h.1];lia),h.1,show x-t.length=0 by lia];rfl,hu,hz⟩⟩
noncomputable def GuT (K:α3)(H:Hp)(h:Addr)(p L:Int)(t:α0)(l:α2):Prop:=∃tf tt tl us,H h=some (.tup [.int p,.int L,.ref tf,.ref tt,.ref tl])/\H tf=some (.tup ((AQ l.length 0).map V.int))/\H tt=some (.tup us)/\TabT K H us t/\H tl=some (.tup (l.map V.int))
def GuT.mono {K:α3} (x:GuT K H h p L t l)(k:TK H H'):GuT K H' h p L t l:=by
 obtain⟨tf,tt,tl,us,a,b,c,d,e⟩:=x;exact⟨tf,tt,tl,us,k _ _ a,k _ _ b,k _ _ c,d.mono k,k _ _ e⟩
def Aq.rowsN {K:α3} (h:Aq K H zs ws):AR K H zs ws:=⟨h.1,fun i r hr=>by
 obtain⟨t,a,b⟩:=h.2 i r hr;exact⟨t,a,SqT.of b⟩⟩
noncomputable def V4 (K:α3):Sp:=fun vs H Q _=>∃(tp:Bool) (p:Int) (L:Nat) (pw pe d:Addr) (zs ys:List V) (W E:α1) (es:Bk),vs=[.int p,.int L,.ref pw,.ref pe,.ref d]/\SqL K H pw zs/\Aq K H zs W/\SqB K H tp pe ys/\Aq K H ys E/\H d=some (.dT (ents es))/\Bd74 p L W E es/\Cn p L W E es/\Full L W E es/\∀h H',Same H H'->GuT K H' h p L (gTab p L W E es) (Dk W es)->Q (.ref h) H'
def M5:⋯ EE.j28 6 ["p","letters","access","ends","told"] (V4 K):=by
 delta EE.j28 Bj
 ·obtain⟨tp,p,L,pw,pe,d,zs,ys,W,E,es,rfl,_⟩:=h;rfl
 ·obtain⟨tp,p,L,pw,pe,d,zs,ys,W,E,es,rfl,i3,hW,kH,hE,hd,bd,tb,full,k⟩:=h;have hl:=An;have kI:=bd.wn;have dB:=bd.we;have cA:=tb.sq;have nV:=bd.l6;have b7:=bd.wa;refine⟨_,(Ad (Ak (i:=5) Bj.nd (Am (lenD Ai) (by rfl) EE.len jF_ (Aa (pvD 2) Ac)))
   (Ad (BJ (i:=6) Bj.nd rfl rfl rfl (Ay rfl) (cp:=Gj) ⟨⟨rfl,rfl⟩,⟨⟨rfl,rfl⟩,oX⟩⟩ (Ba (pvD 2)) (fun _ _ _ _=>(Al (i:=0) II rfl (oY rfl))) (fun _ _ _ _=>AJ) (fun _ _ _ _=>(Ag (B6 EE) hr.d Aw (Aa (pvD 1) (Aa (pvD 0) (Aa (pvD 2) Ac))))))
   (Ad (Ak (i:=7) Bj.nd (CU Ac))
   (Ad (A3 jN_ rfl (AF rfl EE.range (Aa (pvD 1) Ac)) (Al (i:=8) Bj.nd rfl (ph rfl))
   (Ad (BJ (i:=9) Bj.nd rfl rfl rfl (Ay rfl) (cp:=Gk) ⟨⟨rfl,rfl⟩,⟨⟨rfl,rfl⟩,⟨⟨rfl,rfl⟩,oX⟩⟩⟩ (Ba (pvD 2)) (fun _ _ _ _=>(Al (i:=0) IJ rfl (oY rfl))) (fun _ _ _ _=>AJ) (fun _ _ _ _=>(Ag (B6 EE) hr.d Aw (Aa (pvD 1) (Aa (As (CD (K:=K) rfl) (pvD 0) (AW (Aa (pvD 3) Ac))) (Aa (pvD 2) Ac))))))
   (Af (Bx (Ka qh_ qb_ qc_ By (pvD 7) (Aa (Ar Av rfl EE.tuple jw_ (Aa (AA rfl (Ay rfl) (cp:=Gm) oX (Ba (Ag (Bh EE) hr.d Aw (Aa (pvD 0) (Aa (pvD 6) (Aa (pvD 9) (Aa (pvD 5) Ac)))))) (fun _ _ _ _=>(Al (i:=0) IK rfl (oY rfl))) (fun _ _ _ _=>AJ) (fun _ _ _ _=>(Ar (BL (K:=K) rfl) rfl EE.tuple jw_ (Aa (pvD 0) Ac)))) Ac)) Ac))))))
   (Ad (Ak (i:=10) Bj.nd (Ar Av rfl EE.tuple jw_ (Aa (AA rfl (Ay rfl) (cp:=Fi) ⟨⟨rfl,rfl⟩,oX⟩ (Ba (pvD 2)) (fun _ _ _ _=>(Al (i:=0) Hk rfl (oY rfl))) (fun _ _ _ _=>AJ) (fun _ _ _ _=>(Qz (Hb hr) (pvD 1) (pvD 0) (fun _ _=>rfl)))) Ac)))
   (Af (Ap (AW (Aa (pvD 0) (Aa (pvD 1) (Aa (Ag (JN EE) hr.d Aw (Aa (pvD 5) (Aa Ae Ac))) (Aa (Ar Av rfl EE.tuple jw_ (Aa (pvD 7) Ac)) (Aa (pvD 10) Ac))))))))))))),?_⟩
  nofun;refine⟨_,.inl i3,⟨_,i3⟩,?_⟩;have mrow:∀v∈W,gOf E es v∈W.map (gOf E es):=fun v hv=>qT_ hv;refine Fb (xs:=zs) (fun i us af H'=>Same H H'/\Aq K H' us ((W.take i).map (gOf E es))/\∃o,af=[o,some (.ref d),some (.ref pe)]) ⟨Same.refl _,Aq.nil,none,rfl⟩ (by rw[hW.1];lia) (fun i us af H' hi h'=>⟨h'.1.seq i3,by rw[h'.2.1.1,ja_,jz_];lia⟩) (fun i x us af H' hx h'=>?_) (fun us af H1 h' D hD=>?_)
  ·obtain⟨s1,hR,o,rfl⟩:=h';obtain⟨t,v,bc,rfl,ht⟩:=hW.at hx;have bA:=jj_ bc;nofun;refine⟨tp,d,t,pe,es,v,ys,E,rfl,s1 _ _ hd,tb.nd,s1 _ _ ht,kH.mono s1,hE.mono (TK.of s1),by have:=b7 v bA;lia,fun e he=>by have:=dB e he;lia,by lia,fun q H2 s2 _ aH=>⟨s1.trans s2,?_,_,rfl⟩⟩;rw[jB_,bc,jg_];exact (hR.mono (TK.of s2)).snoc (aH fun e he=>tb.tl he bA)
  obtain⟨s1,hR,o,rfl⟩:=h';rw[hW.1,jr_]at hR;have nW:=s1.newT hD (o:=.lst us);have hR1:=hR.mono (TK.new hD (o:=.lst us));have hDs:upd H1 D (.lst us) D=some (.lst us):=Ab;generalize upd H1 D (.lst us)=H2 at nW hR1 hDs ⊢;refine⟨by lia,fun q hq=>⟨by lia,by lia,?_⟩⟩;rw[jU_,hW.1];have s2:=Same.new hq (o:=.lst []);have aH:upd H2 q (.lst []) q=some (.lst []):=Ab;obtain⟨Pv,aj⟩:∃Pv:Nat->St->Hp->Prop,∀i af H',Pv i af H'↔(∃(o1 o2:Option V) (jE:List V),Same H2 H'/\H' q=some (.lst jE)/\TabT K H' jE ((gTab p L W E es).take i)/\af=[some (.int p),some (.int L),some (.ref pw),some (.ref pe),some (.ref d),some (.int W.length),some (.ref D),some (.ref q),o1,o2,none]):=⟨_,fun _ _ _=>j8_⟩;have gl:(gTab p L W E es).length=L:=by unfold gTab;rw[ja_,jI_]
  refine forR Pv ((aj _ _ _).mpr ⟨none,none,[],s2,aH,⟨rfl,fun x tb z=>by simp at z⟩,rfl⟩) (fun x af H' hx h'=>?_) (fun af H' h'=>?_)
  ·obtain⟨o1,o2,jE,s3,gV,hT,rfl⟩:=(aj _ _ _).mp h';rw[qf_];have t3:=nW.trans s3;nofun;refine⟨⟨_,t3.seq i3⟩,Fb (xs:=zs) (fun i us af H4=>Same H' H4/\Aq K H4 us ((W.take i).map fun v=>gOf E es (v++[(x:Int)]))/\∃o,af=[o,some (.ref d),some (.ref pe),some (.int x)]) ⟨Same.refl _,Aq.nil,none,rfl⟩ (by rw[hW.1];lia) (fun i us af H4 hi h'=>⟨h'.1.seq (t3.seq i3),by rw[h'.2.1.1,ja_,jz_];lia⟩) (fun i xv dm af H4 jF h'=>?_) (fun dm af H4 h' D2 bX=>?_)⟩
   ·obtain⟨s4,eZ,o,rfl⟩:=h';obtain⟨t,v,bc,rfl,ht⟩:=hW.at jF;have bA:=jj_ bc;have t4:=t3.trans s4;nofun;refine⟨by lia,fun p5 gy=>?_⟩;have a5:=Same.new gy (o:=.tup [V.int (x:Int)]);refine A0.ofS (a5 _ _ (t4 _ _ ht)) Ab (by have:=b7 v bA;simp;lia) fun t6 H6 s6 ie=>?_;have a6:=a5.trans s6;have nX:=t4.trans a6;rw[show [V.int (x:Int)]=[(x:Int)].map V.int from rfl,<-jg_]at ie;refine⟨tp,d,t6,pe,es,v++[(x:Int)],ys,E,rfl,nX _ _ hd,tb.nd,ie,kH.mono nX,hE.mono (TK.of nX),by have:=b7 v bA;simp;lia,fun e he=>by have:=dB e he;lia,by lia,fun q7 H7 s7 _ nu=>⟨s4.trans (a6.trans s7),?_,_,rfl⟩⟩;rw[jB_,bc,jg_];exact (eZ.mono (TK.of (a6.trans s7))).snoc (nu fun e he=>full _ (UX bA hx he))
   obtain⟨s4,eZ,o,rfl⟩:=h';rw[hW.1,jr_]at eZ;have a5:=s4.newT bX (o:=.lst dm);have hR5:=eZ.mono (TK.new bX (o:=.lst dm));have hD5:upd H4 D2 (.lst dm) D2=some (.lst dm):=Ab;generalize upd H4 D2 (.lst dm)=H5 at a5 hR5 hD5 ⊢;have t5:=s3.trans a5;have ar:∀r∈W.map (gOf E es),r.length=W.length:=fun r hr=>by obtain⟨v,_,rfl⟩:=jo_.mp hr;rw[EU,cA]
   have hsl:∀r∈W.map (fun v=>gOf E es (v++[(x:Int)])),r.length=W.length:=fun r hr=>by obtain⟨v,_,rfl⟩:=jo_.mp hr;rw[EU,cA]
   have fH:=a5 _ _ gV;have hT5:=hT.mono (TK.of a5);refine⟨.inl ⟨rfl,_,SqL.of fH⟩,p,false,D,D2,W.length,us,dm,W.map (gOf E es),W.map (fun v=>gOf E es (v++[(x:Int)])),rfl,bd.pr,SqL.of (t5 _ _ hDs),Aq.rowsN (hR1.mono (TK.of t5)),ar,SqL.of hD5,Aq.rowsN hR5,hsl,by lia,by rw[ja_];lia,by rw[ja_];lia,fun l6 zs6 bs H6 s6 hn6 hl6' seen gz=>?_⟩;refine⟨l6,rfl,⟨_,SqL.of hl6'⟩,Fb (xs:=zs6) (fun i us af H7=>Same H6 H7/\Aq K H7 us ((W.take i).map fun v=>facL p (W.map (gOf E es)) (gOf E es (v++[(x:Int)])))/\∃o,af=[o]) ⟨Same.refl _,Aq.nil,none,rfl⟩ (by rw[gz.1,ja_];lia) (fun i us af H7 hi h'=>⟨h'.1.seq (SqL.of hl6'),by rw[h'.2.1.1,ja_,jz_];lia⟩) (fun i xv fM af H7 jF h'=>?_) (fun fM af H7 h' D7 hD7=>?_)⟩
   ·obtain⟨s7,lU,o,rfl⟩:=h';have hi:i<W.length:=by have:=(jd_.mp jF).1;rw[gz.1,ja_]at this;exact this
    have hsi:(W.map (fun v=>gOf E es (v++[(x:Int)])))[i]?=some (gOf E es (W[i]++[(x:Int)])):=by rw[jf_,jb_ hi];rfl
    have hrow:(gOf E es (W[i]++[(x:Int)])).length=W.length:=by rw[EU,cA]
    rcases gz.2 i _ hsi with ⟨_,c,hc1,dH⟩|⟨gJ,_⟩
    ·rw[jF]at hc1;cases hc1;have f:=tb.fac bd.pr hrow;have fe:=RD (by have:=bd.pr.1;lia) ar tb.ind seen hrow (am:=facL p (W.map (gOf E es)) (gOf E es (W[i]++[(x:Int)]))) (by rw[ja_];exact f.1) f.2.1 f.2.2;rw[fe]at dH;nofun;refine⟨_,.inl ⟨SqL.of (s7 _ _ dH),fun l8 lR=>⟨s7.newT lR,?_,_,rfl⟩⟩⟩;rw[jB_,jb_ hi,jg_];exact (lU.mono (TK.new lR)).snoc Ab
    ·exact absurd (tb.ind.all bd.pr ar (by rw[ja_]) hrow) gJ
   obtain⟨s7,lU,o,rfl⟩:=h';rw[gz.1,ja_,jr_]at lU;have a8:=(s6.trans s7).newT hD7 (o:=.lst fM);refine⟨D7,rfl,_,.inl ⟨SqL.of Ab,fun l9 fN=>?_⟩⟩;have a9:=a8.newT fN (o:=.tup fM);have kJ:=a9 _ _ fH;have hR9:=(lU.mono (TK.new hD7 (o:=.lst fM))).mono (TK.new fN (o:=.tup fM));have jG:=hT5.mono (TK.of a9);have hl9':upd (upd H7 D7 (.lst fM)) l9 (.tup fM) l9=some (.tup fM):=Ab;generalize upd (upd H7 D7 (.lst fM)) l9 (.tup fM)=H9 at a9 kJ hR9 jG hl9' ⊢;refine⟨_,kJ,by rw[hT.1,jz_];lia,(aj _ _ _).mpr ⟨_,_,_,(t5.trans a9).over hq,Ab,?_,rfl⟩⟩;have e:(gTab p L W E es).take (x+1)=(gTab p L W E es).take x++[W.map fun v=>facL p (W.map (gOf E es)) (gOf E es (v++[(x:Int)]))]:=by
    rw[jB_]
    congr 1
    unfold gTab;rw[jf_,jO_ hx];rfl
   rw[e];exact (jG.snoc hl9' hR9).mono (TK.lst kJ)
  ·obtain⟨o1,o2,jE,s3,gV,hT,rfl⟩:=(aj _ _ _).mp h';rw[qm_ (by rw[gl];exact jh_ _)]at hT;nofun;have t3:=nW.trans s3;refine⟨⟨_,t3.seq i3⟩,Fb (xs:=zs) (fun i us af H4=>Same H' H4/\us=(Dk (W.take i) es).map V.int/\∃o,af=[o,some (.ref d)]) ⟨Same.refl _,rfl,none,rfl⟩ (by rw[hW.1];lia) (fun i us af H4 hi h'=>⟨h'.1.seq (t3.seq i3),by rw[h'.2.1,ja_];unfold Dk;rw[ja_,jz_];lia⟩) (fun i xv dm af H4 jF h'=>?_) (fun dm af H4 h' D2 bX=>?_)⟩
   ·obtain⟨s4,rfl,o,rfl⟩:=h';obtain⟨t,v,bc,rfl,ht⟩:=hW.at jF;obtain⟨m,hm⟩:=full v (X6 (jj_ bc));have i4:valV (ents es) (wkey v)=some (.int m):=IY tb.nd (VT hm);have t4:=t3.trans s4;nofun;refine⟨_,by rw[<-i4];exact DGet.t (t4 _ _ hd) (by rw[BE];exact t4 _ _ ht),s4,?_,_,rfl⟩;unfold Dk;rw[jB_,bc,jg_,jg_];show _++[V.int m]=_++[V.int ((mkO es v).getD 0)];rw[hm];rfl
   ·obtain⟨s4,rfl,o,rfl⟩:=h';rw[hW.1,jr_];refine⟨D2,rfl,_,.inl ⟨SqL.of Ab,fun l5 fI=>?_⟩⟩;have a5:=(s4.newT bX (o:=.lst ((Dk W es).map V.int))).newT fI (o:=.tup ((Dk W es).map V.int));have hl5':upd (upd H4 D2 (.lst ((Dk W es).map V.int))) l5 (.tup ((Dk W es).map V.int)) l5=some (.tup ((Dk W es).map V.int)):=Ab;generalize upd (upd H4 D2 (.lst ((Dk W es).map V.int))) l5 (.tup ((Dk W es).map V.int))=H5 at a5 hl5' ⊢;refine⟨W.length,0,rfl,by lia,fun q6 H6 s6 eB=>?_⟩;have a6:=a5.trans s6;refine⟨_,.inl ⟨SqL.of (a6 _ _ gV),fun l7 jH=>⟨by lia,fun h8 hh8=>?_⟩⟩⟩;have a7:=Same.new jH (o:=.tup jE);have a8:=Same.new hh8 (o:=.tup [V.int p,V.int (L:Int),V.ref q6,V.ref l7,V.ref l5]);have ll:(Dk W es).length=W.length:=by unfold Dk;rw[ja_]
    refine k h8 _ (t3.trans (a6.trans (a7.trans a8))) ⟨q6,l7,l5,jE,Ab,?_,a8 _ _ Ab,hT.mono (TK.of (a6.trans (a7.trans a8))),(a7.trans a8) _ _ (s6 _ _ hl5')⟩;rw[ll];exact (a7.trans a8) _ _ eB
def PU (hW:W.length<=100)(hL:L<=6)(hE:E.length<=100):(Jp (Dy L W) E).length<=70000:=by
 unfold Jp;have h1:=A1 ((Dy L W).flatMap fun r=>E.map (r ++ ·)) [];have h2:((Dy L W).flatMap fun r=>E.map (r ++ ·)).length=(Dy L W).length*E.length:=by
  rw[xE_];generalize Dy L W=l
  induction l with
  |nil=>simp
  |cons a l ih=>rw[j6_,sS,ih,ja_,qp_,pM];lia
 have h3:=RT L W;have h4:W.length*L<=100*6:=qJ_ hW hL;have h5:(Dy L W).length*E.length<=700*100:=qJ_ s!"" hE;rw[h2,xv_]at h1;lia
noncomputable def SPp (K:α3)(H:Hp)(a:Addr)(p L:Int)(acc ends:α1)(es:Bk):Prop:=∃(ta te th:Addr) (o:Obj) (xs ys rs:List V),H a=some (.tup [.int p,.int L,.ref ta,.ref te,.ref th])/\SqT K H ta xs/\Aq K H xs acc/\SqT K H te ys/\Aq K H ys ends/\H th=some (.frz o (.tup rs))/\o.dict=none/\BG H rs es
def SPp.mono {K:α3} {acc ends:α1} (h:SPp K H a p L acc ends es)(s:Same H H'):SPp K H' a p L acc ends es:=by
 obtain⟨ta,te,th,o,xs,ys,rs,h1,h2,h3,h4,h5,h6,h7,h8⟩:=h;exact⟨ta,te,th,o,xs,ys,rs,s _ _ h1,s.seqT h2,h3.mono (TK.of s),s.seqT h4,h5.mono (TK.of s),s _ _ h6,h7,h8.mono (TK.of s)⟩
def Bd74.b49 {p:Int}{L:Nat}{W E:α1}{es:Bk}(b:Bd74 p L W E es):B49 L W E es where
 n1:=b.l1
 n6:=b.l6
 al:=b.wn
 el:=by have:=b.en;lia
 hl:=by have:=b.hl;lia
 wa:=fun w hw=>by have:=b.wa w hw;lia
 we:=fun w hw=>by have:=b.we w hw;lia
 wh:=fun q hq=>by have:=b.wh q hq;lia
def E8 (hp:Pr p) : (A6 p n ae).length=ae.length↔Indep p n ae:=by
 constructor
 ·intro h;refine Indep.of hp.1 (OG hp) _ _ rfl fun i hi=>?_;have h2:(A6 p n ae).length=(oW ae.length).length:=by rw[h,jI_]
  unfold A6 at h2
  classical
  have hz:=List.length_filter_eq_length_iff.mp h2 i (j3_.mpr hi);exact qU_ hz
 ·intro h;rw[h.chosen hp.1,jI_]
noncomputable def Km (K:α3)(H:Hp)(us:List V)(E:α1)(es:Bk)(W:α1):Prop:=us.length=W.length/\∀(i:Nat) (u:α2),W[i]?=some u->∃q,us[i]?=some (.ref q)/\H q=some (.tup ((rowO es E u).map oV))
def Km.mono {K:α3} (h:Km K H us E es W)(s:Same H H'):Km K H' us E es W:=⟨h.1,fun i u hi=>by
 obtain⟨q,a,b⟩:=h.2 i u hi;exact⟨q,a,s _ _ b⟩⟩
def Km.snoc {K:α3} (h:Km K H us E es W)(hq:H q=some (.tup ((rowO es E u).map oV))):Km K H (us++[.ref q]) E es (W++[u]):=⟨by simp[h.1],fun i v hi=>by
 by_cases hl:i<W.length
 ·rw[jm_ hl]at hi;obtain⟨r,a,b⟩:=h.2 i v hi;exact⟨r,by rw[jm_ (by rw[h.1];exact hl)];exact a,b⟩
 ·have ao:=(jd_.mp hi).1;rw[ji_,jG_]at ao;rw[jp_ s!"",show i-W.length=0 by lia]at hi;cases hi;exact⟨q,by rw[jp_ (by rw[h.1];lia),h.1,show i-W.length=0 by lia];rfl,hq⟩⟩
def Km.ful {K:α3} (h:Km K H us E es W)(f:∀u∈W,Ful es E u):Aq K H us (W.map (gOf E es)):=⟨by rw[ja_];exact h.1,fun i r hi=>by
 rw[jf_]at hi;cases hu:W[i]? with
 |none=>rw[hu]at hi;cases hi
 |some u=>
  rw[hu]at hi;cases hi;obtain⟨q,a,b⟩:=h.2 i u hu;rw[RZ (f u (jj_ hu))]at b;exact⟨q,a,b⟩⟩
noncomputable def V5 (K:α3):Sp:=fun vs H Q _=>∃(a:Addr) (p:Int) (L:Nat) (W E:α1) (es:Bk),vs=[.ref a]/\SPp K H a p L W E es/\Bd74 p L W E es/\(es.map (·.1)).Nodup/\∀l us H',Same H H'->H' l=some (.lst us)->Km K H' us E es W->Q (.ref l) H'
def Gx:⋯ EE.j29 2 ["paper"] (V5 K):=by
 delta EE.j29 Gf
 ·obtain⟨a,p,L,W,E,es,rfl,_⟩:=h;rfl
 ·obtain⟨a,p,L,W,E,es,rfl,hP,g,nd,k⟩:=h;have hl:=An;obtain⟨ta,te,th,o,xs,ys,rs,h1,h2,h3,h4,h5,h6,h7,h8⟩:=id hP;refine⟨_,(Ad (BS (i:=1) Gf.nd rfl (ph rfl) (Ar (FN rfl hr) rfl EE.dict zt_ (Aa (Aj (ixTD Ao) (pvD 0) Ae) Ac)))
   (Af (Ap (AA rfl (Ay rfl) (cp:=Fj) ⟨⟨rfl,rfl⟩,⟨⟨rfl,rfl⟩,oX⟩⟩ (Cc (Aj (ixTD Ao) (pvD 0) Ae)) (fun _ _ _ _=>(Al (i:=0) Hl rfl (oY rfl))) (fun _ _ _ _=>AJ) (fun _ _ _ _=>(Ag (B6 EE) hr.d Aw (Aa (pvD 1) (Aa (pvD 0) (Aa (Aj (ixTD (Bb (K:=K) rfl)) (pvD 2) Ae) Ac))))))))),?_⟩
  nofun;have hz:=g.hl;have kI:=g.wn;have lT:=g.en;obtain⟨ts,jI,fB⟩:=h8.prs;have dB:(ents es).length=es.length:=by unfold ents;rw[ja_]
  refine⟨_,SqT.of h1,_,rfl,th,o,ts,ents es,rfl,by rw[h6,jI],h7,fB,by lia,fun d hd=>?_⟩;rw[L4 nd];have s1:=Same.new hd (o:=.dT (ents es));refine⟨_,SqT.of (s1 _ _ h1),_,rfl,ta,rfl,⟨_,s1.seqT h2⟩,?_⟩;refine IE (xs:=xs) (fun i us af H'=>Same (upd H d (.dT (ents es))) H'/\Km K H' us E es (W.take i)/\∃oo,af=[oo,some (.ref d),some (.ref a)]) ⟨Same.refl _,⟨rfl,fun i u z=>by simp at z⟩,none,rfl⟩ (by rw[h3.1];lia) (fun i us af H' hi h'=>⟨(s1.trans h'.1).seqT h2,by rw[h'.2.1.1,jz_];lia⟩) (fun i x us af H' hx h'=>?_) (fun us af H' h' D hD=>?_)
  ·obtain⟨s2,hR,oo,rfl⟩:=h';obtain⟨t,v,bc,rfl,ht⟩:=h3.at hx;have bA:=jj_ bc;have bB:=s1.trans s2;nofun;refine⟨_,SqT.of (bB _ _ h1),_,rfl,true,d,t,te,es,v,ys,E,rfl,s2 _ _ Ab,nd,bB _ _ ht,bB.seqT h4,h5.mono (TK.of bB),by have:=g.wa v bA;lia,fun e he=>by have:=g.we e he;lia,by lia,fun q H2 s3 aH _=>⟨s2.trans s3,?_,_,rfl⟩⟩;rw[jB_,bc];exact (hR.mono s3).snoc aH
  ·obtain⟨s2,hR,oo,rfl⟩:=h';rw[h3.1,jr_]at hR;exact k D us _ ((s1.trans s2).newT hD) Ab (hR.mono (Same.new hD))
noncomputable def NY (K:α3):Sp:=fun vs H Q _=>∃(a:Addr) (p:Int) (L:Nat) (W E:α1) (es:Bk),vs=[.ref a]/\SPp K H a p L W E es/\Bd74 p L W E es/\(∀H',Same H H'->Cn p L W E es->Q (.bl true) H')/\(∀H',Same H H'->¬ Cn p L W E es->Q (.bl false) H')
def R0:⋯ EE.j30 8 ["paper"] (NY K):=by
 delta EE.j30 MM
 ·obtain⟨a,p,L,W,E,es,rfl,_⟩:=h;rfl
 ·obtain⟨a,p,L,W,E,es,rfl,hP,g,kt,kf⟩:=h;have hl:=An;obtain⟨ta,te,th,o,xs,ys,rs,h1,h2,h3,h4,h5,h6,h7,h8⟩:=id hP;refine⟨_,(Ad (A5 (PW.pt (G4 (Cb (ptB (BH (Ag (Ff EE) hr.d Aw (Aa (Aj (ixTD Ao) (pvD 0) Ae) (Aa (Bp El (pvD 0) (BZ Ae) BY) Ac)))))) (DS (ptT (Ax (opN FJ) (Am (lenD Ai) (by rfl) EE.len jF_ (Aa (Aj (ixTD Ao) (pvD 0) Ae) Ac)) (Am (lenD Ai) (by rfl) EE.len jF_ (Aa (Aj (ixTD Ao) (pvD 0) Ae) Ac)) (AB _))))))
   (Af (Ap Bo))
   AE)
   (Ad (A5 (ptT (Ax (opD0 Lb) (Am Kc (by rfl) EE.len jF_ (Aa (Ar (FN rfl hr) rfl EE.dict zt_ (Aa (Aj (ixTD Ao) (pvD 0) Ae) Ac)) Ac)) (Am (lenD Ai) (by rfl) EE.len jF_ (Aa (Aj (ixTD Ao) (pvD 0) Ae) Ac)) (AB _)))
   (Af (Ap Bo))
   AE)
   (Ad (A5 (Cb (ptB (BH (Am (IU rfl) rfl EE.all xS_ (Aa (AA rfl (Ay rfl) (cp:=KJ) ⟨⟨rfl,rfl⟩,oX⟩ (Cc (Aj (ixTD Ao) (pvD 0) Ae)) (fun _ _ _ _=>(Al (i:=0) LJ rfl (oY rfl))) (fun _ _ _ _=>AJ) (fun _ _ _ _=>(Ag (M4 EE) hr.d Aw (Aa (Aj (ixTD (Bb (K:=K) rfl)) (pvD 1) Ae) (Aa (Aj (ixTD (Bb (K:=K) rfl)) (pvD 0) Ae) Ac))))) Ac)))))
   (Af (Ap Bo))
   AE)
   (Ad (Ak (i:=1) MM.nd (Ag (Gx EE) hr.d Aw (Aa (pvD 0) Ac)))
   (Ad (A5 (ptB (BH (Am (Sx rfl) rfl EE.any tL (Aa (AA rfl (Ay rfl) (cp:=KL) oX (Ba (pvD 1)) (fun _ _ _ _=>(Al (i:=0) LK rfl (oY rfl))) (fun _ _ _ _=>AJ) (fun _ _ _ _=>(Jh (O8 (K:=K) rfl) Kr (pvD 0) rfl))) Ac))))
   (Af (Ap Bo))
   AE)
   (Af (Ap (Ag (RY EE) hr.d Aw (Aa (Aj (ixTD Ao) (pvD 0) Ae) (Aa (pvD 1) Ac)))))))))),?_⟩
  nofun;have hz:=g.hl;have kI:=g.wn;have lT:=g.en;obtain⟨ts,jI,fB⟩:=h8.prs;have dB:(ents es).length=es.length:=by unfold ents;rw[ja_]
  have ar:rs.length=es.length:=h8.1;refine⟨_,SqT.of h1,_,rfl,_,SqT.of h1,fun pp H1 s1 lV=>?_⟩;have lV:SqT K H1 pp [.ref ta,.ref te,.ref th]:=lV;refine⟨L,pp,ta,te,th,xs,ys,W,E,es,ts,rfl,lV,s1.seqT h2,h3.mono (TK.of s1),s1.seqT h4,h5.mono (TK.of s1),.inl (.inr ⟨o,by rw[<-jI];exact s1 _ _ h6⟩),fB.mono s1,g.b49,fun H2 s2 cc=>⟨true,rfl,?_⟩,fun H2 s2 cc=>⟨false,rfl,?_⟩⟩
  rotate_left
  ·rw[if_pos (by simp)];exact kf _ (s1.trans s2) fun z=>cc z.lt
  rw[if_neg (by simp)];have bB:=s1.trans s2;refine⟨_,SqT.of (bB _ _ h1),_,rfl,ta,rfl,_,.inr (bB.seqT h2),_,SqT.of (bB _ _ h1),_,rfl,te,rfl,_,.inr (bB.seqT h4),?_⟩;by_cases cA:E.length=W.length
  rotate_left
  ·rw[if_pos (by rw[h3.1,h5.1];simp;lia)];exact kf _ bB fun z=>cA z.sq
  rw[if_neg (by rw[h3.1,h5.1,cA];simp)];refine⟨_,SqT.of (bB _ _ h1),_,rfl,th,o,ts,ents es,rfl,by rw[<-jI];exact bB _ _ h6,h7,fB.mono bB,by lia,fun d hd=>?_⟩;have s3:=Same.new hd (o:=.dT (Bw [] (ents es)));have aU:=bB.trans s3;have fO:∀{H':Hp},Same H H'->SqT K H' th rs:=fun s=>.inl (.inr ⟨o,s _ _ h6⟩);refine⟨d,rfl,_,Ab,_,SqT.of (aU _ _ h1),_,rfl,th,rfl,_,.inr (fO aU),?_⟩;by_cases nd:(es.map (·.1)).Nodup
  rotate_left
  ·rw[if_pos (by
    have:=JS (ents es) [] (by simp) (by rw[xw_];exact fun z=>nd (V2.mp z));rw[xv_,qP,dB]at this;lia)]
   exact kf _ aU fun z=>nd z.nd
  rw[if_neg (by rw[L4 nd,dB,ar];lia)];refine⟨_,SqT.of (aU _ _ h1),_,rfl,th,rfl,⟨_,fO aU⟩,?_⟩;generalize upd H2 d (.dT (Bw [] (ents es)))=H3 at aU;clear s3 hd bB s2 lV s1;obtain⟨Pc,aL⟩:∃Pc:Nat->List V->St->Hp->Prop,∀i us af H',Pc i us af H'↔(H'=H3/\us=((es.take i).map fun q=>JT p q.2).map V.bl/\∃oo,af=[oo,some (.ref a)]):=⟨_,fun _ _ _ _=>j8_⟩;refine IE (xs:=rs) Pc ((aL _ _ _ _).mpr ⟨rfl,rfl,none,rfl⟩) s!"" (fun i us af H' hi h'=>?_) (fun i x us af H' hx h'=>?_) (fun us af H' h' D hD=>?_)
  ·obtain⟨rfl,rfl,_⟩:=(aL _ _ _ _).mp h';exact⟨fO aU,by simp;lia⟩
  ·obtain⟨rfl,rfl,ov,rfl⟩:=(aL _ _ _ _).mp h';have hi:i<es.length:=by rw[<-ar];exact (jd_.mp hx).1
   obtain⟨t,b,e1,e2,e3⟩:=h8.2 i es[i] (by simp[hi]);rw[hx]at e1;cases e1;nofun;refine⟨_,SqT.of (aU _ _ h1),_,rfl,_,SqT.of (aU _ _ e2),_,rfl,p,es[i].2,rfl,(aL _ _ _ _).mpr ⟨rfl,?_,_,rfl⟩⟩;rw[jB_,jb_ hi,jg_,jg_];rfl
  ·obtain⟨rfl,rfl,ov,rfl⟩:=(aL _ _ _ _).mp h';rw[ar,jr_];refine⟨D,rfl,_,SqL.of Ab,?_⟩;have hgo:((es.map fun q=>JT p q.2).all id=true) ↔ ∀q∈es,0<=q.2/\q.2<p:=by
    rw[zf_,qP_];refine⟨fun h q hq=>?_,fun h q hq=>?_⟩
    ·have:=h q hq;have:JT p q.2=true:=this;unfold JT at this;rw[qo_,j5_,j5_]at this;exact this
    ·show JT p q.2=true;unfold JT;rw[qo_,j5_,j5_];exact h q hq
   have s4:=aU.newT hD (o:=.lst ((es.map fun q=>JT p q.2).map V.bl));cases hq:(es.map fun q=>JT p q.2).all id with
   |false=>
    rw[if_pos (by simp)];exact kf _ s4 fun z=>by rw[hgo.mpr z.nm]at hq;cases hq
   |true=>
   have hnm:=hgo.mp hq;rw[if_neg (by simp)];refine⟨a,p,L,W,E,es,rfl,hP.mono s4,g,nd,fun l us H5 s5 fI nY=>⟨l,rfl,⟨_,SqL.of fI⟩,?_⟩⟩;have s45:=s4.trans s5;have kB:us.length=W.length:=nY.1;obtain⟨Pd,cO⟩:∃Pc:Nat->List V->St->Hp->Prop,∀i vs af H',Pc i vs af H'↔(H'=H5/\vs=((W.take i).map fun u=>decide (none∈rowO es E u)).map V.bl/\∃o,af=[o]):=⟨_,fun _ _ _ _=>j8_⟩;refine Fb (xs:=us) Pd ((cO _ _ _ _).mpr ⟨rfl,rfl,none,rfl⟩) s!"" (fun i vs af H' hi h'=>?_) (fun i x vs af H' hx h'=>?_) (fun vs af H' h' D2 bX=>?_)
   ·obtain⟨rfl,rfl,_⟩:=(cO _ _ _ _).mp h';exact⟨SqL.of fI,by simp;lia⟩
   ·obtain⟨rfl,rfl,ov,rfl⟩:=(cO _ _ _ _).mp h';have hi:i<W.length:=by rw[<-kB];exact (jd_.mp hx).1
    obtain⟨tw,e1,lW⟩:=nY.2 i W[i] (by simp[hi]);rw[hx]at e1;cases e1;nofun;refine⟨_,.inr (SqT.of lW),rfl,V1 _,(cO _ _ _ _).mpr ⟨rfl,?_,_,rfl⟩⟩;rw[X7,jB_,jb_ hi,jg_,jg_];rfl
   ·obtain⟨rfl,rfl,ov,rfl⟩:=(cO _ _ _ _).mp h';rw[kB,jr_];refine⟨D2,rfl,_,SqL.of Ab,?_⟩;have hfu:((W.map fun u=>decide (none∈rowO es E u)).any id=false) ↔ ∀u∈W,Ful es E u:=by
     rw[qL,qH];refine⟨fun h u hu=>NX.mpr fun z=>h u hu (jZ_ z),fun h u hu z=>NX.mp (h u hu) (qU_ z)⟩
    have s6:=Same.new bX (o:=.lst ((W.map fun u=>decide (none∈rowO es E u)).map V.bl));have lX:=s45.trans s6;cases aH:(W.map fun u=>decide (none∈rowO es E u)).any id with
    |true=>
     rw[if_pos (by simp)];exact kf _ lX fun z=>by rw[hfu.mpr z.fu]at aH;cases aH
    |false=>
    have hF:=hfu.mp aH;rw[if_neg (by simp)];refine⟨_,SqT.of (lX _ _ h1),_,rfl,p,false,l,E.length,us,W.map (gOf E es),rfl,g.pr,SqL.of (s6 _ _ fI),Aq.rowsN ((nY.ful hF).mono (TK.of s6)),fun r hr=>?_,by lia,by rw[ja_];lia,fun H7 s7=>?_⟩
    ·obtain⟨v,_,rfl⟩:=jo_.mp hr;exact EU ..
    ·rw[cA];by_cases hi:Indep p W.length (W.map (gOf E es))
     ·rw[jZ_ ((E8 g.pr).mpr hi)];exact kt _ (lX.trans s7) ⟨cc,cA,nd,hnm,hF,hi⟩
     ·rw[jX_ (fun z=>hi ((E8 g.pr).mp z))];exact kf _ (lX.trans s7) fun z=>hi z.ind
noncomputable def V6 (K:α3)(NP:Addr):Sp:=fun vs H Q E'=>∃(a:Addr) (p:Int) (L:Nat) (W E:α1) (es:Bk),vs=[.ref a]/\SPp K H a p L W E es/\Bd74 p L W E es/\(∀H',Same H H'->Cn p L W E es->Q .non H')/\(∀H',Same H H'->¬ Cn p L W E es->E' (.ref NP) none H')
def CO:CalH P w mg base (CXe P w) EE.j31 9 ["paper"] (V6 K az):=by
 refine HG.okE EE.j31 JA (fun vs H Q E h=>?_) (fun ai A outer s H vs Q E hr h=>?_)
 ·obtain⟨a,p,L,W,E,es,rfl,_⟩:=h;rfl
 ·obtain⟨a,p,L,W,E,es,rfl,hP,g,kt,kf⟩:=h;have hl:=An;refine⟨_,(Af (A5 (Cb (ptB (BH (Ag (R0 EE) hr.d Aw (Aa (pvD 0) Ac)))))
   (Af (Lm EE.m_j0 EE.x_j0 rfl rfl (Aa P8 Ac)))
   AE)),?_⟩
  nofun;refine⟨a,p,L,W,E,es,rfl,hP,g,fun H1 s1 c=>⟨true,rfl,?_⟩,fun H1 s1 c=>⟨false,rfl,?_⟩⟩
  ·rw[if_neg (by simp)];exact kt _ s1 c
  ·rw[if_pos (by simp)];exact⟨by lia,kf _ s1 c⟩
noncomputable def Tu (K:α3)(NP:Addr):Sp:=fun vs H Q E'=>∃(a:Addr) (p:Int) (L:Nat) (W E:α1) (es:Bk),vs=[.ref a]/\SPp K H a p L W E es/\Bd74 p L W E es/\(∀H',Same H H'->Cn p L W E es->Q (.int W.length) H')/\(∀H',Same H H'->¬ Cn p L W E es->E' (.ref NP) none H')
def Bm:CalH P w mg base (CXe P w) EE.j32 10 ["paper"] (Tu K az):=by
 refine HG.okE EE.j32 JC (fun vs H Q E h=>?_) (fun ai A outer s H vs Q E hr h=>?_)
 ·obtain⟨a,p,L,W,E,es,rfl,_⟩:=h;rfl
 ·obtain⟨a,p,L,W,E,es,rfl,hP,g,kt,kf⟩:=h;have hl:=An;obtain⟨ta,te,th,o,xs,ys,rs,h1,h2,h3,h4,h5,h6,h7,h8⟩:=id hP;refine⟨_,(Ad (Bx (Ag (CO EE) hr.d (Vj fun _ _ _ h=>h) (Aa (pvD 0) Ac)))
   (Af (Ap (Am (lenD Ai) (by rfl) EE.len jF_ (Aa (Aj (ixTD Ao) (pvD 0) Ae) Ac))))),?_⟩
  nofun;refine⟨a,p,L,W,E,es,rfl,hP,g,fun H1 s1 c=>⟨_,SqT.of (s1 _ _ h1),_,rfl,ta,rfl,_,.inr (s1.seqT h2),?_⟩,fun H1 s1 c=>kf _ s1 c⟩;rw[h3.1];exact kt _ s1 c
def EqD.all43 {K:α3} (hq:(SqL K H a xs/\SqL K H c ys)\/(SqT K H a xs/\SqT K H c ys))(hl:xs.length=ys.length)(h:∀(i:Nat) (x y:V),xs[i]?=some x->ys[i]?=some y->EqD K H n x y true):EqD K H (n+1) (.ref a) (.ref c) true:=
 .inr ⟨a,c,xs,ys,rfl,rfl,hq,fun _=>true,h,by simp[hl]⟩
def EqD.int43 {K:α3} (n:Nat)(i:Int):EqD K H n (.int i) (.int i) true:=by
 cases n with
 |zero=>exact⟨rfl,rfl,by simp[eqV]⟩
 |succ n=>exact .inl ⟨rfl,rfl,by simp[eqV]⟩
def EqD.word43 {K:α3}{H:Hp}(n:Nat){a b:Addr}{w:α2}(h:SqT K H a (w.map V.int))(g:SqT K H b (w.map V.int)):EqD K H (n+1) (.ref a) (.ref b) true:=by
 have:=EqD.ints (K:=K) (H:=H) (a:=a) (c:=b) (xs:=w) (ys:=w) (.inr ⟨h,g⟩) n;rw[jZ_ rfl]at this;exact this
def V7 {α:Type}{P:Nat->α->α->Prop}{a b e c d f:α}(h0:P 0 a c)(h1:P 1 b d)(h2:P 2 e f):∀i x y,[a,b,e][i]?=some x->[c,d,f][i]?=some y->P i x y:=by
 intro i x y hx hy
 match i with
 |0=>simp at hx hy;subst hx hy;exact h0
 |1=>simp at hx hy;subst hx hy;exact h1
 |2=>simp at hx hy;subst hx hy;exact h2
 |i+3=>simp at hx
noncomputable def UndG (p:Int)(W E:α1)(es:Bk)(gs:α1):Prop:=gs.length=W.length/\∀(k:Nat) (g:α2),gs[k]?=some g->g.length=W.length/\(∀x∈g,0<=x/\x<p)/\CM p (W.map (gOf E es)) g W.length=AQ W.length k
noncomputable def X8 (H:Hp)(zs:List V)(gs:α1):Prop:=zs.length=gs.length/\∀(i:Nat) (g:α2),gs[i]?=some g->∃e,zs[i]?=some (.ref e)/\H e=some (.lst (g.map V.int))
noncomputable def Tv (K:α3)(NP:Addr):Sp:=fun vs H Q E'=>∃(a:Addr) (p:Int) (L:Nat) (W E:α1) (es:Bk),vs=[.ref a]/\SPp K H a p L W E es/\Bd74 p L W E es/\(∀l zs gs H',Same H H'->Cn p L W E es->H' l=some (.lst zs)->X8 H' zs gs->UndG p W E es gs->Q (.ref l) H')/\(∀H',Same H H'->¬ Cn p L W E es->E' (.ref NP) none H')
def Bu:CalH P w mg base (CXe P w) EE.j33 10 ["paper"] (Tv K az):=by
 refine HG.okE EE.j33 DB (fun vs H Q E h=>?_) (fun ai A outer s H vs Q E hr h=>?_)
 ·obtain⟨a,p,L,W,E,es,rfl,_⟩:=h;rfl
 ·obtain⟨a,p,L,W,E,es,rfl,hP,g,kt,kf⟩:=h;have hl:=An;obtain⟨ta,te,th,o,xs,ys,rs,h1,h2,h3,h4,h5,h6,h7,h8⟩:=id hP;have kI:=g.wn;have hp:=g.pr;have cx:=h3.1;refine⟨_,(Ad (Bx (Ag (CO EE) hr.d (Vj fun _ _ _ h=>h) (Aa (pvD 0) Ac)))
   (Ad (BS (i:=1) DB.nd rfl (ph rfl) (Am (lenD Ai) (by rfl) EE.len jF_ (Aa (Aj (ixTD Ao) (pvD 0) Ae) Ac)))
   (Ad (BJ (i:=2) DB.nd rfl rfl rfl (Ay rfl) (cp:=Fl) ⟨⟨rfl,rfl⟩,oX⟩ (AF rfl EE.range (Aa (pvD 1) Ac)) (fun _ _ _ _=>(Al (i:=0) Hm rfl (oY rfl))) (fun _ _ _ _=>AJ) (fun _ _ _ _=>(Ag (JN EE) hr.d Aw (Aa (pvD 1) (Aa (pvD 0) Ac)))))
   (Af (Ap (Ag (Bh EE) hr.d Aw (Aa (Aj (ixTD Ao) (pvD 0) Ae) (Aa (Ag (Gx EE) hr.d Aw (Aa (pvD 0) Ac)) (Aa (pvD 2) (Aa (pvD 1) Ac)))))))))),?_⟩
  nofun;refine⟨a,p,L,W,E,es,rfl,hP,g,fun H1 s1 c=>⟨_,SqT.of (s1 _ _ h1),_,rfl,ta,rfl,_,.inr (s1.seqT h2),by lia,by lia,?_⟩,fun H1 s1 c=>kf _ s1 c⟩;rw[h3.1,show ((W.length:Int)).toNat=W.length by lia];refine Hd (fun j us ag H6=>Same H1 H6/\AR K H6 us ((oW j).map fun i=>AQ W.length i)/\∃o,ag=[o,some (.int W.length)]) ⟨Same.refl _,⟨rfl,fun i r hi=>by simp at hi⟩,none,rfl⟩ s!"" (fun j us ag H6 hj h=>by rw[h.2.1.1,ja_,jI_];exact jh_ _) (fun j us ag H6 hj h=>?_) (fun us ag H6 h E' ia=>?_)
  ·obtain⟨s6,hu,o,rfl⟩:=h;rw[qf_];nofun;refine⟨W.length,j,rfl,by lia,fun q H7 s7 hq=>⟨s6.trans s7,?_,_,rfl⟩⟩;rw[j4_,jg_];exact AR.snoc (hu.mono s7) (SqT.of hq)
  ·obtain⟨s6,hu,o,rfl⟩:=h;have sE:=s6.newT ia (o:=.lst us);have uE:upd H6 E' (.lst us) E'=some (.lst us):=Ab;have kC:=hu.mono (Same.new ia (o:=.lst us));generalize upd H6 E' (.lst us)=H7 at sE uE kC ⊢;have jz:=s1.trans sE;refine⟨_,SqT.of (jz _ _ h1),_,rfl,a,p,L,W,E,es,rfl,hP.mono jz,g,c.nd,fun lr vs H8 s8 nZ hR=>?_⟩;have s18:=jz.trans s8;have lS:∀r∈W.map (gOf E es),r.length=W.length:=fun r hr=>by
    obtain⟨a,_,rfl⟩:=jo_.mp hr;rw[EU,c.sq]
   have jB:(W.map (gOf E es)).length=W.length:=ja_ _;refine⟨p,false,lr,E',W.length,vs,us,W.map (gOf E es),(oW W.length).map fun i=>AQ W.length i,rfl,hp,SqL.of nZ,Aq.rowsN (hR.ful c.fu),lS,SqL.of (s8 _ _ uE),kC.mono s8,fun r hr=>?_,by lia,by lia,by rw[ja_,jI_];lia,fun l zs bs H9 s9 cz fN sn gr=>?_⟩
   ·obtain⟨a,_,rfl⟩:=jo_.mp hr;unfold AQ;simp
   have fk:=fun k=>X5 (k:=k) hp c.ind lS jB sn;obtain⟨gf,kG⟩:∃gf:Nat->α2,gf=fun k=>((Az p bs (AQ W.length k++oU (W.map (gOf E es)).length 0)).drop W.length).map (fun y => -y%p):=⟨_,rfl⟩;have hg:∀k,(gf k).length=W.length/\(∀x∈gf k,0<=x/\x<p)/\CM p (W.map (gOf E es)) (gf k) W.length=AQ W.length k:=fun k=>by
    obtain⟨_,g,z1,z2⟩:=fk k;have e:gf k=g:=by rw[kG];exact z1
    rw[e];exact z2
   have fg:∀(i:Nat) (g:α2),((oW W.length).map gf)[i]?=some g->i<W.length/\g=gf i:=fun i g hi=>by
    have aQ:i<W.length:=by have:=(jd_.mp hi).1;simpa using this
    rw[jf_,jO_ aQ]at hi;exact⟨aQ,(jC_ hi).symm⟩
   refine kt l zs ((oW W.length).map gf) H9 (s18.trans s9) c fN ⟨by rw[gr.1,ja_,ja_],fun i g hi=>?_⟩ ⟨by rw[ja_,jI_],fun i g hi=>?_⟩
   ·obtain⟨aQ,rfl⟩:=fg i g hi;rcases gr.2 i (AQ W.length i) (by rw[jf_,jO_ aQ];rfl) with ⟨_,c,c1,c2⟩|⟨z,_⟩
    ·exact⟨c,c1,by rw[kG];exact c2⟩
    ·exact absurd (fk i).1 z
   ·obtain⟨aQ,rfl⟩:=fg i g hi;exact hg i
structure Jd (p:Int)(L:Nat)(W E:α1)(es:Bk):Prop where
 cn:Cn p L W E es
 w0:∀v,W[0]?=some v->v=[]
 fu:Full L W E es
def V8 {K:α3} (h1:H p1=some (.lst (xs.take 1)))(h2:H p2=some (.lst []))(h3:H p3=some (.tup []))(h4:H p4=some (.lst [.ref p3]))(hW:Aq K H xs W):EqsD K H 4 [.ref p2,.ref p4] (.ref p1) (fun i=>if i=0 then decide (W=[]) else decide (W[0]?=some [])):=by
 have aw:p2≠p4:=fun z=>by rw[z,h4]at h2;cases h2
 refine⟨fun i v hv=>?_,fun i j v hi hj=>?_⟩
 ·cases W with
  |nil=>
   have hx:xs=[]:=jW_.mp hW.1;rw[hx]at h1
   match i with
   |0=>
    simp at hv;subst hv;exact⟨p2,rfl,EqD.all43 (.inl ⟨SqL.of h2,SqL.of h1⟩) rfl fun i x y hx=>by simp at hx⟩
   |1=>
    simp at hv;subst hv;exact⟨p4,rfl,.inr ⟨p4,p1,[.ref p3],[],rfl,rfl,.inl ⟨SqL.of h4,SqL.of h1⟩,fun _=>true,fun i x y hx hy=>(by simp at hy),rfl⟩⟩
   |i+2=>simp at hv
  |cons wd W' =>
   obtain⟨t,e1,e2⟩:=hW.2 0 wd rfl;cases xs with
   |nil=>simp at e1
   |cons x0 xs=>
    simp at e1;subst e1;have h1:H p1=some (.lst [.ref t]):=h1
    match i with
    |0=>
     simp at hv;subst hv;exact⟨p2,rfl,.inr ⟨p2,p1,[],[.ref t],rfl,rfl,.inl ⟨SqL.of h2,SqL.of h1⟩,fun _=>true,fun i x y hx hy=>(by simp at hx),rfl⟩⟩
    |1=>
     simp at hv;subst hv;refine⟨p4,rfl,.inr ⟨p4,p1,[.ref p3],[.ref t],rfl,rfl,.inl ⟨SqL.of h4,SqL.of h1⟩,fun _=>decide (wd=[]),fun i x y hx hy=>?_,by simp⟩⟩
     match i with
     |0=>
      simp at hx hy;subst hx hy;have:=EqD.ints (K:=K) (H:=H) (a:=p3) (c:=t) (xs:=[]) (ys:=wd) (.inr ⟨SqT.of h3,SqT.of e2⟩) 2;rw[show decide (wd=[])=decide (([]:α2)=wd) from decide_eq_decide.mpr ⟨Eq.symm,Eq.symm⟩];exact this
     |i+1=>simp at hx
    |i+2=>simp at hv
 ·match i,j with
  |0,0=>rfl
  |1,1=>rfl
  |0,1=>
   simp at hi hj;rw[<-hi]at hj;exact absurd (V.ref.inj hj).symm aw
  |1,0=>
   simp at hi hj;rw[<-hi]at hj;exact absurd (V.ref.inj hj) aw
  |i+2,_=>simp at hi
  |0,j+2=>simp at hj
  |1,j+2=>simp at hj
noncomputable def V9 (K:α3)(NP:Addr):Sp:=fun vs H Q E'=>∃(a:Addr) (p:Int) (L:Nat) (W E:α1) (es:Bk),vs=[.ref a]/\SPp K H a p L W E es/\Bd74 p L W E es/\(∀h H',Same H H'->Jd p L W E es->GuT K H' h p L (gTab p L W E es) (Dk W es)->Q (.ref h) H')/\(∀H',Same H H'->¬ Jd p L W E es->E' (.ref NP) none H')
def BQ:CalH P w mg base (CXe P w) EE.j34 10 ["paper"] (V9 K az):=by
 refine HG.okE EE.j34 Cw (fun vs H Q E h=>?_) (fun ai A outer s H vs Q E hr h=>?_)
 ·obtain⟨a,p,L,W,E,es,rfl,_⟩:=h;rfl
 ·obtain⟨a,p,L,W,E,es,rfl,hP,g,kt,kf⟩:=h;have hl:=An;obtain⟨ta,te,th,o,xs,ys,rs,h1,h2,h3,h4,h5,h6,h7,h8⟩:=id hP;refine⟨_,(Ad (Bx (Ag (CO EE) hr.d (Vj fun _ _ _ h=>h) (Aa (pvD 0) Ac)))
   (Ad (Ak (i:=1) Cw.nd (Ar Eh rfl EE.list qd_ (Aa (Aj (ixTD Ao) (pvD 0) Ae) Ac)))
   (Ad (BS (i:=2) Cw.nd rfl (ph rfl) (Ar (FN rfl hr) rfl EE.dict zt_ (Aa (Aj (ixTD Ao) (pvD 0) Ae) Ac)))
   (Ad (A5 (ptT (Ax (S2 4 (hu45 (hu9 hr))) (Bp Np (pvD 1) BY (BZ Ae)) (AW (Aa (CU Ac) (Aa (CU (Aa (AW Ac) Ac)) Ac))) rfl))
   (Af (Lm EE.m_j0 EE.x_j0 rfl rfl (Aa P8 Ac)))
   AE)
   (Ad (Ak (i:=3) Cw.nd (As Qu (pvD 1) (Ag (Tr EE) hr.d Aw (Aa (Aj (ixTD Ao) (pvD 0) Ae) (Aa (pvD 1) (Aa (Aj (ixTD Ao) (pvD 0) Ae) Ac))))))
   (Ad (A5 (Cb (ptB (BH (Am (IU rfl) rfl EE.all xS_ (Aa (AA rfl (Ay rfl) (cp:=Fm) ⟨⟨rfl,rfl⟩,oX⟩ (Ba (pvD 3)) (fun _ _ _ _=>(Al (i:=0) Hn rfl (oY rfl))) (fun _ _ _ _=>AJ) (fun _ _ _ _=>(Wo (WR (Hb hr) (pvD 0) (pvD 1))))) Ac)))))
   (Af (Lm EE.m_j0 EE.x_j0 rfl rfl (Aa P8 Ac)))
   AE)
   (Af (Ap (Ag (M5 EE) hr.d Aw (Aa (Aj (ixTD Ao) (pvD 0) Ae) (Aa (Aj (ixTD Ao) (pvD 0) Ae) (Aa (pvD 1) (Aa (Aj (ixTD Ao) (pvD 0) Ae) (Aa (pvD 2) Ac)))))))))))))),?_⟩
  nofun;have hz:=g.hl;have kI:=g.wn;have lT:=g.en;have nV:=g.l6;obtain⟨ts,jI,fB⟩:=h8.prs;have dB:(ents es).length=es.length:=by unfold ents;rw[ja_]
  refine⟨a,p,L,W,E,es,rfl,hP,g,fun H1 s1 c=>⟨_,SqT.of (s1 _ _ h1),_,rfl,ta,rfl,_,.inr (s1.seqT h2),fun l bS=>?_⟩,fun H1 s1 c=>kf _ s1 fun z=>c z.cn⟩;have nd:=c.nd;have cA:=c.sq;have sl:=Same.new bS (o:=.lst xs);have s2:=s1.trans sl;refine⟨_,SqT.of (s2 _ _ h1),_,rfl,th,o,ts,ents es,rfl,by rw[<-jI];exact s2 _ _ h6,h7,fB.mono s2,by lia,fun d hd=>?_⟩;rw[L4 nd];have sd:=Same.new hd (o:=.dT (ents es));refine⟨_,SqL.of (sd _ _ Ab),fun p1 aR=>⟨by lia,fun p2 bj=>⟨by lia,fun p3 i5=>⟨by lia,fun p4 n5=>⟨by lia,fun p5 gy=>?_⟩⟩⟩⟩⟩;have s3:=Same.new aR (o:=.lst (cutV xs none (some 1)));have s4:=Same.new bj (o:=.lst []);have s5:=Same.new i5 (o:=.tup []);have s6:=Same.new n5 (o:=.lst [V.ref p3]);have s7:=Same.new gy (o:=.tup [V.ref p2,V.ref p4]);have c1:cutV xs none (some 1)=xs.take 1:=F4 xs 1;have q1:=(s4.trans (s5.trans (s6.trans s7))) p1 _ Ab;have q2:=(s5.trans (s6.trans s7)) p2 _ Ab;have q3:=(s6.trans s7) p3 _ Ab;have q4:=s7 p4 _ Ab;have q5:(upd (upd (upd (upd (upd (upd (upd H1 l (.lst xs)) d (.dT (ents es))) p1 (.lst (cutV xs none (some 1)))) p2 (.lst [])) p3 (.tup [])) p4 (.lst [V.ref p3])) p5 (.tup [V.ref p2,V.ref p4])) p5=some (.tup [V.ref p2,V.ref p4]):=Ab;have n9:=s3.trans (s4.trans (s5.trans (s6.trans s7)));have jH:=(sd.trans n9) l _ Ab;have jJ:=n9 d _ Ab;have eE:=s2.trans (sd.trans n9);generalize upd (upd (upd (upd (upd (upd (upd H1 l (.lst xs)) d (.dT (ents es))) p1 (.lst (cutV xs none (some 1)))) p2 (.lst [])) p3 (.tup [])) p4 (.lst [V.ref p3])) p5 (.tup [V.ref p2,V.ref p4])=H7 at q1 q2 q3 q4 q5 jH jJ eE ⊢;rw[c1]at q1;refine⟨_,SqT.of q5,_,V8 q1 q2 q3 q4 (h3.mono (TK.of eE)),?_⟩;by_cases fJ:W=[]\/W[0]?=some []
  rotate_left
  ·rw[if_pos (by
    obtain⟨a,b⟩:=not_or.mp fJ;show (!((decide (W=[]))||((decide (W[0]?=some []))||false)))=true;rw[jX_ a,jX_ b];rfl)]
   exact⟨by lia,kf _ eE fun z=>fJ (by
    cases W with
    |nil=>exact .inl rfl
    |cons a b=>exact .inr (by rw[z.w0 a rfl];rfl))⟩
  rw[if_neg (by
   show ¬ (!((decide (W=[]))||((decide (W[0]?=some []))||false)))=true;rcases fJ with a|a
   ·rw[jZ_ a];simp
   ·rw[jZ_ a];simp)]
  refine⟨_,SqT.of (eE _ _ h1),_,rfl,_,SqT.of (eE _ _ h1),_,rfl,true,L,l,te,xs,ys,W,E,rfl,nV,SqL.of jH,h3.mono (TK.of eE),by lia,fun w hw=>by have:=g.wa w hw;lia,eE.seqT h4,h5.mono (TK.of eE),by lia,fun w hw=>by have:=g.we w hw;lia,fun l2 i6 H8 s8 dy fT kK=>?_⟩;have aY:(Jp (Dy L W) E).length<=70000:=PU s!"" nV s!"";have s08:=eE.trans s8;have aB:Aq K H8 (xs++i6) (need L W E):=(h3.mono (TK.of s08)).append kK;have cx:xs.length<=12:=by rw[h3.1];lia
  have ar:i6.length<=70000:=by rw[kK.1];exact aY
  have hbig:100000<=sizeLine:=by lia
  refine⟨l2,rfl,_,s8 _ _ jH,_,fT,by lia,fun l3 lE=>⟨⟨_,SqL.of Ab⟩,?_⟩⟩;have s9:=Same.new lE (o:=.lst (xs++i6));have s09:=s08.trans s9;have jK:=s9 _ _ (s8 _ _ jJ);have fN:=s9 _ _ (s8 _ _ jH);have hl39:upd H8 l3 (.lst (xs++i6)) l3=some (.lst (xs++i6)):=Ab;have fh:=aB.mono (TK.of s9);generalize upd H8 l3 (.lst (xs++i6))=H9 at s09 jK fN hl39 fh ⊢;obtain⟨Pd,cO⟩:∃Pc:Nat->List V->St->Hp->Prop,∀i vs af H',Pc i vs af H'↔(H'=H9/\vs=(((need L W E).take i).map fun u=>(mkO es u).isSome).map V.bl/\∃o,af=[o,some (.ref d)]):=⟨_,fun _ _ _ _=>j8_⟩;refine Fb (xs:=xs++i6) Pd ((cO _ _ _ _).mpr ⟨rfl,rfl,none,rfl⟩) (by rw[ji_];lia) (fun i vs af H' hi h'=>?_) (fun i x vs af H' hx h'=>?_) (fun vs af H' h' D2 bX=>?_)
  ·obtain⟨rfl,rfl,_⟩:=(cO _ _ _ _).mp h';exact⟨SqL.of hl39,by rw[ja_,ja_,jz_];lia⟩
  ·obtain⟨rfl,rfl,ov,rfl⟩:=(cO _ _ _ _).mp h';obtain⟨tw,u,hu,rfl,lW⟩:=fh.at hx;rw[<-BE]at lW;nofun;refine⟨_,DGet.t jK lW,(cO _ _ _ _).mpr ⟨rfl,?_,_,rfl⟩⟩;have i4:(valV (ents es) (wkey u)).isSome=(mkO es u).isSome:=by
    by_cases h:u∈es.map (·.1)
    ·obtain⟨e,he,rfl⟩:=jo_.mp h;rw[IY nd (show (e.1,e.2)∈es from he),Jc nd (show (e.1,e.2)∈es from he)];rfl
    ·rw[MA h,OI h];rfl
   rw[i4,jB_,hu,jg_,jg_];rfl
  ·obtain⟨rfl,rfl,ov,rfl⟩:=(cO _ _ _ _).mp h';rw[fh.1,jr_];refine⟨D2,rfl,_,SqL.of Ab,?_⟩;have cq:=s09.newT bX (o:=.lst (((need L W E).map fun u=>(mkO es u).isSome).map V.bl));have lY:(((need L W E).map fun u=>(mkO es u).isSome).all id=true)↔Full L W E es:=by
    rw[zf_,qP_];exact⟨fun h c hc=>qD_.mp (h c hc),fun h c hc=>qD_.mpr (h c hc)⟩
   cases hq:((need L W E).map fun u=>(mkO es u).isSome).all id with
   |false=>
    rw[if_pos (by simp)];exact⟨by lia,kf _ cq fun z=>by rw[lY.mpr z.fu]at hq;cases hq⟩
   |true=>
    rw[if_neg (by simp)];have hF:=lY.mp hq;refine⟨_,SqT.of (cq _ _ h1),_,rfl,_,SqT.of (cq _ _ h1),_,rfl,_,SqT.of (cq _ _ h1),_,rfl,true,p,L,l,te,d,xs,ys,W,E,es,rfl,SqL.of ((Same.new bX) _ _ fN),h3.mono (TK.of cq),cq.seqT h4,h5.mono (TK.of cq),(Same.new bX) _ _ jK,g,c,hF,fun h H' s' hh=>kt h H' (cq.trans s') ⟨c,fun v hv=>?_,hF⟩ hh⟩;rcases fJ with hw|hw
    ·rw[hw]at hv;cases hv
    ·rw[hw]at hv;exact (jC_ hv).symm
noncomputable def cell (ns:α2)(k:Nat):Int:=ns.getD k 0
noncomputable def Wa (K:α3):Sp:=fun vs H Q _=>∃(a:Addr) (ns:α2) (k:Nat),vs=[.ref a,.int k]/\SqL K H a (ns.map V.int)/\Q (.int (cell ns k)) H
def Bn:⋯ EE.j43 1 ["script","k"] (Wa K):=by
 delta EE.j43 MO
 ·obtain⟨a,ns,k,rfl,_⟩:=h;rfl
 ·obtain⟨a,ns,k,rfl,hs,q⟩:=h;refine⟨_,(Ad (A5 (ptT (Ax (opD0 Lb) (pvD 1) (Am (lenD Ai) (by rfl) EE.len jF_ (Aa (pvD 0) Ac)) (AB _)))
   (Af (Ap (Aj (ixLD BC) (pvD 0) (pvD 1))))
   AE)
   (Af (Ap Ae))),?_⟩
  nofun;refine⟨_,.inl hs,?_⟩;rw[ja_];refine ite2 (fun hk=>?_) (fun hk=>?_)
  ·have eS:k<ns.length:=by simpa using hk
   refine⟨_,hs,V.int (cell ns k),?_,q⟩;refine FK ?_;rw[jf_];unfold cell;rw[jc_];simp[eS]
  ·have eS:¬ k<ns.length:=by simpa using hk
   have:cell ns k=0:=by
    unfold cell;rw[jc_,jt_ s!""];rfl
   rw[<-this];exact q
noncomputable def NZ:Sp:=fun vs H Q _=>∃n:Int,vs=[.int n]/\2<=n/\n<=1000/\∀b,(b=true↔Dz n.toNat)->Q (.bl b) H
def IM:⋯ EE.j44 1 ["number"] (NZ):=by
 delta EE.j44 DV
 ·obtain⟨n,rfl,_⟩:=h;rfl
 ·obtain⟨n,rfl,hn,hn1,k⟩:=h;refine⟨_,(Ad (A3 jN_ rfl (Qb rfl EE.range (Aa Ae (Aa (pvD 0) Ac))) (Al (i:=1) DV.nd rfl (oY rfl))
   (Ad (A5 (ptT (Ax (opD0 Mf) (As (opD BU) (pvD 1) (pvD 1)) (pvD 0) (AB _)))
   (Af (Ap Bo))
   AE)
   (Af (A5 (ptT (Ax (opE FH) (As (opD AS) (pvD 0) (pvD 1)) Ae (AB _)))
   (Af (Ap Bo))
   AE))))
   (Af (Ap Bo))),?_⟩
  nofun;refine⟨by lia,by lia,by lia,by lia,?_⟩;refine forR (fun i ag H2=>H2=H/\(∀d,2<=d->d<2+i->n.toNat%d≠0)/\∃o,ag=[some (.int n),o]) ⟨rfl,fun d h1 h2=>by lia,none,rfl⟩ (fun i ag H2 hi h2=>?_) (fun ag H2 h2=>?_)
  ·obtain⟨rfl,aB,o,rfl⟩:=h2;nofun;refine⟨.inl ⟨by lia,by lia⟩,ite2 (fun hp=>k true ⟨fun _=>?_,fun _=>rfl⟩) (fun hp=>⟨by lia,ite2 (fun hm=>k false ⟨(fun z=>by cases z),fun z=>?_⟩) (fun hm=>⟨fun d h1 h2=>?_,_,rfl⟩)⟩)⟩
   ·refine Dz.small (k:=2+i) s!"" ?_ fun d h1 h2 _=>aB d h1 h2;have mR:n<((2+i:Nat):Int)*((2+i:Nat):Int):=by push_cast;lia
    rw[<-xT_]at mR;lia
   ·refine absurd ?_ (z (2+i) s!"" s!"");have:(n.toNat:Int)%((2+i:Nat):Int)=0:=by rw[show (n.toNat:Int)=n from by lia];push_cast;exact hm
    lia
   ·by_cases hd:d<2+i
    ·exact aB d h1 hd
    ·have:d=2+i:=by lia
     subst this;intro z;have z2:(n.toNat:Int)%((2+i:Nat):Int)=0:=by lia
     rw[show (n.toNat:Int)=n from by lia]at z2;push_cast at z2;exact hm z2
  ·obtain⟨rfl,aB,o,rfl⟩:=h2;nofun;exact k true ⟨fun _ d h1 h2=>aB d h1 s!"",fun _=>rfl⟩
noncomputable def L6:α2:=[2,3,5,7,65537,998244353,2147483647,180143985094819841]
noncomputable def Tw (K:α3):Sp:=fun vs H Q _=>∃c:Int,vs=[.int c]/\∀p H',Same H H'->Pr p->Q (.int p) H'
def L7:⋯ EE.j45 2 ["cell"] (Tw K):=by
 delta EE.j45 Cy
 ·obtain⟨c,rfl,_⟩:=h;rfl
 ·obtain⟨c,rfl,k⟩:=h;have hl:=An;refine⟨_,(Ad (Ak (i:=1) Cy.nd (CU (Aa Ae (Aa Ae (Aa Ae (Aa Ae (Aa Ae (Aa Ae (Aa Ae (Aa Ae Ac))))))))))
   (Ad (A5 (ptT (Ax (opD0 Lb) (As (opD AS) (pvD 0) Ae) Ae (AB _)))
   (Af (Ap (Aj (ixLD BC) (pvD 1) (As (opD AS) (As (opD C3) (pvD 0) Ae) Ae))))
   AE)
   (Ad (Ak (i:=2) Cy.nd (As (opD0 Cp) Ae (As (opD AS) (As (opD C3) (pvD 0) Ae) Ae)))
   (Ad (La jN_ (Cb (ptB (BH (Ag (IM EE) hr.d Aw (Aa (pvD 2) Ac)))))
   (Af (Ak (i:=2) Cy.nd (As (opD0 Cp) (pvD 2) Ae))))
   (Af (Ap (pvD 2))))))),?_⟩
  nofun;refine⟨by lia,fun q hq=>⟨by decide,ite2 (fun _=>?_) (fun _=>⟨⟨by decide,by decide⟩,by decide,?_⟩)⟩⟩
  ·have e0:=jS_ (c / 4) (show (8:Int)≠0 by decide);have e1:=jM_ (c / 4) (show (0:Int)<8 by decide);refine⟨⟨by decide,by decide⟩,by decide,_,SqL.of Ab,?_⟩;generalize c / 4%8=j at e0 e1;have hj:j.toNat<L6.length:=by show j.toNat<8;lia
   have hx:L6[j.toNat]?=some L6[j.toNat]:=by simp[hj]
   exact⟨_,(Du e0 hx:atI (L6.map V.int) j=_),k _ _ (Same.new hq) (Vr _ (jy_ hj))⟩
  ·have e0:=jS_ (c / 4) (show (200:Int)≠0 by decide);have e1:=jM_ (c / 4) (show (0:Int)<200 by decide);generalize c / 4%200=j at e0 e1;have s0:=Same.new (o:=.lst [V.int 2,V.int 3,V.int 5,V.int 7,V.int 65537,V.int 998244353,V.int 2147483647,V.int 180143985094819841]) hq;generalize upd H q (.lst [V.int 2,V.int 3,V.int 5,V.int 7,V.int 65537,V.int 998244353,V.int 2147483647,V.int 180143985094819841])=H0 at s0 ⊢;have h211:Dz 211:=Dd (n:=4) (by decide) (by decide +kernel) (by decide +kernel);obtain⟨Pv,aj⟩:∃Pv:Nat->St->Hp->Prop,∀m ag H2,Pv m ag H2↔(H2=H0/\∃nb:Int,m=(211-nb).toNat/\2<=nb/\nb<=211/\ag=[some (.int c),some (.ref q),some (.int nb)]):=⟨_,fun _ _ _=>j8_⟩;refine QM Pv ⟨_,(aj _ _ _).mpr ⟨rfl,2+j,rfl,by lia,by lia,rfl⟩⟩ ?_;intro m ag H2 ng;obtain⟨rfl,nb,rfl,n0,n1,rfl⟩:=(aj _ _ _).mp ng;nofun;refine⟨nb,rfl,n0,by lia,fun b hb=>⟨b,rfl,?_⟩⟩;cases b with
   |true=>
    rw[if_neg (by decide)];exact k nb _ s0 ⟨n0,by lia,hb.mp rfl⟩
   |false=>
    rw[if_pos (by decide)];have aw:nb≠211:=fun z=>by
     have:=hb.mpr (by rw[z];exact h211);cases this
    refine⟨fun af H'=>∃m',m'<(211-nb).toNat/\Pv m' af H',fun _ _ h=>h,_,?_,(aj _ _ _).mpr ⟨rfl,nb+1,rfl,by lia,by lia,rfl⟩⟩;lia
noncomputable def Tx:Sp:=fun vs H Q _=>∃n:Int,vs=[.int n]/\Q (.bl true) H
def Gy:⋯ EE.j46 1 ["found"] (Tx):=by
 delta EE.j46 LF
 ·obtain⟨n,rfl,_⟩:=h;rfl
 ·obtain⟨n,rfl,q⟩:=h;refine⟨_,(Af (Ap (Kt (Am Ce rfl EE.isinstance qu_ (Aa (pvD 0) (Aa (Jg (v:=.ty "int") rfl EE.int p6 rfl) Ac))) (Mc (P9 (Am Ce rfl EE.isinstance qu_ (Aa (pvD 0) (Aa (Jg (v:=.ty "bool") rfl EE.bool tG rfl) Ac)))))))),?_⟩;nofun;refine⟨_,_,.int _,Ms,_,Ll,?_⟩;rw[if_pos rfl];refine⟨_,_,.int _,Ms,_,Mr,?_⟩;exact q
noncomputable def Sm (p:Int)(tables:α0):Prop:=∀tb∈tables,∀r∈tb,∀x∈r,0<=x/\x<p
noncomputable def N0 (K:α3):Sp:=fun vs H Q _=>∃(a:Addr) (ns:α2) (k p:Int),vs=[.ref a,.int k,.int p]/\SqL K H a (ns.map V.int)/\0<=k/\k<=100000/\0<p/\∀x,0<=x->x<p->Q (.int x) H
def Kn:⋯ EE.j47 2 ["script","k","p"] (N0 K):=by
 delta EE.j47 Fg
 ·obtain⟨a,ns,k,p,rfl,_⟩:=h;rfl
 ·obtain⟨a,ns,k,p,rfl,hs,k0,k1,hp,q⟩:=h;refine⟨_,(Ad (A5 (ptT (Ax (opD0 Lb) (pvD 1) (Am (lenD Ai) (by rfl) EE.len jF_ (Aa (pvD 0) Ac)) (AB _)))
   (Af (Ap (As (opD AS) (Aj (ixLD BC) (pvD 0) (pvD 1)) (pvD 2))))
   AE)
   (Ad (Ak (i:=3) Fg.nd (Am (Mh rfl) rfl EE.max p9 (Aa Ae (Aa (Am (lenD Ai) (by rfl) EE.len jF_ (Aa (pvD 0) Ac)) Ac))))
   (Af (Ap (As (opD AS) (As (opD AS) (As (opD0 Cp) (As (opD0 Cp) (As (opD BU) (As (opD AS) (Ag (Bn EE) hr.d Aw (Aa (pvD 0) (Aa (As (opD AS) (pvD 1) (pvD 3)) Ac))) Ae) Ae) (As (opD BU) (As (opD BU) (pvD 1) (pvD 1)) Ae)) (As (opD BU) Ae (pvD 1))) Ae) (pvD 2)))))),?_⟩
  nofun;refine⟨_,.inl hs,?_⟩;rw[ja_];refine ite2 (fun hk=>?_) (fun hk=>?_)
  ·have eS:k.toNat<ns.length:=by lia
   refine⟨_,hs,_,Du k0 (v:=ns[k.toNat]) (by simp[eS]),?_⟩;nofun;exact⟨hp,q _ (jS_ _ s!"") (jM_ _ hp)⟩
  ·have hm:(0:Int)<if ((ns.map V.int).length:Int) > 1 then ((ns.map V.int).length:Int) else 1:=by split<;>lia
   have r0:=jS_ k (show (if ((ns.map V.int).length:Int) > 1 then ((ns.map V.int).length:Int) else 1)≠0 by lia);exact⟨_,.inl hs,hm,a,ns,(k%if ((ns.map V.int).length:Int) > 1 then ((ns.map V.int).length:Int) else 1).toNat,by rw[za_ r0],hs,_,rfl,by decide,.inr ⟨by decide,by decide⟩,.inl ⟨by lia,by lia⟩,.inr ⟨by decide,by decide⟩,.inl ⟨by decide,by decide⟩,by decide,hp,q _ (jS_ _ s!"") (jM_ _ hp)⟩
noncomputable def Tz (K:α3):Sp:=fun vs H Q _=>∃(a:Addr) (ns:α2) (c p:Int) (n:Nat),vs=[.ref a,.int c,.int n,.int p]/\SqL K H a (ns.map V.int)/\0<=c/\c<=10000/\n<=16/\0<p/\∀(t:Addr) (row:α2) (H':Hp),Same H H'->SqT K H' t (row.map V.int)->row.length=n->(∀x∈row,0<=x/\x<p)->Q (.ref t) H'
def F5:⋯ EE.j48 3 ["script","at","many","p"] (Tz K):=by
 delta EE.j48 NM
 ·obtain⟨a,ns,c,p,n,rfl,_⟩:=h;rfl
 ·obtain⟨a,ns,c,p,n,rfl,hs,c0,c1,hn,hp,k⟩:=h;have hl:=An;refine⟨_,(Af (Ap (Ar Av rfl EE.tuple jw_ (Aa (AA rfl (Ay rfl) (cp:=HW) ⟨⟨rfl,rfl⟩,⟨⟨rfl,rfl⟩,⟨⟨rfl,rfl⟩,oX⟩⟩⟩ (AF rfl EE.range (Aa (pvD 2) Ac)) (fun _ _ _ _=>(Al (i:=0) JL rfl (oY rfl))) (fun _ _ _ _=>AJ) (fun _ _ _ _=>(Ag (Kn EE) hr.d Aw (Aa (pvD 1) (Aa (As (opD0 Cp) (pvD 3) (pvD 0)) (Aa (pvD 2) Ac)))))) Ac)))),?_⟩;nofun;refine⟨by lia,by lia,?_⟩;rw[jU_];obtain⟨Pc,aL⟩:∃Pc:Nat->List V->St->Hp->Prop,∀j ys ax H4,Pc j ys ax H4↔(H4=H/\∃(row:α2) (o:Option V),ys=row.map V.int/\row.length=j/\(∀x∈row,0<=x/\x<p)/\ax=[o,some (.ref a),some (.int p),some (.int c)]):=⟨_,fun _ _ _ _=>j8_⟩;refine Hd Pc ((aL _ _ _ _).mpr ⟨rfl,[],none,rfl,rfl,by simp,rfl⟩) s!"" (fun j ys ax H4 _ h4=>?_) (fun j ys ax H4 hj h4=>?_) (fun ys ax H4 h4 D hD=>?_)
  ·obtain⟨_,row,o,rfl,ar,_⟩:=(aL _ _ _ _).mp h4;rw[ja_];lia
  ·obtain⟨rfl,row,o,rfl,ar,gU,rfl⟩:=(aL _ _ _ _).mp h4;rw[qf_];nofun;refine⟨a,ns,c+j,p,rfl,hs,by lia,by lia,hp,fun x x0 x1=>(aL _ _ _ _).mpr ⟨rfl,row++[x],_,by simp,by simp[ar],fun z eA=>?_,rfl⟩⟩;rcases jH_.mp eA with h' | h'
   ·exact gU z h'
   ·rw[jn_.mp h'];exact⟨x0,x1⟩
  ·obtain⟨rfl,row,o,rfl,ar,gU,rfl⟩:=(aL _ _ _ _).mp h4;exact⟨D,rfl,_,.inl ⟨SqL.of Ab,fun t ht=>k t row _ ((Same.new hD).newT ht) (SqT.of Ab) ar gU⟩⟩
noncomputable def R1 (K:α3):Sp:=fun vs H Q _=>∃(p:Int) (a b:Addr) (xs:List V) (ae:α1) (am:α2) (n:Nat),vs=[.int p,.ref b,.ref a]/\0<p/\p<1000000000000000000/\SqT K H a xs/\AR K H xs ae/\ae.length=n/\(∀r∈ae,r.length=n)/\SqT K H b (am.map V.int)/\am.length=n/\n<=16/\(∀x∈am,0<=x/\x<p)/\∀q H',Same H H'->SqT K H' q ((CM p ae am n).map V.int)->Q (.ref q) H'
def M6:⋯ EE.j50 1 ["p","row","table"] (R1 K):=by
 delta EE.j50 ED
 ·obtain⟨p,a,b,xs,ae,am,n,rfl,_⟩:=h;rfl
 ·obtain⟨p,a,b,xs,ae,am,n,rfl,hp,gj,ha,gm,ar,aZ,hb,ah,hn,ke,k⟩:=h;have hl:=An;refine⟨_,(Ad (Ak (i:=3) ED.nd (CU Ac))
   (Ad (A3 jN_ rfl (AF rfl EE.range (Aa (Am (lenD Ai) (by rfl) EE.len jF_ (Aa (pvD 1) Ac)) Ac)) (Al (i:=4) ED.nd rfl (ph rfl))
   (Af (Bx (Ka qh_ qb_ qc_ By (pvD 3) (Aa (As (opD AS) (Am (Ge rfl) rfl EE.sum xo_ (Aa (AA rfl (Ay rfl) (cp:=Gn) ⟨⟨rfl,rfl⟩,⟨⟨rfl,rfl⟩,⟨⟨rfl,rfl⟩,oX⟩⟩⟩ (AF rfl EE.range (Aa (Am (lenD Ai) (by rfl) EE.len jF_ (Aa (pvD 1) Ac)) Ac)) (fun _ _ _ _=>(Al (i:=0) IL rfl (oY rfl))) (fun _ _ _ _=>AJ) (fun _ _ _ _=>(As (opD BU) (Aj (ixTD (Bb (K:=K) rfl)) (pvD 1) (pvD 0)) (Aj (ixTD (Bb (K:=K) rfl)) (Aj (ixTD (Bb (K:=K) rfl)) (pvD 3) (pvD 0)) (pvD 2))))) Ac)) (pvD 0)) Ac)))))
   (Af (Ap (Ar Av rfl EE.tuple jw_ (Aa (pvD 3) Ac)))))),?_⟩
  nofun;refine⟨by lia,fun q hq=>⟨_,.inr ((Same.new hq).seqT hb),by rw[ja_];lia,by rw[ja_];lia,?_⟩⟩;rw[jU_,ja_,ah];obtain⟨Pv,aj⟩:∃Pv:Nat->St->Hp->Prop,∀c af H',Pv c af H'↔(Same H H'/\H' q=some (.lst ((CM p ae am c).map V.int))/\∃o,af=[some (.int p),some (.ref b),some (.ref a),some (.ref q),o]):=⟨_,fun _ _ _=>j8_⟩;refine forR Pv ((aj _ _ _).mpr ⟨Same.new hq,Ab,none,rfl⟩) (fun c ag H2 hc h2=>?_) (fun ag H2 h2=>?_)
  ·obtain⟨s2,aH,o,rfl⟩:=(aj _ _ _).mp h2;rw[qf_];nofun;refine⟨.inl ⟨rfl,_,SqL.of aH⟩,_,.inr (s2.seqT hb),by rw[ja_];lia,by rw[ja_];lia,?_⟩;rw[jU_,ja_,ah];obtain⟨Pc,aL⟩:∃Pc:Nat->List V->St->Hp->Prop,∀j ys ax H4,Pc j ys ax H4↔(H4=H2/\ys=((oW j).map fun k=>am.getD k 0*(ae.getD k []).getD c 0).map V.int/\∃o,ax=[o,some (.ref b),some (.int c),some (.ref a)]):=⟨_,fun _ _ _ _=>j8_⟩;refine Hd Pc ((aL _ _ _ _).mpr ⟨rfl,rfl,none,rfl⟩) s!"" (fun j ys ax H4 _ h4=>?_) (fun j ys ax H4 hj h4=>?_) (fun ys ax H4 h4 D hD=>?_)
   ·obtain⟨_,rfl,_⟩:=(aL _ _ _ _).mp h4;rw[ja_,ja_,jI_];exact jh_ _
   ·obtain⟨rfl,rfl,o',rfl⟩:=(aL _ _ _ _).mp h4;rw[qf_];have iT:j<am.length:=by lia
    have og:j<ae.length:=by lia
    obtain⟨t,e1,e2⟩:=gm.2 j ae[j] (by simp[og]);have aY:c<(ae[j]).length:=by rw[aZ _ (jy_ og)];exact hc
    have er:ae.getD j []=ae[j]:=by rw[jc_,jb_ og];rfl
    have ea:am.getD j 0=am[j]:=by rw[jc_,jb_ iT];rfl
    have ec:(ae.getD j []).getD c 0=(ae[j])[c]:=by rw[er,jc_,jb_ aY];rfl
    have hx:=ke _ (jy_ iT);nofun;refine⟨_,s2.seqT hb,_,Du s!"" (v:=am[j]) (by simp[iT]),_,s2.seqT ha,_,FK e1,t,rfl,_,s2.seqT e2,_,Du s!"" (v:=(ae[j])[c]) (by simp[aY]),?_⟩;refine⟨_,rfl,_,rfl,.inl ⟨by lia,by lia⟩,(aL _ _ _ _).mpr ⟨rfl,?_,_,rfl⟩⟩;rw[j4_,jg_,jg_,xb_,xb_,ea,ec]
   ·obtain⟨rfl,rfl,o',rfl⟩:=(aL _ _ _ _).mp h4;refine⟨D,rfl,_,SqL.of Ab,hp,_,(Same.new hD) _ _ aH,by unfold CM;rw[ja_,ja_,jI_];lia,(aj _ _ _).mpr ⟨(s2.newT hD).over hq,?_,_,rfl⟩⟩;have:=XU am ae c s!"";rw[ar]at this;rw[Ab,this];unfold CM;rw[j4_,jg_,jg_];rfl
  ·obtain⟨s2,aH,o,rfl⟩:=(aj _ _ _).mp h2;nofun;exact⟨_,.inl ⟨SqL.of aH,fun t ht=>k t _ (s2.newT ht) (SqT.of Ab)⟩⟩
noncomputable def PV (K:α3):Sp:=fun vs H Q _=>∃(p:Int) (a b:Addr) (xs ys:α2),vs=[.int p,.ref a,.ref b]/\0<p/\p<1000000000000000000/\SqT K H a (xs.map V.int)/\SqT K H b (ys.map V.int)/\xs.length=ys.length/\xs.length<=16/\(∀x∈xs,0<=x/\x<p)/\∀H',Same H H'->Q (.int (dotW xs ys%p)) H'
def L8:⋯ EE.j51 1 ["p","one","two"] (PV K):=by
 delta EE.j51 LG
 ·obtain⟨p,a,b,xs,ys,rfl,_⟩:=h;rfl
 ·obtain⟨p,a,b,xs,ys,rfl,hp,gj,ha,hb,ah,hn,ke,k⟩:=h;have hl:=An;refine⟨_,(Af (Ap (As (opD AS) (Am (Ge rfl) rfl EE.sum xo_ (Aa (AA rfl (Ay rfl) (cp:=Fu) ⟨⟨rfl,rfl⟩,⟨⟨rfl,rfl⟩,oX⟩⟩ (AF rfl EE.range (Aa (Am (lenD Ai) (by rfl) EE.len jF_ (Aa (pvD 1) Ac)) Ac)) (fun _ _ _ _=>(Al (i:=0) Hv rfl (oY rfl))) (fun _ _ _ _=>AJ) (fun _ _ _ _=>(As (opD BU) (Aj (ixTD (Bb (K:=K) rfl)) (pvD 1) (pvD 0)) (Aj (ixTD (Bb (K:=K) rfl)) (pvD 2) (pvD 0))))) Ac)) (pvD 0)))),?_⟩;nofun;refine⟨_,.inr ha,by rw[ja_];lia,by rw[ja_];lia,?_⟩;rw[jU_,ja_];obtain⟨Pe,cP⟩:∃Pe:Nat->List V->St->Hp->Prop,∀j zs ax H',Pe j zs ax H'↔(H'=H/\zs=((oW j).map fun k=>xs.getD k 0*ys.getD k 0).map V.int/\∃o,ax=[o,some (.ref a),some (.ref b)]):=⟨_,fun _ _ _ _=>j8_⟩;refine Hd Pe ((cP _ _ _ _).mpr ⟨rfl,rfl,none,rfl⟩) s!"" (fun j zs ax H' _ h4=>?_) (fun j zs ax H' hj h4=>?_) (fun zs ax H' h4 D6 hD6=>?_)
  ·obtain⟨_,rfl,_⟩:=(cP _ _ _ _).mp h4;rw[ja_,ja_,jI_];exact jh_ _
  ·obtain⟨rfl,rfl,o',rfl⟩:=(cP _ _ _ _).mp h4;rw[qf_];have lD:j<ys.length:=by lia
   have ex:xs.getD j 0=xs[j]:=by rw[jc_,jb_ hj];rfl
   have ey:ys.getD j 0=ys[j]:=by rw[jc_,jb_ lD];rfl
   have hx:=ke _ (jy_ hj);nofun;refine⟨_,ha,_,Du s!"" (v:=xs[j]) (by simp[hj]),_,hb,_,Du s!"" (v:=ys[j]) (by simp[lD]),_,rfl,_,rfl,.inl ⟨by lia,by lia⟩,(cP _ _ _ _).mpr ⟨rfl,?_,_,rfl⟩⟩;rw[j4_,jg_,jg_,xb_,xb_,ex,ey]
  ·obtain⟨rfl,rfl,o',rfl⟩:=(cP _ _ _ _).mp h4;have gp:((oW xs.length).map fun k=>xs.getD k 0*ys.getD k 0).sum=dotW xs ys:=by
    unfold dotW
    congr 1
    refine qI_ (by simp[ah]) fun i h1 h2=>?_;have hi:i<xs.length:=by simpa using h1
    have m8:i<ys.length:=by lia
    simp[jc_,hi,m8]
   refine⟨D6,rfl,_,SqL.of Ab,hp,?_⟩;rw[gp];exact k _ (Same.new hD6)
noncomputable def N1 (K:α3):Sp:=fun vs H Q _=>∃(h a:Addr) (p L:Int) (d:Nat) (first last ws:α2) (tables:α0),vs=[.ref h,.ref a]/\SumH K H h p L first tables last/\WfSum p L d first tables last/\SqT K H a (ws.map V.int)/\isW L ws=true/\∀(t:Addr) (H':Hp),Same H H'->SqT K H' t ((rowS p d tables first ws).map V.int)->Q (.ref t) H'
def Ko:⋯ EE.j52 2 ["house","word"] (N1 K):=by
 delta EE.j52 B8
 ·obtain⟨h,a,p,L,d,first,last,ws,tables,rfl,_⟩:=h;rfl
 ·obtain⟨h,a,p,L,d,first,last,ws,tables,rfl,hh,wf,hw,hv,k⟩:=h;have h2:=wf.p2;have h18:=wf.p18;have hd:=wf.dl;refine⟨_,(Ad (Ak (i:=2) B8.nd (Aj (ixTD Ao) (pvD 0) Ae))
   (Ad (A3 jN_ rfl (Cc (pvD 1)) (Al (i:=3) B8.nd rfl (oY rfl))
   (Af (Ak (i:=2) B8.nd (Ag (M6 EE) hr.d Aw (Aa (Aj (ixTD Ao) (pvD 0) Ae) (Aa (pvD 2) (Aa (Aj (ixTD Ao) (Aj (ixTD Ao) (pvD 0) Ae) (pvD 3)) Ac)))))))
   (Af (Ap (pvD 2))))),?_⟩
  obtain⟨tf,tt,tl,e1,e2,e3,e4⟩:=id hh;nofun;refine⟨_,e1,_,rfl,⟨_,hw⟩,?_⟩;obtain⟨Pv,aj⟩:∃Pv:Nat->St->Hp->Prop,∀i af H',Pv i af H'↔(∃(t:Addr) (o:Option V),Same H H'/\SqT K H' t ((rowS p d tables first (ws.take i)).map V.int)/\af=[some (.ref h),some (.ref a),some (.ref t),o]):=⟨_,fun _ _ _=>j8_⟩;refine forT (xs:=ws.map V.int) Pv ((aj _ _ _).mpr ⟨tf,none,Same.refl _,e2,rfl⟩) (fun i af H' _ h'=>by obtain⟨_,_,s',_⟩:=(aj _ _ _).mp h';exact s'.seqT hw) (fun i x af H' hx h'=>?_) (fun af H' h'=>?_)
  ·obtain⟨t,o,s2,ht,rfl⟩:=(aj _ _ _).mp h';obtain⟨n,hn,rfl⟩:=IV hx;have jx:=AM.mp hv n (jj_ hn);obtain⟨r1,r2⟩:=wf.row (ws.take i);obtain⟨t1,t2,t3⟩:=wf.table jx.1 jx.2;obtain⟨zs,u,xs,z1,z2,z3,z4⟩:=(e4.mono s2).at t1;rw[za_ jx.1]at z2;nofun;refine⟨_,s2.seqT e1,_,rfl,_,s2.seqT e1,_,rfl,?_⟩;nofun;exact⟨_,z1,_,z2,p,u,t,xs,_,_,d,rfl,by lia,by lia,z3,z4,t2,t3,ht,r1,by lia,r2,fun q H3 s3 hq=>(aj _ _ _).mpr ⟨q,_,s2.trans s3,by rw[MX hn];exact hq,rfl⟩⟩
  ·obtain⟨t,o,s2,ht,rfl⟩:=(aj _ _ _).mp h';rw[ja_,jr_]at ht;nofun;exact k t _ s2 ht
noncomputable def TabL (K:α3)(H:Hp)(us:List Addr)(tables:α0):Prop:=us.length=tables.length/\∀(i:Nat) (u:Addr) (tb:α1),us[i]?=some u->tables[i]?=some tb->∃xs,SqT K H u xs/\AR K H xs tb
def TabL.mono {K:α3} (h:TabL K H us tables)(s:∀t ys,SqT K H t ys->SqT K H' t ys):TabL K H' us tables:=by
 refine⟨h.1,fun i u tb h1 h2=>?_⟩;obtain⟨xs,d,e⟩:=h.2 i u tb h1 h2;refine⟨xs,s _ _ d,e.1,fun j r hj=>?_⟩;obtain⟨t,a,b⟩:=e.2 j r hj;exact⟨t,a,s _ _ b⟩
def TabL.snoc {K:α3} (h:TabL K H us tables)(h1:SqT K H u xs)(h2:AR K H xs tb):TabL K H (us++[u]) (tables++[tb]):=by
 refine⟨by simp[h.1],fun i v nU hi ht=>?_⟩;by_cases hl:i<us.length
 ·rw[jm_ hl]at hi;rw[jm_ (by rw[<-h.1];exact hl)]at ht;exact h.2 i v nU hi ht
 ·have:=(jd_.mp hi).1;rw[ji_,jG_]at this;have e:i=us.length:=by lia
  subst e;rw[jp_ (jh_ _),qq_]at hi;rw[h.1,jp_ (jh_ _),qq_]at ht;simp at hi ht;subst hi ht;exact⟨xs,h1,h2⟩
noncomputable def PX (K:α3):Sp:=fun vs H Q _=>∃(a:Addr) (ns:α2) (c p:Int) (L n:Nat),vs=[.ref a,.int c,.int p,.int L,.int n]/\SqL K H a (ns.map V.int)/\0<=c/\c<=100/\2<=p/\p<1000000000000000000/\1<=L/\L<=6/\n<=4/\∀(h:Addr) (first last:α2) (tables:α0) (H':Hp),Same H H'->SumH K H' h p L first tables last->WfSum p L n first tables last->Sm p tables->Q (.ref h) H'
def L9:⋯ EE.j49 4 ["script","at","p","letters","many"] (PX K):=by
 delta EE.j49 BN
 ·obtain⟨a,ns,c,p,L,n,rfl,_⟩:=h;rfl
 ·obtain⟨a,ns,c,p,L,n,rfl,hs,c0,c1,p2,p18,gZ,bR,hn,k⟩:=h;have hl:=An;refine⟨_,(Ad (Ak (i:=5) BN.nd (CU Ac))
   (Ad (A3 jN_ rfl (AF rfl EE.range (Aa (pvD 3) Ac)) (Al (i:=6) BN.nd rfl (oY rfl))
   (Ad (BS (i:=7) BN.nd rfl (ph rfl) (As (opD0 Cp) (As (opD0 Cp) (pvD 1) (As (opD BU) Ae (pvD 4))) (As (opD BU) (As (opD BU) (pvD 6) (pvD 4)) (pvD 4))))
   (Af (Bx (Ka qh_ qb_ qc_ By (pvD 5) (Aa (Ar Av rfl EE.tuple jw_ (Aa (AA rfl (Ay rfl) (cp:=Ft) ⟨⟨rfl,rfl⟩,⟨⟨rfl,rfl⟩,⟨⟨rfl,rfl⟩,⟨⟨rfl,rfl⟩,oX⟩⟩⟩⟩ (AF rfl EE.range (Aa (pvD 4) Ac)) (fun _ _ _ _=>(Al (i:=0) Hu rfl (oY rfl))) (fun _ _ _ _=>AJ) (fun _ _ _ _=>(Ag (F5 EE) hr.d Aw (Aa (pvD 1) (Aa (As (opD0 Cp) (pvD 4) (As (opD BU) (pvD 2) (pvD 0))) (Aa (pvD 2) (Aa (pvD 3) Ac))))))) Ac)) Ac))))))
   (Ad (Ak (i:=8) BN.nd (Ag (F5 EE) hr.d Aw (Aa (pvD 0) (Aa (pvD 1) (Aa (pvD 4) (Aa (pvD 2) Ac))))))
   (Af (Ap (AW (Aa (pvD 2) (Aa (pvD 3) (Aa (pvD 8) (Aa (Ar Av rfl EE.tuple jw_ (Aa (pvD 5) Ac)) (Aa (Ag (F5 EE) hr.d Aw (Aa (pvD 0) (Aa (As (opD0 Cp) (pvD 1) (pvD 4)) (Aa (pvD 4) (Aa (pvD 2) Ac))))) Ac))))))))))),?_⟩
  nofun;refine⟨by lia,fun q hq=>⟨by lia,by lia,?_⟩⟩;rw[jU_];obtain⟨Pv,aj⟩:∃Pv:Nat->St->Hp->Prop,∀i af H',Pv i af H'↔(∃(us:List Addr) (tables:α0) (o1 o2:Option V),Same H H'/\H' q=some (.lst (us.map V.ref))/\TabL K H' us tables/\tables.length=i/\(∀tb∈tables,(tb.length=n/\∀r∈tb,r.length=n)/\∀r∈tb,∀x∈r,0<=x/\x<p)/\af=[some (.ref a),some (.int c),some (.int p),some (.int L),some (.int n),some (.ref q),o1,o2,none]):=⟨_,fun _ _ _=>j8_⟩;refine forR Pv ((aj _ _ _).mpr ⟨[],[],none,none,Same.new hq,Ab,⟨rfl,fun i u tb h=>by simp at h⟩,rfl,by simp,rfl⟩) (fun i ag H2 hi h2=>?_) (fun ag H2 h2=>?_)
  ·obtain⟨us,tables,o1,o2,s2,aH,hT,kx,ju,rfl⟩:=(aj _ _ _).mp h2;rw[qf_];nofun;have b1:0<=(i:Int)*(n:Int)/\(i:Int)*(n:Int)<=24:=by
    have h1:i*n<=6*4:=qJ_ s!"" s!"";have h2:(i:Int)*(n:Int)=((i*n:Nat):Int):=by rw[xT_]
    lia
   have b2:0<=(i:Int)*(n:Int)*(n:Int)/\(i:Int)*(n:Int)*(n:Int)<=96:=by
    have h1:i*n*n<=24*4:=qJ_ (qJ_ (show i<=6 by lia) (show n<=4 by lia)) s!"";have h2:(i:Int)*(n:Int)*(n:Int)=((i*n*n:Nat):Int):=by rw[xT_,xT_]
    lia
   refine⟨.inl ⟨by decide,by decide⟩,.inr ⟨by lia,by lia⟩,.inr ⟨by lia,by lia⟩,.inl ⟨rfl,_,SqL.of aH⟩,by lia,by lia,?_⟩;have jt:0<=c+2*(n:Int)+(i:Int)*(n:Int)*(n:Int)/\c+2*(n:Int)+(i:Int)*(n:Int)*(n:Int)<=300:=by lia
   generalize c+2*(n:Int)+(i:Int)*(n:Int)*(n:Int)=bs at jt ⊢;rw[jU_];obtain⟨Pc,aL⟩:∃Pc:Nat->List V->St->Hp->Prop,∀j ys ax H4,Pc j ys ax H4↔(Same H2 H4/\∃(ae:α1) (o:Option V),AR K H4 ys ae/\ae.length=j/\(∀r∈ae,r.length=n/\∀x∈r,0<=x/\x<p)/\ax=[o,some (.ref a),some (.int n),some (.int p),some (.int bs)]):=⟨_,fun _ _ _ _=>j8_⟩;refine Hd Pc ((aL _ _ _ _).mpr ⟨Same.refl _,[],none,AR.nil,rfl,by simp,rfl⟩) s!"" (fun j ys ax H4 _ h4=>?_) (fun j ys ax H4 hj h4=>?_) (fun ys ax H4 h4 D hD=>?_)
   ·obtain⟨_,ae,o,hR,ar,_⟩:=(aL _ _ _ _).mp h4;rw[hR.1];lia
   ·obtain⟨s4,ae,o,hR,ar,aZ,rfl⟩:=(aL _ _ _ _).mp h4;rw[qf_];have b3:0<=(n:Int)*(j:Int)/\(n:Int)*(j:Int)<=16:=by
     have h1:n*j<=4*4:=qJ_ s!"" s!"";have h2:(n:Int)*(j:Int)=((n*j:Nat):Int):=by rw[xT_]
     lia
    nofun;refine⟨.inl ⟨by lia,by lia⟩,a,ns,bs+n*j,p,n,rfl,(s2.trans s4).seq hs,by lia,by lia,by lia,by lia,fun t row H5 s5 ht dY gU=>(aL _ _ _ _).mpr ⟨s4.trans s5,ae++[row],_,(hR.mono s5).snoc ht,by simp[ar],fun r eT=>?_,rfl⟩⟩;rcases jH_.mp eT with h' | h'
    ·exact aZ r h'
    ·rw[jn_.mp h'];exact⟨dY,gU⟩
   ·obtain⟨s4,ae,o,hR,ar,aZ,rfl⟩:=(aL _ _ _ _).mp h4;refine⟨D,rfl,_,.inl ⟨SqL.of Ab,fun t ht=>?_⟩⟩;have lZ:=(Same.new hD (o:=.lst ys)).newT ht (o:=.tup ys);have hq4:=(s4.trans lZ) _ _ aH;have cx:=hT.1;refine⟨_,hq4,by rw[ja_];lia,(aj _ _ _).mpr ⟨us++[t],tables++[ae],_,_,((s2.trans s4).trans lZ).over hq,by rw[Ab];simp,?_,by simp[kx],fun tb ky=>?_,rfl⟩⟩
    ·exact ((hT.mono fun t' ys' e'=>(s4.trans lZ).seqT e').snoc (SqT.of Ab) (hR.mono lZ)).mono fun t' ys' e'=>Bq hq4 e'
    ·rcases jH_.mp ky with h' | h'
     ·exact ju tb h'
     ·rw[jn_.mp h'];exact⟨⟨ar,fun r z=>(aZ r z).1⟩,fun r z=>(aZ r z).2⟩
  ·obtain⟨us,tables,o1,o2,s2,aH,hT,kx,ju,rfl⟩:=(aj _ _ _).mp h2;nofun;refine⟨a,ns,c,p,n,rfl,s2.seq hs,c0,by lia,by lia,by lia,fun tf first H3 s3 htf lY kg=>⟨_,.inl ⟨SqL.of (s3 _ _ aH),fun tt htt'=>?_⟩⟩⟩;have stt:=Same.new htt' (o:=.tup (us.map V.ref));refine⟨a,ns,c+n,p,n,rfl,((s2.trans s3).trans stt).seq hs,by lia,by lia,by lia,by lia,fun tl last H4 s4 htl' eX nZ=>⟨by lia,fun hh hhh=>?_⟩⟩;have sh:=Same.new hhh (o:=.tup [V.int p,V.int L,V.ref tf,V.ref tt,V.ref tl]);have s24:=(s3.trans stt).trans s4;refine k hh first last tables _ ((s2.trans s24).trans sh) ⟨tf,tt,tl,SqT.of Ab,((stt.trans s4).trans sh).seqT htf,sh.seqT htl',us,(s4.trans sh).seqT (SqT.of Ab),hT.1,?_⟩ ⟨p2,p18,by lia,⟨lY,kg⟩,⟨eX,nZ⟩,by lia,fun tb z=>(ju tb z).1⟩ (fun tb z=>(ju tb z).2)
   exact (hT.mono fun t' ys' e'=>(s24.trans sh).seqT e').2
noncomputable def R3 (K:α3):Sp:=fun vs H Q _=>∃(h a:Addr) (p L:Int) (d:Nat) (f l ws:α2) (t:α0),vs=[.ref h,.ref a]/\SumH K H h p L f t l/\WfSum p L d f t l/\SqT K H a (ws.map V.int)/\isW L ws=true/\∀H',Same H H'->Q (.int (dotW (rowS p d t f ws) l%p)) H'
def Bv:⋯ EE.j53 3 ["house","word"] (R3 K):=by
 delta EE.j53 LH
 ·obtain⟨h,a,p,L,d,f,l,ws,t,rfl,_⟩:=h;rfl
 ·obtain⟨h,a,p,L,d,f,l,ws,t,rfl,hh,wf,ha,hw,k⟩:=h;obtain⟨a1,a2,a3,x1,x2,x3,xA⟩:=id hh;have bj:=wf.p2;have gj:=wf.p18;have hd:=wf.dl;refine⟨_,(Af (Ap (Ag (L8 EE) hr.d Aw (Aa (Aj (ixTD Ao) (pvD 0) Ae) (Aa (Ag (Ko EE) hr.d Aw (Aa (pvD 0) (Aa (pvD 1) Ac))) (Aa (Aj (ixTD Ao) (pvD 0) Ae) Ac)))))),?_⟩;nofun;obtain⟨r1,r2⟩:=wf.row ws;exact⟨_,x1,_,rfl,h,a,p,L,d,f,l,ws,t,rfl,hh,wf,ha,hw,fun q H1 s1 hq=>⟨_,s1.seqT x1,_,rfl,p,q,a3,_,l,rfl,by lia,gj,hq,s1.seqT x3,by rw[r1,wf.l.1],by lia,r2,fun H2 s2=>k _ (s1.trans s2)⟩⟩
noncomputable def fE74 (L:Nat)(w:α2)(E:α1):α1:=E.flatMap fun e=>(w++e)::(oW L).map fun x:Nat=>w++[(x:Int)]++e
noncomputable def nd74 (L:Nat)(W E:α1):α1:=(W.flatMap fun w=>w::fE74 L w E).foldl ins []
noncomputable def R4 (K:α3):Sp:=fun vs H Q _=>∃(L:Nat) (a e:Addr) (xs ys:List V) (W E:α1),vs=[.int L,.ref a,.ref e]/\L<=6/\SqT K H a xs/\Aq K H xs W/\W.length<=6/\(∀w∈W,w.length<=12)/\SqT K H e ys/\Aq K H ys E/\E.length<=6/\(∀w∈E,w.length<=12)/\∀l rs H',Same H H'->H' l=some (.lst rs)->rs.length<=600->Aq K H' rs (nd74 L W E)->Q (.ref l) H'
def Kp:⋯ EE.j54 1 ["letters","access","ends"] (R4 K):=by
 delta EE.j54 Bz
 ·obtain⟨L,a,e,xs,ys,W,E,rfl,_⟩:=h;rfl
 ·obtain⟨L,a,e,xs,ys,W,E,rfl,hL,ha,hw,cc,b7,he,jC,dB,iW,k⟩:=h;have hl:=An;refine⟨_,(Ad (BS (i:=3) Bz.nd rfl (oY rfl) IS)
   (Ad (A3 jN_ rfl (Cc (pvD 1)) (Al (i:=4) Bz.nd rfl (oY rfl))
   (Ad (Ds (Hb hr) (pvD 3) (pvD 4) Bo rfl)
   (Af (A3 jN_ rfl (Cc (pvD 2)) (Al (i:=5) Bz.nd rfl (oY rfl))
   (Ad (Ds (Hb hr) (pvD 3) (As AX (pvD 4) (pvD 5)) Bo rfl)
   (Af (A3 jN_ rfl (AF rfl EE.range (Aa (pvD 0) Ac)) (Al (i:=6) Bz.nd rfl (oY rfl))
   (Af (Ds (Hb hr) (pvD 3) (As AX (As AX (pvD 4) (AW (Aa (pvD 6) Ac))) (pvD 5)) Bo rfl)))))))))
   (Af (Ap (Ar (Bi rfl) rfl EE.list qd_ (Aa (pvD 3) Ac)))))),?_⟩
  nofun;intro p hp;have sp:=Same.new (o:=.dT []) hp;have up:upd H p (.dT []) p=some (.dT []):=Ab;generalize upd H p (.dT [])=H0 at sp up ⊢;refine⟨⟨_,sp.seqT ha⟩,?_⟩;obtain⟨Pw,cN⟩:∃Pv:Nat->St->Hp->Prop,∀i af H',Pv i af H'↔(∃(kvs:List (List Key×V)) (o o' o2:Option V),Same H H'/\H' p=some (.dT kvs)/\kvs.length<=i*100/\BK (((W.take i).flatMap fun w=>w::fE74 L w E).foldl ins []) kvs/\af=[some (.int L),some (.ref a),some (.ref e),some (.ref p),o,o',o2]):=⟨_,fun _ _ _=>j8_⟩;refine forT (xs:=xs) Pw ((cN _ _ _).mpr ⟨[],_,_,_,sp,up,by simp,by rw[xq_];exact BK.nil,rfl⟩) (fun i af H' _ h'=>by obtain⟨_,_,_,_,s,_⟩:=(cN _ _ _).mp h';exact s.seqT ha) (fun i x ag H2 hx h2=>?_) (fun ag H2 h2=>?_)
  ·obtain⟨kvs,o,o',o2,s2,hd,hn,hk,rfl⟩:=(cN _ _ _).mp h2;obtain⟨t,w,cu,rfl,ht⟩:=hw.at hx;have hi:i<6:=by have:=(jd_.mp cu).1;lia
   have hwlen:=b7 w (jj_ cu);have nR:=s2 _ _ ht;nofun;have cD:H2 t=some (.tup ((wkey w).map kV)):=by rw[BE,nR]
   have kD:TK H2 (upd H2 p (.dT (putK kvs (wkey w) (V.bl true)))):=TK.dT hd;refine⟨_,DPut.t (k:=wkey w) hd cD s!"",?_⟩;have s3:=s2.over hp (o:=.dT (putK kvs (wkey w) (V.bl true)));have l4:upd H2 p (.dT (putK kvs (wkey w) (V.bl true))) p=some (.dT (putK kvs (wkey w) (V.bl true))):=Ab;have ib:=kD _ _ nR;generalize upd H2 p (.dT (putK kvs (wkey w) (V.bl true)))=H3 at s3 l4 ib ⊢;have om:=hk.put (w:=w) (V.bl true);have hn3:=L5 kvs (wkey w) (V.bl true);generalize putK kvs (wkey w) (V.bl true)=kvs3 at l4 om hn3;obtain⟨S,hS⟩:∃S,S=((W.take i).flatMap fun w=>w::fE74 L w E).foldl ins []:=⟨_,rfl⟩;rw[<-hS]at om;refine⟨⟨_,s3.seqT he⟩,?_⟩;obtain⟨Py,cV⟩:∃Pv:Nat->St->Hp->Prop,∀j af H',Pv j af H'↔(∃(kvs:List (List Key×V)) (o' o2:Option V),Same H H'/\H' t=some (.tup (w.map V.int))/\H' p=some (.dT kvs)/\kvs.length<=i*100+1+j*10/\BK ((fE74 L w (E.take j)).foldl ins (ins S w)) kvs/\af=[some (.int L),some (.ref a),some (.ref e),some (.ref p),some (.ref t),o',o2]):=⟨_,fun _ _ _=>j8_⟩;refine forT (xs:=ys) Py ((cV _ _ _).mpr ⟨kvs3,_,_,s3,ib,l4,by lia,by rw[xq_];exact om,rfl⟩) (fun j af H' _ h'=>by obtain⟨_,_,_,s',_⟩:=(cV _ _ _).mp h';exact s'.seqT he) (fun j y aJ H4 hy h3=>?_) (fun aJ H4 h3=>?_)
   ·obtain⟨fP,o',o2,s4,oq,jD,ot,ma,rfl⟩:=(cV _ _ _).mp h3;obtain⟨u,v,bc,rfl,hu⟩:=jC.at hy;have hj:j<6:=by have:=(jd_.mp bc).1;lia
    have hvlen:=iW v (jj_ bc);have ko:=s4 _ _ hu;nofun;refine A0.ofS oq ko (by simp;lia) fun q H5 s5 hq=>?_;have cD:H5 q=some (.tup ((wkey (w++v)).map kV)):=by rw[BE,hq];simp
    have hd5:=s5 _ _ jD;have kD:TK H5 (upd H5 p (.dT (putK fP (wkey (w++v)) (V.bl true)))):=TK.dT hd5;refine⟨_,DPut.t (k:=wkey (w++v)) hd5 cD s!"",?_⟩;have s6:=(s4.trans s5).over hp (o:=.dT (putK fP (wkey (w++v)) (V.bl true)));have ou:upd H5 p (.dT (putK fP (wkey (w++v)) (V.bl true))) p=some (.dT (putK fP (wkey (w++v)) (V.bl true))):=Ab;have ie:=kD _ _ (s5 _ _ oq);generalize upd H5 p (.dT (putK fP (wkey (w++v)) (V.bl true)))=H6 at s6 ou ie ⊢;have oy:=ma.put (w:=w++v) (V.bl true);have hn6:=L5 fP (wkey (w++v)) (V.bl true);generalize putK fP (wkey (w++v)) (V.bl true)=kv6 at ou oy hn6;have ef:fE74 L w (E.take (j+1))=fE74 L w (E.take j)++((w++v)::(oW L).map fun x:Nat=>w++[(x:Int)]++v):=by
     unfold fE74;rw[jB_,bc,qM_,zb_];simp
    obtain⟨T,hT⟩:∃T,T=(fE74 L w (E.take j)).foldl ins (ins S w):=⟨_,rfl⟩;rw[<-hT]at oy;refine⟨by lia,by lia,?_⟩;rw[show ((L:Int)).toNat=L by lia];obtain⟨Pz,dk⟩:∃Pv:Nat->St->Hp->Prop,∀x af H',Pv x af H'↔(∃(kvs:List (List Key×V)) (o2:Option V),Same H H'/\H' t=some (.tup (w.map V.int))/\H' p=some (.dT kvs)/\kvs.length<=i*100+1+j*10+1+x/\BK (((oW x).map fun x:Nat=>w++[(x:Int)]++v).foldl ins (ins T (w++v))) kvs/\af=[some (.int L),some (.ref a),some (.ref e),some (.ref p),some (.ref t),some (.ref u),o2]):=⟨_,fun _ _ _=>j8_⟩;refine forR Pz ((dk _ _ _).mpr ⟨kv6,_,s6,ie,ou,by lia,oy,rfl⟩) (fun x ax H7 hx7 h7=>?_) (fun ax H7 h7=>?_)
    ·obtain⟨md,o2,s7,i7,jJ,hn7,oz,rfl⟩:=(dk _ _ _).mp h7;rw[qf_];nofun;refine⟨by lia,fun p5 gy=>?_⟩;have a5:=Same.new gy (o:=.tup [V.int (x:Int)]);refine A0.ofS (a5 _ _ i7) Ab (by simp;lia) fun t6 H8 s8 ht8=>?_;have a8:=a5.trans s8;rw[show [V.int (x:Int)]=[(x:Int)].map V.int from rfl,<-jg_]at ht8;refine A0.ofS ht8 (a8 _ _ (s7 _ _ hu)) (by simp;lia) fun q9 H9 s9 kJ=>?_;have a9:=a8.trans s9;have hq9':H9 q9=some (.tup ((wkey (w++[(x:Int)]++v)).map kV)):=by rw[BE,kJ];simp
     have jK:=a9 _ _ jJ;have kD:TK H9 (upd H9 p (.dT (putK md (wkey (w++[(x:Int)]++v)) (V.bl true)))):=TK.dT jK;refine⟨_,DPut.t (k:=wkey (w++[(x:Int)]++v)) jK hq9' s!"",(dk _ _ _).mpr ⟨_,_,(s7.trans a9).over hp,kD _ _ (a9 _ _ i7),Ab,by have:=L5 md (wkey (w++[(x:Int)]++v)) (V.bl true);lia,?_,rfl⟩⟩;rw[j4_,jg_,j0_];exact oz.put _ _
    ·obtain⟨md,o2,s7,i7,jJ,hn7,oz,rfl⟩:=(dk _ _ _).mp h7;refine (cV _ _ _).mpr ⟨md,_,_,s7,i7,jJ,by lia,?_,rfl⟩;rw[ef,j0_,<-hT];exact oz
   ·obtain⟨fP,o',o2,s4,oq,jD,ot,ma,rfl⟩:=(cV _ _ _).mp h3;rw[jC.1,jr_]at ma;refine (cN _ _ _).mpr ⟨fP,_,_,_,s4,jD,by have h0:=jC.1;rw[h0]at ot;lia,?_,rfl⟩;rw[jB_,cu,qM_,zb_,j0_];show BK (qB ins _ ((w::fE74 L w E)++[])) fP;rw[xu_,<-hS];exact ma
  ·obtain⟨kvs,o,o',o2,s2,hd,hn,hk,rfl⟩:=(cN _ _ _).mp h2;rw[hw.1,jr_]at hk;rw[hw.1]at hn;nofun;refine⟨kvs,.inl hd,fun l dX bS dY iZ=>?_⟩;exact k l dX _ (s2.newT bS) Ab (by rw[dY];lia) ((hk.words (K:=K) dY iZ).mono (TK.new bS))
noncomputable def Rf74 (f1 f2 f3:Addr)(vf:V)(p:Int)(L:Nat)(W E:α1)(es:Bk)(R:Prop):Prop:=(vf=.ref f1/\(R ↔ ¬ Jd p L W E es))\/(vf=.ref f2/\(R ↔ ¬ Cn p L W E es))\/(vf=.ref f3/\(R ↔ ¬ Cn p L W E es))
noncomputable def M7 (K:α3)(f1 f2 f3:Addr):Sp:=fun vs H Q _=>∃(vf:V) (a:Addr) (p:Int) (L:Nat) (W E:α1) (es:Bk) (R:Prop),vs=[vf,.ref a]/\SPp K H a p L W E es/\Bd74 p L W E es/\Rf74 f1 f2 f3 vf p L W E es R/\R/\∀H',Same H H'->Q (.bl true) H'
def CP:⋯ EE.j55 11 ["deed","paper"] (M7 K (fA 34) (fA 32) (fA 33)):=by
 delta EE.j55 CG
 ·obtain⟨vf,a,p,L,W,E,es,R,rfl,_⟩:=h;rfl
 ·obtain⟨vf,a,p,L,W,E,es,R,rfl,hP,B,hf,hR,k⟩:=h;have hl:=An;refine⟨_,(Ad (Ak (i:=2) CG.nd Bo)
   (Jm (Vp (E:=(fun σ cls d H1=>σ=[some vf,some (.ref a),some (.bl false)]/\cls=.ref az/\d=none/\Same H H1/\R)) rfl EE.m_j0 rfl rfl rfl (fun xe pn hx=>(Af (Bx (KH 0 (BQ EE).g hr.d EE.j34.F.kp (BQ EE).b .nil hx (Bm EE).g hr.d EE.j32.F.kp (Bm EE).b .nil hx (Bu EE).g hr.d EE.j33.F.kp (Bu EE).b .nil hx (Aa (pvD 1) Ac)))))
   (fun ea pn=>(Af (Ak (i:=2) CG.nd Bo))))
   (Af (Ap (pvD 2))))),?_⟩
  nofun;refine⟨fun af H'=>af=[some vf,some (.ref a),some (.bl true)]/\Same H H',?_,?_⟩
  ·nofun;refine⟨?_,fun bu cls H1 h1=>?_⟩
   ·rcases hf with ⟨rfl,e⟩|⟨rfl,e⟩|⟨rfl,e⟩
    ·exact .inl ⟨rfl,a,p,L,W,E,es,rfl,hP,B,fun h H' s j _=>absurd j (e.mp hR),fun H' s j=>⟨rfl,rfl,s,hR⟩⟩
    ·exact .inr (.inl ⟨rfl,a,p,L,W,E,es,rfl,hP,B,fun H' s j=>absurd j (e.mp hR),fun H' s j=>⟨rfl,rfl,s,hR⟩⟩)
    ·exact .inr (.inr ⟨rfl,a,p,L,W,E,es,rfl,hP,B,fun l zs gs H' s j _ _ _=>absurd j (e.mp hR),fun H' s j=>⟨rfl,rfl,s,hR⟩⟩)
   ·obtain⟨rfl,rfl,s1,_⟩:=h1;refine⟨az,rfl,EE.ee_j0,?_⟩;nofun;exact s1
  ·rintro af H' ⟨rfl,s'⟩;nofun;exact k _ s'
def Be:⋯ EE.j56 11 ["deed","paper"] (M7 K (fA 34) (fA 32) (fA 33)):=by
 delta EE.j56 A2
 ·obtain⟨vf,a,p,L,W,E,es,R,rfl,_⟩:=h;rfl
 ·obtain⟨vf,a,p,L,W,E,es,R,rfl,hP,B,hf,hR,k⟩:=h;have hl:=An;refine⟨_,(Ad (Ak (i:=2) A2.nd Bo)
   (Jm (Xi (i:=3) (E:=(fun σ cls d H1=>σ=[some vf,some (.ref a),some (.bl false),none]/\cls=.ref az/\d=none/\Same H H1/\R)) A2.nd rfl rfl rfl EE.m_j2 rfl rfl rfl (fun xe pn hx=>(Af (Bx (KH 0 (BQ EE).g hr.d EE.j34.F.kp (BQ EE).b .nil hx (Bm EE).g hr.d EE.j32.F.kp (Bm EE).b .nil hx (Bu EE).g hr.d EE.j33.F.kp (Bu EE).b .nil hx (Aa (pvD 1) Ac)))))
   (fun ea pn=>(Af (Ak (i:=2) A2.nd (Kt (Am (Ej (K:=K) rfl) rfl EE.isinstance qu_ (Aa (pvD 3) (Aa (Jg (v:=.ty "ValueError") rfl EE.ValueError L2.boot_ValueError rfl) Ac))) (Kt (P9 (Am (Ej (K:=K) rfl) rfl EE.isinstance qu_ (Aa (pvD 3) (Aa (Ef (v:=.ref bP) rfl EE.m_j1 rfl) Ac)))) (Mc (P9 (Am (Ej (K:=K) rfl) rfl EE.isinstance qu_ (Aa (pvD 3) (Aa (Ef (v:=.ref bQ) rfl EE.m_j3 rfl) Ac)))))))))))
   (Af (Ap (pvD 2))))),?_⟩
  nofun;refine⟨fun af H'=>af=[some vf,some (.ref a),some (.bl true),none]/\Same H H',?_,?_⟩
  ·nofun;refine⟨?_,fun bu cls H1 h1=>?_⟩
   ·rcases hf with ⟨rfl,e⟩|⟨rfl,e⟩|⟨rfl,e⟩
    ·exact .inl ⟨rfl,a,p,L,W,E,es,rfl,hP,B,fun h H' s j _=>absurd j (e.mp hR),fun H' s j=>⟨rfl,rfl,s,hR⟩⟩
    ·exact .inr (.inl ⟨rfl,a,p,L,W,E,es,rfl,hP,B,fun H' s j=>absurd j (e.mp hR),fun H' s j=>⟨rfl,rfl,s,hR⟩⟩)
    ·exact .inr (.inr ⟨rfl,a,p,L,W,E,es,rfl,hP,B,fun l zs gs H' s j _ _ _=>absurd j (e.mp hR),fun H' s j=>⟨rfl,rfl,s,hR⟩⟩)
   ·obtain⟨rfl,rfl,s1,_⟩:=h1;refine⟨az,rfl,EE.e_j0,fun ea mL=>?_⟩;nofun;refine⟨_,_,.exc Ab EE.c_j0,Ms,_,EE.v_j0,?_⟩;rw[if_pos rfl];refine⟨_,_,.exc Ab EE.c_j0,QI,_,EE.k_j0_j1,?_⟩;rw[if_pos (by decide)];exact⟨_,_,.exc Ab EE.c_j0,QI,_,EE.k_j0_j3,rfl,s1.newT mL⟩
  ·rintro af H' ⟨rfl,s'⟩;nofun;exact k _ s'
noncomputable def TB (K:α3):Sp:=fun vs H Q _=>∃(a:Addr) (p:Int) (L n:Nat) (W E:α1) (es:Bk),vs=[.ref a,.int n]/\SPp K H a p L W E es/\Bd74 p L W E es/\Cn p L W E es/\W.length=n/\∀H',Same H H'->Q (.bl true) H'
def DZ:⋯ EE.j57 11 ["paper","many"] (TB K):=by
 delta EE.j57 DW
 ·obtain⟨a,p,L,n,W,E,es,rfl,_⟩:=h;rfl
 ·obtain⟨a,p,L,n,W,E,es,rfl,hP,B,c,hn,k⟩:=h;have hl:=An;refine⟨_,(Ad (Ak (i:=2) DW.nd (Ag (Bm EE) hr.d (Lo (P:=P) (w:=w)) (Aa (pvD 0) Ac)))
   (Af (Ap (Kt (Ag (Gy EE) hr.d Aw (Aa (pvD 2) Ac)) (Mc (Jh (opE FH) (pvD 2) (pvD 1) (AB _))))))),?_⟩
  nofun;refine⟨a,p,L,W,E,es,rfl,hP,B,fun H1 s1 _=>⟨_,rfl,?_⟩,fun H1 s1 z=>absurd c z⟩;show ∃c,V.bl true=V.bl c/\_;refine⟨true,rfl,?_⟩;rw[if_pos rfl];refine⟨rfl,?_⟩;rw[jZ_ (by rw[hn])];exact k _ s1
noncomputable def UndH (p:Int)(hs:Hs)(W E gs:α1):Prop:=gs.length=W.length/\∀(k:Nat) (g:α2),gs[k]?=some g->g.length=W.length/\(∀x∈g,0<=x/\x<p)/\∀(c:Nat) (e:α2),E[c]?=some e->dotW g (W.map fun v=>hs.W p (v++e))%p=if k=c then 1 else 0
noncomputable def TC (K:α3):Sp:=fun vs H Q _=>∃(p:Int) (h ta te l:Addr) (L:Nat) (hs:Hs) (xs ys zs:List V) (W E gs:α1),vs=[.int p,.ref h,.ref ta,.ref te,.ref l]/\Fe K H h p L hs/\hs.ok p L/\SqT K H ta xs/\Aq K H xs W/\SqT K H te ys/\Aq K H ys E/\(∀v∈W,isW L v=true/\v.length<=12)/\(∀e∈E,isW L e=true/\e.length<=12)/\W.length<=6/\E.length=W.length/\H l=some (.lst zs)/\X8 H zs gs/\UndH p hs W E gs/\∀H',Same H H'->Q (.bl true) H'
def Fv:⋯ EE.j58 4 ["p","house","access","ends","undone"] (TC K):=by
 delta EE.j58 Bd
 ·obtain⟨p,h,ta,te,l,L,hs,xs,ys,zs,W,E,gs,rfl,_⟩:=h;rfl
 ·obtain⟨p,h,ta,te,l,L,hs,xs,ys,zs,W,E,gs,rfl,hh,ok,h1,hW,ic,hE,bA,hV,hw6,cA,jL,hZ,hU,k⟩:=h;have hl:=An;have p2:=ok.p2;refine⟨_,(Ad (Ak (i:=5) Bd.nd (Am (lenD Ai) (by rfl) EE.len jF_ (Aa (pvD 2) Ac)))
   (Ad (A5 (PW.pt (G4 (Cb (ptB (BH (Am Ce rfl EE.isinstance qu_ (Aa (pvD 4) (Aa (Jg (v:=.ty "list") rfl EE.list qd_ rfl) Ac)))))) (DS (ptT (Ax (opN FJ) (Am (lenD Ai) (by rfl) EE.len jF_ (Aa (pvD 4) Ac)) (pvD 5) (AB _))))))
   (Af (Ap Bo))
   AE)
   (Ad (A3 jN_ rfl (AF rfl EE.range (Aa (pvD 5) Ac)) (Al (i:=6) Bd.nd rfl (ph rfl))
   (Ad (A5 (PW.pt (G4 (Cb (ptB (BH (Am Ce rfl EE.isinstance qu_ (Aa (Aj (ixLD BC) (pvD 4) (pvD 6)) (Aa (Jg (v:=.ty "list") rfl EE.list qd_ rfl) Ac)))))) (DS (ptT (Ax (opN FJ) (Am (lenD Ai) (by rfl) EE.len jF_ (Aa (Aj (ixLD BC) (pvD 4) (pvD 6)) Ac)) (pvD 5) (AB _))))))
   (Af (Ap Bo))
   AE)
   (Ad (A3 jN_ rfl (Ba (Aj (ixLD BC) (pvD 4) (pvD 6))) (Al (i:=7) Bd.nd rfl (oY rfl))
   (Af (A5 (PW.pt (G4 (Cb (ptB (BH (Ag (Gy EE) hr.d Aw (Aa (pvD 7) Ac))))) (G4 (ptT (Ax (opD0 Lb) (pvD 7) Ae (AB _))) (DS (ptT (Ax (opD0 Ye) (pvD 7) (pvD 0) (AB _)))))))
   (Af (Ap Bo))
   AE)))
   (Af (A3 jN_ rfl (AF rfl EE.range (Aa (pvD 5) Ac)) (Al (i:=8) Bd.nd rfl (ph rfl))
   (Ad (Ak (i:=9) Bd.nd (As (opD AS) (Am (Ge rfl) rfl EE.sum xo_ (Aa (AA rfl (Ay rfl) (cp:=EK) ⟨⟨rfl,rfl⟩,⟨⟨rfl,rfl⟩,⟨⟨rfl,rfl⟩,⟨⟨rfl,rfl⟩,⟨⟨rfl,rfl⟩,⟨⟨rfl,rfl⟩,oX⟩⟩⟩⟩⟩⟩ (AF rfl EE.range (Aa (pvD 5) Ac)) (fun _ _ _ _=>(Al (i:=0) Gp rfl (oY rfl))) (fun _ _ _ _=>AJ) (fun _ _ _ _=>(As (opD BU) (Aj (ixLD (Lp (K:=K) rfl)) (Aj (ixLD (Lp (K:=K) rfl)) (pvD 2) (pvD 3)) (pvD 0)) (Ag (Bv EE) hr.d Aw (Aa (pvD 1) (Aa (As (CD (K:=K) rfl) (Aj (ixTD (Bb (K:=K) rfl)) (pvD 4) (pvD 0)) (Aj (ixTD (Bb (K:=K) rfl)) (pvD 5) (pvD 6))) Ac)))))) Ac)) (pvD 0)))
   (Af (A5 (ptT (Ax (opN FJ) (pvD 9) (Ar Qi rfl EE.int p6 (Aa (Jh (opE FH) (pvD 6) (pvD 8) (AB _)) Ac)) (AB _)))
   (Af (Ap Bo))
   AE))))))))
   (Af (Ap Bo))))),?_⟩
  nofun;have cx:=hW.1;have hyl:=hE.1;have iS:=hZ.1;have nN:=hU.1;refine⟨_,.inr h1,_,_,.lst (SqL.of jL),Ms,_,Ll,?_⟩;rw[if_neg (by decide)];refine⟨_,.inl (SqL.of jL),?_⟩;rw[if_neg (by rw[iS,cx,nN];simp)];refine⟨by lia,by lia,?_⟩;rw[show ((xs.length:Int)).toNat=W.length by lia];obtain⟨Pv,aj⟩:∃Pv:Nat->St->Hp->Prop,∀m af H',Pv m af H'↔(Same H H'/\∃o6 o7 o8 o9,af=[some (.int p),some (.ref h),some (.ref ta),some (.ref te),some (.ref l),some (.int xs.length),o6,o7,o8,o9]):=⟨_,fun _ _ _=>j8_⟩;refine forR Pv ((aj _ _ _).mpr ⟨Same.refl _,none,none,none,none,rfl⟩) (fun i af H' hi h'=>?_) (fun af H' h'=>?_)
  ·obtain⟨s1,o6,o7,o8,o9,rfl⟩:=(aj _ _ _).mp h';rw[qf_];have hig:i<gs.length:=by lia
   obtain⟨e,e1,e2⟩:=hZ.2 i gs[i] (by simp);obtain⟨f1,f2,f3⟩:=hU.2 i gs[i] (by simp);have aM:atI zs (i:Int)=some (V.ref e):=Cq s!"" (by rw[show ((i:Int)).toNat=i by lia];exact e1);generalize gs[i]=g at e2 f1 f2 f3;nofun;refine⟨_,SqL.of (s1 _ _ jL),_,aM,_,_,.lst (SqL.of (s1 _ _ e2)),Ms,_,Ll,?_⟩;rw[if_neg (by decide)];refine⟨_,SqL.of (s1 _ _ jL),_,aM,e,rfl,_,.inl (SqL.of (s1 _ _ e2)),?_⟩;rw[if_neg (by rw[ja_,f1,cx];simp)];refine⟨_,SqL.of (s1 _ _ jL),_,aM,e,rfl,⟨_,SqL.of (s1 _ _ e2)⟩,?_⟩;obtain⟨Pn,kL⟩:∃Pv:Nat->St->Hp->Prop,∀m af H',Pv m af H'↔(Same H H'/\∃o7 o8 o9,af=[some (.int p),some (.ref h),some (.ref ta),some (.ref te),some (.ref l),some (.int xs.length),some (.int i),o7,o8,o9]):=⟨_,fun _ _ _=>j8_⟩;refine forL (xs:=g.map V.int) Pn ((kL _ _ _).mpr ⟨s1,_,_,_,rfl⟩) (fun j ag H2 _ h2=>SqL.of (((kL _ _ _).mp h2).1 _ _ e2)) (fun j x ag H2 hx h2=>?_) (fun ag H2 h2=>?_)
   ·obtain⟨s2,o7,o8,o9,rfl⟩:=(kL _ _ _).mp h2;rw[jf_]at hx;obtain⟨n,hn,rfl⟩:=zs_.mp hx;have hb:=f2 n (jj_ hn);nofun;refine⟨n,rfl,?_⟩;show ∃c,V.bl true=V.bl c/\_;refine⟨true,rfl,?_⟩;rw[if_neg (by decide),if_neg s!"",if_neg s!""];exact (kL _ _ _).mpr ⟨s2,_,_,_,rfl⟩
   ·obtain⟨s2,o7,o8,o9,rfl⟩:=(kL _ _ _).mp h2;nofun;refine⟨by lia,by lia,?_⟩;rw[show ((xs.length:Int)).toNat=W.length by lia];obtain⟨Pm,me⟩:∃Pv:Nat->St->Hp->Prop,∀m af H',Pv m af H'↔(Same H H'/\∃o7 o8 o9,af=[some (.int p),some (.ref h),some (.ref ta),some (.ref te),some (.ref l),some (.int xs.length),some (.int i),o7,o8,o9]):=⟨_,fun _ _ _=>j8_⟩;refine forR Pm ((me _ _ _).mpr ⟨s2,_,_,_,rfl⟩) (fun c aJ H3 hc h3=>?_) (fun aJ H3 h3=>?_)
    ·obtain⟨s3,o7,o8,o9,rfl⟩:=(me _ _ _).mp h3;rw[qf_];have hce:c<E.length:=by lia
     have hf3:=f3 c E[c] (by simp);nofun;refine⟨by lia,by lia,?_⟩;rw[show ((xs.length:Int)).toNat=W.length by lia];obtain⟨Pe,cP⟩:∃Pe:Nat->List V->St->Hp->Prop,∀j dQ ax H',Pe j dQ ax H'↔(Same H H'/\dQ=((oW j).map fun m=>g.getD m 0*hs.W p (W.getD m []++E[c])).map V.int/\∃o,ax=[o,some (.ref h),some (.ref l),some (.int i),some (.ref ta),some (.ref te),some (.int c)]):=⟨_,fun _ _ _ _=>j8_⟩;refine Hd Pe ((cP _ _ _ _).mpr ⟨s3,rfl,none,rfl⟩) s!"" (fun j us ax H4 _ h4=>?_) (fun j us ax H4 hj h4=>?_) (fun us ax H4 h4 D hD=>?_)
     ·obtain⟨_,rfl,_⟩:=(cP _ _ _ _).mp h4;rw[ja_,ja_,jI_];exact jh_ _
     ·obtain⟨s4,rfl,o,rfl⟩:=(cP _ _ _ _).mp h4;rw[qf_];obtain⟨t,q1,q2⟩:=hW.2 j W[j] (by simp);obtain⟨t2,q3,q4⟩:=hE.2 c E[c] (by simp);have v1:=bA _ (jy_ hj);have v2:=hV _ (jy_ hce);have i8:j<g.length:=by lia
      have hx:=f2 _ (jy_ i8);have p18:=ok.p18;nofun;refine⟨_,SqL.of (s4 _ _ jL),_,aM,e,rfl,_,SqL.of (s4 _ _ e2),_,Du s!"" (v:=g[j]) (by simp[i8]),?_⟩;refine⟨_,s4.seqT h1,_,Cq s!"" (by rw[show ((j:Int)).toNat=j by lia];exact q1),_,s4.seqT ic,_,Cq s!"" (by rw[show ((c:Int)).toNat=c by lia];exact q3),?_⟩;refine A0.ofS (s4 _ _ q2) (s4 _ _ q4) (by rw[ja_,ja_];lia) fun q H6 s6 hq=>?_;rw[<-jg_]at hq;refine⟨h,q,p,L,hs.d,hs.f,hs.l,W[j]++E[c],hs.t,rfl,hh.mono (s4.trans s6),ok,SqT.of hq,BD v1.1 v2.1,fun H7 s7=>⟨_,rfl,_,rfl,.inl ⟨by lia,by lia⟩,(cP _ _ _ _).mpr ⟨s4.trans (s6.trans s7),?_,_,rfl⟩⟩⟩;rw[j4_,jg_,jg_,AL];simp[jc_,hj,i8,Hs.W,Hs.R]
     ·obtain⟨s4,rfl,o,rfl⟩:=(cP _ _ _ _).mp h4;have fG:((oW W.length).map fun m=>g.getD m 0*hs.W p (W.getD m []++E[c])).sum=dotW g (W.map fun v=>hs.W p (v++E[c])):=by
       unfold dotW
       congr 1
       refine qI_ (by simp[f1]) fun m a1 a2=>?_;have hm:m<W.length:=by simpa using a1
       have gh:m<g.length:=by lia
       simp[jc_,hm,gh]
      refine⟨D,rfl,_,SqL.of Ab,by lia,.inr ?_⟩;rw[fG,hf3,if_neg]
      ·exact (me _ _ _).mpr ⟨s4.newT hD,_,_,_,rfl⟩
      ·by_cases hic:i=c
       ·subst hic;simp
       ·rw[if_neg hic,if_neg s!""];simp
    ·obtain⟨s3,o7,o8,o9,rfl⟩:=(me _ _ _).mp h3;nofun;exact (aj _ _ _).mpr ⟨s3,_,_,_,_,rfl⟩
  ·obtain⟨s1,o6,o7,o8,o9,rfl⟩:=(aj _ _ _).mp h';nofun;exact k _ s1
def DR {st:Stmt} (h1:PS X st t):PSs X [st] (Ow t):=Af h1
def Wb {K:α3}(h:X.K=K)(n:Nat)(hu:X.A.units+n<cLine):OpR X (compareOp .NotEq) (rNeD K n):=by subst h;exact Oi n hu
def NV.ofD {K:α3}{a:Addr}{xs:List V}{m:Nat}{H:Hp}{Q:VK}(ha:H a=some (.tup xs))(q:∀p H',Same H H'->H' p=some (.tup (xs.drop m))->Q (.ref p) H'):NV K (.ref a) (some (m:Int)) none H Q:=by
 refine⟨a,xs,rfl,ha,fun p H' s' h=>q p H' s' ?_⟩;rw[h];unfold cutV;rw[HT.sIx_nat,HT.sIx_none]
 congr 2
 rcases tD m xs.length with h|h
 ·rw[z1_ h];exact qm_ (by rw[qw_];exact jh_ _)
 ·rw[rl h,pQ h,pK,sQ]
noncomputable def X9 (av p:Int)(L:Nat)(w:α2)(m:Int)(w':α2)(m':Int):Prop:=(av=4/\m'=m/\isW L w'=false/\w'.length=w.length+1)\/(av=5/\w'=w/\¬ (0<=m'/\m'<p))
noncomputable def TF:Sp:=fun vs H Q _=>∃(t b:Addr) (av c p:Int) (L:Nat) (w:α2) (m:Int),vs=[.ref t,.int av,.int c,.int p,.int L]/\H t=some (.tup [.ref b,.int m])/\H b=some (.tup (w.map V.int))/\w.length<=50/\(av=4\/av=5)/\0<=c/\c<1000000000000000000/\2<=p/\p<1000000000000000000/\1<=L/\L<=6/\∀q b' w' m' H',Same H H'->H' q=some (.tup [.ref b',.int m'])->H' b'=some (.tup (w'.map V.int))->X9 av p L w m w' m'->Q (.ref q) H'
def IP:⋯ EE.j59 1 ["pair","way","cell","p","letters"] (TF):=by
 delta EE.j59 Co
 ·obtain⟨t,b,av,c,p,L,w,m,rfl,_⟩:=h;rfl
 ·obtain⟨t,b,av,c,p,L,wd,m,rfl,h1,h2,b7,hway,nC,hc18,p2,p18,l1,l6,k⟩:=h;have hl:=An;refine⟨_,(Ad (Ak (i:=5) Co.nd (Aj (ixTD Ao) (pvD 0) Ae))
   (Ad (A5 (ptT (Ax (opE FH) (pvD 1) Ae (AB _)))
   (Ad (Ak (i:=6) Co.nd (As (opD AS) (As (opD C3) (pvD 2) Ae) (As (opD0 Cp) (Am (lenD Ai) (by rfl) EE.len jF_ (Aa (pvD 5) Ac)) Ae)))
   (Af (Ap (AW (Aa (As AX (As AX (Bp RV (pvD 5) BY (BZ (pvD 6))) (AW (Aa (Aj (ixLD BC) (CU (Aa (pvD 4) (Aa (OT Kv Ae) Ac))) (As (opD AS) (pvD 2) Ae)) Ac))) (Bp RV (pvD 5) (BZ (pvD 6)) BY)) (Aa (Aj (ixTD Ao) (pvD 0) Ae) Ac))))))
   AE)
   (Af (Ap (AW (Aa (pvD 5) (Aa (Aj (ixLD BC) (CU (Aa (As (opD0 N6) (OT Kv Ae) (As (opD AS) (As (opD C3) (pvD 2) Ae) (As (opD N7) Ae Ae))) (Aa (pvD 3) (Aa (As (opD0 Cp) (pvD 3) (As (opD AS) (As (opD C3) (pvD 2) Ae) (As (opD N7) Ae Ae))) Ac)))) (As (opD AS) (pvD 2) Ae)) Ac))))))),?_⟩
  nofun;refine⟨_,SqT.of h1,_,rfl,?_⟩;rcases hway with rfl|rfl
  ·rw[if_pos rfl];refine⟨⟨by lia,by lia⟩,b,rfl,_,.inr (SqT.of h2),by lia,?_⟩;rw[ja_];have iI:=jS_ (c / 7) (show ((wd.length:Int)+1)≠0 by lia);have nE:=jM_ (c / 7) (show (0:Int)<(wd.length:Int)+1 by lia);obtain⟨n,hn⟩:∃n:Nat,c / 7%((wd.length:Int)+1)=n:=q0_ iI;rw[hn]at nE ⊢;obtain⟨x,hx,kz⟩:∃x:Int,atI [V.int (L:Int),V.int (-1)] (c%2)=some (V.int x)/\¬ (0<=x/\x<(L:Int)):=by
    have h2:c%2=0\/c%2=1:=by lia
    rcases h2 with e|e
    ·exact⟨L,by rw[e];rfl,by lia⟩
    ·exact⟨-1,by rw[e];rfl,by lia⟩
   refine NV.of h2 fun z1 H1 s1 hz1=>⟨by lia,fun q1 cI=>⟨by decide,_,SqL.of Ab,_,hx,by lia,fun q2 aH=>?_⟩⟩;have s2:=Same.new cI (o:=.lst [V.int (L:Int),V.int (-1)]);have s3:=Same.new aH (o:=.tup [V.int x]);have u3:upd (upd H1 q1 (.lst [V.int (L:Int),V.int (-1)])) q2 (.tup [V.int x]) q2=some (.tup [V.int x]):=Ab;generalize upd (upd H1 q1 (.lst [V.int (L:Int),V.int (-1)])) q2 (.tup [V.int x])=H3 at s3 u3 ⊢;have aU:=s2.trans s3;have dD:=s1.trans aU;refine A0.ofS (aU _ _ hz1) u3 (by simp;lia) fun z4 H4 s4 hz4=>?_;refine NV.ofD ((dD.trans s4) _ _ h2) fun z5 H5 s5 hz5=>?_;refine A0.ofS (s5 _ _ hz4) hz5 (by simp;lia) fun z6 H6 s6 hz6=>?_;have cQ:=dD.trans (s4.trans (s5.trans s6));refine⟨_,SqT.of (cQ _ _ h1),_,rfl,by lia,fun z7 hz7=>?_⟩;have s7:=Same.new hz7 (o:=.tup [V.ref z6,V.int m]);refine k z7 z6 (wd.take n++[x]++wd.drop n) m _ (cQ.trans s7) Ab (by rw[s7 _ _ hz6];simp) (.inl ⟨rfl,rfl,?_,?_⟩)
   ·rw[Bool.eq_false_iff];intro z;exact kz (AM.mp z x (by simp))
   ·rw[ji_,ji_,jG_,jz_,qw_];lia
  ·rw[if_neg (by decide)];have e9:(10:Int) ^ um 9=1000000000:=by decide
   have cp:CPow 10 9:=⟨by decide,by decide,by decide⟩;refine⟨⟨by lia,by lia⟩,cp,by rw[e9];decide,⟨by lia,by lia⟩,cp,by rw[e9];decide,by lia,fun q1 cI=>⟨by decide,_,SqL.of Ab,?_⟩⟩;rw[e9];have b0:=jS_ (c / 3) (show (1000000000:Int)≠0 by decide);obtain⟨x,hx,kz⟩:∃x:Int,atI [V.int (-1-c / 3%1000000000),V.int p,V.int (p+c / 3%1000000000)] (c%3)=some (V.int x)/\¬ (0<=x/\x<p):=by
    have:c%3=0\/c%3=1\/c%3=2:=by lia
    rcases this with e|e|e
    ·exact⟨_,by rw[e];rfl,by lia⟩
    ·exact⟨_,by rw[e];rfl,by lia⟩
    ·exact⟨_,by rw[e];rfl,by lia⟩
   refine⟨_,hx,by lia,fun q2 aH=>?_⟩;have s2:=Same.new cI (o:=.lst [V.int (-1-c / 3%1000000000),V.int p,V.int (p+c / 3%1000000000)]);have s3:=s2.newT aH (o:=.tup [V.ref b,V.int x]);exact k q2 b wd x _ s3 Ab (s3 _ _ h2) (.inr ⟨rfl,rfl,kz⟩)
noncomputable def Sp74 (av p:Int)(L:Nat)(W E:α1)(es:Bk)(W' E':α1)(au:Bk):Prop:=
 (av=0/\W'=W/\E'=E/\∃i,i<es.length/\au=es.eraseIdx i) \/
 (av=1/\W'=W/\E'=E/\∃q∈es,au=es++[q]) \/
 (av=3/\W'=W/\E ≠ []/\E'=E.drop 1/\au=es) \/
 (av=6/\(∃w∈W,W'=W++[w])/\E'=E++[[]]/\au=es) \/
 (av=7/\(∃a b r,W=a::b::r/\W'=b::a::r)/\E'=E/\au=es) \/
 (W'=W/\E'=E/\∃i q w' m',es[i]?=some q/\X9 av p L q.1 q.2 w' m'/\au=es.set i (w',m')) \/
 (av=8/\W'=W/\E'=E/\∃w∈W,au=es.filter fun q=>decide (q.1≠w)) \/
 (W'=W/\E'=E++[oU 9 0]/\au=es)
def Ya {c d:Prop}[Decidable c][Decidable d]{P n:List V->Prop}[∀ys,Decidable (n ys)]{X R:Prop}(ys:List V)(hP:P ys)(h1:c\/d->n ys->X)(h2:¬ ((c\/d)/\n ys)->R):if c then ∃ys,P ys/\if n ys then X else R else if d then ∃ys,P ys/\if n ys then X else R else R:=by
 have key:c\/d->∃ys,P ys/\if n ys then X else R:=fun h=>by
  refine⟨ys,hP,?_⟩;by_cases hn:n ys
  ·rw[if_pos hn];exact h1 h hn
  ·rw[if_neg hn];exact h2 fun z=>hn z.2
 by_cases hc:c
 ·rw[if_pos hc];exact key (.inl hc)
 ·rw[if_neg hc];by_cases hd:d
  ·rw[if_pos hd];exact key (.inr hd)
  ·rw[if_neg hd];exact h2 fun z=>z.1.elim hc hd
def PY {c:Prop}[Decidable c]{P n:List V->Prop}[∀ys,Decidable (n ys)]{X R:Prop}(ys:List V)(hP:P ys)(h1:c->n ys->X)(h2:¬ (c/\n ys)->R):if c then ∃ys,P ys/\if n ys then X else R else R:=by
 by_cases hc:c
 ·rw[if_pos hc];refine⟨ys,hP,?_⟩;by_cases hn:n ys
  ·rw[if_pos hn];exact h1 hc hn
  ·rw[if_neg hn];exact h2 fun z=>hn z.2
 ·rw[if_neg hc];exact h2 fun z=>hc z.1
def BG.at74 (h:BG H rs es)(hl:dX.length=au.length)(k:∀(i:Nat) (q:α2×Int),au[i]?=some q->∃j:Nat,es[j]?=some q/\dX[i]?=rs[j]?):BG H dX au:=⟨hl,fun i q hi=>by
 obtain⟨j,e1,e2⟩:=k i q hi;obtain⟨t,b,a1,a2,a3⟩:=h.2 j q e1;exact⟨t,b,e2.trans a1,a2,a3⟩⟩
def BG.snoc74 (h:BG H rs es)(h1:H t=some (.tup [.ref b,.int q.2]))(h2:H b=some (.tup (q.1.map V.int))):BG H (rs++[.ref t]) (es++[q]):=⟨by rw[ji_,ji_,h.1];rfl,fun i q' hi=>by
 by_cases hl:i<es.length
 ·rw[jm_ hl]at hi;obtain⟨t',b',a1,a2,a3⟩:=h.2 i q' hi;exact⟨t',b',by rw[jm_ (by rw[h.1];exact hl)];exact a1,a2,a3⟩
 ·have ao:=(jd_.mp hi).1;rw[ji_,jG_]at ao;rw[jp_ s!"",show i-es.length=0 by lia]at hi;cases hi;exact⟨t,b,by rw[jp_ (by rw[h.1];lia),h.1,show i-es.length=0 by lia];rfl,h1,h2⟩⟩
def Aq.at74 {K:α3} (h:Aq K H xs W)(hl:bV.length=W'.length)(k:∀(i:Nat) (q:α2),W'[i]?=some q->∃j:Nat,W[j]?=some q/\bV[i]?=xs[j]?):Aq K H bV W':=⟨hl,fun i q hi=>by
 obtain⟨j,e1,e2⟩:=k i q hi;obtain⟨t,a1,a2⟩:=h.2 j q e1;exact⟨t,e2.trans a1,a2⟩⟩
noncomputable def TH (K:α3):Sp:=fun vs H Q _=>∃(a:Addr) (p:Int) (L:Nat) (av c:Int) (W E:α1) (es:Bk),vs=[.ref a,.int av,.int c]/\SPp K H a p L W E es/\Bd74 p L W E es/\W.length<=4/\E.length<=4/\(∀q∈es,q.1.length<=50)/\0<=av/\av<=8/\0<=c/\c<1000000000000000000/\∀t W' E' au H',Same H H'->SPp K H' t p L W' E' au->Sp74 av p L W E es W' E' au->Q (.ref t) H'
def JU:⋯ EE.j60 2 ["paper","way","cell"] (TH K):=by
 delta EE.j60 AD
 ·obtain⟨a,p,L,av,c,W,E,es,rfl,_⟩:=h;rfl
 ·obtain⟨a,p,L,av,c,W,E,es,rfl,hP,B,hw4,he4,hes,way0,way8,c0,kM,k⟩:=h;have hl:=An;obtain⟨ta,te,th,o,xs,ys,rs,h1,h2,h3,h4,h5,h6,h7,h8⟩:=id hP;have di:=B.hl;have ar:=h8.1;refine⟨_,(Ad (BS (i:=3) AD.nd rfl (ph rfl) (Aj (ixTD Ao) (pvD 0) Ae))
   (Ad (Ak (i:=4) AD.nd (Aj (ixTD Ao) (pvD 0) Ae))
   (Ad (Ak (i:=5) AD.nd (Ar Eh rfl EE.list qd_ (Aa (Aj (ixTD Ao) (pvD 0) Ae) Ac)))
   (Ad (BS (i:=6) AD.nd rfl (ph rfl) (As (opD AS) (As (opD C3) (pvD 2) Ae) (Am (Mh rfl) rfl EE.max p9 (Aa Ae (Aa (Am (lenD Ai) (by rfl) EE.len jF_ (Aa (pvD 5) Ac)) Ac)))))
   (Jm (A5 (PW.pt (F7 (ptT (Ax (opE FH) (pvD 1) Ae (AB _))) (Eg (ptT (Ax (opD0 Mf) (Am (lenD Ai) (by rfl) EE.len jF_ (Aa (pvD 5) Ac)) Ae (AB _))))))
   (Af (Ak (i:=5) AD.nd (As Qu (Bp Np (pvD 5) BY (BZ (pvD 6))) (Bp Np (pvD 5) (BZ (As (opD0 Cp) (pvD 6) Ae)) BY))))
   (DR (A5 (PW.pt (F7 (ptT (Ax (opE FH) (pvD 1) Ae (AB _))) (Eg (ptT (Ax (opD0 Mf) (Am (lenD Ai) (by rfl) EE.len jF_ (Aa (pvD 5) Ac)) Ae (AB _))))))
   (Af (Bx (Ka qh_ qb_ qc_ By (pvD 5) (Aa (Aj (ixLD BC) (pvD 5) (pvD 6)) Ac))))
   (DR (A5 (PW.pt (F7 (ptT (Ax (opE FH) (pvD 1) Ae (AB _))) (Eg (ptT (Ax (opD0 Mf) (Am (lenD Ai) (by rfl) EE.len jF_ (Aa (pvD 4) Ac)) Ae (AB _))))))
   (Af (Ak (i:=4) AD.nd (Bp El (pvD 4) (BZ Ae) BY)))
   (DR (A5 (PW.pt (F7 (ptT (Ax (opE FH) (pvD 1) Ae (AB _))) (Eg (ptT (Ax (opD0 Mf) (Am (lenD Ai) (by rfl) EE.len jF_ (Aa (pvD 3) Ac)) Ae (AB _))))))
   (Ad (BS (i:=3) AD.nd rfl (ph rfl) (As AX (pvD 3) (AW (Aa (Aj (ixTD Ao) (pvD 3) (As (opD AS) (As (opD C3) (pvD 2) Ae) (Am (lenD Ai) (by rfl) EE.len jF_ (Aa (pvD 3) Ac)))) Ac))))
   (Af (Ak (i:=4) AD.nd (As AX (pvD 4) (AW (Aa (AW Ac) Ac))))))
   (DR (A5 (PW.pt (F7 (ptT (Ax (opE FH) (pvD 1) Ae (AB _))) (Eg (ptT (Ax (opD0 Mf) (Am (lenD Ai) (by rfl) EE.len jF_ (Aa (pvD 3) Ac)) Ae (AB _))))))
   (Af (BS (i:=3) AD.nd rfl (ph rfl) (As AX (AW (Aa (Aj (ixTD Ao) (pvD 3) Ae) (Aa (Aj (ixTD Ao) (pvD 3) Ae) Ac))) (Bp El (pvD 3) (BZ Ae) BY))))
   (DR (A5 (PW.pt (F7 (PW.pt (G4 (ptT (Ax (opE FH) (pvD 1) Ae (AB _))) (DS (ptT (Ax (opE FH) (pvD 1) Ae (AB _)))))) (Eg (ptT (Ax (opD0 Mf) (Am (lenD Ai) (by rfl) EE.len jF_ (Aa (pvD 5) Ac)) Ae (AB _))))))
   (Af (Wx (Ag (IP EE) hr.d Aw (Aa (Aj (ixLD BC) (pvD 5) (pvD 6)) (Aa (pvD 1) (Aa (pvD 2) (Aa (Aj (ixTD Ao) (pvD 0) Ae) (Aa (Aj (ixTD Ao) (pvD 0) Ae) Ac)))))) (Ww (pvD 5) (pvD 6) set_list)))
   (DR (A5 (PW.pt (F7 (ptT (Ax (opE FH) (pvD 1) Ae (AB _))) (Eg (ptT (Ax (opD0 Mf) (Am (lenD Ai) (by rfl) EE.len jF_ (Aa (pvD 3) Ac)) Ae (AB _))))))
   (Af (BJ (i:=5) AD.nd rfl rfl rfl (Ay rfl) (cp:=DY) ⟨⟨rfl,rfl⟩,⟨⟨rfl,rfl⟩,oX⟩⟩ (Ba (pvD 5)) (fun _ _ _ _=>(Al (i:=0) FX rfl (oY rfl))) (fun _ _ _ _=>(WV (ptT (Ax (Wb (K:=K) rfl 8 (hu9 hr)) (Aj (ixTD (Bb (K:=K) rfl)) (pvD 0) Ae) (Aj (ixTD (Bb (K:=K) rfl)) (pvD 1) (As (opD AS) (pvD 2) (Am (lenD (Gd (K:=K) rfl)) (by rfl) EE.len jF_ (Aa (pvD 1) Ac)))) (AB _))))) (fun _ _ _ _=>(pvD 0))))
   (DR (Ak (i:=4) AD.nd (As AX (pvD 4) (AW (Aa (As Nx (AW (Aa Ae Ac)) Ae) Ac))))))))))))))))))
   (Af (Ap (AW (Aa (Aj (ixTD Ao) (pvD 0) Ae) (Aa (Aj (ixTD Ao) (pvD 0) Ae) (Aa (pvD 3) (Aa (pvD 4) (Aa (Ar HK rfl EE.tuple jw_ (Aa (pvD 5) Ac)) Ac))))))))))))),?_⟩
  nofun;refine⟨_,SqT.of h1,_,rfl,_,SqT.of h1,_,rfl,_,SqT.of h1,_,rfl,th,rfl,_,.inr (.inl (.inr ⟨o,h6⟩)),fun lh oA=>⟨⟨by lia,by lia⟩,_,.inl (SqL.of Ab),by split<;>lia,?_⟩⟩;have sh:=Same.new oA (o:=.lst rs);have uh:upd H lh (.lst rs) lh=some (.lst rs):=Ab;generalize upd H lh (.lst rs)=H1 at sh uh ⊢;have pl0:0<=c / 11%(if ((rs.length:Int)) > 1 then (rs.length:Int) else 1):=jS_ _ (by split<;>lia);have pl1:c / 11%(if ((rs.length:Int)) > 1 then (rs.length:Int) else 1)<(if ((rs.length:Int)) > 1 then (rs.length:Int) else 1):=jM_ _ (by split<;>lia);obtain⟨pl,bg⟩:∃n:Nat,c / 11%(if ((rs.length:Int)) > 1 then (rs.length:Int) else 1)=n:=q0_ pl0;rw[bg]at pl1 ⊢;have i9:es ≠ []->pl<es.length:=fun aw=>by
   have:0<es.length:=List.length_pos_iff.mpr aw;split at pl1<;>lia
  obtain⟨R,hR⟩:∃R:St->Hp->Prop,∀af H',R af H'↔(∃(ua ue l5:Addr) (bV ys' dX:List V) (W' E':α1) (au:Bk),Same H H'/\af=[some (.ref a),some (.int av),some (.int c),some (.ref ua),some (.ref ue),some (.ref l5),some (.int pl)]/\SqT K H' ua bV/\Aq K H' bV W'/\SqT K H' ue ys'/\Aq K H' ys' E'/\H' l5=some (.lst dX)/\BG H' dX au/\Sp74 av p L W E es W' E' au):=⟨_,fun _ _=>j8_⟩;have fK:=h8.mono (TK.of sh);refine⟨R,?_,fun ag H2 h2=>?_⟩
  ·nofun;refine PY rs (.inl (SqL.of uh)) (fun hc hn=>?_) (fun gJ=>AY ?_)
   ·subst hc;have bT:=i9 (fun z=>by rw[z]at ar;rw[ar]at hn;simp at hn);have e1:cutV rs none (some (pl:Int))=rs.take pl:=F4 rs pl;have e2:cutV rs (some ((pl:Int)+1)) none=rs.drop (pl+1):=by rw[show ((pl:Int)+1)=((pl+1:Nat):Int) by lia];exact Dj rs (pl+1)
    refine⟨rs,SqL.of uh,?_⟩;rw[e1];intro p1 aR;refine⟨rs,SqL.of ((Same.new aR) _ _ uh),?_⟩;rw[e2];intro p2 bj;refine⟨_,(Same.new bj) _ _ Ab,_,Ab,by rw[jz_,qw_];lia,fun p3 i5=>?_⟩;have s3:=(((sh.newT aR (o:=.lst (rs.take pl))).newT bj (o:=.lst (rs.drop (pl+1)))).newT i5 (o:=.lst (rs.take pl++rs.drop (pl+1))));refine (hR _ _).mpr ⟨ta,te,p3,xs,ys,_,W,E,es.eraseIdx pl,s3,rfl,s3.seqT h2,h3.mono (TK.of s3),s3.seqT h4,h5.mono (TK.of s3),Ab,?_,.inl ⟨rfl,rfl,rfl,pl,bT,rfl⟩⟩;have h8':=h8.mono (TK.of s3);rw[<-xA_]at h8' ⊢;refine h8'.at74 (by rw[qj,qj,ar]) fun i q hq=>?_;rw[pS]at hq;rw[pS];split at hq
    ·rename_i hi
     exact⟨i,hq,by rw[if_pos hi]⟩
    ·rename_i hi
     exact⟨i+1,hq,by rw[if_neg hi]⟩
   nofun;refine PY rs (.inl (SqL.of uh)) (fun hc hn=>?_) (fun hno2=>AY ?_)
   ·subst hc;have bT:=i9 (fun z=>by rw[z]at ar;rw[ar]at hn;simp at hn);obtain⟨t,b,a1,a2,a3⟩:=h8.2 pl es[pl] (by simp[bT]);have s3:=sh.over oA (o:=.lst (rs++[V.ref t]));exact⟨.inl ⟨rfl,_,SqL.of uh⟩,_,SqL.of uh,_,Cq s!"" (by rw[show ((pl:Int)).toNat=pl by lia];exact a1),_,uh,by lia,(hR _ _).mpr ⟨ta,te,lh,xs,ys,_,W,E,es++[es[pl]],s3,rfl,s3.seqT h2,h3.mono (TK.of s3),s3.seqT h4,h5.mono (TK.of s3),Ab,(h8.mono (TK.of s3)).snoc74 (s3 _ _ a2) (s3 _ _ a3),.inr (.inl ⟨rfl,rfl,rfl,_,jy_ bT,rfl⟩)⟩⟩
   nofun;refine PY ys (.inr (sh.seqT h4)) (fun hc hn=>?_) (fun hno3=>AY ?_)
   ·subst hc;have e1:cutV ys (some (1:Int)) none=ys.drop 1:=Dj ys 1;refine⟨ys,sh.seqT h4,?_⟩;rw[e1];intro q H2 s2 hq;have s3:=sh.trans s2;refine (hR _ _).mpr ⟨ta,q,lh,xs,_,rs,W,E.drop 1,es,s3,rfl,s3.seqT h2,h3.mono (TK.of s3),hq,Aq.at74 (h5.mono (TK.of s3)) (by rw[qw_,qw_,h5.1]) fun i u hu=>⟨1+i,by rw[qG]at hu;exact hu,by rw[qG]⟩,s2 _ _ uh,h8.mono (TK.of s3),.inr (.inr (.inl ⟨rfl,rfl,fun z=>?_,rfl,rfl⟩))⟩;rw[h5.1,z]at hn;simp at hn
   nofun;refine PY xs (.inr (sh.seqT h2)) (fun hc hn=>?_) (fun hno4=>AY ?_)
   ·subst hc;have hn:0<(xs.length:Int):=hn;have m0:=jS_ (c / 5) (show (xs.length:Int)≠0 by lia);have m1:=jM_ (c / 5) hn;obtain⟨m,hm⟩:∃n:Nat,c / 5%(xs.length:Int)=n:=q0_ m0;rw[hm]at m1;have oB:m<W.length:=by have:=h3.1;lia
    obtain⟨t,a1,a2⟩:=h3.2 m W[m] (by simp);refine⟨⟨by lia,by lia⟩,_,.inr (sh.seqT h2),hn,_,sh.seqT h2,V.ref t,by rw[hm];exact Cq s!"" (by rw[show ((m:Int)).toNat=m by lia];exact a1),by lia,fun p1 aR=>?_⟩;have s1:=Same.new aR (o:=.tup [V.ref t]);refine A0.of (s1.seqT (sh.seqT h2)) (SqT.of Ab) (by rw[h3.1];simp;lia) fun q H2 s2 hq=>⟨by lia,fun p2 bj=>⟨by lia,fun p3 i5=>?_⟩⟩;have bB:=s1.trans s2;have t2:=Same.new bj (o:=.tup []);have t3:=Same.new i5 (o:=.tup [V.ref p2]);have jM:=t2.trans t3;have u2:=t3 _ _ (Ab (H:=H2) (a:=p2) (o:=.tup []));refine A0.of (jM.seqT (bB.seqT (sh.seqT h4))) (SqT.of Ab) (by rw[h5.1];simp;lia) fun q2 H4 s4 aH=>?_;have dA:=bB.trans (jM.trans s4);have cR:=sh.trans dA;exact (hR _ _).mpr ⟨q,q2,lh,_,_,rs,W++[W[m]],E++[[]],es,cR,rfl,(jM.trans s4).seqT hq,(h3.mono (TK.of cR)).snoc (cR _ _ a2),aH,(h5.mono (TK.of cR)).snoc (s4 _ _ u2),dA _ _ uh,h8.mono (TK.of cR),.inr (.inr (.inr (.inl ⟨rfl,⟨_,jy_ oB,rfl⟩,rfl,rfl⟩)))⟩
   nofun;refine PY xs (.inr (sh.seqT h2)) (fun hc hn=>?_) (fun hno5=>AY ?_)
   ·subst hc;have hn:1<(xs.length:Int):=hn;obtain⟨wa,wb,wr,eF⟩:∃wa wb wr,W=wa::wb::wr:=by
     have:=h3.1
     match W,this with
     |a::b::r,_=>exact⟨a,b,r,rfl⟩
     |[a],z=>rw[z]at hn;simp at hn
     |[],z=>rw[z]at hn;simp at hn
    obtain⟨xa,xb,xr,fi⟩:∃wa wb wr,xs=wa::wb::wr:=by
     match xs,hn with
     |a::b::r,_=>exact⟨a,b,r,rfl⟩
     |[a],z=>simp at z
     |[],z=>simp at z
    have e1:cutV xs (some (2:Int)) none=xs.drop 2:=Dj xs 2;refine⟨_,sh.seqT h2,xb,by rw[fi];exact Cq s!"" rfl,_,sh.seqT h2,xa,by rw[fi];exact Cq s!"" rfl,by lia,fun p1 aR=>⟨_,(Same.new aR).seqT (sh.seqT h2),?_⟩⟩;rw[e1];intro p2 H2 s2 bj;have s1:=Same.new aR (o:=.tup [xb,xa]);refine A0.of (s2.seqT (SqT.of Ab)) bj (by rw[qw_,h3.1];simp;lia) fun q H3 s3 hq=>?_;have aU:=s1.trans (s2.trans s3);have dD:=sh.trans aU;refine (hR _ _).mpr ⟨q,te,lh,_,_,rs,wb::wa::wr,E,es,dD,rfl,hq,Aq.at74 (h3.mono (TK.of dD)) ?_ fun i u hu=>?_,dD.seqT h4,h5.mono (TK.of dD),aU _ _ uh,h8.mono (TK.of dD),.inr (.inr (.inr (.inr (.inl ⟨rfl,⟨wa,wb,wr,eF,rfl⟩,rfl,rfl⟩))))⟩
    ·have:=h3.1;rw[fi,eF]at this;rw[fi];simpa using this
    ·rw[fi,eF]
     match i with
     |0=>exact⟨1,hu,rfl⟩
     |1=>exact⟨0,hu,rfl⟩
     |i+2=>exact⟨i+2,hu,rfl⟩
   nofun;refine Ya rs (.inl (SqL.of uh)) (fun hc hn=>?_) (fun hno6=>AY ?_)
   ·have bT:=i9 (fun z=>by rw[z]at ar;rw[ar]at hn;simp at hn);obtain⟨t,b,a1,a2,a3⟩:=h8.2 pl es[pl] (by simp[bT]);have hq50:=hes _ (jy_ bT);refine⟨_,SqL.of uh,_,Cq s!"" (by rw[show ((pl:Int)).toNat=pl by lia];exact a1),_,SqT.of (sh _ _ h1),_,rfl,_,SqT.of (sh _ _ h1),_,rfl,t,b,av,c,p,L,es[pl].1,es[pl].2,rfl,sh _ _ a2,sh _ _ a3,hq50,hc,c0,kM,B.pr.1,B.p18,B.l1,B.l6,fun q b' w' m' H2 s2 z1 z2 od=>⟨_,s2 _ _ uh,pl,by unfold ixN;rw[if_pos s!"",if_pos s!""];congr 1,?_⟩⟩;have s3:=(sh.trans s2).over oA (o:=.lst (rs.set pl (V.ref q)));have kD:TK H2 (upd H2 lh (.lst (rs.set pl (V.ref q)))):=TK.lst (s2 _ _ uh);refine (hR _ _).mpr ⟨ta,te,lh,xs,ys,_,W,E,es.set pl (w',m'),s3,rfl,s3.seqT h2,h3.mono (TK.of s3),s3.seqT h4,h5.mono (TK.of s3),Ab,⟨by rw[zT_,zT_];exact ar,fun i e hi=>?_⟩,.inr (.inr (.inr (.inr (.inr (.inl ⟨rfl,rfl,pl,es[pl],w',m',by simp[bT],od,rfl⟩)))))⟩;by_cases oC:i=pl
    ·subst oC;rw[q2_ bT]at hi;cases hi;exact⟨q,b',q2_ (by rw[ar];exact bT),kD _ _ z1,kD _ _ z2⟩
    ·rw[xr_ (q3_ oC)]at hi;obtain⟨t',b2,q1,q2,q3⟩:=h8.2 i e hi;exact⟨t',b2,by rw[xr_ (q3_ oC)];exact q1,s3 _ _ q2,s3 _ _ q3⟩
   nofun;refine PY xs (.inr (sh.seqT h2)) (fun hc hn=>?_) (fun hno7=>AY ?_)
   ·subst hc;have hn:0<(xs.length:Int):=hn;have m0:=jS_ (pl:Int) (show (xs.length:Int)≠0 by lia);have m1:=jM_ (pl:Int) hn;obtain⟨m,hm⟩:∃n:Nat,(pl:Int)%(xs.length:Int)=n:=q0_ m0;rw[hm]at m1;have oB:m<W.length:=by have:=h3.1;lia
    obtain⟨t,a1,a2⟩:=h3.2 m W[m] (by simp);refine⟨⟨_,SqL.of uh⟩,Fb (xs:=rs) (fun i us af H'=>Same H1 H'/\BG H' us ((es.take i).filter fun q=>decide (q.1≠W[m]))/\∃o,af=[o,some (.ref ta),some (.int pl)]) ⟨Same.refl _,⟨rfl,fun i q hi=>by simp at hi⟩,none,rfl⟩ s!"" (fun i us af H' hi h'=>⟨SqL.of (h'.1 _ _ uh),by rw[h'.2.1.1];exact jY_ (zF_ _ _) (by rw[jz_];lia)⟩) (fun i x us af H' hx h'=>?_) (fun us af H' h' D hD=>?_)⟩
    ·obtain⟨s1,hT,oo,rfl⟩:=h';have hi:i<es.length:=by rw[<-ar];exact (jd_.mp hx).1
     obtain⟨t',b',e1,e2,e3⟩:=h8.2 i es[i] (by simp[hi]);rw[hx]at e1;cases e1;have gx:=sh.trans s1;nofun;refine⟨_,SqT.of (gx _ _ e2),_,rfl,_,.inr (gx.seqT h2),hn,_,gx.seqT h2,V.ref t,by rw[hm];exact Cq s!"" (by rw[show ((m:Int)).toNat=m by lia];exact a1),b',rfl,t,rfl,_,EqD.ints (.inr ⟨SqT.of (gx _ _ e3),SqT.of (gx _ _ a2)⟩) 7,?_⟩;rw[show es.take (i+1)=es.take i++[es[i]] by rw[jB_,jb_ hi];rfl,qE];by_cases hw:es[i].1=W[m]
     ·rw[if_neg (by rw[jZ_ hw];simp),show [es[i]].filter (fun q=>decide (q.1≠W[m]))=[] by simp[hw],xu_];exact⟨s1,hT,_,rfl⟩
     ·rw[if_pos (by rw[jX_ hw];rfl),show [es[i]].filter (fun q=>decide (q.1≠W[m]))=[es[i]] by simp[hw]];exact⟨s1,hT.snoc74 (gx _ _ e2) (gx _ _ e3),_,rfl⟩
    ·obtain⟨s1,hT,oo,rfl⟩:=h';rw[ar,jr_]at hT;have s3:=(sh.trans s1).newT hD (o:=.lst us);exact (hR _ _).mpr ⟨ta,te,D,xs,ys,us,W,E,_,s3,rfl,s3.seqT h2,h3.mono (TK.of s3),s3.seqT h4,h5.mono (TK.of s3),Ab,hT.mono (TK.new hD),.inr (.inr (.inr (.inr (.inr (.inr (.inl ⟨rfl,rfl,rfl,_,jy_ oB,rfl⟩))))))⟩
   nofun;refine⟨by lia,fun p1 aR=>Mu.ofS Ab (by simp) s!"" s!"" (by simp;lia) fun x1 H2 t1 gQ=>⟨by lia,fun p2 bj=>?_⟩⟩;rw[zp_,show (9:Int).toNat=9 from rfl]at gQ;have s1:=(Same.new aR (o:=.tup [V.int 0])).trans t1;have s2:=Same.new bj (o:=.tup [V.ref x1]);have bB:=s1.trans s2;refine A0.of (bB.seqT (sh.seqT h4)) (SqT.of Ab) (by rw[h5.1];simp;lia) fun q2 H4 s4 aH=>?_;have dA:=bB.trans s4;have cR:=sh.trans dA;exact (hR _ _).mpr ⟨ta,q2,lh,xs,_,rs,W,E++[oU 9 0],es,cR,rfl,cR.seqT h2,h3.mono (TK.of cR),aH,(h5.mono (TK.of cR)).snoc ((s2.trans s4) _ _ (by rw[gQ];rfl)),dA _ _ uh,h8.mono (TK.of cR),.inr (.inr (.inr (.inr (.inr (.inr (.inr ⟨rfl,rfl,rfl⟩))))))⟩
  ·obtain⟨ua,ue,l5,bV,ys',dX,W',E',au,s2,rfl,q1,q2,q3,q4,q5,q6,q7⟩:=(hR _ _).mp h2;nofun;refine⟨_,SqT.of (s2 _ _ h1),_,rfl,_,SqT.of (s2 _ _ h1),_,rfl,_,SqL.of q5,fun oD oh fO c8=>⟨by lia,fun t ht=>?_⟩⟩;have t1:=Same.new fO (o:=.frz oh (.tup dX));have t2:=Same.new ht (o:=.tup [V.int p,V.int (L:Int),V.ref ua,V.ref ue,V.ref oD]);have fj:=t1.trans t2;exact k t W' E' au _ (s2.trans fj) ⟨ua,ue,oD,oh,bV,ys',dX,Ab,fj.seqT q1,q2.mono (TK.of fj),fj.seqT q3,q4.mono (TK.of fj),t2 _ _ Ab,c8,q6.mono (TK.of fj)⟩ q7
def Yu {av:Int}{F G:Prop}(h1:av=0\/av=7\/av=8->G)(h2:¬ (av=0\/av=7\/av=8)->F):if (!decide (av=0))=true then (if (!decide (av=7))=true then (if (!decide (av=8))=true then F else G) else G) else G:=by
 by_cases a:av=0
 ·rw[if_neg (by simp[a])];exact h1 (.inl a)
 ·rw[if_pos (by simp[a])];by_cases b:av=7
  ·rw[if_neg (by simp[b])];exact h1 (.inr (.inl b))
  ·rw[if_pos (by simp[b])];by_cases c:av=8
   ·rw[if_neg (by simp[c])];exact h1 (.inr (.inr c))
   ·rw[if_pos (by simp[c])];exact h2 s!""
noncomputable def JV (av:Int)(W E:α1)(es:Bk):Prop:=(av=0\/av=7\/av=8)/\W.length=E.length/\∀u∈W,∀e∈E,u++e∈es.map (·.1)
noncomputable def PZ (K:α3):Sp:=fun vs H Q _=>∃(a:Addr) (p:Int) (L:Nat) (av:Int) (W E:α1) (es:Bk),vs=[.ref a,.int av]/\SPp K H a p L W E es/\Bd74 p L W E es/\∀b H',Same H H'->(b=true↔JV av W E es)->Q (.bl b) H'
def Gz:⋯ EE.j61 1 ["paper","way"] (PZ K):=by
 delta EE.j61 Bg
 ·obtain⟨a,p,L,av,W,E,es,rfl,_⟩:=h;rfl
 ·obtain⟨a,p,L,av,W,E,es,rfl,hP,B,k⟩:=h;have hl:=An;obtain⟨ta,te,th,o,xs,ys,rs,h1,h2,h3,h4,h5,h6,h7,h8⟩:=id hP;have kI:=B.wn;have lT:=B.en;have di:=B.hl;have ar:=h8.1;refine⟨_,(BB (A5 (PW.pt (G4 (PW.pt (F7 (ptT (Ax (opN FJ) (pvD 1) Ae (AB _))) (F7 (ptT (Ax (opN FJ) (pvD 1) Ae (AB _))) (Eg (ptT (Ax (opN FJ) (pvD 1) Ae (AB _))))))) (DS (ptT (Ax (opN FJ) (Am (lenD Ai) (by rfl) EE.len jF_ (Aa (Aj (ixTD Ao) (pvD 0) Ae) Ac)) (Am (lenD Ai) (by rfl) EE.len jF_ (Aa (Aj (ixTD Ao) (pvD 0) Ae) Ac)) (AB _))))))
   (Af (Ap Bo))
   AE)
   (Ad (BJ (i:=2) Bg.nd rfl rfl rfl (Ay rfl) (cp:=CL) oX (Cc (Aj (ixTD Ao) (pvD 0) Ae)) (fun _ _ _ _=>(Al (i:=0) Ec rfl (oY rfl))) (fun _ _ _ _=>AJ) (fun _ _ _ _=>(Aj (ixTD (Bb (K:=K) rfl)) (pvD 0) Ae)))
   (Ad (A3 jN_ rfl (Cc (Aj (ixTD Ao) (pvD 0) Ae)) (Al (i:=3) Bg.nd rfl (oY rfl))
   (Af (A3 jN_ rfl (Cc (Aj (ixTD Ao) (pvD 0) Ae)) (Al (i:=4) Bg.nd rfl (oY rfl))
   (Af (A5 (ptT (Ax (Q1 (hu9 hr)) (As AX (pvD 3) (pvD 4)) (pvD 2) rfl))
   (Af (Ap Bo))
   AE)))))
   (Af (Ap Bo))))),?_⟩
  nofun;refine Yu (fun hw=>?_) (fun hw=>k false H (Same.refl _) ⟨(fun z=>by cases z),fun z=>absurd z.1 hw⟩);refine⟨_,SqT.of h1,_,rfl,ta,rfl,_,.inr h2,_,SqT.of h1,_,rfl,te,rfl,_,.inr h4,?_⟩;rw[h3.1,h5.1];by_cases cA:W.length=E.length
  rotate_left
  ·rw[if_pos (by rw[jX_ s!""];rfl)];exact k false H (Same.refl _) ⟨(fun z=>by cases z),fun z=>absurd z.2.1 cA⟩
  rw[if_neg (by rw[jZ_ s!""];simp)];refine AY ?_;nofun;have fO:∀{H':Hp},Same H H'->SqT K H' th rs:=fun s=>.inl (.inr ⟨o,s _ _ h6⟩);refine⟨_,SqT.of h1,_,rfl,th,rfl,⟨_,fO (Same.refl _)⟩,IE (xs:=rs) (fun i us af H'=>Same H H'/\Aq K H' us ((es.take i).map (·.1))/\∃o,af=[o]) ⟨Same.refl _,Aq.nil,none,rfl⟩ s!"" (fun i us af H' hi h'=>⟨fO h'.1,by rw[h'.2.1.1,ja_,jz_];lia⟩) (fun i x us af H' hx h'=>?_) (fun us af H1 h' D hD=>?_)⟩
  ·obtain⟨s1,hT,oo,rfl⟩:=h';have hi:i<es.length:=by rw[<-ar];exact (jd_.mp hx).1
   obtain⟨t',b',e1,e2,e3⟩:=h8.2 i es[i] (by simp[hi]);rw[hx]at e1;cases e1;nofun;refine⟨_,SqT.of (s1 _ _ e2),_,rfl,s1,?_,_,rfl⟩;rw[jB_,jb_ hi,jg_];exact hT.snoc (s1 _ _ e3)
  ·obtain⟨s1,hT,oo,rfl⟩:=h';rw[ar,jr_]at hT;have s2:=s1.newT hD (o:=.lst us);have hT2:=hT.mono (TK.new hD (o:=.lst us));have uD:upd H1 D (.lst us) D=some (.lst us):=Ab;generalize upd H1 D (.lst us)=H2 at s2 hT2 uD ⊢;refine⟨_,SqT.of (s2 _ _ h1),_,rfl,ta,rfl,⟨_,s2.seqT h2⟩,?_⟩;obtain⟨Pv,aj⟩:∃Pv:Nat->St->Hp->Prop,∀i af H',Pv i af H'↔(Same H H'/\Aq K H' us (es.map (·.1))/\H' D=some (.lst us)/\(∀u∈W.take i,∀e∈E,u++e∈es.map (·.1))/\∃o3 o4,af=[some (.ref a),some (.int av),some (.ref D),o3,o4]):=⟨_,fun _ _ _=>j8_⟩;refine forT (xs:=xs) Pv ((aj _ _ _).mpr ⟨s2,hT2,uD,fun u hu=>by simp at hu,none,none,rfl⟩) (fun i af H' _ h'=>((aj _ _ _).mp h').1.seqT h2) (fun i x aJ H3 hx h'=>?_) (fun aJ H3 h'=>?_)
   ·obtain⟨s3,hT3,uD3,aB,o3,o4,rfl⟩:=(aj _ _ _).mp h';obtain⟨t,v,bc,rfl,ht⟩:=h3.at hx;nofun;refine⟨_,SqT.of (s3 _ _ h1),_,rfl,te,rfl,⟨_,s3.seqT h4⟩,?_⟩;obtain⟨Pz,dk⟩:∃Pv:Nat->St->Hp->Prop,∀j af H',Pv j af H'↔(Same H H'/\Aq K H' us (es.map (·.1))/\H' D=some (.lst us)/\(∀e∈E.take j,v++e∈es.map (·.1))/\∃o4,af=[some (.ref a),some (.int av),some (.ref D),some (.ref t),o4]):=⟨_,fun _ _ _=>j8_⟩;refine forT (xs:=ys) Pz ((dk _ _ _).mpr ⟨s3,hT3,uD3,fun u hu=>by simp at hu,_,rfl⟩) (fun i af H' _ h'=>((dk _ _ _).mp h').1.seqT h4) (fun j y ax H4 hy kb=>?_) (fun ax H4 kb=>?_)
    ·obtain⟨s4,mf,mh,gA,o4,rfl⟩:=(dk _ _ _).mp kb;obtain⟨u,e,bM,rfl,hu⟩:=h5.at hy;have w1:=B.wa v (jj_ bc);have w2:=B.we e (jj_ bM);nofun;refine A0.ofS (s4 _ _ ht) (s4 _ _ hu) (by simp;lia) fun q H5 s5 hq=>?_;refine⟨q,rfl,us,SqL.of (s5 _ _ mh),v++e,es.map (·.1),mf.mono (TK.of s5),SqT.of (by rw[hq];simp),?_⟩;by_cases hm:v++e∈es.map (·.1)
     ·rw[if_neg (by rw[jZ_ hm];simp)];refine (dk _ _ _).mpr ⟨s4.trans s5,mf.mono (TK.of s5),s5 _ _ mh,fun e' fF=>?_,_,rfl⟩;rw[jB_,bM,qM_]at fF;rcases jH_.mp fF with z|z
      ·exact gA e' z
      ·rw[jn_.mp z];exact hm
     ·rw[if_pos (by rw[jX_ hm];rfl)];exact k false _ (s4.trans s5) ⟨(fun z=>by cases z),fun z=>absurd (z.2.2 v (jj_ bc) e (jj_ bM)) hm⟩
    ·obtain⟨s4,mf,mh,gA,o4,rfl⟩:=(dk _ _ _).mp kb;rw[h5.1,jr_]at gA;refine (aj _ _ _).mpr ⟨s4,mf,mh,fun u' br=>?_,_,_,rfl⟩;rw[jB_,bc,qM_]at br;rcases jH_.mp br with z|z
     ·exact aB u' z
     ·rw[jn_.mp z];exact gA
   ·obtain⟨s3,hT3,uD3,aB,o3,o4,rfl⟩:=(aj _ _ _).mp h';rw[h3.1,jr_]at aB;nofun;exact k true _ s3 ⟨fun _=>⟨hw,cA,aB⟩,fun _=>rfl⟩
noncomputable def R5 (K:α3):Sp:=fun vs H Q _=>∃(h ta te:Addr) (p c:Int) (L:Nat) (hs:Hs) (xs ys:List V) (W E:α1),vs=[.ref h,.ref ta,.ref te,.int c]/\Pr p/\Fe K H h p L hs/\hs.ok p L/\1<=L/\L<=6/\SqT K H ta xs/\Aq K H xs W/\SqT K H te ys/\Aq K H ys E/\(∀v∈W,isW L v=true/\v.length<=12)/\(∀e∈E,isW L e=true/\e.length<=12)/\W.length<=6/\E.length=W.length/\0<=c/\c<1000000000000000000/\∀t bV W' H',Same H H'->SqT K H' t bV->Aq K H' bV W'->(W'=W \/ ∃w0 w1 wr w,W=w0::w1::wr/\W'=w0::w::wr/\isW L w=true/\w.length<=12/\w∉W/\Indep p W'.length (tabW hs p W' E))->Q (.ref t) H'
def Kq:⋯ EE.j62 8 ["house","access","ends","cell"] (R5 K):=by
 delta EE.j62 B9
 ·obtain⟨h,ta,te,p,c,L,hs,xs,ys,W,E,rfl,_⟩:=h;rfl
 ·obtain⟨h,ta,te,p,c,L,hs,xs,ys,W,E,rfl,hp,hh,ok,l1,l6,h2,h3,h4,h5,bA,hV,hw6,cA,c0,kM,k⟩:=h;have hl:=An;obtain⟨tf,tt,tl,g1,g2,g3,g4⟩:=id hh;refine⟨_,(Ad (A5 (PW.pt (G4 (ptT (Ax (opD0 Lb) (Am (lenD Ai) (by rfl) EE.len jF_ (Aa (pvD 1) Ac)) Ae (AB _))) (DS (ptT (Ax (opN FJ) (As (opD AS) (pvD 3) Ae) Ae (AB _))))))
   (Af (Ap (pvD 1)))
   AE)
   (Ad (Ak (i:=4) B9.nd (Ar Av rfl EE.tuple jw_ (Aa (AA rfl (Ay rfl) (cp:=EL) ⟨⟨rfl,rfl⟩,⟨⟨rfl,rfl⟩,oX⟩⟩ (AF rfl EE.range (Aa (As (opD0 Cp) Ae (As (opD AS) (As (opD C3) (pvD 3) Ae) Ae)) Ac)) (fun _ _ _ _=>(Al (i:=0) Gq rfl (oY rfl))) (fun _ _ _ _=>AJ) (fun _ _ _ _=>(As (opD AS) (As (opD C3) (pvD 1) (As (opD0 Cp) Ae (As (opD BU) Ae (pvD 0)))) (Aj (ixTD (Bb (K:=K) rfl)) (pvD 2) Ae)))) Ac)))
   (Ad (Ak (i:=5) B9.nd (As AX (AW (Aa (Aj (ixTD Ao) (pvD 1) Ae) (Aa (pvD 4) Ac))) (Bp El (pvD 1) (BZ Ae) BY)))
   (Ad (BJ (i:=6) B9.nd rfl rfl rfl (Ay rfl) (cp:=EM) ⟨⟨rfl,rfl⟩,⟨⟨rfl,rfl⟩,oX⟩⟩ (Cc (pvD 5)) (fun _ _ _ _=>(Al (i:=0) Gr rfl (ph rfl))) (fun _ _ _ _=>AJ) (fun _ _ _ _=>(Ar (BL (K:=K) rfl) rfl EE.tuple jw_ (Aa (AA rfl (Ay rfl) (cp:=EO) ⟨⟨rfl,rfl⟩,⟨⟨rfl,rfl⟩,oX⟩⟩ (Ra (K:=K) rfl (pvD 2)) (fun _ _ _ _=>(Al (i:=0) Gs rfl (oY rfl))) (fun _ _ _ _=>AJ) (fun _ _ _ _=>(Ag (Bv EE) hr.d Aw (Aa (pvD 1) (Aa (As (CD (K:=K) rfl) (pvD 2) (pvD 0)) Ac))))) Ac))))
   (Ad (A5 (PW.pt (G4 (ptT (Ax (VI (K:=K) rfl (hu9 hr)) (pvD 4) (pvD 1) rfl)) (DS (Cb (ptB (BH (Ag (RY EE) hr.d Aw (Aa (Aj (ixTD Ao) (pvD 0) Ae) (Aa (pvD 6) Ac)))))))))
   (Af (Ap (pvD 1)))
   AE)
   (Af (Ap (pvD 5)))))))),?_⟩
  nofun;refine⟨_,.inr h2,?_⟩;rw[h3.1];by_cases kK:W.length<2
  ·rw[if_pos s!""];exact k ta xs W H (Same.refl _) h2 h3 (.inl rfl)
  rw[if_neg s!""];refine⟨by decide,?_⟩;by_cases hc:c%3=1
  rotate_left
  ·rw[if_pos (by rw[jX_ hc];rfl)];exact k ta xs W H (Same.refl _) h2 h3 (.inl rfl)
  rw[if_neg (by rw[jZ_ hc];simp)];obtain⟨n,hn⟩:∃n:Nat,2+c / 7%4=n:=q0_ s!"";have hn5:n<=5:=by lia
  rw[hn];refine⟨⟨by lia,by lia⟩,by decide,by lia,by lia,?_⟩;rw[show ((n:Int)).toNat=n by lia];obtain⟨wd,eC⟩:∃wd:α2,wd=(oW n).map fun m:Nat=>c / (3+5*(m:Int))%(L:Int):=⟨_,rfl⟩;have mj:isW L wd=true:=AM.mpr fun x hx=>by
   rw[eC]at hx;obtain⟨m,_,rfl⟩:=jo_.mp hx;exact⟨jS_ _ s!"",jM_ _ s!""⟩
  have b7:wd.length=n:=by rw[eC];simp
  refine Hd (fun j us ag H2=>H2=H/\us=((oW j).map fun m:Nat=>c / (3+5*(m:Int))%(L:Int)).map V.int/\∃o,ag=[o,some (.int c),some (.ref h)]) ⟨rfl,rfl,none,rfl⟩ s!"" (fun j us ag H2 hj h'=>by rw[h'.2.1,ja_,ja_,jI_];exact jh_ _) (fun j us ag H2 hj h'=>?_) (fun us ag H2 h' D hD=>?_)
  ·obtain⟨rfl,rfl,o,rfl⟩:=h';rw[qf_];nofun;refine⟨.inl ⟨by lia,by lia⟩,⟨by lia,by lia⟩,_,g1,_,rfl,_,rfl,by lia,?_,_,rfl⟩;rw[j4_,jg_,jg_];rfl
  obtain⟨rfl,hus,o,rfl⟩:=h';rw[<-eC]at hus;subst hus;refine⟨D,rfl,_,.inl ⟨SqL.of Ab,fun lw iR=>?_⟩⟩;have s1:=(Same.new hD (o:=.lst (wd.map V.int))).newT iR (o:=.tup (wd.map V.int));have u1:upd (upd H2 D (.lst (wd.map V.int))) lw (.tup (wd.map V.int)) lw=some (.tup (wd.map V.int)):=Ab;generalize upd (upd H2 D (.lst (wd.map V.int))) lw (.tup (wd.map V.int))=H1 at s1 u1 ⊢;obtain⟨w0,w1,wr,eF⟩:∃wa wb wr,W=wa::wb::wr:=by
   match W,kK with
   |a::b::r,_=>exact⟨a,b,r,rfl⟩
   |[a],z=>exact absurd (show [a].length<2 by simp) z
   |[],z=>exact absurd (show ([]:α1).length<2 by simp) z
  obtain⟨xa,xb,xr,fi⟩:∃wa wb wr,xs=wa::wb::wr:=by
   have hx:=h3.1;rw[eF]at hx
   match xs,hx with
   |a::b::r,_=>exact⟨a,b,r,rfl⟩
  have e2:cutV xs (some (2:Int)) none=xs.drop 2:=Dj xs 2;refine⟨_,s1.seqT h2,xa,by rw[fi];exact Cq s!"" rfl,by lia,fun p1 aR=>⟨_,(s1.newT aR).seqT h2,?_⟩⟩;rw[e2];intro p2 H2 s2 bj;have t1:=Same.new aR (o:=.tup [xa,V.ref lw]);refine A0.of (s2.seqT (SqT.of Ab)) bj (by rw[qw_,h3.1];simp;lia) fun q H3 s3 hq=>?_;have aU:=t1.trans (s2.trans s3);have dD:=s1.trans aU;have u3:=aU _ _ u1;have kN:Aq K H3 ([xa,V.ref lw]++xs.drop 2) (w0::wd::wr):=by
   have hx:=h3.1;rw[fi,eF]at hx;have h3':=h3.mono (TK.of dD);refine⟨by rw[fi];simpa using hx,fun i u hu=>?_⟩
   match i with
   |0=>exact h3'.2 0 u (by rw[eF];exact hu) |>.imp fun t z=>by rw[fi]at z;exact z
   |1=>cases hu;exact⟨lw,rfl,u3⟩
   |i+2=>exact h3'.2 (i+2) u (by rw[eF];exact hu) |>.imp fun t z=>by rw[fi]at z ⊢;exact z
  generalize [xa,V.ref lw]++xs.drop 2=xs3 at hq kN ⊢;obtain⟨W3,iV⟩:∃W3,W3=w0::wd::wr:=⟨_,rfl⟩;rw[<-iV]at kN;have hW3l:W3.length=W.length:=by rw[iV,eF];rfl
  have hvW3:∀v∈W3,isW L v=true/\v.length<=12:=fun v hv=>by
   rw[iV]at hv;rcases jE_.mp hv with rfl|hv
   ·exact bA _ (by rw[eF];simp)
   ·rcases jE_.mp hv with rfl|hv
    ·exact⟨mj,by lia⟩
    ·exact bA _ (by rw[eF];simp[hv])
  have oE:=kN.1;refine⟨q,rfl,⟨_,hq⟩,IE (xs:=xs3) (fun i us af H'=>Same H3 H'/\Aq K H' us ((tabW hs p W3 E).take i)/\∃o,af=[o,some (.ref h),some (.ref te)]) ⟨Same.refl _,Aq.nil,none,rfl⟩ s!"" (fun i us af H' hi h'=>⟨h'.1.seqT hq,by rw[h'.2.1.1,jz_];lia⟩) (fun i x us af H' hx h'=>?_) (fun us af H4 h' D2 bX=>?_)⟩
  ·obtain⟨s4,hy,o,rfl⟩:=h';obtain⟨t,v,bc,rfl,ht⟩:=kN.at hx;have lQ:=hvW3 v (jj_ bc);have cR:=dD.trans s4;nofun;refine⟨⟨_,cR.seqT h4⟩,IE (xs:=ys) (fun j dm aJ H5=>Same H' H5/\dm=((E.map fun e=>hs.W p (v++e)).take j).map V.int/\∃o,aJ=[o,some (.ref h),some (.ref t)]) ⟨Same.refl _,rfl,none,rfl⟩ (by rw[h5.1];lia) (fun j dm aJ H5 hj h'=>⟨h'.1.seqT (cR.seqT h4),by rw[h'.2.1,ja_,jz_];lia⟩) (fun j y dm aJ H5 iE h'=>?_) (fun dm aJ H5 h' D3 jk=>?_)⟩
   ·obtain⟨s5,rfl,o,rfl⟩:=h';obtain⟨u,e,bM,rfl,hu⟩:=h5.at iE;have gw:=hV e (jj_ bM);have bN:=cR.trans s5;nofun;refine A0.ofS ((s4.trans s5) _ _ ht) (bN _ _ hu) (by simp;lia) fun q6 H6 s6 eB=>?_;rw[<-jg_]at eB;refine⟨h,q6,p,L,hs.d,hs.f,hs.l,v++e,hs.t,rfl,hh.mono (bN.trans s6),ok,SqT.of eB,BD lQ.1 gw.1,fun H7 s7=>⟨s5.trans (s6.trans s7),?_,_,rfl⟩⟩;rw[jB_,jf_,bM,jg_,AL];rfl
   ·obtain⟨s5,rfl,o,rfl⟩:=h';rw[show (E.map fun e=>hs.W p (v++e)).take ys.length=E.map fun e=>hs.W p (v++e) by rw[h5.1,<-ja_ (f:=fun e=>hs.W p (v++e)),jr_]];refine⟨D3,rfl,_,.inl ⟨SqL.of Ab,fun l9 fN=>⟨s4.trans ((s5.newT jk).newT fN),?_,_,rfl⟩⟩⟩;unfold tabW at hy ⊢;rw[jB_,jf_,bc];exact (hy.mono (TK.of ((s5.newT jk).newT fN))).snoc Ab
  obtain⟨s4,hy,o,rfl⟩:=h';have jB:(tabW hs p W3 E).length=W3.length:=by unfold tabW;rw[ja_]
  rw[oE,<-jB,jr_]at hy;have s5:=s4.newT bX (o:=.lst us);have kA:=hy.mono (TK.new bX (o:=.lst us));have uD:upd H4 D2 (.lst us) D2=some (.lst us):=Ab;generalize upd H4 D2 (.lst us)=H5 at s5 kA uD ⊢;have bN:=dD.trans s5;refine⟨_,bN.seqT h2,wd,W,h3.mono (TK.of bN),SqT.of (s5 _ _ u3),?_⟩;by_cases oF:wd∈W
  ·rw[if_pos oF];exact k ta xs W _ bN (bN.seqT h2) (h3.mono (TK.of bN)) (.inl rfl)
  rw[if_neg oF];refine⟨_,bN.seqT g1,_,rfl,p,false,D2,E.length,us,tabW hs p W3 E,rfl,hp,SqL.of uD,Aq.rowsN kA,fun r hr=>?_,by lia,by lia,fun H6 s6=>?_⟩
  ·obtain⟨a,_,rfl⟩:=jo_.mp hr;rw[ja_]
  have cQ:=bN.trans s6;by_cases hI:Indep p E.length (tabW hs p W3 E)
  ·rw[jZ_ ((E8 hp).mpr hI)];refine⟨true,rfl,?_⟩;rw[if_neg (by decide)];exact k q xs3 W3 _ cQ ((s5.trans s6).seqT hq) (kN.mono (TK.of (s5.trans s6))) (.inr ⟨w0,w1,wr,wd,eF,iV,mj,by lia,oF,by rw[hW3l,<-cA];exact hI⟩)
  ·rw[jX_ (fun z=>hI ((E8 hp).mp z))];refine⟨false,rfl,?_⟩;rw[if_pos (by decide)];exact k ta xs W _ cQ (cQ.seqT h2) (h3.mono (TK.of cQ)) (.inl rfl)
def Yb (h:1<=n):[(1:Int)]++oU (n-1) 0=AQ n 0:=by
 refine j2_ fun i=>?_;unfold AQ;rw[jf_]
 match i with
 |0=>rw[jO_ h];rfl
 |i+1=>
  rw[jp_ (by simp)];by_cases hi:i+1<n
  ·rw[jO_ hi,qY_,if_pos (by simp;lia)];rfl
  ·rw[jt_ (l:=oW n) (by simp;lia),qY_,if_neg (by simp;lia)];rfl
structure JG74 (hs:Hs)(p:Int)(L:Nat)(W E:α1)(t:α0)(l:α2):Prop where
 l:l=W.map (hs.W p)
 tl:t.length=L
 tb:∀tb∈t,tb.length=W.length
 rw:∀(x k:Nat) (v row:α2),(t.getD x [])[k]?=some row->W[k]?=some v->row.length=W.length/\(∀y∈row,0<=y/\y<p)/\(x<L->∀e∈E,dotW row (W.map fun u=>hs.W p (u++e))%p=hs.W p (v++[(x:Int)]++e))
noncomputable def Wc (K:α3):Sp:=fun vs H Q _=>∃(h ta te f:Addr) (p:Int) (L:Nat) (hs:Hs) (xs ys:List V) (W E:α1) (t:α0) (l:α2),vs=[.ref h,.ref ta,.ref te,.ref f]/\Fe K H h p L hs/\hs.ok p L/\1<=L/\L<=6/\SqT K H ta xs/\Aq K H xs W/\SqT K H te ys/\Aq K H ys E/\(∀v∈W,isW L v=true/\v.length<=12)/\(∀e∈E,isW L e=true/\e.length<=12)/\1<=W.length/\W.length<=6/\GuT K H f p L t l/\JG74 hs p L W E t l/\∀H',Same H H'->Q (.bl true) H'
def F6:⋯ EE.j63 4 ["house","access","ends","found"] (Wc K):=by
 delta EE.j63 AH
 ·obtain⟨h,ta,te,f,p,L,hs,xs,ys,W,E,t,l,rfl,_⟩:=h;rfl
 ·obtain⟨h,ta,te,f,p,L,hs,xs,ys,W,E,t,l,rfl,hh,ok,l1,l6,h2,h3,h4,h5,bA,hV,gY,hw6,hG,J,k⟩:=h;have hl:=An;obtain⟨tf,tt,tl,g1,g2,g3,g4⟩:=id hh;obtain⟨qf,qt,ql,us,f1,f2,f3,f4,f5⟩:=id hG;have oE:=h3.1;refine⟨_,(Ad (Ak (i:=4) AH.nd (Aj (ixTD Ao) (pvD 0) Ae))
   (Ad (Ak (i:=5) AH.nd (Am (lenD Ai) (by rfl) EE.len jF_ (Aa (pvD 1) Ac)))
   (Ad (A5 (PW.pt (G4 (ptT (Ax (Oi 8 (hu9 hr)) (Bp El (pvD 3) BY (BZ Ae)) (AW (Aa (pvD 4) (Aa (Aj (ixTD Ao) (pvD 0) Ae) (Aa (As AX (AW (Aa Ae Ac)) (As Nx (AW (Aa Ae Ac)) (As (opD0 N6) (pvD 5) Ae))) Ac)))) (AB _))) (DS (ptT (Ax (opN FJ) (Am (lenD Ai) (by rfl) EE.len jF_ (Aa (pvD 3) Ac)) Ae (AB _))))))
   (Af (Ap Bo))
   AE)
   (Ad (A5 (PW.pt (G4 (ptT (Ax (Oi 8 (hu9 hr)) (Aj (ixTD Ao) (pvD 3) Ae) (Ar Av rfl EE.tuple jw_ (Aa (AA rfl (Ay rfl) (cp:=Cs) ⟨⟨rfl,rfl⟩,oX⟩ (Cc (pvD 1)) (fun _ _ _ _=>(Al (i:=0) DI rfl (oY rfl))) (fun _ _ _ _=>AJ) (fun _ _ _ _=>(Ag (Bv EE) hr.d Aw (Aa (pvD 1) (Aa (pvD 0) Ac))))) Ac)) (AB _))) (DS (ptT (Ax (opN FJ) (Am (lenD Ai) (by rfl) EE.len jF_ (Aa (Aj (ixTD Ao) (pvD 3) Ae) Ac)) (Aj (ixTD Ao) (pvD 0) Ae) (AB _))))))
   (Af (Ap Bo))
   AE)
   (Ad (A3 jN_ rfl (AF rfl EE.range (Aa (Aj (ixTD Ao) (pvD 0) Ae) Ac)) (Al (i:=6) AH.nd rfl (oY rfl))
   (Af (A3 jN_ rfl (AF rfl EE.range (Aa (pvD 5) Ac)) (Al (i:=7) AH.nd rfl (oY rfl))
   (Ad (BS (i:=8) AH.nd rfl (ph rfl) (Aj (ixTD Ao) (Aj (ixTD Ao) (Aj (ixTD Ao) (pvD 3) Ae) (pvD 6)) (pvD 7)))
   (Af (A3 jN_ rfl (Cc (pvD 2)) (Al (i:=9) AH.nd rfl (ph rfl))
   (Ad (Ak (i:=10) AH.nd (As (opD AS) (Am (Ge rfl) rfl EE.sum xo_ (Aa (AA rfl (Ay rfl) (cp:=Ct) ⟨⟨rfl,rfl⟩,⟨⟨rfl,rfl⟩,⟨⟨rfl,rfl⟩,⟨⟨rfl,rfl⟩,oX⟩⟩⟩⟩ (AF rfl EE.range (Aa (pvD 5) Ac)) (fun _ _ _ _=>(Al (i:=0) DJ rfl (oY rfl))) (fun _ _ _ _=>AJ) (fun _ _ _ _=>(As (opD BU) (Aj (ixTD (Bb (K:=K) rfl)) (pvD 1) (pvD 0)) (Ag (Bv EE) hr.d Aw (Aa (pvD 2) (Aa (As (CD (K:=K) rfl) (Aj (ixTD (Bb (K:=K) rfl)) (pvD 4) (pvD 0)) (pvD 3)) Ac)))))) Ac)) (pvD 4)))
   (Af (A5 (ptT (Ax (opN FJ) (pvD 10) (Ag (Bv EE) hr.d Aw (Aa (pvD 0) (Aa (As AX (As AX (Aj (ixTD Ao) (pvD 1) (pvD 7)) (AW (Aa (pvD 6) Ac))) (pvD 9)) Ac))) (AB _)))
   (Af (Ap Bo))
   AE)))))))))
   (Af (Ap Bo))))))),?_⟩
  nofun;refine⟨_,g1,_,rfl,_,.inr h2,?_⟩;have eX:l.length=W.length:=by rw[J.l,ja_]
  have e3:cutV [V.int p,V.int (L:Int),V.ref qf,V.ref qt,V.ref ql] none (some (3:Int))=[V.int p,V.int (L:Int),V.ref qf]:=F4 _ 3;refine⟨_,SqT.of f1,?_⟩;rw[e3];intro p1 H1 s1 aR;refine⟨_,s1.seqT g1,_,rfl,by lia,fun p2 bj=>⟨by lia,fun p3 i5=>?_⟩⟩;have t2:=Same.new bj (o:=.tup [V.int 1]);have t3:=Same.new i5 (o:=.tup [V.int 0]);refine Mu.ofS Ab (by simp) s!"" s!"" (by simp;lia) fun x1 H2 t4 gQ=>?_;rw[zp_,show ((xs.length:Int)-1).toNat=W.length-1 by lia]at gQ;have jM:=t2.trans (t3.trans t4);refine A0.ofS ((t3.trans t4) _ _ Ab) gQ (by simp;lia) fun x2 H3 t5 iG=>⟨by lia,fun p4 n5=>?_⟩;rw[show [V.int 1]++oU (W.length-1) (V.int 0)=(AQ W.length 0).map V.int by rw[<-Yb gY];simp]at iG;have t6:=Same.new n5 (o:=.tup [V.int p,V.int (L:Int),V.ref x2]);have u6:upd H3 p4 (.tup [V.int p,V.int (L:Int),V.ref x2]) p4=some (.tup [V.int p,V.int (L:Int),V.ref x2]):=Ab;generalize upd H3 p4 (.tup [V.int p,V.int (L:Int),V.ref x2])=H4 at t6 u6 ⊢;have oG:=jM.trans (t5.trans t6);have s4:=s1.trans oG;rw[eX]at f2;refine⟨true,EqD.all43 (.inr ⟨oG.seqT aR,SqT.of u6⟩) rfl (V7 (EqD.int43 _ _) (EqD.int43 _ _) (EqD.word43 _ (SqT.of (s4 _ _ f2)) (SqT.of (t6 _ _ iG)))),?_⟩;rw[if_neg (by decide)];refine⟨_,.inr (SqT.of (s4 _ _ f1)),?_⟩;rw[if_neg (by simp)];refine⟨_,SqT.of (s4 _ _ f1),_,rfl,⟨_,s4.seqT h2⟩,?_⟩;refine IE (xs:=xs) (fun i us af H'=>Same H4 H'/\us=((W.map (hs.W p)).take i).map V.int/\∃o,af=[o,some (.ref h)]) ⟨Same.refl _,rfl,none,rfl⟩ s!"" (fun i us af H' hi h'=>⟨h'.1.seqT (s4.seqT h2),by rw[h'.2.1,ja_,jz_];lia⟩) (fun i x us af H' hx h'=>?_) (fun dm af H5 h' D hD=>?_)
  ·obtain⟨s5,rfl,o,rfl⟩:=h';obtain⟨q,v,bc,rfl,hq⟩:=h3.at hx;have bN:=s4.trans s5;nofun;refine⟨h,q,p,L,hs.d,hs.f,hs.l,v,hs.t,rfl,hh.mono bN,ok,SqT.of (bN _ _ hq),(bA v (jj_ bc)).1,fun H7 s7=>⟨s5.trans s7,?_,_,rfl⟩⟩;rw[jB_,jf_,bc,jg_,AL];rfl
  obtain⟨s5,rfl,o,rfl⟩:=h';rw[show (W.map (hs.W p)).take xs.length=l by rw[oE,<-ja_ (f:=hs.W p),jr_,J.l]] at *;refine⟨D,rfl,_,.inl ⟨SqL.of Ab,fun ln bS=>?_⟩⟩;have s6:=(s5.newT hD (o:=.lst (l.map V.int))).newT bS (o:=.tup (l.map V.int));have u7:upd (upd H5 D (.lst (l.map V.int))) ln (.tup (l.map V.int)) ln=some (.tup (l.map V.int)):=Ab;generalize upd (upd H5 D (.lst (l.map V.int))) ln (.tup (l.map V.int))=H6 at s6 u7 ⊢;have cQ:=s4.trans s6;refine⟨ql,rfl,true,EqD.word43 _ (SqT.of (cQ _ _ f5)) (SqT.of u7),?_⟩;rw[if_neg (by decide)];refine⟨_,SqT.of (cQ _ _ f1),_,rfl,qt,rfl,_,.inr (SqT.of (cQ _ _ f3)),_,cQ.seqT g1,_,rfl,rfl,?_⟩;rw[if_neg (by rw[f4.1,J.tl];simp)];refine⟨_,cQ.seqT g1,_,rfl,_,rfl,by lia,by lia,?_⟩;rw[show ((L:Int)).toNat=L by lia];clear s6 s5 s4 oG t6 t5 jM t4 t3 t2 s1;obtain⟨Pv,aj⟩:∃Pv:Nat->St->Hp->Prop,∀m af H',Pv m af H'↔(Same H H'/\∃o6 o7 o8 o9 oa,af=[some (.ref h),some (.ref ta),some (.ref te),some (.ref f),some (.int p),some (.int xs.length),o6,o7,o8,o9,oa]):=⟨_,fun _ _ _=>j8_⟩;refine forR Pv ((aj _ _ _).mpr ⟨cQ,none,none,none,none,none,rfl⟩) (fun x af H' hx h'=>?_) (fun af H' h'=>?_)
  ·obtain⟨s7,o6,o7,o8,o9,oa,rfl⟩:=(aj _ _ _).mp h';rw[qf_];nofun;refine⟨by lia,by lia,?_⟩;rw[show ((xs.length:Int)).toNat=W.length by lia];obtain⟨Pk,mm⟩:∃Pv:Nat->St->Hp->Prop,∀m af H',Pv m af H'↔(Same H H'/\∃o7 o8 o9 oa,af=[some (.ref h),some (.ref ta),some (.ref te),some (.ref f),some (.int p),some (.int xs.length),some (.int x),o7,o8,o9,oa]):=⟨_,fun _ _ _=>j8_⟩;refine forR Pk ((mm _ _ _).mpr ⟨s7,_,_,_,_,rfl⟩) (fun m ag H2 hm h'=>?_) (fun ag H2 h'=>?_)
   ·obtain⟨s8,o7,o8,o9,oa,rfl⟩:=(mm _ _ _).mp h';rw[qf_];have jA:x<t.length:=by rw[J.tl];exact hx
    obtain⟨u,zs,c1,c2,c3⟩:=f4.2 x t[x] (by simp[jA]);have hmt:m<t[x].length:=by rw[J.tb _ (jy_ jA)];exact hm
    obtain⟨r,d1,d2⟩:=c3.2 m t[x][m] (by simp);obtain⟨j1,j2,j3⟩:=J.rw x m W[m] t[x][m] (by rw[jc_,jb_ jA];simp) (by simp);have j3:=j3 hx;obtain⟨tm,m1,m2⟩:=h3.2 m W[m] (by simp);generalize t[x][m]=row at d2 j1 j2 j3;nofun;refine⟨_,SqT.of (s8 _ _ f1),_,rfl,qt,rfl,_,SqT.of (s8 _ _ f3),_,Cq s!"" (by rw[show ((x:Int)).toNat=x by lia];exact c1),u,rfl,_,SqT.of (s8 _ _ c2),_,Cq s!"" (by rw[show ((m:Int)).toNat=m by lia];exact d1),⟨_,s8.seqT h4⟩,?_⟩;obtain⟨Pe,cP⟩:∃Pv:Nat->St->Hp->Prop,∀m' af H',Pv m' af H'↔(Same H H'/\∃o9 oa,af=[some (.ref h),some (.ref ta),some (.ref te),some (.ref f),some (.int p),some (.int xs.length),some (.int x),some (.int m),some (.ref r),o9,oa]):=⟨_,fun _ _ _=>j8_⟩;refine forT (xs:=ys) Pe ((cP _ _ _).mpr ⟨s8,_,_,rfl⟩) (fun i aJ H3 _ h'=>((cP _ _ _).mp h').1.seqT h4) (fun c y aJ H3 hy h'=>?_) (fun aJ H3 h'=>?_)
    ·obtain⟨s9,o9,oa,rfl⟩:=(cP _ _ _).mp h';obtain⟨oH,e,bM,rfl,ic⟩:=h5.at hy;have gw:=hV e (jj_ bM);have j4:=j3 e (jj_ bM);nofun;refine⟨by lia,by lia,?_⟩;rw[show ((xs.length:Int)).toNat=W.length by lia];obtain⟨Pf,kO⟩:∃Pe:Nat->List V->St->Hp->Prop,∀j dQ ax H',Pe j dQ ax H'↔(Same H H'/\dQ=((oW j).map fun m=>row.getD m 0*hs.W p (W.getD m []++e)).map V.int/\∃o,ax=[o,some (.ref r),some (.ref h),some (.ref oH),some (.ref ta)]):=⟨_,fun _ _ _ _=>j8_⟩;refine Hd Pf ((kO _ _ _ _).mpr ⟨s9,rfl,none,rfl⟩) s!"" (fun j us ax H4 _ h4=>?_) (fun j us ax H4 hj h4=>?_) (fun us ax H4 h4 D3 jk=>?_)
     ·obtain⟨_,rfl,_⟩:=(kO _ _ _ _).mp h4;rw[ja_,ja_,jI_];exact jh_ _
     ·obtain⟨sA,rfl,o,rfl⟩:=(kO _ _ _ _).mp h4;rw[qf_];obtain⟨t9,q1,q2⟩:=h3.2 j W[j] (by simp);have v1:=bA _ (jy_ hj);have i8:j<row.length:=by lia
      have hx:=j2 _ (jy_ i8);have p18:=ok.p18;nofun;refine⟨_,SqT.of (sA _ _ d2),_,Du s!"" (v:=row[j]) (by simp[i8]),_,sA.seqT h2,_,Cq s!"" (by rw[show ((j:Int)).toNat=j by lia];exact q1),?_⟩;refine A0.ofS (sA _ _ q2) (sA _ _ ic) (by rw[ja_,ja_];lia) fun q H6 s6 hq=>?_;rw[<-jg_]at hq;refine⟨h,q,p,L,hs.d,hs.f,hs.l,W[j]++e,hs.t,rfl,hh.mono (sA.trans s6),ok,SqT.of hq,BD v1.1 gw.1,fun H7 s7=>⟨_,rfl,_,rfl,.inl ⟨by lia,by lia⟩,(kO _ _ _ _).mpr ⟨sA.trans (s6.trans s7),?_,_,rfl⟩⟩⟩;rw[j4_,jg_,jg_,AL];simp[jc_,hj,i8,Hs.W,Hs.R]
     ·obtain⟨sA,rfl,o,rfl⟩:=(kO _ _ _ _).mp h4;have fG:((oW W.length).map fun m=>row.getD m 0*hs.W p (W.getD m []++e)).sum=dotW row (W.map fun v=>hs.W p (v++e)):=by
       unfold dotW
       congr 1
       refine qI_ (by simp[j1]) fun m a1 a2=>?_;have hm:m<W.length:=by simpa using a1
       have gh:m<row.length:=by lia
       simp[jc_,hm,gh]
      have sB:=sA.newT jk (o:=.lst (((oW W.length).map fun m=>row.getD m 0*hs.W p (W.getD m []++e)).map V.int));refine⟨D3,rfl,_,SqL.of Ab,by have:=ok.p2;lia,?_⟩;rw[fG,j4];generalize upd H4 D3 (.lst (((oW W.length).map fun m=>row.getD m 0*hs.W p (W.getD m []++e)).map V.int))=H5 at sB ⊢;refine⟨_,sB.seqT h2,_,Cq s!"" (by rw[show ((m:Int)).toNat=m by lia];exact m1),by lia,fun p5 gy=>?_⟩;have a5:=Same.new gy (o:=.tup [V.int (x:Int)]);have w12:=(bA _ (jy_ hm)).2;refine A0.ofS (a5 _ _ (sB _ _ m2)) Ab (by simp;lia) fun t6 H6 s6 ie=>?_;have a6:=a5.trans s6;rw[show [V.int (x:Int)]=[(x:Int)].map V.int from rfl,<-jg_]at ie;refine A0.ofS ie (a6 _ _ (sB _ _ ic)) (by simp;lia) fun t7 H7 s7 i7=>?_;rw[<-jg_]at i7;have sC:=sB.trans (a6.trans s7);have oI:isW L [(x:Int)]=true:=AM.mpr fun y hy=>by rw[jn_.mp hy];lia
      refine⟨h,t7,p,L,hs.d,hs.f,hs.l,W[m]++[(x:Int)]++e,hs.t,rfl,hh.mono sC,ok,SqT.of i7,BD (BD (bA _ (jy_ hm)).1 oI) gw.1,fun H8 s8=>⟨rfl,?_⟩⟩;rw[if_neg (by rw[AL];simp[Hs.W,Hs.R])];exact (cP _ _ _).mpr ⟨sC.trans s8,_,_,rfl⟩
    ·obtain⟨s9,o9,oa,rfl⟩:=(cP _ _ _).mp h';nofun;exact (mm _ _ _).mpr ⟨s9,_,_,_,_,rfl⟩
   ·obtain⟨s8,o7,o8,o9,oa,rfl⟩:=(mm _ _ _).mp h';nofun;exact (aj _ _ _).mpr ⟨s8,_,_,_,_,_,rfl⟩
  ·obtain⟨s7,o6,o7,o8,o9,oa,rfl⟩:=(aj _ _ _).mp h';nofun;exact k _ s7
def E9 : c∈nd74 L W E ↔ ∃w∈W,c=w \/ ∃e∈E,c=w++e \/ ∃x:Nat,x<L/\c=w++[(x:Int)]++e:=by
 unfold nd74;rw[Je,xj_];constructor
 ·rintro (h|⟨w,hw,h⟩)
  ·cases h
  ·refine⟨w,hw,?_⟩;rcases jE_.mp h with h|h
   ·exact .inl h
   ·unfold fE74 at h;obtain⟨e,he,h⟩:=xj_.mp h;refine .inr ⟨e,he,?_⟩;rcases jE_.mp h with h|h
    ·exact .inl h
    ·obtain⟨x,hx,rfl⟩:=jo_.mp h;exact .inr ⟨x,j3_.mp hx,rfl⟩
 ·rintro⟨w,hw,h|⟨e,he,h|⟨x,hx,h⟩⟩⟩
  ·exact .inr ⟨w,hw,jE_.mpr (.inl h)⟩
  ·exact .inr ⟨w,hw,jE_.mpr (.inr (xj_.mpr ⟨e,he,jE_.mpr (.inl h)⟩))⟩
  ·exact .inr ⟨w,hw,jE_.mpr (.inr (xj_.mpr ⟨e,he,jE_.mpr (.inr (jo_.mpr ⟨x,j3_.mpr hx,h.symm⟩))⟩))⟩
noncomputable def hd74 (hs:Hs)(p:Int)(L:Nat)(W E:α1):Bk:=(nd74 L W E).map fun w=>(w,hs.W p w)
def Ma : (hd74 hs p L W E).map (·.1)=nd74 L W E:=by
 unfold hd74;rw[jJ_];exact List.map_id' _
def We : ((hd74 hs p L W E).map (·.1)).Nodup:=by
 rw[Ma];exact Ia rF
noncomputable def Dm (hs:Hs)(p:Int)(es:Bk):Prop:=∀q∈es,q.2=hs.W p q.1
def Dm.mk {hs:Hs}{p:Int}{es:Bk}(h:Dm hs p es){w:α2}{m:Int}(e:mkO es w=some m):m=hs.W p w:=h _ (M3 e)
def C9 : Dm hs p (hd74 hs p L W E):=fun q hq=>by
 obtain⟨w,_,rfl⟩:=jo_.mp hq;rfl
def TJ (hc:c∈nd74 L W E):mkO (hd74 hs p L W E) c=some (hs.W p c):=Jc We (jo_.mpr ⟨c,hc,rfl⟩)
def Dm.row (h:Dm hs p es) (f:Ful es E u):gOf E es u=E.map fun e=>hs.W p (u++e):=by
 unfold gOf;refine jD_ fun e he=>?_;obtain⟨m,hm⟩:=qD_.mp (f e he);rw[hm];exact h.mk hm
def Dm.tab (h:Dm hs p es) (f:∀u∈W,Ful es E u):W.map (gOf E es)=tabW hs p W E:=by
 unfold tabW;exact jD_ fun u hu=>h.row (f u hu)
def W_bd {hs:Hs}{p:Int}{L:Nat}(ok:hs.ok p L)(v:α2):0<=hs.W p v/\hs.W p v<p:=by
 have:=ok.p2;exact⟨jS_ _ s!"",jM_ _ s!""⟩
def JW {L:Nat}{W E:α1}{n m:Nat}(hW:∀v∈W,isW L v=true/\v.length<=n)(hE:∀e∈E,isW L e=true/\e.length<=m){c:α2}(h:c∈nd74 L W E):isW L c=true/\c.length<=n+m+1:=by
 obtain⟨w,hw,h|⟨e,he,h|⟨x,hx,h⟩⟩⟩:=E9.mp h
 ·rw[h];exact⟨(hW w hw).1,by have:=(hW w hw).2;lia⟩
 ·rw[h];exact⟨BD (hW w hw).1 (hE e he).1,by rw[ji_];have:=(hW w hw).2;have:=(hE e he).2;lia⟩
 ·rw[h];refine⟨BD (BD (hW w hw).1 (AM.mpr fun y hy=>by rw[jn_.mp hy];lia)) (hE e he).1,?_⟩;rw[ji_,ji_,jG_];have:=(hW w hw).2;have:=(hE e he).2;lia
def R6 (hL:L<=2)(hW:W.length<=3)(hE:E.length<=3):(nd74 L W E).length<=30:=by
 unfold nd74;have h1:=A1 (W.flatMap fun w=>w::fE74 L w E) [];have h2:∀w,(fE74 L w E).length<=9:=fun w=>by
  unfold fE74;rw[xE_];have:E.map (fun e=>((w++e)::(oW L).map fun x:Nat=>w++[(x:Int)]++e).length)=E.map fun _=>L+1:=jD_ fun e _=>by simp
  rw[this,z2_,xJ_];have:=qJ_ hE (show L+1<=3 by lia);lia
 have h3:(W.flatMap fun w=>w::fE74 L w E).length<=W.length*10:=by
  clear h1 hW
  induction W with
  |nil=>simp
  |cons a W ih=>
   rw[qS,ji_,qp_,qp_,pM];have:=h2 a;lia
 rw[xv_]at h1;lia
def Yc {hs:Hs}{p:Int}{L:Nat}{W E:α1}(hp:Pr p)(p18:p<1000000000000000000)(l1:1<=L)(l2:L<=2)(hW:∀v∈W,isW L v=true/\v.length<=12)(hE:∀e∈E,isW L e=true/\e.length<=12)(hw:W.length<=3)(he:E.length<=3):Bd74 p L W E (hd74 hs p L W E) where
 pr:=hp
 p18:=p18
 l1:=l1
 l6:=by lia
 wn:=by lia
 en:=by lia
 hl:=by have:=R6 l2 hw he;unfold hd74;rw[ja_];lia
 wa:=fun v hv=>(hW v hv).2
 we:=fun v hv=>(hE v hv).2
 wh:=fun q hq=>by
  obtain⟨c,hc,rfl⟩:=jo_.mp hq;have:=(JW hW hE hc).2;show c.length<=60;lia
def UY : ∀u∈W,Ful (hd74 hs p L W E) E u:=fun u hu e he=>by
 rw[TJ (E9.mpr ⟨u,hu,.inr ⟨e,he,.inl rfl⟩⟩)];rfl
def Yv {hs:Hs}{p:Int}{L:Nat}{W E:α1}(ok:hs.ok p L)(hW:∀v∈W,isW L v=true/\v.length<=12)(hE:∀e∈E,isW L e=true/\e.length<=12)(sq:E.length=W.length)(hI:Indep p W.length (tabW hs p W E)):Cn p L W E (hd74 hs p L W E) where
 lt:=fun u hu=>by
  rw[Ma]at hu;rcases jH_.mp hu with h|h
  ·rcases jH_.mp h with h|h
   ·exact (hW u h).1
   ·exact (hE u h).1
  ·exact (JW hW hE h).1
 sq:=sq
 nd:=We
 nm:=fun q hq=>by
  rw[C9 q hq];exact W_bd ok _
 fu:=UY
 ind:=by rw[C9.tab UY];exact hI
def Wg : Full L W E (hd74 hs p L W E):=fun c hc=>by
 refine⟨hs.W p c,TJ (E9.mpr ?_)⟩;rcases jH_.mp hc with h|h
 ·exact⟨c,h,.inl rfl⟩
 ·obtain⟨r,hr,e,he,rfl⟩:=F0.mp h;rcases Hy.mp hr with hr|⟨a,ha,x,hx,rfl⟩
  ·exact⟨r,hr,.inr ⟨e,he,.inl rfl⟩⟩
  ·exact⟨a,ha,.inr ⟨e,he,.inr ⟨x,hx,rfl⟩⟩⟩
def R7 (hv:v∈W)(hx:x<L):gOf E (hd74 hs p L W E) (v++[(x:Int)])=E.map fun e=>hs.W p (v++[(x:Int)]++e):=C9.row fun e he=>by
 rw[TJ (E9.mpr ⟨v,hv,.inr ⟨e,he,.inr ⟨x,hx,rfl⟩⟩⟩)];rfl
def R8 : Dk W (hd74 hs p L W E)=W.map (hs.W p):=by
 unfold Dk;refine jD_ fun v hv=>?_;rw[TJ (E9.mpr ⟨v,hv,.inl rfl⟩)];rfl
def Yw {hs:Hs}{p:Int}{L:Nat}{W E:α1}(hp:Pr p)(c:Cn p L W E (hd74 hs p L W E)):JG74 hs p L W E (gTab p L W E (hd74 hs p L W E)) (Dk W (hd74 hs p L W E)) where
 l:=R8
 tl:=by unfold gTab;rw[ja_,jI_]
 tb:=fun tb h=>by
  obtain⟨x,_,rfl⟩:=jo_.mp h;rw[ja_]
 rw:=fun x k v row h hv=>by
  have hx:x<L:=by
   by_cases hx:x<L
   ·exact hx
   ·have ah:(gTab p L W E (hd74 hs p L W E)).length=L:=by unfold gTab;rw[ja_,jI_]
    rw[jc_,jt_ (l:=gTab p L W E (hd74 hs p L W E)) (i:=x) (by rw[ah];lia)]at h;cases h
  have e1:(gTab p L W E (hd74 hs p L W E)).getD x []=W.map fun v=>facL p (W.map (gOf E (hd74 hs p L W E))) (gOf E (hd74 hs p L W E) (v++[(x:Int)])):=by
   unfold gTab;rw[jc_,jf_,jO_ hx];rfl
  rw[e1,jf_,hv]at h;cases h;have bA:=jj_ hv;have f:=c.fac hp (row:=gOf E (hd74 hs p L W E) (v++[(x:Int)])) (by rw[EU,c.sq]);refine⟨f.1,f.2.1,fun _ e he=>?_⟩;obtain⟨i,hi⟩:=j7_.mp he;have hiW:i<W.length:=by rw[<-c.sq];exact (jd_.mp hi).1
  have h2:=f.2.2 i hiW;rw[C9.tab c.fu,OH hi,R7 bA hx]at h2;show dotW (facL p (W.map (gOf E (hd74 hs p L W E))) (gOf E (hd74 hs p L W E) (v++[(x:Int)]))) _%p=_;rw[C9.tab c.fu,R7 bA hx,<-h2,jc_,jf_,hi];exact qa_ (jS_ _ (by have:=hp.1;lia)) (jM_ _ (by have:=hp.1;lia))
def OJ (hS:Dm hs p es)(c:Cn p L W E es)(u:UndG p W E es gs):UndH p hs W E gs:=⟨u.1,fun k g hg=>by
 obtain⟨a1,a2,a3⟩:=u.2 k g hg;refine⟨a1,a2,fun i e he=>?_⟩;have hi:i<W.length:=by rw[<-c.sq];exact (jd_.mp he).1
 rw[hS.tab c.fu]at a3;have h2:(CM p (tabW hs p W E) g W.length).getD i 0=(AQ W.length k).getD i 0:=by rw[a3]
 rw[FZ hi,OH he,MZ hi]at h2;rw[h2];by_cases gW:i=k
 ·rw[if_pos gW,if_pos gW.symm]
 ·rw[if_neg gW,if_neg (q3_ gW)]⟩
def R9 (hL:0<L)(a:AccR hs p L W):W.length<=hs.d/\(∀v∈W,v.length<W.length)/\∀v,W[0]?=some v->v=[]:=by
 obtain⟨F1,aS,bJ,F2,o1,b2,hw⟩:=a;refine⟨jY_ hw o1.sz,fun v hv=>b2.shorter s!"" hv,fun v hv=>?_⟩;have iH:0<F2.length:=(jd_.mp b2.f0).1;by_cases hz:∀i:Nat,i<aS.length->(onB hs.back p L aS bJ).back.f.getD i 0%p=0
 ·rw[b2.nil0 iH hz]at hv;cases hv
 ·rw[b2.nil1 iH hz]at hv;exact (jC_ hv).symm
def P0 (hp:Pr p)(c:Cn p L W E es) (hr:row.length=W.length)(hg:g.length=W.length)(hb:∀y∈g,0<=y/\y<p)(he:∀i:Nat,i<W.length->row.getD i 0%p=dotW g (colW (W.map (gOf E es)) i)%p):facL p (W.map (gOf E es)) row=g:=by
 have f:=c.fac hp hr;refine X2 (p:=p) (c.ind.uniq (by rw[ja_];exact f.1) (by rw[ja_];exact hg) fun i hi=>?_) f.2.1 hb;rw[<-f.2.2 i hi,he i hi]
def Wi (hp:Pr p)(ok:hs.ok p L)(o1:OnB hs.back p L F1 aS bJ)(o2:OnB (onB hs.back p L aS bJ).back p L F2 W aT)(hE:∀e∈E,isW L e=true/\e.length<=12)(c:Cn p L W E (hd74 hs p L W E)):(onB (onB hs.back p L aS bJ).back p L W aT).t=gTab p L W E (hd74 hs p L W E)/\(onB (onB hs.back p L aS bJ).back p L W aT).l=Dk W (hd74 hs p L W E):=by
 obtain⟨B,hB⟩:∃B,B=(onB hs.back p L aS bJ).back:=⟨_,rfl⟩;rw[<-hB]at o2 ⊢;have bW:∀v,isW L v=true->B.W p v=hs.W p v:=fun v hv=>by rw[hB];exact byW ok o1 hv
 refine⟨?_,?_⟩
 ·show ((oW L).map fun x=>aT.map fun a=>a.getD x [])=_;unfold gTab;refine jD_ fun x hx=>?_;have hx:=j3_.mp hx;refine j2_ fun i=>?_;rw[jf_,jf_];by_cases hi:i<W.length
  ·have hia:i<aT.length:=by rw[o2.am.1];exact hi
   rw[jb_ hi,jb_ hia];obtain⟨q1,q2,q3,_⟩:=o2.good hx i (aT[i].getD x []) W[i] (by rw[jf_,jb_ hia];rfl) (jb_ hi);have hWi:=o2.wsW (jy_ hi);have oI:isW L [(x:Int)]=true:=AM.mpr fun y hy=>by rw[jn_.mp hy];lia
   show some (aT[i].getD x [])=some (facL p _ _)
   congr 1
   refine (P0 hp c (by rw[EU,c.sq]) q1 q2 fun k hk=>?_).symm;have oJ:k<E.length:=by rw[c.sq];exact hk
   have mn:=(hE E[k] (jy_ oJ)).1;rw[C9.tab c.fu,OH (jb_ oJ),R7 (jy_ hi) hx,jc_,jf_,jb_ oJ];show hs.W p (W[i]++[(x:Int)]++E[k])%p=_;rw[<-bW _ (BD (BD hWi oI) mn),show (W.map fun a=>hs.W p (a++E[k]))=W.map fun a=>B.W p (a++E[k]) from jD_ fun a ha=>(bW _ (BD (o2.wsW ha) mn)).symm,RO (es:=E) o2.ok mn q1,Hs.split o2.ok mn,jR_ _ (qn_ p),AL];exact cg.dot (LZ ((o2.ok.row _).1) fun c hc=>q3 c hc) (cg.refl p _)
  ·rw[jt_ (by rw[o2.am.1];lia),jt_ (l:=W) s!""];rfl
 ·refine Eq.trans ?_ (R8 (hs:=hs) (p:=p) (L:=L) (W:=W) (E:=E)).symm;exact jD_ fun v hv=>bW v (o2.wsW hv)
def GuT.eqS74 {K:α3} (h:GuT K H a p L t l)(g:SumH K H b p L (AQ l.length 0) t l)(n:Nat):EqD K H (n+4) (.ref a) (.ref b) true:=by
 obtain⟨tf,tt,tl,us,h1,h2,h3,h4,h5⟩:=h;obtain⟨gr,tt',tl',g1,g2,g3,vs,g4,g5,g6⟩:=g;refine EqD.all43 (.inr ⟨SqT.of h1,g1⟩) rfl fun i x y hx hy=>?_
 match i with
 |0=>simp at hx hy;subst hx hy;exact EqD.int43 _ _
 |1=>simp at hx hy;subst hx hy;exact EqD.int43 _ _
 |2=>simp at hx hy;subst hx hy;exact EqD.word43 _ (SqT.of h2) g2
 |3=>
  simp at hx hy;subst hx hy;refine EqD.all43 (.inr ⟨SqT.of h3,g4⟩) (by rw[h4.1,ja_,g5]) fun j x y hx hy=>?_;have hj:j<t.length:=by rw[<-h4.1];exact (jd_.mp hx).1
  obtain⟨u,zs,e1,e2,e3⟩:=h4.2 j t[j] (by simp[hj]);rw[hx]at e1;cases e1;have hjv:j<vs.length:=by rw[g5];exact hj
  rw[jf_,jb_ hjv]at hy;cases hy;obtain⟨dQ,f1,f2⟩:=g6 j vs[j] t[j] (by simp[hjv]) (by simp[hj]);refine EqD.all43 (.inr ⟨SqT.of e2,f1⟩) (by rw[e3.1,f2.1]) fun m x y hx hy=>?_;obtain⟨r,w,c1,rfl,c2⟩:=e3.at hx;obtain⟨r',d1,d2⟩:=f2.2 m w c1;rw[hy]at d1;cases d1;exact EqD.word43 _ (SqT.of c2) d2
 |4=>simp at hx hy;subst hx hy;exact EqD.word43 _ (SqT.of h5) g3
 |i+5=>simp at hx
def KY (h:Dm hs p es)(k:∀q∈au,q∈es):Dm hs p au:=fun q hq=>h q (k q hq)
def JX {es:Bk}{w:α2}:(mkO es w).isSome=true↔w∈es.map (·.1):=by
 unfold mkO;rw[wd_,List.find?_isSome];constructor
 ·rintro⟨q,hq,e⟩;exact jo_.mpr ⟨q,hq,qU_ e⟩
 ·intro h;obtain⟨q,hq,e⟩:=jo_.mp h;exact⟨q,hq,jZ_ e⟩
def TL (ok:hs.ok p L)(hS:Dm hs p es)(c:Cn p L W E es)(h1:au.Sublist es)(hW:∀u∈W',u∈W)(hl:W'.length=W.length)(hI:Indep p W.length (tabW hs p W E)->Indep p W'.length (tabW hs p W' E))(hf:∀u∈W',∀e∈E,u++e∈au.map (·.1)):Cn p L W' E au:=by
 have cT:=KY hS (fun q hq=>h1.subset hq);have hF:∀u∈W',Ful au E u:=fun u hu e he=>JX.mpr (hf u hu e he);refine⟨fun u hu=>?_,by rw[hl];exact c.sq,?_,fun q hq=>c.nm q (h1.subset hq),hF,?_⟩
 ·rcases jH_.mp hu with h|h
  ·rcases jH_.mp h with h|h
   ·exact c.lt u (jQ_ _ (jQ_ _ (hW u h)))
   ·exact c.lt u (jQ_ _ (jV_ _ h))
  ·exact c.lt u (jV_ _ ((h1.map _).subset h))
 ·exact c.nd.sublist (h1.map _)
 ·rw[cT.tab hF];exact hI (by rw[<-hS.tab c.fu];exact c.ind)
def P4 (h:Indep p (a::b::r).length (tabW hs p (a::b::r) E)):Indep p (b::a::r).length (tabW hs p (b::a::r) E):=fun cs hc hz=>by
 match cs,hc with
 |x::y::cs,hc=>
  have h2:=h (y::x::cs) (by simp only[tabW,ja_,qp_]at hc ⊢;exact hc) fun i hi=>by
   have:=hz i hi;unfold tabW colW dotW at this ⊢;simp only[j6_,pR,sS]at this ⊢;refine Eq.trans ?_ this
   congr 1
   exact Int.add_left_comm _ _ _
  intro z eA;refine h2 z ?_;rcases jE_.mp eA with e|eA
  ·rw[e];simp
  ·rcases jE_.mp eA with e|eA
   ·rw[e];simp
   ·simp[eA]
def JY (hp:2<=p) (h:Indep p m R):R.Nodup:=by
 refine x5_.mpr fun i j hi0 hj lq e=>?_;have h2:Indep p m (R.take j++[R[j]]):=by
  have e2:R=R.take j++[R[j]]++R.drop (j+1):=by simp
  rw[e2]at h;exact h.left
 refine h2.not hp ⟨AQ (R.take j).length i,by unfold AQ;simp,fun c _=>?_⟩;have hi:i<(R.take j).length:=by rw[jz_];lia
 rw[JQ (by unfold colW;rw[ja_])];unfold colW;rw[jc_ (l:=qg _ _),jf_,pF lq,jb_ hi0,e];rfl
def Cn.stand (c:Cn p L W E es) (hw:av=0\/av=7\/av=8):JV av W E es:=⟨hw,c.sq.symm,fun u hu e he=>JX.mp (c.fu u hu e he)⟩
def Sa (h:c∈nd74 L W E):c∈need L W E:=by
 obtain⟨w,hw,h|⟨e,he,h|⟨x,hx,h⟩⟩⟩:=E9.mp h
 ·rw[h];exact jQ_ _ hw
 ·rw[h];exact jV_ _ (F0.mpr ⟨w,Hy.mpr (.inl hw),e,he,rfl⟩)
 ·rw[h];exact UX hw hx he
structure Bad74 (hs:Hs)(av p:Int)(L:Nat)(W E W' E':α1)(au:Bk):Prop where
 nj:¬ Jd p L W' E' au
 st:JV av W' E' au->Cn p L W' E' au/\W'.length=W.length/\Dm hs p au/\(∀u∈W',u∈W)/\E'=E
 ns:¬ JV av W' E' au->¬ Cn p L W' E' au
def GA (nc:¬ Cn p L W' E' au)(ns:¬ JV av W' E' au):Bad74 hs av p L W E W' E' au:=⟨fun j=>nc j.cn,fun z=>absurd z ns,fun _=>nc⟩
def JZ (ok:hs.ok p L)(hS:Dm hs p es)(c:Cn p L W E es)(hw:av=0\/av=7\/av=8)(h1:au.Sublist es)(hW:∀u∈W',u∈W)(hl:W'.length=W.length)(hI:Indep p W.length (tabW hs p W E)->Indep p W'.length (tabW hs p W' E))(nj:¬ Jd p L W' E au):Bad74 hs av p L W E W' E au :=
 ⟨nj,fun z=>⟨TL ok hS c h1 hW hl hI z.2.2,hl,KY hS fun q hq=>h1.subset hq,hW,rfl⟩,fun z x=>z (x.stand hw)⟩
def Yx (hp:Pr p)(ok:hs.ok p L)(c:Cn p L W E (hd74 hs p L W E))(w0:∀v,W[0]?=some v->v=[])(sp:Sp74 av p L W E (hd74 hs p L W E) W' E' au):Bad74 hs av p L W E W' E' au:=by
 have nd:=We (hs:=hs) (p:=p) (L:=L) (W:=W) (E:=E);rcases sp with ⟨rfl,rfl,rfl,i,hi,rfl⟩|⟨rfl,rfl,rfl,q,hq,rfl⟩|⟨rfl,rfl,hE,rfl,rfl⟩|⟨rfl,⟨w,hw,rfl⟩,rfl,rfl⟩|⟨rfl,⟨a,b,r,rfl,rfl⟩,rfl,rfl⟩|⟨rfl,rfl,i,q,w',m',hi,od,rfl⟩|⟨rfl,rfl,rfl,w,hw,rfl⟩|⟨rfl,rfl,rfl⟩
 ·refine JZ ok C9 c (.inl rfl) (zG_ ..) (fun u hu=>hu) rfl (fun h=>h) fun j=>?_;obtain⟨q,hq⟩:∃q,q=(hd74 hs p L W' E')[i]:=⟨_,rfl⟩;have dU:q.1∈nd74 L W' E':=by
   rw[<-Ma (hs:=hs) (p:=p),hq];exact qT_ (jy_ hi)
  obtain⟨m,hm⟩:=j.fu q.1 (Sa dU);have h2:q.1∈((hd74 hs p L W' E').eraseIdx i).map (·.1):=JX.mp (by rw[hm];rfl);rw[xA_,jg_,zP_,sR,<-xA_,List.mem_eraseIdx_iff_getElem?]at h2;obtain⟨k,hki,hk⟩:=h2;have cU:k<((hd74 hs p L W' E').map (·.1)).length:=(jd_.mp hk).1;refine hki ((List.getElem?_inj cU nd).mp ?_);rw[hk,jf_,jb_ hi,hq];rfl
 ·refine GA (fun z=>?_) (fun z=>by rcases z.1 with h|h|h<;>cases h);have:=z.nd;rw[jg_,xX_]at this;exact this.2.2 q.1 (qT_ hq) q.1 (by simp) rfl
 ·refine GA (fun z=>?_) (fun z=>by rcases z.1 with h|h|h<;>cases h);have h1:=z.sq;have h2:=c.sq;have:0<E.length:=List.length_pos_iff.mpr hE;rw[qw_]at h1;lia
 ·refine GA (fun z=>?_) (fun z=>by rcases z.1 with h|h|h<;>cases h);have:=JY hp.1 z.ind;rw[jg_,xX_]at this;exact this.2.2 _ (qT_ hw) _ (by simp) rfl
 ·refine JZ ok C9 c (.inr (.inl rfl)) (List.Sublist.refl _) (fun u hu=>?_) rfl P4 fun j=>?_
  ·rcases jE_.mp hu with e|hu
   ·rw[e];simp
   ·rcases jE_.mp hu with e|hu
    ·rw[e];simp
    ·simp[hu]
  ·have ea:=w0 a rfl;have eb:=j.w0 b rfl;have:=JY hp.1 c.ind;rw[ea,eb]at this;simp at this
 ·have aQ:i<(hd74 hs p L W' E').length:=(jd_.mp hi).1;have cJ:(w',m')∈(hd74 hs p L W' E').set i (w',m'):=jj_ (q2_ aQ);refine GA (fun z=>?_) (fun z=>?_)
  ·rcases od with ⟨_,_,h,_⟩|⟨_,_,h⟩
   ·have:=z.lt w' (jV_ _ (qT_ cJ));rw[this]at h;cases h
   ·exact h (z.nm _ cJ)
  ·rcases od with ⟨rfl,_⟩|⟨rfl,_⟩<;>(rcases z.1 with h|h|h<;>cases h)
 ·refine JZ ok C9 c (.inr (.inr rfl)) List.filter_sublist (fun u hu=>hu) rfl (fun h=>h) fun j=>?_;obtain⟨m,hm⟩:=j.fu w (jQ_ _ hw);have h2:=M3 hm;have:=(zR_.mp h2).2;simp at this
 ·refine GA (fun z=>?_) (fun z=>?_)
  ·have h1:=z.sq;have h2:=c.sq;rw[ji_,jG_]at h1;lia
  ·have h1:=z.2.1;have h2:=c.sq;rw[ji_,jG_]at h1;lia
def TM {hs:Hs}{av p:Int}{L:Nat}{W E W' E':α1}{au:Bk}(hp:Pr p)(p18:p<1000000000000000000)(l1:1<=L)(l2:L<=2)(hW:∀v∈W,isW L v=true/\v.length<=12)(hE:∀e∈E,isW L e=true/\e.length<=12)(hw:W.length<=3)(he:E.length<=3)(sp:Sp74 av p L W E (hd74 hs p L W E) W' E' au):Bd74 p L W' E' au:=by
 have B:=Yc (hs:=hs) hp p18 l1 l2 hW hE hw he;have hl:(hd74 hs p L W E).length<=30:=by have:=R6 l2 hw he;unfold hd74;rw[ja_];exact this
 have h25:∀q∈hd74 hs p L W E,q.1.length<=50:=fun q hq=>by
  obtain⟨c,hc,rfl⟩:=jo_.mp hq;have:=(JW hW hE hc).2;show c.length<=50;lia
 have mk:∀{W' E':α1} {au:Bk},W'.length<=6->E'.length<=6->au.length<=100->(∀w∈W',w.length<=12)->(∀w∈E',w.length<=12)->(∀q∈au,q.1.length<=60)->Bd74 p L W' E' au:=fun a b c d e f=>⟨hp,p18,l1,B.l6,a,b,c,d,e,f⟩;rcases sp with ⟨rfl,rfl,rfl,i,hi,rfl⟩|⟨rfl,rfl,rfl,q,hq,rfl⟩|⟨rfl,rfl,hE,rfl,rfl⟩|⟨rfl,⟨w,hw',rfl⟩,rfl,rfl⟩|⟨rfl,⟨a,b,r,rfl,rfl⟩,rfl,rfl⟩|⟨rfl,rfl,i,q,w',m',hi,od,rfl⟩|⟨rfl,rfl,rfl,w,hw',rfl⟩|⟨rfl,rfl,rfl⟩
 ·exact mk B.wn B.en (jY_ (zG_ ..).length_le B.hl) B.wa B.we fun q hq=>B.wh q ((zG_ ..).subset hq)
 ·exact mk B.wn B.en (by rw[ji_,jG_];lia) B.wa B.we fun q' cD=>by
   rcases jH_.mp cD with h|h
   ·exact B.wh q' h
   ·rw[jn_.mp h];exact B.wh q hq
 ·exact mk B.wn (by rw[qw_];lia) B.hl B.wa (fun w hw=>B.we w (List.mem_of_mem_drop hw)) B.wh
 ·refine mk (by rw[ji_,jG_];lia) (by rw[ji_,jG_];lia) B.hl (fun u hu=>?_) (fun u hu=>?_) B.wh
  ·rcases jH_.mp hu with h|h
   ·exact B.wa u h
   ·rw[jn_.mp h];exact B.wa w hw'
  ·rcases jH_.mp hu with h|h
   ·exact B.we u h
   ·rw[jn_.mp h];simp
 ·refine mk B.wn B.en B.hl (fun u hu=>?_) B.we B.wh;rcases jE_.mp hu with e|hu
  ·exact B.wa u (by rw[e];simp)
  ·rcases jE_.mp hu with e|hu
   ·exact B.wa u (by rw[e];simp)
   ·exact B.wa u (by simp[hu])
 ·refine mk B.wn B.en (by rw[zT_];lia) B.wa B.we fun q' cD=>?_;rcases List.mem_or_eq_of_mem_set cD with h|h
  ·exact B.wh q' h
  ·rw[h];have hq:=h25 q (jj_ hi);rcases od with ⟨_,_,_,h⟩|⟨_,h,_⟩
   ·show w'.length<=60;lia
   ·show w'.length<=60;rw[h];lia
 ·exact mk B.wn B.en (jY_ (zF_ _ _) B.hl) B.wa B.we fun q hq=>B.wh q (zR_.mp hq).1
 ·refine mk B.wn (by rw[ji_,jG_];lia) B.hl B.wa (fun u hu=>?_) B.wh;rcases jH_.mp hu with h|h
  ·exact B.we u h
  ·rw[jn_.mp h];simp
def AR.eqT74 {K:α3} (ha:SqT K H a xs)(hb:SqT K H b ys)(h:AR K H xs ws)(g:AR K H ys dC)(n:Nat):EqD K H (n+2) (.ref a) (.ref b) (decide (ws=dC)):=by
 refine .inr ⟨a,b,_,_,rfl,rfl,.inr ⟨ha,hb⟩,fun i=>decide (ws[i]?=dC[i]?),fun i x y hx hy=>?_,?_⟩
 ·have l1:i<ws.length:=by rw[<-h.1];exact (jd_.mp hx).1
  have l2:i<dC.length:=by rw[<-g.1];exact (jd_.mp hy).1
  have e1:ws[i]?=some ws[i]:=by simp[l1]
  have e2:dC[i]?=some dC[i]:=by simp[l2]
  obtain⟨t,t1,t2⟩:=h.2 i _ e1;obtain⟨t',t1',t2'⟩:=g.2 i _ e2;rw[hx]at t1;rw[hy]at t1';cases t1;cases t1';have:=EqD.ints (.inr ⟨t2,t2'⟩) n;have e:decide (ws[i]?=dC[i]?)=decide (ws[i]=dC[i]):=by rw[e1,e2];simp
  show EqD K H (n+1) (V.ref t) (V.ref t') (decide (ws[i]?=dC[i]?));rw[e];exact this
 ·rw[h.1,g.1,qx_];simp only[j5_,qo_,qP_,j3_];constructor
  ·rintro rfl;exact⟨rfl,fun i hi=>rfl⟩
  ·rintro⟨hl,hh⟩;refine j2_ fun i=>?_;by_cases hi:i<ws.length
   ·exact hh i s!""
   ·rw[jt_ s!"",jt_ s!""]
noncomputable def TN (K:α3):Sp:=fun vs H Q _=>∃(a:Addr) (ns:α2),vs=[.ref a]/\SqL K H a (ns.map V.int)/\ns.length<=63/\∀H',Q (.bl true) H'
def Yd:⋯ EE.j64 12 ["script"] (TN K):=by
 delta EE.j64 DX
 ·obtain⟨a,ns,rfl,_⟩:=h;rfl
 ·obtain⟨a,ns,rfl,hs,hz,k⟩:=h;have hl:=An;refine⟨_,(Ad (Ak (i:=1) DX.nd (Ag (L7 EE) hr.d Aw (Aa (Ag (Bn EE) hr.d Aw (Aa (pvD 0) (Aa Ae Ac))) Ac)))
   (BB (Ak (i:=2) DX.nd (As (opD0 Cp) Ae (As (opD AS) (Ag (Bn EE) hr.d Aw (Aa (pvD 0) (Aa Ae Ac))) Ae)))
   (Ad (BS (i:=3) DX.nd rfl (ph rfl) (Ag (L9 EE) hr.d Aw (Aa (pvD 0) (Aa Ae (Aa (pvD 1) (Aa (pvD 2) (Aa (As (opD AS) (Ag (Bn EE) hr.d Aw (Aa (pvD 0) (Aa Ae Ac))) Ae) Ac)))))))
   (BB (Ak (i:=4) DX.nd (Ag (L3 EE) hr.d Aw (Aa (pvD 3) Ac)))
   (Ad (Ak (i:=5) DX.nd (Ar Av rfl EE.tuple jw_ (Aa (Aj (ixTD Ao) (pvD 4) Ae) Ac)))
   (BB (Ak (i:=6) DX.nd (Ag (Kq EE) hr.d Aw (Aa (pvD 3) (Aa (Ar Av rfl EE.tuple jw_ (Aa (Aj (ixTD Ao) (pvD 4) Ae) Ac)) (Aa (pvD 5) (Aa (As (opD AS) (As (opD C3) (Ag (Bn EE) hr.d Aw (Aa (pvD 0) (Aa Ae Ac))) Ae) (As (opD N7) Ae Ae)) Ac))))))
   (BB (BJ (i:=7) DX.nd rfl rfl rfl (Ay rfl) (cp:=Rx) ⟨⟨rfl,rfl⟩,oX⟩ (Ba (Ag (Kp EE) hr.d Aw (Aa (pvD 2) (Aa (pvD 6) (Aa (pvD 5) Ac))))) (fun _ _ _ _=>(Al (i:=0) Pl rfl (oY rfl))) (fun _ _ _ _=>AJ) (fun _ _ _ _=>(AW (Aa (pvD 0) (Aa (Ag (Bv EE) hr.d Aw (Aa (pvD 1) (Aa (pvD 0) Ac))) Ac)))))
   (Ad (Ak (i:=8) DX.nd (AW (Aa (pvD 1) (Aa (pvD 2) (Aa (pvD 6) (Aa (pvD 5) (Aa (Ar HK rfl EE.tuple jw_ (Aa (pvD 7) Ac)) Ac)))))))
   (BB (Ak (i:=9) DX.nd (Ag (BQ EE) hr.d (Lo (P:=P) (w:=w)) (Aa (pvD 8) Ac)))
   (Jm (A5 (ptT (Ax (WW 8 (hu9 hr)) (pvD 6) (Ar Av rfl EE.tuple jw_ (Aa (Aj (ixTD Ao) (pvD 4) Ae) Ac)) (AB _)))
   (Af (A5 (ptT (Ax (Oi 8 (hu9 hr)) (pvD 9) (Ag (Gw EE) hr.d Aw (Aa (pvD 3) Ac)) (AB _)))
   (Af (Ap Bo))
   AE))
   (Af (A5 (Cb (ptB (BH (Ag (F6 EE) hr.d Aw (Aa (pvD 3) (Aa (pvD 6) (Aa (pvD 5) (Aa (pvD 9) Ac))))))))
   (Af (Ap Bo))
   AE)))
   (BB (A5 (Cb (ptB (BH (Ag (DZ EE) hr.d Aw (Aa (pvD 8) (Aa (Am (lenD Ai) (by rfl) EE.len jF_ (Aa (pvD 6) Ac)) Ac))))))
   (Af (Ap Bo))
   AE)
   (BB (A5 (Cb (ptB (BH (Ag (Fv EE) hr.d Aw (Aa (pvD 1) (Aa (pvD 3) (Aa (pvD 6) (Aa (pvD 5) (Aa (Ag (Bu EE) hr.d (Lo (P:=P) (w:=w)) (Aa (pvD 8) Ac)) Ac)))))))))
   (Af (Ap Bo))
   AE)
   (Ad (Ak (i:=10) DX.nd (As (opD AS) (Ag (Bn EE) hr.d Aw (Aa (pvD 0) (Aa Ae Ac))) Ae))
   (BB (Ak (i:=11) DX.nd (Ag (JU EE) hr.d Aw (Aa (pvD 8) (Aa (pvD 10) (Aa (As (opD AS) (Ag (Bn EE) hr.d Aw (Aa (pvD 0) (Aa Ae Ac))) (As (opD N7) Ae Ae)) Ac)))))
   (BB (A5 (PW.pt (G4 (Cb (ptB (BH (Ag (CP EE) hr.d Aw (Aa (Ef (v:=.ref (fA 34)) rfl EE.j34.m rfl) (Aa (pvD 11) Ac)))))) (DS (Cb (ptB (BH (Ag (Be EE) hr.d Aw (Aa (Ef (v:=.ref (fA 34)) rfl EE.j34.m rfl) (Aa (pvD 11) Ac)))))))))
   (Af (Ap Bo))
   AE)
   (BB (A5 (ptB (BH (Ag (Gz EE) hr.d Aw (Aa (pvD 11) (Aa (pvD 10) Ac)))))
   (Af (Ap (Kt (Ag (DZ EE) hr.d Aw (Aa (pvD 11) (Aa (Am (lenD Ai) (by rfl) EE.len jF_ (Aa (pvD 6) Ac)) Ac))) (Mc (Ag (Fv EE) hr.d Aw (Aa (pvD 1) (Aa (pvD 3) (Aa (Aj (ixTD Ao) (pvD 11) Ae) (Aa (Aj (ixTD Ao) (pvD 11) Ae) (Aa (Ag (Bu EE) hr.d (Lo (P:=P) (w:=w)) (Aa (pvD 11) Ac)) Ac))))))))))
   AE)
   (BB (A5 (PW.pt (G4 (Cb (ptB (BH (Ag (CP EE) hr.d Aw (Aa (Ef (v:=.ref (fA 32)) rfl EE.j32.m rfl) (Aa (pvD 11) Ac)))))) (DS (Cb (ptB (BH (Ag (CP EE) hr.d Aw (Aa (Ef (v:=.ref (fA 33)) rfl EE.j33.m rfl) (Aa (pvD 11) Ac)))))))))
   (Af (Ap Bo))
   AE)
   (Af (Ap (Kt (Ag (Be EE) hr.d Aw (Aa (Ef (v:=.ref (fA 32)) rfl EE.j32.m rfl) (Aa (pvD 11) Ac))) (Mc (Ag (Be EE) hr.d Aw (Aa (Ef (v:=.ref (fA 33)) rfl EE.j33.m rfl) (Aa (pvD 11) Ac)))))))))))))))))))))))),?_⟩
  nofun;refine⟨a,ns,0,rfl,hs,_,rfl,fun p H1 s1 hp=>?_⟩;have aR:=hp.1;have bj:=hp.2.1;refine⟨a,ns,1,rfl,s1.seq hs,_,rfl,by decide,?_⟩;obtain⟨L,hL,gZ,oM⟩:∃L:Nat,1+cell ns 1%2=(L:Int)/\1<=L/\L<=2:=⟨(1+cell ns 1%2).toNat,by lia,by lia,by lia⟩;rw[hL];refine AY ?_;nofun;obtain⟨n,hn,ot⟩:∃n:Nat,cell ns 2%4=(n:Int)/\n<4:=⟨(cell ns 2%4).toNat,by lia,by lia⟩;refine⟨a,ns,2,rfl,s1.seq hs,_,rfl,by decide,a,ns,5,p,L,n,by rw[hn],s1.seq hs,by lia,by lia,aR,bj,gZ,by lia,by lia,fun h f0 l0 t0 H2 s2 hh0 ok0 _=>?_⟩;obtain⟨hv,oN⟩:∃hv:Hs,hv=⟨n,f0,t0,l0⟩:=⟨_,rfl⟩;have hh:Fe K H2 h p L hv:=by rw[oN];exact hh0
  have ok:hv.ok p L:=by rw[oN];exact ok0
  have l4:hv.d<=3:=by rw[oN];show n<=3;lia
  clear hh0 ok0;have p18:=ok.p18;have s02:=s1.trans s2;nofun;refine⟨h,p,L,hv,rfl,hp,hh,ok,gZ,by lia,by lia,fun q la le lu zs ys us W0 E gs H3 s3 hq lP hW0 cG hE _ _ _ ja=>?_⟩;obtain⟨eC,hws,fJ⟩:=R9 s!"" ja.acc;have hw3:W0.length<=3:=by lia
  have cA:=ja.len;have gC:∀v∈W0,isW L v=true/\v.length<=12:=fun v hv=>⟨(ja.wW v hv).1,by have:=hws v hv;lia⟩;have fm:∀e∈E,isW L e=true/\e.length<=12:=fun e he=>⟨(ja.eW e he).1,by have:=(ja.eW e he).2;lia⟩;have dD:=s02.trans s3;refine AY ?_;nofun;refine⟨_,hq,_,rfl,le,rfl,ys,.inl ⟨SqL.of cG,fun te ic=>?_⟩⟩;have s4:=Same.new ic (o:=.tup ys);have oO:upd H3 te (.tup ys) te=some (.tup ys):=Ab;generalize upd H3 te (.tup ys)=H4 at s4 oO ⊢;have cR:=dD.trans s4;have hE4:=hE.mono (TK.of s4);refine⟨_,s4.seqT hq,_,rfl,la,rfl,zs,.inl ⟨SqL.of (s4 _ _ lP),fun mq hta0=>?_⟩⟩;have s5:=Same.new hta0 (o:=.tup zs);have uta:upd H4 mq (.tup zs) mq=some (.tup zs):=Ab;generalize upd H4 mq (.tup zs)=H5 at s5 uta ⊢;have bN:=cR.trans s5;have kM:CPow 10 18:=⟨by decide,by decide,by decide⟩;have mv:(10:Int) ^ um 18=1000000000000000000:=by decide
  refine⟨a,ns,1,rfl,bN.seq hs,_,rfl,⟨by decide,by decide⟩,kM,by rw[mv];decide,?_⟩;rw[mv];have b0:=jS_ (cell ns 1 / 2) (show (1000000000000000000:Int)≠0 by decide);have b1:=jM_ (cell ns 1 / 2) (show (0:Int)<1000000000000000000 by decide);refine⟨h,mq,te,p,_,L,hv,zs,ys,W0,E,rfl,hp,hh.mono (s3.trans (s4.trans s5)),ok,gZ,by lia,SqT.of uta,hW0.mono (TK.of (s4.trans s5)),SqT.of (s5 _ _ oO),hE4.mono (TK.of s5),gC,fm,by lia,cA,b0,b1,fun ta xs W H6 s6 oP hW bY=>?_⟩;have lK:W.length=W0.length:=by
   rcases bY with e|⟨w0,w1,wr,wd,e1,e2,_⟩
   ·rw[e]
   ·rw[e1,e2];rfl
  have gD:∀v∈W,isW L v=true/\v.length<=12:=by
   rcases bY with e|⟨w0,w1,wr,wd,e1,e2,e3,e4,_⟩
   ·rw[e];exact gC
   ·intro v hv;rw[e2]at hv;rcases jE_.mp hv with z|hv
    ·rw[z];exact gC _ (by rw[e1];simp)
    ·rcases jE_.mp hv with z|hv
     ·rw[z];exact⟨e3,e4⟩
     ·exact gC _ (by rw[e1];simp[hv])
  have hwz:∀v,W[0]?=some v->v=[]:=by
   rcases bY with e|⟨w0,w1,wr,wd,e1,e2,_⟩
   ·rw[e];exact fJ
   ·intro v hv;rw[e2]at hv;exact fJ v (by rw[e1];exact hv)
  have hI:Indep p W.length (tabW hv p W E):=by
   rcases bY with e|⟨w0,w1,wr,wd,e1,e2,_,_,_,e6⟩
   ·rw[e];exact ja.ind
   ·exact e6
  have mj:W0≠W->∃w1 wr,W0=[]::w1::wr/\2<=W.length:=fun z=>by
   rcases bY with e|⟨w0,w1,wr,wd,e1,e2,_⟩
   ·exact absurd e.symm z
   ·exact⟨w1,wr,by rw[e1,fJ w0 (by rw[e1];rfl)],by rw[lK,e1];simp⟩
  have jb:E.length=W.length:=by rw[lK];exact cA
  have jc:W.length<=3:=by lia
  have je:E.length<=3:=by lia
  have c:=Yv (hs:=hv) (p:=p) ok gD fm jb hI;have B:=Yc (hs:=hv) hp p18 gZ oM gD fm jc je;have jd:Jd p L W E (hd74 hv p L W E):=⟨c,hwz,Wg⟩;have cQ:=bN.trans s6;have s26:=s3.trans (s4.trans (s5.trans s6));have jf:=(s5.trans s6) _ _ oO;have oQ:=hE4.mono (TK.of (s5.trans s6));have hh6:=hh.mono s26;clear bY b0 b1;refine AY ?_;nofun;refine⟨L,ta,te,xs,ys,W,E,rfl,by lia,oP,hW,by lia,fun w hw=>(gD w hw).2,SqT.of jf,oQ,by lia,fun w hw=>(fm w hw).2,fun ln rs H7 s7 bS ar hR=>?_⟩;refine⟨ln,rfl,⟨_,SqL.of bS⟩,?_⟩;have eE:=cQ.trans s7;have hnl:=R6 oM jc je;refine Fb (xs:=rs) (fun i us af H'=>Same H7 H'/\BG H' us ((hd74 hv p L W E).take i)/\∃o,af=[o,some (.ref h)]) ⟨Same.refl _,⟨rfl,fun i q z=>by simp at z⟩,none,rfl⟩ s!"" (fun i us af H' hi h'=>⟨SqL.of (h'.1 _ _ bS),by rw[h'.2.1.1,jz_];lia⟩) (fun i x us af H' hx h'=>?_) (fun us af H8 h' D hD=>?_)
  ·obtain⟨s8,hT,o,rfl⟩:=h';obtain⟨t,w,cu,rfl,ht⟩:=hR.at hx;have hww:=JW gD fm (jj_ cu);nofun;refine⟨h,t,p,L,hv.d,hv.f,hv.l,w,hv.t,rfl,hh6.mono (s7.trans s8),ok,SqT.of (s8 _ _ ht),hww.1,fun H9 s9=>⟨by lia,fun pt lM=>?_⟩⟩;have cq:=s9.newT lM (o:=.tup [V.ref t,V.int (dotW (rowS p hv.d hv.t hv.f w) hv.l%p)]);refine⟨s8.trans cq,?_,_,rfl⟩;have e1:(hd74 hv p L W E).take (i+1)=(hd74 hv p L W E).take i++[(w,hv.W p w)]:=by
    rw[jB_];unfold hd74;rw[jf_,cu];rfl
   rw[e1];exact (hT.mono (TK.of cq)).snoc74 (by rw[Ab,AL];rfl) (cq _ _ (s8 _ _ ht))
  obtain⟨s8,hT,o,rfl⟩:=h';have aZ:rs.length=(hd74 hv p L W E).length:=by rw[hR.1];unfold hd74;rw[ja_]
  rw[aZ,jr_]at hT;have s9:=s8.newT hD (o:=.lst us);have uD:upd H8 D (.lst us) D=some (.lst us):=Ab;have jG:=hT.mono (TK.new hD (o:=.lst us));generalize upd H8 D (.lst us)=H9 at s9 uD jG ⊢;have s69:=s7.trans s9;refine AY ?_;nofun;refine⟨_,SqL.of uD,fun th oh fO c8=>⟨by lia,fun tp mH=>?_⟩⟩;have t1:=Same.new fO (o:=.frz oh (.tup us));have t2:=Same.new mH (o:=.tup [V.int p,V.int (L:Int),V.ref ta,V.ref te,V.ref th]);have fj:=t1.trans t2;have utp:upd (upd H9 th (.frz oh (.tup us))) tp (.tup [V.int p,V.int (L:Int),V.ref ta,V.ref te,V.ref th]) tp=some (.tup [V.int p,V.int (L:Int),V.ref ta,V.ref te,V.ref th]):=Ab;have uth:=t2 _ _ (Ab (H:=H9) (a:=th) (o:=.frz oh (.tup us)));generalize upd (upd H9 th (.frz oh (.tup us))) tp (.tup [V.int p,V.int (L:Int),V.ref ta,V.ref te,V.ref th])=HA at fj utp uth ⊢;have eG:=s69.trans fj;have hP:SPp K HA tp p L W E (hd74 hv p L W E):=⟨ta,te,th,oh,xs,ys,us,utp,eG.seqT oP,hW.mono (TK.of eG),SqT.of (eG _ _ jf),oQ.mono (TK.of eG),uth,c8,jG.mono (TK.of fj)⟩;have s0A:=cQ.trans eG;have mw:=hh6.mono eG;have fo:=eG.seqT oP;have kP:=hW.mono (TK.of eG);have hteA:=eG _ _ jf;have hEA:=oQ.mono (TK.of eG);have oR:=(s4.trans (s5.trans s6)).trans eG;have hqA:=oR.seqT hq;have hlaA:=oR _ _ lP;have hW0A:=hW0.mono (TK.of oR);clear t1 t2 fj s69 s9 s8 s7 eG jG hT;refine⟨tp,p,L,W,E,hd74 hv p L W E,rfl,hP,B,fun tf HB sB _ hG=>?_,fun HB sB z=>absurd jd z⟩;refine AY ?_;have s0B:=s0A.trans sB;refine⟨fun af H'=>Same HB H'/\af=[some (.ref a),some (.int p),some (.int L),some (.ref h),some (.ref q),some (.ref te),some (.ref ta),some (.ref D),some (.ref tp),some (.ref tf),none,none],?_,fun aJ H3 h3=>?_⟩
  ·nofun;refine⟨_,sB.seqT hqA,_,rfl,la,rfl,zs,.inl ⟨SqL.of (sB _ _ hlaA),fun t9 ht9=>?_⟩⟩;have s9:=Same.new ht9 (o:=.tup zs);have u9:upd HB t9 (.tup zs) t9=some (.tup zs):=Ab;generalize upd HB t9 (.tup zs)=HC at s9 u9 ⊢;have gE:=sB.trans s9;refine⟨_,AR.eqT74 (gE.seqT fo) (SqT.of u9) (Aq.rowsN (kP.mono (TK.of gE))) (Aq.rowsN (hW0A.mono (TK.of gE))) 6,?_⟩;by_cases mx:W=W0
   ·rw[jZ_ mx,if_pos rfl];subst mx;refine⟨h,p,L,hv,rfl,hp,mw.mono gE,ok,by lia,by lia,fun m F1 aS bJ F2 aE aT HD sD o1 o2 hm=>?_⟩;obtain⟨G1,vs1,bm1,G2,q1,q2,_⟩:=ja.acc;obtain⟨rfl,rfl⟩:=OnB.uniq s!"" o1 q1;obtain rfl:W=aE:=BW.uniq s!"" q2 o2.bw;obtain⟨z1,z2⟩:=Wi hp ok o1 o2 fm c;have gh:SumH K HD m p L (AQ (Dk W (hd74 hv p L W E)).length 0) (gTab p L W E (hd74 hv p L W E)) (Dk W (hd74 hv p L W E)):=by
     rw[<-z1,<-z2,show (onB (onB hv.back p L aS bJ).back p L W aT).l.length=W.length from ja_ _];exact hm
    refine⟨m,rfl,true,GuT.eqS74 (hG.mono (TK.of (s9.trans sD))) gh 4,?_⟩;rw[if_neg (by decide)];exact s9.trans sD
   ·rw[jX_ mx,if_neg (by decide)];obtain⟨w1,wr,_,kK⟩:=mj (q3_ mx);refine⟨h,ta,te,tf,p,L,hv,xs,ys,W,E,_,_,rfl,mw.mono gE,ok,gZ,by lia,gE.seqT fo,kP.mono (TK.of gE),SqT.of (gE _ _ hteA),hEA.mono (TK.of gE),gD,fm,by lia,by lia,hG.mono (TK.of s9),Yw hp c,fun HD sD=>⟨true,rfl,?_⟩⟩;rw[if_neg (by decide)];exact s9.trans sD
  obtain⟨s3,rfl⟩:=h3;have oS:=sB.trans s3;nofun;refine⟨_,.inr (oS.seqT fo),?_⟩;refine⟨tp,p,L,W.length,W,E,hd74 hv p L W E,by rw[kP.1],hP.mono oS,B,c,rfl,fun H4 s4=>⟨true,rfl,?_⟩⟩;rw[if_neg (by decide)];have sA4:=oS.trans s4;refine AY ?_;nofun;refine⟨tp,p,L,W,E,hd74 hv p L W E,rfl,hP.mono sA4,B,fun lu zu gs H5 s5 _ hlu hZ hU=>?_,fun HB sB z=>absurd c z⟩;have jN:=sA4.trans s5;refine⟨p,h,ta,te,lu,L,hv,xs,ys,zu,W,E,gs,rfl,mw.mono jN,ok,jN.seqT fo,kP.mono (TK.of jN),SqT.of (jN _ _ hteA),hEA.mono (TK.of jN),gD,fm,by lia,jb,hlu,hZ,OJ C9 c hU,fun H6 s6=>⟨true,rfl,?_⟩⟩;rw[if_neg (by decide)];have oT:=jN.trans s6;refine AY ?_;nofun;have s0F:=s0A.trans oT;have w0:=jS_ (cell ns 3) (show (9:Int)≠0 by decide);have w1:=jM_ (cell ns 3) (show (0:Int)<9 by decide);have d0:=jS_ (cell ns 4) (show (1000000000000000000:Int)≠0 by decide);have d1:=jM_ (cell ns 4) (show (0:Int)<1000000000000000000 by decide);refine⟨a,ns,3,rfl,s0F.seq hs,_,rfl,by decide,a,ns,4,rfl,s0F.seq hs,kM,_,rfl,by rw[mv];decide,?_⟩;rw[mv];refine⟨tp,p,L,_,_,W,E,hd74 hv p L W E,rfl,hP.mono oT,B,by lia,by lia,fun q hq=>?_,w0,by lia,d0,d1,fun tb W' E' au H7 s7 my bx=>?_⟩
  ·obtain⟨cw,hcw,rfl⟩:=jo_.mp hq;have:=(JW gD fm hcw).2;show cw.length<=50;lia
  have bd:=Yx (hs:=hv) hp ok c hwz bx;have B7:=TM (hs:=hv) hp p18 gZ oM gD fm jc je bx;have sA7:=oT.trans s7;refine AY ?_;nofun;refine⟨V.ref (fA 34),tb,p,L,W',E',au,¬ Jd p L W' E' au,rfl,my,B7,.inl ⟨rfl,j8_⟩,bd.nj,fun H8 s8=>⟨true,rfl,?_⟩⟩;rw[if_neg (by decide)];refine⟨V.ref (fA 34),tb,p,L,W',E',au,¬ Jd p L W' E' au,rfl,my.mono s8,B7,.inl ⟨rfl,j8_⟩,bd.nj,fun H9 s9=>⟨true,rfl,?_⟩⟩;rw[if_neg (by decide)];have s79:=s8.trans s9;refine AY ?_;nofun;refine⟨tb,p,L,_,W',E',au,rfl,my.mono s79,B7,fun b HB sB hb=>⟨b,rfl,?_⟩⟩;have s7B:=s79.trans sB;have jO:=my.mono s7B;have sAB:=sA7.trans s7B;cases b with
  |true=>
   rw[if_pos rfl];obtain⟨c',ki,cT,fZ,ia⟩:=bd.st (hb.mp rfl);refine⟨_,.inr (sAB.seqT fo),tb,p,L,W.length,W',E',au,by rw[kP.1],jO,B7,c',ki,fun HC sC=>?_⟩;show ∃c,V.bl true=V.bl c/\_;refine⟨true,rfl,?_⟩;rw[if_pos rfl];have hP9:=jO.mono sC;obtain⟨ta',oH,oD,o',bV,ys',dX,r1,r2,r3,r4,r5,r6,r7,r8⟩:=id hP9;refine⟨_,SqT.of r1,_,rfl,_,SqT.of r1,_,rfl,tb,p,L,W',E',au,rfl,hP9,B7,fun lu' zu' gs' HD sD _ hlu' hZ' hU'=>?_,fun HD sD z=>absurd c' z⟩;exact⟨p,h,ta',oH,lu',L,hv,bV,ys',zu',W',E',gs',rfl,mw.mono (sAB.trans (sC.trans sD)),ok,sD.seqT r2,r3.mono (TK.of sD),sD.seqT r4,r5.mono (TK.of sD),fun v gu=>gD v (fZ v gu),fun e he=>fm e (by rw[<-ia];exact he),by lia,by rw[ia,ki];exact jb,hlu',hZ',OJ cT c' hU',fun HE sE=>k _⟩
  |false=>
   rw[if_neg (by decide)];have nc:=bd.ns fun z=>by have:=hb.mpr z;cases this
   refine AY ?_;nofun;refine⟨V.ref (fA 32),tb,p,L,W',E',au,¬ Cn p L W' E' au,rfl,jO,B7,.inr (.inl ⟨rfl,j8_⟩),nc,fun HC sC=>⟨true,rfl,?_⟩⟩;rw[if_neg (by decide)];refine⟨V.ref (fA 33),tb,p,L,W',E',au,¬ Cn p L W' E' au,rfl,jO.mono sC,B7,.inr (.inr ⟨rfl,j8_⟩),nc,fun HD sD=>⟨true,rfl,?_⟩⟩;rw[if_neg (by decide)];have sBD:=sC.trans sD;refine AY ?_;nofun;refine⟨V.ref (fA 32),tb,p,L,W',E',au,¬ Cn p L W' E' au,rfl,jO.mono sBD,B7,.inr (.inl ⟨rfl,j8_⟩),nc,fun HE sE=>⟨true,rfl,?_⟩⟩;rw[if_pos rfl];exact⟨V.ref (fA 33),tb,p,L,W',E',au,¬ Cn p L W' E' au,rfl,jO.mono (sBD.trans sE),B7,.inr (.inr ⟨rfl,j8_⟩),nc,fun HF sF=>k _⟩
end
def all_mk {l:pW}{w:World}{K:α3}{h:Heap}{mg:Str->α5}{fa M8 Ib M9 Sb CQ Na OK Sd Nb D0 Nd J1 CZ Nf OL UZ U0 U1 Dn Ng J2 Nh Ic Ie Se Ig J3 D1 J4 Ih OM Fw Fx Ii Ij Ik Il KZ J5 GC Im Sf Io J6 EV Ip Iq GD K0 Ir J7 Iu GF Iv GG Fy Cj EW GH EX Fz Dp GI C0 Yy:Addr}(X:K.In h)(G:h.Ns mainGlobals mg)(hfa:mg "law"=some (.ref fa))
  {cj az bP bQ:Addr}
  {K1 GJ K2 ON Cu K3 Ni OO K4 Dq K5 Iw CS K6 Nj Sg Sh Si C1 K7 Iy K8 GK GL OP GN Iz Dr IA GO Nk EY EZ GP GQ GR GS J8 IB FA GU OQ GV IC D4 GX GY FC J9 GZ ID G0 FD G3 FE E1 BX D5 FF D8 E2 C2 FG CT OR:α6}
  (j0:HF K "is_word" Js M8 K1)
  (j1:HF K "check_word" Em Ib GJ)
  (j2:HF K "rows_of" Jt M9 K2)
  (j3:HF K "cells" NG Sb ON)
  (j4:HF K "has_letters_alone" BF CQ Cu)
  (j5:HF K "inverse" Ju Na K3)
  (j6:HF K "scaled" Lx OK Ni)
  (j7:HF K "added" NH Sd OO)
  (j8:HF K "product" Jv Nb K4)
  (j9:HF K "place_of_first" Ck D0 Dq)
  (j10:HF K "left_of" Jw Nd K5)
  (j11:HF K "with_base" FO J1 Iw)
  (j12:HF K "chosen_and_bases" BM CZ CS)
  (j13:HF K "size_of" Jx Nf K6)
  (j14:HF K "chosen" Lz OL Nj)
  (j15:HF K "rank" Ru UZ Sg)
  (j16:HF K "free" Rv U0 Sh)
  (j17:HF K "unit" Rw U1 Si)
  (j18:HF K "factors_of_each" B2 Dn C1)
  (j19:HF K "made_of" Jy Ng K7)
  (j20:HF K "is_number" FP J2 Iy)
  (j21:HF K "stepped" Jz Nh K8)
  (j22:HF K "rows_along" Eo Ic GK)
  (j23:HF K "row_behind" Ep Ie GL)
  (j24:HF K "worth" NJ Se OP)
  (j25:HF K "table_back" Er Ig GN)
  (j26:HF K "sums_back" FQ J3 Iz)
  (j27:HF K "numbers_behind" Cm D1 Dr)
  (j28:HF K "sum_guess" FT J4 IA)
  (j29:HF K "rows_heard" Es Ih GO)
  (j30:HF K "counts" LC OM Nk)
  (j31:HF K "check_counts" C5 Fw EY)
  (j32:HF K "sum_at_least" C6 Fx EZ)
  (j33:HF K "sum_undone" Et Ii GP)
  (j34:HF K "sum_judged" Eu Ij GQ)
  (j35:HF K "basis_rows" Ew Ik GR)
  (j36:HF K "sums_basis" Ex Il GS)
  (j37:HF K "on_basis" Hi KZ J8)
  (j38:HF K "by_worths" FU J5 IB)
  (j39:HF K "sums_access" DC GC FA)
  (j40:HF K "sums_least" Ey Im GU)
  (j41:HF K "tails" NL Sf OQ)
  (j42:HF K "sums_paper" Ez Io GV)
  (j43:HF K "_law_cell" FV J6 IC)
  (j44:HF K "_law_is_prime" CF EV D4)
  (j45:HF K "_law_prime" EA Ip GX)
  (j46:HF K "_law_whole" EB Iq GY)
  (j47:HF K "_law_number" DD GD FC)
  (j48:HF K "_law_row" Hj K0 J9)
  (j49:HF K "_law_house" EC Ir GZ)
  (j50:HF K "_law_step" FW J7 ID)
  (j51:HF K "_law_times" EF Iu G0)
  (j52:HF K "_law_behind" DE GF FD)
  (j53:HF K "_law_worth" EG Iv G3)
  (j54:HF K "_law_needed" DF GG FE)
  (j55:HF K "_law_refused" C7 Fy E1)
  (j56:HF K "_law_refused_by_any" Bl Cj BX)
  (j57:HF K "_law_count_is" CH EW D5)
  (j58:HF K "_law_undoes" DG GH FF)
  (j59:HF K "_law_odd_pair" CI EX D8)
  (j60:HF K "_law_spoiled" C8 Fz E2)
  (j61:HF K "_law_rows_stand" B4 Dp C2)
  (j62:HF K "_law_longer" DH GI FG)
  (j63:HF K "_law_judged_good" BO C0 CT)
  (j64:HF K "law" VN Yy OR)
  (z_ValueError:nsIn K mainGlobals "ValueError"=some none)
  (z_all:nsIn K mainGlobals "all"=some none)
  (z_any:nsIn K mainGlobals "any"=some none)
  (z_bool:nsIn K mainGlobals "bool"=some none)
  (z_dict:nsIn K mainGlobals "dict"=some none)
  (z_enumerate:nsIn K mainGlobals "enumerate"=some none)
  (z_int:nsIn K mainGlobals "int"=some none)
  (z_isinstance:nsIn K mainGlobals "isinstance"=some none)
  (z_len:nsIn K mainGlobals "len"=some none)
  (z_list:nsIn K mainGlobals "list"=some none)
  (z_max:nsIn K mainGlobals "max"=some none)
  (z_range:nsIn K mainGlobals "range"=some none)
  (z_reversed:nsIn K mainGlobals "reversed"=some none)
  (z_sum:nsIn K mainGlobals "sum"=some none)
  (z_tuple:nsIn K mainGlobals "tuple"=some none)
  (z_zip:nsIn K mainGlobals "zip"=some none)
  (m_j2:nsIn K mainGlobals "AskError"=some (some (.ref cj)))
  (m_j0:nsIn K mainGlobals "NoPaper"=some (some (.ref az)))
  (m_j1:nsIn K mainGlobals "BadHouse"=some (some (.ref bP)))
  (m_j3:nsIn K mainGlobals "BadWord"=some (some (.ref bQ)))
  (x_j0:sO K az bmV "ValueError.__new__"=true)
  (xc_NoPaper:ExcCls K az)
  (e_j0:exmOne K (.ref az) (.ref cj)=some true)
  (v_j0:kitOne K (.ref az) (.type "ValueError")=some true)
  (ee_j0:exmOne K (.ref az) (.ref az)=some true)
  (k_j0_j1:kitOne K (.ref az) (.ref bP)=some false)
  (k_j0_j3:kitOne K (.ref az) (.ref bQ)=some false)
  : ∃fd:α6,(∀(s:Shared) (v:Value),BindsTo s fd ⟨[v],[]⟩ [("script",v)])/\∀base:Heap,K.In base->base.Ns mainGlobals mg->FnOk l.prog w K mg base CX0 12 fa fd ["script"] (TN K):=by
 have e:=hfa.symm.trans (js_ X G j64.a);cases e;exact⟨OR,j64.b fun _ _ _ _ _ _ _=>rfl,fun base _ _=>(Yd (P:=l.prog) (w:=w) (base:=base) (fA:=fun i=>[M8,Ib,M9,Sb,CQ,Na,OK,Sd,Nb,D0,Nd,J1,CZ,Nf,OL,UZ,U0,U1,Dn,Ng,J2,Nh,Ic,Ie,Se,Ig,J3,D1,J4,Ih,OM,Fw,Fx,Ii,Ij,Ik,Il,KZ,J5,GC,Im,Sf,Io,J6,EV,Ip,Iq,GD,K0,Ir,J7,Iu,GF,Iv,GG,Fy,Cj,EW,GH,EX,Fz,Dp,GI,C0,fa].getD i fa) (fD:=fun i=>[K1,GJ,K2,ON,Cu,K3,Ni,OO,K4,Dq,K5,Iw,CS,K6,Nj,Sg,Sh,Si,C1,K7,Iy,K8,GK,GL,OP,GN,Iz,Dr,IA,GO,Nk,EY,EZ,GP,GQ,GR,GS,J8,IB,FA,GU,OQ,GV,IC,D4,GX,GY,FC,J9,GZ,ID,G0,FD,G3,FE,E1,BX,D5,FF,D8,E2,C2,FG,CT,OR].getD i OR) ⟨⟨j1_ X G z_ValueError,j1_ X G z_all,j1_ X G z_any,j1_ X G z_bool,j1_ X G z_dict,j1_ X G z_enumerate,j1_ X G z_int,j1_ X G z_isinstance,j1_ X G z_len,j1_ X G z_list,j1_ X G z_max,j1_ X G z_range,j1_ X G z_reversed,j1_ X G z_sum,j1_ X G z_tuple,j1_ X G z_zip⟩,⟨js_ X G m_j2,js_ X G m_j0,js_ X G m_j1,js_ X G m_j3,x_j0,xc_NoPaper,e_j0,v_j0,ee_j0,k_j0_j1,k_j0_j3⟩,⟨js_ X G j0.a,j0.F⟩,⟨js_ X G j1.a,j1.F⟩,⟨js_ X G j2.a,j2.F⟩,⟨js_ X G j3.a,j3.F⟩,⟨js_ X G j4.a,j4.F⟩,⟨js_ X G j5.a,j5.F⟩,⟨js_ X G j6.a,j6.F⟩,⟨js_ X G j7.a,j7.F⟩,⟨js_ X G j8.a,j8.F⟩,⟨js_ X G j9.a,j9.F⟩,⟨js_ X G j10.a,j10.F⟩,⟨js_ X G j11.a,j11.F⟩,⟨js_ X G j12.a,j12.F⟩,⟨js_ X G j13.a,j13.F⟩,⟨js_ X G j14.a,j14.F⟩,⟨js_ X G j15.a,j15.F⟩,⟨js_ X G j16.a,j16.F⟩,⟨js_ X G j17.a,j17.F⟩,⟨js_ X G j18.a,j18.F⟩,⟨js_ X G j19.a,j19.F⟩,⟨js_ X G j20.a,j20.F⟩,⟨js_ X G j21.a,j21.F⟩,⟨js_ X G j22.a,j22.F⟩,⟨js_ X G j23.a,j23.F⟩,⟨js_ X G j24.a,j24.F⟩,⟨js_ X G j25.a,j25.F⟩,⟨js_ X G j26.a,j26.F⟩,⟨js_ X G j27.a,j27.F⟩,⟨js_ X G j28.a,j28.F⟩,⟨js_ X G j29.a,j29.F⟩,⟨js_ X G j30.a,j30.F⟩,⟨js_ X G j31.a,j31.F⟩,⟨js_ X G j32.a,j32.F⟩,⟨js_ X G j33.a,j33.F⟩,⟨js_ X G j34.a,j34.F⟩,⟨js_ X G j35.a,j35.F⟩,⟨js_ X G j36.a,j36.F⟩,⟨js_ X G j37.a,j37.F⟩,⟨js_ X G j38.a,j38.F⟩,⟨js_ X G j39.a,j39.F⟩,⟨js_ X G j40.a,j40.F⟩,⟨js_ X G j41.a,j41.F⟩,⟨js_ X G j42.a,j42.F⟩,⟨js_ X G j43.a,j43.F⟩,⟨js_ X G j44.a,j44.F⟩,⟨js_ X G j45.a,j45.F⟩,⟨js_ X G j46.a,j46.F⟩,⟨js_ X G j47.a,j47.F⟩,⟨js_ X G j48.a,j48.F⟩,⟨js_ X G j49.a,j49.F⟩,⟨js_ X G j50.a,j50.F⟩,⟨js_ X G j51.a,j51.F⟩,⟨js_ X G j52.a,j52.F⟩,⟨js_ X G j53.a,j53.F⟩,⟨js_ X G j54.a,j54.F⟩,⟨js_ X G j55.a,j55.F⟩,⟨js_ X G j56.a,j56.F⟩,⟨js_ X G j57.a,j57.F⟩,⟨js_ X G j58.a,j58.F⟩,⟨js_ X G j59.a,j59.F⟩,⟨js_ X G j60.a,j60.F⟩,⟨js_ X G j61.a,j61.F⟩,⟨js_ X G j62.a,j62.F⟩,⟨js_ X G j63.a,j63.F⟩,⟨js_ X G j64.a,j64.F⟩⟩).g⟩
def walk {l:pW}{q:Program}{bU:List Str}{XP:(Str->α5)->Heap->Prop}{YP:World->Heap->Prop}{d:DefRec}{K:Params->α3}(hn:l.most=some 63)(jV:d.params.defaults=[])
  (hY:∀(w:World) (h:Heap),YP w h->(K w.params).In h)
  (F:∀(w:World) (mg:Str->α5) (fa:Addr) (h:Heap),(K w.params).In h->h.Ns mainGlobals mg->mg d.name=some (.ref fa) ->
   ∃fd:α6,(∀(s:Shared) (u:Value),BindsTo s fd ⟨[u],[]⟩ [("script",u)])/\∀base:Heap,(K w.params).In base->base.Ns mainGlobals mg->FnOk l.prog w (K w.params) mg base CX0 12 fa fd ["script"] (TN (K w.params))):
  sy q bU XP YP l.row.toRowW d [] (fun f vs=>rE f vs):=
 L2.walk_of (n:=63) (k:=12) (x := "script") (CX:=fun _=>CX0) (sp:=fun w=>TN (K w.params)) hn (by decide) jV ⟨rfl,by decide,by decide⟩ hY F (fun _ _ a ns hl _ hS=>⟨a,ns,rfl,hS,hl,fun _=>rfl⟩) fun _ _ _ _ _ z=>z
end Mine
structure PySem.W.Fast:Prop where (tw15715641264179187110 tw3584936561299386345 tw15822933135836584245 tw18015032624255058120 tw7806696232064789052 tw16335970103910195176 tw4049041349132315728 tw12268824021807846827 tw16135557115580874073 tw16553899061520272893 tw8966021960936304924 tw4417819096387721025 tw11838635385784856489 tw10548358182600875183 tw10212173135577632612 tw128010109932730314 tw840167251051116529 tw11718252002473640034 tw1625915693329647969 tw14816463366655092077 tw12650063336411160392 tw12744005672652808260 tw5436066831079774260 tw4772328534603347445 tw15130372966379286989 tw2344613738849285628 tw9105052618529880159 tw7810326542025262032 tw6812700718764290306 tw17155355279353699108 tw17045982835394860841 tw998993248376400948 tw8149624913979145974 tw9731195257195522245 tw7005974183774379735 tw4325940881165519420 tw2097960387771578083 tw2847317606449558639 tw17126985106929008135 tw1534313336112552442 tw12786967766403570356 tw4749554410464122847 tw13241516843099430426 tw16083121853283882479 tw5291402435010886536 tw9066573761095904427 tw17505091764074674663 tw14208042936699591962 tw6014450458799998392 tw3852530547078854316 tw7747349389966618154 tw5026122271611306952 tw14196729326040202265 tw9770655317035016649 tw8694294096772288690 tw14695157613652560393 tw2663302661139130649 tw14030272313693429562 tw15236410914309696009 tw11414157686772946409 tw14230454215806345665 tw14812253580702678107 tw3972016280298212631 tw10336799769083413347 tw9718865714557553441 tw3892663139314414488 tw14617361655445786435 tw12033785826795181440 tw3787963282914711077 tw4243642735289130820 tw5126121779585676404 tw14769332614093824426 tw15872802972555635081 tw10175422579585118748 tw13249332348858655316 tw7615542759639201192 tw2610751266188971184 tw5062923397242066167 tw9949884311509908083 tw14232040478009276752 tw6363774235398182289 tw16281635755774010047 tw7343915205654492330 tw11163198987777636885 tw8695402205069626452 tw5018202868587252160 tw15599190465625057473 tw13326502907939055606 tw619398639132707358 tw8551227956072776745 tw5385403300894645308 tw3333428183401096606 tw8681826837636960943 tw1492199762300073192 tw11605612520536392102 tw76564117325581886 tw9374508956981996276 tw5765500513520695160 tw8888543207355145614 tw14518119163218383007 tw10168973506059574116 tw10017567354295722523 tw10308072708522230028 tw9373075404978103760 tw16709132584987129945 tw9735649828805283332 tw18175751377177457241 tw2023299994070073194 tw14191012583225620634 tw7982766812823859668 tw7597779000350318775 tw1875224089408968835 tw351940975014332308 tw10481071402716751809 tw1289036616543319168 tw11743632202797038577 tw10060136338416296364 tw14222279543977723890 tw4260102421730680011 tw14378697477911274690 tw5343508223288585863 tw11992609460094677193 tw14786698317155885692 tw6381314682634483497 tw10987505166305192499 tw5946143094376448255 tw5732870083542053944 tw12274590533590067195 tw6035270110453018585 tw6748144882228275247 tw176822680982044102 tw9837646575347876549 tw443277293810041461 tw1176963757238916276 tw12037072925813486935 tw9168508085240588728 tw9895045053938289815 tw14200843975165480479 tw5568617755549877582 tw1548476041610680237 tw6781841622196804785 tw10713678270703147892 tw8616549098169844948 tw11218122518045178921 tw4513484108497003362 tw13533312266152597784 tw12770182350641075851 tw8703391094317648361 tw17914092348553039434 tw14050495629975369268 tw10716000824196826138 tw7091497994565213252 tw1137891465627438991 tw16069608366222967147 tw16922045213797783601 tw17991386323970170878 tw13089605438503687228 tw14095323455585524820 tw15384916267689514145 tw17393833646000714924 tw11177111627616427202 tw18011073492855428473 tw18150359018437856490 tw13786385314095365641 tw5298724296850475698 tw1321297035546332194 tw10186158606230076215 tw9852228922363532178 tw11416814564869571748 tw15377512517552789999 tw8884724506457027329 tw6460394333911222452 tw404870283406311908 tw13917147304277218761 tw7293962709860409959 tw3931084776137422602 tw16840995458303585435 tw6938804291987831178 tw17647008436916825230 tw4167781390316004466 tw4122513590010186165 tw3678589948775685557 tw17982282593258061225 tw3417783897765918222 tw1488684987502207325 tw270080364429659786 tw14794569305490983100 tw12989219542193223280 tw500174899656966576 tw7417559842255378052 tw12002097784535454662 tw11134020144133704537 tw3283805307842645069 tw15342550654932823217 tw6054210707782454251 tw13512786717560319765 tw5355331835174433896 tw8629418934428979785 tw10859125004576864714 tw7742967809918916899 tw14277098587626228118 tw754617980388673334 tw2211283922783137702 tw583516417095737309 tw16381971905630506003 tw11773320796917073974 tw2065906623944978456 tw18394116419909190431 tw11979287626120714944 tw6845108027134291229 tw3961965200620838679 tw13749695784334466121 tw7312692142752616910 tw12070002171988530762 tw5431490060406530974 tw3231162642756020031 tw12033782632954891119 tw2123282890926821590 tw1010694651234900406 tw15191543164293889923 tw14611029229612640244 tw13179133577370681859 tw10736428184339070502 tw12045037567928114194 tw3650580107682881001 tw13449005668347707054 tw18015651053062387602 tw11331310416232915287 tw216201761007610358 tw9013386686078204273 tw15530435639779459032 tw16064611303289443436 tw10452217835866572042 tw14320394788983790763 tw12939739431367099780 tw5986923628007200211 tw8160103447974357808 tw8353842159783701267 tw7303237880783429560 tw17978465411250697203 tw2778519488276478464 tw14270555131793956503 tw8174771253733875217 tw13908988958589729067 tw2641319187892335305 tw11913294514772401769 tw428875284870638720 tw7294463108341328287 tw12089989944446278691 tw15029733508599643951 tw8445488232897877457 tw1828165059819782745 tw3915872917473971116 tw7056091498968683449 tw12605281243802162645 tw8047449279742235980 tw10507318235503121376 tw205410752368184096 tw5665880746585488984 tw2182497081425789047 tw17662870764793688293 tw12051822311288739464 tw2630800358269063711 tw7942173539301259393 tw7766715965769392064 tw7611597786398429935 tw17758028532792202791 tw2232480425403299822 tw6814517693254137285 tw14483968321443807657 tw13756696234902939925 tw8346313544361245870 tw7162132070683556463 tw9136224155045510118 tw17706560570076232309 tw5285039079202405736 tw16507599154750817535 tw6675733094801978507 tw3655925646824412537 tw2435534042090312351 tw7074731488406167354 tw9602209730192131131 tw5445892365591731706 tw1426990169077734864 tw11816941210952190695 tw2852377622525523335 tw1186196516175087514 tw13564847464030017493 tw195738343518184106 tw5139961766989714056 tw1765077104527957475 tw5007027180080007418 tw10483167898557388590 tw14580383111698139912 tw11159089551981831648 tw4952202272397990213 tw5856035788234967241 tw16964036379181888263 tw16178298935756417380 tw13029176550421161856 tw8392336937666763393 tw802547047509252661 tw6296237658794559270 tw10203813068059608222 tw6924303799940590 tw143194155569818268 tw8742928959958495406 tw10955058869613549106 tw2055069132558199434 tw12330515837534659272 tw14465706815872892970 tw12899204610489196341 tw4204080661558470487 tw16369804363929144358 tw3918919420561867228 tw3132213119750955812 tw2728948376778422130 tw2316087636431904895 tw12751944768639282297 tw700331184252628529 tw2606235755023865400 tw14932122279907763604 tw9615117991588428383 tw5974276879960120351 tw10756739344431570479 tw8376840840429281410 tw13595126564700665176 tw3620480529053211604 tw6240724472247509137 tw2038439781643165303 tw16041947595833247340 tw7004624798633110684 tw2870344296927715076 tw17165919747612387343 tw15883346628691404728 tw8232839926898598217 tw10376552265824865954 tw16501352294877561004 tw7151583943327860186 tw16204216628721818031 tw2849078582665497360 tw13522378398308043109 tw4459003963339028857 tw12279670955487013167 tw11332261239560626645 tw9845512372361286404 tw7543719066709511908 tw416103287841934768 tw7013811307478876259 tw10052990339331550061 tw4917458196525350678 tw10171011459136649953 tw3738574651423371958 tw8851279750033166491 tw6092190728251895592 tw6255223988880285969 tw545722083675457558 tw2858656449830450276 tw15199390725252935222 tw2076811518008824514 tw3325056215352688034 tw4108727289749785998 tw6432899158224319541 tw17494643519161487295 tw2279250251466263250 tw8569414952273090611 tw5672675243591094250 tw11241494977586748873 tw7124175175515815502 tw8412806174049509569 tw7926646978394980245 tw1834869755200125199 tw14026871986177847937 tw17972035974575537296 tw5483558778085670952 tw332005704908786532 tw1831617752859984427 tw10831422184560086730 tw3474530308899718676 tw5227313680908572141 tw8189485187637063093 tw1405602968838441790 tw16993908438068271654 tw7558719388169414795 tw14180582742330177361 tw17989493404009808161 tw1768870746143206448 tw5564714873533004077 tw13540644510344042293 tw18090054801009083797 tw5985464841540948989 tw16662597334591314251 tw8927827069709133723 tw10532309549618896206 tw9490714147362616559 tw17436044077048058043 tw10573140780327816428 tw643094338770058798 tw16669888251926974483 tw6453907964540860281 tw6121516039746913869 tw11410053411231202854 tw10689867424674555013 tw12149202798768370972 tw2260953445198569645 tw2664492986970666477 tw10039595706314244481 tw10811304522926522231 tw13101356351776162432 tw9122699716346777275 tw1294953032255566603 tw11081334275925431137 tw16291824572083511939 tw10388679447257276702 tw6824316114054463527 tw14603687238690460167 tw412169153389805152 tw12870526073434348241 tw8496333933040245613 tw3703979016132251512 tw15653941043406095286 tw18392359925170092742 tw130258544468900360 tw3536945602990564965 tw16772016054506544249 tw7558336669152059121 tw9116711218119493900 tw3288555062449263968 tw6140349171519065754 tw2389580820407666415 tw18257254635410509808 tw17797426005287666540 tw8992241541999084808 tw6551493943009285484 tw16042283759117640452 tw8190642593569973560 tw12952962050519488530 tw9040750883693767082 tw3933218145584047986 tw2885069880177004370 tw13249796210008391756 tw17241800960555450367 tw6767468155920564283 tw7922631121909116559 tw15562385933980944737 tw12941865379596699720 tw18016949277957221191 tw17699073863944932666 tw4766631871568586723 tw5055020411212882609 tw17132495980445211284 tw16329952846721665487 tw16034630985165672765 tw13126343746742628995 tw4259116638963589926 tw11078097024685386416 tw16818194221751148609 tw9294690541147965894 tw17189602425568748160 tw3304687408454468278 tw17155799497711050949 tw12220358847415040872 tw6148646239101988378 tw3082175365035216617 tw14939437273173845577 tw4828855015186635933 tw14502866858645617408 tw4137440682579386523 tw15432184325500917632 tw11019845209675874075 tw11728552989786885688 tw14240075024404402961 tw5094893284885054631 tw8777679279348677043 tw649009695519825985 tw16740203544089535072 tw8032524211474951692 tw8698658482236548540 tw3664739272664501566 tw4200251686309251245 tw8170454080264491280 tw10354405672300640692 tw7497690404736775624 tw2831686277142261399 tw12438565346987141304 tw8248932247511076788 tw11693676463494402122 tw6144962763345832867 tw12928939793515998005 tw12326177746869429021 tw16543920830436852399 tw12454170272548353620 tw2004028290472090355 tw6525065206379940962 tw11826353569306054589 tw8435895073766531993 tw11033491487430873895 tw14225548255168608565 tw7651245161581566830 tw13721290595364622921 tw12734878749925057099 tw6495141322967621899 tw2179933899670127606 tw14939002582467350454 tw9900792093077044409 tw4957312063453714914 tw10517694622809060592 tw6079844206552527051 tw17733775839385819032:True)
open PySem PySem.W PyProof.Rows
set_option maxRecDepth 100000 in
set_option maxHeartbeats 0 in
theorem PySem.Challenge.cw_guessroom_k74_sum_papers_holds : PySem.Challenge.rw_guessroom_k74_sum_papers.Holds := by
  w_on; o_law; k_head; (case hw => w_witness2)
  k_fill
  refine Mine.walk (l := PySem.Challenge.rw_guessroom_k74_sum_papers) rfl rfl (fun w h Y => PySem.W.kIn_of Y) ?F
  case F =>
    intro w mg fa h KX G hmg
    refine' Mine.all_mk KX G hmg ?j0 ?j1 ?j2 ?j3 ?j4 ?j5 ?j6 ?j7 ?j8 ?j9 ?j10 ?j11 ?j12 ?j13 ?j14 ?j15 ?j16 ?j17 ?j18 ?j19 ?j20 ?j21 ?j22 ?j23 ?j24 ?j25 ?j26 ?j27 ?j28 ?j29 ?j30 ?j31 ?j32 ?j33 ?j34 ?j35 ?j36 ?j37 ?j38 ?j39 ?j40 ?j41 ?j42 ?j43 ?j44 ?j45 ?j46 ?j47 ?j48 ?j49 ?j50 ?j51 ?j52 ?j53 ?j54 ?j55 ?j56 ?j57 ?j58 ?j59 ?j60 ?j61 ?j62 ?j63 ?j64 ?z_ValueError ?z_all ?z_any ?z_bool ?z_dict ?z_enumerate ?z_int ?z_isinstance ?z_len ?z_list ?z_max ?z_range ?z_reversed ?z_sum ?z_tuple ?z_zip ?m_j2 ?m_j0 ?m_j1 ?m_j3 ?x_j0 ?xc_NoPaper ?e_j0 ?v_j0 ?ee_j0 ?k_j0_j1 ?k_j0_j3
    (case m_j2|m_j0|m_j1|m_j3|z_ValueError|z_all|z_any|z_bool|z_dict|z_enumerate|z_int|z_isinstance|z_len|z_list|z_max|z_range|z_reversed|z_sum|z_tuple|z_zip=>k_is)
    (case x_j0=>k_exc)
    (case e_j0|ee_j0=>kts_exm)
    (case v_j0|k_j0_j1|k_j0_j3=>kit_is)
    (case j0|j1|j2|j3|j4|j5|j6|j7|j8|j9|j10|j11|j12|j13|j14|j15|j16|j17|j18|j19|j20|j21|j22|j23|j24|j25|j26|j27|j28|j29 => constructor; k_is; apply L2.fun_mk <;> k_is)
    (case j30|j31|j32|j33|j34|j35|j36|j37|j38|j39|j40|j41|j42|j43|j44|j45|j46|j47|j48|j49|j50|j51|j52|j53|j54|j55|j56|j57|j58|j59 => constructor; k_is; apply L2.fun_mk <;> k_is)
    (case j60|j61|j62|j63|j64 => constructor; k_is; apply L2.fun_mk <;> k_is)
    (case xc_NoPaper => apply L2.xcls <;> k_is)
