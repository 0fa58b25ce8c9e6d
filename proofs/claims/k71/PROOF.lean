import PyProof.Rows.All
import Wide.All
import OpenK.AllK
import Wide.FinOn
import Lean
import PyProof.EqAt
import PyProof.EqKinds
import PyProof.TupleCall
import KE.KRevIter
import PyProof.ListRange
import PyProof.TupleOfGen
import PyProof.Draws
import PyProof.EnumMake
import PyProof.EnumFor
import PyProof.NeKinds
import KE.KDictList
import PyProof.Rows.TupDisplay
import PyProof.ZipIter
import PyProof.Rows.ZipGen
import KE.KItemsList
import PyProof.Rows.SumAny
import PyProof.StrWalks
import PyProof.StrCalls
import PyProof.StrCalls3
import PyProof.StrLawsFirst
import PyProof.StrLawsIn
import PyProof.SliceStr2
import PyProof.StrBlockI
import PyProof.Rows.StrWeight2
import PyProof.ListNew
import PyProof.DictRoadsH
import PyProof.WalkInts
import PyProof.Rows.MinMaxN
import KE.KDictLaws
import PyProof.StrCalls2
import PyProof.StrLawsChain
import KE.KIntText
import KE.KxText
import KE.KMinKey
import KE.KPairComp
import PyProof.MaxThree
import PyProof.DictValues
import OpenK.KCls
import PyProof.Rows.SortShellK
import KE.KSortTup
import KE.KLam
import KE.KNestM
import PyProof.AttrMissHeap
import KE.KDictOf
import PyProof.TupleKey
import PyProof.SetKind
import PyProof.IsRules
import PyProof.Rows.SetFrom
import PyProof.Rows.Range3
import PySem.Challenge.RW_guessroom_k71_sum_asker_refuses
set_option compiler.extract_closed false
local macro_rules | `(s!$_) => `(by lia)
namespace Al
abbrev ql_:=@decide_eq_true
abbrev qv_:=@decide_eq_false
abbrev qz_:=@decide_eq_true_eq
abbrev qY_:=@congrArg
abbrev q3_:=@beq_eq_false_iff_ne
abbrev xk_:=@beq_iff_eq
abbrev xH_:=@if_false
abbrev xJ_:=@of_decide_eq_true
abbrev zh_:=@decide_eq_false_iff_not
abbrev zZ_:=@if_true
noncomputable abbrev α0:=List (List (List Int))
noncomputable abbrev α1:=List (List Int)
noncomputable abbrev α2:=List Int
noncomputable abbrev α5:=Option PySem.Value
noncomputable abbrev α7:=List (PySem.Addr×PySem.Obj)
abbrev jt_:=@Option.some.inj
abbrev jL_:=@PySem.PassesOwn.never
abbrev qn_:=@Ne.symm
abbrev qE_:=@Iff.rfl
abbrev xN_:=@PySem.Around.under_plainId
abbrev xU_:=@PySem.Heap.SameBut.update
abbrev x3_:=@PySem.AutoSeq1.wpAny_loadPart'
abbrev x5_:=@PySem.Paired.length
abbrev zz_:=@List.Pairwise.and_mem
end Al
open Al
open List renaming length_map->ja_,getD_eq_getElem?_getD->jb_,getElem?_eq_getElem->jc_,getElem?_eq_some_iff->je_,getElem?_map->jh_,mem_singleton->ji_,map_append->jj_,size_toArray->jl_,mem_of_getElem?->jn_,mem_cons_of_mem->jp_,length_append->ju_,mem_map->jv_,getElem?_append_left->jw_,getElem?_append_right->jy_,mem_cons_self->jA_,mem_cons->jD_,getElem?_eq_none->jF_,take_length->jG_,map_congr_left->jH_,length_take->jI_,mem_append->jJ_,map_map->jK_,length_eq_zero_iff->jN_,map_cons->jP_,take_add_one->jQ_,getElem_mem->jR_,mem_append_right->jS_,length_range->jT_,length_singleton->jU_,length_cons->jV_,lookup_cons->jX_,mem_iff_getElem?->j1_,mem_append_left->j5_,map_singleton->j7_,length_drop->qj_,dropLast_concat_getLast->qp_,take_succ_eq_append_getElem->qu_,mem_range->qw_,range_succ->qC_,replicate_succ->qD_,ext_getElem?->qF_,foldl_append->qH_,nil_append->qK_,drop_length->qM_,take_of_length_le->qO_,nodup_cons->qU_,find?_eq_none->qZ_,drop_zero->q2_,find?_cons->q4_,getElem?_range->q5_,ext_getElem->q7_,all_eq_true->q8_,not_mem_nil->q9_,length_replicate->xb_,getElem?_zipWith->xh_,length_nil->xl_,getElem_of_mem->xq_,pairwise_singleton->xr_,take_append_of_le_length->xt_,take_zero->xu_,append_nil->xA_,map_nil->xB_,foldl_cons->xC_,flatten_cons->xI_,pairwise_append->xO_,mem_of_find?_eq_some->xP_,cons_append->xQ_,any_eq_true->xR_,getElem_map->xS_,mem_map_of_mem->xW_,length_zipWith->xY_,length_flatMap->xZ_,mem_filter->x6_,getElem?_replicate->za_,getElem?_cons_zero->zc_,getElem?_set_self->zi_,drop_of_length_le->zm_,sum_replicate_nat->zn_,nodup_append->zq_,pairwise_map->zr_,eq_replicate_iff->zy_,getElem?_set_ne->zF_,any_cons->zI_,map_take->zJ_,filterMap_cons->zK_,mem_filterMap->zQ_,map_inj_right->zS_,nodup_nil->zU_,append_assoc->zW_,replicate->nI,range->nJ,zipWith->nP,lookup->nX,length->oh,drop_eq_getElem_cons->ou,getElem_inj->oB,filter_cons->oI,of_mem_zip->oQ,forIn_cons->oS,find?_some->oY,map_const'->oZ,take_eq_take_iff->pb,length_filter_le->pd,forIn_nil->pj,flatMap_append->pG,map_drop->pJ,take_nil->pM,filter_append->pR,getElem_range->pS,getElem?_take->pT,all_map->p4,mem_flatMap->qm,take_left'->qy,foldl->qz,all_cons->qY,any_map->rn,drop->sC
open PySem renaming wpAny_bind->jd_,wpAny_pure->jm_,mem_of_lookup->j4_,wpAny_setField_rec->qd_,wpAny_newObj_type->qk_,boot_len->qm_,wpAny_call_entry->qx_,wpAny_callSpecial?_slot->qy_,wpAny_loadPart'->qB_,wpAny_mono->qQ_,wpAny_typeNameOfWhole_keyiter->q1_,wpAny_holding->xc_,tupleKind_room_in1->xf_,wpAny_truthy_bool->xi_,wpAny_passesOwn->xj_,wpAny_typeNameOf_keyiter->xm_,wpAny_typeNameOfWhole_itemiter->xo_,wpAny_pyIter_tuple->xx_,wpAny_notOrdered_dict->xD_,wpAny_pyIter_list->xG_,wpAny_comprehension_free->x2_,wpAny_execs_nil->x7_,wpAny_Call_Name_kw->x9_,codeAny_builtin->zd_,wpAny_attempt->ze_,call_meets->zo_,wpAny_pyIter_enum->zp_,wpAny_fieldsOf->zs_,wpAny_typeOf->zt_,wpAny_isOneOf_keyiter->zu_,codeAny_call_builtin->zH_,sizeLine_eq->zL_,codeAny_mono->zR_,list_append->zX_,FuncData->α6,evalArgs_none->pF,Within->pV,seqSlot_of->qg,call->qA
open Nat renaming le_refl->jf_,lt_of_lt_of_le->js_,ne_of_lt->jE_,lt_irrefl->jY_,zero_le->j3_,le_trans->j6_,ne_of_gt->qe_,mul_le_mul->qJ_,sub_self->qL_,lt_succ_of_lt->qS_,lt_of_sub_eq_succ->qX_,lt_succ_self->q0_,le_of_succ_le->xn_,mul_le_mul_left->xX_,le_of_lt->x0_,not_lt_zero->zf_,sub_zero->zx_,le_of_not_lt->zC_,le_add_right->zE_,le_succ->zN_,min_eq_right->oH,min_self->oJ,mul_comm->oM,dvd_of_mod_eq_zero->oN,div_add_mod->oU,min_eq_left->oX,gcd->pB,lt_of_le_of_lt->pP,mul_right_comm->pQ,pos_of_ne_zero->pU,le_of_eq->pX,succ_mul->pZ,pow_succ->p6,gcd_comm->qb,succ_le_succ->qf,succ_ne_self->qh,not_lt_of_le->qi,mul_mod_left->qk,mod_eq_of_lt->ql,lt_trans->ri,lt_or_ge->rl,le_total->ro,mul_succ->rq,Coprime->rK,gcd_rec->rM,mod_lt->rR,mod->r6,beq->sR
open PySem.Heap renaming get?_push_of_some->jg_,lt_size->jk_,get?_push_size->jr_,size_push->j9_,get?_update_other->qo_,get?_update_self->qW_
open Bool renaming false_ne_true->jo_,and_eq_true->jW_,eq_iff_iff->qT_,false_eq_true->xg_,or_eq_true->oT,false_and->pf,true_and->pI,not_eq_true'->qc,not_true->ra
open PySem.W renaming mg_of->jq_,mg_none_of->j8_,kia_one->qc_,methodCall_KW->xa_,callWith_K->xy_,cellsFrom_some->zj_,plainGet_of->zM_,kitx_list->zV_,Frag->α3,findIn->nK,emptyDict->nQ,excIn->nR,instObj->nT,plainGet->nV,hasDictIn->nY,plainOver->nZ,lookIn->om,methodObj->oy,specialIn->oz,hideAll->oO,takerIn->oP,OpenLaw->oR,codeIn->ph,hideAll_get->pC,callWith_K0->pD,mroIn->pH,of_hideAll->pN,kitx_tuple->pO,isFn->pW,kitx_dict->pY,handedIn->qd,makesIn->qt,takesIn->qu,WalkO->qZ,funFrames_hide->rj,kdl_hint_dict->rB,hideAll_size->rG,hideAll_none->rH,looks_findIn->rJ,findObj_own->rN,looks_clsIn->rO,kitx_float->rP,codeRec_of->rQ,method_cls->rS,get_value->rT,method_fn->rV,set_plain->rW,make_core->rX,kitx_none->rY,kitx_bool->rZ,cls_value->r9,eq_bytes->sd,ne_bytes->se,osa_open->sf,any_some->si,InitBack->sj,makes_of->sk,kitx_int->sm,kitx_str->sr,kitx_own->su,kdl_call->sx,kcp_self->sy,bind_fn->sG,exm_one->sH,readsIn->sI,findCls->sJ,InstAt->sL,typeIn->sN,KdlSrc->sO,Looks->sP,clsIn->sQ
open Int renaming emod_lt_of_pos->jx_,toNat_natCast->jz_,emod_eq_emod_iff_emod_sub_eq_zero->jB_,emod_nonneg->jC_,emod_emod_of_dvd->jM_,dvd_of_emod_eq_zero->jZ_,emod_eq_of_lt->j0_,mul_emod->qf_,dvd_refl->qg_,emod_eq_zero_of_dvd->qh_,add_emod->qA_,dvd_mul_of_dvd_right->qG_,natAbs_dvd_natAbs->xE_,zero_add->xF_,mul_comm->x4_,mul_assoc->zg_,pow_succ->zw_,mul_ediv_add_emod->zA_,toNat_of_nonneg->zP_,sub_emod->zT_,mul_one->zY_,one_mul->z0_,mul_add->z1_,dvd_sub->z2_,gcd->nU,fdiv_eq_ediv_of_nonneg->oi,natCast_pow->oW,mul_sub->pk,sub_mul->pq,dvd_trans->pK,le_of_dvd->pL,add_zero->p9,sub_self->qa,neg_mul->qr,natCast_mul->qx,natAbs_mul->qB,emod_self->rb,toNat->rf,ediv_one->rh,gcd_comm->rm,sub_zero->rp,pow_mul->rL
open PyProof.Rows renaming boot_tuple->jO_,slot_tuple_getitem->j2_,callWith_type1->qb_,boot_isinstance->qq_,boot_list->qP_,boot_sum->zB_,callWith_builtin1->qe,tuple_addW0->q9,boot_dict->rA,boot_all->rC,boot_max->rF
open Classical renaming byContradiction->qa_,choose_spec->zv_,propDecidable->nW,choose->og
open PySem.F renaming plainAttrs_list->qi_,slot_list_append->qs_,type_list_append->qt_,slot_dict_keyiterator_next->qI_,slot_dict_get->qV_,plainAttrs_dict->xp_,slot_dict_items->xs_,entry_dict_get->xv_,excBase_ValueError->xK_,plain_extend_loop->xT_,slot_dict_itemiterator_next->xV_,args_tuple_add_2->x1_,entry_tuple_add->zb_,slot_tuple_add->zk_,slot_tuple_mul->zD_,args_list_append_2->zG_,args_dict_items_1->ot,entry_dict_items->oA,args_dict_get_2->oE,args_dict_get_3->oF,type_dict_items->oG,type_dict_get->o9,args_dict_itemiterator_next_1->pA,entry_dict_itemiterator_next->pE,args_dict_items_iter_1->qj,entry_dict_items_iter->qp,slot_dict_items_iter->qw,slot_list_pop->rD,type_list_pop->rE
open Option renaming isSome_iff_exists->qr_,isSome_some->xe_,map_eq_none_iff->xw_,toList_some->xz_,map_eq_some_iff->zl_,map_some->zO_,isSome_map->p3
open Array renaming getElem?_eq_some_iff->qN_,length_toList->qR_,getElem?_toList->xd_,getElem?_eq_none_iff->xL_,toList->rg
open PySem.Calls renaming callWith_builtin->q6_,evalArgs_plain->xM_,spliced_cons->x8_
open True renaming intro->nL
open Or renaming inl->nM,inr->oq
open False renaming elim->nN
open ForInStep renaming yield->nO
open Sum renaming inl->nS,inr->pz
open PySem.IsL renaming update->oC
open PySem.EqNone renaming eq_none_none->qC,eq_none_bool->qD,eq_bool_none->qE,ne_none_none->qH,ne_none_bool->qI,ne_bool_none->qJ,eq_none_int->qM,eq_none_str->qN,eq_int_none->qO,eq_str_none->qQ,ne_none_int->qS,ne_none_str->qT,ne_int_none->qU,ne_str_none->qW
open PySem.EqMixed renaming eq_bool_str->qF,eq_str_bool->qG,ne_bool_str->qK,ne_str_bool->qL,eq_int_str->qP,eq_str_int->qR,ne_int_str->qV,ne_str_int->qX
open PySem.W (nsIn keepIn fnOf kitOne exmOne)
set_option Elab.async false
set_option linter.all false
set_option maxRecDepth 100000
namespace L2
open PySem PySem.Spec PyProof.Rows
noncomputable abbrev Key:=Sum Int Str
noncomputable def NW:Key->Value->Bool
 |.inl k,v=>Value.isInt k v
 |.inr x,v=>Value.isStrOf x v
noncomputable def keyH (w:World):Key->Int
 |.inl k=>hashInt k
 |.inr x=>hashStr w x
def Bf:∀{k:Key} {v:Value},NW k v=true->(∃i t,k=nS i/\v=Value.int i t)\/(∃x t,k=pz x/\v=Value.str x t)
 |.inl i,v,h=>by
  obtain⟨t,e⟩:=Value.isInt_shape (k:=i) (v:=v) h;exact .inl ⟨i,t,rfl,e⟩
 |.inr x,v,h=>by
  obtain⟨t,e⟩:=Value.isStrOf_shape (x:=x) (v:=v) h;exact .inr ⟨x,t,rfl,e⟩
def Qt (i:Int)(t:Tok):NW (.inl i) (.int i t)=true:=by simp[NW,Value.isInt]
def Qu (x:Str)(t:Tok):NW (.inr x) (.str x t)=true:=by simp[NW,Value.isStrOf]
def WM (a b:Int):decide ((nS a:Key)=nS b)=(a==b):=by
 by_cases e:a=b
 ·subst e;simp
 ·have h:¬ (nS a:Key)=nS b:=fun q=>e (Sum.inl.inj q);rw[qv_ h];exact (q3_.mpr e).symm
def WN (a b:Str):decide ((pz a:Key)=pz b)=decide (a=b):=by
 by_cases e:a=b
 ·subst e;simp
 ·have h:¬ (pz a:Key)=pz b:=fun q=>e (Sum.inr.inj q);rw[qv_ h,qv_ e]
def WO (a:Int)(b:Str):decide ((nS a:Key)=pz b)=false:=qv_ (fun q=>nomatch q)
def WQ (a:Str)(b:Int):decide ((pz a:Key)=nS b)=false:=qv_ (fun q=>nomatch q)
noncomputable def AX (prog:Program)(w:World):PySem.KeyKind prog w Key where
 is:=NW
 hash:=keyH w
 inj:=fun v a b ha hb=>by
  rcases Bf ha with ⟨i,t,rfl,rfl⟩|⟨x,t,rfl,rfl⟩
  ·rcases Bf hb with ⟨j,u,rfl,e⟩|⟨y,u,rfl,e⟩
   ·injection e with e1 _;rw[e1]
   ·exact nomatch e
  ·rcases Bf hb with ⟨j,u,rfl,e⟩|⟨y,u,rfl,e⟩
   ·exact nomatch e
   ·injection e with e1 _;rw[e1]
 byValue:=fun k v h=>by
  rcases Bf h with ⟨i,t,rfl,rfl⟩|⟨x,t,rfl,rfl⟩<;>rfl
 pyHash:=fun hv h=>by
  rcases Bf hv with ⟨i,t,rfl,rfl⟩|⟨x,t,rfl,rfl⟩
  ·exact wpAny_pyHash_int h
  ·exact wpAny_pyHash_str h
 eqBool:=fun hu hv h=>by
  rcases Bf hu with ⟨i,t,rfl,rfl⟩|⟨x,t,rfl,rfl⟩
  ·rcases Bf hv with ⟨j,u,rfl,rfl⟩|⟨y,u,rfl,rfl⟩
   ·rw[WM]at h;exact wpAny_eqBool_int h
   ·rw[WO]at h;exact SeqAt.EqAt.int_str i t y u _ _ _ _ h
  ·rcases Bf hv with ⟨j,u,rfl,rfl⟩|⟨y,u,rfl,rfl⟩
   ·rw[WQ]at h;exact SeqAt.EqAt.str_int x t j u _ _ _ _ h
   ·rw[WN]at h;exact wpAny_eqBool_str h
 «strs» := fun k x t v h=>by
  rcases Bf h with ⟨i,u,rfl,e⟩|⟨y,u,rfl,e⟩
  ·exact nomatch e
  ·injection e with e1 _;subst e1;cases v<;>rfl
def NX (prog:Program)(w:World)(i:Int)(t:Tok):(AX prog w).is (.inl i) (.int i t)=true:=Qt i t
def NY (prog:Program)(w:World)(x:Str)(t:Tok):(AX prog w).is (.inr x) (.str x t)=true:=Qu x t
inductive V where
 | non|bl (b:Bool)|int (i:Int)|str (x:Str)|byt (b:Array UInt8)|flt (b:UInt64)|ref (a:Addr)|ty (n:String)
 deriving DecidableEq
noncomputable def RelV:V->Value->Prop
 |.non,u=>u=Value.none
 |.bl b,u=>u=Value.bool b
 |.int i,u=>∃t,u=Value.int i t
 |.str x,u=>∃t,u=Value.str x t
 |.byt b,u=>∃t,u=Value.bytes b t
 |.flt b,u=>∃t,u=Value.float b t
 |.ref a,u=>u=Value.ref a
 |.ty n,u=>u=Value.type n
noncomputable abbrev Vals:List V->List Value->Prop:=Paired RelV
def Vals.length (r:Vals xs us):xs.length=us.length:=x5_ r
def Vals.get:∀{xs:List V} {us:List Value} {i:Nat} {x:V},Vals xs us->xs[i]?=some x->∃u,us[i]?=some u/\RelV x u
 |_,_,_,_,.nil,e=>by simp at e
 |_,_,0,_,.cons r _,e=>by simp at e;subst e;exact⟨_,rfl,r⟩
 |_,_,i+1,x,.cons _ t,e=>by
  obtain⟨u,h1,h2⟩:=Vals.get (i:=i) (x:=x) t (by simpa using e);exact⟨u,by simpa using h1,h2⟩
def Vals.append:∀{xs ys:List V} {us ws:List Value},Vals xs us->Vals ys ws->Vals (xs++ys) (us++ws)
 |_,_,_,_,.nil,s=>s
 |_,_,_,_,.cons r t,s=>.cons r (Vals.append t s)
def Vals.take:∀{xs:List V} {us:List Value} (n:Nat),Vals xs us->Vals (xs.take n) (us.take n)
 |_,_,0,_=>.nil
 |_,_,_+1,.nil=>.nil
 |_,_,n+1,.cons r t=>.cons r (Vals.take n t)
def Vals.drop:∀{xs:List V} {us:List Value} (n:Nat),Vals xs us->Vals (xs.drop n) (us.drop n)
 |_,_,0,r=>r
 |_,_,_+1,.nil=>.nil
 |_,_,n+1,.cons _ t=>Vals.drop n t
noncomputable def RelO:Option V->α5->Prop
 |some v,some u=>RelV v u
 |none,none=>True
 |_,_=>False
noncomputable def KV {κ:Type}:List (κ×V)->List (κ×Value)->Prop:=Paired fun (p:κ×V) (q:κ×Value)=>p.1=q.1/\RelV p.2 q.2
noncomputable def kV:Key->V
 |.inl i=>.int i
 |.inr x=>.str x
inductive HO where
 | lst (xs:List V)
 | tup (xs:List V)
 | dK (kvs:List (Key×V))|dT (kvs:List (List Key×V))
 | set (S:Int->Bool) (n:Nat)
 | ins (C dx:Addr) (fs:List (Str×V))
 | own (x:Addr)
 | xd (fs:List (Str×V))
 | met (f x:Addr)
 | rng (lo hi:Int)
 | frz (o:Obj) (u:HO)
 | tbl (ps:Array Value)
 | ext (φ:Heap->Prop)
noncomputable abbrev Hp:=Addr->Option HO
noncomputable def upd (H:Hp)(a:Addr)(o:HO):Hp:=fun b=>if b=a then some o else H b
def Ab : upd H a o a=some o:=by unfold upd;rw[if_pos rfl]
def Aj (h:b≠a):upd H a o b=H b:=by unfold upd;rw[if_neg h]
def Vz : upd (upd H a o) a u=upd H a u:=by
 funext b;unfold upd;split<;>rfl
def Qv {H:Hp}{a b:Addr}{o u:HO}(h:H a=some o)(h':H b=some u)(d:o≠u):a≠b:=by
 intro e;subst e;rw[h]at h';exact d (jt_ h')
def AL {H:Hp}{a b:Addr}{o:HO}(h:H a=some o)(h':H b=none):a≠b:=by
 intro e;subst e;rw[h]at h';cases h'
section
variable (P:Program) (w:World)
noncomputable def AY (H:Hp)(h:Heap)(a:Addr):HO->Prop
 |.lst xs=>xs.length<=sizeLine/\∃(its:List Value) (n:Nat),Vals xs its/\h.get? a=some {cls:=.type "list",data:=.seq its.toArray n}
 |.tup xs=>xs.length<=sizeLine/\∃its:List Value,Vals xs its/\IsTup h a its.toArray
 |.dK kvs=>kvs.length<=sizeLine/\(a==sysModules)=false/\∃vs,KV kvs vs/\h.DictOf (AX P w) a vs
 |.dT kvs=>kvs.length<=sizeLine/\(a==sysModules)=false/\∃xs:List (List Key×Addr×Value),
   Paired (fun (p:List Key×V) (q:List Key×Addr×Value)=>p.1=q.1/\H q.2.1=some (.tup (p.1.map kV))/\RelV p.2 q.2.2) kvs xs /\
   ∃o es ep,h.get? a=some o/\o.ExactDict/\o.data=.dict es ep/\es.toList=xs.map (entryOfKey (tupleKind (AX P w)))/\(xs.map (·.1)).Nodup
 |.set S n=>h.SetOf (intKind P w) a S n
 |.ins C dx fs=>H dx=some (.own a)/\fs.length<=1000/\dx≠a/\h.get? a=some (nT C dx) /\
   ∃mA,h.Ns1 dx mA/\(∀f,RelO (fs.lookup f) (mA f))/\pV mA (fs.map (·.1))
 |.own _=>∃o,h.get? a=some o
 |.xd fs=>∃mA,h.Ns1 a mA/\∀f,RelO (fs.lookup f) (mA f)
 |.rng lo hi=>∃t u v,h.get? a=some {cls:=.type "range",data:=.fields #[.int lo t,.int hi u,.int 1 v]}
 |.frz o u=>h.get? a=some o/\AY H h a u
 |.tbl ps=>h.get? a=some {cls:=.none,data:=.fields ps}
 |.met f x=>h.get? a=some (oy (.ref f) (.ref x))
 |.ext φ=>φ h/\(∃o,h.get? a=some o)/\∀h1 h2:Heap,φ h1->(∀o,h1.get? a=some o->h2.get? a=some o)->φ h2
noncomputable def HOk (H:Hp)(h:Heap):Prop:=∀a o,H a=some o->AY P w H h a o
end
section
variable {P:Program} {w:World} {H H':Hp} {h h':Heap} {a:Addr} {o:HO}
def AY.lt (x:AY P w H h a o):a<h.objs.size:=by
 cases o with
 |lst xs=>obtain⟨_,_,_,_,e⟩:=x;exact jk_ e
 |tup xs=>obtain⟨_,_,_,p⟩:=x;exact p.lt
 |dK kvs=>obtain⟨_,_,_,_,o,_,_,e,_⟩:=x;exact jk_ e
 |dT kvs=>obtain⟨_,_,_,_,o,_,_,e,_⟩:=x;exact jk_ e
 |set S n=>obtain⟨o,_,_,_,e,_⟩:=x;exact jk_ e
 |ins C dx fs=>obtain⟨_,_,_,e,_⟩:=x;exact jk_ e
 |own y=>obtain⟨_,e⟩:=x;exact jk_ e
 |xd fs=>obtain⟨_,⟨_,_,_,e,_⟩,_⟩:=x;exact jk_ e
 |rng lo hi=>obtain⟨_,_,_,e⟩:=x;exact jk_ e
 |frz ob u=>obtain⟨e,_⟩:=x;exact jk_ e
 |tbl ps=>exact jk_ (show h.get? a=some _ from x)
 |met f y=>exact jk_ (show h.get? a=some _ from x)
 |ext φ=>obtain⟨_,⟨_,e⟩,_⟩:=x;exact jk_ e
def Paired.mapP {α β:Type}{F G:α->β->Prop}:∀{l₁:List α} {l₂:List β},Paired F l₁ l₂->(∀a b,F a b->G a b)->Paired G l₁ l₂
 |_,_,.nil,_=>.nil
 |_,_,.cons r t,f=>.cons (f _ _ r) (Paired.mapP t f)
def AY.stay (x:AY P w H h a o)(k:∀b u,(b=a\/H b=some (.own a))->h.get? b=some u->h'.get? b=some u)
  (ho:∀b,H b=some (.own a)->H' b=some (.own a)) (ht:∀b xs,H b=some (.tup xs)->H' b=some (.tup xs)):AY P w H' h' a o:=by
 induction o with
 |lst xs=>obtain⟨z,its,n,r,e⟩:=x;exact⟨z,its,n,r,k _ _ (.inl rfl) e⟩
 |tup xs=>obtain⟨z,its,r,ob,e,c⟩:=x;exact⟨z,its,r,ob,k _ _ (.inl rfl) e,c⟩
 |dK kvs=>obtain⟨z,y,vs,r,ob,es,ep,e,c⟩:=x;exact⟨z,y,vs,r,ob,es,ep,k _ _ (.inl rfl) e,c⟩
 |dT kvs=>
  obtain⟨z,y,xs,r,ob,es,ep,e,c⟩:=x;exact⟨z,y,xs,Paired.mapP r fun p q z=>⟨z.1,ht _ _ z.2.1,z.2.2⟩,ob,es,ep,k _ _ (.inl rfl) e,c⟩
 |set S n=>obtain⟨ob,es,ep,t,e,c⟩:=x;exact⟨ob,es,ep,t,k _ _ (.inl rfl) e,c⟩
 |ins C dx fs=>
  obtain⟨d,z,ne,e,mA,⟨od,es,ep,e2,c⟩,r⟩:=x;exact⟨ho _ d,z,ne,k _ _ (.inl rfl) e,mA,⟨od,es,ep,k _ _ (.inr d) e2,c⟩,r⟩
 |own y=>obtain⟨ob,e⟩:=x;exact⟨ob,k _ _ (.inl rfl) e⟩
 |xd fs=>obtain⟨mA,⟨od,es,ep,e,c⟩,r⟩:=x;exact⟨mA,⟨od,es,ep,k _ _ (.inl rfl) e,c⟩,r⟩
 |rng lo hi=>obtain⟨t,u,v,e⟩:=x;exact⟨t,u,v,k _ _ (.inl rfl) e⟩
 |frz ob u ih=>obtain⟨e,q⟩:=x;exact⟨k _ _ (.inl rfl) e,ih q⟩
 |tbl ps=>
  have e:h.get? a=some {cls:=.none,data:=.fields ps}:=x;show h'.get? a=some {cls:=.none,data:=.fields ps};exact k a _ (.inl rfl) e
 |met f y=>
  have e:h.get? a=some (oy (.ref f) (.ref y)):=x;show h'.get? a=some (oy (.ref f) (.ref y));exact k a _ (.inl rfl) e
 |ext φ=>obtain⟨p,⟨o,e⟩,st⟩:=x;exact⟨st _ _ p fun o q=>k _ _ (.inl rfl) q,⟨o,k _ _ (.inl rfl) e⟩,st⟩
def HOk.lt (x:HOk P w H h)(e:H a=some o):a<h.objs.size:=(x a o e).lt
def HOk.fresh (x:HOk P w H h)(e:h.objs.size<=a):H a=none:=by
 cases q:H a with
 |none=>rfl
 |some u=>exact absurd (js_ (x.lt q) e) (jY_ _)
def HOk.kept (x:HOk P w H h)(k:∀b u,h.get? b=some u->h'.get? b=some u):HOk P w H h':=fun a o e=>
 (x a o e).stay (fun b u _ q=>k b u q) (fun _ q=>q) fun _ _ q=>q
def HOk.laid (x:HOk P w H h)(k:∀b u,h.get? b=some u->h'.get? b=some u)(hp:h.objs.size<=a)(new:AY P w (upd H a o) h' a o):HOk P w (upd H a o) h':=fun b u e=>by
 have hn:=x.fresh hp;by_cases hb:b=a
 ·subst hb;rw[Ab]at e;cases e;exact new
 ·rw[Aj hb]at e;exact (x b u e).stay (fun c v _ q=>k c v q) (fun c q=>by rw[Aj (AL q hn)];exact q) fun c xs q=>by rw[Aj (AL q hn)];exact q
end
noncomputable def Rd (H:Hp)(a:Addr)(u:HO):Prop:=H a=some u \/ ∃o,H a=some (.frz o u)
def Rd.ok (r:Rd H a u)(x:HOk P w H h):AY P w H h a u:=by
 rcases r with r|⟨o,r⟩
 ·exact x a u r
 ·obtain⟨_,q⟩:=x a _ r;exact q
noncomputable def Mut:Option HO->Prop
 |some (.lst _)=>True
 |some (.dK _)=>True
 |some (.dT _)=>True
 |some (.set _ _)=>True
 |some (.ins _ _ _)=>True
 |some (.ext _)=>True
 |_=>False
section
variable {P:Program} {w:World} {H:Hp} {h h':Heap} {x e:Addr} {o':HO}
def HOk.write (ok:HOk P w H h)(mu:Mut (H x))(he:e=x\/H e=some (.own x))(k:∀b u,b≠e->h.get? b=some u->h'.get? b=some u)(fb:∃u,h'.get? e=some u)
  (new:AY P w (upd H x o') h' x o'):HOk P w (upd H x o') h':=fun b u q=>by
 have nown:∀c y,H c=some (.own y)->c≠x:=fun c y r z=>by subst z;rw[r]at mu;exact mu
 have ntup:∀c xs,H c=some (.tup xs)->c≠x:=fun c xs r z=>by subst z;rw[r]at mu;exact mu
 by_cases hb:b=x
 ·subst hb;rw[Ab]at q;cases q;exact new
 ·rw[Aj hb]at q;by_cases ig:b=e
  ·have q':H b=some (.own x):=by
    rcases he with z|z
    ·exact absurd (ig.trans z) hb
    ·rw[ig];exact z
   rw[q]at q';cases q';obtain⟨v,hv⟩:=fb;exact⟨v,by rw[ig];exact hv⟩
  ·refine (ok b u q).stay (fun c v hc r=>k c v ?_ r) (fun c r=>by rw[Aj (nown c b r)];exact r) fun c xs r=>by rw[Aj (ntup c xs r)];exact r
   rcases hc with rfl|hc
   ·exact ig
   ·rintro rfl;rcases he with z|z
    ·exact nown c b hc z
    ·rw[hc]at z;cases z;exact hb rfl
end
structure Un (fs ex:List Addr)(H H':Hp)(h h':Heap):Prop where
 keep:∀b o,h.get? b=some o->H b=none->b∉fs->b∉ex->h'.get? b=some o
 slot:∀b o,h.get? b=some o->H b=none->b∈fs->b∉ex->∃sl,h'.get? b=some {o with slots:=sl}
 free:∀b o,h.get? b=some o->H b=none->b∉ex->H' b=none
 there:∀b o,h.get? b=some o->b∉ex->∃o',h'.get? b=some o'
 tups:∀b xs,H b=some (.tup xs)->H' b=some (.tup xs)
 frzs:∀b o u,H b=some (.frz o u)->H' b=some (.frz o u)
 tbls:∀b ps,H b=some (.tbl ps)->∃more,H' b=some (.tbl (ps++more))
section
variable {fs fs' ex ex':List Addr} {H H1 H2:Hp} {h h1 h2 h':Heap} {a x e:Addr} {o:HO}
def Un.any (u:Un fs ex H H1 h h1) (q:h.get? b=some ob)(n:H b=none)(hx:b∉ex):∃sl,h1.get? b=some {ob with slots:=sl}:=by
 by_cases hb:b∈fs
 ·exact u.slot b ob q n hb hx
 ·exact⟨ob.slots,u.keep b ob q n hb hx⟩
def Un.kept (k:∀b u,h.get? b=some u->h'.get? b=some u):Un fs ex H H h h' :=
 ⟨fun b ob q _ _ _=>k b ob q,fun b ob q _ _ _=>⟨ob.slots,k b ob q⟩,fun _ _ _ n _=>n,fun b ob q _=>⟨ob,k b ob q⟩,fun _ _ q=>q,fun _ _ _ q=>q,fun _ ps q=>⟨#[],by rw[q];simp⟩⟩
def Un.refl:Un fs ex H H h h:=Un.kept fun _ _ q=>q
def Un.laid (k:∀b u,h.get? b=some u->h'.get? b=some u)(hp:h.objs.size<=a)(hn:H a=none):Un fs ex H (upd H a o) h h' where
 keep:=fun b u q _ _ _=>k b u q
 slot:=fun b u q _ _ _=>⟨u.slots,k b u q⟩
 free:=fun b u q n _=>by rw[Aj (jE_ (js_ (jk_ q) hp))];exact n
 there:=fun b u q _=>⟨u,k b u q⟩
 tups:=fun b xs q=>by rw[Aj (AL q hn)];exact q
 frzs:=fun b u xs q=>by rw[Aj (AL q hn)];exact q
 tbls:=fun b ps q=>⟨#[],by rw[Aj (AL q hn),q];simp⟩
def Un.write (mu:Mut (H x))(he:e=x\/H e=some (.own x))(k:∀b u,b≠e->h.get? b=some u->h'.get? b=some u)(fb:∃u,h'.get? e=some u):Un fs ex H (upd H x o) h h':=by
 have hx:∀b,H b=none->b≠x:=fun b n z=>by subst z;rw[n]at mu;exact mu
 have hb:∀b,H b=none->b≠e:=fun b n z=>by
  subst z;rcases he with r|r
  ·exact hx b n r
  ·rw[n]at r;cases r
 have hm:∀b u,H b=some u->¬ Mut (some u)->b≠x:=fun b u q nm z=>by subst z;rw[q]at mu;exact nm mu
 refine⟨fun b u q n _ _=>k b u (hb b n) q,fun b u q n _ _=>⟨u.slots,k b u (hb b n) q⟩,fun b u q n _=>by rw[Aj (hx b n)];exact n,fun b u q _=>?_,
  fun b xs q=>by rw[Aj (hm b _ q fun z=>z)];exact q,fun b u xs q=>by rw[Aj (hm b _ q fun z=>z)];exact q,fun b ps q=>⟨#[],by rw[Aj (hm b _ q fun z=>z),q];simp⟩⟩
 by_cases ig:b=e
 ·subst ig;exact fb
 ·exact⟨u,k b u ig q⟩
end
noncomputable def trk (h:Heap)(H:Hp):List Addr:=(nJ h.objs.size).filter fun a=>(H a).isSome
noncomputable def hidT (h:Heap)(H:Hp):Heap:=oO h (trk h H)
def Qw (h:Heap)(H:Hp):(hidT h H).objs.size=h.objs.size:=rG _ _
def SK (e:h.get? b=some o)(n:H b=none):(hidT h H).get? b=some o:=
 pC _ e fun hm=>by
  have q:(H b).isSome=true:=(x6_.mp hm).2;rw[n]at q;simp at q
def VA (e:(hidT h H).get? b=some o):h.get? b=some o/\H b=none:=by
 have e':h.get? b=some o:=pN (trk h H) e;refine⟨e',?_⟩;cases q:H b with
 |none=>rfl
 |some x=>
  have hm:b∈trk h H:=x6_.mpr ⟨qw_.mpr (jk_ e'),by simp[q]⟩;have z:(hidT h H).get? b=none:=rH (trk h H) hm;rw[z]at e;cases e
noncomputable def VB (g h:Heap)(L:Addr):α7:=(nJ h.objs.size).filterMap fun a=>if a=L\/(g.get? a).isSome=true then none else (h.get? a).map fun o=>(a,o)
noncomputable def rest (g h:Heap)(L d:Addr):α7:=(VB g h L).filter fun p=>decide (p.1≠d)
end L2
namespace L2
open PySem PySem.Spec PyProof.Rows
structure Mod (K:α3)(mg:Str->α5)(base:Heap):Prop where
 kin:K.In base
 glob:base.Ns mainGlobals mg
 blt:∃mb,base.Ns builtinsNs mb/\∀x:Str,x ≠ "__name__" -> mb x=bootBuiltins x
 nolimit:base.NoLimit
structure Cx where
 prog:Program
 w:World
 K:α3
 mg:Str->α5
 base:Heap
 A:Around
 N:List Str
 s₀:Shared
 H₀:Hp
 env:Env
 outer:List Env
 stack:List Env
 ex:List Addr
 fn:Str->Bool
 calm:Bool
 pn:α7
 xe:Value->Shared->Prop
noncomputable def frs (l:List Env):List Addr:=l.filterMap (·.frame)
noncomputable abbrev Cx.fs (X:Cx):List Addr:=frs X.outer
noncomputable def Vis (sc:Scope)(x:Str):Prop:=sc.names.lookup x=some .local\/sc.names.lookup x=some .cell\/sc.names.lookup x=some .free
noncomputable def Loc (sc:Scope)(x:Str):Prop:=sc.names.lookup x=some .local\/sc.names.lookup x=some .cell
noncomputable def Look (env:Env)(h:Heap)(m:Str->α5)(x:Str)(u:Value):Prop:=
 (env.kindOf x=some .local/\m x=some u)\/((env.kindOf x=some .cell\/env.kindOf x=some .free)/\∃c,env.cells.lookup x=some c/\h.IsCell c (some u))
structure Cx.Ok (X:Cx):Prop where
 mod:Mod X.K X.mg X.base
 kind:X.env.scope.kind=.function
 glob:X.env.globals=mainGlobals
 blt:X.env.builtins=builtinsNs
 above:X.s₀.heap.objs.size<=X.env.locals
 inj:∀x y c,X.env.cells.lookup x=some c->X.env.cells.lookup y=some c->x=y
 has:∀x,(X.env.kindOf x=some .cell\/X.env.kindOf x=some .free)->∃c,X.env.cells.lookup x=some c
 cab:∀x c,X.fn x=true->X.env.cells.lookup x=some c->X.s₀.heap.objs.size<=c
 hd:X.calm=true->X.A.handled=none
 frames:X.A.frames=some X.stack
 stk:X.stack=X.outer\/(X.stack=X.env::X.outer/\X.env.frame=some X.env.locals)
 exf:∀b∈X.ex,b≠X.env.locals/\∀x c,X.env.cells.lookup x=some c->c≠b
 bs:∀b o,X.base.get? b=some o->X.s₀.heap.get? b=some o/\X.H₀ b=none
 bsz:X.base.objs.size<=X.s₀.heap.objs.size
 noex:∀b o,X.base.get? b=some o->b∉X.ex
 exfs:∀b∈X.ex,b∉X.fs
 funs:X.s₀.heap.FunFrames X.base X.outer
 frf:∀b∈X.fs,X.H₀ b=none
structure Inv (X:Cx)(aa:α7)(σ:List (Option V))(H:Hp)(s:Shared):Prop where
 ok:X.Ok
 os:s.os=X.s₀.os
 bare:AllBare s.gens
 base:Un X.fs X.ex X.H₀ H X.s₀.heap s.heap
 loc:∃m,s.heap.Ns X.env.locals m/\∀(i:Nat) (x:Str) (v:V),X.N[i]?=some x->σ[i]?=some (some v)->Vis X.env.scope x->∃u,RelV v u/\Look X.env s.heap m x u
 cell:∀x c,X.env.cells.lookup x=some c->∃v,s.heap.IsCell c v
 free:H X.env.locals=none
 freeC:∀x c,X.env.cells.lookup x=some c->H c=none
 pin:∀p∈X.pn++aa,s.heap.get? p.1=some p.2/\H p.1=none/\p.1≠X.env.locals/\p.1∉X.fs/\∀v,p.2.data ≠ .cell v
 hok:HOk X.prog X.w H s.heap
 len:σ.length=X.N.length
section
variable {X:Cx} {aa:α7} {σ:List (Option V)} {H H':Hp} {s:Shared} {h':Heap}
def Cx.Ok.nofr (ok:X.Ok) (e:X.base.get? b=some o):b∉X.fs:=fun hb=>by
 have:=(ok.funs.mem hb).1;rw[e]at this;cases this
def Inv.bs (I:Inv X aa σ H s):∀b o,X.base.get? b=some o->s.heap.get? b=some o/\H b=none:=fun b o e=>
 ⟨I.base.keep b o (I.ok.bs b o e).1 (I.ok.bs b o e).2 (I.ok.nofr e) (I.ok.noex b o e),I.base.free b o (I.ok.bs b o e).1 (I.ok.bs b o e).2 (I.ok.noex b o e)⟩
def Inv.bk (I:Inv X aa σ H s):∀b o,X.base.get? b=some o->s.heap.get? b=some o:=fun b o e=>(I.bs b o e).1
def Inv.mod (I:Inv X aa σ H s):Mod X.K X.mg X.base:=I.ok.mod
def Inv.kIn (I:Inv X aa σ H s):X.K.In s.heap:=I.ok.mod.kin.keeps I.bk
def Inv.lt (I:Inv X aa σ H s):X.env.locals<s.heap.objs.size:=let ⟨_,hn,_⟩:=I.loc;hn.lt
def Inv.sz (I:Inv X aa σ H s):X.s₀.heap.objs.size<=s.heap.objs.size:=j6_ I.ok.above (x0_ I.lt)
def Inv.nofs (I:Inv X aa σ H s) (h:s.heap.objs.size<=a):a∉X.fs:=fun hb=>by
 obtain⟨_,o,ho,_⟩:=I.ok.funs.mem hb;exact absurd (js_ (jk_ ho) (j6_ I.sz h)) (jY_ _)
def Inv.cne (I:Inv X aa σ H s):∀x c,X.env.cells.lookup x=some c->c≠X.env.locals:=fun x c e z=>by
 obtain⟨v,o,ho,hd⟩:=I.cell x c e;obtain⟨m,⟨o',es,ep,b6,jE,_⟩,_⟩:=I.loc;rw[z,b6]at ho;cases ho;rw[jE]at hd;cases hd
def Inv.funs (I:Inv X aa σ H s):s.heap.FunFrames X.base X.outer:=by
 have all:∀(l:List Env),(∀b∈frs l,b∈X.fs)->X.s₀.heap.FunFrames X.base l->s.heap.FunFrames X.base l:=by
  intro l
  induction l with
  |nil=>intro _ _;trivial
  |cons env r ih=>
   intro hs hl;obtain⟨hk,⟨L,o,hf,hn,ho,hd⟩,hr⟩:=hl;have hL:L∈X.fs:=hs L (by unfold frs;rw[zK_,hf];exact jA_);obtain⟨sl,e⟩:=I.base.slot L o ho (I.ok.frf L hL) hL fun z=>I.ok.exfs L z hL;exact⟨hk,⟨L,_,hf,hn,e,hd⟩,ih (fun b hb=>hs b (by unfold frs;rw[zK_,hf];exact jp_ _ hb)) hr⟩
 exact all X.outer (fun _ hb=>hb) I.ok.funs
def Inv.stack (I:Inv X aa σ H s):s.heap.FunFrames X.base X.stack:=by
 rcases I.ok.stk with e|⟨e,hf⟩
 ·rw[e];exact I.funs
 ·rw[e];obtain⟨m,hn,_⟩:=I.loc;refine .cons (by rw[I.ok.kind];decide) hf hn ?_ I.funs;exact Heap.get?_none_of_le (j6_ I.ok.bsz I.ok.above)
def Inv.stkSub (I:Inv X aa σ H s):∀b∈frs X.stack,b∈X.env.locals::X.fs:=fun b hb=>by
 rcases I.ok.stk with e|⟨e,hf⟩
 ·rw[e]at hb;exact jp_ _ hb
 ·rw[e]at hb;unfold frs at hb;rw[zK_,hf]at hb;exact hb
def Inv.stkFree (I:Inv X aa σ H s):∀b∈frs X.stack,H b=none:=fun b hb=>by
 rcases jD_.mp (I.stkSub b hb) with e|hb
 ·rw[e];exact I.free
 ·obtain⟨_,o,ho,_⟩:=I.ok.funs.mem hb;exact I.base.free b o ho (I.ok.frf b hb) fun z=>I.ok.exfs b z hb
def Inv.step {g':Array GenState}{t':Nat}{d':Drawn}{ch:List Addr}(I:Inv X aa σ H s)
  (ff:∀b∈ch,(b∈X.ex\/X.s₀.heap.objs.size<=b)/\b≠X.env.locals/\(∀x c,X.env.cells.lookup x=some c->c≠b)/\∀p∈X.pn++aa,p.1≠b)
  (keep:∀b o,b≠X.env.locals->b∉X.fs->b∉ch->s.heap.get? b=some o->H b=none->h'.get? b=some o)
  (slot:∀b o,b≠X.env.locals->b∈X.fs->b∉ch->s.heap.get? b=some o->H b=none->∃sl,h'.get? b=some {o with slots:=sl}) (free:∀b o,b∉ch->s.heap.get? b=some o->H b=none->H' b=none)
  (there:∀b o,b∉ch->s.heap.get? b=some o->∃o',h'.get? b=some o')
  (tups:∀b xs,H b=some (.tup xs)->H' b=some (.tup xs)) (frzs:∀b o u,H b=some (.frz o u)->H' b=some (.frz o u)) (tbls:∀b ps,H b=some (.tbl ps)->∃more,H' b=some (.tbl (ps++more)))
  (ns:∀m,s.heap.Ns X.env.locals m->h'.Ns X.env.locals m) (hok:HOk X.prog X.w H' h') (hg:AllBare g'):
  Inv X aa σ H' {s with heap:=h',gens:=g',drawn:=d',toks:=t' }:=by
 have neL:∀b o,X.s₀.heap.get? b=some o->b≠X.env.locals:=fun b o e=>jE_ (js_ (jk_ e) I.ok.above);have kO:∀b o,X.s₀.heap.get? b=some o->b∉X.ex->b∉ch:=fun b o e hx hb=>by
  rcases (ff b hb).1 with z|z
  ·exact hx z
  ·exact absurd (js_ (jk_ e) z) (jY_ _)
 have cellK:∀x c,X.env.cells.lookup x=some c->∀v,s.heap.IsCell c v->h'.IsCell c v:=fun x c e v ⟨o,ho,hd⟩=>by
  have dU:c∉ch:=fun z=>(ff c z).2.2.1 x c e rfl;by_cases hc:c∈X.fs
  ·obtain⟨sl,q⟩:=slot c o (I.cne x c e) hc dU ho (I.freeC x c e);exact⟨_,q,hd⟩
  ·exact⟨o,keep c o (I.cne x c e) hc dU ho (I.freeC x c e),hd⟩
 refine⟨I.ok,I.os,hg,⟨fun b o e n hb hx=>?_,fun b o e n hb hx=>?_,fun b o e n hx=>?_,fun b o e hx=>?_,fun b xs e=>tups b xs (I.base.tups b xs e),fun b o xs e=>frzs b o xs (I.base.frzs b o xs e),fun b ps e=>?_⟩,?_,fun x c e=>?_,?_,fun x c e=>?_,fun p hp=>?_,hok,I.len⟩
 ·exact keep b o (neL b o e) hb (kO b o e hx) (I.base.keep b o e n hb hx) (I.base.free b o e n hx)
 ·obtain⟨sl,e1⟩:=I.base.slot b o e n hb hx;obtain⟨jF,e2⟩:=slot b _ (neL b o e) hb (kO b o e hx) e1 (I.base.free b o e n hx);exact⟨jF,e2⟩
 ·obtain⟨o',e1⟩:=I.base.there b o e hx;exact free b o' (kO b o e hx) e1 (I.base.free b o e n hx)
 ·obtain⟨o',e1⟩:=I.base.there b o e hx;exact there b o' (kO b o e hx) e1
 ·obtain⟨m1,e1⟩:=I.base.tbls b ps e;obtain⟨m2,e2⟩:=tbls b _ e1;exact⟨m1++m2,by rw[e2,Array.append_assoc]⟩
 ·obtain⟨m,hn,hl⟩:=I.loc;refine⟨m,ns m hn,fun i x v e1 e2 e3=>?_⟩;obtain⟨u,r,l⟩:=hl i x v e1 e2 e3;refine⟨u,r,?_⟩;rcases l with l|⟨k,c,e,z⟩
  ·exact .inl l
  ·exact .inr ⟨k,c,e,cellK x c e _ z⟩
 ·obtain⟨v,z⟩:=I.cell x c e;exact⟨v,cellK x c e v z⟩
 ·obtain⟨m,⟨o,_,_,ho,_⟩,_⟩:=I.loc;exact free _ o (fun z=>(ff _ z).2.1 rfl) ho I.free
 ·obtain⟨v,o,ho,hd⟩:=I.cell x c e;exact free c o (fun z=>(ff c z).2.2.1 x c e rfl) ho (I.freeC x c e)
 ·obtain⟨e,n,ne,nf,d⟩:=I.pin p hp;have dU:p.1∉ch:=fun z=>(ff p.1 z).2.2.2 p hp rfl;exact⟨keep p.1 p.2 ne nf dU e n,free p.1 p.2 dU e n,ne,nf,d⟩
def Inv.un (I:Inv X aa σ H s)(u:Un X.fs [] H H' s.heap h')(hok:HOk X.prog X.w H' h'):Inv X aa σ H' {s with heap:=h',toks:=t' }:=by
 obtain⟨m,⟨o,es,ep,ho,r⟩,_⟩:=id I.loc;obtain⟨sl,hL⟩:=u.any ho I.free (by simp);exact I.step (g':=s.gens) (d':=s.drawn) (ch:=[]) (fun _ z=>nomatch z) (fun b o _ hb _ e n=>u.keep b o e n hb (by simp)) (fun b o _ hb _ e n=>u.slot b o e n hb (by simp)) (fun b o _ e n=>u.free b o e n (by simp)) (fun b o _ e=>u.there b o e (by simp)) u.tups u.frzs u.tbls (fun m' hm=>by
  obtain⟨o',dv,kP,b6,r'⟩:=hm;rw[ho]at b6;cases b6;exact⟨_,dv,kP,hL,r'⟩) hok I.bare
def Inv.call (I:Inv X aa σ H s)(u:Un (frs X.stack) ch H H' s.heap h')(hok:HOk X.prog X.w H' h')(hg:AllBare g')
  (ff:∀b∈ch,(b∈X.ex\/X.s₀.heap.objs.size<=b)/\b≠X.env.locals/\(∀x c,X.env.cells.lookup x=some c->c≠b)/\∀p∈X.pn++aa,p.1≠b):
  Inv X aa σ H' {s with heap:=h',gens:=g',drawn:=d',toks:=t' }:=by
 obtain⟨m,⟨o,es,ep,ho,r⟩,_⟩:=id I.loc;obtain⟨sl,hL⟩:=u.any ho I.free fun z=>(ff _ z).2.1 rfl;exact I.step (ch:=ch) ff (fun b o hL hb hc e n=>u.keep b o e n (fun z=>(jD_.mp (I.stkSub b z)).elim hL hb) hc) (fun b o _ _ hc e n=>u.any e n hc) (fun b o hc e n=>u.free b o e n hc) (fun b o hc e=>u.there b o e hc) u.tups u.frzs u.tbls (fun m' hm=>by
  obtain⟨o',dv,kP,b6,r'⟩:=hm;rw[ho]at b6;cases b6;exact⟨_,dv,kP,hL,r'⟩) hok hg
def Inv.turned {it:Addr}(I:Inv X aa σ H s)(k:∀b o,b≠it->s.heap.get? b=some o->h'.get? b=some o)(hn:H it=none)(hL:it≠X.env.locals)
  (h1:it∈X.ex\/X.s₀.heap.objs.size<=it) (h2:∀x c,X.env.cells.lookup x=some c->c≠it) (h3:∀p∈X.pn++aa,p.1≠it):Inv X aa σ H {s with heap:=h',toks:=t' }:=by
 have nit:∀b u,H b=some u->b≠it:=fun b u e z=>by rw[z,hn]at e;cases e
 refine I.step (g':=s.gens) (d':=s.drawn) (ch:=[it]) (fun b hb=>?_) (fun b o _ _ hc e _=>k b o (fun z=>hc (by simp[z])) e) (fun b o _ _ hc e _=>⟨o.slots,k b o (fun z=>hc (by simp[z])) e⟩) (fun _ _ _ _ n=>n)
  (fun b o hc e=>⟨o,k b o (fun z=>hc (by simp[z])) e⟩) (fun _ _ e=>e) (fun _ _ _ e=>e) (fun b ps e=>⟨#[],by rw[e];simp⟩) (fun m hm=>?_) (fun b u e=>?_) I.bare
 ·have e:b=it:=by simpa using hb
  subst e;exact⟨h1,hL,h2,h3⟩
 ·obtain⟨o,es,ep,ho,r⟩:=hm;exact⟨o,es,ep,k _ o (qn_ hL) ho,r⟩
 ·refine (I.hok b u e).stay (fun c v hc q=>k c v ?_ q) (fun _ q=>q) fun _ _ q=>q;rcases hc with z|z
  ·rw[z];exact nit b u e
  ·exact nit c _ z
def Inv.tok (I:Inv X aa σ H s)(t:Nat):Inv X aa σ H {s with toks:=t}:=I.un (h':=s.heap) (t':=t) Un.refl I.hok
def Inv.kept (I:Inv X aa σ H s)(k:∀b u,s.heap.get? b=some u->h'.get? b=some u):Inv X aa σ H {s with heap:=h',toks:=t' }:=I.un (Un.kept k) (I.hok.kept k)
def Inv.laid (I:Inv X aa σ H s)(k:∀b u,s.heap.get? b=some u->h'.get? b=some u)(hp:s.heap.objs.size<=a)(new:AY X.prog X.w (upd H a o) h' a o):
  Inv X aa σ (upd H a o) {s with heap:=h',toks:=t' }:=I.un (Un.laid k hp (I.hok.fresh hp)) (I.hok.laid k hp new)
def Inv.write (I:Inv X aa σ H s)(mu:Mut (H x))(he:e=x\/H e=some (.own x))(k:∀b u,b≠e->s.heap.get? b=some u->h'.get? b=some u)(fb:∃u,h'.get? e=some u)
  (new:AY X.prog X.w (upd H x o) h' x o):Inv X aa σ (upd H x o) {s with heap:=h',toks:=t' }:=I.un (Un.write mu he k fb) (I.hok.write mu he k fb new)
def Inv.pins_of (I:Inv X aa σ H s)(h:∀p∈aE,s.heap.get? p.1=some p.2/\H p.1=none/\p.1≠X.env.locals/\p.1∉X.fs/\∀v,p.2.data ≠ .cell v):Inv X aE σ H s:=
 ⟨I.ok,I.os,I.bare,I.base,I.loc,I.cell,I.free,I.freeC,fun p hp=>(jJ_.mp hp).elim (fun z=>I.pin p (j5_ _ z)) (h p),I.hok,I.len⟩
def L4 {N:List Str}(hN:N.Nodup){i j:Nat}{x:Str}(a:N[i]?=some x)(b:N[j]?=some x):i=j:=by
 obtain⟨h1,e1⟩:=je_.mp a;obtain⟨h2,e2⟩:=je_.mp b;exact (oB hN).mp (e1.trans e2.symm)
def MU (I:Inv X aa σ H s)(hN:X.N.Nodup)(hi:X.N[i]?=some x)(hx:Loc X.env.scope x)(r:RelV v u)
  (h:∀s',Inv X aa (σ.set i (some v)) H s'->(∃a,Heap.SameBut a s.heap s'.heap/\(a=X.env.locals\/X.env.cells.lookup x=some a))->Q () s') (hf:X.fn x=true\/X.env.scope.names.lookup x=some .local:=by first|exact .inl rfl|exact .inr rfl|assumption):wpAny M A (storeName X.env x u) Q E s:=by
 obtain⟨m,hn,hl⟩:=id I.loc;have hcls:(X.env.scope.kind == .class||(X.env.scope.kind == .module&&X.env.locals != X.env.globals))=false:=by rw[I.ok.kind];rfl
 have hiσ:i<σ.length:=by rw[I.len];exact (je_.mp hi).1
 have cne:=I.cne;have aU:∀{a:Addr} {h':Heap},(∃o,s.heap.get? a=some o/\H a=none)->Heap.SameBut a s.heap h'->HOk X.prog X.w H h':=fun {a h'} ha hs b ob e=>by
  obtain⟨_,_,hfree⟩:=ha;refine (I.hok b ob e).stay (fun c w' hc q=>(hs.2 c ?_).trans q) (fun _ q=>q) fun _ _ q=>q;rintro rfl;rcases hc with rfl|hc
  ·rw[hfree]at e;cases e
  ·rw[hfree]at hc;cases hc
 rcases hx with hk|hk
 ·refine wpAny_storeName_local hk hn (fun h' bx hs=>?_) hcls;obtain⟨oL,_,_,hoL,_⟩:=id hn;refine h _ ⟨I.ok,I.os,I.bare,⟨fun b o e n hb hx=>?_,fun b o e n hb hx=>?_,I.base.free,fun b o e hx=>?_,I.base.tups,I.base.frzs,I.base.tbls⟩,⟨_,bx,fun j y v' e1 e2 e3=>?_⟩,fun y c e=>?_,I.free,I.freeC,fun p hp=>?_,aU ⟨oL,hoL,I.free⟩ hs,by simpa using I.len⟩ ⟨_,hs,.inl rfl⟩
  ·exact (hs.2 b (jE_ (js_ (jk_ e) I.ok.above))).trans (I.base.keep b o e n hb hx)
  ·obtain⟨sl,e1⟩:=I.base.slot b o e n hb hx;exact⟨sl,(hs.2 b (jE_ (js_ (jk_ e) I.ok.above))).trans e1⟩
  ·obtain⟨o',e1⟩:=I.base.there b o e hx;exact⟨o',(hs.2 b (jE_ (js_ (jk_ e) I.ok.above))).trans e1⟩
  ·by_cases hj:j=i
   ·subst hj;rw[hi]at e1;cases e1;rw[zi_ hiσ]at e2;cases e2;exact⟨u,r,.inl ⟨hk,by simp⟩⟩
   ·rw[zF_ (qn_ hj)]at e2;obtain⟨u',r',q⟩:=hl j y v' e1 e2 e3;refine⟨u',r',?_⟩;rcases q with ⟨k,e⟩|⟨k,c,e,z⟩
    ·refine .inl ⟨k,?_⟩;have:y≠x:=fun e=>hj (L4 hN e1 (e ▸ hi));simp[this,e]
    ·exact .inr ⟨k,c,e,z.sameBut hs (cne y c e)⟩
  ·obtain⟨w',z⟩:=I.cell y c e;exact⟨w',z.sameBut hs (cne y c e)⟩
  ·obtain⟨e,n,ne,nf,d⟩:=I.pin p hp;exact⟨(hs.2 p.1 ne).trans e,n,ne,nf,d⟩
 ·have lP:X.fn x=true:=by
   rcases hf with z|z
   ·exact z
   ·rw[z]at hk;cases hk
  obtain⟨c,hc⟩:=I.ok.has x (.inl hk);obtain⟨w',z⟩:=I.cell x c hc;refine wpAny_storeName_cell I.ok.kind hk hc z (fun h' dW hs=>?_);obtain⟨oc,dw,hocd⟩:=id z;refine h {s with heap:=h' } ⟨I.ok,I.os,I.bare,⟨fun b o e n hb hx=>?_,fun b o e n hb hx=>?_,I.base.free,fun b o e hx=>?_,I.base.tups,I.base.frzs,I.base.tbls⟩,⟨m,hn.sameBut hs (qn_ (cne x c hc)),fun j y v' e1 e2 e3=>?_⟩,fun y c' e=>?_,I.free,I.freeC,fun p hp=>?_,aU ⟨oc,dw,I.freeC x c hc⟩ hs,by simpa using I.len⟩ ⟨c,hs,.inr hc⟩
  ·exact (hs.2 b (jE_ (js_ (jk_ e) (I.ok.cab x c lP hc)))).trans (I.base.keep b o e n hb hx)
  ·obtain⟨sl,e1⟩:=I.base.slot b o e n hb hx;exact⟨sl,(hs.2 b (jE_ (js_ (jk_ e) (I.ok.cab x c lP hc)))).trans e1⟩
  ·obtain⟨o',e1⟩:=I.base.there b o e hx;exact⟨o',(hs.2 b (jE_ (js_ (jk_ e) (I.ok.cab x c lP hc)))).trans e1⟩
  ·by_cases hj:j=i
   ·subst hj;rw[hi]at e1;cases e1;rw[zi_ hiσ]at e2;cases e2;exact⟨u,r,.inr ⟨.inl hk,c,hc,dW⟩⟩
   ·rw[zF_ (qn_ hj)]at e2;obtain⟨u',r',q⟩:=hl j y v' e1 e2 e3;refine⟨u',r',?_⟩;rcases q with q|⟨k,c',e,z'⟩
    ·exact .inl q
    ·refine .inr ⟨k,c',e,z'.sameBut hs ?_⟩;rintro rfl;exact hj (L4 hN e1 (I.ok.inj _ _ _ e hc ▸ hi))
  ·by_cases ik:c'=c
   ·subst ik;exact⟨_,dW⟩
   ·obtain⟨w2,z2⟩:=I.cell y c' e;exact⟨w2,z2.sameBut hs ik⟩
  ·obtain⟨e,n,ne,nf,d⟩:=I.pin p hp;refine⟨(hs.2 p.1 ?_).trans e,n,ne,nf,d⟩;intro q;rw[q,dw]at e;have q':oc=p.2:=jt_ e;exact d w' (by rw[<-q'];exact hocd)
def Kd (I:Inv X aa σ H s)(hN:X.N.Nodup)(hi:X.N[i]?=some x)(hx:Loc X.env.scope x)(r:RelV v u)
  (h:∀s',Inv X aa (σ.set i (some v)) H s'->Q () s') (hf:X.fn x=true\/X.env.scope.names.lookup x=some .local:=by first|exact .inl rfl|exact .inr rfl|assumption):wpAny M A (storeName X.env x u) Q E s:=
 MU I hN hi hx r (fun s' I' _=>h s' I') hf
def Inv.call' (I:Inv X aa σ H s)(ho:s'.os=s.os)(u:Un (frs X.stack) ch H H' s.heap s'.heap)(hok:HOk X.prog X.w H' s'.heap)(hg:AllBare s'.gens)
  (ff:∀b∈ch,(b∈X.ex\/X.s₀.heap.objs.size<=b)/\b≠X.env.locals/\(∀x c,X.env.cells.lookup x=some c->c≠b)/\∀p∈X.pn++aa,p.1≠b):Inv X aa σ H' s':=by
 obtain⟨h',g',d',t',o'⟩:=s';have e:o'=s.os:=ho;subst e;exact I.call (g':=g') (t':=t') (d':=d') u hok hg ff
end
noncomputable abbrev XK:=Value->Option Addr->Hp->Prop
noncomputable abbrev St:=List (Option V)
noncomputable abbrev VK:=V->Hp->Prop
noncomputable abbrev TE:=St->Hp->VK->Prop
noncomputable abbrev TT:=St->Hp->(Bool->Hp->Prop)->Prop
noncomputable abbrev TA:=St->Hp->(List V->Hp->Prop)->Prop
structure Ends where
 nx:St->Hp->Prop
 rt:VK
 bk:St->Hp->Prop:=fun _ _=>False
 ct:St->Hp->Prop:=fun _ _=>False
noncomputable abbrev TS:=Ends->St->Hp->Prop
noncomputable def EP (X:Cx)(aa:α7)(σ:St)(Q:VK)(u:Value)(s':Shared):Prop:=∃v H',Inv X aa σ H' s'/\RelV v u/\Q v H'
noncomputable def TP (X:Cx)(aa:α7)(σ:St)(Q:Bool->Hp->Prop)(b:Bool)(s':Shared):Prop:=∃H',Inv X aa σ H' s'/\Q b H'
noncomputable def AP (X:Cx)(aa:α7)(σ:St)(Q:List V->Hp->Prop)(us:List Value)(s':Shared):Prop:=∃vs H',Inv X aa σ H' s'/\Vals vs us/\Q vs H'
noncomputable def SP (X:Cx)(aa:α7)(D:Ends)(f:Flow)(s':Shared):Prop:=
 match f with
 |.next=>∃af H',Inv X aa af H' s'/\D.nx af H'
 |.brk=>∃af H',Inv X aa af H' s'/\D.bk af H'
 |.cont=>∃af H',Inv X aa af H' s'/\D.ct af H'
 |.ret u=>∃v af H',Inv X aa af H' s'/\RelV v u/\D.rt v H'
noncomputable def PE (X:Cx)(e:Expr)(t:TE):Prop:=
 ∀(aa:α7) (s:Shared) (σ:St) (H:Hp) (Q:VK),Inv X aa σ H s->t σ H Q->wpAny (model X.prog X.w) X.A (eval e X.env) (EP X aa σ Q) X.xe s
noncomputable def PT (X:Cx)(e:Expr)(t:TT):Prop:=
 ∀(aa:α7) (s:Shared) (σ:St) (H:Hp) (Q:Bool->Hp->Prop),Inv X aa σ H s->t σ H Q->wpAny (model X.prog X.w) X.A (isTrue e X.env (eval e X.env)) (TP X aa σ Q) X.xe s
noncomputable def PW (X:Cx)(e:Expr)(t:TT):Prop:=
 ∀(dy:Sem Value) (aa:α7) (s:Shared) (σ:St) (H:Hp) (Q:Bool->Hp->Prop),Inv X aa σ H s->t σ H Q->wpAny (model X.prog X.w) X.A (isTrue e X.env dy) (TP X aa σ Q) X.xe s
def PW.pt (h:PW X e t):PT X e t:=h _
noncomputable def PA (X:Cx)(es:List Expr)(t:TA):Prop:=
 ∀(pos:Pos) (aa:α7) (s:Shared) (σ:St) (H:Hp) (Q:List V->Hp->Prop),Inv X aa σ H s->t σ H Q->wpAny (model X.prog X.w) X.A (spliced (backTo pos (starEach es X.env))) (AP X aa σ Q) X.xe s
noncomputable def PS (X:Cx)(st:Stmt)(t:TS):Prop:=
 ∀(aa:α7) (s:Shared) (σ:St) (H:Hp) (D:Ends),Inv X aa σ H s->t D σ H->wpAny (model X.prog X.w) X.A (exec st X.env) (SP X aa D) X.xe s
noncomputable def PSs (X:Cx)(st:List Stmt)(t:TS):Prop:=
 ∀(aa:α7) (s:Shared) (σ:St) (H:Hp) (D:Ends),Inv X aa σ H s->t D σ H->wpAny (model X.prog X.w) X.A (execs st X.env) (SP X aa D) X.xe s
def thn (h:wpAny M A t Q E s)(hQ:∀a s,Q a s->Q' a s):wpAny M A t Q' E s:=qQ_ h hQ fun _ _ x=>x
end L2
namespace L2
open PySem PySem.Spec PyProof.Rows
section
variable {X:Cx}
noncomputable def tVar (i:Nat):TE:=fun σ H Q=>∃v,σ[i]?=some (some v)/\Q v H
noncomputable def tC (v:V):TE:=fun _ H Q=>Q v H
def WR (hN:X.N[i]?=some x)(hv:Vis X.env.scope x)(hd:(x==("__debug__" : Str))=false:=by decide)(cI:(x==("__classdict__" : Str))=false:=by decide):PE X (.Name x pos) (tVar i):=by
 intro aa s σ H Q I h;obtain⟨v,e,h⟩:=h;obtain⟨m,hn,hl⟩:=I.loc;obtain⟨u,r,l⟩:=hl i x v hN e hv;have fin:EP X aa σ Q u s:=⟨v,H,I,r,h⟩;rcases l with ⟨hk,hm⟩|⟨hk,c,hc,dz⟩
 ·exact wpAny_Name (wpAny_loadName_local I.ok.kind hk hn hm fin) hd
 ·rcases hk with hk|hk
  ·exact wpAny_Name (wpAny_loadName_cell I.ok.kind hk hc dz fin) hd
  ·exact wpAny_Name (wpAny_loadName_free I.ok.kind hk hc dz fin cI) hd
def Ai {i j pos}:PE X (.Constant (.int i) j pos) (tC (.int i)):=fun _ _ _ H _ I h=>wpAny_Constant_int ⟨.int i,H,I.tok _,⟨_,rfl⟩,h⟩
def DV {b j pos}:PE X (.Constant (.bool b) j pos) (tC (.bl b)):=fun _ _ _ H _ I h=>Constant_bool ⟨.bl b,H,I,rfl,h⟩
def Bw {j pos}:PE X (.Constant .none j pos) (tC .non):=fun _ _ _ H _ I h=>Constant_none ⟨.non,H,I,rfl,h⟩
def AA {x j pos}:PE X (.Constant (.str x) j pos) (tC (.str x)):=fun _ _ _ H _ I h=>Calls.Constant_str ⟨.str x,H,I.tok _,⟨_,rfl⟩,h⟩
noncomputable def Gl (X:Cx)(x:Str):Prop:=X.env.kindOf x=some .globalImplicit
def II (I:Inv X aa σ H s)(hg:Gl X x)(hm:X.mg x=some u)(h:Q u s)
  (hd:(x==("__debug__" : Str))=false:=by decide):wpAny (model X.prog X.w) X.A (eval (.Name x pos) X.env) Q E s:=
 Calls.Name_function_global I.ok.kind hg (Calls.loadGlobal_global (by rw[I.ok.glob];exact I.mod.glob.keeps I.bk) hm h) hd
def Hv (I:Inv X aa σ H s)(hg:Gl X x)(hm:X.mg x=none)(hv:bootBuiltins x=some u)(h:Q u s)
  (hn:x ≠ "__name__" := by decide) (hd:(x==("__debug__" : Str))=false:=by decide):wpAny (model X.prog X.w) X.A (eval (.Name x pos) X.env) Q E s:=by
 obtain⟨mb,h1,h2⟩:=I.mod.blt;exact Calls.Name_function_global I.ok.kind hg (Calls.loadGlobal_builtin (by rw[I.ok.glob];exact I.mod.glob.keeps I.bk) hm (by rw[I.ok.blt];exact h1.keeps I.bk) ((h2 x hn).trans hv) h) hd
def Kr (hg:Gl X x)(hm:X.mg x=some u)(r:RelV v u)(hd:(x==("__debug__" : Str))=false:=by decide):PE X (.Name x pos) (tC v):=
 fun _ _ _ H _ I h=>II I hg hm ⟨v,H,I,r,h⟩ hd
def VC (hg:Gl X x)(hm:X.mg x=none)(hv:bootBuiltins x=some u)(r:RelV v u)(hn:x ≠ "__name__" := by decide)(hd:(x==("__debug__" : Str))=false:=by decide):PE X (.Name x pos) (tC v):=
 fun _ _ _ H _ I h=>Hv I hg hm hv ⟨v,H,I,r,h⟩ hn hd
variable {a b:Expr} {ta tb:TE} {pos:Pos}
noncomputable def PC (X:Cx)(op:CmpOp)(a b:Expr)(t:TE):Prop:=
 ∀(aa:α7) (s:Shared) (σ:St) (H:Hp) (Q:VK),Inv X aa σ H s->t σ H Q ->
  wpAny (model X.prog X.w) X.A (eval a X.env) (fun v s₁=>wpAny (model X.prog X.w) X.A (eval b X.env) (fun u aY=>wpAny (model X.prog X.w) X.A (compareOp op v u) (EP X aa σ Q) X.xe aY) X.xe s₁) X.xe s
def SM (b:Expr) (h:op ≠ .In)(h2:op ≠ .NotIn):behindInMarks op b=false:=by
 have e1:(op==CmpOp.In)=false:=by cases op<;>first|rfl|exact absurd rfl h
 have e2:(op==CmpOp.NotIn)=false:=by cases op<;>first|rfl|exact absurd rfl h2
 cases b<;>simp[behindInMarks,e1,e2]
noncomputable def tB (t:TE):TT:=fun σ H Q=>t σ H fun x H1=>∃c,x=.bl c/\Q c H1
def WT (h:PC X op a b t)(h1:behindInMarks op b=false:=by first|exact SM _ (by decide) (by decide)|rfl):PT X (.Compare a [op] [b] pos) (tB t):=by
 intro aa s σ H Q I hw;refine wpAny_isTrue_Compare1 (thn (h aa s σ H _ I hw) fun v s1 h1=>thn h1 fun u s2 h2=>thn h2 fun c s3 ⟨x,H1,I1,r1,q1⟩=>?_) h1;obtain⟨d,rfl,q⟩:=q1;cases r1;exact xi_ ⟨H1,I1,q⟩
def Fv (h:PE X e t)(he:∀dy,isTrue e X.env dy=(do let v <- dy;standAt e.pos;holding [v] (truthy v)):=by intro _;rfl):PT X e (tB t):=by
 intro aa s σ H Q I hw;refine isTrue_plain (thn (h aa s σ H _ I hw) fun v s1 ⟨x,H1,I1,r1,q1⟩=>?_) (he _);obtain⟨d,rfl,q⟩:=q1;cases r1;exact xi_ ⟨H1,I1,q⟩
variable {tA kQ:TT} {rest:List Expr}
noncomputable def tAnd (t u:TT):TT:=fun σ H Q=>t σ H fun c H1=>if c=true then u σ H1 Q else Q false H1
noncomputable def tOr (t u:TT):TT:=fun σ H Q=>t σ H fun c H1=>if c=true then Q true H1 else u σ H1 Q
noncomputable def tNot (t:TT):TT:=fun σ H Q=>t σ H fun c H1=>Q (!c) H1
def VD (ha:PT X a tA):PW X (.BoolOp .And [a] pos) tA:=by
 intro wh aa s σ H Q I h;refine isTrue_and (thn (ha aa s σ H Q I h) fun c s1 e=>?_);cases c with
 |true=>exact isTrue_and_nil e
 |false=>exact e
def Kt (ha:PT X a tA):PW X (.BoolOp .Or [a] pos) tA:=by
 intro wh aa s σ H Q I h;refine isTrue_or (thn (ha aa s σ H Q I h) fun c s1 e=>?_);cases c with
 |false=>exact isTrue_or_nil e
 |true=>exact e
def WU (ha:PT X a tA)(hb:PW X (.BoolOp .And (b::rest) pos) kQ):PW X (.BoolOp .And (a::b::rest) pos) (tAnd tA kQ):=by
 intro wh aa s σ H Q I h;refine isTrue_and (thn (ha aa s σ H _ I h) fun c s1 ⟨H1,I1,q1⟩=>?_);cases c with
 |true=>exact hb wh aa s1 σ H1 Q I1 q1
 |false=>exact⟨H1,I1,q1⟩
def NZ (ha:PT X a tA)(hb:PW X (.BoolOp .Or (b::rest) pos) kQ):PW X (.BoolOp .Or (a::b::rest) pos) (tOr tA kQ):=by
 intro wh aa s σ H Q I h;refine isTrue_or (thn (ha aa s σ H _ I h) fun c s1 ⟨H1,I1,q1⟩=>?_);cases c with
 |true=>exact⟨H1,I1,q1⟩
 |false=>exact hb wh aa s1 σ H1 Q I1 q1
def OK (ha:PT X a tA):PT X (.UnaryOp .Not a pos) (tNot tA):=by
 intro aa s σ H Q I h;exact isTrue_not (ha aa s σ H (fun c H1=>Q (!c) H1) I h)
noncomputable def WV (ta tb:TE):TE:=fun σ H Q=>ta σ H fun x H1=>∃c,x=.bl c/\if c=true then tb σ H1 Q else Q (.bl false) H1
def WW {op} (h:PE X a t):PE X (.BoolOp op [a] pos) t:=fun aa s σ H Q I hw=>BoolOp_one (h aa s σ H Q I hw)
def WX (ha:PE X a ta)(hb:PE X (.BoolOp .And (b::rest) pos) tb):PE X (.BoolOp .And (a::b::rest) pos) (WV ta tb):=by
 intro aa s σ H Q I h;refine BoolOp_and (thn (ha aa s σ H _ I h) fun v s1 ⟨x,H1,I1,r1,q1⟩=>?_);obtain⟨c,rfl,q1⟩:=q1;cases r1;refine xi_ ?_;cases c with
 |true=>exact hb aa s1 σ H1 Q I1 q1
 |false=>exact⟨.bl false,H1,I1,rfl,q1⟩
noncomputable def tIf (t:TT)(ta tb:TE):TE:=fun σ H Q=>t σ H fun c H1=>if c=true then ta σ H1 Q else tb σ H1 Q
def OL (hc:PT X c tA)(ha:PE X a ta)(hb:PE X b tb):PE X (.IfExp c a b pos) (tIf tA ta tb):=by
 intro aa s σ H Q I h;refine wpAny_IfExp (thn (hc aa s σ H _ I h) fun d s1 ⟨H1,I1,q1⟩=>?_);cases d with
 |true=>exact ha aa s1 σ H1 Q I1 q1
 |false=>exact hb aa s1 σ H1 Q I1 q1
end
end L2
namespace L2
open PySem PySem.Spec PyProof.Rows
noncomputable def SqL (K:α3)(H:Hp)(a:Addr)(xs:List V):Prop:=
 Rd H a (.lst xs) \/
  ∃(o:Obj) (its:Array Value) (n:Nat),K.lookup a=some o/\o.cls=.type "list" /\ o.dict=none/\o.data=.seq its n/\its.size<=sizeLine/\Vals xs its.toList
noncomputable def SqT (K:α3)(H:Hp)(a:Addr)(xs:List V):Prop:=
 Rd H a (.tup xs) \/
  ∃(o:Obj) (its:Array Value) (n:Nat),K.lookup a=some o/\o.cls=.type "tuple" /\ o.data=.seq its n/\its.size<=sizeLine/\Vals xs its.toList
noncomputable def absV:Value->Option V
 |.none=>some .non
 |.bool b=>some (.bl b)
 |.int i _=>some (.int i)
 |.str x _=>some (.str x)
 |.bytes b _=>some (.byt b)
 |.float b _=>some (.flt b)
 |.ref a=>some (.ref a)
 |.type n=>some (.ty n)
 |_=>none
def RelV.abs (r:RelV x u):absV u=some x:=by
 cases x with
 |non=>cases r;rfl
 |bl _=>cases r;rfl
 |int _=>obtain⟨t,rfl⟩:=r;rfl
 |str _=>obtain⟨t,rfl⟩:=r;rfl
 |byt _=>obtain⟨t,rfl⟩:=r;rfl
 |flt _=>obtain⟨t,rfl⟩:=r;rfl
 |ref _=>cases r;rfl
 |ty _=>cases r;rfl
def RelV.inj (r:RelV x u)(q:RelV y u):x=y:=jt_ (r.abs.symm.trans q.abs)
def Vals.inj:∀{xs ys:List V} {us:List Value},Vals xs us->Vals ys us->xs=ys
 |_,_,_,.nil,.nil=>rfl
 |_,_,_,.cons r t,.cons r' t'=>by rw[r.inj r',Vals.inj t t']
section
variable {X:Cx} {aa:α7} {σ:St} {H:Hp} {s:Shared} {a:Addr} {xs ys:List V}
def SqL.of {K:α3}(h:H a=some (.lst xs)):SqL K H a xs:=.inl (.inl h)
def SqT.of {K:α3}(h:H a=some (.tup xs)):SqT K H a xs:=.inl (.inl h)
def Inv.list (I:Inv X aa σ H s)(h:SqL X.K H a xs):∃its:List Value,Vals xs its/\PlainL s.heap a its.toArray/\xs.length<=sizeLine:=by
 rcases h with h|⟨o,its,n,hk,hc,hd,hs,hz,r⟩
 ·obtain⟨z,its,n,r,e⟩:=h.ok I.hok;exact⟨its,r,⟨_,n,e,rfl,rfl,rfl⟩,z⟩
 ·refine⟨its.toList,r,⟨o,n,I.kIn a o hk,hc,hd,by simpa using hs⟩,?_⟩;have e:=r.length;simp only[qR_]at e;lia
def Inv.tuple (I:Inv X aa σ H s)(h:SqT X.K H a xs):∃its:List Value,Vals xs its/\IsTup s.heap a its.toArray/\xs.length<=sizeLine:=by
 rcases h with h|⟨o,its,n,hk,hc,hs,hz,r⟩
 ·obtain⟨z,its,r,p⟩:=h.ok I.hok;exact⟨its,r,p,z⟩
 ·refine⟨its.toList,r,⟨o,I.kIn a o hk,hc,n,by simpa using hs⟩,?_⟩;have e:=r.length;simp only[qR_]at e;lia
def Inv.list_inj (I:Inv X aa σ H s)(h:SqL X.K H a xs)(h':SqL X.K H a ys):xs=ys:=by
 obtain⟨its,r,⟨o,n,e,_,_,d⟩,_⟩:=I.list h;obtain⟨its',r',⟨o',n',e',_,_,d'⟩,_⟩:=I.list h';rw[e]at e';cases e';rw[d]at d';injection d' with d1 _;have:its=its':=by simpa using qY_ rg d1
 subst this;exact r.inj r'
def Inv.tuple_inj (I:Inv X aa σ H s)(h:SqT X.K H a xs)(h':SqT X.K H a ys):xs=ys:=by
 obtain⟨its,r,⟨o,e,_,n,d⟩,_⟩:=I.tuple h;obtain⟨its',r',⟨o',e',_,n',d'⟩,_⟩:=I.tuple h';rw[e]at e';cases e';rw[d]at d';injection d' with d1 _;have:its=its':=by simpa using qY_ rg d1
 subst this;exact r.inj r'
end
noncomputable abbrev Cx.wish (X:Cx)(E:Value->Shared->Prop):Cx:={X with xe:=E}
noncomputable abbrev Cx.nox (X:Cx):Cx:=X.wish fun _ _=>False
def Cx.Ok.wish {X:Cx}(ok:X.Ok)(E:Value->Shared->Prop):(X.wish E).Ok:=
 ⟨ok.mod,ok.kind,ok.glob,ok.blt,ok.above,ok.inj,ok.has,ok.cab,ok.hd,ok.frames,ok.stk,ok.exf,ok.bs,ok.bsz,ok.noex,ok.exfs,ok.funs,ok.frf⟩
def Cx.Ok.unwish {X:Cx}{E:Value->Shared->Prop}(ok:(X.wish E).Ok):X.Ok:=
 ⟨ok.mod,ok.kind,ok.glob,ok.blt,ok.above,ok.inj,ok.has,ok.cab,ok.hd,ok.frames,ok.stk,ok.exf,ok.bs,ok.bsz,ok.noex,ok.exfs,ok.funs,ok.frf⟩
section
variable {X:Cx} {aa:α7} {σ:St} {H:Hp} {s:Shared} {E:Value->Shared->Prop}
def Inv.wish (I:Inv X aa σ H s)(E:Value->Shared->Prop):Inv (X.wish E) aa σ H s:=⟨I.ok.wish E,I.os,I.bare,I.base,I.loc,I.cell,I.free,I.freeC,I.pin,I.hok,I.len⟩
def Inv.unwish (I:Inv (X.wish E) aa σ H s):Inv X aa σ H s:=⟨I.ok.unwish,I.os,I.bare,I.base,I.loc,I.cell,I.free,I.freeC,I.pin,I.hok,I.len⟩
def SP.unwish (h:SP (X.wish E) aa D f s'):SP X aa D f s':=by
 cases f with
 |next=>obtain⟨af,H',I,q⟩:=h;exact⟨af,H',I.unwish,q⟩
 |brk=>obtain⟨af,H',I,q⟩:=h;exact⟨af,H',I.unwish,q⟩
 |cont=>obtain⟨af,H',I,q⟩:=h;exact⟨af,H',I.unwish,q⟩
 |ret u=>obtain⟨v,af,H',I,r,q⟩:=h;exact⟨v,af,H',I.unwish,r,q⟩
def PSs.nox {st:List Stmt} (h:PSs X.nox st t):PSs X st t:=fun aa s σ H D I hw=>
 qQ_ (h aa s σ H D (I.wish _) hw) (fun _ _ q=>q.unwish) fun _ _ z=>nN z
end
section
variable {X:Cx} {st:Stmt} {rest:List Stmt} {t u:TS} {e:Expr} {te:TE} {pos:Pos}
noncomputable def WY:TS:=fun D σ H=>D.nx σ H
noncomputable def tSeq (t u:TS):TS:=fun D σ H=>t {D with nx:=u D} σ H
def Au:PSs X [] WY:=fun _ _ σ H _ I h=>x7_ ⟨σ,H,I,h⟩
def Ac (h1:PS X st t)(h2:PSs X rest u):PSs X (st::rest) (tSeq t u):=by
 intro aa s σ H D I h;refine wpAny_execs_cons (thn (h1 aa s σ H {D with nx:=u D} I h) fun f s1 q=>?_);cases f with
 |next=>
  obtain⟨af,H',I',q⟩:=q;exact h2 aa s1 af H' D I' q
 |ret v=>exact q
 |brk=>exact q
 |cont=>exact q
def Ae (h1:PS X st t):PSs X [st] t:=by
 intro aa s σ H D I h;refine wpAny_execs_cons (thn (h1 aa s σ H D I h) fun f s1 q=>?_);cases f with
 |next=>exact x7_ q
 |ret v=>exact q
 |brk=>exact q
 |cont=>exact q
def Inv.quiet (I:Inv X aa σ H s):interactive X.env=false:=by simp[interactive,I.ok.kind]
noncomputable def WZ (te:TE):TS:=fun D σ H=>te σ H fun _ H1=>D.nx σ H1
def AB (he:PE X e te)(hs:swapsWith e none pos.line X.env=pure false:=by rfl):PS X (.Expr e pos) (WZ te):=by
 intro aa s σ H D I h;exact wpAny_Expr_any (thn (he aa s σ H _ I h) fun v s1 ⟨x,H1,I1,r1,q1⟩=>⟨σ,H1,I1,q1⟩) I.quiet hs
noncomputable def tRet (te:TE):TS:=fun D σ H=>te σ H D.rt
def Am (he:PE X e te):PS X (.Return (some e) pos) (tRet te):=by
 intro aa s σ H D I h;exact wpAny_Return_some (thn (he aa s σ H _ I h) fun v s1 ⟨x,H1,I1,r1,q1⟩=>⟨x,σ,H1,I1,r1,q1⟩)
noncomputable def tIfS (c:TT)(t u:TS):TS:=fun D σ H=>c σ H fun b H1=>if b=true then t D σ H1 else u D σ H1
def AZ (hc:PT X c tc)(ha:PSs X a t)(hb:PSs X b u):PS X (.If c a b pos) (tIfS tc t u):=by
 intro aa s σ H D I h;refine wpAny_If (thn (hc aa s σ H _ I h) fun d s1 ⟨H1,I1,q1⟩=>?_);cases d with
 |true=>exact ha aa s1 σ H1 D I1 q1
 |false=>exact hb aa s1 σ H1 D I1 q1
end
noncomputable abbrev TG:=V->St->Hp->(St->Hp->Prop)->Prop
noncomputable abbrev TGs:=List V->St->Hp->(St->Hp->Prop)->Prop
noncomputable def PG (X:Cx)(bF:Expr)(t:TG):Prop:=
 ∀(aa:α7) (s:Shared) (σ:St) (H:Hp) (v:V) (u:Value) (Q:St->Hp->Prop),Inv X aa σ H s->RelV v u->t v σ H Q ->
  wpAny (model X.prog X.w) X.A (assign bF X.env u) (fun _ s'=>∃af H',Inv X aa af H' s'/\Q af H') X.xe s
noncomputable def PGs (X:Cx)(ts:List Expr)(t:TGs):Prop:=
 ∀(aa:α7) (s:Shared) (σ:St) (H:Hp) (vs:List V) (us:List Value) (Q:St->Hp->Prop),Inv X aa σ H s->Vals vs us->t vs σ H Q ->
  wpAny (model X.prog X.w) X.A (assignInOrder ((assignEach ts X.env).map (·.2)) us) (fun _ s'=>∃af H',Inv X aa af H' s'/\Q af H') X.xe s
noncomputable abbrev TIp:=V->V->Hp->VK->Prop
noncomputable def PIp (X:Cx)(op:Operator)(t:TIp):Prop:=
 ∀(aa:α7) (s:Shared) (σ:St) (H:Hp) (x y:V) (v u:Value) (Q:VK),Inv X aa σ H s->RelV x v->RelV y u->t x y H Q ->
  wpAny (model X.prog X.w) X.A (inplaceOp op v u) (EP X aa σ Q) X.xe s
section
variable {X:Cx} {pos:Pos}
noncomputable def IJ (i:Nat):TG:=fun v σ H Q=>Q (σ.set i (some v)) H
def Aq (hN:X.N.Nodup)(hi:X.N[i]?=some x)(hx:Loc X.env.scope x)(hf:X.fn x=true\/X.env.scope.names.lookup x=some .local:=by first|exact .inl rfl|exact .inr rfl|assumption):PG X (.Name x pos) (IJ i):=by
 intro aa s σ H v u Q I r h;exact wpAny_assign_Name (Kd I hN hi hx r (fun s' I'=>⟨_,H,I',h⟩) hf)
noncomputable def gNil:TGs:=fun vs σ H Q=>vs=[]/\Q σ H
noncomputable def W0 (t:TG)(u:TGs):TGs:=fun vs σ H Q=>∃v r,vs=v::r/\t v σ H fun af H'=>u r af H' Q
def Fw:PGs X [] gNil:=by
 intro aa s σ H vs us Q I r h;obtain⟨e,h⟩:=h;subst e;cases r;exact assignInOrder_nil ⟨σ,H,I,h⟩
def Bg (h1:PG X e t)(h2:PGs X es u)
  (hs:(assignEach (e::es) X.env).map (·.2)=assign e X.env::(assignEach es X.env).map (·.2):=by rfl):PGs X (e::es) (W0 t u):=by
 intro aa s σ H vs us Q I r h;obtain⟨v,vr,e1,h⟩:=h;subst e1;cases r with
 |cons r rr=>
  rw[hs];refine assignInOrder_cons (thn (h1 aa s σ H _ _ _ I r h) fun _ s1 ⟨b7,H1,I1,q1⟩=>?_);exact h2 aa s1 b7 H1 _ _ Q I1 rr q1
noncomputable def gTup (K:α3)(n:Nat)(t:TGs):TG:=fun v σ H Q=>∃a xs,v=.ref a/\SqT K H a xs/\xs.length=n/\t xs σ H Q
def LC (hc:X.calm=true)(h:PGs X es t)
  (hn:(assignEach es X.env).length=n:=by rfl) (dX:(assignEach es X.env).findIdx? (·.1)=none:=by rfl):PG X (.Tuple es k pos) (gTup X.K n t):=by
 intro aa s σ H v u Q I r hw;obtain⟨a,xs,e1,hq,hl,hw⟩:=hw;subst e1;cases r;obtain⟨its,rv,ht,hz⟩:=I.tuple hq;refine assign_Tuple_tuple (I.ok.hd hc) ht (by simp[hn,<-hl,rv.length]) dX fun h' hx=>?_;have I1:Inv X aa σ H {s with heap:=h' }:=I.kept (t':=s.toks) fun b o e=>hx b o (jE_ (jk_ e)) e;exact h aa _ σ H xs _ Q I1 (by simpa using rv) hw
noncomputable def tAsg (te:TE)(g:TG):TS:=fun D σ H=>te σ H fun x H1=>g x σ H1 D.nx
def Jm (hN:X.N.Nodup)(hi:X.N[i]?=some x)(hx:Loc X.env.scope x)(he:PE X e te)(hs:swapsWith e (some (.Name x bo)) pos.line X.env=pure false:=by rfl)(hf:X.fn x=true\/X.env.scope.names.lookup x=some .local:=by first|exact .inl rfl|exact .inr rfl|assumption):
  PS X (.Assign [.Name x bo] e pos) (tAsg te (IJ i)):=by
 intro aa s σ H D I h;refine wpAny_Assign_Name (thn (he aa s σ H _ I h) fun v s1 ⟨y,H1,I1,r1,q1⟩=>?_) hs;exact Kd I1 hN hi hx r1 (fun s2 I2=>⟨_,H1,I2,q1⟩) hf
noncomputable def tAug (i:Nat)(te:TE)(ti:TIp):TS:=fun D σ H=>∃x,σ[i]?=some (some x)/\te σ H fun y H1=>ti x y H1 fun z H2=>D.nx (σ.set i (some z)) H2
def W2 (hN:X.N.Nodup)(hi:X.N[i]?=some x)(hx:Loc X.env.scope x)(he:PE X e te)(ho:PIp X op ti)(hf:X.fn x=true\/X.env.scope.names.lookup x=some .local:=by first|exact .inl rfl|exact .inr rfl|assumption):
  PS X (.AugAssign (.Name x bo) op e pos) (tAug i te ti):=by
 intro aa s σ H D I h;obtain⟨v,e1,h⟩:=h;obtain⟨m,hn,hl⟩:=I.loc;have jG:Vis X.env.scope x:=by rcases hx with k|k;exact .inl k;exact .inr (.inl k)
 obtain⟨u,r,l⟩:=hl i x v hi e1 jG;refine wpAny_AugAssign_Name ?_;have go:wpAny (model X.prog X.w) X.A (eval e X.env) (fun w aY=>wpAny (model X.prog X.w) X.A (inplaceOp op u w) (fun r aV=>wpAny (model X.prog X.w) X.A (storeName X.env x r) (fun _=>SP X aa D .next) X.xe aV) X.xe aY) X.xe s:=by
  refine thn (he aa s σ H _ I h) fun w s1 ⟨y,H1,I1,r1,q1⟩=>?_;refine thn (ho aa s1 σ H1 v y u w _ I1 r r1 q1) fun z s2 ⟨zv,H2,I2,r2,q2⟩=>?_;exact Kd I2 hN hi hx r2 (fun s3 I3=>⟨_,H2,I3,q2⟩) hf
 rcases l with ⟨hk,hm⟩|⟨hk,c,hc,dz⟩
 ·exact wpAny_loadName_local I.ok.kind hk hn hm go
 ·rcases hk with hk|hk
  ·exact wpAny_loadName_cell I.ok.kind hk hc dz go
  ·rcases hx with k|k
   ·have:X.env.scope.names.lookup x=some .free:=hk;rw[k]at this;cases this
   ·have:X.env.scope.names.lookup x=some .free:=hk;rw[k]at this;cases this
noncomputable def ipI (f:Int->Int->Int):TIp:=fun x y H Q=>∃i j,x=.int i/\y=.int j/\Q (.int (f i j)) H
def W3:PIp X .Add (ipI fun i j=>i+j):=by
 intro aa s σ H x y v u Q I r1 r2 h;obtain⟨i,j,e1,e2,q⟩:=h;subst e1;subst e2;obtain⟨t,rfl⟩:=r1;obtain⟨t',rfl⟩:=r2;exact iadd_int ⟨.int _,H,I.tok _,⟨_,rfl⟩,q⟩
end
section
variable {X:Cx} {pos:Pos}
noncomputable def Us (c:TT)(tb:TS):TS:=fun D σ H=>∃W:Nat->St->Hp->Prop,(∃m,W m σ H)/\∀m σ H,W m σ H ->
 c σ H fun b H1=>if b=true then ∃N:St->Hp->Prop,(∀af H',N af H'->∃m',m'<m/\W m' af H')/\tb {D with nx:=N,ct:=N,bk:=D.nx} σ H1 else D.nx σ H1
def Gm (hp:PassesOwn (model X.prog X.w) X.A X.env X.xe)(hc:PT X c tc)(hb:PSs X body tb):PS X (.While c body [] pos) (Us tc tb):=by
 intro aa s σ H D I h;obtain⟨W,⟨m0,w0⟩,ar⟩:=h;refine wpAny_While (codeAny_whileLoop (fun n s'=>∃af H',Inv X aa af H' s'/\W n af H') ?_ m0 ⟨σ,H,I,w0⟩);rintro n s1 ⟨b7,H1,I1,w1⟩;refine xj_ hp (thn (hc aa s1 b7 H1 _ I1 (ar n b7 H1 w1)) fun b s2 ⟨H2,I2,q2⟩=>?_);cases b with
 |true=>
  obtain⟨N,hN,q2⟩:=q2;rw[if_pos rfl];refine xj_ hp (thn (hb aa s2 b7 H2 _ I2 q2) fun f s3 q3=>?_);cases f with
  |next=>
   obtain⟨bf,H3,I3,n3⟩:=q3;obtain⟨m',hm,w3⟩:=hN bf H3 n3;exact⟨m',hm,bf,H3,I3,w3⟩
  |cont=>
   obtain⟨bf,H3,I3,n3⟩:=q3;obtain⟨m',hm,w3⟩:=hN bf H3 n3;exact⟨m',hm,bf,H3,I3,w3⟩
  |brk=>exact q3
  |ret v=>exact q3
 |false=>
  rw[if_neg jo_];exact x7_ ⟨b7,H2,I2,q2⟩
end
structure It where
 go:Nat->Hp->Prop
 yld:Nat->Hp->V->Hp->Prop
 stop:Nat->Hp->Prop
noncomputable def FpOk (X:Cx)(aa:α7)(H:Hp)(b:Addr):Prop:=
 H b=none/\b≠X.env.locals/\b∉X.fs/\(b∈X.ex\/X.s₀.heap.objs.size<=b)/\(∀x c,X.env.cells.lookup x=some c->c≠b)/\∀p∈X.pn++aa,p.1≠b
def Inv.fpOk (I:Inv X aa σ H s)(hb:s.heap.objs.size<=b)(hn:H' b=none):FpOk X aa H' b:=by
 refine⟨hn,qe_ (js_ I.lt hb),I.nofs hb,.inr (j6_ I.sz hb),fun x c e z=>?_,fun p hp z=>?_⟩
 ·obtain⟨v,q⟩:=I.cell x c e;exact absurd (js_ q.lt (by rw[z];exact hb)) (jY_ _)
 ·exact absurd (js_ (jk_ (I.pin p hp).1) (by rw[z];exact hb)) (jY_ _)
structure Turn (P:Program)(w:World)(K:α3)(tg:Expr)(J:It)(fp:List Addr)(it:Addr)(tn:Nat->Heap->Prop):Prop where
 mem:it∈fp
 obj:∀i h,tn i h->∀b∈fp,∃o,h.get? b=some o/\∀v,o.data ≠ .cell v
 keep:∀i h h',tn i h->(∀b∈fp,∀o,h.get? b=some o->h'.get? b=some o)->tn i h'
 item:∀(X:Cx),X.prog=P->X.w=w->X.K=K->X.calm=true->∀(i:Nat) (aa:α7) (s:Shared) (σ:St) (H:Hp) (E:Value->Shared->Prop),Inv X aa σ H s->(∀b∈fp,FpOk X aa H b)->tn i s.heap->J.go i H ->
  wpAny (model P w) X.A (pyNext (.ref it)) (fun r s1=>∃u,r=some u /\
   wpAny (model P w) X.A (letOwnedTupleGo tg (.ref it) u) (fun _ s2=>∃x H',Inv X aa σ H' s2/\RelV x u/\J.yld i H x H'/\tn (i+1) s2.heap/\∀b∈fp,H' b=none) E s1) E s
 done:∀(X:Cx),X.prog=P->X.w=w->X.K=K->X.calm=true->∀(i:Nat) (aa:α7) (s:Shared) (σ:St) (H:Hp) (E:Value->Shared->Prop),Inv X aa σ H s->(∀b∈fp,FpOk X aa H b)->tn i s.heap->J.stop i H ->
  wpAny (model P w) X.A (pyNext (.ref it)) (fun r s1=>r=none/\Inv X aa σ H s1) E s
 self:∀(A:Around) (i:Nat) (s:Shared) (Q:Value->Shared->Prop) (E:Value->Shared->Prop),tn i s.heap->Q (.ref it) s->wpAny (model P w) A (pyIter (.ref it)) Q E s
noncomputable abbrev TI:=St->Hp->(It->Hp->Prop)->Prop
noncomputable def PIE (X:Cx)(aa:α7)(σ:St)(tg:Expr)(R:It->Hp->Prop)(jH:Value)(s2:Shared):Prop:=
 ∃(it:Addr) (fp:List Addr) (tn:Nat->Heap->Prop) (J:It) (H':Hp),jH=.ref it/\Inv X aa σ H' s2/\Turn X.prog X.w X.K tg J fp it tn/\tn 0 s2.heap/\(∀b∈fp,FpOk X aa H' b)/\R J H'
noncomputable def PI (X:Cx)(tg iter:Expr)(wi:TI):Prop:=
 ∀(aa:α7) (s:Shared) (σ:St) (H:Hp) (R:It->Hp->Prop),Inv X aa σ H s->wi σ H R ->
  wpAny (model X.prog X.w) X.A (eval iter X.env) (fun v s1=>wpAny (model X.prog X.w) X.A (pyIter v) (PIE X aa σ tg R) X.xe s1) X.xe s
def Qx {it:Addr} (ho:s.heap.get? it=some o)(hc:o.cls=.type n)(hd:o.data=.fields vs)
    (hn:["enumerate","zip","dict_itemiterator","dict_reverseitemiterator","odict_iterator","itertools.zip_longest","itertools.pairwise"].contains n=false) (hQ:Q () s):wpAny M A (letOwnedTupleGo tg (.ref it) u) Q E s:=by
  unfold letOwnedTupleGo;cases tg<;>first
    | exact jm_ hQ
    | (cases u<;>first
        | exact jm_ hQ
        | (refine jd_ (wpAny_load ho ?_)
           rw[hc,hd];show wpAny M A (if (["enumerate","zip","dict_itemiterator","dict_reverseitemiterator","odict_iterator","itertools.zip_longest","itertools.pairwise"].contains n&&vs[0]? == some (rawInt _))=true then _ else _) Q E s;rw[if_neg (by intro h;rw[hn,pf]at h;cases h)];exact jm_ hQ))
noncomputable def Itl (K:α3)(a:Addr):It:=
 ⟨fun i H=>∃xs x,SqL K H a xs/\xs[i]?=some x,fun i H x H'=>H'=H/\∀xs,SqL K H a xs->xs[i]?=some x,fun i H=>∃xs,SqL K H a xs/\xs.length<=i⟩
noncomputable def Itt (K:α3)(a:Addr):It:=
 ⟨fun i H=>∃xs x,SqT K H a xs/\xs[i]?=some x,fun i H x H'=>H'=H/\∀xs,SqT K H a xs->xs[i]?=some x,fun i H=>∃xs,SqT K H a xs/\xs.length<=i⟩
noncomputable def Itr (lo:Int)(n:Nat):It:=⟨fun i _=>i<n,fun i H x H'=>H'=H/\x=.int (lo+i),fun i _=>n<=i⟩
def MV {P:Program}{w:World}{K:α3}{tg:Expr}(a it:Addr):Turn P w K tg (Itl K a) [it] it (fun i h=>h.IsListIter it a i) where
 mem:=by simp
 obj:=fun i h st b hb=>by
  have e:b=it:=by simpa using hb
  subst e;obtain⟨o,e,c,d⟩:=st;exact⟨o,e,fun v z=>by rw[d]at z;cases z⟩
 keep:=fun i h h' st k=>st.at fun o e=>k it (by simp) o e
 item:=by
  intro X hP hw hK hc i aa s σ H E I hf st hg;subst hP hw hK;obtain⟨xs,x,hq,hx⟩:=hg;obtain⟨its,rv,p,hz⟩:=I.list hq;obtain⟨u,hu,ru⟩:=rv.get hx;obtain⟨f0,f1,f2,f3,f4,f5⟩:=hf it (by simp);refine wpAny_pyNext_list_item st p.isList (x:=u) (by simpa using hu) fun h' cj sb=>?_;have I1:Inv X aa σ H {s with heap:=h' }:=I.turned (t':=s.toks) (fun b o hb e=>(sb.2 b hb).trans e) f0 f1 f3 f4 f5;obtain⟨o,e,c,d⟩:=id cj;exact⟨u,rfl,Qx (s:={s with heap:=h' }) e c d (by decide) ⟨x,H,I1,ru,⟨rfl,fun ys hy=>by rw[I.list_inj hy hq];exact hx⟩,cj,fun b hb=>(hf b hb).1⟩⟩
 done:=by
  intro X hP hw hK hc i aa s σ H E I hf st hg;subst hP hw hK;obtain⟨xs,hq,hx⟩:=hg;obtain⟨its,rv,p,hz⟩:=I.list hq;obtain⟨f0,f1,f2,f3,f4,f5⟩:=hf it (by simp);have hl:=rv.length;exact wpAny_pyNext_list_end (I.ok.hd hc) st p.isList (by simp;lia) fun h' eb=>⟨rfl,I.turned (t':=s.toks) (fun b o hb e=>eb b o hb e) f0 f1 f3 f4 f5⟩
 self:=fun _ _ _ _ _ st h=>wpAny_pyIter_listiter st h
def LD {P:Program}{w:World}{K:α3}{tg:Expr}(a it:Addr):Turn P w K tg (Itt K a) [it] it (fun i h=>h.IsTupleIter it a i) where
 mem:=by simp
 obj:=fun i h st b hb=>by
  have e:b=it:=by simpa using hb
  subst e;obtain⟨o,e,c,d⟩:=st;exact⟨o,e,fun v z=>by rw[d]at z;cases z⟩
 keep:=fun i h h' st k=>st.at fun o e=>k it (by simp) o e
 item:=by
  intro X hP hw hK hc i aa s σ H E I hf st hg;subst hP hw hK;obtain⟨xs,x,hq,hx⟩:=hg;obtain⟨its,rv,p,hz⟩:=I.tuple hq;obtain⟨u,hu,ru⟩:=rv.get hx;obtain⟨f0,f1,f2,f3,f4,f5⟩:=hf it (by simp);refine wpAny_pyNext_tuple_item st (show s.heap.IsTuple a its.toArray from p) (x:=u) (by simpa using hu) fun h' cj sb=>?_;have I1:Inv X aa σ H {s with heap:=h' }:=I.turned (t':=s.toks) (fun b o hb e=>(sb.2 b hb).trans e) f0 f1 f3 f4 f5;obtain⟨o,e,c,d⟩:=id cj;exact⟨u,rfl,Qx (s:={s with heap:=h' }) e c d (by decide) ⟨x,H,I1,ru,⟨rfl,fun ys hy=>by rw[I.tuple_inj hy hq];exact hx⟩,cj,fun b hb=>(hf b hb).1⟩⟩
 done:=by
  intro X hP hw hK hc i aa s σ H E I hf st hg;subst hP hw hK;obtain⟨xs,hq,hx⟩:=hg;obtain⟨its,rv,p,hz⟩:=I.tuple hq;obtain⟨f0,f1,f2,f3,f4,f5⟩:=hf it (by simp);have hl:=rv.length;exact wpAny_pyNext_tuple_end (I.ok.hd hc) st (show s.heap.IsTuple a its.toArray from p) (by simp;lia) fun h' eb=>⟨rfl,I.turned (t':=s.toks) (fun b o hb e=>eb b o hb e) f0 f1 f3 f4 f5⟩
 self:=fun _ _ _ _ _ st h=>wpAny_pyIter_tupleiter st h
def PD {P:Program}{w:World}{K:α3}{tg:Expr}(it:Addr)(lo:Int)(n:Nat):Turn P w K tg (Itr lo n) [it] it (fun i h=>IsRangeIter h it (lo+(i:Nat)*1) ((n:Int)-(i:Nat)) 1) where
 mem:=by simp
 obj:=fun i h st b hb=>by
  have e:b=it:=by simpa using hb
  subst e;exact⟨_,st,fun v z=>by
   have z':Data.fields _=Data.cell v:=z;cases z'⟩
 keep:=fun i h h' st k=>k it (by simp) _ st
 item:=by
  intro X hP hw hK hc i aa s σ H E I hf st hg;subst hP hw hK;obtain⟨f0,f1,f2,f3,f4,f5⟩:=hf it (by simp);have W:=Walks.range (prog:=X.prog) (w:=X.w) (I.ok.hd hc) it lo 1 n;refine W.item i s _ _ hg st fun v h' tk hv cj kk=>?_;obtain⟨t,rfl⟩:=hv;have I1:Inv X aa σ H {s with heap:=h',toks:=tk}:=I.turned (fun b o hb e=>kk b o (by simpa using hb) e) f0 f1 f3 f4 f5;refine⟨_,rfl,Qx (s:={s with heap:=h',toks:=tk}) (n := "range_iterator") cj rfl rfl (by decide) ⟨.int (lo+i),H,I1,⟨t,?_⟩,⟨rfl,rfl⟩,cj,fun b hb=>(hf b hb).1⟩⟩;rw[zY_]
 done:=by
  intro X hP hw hK hc i aa s σ H E I hf st hg;subst hP hw hK;obtain⟨f0,f1,f2,f3,f4,f5⟩:=hf it (by simp);exact wpAny_pyNext_range_end (I.ok.hd hc) st (by have:n<=i:=hg;lia) fun h' eb=>⟨rfl,I.turned (t':=s.toks) (fun b o hb e=>eb b o hb e) f0 f1 f3 f4 f5⟩
 self:=fun _ _ _ _ _ st h=>wpAny_pyIter_rangeiter st h
end L2
namespace L2
open PySem PySem.Spec PyProof.Rows
section
variable {X:Cx} {tg:Expr}
noncomputable def W4 (K:α3)(tl:TE):TI:=fun σ H R=>tl σ H fun x H1=>∃a,x=.ref a/\(∃xs,SqL K H1 a xs)/\R (Itl K a) H1
noncomputable def iTup (K:α3)(tl:TE):TI:=fun σ H R=>tl σ H fun x H1=>∃a,x=.ref a/\(∃xs,SqT K H1 a xs)/\R (Itt K a) H1
def Br (hl:PE X l tl):PI X tg l (W4 X.K tl):=by
 intro aa s σ H R I h;refine thn (hl aa s σ H _ I h) fun v s1 ⟨x,H1,I1,r1,q1⟩=>?_;obtain⟨a,e,⟨xs,hq⟩,q⟩:=q1;subst e;cases r1;obtain⟨its,rv,p,hz⟩:=I1.list hq;refine xG_ p.isList ?_;refine⟨s1.heap.objs.size,[s1.heap.objs.size],_,_,H1,rfl,I1.kept (t':=s1.toks) fun b o e=>jg_ _ e,MV a _,⟨_,jr_ _ rfl,rfl,rfl⟩,fun b hb=>?_,q⟩;have e:b=s1.heap.objs.size:=by simpa using hb
 subst e;exact I1.fpOk (jf_ _) (I1.hok.fresh (jf_ _))
def MW (hl:PE X l tl):PI X tg l (iTup X.K tl):=by
 intro aa s σ H R I h;refine thn (hl aa s σ H _ I h) fun v s1 ⟨x,H1,I1,r1,q1⟩=>?_;obtain⟨a,e,⟨xs,hq⟩,q⟩:=q1;subst e;cases r1;obtain⟨its,rv,p,hz⟩:=I1.tuple hq;refine xx_ (show s1.heap.IsTuple a its.toArray from p) ?_;refine⟨s1.heap.objs.size,[s1.heap.objs.size],_,_,H1,rfl,I1.kept (t':=s1.toks) fun b o e=>jg_ _ e,LD a _,⟨_,jr_ _ rfl,rfl,rfl⟩,fun b hb=>?_,q⟩;have e:b=s1.heap.objs.size:=by simpa using hb
 subst e;exact I1.fpOk (jf_ _) (I1.hok.fresh (jf_ _))
def OM {lo hi:Int} (I:Inv X aa σ H s)(h1 : -(2 ^ 62)<=lo)(h2:lo<2 ^ 62)(h3 : -(2 ^ 62)<=hi)(h4:hi<2 ^ 62)
  (q:R (Itr lo (hi-lo).toNat) H):wpAny (model X.prog X.w) X.A (pyIter (.ref s.heap.objs.size)) (PIE X aa σ tg R) E {s with heap:=s.heap.push {cls:=.type "range",data:=.fields #[.int lo t,.int hi u,.int 1 v]},toks:=tk}:=by
 refine wpAny_pyIter_range (IsRange.new ..) (small_one h1 h2 h3 h4) ?_;have I1:Inv X aa σ H {s with heap:=s.heap.push {cls:=.type "range",data:=.fields #[.int lo t,.int hi u,.int 1 v]},toks:=tk}:=I.kept fun b o e=>jg_ _ e;refine⟨(s.heap.push {cls:=.type "range",data:=.fields #[.int lo t,.int hi u,.int 1 v]}).objs.size,[(s.heap.push {cls:=.type "range",data:=.fields #[.int lo t,.int hi u,.int 1 v]}).objs.size],_,_,H,rfl,
  I1.kept (t':=tk) fun b o e=>jg_ _ e,PD _ lo (hi-lo).toNat,?_,fun b hb=>?_,q⟩
 ·have e1:lo+((0:Nat):Int)*1=lo:=by simp
  have e2:(((hi-lo).toNat:Nat):Int)-((0:Nat):Int)=Builtin.Range.rangeSize lo hi 1:=by rw[rangeSize_one];split<;>lia
  show IsRangeIter _ _ (lo+((0:Nat):Int)*1) ((((hi-lo).toNat:Nat):Int)-((0:Nat):Int)) 1;rw[e1,e2];exact jr_ _ rfl
 ·have e:b=(s.heap.push {cls:=.type "range",data:=.fields #[.int lo t,.int hi u,.int 1 v]}).objs.size:=by simpa using hb
  subst e;exact I1.fpOk (jf_ _) (I1.hok.fresh (jf_ _))
noncomputable def W5 (ta:TA):TI:=fun σ H R=>ta σ H fun vs H1=>∃j:Int,vs=[.int j] /\ -(2 ^ 62)<=j/\j<2 ^ 62/\R (Itr 0 j.toNat) H1
noncomputable def W6 (ta:TA):TI:=fun σ H R=>ta σ H fun vs H1=>∃i j:Int,vs=[.int i,.int j]/\(-(2 ^ 62)<=i/\i<2 ^ 62 /\ -(2 ^ 62)<=j/\j<2 ^ 62)/\R (Itr i (j-i).toNat) H1
def Cd (hg:Gl X "range")(hm:X.mg "range"=none)(ha:PA X [a] ta)(hs:starEach [a] X.env=[(false,eval a X.env)]:=by rfl):PI X tg (.Call (.Name "range" p) [a] [] pos) (W5 ta):=by
 intro aa s σ H R I h;refine Call_ (Hv I hg hm boot_range (qb_ (thn (ha pos aa s σ H _ I h) fun us s1 ⟨vs,H1,I1,r1,q1⟩=>?_) hs rfl));obtain⟨j,e,q1,q2,q⟩:=q1;subst e;cases r1 with
 |cons r rr=>
  cases rr;obtain⟨t,rfl⟩:=r;exact call_range_1 (OM I1 s!"" s!"" q1 q2 (by simpa using q))
def MX (hg:Gl X "range")(hm:X.mg "range"=none)(ha:PA X [a,b] ta)(hs:starEach [a,b] X.env=[(false,eval a X.env),(false,eval b X.env)]:=by rfl)(bg:starEach [b] X.env=[(false,eval b X.env)]:=by rfl):
  PI X tg (.Call (.Name "range" p) [a,b] [] pos) (W6 ta):=by
 intro aa s σ H R I h;refine Call_ (Hv I hg hm boot_range (qb_ (thn (ha pos aa s σ H _ I h) fun us s1 ⟨vs,H1,I1,r1,q1⟩=>?_) (by rw[hs,bg]) (by rw[bg];rfl)));obtain⟨i,j,e,⟨q1,q2,q3,q4⟩,q⟩:=q1;subst e;cases r1 with
 |cons r rr=>
  cases rr with
  |cons r' rr=>
   cases rr;obtain⟨t,rfl⟩:=r;obtain⟨t',rfl⟩:=r';exact call_range_2 (OM I1 q1 q2 q3 q4 q)
noncomputable def tFor (wi:TI)(g:TG)(tb:TS):TS:=fun D σ H=>wi σ H fun J H1=>∃W:Nat->Nat->St->Hp->Prop,(∃m,W 0 m σ H1)/\∀i m σ H,W i m σ H ->
 (J.stop i H/\D.nx σ H)\/(J.go i H/\∃N:St->Hp->Prop,(∀af H',N af H'->∃m',m'<m/\W (i+1) m' af H')/\∀x H',J.yld i H x H'->g x σ H' fun ai H2=>tb {D with nx:=N,ct:=N,bk:=D.nx} ai H2)
noncomputable def LF (fp:List Addr)(h:Heap):α7:=fp.filterMap fun b=>(h.get? b).map fun o=>(b,o)
def Ds (hb:b∈fp)(e:h.get? b=some o):(b,o)∈LF fp h:=zQ_.mpr ⟨b,hb,by rw[e];rfl⟩
def Qy (hp:p∈LF fp h):p.1∈fp/\h.get? p.1=some p.2:=by
 obtain⟨b,hb,e⟩:=zQ_.mp hp;cases q:h.get? b with
 |none=>rw[q]at e;cases e
 |some o=>
  rw[q]at e;have e':(b,o)=p:=jt_ e;subst e';exact⟨hb,q⟩
def Inv.pinned (I:Inv X aa σ H s)(hf:∀b∈fp,FpOk X aa H b)(ho:∀b∈fp,∃o,s.heap.get? b=some o/\∀v,o.data ≠ .cell v):Inv X (aa++LF fp s.heap) σ H s:=
 I.pins_of fun p hp=>(jJ_.mp hp).elim (fun z=>I.pin p (jS_ _ z)) fun z=>by
  obtain⟨hb,e⟩:=Qy z;obtain⟨f0,f1,f2,_⟩:=hf p.1 hb;obtain⟨o,e',d⟩:=ho p.1 hb;rw[e]at e';cases e';exact⟨e,f0,f1,f2,d⟩
def Inv.unpinned (I:Inv X (aa++pl) σ H s):Inv X aa σ H s:=I.pins_of fun p hp=>I.pin p (jS_ _ (j5_ _ hp))
def Bx {iter:Expr} {wi:TI} (hp:PassesOwn (model X.prog X.w) X.A X.env X.xe)(hc:X.calm=true)(hi:PI X tg iter wi)(hg:PG X tg g)(hb:PSs X body tb)
  (hs:∀x,foldedSetIterable iter X.env x=pure x:=by intro _;rfl):PS X (.For tg iter body [] pos) (tFor wi g tb):=by
 intro aa s σ H D I h;refine wpAny_For (thn (hi aa s σ H _ I h) fun v s1 h1=>thn h1 fun jH s2 h2=>?_) hs;obtain⟨it,fp,tn,J,H2,e,I2,T,fL,f2,W,⟨m0,w0⟩,ar⟩:=h2;subst e
 -- what stays true of dY iterator's objects through dY loop
 have ck:∀{H':Hp},(∀b∈fp,H' b=none)->∀b∈fp,FpOk X aa H' b:=fun hn b hb=>⟨hn b hb,(f2 b hb).2⟩;refine codeAny_forLoop_any (fun n s'=>∃i af H',Inv X aa af H' s'/\tn i s'.heap/\(∀b∈fp,H' b=none)/\W i n af H') ?_ m0 ⟨0,σ,H2,I2,fL,fun b hb=>(f2 b hb).1,w0⟩;rintro n s3 ⟨i,bf,H3,I3,gJ,jf,w3⟩;rcases ar i n bf H3 w3 with ⟨stop,qn⟩|⟨go,N,hN,step⟩
 ·refine xj_ hp (thn (T.done X rfl rfl rfl hc i aa s3 bf H3 X.xe I3 (ck jf) gJ stop) fun r s4 ⟨hr,I4⟩=>?_);subst hr;exact x7_ ⟨bf,H3,I4,qn⟩
 ·refine xj_ hp (thn (T.item X rfl rfl rfl hc i aa s3 bf H3 X.xe I3 (ck jf) gJ go) fun r s4 ⟨u,hr,h4⟩=>?_);subst hr;refine xj_ hp (thn h4 fun _ s5 ⟨x,H5,I5,r5,y5,dF,jI⟩=>?_);have jJ:=I5.pinned (ck jI) (T.obj _ _ dF);refine xj_ hp (thn (hg _ s5 bf H5 x u _ jJ r5 (step x H5 y5)) fun _ s6 ⟨c6,H6,I6,q6⟩=>?_);refine xj_ hp (thn (hb _ s6 c6 H6 _ I6 q6) fun f s7 q7=>?_);have again:∀{cJ:St} {H7:Hp},Inv X (aa++LF fp s5.heap) cJ H7 s7->N cJ H7->∃m,m<n/\∃i af H',Inv X aa af H' s7/\tn i s7.heap/\(∀b∈fp,H' b=none)/\W i m af H':=fun {cJ H7} I7 n7=>by
   obtain⟨m',hm,w7⟩:=hN cJ H7 n7;refine⟨m',hm,i+1,cJ,H7,I7.unpinned,T.keep _ _ _ dF fun b hb o e=>(I7.pin (b,o) (jS_ _ (jS_ _ (Ds hb e)))).1,fun b hb=>?_,w7⟩;obtain⟨o,e,d⟩:=T.obj _ _ dF b hb;exact (I7.pin (b,o) (jS_ _ (jS_ _ (Ds hb e)))).2.1
  cases f with
  |next=>obtain⟨cJ,H7,I7,n7⟩:=q7;exact again I7 n7
  |cont=>obtain⟨cJ,H7,I7,n7⟩:=q7;exact again I7 n7
  |brk=>obtain⟨cJ,H7,I7,q7⟩:=q7;exact⟨cJ,H7,I7.unpinned,q7⟩
  |ret v=>obtain⟨x7,cJ,H7,I7,r7,q7⟩:=q7;exact⟨x7,cJ,H7,I7.unpinned,r7,q7⟩
end
def SN {K:α3}{a:Addr}{xs:List V}{g:TG}{tb:TS}{D:Ends}{σ:St}{H:Hp}(Pv:Nat->St->Hp->Prop)(h0:Pv 0 σ H)(hl:∀i σ H,i<=xs.length->Pv i σ H->SqL K H a xs)
  (hs:∀i x σ H,xs[i]?=some x->Pv i σ H->g x σ H fun ai H2=>tb {D with nx:=Pv (i+1),ct:=Pv (i+1),bk:=D.nx} ai H2) (hd:∀σ H,Pv xs.length σ H->D.nx σ H):
  ∃W:Nat->Nat->St->Hp->Prop,(∃m,W 0 m σ H)/\∀i m σ H,W i m σ H ->
   ((Itl K a).stop i H/\D.nx σ H)\/((Itl K a).go i H/\∃N:St->Hp->Prop,(∀af H',N af H'->∃m',m'<m/\W (i+1) m' af H')/\∀x H',(Itl K a).yld i H x H'->g x σ H' fun ai H2=>tb {D with nx:=N,ct:=N,bk:=D.nx} ai H2):=by
 refine⟨fun i m σ H=>m=xs.length-i/\i<=xs.length/\Pv i σ H,⟨xs.length,by simp,j3_ _,h0⟩,?_⟩;rintro i m σ H ⟨rfl,hi,p⟩;have q:=hl i σ H hi p;by_cases aF:i<xs.length
 ·refine .inr ⟨⟨xs,xs[i],q,by simp[aF]⟩,Pv (i+1),fun af H' p'=>⟨xs.length-(i+1),by lia,rfl,aF,p'⟩,fun x H' y=>?_⟩;obtain⟨e,y⟩:=y;subst e;exact hs i x σ _ (y xs q) p
 ·have e:i=xs.length:=by lia
  subst e;exact .inl ⟨⟨xs,q,jf_ _⟩,hd σ H p⟩
def VE {K:α3}{a:Addr}{xs:List V}{g:TG}{tb:TS}{D:Ends}{σ:St}{H:Hp}(Pv:Nat->St->Hp->Prop)(h0:Pv 0 σ H)(hl:∀i σ H,i<=xs.length->Pv i σ H->SqT K H a xs)
  (hs:∀i x σ H,xs[i]?=some x->Pv i σ H->g x σ H fun ai H2=>tb {D with nx:=Pv (i+1),ct:=Pv (i+1),bk:=D.nx} ai H2) (hd:∀σ H,Pv xs.length σ H->D.nx σ H):
  ∃W:Nat->Nat->St->Hp->Prop,(∃m,W 0 m σ H)/\∀i m σ H,W i m σ H ->
   ((Itt K a).stop i H/\D.nx σ H)\/((Itt K a).go i H/\∃N:St->Hp->Prop,(∀af H',N af H'->∃m',m'<m/\W (i+1) m' af H')/\∀x H',(Itt K a).yld i H x H'->g x σ H' fun ai H2=>tb {D with nx:=N,ct:=N,bk:=D.nx} ai H2):=by
 refine⟨fun i m σ H=>m=xs.length-i/\i<=xs.length/\Pv i σ H,⟨xs.length,by simp,j3_ _,h0⟩,?_⟩;rintro i m σ H ⟨rfl,hi,p⟩;have q:=hl i σ H hi p;by_cases aF:i<xs.length
 ·refine .inr ⟨⟨xs,xs[i],q,by simp[aF]⟩,Pv (i+1),fun af H' p'=>⟨xs.length-(i+1),by lia,rfl,aF,p'⟩,fun x H' y=>?_⟩;obtain⟨e,y⟩:=y;subst e;exact hs i x σ _ (y xs q) p
 ·have e:i=xs.length:=by lia
  subst e;exact .inl ⟨⟨xs,q,jf_ _⟩,hd σ H p⟩
def Qz {lo:Int}{n:Nat}{g:TG}{tb:TS}{D:Ends}{σ:St}{H:Hp}(Pv:Nat->St->Hp->Prop)(h0:Pv 0 σ H)
  (hs:∀i σ H,i<n->Pv i σ H->g (.int (lo+i)) σ H fun ai H2=>tb {D with nx:=Pv (i+1),ct:=Pv (i+1),bk:=D.nx} ai H2) (hd:∀σ H,Pv n σ H->D.nx σ H):
  ∃W:Nat->Nat->St->Hp->Prop,(∃m,W 0 m σ H)/\∀i m σ H,W i m σ H ->
   ((Itr lo n).stop i H/\D.nx σ H)\/((Itr lo n).go i H/\∃N:St->Hp->Prop,(∀af H',N af H'->∃m',m'<m/\W (i+1) m' af H')/\∀x H',(Itr lo n).yld i H x H'->g x σ H' fun ai H2=>tb {D with nx:=N,ct:=N,bk:=D.nx} ai H2):=by
 refine⟨fun i m σ H=>m=n-i/\i<=n/\Pv i σ H,⟨n,by simp,j3_ _,h0⟩,?_⟩;rintro i m σ H ⟨rfl,hi,p⟩;by_cases aF:i<n
 ·refine .inr ⟨aF,Pv (i+1),fun af H' p'=>⟨n-(i+1),by lia,rfl,aF,p'⟩,fun x H' y=>?_⟩;obtain⟨e,y⟩:=y;subst e y;exact hs i σ _ aF p
 ·have e:i=n:=by lia
  subst e;exact .inl ⟨jf_ _,hd σ H p⟩
end L2
namespace L2
open PySem PySem.Spec PyProof.Rows
noncomputable abbrev R2:=V->V->Hp->VK->Prop
noncomputable def OpR (X:Cx)(f:Value->Value->Sem Value)(r:R2):Prop:=
 ∀(aa:α7) (s:Shared) (σ:St) (H:Hp) (x y:V) (v u:Value) (Q:VK),Inv X aa σ H s->RelV x v->RelV y u->r x y H Q ->
  wpAny (model X.prog X.w) X.A (f v u) (EP X aa σ Q) X.xe s
noncomputable def UnR (X:Cx)(f:Value->Sem Value)(r:V->Hp->VK->Prop):Prop:=
 ∀(aa:α7) (s:Shared) (σ:St) (H:Hp) (x:V) (v:Value) (Q:VK),Inv X aa σ H s->RelV x v->r x H Q ->
  wpAny (model X.prog X.w) X.A (f v) (EP X aa σ Q) X.xe s
noncomputable def Em (X:Cx)(f:Value)(r:List V->Hp->VK->Prop):Prop:=
 ∀(aa:α7) (s:Shared) (σ:St) (H:Hp) (xs:List V) (us:List Value) (Q:VK),Inv X aa σ H s->Vals xs us->r xs H Q ->
  wpAny (model X.prog X.w) X.A (call f us) (EP X aa σ Q) X.xe s
noncomputable def tOp (r:R2)(ta tb:TE):TE:=fun σ H Q=>ta σ H fun x H1=>tb σ H1 fun y H2=>r x y H2 Q
noncomputable def tUn (r:V->Hp->VK->Prop)(ta:TE):TE:=fun σ H Q=>ta σ H fun x H1=>r x H1 Q
noncomputable def rI (C:Int->Int->Prop)(g:Int->Int->V):R2:=fun x y H Q=>∃i j,x=.int i/\y=.int j/\C i j/\Q (g i j) H
noncomputable def rI0 (g:Int->Int->V):R2:=fun x y H Q=>∃i j,x=.int i/\y=.int j/\Q (g i j) H
noncomputable def rU (g:Int->V):V->Hp->VK->Prop:=fun x H Q=>∃i,x=.int i/\Q (g i) H
section
variable {X:Cx} {a b c:Expr} {ta tb tc:TE} {pos:Pos}
def binT (ha:PE X a ta)(hb:PE X b tb){aa:α7}{s:Shared}{σ:St}{H:Hp}{R:V->V->Hp->Prop}(I:Inv X aa σ H s)
  (h:ta σ H fun x H1=>tb σ H1 fun y H2=>R x y H2) {Q:Value->Shared->Prop} {f:Value->Value->Sem Value}
  (hf:∀v u s2 x y H2,Inv X aa σ H2 s2->RelV x v->RelV y u->R x y H2->wpAny (model X.prog X.w) X.A (f v u) Q X.xe s2):
  wpAny (model X.prog X.w) X.A (eval a X.env) (fun v s₁=>wpAny (model X.prog X.w) X.A (eval b X.env) (fun u aY=>wpAny (model X.prog X.w) X.A (f v u) Q X.xe aY) X.xe s₁) X.xe s:=by
 refine thn (ha aa s σ H _ I h) fun v s1 ⟨x,H1,I1,r1,q1⟩=>?_;refine thn (hb aa s1 σ H1 _ I1 q1) fun u s2 ⟨y,H2,I2,r2,q2⟩=>?_;exact hf v u s2 x y H2 I2 r1 r2 q2
def Ar (ho:OpR X (binaryOp op) r)(ha:PE X a ta)(hb:PE X b tb):PE X (.BinOp a op b pos) (tOp r ta tb):=by
 intro aa s σ H Q I h;exact wpAny_BinOp (binT ha hb I h fun v u s2 x y H2 I2 rx ry q=>ho aa s2 σ H2 x y v u Q I2 rx ry q)
def Lm (ho:UnR X (unaryOp op) r)(ha:PE X a ta):PE X (.UnaryOp op a pos) (tUn r ta):=by
 intro aa s σ H Q I h;exact UnaryOp_ (thn (ha aa s σ H _ I h) fun v s1 ⟨x,H1,I1,r1,q1⟩=>ho aa s1 σ H1 x v Q I1 r1 q1)
def opI {f:Value->Value->Sem Value}{C:Int->Int->Prop}{g:Int->Int->Int}
  (rule:∀(i j:Int) (t u:Tok) (s:Shared) (Q:Value->Shared->Prop) (E:Value->Shared->Prop),C i j->Q (.int (g i j) s.toks) {s with toks:=s.toks+1}->wpAny (model X.prog X.w) X.A (f (.int i t) (.int j u)) Q E s):
  OpR X f (rI C fun i j=>.int (g i j)):=by
 intro aa s σ H x y v u Q I rx ry h;obtain⟨i,j,rfl,rfl,hc,q⟩:=h;obtain⟨t,rfl⟩:=rx;obtain⟨t',rfl⟩:=ry;exact rule i j t t' s _ _ hc ⟨.int (g i j),H,I.tok _,⟨_,rfl⟩,q⟩
def opI0 {f:Value->Value->Sem Value}{g:Int->Int->Int}
  (rule:∀(i j:Int) (t u:Tok) (s:Shared) (Q:Value->Shared->Prop) (E:Value->Shared->Prop),Q (.int (g i j) s.toks) {s with toks:=s.toks+1}->wpAny (model X.prog X.w) X.A (f (.int i t) (.int j u)) Q E s):
  OpR X f (rI0 fun i j=>.int (g i j)):=by
 intro aa s σ H x y v u Q I rx ry h;obtain⟨i,j,rfl,rfl,q⟩:=h;obtain⟨t,rfl⟩:=rx;obtain⟨t',rfl⟩:=ry;exact rule i j t t' s _ _ ⟨.int (g i j),H,I.tok _,⟨_,rfl⟩,q⟩
def opB0 {f:Value->Value->Sem Value}{g:Int->Int->Bool}
  (rule:∀(i j:Int) (t u:Tok) (s:Shared) (Q:Value->Shared->Prop) (E:Value->Shared->Prop),Q (.bool (g i j)) s->wpAny (model X.prog X.w) X.A (f (.int i t) (.int j u)) Q E s):
  OpR X f (rI0 fun i j=>.bl (g i j)):=by
 intro aa s σ H x y v u Q I rx ry h;obtain⟨i,j,rfl,rfl,q⟩:=h;obtain⟨t,rfl⟩:=rx;obtain⟨t',rfl⟩:=ry;exact rule i j t t' s _ _ ⟨.bl (g i j),H,I,rfl,q⟩
noncomputable def CDiv (i j:Int):Prop:=0<j/\j<1073741824
noncomputable def CPow (i j:Int):Prop:=0<=j/\j<=1000000/\i.natAbs<2 ^ 64
noncomputable def CMul (i j:Int):Prop:=(-(2 ^ 64)<i/\i<2 ^ 64)\/(-(2 ^ 64)<j/\j<2 ^ 64)
def CMul.ok (h:CMul i j):IntMulOk i j:=by
 rcases h with ⟨h1,h2⟩|⟨h1,h2⟩
 ·exact .of_left (intBits_le_64 h1 h2)
 ·exact .of_right (intBits_le_64 h1 h2)
def Bl:OpR X (binaryOp .Add) (rI0 fun i j=>.int (i+j)):=opI0 fun _ _ _ _ _ _ _ q=>add_int q
def MY:OpR X (binaryOp .Sub) (rI0 fun i j=>.int (i-j)):=opI0 fun _ _ _ _ _ _ _ q=>sub_int q
def E8:OpR X (binaryOp .Mult) (rI CMul fun i j=>.int (i*j)):=opI fun _ _ _ _ _ _ _ hc q=>mul_int q hc.ok
def IK:OpR X (binaryOp .FloorDiv) (rI CDiv fun i j=>.int (i / j)):=opI fun i j _ _ _ _ _ hc q=>by
 have h1:(0:Int)<j:=hc.1;have h2:j<1073741824:=hc.2;exact floordiv_int s!"" (by rw[oi i s!""];exact q) (.inl (PyProof.noPylong_small s!""))
def A0:OpR X (binaryOp .Mod) (rI (fun _ j=>0<j) fun i j=>.int (i%j)):=opI fun i j _ _ _ _ _ hc q=>by
 have h1:(0:Int)<j:=hc;exact mod_int' s!"" (by rw[Int.fmod_eq_emod_of_nonneg i s!""];exact q)
def Ut:OpR X (binaryOp .Pow) (rI CPow fun i j=>.int (i ^ j.toNat)):=opI fun _ _ _ _ _ _ _ hc q=>pow_int_small hc.1 hc.2.1 hc.2.2 q
def unI {f:Value->Sem Value}{g:Int->Int}
  (rule:∀(i:Int) (t:Tok) (s:Shared) (Q:Value->Shared->Prop) (E:Value->Shared->Prop),Q (.int (g i) s.toks) {s with toks:=s.toks+1}->wpAny (model X.prog X.w) X.A (f (.int i t)) Q E s):
  UnR X f (rU fun i=>.int (g i)):=by
 intro aa s σ H x v Q I rx h;obtain⟨i,rfl,q⟩:=h;obtain⟨t,rfl⟩:=rx;exact rule i t s _ _ ⟨.int (g i),H,I.tok _,⟨_,rfl⟩,q⟩
def GF:UnR X (unaryOp .USub) (rU fun i=>.int (-i)):=unI fun _ _ _ _ _ q=>neg_int q
end
noncomputable def scal:V->V->Bool
 |.non,.non=>true | .non,.int _=>true | .int _,.non=>true | .non,.bl _=>true | .bl _,.non=>true | .non,.str _=>true | .str _,.non=>true
 |.int _,.int _=>true | .bl _,.bl _=>true | .str _,.str _=>true | .byt _,.byt _=>true
 |.int _,.str _=>true | .str _,.int _=>true | .bl _,.str _=>true | .str _,.bl _=>true
 |_,_=>false
noncomputable def rEq:R2:=fun x y H Q=>scal x y=true/\Q (.bl (decide (x=y))) H
noncomputable def rNe:R2:=fun x y H Q=>scal x y=true/\Q (.bl (!decide (x=y))) H
def QA : decide (V.int i=V.int j)=(i==j):=by
 rw[qT_];simp
def Uu : decide (V.bl i=V.bl j)=(i==j):=by
 rw[qT_];simp
def QB : decide (V.str i=V.str j)=(i==j):=by
 rw[qT_];simp
def QC : decide (V.byt i=V.byt j)=(i.toList==j.toList):=by
 rw[qT_];cases i;cases j;simp
section
variable {X:Cx} {a b c:Expr} {ta tb tc:TE} {pos:Pos}
def A4 (I:Inv X aa σ H s)(q:Q (.bl k) H)(e:k=k'):EP X aa σ Q (.bool k') s:=by
 subst e;exact⟨.bl k,H,I,rfl,q⟩
def Gw:OpR X (compareOp .Eq) rEq:=by
 intro aa s σ H x y v u Q I rx ry h;obtain⟨hs,q⟩:=h;cases x with
 |non=>
  cases rx;cases y with
  |non=>cases ry;exact qC (A4 I q (by simp))
  |bl j=>cases ry;exact qD (A4 I q (by simp))
  |int j=>obtain⟨t',rfl⟩:=ry;exact qM (A4 I q (by simp))
  |str j=>obtain⟨t',rfl⟩:=ry;exact qN (A4 I q (by simp))
  |_=>exact absurd (show false=true from hs) jo_
 |bl i=>
  cases rx;cases y with
  |non=>cases ry;exact qE (A4 I q (by simp))
  |bl j=>cases ry;exact eq_bool (A4 I q Uu)
  |str j=>obtain⟨t',rfl⟩:=ry;exact qF (A4 I q (by simp))
  |_=>exact absurd (show false=true from hs) jo_
 |int i=>
  obtain⟨t,rfl⟩:=rx;cases y with
  |non=>cases ry;exact qO (A4 I q (by simp))
  |int j=>obtain⟨t',rfl⟩:=ry;exact eq_int (A4 I q QA)
  |str j=>obtain⟨t',rfl⟩:=ry;exact qP (A4 I q (by simp))
  |_=>exact absurd (show false=true from hs) jo_
 |str i=>
  obtain⟨t,rfl⟩:=rx;cases y with
  |non=>cases ry;exact qQ (A4 I q (by simp))
  |bl j=>cases ry;exact qG (A4 I q (by simp))
  |int j=>obtain⟨t',rfl⟩:=ry;exact qR (A4 I q (by simp))
  |str j=>obtain⟨t',rfl⟩:=ry;exact eq_str (A4 I q QB)
  |_=>exact absurd (show false=true from hs) jo_
 |byt i=>
  obtain⟨t,rfl⟩:=rx;cases y with
  |byt j=>obtain⟨t',rfl⟩:=ry;exact sd (A4 I q QC)
  |_=>exact absurd (show false=true from hs) jo_
 |_=>cases y<;>exact absurd (show false=true from hs) jo_
def Dh:OpR X (compareOp .NotEq) rNe:=by
 intro aa s σ H x y v u Q I rx ry h;obtain⟨hs,q⟩:=h;cases x with
 |non=>
  cases rx;cases y with
  |non=>cases ry;exact qH (A4 I q (by simp))
  |bl j=>cases ry;exact qI (A4 I q (by simp))
  |int j=>obtain⟨t',rfl⟩:=ry;exact qS (A4 I q (by simp))
  |str j=>obtain⟨t',rfl⟩:=ry;exact qT (A4 I q (by simp))
  |_=>exact absurd (show false=true from hs) jo_
 |bl i=>
  cases rx;cases y with
  |non=>cases ry;exact qJ (A4 I q (by simp))
  |bl j=>cases ry;exact ne_bool (A4 I q (qY_ not Uu))
  |str j=>obtain⟨t',rfl⟩:=ry;exact qK (A4 I q (by simp))
  |_=>exact absurd (show false=true from hs) jo_
 |int i=>
  obtain⟨t,rfl⟩:=rx;cases y with
  |non=>cases ry;exact qU (A4 I q (by simp))
  |int j=>obtain⟨t',rfl⟩:=ry;exact ne_int (A4 I q (qY_ not QA))
  |str j=>obtain⟨t',rfl⟩:=ry;exact qV (A4 I q (by simp))
  |_=>exact absurd (show false=true from hs) jo_
 |str i=>
  obtain⟨t,rfl⟩:=rx;cases y with
  |non=>cases ry;exact qW (A4 I q (by simp))
  |bl j=>cases ry;exact qL (A4 I q (by simp))
  |int j=>obtain⟨t',rfl⟩:=ry;exact qX (A4 I q (by simp))
  |str j=>obtain⟨t',rfl⟩:=ry;exact ne_str (A4 I q (qY_ not QB))
  |_=>exact absurd (show false=true from hs) jo_
 |byt i=>
  obtain⟨t,rfl⟩:=rx;cases y with
  |byt j=>obtain⟨t',rfl⟩:=ry;exact se (A4 I q (qY_ not QC))
  |_=>exact absurd (show false=true from hs) jo_
 |_=>cases y<;>exact absurd (show false=true from hs) jo_
def QD:OpR X (compareOp .Lt) (rI0 fun i j=>.bl (decide (i<j))):=opB0 fun _ _ _ _ _ _ _ q=>lt_int q
def W7:OpR X (compareOp .LtE) (rI0 fun i j=>.bl (decide (i<=j))):=opB0 fun _ _ _ _ _ _ _ q=>le_int q
def VF:OpR X (compareOp .Gt) (rI0 fun i j=>.bl (decide (j<i))):=opB0 fun _ _ _ _ _ _ _ q=>gt_int q
def MZ:OpR X (compareOp .Is) (fun x y H Q=>y=.non/\Q (.bl (decide (x=.non))) H):=by
 intro aa s σ H x y v u Q I rx ry h;obtain⟨rfl,q⟩:=h;cases ry;refine is_none_gen (A4 I q ?_);cases x<;>first
  | (cases rx;rfl)
  | (obtain⟨t,rfl⟩:=rx;rfl)
def QE:OpR X (compareOp .IsNot) (fun x y H Q=>y=.non/\Q (.bl (!decide (x=.non))) H):=by
 intro aa s σ H x y v u Q I rx ry h;obtain⟨rfl,q⟩:=h;cases ry;refine isnot_none_gen (A4 I q ?_);cases x<;>first
  | (cases rx;rfl)
  | (obtain⟨t,rfl⟩:=rx;rfl)
def Av (b:Expr) (h:op ≠ .In:=by decide)(h2:op ≠ .NotIn:=by decide):behindInMarks op b=false:=by
 have e1:(op==CmpOp.In)=false:=by cases op<;>first|rfl|exact absurd rfl h
 have e2:(op==CmpOp.NotIn)=false:=by cases op<;>first|rfl|exact absurd rfl h2
 cases b<;>simp[behindInMarks,e1,e2]
def N0 (ho:OpR X (compareOp op) r)(ha:PE X a ta)(hb:PE X b tb)(hm:behindInMarks op b=false):PE X (.Compare a [op] [b] pos) (tOp r ta tb):=by
 intro aa s σ H Q I h;exact wpAny_Compare1 (binT ha hb I h fun v u s2 x y H2 I2 rx ry q=>ho aa s2 σ H2 x y v u Q I2 rx ry q) hm
noncomputable def SR (t:TE):TT:=fun σ H Q=>t σ H fun x H'=>∃k,x=.bl k/\Q k H'
def Ap (ho:OpR X (compareOp op) r)(ha:PE X a ta)(hb:PE X b tb)(hm:behindInMarks op b=false):PT X (.Compare a [op] [b] pos) (SR (tOp r ta tb)):=by
 intro aa s σ H Q I h;refine wpAny_isTrue_Compare1 (thn (ha aa s σ H _ I h) fun v s1 ⟨x,H1,I1,r1,q1⟩=>thn (hb aa s1 σ H1 _ I1 q1) fun u s2 ⟨y,H2,I2,r2,q2⟩ =>
  thn (ho aa s2 σ H2 x y v u _ I2 r1 r2 q2) fun c s3 ⟨z,H3,I3,r3,k,e,q3⟩=>?_) hm
 subst e;cases r3;exact xi_ ⟨H3,I3,q3⟩
noncomputable def Uv (r r':R2)(ta tb tc:TE):TE:=fun σ H Q=>ta σ H fun x H1=>tb σ H1 fun y H2=>r x y H2 fun z H3=>∃k,z=.bl k /\
 (if k=true then tc σ H3 fun w' H4=>r' y w' H4 Q else Q (.bl false) H3)
def ON (ho:OpR X (compareOp op) r)(b6:OpR X (compareOp op') r')(ha:PE X a ta)(hb:PE X b tb)(hc:PE X c tc)
  (hm:lastMarks [op,op'] [b,c]=false:=by with_unfolding_all rfl):PE X (.Compare a [op,op'] [b,c] pos) (Uv r r' ta tb tc):=by
 intro aa s σ H Q I h;refine Compare_chain (thn (ha aa s σ H _ I h) fun v s1 ⟨x,H1,I1,r1,q1⟩=>chain_link (thn (hb aa s1 σ H1 _ I1 q1) fun u s2 ⟨y,H2,I2,r2,q2⟩ =>
  thn (ho aa s2 σ H2 x y v u _ I2 r1 r2 q2) fun d s3 ⟨z,H3,I3,r3,k,e,q3⟩=>?_)) hm
 subst e;cases r3;refine xi_ ?_;cases k with
 |false=>exact ite_ff ⟨.bl false,H3,I3,rfl,q3⟩
 |true=>exact ite_tt (chain_last (thn (hc aa s3 σ H3 _ I3 q3) fun w' s4 ⟨z',H4,I4,r4,q4⟩=>b6 aa s4 σ H4 y z' u w' Q I4 r2 r4 q4))
def QF:(sizeLine:Nat)<2 ^ 63:=by rw[zL_];decide
def Du:OpR X (binaryOp .Add) (fun x y H Q=>∃i j,x=.str i/\y=.str j/\i.length+j.length<=sizeLine/\Q (.str (i++j)) H):=by
 intro aa s σ H x y v u Q I rx ry h;obtain⟨i,j,rfl,rfl,hz,q⟩:=h;obtain⟨t,rfl⟩:=rx;obtain⟨t',rfl⟩:=ry;exact add_str (fun t' tk=>⟨.str (i++j),H,I.tok _,⟨_,rfl⟩,q⟩) hz
def vals1 (r:Vals [x] us):∃u,us=[u]/\RelV x u:=by
 cases r with
 |cons r1 r2=>cases r2;exact⟨_,rfl,r1⟩
def vals2 (r:Vals [x,y] us):∃u w',us=[u,w']/\RelV x u/\RelV y w':=by
 cases r with
 |cons r1 r2=>
  cases r2 with
  |cons r3 r4=>cases r4;exact⟨_,_,rfl,r1,r3⟩
def QG (hc:X.calm=true):Em X (.builtin "max") (fun xs H Q=>∃i j,xs=[.int i,.int j]/\Q (.int (if j > i then j else i)) H):=by
 intro aa s σ H xs us Q I r h;obtain⟨i,j,rfl,q⟩:=h;obtain⟨u,w',rfl,⟨t,rfl⟩,⟨t',rfl⟩⟩:=vals2 r;refine max_two_ints (I.ok.hd hc) fun h' tk k=>⟨_,H,I.kept k,?_,q⟩;by_cases hj:j > i
 ·rw[if_pos hj,if_pos hj];exact⟨_,rfl⟩
 ·rw[if_neg hj,if_neg hj];exact⟨_,rfl⟩
end
end L2
namespace L2
open PySem PySem.Spec PyProof.Rows
structure ObjM (h:Heap)(x dx C:Addr)(mA:Str->α5):Prop where
 obj:h.get? x=some (nT C dx)
 ns:h.Ns1 dx mA
 ne:dx≠x
def QH {h:Heap}{dx:Addr}{mA:Str->α5}(n:h.Ns1 dx mA):∃od,h.get? dx=some od/\∀name,om name od=some (mA name):=by
 obtain⟨o,es,ep,ho,hd,hk,_,hm⟩:=n;refine⟨o,ho,fun name=>?_⟩;have e:=hm name;unfold nsFind findBy at e;rw[<-Array.find?_toList]at e;unfold om;rw[hd];dsimp only;split
 ·rename_i y q
  rw[q]at e;exact qY_ some e
 ·rename_i q
  rw[q]at e;have a:es.toList.any (·.refKey)=false:=by
   rw[List.any_eq_false];intro y hy;obtain⟨z,t,hkey⟩:=hk y (Array.mem_toList_iff.mp hy);simp[DictEntry.refKey,hkey]
  have a':¬ es.toList.any (·.refKey)=true:=by rw[a];exact jo_
  rw[if_neg a'];exact qY_ some e
def ObjM.look (I:ObjM h x dx C mA):∃od,sL h x (nT C dx) C (some od)/\∀name,om name od=some (mA name):=
 let ⟨od,ho,hl⟩:=QH I.ns
 ⟨od,⟨I.obj,rfl,rfl,ho⟩,hl⟩
section
variable {prog:Program} {w:World} {A:Around} {E:Value->Shared->Prop} {s:Shared} {K:α3} {x dx C f:Addr} {mA:Str->α5} {name:Str} {v:Value}
def VG (X:K.In s.heap)(I:ObjM s.heap x dx C mA)(hg:nV K C name=true)(hh:nY K C=true)
  (ha:nK K (.ref C) name=some none) (hv:mA name=some v) (hv':qd v=true) (h:Q v {s with toks:=s.toks+1}):
  wpAny (model prog w) A (getAttr (.ref x) name expr) Q E s:=by
 obtain⟨od,J,hl⟩:=I.look;exact rT X J (zM_ hg).1 (rN hh ha rfl (by rw[hl,hv])) hv' h
def SS (X:K.In s.heap)(I:ObjM s.heap x dx C mA)(hg:nV K C name=true)
  (hf:nK K (.ref C) name=some (some (.ref f))) (ht:pW K (.ref f)=true) (hv:mA name=none) (h:Q (.ref f,[.ref x]) s):
  wpAny (model prog w) A (getMethod (.ref x) name pl) Q E s:=by
 obtain⟨od,J,hl⟩:=I.look;exact rV X J (zM_ hg).1 (zM_ hg).2 hf (xk_.mp ht) (by show (om name od).map (·.isSome)=some false;rw[hl,hv];rfl) h
def VH (X:K.In s.heap)(I:ObjM s.heap x dx C mA)
  (hs:nK K (.ref C) "__setattr__"=some (some (.builtin "object.__setattr__"))) (hp:nZ K C=true) (ht:oP K C name=some none) (hh:nY K C=true)
  (hw:pV mA ns) (hsz:ns.length<=sizeLine)
  (h:∀h',ObjM h' x dx C (fun y=>if y=name then some v else mA y)->Heap.SameBut dx s.heap h'->Q () {s with heap:=h',toks:=s.toks+2}):
  wpAny (model prog w) A (setAttr (.ref x) name v) Q E s:=by
 obtain⟨od,J,hl⟩:=I.look;refine rW X J hs (sf (s:={s with toks:=s.toks+1}) (r:=none) X J hp ht fun b=>?_);obtain⟨cd,hc,jE⟩:=si hh;have hx:s.heap.get? x=some ⟨.ref C,some dx,.plain,#[]⟩:=I.obj;refine jd_ (jm_ (jd_ (jd_ (wpAny_loadPart hx (jd_ (PySem.W.Looks.here (s:={s with toks:=s.toks+1}) (rO X hc) ?_))))));rw[jE];refine jm_ (a:=some dx) (jd_ (jm_ (jd_ ?_)));refine wpAny_nsSet1 (s:={s with toks:=s.toks+1}) I.ns fun h' jg bg=>?_;obtain⟨oD,esD,epD,hoD,hdD,hcD⟩:=jg.count (PySem.Within.cons name v hw);refine jd_ (wpAny_lookBehind hoD (by rw[hdD];exact pastItsLine_dict (j6_ hcD (by rw[jV_];lia))) ?_);exact jm_ (h _ ⟨(bg.2 _ (qn_ I.ne)).trans I.obj,jg,I.ne⟩ bg)
def SU {kw:List (Str×Value)}(X:K.In s.heap)(hm:qt K C=true)
  (hi:nK K (.ref C) "__init__"=some (some (.ref f))) (hf:sN K (.ref f)=some (.type "function"))
  (h:codeAny (model prog w) (A.under (.builtin "type.__call__" ⟨.ref C::vs,kw⟩)) (.call (.ref f) ⟨.ref (s.heap.objs.size+1)::vs,kw⟩) (sj (s.heap.objs.size+1) R)
   {s with heap:=(s.heap.push nQ).push (nT C s.heap.objs.size)}):
  codeAny (model prog w) A (.call (.ref C) ⟨vs,kw⟩) R s:=by
 obtain⟨hh,g,d,t,os⟩:=s;exact rX (sk X hm) (rJ X hi) (fun self=>sG X self hf) (.inl rfl) h
end
noncomputable def putF (f:Str)(v:V):List (Str×V)->List (Str×V)
 |[]=>[(f,v)]
 | (g,x)::r=>if g=f then (g,v)::r else (g,x)::putF f v r
def Ku (f g:Str)(v:V):∀fs:List (Str×V),(putF f v fs).lookup g=if g=f then some v else fs.lookup g
 |[]=>by
  show nX g [(f,v)]=_;by_cases h:g=f
  ·have hb:(g==f)=true:=xk_.mpr h;simp only[nX,hb,if_pos h]
  ·have hb:(g==f)=false:=q3_.mpr h;simp only[nX,hb,if_neg h]
 | (k,x)::r=>by
  have ih:=Ku f g v r;rw[show putF f v ((k,x)::r)=(if k=f then (k,v)::r else (k,x)::putF f v r) from rfl];by_cases hk:k=f
  ·rw[if_pos hk];by_cases h:g=k
   ·have hb:(g==k)=true:=xk_.mpr h;simp only[nX,hb,if_pos (h.trans hk)]
   ·have hb:(g==k)=false:=q3_.mpr h;simp only[nX,hb,if_neg (fun e:g=f=>h (e.trans hk.symm))]
  ·rw[if_neg hk];by_cases h:g=k
   ·have hb:(g==k)=true:=xk_.mpr h;simp only[nX,hb,if_neg (fun e:g=f=>hk (h.symm.trans e))]
   ·have hb:(g==k)=false:=q3_.mpr h;simp only[nX,hb];exact ih
def Kv (f:Str)(v:V):∀fs:List (Str×V),f∈(putF f v fs).map (·.1)/\∀g,g∈fs.map (·.1)->g∈(putF f v fs).map (·.1)
 |[]=>⟨by simp[putF],fun g h=>by simp at h⟩
 | (k,x)::r=>by
  obtain⟨i1,i2⟩:=Kv f v r;rw[show putF f v ((k,x)::r)=(if k=f then (k,v)::r else (k,x)::putF f v r) from rfl];by_cases hk:k=f
  ·rw[if_pos hk];subst hk;exact⟨by simp,fun g h=>by simpa using h⟩
  ·rw[if_neg hk];refine⟨?_,fun g h=>?_⟩
   ·rw[jP_];exact jp_ _ i1
   ·rw[jP_]at h ⊢;rcases jD_.mp h with e|e
    ·exact jD_.mpr (.inl e)
    ·exact jp_ _ (i2 g e)
def Kw (f:Str)(v:V):∀fs:List (Str×V),(putF f v fs).length<=fs.length+1
 |[]=>by simp[putF]
 | (k,x)::r=>by
  have ih:=Kw f v r;rw[show putF f v ((k,x)::r)=(if k=f then (k,v)::r else (k,x)::putF f v r) from rfl];by_cases hk:k=f
  ·rw[if_pos hk,jV_,jV_];lia
  ·rw[if_neg hk,jV_,jV_];lia
def RelO.some_of (r:RelO (some v) o):∃u,o=some u/\RelV v u:=by
 cases o with
 |none=>exact (show False from r).elim
 |some u=>exact⟨u,rfl,r⟩
def RelO.none_of (r:RelO none o):o=none:=by
 cases o with
 |none=>rfl
 |some u=>exact (show False from r).elim
def QI (r:RelV v u):qd u=true:=by
 cases v with
 |non=>cases (show u=Value.none from r);rfl
 |bl b=>cases (show u=Value.bool b from r);rfl
 |int i=>obtain⟨t,e⟩:=(show ∃t,u=Value.int i t from r);cases e;rfl
 |str x=>obtain⟨t,e⟩:=(show ∃t,u=Value.str x t from r);cases e;rfl
 |byt b=>obtain⟨t,e⟩:=(show ∃t,u=Value.bytes b t from r);cases e;rfl
 |flt b=>obtain⟨t,e⟩:=(show ∃t,u=Value.float b t from r);cases e;rfl
 |ref a=>cases (show u=Value.ref a from r);rfl
 |ty n=>cases (show u=Value.type n from r);rfl
section
variable {P:Program} {w:World} {H H':Hp} {h h':Heap} {a C dx:Addr} {fs fs':List (Str×V)}
def L5 (hok:HOk P w H h)(e:H a=some (.ins C dx fs)):∃mA,ObjM h a dx C mA/\(∀f,RelO (fs.lookup f) (mA f))/\pV mA (fs.map (·.1))/\fs.length<=1000/\H dx=some (.own a):=by
 obtain⟨d,z,ne,ob,mA,n,r,q⟩:=(show AY P w H h a (.ins C dx fs) from hok a _ e);exact⟨mA,⟨ob,n,ne⟩,r,q,z,d⟩
end
structure Cls (K:α3)(C:Addr):Prop where
 pg:nV K C Str.empty=true
 hd:nY K C=true
 po:nZ K C=true
 sa:nK K (.ref C) "__setattr__"=some (some (.builtin "object.__setattr__"))
def Cls.get {K:α3} (c:Cls K C)(f:Str):nV K C f=true:=c.pg
noncomputable def BK (K:α3)(C:Addr)(f:Str):Prop:=nK K (.ref C) f=some none
def BK.taker {K:α3} (n:BK K C f):oP K C f=some none:=by
 unfold oP;rw[show nK K (.ref C) f=some none from n];rfl
structure Meth (K:α3)(C:Addr)(m:Str)(f:Addr):Prop where
 at_:nK K (.ref C) m=some (some (.ref f))
 fn:pW K (.ref f)=true
 kp:keepIn K (.ref f)=true
section
variable {X:Cx} {aa:α7} {σ:St} {H:Hp} {s:Shared} {a C dx:Addr} {fs:List (Str×V)} {f:Str} {v:V} {A:Around} {E:Value->Shared->Prop}
def PH (I:Inv X aa σ H s)(e:H a=some (.ins C dx fs))(c:Cls X.K C)(n:BK X.K C f)(l:fs.lookup f=some v)
  (h:∀u s',Inv X aa σ H s'->RelV v u->Q u s'):wpAny (model X.prog X.w) A (getAttr (.ref a) f b) Q E s:=by
 obtain⟨mA,O,r,_,_,_⟩:=L5 I.hok e;obtain⟨u,hu,ru⟩:=RelO.some_of (v:=v) (o:=mA f) (by rw[<-l];exact r f);exact VG I.kIn O (c.get f) c.hd n hu (QI ru) (h u _ (I.tok _) ru)
def Gn (I:Inv X aa σ H s)(e:H a=some (.ins C dx fs))(c:Cls X.K C)(k:Meth X.K C m g)(l:fs.lookup m=none)
  (h:Q (.ref g,[.ref a]) s):wpAny (model X.prog X.w) A (getMethod (.ref a) m pl) Q E s:=by
 obtain⟨mA,O,r,_,_,_⟩:=L5 I.hok e;have hn:mA m=none:=RelO.none_of (by rw[<-l];exact r m);exact SS I.kIn O (c.get m) k.at_ k.fn hn h
def PJ (I:Inv X aa σ H s)(e:H a=some (.ins C dx fs))(c:Cls X.K C)(n:BK X.K C f)(hl:fs.length<1000)(ry:RelV y u)
  (h:∀s',Inv X aa σ (upd H a (.ins C dx (putF f y fs))) s'->Q () s'):wpAny (model X.prog X.w) A (setAttr (.ref a) f u) Q E s:=by
 obtain⟨mA,O,r,wi,_,ho⟩:=L5 I.hok e;have hz:(fs.map (·.1)).length<=sizeLine:=by rw[ja_,zL_];lia
 refine VH I.kIn O c.sa c.po n.taker c.hd wi hz fun h' O' sb=>h _ ?_;have hd:∃o,h'.get? dx=some o:=let ⟨o,_,_,e',_⟩:=O'.ns;⟨o,e'⟩;refine I.write (x:=a) (e:=dx) (by rw[e];exact nL) (.inr ho) (fun b q hb z=>(sb.2 b hb).trans z) hd ?_;refine⟨by rw[Aj O.ne];exact ho,?_,O.ne,O'.obj,_,O'.ns,fun g=>?_,fun g hg=>?_⟩
 ·have:=Kw f y fs;lia
 ·show RelO ((putF f y fs).lookup g) (if g=f then some u else mA g);rw[Ku];by_cases q:g=f
  ·rw[if_pos q,if_pos q];exact ry
  ·rw[if_neg q,if_neg q];exact r g
 ·by_cases q:g=f
  ·rw[q];exact (Kv f y fs).1
  ·refine (Kv f y fs).2 g (wi g fun z=>hg ?_);show (if g=f then some u else mA g)=none;rw[if_neg q];exact z
def Inv.made (I:Inv X aa σ H s):Inv X aa σ (upd (upd H s.heap.objs.size (.own (s.heap.objs.size+1))) (s.heap.objs.size+1) (.ins C s.heap.objs.size []))
  {s with heap:=(s.heap.push nQ).push (nT C s.heap.objs.size)}:=by
 have e1:(s.heap.push nQ).get? s.heap.objs.size=some nQ:=jr_ s.heap rfl;have e2:((s.heap.push nQ).push (nT C s.heap.objs.size)).get? (s.heap.objs.size+1)=some (nT C s.heap.objs.size):=by
  have:=jr_ (s.heap.push nQ) (o:=nT C s.heap.objs.size) rfl
  rwa [j9_]at this
 have e3:(s.heap.push nQ).Ns s.heap.objs.size (fun _=>none):=⟨nQ,#[],_,e1,rfl,(fun e he=>absurd he (by simp)),fun _=>rfl⟩;have I1:=I.laid (a:=s.heap.objs.size) (o:=.own (s.heap.objs.size+1)) (h':=s.heap.push nQ) (t':=s.toks) (fun b u q=>jg_ _ q) (jf_ _) ⟨_,e1⟩;refine I1.laid (a:=s.heap.objs.size+1) (o:=.ins C s.heap.objs.size []) (t':=s.toks) (fun b u q=>jg_ _ q) (pX (j9_ _ _)) ?_;have ne:s.heap.objs.size≠s.heap.objs.size+1:=jE_ (q0_ _);refine⟨by rw[Aj ne,Ab],j3_ _,ne,e2,fun _=>none,(Heap.Ns1.of_empty e3).at fun o q=>jg_ _ q,fun _=>nL,fun y hy=>absurd rfl hy⟩
def VI (hb:attributeBase e f env (eval e env)=eval e env)
  (h:wpAny (model prog w) A (eval e env) (fun o s₁=>wpAny (model prog w) A (getAttr o f true) Q E s₁) E s):wpAny (model prog w) A (eval (.Attribute e f pos) env) Q E s:=
 Attribute_any_ h (by rw[arm_eval_Attribute,hb])
end
noncomputable def tFld (K:α3)(ta:TE)(f:Str):TE:=fun σ H Q=>ta σ H fun x H1=>∃a C dx fs v,x=.ref a/\H1 a=some (.ins C dx fs)/\Cls K C/\BK K C f/\fs.lookup f=some v/\Q v H1
noncomputable def sFld (K:α3)(ta tv:TE)(f:Str):TS:=fun D σ H=>tv σ H fun y H1=>ta σ H1 fun x H2=>∃a C dx fs,x=.ref a/\H2 a=some (.ins C dx fs)/\Cls K C/\BK K C f/\fs.length<1000 /\
 D.nx σ (upd H2 a (.ins C dx (putF f y fs)))
section
variable {X:Cx} {o e value:Expr} {f:Str} {pos bo bp:Pos} {ta tv:TE}
def Ax (he:PE X e ta)(hb:attributeBase e f X.env (eval e X.env)=eval e X.env):PE X (.Attribute e f pos) (tFld X.K ta f):=by
 intro aa s σ H Q I h;refine VI hb (thn (he aa s σ H _ I h) fun u s1 ⟨x,H1,I1,rx,a,C,dx,fs,v,ex,ea,c,n,l,q⟩=>?_);subst ex;obtain rfl:u=Value.ref a:=rx;exact PH I1 ea c n l fun u' s2 I2 ru=>⟨v,H1,I2,ru,q⟩
def B8 (ha:PE X o ta)(hv:PE X value tv)(hs:swapsWith value (some (.Attribute o f bo)) pos.line X.env=pure false):PS X (.Assign [.Attribute o f bo] value pos) (sFld X.K ta tv f):=by
 intro aa s σ H D I h;refine plainObj_wpAny_Assign_Attribute (thn (hv aa s σ H _ I h) fun u s1 ⟨y,H1,I1,ry,q⟩=>thn (ha aa s1 σ H1 _ I1 q) fun ov s2 ⟨x,H2,I2,rx,a,C,dx,fs,ex,ea,c,n,l,q2⟩=>?_) hs;subst ex;obtain rfl:ov=Value.ref a:=rx;exact PJ I2 ea c n l ry fun s3 I3=>⟨σ,_,I3,q2⟩
end
section
variable {X:Cx} {aa:α7} {σ:St} {H:Hp} {s:Shared} {A:Around} {E:Value->Shared->Prop} {Q:Value->Shared->Prop} {c:Value} {b:Bool}
inductive TyOf (K:α3)(H:Hp):V->Value->Prop where
 | non:TyOf K H .non (.type "NoneType")
 | bl (x:Bool):TyOf K H (.bl x) (.type "bool")
 | int (i:Int):TyOf K H (.int i) (.type "int")
 | str (x:Str):TyOf K H (.str x) (.type "str")
 | flt (x:UInt64):TyOf K H (.flt x) (.type "float")
 | lst {a:Addr} {xs:List V} (e:H a=some (.lst xs)):TyOf K H (.ref a) (.type "list")
 | frz {a:Addr} {o:Obj} {xs:List V} (e:H a=some (.frz o (.lst xs))):TyOf K H (.ref a) (.type "list")
 | tup {a:Addr} {xs:List V} (e:H a=some (.tup xs)):TyOf K H (.ref a) (.type "tuple")
 | dK {a:Addr} {kvs:List (Key×V)} (e:H a=some (.dK kvs)):TyOf K H (.ref a) (.type "dict")
 | dT {a:Addr} {kvs:List (List Key×V)} (e:H a=some (.dT kvs)):TyOf K H (.ref a) (.type "dict")
 | ins {a C dx:Addr} {fs:List (Str×V)} (e:H a=some (.ins C dx fs)) (cl:Cls K C) (ha:nK K (.ref C) "__class__"=some (some (.builtin "object.__class__")))
   (hn:oz K (.builtin "object.__class__") "__get__"=some (some (.builtin "getset_descriptor.__get__"))) (fM:qu K (.builtin "object.__class__")=some true)
   (hm:pH K C (.type "object")=some true):TyOf K H (.ref a) (.ref C)
def QJ (I:Inv X aa σ H s)(rx:RelV x u)(ty:TyOf X.K H x t)(e:kitOne X.K t c=some b)(h:∀tk,Q (.bool b) {s with toks:=tk}):
  wpAny (model X.prog X.w) A (call (.builtin "isinstance") [u,c]) Q E s:=by
 cases ty with
 |non=>cases (show u=Value.none from rx);exact qc_ rY I.kIn nL e (fun z=>nomatch z) h
 |bl y=>cases (show u=Value.bool y from rx);exact qc_ rZ I.kIn nL e (fun z=>nomatch z) h
 |int i=>obtain⟨t,q⟩:=(show ∃t,u=Value.int i t from rx);cases q;exact qc_ sm I.kIn nL e (fun z=>nomatch z) h
 |str y=>obtain⟨t,q⟩:=(show ∃t,u=Value.str y t from rx);cases q;exact qc_ sr I.kIn nL e (fun z=>nomatch z) h
 |flt y=>obtain⟨t,q⟩:=(show ∃t,u=Value.float y t from rx);cases q;exact qc_ rP I.kIn nL e (fun z=>nomatch z) h
 |@lst a xs ea=>
  cases (show u=Value.ref a from rx);obtain⟨_,_,n,_,h1⟩:=(show AY X.prog X.w H s.heap a (.lst xs) from I.hok a _ ea);exact qc_ zV_ I.kIn ⟨_,h1,rfl⟩ e (fun z=>nomatch z) h
 |@frz a ob xs ea=>
  cases (show u=Value.ref a from rx);obtain⟨_,_,_,n,_,h1⟩:=(show AY X.prog X.w H s.heap a (.frz ob (.lst xs)) from I.hok a _ ea);exact qc_ zV_ I.kIn ⟨_,h1,rfl⟩ e (fun z=>nomatch z) h
 |@tup a xs ea=>
  cases (show u=Value.ref a from rx);obtain⟨_,_,_,p⟩:=(show AY X.prog X.w H s.heap a (.tup xs) from I.hok a _ ea);obtain⟨o,h1,h2,_⟩:=p;exact qc_ pO I.kIn ⟨o,h1,h2⟩ e (fun z=>nomatch z) h
 |@dK a kvs ea=>
  cases (show u=Value.ref a from rx);obtain⟨_,_,vs,_,p⟩:=(show AY X.prog X.w H s.heap a (.dK kvs) from I.hok a _ ea);obtain⟨o,es,ep,h1,h2,_⟩:=p;exact qc_ pY I.kIn ⟨o,h1,h2.1⟩ e (fun z=>nomatch z) h
 |@dT a kvs ea=>
  cases (show u=Value.ref a from rx);obtain⟨_,_,xs,_,o,es,ep,h1,h2,_⟩:=(show AY X.prog X.w H s.heap a (.dT kvs) from I.hok a _ ea);exact qc_ pY I.kIn ⟨o,h1,h2.1⟩ e (fun z=>nomatch z) h
 |@ins a C dx fs ea cl ha hn fM hm=>
  cases (show u=Value.ref a from rx);obtain⟨mA,O,_⟩:=L5 I.hok ea;obtain⟨od,J,_⟩:=O.look;exact qc_ (su (cl.get _) cl.hd ha hn fM hm) I.kIn J e (fun z=>nomatch z) h
end
end L2
namespace L2
open PySem PySem.Spec PyProof.Rows
structure Room (k:Nat)(A:Around):Prop where
 hd:A.handled=none
 dp:A.depth+3*k+5<recursionLimit
 un:A.units+16*k+200<cLine
def Room.mono (r:Room k A)(h:j<=k):Room j A:=⟨r.hd,by have:=r.dp;lia,by have:=r.un;lia⟩
def Room.deeper (r:Room (k+1) A)(env:Env):Room k (A.deeper env):=
 ⟨r.hd,by have:=r.dp;show A.depth+1+3*k+5<_;lia,by have:=r.un;show A.units+3+16*k+200<_;lia⟩
def PL {A:Around}{C:Addr}{us:List Value}{kw:List (Str×Value)}:(A.under (.builtin "type.__call__" ⟨.ref C::us,kw⟩)).depth=A.depth+1:=by
 first|rfl|simp[Around.under,Code.weight,Code.isCreation,Code.isGuard,Code.isCaller,Code.frames,Code.isFrame,guardIds]
def PM {A:Around}{C:Addr}{us:List Value}{kw:List (Str×Value)}:(A.under (.builtin "type.__call__" ⟨.ref C::us,kw⟩)).units=A.units+1:=by
 first|rfl|simp[Around.under,Code.cUnits,Code.frames,Code.isFrame]
def Room.make (r:Room (k+1) A)(C:Addr)(us:List Value)(kw:List (Str×Value)):Room k (A.under (.builtin "type.__call__" ⟨.ref C::us,kw⟩)):=
 ⟨r.hd,by have:=r.dp;rw[PL];lia,by have:=r.un;rw[PM];lia⟩
def Room.depth (r:Room k A):A.depth<recursionLimit:=by have:=r.dp;lia
def Room.units (r:Room k A):A.units+64<cLine:=by have:=r.un;lia
noncomputable def tNil:TA:=fun _ H Q=>Q [] H
noncomputable def W8 (ta:TE)(tr:TA):TA:=fun σ H Q=>ta σ H fun x H1=>tr σ H1 fun xs H2=>Q (x::xs) H2
section
variable {X:Cx} {e:Expr} {es:List Expr} {te:TE} {t:TA} {pos:Pos}
def Ad:PA X [] tNil:=fun _ _ _ _ H Q I h=>Calls.spliced_nil ⟨[],H,I,.nil,h⟩
def Aa (ha:PE X e te)(hr:PA X es t)(hs:starEach (e::es) X.env=(false,eval e X.env)::starEach es X.env:=by rfl):PA X (e::es) (W8 te t):=by
 intro pos aa s σ H Q I h;rw[hs];show wpAny _ _ (spliced ((false,eval e X.env)::backTo pos (starEach es X.env))) _ _ s;refine x8_ (thn (ha aa s σ H _ I h) fun u s1 ⟨x,H1,I1,r1,q1⟩=>?_);exact thn (hr pos aa s1 σ H1 _ I1 q1) fun us s2 ⟨xs,H2,I2,r2,q2⟩=>⟨x::xs,H2,I2,.cons r1 r2,q2⟩
noncomputable def tTup (t:TA):TE:=fun σ H Q=>t σ H fun xs H1=>xs.length<=sizeLine/\∀p,H1 p=none->Q (.ref p) (upd H1 p (.tup xs))
noncomputable def tLst (t:TA):TE:=fun σ H Q=>t σ H fun xs H1=>xs.length<=sizeLine/\∀p,H1 p=none->Q (.ref p) (upd H1 p (.lst xs))
def Ce {x1}(h:PA X es t):PE X (.Tuple es x1 pos) (tTup t):=by
 intro aa s σ H Q I hq;refine wpAny_Tuple_spliced (thn (h pos aa s σ H _ I hq) fun us s1 ⟨xs,H1,I1,r,z,q⟩=>⟨by rw[<-r.length];exact z,?_⟩);have hf:H1 s1.heap.objs.size=none:=I1.hok.fresh (jf_ _);refine⟨.ref s1.heap.objs.size,upd H1 s1.heap.objs.size (.tup xs),I1.laid (t':=s1.toks) (fun b u e=>jg_ _ e) (jf_ _) ?_,rfl,q _ hf⟩;exact⟨z,us,r,⟨_,jr_ _ rfl,rfl,_,rfl⟩⟩
def E9 (h:PA X es t):PE X (.List es pos) (tLst t):=by
 intro aa s σ H Q I hq;refine wpAny_List_spliced (thn (h pos aa s σ H _ I hq) fun us s1 ⟨xs,H1,I1,r,z,q⟩=>⟨by rw[<-r.length];exact z,?_⟩);have hf:H1 s1.heap.objs.size=none:=I1.hok.fresh (jf_ _);refine⟨.ref s1.heap.objs.size,upd H1 s1.heap.objs.size (.lst xs),I1.laid (t':=s1.toks) (fun b u e=>jg_ _ e) (jf_ _) ?_,rfl,q _ hf⟩;exact⟨z,us,0,r,jr_ _ rfl⟩
end
noncomputable abbrev Sp:=List V->Hp->VK->XK->Prop
noncomputable abbrev CXT:=List Env->Hp->Shared->XK->Value->Shared->Prop
structure Env0 (P:Program)(w:World)(K:α3)(mg:Str->α5)(base:Heap)(A:Around)(outer:List Env)(s:Shared)(H:Hp):Prop where
 frames:A.frames=some outer
 mod:Mod K mg base
 bs:∀b o,base.get? b=some o->s.heap.get? b=some o/\H b=none
 bsz:base.objs.size<=s.heap.objs.size
 funs:s.heap.FunFrames base outer
 frf:∀b∈frs outer,H b=none
 hok:HOk P w H s.heap
 bare:AllBare s.gens
noncomputable def CE (outer:List Env)(P:Program)(w:World)(H:Hp)(s:Shared)(Q:VK)(u:Value)(s':Shared):Prop:=
 ∃v H',s'.os=s.os/\AllBare s'.gens/\Un (frs outer) [] H H' s.heap s'.heap/\HOk P w H' s'.heap/\RelV v u/\Q v H'
noncomputable def CR (CX:CXT)(outer:List Env)(P:Program)(w:World)(H:Hp)(s:Shared)(Q:VK)(E:XK)(r:Result)(s':Shared):Prop:=
 match r with
 |.ok (.ret u)=>CE outer P w H s Q u s'
 |.ok _=>False
 |.error e=>CX outer H s E e s'
structure FnOk (P:Program)(w:World)(K:α3)(mg:Str->α5)(base:Heap)(CX:CXT)(k:Nat)(f:Addr)(fd:α6)(ps:List Str)(sp:Sp):Prop where
 len:∀vs H Q E,sp vs H Q E->vs.length=ps.length
 run:∀(A:Around) (outer:List Env) (s:Shared) (H:Hp) (args:Args) (us:List Value) (vs:List V) (Q:VK) (E:XK),Room k A->Env0 P w K mg base A outer s H->BindsTo s fd args (ps.zip us)->Vals vs us->sp vs H Q E ->
  codeAny (model P w) A (.call (.ref f) args) (CR CX outer P w H s Q E) s
def Env0.make {K:α3} (e:Env0 P w K mg base A outer s H)(C:Addr)(us:List Value)(kw:List (Str×Value)):
  Env0 P w K mg base (A.under (.builtin "type.__call__" ⟨.ref C::us,kw⟩)) outer s H:=⟨by first|exact e.frames|(simpa [Around.under,Code.envs,Code.isFrame,pushEnvs] using e.frames),e.mod,e.bs,e.bsz,e.funs,e.frf,e.hok,e.bare⟩
section
variable {X:Cx} {aa:α7} {σ:St} {H:Hp} {s s':Shared}
def Inv.env0 (I:Inv X aa σ H s):Env0 X.prog X.w X.K X.mg X.base X.A X.stack s H:=
 ⟨I.ok.frames,I.ok.mod,I.bs,j6_ I.ok.bsz I.sz,I.stack,I.stkFree,I.hok,I.bare⟩
def Inv.after (I:Inv X aa σ H s)(h:CE X.stack X.prog X.w H s Q u s'):EP X aa σ Q u s':=by
 obtain⟨v,H',os,bare,un,hok,r,q⟩:=h;obtain⟨hh,g,d,t,os'⟩:=s';obtain rfl:os'=s.os:=os;exact⟨v,H',I.call (h':=hh) (g':=g) (d':=d) (t':=t) (ch:=[]) un hok bare (fun b z=>absurd z (by simp)),r,q⟩
end
noncomputable def SV (sp:Sp)(aN:List V)(E:XK)(t:TA):TE:=fun σ H Q=>t σ H fun vs H1=>sp (vs++aN) H1 Q E
noncomputable def VJ (C:Addr)(m:Str)(sp:Sp)(aN:List V)(E:XK)(ta:TE)(t:TA):TE:=fun σ H Q=>ta σ H fun x H1=>∃a dx fs,x=.ref a/\H1 a=some (.ins C dx fs)/\fs.lookup m=none /\
 t σ H1 fun vs H2=>sp (x::(vs++aN)) H2 Q E
noncomputable def W9 (C:Addr)(sp:Sp)(aN:List V)(E:XK)(t:TA):TE:=fun σ H Q=>t σ H fun vs H1=>∀x dx,H1 x=none->H1 dx=none->dx≠x ->
 sp (.ref x::(vs++aN)) (upd (upd H1 dx (.own x)) x (.ins C dx [])) (fun v H2=>v=.non/\Q (.ref x) H2) E
noncomputable def Binds (K:α3)(fd:α6)(ps:List Str)(ds:List Value):Prop:=
 ∀(s:Shared) (us:List Value),K.In s.heap->(us++ds).length=ps.length->BindsTo s fd ⟨us,[]⟩ (ps.zip (us++ds))
def Binds.all {K:α3} (h:∀us:List Value,us.length=ps.length->bindArgs fd ⟨us,[]⟩=pure (ps.zip us)):Binds K fd ps []:=fun s us _ hl=>by
 rw[xA_]at hl ⊢;exact .of_eq (h us hl)
noncomputable def Fx (CX:CXT)(X:Cx)(E:XK):Prop:=∀(aa:α7) (σ:St) (H:Hp) (s:Shared) (e:Value) (s':Shared),Inv X aa σ H s->CX X.stack H s E e s'->X.xe e s'
section
variable {X:Cx} {CX:CXT} {k:Nat} {f C:Addr} {fd:α6} {ps:List Str} {sp:Sp} {aN:List V} {ds:List Value} {E:XK} {x m:Str} {p pos aG:Pos} {e o:Expr} {es:List Expr} {ta:TE} {t:TA}
def OO (F:FnOk X.prog X.w X.K X.mg X.base CX k f fd ps sp)(hr:Room k X.A)(hb:Binds X.K fd ps ds)(hd:Vals aN ds)(hx:Fx CX X E)
  (I:Inv X aa σ H s) (r:Vals vs us) (h:sp (vs++aN) H Q E):wpAny (model X.prog X.w) X.A (call (.ref f) us) (EP X aa σ Q) X.xe s:=by
 have r2:Vals (vs++aN) (us++ds):=r.append hd;have hl:(us++ds).length=ps.length:=by rw[<-r2.length];exact F.len _ _ _ _ h
 refine wpAny_call (zR_ (F.run X.A X.stack s H ⟨us,[]⟩ (us++ds) (vs++aN) Q E hr I.env0 (hb s us I.kIn hl) r2 h) fun r s' hq=>?_);cases r with
 |error e=>exact hx aa σ H s e s' I hq
 |ok fl=>
  cases fl with
  |ret u=>exact I.after hq
  |next=>exact nN hq
  |brk=>exact nN hq
  |cont=>exact nN hq
def VL (F:FnOk X.prog X.w X.K X.mg X.base CX k f fd ps sp)(hr:Room k X.A)(hg:Gl X x)(hm:X.mg x=some (.ref f))(hk:keepIn X.K (.ref f)=true)(hb:Binds X.K fd ps ds)(hd:Vals aN ds)(hx:Fx CX X E)
  (ha:PA X (e::es) t) (eo:(x==("__debug__" : Str))=false:=by decide) (he:starEach (e::es) X.env=(false,eval e X.env)::starEach es X.env:=by rfl) (cm:(backTo pos (starEach es X.env)).any (·.1)=false:=by rfl):
  PE X (.Call (.Name x p) (e::es) [] pos) (SV sp aN E t):=by
 intro aa s σ H Q I h;refine x9_ (II I hg hm ?_ eo);refine xy_ (h₀:=X.base) I.ok.mod.kin hk (thn (ha pos aa s σ H _ I h) fun us s1 ⟨vs,H1,I1,r,q⟩=>⟨I1.kIn,?_⟩) he cm;exact OO F hr hb hd hx I1 r q
def Bh (he:PE X o ta)(c:Cls X.K C)(hm:Meth X.K C m f)(F:FnOk X.prog X.w X.K X.mg X.base CX k f fd ps sp)(hr:Room k X.A)(hb:Binds X.K fd ps ds)(hd:Vals aN ds)(hx:Fx CX X E)(ha:PA X (e::es) t)
  (dX:starEach (e::es) X.env=(false,eval e X.env)::starEach es X.env:=by rfl) (cm:(backTo pos (starEach es X.env)).any (·.1)=false:=by rfl)
  (ht:eval (.Call (.Attribute o m aG) (e::es) [] pos) X.env=(do
   let ov <- eval o X.env
   standAt aG.atName
   let (f,first) <- holding [ov] (getMethod ov m pl)
   callWith pos f first (backTo pos (starEach (e::es) X.env)) (backToKw pos (keywordEach [] X.env))):=by rfl):
  PE X (.Call (.Attribute o m aG) (e::es) [] pos) (VJ C m sp aN E ta t):=by
 intro aa s σ H Q I h;refine xa_ (pl:=pl) (thn (he aa s σ H _ I h) fun u s1 ⟨x,H1,I1,rx,a,dx,fs,ex,ea,l,q⟩=>?_) ht;subst ex;obtain rfl:u=Value.ref a:=rx;refine Gn I1 ea c hm l ?_;refine xy_ (first:=[.ref a]) (h₀:=X.base) I.ok.mod.kin hm.kp (thn (ha pos aa s1 σ H1 _ I1 q) fun us s2 ⟨vs,H2,I2,r,q2⟩=>⟨I2.kIn,?_⟩) dX cm;exact OO (us:=.ref a::us) (vs:=.ref a::vs) F hr hb hd hx I2 (.cons rfl r) q2
def AQ (he:PE X o ta)(c:Cls X.K C)(hm:Meth X.K C m f)(F:FnOk X.prog X.w X.K X.mg X.base CX k f fd ps sp)(hr:Room k X.A)(hb:Binds X.K fd ps ds)(hd:Vals aN ds)(hx:Fx CX X E)
  (ht:eval (.Call (.Attribute o m aG) [] [] pos) X.env=(do
   let ov <- eval o X.env
   standAt aG.atName
   let (f,first) <- holding [ov] (getMethod ov m pl)
   callWith pos f first (backTo pos (starEach [] X.env)) (backToKw pos (keywordEach [] X.env))):=by rfl):
  PE X (.Call (.Attribute o m aG) [] [] pos) (VJ C m sp aN E ta tNil):=by
 intro aa s σ H Q I h;refine xa_ (pl:=pl) (thn (he aa s σ H _ I h) fun u s1 ⟨x,H1,I1,rx,a,dx,fs,ex,ea,l,q⟩=>?_) ht;subst ex;obtain rfl:u=Value.ref a:=rx;refine Gn I1 ea c hm l ?_;exact pD (first:=[.ref a]) I1.kIn hm.kp (OO (us:=[.ref a]) (vs:=[.ref a]) F hr hb hd hx I1 (.cons rfl .nil) q)
structure Mk (K:α3)(C f:Addr):Prop where
 makes:qt K C=true
 init:nK K (.ref C) "__init__"=some (some (.ref f))
 fn:pW K (.ref f)=true
 kp:keepIn K (.ref C)=true
def SW (M:Mk X.K C f)(F:FnOk X.prog X.w X.K X.mg X.base CX k f fd ps sp)(hr:Room (k+1) X.A)(hb:Binds X.K fd ps ds)(hd:Vals aN ds)
  (hx:Fx CX X E) (I:Inv X aa σ H s) (r:Vals vs us)
  (h:∀x dx,H x=none->H dx=none->dx≠x->sp (.ref x::(vs++aN)) (upd (upd H dx (.own x)) x (.ins C dx [])) (fun v H2=>v=.non/\Q (.ref x) H2) E):
  wpAny (model X.prog X.w) X.A (call (.ref C) us) (EP X aa σ Q) X.xe s:=by
 have hq:=h (s.heap.objs.size+1) s.heap.objs.size (I.hok.fresh (zN_ _)) (I.hok.fresh (jf_ _)) (jE_ (q0_ _));have I2:=Inv.made (C:=C) I;have r2:Vals (V.ref (s.heap.objs.size+1)::(vs++aN)) (Value.ref (s.heap.objs.size+1)::(us++ds)):=.cons rfl (r.append hd);have hl:(Value.ref (s.heap.objs.size+1)::us++ds).length=ps.length:=by
  have e:=r2.length;rw[F.len _ _ _ _ hq]at e;exact e.symm
 refine wpAny_call (SU (f:=f) I.kIn M.makes M.init (xk_.mp M.fn) (zR_ (F.run _ X.stack _ _ ⟨Value.ref (s.heap.objs.size+1)::us,[]⟩ (Value.ref (s.heap.objs.size+1)::(us++ds)) _ _ E (hr.make C us [])
  (I2.env0.make C us []) (hb _ (Value.ref (s.heap.objs.size+1)::us) I2.kIn hl) r2 hq) fun r s' c7=>?_))
 cases r with
 |error e=>exact hx aa σ _ _ e s' I2 c7
 |ok fl=>
  cases fl with
  |ret u=>
   obtain⟨v,H',I3,rv,ev,q3⟩:=I2.after c7;subst ev;exact⟨rv,⟨V.ref (s.heap.objs.size+1),H',I3,rfl,q3⟩⟩
  |next=>exact nN c7
  |brk=>exact nN c7
  |cont=>exact nN c7
def QK (M:Mk X.K C f)(F:FnOk X.prog X.w X.K X.mg X.base CX k f fd ps sp)(hr:Room (k+1) X.A)(hg:Gl X x)(hm:X.mg x=some (.ref C))(hb:Binds X.K fd ps ds)(hd:Vals aN ds)(hx:Fx CX X E)
  (ha:PA X (e::es) t) (eo:(x==("__debug__" : Str))=false:=by decide) (he:starEach (e::es) X.env=(false,eval e X.env)::starEach es X.env:=by rfl) (cm:(backTo pos (starEach es X.env)).any (·.1)=false:=by rfl):
  PE X (.Call (.Name x p) (e::es) [] pos) (W9 C sp aN E t):=by
 intro aa s σ H Q I h;refine x9_ (II I hg hm ?_ eo);refine xy_ (h₀:=X.base) I.ok.mod.kin M.kp (thn (ha pos aa s σ H _ I h) fun us s1 ⟨vs,H1,I1,r,q⟩=>⟨I1.kIn,?_⟩) he cm;exact SW M F hr hb hd hx I1 r q
end
structure FnScope (N P:List Str)(sc:Scope):Prop where
 kind:sc.kind=.function
 co:sc.isCoroutine=false
 gen:sc.isGenerator=false
 nd:N.Nodup
 pre:N.take P.length=P
 par:∀x∈P,sc.names.lookup x=some .local\/sc.names.lookup x=some .cell
 nofree:∀y∈sc.names,y.2 ≠ .free
def M0 {kindOf:Str->Option NameKind}{x:Str}:∀{binds:List (Str×Value)} {m:Str->α5},(∀v,(x,v)∉binds)->bindL kindOf binds m x=m x
 |[],_,_=>rfl
 | (n,v)::r,m,h=>by
  unfold bindL;rw[M0 fun w hw=>h w (jp_ _ hw)];split
  ·have:x≠n:=by rintro rfl;exact h v jA_
   simp[this]
  ·rfl
def M3 {kindOf:Str->Option NameKind}{x:Str}:∀{binds:List (Str×Value)} {m:Str->α5},(∀v,(x,v)∉binds)->bindC kindOf binds m x=m x
 |[],_,_=>rfl
 | (n,v)::r,m,h=>by
  unfold bindC;rw[M3 fun w hw=>h w (jp_ _ hw)];split
  ·rfl
  ·have:x≠n:=by rintro rfl;exact h v jA_
   simp[this]
def M4 {kindOf:Str->Option NameKind}{x:Str}{v:Value}:∀{P:List Str} {vs:List Value} {i:Nat} {m:Str->α5},P.Nodup->P[i]?=some x->vs[i]?=some v->kindOf x=some .local ->
  bindL kindOf (P.zip vs) m x=some v
 |[],_,_,_,_,h,_,_=>by simp at h
 |_::_,[],_,_,_,_,h,_=>by simp at h
 |p::P,w::vs,0,m,nd,h1,h2,hk=>by
  simp at h1 h2;subst h1;subst h2;show bindL kindOf ((p,w)::P.zip vs) m p=_;unfold bindL;rw[M0 fun v hv=>(qU_.mp nd).1 (oQ hv).1,if_pos hk];simp
 |p::P,w::vs,i+1,m,nd,h1,h2,hk=>by
  show bindL kindOf ((p,w)::P.zip vs) m x=_;unfold bindL;exact M4 (i:=i) (qU_.mp nd).2 (by simpa using h1) (by simpa using h2) hk
def M5 {kindOf:Str->Option NameKind}{x:Str}{v:Value}:∀{P:List Str} {vs:List Value} {i:Nat} {m:Str->α5},P.Nodup->P[i]?=some x->vs[i]?=some v->kindOf x≠some .local ->
  bindC kindOf (P.zip vs) m x=some v
 |[],_,_,_,_,h,_,_=>by simp at h
 |_::_,[],_,_,_,_,h,_=>by simp at h
 |p::P,w::vs,0,m,nd,h1,h2,hk=>by
  simp at h1 h2;subst h1;subst h2;show bindC kindOf ((p,w)::P.zip vs) m p=_;unfold bindC;rw[M3 fun v hv=>(qU_.mp nd).1 (oQ hv).1,if_neg hk];simp
 |p::P,w::vs,i+1,m,nd,h1,h2,hk=>by
  show bindC kindOf ((p,w)::P.zip vs) m x=_;unfold bindC;exact M5 (i:=i) (qU_.mp nd).2 (by simpa using h1) (by simpa using h2) hk
noncomputable def start (N:List Str)(vs:List V):St:=vs.map some++nI (N.length-vs.length) none
noncomputable def cxOf (CX:CXT)(P:Program)(w:World)(K:α3)(mg:Str->α5)(base:Heap)(N:List Str)(qual:Str)(scope:Scope)(f:Addr)(cd:Value)(A:Around)(outer:List Env)(s:Shared)(H:Hp)(E:XK):Cx where
 prog:=P
 w:=w
 K:=K
 mg:=mg
 base:=base
 A:=A.deeper (envOfC qual scope s.heap.objs.size f cd)
 N:=N
 s₀:=s
 H₀:=H
 env:=envOfC qual scope s.heap.objs.size f cd
 outer:=outer
 stack:=envOfC qual scope s.heap.objs.size f cd::outer
 ex:=[]
 calm:=true
 fn:=fun _=>true
 pn:=[]
 xe:=fun e s'=>wpAny (model P w) (A.deeper (envOfC qual scope s.heap.objs.size f cd)) (leaving (envOfC qual scope s.heap.objs.size f cd) e) (fun _ ip=>CX outer H s E e ip) (fun e' ip=>CX outer H s E e' ip) s'
def OP {sc:Scope}{n:Nat}{x:Str}(h:sc.names.lookup x=some .cell):∃c,(cellsFrom n sc.names []).lookup x=some c:=by
 have q:=zj_ sc.names n [] (.inl h);exact qr_.mp q
def QL {K:α3}
  (S:FnScope N ps scope) (hd:A.handled=none) (e0:Env0 P w K mg base A outer s H) (hl:vs.length=ps.length) (r:Vals vs us)
  (x:InCallC s s.heap.objs.size (bindL (envOfC qual scope s.heap.objs.size f cd).kindOf (ps.zip us) fun _=>none) (cellsFrom (s.heap.objs.size+1) scope.names []) (bindC (envOfC qual scope s.heap.objs.size f cd).kindOf (ps.zip us) fun _=>none) s1):
  Inv (cxOf CX P w K mg base N qual scope f cd A outer s H E) [] (start N vs) H s1:=by
 have cm:ps.length<=N.length:=by have:=qY_ oh S.pre;rw[jI_]at this;lia
 obtain⟨h1,tk,rfl,hk⟩:=x.done;have jK:∀b:Addr,b∉(cxOf CX P w K mg base N qual scope f cd A outer s H E).ex:=fun b z=>absurd (show b∈([]:List Addr) from z) (by simp);refine⟨⟨e0.mod,S.kind,rfl,rfl,jf_ _,fun y z c h1 h2=>?_,fun y hy=>?_,fun y c _ h=>?_,fun _=>hd,Around.frames_deeper e0.frames,.inr ⟨rfl,rfl⟩,fun b z=>absurd z (jK b),e0.bs,e0.bsz,fun b _ _=>jK b,fun b z=>absurd z (jK b),e0.funs,e0.frf⟩,
  rfl,e0.bare,Un.kept hk,⟨_,x.toInCall.ns,fun i y v h1 h2 h3=>?_⟩,fun y c h=>⟨_,x.cell y c h⟩,e0.hok.fresh (jf_ _),fun y c h=>?_,fun p hp=>absurd (show p∈([]:α7) from hp) (by simp),e0.hok.kept hk,?_⟩
 ·exact name_of_addr x.apart (j4_ h1) (j4_ h2)
 ·have hy:scope.names.lookup y=some .cell\/scope.names.lookup y=some .free:=hy;rcases hy with hy|hy
  ·exact OP hy
  ·exact absurd rfl (S.nofree _ (j4_ hy))
 ·exact x0_ (x.above y c (j4_ h))
 ·have hi:i<vs.length:=by
   unfold start at h2;by_cases hi:i<vs.length
   ·exact hi
   ·rw[jy_ (by simpa using hi)]at h2;rw[za_]at h2;split at h2<;>cases h2
  have ha:vs[i]?=some v:=by
   unfold start at h2;rw[jw_ (by simpa using hi),jh_]at h2;cases e:vs[i]? with
   |none=>rw[e]at h2;cases h2
   |some a=>rw[e]at h2;cases h2;rfl
  obtain⟨u,hu,rv⟩:=r.get ha;have hp:ps[i]?=some y:=by
   rw[<-S.pre,List.getElem?_take_of_lt s!""];exact h1
  have ndP:ps.Nodup:=by rw[<-S.pre];exact S.nd.sublist (List.take_sublist _ _)
  refine⟨u,rv,?_⟩;rcases S.par y (jn_ hp) with k|k
  ·exact .inl ⟨k,M4 ndP hp hu k⟩
  ·obtain⟨c,e⟩:=OP (n:=s.heap.objs.size+1) k;refine .inr ⟨.inl k,c,e,?_⟩;have q:=x.cell y c e;rw[M5 ndP hp hu (by show scope.names.lookup y≠_;rw[k];decide)]at q;exact q
 ·exact e0.hok.fresh (x0_ (x.above y c (j4_ h)))
 ·unfold start;show _=N.length;rw[ju_,ja_,xb_];lia
def Xa {K:α3} {dV kV bG pm ao ct oc:Value}
       (lk:K.lookup f=some ⟨oc,od,.func (fnOf name qual params body scope dV kV bG pm an ao ct),iq⟩) (cI:ph K ao qual=true) (S:FnScope N ps scope)
    (len:∀vs H Q E,sp vs H Q E->vs.length=ps.length)
    (aR:∀(A:Around) (outer:List Env) (s:Shared) (H:Hp) (vs:List V) (Q:VK) (E:XK),Room k (A.deeper (envOfC qual scope s.heap.objs.size f ao))->sp vs H Q E ->
      ∃t,PSs (cxOf CX P w K mg base N qual scope f ao A outer s H E) body t/\t {nx:=fun _ H'=>Q .non H',rt:=Q} (start N vs) H):
    FnOk P w K mg base CX (k+1) f (fnOf name qual params body scope dV kV bG pm an ao ct) ps sp:=by
  refine⟨len,fun A outer s H args us vs Q E hr e0 hb r bS=>?_⟩;have hl:=len _ _ _ _ bS;have KX:K.In s.heap:=e0.mod.kin.keeps fun b o e=>(e0.bs b o e).1;have lim:s.heap.NoLimit:=e0.mod.nolimit.keeps fun b o e=>(e0.bs b o e).1;have hkind:∀y∈ps.zip us,scope.names.lookup y.1=some .local\/(scope.names.lookup y.1=some .cell/\((cellsFrom (s.heap.objs.size+1) scope.names []).lookup y.1).isSome=true):=fun ⟨n,v⟩ hy=>by
    rcases S.par n (oQ hy).1 with q|q
    . exact .inl q
    . exact .inr ⟨q,zj_ _ _ _ (.inl q)⟩
  refine codeAny_call_function hr.depth (KX _ _ lk) rfl S.co S.gen rfl (rQ KX cI) (hb _ _ _ _ ?_);refine wpAny_newFunctionEnv_cells S.kind hkind fun env he s1 x=>?_;subst he;refine⟨lim.keeps x.toInCall.keep,codeAny_func ?_⟩;obtain⟨t,ht,hq⟩:=aR A outer s H vs Q E (hr.deeper _) bS;have I:Inv (cxOf CX P w K mg base N qual scope f ao A outer s H E) [] (start N vs) H s1:=QL S hr.hd e0 hl r x;refine qQ_ (ht [] s1 (start N vs) H _ I hq) (fun fl s' hs=>?_) fun e s' hs=>hs;have fin:∀{af:St} {H':Hp} {v:V} {u:Value},Inv (cxOf CX P w K mg base N qual scope f ao A outer s H E) [] af H' s'->RelV v u->Q v H'->CE outer P w H s Q u s' :=
    fun {af H' v u} J rv q=>⟨v,H',J.os,J.bare,J.base,J.hok,rv,q⟩
  cases fl with
  |ret u=>
    obtain⟨v,af,H',J,rv,q⟩:=hs;exact fin J rv q
  |next=>
    obtain⟨af,H',J,q⟩:=hs;exact fin (v:=V.non) (u:=Value.none) J rfl q
  |brk=>
    obtain⟨_,_,_,q⟩:=hs;exact nN q
  |cont=>
    obtain⟨_,_,_,q⟩:=hs;exact nN q
end L2
namespace L2
open PySem PySem.Spec PyProof.Rows
section
variable {X:Cx} {x:Str} {p pos:Pos} {e:Expr} {es:List Expr} {t:TA} {id T:String} {r:List V->Hp->VK->Prop}
noncomputable def tCB (r:List V->Hp->VK->Prop)(t:TA):TE:=fun σ H Q=>t σ H fun vs H1=>r vs H1 Q
def AK (hc:Em X (.builtin id) r)(hg:Gl X x)(hm:X.mg x=none)(hv:bootBuiltins x=some (.builtin id))(ha:PA X (e::es) t)(hn:x ≠ "__name__" := by decide)(eo:(x==("__debug__" : Str))=false:=by decide)
  (he:starEach (e::es) X.env=(false,eval e X.env)::starEach es X.env:=by rfl) (cm:(backTo pos (starEach es X.env)).any (·.1)=false:=by rfl):PE X (.Call (.Name x p) (e::es) [] pos) (tCB r t):=by
 intro aa s σ H Q I h;refine x9_ (Hv I hg hm hv ?_ hn eo);exact qe (thn (ha pos aa s σ H _ I h) fun us s1 ⟨vs,H1,I1,r1,q1⟩=>hc aa s1 σ H1 vs us Q I1 r1 q1) he cm
def AF (hc:Em X (.type T) r)(hg:Gl X x)(hm:X.mg x=none)(hv:bootBuiltins x=some (.type T))(ha:PA X (e::es) t)(hn:x ≠ "__name__" := by decide)(eo:(x==("__debug__" : Str))=false:=by decide)
  (he:starEach (e::es) X.env=(false,eval e X.env)::starEach es X.env:=by rfl) (cm:(backTo pos (starEach es X.env)).any (·.1)=false:=by rfl):PE X (.Call (.Name x p) (e::es) [] pos) (tCB r t):=by
 intro aa s σ H Q I h;refine x9_ (Hv I hg hm hv ?_ hn eo);exact qb_ (thn (ha pos aa s σ H _ I h) fun us s1 ⟨vs,H1,I1,r1,q1⟩=>hc aa s1 σ H1 vs us Q I1 r1 q1) he cm
end
end L2
namespace HT
open PySem PyProof.Rows
section
variable {prog:Program} {w:World} {A:Around} {E:Value->Shared->Prop} {s:Shared}
def cat_tup (ht:IsTup s.heap t vs.toArray)(hb:IsTup s.heap b ws.toArray)(hv:vs ≠ [])
  (h1:ws=[]->Q (.ref t) s) (h2:ws ≠ []->Q (.ref s.heap.objs.size) {s with heap:=s.heap.push {cls:=.type "tuple",data:=.seq (vs++ws).toArray} })
  (hsz:vs.length+ws.length<=sizeLine):wpAny (model prog w) A (binaryOp .Add (.ref t) (.ref b)) Q E s:=by
 obtain⟨⟨cls,dd,data,sl⟩,ho,hc,n,hd⟩:=id ht;obtain⟨⟨cls2,kR,data2,kU⟩,fg,cn,n2,fN⟩:=id hb;simp only at hc hd cn fN;subst hc hd cn fN;have e:vs.toArray++ws.toArray=(vs++ws).toArray:=by simp
 by_cases hw:ws=[]
 ·exact concat_meets ⟨_,ho,rfl⟩ ⟨_,fg,rfl⟩ noFill_tuple_add seq_tuple_add zk_ zb_ (x1_ _ _)
   (tuple_addW1 t b vs.toArray ws.toArray n n2 dd kR sl kU (by simpa using hv) (by simp[hw])) ⟨ho,fg,h1 hw⟩
 ·refine concat_meets ⟨_,ho,rfl⟩ ⟨_,fg,rfl⟩ noFill_tuple_add seq_tuple_add zk_ zb_ (x1_ _ _)
   (tuple_addW2 t b vs.toArray ws.toArray n n2 dd kR sl kU (by simpa using hv) (by simpa using hw) (by rw[jl_,jl_];exact hsz)) ⟨ho,fg,?_⟩
  rw[e];exact h2 hw
noncomputable def sIx (n d:Nat):Option Int->Nat
 |none=>d
 |some v=>if v<0 then (v+(n:Int)).toNat else min v.toNat n
def sIx_none (n d:Nat):sIx n d none=d:=rfl
def sIx_nat (n d k:Nat):sIx n d (some (k:Int))=min k n:=by
 show (if (k:Int)<0 then ((k:Int)+(n:Int)).toNat else min (k:Int).toNat n)=min k n;rw[if_neg s!"",jz_]
def Xb (n d:Nat)(hd:d<=n)(o:Option Int):sIx n d o<=n:=by
 cases o with
 |none=>exact hd
 |some v=>
  show (if v<0 then (v+(n:Int)).toNat else min v.toNat n)<=n;by_cases hv:v<0
  ·rw[if_pos hv];lia
  ·rw[if_neg hv];exact Nat.min_le_right _ _
def QM (v:Int)(n d:Nat):(if v<0 then max (v+(n:Int)) 0 else min v (n:Int))=((sIx n d (some v):Nat):Int):=by
 show (if v<0 then max (v+(n:Int)) 0 else min v (n:Int))=(((if v<0 then (v+(n:Int)).toNat else min v.toNat n):Nat):Int);by_cases hv:v<0
 ·simp only[if_pos hv];lia
 ·simp only[if_neg hv];lia
def PN (lo hi:Option Int)(n:Nat):Builtin.Slice.sliceAdjust lo hi 1 (n:Int)=(((sIx n 0 lo:Nat):Int),((sIx n n hi:Nat):Int)):=by
 have h1:¬ ((1:Int)<0):=by lia
 unfold Builtin.Slice.sliceAdjust;simp only[h1,xH_];refine Prod.ext ?_ ?_
 ·cases lo with
  |none=>rfl
  |some v=>exact QM v n 0
 ·cases hi with
  |none=>rfl
  |some v=>exact QM v n n
def PQ (i j:Nat):Builtin.Slice.slicePlaces (i:Int) (j:Int) 1=j-i:=by
 unfold Builtin.Slice.slicePlaces;have h1:(1:Int) > 0:=by lia
 simp only[h1,zZ_,rh];split<;>lia
def LG (p:IsPart v o)(h:Q o s):wpAny (model prog w) A (Builtin.Slice.slicePartIndex v) Q E s:=by
 cases p with
 |none=>exact slicePart_none h
 |int i t=>exact slicePart_int h
def Fb {sl:Addr}{vl vu:Value}{lo hi:Option Int}{n:Nat}{Q:Int×Int×Nat->Shared->Prop}(hs:s.heap.IsSliceOf sl vl vu .none)(pl:IsPart vl lo)(pu:IsPart vu hi)
  (h:Q (((sIx n 0 lo:Nat):Int),1,sIx n n hi-sIx n 0 lo) s):wpAny (model prog w) A (Builtin.Slice.sliceApplied (.ref sl) (pure (n:Int))) Q E s:=by
 obtain⟨os,eA,dG,gK⟩:=id hs;unfold Builtin.Slice.sliceApplied Builtin.Slice.sliceFields;refine jd_ (jd_ (wpAny_field eA gK (x:=vl) rfl (jd_ (wpAny_field eA gK (x:=vu) rfl (jd_ (wpAny_field eA gK (x:=.none) rfl (jm_ ?_)))))));refine jd_ (slicePart_none ?_);show wpAny _ _ (if ((1:Int)==0)=true then _ else _) _ _ s;rw[if_neg (by decide)];refine jd_ (LG pl (jd_ (LG pu (jd_ (jm_ ?_)))));show wpAny _ _ (match Builtin.Slice.sliceAdjust lo hi 1 (n:Int) with|(lo,hi)=>pure (lo,(1:Int),Builtin.Slice.slicePlaces lo hi 1)) _ _ s;rw[PN lo hi n];show wpAny _ _ (pure (((sIx n 0 lo:Nat):Int),(1:Int),Builtin.Slice.slicePlaces ((sIx n 0 lo:Nat):Int) ((sIx n n hi:Nat):Int) 1)) _ _ s;rw[PQ];exact jm_ h
def SX (xs:Array Value)(i k:Nat):((nJ k).filterMap fun (m:Nat)=>xs[((i:Int)+(m:Int)*1).toNat]?).toArray=((xs.toList.drop i).take k).toArray:=by
 have e:(fun (m:Nat)=>xs[((i:Int)+(m:Int)*1).toNat]?)=fun m=>xs[i+m]?:=by
  funext m
  have:((i:Int)+(m:Int)*1).toNat=i+m:=by lia
  rw[this]
 rw[e];have:=pick_run xs i k;rw[List.filterMap_map]at this;have e2:((fun x=>xs[x]?) ∘ fun x=>i+x)=fun m=>xs[i+m]?:=rfl;rw[e2]at this;rw[this]
def getItem_tuple_cut {t sl:Addr} {lo hi:Option Int} (ht:IsTup s.heap t items)(hs:s.heap.IsSliceOf sl vl vu .none)(pl:IsPart vl lo)(pu:IsPart vu hi)
  (hw:¬ (sIx items.size 0 lo=0/\sIx items.size items.size hi=items.size))
  (h:Q (.ref s.heap.objs.size) {s with heap:=s.heap.push {cls:=.type "tuple",data:=.seq ((items.toList.drop (sIx items.size 0 lo)).take (sIx items.size items.size hi-sIx items.size 0 lo)).toArray} })
  (hsz:items.size<=sizeLine):wpAny (model prog w) A (getItem (.ref t) (.ref sl)) Q E s:=by
 have dA:sizeOk (.seq ((items.toList.drop (sIx items.size 0 lo)).take (sIx items.size items.size hi-sIx items.size 0 lo)).toArray):=by
  show ((items.toList.drop (sIx items.size 0 lo)).take (sIx items.size items.size hi-sIx items.size 0 lo)).toArray.size<=sizeLine;rw[jl_,jI_,qj_,qR_];lia
 have hj:sIx items.size items.size hi<=items.size:=Xb _ _ (jf_ _) hi;obtain⟨os,eA,dG,gK⟩:=id hs;have lQ:s.TypeIs (.ref sl) "slice" := ⟨os,eA,dG⟩;unfold getItem
 try with_reducible refine xc_ ?_
 first|refine jd_ (jm_ ?_)|skip
 refine jd_ (wpAny_sequenceKey ht.typeIs (by decide) ?_);refine jd_ (qy_ (name:=Str.ofString "__getitem__") ht.typeIs j2_
  (qx_ j2_ ht.typeIs entry_tuple_getitem ?_ (args_tuple_getitem _ _)))
 show wpAny _ _ (Builtin.Tuple.tupleItemsOf (.ref t) >>= _) _ _ s;refine jd_ (tupleItemsOf_ ht ?_);refine jd_ (zt_ lQ ?_);rw[if_pos (by decide)];refine jd_ (Fb hs pl pu ?_);have bA:¬ ((((sIx items.size 0 lo:Nat):Int)==0&&(1:Int)==1&&(sIx items.size items.size hi-sIx items.size 0 lo)==items.size)=true):=by
  intro q;rw[jW_,jW_]at q;have q1:((sIx items.size 0 lo:Nat):Int)=0:=eq_of_beq q.1.1;have q2:sIx items.size items.size hi-sIx items.size 0 lo=items.size:=eq_of_beq q.2;exact hw ⟨by lia,by lia⟩
 show wpAny _ _ (if (((sIx items.size 0 lo:Nat):Int)==0&&(1:Int)==1&&(sIx items.size items.size hi-sIx items.size 0 lo)==items.size)=true then _ else _) _ _ s;rw[if_neg bA,SX]
 first
  | exact jd_ (m:=Builtin.Tuple.tupleExact _) (qk_ (jm_ ⟨_,rfl,jm_ h⟩) dA)
  | exact jd_ (m:=Builtin.Tuple.tupleExact _) (qk_ (jd_ (jm_ (jm_ ⟨_,rfl,jm_ h⟩))) dA)
  | exact jd_ (jd_ (m:=Builtin.Tuple.tupleExact _) (qk_ (jm_ (jm_ ⟨_,rfl,jm_ h⟩)) dA))
  | exact jd_ (jd_ (m:=Builtin.Tuple.tupleExact _) (qk_ (jm_ ⟨_,rfl,jm_ h⟩) dA))
end
end HT
namespace L2
open PySem PySem.Spec PyProof.Rows
noncomputable abbrev TO:=St->Hp->(Option Int->Hp->Prop)->Prop
noncomputable def PO (X:Cx)(e:Option Expr)(t:TO):Prop:=
 ∀(aa:α7) (s:Shared) (σ:St) (H:Hp) (Q:Option Int->Hp->Prop),Inv X aa σ H s->t σ H Q ->
  wpAny (model X.prog X.w) X.A (evalPart e X.env) (fun u s'=>∃o H',Inv X aa σ H' s'/\IsPart u o/\Q o H') X.xe s
noncomputable def QN:TO:=fun _ H Q=>Q none H
noncomputable def Xc (t:TE):TO:=fun σ H Q=>t σ H fun x H1=>∃i,x=.int i/\Q (some i) H1
def intsAre_of : ∀{us:List Value},Vals (ns.map V.int) us->IntsAre us ns:=by
 induction ns with
 |nil=>intro us r;rw[xB_]at r;cases r;exact .nil
 |cons n ns ih=>
  intro us r;rw[jP_]at r;cases r with
  |cons r1 r2=>
   obtain⟨t,e⟩:=r1;subst e;exact .cons n t (ih r2)
section
variable {X:Cx} {e:Expr} {te:TE} {lo hi:Option Expr} {tl th:TO} {pos p2:Pos}
def C1:PO X none QN:=by
 intro aa s σ H Q I h;rw[evalPart_none];exact jm_ ⟨none,H,I,.none,h⟩
def C2 (h:PE X e te):PO X (some e) (Xc te):=by
 intro aa s σ H Q I hw;rw[evalPart_some];refine thn (h aa s σ H _ I hw) fun u s1 ⟨x,H1,I1,r1,q1⟩=>?_;obtain⟨i,rfl,q⟩:=q1;obtain⟨t,rfl⟩:=r1;exact⟨some i,H1,I1,.int i t,q⟩
noncomputable def SlR (X:Cx)(r:V->Option Int->Option Int->Hp->VK->Prop):Prop:=
 ∀(aa:α7) (s:Shared) (σ:St) (H:Hp) (x:V) (v vl vu:Value) (lo hi:Option Int) (sl:Addr) (Q:VK),Inv X aa σ H s->RelV x v->s.heap.IsSliceOf sl vl vu .none->IsPart vl lo->IsPart vu hi->r x lo hi H Q ->
  ∃T id,typeLookup (.type T) "__getitem__"=pure (some (.builtin id))/\s.TypeIs v T/\wpAny (model X.prog X.w) X.A (getItem v (.ref sl)) (EP X aa σ Q) X.xe s
noncomputable def tSl (r:V->Option Int->Option Int->Hp->VK->Prop)(te:TE)(tl th:TO):TE:=fun σ H Q=>te σ H fun x H1=>tl σ H1 fun l H2=>th σ H2 fun u H3=>r x l u H3 Q
def BS (hr:SlR X r)(he:PE X e te)(hl:PO X lo tl)(hu:PO X hi th):PE X (.Subscript e (.Slice lo hi none p2) pos) (tSl r te tl th):=by
 intro aa s σ H Q I h;refine Subscript_ (thn (he aa s σ H _ I h) fun v s1 ⟨x,H1,I1,r1,q1⟩=>?_);refine wpAny_Slice (thn (hl aa s1 σ H1 _ I1 q1) fun vl s2 ⟨l,H2,I2,pl,q2⟩=>thn (hu aa s2 σ H2 _ I2 q2) fun vu s3 ⟨u,H3,I3,pu,q3⟩=>?_);rw[evalPart_none];refine jm_ ?_;have I4:Inv X aa σ H3 {s3 with heap:=s3.heap.push {cls:=.type "slice",data:=.fields #[vl,vu,.none]} }:=I3.kept (t':=s3.toks) fun b ob q=>jg_ _ q;obtain⟨T,id,hT,ht,hg⟩:=hr aa {s3 with heap:=s3.heap.push {cls:=.type "slice",data:=.fields #[vl,vu,.none]} } σ H3 x v vl vu l u s3.heap.objs.size Q I4 r1 (Heap.IsSliceOf.new ..) pl pu q3;show wpAny (model X.prog X.w) X.A (subscriptTail e (.Slice lo hi none p2) v (.ref s3.heap.objs.size)) (EP X aa σ Q) X.xe {s3 with heap:=s3.heap.push {cls:=.type "slice",data:=.fields #[vl,vu,.none]} };exact tail_any (ops:=[.ref s3.heap.objs.size,v]) ht hT hg (by with_unfolding_all rfl)
noncomputable def cutV (xs:List V)(lo hi:Option Int):List V:=(xs.drop (HT.sIx xs.length 0 lo)).take (HT.sIx xs.length xs.length hi-HT.sIx xs.length 0 lo)
def N1 (xs:List V)(lo hi:Option Int):(cutV xs lo hi).length<=xs.length:=by
 unfold cutV;rw[jI_,qj_];lia
noncomputable def rSlT (K:α3):V->Option Int->Option Int->Hp->VK->Prop:=fun x lo hi H Q=>∃a xs,x=.ref a/\SqT K H a xs /\
 ¬ (HT.sIx xs.length 0 lo=0/\HT.sIx xs.length xs.length hi=xs.length)/\∀p,H p=none->Q (.ref p) (upd H p (.tup (cutV xs lo hi)))
def Uw:SlR X (rSlT X.K):=by
 intro aa s σ H x v vl vu lo hi sl Q I rx hs pl pu h;obtain⟨a,xs,rfl,hx,hw,q⟩:=h;cases rx;obtain⟨its,r,ht,hz⟩:=I.tuple hx;have ak:its.toArray.size=xs.length:=by rw[jl_];exact r.length.symm
 refine⟨"tuple",_,j2_.lookup,ht.typeIs,?_⟩;refine HT.getItem_tuple_cut ht hs pl pu (by rw[ak];exact hw) ?_ (by rw[ak];exact hz);rw[ak];refine⟨.ref s.heap.objs.size,_,I.laid (t':=s.toks) (o:=.tup (cutV xs lo hi)) (fun b ob q=>jg_ _ q) (jf_ _) ?_,rfl,q _ (I.hok.fresh (jf_ _))⟩;exact⟨j6_ (N1 xs lo hi) hz,_,(r.drop (HT.sIx xs.length 0 lo)).take (HT.sIx xs.length xs.length hi-HT.sIx xs.length 0 lo),IsTup.new _ _⟩
noncomputable def Yv (K:α3):R2:=fun x y H Q=>∃a b xs ys,x=.ref a/\y=.ref b/\SqT K H a xs/\SqT K H b ys/\xs ≠ []/\xs.length+ys.length<=sizeLine /\
 (ys=[]->Q (.ref a) H)/\(ys ≠ []->∀p,H p=none->Q (.ref p) (upd H p (.tup (xs++ys))))
def Vals.nil_iff (r:Vals xs us):us=[]↔xs=[]:=by
 cases r with
 |nil=>simp
 |cons _ _=>simp
def VM:OpR X (binaryOp .Add) (Yv X.K):=by
 intro aa s σ H x y v u Q I rx ry h;obtain⟨a,b,xs,ys,rfl,rfl,ha,hb,hx,hz,q1,q2⟩:=h;cases rx;cases ry;obtain⟨its,r1,p1,_⟩:=I.tuple ha;obtain⟨aH,r2,p2,_⟩:=I.tuple hb;refine HT.cat_tup p1 p2 (fun z=>hx (r1.nil_iff.mp z)) (fun z=>⟨.ref a,H,I,rfl,q1 (r2.nil_iff.mp z)⟩) (fun z=>?_) (by rw[<-r1.length,<-r2.length];exact hz);refine⟨.ref s.heap.objs.size,_,I.laid (t':=s.toks) (o:=.tup (xs++ys)) (fun b ob q=>jg_ _ q) (jf_ _) ?_,rfl,q2 (fun w=>z (r2.nil_iff.mpr w)) _ (I.hok.fresh (jf_ _))⟩;exact⟨by rw[ju_];exact hz,_,r1.append r2,IsTup.new _ _⟩
end
end L2
namespace L2
open PySem PySem.Spec PyProof.Rows
noncomputable def ixN (n:Nat)(i:Int):Option Nat:=if 0<=i then (if i<n then some i.toNat else none) else if -(n:Int)<=i then some (i+n).toNat else none
noncomputable def atI {α:Type}(xs:List α)(i:Int):Option α:=(ixN xs.length i).bind fun j=>xs[j]?
def VN (h:ixN n i=some j):seqIndex? i n=some j/\j<n /\ -(n:Int)<=i/\i<n:=by
 unfold ixN at h;by_cases h0:0<=i
 ·rw[if_pos h0]at h;by_cases h1:i<n
  ·rw[if_pos h1]at h;have e:i.toNat=j:=jt_ h;exact⟨by rw[seqIndex_of h0 h1,e],by lia,by lia,h1⟩
  ·rw[if_neg h1]at h;cases h
 ·rw[if_neg h0]at h;by_cases h1 : -(n:Int)<=i
  ·rw[if_pos h1]at h;have e:(i+n).toNat=j:=jt_ h;exact⟨by rw[seqIndex_neg s!"" h1,e],by lia,h1,by lia⟩
  ·rw[if_neg h1]at h;cases h
def QO (h:atI xs i=some v):∃j,seqIndex? i xs.length=some j/\xs[j]?=some v/\j<xs.length /\ -(xs.length:Int)<=i/\i<xs.length:=by
 unfold atI at h;cases e:ixN xs.length i with
 |none=>rw[e]at h;cases h
 |some j=>
  rw[e]at h;obtain⟨h1,h2,h3,h4⟩:=VN e;exact⟨j,h1,h,h2,h3,h4⟩
def EH {α:Type}{xs:List α}{j:Nat}{v:α}(h:xs[j]?=some v):atI xs (j:Int)=some v:=by
 have hj:j<xs.length:=(je_.mp h).1;have e:ixN xs.length (j:Int)=some j:=by
  unfold ixN;rw[if_pos s!"",if_pos s!""];simp
 unfold atI;rw[e];exact h
noncomputable def QP (b:Expr):Prop:=∀o i,subscripted b false o i=operate [o,i] (getItem o i)
noncomputable def IxR (X:Cx)(r:R2):Prop:=
 ∀(value bu:Expr) (aa:α7) (s:Shared) (σ:St) (H:Hp) (x y:V) (v u:Value) (Q:VK),Inv X aa σ H s->RelV x v->RelV y u->r x y H Q ->
  subscripted bu false v u=operate [v,u] (getItem v u)->wpAny (model X.prog X.w) X.A (subscriptTail value bu v u) (EP X aa σ Q) X.xe s
noncomputable def MtR (X:Cx)(id:String)(r:V->List V->Hp->VK->Prop):Prop:=
 ∀(aa:α7) (s:Shared) (σ:St) (H:Hp) (x:V) (xs:List V) (v:Value) (us:List Value) (Q:VK),Inv X aa σ H s->RelV x v->Vals xs us->r x xs H Q ->
  wpAny (model X.prog X.w) X.A (call (.builtin id) (v::us)) (EP X aa σ Q) X.xe s
section
variable {X:Cx} {a b:Expr} {ta tb:TE} {pos:Pos}
def Yw (hr:IxR X r)(ha:PE X a ta)(hb:PE X b tb)(hs:QP b):PE X (.Subscript a b pos) (tOp r ta tb):=by
 intro aa s σ H Q I h;exact Subscript_ (binT ha hb I h fun v u s2 x y H2 I2 rx ry q=>hr a b aa s2 σ H2 x y v u Q I2 rx ry q (hs _ _))
noncomputable def rIxL (K:α3):R2:=fun x y H Q=>∃p xs i v,x=.ref p/\y=.int i/\SqL K H p xs/\atI xs i=some v/\Q v H
noncomputable def rIxT (K:α3):R2:=fun x y H Q=>∃p xs i v,x=.ref p/\y=.int i/\SqT K H p xs/\atI xs i=some v/\Q v H
def Fy:IxR X (rIxL X.K):=by
 intro value bu aa s σ H x y v u Q I rx ry h hs;obtain⟨p,xs,i,z,rfl,rfl,hq,he,q⟩:=h;cases rx;obtain⟨t,rfl⟩:=ry;obtain⟨its,r,pl,hz⟩:=I.list hq;obtain⟨j,h1,h2,h3,h4,h5⟩:=QO he;obtain⟨w,ew,c8⟩:=r.get h2;have hl:=r.length;have hn:=QF;have fin:EP X aa σ Q w s:=⟨z,H,I,c8,q⟩;by_cases h0:0<=i
 ·have hj:i.toNat=j:=by
   rw[seqIndex_of h0 h5]at h1;exact jt_ h1
  exact item_listR pl.isList h0 s!"" (by rw[hj];simpa using ew) fin hs
 ·have hj:(i+(its.toArray.size:Int)).toNat=j:=by
   rw[seqIndex_neg s!"" h4]at h1;rw[jl_,<-hl];exact jt_ h1
  exact subscriptTail_builtinR (x:=w) pl.isList.typeIs slot_list_getitem.lookup
   (wpAny_getItem_list_neg (Q:=fun r s'=>r=w/\EP X aa σ Q r s') pl.isList s!"" (by rw[jl_]<;>lia) s!"" (by rw[hj];simpa using ew) ⟨rfl,fin⟩) hs
def Ay:IxR X (rIxT X.K):=by
 intro value bu aa s σ H x y v u Q I rx ry h hs;obtain⟨p,xs,i,z,rfl,rfl,hq,he,q⟩:=h;cases rx;obtain⟨t,rfl⟩:=ry;obtain⟨its,r,pl,hz⟩:=I.tuple hq;obtain⟨j,h1,h2,h3,h4,h5⟩:=QO he;obtain⟨w,ew,c8⟩:=r.get h2;have hl:=r.length;have hn:=QF;have fin:EP X aa σ Q w s:=⟨z,H,I,c8,q⟩;exact subscriptTail_builtinR (x:=w) pl.typeIs slot_tuple_getitem.lookup
  (getItem_tuple (j:=j) (Q:=fun r s'=>r=w/\EP X aa σ Q r s') pl s!"" s!"" (by rw[jl_,<-hl];exact h1) (by simpa using ew) ⟨rfl,fin⟩) hs
noncomputable def Fo:V->Bool
 |.non=>true
 |.bl _=>true
 |.int _=>true
 |.str _=>true
 |_=>false
noncomputable def eqV:V->V->Bool
 |.non,.non=>true
 |.bl a,.bl b=>a==b
 |.bl a,.int b=>(if a then 1 else 0)==b
 |.int a,.bl b=>a==(if b then 1 else 0)
 |.int a,.int b=>a==b
 |.str a,.str b=>a==b
 |_,_=>false
def QQ (ry:RelV y u)(rx:RelV x v)(fy:Fo y=true)(fx:Fo x=true):SeqAt.EqAt A s u v (eqV y x):=by
 cases y with
 |non=>
  cases ry;cases x with
  |non=>cases rx;exact SeqAt.EqAt.same _
  |bl b=>cases rx;exact SeqAt.EqAt.none_bool b
  |int b=>obtain⟨t,rfl⟩:=rx;exact SeqAt.EqAt.none_int b t
  |str b=>obtain⟨t,rfl⟩:=rx;exact SeqAt.EqAt.none_str b t
  |_=>exact absurd (show false=true from fx) jo_
 |bl a=>
  cases ry;cases x with
  |non=>cases rx;exact SeqAt.EqAt.bool_none a
  |bl b=>cases rx;exact SeqAt.EqAt.bool_bool a b
  |int b=>obtain⟨t,rfl⟩:=rx;exact SeqAt.EqAt.bool_int a b t
  |str b=>obtain⟨t,rfl⟩:=rx;exact SeqAt.EqAt.bool_str a b t
  |_=>exact absurd (show false=true from fx) jo_
 |int a=>
  obtain⟨t',rfl⟩:=ry;cases x with
  |non=>cases rx;exact SeqAt.EqAt.int_none a t'
  |bl b=>cases rx;exact SeqAt.EqAt.int_bool a t' b
  |int b=>obtain⟨t,rfl⟩:=rx;exact SeqAt.EqAt.int_int a t' b t
  |str b=>obtain⟨t,rfl⟩:=rx;exact SeqAt.EqAt.int_str a t' b t
  |_=>exact absurd (show false=true from fx) jo_
 |str a=>
  obtain⟨t',rfl⟩:=ry;cases x with
  |non=>cases rx;exact SeqAt.EqAt.str_none a t'
  |bl b=>cases rx;exact SeqAt.EqAt.str_bool a t' b
  |int b=>obtain⟨t,rfl⟩:=rx;exact SeqAt.EqAt.str_int a t' b t
  |str b=>obtain⟨t,rfl⟩:=rx;exact SeqAt.EqAt.str_str a t' b t
  |_=>exact absurd (show false=true from fx) jo_
 |_=>exact absurd (show false=true from fy) jo_
noncomputable def eqU (x:V)(u:Value):Bool:=match u with
 |.none=>eqV .non x
 |.bool b=>eqV (.bl b) x
 |.int i _=>eqV (.int i) x
 |.str z _=>eqV (.str z) x
 |_=>false
def Ux (r:RelV y u)(f:Fo y=true):eqU x u=eqV y x:=by
 cases y with
 |non=>cases r;rfl
 |bl b=>cases r;rfl
 |int i=>obtain⟨t,rfl⟩:=r;rfl
 |str z=>obtain⟨t,rfl⟩:=r;rfl
 |_=>exact absurd (show false=true from f) jo_
def N2 {x:V}:∀{xs:List V} {us:List Value},Vals xs us->xs.all Fo=true->us.any (eqU x)=xs.any fun y=>eqV y x
 |_,_,.nil,_=>rfl
 |y::xs,u::us,.cons r t,f=>by
  rw[qY,jW_]at f;rw[zI_,zI_,Ux r f.1,N2 t f.2]
def L6 {A:Around}{s:Shared}{x:V}{v:Value}(rx:RelV x v)(fx:Fo x=true):∀{xs:List V} {us:List Value},Vals xs us->xs.all Fo=true->∀u∈us,SeqAt.EqAt A s u v (eqU x u)
 |_,_,.nil,_=>fun u hu=>by cases hu
 |y::xs,u::us,.cons r t,f=>fun u' hu=>by
  rw[qY,jW_]at f;rcases jD_.mp hu with rfl|hu
  ·rw[Ux r f.1];exact QQ r rx f.1 fx
  ·exact L6 rx fx t f.2 u' hu
noncomputable def inV (x:V)(xs:List V):Bool:=xs.any fun y=>eqV y x
noncomputable def rIn (K:α3)(ir:Bool):R2:=fun x y H Q=>∃p xs,y=.ref p/\(SqL K H p xs\/SqT K H p xs)/\Fo x=true/\xs.all Fo=true/\Q (.bl (if ir then !inV x xs else inV x xs)) H
def QR:OpR X (compareOp .In) (rIn X.K false):=by
 intro aa s σ H x y v u Q I rx ry h;obtain⟨p,xs,rfl,hq,fx,fs,q⟩:=h;cases ry;rcases hq with hq|hq
 ·obtain⟨its,r,pl,hz⟩:=I.list hq;refine SeqAt.in_listAt (eqU x) pl.isList (fun w hw=>L6 rx fx r fs w (by simpa using hw)) ⟨.bl _,H,I,rfl,?_⟩;rw[show its.toArray.any (eqU x)=its.any (eqU x) by simp,N2 r fs];exact q
 ·obtain⟨its,r,pl,hz⟩:=I.tuple hq;refine SeqAt.in_tupleAt (eqU x) pl (fun w hw=>L6 rx fx r fs w (by simpa using hw)) ⟨.bl _,H,I,rfl,?_⟩;rw[show its.toArray.any (eqU x)=its.any (eqU x) by simp,N2 r fs];exact q
def AG:Em X (.builtin "len") (fun xs H Q=>∃p ys,xs=[.ref p]/\(SqL X.K H p ys\/SqT X.K H p ys)/\Q (.int ys.length) H):=by
 intro aa s σ H xs us Q I r h;obtain⟨p,ys,rfl,hq,q⟩:=h;obtain⟨u,rfl,rx⟩:=vals1 r;cases rx;have hn:=QF;rcases hq with hq|hq
 ·obtain⟨its,r',pl,hz⟩:=I.list hq;have ak:=r'.length;exact Calls.call_len_list pl.isList (by simp only[jl_]<;>lia) ⟨.int ys.length,H,I.tok _,⟨s.toks+1,by rw[jl_,ak]⟩,q⟩
 ·obtain⟨its,r',pl,hz⟩:=I.tuple hq;have ak:=r'.length;exact len_tuple pl (by simp only[jl_]<;>lia) ⟨.int ys.length,H,I.tok _,⟨s.toks+1,by rw[jl_,ak]⟩,q⟩
def Jn:Em X (.type "list") (fun xs H Q=>∃p ys,xs=[.ref p]/\(SqL X.K H p ys\/SqT X.K H p ys)/\∀l,H l=none->Q (.ref l) (upd H l (.lst ys))):=by
 intro aa s σ H xs us Q I r h;obtain⟨p,ys,rfl,hq,q⟩:=h;obtain⟨u,rfl,rx⟩:=vals1 r;cases rx;have fin:∀(its:List Value),Vals ys its->ys.length<=sizeLine->∀(h':Heap) (c':Nat),(∀b o',s.heap.get? b=some o'->h'.get? b=some o') ->
   h'.get? s.heap.objs.size=some {cls:=.type "list",dict:=none,data:=.seq its.toArray c',slots := #[]}->EP X aa σ Q (.ref s.heap.objs.size) {s with heap:=h' }:=fun its r' hz h' c' kp e=>
  ⟨.ref s.heap.objs.size,_,I.laid (t':=s.toks) kp (jf_ _) (show AY X.prog X.w _ h' _ (.lst ys) from ⟨hz,its,c',r',e⟩),rfl,q _ (I.hok.fresh (jf_ _))⟩
 rcases hq with hq|hq
 ·obtain⟨its,r',pl,hz⟩:=I.list hq;have ak:=r'.length;obtain⟨o,ho,hc,n,hd⟩:=pl.isList;exact call_list_seq p (.inl rfl) ho hc hd (fun h' c' kp e=>fin its r' hz h' c' kp e) (by simp only[jl_]<;>lia)
 ·obtain⟨its,r',pl,hz⟩:=I.tuple hq;have ak:=r'.length;obtain⟨o,ho,hc,n,hd⟩:=pl;exact call_list_seq p (.inr rfl) ho hc hd (fun h' c' kp e=>fin its r' hz h' c' kp e) (by simp only[jl_]<;>lia)
def Hw:Em X (.type "tuple") (fun xs H Q=>∃p ys,xs=[.ref p]/\((SqL X.K H p ys/\∀l,H l=none->Q (.ref l) (upd H l (.tup ys)))\/(SqT X.K H p ys/\Q (.ref p) H))):=by
 intro aa s σ H xs us Q I r h;obtain⟨p,ys,rfl,h⟩:=h;obtain⟨u,rfl,rx⟩:=vals1 r;cases rx;rcases h with ⟨hq,q⟩|⟨hq,q⟩
 ·obtain⟨its,r',pl,hz⟩:=I.list hq;have ak:=r'.length;refine call_tuple_list pl.isList (fun h' kp=>?_) (by simp only[jl_]<;>lia);have I1:Inv X aa σ H {s with heap:=h' }:=I.kept (t':=s.toks) kp;have I2:Inv X aa σ (upd H h'.objs.size (.tup ys)) {s with heap:=h'.push {cls:=.type "tuple",data:=.seq its.toArray} }:=
   I1.laid (t':=s.toks) (fun b o e=>jg_ _ e) (jf_ _) (show AY X.prog X.w _ _ _ (.tup ys) from ⟨hz,its,r',IsTup.new _ _⟩)
  exact⟨.ref h'.objs.size,_,I2,rfl,q _ (I1.hok.fresh (jf_ _))⟩
 ·obtain⟨its,r',pl,hz⟩:=I.tuple hq;exact call_tuple_same pl ⟨.ref p,H,I,rfl,q⟩
noncomputable def tyV (K:α3)(T:String)(x:V)(H:Hp):Prop:=match x with
 |.str _=>T = "str"
 |.int _=>T = "int"
 |.ref p=>(T = "list" /\ ∃xs,SqL K H p xs)\/(T = "tuple" /\ ∃o,K.lookup p=some o/\o.cls=.type "tuple" /\ o.dict=none) \/
   (T = "dict" /\ ((∃kvs,H p=some (.dK kvs)) \/ ∃kvs,H p=some (.dT kvs)))\/(T = "set" /\ ∃S n,H p=some (.set S n))
 |_=>False
def Xd (I:Inv X aa σ H s)(r:RelV x v)(ty:tyV X.K T x H):
  s.TypeIs v T/\∀a,v=.ref a->∃ob,s.heap.get? a=some ob/\ob.dict=none:=by
 cases x with
 |str z=>
  obtain⟨t,rfl⟩:=r;cases (show T = "str" from ty);exact⟨typeIs_str s z t,fun _ e=>nomatch e⟩
 |int i=>
  obtain⟨t,rfl⟩:=r;cases (show T = "int" from ty);exact⟨typeIs_int s i t,fun _ e=>nomatch e⟩
 |ref p=>
  cases r;rcases ty with ⟨rfl,xs,hq⟩|⟨rfl,o,hk,hc,hd⟩|⟨rfl,hk⟩|⟨rfl,S,n,hk⟩
  ·obtain⟨its,_,pl,_⟩:=I.list hq;refine⟨pl.isList.typeIs,fun a e=>?_⟩;cases e;obtain⟨o,n,e,c,hd,_⟩:=pl;exact⟨o,e,hd⟩
  ·refine⟨⟨o,I.kIn p o hk,hc⟩,fun a e=>?_⟩;cases e;exact⟨o,I.kIn _ o hk,hd⟩
  ·have z:∃o,s.heap.get? p=some o/\o.ExactDict:=by
    rcases hk with ⟨kvs,hk⟩|⟨kvs,hk⟩
    ·obtain⟨_,_,_,_,o,_,_,e,ex,_⟩:=I.hok p _ hk;exact⟨o,e,ex⟩
    ·obtain⟨_,_,_,_,o,_,_,e,ex,_⟩:=I.hok p _ hk;exact⟨o,e,ex⟩
   obtain⟨o,e,ex⟩:=z;refine⟨⟨o,e,ex.1⟩,fun a e2=>?_⟩;cases e2;exact⟨o,e,ex.2.1⟩
  ·obtain⟨o,_,_,_,e,ex,_⟩:=I.hok p _ hk;refine⟨⟨o,e,ex.1⟩,fun a e2=>?_⟩;cases e2;exact⟨o,e,ex.2.1⟩
 |_=>exact nN ty
noncomputable def tBM (K:α3)(T:String)(r:V->List V->Hp->VK->Prop)(to:TE)(t:TA):TE:=fun σ H Q=>to σ H fun x H1=>tyV K T x H1/\t σ H1 fun xs H2=>r x xs H2 Q
variable {o e:Expr} {es:List Expr} {to:TE} {t:TA} {name:Str} {aG aI:Pos} {T id:String} {r:V->List V->Hp->VK->Prop}
def M6 (pa:PlainAttrs T)(slot:Slot T name id)(hty:typeOf (.builtin id)=pure (.type "method_descriptor"))(hm:MtR X id r)(ho:PE X o to)(ha:PA X (e::es) t)
  (aO:attributeBase o name X.env (eval o X.env)=eval o X.env:=by rfl)
  (hfew:((backTo aI (starEach (e::es) X.env)).all (fun x => !x.1)&&(backToKw aI (keywordEach [] X.env)).all (fun x=>x.1.isSome)
   && decide ((e::es).length+([]:List Keyword).length+(if ([]:List Keyword).isEmpty then 0 else 1)<30))=true:=by rfl)
  (cK:(aG.endLine==aI.line)=true:=by rfl) (hs:starEach (e::es) X.env=(false,eval e X.env)::starEach es X.env:=by rfl) (df:(backTo aI (starEach es X.env)).any (·.1)=false:=by rfl):
  PE X (.Call (.Attribute o name aG) (e::es) [] aI) (tBM X.K T r to t):=by
 intro aa s σ H Q I h;refine wpAny_Call_method_late aO hfew cK rfl (thn (ho aa s σ H _ I h) fun v s1 ⟨x,H1,I1,r1,ty,q1⟩=>?_);obtain⟨h1,h2⟩:=Xd I1 r1 ty;refine⟨T,id,pa,slot,hty,h1,h2,?_⟩;have hA:=ha aI aa s1 σ H1 _ I1 q1;rw[hs]at hA ⊢;refine q6_ (by show (false||(backTo aI (starEach es X.env)).any (·.1))=false;rw[df]<;>rfl) (xM_ ?_);exact thn hA fun us s2 ⟨vs,H2,I2,r2,q2⟩=>hm aa s2 σ H2 x vs v us Q I2 r1 r2 q2
/- xs.append(e),list.index on a module's tuple .. are MtR facts of 06m -/
end
end L2
namespace L2
open PySem PySem.Spec PyProof.Rows
noncomputable def MtM (X:Cx)(id:String)(r:V->List V->Hp->VK->Prop):Prop:=
 ∀(aa:α7) (s:Shared) (σ:St) (H:Hp) (x:V) (xs:List V) (v:Value) (us:List Value) (Q:VK),Inv X aa σ H s->RelV x v->Vals xs us->r x xs H Q ->
  wpAny (model X.prog X.w) X.A (call (.builtin id) (v::us)) (EP X aa σ Q) X.xe s
def Vals.one:∀{x:V} {us:List Value},Vals [x] us->∃u,us=[u]/\RelV x u
 |_,_,.cons r .nil=>⟨_,rfl,r⟩
def Vals.eraseIdx:∀{xs:List V} {us:List Value} (i:Nat),Vals xs us->Vals (xs.eraseIdx i) (us.eraseIdx i)
 |_,_,_,.nil=>.nil
 |_,_,0,.cons _ t=>t
 |_,_,i+1,.cons r t=>.cons r (Vals.eraseIdx i t)
def Vals.rep {xs:List V}{us:List Value}(h:Vals xs us):∀k:Nat,Vals (nI k xs).flatten (nI k us).flatten
 |0=>.nil
 |k+1=>by
  rw[qD_,qD_,xI_,xI_];exact Vals.append h (Vals.rep h k)
def M7 {α:Type}:∀(l:List α) (i:Nat),(l.eraseIdx i).length<=l.length
 |[],_=>jf_ _
 |_::_,0=>zN_ _
 |_::r,i+1=>qf (M7 r i)
def foldl_rep (its:List Value):∀(k:Nat) (ah:List Value),
  qz (fun x1 x2=>x1++x2) ah.toArray (nI k its.toArray)=(ah++(nI k its).flatten).toArray
 |0,ah=>by simp
 |k+1,ah=>by
  have e:ah.toArray++its.toArray=(ah++its).toArray:=by simp
  have e2:(ah++its)++(nI k its).flatten=ah++(nI (k+1) its).flatten:=by
   rw[qD_,xI_,zW_]
  rw[<-e2,<-foldl_rep its k (ah++its),<-e,qD_,xC_]
section
variable {X:Cx} {aa:α7} {σ:St} {H:Hp} {s:Shared} {l b:Addr} {xs ys zs:List V}
def Inv.lset {its its':List Value} (I:Inv X aa σ H s)(hH:H l=some (.lst xs))
  (e:s.heap.get? l=some {cls:=.type "list",data:=.seq its.toArray n}) (hf:f its.toArray=its'.toArray) (hv:Vals ys its') (hz:ys.length<=sizeLine):
  Inv X aa σ (upd H l (.lst ys)) {s with heap:=s.heap.update l (Obj.mapSeq f),toks:=t' }:=by
 have q:=oC e f;rw[hf]at q;refine I.write (x:=l) (e:=l) (by rw[hH];exact trivial) (.inl rfl) (fun b' u hb hu=>(qo_ s.heap (Obj.mapSeq f) (qn_ hb)).trans hu) ⟨_,q⟩ ?_;exact⟨hz,its',_,hv,q⟩
def Inv.lnew {its:List Value} (I:Inv X aa σ H s)(hv:Vals ys its)(hz:ys.length<=sizeLine):
  Inv X aa σ (upd H s.heap.objs.size (.lst ys)) {s with heap:=s.heap.push {cls:=.type "list",data:=.seq its.toArray},toks:=t' }:=
 I.laid (fun _ _ q=>jg_ _ q) (jf_ _) ⟨hz,its,0,hv,jr_ _ rfl⟩
def Inv.fresh (I:Inv X aa σ H s):H s.heap.objs.size=none:=I.hok.fresh (jf_ _)
def Inv.lstM (I:Inv X aa σ H s)(hH:H l=some (.lst xs)):xs.length<=sizeLine/\∃(its:List Value) (n:Nat),Vals xs its/\xs.length=its.length/\s.heap.get? l=some {cls:=.type "list",data:=.seq its.toArray n}:=by
 obtain⟨z,its,n,r,e⟩:=I.hok l _ hH;exact⟨z,its,n,r,r.length,e⟩
end
section
variable {X:Cx}
noncomputable def QT:V->List V->Hp->VK->Prop:=fun x vs H Q=>∃l xs y,x=.ref l/\vs=[y]/\H l=some (.lst xs)/\xs.length<sizeLine/\Q .non (upd H l (.lst (xs++[y])))
def Dv:MtM X "list.append" QT:=by
 intro aa s σ H x vs v us Q I rx rv h;obtain⟨l,xs,y,rfl,rfl,hH,hz,q⟩:=h;cases rx;obtain⟨u,rfl,ru⟩:=rv.one;obtain⟨z,its,n,r,hl,e⟩:=I.lstM hH;refine zo_ F.slot_list_append ⟨_,e,rfl⟩ F.entry_list_append (zG_ _ _) (zX_ l its.toArray n u (by rw[jl_];lia)) ⟨e,?_⟩;refine⟨.non,_,I.lset (its':=its++[u]) hH e (by simp) (r.append (.cons ru .nil)) ?_,rfl,q⟩;rw[ju_,jU_];lia
noncomputable def Uy:V->List V->Hp->VK->Prop:=fun x vs H Q=>∃l xs i k y,x=.ref l/\vs=[.int i]/\H l=some (.lst xs) /\ -(2 ^ 63)<=i/\i<2 ^ 63/\seqIndex? i xs.length=some k/\xs[k]?=some y/\Q y (upd H l (.lst (xs.eraseIdx k)))
def SY:MtM X "list.pop" Uy:=by
 intro aa s σ H x vs v us Q I rx rv h;obtain⟨l,xs,i,k,y,rfl,rfl,hH,h1,h2,hk,hy,q⟩:=h;cases rx;obtain⟨u,rfl,ru⟩:=rv.one;obtain⟨t,rfl⟩:=ru;obtain⟨z,its,n,r,hl,e⟩:=I.lstM hH;obtain⟨w,hw,c8⟩:=r.get hy;refine zo_ F.slot_list_pop ⟨_,e,rfl⟩ F.entry_list_pop (F.args_list_pop_2 _ _)
  (MeetsSeq.list_pop_at l its.toArray n i t k w (fitsIndex_both h1 h2) (by rw[jl_,<-hl];exact hk) (by rw[<-xd_];exact hw) (by rw[jl_];lia)) ⟨e,?_⟩
 refine⟨y,_,I.lset (its':=its.eraseIdx k) hH e ?_ (r.eraseIdx k) ?_,c8,q⟩
 ·show its.toArray.eraseIdxIfInBounds k=(its.eraseIdx k).toArray;rw[List.eraseIdxIfInBounds_toArray]
 ·have:=M7 xs k;lia
noncomputable def rCat:R2:=fun x y H Q=>∃l b xs zs,x=.ref l/\y=.ref b/\H l=some (.lst xs)/\H b=some (.lst zs)/\xs.length+zs.length<=sizeLine/\∀p,H p=none->Q (.ref p) (upd H p (.lst (xs++zs)))
def Xe:OpR X (binaryOp .Add) rCat:=by
 intro aa s σ H x y v u Q I rx ry h;obtain⟨l,b,xs,zs,rfl,rfl,hH,hB,hz,q⟩:=h;cases rx;cases ry;obtain⟨z,its,n,r,hl,e⟩:=I.lstM hH;obtain⟨z2,aH,n2,r2,fO,e2⟩:=I.lstM hB;refine PySem.P.add_list e e2 ?_ (by rw[jl_,jl_];lia);have ea:its.toArray++aH.toArray=(its++aH).toArray:=by simp
 rw[ea];exact⟨.ref _,_,I.lnew (t':=s.toks) (r.append r2) (by rw[ju_];lia),rfl,q _ I.fresh⟩
def len_rep {α:Type}(xs:List α)(k:Nat):(nI k xs).flatten.length=k*xs.length:=by
 induction k with
 |zero=>simp
 |succ k ih=>rw[qD_,xI_,ju_,ih,pZ,Nat.add_comm]
end
end L2
namespace Att
open PySem PySem.W PySem.Calls PyProof.Rows
def Kx : ∀(ns:α2) (vs:List Value),WellAll P h vs (ns.map WData.int)->IntsAre vs ns:=by
 intro ns
 induction ns with
 |nil=>
  intro vs w;rw[xB_]at w;cases w;exact .nil
 |cons n ns ih=>
  intro vs w;rw[jP_]at w;cases w with
  |cons a b=>
   cases a;exact .cons _ _ (ih _ b)
def QU {l:OpenLaw}{n:Nat}(hn:l.most=some n){P:Params}{h:Heap}{args:List WData}{iu:List Value}
  (fP:l.row.toRowW.claim.pre args=true) (bB:WellAll P h iu args):
  ∃a vs ns,iu=[Value.ref a]/\args=[WData.list (ns.map WData.int)]/\h.get? a=some {cls:=.type "list",data:=.seq vs.toArray}/\IntsAre vs ns/\ns.length<=n:=by
 have hsh:WShape.hasAll [] args [.list .int]=true:=(pre_splitW fP).1;have hc:l.pre.holds [] {args:=args}=true:=(pre_splitW fP).2;obtain⟨d,r,rfl,h1,h2⟩:=hasAllW_cons hsh;obtain rfl:=hasAllW_nil h2;obtain⟨xs,rfl,h3⟩:=hasW_list h1;obtain⟨ns,rfl⟩:=items_int h3;have ak:ns.length<=n:=by
  unfold OpenLaw.pre at hc;have h4:(WTm.not (.lt (.lit (.int (n:Int))) (.len (.arg 0)))).holds [] {args:=[.list (ns.map .int)]}=true:=by
   have h4:=(holds_andW hc).1;rw[hn]at h4;exact h4
  have h5:=condW_of h4 (w_not (w_lt w_lit (w_len_list (w_arg rfl))));rw[ja_]at h5;refine zC_ fun q=>?_;have q':(n:Int)<((ns.length:Nat):Int):=by lia
  first
   | (rw[ql_ q']at h5;exact absurd h5 (by decide))
   | (simp at h5;lia)
 cases bB with
 |cons w1 w2=>
  cases w2;cases w1 with
  |list ho aA=>exact⟨_,_,ns,rfl,rfl,ho,Kx ns _ aA,ak⟩
def QV (l:OpenLaw)(args:List WData):l.row.toRowW.claim.post args (.bool true) args=true:=
 postW_of (r:=l.row.toRowW) (X:=(true==true))
  (show WShape.has [] (.bool true) .bool=true by first|rfl|decide|simp[WShape.has,WShape.arms,WShape.armsAll])
  (show (WTm.eq .res (.lit (.bool true))).value [] {args:=args,res:=some (.bool true),after:=args}=some (.bool (true==true)) from w_eq_bool (w_res rfl) w_lit) rfl
def attach_call {l:OpenLaw}{n:Nat}{q:Program}{b8:List Str}{XP:(Str->α5)->Heap->Prop}{YP:World->Heap->Prop}{d:DefRec}
  (hn:l.most=some n) (jL:d.params.defaults=[])
  (call:∀(w:World) (s₀ s₁:Shared) (mg mb:Str->α5) (fa:Addr) (o:Obj) (pm cd bG:Value) (a:Addr) (vs:List Value) (ns:α2),
   Ground q b8 [] XP w s₀ mg mb s₁.heap->YP w s₁.heap ->
   s₁.heap.get? fa=some o->o.data=.func (docDef d.name d.params d.body d.scope pm cd bG)->s₁.heap.CodeRec cd d.name->mg d.name=some (.ref fa) ->
   s₁.heap.get? a=some {cls:=.type "list",data:=.seq vs.toArray}->IntsAre vs ns->ns.length<=n->s₁.gens = #[] ->
   codeAny (model l.prog w) callerA (.call (.ref fa) ⟨[.ref a],[]⟩) (fun r s'=>r=.ok (.ret (.bool true))/\OldK s₁.heap s'.heap/\s'.os=s₁.os/\AllBare s'.gens) s₁):
  WalkO q b8 XP YP l.row.toRowW d [] (fun f vs=>qA f vs):=by
 intro w s₀ s₁ mg mb G Y fa o pm cd bG dV kV ho hd cI hD hmg hg args iu as fP hlay hrd bB fh;obtain rfl:dV=.none:=Dflts.none hD jL;obtain rfl:kV=.none:=Dflts.noKw hD;obtain⟨a,vs,ns,rfl,rfl,bq,eB,ak⟩:=QU hn fP bB;refine enter_call (zR_ (call w s₀ s₁ mg mb fa o pm cd bG a vs ns G Y ho (fd_plain hd) cI hmg bq eB ak hg) fun r s' hq=>?_);obtain⟨rfl,h2,h3,h4⟩:=hq;exact⟨.inl ⟨.bool true,.bool true,[],rfl,fun _=>rfl,.bool true,QV l _,fun _=>⟨List.Pairwise.nil,fun _ hm=>(nomatch hm)⟩⟩,h2,h3,h4⟩
end Att
namespace L2
open PySem PySem.Spec PyProof.Rows
def M8:∀{vs:List Value} {ns:α2},IntsAre vs ns->Vals (ns.map V.int) vs
 |_,_,.nil=>.nil
 |_,_,.cons n t h=>.cons ⟨t,rfl⟩ (M8 h)
noncomputable def Only (H:Hp):Prop:=∀b,H b=none \/ ∃o xs,H b=some (.frz o (.lst xs))
def S0 {K:α3}
  (KX:K.In s₁.heap) (jM:s₁.heap.Ns mainGlobals mg) (hb:s₁.heap.Ns builtinsNs mb) (hbb:∀x:Str,x ≠ "__name__" -> mb x=bootBuiltins x) (hlim:s₁.heap.NoLimit) (hg:s₁.gens = #[])
  (ha:s₁.heap.get? a=some {cls:=.type "list",data:=.seq vs.toArray}) (hi:IntsAre vs ns) (hl:ns.length<=sizeLine) (hr:Room k callerA)
  (F:∀base:Heap,K.In base->base.Ns mainGlobals mg->FnOk P w K mg base CX k fa fd [x] sp) (hbind:∀(s:Shared) (u:Value),BindsTo s fd ⟨[u],[]⟩ [(x,u)])
  (bS:∀H:Hp,Only H->SqL K H a (ns.map V.int)->sp [.ref a] H (fun v _=>v=.bl true) fun _ _ _=>False)
  (lR:∀H e s',CX [] H s₁ (fun _ _ _=>False) e s'->False):
  codeAny (model P w) callerA (.call (.ref fa) ⟨[.ref a],[]⟩) (fun r s'=>r=.ok (.ret (.bool true))/\OldK s₁.heap s'.heap/\s'.os=s₁.os/\AllBare s'.gens) s₁:=by
 have rv:=M8 hi;have lenV:=hi.length
 -- from an abstract heap in which nothing but dY script may be aU
 have core:∀H:Hp,Only H->SqL K H a (ns.map V.int)->HOk P w H s₁.heap->(∀b,H b≠none->b=a)->(H a≠none->K.lookup a=none) ->
   codeAny (model P w) callerA (.call (.ref fa) ⟨[.ref a],[]⟩) (fun r s'=>r=.ok (.ret (.bool true))/\OldK s₁.heap s'.heap/\s'.os=s₁.os/\AllBare s'.gens) s₁:=by
  intro H hO hS hok hA hK;have base_of:∀{b:Addr} {o:Obj},s₁.heap.get? b=some o->H b=none->(hidT s₁.heap H).get? b=some o:=fun e n=>SK e n;have jK:∀{b:Addr} {o:Obj} {es:Array DictEntry} {ep:Nat},s₁.heap.get? b=some o->o.data=.dict es ep->H b=none:=fun {b o es ep} e d=>by
   cases q:H b with
   |none=>rfl
   |some u=>
    have e':b=a:=hA b (by rw[q];simp);subst e';rw[ha]at e;cases e;have d':Data.seq vs.toArray _=Data.dict es ep:=d;cases d'
  have kX:∀{b:Addr} {m:Str->α5},s₁.heap.Ns b m->(hidT s₁.heap H).Ns b m:=fun {b m} ⟨o,es,ep,e,d,r⟩=>⟨o,es,ep,base_of e (jK e d),d,r⟩;have hKb:K.In (hidT s₁.heap H):=fun b o e=>base_of (KX b o e) (by
   cases q:H b with
   |none=>rfl
   |some u=>
    have e':b=a:=hA b (by rw[q];simp);subst e';rw[hK (by rw[q];simp)]at e;cases e)
  have hM:Mod K mg (hidT s₁.heap H):=⟨hKb,kX jM,⟨mb,kX hb,hbb⟩,let ⟨mc,h1,h2⟩:=hlim;⟨mc,kX h1,h2⟩⟩;have e0:Env0 P w K mg (hidT s₁.heap H) callerA [] s₁ H:=⟨rfl,hM,fun b o e=>VA e,pX (Qw _ _),trivial,fun b hb=>absurd (show b∈([]:List Addr) from hb) (by simp),hok,.of_eq hg⟩;refine zR_ ((F _ hKb (kX jM)).run callerA [] s₁ H ⟨[.ref a],[]⟩ [.ref a] [.ref a] _ _ hr e0 (hbind s₁ (.ref a)) (.cons rfl .nil) (bS H hO hS)) fun r s' h=>?_;cases r with
  |error e=>exact (lR H e s' h).elim
  |ok fl=>
   cases fl with
   |next=>exact nN h
   |brk=>exact nN h
   |cont=>exact nN h
   |ret u=>
    obtain⟨v,H',os,bare,un,hok',r',q⟩:=h;have q':v=.bl true:=q;subst q';obtain rfl:u=Value.bool true:=r';refine⟨rfl,OldK.of_keep fun b o e=>?_,os,bare⟩;cases q:H b with
    |none=>exact un.keep b o e q (by intro z;exact absurd (show b∈([]:List Addr) from z) (by simp)) (by simp)
    |some u=>
     rcases hO b with z|⟨ob,xs,z⟩
     ·rw[q]at z;cases z
     ·have z2:=un.frzs b ob _ z;obtain⟨e1,_⟩:=hok b _ z;obtain⟨e2,_⟩:=hok' b _ z2;rw[e]at e1;cases e1;exact e2
 cases hk:K.lookup a with
 |some o=>
  -- dY script is one of dY module's own objects
  have e:=KX a o hk;rw[ha]at e;cases e;refine core (fun _=>none) (fun _=>.inl rfl) (.inr ⟨_,vs.toArray,_,hk,rfl,rfl,rfl,by rw[jl_,lenV];exact hl,by simpa using rv⟩) (fun b u z=>by have z':(none:Option HO)=some u:=z;cases z') (fun b z=>absurd rfl z) fun z=>absurd rfl z
 |none=>
  refine core (fun b=>if b=a then some (.frz {cls:=.type "list",data:=.seq vs.toArray} (.lst (ns.map V.int))) else none) (fun b=>?_) (.inl (.inr ⟨{cls:=.type "list",data:=.seq vs.toArray},if_pos rfl⟩)) (fun b u z=>?_) (fun b z=>?_) fun _=>hk
  ·by_cases hb:b=a
   ·exact .inr ⟨_,_,if_pos hb⟩
   ·exact .inl (if_neg hb)
  ·by_cases hb:b=a
   ·have z':=(if_pos hb).symm.trans z;cases z';subst hb;exact⟨ha,by rw[ja_];exact hl,vs,_,rv,ha⟩
   ·have z':=(if_neg hb).symm.trans z;cases z'
  ·by_cases hb:b=a
   ·exact hb
   ·exact absurd (if_neg hb) z
def walk_of {l:oR}{n k:Nat}{q:Program}{b8:List Str}{XP:(Str->α5)->Heap->Prop}{YP:World->Heap->Prop}{d:DefRec}{K:Params->α3}{CX:World->CXT}{sp:World->Sp}{x:Str}
  (hn:l.most=some n) (jg:n<=sizeLine) (jL:d.params.defaults=[]) (hr:Room k callerA)
  (hY:∀(w:World) (h:Heap),YP w h->(K w.params).In h)
  (F:∀(w:World) (mg:Str->α5) (fa:Addr) (h:Heap),(K w.params).In h->h.Ns mainGlobals mg->mg d.name=some (.ref fa) ->
   ∃fd:α6,(∀(s:Shared) (u:Value),BindsTo s fd ⟨[u],[]⟩ [(x,u)]) /\
    ∀base:Heap,(K w.params).In base->base.Ns mainGlobals mg->FnOk l.prog w (K w.params) mg base (CX w) k fa fd [x] (sp w))
  (bS:∀(w:World) (H:Hp) (a:Addr) (ns:α2),ns.length<=n->Only H->SqL (K w.params) H a (ns.map V.int)->sp w [.ref a] H (fun v _=>v=.bl true) fun _ _ _=>False)
  (lR:∀(w:World) (H:Hp) (s:Shared) (e:Value) (s':Shared),CX w [] H s (fun _ _ _=>False) e s'->False):
  qZ q b8 XP YP l.row.toRowW d [] (fun f vs=>qA f vs):=by
 refine Att.attach_call hn jL fun w s₀ s₁ mg mb fa o pm cd bG a vs ns G Y ho hd cI hmg bq eB ak hg=>?_;have KX:=hY w _ Y;obtain⟨fd,hb,hF⟩:=F w mg fa _ KX G.T.g hmg;exact S0 KX G.T.g G.T.b G.T.builtins G.T.nolimit hg bq eB (j6_ ak jg) hr hF hb (fun H hO hS=>bS w H a ns ak hO hS) fun H e s'=>lR w H s₁ e s'
noncomputable def AR (s:Stmt)(j:Nat):Stmt:=match s with
 |.ClassDef _ _ _ body _ _ _ _ _ _ _=>body.getD j (.Pass ⟨0,0,0,0⟩)
 |_=>.Pass ⟨0,0,0,0⟩
noncomputable def IL (s:Stmt):Arguments:=match s with
 |.FunctionDef _ a _ _ _ _ _ _ _ _=>a
 |_=>{posonlyargs:=[],args:=[],vararg:=none,kwonlyargs:=[],kw_defaults:=[],kwarg:=none,defaults:=[]}
noncomputable def Ea (s:Stmt):List Stmt:=match s with
 |.FunctionDef _ _ b _ _ _ _ _ _ _=>b
 |_=>[]
noncomputable def Ah (s:Stmt):Scope:=match s with
 |.FunctionDef _ _ _ _ _ _ sc _ _ _=>sc
 |_=>{kind:=.function,names:=[],isGenerator:=false,isCoroutine:=false}
noncomputable abbrev CX0:CXT:=fun _ _ _ _ _ _=>False
noncomputable abbrev E0:XK:=fun _ _ _=>False
def An : Fx CX0 X E0:=fun _ _ _ _ _ _ _ h=>h.elim
structure Fun (K:α3)(x qual:Str)(st:Stmt)(f:Addr)(fd:α6):Prop where
 ex:∃(oc:Value) (od:Option Addr) (kV bG pm:Value) (an:Option Addr) (ao ct:Value) (iq:Array (α5)),
  fd=fnOf x qual (IL st) (Ea st) (Ah st) .none kV bG pm an ao ct/\K.lookup f=some ⟨oc,od,.func fd,iq⟩/\ph K ao qual=true
 kp:keepIn K (.ref f)=true
section
variable {P:Program} {w:World} {K:α3} {mg:Str->α5} {base:Heap}
def Fun.ok {st:Stmt} (F:Fun K x qual st f fd)(S:FnScope N ps (Ah st))(len:∀vs H Q E,sp vs H Q E->vs.length=ps.length)
  (aR:∀(ao:Value) (A:Around) (outer:List Env) (s:Shared) (H:Hp) (vs:List V) (Q:VK) (E:XK),Room k (A.deeper (envOfC qual (Ah st) s.heap.objs.size f ao))->sp vs H Q E ->
   ∃t,PSs (cxOf CX0 P w K mg base N qual (Ah st) f ao A outer s H E).nox (Ea st) t/\t {nx:=fun _ H'=>Q .non H',rt:=Q} (start N vs) H):FnOk P w K mg base CX0 (k+1) f fd ps sp:=by
 obtain⟨oc,od,kV,bG,pm,an,ao,ct,iq,rfl,lk,cI⟩:=F.ex;refine Xa lk cI S len fun A outer s H vs Q E hr bS=>?_;obtain⟨t,h,q⟩:=aR ao A outer s H vs Q E hr bS;exact⟨t,h.nox,q⟩
def Fun.binds {st:Stmt} (F:Fun K x qual st f fd)
  (h:∀(kV bG pm:Value) (an:Option Addr) (ao ct:Value) (us:List Value),us.length=ps.length->bindArgs (fnOf x qual (IL st) (Ea st) (Ah st) .none kV bG pm an ao ct) ⟨us,[]⟩=pure (ps.zip us)):Binds K fd ps []:=by
 obtain⟨oc,od,kV,bG,pm,an,ao,ct,iq,rfl,lk,cI⟩:=F.ex;exact .all (h kV bG pm an ao ct)
def fun_mk {st:Stmt} {kV bG pm ao ct:Value}(l:K.lookup f=some ⟨oc,od,.func (fnOf x qual (IL st) (Ea st) (Ah st) .none kV bG pm an ao ct),iq⟩)
  (c:ph K ao qual=true) (k:keepIn K (.ref f)=true):Fun K x qual st f (fnOf x qual (IL st) (Ea st) (Ah st) .none kV bG pm an ao ct):=⟨⟨oc,od,kV,bG,pm,an,ao,ct,iq,rfl,l,c⟩,k⟩
end
def Fz (hr:Room k A):A.units+1<cLine:=pP (Nat.add_le_add_left (by decide:1<=64) _) hr.units
section
variable {X:Cx}
def pv (i:Nat) (hN:X.N[i]?=some x:=by rfl)(hv:Vis X.env.scope x:=by first|exact nM rfl|exact oq (nM rfl)|exact oq (oq rfl))(hd:(x==("__debug__" : Str))=false:=by decide)
  (cI:(x==("__classdict__" : Str))=false:=by decide):PE X (.Name x pos) (tVar i):=WR hN hv hd cI
end
def ite2 {c A B:Prop}[Decidable c](h1:c->A)(h2:¬ c->B):if c then A else B:=by
 by_cases h:c
 ·rw[if_pos h];exact h1 h
 ·rw[if_neg h];exact h2 h
noncomputable def Same (H H':Hp):Prop:=∀b o,H b=some o->H' b=some o
def Same.refl (H:Hp):Same H H:=fun _ _ h=>h
def Same.trans {H H1 H2:Hp}(a:Same H H1)(b:Same H1 H2):Same H H2:=fun c o h=>b c o (a c o h)
def Same.seq {K:α3} (e:Same H H')(h:SqL K H a xs):SqL K H' a xs:=by
 rcases h with (h|⟨o,h⟩)|h
 ·exact .inl (.inl (e _ _ h))
 ·exact .inl (.inr ⟨o,e _ _ h⟩)
 ·exact .inr h
end L2
set_option maxHeartbeats 4000000
namespace L2
open PySem PySem.Spec PyProof.Rows
section
variable {κ:Type} [DecidableEq κ]
noncomputable def valV (kvs:List (κ×V))(k:κ):Option V:=(kvs.find? fun kv=>decide (kv.1=k)).map (·.2)
noncomputable def putK (kvs:List (κ×V))(k:κ)(v:V):List (κ×V):=
 if (kvs.any fun kv=>decide (kv.1=k))=true then kvs.map (fun kv=>if kv.1=k then (kv.1,v) else kv) else kvs++[(k,v)]
def S1 : valV ([]:List (κ×V)) k=none:=rfl
def BU {p:κ×V}{r:List (κ×V)}{k:κ}(e:p.1=k):valV (p::r) k=some p.2:=by simp[valV,q4_,e]
def BV {p:κ×V}{r:List (κ×V)}{k:κ}(e:¬ p.1=k):valV (p::r) k=valV r k:=by simp[valV,q4_,e]
def Di (k:κ):∀kvs:List (κ×V),(kvs.any fun kv=>decide (kv.1=k))=(valV kvs k).isSome
 |[]=>rfl
 |p::r=>by
  rw[zI_];by_cases e:p.1=k
  ·simp only[BU e,ql_ e,Bool.true_or,xe_]
  ·rw[BV e,qv_ e,Bool.false_or];exact Di k r
def OQ (k j:κ)(y:V):∀kvs:List (κ×V),valV (kvs.map fun kv=>if kv.1=k then (kv.1,y) else kv) j=(valV kvs j).map fun x=>if j=k then y else x
 |[]=>rfl
 |p::r=>by
  have ih:=OQ k j y r;rw[jP_];by_cases h:p.1=k
  ·rw[if_pos h];by_cases e:p.1=j
   ·rw[BU (p:=(p.1,y)) e,BU e,zO_,if_pos (e.symm.trans h)]
   ·rw[BV (p:=(p.1,y)) e,BV e,ih]
  ·rw[if_neg h];by_cases e:p.1=j
   ·rw[BU (p:=p) e,BU e,zO_,if_neg (fun z=>h (e.trans z))]
   ·rw[BV (p:=p) e,BV e,ih]
def M9 (k j:κ)(y:V):∀kvs:List (κ×V),valV kvs k=none->valV (kvs++[(k,y)]) j=if j=k then some y else valV kvs j
 |[],_=>by
  by_cases e:k=j
  ·rw[if_pos e.symm];exact BU (p:=(k,y)) e
  ·rw[if_neg (fun z=>e z.symm)];exact BV (p:=(k,y)) e
 |p::r,hn=>by
  rw[xQ_];have hk:¬ p.1=k:=fun z=>by rw[BU z]at hn;cases hn
  rw[BV hk]at hn;have ih:=M9 k j y r hn;by_cases e:p.1=j
  ·rw[BU e,BU e,if_neg (fun z=>hk (e.trans z))]
  ·rw[BV e,BV e,ih]
def L7 (kvs:List (κ×V))(k j:κ)(y:V):valV (putK kvs k y) j=if j=k then some y else valV kvs j:=by
 unfold putK;by_cases a:(kvs.any fun kv=>decide (kv.1=k))=true
 ·rw[if_pos a,OQ];rw[Di]at a;by_cases e:j=k
  ·obtain⟨x,hx⟩:=qr_.mp a;rw[if_pos e,e,hx,zO_,if_pos rfl]
  ·rw[if_neg e];cases valV kvs j with
   |none=>rfl
   |some x=>rw[zO_,if_neg e]
 ·rw[if_neg a];refine M9 k j y kvs ?_;rw[Di]at a;cases q:valV kvs k with
  |none=>rfl
  |some x=>rw[q]at a;exact (a rfl).elim
def Dx (kvs:List (κ×V))(k:κ)(v:V):(putK kvs k v).length<=kvs.length+1:=by
 unfold putK;split
 ·rw[ja_];lia
 ·rw[ju_,jV_,xl_];lia
def RelO.isSome_eq (r:RelO o u):o.isSome=u.isSome:=by
 cases o with
 |none=>cases u with
  |none=>rfl
  |some _=>exact (show False from r).elim
 |some _=>cases u with
  |none=>exact (show False from r).elim
  |some _=>rfl
def RelO.getD (r:RelO o u)(rd:RelV d d'):RelV (o.getD d) (u.getD d'):=by
 cases o with
 |none=>cases u with
  |none=>exact rd
  |some _=>exact (show False from r).elim
 |some _=>cases u with
  |none=>exact (show False from r).elim
  |some _=>exact r
def KV.val (r:KV kvs vs)(k:κ):RelO (valV kvs k) (valueAt vs k):=by
 unfold KV at r
 induction r with
 |nil=>exact nL
 |@cons p q ps qs h t ih=>
  obtain⟨h1,h2⟩:=h;by_cases e:p.1=k
  ·have e':q.1=k:=h1.symm.trans e;have b:valueAt (q::qs) k=some q.2:=by simp[valueAt,q4_,e']
   rw[BU e,b];exact h2
  ·have e':¬ q.1=k:=fun z=>e (h1.trans z);have b:valueAt (q::qs) k=valueAt qs k:=by simp[valueAt,q4_,e']
   rw[BV e,b];exact ih
def KV.any (r:KV kvs vs)(k:κ):(kvs.any fun kv=>decide (kv.1=k))=vs.any fun kv=>decide (kv.1=k):=by
 unfold KV at r
 induction r with
 |nil=>rfl
 |cons h t ih=>rw[zI_,zI_,ih,h.1]
def KV.repl (r:KV kvs vs)(k:κ) (ry:RelV y u):
  KV (kvs.map fun kv=>if kv.1=k then (kv.1,y) else kv) (vs.map fun kv=>if kv.1=k then (kv.1,u) else kv):=by
 unfold KV at r ⊢
 induction r with
 |nil=>exact .nil
 |@cons p q ps qs h t ih=>
  rw[jP_,jP_];refine .cons ?_ ih;obtain⟨h1,h2⟩:=h;by_cases e:p.1=k
  ·rw[if_pos e,if_pos (h1.symm.trans e)];exact⟨h1,ry⟩
  ·rw[if_neg e,if_neg (fun z=>e (h1.trans z))];exact⟨h1,h2⟩
def KV.put (r:KV kvs vs)(k:κ) (ry:RelV y u):KV (putK kvs k y) (stored vs k u):=by
 unfold putK stored;rw[r.any k];by_cases e:(vs.any fun kv=>decide (kv.1=k))=true
 ·rw[if_pos e,if_pos e];exact r.repl k ry
 ·rw[if_neg e,if_neg e];exact Paired.snoc r ⟨rfl,ry⟩
def KV.length {kvs:List (κ×V)}{vs:List (κ×Value)}(r:KV kvs vs):kvs.length=vs.length:=x5_ r
end
def N3 (r:RelV (kV k) u):(AX P w).is k u=true:=by
 cases k with
 |inl i=>obtain⟨t,e⟩:=(show ∃t,u=Value.int i t from r);subst e;exact NX P w i t
 |inr x=>obtain⟨t,e⟩:=(show ∃t,u=Value.str x t from r);subst e;exact NY P w x t
def Na {P:Program}{w:World}:∀{ks:List Key} {us:List Value},Vals (ks.map kV) us->ItemsAre (AX P w) ks us
 |[],_,r=>by rw[xB_]at r;cases r;exact .nil
 |k::ks,_,r=>by
  rw[jP_]at r;cases r with
  |cons h t=>exact .cons (N3 h) (Na t)
noncomputable abbrev KT (H:Hp):List (List Key×V)->List (List Key×Addr×Value)->Prop:=Paired fun p q=>p.1=q.1/\H q.2.1=some (.tup (p.1.map kV))/\RelV p.2 q.2.2
def KT.val (r:KT H kvs xs)(k:List Key):RelO (valV kvs k) ((atKey xs k).map (·.2)):=by
 induction r with
 |nil=>exact nL
 |@cons p q ps qs h t ih=>
  obtain⟨h1,_,h2⟩:=h;by_cases e:p.1=k
  ·have e':q.1=k:=h1.symm.trans e;have b:atKey (q::qs) k=some q.2:=by simp[atKey,q4_,e']
   rw[BU e,b];exact h2
  ·have e':¬ q.1=k:=fun z=>e (h1.trans z);have b:atKey (q::qs) k=atKey qs k:=by simp[atKey,q4_,e']
   rw[BV e,b];exact ih
def KT.repl (r:KT H kvs xs)(k:List Key) (ry:RelV y u):
  KT H (kvs.map fun kv=>if kv.1=k then (kv.1,y) else kv) (xs.map (putAt k u)):=by
 induction r with
 |nil=>exact .nil
 |@cons p q ps qs h t ih=>
  rw[jP_,jP_];refine .cons ?_ ih;obtain⟨h1,h2,h3⟩:=h;unfold putAt;by_cases e:p.1=k
  ·rw[if_pos e,if_pos (h1.symm.trans e)];exact⟨h1,h2,ry⟩
  ·rw[if_neg e,if_neg (fun z=>e (h1.trans z))];exact⟨h1,h2,h3⟩
def KT.put (r:KT H kvs xs)(k:List Key) (hb:H b=some (.tup (k.map kV)))(ry:RelV y u):
  KT H (putK kvs k y) (storedH xs k b u):=by
 have e:(kvs.any fun kv=>decide (kv.1=k))=(atKey xs k).isSome:=by
  rw[Di,(r.val k).isSome_eq,p3]
 unfold putK storedH;rw[e];by_cases q:(atKey xs k).isSome=true
 ·rw[if_pos q,if_pos q];exact r.repl k ry
 ·rw[if_neg q,if_neg q];exact Paired.snoc r ⟨rfl,hb,ry⟩
def KT.keeps (r:KT H kvs xs)(ht:∀b ys,H b=some (.tup ys)->H' b=some (.tup ys)):KT H' kvs xs:=
 Paired.mapP r fun _ _ z=>⟨z.1,ht _ _ z.2.1,z.2.2⟩
section
variable {P:Program} {w:World} {H:Hp} {h:Heap} {a:Addr}
def S5 (ok:HOk P w H h)(e:Rd H a u):AY P w H h a u:=e.ok ok
def Nb (ok:HOk P w H h)(e:Rd H a (.dK kvs)):kvs.length<=sizeLine/\(a==sysModules)=false/\∃vs,KV kvs vs/\h.DictOf (AX P w) a vs:=
 show AY P w H h a (.dK kvs) from S5 ok e
def Xf (ok:HOk P w H h)(e:H a=some (.dK kvs)):kvs.length<=sizeLine/\(a==sysModules)=false/\∃vs,KV kvs vs/\h.DictOf (AX P w) a vs:=Nb ok (.inl e)
def Jo (ok:HOk P w H h)(e:H a=some (.tup (ks.map kV))):(tupleKind (AX P w)).is h ks a:=by
 obtain⟨_,its,r,o,h1,h2,n,h3⟩:=(show AY P w H h a (.tup (ks.map kV)) from ok a _ e);exact⟨o,its.toArray,n,h1,h2,h3,by simpa using Na r⟩
def N4 (ok:HOk P w H h)(e:Rd H a (.dT kvs)):kvs.length<=sizeLine/\(a==sysModules)=false /\
  ∃xs,KT H kvs xs/\h.DictOfH (tupleKind (AX P w)) a xs:=by
 obtain⟨z,y,xs,r,o,es,ep,h1,h2,h3,h4,h5⟩:=(show AY P w H h a (.dT kvs) from S5 ok e);refine⟨z,y,xs,r,o,es,ep,h1,h2,h3,h4,fun x hx=>?_,h5⟩;have all:∀{l:List (List Key×V)} {m:List (List Key×Addr×Value)},KT H l m->∀x∈m,(tupleKind (AX P w)).is h x.1 x.2.1:=by
  intro l m q
  induction q with
  |nil=>intro x hx;exact nomatch hx
  |@cons p q ps qs hq t ih=>
   intro x hx;rcases jD_.mp hx with e|hx
   ·subst e;exact Jo ok (by rw[<-hq.1];exact hq.2.1)
   ·exact ih x hx
 exact all r x hx
def VO (ok:HOk P w H h)(e:H a=some (.dT kvs)):kvs.length<=sizeLine/\(a==sysModules)=false /\
  ∃xs,KT H kvs xs/\h.DictOfH (tupleKind (AX P w)) a xs:=N4 ok (.inl e)
end
noncomputable def DGet (H:Hp)(a:Addr)(y:V)(r:Option V):Prop:=
 (∃kvs k,Rd H a (.dK kvs)/\y=kV k/\r=valV kvs k) \/ ∃kvs k b,Rd H a (.dT kvs)/\y=.ref b/\H b=some (.tup (k.map kV))/\r=valV kvs k
noncomputable def DPut (H:Hp)(a:Addr)(y v:V)(H':Hp):Prop:=
 (∃kvs k,H a=some (.dK kvs)/\y=kV k/\kvs.length<sizeLine/\H'=upd H a (.dK (putK kvs k v))) \/
 ∃kvs k b,H a=some (.dT kvs)/\y=.ref b/\H b=some (.tup (k.map kV))/\kvs.length<sizeLine/\H'=upd H a (.dT (putK kvs k v))
def DGet.k {H:Hp}{a:Addr}{kvs:List (Key×V)}{k:Key}(e:H a=some (.dK kvs)):DGet H a (kV k) (valV kvs k):=.inl ⟨kvs,k,.inl e,rfl,rfl⟩
def DGet.t {H:Hp}{a b:Addr}{kvs:List (List Key×V)}{k:List Key}(e:H a=some (.dT kvs))(eb:H b=some (.tup (k.map kV))):DGet H a (.ref b) (valV kvs k):=.inr ⟨kvs,k,b,.inl e,rfl,eb,rfl⟩
def DPut.k {H:Hp}{a:Addr}{kvs:List (Key×V)}{k:Key}{v:V}(e:H a=some (.dK kvs))(hl:kvs.length<sizeLine):DPut H a (kV k) v (upd H a (.dK (putK kvs k v))):=.inl ⟨kvs,k,e,rfl,hl,rfl⟩
def DPut.t {H:Hp}{a b:Addr}{kvs:List (List Key×V)}{k:List Key}{v:V}(e:H a=some (.dT kvs))(eb:H b=some (.tup (k.map kV)))(hl:kvs.length<sizeLine):
  DPut H a (.ref b) v (upd H a (.dT (putK kvs k v))):=.inr ⟨kvs,k,b,e,rfl,eb,hl,rfl⟩
section
variable {X:Cx} {aa:α7} {σ:St} {H:Hp} {s:Shared} {a:Addr} {y v:V} {u r:Value} {o:Option V} {A:Around} {E:Value->Shared->Prop}
def Inv.big (I:Inv X aa σ H s):sysModules<s.heap.objs.size:=by
 have h:mainGlobals<s.heap.objs.size:=(I.mod.glob.keeps I.bk).lt;exact ri (by decide) h
def QW (hu:A.units+1<cLine)(I:Inv X aa σ H s)(g:DGet H a y (some v))(ry:RelV y u)(h:∀w' s',Inv X aa σ H s'->RelV v w'->Q w' s'):
  wpAny (model X.prog X.w) A (getItem (.ref a) u) Q E s:=by
 rcases g with ⟨kvs,k,e,ey,l⟩|⟨kvs,k,b,e,ey,eb,l⟩
 ·subst ey;obtain⟨z,hd,vs,aX,dd⟩:=Nb I.hok e;obtain⟨w',hw,c8⟩:=RelO.some_of (v:=v) (o:=valueAt vs k) (by rw[l];exact aX.val k);exact wpAny_getItem_of (N3 ry) dd.mapOf hw (h w' _ (I.tok _) c8)
 ·subst ey;cases (show u=Value.ref b from ry);obtain⟨z,hd,xs,aX,dd⟩:=N4 I.hok e;obtain⟨w',hw,c8⟩:=RelO.some_of (v:=v) (o:=(atKey xs k).map (·.2)) (by rw[l];exact aX.val k);obtain⟨p,hp,jh⟩:=zl_.mp hw;refine wpAny_getItem_heap (xf_ hu) (Jo I.hok eb) dd hp ?_;rw[jh];exact h w' _ (I.tok _) c8
def VP (hu:A.units+1<cLine)(I:Inv X aa σ H s)(g:DGet H a y o)(ry:RelV y u)(h:∀s',Inv X aa σ H s'->Q (.bool (!o.isSome)) s'):
  wpAny (model X.prog X.w) A (compareOp .NotIn u (.ref a)) Q E s:=by
 rcases g with ⟨kvs,k,e,ey,l⟩|⟨kvs,k,b,e,ey,eb,l⟩
 ·subst ey;obtain⟨z,hd,vs,aX,dd⟩:=Nb I.hok e;refine wpAny_notIn_of (N3 ry) hd dd.mapOf ?_;rw[<-(aX.val k).isSome_eq,<-l];exact h _ (I.tok _)
 ·subst ey;cases (show u=Value.ref b from ry);obtain⟨z,hd,xs,aX,dd⟩:=N4 I.hok e;refine wpAny_notIn_heap (xf_ hu) (Jo I.hok eb) hd dd ?_;have q:=(aX.val k).isSome_eq;rw[p3]at q;rw[<-q,<-l];exact h _ (I.tok _)
def IM (I:Inv X aa σ H s)(mu:Mut (H a))(hs:Heap.SameBut a s.heap h')(he:∃q,h'.get? a=some q)(new:AY X.prog X.w (upd H a ob) h' a ob):
  Inv X aa σ (upd H a ob) {s with heap:=h',toks:=t' }:=
 I.write (x:=a) (e:=a) mu (.inl rfl) (fun b q hb z=>(hs.2 b hb).trans z) he new
def Uz (z:kvs.length<=sizeLine)(hd:(a==sysModules)=false)(aX:KV kvs vs)(dd:h'.DictOf (AX P w) a vs):
  AY P w H' h' a (.dK kvs):=⟨z,hd,vs,aX,dd⟩
def QX (hu:A.units+1<cLine)(I:Inv X aa σ H s)(g:DPut H a y v H')(ry:RelV y u)(rv:RelV v r)(h:∀s',Inv X aa σ H' s'->Q () s'):
  wpAny (model X.prog X.w) A (setItem (.ref a) u r) Q E s:=by
 rcases g with ⟨kvs,k,e,ey,l,eH⟩|⟨kvs,k,b,e,ey,eb,l,eH⟩
 ·subst ey eH;obtain⟨z,hd,vs,aX,dd⟩:=Xf I.hok e;have hz:vs.length<=sizeLine:=by rw[<-aX.length];exact z
  have hl:(putK kvs k v).length<=sizeLine:=by have:=Dx kvs k v;lia
  refine wpAny_setItem_pairs (hsz:=hz) (N3 ry) dd fun h' eC hs=>h _ ?_;have he:∃q,h'.get? a=some q:=let ⟨q,_,_,hq,_⟩:=eC;⟨q,hq⟩;exact IM I (by rw[e];exact nL) hs he (Uz hl hd (aX.put k rv) eC)
 ·subst ey eH;cases (show u=Value.ref b from ry);obtain⟨z,hd,xs,aX,dd⟩:=VO I.hok e;have hz:xs.length<=sizeLine:=by rw[<-x5_ aX];exact z
  have hl:(putK kvs k v).length<=sizeLine:=by have:=Dx kvs k v;lia
  refine wpAny_setItem_heap (hsz:=hz) (xf_ hu) (Jo I.hok eb) dd fun h' eC hs=>h _ ?_;obtain⟨q,es,ep,hq,h2,h3,h4,_,h5⟩:=eC;refine IM I (by rw[e];exact nL) hs ⟨q,hq⟩ ⟨hl,hd,_,(aX.put k eb rv).keeps fun c ys ec=>?_,q,es,ep,hq,h2,h3,h4,h5⟩;rw[Aj (Qv ec e (fun z=>nomatch z))];exact ec
end
noncomputable def NoSl (i:Expr):Prop:=∀ov iv,subscripted i false ov iv=operate [ov,iv] (getItem ov iv)
def VQ {T id:String}
  (hl:typeLookup (.type T) "__getitem__"=pure (some (.builtin id))) (hs:NoSl bu)
  (h:wpAny (model prog w) A (eval value env) (fun o s₁=>wpAny (model prog w) A (eval bu env) (fun i aY=>aY.TypeIs o T/\wpAny (model prog w) A (getItem o i) Q E aY) E s₁) E s):
  wpAny (model prog w) A (eval (.Subscript value bu pos) env) Q E s:=by
 refine Subscript_ (qQ_ h (fun o s₁ h₁=>qQ_ h₁ (fun i aY cq=>?_) fun _ _ x=>x) fun _ _ x=>x);obtain⟨hT,cq⟩:=cq;unfold subscriptTail;refine jd_ ?_;rw[getitemInPython_of_ne hT.not_modules];refine jd_ (wpAny_specialOf hT hl ?_);have fin:wpAny (model prog w) A (subscripted bu false o i) (fun r aV=>wpAny (model prog w) A (letTemporaryGo value o r >>= fun _=>pure r) Q E aV) E aY:=by
  rw[hs o i];exact wpAny_operating (qQ_ cq (fun r aV h₃=>jd_ (wpAny_letTemporaryGo (jm_ h₃))) fun _ _ x=>x)
 first
  | exact jm_ (jd_ fin)
  | exact jd_ (jm_ (jd_ fin))
  | exact jd_ fin
def N5 (I:Inv X aa σ H s)(g:DGet H a y o):s.TypeIs (.ref a) "dict" := by
 rcases g with ⟨kvs,k,e,_,_⟩|⟨kvs,k,b,e,_,_,_⟩
 ·obtain⟨_,_,vs,_,dd⟩:=Nb I.hok e;exact dd.typeIs
 ·obtain⟨_,_,xs,_,dd⟩:=N4 I.hok e;exact dd.typeIs
noncomputable def Xg (td ty:TE):TE:=fun σ H Q=>td σ H fun x H1=>ty σ H1 fun y H2=>∃a v,x=.ref a/\DGet H2 a y (some v)/\Q v H2
noncomputable def QY (ty td:TE):TE:=fun σ H Q=>ty σ H fun y H1=>td σ H1 fun x H2=>∃a o,x=.ref a/\DGet H2 a y o/\Q (.bl (!o.isSome)) H2
noncomputable def Xh (td ty tv:TE):TS:=fun D σ H=>tv σ H fun v H1=>td σ H1 fun x H2=>ty σ H2 fun y H3=>∃a H4,x=.ref a/\DPut H3 a y v H4/\D.nx σ H4
section
variable {X:Cx} {o i e value:Expr} {pos bo bp:Pos} {td ty tv:TE}
def L8 (hu:X.A.units+1<cLine)(ho:PE X o td)(hi:PE X i ty)(hs:NoSl i):PE X (.Subscript o i pos) (Xg td ty):=by
 intro aa s σ H Q I h;refine VQ PySem.F.slot_dict_getitem.lookup hs (thn (ho aa s σ H _ I h) fun u s1 ⟨x,H1,I1,rx,q1⟩=>thn (hi aa s1 σ H1 _ I1 q1) fun iv s2 ⟨y,H2,I2,ry,a,v,ex,g,q2⟩=>?_);subst ex;obtain rfl:u=Value.ref a:=rx;exact⟨N5 I2 g,QW hu I2 g ry fun w' s3 I3 c8=>⟨v,H2,I3,c8,q2⟩⟩
def QZ (hu:X.A.units+1<cLine)(hi:PE X i ty)(ho:PE X o td):PC X .NotIn i o (QY ty td):=by
 intro aa s σ H Q I h;refine thn (hi aa s σ H _ I h) fun iv s1 ⟨y,H1,I1,ry,q1⟩=>thn (ho aa s1 σ H1 _ I1 q1) fun u s2 ⟨x,H2,I2,rx,a,ov,ex,g,q2⟩=>?_;subst ex;obtain rfl:u=Value.ref a:=rx;exact VP hu I2 g ry fun s3 I3=>⟨.bl (!ov.isSome),H2,I3,rfl,q2⟩
def FA (hu:X.A.units+1<cLine)(ho:PE X o td)(hi:PE X i ty)(hv:PE X value tv)(hs:swapsWith value (some (.Subscript o i bo)) pos.line X.env=pure false):
  PS X (.Assign [.Subscript o i bo] value pos) (Xh td ty tv):=by
 intro aa s σ H D I h;refine wpAny_Assign_Subscript (thn (hv aa s σ H _ I h) fun r s1 ⟨v,H1,I1,rv,q1⟩=>thn (ho aa s1 σ H1 _ I1 q1) fun u s2 ⟨x,H2,I2,rx,q2⟩=>thn (hi aa s2 σ H2 _ I2 q2) fun iv s3 ⟨y,H3,I3,ry,a,H4,ex,g,q3⟩=>?_) hs;subst ex;obtain rfl:u=Value.ref a:=rx;exact QX hu I3 g ry rv fun s4 I4=>⟨σ,H4,I4,q3⟩
end
def OR (h:Heap)(hb:sysModules<h.objs.size):AY P w H (h.push {cls:=.type "dict",data:=.dict #[]}) h.objs.size (.dK []):=
 ⟨j3_ _,q3_.mpr (qn_ (jE_ hb)),[],.nil,Heap.DictOf.new h⟩
def L9 (h:Heap)(hb:sysModules<h.objs.size):AY P w H (h.push {cls:=.type "dict",data:=.dict #[]}) h.objs.size (.dT []):=
 ⟨j3_ _,q3_.mpr (qn_ (jE_ hb)),[],.nil,_,#[],0,jr_ _ rfl,⟨rfl,rfl,rfl⟩,rfl,rfl,zU_⟩
noncomputable def UA:TE:=fun _ H Q=>∀p,H p=none->Q (.ref p) (upd H p (.dK []))
noncomputable def UB:TE:=fun _ H Q=>∀p,H p=none->Q (.ref p) (upd H p (.dT []))
section
variable {X:Cx} {pos:Pos}
def OS:PE X (.Dict [] [] pos) UA:=fun aa s σ H Q I h=>
 wpAny_Dict_empty ⟨.ref s.heap.objs.size,_,I.laid (a:=s.heap.objs.size) (o:=.dK []) (t':=s.toks) (fun _ _ q=>jg_ _ q) (jf_ _) (OR s.heap I.big),rfl,h _ (I.hok.fresh (jf_ _))⟩
def Ke:PE X (.Dict [] [] pos) UB:=fun aa s σ H Q I h=>
 wpAny_Dict_empty ⟨.ref s.heap.objs.size,_,I.laid (a:=s.heap.objs.size) (o:=.dT []) (t':=s.toks) (fun _ _ q=>jg_ _ q) (jf_ _) (L9 s.heap I.big),rfl,h _ (I.hok.fresh (jf_ _))⟩
end
noncomputable def Ky:List (TE×TE)->St->Hp->(List (V×V)->Hp->Prop)->Prop
 |[],_,H,Q=>Q [] H
 | (tk,tv)::r,σ,H,Q=>tk σ H fun x H1=>tv σ H1 fun y H2=>Ky r σ H2 fun ps H3=>Q ((x,y)::ps) H3
noncomputable abbrev VV:List (V×V)->List (Value×Value)->Prop:=Paired fun p q=>RelV p.1 q.1/\RelV p.2 q.2
noncomputable def PPs (X:Cx)(pos:Pos)(dh:List (Option Expr))(cu:List Expr)(fQ:List (TE×TE)):Prop:=
 ∀(aa:α7) (s:Shared) (σ:St) (H:Hp) (Q:List (V×V)->Hp->Prop),Inv X aa σ H s->Ky fQ σ H Q ->
  wpAny (model X.prog X.w) X.A (evalPairs (pairTrees dh cu X.env pos)) (fun vs s'=>∃ps H',Inv X aa σ H' s'/\VV ps vs/\Q ps H') X.xe s
def VR : PPs X pos [] [] []:=fun aa s σ H Q I h=>pairTrees_nil_walk ⟨[],H,I,.nil,h⟩
def S6 (hk:PE X k tk)(hv:PE X v tv)(hr:PPs X pos ks vs fQ):
  PPs X pos (some k::ks) (v::vs) ((tk,tv)::fQ):=fun aa s σ H Q I h=>
 pairTrees_cons_walk (thn (hk aa s σ H _ I h) fun u s1 ⟨x,H1,I1,rx,q1⟩=>thn (hv aa s1 σ H1 _ I1 q1) fun w2 s2 ⟨y,H2,I2,ry,q2⟩ =>
  thn (hr aa s2 σ H2 _ I2 q2) fun ws s3 ⟨ps,H3,I3,aX,q3⟩=>⟨(x,y)::ps,H3,I3,.cons ⟨rx,ry⟩ aX,q3⟩)
noncomputable def Jp (kvs more:List (Key×V)):List (Key×V):=more.foldl (fun ah kv=>putK ah kv.1 kv.2) kvs
def KV.merge:∀{more:List (Key×V)} {rs:List (Key×Value)} {kvs:List (Key×V)} {vs:List (Key×Value)},KV more rs->KV kvs vs->KV (Jp kvs more) (merged vs rs):=by
 intro more rs kvs vs r;unfold KV at r
 induction r generalizing kvs vs with
 |nil=>intro q;exact q
 |@cons p q ps qs h t ih=>
  intro r0;have e:KV (putK kvs p.1 p.2) (stored vs q.1 q.2):=by
   have:=r0.put p.1 h.2;rw[<-h.1];exact this
  exact ih e
def Hy:∀(more kvs:List (Key×V)),(Jp kvs more).length<=kvs.length+more.length
 |[],kvs=>by show kvs.length<=kvs.length+0;lia
 |p::r,kvs=>by
  have h1:=Hy r (putK kvs p.1 p.2);have h2:=Dx kvs p.1 p.2;show (Jp (putK kvs p.1 p.2) r).length<=_;rw[jV_];lia
def LH {P:Program}{w:World}:∀{kvs:List (Key×V)} {ws:List (Value×Value)},VV (kvs.map fun kv=>(kV kv.1,kv.2)) ws->∃rs,Carries (AX P w) ws rs/\KV kvs rs
 |[],_,r=>by rw[xB_]at r;cases r;exact⟨[],nL,.nil⟩
 |p::kvs,_,r=>by
  rw[jP_]at r;cases r with
  |@cons a b as bs h t=>
   obtain⟨rs,c,q⟩:=LH (P:=P) (w:=w) t;obtain⟨b1,b2⟩:=b;exact⟨(p.1,b2)::rs,⟨N3 h.1,rfl,c⟩,.cons ⟨rfl,h.2⟩ q⟩
noncomputable def VS (fQ:List (TE×TE)):TE:=fun σ H Q=>∀p,H p=none->Ky fQ σ (upd H p (.dK [])) fun ps H2=>H2 p=some (.dK [])/\∃kvs:List (Key×V),ps=kvs.map (fun kv=>(kV kv.1,kv.2))/\kvs.length<=15/\Q (.ref p) (upd H2 p (.dK (Jp [] kvs)))
def VT (h:PPs X pos dh cu fQ)(aA:dh.all (·.isSome)=true)(hl:dh.length=cu.length)(h0:dh ≠ [])
  (h15:dh.length<=15):PE X (.Dict dh cu pos) (VS fQ):=by
 intro aa s σ H Q I q;have hn:=I.hok.fresh (jf_ s.heap.objs.size);have I1:=I.laid (a:=s.heap.objs.size) (o:=.dK []) (h':=s.heap.push {cls:=.type "dict",data:=.dict #[]}) (t':=s.toks) (fun _ _ q=>jg_ _ q) (jf_ _) (OR s.heap I.big);refine wpAny_Dict_walk (knd:=AX X.prog X.w) aA hl h0 h15 (thn (h aa _ σ _ _ I1 (q _ hn)) fun ws s2 ⟨ps,H2,I2,aX,e,kvs,ep,lk,q2⟩=>?_);subst ep;obtain⟨rs,c,rk⟩:=LH (P:=X.prog) (w:=X.w) aX;obtain⟨z,hd,vs0,r0,dd⟩:=Xf I2.hok e;cases r0;refine⟨rs,c,dd,fun h' eC hs=>⟨.ref s.heap.objs.size,_,?_,rfl,q2⟩⟩;have hz:(Jp [] kvs).length<=sizeLine:=by
  have h1:=Hy kvs [];rw[xl_]at h1;rw[zL_];lia
 have he:∃q,h'.get? s.heap.objs.size=some q:=let ⟨q,_,_,hq,_⟩:=eC;⟨q,hq⟩;exact IM I2 (by rw[e];exact nL) hs he (Uz hz hd (rk.merge .nil) eC)
structure M1 (X:Cx)(o:Expr)(m:Str)(aG:Pos)(e:Expr)(aI:Pos):Prop where
 base:attributeBase o m X.env (eval o X.env)=eval o X.env
 few:((backTo aI (starEach [e] X.env)).all (fun x => !x.1)&&(backToKw aI (keywordEach [] X.env)).all (fun x=>x.1.isSome)
  && decide (([e]:List Expr).length+([]:List Keyword).length+(if ([]:List Keyword).isEmpty then 0 else 1)<30))=true
 line:(aG.endLine==aI.line)=true
 trees:backTo aI (starEach [e] X.env)=[(false,eval e X.env)]
structure M2 (X:Cx)(o:Expr)(m:Str)(aG:Pos)(e f:Expr)(aI:Pos):Prop where
 base:attributeBase o m X.env (eval o X.env)=eval o X.env
 few:((backTo aI (starEach [e,f] X.env)).all (fun x => !x.1)&&(backToKw aI (keywordEach [] X.env)).all (fun x=>x.1.isSome)
  && decide (([e,f]:List Expr).length+([]:List Keyword).length+(if ([]:List Keyword).isEmpty then 0 else 1)<30))=true
 line:(aG.endLine==aI.line)=true
 trees:backTo aI (starEach [e,f] X.env)=[(false,eval e X.env),(false,eval f X.env)]
noncomputable def IsD (H:Hp)(a:Addr):Prop:=(∃kvs,Rd H a (.dK kvs)) \/ ∃kvs,Rd H a (.dT kvs)
def UC (I:Inv X aa σ H s)(d:IsD H a):
  s.TypeIs (.ref a) "dict" /\ (∀b,Value.ref a=.ref b->∃ob,s.heap.get? b=some ob/\ob.dict=none)/\(a==sysModules)=false:=by
 rcases d with ⟨kvs,e⟩|⟨kvs,e⟩
 ·obtain⟨_,hd,vs,_,dd⟩:=Nb I.hok e;refine⟨dd.typeIs,fun b q=>?_,hd⟩;cases q;obtain⟨ob,_,_,h1,h2,_⟩:=dd;exact⟨ob,h1,h2.2.1⟩
 ·obtain⟨_,hd,xs,_,dd⟩:=N4 I.hok e;refine⟨dd.typeIs,fun b q=>?_,hd⟩;cases q;obtain⟨ob,_,_,h1,h2,_⟩:=dd;exact⟨ob,h1,h2.2.1⟩
section
variable {X:Cx} {aa:α7} {σ:St} {H:Hp} {s:Shared} {a:Addr} {y d:V} {u r:Value} {o:Option V} {A:Around} {E:Value->Shared->Prop}
def Xi (hu:A.units+1<cLine)(I:Inv X aa σ H s)(g:DGet H a y o)(ry:RelV y u)(h:∀w' s',Inv X aa σ H s'->RelV (o.getD .non) w'->Q w' s'):
  wpAny (model X.prog X.w) A (call (.builtin "dict.get") [.ref a,u]) Q E s:=by
 rcases g with ⟨kvs,k,e,ey,l⟩|⟨kvs,k,b,e,ey,eb,l⟩
 ·subst ey;obtain⟨z,hd,vs,aX,dd⟩:=Nb I.hok e;refine call_meetsIn qV_ dd.typeIs xv_ (oE _ _) (meets_dict_get (AX X.prog X.w) a (N3 ry) hd) ⟨_,dd.mapOf,h _ _ (I.tok _) ?_⟩;rw[l];exact (aX.val k).getD rfl
 ·subst ey;cases (show u=Value.ref b from ry);obtain⟨z,hd,xs,aX,dd⟩:=N4 I.hok e;refine call_meetsIn qV_ dd.typeIs xv_ (oE _ _) (meetsH_dict_get (tupleKind (AX X.prog X.w)) a b hd) ⟨xf_ hu,k,xs,Jo I.hok eb,dd,h _ _ (I.tok _) ?_⟩;rw[l];exact (aX.val k).getD rfl
def Xj (hu:A.units+1<cLine)(I:Inv X aa σ H s)(g:DGet H a y o)(ry:RelV y u)(rd:RelV d r)(h:∀w' s',Inv X aa σ H s'->RelV (o.getD d) w'->Q w' s'):
  wpAny (model X.prog X.w) A (call (.builtin "dict.get") [.ref a,u,r]) Q E s:=by
 rcases g with ⟨kvs,k,e,ey,l⟩|⟨kvs,k,b,e,ey,eb,l⟩
 ·subst ey;obtain⟨z,hd,vs,aX,dd⟩:=Nb I.hok e;refine call_meetsIn qV_ dd.typeIs xv_ (oF _ _ _) (meets_dict_get_default (AX X.prog X.w) a (N3 ry) hd r) ⟨_,dd.mapOf,h _ _ (I.tok _) ?_⟩;rw[l];exact (aX.val k).getD rd
 ·subst ey;cases (show u=Value.ref b from ry);obtain⟨z,hd,xs,aX,dd⟩:=N4 I.hok e;refine call_meetsIn qV_ dd.typeIs xv_ (oF _ _ _) (meetsH_dict_get_default (tupleKind (AX X.prog X.w)) a b hd r) ⟨xf_ hu,k,xs,Jo I.hok eb,dd,h _ _ (I.tok _) ?_⟩;rw[l];exact (aX.val k).getD rd
end
noncomputable def UD (td ty:TE):TE:=fun σ H Q=>td σ H fun x H1=>∃a,x=.ref a/\IsD H1 a/\ty σ H1 fun y H2=>∃o,DGet H2 a y o/\Q (o.getD .non) H2
noncomputable def UE (td ty tx:TE):TE:=fun σ H Q=>td σ H fun x H1=>∃a,x=.ref a/\IsD H1 a/\ty σ H1 fun y H2=>tx σ H2 fun z H3=>∃o,DGet H3 a y o/\Q (o.getD z) H3
section
variable {X:Cx} {o e f:Expr} {aG aI:Pos} {td ty tx:TE}
def OU (hu:X.A.units+1<cLine)(ho:PE X o td)(he:PE X e ty)(m:M1 X o "get" aG e aI):PE X (.Call (.Attribute o "get" aG) [e] [] aI) (UD td ty):=by
 intro aa s σ H Q I h;refine wpAny_Call_method m.base m.few m.line xp_ qV_ o9 (thn (ho aa s σ H _ I h) fun u s1 ⟨x,H1,I1,rx,a,ex,d,q1⟩=>?_);subst ex;obtain rfl:u=Value.ref a:=rx;obtain⟨t1,t2,_⟩:=UC I1 d;refine⟨t1,t2,?_⟩;rw[m.trees];refine q6_ rfl (xM_ (x8_ (thn (he aa s1 σ H1 _ I1 q1) fun iv s2 ⟨y,H2,I2,ry,ov,g,q2⟩=>Calls.spliced_nil ?_)));exact Xi hu I2 g ry fun w' s3 I3 c8=>⟨_,H2,I3,c8,q2⟩
def S7 (hu:X.A.units+1<cLine)(ho:PE X o td)(he:PE X e ty)(hf:PE X f tx)(m:M2 X o "get" aG e f aI):PE X (.Call (.Attribute o "get" aG) [e,f] [] aI) (UE td ty tx):=by
 intro aa s σ H Q I h;refine wpAny_Call_method m.base m.few m.line xp_ qV_ o9 (thn (ho aa s σ H _ I h) fun u s1 ⟨x,H1,I1,rx,a,ex,d,q1⟩=>?_);subst ex;obtain rfl:u=Value.ref a:=rx;obtain⟨t1,t2,_⟩:=UC I1 d;refine⟨t1,t2,?_⟩;rw[m.trees];refine q6_ rfl (xM_ (x8_ (thn (he aa s1 σ H1 _ I1 q1) fun iv s2 ⟨y,H2,I2,ry,q2⟩ =>
  x8_ (thn (hf aa s2 σ H2 _ I2 q2) fun fv s3 ⟨z,H3,I3,rz,ov,g,q3⟩=>Calls.spliced_nil ?_))))
 exact Xj hu I3 g ry rz fun w' s4 I4 c8=>⟨_,H3,I4,c8,q3⟩
end
end L2
namespace L2
open PySem PySem.Spec PyProof.Rows
noncomputable def clOf (env:Env):List (Str×NameKind)->List (Str×Addr)->List (Str×Addr)
 |[],ah=>ah
 | (n,k)::r,ah=>if (k == .free)=true then clOf env r ((n,(env.cells.lookup n).getD 0)::ah) else clOf env r ah
def IP (h:∀p∈scope.names,p.2=.free->∃c,env.cells.lookup p.1=some c):closureFor scope env=pure (clOf env scope.names []):=by
 have go:∀(l:List (Str×NameKind)) (ah:List (Str×Addr)),(∀p∈l,p.2=.free->∃c,env.cells.lookup p.1=some c) ->
   (forIn l ah fun (x:Str×NameKind) (cs:List (Str×Addr))=>(if (x.2 == .free)=true then do let c <- cellOf env x.1;pure (nO ((x.1,c)::cs)) else pure (nO cs):Sem (ForInStep (List (Str×Addr)))))=(pure (clOf env l ah):Sem (List (Str×Addr))):=by
  intro l
  induction l with
  |nil=>intro ah _;rfl
  |cons p r ih=>
   intro ah hl;obtain⟨n,k⟩:=p;rw[oS];by_cases hk:(k == .free)=true
   ·obtain⟨c,hc⟩:=hl (n,k) jA_ (by simpa using hk);have e1:cellOf env n=pure c:=by unfold cellOf;rw[hc]
    have lS:=ih ((n,c)::ah) fun q hq=>hl q (jp_ _ hq);show ((if (k == .free)=true then do let c <- cellOf env n;pure (nO ((n,c)::ah)) else pure (nO ah):Sem _) >>= _)=_;rw[if_pos hk,e1];show (forIn r ((n,c)::ah) _:Sem _)=_;rw[clOf,if_pos hk,hc];exact lS
   ·have lS:=ih ah fun q hq=>hl q (jp_ _ hq);show ((if (k == .free)=true then do let c <- cellOf env n;pure (nO ((n,c)::ah)) else pure (nO ah):Sem _) >>= _)=_;rw[if_neg hk];show (forIn r ah _:Sem _)=_;rw[clOf,if_neg hk];exact lS
 have e:=go scope.names [] h;unfold closureFor;show (forIn scope.names [] _ >>= fun cs=>pure cs:Sem _)=_;have e2:(forIn scope.names [] (fun (x:Str×NameKind) (r:List (Str×Addr))=>(match x with
   | (name,kind)=>if (kind == .free)=true then do let c <- cellOf env name;pure (nO ((name,c)::r)) else do pure PUnit.unit;pure (nO r):Sem (ForInStep (List (Str×Addr))))))=(pure (clOf env scope.names []):Sem (List (Str×Addr))):=e
 exact qY_ (fun z=>z >>= fun cs=>pure cs) e2
def Kf {env:Env}:∀(l:List (Str×NameKind)) (ah:List (Str×Addr)),(∀p∈l,p.2=.free->∃c,env.cells.lookup p.1=some c)->(∀q∈ah,env.cells.lookup q.1=some q.2)->∀q∈clOf env l ah,env.cells.lookup q.1=some q.2
 |[],_,_,ha,q,hq=>ha q hq
 | (n,k)::r,ah,hl,ha,q,hq=>by
  unfold clOf at hq;by_cases hk:(k == .free)=true
  ·rw[if_pos hk]at hq;obtain⟨c,hc⟩:=hl (n,k) jA_ (by simpa using hk);refine Kf r _ (fun p hp=>hl p (jp_ _ hp)) (fun p hp=>?_) q hq;rcases jD_.mp hp with rfl|hp
   ·show env.cells.lookup n=some ((env.cells.lookup n).getD 0);rw[hc];rfl
   ·exact ha p hp
  ·rw[if_neg hk]at hq;exact Kf r _ (fun p hp=>hl p (jp_ _ hp)) ha q hq
def Gp {env:Env}:∀(l:List (Str×NameKind)) (ah:List (Str×Addr)) (x:Str),((x,NameKind.free)∈l \/ ∃c,(x,c)∈ah)->∃c,(x,c)∈clOf env l ah
 |[],_,_,h=>by
  rcases h with h|h
  ·cases h
  ·exact h
 | (n,k)::r,ah,x,h=>by
  unfold clOf;by_cases hk:(k == .free)=true
  ·rw[if_pos hk];refine Gp r _ x ?_;rcases h with h|⟨c,h⟩
   ·rcases jD_.mp h with h|h
    ·cases h;exact .inr ⟨_,jA_⟩
    ·exact .inl h
   ·exact .inr ⟨c,jp_ _ h⟩
  ·rw[if_neg hk];refine Gp r _ x ?_;rcases h with h|h
   ·rcases jD_.mp h with h|h
    ·cases h;exact absurd rfl hk
    ·exact .inl h
   ·exact .inr h
def Bc {β:Type}:∀{l:List (Str×β)} {x:Str} {c:β},(x,c)∈l->∃c',l.lookup x=some c'
 |[],_,_,h=>by cases h
 | (n,d)::r,x,c,h=>by
  by_cases hx:(x==n)=true
  ·exact⟨d,by rw[jX_,hx]⟩
  ·rcases jD_.mp h with h|h
   ·cases h;exact absurd (beq_self_eq_true _) hx
   ·obtain⟨c',e⟩:=Bc h;exact⟨c',by rw[jX_];simp only[Bool.not_eq_true]at hx;rw[hx];exact e⟩
noncomputable def relF (env:Env):Str×NameKind->Str×NameKind:=fun (n,k)=>if (k==NameKind.free&&env.scope.kind == .function&&env.kindOf n==some .cell) then (n,NameKind.cell) else (n,k)
def Kg (h:(k==NameKind.free&&env.scope.kind == .function&&env.kindOf n==some .cell)=true):relF env (n,k)=(n,.cell):=if_pos h
def Ma (h:¬ (k==NameKind.free&&env.scope.kind == .function&&env.kindOf n==some .cell)=true):relF env (n,k)=(n,k):=if_neg h
def FC {env:Env}:∀{names:List (Str×NameKind)} {x:Str} {k:NameKind},(∀y∈names,y.2 ≠ .cell) ->
  (names.map (relF env)).lookup x=some k->(k=.cell\/k=.free)->(x,NameKind.free)∈names
 |[],_,_,_,h,_=>by simp at h
 | (n,k')::r,x,k,hc,h,hk=>by
  have ih := @FC env r x k (fun y hy=>hc y (jp_ _ hy));rw[jP_]at h;by_cases hb:(k'==NameKind.free&&env.scope.kind == .function&&env.kindOf n==some .cell)=true
  ·rw[Kg hb,jX_]at h;cases hx:x==n with
   |true=>
    have e:x=n:=by simpa using hx
    subst e;have e2:k'=.free:=by
     simp only[jW_]at hb;simpa using hb.1.1
    subst e2;exact jA_
   |false=>
    rw[hx]at h;exact jp_ _ (ih h hk)
  ·rw[Ma hb,jX_]at h;cases hx:x==n with
   |true=>
    rw[hx]at h;have e:x=n:=by simpa using hx
    subst e;have e2:k'=k:=jt_ h;subst e2;rcases hk with rfl|rfl
    ·exact absurd rfl (hc _ jA_)
    ·exact jA_
   |false=>
    rw[hx]at h;exact jp_ _ (ih h hk)
def FD {env:Env}:∀{names:List (Str×NameKind)} {x:Str},names.lookup x=some .free ->
  ∃k,(k=NameKind.cell\/k=NameKind.free)/\(names.map (relF env)).lookup x=some k
 |[],_,h=>by simp at h
 | (n,k')::r,x,h=>by
  have ih := @FD env r x;rw[jX_]at h;rw[jP_];cases hx:x==n with
  |true=>
   rw[hx]at h;have e2:k'=.free:=jt_ h;subst e2;by_cases hb:((NameKind.free:NameKind)==NameKind.free&&env.scope.kind == .function&&env.kindOf n==some .cell)=true
   ·exact⟨.cell,.inl rfl,by rw[Kg hb,jX_,hx]⟩
   ·exact⟨.free,.inr rfl,by rw[Ma hb,jX_,hx]⟩
  |false=>
   rw[hx]at h;obtain⟨k,hk,e⟩:=ih h;refine⟨k,hk,?_⟩;by_cases hb:(k'==NameKind.free&&env.scope.kind == .function&&env.kindOf n==some .cell)=true
   ·rw[Kg hb,jX_,hx];exact e
   ·rw[Ma hb,jX_,hx];exact e
end L2
namespace L2
open PySem PySem.Spec PyProof.Rows
section
variable {prog:Program} {w:World} {A:Around} {R:Result->Shared->Prop} {s:Shared}
noncomputable abbrev cpW (prog:Program)(w:World)(A:Around)(R:Result->Shared->Prop)(env:Env){α:Type}(m:Sem α)(Q:α->Shared->Prop):Shared->Prop:=wpAny (model prog w) A m Q (notedBy (model prog w) A env fun e t=>R (.error e) t)
def Jq {cG bF iter:Expr} {it ah:Value} (I:Nat->Shared->Prop)
  (ar:∀n s,I n s->cpW prog w A R env (pyNext it) (fun r s=>match r with
   |none=>R (.ok .next) s
   |some v=>cpW prog w A R env (letOwnedTupleGo bF it v) (fun _=>cpW prog w A R env (assign bF env v) fun _=>cpW prog w A R env (forIn cw true fun c r=>if r=true then do let ok <- isTrue c env (eval c env);pure (nO ok) else pure (nO r)) fun ok s=>
     if ok=true then cpW prog w A R env (eval cG env) (fun x=>cpW prog w A R env (call (.builtin "list.append") [ah,x]) fun _ t=>∃m,m<n/\I m t) s else ∃m,m<n/\I m s) s) s)
  (n:Nat) (h:I n s):codeAny (model prog w) A (.compLoop (.ListComp cG [⟨bF,iter,cw,0⟩] scope pos) 0 it ah env) R s:=by
 have mono:∀{α β:Type} {m:Sem α} {f:α->Sem β} {Q:α->Shared->Prop} {Q':β->Shared->Prop} {s:Shared},cpW prog w A R env m Q s->(∀a t,Q a t->cpW prog w A R env (f a) Q' t)->cpW prog w A R env (m >>= f) Q' s:=fun h k=>jd_ (qQ_ h k fun _ _ e=>e);refine codeAny_loop rfl I (fun n s hI=>wpAny_noted ?_) n h;rw[compTurn_list];refine jd_ (wpAny_standAt (mono (ar n s hI) fun r s1 h1=>?_));cases r with
 |none=>exact jm_ h1
 |some v=>
  refine mono h1 fun _ _ h2=>mono h2 fun _ _ h3=>mono h3 fun ok s4 h4=>?_;cases ok with
  |false=>exact jm_ ⟨rfl,h4⟩
  |true=>exact jd_ (mono h4 fun _ _ h5=>mono h5 fun _ _ h6=>jm_ (jm_ ⟨rfl,h6⟩))
end
noncomputable abbrev Cx.blk (X:Cx)(N:List Str)(sc:Scope)(C:Addr)(s₀:Shared)(H₀:Hp)(ex:List Addr):Cx:=
 {X with N:=N,env:=compEnvC sc (clOf X.env sc.names []) C X.env,outer:=X.stack,s₀:=s₀,H₀:=H₀,ex:=ex,fn:=fun _=>false,pn:=[],xe:=fun _ _=>False}
structure BlkSc (X:Cx)(sc:Scope):Prop where
 kind:sc.kind=.function
 nocell:∀y∈sc.names,y.2 ≠ .cell
 loc:∀y∈sc.names,y.2=.local->sc.names.lookup y.1=some .local
 free:∀y∈sc.names,y.2=.free->X.env.kindOf y.1=some .cell\/X.env.kindOf y.1=some .free
noncomputable abbrev Caps:=List (Str×Option Nat)
noncomputable def Caps.names (c:Caps):List Str:=c.map (·.1)
noncomputable def Caps.st (c:Caps)(σ:St):St:=c.map fun p=>p.2.bind fun j=>(σ[j]?).join
noncomputable def Dy (N:List Str)(sc:Scope):Caps->Prop
 |[]=>True
 | (_,none)::r=>Dy N sc r
 | (x,some j)::r=>(N[j]?=some x/\sc.names.lookup x=some .free)/\Dy N sc r
def Dy.get {N:List Str}{sc:Scope}:∀{c:Caps} {i:Nat} {x:Str} {j:Nat},Dy N sc c->c[i]?=some (x,some j)->N[j]?=some x/\sc.names.lookup x=some .free
 |[],_,_,_,_,h=>by simp at h
 | (y,none)::r,0,x,j,_,h=>by simp at h
 | (y,none)::r,i+1,x,j,ok,h=>Dy.get (c:=r) (i:=i) ok (by simpa using h)
 | (y,some k)::r,0,x,j,ok,h=>by
  simp only[zc_,Option.some.injEq,Prod.mk.injEq]at h;obtain⟨rfl,rfl⟩:=h;exact ok.1
 | (y,some k)::r,i+1,x,j,ok,h=>Dy.get (c:=r) (i:=i) ok.2 (by simpa using h)
section
variable {X:Cx} {aa:α7} {σ:St} {H:Hp} {s:Shared} {sc:Scope} {fp:List Addr}
def Kz (I:Inv X aa σ H s)(S:BlkSc X sc):∀p∈sc.names,p.2=.free->∃c,X.env.cells.lookup p.1=some c:=fun p hp e=>I.ok.has p.1 (S.free p hp e)
def B9 (I:Inv X aa σ H s)(S:BlkSc X sc) (h:(clOf X.env sc.names []).lookup x=some c):X.env.cells.lookup x=some c:=
 Kf sc.names [] (Kz I S) (fun q hq=>by cases hq) (x,c) (j4_ h)
def Xk {N:List Str}{C:Addr}(I:Inv X aa σ H s)(S:BlkSc X sc)(hC:s.heap.objs.size<=C)(hf:∀b∈fp,FpOk X aa H b)(ho:∀b∈fp,∃o,s.heap.get? b=some o):(X.blk N sc C s H fp).Ok where
 mod:=I.ok.mod
 kind:=S.kind
 glob:=I.ok.glob
 blt:=I.ok.blt
 above:=hC
 inj:=fun x y c h1 h2=>I.ok.inj x y c (B9 I S h1) (B9 I S h2)
 has:=fun x hx=>by
  have fR:(x,NameKind.free)∈sc.names:=by
   rcases hx with hx|hx
   ·exact FC (env:=X.env) S.nocell hx (.inl rfl)
   ·exact FC (env:=X.env) S.nocell hx (.inr rfl)
  obtain⟨c,hc⟩:=Gp (env:=X.env) sc.names [] x (.inl fR);exact Bc hc
 cab:=fun x c h=>absurd (show false=true from h) jo_
 hd:=I.ok.hd
 frames:=I.ok.frames
 stk:=.inl rfl
 exf:=fun b hb=>by
  obtain⟨o,ho⟩:=ho b hb;refine⟨jE_ (js_ (jk_ ho) hC),fun x c h=>(hf b hb).2.2.2.2.1 x c (B9 I S h)⟩
 bs:=I.bs
 bsz:=j6_ I.ok.bsz I.sz
 noex:=fun b o e hb=>by
  rcases (hf b hb).2.2.2.1 with z|z
  ·exact I.ok.noex b o e z
  ·exact absurd (js_ (jk_ (I.ok.bs b o e).1) z) (jY_ _)
 exfs:=fun b hb z=>by
  rcases jD_.mp (I.stkSub b z) with e|e
  ·exact (hf b hb).2.1 e
  ·exact (hf b hb).2.2.1 e
 funs:=I.stack
 frf:=I.stkFree
def Q0 {c:Caps}{C:Addr}{s4:Shared}{m:Str->α5}(I:Inv X aa σ H s)(S:BlkSc X sc)(hc:Dy X.N sc c)(hC:s.heap.objs.size<=C)(hf:∀b∈fp,FpOk X aa H b)(ho:∀b∈fp,∃o,s.heap.get? b=some o)
  (eA:s4.os=s.os) (hb:s4.gens=s.gens) (hk:∀b o,s.heap.get? b=some o->s4.heap.get? b=some o) (hn:s4.heap.Ns C m):Inv (X.blk c.names sc C s H fp) [] (c.st σ) H s4 where
 ok:=Xk I S hC hf ho
 os:=eA
 bare:=by rw[hb];exact I.bare
 base:=Un.kept hk
 loc:=by
  refine⟨m,hn,fun i x v h1 h2 hv=>?_⟩;have eE:(c.map (·.1))[i]?=some x:=h1;have cL:(c.map fun p=>p.2.bind fun j=>(σ[j]?).join)[i]?=some (some v):=h2;rw[jh_]at eE cL;cases e:c[i]? with
  |none=>rw[e]at eE;cases eE
  |some p=>
   obtain⟨y,oj⟩:=p;rw[e]at eE cL;have e1:y=x:=jt_ eE;subst e1;have e2:(oj.bind fun j=>(σ[j]?).join)=some v:=jt_ cL;cases oj with
   |none=>cases e2
   |some j=>
    have e3:(σ[j]?).join=some v:=e2;have e4:σ[j]?=some (some v):=by
     cases q:σ[j]? with
     |none=>rw[q]at e3;cases e3
     |some z=>rw[q]at e3;exact qY_ some e3
    obtain⟨k1,k2⟩:=Dy.get hc e;have k3:X.env.kindOf y=some .cell\/X.env.kindOf y=some .free:=S.free (y,.free) (j4_ k2) rfl;have jG:Vis X.env.scope y:=by
     rcases k3 with k|k
     ·exact .inr (.inl k)
     ·exact .inr (.inr k)
    obtain⟨mX,hnX,hl⟩:=I.loc;obtain⟨u,r,l⟩:=hl j y v k1 e4 jG;refine⟨u,r,?_⟩;rcases l with ⟨k,_⟩|⟨_,ca,lT,z⟩
    ·rcases k3 with k' | k'<;>(rw[k]at k';cases k')
    ·obtain⟨kd,lU,ek⟩:=FD (env:=X.env) k2;have cM:(compEnvC sc (clOf X.env sc.names []) C X.env).kindOf y=some kd:=ek;obtain⟨c',dW⟩:=Gp (env:=X.env) sc.names [] y (.inl (j4_ k2));obtain⟨c2,cn⟩:=Bc dW;have e5:=B9 I S cn;rw[lT]at e5;have e6:ca=c2:=jt_ e5;subst e6;refine .inr ⟨?_,ca,cn,?_⟩
     ·rcases lU with rfl|rfl
      ·exact .inl cM
      ·exact .inr cM
     ·obtain⟨oc,dw,hd⟩:=z;exact⟨oc,hk _ _ dw,hd⟩
 cell:=fun x ca h=>by
  obtain⟨v,oc,dw,hd⟩:=I.cell x ca (B9 I S h);exact⟨v,oc,hk _ _ dw,hd⟩
 free:=I.hok.fresh hC
 freeC:=fun x ca h=>I.freeC x ca (B9 I S h)
 pin:=fun p hp=>absurd (show p∈([]:α7) from hp) (by simp)
 hok:=I.hok.kept hk
 len:=by show (c.map _).length=(c.map _).length;rw[ja_,ja_]
def HOk.track (x:HOk P w H h)(hn:H a=none)(new:AY P w (upd H a o) h a o):HOk P w (upd H a o) h:=fun b u e=>by
 by_cases hb:b=a
 ·subst hb;rw[Ab]at e;cases e;exact new
 ·rw[Aj hb]at e;exact (x b u e).stay (fun c v _ q=>q) (fun c q=>by rw[Aj (AL q hn)];exact q) fun c xs q=>by rw[Aj (AL q hn)];exact q
def Un.track {fs ex:List Addr}{H H':Hp}{h h':Heap}{a:Addr}{o:HO}(u:Un fs ex H H' h h')(ha:h.objs.size<=a)(hn:H' a=none):Un fs ex H (upd H' a o) h h' where
 keep:=u.keep
 slot:=u.slot
 free:=fun b ob q n hx=>by rw[Aj (jE_ (js_ (jk_ q) ha))];exact u.free b ob q n hx
 there:=u.there
 tups:=fun b xs q=>by rw[Aj (AL (u.tups b xs q) hn)];exact u.tups b xs q
 frzs:=fun b ob xs q=>by rw[Aj (AL (u.frzs b ob xs q) hn)];exact u.frzs b ob xs q
 tbls:=fun b ps q=>by
  obtain⟨more,e⟩:=u.tbls b ps q;exact⟨more,by rw[Aj (AL e hn)];exact e⟩
def VU {c:Caps}{C D:Addr}{s':Shared}{af:St}{H':Hp}{o:HO}(I:Inv X aa σ H s)(J:Inv (X.blk c.names sc C s H fp) [] af H' s')(hf:∀b∈fp,FpOk X aa H b)(hD:s.heap.objs.size<=D)(hn:H' D=none)
  (new:AY X.prog X.w (upd H' D o) s'.heap D o):Inv X aa σ (upd H' D o) s':=by
 have u:Un (frs X.stack) fp H H' s.heap s'.heap:=J.base;exact I.call' J.os (u.track hD hn) (J.hok.track hn new) J.bare fun b hb=>⟨(hf b hb).2.2.2.1,(hf b hb).2.1,(hf b hb).2.2.2.2.1,(hf b hb).2.2.2.2.2⟩
end
noncomputable def PF (X:Cx)(cw:List Expr)(t:TT):Prop:=
 ∀(aa:α7) (s:Shared) (σ:St) (H:Hp) (Q:Bool->Hp->Prop),Inv X aa σ H s->t σ H Q ->
  wpAny (model X.prog X.w) X.A (forIn cw true fun c r=>if r=true then do let ok <- isTrue c X.env (eval c X.env);pure (nO ok) else pure (nO r)) (TP X aa σ Q) X.xe s
noncomputable def Mb:TT:=fun _ H Q=>Q true H
def By : PF X [] Mb:=fun _ _ _ H _ I h=>wpAny_tests_nil ⟨H,I,h⟩
noncomputable def S8 (wi:TI)(cp:Caps)(g:TG)(tc:TT)(te:TE):TE:=fun σ H Q=>wi σ H fun J H1=>∃W:Nat->Nat->List V->St->Hp->Prop,(∃m,W 0 m [] (cp.st σ) H1)/\∀i m ys af H',W i m ys af H' ->
 ys.length<sizeLine/\((J.stop i H'/\∀D,H' D=none->Q (.ref D) (upd H' D (.lst ys)))\/(J.go i H'/\∃N:List V->St->Hp->Prop,(∀zs ai H2,N zs ai H2->∃m',m'<m/\W (i+1) m' zs ai H2)/\∀x H2,J.yld i H' x H2->g x af H2 fun ai H3=>tc ai H3 fun b H4=>
  if b=true then te ai H4 fun v H5=>N (ys++[v]) ai H5 else N ys ai H4))
section
variable {X:Cx} {tg iter cG:Expr} {cw:List Expr} {sc:Scope} {pos:Pos} {wi:TI} {cp:Caps} {g:TG} {tc:TT} {te:TE}
def Nd (hc:X.calm=true)(S:BlkSc X sc)(fS:Dy X.N sc cp)
  (hg:∀C s₀ H₀ ex,PG (X.blk cp.names sc C s₀ H₀ ex) tg g) (hf:∀C s₀ H₀ ex,PF (X.blk cp.names sc C s₀ H₀ ex) cw tc) (he:∀C s₀ H₀ ex,PE (X.blk cp.names sc C s₀ H₀ ex) cG te)
  {aa:α7} {σ:St} {H:Hp} {s:Shared} {J:It} {it:Addr} {fp:List Addr} {tn:Nat->Heap->Prop} {Q:VK} {RR:Value->Addr->Result->Shared->Prop} {E:Value->Shared->Prop}
  (I:Inv X aa σ H s) (T:Turn X.prog X.w X.K tg J fp it tn) (st:tn 0 s.heap) (dH:∀b∈fp,FpOk X aa H b)
  (hw:∃W:Nat->Nat->List V->St->Hp->Prop,(∃m,W 0 m [] (cp.st σ) H)/\∀i m ys af H',W i m ys af H' ->
   ys.length<sizeLine/\((J.stop i H'/\∀D,H' D=none->Q (.ref D) (upd H' D (.lst ys)))\/(J.go i H'/\∃N:List V->St->Hp->Prop,(∀zs ai H2,N zs ai H2->∃m',m'<m/\W (i+1) m' zs ai H2)/\∀x H2,J.yld i H' x H2->g x af H2 fun ai H3=>tc ai H3 fun b H4=>
    if b=true then te ai H4 fun v H5=>N (ys++[v]) ai H5 else N ys ai H4)))
  (hR:∀D C s' H' (m:Str->α5),Inv X aa σ H' s'->Q (.ref D) H'->s'.heap.Ns C m->H' C=none->C≠X.env.locals->X.s₀.heap.objs.size<=C->(∀x c,X.env.cells.lookup x=some c->c≠C)->(∀p∈X.pn++aa,p.1≠C)->RR (.ref D) C (.ok .next) s'):
  wpAny (model X.prog X.w) X.A (newList []) (fun ah aV=>wpAny (model X.prog X.w) X.A (newFunctionEnv sc X.env.globals (clOf X.env sc.names []) [] X.env.qual none .none (some X.env)) (fun eF iw=>
   codeAny (model X.prog X.w) X.A (.compStart (.ListComp cG [⟨tg,iter,cw,0⟩] sc pos) 0 (.ref it) ah {eF with scope:=relabel sc X.env}) (RR ah eF.locals) iw) E aV) E s:=by
 obtain⟨W,⟨m0,w0⟩,ar⟩:=hw;refine qk_ (wpAny_newFunctionEnv S.nocell (by intro y hy;simp at hy) (fun h₁ bH cx=>?_) S.kind);dsimp only at bH cx ⊢;generalize ix:s.heap.push {cls:=.type "list",dict:=none,data:=.seq ([]:List Value).toArray}=H2 at bH cx ⊢;have hC:H2.objs.size=s.heap.objs.size+1:=by rw[<-ix,j9_]
 have gL:s.heap.objs.size≠H2.objs.size:=by rw[hC];exact jE_ (q0_ _)
 have br:s.heap.objs.size<=H2.objs.size:=by rw[hC];exact zN_ _
 have below:∀b,b<s.heap.objs.size->b≠H2.objs.size:=fun b hb=>by rw[hC];exact jE_ (qS_ hb)
 have old:∀b o,s.heap.get? b=some o->h₁.get? b=some o:=fun b o e=>cx.extBut b o (below b (jk_ e)) (jg_ _ (ix ▸ jg_ _ e));have bT:h₁.get? s.heap.objs.size=some {cls:=.type "list",data:=.seq ([]:List Value).toArray 0}:=cx.extBut _ _ gL (jg_ _ (ix ▸ jr_ _ rfl));have bI:tn 0 h₁:=T.keep 0 _ _ st fun b _ o e=>old b o e;have bq:∀b∈fp,∃o,s.heap.get? b=some o:=fun b hb=>let ⟨o,e,_⟩:=T.obj 0 _ st b hb;⟨o,e⟩;have J0:Inv (X.blk cp.names sc H2.objs.size s H fp) [] (cp.st σ) H {s with heap:=h₁,toks:=s.toks+([]:List (Str×Value)).length}:=Q0 I S fS br dH bq rfl rfl old bH;have gM:∀b,s.heap.objs.size<=b->b∉frs X.stack:=fun b hb z=>by
  rcases jD_.mp (I.stkSub b z) with e|e
  ·exact absurd (js_ I.lt (by rw[<-e];exact hb)) (jY_ _)
  ·exact I.nofs hb e
 have cN:∀b,s.heap.objs.size<=b->∀x c,X.env.cells.lookup x=some c->c≠b:=fun b hb x c e z=>by
  obtain⟨v,q⟩:=I.cell x c e;exact absurd (js_ q.lt (by rw[z];exact hb)) (jY_ _)
 have jN:∀{aE:α7} {H':Hp},(∀b∈fp,H' b=none)->(∀p∈aE,p.1∉fp)->∀b∈fp,FpOk (X.blk cp.names sc H2.objs.size s H fp) aE H' b:=fun {aE H'} hn hp b hb=>by
  obtain⟨o,e⟩:=bq b hb;refine⟨hn b hb,below b (jk_ e),fun z=>?_,.inl hb,fun x c h=>(dH b hb).2.2.2.2.1 x c (B9 I S h),fun p jO z=>?_⟩
  ·rcases jD_.mp (I.stkSub b z) with e|e
   ·exact (dH b hb).2.1 e
   ·exact (dH b hb).2.2.1 e
  ·have iy:p∈aE:=by simpa using jO
   exact hp p iy (by rw[z];exact hb)
 have loop:∀aV:Shared,aV={s with heap:=h₁,toks:=s.toks+([]:List (Str×Value)).length} ->
   codeAny (model X.prog X.w) X.A (.compLoop (.ListComp cG [⟨tg,iter,cw,0⟩] sc pos) 0 (.ref it) (.ref s.heap.objs.size) (compEnvC sc (clOf X.env sc.names []) H2.objs.size X.env))
    (RR (.ref s.heap.objs.size) H2.objs.size) aV:=by
  rintro aV rfl;refine Jq (fun n s'=>∃i af H' ys its k,Inv (X.blk cp.names sc H2.objs.size s H fp) [] af H' s'/\tn i s'.heap/\(∀b∈fp,H' b=none)/\H' s.heap.objs.size=none /\
   s'.heap.get? s.heap.objs.size=some {cls:=.type "list",data:=.seq its.toArray k}/\Vals ys its/\W i n ys af H') ?_ m0
   ⟨0,_,H,[],[],0,J0,bI,fun b hb=>(dH b hb).1,I.hok.fresh (jf_ _),bT,.nil,w0⟩
  rintro n s3 ⟨i,bf,H3,ys,its,k,I3,gJ,jf,lV,e3,rv,w3⟩;obtain⟨hz,tr⟩:=ar i n ys bf H3 w3;have ak:=rv.length
  -- dY accumulator stands still while anything else runs
  have eG:∀p ∈ [(s.heap.objs.size,({cls:=.type "list",data:=.seq its.toArray k}:Obj))],p.1∉fp:=fun p hp z=>by
   have e:p=_:=ji_.mp hp;subst e;obtain⟨o,e⟩:=bq _ z;exact absurd (jk_ e) (jY_ _)
  have jP:Inv (X.blk cp.names sc H2.objs.size s H fp) [(s.heap.objs.size,({cls:=.type "list",data:=.seq its.toArray k}:Obj))] bf H3 s3:=I3.pins_of fun p hp=>by
   have e:p=_:=ji_.mp hp;subst e;exact⟨e3,lV,gL,gM _ (jf_ _),fun v z=>by cases z⟩
  have ck:∀b∈fp,FpOk (X.blk cp.names sc H2.objs.size s H fp) [(s.heap.objs.size,({cls:=.type "list",data:=.seq its.toArray k}:Obj))] H3 b:=jN jf eG;rcases tr with ⟨stop,qn⟩|⟨go,N,hN,step⟩
  ·refine thn (T.done (X.blk cp.names sc H2.objs.size s H fp) rfl rfl rfl hc i _ s3 bf H3 _ jP ck gJ stop) fun r s4 ⟨hr,I4⟩=>?_;subst hr;obtain⟨e4,n4,_⟩:=I4.pin (s.heap.objs.size,({cls:=.type "list",data:=.seq its.toArray k}:Obj)) (by simp);have new:AY X.prog X.w (upd H3 s.heap.objs.size (.lst ys)) s4.heap s.heap.objs.size (.lst ys):=⟨x0_ hz,its,k,rv,e4⟩;obtain⟨mC,lW,_⟩:=I4.loc;have lX:Inv (X.blk cp.names sc H2.objs.size s H fp) [] bf H3 s4:=I4.pins_of fun p hp=>by cases hp
   have I5:=VU I lX dH (jf_ _) n4 new;refine hR _ _ s4 _ mC I5 (qn _ n4) lW ?_ (qe_ (js_ I.lt br)) (j6_ I.sz br) (cN _ br) fun p hp z=>?_
   ·rw[Aj (qn_ gL)];exact I4.free
   ·exact absurd (js_ (jk_ (I.pin p hp).1) (by rw[z];exact br)) (jY_ _)
  ·refine thn (T.item (X.blk cp.names sc H2.objs.size s H fp) rfl rfl rfl hc i _ s3 bf H3 _ jP ck gJ go) fun r s4 ⟨u,hr,h4⟩=>?_;subst hr;refine thn h4 fun _ s5 ⟨x,H5,I5,r5,y5,dF,jI⟩=>?_;have jJ:=I5.pinned (jN jI eG) (T.obj _ _ dF);have fin:∀{cJ:St} {H7:Hp} {s7:Shared},Inv (X.blk cp.names sc H2.objs.size s H fp) ([(s.heap.objs.size,({cls:=.type "list",data:=.seq its.toArray k}:Obj))]++LF fp s5.heap) cJ H7 s7 ->
     s7.heap.get? s.heap.objs.size=some {cls:=.type "list",data:=.seq its.toArray k}/\H7 s.heap.objs.size=none/\(∀b∈fp,H7 b=none)/\∀b∈fp,∀o,s5.heap.get? b=some o->s7.heap.get? b=some o:=fun {cJ H7 s7} I7=>by
    obtain⟨e7,n7,_⟩:=I7.pin (s.heap.objs.size,({cls:=.type "list",data:=.seq its.toArray k}:Obj)) (by simp);refine⟨e7,n7,fun b hb=>?_,fun b hb o e=>?_⟩
    ·obtain⟨o,e,_⟩:=T.obj _ _ dF b hb;exact (I7.pin (b,o) (jS_ _ (jS_ _ (Ds hb e)))).2.1
    ·exact (I7.pin (b,o) (jS_ _ (jS_ _ (Ds hb e)))).1
   refine qQ_ (hg _ _ _ _ _ s5 bf H5 x u _ jJ r5 (step x H5 y5)) (fun _ s6 ⟨c6,H6,I6,q6⟩=>?_) fun _ _ z=>nN z;refine qQ_ (hf _ _ _ _ _ s6 c6 H6 _ I6 q6) (fun ok s7 ⟨H7,I7,q7⟩=>?_) fun _ _ z=>nN z;cases ok with
   |false=>
    rw[if_neg jo_];rw[if_neg jo_]at q7;obtain⟨m',hm,w7⟩:=hN _ _ _ q7;obtain⟨e7,n7,lY,k7⟩:=fin I7;exact⟨m',hm,i+1,c6,H7,ys,its,k,I7.pins_of (fun p hp=>by cases hp),T.keep _ _ _ dF k7,lY,n7,e7,rv,w7⟩
   |true=>
    rw[if_pos rfl];rw[if_pos rfl]at q7;refine qQ_ (he _ _ _ _ _ s7 c6 H7 _ I7 q7) (fun v s8 ⟨y,H8,I8,r8,q8⟩=>?_) fun _ _ z=>nN z;obtain⟨m',hm,w8⟩:=hN _ _ _ q8;obtain⟨e8,n8,lZ,k8⟩:=fin I8;refine zo_ F.slot_list_append ⟨_,e8,rfl⟩ F.entry_list_append (zG_ _ _) (zX_ s.heap.objs.size its.toArray k v (by rw[jl_];lia)) ⟨e8,?_⟩;obtain⟨k',q⟩:∃k',(s8.heap.update s.heap.objs.size (Obj.mapSeq fun x=>x.push v)).get? s.heap.objs.size=some {cls:=.type "list",data:=.seq (its++[v]).toArray k' }:=⟨_,by
     have q:=oC e8 fun x=>x.push v;have e:(its++[v]).toArray=its.toArray.push v:=by simp
     rw[e];exact q⟩
    have I8':Inv (X.blk cp.names sc H2.objs.size s H fp) [] c6 H8 s8:=I8.pins_of fun p hp=>by cases hp
    have I9:Inv (X.blk cp.names sc H2.objs.size s H fp) [] c6 H8 {s8 with heap:=s8.heap.update s.heap.objs.size (Obj.mapSeq fun x=>x.push v),toks:=s8.toks}:=
     I8'.turned (it:=s.heap.objs.size) (fun b o hb e=>(qo_ _ _ (qn_ hb)).trans e) n8 gL (.inr (jf_ _)) (fun x c e=>cN _ (jf_ _) x c (B9 I S e)) (fun p hp=>by cases hp)
    refine⟨m',hm,i+1,c6,H8,ys++[y],its++[v],k',I9,T.keep (i+1) s5.heap _ dF (fun b hb o e=>?_),lZ,n8,q,rv.append (.cons r8 .nil),w8⟩
    ·refine (qo_ _ _ ?_).trans (k8 b hb o e);intro z;obtain⟨ob,eb⟩:=bq b hb;exact absurd (jk_ eb) (by rw[<-z];exact jY_ _)
 exact codeAny_compStart_list (loop _ rfl) (T.self _ 0 _ _ _ bI (loop _ rfl))
def BN (hc:X.calm=true)(S:BlkSc X sc)(fS:Dy X.N sc cp)(hi:PI X tg iter wi)
  (hg:∀C s₀ H₀ ex,PG (X.blk cp.names sc C s₀ H₀ ex) tg g) (hf:∀C s₀ H₀ ex,PF (X.blk cp.names sc C s₀ H₀ ex) cw tc) (he:∀C s₀ H₀ ex,PE (X.blk cp.names sc C s₀ H₀ ex) cG te)
  (hs:∀x,foldedSetIterable iter X.env x=pure x:=by intro _;rfl):PE X (.ListComp cG [⟨tg,iter,cw,0⟩] sc pos) (S8 wi cp g tc te):=by
 intro aa s σ H Q I h;rw[eval_ListComp];refine x2_ (use:=none) rfl hs (IP (Kz I S)) S.kind S.loc (thn (hi aa s σ H _ I h) fun xv s₁ h₁=>thn h₁ fun jH aY cq=>?_);obtain⟨it,fp,tn,J,H2,e,I2,T,fL,f2,hw⟩:=cq;subst e;refine Nd (RR:=fun ah C=>compPost (model X.prog X.w) X.A X.xe none (EP X aa σ Q) ah C) hc S fS hg hf he I2 T fL f2 hw ?_;intro D C s' H' m I' q hn hC hL hz bh hp;exact⟨m,hn,fun h' gN=>⟨.ref D,H',I'.turned (t':=s'.toks) (it:=C) (fun b o hb e=>gN.extBut b o hb e) hC hL (.inr hz) bh hp,rfl,q⟩⟩
def IQ (hN:X.N.Nodup)(hi:X.N[i]?=some x)(hx:X.env.scope.names.lookup x=some .local)(hc:X.calm=true)(S:BlkSc X sc)(fS:Dy X.N sc cp)(aM:PI X tg iter wi)
  (hg:∀C s₀ H₀ ex,PG (X.blk cp.names sc C s₀ H₀ ex) tg g) (hf:∀C s₀ H₀ ex,PF (X.blk cp.names sc C s₀ H₀ ex) cw tc) (he:∀C s₀ H₀ ex,PE (X.blk cp.names sc C s₀ H₀ ex) cG te)
  (hsw:swapsWith (.ListComp cG [⟨tg,iter,cw,0⟩] sc pos) (some (.Name x px)) spos.line X.env=pure true:=by rfl)
  (hs:∀x,foldedSetIterable iter X.env x=pure x:=by intro _;rfl):PS X (.Assign [.Name x px] (.ListComp cG [⟨tg,iter,cw,0⟩] sc pos) spos) (tAsg (S8 wi cp g tc te) (IJ i)):=by
 intro aa s σ H D I h;rw[exec_Assign_Name_used _ _ _ _ hsw];refine jd_ (wpAny_standAt (jd_ ?_));show wpAny _ X.A (do let _ <- comprehension (.ListComp cG [⟨tg,iter,cw,0⟩] sc pos) sc X.env _ (newList []) false (eval iter X.env) (some (assign (.Name x px) X.env))) _ _ s;refine jd_ (qQ_ (x2_ (use:=some (assign (.Name x px) X.env)) (Q:=fun _ s'=>SP X aa D .next s') rfl hs (IP (Kz I S)) S.kind S.loc
  (thn (aM aa s σ H _ I h) fun xv s₁ h₁=>thn h₁ fun jH aY cq=>?_)) (fun _ s' hq=>jm_ (jm_ hq)) fun _ _ e=>e)
 obtain⟨it,fp,tn,J,H2,e,I2,T,fL,f2,hw⟩:=cq;subst e;refine Nd (RR:=fun ah C=>compPost (model X.prog X.w) X.A X.xe (some (assign (.Name x px) X.env)) (fun _ s'=>SP X aa D .next s') ah C) (Q:=fun v H1=>IJ i v σ H1 D.nx) hc S fS hg hf he I2 T fL f2 hw ?_;intro Dl C s' H' m I' q hn hC hL hz bh hp;show wpAny _ X.A (assign (.Name x px) X.env (.ref Dl)) _ _ _;refine wpAny_assign_Name (MU I' hN hi (.inl hx) (v:=.ref Dl) rfl (fun ip I'' ⟨a,hsb,ha⟩=>?_) (.inr hx));have aC:C≠a:=by
  rcases ha with rfl|ha
  ·exact hL
  ·exact fun z=>bh _ _ ha z.symm
 refine⟨m,hn.sameBut hsb aC,fun h' gN=>⟨_,H',I''.turned (t':=ip.toks) (it:=C) (fun b o hb e=>gN.extBut b o hb e) hC hL (.inr hz) bh hp,q⟩⟩
end
def Q1 {K:α3}{a:Addr}{xs:List V}{g:TG}{tc:TT}{te:TE}{Q:VK}{σ:St}{H:Hp}(Pv:Nat->List V->St->Hp->Prop)(h0:Pv 0 [] σ H)(hz:xs.length<sizeLine)
  (hl:∀i ys σ H,i<=xs.length->Pv i ys σ H->SqL K H a xs/\ys.length<=i)
  (hs:∀i x ys σ H,xs[i]?=some x->Pv i ys σ H->g x σ H fun ai H2=>tc ai H2 fun b H3=>if b=true then te ai H3 fun v H4=>Pv (i+1) (ys++[v]) ai H4 else Pv (i+1) ys ai H3)
  (hd:∀ys σ H,Pv xs.length ys σ H->∀D,H D=none->Q (.ref D) (upd H D (.lst ys))):
  ∃W:Nat->Nat->List V->St->Hp->Prop,(∃m,W 0 m [] σ H)/\∀i m ys af H',W i m ys af H' ->
   ys.length<sizeLine/\(((Itl K a).stop i H'/\∀D,H' D=none->Q (.ref D) (upd H' D (.lst ys)))\/((Itl K a).go i H'/\∃N:List V->St->Hp->Prop,(∀zs ai H2,N zs ai H2->∃m',m'<m/\W (i+1) m' zs ai H2)/\∀x H2,(Itl K a).yld i H' x H2->g x af H2 fun ai H3=>tc ai H3 fun b H4=>
    if b=true then te ai H4 fun v H5=>N (ys++[v]) ai H5 else N ys ai H4)):=by
 refine⟨fun i m ys σ H=>m=xs.length-i/\i<=xs.length/\Pv i ys σ H,⟨xs.length,by simp,j3_ _,h0⟩,?_⟩;rintro i m ys σ H ⟨rfl,hi,p⟩;obtain⟨q,ly⟩:=hl i ys σ H hi p;refine⟨by lia,?_⟩;by_cases aF:i<xs.length
 ·refine .inr ⟨⟨xs,xs[i],q,by simp[aF]⟩,Pv (i+1),fun zs af H' p'=>⟨xs.length-(i+1),by lia,rfl,aF,p'⟩,fun x H' y=>?_⟩;obtain⟨e,y⟩:=y;subst e;exact hs i x ys σ _ (y xs q) p
 ·have e:i=xs.length:=by lia
  subst e;exact .inl ⟨⟨xs,q,jf_ _⟩,hd ys σ H p⟩
def S9 {K:α3}{a:Addr}{xs:List V}{g:TG}{tc:TT}{te:TE}{Q:VK}{σ:St}{H:Hp}(Pv:Nat->List V->St->Hp->Prop)(h0:Pv 0 [] σ H)(hz:xs.length<sizeLine)
  (hl:∀i ys σ H,i<=xs.length->Pv i ys σ H->SqT K H a xs/\ys.length<=i)
  (hs:∀i x ys σ H,xs[i]?=some x->Pv i ys σ H->g x σ H fun ai H2=>tc ai H2 fun b H3=>if b=true then te ai H3 fun v H4=>Pv (i+1) (ys++[v]) ai H4 else Pv (i+1) ys ai H3)
  (hd:∀ys σ H,Pv xs.length ys σ H->∀D,H D=none->Q (.ref D) (upd H D (.lst ys))):
  ∃W:Nat->Nat->List V->St->Hp->Prop,(∃m,W 0 m [] σ H)/\∀i m ys af H',W i m ys af H' ->
   ys.length<sizeLine/\(((Itt K a).stop i H'/\∀D,H' D=none->Q (.ref D) (upd H' D (.lst ys)))\/((Itt K a).go i H'/\∃N:List V->St->Hp->Prop,(∀zs ai H2,N zs ai H2->∃m',m'<m/\W (i+1) m' zs ai H2)/\∀x H2,(Itt K a).yld i H' x H2->g x af H2 fun ai H3=>tc ai H3 fun b H4=>
    if b=true then te ai H4 fun v H5=>N (ys++[v]) ai H5 else N ys ai H4)):=by
 refine⟨fun i m ys σ H=>m=xs.length-i/\i<=xs.length/\Pv i ys σ H,⟨xs.length,by simp,j3_ _,h0⟩,?_⟩;rintro i m ys σ H ⟨rfl,hi,p⟩;obtain⟨q,ly⟩:=hl i ys σ H hi p;refine⟨by lia,?_⟩;by_cases aF:i<xs.length
 ·refine .inr ⟨⟨xs,xs[i],q,by simp[aF]⟩,Pv (i+1),fun zs af H' p'=>⟨xs.length-(i+1),by lia,rfl,aF,p'⟩,fun x H' y=>?_⟩;obtain⟨e,y⟩:=y;subst e;exact hs i x ys σ _ (y xs q) p
 ·have e:i=xs.length:=by lia
  subst e;exact .inl ⟨⟨xs,q,jf_ _⟩,hd ys σ H p⟩
def PR {lo:Int}{n:Nat}{g:TG}{tc:TT}{te:TE}{Q:VK}{σ:St}{H:Hp}(Pv:Nat->List V->St->Hp->Prop)(h0:Pv 0 [] σ H)(hz:n<sizeLine)
  (hl:∀i ys σ H,i<=n->Pv i ys σ H->ys.length<=i)
  (hs:∀i ys σ H,i<n->Pv i ys σ H->g (.int (lo+i)) σ H fun ai H2=>tc ai H2 fun b H3=>if b=true then te ai H3 fun v H4=>Pv (i+1) (ys++[v]) ai H4 else Pv (i+1) ys ai H3)
  (hd:∀ys σ H,Pv n ys σ H->∀D,H D=none->Q (.ref D) (upd H D (.lst ys))):
  ∃W:Nat->Nat->List V->St->Hp->Prop,(∃m,W 0 m [] σ H)/\∀i m ys af H',W i m ys af H' ->
   ys.length<sizeLine/\(((Itr lo n).stop i H'/\∀D,H' D=none->Q (.ref D) (upd H' D (.lst ys)))\/((Itr lo n).go i H'/\∃N:List V->St->Hp->Prop,(∀zs ai H2,N zs ai H2->∃m',m'<m/\W (i+1) m' zs ai H2)/\∀x H2,(Itr lo n).yld i H' x H2->g x af H2 fun ai H3=>tc ai H3 fun b H4=>
    if b=true then te ai H4 fun v H5=>N (ys++[v]) ai H5 else N ys ai H4)):=by
 refine⟨fun i m ys σ H=>m=n-i/\i<=n/\Pv i ys σ H,⟨n,by simp,j3_ _,h0⟩,?_⟩;rintro i m ys σ H ⟨rfl,hi,p⟩;have ly:=hl i ys σ H hi p;refine⟨by lia,?_⟩;by_cases aF:i<n
 ·refine .inr ⟨aF,Pv (i+1),fun zs af H' p'=>⟨n-(i+1),by lia,rfl,aF,p'⟩,fun x H' y=>?_⟩;obtain⟨e,y⟩:=y;subst e y;exact hs i ys σ _ aF p
 ·have e:i=n:=by lia
  subst e;exact .inl ⟨jf_ _,hd ys σ H p⟩
end L2
namespace L2
open PySem PySem.Spec PyProof.Rows
section
variable {X:Cx}
def Mc {bs:List Bool}{its:List Value}(r:Vals (bs.map V.bl) its){i:Nat}{v:Value}(h:its[i]?=some v):∃b,bs[i]?=some b/\v=.bool b:=by
 have hi:i<its.length:=(je_.mp h).1;have hl:=r.length;rw[ja_]at hl;obtain⟨u,hu,ru⟩:=r.get (i:=i) (x:=V.bl bs[i]) (by rw[jh_];simp[show i<bs.length by lia]);rw[h]at hu;cases hu;exact⟨bs[i],by simp[show i<bs.length by lia],ru⟩
def Xl (bs:List Bool):(nJ bs.length).map (fun i=>bs.getD i false)=bs:=
 q7_ (by simp) fun i _ h=>by simp[h]
def range_all {bs:List Bool}:(nJ bs.length).all (fun i=>bs.getD i false)=bs.all id:=by
 have e:=qY_ (fun l=>l.all id) (Xl bs);rw[p4]at e;exact e
def N6 {bs:List Bool}{its:List Value}{A:Around}{P:Program}{w:World}(r:Vals (bs.map V.bl) its):TruthOf P w A (fun i v=>its.toArray[i]?=some v) (fun i=>bs.getD i false):=by
 intro i v s Q E hv hq;obtain⟨b,hb,e⟩:=Mc r (by simpa using hv);subst e;refine xi_ ?_;have e:bs.getD i false=b:=by rw[jb_,hb];rfl
 have c7:Q (bs.getD i false) s:=hq;rw[e]at c7;exact c7
def Ta (hc:X.calm=true):Em X (.builtin "all") (fun xs H Q=>∃(p:Addr) (bs:List Bool),xs=[.ref p]/\SqL X.K H p (bs.map V.bl)/\Q (.bl (bs.all id)) H):=by
 intro aa s σ H xs us Q I r h;obtain⟨p,bs,rfl,hq,q⟩:=h;obtain⟨u,rfl,ru⟩:=vals1 r;cases ru;obtain⟨its,rv,pl,hz⟩:=I.list hq;have ak:=rv.length;rw[ja_]at ak;have hh:X.A.in1.handled=none:=I.ok.hd hc;obtain⟨o,ho,_⟩:=id pl.isList;have aC:p≠s.heap.objs.size:=jE_ (jk_ ho);refine call_all_walk (xG_ pl.isList ?_);refine⟨s.heap.objs.size,_,_,its.toArray.size,_,_,fun i=>bs.getD i false,rfl,Walks.list hh _ p aC its.toArray,⟨⟨_,jr_ _ rfl,rfl,rfl⟩,pl.isList.at fun o e=>jg_ _ e⟩,N6 rv,fun h' tk hk=>?_⟩;refine⟨.bl (bs.all id),H,I.kept (t':=tk) fun b o e=>hk b o ?_ (jg_ _ e),?_,q⟩
 ·intro hb;have e':b=s.heap.objs.size:=by simpa using hb
  exact absurd (jk_ e) (by rw[e'];exact jY_ _)
 ·rw[jl_,<-ak,range_all];rfl
def EI:Em X (.builtin "isinstance") (fun xs H Q=>∃x c cv t b,xs=[x,c]/\TyOf X.K H x t/\(∀u,RelV c u->u=cv)/\kitOne X.K t cv=some b/\Q (.bl b) H):=by
 intro aa s σ H xs us Q I r h;obtain⟨x,c,cv,t,b,rfl,ty,hc,hk,q⟩:=h;obtain⟨u,w',rfl,rx,rc⟩:=vals2 r;rw[hc _ rc];exact QJ I rx ty hk fun tk=>⟨.bl b,H,I.tok tk,rfl,q⟩
noncomputable def EqD (K:α3)(H:Hp):Nat->V->V->Bool->Prop
 |0,x,y,b=>Fo x=true/\Fo y=true/\b=eqV x y
 |n+1,x,y,b=>(Fo x=true/\Fo y=true/\b=eqV x y) \/ ∃a c xs ys,x=.ref a/\y=.ref c/\((SqL K H a xs/\SqL K H c ys)\/(SqT K H a xs/\SqT K H c ys)) /\
   ∃e:Nat->Bool,(∀i x y,xs[i]?=some x->ys[i]?=some y->EqD K H n x y (e i))/\b=(decide (xs.length=ys.length)&&(nJ (min xs.length ys.length)).all e)
def in1_units (A:Around):A.in1.units=A.units+1:=rfl
def OV (h:Fo x=true):eqV x x=true:=by
 cases x<;>first|rfl|(simp[eqV];done)|exact absurd (show false=true from h) jo_
def EqD.self (I:Inv X aa σ H s):∀(n:Nat) {x:V} {b:Bool},EqD X.K H n x x b->b=true:=by
 intro n
 induction n with
 |zero=>
  rintro x b ⟨fx,_,rfl⟩;exact OV fx
 |succ n ih=>
  rintro x b (⟨fx,_,rfl⟩|⟨a,c,xs,ys,rfl,e2,hq,e,he,rfl⟩)
  ·exact OV fx
  ·cases e2;have exy:xs=ys:=by
    rcases hq with ⟨h1,h2⟩|⟨h1,h2⟩
    ·exact I.list_inj h1 h2
    ·exact I.tuple_inj h1 h2
   subst exy;simp only[decide_true,pI,oJ,q8_,qw_];intro i hi;exact ih (he i xs[i] xs[i] (by simp[hi]) (by simp[hi]))
def Q2 : ((nJ (min n m)).all e&&n==m)=(decide (n=m)&&(nJ (min n m)).all e):=by
 rw[Bool.and_comm]
 congr 1
def EqD.at (I:Inv X aa σ H s):∀(n:Nat) (A:Around) {x y:V} {u v:Value} {b:Bool},A.units+n<cLine->RelV x u->RelV y v->EqD X.K H n x y b ->
  SeqAt.EqAt A s u v b/\∀a c,x=.ref a->y=.ref c->SeqAt.RcAt A s u v b:=by
 intro n
 induction n with
 |zero=>
  intro A x y u v b hu rx ry h;obtain⟨fx,fy,rfl⟩:=h;refine⟨QQ rx ry fx fy,?_⟩;rintro a c rfl rfl;exact absurd (show false=true from fx) jo_
 |succ n ih=>
  intro A x y u v b hu rx ry h;have hself:=h;rcases h with ⟨fx,fy,rfl⟩|⟨a,c,xs,ys,rfl,rfl,hq,e,he,rfl⟩
  ·refine⟨QQ rx ry fx fy,?_⟩;rintro a c rfl rfl;exact absurd (show false=true from fx) jo_
  ·cases rx;cases ry;have key:∀(its aH:List Value),Vals xs its->Vals ys aH->∀j (h1:j<its.toArray.size) (h2:j<aH.toArray.size),SeqAt.EqAt A.in1 s its.toArray[j] aH.toArray[j] (e j):=fun its aH r1 r2 j h1 h2=>by
    have l1:=r1.length;have l2:=r2.length;rw[jl_]at h1 h2;obtain⟨u1,g1,q1⟩:=r1.get (i:=j) (x:=xs[j]'s!"") (by simp[show j<xs.length by lia]);obtain⟨u2,g2,q2⟩:=r2.get (i:=j) (x:=ys[j]'s!"") (by simp[show j<ys.length by lia]);have k1:its.toArray[j]'(by rw[jl_];exact h1)=u1:=by
     have:=(je_.mp g1).2;simpa using this
    have k2:aH.toArray[j]'(by rw[jl_];exact h2)=u2:=by
     have:=(je_.mp g2).2;simpa using this
    rw[k1,k2];exact (ih A.in1 (by rw[in1_units];lia) q1 q2 (he j _ _ (by simp[show j<xs.length by lia]) (by simp[show j<ys.length by lia]))).1
   have rc:SeqAt.RcAt A s (.ref a) (.ref c) (decide (xs.length=ys.length)&&(nJ (min xs.length ys.length)).all e):=by
    rcases hq with ⟨h1,h2⟩|⟨h1,h2⟩
    ·obtain⟨its,r1,p1,_⟩:=I.list h1;obtain⟨aH,r2,p2,_⟩:=I.list h2;have l1:=r1.length;have l2:=r2.length;by_cases hl:xs.length=ys.length
     ·have:=SeqAt.RcAt.lists (e:=e) p1.isList p2.isList (by rw[jl_,jl_];lia) s!"" (key its aH r1 r2);rw[jl_,<-l1]at this;rw[ql_ hl,pI,<-hl,oJ];exact this
     ·rw[qv_ hl,pf];exact SeqAt.RcAt.lists_lengths p1.isList p2.isList (by rw[jl_,jl_];simp;lia) s!""
    ·obtain⟨its,r1,p1,_⟩:=I.tuple h1;obtain⟨aH,r2,p2,_⟩:=I.tuple h2;have l1:=r1.length;have l2:=r2.length;have:=SeqAt.RcAt.tuples (e:=e) (show s.heap.IsTuple a its.toArray from p1) (show s.heap.IsTuple c aH.toArray from p2) s!"" (key its aH r1 r2);rw[jl_,jl_,<-l1,<-l2,Q2]at this;exact this
   refine⟨?_,fun a' c' _ _=>rc⟩;by_cases hac:a=c
   ·subst hac;rw[EqD.self I (n+1) hself];exact SeqAt.EqAt.same _
   ·exact SeqAt.EqAt.of_refs hac rc
noncomputable def rEqD (K:α3)(n:Nat):R2:=fun x y H Q=>∃a c b,x=.ref a/\y=.ref c/\EqD K H n x y b/\Q (.bl b) H
def UG (n:Nat)(hu:X.A.units+n<cLine):OpR X (compareOp .Eq) (rEqD X.K n):=by
 intro aa s σ H x y v u Q I rx ry h;obtain⟨a,c,b,ex,ey,h,q⟩:=h;exact (EqD.at I n X.A hu rx ry h).2 a c ex ey _ _ _ _ ⟨.bl b,H,I,rfl,q⟩
def EqD.flat {K:α3} (hq:(SqL K H a xs/\SqL K H c ys)\/(SqT K H a xs/\SqT K H c ys))(fx:∀x∈xs,Fo x=true)(fy:∀y∈ys,Fo y=true)(hi:∀x∈xs,∀y∈ys,eqV x y=decide (x=y))(n:Nat):
  EqD K H (n+1) (.ref a) (.ref c) (decide (xs=ys)):=by
 have base:∀m i x y,xs[i]?=some x->ys[i]?=some y->EqD K H m x y (decide (x=y)):=fun m i x y h1 h2=>by
  have m1:=jn_ h1;have m2:=jn_ h2;cases m with
  |zero=>exact⟨fx _ m1,fy _ m2,(hi _ m1 _ m2).symm⟩
  |succ m=>exact .inl ⟨fx _ m1,fy _ m2,(hi _ m1 _ m2).symm⟩
 refine .inr ⟨a,c,xs,ys,rfl,rfl,hq,fun i=>match xs[i]?,ys[i]? with|some x,some y=>decide (x=y)|_,_=>true,fun i x y h1 h2=>?_,?_⟩
 ·simp only[h1,h2];exact base n i x y h1 h2
 ·rw[qT_];simp only[qz_,jW_,q8_,qw_];constructor
  ·rintro rfl;refine⟨rfl,fun i hi=>?_⟩;have hi:i<xs.length:=by lia
   simp[hi]
  ·rintro⟨hl,h⟩;refine qF_ fun i=>?_;by_cases hi:i<xs.length
   ·have:=h i s!"";simp[hi,show i<ys.length by lia]at this;simp[hi,show i<ys.length by lia,this]
   ·rw[jF_ s!"",jF_ s!""]
end
end L2
namespace L2
open PySem PySem.Spec PyProof.Rows
noncomputable def Xm (outer:List (Str×NameKind))(sc:Scope):Bool:=
 sc.kind == .function&&sc.names.all (fun y=>y.2 != .cell&&(y.2 != .local||sc.names.lookup y.1==some .local)&&(y.2 != .free||outer.lookup y.1==some .cell||outer.lookup y.1==some .free))
def BL (h:Xm X.env.scope.names sc=true):BlkSc X sc:=by
 unfold Xm at h;rw[jW_,q8_]at h;obtain⟨h1,h2⟩:=h;refine⟨by simpa using h1,fun y hy z=>?_,fun y hy z=>?_,fun y hy z=>?_⟩
 ·have:=h2 y hy;simp only[jW_]at this;have:=this.1.1;rw[z]at this;exact absurd this (by decide)
 ·have:=h2 y hy;simp only[jW_]at this;have:=this.1.2;rw[z]at this;simpa using this
 ·have:=h2 y hy;simp only[jW_]at this;have:=this.2;rw[z]at this;have t:(X.env.scope.names.lookup y.1==some .cell||X.env.scope.names.lookup y.1==some .free)=true:=by simpa using this
  rw[oT]at t;rcases t with t|t
  ·exact .inl (by show X.env.scope.names.lookup y.1=some .cell;simpa using t)
  ·exact .inr (by show X.env.scope.names.lookup y.1=some .free;simpa using t)
section
variable {t u:TS} {te ta tb tc':TE} {tt tu:TT} {A B:TA} {D:Ends} {σ:St} {H:Hp} {Q:VK} {R:Bool->Hp->Prop} {S:List V->Hp->Prop} {i:Nat} {v:V} {g:TG} {r r':R2} {K:α3} {wi:TI} {cp:Caps}
theorem Xn:tSeq t u D σ H=t {D with nx:=u D} σ H:=rfl
theorem UH:WY D σ H=D.nx σ H:=rfl
theorem Xo:tAsg te g D σ H=te σ H fun x H1=>g x σ H1 D.nx:=rfl
theorem Q3 : IJ i v σ H N=N (σ.set i (some v)) H:=rfl
theorem Xp:tVar i σ H Q=∃v,σ[i]?=some (some v)/\Q v H:=rfl
theorem r_c:tC v σ H Q=Q v H:=rfl
theorem r_op:tOp r ta tb σ H Q=ta σ H fun x H1=>tb σ H1 fun y H2=>r x y H2 Q:=rfl
theorem r_un : tUn f ta σ H Q=ta σ H fun x H1=>f x H1 Q:=rfl
theorem r_I : rI C f x y H Q=∃i j,x=.int i/\y=.int j/\C i j/\Q (f i j) H:=rfl
theorem r_I0 : rI0 f x y H Q=∃i j,x=.int i/\y=.int j/\Q (f i j) H:=rfl
theorem r_U : rU f x H Q=∃i,x=.int i/\Q (f i) H:=rfl
theorem UI : SV sp aN E A σ H Q=A σ H fun vs H1=>sp (vs++aN) H1 Q E:=rfl
theorem UJ:W8 te A σ H S=te σ H fun x H1=>A σ H1 fun xs H2=>S (x::xs) H2:=rfl
theorem Xq:tNil σ H S=S [] H:=rfl
theorem Xr:tRet te D σ H=te σ H D.rt:=rfl
theorem UK:WZ te D σ H=te σ H fun _ H1=>D.nx σ H1:=rfl
theorem r_if:tIfS tt t u D σ H=tt σ H fun b H1=>if b=true then t D σ H1 else u D σ H1:=rfl
theorem r_B:tB te σ H R=te σ H fun x H1=>∃c,x=.bl c/\R c H1:=rfl
theorem UL:SR te σ H R=te σ H fun x H1=>∃c,x=.bl c/\R c H1:=rfl
theorem Xs:tAnd tt tu σ H R=tt σ H fun c H1=>if c=true then tu σ H1 R else R false H1:=rfl
theorem r_or:tOr tt tu σ H R=tt σ H fun c H1=>if c=true then R true H1 else tu σ H1 R:=rfl
theorem Xt:tNot tt σ H R=tt σ H fun c H1=>R (!c) H1:=rfl
theorem UM:WV ta tb σ H Q=ta σ H fun x H1=>∃c,x=.bl c/\if c=true then tb σ H1 Q else Q (.bl false) H1:=rfl
theorem Q4:Uv r r' ta tb tc' σ H Q=ta σ H fun x H1=>tb σ H1 fun y H2=>r x y H2 fun z H3=>∃k,z=.bl k/\(if k=true then tc' σ H3 fun w' H4=>r' y w' H4 Q else Q (.bl false) H3):=rfl
theorem Xu:tIf tt ta tb σ H Q=tt σ H fun c H1=>if c=true then ta σ H1 Q else tb σ H1 Q:=rfl
theorem r_CB : tCB f A σ H Q=A σ H fun vs H1=>f vs H1 Q:=rfl
theorem Xv:tLst A σ H Q=A σ H fun xs H1=>xs.length<=sizeLine/\∀p,H1 p=none->Q (.ref p) (upd H1 p (.lst xs)):=rfl
theorem Xw:tTup A σ H Q=A σ H fun xs H1=>xs.length<=sizeLine/\∀p,H1 p=none->Q (.ref p) (upd H1 p (.tup xs)):=rfl
theorem Xx : rIxL K x y H Q=∃p xs i v,x=.ref p/\y=.int i/\SqL K H p xs/\atI xs i=some v/\Q v H:=rfl
theorem Xy : rIxT K x y H Q=∃p xs i v,x=.ref p/\y=.int i/\SqT K H p xs/\atI xs i=some v/\Q v H:=rfl
theorem r_sl : tSl f te tl th σ H Q=te σ H fun x H1=>tl σ H1 fun l H2=>th σ H2 fun u H3=>f x l u H3 Q:=rfl
theorem UN : Xc te σ H U=te σ H fun x H1=>∃i,x=.int i/\U (some i) H1:=rfl
theorem OW : QN σ H U=U none H:=rfl
theorem r_BM : tBM K T f te A σ H Q=te σ H fun x H1=>tyV K T x H1/\A σ H1 fun xs H2=>f x xs H2 Q:=rfl
theorem OX : QT x vs H Q=∃l xs y,x=.ref l/\vs=[y]/\H l=some (.lst xs)/\xs.length<sizeLine/\Q .non (upd H l (.lst (xs++[y]))):=rfl
theorem r_Eq : rEq x y H Q=(scal x y=true/\Q (.bl (decide (x=y))) H):=rfl
theorem r_Ne : rNe x y H Q=(scal x y=true/\Q (.bl (!decide (x=y))) H):=rfl
theorem Xz : rEqD K n x y H Q=∃a c b,x=.ref a/\y=.ref c/\EqD K H n x y b/\Q (.bl b) H:=rfl
theorem Q5 : W4 K te σ H Z=te σ H fun x H1=>∃a,x=.ref a/\(∃xs,SqL K H1 a xs)/\Z (Itl K a) H1:=rfl
theorem UO : iTup K te σ H Z=te σ H fun x H1=>∃a,x=.ref a/\(∃xs,SqT K H1 a xs)/\Z (Itt K a) H1:=rfl
theorem Q6 : W5 A σ H Z=A σ H fun vs H1=>∃j:Int,vs=[.int j] /\ -(2 ^ 62)<=j/\j<2 ^ 62/\Z (Itr 0 j.toNat) H1:=rfl
theorem XA : tAug i te ti D σ H=∃x,σ[i]?=some (some x)/\te σ H fun y H1=>ti x y H1 fun z H2=>D.nx (σ.set i (some z)) H2:=rfl
theorem r_ip : ipI f x y H Q=∃i j,x=.int i/\y=.int j/\Q (.int (f i j)) H:=rfl
theorem Q7:Mb σ H R=R true H:=rfl
end
def Same.new (h:H p=none):Same H (upd H p o):=fun b u e=>by rw[Aj (AL e h)];exact e
def Same.newT (s:Same H H')(h:H' p=none):Same H (upd H' p o):=s.trans (Same.new h)
def Same.over (s:Same H H')(h:H p=none):Same H (upd H' p o):=fun b u e=>by rw[Aj (AL e h)];exact s b u e
def N7 (h:upd H p o D=none):H D=none/\D≠p:=by
 by_cases e:D=p
 ·subst e;rw[Ab]at h;cases h
 ·rw[Aj e]at h;exact⟨h,e⟩
def Same.seqT {K:α3} (e:Same H H')(h:SqT K H a xs):SqT K H' a xs:=by
 rcases h with (h|⟨o,h⟩)|h
 ·exact .inl (.inl (e _ _ h))
 ·exact .inl (.inr ⟨o,e _ _ h⟩)
 ·exact .inr h
def hu9 (hr:Room k A):A.units+8<cLine:=by have:=hr.units;lia
section
variable {K:α3} {wi:TI} {cp:Caps} {g:TG} {tc:TT} {te:TE} {σ:St} {H:Hp} {Q:VK}
theorem XB : (cxOf CX P w K mg base N qual scope f cd A outer s H E).K=K:=rfl
noncomputable def Hz (J:It)(cp:Caps)(g:TG)(tc:TT)(te:TE)(σ:St)(H1:Hp)(Q:VK):Prop:=∃W:Nat->Nat->List V->St->Hp->Prop,(∃m,W 0 m [] (cp.st σ) H1)/\∀i m ys af H',W i m ys af H' ->
 ys.length<sizeLine/\((J.stop i H'/\∀D,H' D=none->Q (.ref D) (upd H' D (.lst ys)))\/(J.go i H'/\∃N:List V->St->Hp->Prop,(∀zs ai H2,N zs ai H2->∃m',m'<m/\W (i+1) m' zs ai H2)/\∀x H2,J.yld i H' x H2->g x af H2 fun ai H3=>tc ai H3 fun b H4=>
  if b=true then te ai H4 fun v H5=>N (ys++[v]) ai H5 else N ys ai H4))
theorem UP:S8 wi cp g tc te σ H Q=wi σ H fun J H1=>Hz J cp g tc te σ H1 Q:=rfl
noncomputable def ForW (J:It)(g:TG)(tb:TS)(D:Ends)(σ:St)(H1:Hp):Prop:=∃W:Nat->Nat->St->Hp->Prop,(∃m,W 0 m σ H1)/\∀i m σ H,W i m σ H ->
 (J.stop i H/\D.nx σ H)\/(J.go i H/\∃N:St->Hp->Prop,(∀af H',N af H'->∃m',m'<m/\W (i+1) m' af H')/\∀x H',J.yld i H x H'->g x σ H' fun ai H2=>tb {D with nx:=N,ct:=N,bk:=D.nx} ai H2)
theorem XC : tFor wi g tb D σ H=wi σ H fun J H1=>ForW J g tb D σ H1:=rfl
def forL (Pv:Nat->St->Hp->Prop)(h0:Pv 0 σ H)(hl:∀i σ H,i<=xs.length->Pv i σ H->SqL K H a xs)
  (hs:∀i x σ H,xs[i]?=some x->Pv i σ H->g x σ H fun ai H2=>tb {D with nx:=Pv (i+1),ct:=Pv (i+1),bk:=D.nx} ai H2) (hd:∀σ H,Pv xs.length σ H->D.nx σ H):ForW (Itl K a) g tb D σ H:=SN Pv h0 hl hs hd
def forT (Pv:Nat->St->Hp->Prop)(h0:Pv 0 σ H)(hl:∀i σ H,i<=xs.length->Pv i σ H->SqT K H a xs)
  (hs:∀i x σ H,xs[i]?=some x->Pv i σ H->g x σ H fun ai H2=>tb {D with nx:=Pv (i+1),ct:=Pv (i+1),bk:=D.nx} ai H2) (hd:∀σ H,Pv xs.length σ H->D.nx σ H):ForW (Itt K a) g tb D σ H:=VE Pv h0 hl hs hd
def forR {lo:Int} (Pv:Nat->St->Hp->Prop)(h0:Pv 0 σ H)
  (hs:∀i σ H,i<n->Pv i σ H->g (.int (lo+i)) σ H fun ai H2=>tb {D with nx:=Pv (i+1),ct:=Pv (i+1),bk:=D.nx} ai H2) (hd:∀σ H,Pv n σ H->D.nx σ H):ForW (Itr lo n) g tb D σ H:=Qz Pv h0 hs hd
def KA (Pv:Nat->List V->St->Hp->Prop)(h0:Pv 0 [] (cp.st σ) H)(hz:xs.length<sizeLine)
  (hl:∀i ys σ H,i<=xs.length->Pv i ys σ H->SqL K H a xs/\ys.length<=i)
  (hs:∀i x ys σ H,xs[i]?=some x->Pv i ys σ H->g x σ H fun ai H2=>tc ai H2 fun b H3=>if b=true then te ai H3 fun v H4=>Pv (i+1) (ys++[v]) ai H4 else Pv (i+1) ys ai H3)
  (hd:∀ys σ H,Pv xs.length ys σ H->∀D,H D=none->Q (.ref D) (upd H D (.lst ys))):Hz (Itl K a) cp g tc te σ H Q:=Q1 Pv h0 hz hl hs hd
def VW (Pv:Nat->List V->St->Hp->Prop)(h0:Pv 0 [] (cp.st σ) H)(hz:xs.length<sizeLine)
  (hl:∀i ys σ H,i<=xs.length->Pv i ys σ H->SqT K H a xs/\ys.length<=i)
  (hs:∀i x ys σ H,xs[i]?=some x->Pv i ys σ H->g x σ H fun ai H2=>tc ai H2 fun b H3=>if b=true then te ai H3 fun v H4=>Pv (i+1) (ys++[v]) ai H4 else Pv (i+1) ys ai H3)
  (hd:∀ys σ H,Pv xs.length ys σ H->∀D,H D=none->Q (.ref D) (upd H D (.lst ys))):Hz (Itt K a) cp g tc te σ H Q:=S9 Pv h0 hz hl hs hd
def Q8 {lo:Int} (Pv:Nat->List V->St->Hp->Prop)(h0:Pv 0 [] (cp.st σ) H)(hz:n<sizeLine)
  (hl:∀i ys σ H,i<=n->Pv i ys σ H->ys.length<=i)
  (hs:∀i ys σ H,i<n->Pv i ys σ H->g (.int (lo+i)) σ H fun ai H2=>tc ai H2 fun b H3=>if b=true then te ai H3 fun v H4=>Pv (i+1) (ys++[v]) ai H4 else Pv (i+1) ys ai H3)
  (hd:∀ys σ H,Pv n ys σ H->∀D,H D=none->Q (.ref D) (upd H D (.lst ys))):Hz (Itr lo n) cp g tc te σ H Q:=PR Pv h0 hz hl hs hd
def Md (f:V->V)(e:cp.st σ=none::af)(hl:SqT K H a xs)(hz:xs.length<sizeLine)(hs:∀x∈xs,∀R:VK,R (f x) H->te (some x::af) H R)(hd:∀D,H D=none->Q (.ref D) (upd H D (.lst (xs.map f)))):
  Hz (Itt K a) cp (IJ 0) Mb te σ H Q:=by
 refine VW (xs:=xs) (fun i ys ai H2=>H2=H/\ys=(xs.take i).map f/\∃o,ai=o::af) ⟨rfl,by simp,none,e⟩ hz (fun i ys ai H2 hi h=>?_) (fun i x ys ai H2 hx h=>?_) (fun ys ai H2 h=>?_)
 ·obtain⟨rfl,rfl,_⟩:=h;exact⟨hl,by rw[ja_,jI_];lia⟩
 ·obtain⟨rfl,rfl,o,rfl⟩:=h;refine hs x (jn_ hx) _ ⟨rfl,?_,some x,rfl⟩;rw[jQ_,hx];simp
 ·obtain⟨rfl,rfl,_⟩:=h;rw[jG_];exact hd
def Tc (f:V->V)(e:cp.st σ=none::af)(hl:SqL K H a xs)(hz:xs.length<sizeLine)(hs:∀x∈xs,∀R:VK,R (f x) H->te (some x::af) H R)(hd:∀D,H D=none->Q (.ref D) (upd H D (.lst (xs.map f)))):
  Hz (Itl K a) cp (IJ 0) Mb te σ H Q:=by
 refine KA (xs:=xs) (fun i ys ai H2=>H2=H/\ys=(xs.take i).map f/\∃o,ai=o::af) ⟨rfl,by simp,none,e⟩ hz (fun i ys ai H2 hi h=>?_) (fun i x ys ai H2 hx h=>?_) (fun ys ai H2 h=>?_)
 ·obtain⟨rfl,rfl,_⟩:=h;exact⟨hl,by rw[ja_,jI_];lia⟩
 ·obtain⟨rfl,rfl,o,rfl⟩:=h;refine hs x (jn_ hx) _ ⟨rfl,?_,some x,rfl⟩;rw[jQ_,hx];simp
 ·obtain⟨rfl,rfl,_⟩:=h;rw[jG_];exact hd
end
noncomputable def tCut (t u:TS):TS:=fun D σ H=>∃R:St->Hp->Prop,t {D with nx:=R} σ H/\∀af H',R af H'->u D af H'
def Eb {st:Stmt}{rest:List Stmt} (h1:PS X st t)(h2:PSs X rest u):PSs X (st::rest) (tCut t u):=by
 intro aa s σ H D I h;obtain⟨R,ha,hb⟩:=h;refine wpAny_execs_cons (thn (h1 aa s σ H {D with nx:=R} I ha) fun f s1 q=>?_);cases f with
 |next=>
  obtain⟨af,H',I',q⟩:=q;exact h2 aa s1 af H' D I' (hb af H' q)
 |ret v=>exact q
 |brk=>exact q
 |cont=>exact q
def Al:1000000<sizeLine:=by rw[zL_];decide
def HD {ns:α2}{x:V}(h:x∈ns.map V.int):∃n,n∈ns/\x=.int n:=by
 obtain⟨n,hn,e⟩:=jv_.mp h;exact⟨n,hn,e.symm⟩
def Kh {ns:α2}{i:Nat}{x:V}(h:(ns.map V.int)[i]?=some x):∃n,ns[i]?=some n/\x=.int n:=by
 rw[jh_]at h;cases e:ns[i]? with
 |none=>rw[e]at h;cases h
 |some n=>rw[e]at h;exact⟨n,rfl,(jt_ h).symm⟩
noncomputable def cutI (ns:α2)(lo hi:Option Int):α2:=(ns.drop (HT.sIx ns.length 0 lo)).take (HT.sIx ns.length ns.length hi-HT.sIx ns.length 0 lo)
def Td (ns:α2)(lo hi:Option Int):cutV (ns.map V.int) lo hi=(cutI ns lo hi).map V.int:=by
 unfold cutV cutI;rw[ja_,<-pJ,<-zJ_]
def XD (h0:0<=i)(h:xs[i.toNat]?=some v):atI xs i=some v:=by
 have:=EH h
 rwa [show ((i.toNat:Nat):Int)=i by lia]at this
def XE : ∀u,RelV (V.ty n) u->u=.type n:=fun _ h=>h
def KC : ∀u,RelV (V.ref a) u->u=.ref a:=fun _ h=>h
end L2
namespace L2
open PySem PySem.W PySem.Spec PySem.Calls PyProof.Rows
section
variable {prog:Program} {w:World} {A:Around} {E:Value->Shared->Prop} {s:Shared} {K:Frag} {x D:Addr} {ox:Obj}
structure ExcCls (K:Frag)(D:Addr):Prop where
 ga:findIn K (.ref D) "__getattribute__"=some (some (.builtin "BaseException.__getattribute__"))
 hk:findIn K (.ref D) "__getattr__"=some none
 cl:(clsIn K D).isSome=true
 ca:findIn K (.ref D) "__class__"=some (some (.builtin "object.__class__"))
 gs:specialIn K (.builtin "object.__class__") "__get__"=some (some (.builtin "getset_descriptor.__get__"))
 tk:takesIn K (.builtin "object.__class__")=some true
 mo:mroIn K D (.type "object")=some true
 mb:mroIn K D (.type "BaseException")=some true
noncomputable def ExcAt (x D:Addr)(h:Heap):Prop:=∃ox,h.get? x=some ox/\ox.cls=.ref D
def ExcAt.type (I:ExcAt x D h):Looks M h (typeOf (.ref x)) (.ref D):=by
 obtain⟨ox,h1,h2⟩:=I;exact h2 ▸ (Looks.ld h1).andThen .now
def Te (X:K.In h)(C:ExcCls K D):Looks M h (Builtin.ObjectAttr.find (.ref x) (.ref D) "__class__") (.bind (.builtin "getset_descriptor.__get__") (.builtin "object.__class__")):=
 (looks_findIn X C.ca).andThen ((show Looks M h (Builtin.ObjectAttr.getOf (some (.builtin "object.__class__"))) _ from looks_specialIn X C.gs).andThen
  ((show Looks M h (Builtin.ObjectAttr.dataDescriptor? (some (.builtin "object.__class__")) (some (.builtin "getset_descriptor.__get__"))) (some (.builtin "getset_descriptor.__get__",.builtin "object.__class__")) from (looks_takesIn X C.tk).andThen .now).andThen (Looks.tag .now)))
open Builtin Builtin.ObjectAttr Builtin.Getset_descriptor in
def VX {R:Result->Shared->Prop}{tp:Value}(X:K.In s.heap)(I:ExcAt x D s.heap)(hm:mroIn K D (.type "object")=some true)(h:R (.ok (.ret (.ref D))) s):codeAny (model prog w) A (.call (.builtin "getset_descriptor.__get__") ⟨[.builtin "object.__class__",.ref x,tp],[]⟩) R s:=by
 have l0:=I.type (M:=model prog w);have l1:=looks_mroIn (M:=model prog w) X hm;obtain⟨_,_,_,_,_⟩:=s;have sg:=KF.slot_gs;refine zH_ sg.plain KF.entry_gs (sg.check _ _ _ _ _ _ _ _ KF.type_class (KF.args_gs _ _ _) ?_);unfold Builtin.«getset_descriptor.__get__» descrGet;rw[dga_obj];unfold descrGetter descrCheckInstance isInstance descrNameAndClass;refine jd_ (jm_ ?_);simp only[KF.owner_class]
 repeat lk
 refine⟨Code.quiet_builtin _ (by decide +kernel),zd_ KF.entry_class ?_⟩;unfold Builtin.«object.__class__» shownTypeOf
 repeat lk
 exact h
def Q9 (X:K.In s.heap)(I:ExcAt x D s.heap)(C:ExcCls K D)(hq:Q () s):wpAny M A (checkBuiltinCall "BaseException.__getattribute__" ⟨[.ref x,nameV],[]⟩) Q E s:=by
 have a1:=F.args_bexc_ga (.ref x) nameV;have l0:=I.type (M:=M);have l1:=looks_mroIn (M:=M) X C.mb;obtain⟨_,_,_,_,_⟩:=s;simp only[checkBuiltinCall,show builtinKind "BaseException.__getattribute__"=some .slot by decide +kernel,show splitId "BaseException.__getattribute__"=some ("BaseException","__getattribute__") by decide +kernel,isInstance]
 repeat (first|lk|wp_step)
 exact hq
def Ra (X:K.In s.heap)(I:ExcAt x D s.heap)(C:ExcCls K D)(hq:Q (.done (.ret (.ref D))) s):wpAny (model prog w) A (Builtin.«object.__getattribute__» ⟨[.ref x,.str "__class__" tk],[]⟩) Q E s:=by
 obtain⟨hh,g,d,t,os⟩:=s;have L0:=I.type (M:=model prog w);have L1:=Te (M:=model prog w) (x:=x) X C;unfold Builtin.«object.__getattribute__»;refine jd_ (jm_ ?_);refine jd_ (jm_ ?_);refine jd_ (L0.at ?_);refine jd_ (L1.at ?_);show wpAny _ _ (Builtin.ObjectAttr.bindTo _ _ _ _) _ _ _;unfold Builtin.ObjectAttr.bindTo;dsimp only;refine jd_ (xc_ (wpAny_call (VX (K:=K) (s:=⟨hh,g,d,t,os⟩) X I C.mo ?_)));exact jm_ hq
def Rb (X:K.In s.heap)(I:ExcAt x D s.heap)(C:ExcCls K D)(h:Q (some (.ref D)) {s with toks:=s.toks+1}):wpAny (model prog w) A (getAttr? (.ref x) "__class__") Q E s:=by
 obtain⟨hh,g,d,t,os⟩:=s;have L0:=I.type (M:=model prog w);have L1:=looks_findIn (M:=model prog w) X C.ga;have L2:=looks_findIn (M:=model prog w) X C.hk;unfold getAttr? getAttrBy? getAttrBy;refine jd_ (wpAny_mkText (jd_ (ze_ (xc_ (jd_ (L0.at (jd_ (L1.at ?_))))))));show wpAny _ _ (getAttrByItsOwn _ _ _ _ _ _) _ _ _;unfold getAttrByItsOwn hookBefore;refine jd_ ?_;rw[if_pos (by rfl)];refine L2.at (jd_ (ze_ (xc_ ?_)));unfold callGetattribute;rw[if_neg (by decide)];unfold boundAndCalled;have f3:=PySem.F.attr_ValueError.ga.bind (.ref x);refine jd_ (wpAny_of_eq f3 ?_);refine wpAny_call (zH_ PySem.F.attr_ValueError.ga.plain F.entry_bexc_ga (Q9 (K:=K) (s:=⟨hh,g,d,t+1,os⟩) X I C (Ra (K:=K) (s:=⟨hh,g,d,t+1,os⟩) X I C ?_)));exact jm_ (jm_ h)
def Tf (C:ExcCls K D):KitX K (.ref x) (.ref D) (ExcAt x D):=by
 have cl:=C.cl;unfold clsIn at cl;refine⟨fun _ _ _ I=>I.type,fun _ _ X _=>?_,fun h tp dd its n sl X ma=>?_,fun X I k=>Rb X I C k⟩
 ·split at cl
  ·rename_i ho
   intro A' Q' E' s' k q;exact jd_ (wpAny_loadPart (k _ _ (X _ _ ho)) (jm_ q))
  ·cases cl
 ·split at cl
  ·rename_i ho
   cases hb:(Value.ref D==Value.ref tp) with
   |false=>rfl
   |true=>
    obtain rfl:D=tp:=Value.ref.inj (xk_.mp hb);cases (X _ _ ho).symm.trans ma
  ·cases cl
end
section
variable {P:Program} {w:World}
def AY.there (x:AY P w H h a o):∃ob,h.get? a=some ob:=by
 induction o with
 |lst xs=>obtain⟨_,_,_,_,e⟩:=x;exact⟨_,e⟩
 |tup xs=>obtain⟨_,_,_,ob,e,_⟩:=x;exact⟨_,e⟩
 |dK kvs=>obtain⟨_,_,_,_,o,_,_,e,_⟩:=x;exact⟨_,e⟩
 |dT kvs=>obtain⟨_,_,_,_,o,_,_,e,_⟩:=x;exact⟨_,e⟩
 |set S n=>obtain⟨o,_,_,_,e,_⟩:=x;exact⟨_,e⟩
 |ins C dx fs=>obtain⟨_,_,_,e,_⟩:=x;exact⟨_,e⟩
 |own y=>obtain⟨_,e⟩:=x;exact⟨_,e⟩
 |xd fs=>obtain⟨_,⟨_,_,_,e,_⟩,_⟩:=x;exact⟨_,e⟩
 |rng lo hi=>obtain⟨_,_,_,e⟩:=x;exact⟨_,e⟩
 |frz ob u ih=>obtain⟨e,_⟩:=x;exact⟨_,e⟩
 |tbl ps=>exact⟨_,(show h.get? a=some _ from x)⟩
 |met f y=>exact⟨_,(show h.get? a=some _ from x)⟩
 |ext φ=>obtain⟨_,⟨_,e⟩,_⟩:=x;exact⟨_,e⟩
structure Fly (P:Program)(w:World)(fs:List Addr)(H1 H':Hp)(h1 g B:Heap):Prop where
 un:Un fs [] H1 H' h1 g
 hok:HOk P w H' g
 cov:∀b o,g.get? b=some o->(H' b≠none \/ ∃o',h1.get? b=some o')->b∉fs->B.get? b=some o
def Fly.move {H1 H':Hp}{h1 g B h2:Heap}(x:Fly P w fs H1 H' h1 g B)(frees:∀b∈fs,H' b=none)(st:B.StaysIn h2)(up:∀b∈fs,∀o,g.get? b=some o->∃sl,h2.get? b=some {o with slots:=sl}):Fly P w fs H1 H' h1 h2 B:=by
 have keep:∀b o,g.get? b=some o->(H' b≠none \/ ∃o',h1.get? b=some o')->b∉fs->h2.get? b=some o:=fun b o e h n=>st b o (x.cov b o e h n);have gM:∀b u,H' b=some u->b∉fs:=fun b u e z=>by rw[frees b z]at e;cases e
 refine⟨⟨fun b o e n hb hx=>?_,fun b o e n hb hx=>?_,fun b o e n hx=>x.un.free b o e n hx,fun b o e hx=>?_,x.un.tups,x.un.frzs,x.un.tbls⟩,fun b u e=>?_,fun b o e h n=>?_⟩
 ·exact keep b o (x.un.keep b o e n hb hx) (.inr ⟨o,e⟩) hb
 ·obtain⟨sl,e1⟩:=x.un.slot b o e n hb hx;obtain⟨jF,e2⟩:=up b hb _ e1;exact⟨jF,e2⟩
 ·obtain⟨o',e1⟩:=x.un.there b o e hx;by_cases hb:b∈fs
  ·obtain⟨jF,e2⟩:=up b hb _ e1;exact⟨_,e2⟩
  ·exact⟨o',keep b o' e1 (.inr ⟨o,e⟩) hb⟩
 ·refine (x.hok b u e).stay (fun c v hc q=>?_) (fun _ q=>q) fun _ _ q=>q;rcases hc with rfl|hc
  ·exact keep c v q (.inl (by rw[e];simp)) (gM c u e)
  ·exact keep c v q (.inl (by rw[hc];simp)) (gM c _ hc)
 ·-- B has it still
  have ⟨o1,e1⟩:∃o1,g.get? b=some o1:=by
   rcases h with h|⟨o',h⟩
   ·cases q:H' b with
    |none=>exact absurd q h
    |some u=>exact (x.hok b u q).there
   ·exact x.un.there b o' h (by simp)
  have e2:=x.cov b o1 e1 h n;have e3:=st b o1 e2;rw[e]at e3;cases e3;exact e2
noncomputable def CXe (P:Program)(w:World):CXT:=fun outer H s E e s'=>∃(ea:Addr) (cls a0:Value) (H':Hp) (B:Heap),e=.ref ea/\s'.os=s.os/\AllBare s'.gens/\Fly P w (frs outer) H H' s.heap s'.heap B/\Heap.FlyingW B outer ea cls a0 s'.heap/\E cls none H'
def KD {H1 H':Hp} {g B:Heap}(I:Inv X aa σ H1 s1)(x:Fly P w (frs X.stack) H1 H' s1.heap g B):∀b∈frs X.stack,H' b=none:=fun b hb=>by
 obtain⟨_,o,ho,_⟩:=I.stack.mem hb;exact x.un.free b o ho (I.stkFree b hb) (by simp)
def IS {K:α3} (hE:∀c d H',E' c d H'->E c d H'):
  Fx (CXe P w) (cxOf (CXe P w) P w K mg base N qual scope f cd A outer s H E) E':=by
 intro aa σ H1 s1 e s' I hc;obtain⟨ea,cls,a0,H',B,rfl,os,bare,fl,fw,q⟩:=hc;have fr:(cxOf (CXe P w) P w K mg base N qual scope f cd A outer s H E).A.frames=some (envOfC qual scope s.heap.objs.size f cd::outer):=I.ok.frames;refine wpAny_leaves_onW fr rfl fw fun h' iz ups=>?_;have fi:=fl.move (KD I fl) iz.1 (fun b hb o e=>by
  obtain⟨_,o',b6,nf⟩:=fw.2.2.1.mem hb;rw[e]at b6;cases b6;exact ups b o e nf)
 have I2:Inv (cxOf (CXe P w) P w K mg base N qual scope f cd A outer s H E) aa σ H' {s' with heap:=h' }:=I.call' (s':={s' with heap:=h' }) os fi.un fi.hok bare (fun b hb=>by cases hb);refine⟨ea,cls,a0,H',B,rfl,I2.os,I2.bare,⟨I2.base,I2.hok,fun b o e h n=>fi.cov b o e ?_ (fun z=>?_)⟩,iz,hE _ _ _ q⟩
 ·rcases h with h|⟨o',h⟩
  ·exact .inl h
  ·obtain⟨o2,e2⟩:=I.base.there b o' h (by show b∉([]:List Addr);simp);exact .inr ⟨o2,e2⟩
 ·rcases jD_.mp (I.stkSub b z) with e' | e'
  ·rcases h with h|⟨o',h⟩
   ·exact h (by rw[e'];exact I2.free)
   ·have:=jk_ h;rw[e']at this;exact absurd (js_ this I.ok.above) (jY_ _)
  ·exact n e'
def XF {K:α3}
   {H1:Hp}
  (I:Inv (cxOf (CXe P w) P w K mg base N qual scope f cd A outer s H E) aa σ H1 s1) (hx:Heap.MadeExcOf s1.heap h' ea cls vs) (q:E cls none H1):
  (cxOf (CXe P w) P w K mg base N qual scope f cd A outer s H E).xe (.ref ea) {s1 with heap:=h' }:=by
 have fr:(cxOf (CXe P w) P w K mg base N qual scope f cd A outer s H E).A.frames=some (envOfC qual scope s.heap.objs.size f cd::outer):=I.ok.frames;have bz:∀env∈(envOfC qual scope s.heap.objs.size f cd::outer),∀b,env.frame=some b->b∈frs (envOfC qual scope s.heap.objs.size f cd::outer):=fun env he b hb=>zQ_.mpr ⟨env,he,hb⟩;have stk:=I.stack;have fl:Fly P w (frs (envOfC qual scope s.heap.objs.size f cd::outer)) H1 H1 s1.heap s1.heap (oO s1.heap (frs (envOfC qual scope s.heap.objs.size f cd::outer))):=⟨Un.refl,I.hok,fun b o e _ n=>pC _ e n⟩;refine wpAny_leaves_madeW (base:=oO s1.heap (frs (envOfC qual scope s.heap.objs.size f cd::outer))) (h:=s1.heap) fr rfl (fun b o q=>pN _ q) ?_ hx fun h'' t iz ht hnt ups=>?_
 ·exact rj stk bz
 ·have fi:=fl.move (KD (X:=cxOf (CXe P w) P w K mg base N qual scope f cd A outer s H E) I fl) iz.1 (fun b hb o e=>by
   obtain⟨_,o',b6,nf⟩:=stk.mem hb;rw[e]at b6;cases b6;exact ups b o (hx.keeps b o e) nf)
  have I2:Inv (cxOf (CXe P w) P w K mg base N qual scope f cd A outer s H E) aa σ H1 {s1 with heap:=h'' }:=I.call' (s':={s1 with heap:=h'' }) rfl fi.un fi.hok I.bare (fun b hb=>by cases hb);refine⟨ea,cls,.ref t,H1,_,rfl,I2.os,I2.bare,⟨I2.base,I2.hok,fun b o e h n=>fi.cov b o e ?_ (fun z=>?_)⟩,iz,q⟩
  ·rcases h with h|⟨o',h⟩
   ·exact .inl h
   ·obtain⟨o2,e2⟩:=I.base.there b o' h (by show b∉([]:List Addr);simp);exact .inr ⟨o2,e2⟩
  ·rcases jD_.mp (I.stkSub b z) with e' | e'
   ·rcases h with h|⟨o',h⟩
    ·exact h (by rw[e'];exact I2.free)
    ·have:=jk_ h;rw[e']at this;exact absurd (js_ this I.ok.above) (jY_ _)
   ·exact n e'
end
def VY {K:Frag} (X:K.In h)(q:excIn K C bmB eI=true):
  ∃bm N nm q bs hdct sn sub ab col dd k0 k1 k2 k3 k5 mN,h.get? C=some (excClassObj nm q C N bs bm hdct sn sub ab col dd k0 k1 k2 k3 k5 eI)/\h.Ns N mN/\mN "__init__"=none/\OwnTail h bmB bm:=by
 unfold excIn at q;split at q
 case h_2=>cases q
 rename_i d0 c0 s0 hl
 split at q
 case h_2=>cases q
 rename_i B tl a0 a1 a2 a3 id0 a5 em es
 have g:=X C _ hl
 repeat rw[jW_]at q
 rcases q with ⟨⟨⟨⟨⟨e1,e2⟩,e3⟩,e4⟩,e5⟩,e6⟩;cases eq_of_beq e1;cases eq_of_beq e2;rcases s0 with ⟨l0⟩;cases es;rcases c0 with ⟨f0,f1,f2,f3,f4,f5,f6,f7,f8,f9,f10⟩;cases em;cases f10
 ·exact⟨tl,f3,f0,f4,f1,f5,f6,f7,f8,f9,d0,a0,a1,a2,a3,a5,h.nsMap f3,g,.of_isNs (isNs_of_in X e5),nsMap_none_of_in X e5 (eq_of_beq e6),tail_of_in X e4⟩
 ·cases e3
def bmV:List Value:=[.type "ValueError",.type "Exception",.type "BaseException",.type "object"]
section
variable {P:Program} {w:World} {K:α3} {mg:Str->α5} {base:Heap} {N:List Str} {qual:Str} {scope:Scope} {f:Addr} {cd:Value} {A:Around} {outer:List Env} {s:Shared} {H:Hp} {E:XK}
noncomputable def UQ (C:Addr)(E:XK)(ta:TA):TS:=fun _ σ H=>ta σ H fun vs H1=>vs.length<=sizeLine/\E (.ref C) none H1
def Gq {rest:List Expr} (hm:mg x=some (.ref C))(hx:excIn K C bmV eI=true)(hg:Gl (cxOf (CXe P w) P w K mg base N qual scope f cd A outer s H E) x)
  (hn:eI = "ValueError.__new__") (ha:PA (cxOf (CXe P w) P w K mg base N qual scope f cd A outer s H E) (iA::rest) ta)
  (he:starEach (iA::rest) (cxOf (CXe P w) P w K mg base N qual scope f cd A outer s H E).env=(false,eval iA (cxOf (CXe P w) P w K mg base N qual scope f cd A outer s H E).env)::starEach rest (cxOf (CXe P w) P w K mg base N qual scope f cd A outer s H E).env:=by rfl)
  (df:(backTo aI (starEach rest (cxOf (CXe P w) P w K mg base N qual scope f cd A outer s H E).env)).any (·.1)=false:=by rfl) (hd:(x==("__debug__" : Str))=false:=by decide):
  PS (cxOf (CXe P w) P w K mg base N qual scope f cd A outer s H E) (.Raise (some (.Call (.Name x np) (iA::rest) [] aI)) none pos) (UQ C E ta):=by
 intro aa s1 σ H1 D I h;subst hn;obtain⟨bm,Nc,nm,q,bs,hdct,sn,sub,ab,col,dd,k0,k1,k2,k3,k5,mN,hC,hN,md,T⟩:=VY I.mod.kin hx;refine wpAny_Raise_call_subU (C:=C) (nm:=nm) (q:=q) (N:=Nc) (bs:=bs) (bm:=bm) (hdct:=hdct) (sn:=sn) (sub:=sub) (ab:=ab) (col:=col) (dd:=dd) (k0:=k0) (k1:=k1) (k2:=k2) (k3:=k3) (k5:=k5)
  xK_ (bmB:=bmV) (by decide +kernel) xK_ (mN:=mN) (T.hasType xK_.hasBase) (I.ok.hd rfl) (by rw[he];show (false||(backTo aI (starEach rest _)).any (·.1))=false;rw[df];rfl) md (II I hg hm ⟨rfl,?_⟩ hd)
 have hA:=ha aI aa s1 σ H1 _ I h;rw[he]at hA ⊢;refine xM_ (thn hA fun us s2 ⟨vs,H2,I2,r2,hz,q2⟩=>⟨rfl,by rw[<-r2.length];exact hz,I2.bk _ _ hC,hN.keeps I2.bk,T.keeps I2.bk,fun h' e hm=>XF I2 hm q2⟩)
end
end L2
namespace L2
open PySem PySem.Spec PyProof.Rows
noncomputable abbrev Cx.body (X:Cx)(xe:Value->Shared->Prop)(pn:α7):Cx:={X with xe:=xe,pn:=pn}
noncomputable abbrev Cx.suite (X:Cx)(ea:Addr)(pn:α7):Cx:={X with A:=X.A.mark (some (.ref ea)),calm:=false,xe:=fun _ _=>False,pn:=pn}
section
variable {X:Cx} {aa aE:α7} {σ:St} {H:Hp} {s:Shared} {xe xe':Value->Shared->Prop} {ea:Addr}
def Inv.toBody (I:Inv X aa σ H s):Inv (X.body xe (X.pn++aa)) [] σ H s:=
 ⟨⟨I.ok.mod,I.ok.kind,I.ok.glob,I.ok.blt,I.ok.above,I.ok.inj,I.ok.has,I.ok.cab,I.ok.hd,I.ok.frames,I.ok.stk,I.ok.exf,I.ok.bs,I.ok.bsz,I.ok.noex,I.ok.exfs,I.ok.funs,I.ok.frf⟩,I.os,I.bare,I.base,I.loc,I.cell,I.free,I.freeC,fun p hp=>I.pin p (by simpa using hp),I.hok,I.len⟩
def Inv.ofBody (I:Inv (X.body xe (X.pn++aa)) aE σ H s):Inv X aa σ H s:=
 ⟨⟨I.ok.mod,I.ok.kind,I.ok.glob,I.ok.blt,I.ok.above,I.ok.inj,I.ok.has,I.ok.cab,I.ok.hd,I.ok.frames,I.ok.stk,I.ok.exf,I.ok.bs,I.ok.bsz,I.ok.noex,I.ok.exfs,I.ok.funs,I.ok.frf⟩,I.os,I.bare,I.base,I.loc,I.cell,I.free,I.freeC,fun p hp=>I.pin p (j5_ _ hp),I.hok,I.len⟩
def Inv.reBody (I:Inv (X.body xe pn) aE σ H s):Inv (X.body xe' pn) aE σ H s:=
 ⟨⟨I.ok.mod,I.ok.kind,I.ok.glob,I.ok.blt,I.ok.above,I.ok.inj,I.ok.has,I.ok.cab,I.ok.hd,I.ok.frames,I.ok.stk,I.ok.exf,I.ok.bs,I.ok.bsz,I.ok.noex,I.ok.exfs,I.ok.funs,I.ok.frf⟩,I.os,I.bare,I.base,I.loc,I.cell,I.free,I.freeC,I.pin,I.hok,I.len⟩
def Inv.toSuite (I:Inv X aa σ H s):Inv (X.suite ea (X.pn++aa)) [] σ H s:=
 ⟨⟨I.ok.mod,I.ok.kind,I.ok.glob,I.ok.blt,I.ok.above,I.ok.inj,I.ok.has,I.ok.cab,fun z=>absurd (show false=true from z) jo_,I.ok.frames,I.ok.stk,I.ok.exf,I.ok.bs,I.ok.bsz,I.ok.noex,I.ok.exfs,I.ok.funs,I.ok.frf⟩,I.os,I.bare,I.base,I.loc,I.cell,I.free,I.freeC,fun p hp=>I.pin p (by simpa using hp),I.hok,I.len⟩
def Inv.ofSuite (hd:X.calm=true->X.A.handled=none)(I:Inv (X.suite ea (X.pn++aa)) aE σ H s):Inv X aa σ H s:=
 ⟨⟨I.ok.mod,I.ok.kind,I.ok.glob,I.ok.blt,I.ok.above,I.ok.inj,I.ok.has,I.ok.cab,hd,I.ok.frames,I.ok.stk,I.ok.exf,I.ok.bs,I.ok.bsz,I.ok.noex,I.ok.exfs,I.ok.funs,I.ok.frf⟩,I.os,I.bare,I.base,I.loc,I.cell,I.free,I.freeC,fun p hp=>I.pin p (j5_ _ hp),I.hok,I.len⟩
def Inv.forget (I:Inv X aa σ H s)(hN:X.N.Nodup)(hi:X.N[i]?=some n)(hx:X.env.scope.names.lookup n=some .local)
  (hl:∀(i:Nat) (x:Str) (v:V),X.N[i]?=some x->σ[i]?=some (some v)->Vis X.env.scope x->∃u,RelV v u/\Look X.env s.heap m x u) (hn:s.heap.Ns X.env.locals m)
  (bx:h'.Ns X.env.locals (fun x=>if x=n then v else m x)) (hs:Heap.SameBut X.env.locals s.heap h'):Inv X aa (σ.set i none) H {s with heap:=h',toks:=t' }:=by
 have cne:=I.cne;obtain⟨oL,_,_,hoL,_⟩:=id hn;have aU:HOk X.prog X.w H h':=fun b ob e=>by
  refine (I.hok b ob e).stay (fun c w' hc q=>(hs.2 c ?_).trans q) (fun _ q=>q) fun _ _ q=>q;rintro rfl;rcases hc with rfl|hc
  ·rw[I.free]at e;cases e
  ·rw[I.free]at hc;cases hc
 refine⟨I.ok,I.os,I.bare,⟨fun b o e n hb hx=>?_,fun b o e n hb hx=>?_,I.base.free,fun b o e hx=>?_,I.base.tups,I.base.frzs,I.base.tbls⟩,⟨_,bx,fun j y v' e1 e2 e3=>?_⟩,fun y c e=>?_,I.free,I.freeC,fun p hp=>?_,aU,by simpa using I.len⟩
 ·exact (hs.2 b (jE_ (js_ (jk_ e) I.ok.above))).trans (I.base.keep b o e n hb hx)
 ·obtain⟨sl,e1⟩:=I.base.slot b o e n hb hx;exact⟨sl,(hs.2 b (jE_ (js_ (jk_ e) I.ok.above))).trans e1⟩
 ·obtain⟨o',e1⟩:=I.base.there b o e hx;exact⟨o',(hs.2 b (jE_ (js_ (jk_ e) I.ok.above))).trans e1⟩
 ·by_cases hj:j=i
  ·subst hj;have aF:j<σ.length:=by
    have:=(je_.mp e2).1;simpa using this
   rw[zi_ aF]at e2;cases e2
  ·rw[zF_ (qn_ hj)]at e2;obtain⟨u',r',q⟩:=hl j y v' e1 e2 e3;refine⟨u',r',?_⟩;rcases q with ⟨k,e⟩|⟨k,c,e,z⟩
   ·refine .inl ⟨k,?_⟩;have:y≠n:=fun e=>hj (L4 hN e1 (e ▸ hi));simp[this,e]
   ·exact .inr ⟨k,c,e,z.sameBut hs (cne y c e)⟩
 ·obtain⟨w',z⟩:=I.cell y c e;exact⟨w',z.sameBut hs (cne y c e)⟩
 ·obtain⟨e,n,ne,nf,d⟩:=I.pin p hp;exact⟨(hs.2 p.1 ne).trans e,n,ne,nf,d⟩
end
noncomputable def Ki (CX:CXT)(X:Cx)(σ:St)(E:XK):Prop:=∀(aa:α7) (H:Hp) (s:Shared) (e:Value) (s':Shared),Inv X aa σ H s->CX X.stack H s E e s'->X.xe e s'
section
variable {X:Cx} {CX:CXT} {k:Nat} {f C:Addr} {fd:α6} {ps:List Str} {sp:Sp} {aN:List V} {ds:List Value} {E:St->XK} {x:Str} {p pos:Pos} {e:Expr} {es:List Expr} {t:TA}
def Rc {aa:α7}{σ:St}{H:Hp}{s:Shared}{Q:VK}{us:List Value}{vs:List V}{E:XK}(F:FnOk X.prog X.w X.K X.mg X.base CX k f fd ps sp)(hr:Room k X.A)(hb:Binds X.K fd ps ds)(hd:Vals aN ds)(hx:Ki CX X σ E)
  (I:Inv X aa σ H s) (r:Vals vs us) (h:sp (vs++aN) H Q E):wpAny (model X.prog X.w) X.A (call (.ref f) us) (EP X aa σ Q) X.xe s:=by
 have r2:Vals (vs++aN) (us++ds):=r.append hd;have hl:(us++ds).length=ps.length:=by rw[<-r2.length];exact F.len _ _ _ _ h
 refine wpAny_call (zR_ (F.run X.A X.stack s H ⟨us,[]⟩ (us++ds) (vs++aN) Q E hr I.env0 (hb s us I.kIn hl) r2 h) fun r s' hq=>?_);cases r with
 |error e=>exact hx aa H s e s' I hq
 |ok fl=>
  cases fl with
  |ret u=>exact I.after hq
  |next=>exact nN hq
  |brk=>exact nN hq
  |cont=>exact nN hq
end
noncomputable def excO (ea C:Addr):HO:=.ext (ExcAt ea C)
noncomputable def Ends.un (D:Ends)(i:Nat):Ends:={nx:=fun σ H=>D.nx (σ.set i none) H,rt:=D.rt,bk:=fun σ H=>D.bk (σ.set i none) H,ct:=fun σ H=>D.ct (σ.set i none) H}
noncomputable def tTry (K:α3)(Ca:Addr)(i:Nat)(E:St->XK)(tb ts:TS):TS:=fun D σ H=>tb D σ H/\∀af cls H',E af cls none H' ->
 ∃C,cls=.ref C/\exmOne K (.ref C) (.ref Ca)=some true/\∀ea,H' ea=none->ts (D.un i) (af.set i (some (.ref ea))) (upd H' ea (excO ea C))
def Rf (hN:X.N.Nodup)(hi:X.N[i]?=some n)(hn:X.env.scope.names.lookup n=some .local)
  (hg:Gl X c) (hm:X.mg c=some (.ref Ca)) (dX:X.stack=X.env::X.outer) (hL:X.env.frame=some X.env.locals) (hex:X.ex=[])
  (hb:∀xe pn,(∀σ,Ki (CXe X.prog X.w) (X.body xe pn) σ (E σ))->PSs (X.body xe pn) body tb) (hs:∀ea pn,PSs (X.suite ea pn) (b₀::suite) ts) (hd:(c==("__debug__" : Str))=false:=by decide):
  PS X (.Try body [.ExceptHandler (some (.Name c np)) (some n) (b₀::suite) hpos] [] [] pos) (tTry X.K Ca i E tb ts):=by
 intro aa s σ H D I h;obtain⟨aR,hhand⟩:=h;have hB:=hb (fun e s'=>∃aE af H1 s1,Inv (X.body (fun _ _=>True) (X.pn++aa)) aE af H1 s1/\CXe X.prog X.w X.stack H1 s1 (E af) e s') (X.pn++aa) (fun σ aE H s e s' I' hcx=>⟨aE,σ,H,s,I'.reBody,hcx⟩) [] s σ H D I.toBody aR;refine wpAny_Try_except (qQ_ hB (fun f s1 q=>?_) fun e s1 q=>?_)
 ·cases f with
  |next=>obtain⟨b7,H1,I1,q1⟩:=q;exact x7_ ⟨b7,H1,I1.ofBody,q1⟩
  |brk=>obtain⟨b7,H1,I1,q1⟩:=q;exact⟨b7,H1,I1.ofBody,q1⟩
  |cont=>obtain⟨b7,H1,I1,q1⟩:=q;exact⟨b7,H1,I1.ofBody,q1⟩
  |ret v=>obtain⟨x1,b7,H1,I1,r1,q1⟩:=q;exact⟨x1,b7,H1,I1.ofBody,r1,q1⟩
 ·obtain⟨aE,af,H1,s2,I2,ea,cls,a0,H',B,rfl,os,bare,fl,fw,hE⟩:=q;obtain⟨C,rfl,hexm,jQ⟩:=hhand af cls H' hE;have iB:Inv X aa af H1 s2:=I2.ofBody;have fr:X.A.frames=some (X.env::X.outer):=by rw[I.ok.frames,dX]
  have frees:=KD iB fl;have fw0:=fw;rw[dX]at fw;have invAt:∀h',Heap.FlyingW B (X.env::X.outer) ea (.ref C) a0 h'->s1.heap.UpToSlots h'->Inv X aa af H' {s1 with heap:=h' }:=fun h' iz ups=>by
   have fi:=fl.move frees iz.1 (fun b hb o e=>by
    obtain⟨_,o',b6,nf⟩:=fw0.2.2.1.mem hb;rw[e]at b6;cases b6;exact ups b o e nf)
   exact iB.call' (s':={s1 with heap:=h' }) os fi.un fi.hok bare (fun b hb=>by cases hb)
  refine wpAny_looks_onW fr hL fw fun h4 held4 up4=>?_;refine wpAny_landsW held4 fun h5 me up5=>?_;have I5:=invAt h5 me (up4.trans up5);have I5m:Inv (X.suite ea (X.pn++aa)) [] af H' {s1 with heap:=h5}:=I5.toSuite;refine wpAny_handleBy_cons (codeAny_handlers_test (II (X:=X.suite ea (X.pn++aa)) I5m hg hm ?_ hd)) (by intro q;cases q);have LT:sP (model X.prog X.w) h5 (typeOf (.ref ea)) (.ref C):=by
   obtain⟨ob,gO,dw⟩:=me.there;exact dw ▸ (PySem.W.Looks.ld gO).andThen .now
  refine (sH (K:=X.K) (M:=model X.prog X.w) I5.kIn LT hexm) _ _ _ _ (fun b o e=>e) ?_;refine codeAny_handlers_suite_as ?_;refine lands_againW me fun h6 fw6 up6=>?_;have I6:=invAt h6 fw6 ((up4.trans up5).trans up6)
  -- dY exception's object is not aU yet
  have aC:H' ea=none:=by
   cases q:H' ea with
   |none=>rfl
   |some u=>
    have gM:ea∉frs X.stack:=fun z=>by rw[frees ea z]at q;cases q
    obtain⟨o,ho⟩:=(fl.hok ea u q).there;have:=fl.cov ea o ho (.inl (by rw[q];simp)) gM;rw[fw.2.1]at this;cases this
  have new:AY X.prog X.w (upd H' ea (excO ea C)) h6 ea (excO ea C):=by
   obtain⟨ob,gO,dw⟩:=fw6.there;refine⟨⟨ob,gO,dw⟩,⟨ob,gO⟩,fun g1 g2 ⟨o1,e1,c1⟩ k=>⟨o1,k o1 e1,c1⟩⟩
  have hsz:s2.heap.get? ea=none:=by
   cases q:s2.heap.get? ea with
   |none=>rfl
   |some o=>
    by_cases z:ea∈frs X.stack
    ·obtain⟨_,o',b6,nf⟩:=fw0.2.2.1.mem z;obtain⟨oe,vs,hoe,_,hdt,_⟩:=fw.first;rw[b6]at hoe;cases hoe;exact absurd hdt (nf vs)
    ·obtain⟨o',e'⟩:=fl.un.there ea o q (by simp);have:=fl.cov ea o' e' (.inr ⟨o,q⟩) z;rw[fw.2.1]at this;cases this
  have I6t:Inv X aa af (upd H' ea (excO ea C)) {s1 with heap:=h6}:=by
   refine⟨I6.ok,I6.os,I6.bare,?_,I6.loc,I6.cell,?_,fun x c e=>?_,fun p hp=>?_,I6.hok.track aC new,I6.len⟩
   ·-- newer than dY entry
    have h0:X.s₀.heap.get? ea=none:=by
     cases q:X.s₀.heap.get? ea with
     |none=>rfl
     |some o=>
      obtain⟨o',e'⟩:=iB.base.there ea o q (by rw[hex];simp);rw[hsz]at e';cases e'
    refine⟨I6.base.keep,I6.base.slot,fun b o e n hx=>?_,I6.base.there,fun b xs q=>?_,fun b ob xs q=>?_,fun b ps q=>?_⟩
    ·rw[Aj (fun z=>by rw[z,h0]at e;cases e)];exact I6.base.free b o e n hx
    ·have:=I6.base.tups b xs q;rw[Aj (AL this aC)];exact this
    ·have:=I6.base.frzs b ob xs q;rw[Aj (AL this aC)];exact this
    ·obtain⟨more,e⟩:=I6.base.tbls b ps q;exact⟨more,by rw[Aj (AL e aC)];exact e⟩
   ·rw[Aj (fun z=>?_)]
    ·exact I6.free
    ·have:=iB.lt;obtain⟨m,⟨o,_,_,ho,_⟩,_⟩:=iB.loc;rw[z,hsz]at ho;cases ho
   ·rw[Aj (fun z=>?_)]
    ·exact I6.freeC x c e
    ·obtain⟨v,o,ho,_⟩:=iB.cell x c e;rw[z,hsz]at ho;cases ho
   ·obtain⟨e,n,r⟩:=I6.pin p hp;refine⟨e,?_,r⟩;rw[Aj (fun z=>?_)]
    ·exact n
    ·have:=(iB.pin p hp).1;rw[z,hsz]at this;cases this
  have I6m:Inv (X.suite ea (X.pn++aa)) [] af (upd H' ea (excO ea C)) {s1 with heap:=h6}:=I6t.toSuite;refine Kd (X:=X.suite ea (X.pn++aa)) I6m hN hi (.inl hn) (v:=.ref ea) rfl (fun s7 I7=>?_) (.inr hn);refine qQ_ (hs ea (X.pn++aa) [] s7 _ _ (D.un i) I7 (jQ ea aC)) (fun f s8 q8=>?_) (fun _ _ z=>nN z);have bh:(X.env.scope.kind == .class||(X.env.scope.kind == .module&&X.env.locals != X.env.globals))=false:=by rw[I.ok.kind];rfl
  have fT:∀{gP:St} {H8:Hp},Inv (X.suite ea (X.pn++aa)) [] gP H8 s8->∀(R:Unit->Shared->Prop),(∀s9,Inv X aa (gP.set i none) H8 s9->R () s9) ->
    wpAny (model X.prog X.w) X.A (do bindName X.env n .none;unbindBehindTheSuite X.env n hpos) R X.xe s8:=fun {gP H8} I8 R hR=>by
   have I8':Inv X aa gP H8 s8:=I8.ofSuite I.ok.hd;obtain⟨m,jM,hl⟩:=I8'.loc;exact wpAny_nameGoes_keeps hn jM bh fun h9 v hn9 sb=>hR _ (I8'.forget hN hi hn hl jM hn9 sb)
  cases f with
  |next=>obtain⟨gP,H8,I8,q⟩:=q8;exact fT I8 _ fun s9 I9=>⟨_,H8,I9,q⟩
  |brk=>obtain⟨gP,H8,I8,q⟩:=q8;exact fT I8 _ fun s9 I9=>⟨_,H8,I9,q⟩
  |cont=>obtain⟨gP,H8,I8,q⟩:=q8;exact fT I8 _ fun s9 I9=>⟨_,H8,I9,q⟩
  |ret v=>obtain⟨x8,gP,H8,I8,r8,q⟩:=q8;exact fT I8 _ fun s9 I9=>⟨x8,_,H8,I9,r8,q⟩
def Nf : Em X (.builtin "isinstance") (fun xs H Q=>∃ea C c cv b,xs=[.ref ea,c]/\H ea=some (excO ea C)/\ExcCls X.K C/\(∀u,RelV c u->u=cv)/\kitOne X.K (.ref C) cv=some b/\Q (.bl b) H):=by
 intro aa s σ H xs us Q I r h;obtain⟨ea,C,c,cv,b,rfl,dI,hC,hc,hk,q⟩:=h;obtain⟨u,w',rfl,rx,rc⟩:=vals2 r;rw[hc _ rc];cases rx;obtain⟨p,_,_⟩:=(show AY X.prog X.w H s.heap ea (.ext (ExcAt ea C)) from I.hok ea _ dI);exact qc_ (Tf hC) I.kIn p hk (fun z=>nomatch z) fun tk=>⟨.bl b,H,I.tok tk,rfl,q⟩
end L2
namespace HT
open PySem PySem.Spec PyProof.Rows
open PySem.AutoSeq1 (wpAny_loadPart')
section
open PySem.SeqAt PySem.MeetsSeq PySem.MeetsSeq2 PySem.MeetsSeq3
def int_rmul_tup (a:Int)(t:Tok)(l:Addr)(items:Array Value)(n:Nat)(dd:Option Addr)(sl:Array (α5)):
  Meets (Builtin.«int.__rmul__» ⟨[.int a t,.ref l],[]⟩) (fun _ R s=>s.heap.get? l=some {cls:=.type "tuple",dict:=dd,data:=.seq items n,slots:=sl}/\R (.ok (.ret Value.notImplemented)) s):=
 .of_wp fun prog w A R s h=>by obtain⟨hp,g,d,tk,os⟩:=s;obtain⟨hl,h⟩:=h;wp_walk using qB_ hl;exact⟨_,rfl,h⟩
def noFill_tuple_mul:fillsNumberSlot (.type "tuple") "mul"=pure false:=by
 first|exact fillsNumberSlot_false (by decide +kernel)|(unfold fillsNumberSlot;kernel_rfl)|kernel_rfl
def repeat_tuple:seqRepeat? (.type "tuple")=pure (some (.builtin "tuple.__mul__")):=by
 unfold seqRepeat?;rw[qg (T := "tuple") (name := "__mul__") (id := "tuple.__mul__") zD_.lookup (by decide +kernel),qg (T := "tuple") (name := "__rmul__") (id := "tuple.__rmul__") F.slot_tuple_rmul.lookup (by decide +kernel)];rfl
def tup_mul_one (l:Addr)(items:Array Value)(n:Nat)(dd:Option Addr)(sl:Array (α5))(u:Tok):
  Meets (Builtin.«tuple.__mul__» ⟨[.ref l,.int 1 u],[]⟩) (fun _ R s=>s.heap.get? l=some {cls:=.type "tuple",dict:=dd,data:=.seq items n,slots:=sl}/\R (.ok (.ret (Value.ref l))) s):=
 .of_wp fun prog w A R s h=>by
  obtain⟨hp,g,d,tk,os⟩:=s;obtain⟨hl,h⟩:=h;have f1:=AutoSeq1.idx_int;unfold Builtin.«tuple.__mul__»
  wp_walk using qB_ hl
  exact⟨_,rfl,h⟩
def tup_mul_none (l:Addr)(items:Array Value)(n:Nat)(dd:Option Addr)(sl:Array (α5))(x:Int)(u:Tok)(h0:¬ items.isEmpty=true)(h1:x<=0)(h2 : -(2 ^ 63)<=x):
  Meets (Builtin.«tuple.__mul__» ⟨[.ref l,.int x u],[]⟩) (fun _ R s=>s.heap.get? l=some {cls:=.type "tuple",dict:=dd,data:=.seq items n,slots:=sl}/\R (.ok (.ret (Value.ref s.heap.objs.size))) {s with heap:=s.heap.push {cls:=.type "tuple",data:=.seq #[]} }):=
 .of_wp fun prog w A R s h=>by
  obtain⟨hp,g,d,tk,os⟩:=s;obtain⟨hl,h⟩:=h;have f1:=AutoSeq1.idx_int;have c1:(decide (x < -(2 ^ 63:Int))||decide (x >= 2 ^ 63))=false:=by simp;lia
  have c2:(items.isEmpty||x==1)=false:=by simp at h0 ⊢;exact⟨h0,by lia⟩
  have c3:(decide (x<=0)||items.isEmpty)=true:=by simp[h1]
  unfold Builtin.«tuple.__mul__»
  wp_walk using qB_ hl
  rw[if_neg (by rw[c1];exact jo_)]
  wp_walk using qB_ hl
  rw[if_neg (by rw[c2];exact jo_)];rw[if_pos c3]
  wp_walk using qB_ hl
  exact⟨_,rfl,h⟩
def tup_mul_many (l:Addr)(items:Array Value)(n:Nat)(dd:Option Addr)(sl:Array (α5))(x:Int)(u:Tok)(h0:¬ items.isEmpty=true)(h1:1<x)(h2:x<2 ^ 63)(h3:items.size*x.toNat<=sizeLine):
  Meets (Builtin.«tuple.__mul__» ⟨[.ref l,.int x u],[]⟩) (fun _ R s=>s.heap.get? l=some {cls:=.type "tuple",dict:=dd,data:=.seq items n,slots:=sl}/\R (.ok (.ret (Value.ref s.heap.objs.size))) {s with heap:=s.heap.push {cls:=.type "tuple",data:=.seq ((nI x.toNat items).foldl (· ++ ·) #[])} }):=
 .of_wp fun prog w A R s h=>by
  obtain⟨hp,g,d,tk,os⟩:=s;obtain⟨hl,h⟩:=h;have f1:=AutoSeq1.idx_int;have hs:sizeLine=16777216:=zL_;have c1:(decide (x < -(2 ^ 63:Int))||decide (x >= 2 ^ 63))=false:=by simp;lia
  have c2:(items.isEmpty||x==1)=false:=by simp at h0 ⊢;exact⟨h0,by lia⟩
  have c3:(decide (x<=0)||items.isEmpty)=false:=by simp at h0 ⊢;exact⟨by lia,h0⟩
  obtain⟨k,rfl⟩:∃k:Nat,x=(k:Int):=⟨x.toNat,by lia⟩;have c4:¬ ((items.size:Int)*(k:Int) > (2 ^ 63-1) / 8):=by
   rw[jz_]at h3;have:((items.size*k:Nat):Int)=(items.size:Int)*(k:Int):=by push_cast;rfl
   lia
  have c5:Builtin.Tuple.tupleTooMany ((items.size:Int)*(k:Int))=false:=by
   unfold Builtin.Tuple.tupleTooMany;rw[jz_]at h3;have:((items.size*k:Nat):Int)=(items.size:Int)*(k:Int):=by push_cast;rfl
   simp;lia
  unfold Builtin.«tuple.__mul__»
  wp_walk using qB_ hl
  rw[if_neg (by rw[c1];exact jo_)]
  wp_walk using qB_ hl
  rw[if_neg (by rw[c2];exact jo_)];rw[if_neg (by rw[c3];exact jo_),if_neg c4,if_neg (by rw[c5];exact jo_)]
  wp_walk using qB_ hl
  have hz:¬ (qz (fun x1 x2=>x1++x2) #[] (nI ((k:Int)).toNat items)).size > sizeLine:=by
   have:=L2.foldl_rep items.toList k [];rw[qK_]at this;have e:items.toList.toArray=items:=by simp
   rw[e]at this;rw[jz_,this,jl_,L2.len_rep];rw[jz_]at h3;rw[qR_,oM];lia
  rw[if_neg hz]
  wp_walk using qB_ hl
  exact⟨_,rfl,h⟩
end
end HT
namespace L2
open PySem PySem.Spec PyProof.Rows
section
variable {X:Cx}
noncomputable def Tg (K:α3):R2:=fun x y H Q=>∃l k xs,x=.ref l/\y=.int k/\SqT K H l xs/\xs ≠ [] /\ -(2 ^ 63)<=k/\k<2 ^ 63/\xs.length*k.toNat<=sizeLine /\
 (k=1->Q (.ref l) H)/\(k≠1->∀p,H p=none->Q (.ref p) (upd H p (.tup (nI k.toNat xs).flatten)))
def VZ:OpR X (binaryOp .Mult) (Tg X.K):=by
 intro aa s σ H x y v u Q I rx ry h;obtain⟨l,k,xs,rfl,rfl,hq,aC,h1,h2,hz,q1,q2⟩:=h;cases rx;obtain⟨t,rfl⟩:=ry;obtain⟨its,r,p1,_⟩:=I.tuple hq;have ak:=r.length;have bx:¬ its.toArray.isEmpty=true:=by
  intro z;have:its=[]:=by simpa using z
  exact aC (r.nil_iff.mp this)
 obtain⟨⟨cls,dd,data,sl⟩,ho,hc,n,hd⟩:=id p1;simp only at hc hd;subst hc hd;refine wpAny_binaryOp_repeat_ref (T := "tuple") (U := "int") (by decide) ⟨_,ho,rfl⟩ (fun s'=>typeIs_int s' k t) HT.noFill_tuple_mul F.fills_int_mul F.slot_int_rmul HT.repeat_tuple F.slot_int_index.lookup
  (zo_ F.slot_int_rmul (typeIs_int s k t) F.entry_int_rmul (F.args_int_rmul_2 _ _) (HT.int_rmul_tup k t l its.toArray n dd sl) ⟨ho,rfl,⟨_,ho,rfl⟩,?_⟩)
 by_cases k1:k=1
 ·subst k1;exact zo_ zD_ ⟨_,ho,rfl⟩ F.entry_tuple_mul (F.args_tuple_mul_2 _ _) (HT.tup_mul_one l its.toArray n dd sl t) ⟨ho,⟨.ref l,H,I,rfl,q1 rfl⟩⟩
 ·have fin:∀(ys:List Value),Vals (nI k.toNat xs).flatten ys->EP X aa σ Q (.ref s.heap.objs.size) {s with heap:=s.heap.push {cls:=.type "tuple",data:=.seq ys.toArray} }:=fun ys rv=>
   ⟨.ref s.heap.objs.size,_,I.laid (t':=s.toks) (o:=.tup (nI k.toNat xs).flatten) (fun b ob q=>jg_ _ q) (jf_ _) ⟨by rw[len_rep,oM];exact hz,_,rv,IsTup.new _ _⟩,rfl,q2 k1 _ (I.hok.fresh (jf_ _))⟩
  by_cases k0:k<=0
  ·refine zo_ zD_ ⟨_,ho,rfl⟩ F.entry_tuple_mul (F.args_tuple_mul_2 _ _) (HT.tup_mul_none l its.toArray n dd sl k t bx k0 h1) ⟨ho,?_⟩;exact fin [] (by rw[show k.toNat=0 by lia];exact .nil)
  ·refine zo_ zD_ ⟨_,ho,rfl⟩ F.entry_tuple_mul (F.args_tuple_mul_2 _ _) (HT.tup_mul_many l its.toArray n dd sl k t bx s!"" h2 (by rw[jl_,<-ak];exact hz)) ⟨ho,?_⟩;have e:=foldl_rep its k.toNat [];rw[qK_]at e;have e':qz (fun x1 x2=>x1++x2) #[] (nI k.toNat its.toArray)=(nI k.toNat its).flatten.toArray:=e;rw[e'];exact fin _ (r.rep k.toNat)
noncomputable def Cb (K:α3):R2:=fun x y H Q=>∃a b xs ys,x=.ref a/\y=.ref b/\SqT K H a xs/\SqT K H b ys/\xs.length+ys.length<=sizeLine /\
 (xs=[]->Q (.ref b) H)/\(xs ≠ []->ys=[]->Q (.ref a) H)/\(xs ≠ []->ys ≠ []->∀p,H p=none->Q (.ref p) (upd H p (.tup (xs++ys))))
def Dj:OpR X (binaryOp .Add) (Cb X.K):=by
 intro aa s σ H x y v u Q I rx ry h;obtain⟨a,b,xs,ys,rfl,rfl,ha,hb,hz,q0,q1,q2⟩:=h;by_cases hx:xs=[]
 ·subst hx;cases rx;cases ry;obtain⟨its,r1,p1,_⟩:=I.tuple ha;obtain⟨aH,r2,p2,_⟩:=I.tuple hb;have:its=[]:=r1.nil_iff.mpr rfl;subst this;obtain⟨⟨cls,dd,data,sl⟩,ho,hc,n,hd⟩:=id p1;obtain⟨⟨cls2,kR,data2,kU⟩,fg,cn,n2,fN⟩:=id p2;simp only at hc hd cn fN;subst hc hd cn fN;exact concat_meets ⟨_,ho,rfl⟩ ⟨_,fg,rfl⟩ noFill_tuple_add seq_tuple_add zk_ zb_ (x1_ _ _)
   (q9 a b _ _ n n2 dd kR sl kU rfl) ⟨ho,fg,⟨.ref b,H,I,rfl,q0 rfl⟩⟩
 ·exact VM aa s σ H _ _ v u Q I rx ry ⟨a,b,xs,ys,rfl,rfl,ha,hb,hx,hz,q1 hx,q2 hx⟩
end
def LI (Pv:Nat->St->Hp->Prop)(h0:∃m,Pv m σ H)
  (hs:∀m σ H,Pv m σ H->c σ H fun b H1=>if b=true then ∃N:St->Hp->Prop,(∀af H',N af H'->∃m',m'<m/\Pv m' af H')/\tb {D with nx:=N,ct:=N,bk:=D.nx} σ H1 else D.nx σ H1):Us c tb D σ H:=⟨Pv,h0,hs⟩
section
variable {K:α3} {H:Hp} {Q:VK}
def Tg.of (hq:SqT K H l xs)(aC:xs ≠ [])(h1 : -(2 ^ 63)<=k)(h2:k<2 ^ 63)(hz:xs.length*k.toNat<=sizeLine)(h:∀p H',Same H H'->SqT K H' p (nI k.toNat xs).flatten->Q (.ref p) H'):Tg K (.ref l) (.int k) H Q:=by
 refine⟨l,k,xs,rfl,rfl,hq,aC,h1,h2,hz,fun e=>?_,fun _ p hp=>h p _ (Same.new hp) (SqT.of Ab)⟩;subst e;exact h l H (Same.refl _) (by simpa using hq)
def Cb.of (ha:SqT K H a xs)(hb:SqT K H b ys)(hz:xs.length+ys.length<=sizeLine)(h:∀p H',Same H H'->SqT K H' p (xs++ys)->Q (.ref p) H'):Cb K (.ref a) (.ref b) H Q:=by
 refine⟨a,b,xs,ys,rfl,rfl,ha,hb,hz,fun e=>?_,fun _ e=>?_,fun _ _ p hp=>h p _ (Same.new hp) (SqT.of Ab)⟩
 ·subst e;exact h b H (Same.refl _) (by simpa using hb)
 ·subst e;exact h a H (Same.refl _) (by simpa using ha)
end
theorem XG {K:α3} {lo hi:Option Int}:rSlT K x lo hi H Q=∃a xs,x=.ref a/\SqT K H a xs /\
 ¬ (HT.sIx xs.length 0 lo=0/\HT.sIx xs.length xs.length hi=xs.length)/\∀p,H p=none->Q (.ref p) (upd H p (.tup (cutV xs lo hi))):=rfl
inductive TyW (K:α3)(H:Hp):V->Value->Prop where
 | non:TyW K H .non (.type "NoneType")
 | bl (x:Bool):TyW K H (.bl x) (.type "bool")
 | int (i:Int):TyW K H (.int i) (.type "int")
 | str (x:Str):TyW K H (.str x) (.type "str")
 | lst {a:Addr} {xs:List V} (e:SqL K H a xs):TyW K H (.ref a) (.type "list")
 | tup {a:Addr} {xs:List V} (e:SqT K H a xs):TyW K H (.ref a) (.type "tuple")
 | exc {a C:Addr} (e:H a=some (excO a C)) (c:ExcCls K C):TyW K H (.ref a) (.ref C)
def Cc : Em X (.builtin "isinstance") (fun xs H Q=>∃x c cv t b,xs=[x,c]/\TyW X.K H x t/\(∀u,RelV c u->u=cv)/\kitOne X.K t cv=some b/\Q (.bl b) H):=by
 intro aa s σ H xs us Q I r h;obtain⟨x,c,cv,t,b,rfl,ty,hc,hk,q⟩:=h;cases ty with
 |non=>exact EI aa s σ H _ us Q I r ⟨_,c,cv,_,b,rfl,.non,hc,hk,q⟩
 |bl y=>exact EI aa s σ H _ us Q I r ⟨_,c,cv,_,b,rfl,.bl y,hc,hk,q⟩
 |int y=>exact EI aa s σ H _ us Q I r ⟨_,c,cv,_,b,rfl,.int y,hc,hk,q⟩
 |str y=>exact EI aa s σ H _ us Q I r ⟨_,c,cv,_,b,rfl,.str y,hc,hk,q⟩
 |exc e hC=>exact Nf aa s σ H _ us Q I r ⟨_,_,c,cv,b,rfl,e,hC,hc,hk,q⟩
 |@lst a xs e=>
  obtain⟨u,w',rfl,rx,rc⟩:=vals2 r;rw[hc _ rc];cases rx;obtain⟨its,_,pl,_⟩:=I.list e;obtain⟨o,ho,bh,_⟩:=pl.isList;exact qc_ zV_ I.kIn ⟨o,ho,bh⟩ hk (fun z=>nomatch z) fun tk=>⟨.bl b,H,I.tok tk,rfl,q⟩
 |@tup a xs e=>
  obtain⟨u,w',rfl,rx,rc⟩:=vals2 r;rw[hc _ rc];cases rx;obtain⟨its,_,⟨o,ho,bh,_⟩,_⟩:=I.tuple e;exact qc_ pO I.kIn ⟨o,ho,bh⟩ hk (fun z=>nomatch z) fun tk=>⟨.bl b,H,I.tok tk,rfl,q⟩
end L2
namespace GW
noncomputable def XH (L:Int):α2->α2
 |[]=>[0]
 |x::r=>if x=L-1 then 0::XH L r else (x+1)::r
noncomputable def Ct (L:Int)(w:α2):α2:=(XH L w.reverse).reverse
noncomputable def UR (L:Int):α2->Int
 |[]=>0
 |x::r=>UR L r*L+x+1
noncomputable def place (L:Int)(w:α2):Int:=UR L w.reverse
noncomputable def inW (L x:Int):Bool:=decide (0<=x)&&decide (x<L)
noncomputable def isW (L:Int)(ws:α2):Bool:=ws.all (inW L)
def V0 : inW L x=true↔0<=x/\x<L:=by simp[inW]
def Bn : isW L ws=true ↔ ∀x∈ws,0<=x/\x<L:=by simp[isW,V0]
noncomputable def many (L:Int):Nat->Int
 |0=>0
 |k+1=>many L k*L+1
noncomputable def val (L:Int):α2->Int
 |[]=>0
 |x::r=>val L r*L+x
end GW
namespace PySem
section
variable {prog:Program} {w:World} {A:Around} {E:Value->Shared->Prop} {s:Shared}
noncomputable abbrev lsO (ah:Array Value)(c:Nat):Obj:={cls:=.type "list",dict:=none,data:=.seq ah c,slots := #[]}
noncomputable def KP (wr:Addr->Prop)(h h':Heap):Prop:=∀b o,¬ wr b->h.get? b=some o->h'.get? b=some o
structure Gat (prog:Program)(w:World)(s:Shared)(r I:Addr)(T:String)(n:Nat)(wr:Addr->Prop)(J:Nat->List Value->Heap->Prop)(Fn:List Value->Heap->Prop):Prop where
 type:s.TypeIs (.ref r) T
 nl:(Value.type T==Value.type "list")=false
 nt:(Value.type T==Value.type "tuple")=false
 le:n<=sizeLine
 hint:∀(A:Around) (t:Shared) (Q:Bool->Shared->Prop) (E:Value->Shared->Prop),(∀b o,s.heap.get? b=some o->t.heap.get? b=some o)->(∀b tk,Q b {t with toks:=tk})->wpAny (model prog w) A (Builtin.List.listLengthHint (.ref r)) Q E t
 iter:∀(A:Around) (h1:Heap) (Q:Value->Shared->Prop) (E:Value->Shared->Prop),(∀b o,s.heap.get? b=some o->h1.get? b=some o)->h1.objs.size=s.heap.objs.size+1->(∀h',J 0 [] h'->(∀b o,h1.get? b=some o->h'.get? b=some o)->Q (.ref I) {s with heap:=h' })->wpAny (model prog w) A (pyIter (.ref r)) Q E {s with heap:=h1}
 next:∀(A:Around) i ah (t:Shared) (Q:α5->Shared->Prop) (E:Value->Shared->Prop),A.handled=none->J i ah t.heap->ah.length=i->i<=n->s.heap.objs.size<t.heap.objs.size ->
  (∀v h' tk,i<n->J (i+1) (ah++[v]) h'->KP wr t.heap h'->Q (some v) {t with heap:=h',toks:=tk})->(∀h' tk,i=n->Fn ah h'->KP wr t.heap h'->Q none {t with heap:=h',toks:=tk})->wpAny (model prog w) A (pyNext (.ref I)) Q E t
 frame:∀i ah h h',J i ah h->(∀b o,b≠s.heap.objs.size->h.get? b=some o->h'.get? b=some o)->J i ah h'
 nw:¬ wr s.heap.objs.size
variable {I r:Addr} {T:String} {n:Nat} {wr:Addr->Prop} {J:Nat->List Value->Heap->Prop} {Fn:List Value->Heap->Prop} {R:Result->Shared->Prop} {res:Value}
def Gat.loop (G:Gat prog w s r I T n wr J Fn)(hh:A.handled=none)
  (hR:∀h' tk ah c,Fn ah h'->ah.length=n->h'.get? s.heap.objs.size=some (lsO ah.toArray c)->KP wr s.heap h'->R (.ok (.ret res)) {s with heap:=h',toks:=tk}):
  ∀(k:Nat) (h:Heap) (tk c:Nat) (ah:List Value),n-ah.length=k->ah.length<=n->J ah.length ah h->h.get? s.heap.objs.size=some (lsO ah.toArray c)->KP wr s.heap h->codeAny (model prog w) A (.builtin "list.extend.loop" ⟨[.ref s.heap.objs.size,.ref I,res],[]⟩) R {s with heap:=h,toks:=tk}:=by
 intro k
 induction k with
 |zero=>
  intro h tk c ah hk hi j hS kp;refine zd_ F.entry_extend_loop ?_;rw[xN_ xT_ _];refine jd_ (G.next A.in1 _ ah {s with heap:=h,toks:=tk} _ _ hh j rfl hi (jk_ hS) (fun v h' tk l=>by lia) fun h' tk e j' kk=>?_);exact jm_ (hR h' tk ah c j' s!"" (kk _ _ G.nw hS) fun b o m q=>kk b o m (kp b o m q))
 |succ k ih=>
  intro h tk c ah hk hi j hS kp;refine zd_ F.entry_extend_loop ?_;rw[xN_ xT_ _];refine jd_ (G.next A.in1 _ ah {s with heap:=h,toks:=tk} _ _ hh j rfl hi (jk_ hS) (fun v h' tk l j' kk=>?_) fun h' tk e=>by lia);have jR:=kk _ _ G.nw hS;have up:∀b o,b≠s.heap.objs.size->h'.get? b=some o->(h'.update s.heap.objs.size (Obj.mapSeq (·.push v))).get? b=some o:=fun b o m q=>(qo_ _ _ (qn_ m)).trans q;have hl:(ah++[v]).length=ah.length+1:=by simp
  have:=G.le;obtain⟨c',mf⟩:∃c',(h'.update s.heap.objs.size (Obj.mapSeq (·.push v))).get? s.heap.objs.size=some (lsO (ah++[v]).toArray c'):=⟨_,by rw[<-List.push_toArray];exact qW_ _ jR rfl⟩;exact jd_ (wpAny_updateSeq jR rfl (jm_ ⟨plainId_quiet xT_ _,ih _ tk c' (ah++[v]) s!"" s!"" (by rw[hl];exact G.frame _ _ _ _ j' up) mf fun b o m q=>up b o (jE_ (jk_ q)) (kk b o m (kp b o m q))⟩) (by simp;lia))
def Gat.extend (G:Gat prog w s r I T n wr J Fn)(hh:A.handled=none)(k1:∀b o,s.heap.get? b=some o->h1.get? b=some o)(hz:h1.objs.size=s.heap.objs.size+1)(hS:h1.get? s.heap.objs.size=some (lsO #[] c₀))
  (hZ:∀c t,c.quiet=true->codeAny (model prog w) A c R t->Z (.again c) t)
  (hR:∀h' tk ah c,Fn ah h'->ah.length=n->h'.get? s.heap.objs.size=some (lsO ah.toArray c)->KP wr s.heap h'->R (.ok (.ret res)) {s with heap:=h',toks:=tk}):
  wpAny (model prog w) A.in1 (Builtin.List.listExtendWith (.ref s.heap.objs.size) (.ref r) res) Z E {s with heap:=h1}:=by
 have hr:r<s.heap.objs.size:=let ⟨_,ho,_⟩:=G.type;jk_ ho;have e1:Builtin.List.listSameRef (.ref s.heap.objs.size) (.ref r)=false:=by simp[Builtin.List.listSameRef,qe_ hr]
 have hT:Shared.TypeIs {s with heap:=h1} (.ref r) T:=let ⟨o,ho,x⟩:=G.type;⟨o,k1 _ _ ho,x⟩;have ji:∀(h:Heap) f b o,b≠s.heap.objs.size->h.get? b=some o->(h.update s.heap.objs.size f).get? b=some o:=fun h f b o n q=>(qo_ _ _ (qn_ n)).trans q;have go:∀(h:Heap) c tk,J 0 [] h->h.get? s.heap.objs.size=some (lsO #[] c)->(∀b o,b≠s.heap.objs.size->h1.get? b=some o->h.get? b=some o)->Z (.again (.builtin "list.extend.loop" ⟨[.ref s.heap.objs.size,.ref I,res],[]⟩)) {s with heap:=h,toks:=tk}:=fun h c tk j q k=>
  hZ _ _ (plainId_quiet xT_ _) (G.loop hh hR n h tk c [] rfl (j3_ _) j q fun b o _ x=>k b o (jE_ (jk_ x)) (k1 b o x))
 unfold Builtin.List.listExtendWith;refine jd_ (zt_ hT ?_);simp only[e1,G.nl,G.nt,Bool.or_false,xg_,xH_];refine jd_ (G.iter A.in1 h1 _ _ k1 hz fun h' j kk=>jd_ (xc_ (G.hint A.in1 _ _ _ (fun b o q=>kk b o (k1 b o q)) fun bb tk=>?_)));have jR:=kk _ _ hS;refine wpAny_ite_split (fun _=>?_) fun _=>jm_ (go h' c₀ tk j jR fun b o _ q=>kk b o q)
 wp_walk
 exact go _ _ tk (G.frame _ _ _ _ (G.frame _ _ _ _ j fun b o m q=>ji _ _ b o m q) fun b o m q=>ji _ _ b o m q) (qW_ _ (qW_ _ jR rfl) rfl) fun b o m q=>ji _ _ b o m (ji _ _ b o m (kk b o q))
def Gat.list (G:Gat prog w s r I T n wr J Fn)(hh:A.handled=none)
  (hQ:∀h' tk ah c,Fn ah h'->ah.length=n->h'.get? s.heap.objs.size=some (lsO ah.toArray c)->KP wr s.heap h'->Q (.ref s.heap.objs.size) {s with heap:=h',toks:=tk}):wpAny (model prog w) A (call (.type "list") [.ref r]) Q E s:=by
 have hS:(s.heap.push (lsO #[] 0)).get? s.heap.objs.size=some (lsO #[] 0):=jr_ _ rfl;refine callType_codes (Q₁:=fun obj s₁=>obj=.ref s.heap.objs.size/\s₁={s with heap:=s.heap.push (lsO #[] 0)}) F.called_list (F.typeCall_list_1 _) F.entry_list_init (code_list_new _ ⟨rfl,rfl⟩) fun obj s₁ h₁=>?_;obtain⟨rfl,rfl⟩:=h₁;have ji:∀b o,s.heap.get? b=some o->((s.heap.push (lsO #[] 0)).update s.heap.objs.size (Obj.mapSeq fun _ => #[])).get? b=some o:=fun b o q=>(qo_ _ _ (qe_ (jk_ q))).trans (jg_ _ q);obtain⟨c2,mf⟩:∃c,((s.heap.push (lsO #[] 0)).update s.heap.objs.size (Obj.mapSeq fun _ => #[])).get? s.heap.objs.size=some (lsO #[] c):=⟨_,qW_ _ hS rfl⟩;have hz:((s.heap.push (lsO #[] 0)).update s.heap.objs.size (Obj.mapSeq fun _ => #[])).objs.size=s.heap.objs.size+1:=by rw[Heap.size_after_update,j9_]
 refine⟨⟨_,hS,rfl⟩,F.args_list_init_2 _ _,?_⟩
 wp_walk using Gat.extend (A:=A.in1) (R:=wants (fun r aY=>r=.none/\Q (.ref s.heap.objs.size) aY) E) (c₀:=c2) G hh ji hz mf
 ·exact fun _ _ a b=>⟨a,b⟩
 exact fun h' tk ah c k1 k2 k3 k4=>⟨rfl,hQ h' tk ah c k1 k2 k3 k4⟩
end
end PySem
namespace L2
open PySem PySem.Spec PyProof.Rows
def boot_ValueError:bootBuiltins "ValueError"=some (.type "ValueError"):=by decide +kernel
section
variable {P:Program} {w:World} {K:α3} {mg:Str->α5} {base:Heap}
def Fun.okE {st:Stmt} (F:Fun K x qual st f fd)(S:FnScope N ps (Ah st))(len:∀vs H Q E,sp vs H Q E->vs.length=ps.length)
  (aR:∀(ao:Value) (A:Around) (outer:List Env) (s:Shared) (H:Hp) (vs:List V) (Q:VK) (E:XK),Room k (A.deeper (envOfC qual (Ah st) s.heap.objs.size f ao))->sp vs H Q E ->
   ∃t,PSs (cxOf (CXe P w) P w K mg base N qual (Ah st) f ao A outer s H E) (Ea st) t/\t {nx:=fun _ H'=>Q .non H',rt:=Q} (start N vs) H):FnOk P w K mg base (CXe P w) (k+1) f fd ps sp:=by
 obtain⟨oc,od,kV,bG,pm,an,ao,ct,iq,rfl,lk,cI⟩:=F.ex;exact Xa lk cI S len fun A outer s H vs Q E hr bS=>aR ao A outer s H vs Q E hr bS
def IT : Fx (CXe P w) X E0:=fun _ _ _ _ _ _ _ h=>by
 obtain⟨_,_,_,_,_,_,_,_,_,_,q⟩:=h;exact q.elim
end
section
variable {te ta tb:TE} {A:TA} {D:Ends} {σ:St} {H:Hp} {Q:VK} {K:α3} {tbd ts:TS}
theorem XI : rCat x y H Q=∃l b xs zs,x=.ref l/\y=.ref b/\H l=some (.lst xs)/\H b=some (.lst zs)/\xs.length+zs.length<=sizeLine/\∀p,H p=none->Q (.ref p) (upd H p (.lst (xs++zs))):=rfl
theorem Rg : UQ C E A D σ H=A σ H fun vs H1=>vs.length<=sizeLine/\E (.ref C) none H1:=rfl
theorem XJ : tTry K Ca i E tbd ts D σ H=(tbd D σ H/\∀af cls H',E af cls none H' ->
 ∃C,cls=.ref C/\exmOne K (.ref C) (.ref Ca)=some true/\∀ea,H' ea=none->ts (D.un i) (af.set i (some (.ref ea))) (upd H' ea (excO ea C))):=rfl
theorem US : (Ends.un D i).nx σ H=D.nx (σ.set i none) H:=rfl
theorem UT : (Ends.un D i).rt v H=D.rt v H:=rfl
end
end L2
namespace L2
open PySem PySem.Spec PyProof.Rows
def V1 (x y:Int):eqV (.int x) (.int y)=decide (V.int x=V.int y):=by
 by_cases h:x=y
 ·subst h;simp[eqV]
 ·rw[qv_ (fun z=>h (by injection z))];simp[eqV,h]
def EqD.ints {K:α3}{H:Hp}{a c:Addr}{xs ys:α2}(hq:(SqL K H a (xs.map V.int)/\SqL K H c (ys.map V.int))\/(SqT K H a (xs.map V.int)/\SqT K H c (ys.map V.int)))(n:Nat):EqD K H (n+1) (.ref a) (.ref c) (decide (xs=ys)):=by
 have:=EqD.flat hq (fun x hx=>by obtain⟨_,_,rfl⟩:=HD hx;rfl) (fun x hx=>by obtain⟨_,_,rfl⟩:=HD hx;rfl) (fun x hx y hy=>by obtain⟨_,_,rfl⟩:=HD hx;obtain⟨_,_,rfl⟩:=HD hy;exact V1 _ _) n;have e:decide (xs.map V.int=ys.map V.int)=decide (xs=ys):=by
  rw[qT_];simp only[qz_];constructor
  ·intro h;exact (zS_ (fun a b h=>by injection h)).mp h
  ·intro h;rw[h]
 rw[e]at this;exact this
end L2
namespace L2
open PySem PySem.Spec PyProof.Rows
noncomputable def iSeq (K:α3)(tl:TE):TI:=fun σ H R=>tl σ H fun x H1=>∃a,x=.ref a/\(((∃xs,SqL K H1 a xs)/\R (Itl K a) H1)\/((∃xs,SqT K H1 a xs)/\R (Itt K a) H1))
theorem UU {K:α3} : iSeq K te σ H Z=te σ H fun x H1=>∃a,x=.ref a/\(((∃xs,SqL K H1 a xs)/\Z (Itl K a) H1)\/((∃xs,SqT K H1 a xs)/\Z (Itt K a) H1)):=rfl
def Rh (hl:PE X l tl):PI X tg l (iSeq X.K tl):=by
 intro aa s σ H R I h;refine thn (hl aa s σ H _ I h) fun v s1 ⟨x,H1,I1,r1,q1⟩=>?_;obtain⟨a,e,q⟩:=q1;subst e;cases r1;rcases q with ⟨⟨xs,hq⟩,q⟩|⟨⟨xs,hq⟩,q⟩
 ·obtain⟨its,rv,p,hz⟩:=I1.list hq;refine xG_ p.isList ?_;refine⟨s1.heap.objs.size,[s1.heap.objs.size],_,_,H1,rfl,I1.kept (t':=s1.toks) fun b o e=>jg_ _ e,MV a _,⟨_,jr_ _ rfl,rfl,rfl⟩,fun b hb=>?_,q⟩;have e:b=s1.heap.objs.size:=by simpa using hb
  subst e;exact I1.fpOk (jf_ _) (I1.hok.fresh (jf_ _))
 ·obtain⟨its,rv,p,hz⟩:=I1.tuple hq;refine xx_ (show s1.heap.IsTuple a its.toArray from p) ?_;refine⟨s1.heap.objs.size,[s1.heap.objs.size],_,_,H1,rfl,I1.kept (t':=s1.toks) fun b o e=>jg_ _ e,LD a _,⟨_,jr_ _ rfl,rfl,rfl⟩,fun b hb=>?_,q⟩;have e:b=s1.heap.objs.size:=by simpa using hb
  subst e;exact I1.fpOk (jf_ _) (I1.hok.fresh (jf_ _))
section
variable {X:Cx} {K:α3}
def FE (h:X.K=K):IxR X (rIxT K):=by subst h;exact Ay
end
end L2
namespace GW
noncomputable def XM (aL:α1)(r x:Int):Int:=(aL.getD r.toNat []).getD x.toNat 0
end GW
namespace L2
open PySem PySem.Spec PyProof.Rows GW
def N8 (h:xs[xs.length-1]?=some v):atI xs (-1)=some v:=by
 have aF:=(je_.mp h).1;unfold atI ixN;rw[if_neg s!"",if_pos s!""];show xs[(-1+(xs.length:Int)).toNat]?=some v;rw[show (-1+(xs.length:Int)).toNat=xs.length-1 by lia];exact h
def G3 {ns:α2}{i:Int}{v:Int}(h0:0<=i)(h:ns[i.toNat]?=some v):atI (ns.map V.int) i=some (V.int v):=XD h0 (by rw[jh_,h];rfl)
def Kj {K:α3} (hp:H p=some (.lst zs))(h:SqT K H t xs):SqT K (upd H p (.lst ys)) t xs:=by
 rcases h with (q|⟨o,q⟩)|q
 ·refine .inl (.inl ?_);rw[Aj (fun z=>by rw[z,hp]at q;cases q)];exact q
 ·refine .inl (.inr ⟨o,?_⟩);rw[Aj (fun z=>by rw[z,hp]at q;cases q)];exact q
 ·exact .inr q
end L2
namespace PySem
open Sem (wp)
open AutoSeq1 (wpAny_loadPart')
section
variable {prog:Program} {w:World} {A:Around} {E:Value->Shared->Prop} {s:Shared}
def newT (hl:l.length<=sizeLine)(h:∀h',s.heap.push {cls:=.type "tuple",data:=.seq l.toArray}=h'->Q (.ref s.heap.objs.size) {s with heap:=h' }):wpAny (model prog w) A (newTuple l) Q E s:=wpAny_newTuple (h _ rfl)
def psh {h h':Heap}{o:Obj}(q:h.push o=h')(ho:o.isFreed=false):(∀c u,h.get? c=some u->h'.get? c=some u)/\h'.get? h.objs.size=some o/\h'.objs.size=h.objs.size+1:=by
 subst q;exact⟨fun c u x=>jg_ _ x,jr_ _ ho,j9_ ..⟩
def IU {it l:Addr} (aM:s.heap.IsTupleIter it l i)(hl:s.heap.IsTuple l items)
  (hQ:∀x h',items[i]?=some x->h'.IsTupleIter it l (i+1)->Heap.SameBut it s.heap h'->Q x {s with heap:=h' })
  (hE:items[i]?=none->A.handled=none/\∀h' e,Heap.ExtBut it s.heap h'->(∃o,h'.get? e=some o/\o.cls=.type "StopIteration")->E (.ref e) {s with heap:=h' }):wpAny (model prog w) A (Builtin.SmallTypes.nextOf (.ref it)) Q E s:=by
 obtain⟨⟨c,dc,da,sl⟩,ho,hc,hd⟩:=id aM;obtain⟨⟨c',dc',da',jF⟩,hol,dW,nl,iC⟩:=hl;replace hc:c=_:=hc;replace hd:da=_:=hd;replace dW:c'=_:=dW;replace iC:da'=_:=iC;subst hc hd dW iC;have e1:=F.slot_tuple_iterator_next;unfold Builtin.SmallTypes.nextOf;refine jd_ (qy_ aM.typeIs e1 (qx_ e1 aM.typeIs F.entry_tuple_iterator_next ?_ (F.args_tuple_iterator_next_1 _)))
 wp_walk
 cases hx:items[i]? with
 |some x=>
  simp only[jz_,hx]
  wp_walk
  exact⟨x,rfl,jm_ (hQ x _ hx ⟨_,qW_ _ ho (by simp[Obj.mapFields,Obj.isFreed]),rfl,by simp[Obj.mapFields,rawInt]⟩ (xU_ ..))⟩
 |none=>
  obtain⟨hh,hE⟩:=hE hx;have h1:A.in1.handled=none:=hh;simp only[jz_,hx]
  wp_walk
  unfold raiseNew
  wp_walk
  exact hE _ _ (((xU_ ..).extBut.push _).push _) ⟨_,jr_ _ rfl,rfl⟩
def Draws.tuple (hh:A.handled=none)(it l:Addr)(aC:l≠it)(items:Array Value):
  Draws prog w A it [it,l] items.size (fun i v=>items[i]?=some v) (fun i h=>h.IsTupleIter it l i/\h.IsTuple l items) where
 live:=fun _ _ st=>let ⟨o,e,_⟩:=st.1;⟨o,e⟩
 frame:=fun _ _ _ st k=>⟨st.1.at fun o e=>k it (by simp) o e,let ⟨o,e,r⟩:=st.2;⟨o,k l (by simp) o e,r⟩⟩
 item:=fun i t Q E hi st q=>IU st.1 st.2 (fun x h' e1 e2 e3=>q x h' t.toks e1 ⟨e2,st.2.extBut e3.extBut aC⟩ e3) fun z=>by rw[xL_]at z;lia
 done:=fun t Q E st q=>IU st.1 st.2 (fun x h' e1=>by have:=(qN_.mp e1).1;lia) fun _=>⟨hh,q⟩
def Gx (hL:s.heap.IsTuple l items)
  (h:∀h',IsEnum h' (s.heap.objs.size+1) s.heap.objs.size 0 .none->h'.IsTupleIter s.heap.objs.size l 0->h'.objs.size=s.heap.objs.size+2->(∀b o,s.heap.get? b=some o->h'.get? b=some o)->Q (.ref (s.heap.objs.size+1)) {s with heap:=h' }):
  wpAny (model prog w) A (call (.type "enumerate") [.ref l]) Q E s:=by
 have M:Meets (Builtin.«enumerate.__new__» ⟨[.type "enumerate",.ref l],[]⟩) fun _ R t=>t.heap.IsTuple l items/\∀h',IsEnum h' (t.heap.objs.size+1) t.heap.objs.size 0 .none->h'.IsTupleIter t.heap.objs.size l 0->h'.objs.size=t.heap.objs.size+2->(∀b o,t.heap.get? b=some o->h'.get? b=some o)->R (.ok (.ret (.ref (t.heap.objs.size+1)))) {t with heap:=h' }:=.of_wp fun prog w A R t ⟨hl,q⟩=>by
  have hsub:=sub_enumerate;obtain⟨hp,g,d,tk,os⟩:=t;obtain⟨⟨c,dc,da,sl⟩,e1,hc,n,hd⟩:=id hl;have fin:∀f,f=Fin.done (.ret (.ref (hp.push {cls:=.type "tuple_iterator",data:=.fields #[.ref l,.int 0 0]}).objs.size))->∃x,f=.done (.ret x)/\R (.ok (.ret x)) ⟨(hp.push {cls:=.type "tuple_iterator",data:=.fields #[.ref l,.int 0 0]}).push {cls:=.type "enumerate",data:=.fields #[.none,.bool false,.ref hp.objs.size,rawInt 0,.none,.none]},g,d,tk,os⟩:=fun f hf=>by
   have z:=j9_ hp {cls:=.type "tuple_iterator",data:=.fields #[.ref l,.int 0 0]};rw[z]at hf;have y:=jr_ (hp.push {cls:=.type "tuple_iterator",data:=.fields #[.ref l,.int 0 0]}) (o:={cls:=.type "enumerate",data:=.fields #[.none,.bool false,.ref hp.objs.size,rawInt 0,.none,.none]}) rfl;rw[z]at y;exact⟨_,hf,q _ y ⟨_,jg_ _ (jr_ _ rfl),rfl,rfl⟩ (by rw[j9_,z]) fun b o x=>jg_ _ (jg_ _ x)⟩
  wp_walk using x3_ e1
  refine wpAny_stack_any fun st=>jm_ ?_;split
  ·rename_i c _ _ _ _ _
   cases (c==Value.type "enumerate")<;>(wp_walk using x3_ e1,xx_ hl;exact fin _ rfl)
  ·wp_walk using x3_ e1,xx_ hl
   exact fin _ rfl
 exact callType_new F.called_enumerate (by decide) (F.typeCall_enumerate_1 _) (F.newCall_enumerate_1 _) (fun obj=>F.args_object_init_2 obj _) F.entry_enumerate_new M ⟨hL,fun h' a b c d=>⟨⟨_,a,rfl⟩,h h' a b c d⟩⟩
end
end PySem
namespace L2
open PySem PySem.Spec PyProof.Rows
section
variable {X:Cx} {aa:α7} {σ:St} {H:Hp} {s:Shared}
def Inv.un2 {e it:Addr}(I:Inv X aa σ H s)(k:∀b o,b≠e->b≠it->s.heap.get? b=some o->h'.get? b=some o)(f1:FpOk X aa H e)(f2:FpOk X aa H it):Un (frs X.stack) [e,it] H H s.heap h'/\HOk X.prog X.w H h':=by
 have ne:∀b u,H b=some u->b≠e/\b≠it:=fun b u q=>⟨(fun z=>by rw[z,f1.1]at q;cases q),(fun z=>by rw[z,f2.1]at q;cases q)⟩;have dU:∀{b:Addr},b ∉ [e,it]->b≠e/\b≠it:=fun hb=>by simpa using hb
 refine⟨⟨fun b o q _ _ hb=>k b o (dU hb).1 (dU hb).2 q,fun b o q _ _ hb=>⟨o.slots,k b o (dU hb).1 (dU hb).2 q⟩,fun _ _ _ n _=>n,fun b o q hb=>⟨o,k b o (dU hb).1 (dU hb).2 q⟩,fun _ _ q=>q,fun _ _ _ q=>q,fun b ps q=>⟨#[],by rw[q];simp⟩⟩,fun b u q=>?_⟩;refine (I.hok b u q).stay (fun c v hc qv=>?_) (fun _ q=>q) fun _ _ q=>q;have aC:c≠e/\c≠it:=by
  rcases hc with rfl|hc
  ·exact ne _ _ q
  ·exact ne _ _ hc
 exact k c v aC.1 aC.2 qv
def FpOk.ch (f:FpOk X aa H b):(b∈X.ex\/X.s₀.heap.objs.size<=b)/\b≠X.env.locals/\(∀x c,X.env.cells.lookup x=some c->c≠b)/\∀p∈X.pn++aa,p.1≠b:=⟨f.2.2.2.1,f.2.1,f.2.2.2.2.1,f.2.2.2.2.2⟩
end
noncomputable def Itn (K:α3)(a:Addr)(xs:List V):It:=⟨fun i H=>i<xs.length/\SqT K H a xs,fun i H x H'=>∃t v,H t=none/\xs[i]?=some v/\x=.ref t/\H'=upd H t (.tup [.int i,v]),fun i H=>i=xs.length/\SqT K H a xs⟩
def PU {P:Program}{w:World}{K:α3}{bJ:List Expr}{x1}{bp:Pos}(a e it:Addr)(bK:e≠it)(fj:a≠it)(mh:a≠e)(xs:List V):Turn P w K (.Tuple bJ x1 bp) (Itn K a xs) [e,it] e (fun i h=>∃old,IsEnum h e it (i:Nat) old/\h.IsTupleIter it a i) where
 mem:=by simp
 obj:=fun i h st b hb=>by
  obtain⟨old,h1,o,h2,c,d⟩:=st;rcases jD_.mp hb with rfl|hb
  ·exact⟨_,h1,fun v z=>by cases z⟩
  ·rw[ji_.mp hb];exact⟨o,h2,fun v z=>by rw[d]at z;cases z⟩
 keep:=fun i h h' st k=>by
  obtain⟨old,h1,h2⟩:=st;exact⟨old,k e (by simp) _ h1,h2.at fun o q=>k it (by simp) o q⟩
 item:=by
  intro X hP hw hK hc i aa s σ H E I hf st hg;subst hP hw hK;obtain⟨hi,hq⟩:=hg;obtain⟨old,he,aM⟩:=st;obtain⟨its,rv,p,hz⟩:=I.tuple hq;have hl:=rv.length;have pt:s.heap.IsTuple a its.toArray:=p;have f1:=hf e (by simp);have f2:=hf it (by simp);have Dw:=Draws.tuple (prog:=X.prog) (w:=X.w) (A:=X.A.in1) (I.ok.hd hc) it a fj its.toArray;refine wpAny_pyNext_enum_itemD Dw he ⟨aM,pt⟩ (by simp;lia) bK (by simp[bK,qn_ mh]) fun u h' tk hu fb iE eJ hsz hk=>?_;have hT:s.heap.objs.size≠e:=qe_ (jk_ he);refine⟨_,rfl,wpAny_letOwnedTupleGo_enum fb fun h2 mj bg=>?_⟩;have cM:∀b o,b≠e->b≠it->s.heap.get? b=some o->h2.get? b=some o:=fun b o h1 h3 q=>(bg.2 b h1).trans (hk b o h1 h3 q);obtain⟨un,hok⟩:=I.un2 cM f1 f2;have hn:H s.heap.objs.size=none:=I.hok.fresh (jf_ _);have hv:xs[i]?=some xs[i]:=by simp[hi]
  obtain⟨u',fk,ru⟩:=rv.get hv;have eu:u'=u:=by
   have fU:its[i]?=some u:=by simpa using hu
   rw[fk]at fU;exact jt_ fU
  subst eu;have eK:h2.get? s.heap.objs.size=some {cls:=.type "tuple",data:=.seq #[.int i tk,u']}:=(bg.2 _ hT).trans eJ;have new:AY X.prog X.w (upd H s.heap.objs.size (.tup [.int i,xs[i]])) h2 s.heap.objs.size (.tup [.int i,xs[i]]):=⟨by have:=Al;simp;lia,[.int i tk,u'],.cons ⟨tk,rfl⟩ (.cons ru .nil),_,eK,rfl,_,rfl⟩;refine⟨.ref s.heap.objs.size,upd H s.heap.objs.size (.tup [.int i,xs[i]]),I.call' (s':={s with heap:=h2,toks:=tk+1}) (ch:=[e,it]) rfl (un.track (jf_ _) hn) (hok.track hn new) I.bare (fun b hb=>?_),rfl,⟨_,_,hn,hv,rfl,rfl⟩,?_,fun b hb=>?_⟩
  ·exact (hf b hb).ch
  ·refine⟨u',by simpa using mj,?_⟩;exact iE.1.at fun o q=>(bg.2 it (qn_ bK)).trans q
  ·have cO:=hf b hb;have:∃o,s.heap.get? b=some o:=by
    rcases jD_.mp hb with rfl|hb
    ·exact⟨_,he⟩
    ·rw[ji_.mp hb];obtain⟨o,ho,_⟩:=aM;exact⟨o,ho⟩
   obtain⟨o,ho⟩:=this;rw[Aj (jE_ (jk_ ho))];exact cO.1
 done:=by
  intro X hP hw hK hc i aa s σ H E I hf st hg;subst hP hw hK;obtain⟨hi,hq⟩:=hg;subst hi;obtain⟨old,he,aM⟩:=st;obtain⟨its,rv,p,hz⟩:=I.tuple hq;have hl:=rv.length;have pt:s.heap.IsTuple a its.toArray:=p;have Dw:=Draws.tuple (prog:=X.prog) (w:=X.w) (A:=X.A.in1) (I.ok.hd hc) it a fj its.toArray;obtain⟨f0,f1,f2,f3,f4,f5⟩:=hf it (by simp);refine wpAny_pyNext_enum_endD Dw he ⟨by rw[jl_,<-hl];exact aM,pt⟩ fun h' eb=>⟨rfl,I.turned (t':=s.toks) (fun b o hb e=>eb b o hb e) f0 f1 f3 f4 f5⟩
 self:=fun A i s Q E st h=>by
  obtain⟨old,he,_⟩:=st;exact zp_ he h
noncomputable def UW (K:α3)(tl:TE):TI:=fun σ H R=>tl σ H fun x H1=>∃a xs,x=.ref a/\SqT K H1 a xs/\R (Itn K a xs) H1
theorem OY {K:α3} : UW K te σ H Z=te σ H fun x H1=>∃a xs,x=.ref a/\SqT K H1 a xs/\Z (Itn K a xs) H1:=rfl
theorem UX {K:α3} : gTup K n t v σ H N=∃a xs,v=.ref a/\SqT K H a xs/\xs.length=n/\t xs σ H N:=rfl
theorem Ri : W0 t u vs σ H N=∃v r,vs=v::r/\t v σ H fun af H'=>u r af H' N:=rfl
theorem UY : gNil vs σ H N=(vs=[]/\N σ H):=rfl
def Me {x1} (hg:Gl X "enumerate")(hm:X.mg "enumerate"=none)(he:PE X e te)(hs:starEach [e] X.env=[(false,eval e X.env)]:=by rfl):PI X (.Tuple bJ x1 bp) (.Call (.Name "enumerate" p) [e] [] pos) (UW X.K te):=by
 intro aa s σ H R I h;refine Call_ (Hv I hg hm boot_enumerate (qb_ (thn (Aa he Ad hs pos aa s σ H (fun vs H1=>∃a xs,vs=[.ref a]/\SqT X.K H1 a xs/\R (Itn X.K a xs) H1) I ?_) fun us s1 ⟨vs,H1,I1,r1,q1⟩=>?_) hs rfl))
 ·show te σ H _;have:(fun x H1=>∃a xs,x=V.ref a/\SqT X.K H1 a xs/\R (Itn X.K a xs) H1)=(fun x H1=>tNil σ H1 fun xs H2=>∃a ys,x::xs=[V.ref a]/\SqT X.K H2 a ys/\R (Itn X.K a ys) H2):=by
   funext x H1
   simp[tNil]
  rw[<-this];exact h
 ·obtain⟨a,xs,rfl,hq,q⟩:=q1;cases r1 with
  |cons r rr=>
   cases rr;cases r;obtain⟨its,rv,p,hz⟩:=I1.tuple hq;have pt:s1.heap.IsTuple a its.toArray:=p;obtain⟨oa,mn,_⟩:=id pt;have ha:=jk_ mn;refine Gx pt fun h' iF cP hsz hk=>?_;refine zp_ (s:={s1 with heap:=h' }) iF ?_;have I2:Inv X aa σ H1 {s1 with heap:=h' }:=I1.kept (t':=s1.toks) hk;refine⟨s1.heap.objs.size+1,[s1.heap.objs.size+1,s1.heap.objs.size],_,_,H1,rfl,I2,PU a (s1.heap.objs.size+1) s1.heap.objs.size (qh _) (jE_ ha) (jE_ (qS_ ha)) xs,⟨_,iF,cP⟩,fun b hb=>?_,q⟩;have cW:s1.heap.objs.size<=b:=by
    rcases jD_.mp hb with rfl|hb
    ·lia
    ·rw[ji_.mp hb];exact jf_ _
   exact I1.fpOk cW (I1.hok.fresh cW)
def forN {K:α3} (Pv:Nat->St->Hp->Prop)(h0:Pv 0 σ H)(hl:∀i σ H,i<=xs.length->Pv i σ H->SqT K H a xs)
  (hs:∀i v σ H t,xs[i]?=some v->Pv i σ H->H t=none->g (.ref t) σ (upd H t (.tup [.int i,v])) fun ai H2=>tb {D with nx:=Pv (i+1),ct:=Pv (i+1),bk:=D.nx} ai H2) (hd:∀σ H,Pv xs.length σ H->D.nx σ H):ForW (Itn K a xs) g tb D σ H:=by
 refine⟨fun i m σ H=>m=xs.length-i/\i<=xs.length/\Pv i σ H,⟨xs.length,by simp,j3_ _,h0⟩,?_⟩;rintro i m σ H ⟨rfl,hi,p⟩;by_cases aF:i<xs.length
 ·refine .inr ⟨⟨aF,hl i σ H hi p⟩,Pv (i+1),fun af H' p'=>⟨xs.length-(i+1),by lia,rfl,aF,p'⟩,fun x H' y=>?_⟩;obtain⟨t,v,hn,hv,rfl,rfl⟩:=y;exact hs i v σ H t hv p hn
 ·have e:i=xs.length:=by lia
  subst e;exact .inl ⟨⟨rfl,hl _ σ H hi p⟩,hd σ H p⟩
section
variable {td ty tv tx:TE} {D:Ends} {σ:St} {H:Hp} {Q:VK}
theorem UZ:Xg td ty σ H Q=td σ H fun x H1=>ty σ H1 fun y H2=>∃a v,x=.ref a/\DGet H2 a y (some v)/\Q v H2:=rfl
theorem OZ:QY ty td σ H Q=ty σ H fun y H1=>td σ H1 fun x H2=>∃a o,x=.ref a/\DGet H2 a y o/\Q (.bl (!o.isSome)) H2:=rfl
theorem U0:Xh td ty tv D σ H=tv σ H fun v H1=>td σ H1 fun x H2=>ty σ H2 fun y H3=>∃a H4,x=.ref a/\DPut H3 a y v H4/\D.nx σ H4:=rfl
theorem Rj:UD td ty σ H Q=td σ H fun x H1=>∃a,x=.ref a/\IsD H1 a/\ty σ H1 fun y H2=>∃o,DGet H2 a y o/\Q (o.getD .non) H2:=rfl
theorem U1 : VS fQ σ H Q=∀p,H p=none->Ky fQ σ (upd H p (.dK [])) fun ps H2=>H2 p=some (.dK [])/\∃kvs:List (Key×V),ps=kvs.map (fun kv=>(kV kv.1,kv.2))/\kvs.length<=15/\Q (.ref p) (upd H2 p (.dK (Jp [] kvs))):=rfl
theorem O0 : Ky [] σ H R=R [] H:=rfl
theorem O1 : Ky ((td,tv)::r) σ H R=td σ H fun x H1=>tv σ H1 fun y H2=>Ky r σ H2 fun ps H3=>R ((x,y)::ps) H3:=rfl
end
end L2
namespace GW
noncomputable def U2 (w:α2):List (Int×α2)->Nat->α2->List (Int×α2)
 |ents,_,[]=>ents
 |ents,x,g::r=>U2 w (if g∈ents.map (·.1) then ents else ents++[(g,w++[(x:Int)])]) (x+1) r
noncomputable def bfs (aL:α1):Nat->List (Int×α2)->Nat->List (Int×α2)
 |0,ents,_=>ents
 |f+1,ents,i=>match ents[i]? with
  |none=>ents
  |some e=>bfs aL f (U2 e.2 ents 0 (aL.getD e.1.toNat [])) (i+1)
noncomputable def Rk (aL:α1):List (Int×α2):=bfs aL (aL.length+1) [(0,[])] 0
noncomputable def Seen (L:Int)(aL:α1)(ents:List (Int×α2))(r:Int)(w:α2)(x:Nat):Prop:=∀y:Int,0<=y->y<x->∃e'∈ents,e'.1=XM aL r y/\place L e'.2<=place L (w++[y])
end GW
namespace L2
open PySem PySem.Spec PyProof.Rows GW
noncomputable def Ents (K:α3)(H:Hp)(d:Addr)(ents:List (Int×α2)):Prop:=∃kvs:List (Key×V),H d=some (.dK kvs)/\kvs.length=ents.length/\∀(i:Nat) (e:Int×α2),ents[i]?=some e->∃t,kvs[i]?=some (nS e.1,V.ref t)/\SqT K H t (e.2.map V.int)
def Ng {K:α3} (hp:H p=some (.dK kvs))(h:SqT K H t xs):SqT K (upd H p (.dK cQ)) t xs:=by
 rcases h with (q|⟨o,q⟩)|q
 ·refine .inl (.inl ?_);rw[Aj (fun z=>by rw[z,hp]at q;cases q)];exact q
 ·refine .inl (.inr ⟨o,?_⟩);rw[Aj (fun z=>by rw[z,hp]at q;cases q)];exact q
 ·exact .inr q
def Ents.no {K:α3} {ents:List (Int×α2)}(h:Ents K H d ents) (hg:g∉ents.map (·.1)):DGet H d (.int g) none:=by
 obtain⟨kvs,h1,h2,h3⟩:=h;have e:valV kvs (nS g:Key)=none:=by
  unfold valV;rw[xw_,qZ_];intro kv bU;obtain⟨i,hi,e⟩:=xq_ bU;obtain⟨t,a,_⟩:=h3 i ents[i] (by simp[show i<ents.length by lia]);have e2:kvs[i]?=some kv:=by rw[jc_ hi,e]
  rw[e2]at a;cases a;simp only[qz_];intro z;injection z with z;exact hg (jv_.mpr ⟨ents[i],jR_ _,z⟩)
 have:=DGet.k (k:=(nS g:Key)) h1;rw[e]at this;exact this
def Ents.put {K:α3} {ents:List (Int×α2)} (h:Ents K H d ents)(hg:g∉ents.map (·.1))(hz:ents.length<1000)(ht:SqT K H t (w.map V.int)):∃H',DPut H d (.int g) (.ref t) H'/\(∃kvs cQ,H d=some (.dK kvs)/\H'=upd H d (.dK cQ))/\Ents K H' d (ents++[(g,w)]):=by
 have bA:=h.no hg;obtain⟨kvs,h1,h2,h3⟩:=h;have hl:=Al;have hv:valV kvs (nS g:Key)=none:=by
  rcases bA with ⟨cQ,k,e,ey,er⟩|⟨cQ,k,b,e,ey,_⟩
  ·have e1:cQ=kvs:=by
    rcases e with e|⟨o,e⟩
    ·rw[h1]at e;cases e;rfl
    ·rw[h1]at e;cases e
   subst e1;cases k with
   |inl m=>
    have:m=g:=by injection ey with ey;exact ey.symm
    subst this;exact er.symm
   |inr m=>cases ey
  ·cases ey
 have hp:putK kvs (nS g:Key) (V.ref t)=kvs++[(nS g,V.ref t)]:=by
  unfold putK;rw[Di,hv];rfl
 refine⟨_,DPut.k (k:=(nS g:Key)) h1 s!"",⟨kvs,_,h1,rfl⟩,kvs++[(nS g,V.ref t)],by rw[Ab,hp],by simp[h2],fun i e he=>?_⟩;by_cases hi:i<ents.length
 ·rw[jw_ hi]at he;obtain⟨t',a,b⟩:=h3 i e he;exact⟨t',by rw[jw_ s!""];exact a,Ng h1 b⟩
 ·have aF:=(je_.mp he).1;rw[ju_,jU_]at aF;have e1:i=ents.length:=by lia
  subst e1;rw[jy_ (jf_ _),qL_]at he;simp at he;subst he;exact⟨t,by rw[jy_ s!"",h2,qL_];rfl,Ng h1 ht⟩
end L2
namespace L2
open PySem PySem.Spec PyProof.Rows
noncomputable def ups (n:Nat):α2:=(nJ n).map fun i:Nat=>(i:Int)
noncomputable def rNeD (K:α3)(n:Nat):R2:=fun x y H Q=>∃a c b,x=.ref a/\y=.ref c/\EqD K H n x y b/\Q (.bl (!b)) H
theorem XN {K:α3} : rNeD K n x y H Q=∃a c b,x=.ref a/\y=.ref c/\EqD K H n x y b/\Q (.bl (!b)) H:=rfl
def XO (n:Nat)(hu:X.A.units+n<cLine):OpR X (compareOp .NotEq) (rNeD X.K n):=by
 intro aa s σ H x y v u Q I rx ry h;obtain⟨a,c,b,rfl,rfl,h,q⟩:=h;cases rx;cases ry;cases n with
 |zero=>exact absurd (show false=true from h.1) jo_
 |succ n=>
  rcases h with ⟨fx,_⟩|⟨a',c',xs,ys,e1,e2,hq,e,he,rfl⟩
  ·exact absurd (show false=true from fx) jo_
  ·cases e1;cases e2;have key:∀(its aH:List Value),Vals xs its->Vals ys aH->∀j (h1:j<its.toArray.size) (h2:j<aH.toArray.size),SeqAt.EqAt X.A.in1 s its.toArray[j] aH.toArray[j] (e j):=fun its aH r1 r2 j h1 h2=>by
    have l1:=r1.length;have l2:=r2.length;rw[jl_]at h1 h2;obtain⟨u1,g1,q1⟩:=r1.get (i:=j) (x:=xs[j]'s!"") (by simp[show j<xs.length by lia]);obtain⟨u2,g2,q2⟩:=r2.get (i:=j) (x:=ys[j]'s!"") (by simp[show j<ys.length by lia]);have k1:its.toArray[j]'(by rw[jl_];exact h1)=u1:=by
     have:=(je_.mp g1).2;simpa using this
    have k2:aH.toArray[j]'(by rw[jl_];exact h2)=u2:=by
     have:=(je_.mp g2).2;simpa using this
    rw[k1,k2];exact (EqD.at I n X.A.in1 (by rw[in1_units];lia) q1 q2 (he j _ _ (by simp[show j<xs.length by lia]) (by simp[show j<ys.length by lia]))).1
   have fin:EP X aa σ Q (.bool (!(decide (xs.length=ys.length)&&(nJ (min xs.length ys.length)).all e))) s:=⟨.bl _,H,I,rfl,q⟩;rcases hq with ⟨h1,h2⟩|⟨h1,h2⟩
   ·obtain⟨its,r1,p1,_⟩:=I.list h1;obtain⟨aH,r2,p2,_⟩:=I.list h2;have l1:=r1.length;have l2:=r2.length;by_cases hl:xs.length=ys.length
    ·have:=SeqAt.RcNeAt.lists (e:=e) p1.isList p2.isList (by rw[jl_,jl_];lia) s!"" (key its aH r1 r2);rw[jl_,<-l1]at this;rw[ql_ hl,pI,<-hl,oJ]at fin;exact this _ _ _ _ fin
    ·have:=SeqAt.RcNeAt.lists_lengths (A:=X.A) p1.isList p2.isList (by rw[jl_,jl_];simp;lia) s!"";rw[qv_ hl,pf]at fin;exact this _ _ _ _ fin
   ·obtain⟨its,r1,p1,_⟩:=I.tuple h1;obtain⟨aH,r2,p2,_⟩:=I.tuple h2;have l1:=r1.length;have l2:=r2.length;have:=SeqAt.RcNeAt.tuples (e:=e) (show s.heap.IsTuple a its.toArray from p1) (show s.heap.IsTuple c aH.toArray from p2) s!"" (key its aH r1 r2);rw[jl_,jl_,<-l1,<-l2,Q2]at this;exact this _ _ _ _ fin
noncomputable def U3 (tk tv:TE):TE:=VS [(tk,tv)]
def Th (hk:PE X k tk)(hv:PE X v tv):PE X (.Dict [some k] [v] pos) (U3 tk tv):=VT (S6 hk hv VR) rfl rfl (by intro z;cases z) (by show 1<=15;decide)
theorem Rl : U3 tk tv σ H Q=∀p,H p=none->tk σ (upd H p (.dK [])) fun x H1=>tv σ H1 fun y H2=>H2 p=some (.dK [])/\∃kvs:List (Key×V),[(x,y)]=kvs.map (fun kv=>(kV kv.1,kv.2))/\kvs.length<=15/\Q (.ref p) (upd H2 p (.dK (Jp [] kvs))):=rfl
def Vals.ofIx:∀{xs:List V} {us:List Value},us.length=xs.length->(∀(i:Nat) (v:Value),us[i]?=some v->∃x,xs[i]?=some x/\RelV x v)->Vals xs us
 |[],[],_,_=>.nil
 |[],_::_,h,_=>by simp at h
 |_::_,[],h,_=>by simp at h
 |x::xs,u::us,h,k=>by
  refine .cons ?_ (Vals.ofIx (by simpa using h) fun i v hv=>?_)
  ·obtain⟨y,e,r⟩:=k 0 u rfl;cases e;exact r
  ·obtain⟨y,e,r⟩:=k (i+1) v (by simpa using hv);exact⟨y,by simpa using e,r⟩
def Nh (h:NW k v=true):RelV (kV k) v:=by
 rcases Bf h with ⟨i,t,rfl,e⟩|⟨x,t,rfl,e⟩
 ·exact⟨t,e⟩
 ·exact⟨t,e⟩
end L2
namespace L2
theorem r_in {K:α3} : rIn K ir x y H Q=∃p xs,y=.ref p/\(SqL K H p xs\/SqT K H p xs)/\Fo x=true/\xs.all Fo=true/\Q (.bl (if ir then !inV x xs else inV x xs)) H:=rfl
end L2
namespace L2
open PySem PySem.Spec PyProof.Rows
noncomputable def Itm (K:α3)(a:Addr)(xs:List V):It:=⟨fun i H=>i<xs.length/\SqL K H a xs,fun i H x H'=>∃t v,H t=none/\xs[i]?=some v/\x=.ref t/\H'=upd H t (.tup [.int i,v]),fun i H=>i=xs.length/\SqL K H a xs⟩
def PV {P:Program}{w:World}{K:α3}{bJ:List Expr}{x1}{bp:Pos}(a e it:Addr)(bK:e≠it)(fj:a≠it)(mh:a≠e)(xs:List V):Turn P w K (.Tuple bJ x1 bp) (Itm K a xs) [e,it] e (fun i h=>∃old,IsEnum h e it (i:Nat) old/\h.IsListIter it a i) where
 mem:=by simp
 obj:=fun i h st b hb=>by
  obtain⟨old,h1,o,h2,c,d⟩:=st;rcases jD_.mp hb with rfl|hb
  ·exact⟨_,h1,fun v z=>by cases z⟩
  ·rw[ji_.mp hb];exact⟨o,h2,fun v z=>by rw[d]at z;cases z⟩
 keep:=fun i h h' st k=>by
  obtain⟨old,h1,h2⟩:=st;exact⟨old,k e (by simp) _ h1,h2.at fun o q=>k it (by simp) o q⟩
 item:=by
  intro X hP hw hK hc i aa s σ H E I hf st hg;subst hP hw hK;obtain⟨hi,hq⟩:=hg;obtain⟨old,he,aM⟩:=st;obtain⟨its,rv,p,hz⟩:=I.list hq;have hl:=rv.length;have pt:s.heap.IsList a its.toArray:=p.isList;have f1:=hf e (by simp);have f2:=hf it (by simp);have Dw:=Draws.list (prog:=X.prog) (w:=X.w) (A:=X.A.in1) (I.ok.hd hc) it a fj its.toArray;refine wpAny_pyNext_enum_itemD Dw he ⟨aM,pt⟩ (by simp;lia) bK (by simp[bK,qn_ mh]) fun u h' tk hu fb iE eJ hsz hk=>?_;have hT:s.heap.objs.size≠e:=qe_ (jk_ he);refine⟨_,rfl,wpAny_letOwnedTupleGo_enum fb fun h2 mj bg=>?_⟩;have cM:∀b o,b≠e->b≠it->s.heap.get? b=some o->h2.get? b=some o:=fun b o h1 h3 q=>(bg.2 b h1).trans (hk b o h1 h3 q);obtain⟨un,hok⟩:=I.un2 cM f1 f2;have hn:H s.heap.objs.size=none:=I.hok.fresh (jf_ _);have hv:xs[i]?=some xs[i]:=by simp[hi]
  obtain⟨u',fk,ru⟩:=rv.get hv;have eu:u'=u:=by
   have fU:its[i]?=some u:=by simpa using hu
   rw[fk]at fU;exact jt_ fU
  subst eu;have eK:h2.get? s.heap.objs.size=some {cls:=.type "tuple",data:=.seq #[.int i tk,u']}:=(bg.2 _ hT).trans eJ;have new:AY X.prog X.w (upd H s.heap.objs.size (.tup [.int i,xs[i]])) h2 s.heap.objs.size (.tup [.int i,xs[i]]):=⟨by have:=Al;simp;lia,[.int i tk,u'],.cons ⟨tk,rfl⟩ (.cons ru .nil),_,eK,rfl,_,rfl⟩;refine⟨.ref s.heap.objs.size,upd H s.heap.objs.size (.tup [.int i,xs[i]]),I.call' (s':={s with heap:=h2,toks:=tk+1}) (ch:=[e,it]) rfl (un.track (jf_ _) hn) (hok.track hn new) I.bare (fun b hb=>?_),rfl,⟨_,_,hn,hv,rfl,rfl⟩,?_,fun b hb=>?_⟩
  ·exact (hf b hb).ch
  ·refine⟨u',by simpa using mj,?_⟩;exact iE.1.at fun o q=>(bg.2 it (qn_ bK)).trans q
  ·have cO:=hf b hb;have:∃o,s.heap.get? b=some o:=by
    rcases jD_.mp hb with rfl|hb
    ·exact⟨_,he⟩
    ·rw[ji_.mp hb];obtain⟨o,ho,_⟩:=aM;exact⟨o,ho⟩
   obtain⟨o,ho⟩:=this;rw[Aj (jE_ (jk_ ho))];exact cO.1
 done:=by
  intro X hP hw hK hc i aa s σ H E I hf st hg;subst hP hw hK;obtain⟨hi,hq⟩:=hg;subst hi;obtain⟨old,he,aM⟩:=st;obtain⟨its,rv,p,hz⟩:=I.list hq;have hl:=rv.length;have pt:s.heap.IsList a its.toArray:=p.isList;have Dw:=Draws.list (prog:=X.prog) (w:=X.w) (A:=X.A.in1) (I.ok.hd hc) it a fj its.toArray;obtain⟨f0,f1,f2,f3,f4,f5⟩:=hf it (by simp);refine wpAny_pyNext_enum_endD Dw he ⟨by rw[jl_,<-hl];exact aM,pt⟩ fun h' eb=>⟨rfl,I.turned (t':=s.toks) (fun b o hb e=>eb b o hb e) f0 f1 f3 f4 f5⟩
 self:=fun A i s Q E st h=>by
  obtain⟨old,he,_⟩:=st;exact zp_ he h
noncomputable def U4 (K:α3)(tl:TE):TI:=fun σ H R=>tl σ H fun x H1=>∃a xs,x=.ref a/\SqL K H1 a xs/\R (Itm K a xs) H1
theorem O2 {K:α3} : U4 K te σ H Z=te σ H fun x H1=>∃a xs,x=.ref a/\SqL K H1 a xs/\Z (Itm K a xs) H1:=rfl
def O3 {x1} (hg:Gl X "enumerate")(hm:X.mg "enumerate"=none)(he:PE X e te)(hs:starEach [e] X.env=[(false,eval e X.env)]:=by rfl):PI X (.Tuple bJ x1 bp) (.Call (.Name "enumerate" p) [e] [] pos) (U4 X.K te):=by
 intro aa s σ H R I h;refine Call_ (Hv I hg hm boot_enumerate (qb_ (thn (Aa he Ad hs pos aa s σ H (fun vs H1=>∃a xs,vs=[.ref a]/\SqL X.K H1 a xs/\R (Itm X.K a xs) H1) I ?_) fun us s1 ⟨vs,H1,I1,r1,q1⟩=>?_) hs rfl))
 ·show te σ H _;have:(fun x H1=>∃a xs,x=V.ref a/\SqL X.K H1 a xs/\R (Itm X.K a xs) H1)=(fun x H1=>tNil σ H1 fun xs H2=>∃a ys,x::xs=[V.ref a]/\SqL X.K H2 a ys/\R (Itm X.K a ys) H2):=by
   funext x H1
   simp[tNil]
  rw[<-this];exact h
 ·obtain⟨a,xs,rfl,hq,q⟩:=q1;cases r1 with
  |cons r rr=>
   cases rr;cases r;obtain⟨its,rv,p,hz⟩:=I1.list hq;have pt:s1.heap.IsList a its.toArray:=p.isList;obtain⟨oa,mn,_⟩:=id pt;have ha:=jk_ mn;refine call_enumerate_list pt fun h' iF cP hsz hk=>?_;refine zp_ (s:={s1 with heap:=h' }) iF ?_;have I2:Inv X aa σ H1 {s1 with heap:=h' }:=I1.kept (t':=s1.toks) hk;refine⟨s1.heap.objs.size+1,[s1.heap.objs.size+1,s1.heap.objs.size],_,_,H1,rfl,I2,PV a (s1.heap.objs.size+1) s1.heap.objs.size (qh _) (jE_ ha) (jE_ (qS_ ha)) xs,⟨_,iF,cP⟩,fun b hb=>?_,q⟩;have cW:s1.heap.objs.size<=b:=by
    rcases jD_.mp hb with rfl|hb
    ·lia
    ·rw[ji_.mp hb];exact jf_ _
   exact I1.fpOk cW (I1.hok.fresh cW)
def forM {K:α3} (Pv:Nat->St->Hp->Prop)(h0:Pv 0 σ H)(hl:∀i σ H,i<=xs.length->Pv i σ H->SqL K H a xs)
  (hs:∀i v σ H t,xs[i]?=some v->Pv i σ H->H t=none->g (.ref t) σ (upd H t (.tup [.int i,v])) fun ai H2=>tb {D with nx:=Pv (i+1),ct:=Pv (i+1),bk:=D.nx} ai H2) (hd:∀σ H,Pv xs.length σ H->D.nx σ H):ForW (Itm K a xs) g tb D σ H:=by
 refine⟨fun i m σ H=>m=xs.length-i/\i<=xs.length/\Pv i σ H,⟨xs.length,by simp,j3_ _,h0⟩,?_⟩;rintro i m σ H ⟨rfl,hi,p⟩;by_cases aF:i<xs.length
 ·refine .inr ⟨⟨aF,hl i σ H hi p⟩,Pv (i+1),fun af H' p'=>⟨xs.length-(i+1),by lia,rfl,aF,p'⟩,fun x H' y=>?_⟩;obtain⟨t,v,hn,hv,rfl,rfl⟩:=y;exact hs i v σ H t hv p hn
 ·have e:i=xs.length:=by lia
  subst e;exact .inl ⟨⟨rfl,hl _ σ H hi p⟩,hd σ H p⟩
theorem Rm : Uy x vs H Q=∃l xs i k y,x=.ref l/\vs=[.int i]/\H l=some (.lst xs) /\ -(2 ^ 63)<=i/\i<2 ^ 63/\seqIndex? i xs.length=some k/\xs[k]?=some y/\Q y (upd H l (.lst (xs.eraseIdx k))):=rfl
noncomputable def rng (i j:Int):α2:=(nJ (j-i).toNat).map fun k:Nat=>i+(k:Int)
end L2
namespace PySem
open Sem (wp)
noncomputable def Heap.DEnt (h:Heap)(d:Addr)(es:Array DictEntry)(ep:Nat):Prop:=∃o,h.get? d=some o/\o.ExactDict/\o.data=.dict es ep
section
variable {prog:Program} {w:World} {A:Around} {E:Value->Shared->Prop} {s:Shared} {d it:Addr} {es:Array DictEntry} {i ep:Nat}
def Heap.DEnt.typeIs (h:s.heap.DEnt d es ep):s.TypeIs (.ref d) "dict" := let ⟨o,ho,hc,_⟩:=h;⟨o,ho,hc.1⟩
def Heap.DEnt.at {h h':Heap}(x:h.DEnt d es ep)(e:∀o,h.get? d=some o->h'.get? d=some o):h'.DEnt d es ep:=let ⟨o,ho,r⟩:=x;⟨o,e _ ho,r⟩
def Heap.DEnt.lt_size {h:Heap}(x:h.DEnt d es ep):d<h.objs.size:=let ⟨_,ho,_⟩:=x;jk_ ho
def N9 (hd:(d==sysModules)=false)(hm:s.heap.DEnt d es ep)
  (hQ:Q (.ref s.heap.objs.size) {s with heap:=s.heap.push {cls:=.type "dict_keyiterator",data:=.fields #[.ref d,.int 0 0,.int es.size 0,.int ep 0]} }):wpAny (model prog w) A (pyIter (.ref d)) Q E s:=by
 have hT:=hm.typeIs;obtain⟨o,ho,hc,fV⟩:=id hm;refine wpAny_pyIter_slot hT F.slot_dict_iter (qx_ F.slot_dict_iter hT F.entry_dict_iter (?_:wpAny _ _ (Builtin.«dict.__iter__» _) _ _ s) (F.args_dict_iter_1 _));unfold Builtin.«dict.__iter__»;refine wpAny_bind ?_;unfold Builtin.Dict.dictSlotNone;refine wpAny_bind (wpAny_notOrdered_dict hT ?_);show wpAny _ _ (pure (Value.ref d)) _ _ s;refine jm_ ?_;show wpAny _ _ (Builtin.Dict.showsAll d >>= _) _ _ s;unfold Builtin.Dict.showsAll;rw[if_neg (fun z=>by rw[hd]at z;cases z)];refine jd_ (jm_ (jd_ (wpAny_dictEntries ho fV (jd_ (wpAny_dictEpoch ho fV ?_)))));refine jd_ (qk_ (jm_ ⟨_,rfl,"dict_keyiterator",_,⟨_,jr_ _ rfl,rfl⟩,qI_.lookup,?_⟩));simpa [rawInt] using hQ
def JV (aM:s.heap.IsKeyIter it d i es.size ep)(hm:s.heap.DEnt d es ep)(aF:i<es.size)
  (hQ:∀h',h'.IsKeyIter it d (i+1) es.size ep->Heap.SameBut it s.heap h'->Q (some es[i].key) {s with heap:=h' }):wpAny (model prog w) A (pyNext (.ref it)) Q E s:=by
 obtain⟨o,ho,hc,hd⟩:=id aM;obtain⟨od,cX,cI,b9⟩:=id hm;have dJ:Builtin.Dict_items.ownsTuple "dict_keyiterator"=false:=by decide
 unfold pyNext;refine jd_ (ze_ (qy_ (name:=Str.ofString "__next__") aM.typeIs qI_ (qx_ qI_ aM.typeIs F.entry_dict_keyiterator_next ?_ (F.args_dict_keyiterator_next_1 _))));refine jd_ (jm_ (jd_ (jd_ ?_)))
 first|refine jd_ (q1_ aM.typeIs (jm_ (jd_ (zs_ ho hd ?_))))|refine jd_ (xm_ aM.typeIs (jm_ (jd_ (zs_ ho hd ?_))))
 simp only[dJ,xg_,xH_];show wpAny _ _ (if (Value.ref d==Value.none)=true then _ else _) _ _ s;rw[if_neg (show ¬ ((Value.ref d==Value.none)=true) from fun z=>jo_ z)];refine jd_ (jm_ (jd_ (wpAny_dictEntries cX b9 ?_)));rw[if_neg (by simp)];refine jd_ (jm_ (jd_ (wpAny_dictEpoch cX b9 ?_)));rw[if_neg (by simp)];refine jm_ ?_;simp only[show ¬ ((i:Int)<0) from by lia,xH_,jz_,Array.getElem?_eq_getElem aF];refine jd_ ?_
 first|refine jd_ (q1_ aM.typeIs (jm_ (jd_ (zu_ aM.typeIs ?_))))|refine jd_ (xm_ aM.typeIs (jm_ (jd_ (zu_ aM.typeIs ?_))))
 show wpAny _ _ (setField (.ref it) 1 (rawInt ((i:Int)+1)) >>= _) _ _ s;refine jd_ (wpAny_setField ho hd (by simp) ?_);have cP:(s.heap.update it (Obj.mapFields (·.setIfInBounds 1 (rawInt ((i:Int)+1))))).IsKeyIter it d (i+1) es.size ep:=⟨_,qW_ _ ho (Obj.isFreed_of_fields (Obj.data_mapFields hd _)),(Obj.cls_mapFields ..).trans hc,by rw[Obj.data_mapFields hd];simp[rawInt]⟩;refine jd_ (xc_ (jd_ (zu_ (s:={s with heap:=s.heap.update it (Obj.mapFields (·.setIfInBounds 1 (rawInt ((i:Int)+1))))}) cP.typeIs ?_)));show wpAny _ _ (pure es[i].key) _ _ _;exact jm_ (jm_ ⟨_,rfl,jm_ (hQ _ cP (xU_ ..))⟩)
def KG (hh:A.handled=none)(aM:s.heap.IsKeyIter it d i es.size ep)(hm:s.heap.DEnt d es ep)(hge:es.size<=i)
  (hQ:∀h',Heap.ExtBut it s.heap h'->Q none {s with heap:=h' }):wpAny (model prog w) A (pyNext (.ref it)) Q E s:=by
 obtain⟨o,ho,hc,hd⟩:=id aM;obtain⟨od,cX,cI,b9⟩:=id hm;have dJ:Builtin.Dict_items.ownsTuple "dict_keyiterator"=false:=by decide
 unfold pyNext;refine jd_ (ze_ (qy_ (name:=Str.ofString "__next__") aM.typeIs qI_ (qx_ qI_ aM.typeIs F.entry_dict_keyiterator_next ?_ (F.args_dict_keyiterator_next_1 _))));refine jd_ (jm_ (jd_ (jd_ ?_)))
 first|refine jd_ (q1_ aM.typeIs (jm_ (jd_ (zs_ ho hd ?_))))|refine jd_ (xm_ aM.typeIs (jm_ (jd_ (zs_ ho hd ?_))))
 simp only[dJ,xg_,xH_];show wpAny _ _ (if (Value.ref d==Value.none)=true then _ else _) _ _ s;rw[if_neg (show ¬ ((Value.ref d==Value.none)=true) from fun z=>jo_ z)];refine jd_ (jm_ (jd_ (wpAny_dictEntries cX b9 ?_)));rw[if_neg (by simp)];refine jd_ (jm_ (jd_ (wpAny_dictEpoch cX b9 ?_)));rw[if_neg (by simp)];refine jm_ ?_;simp only[show ¬ ((i:Int)<0) from by lia,xH_,jz_,Array.getElem?_eq_none hge];refine jd_ ?_
 first|refine jd_ (q1_ aM.typeIs (jm_ ?_))|refine jd_ (xm_ aM.typeIs (jm_ ?_))
 show wpAny _ _ (setField (.ref it) 0 .none >>= _) _ _ s;refine jd_ (wpAny_setField ho hd (by simp) ?_);show wpAny _ _ (newExc (.type "StopIteration") [] >>= _) _ _ _;refine jd_ ?_;simp only[newExc,newTuple];refine jd_ (qk_ ?_ (by size_fits));refine jd_ (m:=firstArgMember _ _) (wpAny_of_eq (a:=Value.none) (by first|rfl|(simp only[firstArgMember];rfl)) (qk_ ?_ (by size_fits)));simp only[raiseNew];refine jd_ (wpAny_handled ?_);rw[show A.in1.handled=none from hh];refine jd_ (jm_ (wpAny_throw ?_));refine jd_ (wpAny_isInstance (T := "StopIteration") (b:=true) ⟨_,jr_ _ rfl,rfl⟩ isSubtype_stop (jm_ (hQ _ (((xU_ ..).extBut.push _).push _))))
def Walks.dent (hh:A.handled=none)(I:Addr)(aC:d≠I):Walks prog w A I [I,d] [I] es.size (fun i v=>∃e,es[i]?=some e/\v=e.key) (fun i h=>h.IsKeyIter I d i es.size ep/\h.DEnt d es ep) where
 sub:=fun b hb=>by simp at hb;simp[hb]
 frame:=fun _ _ _ st hk=>⟨st.1.at fun o e=>hk I (by simp) o e,st.2.at fun o e=>hk d (by simp) o e⟩
 item:=fun i s Q E hi st hQ=>by
  refine JV st.1 st.2 hi fun h' cP gN=>?_;exact hQ _ h' s.toks ⟨es[i],by simp[hi],rfl⟩ ⟨cP,st.2.at fun o e=>gN.extBut d o aC e⟩ fun b o hb e=>gN.extBut b o (fun z=>hb (by simp[z])) e
 done:=fun s Q E st hQ=>KG hh st.1 st.2 (jf_ _) fun h' iF=>hQ h' s.toks fun b o hb e=>iF b o (fun z=>hb (by simp[z])) e
 self:=fun _ _ _ _ st hQ=>wpAny_pyIter_keyiter st.1 hQ
def Ti (lo:(d==sysModules)=false):sO prog w "dict" d d es.size (fun i v=>∃e,es[i]?=some e/\v=e.key) (fun h=>h.DEnt d es ep) where
 type:=fun _ hm=>hm.typeIs
 there:=fun _ hm=>⟨hm.lt_size,hm.lt_size⟩
 keep:=fun _ _ hm hk=>hm.at fun o e=>hk d (.inl rfl) o e
 notList:=by decide
 notTuple:=by decide
 hint:=fun _ _ _ _ hm hq=>rB hm.typeIs hq
 iter:=fun _ _ hh hm=>⟨_,_,(fun _ _ hq=>N9 lo hm hq),Walks.dent hh _ (jE_ hm.lt_size),⟨⟨_,jr_ _ rfl,rfl,rfl⟩,hm.at fun o e=>jg_ _ e⟩⟩
end
end PySem
namespace L2
open PySem PySem.Spec PyProof.Rows
def Gr {α β:Type}{F:α->β->Prop}:∀{l:List α} {m:List β} {i:Nat} {a:α},Paired F l m->l[i]?=some a->∃b,m[i]?=some b/\F a b
 |_,_,_,_,.nil,e=>by simp at e
 |_,_,0,_,.cons r _,e=>by simp at e;subst e;exact⟨_,rfl,r⟩
 |_,_,i+1,a,.cons _ t,e=>by
  obtain⟨b,h1,h2⟩:=Gr (i:=i) (a:=a) t (by simpa using e);exact⟨b,by simpa using h1,h2⟩
def V2 (ok:HOk P w H h)(e:Rd H a (.dT kvs)):
  ∃o es ep,h.get? a=some o/\o.ExactDict/\o.data=.dict es ep/\es.size=kvs.length/\(a==sysModules)=false/\kvs.length<=sizeLine /\
   ∀(i:Nat) (k:List Key) (v:V),kvs[i]?=some (k,v)->∃b en,es[i]?=some en/\en.key=.ref b/\H b=some (.tup (k.map kV)):=by
 obtain⟨z,y,xs,r,o,es,ep,h1,h2,h3,h4,h5⟩:=(show AY P w H h a (.dT kvs) from S5 ok e);have hl:=x5_ r;have hs:es.size=kvs.length:=by rw[<-qR_,h4,ja_,hl]
 refine⟨o,es,ep,h1,h2,h3,hs,y,z,fun i k v hk=>?_⟩;obtain⟨q,hq,e1,e2,_⟩:=Gr r hk;refine⟨q.2.1,entryOfKey (tupleKind (AX P w)) q,?_,rfl,e2⟩;rw[<-xd_,h4,jh_,hq];rfl
def Dz (hc:X.calm=true):Em X (.type "list") (fun xs H Q=>∃p kvs,xs=[.ref p]/\Rd H p (.dT kvs)/\∀l rs,H l=none->rs.length=kvs.length ->
  (∀(i:Nat) (k:List Key) (v:V),kvs[i]?=some (k,v)->∃b,rs[i]?=some (V.ref b)/\H b=some (.tup (k.map kV)))->Q (.ref l) (upd H l (.lst rs))):=by
 intro aa s σ H xs us Q I r h;obtain⟨p,kvs,rfl,hp,q⟩:=h;obtain⟨u,rfl,rx⟩:=vals1 r;cases rx;obtain⟨o,es,ep,g1,g2,g3,g4,g5,g6,g7⟩:=V2 I.hok hp;refine sx (Ti (es:=es) (ep:=ep) g5) (I.ok.hd hc) ⟨o,g1,g2,g3⟩ s!"" fun h' tk acc' c' hk hD bT=>?_
 let f:DictEntry->V:=fun e=>match e.key with | .ref b=>V.ref b|_=>.non
 have aZ:∀(i:Nat) (k:List Key) (v:V),kvs[i]?=some (k,v)->∃b,(es.toList.map f)[i]?=some (V.ref b)/\H b=some (.tup (k.map kV)):=fun i k v bU=>by
  obtain⟨b,en,e1,e2,e3⟩:=g7 i k v bU;refine⟨b,?_,e3⟩;rw[jh_,xd_,e1];show some (f en)=_;simp only[f,e2]
 have ak:(es.toList.map f).length=kvs.length:=by rw[ja_,qR_,g4]
 have hv:Vals (es.toList.map f) acc'.toList:=by
  refine Vals.ofIx (by rw[ak,<-g4];simpa using bT.1) fun i v hv=>?_;obtain⟨e,he,rfl⟩:=bT.2 i v (by simpa using hv);have hi:i<kvs.length:=by rw[<-g4];exact (qN_.mp he).1
  obtain⟨b,en,e1,e2,e3⟩:=g7 i kvs[i].1 kvs[i].2 (by simp[hi]);rw[he]at e1;cases e1;refine⟨V.ref b,?_,by rw[e2];rfl⟩;rw[jh_,xd_,he];show some (f e)=_;simp only[f,e2]
 exact⟨.ref _,_,I.laid (t':=tk) hk (jf_ _) (show AY X.prog X.w _ h' _ (.lst (es.toList.map f)) from ⟨by rw[ak];exact g6,acc'.toList,c',hv,by simpa using hD⟩),rfl,q _ _ (I.hok.fresh (jf_ _)) ak aZ⟩
noncomputable def Oa (tk tv:TE):TE:=fun σ H Q=>∀p,H p=none->tk σ (upd H p (.dT [])) fun x H1=>tv σ H1 fun y H2=>H2 p=some (.dT [])/\∃b k,x=.ref b/\H2 b=some (.tup (k.map kV))/\Q (.ref p) (upd H2 p (.dT [(k,y)]))
theorem O4 : Oa tk tv σ H Q=∀p,H p=none->tk σ (upd H p (.dT [])) fun x H1=>tv σ H1 fun y H2=>H2 p=some (.dT [])/\∃b k,x=.ref b/\H2 b=some (.tup (k.map kV))/\Q (.ref p) (upd H2 p (.dT [(k,y)])):=rfl
def Ro (hu:X.A.units+1<cLine)(hk:PE X k tk)(hv:PE X v tv):PE X (.Dict [some k] [v] pos) (Oa tk tv):=by
 intro aa s σ H Q I q;have hn:=I.hok.fresh (jf_ s.heap.objs.size);have I1:=I.laid (a:=s.heap.objs.size) (o:=.dT []) (h':=s.heap.push {cls:=.type "dict",data:=.dict #[]}) (t':=s.toks) (fun _ _ q=>jg_ _ q) (jf_ _) (L9 s.heap I.big);refine wpAny_Dict_any rfl rfl (by intro z;cases z) (by show 1<=15;decide) (pairTrees_cons_walk (thn (hk aa _ σ _ _ I1 (q _ hn)) fun u s1 ⟨x,H1,J1,rx,q1⟩=>thn (hv aa s1 σ H1 _ J1 q1) fun w2 s2 ⟨y,H2,J2,ry,q2⟩=>pairTrees_nil_walk ?_));obtain⟨e,b,ks,rfl,hb,q3⟩:=q2;obtain rfl:u=Value.ref b:=rx;obtain⟨z,hd,xs,aX,dd⟩:=VO J2.hok e;cases aX;unfold storeAll;rw[oS];refine jd_ (jd_ (wpAny_dictSet_heap (hsz:=by simp) (show (tupleKind (AX X.prog X.w)).room X.A from (show X.A.units<cLine by lia)) (Jo J2.hok hb) dd fun h' eC hs=>jm_ ?_));show wpAny _ _ (forIn [] PUnit.unit _) _ _ _;rw[pj];refine jm_ ⟨.ref s.heap.objs.size,_,?_,rfl,q3⟩;obtain⟨qo,es,ep,hq,h2,h3,h4,_,h5⟩:=eC;have hl:([(ks,y)]:List (List Key×V)).length<=sizeLine:=by rw[zL_];simp
 refine IM J2 (by rw[e];exact nL) hs ⟨qo,hq⟩ ⟨hl,hd,_,KT.keeps (.cons ⟨rfl,hb,ry⟩ .nil) fun c ys ec=>?_,qo,es,ep,hq,h2,h3,h4,h5⟩;rw[Aj (Qv ec e (fun z=>nomatch z))];exact ec
def Tj {X:Cx}{i:Nat}{x:Str}{k v:Expr}{tk tv:TE}{pos bo dpos:Pos}(hu:X.A.units+1<cLine)(hN:X.N.Nodup)(hi:X.N[i]?=some x)(hx:Loc X.env.scope x)(hk:PE X k tk)(hv:PE X v tv)(hs:swapsWith (.Dict [some k] [v] dpos) (some (.Name x bo)) pos.line X.env=pure false)
  (hf:X.fn x=true\/X.env.scope.names.lookup x=some .local):PS X (.Assign [.Name x bo] (.Dict [some k] [v] dpos) pos) (tAsg (Oa tk tv) (IJ i)):=Jm hN hi hx (Ro hu hk hv) hs hf
end L2
namespace GB
open GW
variable {α:Type} [DecidableEq α]
noncomputable def Yx (step:α->Int->α)(a:α)(ws:α2):α:=ws.foldl step a
noncomputable def put (step:α->Int->α)(r:α)(w:α2)(ents:List (α×α2))(x:Nat):List (α×α2):=if step r x∈ents.map (·.1) then ents else ents++[(step r x,w++[(x:Int)])]
structure B (L:Int)(step:α->Int->α)(st:α)(ok:α->Prop)(ents:List (α×α2))(i:Nat)(top:Int):Prop where
 hd:ents[0]?=some (st,[])
 il:i<=ents.length
 sh:∀(j:Nat) (e:α×α2),ents[j]?=some e->e.2.length<=j
 nod:(ents.map (·.1)).Nodup
 rng:∀e∈ents,ok e.1
 wd:∀e∈ents,isW L e.2=true/\Yx step st e.2=e.1
 inc:∀(j k:Nat) (a b:α×α2),j<k->ents[j]?=some a->ents[k]?=some b->place L a.2<place L b.2
 bnd:∀e∈ents,place L e.2<top
 don:∀j,j<i->∀e,ents[j]?=some e->∀x:Int,0<=x->x<L->∃e'∈ents,e'.1=step e.1 x/\place L e'.2<=place L (e.2++[x])
variable {L:Int} {step:α->Int->α} {st:α} {ok:α->Prop} {ents:List (α×α2)} {i:Nat} {top:Int}
noncomputable def Yy (aL:α1)(r:Int)(ws:α2):Int:=ws.foldl (XM aL) r
end GB
namespace L2
open PySem PySem.Spec PyProof.Rows GW GB
noncomputable def TK (H H':Hp):Prop:=∀b xs,H b=some (.tup xs)->H' b=some (.tup xs)
def TK.of (s:Same H H'):TK H H':=fun b xs h=>s b _ h
def TK.trans (a:TK H H')(b:TK H' iG):TK H iG:=fun c xs h=>b c xs (a c xs h)
def TK.new (h:H p=none):TK H (upd H p o):=TK.of (Same.new h)
def TK.lst {H:Hp}{p:Addr}{o:HO}{xs:List V}(h:H p=some (.lst xs)):TK H (upd H p o):=fun b ys e=>by rw[Aj (fun z=>by rw[z,h]at e;cases e)];exact e
def TK.dT {H:Hp}{p:Addr}{o:HO}{kvs:List (List Key×V)}(h:H p=some (.dT kvs)):TK H (upd H p o):=fun b ys e=>by rw[Aj (fun z=>by rw[z,h]at e;cases e)];exact e
end L2
namespace L2
theorem Rp : UA σ H Q=∀p,H p=none->Q (.ref p) (upd H p (.dK [])):=rfl
theorem Rq : UB σ H Q=∀p,H p=none->Q (.ref p) (upd H p (.dT [])):=rfl
end L2
namespace L2
open PySem PySem.Spec PyProof.Rows GW
def Same.none (s:Same H H') (h:H' p=none):H p=none:=by
 cases e:H p with
 |none=>rfl
 |some u=>rw[s _ _ e]at h;cases h
end L2
namespace L2
open PySem PySem.Spec PyProof.Rows
def Ob:∀(names:List (Str×NameKind)) (h:Heap) (ah:List (Str×Addr)) (x:Str) (c:Addr),(cellsFrom h.objs.size names ah).lookup x=some c->((pushCells h names).IsCell c none/\h.objs.size<=c)\/ah.lookup x=some c
 |[],_,_,_,_,e=>.inr e
 | (y,k)::r,h,ah,x,c,e=>by
  unfold cellsFrom at e;unfold pushCells;by_cases hk:(k == .cell)=true
  ·rw[if_pos hk]at e ⊢;have e':(cellsFrom (h.push {cls:=.type "cell",data:=.cell none}).objs.size r ((y,h.objs.size)::ah)).lookup x=some c:=by rw[j9_];exact e
   rcases Ob r _ _ x c e' with ⟨a,b⟩|q
   ·rw[j9_]at b;exact .inl ⟨a,xn_ b⟩
   ·rw[jX_]at q;cases hx:x==y with
    |true=>
     rw[hx]at q;have:h.objs.size=c:=jt_ q;subst this;exact .inl ⟨⟨_,pushCells_keeps _ _ _ _ (jr_ _ rfl),rfl⟩,jf_ _⟩
    |false=>rw[hx]at q;exact .inr q
  ·rw[if_neg hk]at e ⊢;exact Ob r h ah x c e
def Kk:∀(names:List (Str×NameKind)) (n:Nat) (ah:List (Str×Addr)) (x:Str) (c:Addr),(cellsFrom n names ah).lookup x=some c->n<=c\/ah.lookup x=some c
 |[],_,_,_,_,e=>.inr e
 | (y,k)::r,n,ah,x,c,e=>by
  unfold cellsFrom at e;by_cases hk:(k == .cell)=true
  ·rw[if_pos hk]at e;rcases Kk r _ _ x c e with b|q
   ·exact .inl (xn_ b)
   ·rw[jX_]at q;cases hx:x==y with
    |true=>rw[hx]at q;have:n=c:=jt_ q;exact .inl (pX this)
    |false=>rw[hx]at q;exact .inr q
  ·rw[if_neg hk]at e;exact Kk r n ah x c e
def Rr:∀(names:List (Str×NameKind)) (n:Nat) (ah:List (Str×Addr)),(∀x y c,ah.lookup x=some c->ah.lookup y=some c->x=y)->(∀x c,ah.lookup x=some c->c<n)->∀x y c,(cellsFrom n names ah).lookup x=some c->(cellsFrom n names ah).lookup y=some c->x=y
 |[],_,_,hi,_,x,y,c,e1,e2=>hi x y c e1 e2
 | (z,k)::r,n,ah,hi,hb,x,y,c,e1,e2=>by
  unfold cellsFrom at e1 e2;by_cases hk:(k == .cell)=true
  ·rw[if_pos hk]at e1 e2;refine Rr r (n+1) ((z,n)::ah) (fun x y c h1 h2=>?_) (fun x c h=>?_) x y c e1 e2
   ·rw[jX_]at h1 h2;cases hx:x==z with
    |true=>
     cases hy:y==z with
     |true=>rw[xk_.mp hx,xk_.mp hy]
     |false=>
      rw[hx]at h1;rw[hy]at h2;have e:n=c:=jt_ h1;exact absurd (hb y c h2) (by rw[<-e];exact jY_ _)
    |false=>
     cases hy:y==z with
     |true=>
      rw[hx]at h1;rw[hy]at h2;have e:n=c:=jt_ h2;exact absurd (hb x c h1) (by rw[<-e];exact jY_ _)
     |false=>rw[hx]at h1;rw[hy]at h2;exact hi x y c h1 h2
   ·rw[jX_]at h;cases hx:x==z with
    |true=>rw[hx]at h;have e:n=c:=jt_ h;rw[<-e];exact q0_ _
    |false=>rw[hx]at h;exact qS_ (hb x c h)
  ·rw[if_neg hk]at e1 e2;exact Rr r n ah hi hb x y c e1 e2
def Oc:∀(names:List (Str×NameKind)) (n:Nat) (ah:List (Str×Addr)) (x:Str),(∀p∈names,p.1=x->p.2 ≠ .cell)->(cellsFrom n names ah).lookup x=ah.lookup x
 |[],_,_,_,_=>rfl
 | (y,k)::r,n,ah,x,h=>by
  unfold cellsFrom;by_cases hk:(k == .cell)=true
  ·rw[if_pos hk,Oc r _ _ x fun p hp=>h p (jp_ _ hp),jX_];cases hx:x==y with
   |true=>exact absurd (xk_.mp hk) (h (y,k) jA_ (xk_.mp hx).symm)
   |false=>rfl
  ·rw[if_neg hk];exact Oc r n ah x fun p hp=>h p (jp_ _ hp)
def Ni {globals:Addr}
  (hQ:Q {scope:=sc,locals:=s.heap.objs.size,globals,cells:=cellsFrom (s.heap.objs.size+1) sc.names cl,qual,func:=none,code:=outer.code,frame:=outer.frame,builtins:=outer.builtins} {s with heap:=pushCells (s.heap.push {cls:=.type "dict",data:=.dict #[]}) sc.names}):
  wpAny M A (newFunctionEnv sc globals cl [] qual none .none (some outer)) Q E s:=by
 simp only[newFunctionEnv,xe_,zZ_];refine jd_ (wpAny_alloc (jd_ (wpAny_layCells _ (fun name kind cells=>by cases hkc:kind==NameKind.cell<;>simp[hkc]) _ _ _ _ ?_)));rw[show ({s with heap:=s.heap.push {cls:=.type "dict",data:=.dict #[]} }:Shared).heap.objs.size=s.heap.objs.size+1 from j9_ ..];refine jd_ ?_;rw[pj];exact jm_ (jm_ hQ)
noncomputable abbrev ownC (X:Cx)(sc:Scope)(C:Addr):List (Str×Addr):=cellsFrom (C+1) sc.names (clOf X.env sc.names [])
noncomputable abbrev Cx.blkC (X:Cx)(N:List Str)(sc:Scope)(C:Addr)(s₀:Shared)(H₀:Hp)(ex:List Addr):Cx:=
 {X with N:=N,env:=compEnvC sc (ownC X sc C) C X.env,outer:=X.stack,s₀:=s₀,H₀:=H₀,ex:=ex,fn:=fun x=>sc.names.lookup x==some .cell,pn:=[],xe:=fun _ _=>False}
def KH {env:Env}:∀(l:List (Str×NameKind)) (ah:List (Str×Addr)) (x:Str) (c:Addr),(x,c)∈clOf env l ah->(x,NameKind.free)∈l\/(x,c)∈ah
 |[],_,_,_,h=>.inr h
 | (n,k)::r,ah,x,c,h=>by
  unfold clOf at h;by_cases hk:(k == .free)=true
  ·rw[if_pos hk]at h;rcases KH r _ x c h with q|q
   ·exact .inl (jp_ _ q)
   ·rcases jD_.mp q with q|q
    ·cases q;rw[xk_.mp hk];exact .inl jA_
    ·exact .inr q
  ·rw[if_neg hk]at h;rcases KH r _ x c h with q|q
   ·exact .inl (jp_ _ q)
   ·exact .inr q
structure BlkScC (X:Cx)(sc:Scope):Prop where
 kind:sc.kind=.function
 one:∀y∈sc.names,∀z∈sc.names,y.1=z.1->y.2=z.2
 loc:∀y∈sc.names,y.2=.local->sc.names.lookup y.1=some .local
 free:∀y∈sc.names,y.2=.free->X.env.kindOf y.1=some .cell\/X.env.kindOf y.1=some .free
section
variable {X:Cx} {aa:α7} {σ:St} {H:Hp} {s:Shared} {sc:Scope} {fp:List Addr}
def LJ (I:Inv X aa σ H s)(S:BlkScC X sc):∀p∈sc.names,p.2=.free->∃c,X.env.cells.lookup p.1=some c:=fun p hp e=>I.ok.has p.1 (S.free p hp e)
def EJ (I:Inv X aa σ H s)(S:BlkScC X sc) (h:(clOf X.env sc.names []).lookup x=some c):X.env.cells.lookup x=some c:=
 Kf sc.names [] (LJ I S) (fun q hq=>by cases hq) (x,c) (j4_ h)
def IV (I:Inv X aa σ H s)(S:BlkScC X sc) (h:(ownC X sc C).lookup x=some c):C+1<=c\/X.env.cells.lookup x=some c:=by
 rcases Kk _ _ _ _ _ h with q|q
 ·exact .inl q
 ·exact .inr (EJ I S q)
def EK {env:Env}:∀{names:List (Str×NameKind)} {x:Str} {k:NameKind},(names.map (relF env)).lookup x=some k->(k=.cell\/k=.free)->(x,NameKind.free)∈names\/names.lookup x=some .cell
 |[],_,_,h,_=>by simp at h
 | (n,k')::r,x,k,h,hk=>by
  have ih := @EK env r x k;rw[jP_]at h;rw[jX_];by_cases hb:(k'==NameKind.free&&env.scope.kind == .function&&env.kindOf n==some .cell)=true
  ·rw[Kg hb,jX_]at h;cases hx:x==n with
   |true=>
    have e:x=n:=by simpa using hx
    subst e;have e2:k'=.free:=by
     simp only[jW_]at hb;simpa using hb.1.1
    subst e2;exact .inl jA_
   |false=>
    rw[hx]at h;rcases ih h hk with q|q
    ·exact .inl (jp_ _ q)
    ·exact .inr q
  ·rw[Ma hb,jX_]at h;cases hx:x==n with
   |true=>
    rw[hx]at h;have e:x=n:=by simpa using hx
    subst e;have e2:k'=k:=jt_ h;subst e2;rcases hk with rfl|rfl
    ·exact .inr rfl
    ·exact .inl jA_
   |false=>
    rw[hx]at h;rcases ih h hk with q|q
    ·exact .inl (jp_ _ q)
    ·exact .inr q
def V3 {N:List Str}{C:Addr}(I:Inv X aa σ H s)(S:BlkScC X sc)(hC:s.heap.objs.size<=C)(hf:∀b∈fp,FpOk X aa H b)(ho:∀b∈fp,∃o,s.heap.get? b=some o):(X.blkC N sc C s H fp).Ok where
 mod:=I.ok.mod
 kind:=S.kind
 glob:=I.ok.glob
 blt:=I.ok.blt
 above:=hC
 inj:=fun x y c h1 h2=>by
  refine Rr sc.names (C+1) (clOf X.env sc.names []) (fun x y c h1 h2=>I.ok.inj x y c (EJ I S h1) (EJ I S h2)) (fun x c h=>?_) x y c h1 h2;obtain⟨v,q⟩:=I.cell x c (EJ I S h);exact qS_ (js_ q.lt hC)
 has:=fun x hx=>by
  have fR:(x,NameKind.free)∈sc.names\/sc.names.lookup x=some .cell:=by
   rcases hx with hx|hx
   ·exact EK (env:=X.env) hx (.inl rfl)
   ·exact EK (env:=X.env) hx (.inr rfl)
  refine qr_.mp (zj_ sc.names (C+1) (clOf X.env sc.names []) ?_);rcases fR with q|q
  ·obtain⟨c,hc⟩:=Gp (env:=X.env) sc.names [] x (.inl q);obtain⟨c',e⟩:=Bc hc;exact .inr (by rw[e];rfl)
  ·exact .inl q
 cab:=fun x c h e=>by
  have hx:sc.names.lookup x=some .cell:=by simpa using h
  rcases Kk _ _ _ _ _ e with q|q
  ·exact j6_ hC (xn_ q)
  ·rcases KH _ _ _ _ (j4_ q) with z|z
   ·have:=S.one _ (j4_ hx) _ z rfl;cases this
   ·cases z
 hd:=I.ok.hd
 frames:=I.ok.frames
 stk:=.inl rfl
 exf:=fun b hb=>by
  obtain⟨o,ho⟩:=ho b hb;refine⟨jE_ (js_ (jk_ ho) hC),fun x c h=>?_⟩;rcases IV I S h with q|q
  ·intro z;rw[z]at q;exact absurd (js_ (jk_ ho) hC) (qi (xn_ q))
  ·exact (hf b hb).2.2.2.2.1 x c q
 bs:=I.bs
 bsz:=j6_ I.ok.bsz I.sz
 noex:=fun b o e hb=>by
  rcases (hf b hb).2.2.2.1 with z|z
  ·exact I.ok.noex b o e z
  ·exact absurd (js_ (jk_ (I.ok.bs b o e).1) z) (jY_ _)
 exfs:=fun b hb z=>by
  rcases jD_.mp (I.stkSub b z) with e|e
  ·exact (hf b hb).2.1 e
  ·exact (hf b hb).2.2.1 e
 funs:=I.stack
 frf:=I.stkFree
def PX {c:Caps}{C:Addr}{s4:Shared}{m:Str->α5}(I:Inv X aa σ H s)(S:BlkScC X sc)(hc:Dy X.N sc c)(hC:s.heap.objs.size<=C)(hf:∀b∈fp,FpOk X aa H b)(ho:∀b∈fp,∃o,s.heap.get? b=some o)
  (eA:s4.os=s.os) (hb:s4.gens=s.gens) (hk:∀b o,s.heap.get? b=some o->s4.heap.get? b=some o) (hn:s4.heap.Ns C m)
  (bh:∀x c,(ownC X sc C).lookup x=some c->(s4.heap.IsCell c none/\C+1<=c)\/(clOf X.env sc.names []).lookup x=some c):Inv (X.blkC c.names sc C s H fp) [] (c.st σ) H s4 where
 ok:=V3 I S hC hf ho
 os:=eA
 bare:=by rw[hb];exact I.bare
 base:=Un.kept hk
 loc:=by
  refine⟨m,hn,fun i x v h1 h2 hv=>?_⟩;have eE:(c.map (·.1))[i]?=some x:=h1;have cL:(c.map fun p=>p.2.bind fun j=>(σ[j]?).join)[i]?=some (some v):=h2;rw[jh_]at eE cL;cases e:c[i]? with
  |none=>rw[e]at eE;cases eE
  |some p=>
   obtain⟨y,oj⟩:=p;rw[e]at eE cL;have e1:y=x:=jt_ eE;subst e1;have e2:(oj.bind fun j=>(σ[j]?).join)=some v:=jt_ cL;cases oj with
   |none=>cases e2
   |some j=>
    have e3:(σ[j]?).join=some v:=e2;have e4:σ[j]?=some (some v):=by
     cases q:σ[j]? with
     |none=>rw[q]at e3;cases e3
     |some z=>rw[q]at e3;exact qY_ some e3
    obtain⟨k1,k2⟩:=Dy.get hc e;have iH:=j4_ k2;have k3:X.env.kindOf y=some .cell\/X.env.kindOf y=some .free:=S.free (y,.free) iH rfl;have jG:Vis X.env.scope y:=by
     rcases k3 with k|k
     ·exact .inr (.inl k)
     ·exact .inr (.inr k)
    obtain⟨mX,hnX,hl⟩:=I.loc;obtain⟨u,r,l⟩:=hl j y v k1 e4 jG;refine⟨u,r,?_⟩;rcases l with ⟨k,_⟩|⟨_,ca,lT,z⟩
    ·rcases k3 with k' | k'<;>(rw[k]at k';cases k')
    ·obtain⟨kd,lU,ek⟩:=FD (env:=X.env) k2;have cM:(compEnvC sc (ownC X sc C) C X.env).kindOf y=some kd:=ek;obtain⟨c',dW⟩:=Gp (env:=X.env) sc.names [] y (.inl iH);obtain⟨c2,cn⟩:=Bc dW;have e5:=EJ I S cn;rw[lT]at e5;have e6:ca=c2:=jt_ e5;subst e6;have e7:(ownC X sc C).lookup y=some ca:=by
      rw[Oc sc.names (C+1) _ y fun p hp ep z=>?_]
      ·exact cn
      ·have:=S.one p hp (y,.free) iH ep;rw[z]at this;cases this
     refine .inr ⟨?_,ca,e7,?_⟩
     ·rcases lU with rfl|rfl
      ·exact .inl cM
      ·exact .inr cM
     ·obtain⟨oc,dw,hd⟩:=z;exact⟨oc,hk _ _ dw,hd⟩
 cell:=fun x ca h=>by
  rcases bh x ca h with ⟨q,_⟩|q
  ·exact⟨_,q⟩
  ·obtain⟨v,oc,dw,hd⟩:=I.cell x ca (EJ I S q);exact⟨v,oc,hk _ _ dw,hd⟩
 free:=I.hok.fresh hC
 freeC:=fun x ca h=>by
  rcases bh x ca h with ⟨_,q⟩|q
  ·exact I.hok.fresh (j6_ hC (xn_ q))
  ·exact I.freeC x ca (EJ I S q)
 pin:=fun p hp=>absurd (show p∈([]:α7) from hp) (by simp)
 hok:=I.hok.kept hk
 len:=by show (c.map _).length=(c.map _).length;rw[ja_,ja_]
def Tn {c:Caps}{C D:Addr}{s':Shared}{af:St}{H':Hp}{o:HO}(I:Inv X aa σ H s)(J:Inv (X.blkC c.names sc C s H fp) [] af H' s')(hf:∀b∈fp,FpOk X aa H b)(hD:s.heap.objs.size<=D)(hn:H' D=none)
  (new:AY X.prog X.w (upd H' D o) s'.heap D o):Inv X aa σ (upd H' D o) s':=by
 have u:Un (frs X.stack) fp H H' s.heap s'.heap:=J.base;exact I.call' J.os (u.track hD hn) (J.hok.track hn new) J.bare fun b hb=>⟨(hf b hb).2.2.2.1,(hf b hb).2.1,(hf b hb).2.2.2.2.1,(hf b hb).2.2.2.2.2⟩
end
section
variable {X:Cx} {tg iter cG:Expr} {cw:List Expr} {sc:Scope} {pos:Pos} {wi:TI} {cp:Caps} {g:TG} {tc:TT} {te:TE}
def PY (hc:X.calm=true)(S:BlkScC X sc)(fS:Dy X.N sc cp)
  (hg:∀C s₀ H₀ ex,PG (X.blkC cp.names sc C s₀ H₀ ex) tg g) (hf:∀C s₀ H₀ ex,PF (X.blkC cp.names sc C s₀ H₀ ex) cw tc) (he:∀C s₀ H₀ ex,PE (X.blkC cp.names sc C s₀ H₀ ex) cG te)
  {aa:α7} {σ:St} {H:Hp} {s:Shared} {J:It} {it:Addr} {fp:List Addr} {tn:Nat->Heap->Prop} {Q:VK} {RR:Value->Addr->Result->Shared->Prop} {E:Value->Shared->Prop}
  (I:Inv X aa σ H s) (T:Turn X.prog X.w X.K tg J fp it tn) (st:tn 0 s.heap) (dH:∀b∈fp,FpOk X aa H b)
  (hw:∃W:Nat->Nat->List V->St->Hp->Prop,(∃m,W 0 m [] (cp.st σ) H)/\∀i m ys af H',W i m ys af H' ->
   ys.length<sizeLine/\((J.stop i H'/\∀D,H' D=none->Q (.ref D) (upd H' D (.lst ys)))\/(J.go i H'/\∃N:List V->St->Hp->Prop,(∀zs ai H2,N zs ai H2->∃m',m'<m/\W (i+1) m' zs ai H2)/\∀x H2,J.yld i H' x H2->g x af H2 fun ai H3=>tc ai H3 fun b H4=>
    if b=true then te ai H4 fun v H5=>N (ys++[v]) ai H5 else N ys ai H4)))
  (hR:∀D C s' H' (m:Str->α5),Inv X aa σ H' s'->Q (.ref D) H'->s'.heap.Ns C m->H' C=none->C≠X.env.locals->X.s₀.heap.objs.size<=C->(∀x c,X.env.cells.lookup x=some c->c≠C)->(∀p∈X.pn++aa,p.1≠C)->RR (.ref D) C (.ok .next) s'):
  wpAny (model X.prog X.w) X.A (newList []) (fun ah aV=>wpAny (model X.prog X.w) X.A (newFunctionEnv sc X.env.globals (clOf X.env sc.names []) [] X.env.qual none .none (some X.env)) (fun eF iw=>
   codeAny (model X.prog X.w) X.A (.compStart (.ListComp cG [⟨tg,iter,cw,0⟩] sc pos) 0 (.ref it) ah {eF with scope:=relabel sc X.env}) (RR ah eF.locals) iw) E aV) E s:=by
 obtain⟨W,⟨m0,w0⟩,ar⟩:=hw;refine qk_ (Ni ?_);dsimp only;generalize ix:s.heap.push {cls:=.type "list",dict:=none,data:=.seq ([]:List Value).toArray}=H2;obtain⟨h₁,dB⟩:∃h₁,h₁=pushCells (H2.push {cls:=.type "dict",data:=.dict #[]}) sc.names:=⟨_,rfl⟩;rw[<-dB];have hcells:∀x c,(ownC X sc H2.objs.size).lookup x=some c->(h₁.IsCell c none/\H2.objs.size+1<=c)\/(clOf X.env sc.names []).lookup x=some c:=fun x c e=>by
  have:=Ob sc.names (H2.push {cls:=.type "dict",data:=.dict #[]}) (clOf X.env sc.names []) x c (by rw[j9_];exact e);rw[j9_]at this;rw[dB];exact this
 have bH:h₁.Ns H2.objs.size (fun _=>none):=by rw[dB];exact (Heap.Ns.new H2 (.type "dict")).keeps (pushCells_keeps _ _)
 have keep₁:∀b o,H2.get? b=some o->h₁.get? b=some o:=fun b o e=>by rw[dB];exact pushCells_keeps _ _ b o (jg_ _ e)
 have hC:H2.objs.size=s.heap.objs.size+1:=by rw[<-ix,j9_]
 have gL:s.heap.objs.size≠H2.objs.size:=by rw[hC];exact jE_ (q0_ _)
 have br:s.heap.objs.size<=H2.objs.size:=by rw[hC];exact zN_ _
 have below:∀b,b<s.heap.objs.size->b≠H2.objs.size:=fun b hb=>by rw[hC];exact jE_ (qS_ hb)
 have old:∀b o,s.heap.get? b=some o->h₁.get? b=some o:=fun b o e=>keep₁ b o (ix ▸ jg_ _ e);have bT:h₁.get? s.heap.objs.size=some {cls:=.type "list",data:=.seq ([]:List Value).toArray 0}:=keep₁ _ _ (ix ▸ jr_ _ rfl);have bI:tn 0 h₁:=T.keep 0 _ _ st fun b _ o e=>old b o e;have bq:∀b∈fp,∃o,s.heap.get? b=some o:=fun b hb=>let ⟨o,e,_⟩:=T.obj 0 _ st b hb;⟨o,e⟩;have J0:Inv (X.blkC cp.names sc H2.objs.size s H fp) [] (cp.st σ) H {s with heap:=h₁}:=PX I S fS br dH bq rfl rfl old bH hcells;have gM:∀b,s.heap.objs.size<=b->b∉frs X.stack:=fun b hb z=>by
  rcases jD_.mp (I.stkSub b z) with e|e
  ·exact absurd (js_ I.lt (by rw[<-e];exact hb)) (jY_ _)
  ·exact I.nofs hb e
 have cN:∀b,s.heap.objs.size<=b->∀x c,X.env.cells.lookup x=some c->c≠b:=fun b hb x c e z=>by
  obtain⟨v,q⟩:=I.cell x c e;exact absurd (js_ q.lt (by rw[z];exact hb)) (jY_ _)
 have jN:∀{aE:α7} {H':Hp},(∀b∈fp,H' b=none)->(∀p∈aE,p.1∉fp)->∀b∈fp,FpOk (X.blkC cp.names sc H2.objs.size s H fp) aE H' b:=fun {aE H'} hn hp b hb=>by
  obtain⟨o,e⟩:=bq b hb;refine⟨hn b hb,below b (jk_ e),fun z=>?_,.inl hb,fun x c h=>(by
   rcases IV I S h with q|q
   ·intro z;rw[z]at q;exact absurd (jk_ e) (qi (j6_ br (xn_ q)))
   ·exact (dH b hb).2.2.2.2.1 x c q),fun p jO z=>?_⟩
  ·rcases jD_.mp (I.stkSub b z) with e|e
   ·exact (dH b hb).2.1 e
   ·exact (dH b hb).2.2.1 e
  ·have iy:p∈aE:=by simpa using jO
   exact hp p iy (by rw[z];exact hb)
 have loop:∀aV:Shared,aV={s with heap:=h₁} ->
   codeAny (model X.prog X.w) X.A (.compLoop (.ListComp cG [⟨tg,iter,cw,0⟩] sc pos) 0 (.ref it) (.ref s.heap.objs.size) (compEnvC sc (ownC X sc H2.objs.size) H2.objs.size X.env))
    (RR (.ref s.heap.objs.size) H2.objs.size) aV:=by
  rintro aV rfl;refine Jq (fun n s'=>∃i af H' ys its k,Inv (X.blkC cp.names sc H2.objs.size s H fp) [] af H' s'/\tn i s'.heap/\(∀b∈fp,H' b=none)/\H' s.heap.objs.size=none /\
   s'.heap.get? s.heap.objs.size=some {cls:=.type "list",data:=.seq its.toArray k}/\Vals ys its/\W i n ys af H') ?_ m0
   ⟨0,_,H,[],[],0,J0,bI,fun b hb=>(dH b hb).1,I.hok.fresh (jf_ _),bT,.nil,w0⟩
  rintro n s3 ⟨i,bf,H3,ys,its,k,I3,gJ,jf,lV,e3,rv,w3⟩;obtain⟨hz,tr⟩:=ar i n ys bf H3 w3;have ak:=rv.length
  -- dY accumulator stands still while anything else runs
  have eG:∀p ∈ [(s.heap.objs.size,({cls:=.type "list",data:=.seq its.toArray k}:Obj))],p.1∉fp:=fun p hp z=>by
   have e:p=_:=ji_.mp hp;subst e;obtain⟨o,e⟩:=bq _ z;exact absurd (jk_ e) (jY_ _)
  have jP:Inv (X.blkC cp.names sc H2.objs.size s H fp) [(s.heap.objs.size,({cls:=.type "list",data:=.seq its.toArray k}:Obj))] bf H3 s3:=I3.pins_of fun p hp=>by
   have e:p=_:=ji_.mp hp;subst e;exact⟨e3,lV,gL,gM _ (jf_ _),fun v z=>by cases z⟩
  have ck:∀b∈fp,FpOk (X.blkC cp.names sc H2.objs.size s H fp) [(s.heap.objs.size,({cls:=.type "list",data:=.seq its.toArray k}:Obj))] H3 b:=jN jf eG;rcases tr with ⟨stop,qn⟩|⟨go,N,hN,step⟩
  ·refine thn (T.done (X.blkC cp.names sc H2.objs.size s H fp) rfl rfl rfl hc i _ s3 bf H3 _ jP ck gJ stop) fun r s4 ⟨hr,I4⟩=>?_;subst hr;obtain⟨e4,n4,_⟩:=I4.pin (s.heap.objs.size,({cls:=.type "list",data:=.seq its.toArray k}:Obj)) (by simp);have new:AY X.prog X.w (upd H3 s.heap.objs.size (.lst ys)) s4.heap s.heap.objs.size (.lst ys):=⟨x0_ hz,its,k,rv,e4⟩;obtain⟨mC,lW,_⟩:=I4.loc;have lX:Inv (X.blkC cp.names sc H2.objs.size s H fp) [] bf H3 s4:=I4.pins_of fun p hp=>by cases hp
   have I5:=Tn I lX dH (jf_ _) n4 new;refine hR _ _ s4 _ mC I5 (qn _ n4) lW ?_ (qe_ (js_ I.lt br)) (j6_ I.sz br) (cN _ br) fun p hp z=>?_
   ·rw[Aj (qn_ gL)];exact I4.free
   ·exact absurd (js_ (jk_ (I.pin p hp).1) (by rw[z];exact br)) (jY_ _)
  ·refine thn (T.item (X.blkC cp.names sc H2.objs.size s H fp) rfl rfl rfl hc i _ s3 bf H3 _ jP ck gJ go) fun r s4 ⟨u,hr,h4⟩=>?_;subst hr;refine thn h4 fun _ s5 ⟨x,H5,I5,r5,y5,dF,jI⟩=>?_;have jJ:=I5.pinned (jN jI eG) (T.obj _ _ dF);have fin:∀{cJ:St} {H7:Hp} {s7:Shared},Inv (X.blkC cp.names sc H2.objs.size s H fp) ([(s.heap.objs.size,({cls:=.type "list",data:=.seq its.toArray k}:Obj))]++LF fp s5.heap) cJ H7 s7 ->
     s7.heap.get? s.heap.objs.size=some {cls:=.type "list",data:=.seq its.toArray k}/\H7 s.heap.objs.size=none/\(∀b∈fp,H7 b=none)/\∀b∈fp,∀o,s5.heap.get? b=some o->s7.heap.get? b=some o:=fun {cJ H7 s7} I7=>by
    obtain⟨e7,n7,_⟩:=I7.pin (s.heap.objs.size,({cls:=.type "list",data:=.seq its.toArray k}:Obj)) (by simp);refine⟨e7,n7,fun b hb=>?_,fun b hb o e=>?_⟩
    ·obtain⟨o,e,_⟩:=T.obj _ _ dF b hb;exact (I7.pin (b,o) (jS_ _ (jS_ _ (Ds hb e)))).2.1
    ·exact (I7.pin (b,o) (jS_ _ (jS_ _ (Ds hb e)))).1
   refine qQ_ (hg _ _ _ _ _ s5 bf H5 x u _ jJ r5 (step x H5 y5)) (fun _ s6 ⟨c6,H6,I6,q6⟩=>?_) fun _ _ z=>nN z;refine qQ_ (hf _ _ _ _ _ s6 c6 H6 _ I6 q6) (fun ok s7 ⟨H7,I7,q7⟩=>?_) fun _ _ z=>nN z;cases ok with
   |false=>
    rw[if_neg jo_];rw[if_neg jo_]at q7;obtain⟨m',hm,w7⟩:=hN _ _ _ q7;obtain⟨e7,n7,lY,k7⟩:=fin I7;exact⟨m',hm,i+1,c6,H7,ys,its,k,I7.pins_of (fun p hp=>by cases hp),T.keep _ _ _ dF k7,lY,n7,e7,rv,w7⟩
   |true=>
    rw[if_pos rfl];rw[if_pos rfl]at q7;refine qQ_ (he _ _ _ _ _ s7 c6 H7 _ I7 q7) (fun v s8 ⟨y,H8,I8,r8,q8⟩=>?_) fun _ _ z=>nN z;obtain⟨m',hm,w8⟩:=hN _ _ _ q8;obtain⟨e8,n8,lZ,k8⟩:=fin I8;refine zo_ F.slot_list_append ⟨_,e8,rfl⟩ F.entry_list_append (zG_ _ _) (zX_ s.heap.objs.size its.toArray k v (by rw[jl_];lia)) ⟨e8,?_⟩;obtain⟨k',q⟩:∃k',(s8.heap.update s.heap.objs.size (Obj.mapSeq fun x=>x.push v)).get? s.heap.objs.size=some {cls:=.type "list",data:=.seq (its++[v]).toArray k' }:=⟨_,by
     have q:=oC e8 fun x=>x.push v;have e:(its++[v]).toArray=its.toArray.push v:=by simp
     rw[e];exact q⟩
    have I8':Inv (X.blkC cp.names sc H2.objs.size s H fp) [] c6 H8 s8:=I8.pins_of fun p hp=>by cases hp
    have I9:Inv (X.blkC cp.names sc H2.objs.size s H fp) [] c6 H8 {s8 with heap:=s8.heap.update s.heap.objs.size (Obj.mapSeq fun x=>x.push v),toks:=s8.toks}:=
     I8'.turned (it:=s.heap.objs.size) (fun b o hb e=>(qo_ _ _ (qn_ hb)).trans e) n8 gL (.inr (jf_ _)) (fun x c e=>by
      rcases IV I S e with q|q
      ·intro z;rw[z]at q;exact absurd (j6_ q br) (Nat.not_succ_le_self _)
      ·exact cN _ (jf_ _) x c q) (fun p hp=>by cases hp)
    refine⟨m',hm,i+1,c6,H8,ys++[y],its++[v],k',I9,T.keep (i+1) s5.heap _ dF (fun b hb o e=>?_),lZ,n8,q,rv.append (.cons r8 .nil),w8⟩
    ·refine (qo_ _ _ ?_).trans (k8 b hb o e);intro z;obtain⟨ob,eb⟩:=bq b hb;exact absurd (jk_ eb) (by rw[<-z];exact jY_ _)
 exact codeAny_compStart_list (loop _ rfl) (T.self _ 0 _ _ _ bI (loop _ rfl))
def To (hc:X.calm=true)(S:BlkScC X sc)(fS:Dy X.N sc cp)(hi:PI X tg iter wi)
  (hg:∀C s₀ H₀ ex,PG (X.blkC cp.names sc C s₀ H₀ ex) tg g) (hf:∀C s₀ H₀ ex,PF (X.blkC cp.names sc C s₀ H₀ ex) cw tc) (he:∀C s₀ H₀ ex,PE (X.blkC cp.names sc C s₀ H₀ ex) cG te)
  (hs:∀x,foldedSetIterable iter X.env x=pure x:=by intro _;rfl):PE X (.ListComp cG [⟨tg,iter,cw,0⟩] sc pos) (S8 wi cp g tc te):=by
 intro aa s σ H Q I h;rw[eval_ListComp];refine x2_ (use:=none) rfl hs (IP (LJ I S)) S.kind S.loc (thn (hi aa s σ H _ I h) fun xv s₁ h₁=>thn h₁ fun jH aY cq=>?_);obtain⟨it,fp,tn,J,H2,e,I2,T,fL,f2,hw⟩:=cq;subst e;refine PY (RR:=fun ah C=>compPost (model X.prog X.w) X.A X.xe none (EP X aa σ Q) ah C) hc S fS hg hf he I2 T fL f2 hw ?_;intro D C s' H' m I' q hn hC hL hz bh hp;exact⟨m,hn,fun h' gN=>⟨.ref D,H',I'.turned (t':=s'.toks) (it:=C) (fun b o hb e=>gN.extBut b o hb e) hC hL (.inr hz) bh hp,rfl,q⟩⟩
end
noncomputable def U5 (outer:List (Str×NameKind))(sc:Scope):Bool:=
 sc.kind == .function&&sc.names.all (fun y=>(y.2 != .local||sc.names.lookup y.1==some .local)&&(y.2 != .free||outer.lookup y.1==some .cell||outer.lookup y.1==some .free)&&sc.names.all fun z=>y.1 != z.1||y.2==z.2)
def V4 (h:U5 X.env.scope.names sc=true):BlkScC X sc:=by
 unfold U5 at h;rw[jW_,q8_]at h;obtain⟨h1,h2⟩:=h;refine⟨by simpa using h1,fun y hy z hz e=>?_,fun y hy z=>?_,fun y hy z=>?_⟩
 ·have:=h2 y hy;simp only[jW_,q8_]at this;have:=this.2 z hz;rw[e]at this;simpa using this
 ·have:=h2 y hy;simp only[jW_]at this;have:=this.1.1;rw[z]at this;simpa using this
 ·have:=h2 y hy;simp only[jW_]at this;have:=this.1.2;rw[z]at this;have t:(X.env.scope.names.lookup y.1==some .cell||X.env.scope.names.lookup y.1==some .free)=true:=by simpa using this
  rw[oT]at t;rcases t with t|t
  ·exact .inl (by show X.env.scope.names.lookup y.1=some .cell;simpa using t)
  ·exact .inr (by show X.env.scope.names.lookup y.1=some .free;simpa using t)
end L2
namespace L2
open PySem PySem.Spec PyProof.Rows GW
noncomputable def Ao (K:α3)(H:Hp)(xs:List V)(ws:α1):Prop:=xs.length=ws.length/\∀(i:Nat) (w:α2),ws[i]?=some w->∃t,xs[i]?=some (.ref t)/\H t=some (.tup (w.map V.int))
def Ao.nil {K:α3} : Ao K H [] []:=⟨rfl,fun i w h=>by simp at h⟩
def Ao.mono {K:α3} (h:Ao K H xs ws)(k:TK H H'):Ao K H' xs ws:=by
 refine⟨h.1,fun i w hw=>?_⟩;obtain⟨t,a,b⟩:=h.2 i w hw;exact⟨t,a,k _ _ b⟩
def Ao.snoc {K:α3} (h:Ao K H xs ws) (ht:H t=some (.tup (w.map V.int))):Ao K H (xs++[.ref t]) (ws++[w]):=by
 refine⟨by rw[ju_,ju_,h.1];rfl,fun i v hi=>?_⟩;by_cases fm:i<ws.length
 ·rw[jw_ fm]at hi;rw[jw_ (by rw[h.1];exact fm)];exact h.2 i v hi
 ·have:=(je_.mp hi).1;rw[ju_,jU_]at this;have ei:i=ws.length:=by lia
  subst ei;rw[jy_ (jf_ _),qL_]at hi;simp at hi;subst hi;refine⟨t,?_,ht⟩;rw[jy_ (by rw[h.1];exact jf_ _),h.1,qL_];rfl
def Ao.at {K:α3}{H:Hp}{xs:List V}{ws:α1}(h:Ao K H xs ws){i:Nat}{x:V}(hx:xs[i]?=some x):∃t w,ws[i]?=some w/\x=.ref t/\H t=some (.tup (w.map V.int)):=by
 have hi:i<ws.length:=by rw[<-h.1];exact (je_.mp hx).1
 obtain⟨t,a,b⟩:=h.2 i ws[i] (by simp[hi]);rw[hx]at a;exact⟨t,ws[i],by simp[hi],jt_ a,b⟩
def Ao.eq {K:α3} (h:Ao K H xs ws)(g:Ao K H ys ws)(ha:SqL K H a xs)(hb:SqL K H b ys)(n:Nat):EqD K H (n+2) (.ref a) (.ref b) true:=by
 refine .inr ⟨a,b,xs,ys,rfl,rfl,.inl ⟨ha,hb⟩,fun _=>true,fun i x y hx hy=>?_,by rw[h.1,g.1];simp⟩;obtain⟨t,w,e1,rfl,e2⟩:=h.at hx;obtain⟨u,w',f1,rfl,f2⟩:=g.at hy;rw[e1]at f1;cases f1;have:=EqD.ints (K:=K) (H:=H) (a:=t) (c:=u) (xs:=w) (ys:=w) (.inr ⟨SqT.of e2,SqT.of f2⟩) n;rw[ql_ rfl]at this;exact this
noncomputable def rInW (K:α3)(ir:Bool):R2:=fun x y H Q=>∃p t xs w ws,y=.ref p/\x=.ref t/\SqL K H p xs/\Ao K H xs ws/\SqT K H t (w.map V.int)/\Q (.bl (if ir then !decide (w∈ws) else decide (w∈ws))) H
theorem XQ {K:α3} : rInW K ir x y H Q=∃p t xs w ws,y=.ref p/\x=.ref t/\SqL K H p xs/\Ao K H xs ws/\SqT K H t (w.map V.int)/\Q (.bl (if ir then !decide (w∈ws) else decide (w∈ws))) H:=rfl
def Tp (hu:X.A.units+8<cLine)(I:Inv X aa σ H s)(hp:SqL X.K H p xs)(hw:Ao X.K H xs ws)(ht:SqT X.K H t (w.map V.int)):
  ∃(its:Array Value) (e:Value->Bool),s.heap.IsList p its/\(∀y,y∈its->SeqAt.EqAt X.A.in1 s y (.ref t) (e y))/\its.any e=decide (w∈ws):=by
 obtain⟨its,r,pl,_⟩:=I.list hp;have hl:=r.length
 let e:Value->Bool:=fun y => @decide (∃(i:Nat) (a:Addr),y=.ref a/\xs[i]?=some (.ref a)/\ws[i]?=some w) (nW _)
 have ee:∀(i:Nat) (a:Addr) (v:α2),xs[i]?=some (.ref a)->ws[i]?=some v->e (.ref a)=decide (v=w):=fun i a v hx hv=>by
  obtain⟨a',a1,a2⟩:=hw.2 i v hv;rw[hx]at a1;cases a1;rw[qT_];show @decide _ (nW _)=true↔_;rw[@decide_eq_true_iff _ (nW _),qz_];constructor
  ·rintro⟨j,b,hb,hxj,jS⟩;cases hb;obtain⟨b',b1,b2⟩:=hw.2 j w jS;rw[hxj]at b1;cases b1;rw[a2]at b2;have:=jt_ b2;injection this with this;exact (zS_ (fun x y z=>V.int.inj z)).mp this
  ·rintro rfl;exact⟨i,a,rfl,hx,hv⟩
 refine⟨its.toArray,e,pl.isList,fun y hy=>?_,?_⟩
 ·have hy':y∈its:=by simpa using hy
  obtain⟨i,hi,ei⟩:=xq_ hy';have mq:i<xs.length:=by lia
  obtain⟨u,fk,ru⟩:=r.get (i:=i) (x:=xs[i]) (by simp[mq]);rw[jc_ hi,ei]at fk;cases fk;obtain⟨a,v,e1,e2,e3⟩:=hw.at (i:=i) (x:=xs[i]) (by simp[mq]);rw[e2]at ru;cases ru;rw[ee i a v (by rw[jc_ mq,e2]) e1];exact (EqD.at (x:=V.ref a) (y:=V.ref t) I 2 X.A.in1 (by rw[in1_units];lia) rfl rfl (EqD.ints (xs:=v) (ys:=w) (.inr ⟨SqT.of e3,ht⟩) 1)).1
 ·rw[qT_,qz_];rw[show its.toArray.any e=its.any e by simp,xR_];constructor
  ·rintro⟨y,hy,hey⟩;obtain⟨j,b,_,_,jS⟩:=(@decide_eq_true_iff _ (nW _)).mp hey;exact jn_ jS
  ·intro hm;obtain⟨i,hi,ei⟩:=xq_ hm;obtain⟨a,a1,a2⟩:=hw.2 i w (by rw[jc_ hi,ei]);obtain⟨u,fk,ru⟩:=r.get a1;cases ru;refine⟨.ref a,jn_ fk,?_⟩;rw[ee i a w a1 (by rw[jc_ hi,ei])];simp
def XR (hu:X.A.units+8<cLine):OpR X (compareOp .In) (rInW X.K false):=by
 intro aa s σ H x y v u Q I rx ry h;obtain⟨p,t,xs,w,ws,rfl,rfl,hp,hw,ht,q⟩:=h;cases ry;cases rx;obtain⟨its,e,h1,h2,h3⟩:=Tp hu I hp hw ht;refine SeqAt.in_listAt e h1 h2 ⟨.bl _,H,I,rfl,?_⟩;rw[h3];exact q
def Cb.ofS {K:α3} (ha:H a=some (.tup xs))(hb:H b=some (.tup ys))(hz:xs.length+ys.length<=sizeLine)(h:∀p H',Same H H'->H' p=some (.tup (xs++ys))->Q (.ref p) H'):Cb K (.ref a) (.ref b) H Q:=by
 refine⟨a,b,xs,ys,rfl,rfl,SqT.of ha,SqT.of hb,hz,fun e=>?_,fun _ e=>?_,fun _ _ p hp=>h p _ (Same.new hp) Ab⟩
 ·subst e;exact h b H (Same.refl _) (by simpa using hb)
 ·subst e;exact h a H (Same.refl _) (by simpa using ha)
def Inv.unL (I:Inv X aa σ H s)(k:∀b o,b∉fp->s.heap.get? b=some o->h'.get? b=some o)(f:∀b∈fp,FpOk X aa H b):Un (frs X.stack) fp H H s.heap h'/\HOk X.prog X.w H h':=by
 have ne:∀b u,H b=some u->b∉fp:=fun b u q hb=>by rw[(f b hb).1]at q;cases q
 refine⟨⟨fun b o q _ _ hb=>k b o hb q,fun b o q _ _ hb=>⟨o.slots,k b o hb q⟩,fun _ _ _ n _=>n,fun b o q hb=>⟨o,k b o hb q⟩,fun _ _ q=>q,fun _ _ _ q=>q,fun b ps q=>⟨#[],by rw[q];simp⟩⟩,fun b u q=>?_⟩;refine (I.hok b u q).stay (fun c v hc qv=>?_) (fun _ q=>q) fun _ _ q=>q;have aC:c∉fp:=by
  rcases hc with rfl|hc
  ·exact ne _ _ q
  ·exact ne _ _ hc
 exact k c v aC qv
end L2
namespace GW
noncomputable def ins (s:α1)(w:α2):α1:=if w∈s then s else s++[w]
def V5 (s:α1)(w:α2):(ins s w).length<=s.length+1:=by
 unfold ins;split
 ·lia
 ·simp
def A9:∀(l s:α1),(l.foldl ins s).length<=s.length+l.length
 |[],s=>by simp
 |w::l,s=>by
  have h1:=A9 l (ins s w);have h2:=V5 s w;rw[xC_,jV_];lia
noncomputable def extW (n:Nat)(w:α2):α1:=(nJ n).map fun x:Nat=>w++[(x:Int)]
noncomputable def Eo (n:Nat)(ah:α1):α1:=(ah.flatMap (extW n)).foldl ins (ah.foldl ins [])
noncomputable def Jr (ae ends:α1):α1:=(ae.flatMap fun r=>ends.map (r ++ ·)).foldl ins []
end GW
namespace L2
open PySem PySem.Spec PyProof.Rows GW
noncomputable def wkey (w:α2):List Key:=w.map nS
def BZ (w:α2):(wkey w).map kV=w.map V.int:=by unfold wkey;rw[jK_];rfl
def Gs (h:wkey v=wkey w):v=w:=(zS_ (fun x y z=>Sum.inl.inj z)).mp h
noncomputable def Dk (ws:α1)(kvs:List (List Key×V)):Prop:=kvs.map (·.1)=ws.map wkey
def Dk.len (h:Dk ws kvs):kvs.length=ws.length:=by
 have:=qY_ oh h;simpa using this
def Dk.some_iff (h:Dk ws kvs)(w:α2):(valV kvs (wkey w)).isSome=decide (w∈ws):=by
 rw[<-Di,qT_,qz_,xR_];constructor
 ·rintro⟨kv,bU,e⟩;have e:=xJ_ e;have:wkey w∈ws.map wkey:=by rw[<-h,<-e];exact jv_.mpr ⟨kv,bU,rfl⟩
  obtain⟨q,hq,e2⟩:=jv_.mp this;exact Gs e2 ▸ hq
 ·intro hw;have:wkey w∈kvs.map (·.1):=by rw[h];exact jv_.mpr ⟨w,hw,rfl⟩
  obtain⟨kv,bU,e⟩:=jv_.mp this;exact⟨kv,bU,ql_ e⟩
def Dk.put (h:Dk ws kvs)(w:α2)(v:V):Dk (ins ws w) (putK kvs (wkey w) v):=by
 have hs:=h.some_iff w;unfold putK ins;rw[Di,hs];by_cases hw:w∈ws
 ·rw[if_pos hw,if_pos (show decide (w∈ws)=true from ql_ hw)];unfold Dk;rw[<-h,jK_];refine jH_ fun kv _=>?_;show (if kv.1=wkey w then (kv.1,v) else kv).1=kv.1;split<;>rfl
 ·rw[if_neg hw,if_neg (show ¬ decide (w∈ws)=true by simp[hw])];unfold Dk;rw[jj_,jj_,h];rfl
def Dk.nil:Dk [] []:=rfl
def Dk.words {K:α3} (h:Dk ws kvs)(hl:rs.length=kvs.length)(hr:∀(i:Nat) (k:List Key) (v:V),kvs[i]?=some (k,v)->∃b,rs[i]?=some (V.ref b)/\H b=some (.tup (k.map kV))):Ao K H rs ws:=by
 refine⟨by rw[hl,h.len],fun i w hw=>?_⟩;have hi:i<kvs.length:=by rw[h.len];exact (je_.mp hw).1
 have e:(kvs.map (·.1))[i]?=some (wkey w):=by rw[h,jh_,hw];rfl
 rw[jh_,jc_ hi]at e;have e:kvs[i].1=wkey w:=jt_ e;obtain⟨b,b1,b2⟩:=hr i kvs[i].1 kvs[i].2 (by simp[hi]);exact⟨b,b1,by rw[b2,e,BZ]⟩
end L2
namespace PySem.W
open PySem PySem.Calls PyProof.Rows PyProof.V PySem.Spec
section
variable {prog:Program} {w:World} {A:Around} {E:Value->Shared->Prop} {s:Shared}
noncomputable abbrev itO (x:Value)(f:Bool)(d:Addr)(i n ep:Nat)(ok ov:Value):Obj:={cls:=.type "dict_itemiterator",dict:=none,data:=.fields #[x,.bool f,.ref d,.int i 0,.int n 0,.int ep 0,ok,ov],slots := #[]}
noncomputable abbrev tpO (e:DictEntry):Obj:={cls:=.type "tuple",data:=.seq #[e.key,e.val]}
def Tq {it d:Addr} (g1:s.heap.get? it=some (itO x f d i n ep ok ov))
  (hx:x=.none \/ ∃a:Addr,∃o,x=rawInt a/\s.heap.get? a=some o/\a≠it)
  (hQ:∀h' x' f' fW fX,h'.get? it=some (itO x' f' d i n ep fW fX)->(x=.none->x'=rawInt s.heap.objs.size/\f'=false/\fW=e.key/\fX=e.val)->(x ≠ .none->x'=x)->h'.get? s.heap.objs.size=some (tpO e)->h'.objs.size=s.heap.objs.size+1->(∀b o,b≠it->s.heap.get? b=some o->h'.get? b=some o) ->
   Q (.ref s.heap.objs.size) {s with heap:=h' }):wpAny (model prog w) A (Builtin.Dict_items.pairFromOwner (.ref it) 6 e.key e.val) Q E s:=by
 have hl:=jk_ g1;obtain⟨hp,gs,dr,tk,os⟩:=s
 wp_walk using newT
 ·show 2<=sizeLine;decide
 intro h2 g;have k2:∀b o,hp.get? b=some o->h2.get? b=some o:=fun b o q=>by rw[<-g];exact jg_ _ q
 have g2:=k2 it _ g1;have g0:h2.get? hp.objs.size=some (tpO e):=by rw[<-g];exact jr_ _ rfl
 have gz:h2.objs.size=hp.objs.size+1:=by rw[<-g];exact j9_ ..
 rcases hx with rfl|⟨a,o,rfl,ha,aC⟩
 ·(wp_walk using qd_ g2;(focus simp);intro _ g3 k3)
  (wp_walk using qd_ g3;(focus simp);intro _ g4 k4)
  (wp_walk using qd_ g4;(focus simp);intro _ g5 k5)
  (wp_walk using qd_ g5;(focus simp);intro _ g6 k6)
  wp_walk
  have kk:=((k3.extBut.trans k4.extBut).trans k5.extBut).trans k6.extBut;exact hQ _ _ _ _ _ g6 (fun _=>⟨rfl,rfl,rfl,rfl⟩) (fun z=>absurd rfl z) (kk _ _ (qe_ hl) g0) ((k6.1.trans (k5.1.trans (k4.1.trans k3.1))).trans gz) fun b o n q=>kk b o n (k2 b o q)
 ·have g7:=k2 a o ha;have e:((a:Int)).toNat=a:=jz_ a
  wp_walk
  refine kdx_alive (a:=(a:Int).toNat) (by rw[e];exact g7) ?_;cases f
  ·(wp_walk using qd_ g2;(focus simp);intro _ g3 k3)
   wp_walk
   exact hQ _ _ _ _ _ g3 (fun z=>by cases z) (fun _=>rfl) (k3.extBut _ _ (qe_ hl) g0) (k3.1.trans gz) fun b o n q=>k3.extBut b o n (k2 b o q)
  ·wp_walk
   exact hQ _ _ _ _ _ g2 (fun z=>by cases z) (fun _=>rfl) g0 gz fun b o n q=>k2 b o q
def itm {it d:Addr} (hh:A.handled=none)(aM:s.heap.get? it=some (itO x f d i es.size ep ok ov))
  (cX:s.heap.get? d=some od) (b9:od.data=.dict es ep) (hx:x=.none \/ ∃a:Addr,∃o,x=rawInt a/\s.heap.get? a=some o/\a≠it)
  (hQ:∀e h' x' f' fW fX,es[i]?=some e->h'.get? it=some (itO x' f' d (i+1) es.size ep fW fX)->(x=.none->x'=rawInt s.heap.objs.size/\f'=false/\fW=e.key/\fX=e.val)->(x ≠ .none->x'=x)->h'.get? s.heap.objs.size=some (tpO e)->h'.objs.size=s.heap.objs.size+1->(∀b o,b≠it->s.heap.get? b=some o->h'.get? b=some o) ->
   Q (some (.ref s.heap.objs.size)) {s with heap:=h' })
  (hN:es[i]?=none->∀h',Heap.ExtBut it s.heap h'->Q none {s with heap:=h' }):wpAny (model prog w) A (pyNext (.ref it)) Q E s:=by
 have hT:s.TypeIs (.ref it) "dict_itemiterator" := ⟨_,aM,rfl⟩;have e1:=xV_;have h1:A.in1.handled=none:=hh;obtain⟨c,dc,da,sl⟩:=od;replace b9:da=_:=b9;subst b9;unfold pyNext;refine jd_ (ze_ (qy_ hT e1 (qx_ e1 hT pE ?_ (pA _))))
 wp_walk using xo_ hT,zs_ aM rfl
 cases hi:es[i]? with
 |some e=>
  simp only[show ¬ ((i:Int)<0) from by lia,xH_,jz_,hi]
  wp_walk using xo_ hT,wpAny_isOneOf_itemiter hT,qd_ aM
  ·exact qX_ rfl
  intro h1 g1 k1;replace g1:h1.get? it=some (itO x f d (i+1) es.size ep ok ov):=g1;have hT1:Shared.TypeIs {s with heap:=h1} (.ref it) "dict_itemiterator" := ⟨_,g1,rfl⟩;have z1:h1.objs.size=s.heap.objs.size:=k1.1
  wp_walk using wpAny_isOneOf_itemiter hT1,Tq g1
  ·rcases hx with hx|⟨a,o,hx,ha,n⟩
   ·exact .inl hx
   ·exact .inr ⟨a,o,hx,k1.extBut a o n ha,n⟩
  intro h' x' f' fW fX q1 q2 q3 q4 q5 q6
  wp_walk
  simp only[z1]at q2 q4 q5 ⊢;exact⟨_,rfl,jm_ (hQ e h' x' f' fW fX hi q1 q2 q3 q4 q5 fun b o n q=>q6 b o n (k1.extBut b o n q))⟩
 |none=>
  simp only[show ¬ ((i:Int)<0) from by lia,xH_,jz_,hi]
  wp_walk using xo_ hT,qd_ aM
  ·exact qX_ rfl
  intro h1 g1 k1
  wp_walk
  exact wpAny_raiseNew_none hh (jd_ (wpAny_isInstance (T := "StopIteration") (b:=true) ⟨_,jr_ _ rfl,rfl⟩ isSubtype_stop (jm_ (hN hi _ ((k1.extBut.push _).push _)))))
noncomputable def ItS (h:Heap)(it d S:Addr)(i n ep:Nat):Prop:=∃x f ok ov,h.get? it=some (itO x f d i n ep ok ov)/\(x=.none \/ ∃a:Addr,∃o,x=rawInt a/\h.get? a=some o/\a≠it/\a≠S)
def ItS.keep {it d S:Addr} (x:ItS h it d S i n ep)(hS:it≠S)(k:∀b o,b≠S->h.get? b=some o->h'.get? b=some o):ItS h' it d S i n ep:=by
 obtain⟨x,f,ok,ov,e,r⟩:=x;refine⟨x,f,ok,ov,k _ _ hS e,r.imp_right ?_⟩;rintro⟨a,o,e1,e2,e3,e4⟩;exact⟨a,o,e1,k _ _ e4 e2,e3,e4⟩
def its {it d S:Addr} (hh:A.handled=none)(st:ItS s.heap it d S i es.size ep)(hS:S<s.heap.objs.size)(cX:s.heap.get? d=some od)(b9:od.data=.dict es ep)
  (hQ:∀e h',es[i]?=some e->ItS h' it d S (i+1) es.size ep->h'.get? s.heap.objs.size=some (tpO e)->h'.objs.size=s.heap.objs.size+1->(∀b o,b≠it->s.heap.get? b=some o->h'.get? b=some o)->Q (some (.ref s.heap.objs.size)) {s with heap:=h' })
  (hN:es[i]?=none->∀h',Heap.ExtBut it s.heap h'->Q none {s with heap:=h' }):wpAny (model prog w) A (pyNext (.ref it)) Q E s:=by
 obtain⟨x,f,ok,ov,aM,hx⟩:=st;refine itm hh aM cX b9 (hx.imp_right fun ⟨a,o,e1,e2,e3,_⟩=>⟨a,o,e1,e2,e3⟩) (fun e h' x' f' fW fX q0 q1 q2 q3 q4 q5 q6=>hQ e h' q0 ⟨x',f',fW,fX,q1,?_⟩ q4 q5 q6) hN;rcases hx with rfl|⟨a,o,rfl,e2,e3,e4⟩
 ·exact .inr ⟨_,_,(q2 rfl).1,q4,qe_ (jk_ aM),qe_ hS⟩
 ·exact .inr ⟨a,o,q3 (fun z=>by cases z),q6 a o e3 e2,e3,e4⟩
noncomputable def Tps (es:Array DictEntry)(lo:Addr)(h:Heap)(as:List Addr):Prop:=as.Pairwise (· < ·)/\∀(j:Nat) a,as[j]?=some a->lo<a/\∃e,es[j]?=some e/\h.get? a=some (tpO e)
def Tps.low {lo lo':Addr} (g:Tps es lo h as)(l:lo'<=lo):Tps es lo' h as:=⟨g.1,fun j a e=>⟨pP l (g.2 j a e).1,(g.2 j a e).2⟩⟩
def Tps.keep {lo:Addr} (g:Tps es lo h as)(k:∀b o,lo<b->h.get? b=some o->h'.get? b=some o):Tps es lo h' as:=⟨g.1,fun j a q=>let ⟨l,e,e1,e2⟩:=g.2 j a q;⟨l,e,e1,k a _ l e2⟩⟩
def Tps.snoc {lo b:Addr} (g:Tps es lo h as)(hl:lo<b)(hb:∀a o,h.get? a=some o->a∈as->a<b)(he:es[as.length]?=some e)(ht:h.get? b=some (tpO e)):Tps es lo h (as++[b]):=by
 refine⟨xO_.mpr ⟨g.1,xr_ _ _,fun a ha c hc=>?_⟩,fun j a q=>?_⟩
 ·obtain⟨j,hj⟩:=j1_.mp ha;obtain⟨_,e,_,e2⟩:=g.2 j a hj;rw[ji_.mp hc];exact hb a _ e2 ha
 ·rcases rl j as.length with l|l
  ·rw[jw_ l]at q;exact g.2 j a q
  ·rw[jy_ l]at q;obtain⟨z,rfl⟩:j-as.length=0/\a=b:=by
    cases hz:j-as.length with
    |zero=>rw[hz]at q;exact⟨rfl,by simpa using q.symm⟩
    |succ n=>rw[hz]at q;simp at q
   obtain rfl:j=as.length:=by lia
   exact⟨hl,e,he,ht⟩
end
section
variable {prog:Program} {w:World} {A:Around} {E:Value->Shared->Prop} {s:Shared} {r d:Addr} {es:Array DictEntry} {ep:Nat} {od:Obj}
def Tr (hv:s.heap.IsItemsView v d)(cX:s.heap.get? d=some od)(b9:od.data=.dict es ep)
  (h:Q (.ref s.heap.objs.size) {s with heap:=s.heap.push (itO .none false d 0 es.size ep .none .none)}):wpAny (model prog w) A (pyIter (.ref v)) Q E s:=by
 have hT:=hv.typeIs;obtain⟨⟨c1,d1,a1,s1⟩,hv1,hc,mw⟩:=hv;replace mw:a1=_:=mw;obtain⟨c,dc,da,sl⟩:=od;replace b9:da=_:=b9;subst b9 mw;have e1:=qw;refine wpAny_pyIter_slot hT e1 (qx_ e1 hT qp ?_ (qj _))
 wp_walk
 exact⟨_,rfl,_,_,⟨_,jr_ _ rfl,rfl⟩,xV_.lookup,h⟩
def V6 (hv:s.heap.IsItemsView r d)(cX:s.heap.get? d=some od)(b9:od.data=.dict es ep)(hn:es.size<=sizeLine):
  Gat prog w s r (s.heap.objs.size+1) "dict_items" es.size (· = s.heap.objs.size+1) (fun i ah h=>∃as,ah=as.map Value.ref/\as.length=i/\Tps es (s.heap.objs.size+1) h as/\ItS h (s.heap.objs.size+1) d s.heap.objs.size i es.size ep/\h.get? d=some od) (fun ah h=>∃as,ah=as.map Value.ref/\as.length=es.size/\Tps es s.heap.objs.size h as) where
 type:=hv.typeIs
 nl:=by decide
 nt:=by decide
 le:=hn
 hint:=fun A t Q E k q=>kdx_hint (let ⟨o,ho,hc,_⟩:=hv;⟨o,k _ o ho,hc⟩) (q false t.toks)
 iter:=fun A h1 Q E k z q=>by
  refine Tr (s:={s with heap:=h1}) (let ⟨o,ho,x⟩:=hv;⟨o,k _ o ho,x⟩) (k d od cX) b9 ?_;show Q (.ref h1.objs.size) _;rw[z];refine q _ ⟨[],rfl,rfl,⟨.nil,fun j a e=>by simp at e⟩,⟨.none,false,.none,.none,?_,.inl rfl⟩,jg_ _ (k d od cX)⟩ fun b o e=>jg_ _ e;rw[<-z];exact jr_ _ rfl
 next:=fun A i ah t Q E hh j hl hi lt q1 q2=>by
  obtain⟨as,rfl,h2,h3,h4,h5⟩:=j;have li:s.heap.objs.size+1<t.heap.objs.size:=let ⟨_,_,_,_,e,_⟩:=h4;jk_ e;have kp:∀h':Heap,(∀b o,b≠s.heap.objs.size+1->t.heap.get? b=some o->h'.get? b=some o)->h'.get? d=some od:=fun h' k=>k d od (jE_ (qS_ (jk_ cX))) h5;refine its hh h4 lt h5 b9 (fun e h' e1 st ht hz k=>?_) fun e h' x=>q2 h' t.toks (by have:=xL_.mp e;lia) ⟨as,rfl,by have:=xL_.mp e;lia,(h3.keep fun b o l q=>x b o (qe_ l) q).low (zN_ _)⟩ fun b o n q=>x b o n q;have h3':=h3.keep fun b o l q=>k b o (qe_ l) q;refine q1 _ h' t.toks (qN_.mp e1).1 ⟨as++[t.heap.objs.size],by simp,by simp[h2],h3'.snoc li (fun a o _ m=>?_) (by rw[h2];exact e1) ht,st,kp h' k⟩ fun b o n q=>k b o n q;obtain⟨j,hj⟩:=j1_.mp m;obtain⟨_,_,_,e2⟩:=h3.2 j a hj;exact jk_ e2
 frame:=fun i ah h h' ⟨as,h1,h2,h3,h4,h5⟩ k=>⟨as,h1,h2,h3.keep fun b o l q=>k b o (qe_ (ri (q0_ _) l)) q,h4.keep (qe_ (q0_ _)) k,k d od (jE_ (jk_ cX)) h5⟩
 nw:=fun z=>absurd z (jE_ (q0_ _))
def itm_list (hh:A.handled=none)(hv:s.heap.IsItemsView r d)(cX:s.heap.get? d=some od)(b9:od.data=.dict es ep)(hn:es.size<=sizeLine)
  (hQ:∀h' tk ah c as,(∀b o,s.heap.get? b=some o->h'.get? b=some o)->h'.get? s.heap.objs.size=some (lsO ah c)->as.length=es.size->Tps es s.heap.objs.size h' as->ah.toList=as.map Value.ref->Q (.ref s.heap.objs.size) {s with heap:=h',toks:=tk}):
  wpAny (model prog w) A (call (.type "list") [.ref r]) Q E s:=
 (V6 hv cX b9 hn).list hh fun h' tk ah c ⟨as,f1,f2,f3⟩ _ k3 k4=>hQ h' tk ah.toArray c as (fun b o q=>k4 b o (jE_ (qS_ (jk_ q))) q) k3 f2 f3 (by simpa using f1)
end
end PySem.W
namespace L2
open PySem PySem.Spec PyProof.Rows
def O5 (ok:HOk P w H h)(e:Rd H a (.dT kvs)):
  ∃o es ep,h.get? a=some o/\o.ExactDict/\o.data=.dict es ep/\es.size=kvs.length/\(a==sysModules)=false/\kvs.length<=sizeLine /\
   ∀(i:Nat) (k:List Key) (v:V),kvs[i]?=some (k,v)->∃b en,es[i]?=some en/\en.key=.ref b/\H b=some (.tup (k.map kV))/\RelV v en.val:=by
 obtain⟨z,y,xs,r,o,es,ep,h1,h2,h3,h4,h5⟩:=(show AY P w H h a (.dT kvs) from S5 ok e);have hl:=x5_ r;have hs:es.size=kvs.length:=by rw[<-qR_,h4,ja_,hl]
 refine⟨o,es,ep,h1,h2,h3,hs,y,z,fun i k v hk=>?_⟩;obtain⟨q,hq,e1,e2,e3⟩:=Gr r hk;refine⟨q.2.1,entryOfKey (tupleKind (AX P w)) q,?_,rfl,e2,e3⟩;rw[<-xd_,h4,jh_,hq];rfl
noncomputable def Od (v d:Addr):HO:=.ext (fun h=>h.IsItemsView v d)
noncomputable def U6 (td:TE):TE:=fun σ H Q=>td σ H fun x H1=>∃d kvs,x=.ref d/\Rd H1 d (.dT kvs)/\∀v,H1 v=none->Q (.ref v) (upd H1 v (Od v d))
theorem Rt : U6 td σ H Q=td σ H fun x H1=>∃d kvs,x=.ref d/\Rd H1 d (.dT kvs)/\∀v,H1 v=none->Q (.ref v) (upd H1 v (Od v d)):=rfl
def Ts (ho:PE X o td)(aO:attributeBase o "items" X.env (eval o X.env)=eval o X.env:=by rfl)(cK:(aG.endLine==aI.line)=true:=by rfl):PE X (.Call (.Attribute o "items" aG) [] [] aI) (U6 td):=by
 intro aa s σ H Q I h;refine wpAny_Call_method0_late aO cK (thn (ho aa s σ H _ I h) fun v s1 ⟨x,H1,I1,r1,d,kvs,ex,hd,q⟩=>?_);subst ex;obtain rfl:v=Value.ref d:=r1;obtain⟨od,es,ep,g1,g2,g3,g4,g5,g6,g7⟩:=O5 I1.hok hd;have hT:s1.TypeIs (.ref d) "dict" := ⟨od,g1,g2.1⟩;refine⟨"dict","dict.items",xp_,xs_,oG,hT,fun b e=>?_,q6_ rfl (pF ?_)⟩
 ·cases e;exact⟨od,g1,g2.2.1⟩
 refine qx_ xs_ hT oA (?_:wpAny _ _ (Builtin.«dict.items» _) _ _ s1) (ot _);unfold Builtin.«dict.items»;refine jd_ ?_;unfold Builtin.Dict.noArgs;refine jd_ (xD_ hT ?_);show wpAny _ _ (pure d) _ _ s1;refine jm_ ?_;show wpAny _ _ (Builtin.Dict.showsAll d >>= _) _ _ s1;unfold Builtin.Dict.showsAll;rw[if_neg (by rw[g5];exact jo_)];refine jd_ (jm_ ?_);refine jd_ (qk_ (jm_ ⟨_,rfl,?_⟩));have new:AY X.prog X.w (upd H1 s1.heap.objs.size (Od s1.heap.objs.size d)) (s1.heap.push {cls:=.type "dict_items",data:=.fields #[.ref d]}) s1.heap.objs.size (Od s1.heap.objs.size d):=
  ⟨⟨_,jr_ _ rfl,rfl,rfl⟩,⟨_,jr_ _ rfl⟩,fun h1 h2 ⟨o,e,r⟩ k=>⟨o,k o e,r⟩⟩
 exact⟨.ref _,_,I1.laid (t':=s1.toks) (fun b u e=>jg_ _ e) (jf_ _) new,rfl,q _ (I1.hok.fresh (jf_ _))⟩
def O6 {P:Program}{w:World}{fs:List Addr}{H0:Hp}{h0 h':Heap}:∀(as:List (Addr×List V)),(as.map (·.1)).Nodup ->
  (∀p∈as,h0.objs.size<=p.1/\p.2.length<=sizeLine/\∃its:List Value,Vals p.2 its/\IsTup h' p.1 its.toArray)->∀H,Un fs [] H0 H h0 h'->HOk P w H h'->(∀p∈as,H p.1=none) ->
  ∃H2,Un fs [] H0 H2 h0 h'/\HOk P w H2 h'/\Same H H2/\(∀p∈as,H2 p.1=some (.tup p.2))/\∀b,b∉as.map (·.1)->H2 b=H b
 |[],_,_,H,u,k,_=>⟨H,u,k,Same.refl _,(fun p hp=>by simp at hp),fun b _=>rfl⟩
 |p::r,nd,hp,H,u,k,hn=>by
  rw[jP_,qU_]at nd;obtain⟨h1,h2,its,h3,h4⟩:=hp p jA_;have mx:=hn p jA_;have k2:HOk P w (upd H p.1 (.tup p.2)) h':=k.track mx ⟨h2,its,h3,h4⟩;obtain⟨H2,e1,e2,e3,e4,e5⟩:=O6 r nd.2 (fun q hq=>hp q (jp_ _ hq)) (upd H p.1 (.tup p.2)) (u.track h1 mx) k2 (fun q hq=>by
   have aC:q.1≠p.1:=fun z=>nd.1 (by rw[<-z];exact xW_ hq);rw[Aj aC];exact hn q (jp_ _ hq))
  refine⟨H2,e1,e2,(Same.new mx).trans e3,fun q hq=>?_,fun b hb=>?_⟩
  ·rcases jD_.mp hq with rfl|hq
   ·exact e3 _ _ Ab
   ·exact e4 q hq
  ·rw[jP_,jD_,not_or]at hb;rw[e5 b hb.2,Aj hb.1]
def Vals.two' (h1:RelV x u)(h2:RelV y v):Vals [x,y] [u,v]:=.cons h1 (.cons h2 .nil)
def XS:∀as:List Addr,Vals (as.map V.ref) (as.map Value.ref)
 |[]=>.nil
 |_::r=>.cons rfl (XS r)
def Ru {X:Cx}{aa:α7}{σ:St}{H:Hp}{s:Shared}{kvs:List (List Key×V)}{es:Array DictEntry}{h':Heap}{as:List Addr}(I:Inv X aa σ H s)(hk:∀b o,s.heap.get? b=some o->h'.get? b=some o)(di:as.length=kvs.length)(hG:PySem.W.Tps es s.heap.objs.size h' as)
  (g7:∀(i:Nat) (k:List Key) (v:V),kvs[i]?=some (k,v)->∃b en,es[i]?=some en/\en.key=.ref b/\H b=some (.tup (k.map kV))/\RelV v en.val):
  ∃H2,Un X.fs [] H H2 s.heap h'/\HOk X.prog X.w H2 h'/\Same H H2/\(∀b,b<=s.heap.objs.size->H2 b=H b)/\Vals (as.map V.ref) (as.map Value.ref)/\∀(i:Nat) (k:List Key) (x:V),kvs[i]?=some (k,x)->∃t b,(as.map V.ref)[i]?=some (V.ref t)/\H2 t=some (.tup [.ref b,x])/\H b=some (.tup (k.map kV)):=by
 have ex:∀i:Fin kvs.length,∃b:Addr,∃en,es[i.1]?=some en/\en.key=.ref b/\H b=some (.tup (kvs[i.1].1.map kV))/\RelV kvs[i.1].2 en.val:=fun i=>g7 i.1 kvs[i.1].1 kvs[i.1].2 (by simp)
 let cs:List (List V):=List.ofFn fun i:Fin kvs.length=>[V.ref (og (ex i)),kvs[i.1].2]
 have bh:cs.length=kvs.length:=by simp[cs]
 have jT:∀i:Fin kvs.length,cs[i.1]?=some [V.ref (og (ex i)),kvs[i.1].2]:=fun i=>by simp[cs]
 have hz:(as.zip cs).map (·.1)=as:=List.map_fst_zip (by rw[di,bh];exact jf_ _);have cR:∀p∈as.zip cs,∃i:Fin kvs.length,as[i.1]?=some p.1/\p.2=[V.ref (og (ex i)),kvs[i.1].2]:=fun p hp=>by
  obtain⟨i,hi⟩:=j1_.mp hp;obtain⟨h1,h2⟩:=List.getElem?_zip_eq_some.mp hi;have l:i<kvs.length:=by rw[<-di];exact (je_.mp h1).1
  rw[jT ⟨i,l⟩]at h2;exact⟨⟨i,l⟩,h1,(jt_ h2).symm⟩
 obtain⟨H2,e1,e2,e3,e4,e5⟩:=O6 (as.zip cs) (by rw[hz];exact hG.1.imp fun a=>jE_ a) (fun p hp=>by
  obtain⟨i,h1,h2⟩:=cR p hp;obtain⟨en,a1,a2,a3,a4⟩:=zv_ (ex i);obtain⟨l,e,b1,b2⟩:=hG.2 i.1 p.1 h1;rw[a1]at b1;cases b1;refine⟨x0_ l,by rw[h2];have:=Al;simp;lia,[en.key,en.val],?_,⟨_,b2,rfl,0,rfl⟩⟩;rw[h2,a2];exact Vals.two' rfl a4) H (Un.kept hk) (I.hok.kept hk) (fun p hp=>by
  obtain⟨i,h1,h2⟩:=cR p hp;exact I.hok.fresh (x0_ (hG.2 i.1 p.1 h1).1))
 refine⟨H2,e1,e2,e3,fun b hb=>e5 b ?_,?_,fun i k x hkx=>?_⟩
 ·rw[hz];intro z;obtain⟨j,hj⟩:=j1_.mp z;exact absurd (hG.2 j b hj).1 (Nat.not_lt.mpr hb)
 ·exact XS as
 ·have l:=(je_.mp hkx).1;obtain⟨en,a1,a2,a3,a4⟩:=zv_ (ex ⟨i,l⟩);have ek:kvs[i]=(k,x):=(je_.mp hkx).2;have fj:as[i]?=some (as[i]'s!""):=by simp
  refine⟨_,_,by rw[jh_,fj];rfl,?_,by simpa [ek] using a3⟩;have:=e4 (as[i]'s!"",_) (j1_.mpr ⟨i,List.getElem?_zip_eq_some.mpr ⟨fj,jT ⟨i,l⟩⟩⟩);simpa [ek] using this
def KI (hc:X.calm=true):Em X (.type "list") (fun xs H Q=>∃v d kvs,xs=[.ref v]/\H v=some (Od v d)/\Rd H d (.dT kvs)/\∀l rs H',Same H H'->H' l=none->rs.length=kvs.length ->
  (∀(i:Nat) (k:List Key) (x:V),kvs[i]?=some (k,x)->∃t b,rs[i]?=some (V.ref t)/\H' t=some (.tup [.ref b,x])/\H b=some (.tup (k.map kV)))->Q (.ref l) (upd H' l (.lst rs))):=by
 intro aa s σ H xs us Q I r h;obtain⟨p,d,kvs,rfl,hv,hp,q⟩:=h;obtain⟨u,rfl,rx⟩:=vals1 r;cases rx;obtain⟨o,es,ep,g1,g2,g3,g4,g5,g6,g7⟩:=O5 I.hok hp;obtain⟨hview,_⟩:=(show AY X.prog X.w H s.heap p (Od p d) from I.hok p _ hv);refine PySem.W.itm_list (I.ok.hd hc) hview g1 g3 (by rw[g4];exact g6) fun h' tk ah c as hk hS hl hG bT=>?_;have di:=hl.trans g4;obtain⟨H2,e1,e2,e3,e5,hv,e4⟩:=Ru I hk di hG g7;have hD:H2 s.heap.objs.size=none:=(e5 _ (jf_ _)).trans (I.hok.fresh (jf_ _));have new:AY X.prog X.w (upd H2 s.heap.objs.size (.lst (as.map V.ref))) h' s.heap.objs.size (.lst (as.map V.ref)):=⟨by rw[ja_,di];exact g6,ah.toList,c,by rw[bT];exact hv,by simpa using hS⟩;exact⟨.ref _,_,I.un (t':=tk) (e1.track (jf_ _) hD) (e2.track hD new),rfl,q _ _ H2 e3 hD (by rw[ja_,di]) e4⟩
section
variable {K:α3} {ta tv td ty tx:TE} {t:TA} {f m:Str} {σ:St} {H:Hp} {Q:VK} {D:Ends} {C:Addr} {sp:Sp} {aN:List V} {E:XK}
theorem XT:tFld K ta f σ H Q=ta σ H fun x H1=>∃a C dx fs v,x=.ref a/\H1 a=some (.ins C dx fs)/\Cls K C/\BK K C f/\fs.lookup f=some v/\Q v H1:=rfl
theorem U7:sFld K ta tv f D σ H=tv σ H fun y H1=>ta σ H1 fun x H2=>∃a C dx fs,x=.ref a/\H2 a=some (.ins C dx fs)/\Cls K C/\BK K C f/\fs.length<1000/\D.nx σ (upd H2 a (.ins C dx (putF f y fs))):=rfl
theorem U8:VJ C m sp aN E ta t σ H Q=ta σ H fun x H1=>∃a dx fs,x=.ref a/\H1 a=some (.ins C dx fs)/\fs.lookup m=none/\t σ H1 fun vs H2=>sp (x::(vs++aN)) H2 Q E:=rfl
theorem U9:W9 C sp aN E t σ H Q=t σ H fun vs H1=>∀x dx,H1 x=none->H1 dx=none->dx≠x->sp (.ref x::(vs++aN)) (upd (upd H1 dx (.own x)) x (.ins C dx [])) (fun v H2=>v=.non/\Q (.ref x) H2) E:=rfl
theorem Rv:UE td ty tx σ H Q=td σ H fun x H1=>∃a,x=.ref a/\IsD H1 a/\ty σ H1 fun y H2=>tx σ H2 fun z H3=>∃o,DGet H3 a y o/\Q (o.getD z) H3:=rfl
end
noncomputable def ents (es:List (α2×Int)):List (List Key×V):=es.map fun e=>(wkey e.1,V.int e.2)
def Rw (es:List (α2×Int)):Dk (es.map (·.1)) (ents es):=by unfold Dk ents;rw[jK_,jK_];rfl
def KJ (h:w∉es.map (·.1)):valV (ents es) (wkey w)=none:=by
 have:=(Rw es).some_iff w;rw[qv_ h]at this;cases q:valV (ents es) (wkey w) with
 |none=>rfl
 |some v=>rw[q]at this;cases this
def Dm:∀{es:List (α2×Int)} {w:α2} {m:Int},(es.map (·.1)).Nodup->(w,m)∈es->valV (ents es) (wkey w)=some (.int m)
 |[],_,_,_,h=>by cases h
 |e::r,w,m,nd,h=>by
  rw[jP_,qU_]at nd;unfold valV ents;rw[jP_,q4_];by_cases hw:e.1=w
  ·have iI:e.2=m:=by
    rcases jD_.mp h with q|q
    ·rw[<-q]
    ·exact absurd (jv_.mpr ⟨_,q,hw.symm⟩) nd.1
   rw[show decide ((wkey e.1,V.int e.2).1=wkey w)=true from ql_ (by rw[hw]),<-iI];rfl
  ·rw[show decide ((wkey e.1,V.int e.2).1=wkey w)=false from qv_ fun z=>hw (Gs z)];rcases jD_.mp h with q|q
   ·exact absurd (by rw[<-q]) hw
   ·exact Dm nd.2 q
def Tt (h:w∉es.map (·.1)):putK (ents es) (wkey w) (.int m)=ents (es++[(w,m)]):=by
 unfold putK;rw[Di,KJ h,if_neg (by simp)];unfold ents;rw[jj_];rfl
end L2
namespace L2
open PySem PySem.Spec PyProof.Rows
def Mf (hc:X.calm=true):Em X (.builtin "sum") (fun xs H Q=>∃(p:Addr) (ns:α2),xs=[.ref p]/\SqL X.K H p (ns.map V.int)/\Q (.int ns.sum) H):=by
 intro aa s σ H xs us Q I r h;obtain⟨p,ns,rfl,hq,q⟩:=h;obtain⟨u,rfl,rx⟩:=vals1 r;cases rx;obtain⟨its,r',pl,_⟩:=I.list hq;have i1:IntsAre its ns:=by simpa using intsAre_of r'
 obtain⟨ys,e⟩:=i1.allInts.items;have e2:=i1.numsOf;rw[show its=its.toArray.toList from rfl,e,nums_intItems]at e2;have hl:=pl.isList;rw[e]at hl;refine sum_intListG (I.ok.hd hc) hl fun h' tk t' hk=>?_;rw[preSum_eq,qO_ (by simp),e2];exact⟨.int ns.sum,H,I.kept hk,⟨_,rfl⟩,q⟩
noncomputable def Rx (C:Addr)(m:Str)(sp:Sp)(aN:List V)(E:St->XK)(ta:TE)(t:TA):TE:=fun σ H Q=>ta σ H fun x H1=>∃a dx fs,x=.ref a/\H1 a=some (.ins C dx fs)/\fs.lookup m=none/\t σ H1 fun vs H2=>sp (x::(vs++aN)) H2 Q (E σ)
theorem Ry : Rx C m sp aN E ta t σ H Q=ta σ H fun x H1=>∃a dx fs,x=.ref a/\H1 a=some (.ins C dx fs)/\fs.lookup m=none/\t σ H1 fun vs H2=>sp (x::(vs++aN)) H2 Q (E σ):=rfl
def O7 (he:PE X o ta)(c:Cls X.K C)(hm:Meth X.K C m f)(F:FnOk X.prog X.w X.K X.mg X.base CX k f fd ps sp)(hr:Room k X.A)(hb:Binds X.K fd ps ds)(hd:Vals aN ds)(hx:∀σ,Ki CX X σ (E σ))(ha:PA X (e::es) t)
  (dX:starEach (e::es) X.env=(false,eval e X.env)::starEach es X.env:=by rfl) (cm:(backTo pos (starEach es X.env)).any (·.1)=false:=by rfl)
  (ht:eval (.Call (.Attribute o m aG) (e::es) [] pos) X.env=(do
   let ov <- eval o X.env
   standAt aG.atName
   let (f,first) <- holding [ov] (getMethod ov m pl)
   callWith pos f first (backTo pos (starEach (e::es) X.env)) (backToKw pos (keywordEach [] X.env))):=by rfl):
  PE X (.Call (.Attribute o m aG) (e::es) [] pos) (Rx C m sp aN E ta t):=by
 intro aa s σ H Q I h;refine xa_ (pl:=pl) (thn (he aa s σ H _ I h) fun u s1 ⟨x,H1,I1,rx,a,dx,fs,ex,ea,l,q⟩=>?_) ht;subst ex;obtain rfl:u=Value.ref a:=rx;refine Gn I1 ea c hm l ?_;refine xy_ (first:=[.ref a]) (h₀:=X.base) I.ok.mod.kin hm.kp (thn (ha pos aa s1 σ H1 _ I1 q) fun us s2 ⟨vs,H2,I2,r,q2⟩=>⟨I2.kIn,?_⟩) dX cm;exact Rc (us:=.ref a::us) (vs:=.ref a::vs) F hr hb hd (hx σ) I2 (.cons rfl r) q2
end L2
namespace PrimeO
noncomputable def EL (p:Nat):Prop:=∀d,2<=d->d<p->p%d≠0
def EL.small (hp:2<=p)(hk:p<k*k)(h:∀d,2<=d->d<k->d<p->p%d≠0):EL p:=by
 intro d h1 h2 h3;by_cases hd:d<k
 ·exact h d h1 hd h2 h3
 ·have e:d*(p / d)=p:=by have:=oU p d;lia
  generalize p / d=q at e;have bC:q≠0:=fun z=>by rw[z]at e;lia
  have fY:q≠1:=fun z=>by rw[z]at e;lia
  have hqk:q<k:=by
   refine Nat.lt_of_not_le fun z=>?_;have:=qJ_ (zC_ hd) z;lia
  refine h q s!"" hqk ?_ (by rw[<-e];exact qk d q);have:2*q<=d*q:=Nat.mul_le_mul_right q h1;lia
noncomputable def chk (p lo:Nat):Nat->Bool
 |0=>(sR (r6 p lo) 0).not
 |n+1=>(chk p lo n).and (chk p (Nat.add lo (Nat.pow 2 n)) n)
def Mg (p:Nat):∀(n lo:Nat),chk p lo n=true->∀d,lo<=d->d<lo+2 ^ n->p%d≠0
 |0,lo,h,d,h1,h2=>by
  have:d=lo:=by simp at h2;lia
  subst this;intro z;have z':r6 p d=0:=z;unfold chk at h;rw[z']at h;simp at h
 |n+1,lo,h,d,h1,h2=>by
  unfold chk at h;have h':=Bool.and_eq_true_iff.mp h;by_cases hd:d<lo+2 ^ n
  ·exact Mg p n lo h'.1 d h1 hd
  ·have e:lo+2 ^ n+2 ^ n=lo+2 ^ (n+1):=by rw[p6];lia
   exact Mg p n (lo+2 ^ n) h'.2 d s!"" s!""
def Ep (hp:2<=p)(h:chk p 2 n=true)(hk:p<(2+2 ^ n)*(2+2 ^ n)):EL p:=
 EL.small hp hk fun d h1 h2 _=>Mg p n 2 h d h1 h2
def nd2:EL 2:=fun d h1 h2=>by lia
def nd3:EL 3:=fun d h1 h2=>by
 have:d=2:=by lia
 subst this;decide
def nd5:EL 5:=Ep (n:=0) (by decide) (by decide) (by decide)
def nd7:EL 7:=Ep (n:=0) (by decide) (by decide) (by decide)
def V7:EL 65537:=Ep (n:=8) (by decide) (by decide +kernel) (by decide +kernel)
def Yz:EL 998244353:=Ep (n:=15) (by decide) (by decide +kernel) (by decide +kernel)
def XU:EL 2147483647:=Ep (n:=16) (by decide) (by decide +kernel) (by decide +kernel)
def Va:∀(m n:Nat) (f:Nat->Nat),(∀i,i<n->f i<m)->(∀i j,i<j->j<n->f i≠f j)->n<=m
 |0,n,f,h,_=>by
  refine zC_ fun z=>?_;exact absurd (h 0 z) (zf_ _)
 |m+1,0,f,_,_=>j3_ _
 |m+1,n+1,f,h,g=>by
  -- dY last value is taken aJ: whoever has dY value m takes dY value of dY last one
  let f':Nat->Nat:=fun i=>if f i=m then f n else f i
  refine qf (Va m n f' (fun i hi=>?_) (fun i j hij hj=>?_))
  ·show (if f i=m then f n else f i)<m;by_cases e:f i=m
   ·rw[if_pos e];have h1:=h n s!"";have h2:=g i n hi s!"";lia
   ·rw[if_neg e];have:=h i s!"";lia
  ·show (if f i=m then f n else f i)≠(if f j=m then f n else f j);have a:=g i j hij s!"";have b:=g i n s!"" s!"";have c:=g j n s!"" s!"";by_cases e:f i=m
   ·rw[if_pos e];by_cases e':f j=m
    ·lia
    ·rw[if_neg e'];lia
   ·rw[if_neg e];by_cases e':f j=m
    ·rw[if_pos e'];exact b
    ·rw[if_neg e'];exact a
def pow_one {q x:Int}(h:q ∣ x-1):∀n:Nat,q ∣ x ^ n-1
 |0=>by simp
 |n+1=>by
  have e:x ^ (n+1)-1=x ^ n*(x-1)+(x ^ n-1):=by
   rw[zw_,pk];lia
  rw[e];exact Int.dvd_add (qG_ h) (pow_one h n)
def Rz {q x:Int}(h:q ∣ x+1):∀n:Nat,q ∣ x ^ (2*n+1)+1
 |0=>by rw[show 2*0+1=1 from rfl,zw_,Int.pow_zero,z0_];exact h
 |n+1=>by
  have e:x ^ (2*(n+1)+1)+1=x*x*(x ^ (2*n+1)+1)-(x-1)*(x+1):=by
   have:x ^ (2*(n+1)+1)=x*x*x ^ (2*n+1):=by
    rw[show 2*(n+1)+1=2*n+1+1+1 from by lia,zw_,zw_,zg_,x4_]
   rw[this,z1_,z1_,pq,zY_,zY_,z0_];lia
  rw[e];exact z2_ (qG_ (Rz h n)) (qG_ h)
def Tu:∀(d:Nat),0<d->∃k m,d=2 ^ k*(2*m+1):=by
 intro d
 induction d using Nat.strongRecOn with
 |ind d ih=>
  intro hd;by_cases h:d%2=0
  ·obtain⟨k,m,e⟩:=ih (d / 2) s!"" s!"";refine⟨k+1,m,?_⟩;rw[p6,pQ,<-e];lia
  ·exact⟨0,d / 2,by simp;lia⟩
def order {q b:Nat}{e:Nat}(hq:3<=q)(h:(q:Int) ∣ (b:Int) ^ (2 ^ e)+1):2 ^ (e+1)<=q:=by
 have hb:nU (b:Int) q=1:=by
  have h1:((nU (b:Int) q:Nat):Int) ∣ (b:Int):=Int.gcd_dvd_left ..;have h2:((nU (b:Int) q:Nat):Int) ∣ (q:Int):=Int.gcd_dvd_right ..;have h3:=pK h2 h;have h4:((nU (b:Int) q:Nat):Int) ∣ (b:Int) ^ (2 ^ e):=by
   obtain⟨c,hc⟩:∃c,2 ^ e=c+1:=⟨2 ^ e-1,by have:=Nat.two_pow_pos e;lia⟩;rw[hc,zw_];exact qG_ h1
  have h5:((nU (b:Int) q:Nat):Int) ∣ 1:=by
   have:=z2_ h3 h4
   rwa [show (b:Int) ^ (2 ^ e)+1-(b:Int) ^ (2 ^ e)=1 from by lia]at this
  have:=pL (by decide) h5;have h6:nU (b:Int) q≠0:=fun z=>by
   have:=Int.gcd_eq_zero_iff.mp z;lia
  lia
 refine Va q (2 ^ (e+1)) (fun i=>b ^ i%q) (fun i _=>rR _ s!"") (fun i j hij hj hm=>?_)
 -- q divides b ^ (j-i)-1
 have hm:b ^ i%q=b ^ j%q:=hm;have d1:(q:Int) ∣ (b:Int) ^ i*((b:Int) ^ (j-i)-1):=by
  have e1:(b:Int) ^ i*((b:Int) ^ (j-i)-1)=((b ^ j:Nat):Int)-((b ^ i:Nat):Int):=by
   rw[pk,<-Int.pow_add,show i+(j-i)=j from by lia,zY_,oW,oW]
  rw[e1];refine jZ_ ?_;have:((b ^ i:Nat):Int)%q=((b ^ j:Nat):Int)%q:=by exact_mod_cast hm
  exact jB_.mp this.symm
 have cop:∀n:Nat,(nU ((b:Int) ^ n) q)=1:=fun n=>by
  induction n with
  |zero=>simp
  |succ n ih=>rw[zw_,Int.gcd_mul_right_left_of_gcd_eq_one ih];exact hb
 have d2:(q:Int) ∣ (b:Int) ^ (j-i)-1:=by
  refine xE_.mp ?_;have:=xE_.mpr d1;rw[qB]at this;exact Nat.Coprime.dvd_of_dvd_mul_left (show rK _ _ from by have:=cop i;rw[rm]at this;exact this) this
 obtain⟨k,m,hd⟩:=Tu (j-i) s!"";have hk:k<=e:=by
  refine zC_ fun z=>?_;have h1:2 ^ (e+1)<=2 ^ k:=Nat.pow_le_pow_right (by decide) z;have h2:2 ^ k*1<=2 ^ k*(2*m+1):=xX_ _ s!"";lia
 have d3:=pow_one d2 (2 ^ (e-k));rw[<-rL,hd,show 2 ^ k*(2*m+1)*2 ^ (e-k)=2 ^ e*(2*m+1) from by
  rw[pQ,<-Nat.pow_add,show k+(e-k)=e from by lia],rL]at d3
 have d4:=Rz h m;have d5:=z2_ d4 d3;rw[show ((b:Int) ^ 2 ^ e) ^ (2*m+1)+1-(((b:Int) ^ 2 ^ e) ^ (2*m+1)-1)=2 from by lia]at d5;have:=pL (by decide) d5;lia
noncomputable def chain (p:Nat):List Nat->Bool
 |[]=>true
 |a::l=>match l with
  |[]=>true
  |b::_=>(sR (r6 (Nat.mul a a) p) b).and (chain p l)
def LK {p:Nat}:∀(l:List Nat) (a z:Nat),chain p (a::l)=true->(a::l).getLast?=some z->z<p->a<p->a ^ (2 ^ l.length)%p=z
 |[],a,z,_,h,_,ha=>by simp at h;subst h;simp[ql ha]
 |b::l,a,z,hc,h,hz,ha=>by
  unfold chain at hc;have hc:=Bool.and_eq_true_iff.mp hc;have e1:a*a%p=b:=Nat.eq_of_beq_eq_true hc.1;have hb:b<p:=by rw[<-e1];exact rR _ s!""
  have:=LK l b z hc.2 (by simpa using h) hz hb;rw[jV_,p6,oM,Nat.pow_mul,Nat.pow_two,Nat.pow_mod,e1];exact this
def YA (hc:chain p (b::l)=true)(hl:(b::l).getLast?=some (p-1))(hp:2<=p)(hb:b<p)(q:Nat)(hq:3<=q)(h:p%q=0):2 ^ (l.length+1)<=q:=by
 have hs:=LK l b (p-1) hc hl s!"" hb;generalize l.length=e at hs;generalize hB:b ^ (2 ^ e)=B at hs;have hd:(p:Int) ∣ (b:Int) ^ (2 ^ e)+1:=by
  rw[<-oW,hB];have e1:(B+1)%p=0:=by
   rw[Nat.add_mod,hs];by_cases h1:p=1
   ·lia
   ·rw[ql (show 1<p by lia),show p-1+1=p from by lia,Nat.mod_self]
  have:=oN e1
  exact_mod_cast this
 exact order hq (pK (Int.natCast_dvd_natCast.mpr (oN h)) hd)
def RA (big:∀q,2<=q->p%q=0->m<=q)(hm:p<m*m):EL p:=by
 intro d h1 h2 h3;have e:d*(p / d)=p:=by have:=oU p d;lia
 generalize p / d=q at e;have bC:q≠0:=fun z=>by rw[z]at e;lia
 have fY:q≠1:=fun z=>by rw[z]at e;lia
 have a:=big d h1 h3;have b:=big q s!"" (by rw[<-e];exact qk d q);have:=qJ_ a b;lia
noncomputable def XW:List Nat:=[59049,3486784401,88018457703999454,45929738478236762,40666034766347230,7693334418966794,176686083274693707,64249661930383583,109385274370896747,125617409189584062,109468562634608601,122701423696867897,35622580771213151,82435950289412150,18627153503673630,120469760524761789,172035590580311624,13190307153726193,3107064753164151,70140624860640424,166009780229527061,23535563731210449,68090728368441414,150068836334812601,160932145882353616,92767654578329832,20253417367123262,76076963643055978,116396373174297913,124091118791727052,120512899165957516,106587366619394153,174473325657852776,42422798089771761,51278126999645464,27655269229009543,75436749302249212,127846334706536764,179803962838676295,39860844515238771,117110086334503012,28926655053941789,99636062047316279,57472177291655405,45590227996605173,164322947671277915,78463280652552016,5197029465238183,37154148892138879,155338536803674377,66159313984295070,171458397805620753,174530742592475567,180143985094819840]
def YB:EL 180143985094819841:=RA (m:=36028797018963968) (fun q hq h=>by
  have h2:q≠2:=fun z=>by subst z;exact absurd h (by decide +kernel)
  have:=YA (p:=180143985094819841) (b:=243) (l:=XW) (by decide +kernel) (by decide +kernel) (by decide +kernel) (by decide +kernel) q s!"" h
  rwa [show 2 ^ (XW.length+1)=36028797018963968 from by decide +kernel]at this) (by decide +kernel)
def EL.gcd (h:EL p) (h0:0<x)(h1:x<p):pB x p=1:=by
 have g1:pB x p<=x:=Nat.le_of_dvd h0 (Nat.gcd_dvd_left ..);have g0:0<pB x p:=Nat.gcd_pos_of_pos_left _ h0;refine qa_ fun z=>?_;exact h (pB x p) s!"" s!"" (Nat.mod_eq_zero_of_dvd (Nat.gcd_dvd_right ..))
noncomputable def Pr (p:Int):Prop:=2<=p/\p<1000000000000000000/\EL p.toNat
def Pr.gcd (h:Pr p)(h0:0<x)(h1:x<p):nU x p=1:=by
 have:=h.2.2.gcd (x:=x.toNat) s!"" s!"";have e:nU x p=pB x.toNat p.toNat:=by
  unfold nU;rw[show x.natAbs=x.toNat from by lia,show p.natAbs=p.toNat from by have:=h.1;lia]
 rw[e];exact this
def V8:∀p ∈ [(2:Int),3,5,7,65537,998244353,2147483647,180143985094819841],Pr p:=by
 intro p hp;simp at hp;rcases hp with rfl|rfl|rfl|rfl|rfl|rfl|rfl|rfl
 ·exact⟨by decide,by decide,nd2⟩
 ·exact⟨by decide,by decide,nd3⟩
 ·exact⟨by decide,by decide,nd5⟩
 ·exact⟨by decide,by decide,nd7⟩
 ·exact⟨by decide,by decide,V7⟩
 ·exact⟨by decide,by decide,Yz⟩
 ·exact⟨by decide,by decide,XU⟩
 ·exact⟨by decide,by decide,YB⟩
end PrimeO
namespace L2
open PySem PySem.Spec PyProof.Rows
def Tv : OpR X (binaryOp .FloorDiv) (rI (fun _ j=>0<j/\j<1208925819614629174706176) fun i j=>.int (i / j)):=opI fun i j _ _ _ _ _ hc q=>by
 have h1:(0:Int)<j:=hc.1;have h2:j<1208925819614629174706176:=hc.2;refine floordiv_int s!"" (by rw[oi i s!""];exact q) (.inl (PyProof.noPylong_of_log2 ?_));have:j.natAbs<2 ^ 80:=by
  rw[show (2:Nat) ^ 80=1208925819614629174706176 from by decide];lia
 have:=(Nat.log2_lt (n:=j.natAbs) (k:=80) s!"").mpr this;lia
theorem RC : W6 A σ H Z=A σ H fun vs H1=>∃i j:Int,vs=[.int i,.int j]/\(-(2 ^ 62)<=i/\i<2 ^ 62 /\ -(2 ^ 62)<=j/\j<2 ^ 62)/\Z (Itr i (j-i).toNat) H1:=rfl
end L2
namespace PySem
open Sem (wp)
open PySem.F
noncomputable def Er (t:Bool)(h:Heap)(l:Addr)(xs:Array Value):Prop:=match t with|false=>h.IsList l xs|true=>h.IsTuple l xs
noncomputable def CV (t:Bool)(h:Heap)(i l:Addr)(k:Nat):Prop:=match t with|false=>h.IsListIter i l k|true=>h.IsTupleIter i l k
def Er.extBut {a b items}(x:Er t h a items)(hs:Heap.ExtBut b h h')(fo:a≠b):Er t h' a items:=by
 cases t
 ·exact Heap.IsList.extBut x hs fo
 ·exact Heap.IsTuple.extBut x hs fo
def Er.push {a items}(x:Er t h a items)(o:Obj):Er t (h.push o) a items:=by
 cases t
 ·exact Heap.IsList.push x o
 ·exact Heap.IsTuple.push x o
def Er.lt {a items}(x:Er t h a items):a<h.objs.size:=by
 cases t
 ·obtain⟨_,e,_⟩:=x;exact jk_ e
 ·obtain⟨_,e,_⟩:=x;exact jk_ e
def CV.extBut {a b l i}(x:CV t h a l i)(hs:Heap.ExtBut b h h')(fo:a≠b):CV t h' a l i:=by
 cases t
 ·exact Heap.IsListIter.extBut x hs fo
 ·exact Heap.IsTupleIter.extBut x hs fo
def CV.at {a l i}(x:CV t h a l i)(e:∀o,h.get? a=some o->h'.get? a=some o):CV t h' a l i:=by
 cases t
 ·exact Heap.IsListIter.at x e
 ·exact Heap.IsTupleIter.at x e
def CV.ob {a l i}(x:CV t h a l i):∃o,h.get? a=some o/\o.data=.fields #[.ref l,.int i 0]:=by
 cases t
 ·obtain⟨o,e,_,d⟩:=x;exact⟨o,e,d⟩
 ·obtain⟨o,e,_,d⟩:=x;exact⟨o,e,d⟩
section
variable {prog:Program} {w:World} {A:Around} {E:Value->Shared->Prop} {s:Shared}
def RD {it l:Addr} (aM:CV t s.heap it l i)(hl:Er t s.heap l items)
  (hQ:∀x h',items[i]?=some x->CV t h' it l (i+1)->Heap.SameBut it s.heap h'->Q x {s with heap:=h' })
  (hE:items[i]?=none->A.handled=none/\∀h' e,Heap.ExtBut it s.heap h'->(∃o,h'.get? e=some o/\o.cls=.type "StopIteration")->E (.ref e) {s with heap:=h' }):wpAny (model prog w) A (Builtin.SmallTypes.nextOf (.ref it)) Q E s:=by
 cases t
 ·cases hx:items[i]? with
  |some x=>exact wpAny_nextOf_list_item aM hl hx fun h'=>hQ x h' hx
  |none=>exact wpAny_nextOf_list_end (hE hx).1 aM hl hx (hE hx).2
 ·exact IU aM hl hQ hE
noncomputable def V9 (t:Bool):Value:=match t with|false=>.type "list_iterator" |true=>.type "tuple_iterator"
def CV.mk (g:h.get? a=some {cls:=V9 t,data:=.fields #[.ref l,.int 0 0]}):CV t h a l 0:=by
 cases t
 ·exact⟨_,g,rfl,rfl⟩
 ·exact⟨_,g,rfl,rfl⟩
def JW {items} (hl:Er t s.heap l items)
  (hQ:Q (.ref s.heap.objs.size) {s with heap:=s.heap.push {cls:=V9 t,data:=.fields #[.ref l,.int 0 0]} }):wpAny (model prog w) A (pyIter (.ref l)) Q E s:=by
 cases t
 ·exact xG_ hl hQ
 ·exact xx_ hl hQ
end
section
variable {prog:Program} {w:World} {A:Around} {E:Value->Shared->Prop} {s:Shared}
def RE {items} (hl:Er t s.heap l items)(h:∀h',s.heap.push {cls:=V9 t,data:=.fields #[.ref l,.int 0 0]}=h'->Q (.ref s.heap.objs.size) {s with heap:=h' }):wpAny (model prog w) A (pyIter (.ref l)) Q E s:=JW hl (h _ rfl)
def zipN {z TI TO i1 i2 l1 l2:Addr} (D:ZipApart z TI TO i1 i2 l1 l2)(hz:IsZip s.heap z TI TO .none)(gQ:IsPair s.heap TI (.ref i1) (.ref i2))(gR:IsPair s.heap TO a b)
  (h1:CV t1 s.heap i1 l1 k1) (h2:CV t2 s.heap i2 l2 k2) (cy:Er t1 s.heap l1 xs) (fO:Er t2 s.heap l2 ys)
  (hQ:∀x y h',xs[k1]?=some x->ys[k2]?=some y->IsZip h' z TI TO (rawInt s.heap.objs.size)->IsPair h' TO x y->CV t1 h' i1 l1 (k1+1)->CV t2 h' i2 l2 (k2+1)->IsPair h' s.heap.objs.size x y->h'.objs.size=s.heap.objs.size+1->(∀c o,c≠z->c≠TO->c≠i1->c≠i2->s.heap.get? c=some o->h'.get? c=some o)->Q (some (.ref s.heap.objs.size)) {s with heap:=h' })
  (hN:xs[k1]?=none\/ys[k2]?=none->A.handled=none/\∀h',(∀c o,c≠z->c≠TO->c≠i1->c≠i2->s.heap.get? c=some o->h'.get? c=some o)->Q none {s with heap:=h' }):wpAny (model prog w) A (pyNext (.ref z)) Q E s:=by
 have hT:s.TypeIs (.ref z) "zip" := ⟨_,hz,rfl⟩;have e1:=F.slot_zip_next;unfold pyNext;refine jd_ (ze_ (qy_ hT e1 (qx_ e1 hT F.entry_zip_next ?_ (F.args_zip_next_1 _))))
 wp_walk using qd_ hz
 ·exact qX_ rfl
 intro u0 g0 k0;replace g0:IsZip u0 z TI TO .ellipsis:=g0;have m1:CV t1 u0 i1 l1 k1:=h1.extBut k0.extBut D.i1z;have m2:Er t1 u0 l1 xs:=cy.extBut k0.extBut D.l1z;simp only[List.zipIdx_cons,List.zipIdx_nil,oS,pj];have stop:∀h' (e:Addr),(∀c o,c≠z->c≠TO->c≠i1->c≠i2->s.heap.get? c=some o->h'.get? c=some o)->IsZip h' z TI TO .ellipsis->(∃o,h'.get? e=some o/\o.cls=.type "StopIteration")->xs[k1]?=none\/ys[k2]?=none ->
   wpAny (model prog w) A.in1 (setField (.ref z) 0 .none) (fun _ ip=>wpAny (model prog w) A (do if <- isInstance (.ref e) (.type "StopIteration") then pure none else throw (.ref e)) Q E ip) (fun e s'=>wpAny (model prog w) A (do if <- isInstance e (.type "StopIteration") then pure none else throw e) Q E s') {s with heap:=h' }:=fun h' e kk iJ he hx=>by
  obtain⟨o,e2,e3⟩:=he;have n:e≠z:=fun x=>by subst x;rw[iJ]at e2;cases e2;simp at e3
  refine qd_ iJ (qX_ rfl) fun h2 _ k2=>jd_ (wpAny_isInstance (T := "StopIteration") (b:=true) ⟨o,k2.extBut e o n e2,e3⟩ isSubtype_stop (jm_ ((hN hx).2 h2 fun c o n1 n2 n3 n4 q=>k2.extBut c o n1 (kk c o n1 n2 n3 n4 q))))
 wp_walk using wpAny_onRaise,RD (A:=A.in1) (s:={s with heap:=u0}) m1 m2
 ·intro x u1 hx m3 k3;have y0:IsPair u1 TO a b:=k3.extBut TO _ D.TOi1 (k0.extBut TO _ D.TOz gR)
  wp_walk using wpAny_updateSeq_pair y0
  intro u2 y2 k4;replace y2:IsPair u2 TO x b:=y2;have kk:∀c o,c≠z->c≠TO->c≠i1->s.heap.get? c=some o->u2.get? c=some o:=fun c o n1 n2 n3 q=>k4.extBut c o n2 (k3.extBut c o n3 (k0.extBut c o n1 q));have g2:IsZip u2 z TI TO .ellipsis:=k4.extBut _ _ D.TOz.symm (k3.extBut _ _ D.i1z.symm g0);have m4:CV t2 u2 i2 l2 k2:=h2.at fun o q=>kk _ o D.i2z D.TOi2.symm D.i12.symm q;have m5:Er t2 u2 l2 ys:=((fO.extBut k0.extBut D.l2z).extBut k3.extBut D.l2i1).extBut k4.extBut D.l2TO
  wp_walk using wpAny_onRaise,RD (A:=A.in1) (s:={s with heap:=u2}) m4 m5
  ·intro y u3 hy m6 k5;have y3:IsPair u3 TO x b:=k5.extBut TO _ D.TOi2 y2
   wp_walk using wpAny_updateSeq_pair y3
   intro u4 y4 k6;replace y4:IsPair u4 TO x y:=y4;have g4:IsZip u4 z TI TO .ellipsis:=k6.extBut _ _ D.TOz.symm (k5.extBut _ _ D.i2z.symm g2);have zz:u4.objs.size=s.heap.objs.size:=k6.1.trans (k5.1.trans (k4.1.trans (k3.1.trans k0.1)))
   wp_walk using newT
   ·exact (show 2<=sizeLine from by decide)
   intro u5 q5;have kp:∀c o,u4.get? c=some o->u5.get? c=some o:=fun c o q=>by rw[<-q5];exact jg_ _ q
   have g5:=kp z _ g4;have y5:IsPair u5 u4.objs.size x y:=by rw[<-q5];exact jr_ _ rfl
   have z5:u5.objs.size=u4.objs.size+1:=by rw[<-q5];exact j9_ ..
   wp_walk using qd_ g5
   ·exact qX_ rfl
   intro u6 g6 k7;replace g6:IsZip u6 z TI TO (rawInt u4.objs.size):=g6
   wp_walk using qd_ g6
   ·exact qX_ rfl
   intro u7 g7 k8;replace g7:IsZip u7 z TI TO (rawInt u4.objs.size):=g7;refine jm_ ⟨_,rfl,jm_ ?_⟩;show Q (some (Value.ref u4.objs.size)) _;have up:∀c o,c≠z->u4.get? c=some o->u7.get? c=some o:=fun c o n q=>k8.extBut c o n (k7.extBut c o n (kp c o q));have nz:u4.objs.size≠z:=qe_ (jk_ g4);have y7:=k8.extBut _ _ nz (k7.extBut _ _ nz y5);rw[zz]at g7 y7 z5 ⊢;exact hQ x y u7 hx hy g7 (up _ _ D.TOz y4) ((m3.at fun o q=>k6.extBut _ o D.TOi1.symm (k5.extBut _ o D.i12 (k4.extBut _ o D.TOi1.symm q))).at fun o q=>up _ o D.i1z q) ((m6.at fun o q=>k6.extBut _ o D.TOi2.symm q).at fun o q=>up _ o D.i2z q) y7 ((k8.1.trans k7.1).trans z5)
    fun c o n1 n2 n3 n4 q=>up c o n1 (k6.extBut c o n2 (k5.extBut c o n4 (kk c o n1 n2 n3 q)))
  ·refine fun hy=>⟨(hN (.inr hy)).1,fun u3 e k5 he=>?_⟩;exact stop u3 e (fun c o n1 n2 n3 n4 q=>k5 c o n4 (kk c o n1 n2 n3 q)) (k5 z _ D.i2z.symm g2) he (.inr hy)
 ·refine fun hx=>⟨(hN (.inl hx)).1,fun u1 e k3 he=>?_⟩;exact stop u1 e (fun c o n1 n2 n3 n4 q=>k3 c o n3 (k0.extBut c o n1 q)) (k3 z _ D.i1z.symm g0) he (.inl hx)
def Oe (cy:Er t1 s.heap l1 xs)(fO:Er t2 s.heap l2 ys)
  (h:∀h',IsZip h' (s.heap.objs.size+4) (s.heap.objs.size+2) (s.heap.objs.size+3) .none->IsPair h' (s.heap.objs.size+2) (.ref s.heap.objs.size) (.ref (s.heap.objs.size+1))->IsPair h' (s.heap.objs.size+3) .none .none->CV t1 h' s.heap.objs.size l1 0->CV t2 h' (s.heap.objs.size+1) l2 0->h'.objs.size=s.heap.objs.size+5->(∀c o,s.heap.get? c=some o->h'.get? c=some o)->Q (.ref (s.heap.objs.size+4)) {s with heap:=h' }):
  wpAny (model prog w) A (call (.type "zip") [.ref l1,.ref l2]) Q E s:=by
 have M:Meets (Builtin.«zip.__new__» ⟨[.type "zip",.ref l1,.ref l2],[]⟩) fun _ R t=>t=s/\∀h',IsZip h' (s.heap.objs.size+4) (s.heap.objs.size+2) (s.heap.objs.size+3) .none->IsPair h' (s.heap.objs.size+2) (.ref s.heap.objs.size) (.ref (s.heap.objs.size+1))->IsPair h' (s.heap.objs.size+3) .none .none->CV t1 h' s.heap.objs.size l1 0->CV t2 h' (s.heap.objs.size+1) l2 0->h'.objs.size=s.heap.objs.size+5->(∀c o,s.heap.get? c=some o->h'.get? c=some o)->R (.ok (.ret (.ref (s.heap.objs.size+4)))) {s with heap:=h' }:=.of_wp fun prog w A R t ⟨e,q⟩=>by
  subst e;obtain⟨hp,g,d,tk,os⟩:=t;have hsub:=sub_zip
  wp_walk using RE cy
  intro u1 q1;obtain⟨a1,b1,c1⟩:=psh q1 rfl;have hl2':Er t2 u1 l2 ys:=by rw[<-q1];exact Er.push fO _
  wp_walk using RE (s:=⟨u1,g,d,tk,os⟩) hl2'
  intro u2 q2;obtain⟨a2,b2,c2⟩:=psh q2 rfl
  wp_walk using newT
  ·exact (show 2<=sizeLine from by decide)
  intro u3 q3;obtain⟨a3,b3,c3⟩:=psh q3 rfl
  wp_walk using newT
  ·exact (show 2<=sizeLine from by decide)
  intro u4 q4;obtain⟨a4,b4,c4⟩:=psh q4 rfl
  wp_walk
  refine⟨_,rfl,?_⟩;have Z1:u1.objs.size=hp.objs.size+1:=c1;have Z2:u2.objs.size=hp.objs.size+2:=(show u2.objs.size=u1.objs.size+1 from c2).trans (by rw[Z1]);have Z3:u3.objs.size=hp.objs.size+3:=(show u3.objs.size=u2.objs.size+1 from c3).trans (by rw[Z2]);have Z4:u4.objs.size=hp.objs.size+4:=(show u4.objs.size=u3.objs.size+1 from c4).trans (by rw[Z3]);obtain⟨a5,b5,c5⟩:=psh (rfl:u4.push {cls:=.type "zip",data:=.fields #[.none,.bool false,.bool false,.ref u2.objs.size,.ref u3.objs.size]}=_) rfl;replace b1:u1.get? hp.objs.size=_:=b1;replace b2:u2.get? u1.objs.size=_:=b2;replace b3:IsPair u3 u2.objs.size (.ref hp.objs.size) (.ref u1.objs.size):=b3;replace b4:IsPair u4 u3.objs.size .none .none:=b4;show R (.ok (.ret (.ref u4.objs.size))) ⟨u4.push {cls:=.type "zip",data:=.fields #[.none,.bool false,.bool false,.ref u2.objs.size,.ref u3.objs.size]},g,d,tk,os⟩;rw[Z1,Z2]at b3;rw[Z1]at b2;rw[Z3]at b4;rw[Z2,Z3,Z4]at b5;rw[Z2,Z3]at a5 c5 ⊢;rw[Z4]at c5 ⊢;exact q _ b5 (a5 _ _ (a4 _ _ b3)) (a5 _ _ b4) (CV.mk (a5 _ _ (a4 _ _ (a3 _ _ (a2 _ _ b1))))) (CV.mk (a5 _ _ (a4 _ _ (a3 _ _ b2)))) c5 fun c o x=>a5 _ _ (a4 _ _ (a3 _ _ (a2 _ _ (a1 _ _ x))))
 exact callType_new F.called_zip (by decide) (F.typeCall_zip_2 _ _) (F.newCall_zip_2 _ _) (fun obj=>F.args_object_init_3 obj _ _) F.entry_zip_new M ⟨rfl,fun h' a b c d e f g=>⟨⟨_,a,rfl⟩,h h' a b c d e f g⟩⟩
end
end PySem
namespace L2
open PySem PySem.Spec PyProof.Rows GW
noncomputable def SqB (K:α3)(H:Hp)(t:Bool)(a:Addr)(xs:List V):Prop:=match t with|false=>SqL K H a xs|true=>SqT K H a xs
def SqB.mono {K:α3} (h:SqB K H t a xs)(s:Same H H'):SqB K H' t a xs:=by
 cases t
 ·exact s.seq h
 ·exact s.seqT h
def Inv.seqB (I:Inv X aa σ H s)(h:SqB X.K H t a xs):∃its:List Value,Vals xs its/\Er t s.heap a its.toArray:=by
 cases t
 ·obtain⟨its,r,p,_⟩:=I.list h;exact⟨its,r,p.isList⟩
 ·obtain⟨its,r,p,_⟩:=I.tuple h;exact⟨its,r,p⟩
noncomputable def Itz2 (K:α3)(t1 t2:Bool)(a b:Addr)(xs ys:List V):It:=⟨fun i H=>i<xs.length/\i<ys.length/\SqB K H t1 a xs/\SqB K H t2 b ys,fun i H x H'=>∃t u v,H t=none/\xs[i]?=some u/\ys[i]?=some v/\x=.ref t/\H'=upd H t (.tup [u,v]),fun i H=>(xs.length<=i\/ys.length<=i)/\SqB K H t1 a xs/\SqB K H t2 b ys⟩
def RF {P:Program}{w:World}{K:α3}{bJ:List Expr}{x1}{bp:Pos}{t1 t2:Bool}{a b z TI TO i1 i2:Addr}(D:ZipApart z TI TO i1 i2 a b)(xs ys:List V):Turn P w K (.Tuple bJ x1 bp) (Itz2 K t1 t2 a b xs ys) [z,TI,TO,i1,i2] z
  (fun i h=>IsZip h z TI TO .none/\IsPair h TI (.ref i1) (.ref i2)/\(∃c d,IsPair h TO c d)/\CV t1 h i1 a i/\CV t2 h i2 b i) where
 mem:=by simp
 obj:=fun i h st c hc=>by
  obtain⟨h1,h2,⟨u,v,h3⟩,h4',h5'⟩:=st;obtain⟨o4,h4,d4⟩:=h4'.ob;obtain⟨o5,h5,d5⟩:=h5'.ob;simp only[jD_,q9_,or_false]at hc;rcases hc with rfl|rfl|rfl|rfl|rfl
  ·exact⟨_,h1,fun v z=>by cases z⟩
  ·exact⟨_,h2,fun v z=>by cases z⟩
  ·exact⟨_,h3,fun v z=>by cases z⟩
  ·exact⟨o4,h4,fun v z=>by rw[d4]at z;cases z⟩
  ·exact⟨o5,h5,fun v z=>by rw[d5]at z;cases z⟩
 keep:=fun i h h' st k=>by
  obtain⟨h1,h2,⟨u,v,h3⟩,h4,h5⟩:=st;exact⟨k z (by simp) _ h1,k TI (by simp) _ h2,⟨u,v,k TO (by simp) _ h3⟩,h4.at fun o q=>k i1 (by simp) o q,h5.at fun o q=>k i2 (by simp) o q⟩
 item:=by
  intro X hP hw hK hc i aa s σ H E I hf st hg;subst hP hw hK;obtain⟨hi,hj,hq,bQ⟩:=hg;obtain⟨hz,gQ,⟨c,d,gR⟩,h1,h2⟩:=st;obtain⟨its,rv,p⟩:=I.seqB hq;obtain⟨aH,eL,p2⟩:=I.seqB bQ;obtain⟨u,hu,ru⟩:=rv.get (i:=i) (x:=xs[i]) (by simp[hi]);obtain⟨v,hv,rv'⟩:=eL.get (i:=i) (x:=ys[i]) (by simp[hj]);have l1:=rv.length;have l2:=eL.length;refine zipN D hz gQ gR h1 h2 p p2 (fun u' v' h' eu ev g1 g2 g3 g4 g5 gs gk=>?_) fun y=>by simp at y;lia
  obtain rfl:u=u':=by simpa [hu] using eu
  obtain rfl:v=v':=by simpa [hv] using ev
  have my:s.heap.objs.size≠z:=qe_ (jk_ hz);refine⟨_,rfl,wpAny_letOwnedTupleGo_zip g1 fun cL e1 bg=>?_⟩;have cM:∀b o,b ∉ [z,TI,TO,i1,i2]->s.heap.get? b=some o->cL.get? b=some o:=fun b o hb q=>by
   simp only[jD_,q9_,or_false,not_or]at hb;exact (bg.2 b hb.1).trans (gk b o hb.1 hb.2.2.1 hb.2.2.2.1 hb.2.2.2.2 q)
  obtain⟨un,hok⟩:=I.unL cM hf;have hn:H s.heap.objs.size=none:=I.hok.fresh (jf_ _);have new:AY X.prog X.w (upd H s.heap.objs.size (.tup [xs[i],ys[i]])) cL s.heap.objs.size (.tup [xs[i],ys[i]]):=⟨by have:=Al;simp;lia,[u,v],.cons ru (.cons rv' .nil),_,(bg.2 _ my).trans g5,rfl,_,rfl⟩;refine⟨.ref s.heap.objs.size,upd H s.heap.objs.size (.tup [xs[i],ys[i]]),I.call' (s':={s with heap:=cL }) (ch:=[z,TI,TO,i1,i2]) rfl (un.track (jf_ _) hn) (hok.track hn new) I.bare (fun b hb=>?_),rfl,⟨_,_,_,hn,by simp[hi],by simp[hj],rfl,rfl⟩,?_,fun b hb=>?_⟩
  ·exact (hf b hb).ch
  ·refine⟨e1,(bg.2 TI D.TIz).trans (gk TI _ D.TIz D.TITO D.TIi1 D.TIi2 gQ),⟨u,v,(bg.2 TO D.TOz).trans g2⟩,g3.at fun o q=>(bg.2 i1 D.i1z).trans q,g4.at fun o q=>(bg.2 i2 D.i2z).trans q⟩
  ·have cO:=hf b hb;have:∃o,s.heap.get? b=some o:=by
    simp only[jD_,q9_,or_false]at hb;rcases hb with rfl|rfl|rfl|rfl|rfl
    ·exact⟨_,hz⟩
    ·exact⟨_,gQ⟩
    ·exact⟨_,gR⟩
    ·obtain⟨o,ho,_⟩:=h1.ob;exact⟨o,ho⟩
    ·obtain⟨o,ho,_⟩:=h2.ob;exact⟨o,ho⟩
   obtain⟨o,ho⟩:=this;rw[Aj (jE_ (jk_ ho))];exact cO.1
 done:=by
  intro X hP hw hK hc i aa s σ H E I hf st hg;subst hP hw hK;obtain⟨hi,hq,bQ⟩:=hg;obtain⟨hz,gQ,⟨c,d,gR⟩,h1,h2⟩:=st;obtain⟨its,rv,p⟩:=I.seqB hq;obtain⟨aH,eL,p2⟩:=I.seqB bQ;have l1:=rv.length;have l2:=eL.length;refine zipN D hz gQ gR h1 h2 p p2 (fun u v h' eu ev=>by have a:=(qN_.mp eu).1;have b:=(qN_.mp ev).1;simp at a b;lia) fun _=>⟨I.ok.hd hc,fun h' gk=>⟨rfl,?_⟩⟩;obtain⟨un,hok⟩:=I.unL (h':=h') (fun b o hb q=>by
   simp only[jD_,q9_,or_false,not_or]at hb;exact gk b o hb.1 hb.2.2.1 hb.2.2.2.1 hb.2.2.2.2 q) hf
  exact I.call' (s':={s with heap:=h' }) (ch:=[z,TI,TO,i1,i2]) rfl un hok I.bare fun b hb=>(hf b hb).ch
 self:=fun A i s Q E st h=>wpAny_pyIter_zip st.1 h
noncomputable def XX (K:α3)(ta:TA):TI:=fun σ H R=>ta σ H fun vs H1=>∃a b xs ys t1 t2,vs=[.ref a,.ref b]/\SqB K H1 t1 a xs/\SqB K H1 t2 b ys/\R (Itz2 K t1 t2 a b xs ys) H1
theorem RG {K:α3} : XX K ta σ H Z=ta σ H fun vs H1=>∃a b xs ys t1 t2,vs=[.ref a,.ref b]/\SqB K H1 t1 a xs/\SqB K H1 t2 b ys/\Z (Itz2 K t1 t2 a b xs ys) H1:=rfl
def Of {x1} (hg:Gl X "zip")(hm:X.mg "zip"=none)(ha:PA X [e,f] ta)(hs:starEach [e,f] X.env=[(false,eval e X.env),(false,eval f X.env)]:=by rfl)(bg:starEach [f] X.env=[(false,eval f X.env)]:=by rfl):PI X (.Tuple bJ x1 bp) (.Call (.Name "zip" p) [e,f] [] pos) (XX X.K ta):=by
 intro aa s σ H R I h;refine Call_ (Hv I hg hm boot_zip (qb_ (thn (ha pos aa s σ H _ I h) fun us s1 ⟨vs,H1,I1,r1,q1⟩=>?_) (by rw[hs,bg]) (by rw[bg];rfl)));obtain⟨a,b,xs,ys,t1,t2,ev,hq,bQ,q⟩:=q1;subst ev;cases r1 with
 |cons r rr=>cases rr with
  |cons r' rr=>
   cases rr;cases r;cases r';obtain⟨its,rv,pl⟩:=I1.seqB hq;obtain⟨aH,eL,pl2⟩:=I1.seqB bQ;refine Oe pl pl2 fun h' hz gQ gR hi1 hi2 hsz hk=>?_;refine wpAny_pyIter_zip (s:={s1 with heap:=h' }) hz ?_;have I2:Inv X aa σ H1 {s1 with heap:=h' }:=I1.kept (t':=s1.toks) hk;refine⟨_,_,_,_,H1,rfl,I2,RF (zipApart_new pl.lt pl2.lt) xs ys,⟨hz,gQ,⟨_,_,gR⟩,hi1,hi2⟩,fun c hc=>?_,q⟩;have cW:s1.heap.objs.size<=c:=by
    simp only[jD_,q9_,or_false]at hc;rcases hc with rfl|rfl|rfl|rfl|rfl
    ·exact zE_ _ 4
    ·exact zE_ _ 2
    ·exact zE_ _ 3
    ·exact jf_ _
    ·exact zE_ _ 1
   exact I1.fpOk cW (I1.hok.fresh cW)
def YC {K:α3} (n:Nat)(kY:n<=xs.length)(jg:n<=ys.length)(hn3:xs.length=n\/ys.length=n)(Pv:Nat->St->Hp->Prop)(h0:Pv 0 σ H)(hl:∀i σ H,i<=n->Pv i σ H->SqB K H t1 a xs/\SqB K H t2 b ys)
  (hs:∀i u v σ H t,i<n->xs[i]?=some u->ys[i]?=some v->Pv i σ H->H t=none->g (.ref t) σ (upd H t (.tup [u,v])) fun ai H2=>tb {D with nx:=Pv (i+1),ct:=Pv (i+1),bk:=D.nx} ai H2) (hd:∀σ H,Pv n σ H->D.nx σ H):ForW (Itz2 K t1 t2 a b xs ys) g tb D σ H:=by
 refine⟨fun i m σ H=>m+i=n/\Pv i σ H,⟨n,by lia,h0⟩,fun i m σ H ⟨hm,hp⟩=>?_⟩;obtain⟨q1,q2⟩:=hl i σ H s!"" hp;by_cases hi:i<n
 ·refine .inr ⟨⟨by lia,by lia,q1,q2⟩,Pv (i+1),fun af H' h=>⟨m-1,by lia,by lia,h⟩,fun x H' hy=>?_⟩;obtain⟨t,u,v,e1,e2,e3,rfl,rfl⟩:=hy;exact hs i u v σ H t hi e2 e3 hp e1
 ·have e:i=n:=by lia
  subst e;exact .inl ⟨⟨by lia,q1,q2⟩,hd σ H hp⟩
def XY {K:α3} (n:Nat)(kY:n<=xs.length)(jg:n<=ys.length)(hn3:xs.length=n\/ys.length=n)(Pv:Nat->List V->St->Hp->Prop)(h0:Pv 0 [] (cp.st σ) H)(hz:n<sizeLine)
  (hl:∀i zs σ H,i<=n->Pv i zs σ H->SqB K H t1 a xs/\SqB K H t2 b ys/\zs.length<=i)
  (hs:∀i u v zs σ H t,i<n->xs[i]?=some u->ys[i]?=some v->Pv i zs σ H->H t=none->g (.ref t) σ (upd H t (.tup [u,v])) fun ai H2=>tc ai H2 fun b H3=>if b=true then te ai H3 fun v H4=>Pv (i+1) (zs++[v]) ai H4 else Pv (i+1) zs ai H3)
  (hd:∀zs σ H,Pv n zs σ H->∀D,H D=none->Q (.ref D) (upd H D (.lst zs))):Hz (Itz2 K t1 t2 a b xs ys) cp g tc te σ H Q:=by
 refine⟨fun i m zs σ H=>m=n-i/\i<=n/\Pv i zs σ H,⟨n,by simp,j3_ _,h0⟩,?_⟩;rintro i m zs σ H ⟨rfl,hi,p⟩;obtain⟨q1,q2,ly⟩:=hl i zs σ H hi p;refine⟨by lia,?_⟩;by_cases aF:i<n
 ·refine .inr ⟨⟨by lia,by lia,q1,q2⟩,Pv (i+1),fun fq af H' p'=>⟨n-(i+1),by lia,rfl,aF,p'⟩,fun x H' y=>?_⟩;obtain⟨t,u,v,e1,e2,e3,rfl,rfl⟩:=y;exact hs i u v zs σ H t aF e2 e3 p e1
 ·have e:i=n:=by lia
  subst e;exact .inl ⟨⟨by lia,q1,q2⟩,hd zs σ H p⟩
def O8 {K:α3} (f:V->V)(e:cp.st σ=none::af)(hl:SqB K H t a xs)(hz:xs.length<sizeLine)(hs:∀x∈xs,∀R:VK,R (f x) H->te (some x::af) H R)(hd:∀D,H D=none->Q (.ref D) (upd H D (.lst (xs.map f)))):
  ((∃xs,SqL K H a xs)/\Hz (Itl K a) cp (IJ 0) Mb te σ H Q)\/((∃xs,SqT K H a xs)/\Hz (Itt K a) cp (IJ 0) Mb te σ H Q):=by
 cases t
 ·exact .inl ⟨⟨_,hl⟩,Tc f e hl hz hs hd⟩
 ·exact .inr ⟨⟨_,hl⟩,Md f e hl hz hs hd⟩
def O9 {K:α3} (f:Int->Int->Int)(e:cp.st σ=none::none::af)(h1:SqB K H t1 a (xs.map V.int))(h2:SqB K H t2 b (ys.map V.int))(ak:xs.length=ys.length)(hz:xs.length<sizeLine)
  (hg:∀t u v o1 o2 H N,H t=some (.tup [u,v])->N (some u::some v::af) H->g (.ref t) (o1::o2::af) H N)
  (hs:∀x y H',x∈xs->y∈ys->Same H H'->∀R:VK,R (.int (f x y)) H'->te (some (.int x)::some (.int y)::af) H' R)
  (hd:∀H' D,Same H H'->H' D=none->Q (.ref D) (upd H' D (.lst ((nP f xs ys).map V.int)))):Hz (Itz2 K t1 t2 a b (xs.map V.int) (ys.map V.int)) cp g Mb te σ H Q:=by
 refine XY xs.length (by rw[ja_];lia) (by rw[ja_];lia) (by rw[ja_];exact .inl rfl) (fun i zs ai H2=>Same H H2/\zs=((nP f xs ys).take i).map V.int/\∃o1 o2,ai=o1::o2::af) ⟨Same.refl _,by simp,none,none,e⟩ hz (fun i zs ai H2 hi h=>?_) (fun i u v zs ai H2 t hi hu hv h ht=>?_) (fun zs ai H2 h D hD=>?_)
 ·obtain⟨s2,rfl,_⟩:=h;exact⟨h1.mono s2,h2.mono s2,by rw[ja_,jI_];lia⟩
 ·obtain⟨s2,rfl,o1,o2,rfl⟩:=h;obtain⟨x,hx,rfl⟩:=Kh hu;obtain⟨y,hy,rfl⟩:=Kh hv;refine hg t _ _ o1 o2 _ _ Ab ?_;rw[Q7,if_pos rfl];refine hs x y _ (jn_ hx) (jn_ hy) (s2.newT ht) _ ⟨s2.newT ht,?_,_,_,rfl⟩;rw[jQ_,xh_,hx,hy];simp
 ·obtain⟨s2,rfl,_⟩:=h;have:=hd H2 D s2 hD
  rwa [qO_ (by rw[xY_];lia)]
end L2
namespace Nest
noncomputable def sl (row:α2)(b i:Nat):α2:=(row.take i).drop b
noncomputable def dl (p e x:Int):Int:=if x=e then -1 else if p<=x then 1 else 0
noncomputable def outF (p e:Int)(s:α2×Int)(x:Int):α2×Int:=if x=e then (s.1,s.2-1) else (if s.2=0 then s.1++[x] else s.1,if p<=x then s.2+1 else s.2)
noncomputable def outS (p e:Int)(l:α2):α2×Int:=l.foldl (outF p e) ([],0)
noncomputable def outW (p e:Int)(l:α2):α2:=(outS p e l).1
noncomputable def wd (p e:Int)(row:α2)(i a:Nat):α2:=outW p e (sl row (a+1) i)
end Nest
namespace L2
open PySem PySem.Spec PyProof.Rows GW
def Og {K:α3} (hK:X.K=K)(hc:X.calm=true)(h:PGs X es t)
  (hn:(assignEach es X.env).length=n:=by rfl) (dX:(assignEach es X.env).findIdx? (·.1)=none:=by rfl):PG X (.Tuple es k pos) (gTup K n t):=by
 subst hK;exact LC hc h hn dX
end L2
namespace HT
open PySem PySem.Spec PyProof.Rows L2
section
variable {prog:Program} {w:World} {A:Around} {E:Value->Shared->Prop} {s:Shared}
def getItem_tuple_whole {t sl:Addr} {lo hi:Option Int} (ht:IsTup s.heap t items)(hs:s.heap.IsSliceOf sl vl vu .none)(pl:IsPart vl lo)(pu:IsPart vu hi)
  (hw:sIx items.size 0 lo=0/\sIx items.size items.size hi=items.size) (h:Q (.ref t) s):wpAny (model prog w) A (getItem (.ref t) (.ref sl)) Q E s:=by
 obtain⟨os,eA,dG,gK⟩:=id hs;have lQ:s.TypeIs (.ref sl) "slice" := ⟨os,eA,dG⟩;unfold getItem
 try with_reducible refine xc_ ?_
 first|refine jd_ (jm_ ?_)|skip
 refine jd_ (wpAny_sequenceKey ht.typeIs (by decide) ?_);refine jd_ (qy_ (name:=Str.ofString "__getitem__") ht.typeIs j2_
  (qx_ j2_ ht.typeIs entry_tuple_getitem ?_ (args_tuple_getitem _ _)))
 show wpAny _ _ (Builtin.Tuple.tupleItemsOf (.ref t) >>= _) _ _ s;refine jd_ (tupleItemsOf_ ht ?_);refine jd_ (zt_ lQ ?_);rw[if_pos (by decide)];refine jd_ (Fb hs pl pu ?_);rw[hw.1,hw.2];show wpAny _ _ (if ((((0:Nat):Int)==0&&(1:Int)==1&&(items.size-0)==items.size)=true) then _ else _) _ _ s;rw[if_pos (by simp)];refine jd_ ?_;unfold Builtin.Tuple.tupleIsExact;refine jd_ (zt_ ht.typeIs (jm_ ?_));rw[if_pos (by decide)];refine jd_ (wpAny_rule ?_);exact jm_ ⟨_,rfl,jm_ h⟩
end
end HT
namespace L2
open PySem PySem.Spec PyProof.Rows GW
noncomputable def XZ (K:α3):V->Option Int->Option Int->Hp->VK->Prop:=fun x lo hi H Q=>∃a xs,x=.ref a/\SqT K H a xs/\∀p H',Same H H'->SqT K H' p (cutV xs lo hi)->Q (.ref p) H'
theorem Vb {K:α3} {lo hi:Option Int} : XZ K x lo hi H Q=∃a xs,x=.ref a/\SqT K H a xs/\∀p H',Same H H'->SqT K H' p (cutV xs lo hi)->Q (.ref p) H':=rfl
def Oh : SlR X (XZ X.K):=by
 intro aa s σ H x v vl vu lo hi sl Q I rx hs pl pu h;obtain⟨a,xs,rfl,hx,q⟩:=h;by_cases hw:HT.sIx xs.length 0 lo=0/\HT.sIx xs.length xs.length hi=xs.length
 ·cases rx;obtain⟨its,r,ht,hz⟩:=I.tuple hx;have ak:its.toArray.size=xs.length:=by rw[jl_];exact r.length.symm
  refine⟨"tuple",_,j2_.lookup,ht.typeIs,?_⟩;refine HT.getItem_tuple_whole ht hs pl pu (by rw[ak];exact hw) ⟨.ref a,H,I,rfl,q a H (Same.refl _) ?_⟩;unfold cutV;rw[hw.1,hw.2,q2_,zx_,jG_];exact hx
 ·exact Uw aa s σ H (.ref a) v vl vu lo hi sl Q I rx hs pl pu ⟨a,xs,rfl,hx,hw,fun p hp=>q p _ (Same.new hp) (SqT.of Ab)⟩
def Wa {K:α3} (hK:X.K=K)(hl:PE X l tl):PI X tg l (iSeq K tl):=by subst hK;exact Rh hl
def RH {K:α3} (g:Nat->V)(e:cp.st σ=none::af)(hl:SqB K H t a xs)(hz:xs.length<sizeLine)(hs:∀i x,xs[i]?=some x->∀R:VK,R (g i) H->te (some x::af) H R)(hd:∀D,H D=none->Q (.ref D) (upd H D (.lst ((nJ xs.length).map g)))):
  ((∃xs,SqL K H a xs)/\Hz (Itl K a) cp (IJ 0) Mb te σ H Q)\/((∃xs,SqT K H a xs)/\Hz (Itt K a) cp (IJ 0) Mb te σ H Q):=by
 cases t
 ·refine .inl ⟨⟨_,hl⟩,KA (xs:=xs) (fun i ys ai H2=>H2=H/\ys=(nJ i).map g/\∃o,ai=o::af) ⟨rfl,rfl,none,e⟩ hz (fun i ys ai H2 hi h=>?_) (fun i x ys ai H2 hx h=>?_) (fun ys ai H2 h=>?_)⟩
  ·obtain⟨rfl,rfl,_⟩:=h;exact⟨hl,by rw[ja_,jT_];exact jf_ _⟩
  ·obtain⟨rfl,rfl,o,rfl⟩:=h;refine hs i x hx _ ⟨rfl,?_,some x,rfl⟩;rw[qC_,jj_];rfl
  ·obtain⟨rfl,rfl,_⟩:=h;exact hd
 ·refine .inr ⟨⟨_,hl⟩,VW (xs:=xs) (fun i ys ai H2=>H2=H/\ys=(nJ i).map g/\∃o,ai=o::af) ⟨rfl,rfl,none,e⟩ hz (fun i ys ai H2 hi h=>?_) (fun i x ys ai H2 hx h=>?_) (fun ys ai H2 h=>?_)⟩
  ·obtain⟨rfl,rfl,_⟩:=h;exact⟨hl,by rw[ja_,jT_];exact jf_ _⟩
  ·obtain⟨rfl,rfl,o,rfl⟩:=h;refine hs i x hx _ ⟨rfl,?_,some x,rfl⟩;rw[qC_,jj_];rfl
  ·obtain⟨rfl,rfl,_⟩:=h;exact hd
end L2
namespace L2
open PySem PySem.Spec PyProof.Rows
def FF {K:α3}(h:X.K=K):OpR X (binaryOp .Add) (Cb K):=by subst h;exact Dj
end L2
set_option maxHeartbeats 1000000
set_option maxHeartbeats 4000000
namespace L2
section
variable {α:Type} [DecidableEq α]
noncomputable def ins1 (ah:List α)(x:α):List α:=if x∈ah then ah else ah++[x]
noncomputable def Wb (ah row:List α):List α:=row.foldl ins1 ah
noncomputable def RI (row:List α):List α:=Wb [] row
noncomputable def num (row:List α):α2:=row.map fun x=>((RI row).idxOf x:Int)
noncomputable def ncl (row:List α):Nat:=(RI row).length
end
noncomputable def rowB (n:Nat)(b:α2->Nat->Int)(w:α2):α2:=(nJ n).map (b w)
noncomputable abbrev StC:=α1×α2
noncomputable def YD (n:Nat)(b:α2->Nat->Int)(w:α2)(st:StC)(x:Nat):StC:=if ncl st.2<ncl (st.2.zip (rowB n b ((x:Int)::w))) then (st.1++[(x:Int)::w],num (st.2.zip (rowB n b ((x:Int)::w)))) else st
noncomputable def X0 (n:Nat)(b:α2->Nat->Int)(w:α2)(L:Nat)(st:StC):StC:=(nJ L).foldl (YD n b w) st
noncomputable def Vc (n:Nat)(b:α2->Nat->Int)(L:Nat):Nat->Nat->StC->StC
 |0,_,st=>st
 |f+1,k,st=>if k<st.1.length then Vc n b L f (k+1) (X0 n b (st.1.getD k []) L st) else st
section
variable {n L:Nat} {b:α2->Nat->Int} {w:α2} {st:StC}
noncomputable def wcOf (n L:Nat)(b:α2->Nat->Int):StC:=Vc n b L 41 0 ([[]],num (rowB n b []))
end
end L2
namespace L2
open GW GB
noncomputable def bW (bL:α2)(aL:α1)(w:α2)(r:Nat):Int:=bL.getD (Yy aL (r:Int) w).toNat 0
noncomputable def cf (c:α2)(r:Int):Int:=c.getD r.toNat 0
noncomputable def hm (c R:α2)(r:Int):Int:=(((RI (R.map (cf c))).idxOf (cf c r):Nat):Int)
noncomputable def hrow (c R:α2)(aL:α1)(r:Int):α2:=(aL.getD r.toNat []).map (hm c R)
noncomputable def cOf (L:Nat)(bL:α2)(aL:α1):α2:=(wcOf bL.length L (bW bL aL)).2
noncomputable def rOf (aL:α1):α2:=(Rk aL).map (·.1)
noncomputable def hO (L:Nat)(bL:α2)(aL:α1)(r:Int):Int:=hm (cOf L bL aL) (rOf aL) r
section
variable {L:Nat} {bL:α2} {aL:α1}
noncomputable def wi (aL:α1)(r:Int):α2:=(((Rk aL).find? fun e=>decide (e.1=r)).map (·.2)).getD []
end
end L2
set_option maxHeartbeats 1000000
namespace L2
open PySem PySem.Spec PyProof.Rows
noncomputable def nt (n:Int):Str:=Str.ofString (toString n)
end L2
set_option maxHeartbeats 4000000
namespace L2
open PySem PySem.Spec PyProof.Rows
section
variable {X:Cx} {aa:α7} {σ:St} {H:Hp} {s:Shared} {a:Addr}
def Inv.freezeK (I:Inv X aa σ H s)(e:H a=some (.dK kvs))(ho:s.heap.get? a=some o):Inv X aa σ (upd H a (.frz o (.dK kvs))) s:=by
 refine IM (h':=s.heap) (t':=s.toks) I (by rw[e];exact nL) ⟨rfl,fun _ _=>rfl⟩ ⟨o,ho⟩ ?_;exact⟨ho,(show AY X.prog X.w H s.heap a (.dK kvs) from I.hok a _ e)⟩
end
def dkAt (ok:HOk P w H h)(e:Rd H a (.dK kvs)):
  ∃vs ep,h.DictAt (AX P w) a vs ep/\KV kvs vs/\(a==sysModules)=false/\kvs.length<=sizeLine:=by
 obtain⟨z,y,vs,r,m⟩:=Nb ok e;obtain⟨ep,aZ⟩:=m.dictAt;exact⟨vs,ep,aZ,r,y,z⟩
def KV.get {kvs:List (Key×V)}{vs:List (Key×Value)}(r:KV kvs vs){i:Nat}{k:Key}{v:V}(h:kvs[i]?=some (k,v)):∃u,vs[i]?=some (k,u)/\RelV v u:=by
 obtain⟨q,hq,e1,e2⟩:=Gr r h;exact⟨q.2,by rw[hq,show k=q.1 from e1],e2⟩
noncomputable def ItkK (o:Obj)(a:Addr)(kvs:List (Key×V)):It:=⟨fun i H=>i<kvs.length/\H a=some (.frz o (.dK kvs)),fun i H x H'=>H'=H/\∃k v,kvs[i]?=some (k,v)/\x=kV k,fun i H=>kvs.length<=i/\H a=some (.frz o (.dK kvs))⟩
def Tw (ok:HOk P w H h)(hd:o.data=.dict es ep)(e:H a=some (.frz o (.dK kvs))):∃vs,h.DictAt (AX P w) a vs ep/\KV kvs vs/\vs.length=kvs.length:=by
 obtain⟨kZ,_⟩:=(show AY P w H h a (.frz o (.dK kvs)) from ok a _ e);obtain⟨vs,kP,aZ,r,_,_⟩:=dkAt ok (.inr ⟨o,e⟩);obtain⟨o',dv,g1,g2,g3,g4⟩:=id aZ;rw[kZ]at g1;cases g1;rw[hd]at g3;cases g3;exact⟨vs,aZ,r,r.length.symm⟩
noncomputable def FzAt (d:Addr)(H H':Hp):Prop:=(∀a u,a≠d->H a=some u->H' a=some u)/\∀u,H d=some u->H' d=some u \/ ∃kvs o,u=.dK kvs/\H' d=some (.frz o (.dK kvs))
def FzAt.of (s:Same H H'):FzAt d H H':=⟨fun a u _ h=>s a u h,fun u h=>.inl (s d u h)⟩
def FzAt.trans {H H' H2:Hp}(s:FzAt d H H')(t:FzAt d H' H2):FzAt d H H2:=by
 refine⟨fun a u ha h=>t.1 a u ha (s.1 a u ha h),fun u h=>?_⟩;rcases s.2 u h with h' | ⟨kvs,o,e,h'⟩
 ·exact t.2 u h'
 ·rcases t.2 _ h' with h2|⟨_,_,e2,_⟩
  ·exact .inr ⟨kvs,o,e,h2⟩
  ·cases e2
def FzAt.lst {d a:Addr}{H H':Hp}{xs:List V}(s:FzAt d H H')(h:H a=some (.lst xs)):H' a=some (.lst xs):=by
 by_cases e:a=d
 ·subst e;rcases s.2 _ h with h' | ⟨_,_,e,_⟩
  ·exact h'
  ·cases e
 ·exact s.1 a _ e h
def FzAt.seqT {K:α3} (s:FzAt d H H')(h:SqT K H a xs):SqT K H' a xs:=by
 have key:∀u,(∀kvs,u ≠ .dK kvs)->H a=some u->H' a=some u:=fun u hu h=>by
  by_cases e:a=d
  ·subst e;rcases s.2 _ h with h' | ⟨kvs,_,e,_⟩
   ·exact h'
   ·exact absurd e (hu kvs)
  ·exact s.1 a _ e h
 rcases h with (q|⟨o,q⟩)|q
 ·exact .inl (.inl (key _ (fun _ z=>nomatch z) q))
 ·exact .inl (.inr ⟨o,key _ (fun _ z=>nomatch z) q⟩)
 ·exact .inr q
def FzAt.rd (s:FzAt d H H')(h:Rd H a (.dK kvs)):Rd H' a (.dK kvs):=by
 by_cases e:a=d
 ·subst e;rcases h with h|⟨o,h⟩
  ·rcases s.2 _ h with h' | ⟨kvs,o,e,h'⟩
   ·exact .inl h'
   ·cases e;exact .inr ⟨o,h'⟩
  ·rcases s.2 _ h with h' | ⟨kvs,o',e,h'⟩
   ·exact .inr ⟨o,h'⟩
   ·cases e
 ·rcases h with h|⟨o,h⟩
  ·exact .inl (s.1 a _ e h)
  ·exact .inr ⟨o,s.1 a _ e h⟩
def FzAt.same (s:FzAt d H H')(h:Same H0 H)(hd:H0 d=none):Same H0 H':=fun a u e=>s.1 a u (fun z=>by rw[z,hd]at e;cases e) (h a u e)
def FzAt.new (h:Rd H d (.dK kvs))(h1:H' d=some (.frz o (.dK kvs)))(h2:∀b,b≠d->H' b=H b)(h3:∀o',H d=some (.frz o' (.dK kvs))->o'=o):FzAt d H H':=by
 refine⟨fun a u ha e=>by rw[h2 a ha];exact e,fun u e=>?_⟩;rcases h with h|⟨o',h⟩
 ·rw[h]at e;cases e;exact .inr ⟨kvs,o,rfl,h1⟩
 ·rw[h]at e;cases e;rw[h3 o' h] ;exact .inl h1
def frzK (I:Inv X aa σ H s)(e:Rd H a (.dK kvs)):
  ∃o es vs ep H2,Inv X aa σ H2 s/\H2 a=some (.frz o (.dK kvs))/\FzAt a H H2/\s.heap.DictAt (AX X.prog X.w) a vs ep/\s.heap.get? a=some o/\o.ExactDict/\o.data=.dict es ep/\vs.length=kvs.length/\(a==sysModules)=false:=by
 obtain⟨vs,ep,aZ,r,g5,g6⟩:=dkAt I.hok e;obtain⟨od,es,g1,g2,g3,g4⟩:=id aZ;rcases e with e|⟨o,e⟩
 ·exact⟨od,es,vs,ep,_,I.freezeK e g1,Ab,FzAt.new (.inl e) Ab (fun b hb=>Aj hb) (fun o' z=>by rw[e]at z;cases z),aZ,g1,g2,g3,r.length.symm,g5⟩
 ·obtain⟨kZ,_⟩:=(show AY X.prog X.w H s.heap a (.frz o (.dK kvs)) from I.hok a _ e);rw[kZ]at g1;cases g1;exact⟨_,es,vs,ep,H,I,e,FzAt.of (Same.refl _),aZ,kZ,g2,g3,r.length.symm,g5⟩
def PZ {P:Program}{w:World}{K:α3}{tg:Expr}{o:Obj}{a it:Addr}{kvs:List (Key×V)}{es:Array DictEntry}{ep:Nat}(fj:a≠it)(hd:o.data=.dict es ep):
  Turn P w K tg (ItkK o a kvs) [it] it (fun i h=>h.IsKeyIter it a i kvs.length ep) where
 mem:=by simp
 obj:=fun i h st b hb=>by
  have e:b=it:=by simpa using hb
  subst e;obtain⟨o,e,c,d⟩:=st;exact⟨o,e,fun v z=>by rw[d]at z;cases z⟩
 keep:=fun i h h' st k=>st.at fun o e=>k it (by simp) o e
 item:=by
  intro X hP hw hK jU i aa s σ H E I hf st hg;subst hP hw hK;obtain⟨hi,hq⟩:=hg;obtain⟨vs,aZ,r,hl⟩:=Tw I.hok hd hq;obtain⟨kv,bU⟩:∃kv,kvs[i]?=some kv:=⟨kvs[i],by simp[hi]⟩;obtain⟨k,v⟩:=kv;obtain⟨u,hu,ru⟩:=KV.get r bU;obtain⟨f0,f1,f2,f3,f4,f5⟩:=hf it (by simp);refine wpAny_pyNext_dict_item (kvs:=vs) (by rw[hl];exact st) aZ hu fun key h' hk cj sb=>?_;rw[hl]at cj;have I1:Inv X aa σ H {s with heap:=h' }:=I.turned (t':=s.toks) (fun b o hb e=>(sb.2 b hb).trans e) f0 f1 f3 f4 f5;obtain⟨io,e,c,d⟩:=id cj;exact⟨_,rfl,Qx (s:={s with heap:=h' }) e c d (by decide) ⟨kV k,H,I1,Nh hk,⟨rfl,k,v,bU,rfl⟩,cj,fun b hb=>(hf b hb).1⟩⟩
 done:=by
  intro X hP hw hK jU i aa s σ H E I hf st hg;subst hP hw hK;obtain⟨hi,hq⟩:=hg;obtain⟨vs,aZ,r,hl⟩:=Tw I.hok hd hq;obtain⟨f0,f1,f2,f3,f4,f5⟩:=hf it (by simp);exact wpAny_pyNext_dict_end (kvs:=vs) (I.ok.hd jU) (by rw[hl];exact st) aZ (jF_ s!"") fun h' eb=>⟨rfl,I.turned (t':=s.toks) (fun b o hb e=>eb b o hb e) f0 f1 f3 f4 f5⟩
 self:=fun _ _ _ _ _ st h=>wpAny_pyIter_keyiter st h
noncomputable def Vd (td:TE):TI:=fun σ H R=>td σ H fun x H1=>∃a kvs,x=.ref a/\Rd H1 a (.dK kvs)/\∀o H2,H2 a=some (.frz o (.dK kvs))->FzAt a H1 H2->R (ItkK o a kvs) H2
theorem Pb : Vd te σ H Z=te σ H fun x H1=>∃a kvs,x=.ref a/\Rd H1 a (.dK kvs)/\∀o H2,H2 a=some (.frz o (.dK kvs))->FzAt a H1 H2->Z (ItkK o a kvs) H2:=rfl
def Tx (hl:PE X l tl):PI X tg l (Vd tl):=by
 intro aa s σ H R I h;refine thn (hl aa s σ H _ I h) fun v s1 ⟨x,H1,I1,r1,q1⟩=>?_;obtain⟨a,kvs,e,hq,q⟩:=q1;subst e;cases r1;obtain⟨o,es,vs,ep,H2,I2,mz,hF,aZ,g1,g2,g3,ak,g5⟩:=frzK I1 hq;refine wpAny_pyIter_dict g5 aZ ?_;refine⟨s1.heap.objs.size,[s1.heap.objs.size],_,_,_,rfl,I2.kept (t':=s1.toks) fun b o e=>jg_ _ e,PZ (o:=o) (kvs:=kvs) (jE_ (jk_ g1)) g3,⟨_,jr_ _ rfl,rfl,by rw[ak];rfl⟩,fun b hb=>?_,q o H2 mz hF⟩;have e:b=s1.heap.objs.size:=by simpa using hb
 subst e;exact I2.fpOk (jf_ _) (I2.hok.fresh (jf_ _))
def YE (Pv:Nat->St->Hp->Prop)(h0:Pv 0 σ H)(hl:∀i σ H,i<=kvs.length->Pv i σ H->H a=some (.frz o (.dK kvs)))
  (hs:∀i k v σ H,kvs[i]?=some (k,v)->Pv i σ H->g (kV k) σ H fun ai H2=>tb {D with nx:=Pv (i+1),ct:=Pv (i+1),bk:=D.nx} ai H2) (hd:∀σ H,Pv kvs.length σ H->D.nx σ H):ForW (ItkK o a kvs) g tb D σ H:=by
 refine⟨fun i m σ H=>m+i=kvs.length/\Pv i σ H,⟨kvs.length,by lia,h0⟩,fun i m σ H ⟨hm,hp⟩=>?_⟩;have hq:=hl i σ H s!"" hp;by_cases hi:i<kvs.length
 ·refine .inr ⟨⟨hi,hq⟩,Pv (i+1),fun af H' h=>⟨m-1,by lia,by lia,h⟩,fun x H' hy=>?_⟩;obtain⟨rfl,k,v,hk,rfl⟩:=hy;exact hs i k v σ _ hk hp
 ·have e:i=kvs.length:=by lia
  subst e;exact .inl ⟨⟨jf_ _,hq⟩,hd σ H hp⟩
noncomputable def ItiK (o:Obj)(a:Addr)(kvs:List (Key×V)):It:=⟨fun i H=>i<kvs.length/\H a=some (.frz o (.dK kvs)),fun i H x H'=>∃t k v,H t=none/\kvs[i]?=some (k,v)/\x=.ref t/\H'=upd H t (.tup [kV k,v]),fun i H=>kvs.length<=i/\H a=some (.frz o (.dK kvs))⟩
def Oi {P:Program}{w:World}{K:α3}{bJ:List Expr}{x1}{bp:Pos}{o:Obj}{a it:Addr}{kvs:List (Key×V)}{es:Array DictEntry}{ep:Nat}(fj:a≠it)(hd:o.data=.dict es ep):
  Turn P w K (.Tuple bJ x1 bp) (ItiK o a kvs) [it] it (fun i h=>∃ok ov,IsItemIter h it a i kvs.length ep ok ov) where
 mem:=by simp
 obj:=fun i h st b hb=>by
  have e:b=it:=by simpa using hb
  subst e;obtain⟨ok,ov,e⟩:=st;exact⟨_,e,fun v z=>by cases z⟩
 keep:=fun i h h' st k=>by
  obtain⟨ok,ov,e⟩:=st;exact⟨ok,ov,k it (by simp) _ e⟩
 item:=by
  intro X hP hw hK jU i aa s σ H E I hf st hg;subst hP hw hK;obtain⟨hi,hq⟩:=hg;obtain⟨ok,ov,st⟩:=st;obtain⟨vs,aZ,r,hl⟩:=Tw I.hok hd hq;obtain⟨kv,bU⟩:∃kv,kvs[i]?=some kv:=⟨kvs[i],by simp[hi]⟩;obtain⟨k,v⟩:=kv;obtain⟨u,hu,ru⟩:=KV.get r bU;refine wpAny_pyNext_items_item (kvs:=vs) (by rw[hl];exact st) aZ hu fun key h' hk g1 g5 gsz gk=>?_;rw[hl]at g1;have my:s.heap.objs.size≠it:=qe_ (jk_ st);refine⟨_,rfl,wpAny_letOwnedTupleGo_items g1 fun cL e1 bg=>?_⟩;have cM:∀b o,b ∉ [it]->s.heap.get? b=some o->cL.get? b=some o:=fun b o hb q=>by
   simp only[ji_]at hb;exact (bg.2 b hb).trans (gk b o hb q)
  obtain⟨un,hok⟩:=I.unL cM hf;have hn:H s.heap.objs.size=none:=I.hok.fresh (jf_ _);have new:AY X.prog X.w (upd H s.heap.objs.size (.tup [kV k,v])) cL s.heap.objs.size (.tup [kV k,v]):=⟨by have:=Al;simp;lia,[key,u],.cons (Nh hk) (.cons ru .nil),_,(bg.2 _ my).trans g5,rfl,_,rfl⟩;refine⟨.ref s.heap.objs.size,upd H s.heap.objs.size (.tup [kV k,v]),I.call' (s':={s with heap:=cL }) (ch:=[it]) rfl (un.track (jf_ _) hn) (hok.track hn new) I.bare (fun b hb=>(hf b hb).ch),rfl,⟨_,k,v,hn,bU,rfl,rfl⟩,⟨_,_,e1⟩,fun b hb=>?_⟩;have cO:=hf b hb;have e:b=it:=by simpa using hb
  subst e;rw[Aj (jE_ (jk_ st))];exact cO.1
 done:=by
  intro X hP hw hK jU i aa s σ H E I hf st hg;subst hP hw hK;obtain⟨hi,hq⟩:=hg;obtain⟨ok,ov,st⟩:=st;obtain⟨vs,aZ,r,hl⟩:=Tw I.hok hd hq;refine wpAny_pyNext_items_end (kvs:=vs) (I.ok.hd jU) (by rw[hl];exact st) aZ (jF_ s!"") fun h' eb=>⟨rfl,?_⟩;obtain⟨f0,f1,f2,f3,f4,f5⟩:=hf it (by simp);exact I.turned (t':=s.toks) (fun b o hb e=>eb b o hb e) f0 f1 f3 f4 f5
 self:=fun A i s Q E st h=>by
  obtain⟨ok,ov,st⟩:=st;exact sy st h
noncomputable def RJ (td:TE):TI:=fun σ H R=>td σ H fun x H1=>∃a kvs,x=.ref a/\Rd H1 a (.dK kvs)/\∀o H2,H2 a=some (.frz o (.dK kvs))->FzAt a H1 H2->R (ItiK o a kvs) H2
theorem Nj : RJ te σ H Z=te σ H fun x H1=>∃a kvs,x=.ref a/\Rd H1 a (.dK kvs)/\∀o H2,H2 a=some (.frz o (.dK kvs))->FzAt a H1 H2->Z (ItiK o a kvs) H2:=rfl
def RK {x1} (ho:PE X o td)(aO:attributeBase o "items" X.env (eval o X.env)=eval o X.env:=by rfl)(cK:(aG.endLine==aI.line)=true:=by rfl):PI X (.Tuple bJ x1 bp) (.Call (.Attribute o "items" aG) [] [] aI) (RJ td):=by
 intro aa s σ H R I h;refine wpAny_Call_method0_late aO cK (thn (ho aa s σ H _ I h) fun v s1 ⟨x,H1,I1,r1,q1⟩=>?_);obtain⟨a,kvs,e,hq,q⟩:=q1;subst e;obtain rfl:v=Value.ref a:=r1;obtain⟨od,es,vs,ep,H2,I2,mz,hF,aZ,g1,g2,g3,ak,g5⟩:=frzK I1 hq;have hT:s1.TypeIs (.ref a) "dict" := ⟨od,g1,g2.1⟩;refine⟨"dict","dict.items",xp_,xs_,oG,hT,fun b e=>?_,q6_ rfl (pF ?_)⟩
 ·cases e;exact⟨od,g1,g2.2.1⟩
 refine qx_ xs_ hT oA (?_:wpAny _ _ (Builtin.«dict.items» _) _ _ s1) (ot _);unfold Builtin.«dict.items»;refine jd_ ?_;unfold Builtin.Dict.noArgs;refine jd_ (xD_ hT ?_);show wpAny _ _ (pure a) _ _ s1;refine jm_ ?_;show wpAny _ _ (Builtin.Dict.showsAll a >>= _) _ _ s1;unfold Builtin.Dict.showsAll;rw[if_neg (by rw[g5];exact jo_)];refine jd_ (jm_ ?_);refine jd_ (qk_ (jm_ ⟨_,rfl,?_⟩));have fZ:∀b u,s1.heap.get? b=some u->(s1.heap.push {cls:=.type "dict_items",data:=.fields #[.ref a]}).get? b=some u:=fun b u e=>jg_ _ e;refine wpAny_pyIter_items (s:={s1 with heap:=s1.heap.push {cls:=.type "dict_items",data:=.fields #[.ref a]} }) ⟨_,jr_ _ rfl,rfl,rfl⟩ (aZ.keep fZ) ?_;have cW:s1.heap.objs.size<=(s1.heap.push {cls:=.type "dict_items",data:=.fields #[.ref a]}).objs.size:=by rw[j9_];exact zN_ _
 refine⟨_,[(s1.heap.push {cls:=.type "dict_items",data:=.fields #[.ref a]}).objs.size],_,_,_,rfl,I2.kept (t':=s1.toks) fun b u e=>jg_ _ (fZ b u e),Oi (o:=od) (kvs:=kvs) (jE_ (js_ (jk_ g1) cW)) g3,⟨.none,.none,?_⟩,fun b hb=>?_,q od H2 mz hF⟩
 ·rw[<-ak];exact jr_ _ rfl
 ·have e:b=(s1.heap.push {cls:=.type "dict_items",data:=.fields #[.ref a]}).objs.size:=by simpa using hb
  subst e;exact I2.fpOk cW (I2.hok.fresh cW)
def YF (Pv:Nat->St->Hp->Prop)(h0:Pv 0 σ H)(hl:∀i σ H,i<=kvs.length->Pv i σ H->H a=some (.frz o (.dK kvs)))
  (hs:∀i k v t σ H,kvs[i]?=some (k,v)->Pv i σ H->H t=none->g (.ref t) σ (upd H t (.tup [kV k,v])) fun ai H2=>tb {D with nx:=Pv (i+1),ct:=Pv (i+1),bk:=D.nx} ai H2) (hd:∀σ H,Pv kvs.length σ H->D.nx σ H):ForW (ItiK o a kvs) g tb D σ H:=by
 refine⟨fun i m σ H=>m+i=kvs.length/\Pv i σ H,⟨kvs.length,by lia,h0⟩,fun i m σ H ⟨hm,hp⟩=>?_⟩;have hq:=hl i σ H s!"" hp;by_cases hi:i<kvs.length
 ·refine .inr ⟨⟨hi,hq⟩,Pv (i+1),fun af H' h=>⟨m-1,by lia,by lia,h⟩,fun x H' hy=>?_⟩;obtain⟨t,k,v,ht,hk,rfl,rfl⟩:=hy;exact hs i k v t σ _ hk hp ht
 ·have e:i=kvs.length:=by lia
  subst e;exact .inl ⟨⟨jf_ _,hq⟩,hd σ H hp⟩
noncomputable def iOr (t u:TI):TI:=fun σ H R=>t σ H R\/u σ H R
theorem X1 : iOr t u σ H Z=(t σ H Z\/u σ H Z):=rfl
def X2 (h:PI X tg e t)(g:PI X tg e u):PI X tg e (iOr t u):=fun aa s σ H R I q=>q.elim (fun q=>h aa s σ H R I q) (fun q=>g aa s σ H R I q)
def forE {K:α3} (h:SqB K H t a xs)(Pv:Nat->St->Hp->Prop)(h0:Pv 0 σ H)(hl:∀i σ H,i<=xs.length->Pv i σ H->SqB K H t a xs)
  (hs:∀i v σ H q,xs[i]?=some v->Pv i σ H->H q=none->g (.ref q) σ (upd H q (.tup [.int i,v])) fun ai H2=>tb {D with nx:=Pv (i+1),ct:=Pv (i+1),bk:=D.nx} ai H2) (hd:∀σ H,Pv xs.length σ H->D.nx σ H):
  (∃ys,SqL K H a ys/\ForW (Itm K a ys) g tb D σ H) \/ ∃ys,SqT K H a ys/\ForW (Itn K a ys) g tb D σ H:=by
 cases t
 ·exact .inl ⟨xs,h,forM Pv h0 hl hs hd⟩
 ·exact .inr ⟨xs,h,forN Pv h0 hl hs hd⟩
def YG {K:α3} (h:SqB K H t a xs)(Pv:Nat->List V->St->Hp->Prop)(h0:Pv 0 [] (cp.st σ) H)(hz:xs.length<sizeLine)
  (hl:∀i zs σ H,i<=xs.length->Pv i zs σ H->SqB K H t a xs/\zs.length<=i)
  (hs:∀i v zs σ H q,xs[i]?=some v->Pv i zs σ H->H q=none->g (.ref q) σ (upd H q (.tup [.int i,v])) fun ai H2=>tc ai H2 fun b H3=>if b=true then te ai H3 fun v H4=>Pv (i+1) (zs++[v]) ai H4 else Pv (i+1) zs ai H3)
  (hd:∀zs σ H,Pv xs.length zs σ H->∀D,H D=none->Q (.ref D) (upd H D (.lst zs))):
  (∃ys,SqL K H a ys/\Hz (Itm K a ys) cp g tc te σ H Q) \/ ∃ys,SqT K H a ys/\Hz (Itn K a ys) cp g tc te σ H Q:=by
 cases t
 ·refine .inl ⟨xs,h,fun i m zs σ H=>m=xs.length-i/\i<=xs.length/\Pv i zs σ H,⟨xs.length,by simp,j3_ _,h0⟩,?_⟩;rintro i m zs σ H ⟨rfl,hi,p⟩;obtain⟨q1,ly⟩:=hl i zs σ H hi p;refine⟨by lia,?_⟩;by_cases aF:i<xs.length
  ·refine .inr ⟨⟨aF,q1⟩,Pv (i+1),fun fq af H' p'=>⟨xs.length-(i+1),by lia,rfl,aF,p'⟩,fun x H' y=>?_⟩;obtain⟨q,v,e1,e2,rfl,rfl⟩:=y;exact hs i v zs σ H q e2 p e1
  ·have e:i=xs.length:=by lia
   subst e;exact .inl ⟨⟨rfl,q1⟩,hd zs σ H p⟩
 ·refine .inr ⟨xs,h,fun i m zs σ H=>m=xs.length-i/\i<=xs.length/\Pv i zs σ H,⟨xs.length,by simp,j3_ _,h0⟩,?_⟩;rintro i m zs σ H ⟨rfl,hi,p⟩;obtain⟨q1,ly⟩:=hl i zs σ H hi p;refine⟨by lia,?_⟩;by_cases aF:i<xs.length
  ·refine .inr ⟨⟨aF,q1⟩,Pv (i+1),fun fq af H' p'=>⟨xs.length-(i+1),by lia,rfl,aF,p'⟩,fun x H' y=>?_⟩;obtain⟨q,v,e1,e2,rfl,rfl⟩:=y;exact hs i v zs σ H q e2 p e1
  ·have e:i=xs.length:=by lia
   subst e;exact .inl ⟨⟨rfl,q1⟩,hd zs σ H p⟩
def AM : Em X (.type "tuple") (fun xs H Q=>∃p ys,xs=[.ref p]/\((SqL X.K H p ys/\∀l,H l=none->Q (.ref l) (upd H l (.tup ys)))\/False)):=fun aa s σ H xs us Q I r h=>by
 obtain⟨p,ys,e,h|h⟩:=h
 ·exact Hw aa s σ H xs us Q I r ⟨p,ys,e,.inl h⟩
 ·exact h.elim
def Js : Em X (.type "tuple") (fun xs H Q=>∃p ys,xs=[.ref p]/\(False\/(SqT X.K H p ys/\Q (.ref p) H))):=fun aa s σ H xs us Q I r h=>by
 obtain⟨p,ys,e,h|h⟩:=h
 ·exact h.elim
 ·exact Hw aa s σ H xs us Q I r ⟨p,ys,e,.inr h⟩
def Mh {K:α3}(h:X.K=K):Em X (.type "tuple") (fun xs H Q=>∃p ys,xs=[.ref p]/\((SqL K H p ys/\∀l,H l=none->Q (.ref l) (upd H l (.tup ys)))\/False)):=by subst h;exact AM
def Mi {K:α3}(h:X.K=K):Em X (.type "tuple") (fun xs H Q=>∃p ys,xs=[.ref p]/\(False\/(SqT K H p ys/\Q (.ref p) H))):=by subst h;exact Js
def len1 {α:Type}{us:List α}(h:us.length=1):∃a,us=[a]:=by match us,h with|[a],_=>exact⟨a,rfl⟩
def len2 {α:Type}{us:List α}(h:us.length=2):∃a b,us=[a,b]:=by match us,h with|[a,b],_=>exact⟨a,b,rfl⟩
def len3 {α:Type}{us:List α}(h:us.length=3):∃a b c,us=[a,b,c]:=by match us,h with|[a,b,c],_=>exact⟨a,b,c,rfl⟩
def len4 {α:Type}{us:List α}(h:us.length=4):∃a b c d,us=[a,b,c,d]:=by match us,h with|[a,b,c,d],_=>exact⟨a,b,c,d,rfl⟩
def len5 {α:Type}{us:List α}(h:us.length=5):∃a b c d e,us=[a,b,c,d,e]:=by match us,h with|[a,b,c,d,e],_=>exact⟨a,b,c,d,e,rfl⟩
def len6 {α:Type}{us:List α}(h:us.length=6):∃a b c d e f,us=[a,b,c,d,e,f]:=by match us,h with|[a,b,c,d,e,f],_=>exact⟨a,b,c,d,e,f,rfl⟩
noncomputable def RL (u:TS)(D:Ends):St->Hp->Prop:=u D
noncomputable def X3 (t u:TS):TS:=fun D σ H=>t {D with nx:=RL u D} σ H
theorem Ve : X3 t u D σ H=t {D with nx:=RL u D} σ H:=rfl
def Cf (h:u D σ H):RL u D σ H:=h
def CS {st:Stmt}{rest:List Stmt} (h1:PS X st t)(h2:PSs X rest u):PSs X (st::rest) (X3 t u):=Ac h1 h2
end L2
set_option maxHeartbeats 1000000
set_option maxHeartbeats 4000000
namespace PySem.W
open PySem PySem.Calls PyProof.Rows PyProof.V PySem.Spec
end PySem.W
namespace L2
open PySem PySem.W PySem.Spec PySem.Calls PyProof.Rows
structure CMeth (K:α3)(C:Addr)(m:Str)(f:Addr):Prop where
 sg:oz K (.ref C) "__getattribute__"=some (some (.builtin "type.__getattribute__"))
 rd:sI K C (.type "type")=true
 fc:sJ K (.ref C) (.type "type") m=some (.val (.ref f))
 kp:keepIn K (.ref f)=true
section
variable {X:Cx} {CX:CXT} {k:Nat} {f C:Addr} {fd:α6} {ps:List Str} {sp:Sp} {aN:List V} {ds:List Value} {E:XK} {x m:Str} {np aG pos:Pos} {e:Expr} {es:List Expr} {t:TA}
def Wc (hg:Gl X x)(hmx:X.mg x=some (.ref C))(hm:CMeth X.K C m f)(F:FnOk X.prog X.w X.K X.mg X.base CX k f fd ps sp)(hr:Room k X.A)(hb:Binds X.K fd ps ds)(hd:Vals aN ds)(hx:Fx CX X E)(ha:PA X (e::es) t)
  (eo:(x==("__debug__" : Str))=false:=by decide) (dX:starEach (e::es) X.env=(false,eval e X.env)::starEach es X.env:=by rfl) (cm:(backTo pos (starEach es X.env)).any (·.1)=false:=by rfl)
  (ht:eval (.Call (.Attribute (.Name x np) m aG) (e::es) [] pos) X.env=(do
   let ov <- eval (.Name x np) X.env
   standAt aG.atName
   let (f,first) <- holding [ov] (getMethod ov m pl)
   callWith pos f first (backTo pos (starEach (e::es) X.env)) (backToKw pos (keywordEach [] X.env))):=by rfl):
  PE X (.Call (.Attribute (.Name x np) m aG) (e::es) [] pos) (SV sp aN E t):=by
 intro aa s σ H Q I h;refine xa_ (pl:=pl) (II I hg hmx ?_ eo) ht;refine rS I.kIn hm.sg (r9 I.kIn hm.rd hm.fc rfl ?_);refine xy_ (first:=[]) (h₀:=X.base) I.ok.mod.kin hm.kp (thn (ha pos aa _ σ H _ (I.tok _) h) fun us s2 ⟨vs,H2,I2,r,q2⟩=>⟨I2.kIn,?_⟩) dX cm;exact OO F hr hb hd hx I2 r q2
end
end L2
namespace L2
open PySem PySem.W PySem.Spec PySem.Calls PyProof.Rows
def RM (he:PE X o ta)(c:Cls X.K C)(hm:Meth X.K C m f)(F:FnOk X.prog X.w X.K X.mg X.base CX k f fd ps sp)(hr:Room k X.A)(hb:Binds X.K fd ps ds)(hd:Vals aN ds)(hx:∀σ,Ki CX X σ (E σ))
  (ht:eval (.Call (.Attribute o m aG) [] [] pos) X.env=(do
   let ov <- eval o X.env
   standAt aG.atName
   let (f,first) <- holding [ov] (getMethod ov m pl)
   callWith pos f first (backTo pos (starEach [] X.env)) (backToKw pos (keywordEach [] X.env))):=by rfl):
  PE X (.Call (.Attribute o m aG) [] [] pos) (Rx C m sp aN E ta tNil):=by
 intro aa s σ H Q I h;refine xa_ (pl:=pl) (thn (he aa s σ H _ I h) fun u s1 ⟨x,H1,I1,rx,a,dx,fs,ex,ea,l,q⟩=>?_) ht;subst ex;obtain rfl:u=Value.ref a:=rx;refine Gn I1 ea c hm l ?_;exact pD (first:=[.ref a]) I1.kIn hm.kp (Rc (us:=[.ref a]) (vs:=[.ref a]) F hr hb hd (hx σ) I1 (.cons rfl .nil) q)
end L2
namespace L2
open PySem PySem.W PySem.Spec PySem.Calls PyProof.Rows
noncomputable def vD:Option (Option V)->(V->Prop)->Prop
 |some (some v),q=>q v
 |_,_=>False
theorem RO : vD (some (some v)) q=q v:=rfl
def YH (h:vD o q):∃v,o=some (some v)/\q v:=by
 match o,h with
 |some (some v),h=>exact⟨v,rfl,h⟩
noncomputable def X4 (i:Nat):TE:=fun σ H Q=>vD σ[i]? fun v=>Q v H
theorem Vf : X4 i σ H Q=vD σ[i]? fun v=>Q v H:=rfl
def pvD (i:Nat) (hN:X.N[i]?=some x:=by rfl)(hv:Vis X.env.scope x:=by first|exact nM rfl|exact oq (nM rfl)|exact oq (oq rfl))(hd:(x==("__debug__" : Str))=false:=by decide)
  (cI:(x==("__classdict__" : Str))=false:=by decide):PE X (.Name x pos) (X4 i):=fun aa s σ H Q I h=>pv i hN hv hd cI aa s σ H Q I (YH h)
noncomputable def iD:V->V->(Int->Int->Prop)->Prop
 |.int i,.int j,q=>q i j
 |x,y,q=>∃i j,x=.int i/\y=.int j/\q i j
theorem Vg : iD (.int i) (.int j) q=q i j:=rfl
def We : iD x y q=∃i j,x=.int i/\y=.int j/\q i j:=by
 cases x<;>cases y<;>first|rfl|(simp[iD])
noncomputable def rID (C:Int->Int->Prop)(g:Int->Int->V):R2:=fun x y H Q=>iD x y fun i j=>C i j/\Q (g i j) H
noncomputable def rI0D (g:Int->Int->V):R2:=fun x y H Q=>iD x y fun i j=>Q (g i j) H
theorem r_ID : rID C f x y H Q=iD x y fun i j=>C i j/\Q (f i j) H:=rfl
theorem X5 : rI0D f x y H Q=iD x y fun i j=>Q (f i j) H:=rfl
def X6 : rID C g=rI C g:=by
 funext x y H Q;exact We
def Wg : rI0D g=rI0 g:=by
 funext x y H Q;exact We
def opD (h:OpR X f (rI C g)):OpR X f (rID C g):=by rw[X6];exact h
def opD0 (h:OpR X f (rI0 g)):OpR X f (rI0D g):=by rw[Wg];exact h
noncomputable def bD:V->(Bool->Prop)->Prop
 |.bl c,q=>q c
 |x,q=>∃c,x=.bl c/\q c
theorem X7 : bD (.bl c) q=q c:=rfl
def X8 : bD x q=∃c,x=.bl c/\q c:=by
 cases x<;>first|rfl|(simp[bD])
noncomputable def tBD (t:TE):TT:=fun σ H Q=>t σ H fun x H1=>bD x fun c=>Q c H1
theorem r_BD : tBD te σ H R=te σ H fun x H1=>bD x fun c=>R c H1:=rfl
def Vh : tBD t=tB t:=by
 funext σ H Q
 show t σ H _=t σ H _
 congr 1
 funext x H1;exact X8
def Wi : tBD t=SR t:=Vh
def ptB (h:PT X e (tB t)):PT X e (tBD t):=by rw[Vh];exact h
def ptT (h:PT X e (SR t)):PT X e (tBD t):=by rw[Wi];exact h
noncomputable def eD:V->V->Prop->Prop
 |.int _,.int _,q=>q
 |.str _,.str _,q=>q
 |.non,.non,q=>q
 |.bl _,.bl _,q=>q
 |x,y,q=>scal x y=true/\q
theorem Vi : eD (.int i) (.int j) q=q:=rfl
theorem Vj : eD (.str i) (.str j) q=q:=rfl
theorem Vk : eD .non .non q=q:=rfl
theorem X9 : eD (.bl i) (.bl j) q=q:=rfl
def Wj : eD x y q=(scal x y=true/\q):=by
 cases x<;>cases y<;>first|rfl|(simp[eD,scal])
noncomputable def rEqF:R2:=fun x y H Q=>eD x y (Q (.bl (decide (x=y))) H)
noncomputable def rNeF:R2:=fun x y H Q=>eD x y (Q (.bl (!decide (x=y))) H)
theorem Ya : rEqF x y H Q=eD x y (Q (.bl (decide (x=y))) H):=rfl
theorem Yb : rNeF x y H Q=eD x y (Q (.bl (!decide (x=y))) H):=rfl
def Wk:rEqF=rEq:=by funext x y H Q;exact Wj
def Wl:rNeF=rNe:=by funext x y H Q;exact Wj
def opE (h:OpR X f rEq):OpR X f rEqF:=by rw[Wk];exact h
def opN (h:OpR X f rNe):OpR X f rNeF:=by rw[Wl];exact h
noncomputable def aD:V->(Addr->Prop)->Prop
 |.ref a,q=>q a
 |x,q=>∃a,x=.ref a/\q a
theorem Vl : aD (.ref a) q=q a:=rfl
def Tz : aD x q=∃a,x=.ref a/\q a:=by
 cases x<;>first|rfl|(simp[aD])
noncomputable def nD:V->(Int->Prop)->Prop
 |.int a,q=>q a
 |x,q=>∃a,x=.int a/\q a
theorem Vm : nD (.int a) q=q a:=rfl
def RP : nD x q=∃a,x=.int a/\q a:=by
 cases x<;>first|rfl|(simp[nD])
noncomputable def Wm (K:α3):R2:=fun x y H Q=>aD x fun p=>∃xs,nD y fun i=>SqT K H p xs/\∃v,atI xs i=some v/\Q v H
noncomputable def Wn (K:α3):R2:=fun x y H Q=>aD x fun p=>∃xs,nD y fun i=>SqL K H p xs/\∃v,atI xs i=some v/\Q v H
theorem Vn {K:α3} : Wm K x y H Q=aD x fun p=>∃xs,nD y fun i=>SqT K H p xs/\∃v,atI xs i=some v/\Q v H:=rfl
theorem Vo {K:α3} : Wn K x y H Q=aD x fun p=>∃xs,nD y fun i=>SqL K H p xs/\∃v,atI xs i=some v/\Q v H:=rfl
def TB {K:α3}:Wm K=rIxT K:=by
 funext x y H Q
 show aD x _=∃p xs i v,_;rw[Tz];refine propext ⟨fun ⟨p,e,h⟩=>?_,fun ⟨p,xs,i,v,e1,e2,e3,e4,e5⟩=>⟨p,e1,?_⟩⟩
 ·obtain⟨xs,h⟩:=h;rw[RP]at h;obtain⟨i,e2,e3,v,e4,e5⟩:=h;exact⟨p,xs,i,v,e,e2,e3,e4,e5⟩
 ·refine⟨xs,?_⟩;rw[RP];exact⟨i,e2,e3,v,e4,e5⟩
def TC {K:α3}:Wn K=rIxL K:=by
 funext x y H Q
 show aD x _=∃p xs i v,_;rw[Tz];refine propext ⟨fun ⟨p,e,h⟩=>?_,fun ⟨p,xs,i,v,e1,e2,e3,e4,e5⟩=>⟨p,e1,?_⟩⟩
 ·obtain⟨xs,h⟩:=h;rw[RP]at h;obtain⟨i,e2,e3,v,e4,e5⟩:=h;exact⟨p,xs,i,v,e,e2,e3,e4,e5⟩
 ·refine⟨xs,?_⟩;rw[RP];exact⟨i,e2,e3,v,e4,e5⟩
def ixTD {K:α3}(h:IxR X (rIxT K)):IxR X (Wm K):=by rw[TB];exact h
def ixLD {K:α3}(h:IxR X (rIxL K)):IxR X (Wn K):=by rw[TC];exact h
noncomputable def lD1:List V->(V->Prop)->Prop
 |[x],q=>q x
 |xs,q=>∃x,xs=[x]/\q x
theorem RQ : lD1 [x] q=q x:=rfl
def Yc : lD1 xs q=∃x,xs=[x]/\q x:=by
 match xs with
 |[]=>rfl
 |[x]=>simp[lD1]
 |x::y::r=>rfl
noncomputable def Wo (K:α3):List V->Hp->VK->Prop:=fun xs H Q=>lD1 xs fun x=>aD x fun p=>∃ys,(SqL K H p ys\/SqT K H p ys)/\Q (.int ys.length) H
theorem Vp {K:α3} : Wo K xs H Q=lD1 xs fun x=>aD x fun p=>∃ys,(SqL K H p ys\/SqT K H p ys)/\Q (.int ys.length) H:=rfl
def lenD {K:α3} (h:Em X f (fun xs H Q=>∃p ys,xs=[.ref p]/\(SqL K H p ys\/SqT K H p ys)/\Q (.int ys.length) H)):Em X f (Wo K):=by
 have e:Wo K=fun xs H Q=>∃p ys,xs=[.ref p]/\(SqL K H p ys\/SqT K H p ys)/\Q (.int ys.length) H:=by
  funext xs H Q
  show lD1 xs _=_;rw[Yc];refine propext ⟨fun ⟨x,e,h⟩=>?_,fun ⟨p,ys,e,h1,h2⟩=>⟨_,e,ys,h1,h2⟩⟩;rw[Tz]at h;obtain⟨p,rfl,ys,h1,h2⟩:=h;exact⟨p,ys,e,h1,h2⟩
 rw[e];exact h
def Ak (hN:X.N.Nodup)(he:PE X e te)(hi:X.N[i]?=some x:=by rfl)(hx:Loc X.env.scope x:=by exact nM rfl)(hs:swapsWith e (some (.Name x bo)) pos.line X.env=pure false:=by rfl)(hf:X.fn x=true\/X.env.scope.names.lookup x=some .local:=by first|exact .inl rfl|exact .inr rfl|assumption):PS X (.Assign [.Name x bo] e pos) (tAsg te (IJ i)):=Jm hN hi hx he hs hf
def As (hr:IxR X r)(ha:PE X a ta)(hb:PE X b tb)(hs:QP b:=by exact fun _ _=>rfl):PE X (.Subscript a b pos) (tOp r ta tb):=Yw hr ha hb hs
end L2
namespace PySem
open Sem (wp)
structure VKind (prog:Program)(w:World)(K:Type)[DecidableEq K] where
 is:Heap->K->Value->Prop
 hash:K->Int
 draws:K->Nat
 room:Around->Prop
 inj:∀{h:Heap} {a:Value} {x y:K},is h x a->is h y a->x=y
 keeps:∀{h h':Heap} {k:K} {a:Value} {d:Addr} {o:Obj} {es ep},is h k a->h.get? d=some o->o.data=.dict es ep->Heap.SameBut d h h'->is h' k a
 pyHash:∀{A:Around} {E:Value->Shared->Prop} {s:Shared} {k:K} {a:Addr} {Q:Int->Shared->Prop},room A->is s.heap k (.ref a)->Q (hash k) {s with toks:=s.toks+draws k}->wpAny (model prog w) A (PySem.pyHash (.ref a)) Q E s
 eqBool:∀{A:Around} {E:Value->Shared->Prop} {s:Shared} {x y:K} {u:Value} {b:Addr} {Q:Bool->Shared->Prop},room A->is s.heap x u->is s.heap y (.ref b)->Q (decide (x=y)) s->wpAny (model prog w) A (PySem.eqBool u (.ref b)) Q E s
 quiet:∀{A:Around} {E:Value->Shared->Prop} {s:Shared} {k:K} {a:Value} {Q:Bool->Shared->Prop},room A->is s.heap k a->Q true s->wpAny (model prog w) A (eqIsQuiet 8 a) Q E s
noncomputable abbrev NI:=Int ⊕ α2
noncomputable abbrev NK:=Option (List NI)
end PySem
namespace k9
open PySem PyProof.Rows
noncomputable def KE (κ:KeyKind)(x:Keyed):κ.α:=(κ.keyOf x.1).getD κ.dflt
noncomputable def NI (κ:KeyKind)(xs:Array Keyed)(lo hi:Nat):Prop:=∀i j,lo<=i->i<=j->j<hi->κ.kle (KK κ xs j) (KK κ xs i)
noncomputable def Mj:Bool->Keyed->Array Keyed->Nat->Nat->Nat->StateT SortSt Sem (Option Nat):=sortPriv% PySem.Builtin.gallop
noncomputable def Dn:Nat->StateT SortSt Sem Unit:=sortPriv% PySem.Builtin.setMinGallop
noncomputable def Oj (a b aJ:Array Keyed)(ia ib:Nat):Array Keyed:=aJ++a.extract ia a.size++b.extract ib b.size
noncomputable def Wq (a b aJ:Array Keyed)(ia ib:Nat):Array Keyed:=aJ++b.extract ib b.size++a.extract ia a.size
noncomputable abbrev G5:=Option (Array Keyed)×Array Keyed×Nat×Nat×Nat
noncomputable abbrev G6:=Option (Array Keyed)×Array Keyed×Nat×Nat×Nat×Nat
noncomputable abbrev G7:=Option (Array Keyed)×Array Keyed×Nat×Nat×Nat×Nat×Nat
noncomputable def PC (a b aJ:Array Keyed)(ia ib mg ac bc:Nat):StateT SortSt Sem (ForInStep G7):=do
 let y <- elem' a ia
 if (ia+1+1==a.size)=true then pure (.done (some (Wq a b (aJ.push y) (ia+1) ib),aJ.push y,ia+1,ib,mg,ac,bc))
 else if (decide (ac<7)&&decide (bc<7))=true then pure (.done (none,aJ.push y,ia+1,ib,mg,ac,bc)) else pure (.yield (none,aJ.push y,ia+1,ib,mg,ac,bc))
noncomputable def PB (a b aJ:Array Keyed)(ia ib mg ac bc:Nat):StateT SortSt Sem (ForInStep G7):=do
 let y <- elem' b ib
 if (ib+1==b.size)=true then pure (.done (some (Oj a b (aJ.push y) ia (ib+1)),aJ.push y,ia,ib+1,mg,ac,bc))
 else do
  let z <- elem' a ia
  let x <- Mj true z b (ib+1) (b.size-(ib+1)) 0
  match x with
  |some k=>if k > 0 then (if (ib+1+k==b.size)=true then pure (.done (some (Oj a b (aJ.push y++b.extract (ib+1) (ib+1+k)) ia (ib+1+k)),aJ.push y++b.extract (ib+1) (ib+1+k),ia,ib+1+k,mg,ac,k)) else PC a b (aJ.push y++b.extract (ib+1) (ib+1+k)) ia (ib+1+k) mg ac k) else PC a b (aJ.push y) ia (ib+1) mg ac k
  |_=>pure (.done (some (Oj a b (aJ.push y) ia (ib+1)),aJ.push y,ia,ib+1,mg,ac,bc))
noncomputable def PA (a b aJ:Array Keyed)(ia ib mg ac bc:Nat):StateT SortSt Sem (ForInStep G7):=do
 Dn mg
 let y <- elem' b ib
 let x <- Mj false y a ia (a.size-ia) 0
 match x with
 |some k=>if k > 0 then (if (ia+k+1==a.size)=true then pure (.done (some (Wq a b (aJ++a.extract ia (ia+k)) (ia+k) ib),aJ++a.extract ia (ia+k),ia+k,ib,mg,k,bc)) else if (ia+k==a.size)=true then pure (.done (some (Oj a b (aJ++a.extract ia (ia+k)) (ia+k) ib),aJ++a.extract ia (ia+k),ia+k,ib,mg,k,bc)) else PB a b (aJ++a.extract ia (ia+k)) (ia+k) ib mg k bc) else PB a b aJ ia ib mg k bc
 |_=>pure (.done (some (Oj a b aJ ia ib),aJ,ia,ib,mg,ac,bc))
noncomputable def P1 (a b:Array Keyed)(mg:Nat)(c:G6):StateT SortSt Sem (ForInStep G6):=do
 let y <- elem' b c.2.2.2.1
 let z <- elem' a c.2.2.1
 let x <- lt' y z
 match x with
 |some bWins=>
  if bWins=true then
   elem' b c.2.2.2.1 >>= fun y=>
   if (c.2.2.2.1+1==b.size)=true then pure (.done (some (Oj a b (c.2.1.push y) c.2.2.1 (c.2.2.2.1+1)),c.2.1.push y,c.2.2.1,c.2.2.2.1+1,0,c.2.2.2.2.2+1))
   else if c.2.2.2.2.2+1 >= mg then pure (.done (none,c.2.1.push y,c.2.2.1,c.2.2.2.1+1,0,c.2.2.2.2.2+1)) else pure (.yield (none,c.2.1.push y,c.2.2.1,c.2.2.2.1+1,0,c.2.2.2.2.2+1))
  else
   elem' a c.2.2.1 >>= fun y=>
   if (c.2.2.1+1+1==a.size)=true then pure (.done (some (Wq a b (c.2.1.push y) (c.2.2.1+1) c.2.2.2.1),c.2.1.push y,c.2.2.1+1,c.2.2.2.1,c.2.2.2.2.1+1,0))
   else if c.2.2.2.2.1+1 >= mg then pure (.done (none,c.2.1.push y,c.2.2.1+1,c.2.2.2.1,c.2.2.2.2.1+1,0)) else pure (.yield (none,c.2.1.push y,c.2.2.1+1,c.2.2.2.1,c.2.2.2.2.1+1,0))
 |_=>pure (.done (some (Oj a b c.2.1 c.2.2.1 c.2.2.2.1),c.2.1,c.2.2.1,c.2.2.2.1,c.2.2.2.2.1,c.2.2.2.2.2))
noncomputable def P2 (a b:Array Keyed)(c:G7):StateT SortSt Sem (ForInStep G7):=if c.2.2.2.2.1 > 1 then PA a b c.2.1 c.2.2.1 c.2.2.2.1 (c.2.2.2.2.1-1) c.2.2.2.2.2.1 c.2.2.2.2.2.2 else PA a b c.2.1 c.2.2.1 c.2.2.2.1 c.2.2.2.2.1 c.2.2.2.2.2.1 c.2.2.2.2.2.2
noncomputable def PO (a b:Array Keyed)(c:G5):StateT SortSt Sem (ForInStep G5):=do
 let d <- forIn [0:a.size+b.size] ((none,c.2.1,c.2.2.1,c.2.2.2.1,0,0):G6) fun _ d=>P1 a b c.2.2.2.2 d
 match d.1 with
 |some r=>pure (.done (some r,d.2.1,d.2.2.1,d.2.2.2.1,c.2.2.2.2))
 |none=>do
  liftM (rule "list.sort.gallop")
  let e <- forIn [0:a.size+b.size] ((none,d.2.1,d.2.2.1,d.2.2.2.1,c.2.2.2.2+1,d.2.2.2.2.1,d.2.2.2.2.2):G7) fun _ e=>P2 a b e
  match e.1 with
  |some r=>pure (.done (some r,e.2.1,e.2.2.1,e.2.2.2.1,e.2.2.2.2.1))
  |none=>do
   Dn (e.2.2.2.2.1+1)
   pure (.yield (none,e.2.1,e.2.2.1,e.2.2.2.1,e.2.2.2.2.1+1))
noncomputable def Ol (a b aJ:Array Keyed)(na nb:Nat):Array Keyed:=a.extract 0 na++b.extract 0 nb++aJ.reverse
noncomputable def RS (a b aJ:Array Keyed)(na nb:Nat):Array Keyed:=b.extract 0 nb++a.extract 0 na++aJ.reverse
noncomputable abbrev H5:=Option (Array Keyed)×Nat×Nat×Array Keyed×Nat
noncomputable abbrev H6:=Option (Array Keyed)×Nat×Nat×Array Keyed×Nat×Nat
noncomputable abbrev H7:=Option (Array Keyed)×Nat×Nat×Array Keyed×Nat×Nat×Nat
noncomputable def HC (a b aJ:Array Keyed)(na nb mg ac bc:Nat):StateT SortSt Sem (ForInStep H7):=do
 let y <- elem' a (na-1)
 if (na-1==0)=true then pure (.done (some (Ol a b (aJ.push y) (na-1) nb),na-1,nb,aJ.push y,mg,ac,bc))
 else if (decide (ac<7)&&decide (bc<7))=true then pure (.done (none,na-1,nb,aJ.push y,mg,ac,bc)) else pure (.yield (none,na-1,nb,aJ.push y,mg,ac,bc))
noncomputable def HB (a b aJ:Array Keyed)(na nb mg ac bc:Nat):StateT SortSt Sem (ForInStep H7):=do
 let y <- elem' b (nb-1)
 if (nb-1==1)=true then pure (.done (some (RS a b (aJ.push y) na (nb-1)),na,nb-1,aJ.push y,mg,ac,bc))
 else do
  let z <- elem' a (na-1)
  let x <- Mj true z b 0 (nb-1) (nb-1-1)
  match x with
  |some t=>if nb-1-t > 0 then (if (t==1)=true then pure (.done (some (RS a b (aJ.push y++(b.extract t (nb-1)).reverse) na t),na,t,aJ.push y++(b.extract t (nb-1)).reverse,mg,ac,nb-1-t)) else if (t==0)=true then pure (.done (some (Ol a b (aJ.push y++(b.extract t (nb-1)).reverse) na t),na,t,aJ.push y++(b.extract t (nb-1)).reverse,mg,ac,nb-1-t)) else HC a b (aJ.push y++(b.extract t (nb-1)).reverse) na t mg ac (nb-1-t)) else HC a b (aJ.push y) na (nb-1) mg ac (nb-1-t)
  |_=>pure (.done (some (Ol a b (aJ.push y) na (nb-1)),na,nb-1,aJ.push y,mg,ac,bc))
noncomputable def HA (a b aJ:Array Keyed)(na nb mg ac bc:Nat):StateT SortSt Sem (ForInStep H7):=do
 Dn mg
 let y <- elem' b (nb-1)
 let x <- Mj false y a 0 na (na-1)
 match x with
 |some t=>if na-t > 0 then (if (t==0)=true then pure (.done (some (Ol a b (aJ++(a.extract t na).reverse) t nb),t,nb,aJ++(a.extract t na).reverse,mg,na-t,bc)) else HB a b (aJ++(a.extract t na).reverse) t nb mg (na-t) bc) else HB a b aJ na nb mg (na-t) bc
 |_=>pure (.done (some (Ol a b aJ na nb),na,nb,aJ,mg,ac,bc))
noncomputable def H1 (a b:Array Keyed)(mg:Nat)(c:H6):StateT SortSt Sem (ForInStep H6):=do
 let y <- elem' b (c.2.2.1-1)
 let z <- elem' a (c.2.1-1)
 let x <- lt' y z
 match x with
 |some aWins=>
  if aWins=true then
   elem' a (c.2.1-1) >>= fun y=>
   if (c.2.1-1==0)=true then pure (.done (some (Ol a b (c.2.2.2.1.push y) (c.2.1-1) c.2.2.1),c.2.1-1,c.2.2.1,c.2.2.2.1.push y,c.2.2.2.2.1+1,0))
   else if c.2.2.2.2.1+1 >= mg then pure (.done (none,c.2.1-1,c.2.2.1,c.2.2.2.1.push y,c.2.2.2.2.1+1,0)) else pure (.yield (none,c.2.1-1,c.2.2.1,c.2.2.2.1.push y,c.2.2.2.2.1+1,0))
  else
   elem' b (c.2.2.1-1) >>= fun y=>
   if (c.2.2.1-1==1)=true then pure (.done (some (RS a b (c.2.2.2.1.push y) c.2.1 (c.2.2.1-1)),c.2.1,c.2.2.1-1,c.2.2.2.1.push y,0,c.2.2.2.2.2+1))
   else if c.2.2.2.2.2+1 >= mg then pure (.done (none,c.2.1,c.2.2.1-1,c.2.2.2.1.push y,0,c.2.2.2.2.2+1)) else pure (.yield (none,c.2.1,c.2.2.1-1,c.2.2.2.1.push y,0,c.2.2.2.2.2+1))
 |_=>pure (.done (some (Ol a b c.2.2.2.1 c.2.1 c.2.2.1),c.2.1,c.2.2.1,c.2.2.2.1,c.2.2.2.2.1,c.2.2.2.2.2))
noncomputable def H2 (a b:Array Keyed)(c:H7):StateT SortSt Sem (ForInStep H7):=if c.2.2.2.2.1 > 1 then HA a b c.2.2.2.1 c.2.1 c.2.2.1 (c.2.2.2.2.1-1) c.2.2.2.2.2.1 c.2.2.2.2.2.2 else HA a b c.2.2.2.1 c.2.1 c.2.2.1 c.2.2.2.2.1 c.2.2.2.2.2.1 c.2.2.2.2.2.2
noncomputable def HO (a b:Array Keyed)(c:H5):StateT SortSt Sem (ForInStep H5):=do
 let d <- forIn [0:a.size+b.size] ((none,c.2.1,c.2.2.1,c.2.2.2.1,0,0):H6) fun _ d=>H1 a b c.2.2.2.2 d
 match d.1 with
 |some r=>pure (.done (some r,d.2.1,d.2.2.1,d.2.2.2.1,c.2.2.2.2))
 |none=>do
  liftM (rule "list.sort.gallop")
  let e <- forIn [0:a.size+b.size] ((none,d.2.1,d.2.2.1,d.2.2.2.1,c.2.2.2.2+1,d.2.2.2.2.1,d.2.2.2.2.2):H7) fun _ e=>H2 a b e
  match e.1 with
  |some r=>pure (.done (some r,e.2.1,e.2.2.1,e.2.2.2.1,e.2.2.2.2.1))
  |none=>do
   Dn (e.2.2.2.2.1+1)
   pure (.yield (none,e.2.1,e.2.2.1,e.2.2.2.1,e.2.2.2.2.1+1))
noncomputable def wr (a:Array Keyed)(base:Nat)(r:List Keyed)(n:Nat):Array Keyed:=(r.zipIdx n).foldl (fun a (p,j)=>a.setIfInBounds (base+j) p) a
end k9
namespace k9
open PySem PyProof.Rows L2
noncomputable abbrev Wd:=Addr×α2
noncomputable def wv (ws:List Wd):List V:=ws.map fun w=>V.ref w.1
noncomputable def wu (ws:List Wd):List Value:=ws.map fun w=>Value.ref w.1
noncomputable def kw (w:Wd):Int×α2:=((w.2.length:Int),w.2)
section
variable {X:Cx} {aa:α7} {σ:L2.St} {H H0:Hp} {s:Shared} {A:Around} {E:Value->Shared->Prop} {ws:List Wd} {ts:List Addr} {a kT:Addr} {e1:Nat} {P:PySem.Fin->Shared->Prop} {f:Value}
noncomputable def Turn (X:Cx)(aa:α7)(σ:L2.St)(A:Around)(f:Value)(ws:List Wd)(H0:Hp):Prop:=∀w∈ws,∀(H':Hp) (s':Shared),Inv X aa σ H' s'->Same H0 H' ->
 wpAny (model X.prog X.w) A (call f [.ref w.1]) (EP X aa σ (fun k iG=>∃t,k=.ref t/\Same H' iG/\SqT X.K iG t [.int w.2.length,.ref w.1])) (fun _ _=>False) s'
end
end k9
namespace L2
open PySem PySem.Spec PyProof.Rows
def Room.d (r:Room k A)(h:j<=k:=by decide):Room j A:=r.mono h
noncomputable abbrev HA (K:α3)(x:Str)(f:Addr):Prop:=nsIn K mainGlobals x=some (some (.ref f))
structure HF (K:α3)(x:Str)(st:Stmt)(f:Addr)(fd:α6):Prop where
 a:nsIn K mainGlobals x=some (some (.ref f))
 F:Fun K x x st f fd
def HF.b {K:α3} {st:Stmt} (h:HF K x st f fd)(e:∀(kV bG pm:Value) (an:Option Addr) (ao ct v:Value),bindArgs (fnOf x x (IL st) (Ea st) (Ah st) .none kV bG pm an ao ct) ⟨[v],[]⟩=pure [(p,v)])(s:Shared)(v:Value):BindsTo s fd ⟨[v],[]⟩ [(p,v)]:=by
 obtain⟨_,_,_,_,_,_,_,_,_,rfl,_,_⟩:=h.F.ex;exact .of_eq (e _ _ _ _ _ _ _)
end L2
namespace PySem
def P0 {id:String}{B:Builtin} {rest:List Value} (slot:Slot T name id)(hT:s.TypeIs self T)(entry:entryFor table id=some B)(args:argsOk id ⟨self::rest,[]⟩)(g:Meets (B ⟨self::rest,[]⟩) S)(h:S A R s):codeAny (model prog w) A (.call (.builtin id) ⟨self::rest,[]⟩) R s:=
 zH_ slot.plain entry (slot.check _ _ _ _ _ _ _ _ hT args (g prog w A R s h))
end PySem
namespace L2
open PySem PySem.Spec PyProof.Rows
namespace DP
def entry_loop:entryFor table "dict.update.loop"=some Builtin.«dict.update.loop» := entryFor_of_tree (by kernel_rfl)
def plain_loop:plainId "dict.update.loop"=true:=by decide +kernel
end DP
noncomputable def DW (kvs:List (List Key×V))(ps:List (List Key×V)):List (List Key×V):=ps.foldl (fun ah p=>putK ah p.1 p.2) kvs
def Rd.upd_dT (hd:H d=some (.dT kvs))(h:Rd H a u)(hu:∀z,u ≠ .dT z):Rd (upd H d (.dT cQ)) a u:=by
 have aC:a≠d:=by
  rintro rfl;rcases h with h|⟨o,h⟩<;>rw[hd]at h<;>injection h with h
  ·exact hu _ h.symm
  ·cases h
 unfold Rd;rw[Aj aC];exact h
section
variable {X:Cx} {aa:α7} {σ:St}
noncomputable def TF (H:Hp)(ts:List Addr)(ps:List (List Key×V)):Prop:=
 ts.length=ps.length/\∀(j:Nat) (p:List Key×V) (q:Addr),ps[j]?=some p->ts[j]?=some q->∃b,Rd H q (.tup [.ref b,p.2])/\H b=some (.tup (p.1.map kV))
end
end L2
namespace L2
open PySem PySem.Spec PyProof.Rows
def Jt:∀(ps kvs:List (List Key×V)),((kvs++ps).map (·.1)).Nodup->DW kvs ps=kvs++ps
 |[],kvs,_=>by simp[DW]
 |p::ps,kvs,h=>by
  have hp:putK kvs p.1 p.2=kvs++[p]:=by
   unfold putK;rw[if_neg];intro hx;rw[xR_]at hx;obtain⟨q,hq,e⟩:=hx;have e:=xJ_ e;rw[jj_,jP_,zq_]at h;exact h.2.2 q.1 (jv_.mpr ⟨q,hq,rfl⟩) p.1 (by simp) e
  show DW (putK kvs p.1 p.2) ps=kvs++p::ps;rw[hp,Jt ps (kvs++[p]) (by simpa using h)];simp
end L2
namespace L2
open PySem PySem.Spec PyProof.Rows
def Wr (ns:α2):inV .non (ns.map V.int)=false:=by
 unfold inV;rw[rn,Bool.eq_false_iff];intro h;obtain⟨x,_,e⟩:=xR_.mp h;cases e
def Ao.append {K:α3} (h:Ao K H xs as)(g:Ao K H ys bs):Ao K H (xs++ys) (as++bs):=by
 refine⟨by rw[ju_,ju_,h.1,g.1],fun i u hu=>?_⟩;by_cases hi:i<as.length
 ·rw[jw_ hi]at hu;obtain⟨t,a,b⟩:=h.2 i u hu;exact⟨t,by rw[jw_ (by rw[h.1];exact hi)];exact a,b⟩
 ·rw[jy_ s!""]at hu;obtain⟨t,a,b⟩:=g.2 _ u hu;exact⟨t,by rw[jy_ (by rw[h.1];lia),h.1];exact a,b⟩
def Ao.rowsN {K:α3} (h:Ao K H zs ws):∃ts:List Addr,zs=ts.map V.ref/\ts.length=ws.length/\∀(i:Nat) (t:Addr) (row:α2),ts[i]?=some t->ws[i]?=some row->H t=some (.tup (row.map V.int)):=by
 refine⟨zs.map fun v=>match v with | .ref t=>t|_=>0,?_,by rw[ja_,h.1],fun i t row h1 h2=>?_⟩
 ·refine qF_ fun i=>?_;rw[jK_,jh_];cases hz:zs[i]? with
  |none=>rfl
  |some v=>
   obtain⟨t,u,_,rfl,_⟩:=h.at hz;rfl
 ·obtain⟨t',a,b⟩:=h.2 i row h2;rw[jh_,a]at h1;cases h1;exact b
end L2
namespace L2
open PySem PySem.Spec PyProof.Rows k9
section
variable {X:Cx} {aa:α7} {σ:L2.St} {A:Around}
noncomputable abbrev ends (Q E:Value->Shared->Prop):Result->Shared->Prop:=fun r s'=>match r with | .ok (.ret v)=>Q v s' | .ok _=>False | .error e=>E e s'
end
end L2
namespace N80
open Nest L2 GW
noncomputable def val (b:Nat)(v:α2):Nat:=v.foldl (fun a x=>a*b+x.toNat) 0
noncomputable def cod (b:Nat)(v:α2):Nat:=b ^ v.length+val b v
structure Turn {R:Type}(A:Int->α2->Prop)(p e:Int)(b:Nat)(fin:R->Prop)(best:R->Option (α2))(res:Option (α2)):Prop where
 s:∀t,res=some t->∃r,best r=some t/\fin r
 l:∀r t,best r=some t->fin r->∃t',res=some t'/\cod b t'<=cod b t
end N80
namespace HT
open PySem PyProof.Rows
inductive LtE (A:Around)(s:Shared)(f:Bool):List Value->List Value->Bool->Prop
 | endL {ws:List Value}:LtE A s f [] ws f
 | endR {vs:List Value}:LtE A s f vs [] f
 | eq {v w:Value} {vs ws:List Value} {b:Bool}:SeqAt.EqAt A s v w true->LtE A s f vs ws b->LtE A s f (v::vs) (w::ws) b
 | ne {v w:Value} {vs ws:List Value} {b:Bool}:SeqAt.EqAt A s v w false->(∀(prog:Program) (wd:World) (E:Value->Shared->Prop) (Q:Value->Shared->Prop),Q (.bool b) s->wpAny (model prog wd) A (richCompare .Lt v w) Q E s)->LtE A s f (v::vs) (w::ws) b
end HT
namespace L2
open PySem PySem.Spec PyProof.Rows
noncomputable def ItmN (lo:Int)(n:Nat):It:=⟨fun i _=>i<n,fun i H x H'=>H'=H/\x=.int (lo-i),fun i _=>n<=i⟩
def Om {P:Program}{w:World}{K:α3}{tg:Expr}(it:Addr)(lo:Int)(n:Nat):Turn P w K tg (ItmN lo n) [it] it (fun i h=>IsRangeIter h it (lo+(i:Nat)*(-1)) ((n:Int)-(i:Nat)) (-1)) where
 mem:=by simp
 obj:=fun i h st b hb=>by
  have e:b=it:=by simpa using hb
  subst e;exact⟨_,st,fun v z=>by
   have z':Data.fields _=Data.cell v:=z;cases z'⟩
 keep:=fun i h h' st k=>k it (by simp) _ st
 item:=by
  intro X hP hw hK hc i aa s σ H E I hf st hg;subst hP hw hK;obtain⟨f0,f1,f2,f3,f4,f5⟩:=hf it (by simp);have W:=Walks.range (prog:=X.prog) (w:=X.w) (I.ok.hd hc) it lo (-1) n;refine W.item i s _ _ hg st fun v h' tk hv cj kk=>?_;obtain⟨t,rfl⟩:=hv;have I1:Inv X aa σ H {s with heap:=h',toks:=tk}:=I.turned (fun b o hb e=>kk b o (by simpa using hb) e) f0 f1 f3 f4 f5;refine⟨_,rfl,Qx (s:={s with heap:=h',toks:=tk}) (n := "range_iterator") cj rfl rfl (by decide) ⟨.int (lo-i),H,I1,⟨t,?_⟩,⟨rfl,rfl⟩,cj,fun b hb=>(hf b hb).1⟩⟩;rw[show lo+(i:Int) * -1=lo-i by lia]
 done:=by
  intro X hP hw hK hc i aa s σ H E I hf st hg;subst hP hw hK;obtain⟨f0,f1,f2,f3,f4,f5⟩:=hf it (by simp);exact wpAny_pyNext_range_end (I.ok.hd hc) st (by have:n<=i:=hg;lia) fun h' eb=>⟨rfl,I.turned (t':=s.toks) (fun b o hb e=>eb b o hb e) f0 f1 f3 f4 f5⟩
 self:=fun _ _ _ _ _ st h=>wpAny_pyIter_rangeiter st h
section
variable {X:Cx} {tg:Expr}
def Yd {lo hi:Int}:Builtin.Range.rangeSize lo hi (-1)=(((lo-hi).toNat:Nat):Int):=by
 unfold Builtin.Range.rangeSize;rw[if_neg (by decide)];split
 ·rw[show -(-1:Int)=1 from rfl,rh];lia
 ·lia
def Ye {lo hi:Int}(h1 : -(2 ^ 62)<=lo)(h2:lo<2 ^ 62)(h3 : -(2 ^ 62)<=hi)(h4:hi<2 ^ 62):Builtin.Range.small lo hi (-1)=true:=by
 unfold Builtin.Range.small;rw[Yd,if_neg (by decide)];unfold Builtin.Range.rangeFitsLong;simp only[jW_,oT,qz_,xk_];refine⟨⟨⟨⟨⟨?_,?_⟩,?_,?_⟩,?_,?_⟩,?_,?_⟩,.inr ⟨?_,?_⟩⟩<;>lia
def RT {lo hi:Int} (I:Inv X aa σ H s)(h1 : -(2 ^ 62)<=lo)(h2:lo<2 ^ 62)(h3 : -(2 ^ 62)<=hi)(h4:hi<2 ^ 62)
  (q:R (ItmN lo (lo-hi).toNat) H):wpAny (model X.prog X.w) X.A (pyIter (.ref s.heap.objs.size)) (PIE X aa σ tg R) E {s with heap:=s.heap.push {cls:=.type "range",data:=.fields #[.int lo t,.int hi u,.int (-1) v]},toks:=tk}:=by
 refine wpAny_pyIter_range (IsRange.new ..) (Ye h1 h2 h3 h4) ?_;have I1:Inv X aa σ H {s with heap:=s.heap.push {cls:=.type "range",data:=.fields #[.int lo t,.int hi u,.int (-1) v]},toks:=tk}:=I.kept fun b o e=>jg_ _ e;refine⟨(s.heap.push {cls:=.type "range",data:=.fields #[.int lo t,.int hi u,.int (-1) v]}).objs.size,[(s.heap.push {cls:=.type "range",data:=.fields #[.int lo t,.int hi u,.int (-1) v]}).objs.size],_,_,H,rfl,
  I1.kept (t':=tk) fun b o e=>jg_ _ e,Om _ lo (lo-hi).toNat,?_,fun b hb=>?_,q⟩
 ·have e1:lo+((0:Nat):Int)*(-1)=lo:=by simp
  have e2:(((lo-hi).toNat:Nat):Int)-((0:Nat):Int)=Builtin.Range.rangeSize lo hi (-1):=by rw[Yd];lia
  show IsRangeIter _ _ (lo+((0:Nat):Int)*(-1)) ((((lo-hi).toNat:Nat):Int)-((0:Nat):Int)) (-1);rw[e1,e2];exact jr_ _ rfl
 ·have e:b=(s.heap.push {cls:=.type "range",data:=.fields #[.int lo t,.int hi u,.int (-1) v]}).objs.size:=by simpa using hb
  subst e;exact I1.fpOk (jf_ _) (I1.hok.fresh (jf_ _))
noncomputable def Yf (ta:TA):TI:=fun σ H R=>ta σ H fun vs H1=>∃i j:Int,vs=[.int i,.int j,.int (-1)]/\(-(2 ^ 62)<=i/\i<2 ^ 62 /\ -(2 ^ 62)<=j/\j<2 ^ 62)/\R (ItmN i (i-j).toNat) H1
theorem RU : Yf ta σ H R=ta σ H fun vs H1=>∃i j:Int,vs=[.int i,.int j,.int (-1)]/\(-(2 ^ 62)<=i/\i<2 ^ 62 /\ -(2 ^ 62)<=j/\j<2 ^ 62)/\R (ItmN i (i-j).toNat) H1:=rfl
def RW (hg:Gl X "range")(hm:X.mg "range"=none)(ha:PA X [a,b,c] ta)(hs:starEach [a,b,c] X.env=[(false,eval a X.env),(false,eval b X.env),(false,eval c X.env)]:=by rfl)(bg:starEach [b,c] X.env=[(false,eval b X.env),(false,eval c X.env)]:=by rfl):
  PI X tg (.Call (.Name "range" p) [a,b,c] [] pos) (Yf ta):=by
 intro aa s σ H R I h;refine Call_ (Hv I hg hm boot_range (qb_ (thn (ha pos aa s σ H _ I h) fun us s1 ⟨vs,H1,I1,r1,q1⟩=>?_) (by rw[hs,bg]) (by rw[bg];rfl)));obtain⟨i,j,e,⟨q1,q2,q3,q4⟩,q⟩:=q1;subst e;cases r1 with
 |cons r rr=>
  cases rr with
  |cons r' rr=>
   cases rr with
   |cons r'' rr=>
    cases rr;obtain⟨t,rfl⟩:=r;obtain⟨t',rfl⟩:=r';obtain⟨t'',rfl⟩:=r'';exact call_range_3 (by decide) (RT I1 q1 q2 q3 q4 q) (nM (PyProof.noPylong_small s!""))
def YI {lo:Int} (Pv:Nat->St->Hp->Prop)(h0:Pv 0 σ H)
  (hs:∀i σ H,i<n->Pv i σ H->g (.int (lo-i)) σ H fun ai H2=>tb {D with nx:=Pv (i+1),ct:=Pv (i+1),bk:=D.nx} ai H2) (hd:∀σ H,Pv n σ H->D.nx σ H):ForW (ItmN lo n) g tb D σ H:=by
 refine⟨fun i m σ H=>m+i=n/\Pv i σ H,⟨n,by lia,h0⟩,fun i m σ H ⟨hm,hp⟩=>?_⟩;by_cases hi:i<n
 ·refine .inr ⟨hi,Pv (i+1),fun af H' h=>⟨m-1,by lia,by lia,h⟩,fun x H' hy=>?_⟩;obtain⟨rfl,rfl⟩:=hy;exact hs i σ _ hi hp
 ·have e:i=n:=by lia
  subst e;exact .inl ⟨jf_ _,hd σ H hp⟩
end
end L2
namespace PySem
open Sem (wp)
def HE
  (hx:s.heap.get? a=some o) (hc:o.cls=.type "list") (fV:o.data=.seq xs k) (hd:o.dict=none) (hmiss:typeLookup (.type "list") name=pure none) (hname:(["__module__","__name__","__qualname__","__doc__","__annotations__"]:List Str).contains name=false) (hA:A.handled=none)
  (h:∀h' tk e,Heap.NewExcOf s.heap h' e "AttributeError" -> Q none {s with heap:=h',toks:=tk}) (hsz:name.length+100<=sizeLine:=by size_fits):wpAny (model prog w) A (getAttr? (.ref a) name) Q E s:=by
 obtain⟨c,dct,dat,sl⟩:=o;obtain rfl:c=_:=hc;obtain rfl:dat=_:=fV;obtain rfl:dct=_:=hd;obtain⟨hp,g,d,tk,os⟩:=s;have T:∀tk,Shared.TypeIs ⟨hp,g,d,tk,os⟩ (.ref a) "list" := fun _=>⟨_,hx,rfl⟩;have e:=F.slot_list_getattribute;have f1:=sub_AttributeError;have f4:=e.bind (.ref a);have f5:=am_list_getattr_none;unfold getAttr? getAttrBy? getAttrBy
 wp_walk
 refine wpAny_of_eq e.lookup ?_
 wp_walk
 refine P0 e (T _) am_entry_list_getattribute (F.args_list_getattribute_2 _ _) (meets_getattribute_miss_list a xs k sl name _ hmiss hname hsz) ⟨hx,hA,fun h' tk' e' fR=>?_⟩;obtain⟨t',u',he⟩:=fR.there
 wp_walk
 exact h _ _ _ fR.of
end PySem
namespace L2
open PySem PySem.Spec PyProof.Rows
def P4:typeLookup (.type "list") "keys"=pure none:=by rw[typeLookup_type,builtinLookup_eq_fast];kernel_rfl
section
variable {X:Cx} {aa:α7} {σ:St}
def RX {d a it:Addr} (hu:A.units+20<cLine)(hh:A.handled=none):
  ∀(n i:Nat) (s:Shared) (H:Hp) (kvs:List (List Key×V)) (t:Tok),ps.length-i=n->i<=ps.length->Inv X aa σ H s->H d=some (.dT kvs)->kvs.length+n<sizeLine->s.heap.IsListIter it a i->FpOk X aa H it->H a=some (.lst (ts.map V.ref))->TF H ts ps ->
   (∀s',Inv X aa σ (upd H d (.dT (DW kvs (ps.drop i)))) s'->R (.ok (.ret .none)) s') ->
   codeAny (model X.prog X.w) A (.builtin "dict.update.loop" ⟨[.ref d,.ref it,.int i t,.none],[]⟩) R s:=by
 intro n
 induction n with
 |zero=>
  intro i s H kvs t hn hi I hd hz st hF hS hP hR;have bz:i=ps.length:=by lia
  subst bz;obtain⟨f0,f1,f2,f3,f4,f5⟩:=hF;obtain⟨its,rv,p,iJ⟩:=I.list (SqL.of hS);have hl:=rv.length;refine zd_ DP.entry_loop ?_;rw[xN_ DP.plain_loop _];show wpAny _ A.in1 (pyNext (.ref it) >>= _) _ _ s;refine jd_ (wpAny_pyNext_list_end hh st p.isList (by have:=hP.1;simp at hl ⊢;lia) fun h' eb=>?_);have I1:Inv X aa σ H {s with heap:=h' }:=I.turned (t':=s.toks) (fun b o hb e=>eb b o hb e) f0 f1 f3 f4 f5;have e0:upd H d (.dT (DW kvs (ps.drop ps.length)))=H:=by
   rw[qM_];show upd H d (.dT kvs)=H
   funext b;unfold upd;split
   ·rename_i q;rw[q];exact hd.symm
   ·rfl
  rw[e0]at hR;exact jd_ (jm_ (jm_ (hR _ I1)))
 |succ n ih=>
  intro i s H kvs t hn hi I hd hz st hF hS hP hR;obtain⟨f0,f1,f2,f3,f4,f5⟩:=id hF;obtain⟨its,rv,p,iJ⟩:=I.list (SqL.of hS);have fm:i<ps.length:=by lia
  have aM:i<ts.length:=by rw[hP.1];exact fm
  obtain⟨u,fk,ru⟩:=rv.get (i:=i) (x:=V.ref ts[i]) (by simp[aM]);cases (show u=Value.ref ts[i] from ru);obtain⟨b,hq,hb⟩:=hP.2 i ps[i] ts[i] (by simp) (by simp);refine zd_ DP.entry_loop ?_;rw[xN_ DP.plain_loop _];show wpAny _ A.in1 (pyNext (.ref it) >>= _) _ _ s;refine jd_ (wpAny_pyNext_list_item st p.isList (x:=.ref ts[i]) (by simpa using fk) fun h' cj sb=>?_);have I1:Inv X aa σ H {s with heap:=h' }:=I.turned (t':=s.toks) (fun b o hb e=>(sb.2 b hb).trans e) f0 f1 f3 f4 f5;refine jd_ (xc_ ?_);obtain⟨aH,eL,⟨o2,fg,cn,k2,fN⟩,_⟩:=I1.tuple (.inl hq);refine jd_ (wpAny_tryCatch ?_);unfold Builtin.Dict.pairItems;refine jd_ (zt_ ⟨o2,fg,cn⟩ ?_);rw[if_pos (by decide)];refine jd_ (wpAny_seqItems fg fN (jm_ ?_));cases eL with
  |cons r1 t2=>
  cases t2 with
  |cons r2 t3=>
  cases t3
  rename_i u1 u2
  cases (show u1=Value.ref b from r1);refine xc_ ?_;obtain⟨z,jE,xs,aX,dd⟩:=VO I1.hok hd;have hzx:xs.length<=sizeLine:=by rw[<-x5_ aX];exact z
  have hl:(putK kvs ps[i].1 ps[i].2).length<=kvs.length+1:=Dx kvs _ _;refine wpAny_dictSet_heap (hsz:=hzx) (xf_ s!"") (Jo I1.hok hb) dd fun h2 eC hs=>?_;obtain⟨q,es,ep,c7,cL,h3,h4,_,h5⟩:=eC;have I2:=fun t'=>IM (t':=t') (ob:=.dT (putK kvs ps[i].1 ps[i].2)) I1 (by rw[hd];exact nL) hs ⟨q,c7⟩ ⟨by lia,jE,_,(aX.put ps[i].1 hb r2).keeps fun c ys ec=>by
   rw[Aj (Qv ec hd (fun z=>nomatch z))];exact ec,q,es,ep,c7,cL,h3,h4,h5⟩
  refine jm_ ⟨plainId_quiet DP.plain_loop _,?_⟩;have hdit:d≠it:=AL hd f0;refine ih (i+1) _ _ (putK kvs ps[i].1 ps[i].2) _ s!"" s!"" (I2 _) (by unfold upd;rw[if_pos rfl]) s!"" ?_ ?_ (by rw[Aj (Qv hS hd (fun z=>nomatch z))];exact hS) ⟨hP.1,fun j p' q' hj gS=>?_⟩ ?_
  ·obtain⟨o,ho,r⟩:=cj;exact⟨o,(hs.2 it (qn_ hdit)).trans ho,r⟩
  ·exact⟨by rw[Aj (qn_ hdit)];exact f0,f1,f2,f3,f4,f5⟩
  ·obtain⟨b',hb1,iK⟩:=hP.2 j p' q' hj gS;exact⟨b',hb1.upd_dT hd (fun z e=>nomatch e),by rw[Aj (Qv iK hd (fun z=>nomatch z))];exact iK⟩
  ·intro s' I';refine hR s' ?_;have e1:DW kvs (ps.drop i)=DW (putK kvs ps[i].1 ps[i].2) (ps.drop (i+1)):=by
    rw[ou fm];rfl
   have e2:upd (upd H d (.dT (putK kvs ps[i].1 ps[i].2))) d (.dT (DW (putK kvs ps[i].1 ps[i].2) (ps.drop (i+1))))=upd H d (.dT (DW kvs (ps.drop i))):=by
    rw[e1];funext c;unfold upd;split<;>rfl
   rw[<-e2];exact I'
end
section
variable {X:Cx} {aa:α7} {σ:St} {H:Hp} {s:Shared} {A:Around} {E:Value->Shared->Prop}
def P5 (I:Inv X aa σ H s)(ha:H a=some (.lst (ts.map V.ref)))(hP:TF H ts ps)(hl:ps.length<sizeLine)(hu:A.units+30<cLine)(hh:A.handled=none)
  (h:∀s',Inv X aa σ (upd H s.heap.objs.size (.dT (DW [] ps))) s'->Q (.ref s.heap.objs.size) s'):wpAny (model X.prog X.w) A (call (.type "dict") [.ref a]) Q E s:=by
 refine callType_codes (Q₁:=fun obj s₁=>obj=.ref s.heap.objs.size/\s₁={s with heap:=s.heap.push {cls:=.type "dict",data:=.dict #[]} }) F.kt_called_dict (F.kt_typeCall_dict_1 _) F.entry_dict_init (kt_code_dict_new _ ⟨rfl,rfl⟩) ?_;rintro obj s₁ ⟨rfl,rfl⟩;have I1:Inv X aa σ (upd H s.heap.objs.size (.dT [])) {s with heap:=s.heap.push {cls:=.type "dict",data:=.dict #[]} }:=I.laid (a:=s.heap.objs.size) (o:=.dT []) (t':=s.toks) (fun _ _ q=>jg_ _ q) (jf_ _) (L9 s.heap I.big);have hf:H s.heap.objs.size=none:=I.hok.fresh (jf_ _);have hT:Shared.TypeIs {s with heap:=s.heap.push {cls:=.type "dict",data:=.dict #[]} } (.ref s.heap.objs.size) "dict" := ⟨_,jr_ _ rfl,rfl⟩;obtain⟨hz,its,n,rv,ho⟩:=(show AY X.prog X.w H s.heap a (.lst (ts.map V.ref)) from I.hok a _ ha);have mB:(s.heap.push {cls:=.type "dict",data:=.dict #[]}).get? a=some {cls:=.type "list",data:=.seq its.toArray n}:=jg_ _ ho;refine⟨hT,F.args_dict_init_2 _ _,?_⟩;unfold Builtin.«dict.__init__»;refine jd_ ?_;unfold Builtin.Dict.selfAndRest;refine jd_ (xD_ hT ?_);show wpAny _ _ (pure (s.heap.objs.size,[Value.ref a])) _ _ _;refine jm_ ?_;show wpAny _ _ (Builtin.Dict.updateFrom "dict.__init__" s.heap.objs.size (.ref a) [] .none) _ _ _;unfold Builtin.Dict.updateFrom;refine jd_ (zt_ ⟨_,mB,rfl⟩ ?_);rw[if_pos (by decide)];refine jd_ ?_;refine HE (A:=A.in1.in1) (s:={s with heap:=s.heap.push {cls:=.type "dict",data:=.dict #[]} }) mB rfl rfl rfl P4 (by decide) (show A.in1.in1.handled=none from hh) fun h2 tk e hx=>?_;rw[if_pos (show (none:α5).isNone=true from rfl)];refine jd_ (wpAny_rule (jd_ ?_));have I2:Inv X aa σ (upd H s.heap.objs.size (.dT [])) {s with heap:=h2,toks:=tk}:=I1.kept (t':=tk) (fun b u q=>hx.keeps b u q);have hoP2:h2.get? a=some {cls:=.type "list",data:=.seq its.toArray n}:=hx.keeps _ _ mB;refine xG_ (s:={s with heap:=h2,toks:=tk}) (items:=its.toArray) ⟨_,hoP2,rfl,_,rfl⟩ ?_;have I3:Inv X aa σ (upd H s.heap.objs.size (.dT [])) {s with heap:=h2.push {cls:=.type "list_iterator",data:=.fields #[.ref a,.int 0 0]},toks:=tk}:=I2.kept (t':=tk) (fun b u q=>jg_ _ q);refine jm_ ⟨plainId_quiet DP.plain_loop _,?_⟩;have aC:∀b,H b≠none->b≠s.heap.objs.size:=fun b hb e=>hb (by rw[e];exact hf);refine RX (A:=A.in1) (a:=a) (ts:=ts) (ps:=ps) (by show A.units+1+20<cLine;lia) (show A.in1.handled=none from hh) ps.length 0 _ _ [] _ s!"" s!"" I3 (by unfold upd;rw[if_pos rfl]) (by simpa using hl) ⟨_,jr_ _ rfl,rfl,rfl⟩ (I2.fpOk (jf_ _) ?_) ?_ ⟨hP.1,fun j p q hj hq=>?_⟩ fun s' I'=>?_
 ·exact I2.hok.fresh (jf_ _)
 ·rw[Aj (aC a (by rw[ha];exact fun z=>nomatch z))];exact ha
 ·obtain⟨b,h1,h2⟩:=hP.2 j p q hj hq;refine⟨b,?_,by rw[Aj (aC b (by rw[h2];exact fun z=>nomatch z))];exact h2⟩;unfold Rd;rw[Aj (aC q (by rcases h1 with h1|⟨o1,h1⟩<;>rw[h1]<;>exact fun z=>nomatch z))];exact h1
 ·refine⟨rfl,h s' ?_⟩;have e2:upd (upd H s.heap.objs.size (.dT [])) s.heap.objs.size (.dT (DW [] (ps.drop 0)))=upd H s.heap.objs.size (.dT (DW [] ps)):=by
   rw[q2_];funext c;unfold upd;split<;>rfl
  rw[<-e2];exact I'
noncomputable abbrev Yg:List V->Hp->VK->Prop:=fun xs H Q=>∃(a:Addr) (ts:List Addr) (ps:List (List Key×V)),xs=[.ref a]/\H a=some (.lst (ts.map V.ref))/\TF H ts ps/\ps.length<sizeLine/\∀p,H p=none->Q (.ref p) (upd H p (.dT (DW [] ps)))
def Oo (hc:X.calm=true)(hr:Room k X.A):Em X (.type "dict") Yg:=by
 intro aa s σ H xs us Q I r h;obtain⟨a,ts,ps,rfl,ha,hP,hl,q⟩:=h;obtain⟨u,rfl,rx⟩:=vals1 r;cases rx;exact P5 I ha hP hl (by have:=hr.units;lia) (I.ok.hd hc) fun s' I'=>⟨.ref s.heap.objs.size,_,I',rfl,q _ (I.hok.fresh (jf_ _))⟩
end
end L2
namespace L2
open PySem PySem.Spec PyProof.Rows
structure HG (K:α3)(x q:Str)(st:Stmt)(f:Addr)(fd:α6)(M:Prop):Prop where
 m:M
 F:Fun K x q st f fd
section
variable {P:Program} {w:World} {K:α3} {mg:Str->α5} {base:Heap} {CX:CXT} {k:Nat} {x q:Str} {st:Stmt} {N ps:List Str} {sp:Sp} {f:Addr} {fd:α6} {M:Prop}
structure CalH (P:Program)(w:World)(mg:Str->α5)(base:Heap)(CX:CXT){K:α3}{x q:Str}{st:Stmt}{f:Addr}{fd:α6}{M:Prop}(h:HG K x q st f fd M)(k:Nat)(ps:List Str)(sp:Sp):Prop where
 g:FnOk P w K mg base CX k f fd ps sp
 b:Binds K fd ps []
noncomputable abbrev Bnd (x q:Str)(st:Stmt)(ps:List Str):Prop:=∀(kV bG pm:Value) (an:Option Addr) (ao ct:Value) (us:List Value),us.length=ps.length->bindArgs (fnOf x q (IL st) (Ea st) (Ah st) .none kV bG pm an ao ct) ⟨us,[]⟩=pure (ps.zip us)
def HG.ok (h:HG K x q st f fd M)(S:FnScope N ps (Ah st))(len:∀vs H Q E,sp vs H Q E->vs.length=ps.length)
  (aR:∀(ao:Value) (A:Around) (outer:List Env) (s:Shared) (H:Hp) (vs:List V) (Q:VK) (E:XK),Room k (A.deeper (envOfC q (Ah st) s.heap.objs.size f ao))->sp vs H Q E ->
   ∃t,PSs (cxOf CX0 P w K mg base N q (Ah st) f ao A outer s H E).nox (Ea st) t/\t {nx:=fun _ H'=>Q .non H',rt:=Q} (start N vs) H)
  (e:Bnd x q st ps:=by
   intro _ _ _ _ _ _ us hl;first|(obtain⟨_,rfl⟩:=len1 hl;rfl)|(obtain⟨_,_,rfl⟩:=len2 hl;rfl)|(obtain⟨_,_,_,rfl⟩:=len3 hl;rfl)|(obtain⟨_,_,_,_,rfl⟩:=len4 hl;rfl)|(obtain⟨_,_,_,_,_,rfl⟩:=len5 hl;rfl)|(obtain⟨_,_,_,_,_,_,rfl⟩:=len6 hl;rfl)):CalH P w mg base CX0 h (k+1) ps sp:=⟨h.F.ok S len aR,h.F.binds e⟩
def HG.okE (h:HG K x q st f fd M)(S:FnScope N ps (Ah st))(len:∀vs H Q E,sp vs H Q E->vs.length=ps.length)
  (aR:∀(ao:Value) (A:Around) (outer:List Env) (s:Shared) (H:Hp) (vs:List V) (Q:VK) (E:XK),Room k (A.deeper (envOfC q (Ah st) s.heap.objs.size f ao))->sp vs H Q E ->
   ∃t,PSs (cxOf (CXe P w) P w K mg base N q (Ah st) f ao A outer s H E) (Ea st) t/\t {nx:=fun _ H'=>Q .non H',rt:=Q} (start N vs) H)
  (e:Bnd x q st ps:=by
   intro _ _ _ _ _ _ us hl;first|(obtain⟨_,rfl⟩:=len1 hl;rfl)|(obtain⟨_,_,rfl⟩:=len2 hl;rfl)|(obtain⟨_,_,_,rfl⟩:=len3 hl;rfl)|(obtain⟨_,_,_,_,rfl⟩:=len4 hl;rfl)|(obtain⟨_,_,_,_,_,rfl⟩:=len5 hl;rfl)|(obtain⟨_,_,_,_,_,_,rfl⟩:=len6 hl;rfl)):CalH P w mg base (CXe P w) h (k+1) ps sp:=⟨h.F.okE S len aR,h.F.binds e⟩
noncomputable abbrev HP (K:α3)(mg:Str->α5)(fA:Nat->Addr)(fD:Nat->α6)(x:Str)(st:Stmt)(i:Nat):Prop:=HG K x x st (fA i) (fD i) (mg x=some (.ref (fA i)))
noncomputable abbrev HQ (K:α3)(fA:Nat->Addr)(fD:Nat->α6)(x q:Str)(st:Stmt)(i:Nat)(M:Addr->Prop):Prop:=HG K x q st (fA i) (fD i) (M (fA i))
def Af {X:Cx}{h:HG X.K x x st f fd (X.mg x=some (.ref f))}{E:XK}{p pos:Pos}{e:Expr}{es:List Expr}{t:TA}(q:CalH X.prog X.w X.mg X.base CX h k ps sp)(hr:Room k X.A)(hx:Fx CX X E)
  (ha:PA X (e::es) t) (hg:Gl X x:=by rfl) (eo:(x==("__debug__" : Str))=false:=by decide) (he:starEach (e::es) X.env=(false,eval e X.env)::starEach es X.env:=by rfl) (cm:(backTo pos (starEach es X.env)).any (·.1)=false:=by rfl):
  PE X (.Call (.Name x p) (e::es) [] pos) (SV sp [] E t):=VL q.g hr hg h.m h.F.kp q.b .nil hx ha eo he cm
def xcls (ga:nK K (.ref D) "__getattribute__"=some (some (.builtin "BaseException.__getattribute__")))(hk:nK K (.ref D) "__getattr__"=some none)(cl:sQ K D=some cd)(ca:nK K (.ref D) "__class__"=some (some (.builtin "object.__class__")))(gs:oz K (.builtin "object.__class__") "__get__"=some (some (.builtin "getset_descriptor.__get__")))(tk:qu K (.builtin "object.__class__")=some true)(mo:pH K D (.type "object")=some true)(mb:pH K D (.type "BaseException")=some true):ExcCls K D:=⟨ga,hk,by rw[cl];rfl,ca,gs,tk,mo,mb⟩
end
end L2
namespace Mine
open PySem L2 GW GB PrimeO
local macro_rules | `(tactic| walk_at "rd") => `(tactic| (try dsimp only[↓Vf,RO,↓r_ID,↓X5,Vg,↓r_BD,X7,↓Ya,↓Yb,Vi,Vj,Vk,X9,↓Vn,↓Vo,Vl,Vm,↓Vp,RQ,↓Xn,↓UH,↓Xo,↓Q3,↓Xp,↓r_c,↓r_op,↓r_un,↓r_I,↓r_I0,↓r_U,↓UI,↓UJ,↓Xq,↓Xr,↓UK,↓r_if,↓r_B,↓UL,↓Xs,↓r_or,↓Xt,↓UM,↓Q4,↓Xu,↓r_CB,↓Xv,↓Xw,↓Xx,↓Xy,↓r_sl,↓UN,↓OW,↓XG,↓r_BM,↓OX,↓r_Eq,↓r_Ne,↓Xz,↓Q5,↓UO,↓Q6,↓XA,↓r_ip,↓Q7,↓UP,↓XC,↓XI,↓Rg,↓XJ,↓US,↓UT,↓OY,↓Rl,↓XN,↓UX,↓Ri,↓UY,↓UZ,↓OZ,↓U0,↓Rj,↓U1,↓O0,↓O1,↓r_in,↓Rm,↓O2,↓UU,↓Pb,↓Nj,↓X1,↓Ve,↓O4,↓Rp,↓Rq,↓XQ,↓XT,↓U7,↓U8,↓U9,↓Rv,↓Rt,↓Ry,↓RC,↓RU,↓RG,↓Vb,XB,L2.start,jP_,xB_,jV_,xl_,xQ_,qK_,nI,zc_,List.getElem?_cons_succ,List.set_cons_zero,List.set_cons_succ,scal])<;>(try simp only[↓Vf,RO,↓r_ID,↓X5,Vg,↓r_BD,X7,↓Ya,↓Yb,Vi,Vj,Vk,X9,↓Vn,↓Vo,Vl,Vm,↓Vp,RQ,We,X8,Wj,Tz,RP,↓Xn,↓UH,↓Xo,↓Q3,↓Xp,↓r_c,↓r_op,↓r_un,↓r_I,↓r_I0,↓r_U,↓UI,↓UJ,↓Xq,↓Xr,↓UK,↓r_if,↓r_B,↓UL,↓Xs,↓r_or,↓Xt,↓UM,↓Q4,↓Xu,↓r_CB,↓Xv,↓Xw,↓Xx,↓Xy,↓r_sl,↓UN,↓OW,↓XG,↓r_BM,↓OX,↓r_Eq,↓r_Ne,↓Xz,↓Q5,↓UO,↓Q6,↓XA,↓r_ip,↓Q7,↓UP,↓XC,↓XI,↓Rg,↓XJ,↓US,↓UT,↓OY,↓Rl,↓XN,↓UX,↓Ri,↓UY,↓UZ,↓OZ,↓U0,↓Rj,↓U1,↓O0,↓O1,↓r_in,↓Rm,↓O2,↓UU,↓Pb,↓Nj,↓X1,↓Ve,↓O4,↓Rp,↓Rq,↓XQ,↓XT,↓U7,↓U8,↓U9,↓Rv,↓Rt,↓Ry,↓RC,↓RU,↓RG,↓Vb,XB,L2.start,jP_,xB_,jV_,xl_,xQ_,qK_,xA_,nI,zc_,List.getElem?_cons_succ,List.set_cons_zero,List.set_cons_succ,Option.some.injEq,V.int.injEq,V.str.injEq,V.ref.injEq,V.bl.injEq,List.cons.injEq,and_true,true_and,and_assoc,exists_and_left,exists_eq_left',exists_eq_left,exists_eq_right,exists_eq,zZ_,xH_,xg_,qz_,scal,Nat.reduceAdd,Nat.reduceSub,reduceCtorEq,ra,Bool.not_false]))
local macro_rules|`(tactic|nofun)=>`(tactic|walk_at "rd")
set_option hygiene false in
local macro_rules|`(tactic|delta $x:ident $y:ident)=>`(tactic|refine HG.ok $x $y (fun vs H Q E h=>?_) (fun ao A outer s H vs Q E hr h=>?_))
set_option hygiene false in
local macro_rules|`(⋯)=>`(CalH P w mg base CX0)
local macro_rules | `(tactic| walk_at "sc") => `(tactic| exact⟨rfl,rfl,rfl,by decide +kernel,rfl,by decide +kernel,by decide +kernel⟩)
noncomputable def top (i:Nat):Stmt:=PySem.Challenge.pw_guessroom_k71_sum_asker_refuses.main.body.getD i (.Pass ⟨0,0,0,0⟩)
noncomputable abbrev EM:Stmt:=AR (top 23) 1
def Ln:FnScope ["self"] ["self"] (Ah EM):=by walk_at "sc"
noncomputable abbrev G4:Stmt:=top 52
def Nk:FnScope ["script","k"] ["script","k"] (Ah G4):=by walk_at "sc"
noncomputable abbrev DA:Stmt:=top 53
def Fc:FnScope ["number","part"] ["number"] (Ah DA):=by walk_at "sc"
noncomputable abbrev FG:Stmt:=top 54
def Dp:FnScope ["cell","some","number"] ["cell"] (Ah FG):=by walk_at "sc"
noncomputable abbrev KL:Stmt:=top 9
def P6:FnScope ["letters","word"] ["letters","word"] (Ah KL):=by walk_at "sc"
noncomputable abbrev FH:Stmt:=top 10
def Ml:FnScope ["letters","word"] ["letters","word"] (Ah FH):=by walk_at "sc"
noncomputable abbrev G8:Stmt:=top 34
def Nl:FnScope ["p","number"] ["p","number"] (Ah G8):=by walk_at "sc"
noncomputable abbrev DB:Stmt:=AR (top 46) 1
def JX:FnScope ["self","word","mark"] ["self","word","mark"] (Ah DB):=by walk_at "sc"
noncomputable abbrev IW:Stmt:=AR (top 16) 2
def Oq:FnScope ["self","word","mark"] ["self","word","mark"] (Ah IW):=by walk_at "sc"
noncomputable abbrev B0:Stmt:=AR (top 23) 2
def Gy:FnScope ["self","deed"] ["self","deed"] (Ah B0):=by walk_at "sc"
noncomputable abbrev FJ:Stmt:=AR (top 16) 4
def Mm:FnScope ["self"] ["self"] (Ah FJ):=by walk_at "sc"
noncomputable abbrev RY:Stmt:=top 30
def Ws:FnScope ["size","place"] ["size","place"] (Ah RY):=by walk_at "sc"
noncomputable abbrev C3:Stmt:=top 26
def CF:FnScope ["row","place","number"] ["row"] (Ah C3):=by walk_at "sc"
noncomputable abbrev Mn:Stmt:=top 19
def RZ:FnScope ["p","factor","row"] ["p","factor","row"] (Ah Mn):=by walk_at "sc"
noncomputable abbrev Ot:Stmt:=top 20
def TH:FnScope ["p","row","other"] ["p","row","other"] (Ah Ot):=by walk_at "sc"
noncomputable abbrev KN:Stmt:=top 27
def Es:FnScope ["p","bases","row","left","place","base"] ["p","bases","row"] (Ah KN):=by walk_at "sc"
noncomputable abbrev KO:Stmt:=top 18
def Bb:FnScope ["p","number","one","two","factor_of_one","factor_of_two","times","rest","factor_of_rest"] ["p","number"] (Ah KO):=by walk_at "sc"
noncomputable abbrev G9:Stmt:=top 28
def DX:FnScope ["p","bases","left","place","base","more","other"] ["p","bases","left","place"] (Ah G9):=by walk_at "sc"
noncomputable abbrev Cg:Stmt:=top 29
def AE:FnScope ["p","rows","size","places","bases","number","row","left","place"] ["p","rows","size"] (Ah Cg):=by walk_at "sc"
noncomputable abbrev CG:Stmt:=top 31
def AH:FnScope ["p","rows","some","size","count","marked","bases","told","row","left","is_made"] ["p","rows","some","size"] (Ah CG):=by walk_at "sc"
noncomputable abbrev C4:Stmt:=top 40
def IX:FnScope ["told","word","ends"] ["told","word","ends"] (Ah C4):=by walk_at "sc"
noncomputable abbrev Hc:Stmt:=top 41
def Bz:FnScope ["p","letters","access","ends","told","size","rows","tables","letter","goals","last"] ["p","letters","access","ends","told"] (Ah Hc):=by walk_at "sc"
noncomputable abbrev BA:Stmt:=AR (top 50) 4
def Fp:FnScope ["self"] ["self"] (Ah BA):=by walk_at "sc"
noncomputable abbrev KQ:Stmt:=top 21
def P7:FnScope ["p","row","other"] ["p","row","other"] (Ah KQ):=by walk_at "sc"
noncomputable abbrev B3:Stmt:=top 47
def Az:FnScope ["house","heard","columns","word","number","place","at","behind"] ["house","heard"] (Ah B3):=by walk_at "sc"
noncomputable abbrev BB:Stmt:=AR (top 50) 5
def Fq:FnScope ["self"] ["self"] (Ah BB):=by walk_at "sc"
noncomputable abbrev BO:Stmt:=AR (top 24) 9
def FK:FnScope ["self"] ["self"] (Ah BO):=by walk_at "sc"
noncomputable abbrev Bi:Stmt:=AR (top 50) 6
def Ec:FnScope ["self"] ["self"] (Ah Bi):=by walk_at "sc"
noncomputable abbrev Hd:Stmt:=AR (top 16) 3
def Nm:FnScope ["self","word"] ["self","word"] (Ah Hd):=by walk_at "sc"
noncomputable abbrev Ed:Stmt:=AR (top 24) 8
def DC:FnScope ["self","words","left","word"] ["self","words"] (Ah Ed):=by walk_at "sc"
noncomputable abbrev KR:Stmt:=top 32
def P8:FnScope ["p","rows","parts","size"] ["p","rows","parts","size"] (Ah KR):=by walk_at "sc"
noncomputable abbrev KS:Stmt:=top 35
def P9:FnScope ["house","row","letter"] ["house","row","letter"] (Ah KS):=by walk_at "sc"
noncomputable abbrev FL:Stmt:=top 36
def EO:FnScope ["house","word","rows","letter"] ["house","word"] (Ah FL):=by walk_at "sc"
noncomputable abbrev ER:Stmt:=top 48
def AO:FnScope ["book","access","guess","word","rows","goal","low","high","middle","words","numbers"] ["book","access","guess","word"] (Ah ER):=by walk_at "sc"
noncomputable abbrev FN:Stmt:=top 49
def Ci:FnScope ["book","access","guess","word","place","table","numbers","way","row"] ["book","access","guess","word","place"] (Ah FN):=by walk_at "sc"
noncomputable abbrev KU:Stmt:=top 43
def Et:FnScope ["letters","access","rows","word","letter"] ["letters","access"] (Ah KU):=by walk_at "sc"
noncomputable abbrev Ou:Stmt:=top 44
def Kl:FnScope ["letters","access","ends","words","row","end"] ["letters","access","ends"] (Ah Ou):=by walk_at "sc"
noncomputable abbrev Cj:Stmt:=AR (top 50) 8
def He:FnScope ["self","way","end"] ["self","way","end"] (Ah Cj):=by walk_at "sc"
noncomputable abbrev C5:Stmt:=AR (top 50) 7
def BG:FnScope ["self","word","found","place"] ["self"] (Ah C5):=by walk_at "sc"
noncomputable abbrev C6:Stmt:=AR (top 24) 7
def IY:FnScope ["self"] ["self"] (Ah C6):=by walk_at "sc"
noncomputable abbrev ES:Stmt:=AR (top 23) 3
def Lp:FnScope ["self"] ["self"] (Ah ES):=by walk_at "sc"
noncomputable abbrev Ck:Stmt:=AR (top 24) 1
def Hf:FnScope ["self","number"] ["self","number"] (Ah Ck):=by walk_at "sc"
noncomputable abbrev DD:Stmt:=AR (top 50) 1
def JY:FnScope ["self","number"] ["self","number"] (Ah DD):=by walk_at "sc"
noncomputable abbrev C7:Stmt:=top 62
def AN:FnScope ["e","told"] ["e"] (Ah C7):=by walk_at "sc"
noncomputable abbrev FO:Stmt:=top 63
def Dq:FnScope ["asker","number","caught","e"] ["asker","number"] (Ah FO):=by walk_at "sc"
noncomputable abbrev FP:Stmt:=AR (top 24) 2
def Mo:FnScope ["self"] ["self"] (Ah FP):=by walk_at "sc"
noncomputable abbrev ET:Stmt:=top 64
def CT:FnScope ["asker","caught","e"] ["asker"] (Ah ET):=by walk_at "sc"
noncomputable abbrev FQ:Stmt:=top 37
def Mp:FnScope ["house","word"] ["house","word"] (Ah FQ):=by walk_at "sc"
noncomputable abbrev Ov:Stmt:=top 38
def TJ:FnScope ["house","word"] ["house","word"] (Ah Ov):=by walk_at "sc"
noncomputable abbrev CH:Stmt:=AR (top 50) 3
def HH:FnScope ["self","house","word"] ["self","house","word"] (Ah CH):=by walk_at "sc"
noncomputable abbrev BC:Stmt:=AR (top 24) 3
def Fs:FnScope ["self","word","number"] ["self","word","number"] (Ah BC):=by walk_at "sc"
noncomputable abbrev CI:Stmt:=AR (top 50) 2
def HI:FnScope ["self","word","number"] ["self","word","number"] (Ah CI):=by walk_at "sc"
noncomputable abbrev Ee:Stmt:=top 65
def Cm:FnScope ["asker","word","number","caught","e"] ["asker","word","number"] (Ah Ee):=by walk_at "sc"
noncomputable abbrev FT:Stmt:=AR (top 23) 0
def Mq:FnScope ["self"] ["self"] (Ah FT):=by walk_at "sc"
noncomputable abbrev Hg:Stmt:=AR (top 24) 0
def Nn:FnScope ["self","letters","most","book","ways","ends"] ["self","letters","most","book","ways","ends"] (Ah Hg):=by walk_at "sc"
noncomputable abbrev Hj:Stmt:=AR (top 16) 0
def Np:FnScope ["self","letters"] ["self","letters"] (Ah Hj):=by walk_at "sc"
noncomputable abbrev Ef:Stmt:=AR (top 46) 0
def KW:FnScope ["self","p","letters"] ["self","p","letters"] (Ah Ef):=by walk_at "sc"
noncomputable abbrev DE:Stmt:=AR (top 50) 0
def JZ:FnScope ["self","p","letters","most"] ["self","p","letters","most"] (Ah DE):=by walk_at "sc"
noncomputable abbrev FU:Stmt:=AR (top 24) 6
def Mr:FnScope ["self"] ["self"] (Ah FU):=by walk_at "sc"
noncomputable abbrev EU:Stmt:=top 56
def GG:FnScope ["script","k","p","many"] ["script","k","p"] (Ah EU):=by walk_at "sc"
noncomputable abbrev FV:Stmt:=top 59
def Ms:FnScope ["p","one","two"] ["p","one","two"] (Ah FV):=by walk_at "sc"
noncomputable abbrev Hk:Stmt:=top 58
def FW:FnScope ["p","row","table","told","c"] ["p","row","table"] (Ah Hk):=by walk_at "sc"
noncomputable abbrev EV:Stmt:=top 60
def CU:FnScope ["house","word","row","letter"] ["house","word"] (Ah EV):=by walk_at "sc"
noncomputable abbrev FX:Stmt:=top 61
def Mt:FnScope ["house","word"] ["house","word"] (Ah FX):=by walk_at "sc"
noncomputable abbrev Hl:Stmt:=top 66
def Nq:FnScope ["script","at","letters","many"] ["script","at","letters","many"] (Ah Hl):=by walk_at "sc"
noncomputable abbrev DF:Stmt:=top 67
def C8:FnScope ["script","at","letters","heard","word"] ["script","at","letters","heard"] (Ah DF):=by walk_at "sc"
noncomputable abbrev Hm:Stmt:=top 68
def FY:FnScope ["asker","script","p","letters","turn","wish","word"] ["asker","script","p","letters","turn"] (Ah Hm):=by walk_at "sc"
noncomputable abbrev EW:Stmt:=top 69
def Eg:FnScope ["script","p","letters","turns","asker","turn"] ["script","p","letters","turns"] (Ah EW):=by walk_at "sc"
noncomputable abbrev EX:Stmt:=AR (top 24) 4
def Lq:FnScope ["self"] ["self"] (Ah EX):=by walk_at "sc"
noncomputable abbrev Eh:Stmt:=AR (top 24) 5
def KY:FnScope ["self"] ["self"] (Ah Eh):=by walk_at "sc"
noncomputable abbrev IZ:Stmt:=top 70
def Ow:FnScope ["asker"] ["asker"] (Ah IZ):=by walk_at "sc"
noncomputable abbrev Ei:Stmt:=top 71
def DG:FnScope ["asker","script","p","letters","turns","other","turn"] ["asker","script","p","letters","turns"] (Ah Ei):=by walk_at "sc"
noncomputable abbrev B4:Stmt:=top 72
def AV:FnScope ["asker","script","p","letters","odd","word","place","number","bad","pair"] ["asker","script","p","letters","odd"] (Ah B4):=by walk_at "sc"
noncomputable abbrev Wt:Stmt:=top 73
def HJ:FnScope ["script","p","letters","turns","asker","wish","ahead","far","odd"] ["script"] (Ah Wt):=by walk_at "sc"
noncomputable def KZ:Caps:=[("letter",none),("letters",some 0)]
def Lr:(Caps.names KZ).Nodup:=by decide +kernel
noncomputable def Pf:Caps:=[("other",none),("place",some 1)]
def Ox:(Caps.names Pf).Nodup:=by decide +kernel
noncomputable def LL:Caps:=[("number",none),("p",some 0),("factor",some 1)]
def Mu:(Caps.names LL).Nodup:=by decide +kernel
noncomputable def Nr:Caps:=[("one",none),("two",none),("p",some 0)]
def Ju:(Caps.names Nr).Nodup:=by decide +kernel
noncomputable def K0:Caps:=[("number",none),("p",some 0)]
def Ls:(Caps.names K0).Nodup:=by decide +kernel
noncomputable def DH:Caps:=[("place",none),("row",none),("count",some 4)]
def Cu:(Caps.names DH).Nodup:=by decide +kernel
noncomputable def DI:Caps:=[("number",none),("p",some 0)]
def Ft:(Caps.names DI).Nodup:=by decide +kernel
noncomputable def DY:Caps:=[("end",none),("told",some 0),("word",some 1)]
def FZ:(Caps.names DY).Nodup:=by decide +kernel
noncomputable def HK:Caps:=[("word",none),("told",some 4),("ends",some 3)]
def J3:(Caps.names HK).Nodup:=by decide +kernel
noncomputable def HN:Caps:=[("word",none),("told",some 4),("ends",some 3),("letter",some 8)]
def J4:(Caps.names HN).Nodup:=by decide +kernel
noncomputable def HS:Caps:=[("made",none)]
def J5:(Caps.names HS).Nodup:=by decide +kernel
noncomputable def GH:Caps:=[("word",none),("told",some 4)]
def I0:(Caps.names GH).Nodup:=by decide +kernel
noncomputable def K1:Caps:=[("one",none),("two",none)]
def GI:(Caps.names K1).Nodup:=by decide +kernel
noncomputable def CW:Caps:=[("row",none),("behind",some 7),("house",some 0)]
def Eu:(Caps.names CW).Nodup:=by decide +kernel
noncomputable def K2:Caps:=[("place",none),("p",some 0),("parts",some 2),("rows",some 1)]
def Lu:(Caps.names K2).Nodup:=by decide +kernel
noncomputable def K3:Caps:=[("row",none),("place",some 0)]
def Lv:(Caps.names K3).Nodup:=by decide +kernel
noncomputable def F0:Caps:=[("way",none),("word",some 3),("middle",some 8)]
def HU:(Caps.names F0).Nodup:=by decide +kernel
noncomputable def F1:Caps:=[("asked",none),("book",some 0)]
def HV:(Caps.names F1).Nodup:=by decide +kernel
noncomputable def GJ:Caps:=[("way",none),("book",some 0),("word",some 3),("place",some 4)]
def Ja:(Caps.names GJ).Nodup:=by decide +kernel
noncomputable def GK:Caps:=[("k",none),("one",some 1),("two",some 2)]
def Jb:(Caps.names GK).Nodup:=by decide +kernel
noncomputable def HW:Caps:=[("k",none),("row",some 1),("c",some 4),("table",some 2)]
def J6:(Caps.names HW).Nodup:=by decide +kernel
noncomputable def HX:Caps:=[("k",none),("letters",some 2),("script",some 0),("at",some 1)]
def Ka:(Caps.names HX).Nodup:=by decide +kernel
noncomputable def Ew:Caps:=[("pair",none)]
def Gz:(Caps.names Ew).Nodup:=by decide +kernel
structure Txt (mg:Str->α5):Prop where
 ValueError:mg "ValueError"=none
 all:mg "all"=none
 dict:mg "dict"=none
 enumerate:mg "enumerate"=none
 isinstance:mg "isinstance"=none
 len:mg "len"=none
 list:mg "list"=none
 max:mg "max"=none
 range:mg "range"=none
 sum:mg "sum"=none
 tuple:mg "tuple"=none
 zip:mg "zip"=none
structure Own (K:α3)(mg:Str->α5)(cz cA cB aj ag:Addr):Prop where
 m_ja:mg "Book"=some (.ref cz)
 m_j9:mg "Turns"=some (.ref cA)
 m_jb:mg "Hunt"=some (.ref cB)
 m_j3:mg "SumBook"=some (.ref aj)
 cl_j3:Cls K aj
 n_SumBook_letters:BK K aj "letters"
 n_SumBook_marks:BK K aj "marks"
 n_SumBook_p:BK K aj "p"
 m_j0:mg "SumAsker"=some (.ref ag)
 cl_j0:Cls K ag
 n_SumAsker_book:BK K ag "book"
 n_SumAsker_ends:BK K ag "ends"
 n_SumAsker_gaps:BK K ag "gaps"
 n_SumAsker_guess:BK K ag "guess"
 n_SumAsker_letters:BK K ag "letters"
 n_SumAsker_most:BK K ag "most"
 n_SumAsker_p:BK K ag "p"
 n_SumAsker_ways:BK K ag "ways"
 n_SumAsker_wish:BK K ag "wish"
 n_SumAsker_wrong:BK K ag "wrong"
structure Exs (K:α3)(mg:Str->α5)(aP au av bV aw ay ax:Addr):Prop where
 m_j7:mg "AskError"=some (.ref aP)
 m_j5:mg "BadWord"=some (.ref au)
 m_j6:mg "BadMark"=some (.ref av)
 m_j8:mg "NoInverse"=some (.ref bV)
 m_j4:mg "OutOfTurn"=some (.ref aw)
 m_j2:mg "NoDifference"=some (.ref ay)
 m_j1:mg "Contradiction"=some (.ref ax)
 x_j5:nR K au bmV "ValueError.__new__"=true
 c_j5:ExcCls K au
 e_j5:exmOne K (.ref au) (.ref aP)=some true
 v_j5:kitOne K (.ref au) (.type "ValueError")=some true
 k_j5_j5:kitOne K (.ref au) (.ref au)=some true
 k_j5_j6:kitOne K (.ref au) (.ref av)=some false
 k_j5_j4:kitOne K (.ref au) (.ref aw)=some false
 k_j5_j2:kitOne K (.ref au) (.ref ay)=some false
 k_j5_j1:kitOne K (.ref au) (.ref ax)=some false
 x_j6:nR K av bmV "ValueError.__new__"=true
 c_j6:ExcCls K av
 e_j6:exmOne K (.ref av) (.ref aP)=some true
 v_j6:kitOne K (.ref av) (.type "ValueError")=some true
 k_j6_j5:kitOne K (.ref av) (.ref au)=some false
 k_j6_j6:kitOne K (.ref av) (.ref av)=some true
 k_j6_j4:kitOne K (.ref av) (.ref aw)=some false
 k_j6_j2:kitOne K (.ref av) (.ref ay)=some false
 k_j6_j1:kitOne K (.ref av) (.ref ax)=some false
 x_j8:nR K bV bmV "ValueError.__new__"=true
 x_j4:nR K aw bmV "ValueError.__new__"=true
 c_j4:ExcCls K aw
 e_j4:exmOne K (.ref aw) (.ref aP)=some true
 v_j4:kitOne K (.ref aw) (.type "ValueError")=some true
 k_j4_j5:kitOne K (.ref aw) (.ref au)=some false
 k_j4_j6:kitOne K (.ref aw) (.ref av)=some false
 k_j4_j4:kitOne K (.ref aw) (.ref aw)=some true
 k_j4_j2:kitOne K (.ref aw) (.ref ay)=some false
 k_j4_j1:kitOne K (.ref aw) (.ref ax)=some false
 x_j2:nR K ay bmV "ValueError.__new__"=true
 c_j2:ExcCls K ay
 e_j2:exmOne K (.ref ay) (.ref aP)=some true
 v_j2:kitOne K (.ref ay) (.type "ValueError")=some true
 k_j2_j5:kitOne K (.ref ay) (.ref au)=some false
 k_j2_j6:kitOne K (.ref ay) (.ref av)=some false
 k_j2_j4:kitOne K (.ref ay) (.ref aw)=some false
 k_j2_j2:kitOne K (.ref ay) (.ref ay)=some true
 k_j2_j1:kitOne K (.ref ay) (.ref ax)=some false
 x_j1:nR K ax bmV "ValueError.__new__"=true
 c_j1:ExcCls K ax
 e_j1:exmOne K (.ref ax) (.ref aP)=some true
 v_j1:kitOne K (.ref ax) (.type "ValueError")=some true
 k_j1_j5:kitOne K (.ref ax) (.ref au)=some false
 k_j1_j6:kitOne K (.ref ax) (.ref av)=some false
 k_j1_j4:kitOne K (.ref ax) (.ref aw)=some false
 k_j1_j2:kitOne K (.ref ax) (.ref ay)=some false
 k_j1_j1:kitOne K (.ref ax) (.ref ax)=some true
structure En (P:Program)(w:World)(K:α3)(mg:Str->α5)(base:Heap)(aP au av bV aw ay ax cz cA cB aj ag:Addr)(fA:Nat->Addr)(fD:Nat->α6):Prop extends Txt mg,Own K mg cz cA cB aj ag,Exs K mg aP au av bV aw ay ax where
 j0:HQ K fA fD "wants" "Turns.wants" EM 0 (Meth K ag "wants")
 j1:HP K mg fA fD "_law_cell" G4 1
 j2:HP K mg fA fD "_law_is_prime" DA 2
 j3:HP K mg fA fD "_law_prime" FG 3
 j4:HP K mg fA fD "is_word" KL 4
 j5:HP K mg fA fD "check_word" FH 5
 j6:HP K mg fA fD "is_number" G8 6
 j7:HQ K fA fD "check" "SumBook.check" DB 7 (Meth K aj "check")
 j8:HQ K fA fD "put" "Book.put" IW 8 (Meth K aj "put")
 j9:HQ K fA fD "check_wants" "Turns.check_wants" B0 9 (Meth K ag "check_wants")
 j10:HQ K fA fD "heard" "Book.heard" FJ 10 (Meth K aj "heard")
 j11:HP K mg fA fD "unit" RY 11
 j12:HP K mg fA fD "place_of_first" C3 12
 j13:HP K mg fA fD "scaled" Mn 13
 j14:HP K mg fA fD "added" Ot 14
 j15:HP K mg fA fD "left_of" KN 15
 j16:HP K mg fA fD "inverse" KO 16
 j17:HP K mg fA fD "with_base" G9 17
 j18:HP K mg fA fD "chosen_and_bases" Cg 18
 j19:HP K mg fA fD "factors_of_each" CG 19
 j20:HP K mg fA fD "numbers_behind" C4 20
 j21:HP K mg fA fD "sum_guess" Hc 21
 j22:HQ K fA fD "make_guess" "SumAsker.make_guess" BA 22 (Meth K ag "make_guess")
 j23:HP K mg fA fD "product" KQ 23
 j24:HP K mg fA fD "first_other_worth" B3 24
 j25:HQ K fA fD "wrong_word" "SumAsker.wrong_word" BB 25 (Meth K ag "wrong_word")
 j26:HQ K fA fD "look_at_guess" "Hunt.look_at_guess" BO 26 (Meth K ag "look_at_guess")
 j27:HQ K fA fD "look_at_words" "SumAsker.look_at_words" Bi 27 (Meth K ag "look_at_words")
 j28:HQ K fA fD "told" "Book.told" Hd 28 (Meth K aj "told")
 j29:HQ K fA fD "ask_for" "Hunt.ask_for" Ed 29 (Meth K ag "ask_for")
 j30:HP K mg fA fD "made_of" KR 30
 j31:HP K mg fA fD "stepped" KS 31
 j32:HP K mg fA fD "rows_along" FL 32
 j33:HP K mg fA fD "halved_sums" ER 33
 j34:HP K mg fA fD "new_access" FN 34
 j35:HP K mg fA fD "rows_of" KU 35
 j36:HP K mg fA fD "cells" Ou 36
 j37:HQ K fA fD "take_in" "SumAsker.take_in" Cj 37 (Meth K ag "take_in")
 j38:HQ K fA fD "halve" "SumAsker.halve" C5 38 (Meth K ag "halve")
 j39:HQ K fA fD "next_wish" "Hunt.next_wish" C6 39 (Meth K ag "next_wish")
 j40:HQ K fA fD "go_on" "Turns.go_on" ES 40 (Meth K ag "go_on")
 j41:HQ K fA fD "keep_answer" "Hunt.keep_answer" Ck 41 (Meth K ag "keep_answer")
 j42:HQ K fA fD "hear" "SumAsker.hear" DD 42 (Meth K ag "hear")
 j43:HP K mg fA fD "_law_told_kind" C7 43
 j44:HP K mg fA fD "_law_hears" FO 44
 j45:HQ K fA fD "agree" "Hunt.agree" FP 45 (Meth K ag "agree")
 j46:HP K mg fA fD "_law_agrees" ET 46
 j47:HP K mg fA fD "row_behind" FQ 47
 j48:HP K mg fA fD "worth" Ov 48
 j49:HQ K fA fD "answer" "SumAsker.answer" CH 49 (Meth K ag "answer")
 j50:HQ K fA fD "keep_objection" "Hunt.keep_objection" BC 50 (Meth K ag "keep_objection")
 j51:HQ K fA fD "differ" "SumAsker.differ" CI 51 (Meth K ag "differ")
 j52:HP K mg fA fD "_law_differs" Ee 52
 j53:HQ K fA fD "__init__" "Turns.__init__" FT 53 (CMeth K cA "__init__")
 j54:HQ K fA fD "__init__" "Hunt.__init__" Hg 54 (CMeth K cB "__init__")
 j55:HQ K fA fD "__init__" "Book.__init__" Hj 55 (CMeth K cz "__init__")
 j56:HQ K fA fD "__init__" "SumBook.__init__" Ef 56 (Mk K aj)
 j57:HQ K fA fD "__init__" "SumAsker.__init__" DE 57 (Mk K ag)
 j58:HQ K fA fD "heard" "Hunt.heard" FU 58 (Meth K ag "heard")
 j59:HP K mg fA fD "_law_number" EU 59
 j60:HP K mg fA fD "_law_times" FV 60
 j61:HP K mg fA fD "_law_step" Hk 61
 j62:HP K mg fA fD "_law_behind" EV 62
 j63:HP K mg fA fD "_law_worth" FX 63
 j64:HP K mg fA fD "_law_word" Hl 64
 j65:HP K mg fA fD "_law_new_word" DF 65
 j66:HP K mg fA fD "_law_deed" Hm 66
 j67:HP K mg fA fD "_law_driven" EW 67
 j68:HQ K fA fD "access" "Hunt.access" EX 68 (Meth K ag "access")
 j69:HQ K fA fD "tellers" "Hunt.tellers" Eh 69 (Meth K ag "tellers")
 j70:HP K mg fA fD "_law_all" IZ 70
 j71:HP K mg fA fD "_law_goes_on" Ei 71
 j72:HP K mg fA fD "_law_show_refuses" B4 72
 j73:HP K mg fA fD "law" Wt 73
section
variable {P:Program} {w:World} {K:α3} {mg:Str->α5} {base:Heap}
variable {aP au av bV aw ay ax cz cA cB aj ag:Addr} {fA:Nat->Addr} {fD:Nat->α6} (EE:En P w K mg base aP au av bV aw ay ax cz cA cB aj ag fA fD)
noncomputable def Qa (K:α3):Sp:=fun vs H Q _=>∃(L:Int) (a:Addr) (ws:α2),vs=[.int L,.ref a]/\SqT K H a (ws.map V.int)/\ws.length<=1000/\∀H',Same H H'->Q (.bl (isW L ws)) H'
def Qb:⋯ EE.j4 1 ["letters","word"] (Qa K):=by
 delta EE.j4 P6
 ·obtain⟨L,a,ws,rfl,_⟩:=h;rfl
 ·obtain⟨L,a,ws,rfl,hw,hz,k⟩:=h;have hl:=Al;refine⟨_,(Ae (Am (AK (Ta rfl) rfl EE.all rC (Aa (BN rfl (BL rfl) (cp:=KZ) ⟨⟨rfl,rfl⟩,nL⟩ (MW (pvD 1)) (fun _ _ _ _=>(Aq (i:=0) Lr rfl (nM rfl))) (fun _ _ _ _=>By) (fun _ _ _ _=>(ON W7 QD Ai (pvD 0) (pvD 1)))) Ad)))),?_⟩;nofun;refine⟨⟨_,hw⟩,Md (af:=[some (.int L)]) (fun x=>match x with | .int n=>.bl (inW L n)|_=>.non) rfl hw (by rw[ja_];lia) (fun x hx R hR=>?_) (fun D hD=>?_)⟩
  ·obtain⟨n,_,rfl⟩:=HD hx;nofun;by_cases h0:0<=n
   ·simp only[h0,zZ_];simpa [inW,h0] using hR
   ·simp only[h0,xH_];simpa [inW,h0] using hR
  ·refine⟨D,rfl,ws.map (inW L),.inl (.inl ?_),?_⟩
   ·rw[Ab,jK_,jK_];rfl
   ·have:=k _ (Same.new hD (o:=.lst ((ws.map V.int).map fun x=>match x with | .int n=>.bl (inW L n)|_=>.non)));simpa [isW,p4] using this
noncomputable def TL (K:α3)(BW:Addr):Sp:=fun vs H Q E=>∃(L:Int) (a:Addr) (ws:α2),vs=[.int L,.ref a]/\SqT K H a (ws.map V.int)/\ws.length<=1000/\(isW L ws=true->∀H',Same H H'->Q .non H')/\(isW L ws=false->∀H',Same H H'->E (.ref BW) none H')
def HY:CalH P w mg base (CXe P w) EE.j5 2 ["letters","word"] (TL K au):=by
 refine HG.okE EE.j5 Ml (fun vs H Q E h=>?_) (fun ao A outer s H vs Q E hr h=>?_)
 ·obtain⟨L,a,ws,rfl,_⟩:=h;rfl
 ·obtain⟨L,a,ws,rfl,hw,hz,k,kE⟩:=h;have hl:=Al;refine⟨_,(Ae (AZ (OK (ptB (Fv (Af (Qb EE) hr.d An (Aa (pvD 0) (Aa (pvD 1) Ad))))))
   (Ae (Gq EE.m_j5 EE.x_j5 rfl rfl (Aa AA Ad)))
   Au)),?_⟩
  nofun;refine⟨L,a,ws,rfl,hw,hz,fun H' s'=>?_⟩;nofun;cases hv:isW L ws with
  |true=>
   simp only[ra,xg_,xH_];exact k hv H' s'
  |false=>
   simp only[Bool.not_false,zZ_];exact⟨by lia,kE hv H' s'⟩
noncomputable def dotW (xs ys:α2):Int:=(nP (fun x y=>x*y) xs ys).sum
noncomputable def colW (ae:α1)(c:Nat):α2:=ae.map fun r=>r.getD c 0
noncomputable def Fu (K:α3)(H:Hp)(xs:List V)(ae:α1):Prop:=xs.length=ae.length/\∀(i:Nat) (r:α2),ae[i]?=some r->∃t,xs[i]?=some (.ref t)/\SqT K H t (r.map V.int)
def Fu.mono {K:α3} (h:Fu K H xs ae)(s:Same H H'):Fu K H' xs ae:=by
 refine⟨h.1,fun i r hi=>?_⟩;obtain⟨t,a,b⟩:=h.2 i r hi;exact⟨t,a,s.seqT b⟩
def Fu.nil {K:α3} : Fu K H [] []:=⟨rfl,fun i r h=>by simp at h⟩
def Fu.snoc {K:α3} (h:Fu K H xs ae)(g:SqT K H t (r.map V.int)):Fu K H (xs++[.ref t]) (ae++[r]):=by
 refine⟨by simp[h.1],fun i v hi=>?_⟩;by_cases hl:i<ae.length
 ·rw[jw_ hl]at hi;rw[jw_ (by rw[h.1];exact hl)];exact h.2 i v hi
 ·have:=(je_.mp hi).1;rw[ju_,jU_]at this;have e:i=ae.length:=by lia
  subst e;rw[jy_ (jf_ _),qL_]at hi;simp at hi;subst hi;exact⟨t,by rw[<-h.1];simp,g⟩
noncomputable def Jc (p:Int)(ae:α1)(am:α2)(n:Nat):α2:=(nJ n).map fun c=>dotW am (colW ae c)%p
def Yh (ae:α1)(c:Nat):(nJ ae.length).map (fun i=>V.int ((ae.getD i []).getD c 0))=(colW ae c).map V.int:=by
 refine q7_ (by simp[colW]) fun i h1 h2=>?_;have hi:i<ae.length:=by simpa using h1
 simp[colW,jb_,hi]
def Yi (am:α2)(ae:α1)(c:Nat)(h:am.length=ae.length):(nJ ae.length).map (fun k=>am.getD k 0*(ae.getD k []).getD c 0)=nP (fun x y=>x*y) am (colW ae c):=by
 refine q7_ (by simp[colW,h]) fun i h1 h2=>?_;have hi:i<ae.length:=by simpa using h1
 have jj:i<am.length:=by lia
 simp[colW,jb_,hi,jj]
def Mv {r:α2}{c:Nat}(h:c<r.length):atI (r.map V.int) (c:Int)=some (.int (r.getD c 0)):=by
 refine EH ?_;rw[jh_,jc_ h,jb_,jc_ h];rfl
def LM (xs:List V)(m:Nat):cutV xs none (some (m:Int))=xs.take m:=by
 unfold cutV;rw[HT.sIx_nat,HT.sIx_none,q2_,zx_,pb];lia
def Qc (xs:List V)(m:Nat):cutV xs (some (m:Int)) none=xs.drop m:=by
 unfold cutV;rw[HT.sIx_nat,HT.sIx_none];rcases ro m xs.length with h|h
 ·rw[oX h];exact qO_ (by rw[qj_];exact jf_ _)
 ·rw[oH h,zm_ h,qM_,pM]
def Bt (ys:α2):dotW [] ys=0:=by unfold dotW;simp
def DZ (xs:α2):dotW xs []=0:=by unfold dotW;simp
def AU (x y:Int)(xs ys:α2):dotW (x::xs) (y::ys)=x*y+dotW xs ys:=by unfold dotW;simp
def Be:∀xs ys:α2,dotW xs ys=dotW ys xs
 |[],ys=>by rw[Bt,DZ]
 |x::xs,[]=>by rw[Bt,DZ]
 |x::xs,y::ys=>by rw[AU,AU,Be xs ys,x4_]
def K4:∀(xs ys us vs:α2),xs.length=us.length->dotW (xs++ys) (us++vs)=dotW xs us+dotW ys vs
 |[],ys,us,vs,h=>by
  have:us=[]:=jN_.mp (by simpa using h.symm);subst this;simp[Bt]
 |x::xs,ys,u::us,vs,h=>by
  rw[xQ_,xQ_,AU,AU,K4 xs ys us vs (by simpa using h)];lia
 |x::xs,ys,[],vs,h=>by simp at h
def D0 (n:Nat):∀xs:α2,dotW xs (nI n 0)=0:=by
 induction n with
 |zero=>intro xs;rw[List.replicate_zero,DZ]
 |succ n ih=>
  intro xs;cases xs with
  |nil=>rw[Bt]
  |cons x xs=>rw[qD_,AU,ih];lia
def CY (a:Int):∀xs ys:α2,dotW (xs.map (a * ·)) ys=a*dotW xs ys
 |[],ys=>by rw[xB_,Bt];lia
 |x::xs,[]=>by rw[DZ,DZ];lia
 |x::xs,y::ys=>by rw[jP_,AU,AU,CY a xs ys,z1_,zg_]
noncomputable def cg (p:Int)(xs ys:α2):Prop:=xs.map (· % p)=ys.map (· % p)
def cg.len (h:cg p xs ys):xs.length=ys.length:=by
 have:=qY_ oh h;simpa using this
def cg.refl (p:Int)(xs:α2):cg p xs xs:=rfl
def cg.dot {p:Int}:∀{xs gT ys ys':α2},cg p xs gT->cg p ys ys'->dotW xs ys%p=dotW gT ys'%p
 |[],[],ys,ys',_,_=>by rw[Bt,Bt]
 |[],x::gT,ys,ys',h,_=>by have:=h.len;simp at this
 |x::xs,[],ys,ys',h,_=>by have:=h.len;simp at this
 |x::xs,x'::gT,[],[],_,_=>by rw[DZ,DZ]
 |x::xs,x'::gT,[],y::ys',_,h=>by have:=h.len;simp at this
 |x::xs,x'::gT,y::ys,[],_,h=>by have:=h.len;simp at this
 |x::xs,x'::gT,y::ys,y'::ys',h,g=>by
  obtain⟨h1,h2⟩:=List.cons.inj h;obtain⟨g1,g2⟩:=List.cons.inj g;have h1:x%p=x'%p:=h1;have g1:y%p=y'%p:=g1;rw[AU,AU,qA_,qf_,h1,g1,cg.dot (xs:=xs) (ys:=ys) h2 g2,<-qf_,<-qA_]
def cg.map {p:Int}{α:Type}{f g:α->Int}{l:List α}(h:∀a∈l,f a%p=g a%p):cg p (l.map f) (l.map g):=by
 unfold cg;rw[jK_,jK_];exact jH_ h
def cg.getD (h:cg p xs ys)(c:Nat):xs.getD c 0%p=ys.getD c 0%p:=by
 have hl:=h.len;by_cases hc:c<xs.length
 ·have e:=qY_ (fun l:α2=>l[c]?) h;rw[jh_,jh_,jc_ hc,jc_ s!""]at e;rw[jb_,jb_,jc_ hc,jc_ s!""];exact jt_ e
 ·rw[jb_,jb_,jF_ s!"",jF_ s!""]
def K5:∀(u v w:α2),u.length=v.length->dotW (nP (· + ·) u v) w=dotW u w+dotW v w
 |[],[],w,_=>by simp[Bt]
 |[],y::v,w,h=>by simp at h
 |x::u,[],w,h=>by simp at h
 |x::u,y::v,[],_=>by simp[DZ]
 |x::u,y::v,z::w,h=>by
  rw[List.zipWith_cons_cons,AU,AU,AU,K5 u v w (by simpa using h),Int.add_mul];lia
def Pg {d:Nat}{col:α2}(hc:col.length=d):∀(tb:α1) (row:α2),(∀r∈tb,r.length=d)->row.length=tb.length->dotW ((nJ d).map fun c=>dotW row (colW tb c)) col=dotW row (tb.map fun r=>dotW col r)
 |[],row,_,h=>by
  have:row=[]:=jN_.mp (by simpa using h);subst this;rw[Bt];have e:((nJ d).map fun c=>dotW [] (colW [] c))=nI d 0:=by
   refine qF_ fun i=>?_;by_cases hi:i<d
   ·rw[jh_,q5_ hi,za_,if_pos hi];rfl
   ·rw[jF_ (by simp;lia),jF_ (by simp;lia)]
  rw[e,Be,D0]
 |r::tb,[],_,h=>by simp at h
 |r::tb,x::row,hd,h=>by
  have ih:=Pg hc tb row (fun s hs=>hd s (jp_ _ hs)) (by simpa using h);have hr:=hd r (jA_ ..);have e:((nJ d).map fun c=>dotW (x::row) (colW (r::tb) c))=nP (· + ·) (r.map (x * ·)) ((nJ d).map fun c=>dotW row (colW tb c)):=by
   refine qF_ fun i=>?_;rw[xh_];by_cases hi:i<d
   ·rw[jh_,q5_ hi,jh_,jh_,q5_ hi,jc_ (show i<r.length by lia)];show some (dotW (x::row) (r.getD i 0::colW tb i))=some (x*r[i]+dotW row (colW tb i));rw[AU,jb_,jc_ (show i<r.length by lia)];rfl
   ·rw[jF_ (by simp;lia),jF_ (show (r.map (x * ·)).length<=i by simp;lia)]
  rw[e,K5 _ _ _ (by simp[hr]),CY,ih,jP_,AU,Be r col]
def LN {α:Type}(z:α)(r:List α):(nJ r.length).map (fun i=>r.getD i z)=r:=by
 refine q7_ (by simp) fun i h1 h2=>?_;simp[jb_,h2]
noncomputable def Span (p:Int)(n:Nat)(S:α1)(v:Nat->Int):Prop:=∃cs:α2,cs.length=S.length/\∀i:Nat,i<n->v i%p=dotW cs (colW S i)%p
def Mw (S:α1)(i:Nat):(colW S i).length=S.length:=by unfold colW;rw[ja_]
def Span.congr (h:Span p n S v)(e:∀i:Nat,i<n->u i%p=v i%p):Span p n S u:=by
 obtain⟨cs,a,b⟩:=h;exact⟨cs,a,fun i hi=>(e i hi).trans (b i hi)⟩
def Span.zero : Span p n S fun _=>0:=
 ⟨nI S.length 0,xb_,fun i _=>by rw[Be,D0]⟩
def Span.add (h:Span p n S v)(g:Span p n S u):Span p n S fun i=>v i+u i:=by
 obtain⟨cs,a,b⟩:=h;obtain⟨ds,a',b'⟩:=g;refine⟨nP (· + ·) cs ds,by rw[xY_,a,a',oJ],fun i hi=>?_⟩;rw[K5 _ _ _ (by rw[a,a']),qA_,b i hi,b' i hi,<-qA_]
def Span.smul (c:Int)(h:Span p n S v):Span p n S fun i=>c*v i:=by
 obtain⟨cs,a,b⟩:=h;refine⟨cs.map (c * ·),by rw[ja_,a],fun i hi=>?_⟩;rw[CY,qf_,b i hi,<-qf_]
def Span.app (h:Span p n S v)(T:α1):Span p n (S++T) v:=by
 obtain⟨cs,a,b⟩:=h;refine⟨cs++nI T.length 0,by rw[ju_,ju_,xb_,a],fun i hi=>?_⟩;unfold colW at *;rw[jj_,K4 _ _ _ _ (by rw[ja_,a]),Be (nI _ _),D0,p9];exact b i hi
def Span.last (S:α1)(r:α2):Span p n (S++[r]) fun i=>r.getD i 0:=by
 refine⟨nI S.length 0++[1],by simp,fun i _=>?_⟩;unfold colW;rw[jj_,K4 _ _ _ _ (by rw[ja_,xb_]),Be (nI _ _),D0];show _=(0+dotW [1] [r.getD i 0])%p;rw[AU,Bt]
 congr 1
 show r.getD i 0=0+(1*r.getD i 0+0);lia
def Span.mem (h:r∈S):Span p n S fun i=>r.getD i 0:=by
 obtain⟨A,B,rfl⟩:=List.append_of_mem h;rw[show A++r::B=(A++[r])++B by simp];exact (Span.last A r).app B
def Span.comb {p:Int}{n:Nat}{S:α1}:∀{T:α1} (cs:α2),(∀r∈T,Span p n S fun i=>r.getD i 0)->cs.length=T.length->Span p n S fun i=>dotW cs (colW T i)
 |[],cs,_,h=>by
  have:cs=[]:=jN_.mp h;subst this;exact Span.zero.congr fun i _=>by rw[Bt]
 |r::T,[],_,h=>by simp at h
 |r::T,c::cs,hT,h=>by
  have ih:=Span.comb (T:=T) cs (fun s hs=>hT s (jp_ _ hs)) (by simpa using h);refine (((hT r (jA_ ..)).smul c).add ih).congr fun i _=>?_;show dotW (c::cs) (r.getD i 0::colW T i)%p=_;rw[AU]
def Span.trans (h:Span p n T v)(hT:∀r∈T,Span p n S fun i=>r.getD i 0):Span p n S v:=by
 obtain⟨cs,a,b⟩:=h;exact (Span.comb cs hT a).congr b
noncomputable def cof (bs:List (Nat×α2))(row:α2):α2:=bs.map fun x=>row.getD x.1 0
noncomputable def basR (bs:List (Nat×α2)):α1:=bs.map (·.2)
structure Bs (p:Int)(n:Nat)(bs:List (Nat×α2)):Prop where
 len:∀x∈bs,x.2.length=n/\x.1<n/\∀y∈x.2,0<=y/\y<p
 own:∀x∈bs,x.2.getD x.1 0=1
 off:bs.Pairwise fun x y=>x.2.getD y.1 0=0/\y.2.getD x.1 0=0
noncomputable def EY (p:Int)(left:α2)(x:Nat×α2):α2:=if left.getD x.1 0=0 then left else nP (fun a b=>(a+b)%p) left (x.2.map fun y => -left.getD x.1 0*y%p)
noncomputable def Aw (p:Int)(bs:List (Nat×α2))(row:α2):α2:=bs.foldl (EY p) (row.map (· % p))
def TM {f:Int->Int->Int}(f0:f 0 0=0){xs ys:α2}(h:xs.length=ys.length)(i:Nat):(nP f xs ys).getD i 0=f (xs.getD i 0) (ys.getD i 0):=by
 rw[jb_,jb_,jb_,xh_];by_cases hi:i<xs.length
 ·rw[jc_ hi,jc_ (show i<ys.length by lia)];rfl
 ·rw[jF_ s!"",jF_ s!""];exact f0.symm
def HZ {f:Int->Int}(f0:f 0=0)(xs:α2)(i:Nat):(xs.map f).getD i 0=f (xs.getD i 0):=by
 rw[jb_,jb_,jh_];cases xs[i]? with
 |none=>exact f0.symm
 |some x=>rfl
def My (hl:left.length=n)(hx:x.2.length=n)(i:Nat):(EY p left x).length=n/\(EY p left x).getD i 0%p=(left.getD i 0-left.getD x.1 0*x.2.getD i 0)%p:=by
 unfold EY;split
 ·rename_i h0
  exact⟨hl,by rw[h0];congr 1;lia⟩
 ·refine⟨by rw[xY_,ja_];lia,?_⟩;rw[TM (by simp) (by rw[ja_];lia),HZ (by simp),jM_ _ (qg_ p),qA_,jM_ _ (qg_ p),<-qA_]
  congr 1
  rw[qr];lia
def Ia (xs ys:α2)(h:xs.length=ys.length)(x y:Int):dotW (xs++[x]) (ys++[y])=dotW xs ys+x*y:=by
 rw[K4 _ _ _ _ h,AU,Bt];lia
def CJ (row:α2)(hr:row.length=n):∀(bs:List (Nat×α2)),Bs p n bs->(Aw p bs row).length=n/\∀i:Nat,(Aw p bs row).getD i 0%p=(row.getD i 0-dotW (cof bs row) (colW (basR bs) i))%p:=by
 intro bs;generalize hk:bs.length=k
 induction k generalizing bs with
 |zero=>
  intro _;have:bs=[]:=jN_.mp hk;subst this;refine⟨by unfold Aw;simp[hr],fun i=>?_⟩;show (row.map (· % p)).getD i 0%p=(row.getD i 0-dotW [] _)%p;rw[HZ (by simp),jM_ _ (qg_ p),Bt]
  congr 1;lia
 |succ k ih=>
  intro hB;obtain⟨P,x,rfl⟩:∃P x,bs=P++[x]:=⟨bs.dropLast,bs.getLast (by intro e;subst e;simp at hk),(qp_ _).symm⟩;have hP:Bs p n P:=⟨fun y hy=>hB.len y (j5_ _ hy),fun y hy=>hB.own y (j5_ _ hy),(xO_.mp hB.off).1⟩;obtain⟨l1,l2⟩:=ih P (by simp at hk;lia) hP;have hx:=hB.len x (by simp);have cC:∀y∈P,y.2.getD x.1 0=0:=fun y hy=>((xO_.mp hB.off).2.2 y hy x (by simp)).1;have e:Aw p (P++[x]) row=EY p (Aw p P row) x:=by unfold Aw;rw[qH_];rfl
  rw[e];refine⟨(My l1 hx.1 0).1,fun i=>?_⟩;have hz:dotW (cof P row) (colW (basR P) x.1)=0:=by
   have:colW (basR P) x.1=nI P.length 0:=by
    refine zy_.mpr ⟨by unfold colW basR;simp,fun z hz=>?_⟩;unfold colW basR at hz;rw[jK_]at hz;obtain⟨y,hy,rfl⟩:=jv_.mp hz;exact cC y hy
   rw[this,D0]
  have hq:=l2 x.1;rw[hz,rp]at hq;have e2:dotW (cof (P++[x]) row) (colW (basR (P++[x])) i)=dotW (cof P row) (colW (basR P) i)+row.getD x.1 0*x.2.getD i 0:=by
   unfold cof colW basR;rw[jj_,jj_,jj_];exact Ia _ _ (by simp) _ _
  rw[(My l1 hx.1 i).2,e2,zT_,l2 i,qf_,hq,<-qf_,<-zT_]
  congr 1
  lia
def F2 (hp:0<p)(row:α2)(bs:List (Nat×α2)):∀y∈Aw p bs row,0<=y/\y<p:=by
 have key:∀(bs:List (Nat×α2)) (l:α2),(∀y∈l,0<=y/\y<p)->∀y∈bs.foldl (EY p) l,0<=y/\y<p:=fun bs=>by
  induction bs with
  |nil=>exact fun l h=>h
  |cons x bs ih=>
   intro l h;refine ih (EY p l x) ?_;unfold EY;split
   ·exact h
   ·intro y hy;obtain⟨i,hi⟩:=j1_.mp hy;rw[xh_]at hi;split at hi
    ·cases hi;exact⟨jC_ _ s!"",jx_ _ hp⟩
    ·cases hi
 refine key bs _ fun y hy=>?_;obtain⟨z,_,rfl⟩:=jv_.mp hy;exact⟨jC_ _ s!"",jx_ _ hp⟩
def getD_in {p:Int}(hp:0<p){l:α2}(h:∀y∈l,0<=y/\y<p)(i:Nat):0<=l.getD i 0/\l.getD i 0<p:=by
 rw[jb_];cases e:l[i]? with
 |none=>exact⟨by simp,by simpa using hp⟩
 |some y=>exact h y (jn_ e)
def R0 {p:Int}{n:Nat}(row:α2):∀{bs:List (Nat×α2)},Bs p n bs->∀x∈bs,dotW (cof bs row) (colW (basR bs) x.1)=row.getD x.1 0
 |[],_,x,hx=>by simp at hx
 |y::bs,hB,x,hx=>by
  have cC:=List.pairwise_cons.mp hB.off;have hT:Bs p n bs:=⟨fun z hz=>hB.len z (jp_ _ hz),fun z hz=>hB.own z (jp_ _ hz),cC.2⟩;show dotW (row.getD y.1 0::cof bs row) (y.2.getD x.1 0::colW (basR bs) x.1)=_;rw[AU];rcases jD_.mp hx with rfl|hx
  ·have:colW (basR bs) x.1=nI bs.length 0:=by
    refine zy_.mpr ⟨by unfold colW basR;simp,fun z hz=>?_⟩;unfold colW basR at hz;rw[jK_]at hz;obtain⟨y,hy,rfl⟩:=jv_.mp hz;exact (cC.1 y hy).2
   rw[this,D0,hB.own x (jA_ ..)];lia
  ·rw[(cC.1 x hx).1,R0 row hT x hx];lia
def Ph (hp:0<p) (hr:row.length=n) (hB:Bs p n bs):∀x∈bs,(Aw p bs row).getD x.1 0=0:=fun x hx=>by
 have h:=(CJ row hr bs hB).2 x.1;rw[R0 row hB x hx,qa]at h;have:=getD_in hp (F2 hp row bs) x.1;rw[j0_ this.1 this.2]at h;simpa using h
noncomputable def Nt (p inv:Int)(bs:List (Nat×α2))(left:α2)(q:Nat):List (Nat×α2):=
 let base:=left.map fun y=>inv*y%p
 (bs.map fun x=>(x.1,Aw p [(q,base)] x.2))++[(q,base)]
def TN (hp:2<=p) (hB:Bs p n bs) (hl:left.length=n)(bz:∀y∈left,0<=y/\y<p)(h0:∀x∈bs,left.getD x.1 0=0) (hq:q<n)(hi:inv*left.getD q 0%p=1):Bs p n (Nt p inv bs left q):=by
 obtain⟨base,hb⟩:∃base:α2,base=left.map fun y=>inv*y%p:=⟨_,rfl⟩;have dj:base.length=n:=by rw[hb,ja_,hl]
 have hbin:∀y∈base,0<=y/\y<p:=fun y hy=>by
  rw[hb]at hy;obtain⟨z,_,rfl⟩:=jv_.mp hy;exact⟨jC_ _ s!"",jx_ _ s!""⟩
 have eM:∀i,base.getD i 0=inv*left.getD i 0%p:=fun i=>by rw[hb,HZ (by simp)]
 have mD:base.getD q 0=1:=by rw[eM,hi]
 have gU:∀x∈bs,base.getD x.1 0=0:=fun x hx=>by rw[eM,h0 x hx];simp
 have h1:Bs p n [(q,base)]:=⟨fun x hx=>by rw[ji_.mp hx];exact⟨dj,hq,hbin⟩,fun x hx=>by rw[ji_.mp hx];exact mD,xr_ ..⟩;have eN:∀x∈bs,∀i,(Aw p [(q,base)] x.2).getD i 0=(x.2.getD i 0-x.2.getD q 0*base.getD i 0)%p:=fun x hx i=>by
  have:=(CJ x.2 (hB.len x hx).1 _ h1).2 i;have g:=getD_in s!"" (F2 (p:=p) s!"" x.2 [(q,base)]) i;rw[j0_ g.1 g.2]at this;rw[this]
  congr 2
  show dotW [x.2.getD q 0] [base.getD i 0]=_;rw[AU,Bt];lia
 have dM:∀x∈bs,∀i,base.getD i 0=0->(Aw p [(q,base)] x.2).getD i 0=x.2.getD i 0:=fun x hx i h=>by
  rw[eN x hx i,h,Int.mul_zero,rp];have g:=getD_in s!"" (hB.len x hx).2.2 i;exact j0_ g.1 g.2
 show Bs p n ((bs.map fun x=>(x.1,Aw p [(q,left.map fun y=>inv*y%p)] x.2))++[(q,left.map fun y=>inv*y%p)]);rw[<-hb];refine⟨fun x hx=>?_,fun x hx=>?_,?_⟩
 ·rcases jJ_.mp hx with hx|hx
  ·obtain⟨y,hy,rfl⟩:=jv_.mp hx;exact⟨(CJ y.2 (hB.len y hy).1 _ h1).1,(hB.len y hy).2.1,F2 s!"" _ _⟩
  ·rw[ji_.mp hx];exact⟨dj,hq,hbin⟩
 ·rcases jJ_.mp hx with hx|hx
  ·obtain⟨y,hy,rfl⟩:=jv_.mp hx;show (Aw p [(q,base)] y.2).getD y.1 0=1;rw[dM y hy _ (gU y hy)];exact hB.own y hy
  ·rw[ji_.mp hx];exact mD
 ·refine xO_.mpr ⟨?_,xr_ ..,fun x hx y hy=>?_⟩
  ·refine zr_.mpr ((zz_.mp hB.off).imp fun {x y} h=>?_);obtain⟨hx,hy,h⟩:=h;exact⟨by show (Aw p [(q,base)] x.2).getD y.1 0=0;rw[dM x hx _ (gU y hy)];exact h.1,by show (Aw p [(q,base)] y.2).getD x.1 0=0;rw[dM y hy _ (gU x hx)];exact h.2⟩
  ·obtain⟨z,hz,rfl⟩:=jv_.mp hx;rw[ji_.mp hy];refine⟨?_,gU z hz⟩;show (Aw p [(q,base)] z.2).getD q 0=0;rw[eN z hz,mD,zY_,qa];simp
def Vq {p:Int}{n:Nat}:∀{bs:List (Nat×α2)} (cs:α2),Bs p n bs->cs.length=bs.length->bs.map (fun x=>dotW cs (colW (basR bs) x.1))=cs
 |[],cs,_,h=>by
  have:cs=[]:=jN_.mp h;subst this;rfl
 |y::bs,[],_,h=>by simp at h
 |y::bs,c::cs,hB,h=>by
  have cC:=List.pairwise_cons.mp hB.off;have hT:Bs p n bs:=⟨fun z hz=>hB.len z (jp_ _ hz),fun z hz=>hB.own z (jp_ _ hz),cC.2⟩;have ih:=Vq cs hT (by simpa using h);have z0:colW (basR bs) y.1=nI bs.length 0:=by
   refine zy_.mpr ⟨by unfold colW basR;simp,fun z hz=>?_⟩;unfold colW basR at hz;rw[jK_]at hz;obtain⟨x,hx,rfl⟩:=jv_.mp hz;exact (cC.1 x hx).2
  have e:∀i,dotW (c::cs) (colW (basR (y::bs)) i)=c*y.2.getD i 0+dotW cs (colW (basR bs) i):=fun i=>by
   show dotW (c::cs) (y.2.getD i 0::colW (basR bs) i)=_;rw[AU]
  rw[jP_,e,z0,D0,hB.own y (jA_ ..)]
  congr 1
  ·lia
  ·refine (jH_ fun x hx=>?_).trans ih;rw[e,(cC.1 x hx).1];lia
def R1 (hp:0<p) (hr:row.length=n) (hB:Bs p n bs)(hm:∀x∈bs,x.1<m)(h:Span p m (basR bs) fun i=>row.getD i 0):∀i:Nat,i<m->(Aw p bs row).getD i 0=0:=fun i hi=>by
 obtain⟨cs,a,b⟩:=h;have a':cs.length=bs.length:=by rw[a];unfold basR;rw[ja_]
 have e:cg p (cof bs row) cs:=by
  rw[<-Vq cs hB a'];unfold cof;exact cg.map fun x hx=>b x.1 (hm x hx)
 have h1:=(CJ row hr bs hB).2 i;rw[zT_,cg.dot e (cg.refl p (colW (basR bs) i)),<-b i hi,<-zT_,qa]at h1;have g:=getD_in hp (F2 hp row bs) i;rw[j0_ g.1 g.2]at h1;simpa using h1
def Nu (hr:row.length=n) (hB:Bs p n bs)(h:∀i:Nat,i<m->(Aw p bs row).getD i 0=0):Span p m (basR bs) fun i=>row.getD i 0:=by
 refine⟨cof bs row,by unfold cof basR;simp,fun i hi=>?_⟩;have h1:=(CJ row hr bs hB).2 i;rw[h i hi]at h1;have:=jM_ (row.getD i 0-dotW (cof bs row) (colW (basR bs) i)) (qg_ p);exact jB_.mpr (by rw[<-h1];simp)
structure Seen (p:Int)(n m:Nat)(seen:α1)(bs:List (Nat×α2)):Prop where
 b:Bs p n bs
 lt:∀x∈bs,x.1<m
 made:∀x∈bs,Span p n seen fun i=>x.2.getD i 0
 kept:∀r∈seen,r.length=n/\Span p m (basR bs) fun i=>r.getD i 0
def R3 (hr:row.length=n) (hB:Bs p n bs){seen:α1}(h:∀x∈bs,Span p n seen fun i=>x.2.getD i 0):Span p n (seen++[row]) fun i=>(Aw p bs row).getD i 0:=by
 have h1:Span p n (seen++[row]) fun i=>dotW (cof bs row) (colW (basR bs) i):=Span.comb _ (fun r iL=>by
  obtain⟨x,hx,rfl⟩:=jv_.mp iL;exact (h x hx).app [row]) (by unfold cof basR;simp)
 refine ((Span.last seen row).add (h1.smul (-1))).congr fun i _=>?_;rw[(CJ row hr bs hB).2 i]
 congr 1
 show _=row.getD i 0 + -1*dotW (cof bs row) (colW (basR bs) i);lia
def Seen.same {seen:α1} (S:Seen p n m seen bs) (hr:row.length=n)(h:∀i:Nat,i<m->(Aw p bs row).getD i 0=0):Seen p n m (seen++[row]) bs:=
 ⟨S.b,S.lt,fun x hx=>(S.made x hx).app [row],fun r iL=>by
  rcases jJ_.mp iL with h' | h'
  ·exact S.kept r h'
  ·rw[ji_.mp h'];exact⟨hr,Nu hr S.b h⟩⟩
def Seen.more (hp:2<=p)(gV:m<=n){seen:α1} (S:Seen p n m seen bs) (hr:row.length=n) (hq:q<m)(hi:inv*(Aw p bs row).getD q 0%p=1):Seen p n m (seen++[row]) (Nt p inv bs (Aw p bs row) q):=by
 have hl:=(CJ row hr bs S.b).1;have hB:=TN hp S.b hl (F2 s!"" row bs) (Ph s!"" hr S.b) (show q<n by lia) hi;have dC:=R3 hr S.b S.made;have aZ:=(CJ row hr bs S.b).2;generalize Aw p bs row=left at hl hi hB dC aZ ⊢;obtain⟨base,hb⟩:∃base:α2,base=left.map fun y=>inv*y%p:=⟨_,rfl⟩;have ew:Nt p inv bs left q=(bs.map fun x=>(x.1,Aw p [(q,base)] x.2))++[(q,base)]:=by rw[hb];rfl
 have eM:∀i,base.getD i 0=inv*left.getD i 0%p:=fun i=>by rw[hb,HZ (by simp)]
 rw[ew]at hB ⊢;have dj:base.length=n:=(hB.len (q,base) (by simp)).1;have h1:Bs p n [(q,base)]:=⟨fun x hx=>by rw[ji_.mp hx];exact hB.len (q,base) (by simp),fun x hx=>by rw[ji_.mp hx];exact hB.own (q,base) (by simp),xr_ ..⟩;have eN:∀x∈bs,∀i,(Aw p [(q,base)] x.2).getD i 0%p=(x.2.getD i 0-x.2.getD q 0*base.getD i 0)%p:=fun x hx i=>by
  rw[(CJ x.2 (S.b.len x hx).1 _ h1).2 i]
  congr 2
  show dotW [x.2.getD q 0] [base.getD i 0]=_;rw[AU,Bt];lia
 have aO:Span p n (seen++[row]) fun i=>base.getD i 0:=(dC.smul inv).congr fun i _=>by
  rw[eM,jM_ _ (qg_ p)]
 have hbn:base∈basR ((bs.map fun x=>(x.1,Aw p [(q,base)] x.2))++[(q,base)]):=by unfold basR;simp
 have hnb:∀x∈bs,Aw p [(q,base)] x.2∈basR ((bs.map fun x=>(x.1,Aw p [(q,base)] x.2))++[(q,base)]):=fun x hx=>by
  unfold basR;rw[jj_,jK_];exact j5_ _ (jv_.mpr ⟨x,hx,rfl⟩)
 have dM:∀r∈basR bs,Span p m (basR ((bs.map fun x=>(x.1,Aw p [(q,base)] x.2))++[(q,base)])) fun i=>r.getD i 0:=fun r iL=>by
  obtain⟨x,hx,rfl⟩:=jv_.mp iL;refine ((Span.mem (hnb x hx)).add ((Span.mem hbn).smul (x.2.getD q 0))).congr fun i _=>?_;show _=((Aw p [(q,base)] x.2).getD i 0+x.2.getD q 0*base.getD i 0)%p;rw[qA_,eN x hx i,<-qA_]
  congr 1
  lia
 refine⟨hB,fun x hx=>?_,fun x hx=>?_,fun r iL=>?_⟩
 ·rcases jJ_.mp hx with hx|hx
  ·obtain⟨y,hy,rfl⟩:=jv_.mp hx;exact S.lt y hy
  ·rw[ji_.mp hx];exact hq
 ·rcases jJ_.mp hx with hx|hx
  ·obtain⟨y,hy,rfl⟩:=jv_.mp hx;refine (((S.made y hy).app [row]).add (aO.smul (-y.2.getD q 0))).congr fun i _=>?_;show (Aw p [(q,base)] y.2).getD i 0%p=(y.2.getD i 0 + -y.2.getD q 0*base.getD i 0)%p;rw[eN y hy i,qr]
   congr 1
  ·rw[ji_.mp hx];exact aO
 ·rcases jJ_.mp iL with h' | h'
  ·exact⟨(S.kept r h').1,(S.kept r h').2.trans dM⟩
  ·rw[ji_.mp h'];refine⟨hr,?_⟩;have h2:Span p m (basR ((bs.map fun x=>(x.1,Aw p [(q,base)] x.2))++[(q,base)])) fun i=>dotW (cof bs row) (colW (basR bs) i):=Span.comb _ dM (by unfold cof basR;simp);refine (h2.add ((Span.mem hbn).smul (left.getD q 0))).congr fun i _=>?_;show row.getD i 0%p=(dotW (cof bs row) (colW (basR bs) i)+left.getD q 0*base.getD i 0)%p;have e3:left.getD q 0*base.getD i 0%p=left.getD i 0%p:=by
    rw[eM,qf_,jM_ _ (qg_ p),<-qf_,show left.getD q 0*(inv*left.getD i 0)=(inv*left.getD q 0)*left.getD i 0 by rw[<-zg_,x4_ (left.getD q 0)],qf_,hi];rw[z0_,jM_ _ (qg_ p)]
   rw[qA_,e3,aZ i,<-qA_]
   congr 1
   lia
noncomputable def Bu (n k:Nat):α2:=(nJ n).map fun i=>if i=k then 1 else 0
def Ib : ∀cs:α2,cs.length=n->dotW cs ((nJ n).map fun i=>if i=k then 1 else 0)=cs.getD k 0:=by
 intro cs hc;have key:∀(m:Nat) (cs:α2),dotW cs ((List.range' m cs.length).map fun i=>if i=k then 1 else 0)=if m<=k then cs.getD (k-m) 0 else 0:=fun m cs=>by
  induction cs generalizing m with
  |nil=>rw[Bt];split<;>simp
  |cons c cs ih=>
   rw[jV_,List.range'_succ,jP_,AU,ih (m+1)];by_cases h1:m=k
   ·subst h1;rw[if_pos rfl,if_neg s!"",if_pos (jf_ _),qL_];show c*1+0=c;lia
   ·rw[if_neg h1];by_cases h2:m+1<=k
    ·rw[if_pos h2,if_pos s!"",show k-m=(k-(m+1))+1 by lia];show c*0+cs.getD (k-(m+1)) 0=cs.getD (k-(m+1)) 0;lia
    ·rw[if_neg h2,if_neg s!""];lia
 have:=key 0 cs;rw[if_pos (j3_ _),zx_,hc,<-List.range_eq_range']at this;exact this
noncomputable def Ba (ae:α1):α1:=(nJ ae.length).map fun k=>ae.getD k []++Bu ae.length k
def Ic {xs ys:α2}{i:Nat}(h:i<xs.length):(xs++ys).getD i 0=xs.getD i 0:=by
 rw[jb_,jw_ h,<-jb_]
def Nv {xs ys:α2}{i:Nat}:(xs++ys).getD (xs.length+i) 0=ys.getD i 0:=by
 rw[jb_,jy_ s!"",show xs.length+i-xs.length=i by lia,<-jb_]
def Wu (hi:i<n):(Bu n k).getD i 0=if i=k then 1 else 0:=by
 unfold Bu;rw[jb_,jh_,q5_ hi];rfl
def Hn (h:∀r∈ae,r.length=m) (hi:i<m):colW (Ba ae) i=colW ae i:=by
 unfold colW Ba;rw[jK_];have:(nJ ae.length).map ((fun r:α2=>r.getD i 0) ∘ fun k=>ae.getD k []++Bu ae.length k)=(nJ ae.length).map fun k=>(ae.getD k []).getD i 0:=by
  refine jH_ fun k hk=>?_;have hk:=qw_.mp hk;have e:ae.getD k []=ae[k]:=by rw[jb_,jc_ hk];rfl
  show (ae.getD k []++Bu ae.length k).getD i 0=_;rw[Ic (by rw[e,h _ (jR_ hk)];exact hi)]
 rw[this];have:ae.map (fun r=>r.getD i 0)=((nJ ae.length).map fun k=>ae.getD k []).map fun r=>r.getD i 0:=by rw[LN]
 rw[this,jK_];rfl
def Oy (h:∀r∈ae,r.length=m) (hj:j<ae.length):colW (Ba ae) (m+j)=Bu ae.length j:=by
 unfold colW Ba;rw[jK_];show (nJ ae.length).map _=(nJ ae.length).map _;refine jH_ fun k hk=>?_;have hk:=qw_.mp hk;have e:ae.getD k []=ae[k]:=by rw[jb_,jc_ hk];rfl
 have hl:(ae.getD k []).length=m:=by rw[e,h _ (jR_ hk)]
 show (ae.getD k []++Bu ae.length k).getD (m+j) 0=if k=j then 1 else 0
 rw[<-hl,Nv,Wu hj];by_cases la:k=j
 ·rw[if_pos la,if_pos la.symm]
 ·rw[if_neg la,if_neg (qn_ la)]
def Oz (h:∀r∈ae,r.length=m) (hv:Span p (m+ae.length) (Ba ae) v):∀i:Nat,i<m->v i%p=dotW ((nJ ae.length).map fun k=>v (m+k)) (colW ae i)%p:=fun i hi=>by
 obtain⟨cs,a,b⟩:=hv;have a':cs.length=ae.length:=by rw[a];unfold Ba;simp
 have e:cg p ((nJ ae.length).map fun k=>v (m+k)) cs:=by
  have:cs=(nJ ae.length).map fun k=>cs.getD k 0:=by rw[<-a'];exact (LN 0 cs).symm
  rw[this];refine cg.map fun k hk=>?_;have hk:=qw_.mp hk;rw[b (m+k) s!"",Oy h hk];unfold Bu;rw[Ib cs a']
 rw[b i s!"",Hn h hi,cg.dot e (cg.refl p _)]
def Span.less (h:Span p n S v)(hm:m<=n):Span p m S v:=by
 obtain⟨cs,a,b⟩:=h;exact⟨cs,a,fun i hi=>b i s!""⟩
def Seen.iff (hp:0<p)(gV:m<=n){seen:α1} (S:Seen p n m seen bs) (hw:row.length=n):(∀i:Nat,i<m->(Aw p bs row).getD i 0=0)↔Span p m seen fun i=>row.getD i 0:=by
 refine⟨fun h=>(Nu hw S.b h).trans fun r hr=>?_,fun h=>R1 hp hw S.b S.lt (h.trans fun r hr=>(S.kept r hr).2)⟩;obtain⟨x,hx,rfl⟩:=jv_.mp hr;exact (S.made x hx).less gV
open Classical in
noncomputable def DJ (p:Int)(m:Nat)(ae:α1):List Nat:=(nJ ae.length).filter fun k=>decide (¬ Span p m (ae.take k) fun i=>(ae.getD k []).getD i 0)
open Classical in
def EZ (p:Int)(m:Nat)(ae:α1)(r:α2):DJ p m (ae++[r])=DJ p m ae++(if Span p m ae (fun i=>r.getD i 0) then [] else [ae.length]):=by
 unfold DJ;rw[ju_,jU_,qC_,pR]
 congr 1
 ·refine List.filter_congr fun k hk=>?_;have hk:=qw_.mp hk;rw[xt_ s!"",jb_,jw_ hk,<-jb_]
 ·rw[oI,List.filter_nil,List.take_left,jb_,jy_ (jf_ _),qL_];show (if decide (¬ Span p m ae fun i=>r.getD i 0)=true then [ae.length] else [])=_;by_cases h:Span p m ae fun i=>r.getD i 0
  ·rw[if_neg (by rw[qz_];exact fun g=>g h),if_pos h]
  ·rw[if_pos (ql_ h),if_neg h]
noncomputable def Indep (p:Int)(m:Nat)(ae:α1):Prop:=∀cs:α2,cs.length=ae.length->(∀i:Nat,i<m->dotW cs (colW ae i)%p=0)->∀c∈cs,c%p=0
def Mz (R S:α1)(i:Nat):colW (R++S) i=colW R i++colW S i:=by unfold colW;rw[jj_]
def Indep.left (h:Indep p m (R++S)):Indep p m R:=fun cs a b c hc=>
 h (cs++nI S.length 0) (by simp[a]) (fun i hi=>by
  rw[Mz,K4 _ _ _ _ (by rw[a,Mw]),Be (nI _ _),D0,p9];exact b i hi) c (j5_ _ hc)
def Indep.not (hp:2<=p) (h:Indep p m (R++[r])):¬ Span p m R fun i=>r.getD i 0:=fun ⟨cs,a,b⟩=>by
 have:=h (cs++[-1]) (by simp[a]) (fun i hi=>by
  rw[Mz,show colW [r] i=[r.getD i 0] from rfl,Ia _ _ (by rw[a,Mw])];have:=b i hi;exact qh_ (by
   have:=jM_ (r.getD i 0) (qg_ p);have e:r.getD i 0%p=dotW cs (colW R i)%p:=b i hi;have d:=jZ_ (jB_.mp e.symm)
   rwa [show dotW cs (colW R i) + -1*r.getD i 0=dotW cs (colW R i)-r.getD i 0 by lia])) (-1) (by simp)
 have d:=jZ_ this;have:=pL (by decide) (Int.dvd_neg.mpr d);lia
def Indep.chosen (hp:2<=p) : ∀{ae:α1},Indep p m ae->DJ p m ae=nJ ae.length:=by
 intro ae;generalize hk:ae.length=k
 induction k generalizing ae with
 |zero=>
  intro _;have:ae=[]:=jN_.mp hk;subst this;rfl
 |succ k ih=>
  intro h;obtain⟨R,r,rfl⟩:∃R r,ae=R++[r]:=⟨ae.dropLast,ae.getLast (by intro e;subst e;simp at hk),(qp_ _).symm⟩;have hR:R.length=k:=by simp at hk;lia
  rw[EZ,if_neg (h.not hp),ih hR h.left,hR,qC_]
def Indep.uniq (h:Indep p m ae) (hc:cs.length=ae.length)(hd:ds.length=ae.length)(e:∀i:Nat,i<m->dotW cs (colW ae i)%p=dotW ds (colW ae i)%p):cg p cs ds:=by
 have key:=h (nP (· + ·) cs (ds.map (-1 * ·))) (by simp[hc,hd]) fun i hi=>by
  rw[K5 _ _ _ (by simp[hc,hd]),CY];have:=jB_.mp (e i hi)
  rwa [show dotW cs (colW ae i) + -1*dotW ds (colW ae i)=dotW cs (colW ae i)-dotW ds (colW ae i) by lia]
 unfold cg;refine q7_ (by simp[hc,hd]) fun i h1 h2=>?_;rw[xS_,xS_];have i1:i<cs.length:=by simpa using h1
 have i2:i<ds.length:=by simpa using h2
 have:=key (cs[i] + -1*ds[i]) (List.mem_iff_getElem.mpr ⟨i,by simp;lia,by simp⟩);refine jB_.mpr ?_
 rwa [show cs[i]-ds[i]=cs[i] + -1*ds[i] by lia]
def Nw (hg:nU a p=1)(c:Int)(h:c*a%p=0):c%p=0:=by
 have d:=xE_.mpr (jZ_ h);rw[qB,oM]at d;have hc:p.natAbs.Coprime a.natAbs:=by
  unfold rK;rw[qb];exact hg
 exact qh_ (xE_.mp (hc.dvd_of_dvd_mul_left d))
def Indep.nil (p:Int)(m:Nat):Indep p m []:=fun cs a _ c hc=>by
 have:cs=[]:=jN_.mp a;subst this;simp at hc
def Qd (h:∀r∈ae,r.length=m):∀r∈Ba ae,r.length=m+ae.length:=fun r hr=>by
 unfold Ba at hr;obtain⟨k,hk,rfl⟩:=jv_.mp hr;have hk:=qw_.mp hk;have e:ae.getD k []=ae[k]:=by rw[jb_,jc_ hk];rfl
 rw[ju_,e,h _ (jR_ hk)];unfold Bu;simp
def OA (h:∀r∈ae,r.length=m) : Span p m (Ba ae) v↔Span p m ae v:=by
 have l:(Ba ae).length=ae.length:=by unfold Ba;simp
 constructor
 ·rintro⟨cs,a,b⟩;exact⟨cs,by rw[a,l],fun i hi=>by rw[b i hi,Hn h hi]⟩
 ·rintro⟨cs,a,b⟩;exact⟨cs,by rw[a,l],fun i hi=>by rw[b i hi,Hn h hi]⟩
def Wv (c i:Nat):(nI c (0:Int)).getD i 0=0:=by
 rw[jb_,za_];split<;>rfl
def R4 (hp:0<p) (h:∀r∈ae,r.length=m) (S:Seen p (m+ae.length) m (Ba ae) bs) (hw:row.length=m):(∀i:Nat,i<m->(Aw p bs (row++nI ae.length 0)).getD i 0=0)↔Span p m ae fun i=>row.getD i 0:=by
 rw[S.iff hp s!"" (by simp[hw]),OA h];exact⟨fun g=>g.congr fun i hi=>by rw[Ic s!""],fun g=>g.congr fun i hi=>by rw[Ic s!""]⟩
def Yj (hp:0<p) (h:∀r∈ae,r.length=m) (S:Seen p (m+ae.length) m (Ba ae) bs) (hw:row.length=m)(h0:∀i:Nat,i<m->(Aw p bs (row++nI ae.length 0)).getD i 0=0):∀i:Nat,i<m->row.getD i 0%p=dotW ((nJ ae.length).map fun k => -(Aw p bs (row++nI ae.length 0)).getD (m+k) 0%p) (colW ae i)%p:=by
 have aZ:=(CJ (row++nI ae.length 0) (by simp[hw]:_=m+ae.length) bs S.b).2;generalize hL:Aw p bs (row++nI ae.length 0)=left at aZ h0 ⊢;have hs:Span p (m+ae.length) (Ba ae) fun i=>dotW (cof bs (row++nI ae.length 0)) (colW (basR bs) i):=Span.comb _ (fun r hr=>by
  obtain⟨x,hx,rfl⟩:=jv_.mp hr;exact S.made x hx) (by unfold cof basR;simp)
 intro i hi;have h1:=Oz h hs i hi;have h2:=aZ i;rw[h0 i hi,Ic s!""]at h2;have e1:row.getD i 0%p=dotW (cof bs (row++nI ae.length 0)) (colW (basR bs) i)%p:=jB_.mpr (by rw[<-h2];simp);rw[e1,h1];refine cg.dot (cg.map fun k hk=>?_) (cg.refl p _);have h3:=aZ (m+k);rw[<-hw,Nv,Wv,hw,Int.zero_sub]at h3;rw[jM_ _ (qg_ p),<-Int.neg_neg (dotW _ _)];have d:=jZ_ (jB_.mp h3);refine jB_.mpr (qh_ ?_);have e:∀x y:Int,- -x - -y=y - -x:=fun x y=>by lia
 rw[e];exact d
def Yk (hp:0<p) (h:∀r∈ae,r.length=m)(hI:Indep p m ae) (S:Seen p (m+ae.length) m (Ba ae) bs) (hw:row.length=m) (ha:am.length=ae.length)(bz:∀x∈am,0<=x/\x<p)(he:∀i:Nat,i<m->row.getD i 0%p=dotW am (colW ae i)%p):((Aw p bs (row++nI ae.length 0)).drop m).map (fun y => -y%p)=am:=by
 have h0:=(R4 hp h S hw).mpr ⟨am,ha,he⟩;have hl:=(CJ (row++nI ae.length 0) (by simp[hw]:_=m+ae.length) bs S.b).1;have hf:=Yj hp h S hw h0;generalize Aw p bs (row++nI ae.length 0)=left at hl hf h0 ⊢;have e0:(left.drop m).map (fun y => -y%p)=(nJ ae.length).map fun k => -left.getD (m+k) 0%p:=by
  refine q7_ (by simp[hl]) fun i h1 h2=>?_;have hi:m+i<left.length:=by simp at h1;lia
  rw[xS_,xS_,pS,List.getElem_drop,jb_,jc_ hi];rfl
 have hu:=hI.uniq (cs:=(nJ ae.length).map fun k => -left.getD (m+k) 0%p) (ds:=am) (by simp) ha fun i hi=>(hf i hi).symm.trans (he i hi);rw[e0];unfold cg at hu;rw[jK_]at hu;have e2:am.map (· % p)=am:=by
  conv=>rhs;rw[<-List.map_id am]
  exact jH_ fun x hx=>j0_ (bz x hx).1 (bz x hx).2
 rw[e2]at hu;rw[<-hu];refine jH_ fun k _=>?_;show _=(-left.getD (m+k) 0%p)%p;rw[jM_ _ (qg_ p)]
def Pj:∀(m:Nat) (l:List Nat),l.Nodup->(∀x∈l,x<m)->l.length<=m
 |0,l,_,h=>by
  cases l with
  |nil=>exact jf_ _
  |cons x l=>exact absurd (h x (jA_ ..)) (zf_ _)
 |m+1,l,nd,h=>by
  have h1:=Pj m (l.erase m) (nd.erase m) fun x hx=>by
   have hx1:=h x (List.mem_of_mem_erase hx);have hx2:x≠m:=fun e=>by
    subst e;exact (List.Nodup.not_mem_erase nd) hx
   lia
  have h2:=List.length_erase (a:=m) (l:=l);by_cases hm:m∈l
  ·rw[if_pos hm]at h2;lia
  ·rw[if_neg hm]at h2;lia
def bez (a b:Nat):∃x y:Int,x*a+y*b=(pB a b:Int):=by
 induction a,b using Nat.gcd.induction with
 |H0 n=>exact⟨0,1,by simp⟩
 |H1 m n hm ih=>
  obtain⟨x,y,h⟩:=ih;refine⟨y-x*((n / m:Nat):Int),x,?_⟩;rw[rM m n,<-h];have e:(n:Int)=(m:Int)*((n / m:Nat):Int)+((n%m:Nat):Int):=by
   have:=oU n m;rw[<-qx,<-Int.natCast_add,this]
  have e2:x*(n:Int)=x*((m:Int)*((n / m:Nat):Int))+x*((n%m:Nat):Int):=by rw[<-z1_,<-e]
  rw[e2,pq,zg_,x4_ ((n / m:Nat):Int) (m:Int)];lia
def Yl (hp:2<=p)(h0:0<a)(hg:nU a p=1):∃inv:Int,inv*a%p=1:=by
 obtain⟨x,y,h⟩:=bez a.natAbs p.natAbs;rw[show pB a.natAbs p.natAbs=1 from hg,show (a.natAbs:Int)=a by lia,show (p.natAbs:Int)=p by lia]at h;refine⟨x,?_⟩;have e:x*a=1+p*(-y):=by rw[Int.mul_neg,x4_ p y];lia
 rw[e,Int.add_mul_emod_self_left];exact j0_ (by decide) s!""
def Ww (hp:2<=p)(hI:∀a:Int,0<a->a<p->∃inv:Int,inv*a%p=1) (gV:m<=n):∀ae:α1,(∀r∈ae,r.length=n)->∃bs,Seen p n m ae bs/\bs.length=(DJ p m ae).length:=by
 intro ae;generalize hk:ae.length=k
 induction k generalizing ae with
 |zero=>
  intro _;have:ae=[]:=jN_.mp hk;subst this;exact⟨[],⟨⟨by simp,by simp,.nil⟩,by simp,by simp,by simp⟩,rfl⟩
 |succ k ih=>
  intro h;obtain⟨R,x,rfl⟩:∃R x,ae=R++[x]:=⟨ae.dropLast,ae.getLast (by intro e;subst e;simp at hk),(qp_ _).symm⟩;obtain⟨bs,S,hb⟩:=ih R (by simp at hk;lia) fun r hr=>h r (j5_ _ hr);have hx:x.length=n:=h x (by simp);have bX:=S.iff s!"" gV hx;rw[EZ];by_cases hs:Span p m R fun i=>x.getD i 0
  ·rw[if_pos hs,xA_];exact⟨bs,S.same hx (bX.mpr hs),hb⟩
  ·rw[if_neg hs];obtain⟨q,hq,h0⟩:∃q:Nat,q<m/\(Aw p bs x).getD q 0≠0:=qa_ fun hc=>hs (bX.mp fun i hi=>qa_ fun g=>hc ⟨i,hi,g⟩);have g:=getD_in (show 0<p by lia) (F2 s!"" x bs) q;obtain⟨inv,dk⟩:=hI _ s!"" g.2;exact⟨_,S.more hp gV hx hq dk,by unfold Nt;simp[hb]⟩
def R5 (h:Bs p n bs):(bs.map (·.1)).Nodup:=by
 refine zr_.mpr ((zz_.mp h.off).imp fun {x y} g e=>?_);obtain⟨hx,hy,g1,_⟩:=g;rw[<-e,h.own x hx]at g1;exact absurd g1 (by decide)
def R6 (hp:2<=p)(hI:∀a:Int,0<a->a<p->∃inv:Int,inv*a%p=1) (h:∀r∈ae,r.length=n):(DJ p n ae).length<=n:=by
 obtain⟨bs,S,hb⟩:=Ww hp hI (jf_ n) ae h;rw[<-hb,<-ja_ (f:=(·.1)) (as:=bs)];refine Pj n _ (R5 S.b) fun x hx=>?_;obtain⟨y,hy,rfl⟩:=jv_.mp hx;exact S.lt y hy
structure GcdI (p n one aS f g:Int):Prop where
 o:0<one
 o1:one<=p
 t:0<=aS
 t1:aS<=p
 gc:nU one aS=1
 f1:(f*n-one)%p=0
 g1:(g*n-aS)%p=0
def Wx (ha:0<a)(hb:0<b)(h:nU a b=1):nU b (a%b)=1:=by
 have m0:=jC_ a (show b≠0 by lia);have e:(a%b).natAbs=a.natAbs%b.natAbs:=by
  have e1:a%b=((a.natAbs%b.natAbs:Nat):Int):=by rw[Int.natCast_emod,show (a.natAbs:Int)=a from by lia,show (b.natAbs:Int)=b from by lia]
  rw[e1,Int.natAbs_natCast]
 unfold nU at h ⊢;rw[e,qb,<-rM,qb];exact h
def GcdI.step (h:GcdI p n one aS f g)(ht:aS≠0):GcdI p n aS (one-one / aS*aS) g (f-one / aS*g):=by
 have hp:0<aS:=by have:=h.t;lia
 have e:one-one / aS*aS=one%aS:=by have:=zA_ one aS;rw[x4_];lia
 refine⟨hp,h.t1,by rw[e];exact jC_ _ ht,by rw[e];have:=jx_ one hp;have:=h.t1;lia,?_,h.g1,?_⟩
 ·rw[e];exact Wx h.o hp h.gc
 ·have e2:(f-one / aS*g)*n-(one-one / aS*aS)=(f*n-one)-one / aS*(g*n-aS):=by
   rw[pq,pk,zg_];lia
  have d1:=jZ_ h.f1;have d2:=jZ_ h.g1;rw[e2];exact qh_ (z2_ d1 (qG_ d2))
def GcdI.done (h:GcdI p n one 0 f g)(hp:2<=p):f%p*n%p=1:=by
 have e:one=1:=by have:=h.gc;have:=h.o;rw[Int.gcd_zero_right] at *;lia
 have:=h.f1;rw[e]at this;have d:=jZ_ this;have e3:f*n%p=1%p:=jB_.mpr this;have e4:f%p*n%p=f*n%p:=by rw[qf_,Int.emod_emod,<-qf_]
 rw[e4,e3];exact j0_ (by decide) s!""
noncomputable def Qe (NI:Addr):Sp:=fun vs H Q E=>∃(p n:Int),vs=[.int p,.int n]/\2<=p/\p<1000000000000000000/\(n%p=0->E (.ref NI) none H)/\(n%p≠0->nU (n%p) p=1/\∀r,0<=r->r<p->r*n%p=1->Q (.int r) H)
def Qf:CalH P w mg base (CXe P w) EE.j16 1 ["p","number"] (Qe bV):=by
 refine HG.okE EE.j16 Bb (fun vs H Q E h=>?_) (fun ao A outer s H vs Q E hr h=>?_)
 ·obtain⟨p,n,rfl,_⟩:=h;rfl
 ·obtain⟨p,n,rfl,hp,gb,kE,k⟩:=h;have hl:=Al;refine⟨_,(Ac (Ak (i:=2) Bb.nd (pvD 0))
   (Ac (Ak (i:=3) Bb.nd (Ar (opD A0) (pvD 1) (pvD 0)))
   (Ac (AZ (ptT (Ap (opE Gw) (pvD 3) Ai (Av _)))
   (Ae (Gq EE.m_j8 EE.x_j8 rfl rfl (Aa AA Ad)))
   Au)
   (Ac (Ak (i:=4) Bb.nd Ai)
   (Ac (Ak (i:=5) Bb.nd Ai)
   (Ac (Gm PassesOwn.leaving (ptT (Ap (opN Dh) (pvD 3) Ai (Av _)))
   (Ac (Ak (i:=6) Bb.nd (Ar (opD Tv) (pvD 2) (pvD 3)))
   (Ac (Ak (i:=7) Bb.nd (Ar (opD0 MY) (pvD 2) (Ar (opD E8) (pvD 6) (pvD 3))))
   (Ac (Ak (i:=8) Bb.nd (Ar (opD0 MY) (pvD 4) (Ar (opD E8) (pvD 6) (pvD 5))))
   (Ac (Ak (i:=2) Bb.nd (pvD 3))
   (Ac (Ak (i:=4) Bb.nd (pvD 5))
   (Ac (Ak (i:=3) Bb.nd (pvD 7))
   (Ae (Ak (i:=5) Bb.nd (pvD 8))))))))))
   (Ae (Am (Ar (opD A0) (pvD 4) (pvD 0)))))))))),?_⟩
  nofun;refine⟨by lia,ite2 (fun e=>⟨by lia,kE e⟩) (fun e=>?_)⟩;obtain⟨hg,kq⟩:=k e;have m0:=jC_ n (show p≠0 by lia);have m1:=jx_ n (show 0<p by lia);obtain⟨Pv,aq⟩:∃Pv:Nat->St->Hp->Prop,∀m ai H2,Pv m ai H2↔(H2=H/\∃(one aS f g:Int) (o6 o7 o8:Option V),m=aS.toNat/\GcdI p n one aS f g/\ai=[some (.int p),some (.int n),some (.int one),some (.int aS),some (.int f),some (.int g),o6,o7,o8]):=⟨_,fun _ _ _=>qE_⟩;refine LI Pv ⟨_,(aq _ _ _).mpr ⟨rfl,p,n%p,0,1,none,none,none,rfl,⟨by lia,by lia,m0,by lia,by rw[rm];exact hg,qh_ ⟨-1,by rw[Int.zero_mul];lia⟩,qh_ ⟨n / p,by rw[z0_];have:=zA_ n p;lia⟩⟩,rfl⟩⟩ ?_;intro m ai H2 mE;obtain⟨rfl,one,aS,f,g,o6,o7,o8,rfl,G,rfl⟩:=(aq _ _ _).mp mE;have g1:=G.o;have g2:=G.o1;have g3:=G.t;have g4:=G.t1;nofun;by_cases ht:aS=0
  ·rw[if_neg (by simp[ht])];subst ht;nofun;exact⟨by lia,kq _ (jC_ _ s!"") (jx_ _ s!"") (G.done hp)⟩
  ·rw[if_pos (by simp[ht])];have q0:=Int.ediv_nonneg (show 0<=one by lia) g3;have q1:one / aS<=one:=Int.ediv_le_self _ s!"";have G':=G.step ht;have r1:=G'.t;refine⟨fun af H'=>∃m',m'<aS.toNat/\Pv m' af H',fun _ _ h=>h,by lia,by lia,.inr ⟨by lia,by lia⟩,.inl ⟨by lia,by lia⟩,(one-one / aS*aS).toNat,?_,(aq _ _ _).mpr ⟨rfl,_,_,_,_,_,_,_,rfl,G',rfl⟩⟩;have e1:one-one / aS*aS=one%aS:=by have:=zA_ one aS;rw[x4_];lia
   have:=jx_ one (show 0<aS by lia);lia
noncomputable def R7 (K:α3):Sp:=fun vs H Q _=>∃(p f:Int) (t:Bool) (a:Addr) (xs:α2),vs=[.int p,.int f,.ref a]/\0<p/\(-(2 ^ 64)<f/\f<2 ^ 64)/\SqB K H t a (xs.map V.int)/\xs.length<=900/\∀q H',Same H H'->H' q=some (.tup ((xs.map fun x=>f*x%p).map V.int))->Q (.ref q) H'
def Nx:⋯ EE.j13 1 ["p","factor","row"] (R7 K):=by
 delta EE.j13 RZ
 ·obtain⟨p,f,t,a,xs,rfl,_⟩:=h;rfl
 ·obtain⟨p,f,t,a,xs,rfl,hp,hf,ha,hz,k⟩:=h;have hl:=Al;refine⟨_,(Ae (Am (AF AM rfl EE.tuple jO_ (Aa (BN rfl (BL rfl) (cp:=LL) ⟨⟨rfl,rfl⟩,⟨⟨rfl,rfl⟩,nL⟩⟩ (Rh (pvD 2)) (fun _ _ _ _=>(Aq (i:=0) Mu rfl (nM rfl))) (fun _ _ _ _=>By) (fun _ _ _ _=>(Ar (opD A0) (Ar (opD E8) (pvD 2) (pvD 0)) (pvD 1)))) Ad)))),?_⟩;nofun;obtain⟨g,hg⟩:∃g:V->V,∀n:Int,g (V.int n)=.int (f*n%p):=⟨fun x=>match x with | .int n=>.int (f*n%p)|_=>.non,fun _=>rfl⟩;refine O8 (af:=[some (.int p),some (.int f)]) g rfl ha (by rw[ja_];lia) (fun x hx R hR=>?_) (fun D hD=>?_)
  ·obtain⟨n,hn,rfl⟩:=jv_.mp hx;rw[hg]at hR;nofun;exact⟨.inl hf,hp,hR⟩
  ·have em:(xs.map V.int).map g=(xs.map fun x=>f*x%p).map V.int:=by
    rw[jK_,jK_];exact jH_ fun n _=>hg n
   rw[em];refine⟨D,rfl,_,.inl ⟨SqL.of Ab,fun q hq=>k q _ ((Same.new hD).newT hq) Ab⟩⟩
noncomputable def TQ (K:α3):Sp:=fun vs H Q _=>∃(p:Int) (t1 t2:Bool) (a b:Addr) (xs ys:α2),vs=[.int p,.ref a,.ref b]/\0<p/\SqB K H t1 a (xs.map V.int)/\SqB K H t2 b (ys.map V.int)/\xs.length=ys.length/\xs.length<=900/\∀q H',Same H H'->H' q=some (.tup ((nP (fun x y=>(x+y)%p) xs ys).map V.int))->Q (.ref q) H'
def TR:⋯ EE.j14 1 ["p","row","other"] (TQ K):=by
 delta EE.j14 TH
 ·obtain⟨p,t1,t2,a,b,xs,ys,rfl,_⟩:=h;rfl
 ·obtain⟨p,t1,t2,a,b,xs,ys,rfl,hp,ha,hb,ak,hz,k⟩:=h;have hl:=Al;refine⟨_,(Ae (Am (AF AM rfl EE.tuple jO_ (Aa (BN rfl (BL rfl) (cp:=Nr) ⟨⟨rfl,rfl⟩,nL⟩ (Of rfl EE.zip (Aa (pvD 1) (Aa (pvD 2) Ad))) (fun _ _ _ _=>(Og (K:=K) (n:=2) rfl rfl (Bg (Aq (i:=0) Ju rfl (nM rfl)) (Bg (Aq (i:=1) Ju rfl (nM rfl)) Fw)))) (fun _ _ _ _=>By) (fun _ _ _ _=>(Ar (opD A0) (Ar (opD0 Bl) (pvD 0) (pvD 1)) (pvD 2)))) Ad)))),?_⟩;nofun;refine⟨_,_,t1,ha,t2,hb,O9 (af:=[some (.int p)]) (fun x y=>(x+y)%p) rfl ha hb ak s!"" (fun t u v o1 o2 H1 N ht hN=>?_) (fun x y H1 hx hy s1 R hR=>?_) (fun H1 D s1 hD=>?_)⟩
  ·nofun;exact⟨_,SqT.of ht,rfl,_,_,rfl,_,_,rfl,rfl,hN⟩
  ·nofun;exact⟨hp,hR⟩
  ·refine⟨D,rfl,_,.inl ⟨SqL.of Ab,fun q hq=>k q _ ((s1.newT hD).newT hq) Ab⟩⟩
noncomputable def Qg (K:α3):Sp:=fun vs H Q _=>∃(p:Int) (t1 t2:Bool) (a b:Addr) (xs ys:α2),vs=[.int p,.ref a,.ref b]/\0<p/\SqB K H t1 a (xs.map V.int)/\SqB K H t2 b (ys.map V.int)/\xs.length=ys.length/\xs.length<=900/\(∀x∈xs,-(2 ^ 64)<x/\x<2 ^ 64)/\∀H',Same H H'->Q (.int (dotW xs ys%p)) H'
def CK:⋯ EE.j23 1 ["p","row","other"] (Qg K):=by
 delta EE.j23 P7
 ·obtain⟨p,t1,t2,a,b,xs,ys,rfl,_⟩:=h;rfl
 ·obtain⟨p,t1,t2,a,b,xs,ys,rfl,hp,ha,hb,ak,hz,hx64,k⟩:=h;have hl:=Al;refine⟨_,(Ae (Am (Ar (opD A0) (AK (Mf rfl) rfl EE.sum zB_ (Aa (BN rfl (BL rfl) (cp:=K1) nL (Of rfl EE.zip (Aa (pvD 1) (Aa (pvD 2) Ad))) (fun _ _ _ _=>(Og (K:=K) (n:=2) rfl rfl (Bg (Aq (i:=0) GI rfl (nM rfl)) (Bg (Aq (i:=1) GI rfl (nM rfl)) Fw)))) (fun _ _ _ _=>By) (fun _ _ _ _=>(Ar (opD E8) (pvD 0) (pvD 1)))) Ad)) (pvD 0)))),?_⟩;nofun;refine⟨_,_,t1,ha,t2,hb,O9 (af:=[]) (fun x y=>x*y) rfl ha hb ak s!"" (fun t u v o1 o2 H1 N ht hN=>?_) (fun x y H1 hx hy s1 R hR=>?_) (fun H1 D s1 hD=>?_)⟩
  ·nofun;exact⟨_,SqT.of ht,rfl,_,_,rfl,_,_,rfl,rfl,hN⟩
  ·nofun;exact⟨.inl (hx64 x hx),hR⟩
  ·exact⟨D,rfl,_,SqL.of Ab,hp,k _ (s1.newT hD)⟩
noncomputable def Qh (K:α3):Sp:=fun vs H Q _=>∃(p:Int) (t1 t2:Bool) (a b:Addr) (xs:List V) (ae:α1) (am:α2) (n:Nat),vs=[.int p,.ref a,.ref b,.int n]/\0<p/\SqB K H t1 a xs/\Fu K H xs ae/\(∀r∈ae,r.length=n)/\SqB K H t2 b (am.map V.int)/\am.length=ae.length/\ae.length<=900/\n<=900/\(∀x∈am,-(2 ^ 64)<x/\x<2 ^ 64)/\∀q H',Same H H'->H' q=some (.tup ((Jc p ae am n).map V.int))->Q (.ref q) H'
def Qi:⋯ EE.j30 2 ["p","rows","parts","size"] (Qh K):=by
 delta EE.j30 P8
 ·obtain⟨p,t1,t2,a,b,xs,ae,am,n,rfl,_⟩:=h;rfl
 ·obtain⟨p,t1,t2,a,b,xs,ae,am,n,rfl,hp,ha,gd,dm,hb,ak,hz,hn,jV,k⟩:=h;have hl:=Al;refine⟨_,(Ae (Am (AF AM rfl EE.tuple jO_ (Aa (To rfl (V4 rfl) (cp:=K2) ⟨⟨rfl,rfl⟩,⟨⟨rfl,rfl⟩,⟨⟨rfl,rfl⟩,nL⟩⟩⟩ (Cd rfl EE.range (Aa (pvD 3) Ad)) (fun _ _ _ _=>(Aq (i:=0) Lu rfl (oq rfl))) (fun _ _ _ _=>By) (fun _ _ _ _=>(Af (CK EE) hr.d An (Aa (pvD 1) (Aa (pvD 2) (Aa (BN rfl (BL rfl) (cp:=K3) ⟨⟨rfl,rfl⟩,nL⟩ (Wa (K:=K) rfl (pvD 3)) (fun _ _ _ _=>(Aq (i:=0) Lv rfl (nM rfl))) (fun _ _ _ _=>By) (fun _ _ _ _=>(As (ixTD (FE (K:=K) rfl)) (pvD 0) (pvD 1)))) Ad)))))) Ad)))),?_⟩;nofun;refine⟨by lia,by lia,?_⟩;rw[jz_];obtain⟨Pc,bM⟩:∃Pc:Nat->List V->St->Hp->Prop,∀c ys aQ H4,Pc c ys aQ H4↔(Same H H4/\ys=((nJ c).map fun c=>dotW am (colW ae c)%p).map V.int/\∃o,aQ=[o,some (.int p),some (.ref b),some (.ref a)]):=⟨_,fun _ _ _ _=>qE_⟩;refine Q8 Pc ((bM _ _ _ _).mpr ⟨Same.refl _,rfl,none,rfl⟩) s!"" (fun c ys aQ H4 _ h4=>?_) (fun c ys aQ H4 hc h4=>?_) (fun ys aQ H4 h4 D hD=>?_)
  ·obtain⟨_,rfl,_⟩:=(bM _ _ _ _).mp h4;rw[ja_,ja_,jT_];exact jf_ _
  ·obtain⟨s4,rfl,o,rfl⟩:=(bM _ _ _ _).mp h4;rw[xF_];nofun;refine RH (af:=[some (.int c)]) (fun i=>V.int ((ae.getD i []).getD c 0)) rfl (ha.mono s4) (by rw[gd.1];lia) (fun i x hx R hR=>?_) (fun D hD=>?_)
   ·have hi:i<ae.length:=by rw[<-gd.1];exact (je_.mp hx).1
    obtain⟨t,e1,e2⟩:=gd.2 i ae[i] (by simp[hi]);rw[hx]at e1;cases e1;have bh:c<(ae[i]).length:=by rw[dm _ (jR_ hi)];exact hc
    have er:ae.getD i []=ae[i]:=by rw[jb_,jc_ hi];rfl
    rw[er,jb_,jc_ bh]at hR;nofun;exact⟨_,s4.seqT e2,_,G3 s!"" (v:=(ae[i])[c]) (by simp[bh]),hR⟩
   ·rw[gd.1,Yh] at *;have sD:=Same.new hD (o:=.lst ((colW ae c).map V.int));nofun;refine⟨p,t2,false,b,D,am,colW ae c,rfl,hp,hb.mono (s4.trans sD),SqL.of Ab,by unfold colW;rw[ja_];exact ak,by lia,jV,fun H5 s5=>(bM _ _ _ _).mpr ⟨(s4.trans sD).trans s5,?_,_,rfl⟩⟩;rw[qC_,jj_,jj_];rfl
  ·obtain⟨s4,rfl,o,rfl⟩:=(bM _ _ _ _).mp h4;exact⟨D,rfl,_,.inl ⟨SqL.of Ab,fun q hq=>k q _ ((s4.newT hD).newT hq) Ab⟩⟩
noncomputable def BasD (K:α3)(H:Hp)(d:Addr)(bs:List (Nat×α2)):Prop:=∃kvs:List (Key×V),Rd H d (.dK kvs)/\kvs.length=bs.length/\∀(i:Nat) (x:Nat×α2),bs[i]?=some x->∃t,kvs[i]?=some (nS (x.1:Int),V.ref t)/\SqT K H t (x.2.map V.int)
def BasD.fz {K:α3} (h:BasD K H d bs)(s:FzAt e H H'):BasD K H' d bs:=by
 obtain⟨kvs,h1,h2,h3⟩:=h;refine⟨kvs,s.rd h1,h2,fun i x hx=>?_⟩;obtain⟨t,a,b⟩:=h3 i x hx;exact⟨t,a,s.seqT b⟩
def BasD.mono {K:α3} (h:BasD K H d bs)(s:Same H H'):BasD K H' d bs:=h.fz (FzAt.of (d:=d) s)
noncomputable def Ym (K:α3):Sp:=fun vs H Q _=>∃(a:Addr) (xs:α2),vs=[.ref a]/\SqT K H a (xs.map V.int)/\xs.length<=900/\(∀(q:Nat) (H':Hp),Same H H'->q<xs.length->xs.getD q 0≠0->Q (.int q) H')/\∀H',Same H H'->(∀q:Nat,q<xs.length->xs.getD q 0=0)->Q .non H'
def Ex:⋯ EE.j12 1 ["row"] (Ym K):=by
 delta EE.j12 CF
 ·obtain⟨a,xs,rfl,_⟩:=h;rfl
 ·obtain⟨a,xs,rfl,ha,hz,k1,k2⟩:=h;have hl:=Al;refine⟨_,(Ac (Bx jL_ rfl (Me rfl EE.enumerate (pvD 0)) (LC rfl (Bg (Aq (i:=1) CF.nd rfl (nM rfl)) (Bg (Aq (i:=2) CF.nd rfl (nM rfl)) Fw)))
   (Ae (AZ (ptT (Ap (opN Dh) (pvD 2) Ai (Av _)))
   (Ae (Am (pvD 1)))
   Au)))
   (Ae (Am Bw))),?_⟩
  nofun;obtain⟨Pv,aq⟩:∃Pv:Nat->St->Hp->Prop,∀i af H',Pv i af H'↔(Same H H'/\(∀q:Nat,q<i->xs.getD q 0=0)/\∃o1 o2,af=[some (.ref a),o1,o2]):=⟨_,fun _ _ _=>qE_⟩;refine⟨_,ha,forN Pv ((aq _ _ _).mpr ⟨Same.refl _,fun q hq=>by lia,none,none,rfl⟩) (fun i af H' _ h'=>((aq _ _ _).mp h').1.seqT ha) (fun i v af H' t hv h' ht=>?_) (fun af H' h'=>?_)⟩
  ·obtain⟨s1,h0,o1,o2,rfl⟩:=(aq _ _ _).mp h';obtain⟨x,hx,rfl⟩:∃x,xs[i]?=some x/\v=.int x:=by
    rw[jh_]at hv;cases e:xs[i]? with
    |none=>rw[e]at hv;cases hv
    |some x=>rw[e]at hv;exact⟨x,rfl,(jt_ hv).symm⟩
   have hi:i<xs.length:=(je_.mp hx).1;have ex:xs.getD i 0=x:=by rw[jb_,hx];rfl
   nofun;refine⟨_,SqT.of Ab,rfl,_,_,rfl,_,_,rfl,rfl,rfl,?_⟩;have s2:=s1.newT ht (o:=.tup [.int i,.int x]);by_cases lg:x=0
   ·rw[if_neg (by simp[lg])];refine (aq _ _ _).mpr ⟨s2,fun q hq=>?_,_,_,rfl⟩;rcases rl q i with h|h
    ·exact h0 q h
    ·rw[show q=i by lia,ex,lg]
   ·rw[if_pos (by simp[lg])];exact k1 i _ s2 hi (by rw[ex];exact lg)
  ·obtain⟨s1,h0,o1,o2,rfl⟩:=(aq _ _ _).mp h';nofun;exact k2 _ s1 (by simpa using h0)
noncomputable def Wy (K:α3):Sp:=fun vs H Q _=>∃(p:Int) (d r:Addr) (t:Bool) (bs:List (Nat×α2)) (row:α2),vs=[.int p,.ref d,.ref r]/\0<p/\p<2 ^ 62/\BasD K H d bs/\SqB K H t r (row.map V.int)/\row.length<=900/\(∀x∈bs,x.2.length=row.length/\x.1<row.length)/\∀q H',FzAt d H H'->SqT K H' q ((Aw p bs row).map V.int)->Q (.ref q) H'
def Jd:⋯ EE.j15 2 ["p","bases","row"] (Wy K):=by
 delta EE.j15 Es
 ·obtain⟨p,d,r,t,bs,row,rfl,_⟩:=h;rfl
 ·obtain⟨p,d,r,t,bs,row,rfl,hp,hp62,hB,hrow,hz,gX,k⟩:=h;have hl:=Al;refine⟨_,(Ac (Ak (i:=3) Es.nd (AF AM rfl EE.tuple jO_ (Aa (BN rfl (BL rfl) (cp:=K0) ⟨⟨rfl,rfl⟩,nL⟩ (Rh (pvD 2)) (fun _ _ _ _=>(Aq (i:=0) Ls rfl (nM rfl))) (fun _ _ _ _=>By) (fun _ _ _ _=>(Ar (opD A0) (pvD 0) (pvD 1)))) Ad)))
   (Ac (Bx jL_ rfl (RK (pvD 1)) (LC rfl (Bg (Aq (i:=4) Es.nd rfl (nM rfl)) (Bg (Aq (i:=5) Es.nd rfl (nM rfl)) Fw)))
   (Ae (AZ (ptT (Ap (opN Dh) (As (ixTD Ay) (pvD 3) (pvD 4)) Ai (Av _)))
   (Ae (Ak (i:=3) Es.nd (Af (TR EE) hr.d An (Aa (pvD 0) (Aa (pvD 3) (Aa (Af (Nx EE) hr.d An (Aa (pvD 0) (Aa (Lm GF (As (ixTD Ay) (pvD 3) (pvD 4))) (Aa (pvD 5) Ad)))) Ad))))))
   Au)))
   (Ae (Am (pvD 3))))),?_⟩
  nofun;obtain⟨g,hg⟩:∃g:V->V,∀n:Int,g (V.int n)=.int (n%p):=⟨fun x=>match x with | .int n=>.int (n%p)|_=>.non,fun _=>rfl⟩;refine O8 (af:=[some (.int p)]) g rfl hrow (by rw[ja_];lia) (fun x hx R hR=>?_) (fun D hD=>?_)
  ·obtain⟨n,hn,rfl⟩:=jv_.mp hx;rw[hg]at hR;nofun;exact⟨hp,hR⟩
  ·have em:(row.map V.int).map g=(row.map fun x=>x%p).map V.int:=by
    rw[jK_,jK_];exact jH_ fun n _=>hg n
   rw[em];refine⟨D,rfl,_,.inl ⟨SqL.of Ab,fun q hq=>?_⟩⟩;have s0:=(Same.new hD (o:=.lst ((row.map fun x=>x%p).map V.int))).newT hq (o:=.tup ((row.map fun x=>x%p).map V.int));obtain⟨kvs,b1,b2,b3⟩:=hB.mono s0;refine⟨kvs,b1,fun o H2 gY hF=>?_⟩;have hF0:FzAt d H H2:=(FzAt.of s0).trans hF;obtain⟨Pv,aq⟩:∃Pv:Nat->St->Hp->Prop,∀i af H',Pv i af H'↔(Same H2 H'/\∃(l:Addr) (o1 o2:Option V),SqT K H' l (((bs.take i).foldl (EY p) (row.map fun x=>x%p)).map V.int)/\af=[some (.int p),some (.ref d),some (.ref r),some (.ref l),o1,o2]):=⟨_,fun _ _ _=>qE_⟩;have ak:∀i:Nat,((bs.take i).foldl (EY p) (row.map fun x=>x%p)).length=row.length/\∀y∈(bs.take i).foldl (EY p) (row.map fun x=>x%p),0<=y/\y<p:=fun i=>⟨by
    have key:∀(bs:List (Nat×α2)) (l:α2),(∀x∈bs,x.2.length=l.length)->(bs.foldl (EY p) l).length=l.length:=fun bs=>by
     induction bs with
     |nil=>exact fun l _=>rfl
     |cons x bs ih=>
      intro l h;have e:(EY p l x).length=l.length:=(My rfl (h x (jA_ ..)) 0).1;rw[xC_,ih _ (fun y hy=>by rw[e];exact h y (jp_ _ hy)),e]
    rw[key _ _ fun x hx=>by rw[ja_];exact (gX x (List.mem_of_mem_take hx)).1,ja_],F2 hp row (bs.take i)⟩
   refine YF Pv ((aq _ _ _).mpr ⟨Same.refl _,q,none,none,by rw[xu_];exact hF.seqT (SqT.of Ab),rfl⟩) (fun i af H' _ h'=>((aq _ _ _).mp h').1 _ _ gY) (fun i key v tt af H' bU h' htt=>?_) (fun af H' h'=>?_)
   ·obtain⟨s1,lf,o1,o2,gZ,rfl⟩:=(aq _ _ _).mp h';have g8:i<bs.length:=by rw[<-b2];exact (je_.mp bU).1
    have mF:bs[i]?=some bs[i]:=by simp[g8]
    obtain⟨bt,hbt,aO⟩:=b3 i _ mF;rw[bU]at hbt;cases hbt;have cR:bs[i]∈bs:=jR_ g8;have dj:=gX _ cR;obtain⟨ll,lin⟩:=ak i;have bN:(bs.take (i+1)).foldl (EY p) (row.map fun x=>x%p)=EY p ((bs.take i).foldl (EY p) (row.map fun x=>x%p)) bs[i]:=by
     rw[qu_ g8,qH_];rfl
    have hbase':SqT K H' bt (bs[i].2.map V.int):=s1.seqT (hF.seqT aO);generalize (bs.take i).foldl (EY p) (row.map fun x=>x%p)=left at ll lin gZ bN;generalize bs[i]=x at dj hbase' bN bU;obtain⟨pl,xb⟩:=x;have g:=getD_in hp lin pl;have s2:=Same.new htt (o:=.tup [kV (nS (pl:Int)),.ref bt]);have cm:pl<left.length:=by rw[ll];exact dj.2
    nofun;refine⟨_,SqT.of Ab,rfl,_,_,rfl,_,_,rfl,rfl,?_⟩;refine⟨_,(pl:Int),rfl,s2.seqT gZ,_,Mv cm,rfl,?_⟩;have hxl:xb.length=row.length:=dj.1;by_cases h0:left.getD pl 0=0
    ·rw[if_neg (by rw[h0];simp)];refine (aq _ _ _).mpr ⟨s1.trans s2,lf,_,_,?_,rfl⟩;rw[bN];unfold EY;rw[if_pos h0];exact s2.seqT gZ
    ·rw[if_pos (by simp only[V.int.injEq,Bool.not_eq_eq_eq_not,ra,zh_];exact h0)];refine⟨_,(pl:Int),rfl,s2.seqT gZ,_,Mv cm,_,rfl,p,-left.getD pl 0,true,bt,xb,rfl,hp,⟨by lia,by lia⟩,s2.seqT hbase',by lia,fun q1 H4 s4 fY=>⟨p,true,true,lf,q1,left,_,rfl,hp,(s2.trans s4).seqT gZ,SqT.of fY,by rw[ja_];lia,by lia,fun q5 H5 s5 iM=>(aq _ _ _).mpr ⟨s1.trans (s2.trans (s4.trans s5)),q5,_,_,?_,rfl⟩⟩⟩;rw[bN];unfold EY;rw[if_neg h0];exact SqT.of iM
   ·obtain⟨s1,lf,o1,o2,gZ,rfl⟩:=(aq _ _ _).mp h';rw[b2,jG_]at gZ;nofun;exact k lf _ (hF0.trans (FzAt.of s1)) gZ
def Bs.nodup (h:Bs p n bs):(bs.map (·.1)).Nodup:=by
 refine zr_.mpr ((zz_.mp h.off).imp fun {x y} g e=>?_);obtain⟨hx,hy,g1,_⟩:=g;rw[<-e,h.own x hx]at g1;exact absurd g1 (by decide)
noncomputable def YJ (K:α3):Sp:=fun vs H Q _=>∃(p:Int) (d l:Addr) (q:Nat) (bs:List (Nat×α2)) (left:α2),vs=[.int p,.ref d,.ref l,.int q]/\Pr p/\BasD K H d bs/\SqT K H l (left.map V.int)/\q<left.length/\left.length<=900/\0<left.getD q 0/\left.getD q 0<p/\bs.length<=900/\(∀x∈bs,x.2.length=left.length/\x.1<left.length)/\(bs.map (·.1)).Nodup/\q∉bs.map (·.1)/\∀m inv H',FzAt d H H'->0<=inv->inv<p->inv*left.getD q 0%p=1->BasD K H' m (Nt p inv bs left q)->H m=none->Q (.ref m) H'
noncomputable def PutD (K:α3)(H:Hp)(d:Addr)(bs:List (Nat×α2)):Prop:=Ents K H d (bs.map fun x=>((x.1:Int),x.2))
def PutD.bas {K:α3} (h:PutD K H d bs):BasD K H d bs:=by
 obtain⟨kvs,h1,h2,h3⟩:=h;refine⟨kvs,.inl h1,by rw[h2,ja_],fun i x hx=>?_⟩;exact h3 i ((x.1:Int),x.2) (by rw[jh_,hx];rfl)
def PutD.fz {K:α3} (h:PutD K H d bs)(s:FzAt e H H')(aC:d≠e):PutD K H' d bs:=by
 obtain⟨kvs,h1,h2,h3⟩:=h;refine⟨kvs,s.1 _ _ aC h1,h2,fun i x hx=>?_⟩;obtain⟨t,a,b⟩:=h3 i x hx;exact⟨t,a,s.seqT b⟩
def PutD.put {K:α3}{H:Hp}{d t:Addr}{bs:List (Nat×α2)}{q:Nat}{v:α2}(h:PutD K H d bs)(hq:q∉bs.map (·.1))(hz:bs.length<1000)(ht:SqT K H t (v.map V.int)):∃H',DPut H d (.int q) (.ref t) H'/\(∃kvs cQ,H d=some (.dK kvs)/\H'=upd H d (.dK cQ))/\PutD K H' d (bs++[(q,v)]):=by
 have:=Ents.put (g:=(q:Int)) (w:=v) h (fun hm=>hq (by
  rw[jK_]at hm;obtain⟨x,hx,e⟩:=jv_.mp hm;exact jv_.mpr ⟨x,hx,by have:((x.1:Int))=(q:Int):=e;lia⟩)) (by rw[ja_];exact hz) ht
 obtain⟨H',a,b,c⟩:=this;exact⟨H',a,b,by unfold PutD;rw[jj_];exact c⟩
def PutD.nil {K:α3} (h:H d=some (.dK [])):PutD K H d []:=⟨[],h,rfl,fun i x hx=>by simp at hx⟩
def BasD.get {K:α3} (h:BasD K H d bs)(nod:(bs.map (·.1)).Nodup) (hx:x∈bs):∃t,DGet H d (.int x.1) (some (.ref t))/\SqT K H t (x.2.map V.int):=by
 obtain⟨kvs,h1,h2,h3⟩:=h;obtain⟨i,hi,ei⟩:=xq_ hx;have ei':bs[i]?=some x:=by rw[jc_ hi,ei]
 obtain⟨t,a,b⟩:=h3 i _ ei';refine⟨t,?_,b⟩;have hf:valV kvs (nS (x.1:Int):Key)=some (.ref t):=by
  unfold valV;cases hq:kvs.find? (fun kv=>decide (kv.1=(nS (x.1:Int):Key))) with
  |none=>
   rw[qZ_]at hq;have:=hq _ (jn_ a);simp at this
  |some kv=>
   have hk:=oY hq;simp only[qz_]at hk;obtain⟨j,hj,ej⟩:=xq_ (xP_ hq);have gS:j<bs.length:=by lia
   obtain⟨t',a',b'⟩:=h3 j bs[j] (by simp[gS]);have e2:kvs[j]?=some kv:=by rw[jc_ hj,ej]
   rw[e2]at a';have a2:kv=(nS (bs[j].1:Int),V.ref t'):=jt_ a';rw[a2]at hk;have dZ:bs[j].1=x.1:=by injection hk with hk;lia
   have ij:i=j:=by
    refine (oB (h₀:=by simpa using hi) (h₁:=by simpa using gS) nod).mp ?_;simp[ei,dZ]
   subst ij;rw[e2]at a;have a3:kv=(nS (x.1:Int),V.ref t):=jt_ a;rw[a3];rfl
 exact .inl ⟨kvs,nS (x.1:Int),h1,rfl,hf.symm⟩
def SqT.offm {K:α3} (h:SqT K H t xs)(hm:H m=some (.dK kv))(s:∀a u,a≠m->H a=some u->H' a=some u):SqT K H' t xs:=by
 rcases h with (q|⟨o,q⟩)|q
 ·exact .inl (.inl (s _ _ (fun z=>by rw[z,hm]at q;cases q) q))
 ·exact .inl (.inr ⟨o,s _ _ (fun z=>by rw[z,hm]at q;cases q) q⟩)
 ·exact .inr q
def BasD.offm {K:α3} (h:BasD K H d bs)(hm:H m=some (.dK kv))(hd:d≠m)(s:∀a u,a≠m->H a=some u->H' a=some u):BasD K H' d bs:=by
 obtain⟨kvs,h1,h2,h3⟩:=h;refine⟨kvs,?_,h2,fun i x hx=>?_⟩
 ·rcases h1 with h1|⟨o,h1⟩
  ·exact .inl (s _ _ hd h1)
  ·exact .inr ⟨o,s _ _ hd h1⟩
 ·obtain⟨t,a,b⟩:=h3 i x hx;exact⟨t,a,SqT.offm b hm s⟩
def Ny:⋯ EE.j17 3 ["p","bases","left","place"] (YJ K):=by
 delta EE.j17 DX
 ·obtain⟨p,d,l,q,bs,left,rfl,_⟩:=h;rfl
 ·obtain⟨p,d,l,q,bs,left,rfl,hp,hB,hL,hq,hz,h0,h1,hbz,gX,nod,ft,k⟩:=h;have hl:=Al;have cH:=hp.1;have jh:=hp.2.1;have em:left.getD q 0%p=left.getD q 0:=j0_ s!"" h1;refine⟨_,(Ac (Ak (i:=4) DX.nd (Af (Nx EE) hr.d An (Aa (pvD 0) (Aa (Af (Qf EE) hr.d (IT (P:=P) (w:=w)) (Aa (pvD 0) (Aa (As (ixTD Ay) (pvD 2) (pvD 3)) Ad))) (Aa (pvD 2) Ad)))))
   (Ac (Ak (i:=5) DX.nd OS)
   (Ac (Bx jL_ rfl (Tx (pvD 1)) (Aq (i:=6) DX.nd rfl (nM rfl))
   (Ae (FA (Fz hr) (pvD 5) (pvD 6) (Af (Jd EE) hr.d An (Aa (pvD 0) (Aa (Th (pvD 3) (pvD 4)) (Aa (L8 (Fz hr) (pvD 1) (pvD 6) (fun _ _=>rfl)) Ad)))) rfl)))
   (Ac (FA (Fz hr) (pvD 5) (pvD 3) (pvD 4) rfl)
   (Ae (Am (pvD 5))))))),?_⟩
  nofun;refine⟨_,hL,_,Mv hq,p,_,rfl,cH,jh,fun z=>by rw[em]at z;lia,fun _=>⟨by rw[em];exact hp.gcd h0 h1,fun inv i0 i1 dk=>?_⟩⟩;nofun;refine⟨p,inv,true,l,left,rfl,by lia,⟨by lia,by lia⟩,hL,hz,fun b H1 s1 hb=>?_⟩;nofun;intro m hm;obtain⟨base,aO⟩:∃base:α2,base=left.map fun y=>inv*y%p:=⟨_,rfl⟩;rw[<-aO]at hb;have jW:H m=none:=by
   cases e:H m with
   |none=>rfl
   |some u=>rw[s1 _ _ e]at hm;cases hm
  have s2:=s1.trans (Same.new hm (o:=.dK []));obtain⟨kvs,b1,b2,b3⟩:=hB.mono s2;refine⟨kvs,b1,fun o H3 gY hF=>?_⟩;have jk:d≠m:=fun z=>by
   subst z;obtain⟨kvs0,c1,_⟩:=hB;rcases c1 with c1|⟨o',c1⟩
   ·rw[jW]at c1;cases c1
   ·rw[jW]at c1;cases c1
  have hb3:H3 b=some (.tup (base.map V.int)):=by
   have:upd H1 m (.dK []) b=some (.tup (base.map V.int)):=(Same.new hm) _ _ hb;exact (hF.1 b _ (fun z=>by
    subst z;rcases b1 with c1|⟨o',c1⟩
    ·rw[this]at c1;cases c1
    ·rw[this]at c1;cases c1) this)
  have lj:H3 m=some (.dK []):=hF.1 m _ (qn_ jk) Ab;have hB3:BasD K H3 d bs:=BasD.fz ⟨kvs,b1,b2,b3⟩ hF;have hqn':q<left.length:=hq;obtain⟨Pv,aq⟩:∃Pv:Nat->St->Hp->Prop,∀i af H',Pv i af H'↔((∀a u,a≠m->H3 a=some u->H' a=some u)/\PutD K H' m ((bs.take i).map fun x=>(x.1,Aw p [(q,base)] x.2))/\∃o1,af=[some (.int p),some (.ref d),some (.ref l),some (.int q),some (.ref b),some (.ref m),o1]):=⟨_,fun _ _ _=>qE_⟩;have hbaseLen:base.length=left.length:=by rw[aO,ja_]
  refine YE Pv ((aq _ _ _).mpr ⟨fun a u _ h=>h,PutD.nil lj,none,rfl⟩) (fun i af H' _ h'=>((aq _ _ _).mp h').1 d _ jk gY) (fun i key v af H' bU h'=>?_) (fun af H' h'=>?_)
  ·obtain⟨s3,hP,o1,rfl⟩:=(aq _ _ _).mp h';have g8:i<bs.length:=by rw[<-b2];exact (je_.mp bU).1
   have mF:bs[i]?=some bs[i]:=by simp[g8]
   obtain⟨t,ht,_⟩:=b3 i _ mF;rw[bU]at ht;cases ht;have cR:bs[i]∈bs:=jR_ g8;have bN:bs.take (i+1)=bs.take i++[bs[i]]:=qu_ g8;have d9:bs[i].1∉(bs.take i).map (·.1):=fun hm=>by
    rw[zJ_]at hm;obtain⟨j,hj1,jX⟩:=List.mem_take_iff_getElem.mp hm;have:(bs.map (·.1))[j]'s!""=(bs.map (·.1))[i]'(by rw[ja_];exact g8):=by rw[jX];simp
    have:=(oB nod).mp this;lia
   have dj:=gX _ cR;generalize bs[i]=x at cR bN d9 dj bU;obtain⟨pl,xb⟩:=x;nofun;intro e he;have sE:=Same.new he (o:=.dK (Jp [] [((nS (q:Int):Key),V.ref b)]));have hB':=(hB3.offm lj jk s3).mono sE;have cO:=sE.seqT (SqT.offm (SqT.of (K:=K) hb3) lj s3);refine⟨Ab,[((nS (q:Int):Key),V.ref b)],rfl,Nat.le_of_ble_eq_true rfl,?_⟩;rw[Vz];obtain⟨t',eJ,hrow⟩:=hB'.get nod cR;have aC:m≠e:=fun z=>by
    subst z;obtain⟨kk,h1,_⟩:=hP;rw[he]at h1;cases h1
   have hxl:xb.length=left.length:=dj.1;refine⟨_,eJ,p,e,t',true,[(q,base)],xb,rfl,by lia,by lia,⟨_,.inl Ab,rfl,fun j x hx=>?_⟩,hrow,by lia,fun x hx=>?_,fun q1 H4 hF4 fY=>?_⟩
   ·have hj:j=0:=by
     have:=(je_.mp hx).1;simp at this;lia
    subst hj;cases hx;exact⟨b,rfl,cO⟩
   ·rw[ji_.mp hx];exact⟨hbaseLen.trans hxl.symm,by lia⟩
   ·have hP4:PutD K H4 m ((bs.take i).map fun x=>(x.1,Aw p [(q,base)] x.2)):=(hP.fz (FzAt.of sE) aC).fz hF4 aC;obtain⟨H5,g1,⟨kv1,kv2,g2,rfl⟩,g3⟩:=hP4.put (q:=pl) (v:=Aw p [(q,base)] xb) (t:=q1) (by rw[jK_];exact d9) (by rw[ja_,jI_];lia) fY;refine⟨_,g1,(aq _ _ _).mpr ⟨fun a u ha h=>?_,by rw[bN,jj_];exact g3,_,rfl⟩⟩;rw[Aj ha];exact hF4.1 a u (fun z=>by have:=s3 a u ha h;rw[z,he]at this;cases this) (sE _ _ (s3 a u ha h))
  ·obtain⟨s3,hP,o1,rfl⟩:=(aq _ _ _).mp h';rw[b2,jG_]at hP;nofun;obtain⟨H5,g1,⟨kv1,kv2,g2,rfl⟩,g3⟩:=hP.put (q:=q) (v:=base) (t:=b) (by rw[jK_];exact ft) (by rw[ja_];lia) (SqT.offm (SqT.of (K:=K) hb3) lj s3);refine⟨_,g1,k m inv _ ⟨fun a u ha h=>?_,fun u h=>?_⟩ i0 i1 dk (by
    have ew:Nt p inv bs left q=(bs.map fun x=>(x.1,Aw p [(q,base)] x.2))++[(q,base)]:=by rw[aO];rfl
    rw[ew];exact g3.bas) jW⟩
   ·have ham:a≠m:=fun z=>by rw[z,jW]at h;cases h
    rw[Aj ham];exact s3 a u ham (hF.1 a u ha (s2 _ _ h))
   ·rw[Aj jk];rcases hF.2 u (s2 _ _ h) with h' | ⟨kvs,o,e,h'⟩
    ·exact .inl (s3 _ _ jk h')
    ·exact .inr ⟨kvs,o,e,s3 _ _ jk h'⟩
noncomputable def natV (ks:List Nat):List V:=ks.map fun (k:Nat)=>V.int (k:Int)
noncomputable def Yn (K:α3):Sp:=fun vs H Q _=>∃(p:Int) (t:Bool) (a:Addr) (m n:Nat) (xs:List V) (ae:α1),vs=[.int p,.ref a,.int m]/\Pr p/\SqB K H t a xs/\Fu K H xs ae/\(∀r∈ae,r.length=n)/\m<=n/\n<=900/\ae.length<=900/\∀q l d bs H',Same H H'->SqT K H' q [.ref l,.ref d]->H' l=some (.lst (natV (DJ p m ae)))->BasD K H' d bs->Seen p n m ae bs->H d=none->H l=none->Q (.ref q) H'
def BasD.offl {K:α3} (h:BasD K H d bs)(hp:H p=some (.lst zs)):BasD K (upd H p (.lst ys)) d bs:=by
 obtain⟨kvs,h1,h2,h3⟩:=h;refine⟨kvs,?_,h2,fun i x hx=>?_⟩
 ·rcases h1 with h1|⟨o,h1⟩
  ·exact .inl (by rw[Aj (fun z=>by rw[z,hp]at h1;cases h1)];exact h1)
  ·exact .inr ⟨o,by rw[Aj (fun z=>by rw[z,hp]at h1;cases h1)];exact h1⟩
 ·obtain⟨t,a,b⟩:=h3 i x hx;exact⟨t,a,Kj hp b⟩
def Same.gone (s:Same H H')(h:H' a=none):H a=none:=by
 cases e:H a with
 |none=>rfl
 |some u=>rw[s _ _ e]at h;cases h
def R8 (p inv:Int)(bs:List (Nat×α2))(left:α2)(q:Nat):(Nt p inv bs left q).length=bs.length+1:=by unfold Nt;simp
def Ho:⋯ EE.j18 4 ["p","rows","size"] (Yn K):=by
 delta EE.j18 AE
 ·obtain⟨p,t,a,m,n,xs,ae,rfl,_⟩:=h;rfl
 ·obtain⟨p,t,a,m,n,xs,ae,rfl,hp,ha,hR,dm,gV,hn,hz,k⟩:=h;have hl:=Al;have cH:=hp.1;have jh:=hp.2.1;refine⟨_,(Ac (Ak (i:=3) AE.nd (E9 Ad))
   (Ac (Ak (i:=4) AE.nd OS)
   (Ac (Bx jL_ rfl (X2 (O3 rfl EE.enumerate (pvD 1)) (Me rfl EE.enumerate (pvD 1))) (LC rfl (Bg (Aq (i:=5) AE.nd rfl (nM rfl)) (Bg (Aq (i:=6) AE.nd rfl (nM rfl)) Fw)))
   (Ac (Ak (i:=7) AE.nd (Af (Jd EE) hr.d An (Aa (pvD 0) (Aa (pvD 4) (Aa (pvD 6) Ad)))))
   (Ac (Ak (i:=8) AE.nd (Af (Ex EE) hr.d An (Aa (BS Oh (pvD 7) C1 (C2 (pvD 2))) Ad)))
   (Ae (AZ (ptT (Ap QE (pvD 8) Bw (Av _)))
   (Ac (AB (M6 qi_ qs_ qt_ Dv (pvD 3) (Aa (pvD 5) Ad)))
   (Ae (Ak (i:=4) AE.nd (Af (Ny EE) hr.d An (Aa (pvD 0) (Aa (pvD 4) (Aa (pvD 7) (Aa (pvD 8) Ad))))))))
   Au)))))
   (Ae (Am (Ce (Aa (pvD 3) (Aa (pvD 4) Ad)))))))),?_⟩
  nofun;refine⟨j3_ _,fun l fB d0 iN=>?_⟩;have s0:=(Same.new fB (o:=.lst [])).newT iN (o:=.dK []);have iO:H d0=none:=by
   cases e:H d0 with
   |none=>rfl
   |some u=>rw[(Same.new fB (o:=.lst [])) _ _ e]at iN;cases iN
  have aC:l≠d0:=fun z=>by subst z;rw[Ab]at iN;cases iN
  obtain⟨Pv,aq⟩:∃Pv:Nat->St->Hp->Prop,∀i af H',Pv i af H'↔(Same H H'/\H' l=some (.lst (natV (DJ p m (ae.take i))))/\∃(d:Addr) (bs:List (Nat×α2)) (o1 o2 o3 o4:Option V),H d=none/\BasD K H' d bs/\Seen p n m (ae.take i) bs/\bs.length<=i/\af=[some (.int p),some (.ref a),some (.int m),some (.ref l),some (.ref d),o1,o2,o3,o4]):=⟨_,fun _ _ _=>qE_⟩;refine forE (ha.mono s0) Pv ((aq _ _ _).mpr ⟨s0,by rw[Aj aC,Ab];rfl,d0,[],none,none,none,none,iO,PutD.bas (PutD.nil Ab),⟨⟨by simp,by simp,.nil⟩,by simp,by simp,by simp⟩,jf_ _,rfl⟩) (fun i af H' _ h'=>ha.mono ((aq _ _ _).mp h').1) (fun i v af H' q hv h' hq=>?_) (fun af H' h'=>?_)
  ·obtain⟨s1,cy,d,bs,o1,o2,o3,o4,hd,hB,hS,hbz,rfl⟩:=(aq _ _ _).mp h';have hi:i<ae.length:=by rw[<-hR.1];exact (je_.mp hv).1
   have mG:ae[i]?=some ae[i]:=by simp[hi]
   obtain⟨tr,ht,hrow⟩:=hR.2 i _ mG;rw[hv]at ht;cases ht;have aW:=dm _ (jR_ hi);have bN:ae.take (i+1)=ae.take i++[ae[i]]:=(qu_ hi);generalize ae[i]=row at hrow aW bN;nofun;have s2:=Same.new hq (o:=.tup [.int i,.ref tr]);refine⟨_,SqT.of Ab,rfl,_,_,rfl,_,_,rfl,rfl,p,d,tr,true,bs,row,rfl,by lia,by lia,hB.mono s2,s2.seqT (s1.seqT hrow),by lia,fun x hx=>by rw[aW];exact⟨(hS.b.len x hx).1,(hS.b.len x hx).2.1⟩,fun q1 H3 jY fY=>⟨q1,rfl,_,fY,fun p1 H4 s4 eO=>?_⟩⟩;rw[LM,<-zJ_]at eO;have bX:=hS.iff s!"" gV aW;have jZ:=(CJ row aW bs hS.b).1;have gf:=F2 (p:=p) s!"" row bs;have dJ:=Ph (p:=p) s!"" aW hS.b;have hmore:=fun (inv:Int) (qq:Nat) (h1:qq<m) (h2:inv*(Aw p bs row).getD qq 0%p=1)=>hS.more (inv:=inv) cH gV aW h1 h2;have dD:=hS.same aW;generalize Aw p bs row=left at fY eO bX jZ gf dJ hmore dD;have fM:∀qq:Nat,qq<m->(left.take m).getD qq 0=left.getD qq 0:=fun qq mH=>by
    rw[jb_,pT,if_pos mH,<-jb_]
   have aF:(left.take m).length=m:=by rw[jI_];lia
   have hl3:=jY.lst (s2 _ _ cy);have jl:(ae.take i).length=i:=by rw[jI_];lia
   have bh:(DJ p m (ae.take i)).length<=i:=by
    unfold DJ;refine j6_ (pd _ _) ?_;rw[jT_,jl];exact jf_ _
   refine⟨p1,left.take m,rfl,eO,by lia,fun qn H5 s5 ft bC=>?_,fun H5 s5 aA=>?_⟩
   ·rw[aF]at ft;rw[fM qn ft]at bC;rw[if_pos (by simp)];have jm:=s5 _ _ (s4 _ _ hl3);have g:=getD_in (show 0<p by lia) gf qn;have bS:¬ Span p m (ae.take i) fun j=>row.getD j 0:=fun z=>bC (bX.mpr z qn ft);have hB5:=((hB.mono s2).fz jY).mono (s4.trans s5);have hS5:Same H H5:=(jY.same (s1.trans s2) hd).trans (s4.trans s5);have aC:d≠l:=fun z=>by
     obtain⟨kk,c1,_⟩:=hB;rcases c1 with c1|⟨o,c1⟩
     ·rw[z,cy]at c1;cases c1
     ·rw[z,cy]at c1;cases c1
    refine⟨.inl ⟨rfl,_,SqL.of jm⟩,_,jm,by unfold natV;rw[ja_];lia,p,d,q1,qn,bs,left,rfl,hp,hB5.offl jm,Kj jm ((s4.trans s5).seqT fY),by lia,by lia,by lia,g.2,by lia,fun x hx=>by rw[jZ];exact⟨(hS.b.len x hx).1,(hS.b.len x hx).2.1⟩,hS.b.nodup,fun hm=>?_,fun m' inv H7 hF7 i0 i1 dk hB7 hm7=>?_⟩
    ·obtain⟨x,hx,e⟩:=jv_.mp hm;exact bC (by rw[<-e];exact dJ x hx)
    ·have ka:Same H (upd H5 l (.lst (natV (DJ p m (ae.take i))++[V.int i]))):=hS5.over fB;refine (aq _ _ _).mpr ⟨hF7.same ka hd,?_,m',_,_,_,_,_,Mine.Same.gone ka hm7,hB7,by rw[bN];exact hmore inv qn ft dk,by rw[R8];lia,rfl⟩;rw[hF7.lst Ab,bN,EZ,if_neg bS,jl];unfold natV;rw[jj_];rfl
   ·show if (!decide (V.non=V.non))=true then _ else _
    rw[if_neg (by simp)];have lp:∀j:Nat,j<m->left.getD j 0=0:=fun j hj=>by rw[<-fM j hj];exact aA j s!""
    have bS:=bX.mp lp;refine (aq _ _ _).mpr ⟨(jY.same (s1.trans s2) hd).trans (s4.trans s5),?_,d,bs,_,_,_,_,hd,((hB.mono s2).fz jY).mono (s4.trans s5),by rw[bN];exact dD lp,by lia,rfl⟩;rw[s5 _ _ (s4 _ _ hl3),bN,EZ,if_pos bS,xA_]
  ·obtain⟨s1,cy,d,bs,o1,o2,o3,o4,hd,hB,hS,hbz,rfl⟩:=(aq _ _ _).mp h';rw[hR.1,jG_]at cy hS;nofun;refine⟨by lia,fun q hq=>?_⟩;have s2:=Same.new hq (o:=.tup [.ref l,.ref d]);exact k q l d bs _ (s1.trans s2) (SqT.of Ab) (s2 _ _ cy) (hB.mono s2) hS hd fB
noncomputable def Wz (K:α3):Sp:=fun vs H Q _=>∃(n:Nat) (k:Nat),vs=[.int n,.int k]/\n<=900/\∀q H',Same H H'->H' q=some (.tup ((Bu n k).map V.int))->Q (.ref q) H'
def R9:⋯ EE.j11 1 ["size","place"] (Wz K):=by
 delta EE.j11 Ws
 ·obtain⟨n,k,rfl,_⟩:=h;rfl
 ·obtain⟨n,c,rfl,hn,k⟩:=h;have hl:=Al;refine⟨_,(Ae (Am (AF AM rfl EE.tuple jO_ (Aa (BN rfl (BL rfl) (cp:=Pf) ⟨⟨rfl,rfl⟩,nL⟩ (Cd rfl EE.range (Aa (pvD 0) Ad)) (fun _ _ _ _=>(Aq (i:=0) Ox rfl (nM rfl))) (fun _ _ _ _=>By) (fun _ _ _ _=>(OL (ptT (Ap (opE Gw) (pvD 0) (pvD 1) (Av _))) Ai Ai))) Ad)))),?_⟩;nofun;refine⟨by lia,by lia,?_⟩;rw[jz_];refine Q8 (fun j zs aQ H4=>H4=H/\zs=(((nJ j).map fun i=>if i=c then (1:Int) else 0)).map V.int/\∃o,aQ=[o,some (.int c)]) ⟨rfl,rfl,none,rfl⟩ s!"" (fun j zs aQ H4 _ h4=>?_) (fun j zs aQ H4 hj h4=>?_) (fun zs aQ H4 h4 D hD=>?_)
  ·rw[h4.2.1,ja_,ja_,jT_];exact jf_ _
  ·obtain⟨rfl,rfl,o,rfl⟩:=h4;rw[xF_];nofun;rw[qC_,jj_,jj_];by_cases mI:j=c
   ·rw[if_pos (by rw[mI])];exact⟨by rw[j7_,if_pos mI];rfl,_,rfl⟩
   ·rw[if_neg s!""];exact⟨by rw[j7_,if_neg mI];rfl,_,rfl⟩
  ·obtain⟨rfl,rfl,o,rfl⟩:=h4;exact⟨D,rfl,_,.inl ⟨SqL.of Ab,fun q hq=>k q _ ((Same.new hD).newT hq) Ab⟩⟩
def Qj (d:Nat)(v:V):(nI d [v]).flatten=nI d v:=by
 induction d with
 |zero=>rfl
 |succ d ih=>rw[qD_,xI_,ih,qD_];rfl
noncomputable def ToldF (H:Hp)(p:Int)(m:Nat)(ae:α1)(bs:List (Nat×α2))(zs:List V)(aB:α1):Prop:=zs.length=aB.length/\∀(i:Nat) (r:α2),aB[i]?=some r->(Span p m ae (fun j=>r.getD j 0)/\∃c,zs[i]?=some (.ref c)/\H c=some (.lst ((((Aw p bs (r++nI ae.length 0)).drop m).map fun y => -y%p).map V.int)))\/(¬ Span p m ae (fun j=>r.getD j 0)/\zs[i]?=some .non)
noncomputable def YK (K:α3):Sp:=fun vs H Q _=>∃(p:Int) (t:Bool) (a b:Addr) (m:Nat) (xs ys:List V) (ae aB:α1),vs=[.int p,.ref a,.ref b,.int m]/\Pr p/\SqB K H t a xs/\Fu K H xs ae/\(∀r∈ae,r.length=m)/\SqL K H b ys/\Fu K H ys aB/\(∀r∈aB,r.length=m)/\m<=400/\ae.length<=400/\aB.length<=900/\∀l zs bs H',Same H H'->H l=none->H' l=some (.lst zs)->Seen p (m+ae.length) m (Ba ae) bs->ToldF H' p m ae bs zs aB->Q (.ref l) H'
def ToldF.keep (h:ToldF H p m ae bs zs aB)(k:∀c ys,(∃j:Nat,zs[j]?=some (V.ref c))->H c=some (.lst ys)->H' c=some (.lst ys)):ToldF H' p m ae bs zs aB:=by
 refine⟨h.1,fun i r hi=>?_⟩;rcases h.2 i r hi with ⟨a,c,e1,e2⟩|h'
 ·exact .inl ⟨a,c,e1,k c _ ⟨i,e1⟩ e2⟩
 ·exact .inr h'
def ToldF.snoc (h:ToldF H p m ae bs zs aB)(g:(Span p m ae (fun j=>r.getD j 0)/\∃c,z=.ref c/\H c=some (.lst ((((Aw p bs (r++nI ae.length 0)).drop m).map fun y => -y%p).map V.int)))\/(¬ Span p m ae (fun j=>r.getD j 0)/\z=.non)):ToldF H p m ae bs (zs++[z]) (aB++[r]):=by
 refine⟨by simp[h.1],fun i v hi=>?_⟩;by_cases hl:i<aB.length
 ·rw[jw_ hl]at hi;rw[jw_ (by rw[h.1];exact hl)];exact h.2 i v hi
 ·have:=(je_.mp hi).1;rw[ju_,jU_]at this;have e:i=aB.length:=by lia
  subst e;rw[jy_ (jf_ _),qL_]at hi;simp at hi;subst hi;have ez:(zs++[z])[aB.length]?=some z:=by rw[<-h.1];simp
  rw[ez];rcases g with ⟨a,c,e1,e2⟩|⟨a,e1⟩
  ·exact .inl ⟨a,c,by rw[e1],e2⟩
  ·exact .inr ⟨a,by rw[e1]⟩
def Pk {zs:List V}{z v:V}{j:Nat}(h:(zs++[z])[j]?=some v):zs[j]?=some v\/z=v:=by
 by_cases hl:j<zs.length
 ·rw[jw_ hl]at h;exact .inl h
 ·rw[jy_ s!""]at h;have:=(je_.mp h).1;simp at this;have e:j-zs.length=0:=by lia
  rw[e]at h;exact .inr (by simpa using h)
def Ie:⋯ EE.j19 5 ["p","rows","some","size"] (YK K):=by
 delta EE.j19 AH
 ·obtain⟨p,t,a,b,m,xs,ys,ae,aB,rfl,_⟩:=h;rfl
 ·obtain⟨p,t,a,b,m,xs,ys,ae,aB,rfl,hp,ha,hR,dm,hb,hY,hsn,hm,hz,hsz,k⟩:=h;have hl:=Al;have cH:=hp.1;have jh:=hp.2.1;refine⟨_,(Ac (Jm (i:=4) AH.nd rfl (oq rfl) (AK (lenD AG) (by rfl) EE.len qm_ (Aa (pvD 1) Ad)))
   (Ac (IQ (i:=5) AH.nd rfl rfl rfl (BL rfl) (cp:=DH) ⟨⟨rfl,rfl⟩,nL⟩ (X2 (O3 rfl EE.enumerate (pvD 1)) (Me rfl EE.enumerate (pvD 1))) (fun _ _ _ _=>(Og (K:=K) (n:=2) rfl rfl (Bg (Aq (i:=0) Cu rfl (nM rfl)) (Bg (Aq (i:=1) Cu rfl (nM rfl)) Fw)))) (fun _ _ _ _=>By) (fun _ _ _ _=>(Ar (FF (K:=K) rfl) (AF (Mi (K:=K) rfl) rfl EE.tuple jO_ (Aa (pvD 1) Ad)) (Af (R9 EE) hr.d An (Aa (pvD 2) (Aa (pvD 0) Ad))))))
   (Ac (Ak (i:=6) AH.nd (As (ixTD Ay) (Af (Ho EE) hr.d An (Aa (pvD 0) (Aa (pvD 5) (Aa (pvD 3) Ad)))) Ai))
   (Ac (Ak (i:=7) AH.nd (E9 Ad))
   (Ac (Bx jL_ rfl (Br (pvD 2)) (Aq (i:=8) AH.nd rfl (nM rfl))
   (Ac (Ak (i:=9) AH.nd (Af (Jd EE) hr.d An (Aa (pvD 0) (Aa (pvD 6) (Aa (Ar Dj (AF Js rfl EE.tuple jO_ (Aa (pvD 8) Ad)) (Ar VZ (Ce (Aa Ai Ad)) (pvD 4))) Ad)))))
   (Ac (Ak (i:=10) AH.nd (N0 MZ (Af (Ex EE) hr.d An (Aa (BS Oh (pvD 9) C1 (C2 (pvD 3))) Ad)) Bw (Av _)))
   (Ae (AB (M6 qi_ qs_ qt_ Dv (pvD 7) (Aa (OL (ptB (Fv (pvD 10))) (BN rfl (BL rfl) (cp:=DI) ⟨⟨rfl,rfl⟩,nL⟩ (MW (BS Oh (pvD 9) (C2 (pvD 3)) C1)) (fun _ _ _ _=>(Aq (i:=0) Ft rfl (nM rfl))) (fun _ _ _ _=>By) (fun _ _ _ _=>(Ar (opD A0) (Lm GF (pvD 0)) (pvD 1)))) Bw) Ad)))))))
   (Ae (Am (pvD 7)))))))),?_⟩
  nofun;refine⟨xs,(by cases t;exact .inl ha;exact .inr ha),?_⟩;rw[hR.1];have hlm:(Ba ae).length=ae.length:=by unfold Ba;simp
  obtain⟨Pc,bM⟩:∃Pc:Nat->List V->St->Hp->Prop,∀j zs aQ H4,Pc j zs aQ H4↔(Same H H4/\Fu K H4 zs ((Ba ae).take j)/\∃o1 o2,aQ=[o1,o2,some (.int ae.length)]):=⟨_,fun _ _ _ _=>qE_⟩;refine YG ha Pc ((bM _ _ _ _).mpr ⟨Same.refl _,by rw[xu_];exact Fu.nil,none,none,rfl⟩) (by rw[hR.1];lia) (fun j zs aQ H4 hj h4=>?_) (fun j v zs aQ H4 q hv h4 hq=>?_) (fun zs aQ H4 h4 D hD=>?_)
  ·obtain⟨s4,eP,_⟩:=(bM _ _ _ _).mp h4;exact⟨ha.mono s4,by rw[eP.1,jI_];lia⟩
  ·obtain⟨s4,eP,o1,o2,rfl⟩:=(bM _ _ _ _).mp h4;have hi:j<ae.length:=by rw[<-hR.1];exact (je_.mp hv).1
   obtain⟨tr,ht,hrow⟩:=hR.2 j ae[j] (by simp[hi]);rw[hv]at ht;cases ht;have s5:=Same.new hq (o:=.tup [.int j,.ref tr]);have bN:(Ba ae).take (j+1)=(Ba ae).take j++[ae[j]++Bu ae.length j]:=by
    rw[qu_ (hlm ▸ hi)]
    congr 2
    unfold Ba;rw[xS_,pS,jb_,jc_ hi];rfl
   have aW:=dm _ (jR_ hi);generalize ae[j]=row at hrow bN aW;nofun;refine⟨_,SqT.of Ab,rfl,_,_,rfl,_,_,rfl,rfl,tr,rfl,_,.inr ⟨s5.seqT (s4.seqT hrow),ae.length,j,rfl,by lia,fun q6 H6 s6 gh=>?_⟩⟩;refine Cb.of (s6.seqT (s5.seqT (s4.seqT hrow))) (SqT.of gh) (by unfold Bu;simp;lia) fun q7 H7 s7 mJ=>?_;refine (bM _ _ _ _).mpr ⟨s4.trans (s5.trans (s6.trans s7)),?_,_,_,rfl⟩;rw[bN];exact (eP.mono (s5.trans (s6.trans s7))).snoc (by rw[jj_];exact mJ)
  ·obtain⟨s4,eP,o1,o2,rfl⟩:=(bM _ _ _ _).mp h4;rw[hR.1,<-hlm,jG_]at eP;nofun;have sD:=Same.new hD (o:=.lst zs);refine⟨p,false,D,m,m+ae.length,zs,Ba ae,rfl,hp,SqL.of Ab,eP.mono sD,Qd dm,by lia,by lia,by lia,fun q6 l6 d bs H6 s6 gh _ hB S iN _=>⟨q6,rfl,_,gh,.ref d,rfl,j3_ _,fun l fB=>?_⟩⟩;have mK:Same H H6:=(s4.trans sD).trans s6;have s7:=Same.new fB (o:=.lst []);have iO:H d=none:=Mine.Same.gone (s4.trans sD) iN;have iP:H l=none:=Mine.Same.gone mK fB;refine⟨⟨_,(mK.trans s7).seq hb⟩,?_⟩;obtain⟨Pv,aq⟩:∃Pv:Nat->St->Hp->Prop,∀i af H',Pv i af H'↔(Same H H'/\BasD K H' d bs/\∃(us:List V) (o1 o2 o3:Option V),H' l=some (.lst us)/\ToldF H' p m ae bs us (aB.take i)/\(∀(j:Nat) (c:Addr),us[j]?=some (.ref c)->c≠l)/\af=[some (.int p),some (.ref a),some (.ref b),some (.int m),some (.int ae.length),some (.ref D),some (.ref d),some (.ref l),o1,o2,o3]):=⟨_,fun _ _ _=>qE_⟩;refine forL Pv ((aq _ _ _).mpr ⟨mK.trans s7,hB.mono s7,[],none,none,none,Ab,⟨rfl,fun i r hi=>by simp at hi⟩,by simp,rfl⟩) (fun i af H' _ h'=>((aq _ _ _).mp h').1.seq hb) (fun i v af H' hv h'=>?_) (fun af H' h'=>?_)
   ·obtain⟨s8,lq,us,o1,o2,o3,hu,hT,aC,rfl⟩:=(aq _ _ _).mp h';have hi:i<aB.length:=by rw[<-hY.1];exact (je_.mp hv).1
    obtain⟨tr,ht,hrow⟩:=hY.2 i aB[i] (by simp[hi]);rw[hv]at ht;cases ht;have aW:=hsn _ (jR_ hi);have bN:aB.take (i+1)=aB.take i++[aB[i]]:=qu_ hi;generalize aB[i]=row at hrow aW bN;nofun;have etl:(aB.take i).length=i:=by rw[jI_];lia
    refine⟨_,.inr ⟨s8.seqT hrow,by lia,fun p1 eO=>?_⟩⟩;have sA:=Same.new eO (o:=.tup [V.int 0]);refine Tg.of (SqT.of Ab) (by simp) s!"" s!"" (by simp;lia) fun pt H2 s2 ht=>?_;rw[jz_,Qj]at ht;refine Cb.of ((s8.trans (sA.trans s2)).seqT hrow) ht (by simp;lia) fun q5 H5 s5 iM=>?_;have sB:=sA.trans (s2.trans s5);have erow:(row++nI ae.length 0).map V.int=row.map V.int++nI ae.length (V.int 0):=by rw[jj_,List.map_replicate]
    rw[<-erow]at iM;have hr0:(row++nI ae.length (0:Int)).length=m+ae.length:=by simp[aW]
    have jZ:=(CJ (row++nI ae.length 0) hr0 bs S.b).1;have bX:=R4 (show 0<p by lia) dm S aW;refine⟨p,d,q5,true,bs,row++nI ae.length 0,rfl,by lia,by lia,lq.mono sB,iM,by lia,fun x hx=>by rw[hr0];exact⟨(S.b.len x hx).1,(S.b.len x hx).2.1⟩,fun q6 H6 jo gh=>⟨q6,rfl,_,gh,fun p7 H7 s7 jq=>?_⟩⟩;rw[LM,<-zJ_]at jq;have aF:((Aw p bs (row++nI ae.length 0)).take m).length=m:=by rw[jI_];lia
    have fM:∀qq:Nat,qq<m->((Aw p bs (row++nI ae.length 0)).take m).getD qq 0=(Aw p bs (row++nI ae.length 0)).getD qq 0:=fun qq mH=>by
     rw[jb_,pT,if_pos mH,<-jb_]
    generalize dC:Aw p bs (row++nI ae.length 0)=left at gh jq jZ bX aF fM;have hu6:=jo.lst (sB _ _ hu);have ka:Same H H6:=jo.same (s8.trans sB) iO;refine⟨p7,left.take m,rfl,jq,by lia,fun qn H9 s9 ft bC=>?_,fun H9 s9 aA=>?_⟩
    ·rw[aF]at ft;rw[fM qn ft]at bC;have hu9:=s9 _ _ (s7 _ _ hu6);refine⟨.inl ⟨rfl,_,SqL.of hu9⟩,?_⟩;show if V.int qn=V.non then _ else _
     rw[if_neg (by simp)];have hnsp:¬ Span p m ae fun j=>row.getD j 0:=fun z=>bC (bX.mpr z qn ft);refine⟨_,hu9,by rw[hT.1];lia,(aq _ _ _).mpr ⟨((ka.trans (s7.trans s9))).over iP,(((lq.mono sB).fz jo).mono (s7.trans s9)).offl hu9,us++[.non],_,_,_,Ab,?_,fun j c hj=>?_,rfl⟩⟩
     ·rw[bN];refine (hT.keep fun c ys hc h=>?_).snoc (.inr ⟨hnsp,rfl⟩);obtain⟨j,hj⟩:=hc;rw[Aj (aC j c hj)];exact s9 _ _ (s7 _ _ (jo.lst (sB _ _ h)))
     ·rcases Pk hj with hj|hj
      ·exact aC j c hj
      ·cases hj
    ·have lp:∀j:Nat,j<m->left.getD j 0=0:=fun j hj=>by rw[<-fM j hj];exact aA j s!""
     have bS:=bX.mp lp;have hu9:=s9 _ _ (s7 _ _ hu6);refine⟨.inl ⟨rfl,_,SqL.of hu9⟩,?_⟩;show if V.non=V.non then _ else _
     rw[if_pos rfl];refine⟨q6,rfl,_,(s7.trans s9).seqT gh,fun p8 mL eQ mM=>⟨⟨_,mM⟩,?_⟩⟩;rw[Qc,<-pJ]at mM;obtain⟨gg,hgg⟩:∃g:V->V,∀n:Int,g (V.int n)=.int (-n%p):=⟨fun x=>match x with | .int n=>.int (-n%p)|_=>.non,fun _=>rfl⟩;refine Md (af:=[some (.int p)]) gg rfl mM (by rw[ja_,qj_];lia) (fun x hx R hR=>?_) (fun D2 g9=>?_)
     ·obtain⟨n,hn,rfl⟩:=jv_.mp hx;rw[hgg]at hR;nofun;exact⟨by lia,hR⟩
     ·have em:((left.drop m).map V.int).map gg=((left.drop m).map fun y => -y%p).map V.int:=by
       rw[jK_,jK_];exact jH_ fun n _=>hgg n
      rw[em];have sD2:=Same.new g9 (o:=.lst (((left.drop m).map fun y => -y%p).map V.int));have hu10:=sD2 _ _ (eQ _ _ hu9);have hDl:D2≠l:=fun z=>by rw[z,eQ _ _ hu9]at g9;cases g9
      have sZ:=s7.trans (s9.trans (eQ.trans sD2));refine⟨_,hu10,by rw[hT.1];lia,(aq _ _ _).mpr ⟨(ka.trans sZ).over iP,(((lq.mono sB).fz jo).mono sZ).offl hu10,us++[.ref D2],_,_,_,Ab,?_,fun j c hj=>?_,rfl⟩⟩
      ·rw[bN];refine (hT.keep fun c ys hc h=>?_).snoc (.inl ⟨bS,D2,rfl,?_⟩)
       ·obtain⟨j,hj⟩:=hc;rw[Aj (aC j c hj)];exact sZ _ _ (jo.lst (sB _ _ h))
       ·rw[Aj hDl,Ab,dC]
      ·rcases Pk hj with hj|hj
       ·exact aC j c hj
       ·cases hj;exact hDl
   ·obtain⟨s8,lq,us,o1,o2,o3,hu,hT,aC,rfl⟩:=(aq _ _ _).mp h';rw[hY.1,jG_]at hT;nofun;exact k l us bs _ s8 iP hu S hT
noncomputable def Tabs (K:α3)(H:Hp)(tt:Addr)(tables:α0):Prop:=∃us:List Addr,SqT K H tt (us.map V.ref)/\us.length=tables.length/\∀(i:Nat) (u:Addr) (tb:α1),us[i]?=some u->tables[i]?=some tb->∃xs,SqT K H u xs/\Fu K H xs tb
def Tabs.mono {K:α3} (h:Tabs K H tt tables)(s:Same H H'):Tabs K H' tt tables:=by
 obtain⟨us,a,b,c⟩:=h;refine⟨us,s.seqT a,b,fun i u tb h1 h2=>?_⟩;obtain⟨xs,d,e⟩:=c i u tb h1 h2;exact⟨xs,s.seqT d,e.mono s⟩
noncomputable def SumH (K:α3)(H:Hp)(h:Addr)(p:Int)(L:Int)(first:α2)(tables:α0)(last:α2):Prop:=∃tf tt tl:Addr,SqT K H h [.int p,.int L,.ref tf,.ref tt,.ref tl]/\SqT K H tf (first.map V.int)/\SqT K H tl (last.map V.int)/\Tabs K H tt tables
def SumH.mono {K:α3} (x:SumH K H h p L first tables last)(s:Same H H'):SumH K H' h p L first tables last:=by
 obtain⟨tf,tt,tl,a,b,c,d⟩:=x;exact⟨tf,tt,tl,s.seqT a,s.seqT b,s.seqT c,d.mono s⟩
structure WfSum (p L:Int)(d:Nat)(first:α2)(tables:α0)(last:α2):Prop where
 p2:2<=p
 p18:p<1000000000000000000
 dl:d<=16
 f:first.length=d/\∀x∈first,0<=x/\x<p
 l:last.length=d/\∀x∈last,0<=x/\x<p
 t:(tables.length:Int)=L
 tt:∀tb∈tables,tb.length=d/\∀r∈tb,r.length=d
noncomputable def MA (p:Int)(d:Nat)(tables:α0)(row:α2)(x:Int):α2:=Jc p (tables.getD x.toNat []) row d
noncomputable def rowS (p:Int)(d:Nat)(tables:α0)(first ws:α2):α2:=ws.foldl (MA p d tables) first
def TU (hp:0<p) : ∀x∈Jc p ae am n,0<=x/\x<p:=fun x hx=>by
 obtain⟨c,_,rfl⟩:=jv_.mp hx;exact⟨jC_ _ s!"",jx_ _ hp⟩
def K6 (p:Int)(ae:α1)(am:α2)(n:Nat):(Jc p ae am n).length=n:=by unfold Jc;rw[ja_,jT_]
def WfSum.row (wf:WfSum p L d first tables last)(ws:α2):(rowS p d tables first ws).length=d/\∀x∈rowS p d tables first ws,0<=x/\x<p:=by
 have h2:=wf.p2;have key:∀(ws r:α2),(r.length=d/\∀x∈r,0<=x/\x<p)->((ws.foldl (MA p d tables) r).length=d/\∀x∈ws.foldl (MA p d tables) r,0<=x/\x<p):=fun ws=>by
  induction ws with
  |nil=>exact fun r h=>h
  |cons y ws ih=>exact fun r _=>ih _ ⟨K6 _ _ _ _,TU s!""⟩
 exact key ws first wf.f
def K7 {p:Int}{d:Nat}{tables:α0}{first ws:α2}{i:Nat}{x:Int}(h:ws[i]?=some x):rowS p d tables first (ws.take (i+1))=MA p d tables (rowS p d tables first (ws.take i)) x:=by
 unfold rowS;rw[jQ_,h,xz_,qH_];rfl
def WfSum.table (wf:WfSum p L d first tables last) (x0:0<=x)(x1:x<L):tables[x.toNat]?=some (tables.getD x.toNat [])/\(tables.getD x.toNat []).length=d/\∀r∈tables.getD x.toNat [],r.length=d:=by
 have hx:x.toNat<tables.length:=by have:=wf.t;lia
 have e:tables.getD x.toNat []=tables[x.toNat]:=by rw[jb_,jc_ hx];rfl
 rw[e];exact⟨by rw[jc_ hx],wf.tt _ (jR_ hx)⟩
def Tabs.at {K:α3}{H:Hp}{tt:Addr}{tables:α0}(h:Tabs K H tt tables){i:Nat}{tb:α1}(ht:tables[i]?=some tb):∃zs u xs,SqT K H tt zs/\atI zs (i:Int)=some (V.ref u)/\SqT K H u xs/\Fu K H xs tb:=by
 obtain⟨us,a,b,c⟩:=h;have hi:i<us.length:=by rw[b];exact (je_.mp ht).1
 have hu:us[i]?=some us[i]:=by simp[hi]
 obtain⟨xs,d,e⟩:=c i _ tb hu ht;exact⟨_,us[i],xs,a,EH (by rw[jh_,hu];rfl),d,e⟩
noncomputable def Qk (K:α3):Sp:=fun vs H Q _=>∃(h r:Addr) (p L x:Int) (d:Nat) (first last row:α2) (tables:α0),vs=[.ref h,.ref r,.int x]/\SumH K H h p L first tables last/\WfSum p L d first tables last/\SqT K H r (row.map V.int)/\row.length=d/\(∀y∈row,0<=y/\y<p)/\0<=x/\x<L/\∀q H',Same H H'->H' q=some (.tup ((MA p d tables row x).map V.int))->Q (.ref q) H'
def Ql:⋯ EE.j31 3 ["house","row","letter"] (Qk K):=by
 delta EE.j31 P9
 ·obtain⟨h,r,p,L,x,d,first,last,row,tables,rfl,_⟩:=h;rfl
 ·obtain⟨h,r,p,L,x,d,first,last,row,tables,rfl,hh,wf,hrr,aW,mG,x0,x1,k⟩:=h;have h2:=wf.p2;have h18:=wf.p18;have hd:=wf.dl;refine⟨_,(Ae (Am (Af (Qi EE) hr.d An (Aa (As (ixTD Ay) (pvD 0) Ai) (Aa (As (ixTD Ay) (As (ixTD Ay) (pvD 0) Ai) (pvD 2)) (Aa (pvD 1) (Aa (AK (lenD AG) (by rfl) EE.len qm_ (Aa (pvD 1) Ad)) Ad))))))),?_⟩;obtain⟨tf,tt,tl,e1,e2,e3,e4⟩:=id hh;obtain⟨t1,t2,t3⟩:=wf.table x0 x1;obtain⟨zs,u,xs,z1,z2,z3,z4⟩:=e4.at t1;rw[zP_ x0]at z2;nofun;refine⟨_,e1,_,rfl,_,e1,_,rfl,?_⟩;nofun;exact⟨_,z1,_,z2,_,.inr hrr,p,true,true,u,r,xs,tables.getD x.toNat [],row,d,by rw[ja_,aW],by lia,z3,z4,t3,hrr,by rw[t2];exact aW,by lia,by lia,(fun y hy=>by have:=mG y hy;lia),fun q H' s' hq=>k q H' s' hq⟩
noncomputable def Yo (K:α3)(H:Hp)(xs:List V)(n:Nat)(f:Nat->α2):Prop:=xs.length=n+1/\∀i:Nat,i<=n->∃t,xs[i]?=some (.ref t)/\SqT K H t ((f i).map V.int)
noncomputable def MB (K:α3)(BW:Addr):Sp:=fun vs H Q E=>∃(h a:Addr) (p L:Int) (d:Nat) (first last ws:α2) (tables:α0),vs=[.ref h,.ref a]/\SumH K H h p L first tables last/\WfSum p L d first tables last/\SqT K H a (ws.map V.int)/\ws.length<=600/\(isW L ws=true->∀(q:Addr) (xs:List V) (H':Hp),Same H H'->H' q=some (.lst xs)->Yo K H' xs ws.length (fun i=>rowS p d tables first (ws.take i))->Q (.ref q) H')/\(isW L ws=false->∀H',Same H H'->E (.ref BW) none H')
def Ig:CalH P w mg base (CXe P w) EE.j32 4 ["house","word"] (MB K au):=by
 refine HG.okE EE.j32 EO (fun vs H Q E h=>?_) (fun ao A outer s H vs Q E hr h=>?_)
 ·obtain⟨h,a,p,L,d,first,last,ws,tables,rfl,_⟩:=h;rfl
 ·obtain⟨h,a,p,L,d,first,last,ws,tables,rfl,hh,wf,hw,hz,k,kE⟩:=h;have hl:=Al;refine⟨_,(Ac (AB (Af (HY EE) hr.d (IS fun _ _ _ h=>h) (Aa (As (ixTD Ay) (pvD 0) Ai) (Aa (pvD 1) Ad))))
   (Ac (Ak (i:=2) EO.nd (E9 (Aa (As (ixTD Ay) (pvD 0) Ai) Ad)))
   (Ac (Bx PassesOwn.leaving rfl (MW (pvD 1)) (Aq (i:=3) EO.nd rfl (nM rfl))
   (Ae (AB (M6 qi_ qs_ qt_ Dv (pvD 2) (Aa (Af (Ql EE) hr.d An (Aa (pvD 0) (Aa (As (ixLD Fy) (pvD 2) (Lm GF Ai)) (Aa (pvD 3) Ad)))) Ad)))))
   (Ae (Am (pvD 2)))))),?_⟩
  obtain⟨tf,tt,tl,e1,e2,e3,e4⟩:=id hh;nofun;refine⟨_,e1,_,rfl,L,a,ws,rfl,hw,by lia,fun hv H1 s1=>?_,kE⟩;nofun;refine⟨_,s1.seqT e1,_,rfl,by lia,fun q hq=>?_⟩;have s0:=Same.new hq (o:=.lst [V.ref tf]);refine⟨⟨_,(s1.trans s0).seqT hw⟩,?_⟩;obtain⟨Pv,aq⟩:∃Pv:Nat->St->Hp->Prop,∀i af H',Pv i af H'↔(∃(xs:List V) (o:Option V),Same H1 H'/\H' q=some (.lst xs)/\Yo K H' xs i (fun i=>rowS p d tables first (ws.take i))/\af=[some (.ref h),some (.ref a),some (.ref q),o]):=⟨_,fun _ _ _=>qE_⟩;refine forT (xs:=ws.map V.int) Pv ((aq _ _ _).mpr ⟨[V.ref tf],none,s0,Ab,⟨rfl,fun i hi=>⟨tf,by rw[show i=0 by lia];rfl,by rw[show i=0 by lia];exact (s1.trans s0).seqT e2⟩⟩,rfl⟩) (fun i af H' _ h'=>by obtain⟨_,_,s',_⟩:=(aq _ _ _).mp h';exact (s1.trans s').seqT hw) (fun i x af H' hx h'=>?_) (fun af H' h'=>?_)
  ·obtain⟨xs,o,s2,bQ,hA,rfl⟩:=(aq _ _ _).mp h';obtain⟨n,hn,rfl⟩:=Kh hx;have hi:=(je_.mp hn).1;have jr:=Bn.mp hv n (jn_ hn);obtain⟨r1,r2⟩:=wf.row (ws.take i);obtain⟨t,jl,ht⟩:=hA.2 i (jf_ _);nofun;refine⟨.inl ⟨rfl,_,SqL.of bQ⟩,_,SqL.of bQ,_,N8 (v:=V.ref t) (by rw[hA.1];exact jl),h,t,p,L,n,d,first,last,_,tables,rfl,hh.mono (s1.trans s2),wf,ht,r1,r2,jr.1,jr.2,fun q3 H3 s3 kb=>?_⟩;refine⟨_,s3 _ _ bQ,by rw[hA.1];lia,(aq _ _ _).mpr ⟨xs++[V.ref q3],_,(s2.trans s3).over hq,Ab,⟨by simp[hA.1],fun j hj=>?_⟩,rfl⟩⟩;by_cases kc:j<=i
   ·obtain⟨u,mO,fU⟩:=hA.2 j kc;exact⟨u,by rw[jw_ (by rw[hA.1];lia)];exact mO,Kj (s3 _ _ bQ) (s3.seqT fU)⟩
   ·have hj1:j=i+1:=by lia
    subst hj1;refine⟨q3,by rw[jy_ (by rw[hA.1];exact jf_ _),hA.1,qL_];rfl,?_⟩;show SqT K _ q3 ((rowS p d tables first (ws.take (i+1))).map V.int);rw[K7 hn];exact Kj (s3 _ _ bQ) (SqT.of kb)
  ·obtain⟨xs,o,s2,bQ,hA,rfl⟩:=(aq _ _ _).mp h';rw[ja_]at hA;nofun;exact k hv q xs _ (s1.trans s2) bQ hA
noncomputable def MC (K:α3)(BW:Addr):Sp:=fun vs H Q E=>∃(h a:Addr) (p L:Int) (d:Nat) (first last ws:α2) (tables:α0),vs=[.ref h,.ref a]/\SumH K H h p L first tables last/\WfSum p L d first tables last/\SqT K H a (ws.map V.int)/\ws.length<=600/\(isW L ws=true->∀(t:Addr) (H':Hp),Same H H'->SqT K H' t ((rowS p d tables first ws).map V.int)->Q (.ref t) H')/\(isW L ws=false->∀H',Same H H'->E (.ref BW) none H')
def ME:CalH P w mg base (CXe P w) EE.j47 5 ["house","word"] (MC K au):=by
 refine HG.okE EE.j47 Mp (fun vs H Q E h=>?_) (fun ao A outer s H vs Q E hr h=>?_)
 ·obtain⟨h,a,p,L,d,first,last,ws,tables,rfl,_⟩:=h;rfl
 ·obtain⟨h,a,p,L,d,first,last,ws,tables,rfl,hh,wf,hw,hz,k,kE⟩:=h;refine⟨_,(Ae (Am (As (ixLD Fy) (Af (Ig EE) hr.d (IS fun _ _ _ h=>h) (Aa (pvD 0) (Aa (pvD 1) Ad))) (Lm GF Ai)))),?_⟩;nofun;refine⟨h,a,p,L,d,first,last,ws,tables,rfl,hh,wf,hw,hz,fun hv q xs H1 s1 hq hA=>?_,kE⟩;obtain⟨t,jl,ht⟩:=hA.2 ws.length (jf_ _);have ht:SqT K H1 t ((rowS p d tables first (ws.take ws.length)).map V.int):=ht;rw[jG_]at ht;nofun;exact⟨_,SqL.of hq,_,N8 (v:=V.ref t) (by rw[hA.1];exact jl),k hv t _ s1 ht⟩
noncomputable def TV (K:α3)(BW:Addr):Sp:=fun vs H Q E=>∃(h a:Addr) (p L:Int) (d:Nat) (first last ws:α2) (tables:α0),vs=[.ref h,.ref a]/\SumH K H h p L first tables last/\WfSum p L d first tables last/\SqT K H a (ws.map V.int)/\ws.length<=600/\(isW L ws=true->∀H',Same H H'->Q (.int (dotW last (rowS p d tables first ws)%p)) H')/\(isW L ws=false->∀H',Same H H'->E (.ref BW) none H')
def TX:CalH P w mg base (CXe P w) EE.j48 6 ["house","word"] (TV K au):=by
 refine HG.okE EE.j48 TJ (fun vs H Q E h=>?_) (fun ao A outer s H vs Q E hr h=>?_)
 ·obtain⟨h,a,p,L,d,first,last,ws,tables,rfl,_⟩:=h;rfl
 ·obtain⟨h,a,p,L,d,first,last,ws,tables,rfl,hh,wf,hw,hz,k,kE⟩:=h;have h2:=wf.p2;have h18:=wf.p18;have hd:=wf.dl;have iQ:=wf.l;refine⟨_,(Ae (Am (Af (CK EE) hr.d An (Aa (As (ixTD Ay) (pvD 0) Ai) (Aa (As (ixTD Ay) (pvD 0) Ai) (Aa (Af (ME EE) hr.d (IS fun _ _ _ h=>h) (Aa (pvD 0) (Aa (pvD 1) Ad))) Ad)))))),?_⟩;obtain⟨tf,tt,tl,e1,e2,e3,e4⟩:=id hh;obtain⟨r1,r2⟩:=wf.row ws;nofun;refine⟨_,e1,_,rfl,_,e1,_,rfl,h,a,p,L,d,first,last,ws,tables,rfl,hh,wf,hw,hz,fun hv t H1 s1 ht=>?_,kE⟩;nofun;exact⟨p,true,true,tl,t,last,_,rfl,by lia,s1.seqT e3,ht,by rw[r1];exact iQ.1,by lia,(fun x hx=>by have:=iQ.2 x hx;lia),fun H2 s2=>k hv _ (s1.trans s2)⟩
def Indep.of {p:Int}(hp:2<=p)(hI:∀a:Int,0<a->a<p->∃inv:Int,inv*a%p=1){m:Nat}:∀(k:Nat) (ae:α1),ae.length=k->(∀i:Nat,i<ae.length->¬ Span p m (ae.take i) fun j=>(ae.getD i []).getD j 0)->Indep p m ae
 |0,ae,hk,_=>by
  have:ae=[]:=jN_.mp hk;subst this;exact Indep.nil p m
 |k+1,ae,hk,h=>by
  obtain⟨R,r,rfl⟩:∃R r,ae=R++[r]:=⟨ae.dropLast,ae.getLast (by intro e;subst e;simp at hk),(qp_ _).symm⟩;have mP:R.length=k:=by simp at hk;exact hk
  have ih:=Indep.of hp hI k R mP fun i hi=>by
   have:=h i (by simp;lia);rw[xt_ s!""]at this;rw[jb_,jw_ hi]at this;rw[jb_];exact this
  have hl:=h R.length (by simp);rw[qy rfl,jb_,jy_ (jf_ _),qL_]at hl;intro cs hc h0;obtain⟨ds,c,rfl⟩:∃ds c,cs=ds++[c]:=⟨cs.dropLast,cs.getLast (by intro e;subst e;simp at hc),(qp_ _).symm⟩;have iC:ds.length=R.length:=by simp at hc;exact hc
  have cS:∀i:Nat,i<m->(dotW ds (colW R i)+c*r.getD i 0)%p=0:=fun i hi=>by
   have:=h0 i hi;rw[Mz]at this;rw[show colW [r] i=[r.getD i 0] from rfl,Ia _ _ (by rw[Mw,iC])]at this;exact this
  have hc0:c%p=0:=by
   refine Decidable.byContradiction fun aC=>hl ?_;have jW:=jC_ c (show p≠0 by lia);have hm1:=jx_ c (show 0<p by lia);obtain⟨inv,dk⟩:=hI (c%p) s!"" hm1;refine⟨ds.map (-inv * ·),by rw[ja_,iC],fun i hi=>?_⟩;rw[CY];show ((some r).getD []).getD i 0%p=_;have h1:=cS i hi;have hinv':inv*c%p=1:=by rw[qf_,<-dk,qf_ inv (c%p),jM_ _ (qg_ p)]
   have e:r.getD i 0 - -inv*dotW ds (colW R i)=inv*(dotW ds (colW R i)+c*r.getD i 0)-(inv*c-1)*r.getD i 0:=by
    rw[z1_,pq,z0_,qr,zg_];lia
   refine jB_.mpr ?_;show (r.getD i 0-_)%p=0;rw[e];have d1:p ∣ inv*(dotW ds (colW R i)+c*r.getD i 0):=qG_ (jZ_ h1);have d2:p ∣ (inv*c-1)*r.getD i 0:=Int.dvd_mul_of_dvd_left (jZ_ (by rw[zT_,hinv'];have:(1:Int)%p=1:=j0_ s!"" s!"";rw[this];simp));exact qh_ (z2_ d1 d2)
  intro x hx;rcases jJ_.mp hx with hx|hx
  ·refine ih ds iC (fun i hi=>?_) x hx;have h1:=cS i hi;rw[qA_,qf_,hc0]at h1;simpa using h1
  ·rw[ji_.mp hx];exact hc0
def Vr (hp:Pr p):∀a:Int,0<a->a<p->∃inv:Int,inv*a%p=1:=fun a a0 a1=>Yl hp.1 a0 (hp.gcd a0 a1)
def Indep.size (hp:Pr p) (h:Indep p n ae)(hl:∀r∈ae,r.length=n):ae.length<=n:=by
 have h1:=R6 hp.1 (Vr hp) hl;rw[h.chosen hp.1,jT_]at h1;exact h1
def Indep.all {p:Int}(hp:Pr p){n:Nat}{ae:α1}(h:Indep p n ae)(hl:∀r∈ae,r.length=n)(hn:ae.length=n){v:α2}(hv:v.length=n):Span p n ae fun i=>v.getD i 0:=by
 refine qa_ fun bA=>?_;have hi:Indep p n (ae++[v]):=Indep.of hp.1 (Vr hp) _ _ rfl fun i hi=>by
  simp only[ju_,jU_]at hi;by_cases he:i=ae.length
  ·subst he;rw[qy rfl,jb_,jy_ (jf_ _),qL_];exact bA
  ·have aF:i<ae.length:=by lia
   rw[xt_ s!"",jb_,jw_ aF,jc_ aF];have h2:Indep p n (ae.take i++[ae[i]]):=by
    rw[List.take_append_getElem];rw[<-List.take_append_drop (i+1) ae]at h;exact h.left
   exact h2.not hp.1
 have:=hi.size hp fun r hr=>by
  rcases jJ_.mp hr with h|h
  ·exact hl r h
  ·rw[ji_.mp h];exact hv
 simp at this;lia
noncomputable def mkO (es:List (α2×Int))(w:α2):Option Int:=(es.find? fun e=>decide (e.1=w)).map (·.2)
noncomputable def oV:Option Int->V
 |some m=>.int m
 |none=>.non
def E1:∀{es:List (α2×Int)} {w:α2} {m:Int},(es.map (·.1)).Nodup->(w,m)∈es->mkO es w=some m
 |[],_,_,_,h=>by cases h
 |e::es,w,m,nd,h=>by
  rw[jP_,qU_]at nd;unfold mkO;rw[q4_];rcases jD_.mp h with h|h
  ·subst h;simp
  ·have aC:e.1≠w:=fun z=>nd.1 (by rw[z];exact xW_ (f:=(·.1)) h);rw[qv_ aC];exact E1 nd.2 h
def Ih {es:List (α2×Int)}{w:α2}(h:w∉es.map (·.1)):mkO es w=none:=by
 unfold mkO;rw[qZ_.mpr fun e he z=>h (by have:=xJ_ z;rw[<-this];exact xW_ (f:=(·.1)) he)];rfl
def Sa {s:α1}{w:α2}(h:s.Nodup):(ins s w).Nodup:=by
 unfold ins;split
 ·exact h
 ·rename_i hw
  rw[zq_];refine⟨h,by simp,fun a ha b hb z=>?_⟩;rw[ji_.mp hb]at z;exact hw (z ▸ ha)
def Jv:∀{l s:α1},s.Nodup->(l.foldl ins s).Nodup
 |[],_,h=>h
 |w::l,s,h=>by rw[xC_];exact Jv (Sa h)
def Sb (n:Nat):∀(ah:α1),(ah.flatMap (extW n)).length<=ah.length*n
 |[]=>by simp
 |w::ah=>by
  rw[List.flatMap_cons,ju_,jV_,pZ];have h1:=Sb n ah;have h2:(extW n w).length=n:=by unfold extW;simp
  lia
def Sd (n:Nat)(ah:α1):(Eo n ah).length<=ah.length+ah.length*n:=by
 unfold Eo;have h1:=A9 (ah.flatMap (extW n)) (ah.foldl ins []);have h2:=A9 ah [];have h3:=Sb n ah;simp at h2;lia
noncomputable def Se (K:α3):Sp:=fun vs H Q _=>∃(L:Nat) (a:Addr) (xs:List V) (ah:α1),vs=[.int L,.ref a]/\L<=6/\SqL K H a xs/\Ao K H xs ah/\ah.length<=100/\(∀w∈ah,w.length<=100)/\∀l rs H',Same H H'->H l=none->H' l=some (.lst rs)->Ao K H' rs (Eo L ah)->Q (.ref l) H'
def Qm:⋯ EE.j35 1 ["letters","access"] (Se K):=by
 delta EE.j35 Et
 ·obtain⟨L,a,xs,ah,rfl,_⟩:=h;rfl
 ·obtain⟨L,a,xs,ah,rfl,hL,ha,hw,di,bB,k⟩:=h;have hl:=Al;refine⟨_,(Ac (Jm (i:=2) Et.nd rfl (nM rfl) Ke)
   (Ac (Bx jL_ rfl (Br (pvD 1)) (Aq (i:=3) Et.nd rfl (nM rfl))
   (Ae (FA (Fz hr) (pvD 2) (pvD 3) DV rfl)))
   (Ac (Bx jL_ rfl (Br (pvD 1)) (Aq (i:=3) Et.nd rfl (nM rfl))
   (Ae (Bx jL_ rfl (Cd rfl EE.range (Aa (pvD 0) Ad)) (Aq (i:=4) Et.nd rfl (nM rfl))
   (Ae (FA (Fz hr) (pvD 2) (Ar Dj (pvD 3) (Ce (Aa (pvD 4) Ad))) DV rfl)))))
   (Ae (Am (AF (Dz rfl) rfl EE.list qP_ (Aa (pvD 2) Ad))))))),?_⟩
  nofun;intro p hp;have sp:=Same.new (o:=.dT []) hp;refine⟨⟨_,sp.seq ha⟩,?_⟩;obtain⟨Pv,aq⟩:∃Pv:Nat->St->Hp->Prop,∀i af H',Pv i af H'↔(∃(kvs:List (List Key×V)) (o:Option V),Same H H'/\H' p=some (.dT kvs)/\Dk ((ah.take i).foldl ins []) kvs/\af=[some (.int L),some (.ref a),some (.ref p),o,none]):=⟨_,fun _ _ _=>qE_⟩;refine forL (xs:=xs) Pv ((aq _ _ _).mpr ⟨[],none,sp,Ab,by rw[xu_];exact Dk.nil,rfl⟩) (fun i af H' _ h'=>by obtain⟨_,_,s',_⟩:=(aq _ _ _).mp h';exact s'.seq ha) (fun i x af H' hx h'=>?_) (fun af H' h'=>?_)
  ·obtain⟨kvs,o,s',hd,hk,rfl⟩:=(aq _ _ _).mp h';obtain⟨t,w,bO,rfl,ht⟩:=hw.at hx;have ak:kvs.length<=100:=by
    have:=A9 (ah.take i) [];rw[hk.len];simp at this ⊢;lia
   nofun;refine⟨_,DPut.t (k:=wkey w) hd (by rw[BZ];exact s' _ _ ht) s!"",(aq _ _ _).mpr ⟨_,_,s'.over hp,Ab,?_,rfl⟩⟩;rw[jQ_,bO,xz_,qH_];exact hk.put w _
  ·obtain⟨kvs,o,s',hd,hk,rfl⟩:=(aq _ _ _).mp h';rw[hw.1,jG_]at hk;nofun;refine⟨⟨_,s'.seq ha⟩,?_⟩;obtain⟨Pw,bY⟩:∃Pv:Nat->St->Hp->Prop,∀i af H',Pv i af H'↔(∃(kvs:List (List Key×V)) (o o':Option V),Same H H'/\H' p=some (.dT kvs)/\Dk (((ah.take i).flatMap (extW L)).foldl ins (ah.foldl ins [])) kvs/\af=[some (.int L),some (.ref a),some (.ref p),o,o']):=⟨_,fun _ _ _=>qE_⟩;refine forL (xs:=xs) Pw ((bY _ _ _).mpr ⟨kvs,_,_,s',hd,by rw[xu_];exact hk,rfl⟩) (fun i af H' _ h'=>by obtain⟨_,_,_,s',_⟩:=(bY _ _ _).mp h';exact s'.seq ha) (fun i x ai H2 hx h2=>?_) (fun ai H2 h2=>?_)
   ·obtain⟨kvs,o,o',s2,hd,hk,rfl⟩:=(bY _ _ _).mp h2;obtain⟨t,w,bO,rfl,ht⟩:=hw.at hx;have hwlen:=bB w (jn_ bO);have dN:=s2 _ _ ht;nofun;refine⟨by lia,by lia,?_⟩;rw[jz_];obtain⟨Py,fC⟩:∃Pv:Nat->St->Hp->Prop,∀j af H',Pv j af H'↔(∃(kvs:List (List Key×V)) (o':Option V),Same H H'/\H' p=some (.dT kvs)/\Dk (((nJ j).map fun x:Nat=>w++[(x:Int)]).foldl ins (((ah.take i).flatMap (extW L)).foldl ins (ah.foldl ins []))) kvs/\af=[some (.int L),some (.ref a),some (.ref p),some (.ref t),o']):=⟨_,fun _ _ _=>qE_⟩;refine forR Py ((fC _ _ _).mpr ⟨kvs,_,s2,hd,hk,rfl⟩) (fun j bf H3 hj h3=>?_) (fun bf H3 h3=>?_)
    ·obtain⟨kvs,o',s3,hd,hk,rfl⟩:=(fC _ _ _).mp h3;have ej:(0:Int)+(j:Nat)=(j:Int):=by lia
     rw[ej];have iR:=s3 _ _ ht;have ak:kvs.length<=10000:=by
      have h1:=A9 ((nJ j).map fun x:Nat=>w++[(x:Int)]) (((ah.take i).flatMap (extW L)).foldl ins (ah.foldl ins []));have h2:=A9 ((ah.take i).flatMap (extW L)) (ah.foldl ins []);have h3:=A9 ah [];have h4:((ah.take i).flatMap (extW L)).length<=600:=by
       rw[xZ_];have:(ah.take i).map (fun a=>(extW L a).length)=(ah.take i).map (fun _=>L):=jH_ fun a _=>by simp[extW]
       rw[this,oZ,zn_];have:(ah.take i).length<=100:=by rw[jI_];lia
       exact j6_ (qJ_ this hL) s!""
      rw[hk.len];simp at h1 h3;lia
     nofun;refine⟨by lia,fun p1 cH=>?_⟩;refine Cb.ofS (Same.new cH _ _ iR) Ab (by simp;lia) fun q H4 s4 hq=>?_;have cD:=(Same.new (o:=.tup [V.int (j:Int)]) cH).trans s4;have c7:H4 q=some (.tup ((wkey (w++[(j:Int)])).map kV)):=by rw[BZ,hq];simp
     refine⟨_,DPut.t (k:=wkey (w++[(j:Int)])) (cD _ _ hd) c7 s!"",(fC _ _ _).mpr ⟨_,_,(s3.trans cD).over hp,Ab,?_,rfl⟩⟩;rw[qC_,jj_,qH_];exact hk.put _ _
    ·obtain⟨kvs,o',s3,hd,hk,rfl⟩:=(fC _ _ _).mp h3;refine (bY _ _ _).mpr ⟨kvs,_,_,s3,hd,?_,rfl⟩;rw[jQ_,bO,xz_,pG,qH_];simpa [extW] using hk
   ·obtain⟨kvs,o,o',s2,hd,hk,rfl⟩:=(bY _ _ _).mp h2;rw[hw.1,jG_]at hk;nofun;refine⟨kvs,.inl hd,fun l rs gi aW iS=>?_⟩;exact k l rs _ (s2.newT gi) (Same.none s2 gi) Ab ((hk.words (K:=K) aW iS).mono (TK.new gi))
noncomputable def TY (K:α3):Sp:=fun vs H Q _=>∃(L:Nat) (a e:Addr) (xs ys:List V) (ah ends:α1),vs=[.int L,.ref a,.ref e]/\L<=6/\SqL K H a xs/\Ao K H xs ah/\ah.length<=100/\(∀w∈ah,w.length<=100)/\SqL K H e ys/\Ao K H ys ends/\ends.length<=100/\(∀w∈ends,w.length<=500)/\∀l rs H',Same H H'->H l=none->H' l=some (.lst rs)->Ao K H' rs (Jr (Eo L ah) ends)->Q (.ref l) H'
def OB (hL:L<=6)(di:ah.length<=100)(bB:∀w∈ah,w.length<=100):(Eo L ah).length<=700/\∀w∈Eo L ah,w.length<=101:=by
 have mem:∀(l s:α1) (w:α2),w∈l.foldl ins s->w∈s\/w∈l:=by
  intro l
  induction l with
  |nil=>intro s w h;exact .inl h
  |cons v l ih=>
   intro s w h;rw[xC_]at h;rcases ih _ _ h with h|h
   ·unfold ins at h;split at h
    ·exact .inl h
    ·rcases jJ_.mp h with h|h
     ·exact .inl h
     ·rw[ji_.mp h];exact .inr jA_
   ·exact .inr (jp_ _ h)
 refine⟨?_,fun w hw=>?_⟩
 ·have h2:=A9 (ah.flatMap (extW L)) (ah.foldl ins []);have h3:=A9 ah [];have h4:(ah.flatMap (extW L)).length<=600:=by
   rw[xZ_];have:ah.map (fun a=>(extW L a).length)=ah.map (fun _=>L):=jH_ fun a _=>by simp[extW]
   rw[this,oZ,zn_];exact j6_ (qJ_ di hL) s!""
  unfold Eo;simp at h3;lia
 ·unfold Eo at hw;rcases mem _ _ _ hw with h|h
  ·rcases mem _ _ _ h with h|h
   ·simp at h
   ·have:=bB w h;lia
  ·obtain⟨v,hv,h⟩:=List.mem_flatMap.mp h;obtain⟨x,_,rfl⟩:=jv_.mp h;have:=bB v hv;simp;lia
def TZ:⋯ EE.j36 2 ["letters","access","ends"] (TY K):=by
 delta EE.j36 Kl
 ·obtain⟨L,a,e,xs,ys,ah,ends,rfl,_⟩:=h;rfl
 ·obtain⟨L,a,e,xs,ys,ah,ends,rfl,hL,ha,hw,di,bB,he,lr,eS,hewl,k⟩:=h;have hl:=Al;obtain⟨aW,gd⟩:=OB hL di bB;refine⟨_,(Ac (Jm (i:=3) Kl.nd rfl (nM rfl) Ke)
   (Ac (Bx jL_ rfl (Br (Af (Qm EE) hr.d An (Aa (pvD 0) (Aa (pvD 1) Ad)))) (Aq (i:=4) Kl.nd rfl (nM rfl))
   (Ae (Bx jL_ rfl (Br (pvD 2)) (Aq (i:=5) Kl.nd rfl (nM rfl))
   (Ae (FA (Fz hr) (pvD 3) (Ar Dj (pvD 4) (pvD 5)) DV rfl)))))
   (Ae (Am (AF (Dz rfl) rfl EE.list qP_ (Aa (pvD 3) Ad)))))),?_⟩
  nofun;intro p hp;have sp:=Same.new (o:=.dT []) hp;refine⟨L,a,xs,ah,rfl,hL,sp.seq ha,hw.mono (TK.of sp),di,bB,fun r rs H1 s1 dm hr iS=>?_⟩;generalize Eo L ah=ae at aW gd iS k;have s01:=sp.trans s1;have hrH:H r=none:=Same.none sp dm;have cH:=s1 _ _ (Ab (H:=H) (a:=p) (o:=.dT []));nofun;refine⟨⟨_,SqL.of hr⟩,?_⟩;have hpr:r≠p:=(N7 dm).2;obtain⟨Pw,bY⟩:∃Pv:Nat->St->Hp->Prop,∀i af H',Pv i af H'↔(∃(kvs:List (List Key×V)) (o o':Option V),Same H H'/\H' r=some (.lst rs)/\Ao K H' rs ae/\H' p=some (.dT kvs)/\Dk (((ae.take i).flatMap fun r=>ends.map (r ++ ·)).foldl ins []) kvs/\af=[some (.int L),some (.ref a),some (.ref e),some (.ref p),o,o']):=⟨_,fun _ _ _=>qE_⟩;refine forL (xs:=rs) Pw ((bY _ _ _).mpr ⟨[],_,_,s01,hr,iS,cH,by rw[xu_];exact Dk.nil,rfl⟩) (fun i af H' _ h'=>by obtain⟨_,_,_,_,q,_⟩:=(bY _ _ _).mp h';exact SqL.of q) (fun i x ai H2 hx h2=>?_) (fun ai H2 h2=>?_)
  ·obtain⟨kvs,o,o',s2,hr2,iT,hd,hk,rfl⟩:=(bY _ _ _).mp h2;obtain⟨t,w,bO,rfl,ht⟩:=iT.at hx;have hwlen:=gd w (jn_ bO);nofun;refine⟨⟨_,s2.seq he⟩,?_⟩;obtain⟨Py,fC⟩:∃Pv:Nat->St->Hp->Prop,∀j af H',Pv j af H'↔(∃(kvs:List (List Key×V)) (o':Option V),Same H H'/\H' r=some (.lst rs)/\Ao K H' rs ae/\H' t=some (.tup (w.map V.int))/\H' p=some (.dT kvs)/\Dk (((ends.take j).map (w ++ ·)).foldl ins (((ae.take i).flatMap fun r=>ends.map (r ++ ·)).foldl ins [])) kvs/\af=[some (.int L),some (.ref a),some (.ref e),some (.ref p),some (.ref t),o']):=⟨_,fun _ _ _=>qE_⟩;refine forL (xs:=ys) Py ((fC _ _ _).mpr ⟨kvs,_,s2,hr2,iT,ht,hd,by rw[xu_];exact hk,rfl⟩) (fun j af H' _ h'=>by obtain⟨_,_,s',_⟩:=(fC _ _ _).mp h';exact s'.seq he) (fun j y bf H3 hy h3=>?_) (fun bf H3 h3=>?_)
   ·obtain⟨kvs,o',s3,mQ,iU,iR,hd,hk,rfl⟩:=(fC _ _ _).mp h3;obtain⟨u,v,eT,rfl,hu⟩:=lr.at hy;have hvlen:=hewl v (jn_ eT);have ak:kvs.length<=100000:=by
     have h1:=A9 ((ends.take j).map (w ++ ·)) (((ae.take i).flatMap fun r=>ends.map (r ++ ·)).foldl ins []);have h2:=A9 ((ae.take i).flatMap fun r=>ends.map (r ++ ·)) [];have h4:((ae.take i).flatMap fun r=>ends.map (r ++ ·)).length<=70000:=by
      rw[xZ_];have:(ae.take i).map (fun a=>(ends.map (a ++ ·)).length)=(ae.take i).map (fun _=>ends.length):=jH_ fun a _=>by simp
      rw[this,oZ,zn_];have:(ae.take i).length<=700:=by rw[jI_];lia
      exact j6_ (qJ_ this eS) s!""
     rw[hk.len];rw[ja_,jI_]at h1;rw[xl_,Nat.zero_add]at h2;lia
    nofun;refine Cb.ofS iR (s3 _ _ hu) (by simp;lia) fun q H4 s4 hq=>?_;have c7:H4 q=some (.tup ((wkey (w++v)).map kV)):=by rw[BZ,hq];simp
    have hd4:=s4 _ _ hd;have kD:TK H4 (upd H4 p (.dT (putK kvs (wkey (w++v)) (V.bl true)))):=TK.dT hd4;refine⟨_,DPut.t (k:=wkey (w++v)) hd4 c7 s!"",(fC _ _ _).mpr ⟨_,_,(s3.trans s4).over hp,by rw[Aj hpr];exact s4 _ _ mQ,(iU.mono (TK.of s4)).mono kD,kD _ _ (s4 _ _ iR),Ab,?_,rfl⟩⟩;rw[jQ_,eT,xz_,jj_,qH_];exact hk.put _ _
   ·obtain⟨kvs,o',s3,mQ,iU,iR,hd,hk,rfl⟩:=(fC _ _ _).mp h3;rw[lr.1,jG_]at hk;refine (bY _ _ _).mpr ⟨kvs,_,_,s3,mQ,iU,hd,?_,rfl⟩;rw[jQ_,bO,xz_,pG,qH_];simpa using hk
  ·obtain⟨kvs,o,o',s2,hr2,iT,hd,hk,rfl⟩:=(bY _ _ _).mp h2;rw[iS.1,jG_]at hk;nofun;refine⟨kvs,.inl hd,fun l rs' gi hrl' hrs'=>?_⟩;exact k l rs' _ (s2.newT gi) (Same.none s2 gi) Ab ((hk.words (K:=K) hrl' hrs').mono (TK.new gi))
noncomputable def Nz (_K:α3):V->Option Int->Option Int->Hp->VK->Prop:=fun x lo hi H Q=>∃a xs,x=.ref a/\H a=some (.tup xs)/\∀p H',Same H H'->H' p=some (.tup (cutV xs lo hi))->Q (.ref p) H'
def F3 : SlR X (Nz X.K):=by
 intro aa s σ H x v vl vu lo hi sl Q I rx hs pl pu h;obtain⟨a,xs,rfl,hx,q⟩:=h;by_cases hw:HT.sIx xs.length 0 lo=0/\HT.sIx xs.length xs.length hi=xs.length
 ·cases rx;obtain⟨its,r,ht,hz⟩:=I.tuple (SqT.of hx);have ak:its.toArray.size=xs.length:=by rw[jl_];exact r.length.symm
  refine⟨"tuple",_,j2_.lookup,ht.typeIs,?_⟩;refine HT.getItem_tuple_whole ht hs pl pu (by rw[ak];exact hw) ⟨.ref a,H,I,rfl,q a H (Same.refl _) ?_⟩;unfold cutV;rw[hw.1,hw.2,q2_,zx_,jG_];exact hx
 ·exact Uw aa s σ H (.ref a) v vl vu lo hi sl Q I rx hs pl pu ⟨a,xs,rfl,SqT.of hx,hw,fun p hp=>q p _ (Same.new hp) Ab⟩
def Pl {K:α3}(h:X.K=K):SlR X (Nz K):=by subst h;exact F3
def Nz.of {K:α3}{a:Addr}{xs:List V}{m:Nat}{H:Hp}{Q:VK}(ha:H a=some (.tup xs))(q:∀p H',Same H H'->H' p=some (.tup (xs.take m))->Q (.ref p) H'):Nz K (.ref a) none (some (m:Int)) H Q:=by
 refine⟨a,xs,rfl,ha,fun p H' s' h=>q p H' s' ?_⟩;rw[h];unfold cutV;rw[HT.sIx_nat,HT.sIx_none,q2_,zx_]
 congr 2
 rw[pb];lia
noncomputable def Cn (H:Hp)(rs:List V)(es:List (α2×Int)):Prop:=rs.length=es.length/\∀(i:Nat) (tr:α2×Int),es[i]?=some tr->∃t b,rs[i]?=some (V.ref t)/\H t=some (.tup [.ref b,.int tr.2])/\H b=some (.tup (tr.1.map V.int))
def Cn.mono (h:Cn H rs es)(k:∀b xs,H b=some (.tup xs)->H' b=some (.tup xs)):Cn H' rs es:=⟨h.1,fun i tr hi=>by
 obtain⟨t,b,e1,e2,e3⟩:=h.2 i tr hi;exact⟨t,b,e1,k _ _ e2,k _ _ e3⟩⟩
def CL (ys:α2)(m:Nat):cutV (ys.map V.int) (some (m:Int)) none=(ys.drop m).map V.int:=by
 rw[Td];unfold cutI;rw[HT.sIx_nat,HT.sIx_none]
 congr 1
 by_cases h:m<=ys.length
 ·rw[oX h,qO_ (by rw[qj_];lia)]
 ·rw[oH s!"",qM_,zm_ s!"",pM]
def Km (l:α1):∀(s:α1) (v:α2),v∈l.foldl ins s↔v∈s\/v∈l:=by
 induction l with
 |nil=>intro s v;simp
 |cons a l ih=>
  intro s v;rw[xC_,ih];unfold ins;split
  ·rename_i h
   constructor
   ·rintro (h1|h1)
    ·exact .inl h1
    ·exact .inr (jp_ _ h1)
   ·rintro (h1|h1)
    ·exact .inl h1
    ·rcases jD_.mp h1 with rfl|h1
     ·exact .inl h
     ·exact .inr h1
  ·constructor
   ·rintro (h1|h1)
    ·rcases jJ_.mp h1 with h1|h1
     ·exact .inl h1
     ·rw[ji_.mp h1];exact .inr (jA_ ..)
    ·exact .inr (jp_ _ h1)
   ·rintro (h1|h1)
    ·exact .inl (j5_ _ h1)
    ·rcases jD_.mp h1 with rfl|h1
     ·exact .inl (by simp)
     ·exact .inr h1
def LO : v∈Eo L W↔v∈W \/ ∃a∈W,∃x:Nat,x<L/\v=a++[(x:Int)]:=by
 unfold Eo;rw[Km,Km];simp only[q9_,false_or,qm,extW,jv_,qw_];constructor
 ·rintro (h|⟨a,ha,x,hx,rfl⟩)
  ·exact .inl h
  ·exact .inr ⟨a,ha,x,hx,rfl⟩
 ·rintro (h|⟨a,ha,x,hx,rfl⟩)
  ·exact .inl h
  ·exact .inr ⟨a,ha,x,hx,rfl⟩
def K8 : c∈Jr R E ↔ ∃r∈R,∃e∈E,c=r++e:=by
 unfold Jr;rw[Km];simp only[q9_,false_or,qm,jv_];constructor
 ·rintro⟨r,hr,e,he,rfl⟩;exact⟨r,hr,e,he,rfl⟩
 ·rintro⟨r,hr,e,he,rfl⟩;exact⟨r,hr,e,he,rfl⟩
noncomputable abbrev Bk:=List (α2×Int)
noncomputable def Grow (es dv:Bk):Prop:=∀v m,mkO es v=some m->mkO dv v=some m
def Grow.snoc (es:Bk)(v:α2)(m:Int):Grow es (es++[(v,m)]):=fun u n h=>by
 unfold mkO at h ⊢;rw[List.find?_append];cases hf:es.find? (fun e=>decide (e.1=u)) with
 |none=>rw[hf]at h;cases h
 |some e=>rw[hf]at h;exact h
def MF (h:mkO es v=some m):(v,m)∈es:=by
 unfold mkO at h;cases hf:es.find? (fun e=>decide (e.1=v)) with
 |none=>rw[hf]at h;cases h
 |some e=>
  rw[hf]at h;have h1:=xP_ hf;have h2:=oY hf;simp at h h2;subst h h2;exact h1
def OC : v∈es.map (·.1) ↔ ∃m,mkO es v=some m:=by
 constructor
 ·intro h;cases hm:mkO es v with
  |some m=>exact⟨m,rfl⟩
  |none=>
   obtain⟨e,he,rfl⟩:=jv_.mp h;unfold mkO at hm;rw[xw_,qZ_]at hm;exact absurd (ql_ rfl) (hm e he)
 ·rintro⟨m,hm⟩;exact jv_.mpr ⟨_,MF hm,rfl⟩
noncomputable def gOf (E:α1)(es:Bk)(v:α2):α2:=E.map fun e=>(mkO es (v++e)).getD 0
noncomputable def nums (es:Bk)(W:α1)(u:α2):α2:=W.map fun w=>(mkO es (w++u)).getD 0
def MG (es:Bk)(W:α1)(u:α2):(nums es W u).length=W.length:=by unfold nums;rw[ja_]
noncomputable def AllT (es:Bk)(W:α1)(u:α2):Prop:=∀w∈W,∃m,mkO es (w++u)=some m
def Je (E:α1)(es:Bk)(v:α2):(gOf E es v).length=E.length:=by unfold gOf;rw[ja_]
def Vs (he:E[j]?=some e)(v:α2):(gOf E es v).getD j 0=(mkO es (v++e)).getD 0:=by
 unfold gOf;rw[jb_,jh_,he];rfl
def Ii (he:E[j]?=some e):colW (W.map (gOf E es)) j=nums es W e:=by
 unfold colW nums;rw[jK_];exact jH_ fun v _=>Vs he v
def Sf (h:AllT es W u)(g:Grow es dv):nums dv W u=nums es W u:=by
 unfold nums;refine jH_ fun w hw=>?_;obtain⟨m,hm⟩:=h w hw;rw[hm,g _ _ hm]
noncomputable def R71 (p:Int)(t:α0)(n:Nat)(v:α2):α2:=rowS p n t (Bu n 0) v
noncomputable def W71 (p:Int)(t:α0)(l:α2)(v:α2):Int:=dotW l (R71 p t l.length v)%p
structure Tb (p:Int)(L most:Nat)(W E:α1)(es:Bk):Prop where
 pr:Pr p
 p18:p<1000000000000000000
 l1:1<=L
 l6:L<=6
 m12:most<=12
 sq:E.length=W.length
 w0:∀v,W[0]?=some v->v=[]
 wW:∀v∈W,isW L v=true/\v.length<W.length
 wn:W.length<=most
 eW:∀e∈E,isW L e=true
 nd:(es.map (·.1)).Nodup
 bW:∀q∈es,isW L q.1=true/\0<=q.2/\q.2<p
 tl:∀e∈E,AllT es W e
 ind:Indep p W.length (W.map (gOf E es))
def T1 (h:∀e∈E,∃m,mkO es (v++e)=some m)(g:Grow es dv):gOf E dv v=gOf E es v:=by
 unfold gOf;refine jH_ fun e he=>?_;obtain⟨m,hm⟩:=h e he;rw[hm,g _ _ hm]
def Tb.put {p:Int}{L most:Nat}{W E:α1}{es:Bk}(t:Tb p L most W E es){v:α2}{m:Int}(hn:v∉es.map (·.1))(hv:isW L v=true)(h0:0<=m)(h9:m<p):Tb p L most W E (es++[(v,m)]) where
 pr:=t.pr
 p18:=t.p18
 l1:=t.l1
 l6:=t.l6
 m12:=t.m12
 sq:=t.sq
 w0:=t.w0
 wW:=t.wW
 wn:=t.wn
 eW:=t.eW
 nd:=by
  rw[jj_,zq_];exact⟨t.nd,by simp,fun a ha b hb=>by rw[ji_.mp hb];intro z;subst z;exact hn ha⟩
 bW:=fun q hq=>by
  rcases jJ_.mp hq with hq|hq
  ·exact t.bW q hq
  ·rw[ji_.mp hq];exact⟨hv,h0,h9⟩
 tl:=fun e he w hw=>by
  obtain⟨q,hq⟩:=t.tl e he w hw;exact⟨q,Grow.snoc es v m _ _ hq⟩
 ind:=by
  rw[show W.map (gOf E (es++[(v,m)]))=W.map (gOf E es) from jH_ fun w hw=>T1 (fun e he=>t.tl e he w hw) (Grow.snoc es v m)];exact t.ind
def Tb.val (t:Tb p L most W E es) (h:mkO es v=some m):0<=m/\m<p:=(t.bW _ (MF h)).2
structure GuessOk (p:Int)(L:Nat)(W E:α1)(es:Bk)(t:α0)(l:α2):Prop where
 tl:t.length=L
 tt:∀tb∈t,tb.length=W.length/\∀r∈tb,r.length=W.length/\∀y∈r,0<=y/\y<p
 ll:l.length=W.length
 lt:∀(i:Nat) (v:α2),W[i]?=some v->∃m,l[i]?=some m/\mkO es v=some m
 eq:∀(x i:Nat) (v:α2),x<L->W[i]?=some v->∃tb r,t[x]?=some tb/\tb[i]?=some r/\∀e∈E,∃m,mkO es (v++[(x:Int)]++e)=some m/\m%p=dotW r (nums es W e)%p
def GuessOk.mono (tb:Tb p L most W E es)(g:GuessOk p L W E es t l)(h:Grow es dv):GuessOk p L W E dv t l:=by
 refine⟨g.tl,g.tt,g.ll,fun i v hv=>?_,fun x i v hx hv=>?_⟩
 ·obtain⟨m,a,b⟩:=g.lt i v hv;exact⟨m,a,h _ _ b⟩
 ·obtain⟨fE,r,a,b,c⟩:=g.eq x i v hx hv;refine⟨fE,r,a,b,fun e he=>?_⟩;obtain⟨m,m1,m2⟩:=c e he;exact⟨m,h _ _ m1,by rw[Sf (tb.tl e he) h];exact m2⟩
def GuessOk.wf (tb:Tb p L most W E es)(g:GuessOk p L W E es t l):WfSum p L l.length (Bu l.length 0) t l:=by
 have h2:=tb.pr.1;have hn:=tb.wn;have hm:=tb.m12;have jZ:=g.ll;refine⟨h2,tb.p18,by lia,⟨by unfold Bu;rw[ja_,jT_],fun x hx=>?_⟩,⟨rfl,fun x hx=>?_⟩,by rw[g.tl],fun fE h=>?_⟩
 ·unfold Bu at hx;obtain⟨i,_,rfl⟩:=jv_.mp hx;split<;>lia
 ·obtain⟨i,hi⟩:=j1_.mp hx;have fm:=(je_.mp hi).1;rw[g.ll]at fm;obtain⟨m,a,b⟩:=g.lt i _ (jc_ fm);rw[hi]at a;cases a;exact tb.val b
 ·obtain⟨a,b⟩:=g.tt fE h;rw[g.ll];exact⟨a,fun r hr=>(b r hr).1⟩
def Pm (hl:tb.length=n)(hr:∀r∈tb,r.length=n) (h1:row.length=n)(h2:c.length=n):dotW (Jc p tb row n) c%p=dotW row (tb.map fun r=>dotW r c)%p:=by
 have a:cg p (Jc p tb row n) ((nJ n).map fun k=>dotW row (colW tb k)):=by
  unfold Jc;exact cg.map fun k _=>jM_ _ (qg_ p)
 rw[a.dot (cg.refl p c),Pg h2 tb row hr s!""]
 congr 2
 exact jH_ fun r _=>Be _ _
noncomputable def Lo (p:Int)(es:Bk)(W:α1)(t:α0)(v:α2)(goal:Int)(lo:Nat):Prop:=(lo=0/\∃q,mkO es v=some q/\q≠goal)\/(0<lo/\AllT es W (v.drop lo)/\dotW (R71 p t W.length (v.take lo)) (nums es W (v.drop lo))%p≠goal)
noncomputable def Hi (p:Int)(es:Bk)(W:α1)(t:α0)(v:α2)(goal:Int)(hi:Nat):Prop:=AllT es W (v.drop hi)/\dotW (R71 p t W.length (v.take hi)) (nums es W (v.drop hi))%p=goal
inductive HR where
 | ask (aK:Nat)
 | fin (lo:Nat)
noncomputable def allB (es:Bk)(W:α1)(u:α2):Bool:=W.all fun w=>(mkO es (w++u)).isSome
def Kn : allB es W u=true↔AllT es W u:=by
 unfold allB AllT;rw[q8_];exact⟨fun h w hw=>qr_.mp (h w hw),fun h w hw=>qr_.mpr (h w hw)⟩
noncomputable def GA (p:Int)(es:Bk)(W:α1)(t:α0)(v:α2)(goal:Int):Nat->Nat->Nat->HR
 |0,lo,_=>.fin lo
 |f+1,lo,hi=>if hi-lo > 1 then (if allB es W (v.drop ((lo+hi) / 2))=true then (if dotW (R71 p t W.length (v.take ((lo+hi) / 2))) (nums es W (v.drop ((lo+hi) / 2)))%p=goal then GA p es W t v goal f lo ((lo+hi) / 2) else GA p es W t v goal f ((lo+hi) / 2) hi) else .ask ((lo+hi) / 2)) else .fin lo
def MK {p:Int}{es:Bk}{W:α1}{t:α0}{v:α2}{goal:Int}:∀(f lo hi:Nat),hi-lo<=f+1->lo<hi->hi<=v.length->Lo p es W t v goal lo->Hi p es W t v goal hi->match GA p es W t v goal f lo hi with
   |.ask aK=>0<aK/\aK<v.length/\¬ AllT es W (v.drop aK)
   |.fin lo=>lo<v.length/\Lo p es W t v goal lo/\Hi p es W t v goal (lo+1)
 |0,lo,hi,h1,h2,h3,h4,h5=>by
  have:hi=lo+1:=by lia
  subst this;exact⟨by lia,h4,h5⟩
 |f+1,lo,hi,h1,h2,h3,h4,h5=>by
  unfold GA;by_cases hg:hi-lo > 1
  ·rw[if_pos hg];by_cases ha:allB es W (v.drop ((lo+hi) / 2))=true
   ·rw[if_pos ha];have ha':=Kn.mp ha;by_cases hb:dotW (R71 p t W.length (v.take ((lo+hi) / 2))) (nums es W (v.drop ((lo+hi) / 2)))%p=goal
    ·rw[if_pos hb];exact MK f lo ((lo+hi) / 2) s!"" s!"" s!"" h4 ⟨ha',hb⟩
    ·rw[if_neg hb];exact MK f ((lo+hi) / 2) hi s!"" s!"" h3 (.inr ⟨by lia,ha',hb⟩) h5
   ·rw[if_neg ha];exact⟨by lia,by lia,fun z=>ha (Kn.mpr z)⟩
  ·rw[if_neg hg];have:hi=lo+1:=by lia
   subst this;exact⟨by lia,h4,h5⟩
noncomputable def Lw (p:Int)(es:Bk)(W:α1)(t:α0)(v:α2)(lo:Nat):Option Nat:=(nJ W.length).find? fun i=>decide (mkO es (W.getD i []++v.drop lo)≠some (dotW ((t.getD (v.getD lo 0).toNat []).getD i []) (nums es W (v.drop (lo+1)))%p))
def Sg (pr:Pr p)(h:c*a%p=0)(ha:a%p≠0):c%p=0:=by
 have h2:=pr.1;have a0:=jC_ a (show p≠0 by lia);have a1:=jx_ a (show 0<p by lia);refine Nw (pr.gcd s!"" a1) c ?_;rw[qf_,jM_ _ (qg_ p),<-qf_];exact h
def WA : ∀v:α2,(R71 p t n v).length=n:=fun v=>by
 unfold R71 rowS;have key:∀(v r:α2),r.length=n->(v.foldl (MA p n t) r).length=n:=fun v=>by
  induction v with
  |nil=>exact fun r h=>h
  |cons y v ih=>exact fun r _=>ih _ (K6 _ _ _ _)
 exact key v _ (by unfold Bu;rw[ja_,jT_])
def Ko {L:Nat}{v:α2}(hv:isW L v=true){lo:Nat}(h:lo<v.length):∃x:Nat,v[lo]?=some (x:Int)/\x<L/\v.getD lo 0=(x:Int)/\v.drop lo=(x:Int)::v.drop (lo+1):=by
 have hb:=Bn.mp hv _ (jR_ h);obtain⟨x,hx⟩:∃x:Nat,v[lo]=(x:Int):=⟨v[lo].toNat,by lia⟩;have e:v[lo]?=some (x:Int):=by rw[jc_ h,hx]
 exact⟨x,e,by lia,by rw[jb_,e];rfl,by rw[ou h,hx]⟩
def Vt (tb:Tb p L most W E es) (g:GuessOk p L W E es t l) (hv:isW L v=true) {lo:Nat}(hW:W ≠ [])(fh:lo<v.length)(h1:Lo p es W t v goal lo)(h2:Hi p es W t v goal (lo+1)):∃(i x:Nat) (w r:α2) (tx:α1) (m:Int),Lw p es W t v lo=some i/\v[lo]?=some (x:Int)/\x<L/\W[i]?=some w/\t[x]?=some tx/\tx[i]?=some r/\mkO es (w++v.drop lo)=some m/\m≠dotW r (nums es W (v.drop (lo+1)))%p:=by
 obtain⟨x,hx,lu,ke,kf⟩:=Ko hv fh;have hn:0<W.length:=List.length_pos_iff.mpr hW;obtain⟨tx,gj⟩:∃tx,t[x]?=some tx:=⟨t[x]'(by rw[g.tl];exact lu),by simp⟩;obtain⟨tl,tr⟩:=g.tt tx (jn_ gj);have htd:t.getD x []=tx:=by rw[jb_,gj];rfl
 obtain⟨c,hc⟩:∃c,c=nums es W (v.drop (lo+1)):=⟨_,rfl⟩;have bh:c.length=W.length:=by rw[hc,MG]
 have hR:=WA (p:=p) (t:=t) (n:=W.length) (v.take lo);have cT:dotW (R71 p t W.length (v.take lo)) (tx.map fun r=>dotW r c)%p=goal:=by
  have:=h2.2;rw[<-hc]at this;unfold R71 at this;rw[K7 hx]at this;unfold MA at this;rw[jz_,htd]at this;rw[<-this];exact (Pm tl (fun r hr=>(tr r hr).1) hR bh).symm
 have mR:∀i:Nat,i<W.length->∃w r,W[i]?=some w/\tx[i]?=some r/\(decide (mkO es (W.getD i []++v.drop lo)≠some (dotW ((t.getD (v.getD lo 0).toNat []).getD i []) (nums es W (v.drop (lo+1)))%p))=decide (mkO es (w++v.drop lo)≠some (dotW r c%p))):=fun i hi=>by
  refine⟨W[i],tx[i]'s!"",by simp,by simp,?_⟩;rw[ke,jz_,htd,<-hc,jb_,jc_ hi,jb_,jc_ (show i<tx.length by lia)];rfl
 have ex:∃i:Nat,i<W.length/\∃w r,W[i]?=some w/\tx[i]?=some r/\mkO es (w++v.drop lo)≠some (dotW r c%p):=by
  rcases h1 with ⟨h0,q,hq,aC⟩|⟨h0,di,aC⟩
  ·subst h0;refine⟨0,hn,[],tx[0]'s!"",?_,by simp,?_⟩
   ·rw[jc_ hn,tb.w0 _ (jc_ hn)]
   ·rw[q2_,qK_,hq];intro z;refine aC (Eq.trans (jt_ z) (Eq.trans ?_ cT));have hu:dotW (R71 p t W.length (v.take 0)) (tx.map fun r=>dotW r c)=(tx.map fun r=>dotW r c).getD 0 0:=by
     rw[Be];exact Ib _ (by rw[ja_];exact tl)
    rw[hu,jb_,jh_,jc_ (show 0<tx.length by lia)];rfl
  ·refine qa_ fun bA=>aC ?_;rw[<-cT];refine cg.dot (cg.refl _ _) ?_;unfold cg;refine qF_ fun i=>?_;rw[jh_,jh_,jh_];unfold nums;rw[jh_];by_cases hi:i<W.length
   ·rw[jc_ hi,jc_ (show i<tx.length by lia)];have h3:mkO es (W[i]++v.drop lo)=some (dotW (tx[i]'s!"") c%p):=qa_ fun z=>bA ⟨i,hi,W[i],tx[i]'s!"",by simp,by simp,z⟩;show some ((mkO es (W[i]++v.drop lo)).getD 0%p)=some (dotW (tx[i]'s!"") c%p);rw[h3];show some (dotW (tx[i]'s!"") c%p%p)=_;rw[jM_ _ (qg_ p)]
   ·rw[jF_ s!"",jF_ s!""];rfl
 cases hf:Lw p es W t v lo with
 |none=>
  exfalso;unfold Lw at hf;rw[qZ_]at hf;obtain⟨i,hi,w,r,a,b,d⟩:=ex;obtain⟨w',r',a',b',e'⟩:=mR i hi;rw[a]at a';rw[b]at b';cases a';cases b';have:=hf i (qw_.mpr hi);rw[e']at this;exact this (ql_ d)
 |some i=>
  unfold Lw at hf;obtain⟨q1,q2,q3⟩:=List.find?_range_eq_some.mp hf;have hi:=qw_.mp q2;obtain⟨w,r,a,b,e⟩:=mR i hi;rw[e]at q1;have q1:=xJ_ q1;have told:∃m,mkO es (w++v.drop lo)=some m:=by
   rcases h1 with ⟨h0,q,hq,aC⟩|⟨h0,di,aC⟩
   ·have i0:i=0:=by
     refine qa_ fun hi0=>?_;have z:=q3 0 s!"";obtain⟨w',r',a',b',e'⟩:=mR 0 hn;rw[e']at z;have w0:=tb.w0 _ a';subst w0 h0;have z:¬ (mkO es ([]++v.drop 0)≠some (dotW r' c%p)):=by simpa using z
     refine z fun zz=>aC ?_;rw[q2_,qK_,hq]at zz;refine Eq.trans (jt_ zz) (Eq.trans ?_ cT);have hu:dotW (R71 p t W.length (v.take 0)) (tx.map fun r=>dotW r c)=(tx.map fun r=>dotW r c).getD 0 0:=by
      rw[Be];exact Ib _ (by rw[ja_];exact tl)
     rw[hu,jb_,jh_,b'];rfl
    subst i0;have w0:=tb.w0 _ a;subst w0 h0;exact⟨q,by rw[q2_,qK_];exact hq⟩
   ·exact di w (jn_ a)
  obtain⟨m,hm⟩:=told;exact⟨i,x,w,r,tx,m,rfl,hx,lu,a,gj,b,hm,fun z=>q1 (by rw[hm,z,<-hc])⟩
def T2 (tb:Tb p L most W E es) (hr:r.length=W.length)(ha:AllT es W e')(h1:∀e∈E,∃m,mkO es (w'++e)=some m/\m%p=dotW r (nums es W e)%p) (hm:mkO es (w'++e')=some m)(aC:m≠dotW r (nums es W e')%p):Indep p (W++[w']).length ((W++[w']).map (gOf (E++[e']) es)):=by
 have hl:(W++[w']).length=W.length+1:=by simp
 have pr:=tb.pr;have p2:=pr.1;rw[hl];have nsn:∀u,nums es (W++[w']) u=nums es W u++[(mkO es (w'++u)).getD 0]:=fun u=>by unfold nums;rw[jj_];rfl
 intro cs dG aA;rw[ja_,hl]at dG;obtain⟨ds,b,rfl⟩:∃ds b,cs=ds++[b]:=⟨cs.dropLast,cs.getLast (by intro z;rw[z]at dG;cases dG),(qp_ _).symm⟩;have gK:ds.length=W.length:=by simpa using dG
 have zl:(nP (· + ·) ds (r.map (b * ·))).length=W.length:=by rw[xY_,ja_];lia
 have key:∀u:α2,dotW (nP (· + ·) ds (r.map (b * ·))) (nums es W u)=dotW ds (nums es W u)+b*dotW r (nums es W u):=fun u=>by rw[K5 _ _ _ (by rw[ja_];lia),CY]
 have z0:∀c∈nP (· + ·) ds (r.map (b * ·)),c%p=0:=by
  refine tb.ind _ (by rw[ja_];exact zl) fun j hj=>?_;obtain⟨e,he⟩:∃e,E[j]?=some e:=⟨E[j]'(by rw[tb.sq];exact hj),by simp⟩;have hE:(E++[e'])[j]?=some e:=by rw[jw_ (je_.mp he).1];exact he
  have h:=aA j s!"";obtain⟨q,q1,q2⟩:=h1 e (jn_ he);rw[Ii hE,nsn,Ia _ _ (by rw[MG];exact gK),q1]at h;have h:(dotW ds (nums es W e)+b*q)%p=0:=h;rw[Ii he,key,qA_,qf_,<-q2,<-qf_,<-qA_];exact h
 have cgd:cg p ds ((r.map (b * ·)).map fun y => -y):=by
  unfold cg;refine qF_ fun i=>?_;rw[jh_,jh_,jh_];by_cases hi:i<W.length
  ·rw[jc_ (show i<ds.length by lia),jh_,jc_ (show i<r.length by lia)];have hz:(ds[i]'s!""+b*r[i]'s!"")%p=0:=z0 _ (jn_ (i:=i) (by rw[xh_,jc_ (show i<ds.length by lia),jh_,jc_ (show i<r.length by lia)];rfl));show some (ds[i]'s!""%p)=some (-(b*r[i]'s!"")%p)
   congr 1
   refine jM_ (ds[i]'s!"") (qg_ p) ▸ ?_;have:=jM_ (ds[i]'s!"") (qg_ p);have e2:(ds[i]'s!"" - -(b*r[i]'s!""))%p=0:=by rw[Int.sub_neg];exact hz
   rw[this];exact jB_.mpr e2
  ·rw[jF_ s!"",jh_,jF_ s!""];rfl
 have hb:b%p=0:=by
  have hE:(E++[e'])[W.length]?=some e':=by rw[jy_ (by rw[tb.sq];exact jf_ _),tb.sq,qL_];rfl
  have h:=aA W.length s!"";rw[Ii hE,nsn,Ia _ _ (by rw[MG];exact gK),hm]at h;have h:(dotW ds (nums es W e')+b*m)%p=0:=h;have hn:dotW ((r.map (b * ·)).map fun y => -y) (nums es W e') = -(b*dotW r (nums es W e')):=by
   rw[show (fun y:Int => -y)=((-1:Int) * ·) from funext fun y=>by lia,CY,CY];lia
  rw[qA_,cgd.dot (cg.refl p _),hn,<-qA_]at h;have mv:=tb.val hm;refine Sg pr (a:=m-dotW r (nums es W e')) ?_ fun z=>aC ?_
  ·rw[pk];rw[show -(b*dotW r (nums es W e'))+b*m=b*m-b*dotW r (nums es W e') by lia]at h;exact h
  ·have:=jB_.mpr z
   rwa [j0_ mv.1 mv.2]at this
 intro c hc;rcases jJ_.mp hc with hc|hc
 ·obtain⟨i,hi⟩:=j1_.mp hc;have fm:=(je_.mp hi).1;have h3:=cgd.getD i;rw[jb_,hi,jb_,jh_,jh_,jc_ (show i<r.length by lia)]at h3;have h3:c%p = -(b*r[i]'s!"")%p:=h3;rw[h3];exact qh_ (Int.dvd_neg.mpr (pK (jZ_ hb) (Int.dvd_mul_right _ _)))
 ·rw[ji_.mp hc];exact hb
structure AS where
 p:Int
 L:Nat
 most:Nat
 W:α1
 E:α1
 G:α1
 gs:Option (α0×α2)
 wr:Option (α2)
 es:Bk
inductive Wish where
 | ask (c:α2)
 | shown (t:α0) (l:α2)
 | done (t:α0) (l:α2)
 | spent (c:α2)
noncomputable def Co (es:Bk)(ws:α1):α1:=(ws.foldl ins []).filter fun c=>(mkO es c).isNone
def Gu : c∈Co es ws↔c∈ws/\mkO es c=none:=by
 unfold Co;rw[x6_,Km];simp
def Jw (es:Bk)(ws:α1):(Co es ws).Nodup:=(Jv zU_).filter _
open Classical in
noncomputable def facL (p:Int)(ae:α1)(row:α2):α2:=if h:∃am:α2,am.length=ae.length/\(∀y∈am,0<=y/\y<p)/\∀i:Nat,i<row.length->row.getD i 0%p=dotW am (colW ae i)%p then og h else []
noncomputable def gTab (p:Int)(L:Nat)(W E:α1)(es:Bk):α0:=(nJ L).map fun x:Nat=>W.map fun v=>facL p (W.map (gOf E es)) (gOf E es (v++[(x:Int)]))
noncomputable def B6 (W:α1)(es:Bk):α2:=W.map fun v=>(mkO es v).getD 0
noncomputable def Bp (p:Int)(es:Bk)(t:α0)(l:α2):Option (α2):=(es.find? fun e=>decide (W71 p t l e.1≠e.2)).map (·.1)
noncomputable def need (L:Nat)(W E:α1):α1:=W++Jr (Eo L W) E
noncomputable def Ij (s:AS)(bE e:α2):AS×Option Wish:=if s.W.length=s.most then ({s with wr:=none,E:=s.E++[e]},some (.spent bE)) else ({s with wr:=none,W:=s.W++[bE],E:=s.E++[e],G:=Co s.es (need s.L (s.W++[bE]) (s.E++[e]))},none)
noncomputable def LP (s:AS)(t:α0)(v:α2)(lo:Nat):α2:=s.W.getD ((Lw s.p s.es s.W t v lo).getD 0) []++[v.getD lo 0]
noncomputable def F4 (s:AS)(v:α2)(t:α0)(l:α2):AS×Option Wish:=if s.W.length=0 then Ij s [] v else match GA s.p s.es s.W t v (W71 s.p t l v) v.length 0 v.length with
 |.ask aK=>({s with G:=Co s.es (s.W.map (· ++ v.drop aK))},none)
 |.fin lo=>Ij s (LP s t v lo) (v.drop (lo+1))
noncomputable def Jf (s:AS):AS×Option Wish:=match Bp s.p s.es (gTab s.p s.L s.W s.E s.es) (B6 s.W s.es) with
 |none=>({s with gs:=some (gTab s.p s.L s.W s.E s.es,B6 s.W s.es),wr:=none},some (.shown (gTab s.p s.L s.W s.E s.es) (B6 s.W s.es)))
 |some v=>({s with gs:=some (gTab s.p s.L s.W s.E s.es,B6 s.W s.es),wr:=some v},none)
noncomputable def Ct (s:AS):AS×Option Wish:=match s.G with
 |c::r=>({s with G:=r},some (.ask c))
 |[]=>match s.wr with
  |some v=>match s.gs with
   |some (t,l)=>F4 s v t l
   |none=>(s,none)
  |none=>Jf s
structure OkX (x:Option (α2))(B:Nat)(s:AS):Prop where
 tb:Tb s.p s.L s.most s.W s.E s.es
 b12:12<=B
 cov:s.wr=none->∀c∈need s.L s.W s.E,(∃m,mkO s.es c=some m)\/c∈s.G\/x=some c
 gn:s.G.Nodup
 gW:∀c∈s.G,isW s.L c=true/\mkO s.es c=none/\c.length<=B+(s.most+1)*s.E.length+(if s.wr.isSome then s.most else 0)
 le:∀e∈s.E,e.length+(s.most+1)<=B+(s.most+1)*s.E.length
 lb:∀q∈s.es,q.1.length<=B+(s.most+1)*s.E.length+(if s.wr.isSome then s.most else 0)
 wr:∀v,s.wr=some v->isW s.L v=true/\v.length<=B+(s.most+1)*s.E.length/\∃t l q,s.gs=some (t,l)/\GuessOk s.p s.L s.W s.E s.es t l/\mkO s.es v=some q/\q≠W71 s.p t l v
noncomputable def Full (L:Nat)(W E:α1)(es:Bk):Prop:=∀c∈need L W E,∃m,mkO es c=some m
def OkX.full {B:Nat} (o:OkX none B s)(h:s.G=[])(hw:s.wr=none):Full s.L s.W s.E s.es:=fun c hc=>by
 rcases o.cov hw c hc with z|z|z
 ·exact z
 ·rw[h]at z;cases z
 ·cases z
def Tb.fac (tb:Tb p L most W E es) (hr:row.length=W.length):(facL p (W.map (gOf E es)) row).length=W.length/\(∀y∈facL p (W.map (gOf E es)) row,0<=y/\y<p)/\∀i:Nat,i<W.length->row.getD i 0%p=dotW (facL p (W.map (gOf E es)) row) (colW (W.map (gOf E es)) i)%p:=by
 have p2:=tb.pr.1;have bS:=tb.ind.all tb.pr (fun r h=>by obtain⟨v,_,rfl⟩:=jv_.mp h;rw[Je,tb.sq]) (by rw[ja_]) hr;obtain⟨cs,c1,c2⟩:=bS;rw[ja_]at c1;have ex:∃am:α2,am.length=(W.map (gOf E es)).length/\(∀y∈am,0<=y/\y<p)/\∀i:Nat,i<row.length->row.getD i 0%p=dotW am (colW (W.map (gOf E es)) i)%p:=by
  refine⟨cs.map (· % p),by rw[ja_,ja_];exact c1,fun y hy=>?_,fun i hi=>?_⟩
  ·obtain⟨c,_,rfl⟩:=jv_.mp hy;exact⟨jC_ _ s!"",jx_ _ s!""⟩
  ·rw[c2 i s!""];refine cg.dot ?_ (cg.refl _ _);unfold cg;rw[jK_];exact jH_ fun c _=>(jM_ c (qg_ p)).symm
 unfold facL;rw[dif_pos ex];have h:=zv_ ex;exact⟨h.1.trans (ja_ _),h.2.1,fun i hi=>h.2.2 i s!""⟩
def Vu (h:v∈W):v∈need L W E:=j5_ _ h
def Vv (h:v∈W)(hx:x<L)(he:e∈E):v++[(x:Int)]++e∈need L W E:=jS_ _ (K8.mpr ⟨_,LO.mpr (.inr ⟨v,h,x,hx,rfl⟩),e,he,rfl⟩)
def Tb.guess (tb:Tb p L most W E es)(f:Full L W E es):GuessOk p L W E es (gTab p L W E es) (B6 W es):=by
 refine⟨by unfold gTab;rw[ja_,jT_],fun t ht=>?_,by unfold B6;rw[ja_],fun i v hv=>?_,fun x i v hx hv=>?_⟩
 ·unfold gTab at ht;obtain⟨x,hx,rfl⟩:=jv_.mp ht;refine⟨by rw[ja_],fun r hr=>?_⟩;obtain⟨v,hv,rfl⟩:=jv_.mp hr;have:=tb.fac (row:=gOf E es (v++[(x:Int)])) (by rw[Je,tb.sq]);exact⟨this.1,this.2.1⟩
 ·obtain⟨m,hm⟩:=f v (Vu (jn_ hv));exact⟨m,by unfold B6;rw[jh_,hv];show some ((mkO es v).getD 0)=_;rw[hm];rfl,hm⟩
 ·refine⟨_,_,by unfold gTab;rw[jh_,q5_ hx];rfl,by rw[jh_,hv];rfl,fun e he=>?_⟩;obtain⟨m,hm⟩:=f _ (Vv (jn_ hv) hx he);obtain⟨j,hj⟩:=j1_.mp he;have hjl:=(je_.mp hj).1;rw[tb.sq]at hjl;have h3:=(tb.fac (row:=gOf E es (v++[(x:Int)])) (by rw[Je,tb.sq])).2.2 j hjl;rw[Vs hj,Ii hj,hm]at h3;exact⟨m,hm,h3⟩
noncomputable def mu (s:AS):Nat:=4*(s.most-s.W.length)+(if s.G ≠ [] then 0 else if s.wr.isSome then 1 else 2)
noncomputable def WOk (B:Nat)(s:AS):Wish->Prop
 |.ask c=>OkX (some c) B s/\mkO s.es c=none/\isW s.L c=true/\c.length<=B+(s.most+1)*s.E.length+(if s.wr.isSome then s.most else 0)/\c∉s.G
 |.shown t l=>OkX none B s/\s.G=[]/\s.wr=none/\s.gs=some (t,l)/\GuessOk s.p s.L s.W s.E s.es t l/\∀q∈s.es,W71 s.p t l q.1=q.2
 |.done t l=>OkX none B s/\s.G=[]/\s.wr=none/\s.gs=some (t,l)/\GuessOk s.p s.L s.W s.E s.es t l/\∀q∈s.es,W71 s.p t l q.1=q.2
 |.spent _=>True
structure Kept (s s':AS):Prop where
 q:s'.p=s.p
 l:s'.L=s.L
 m:s'.most=s.most
 e:s'.es=s.es
def LQ {L:Nat}{v:α2}{x:Nat}(h:isW (L:Int) v=true)(hx:x<L):isW (L:Int) (v++[(x:Int)])=true:=Bn.mpr fun y hy=>by
 rcases jJ_.mp hy with hy|hy
 ·exact Bn.mp h y hy
 ·rw[ji_.mp hy];lia
def NA (ha:isW L a=true)(hb:isW L b=true):isW L (a++b)=true:=Bn.mpr fun x hx=>by
 rcases jJ_.mp hx with hx|hx
 ·exact Bn.mp ha x hx
 ·exact Bn.mp hb x hx
def Jg (ha:isW L a=true)(n:Nat):isW L (a.drop n)=true:=Bn.mpr fun x hx=>Bn.mp ha x (List.mem_of_mem_drop hx)
def WB (tb:Tb p L most W E es){B:Nat}(b12:12<=B)(le:∀e∈E,e.length+(most+1)<=B+(most+1)*E.length) (hc:c∈need L W E):isW L c=true/\c.length<=B+(most+1)*E.length:=by
 have hn:=tb.wn;have hm:=tb.m12;rcases jJ_.mp hc with hc|hc
 ·have:=tb.wW c hc;exact⟨this.1,by lia⟩
 ·obtain⟨r,hr,e,he,rfl⟩:=K8.mp hc;have h2:=le e he;have h1:isW L r=true/\r.length<=W.length:=by
   rcases LO.mp hr with h|⟨a,ha,y,hy,rfl⟩
   ·have:=tb.wW r h;exact⟨this.1,by lia⟩
   ·have:=tb.wW a ha;exact⟨LQ this.1 hy,by rw[ju_,jU_];lia⟩
  exact⟨NA h1.1 (tb.eW e he),by rw[ju_];lia⟩
def Sh {B:Nat} (o:OkX none B s)(hG:s.G=[]) (hv:s.wr=some v) (cW:e.length<=B+(s.most+1)*s.E.length)(fE:s.W.length<s.most->Tb s.p s.L s.most (s.W++[bE]) (s.E++[e]) s.es):(∀s',Ij s bE e=(s',none)->OkX none B s'/\Kept s s'/\mu s'<mu s)/\∀s' x,Ij s bE e=(s',some x)->WOk B s' x/\Kept s s':=by
 unfold Ij;by_cases hm:s.W.length=s.most
 ·rw[if_pos hm];refine⟨fun s' z=>(by cases z),fun s' x z=>?_⟩;cases z;exact⟨trivial,⟨rfl,rfl,rfl,rfl⟩⟩
 ·rw[if_neg hm];refine⟨fun s' z=>?_,fun s' x z=>(by cases z)⟩;cases z;have aF:s.W.length<s.most:=by have:=o.tb.wn;lia
  have tb:=fE aF;have el:(s.E++[e]).length=s.E.length+1:=by simp
  have le':∀u∈s.E++[e],u.length+(s.most+1)<=B+(s.most+1)*(s.E++[e]).length:=fun u hu=>by
   rw[el,rq];rcases jJ_.mp hu with hu|hu
   ·have:=o.le u hu;lia
   ·rw[ji_.mp hu];lia
  refine⟨⟨tb,o.b12,fun _ c hc=>?_,Jw _ _,fun c hc=>?_,le',fun q hq=>?_,fun v z=>(by cases z)⟩,⟨rfl,rfl,rfl,rfl⟩,?_⟩
  ·cases h:mkO s.es c with
   |some m=>exact .inl ⟨m,rfl⟩
   |none=>exact .inr (.inl (Gu.mpr ⟨hc,h⟩))
  ·obtain⟨h1,h2⟩:=Gu.mp hc;have:=WB tb o.b12 le' h1;exact⟨this.1,h2,by show c.length<=_+0;have:=this.2;lia⟩
  ·have:=o.lb q hq;rw[hv]at this;simp only[xe_,zZ_]at this;show q.1.length<=B+(s.most+1)*(s.E++[e]).length+0;rw[el,rq];lia
  ·unfold mu;rw[hv,hG];simp only[xe_,zZ_,Option.isSome_none,xg_,xH_,ne_eq,not_true_eq_false,ju_,jU_];split<;>lia
def NB {p:Int}{L most:Nat}{W E:α1}{es:Bk}{t:α0}{l:α2}(g:GuessOk p L W E es t l):AllT es W []/\nums es W []=l:=by
 refine⟨fun w hw=>?_,?_⟩
 ·obtain⟨i,hi⟩:=j1_.mp hw;obtain⟨m,_,b⟩:=g.lt i w hi;exact⟨m,by rw[xA_];exact b⟩
 ·refine qF_ fun i=>?_;unfold nums;rw[jh_];by_cases hi:i<W.length
  ·obtain⟨m,a,b⟩:=g.lt i _ (jc_ hi);rw[jc_ hi,a];show some ((mkO es (W[i]++[])).getD 0)=some m;rw[xA_,b];rfl
  ·rw[jF_ s!"",jF_ (by rw[g.ll];lia)];rfl
def T3 {B:Nat} (o:OkX none B s)(hG:s.G=[]) (hv:s.wr=some v)(hg:s.gs=some (t,l)):(∀s',F4 s v t l=(s',none)->OkX none B s'/\Kept s s'/\mu s'<mu s)/\∀s' x,F4 s v t l=(s',some x)->WOk B s' x/\Kept s s':=by
 obtain⟨cc,mS,t',l',q,e1,g,hq,aC⟩:=o.wr v hv;rw[hg]at e1;cases e1;have tb:=o.tb;have qv:=tb.val hq;unfold F4;by_cases dO:s.W.length=0
 ·rw[if_pos dO];have hW:s.W=[]:=jN_.mp dO;have hE:s.E=[]:=jN_.mp (by rw[tb.sq];exact dO);have hl:l=[]:=jN_.mp (by rw[g.ll];exact dO);refine Sh o hG hv s!"" fun aF=>?_;have bC:q≠0:=fun z=>aC (by rw[z,hl];unfold W71;rw[Bt];rfl);rw[hW,hE];refine⟨tb.pr,tb.p18,tb.l1,tb.l6,tb.m12,rfl,fun u hu=>(jt_ hu).symm,fun u hu=>?_,by show 1<=_;lia,fun e he=>?_,tb.nd,tb.bW,fun e he w hw=>?_,?_⟩
  ·rw[ji_.mp hu];exact⟨Bn.mpr fun x hx=>(by cases hx),by simp⟩
  ·rw[ji_.mp he];exact cc
  ·rw[ji_.mp he,ji_.mp hw];exact⟨q,hq⟩
  ·intro cs dG aA;have dG:cs.length=1:=dG;obtain⟨c,rfl⟩:∃c,cs=[c]:=by
    match cs,dG with
    |[c],_=>exact⟨c,rfl⟩
   have h:=aA 0 (by simp);rw[Ii (e:=v) (by rfl)]at h;have h:dotW [c] [(mkO s.es ([]++v)).getD 0]%s.p=0:=h;rw[qK_,hq,AU,Bt]at h;have h:(c*q+0)%s.p=0:=h;intro d hd;rw[ji_.mp hd];refine Sg tb.pr (a:=q) (by rw[p9]at h;exact h) ?_;rw[j0_ qv.1 qv.2];exact bC
 ·rw[if_neg dO];have fF:s.W ≠ []:=fun z=>dO (by rw[z];rfl);obtain⟨ha,hn⟩:=NB (most:=s.most) g;have js:dotW (R71 s.p t s.W.length v) l%s.p=W71 s.p t l v:=by unfold W71;rw[g.ll,Be]
  have fG:0<v.length:=by
   refine pU fun z=>?_;have:v=[]:=jN_.mp z;subst this;have aF:0<s.W.length:=by lia
   obtain⟨m,m1,m2⟩:=g.lt 0 _ (jc_ aF);rw[tb.w0 _ (jc_ aF),hq]at m2;cases m2;refine aC ?_;rw[<-js];have hu:dotW (R71 s.p t s.W.length []) l=l.getD 0 0:=by
    rw[Be];exact Ib _ g.ll
   rw[hu,jb_,m1];show q=q%s.p;rw[j0_ qv.1 qv.2]
  have key:=MK (p:=s.p) (es:=s.es) (W:=s.W) (t:=t) (v:=v) (goal:=W71 s.p t l v) v.length 0 v.length s!"" fG (jf_ _) (.inl ⟨rfl,q,hq,aC⟩) ⟨by rw[qM_];exact ha,by rw[qM_,jG_,hn];exact js⟩;cases hh:GA s.p s.es s.W t v (W71 s.p t l v) v.length 0 v.length with
  |ask aK=>
   rw[hh]at key;obtain⟨k1,k2,k3⟩:=key;refine⟨fun s' z=>?_,fun s' x z=>(by cases z)⟩;cases z;have hne2:Co s.es (s.W.map (· ++ v.drop aK)) ≠ []:=fun z=>k3 fun w hw=>by
    cases h:mkO s.es (w++v.drop aK) with
    |some m=>exact⟨m,rfl⟩
    |none=>
     have:w++v.drop aK∈Co s.es (s.W.map (· ++ v.drop aK)):=Gu.mpr ⟨jv_.mpr ⟨w,hw,rfl⟩,h⟩;rw[z]at this;cases this
   refine⟨⟨tb,o.b12,fun z=>(by rw[show s.wr=none from z]at hv;cases hv),Jw _ _,fun c hc=>?_,o.le,o.lb,o.wr⟩,⟨rfl,rfl,rfl,rfl⟩,?_⟩
   ·obtain⟨h1,h2⟩:=Gu.mp hc;obtain⟨w,hw,rfl⟩:=jv_.mp h1;have hww:=tb.wW w hw;have hwn:=tb.wn;refine⟨NA hww.1 (Jg cc _),h2,?_⟩;show (w++v.drop aK).length<=B+(s.most+1)*s.E.length+(if s.wr.isSome then s.most else 0);rw[hv,ju_,qj_];simp only[xe_,zZ_];lia
   ·unfold mu;rw[hG];simp only[ne_eq,hne2,not_false_eq_true,zZ_,not_true_eq_false,xH_,hv,xe_];lia
  |fin lo=>
   rw[hh]at key;obtain⟨k1,k2,k3⟩:=key;obtain⟨i,x,w,r,tx,m,n1,n2,n3,n4,n5,n6,n7,n8⟩:=Vt tb g cc fF k1 k2 k3;have bO:=tb.wW w (jn_ n4);have bT:LP s t v lo=w++[(x:Int)]:=by
    unfold LP;rw[n1,jb_,jb_,n2];show (s.W[i]?).getD []++_=_;rw[n4];rfl
   obtain⟨x',fR,_,_,kf⟩:=Ko cc k1;rw[n2]at fR;have hxx:x=x':=Int.ofNat.inj (jt_ fR);subst hxx;have hJ:mkO s.es (w++[(x:Int)]++v.drop (lo+1))=some m:=by
    rw[zW_,List.singleton_append,<-kf];exact n7
   obtain⟨tx',r',y1,y2,y3⟩:=g.eq x i w n3 n4;rw[n5]at y1;cases y1;rw[n6]at y2;cases y2;have aW:r.length=s.W.length:=((g.tt tx (jn_ n5)).2 r (jn_ n6)).1;dsimp only;rw[bT];refine Sh o hG hv (by rw[qj_];lia) fun aF=>?_;refine⟨tb.pr,tb.p18,tb.l1,tb.l6,tb.m12,by simp[tb.sq],fun u hu=>?_,fun u hu=>?_,by simp;lia,fun e he=>?_,tb.nd,tb.bW,fun e he u hu=>?_,T2 tb aW k3.1 y3 hJ n8⟩
   ·rw[jw_ s!""]at hu;exact tb.w0 u hu
   ·rw[ju_,jU_];rcases jJ_.mp hu with hu|hu
    ·have:=tb.wW u hu;exact⟨this.1,by lia⟩
    ·rw[ji_.mp hu];exact⟨LQ bO.1 n3,by rw[ju_,jU_];lia⟩
   ·rcases jJ_.mp he with he|he
    ·exact tb.eW e he
    ·rw[ji_.mp he];exact Jg cc _
   ·rcases jJ_.mp he with he|he
    ·rcases jJ_.mp hu with hu|hu
     ·exact tb.tl e he u hu
     ·rw[ji_.mp hu];obtain⟨q,q1,_⟩:=y3 e he;exact⟨q,q1⟩
    ·rw[ji_.mp he];rcases jJ_.mp hu with hu|hu
     ·exact k3.1 u hu
     ·rw[ji_.mp hu];exact⟨m,hJ⟩
def WD {B:Nat} (o:OkX none B s)(hG:s.G=[])(hw:s.wr=none):(∀s',Jf s=(s',none)->OkX none B s'/\Kept s s'/\mu s'<mu s)/\∀s' x,Jf s=(s',some x)->WOk B s' x/\Kept s s':=by
 have tb:=o.tb;have full:=o.full hG hw;have g:=tb.guess full;have mT:∀q∈s.es,q.1.length<=B+(s.most+1)*s.E.length:=fun q hq=>by
  have:=o.lb q hq;rw[hw]at this;exact this
 have jt:∀c∈s.G,False:=fun c hc=>by rw[hG]at hc;cases hc
 unfold Jf;cases hf:Bp s.p s.es (gTab s.p s.L s.W s.E s.es) (B6 s.W s.es) with
 |none=>
  refine⟨fun s' z=>(by cases z),fun s' x z=>?_⟩;cases z;refine⟨⟨⟨tb,o.b12,fun _=>o.cov hw,o.gn,fun c hc=>(jt c hc).elim,o.le,fun q hq=>by have:=mT q hq;exact this,fun v z=>(by cases z)⟩,hG,rfl,rfl,g,fun q hq=>?_⟩,⟨rfl,rfl,rfl,rfl⟩⟩;unfold Bp at hf;rw[xw_,qZ_]at hf;have:=hf q hq;simpa using this
 |some v=>
  refine⟨fun s' z=>?_,fun s' x z=>(by cases z)⟩;cases z;unfold Bp at hf;cases lx:s.es.find? (fun e=>decide (W71 s.p (gTab s.p s.L s.W s.E s.es) (B6 s.W s.es) e.1≠e.2)) with
  |none=>rw[lx]at hf;cases hf
  |some e=>
   rw[lx]at hf;cases hf;have h1:=xP_ lx;have h2:=oY lx;have h2:W71 s.p (gTab s.p s.L s.W s.E s.es) (B6 s.W s.es) e.1≠e.2:=xJ_ h2;refine⟨⟨tb,o.b12,fun z=>(by cases z),o.gn,fun c hc=>(jt c hc).elim,o.le,fun q hq=>by have:=mT q hq;show q.1.length<=B+(s.most+1)*s.E.length+s.most;lia,fun v z=>?_⟩,⟨rfl,rfl,rfl,rfl⟩,?_⟩
   ·cases z;exact⟨(tb.bW e h1).1,mT e h1,_,_,e.2,rfl,g,E1 tb.nd h1,qn_ h2⟩
   ·unfold mu;rw[hG,hw];simp
def OD {B:Nat} (o:OkX none B s):(∀s',Ct s=(s',none)->OkX none B s'/\Kept s s'/\mu s'<mu s)/\∀s' x,Ct s=(s',some x)->WOk B s' x/\Kept s s':=by
 unfold Ct;cases hG:s.G with
 |cons c r=>
  refine⟨fun s' z=>(by cases z),fun s' x z=>?_⟩;cases z;have gn:=o.gn;rw[hG,qU_]at gn;have hc:=o.gW c (by rw[hG];exact jA_ ..);refine⟨⟨⟨o.tb,o.b12,fun hw b hb=>?_,gn.2,fun b hb=>o.gW b (by rw[hG];exact jp_ _ hb),o.le,o.lb,o.wr⟩,hc.2.1,hc.1,hc.2.2,gn.1⟩,⟨rfl,rfl,rfl,rfl⟩⟩;rcases o.cov hw b hb with z|z|z
  ·exact .inl z
  ·rw[hG]at z;rcases jD_.mp z with rfl|z
   ·exact .inr (.inr rfl)
   ·exact .inr (.inl z)
  ·cases z
 |nil=>
  cases hw:s.wr with
  |none=>exact WD o hG hw
  |some v=>
   obtain⟨_,_,t,l,q,e1,_⟩:=o.wr v hw;rw[e1];exact T3 o hG hw e1
def OkX.told {B:Nat} (o:OkX y B s) (hy:∀b,y=some b->b=c)(hn:c∉s.es.map (·.1))(hc:isW s.L c=true)(h0:0<=m)(h9:m<s.p)(hl:c.length<=B+(s.most+1)*s.E.length+(if s.wr.isSome then s.most else 0))(hg:c∉s.G):OkX none B {s with es:=s.es++[(c,m)]}:=by
 have gr:=Grow.snoc s.es c m;have fE:=o.tb.put hn hc h0 h9;refine⟨fE,o.b12,fun hw b hb=>?_,o.gn,fun b hb=>?_,o.le,fun q hq=>?_,fun v hv=>?_⟩
 ·rcases o.cov hw b hb with ⟨z,hz⟩|z|z
  ·exact .inl ⟨z,gr _ _ hz⟩
  ·exact .inr (.inl z)
  ·have:=hy b z;subst this;exact .inl ⟨m,E1 fE.nd (by simp)⟩
 ·obtain⟨h1,h2,h3⟩:=o.gW b hb;refine⟨h1,Ih fun z=>?_,h3⟩;have z:b∈(s.es++[(c,m)]).map (·.1):=z;rw[jj_]at z;rcases jJ_.mp z with z|z
  ·obtain⟨n,bx⟩:=OC.mp z;rw[h2]at bx;cases bx
  ·rw[ji_.mp z]at hb;exact hg hb
 ·rcases jJ_.mp hq with hq|hq
  ·exact o.lb q hq
  ·rw[ji_.mp hq];exact hl
 ·obtain⟨h3,h4,t,l,q,h5,h6,h7,h8⟩:=o.wr v hv;exact⟨h3,h4,t,l,q,h5,h6.mono o.tb gr,gr _ _ h7,h8⟩
noncomputable def WE (K:α3):Sp:=fun vs H Q _=>∃(d t pe:Addr) (es:Bk) (v:α2) (ys:List V) (E:α1),vs=[.ref d,.ref t,.ref pe]/\H d=some (.dT (ents es))/\(es.map (·.1)).Nodup/\H t=some (.tup (v.map V.int))/\SqL K H pe ys/\Ao K H ys E/\v.length<=600/\(∀e∈E,e.length<=600)/\E.length<=100/\(∀e∈E,∃m,mkO es (v++e)=some m)/\∀q H',Same H H'->H' q=some (.tup ((gOf E es v).map V.int))->Q (.ref q) H'
def Ey:⋯ EE.j20 1 ["told","word","ends"] (WE K):=by
 delta EE.j20 IX
 ·obtain⟨d,t,pe,es,v,ys,E,rfl,_⟩:=h;rfl
 ·obtain⟨d,t,pe,es,v,ys,E,rfl,hd,nd,ht,eU,hE,mS,eS,hen,aA,k⟩:=h;have hl:=Al;refine⟨_,(Ae (Am (AF AM rfl EE.tuple jO_ (Aa (BN rfl (BL rfl) (cp:=DY) ⟨⟨rfl,rfl⟩,⟨⟨rfl,rfl⟩,nL⟩⟩ (Br (pvD 2)) (fun _ _ _ _=>(Aq (i:=0) FZ rfl (nM rfl))) (fun _ _ _ _=>By) (fun _ _ _ _=>(OU (Fz hr) (pvD 1) (Ar (FF (K:=K) rfl) (pvD 2) (pvD 0)) ⟨by rfl,by rfl,by rfl,by rfl⟩))) Ad)))),?_⟩;nofun;refine⟨⟨_,eU⟩,KA (xs:=ys) (fun i us af H'=>Same H H'/\us=(gOf (E.take i) es v).map V.int/\∃o,af=[o,some (.ref d),some (.ref t)]) ⟨Same.refl _,rfl,none,rfl⟩ (by rw[hE.1];lia) (fun i us af H' hi h'=>⟨h'.1.seq eU,by rw[h'.2.1,ja_];unfold gOf;rw[ja_,jI_];lia⟩) (fun i x us af H' hx h'=>?_) (fun us af H' h' D hD=>?_)⟩
  ·obtain⟨s1,rfl,o,rfl⟩:=h';obtain⟨te,e,bK,rfl,ju⟩:=hE.at hx;have heE:=jn_ bK;have hel':=eS e heE;obtain⟨m,hm⟩:=aA e heE;have et:E.take (i+1)=E.take i++[e]:=by rw[jQ_,bK];rfl
   have iV:valV (ents es) (wkey (v++e))=some (.int m):=Dm nd (MF hm);nofun;refine⟨.inr ⟨_,.inl (s1 _ _ hd)⟩,Cb.ofS (s1 _ _ ht) (s1 _ _ ju) (by simp;lia) fun q H2 s2 hq=>?_⟩;have bj:=s1.trans s2;rw[<-jj_,<-BZ]at hq;refine⟨_,DGet.t (bj _ _ hd) hq,bj,?_,_,rfl⟩;rw[iV,et];unfold gOf;rw[jj_,jj_,j7_,hm];rfl
  ·obtain⟨s1,rfl,o,rfl⟩:=h';rw[hE.1,jG_];exact⟨D,rfl,_,.inl ⟨SqL.of Ab,fun q hq=>k q _ ((s1.newT hD).newT hq) Ab⟩⟩
noncomputable def TabT (K:α3)(H:Hp)(us:List V)(t:α0):Prop:=us.length=t.length/\∀(x:Nat) (tb:α1),t[x]?=some tb->∃u zs,us[x]?=some (.ref u)/\H u=some (.tup zs)/\Ao K H zs tb
def TabT.mono {K:α3} (h:TabT K H us t)(k:TK H H'):TabT K H' us t:=⟨h.1,fun x tb hx=>by
 obtain⟨u,zs,a,b,c⟩:=h.2 x tb hx;exact⟨u,zs,a,k _ _ b,c.mono k⟩⟩
def TabT.snoc {K:α3} (h:TabT K H us t)(hu:H u=some (.tup zs))(hz:Ao K H zs tb):TabT K H (us++[.ref u]) (t++[tb]):=⟨by simp[h.1],fun x fE hx=>by
 by_cases hl:x<t.length
 ·rw[jw_ hl]at hx;obtain⟨q,ws,a,b,c⟩:=h.2 x fE hx;exact⟨q,ws,by rw[jw_ (by rw[h.1];exact hl)];exact a,b,c⟩
 ·have aF:=(je_.mp hx).1;rw[ju_,jU_]at aF;rw[jy_ s!"",show x-t.length=0 by lia]at hx;cases hx;exact⟨u,zs,by rw[jy_ (by rw[h.1];lia),h.1,show x-t.length=0 by lia];rfl,hu,hz⟩⟩
noncomputable def GuT (K:α3)(H:Hp)(h:Addr)(p L:Int)(t:α0)(l:α2):Prop:=∃tf tt tl us,H h=some (.tup [.int p,.int L,.ref tf,.ref tt,.ref tl])/\H tf=some (.tup ((Bu l.length 0).map V.int))/\H tt=some (.tup us)/\TabT K H us t/\H tl=some (.tup (l.map V.int))
def GuT.mono {K:α3} (x:GuT K H h p L t l)(k:TK H H'):GuT K H' h p L t l:=by
 obtain⟨tf,tt,tl,us,a,b,c,d,e⟩:=x;exact⟨tf,tt,tl,us,k _ _ a,k _ _ b,k _ _ c,d.mono k,k _ _ e⟩
def Ao.rowsN {K:α3} (h:Ao K H zs ws):Fu K H zs ws:=⟨h.1,fun i r hr=>by
 obtain⟨t,a,b⟩:=h.2 i r hr;exact⟨t,a,SqT.of b⟩⟩
def GuT.sum {K:α3} (x:GuT K H h p L t l):SumH K H h p L (Bu l.length 0) t l:=by
 obtain⟨tf,tt,tl,us,a,b,c,d,e⟩:=x;refine⟨tf,tt,tl,SqT.of a,SqT.of b,SqT.of e,us.map (fun v=>match v with | .ref t=>t|_=>0),?_,by rw[ja_];exact d.1,fun i u tb hu ht=>?_⟩
 ·have e:(us.map (fun v=>match v with | .ref t=>t|_=>0)).map V.ref=us:=by
   rw[jK_];refine qF_ fun i=>?_;rw[jh_];by_cases hi:i<t.length
   ·obtain⟨u,zs,a,_⟩:=d.2 i t[i] (by simp[hi]);rw[a];rfl
   ·rw[jF_ (by rw[d.1];lia)];rfl
  rw[e];exact SqT.of c
 ·obtain⟨u',zs,a,b,c⟩:=d.2 i tb ht;rw[jh_,a]at hu;cases hu;exact⟨zs,SqT.of b,Ao.rowsN c⟩
noncomputable def WG (K:α3):Sp:=fun vs H Q _=>∃(p:Int) (L most:Nat) (pw pe d:Addr) (zs ys:List V) (W E:α1) (es:Bk),vs=[.int p,.int L,.ref pw,.ref pe,.ref d]/\SqL K H pw zs/\Ao K H zs W/\SqL K H pe ys/\Ao K H ys E/\H d=some (.dT (ents es))/\Tb p L most W E es/\Full L W E es/\(∀e∈E,e.length<=500)/\∀h H',Same H H'->GuT K H' h p L (gTab p L W E es) (B6 W es)->Q (.ref h) H'
def NC:⋯ EE.j21 6 ["p","letters","access","ends","told"] (WG K):=by
 delta EE.j21 Bz
 ·obtain⟨p,L,most,pw,pe,d,zs,ys,W,E,es,rfl,_⟩:=h;rfl
 ·obtain⟨p,L,most,pw,pe,d,zs,ys,W,E,es,rfl,dE,hW,eU,hE,hd,tb,full,eS,k⟩:=h;have hl:=Al;have hwn:=tb.wn;have hm12:=tb.m12;have mU:=tb.sq;have hl6:=tb.l6;have bB:∀v∈W,v.length<=12:=fun v hv=>by have:=(tb.wW v hv).2;lia
  refine⟨_,(Ac (Ak (i:=5) Bz.nd (AK (lenD AG) (by rfl) EE.len qm_ (Aa (pvD 2) Ad)))
   (Ac (IQ (i:=6) Bz.nd rfl rfl rfl (BL rfl) (cp:=HK) ⟨⟨rfl,rfl⟩,⟨⟨rfl,rfl⟩,nL⟩⟩ (Br (pvD 2)) (fun _ _ _ _=>(Aq (i:=0) J3 rfl (nM rfl))) (fun _ _ _ _=>By) (fun _ _ _ _=>(Af (Ey EE) hr.d An (Aa (pvD 1) (Aa (pvD 0) (Aa (pvD 2) Ad))))))
   (Ac (Ak (i:=7) Bz.nd (E9 Ad))
   (Ac (Bx jL_ rfl (Cd rfl EE.range (Aa (pvD 1) Ad)) (Aq (i:=8) Bz.nd rfl (oq rfl))
   (Ac (IQ (i:=9) Bz.nd rfl rfl rfl (BL rfl) (cp:=HN) ⟨⟨rfl,rfl⟩,⟨⟨rfl,rfl⟩,⟨⟨rfl,rfl⟩,nL⟩⟩⟩ (Br (pvD 2)) (fun _ _ _ _=>(Aq (i:=0) J4 rfl (nM rfl))) (fun _ _ _ _=>By) (fun _ _ _ _=>(Af (Ey EE) hr.d An (Aa (pvD 1) (Aa (Ar (FF (K:=K) rfl) (pvD 0) (Ce (Aa (pvD 3) Ad))) (Aa (pvD 2) Ad))))))
   (Ae (AB (M6 qi_ qs_ qt_ Dv (pvD 7) (Aa (AF AM rfl EE.tuple jO_ (Aa (BN rfl (BL rfl) (cp:=HS) nL (Br (Af (Ie EE) hr.d An (Aa (pvD 0) (Aa (pvD 6) (Aa (pvD 9) (Aa (pvD 5) Ad)))))) (fun _ _ _ _=>(Aq (i:=0) J5 rfl (nM rfl))) (fun _ _ _ _=>By) (fun _ _ _ _=>(AF (Mh (K:=K) rfl) rfl EE.tuple jO_ (Aa (pvD 0) Ad)))) Ad)) Ad))))))
   (Ac (Ak (i:=10) Bz.nd (AF AM rfl EE.tuple jO_ (Aa (BN rfl (BL rfl) (cp:=GH) ⟨⟨rfl,rfl⟩,nL⟩ (Br (pvD 2)) (fun _ _ _ _=>(Aq (i:=0) I0 rfl (nM rfl))) (fun _ _ _ _=>By) (fun _ _ _ _=>(L8 (Fz hr) (pvD 1) (pvD 0) (fun _ _=>rfl)))) Ad)))
   (Ae (Am (Ce (Aa (pvD 0) (Aa (pvD 1) (Aa (Af (R9 EE) hr.d An (Aa (pvD 5) (Aa Ai Ad))) (Aa (AF AM rfl EE.tuple jO_ (Aa (pvD 7) Ad)) (Aa (pvD 10) Ad))))))))))))),?_⟩
  nofun;refine⟨_,.inl dE,⟨_,dE⟩,?_⟩;have mrow:∀v∈W,gOf E es v∈W.map (gOf E es):=fun v hv=>xW_ hv;refine KA (xs:=zs) (fun i us af H'=>Same H H'/\Ao K H' us ((W.take i).map (gOf E es))/\∃o,af=[o,some (.ref d),some (.ref pe)]) ⟨Same.refl _,Ao.nil,none,rfl⟩ (by rw[hW.1];lia) (fun i us af H' hi h'=>⟨h'.1.seq dE,by rw[h'.2.1.1,ja_,jI_];lia⟩) (fun i x us af H' hx h'=>?_) (fun us af H1 h' D hD=>?_)
  ·obtain⟨s1,hR,o,rfl⟩:=h';obtain⟨t,v,eT,rfl,ht⟩:=hW.at hx;have cc:=jn_ eT;nofun;refine⟨d,t,pe,es,v,ys,E,rfl,s1 _ _ hd,tb.nd,s1 _ _ ht,s1.seq eU,hE.mono (TK.of s1),by have:=bB v cc;lia,fun e he=>by have:=eS e he;lia,by lia,fun e he=>tb.tl e he v cc,fun q H2 s2 bQ=>⟨s1.trans s2,?_,_,rfl⟩⟩;rw[jQ_,eT,jj_];exact (hR.mono (TK.of s2)).snoc bQ
  obtain⟨s1,hR,o,rfl⟩:=h';rw[hW.1,jG_]at hR;have mV:=s1.newT hD (o:=.lst us);have hR1:=hR.mono (TK.new hD (o:=.lst us));have hDs:upd H1 D (.lst us) D=some (.lst us):=Ab;generalize upd H1 D (.lst us)=H2 at mV hR1 hDs ⊢;refine⟨by lia,fun q hq=>⟨by lia,by lia,?_⟩⟩;rw[jz_,hW.1];have s2:=Same.new hq (o:=.lst []);have bQ:upd H2 q (.lst []) q=some (.lst []):=Ab;obtain⟨Pv,aq⟩:∃Pv:Nat->St->Hp->Prop,∀i af H',Pv i af H'↔(∃(o1 o2:Option V) (jv:List V),Same H2 H'/\H' q=some (.lst jv)/\TabT K H' jv ((gTab p L W E es).take i)/\af=[some (.int p),some (.int L),some (.ref pw),some (.ref pe),some (.ref d),some (.int W.length),some (.ref D),some (.ref q),o1,o2,none]):=⟨_,fun _ _ _=>qE_⟩;have gl:(gTab p L W E es).length=L:=by unfold gTab;rw[ja_,jT_]
  refine forR Pv ((aq _ _ _).mpr ⟨none,none,[],s2,bQ,⟨rfl,fun x tb z=>by simp at z⟩,rfl⟩) (fun x af H' hx h'=>?_) (fun af H' h'=>?_)
  ·obtain⟨o1,o2,jv,s3,kb,hT,rfl⟩:=(aq _ _ _).mp h';rw[xF_];have t3:=mV.trans s3;nofun;refine⟨⟨_,t3.seq dE⟩,KA (xs:=zs) (fun i us af H4=>Same H' H4/\Ao K H4 us ((W.take i).map fun v=>gOf E es (v++[(x:Int)]))/\∃o,af=[o,some (.ref d),some (.ref pe),some (.int x)]) ⟨Same.refl _,Ao.nil,none,rfl⟩ (by rw[hW.1];lia) (fun i us af H4 hi h'=>⟨h'.1.seq (t3.seq dE),by rw[h'.2.1.1,ja_,jI_];lia⟩) (fun i xv cU af H4 cY h'=>?_) (fun cU af H4 h' D2 g9=>?_)⟩
   ·obtain⟨s4,eP,o,rfl⟩:=h';obtain⟨t,v,eT,rfl,ht⟩:=hW.at cY;have cc:=jn_ eT;have t4:=t3.trans s4;nofun;refine⟨by lia,fun p5 lz=>?_⟩;have a5:=Same.new lz (o:=.tup [V.int (x:Int)]);refine Cb.ofS (a5 _ _ (t4 _ _ ht)) Ab (by have:=bB v cc;simp;lia) fun t6 H6 s6 ht6=>?_;have a6:=a5.trans s6;have mW:=t4.trans a6;rw[show [V.int (x:Int)]=[(x:Int)].map V.int from rfl,<-jj_]at ht6;refine⟨d,t6,pe,es,v++[(x:Int)],ys,E,rfl,mW _ _ hd,tb.nd,ht6,mW.seq eU,hE.mono (TK.of mW),by have:=bB v cc;simp;lia,fun e he=>by have:=eS e he;lia,by lia,fun e he=>full _ (Vv cc hx he),fun q7 H7 s7 mJ=>⟨s4.trans (a6.trans s7),?_,_,rfl⟩⟩;rw[jQ_,eT,jj_];exact (eP.mono (TK.of (a6.trans s7))).snoc mJ
   obtain⟨s4,eP,o,rfl⟩:=h';rw[hW.1,jG_]at eP;have a5:=s4.newT g9 (o:=.lst cU);have hR5:=eP.mono (TK.new g9 (o:=.lst cU));have iW:upd H4 D2 (.lst cU) D2=some (.lst cU):=Ab;generalize upd H4 D2 (.lst cU)=H5 at a5 hR5 iW ⊢;have t5:=s3.trans a5;have aW:∀r∈W.map (gOf E es),r.length=W.length:=fun r hr=>by obtain⟨v,_,rfl⟩:=jv_.mp hr;rw[Je,mU]
   have hsl:∀r∈W.map (fun v=>gOf E es (v++[(x:Int)])),r.length=W.length:=fun r hr=>by obtain⟨v,_,rfl⟩:=jv_.mp hr;rw[Je,mU]
   have iM:=a5 _ _ kb;have hT5:=hT.mono (TK.of a5);refine⟨.inl ⟨rfl,_,SqL.of iM⟩,p,false,D,D2,W.length,us,cU,W.map (gOf E es),W.map (fun v=>gOf E es (v++[(x:Int)])),rfl,tb.pr,SqL.of (t5 _ _ hDs),Ao.rowsN (hR1.mono (TK.of t5)),aW,SqL.of iW,Ao.rowsN hR5,hsl,by lia,by rw[ja_];lia,by rw[ja_];lia,fun l6 zs6 bs H6 s6 gm hl6' seen told=>?_⟩;refine⟨l6,rfl,⟨_,SqL.of hl6'⟩,KA (xs:=zs6) (fun i us af H7=>Same H6 H7/\Ao K H7 us ((W.take i).map fun v=>facL p (W.map (gOf E es)) (gOf E es (v++[(x:Int)])))/\∃o,af=[o]) ⟨Same.refl _,Ao.nil,none,rfl⟩ (by rw[told.1,ja_];lia) (fun i us af H7 hi h'=>⟨h'.1.seq (SqL.of hl6'),by rw[h'.2.1.1,ja_,jI_];lia⟩) (fun i xv fH af H7 cY h'=>?_) (fun fH af H7 h' D7 hD7=>?_)⟩
   ·obtain⟨s7,lC,o,rfl⟩:=h';have hi:i<W.length:=by have:=(je_.mp cY).1;rw[told.1,ja_]at this;exact this
    have hsi:(W.map (fun v=>gOf E es (v++[(x:Int)])))[i]?=some (gOf E es (W[i]++[(x:Int)])):=by rw[jh_,jc_ hi];rfl
    have hrow:(gOf E es (W[i]++[(x:Int)])).length=W.length:=by rw[Je,mU]
    rcases told.2 i _ hsi with ⟨_,c,hc1,cn⟩|⟨bA,_⟩
    ·rw[cY]at hc1;cases hc1;have f:=tb.fac hrow;have fe:=Yk (by have:=tb.pr.1;lia) aW tb.ind seen hrow (am:=facL p (W.map (gOf E es)) (gOf E es (W[i]++[(x:Int)]))) (by rw[ja_];exact f.1) f.2.1 f.2.2;rw[fe]at cn;nofun;refine⟨_,.inl ⟨SqL.of (s7 _ _ cn),fun l8 hl8=>⟨s7.newT hl8,?_,_,rfl⟩⟩⟩;rw[jQ_,jc_ hi,jj_];exact (lC.mono (TK.new hl8)).snoc Ab
    ·exact absurd (tb.ind.all tb.pr aW (by rw[ja_]) hrow) bA
   obtain⟨s7,lC,o,rfl⟩:=h';rw[told.1,ja_,jG_]at lC;have a8:=(s6.trans s7).newT hD7 (o:=.lst fH);refine⟨D7,rfl,_,.inl ⟨SqL.of Ab,fun l9 lD=>?_⟩⟩;have a9:=a8.newT lD (o:=.tup fH);have mY:=a9 _ _ iM;have hR9:=(lC.mono (TK.new hD7 (o:=.lst fH))).mono (TK.new lD (o:=.tup fH));have hT9:=hT5.mono (TK.of a9);have eV:upd (upd H7 D7 (.lst fH)) l9 (.tup fH) l9=some (.tup fH):=Ab;generalize upd (upd H7 D7 (.lst fH)) l9 (.tup fH)=H9 at a9 mY hR9 hT9 eV ⊢;refine⟨_,mY,by rw[hT.1,jI_];lia,(aq _ _ _).mpr ⟨_,_,_,(t5.trans a9).over hq,Ab,?_,rfl⟩⟩;have e:(gTab p L W E es).take (x+1)=(gTab p L W E es).take x++[W.map fun v=>facL p (W.map (gOf E es)) (gOf E es (v++[(x:Int)]))]:=by
    rw[jQ_]
    congr 1
    unfold gTab;rw[jh_,q5_ hx];rfl
   rw[e];exact (hT9.snoc eV hR9).mono (TK.lst mY)
  ·obtain⟨o1,o2,jv,s3,kb,hT,rfl⟩:=(aq _ _ _).mp h';rw[qO_ (by rw[gl];exact jf_ _)]at hT;nofun;have t3:=mV.trans s3;refine⟨⟨_,t3.seq dE⟩,KA (xs:=zs) (fun i us af H4=>Same H' H4/\us=(B6 (W.take i) es).map V.int/\∃o,af=[o,some (.ref d)]) ⟨Same.refl _,rfl,none,rfl⟩ (by rw[hW.1];lia) (fun i us af H4 hi h'=>⟨h'.1.seq (t3.seq dE),by rw[h'.2.1,ja_];unfold B6;rw[ja_,jI_];lia⟩) (fun i xv cU af H4 cY h'=>?_) (fun cU af H4 h' D2 g9=>?_)⟩
   ·obtain⟨s4,rfl,o,rfl⟩:=h';obtain⟨t,v,eT,rfl,ht⟩:=hW.at cY;obtain⟨m,hm⟩:=full v (Vu (jn_ eT));have iV:valV (ents es) (wkey v)=some (.int m):=Dm tb.nd (MF hm);have t4:=t3.trans s4;nofun;refine⟨_,by rw[<-iV];exact DGet.t (t4 _ _ hd) (by rw[BZ];exact t4 _ _ ht),s4,?_,_,rfl⟩;unfold B6;rw[jQ_,eT,jj_,jj_];show _++[V.int m]=_++[V.int ((mkO es v).getD 0)];rw[hm];rfl
   ·obtain⟨s4,rfl,o,rfl⟩:=h';rw[hW.1,jG_];refine⟨D2,rfl,_,.inl ⟨SqL.of Ab,fun l5 jm=>?_⟩⟩;have a5:=(s4.newT g9 (o:=.lst ((B6 W es).map V.int))).newT jm (o:=.tup ((B6 W es).map V.int));have hl5':upd (upd H4 D2 (.lst ((B6 W es).map V.int))) l5 (.tup ((B6 W es).map V.int)) l5=some (.tup ((B6 W es).map V.int)):=Ab;generalize upd (upd H4 D2 (.lst ((B6 W es).map V.int))) l5 (.tup ((B6 W es).map V.int))=H5 at a5 hl5' ⊢;refine⟨W.length,0,rfl,by lia,fun q6 H6 s6 gh=>?_⟩;have a6:=a5.trans s6;refine⟨_,.inl ⟨SqL.of (a6 _ _ kb),fun l7 hl7=>⟨by lia,fun h8 hh8=>?_⟩⟩⟩;have a7:=Same.new hl7 (o:=.tup jv);have a8:=Same.new hh8 (o:=.tup [V.int p,V.int (L:Int),V.ref q6,V.ref l7,V.ref l5]);have ll:(B6 W es).length=W.length:=by unfold B6;rw[ja_]
    refine k h8 _ (t3.trans (a6.trans (a7.trans a8))) ⟨q6,l7,l5,jv,Ab,?_,a8 _ _ Ab,hT.mono (TK.of (a6.trans (a7.trans a8))),(a7.trans a8) _ _ (s6 _ _ hl5')⟩;rw[ll];exact (a7.trans a8) _ _ gh
noncomputable def colS (p:Int)(t:α0)(l:α2):α2->α2
 |[]=>l
 |x::u=>(t.getD x.toNat []).map fun r=>dotW r (colS p t l u)%p
def ML {p:Int}{L n:Nat}{t:α0}{l:α2}(hl:l.length=n)(ed:t.length=L)(ht:∀tb∈t,tb.length=n):∀v:α2,isW L v=true->(colS p t l v).length=n
 |[],_=>hl
 |x::u,hv=>by
  have hx:=Bn.mp hv x (jA_ ..);unfold colS;rw[ja_,jb_,jc_ (show x.toNat<t.length by lia)];exact ht _ (jR_ _)
def Pn {p:Int}{L n:Nat}{t:α0}{l:α2}(hl:l.length=n)(ed:t.length=L)(ht:∀tb∈t,tb.length=n/\∀r∈tb,r.length=n):∀(v row:α2),isW L v=true->row.length=n->dotW row (colS p t l v)%p=dotW l (rowS p n t row v)%p
 |[],row,_,_=>by
  show dotW row l%p=dotW l row%p;rw[Be]
 |x::u,row,hv,hr=>by
  have hx:=Bn.mp hv x (jA_ ..);have hu:isW L u=true:=Bn.mpr fun y hy=>Bn.mp hv y (jp_ _ hy);obtain⟨tx,e⟩:∃tx,t.getD x.toNat []=tx:=⟨_,rfl⟩;have hm:tx∈t:=by
   rw[<-e,jb_,jc_ (show x.toNat<t.length by lia)];exact jR_ _
  obtain⟨h1,h2⟩:=ht tx hm;have cl:=ML (p:=p) hl ed (fun tb h=>(ht tb h).1) u hu;have ih:=Pn (p:=p) hl ed ht u (Jc p tx row n) hu (K6 _ _ _ _);show dotW row ((t.getD x.toNat []).map fun r=>dotW r (colS p t l u)%p)%p=dotW l (rowS p n t (MA p n t row x) u)%p;unfold MA;rw[e,<-ih,Pm h1 h2 hr cl];refine cg.dot (cg.refl _ _) ?_;unfold cg;rw[jK_,jK_];exact jH_ fun r _=>jM_ _ (qg_ p)
noncomputable def ColD (K:α3)(H:Hp)(p:Int)(t:α0)(l:α2)(kvs:List (List Key×V)):Prop:=∀(w:α2) (x:V),valV kvs (wkey w)=some x->∃c,x=.ref c/\SqT K H c ((colS p t l w).map V.int)
def ColD.mono {K:α3} (h:ColD K H p t l kvs)(k:∀c xs,SqT K H c xs->SqT K H' c xs):ColD K H' p t l kvs:=fun w x hx=>by
 obtain⟨c,a,b⟩:=h w x hx;exact⟨c,a,k _ _ b⟩
noncomputable def T4 (K:α3):Sp:=fun vs H Q _=>∃(h a:Addr) (p:Int) (L n:Nat) (t:α0) (l:α2) (rs:List V) (es:Bk),vs=[.ref h,.ref a]/\SumH K H h p L (Bu n 0) t l/\WfSum p L n (Bu n 0) t l/\(∀tb∈t,∀r∈tb,∀y∈r,0<=y/\y<p)/\SqL K H a rs/\Cn H rs es/\(∀e∈es,isW L e.1=true/\e.1.length<=600)/\es.length<=1000/\∀H',Same H H'->(Bp p es t l=none->Q .non H')/\∀v u,Bp p es t l=some v->H' u=some (.tup (v.map V.int))->Q (.ref u) H'
def GC:⋯ EE.j24 2 ["house","heard"] (T4 K):=by
 delta EE.j24 Az
 ·obtain⟨h,a,p,L,n,t,l,rs,es,rfl,_⟩:=h;rfl
 ·obtain⟨h,a,p,L,n,t,l,rs,es,rfl,hh,wf,bz,ha,hT,mZ,eS,k⟩:=h;have hl:=Al;obtain⟨tf,tt,tl,e1,e2,e3,e4⟩:=id hh;refine⟨_,(@Ac _ _ _ _ _ (@Tj _ 2 _ _ _ _ _ _ _ _ (Fz hr) Az.nd rfl (nM rfl) (Ce Ad) (As (ixTD Ay) (pvD 0) Ai) rfl (nM rfl))
   (Ac (Bx jL_ rfl (Br (pvD 1)) (LC rfl (Bg (Aq (i:=3) Az.nd rfl (nM rfl)) (Bg (Aq (i:=4) Az.nd rfl (nM rfl)) Fw)))
   (Ac (Ak (i:=5) Az.nd Ai)
   (Ac (Gm jL_ (WT (QZ (Fz hr) (BS F3 (pvD 3) (C2 (pvD 5)) C1) (pvD 2)))
   (Ae (W2 (i:=5) Az.nd rfl (nM rfl) Ai W3)))
   (Ac (Bx jL_ rfl (RW rfl EE.range (Aa (Ar (opD0 MY) (pvD 5) Ai) (Aa (Lm GF Ai) (Aa (Lm GF Ai) Ad)))) (Aq (i:=6) Az.nd rfl (nM rfl))
   (Ac (Jm (i:=7) Az.nd rfl (oq rfl) (L8 (Fz hr) (pvD 2) (BS F3 (pvD 3) (C2 (Ar (opD0 Bl) (pvD 6) Ai)) C1) (fun _ _=>rfl)))
   (Ae (FA (Fz hr) (pvD 2) (BS F3 (pvD 3) (C2 (pvD 6)) C1) (AF AM rfl EE.tuple jO_ (Aa (BN rfl (BL rfl) (cp:=CW) ⟨⟨rfl,rfl⟩,⟨⟨rfl,rfl⟩,nL⟩⟩ (MW (As (ixTD Ay) (As (ixTD Ay) (pvD 0) Ai) (As (ixTD Ay) (pvD 3) (pvD 6)))) (fun _ _ _ _=>(Aq (i:=0) Eu rfl (nM rfl))) (fun _ _ _ _=>By) (fun _ _ _ _=>(Af (CK EE) hr.d An (Aa (As (ixTD (FE (K:=K) rfl)) (pvD 2) Ai) (Aa (pvD 0) (Aa (pvD 1) Ad)))))) Ad)) rfl))))
   (Ae (AZ (ptT (Ap (opN Dh) (Af (CK EE) hr.d An (Aa (As (ixTD Ay) (pvD 0) Ai) (Aa (As (ixTD Ay) (pvD 0) Ai) (Aa (L8 (Fz hr) (pvD 2) (pvD 3) (fun _ _=>rfl)) Ad)))) (pvD 4) (Av _)))
   (Ae (Am (pvD 3)))
   Au))))))
   (Ae (Am Bw)))),?_⟩
  nofun;have p2:=wf.p2;have p18:=wf.p18;have dl:=wf.dl;refine fun q hq=>⟨by lia,fun e0 m7=>?_⟩;have s1:=(Same.new hq (o:=.dT [])).newT m7 (o:=.tup []);have hqe:q≠e0:=fun z=>by rw[<-z,Ab]at m7;cases m7
  have h1q:upd (upd H q (.dT [])) e0 (.tup []) q=some (.dT []):=by rw[Aj hqe,Ab]
  have h1e:upd (upd H q (.dT [])) e0 (.tup []) e0=some (.tup []):=Ab;generalize upd (upd H q (.dT [])) e0 (.tup [])=H1 at s1 h1q h1e ⊢;refine⟨_,s1.seqT e1,_,rfl,h1q,[],h1e,?_⟩;have offD:∀{Hx:Hp} {kv kv':List (List Key×V)},Hx q=some (.dT kv)->∀c xs,SqT K Hx c xs->SqT K (upd Hx q (.dT kv')) c xs:=fun {Hx kv kv'} hx c xs h=>by
   rcases h with (h|⟨o,h⟩)|h
   ·exact .inl (.inl (by rw[Aj (fun z=>by rw[z,hx]at h;cases h)];exact h))
   ·exact .inl (.inr ⟨o,by rw[Aj (fun z=>by rw[z,hx]at h;cases h)];exact h⟩)
   ·exact .inr h
  have s2:Same H (upd H1 q (.dT [([],V.ref tl)])):=s1.over hq;have h2q:upd H1 q (.dT [([],V.ref tl)]) q=some (.dT [([],V.ref tl)]):=Ab;have cn:ColD K (upd H1 q (.dT [([],V.ref tl)])) p t l [([],V.ref tl)]:=fun w x hx=>by
   by_cases hw:([]:List Key)=wkey w
   ·rw[BU hw]at hx;have:w=[]:=Gs (v:=w) (w:=[]) hw.symm;subst this;exact⟨tl,(jt_ hx).symm,s2.seqT e3⟩
   ·rw[BV hw,S1]at hx;cases hx
  generalize upd H1 q (.dT [([],V.ref tl)])=H2 at s2 h2q cn ⊢;refine⟨⟨_,s2.seq ha⟩,?_⟩;obtain⟨Pv,aq⟩:∃Pv:Nat->St->Hp->Prop,∀i af H',Pv i af H'↔(∃(kvs:List (List Key×V)) (o1 o2 o3 o4 o5:Option V),Same H H'/\H' q=some (.dT kvs)/\ColD K H' p t l kvs/\(valV kvs (wkey [])).isSome=true/\kvs.length<=1+601*i/\(∀j,j<i->∀e,es[j]?=some e->W71 p t l e.1=e.2)/\af=[some (.ref h),some (.ref a),some (.ref q),o1,o2,o3,o4,o5]):=⟨_,fun _ _ _=>qE_⟩;refine forL (xs:=rs) Pv ((aq _ _ _).mpr ⟨_,none,none,none,none,none,s2,h2q,cn,rfl,by simp,fun j hj=>absurd hj (zf_ _),rfl⟩) (fun i af H' _ h'=>by obtain⟨_,_,_,_,_,_,s',_⟩:=(aq _ _ _).mp h';exact s'.seq ha) (fun i xv af H3 cY h'=>?_) (fun af H3 h'=>?_)
  ·obtain⟨kvs,o1,o2,o3,o4,o5,s3,m8,hc3,gp,mP,aA,rfl⟩:=(aq _ _ _).mp h';have hi:i<es.length:=by rw[<-hT.1];exact (je_.mp cY).1
   have bK:es[i]?=some es[i]:=by simp[hi]
   obtain⟨tr,wt,f1,f2,f3⟩:=hT.2 i _ bK;rw[cY]at f1;cases f1;have hok:=mZ _ (jn_ bK);generalize es[i]=e at bK f2 f3 hok;obtain⟨v,m⟩:=e;have f2:H tr=some (.tup [.ref wt,.int m]):=f2;have f3:H wt=some (.tup (v.map V.int)):=f3;have hok:isW L v=true/\v.length<=600:=hok;nofun;refine⟨_,SqT.of (s3 _ _ f2),rfl,_,_,rfl,_,_,rfl,rfl,?_⟩;obtain⟨Pw,bY⟩:∃Pw:Nat->St->Hp->Prop,∀mm af H',Pw mm af H'↔(∃k:Nat,k<=v.length/\mm=v.length-k/\Same H3 H'/\af=[some (.ref h),some (.ref a),some (.ref q),some (.ref wt),some (.int m),some (.int k),o4,o5]):=⟨_,fun _ _ _=>qE_⟩;refine LI Pw ⟨_,(bY _ _ _).mpr ⟨0,j3_ _,rfl,Same.refl _,rfl⟩⟩ fun mm af H4 h4=>?_;obtain⟨k0,hk0,hmm,s4,rfl⟩:=(bY _ _ _).mp h4;nofun;have t4:=s3.trans s4;refine⟨wt,_,rfl,t4 _ _ f3,fun p5 H5 s5 lz=>?_⟩;rw[CL]at lz;have kg:=s4.trans s5;refine⟨_,DGet.t (kg _ _ m8) (k:=wkey (v.drop k0)) (by rw[BZ];exact lz),?_⟩;cases nc:valV kvs (wkey (v.drop k0)) with
   |none=>
    rw[if_pos (by rfl)];have fZ:k0<v.length:=by
     refine Nat.lt_of_le_of_ne hk0 fun z=>?_;rw[z,qM_]at nc;rw[nc]at gp;cases gp
    refine⟨fun ai H2=>∃m',m'<mm/\Pw m' ai H2,fun _ _ z=>z,v.length-(k0+1),by lia,(bY _ _ _).mpr ⟨k0+1,by lia,rfl,kg,by push_cast;rfl⟩⟩
   |some xc=>
    rw[if_neg (by simp)];refine⟨by lia,by lia,by lia,by lia,?_⟩;rw[show ((k0:Int)-1 - -1).toNat=k0 by lia];obtain⟨Pd,lE⟩:∃Pd:Nat->St->Hp->Prop,∀j af H',Pd j af H'↔(∃(kv:List (List Key×V)) (o6 o7:Option V),Same H H'/\H' q=some (.dT kv)/\ColD K H' p t l kv/\(valV kv (wkey [])).isSome=true/\(valV kv (wkey (v.drop (k0-j)))).isSome=true/\kv.length<=kvs.length+j/\af=[some (.ref h),some (.ref a),some (.ref q),some (.ref wt),some (.int m),some (.int k0),o6,o7]):=⟨_,fun _ _ _=>qE_⟩;refine YI Pd ((lE _ _ _).mpr ⟨kvs,o4,o5,s3.trans kg,kg _ _ m8,hc3.mono fun c xs hc=>kg.seqT hc,gp,by rw[zx_,nc];rfl,by lia,rfl⟩) (fun j af H6 hj h6=>?_) (fun af H6 h6=>?_)
    ·obtain⟨kv,o6,o7,s6,kh,ki,gm,gq,hkl6,rfl⟩:=(lE _ _ _).mp h6;obtain⟨at_,aZ⟩:∃at_:Nat,at_=k0-1-j:=⟨_,rfl⟩;have hatl:at_<v.length:=by lia
     obtain⟨x,hx,lu,ke,kf⟩:=Ko hok.1 hatl;obtain⟨vb,jw⟩:=qr_.mp gq;rw[show k0-j=at_+1 by lia]at jw;obtain⟨c,rfl,ik⟩:=ki _ _ jw;rw[show (k0:Int)-1-(j:Int)=(at_:Int) by lia];nofun;rw[show (at_:Int)+1=((at_+1:Nat):Int) by lia];refine⟨wt,_,rfl,s6 _ _ f3,fun p7 H7 s7 jq=>?_⟩;rw[CL]at jq;have jx:=s6.trans s7;refine⟨_,by rw[<-jw];exact DGet.t (s7 _ _ kh) (k:=wkey (v.drop (at_+1))) (by rw[BZ];exact jq),?_⟩;obtain⟨t1,t2,t3⟩:=wf.table (x:=(x:Int)) s!"" s!"";obtain⟨zs,u,xs,z1,z2,z3,z4⟩:=e4.at t1;rw[jz_]at z2 t2 t3 z4;refine⟨_,jx.seqT e1,_,rfl,?_⟩;have gj:t[x]?=some (t.getD x []):=by have:=t1;rwa [jz_]at this
     obtain⟨T,hT⟩:∃T,T=t.getD x []:=⟨_,rfl⟩;rw[<-hT]at gj t2 t3 z4;have ng:T∈t:=jn_ gj;have ed:t.length=L:=by have:=wf.t;lia
     have cl:=ML (p:=p) (L:=L) wf.l.1 ed (fun tb hb=>(wf.tt tb hb).1) (v.drop (at_+1)) (Jg hok.1 _);obtain⟨cb,hcb⟩:∃cb,cb=colS p t l (v.drop (at_+1)):=⟨_,rfl⟩;rw[<-hcb]at cl ik;refine⟨_,SqT.of (jx _ _ f3),_,EH (by rw[jh_,hx];rfl),tt,rfl,_,_,rfl,jx.seqT z1,_,z2,u,rfl,⟨_,jx.seqT z3⟩,?_⟩;refine VW (xs:=xs) (fun i us af H8=>Same H7 H8/\us=((T.take i).map fun r=>dotW r cb%p).map V.int/\∃o,af=[o,some (.ref c),some (.ref h)]) ⟨Same.refl _,rfl,none,rfl⟩ (by rw[z4.1];lia) (fun i us af H8 hi h'=>⟨h'.1.seqT (jx.seqT z3),by rw[h'.2.1,ja_,ja_,jI_];lia⟩) (fun i8 xv us af H8 cY h'=>?_) (fun us af H8 h' D8 hD8=>?_)
     ·obtain⟨s8,rfl,o,rfl⟩:=h';have iX:i8<T.length:=by rw[<-z4.1];exact (je_.mp cY).1
      obtain⟨rt,kj,hrow⟩:=z4.2 i8 T[i8] (by simp[iX]);rw[cY]at kj;cases kj;have iY:T[i8]∈T:=jR_ iX;have hU:=jx.trans s8;nofun;refine⟨_,hU.seqT e1,_,rfl,p,true,true,rt,c,T[i8],cb,rfl,by lia,hU.seqT hrow,(s7.trans s8).seqT ik,by rw[t3 _ iY,cl],by rw[t3 _ iY];lia,fun y hy=>by have:=bz T ng _ iY y hy;lia,fun H9 s9=>⟨s8.trans s9,?_,_,rfl⟩⟩;rw[jQ_,jc_ iX,jj_,jj_];rfl
     ·obtain⟨s8,rfl,o,rfl⟩:=h';rw[z4.1,jG_];have ecol:(T.map fun r=>dotW r cb%p)=colS p t l (v.drop at_):=by
       rw[kf,hcb,hT];show _=(t.getD ((x:Int)).toNat []).map _;rw[jz_]
      rw[ecol];refine⟨D8,rfl,_,.inl ⟨SqL.of Ab,fun l9 lD=>?_⟩⟩;have a9:=(s8.newT hD8 (o:=.lst ((colS p t l (v.drop at_)).map V.int))).newT lD (o:=.tup ((colS p t l (v.drop at_)).map V.int));have eV:upd (upd H8 D8 (.lst ((colS p t l (v.drop at_)).map V.int))) l9 (.tup ((colS p t l (v.drop at_)).map V.int)) l9=some (.tup ((colS p t l (v.drop at_)).map V.int)):=Ab;generalize upd (upd H8 D8 (.lst ((colS p t l (v.drop at_)).map V.int))) l9 (.tup ((colS p t l (v.drop at_)).map V.int))=H9 at a9 eV ⊢;have s79:=s7.trans a9;refine⟨wt,_,rfl,(s6.trans s79) _ _ f3,fun p10 mL eQ hp10=>?_⟩;rw[CL]at hp10;have iZ:=s79.trans eQ;have i3:=iZ _ _ kh;refine⟨_,DPut.t i3 (k:=wkey (v.drop at_)) (by rw[BZ];exact hp10) s!"",(lE _ _ _).mpr ⟨_,_,_,(s6.trans iZ).over hq,Ab,fun w xw hw=>?_,?_,?_,?_,rfl⟩⟩
      ·rw[L7]at hw;split at hw
       ·rename_i hk
        have:w=v.drop at_:=Gs hk;subst this;exact⟨l9,(jt_ hw).symm,offD i3 _ _ (SqT.of (eQ _ _ eV))⟩
       ·obtain⟨c',a',b'⟩:=ki w xw hw;exact⟨c',a',offD i3 _ _ (iZ.seqT b')⟩
      ·rw[L7];split
       ·rfl
       ·exact gm
      ·rw[show k0-(j+1)=at_ by lia,L7,if_pos rfl];rfl
      ·have:=Dx kv (wkey (v.drop at_)) (V.ref l9);lia
    ·obtain⟨kv,o6,o7,s6,kh,ki,gm,gq,hkl6,rfl⟩:=(lE _ _ _).mp h6;rw[qL_,q2_]at gq;obtain⟨vb,jw⟩:=qr_.mp gq;obtain⟨c,rfl,ik⟩:=ki _ _ jw;nofun;refine⟨_,s6.seqT e1,_,rfl,_,s6.seqT e1,_,rfl,_,by rw[<-jw];exact DGet.t kh (by rw[BZ];exact s6 _ _ f3),?_⟩;have ul:(Bu n 0).length=n:=by unfold Bu;rw[ja_,jT_]
     have ed:t.length=L:=by have:=wf.t;lia
     have cl:=ML (p:=p) (L:=L) wf.l.1 ed (fun tb hb=>(wf.tt tb hb).1) v hok.1;refine⟨p,true,true,tf,c,Bu n 0,colS p t l v,rfl,by lia,s6.seqT e2,ik,by rw[ul,cl],by lia,fun y hy=>by have:=wf.f.2 y hy;lia,fun H7 s7=>⟨rfl,?_⟩⟩;have ew:dotW (Bu n 0) (colS p t l v)%p=W71 p t l v:=by
      rw[Pn (L:=L) wf.l.1 ed wf.tt v (Bu n 0) hok.1 ul];unfold W71 R71;rw[wf.l.1]
     rw[ew];by_cases hV:W71 p t l v=m
     ·rw[if_neg (by rw[hV];simp)];refine (aq _ _ _).mpr ⟨kv,_,_,_,_,_,s6.trans s7,s7 _ _ kh,ki.mono fun c xs hc=>s7.seqT hc,gm,by lia,fun j hj e' gS=>?_,rfl⟩;by_cases kc:j<i
      ·exact aA j kc e' gS
      ·have ej:j=i:=by lia
       subst ej;rw[bK]at gS;cases gS;exact hV
     ·rw[if_pos (by simp[hV])];refine (k _ (s6.trans s7)).2 v wt ?_ ((s6.trans s7) _ _ f3);unfold Bp;have hf:es.find? (fun e=>decide (W71 p t l e.1≠e.2))=some (v,m):=by
       rw[List.find?_eq_some_iff_getElem];refine⟨ql_ hV,i,hi,(je_.mp bK).2,fun j hj=>?_⟩;have:=aA j hj es[j] (by simp);simp[this]
      rw[hf];rfl
  ·obtain⟨kvs,o1,o2,o3,o4,o5,s3,m8,hc3,gp,mP,aA,rfl⟩:=(aq _ _ _).mp h';nofun;refine (k _ s3).1 ?_;unfold Bp;rw[xw_,qZ_];intro e he;obtain⟨j,hj⟩:=j1_.mp he;have:=aA j (by rw[hT.1];exact (je_.mp hj).1) e hj;simp[this]
noncomputable def Si (p n:Int):Bool:=decide (0<=n)&&decide (n<p)
noncomputable def T5:Sp:=fun vs H Q _=>∃p n:Int,vs=[.int p,.int n]/\Q (.bl (Si p n)) H
def NF:⋯ EE.j6 1 ["p","number"] (T5):=by
 delta EE.j6 Nl
 ·obtain⟨p,n,rfl,_⟩:=h;rfl
 ·obtain⟨p,n,rfl,k⟩:=h;refine⟨_,(Ae (Am (ON W7 QD Ai (pvD 1) (pvD 0)))),?_⟩;nofun;by_cases h0:0<=n
  ·simp only[h0,zZ_];simpa [Si,h0] using k
  ·simp only[h0,xH_];simpa [Si,h0] using k
noncomputable def sbf (L:Int)(d:Addr)(pr:Int):List (Str×V):=[("letters",.int L),("marks",.ref d),("p",.int pr)]
def Qn (L:Int)(d:Addr)(pr:Int):(sbf L d pr).lookup ("letters" : Str)=some (.int L):=by kernel_rfl
def Gv (L:Int)(d:Addr)(pr:Int):(sbf L d pr).lookup ("marks" : Str)=some (.ref d):=by kernel_rfl
def sb_p (L:Int)(d:Addr)(pr:Int):(sbf L d pr).lookup ("p" : Str)=some (.int pr):=by kernel_rfl
def T6 (L:Int)(d:Addr)(pr:Int):putF "p" (.int pr) (putF "marks" (.ref d) (putF "letters" (.int L) []))=sbf L d pr:=by kernel_rfl
structure SBookAt (C:Addr)(H:Hp)(b d:Addr)(pr L:Int)(es:List (α2×Int)):Prop where
 ob:∃dx,H b=some (.ins C dx (sbf L d pr))
 dc:H d=some (.dT (ents es))
 nd:(es.map (·.1)).Nodup
def SBookAt.tk {pr L:Int} (h:SBookAt C H p d pr L es)(hp:∀o,H p=some o->H' p=some o)(hd:∀o,H d=some o->H' d=some o):SBookAt C H' p d pr L es:=by
 obtain⟨⟨dx,a⟩,b,c⟩:=h;exact⟨⟨dx,hp _ a⟩,hd _ b,c⟩
def SBookAt.mono {pr L:Int} (h:SBookAt C H p d pr L es)(s:Same H H'):SBookAt C H' p d pr L es:=h.tk (s _) (s _)
noncomputable def T7 (C:Addr):Sp:=fun vs H Q _=>∃(p dx:Addr) (L:Int),vs=[.ref p,.int L]/\H p=some (.ins C dx [])/\∀(d:Addr) (H':Hp),H d=none->H' p=some (.ins C dx (putF "marks" (.ref d) (putF "letters" (.int L) [])))->H' d=some (.dT [])->(∀b o,H b=some o->b≠p->H' b=some o)->Q .non H'
def Jx:⋯ EE.j55 1 ["self","letters"] (T7 aj):=by
 delta EE.j55 Np
 ·obtain⟨p,dx,L,rfl,_⟩:=h;rfl
 ·obtain⟨p,dx,L,rfl,hp,k⟩:=h;refine⟨_,(Ac (B8 (pvD 0) (pvD 1) rfl)
   (Ae (B8 (pvD 0) Ke rfl))),?_⟩
  nofun;refine⟨_,_,_,hp,EE.cl_j3,EE.n_SumBook_letters,by decide,fun d hd=>?_⟩;have kl:d≠p:=fun z=>by rw[z,Ab]at hd;cases hd
  rw[Aj kl]at hd;refine⟨_,_,_,by rw[Aj (qn_ kl)];exact Ab,EE.cl_j3,EE.n_SumBook_marks,by simp[putF],?_⟩;refine k d _ hd Ab (by rw[Aj kl];exact Ab) fun b o hb km=>?_;rw[Aj km,Aj (AL hb hd),Aj km];exact hb
noncomputable def T8 (C:Addr):Sp:=fun vs H Q _=>∃(p dx:Addr) (pr L:Int),vs=[.ref p,.int pr,.int L]/\H p=some (.ins C dx [])/\∀(d:Addr) (H':Hp),H d=none->SBookAt C H' p d pr L []->(∀b o,H b=some o->b≠p->H' b=some o)->Q .non H'
def F5:⋯ EE.j56 3 ["self","p","letters"] (T8 aj):=by
 delta EE.j56 KW
 ·obtain⟨p,dx,pr,L,rfl,_⟩:=h;rfl
 ·obtain⟨p,dx,pr,L,rfl,hp,k⟩:=h;refine⟨_,(Ac (AB (Wc rfl EE.m_ja EE.j55.m (Jx EE).g hr.d (Jx EE).b .nil An (Aa (pvD 0) (Aa (pvD 2) Ad))))
   (Ae (B8 (pvD 0) (pvD 1) rfl))),?_⟩
  nofun;refine⟨p,dx,L,rfl,hp,fun d H1 hd h1 h2 h3=>?_⟩;have kl:d≠p:=fun z=>by rw[z,hp]at hd;cases hd
  refine⟨_,_,_,h1,EE.cl_j3,EE.n_SumBook_p,(by simp[putF];split<;>simp),?_⟩;rw[T6];refine k d _ hd ⟨⟨_,Ab⟩,by rw[Aj kl];exact h2,by simp⟩ fun b o hb km=>?_;rw[Aj km];exact h3 b o hb km
noncomputable def T9 (C BW BM:Addr):Sp:=fun vs H Q E=>∃(p d t:Addr) (pr L m:Int) (w:α2) (es:List (α2×Int)),vs=[.ref p,.ref t,.int m]/\SBookAt C H p d pr L es/\H t=some (.tup (w.map V.int))/\w.length<=900 /\
 (isW L w=false->∀H',Same H H'->E (.ref BW) none H') /\
 (isW L w=true->¬ (0<=m/\m<pr)->∀H',Same H H'->E (.ref BM) none H') /\
 (isW L w=true->0<=m->m<pr->∀H',Same H H'->Q .non H')
def BX:CalH P w mg base (CXe P w) EE.j7 3 ["self","word","mark"] (T9 aj au av):=by
 refine HG.okE EE.j7 JX (fun vs H Q E h=>?_) (fun ao A outer s H vs Q E hr h=>?_)
 ·obtain⟨p,d,t,pr,L,m,wd,es,rfl,_⟩:=h;rfl
 ·obtain⟨p,d,t,pr,L,m,wd,es,rfl,B,ht,bB,kW,kM,k⟩:=h;have gi:=Al;refine⟨_,(Ac (AB (Af (HY EE) hr.d (IS fun _ _ _ h=>h) (Aa (Ax (pvD 0) rfl) (Aa (pvD 1) Ad))))
   (Ae (AZ (OK (ptB (Fv (Af (NF EE) hr.d An (Aa (Ax (pvD 0) rfl) (Aa (pvD 2) Ad))))))
   (Ae (Gq EE.m_j6 EE.x_j6 rfl rfl (Aa AA Ad)))
   Au))),?_⟩
  obtain⟨⟨dx,hp⟩,hd,nd⟩:=id B;nofun;refine⟨_,_,_,hp,EE.cl_j3,EE.n_SumBook_letters,_,Qn _ _ _,?_⟩;refine⟨L,t,wd,rfl,SqT.of ht,by lia,fun hw H1 s1=>?_,fun hw H1 s1=>kW hw H1 s1⟩;nofun;refine⟨_,_,_,s1 _ _ hp,EE.cl_j3,EE.n_SumBook_p,_,sb_p _ _ _,pr,m,rfl,_,rfl,?_⟩;by_cases h0:0<=m/\m<pr
  ·rw[if_neg (by simp[Si,h0.1,h0.2])];exact k hw h0.1 h0.2 H1 s1
  ·rw[if_pos (by simp only[Si,qc,Bool.and_eq_false_iff,zh_];lia)];exact⟨by lia,kM hw h0 H1 s1⟩
noncomputable def putE (es:List (α2×Int))(v:α2)(m:Int):List (α2×Int):=if v∈es.map (·.1) then es else es++[(v,m)]
def Qo (nd:(es.map (·.1)).Nodup)(h:(v,m)∈es):putK (ents es) (wkey v) (.int m)=ents es:=by
 unfold putK;rw[Di,Dm nd h,if_pos (by simp)];unfold ents;rw[jK_];refine jH_ fun e he=>?_;show (if wkey e.1=wkey v then (wkey e.1,V.int m) else (wkey e.1,V.int e.2))=(wkey e.1,V.int e.2);split
 ·rename_i z
  have e1:e.1=v:=Gs z;have h1:=Dm nd (show (e.1,e.2)∈es from he);rw[e1,Dm nd h]at h1;rw[jt_ h1]
 ·rfl
noncomputable def Ua (C BW BM CO:Addr):Sp:=fun vs H Q E=>∃(p d t:Addr) (pr L m:Int) (w:α2) (es:List (α2×Int)),vs=[.ref p,.ref t,.int m]/\SBookAt C H p d pr L es/\H t=some (.tup (w.map V.int))/\w.length<=900/\es.length<=100000 /\
 (isW L w=false->∀H',Same H H'->E (.ref BW) none H') /\
 (isW L w=true->¬ (0<=m/\m<pr)->∀H',Same H H'->E (.ref BM) none H') /\
 (isW L w=true->0<=m->m<pr->∀n,(w,n)∈es->n≠m->∀H',Same H H'->E (.ref CO) none H') /\
 (isW L w=true->0<=m->m<pr->(∀n,(w,n)∈es->n=m)->∀H',SBookAt C H' p d pr L (putE es w m)->(∀b o,H b=some o->b≠d->H' b=some o)->Q .non H')
def E2:CalH P w mg base (CXe P w) EE.j8 4 ["self","word","mark"] (Ua aj au av ax):=by
 refine HG.okE EE.j8 Oq (fun vs H Q E h=>?_) (fun ao A outer s H vs Q E hr h=>?_)
 ·obtain⟨p,d,t,pr,L,m,w,es,rfl,_⟩:=h;rfl
 ·obtain⟨p,d,t,pr,L,m,wd,es,rfl,B,ht,bB,hl,kW,kM,kC,k⟩:=h;have gi:=Al;refine⟨_,(Ac (AB (Bh (pvD 0) EE.cl_j3 EE.j7.m (BX EE).g hr.d (BX EE).b .nil (IS fun _ _ _ h=>h) (Aa (pvD 1) (Aa (pvD 2) Ad))))
   (Ac (AZ (ptT (Ap (opN Dh) (S7 (Fz hr) (Ax (pvD 0) rfl) (pvD 1) (pvD 2) ⟨by rfl,by rfl,by rfl,by rfl⟩) (pvD 2) (Av _)))
   (Ae (Gq EE.m_j1 EE.x_j1 rfl rfl (Aa AA Ad)))
   Au)
   (Ae (FA (Fz hr) (Ax (pvD 0) rfl) (pvD 1) (pvD 2) rfl)))),?_⟩
  obtain⟨⟨dx,hp⟩,hd,nd⟩:=id B;nofun;refine⟨_,_,hp,by kernel_rfl,p,d,t,pr,L,m,wd,es,rfl,B,ht,bB,fun hw H1 s1=>kW hw H1 s1,fun hw hm H1 s1=>kM hw hm H1 s1,fun hw h0 h1 H1 s1=>?_⟩;have cH:=s1 _ _ hp;have jy:=s1 _ _ hd;have bZ:H1 t=some (.tup ((wkey wd).map kV)):=by rw[BZ];exact s1 _ _ ht
  have eS:(ents es).length=es.length:=by unfold ents;rw[ja_]
  have hpd:p≠d:=fun z=>by rw[z,jy]at cH;cases cH
  have hg:=DGet.t jy bZ;nofun;by_cases hn:wd∈es.map (·.1)
  ·obtain⟨e,he,rfl⟩:=jv_.mp hn;have hv:=Dm nd (show (e.1,e.2)∈es from he);rw[hv]at hg;refine⟨_,_,_,cH,EE.cl_j3,EE.n_SumBook_marks,_,Gv _ _ _,d,rfl,.inr ⟨_,.inl jy⟩,_,hg,rfl,?_⟩;by_cases hm:e.2=m
   ·rw[if_neg (by simp[hm])];refine⟨_,_,_,cH,EE.cl_j3,EE.n_SumBook_marks,_,Gv _ _ _,d,rfl,_,DPut.t jy bZ s!"",?_⟩;rw[Qo nd (show (e.1,m)∈es from hm ▸ he)];refine k hw h0 h1 (fun n bx=>?_) _ ⟨⟨dx,by rw[Aj hpd];exact cH⟩,by unfold putE;rw[if_pos hn];exact Ab,by unfold putE;rw[if_pos hn];exact nd⟩ fun b o hb nh=>by rw[Aj nh];exact s1 _ _ hb
    have h2:=Dm nd bx;rw[hv]at h2;have h3:=jt_ h2;simp at h3;lia
   ·rw[if_pos (by simp[hm])];exact⟨by lia,kC hw h0 h1 e.2 he hm H1 s1⟩
  ·rw[KJ hn]at hg;refine⟨_,_,_,cH,EE.cl_j3,EE.n_SumBook_marks,_,Gv _ _ _,d,rfl,.inr ⟨_,.inl jy⟩,_,hg,rfl,?_⟩;rw[if_neg (by simp)];refine⟨_,_,_,cH,EE.cl_j3,EE.n_SumBook_marks,_,Gv _ _ _,d,rfl,_,DPut.t jy bZ s!"",?_⟩;rw[Tt hn];refine k hw h0 h1 (fun n bx=>absurd (jv_.mpr ⟨_,bx,rfl⟩) hn) _ ⟨⟨dx,by rw[Aj hpd];exact cH⟩,by unfold putE;rw[if_neg hn];exact Ab,?_⟩ fun b o hb nh=>by rw[Aj nh];exact s1 _ _ hb
   unfold putE;rw[if_neg hn,jj_,zq_];refine⟨nd,by simp,fun a ha b hb z=>?_⟩;rw[j7_,ji_]at hb;exact hn (by have e:a=wd:=z.trans hb;rw[<-e];exact ha)
noncomputable def Ub (C:Addr):Sp:=fun vs H Q _=>∃(p d t:Addr) (pr L:Int) (w:α2) (es:List (α2×Int)),vs=[.ref p,.ref t]/\SBookAt C H p d pr L es/\H t=some (.tup (w.map V.int))/\(w∉es.map (·.1)->Q .non H)/\∀m,(w,m)∈es->Q (.int m) H
def Bm:⋯ EE.j28 1 ["self","word"] (Ub aj):=by
 delta EE.j28 Nm
 ·obtain⟨p,d,t,pr,L,wd,es,rfl,_⟩:=h;rfl
 ·obtain⟨p,d,t,pr,L,wd,es,rfl,B,ht,kn,ks⟩:=h;refine⟨_,(Ae (Am (OU (Fz hr) (Ax (pvD 0) rfl) (pvD 1) ⟨by rfl,by rfl,by rfl,by rfl⟩))),?_⟩;obtain⟨⟨dx,hp⟩,hd,nd⟩:=id B;have bZ:H t=some (.tup ((wkey wd).map kV)):=by rw[BZ];exact ht
  nofun;refine⟨_,_,_,hp,EE.cl_j3,EE.n_SumBook_marks,_,Gv _ _ _,d,rfl,.inr ⟨_,.inl hd⟩,_,DGet.t hd bZ,?_⟩;by_cases hm:wd∈es.map (·.1)
  ·obtain⟨e,he,rfl⟩:=jv_.mp hm;rw[Dm nd (show (e.1,e.2)∈es from he)];exact ks e.2 he
  ·rw[KJ hm];exact kn hm
noncomputable def Uc (K:α3)(C:Addr):Sp:=fun vs H Q _=>∃(p d:Addr) (pr L:Int) (es:List (α2×Int)),vs=[.ref p]/\SBookAt C H p d pr L es/\∀l rs H',Same H H'->H l=none->H' l=some (.lst rs)->Cn H' rs es->Q (.ref l) H'
def BH:⋯ EE.j10 1 ["self"] (Uc K aj):=by
 delta EE.j10 Mm
 ·obtain⟨p,d,pr,L,es,rfl,_⟩:=h;rfl
 ·obtain⟨p,d,pr,L,es,rfl,B,k⟩:=h;refine⟨_,(Ae (Am (AF (KI rfl) rfl EE.list qP_ (Aa (Ts (Ax (pvD 0) rfl)) Ad)))),?_⟩;obtain⟨⟨dx,hp⟩,hd,nd⟩:=id B;nofun;refine⟨_,_,_,hp,EE.cl_j3,EE.n_SumBook_marks,_,Gv _ _ _,d,rfl,_,.inl hd,fun v hv=>?_⟩;have sv:=Same.new (o:=Od v d) hv;refine⟨d,Ab,_,.inl (sv _ _ hd),fun l rs H2 s2 fO ak hr=>?_⟩;have s3:=sv.trans (s2.newT (o:=.lst rs) fO);refine k l rs _ s3 (Same.none (sv.trans s2) fO) Ab ⟨by rw[ak];unfold ents;rw[ja_],fun i tr hi=>?_⟩;obtain⟨t,e1,b,e2,e3⟩:=hr i (wkey tr.1) (.int tr.2) (by unfold ents;rw[jh_,hi];rfl);rw[BZ]at e3;exact⟨t,b,e1,(Same.new fO) _ _ e2,(s2.newT fO) _ _ e3⟩
noncomputable def WH (K:α3)(CB:Addr):Sp:=fun vs H Q _=>∃(b d pw h t:Addr) (p:Int) (L n:Nat) (es:Bk) (zs:List V) (W:α1) (tb:α0) (l v:α2),vs=[.ref b,.ref pw,.ref h,.ref t]/\SBookAt CB H b d p L es/\H pw=some (.lst zs)/\Ao K H zs W/\W.length=n/\n<=100/\(∀u∈W,u.length<=50)/\(∀e∈es,0<=e.2/\e.2<p)/\SumH K H h p L (Bu n 0) tb l/\WfSum p L n (Bu n 0) tb l/\(∀y∈l,0<=y/\y<p)/\H t=some (.tup (v.map V.int))/\isW L v=true/\0<v.length/\v.length<=600/\∀H',Same H H'->(∀aK a ts t',GA p es W tb v (W71 p tb l v) v.length 0 v.length=.ask aK->H' a=some (.lst ts)->Ao K H' ts (W.map (· ++ v.drop aK))->H' t'=some (.tup [.str "ask",.ref a])->Q (.ref t') H')/\(∀lo t',GA p es W tb v (W71 p tb l v) v.length 0 v.length=.fin lo->H' t'=some (.tup [.str "place",.int (lo:Nat)])->Q (.ref t') H')
def Lx:⋯ EE.j33 5 ["book","access","guess","word"] (WH K aj):=by
 delta EE.j33 AO
 ·obtain⟨b,d,pw,h,t,p,L,n,es,zs,W',tb,l,v,rfl,_⟩:=h;rfl
 ·obtain⟨b,d,pw,h,t,p,L,n,es,zs,W',tb,l,v,rfl,bk,dE,hW,fF,hn,eh,bz,hh,wf,gf,ht,hv,fG,hz,k⟩:=h;have hl:=Al;refine⟨_,(Ac (Ak (i:=4) AO.nd (Af (Ig EE) hr.d (IT (P:=P) (w:=w)) (Aa (pvD 2) (Aa (pvD 3) Ad))))
   (Ac (Ak (i:=5) AO.nd (Af (CK EE) hr.d An (Aa (Ax (pvD 0) rfl) (Aa (As (ixTD Ay) (pvD 2) Ai) (Aa (As (ixLD Fy) (pvD 4) (Lm GF Ai)) Ad)))))
   (Ac (Ak (i:=6) AO.nd Ai)
   (Ac (Ak (i:=7) AO.nd (AK (lenD AG) (by rfl) EE.len qm_ (Aa (pvD 3) Ad)))
   (Ac (Gm jL_ (ptT (Ap (opD0 VF) (Ar (opD0 MY) (pvD 7) (pvD 6)) Ai (Av _)))
   (Ac (Jm (i:=8) AO.nd rfl (oq rfl) (Ar (opD IK) (Ar (opD0 Bl) (pvD 6) (pvD 7)) Ai))
   (Ac (IQ (i:=9) AO.nd rfl rfl rfl (BL rfl) (cp:=F0) ⟨⟨rfl,rfl⟩,⟨⟨rfl,rfl⟩,nL⟩⟩ (Br (pvD 1)) (fun _ _ _ _=>(Aq (i:=0) HU rfl (nM rfl))) (fun _ _ _ _=>By) (fun _ _ _ _=>(Ar (FF (K:=K) rfl) (pvD 0) (BS (Pl (K:=K) rfl) (pvD 1) (C2 (pvD 2)) C1))))
   (Ac (IQ (i:=10) AO.nd rfl rfl rfl (BL rfl) (cp:=F1) ⟨⟨rfl,rfl⟩,nL⟩ (Br (pvD 9)) (fun _ _ _ _=>(Aq (i:=0) HV rfl (nM rfl))) (fun _ _ _ _=>By) (fun _ _ _ _=>(Bh (pvD 1) EE.cl_j3 EE.j28.m (Bm EE).g hr.d (Bm EE).b .nil An (Aa (pvD 0) Ad))))
   (Ac (AZ (ptT (Ap QR Bw (pvD 10) rfl))
   (Ae (Am (Ce (Aa AA (Aa (pvD 9) Ad)))))
   Au)
   (Ae (AZ (ptT (Ap (opE Gw) (Af (CK EE) hr.d An (Aa (Ax (pvD 0) rfl) (Aa (As (ixLD Fy) (pvD 4) (pvD 8)) (Aa (pvD 10) Ad)))) (pvD 5) (Av _)))
   (Ae (Ak (i:=7) AO.nd (pvD 8)))
   (Ae (Ak (i:=6) AO.nd (pvD 8))))))))))
   (Ae (Am (Ce (Aa AA (Aa (pvD 6) Ad)))))))))),?_⟩
  obtain⟨⟨eX,hb⟩,hd,nd⟩:=id bk;have p2:=wf.p2;have dl:n<=16:=wf.dl;nofun;refine⟨h,t,p,L,n,_,l,v,tb,rfl,hh,wf,SqT.of ht,hz,fun _ q xs H1 s1 hq ni=>?_,fun z=>by rw[hv]at z;cases z⟩;obtain⟨tf,tt,tl,e1,e2,e3,e4⟩:=id hh;obtain⟨r1,r2⟩:=wf.row v;obtain⟨u0,hu0,gx⟩:=ni.2 v.length (jf_ _);have gx:SqT K H1 u0 ((rowS p n tb (Bu n 0) (v.take v.length)).map V.int):=gx;rw[jG_]at gx;have eg:dotW l (rowS p n tb (Bu n 0) v)%p=W71 p tb l v:=by unfold W71 R71;rw[wf.l.1]
  have p18:=wf.p18;have ll:=wf.l.1;refine⟨_,_,_,s1 _ _ hb,EE.cl_j3,EE.n_SumBook_p,_,sb_p _ _ _,_,s1.seqT e1,_,rfl,q,rfl,_,SqL.of hq,_,N8 (v:=V.ref u0) (by rw[ni.1];exact hu0),p,true,true,tl,u0,l,_,rfl,by lia,s1.seqT e3,gx,by rw[r1];exact ll,by lia,(fun x hx=>by have:=gf x hx;lia),fun H2 s2=>?_⟩;have t2:=s1.trans s2;rw[eg];refine⟨_,.inr (SqT.of (t2 _ _ ht)),?_⟩;rw[ja_];obtain⟨goal,cT⟩:∃g,g=W71 p tb l v:=⟨_,rfl⟩;rw[<-cT]at k ⊢;obtain⟨Pv,aq⟩:∃Pv:Nat->St->Hp->Prop,∀m af H',Pv m af H'↔(∃(lo hi:Nat) (f:Nat) (o1 o2 o3:Option V),Same H2 H'/\m=hi-lo/\hi-lo<=f+1/\lo<hi/\hi<=v.length/\GA p es W' tb v goal v.length 0 v.length=GA p es W' tb v goal f lo hi/\af=[some (.ref b),some (.ref pw),some (.ref h),some (.ref t),some (.ref q),some (.int goal),some (.int lo),some (.int hi),o1,o2,o3]):=⟨_,fun _ _ _=>qE_⟩;refine LI Pv ⟨v.length,(aq _ _ _).mpr ⟨0,v.length,v.length,none,none,none,Same.refl _,by lia,by lia,by lia,by lia,rfl,rfl⟩⟩ fun m af H' h'=>?_;obtain⟨lo,hi,f,o1,o2,o3,s',hm,hf,fh,hhi,e,rfl⟩:=(aq _ _ _).mp h';have t3:=t2.trans s';nofun;by_cases hg:hi-lo > 1
  ·rw[if_pos s!""];refine⟨fun ai H2=>∃m',m'<m/\Pv m' ai H2,fun _ _ z=>z,?_⟩;have em:((lo:Int)+(hi:Int)) / 2=(((lo+hi) / 2:Nat):Int):=by lia
   simp only[em];obtain⟨aK,hmid⟩:∃aK,aK=(lo+hi) / 2:=⟨_,rfl⟩;rw[<-hmid];have dn:=SqL.of (K:=K) (t3 _ _ dE);refine⟨by show CDiv _ _;unfold CDiv;lia,⟨_,dn⟩,KA (xs:=zs) (fun i us af H4=>Same H' H4/\Ao K H4 us ((W'.take i).map (· ++ v.drop aK))/\∃o,af=[o,some (.ref t),some (.int aK)]) ⟨Same.refl _,Ao.nil,none,rfl⟩ (by rw[hW.1];lia) (fun i us af H4 hi h'=>⟨h'.1.seq dn,by rw[h'.2.1.1,ja_,jI_];lia⟩) (fun i xv us af H4 cY h'=>?_) (fun us af H4 h' D hD=>?_)⟩
   ·obtain⟨s4,gy,o,rfl⟩:=h';obtain⟨tw,w,bO,rfl,cV⟩:=hW.at cY;have bB:=eh w (jn_ bO);have ew:W'.take (i+1)=W'.take i++[w]:=by rw[jQ_,bO];rfl
    have t4:=t3.trans s4;nofun;refine⟨t,_,rfl,t4 _ _ ht,fun x5 H5 s5 hX=>?_⟩;rw[CL]at hX;refine Cb.ofS ((t4.trans s5) _ _ cV) hX (by rw[ja_,ja_,qj_];lia) fun u H6 s6 hu=>?_;rw[<-jj_]at hu;refine⟨s4.trans (s5.trans s6),?_,_,rfl⟩;rw[ew,jj_,j7_];exact (gy.mono (TK.of (s5.trans s6))).snoc hu
   ·obtain⟨s4,gy,o,rfl⟩:=h';rw[hW.1,jG_]at gy;have s5:=s4.newT hD (o:=.lst us);have iW:upd H4 D (HO.lst us) D=some (.lst us):=Ab;have eY:Ao K (upd H4 D (HO.lst us)) us (W'.map (· ++ v.drop aK)):=gy.mono (TK.of (Same.new hD));generalize upd H4 D (HO.lst us)=H5 at s5 iW eY ⊢;have t5:=t3.trans s5;refine⟨D,rfl,⟨_,SqL.of iW⟩,KA (xs:=us) (fun i ys af H6=>Same H5 H6/\ys=(W'.take i).map (fun w=>oV (mkO es (w++v.drop aK)))/\∃o,af=[o,some (.ref b)]) ⟨Same.refl _,rfl,none,rfl⟩ (by rw[eY.1,ja_];lia) (fun i ys af H6 hi h'=>⟨h'.1.seq (SqL.of iW),by rw[h'.2.1,ja_,jI_];lia⟩) (fun i x ys af H6 hx h'=>?_) (fun ys af H6 h' D6 ko=>?_)⟩
    ·obtain⟨s6,rfl,o,rfl⟩:=h';obtain⟨tw,wc,bO,rfl,cV⟩:=eY.at hx;rw[jh_]at bO;obtain⟨w,jS,rfl⟩:=zl_.mp bO;have ew:W'.take (i+1)=W'.take i++[w]:=by rw[jQ_,jS];rfl
     have t6:=t5.trans s6;nofun;refine⟨_,_,t6 _ _ hb,by kernel_rfl,b,d,tw,p,L,w++v.drop aK,es,rfl,bk.mono t6,s6 _ _ cV,fun hm=>⟨s6,?_,_,rfl⟩,fun m hm=>⟨s6,?_,_,rfl⟩⟩
     ·rw[ew,jj_,j7_,Ih hm];rfl
     ·rw[ew,jj_,j7_,E1 nd hm];rfl
    ·obtain⟨s6,rfl,o,rfl⟩:=h';rw[eY.1,ja_,jG_];have s7:=s6.newT ko (o:=.lst (W'.map (fun w=>oV (mkO es (w++v.drop aK)))));have h7:upd H6 D6 (.lst (W'.map (fun w=>oV (mkO es (w++v.drop aK))))) D6=some (.lst (W'.map (fun w=>oV (mkO es (w++v.drop aK))))):=Ab;generalize upd H6 D6 (.lst (W'.map (fun w=>oV (mkO es (w++v.drop aK)))))=H7 at s7 h7 ⊢;have t7:=t5.trans s7;obtain⟨f',rfl⟩:∃f',f=f'+1:=⟨f-1,by lia⟩;have e2:GA p es W' tb v goal (f'+1) lo hi=if allB es W' (v.drop aK)=true then (if dotW (R71 p tb W'.length (v.take aK)) (nums es W' (v.drop aK))%p=goal then GA p es W' tb v goal f' lo aK else GA p es W' tb v goal f' aK hi) else .ask aK:=by
      conv=>lhs;unfold GA
      rw[if_pos hg,<-hmid]
     rw[e2]at e;refine⟨D6,rfl,_,.inl (SqL.of h7),rfl,?_,?_⟩
     ·rw[p4,q8_];intro w _;show Fo (oV (mkO es (w++v.drop aK)))=true;cases mkO es (w++v.drop aK)<;>rfl
     by_cases ha:allB es W' (v.drop aK)=true
     ·rw[if_pos ha]at e;have en:(W'.map (fun w=>oV (mkO es (w++v.drop aK))))=(nums es W' (v.drop aK)).map V.int:=by
       unfold nums;rw[jK_];refine jH_ fun w hw=>?_;obtain⟨m',hJ⟩:=Kn.mp ha w hw;show oV (mkO es (w++v.drop aK))=V.int ((mkO es (w++v.drop aK)).getD 0);rw[hJ];rfl
      rw[en]at h7 ⊢;rw[if_neg (by rw[Wr];simp)];obtain⟨um,hum,i4⟩:=ni.2 aK s!"";have i4:SqT K H1 um ((rowS p n tb (Bu n 0) (v.take aK)).map V.int):=i4;obtain⟨q1,q2⟩:=wf.row (v.take aK);have s27:=s2.trans (s'.trans (s5.trans s7));refine⟨_,_,_,t7 _ _ hb,EE.cl_j3,EE.n_SumBook_p,_,sb_p _ _ _,_,SqL.of (s27 _ _ hq),_,EH hum,p,true,false,um,D6,_,_,rfl,by lia,s27.seqT i4,SqL.of h7,by rw[q1];unfold nums;rw[ja_];exact fF.symm,by lia,(fun x hx=>by have:=q2 x hx;lia),fun H8 s8=>?_⟩;have s28:=s'.trans (s5.trans (s7.trans s8));refine⟨rfl,?_⟩;by_cases iK:dotW (R71 p tb W'.length (v.take aK)) (nums es W' (v.drop aK))%p=goal
      ·rw[if_pos iK]at e;rw[if_pos (by rw[<-iK,fF];rfl)];exact⟨_,by lia,(aq _ _ _).mpr ⟨lo,aK,f',_,_,_,s28,rfl,by lia,by lia,by lia,e,rfl⟩⟩
      ·rw[if_neg iK]at e;rw[if_neg (fun z=>iK (by rw[fF];exact V.int.inj z))];exact⟨_,by lia,(aq _ _ _).mpr ⟨aK,hi,f',_,_,_,s28,rfl,by lia,by lia,by lia,e,rfl⟩⟩
     ·rw[if_neg ha]at e;rw[if_pos]
      ·exact⟨by lia,fun x hx=>(k _ (t7.newT hx)).1 aK D us x e (Same.new hx _ _ (s7 _ _ iW)) (eY.mono (TK.of (s7.newT hx))) Ab⟩
      ·have:∃w∈W',mkO es (w++v.drop aK)=none:=by
        refine qa_ fun z=>ha (Kn.mpr fun w hw=>?_);cases hm:mkO es (w++v.drop aK) with
        |none=>exact absurd ⟨w,hw,hm⟩ z
        |some m'=>exact⟨m',rfl⟩
       obtain⟨w,hw,hm⟩:=this;unfold inV;rw[rn,xR_];refine⟨w,hw,?_⟩;show eqV (oV (mkO es (w++v.drop aK))) .non=true;rw[hm];rfl
  ·rw[if_neg s!""];refine⟨by lia,fun x hx=>(k _ (t3.newT hx)).2 lo x ?_ Ab⟩;rw[e];cases f with
   |zero=>rfl
   |succ f=>unfold GA;rw[if_neg hg]
noncomputable def WI (K:α3)(CB:Addr):Sp:=fun vs H Q _=>∃(b d pw h t:Addr) (p:Int) (L n lo:Nat) (es:Bk) (zs:List V) (W:α1) (tb:α0) (l v:α2),vs=[.ref b,.ref pw,.ref h,.ref t,.int lo]/\SBookAt CB H b d p L es/\H pw=some (.lst zs)/\Ao K H zs W/\W.length=n/\(∀u∈W,u.length<=50)/\SumH K H h p L (Bu n 0) tb l/\WfSum p L n (Bu n 0) tb l/\(∀t∈tb,∀r∈t,∀y∈r,0<=y/\y<p)/\H t=some (.tup (v.map V.int))/\isW L v=true/\lo<v.length/\v.length<=600/\AllT es W (v.drop (lo+1))/\∀H',Same H H'->(Lw p es W tb v lo=none->Q .non H')/\∀i u,Lw p es W tb v lo=some i->H' u=some (.tup ((W.getD i []++[v.getD lo 0]).map V.int))->Q (.ref u) H'
def MM:⋯ EE.j34 2 ["book","access","guess","word","place"] (WI K aj):=by
 delta EE.j34 Ci
 ·obtain⟨b,d,pw,h,t,p,L,n,lo,es,zs,W',tb,l,v,rfl,_⟩:=h;rfl
 ·obtain⟨b,d,pw,h,t,p,L,n,lo,es,zs,W',tb,l,v,rfl,bk,dE,hW,fF,eh,hh,wf,htin,ht,hv,fh,hz,aA,k⟩:=h;have hl:=Al;refine⟨_,(Ac (Ak (i:=5) Ci.nd (As (ixTD Ay) (As (ixTD Ay) (pvD 2) Ai) (As (ixTD Ay) (pvD 3) (pvD 4))))
   (Ac (IQ (i:=6) Ci.nd rfl rfl rfl (BL rfl) (cp:=GJ) ⟨⟨rfl,rfl⟩,⟨⟨rfl,rfl⟩,⟨⟨rfl,rfl⟩,nL⟩⟩⟩ (Br (pvD 1)) (fun _ _ _ _=>(Aq (i:=0) Ja rfl (nM rfl))) (fun _ _ _ _=>By) (fun _ _ _ _=>(Bh (pvD 1) EE.cl_j3 EE.j28.m (Bm EE).g hr.d (Bm EE).b .nil An (Aa (Ar (FF (K:=K) rfl) (pvD 0) (BS (Pl (K:=K) rfl) (pvD 2) (C2 (Ar (opD0 Bl) (pvD 3) Ai)) C1)) Ad))))
   (Ac (Bx jL_ rfl (Of rfl EE.zip (Aa (pvD 1) (Aa (pvD 5) Ad))) (LC rfl (Bg (Aq (i:=7) Ci.nd rfl (nM rfl)) (Bg (Aq (i:=8) Ci.nd rfl (nM rfl)) Fw)))
   (Ae (AZ (ptT (Ap (opN Dh) (Bh (pvD 0) EE.cl_j3 EE.j28.m (Bm EE).g hr.d (Bm EE).b .nil An (Aa (Ar Dj (pvD 7) (BS F3 (pvD 3) (C2 (pvD 4)) C1)) Ad)) (Af (CK EE) hr.d An (Aa (Ax (pvD 0) rfl) (Aa (pvD 8) (Aa (pvD 6) Ad)))) (Av _)))
   (Ae (Am (Ar Dj (pvD 7) (Ce (Aa (As (ixTD Ay) (pvD 3) (pvD 4)) Ad)))))
   Au)))
   (Ae (Am Bw))))),?_⟩
  obtain⟨⟨eX,hb⟩,hd,nd⟩:=id bk;have p2:=wf.p2;have p18:=wf.p18;have dl:n<=16:=wf.dl;obtain⟨tf,tt,tl,e1,e2,e3,e4⟩:=id hh;obtain⟨x,hx,lu,ke,kf⟩:=Ko hv fh;nofun;obtain⟨t1,t2,t3⟩:=wf.table (x:=(x:Int)) s!"" s!"";obtain⟨zt,u,xt,z1,z2,z3,z4⟩:=e4.at t1;rw[jz_]at z2 t2 t3 z4;have gj:tb[x]?=some (tb.getD x []):=by have:=t1;rwa [jz_]at this
  obtain⟨tx,hT⟩:∃tx,tx=tb.getD x []:=⟨_,rfl⟩;rw[<-hT]at gj t2 t3 z4;have ng:tx∈tb:=jn_ gj;have dn:=SqL.of (K:=K) dE;refine⟨_,e1,_,rfl,_,SqT.of ht,_,EH (by rw[jh_,hx];rfl),tt,rfl,_,_,rfl,z1,_,z2,⟨_,dn⟩,KA (xs:=zs) (fun i ys af H6=>Same H H6/\ys=(nums es (W'.take i) (v.drop (lo+1))).map V.int/\∃o,af=[o,some (.ref b),some (.ref t),some (.int lo)]) ⟨Same.refl _,rfl,none,rfl⟩ (by rw[hW.1];lia) (fun i ys af H6 hi h'=>⟨h'.1.seq dn,by rw[h'.2.1,ja_];unfold nums;rw[ja_,jI_];lia⟩) (fun i xv ys af H6 cY h'=>?_) (fun ys af H6 h' D6 ko=>?_)⟩
  ·obtain⟨s6,rfl,o,rfl⟩:=h';obtain⟨tw,w,bO,rfl,cV⟩:=hW.at cY;have bB:=eh w (jn_ bO);obtain⟨m,hm⟩:=aA w (jn_ bO);have ew:W'.take (i+1)=W'.take i++[w]:=by rw[jQ_,bO];rfl
   nofun;refine⟨_,_,s6 _ _ hb,by kernel_rfl,?_⟩;rw[show (lo:Int)+1=((lo+1:Nat):Int) by lia];refine⟨t,_,rfl,s6 _ _ ht,fun x5 H7 s7 hX=>?_⟩;rw[CL]at hX;have t7:=s6.trans s7;refine Cb.ofS (t7 _ _ cV) hX (by rw[ja_,ja_,qj_];lia) fun u H8 s8 hu=>?_;rw[<-jj_]at hu;have t8:=t7.trans s8;refine⟨b,d,u,p,L,w++v.drop (lo+1),es,rfl,bk.mono t8,hu,fun hn=>?_,fun m' hJ=>⟨t8,?_,_,rfl⟩⟩
   ·rw[Ih hn]at hm;cases hm
   ·unfold nums;rw[ew,jj_,jj_,j7_,E1 nd hJ];rfl
  ·obtain⟨s6,rfl,o,rfl⟩:=h';rw[hW.1,jG_];have s7:=s6.newT ko (o:=.lst ((nums es W' (v.drop (lo+1))).map V.int));have h7:upd H6 D6 (.lst ((nums es W' (v.drop (lo+1))).map V.int)) D6=some (.lst ((nums es W' (v.drop (lo+1))).map V.int)):=Ab;generalize upd H6 D6 (.lst ((nums es W' (v.drop (lo+1))).map V.int))=H7 at s7 h7 ⊢;refine⟨u,rfl,zs,xt,false,s7.seq dn,true,s7.seqT z3,?_⟩;have elen:xt.length=n:=z4.1.trans t2;have zlen:zs.length=n:=hW.1.trans fF;refine YC n s!"" s!"" (.inl zlen) (fun i af H8=>Same H7 H8/\(∀j,j<i->decide (mkO es (W'.getD j []++v.drop lo)≠some (dotW ((tb.getD (v.getD lo 0).toNat []).getD j []) (nums es W' (v.drop (lo+1)))%p))=false)/\∃o1 o2,af=[some (.ref b),some (.ref pw),some (.ref h),some (.ref t),some (.int lo),some (.ref u),some (.ref D6),o1,o2]) ⟨Same.refl _,fun j hj=>absurd hj (zf_ _),none,none,rfl⟩ (fun i af H8 _ h'=>⟨(s7.trans h'.1).seq dn,(s7.trans h'.1).seqT z3⟩) ?_ ?_
   ·intro i u1 v1 af H8 tp hi mO hv1 h' ma;obtain⟨s8,bA,o1,o2,rfl⟩:=h';obtain⟨tw,w,bO,rfl,cV⟩:=hW.at mO;have bB:=eh w (jn_ bO);have iX:i<tx.length:=by lia
    obtain⟨rt,kj,hrow⟩:=z4.2 i tx[i] (by simp[iX]);rw[hv1]at kj;cases kj;have iY:tx[i]∈tx:=jR_ iX;have eW:W'.getD i []=w:=by rw[jb_,bO];rfl
    have eR:(tb.getD (v.getD lo 0).toNat []).getD i []=tx[i]:=by rw[ke,jz_,<-hT,jb_,jc_ iX];rfl
    have s9:=s8.newT ma (o:=.tup [V.ref tw,V.ref rt]);have hp9:upd H8 tp (.tup [V.ref tw,V.ref rt]) tp=some (.tup [V.ref tw,V.ref rt]):=Ab;generalize upd H8 tp (.tup [V.ref tw,V.ref rt])=H9 at s9 hp9 ⊢;have t9:=s7.trans s9;nofun;refine⟨_,SqT.of hp9,rfl,_,_,rfl,_,_,rfl,rfl,?_⟩;refine⟨_,_,t9 _ _ hb,by kernel_rfl,t,_,rfl,t9 _ _ ht,fun x5 Ha sa hX=>?_⟩;rw[CL]at hX;have ta:=t9.trans sa;refine Cb.ofS (ta _ _ cV) hX (by rw[ja_,ja_,qj_];lia) fun uc Hb sb hu=>?_;rw[<-jj_]at hu;have lF:=ta.trans sb;have aW:tx[i].length=(nums es W' (v.drop (lo+1))).length:=by rw[t3 _ iY];unfold nums;rw[ja_];exact fF.symm
    have hrb:∀y∈tx[i],-(2 ^ 64)<y/\y<2 ^ 64:=fun y hy=>by have:=htin tx ng _ iY y hy;lia
    have dm:tx[i].length<=900:=by rw[t3 _ iY];lia
    have key:∀(o:Option Int),mkO es (w++v.drop lo)=o->∀H2,Same Hb H2->if (!decide (oV o=V.int (dotW tx[i] (nums es W' (v.drop (lo+1)))%p)))=true then ∃xs,SqT K H2 t xs/\∃v,atI xs ↑lo=some v/\1<=sizeLine/\∀(p:Addr),H2 p=none->Cb K (V.ref tw) (V.ref p) (upd H2 p (HO.tup [v])) Q else Same H7 H2/\(∀(j:Nat),j<i+1->decide (mkO es (W'.getD j []++sC lo v)≠some (dotW ((tb.getD (v.getD lo 0).toNat []).getD j []) (nums es W' (sC (lo+1) v))%p))=false)/\∃x,some (V.ref rt)=x:=by
     intro o ho H2 s2;have t2:=lF.trans s2;by_cases hq:o=some (dotW tx[i] (nums es W' (v.drop (lo+1)))%p)
     ·rw[if_neg (by rw[hq];simp[oV])];refine⟨s9.trans (sa.trans (sb.trans s2)),fun j hj=>?_,_,rfl⟩;by_cases kc:j<i
      ·exact bA j kc
      ·have:j=i:=by lia
       subst this;rw[eW,eR,ho,hq];simp
     ·rw[if_pos (by rw[qc,zh_];intro z;apply hq;cases o with|none=>cases z|some m=>have z:V.int m=V.int _:=z;exact qY_ some (V.int.inj z))];refine⟨_,SqT.of (t2 _ _ ht),_,EH (by rw[jh_,hx];rfl),by lia,fun x3 hx3=>?_⟩;refine Cb.ofS ((t2.newT hx3) _ _ cV) Ab (by rw[ja_];show _+1<=_;lia) fun u2 H3 s3 fU=>?_;refine (k _ ((t2.newT hx3).trans s3)).2 i u2 ?_ ?_
      ·unfold Lw;rw[List.find?_range_eq_some];refine⟨?_,qw_.mpr s!"",fun j hj=>by rw[bA j hj];rfl⟩;rw[eW,eR,ho];exact ql_ hq
      ·rw[eW,ke,jj_];exact fU
    refine⟨b,d,uc,p,L,w++v.drop lo,es,rfl,bk.mono lF,hu,fun hn=>?_,fun m hm=>?_⟩
    ·exact⟨_,_,_,lF _ _ hb,EE.cl_j3,EE.n_SumBook_p,_,sb_p _ _ _,p,true,false,rt,D6,_,_,rfl,by lia,(s7.trans (s9.trans (sa.trans sb))).seqT hrow,SqL.of ((s9.trans (sa.trans sb)) _ _ h7),aW,dm,hrb,fun H2 s2=>⟨rfl,key none (Ih hn) H2 s2⟩⟩
    ·exact⟨_,_,_,lF _ _ hb,EE.cl_j3,EE.n_SumBook_p,_,sb_p _ _ _,p,true,false,rt,D6,_,_,rfl,by lia,(s7.trans (s9.trans (sa.trans sb))).seqT hrow,SqL.of ((s9.trans (sa.trans sb)) _ _ h7),aW,dm,hrb,fun H2 s2=>⟨rfl,key (some m) (E1 nd hm) H2 s2⟩⟩
   ·intro af H8 h';obtain⟨s8,bA,o1,o2,rfl⟩:=h';refine (k _ (s7.trans s8)).1 ?_;unfold Lw;rw[List.find?_range_eq_none];intro j hj;rw[bA j s!""];rfl
noncomputable def afl (pr:Int)(wv:V)(L most:Int)(b pw pe pg:Addr)(gv rv:V):List (Str×V):=[("wish",wv),("letters",.int L),("most",.int most),("book",.ref b),("ways",.ref pw),("ends",.ref pe),("gaps",.ref pg),("guess",gv),("wrong",rv),("p",.int pr)]
section
variable (pr:Int) (wv:V) (L most:Int) (b pw pe pg:Addr) (gv rv y:V)
def Hq:(afl pr wv L most b pw pe pg gv rv).lookup ("wish" : Str)=some wv:=by kernel_rfl
def LR:(afl pr wv L most b pw pe pg gv rv).lookup ("letters" : Str)=some (.int L):=by kernel_rfl
def WJ:(afl pr wv L most b pw pe pg gv rv).lookup ("most" : Str)=some (.int most):=by kernel_rfl
def E3:(afl pr wv L most b pw pe pg gv rv).lookup ("book" : Str)=some (.ref b):=by kernel_rfl
def E4:(afl pr wv L most b pw pe pg gv rv).lookup ("ways" : Str)=some (.ref pw):=by kernel_rfl
def MN:(afl pr wv L most b pw pe pg gv rv).lookup ("ends" : Str)=some (.ref pe):=by kernel_rfl
def Sj:(afl pr wv L most b pw pe pg gv rv).lookup ("gaps" : Str)=some (.ref pg):=by kernel_rfl
def Kp:(afl pr wv L most b pw pe pg gv rv).lookup ("guess" : Str)=some gv:=by kernel_rfl
def af_p:(afl pr wv L most b pw pe pg gv rv).lookup ("p" : Str)=some (.int pr):=by kernel_rfl
def Kq:(afl pr wv L most b pw pe pg gv rv).lookup ("wrong" : Str)=some rv:=by kernel_rfl
def Po:putF "wish" y (afl pr wv L most b pw pe pg gv rv)=afl pr y L most b pw pe pg gv rv:=by kernel_rfl
def Ud (q:Addr):putF "gaps" (.ref q) (afl pr wv L most b pw pe pg gv rv)=afl pr wv L most b pw pe q gv rv:=by kernel_rfl
def Sk:putF "guess" y (afl pr wv L most b pw pe pg gv rv)=afl pr wv L most b pw pe pg y rv:=by kernel_rfl
def K9:putF "wrong" y (afl pr wv L most b pw pe pg gv rv)=afl pr wv L most b pw pe pg gv y:=by kernel_rfl
def Ue:putF "p" (.int pr) (putF "wrong" .non (putF "guess" .non (putF "gaps" (.ref pg) (putF "ends" (.ref pe) (putF "ways" (.ref pw) (putF "book" (.ref b) (putF "most" (.int most) (putF "letters" (.int L) (putF "wish" .non [])))))))))=afl pr .non L most b pw pe pg .non .non:=by kernel_rfl
end
structure AD where
 dx:Addr
 b:Addr
 d:Addr
 pw:Addr
 pe:Addr
 pg:Addr
noncomputable def GV (K:α3)(H:Hp)(p L:Int)(gv:V):Option (α0×α2)->Prop
 |none=>gv=.non
 |some (t,l)=>∃h,gv=.ref h/\GuT K H h p L t l
noncomputable def RV (H:Hp)(rv:V):Option (α2)->Prop
 |none=>rv=.non
 |some v=>∃t,rv=.ref t/\H t=some (.tup (v.map V.int))
def GV.mono {K:α3} (x:GV K H p L gv o)(k:TK H H'):GV K H' p L gv o:=by
 match o,x with
 |none,x=>exact x
 |some (t,l),⟨h,a,b⟩=>exact⟨h,a,b.mono k⟩
def RV.mono (x:RV H rv o)(k:TK H H'):RV H' rv o:=by
 match o,x with
 |none,x=>exact x
 |some v,⟨t,a,b⟩=>exact⟨t,a,k _ _ b⟩
noncomputable def Wish.tag:Wish->Str
 |.ask _ => "ask"
 |.shown _ _ => "show"
 |.done _ _ => "done"
 |.spent _ => "spent"
noncomputable def YL (K:α3)(H:Hp)(p L:Int)(u:Addr):Wish->Prop
 |.ask c=>H u=some (.tup (c.map V.int))
 |.shown m ws=>GuT K H u p L m ws
 |.done m ws=>GuT K H u p L m ws
 |.spent c=>H u=some (.tup (c.map V.int))
noncomputable def A7 (K:α3)(H:Hp)(p L:Int)(wv:V)(x:Wish):Prop:=∃t u,wv=.ref t/\H t=some (.tup [.str x.tag,.ref u])/\YL K H p L u x
def A7.mono {K:α3} {wv:V} (h:A7 K H p L wv x)(k:TK H H'):A7 K H' p L wv x:=by
 obtain⟨t,u,a,b,c⟩:=h;refine⟨t,u,a,k _ _ b,?_⟩;cases x with
 |ask c'=>exact k _ _ c
 |spent c'=>exact k _ _ c
 |shown m ws=>exact GuT.mono c k
 |done m ws=>exact GuT.mono c k
structure AskAt (K:α3)(CA CB:Addr)(H:Hp)(a:Addr)(ad:AD)(s:AS)(wv gv rv:V)(zs ys us:List V):Prop where
 ob:H a=some (.ins CA ad.dx (afl s.p wv s.L s.most ad.b ad.pw ad.pe ad.pg gv rv))
 bk:SBookAt CB H ad.b ad.d s.p s.L s.es
 w:H ad.pw=some (.lst zs)
 wW:Ao K H zs s.W
 e:H ad.pe=some (.lst ys)
 eW:Ao K H ys s.E
 g:H ad.pg=some (.lst us)
 gW:Ao K H us s.G
 we:ad.pw≠ad.pe
 wg:ad.pw≠ad.pg
 eg:ad.pe≠ad.pg
 gv:GV K H s.p s.L gv s.gs
 rv:RV H rv s.wr
noncomputable def Asks (K:α3)(CA CB:Addr)(H:Hp)(a:Addr)(ad:AD)(s:AS)(wv:V):Prop:=∃gv rv zs ys us,AskAt K CA CB H a ad s wv gv rv zs ys us
noncomputable def Frm (H H':Hp)(a:Addr)(ad:AD):Prop:=(∀x o,H x=some o->x≠a->x≠ad.d->x≠ad.pw->x≠ad.pe->x≠ad.pg->H' x=some o)/\∀x,H' x=none->H x=none
noncomputable def AdOk (H:Hp)(ad az:AD):Prop:=az.dx=ad.dx/\az.b=ad.b/\az.d=ad.d/\az.pw=ad.pw/\az.pe=ad.pe/\(az.pg=ad.pg\/H az.pg=none)
def AdOk.refl (H:Hp)(ad:AD):AdOk H ad ad:=⟨rfl,rfl,rfl,rfl,rfl,.inl rfl⟩
def Frm.of (s:Same H H')(a:Addr)(ad:AD):Frm H H' a ad:=⟨fun x o h _ _ _ _ _=>s _ _ h,fun x h=>s.none h⟩
def Frm.trans {H H1 H2:Hp} {ad cE:AD}(f:Frm H H1 a ad)(k:AdOk H ad cE)(g:Frm H1 H2 a cE):Frm H H2 a ad:=by
 obtain⟨k1,k2,k3,k4,k5,k6⟩:=k;refine⟨fun x o h n1 n2 n3 n4 n5=>g.1 x o (f.1 x o h n1 n2 n3 n4 n5) n1 (by rw[k3];exact n2) (by rw[k4];exact n3) (by rw[k5];exact n4) (fun z=>?_),fun x h=>f.2 x (g.2 x h)⟩;rcases k6 with k6|k6
 ·exact n5 (z.trans k6)
 ·rw[z,k6]at h;cases h
def AdOk.trans {H H1:Hp} {ad cE bR:AD}(f:Frm H H1 a ad)(k:AdOk H ad cE)(g:AdOk H1 cE bR):AdOk H ad bR:=by
 obtain⟨k1,k2,k3,k4,k5,k6⟩:=k;obtain⟨g1,g2,g3,g4,g5,g6⟩:=g;refine⟨g1.trans k1,g2.trans k2,g3.trans k3,g4.trans k4,g5.trans k5,?_⟩;rcases g6 with g6|g6
 ·rw[g6];exact k6
 ·exact .inr (f.2 _ g6)
section
variable {K:α3} {CA CB:Addr} {H H':Hp} {a:Addr} {ad:AD} {s:AS} {wv gv rv:V} {zs ys us:List V}
def AskAt.same (x:AskAt K CA CB H a ad s wv gv rv zs ys us)(k:Same H H'):AskAt K CA CB H' a ad s wv gv rv zs ys us:=
 ⟨k _ _ x.ob,x.bk.mono k,k _ _ x.w,x.wW.mono (TK.of k),k _ _ x.e,x.eW.mono (TK.of k),k _ _ x.g,x.gW.mono (TK.of k),x.we,x.wg,x.eg,x.gv.mono (TK.of k),x.rv.mono (TK.of k)⟩
def AskAt.tkob (x:AskAt K CA CB H a ad s wv gv rv zs ys us)(o:HO):TK H (upd H a o):=fun t ts h=>by rw[Aj (fun z=>by rw[z,x.ob]at h;cases h)];exact h
def AskAt.na (x:AskAt K CA CB H a ad s wv gv rv zs ys us):ad.pw≠a/\ad.pe≠a/\ad.pg≠a/\ad.d≠a/\ad.b≠ad.d/\ad.pw≠ad.d/\ad.pe≠ad.d/\ad.pg≠ad.d/\ad.b≠ad.pw/\ad.b≠ad.pe/\ad.b≠ad.pg:=by
 obtain⟨dx,hb⟩:=x.bk.ob;refine⟨fun z=>?_,fun z=>?_,fun z=>?_,fun z=>?_,fun z=>?_,fun z=>?_,fun z=>?_,fun z=>?_,fun z=>?_,fun z=>?_,fun z=>?_⟩
 ·have:=x.w;rw[z,x.ob]at this;cases this
 ·have:=x.e;rw[z,x.ob]at this;cases this
 ·have:=x.g;rw[z,x.ob]at this;cases this
 ·have:=x.bk.dc;rw[z,x.ob]at this;cases this
 ·rw[z,x.bk.dc]at hb;cases hb
 ·have:=x.w;rw[z,x.bk.dc]at this;cases this
 ·have:=x.e;rw[z,x.bk.dc]at this;cases this
 ·have:=x.g;rw[z,x.bk.dc]at this;cases this
 ·rw[z,x.w]at hb;cases hb
 ·rw[z,x.e]at hb;cases hb
 ·rw[z,x.g]at hb;cases hb
def AskAt.nb (x:AskAt K CA CB H a ad s wv gv rv zs ys us):ad.b≠a:=fun z=>by
 obtain⟨dx,hb⟩:=x.bk.ob;rw[z,x.ob]at hb;injection hb with hb;injection hb with _ _ hb;have h1:=qY_ (fun l=>nX ("wish" : Str) l) hb;rw[Hq]at h1;have h2:(sbf s.L ad.d s.p).lookup ("wish" : Str)=none:=by kernel_rfl
 have h1:some wv=(sbf s.L ad.d s.p).lookup ("wish" : Str):=h1;rw[h2]at h1;cases h1
def AskAt.put (x:AskAt K CA CB H a ad s wv gv rv zs ys us) (hp:s'.p=s.p)(hL:s'.L=s.L)(hm:s'.most=s.most)(hW:s'.W=s.W)(hE:s'.E=s.E)(hG:s'.G=s.G)(mZ:s'.es=s.es)(g':GV K H s'.p s'.L gv' s'.gs)(r':RV H rv' s'.wr):AskAt K CA CB (upd H a (.ins CA ad.dx (afl s.p wv' s.L s.most ad.b ad.pw ad.pe ad.pg gv' rv'))) a ad s' wv' gv' rv' zs ys us:=by
 obtain⟨n1,n2,n3,n4,n5,n6,n7,n8,n9,jz,jA⟩:=x.na;have tk:=x.tkob (.ins CA ad.dx (afl s.p wv' s.L s.most ad.b ad.pw ad.pe ad.pg gv' rv'));exact⟨by rw[Ab,hp,hL,hm],by rw[hp,hL,mZ];exact SBookAt.tk x.bk (fun o h=>by rw[Aj x.nb];exact h) (fun o h=>by rw[Aj n4];exact h),by rw[Aj n1];exact x.w,by rw[hW];exact x.wW.mono tk,by rw[Aj n2];exact x.e,by rw[hE];exact x.eW.mono tk,by rw[Aj n3];exact x.g,by rw[hG];exact x.gW.mono tk,x.we,x.wg,x.eg,g'.mono tk,r'.mono tk⟩
def AskAt.putF (x:AskAt K CA CB H a ad s wv gv rv zs ys us)(o:HO):Frm H (upd H a o) a ad:=⟨fun y o' h n _ _ _ _=>by rw[Aj n];exact h,fun y h=>by
 by_cases z:y=a
 ·rw[z,Ab]at h;cases h
 ·rwa [Aj z]at h⟩
end
inductive Goes:AS->AS->Wish->Prop where
 | stop {s s':AS} {x:Wish}:Ct s=(s',some x)->Goes s s' x
 | more {s s1 s':AS} {x:Wish}:Ct s=(s1,none)->Goes s1 s' x->Goes s s' x
def Goes.ok {B:Nat} (g:Goes s s' x)(o:OkX none B s):WOk B s' x/\Kept s s':=by
 induction g with
 |stop h=>exact (OD o).2 _ _ h
 |more h _ ih=>
  obtain⟨o1,k1,_⟩:=(OD o).1 _ h;obtain⟨o2,k2⟩:=ih o1;exact⟨o2,⟨k2.q.trans k1.q,k2.l.trans k1.l,k2.m.trans k1.m,k2.e.trans k1.e⟩⟩
structure Sz (s:AS):Prop where
 l6:s.L<=6
 w:s.W.length<=13/\∀v∈s.W,v.length<=50
 e:s.E.length<=20/\∀v∈s.E,v.length<=500
 b:∀p∈s.es,p.1.length<=600
def Frm.seq {H H1 H2:Hp} {ad:AD}(f:Frm H H1 a ad)(g:Frm H1 H2 a ad):Frm H H2 a ad:=f.trans (AdOk.refl H ad) g
noncomputable def Bd (B:Nat)(s:AS):Prop:=B+(s.most+1)*(s.most+1)+s.most<=500
def OkX.sz {B:Nat} (o:OkX y B s)(h:Bd B s):Sz s:=by
 have tb:=o.tb;have h1:=tb.wn;have h2:=tb.m12;have h3:=tb.sq;have h5:=tb.l6;have hm:(s.most+1)*s.E.length<=(s.most+1)*(s.most+1):=xX_ _ s!"";unfold Bd at h;refine⟨tb.l6,⟨by lia,fun v hv=>by have:=(tb.wW v hv).2;lia⟩,⟨by lia,fun v hv=>by have:=o.le v hv;lia⟩,fun p hp=>?_⟩;have:=o.lb p hp;split at this<;>lia
def Jh (pr:Int)(wv:V)(L most:Int)(b pw pe pg:Addr)(gv rv:V):(afl pr wv L most b pw pe pg gv rv).length<1000:=by unfold afl;simp
section
variable {K:α3} {CA CB:Addr} {H H':Hp} {a:Addr} {ad:AD} {s:AS} {wv gv rv:V} {zs ys us:List V}
def AskAt.putW (x:AskAt K CA CB H a ad s wv gv rv zs ys us) (h:Ao K H fq W'):AskAt K CA CB (upd H ad.pw (.lst fq)) a ad {s with W:=W' } wv gv rv fq ys us:=by
 obtain⟨n1,n2,n3,n4,n5,n6,n7,n8,n9,jz,jA⟩:=x.na;have tk:=TK.lst x.w (o:=.lst fq);exact⟨by rw[Aj (qn_ n1)];exact x.ob,SBookAt.tk x.bk (fun o h=>by rw[Aj n9];exact h) (fun o h=>by rw[Aj (qn_ n6)];exact h),Ab,h.mono tk,by rw[Aj (qn_ x.we)];exact x.e,x.eW.mono tk,by rw[Aj (qn_ x.wg)];exact x.g,x.gW.mono tk,x.we,x.wg,x.eg,x.gv.mono tk,x.rv.mono tk⟩
def AskAt.putE (x:AskAt K CA CB H a ad s wv gv rv zs ys us) (h:Ao K H ys' E'):AskAt K CA CB (upd H ad.pe (.lst ys')) a ad {s with E:=E' } wv gv rv zs ys' us:=by
 obtain⟨n1,n2,n3,n4,n5,n6,n7,n8,n9,jz,jA⟩:=x.na;have tk:=TK.lst x.e (o:=.lst ys');exact⟨by rw[Aj (qn_ n2)];exact x.ob,SBookAt.tk x.bk (fun o h=>by rw[Aj jz];exact h) (fun o h=>by rw[Aj (qn_ n7)];exact h),by rw[Aj x.we];exact x.w,x.wW.mono tk,Ab,h.mono tk,by rw[Aj (qn_ x.eg)];exact x.g,x.gW.mono tk,x.we,x.wg,x.eg,x.gv.mono tk,x.rv.mono tk⟩
def AskAt.putG (x:AskAt K CA CB H a ad s wv gv rv zs ys us) (h:Ao K H cU G'):AskAt K CA CB (upd H ad.pg (.lst cU)) a ad {s with G:=G' } wv gv rv zs ys cU:=by
 obtain⟨n1,n2,n3,n4,n5,n6,n7,n8,n9,jz,jA⟩:=x.na;have tk:=TK.lst x.g (o:=.lst cU);exact⟨by rw[Aj (qn_ n3)];exact x.ob,SBookAt.tk x.bk (fun o h=>by rw[Aj jA];exact h) (fun o h=>by rw[Aj (qn_ n8)];exact h),by rw[Aj x.wg];exact x.w,x.wW.mono tk,by rw[Aj x.eg];exact x.e,x.eW.mono tk,Ab,h.mono tk,x.we,x.wg,x.eg,x.gv.mono tk,x.rv.mono tk⟩
def Frm.put (h:q=ad.pw\/q=ad.pe\/q=ad.pg\/q=ad.d)(hq:∃o,H q=some o):Frm H (upd H q o) a ad:=by
 refine⟨fun y o' hy n1 n2 n3 n4 n5=>?_,fun y hy=>?_⟩
 ·rw[Aj (fun z=>by rcases h with h|h|h|h<;>subst h<;>contradiction)];exact hy
 ·by_cases z:y=q
  ·rw[z,Ab]at hy;cases hy
  ·rwa [Aj z]at hy
end
def Yp {i n:Nat}(h:i<n):seqIndex? (i:Int) n=some i:=by
 unfold seqIndex?;simp[show ¬ (i:Int)<0 by lia,h]
def Ao.tail39 {K:α3} (h:Ao K H us (c::r)):Ao K H (us.eraseIdx 0) r:=by
 cases us with
 |nil=>have:=h.1;cases this
 |cons u us=>
  refine⟨?_,fun i w hi=>?_⟩
  ·have:=h.1;simpa using this
  ·exact h.2 (i+1) w (by simpa using hi)
section
variable {K:α3} {CA CB:Addr} {H H':Hp} {a:Addr} {ad:AD} {s:AS} {wv gv rv:V} {zs ys us:List V}
def AskAt.putB (x:AskAt K CA CB H a ad s wv gv rv zs ys us) (hb:SBookAt CB H' ad.b ad.d s.p s.L dv)(hf:∀b o,H b=some o->b≠ad.d->H' b=some o):AskAt K CA CB H' a ad {s with es:=dv } wv gv rv zs ys us/\Frm H H' a ad/\TK H H':=by
 obtain⟨n1,n2,n3,n4,n5,n6,n7,n8,n9,jz,jA⟩:=x.na;have tk:TK H H':=fun t ts h=>hf t _ h (fun z=>by rw[z,x.bk.dc]at h;cases h);refine⟨⟨hf _ _ x.ob (qn_ n4),hb,hf _ _ x.w n6,x.wW.mono tk,hf _ _ x.e n7,x.eW.mono tk,hf _ _ x.g n8,x.gW.mono tk,x.we,x.wg,x.eg,x.gv.mono tk,x.rv.mono tk⟩,⟨fun y o h _ n _ _ _=>hf _ _ h n,fun y h=>?_⟩,tk⟩;cases hy:H y with
 |none=>rfl
 |some o=>
  by_cases z:y=ad.d
  ·rw[z,hb.dc]at h;cases h
  ·rw[hf _ _ hy z]at h;cases h
end
noncomputable def s071 (p:Int)(L most:Nat):AS:={p:=p,L:=L,most:=most,W:=[],E:=[],G:=[],gs:=none,wr:=none,es:=[]}
def Sl (B:Nat)(b1:12<=B)(hp:Pr p)(p18:p<1000000000000000000)(l1:1<=L)(l6:L<=6)(m12:most<=12):OkX none B (s071 p L most):=by
 have hn:need L [] []=[]:=by
  cases h:need L [] [] with
  |nil=>rfl
  |cons c r=>
   exfalso;have:c∈need L [] []:=by rw[h];exact jA_ ..
   revert this;simp[need,Jr,Eo]
 refine⟨⟨hp,p18,l1,l6,m12,rfl,fun v hv=>(by cases hv),fun v hv=>(by cases hv),j3_ _,fun e he=>(by cases he),zU_,fun q hq=>(by cases hq),fun e he=>(by cases he),?_⟩,b1,fun _ c hc=>?_,zU_,fun c hc=>(by cases hc),fun e he=>(by cases he),fun q hq=>(by cases hq),fun v hv=>(by cases hv)⟩
 ·intro cs h _ c hc;have h:cs.length=0:=h;rw[jN_.mp h]at hc;cases hc
 ·have hc:c∈need L [] []:=hc;rw[hn]at hc;cases hc
def MO (f:Str)(v:V):∀fs:List (Str×V),(putF f v fs).length<=fs.length+1
 |[]=>by simp[putF]
 | (g,x)::r=>by
  unfold putF;split
  ·simp
  ·have:=MO f v r;rw[jV_,jV_];lia
noncomputable def Ug (CA:Addr):Sp:=fun vs H Q _=>∃(a dx:Addr) (fs:List (Str×V)),vs=[.ref a]/\H a=some (.ins CA dx fs)/\fs.length<1000/\Q .non (upd H a (.ins CA dx (putF "wish" .non fs)))
def Ik:⋯ EE.j53 1 ["self"] (Ug ag):=by
 delta EE.j53 Mq
 ·obtain⟨a,dx,fs,rfl,_⟩:=h;rfl
 ·obtain⟨a,dx,fs,rfl,ha,hz,k⟩:=h;refine⟨_,(Ae (B8 (pvD 0) Bw rfl)),?_⟩;nofun;exact⟨_,_,_,ha,EE.cl_j0,EE.n_SumAsker_wish,hz,k⟩
noncomputable def aflh (L most:Int)(b pw pe pg:Addr):List (Str×V):=putF "wrong" .non (putF "guess" .non (putF "gaps" (.ref pg) (putF "ends" (.ref pe) (putF "ways" (.ref pw) (putF "book" (.ref b) (putF "most" (.int most) (putF "letters" (.int L) (putF "wish" .non []))))))))
noncomputable def Uh (CA:Addr):Sp:=fun vs H Q _=>∃(a dx b pw pe:Addr) (L most:Int),vs=[.ref a,.int L,.int most,.ref b,.ref pw,.ref pe]/\H a=some (.ins CA dx [])/\∀(pg:Addr) (H':Hp),H pg=none->H' a=some (.ins CA dx (aflh L most b pw pe pg))->H' pg=some (.lst [])->(∀x o,H x=some o->x≠a->H' x=some o)->(∀x,H' x=none->H x=none)->Q .non H'
def Jy:⋯ EE.j54 3 ["self","letters","most","book","ways","ends"] (Uh ag):=by
 delta EE.j54 Nn
 ·obtain⟨a,dx,b,pw,pe,L,most,rfl,_⟩:=h;rfl
 ·obtain⟨a,dx,b,pw,pe,L,most,rfl,ha,k⟩:=h;have hl:=Al;refine⟨_,(Ac (AB (Wc rfl EE.m_j9 EE.j53.m (Ik EE).g hr.d (Ik EE).b .nil An (Aa (pvD 0) Ad)))
   (Ac (B8 (pvD 0) (pvD 1) rfl)
   (Ac (B8 (pvD 0) (pvD 2) rfl)
   (Ac (B8 (pvD 0) (pvD 3) rfl)
   (Ac (B8 (pvD 0) (pvD 4) rfl)
   (Ac (B8 (pvD 0) (pvD 5) rfl)
   (Ac (B8 (pvD 0) (E9 Ad) rfl)
   (Ac (B8 (pvD 0) Bw rfl)
   (Ae (B8 (pvD 0) Bw rfl)))))))))),?_⟩
  nofun;have pl:∀(f:Str) (v:V) (fs:List (Str×V)) (n:Nat),fs.length<n->(putF f v fs).length<n+1:=fun f v fs n h=>by have:=MO f v fs;lia
  have z1:=pl "wish" .non [] 1 (by simp);have z2:=pl "letters" (.int L) _ _ z1;have z3:=pl "most" (.int most) _ _ z2;have z4:=pl "book" (.ref b) _ _ z3;have z5:=pl "ways" (.ref pw) _ _ z4;have z6:=pl "ends" (.ref pe) _ _ z5;refine⟨a,dx,[],rfl,ha,by simp,_,_,_,Ab,EE.cl_j0,EE.n_SumAsker_letters,by lia,_,_,_,Ab,EE.cl_j0,EE.n_SumAsker_most,by lia,_,_,_,Ab,EE.cl_j0,EE.n_SumAsker_book,by lia,_,_,_,Ab,EE.cl_j0,EE.n_SumAsker_ways,by lia,_,_,_,Ab,EE.cl_j0,EE.n_SumAsker_ends,by lia,by lia,fun pg fI=>?_⟩;have nj:pg≠a:=fun z=>by rw[z,Ab]at fI;cases fI
  have z7:=pl "gaps" (.ref pg) _ _ z6;have z8:=pl "guess" .non _ _ z7;refine⟨_,_,_,by rw[Aj (qn_ nj)];exact Ab,EE.cl_j0,EE.n_SumAsker_gaps,by lia,_,_,_,Ab,EE.cl_j0,EE.n_SumAsker_guess,by lia,_,_,_,Ab,EE.cl_j0,EE.n_SumAsker_wrong,by lia,?_⟩;have dq:H pg=none:=by
   simp only[Aj nj]at fI;exact fI
  refine k pg _ dq (by rw[Ab];rfl) (by simp only[Aj nj];exact Ab) (fun y o hy i5=>?_) (fun y hy=>?_)
  ·have lG:y≠pg:=fun z=>by rw[z,dq]at hy;cases hy
   simp only[Aj i5,Aj lG];exact hy
  ·by_cases i5:y=a
   ·rw[i5,Ab]at hy;cases hy
   ·by_cases lG:y=pg
    ·rw[lG];exact dq
    ·simp only[Aj i5,Aj lG]at hy;exact hy
noncomputable def Ui (K:α3)(CA CB:Addr):Sp:=fun vs H Q _=>∃(a:Addr) (ad:AD) (s:AS) (wv:V),vs=[.ref a]/\Asks K CA CB H a ad s wv/\Q wv H
def A8:⋯ EE.j0 1 ["self"] (Ui K ag aj):=by
 delta EE.j0 Ln
 ·obtain⟨a,ad,s,wv,rfl,_⟩:=h;rfl
 ·obtain⟨a,ad,s,wv,rfl,⟨gv,rv,zs,ys,us,x⟩,k⟩:=h;refine⟨_,(Ae (Am (Ax (pvD 0) rfl))),?_⟩;nofun;exact⟨_,_,_,x.ob,EE.cl_j0,EE.n_SumAsker_wish,_,Hq ..,k⟩
noncomputable def Sm (K:α3)(CA CB OT:Addr):Sp:=fun vs H Q E=>∃(a:Addr) (ad:AD) (s:AS) (wv:V) (x:Wish) (d:Str),vs=[.ref a,.str d]/\Asks K CA CB H a ad s wv/\A7 K H s.p s.L wv x/\(x.tag=d->Q .non H)/\(x.tag≠d->E (.ref OT) none H)
def AW:CalH P w mg base (CXe P w) EE.j9 1 ["self","deed"] (Sm K ag aj aw):=by
 refine HG.okE EE.j9 Gy (fun vs H Q E h=>?_) (fun ao A outer s H vs Q E hr h=>?_)
 ·obtain⟨a,ad,s,wv,x,d,rfl,_⟩:=h;rfl
 ·obtain⟨a,ad,s,wv,x,d,rfl,⟨gv,rv,zs,ys,us,A'⟩,hw,k,kE⟩:=h;have hl:=Al;refine⟨_,(Ae (AZ (ptT (Ap (opN Dh) (As (ixTD Ay) (Ax (pvD 0) rfl) Ai) (pvD 1) (Av _)))
   (Ae (Gq EE.m_j4 EE.x_j4 rfl rfl (Aa AA Ad)))
   Au)),?_⟩
  nofun;obtain⟨t,u,rfl,ht,_⟩:=hw;refine⟨_,_,_,A'.ob,EE.cl_j0,EE.n_SumAsker_wish,_,Hq ..,t,rfl,_,SqT.of ht,V.str x.tag,rfl,rfl,?_⟩;by_cases hd:x.tag=d
  ·rw[if_neg (by simp[hd])];exact k hd
  ·rw[if_pos (by simp[hd])];exact⟨by lia,kE hd⟩
noncomputable def NG (K:α3)(CA CB:Addr)(f:AS->α1):Sp:=fun vs H Q _=>∃(a:Addr) (ad:AD) (s:AS) (wv:V),vs=[.ref a]/\Asks K CA CB H a ad s wv/\∀l ts H',Same H H'->H l=none->H' l=some (.lst ts)->Ao K H' ts (f s)->Q (.ref l) H'
def GL:⋯ EE.j68 1 ["self"] (NG K ag aj AS.W):=by
 delta EE.j68 Lq
 ·obtain⟨a,ad,s,wv,rfl,_⟩:=h;rfl
 ·obtain⟨a,ad,s,wv,rfl,⟨gv,rv,zs,ys,us,x⟩,k⟩:=h;refine⟨_,(Ae (Am (AF Jn rfl EE.list qP_ (Aa (Ax (pvD 0) rfl) Ad)))),?_⟩;nofun;exact⟨_,_,_,x.ob,EE.cl_j0,EE.n_SumAsker_ways,_,E4 ..,ad.pw,rfl,zs,.inl (SqL.of x.w),fun l hl=>k l zs _ (Same.new hl) hl Ab (x.wW.mono (TK.new hl))⟩
def F6:⋯ EE.j69 1 ["self"] (NG K ag aj AS.E):=by
 delta EE.j69 KY
 ·obtain⟨a,ad,s,wv,rfl,_⟩:=h;rfl
 ·obtain⟨a,ad,s,wv,rfl,⟨gv,rv,zs,ys,us,x⟩,k⟩:=h;refine⟨_,(Ae (Am (AF Jn rfl EE.list qP_ (Aa (Ax (pvD 0) rfl) Ad)))),?_⟩;nofun;exact⟨_,_,_,x.ob,EE.cl_j0,EE.n_SumAsker_ends,_,MN ..,ad.pe,rfl,ys,.inl (SqL.of x.e),fun l hl=>k l ys _ (Same.new hl) hl Ab (x.eW.mono (TK.new hl))⟩
noncomputable def Qp (K:α3)(CA CB:Addr):Sp:=fun vs H Q _=>∃(a:Addr) (ad:AD) (s:AS) (wv:V),vs=[.ref a]/\Asks K CA CB H a ad s wv/\∀l rs H',Same H H'->H l=none->H' l=some (.lst rs)->Cn H' rs s.es->Q (.ref l) H'
def BI:⋯ EE.j58 2 ["self"] (Qp K ag aj):=by
 delta EE.j58 Mr
 ·obtain⟨a,ad,s,wv,rfl,_⟩:=h;rfl
 ·obtain⟨a,ad,s,wv,rfl,⟨gv,rv,zs,ys,us,x⟩,k⟩:=h;refine⟨_,(Ae (Am (AQ (Ax (pvD 0) rfl) EE.cl_j3 EE.j10.m (BH EE).g hr.d (BH EE).b .nil An))),?_⟩;nofun;obtain⟨eX,hb⟩:=x.bk.ob;exact⟨_,_,_,x.ob,EE.cl_j0,EE.n_SumAsker_book,_,E3 ..,ad.b,rfl,_,_,hb,by kernel_rfl,ad.b,ad.d,_,_,s.es,rfl,x.bk,k⟩
def OE (es:Bk)(ws:α1)(c:α2):Co es (ws++[c])=if (mkO es c).isNone then ins (Co es ws) c else Co es ws:=by
 unfold Co;rw[qH_];show List.filter _ (ins (ws.foldl ins []) c)=_;generalize ws.foldl ins []=F;unfold ins;by_cases hc:c∈F
 ·rw[if_pos hc];split
  ·rename_i h
   rw[if_pos (x6_.mpr ⟨hc,h⟩)]
  ·rfl
 ·rw[if_neg hc,pR,if_neg (fun z=>hc (x6_.mp z).1)];split
  ·rename_i h
   rw[oI,if_pos h];rfl
  ·rename_i h
   rw[oI,if_neg h];simp
noncomputable def Sn (K:α3)(CA CB:Addr):Sp:=fun vs H Q _=>∃(a l:Addr) (ad:AD) (s:AS) (wv:V) (ts:List V) (ws:α1),vs=[.ref a,.ref l]/\Asks K CA CB H a ad s wv/\SqL K H l ts/\Ao K H ts ws/\ws.length<=100000/\∀az H',Asks K CA CB H' a az {s with G:=Co s.es ws} wv->Frm H H' a ad->AdOk H ad az->Q .non H'
def Cp:⋯ EE.j29 2 ["self","words"] (Sn K ag aj):=by
 delta EE.j29 DC
 ·obtain⟨a,l,ad,s,wv,ts,ws,rfl,_⟩:=h;rfl
 ·obtain⟨a,l,ad,s,wv,ts,ws,rfl,⟨gv,rv,zs,ys,us,x⟩,iQ,hW,hz,k⟩:=h;have hl:=Al;refine⟨_,(Ac (Jm (i:=2) DC.nd rfl (nM rfl) Ke)
   (Ac (Bx jL_ rfl (Br (pvD 1)) (Aq (i:=3) DC.nd rfl (nM rfl))
   (Ae (AZ (ptT (Ap MZ (Bh (Ax (pvD 0) rfl) EE.cl_j3 EE.j28.m (Bm EE).g hr.d (Bm EE).b .nil An (Aa (pvD 3) Ad)) Bw (Av _)))
   (Ae (FA (Fz hr) (pvD 2) (pvD 3) DV rfl))
   Au)))
   (Ae (B8 (pvD 0) (AF (Dz rfl) rfl EE.list qP_ (Aa (pvD 2) Ad)) rfl)))),?_⟩
  nofun;intro p hp;have sp:=Same.new (o:=.dT []) hp;obtain⟨eX,hb⟩:=x.bk.ob;obtain⟨Pv,aq⟩:∃Pv:Nat->St->Hp->Prop,∀i af H',Pv i af H'↔(∃(kvs:List (List Key×V)) (o:Option V),Same H H'/\H' p=some (.dT kvs)/\Dk (Co s.es (ws.take i)) kvs/\af=[some (.ref a),some (.ref l),some (.ref p),o]):=⟨_,fun _ _ _=>qE_⟩;refine⟨⟨_,sp.seq iQ⟩,forL (xs:=ts) Pv ((aq _ _ _).mpr ⟨[],none,sp,Ab,by rw[xu_];exact Dk.nil,rfl⟩) (fun i af H' _ h'=>by obtain⟨_,_,s',_⟩:=(aq _ _ _).mp h';exact s'.seq iQ) (fun i y af H' hy h'=>?_) (fun af H' h'=>?_)⟩
  ·obtain⟨kvs,o,s',hd,hk,rfl⟩:=(aq _ _ _).mp h';obtain⟨t,c,jT,rfl,ht⟩:=hW.at hy;have fm:i<ws.length:=(je_.mp jT).1;have ak:kvs.length<=100000:=by
    rw[hk.len];have h1:=pd (fun c=>(mkO s.es c).isNone) ((ws.take i).foldl ins []);have h2:=A9 (ws.take i) [];rw[jI_,xl_]at h2;have h3:(Co s.es (ws.take i)).length<=_:=h1;lia
   have aT:=s' _ _ ht;have bN:Co s.es (ws.take (i+1))=if (mkO s.es c).isNone then ins (Co s.es (ws.take i)) c else Co s.es (ws.take i):=by
    rw[jQ_,jT];exact OE _ _ _
   nofun;refine⟨_,_,_,s' _ _ x.ob,EE.cl_j0,EE.n_SumAsker_book,_,E3 ..,ad.b,rfl,_,_,s' _ _ hb,by kernel_rfl,ad.b,ad.d,t,_,_,c,s.es,rfl,x.bk.mono s',aT,fun hn=>?_,fun m hm=>?_⟩
   ·dsimp only;rw[if_pos rfl];have bA:(mkO s.es c).isNone=true:=by rw[Ih hn];rfl
    refine⟨_,DPut.t (k:=wkey c) hd (by rw[BZ];exact aT) s!"",(aq _ _ _).mpr ⟨_,_,s'.over hp,Ab,?_,rfl⟩⟩;rw[bN,if_pos bA];exact hk.put c (.bl true)
   ·dsimp only;rw[if_neg (by simp)];have hso:(mkO s.es c).isNone=false:=by rw[E1 x.bk.nd hm];rfl
    refine (aq _ _ _).mpr ⟨kvs,_,s',hd,?_,rfl⟩;rw[bN,hso];simpa using hk
  ·obtain⟨kvs,o,s',hd,hk,rfl⟩:=(aq _ _ _).mp h';rw[hW.1,jG_]at hk;nofun;refine⟨kvs,.inl hd,fun q rs hq aW iS=>?_⟩;have x1:=x.same (s'.newT hq (o:=.lst rs));have uq:upd H' q (.lst rs) q=some (.lst rs):=Ab;have hwd:=(hk.words (K:=K) aW iS).mono (TK.new hq (o:=.lst rs));have s1:=s'.newT hq (o:=.lst rs);have kr:H q=none:=s'.none hq;generalize upd H' q (.lst rs)=H1 at x1 uq hwd s1 ⊢;obtain⟨n1,n2,n3,n4,n5,n6,n7,n8,n9,jz,jA⟩:=x1.na;have hqa:q≠a:=fun z=>by rw[z,x1.ob]at uq;cases uq
   refine⟨_,_,_,x1.ob,EE.cl_j0,EE.n_SumAsker_gaps,by unfold afl;simp,?_⟩;rw[Ud];refine k {ad with pg:=q} _ ⟨gv,rv,zs,ys,rs,?_⟩ ⟨fun y o hy m1 m2 m3 m4 m5=>by rw[Aj m1];exact s1 _ _ hy,fun y hy=>?_⟩ ⟨rfl,rfl,rfl,rfl,rfl,.inr kr⟩
   ·have tk:=x1.tkob (.ins ag ad.dx (afl s.p wv s.L s.most ad.b ad.pw ad.pe q gv rv));refine⟨Ab,SBookAt.tk x1.bk (fun o h=>by rw[Aj x1.nb];exact h) (fun o h=>by rw[Aj n4];exact h),by rw[Aj n1];exact x1.w,x1.wW.mono tk,by rw[Aj n2];exact x1.e,x1.eW.mono tk,by rw[Aj hqa];exact uq,hwd.mono tk,x.we,fun z=>?_,fun z=>?_,x1.gv.mono tk,x1.rv.mono tk⟩
    ·rw[show q=ad.pw from z.symm,x.w]at kr;cases kr
    ·rw[show q=ad.pe from z.symm,x.e]at kr;cases kr
   ·by_cases i5:y=a
    ·rw[i5,Ab]at hy;cases hy
    ·rw[Aj i5]at hy;exact s1.none hy
def Cn.prs (h:Cn H rs es):∃ts:List Addr,rs=ts.map V.ref/\TF H ts (ents es):=by
 refine⟨rs.map (fun v=>match v with | .ref t=>t|_=>0),?_,by unfold ents;rw[ja_,ja_];exact h.1,fun j p q hp hq=>?_⟩
 ·rw[jK_];refine qF_ fun i=>?_;rw[jh_];by_cases hi:i<es.length
  ·obtain⟨t,b,a,_⟩:=h.2 i es[i] (by simp[hi]);rw[a];rfl
  ·rw[jF_ (by rw[h.1];lia)];rfl
 ·unfold ents at hp;rw[jh_]at hp;obtain⟨e,he,rfl⟩:=zl_.mp hp;obtain⟨t,b,a1,a2,a3⟩:=h.2 j e he;rw[jh_,a1]at hq;cases hq;exact⟨b,.inl a2,by rw[a3,BZ]⟩
noncomputable def Uj (K:α3):Sp:=fun vs H Q _=>∃(a h t:Addr) (p:Int) (L:Nat) (tb:α0) (l v:α2),vs=[.ref a,.ref h,.ref t]/\GuT K H h p L tb l/\WfSum p L l.length (Bu l.length 0) tb l/\SqT K H t (v.map V.int)/\v.length<=600/\isW L v=true/\∀H',Same H H'->Q (.int (W71 p tb l v)) H'
def D1:⋯ EE.j49 7 ["self","house","word"] (Uj K):=by
 delta EE.j49 HH
 ·obtain⟨a,h,t,p,L,tb,l,v,rfl,_⟩:=h;rfl
 ·obtain⟨a,h,t,p,L,tb,l,v,rfl,hh,wf,ht,hz,hv,k⟩:=h;refine⟨_,(Ae (Am (Af (TX EE) hr.d (IT (P:=P) (w:=w)) (Aa (pvD 1) (Aa (pvD 2) Ad))))),?_⟩;nofun;exact⟨h,t,p,L,_,_,l,v,tb,rfl,hh.sum,wf,ht,hz,fun _ H' s'=>k H' s',fun z=>by rw[hv]at z;cases z⟩
noncomputable def Yq (K:α3)(CA CB:Addr):Sp:=fun vs H Q _=>∃(a:Addr) (ad:AD) (s:AS) (wv:V),vs=[.ref a]/\Asks K CA CB H a ad s wv/\Sz s/\Tb s.p s.L s.most s.W s.E s.es/\Full s.L s.W s.E s.es/\s.es.length<=1000/\∀h H',Same H H'->GuT K H' h s.p s.L (gTab s.p s.L s.W s.E s.es) (B6 s.W s.es)->Q (.ref h) H'
def Cv:⋯ EE.j22 7 ["self"] (Yq K ag aj):=by
 delta EE.j22 Fp
 ·obtain⟨a,ad,s,wv,rfl,_⟩:=h;rfl
 ·obtain⟨a,ad,s,wv,rfl,⟨gv,rv,zs,ys,us,x⟩,sz,tb,fu,hz,k⟩:=h;have hl:=Al;refine⟨_,(Ae (Am (Af (NC EE) hr.d An (Aa (Ax (pvD 0) rfl) (Aa (Ax (pvD 0) rfl) (Aa (Ax (pvD 0) rfl) (Aa (Ax (pvD 0) rfl) (Aa (AF (Oo rfl hr) rfl EE.dict rA (Aa (AQ (Ax (pvD 0) rfl) EE.cl_j3 EE.j10.m (BH EE).g hr.d (BH EE).b .nil An) Ad)) Ad)))))))),?_⟩;nofun;obtain⟨⟨eX,hb⟩,hd,nd⟩:=id x.bk;refine⟨_,_,_,x.ob,EE.cl_j0,EE.n_SumAsker_p,_,af_p ..,_,_,_,x.ob,EE.cl_j0,EE.n_SumAsker_letters,_,LR ..,_,_,_,x.ob,EE.cl_j0,EE.n_SumAsker_ways,_,E4 ..,_,_,_,x.ob,EE.cl_j0,EE.n_SumAsker_ends,_,MN ..,_,_,_,x.ob,EE.cl_j0,EE.n_SumAsker_book,_,E3 ..,ad.b,rfl,_,_,hb,by kernel_rfl,ad.b,ad.d,_,_,s.es,rfl,x.bk,fun l rs H1 s1 fB cy ic=>?_⟩;have ep:DW [] (ents s.es)=ents s.es:=by
   have h1:=Jt (ents s.es) [] (by
    rw[qK_];unfold ents;rw[jK_];have h2:(s.es.map (fun e=>wkey e.1)).Nodup:=by
     have:s.es.map (fun e=>wkey e.1)=(s.es.map (·.1)).map wkey:=by rw[jK_];rfl
     rw[this];exact List.Pairwise.map _ (fun a b h z=>h (Gs z)) nd
    exact h2)
   rw[qK_]at h1;exact h1
  obtain⟨ts,ets,jQ⟩:=ic.prs;have eS:(ents s.es).length=s.es.length:=by unfold ents;rw[ja_]
  refine⟨l,ts,ents s.es,rfl,by rw[cy,ets],jQ,by lia,fun d2 fN=>?_⟩;rw[ep];have s2:=s1.newT fN (o:=.dT (ents s.es));exact⟨s.p,s.L,s.most,ad.pw,ad.pe,d2,zs,ys,s.W,s.E,s.es,rfl,s2.seq (SqL.of x.w),x.wW.mono (TK.of s2),s2.seq (SqL.of x.e),x.eW.mono (TK.of s2),Ab,tb,fu,sz.e.2,fun h H' s' hh=>k h H' (s2.trans s') hh⟩
noncomputable def Yr (K:α3)(CA CB:Addr):Sp:=fun vs H Q _=>∃(a:Addr) (ad:AD) (s:AS) (wv:V) (t:α0) (l:α2),vs=[.ref a]/\Asks K CA CB H a ad s wv/\s.gs=some (t,l)/\WfSum s.p s.L l.length (Bu l.length 0) t l/\(∀tb∈t,∀r∈tb,∀y∈r,0<=y/\y<s.p)/\(∀e∈s.es,isW s.L e.1=true/\e.1.length<=600)/\s.es.length<=1000/\∀H',Same H H'->(Bp s.p s.es t l=none->Q .non H')/\∀v u,Bp s.p s.es t l=some v->H' u=some (.tup (v.map V.int))->Q (.ref u) H'
def Cw:⋯ EE.j25 3 ["self"] (Yr K ag aj):=by
 delta EE.j25 Fq
 ·obtain⟨a,ad,s,wv,t,l,rfl,_⟩:=h;rfl
 ·obtain⟨a,ad,s,wv,t,l,rfl,⟨gv,rv,zs,ys,us,x⟩,hg,wf,bz,hb,hz,k⟩:=h;refine⟨_,(Ae (Am (Af (GC EE) hr.d An (Aa (Ax (pvD 0) rfl) (Aa (AQ (Ax (pvD 0) rfl) EE.cl_j3 EE.j10.m (BH EE).g hr.d (BH EE).b .nil An) Ad))))),?_⟩;nofun;have ku:=x.gv;rw[hg]at ku;obtain⟨h,rfl,hh⟩:=ku;obtain⟨⟨dx,gO⟩,hdc,nd⟩:=id x.bk;refine⟨_,_,_,x.ob,EE.cl_j0,EE.n_SumAsker_guess,_,Kp ..,_,_,_,x.ob,EE.cl_j0,EE.n_SumAsker_book,_,E3 ..,_,rfl,_,_,gO,by kernel_rfl,ad.b,ad.d,_,_,s.es,rfl,x.bk,fun q rs H1 s1 fB cy ic=>?_⟩;exact⟨h,q,s.p,s.L,_,t,l,rs,s.es,rfl,(hh.mono (TK.of s1)).sum,wf,bz,SqL.of cy,ic,hb,hz,fun H' s'=>k H' (s1.trans s')⟩
noncomputable def So (K:α3)(CA CB:Addr):Sp:=fun vs H Q _=>∃(a:Addr) (ad:AD) (s:AS) (wv:V) (B:Nat),vs=[.ref a]/\Asks K CA CB H a ad s wv/\OkX none B s/\s.G=[]/\s.wr=none/\Bd B s/\s.es.length<=1000/\∀H' r,Asks K CA CB H' a ad (Jf s).1 wv->Frm H H' a ad->((Jf s).2=none->r=.non)->(∀x,(Jf s).2=some x->A7 K H' s.p s.L r x)->Q r H'
def CZ:⋯ EE.j26 8 ["self"] (So K ag aj):=by
 delta EE.j26 FK
 ·obtain⟨a,ad,s,wv,B,rfl,_⟩:=h;rfl
 ·obtain⟨a,ad,s,wv,B,rfl,⟨gv,rv,zs,ys,us,x⟩,ok,hG,cZ,bd,hz,k⟩:=h;have hl:=Al;have sz:=ok.sz bd;have tb:=ok.tb;have g:GuessOk s.p s.L s.W s.E s.es (gTab s.p s.L s.W s.E s.es) (B6 s.W s.es):=tb.guess (ok.full hG cZ);have wf:=g.wf tb;refine⟨_,(Ac (B8 (pvD 0) (AQ (pvD 0) EE.cl_j0 EE.j22.m (Cv EE).g hr.d (Cv EE).b .nil An) rfl)
   (Ac (B8 (pvD 0) (AQ (pvD 0) EE.cl_j0 EE.j25.m (Cw EE).g hr.d (Cw EE).b .nil An) rfl)
   (Ac (AZ (ptT (Ap MZ (Ax (pvD 0) rfl) Bw (Av _)))
   (Ae (Am (Ce (Aa AA (Aa (Ax (pvD 0) rfl) Ad)))))
   Au)
   (Ae (Am Bw))))),?_⟩
  nofun;refine⟨_,_,x.ob,by kernel_rfl,a,ad,s,wv,rfl,⟨_,_,_,_,_,x⟩,sz,tb,ok.full hG cZ,hz,fun h H1 s1 hh=>?_⟩;have x1:=x.same s1;refine⟨_,_,_,x1.ob,EE.cl_j0,EE.n_SumAsker_guess,Jh ..,?_⟩;rw[Sk];have x2:=x1.put (wv':=wv) (gv':=.ref h) (rv':=rv) (s':={s with gs:=some (gTab s.p s.L s.W s.E s.es,B6 s.W s.es)}) rfl rfl rfl rfl rfl rfl rfl ⟨h,rfl,hh⟩ x1.rv;have f2:=(Frm.of s1 a ad).seq (x1.putF (.ins ag ad.dx (afl s.p wv s.L s.most ad.b ad.pw ad.pe ad.pg (.ref h) rv)));refine⟨_,_,x2.ob,by kernel_rfl,a,ad,_,wv,_,_,rfl,⟨_,_,_,_,_,x2⟩,rfl,wf,fun t ht r hr=>((g.tt t ht).2 r hr).2,fun e he=>⟨(tb.bW e he).1,sz.b e he⟩,hz,fun H3 s3=>⟨fun bA=>?_,fun v t hv ht=>?_⟩⟩
  ·have el:Jf s=({s with gs:=some (gTab s.p s.L s.W s.E s.es,B6 s.W s.es),wr:=none},some (.shown (gTab s.p s.L s.W s.E s.es) (B6 s.W s.es))):=by
    unfold Jf;rw[bA]
   have x3:=x2.same s3;refine⟨_,_,_,x3.ob,EE.cl_j0,EE.n_SumAsker_wrong,Jh ..,?_⟩;rw[K9];have x4:=x3.put (wv':=wv) (gv':=.ref h) (rv':=.non) (s':={s with gs:=some (gTab s.p s.L s.W s.E s.es,B6 s.W s.es),wr:=none}) rfl rfl rfl rfl rfl rfl rfl x3.gv rfl;have f4:=(f2.seq (Frm.of s3 a ad)).seq (x3.putF (.ins ag ad.dx (afl s.p wv s.L s.most ad.b ad.pw ad.pe ad.pg (.ref h) .non)));refine⟨_,_,_,x4.ob,EE.cl_j0,EE.n_SumAsker_wrong,_,Kq ..,?_⟩;rw[if_pos rfl];refine⟨_,_,_,x4.ob,EE.cl_j0,EE.n_SumAsker_guess,_,Kp ..,by lia,fun p hp=>?_⟩;refine k _ _ ?_ (f4.seq (Frm.of (Same.new hp) a ad)) ?_ ?_
   ·rw[el];exact⟨_,_,_,_,_,x4.same (Same.new hp)⟩
   ·rw[el];exact fun z=>by cases z
   ·rw[el];intro y z;cases z;refine⟨p,h,rfl,Ab,?_⟩;obtain⟨h',e',hh'⟩:=(x4.same (Same.new hp)).gv;cases e';exact hh'
  ·have el:Jf s=({s with gs:=some (gTab s.p s.L s.W s.E s.es,B6 s.W s.es),wr:=some v},none):=by
    unfold Jf;rw[hv]
   have x3:=x2.same s3;refine⟨_,_,_,x3.ob,EE.cl_j0,EE.n_SumAsker_wrong,Jh ..,?_⟩;rw[K9];have x4:=x3.put (wv':=wv) (gv':=.ref h) (rv':=.ref t) (s':={s with gs:=some (gTab s.p s.L s.W s.E s.es,B6 s.W s.es),wr:=some v}) rfl rfl rfl rfl rfl rfl rfl x3.gv ⟨t,rfl,ht⟩;have f4:=(f2.seq (Frm.of s3 a ad)).seq (x3.putF (.ins ag ad.dx (afl s.p wv s.L s.most ad.b ad.pw ad.pe ad.pg (.ref h) (.ref t))));refine⟨_,_,_,x4.ob,EE.cl_j0,EE.n_SumAsker_wrong,_,Kq ..,?_⟩;rw[if_neg (by simp)];refine k _ _ ?_ f4 ?_ ?_
   ·rw[el];exact⟨_,_,_,_,_,x4⟩
   ·rw[el];exact fun _=>rfl
   ·rw[el];exact fun y z=>by cases z
def Qq (hW:W.length<=100)(hL:L<=6)(hE:E.length<=100):(Jr (Eo L W) E).length<=70000:=by
 unfold Jr;have h1:=A9 ((Eo L W).flatMap fun r=>E.map (r ++ ·)) [];have h2:((Eo L W).flatMap fun r=>E.map (r ++ ·)).length=(Eo L W).length*E.length:=by
  rw[xZ_];generalize Eo L W=l
  induction l with
  |nil=>simp
  |cons a l ih=>rw[jP_,List.sum_cons,ih,ja_,jV_,pZ];lia
 have h3:=Sd L W;have h4:W.length*L<=100*6:=qJ_ hW hL;have h5:(Eo L W).length*E.length<=700*100:=qJ_ s!"" hE;rw[h2,xl_]at h1;lia
noncomputable def Sq (K:α3)(CA CB:Addr):Sp:=fun vs H Q _=>∃(a tw te:Addr) (ad:AD) (s:AS) (wv:V) (bE e:α2),vs=[.ref a,.ref tw,.ref te]/\Asks K CA CB H a ad s wv/\Sz s/\H tw=some (.tup (bE.map V.int))/\bE.length<=60/\H te=some (.tup (e.map V.int))/\e.length<=500/\∀az H' r,Asks K CA CB H' a az (Ij s bE e).1 wv->Frm H H' a ad->AdOk H ad az->((Ij s bE e).2=none->r=.non)->(∀x,(Ij s bE e).2=some x->A7 K H' s.p s.L r x)->Q r H'
def Bo:⋯ EE.j37 3 ["self","way","end"] (Sq K ag aj):=by
 delta EE.j37 He
 ·obtain⟨a,tw,te,ad,s,wv,bE,e,rfl,_⟩:=h;rfl
 ·obtain⟨a,tw,te,ad,s,wv,bE,e,rfl,⟨gv,rv,zs,ys,us,x⟩,sz,cV,bB,ju,eS,k⟩:=h;have hl:=Al;have w1:=sz.w.1;have e1:=sz.e.1;refine⟨_,(CS (B8 (pvD 0) Bw rfl)
   (CS (AB (M6 qi_ qs_ qt_ Dv (Ax (pvD 0) rfl) (Aa (pvD 2) Ad)))
   (Ac (AZ (ptT (Ap (opE Gw) (AK (lenD AG) (by rfl) EE.len qm_ (Aa (Ax (pvD 0) rfl) Ad)) (Ax (pvD 0) rfl) (Av _)))
   (Ae (Am (Ce (Aa AA (Aa (pvD 1) Ad)))))
   Au)
   (Ac (AB (M6 qi_ qs_ qt_ Dv (Ax (pvD 0) rfl) (Aa (pvD 1) Ad)))
   (Ac (AB (Bh (pvD 0) EE.cl_j0 EE.j29.m (Cp EE).g hr.d (Cp EE).b .nil An (Aa (Ar Xe (Ax (pvD 0) rfl) (Af (TZ EE) hr.d An (Aa (Ax (pvD 0) rfl) (Aa (Ax (pvD 0) rfl) (Aa (Ax (pvD 0) rfl) Ad))))) Ad)))
   (Ae (Am Bw))))))),?_⟩
  nofun;refine⟨_,_,_,x.ob,EE.cl_j0,EE.n_SumAsker_wrong,Jh ..,?_⟩;rw[K9];have x3:=x.put (wv':=wv) (gv':=gv) (rv':=.non) (s':={s with wr:=none}) rfl rfl rfl rfl rfl rfl rfl x.gv rfl;have f3:=x.putF (.ins ag ad.dx (afl s.p wv s.L s.most ad.b ad.pw ad.pe ad.pg gv .non));have lH:=x.tkob (.ins ag ad.dx (afl s.p wv s.L s.most ad.b ad.pw ad.pe ad.pg gv .non));have hte3:=lH _ _ ju;have i6:=lH _ _ cV;generalize upd H a (.ins ag ad.dx (afl s.p wv s.L s.most ad.b ad.pw ad.pe ad.pg gv .non))=H3 at x3 f3 lH hte3 i6 ⊢;refine Cf ?_;nofun;have x4:=x3.putE (x3.eW.snoc hte3);have f4:=f3.seq (Frm.put (a:=a) (o:=.lst (ys++[.ref te])) (.inr (.inl rfl)) ⟨_,x3.e⟩);have nk:=TK.lst x3.e (o:=.lst (ys++[.ref te]));have k1:=AdOk.refl H ad;refine⟨_,_,_,x3.ob,EE.cl_j0,EE.n_SumAsker_ends,_,MN ..,.inl ⟨rfl,_,SqL.of x3.e⟩,ad.pe,rfl,_,x3.e,by rw[x3.eW.1];show s.E.length<_;lia,?_⟩;generalize upd H3 ad.pe (.lst (ys++[.ref te]))=H4 at x4 f4 nk ⊢;refine Cf ?_;nofun;refine⟨_,_,_,x4.ob,EE.cl_j0,EE.n_SumAsker_ways,_,E4 ..,ad.pw,rfl,_,.inl (SqL.of x4.w),_,_,_,x4.ob,EE.cl_j0,EE.n_SumAsker_most,_,WJ ..,rfl,?_⟩;rw[x4.wW.1];by_cases hm:s.W.length=s.most
  ·rw[if_pos (by rw[<-hm])];have el:Ij s bE e=({s with wr:=none,E:=s.E++[e]},some (.spent bE)):=by unfold Ij;rw[if_pos hm]
   refine⟨by lia,fun p hp=>?_⟩;refine k ad _ _ ?_ (f4.seq (Frm.of (Same.new hp) a ad)) k1 ?_ ?_
   ·rw[el];exact⟨_,_,_,_,_,x4.same (Same.new hp)⟩
   ·rw[el];exact fun z=>by cases z
   ·rw[el];intro y z;cases z;exact⟨p,tw,rfl,Ab,Same.new hp _ _ (nk _ _ i6)⟩
  ·rw[if_neg (fun z=>hm (by have:=V.int.inj z;have h2:((s.W.length:Nat):Int)=s.most:=this;lia))];have el:Ij s bE e=({s with wr:=none,W:=s.W++[bE],E:=s.E++[e],G:=Co s.es (need s.L (s.W++[bE]) (s.E++[e]))},none):=by unfold Ij;rw[if_neg hm]
   have x5:=x4.putW (x4.wW.snoc (nk _ _ i6));have f5:=f4.seq (Frm.put (a:=a) (o:=.lst (zs++[.ref tw])) (.inl rfl) ⟨_,x4.w⟩);refine⟨_,_,_,x4.ob,EE.cl_j0,EE.n_SumAsker_ways,_,E4 ..,.inl ⟨rfl,_,SqL.of x4.w⟩,ad.pw,rfl,_,x4.w,by rw[x4.wW.1];show s.W.length<_;lia,?_⟩;generalize upd H4 ad.pw (HO.lst (zs++[V.ref tw]))=H5 at x5 f5 ⊢;have hWl:(s.W++[bE]).length=s.W.length+1:=by simp
   have hEl:(s.E++[e]).length=s.E.length+1:=by simp
   refine⟨_,_,x5.ob,by kernel_rfl,_,_,_,x5.ob,EE.cl_j0,EE.n_SumAsker_ways,_,E4 ..,_,_,_,x5.ob,EE.cl_j0,EE.n_SumAsker_letters,_,LR ..,_,_,_,x5.ob,EE.cl_j0,EE.n_SumAsker_ways,_,E4 ..,_,_,_,x5.ob,EE.cl_j0,EE.n_SumAsker_ends,_,MN ..,s.L,ad.pw,ad.pe,_,_,s.W++[bE],s.E++[e],rfl,sz.l6,SqL.of x5.w,x5.wW,by lia,fun v hv=>?_,SqL.of x5.e,x5.eW,by lia,fun v hv=>?_,fun l rs H6 s6 hlN hl6 jB=>?_⟩
   ·rcases jJ_.mp hv with hv|hv
    ·have:=sz.w.2 v hv;lia
    ·rw[ji_.mp hv];lia
   ·rcases jJ_.mp hv with hv|hv
    ·exact sz.e.2 v hv
    ·rw[ji_.mp hv];exact eS
   ·have x6:=x5.same s6;have bh:(Jr (Eo s.L (s.W++[bE])) (s.E++[e])).length<=70000:=Qq s!"" sz.l6 s!"";refine⟨ad.pw,rfl,l,rfl,_,x6.w,_,hl6,by rw[x6.wW.1,jB.1];show (s.W++[bE]).length+_<=_;lia,fun p hp=>?_⟩;have s7:=Same.new hp (o:=.lst ((zs++[V.ref tw])++rs));have x7:=x6.same s7;have hn:Ao K (upd H6 p (.lst ((zs++[V.ref tw])++rs))) ((zs++[V.ref tw])++rs) (need s.L (s.W++[bE]) (s.E++[e])):=(x6.wW.append jB).mono (TK.of s7);refine⟨a,p,ad,_,wv,_,_,rfl,⟨_,_,_,_,_,x7⟩,SqL.of Ab,hn,?_,fun az H8 x8 f8 k8=>?_⟩
    ·unfold need;rw[ju_];lia
    ·have f7:=f5.seq (Frm.of (s6.trans s7) a ad);refine k az H8 _ ?_ (f7.trans k1 f8) (AdOk.trans f7 k1 k8) ?_ ?_
     ·rw[el];exact x8
     ·rw[el];exact fun _=>rfl
     ·rw[el];exact fun y z=>by cases z
def OF {B:Nat} (o:OkX none B s) (hv:s.wr=some v)(hg:s.gs=some (t,l))(dO:¬ s.W.length=0):0<v.length/\∀lo,GA s.p s.es s.W t v (W71 s.p t l v) v.length 0 v.length=.fin lo->lo<v.length/\AllT s.es s.W (v.drop (lo+1))/\∃i,Lw s.p s.es s.W t v lo=some i/\i<s.W.length:=by
 obtain⟨cc,mS,t',l',q,e1,g,hq,aC⟩:=o.wr v hv;rw[hg]at e1;cases e1;have tb:=o.tb;have qv:=tb.val hq;have fF:s.W ≠ []:=fun z=>dO (by rw[z];rfl);obtain⟨ha,hn⟩:=NB (most:=s.most) g;have js:dotW (R71 s.p t s.W.length v) l%s.p=W71 s.p t l v:=by unfold W71;rw[g.ll,Be]
 have fG:0<v.length:=by
  refine pU fun z=>?_;have:v=[]:=jN_.mp z;subst this;have aF:0<s.W.length:=by lia
  obtain⟨m,m1,m2⟩:=g.lt 0 _ (jc_ aF);rw[tb.w0 _ (jc_ aF),hq]at m2;cases m2;refine aC ?_;rw[<-js];have hu:dotW (R71 s.p t s.W.length []) l=l.getD 0 0:=by
   rw[Be];exact Ib _ g.ll
  rw[hu,jb_,m1];show q=q%s.p;rw[j0_ qv.1 qv.2]
 have key:=MK (p:=s.p) (es:=s.es) (W:=s.W) (t:=t) (v:=v) (goal:=W71 s.p t l v) v.length 0 v.length s!"" fG (jf_ _) (.inl ⟨rfl,q,hq,aC⟩) ⟨by rw[qM_];exact ha,by rw[qM_,jG_,hn];exact js⟩;refine⟨fG,fun lo hh=>?_⟩;rw[hh]at key;obtain⟨k1,k2,k3⟩:=key;obtain⟨i,x,w,r,tx,m,n1,n2,n3,n4,n5,n6,n7,n8⟩:=Vt tb g cc fF k1 k2 k3;exact⟨k1,k3.1,i,n1,(je_.mp n4).1⟩
noncomputable def MQ (K:α3)(CA CB:Addr)(pre:AS->Prop)(f:AS->AS×Option Wish):Sp:=fun vs H Q _=>∃(a:Addr) (ad:AD) (s:AS) (wv:V) (B:Nat),vs=[.ref a]/\Asks K CA CB H a ad s wv/\OkX none B s/\Bd B s/\s.es.length<=1000/\pre s/\∀az H' r,Asks K CA CB H' a az (f s).1 wv->Frm H H' a ad->AdOk H ad az->((f s).2=none->r=.non)->(∀x,(f s).2=some x->A7 K H' s.p s.L r x)->Q r H'
def BQ:⋯ EE.j27 9 ["self"] (MQ K ag aj (fun s=>s.G=[]/\s.wr=none) Jf):=by
 delta EE.j27 Ec
 ·obtain⟨a,ad,s,wv,B,rfl,_⟩:=h;rfl
 ·obtain⟨a,ad,s,wv,B,rfl,⟨gv,rv,zs,ys,us,x⟩,ok,bd,hz,⟨hG,cZ⟩,k⟩:=h;refine⟨_,(Ae (Am (AQ (pvD 0) EE.cl_j0 EE.j26.m (CZ EE).g hr.d (CZ EE).b .nil An))),?_⟩;nofun;exact⟨_,_,x.ob,by kernel_rfl,a,ad,s,wv,B,rfl,⟨_,_,_,_,_,x⟩,ok,hG,cZ,bd,hz,fun H' r y f h1 h2=>k ad H' r y f (AdOk.refl H ad) h1 h2⟩
def Ez:⋯ EE.j38 6 ["self"] (MQ K ag aj (fun s=>s.G=[]/\s.wr≠none) Ct):=by
 delta EE.j38 BG
 ·obtain⟨a,ad,s,wv,B,rfl,_⟩:=h;rfl
 ·obtain⟨a,ad,s,wv,B,rfl,⟨gv,rv,zs,ys,us,x⟩,ok,bd,hz,⟨hG,cZ⟩,k⟩:=h;have hl:=Al;have sz:=ok.sz bd;have tb:=ok.tb;have w1:=sz.w.1;have e1:=sz.e.1;obtain⟨v,hv⟩:=Option.ne_none_iff_exists'.mp cZ;obtain⟨cc,mS,t,l,q0,i7,g,bC,aC⟩:=ok.wr v hv;have en:Ct s=F4 s v t l:=by
   unfold Ct;rw[hG,hv,i7]
  rw[en]at k;have wf:=g.wf tb;have ku:=x.gv;rw[i7]at ku;obtain⟨h,rfl,hh⟩:=ku;have fJ:=x.rv;rw[hv]at fJ;obtain⟨tv,rfl,ht⟩:=fJ;have hvl2:v.length<=500:=by
   have h2:=tb.wn;have h3:=tb.sq;have hm:(s.most+1)*s.E.length<=(s.most+1)*(s.most+1):=xX_ _ s!"";unfold Bd at bd;lia
  refine⟨_,(Ac (Ak (i:=1) BG.nd (Ax (pvD 0) rfl))
   (CS (AZ (ptT (Ap (opE Gw) (AK (lenD AG) (by rfl) EE.len qm_ (Aa (Ax (pvD 0) rfl) Ad)) Ai (Av _)))
   (Ae (Am (Bh (pvD 0) EE.cl_j0 EE.j37.m (Bo EE).g hr.d (Bo EE).b .nil An (Aa (Ce Ad) (Aa (pvD 1) Ad)))))
   Au)
   (CS (Ak (i:=2) BG.nd (Af (Lx EE) hr.d An (Aa (Ax (pvD 0) rfl) (Aa (Ax (pvD 0) rfl) (Aa (Ax (pvD 0) rfl) (Aa (pvD 1) Ad))))))
   (CS (AZ (ptT (Ap (opE Gw) (As (ixTD Ay) (pvD 2) Ai) AA (Av _)))
   (Ac (AB (Bh (pvD 0) EE.cl_j0 EE.j29.m (Cp EE).g hr.d (Cp EE).b .nil An (Aa (As (ixTD Ay) (pvD 2) Ai) Ad)))
   (Ae (Am Bw)))
   Au)
   (Ac (Ak (i:=3) BG.nd (As (ixTD Ay) (pvD 2) Ai))
   (Ae (Am (Bh (pvD 0) EE.cl_j0 EE.j37.m (Bo EE).g hr.d (Bo EE).b .nil An (Aa (Af (MM EE) hr.d An (Aa (Ax (pvD 0) rfl) (Aa (Ax (pvD 0) rfl) (Aa (Ax (pvD 0) rfl) (Aa (pvD 1) (Aa (pvD 3) Ad)))))) (Aa (BS F3 (pvD 1) (C2 (Ar (opD0 Bl) (pvD 3) Ai)) C1) Ad)))))))))),?_⟩
  nofun;refine⟨_,_,_,x.ob,EE.cl_j0,EE.n_SumAsker_wrong,_,Kq ..,_,_,_,x.ob,EE.cl_j0,EE.n_SumAsker_ways,_,E4 ..,ad.pw,rfl,_,.inl (SqL.of x.w),?_⟩;rw[x.wW.1];have bz:∀t'∈t,∀r∈t',∀y∈r,0<=y/\y<s.p:=fun t' aT r hr=>((g.tt t' aT).2 r hr).2;have cS:=hh.sum;rw[g.ll]at wf cS;by_cases dO:s.W.length=0
  ·rw[if_pos s!""];have el:F4 s v t l=Ij s [] v:=by unfold F4;rw[if_pos dO]
   rw[el]at k;refine⟨_,_,x.ob,by kernel_rfl,by lia,fun p hp=>?_⟩;have s1:=Same.new hp (o:=.tup []);exact⟨a,p,tv,ad,s,wv,[],v,rfl,⟨_,_,_,_,_,x.same s1⟩,sz,Ab,by simp,s1 _ _ ht,hvl2,fun az H' r y f k' h1 h2=>k az H' r y ((Frm.of s1 a ad).trans (AdOk.refl H ad) f) (AdOk.trans (Frm.of s1 a ad) (AdOk.refl H ad) k') h1 h2⟩
  ·rw[if_neg s!""];refine Cf ?_;nofun;obtain⟨fG,hfin⟩:=OF ok hv i7 dO;refine⟨_,_,_,x.ob,EE.cl_j0,EE.n_SumAsker_book,_,E3 ..,_,_,_,x.ob,EE.cl_j0,EE.n_SumAsker_ways,_,E4 ..,_,_,_,x.ob,EE.cl_j0,EE.n_SumAsker_guess,_,Kp ..,ad.b,ad.d,ad.pw,h,tv,s.p,s.L,s.W.length,s.es,zs,s.W,t,l,v,rfl,x.bk,x.w,x.wW,rfl,by lia,sz.w.2,fun e he=>(tb.bW e he).2,cS,wf,wf.l.2,ht,cc,fG,by lia,fun H1 s1=>⟨fun aK q ts t' hc hq jQ aT=>?_,fun lo t' hc aT=>?_⟩⟩
   ·have el:F4 s v t l=({s with G:=Co s.es (s.W.map (· ++ v.drop aK))},none):=by unfold F4;rw[if_neg dO,hc]
    have x1:=x.same s1;refine Cf ?_;nofun;refine⟨_,SqT.of aT,_,rfl,rfl,?_⟩;rw[if_pos rfl];refine⟨_,_,x1.ob,by kernel_rfl,_,SqT.of aT,_,rfl,a,q,ad,s,wv,ts,_,rfl,⟨_,_,_,_,_,x1⟩,SqL.of hq,jQ,by rw[ja_];lia,fun az H2 y f k'=>?_⟩;refine k az H2 _ ?_ ((Frm.of s1 a ad).trans (AdOk.refl H ad) f) (AdOk.trans (Frm.of s1 a ad) (AdOk.refl H ad) k') ?_ ?_
    ·rw[el];exact y
    ·rw[el];exact fun _=>rfl
    ·rw[el];exact fun y z=>by cases z
   ·have el:F4 s v t l=Ij s (LP s t v lo) (v.drop (lo+1)):=by unfold F4;rw[if_neg dO,hc]
    rw[el]at k;have x1:=x.same s1;obtain⟨fh,aA,i,hi,hiW⟩:=hfin lo hc;refine Cf ?_;nofun;refine⟨_,SqT.of aT,_,rfl,rfl,?_⟩;rw[if_neg (fun z=>absurd (V.str.inj z) (by decide +kernel))];refine Cf ?_;nofun;refine⟨_,SqT.of aT,_,rfl,_,_,x1.ob,by kernel_rfl,_,_,_,x1.ob,EE.cl_j0,EE.n_SumAsker_book,_,E3 ..,_,_,_,x1.ob,EE.cl_j0,EE.n_SumAsker_ways,_,E4 ..,_,_,_,x1.ob,EE.cl_j0,EE.n_SumAsker_guess,_,Kp ..,ad.b,ad.d,ad.pw,h,tv,s.p,s.L,s.W.length,lo,s.es,zs,s.W,t,l,v,rfl,x1.bk,x1.w,x1.wW,rfl,sz.w.2,cS.mono s1,wf,bz,s1 _ _ ht,cc,fh,by lia,aA,fun H2 s2=>⟨fun hn=>(by rw[hi]at hn;cases hn),fun i' u jj hu=>?_⟩⟩;rw[hi]at jj;cases jj;have bj:=s1.trans s2;refine⟨lo,rfl,tv,_,rfl,bj _ _ ht,fun te H3 s3 ju=>?_⟩;rw[show (lo:Int)+1=((lo+1:Nat):Int) by lia,CL]at ju;have dP:=bj.trans s3;have ea:LP s t v lo=s.W.getD i []++[v.getD lo 0]:=by unfold LP;rw[hi];rfl
    have bO:(s.W.getD i []).length<=50:=by
     rw[jb_,jc_ hiW];exact sz.w.2 _ (jR_ hiW)
    exact⟨a,u,te,ad,s,wv,_,_,rfl,⟨_,_,_,_,_,x.same dP⟩,sz,by rw[ea];exact s3 _ _ hu,by rw[ea,ju_,jU_];lia,ju,by rw[qj_];lia,fun az H' r y f k' h1 h2=>k az H' r y ((Frm.of dP a ad).trans (AdOk.refl H ad) f) (AdOk.trans (Frm.of dP a ad) (AdOk.refl H ad) k') h1 h2⟩
def BJ:⋯ EE.j39 10 ["self"] (MQ K ag aj (fun _=>True) Ct):=by
 delta EE.j39 IY
 ·obtain⟨a,ad,s,wv,B,rfl,_⟩:=h;rfl
 ·obtain⟨a,ad,s,wv,B,rfl,⟨gv,rv,zs,ys,us,x⟩,ok,bd,hz,_,k⟩:=h;have hl:=Al;refine⟨_,(Ac (AZ (ptT (Ap (opD0 VF) (AK (lenD AG) (by rfl) EE.len qm_ (Aa (Ax (pvD 0) rfl) Ad)) Ai (Av _)))
   (Ae (Am (Ce (Aa AA (Aa (M6 qi_ rD rE SY (Ax (pvD 0) rfl) (Aa Ai Ad)) Ad)))))
   Au)
   (Ac (AZ (ptT (Ap QE (Ax (pvD 0) rfl) Bw (Av _)))
   (Ae (Am (AQ (pvD 0) EE.cl_j0 EE.j38.m (Ez EE).g hr.d (Ez EE).b .nil An)))
   Au)
   (Ae (Am (AQ (pvD 0) EE.cl_j0 EE.j27.m (BQ EE).g hr.d (BQ EE).b .nil An))))),?_⟩
  nofun;refine⟨_,_,_,x.ob,EE.cl_j0,EE.n_SumAsker_gaps,_,Sj ..,ad.pg,rfl,_,.inl (SqL.of x.g),?_⟩;cases hG:s.G with
  |cons c r=>
   have js:us.length=r.length+1:=by rw[x.gW.1,hG];rfl
   have jt:=x.gW;rw[hG]at jt;obtain⟨tc,g1,g2⟩:=jt.2 0 c rfl;rw[if_pos s!""];have el:Ct s=({s with G:=r},some (.ask c)):=by
    unfold Ct;rw[hG]
   have x2:=x.putG (Ao.tail39 jt);have f2:Frm H (upd H ad.pg (.lst (us.eraseIdx 0))) a ad:=Frm.put (.inr (.inr (.inl rfl))) ⟨_,x.g⟩;have tk2:=TK.lst x.g (o:=.lst (us.eraseIdx 0));refine⟨_,_,_,x.ob,EE.cl_j0,EE.n_SumAsker_gaps,_,Sj ..,.inl ⟨rfl,_,SqL.of x.g⟩,ad.pg,rfl,_,x.g,by decide,by decide,0,Yp (i:=0) s!"",_,g1,by lia,fun p hp=>?_⟩;refine k ad _ _ ?_ (f2.seq (Frm.of (Same.new hp) a ad)) (AdOk.refl H ad) ?_ ?_
   ·rw[el];exact⟨_,_,_,_,_,x2.same (Same.new hp)⟩
   ·rw[el];exact fun z=>by cases z
   ·rw[el];intro y z;cases z;exact⟨p,tc,rfl,Ab,Same.new hp _ _ (tk2 _ _ g2)⟩
  |nil=>
   rw[if_neg (by rw[x.gW.1,hG];simp)];refine⟨_,_,_,x.ob,EE.cl_j0,EE.n_SumAsker_wrong,_,Kq ..,?_⟩;cases cZ:s.wr with
   |none=>
    have fJ:=x.rv;rw[cZ]at fJ;have fJ:rv=.non:=fJ;subst fJ;have en:Ct s=Jf s:=by
     unfold Ct;rw[hG,cZ]
    rw[en]at k;rw[if_neg (by simp)];exact⟨_,_,x.ob,by kernel_rfl,a,ad,s,wv,B,rfl,⟨_,_,_,_,_,x⟩,ok,bd,hz,⟨hG,cZ⟩,k⟩
   |some v=>
    have fJ:=x.rv;rw[cZ]at fJ;obtain⟨t,rfl,ht⟩:=fJ;rw[if_pos (by simp)];exact⟨_,_,x.ob,by kernel_rfl,a,ad,s,wv,B,rfl,⟨_,_,_,_,_,x⟩,ok,bd,hz,⟨hG,by rw[cZ];simp⟩,k⟩
noncomputable def WK (K:α3)(CA CB:Addr):Sp:=fun vs H Q _=>∃(a:Addr) (ad:AD) (s:AS) (wv:V) (B:Nat),vs=[.ref a]/\Asks K CA CB H a ad s wv/\OkX none B s/\Bd B s/\s.es.length<=1000/\∀az H' s' x wv',Goes s s' x->Asks K CA CB H' a az s' wv'->A7 K H' s.p s.L wv' x->Frm H H' a ad->AdOk H ad az->Q .non H'
def Bq:⋯ EE.j40 11 ["self"] (WK K ag aj):=by
 delta EE.j40 Lp
 ·obtain⟨a,ad,s,wv,B,rfl,_⟩:=h;rfl
 ·obtain⟨a,ad,s,wv,B,rfl,⟨gv,rv,zs,ys,us,x⟩,ok,bd,hz,k⟩:=h;have hl:=Al;refine⟨_,(Ac (B8 (pvD 0) (AQ (pvD 0) EE.cl_j0 EE.j39.m (BJ EE).g hr.d (BJ EE).b .nil An) rfl)
   (Ae (Gm jL_ (ptT (Ap MZ (Ax (pvD 0) rfl) Bw (Av _)))
   (Ae (B8 (pvD 0) (AQ (pvD 0) EE.cl_j0 EE.j39.m (BJ EE).g hr.d (BJ EE).b .nil An) rfl))))),?_⟩
  nofun;obtain⟨Pv,aq⟩:∃Pv:Nat->St->Hp->Prop,∀n af H',Pv n af H'↔(∃(cE:AD) (s1:AS) (gA:V),Asks K ag aj H' a cE s1 gA/\Frm H H' a ad/\AdOk H ad cE/\af=[some (.ref a)]/\((gA=.non/\OkX none B s1/\Kept s s1/\(∀s' y,Goes s1 s' y->Goes s s' y)/\n=mu s1+1) \/ ∃y,A7 K H' s.p s.L gA y/\Goes s s1 y/\n=0)):=⟨_,fun _ _ _=>qE_⟩;have step:∀(s1:AS) (cE:AD) (gA:V) (H1:Hp) (M:Nat),Asks K ag aj H1 a cE s1 gA->Frm H H1 a ad->AdOk H ad cE->OkX none B s1->Kept s s1->(∀s' y,Goes s1 s' y->Goes s s' y)->mu s1<=M->∃x x_1,H1 a=some (HO.ins ag x x_1)/\nX ("next_wish" : Str) x_1=none/\MQ K ag aj (fun x=>True) Ct [V.ref a] H1 (fun y H1=>∃x x_2 nq,H1 a=some (HO.ins x x_2 nq)/\Cls K x/\BK K x ("wish" : Str)/\nq.length<1000/\∃m',m'<M+1/\Pv m' [some (V.ref a)] (upd H1 a (HO.ins x x_2 (putF ("wish" : Str) y nq)))) E0:=by
   rintro s1 cE gA H1 M ⟨gv,rv,zs,ys,us,x1⟩ f1 k1 ie fK jC hM;refine⟨_,_,x1.ob,by kernel_rfl,a,cE,s1,gA,B,rfl,⟨_,_,_,_,_,x1⟩,ie,by unfold Bd at bd ⊢;rw[fK.m];exact bd,by rw[fK.e];exact hz,trivial,fun bR H2 r x2 f2 k2 hN hS=>?_⟩;obtain⟨nr,eL,zs2,ys2,us2,x2⟩:=x2;refine⟨_,_,_,x2.ob,EE.cl_j0,EE.n_SumAsker_wish,Jh ..,?_⟩;rw[Po];have x3:=x2.put (wv':=r) (gv':=nr) (rv':=eL) (s':=(Ct s1).1) rfl rfl rfl rfl rfl rfl rfl x2.gv x2.rv;have f3:=(f1.trans k1 f2).trans (AdOk.trans f1 k1 k2) (x2.putF (.ins ag bR.dx (afl (Ct s1).1.p r (Ct s1).1.L (Ct s1).1.most bR.b bR.pw bR.pe bR.pg nr eL)));have tk:=x2.tkob (.ins ag bR.dx (afl (Ct s1).1.p r (Ct s1).1.L (Ct s1).1.most bR.b bR.pw bR.pe bR.pg nr eL));have k3:=AdOk.trans f1 k1 k2;cases hn:(Ct s1).2 with
   |none=>
    have e1:Ct s1=((Ct s1).1,none):=by rw[<-hn]
    obtain⟨kx,lI,hmu⟩:=(OD ie).1 _ e1;refine⟨mu (Ct s1).1+1,by lia,(aq _ _ _).mpr ⟨bR,_,r,⟨_,_,_,_,_,x3⟩,f3,k3,rfl,.inl ⟨hN hn,kx,⟨lI.q.trans fK.q,lI.l.trans fK.l,lI.m.trans fK.m,lI.e.trans fK.e⟩,fun s' y hy=>jC s' y (.more e1 hy),rfl⟩⟩⟩
   |some y=>
    have e1:Ct s1=((Ct s1).1,some y):=by rw[<-hn]
    have hw:=(hS y hn).mono tk;rw[fK.q,fK.l]at hw;exact⟨0,by lia,(aq _ _ _).mpr ⟨bR,_,r,⟨_,_,_,_,_,x3⟩,f3,k3,rfl,.inr ⟨y,hw,jC _ _ (.stop e1),rfl⟩⟩⟩
  obtain⟨c1,c2,c3,c4,c5⟩:=step s ad wv H (mu s+1) ⟨_,_,_,_,_,x⟩ (Frm.of (Same.refl _) a ad) (AdOk.refl H ad) ok ⟨rfl,rfl,rfl,rfl⟩ (fun _ _ z=>z) s!"";refine⟨c1,c2,c3,c4,?_⟩;obtain⟨a',az,s',wv',B',e1,e2,e3,e4,e5,e5',e6⟩:=c5;refine⟨a',az,s',wv',B',e1,e2,e3,e4,e5,e5',fun bR H2 r x2 f2 k2 hN hS=>?_⟩;obtain⟨d1,d2,d3,d4,d5,d6,d7,m',_,d8⟩:=e6 bR H2 r x2 f2 k2 hN hS;refine⟨d1,d2,d3,d4,d5,d6,d7,LI Pv ⟨m',d8⟩ fun n af H' h'=>?_⟩;obtain⟨cE,s1,gA,⟨gv,rv,zs,ys,us,x1⟩,f1,k1,rfl,hh⟩:=(aq _ _ _).mp h';nofun;refine⟨_,_,_,x1.ob,EE.cl_j0,EE.n_SumAsker_wish,_,Hq ..,?_⟩;rcases hh with ⟨rfl,ie,fK,jC,hn⟩|⟨y,hw,jC,hn⟩
  ·rw[if_pos rfl];refine⟨fun ai H2=>∃m',m'<n/\Pv m' ai H2,fun _ _ z=>z,?_⟩;subst hn;exact step s1 cE _ H' (mu s1) ⟨_,_,_,_,_,x1⟩ f1 k1 ie fK jC s!""
  ·obtain⟨t,u,e,_⟩:=id hw;rw[if_neg (by rw[e];simp)];exact k cE _ s1 y gA jC ⟨_,_,_,_,_,x1⟩ hw f1 k1
noncomputable def Vw (K:α3)(CA CB:Addr)(H:Hp)(a:Addr)(ad:AD)(s:AS)(Q:VK):Prop:=∀az H' s' x' wv',Goes s s' x'->Asks K CA CB H' a az s' wv'->A7 K H' s.p s.L wv' x'->Frm H H' a ad->AdOk H ad az->Q .non H'
noncomputable def Sr (K:α3)(CA CB OT BM:Addr):Sp:=fun vs H Q E=>∃(a:Addr) (ad:AD) (s:AS) (wv:V) (x:Wish) (B:Nat) (m:Int),vs=[.ref a,.int m]/\Asks K CA CB H a ad s wv/\A7 K H s.p s.L wv x/\WOk B s x/\Bd B s/\s.es.length<=900/\(x.tag ≠ "ask" -> E (.ref OT) none H)/\∀c,x=.ask c->(¬ (0<=m/\m<s.p)->∀H',Same H H'->E (.ref BM) none H')/\(0<=m->m<s.p->Vw K CA CB H a ad {s with es:=s.es++[(c,m)]} Q)
def DK:CalH P w mg base (CXe P w) EE.j41 12 ["self","number"] (Sr K ag aj aw av):=by
 refine HG.okE EE.j41 Hf (fun vs H Q E h=>?_) (fun ao A outer s H vs Q E hr h=>?_)
 ·obtain⟨a,ad,s,wv,x,B,m,rfl,_⟩:=h;rfl
 ·obtain⟨a,ad,s,wv,y,B,m,rfl,⟨gv,rv,zs,ys,us,x⟩,hw,ok,bd,hz,kE,k⟩:=h;have hl:=Al;refine⟨_,(Ac (AB (Bh (pvD 0) EE.cl_j0 EE.j9.m (AW EE).g hr.d (AW EE).b .nil (IS fun _ _ _ h=>h) (Aa AA Ad)))
   (Ac (AB (Bh (Ax (pvD 0) rfl) EE.cl_j3 EE.j8.m (E2 EE).g hr.d (E2 EE).b .nil (IS fun _ _ _ h=>h) (Aa (As (ixTD Ay) (Ax (pvD 0) rfl) Ai) (Aa (pvD 1) Ad))))
   (Ae (AB (AQ (pvD 0) EE.cl_j0 EE.j40.m (Bq EE).g hr.d (Bq EE).b .nil An))))),?_⟩
  nofun;refine⟨_,_,x.ob,by kernel_rfl,a,ad,s,wv,y,"ask",rfl,⟨_,_,_,_,_,x⟩,hw,fun bP=>?_,kE⟩;cases y with
  |shown mm ws=>exact absurd bP (show ¬ ("show" : Str) = "ask" by decide +kernel)
  |done mm ws=>exact absurd bP (show ¬ ("done" : Str) = "ask" by decide +kernel)
  |spent c=>exact absurd bP (show ¬ ("spent" : Str) = "ask" by decide +kernel)
  |ask c=>
   obtain⟨t,u,rfl,ht,hu⟩:=hw;obtain⟨kM,kk⟩:=k c rfl;obtain⟨jD,hn,hc,ak,hg⟩:=ok;have hcw:=hc;obtain⟨eX,hb⟩:=x.bk.ob;have d9:c∉s.es.map (·.1):=fun z=>by
    obtain⟨n,bx⟩:=OC.mp z;rw[hn]at bx;cases bx
   have bh:c.length<=900:=by
    have h2:=jD.tb.wn;have h3:=jD.tb.sq;have h4:(s.most+1)*s.E.length<=(s.most+1)*(s.most+1):=xX_ _ s!"";unfold Bd at bd;split at ak<;>lia
   refine⟨_,_,_,x.ob,EE.cl_j0,EE.n_SumAsker_book,_,E3 ..,ad.b,rfl,_,_,hb,by kernel_rfl,_,_,_,x.ob,EE.cl_j0,EE.n_SumAsker_wish,_,Hq ..,t,rfl,_,SqT.of ht,_,rfl,ad.b,ad.d,u,s.p,s.L,m,c,s.es,rfl,x.bk,hu,bh,by lia,fun z=>(by rw[hcw]at z;cases z),fun _ hm H' s'=>kM hm H' s',fun _ _ _ n bz _ _ _=>absurd (jv_.mpr ⟨_,bz,rfl⟩) d9,fun _ h0 h9 _ H' cO hf=>?_⟩;unfold putE at cO;rw[if_neg d9]at cO;obtain⟨x2,f2,tk2⟩:=x.putB cO hf;exact⟨_,_,x2.ob,by kernel_rfl,a,ad,_,_,B,rfl,⟨_,_,_,_,_,x2⟩,jD.told (fun b hb=>(jt_ hb).symm) d9 hc h0 h9 ak hg,bd,by rw[ju_];show _+1<=_;lia,fun az H3 s' y' wv' go x3 hw3 f3 k3=>kk h0 h9 az H3 s' y' wv' go x3 hw3 (f2.trans (AdOk.refl H ad) f3) (AdOk.trans f2 (AdOk.refl H ad) k3)⟩
noncomputable def Uk (K:α3)(CA CB OT:Addr):Sp:=fun vs H Q E=>∃(a:Addr) (ad:AD) (s:AS) (wv:V) (x:Wish),vs=[.ref a]/\Asks K CA CB H a ad s wv/\A7 K H s.p s.L wv x/\(x.tag ≠ "show" -> E (.ref OT) none H)/\∀mm ws,x=.shown mm ws->∀H' wv',Asks K CA CB H' a ad s wv'->A7 K H' s.p s.L wv' (.done mm ws)->Frm H H' a ad->Q .non H'
def Dr:CalH P w mg base (CXe P w) EE.j45 2 ["self"] (Uk K ag aj aw):=by
 refine HG.okE EE.j45 Mo (fun vs H Q E h=>?_) (fun ao A outer s H vs Q E hr h=>?_)
 ·obtain⟨a,ad,s,wv,x,rfl,_⟩:=h;rfl
 ·obtain⟨a,ad,s,wv,y,rfl,⟨gv,rv,zs,ys,us,x⟩,hw,kE,k⟩:=h;have hl:=Al;refine⟨_,(Ac (AB (Bh (pvD 0) EE.cl_j0 EE.j9.m (AW EE).g hr.d (AW EE).b .nil (IS fun _ _ _ h=>h) (Aa AA Ad)))
   (Ae (B8 (pvD 0) (Ce (Aa AA (Aa (As (ixTD Ay) (Ax (pvD 0) rfl) Ai) Ad))) rfl))),?_⟩
  nofun;refine⟨_,_,x.ob,by kernel_rfl,a,ad,s,wv,y,"show",rfl,⟨_,_,_,_,_,x⟩,hw,fun bP=>?_,kE⟩;cases y with
  |ask c=>exact absurd bP (show ¬ ("ask" : Str) = "show" by decide +kernel)
  |done mm ws=>exact absurd bP (show ¬ ("done" : Str) = "show" by decide +kernel)
  |spent c=>exact absurd bP (show ¬ ("spent" : Str) = "show" by decide +kernel)
  |shown mm ws=>
   obtain⟨t,u,rfl,ht,hu⟩:=hw;refine⟨_,_,_,x.ob,EE.cl_j0,EE.n_SumAsker_wish,_,Hq ..,t,rfl,_,SqT.of ht,_,rfl,by lia,fun p hp=>?_⟩;have x1:=x.same (Same.new hp (o:=.tup [.str "done",.ref u]));refine⟨_,_,_,x1.ob,EE.cl_j0,EE.n_SumAsker_wish,Jh ..,?_⟩;rw[Po];have x2:=x1.put (wv':=.ref p) (gv':=gv) (rv':=rv) (s':=s) rfl rfl rfl rfl rfl rfl rfl x1.gv x1.rv;have tk:=x1.tkob (.ins ag ad.dx (afl s.p (.ref p) s.L s.most ad.b ad.pw ad.pe ad.pg gv rv));exact k mm ws rfl _ _ ⟨_,_,_,_,_,x2⟩ ⟨p,u,rfl,tk _ _ Ab,GuT.mono hu (TK.trans (TK.new hp) tk)⟩ ((Frm.of (Same.new hp) a ad).seq (x1.putF _))
noncomputable def Vx (K:α3)(CA CB OT BW BM ND CO:Addr):Sp:=fun vs H Q E=>∃(a t:Addr) (ad:AD) (s:AS) (wv:V) (x:Wish) (B:Nat) (w:α2) (m:Int),vs=[.ref a,.ref t,.int m]/\Asks K CA CB H a ad s wv/\A7 K H s.p s.L wv x/\WOk B s x/\Bd B s/\s.es.length<=900/\H t=some (.tup (w.map V.int))/\w.length<=600/\(x.tag ≠ "show" -> E (.ref OT) none H)/\∀mm ws,x=.shown mm ws->(isW s.L w=false->∀H',Same H H'->E (.ref BW) none H')/\(isW s.L w=true->¬ (0<=m/\m<s.p)->∀H',Same H H'->E (.ref BM) none H')/\(isW s.L w=true->0<=m->m<s.p->(W71 s.p mm ws w=m->∀H',Same H H'->E (.ref ND) none H')/\(W71 s.p mm ws w≠m->w∈s.es.map (·.1)->∀H',Same H H'->E (.ref CO) none H')/\(W71 s.p mm ws w≠m->w∉s.es.map (·.1)->w.length<=B+(s.most+1)*s.E.length/\Vw K CA CB H a ad {s with es:=s.es++[(w,m)]} Q))
def Cy:CalH P w mg base (CXe P w) EE.j50 12 ["self","word","number"] (Vx K ag aj aw au av ay ax):=by
 refine HG.okE EE.j50 Fs (fun vs H Q E h=>?_) (fun ao A outer s H vs Q E hr h=>?_)
 ·obtain⟨a,t,ad,s,wv,x,B,wd,m,rfl,_⟩:=h;rfl
 ·obtain⟨a,t,ad,s,wv,y,B,wd,m,rfl,⟨gv,rv,zs,ys,us,x⟩,hw,ok,bd,hz,ht,eh,kE,k⟩:=h;have hl:=Al;refine⟨_,(Ac (AB (Bh (pvD 0) EE.cl_j0 EE.j9.m (AW EE).g hr.d (AW EE).b .nil (IS fun _ _ _ h=>h) (Aa AA Ad)))
   (Ac (AB (Bh (Ax (pvD 0) rfl) EE.cl_j3 EE.j7.m (BX EE).g hr.d (BX EE).b .nil (IS fun _ _ _ h=>h) (Aa (pvD 1) (Aa (pvD 2) Ad))))
   (Ac (AZ (ptT (Ap (opE Gw) (Bh (pvD 0) EE.cl_j0 EE.j49.m (D1 EE).g hr.d (D1 EE).b .nil An (Aa (As (ixTD Ay) (Ax (pvD 0) rfl) Ai) (Aa (pvD 1) Ad))) (pvD 2) (Av _)))
   (Ae (Gq EE.m_j2 EE.x_j2 rfl rfl (Aa AA Ad)))
   Au)
   (Ac (AB (Bh (Ax (pvD 0) rfl) EE.cl_j3 EE.j8.m (E2 EE).g hr.d (E2 EE).b .nil (IS fun _ _ _ h=>h) (Aa (pvD 1) (Aa (pvD 2) Ad))))
   (Ae (AB (AQ (pvD 0) EE.cl_j0 EE.j40.m (Bq EE).g hr.d (Bq EE).b .nil An))))))),?_⟩
  nofun;refine⟨_,_,x.ob,by kernel_rfl,a,ad,s,wv,y,"show",rfl,⟨_,_,_,_,_,x⟩,hw,fun bP=>?_,kE⟩;cases y with
  |ask c=>exact absurd bP (show ¬ ("ask" : Str) = "show" by decide +kernel)
  |done mm ws=>exact absurd bP (show ¬ ("done" : Str) = "show" by decide +kernel)
  |spent c=>exact absurd bP (show ¬ ("spent" : Str) = "show" by decide +kernel)
  |shown mm ws=>
   obtain⟨tw,u,rfl,cV,hu⟩:=hw;obtain⟨kW,kM,kk⟩:=k mm ws rfl;obtain⟨dQ,hG,cZ,i7,g,aA⟩:=ok;obtain⟨eX,hb⟩:=x.bk.ob;have wf:=g.wf dQ.tb;refine⟨_,_,_,x.ob,EE.cl_j0,EE.n_SumAsker_book,_,E3 ..,ad.b,rfl,_,_,hb,by kernel_rfl,ad.b,ad.d,t,s.p,s.L,m,wd,s.es,rfl,x.bk,ht,by lia,kW,kM,fun hc h0 h9 H1 s1=>?_⟩;obtain⟨kN,kC,kG⟩:=kk hc h0 h9;have x1:=x.same s1;have bZ:=s1 _ _ ht;refine⟨_,_,x1.ob,by kernel_rfl,_,_,_,x1.ob,EE.cl_j0,EE.n_SumAsker_wish,_,Hq ..,tw,rfl,_,SqT.of (s1 _ _ cV),_,rfl,a,u,t,s.p,s.L,mm,ws,wd,rfl,GuT.mono hu (TK.of s1),wf,SqT.of bZ,eh,hc,fun H2 s2=>⟨rfl,?_⟩⟩;by_cases he:W71 s.p mm ws wd=m
   ·rw[if_pos (by rw[he])];exact⟨by lia,kN he _ (s1.trans s2)⟩
   ·rw[if_neg (fun z=>he (V.int.inj z))];have x2:=x1.same s2;have bj:=s1.trans s2;refine⟨_,_,_,x2.ob,EE.cl_j0,EE.n_SumAsker_book,_,E3 ..,ad.b,rfl,_,_,bj _ _ hb,by kernel_rfl,ad.b,ad.d,t,s.p,s.L,m,wd,s.es,rfl,x2.bk,bj _ _ ht,by lia,by lia,fun z=>(by rw[hc]at z;cases z),fun _ z=>absurd ⟨h0,h9⟩ z,fun _ _ _ n bz _ H3 s3=>kC he (jv_.mpr ⟨_,bz,rfl⟩) H3 (bj.trans s3),fun _ _ _ dD H3 cO hf=>?_⟩;have d9:wd∉s.es.map (·.1):=fun z=>by
     obtain⟨p,hp,rfl⟩:=jv_.mp z;have h1:=dD p.2 hp;exact he ((aA p hp).trans h1)
    unfold putE at cO;rw[if_neg d9]at cO;obtain⟨ak,kT⟩:=kG he d9;obtain⟨x3,f3,lH⟩:=x2.putB cO hf;have f3':=(Frm.of bj a ad).seq f3;exact⟨_,_,x3.ob,by kernel_rfl,a,ad,_,_,B,rfl,⟨_,_,_,_,_,x3⟩,dQ.told (fun b hb=>(by cases hb)) d9 hc h0 h9 s!"" (by rw[hG];simp),bd,(by rw[ju_];show _+1<=_;lia),fun az H4 s' y' wv' go x4 ky f4 k4=>kT az H4 s' y' wv' go x4 ky (f3'.trans (AdOk.refl H ad) f4) (AdOk.trans f3' (AdOk.refl H ad) k4)⟩
def BY:CalH P w mg base (CXe P w) EE.j42 13 ["self","number"] (Sr K ag aj aw av):=by
 refine HG.okE EE.j42 JY (fun vs H Q E h=>?_) (fun ao A outer s H vs Q E hr h=>?_)
 ·obtain⟨a,ad,s,wv,x,B,m,rfl,_⟩:=h;rfl
 ·obtain⟨a,ad,s,wv,y,B,m,rfl,⟨gv,rv,zs,ys,us,x⟩,hw,ok,bd,hz,kE,k⟩:=h;have hl:=Al;refine⟨_,(Ae (AB (Bh (pvD 0) EE.cl_j0 EE.j41.m (DK EE).g hr.d (DK EE).b .nil (IS fun _ _ _ h=>h) (Aa (pvD 1) Ad)))),?_⟩;nofun;exact⟨_,_,x.ob,by kernel_rfl,a,ad,s,wv,y,B,m,rfl,⟨_,_,_,_,_,x⟩,hw,ok,bd,hz,kE,k⟩
def Bv:CalH P w mg base (CXe P w) EE.j51 13 ["self","word","number"] (Vx K ag aj aw au av ay ax):=by
 refine HG.okE EE.j51 HI (fun vs H Q E h=>?_) (fun ao A outer s H vs Q E hr h=>?_)
 ·obtain⟨a,t,ad,s,wv,x,B,wd,m,rfl,_⟩:=h;rfl
 ·obtain⟨a,t,ad,s,wv,y,B,wd,m,rfl,⟨gv,rv,zs,ys,us,x⟩,hw,ok,bd,hz,ht,eh,kE,k⟩:=h;have hl:=Al;refine⟨_,(Ae (AB (Bh (pvD 0) EE.cl_j0 EE.j50.m (Cy EE).g hr.d (Cy EE).b .nil (IS fun _ _ _ h=>h) (Aa (pvD 1) (Aa (pvD 2) Ad))))),?_⟩;nofun;exact⟨_,_,x.ob,by kernel_rfl,a,t,ad,s,wv,y,B,wd,m,rfl,⟨_,_,_,_,_,x⟩,hw,ok,bd,hz,ht,eh,kE,k⟩
noncomputable def Ul (K:α3)(CA CB:Addr):Sp:=fun vs H Q _=>∃(a dx:Addr) (p:Int) (L most:Nat),vs=[.ref a,.int p,.int L,.int most]/\H a=some (.ins CA dx [])/\Pr p/\1<=L/\L<=6/\most<=12/\∀ad H' s x wv,Goes (s071 p L most) s x->Asks K CA CB H' a ad s wv->A7 K H' p L wv x->(∀y o,H y=some o->y≠a->H' y=some o)->(∀y,H' y=none->H y=none)->(H ad.d=none/\H ad.pw=none/\H ad.pe=none/\H ad.pg=none)->Q .non H'
def Fd:⋯ EE.j57 12 ["self","p","letters","most"] (Ul K ag aj):=by
 delta EE.j57 JZ
 ·obtain⟨a,dx,p,L,most,rfl,_⟩:=h;rfl
 ·obtain⟨a,dx,p,L,most,rfl,ha,hp,l1,l6,m12,k⟩:=h;have hl:=Al;refine⟨_,(Ac (AB (Wc rfl EE.m_jb EE.j54.m (Jy EE).g hr.d (Jy EE).b .nil An (Aa (pvD 0) (Aa (pvD 2) (Aa (pvD 3) (Aa (QK EE.j56.m (F5 EE).g hr.d rfl EE.m_j3 (F5 EE).b .nil An (Aa (pvD 1) (Aa (pvD 2) Ad))) (Aa (E9 Ad) (Aa (E9 Ad) Ad))))))))
   (Ac (B8 (pvD 0) (pvD 1) rfl)
   (Ae (AB (AQ (pvD 0) EE.cl_j0 EE.j40.m (Bq EE).g hr.d (Bq EE).b .nil An))))),?_⟩
  nofun;intro b eX lJ lK aC;have fo:a≠b:=fun z=>by rw[<-z,ha]at lJ;cases lJ
  refine⟨b,eX,p,L,rfl,Ab,fun d H2 hd bk hf=>⟨rfl,by lia,fun pw dE=>⟨by lia,fun pe eU=>?_⟩⟩⟩;have s2:Same H H2:=fun y o hy=>by
   have y1:y≠b:=fun z=>by rw[z,lJ]at hy;cases hy
   have y2:y≠eX:=fun z=>by rw[z,lK]at hy;cases hy
   exact hf y o (by rw[Aj y1,Aj y2];exact hy) y1
  have lL:H d=none:=by
   cases h:H d with
   |none=>rfl
   |some o=>
    have y1:d≠b:=fun z=>by rw[z,lJ]at h;cases h
    have y2:d≠eX:=fun z=>by rw[z,lK]at h;cases h
    rw[Aj y1,Aj y2,h]at hd;cases hd
  have sw:=Same.new (o:=.lst []) dE;have cD:=sw.trans (Same.new (o:=.lst []) eU);have ky:=(Same.new (o:=.lst []) eU) _ _ (show upd H2 pw (.lst []) pw=some (.lst []) from Ab);have nu:upd (upd H2 pw (.lst [])) pe (.lst []) pe=some (.lst []):=Ab;have gC:H pw=none:=s2.none dE;have gD:H pe=none:=s2.none (sw.none eU);have lr:pw≠pe:=fun z=>by rw[<-z,Ab]at eU;cases eU
  generalize upd (upd H2 pw (.lst [])) pe (.lst [])=H4 at cD ky nu ⊢;have kz:=s2.trans cD;refine⟨a,dx,b,pw,pe,L,most,rfl,kz _ _ ha,fun pg H5 fI gO hpg5 kA hn5=>?_⟩;have bk4:=bk.mono cD;have ne:∀y,H y=none->y≠a:=fun y hy z=>by rw[z,ha]at hy;cases hy
  have dq:H pg=none:=kz.none fI;refine⟨_,_,_,gO,EE.cl_j0,EE.n_SumAsker_p,?_,?_⟩
  ·have pl:∀(f:Str) (v:V) (fs:List (Str×V)) (n:Nat),fs.length<n->(putF f v fs).length<n+1:=fun f v fs n h=>by have:=MO f v fs;lia
   have:=pl "wrong" .non _ _ (pl "guess" .non _ _ (pl "gaps" (.ref pg) _ _ (pl "ends" (.ref pe) _ _ (pl "ways" (.ref pw) _ _ (pl "book" (.ref b) _ _ (pl "most" (.int most) _ _ (pl "letters" (.int L) _ _ (pl "wish" .non [] 1 (by simp)))))))));unfold aflh;lia
  have ef:putF "p" (.int p) (aflh L most b pw pe pg)=afl p .non L most b pw pe pg .non .non:=Ue ..;rw[ef];have x5:AskAt K ag aj (upd H5 a (.ins ag dx (afl p .non L most b pw pe pg .non .non))) a ⟨dx,b,d,pw,pe,pg⟩ (s071 p L most) .non .non .non [] [] []:=
   ⟨Ab,SBookAt.tk bk4 (fun o h=>by rw[Aj (qn_ fo)];exact kA _ _ h (qn_ fo)) (fun o h=>by rw[Aj (ne _ lL)];exact kA _ _ h (ne _ lL)),by rw[Aj (ne _ gC)];exact kA _ _ ky (ne _ gC),Ao.nil,by rw[Aj (ne _ gD)];exact kA _ _ nu (ne _ gD),Ao.nil,by rw[Aj (ne _ dq)];exact hpg5,Ao.nil,lr,fun z=>(by rw[show pg=pw from z.symm,ky]at fI;cases fI),fun z=>(by rw[show pg=pe from z.symm,nu]at fI;cases fI),rfl,rfl⟩
  have hf6:∀y o,H4 y=some o->y≠a->upd H5 a (.ins ag dx (afl p .non L most b pw pe pg .non .non)) y=some o:=fun y o h n=>by rw[Aj n];exact kA _ _ h n
  have gm:∀y,upd H5 a (.ins ag dx (afl p .non L most b pw pe pg .non .non)) y=none->H4 y=none:=fun y hy=>by
   by_cases z:y=a
   ·rw[z,Ab]at hy;cases hy
   ·rw[Aj z]at hy;exact hn5 y hy
  generalize upd H5 a (.ins ag dx (afl p .non L most b pw pe pg .non .non))=H6 at x5 hf6 gm ⊢;have hmm:(most+1)*(most+1)<=13*13:=qJ_ s!"" s!"";have bd:Bd 12 (s071 p L most):=by
   show 12+(most+1)*(most+1)+most<=500;lia
  have ok:=Sl (p:=p) (L:=L) (most:=most) 12 s!"" hp hp.2.1 l1 l6 m12;refine⟨_,_,x5.ob,by kernel_rfl,a,_,s071 p L most,.non,12,rfl,⟨_,_,_,_,_,x5⟩,ok,bd,j3_ _,fun ad7 H7 s' y wv' go x7 hw7 f7 k7=>?_⟩;obtain⟨q1,q2,q3,q4,q5,q6⟩:=k7;have hn:∀y,H7 y=none->H y=none:=fun y hy=>kz.none (gm y (f7.2 y hy));refine k ad7 H7 s' y wv' go x7 hw7 (fun z o hz hza=>?_) hn ⟨by rw[q3];exact lL,by rw[q4];exact gC,by rw[q5];exact gD,?_⟩
  ·exact f7.1 z o (hf6 _ _ (kz _ _ hz) hza) hza (fun e=>by rw[e]at hz;rw[show H d=none from lL]at hz;cases hz) (fun e=>by rw[e]at hz;rw[show H pw=none from gC]at hz;cases hz) (fun e=>by rw[e]at hz;rw[show H pe=none from gD]at hz;cases hz) (fun e=>by rw[e]at hz;rw[show H pg=none from dq]at hz;cases hz)
  ·rcases q6 with q6|q6
   ·rw[q6];exact dq
   ·exact kz.none (gm _ q6)
noncomputable def cell (ns:α2)(k:Nat):Int:=ns.getD k 0
noncomputable def WL (K:α3):Sp:=fun vs H Q _=>∃(a:Addr) (ns:α2) (k:Nat),vs=[.ref a,.int k]/\SqL K H a (ns.map V.int)/\Q (.int (cell ns k)) H
def AI:⋯ EE.j1 1 ["script","k"] (WL K):=by
 delta EE.j1 Nk
 ·obtain⟨a,ns,k,rfl,_⟩:=h;rfl
 ·obtain⟨a,ns,k,rfl,hs,q⟩:=h;refine⟨_,(Ac (AZ (ptT (Ap (opD0 QD) (pvD 1) (AK (lenD AG) (by rfl) EE.len qm_ (Aa (pvD 0) Ad)) (Av _)))
   (Ae (Am (As (ixLD Fy) (pvD 0) (pvD 1))))
   Au)
   (Ae (Am Ai))),?_⟩
  nofun;refine⟨_,.inl hs,?_⟩;rw[ja_];refine ite2 (fun hk=>?_) (fun hk=>?_)
  ·have dZ:k<ns.length:=by simpa using hk
   refine⟨_,hs,V.int (cell ns k),?_,q⟩;refine EH ?_;rw[jh_];unfold cell;rw[jb_];simp[dZ]
  ·have dZ:¬ k<ns.length:=by simpa using hk
   have:cell ns k=0:=by
    unfold cell;rw[jb_,jF_ s!""];rfl
   rw[<-this];exact q
noncomputable def OG:Sp:=fun vs H Q _=>∃n:Int,vs=[.int n]/\2<=n/\n<=1000/\∀b,(b=true↔EL n.toNat)->Q (.bl b) H
def Kb:⋯ EE.j2 1 ["number"] (OG):=by
 delta EE.j2 Fc
 ·obtain⟨n,rfl,_⟩:=h;rfl
 ·obtain⟨n,rfl,hn,kY,k⟩:=h;refine⟨_,(Ac (Bx jL_ rfl (MX rfl EE.range (Aa Ai (Aa (pvD 0) Ad))) (Aq (i:=1) Fc.nd rfl (nM rfl))
   (Ac (AZ (ptT (Ap (opD0 VF) (Ar (opD E8) (pvD 1) (pvD 1)) (pvD 0) (Av _)))
   (Ae (Am DV))
   Au)
   (Ae (AZ (ptT (Ap (opE Gw) (Ar (opD A0) (pvD 0) (pvD 1)) Ai (Av _)))
   (Ae (Am DV))
   Au))))
   (Ae (Am DV))),?_⟩
  nofun;refine⟨by lia,by lia,by lia,by lia,?_⟩;refine forR (fun i ai H2=>H2=H/\(∀d,2<=d->d<2+i->n.toNat%d≠0)/\∃o,ai=[some (.int n),o]) ⟨rfl,fun d h1 h2=>by lia,none,rfl⟩ (fun i ai H2 hi h2=>?_) (fun ai H2 h2=>?_)
  ·obtain⟨rfl,aA,o,rfl⟩:=h2;nofun;refine⟨.inl ⟨by lia,by lia⟩,ite2 (fun hp=>k true ⟨fun _=>?_,fun _=>rfl⟩) (fun hp=>⟨by lia,ite2 (fun hm=>k false ⟨(fun z=>by cases z),fun z=>?_⟩) (fun hm=>⟨fun d h1 h2=>?_,_,rfl⟩)⟩)⟩
   ·refine EL.small (k:=2+i) s!"" ?_ fun d h1 h2 _=>aA d h1 h2;have jO:n<((2+i:Nat):Int)*((2+i:Nat):Int):=by push_cast;lia
    rw[<-qx]at jO;lia
   ·refine absurd ?_ (z (2+i) s!"" s!"");have:(n.toNat:Int)%((2+i:Nat):Int)=0:=by rw[show (n.toNat:Int)=n from by lia];push_cast;exact hm
    lia
   ·by_cases hd:d<2+i
    ·exact aA d h1 hd
    ·have:d=2+i:=by lia
     subst this;intro z;have z2:(n.toNat:Int)%((2+i:Nat):Int)=0:=by lia
     rw[show (n.toNat:Int)=n from by lia]at z2;push_cast at z2;exact hm z2
  ·obtain⟨rfl,aA,o,rfl⟩:=h2;nofun;exact k true ⟨fun _ d h1 h2=>aA d h1 s!"",fun _=>rfl⟩
noncomputable def MR:α2:=[2,3,5,7,65537,998244353,2147483647,180143985094819841]
noncomputable def Um (K:α3):Sp:=fun vs H Q _=>∃c:Int,vs=[.int c]/\∀p H',Same H H'->Pr p->Q (.int p) H'
def MS:⋯ EE.j3 2 ["cell"] (Um K):=by
 delta EE.j3 Dp
 ·obtain⟨c,rfl,_⟩:=h;rfl
 ·obtain⟨c,rfl,k⟩:=h;have hl:=Al;refine⟨_,(Ac (Ak (i:=1) Dp.nd (E9 (Aa Ai (Aa Ai (Aa Ai (Aa Ai (Aa Ai (Aa Ai (Aa Ai (Aa Ai Ad))))))))))
   (Ac (AZ (ptT (Ap (opD0 QD) (Ar (opD A0) (pvD 0) Ai) Ai (Av _)))
   (Ae (Am (As (ixLD Fy) (pvD 1) (Ar (opD A0) (Ar (opD IK) (pvD 0) Ai) Ai))))
   Au)
   (Ac (Ak (i:=2) Dp.nd (Ar (opD0 Bl) Ai (Ar (opD A0) (Ar (opD IK) (pvD 0) Ai) Ai)))
   (Ac (Gm jL_ (OK (ptB (Fv (Af (Kb EE) hr.d An (Aa (pvD 2) Ad)))))
   (Ae (Ak (i:=2) Dp.nd (Ar (opD0 Bl) (pvD 2) Ai))))
   (Ae (Am (pvD 2))))))),?_⟩
  nofun;refine⟨by lia,fun q hq=>⟨by decide,ite2 (fun _=>?_) (fun _=>⟨⟨by decide,by decide⟩,by decide,?_⟩)⟩⟩
  ·have e0:=jC_ (c / 4) (show (8:Int)≠0 by decide);have e1:=jx_ (c / 4) (show (0:Int)<8 by decide);refine⟨⟨by decide,by decide⟩,by decide,_,SqL.of Ab,?_⟩;generalize c / 4%8=j at e0 e1;have hj:j.toNat<MR.length:=by show j.toNat<8;lia
   have hx:MR[j.toNat]?=some MR[j.toNat]:=by simp[hj]
   exact⟨_,(G3 e0 hx:atI (MR.map V.int) j=_),k _ _ (Same.new hq) (V8 _ (jR_ hj))⟩
  ·have e0:=jC_ (c / 4) (show (200:Int)≠0 by decide);have e1:=jx_ (c / 4) (show (0:Int)<200 by decide);generalize c / 4%200=j at e0 e1;have s0:=Same.new (o:=.lst [V.int 2,V.int 3,V.int 5,V.int 7,V.int 65537,V.int 998244353,V.int 2147483647,V.int 180143985094819841]) hq;generalize upd H q (.lst [V.int 2,V.int 3,V.int 5,V.int 7,V.int 65537,V.int 998244353,V.int 2147483647,V.int 180143985094819841])=H0 at s0 ⊢;have h211:EL 211:=Ep (n:=4) (by decide) (by decide +kernel) (by decide +kernel);obtain⟨Pv,aq⟩:∃Pv:Nat->St->Hp->Prop,∀m ai H2,Pv m ai H2↔(H2=H0/\∃nb:Int,m=(211-nb).toNat/\2<=nb/\nb<=211/\ai=[some (.int c),some (.ref q),some (.int nb)]):=⟨_,fun _ _ _=>qE_⟩;refine LI Pv ⟨_,(aq _ _ _).mpr ⟨rfl,2+j,rfl,by lia,by lia,rfl⟩⟩ ?_;intro m ai H2 mE;obtain⟨rfl,nb,rfl,n0,n1,rfl⟩:=(aq _ _ _).mp mE;nofun;refine⟨nb,rfl,n0,by lia,fun b hb=>⟨b,rfl,?_⟩⟩;cases b with
   |true=>
    rw[if_neg (by decide)];exact k nb _ s0 ⟨n0,by lia,hb.mp rfl⟩
   |false=>
    rw[if_pos (by decide)];have aC:nb≠211:=fun z=>by
     have:=hb.mpr (by rw[z];exact h211);cases this
    refine⟨fun af H'=>∃m',m'<(211-nb).toNat/\Pv m' af H',fun _ _ h=>h,_,?_,(aq _ _ _).mpr ⟨rfl,nb+1,rfl,by lia,by lia,rfl⟩⟩;lia
noncomputable def bigF (ns:α2)(k:Int):Int:=if k<ns.length then ns.getD k.toNat 0 else (cell ns (k%if (ns.length:Int) > 1 then (ns.length:Int) else 1).toNat%2147483647*48271+k*k*31+7*k)%2147483647
noncomputable def Uo (K:α3):Sp:=fun vs H Q _=>∃(a:Addr) (ns:α2) (k p:Int),vs=[.ref a,.int k,.int p]/\SqL K H a (ns.map V.int)/\ns.length<=63/\0<=k/\k<=100000/\0<p/\Q (.int (bigF ns k%p)) H
def Lz:⋯ EE.j59 2 ["script","k","p"] (Uo K):=by
 delta EE.j59 GG
 ·obtain⟨a,ns,k,p,rfl,_⟩:=h;rfl
 ·obtain⟨a,ns,k,p,rfl,hs,hz,k0,k1,p0,q⟩:=h;refine⟨_,(Ac (AZ (ptT (Ap (opD0 QD) (pvD 1) (AK (lenD AG) (by rfl) EE.len qm_ (Aa (pvD 0) Ad)) (Av _)))
   (Ae (Am (Ar (opD A0) (As (ixLD Fy) (pvD 0) (pvD 1)) (pvD 2))))
   Au)
   (Ac (Ak (i:=3) GG.nd (AK (QG rfl) rfl EE.max rF (Aa Ai (Aa (AK (lenD AG) (by rfl) EE.len qm_ (Aa (pvD 0) Ad)) Ad))))
   (Ae (Am (Ar (opD A0) (Ar (opD A0) (Ar (opD0 Bl) (Ar (opD0 Bl) (Ar (opD E8) (Ar (opD A0) (Af (AI EE) hr.d An (Aa (pvD 0) (Aa (Ar (opD A0) (pvD 1) (pvD 3)) Ad))) Ai) Ai) (Ar (opD E8) (Ar (opD E8) (pvD 1) (pvD 1)) Ai)) (Ar (opD E8) Ai (pvD 1))) Ai) (pvD 2)))))),?_⟩
  nofun;refine⟨_,.inl hs,?_⟩;rw[ja_];unfold bigF at q;refine ite2 (fun hk=>?_) (fun hk=>?_)
  ·have cM:k<(ns.length:Int):=by simpa using hk
   have dZ:k.toNat<ns.length:=by lia
   rw[if_pos cM]at q;refine⟨_,hs,_,G3 k0 (v:=ns[k.toNat]) (by simp[dZ]),?_⟩;rw[jb_,jc_ dZ]at q;exact⟨_,rfl,p0,q⟩
  ·have cM:¬ k<(ns.length:Int):=by simpa using hk
   rw[if_neg cM]at q;have e0:((ns.map V.int).length:Int)=(ns.length:Int):=by rw[ja_]
   have hm:(0:Int)<if (ns.length:Int) > 1 then (ns.length:Int) else 1:=by split<;>lia
   have r0:=jC_ k (show (if (ns.length:Int) > 1 then (ns.length:Int) else 1)≠0 by lia);refine⟨_,.inl hs,?_⟩;rw[ja_];exact⟨hm,a,ns,(k%if (ns.length:Int) > 1 then (ns.length:Int) else 1).toNat,by rw[zP_ r0],hs,_,rfl,by decide,.inr ⟨by decide,by decide⟩,.inl ⟨by lia,by lia⟩,.inr ⟨by decide,by decide⟩,.inl ⟨by decide,by decide⟩,by decide,p0,q⟩
noncomputable def Ss (K:α3):Sp:=fun vs H Q _=>∃(p:Int) (a b:Addr) (xs:List V) (ae:α1) (am:α2) (n:Nat),vs=[.int p,.ref b,.ref a]/\0<p/\p<1000000000000000000/\SqT K H a xs/\Fu K H xs ae/\ae.length=n/\(∀r∈ae,r.length=n)/\SqT K H b (am.map V.int)/\am.length=n/\n<=16/\(∀x∈am,0<=x/\x<p)/\∀q H',Same H H'->SqT K H' q ((Jc p ae am n).map V.int)->Q (.ref q) H'
def NH:⋯ EE.j61 1 ["p","row","table"] (Ss K):=by
 delta EE.j61 FW
 ·obtain⟨p,a,b,xs,ae,am,n,rfl,_⟩:=h;rfl
 ·obtain⟨p,a,b,xs,ae,am,n,rfl,hp,gb,ha,gd,aW,dm,hb,ak,hn,jV,k⟩:=h;have hl:=Al;refine⟨_,(Ac (Ak (i:=3) FW.nd (E9 Ad))
   (Ac (Bx jL_ rfl (Cd rfl EE.range (Aa (AK (lenD AG) (by rfl) EE.len qm_ (Aa (pvD 1) Ad)) Ad)) (Aq (i:=4) FW.nd rfl (oq rfl))
   (Ae (AB (M6 qi_ qs_ qt_ Dv (pvD 3) (Aa (Ar (opD A0) (AK (Mf rfl) rfl EE.sum zB_ (Aa (BN rfl (BL rfl) (cp:=HW) ⟨⟨rfl,rfl⟩,⟨⟨rfl,rfl⟩,⟨⟨rfl,rfl⟩,nL⟩⟩⟩ (Cd rfl EE.range (Aa (AK (lenD AG) (by rfl) EE.len qm_ (Aa (pvD 1) Ad)) Ad)) (fun _ _ _ _=>(Aq (i:=0) J6 rfl (nM rfl))) (fun _ _ _ _=>By) (fun _ _ _ _=>(Ar (opD E8) (As (ixTD (FE (K:=K) rfl)) (pvD 1) (pvD 0)) (As (ixTD (FE (K:=K) rfl)) (As (ixTD (FE (K:=K) rfl)) (pvD 3) (pvD 0)) (pvD 2))))) Ad)) (pvD 0)) Ad)))))
   (Ae (Am (AF AM rfl EE.tuple jO_ (Aa (pvD 3) Ad)))))),?_⟩
  nofun;refine⟨by lia,fun q hq=>⟨_,.inr ((Same.new hq).seqT hb),by rw[ja_];lia,by rw[ja_];lia,?_⟩⟩;rw[jz_,ja_,ak];obtain⟨Pv,aq⟩:∃Pv:Nat->St->Hp->Prop,∀c af H',Pv c af H'↔(Same H H'/\H' q=some (.lst ((Jc p ae am c).map V.int))/\∃o,af=[some (.int p),some (.ref b),some (.ref a),some (.ref q),o]):=⟨_,fun _ _ _=>qE_⟩;refine forR Pv ((aq _ _ _).mpr ⟨Same.new hq,Ab,none,rfl⟩) (fun c ai H2 hc h2=>?_) (fun ai H2 h2=>?_)
  ·obtain⟨s2,bQ,o,rfl⟩:=(aq _ _ _).mp h2;rw[xF_];nofun;refine⟨.inl ⟨rfl,_,SqL.of bQ⟩,_,.inr (s2.seqT hb),by rw[ja_];lia,by rw[ja_];lia,?_⟩;rw[jz_,ja_,ak];obtain⟨Pc,bM⟩:∃Pc:Nat->List V->St->Hp->Prop,∀j ys aQ H4,Pc j ys aQ H4↔(H4=H2/\ys=((nJ j).map fun k=>am.getD k 0*(ae.getD k []).getD c 0).map V.int/\∃o,aQ=[o,some (.ref b),some (.int c),some (.ref a)]):=⟨_,fun _ _ _ _=>qE_⟩;refine Q8 Pc ((bM _ _ _ _).mpr ⟨rfl,rfl,none,rfl⟩) s!"" (fun j ys aQ H4 _ h4=>?_) (fun j ys aQ H4 hj h4=>?_) (fun ys aQ H4 h4 D hD=>?_)
   ·obtain⟨_,rfl,_⟩:=(bM _ _ _ _).mp h4;rw[ja_,ja_,jT_];exact jf_ _
   ·obtain⟨rfl,rfl,o',rfl⟩:=(bM _ _ _ _).mp h4;rw[xF_];have nv:j<am.length:=by lia
    have ny:j<ae.length:=by lia
    obtain⟨t,e1,e2⟩:=gd.2 j ae[j] (by simp[ny]);have bh:c<(ae[j]).length:=by rw[dm _ (jR_ ny)];exact hc
    have er:ae.getD j []=ae[j]:=by rw[jb_,jc_ ny];rfl
    have ea:am.getD j 0=am[j]:=by rw[jb_,jc_ nv];rfl
    have ec:(ae.getD j []).getD c 0=(ae[j])[c]:=by rw[er,jb_,jc_ bh];rfl
    have hx:=jV _ (jR_ nv);nofun;refine⟨_,s2.seqT hb,_,G3 s!"" (v:=am[j]) (by simp[nv]),_,s2.seqT ha,_,EH e1,t,rfl,_,s2.seqT e2,_,G3 s!"" (v:=(ae[j])[c]) (by simp[bh]),?_⟩;refine⟨_,rfl,_,rfl,.inl ⟨by lia,by lia⟩,(bM _ _ _ _).mpr ⟨rfl,?_,_,rfl⟩⟩;rw[qC_,jj_,jj_,j7_,j7_,ea,ec]
   ·obtain⟨rfl,rfl,o',rfl⟩:=(bM _ _ _ _).mp h4;refine⟨D,rfl,_,SqL.of Ab,hp,_,(Same.new hD) _ _ bQ,by unfold Jc;rw[ja_,ja_,jT_];lia,(aq _ _ _).mpr ⟨(s2.newT hD).over hq,?_,_,rfl⟩⟩;have:=Yi am ae c s!"";rw[aW]at this;rw[Ab,this];unfold Jc;rw[qC_,jj_,jj_];rfl
  ·obtain⟨s2,bQ,o,rfl⟩:=(aq _ _ _).mp h2;nofun;exact⟨_,.inl ⟨SqL.of bQ,fun t ht=>k t _ (s2.newT ht) (SqT.of Ab)⟩⟩
noncomputable def Qr (K:α3):Sp:=fun vs H Q _=>∃(p:Int) (a b:Addr) (xs ys:α2),vs=[.int p,.ref a,.ref b]/\0<p/\p<1000000000000000000/\SqT K H a (xs.map V.int)/\SqT K H b (ys.map V.int)/\xs.length=ys.length/\xs.length<=16/\(∀x∈xs,0<=x/\x<p)/\∀H',Same H H'->Q (.int (dotW xs ys%p)) H'
def MT:⋯ EE.j60 1 ["p","one","two"] (Qr K):=by
 delta EE.j60 Ms
 ·obtain⟨p,a,b,xs,ys,rfl,_⟩:=h;rfl
 ·obtain⟨p,a,b,xs,ys,rfl,hp,gb,ha,hb,ak,hn,jV,k⟩:=h;have hl:=Al;refine⟨_,(Ae (Am (Ar (opD A0) (AK (Mf rfl) rfl EE.sum zB_ (Aa (BN rfl (BL rfl) (cp:=GK) ⟨⟨rfl,rfl⟩,⟨⟨rfl,rfl⟩,nL⟩⟩ (Cd rfl EE.range (Aa (AK (lenD AG) (by rfl) EE.len qm_ (Aa (pvD 1) Ad)) Ad)) (fun _ _ _ _=>(Aq (i:=0) Jb rfl (nM rfl))) (fun _ _ _ _=>By) (fun _ _ _ _=>(Ar (opD E8) (As (ixTD (FE (K:=K) rfl)) (pvD 1) (pvD 0)) (As (ixTD (FE (K:=K) rfl)) (pvD 2) (pvD 0))))) Ad)) (pvD 0)))),?_⟩;nofun;refine⟨_,.inr ha,by rw[ja_];lia,by rw[ja_];lia,?_⟩;rw[jz_,ja_];obtain⟨Pe,kB⟩:∃Pe:Nat->List V->St->Hp->Prop,∀j zs aQ H',Pe j zs aQ H'↔(H'=H/\zs=((nJ j).map fun k=>xs.getD k 0*ys.getD k 0).map V.int/\∃o,aQ=[o,some (.ref a),some (.ref b)]):=⟨_,fun _ _ _ _=>qE_⟩;refine Q8 Pe ((kB _ _ _ _).mpr ⟨rfl,rfl,none,rfl⟩) s!"" (fun j zs aQ H' _ h4=>?_) (fun j zs aQ H' hj h4=>?_) (fun zs aQ H' h4 D6 ko=>?_)
  ·obtain⟨_,rfl,_⟩:=(kB _ _ _ _).mp h4;rw[ja_,ja_,jT_];exact jf_ _
  ·obtain⟨rfl,rfl,o',rfl⟩:=(kB _ _ _ _).mp h4;rw[xF_];have jX:j<ys.length:=by lia
   have ex:xs.getD j 0=xs[j]:=by rw[jb_,jc_ hj];rfl
   have ey:ys.getD j 0=ys[j]:=by rw[jb_,jc_ jX];rfl
   have hx:=jV _ (jR_ hj);nofun;refine⟨_,ha,_,G3 s!"" (v:=xs[j]) (by simp[hj]),_,hb,_,G3 s!"" (v:=ys[j]) (by simp[jX]),_,rfl,_,rfl,.inl ⟨by lia,by lia⟩,(kB _ _ _ _).mpr ⟨rfl,?_,_,rfl⟩⟩;rw[qC_,jj_,jj_,j7_,j7_,ex,ey]
  ·obtain⟨rfl,rfl,o',rfl⟩:=(kB _ _ _ _).mp h4;have cS:((nJ xs.length).map fun k=>xs.getD k 0*ys.getD k 0).sum=dotW xs ys:=by
    unfold dotW
    congr 1
    refine q7_ (by simp[ak]) fun i h1 h2=>?_;have hi:i<xs.length:=by simpa using h1
    have jj:i<ys.length:=by lia
    simp[jb_,hi,jj]
   refine⟨D6,rfl,_,SqL.of Ab,hp,?_⟩;rw[cS];exact k _ (Same.new ko)
noncomputable def OH (K:α3):Sp:=fun vs H Q _=>∃(h a:Addr) (p L:Int) (d:Nat) (first last ws:α2) (tables:α0),vs=[.ref h,.ref a]/\SumH K H h p L first tables last/\WfSum p L d first tables last/\SqT K H a (ws.map V.int)/\isW L ws=true/\∀(t:Addr) (H':Hp),Same H H'->SqT K H' t ((rowS p d tables first ws).map V.int)->Q (.ref t) H'
def LA:⋯ EE.j62 2 ["house","word"] (OH K):=by
 delta EE.j62 CU
 ·obtain⟨h,a,p,L,d,first,last,ws,tables,rfl,_⟩:=h;rfl
 ·obtain⟨h,a,p,L,d,first,last,ws,tables,rfl,hh,wf,hw,hv,k⟩:=h;have h2:=wf.p2;have h18:=wf.p18;have hd:=wf.dl;refine⟨_,(Ac (Ak (i:=2) CU.nd (As (ixTD Ay) (pvD 0) Ai))
   (Ac (Bx jL_ rfl (MW (pvD 1)) (Aq (i:=3) CU.nd rfl (nM rfl))
   (Ae (Ak (i:=2) CU.nd (Af (NH EE) hr.d An (Aa (As (ixTD Ay) (pvD 0) Ai) (Aa (pvD 2) (Aa (As (ixTD Ay) (As (ixTD Ay) (pvD 0) Ai) (pvD 3)) Ad)))))))
   (Ae (Am (pvD 2))))),?_⟩
  obtain⟨tf,tt,tl,e1,e2,e3,e4⟩:=id hh;nofun;refine⟨_,e1,_,rfl,⟨_,hw⟩,?_⟩;obtain⟨Pv,aq⟩:∃Pv:Nat->St->Hp->Prop,∀i af H',Pv i af H'↔(∃(t:Addr) (o:Option V),Same H H'/\SqT K H' t ((rowS p d tables first (ws.take i)).map V.int)/\af=[some (.ref h),some (.ref a),some (.ref t),o]):=⟨_,fun _ _ _=>qE_⟩;refine forT (xs:=ws.map V.int) Pv ((aq _ _ _).mpr ⟨tf,none,Same.refl _,e2,rfl⟩) (fun i af H' _ h'=>by obtain⟨_,_,s',_⟩:=(aq _ _ _).mp h';exact s'.seqT hw) (fun i x af H' hx h'=>?_) (fun af H' h'=>?_)
  ·obtain⟨t,o,s2,ht,rfl⟩:=(aq _ _ _).mp h';obtain⟨n,hn,rfl⟩:=Kh hx;have jr:=Bn.mp hv n (jn_ hn);obtain⟨r1,r2⟩:=wf.row (ws.take i);obtain⟨t1,t2,t3⟩:=wf.table jr.1 jr.2;obtain⟨zs,u,xs,z1,z2,z3,z4⟩:=(e4.mono s2).at t1;rw[zP_ jr.1]at z2;nofun;refine⟨_,s2.seqT e1,_,rfl,_,s2.seqT e1,_,rfl,?_⟩;nofun;exact⟨_,z1,_,z2,p,u,t,xs,_,_,d,rfl,by lia,by lia,z3,z4,t2,t3,ht,r1,by lia,r2,fun q H3 s3 hq=>(aq _ _ _).mpr ⟨q,_,s2.trans s3,by rw[K7 hn];exact hq,rfl⟩⟩
  ·obtain⟨t,o,s2,ht,rfl⟩:=(aq _ _ _).mp h';rw[ja_,jG_]at ht;nofun;exact k t _ s2 ht
noncomputable def Su (K:α3):Sp:=fun vs H Q _=>∃(h a:Addr) (p L:Int) (d:Nat) (f l ws:α2) (t:α0),vs=[.ref h,.ref a]/\SumH K H h p L f t l/\WfSum p L d f t l/\SqT K H a (ws.map V.int)/\isW L ws=true/\∀H',Same H H'->Q (.int (dotW (rowS p d t f ws) l%p)) H'
def Il:⋯ EE.j63 3 ["house","word"] (Su K):=by
 delta EE.j63 Mt
 ·obtain⟨h,a,p,L,d,f,l,ws,t,rfl,_⟩:=h;rfl
 ·obtain⟨h,a,p,L,d,f,l,ws,t,rfl,hh,wf,ha,hw,k⟩:=h;obtain⟨a1,a2,a3,x1,x2,x3,xA⟩:=id hh;have jh:=wf.p2;have gb:=wf.p18;have hd:=wf.dl;refine⟨_,(Ae (Am (Af (MT EE) hr.d An (Aa (As (ixTD Ay) (pvD 0) Ai) (Aa (Af (LA EE) hr.d An (Aa (pvD 0) (Aa (pvD 1) Ad))) (Aa (As (ixTD Ay) (pvD 0) Ai) Ad)))))),?_⟩;nofun;obtain⟨r1,r2⟩:=wf.row ws;exact⟨_,x1,_,rfl,h,a,p,L,d,f,l,ws,t,rfl,hh,wf,ha,hw,fun q H1 s1 hq=>⟨_,s1.seqT x1,_,rfl,p,q,a3,_,l,rfl,by lia,gb,hq,s1.seqT x3,by rw[r1,wf.l.1],by lia,r2,fun H2 s2=>k _ (s1.trans s2)⟩⟩
def NJ {α:Type}[DecidableEq α]{l k:List α}(h:l.Nodup)(hs:∀x∈l,x∈k):l.length<=k.length:=by
 induction l generalizing k with
 |nil=>exact j3_ _
 |cons a l ih=>
  obtain⟨h1,h2⟩:=qU_.mp h;have h3:=ih (k:=k.erase a) h2 fun x hx=>(List.mem_erase_of_ne (fun z=>h1 (by rw[<-z];exact hx))).mpr (hs x (jp_ _ hx));have h4:=hs a jA_;rw[List.length_erase_of_mem h4]at h3;have:=List.length_pos_of_mem h4;rw[jV_];lia
def Sv {v:α2}{ks:α1}{n:Nat}(h:∀j,j<n->v++nI j 0∈ks):n<=ks.length:=by
 have:=NJ (l:=(nJ n).map fun j=>v++nI j 0) (k:=ks) (by
  rw[List.nodup_iff_pairwise_ne,zr_];refine (List.nodup_iff_pairwise_ne.mp List.nodup_range).imp fun fo z=>fo ?_;have:=qY_ oh z;simpa using this) (fun x hx=>by
  obtain⟨j,hj,rfl⟩:=jv_.mp hx;exact h j (qw_.mp hj))
 rwa [ja_,jT_]at this
noncomputable def Ji (ns:α2)(at_ L n:Nat):α2:=(nJ n).map fun k:Nat=>(cell ns (at_+k) / 2+(k:Int))%(L:Int)
def Im (ns:α2)(at_ L n:Nat):(Ji ns at_ L n).length=n:=by unfold Ji;rw[ja_,jT_]
def NL (ns:α2)(at_ n:Nat){L:Nat}(l1:1<=L):isW (L:Int) (Ji ns at_ L n)=true:=by
 refine Bn.mpr fun x hx=>?_;unfold Ji at hx;obtain⟨k,_,rfl⟩:=jv_.mp hx;exact⟨jC_ _ s!"",jx_ _ s!""⟩
noncomputable def Sw (K:α3):Sp:=fun vs H Q _=>∃(a:Addr) (ns:α2) (at_ L n:Nat),vs=[.ref a,.int at_,.int L,.int n]/\SqL K H a (ns.map V.int)/\1<=L/\n<=100/\∀t H',Same H H'->H' t=some (.tup ((Ji ns at_ L n).map V.int))->Q (.ref t) H'
def Jz:⋯ EE.j64 2 ["script","at","letters","many"] (Sw K):=by
 delta EE.j64 Nq
 ·obtain⟨a,ns,at_,L,n,rfl,_⟩:=h;rfl
 ·obtain⟨a,ns,at_,L,n,rfl,hs,l1,hn,k⟩:=h;have hl:=Al;refine⟨_,(Ae (Am (AF AM rfl EE.tuple jO_ (Aa (BN rfl (BL rfl) (cp:=HX) ⟨⟨rfl,rfl⟩,⟨⟨rfl,rfl⟩,⟨⟨rfl,rfl⟩,nL⟩⟩⟩ (Cd rfl EE.range (Aa (pvD 3) Ad)) (fun _ _ _ _=>(Aq (i:=0) Ka rfl (nM rfl))) (fun _ _ _ _=>By) (fun _ _ _ _=>(Ar (opD A0) (Ar (opD0 Bl) (Ar (opD IK) (Af (AI EE) hr.d An (Aa (pvD 2) (Aa (Ar (opD0 Bl) (pvD 3) (pvD 0)) Ad))) Ai) (pvD 0)) (pvD 1)))) Ad)))),?_⟩;nofun;refine⟨by lia,by lia,?_⟩;rw[jz_];obtain⟨Pc,bM⟩:∃Pc:Nat->List V->St->Hp->Prop,∀j us aQ H4,Pc j us aQ H4↔(H4=H/\us=(Ji ns at_ L j).map V.int/\∃o,aQ=[o,some (.int L),some (.ref a),some (.int at_)]):=⟨_,fun _ _ _ _=>qE_⟩;refine Q8 Pc ((bM _ _ _ _).mpr ⟨rfl,rfl,none,rfl⟩) s!"" (fun j us aQ H4 _ h4=>?_) (fun j us aQ H4 hj h4=>?_) (fun us aQ H4 h4 D hD=>?_)
  ·obtain⟨_,rfl,_⟩:=(bM _ _ _ _).mp h4;rw[ja_,Im];lia
  ·obtain⟨rfl,rfl,o4,rfl⟩:=(bM _ _ _ _).mp h4;rw[xF_];nofun;refine⟨a,ns,at_+j,by push_cast;rfl,hs,_,rfl,by show CDiv _ _;unfold CDiv;lia,by lia,(bM _ _ _ _).mpr ⟨rfl,?_,_,rfl⟩⟩;unfold Ji;rw[qC_,jj_,jj_];rfl
  ·obtain⟨rfl,rfl,o4,rfl⟩:=(bM _ _ _ _).mp h4;exact⟨D,rfl,_,.inl ⟨SqL.of Ab,fun t ht=>k t _ ((Same.new hD).newT ht) Ab⟩⟩
noncomputable def Qs (K:α3):Sp:=fun vs H Q _=>∃(a l:Addr) (ns:α2) (at_ L:Nat) (rs:List V) (es:Bk),vs=[.ref a,.int at_,.int L,.ref l]/\SqL K H a (ns.map V.int)/\1<=L/\H l=some (.lst rs)/\Cn H rs es/\es.length<=200/\∀t n H',Same H H'->(∀j,j<n->Ji ns at_ L (1+cell ns at_%5).toNat++nI j 0∈es.map (·.1))->Ji ns at_ L (1+cell ns at_%5).toNat++nI n 0∉es.map (·.1)->n<=es.length->H' t=some (.tup ((Ji ns at_ L (1+cell ns at_%5).toNat++nI n 0).map V.int))->Q (.ref t) H'
def Kc:⋯ EE.j65 3 ["script","at","letters","heard"] (Qs K):=by
 delta EE.j65 C8
 ·obtain⟨a,l,ns,at_,L,rs,es,rfl,_⟩:=h;rfl
 ·obtain⟨a,l,ns,at_,L,rs,es,rfl,hs,l1,cy,ht,he,k⟩:=h;have hl:=Al;refine⟨_,(Ac (Ak (i:=4) C8.nd (Af (Jz EE) hr.d An (Aa (pvD 0) (Aa (pvD 1) (Aa (pvD 2) (Aa (Ar (opD0 Bl) Ai (Ar (opD A0) (Af (AI EE) hr.d An (Aa (pvD 0) (Aa (pvD 1) Ad))) Ai)) Ad))))))
   (Ac (Gm jL_ (ptT (Ap (XR (hu9 hr)) (pvD 4) (BN rfl (BL rfl) (cp:=Ew) nL (Br (pvD 3)) (fun _ _ _ _=>(Aq (i:=0) Gz rfl (nM rfl))) (fun _ _ _ _=>By) (fun _ _ _ _=>(As (ixTD (FE (K:=K) rfl)) (pvD 0) Ai))) rfl))
   (Ae (Ak (i:=4) C8.nd (Ar Dj (pvD 4) (Ce (Aa Ai Ad))))))
   (Ae (Am (pvD 4))))),?_⟩
  nofun;have c0:=jC_ (cell ns at_) (show (5:Int)≠0 by decide);have c1:=jx_ (cell ns at_) (show (0:Int)<5 by decide);obtain⟨n0,lM⟩:∃n0:Nat,1+cell ns at_%5=(n0:Int):=⟨(1+cell ns at_%5).toNat,by lia⟩;rw[lM,jz_]at k;have hn5:n0<=5:=by lia
  refine⟨a,ns,at_,rfl,hs,_,rfl,by decide,a,ns,at_,L,n0,by rw[lM],hs,l1,by lia,fun t H1 s1 bZ=>?_⟩;have bB:=Im ns at_ L n0;generalize Ji ns at_ L n0=v at k bZ bB;obtain⟨Pv,aq⟩:∃Pv:Nat->St->Hp->Prop,∀m af H',Pv m af H'↔(∃(n:Nat) (t:Addr),Same H H'/\m=es.length+1-n/\n<=es.length/\(∀j,j<n->v++nI j 0∈es.map (·.1))/\H' t=some (.tup ((v++nI n 0).map V.int))/\af=[some (.ref a),some (.int at_),some (.int L),some (.ref l),some (.ref t)]):=⟨_,fun _ _ _=>qE_⟩;refine LI Pv ⟨_,(aq _ _ _).mpr ⟨0,t,s1,rfl,by lia,fun j hj=>absurd hj (zf_ _),by simpa using bZ,rfl⟩⟩ fun m af H' h'=>?_;obtain⟨n,t2,s2,hm,hn,aA,dN,rfl⟩:=(aq _ _ _).mp h';nofun;have aT:=ht.mono (TK.of s2);refine⟨⟨_,SqL.of (s2 _ _ cy)⟩,KA (xs:=rs) (fun i us aQ H4=>H4=H'/\Ao K H' us ((es.take i).map (·.1))/\∃o,aQ=[o]) ⟨rfl,Ao.nil,none,rfl⟩ (by rw[ht.1];lia) (fun i us aQ H4 hi h4=>⟨by rw[h4.1];exact SqL.of (s2 _ _ cy),by rw[h4.2.1.1,ja_,jI_];lia⟩) (fun i x us aQ H4 hx h4=>?_) (fun us aQ H4 h4 D hD=>?_)⟩
  ·obtain⟨rfl,gy,o,rfl⟩:=h4;have hi:i<es.length:=by rw[<-ht.1];exact (je_.mp hx).1
   have bK:es[i]?=some es[i]:=by simp[hi]
   obtain⟨q,wt,e1,e2,e3⟩:=aT.2 i _ bK;rw[hx]at e1;cases e1;have et:es.take (i+1)=es.take i++[es[i]]:=by rw[jQ_,bK];rfl
   nofun;refine⟨_,SqT.of e2,_,rfl,?_,_,rfl⟩;rw[et,jj_];exact gy.snoc e3
  ·obtain⟨rfl,gy,o,rfl⟩:=h4;rw[ht.1,jG_]at gy;have sD:=Same.new hD (o:=.lst us);refine⟨D,rfl,_,SqL.of Ab,_,_,gy.mono (TK.of sD),SqT.of (sD _ _ dN),ite2 (fun bz=>?_) (fun md=>?_)⟩
   ·refine⟨fun ai H2=>∃m',m'<m/\Pv m' ai H2,fun _ _ z=>z,by lia,fun q hq=>?_⟩;have sq:=Same.new hq (o:=.tup [V.int 0]);refine Cb.ofS ((sD.trans sq) _ _ dN) Ab (by simp;lia) fun t3 H3 s3 iR=>?_;have hall':∀j,j<n+1->v++nI j 0∈es.map (·.1):=fun j hj=>by
     by_cases z:j<n
     ·exact aA j z
     ·rw[show j=n by lia];exact bz
    have cW:=Sv hall';rw[ja_]at cW;refine⟨es.length+1-(n+1),by lia,(aq _ _ _).mpr ⟨n+1,t3,s2.trans ((sD.trans sq).trans s3),rfl,cW,hall',?_,rfl⟩⟩;rw[iR,List.replicate_succ',<-zW_];simp only[jj_,jP_,xB_]
   ·exact k t2 n _ (s2.trans sD) aA md hn (sD _ _ dN)
noncomputable def addS (b:Bool)(x ah:Str):Str:=if b=true then ah++x else ah
def La (h:ah.length+x.length<=N):if b=true then ah.length+x.length<=N/\ah++x=addS b x ah else ah=addS b x ah:=by
 unfold addS;cases b<;>simp[h]
noncomputable def Sx (K:α3)(OT BW BM ND CO:Addr):Sp:=fun vs H Q _=>(vs=[.non]/\Q .non H) \/ ∃(ea C:Addr),vs=[.ref ea]/\H ea=some (excO ea C)/\((C=OT/\Q (.str "turn value") H)\/(C=BW/\Q (.str "word value") H)\/(C=BM/\Q (.str "mark value") H)\/(C=ND/\Q (.str "alike value") H)\/(C=CO/\Q (.str "twice value") H))
def CM:⋯ EE.j43 1 ["e"] (Sx K aw au av ay ax):=by
 delta EE.j43 AN
 ·rcases h with ⟨rfl,_⟩|⟨ea,C,rfl,_⟩<;>rfl
 ·have hl:=Al;refine⟨_,(Ac (AZ (ptT (Ap MZ (pvD 0) Bw (Av _)))
   (Ae (Am Bw))
   Au)
   (Ac (Ak (i:=1) AN.nd AA)
   (Eb (AZ (ptB (Fv (AK Cc rfl EE.isinstance qq_ (Aa (pvD 0) (Aa (Kr (v:=.ref aw) rfl EE.m_j4 rfl) Ad)))))
   (Ae (Ak (i:=1) AN.nd (Ar Du (pvD 1) AA)))
   Au)
   (Eb (AZ (ptB (Fv (AK Cc rfl EE.isinstance qq_ (Aa (pvD 0) (Aa (Kr (v:=.ref au) rfl EE.m_j5 rfl) Ad)))))
   (Ae (Ak (i:=1) AN.nd (Ar Du (pvD 1) AA)))
   Au)
   (Eb (AZ (ptB (Fv (AK Cc rfl EE.isinstance qq_ (Aa (pvD 0) (Aa (Kr (v:=.ref av) rfl EE.m_j6 rfl) Ad)))))
   (Ae (Ak (i:=1) AN.nd (Ar Du (pvD 1) AA)))
   Au)
   (Eb (AZ (ptB (Fv (AK Cc rfl EE.isinstance qq_ (Aa (pvD 0) (Aa (Kr (v:=.ref ay) rfl EE.m_j2 rfl) Ad)))))
   (Ae (Ak (i:=1) AN.nd (Ar Du (pvD 1) AA)))
   Au)
   (Eb (AZ (ptB (Fv (AK Cc rfl EE.isinstance qq_ (Aa (pvD 0) (Aa (Kr (v:=.ref ax) rfl EE.m_j1 rfl) Ad)))))
   (Ae (Ak (i:=1) AN.nd (Ar Du (pvD 1) AA)))
   Au)
   (Eb (AZ (ptB (Fv (AK Cc rfl EE.isinstance qq_ (Aa (pvD 0) (Aa (VC (v:=.ty "ValueError") rfl EE.ValueError L2.boot_ValueError rfl) Ad)))))
   (Ae (Ak (i:=1) AN.nd (Ar Du (pvD 1) AA)))
   Au)
   (Ae (Am (pvD 1))))))))))),?_⟩
  rcases h with ⟨rfl,k⟩|⟨ea,C,rfl,he,k⟩
  ·nofun;exact k
  ·have hk:∃(b0 b1 b2 b3 b4:Bool),ExcCls K C/\kitOne K (.ref C) (.ref aw)=some b0/\kitOne K (.ref C) (.ref au)=some b1/\kitOne K (.ref C) (.ref av)=some b2/\kitOne K (.ref C) (.ref ay)=some b3/\kitOne K (.ref C) (.ref ax)=some b4/\kitOne K (.ref C) (.type "ValueError")=some true/\(addS b0 "turn " "").length<=6/\(addS b1 "word " (addS b0 "turn " "")).length<=6/\(addS b2 "mark " (addS b1 "word " (addS b0 "turn " ""))).length<=6/\(addS b3 "alike " (addS b2 "mark " (addS b1 "word " (addS b0 "turn " "")))).length<=6/\(addS b4 "twice " (addS b3 "alike " (addS b2 "mark " (addS b1 "word " (addS b0 "turn " ""))))).length<=6/\Q (.str (addS b4 "twice " (addS b3 "alike " (addS b2 "mark " (addS b1 "word " (addS b0 "turn " ""))))++("value" : Str))) H:=by
    rcases k with ⟨rfl,k⟩|⟨rfl,k⟩|⟨rfl,k⟩|⟨rfl,k⟩|⟨rfl,k⟩
    ·exact⟨_,_,_,_,_,EE.c_j4,EE.k_j4_j4,EE.k_j4_j5,EE.k_j4_j6,EE.k_j4_j2,EE.k_j4_j1,EE.v_j4,by decide +kernel,by decide +kernel,by decide +kernel,by decide +kernel,by decide +kernel,k⟩
    ·exact⟨_,_,_,_,_,EE.c_j5,EE.k_j5_j4,EE.k_j5_j5,EE.k_j5_j6,EE.k_j5_j2,EE.k_j5_j1,EE.v_j5,by decide +kernel,by decide +kernel,by decide +kernel,by decide +kernel,by decide +kernel,k⟩
    ·exact⟨_,_,_,_,_,EE.c_j6,EE.k_j6_j4,EE.k_j6_j5,EE.k_j6_j6,EE.k_j6_j2,EE.k_j6_j1,EE.v_j6,by decide +kernel,by decide +kernel,by decide +kernel,by decide +kernel,by decide +kernel,k⟩
    ·exact⟨_,_,_,_,_,EE.c_j2,EE.k_j2_j4,EE.k_j2_j5,EE.k_j2_j6,EE.k_j2_j2,EE.k_j2_j1,EE.v_j2,by decide +kernel,by decide +kernel,by decide +kernel,by decide +kernel,by decide +kernel,k⟩
    ·exact⟨_,_,_,_,_,EE.c_j1,EE.k_j1_j4,EE.k_j1_j5,EE.k_j1_j6,EE.k_j1_j2,EE.k_j1_j1,EE.v_j1,by decide +kernel,by decide +kernel,by decide +kernel,by decide +kernel,by decide +kernel,k⟩
   obtain⟨b0,b1,b2,b3,b4,hc,k0,k1,k2,k3,k4,kv,l0,l1,l2,l3,l4,q⟩:=hk;nofun;have q0:(("" : Str)).length<=6:=by decide +kernel
   have w0:("turn " : Str).length<=6:=by decide +kernel
   have w1:("word " : Str).length<=6:=by decide +kernel
   have w2:("mark " : Str).length<=6:=by decide +kernel
   have w3:("alike " : Str).length<=6:=by decide +kernel
   have w4:("twice " : Str).length<=6:=by decide +kernel
   have w5:("value" : Str).length<=6:=by decide +kernel
   refine⟨fun af H'=>af=[some (.ref ea),some (.str (addS b0 "turn " ("" : Str)))]/\H'=H,?_,fun af H' hh=>?_⟩
   ·nofun;exact⟨_,_,.exc he hc,KC,b0,k0,La s!""⟩
   obtain⟨rfl,hH⟩:=hh;have hH:=hH.symm;subst hH;refine⟨fun af H'=>af=[some (.ref ea),some (.str (addS b1 "word " (addS b0 "turn " ("" : Str))))]/\H'=H,?_,fun af H' hh=>?_⟩
   ·nofun;exact⟨_,_,.exc he hc,KC,b1,k1,La s!""⟩
   obtain⟨rfl,hH⟩:=hh;have hH:=hH.symm;subst hH;refine⟨fun af H'=>af=[some (.ref ea),some (.str (addS b2 "mark " (addS b1 "word " (addS b0 "turn " ("" : Str)))))]/\H'=H,?_,fun af H' hh=>?_⟩
   ·nofun;exact⟨_,_,.exc he hc,KC,b2,k2,La s!""⟩
   obtain⟨rfl,hH⟩:=hh;have hH:=hH.symm;subst hH;refine⟨fun af H'=>af=[some (.ref ea),some (.str (addS b3 "alike " (addS b2 "mark " (addS b1 "word " (addS b0 "turn " ("" : Str))))))]/\H'=H,?_,fun af H' hh=>?_⟩
   ·nofun;exact⟨_,_,.exc he hc,KC,b3,k3,La s!""⟩
   obtain⟨rfl,hH⟩:=hh;have hH:=hH.symm;subst hH;refine⟨fun af H'=>af=[some (.ref ea),some (.str (addS b4 "twice " (addS b3 "alike " (addS b2 "mark " (addS b1 "word " (addS b0 "turn " ("" : Str)))))))]/\H'=H,?_,fun af H' hh=>?_⟩
   ·nofun;exact⟨_,_,.exc he hc,KC,b4,k4,La s!""⟩
   obtain⟨rfl,hH⟩:=hh;have hH:=hH.symm;subst hH;refine⟨fun af iG=>af=[some (.ref ea),some (.str ((addS b4 "twice " (addS b3 "alike " (addS b2 "mark " (addS b1 "word " (addS b0 "turn " ("" : Str))))))++("value" : Str)))]/\iG=H,?_,fun af iG hh=>?_⟩
   ·nofun;refine⟨_,_,.exc he hc,XE,true,kv,?_⟩;rw[if_pos rfl];lia
   obtain⟨rfl,hH⟩:=hh;have hH:=hH.symm;subst hH;nofun;exact q
noncomputable def QS (H:Hp)(Q:VK)(x:Str):Prop:=∀H',Same H H'->Q (.str x) H'
noncomputable def NM (OT BW BM ND CO:Addr)(H:Hp)(Q:VK)(C:Addr):Prop:=(C=OT/\QS H Q "turn value")\/(C=BW/\QS H Q "word value")\/(C=BM/\QS H Q "mark value")\/(C=ND/\QS H Q "alike value")\/(C=CO/\QS H Q "twice value")
def NM.told (k:NM OT BW BM ND CO H Q C)(s:Same H H'):(C=OT/\Q (.str "turn value") H')\/(C=BW/\Q (.str "word value") H')\/(C=BM/\Q (.str "mark value") H')\/(C=ND/\Q (.str "alike value") H')\/(C=CO/\Q (.str "twice value") H'):=by
 rcases k with ⟨e,k⟩|⟨e,k⟩|⟨e,k⟩|⟨e,k⟩|⟨e,k⟩
 ·exact .inl ⟨e,k _ s⟩
 ·exact .inr (.inl ⟨e,k _ s⟩)
 ·exact .inr (.inr (.inl ⟨e,k _ s⟩))
 ·exact .inr (.inr (.inr (.inl ⟨e,k _ s⟩)))
 ·exact .inr (.inr (.inr (.inr ⟨e,k _ s⟩)))
noncomputable def Jj (K:α3)(CA CB:Addr):Sp:=fun vs H Q _=>∃(p:Addr) (ad:AD) (s:AS) (wv:V) (x:Wish) (B:Nat) (m:Int),vs=[.ref p,.int m]/\Asks K CA CB H p ad s wv/\A7 K H s.p s.L wv x/\WOk B s x/\Bd B s/\s.es.length<=900/\(x.tag ≠ "ask" -> QS H Q "turn value")/\∀c,x=.ask c->¬ (0<=m/\m<s.p)/\QS H Q "mark value"
def Cq:⋯ EE.j44 14 ["asker","number"] (Jj K ag aj):=by
 delta EE.j44 Dq
 ·obtain⟨p,ad,s,wv,x,B,m,rfl,_⟩:=h;rfl
 ·obtain⟨p,ad,s,wv,x,B,m,rfl,S,hw,ok,bd,hz,kT,kM⟩:=h;obtain⟨kF,kH,kI,kJ,kK,x0⟩:=id S;have hp:=x0.ob;have hl:=Al;refine⟨_,(Ac (Ak (i:=2) Dq.nd Bw)
   (Eb (Rf (i:=3) (E:=(fun σ cls d H1=>σ=[some (.ref p),some (.int m),some .non,none]/\d=none/\Same H H1/\∃C,cls=.ref C/\NM aw au av ay ax H Q C)) Dq.nd rfl rfl rfl EE.m_j7 rfl rfl rfl (fun xe pn hx=>(Ae (AB (O7 (pvD 0) EE.cl_j0 EE.j42.m (BY EE).g hr.d (BY EE).b .nil hx (Aa (pvD 1) Ad)))))
   (fun ea pn=>(Ae (Ak (i:=2) Dq.nd (pvD 3)))))
   (Ae (Am (Af (CM EE) hr.d An (Aa (pvD 2) Ad)))))),?_⟩
  nofun;refine⟨fun af H'=>∃(ea C:Addr),af=[some (.ref p),some (.int m),some (.ref ea),none]/\H' ea=some (excO ea C)/\Same H H'/\NM aw au av ay ax H Q C,?_,fun b7 H1 h1=>?_⟩
  ·nofun;refine⟨⟨_,_,hp,by kernel_rfl,p,ad,s,wv,x,B,m,rfl,S,hw,ok,bd,hz,fun hx=>⟨rfl,Same.refl _,_,rfl,.inl ⟨rfl,kT hx⟩⟩,fun c hc=>⟨fun _ H1 s1=>⟨rfl,s1,_,rfl,.inr (.inr (.inl ⟨rfl,(kM c hc).2⟩))⟩,fun h0 h9=>absurd ⟨h0,h9⟩ (kM c hc).1⟩⟩,fun b7 cls H1 h1=>?_⟩
   ·obtain⟨rfl,s1,C,rfl,hk⟩:=h1;have hx:exmOne K (.ref C) (.ref aP)=some true:=by
     rcases id hk with ⟨rfl,_⟩|⟨rfl,_⟩|⟨rfl,_⟩|⟨rfl,_⟩|⟨rfl,_⟩
     ·exact EE.e_j4
     ·exact EE.e_j5
     ·exact EE.e_j6
     ·exact EE.e_j2
     ·exact EE.e_j1
    refine⟨C,rfl,hx,fun ea dI=>?_⟩;nofun;exact⟨C,Ab,s1.newT dI,hk⟩
  ·obtain⟨ea,C,rfl,dI,s1,hk⟩:=h1;nofun;exact .inr ⟨ea,C,rfl,dI,hk.told s1⟩
noncomputable def Lb (K:α3)(CA CB:Addr):Sp:=fun vs H Q _=>∃(p:Addr) (ad:AD) (s:AS) (wv:V) (x:Wish),vs=[.ref p]/\Asks K CA CB H p ad s wv/\A7 K H s.p s.L wv x/\x.tag ≠ "show" /\ QS H Q "turn value"
def GN:⋯ EE.j46 3 ["asker"] (Lb K ag aj):=by
 delta EE.j46 CT
 ·obtain⟨p,ad,s,wv,x,rfl,_⟩:=h;rfl
 ·obtain⟨p,ad,s,wv,x,rfl,S,hw,i9,kT⟩:=h;obtain⟨kF,kH,kI,kJ,kK,x0⟩:=id S;have hp:=x0.ob;have hl:=Al;refine⟨_,(Ac (Ak (i:=1) CT.nd Bw)
   (Eb (Rf (i:=2) (E:=(fun σ cls d H1=>σ=[some (.ref p),some .non,none]/\d=none/\Same H H1/\∃C,cls=.ref C/\NM aw au av ay ax H Q C)) CT.nd rfl rfl rfl EE.m_j7 rfl rfl rfl (fun xe pn hx=>(Ae (AB (RM (pvD 0) EE.cl_j0 EE.j45.m (Dr EE).g hr.d (Dr EE).b .nil hx))))
   (fun ea pn=>(Ae (Ak (i:=1) CT.nd (pvD 2)))))
   (Ae (Am (Af (CM EE) hr.d An (Aa (pvD 1) Ad)))))),?_⟩
  nofun;refine⟨fun af H'=>∃(ea C:Addr),af=[some (.ref p),some (.ref ea),none]/\H' ea=some (excO ea C)/\Same H H'/\NM aw au av ay ax H Q C,?_,fun b7 H1 h1=>?_⟩
  ·nofun;refine⟨⟨_,_,hp,by kernel_rfl,p,ad,s,wv,x,rfl,S,hw,fun hx=>⟨rfl,Same.refl _,_,rfl,.inl ⟨rfl,kT⟩⟩,fun mm ws hx=>absurd (by rw[hx];rfl) i9⟩,fun b7 cls H1 h1=>?_⟩
   ·obtain⟨rfl,s1,C,rfl,hk⟩:=h1;have hx:exmOne K (.ref C) (.ref aP)=some true:=by
     rcases id hk with ⟨rfl,_⟩|⟨rfl,_⟩|⟨rfl,_⟩|⟨rfl,_⟩|⟨rfl,_⟩
     ·exact EE.e_j4
     ·exact EE.e_j5
     ·exact EE.e_j6
     ·exact EE.e_j2
     ·exact EE.e_j1
    refine⟨C,rfl,hx,fun ea dI=>?_⟩;nofun;exact⟨C,Ab,s1.newT dI,hk⟩
  ·obtain⟨ea,C,rfl,dI,s1,hk⟩:=h1;nofun;exact .inr ⟨ea,C,rfl,dI,hk.told s1⟩
noncomputable def F7 (K:α3)(CA CB:Addr):Sp:=fun vs H Q _=>∃(p t:Addr) (ad:AD) (s:AS) (wv:V) (x:Wish) (B:Nat) (w:α2) (m:Int),vs=[.ref p,.ref t,.int m]/\Asks K CA CB H p ad s wv/\A7 K H s.p s.L wv x/\WOk B s x/\Bd B s/\s.es.length<=900/\H t=some (.tup (w.map V.int))/\w.length<=600/\(x.tag ≠ "show" -> QS H Q "turn value")/\∀mm ws,x=.shown mm ws->(isW s.L w=false->QS H Q "word value")/\(isW s.L w=true->¬ (0<=m/\m<s.p)->QS H Q "mark value")/\(isW s.L w=true->0<=m->m<s.p->(W71 s.p mm ws w=m->QS H Q "alike value")/\(W71 s.p mm ws w≠m->w∈s.es.map (·.1)/\QS H Q "twice value"))
def AJ:⋯ EE.j52 14 ["asker","word","number"] (F7 K ag aj):=by
 delta EE.j52 Cm
 ·obtain⟨p,t,ad,s,wv,x,B,w,m,rfl,_⟩:=h;rfl
 ·obtain⟨p,t,ad,s,wv,x,B,w,m,rfl,S,hw,ok,bd,hz,ht,eh,kT,kD⟩:=h;obtain⟨kF,kH,kI,kJ,kK,x0⟩:=id S;have hp:=x0.ob;have hl:=Al;refine⟨_,(Ac (Ak (i:=3) Cm.nd Bw)
   (Eb (Rf (i:=4) (E:=(fun σ cls d H1=>σ=[some (.ref p),some (.ref t),some (.int m),some .non,none]/\d=none/\Same H H1/\∃C,cls=.ref C/\NM aw au av ay ax H Q C)) Cm.nd rfl rfl rfl EE.m_j7 rfl rfl rfl (fun xe pn hx=>(Ae (AB (O7 (pvD 0) EE.cl_j0 EE.j51.m (Bv EE).g hr.d (Bv EE).b .nil hx (Aa (pvD 1) (Aa (pvD 2) Ad))))))
   (fun ea pn=>(Ae (Ak (i:=3) Cm.nd (pvD 4)))))
   (Ae (Am (Af (CM EE) hr.d An (Aa (pvD 3) Ad)))))),?_⟩
  nofun;refine⟨fun af H'=>∃(ea C:Addr),af=[some (.ref p),some (.ref t),some (.int m),some (.ref ea),none]/\H' ea=some (excO ea C)/\Same H H'/\NM aw au av ay ax H Q C,?_,fun b7 H1 h1=>?_⟩
  ·nofun;refine⟨⟨_,_,hp,by kernel_rfl,p,t,ad,s,wv,x,B,w,m,rfl,S,hw,ok,bd,hz,ht,eh,fun hx=>⟨rfl,Same.refl _,_,rfl,.inl ⟨rfl,kT hx⟩⟩,fun mm ws hx=>⟨fun hb H1 s1=>⟨rfl,s1,_,rfl,.inr (.inl ⟨rfl,(kD mm ws hx).1 hb⟩)⟩,fun hv hm H1 s1=>⟨rfl,s1,_,rfl,.inr (.inr (.inl ⟨rfl,(kD mm ws hx).2.1 hv hm⟩))⟩,fun hv h0 h9=>⟨fun he H1 s1=>⟨rfl,s1,_,rfl,.inr (.inr (.inr (.inl ⟨rfl,((kD mm ws hx).2.2 hv h0 h9).1 he⟩)))⟩,fun he bz H1 s1=>⟨rfl,s1,_,rfl,.inr (.inr (.inr (.inr ⟨rfl,(((kD mm ws hx).2.2 hv h0 h9).2 he).2⟩)))⟩,fun he bz=>absurd (((kD mm ws hx).2.2 hv h0 h9).2 he).1 bz⟩⟩⟩,fun b7 cls H1 h1=>?_⟩
   ·obtain⟨rfl,s1,C,rfl,hk⟩:=h1;have hx:exmOne K (.ref C) (.ref aP)=some true:=by
     rcases id hk with ⟨rfl,_⟩|⟨rfl,_⟩|⟨rfl,_⟩|⟨rfl,_⟩|⟨rfl,_⟩
     ·exact EE.e_j4
     ·exact EE.e_j5
     ·exact EE.e_j6
     ·exact EE.e_j2
     ·exact EE.e_j1
    refine⟨C,rfl,hx,fun ea dI=>?_⟩;nofun;exact⟨C,Ab,s1.newT dI,hk⟩
  ·obtain⟨ea,C,rfl,dI,s1,hk⟩:=h1;nofun;exact .inr ⟨ea,C,rfl,dI,hk.told s1⟩
def Goes.det (g:Goes s a x)(h:Goes s b y):a=b/\x=y:=by
 induction g with
 |stop e=>
  cases h with
  |stop e'=>rw[e]at e';cases e';exact⟨rfl,rfl⟩
  |more e' _=>rw[e]at e';cases e'
 |more e _ ih=>
  cases h with
  |stop e'=>rw[e]at e';cases e'
  |more e' h'=>rw[e]at e';cases e';exact ih h'
noncomputable def Jk (ns:α2)(L ar:Nat):α2:=Ji ns (4+ar) L (1+cell ns (4+ar)%5).toNat
noncomputable def GO (ns:α2)(ar:Nat)(s:AS)(x:Wish)(s':AS)(x':Wish):Prop:=match x with
 |.ask c=>Goes {s with es:=s.es++[(c,bigF ns (4+ar)%s.p)]} s' x'
 |.shown mm ws=>(cell ns (5+ar)%9=4/\s'=s/\x'=.done mm ws)\/(cell ns (5+ar)%9≠4/\∃n,(∀j,j<n->Jk ns s.L ar++nI j 0∈s.es.map (·.1))/\Jk ns s.L ar++nI n 0∉s.es.map (·.1)/\Goes {s with es:=s.es++[(Jk ns s.L ar++nI n 0,(W71 s.p mm ws (Jk ns s.L ar++nI n 0)+1)%s.p)]} s' x')
 |_=>s'=s/\x'=x
def Sy {v:α2}{ks:α1}{n m:Nat}(h1:∀j,j<n->v++nI j 0∈ks)(h2:v++nI n 0∉ks)(g1:∀j,j<m->v++nI j 0∈ks)(g2:v++nI m 0∉ks):n=m:=by
 rcases Nat.lt_trichotomy n m with h|h|h
 ·exact absurd (g1 n h) h2
 ·exact h
 ·exact absurd (h1 m h) g2
def GO.det (g:GO ns ar s x a y)(h:GO ns ar s x b z):a=b/\y=z:=by
 cases x with
 |ask c=>exact Goes.det g h
 |shown mm ws=>
  rcases g with ⟨_,rfl,rfl⟩|⟨hc,n,g1,g2,g⟩
  ·rcases h with ⟨_,rfl,rfl⟩|⟨dW,_⟩
   ·exact⟨rfl,rfl⟩
   ·contradiction
  ·rcases h with ⟨dW,_⟩|⟨_,m,h1,h2,h⟩
   ·contradiction
   ·have e:=Sy g1 g2 h1 h2;subst e;exact Goes.det g h
 |done mm ws=>obtain⟨rfl,rfl⟩:=g;obtain⟨rfl,rfl⟩:=h;exact⟨rfl,rfl⟩
 |spent c=>obtain⟨rfl,rfl⟩:=g;obtain⟨rfl,rfl⟩:=h;exact⟨rfl,rfl⟩
inductive DRun (ns:α2)(p:Int)(L most:Nat):Nat->AS->Wish->Prop where
 | zero {s:AS} {x:Wish}:Goes (s071 p L most) s x->DRun ns p L most 0 s x
 | succ {n:Nat} {s s':AS} {x x':Wish}:DRun ns p L most n s x->GO ns n s x s' x'->DRun ns p L most (n+1) s' x'
def DRun.det (g:DRun ns p L most n s x)(h:DRun ns p L most n s' x'):s=s'/\x=x':=by
 induction n generalizing s s' x x' with
 |zero=>
  cases g with
  |zero g=>cases h with
   |zero h=>exact Goes.det g h
 |succ n ih=>
  cases g with
  |succ g st=>cases h with
   |succ h cj =>
    obtain⟨rfl,rfl⟩:=ih g h;exact GO.det st cj
structure R71r (p:Int)(L most n:Nat)(s:AS)(x:Wish):Prop where
 ok:WOk 100 s x
 q:s.p=p
 l:s.L=L
 m:s.most=most
 e:s.es.length<=n
def Pp (ns:α2)(ar n:Nat){L:Nat}(l1:1<=L):isW (L:Int) (Jk ns L ar++nI n 0)=true/\Jk ns L ar++nI n 0 ≠ []/\(Jk ns L ar++nI n 0).length<=5+n:=by
 have c0:=jC_ (cell ns (4+ar)) (show (5:Int)≠0 by decide);have c1:=jx_ (cell ns (4+ar)) (show (0:Int)<5 by decide);have hb:(Jk ns L ar).length=(1+cell ns (4+ar)%5).toNat:=Im ..;refine⟨Bn.mpr fun x hx=>?_,fun z=>?_,?_⟩
 ·rcases jJ_.mp hx with h|h
  ·exact Bn.mp (NL ns _ _ l1) x h
  ·rw[(List.mem_replicate.mp h).2];lia
 ·have:=qY_ oh z;rw[ju_,hb]at this;simp at this;lia
 ·rw[ju_,hb,xb_];lia
def SA (l1:1<=L)(hn:n<=90)(r:R71r p L most n s x)(st:GO ns ar s x s' x'):R71r p L most (n+1) s' x':=by
 have bx:=r.e;cases x with
 |ask c=>
  obtain⟨jD,bA,hc,ak,hg⟩:=id r.ok;have d9:c∉s.es.map (·.1):=fun z=>by
   obtain⟨n,bx⟩:=OC.mp z;rw[bA]at bx;cases bx
  have p2:=jD.tb.pr.1;have m0:=jC_ (bigF ns (4+ar)) (show s.p≠0 by lia);have m9:=jx_ (bigF ns (4+ar)) (show 0<s.p by lia);have ie:=jD.told (m:=bigF ns (4+ar)%s.p) (fun b hb=>(jt_ hb).symm) d9 hc m0 m9 ak hg;obtain⟨kx,kp⟩:=Goes.ok st ie;exact⟨kx,kp.q.trans r.q,kp.l.trans r.l,kp.m.trans r.m,by rw[kp.e];simp;lia⟩
 |shown mm ws=>
  rcases st with ⟨_,rfl,rfl⟩|⟨_,k,h1,h2,st⟩
  ·exact⟨r.ok,r.q,r.l,r.m,by lia⟩
  ·obtain⟨dQ,hG,cZ,i7,gu,aA⟩:=id r.ok;have p2:=dQ.tb.pr.1;obtain⟨b1,b2,b3⟩:=Pp ns ar k (L:=s.L) (by rw[r.l];exact l1);have hk:=Sv h1;rw[ja_]at hk;have ie:=dQ.told (m:=(W71 s.p mm ws (Jk ns s.L ar++nI k 0)+1)%s.p) (fun b hb=>(by cases hb)) h2 b1 (jC_ _ s!"") (jx_ _ s!"") s!"" (by rw[hG];simp);obtain⟨kx,kp⟩:=Goes.ok st ie;exact⟨kx,kp.q.trans r.q,kp.l.trans r.l,kp.m.trans r.m,by rw[kp.e];simp;lia⟩
 |done mm ws=>obtain⟨rfl,rfl⟩:=st;exact⟨r.ok,r.q,r.l,r.m,by lia⟩
 |spent c=>obtain⟨rfl,rfl⟩:=st;exact⟨r.ok,r.q,r.l,r.m,by lia⟩
def DRun.ok (hp:Pr p)(l1:1<=L)(l6:L<=6)(m12:most<=12)(hn:n<=90)(g:DRun ns p L most n s x):R71r p L most n s x:=by
 induction g with
 |zero e=>
  obtain⟨ok,kp⟩:=e.ok (Sl 100 s!"" hp hp.2.1 l1 l6 m12);exact⟨ok,kp.q,kp.l,kp.m,by rw[kp.e];exact j3_ _⟩
 |succ _ st ih=>exact SA l1 s!"" (ih s!"") st
noncomputable def KP (P:Hp->Prop)(H:Hp)(a:Addr)(ad:AD):Prop:=∀H',Frm H H' a ad->P H'
def KP.now {P:Hp->Prop}{H:Hp}{a:Addr}{ad:AD}(k:KP P H a ad):P H:=k H (Frm.of (Same.refl _) a ad)
noncomputable def SD (K:α3)(CA CB:Addr):Sp:=fun vs H Q _=>∃(a q:Addr) (ns:α2) (p:Int) (L most n ar:Nat) (ad:AD) (s:AS) (wv:V) (x:Wish),vs=[.ref a,.ref q,.int p,.int L,.int ar]/\Asks K CA CB H a ad s wv/\A7 K H s.p s.L wv x/\R71r p L most n s x/\Bd 100 s/\n<=90/\ar<=90/\1<=L/\KP (fun H'=>SqL K H' q (ns.map V.int)) H a ad/\ns.length<=63/\∀az H' s' x' wv',GO ns ar s x s' x'->Asks K CA CB H' a az s' wv'->A7 K H' s.p s.L wv' x'->Frm H H' a ad->AdOk H ad az->Q .non H'
def F8:⋯ EE.j66 14 ["asker","script","p","letters","turn"] (SD K ag aj):=by
 delta EE.j66 FY
 ·obtain⟨a,q,ns,p,L,most,n,ar,ad,s,wv,x,rfl,_⟩:=h;rfl
 ·obtain⟨a,q,ns,p,L,most,n,ar,ad,s,wv,y,rfl,S,hw,r,bd,hn,ht,l1,hq,hz,k⟩:=h;obtain⟨gv,rv,zs,ys,us,x⟩:=id S;have hp:=x.ob;have hl:=Al;have bC:=hq.now;have hre:=r.e;have hL:=r.l;subst hL;have hP:=r.q;subst hP;refine⟨_,(Ac (Ak (i:=5) FY.nd (AQ (pvD 0) EE.cl_j0 EE.j0.m (A8 EE).g hr.d (A8 EE).b .nil An))
   (Ae (AZ (ptT (Ap (opE Gw) (As (ixTD Ay) (pvD 5) Ai) AA (Av _)))
   (Ae (AB (Bh (pvD 0) EE.cl_j0 EE.j42.m (BY EE).g hr.d (BY EE).b .nil (IT (P:=P) (w:=w)) (Aa (Af (Lz EE) hr.d An (Aa (pvD 1) (Aa (Ar (opD0 Bl) Ai (pvD 4)) (Aa (pvD 2) Ad)))) Ad))))
   (Ae (AZ (PW.pt (WU (ptT (Ap (opE Gw) (As (ixTD Ay) (pvD 5) Ai) AA (Av _))) (VD (ptT (Ap (opE Gw) (Ar (opD A0) (Af (AI EE) hr.d An (Aa (pvD 1) (Aa (Ar (opD0 Bl) Ai (pvD 4)) Ad))) Ai) Ai (Av _))))))
   (Ae (AB (AQ (pvD 0) EE.cl_j0 EE.j45.m (Dr EE).g hr.d (Dr EE).b .nil (IT (P:=P) (w:=w)))))
   (Ae (AZ (ptT (Ap (opE Gw) (As (ixTD Ay) (pvD 5) Ai) AA (Av _)))
   (Ac (Ak (i:=6) FY.nd (Af (Kc EE) hr.d An (Aa (pvD 1) (Aa (Ar (opD0 Bl) Ai (pvD 4)) (Aa (pvD 3) (Aa (AQ (pvD 0) EE.cl_j0 EE.j58.m (BI EE).g hr.d (BI EE).b .nil An) Ad))))))
   (Ae (AB (Bh (pvD 0) EE.cl_j0 EE.j51.m (Bv EE).g hr.d (Bv EE).b .nil (IT (P:=P) (w:=w)) (Aa (pvD 6) (Aa (Ar (opD A0) (Ar (opD0 Bl) (Af (Il EE) hr.d An (Aa (As (ixTD Ay) (pvD 5) Ai) (Aa (pvD 6) Ad))) Ai) (pvD 2)) Ad))))))
   Au))))))),?_⟩
  nofun;refine⟨_,_,hp,by kernel_rfl,a,ad,s,wv,rfl,S,?_⟩;cases y with
  |ask c=>
   obtain⟨t,u,rfl,aT,hu⟩:=id hw;have aT:H t=some (.tup [.str ("ask" : Str),.ref u]):=aT;refine⟨t,rfl,_,SqT.of aT,_,rfl,rfl,?_⟩;rw[if_pos rfl];have p2:=r.ok.1.tb.pr.1;refine⟨_,_,hp,by kernel_rfl,q,ns,4+(ar:Int),s.p,rfl,bC,hz,by lia,by lia,by lia,a,ad,s,_,.ask c,100,_,rfl,S,hw,r.ok,bd,by lia,fun hx=>absurd rfl hx,fun c' hc=>⟨fun bA=>absurd ⟨jC_ _ s!"",jx_ _ s!""⟩ bA,fun h0 h9 az H' s' x' wv' go S' gE f o=>k az H' s' x' wv' ?_ S' gE f o⟩⟩;cases hc;exact go
  |shown mm ws=>
   obtain⟨t,u,rfl,aT,hu⟩:=id hw;have aT:H t=some (.tup [.str ("show" : Str),.ref u]):=aT;obtain⟨dQ,hG,cZ,i7,gu,aA⟩:=id r.ok;have wf:=gu.wf dQ.tb;have p2:=dQ.tb.pr.1;refine⟨t,rfl,_,SqT.of aT,_,rfl,rfl,?_⟩;rw[if_neg (fun z=>absurd (V.str.inj z) (by decide +kernel))];refine⟨t,rfl,_,SqT.of aT,_,rfl,rfl,?_⟩;rw[if_pos rfl];refine⟨q,ns,5+ar,by push_cast;rfl,bC,_,rfl,by decide,?_⟩;by_cases hc:cell ns (5+ar)%9=4
   ·rw[if_pos hc];refine⟨_,_,hp,by kernel_rfl,a,ad,s,_,_,rfl,S,hw,fun hx=>absurd rfl hx,fun mm' ws' e H' wv' S' gE f=>?_⟩;cases e;exact k ad H' s _ wv' (.inl ⟨hc,rfl,rfl⟩) S' gE f (AdOk.refl H ad)
   ·rw[if_neg hc];refine⟨t,rfl,_,SqT.of aT,_,rfl,rfl,?_⟩;rw[if_pos rfl];refine⟨_,_,hp,by kernel_rfl,a,ad,s,_,rfl,S,fun l rs H1 s1 fB cy ic=>?_⟩;refine⟨q,l,ns,4+ar,s.L,rs,s.es,by push_cast;rfl,s1.seq bC,l1,cy,ic,by lia,fun t2 m H2 s2 h1 h2 hm dN=>?_⟩;have bj:=s1.trans s2;obtain⟨b1,b2,b3⟩:=Pp ns ar m l1;have h1:∀j,j<m->Jk ns s.L ar++nI j 0∈s.es.map (·.1):=h1;have h2:Jk ns s.L ar++nI m 0∉s.es.map (·.1):=h2;have dN:H2 t2=some (.tup ((Jk ns s.L ar++nI m 0).map V.int)):=dN;have e0:GO ns ar s (.shown mm ws)=GO ns ar s (.shown mm ws):=rfl;refine⟨_,_,bj _ _ hp,by kernel_rfl,t,rfl,_,SqT.of (bj _ _ aT),_,rfl,?_⟩;obtain⟨v,hv⟩:∃v,v=Jk ns s.L ar++nI m 0:=⟨_,rfl⟩;have ew:dotW (rowS s.p ws.length mm (Bu ws.length 0) v) ws%s.p=W71 s.p mm ws v:=by unfold W71 R71;rw[Be]
    have r0:0<=W71 s.p mm ws v:=jC_ _ s!"";have r1:W71 s.p mm ws v<s.p:=jx_ _ s!"";refine⟨u,t2,s.p,s.L,_,_,ws,v,mm,rfl,(GuT.sum hu).mono bj,wf,SqT.of (by rw[hv];exact dN),by rw[hv];exact b1,fun H3 s3=>?_⟩;rw[ew];have gF:=bj.trans s3;refine⟨_,rfl,by lia,a,t2,ad,s,_,.shown mm ws,100,v,_,rfl,⟨_,_,_,_,_,x.same gF⟩,hw.mono (TK.of gF),r.ok,bd,by lia,by rw[hv];exact s3 _ _ dN,by rw[hv];lia,fun hx=>absurd rfl hx,fun mm' ws' e=>?_⟩;cases e;refine⟨fun hb=>?_,fun _ hJ=>?_,fun _ h0 h9=>⟨fun he=>?_,fun _ bz=>absurd bz (by rw[hv];exact h2),fun _ _=>⟨by rw[hv];lia,fun az H' s' x' wv' go S' gE f o=>k az H' s' x' wv' (.inr ⟨hc,m,h1,h2,by rw[<-hv];exact go⟩) S' gE ((Frm.of gF a ad).seq f) (AdOk.trans (Frm.of gF a ad) (AdOk.refl H ad) o)⟩⟩⟩
    ·rw[hv,b1]at hb;cases hb
    ·exact absurd ⟨jC_ _ s!"",jx_ _ s!""⟩ hJ
    ·exfalso;by_cases aF:W71 s.p mm ws v+1<s.p
     ·rw[j0_ s!"" aF]at he;lia
     ·rw[show W71 s.p mm ws v+1=s.p by lia,rb]at he;lia
  |done mm ws=>
   obtain⟨t,u,rfl,aT,hu⟩:=id hw;have aT:H t=some (.tup [.str ("done" : Str),.ref u]):=aT;refine⟨t,rfl,_,SqT.of aT,_,rfl,rfl,?_⟩;rw[if_neg (fun z=>absurd (V.str.inj z) (by decide +kernel))];refine⟨t,rfl,_,SqT.of aT,_,rfl,rfl,?_⟩;rw[if_neg (fun z=>absurd (V.str.inj z) (by decide +kernel))];refine⟨t,rfl,_,SqT.of aT,_,rfl,rfl,?_⟩;rw[if_neg (fun z=>absurd (V.str.inj z) (by decide +kernel))];exact k ad H s _ _ ⟨rfl,rfl⟩ S hw (Frm.of (Same.refl _) a ad) (AdOk.refl H ad)
  |spent c=>
   obtain⟨t,u,rfl,aT,hu⟩:=id hw;have aT:H t=some (.tup [.str ("spent" : Str),.ref u]):=aT;refine⟨t,rfl,_,SqT.of aT,_,rfl,rfl,?_⟩;rw[if_neg (fun z=>absurd (V.str.inj z) (by decide +kernel))];refine⟨t,rfl,_,SqT.of aT,_,rfl,rfl,?_⟩;rw[if_neg (fun z=>absurd (V.str.inj z) (by decide +kernel))];refine⟨t,rfl,_,SqT.of aT,_,rfl,rfl,?_⟩;rw[if_neg (fun z=>absurd (V.str.inj z) (by decide +kernel))];exact k ad H s _ _ ⟨rfl,rfl⟩ S hw (Frm.of (Same.refl _) a ad) (AdOk.refl H ad)
def Asks.same {K:α3} {ad:AD} {wv:V}(x:Asks K CA CB H a ad s wv)(e:Same H H'):Asks K CA CB H' a ad s wv:=by
 obtain⟨gv,rv,zs,ys,us,x⟩:=x;exact⟨_,_,_,_,_,x.same e⟩
noncomputable def LB (K:α3)(H:Hp)(l:Addr)(s:AS)(x:Wish):Prop:=∃wv l1 l2 l3 xs ys rs,H l=some (.lst [wv,.ref l1,.ref l2,.ref l3])/\A7 K H s.p s.L wv x/\H l1=some (.lst xs)/\Ao K H xs s.W/\H l2=some (.lst ys)/\Ao K H ys s.E/\H l3=some (.lst rs)/\Cn H rs s.es
def LB.mono {K:α3} (h:LB K H l s x)(e:Same H H'):LB K H' l s x:=by
 obtain⟨wv,l1,l2,l3,xs,ys,rs,a,b,c,d,f,g,i,j⟩:=h;exact⟨wv,l1,l2,l3,xs,ys,rs,e _ _ a,b.mono (TK.of e),e _ _ c,d.mono (TK.of e),e _ _ f,g.mono (TK.of e),e _ _ i,j.mono (TK.of e)⟩
noncomputable def Uq (K:α3)(CA CB:Addr):Sp:=fun vs H Q _=>∃(a:Addr) (ad:AD) (s:AS) (wv:V) (x:Wish),vs=[.ref a]/\Asks K CA CB H a ad s wv/\A7 K H s.p s.L wv x/\∀l H',Same H H'->LB K H' l s x->Q (.ref l) H'
def CN:⋯ EE.j70 3 ["asker"] (Uq K ag aj):=by
 delta EE.j70 Ow
 ·obtain⟨a,ad,s,wv,x,rfl,_⟩:=h;rfl
 ·obtain⟨a,ad,s,wv,y,rfl,S,hw,k⟩:=h;obtain⟨kF,kH,kI,kJ,kK,x0⟩:=id S;have hp:=x0.ob;have hl:=Al;refine⟨_,(Ae (Am (E9 (Aa (AQ (pvD 0) EE.cl_j0 EE.j0.m (A8 EE).g hr.d (A8 EE).b .nil An) (Aa (AQ (pvD 0) EE.cl_j0 EE.j68.m (GL EE).g hr.d (GL EE).b .nil An) (Aa (AQ (pvD 0) EE.cl_j0 EE.j69.m (F6 EE).g hr.d (F6 EE).b .nil An) (Aa (AQ (pvD 0) EE.cl_j0 EE.j58.m (BI EE).g hr.d (BI EE).b .nil An) Ad))))))),?_⟩;nofun;refine⟨_,_,hp,by kernel_rfl,a,ad,s,wv,rfl,S,_,_,hp,by kernel_rfl,a,ad,s,wv,rfl,S,fun l1 xs H1 s1 h10 h1 w1=>?_⟩;refine⟨_,_,s1 _ _ hp,by kernel_rfl,a,ad,s,wv,rfl,S.same s1,fun l2 ys H2 s2 h20 h2 w2=>?_⟩;have bj:=s1.trans s2;refine⟨_,_,bj _ _ hp,by kernel_rfl,a,ad,s,wv,rfl,S.same bj,fun l3 rs H3 s3 h30 h3 w3=>⟨by lia,fun l iQ=>?_⟩⟩;have s4:=Same.new iQ (o:=.lst [wv,.ref l1,.ref l2,.ref l3]);have cD:=s3.trans s4;have s24:=s2.trans cD;exact k l _ (bj.trans cD) ⟨wv,l1,l2,l3,xs,ys,rs,Ab,hw.mono (TK.of (bj.trans cD)),s24 _ _ h1,w1.mono (TK.of s24),cD _ _ h2,w2.mono (TK.of cD),s4 _ _ h3,w3.mono (TK.of s4)⟩
def YM {K:α3}{H H1:Hp} {ad:AD}(h:SqL K H q xs)(e:∀y o,H y=some o->H1 y=some o)(fr:H a=none/\H ad.d=none/\H ad.pw=none/\H ad.pe=none/\H ad.pg=none):KP (fun H'=>SqL K H' q xs) H1 a ad:=fun H2 f=>by
 have g:∀o,H q=some o->H2 q=some o:=fun o hy=>f.1 q o (e _ _ hy) (fun z=>by rw[z,fr.1]at hy;cases hy) (fun z=>by rw[z,fr.2.1]at hy;cases hy) (fun z=>by rw[z,fr.2.2.1]at hy;cases hy) (fun z=>by rw[z,fr.2.2.2.1]at hy;cases hy) (fun z=>by rw[z,fr.2.2.2.2]at hy;cases hy);rcases h with (h|⟨o,h⟩)|h
 ·exact .inl (.inl (g _ h))
 ·exact .inl (.inr ⟨o,g _ h⟩)
 ·exact .inr h
noncomputable def OI (K:α3)(CA CB:Addr):Sp:=fun vs H Q _=>∃(q:Addr) (ns:α2) (p:Int) (L n:Nat),vs=[.ref q,.int p,.int L,.int n]/\SqL K H q (ns.map V.int)/\ns.length<=63/\Pr p/\1<=L/\L<=6/\n<=80/\∀a ad H' most s x wv,most=(1+cell ns 2%3).toNat->DRun ns p L most n s x->Asks K CA CB H' a ad s wv->A7 K H' p L wv x->(∀y o,H y=some o->H' y=some o)->(∀y,H' y=none->H y=none)->(H a=none/\H ad.d=none/\H ad.pw=none/\H ad.pe=none/\H ad.pg=none)->Q (.ref a) H'
def GP:⋯ EE.j67 15 ["script","p","letters","turns"] (OI K ag aj):=by
 delta EE.j67 Eg
 ·obtain⟨q,ns,p,L,n,rfl,_⟩:=h;rfl
 ·obtain⟨q,ns,p,L,n,rfl,hq,hz,hp,l1,l6,hn,k⟩:=h;have hl:=Al;refine⟨_,(Ac (Ak (i:=4) Eg.nd (QK EE.j57.m (Fd EE).g hr.d rfl EE.m_j0 (Fd EE).b .nil An (Aa (pvD 1) (Aa (pvD 2) (Aa (Ar (opD0 Bl) Ai (Ar (opD A0) (Af (AI EE) hr.d An (Aa (pvD 0) (Aa Ai Ad))) Ai)) Ad)))))
   (Ac (Bx jL_ rfl (Cd rfl EE.range (Aa (pvD 3) Ad)) (Aq (i:=5) Eg.nd rfl (nM rfl))
   (Ae (AB (Af (F8 EE) hr.d An (Aa (pvD 4) (Aa (pvD 0) (Aa (pvD 1) (Aa (pvD 2) (Aa (pvD 5) Ad)))))))))
   (Ae (Am (pvD 4))))),?_⟩
  nofun;have c0:=jC_ (cell ns 2) (show (3:Int)≠0 by decide);have c1:=jx_ (cell ns 2) (show (0:Int)<3 by decide);obtain⟨most,hm⟩:∃most:Nat,most=(1+cell ns 2%3).toNat:=⟨_,rfl⟩;have nA:1+cell ns 2%3=(most:Int):=by lia
  have m1:1<=most:=by lia
  have m4:most<=3:=by lia
  refine⟨q,ns,2,rfl,hq,_,rfl,by decide,?_⟩;rw[nA];intro a dx haN lK aC;refine⟨a,dx,p,L,most,rfl,Ab,hp,l1,l6,by lia,fun ad H1 s x wv go S hw hf bA gY=>⟨rfl,by lia,by lia,?_⟩⟩;rw[jz_];have hb:(most+1)*(most+1)<=4*4:=qJ_ s!"" s!"";have nz:∀y,upd (upd H dx (HO.own a)) a (HO.ins ag dx []) y=none->H y=none:=fun y hy=>by
   by_cases z1:y=a
   ·rw[z1,Ab]at hy;cases hy
   ·by_cases z2:y=dx
    ·rw[z2,Aj (by rw[<-z2];exact z1),Ab]at hy;cases hy
    ·rw[Aj z1,Aj z2]at hy;exact hy
  have hfr':H a=none/\H ad.d=none/\H ad.pw=none/\H ad.pe=none/\H ad.pg=none:=⟨haN,nz _ gY.1,nz _ gY.2.1,nz _ gY.2.2.1,nz _ gY.2.2.2⟩;have fZ:∀y o,H y=some o->H1 y=some o:=fun y o hy=>by
   have y1:y≠a:=fun z=>by rw[z,haN]at hy;cases hy
   have y2:y≠dx:=fun z=>by rw[z,lK]at hy;cases hy
   exact hf _ _ (by rw[Aj y1,Aj y2];exact hy) y1
  obtain⟨Pv,aq⟩:∃Pv:Nat->St->Hp->Prop,∀i af H',Pv i af H'↔(∃(az:AD) (s':AS) (x':Wish) (wv':V) (o:Option V),DRun ns p L most i s' x'/\Asks K ag aj H' a az s' wv'/\A7 K H' p L wv' x'/\(∀y o,H y=some o->H' y=some o)/\(∀y,H' y=none->H y=none)/\(H a=none/\H az.d=none/\H az.pw=none/\H az.pe=none/\H az.pg=none)/\af=[some (.ref q),some (.int p),some (.int L),some (.int n),some (.ref a),o]):=⟨_,fun _ _ _=>qE_⟩;refine forR Pv ((aq _ _ _).mpr ⟨ad,s,x,wv,none,.zero go,S,hw,fZ,fun y hy=>nz y (bA y hy),hfr',rfl⟩) (fun i af H' hi h'=>?_) (fun af H' h'=>?_)
  ·obtain⟨az,s',x',wv',o,dr,S',gE,dZ,bx,dR,rfl⟩:=(aq _ _ _).mp h';have r:=dr.ok hp l1 l6 s!"" s!"";have hsL:=r.l;have bS:=r.q;have hsm:=r.m;nofun;refine⟨a,q,ns,p,L,most,i,i,az,s',wv',x',by rw[xF_],S',by rw[hsL,bS];exact gE,r,by unfold Bd;rw[hsm];lia,by lia,by lia,l1,YM hq dZ dR,hz,fun bR H2 s2 x2 nB st S2 lN f2 o2=>(aq _ _ _).mpr ⟨bR,s2,x2,nB,_,.succ dr st,S2,by rw[hsL,bS]at lN;exact lN,fun y oo hy=>?_,fun y hy=>bx y (f2.2 y hy),?_,rfl⟩⟩
   ·exact f2.1 y oo (dZ y oo hy) (fun z=>by rw[z,dR.1]at hy;cases hy) (fun z=>by rw[z,dR.2.1]at hy;cases hy) (fun z=>by rw[z,dR.2.2.1]at hy;cases hy) (fun z=>by rw[z,dR.2.2.2.1]at hy;cases hy) (fun z=>by rw[z,dR.2.2.2.2]at hy;cases hy)
   ·obtain⟨_,_,q3,q4,q5,q6⟩:=o2;refine⟨dR.1,by rw[q3];exact dR.2.1,by rw[q4];exact dR.2.2.1,by rw[q5];exact dR.2.2.2.1,?_⟩;rcases q6 with q6|q6
    ·rw[q6];exact dR.2.2.2.2
    ·exact bx _ q6
  ·obtain⟨az,s',x',wv',o,dr,S',gE,dZ,bx,dR,rfl⟩:=(aq _ _ _).mp h';nofun;exact k a az H' most s' x' wv' hm dr S' gE dZ bx dR
def EqD.all43 {K:α3} (hq:(SqL K H a xs/\SqL K H c ys)\/(SqT K H a xs/\SqT K H c ys))(hl:xs.length=ys.length)(h:∀(i:Nat) (x y:V),xs[i]?=some x->ys[i]?=some y->EqD K H n x y true):EqD K H (n+1) (.ref a) (.ref c) true:=
 .inr ⟨a,c,xs,ys,rfl,rfl,hq,fun _=>true,h,by simp[hl]⟩
def EqD.int43 {K:α3} (n:Nat)(i:Int):EqD K H n (.int i) (.int i) true:=by
 cases n with
 |zero=>exact⟨rfl,rfl,by simp[eqV]⟩
 |succ n=>exact .inl ⟨rfl,rfl,by simp[eqV]⟩
def EqD.str43 {K:α3} (n:Nat)(i:Str):EqD K H n (.str i) (.str i) true:=by
 cases n with
 |zero=>exact⟨rfl,rfl,by simp[eqV]⟩
 |succ n=>exact .inl ⟨rfl,rfl,by simp[eqV]⟩
def EqD.word43 {K:α3}{H:Hp}(n:Nat){a b:Addr}{w:α2}(h:SqT K H a (w.map V.int))(g:SqT K H b (w.map V.int)):EqD K H (n+1) (.ref a) (.ref b) true:=by
 have:=EqD.ints (K:=K) (H:=H) (a:=a) (c:=b) (xs:=w) (ys:=w) (.inr ⟨h,g⟩) n;rw[ql_ rfl]at this;exact this
def Ys {α:Type}{P:Nat->α->α->Prop}{a b c d:α}(h0:P 0 a c)(h1:P 1 b d):∀i x y,[a,b][i]?=some x->[c,d][i]?=some y->P i x y:=by
 intro i x y hx hy
 match i with
 |0=>simp at hx hy;subst hx hy;exact h0
 |1=>simp at hx hy;subst hx hy;exact h1
 |i+2=>simp at hx
def Ao.eqT57 {K:α3} (h3:SqT K H a zs)(h4:Ao K H zs ws)(g3:SqT K H b fq)(g4:Ao K H fq ws)(n:Nat):EqD K H (n+2) (.ref a) (.ref b) true:=by
 refine EqD.all43 (.inr ⟨h3,g3⟩) (by rw[h4.1,g4.1]) fun i x y hx hy=>?_;obtain⟨t,w,e1,rfl,e2⟩:=h4.at hx;obtain⟨u,w',f1,rfl,f2⟩:=g4.at hy;rw[e1]at f1;cases f1;exact EqD.word43 _ (SqT.of e2) (SqT.of f2)
def TabT.eq71 {K:α3} (h1:SqT K H a us)(h:TabT K H us t)(g1:SqT K H b cU)(g:TabT K H cU t)(n:Nat):EqD K H (n+3) (.ref a) (.ref b) true:=by
 refine EqD.all43 (.inr ⟨h1,g1⟩) (by rw[h.1,g.1]) fun i x y hx hy=>?_;have hi:i<t.length:=by rw[<-h.1];exact (je_.mp hx).1
 obtain⟨u,zs,e1,e2,e3⟩:=h.2 i t[i] (by simp[hi]);obtain⟨u',fq,f1,f2,f3⟩:=g.2 i t[i] (by simp[hi]);rw[hx]at e1;cases e1;rw[hy]at f1;cases f1;exact Ao.eqT57 (SqT.of e2) e3 (SqT.of f2) f3 n
def GuT.eq71 {K:α3} (h:GuT K H a p L t l)(g:GuT K H b p L t l)(n:Nat):EqD K H (n+4) (.ref a) (.ref b) true:=by
 obtain⟨tf,tt,tl,us,h1,h2,h3,h4,h5⟩:=h;obtain⟨tf',tt',tl',cU,g1,g2,g3,g4,g5⟩:=g;refine EqD.all43 (.inr ⟨SqT.of h1,SqT.of g1⟩) rfl fun i x y hx hy=>?_
 match i with
 |0=>simp at hx hy;subst hx hy;exact EqD.int43 _ _
 |1=>simp at hx hy;subst hx hy;exact EqD.int43 _ _
 |2=>simp at hx hy;subst hx hy;exact EqD.word43 _ (SqT.of h2) (SqT.of g2)
 |3=>simp at hx hy;subst hx hy;exact TabT.eq71 (SqT.of h3) h4 (SqT.of g3) g4 n
 |4=>simp at hx hy;subst hx hy;exact EqD.word43 _ (SqT.of h5) (SqT.of g5)
 |i+5=>simp at hx
def A7.eq57 {K:α3} (h:A7 K H p L v x)(g:A7 K H p L v' x)(n:Nat):EqD K H (n+5) v v' true:=by
 obtain⟨t,u,rfl,h1,h2⟩:=h;obtain⟨t',u',rfl,g1,g2⟩:=g;refine EqD.all43 (.inr ⟨SqT.of h1,SqT.of g1⟩) rfl (Ys (P:=fun _ x y=>EqD K H (n+4) x y true) (EqD.str43 _ _) ?_);cases x with
 |ask c=>exact EqD.word43 _ (SqT.of h2) (SqT.of g2)
 |spent c=>exact EqD.word43 _ (SqT.of h2) (SqT.of g2)
 |shown m ws=>exact GuT.eq71 h2 g2 n
 |done m ws=>exact GuT.eq71 h2 g2 n
def Cn.eq43 {K:α3} (h:Cn H xs es)(g:Cn H ys es)(ha:H a=some (.lst xs))(hb:H b=some (.lst ys))(n:Nat):EqD K H (n+3) (.ref a) (.ref b) true:=by
 refine EqD.all43 (.inl ⟨SqL.of ha,SqL.of hb⟩) (by rw[h.1,g.1]) fun i x y hx hy=>?_;have hi:i<es.length:=by rw[<-h.1];exact (je_.mp hx).1
 obtain⟨t,wt,e1,e2,e3⟩:=h.2 i es[i] (by simp[hi]);obtain⟨u,wu,f1,f2,f3⟩:=g.2 i es[i] (by simp[hi]);rw[hx]at e1;cases e1;rw[hy]at f1;cases f1;exact EqD.all43 (.inr ⟨SqT.of e2,SqT.of f2⟩) rfl (Ys (P:=fun _ x y=>EqD K H (n+1) x y true) (EqD.word43 _ (SqT.of e3) (SqT.of f3)) (EqD.int43 _ _))
def Yt {α:Type}{P:Nat->α->α->Prop}{a b e k c d f l:α}(h0:P 0 a c)(h1:P 1 b d)(h2:P 2 e f)(h3:P 3 k l):∀i x y,[a,b,e,k][i]?=some x->[c,d,f,l][i]?=some y->P i x y:=by
 intro i x y hx hy
 match i with
 |0=>simp at hx hy;subst hx hy;exact h0
 |1=>simp at hx hy;subst hx hy;exact h1
 |2=>simp at hx hy;subst hx hy;exact h2
 |3=>simp at hx hy;subst hx hy;exact h3
 |i+4=>simp at hx
def LB.eq57 {K:α3} (h:LB K H l s x)(g:LB K H l' s x):EqD K H 8 (.ref l) (.ref l') true:=by
 obtain⟨wv,l1,l2,l3,xs,ys,rs,h0,hw,h2,h3,h4,h5,h6,h7⟩:=h;obtain⟨wv',l1',l2',l3',gT,ys',rs',g0,gw,g2,g3,g4,g5,g6,g7⟩:=g;exact EqD.all43 (.inl ⟨SqL.of h0,SqL.of g0⟩) rfl (Yt (P:=fun _ x y=>EqD K H 7 x y true) (hw.eq57 gw 2) (Ao.eq h3 g3 (SqL.of h2) (SqL.of g2) 5) (Ao.eq h5 g5 (SqL.of h4) (SqL.of g4) 5) (Cn.eq43 h7 g7 h6 g6 4))
noncomputable def Fps (a:Addr)(ad:AD)(y:Addr):Prop:=y=a\/y=ad.d\/y=ad.pw\/y=ad.pe\/y=ad.pg
noncomputable def Dis (a:Addr)(ad:AD)(a':Addr)(az:AD):Prop:=∀y,Fps a ad y->¬ Fps a' az y
def AskAt.tkF {K:α3} {ad:AD} {wv gv rv:V} (x:AskAt K CA CB H a ad s wv gv rv zs ys us)(f:Frm H H' a ad):TK H H':=fun t ts h=>f.1 _ _ h (fun z=>by rw[z,x.ob]at h;cases h) (fun z=>by rw[z,x.bk.dc]at h;cases h) (fun z=>by rw[z,x.w]at h;cases h) (fun z=>by rw[z,x.e]at h;cases h) (fun z=>by rw[z,x.g]at h;cases h)
def AskAt.keep {K:α3} {ad:AD} {wv gv rv:V} (x:AskAt K CA CB H a ad s wv gv rv zs ys us)(k:∀y o,H y=some o->(y=a\/y=ad.b\/y=ad.d\/y=ad.pw\/y=ad.pe\/y=ad.pg)->H' y=some o)(tk:TK H H'):AskAt K CA CB H' a ad s wv gv rv zs ys us:=
 ⟨k _ _ x.ob (.inl rfl),SBookAt.tk x.bk (fun o h=>k _ _ h (.inr (.inl rfl))) (fun o h=>k _ _ h (.inr (.inr (.inl rfl)))),k _ _ x.w (.inr (.inr (.inr (.inl rfl)))),x.wW.mono tk,k _ _ x.e (.inr (.inr (.inr (.inr (.inl rfl))))),x.eW.mono tk,k _ _ x.g (.inr (.inr (.inr (.inr (.inr rfl))))),x.gW.mono tk,x.we,x.wg,x.eg,x.gv.mono tk,x.rv.mono tk⟩
def Asks.other {K:α3} {ad az:AD} {wv wv':V}(x:Asks K CA CB H a ad s wv)(y:Asks K CA CB H a' az s' wv')(d:Dis a ad a' az)(f:Frm H H' a ad):Asks K CA CB H' a' az s' wv':=by
 obtain⟨gv,rv,zs,ys,us,X⟩:=x;obtain⟨gv',rv',fq,ys',cU,Y⟩:=y;have nf:∀y,Fps a' az y->∀o,H y=some o->H' y=some o:=fun y hy o ho=>by
  have h:¬ Fps a ad y:=fun z=>d y z hy;exact f.1 y o ho (fun z=>h (.inl z)) (fun z=>h (.inr (.inl z))) (fun z=>h (.inr (.inr (.inl z)))) (fun z=>h (.inr (.inr (.inr (.inl z))))) (fun z=>h (.inr (.inr (.inr (.inr z)))))
 refine⟨_,_,_,_,_,Y.keep (fun y o ho hc=>?_) (X.tkF f)⟩;rcases hc with hc|hc|hc|hc|hc|hc
 ·exact nf y (.inl hc) o ho
 ·obtain⟨eX,hb⟩:=Y.bk.ob;rw[<-hc]at hb;refine f.1 y o ho (fun z=>?_) (fun z=>by rw[z,X.bk.dc]at hb;cases hb) (fun z=>by rw[z,X.w]at hb;cases hb) (fun z=>by rw[z,X.e]at hb;cases hb) (fun z=>by rw[z,X.g]at hb;cases hb);rw[z,X.ob]at hb;injection hb with hb;injection hb with _ _ hb;have:=qY_ oh hb;rw[show (sbf (s'.L:Int) az.d s'.p).length=3 from by kernel_rfl]at this;simp[afl]at this
 ·exact nf y (.inr (.inl hc)) o ho
 ·exact nf y (.inr (.inr (.inl hc))) o ho
 ·exact nf y (.inr (.inr (.inr (.inl hc)))) o ho
 ·exact nf y (.inr (.inr (.inr (.inr hc)))) o ho
noncomputable def Scr (K:α3)(H:Hp)(q:Addr)(xs:List V)(a:Addr)(ad:AD):Prop:=(Rd H q (.lst xs)/\¬ Fps a ad q) \/ ∀H',SqL K H' q xs
def Rd.frm57 {ad:AD}(h:Rd H q (.lst xs))(n:¬ Fps a ad q)(f:Frm H H' a ad):Rd H' q (.lst xs):=by
 have g:∀o,H q=some o->H' q=some o:=fun o ho=>f.1 q o ho (fun z=>n (.inl z)) (fun z=>n (.inr (.inl z))) (fun z=>n (.inr (.inr (.inl z)))) (fun z=>n (.inr (.inr (.inr (.inl z))))) (fun z=>n (.inr (.inr (.inr (.inr z)))));rcases h with h|⟨o,h⟩
 ·exact .inl (g _ h)
 ·exact .inr ⟨o,g _ h⟩
def Scr.kp {K:α3} {ad:AD}(h:Scr K H q xs a ad):KP (fun H'=>SqL K H' q xs) H a ad:=fun H' f=>by
 rcases h with ⟨h,n⟩|h
 ·exact .inl (Rd.frm57 h n f)
 ·exact h H'
def Scr.of {K:α3}{H H1:Hp} {ad:AD}(h:SqL K H q xs)(e:Same H H1)(fr:H a=none/\H ad.d=none/\H ad.pw=none/\H ad.pe=none/\H ad.pg=none):Scr K H1 q xs a ad:=by
 rcases h with h|h
 ·have hs:∃o,H q=some o:=by
   rcases h with h|⟨o,h⟩
   ·exact⟨_,h⟩
   ·exact⟨_,h⟩
  obtain⟨o,ho⟩:=hs;refine .inl ⟨?_,fun z=>?_⟩
  ·rcases h with h|⟨o,h⟩
   ·exact .inl (e _ _ h)
   ·exact .inr ⟨o,e _ _ h⟩
  ·rcases z with z|z|z|z|z
   ·rw[z,fr.1]at ho;cases ho
   ·rw[z,fr.2.1]at ho;cases ho
   ·rw[z,fr.2.2.1]at ho;cases ho
   ·rw[z,fr.2.2.2.1]at ho;cases ho
   ·rw[z,fr.2.2.2.2]at ho;cases ho
 ·exact .inr fun H'=>.inr h
def Fps.next {ad az:AD}(n:¬ Fps a ad q)(o:AdOk H ad az)(h:H q≠none):¬ Fps a az q:=by
 obtain⟨_,_,q3,q4,q5,q6⟩:=o;rintro (z|z|z|z|z)
 ·exact n (.inl z)
 ·exact n (.inr (.inl (z.trans q3)))
 ·exact n (.inr (.inr (.inl (z.trans q4))))
 ·exact n (.inr (.inr (.inr (.inl (z.trans q5)))))
 ·rcases q6 with q6|q6
  ·exact n (.inr (.inr (.inr (.inr (z.trans q6)))))
  ·rw[z]at h;exact h q6
def Scr.next {K:α3} {ad az:AD}(h:Scr K H q xs a ad)(f:Frm H H' a ad)(o:AdOk H ad az):Scr K H' q xs a az:=by
 rcases h with ⟨h,n⟩|h
 ·exact .inl ⟨Rd.frm57 h n f,Fps.next n o (by rcases h with h|⟨o,h⟩<;>rw[h]<;>simp)⟩
 ·exact .inr h
def Scr.other {K:α3} {ad az:AD}(h:Scr K H q xs a' az)(g:Scr K H q xs a ad)(f:Frm H H' a ad):Scr K H' q xs a' az:=by
 rcases h with ⟨h,n⟩|h
 ·rcases g with ⟨_,m⟩|g
  ·exact .inl ⟨Rd.frm57 h m f,n⟩
  ·exact .inr g
 ·exact .inr h
def Asks.fps {K:α3} {ad:AD} {wv:V}(x:Asks K CA CB H a ad s wv) (h:Fps a ad y):H y≠none:=by
 obtain⟨gv,rv,zs,ys,us,X⟩:=x;rcases h with rfl|rfl|rfl|rfl|rfl
 ·rw[X.ob];simp
 ·rw[X.bk.dc];simp
 ·rw[X.w];simp
 ·rw[X.e];simp
 ·rw[X.g];simp
def Dis.next {K:α3} {ad cE az:AD} (d:Dis a ad a' az)(y:Asks K CA CB H a' az s' wv')(o:AdOk H ad cE):Dis a cE a' az:=fun z hz iJ=>Fps.next (fun w=>d z w iJ) o (y.fps iJ) hz
def Dis.symm {ad az:AD}(d:Dis a ad a' az):Dis a' az a ad:=fun y h g=>d y g h
def Asks.tk {K:α3} {ad:AD} {wv:V}(x:Asks K CA CB H a ad s wv)(f:Frm H H' a ad):TK H H':=by
 obtain⟨gv,rv,zs,ys,us,X⟩:=x;exact X.tkF f
noncomputable def SE (K:α3)(CA CB:Addr):Sp:=fun vs H Q _=>∃(a q:Addr) (ns:α2) (p:Int) (L most n:Nat) (ad:AD) (s:AS) (wv:V) (x:Wish),vs=[.ref a,.ref q,.int p,.int L,.int n]/\Asks K CA CB H a ad s wv/\A7 K H s.p s.L wv x/\most=(1+cell ns 2%3).toNat/\DRun ns p L most n s x/\Pr p/\1<=L/\L<=6/\n<=70/\Scr K H q (ns.map V.int) a ad/\ns.length<=63/\∀H',Q (.bl true) H'
def Lc:⋯ EE.j71 16 ["asker","script","p","letters","turns"] (SE K ag aj):=by
 delta EE.j71 DG
 ·obtain⟨a,q,ns,p,L,most,n,ad,s,wv,x,rfl,_⟩:=h;rfl
 ·obtain⟨a,q,ns,p,L,most,n,ad,s,wv,y,rfl,S,hw,hm,dr,hp,l1,l6,hn,hkq,hz,k⟩:=h;have hq:=hkq.kp.now;have hl:=Al;refine⟨_,(Ac (Ak (i:=5) DG.nd (Af (GP EE) hr.d An (Aa (pvD 1) (Aa (pvD 2) (Aa (pvD 3) (Aa (pvD 4) Ad))))))
   (Ac (Bx jL_ rfl (MX rfl EE.range (Aa (pvD 4) (Aa (Ar (opD0 Bl) (pvD 4) Ai) Ad))) (Aq (i:=6) DG.nd rfl (nM rfl))
   (Ac (AZ (ptT (Ap (XO 8 (hu9 hr)) (Af (CN EE) hr.d An (Aa (pvD 0) Ad)) (Af (CN EE) hr.d An (Aa (pvD 5) Ad)) (Av _)))
   (Ae (Am DV))
   Au)
   (Ac (AB (Af (F8 EE) hr.d An (Aa (pvD 0) (Aa (pvD 1) (Aa (pvD 2) (Aa (pvD 3) (Aa (pvD 6) Ad)))))))
   (Ae (AB (Af (F8 EE) hr.d An (Aa (pvD 5) (Aa (pvD 1) (Aa (pvD 2) (Aa (pvD 3) (Aa (pvD 6) Ad)))))))))))
   (Ae (Am (N0 (UG 8 (hu9 hr)) (Af (CN EE) hr.d An (Aa (pvD 0) Ad)) (Af (CN EE) hr.d An (Aa (pvD 5) Ad)) (Av _)))))),?_⟩
  nofun;refine⟨q,ns,p,L,n,rfl,hq,hz,hp,l1,l6,by lia,fun a2 bR H1 bw s2 x2 nB nA dr2 S2 lN fZ kY fr=>?_⟩;have em:bw=most:=nA.trans hm.symm;subst em;obtain⟨rfl,rfl⟩:=dr.det dr2;have gG:Same H H1:=fZ;have b0:=jC_ (cell ns 2) (show (3:Int)≠0 by decide);have b1:=jx_ (cell ns 2) (show (0:Int)<3 by decide);have m4:bw<=3:=by lia
  have r:=dr.ok hp l1 l6 s!"" s!"";have hb:(bw+1)*(bw+1)<=4*4:=qJ_ s!"" s!"";have d0:Dis a ad a2 bR:=fun y h1 h2=>S.fps h1 (by rcases h2 with z|z|z|z|z;(rw[z];exact fr.1);(rw[z];exact fr.2.1);(rw[z];exact fr.2.2.1);(rw[z];exact fr.2.2.2.1);(rw[z];exact fr.2.2.2.2));nofun;refine⟨by lia,by lia,by lia,by lia,?_⟩;rw[show ((n:Int)+6-n).toNat=6 by lia];obtain⟨Pv,aq⟩:∃Pv:Nat->St->Hp->Prop,∀i af H',Pv i af H'↔(∃(d1 d2:AD) (s:AS) (x:Wish) (v1 v2:V) (o:Option V),DRun ns p L bw (n+i) s x/\Asks K ag aj H' a d1 s v1/\Asks K ag aj H' a2 d2 s v2/\A7 K H' s.p s.L v1 x/\A7 K H' s.p s.L v2 x/\Dis a d1 a2 d2/\Scr K H' q (ns.map V.int) a d1/\Scr K H' q (ns.map V.int) a2 d2/\af=[some (.ref a),some (.ref q),some (.int p),some (.int L),some (.int n),some (.ref a2),o]):=⟨_,fun _ _ _=>qE_⟩;refine forR Pv ((aq _ _ _).mpr ⟨ad,bR,s,y,wv,nB,none,dr,S.same gG,S2,hw.mono (TK.of gG),by rw[r.l,r.q];exact lN,d0,hkq.next (Frm.of gG a ad) (AdOk.refl H ad),Scr.of hq gG fr,rfl⟩) (fun i af H' hi h'=>?_) (fun af H' h'=>?_)
  ·obtain⟨d1,d2,s,x,v1,v2,o,dr,A1,A2,w1,w2,d,c1,c2,rfl⟩:=(aq _ _ _).mp h';have r:=dr.ok hp l1 l6 s!"" s!"";have bd:Bd 100 s:=by unfold Bd;rw[r.m];lia
   nofun;refine⟨a,d1,s,v1,x,rfl,A1,w1,fun q1 H3 s3 B1=>⟨a2,d2,s,v2,x,rfl,A2.same s3,w2.mono (TK.of s3),fun q2 H4 s4 B2=>⟨_,rfl,_,rfl,_,LB.eq57 (B1.mono s4) B2,?_⟩⟩⟩;rw[if_neg (by simp)];have cD:=s3.trans s4;have nC:=A1.same cD;have A2':=A2.same cD;have nE:=c1.next (Frm.of cD a d1) (AdOk.refl H' d1);have c2':=c2.next (Frm.of cD a2 d2) (AdOk.refl H' d2);refine⟨a,q,ns,p,L,bw,n+i,n+i,d1,s,v1,x,by push_cast;rfl,nC,w1.mono (TK.of cD),r,bd,by lia,by lia,l1,nE.kp,hz,fun e1 H5 s5 x5 v5 st1 A5 w5 f5 o5=>?_⟩;have ja:=nC.other A2' d f5;have d5:=d.next A2' o5;have tk5:=nC.tk f5;have jb:=c2'.other nE f5;have c1'':=nE.next f5 o5;refine⟨a2,q,ns,p,L,bw,n+i,n+i,d2,s,v2,x,by push_cast;rfl,ja,(w2.mono (TK.of cD)).mono tk5,r,bd,by lia,by lia,l1,jb.kp,hz,fun e2 H6 s6 x6 v6 fL A6 w6 f6 o6=>?_⟩;obtain⟨rfl,rfl⟩:=GO.det st1 fL;have dr':DRun ns p L bw (n+i+1) s5 x5:=.succ dr st1;have r':=dr'.ok hp l1 l6 s!"" s!"";refine (aq _ _ _).mpr ⟨e1,e2,s5,x5,v5,v6,_,dr',ja.other A5 d5.symm f6,A6,?_,?_,?_,c1''.other jb f6,jb.next f6 o6,rfl⟩
   ·rw[r'.l,<-r.l,r'.q,<-r.q];exact w5.mono (ja.tk f6)
   ·rw[r'.l,<-r.l,r'.q,<-r.q];exact w6
   ·exact (Dis.next d5.symm A5 o6).symm
  ·obtain⟨d1,d2,s,x,v1,v2,o,dr,A1,A2,w1,w2,d,c1,c2,rfl⟩:=(aq _ _ _).mp h';nofun;exact⟨a,d1,s,v1,x,rfl,A1,w1,fun q1 H3 s3 B1=>⟨a2,d2,s,v2,x,rfl,A2.same s3,w2.mono (TK.of s3),fun q2 H4 s4 B2=>⟨_,rfl,_,rfl,_,LB.eq57 (B1.mono s4) B2,k _⟩⟩⟩
def Nz.ofD {K:α3}{a:Addr}{xs:List V}{m:Nat}{H:Hp}{Q:VK}(ha:H a=some (.tup xs))(q:∀p H',Same H H'->H' p=some (.tup (xs.drop m))->Q (.ref p) H'):Nz K (.ref a) (some (m:Int)) none H Q:=by
 refine⟨a,xs,rfl,ha,fun p H' s' h=>q p H' s' ?_⟩;rw[h];unfold cutV;rw[HT.sIx_nat,HT.sIx_none]
 congr 2
 rcases ro m xs.length with h|h
 ·rw[oX h];exact qO_ (by rw[qj_];exact jf_ _)
 ·rw[oH h,zm_ h,qM_,pM]
noncomputable def OJ (K:α3)(CA CB:Addr):Sp:=fun vs H Q _=>∃(a q:Addr) (ns:α2) (p:Int) (L:Nat) (dt:Int) (ad:AD) (s:AS) (wv:V) (mm:α0) (ws:α2),vs=[.ref a,.ref q,.int p,.int L,.int dt]/\Asks K CA CB H a ad s wv/\A7 K H s.p s.L wv (.shown mm ws)/\WOk 100 s (.shown mm ws)/\Bd 100 s/\s.p=p/\s.L=L/\1<=L/\s.es.length<=100/\SqL K H q (ns.map V.int)/\ns.length<=63/\¬ (0<=dt/\dt<p)/\∀H',Same H H'->Q (.bl true) H'
def GD:⋯ EE.j72 15 ["asker","script","p","letters","odd"] (OJ K ag aj):=by
 delta EE.j72 AV
 ·obtain⟨a,q,ns,p,L,dt,ad,s,wv,mm,ws,rfl,_⟩:=h;rfl
 ·obtain⟨a,q,ns,p,L,dt,ad,s,wv,mm,ws,rfl,S,hw,ok,bd,hP,hL,l1,he,hq,hz,eZ,k⟩:=h;subst hP;have hl:=Al;have D:∀{H':Hp} {t:Addr} {w:α2} {m:Int} {Q':VK} {E':XK},Same H H'->H' t=some (.tup (w.map V.int))->w.length<=600->((isW s.L w=false->QS H' Q' "word value")/\(isW s.L w=true->¬ (0<=m/\m<s.p)->QS H' Q' "mark value")/\(isW s.L w=true->0<=m->m<s.p->(W71 s.p mm ws w=m->QS H' Q' "alike value")/\(W71 s.p mm ws w≠m->w∈s.es.map (·.1)/\QS H' Q' "twice value")))->F7 K ag aj [.ref a,.ref t,.int m] H' Q' E':=fun {H'} {t} {w} {m} {Q'} {E'} e ht jB hk=>⟨a,t,ad,s,wv,_,100,w,m,rfl,S.same e,hw.mono (TK.of e),ok,bd,by lia,ht,jB,fun hx=>absurd rfl hx,fun mm' ws' e=>by cases e;exact hk⟩;have Hh:∀{H':Hp} {m:Int} {Q':VK} {E':XK},Same H H'->QS H' Q' "turn value" -> Jj K ag aj [.ref a,.int m] H' Q' E':=fun {H'} {m} {Q'} {E'} e hk=>⟨a,ad,s,wv,_,100,m,rfl,S.same e,hw.mono (TK.of e),ok,bd,by lia,fun _=>hk,fun c hc=>by cases hc⟩;have c0:=jC_ (cell ns 4) (show (6:Int)≠0 by decide);have c1:=jx_ (cell ns 4) (show (0:Int)<6 by decide);obtain⟨n0,lM⟩:∃n0:Nat,1+cell ns 4%6=(n0:Int):=⟨(1+cell ns 4%6).toNat,by lia⟩;have c9:CPow 10 9:=⟨by lia,by lia,by decide⟩;have hWl:=Im ns 4 L n0;have hWw:=NL ns 4 n0 l1;obtain⟨dQ,hG,cZ,i7,gu,aA⟩:=id ok;have wf:=gu.wf dQ.tb;have p2:=dQ.tb.pr.1;have sz:=dQ.sz bd;refine⟨_,(CS (AZ (PW.pt (NZ (ptT (Ap (opN Dh) (Af (Cq EE) hr.d An (Aa (pvD 0) (Aa (Ar (opD A0) (pvD 4) (pvD 2)) Ad))) AA (Av _))) (Kt (ptT (Ap (opN Dh) (Af (Cq EE) hr.d An (Aa (pvD 0) (Aa (pvD 4) Ad))) AA (Av _))))))
   (Ae (Am DV))
   Au)
   (Ac (Ak (i:=5) AV.nd (Af (Jz EE) hr.d An (Aa (pvD 1) (Aa Ai (Aa (pvD 3) (Aa (Ar (opD0 Bl) Ai (Ar (opD A0) (Af (AI EE) hr.d An (Aa (pvD 1) (Aa Ai Ad))) Ai)) Ad))))))
   (CS (Ak (i:=6) AV.nd (Ar (opD A0) (Af (AI EE) hr.d An (Aa (pvD 1) (Aa Ai Ad))) (Ar (opD0 Bl) (AK (lenD AG) (by rfl) EE.len qm_ (Aa (pvD 5) Ad)) Ai)))
   (Ac (Bx jL_ rfl (Br (E9 (Aa (pvD 3) (Aa (Lm GF Ai) (Aa (Ar (opD0 Bl) (Ar (opD0 Bl) (pvD 3) Ai) (Ar (opD A0) (Af (AI EE) hr.d An (Aa (pvD 1) (Aa Ai Ad))) (Ar (opD Ut) Ai Ai))) Ad))))) (Aq (i:=7) AV.nd rfl (nM rfl))
   (Ac (Ak (i:=8) AV.nd (Ar Dj (Ar Dj (BS F3 (pvD 5) C1 (C2 (pvD 6))) (Ce (Aa (pvD 7) Ad))) (BS F3 (pvD 5) (C2 (pvD 6)) C1)))
   (Ae (AZ (PW.pt (NZ (ptT (Ap (opN Dh) (Af (AJ EE) hr.d An (Aa (pvD 0) (Aa (pvD 8) (Aa (pvD 4) Ad)))) AA (Av _))) (Kt (ptT (Ap (opN Dh) (Af (AJ EE) hr.d An (Aa (pvD 0) (Aa (pvD 8) (Aa Ai Ad)))) AA (Av _))))))
   (Ae (Am DV))
   Au))))
   (CS (AZ (ptT (Ap (opN Dh) (Af (AJ EE) hr.d An (Aa (pvD 0) (Aa (pvD 5) (Aa (pvD 4) Ad)))) AA (Av _)))
   (Ae (Am DV))
   Au)
   (CS (AZ (ptT (Ap (opN Dh) (Af (AJ EE) hr.d An (Aa (pvD 0) (Aa (pvD 5) (Aa (Af (Il EE) hr.d An (Aa (As (ixTD Ay) (AQ (pvD 0) EE.cl_j0 EE.j0.m (A8 EE).g hr.d (A8 EE).b .nil An) Ai) (Aa (pvD 5) Ad))) Ad)))) AA (Av _)))
   (Ae (Am DV))
   Au)
   (Ac (Bx jL_ rfl (Br (AQ (pvD 0) EE.cl_j0 EE.j58.m (BI EE).g hr.d (BI EE).b .nil An)) (Aq (i:=9) AV.nd rfl (nM rfl))
   (Ac (AZ (ptT (Ap (opN Dh) (Af (AJ EE) hr.d An (Aa (pvD 0) (Aa (As (ixTD Ay) (pvD 9) Ai) (Aa (pvD 4) Ad)))) AA (Av _)))
   (Ae (Am DV))
   Au)
   (Ac (AZ (ptT (Ap (opN Dh) (Af (AJ EE) hr.d An (Aa (pvD 0) (Aa (As (ixTD Ay) (pvD 9) Ai) (Aa (As (ixTD Ay) (pvD 9) Ai) Ad)))) AA (Av _)))
   (Ae (Am DV))
   Au)
   (Ae (AZ (ptT (Ap (opN Dh) (Af (AJ EE) hr.d An (Aa (pvD 0) (Aa (As (ixTD Ay) (pvD 9) Ai) (Aa (Ar (opD A0) (Ar (opD0 Bl) (As (ixTD Ay) (pvD 9) Ai) Ai) (pvD 2)) Ad)))) AA (Av _)))
   (Ae (Am DV))
   Au)))))
   (Ae (Am DV))))))))),?_⟩
  nofun;refine⟨by lia,Hh (Same.refl _) fun H1 s1=>⟨rfl,?_⟩⟩;rw[if_neg (by simp)];refine Hh s1 fun H2 s2'=>⟨rfl,?_⟩;have s2:=s1.trans s2';rw[if_neg (by simp)];refine Cf ?_;nofun;refine⟨q,ns,4,rfl,s2.seq hq,_,rfl,by decide,q,ns,4,L,n0,by rw[lM];rfl,s2.seq hq,l1,by lia,fun tw H5 jc cV=>?_⟩;have s5:=s2.trans jc;generalize Ji ns 4 L n0=v at hWl hWw cV;refine⟨q,ns,5,rfl,s5.seq hq,tw,rfl,_,.inr (SqT.of cV),_,rfl,by lia,?_⟩;refine Cf ?_;nofun;refine⟨q,ns,6,rfl,s5.seq hq,c9,_,rfl,by decide,by lia,fun tl ed=>⟨⟨_,SqL.of Ab⟩,?_⟩⟩;rw[ja_];obtain⟨j,hj,jX⟩:∃j:Nat,cell ns 5%((v.length:Int)+1)=(j:Int)/\j<=v.length:=⟨(cell ns 5%((v.length:Int)+1)).toNat,by have:=jC_ (cell ns 5) (show (v.length:Int)+1≠0 by lia);lia,by have:=jC_ (cell ns 5) (show (v.length:Int)+1≠0 by lia);have:=jx_ (cell ns 5) (show 0<(v.length:Int)+1 by lia);lia⟩;rw[hj];obtain⟨cF,gH⟩:∃cF:Int,cF=(L:Int)+1+cell ns 6%10 ^ rf 9:=⟨_,rfl⟩;have hfar0:(L:Int)<=cF:=by have:=jC_ (cell ns 6) (show (10:Int) ^ rf 9≠0 by decide);lia
  rw[<-gH];have s6:=s5.newT ed (o:=.lst [V.int L,V.int (-1),V.int cF]);obtain⟨Pv,aq⟩:∃Pv:Nat->St->Hp->Prop,∀i af H',Pv i af H'↔(∃o6 o7:Option V,Same (upd H5 tl (.lst [V.int L,V.int (-1),V.int cF])) H'/\af=[some (.ref a),some (.ref q),some (.int s.p),some (.int L),some (.int dt),some (.ref tw),some (.int j),o6,o7,none]):=⟨_,fun _ _ _=>qE_⟩;refine forL (xs:=[V.int L,V.int (-1),V.int cF]) Pv ((aq _ _ _).mpr ⟨none,none,Same.refl _,rfl⟩) (fun i ai H' _ h2=>by obtain⟨_,_,s',_⟩:=(aq _ _ _).mp h2;exact s'.seq (SqL.of Ab)) (fun i x ai H' hx h2=>?_) (fun ai H' h2=>?_)
  ·obtain⟨o6,o7,du,rfl⟩:=(aq _ _ _).mp h2;obtain⟨b,rfl,hb⟩:∃b:Int,x=.int b/\¬ (0<=b/\b<L):=by
    match i with
    |0=>simp at hx;exact⟨_,hx.symm,by lia⟩
    |1=>simp at hx;exact⟨_,hx.symm,by lia⟩
    |2=>simp at hx;exact⟨_,hx.symm,by lia⟩
    |i+3=>simp at hx
   have s7:=s6.trans du;have dS:=((Same.new ed).trans du) _ _ cV;nofun;refine Nz.of dS fun z1 H8 s8 hz1=>⟨by lia,fun z2 eh=>?_⟩;rw[<-zJ_]at hz1;have s9:=Same.new eh (o:=.tup [V.int b]);refine Cb.ofS (s9 _ _ hz1) Ab (by simp;lia) fun z3 mL eQ hz3=>?_;refine Nz.ofD ((s8.trans (s9.trans eQ)) _ _ dS) fun z4 H11 lO hz4=>?_;rw[<-pJ]at hz4;refine Cb.ofS (lO _ _ hz3) hz4 (by simp;lia) fun z5 H12 bj nF=>?_;have e:(v.take j).map V.int++[V.int b]++(v.drop j).map V.int=(v.take j++[b]++v.drop j).map V.int:=by simp
   rw[e]at nF;have gI:isW s.L (v.take j++[b]++v.drop j)=false:=by
    cases hh:isW s.L (v.take j++[b]++v.drop j) with
    |false=>rfl
    |true=>
     have:=Bn.mp hh b (by simp);rw[hL]at this;exact absurd this hb
   have s8_12:=s8.trans (s9.trans (eQ.trans (lO.trans bj)));have sA:=s7.trans s8_12;refine D sA nF (by simp;lia) ⟨fun _ H13 dP=>⟨rfl,?_⟩,fun z=>absurd z (by rw[gI];simp),fun z=>absurd z (by rw[gI];simp)⟩;rw[if_neg (by simp)];refine D (sA.trans dP) (dP _ _ nF) (by simp;lia) ⟨fun _ H14 nG=>⟨rfl,?_⟩,fun z=>absurd z (by rw[gI];simp),fun z=>absurd z (by rw[gI];simp)⟩;rw[if_neg (by simp)];exact (aq _ _ _).mpr ⟨_,_,du.trans (s8_12.trans (dP.trans nG)),rfl⟩
  ·obtain⟨o6,o7,du,rfl⟩:=(aq _ _ _).mp h2;have s7:=s6.trans du;have dS:=((Same.new ed).trans du) _ _ cV;have cc:isW s.L v=true:=by rw[hL];exact hWw
   have fG:¬ isW s.L v=false:=fun z=>by rw[cc]at z;cases z
   nofun;refine D s7 dS s!"" ⟨fun z=>absurd z fG,fun _ _ H8 s8=>⟨rfl,?_⟩,fun _ h0 h9=>absurd ⟨h0,h9⟩ eZ⟩;rw[if_neg (by simp)];refine Cf ?_;nofun;obtain⟨t,u,hV,ht,hu⟩:=id hw;obtain⟨kF,kH,kI,kJ,kK,x0⟩:=id S;have hp:=x0.ob;have hU:=s7.trans s8;have ew:dotW (rowS s.p ws.length mm (Bu ws.length 0) v) ws%s.p=W71 s.p mm ws v:=by unfold W71 R71;rw[Be]
   have r0:0<=W71 s.p mm ws v:=jC_ _ s!"";have r1:W71 s.p mm ws v<s.p:=jx_ _ s!"";refine⟨_,_,hU _ _ hp,by kernel_rfl,a,ad,s,wv,rfl,S.same hU,t,hV,_,SqT.of (hU _ _ ht),_,rfl,u,tw,s.p,s.L,_,_,ws,v,mm,rfl,(GuT.sum hu).mono hU,wf,SqT.of (s8 _ _ dS),cc,fun H9 s9=>?_⟩;rw[ew];have s9':=hU.trans s9;refine D s9' (s9 _ _ (s8 _ _ dS)) s!"" ⟨fun z=>absurd z fG,fun _ hm=>absurd ⟨r0,r1⟩ hm,fun _ _ _=>⟨fun _ mL eQ=>⟨rfl,?_⟩,fun z=>absurd rfl z⟩⟩;rw[if_neg (by simp)];refine Cf ?_;nofun;have jd:=s9'.trans eQ;refine⟨_,_,jd _ _ hp,by kernel_rfl,a,ad,s,wv,rfl,S.same jd,fun lh rs H11 lO hlN hlh ic=>⟨lh,rfl,⟨_,SqL.of hlh⟩,?_⟩⟩;have s11':=jd.trans lO;obtain⟨Pw,bY⟩:∃Pv:Nat->St->Hp->Prop,∀i af H',Pv i af H'↔(∃o:Option V,Same H11 H'/\af=[some (.ref a),some (.ref q),some (.int s.p),some (.int L),some (.int dt),some (.ref tw),some (.int j),o6,o7,o]):=⟨_,fun _ _ _=>qE_⟩;refine forL (xs:=rs) Pw ((bY _ _ _).mpr ⟨none,Same.refl _,rfl⟩) (fun i ai H' _ h2=>by obtain⟨_,s',_⟩:=(bY _ _ _).mp h2;exact s'.seq (SqL.of hlh)) (fun i x ai H' hx h2=>?_) (fun ai H' h2=>?_)
   ·obtain⟨o8,bj,rfl⟩:=(bY _ _ _).mp h2;have hi:i<s.es.length:=by rw[<-ic.1];exact (je_.mp hx).1
    have bK:s.es[i]?=some s.es[i]:=by simp[hi]
    obtain⟨t8,wt,e1,e2,e3⟩:=ic.2 i _ bK;rw[hx]at e1;cases e1;have iI:=jn_ bK;have nH:=dQ.tb.bW _ iI;have dj:=sz.b _ iI;have gX:=aA _ iI;generalize s.es[i]=e at bK e2 e3 iI nH dj gX;have gU:¬ isW s.L e.1=false:=fun z=>by rw[nH.1]at z;cases z
    have je:=s11'.trans bj;have f2:=bj _ _ e2;have f3:=bj _ _ e3;nofun;refine⟨_,SqT.of f2,_,rfl,D je f3 dj ⟨fun z=>absurd z gU,fun _ _ H13 dP=>⟨rfl,?_⟩,fun _ h0 h9=>absurd ⟨h0,h9⟩ eZ⟩⟩;rw[if_neg (by simp)];refine⟨_,SqT.of (dP _ _ f2),_,rfl,_,SqT.of (dP _ _ f2),_,rfl,D (je.trans dP) (dP _ _ f3) dj ⟨fun z=>absurd z gU,fun _ hm=>absurd nH.2 hm,fun _ _ _=>⟨fun _ H14 nG=>⟨rfl,?_⟩,fun z=>absurd gX z⟩⟩⟩;rw[if_neg (by simp)];have e9:=dP.trans nG;have aC:W71 s.p mm ws e.1≠(e.2+1)%s.p:=by
     rw[gX];intro z;by_cases aF:e.2+1<s.p
     ·rw[j0_ s!"" aF]at z;lia
     ·rw[show e.2+1=s.p by lia,rb]at z;lia
    refine⟨_,SqT.of (e9 _ _ f2),_,rfl,_,SqT.of (e9 _ _ f2),_,rfl,_,rfl,by lia,D (je.trans e9) (e9 _ _ f3) dj ⟨fun z=>absurd z gU,fun _ hm=>?_,fun _ _ _=>⟨fun z=>absurd z aC,fun _=>⟨jv_.mpr ⟨_,iI,rfl⟩,fun H15 s15=>⟨rfl,?_⟩⟩⟩⟩⟩
    ·exact absurd ⟨jC_ _ s!"",jx_ _ s!""⟩ hm
    ·rw[if_neg (by simp)];exact (bY _ _ _).mpr ⟨_,bj.trans (e9.trans s15),rfl⟩
   ·obtain⟨o8,bj,rfl⟩:=(bY _ _ _).mp h2;nofun;exact k _ (s11'.trans bj)
noncomputable def Ur (K:α3):Sp:=fun vs H Q _=>∃(a:Addr) (ns:α2),vs=[.ref a]/\SqL K H a (ns.map V.int)/\ns.length<=63/\∀H',Q (.bl true) H'
def Yu:⋯ EE.j73 17 ["script"] (Ur K):=by
 delta EE.j73 HJ
 ·obtain⟨a,ns,rfl,_⟩:=h;rfl
 ·obtain⟨q,ns,rfl,hq,hz,k⟩:=h;have hl:=Al;have a0:=jC_ (cell ns 1) (show (3:Int)≠0 by decide);have a1:=jx_ (cell ns 1) (show (0:Int)<3 by decide);obtain⟨L,hL,l1,l6⟩:∃L:Nat,1+cell ns 1%3+cell ns 1 / 3%4 / 3*3=(L:Int)/\1<=L/\L<=6:=⟨(1+cell ns 1%3+cell ns 1 / 3%4 / 3*3).toNat,by lia,by lia,by lia⟩;obtain⟨n,hn,gm⟩:∃n:Nat,cell ns 3%41=(n:Int)/\n<=40:=⟨(cell ns 3%41).toNat,by lia,by lia⟩;have c9:CPow 10 9:=⟨by lia,by lia,by decide⟩;refine⟨_,(Ac (Ak (i:=1) HJ.nd (Af (MS EE) hr.d An (Aa (Af (AI EE) hr.d An (Aa (pvD 0) (Aa Ai Ad))) Ad)))
   (Ac (Ak (i:=2) HJ.nd (Ar (opD0 Bl) (Ar (opD0 Bl) Ai (Ar (opD A0) (Af (AI EE) hr.d An (Aa (pvD 0) (Aa Ai Ad))) Ai)) (Ar (opD E8) (Ar (opD IK) (Ar (opD A0) (Ar (opD IK) (Af (AI EE) hr.d An (Aa (pvD 0) (Aa Ai Ad))) Ai) Ai) Ai) Ai)))
   (Ac (Ak (i:=3) HJ.nd (Ar (opD A0) (Af (AI EE) hr.d An (Aa (pvD 0) (Aa Ai Ad))) Ai))
   (Ac (Ak (i:=4) HJ.nd (Af (GP EE) hr.d An (Aa (pvD 0) (Aa (pvD 1) (Aa (pvD 2) (Aa (pvD 3) Ad))))))
   (Ac (Ak (i:=5) HJ.nd (AQ (pvD 4) EE.cl_j0 EE.j0.m (A8 EE).g hr.d (A8 EE).b .nil An))
   (Ac (Ak (i:=6) HJ.nd (Af (CN EE) hr.d An (Aa (pvD 4) Ad)))
   (Ac (Ak (i:=7) HJ.nd (Ar (opD A0) (Af (AI EE) hr.d An (Aa (pvD 0) (Aa Ai Ad))) (Ar (opD Ut) Ai Ai)))
   (CS (Ak (i:=8) HJ.nd (As (ixLD Fy) (E9 (Aa (Lm GF Ai) (Aa (pvD 1) (Aa (Ar (opD0 Bl) (pvD 1) (pvD 7)) (Aa (Ar (opD0 MY) (Lm GF Ai) (pvD 7)) Ad))))) (Ar (opD A0) (Af (AI EE) hr.d An (Aa (pvD 0) (Aa Ai Ad))) Ai)))
   (Eb (AZ (ptT (Ap (opE Gw) (As (ixTD Ay) (pvD 5) Ai) AA (Av _)))
   (Ac (AZ (PW.pt (NZ (ptT (Ap (opN Dh) (Af (GN EE) hr.d An (Aa (pvD 4) Ad)) AA (Av _))) (Kt (ptT (Ap (opN Dh) (Af (Cq EE) hr.d An (Aa (pvD 4) (Aa (pvD 8) Ad))) AA (Av _))))))
   (Ae (Am DV))
   Au)
   (Ae (AZ (PW.pt (NZ (ptT (Ap (opN Dh) (Af (AJ EE) hr.d An (Aa (pvD 4) (Aa (Ce (Aa (pvD 2) Ad)) (Aa (pvD 8) Ad)))) AA (Av _))) (Kt (ptT (Ap (opN Dh) (Af (AJ EE) hr.d An (Aa (pvD 4) (Aa (Ce Ad) (Aa Ai Ad)))) AA (Av _))))))
   (Ae (Am DV))
   Au)))
   (Ae (AZ (ptT (Ap (opE Gw) (As (ixTD Ay) (pvD 5) Ai) AA (Av _)))
   (Ae (AZ (OK (ptB (Fv (Af (GD EE) hr.d An (Aa (pvD 4) (Aa (pvD 0) (Aa (pvD 1) (Aa (pvD 2) (Aa (pvD 8) Ad)))))))))
   (Ae (Am DV))
   Au))
   (Ae (AZ (PW.pt (NZ (ptT (Ap (opE Gw) (As (ixTD Ay) (pvD 5) Ai) AA (Av _))) (Kt (ptT (Ap (opE Gw) (As (ixTD Ay) (pvD 5) Ai) AA (Av _))))))
   (Ac (AZ (PW.pt (NZ (ptT (Ap (opN Dh) (Af (GN EE) hr.d An (Aa (pvD 4) Ad)) AA (Av _))) (Kt (ptT (Ap (opN Dh) (Af (Cq EE) hr.d An (Aa (pvD 4) (Aa Ai Ad))) AA (Av _))))))
   (Ae (Am DV))
   Au)
   (Ae (AZ (PW.pt (NZ (ptT (Ap (opN Dh) (Af (Cq EE) hr.d An (Aa (pvD 4) (Aa (pvD 8) Ad))) AA (Av _))) (Kt (ptT (Ap (opN Dh) (Af (AJ EE) hr.d An (Aa (pvD 4) (Aa (Ce (Aa Ai Ad)) (Aa Ai Ad)))) AA (Av _))))))
   (Ae (Am DV))
   Au)))
   (Ae (Am DV)))))))
   (Ae (Am (WX (N0 (UG 8 (hu9 hr)) (Af (CN EE) hr.d An (Aa (pvD 4) Ad)) (pvD 6) (Av _)) (WW (Af (Lc EE) hr.d An (Aa (pvD 4) (Aa (pvD 0) (Aa (pvD 1) (Aa (pvD 2) (Aa (pvD 3) Ad))))))))))))))))))),?_⟩
  nofun;refine⟨q,ns,0,rfl,hq,_,rfl,fun p H0 s0 hp=>?_⟩;have bC:=s0.seq hq;refine⟨q,ns,1,rfl,bC,_,rfl,by decide,q,ns,1,rfl,bC,_,rfl,⟨by decide,by decide⟩,by decide,⟨by decide,by decide⟩,.inr ⟨by decide,by decide⟩,q,ns,3,rfl,bC,_,rfl,by decide,q,ns,p,L,n,by rw[hL,hn],bC,hz,hp,l1,l6,by lia,fun a ad H1 most s x wv hm dr S hw fZ kY fr=>?_⟩;have gG:Same H0 H1:=fZ;have b0:=jC_ (cell ns 2) (show (3:Int)≠0 by decide);have b1:=jx_ (cell ns 2) (show (0:Int)<3 by decide);have m4:most<=3:=by lia
  have hb:(most+1)*(most+1)<=4*4:=qJ_ s!"" s!"";have r:=dr.ok hp l1 l6 s!"" s!"";have bd:Bd 100 s:=by unfold Bd;rw[r.m];lia
  have hre:=r.e;have hw:A7 K H1 s.p s.L wv x:=by rw[r.l,r.q];exact hw
  obtain⟨kF,kH,kI,kJ,kK,x0⟩:=id S;have hpp:=x0.ob;have p2:=hp.1;refine⟨a,rfl,_,_,hpp,by kernel_rfl,a,ad,s,wv,rfl,S,a,ad,s,wv,x,rfl,S,hw,fun lA H2 s2 A2=>?_⟩;refine⟨q,ns,6,rfl,(gG.trans s2).seq bC,c9,_,rfl,by decide,_,rfl,by lia,fun lo fh=>?_⟩;obtain⟨cF,gH⟩:∃cF:Int,cF=cell ns 6%10 ^ rf 9:=⟨_,rfl⟩;have hfar0:0<=cF:=by rw[gH];exact jC_ _ (by decide)
  rw[<-gH];have s3:=s2.newT fh (o:=.lst [V.int (-1),V.int p,V.int (p+cF),V.int (-2-cF)]);have A3:=A2.mono (Same.new fh (o:=.lst [V.int (-1),V.int p,V.int (p+cF),V.int (-2-cF)]));obtain⟨dt,ho,eZ⟩:∃dt:Int,atI [V.int (-1),V.int p,V.int (p+cF),V.int (-2-cF)] (cell ns 7%4)=some (V.int dt)/\¬ (0<=dt/\dt<p):=by
   have d0:=jC_ (cell ns 7) (show (4:Int)≠0 by decide);have d1:=jx_ (cell ns 7) (show (0:Int)<4 by decide);have d2:cell ns 7%4=0\/cell ns 7%4=1\/cell ns 7%4=2\/cell ns 7%4=3:=by lia
   rcases d2 with d|d|d|d<;>rw[d]
   ·exact⟨_,rfl,by lia⟩
   ·exact⟨_,rfl,by lia⟩
   ·exact⟨_,rfl,by lia⟩
   ·exact⟨_,rfl,by lia⟩
  refine⟨q,ns,7,rfl,(gG.trans s3).seq bC,_,rfl,by decide,_,SqL.of Ab,_,ho,?_⟩;refine Cf ?_;nofun;generalize upd H2 lo (.lst [V.int (-1),V.int p,V.int (p+cF),V.int (-2-cF)])=H3 at s3 A3;rw[hL,hn];have S3:=S.same s3;have w3:=hw.mono (TK.of s3);refine⟨fun af H'=>af=[some (.ref q),some (.int p),some (.int L),some (.int n),some (.ref a),some wv,some (.ref lA),some (.int cF),some (.int dt)]/\Same H3 H',?_,fun af H' hh=>?_⟩
  ·have Ag:∀{H':Hp} {Q':VK} {E':XK},Same H3 H'->x.tag ≠ "show" -> QS H' Q' "turn value" -> Lb K ag aj [.ref a] H' Q' E':=fun {H'} {Q'} {E'} e i9 hk=>⟨a,ad,s,wv,x,rfl,S3.same e,w3.mono (TK.of e),i9,hk⟩;have Ht:∀{H':Hp} {m:Int} {Q':VK} {E':XK},Same H3 H'->x.tag ≠ "ask" -> QS H' Q' "turn value" -> Jj K ag aj [.ref a,.int m] H' Q' E':=fun {H'} {m} {Q'} {E'} e i9 hk=>⟨a,ad,s,wv,x,100,m,rfl,S3.same e,w3.mono (TK.of e),r.ok,bd,by lia,fun _=>hk,fun c hc=>absurd (by rw[hc];rfl) i9⟩;have Dt:∀{H':Hp} {t:Addr} {w:α2} {m:Int} {Q':VK} {E':XK},Same H3 H'->H' t=some (.tup (w.map V.int))->w.length<=600->x.tag ≠ "show" -> QS H' Q' "turn value" -> F7 K ag aj [.ref a,.ref t,.int m] H' Q' E':=fun {H'} {t} {w} {m} {Q'} {E'} e ht jB i9 hk=>⟨a,t,ad,s,wv,x,100,w,m,rfl,S3.same e,w3.mono (TK.of e),r.ok,bd,by lia,ht,jB,fun _=>hk,fun mm ws hx=>absurd (by rw[hx];rfl) i9⟩;obtain⟨t,u,hV,ht,hu⟩:=id w3;rw[hV];nofun;cases hx:x with
   |ask c=>
    rw[hx]at ht;have ht:H3 t=some (.tup [.str ("ask" : Str),.ref u]):=ht;have n1:x.tag ≠ "show" := by rw[hx];exact (by decide +kernel:¬ ("ask" : Str) = "show")
    refine⟨_,SqT.of ht,_,rfl,rfl,?_⟩;rw[if_pos rfl];refine Ag (Same.refl _) n1 fun H4 s4=>⟨rfl,?_⟩;rw[if_neg (by simp)];refine⟨a,ad,s,wv,x,100,dt,rfl,S3.same s4,w3.mono (TK.of s4),r.ok,bd,by lia,fun z=>absurd (by rw[hx];rfl) z,fun c hc=>⟨by rw[r.q];exact eZ,fun H5 jc=>⟨rfl,?_⟩⟩⟩;have s5:=s4.trans jc;rw[if_neg (by simp)];refine⟨by lia,fun t1 bZ=>Dt (w:=[(L:Int)]) (s5.newT bZ) Ab (by simp) n1 fun H6 kL=>⟨rfl,?_⟩⟩;have s6:=(s5.newT bZ).trans kL;rw[if_neg (by simp)];refine⟨by lia,fun t2 dN=>Dt (w:=[]) (s6.newT dN) Ab (by simp) n1 fun H7 du=>⟨rfl,?_⟩⟩;rw[if_neg (by simp)]
    first|exact⟨rfl,(s6.newT dN).trans du⟩|exact (s6.newT dN).trans du
   |shown mm ws=>
    rw[hx]at ht;have ht:H3 t=some (.tup [.str ("show" : Str),.ref u]):=ht;have ok:=r.ok;rw[hx]at ok;have w3':=w3;rw[hx]at w3';refine⟨_,SqT.of ht,_,rfl,rfl,?_⟩;rw[if_neg (fun z=>absurd (V.str.inj z) (by decide +kernel))];refine⟨_,SqT.of ht,_,rfl,rfl,?_⟩;rw[if_pos rfl];refine⟨a,q,ns,p,L,dt,ad,s,wv,mm,ws,rfl,S3,w3',ok,bd,r.q,r.l,l1,by lia,(gG.trans s3).seq bC,hz,eZ,fun H4 s4=>⟨true,rfl,?_⟩⟩;rw[if_neg (by simp)]
    first|exact⟨rfl,s4⟩|exact s4
   |done mm ws=>
    rw[hx]at ht;have ht:H3 t=some (.tup [.str ("done" : Str),.ref u]):=ht;refine⟨_,SqT.of ht,_,rfl,rfl,?_⟩;rw[if_neg (fun z=>absurd (V.str.inj z) (by decide +kernel))];refine⟨_,SqT.of ht,_,rfl,rfl,?_⟩;rw[if_neg (fun z=>absurd (V.str.inj z) (by decide +kernel))];refine⟨_,SqT.of ht,_,rfl,rfl,?_⟩;rw[if_pos rfl];have n1:x.tag ≠ "show" := by rw[hx];exact (by decide +kernel:¬ ("done" : Str) = "show")
    have n2:x.tag ≠ "ask" := by rw[hx];exact (by decide +kernel:¬ ("done" : Str) = "ask")
    refine Ag (Same.refl _) n1 fun H4 s4=>⟨rfl,?_⟩;rw[if_neg (by simp)];refine Ht s4 n2 fun H5 jc=>⟨rfl,?_⟩;have s5:=s4.trans jc;rw[if_neg (by simp)];refine Ht s5 n2 fun H6 kL=>⟨rfl,?_⟩;have s6:=s5.trans kL;rw[if_neg (by simp)];refine⟨by lia,fun t1 bZ=>Dt (w:=[0]) (s6.newT bZ) Ab (by simp) n1 fun H7 du=>⟨rfl,?_⟩⟩;rw[if_neg (by simp)]
    first|exact⟨rfl,(s6.newT bZ).trans du⟩|exact (s6.newT bZ).trans du
   |spent c=>
    rw[hx]at ht;have ht:H3 t=some (.tup [.str ("spent" : Str),.ref u]):=ht;refine⟨_,SqT.of ht,_,rfl,rfl,?_⟩;rw[if_neg (fun z=>absurd (V.str.inj z) (by decide +kernel))];refine⟨_,SqT.of ht,_,rfl,rfl,?_⟩;rw[if_neg (fun z=>absurd (V.str.inj z) (by decide +kernel))];refine⟨_,SqT.of ht,_,rfl,rfl,?_⟩;rw[if_neg (fun z=>absurd (V.str.inj z) (by decide +kernel))];refine⟨_,SqT.of ht,_,rfl,rfl,?_⟩;rw[if_pos rfl];have n1:x.tag ≠ "show" := by rw[hx];exact (by decide +kernel:¬ ("spent" : Str) = "show")
    have n2:x.tag ≠ "ask" := by rw[hx];exact (by decide +kernel:¬ ("spent" : Str) = "ask")
    refine Ag (Same.refl _) n1 fun H4 s4=>⟨rfl,?_⟩;rw[if_neg (by simp)];refine Ht s4 n2 fun H5 jc=>⟨rfl,?_⟩;have s5:=s4.trans jc;rw[if_neg (by simp)];refine Ht s5 n2 fun H6 kL=>⟨rfl,?_⟩;have s6:=s5.trans kL;rw[if_neg (by simp)];refine⟨by lia,fun t1 bZ=>Dt (w:=[0]) (s6.newT bZ) Ab (by simp) n1 fun H7 du=>⟨rfl,?_⟩⟩;rw[if_neg (by simp)]
    first|exact⟨rfl,(s6.newT bZ).trans du⟩|exact (s6.newT bZ).trans du
  ·obtain⟨rfl,s4⟩:=hh;have S4:=S3.same s4;have w4:=w3.mono (TK.of s4);have e04:=gG.trans (s3.trans s4);nofun;refine⟨a,ad,s,wv,x,rfl,S4,w4,fun lB H5 s5 B5=>⟨_,rfl,_,LB.eq57 B5 (A3.mono (s4.trans s5)),?_⟩⟩;rw[if_pos rfl];exact⟨a,q,ns,p,L,most,n,ad,s,wv,x,rfl,S4.same s5,w4.mono (TK.of s5),hm,dr,hp,l1,l6,by lia,Scr.of bC (e04.trans s5) fr,hz,k⟩
end
def all_mk {l:oR}{w:World}{K:α3}{h:Heap}{mg:Str->α5}{fa E5 Ld F9 JA NN JC Le DL Jl B7 Ga Vy Fe Pq SF NO NQ Lf D3 EA Ff Lg BD NR DM BE BP Bj Hr Ej NS NT JD Io JE NU SH Cr C9 Dc E6 Cs DO Fg JF Gb Ip JG SI CP BF CQ GQ Gd Hs Hu Ek DQ Ge Iq JH Lh Ir JI Li Gf Lj Iu E7 El LS GR DR YN:Addr}(X:K.In h)(G:h.Ns mainGlobals mg)(hfa:mg "law"=some (.ref fa))
  {aP au av bV aw ay ax cz cA cB aj ag:Addr}
  {GS JJ Fh Iv LU Iw JK Fi Lk Dd Iy SJ EB NV Pt LV LW JL DS D4 EC JN Cz LX De CC C0 BR JO Gg LY LZ Iz GU IA L3 Pu DT ED EF GX DU Fj EG IB IC GY ID Px D5 CD D9 Gh IE JQ JR Gi Fl IF GZ IG JS G0 IH JT Fm JU G1 G2 Gj Ll Gk Df Pz:α6}
  (aC_ja:nsIn K mainGlobals "Book"=some (some (.ref cz)))
  (aC_j9:nsIn K mainGlobals "Turns"=some (some (.ref cA)))
  (aC_jb:nsIn K mainGlobals "Hunt"=some (some (.ref cB)))
  (aC_j3:nsIn K mainGlobals "SumBook"=some (some (.ref aj)))
  (pg_j3:nV K aj Str.empty=true)
  (hd_j3:nY K aj=true)
  (po_j3:nZ K aj=true)
  (sa_j3:nK K (.ref aj) "__setattr__"=some (some (.builtin "object.__setattr__")))
  (n_letters_SumBook:nK K (.ref aj) "letters"=some none)
  (n_marks_SumBook:nK K (.ref aj) "marks"=some none)
  (n_p_SumBook:nK K (.ref aj) "p"=some none)
  (aC_j0:nsIn K mainGlobals "SumAsker"=some (some (.ref ag)))
  (pg_j0:nV K ag Str.empty=true)
  (hd_j0:nY K ag=true)
  (po_j0:nZ K ag=true)
  (sa_j0:nK K (.ref ag) "__setattr__"=some (some (.builtin "object.__setattr__")))
  (n_book_SumAsker:nK K (.ref ag) "book"=some none)
  (n_ends_SumAsker:nK K (.ref ag) "ends"=some none)
  (n_gaps_SumAsker:nK K (.ref ag) "gaps"=some none)
  (n_guess_SumAsker:nK K (.ref ag) "guess"=some none)
  (n_letters_SumAsker:nK K (.ref ag) "letters"=some none)
  (n_most_SumAsker:nK K (.ref ag) "most"=some none)
  (n_p_SumAsker:nK K (.ref ag) "p"=some none)
  (n_ways_SumAsker:nK K (.ref ag) "ways"=some none)
  (n_wish_SumAsker:nK K (.ref ag) "wish"=some none)
  (n_wrong_SumAsker:nK K (.ref ag) "wrong"=some none)
  (J0:HG K "wants" "Turns.wants" EM E5 GS (Meth K ag "wants" E5))
  (j1:HF K "_law_cell" G4 Ld JJ)
  (j2:HF K "_law_is_prime" DA F9 Fh)
  (j3:HF K "_law_prime" FG JA Iv)
  (j4:HF K "is_word" KL NN LU)
  (j5:HF K "check_word" FH JC Iw)
  (j6:HF K "is_number" G8 Le JK)
  (J7:HG K "check" "SumBook.check" DB DL Fi (Meth K aj "check" DL))
  (J8:HG K "put" "Book.put" IW Jl Lk (Meth K aj "put" Jl))
  (J9:HG K "check_wants" "Turns.check_wants" B0 B7 Dd (Meth K ag "check_wants" B7))
  (J10:HG K "heard" "Book.heard" FJ Ga Iy (Meth K aj "heard" Ga))
  (j11:HF K "unit" RY Vy SJ)
  (j12:HF K "place_of_first" C3 Fe EB)
  (j13:HF K "scaled" Mn Pq NV)
  (j14:HF K "added" Ot SF Pt)
  (j15:HF K "left_of" KN NO LV)
  (j16:HF K "inverse" KO NQ LW)
  (j17:HF K "with_base" G9 Lf JL)
  (j18:HF K "chosen_and_bases" Cg D3 DS)
  (j19:HF K "factors_of_each" CG EA D4)
  (j20:HF K "numbers_behind" C4 Ff EC)
  (j21:HF K "sum_guess" Hc Lg JN)
  (J22:HG K "make_guess" "SumAsker.make_guess" BA BD Cz (Meth K ag "make_guess" BD))
  (j23:HF K "product" KQ NR LX)
  (j24:HF K "first_other_worth" B3 DM De)
  (J25:HG K "wrong_word" "SumAsker.wrong_word" BB BE CC (Meth K ag "wrong_word" BE))
  (J26:HG K "look_at_guess" "Hunt.look_at_guess" BO BP C0 (Meth K ag "look_at_guess" BP))
  (J27:HG K "look_at_words" "SumAsker.look_at_words" Bi Bj BR (Meth K ag "look_at_words" Bj))
  (J28:HG K "told" "Book.told" Hd Hr JO (Meth K aj "told" Hr))
  (J29:HG K "ask_for" "Hunt.ask_for" Ed Ej Gg (Meth K ag "ask_for" Ej))
  (j30:HF K "made_of" KR NS LY)
  (j31:HF K "stepped" KS NT LZ)
  (j32:HF K "rows_along" FL JD Iz)
  (j33:HF K "halved_sums" ER Io GU)
  (j34:HF K "new_access" FN JE IA)
  (j35:HF K "rows_of" KU NU L3)
  (j36:HF K "cells" Ou SH Pu)
  (J37:HG K "take_in" "SumAsker.take_in" Cj Cr DT (Meth K ag "take_in" Cr))
  (J38:HG K "halve" "SumAsker.halve" C5 C9 ED (Meth K ag "halve" C9))
  (J39:HG K "next_wish" "Hunt.next_wish" C6 Dc EF (Meth K ag "next_wish" Dc))
  (J40:HG K "go_on" "Turns.go_on" ES E6 GX (Meth K ag "go_on" E6))
  (J41:HG K "keep_answer" "Hunt.keep_answer" Ck Cs DU (Meth K ag "keep_answer" Cs))
  (J42:HG K "hear" "SumAsker.hear" DD DO Fj (Meth K ag "hear" DO))
  (j43:HF K "_law_told_kind" C7 Fg EG)
  (j44:HF K "_law_hears" FO JF IB)
  (J45:HG K "agree" "Hunt.agree" FP Gb IC (Meth K ag "agree" Gb))
  (j46:HF K "_law_agrees" ET Ip GY)
  (j47:HF K "row_behind" FQ JG ID)
  (j48:HF K "worth" Ov SI Px)
  (J49:HG K "answer" "SumAsker.answer" CH CP D5 (Meth K ag "answer" CP))
  (J50:HG K "keep_objection" "Hunt.keep_objection" BC BF CD (Meth K ag "keep_objection" BF))
  (J51:HG K "differ" "SumAsker.differ" CI CQ D9 (Meth K ag "differ" CQ))
  (j52:HF K "_law_differs" Ee GQ Gh)
  (J53:HG K "__init__" "Turns.__init__" FT Gd IE (CMeth K cA "__init__" Gd))
  (J54:HG K "__init__" "Hunt.__init__" Hg Hs JQ (CMeth K cB "__init__" Hs))
  (J55:HG K "__init__" "Book.__init__" Hj Hu JR (CMeth K cz "__init__" Hu))
  (J56:HG K "__init__" "SumBook.__init__" Ef Ek Gi (Mk K aj Ek))
  (J57:HG K "__init__" "SumAsker.__init__" DE DQ Fl (Mk K ag DQ))
  (J58:HG K "heard" "Hunt.heard" FU Ge IF (Meth K ag "heard" Ge))
  (j59:HF K "_law_number" EU Iq GZ)
  (j60:HF K "_law_times" FV JH IG)
  (j61:HF K "_law_step" Hk Lh JS)
  (j62:HF K "_law_behind" EV Ir G0)
  (j63:HF K "_law_worth" FX JI IH)
  (j64:HF K "_law_word" Hl Li JT)
  (j65:HF K "_law_new_word" DF Gf Fm)
  (j66:HF K "_law_deed" Hm Lj JU)
  (j67:HF K "_law_driven" EW Iu G1)
  (J68:HG K "access" "Hunt.access" EX E7 G2 (Meth K ag "access" E7))
  (J69:HG K "tellers" "Hunt.tellers" Eh El Gj (Meth K ag "tellers" El))
  (j70:HF K "_law_all" IZ LS Ll)
  (j71:HF K "_law_goes_on" Ei GR Gk)
  (j72:HF K "_law_show_refuses" B4 DR Df)
  (j73:HF K "law" Wt YN Pz)
  (z_ValueError:nsIn K mainGlobals "ValueError"=some none)
  (z_all:nsIn K mainGlobals "all"=some none)
  (z_dict:nsIn K mainGlobals "dict"=some none)
  (z_enumerate:nsIn K mainGlobals "enumerate"=some none)
  (z_isinstance:nsIn K mainGlobals "isinstance"=some none)
  (z_len:nsIn K mainGlobals "len"=some none)
  (z_list:nsIn K mainGlobals "list"=some none)
  (z_max:nsIn K mainGlobals "max"=some none)
  (z_range:nsIn K mainGlobals "range"=some none)
  (z_sum:nsIn K mainGlobals "sum"=some none)
  (z_tuple:nsIn K mainGlobals "tuple"=some none)
  (z_zip:nsIn K mainGlobals "zip"=some none)
  (m_j7:nsIn K mainGlobals "AskError"=some (some (.ref aP)))
  (m_j5:nsIn K mainGlobals "BadWord"=some (some (.ref au)))
  (m_j6:nsIn K mainGlobals "BadMark"=some (some (.ref av)))
  (m_j8:nsIn K mainGlobals "NoInverse"=some (some (.ref bV)))
  (m_j4:nsIn K mainGlobals "OutOfTurn"=some (some (.ref aw)))
  (m_j2:nsIn K mainGlobals "NoDifference"=some (some (.ref ay)))
  (m_j1:nsIn K mainGlobals "Contradiction"=some (some (.ref ax)))
  (x_j5:nR K au bmV "ValueError.__new__"=true)
  (xc_BadWord:ExcCls K au)
  (e_j5:exmOne K (.ref au) (.ref aP)=some true)
  (v_j5:kitOne K (.ref au) (.type "ValueError")=some true)
  (k_j5_j5:kitOne K (.ref au) (.ref au)=some true)
  (k_j5_j6:kitOne K (.ref au) (.ref av)=some false)
  (k_j5_j4:kitOne K (.ref au) (.ref aw)=some false)
  (k_j5_j2:kitOne K (.ref au) (.ref ay)=some false)
  (k_j5_j1:kitOne K (.ref au) (.ref ax)=some false)
  (x_j6:nR K av bmV "ValueError.__new__"=true)
  (xc_BadMark:ExcCls K av)
  (e_j6:exmOne K (.ref av) (.ref aP)=some true)
  (v_j6:kitOne K (.ref av) (.type "ValueError")=some true)
  (k_j6_j5:kitOne K (.ref av) (.ref au)=some false)
  (k_j6_j6:kitOne K (.ref av) (.ref av)=some true)
  (k_j6_j4:kitOne K (.ref av) (.ref aw)=some false)
  (k_j6_j2:kitOne K (.ref av) (.ref ay)=some false)
  (k_j6_j1:kitOne K (.ref av) (.ref ax)=some false)
  (x_j8:nR K bV bmV "ValueError.__new__"=true)
  (x_j4:nR K aw bmV "ValueError.__new__"=true)
  (xc_OutOfTurn:ExcCls K aw)
  (e_j4:exmOne K (.ref aw) (.ref aP)=some true)
  (v_j4:kitOne K (.ref aw) (.type "ValueError")=some true)
  (k_j4_j5:kitOne K (.ref aw) (.ref au)=some false)
  (k_j4_j6:kitOne K (.ref aw) (.ref av)=some false)
  (k_j4_j4:kitOne K (.ref aw) (.ref aw)=some true)
  (k_j4_j2:kitOne K (.ref aw) (.ref ay)=some false)
  (k_j4_j1:kitOne K (.ref aw) (.ref ax)=some false)
  (x_j2:nR K ay bmV "ValueError.__new__"=true)
  (xc_NoDifference:ExcCls K ay)
  (e_j2:exmOne K (.ref ay) (.ref aP)=some true)
  (v_j2:kitOne K (.ref ay) (.type "ValueError")=some true)
  (k_j2_j5:kitOne K (.ref ay) (.ref au)=some false)
  (k_j2_j6:kitOne K (.ref ay) (.ref av)=some false)
  (k_j2_j4:kitOne K (.ref ay) (.ref aw)=some false)
  (k_j2_j2:kitOne K (.ref ay) (.ref ay)=some true)
  (k_j2_j1:kitOne K (.ref ay) (.ref ax)=some false)
  (x_j1:nR K ax bmV "ValueError.__new__"=true)
  (xc_Contradiction:ExcCls K ax)
  (e_j1:exmOne K (.ref ax) (.ref aP)=some true)
  (v_j1:kitOne K (.ref ax) (.type "ValueError")=some true)
  (k_j1_j5:kitOne K (.ref ax) (.ref au)=some false)
  (k_j1_j6:kitOne K (.ref ax) (.ref av)=some false)
  (k_j1_j4:kitOne K (.ref ax) (.ref aw)=some false)
  (k_j1_j2:kitOne K (.ref ax) (.ref ay)=some false)
  (k_j1_j1:kitOne K (.ref ax) (.ref ax)=some true)
  : ∃fd:α6,(∀(s:Shared) (v:Value),BindsTo s fd ⟨[v],[]⟩ [("script",v)])/\∀base:Heap,K.In base->base.Ns mainGlobals mg->FnOk l.prog w K mg base CX0 17 fa fd ["script"] (Ur K):=by
 have e:=hfa.symm.trans (jq_ X G j73.a);cases e;exact⟨Pz,j73.b fun _ _ _ _ _ _ _=>rfl,fun base _ _=>(Yu (P:=l.prog) (w:=w) (base:=base) (fA:=fun i=>[E5,Ld,F9,JA,NN,JC,Le,DL,Jl,B7,Ga,Vy,Fe,Pq,SF,NO,NQ,Lf,D3,EA,Ff,Lg,BD,NR,DM,BE,BP,Bj,Hr,Ej,NS,NT,JD,Io,JE,NU,SH,Cr,C9,Dc,E6,Cs,DO,Fg,JF,Gb,Ip,JG,SI,CP,BF,CQ,GQ,Gd,Hs,Hu,Ek,DQ,Ge,Iq,JH,Lh,Ir,JI,Li,Gf,Lj,Iu,E7,El,LS,GR,DR,fa].getD i fa) (fD:=fun i=>[GS,JJ,Fh,Iv,LU,Iw,JK,Fi,Lk,Dd,Iy,SJ,EB,NV,Pt,LV,LW,JL,DS,D4,EC,JN,Cz,LX,De,CC,C0,BR,JO,Gg,LY,LZ,Iz,GU,IA,L3,Pu,DT,ED,EF,GX,DU,Fj,EG,IB,IC,GY,ID,Px,D5,CD,D9,Gh,IE,JQ,JR,Gi,Fl,IF,GZ,IG,JS,G0,IH,JT,Fm,JU,G1,G2,Gj,Ll,Gk,Df,Pz].getD i Pz) ⟨⟨j8_ X G z_ValueError,j8_ X G z_all,j8_ X G z_dict,j8_ X G z_enumerate,j8_ X G z_isinstance,j8_ X G z_len,j8_ X G z_list,j8_ X G z_max,j8_ X G z_range,j8_ X G z_sum,j8_ X G z_tuple,j8_ X G z_zip⟩,⟨jq_ X G aC_ja,jq_ X G aC_j9,jq_ X G aC_jb,jq_ X G aC_j3,⟨pg_j3,hd_j3,po_j3,sa_j3⟩,n_letters_SumBook,n_marks_SumBook,n_p_SumBook,jq_ X G aC_j0,⟨pg_j0,hd_j0,po_j0,sa_j0⟩,n_book_SumAsker,n_ends_SumAsker,n_gaps_SumAsker,n_guess_SumAsker,n_letters_SumAsker,n_most_SumAsker,n_p_SumAsker,n_ways_SumAsker,n_wish_SumAsker,n_wrong_SumAsker⟩,⟨jq_ X G m_j7,jq_ X G m_j5,jq_ X G m_j6,jq_ X G m_j8,jq_ X G m_j4,jq_ X G m_j2,jq_ X G m_j1,x_j5,xc_BadWord,e_j5,v_j5,k_j5_j5,k_j5_j6,k_j5_j4,k_j5_j2,k_j5_j1,x_j6,xc_BadMark,e_j6,v_j6,k_j6_j5,k_j6_j6,k_j6_j4,k_j6_j2,k_j6_j1,x_j8,x_j4,xc_OutOfTurn,e_j4,v_j4,k_j4_j5,k_j4_j6,k_j4_j4,k_j4_j2,k_j4_j1,x_j2,xc_NoDifference,e_j2,v_j2,k_j2_j5,k_j2_j6,k_j2_j4,k_j2_j2,k_j2_j1,x_j1,xc_Contradiction,e_j1,v_j1,k_j1_j5,k_j1_j6,k_j1_j4,k_j1_j2,k_j1_j1⟩,J0,⟨jq_ X G j1.a,j1.F⟩,⟨jq_ X G j2.a,j2.F⟩,⟨jq_ X G j3.a,j3.F⟩,⟨jq_ X G j4.a,j4.F⟩,⟨jq_ X G j5.a,j5.F⟩,⟨jq_ X G j6.a,j6.F⟩,J7,J8,J9,J10,⟨jq_ X G j11.a,j11.F⟩,⟨jq_ X G j12.a,j12.F⟩,⟨jq_ X G j13.a,j13.F⟩,⟨jq_ X G j14.a,j14.F⟩,⟨jq_ X G j15.a,j15.F⟩,⟨jq_ X G j16.a,j16.F⟩,⟨jq_ X G j17.a,j17.F⟩,⟨jq_ X G j18.a,j18.F⟩,⟨jq_ X G j19.a,j19.F⟩,⟨jq_ X G j20.a,j20.F⟩,⟨jq_ X G j21.a,j21.F⟩,J22,⟨jq_ X G j23.a,j23.F⟩,⟨jq_ X G j24.a,j24.F⟩,J25,J26,J27,J28,J29,⟨jq_ X G j30.a,j30.F⟩,⟨jq_ X G j31.a,j31.F⟩,⟨jq_ X G j32.a,j32.F⟩,⟨jq_ X G j33.a,j33.F⟩,⟨jq_ X G j34.a,j34.F⟩,⟨jq_ X G j35.a,j35.F⟩,⟨jq_ X G j36.a,j36.F⟩,J37,J38,J39,J40,J41,J42,⟨jq_ X G j43.a,j43.F⟩,⟨jq_ X G j44.a,j44.F⟩,J45,⟨jq_ X G j46.a,j46.F⟩,⟨jq_ X G j47.a,j47.F⟩,⟨jq_ X G j48.a,j48.F⟩,J49,J50,J51,⟨jq_ X G j52.a,j52.F⟩,J53,J54,J55,J56,J57,J58,⟨jq_ X G j59.a,j59.F⟩,⟨jq_ X G j60.a,j60.F⟩,⟨jq_ X G j61.a,j61.F⟩,⟨jq_ X G j62.a,j62.F⟩,⟨jq_ X G j63.a,j63.F⟩,⟨jq_ X G j64.a,j64.F⟩,⟨jq_ X G j65.a,j65.F⟩,⟨jq_ X G j66.a,j66.F⟩,⟨jq_ X G j67.a,j67.F⟩,J68,J69,⟨jq_ X G j70.a,j70.F⟩,⟨jq_ X G j71.a,j71.F⟩,⟨jq_ X G j72.a,j72.F⟩,⟨jq_ X G j73.a,j73.F⟩⟩).g⟩
def walk {l:oR}{q:Program}{b8:List Str}{XP:(Str->α5)->Heap->Prop}{YP:World->Heap->Prop}{d:DefRec}{K:Params->α3}(hn:l.most=some 63)(jL:d.params.defaults=[])
  (hY:∀(w:World) (h:Heap),YP w h->(K w.params).In h)
  (F:∀(w:World) (mg:Str->α5) (fa:Addr) (h:Heap),(K w.params).In h->h.Ns mainGlobals mg->mg d.name=some (.ref fa) ->
   ∃fd:α6,(∀(s:Shared) (u:Value),BindsTo s fd ⟨[u],[]⟩ [("script",u)])/\∀base:Heap,(K w.params).In base->base.Ns mainGlobals mg->FnOk l.prog w (K w.params) mg base CX0 17 fa fd ["script"] (Ur (K w.params))):
  qZ q b8 XP YP l.row.toRowW d [] (fun f vs=>qA f vs):=
 L2.walk_of (n:=63) (k:=17) (x := "script") (CX:=fun _=>CX0) (sp:=fun w=>Ur (K w.params)) hn (by decide) jL ⟨rfl,by decide,by decide⟩ hY F (fun _ _ a ns hl _ hS=>⟨a,ns,rfl,hS,hl,fun _=>rfl⟩) fun _ _ _ _ _ z=>z
end Mine
structure PySem.W.Fast:Prop where (tw13450964508217435355 tw10611167417414016465 tw5682986659067457763 tw8635656654291028970 tw4716063120981325919 tw213633162089877269 tw10519941375617626836 tw1546161534596312655 tw14359276142012403642 tw8229369798308383354 tw11362261654018990234 tw14049097796127696230 tw1611132464191464376 tw13748516418812059466 tw3308952898125873471 tw18239539661394430667 tw3214326358362625312 tw11159863515311915726 tw9073282556412255808 tw12924096840650027264 tw557962892743631044 tw14793359435064094514 tw11563584653729398800 tw2557442860077461414 tw6533559936936221605 tw4740089899209601042 tw12765608604099918430 tw17530752468012891130 tw834288600718532687 tw11087887693818655995 tw5479445443146632628 tw418256501259310791 tw9063146675801177381 tw173693757408201803 tw16756922443559519058 tw18205617421140718725 tw2152642620455771715 tw9092622319676600275 tw10554443902948454530 tw10158491549483408908 tw17198069593429940200 tw10143448368955291343 tw11552026755006058928 tw15732475017836375499 tw4605152579766649288 tw6033561715530179666 tw3629266877849673375 tw11610664533103821758 tw14821370830871494071 tw7513669048192071616 tw11434862633079695750 tw5099634544099482494 tw13561684087493311 tw17325184408415782056 tw15883665148488072990 tw4593007605862388053 tw538041635895970735 tw7841394659146792964 tw6218326436064276900 tw10405027208372005712 tw1821164598819733331 tw15678795560730070272 tw10281670626603925684 tw12947011896363818175 tw1428970048312418642 tw14590149244371656450 tw15600293001357307102 tw13060190715838737491 tw9456354190351852548 tw18154414459153753334 tw10980924091469237053 tw3839028905888760778 tw6635368327463202120 tw3549624925443838192 tw6357129306684271354 tw1469240147130434101 tw17252102840924157223 tw8861869371365468513 tw12593287508270376019 tw14564901472489295951 tw5349074151420406466 tw16026675959609697262 tw11435281447574871288 tw18279812023040652942 tw9061281140207378646 tw9513925556804672375 tw6625397263939569756 tw5987411513093794805 tw14286692593579188063 tw1725614839223458288 tw4882784142009062373 tw6040179723382176196 tw17215212149401753756 tw4957975162010699477 tw11735554634478986751 tw13063069968350086444 tw15655939638626051533 tw9189064571325583918 tw9269354508126939885 tw12591877542874912604 tw16497947271569561937 tw5901423648404487487 tw15352713072072232113 tw14685451757251524023 tw6480879072814359198 tw7144808613285012315 tw16419682648543408029 tw165935087454173486 tw13330140305854819862 tw17710211922488232158 tw5748938133113658220 tw14210777006978716535 tw11788011462025147535 tw16187978620254035818 tw8440184822260001102 tw17749480583920937130 tw3956698404989920411 tw9989352122611112494 tw16372735186971062925 tw3597839649167714426 tw15980467414196642019 tw11954003455657970658 tw6385658490068416121 tw18429734011189411200 tw9173571575224695855 tw6500584776830628489 tw2132834930548969902 tw11025946794383633524 tw625220532417966360 tw10687366305839107251 tw3894809536169290140 tw11606342857829786155 tw6967789343144269822 tw11802987478208298723 tw13523520511854648722 tw5963009798981270007 tw14674705777381536988 tw10029937262059310571 tw2354889794740686049 tw14365259852107759150 tw16250987685341549398 tw17550265938746529709 tw5384454362938265036 tw17857279045390948687 tw2640921707879705980 tw16176409421023654080 tw3963091396799082655 tw986329674382451730 tw14126372322856182253 tw5973023284805032528 tw5865044248957290398 tw18170165437183592078 tw3235113813730252644 tw4934280848526577293 tw3825253943599226303 tw1904477199722945615 tw7785460114142614735 tw2187758261194933839 tw15795856169556949975 tw7723196911345633421 tw11538596750090477397 tw5765500513520695160 tw801642331751536385 tw4051844017852434692 tw15481963072855883595 tw12187652141670466803 tw11117387508341689730 tw14363153360413410970 tw540859701912035500 tw2478460115356868775 tw15793524373021994424 tw12602993962053655590 tw11528909506433054687 tw3885373167797491004 tw10114581335560396142 tw14207360415280656933 tw12257888080829896010 tw16617675803705466002 tw13399217546172635358 tw11191378830020089157 tw14569199863116267239 tw17146109424018729214 tw1406378807085306795 tw3843430208670291594 tw33351379239225523 tw12335353809300880187 tw13833692663767313660 tw13594334715188216940 tw3494830758615144463 tw6468495369941755698 tw9125763047178297521 tw2662391102776750496 tw3246936855830235960 tw9899762625423105217 tw3272978801271305384 tw3972369851355643090 tw15361781068214498979 tw3286695574154868706 tw13783710790588929485 tw3404338611869664587 tw12224649664386550252 tw9473938481264992563 tw5834285764800556298 tw13908489135479166948 tw12746344791800719495 tw10820539029688419890 tw295165501386599572 tw918955006090108941 tw4267466615770835038 tw3745648480533455704 tw6948548518649421883 tw16909043722724957672 tw6683582458964804163 tw15523856689740794811 tw7312746007303281466 tw17247422857582669635 tw13085930605106156151 tw5088020050381583911 tw16290385309997634631 tw8395513113270017334 tw2694103828434760581 tw3663323313643920229 tw8143031965489621496 tw1765002834778005066 tw17325134928481328644 tw4276691351726024261 tw4616606247122736930 tw12780807728618757894 tw16441104178251227539 tw8659991520879646129 tw3492206096807064056 tw2901932514641602782 tw18084618896045541529 tw13492926570993466613 tw4431046879620612543 tw15118148357701142529 tw9097988322542434947 tw17519251006320070985 tw15224704447526126505 tw13310948400451426546 tw3552349646290816138 tw18304720084513084757 tw18137363461641354945 tw288643734223450720 tw5216812438252724332 tw12368496005882576745 tw9551703489802767720 tw12539784563337804599 tw17315047718741597905 tw7271725927831926183 tw8607681314362821744 tw14601048576693281410 tw1502634325838538808 tw2275957061823199562 tw12951171144708772393 tw10856686301395335825 tw7101218003934474604 tw10332227814608246349 tw6206663306319727918 tw17463066139297709990 tw18325240702221831941 tw12455086948056971347 tw11023664864098250813 tw13368351983642927466 tw13319601553288958847 tw1886137213946963548 tw4561774849251708939 tw14433171492253072198 tw16427823946306001122 tw6234342908792264247 tw9623300158903757430 tw12621373419037724731 tw12160735548711591680 tw14955179235014734482 tw11880451769610429468 tw14472829847220274781 tw2940647470828462793 tw7112324542559477522 tw8354228358157447242 tw15983863838809183600 tw7971287679594867758 tw749171958411498414 tw13973467203674942039 tw12372770841444173374 tw9207677990560106524 tw12083132184645958286 tw10173181461269093493 tw14640860925471177579 tw8875841348725818218 tw16625922496422611185 tw8301743224704884004 tw2953926461652528171 tw3467189248653280211 tw8797459973252530473 tw14657134308971700874 tw9178213321636749535 tw7727692219321766544 tw11902578931695419507 tw5490810681058664485 tw17053276394738993678 tw7532879833896854262 tw10039680741411103410 tw10927411547794535468 tw7613003877645840417 tw3554580819328531197 tw10823327454368311778 tw12101544166945345788 tw13754709662816821373 tw3289354195927754320 tw12993548116267367488 tw8204652580145981601 tw1851713189560004841 tw703331162122296326 tw9948229424080828269 tw10324140356794636064 tw15036094545084186246 tw8343631638378879952 tw13762150132093795976 tw14682827618584658791 tw15835455779969006854 tw14500900719811091774 tw3139605298698154814 tw13309371587546531970 tw14214257647546277348 tw9990755922134433417 tw6155919604444790016 tw10137652068118057604 tw17333087897664286095 tw18282230999808651820 tw15467839380448093389 tw6783374177159744946 tw4121313051540814001 tw5535376891487436464 tw12842589363195334423 tw18227019804044537884 tw2224873627088591002 tw16715053939354976932 tw3096493321965200958 tw6730978303188182762 tw9310129196696004834 tw3704817833832469368 tw6823089888836813279 tw4111212316128391887 tw9744680200184591627 tw15840330283557855653 tw12114041627386250522 tw1742296655726207934 tw2594143797878009914 tw16541024992078176044 tw15068949263750550578 tw16674263282135931952 tw11579863962649362031 tw8028377337161283996 tw8793772278869726802 tw17232966158500160174 tw11300871775821384825 tw14935075930209411148 tw14030675435507534692 tw13401267535837382241 tw283190178958156350 tw16947294411252721962 tw10686044547334369065 tw17596098224664214730 tw3648664043736595647 tw14482356116186786144 tw11805759118488074705 tw7199253861476938590 tw8058210661755526993 tw18123086509538819009 tw416562542371722146 tw17862876840226097916 tw8644237937891606168 tw7172376203941570521 tw17768910524971112103 tw5045767178746487453 tw7656775948949078965 tw3386639719221054108 tw4825997183736065402 tw7893261457655836105 tw7222334311696495947 tw4264574043215739858 tw5296694939007199009 tw4543586016247592841 tw1499897423213551828 tw2445708660248769119 tw989579723754930562 tw14386129575669005610 tw1428211906442909935 tw9858964186408392549 tw4052205403017846003 tw8576138540259002240 tw6004549691209752369 tw13738500291492951463 tw14246626676697313078 tw14858279745699672176 tw6232194743394912281 tw10443179859093291337 tw16344355094840914260 tw2542297636530776230 tw15975089075028075678 tw15256471584614090192 tw13158029059835653579 tw17144745933070667318 tw17727340686266778539 tw6253910790462038194 tw6308080351577816739 tw5486519384894858555 tw13670862767193660034 tw11417976150291149988 tw17100283332205088844 tw14882581076750003451 tw13768333120100936545 tw11174635269635584885 tw14493812154598220763 tw16772000639167389417 tw6280570556192707621 tw5574553448808421821 tw6919187163168756207 tw747690454302686529 tw10362783473094231094 tw11660006819259225533 tw15187341991860986852 tw111203752583296267 tw16923219627517252602 tw4565550257438558693 tw9513621352595591487 tw5919720397161998398 tw17554235577644417113 tw4359364472637425052 tw4890635640500385610 tw11383262523526815391 tw8766375982783419308 tw8627909550172876315 tw15961171469591629795 tw18056768996694644235 tw10434924040780567632 tw13901420798426727899 tw4975112770845882685 tw1862599690957967046 tw11672409997042021920 tw2456578368661721770 tw5659479760557399619 tw5957406116545086141 tw6864343177822466579 tw17748898687253789209 tw13658719609262062188 tw12002635617124495280 tw14622184890598830771 tw17099475323104386598 tw13586212416989406090 tw15284557473149500510 tw15703290905178164627 tw963857063055530753 tw9601884906241786373 tw2346142000923698789 tw2073457591562705174 tw9382583708394427558 tw11362061413295056958 tw2674747648859657859 tw8573158993292058803 tw9288889943407556855 tw3607266012514594155 tw4096170311892017019 tw16398794349345700243 tw7568265399042973603 tw12544518448213828366 tw9906358279560051668 tw11795310858383591144 tw11552845198663175443 tw3287188805995094496 tw3867648405368927957 tw12543299187142091195 tw2614536744487373299 tw15902676361282430261 tw2883050427781063233 tw13513185852568565621 tw1916212615499387081 tw11763852406499536221 tw14547121281930859467 tw15301543433168838202 tw7621487930798368691 tw5854674775260389501 tw5223538092590220250 tw15727633382494079265 tw15332830381949664643 tw14917477192133183187 tw18444925209116146348 tw2577143707764892009 tw18121369915124078163 tw17047147343561431521 tw11581440598408687624 tw12689906383964756504 tw18240313455653030122 tw16790190310548898872 tw49734393963482367 tw16515688334219020506 tw10667566109069894130 tw6647680895748050478 tw18301384397799293712 tw6259457843121529469 tw14325827423549441032 tw11878207498967350395 tw9503547946402631073 tw4542140956521059055 tw4775787460057201107 tw2144628783014619532 tw17245868507540176461 tw16136018723745925012 tw1393300291605287725 tw4608506239623366729 tw13232919584841840284 tw12683396165874700777 tw3201082201688729250 tw10587577341063172548 tw3125210124866062782 tw3164380658485283502 tw4829018697029227992 tw7946752011183841526 tw10911138521672224028 tw16695279168032147196 tw11946487742449216215 tw14980855066426290105 tw8458349059817565780 tw10074539200700693463 tw8861087916514958608 tw14889328352196588990 tw14217835611314549553 tw14873571054440260256 tw6160224687468064255 tw2988100836622342768 tw2813046840984974285 tw17412650905466187596 tw2051626005010351820 tw7845437951613599182 tw4095083278427752643 tw7630937960684773420 tw12755148600444077124 tw1708259819666708027 tw5071719023671872156 tw17787167374137299733 tw11725036771702888372 tw15562350891703830785 tw14632980339448753511 tw2118946901104128004 tw10623297692953065188 tw14954821111552974041 tw10821229403009739188 tw10670352166871133325 tw17598791326158500467 tw10252352406733831733 tw10052666684508960149 tw18314353629172437131 tw1181004376270019846 tw6697054509221036598 tw3126530806760930201 tw12907858483577935069 tw1903817126304952275 tw17518706127809988944 tw6285298421678991362 tw13659878254196835733 tw3640688798493400247 tw16452870886242492490 tw8475374658245197344 tw11513171320451754050 tw11479124769755714393 tw5111494545561976088 tw5108349523153665977 tw4814324276189452645 tw453772297796828634 tw14145847625468662418 tw9324955561517551802 tw7052299119467563194 tw16043569129195810520 tw13632720691987431764 tw17318170973531503132 tw16054178334387632494 tw13571223337415570152 tw7447890425413007911 tw307714525014289421 tw17578443566777267530 tw7066982406514226155 tw17299251378127987636 tw11740237983732249431 tw7473965734892130105 tw17377043704477521658 tw8050442091201732419 tw16877188324310140841 tw903620323078100179 tw4804897657980170085 tw5385929089758375042 tw16870748722957384001 tw7600826727547492069 tw11399416945187559589 tw16554764563121863662 tw2696034652079870019 tw7362677374041784519 tw11815984228418126573 tw3500276660497594358 tw14045691996358879448 tw14627479347413695061 tw4665368894156328952 tw1211428920055613619 tw10692602493261560270 tw9611768175208561310 tw62461385856845096 tw13737647710451250611 tw17524715074480655986 tw9175356410535580063 tw10143341505132348630 tw1975300567390709771 tw12461531845583714041 tw5021730453713922761 tw11970216007555593293 tw4710898652864961223 tw3198777727094953239 tw2647409383496949439 tw4726216304592820849 tw17384662843146745189 tw14718149870737085823 tw2684868995917435040 tw18113697564253125646 tw7929436523482997923 tw8576043169499302135 tw8067824470348675669 tw2321501740074224856 tw14705308955733327415 tw764762399876678235 tw2204702258397027157 tw299144896209005175 tw6173907978236382524 tw2079270608973972864 tw10556925299709004712 tw11107262479127324089 tw12334857770384260954 tw9794728531461524171 tw6287871291958476771 tw15039511149444731350 tw14920823949725619486 tw2677022528270352677 tw3462400981391164087 tw16865427396513223875 tw10257345292663151062 tw56483625696973232 tw13402366392501203795 tw14665659624937559716 tw12789517862870771858 tw13873137122866588150 tw6767101644554595793 tw2774361425421399241 tw2254356176299605293 tw9405151380082094371 tw14695201840476550571 tw15299395214678733723 tw14570653049218863745 tw4641910791765965503 tw8084325720069024635 tw13531642543745539309 tw8856400988618307967 tw12445889510556055487 tw6092144417993671835 tw13758810392724484983 tw14055355024118034276 tw5131889693682115901 tw18338564844859557193 tw9106364341158084720 tw8393005804612734778 tw9698369465726533220 tw12537307006037121543 tw8640395343989316724 tw9293540661791433212 tw2067619315486310427 tw9097598707942919426 tw12882100679949686147 tw12997893016798258946 tw13443342378910103709 tw9537632087922391166 tw332039042261221354 tw15105666034396654419 tw3710265864863777316 tw7784880540194024325 tw13477753959795200038 tw7993345614180809606 tw8563059338111971419 tw16532291626188715445 tw16638775258009473125 tw18343898022546737875 tw9685802015064161361 tw3287500464031018387 tw13563797203790801395 tw4622234269020343036 tw14623315515945638912 tw2149115923635005624 tw13330678609938954795 tw9409209680057611748 tw15764935285936997006 tw4514817022365808496 tw10882523664841259671 tw1134345964658998096 tw9593663805209672165 tw7297259307479250476 tw753775369673193758 tw8716244841042280753 tw15316453690213912074 tw13972731771250603583 tw11966485736780155528 tw2771404370489610014 tw7432547680192518299 tw3850503837676188904 tw16652532793750799980 tw14875974081566499356 tw5262801194509278094 tw14760663771084542045 tw10404146666588965893 tw3159622461082086477 tw6196070950724824449 tw15606877565813127839 tw855296105716821595 tw1873910140551804821 tw85392460713046929 tw221135148816553710 tw5187992842376645986 tw5337043694555571931 tw8352873844420490355 tw14001276271793210851 tw12524724896276692998 tw4003221667133532455 tw15199638281909990730 tw3594204780173087819 tw11069666899021649044 tw7144587588529492304 tw16010144437026594950 tw10283705777721151361 tw10988976572612418926 tw422558967410342988 tw15512993946014579738 tw8856147539049286881 tw8202026451992995337 tw7573669452010052088 tw13623027935767934933 tw2894464950149644717 tw14784320599888133208 tw17704077317203815647 tw8850698516487752748 tw7030794916887546658 tw11114818678516083169 tw12088016423212419845 tw8938341311364488390 tw8143897950187343660 tw13279833415114669776 tw8860268158513590069 tw12097641822459266822 tw2462565763833191360 tw6140315965797169305 tw15741543167401509654 tw12411883500657500715 tw18347566465211511942:True)
open PySem PySem.W PyProof.Rows
set_option maxRecDepth 100000 in
set_option maxHeartbeats 0 in
theorem PySem.Challenge.cw_guessroom_k71_sum_asker_refuses_holds : PySem.Challenge.rw_guessroom_k71_sum_asker_refuses.Holds := by
  w_on; o_law; k_head; (case hw => w_witness2)
  k_fill
  refine Mine.walk (l := PySem.Challenge.rw_guessroom_k71_sum_asker_refuses) rfl rfl (fun w h Y => PySem.W.kIn_of Y) ?F
  case F =>
    intro w mg fa h KX G hmg
    refine' Mine.all_mk KX G hmg ?aC_ja ?aC_j9 ?aC_jb ?aC_j3 ?pg_j3 ?hd_j3 ?po_j3 ?sa_j3 ?n_letters_SumBook ?n_marks_SumBook ?n_p_SumBook ?aC_j0 ?pg_j0 ?hd_j0 ?po_j0 ?sa_j0 ?n_book_SumAsker ?n_ends_SumAsker ?n_gaps_SumAsker ?n_guess_SumAsker ?n_letters_SumAsker ?n_most_SumAsker ?n_p_SumAsker ?n_ways_SumAsker ?n_wish_SumAsker ?n_wrong_SumAsker ?J0 ?j1 ?j2 ?j3 ?j4 ?j5 ?j6 ?J7 ?J8 ?J9 ?J10 ?j11 ?j12 ?j13 ?j14 ?j15 ?j16 ?j17 ?j18 ?j19 ?j20 ?j21 ?J22 ?j23 ?j24 ?J25 ?J26 ?J27 ?J28 ?J29 ?j30 ?j31 ?j32 ?j33 ?j34 ?j35 ?j36 ?J37 ?J38 ?J39 ?J40 ?J41 ?J42 ?j43 ?j44 ?J45 ?j46 ?j47 ?j48 ?J49 ?J50 ?J51 ?j52 ?J53 ?J54 ?J55 ?J56 ?J57 ?J58 ?j59 ?j60 ?j61 ?j62 ?j63 ?j64 ?j65 ?j66 ?j67 ?J68 ?J69 ?j70 ?j71 ?j72 ?j73 ?z_ValueError ?z_all ?z_dict ?z_enumerate ?z_isinstance ?z_len ?z_list ?z_max ?z_range ?z_sum ?z_tuple ?z_zip ?m_j7 ?m_j5 ?m_j6 ?m_j8 ?m_j4 ?m_j2 ?m_j1 ?x_j5 ?xc_BadWord ?e_j5 ?v_j5 ?k_j5_j5 ?k_j5_j6 ?k_j5_j4 ?k_j5_j2 ?k_j5_j1 ?x_j6 ?xc_BadMark ?e_j6 ?v_j6 ?k_j6_j5 ?k_j6_j6 ?k_j6_j4 ?k_j6_j2 ?k_j6_j1 ?x_j8 ?x_j4 ?xc_OutOfTurn ?e_j4 ?v_j4 ?k_j4_j5 ?k_j4_j6 ?k_j4_j4 ?k_j4_j2 ?k_j4_j1 ?x_j2 ?xc_NoDifference ?e_j2 ?v_j2 ?k_j2_j5 ?k_j2_j6 ?k_j2_j4 ?k_j2_j2 ?k_j2_j1 ?x_j1 ?xc_Contradiction ?e_j1 ?v_j1 ?k_j1_j5 ?k_j1_j6 ?k_j1_j4 ?k_j1_j2 ?k_j1_j1
    (case aC_ja|aC_j9|aC_jb|aC_j3|aC_j0|m_j7|m_j5|m_j6|m_j8|m_j4|m_j2|m_j1|pg_j3|hd_j3|po_j3|sa_j3|n_letters_SumBook|n_marks_SumBook|n_p_SumBook|pg_j0|hd_j0|po_j0|sa_j0|n_book_SumAsker|n_ends_SumAsker|n_gaps_SumAsker|n_guess_SumAsker|n_letters_SumAsker|n_most_SumAsker|n_p_SumAsker|n_ways_SumAsker|n_wish_SumAsker|n_wrong_SumAsker|z_ValueError|z_all|z_dict|z_enumerate|z_isinstance|z_len|z_list|z_max|z_range|z_sum|z_tuple|z_zip=>k_is)
    (case x_j5|x_j6|x_j8|x_j4|x_j2|x_j1=>k_exc)
    (case e_j5|e_j6|e_j4|e_j2|e_j1=>kts_exm)
    (case v_j5|k_j5_j5|k_j5_j6|k_j5_j4|k_j5_j2|k_j5_j1|v_j6|k_j6_j5|k_j6_j6|k_j6_j4|k_j6_j2|k_j6_j1|v_j4|k_j4_j5|k_j4_j6|k_j4_j4|k_j4_j2|k_j4_j1|v_j2|k_j2_j5|k_j2_j6|k_j2_j4|k_j2_j2|k_j2_j1|v_j1|k_j1_j5|k_j1_j6|k_j1_j4|k_j1_j2|k_j1_j1=>kit_is)
    (case J0|J7|J8|J9|J10|J22|J25|J26|J27|J28|J29|J37|J38|J39|J40|J41|J42|J45|J49|J50|J51|J53|J54|J55|J56|J57|J58|J68|J69 => constructor; (constructor <;> k_is); apply L2.fun_mk <;> k_is)
    (case j1|j2|j3|j4|j5|j6|j11|j12|j13|j14|j15|j16|j17|j18|j19|j20|j21|j23|j24|j30|j31|j32|j33|j34|j35|j36|j43|j44|j46|j47 => constructor; k_is; apply L2.fun_mk <;> k_is)
    (case j48|j52|j59|j60|j61|j62|j63|j64|j65|j66|j67|j70|j71|j72|j73 => constructor; k_is; apply L2.fun_mk <;> k_is)
    (case xc_BadWord|xc_BadMark|xc_OutOfTurn|xc_NoDifference|xc_Contradiction => apply L2.xcls <;> k_is)
