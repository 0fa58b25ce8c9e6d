import PyProof.Rows.All
import Wide.All
import OpenK.AllK
import Wide.FinOn
import Lean
import PyProof.EqAt
import PyProof.EqKinds
import PyProof.TupleCall
import KE.KRevIter
import PyProof.ListRange
import PyProof.TupleOfGen
import PyProof.Draws
import PyProof.EnumMake
import PyProof.EnumFor
import PyProof.NeKinds
import KE.KDictList
import PyProof.Rows.TupDisplay
import PyProof.ZipIter
import PyProof.Rows.ZipGen
import KE.KItemsList
import PyProof.Rows.SumAny
import PyProof.StrWalks
import PyProof.StrCalls
import PyProof.StrCalls3
import PyProof.StrLawsFirst
import PyProof.StrLawsIn
import PyProof.SliceStr2
import PyProof.StrBlockI
import PyProof.Rows.StrWeight2
import PyProof.ListNew
import PyProof.DictRoadsH
import PyProof.WalkInts
import PyProof.Rows.MinMaxN
import KE.KDictLaws
import PyProof.StrCalls2
import PyProof.StrLawsChain
import KE.KIntText
import KE.KxText
import KE.KMinKey
import KE.KPairComp
import PyProof.MaxThree
import PyProof.DictValues
import OpenK.KCls
import PyProof.Rows.SortShellK
import KE.KSortTup
import KE.KLam
import KE.KNestM
import PyProof.AttrMissHeap
import KE.KDictOf
import PyProof.TupleKey
import PyProof.SetKind
import PyProof.IsRules
import PyProof.Rows.SetFrom
import PyProof.Rows.Range3
import PySem.Challenge.RW_guessroom_k93_logs_written
set_option compiler.extract_closed false
local macro_rules | `(s!$_) => `(by lia)
namespace Al
abbrev jP_:=@decide_eq_false
abbrev jR_:=@decide_eq_true
abbrev jU_:=@decide_eq_true_eq
abbrev qn_:=@congrArg
abbrev qW_:=@of_decide_eq_true
abbrev q7_:=@if_false
abbrev xl_:=@beq_eq_false_iff_ne
abbrev xS_:=@if_true
abbrev zs_:=@ne_true_of_eq_false
abbrev zA_:=@beq_iff_eq
noncomputable abbrev α0:=List (List (List Int))
noncomputable abbrev α1:=List (List Int)
noncomputable abbrev α2:=List Int
noncomputable abbrev α5:=Option PySem.Value
noncomputable abbrev α7:=List (PySem.Addr×PySem.Obj)
abbrev jG_:=@PySem.PassesOwn.never
abbrev ql_:=@Iff.rfl
abbrev qm_:=@Ne.symm
abbrev qt_:=@PySem.Str.cps_append
abbrev qy_:=@PySem.StrLaws.glued_eq_join
abbrev xb_:=@PySem.Around.under_plainId
abbrev zh_:=@PySem.Paired.length
abbrev zv_:=@PySem.Txt.slice_le
abbrev zE_:=@List.cons.inj
end Al
open Al
open List renaming getElem?_eq_some_iff->ja_,length_map->jb_,mem_of_getElem?->jc_,mem_singleton->jd_,getElem?_eq_getElem->je_,length_append->jf_,getElem?_append_left->ji_,getElem?_map->jj_,size_toArray->jk_,mem_cons_of_mem->jm_,length_singleton->jo_,getD_eq_getElem?_getD->jp_,mem_map->jq_,mem_cons->jr_,mem_cons_self->js_,getElem?_append_right->jv_,mem_append->jx_,map_append->jz_,take_add_one->jA_,length_cons->jD_,take_length->jE_,mem_append_left->jF_,length_take->jI_,map_cons->jJ_,mem_iff_getElem?->jK_,getElem_of_mem->jL_,map_congr_left->jM_,map_map->jN_,getElem?_eq_none->jT_,getElem_mem->jZ_,mem_append_right->j2_,nodup_cons->j6_,find?_eq_none->qd_,mem_range->qf_,foldl_append->qg_,getElem?_zip_eq_some->qh_,take_of_length_le->qp_,length_pos_of_mem->qq_,ext_getElem?->qw_,append_assoc->qx_,mem_filter->qA_,length_eq_zero_iff->qD_,lookup_cons->qG_,nodup_append->qI_,length_range->qJ_,find?_cons->qM_,length_drop->qR_,any_eq_true->qS_,mem_map_of_mem->qY_,length_pos_iff->qZ_,not_mem_nil->q4_,countP_singleton->q8_,getElem?_eq_none_iff->q9_,mem_of_find?_eq_some->xa_,length_nil->xe_,length_erase_of_mem->xf_,foldl_cons->xh_,range_succ->xi_,getElem?_range->xn_,length_flatMap->xp_,all_eq_true->xq_,mem_flatMap->xr_,nodup_nil->xs_,take_zero->xt_,map_inj_right->xB_,getElem_idxOf->xC_,getElem?_take->xD_,map_singleton->xE_,countP_append->xF_,getLast?_cons_of_ne_nil->xG_,nodup_iff_pairwise_ne->xM_,mem_of_mem_drop->xO_,pairwise_iff_getElem->xQ_,filter_cons->xR_,idxOf_lt_length_iff->xX_,append_nil->xZ_,find?_some->x3_,sum_replicate_nat->x5_,getElem_map->zf_,mem_erase_of_ne->zg_,any_cons->zi_,sum_cons->zl_,filterMap_cons->zn_,mem_filterMap->zt_,pairwise_map->zD_,range->om,replicate->oE,lookup->oH,range'->oQ,map->oR,dropLast_concat_getLast->oS,idxOf_lt_length_of_mem->oU,drop_eq_getElem_cons->oY,length->o9,countP->pb,getElem_inj->pf,filter_cons_of_pos->pq,filter_cons_of_neg->pz,countP_cons->pA,getElem?_set_self->pB,all_map->pD,of_mem_zip->pJ,forIn_cons->pL,map_const'->pM,length_replicate->pN,length_filter_le->pP,take_append_drop->pQ,getElem?_set_ne->pS,length_reverse->p9,flatMap_append->qb,take_sublist->qk,map_nil->ql,reverse_cons->qm,flatMap_cons->qw,getElem_take->qx,find?_append->qy,ext_getElem->qD,range'_succ->qF,drop_length->qG,length_set->qJ,length_zip->qO,all_cons->rL,map_drop->rN,map_take->rO
open PySem renaming wpAny_bind->jg_,wpAny_pure->jt_,boot_len->jO_,mem_of_lookup->qu_,wpAny_newObj_type->qv_,wpAny_Call_Name_kw->qP_,wpAny_setField_rec->qQ_,wpAny_typeNameOfWhole_keyiter->qT_,wpAny_truthy_bool->qV_,wpAny_mono->q1_,wpAny_call_entry->q3_,wpAny_holding->q5_,wpAny_passesOwn->xc_,wpAny_typeNameOf_keyiter->xg_,wpAny_typeNameOfWhole_itemiter->xk_,wpAny_callSpecial?_slot->xm_,wpAny_getItem_str_slice->xo_,tupleKind_room_in1->xA_,codeAny_builtin->xH_,wpAny_execs_nil->xY_,wpAny_fieldsOf->x9_,wpAny_isOneOf_keyiter->zc_,wpAny_attempt->zk_,call_meets->zm_,wpAny_ite_split->zq_,post_val_or_str->zr_,codeAny_mono->zu_,typeIs_str->zC_,FuncData->α6,Within->qg,list_append->qp,call->qS
open Nat renaming le_refl->jh_,lt_of_lt_of_le->jH_,ne_of_lt->jQ_,le_trans->j1_,mul_le_mul->j3_,le_of_not_lt->j5_,sub_self->j7_,zero_le->j9_,pow_le_pow_right->qa_,lt_irrefl->qe_,ne_of_gt->qF_,not_lt_zero->qX_,lt_succ_self->q2_,mul_le_mul_left->xV_,lt_succ_of_lt->x8_,le_of_lt->za_,add_le_add_left->zp_,succ_mul->zw_,toDigits->pG,lt_of_sub_eq_succ->pR,le_succ->pU,mul_le_mul_right->pY,lt_of_le_of_lt->qe,pos_of_ne_zero->qf,min_self->qr,lt_or_ge->qt,succ_le_succ->qC,strongRecOn->qL,min_eq_left->qM,digitChar->rR,le_of_eq->rY,lt_trans->rZ,mul_succ->se
open PySem.Heap renaming get?_push_of_some->jl_,lt_size->ju_,get?_push_size->jw_,get?_update_other->qo_,get?_update_self->qK_,size_push->xP_
open PySem.W renaming mg_of->jn_,mg_none_of->j8_,kia_one->qc_,callWith_K->q6_,methodCall_KW->zb_,plainGet_of->zo_,kitx_list->zB_,Frag->α3,findIn->ot,emptyDict->oB,excIn->oC,instObj->oF,plainGet->oG,hasDictIn->oJ,plainOver->oM,lookIn->oW,methodObj->oZ,cellsFrom_some->pC,hideAll->pH,takerIn->pI,OpenLaw->pK,codeIn->pV,hideAll_get->p8,of_hideAll->qc,kitx_tuple->qd,isFn->qh,specialIn->qi,kitx_dict->qj,handedIn->qz,makesIn->qI,exmOne->qT,WalkO->rM,funFrames_hide->r6,kdl_hint_dict->sf,hideAll_size->sr,hideAll_none->su,looks_findIn->sx,findObj_own->sH,looks_clsIn->sI,callWith_K0->sJ,kitx_float->sL,codeRec_of->sO,ki_setBack->sP,method_cls->sQ,get_value->sR,method_fn->sS,set_plain->sV,make_core->sX,kitx_none->sY,kitx_bool->s9,cls_value->tj,eq_bytes->tq,ne_bytes->tD,osa_open->tE,any_some->tF,InitBack->tG,makes_of->tH,kitx_int->tI,kitx_str->tJ,kitx_own->tK,ki_setAt->tM,kdl_call->tN,bind_fn->tP,takesIn->tQ,exm_one->tR,readsIn->tS,findCls->tT,InstAt->tU,typeIn->tV,KdlSrc->tW,mroIn->tX,Looks->tY
open Bool renaming false_ne_true->jy_,and_eq_true->qb_,eq_iff_iff->qr_,false_eq_true->qC_,true_and->zj_,false_and->pT,or_eq_true->qK,or_false->rK
open Option.some renaming inj->jB_,injEq->x7_
open Int renaming toNat_natCast->jC_,mul_le_mul_of_nonneg_right->jV_,le_refl->qB_,emod_lt_of_pos->qE_,emod_nonneg->qO_,eq_ofNat_of_zero_le->qU_,le_of_lt->xj_,zero_add->zx_,mul_nonneg->zz_,mul_le_mul_of_nonneg_left->oO,add_mul_ediv_right->pE,ediv_eq_zero_of_lt->pF,add_mul->pW,le_trans->r9,add_comm->sd,toNat->tO
open PySem.F renaming plainAttrs_list->jS_,slot_list_append->jX_,type_list_append->jY_,plainAttrs_str->qi_,slot_dict_keyiterator_next->qz_,slot_dict_get->qN_,entry_dict_get->xv_,slot_str_split->xw_,type_str_split->xx_,slot_str_join->xJ_,type_str_join->xK_,excBase_ValueError->xL_,plain_extend_loop->xT_,slot_dict_itemiterator_next->xU_,args_tuple_add_2->xW_,entry_tuple_add->x0_,plainAttrs_dict->x1_,slot_tuple_add->x4_,args_dict_get_2->ph,args_dict_get_3->pj,slot_dict_items->pk,type_dict_get->pO,args_dict_itemiterator_next_1->p7,entry_dict_itemiterator_next->qa,args_dict_items_iter_1->qE,entry_dict_items_iter->qH,slot_dict_items_iter->qN,args_dict_items_1->rm,entry_dict_items->rQ,type_dict_items->rT,slot_list_index->rV,type_list_index->rW,slot_list_pop->si,type_list_pop->sj
open PyProof.Rows renaming boot_str->jW_,boot_tuple->j0_,callWith_type1->qk_,boot_list->qH_,slot_tuple_getitem->xd_,boot_all->xI_,boot_int->ze_,len_partsBetween->oP,callWith_builtin1->qA,len_join_ge_sum->qQ,boot_isinstance->qR,tuple_addW0->rP,digit_range->rS,boot_set->sk,boot_min->sm
open Array renaming toList_append->j4_,length_toList->qj_,getElem?_toList->qL_,getElem?_eq_getElem->oX,toList->rX
open Classical renaming byContradiction->qs_,choose_spec->zd_,propDecidable->oy,choose->oN,not_forall->pX
open Option renaming map_eq_none_iff->q0_,isSome_some->xz_,toList_some->x2_,isSome_none->zy_,isSome_map->qq,getD_none->qB,map_some->qP,none->sC
open PySem.Calls renaming callWith_builtin->xu_,spliced_cons->xy_,evalArgs_plain->xN_,spliced_nil->x6_
open True renaming intro->oq
open Or renaming inl->ou,inr->oI
open False renaming elim->oz
open ForInStep renaming yield->oA
open Sum renaming inl->oT,inr->pZ
open List.Pairwise renaming imp_of_mem->pd,map->qu,nil->tf
open PySem.EqNone renaming eq_none_none->qU,eq_none_bool->qV,eq_bool_none->qW,ne_none_none->qZ,ne_none_bool->q9,ne_bool_none->rh,eq_none_int->rn,eq_none_str->rp,eq_int_none->rq,eq_str_none->rB,ne_none_int->rD,ne_none_str->rE,ne_int_none->rF,ne_str_none->rH
open PySem.EqMixed renaming eq_bool_str->qX,eq_str_bool->qY,ne_bool_str->rj,ne_str_bool->rk,eq_int_str->rA,eq_str_int->rC,ne_int_str->rG,ne_str_int->rJ
open PySem.W (nsIn keepIn fnOf kitOne)
set_option Elab.async false
set_option linter.all false
set_option maxRecDepth 100000
namespace L2
open PySem PySem.Spec PyProof.Rows
noncomputable abbrev Key:=Sum Int Str
noncomputable def Qm:Key->Value->Bool
 |.inl k,v=>Value.isInt k v
 |.inr x,v=>Value.isStrOf x v
noncomputable def keyH (w:World):Key->Int
 |.inl k=>hashInt k
 |.inr x=>hashStr w x
def Bl:∀{k:Key} {v:Value},Qm k v=true->(∃i t,k=oT i/\v=Value.int i t)\/(∃x t,k=pZ x/\v=Value.str x t)
 |.inl i,v,h=>by
  obtain⟨t,e⟩:=Value.isInt_shape (k:=i) (v:=v) h;exact .inl ⟨i,t,rfl,e⟩
 |.inr x,v,h=>by
  obtain⟨t,e⟩:=Value.isStrOf_shape (x:=x) (v:=v) h;exact .inr ⟨x,t,rfl,e⟩
def Q6 (i:Int)(t:Tok):Qm (.inl i) (.int i t)=true:=by simp[Qm,Value.isInt]
def Q7 (x:Str)(t:Tok):Qm (.inr x) (.str x t)=true:=by simp[Qm,Value.isStrOf]
def Xx (a b:Int):decide ((oT a:Key)=oT b)=(a==b):=by
 by_cases e:a=b
 ·subst e;simp
 ·have h:¬ (oT a:Key)=oT b:=fun q=>e (Sum.inl.inj q);rw[jP_ h];exact (xl_.mpr e).symm
def Xy (a b:Str):decide ((pZ a:Key)=pZ b)=decide (a=b):=by
 by_cases e:a=b
 ·subst e;simp
 ·have h:¬ (pZ a:Key)=pZ b:=fun q=>e (Sum.inr.inj q);rw[jP_ h,jP_ e]
def Xz (a:Int)(b:Str):decide ((oT a:Key)=pZ b)=false:=jP_ (fun q=>nomatch q)
def XA (a:Str)(b:Int):decide ((pZ a:Key)=oT b)=false:=jP_ (fun q=>nomatch q)
noncomputable def Bb (prog:Program)(w:World):PySem.KeyKind prog w Key where
 is:=Qm
 hash:=keyH w
 inj:=fun v a b ha hb=>by
  rcases Bl ha with ⟨i,t,rfl,rfl⟩|⟨x,t,rfl,rfl⟩
  ·rcases Bl hb with ⟨j,u,rfl,e⟩|⟨y,u,rfl,e⟩
   ·injection e with e1 _;rw[e1]
   ·exact nomatch e
  ·rcases Bl hb with ⟨j,u,rfl,e⟩|⟨y,u,rfl,e⟩
   ·exact nomatch e
   ·injection e with e1 _;rw[e1]
 byValue:=fun k v h=>by
  rcases Bl h with ⟨i,t,rfl,rfl⟩|⟨x,t,rfl,rfl⟩<;>rfl
 pyHash:=fun hv h=>by
  rcases Bl hv with ⟨i,t,rfl,rfl⟩|⟨x,t,rfl,rfl⟩
  ·exact wpAny_pyHash_int h
  ·exact wpAny_pyHash_str h
 eqBool:=fun hu hv h=>by
  rcases Bl hu with ⟨i,t,rfl,rfl⟩|⟨x,t,rfl,rfl⟩
  ·rcases Bl hv with ⟨j,u,rfl,rfl⟩|⟨y,u,rfl,rfl⟩
   ·rw[Xx]at h;exact wpAny_eqBool_int h
   ·rw[Xz]at h;exact SeqAt.EqAt.int_str i t y u _ _ _ _ h
  ·rcases Bl hv with ⟨j,u,rfl,rfl⟩|⟨y,u,rfl,rfl⟩
   ·rw[XA]at h;exact SeqAt.EqAt.str_int x t j u _ _ _ _ h
   ·rw[Xy]at h;exact wpAny_eqBool_str h
 «strs» := fun k x t v h=>by
  rcases Bl h with ⟨i,u,rfl,e⟩|⟨y,u,rfl,e⟩
  ·exact nomatch e
  ·injection e with e1 _;subst e1;cases v<;>rfl
def Oo (prog:Program)(w:World)(i:Int)(t:Tok):(Bb prog w).is (.inl i) (.int i t)=true:=Q6 i t
def Oq (prog:Program)(w:World)(x:Str)(t:Tok):(Bb prog w).is (.inr x) (.str x t)=true:=Q7 x t
inductive V where
 | non|bl (b:Bool)|int (i:Int)|str (x:Str)|byt (b:Array UInt8)|flt (b:UInt64)|ref (a:Addr)|ty (n:String)
 deriving DecidableEq
noncomputable def RelV:V->Value->Prop
 |.non,u=>u=Value.none
 |.bl b,u=>u=Value.bool b
 |.int i,u=>∃t,u=Value.int i t
 |.str x,u=>∃t,u=Value.str x t
 |.byt b,u=>∃t,u=Value.bytes b t
 |.flt b,u=>∃t,u=Value.float b t
 |.ref a,u=>u=Value.ref a
 |.ty n,u=>u=Value.type n
noncomputable abbrev Vals:List V->List Value->Prop:=Paired RelV
def Vals.length (r:Vals xs us):xs.length=us.length:=zh_ r
def Vals.get:∀{xs:List V} {us:List Value} {i:Nat} {x:V},Vals xs us->xs[i]?=some x->∃u,us[i]?=some u/\RelV x u
 |_,_,_,_,.nil,e=>by simp at e
 |_,_,0,_,.cons r _,e=>by simp at e;subst e;exact⟨_,rfl,r⟩
 |_,_,i+1,x,.cons _ t,e=>by
  obtain⟨u,h1,h2⟩:=Vals.get (i:=i) (x:=x) t (by simpa using e);exact⟨u,by simpa using h1,h2⟩
def Vals.set {x:V}{u:Value}(r:RelV x u):∀{xs:List V} {us:List Value} (i:Nat),Vals xs us->Vals (xs.set i x) (us.set i u)
 |_,_,_,.nil=>.nil
 |_,_,0,.cons _ t=>.cons r t
 |_,_,i+1,.cons q t=>.cons q (Vals.set r i t)
def Vals.append:∀{xs ys:List V} {us ws:List Value},Vals xs us->Vals ys ws->Vals (xs++ys) (us++ws)
 |_,_,_,_,.nil,s=>s
 |_,_,_,_,.cons r t,s=>.cons r (Vals.append t s)
def Vals.take:∀{xs:List V} {us:List Value} (n:Nat),Vals xs us->Vals (xs.take n) (us.take n)
 |_,_,0,_=>.nil
 |_,_,_+1,.nil=>.nil
 |_,_,n+1,.cons r t=>.cons r (Vals.take n t)
def Vals.drop:∀{xs:List V} {us:List Value} (n:Nat),Vals xs us->Vals (xs.drop n) (us.drop n)
 |_,_,0,r=>r
 |_,_,_+1,.nil=>.nil
 |_,_,n+1,.cons _ t=>Vals.drop n t
noncomputable def RelO:Option V->α5->Prop
 |some v,some u=>RelV v u
 |none,none=>True
 |_,_=>False
noncomputable def KV {κ:Type}:List (κ×V)->List (κ×Value)->Prop:=Paired fun (p:κ×V) (q:κ×Value)=>p.1=q.1/\RelV p.2 q.2
noncomputable def kV:Key->V
 |.inl i=>.int i
 |.inr x=>.str x
inductive HO where
 | lst (xs:List V)
 | tup (xs:List V)
 | dK (kvs:List (Key×V))|dT (kvs:List (List Key×V))
 | set (S:Int->Bool) (n:Nat)
 | ins (C dx:Addr) (fs:List (Str×V))
 | own (x:Addr)
 | xd (fs:List (Str×V))
 | met (f x:Addr)
 | rng (lo hi:Int)
 | frz (o:Obj) (u:HO)
 | tbl (ps:Array Value)
 | ext (φ:Heap->Prop)
noncomputable abbrev Hp:=Addr->Option HO
noncomputable def upd (H:Hp)(a:Addr)(o:HO):Hp:=fun b=>if b=a then some o else H b
def Ab : upd H a o a=some o:=by unfold upd;rw[if_pos rfl]
def Ah (h:b≠a):upd H a o b=H b:=by unfold upd;rw[if_neg h]
def XB {H:Hp}{a b:Addr}{o u:HO}(h:H a=some o)(h':H b=some u)(d:o≠u):a≠b:=by
 intro e;subst e;rw[h]at h';exact d (jB_ h')
def AW {H:Hp}{a b:Addr}{o:HO}(h:H a=some o)(h':H b=none):a≠b:=by
 intro e;subst e;rw[h]at h';cases h'
section
variable (P:Program) (w:World)
noncomputable def A6 (H:Hp)(h:Heap)(a:Addr):HO->Prop
 |.lst xs=>xs.length<=sizeLine/\∃(its:List Value) (n:Nat),Vals xs its/\h.get? a=some {cls:=.type "list",data:=.seq its.toArray n}
 |.tup xs=>xs.length<=sizeLine/\∃its:List Value,Vals xs its/\IsTup h a its.toArray
 |.dK kvs=>kvs.length<=sizeLine/\(a==sysModules)=false/\∃vs,KV kvs vs/\h.DictOf (Bb P w) a vs
 |.dT kvs=>kvs.length<=sizeLine/\(a==sysModules)=false/\∃xs:List (List Key×Addr×Value),
   Paired (fun (p:List Key×V) (q:List Key×Addr×Value)=>p.1=q.1/\H q.2.1=some (.tup (p.1.map kV))/\RelV p.2 q.2.2) kvs xs /\
   ∃o es ep,h.get? a=some o/\o.ExactDict/\o.data=.dict es ep/\es.toList=xs.map (entryOfKey (tupleKind (Bb P w)))/\(xs.map (·.1)).Nodup
 |.set S n=>h.SetOf (intKind P w) a S n
 |.ins C dx fs=>H dx=some (.own a)/\fs.length<=1000/\dx≠a/\h.get? a=some (oF C dx) /\
   ∃mA,h.Ns1 dx mA/\(∀f,RelO (fs.lookup f) (mA f))/\qg mA (fs.map (·.1))
 |.own _=>∃o,h.get? a=some o
 |.xd fs=>∃mA,h.Ns1 a mA/\∀f,RelO (fs.lookup f) (mA f)
 |.rng lo hi=>∃t u v,h.get? a=some {cls:=.type "range",data:=.fields #[.int lo t,.int hi u,.int 1 v]}
 |.frz o u=>h.get? a=some o/\A6 H h a u
 |.tbl ps=>h.get? a=some {cls:=.none,data:=.fields ps}
 |.met f x=>h.get? a=some (oZ (.ref f) (.ref x))
 |.ext φ=>φ h/\(∃o,h.get? a=some o)/\∀h1 h2:Heap,φ h1->(∀o,h1.get? a=some o->h2.get? a=some o)->φ h2
noncomputable def HOk (H:Hp)(h:Heap):Prop:=∀a o,H a=some o->A6 P w H h a o
end
section
variable {P:Program} {w:World} {H H':Hp} {h h':Heap} {a:Addr} {o:HO}
def A6.lt (x:A6 P w H h a o):a<h.objs.size:=by
 cases o with
 |lst xs=>obtain⟨_,_,_,_,e⟩:=x;exact ju_ e
 |tup xs=>obtain⟨_,_,_,p⟩:=x;exact p.lt
 |dK kvs=>obtain⟨_,_,_,_,o,_,_,e,_⟩:=x;exact ju_ e
 |dT kvs=>obtain⟨_,_,_,_,o,_,_,e,_⟩:=x;exact ju_ e
 |set S n=>obtain⟨o,_,_,_,e,_⟩:=x;exact ju_ e
 |ins C dx fs=>obtain⟨_,_,_,e,_⟩:=x;exact ju_ e
 |own y=>obtain⟨_,e⟩:=x;exact ju_ e
 |xd fs=>obtain⟨_,⟨_,_,_,e,_⟩,_⟩:=x;exact ju_ e
 |rng lo hi=>obtain⟨_,_,_,e⟩:=x;exact ju_ e
 |frz ob u=>obtain⟨e,_⟩:=x;exact ju_ e
 |tbl ps=>exact ju_ (show h.get? a=some _ from x)
 |met f y=>exact ju_ (show h.get? a=some _ from x)
 |ext φ=>obtain⟨_,⟨_,e⟩,_⟩:=x;exact ju_ e
def Paired.mapP {α β:Type}{F G:α->β->Prop}:∀{l₁:List α} {l₂:List β},Paired F l₁ l₂->(∀a b,F a b->G a b)->Paired G l₁ l₂
 |_,_,.nil,_=>.nil
 |_,_,.cons r t,f=>.cons (f _ _ r) (Paired.mapP t f)
def A6.stay (x:A6 P w H h a o)(k:∀b u,(b=a\/H b=some (.own a))->h.get? b=some u->h'.get? b=some u)
  (ho:∀b,H b=some (.own a)->H' b=some (.own a)) (ht:∀b xs,H b=some (.tup xs)->H' b=some (.tup xs)):A6 P w H' h' a o:=by
 induction o with
 |lst xs=>obtain⟨z,its,n,r,e⟩:=x;exact⟨z,its,n,r,k _ _ (.inl rfl) e⟩
 |tup xs=>obtain⟨z,its,r,ob,e,c⟩:=x;exact⟨z,its,r,ob,k _ _ (.inl rfl) e,c⟩
 |dK kvs=>obtain⟨z,y,vs,r,ob,es,ep,e,c⟩:=x;exact⟨z,y,vs,r,ob,es,ep,k _ _ (.inl rfl) e,c⟩
 |dT kvs=>
  obtain⟨z,y,xs,r,ob,es,ep,e,c⟩:=x;exact⟨z,y,xs,Paired.mapP r fun p q z=>⟨z.1,ht _ _ z.2.1,z.2.2⟩,ob,es,ep,k _ _ (.inl rfl) e,c⟩
 |set S n=>obtain⟨ob,es,ep,t,e,c⟩:=x;exact⟨ob,es,ep,t,k _ _ (.inl rfl) e,c⟩
 |ins C dx fs=>
  obtain⟨d,z,ne,e,mA,⟨od,es,ep,e2,c⟩,r⟩:=x;exact⟨ho _ d,z,ne,k _ _ (.inl rfl) e,mA,⟨od,es,ep,k _ _ (.inr d) e2,c⟩,r⟩
 |own y=>obtain⟨ob,e⟩:=x;exact⟨ob,k _ _ (.inl rfl) e⟩
 |xd fs=>obtain⟨mA,⟨od,es,ep,e,c⟩,r⟩:=x;exact⟨mA,⟨od,es,ep,k _ _ (.inl rfl) e,c⟩,r⟩
 |rng lo hi=>obtain⟨t,u,v,e⟩:=x;exact⟨t,u,v,k _ _ (.inl rfl) e⟩
 |frz ob u ih=>obtain⟨e,q⟩:=x;exact⟨k _ _ (.inl rfl) e,ih q⟩
 |tbl ps=>
  have e:h.get? a=some {cls:=.none,data:=.fields ps}:=x;show h'.get? a=some {cls:=.none,data:=.fields ps};exact k a _ (.inl rfl) e
 |met f y=>
  have e:h.get? a=some (oZ (.ref f) (.ref y)):=x;show h'.get? a=some (oZ (.ref f) (.ref y));exact k a _ (.inl rfl) e
 |ext φ=>obtain⟨p,⟨o,e⟩,st⟩:=x;exact⟨st _ _ p fun o q=>k _ _ (.inl rfl) q,⟨o,k _ _ (.inl rfl) e⟩,st⟩
def HOk.lt (x:HOk P w H h)(e:H a=some o):a<h.objs.size:=(x a o e).lt
def HOk.fresh (x:HOk P w H h)(e:h.objs.size<=a):H a=none:=by
 cases q:H a with
 |none=>rfl
 |some u=>exact absurd (jH_ (x.lt q) e) (qe_ _)
def HOk.kept (x:HOk P w H h)(k:∀b u,h.get? b=some u->h'.get? b=some u):HOk P w H h':=fun a o e=>
 (x a o e).stay (fun b u _ q=>k b u q) (fun _ q=>q) fun _ _ q=>q
def HOk.laid (x:HOk P w H h)(k:∀b u,h.get? b=some u->h'.get? b=some u)(hp:h.objs.size<=a)(new:A6 P w (upd H a o) h' a o):HOk P w (upd H a o) h':=fun b u e=>by
 have hn:=x.fresh hp;by_cases hb:b=a
 ·subst hb;rw[Ab]at e;cases e;exact new
 ·rw[Ah hb]at e;exact (x b u e).stay (fun c v _ q=>k c v q) (fun c q=>by rw[Ah (AW q hn)];exact q) fun c xs q=>by rw[Ah (AW q hn)];exact q
end
noncomputable def Rd (H:Hp)(a:Addr)(u:HO):Prop:=H a=some u \/ ∃o,H a=some (.frz o u)
def Rd.ok (r:Rd H a u)(x:HOk P w H h):A6 P w H h a u:=by
 rcases r with r|⟨o,r⟩
 ·exact x a u r
 ·obtain⟨_,q⟩:=x a _ r;exact q
noncomputable def Mut:Option HO->Prop
 |some (.lst _)=>True
 |some (.dK _)=>True
 |some (.dT _)=>True
 |some (.set _ _)=>True
 |some (.ins _ _ _)=>True
 |some (.ext _)=>True
 |_=>False
section
variable {P:Program} {w:World} {H:Hp} {h h':Heap} {x e:Addr} {o':HO}
def HOk.write (ok:HOk P w H h)(mu:Mut (H x))(he:e=x\/H e=some (.own x))(k:∀b u,b≠e->h.get? b=some u->h'.get? b=some u)(gE:∃u,h'.get? e=some u)
  (new:A6 P w (upd H x o') h' x o'):HOk P w (upd H x o') h':=fun b u q=>by
 have nown:∀c y,H c=some (.own y)->c≠x:=fun c y r z=>by subst z;rw[r]at mu;exact mu
 have ntup:∀c xs,H c=some (.tup xs)->c≠x:=fun c xs r z=>by subst z;rw[r]at mu;exact mu
 by_cases hb:b=x
 ·subst hb;rw[Ab]at q;cases q;exact new
 ·rw[Ah hb]at q;by_cases gY:b=e
  ·have q':H b=some (.own x):=by
    rcases he with z|z
    ·exact absurd (gY.trans z) hb
    ·rw[gY];exact z
   rw[q]at q';cases q';obtain⟨v,hv⟩:=gE;exact⟨v,by rw[gY];exact hv⟩
  ·refine (ok b u q).stay (fun c v hc r=>k c v ?_ r) (fun c r=>by rw[Ah (nown c b r)];exact r) fun c xs r=>by rw[Ah (ntup c xs r)];exact r
   rcases hc with rfl|hc
   ·exact gY
   ·rintro rfl;rcases he with z|z
    ·exact nown c b hc z
    ·rw[hc]at z;cases z;exact hb rfl
end
structure Un (fs ex:List Addr)(H H':Hp)(h h':Heap):Prop where
 keep:∀b o,h.get? b=some o->H b=none->b∉fs->b∉ex->h'.get? b=some o
 slot:∀b o,h.get? b=some o->H b=none->b∈fs->b∉ex->∃sl,h'.get? b=some {o with slots:=sl}
 free:∀b o,h.get? b=some o->H b=none->b∉ex->H' b=none
 there:∀b o,h.get? b=some o->b∉ex->∃o',h'.get? b=some o'
 tups:∀b xs,H b=some (.tup xs)->H' b=some (.tup xs)
 frzs:∀b o u,H b=some (.frz o u)->H' b=some (.frz o u)
 tbls:∀b ps,H b=some (.tbl ps)->∃more,H' b=some (.tbl (ps++more))
section
variable {fs fs' ex ex':List Addr} {H H1 H2:Hp} {h h1 h2 h':Heap} {a x e:Addr} {o:HO}
def Un.any (u:Un fs ex H H1 h h1) (q:h.get? b=some ob)(n:H b=none)(hx:b∉ex):∃sl,h1.get? b=some {ob with slots:=sl}:=by
 by_cases hb:b∈fs
 ·exact u.slot b ob q n hb hx
 ·exact⟨ob.slots,u.keep b ob q n hb hx⟩
def Un.kept (k:∀b u,h.get? b=some u->h'.get? b=some u):Un fs ex H H h h' :=
 ⟨fun b ob q _ _ _=>k b ob q,fun b ob q _ _ _=>⟨ob.slots,k b ob q⟩,fun _ _ _ n _=>n,fun b ob q _=>⟨ob,k b ob q⟩,fun _ _ q=>q,fun _ _ _ q=>q,fun _ ps q=>⟨#[],by rw[q];simp⟩⟩
def Un.refl:Un fs ex H H h h:=Un.kept fun _ _ q=>q
def Un.laid (k:∀b u,h.get? b=some u->h'.get? b=some u)(hp:h.objs.size<=a)(hn:H a=none):Un fs ex H (upd H a o) h h' where
 keep:=fun b u q _ _ _=>k b u q
 slot:=fun b u q _ _ _=>⟨u.slots,k b u q⟩
 free:=fun b u q n _=>by rw[Ah (jQ_ (jH_ (ju_ q) hp))];exact n
 there:=fun b u q _=>⟨u,k b u q⟩
 tups:=fun b xs q=>by rw[Ah (AW q hn)];exact q
 frzs:=fun b u xs q=>by rw[Ah (AW q hn)];exact q
 tbls:=fun b ps q=>⟨#[],by rw[Ah (AW q hn),q];simp⟩
def Un.write (mu:Mut (H x))(he:e=x\/H e=some (.own x))(k:∀b u,b≠e->h.get? b=some u->h'.get? b=some u)(gE:∃u,h'.get? e=some u):Un fs ex H (upd H x o) h h':=by
 have hx:∀b,H b=none->b≠x:=fun b n z=>by subst z;rw[n]at mu;exact mu
 have hb:∀b,H b=none->b≠e:=fun b n z=>by
  subst z;rcases he with r|r
  ·exact hx b n r
  ·rw[n]at r;cases r
 have hm:∀b u,H b=some u->¬ Mut (some u)->b≠x:=fun b u q nm z=>by subst z;rw[q]at mu;exact nm mu
 refine⟨fun b u q n _ _=>k b u (hb b n) q,fun b u q n _ _=>⟨u.slots,k b u (hb b n) q⟩,fun b u q n _=>by rw[Ah (hx b n)];exact n,fun b u q _=>?_,
  fun b xs q=>by rw[Ah (hm b _ q fun z=>z)];exact q,fun b u xs q=>by rw[Ah (hm b _ q fun z=>z)];exact q,fun b ps q=>⟨#[],by rw[Ah (hm b _ q fun z=>z),q];simp⟩⟩
 by_cases gY:b=e
 ·subst gY;exact gE
 ·exact⟨u,k b u gY q⟩
end
noncomputable def trk (h:Heap)(H:Hp):List Addr:=(om h.objs.size).filter fun a=>(H a).isSome
noncomputable def hidT (h:Heap)(H:Hp):Heap:=pH h (trk h H)
def Q8 (h:Heap)(H:Hp):(hidT h H).objs.size=h.objs.size:=sr _ _
def TV (e:h.get? b=some o)(n:H b=none):(hidT h H).get? b=some o:=
 p8 _ e fun hm=>by
  have q:(H b).isSome=true:=(qA_.mp hm).2;rw[n]at q;simp at q
def Wk (e:(hidT h H).get? b=some o):h.get? b=some o/\H b=none:=by
 have e':h.get? b=some o:=qc (trk h H) e;refine⟨e',?_⟩;cases q:H b with
 |none=>rfl
 |some x=>
  have hm:b∈trk h H:=qA_.mpr ⟨qf_.mpr (ju_ e'),by simp[q]⟩;have z:(hidT h H).get? b=none:=su (trk h H) hm;rw[z]at e;cases e
noncomputable def Wl (g h:Heap)(L:Addr):α7:=(om h.objs.size).filterMap fun a=>if a=L\/(g.get? a).isSome=true then none else (h.get? a).map fun o=>(a,o)
noncomputable def rest (g h:Heap)(L d:Addr):α7:=(Wl g h L).filter fun p=>decide (p.1≠d)
end L2
namespace L2
open PySem PySem.Spec PyProof.Rows
structure Mod (K:α3)(mg:Str->α5)(base:Heap):Prop where
 kin:K.In base
 glob:base.Ns mainGlobals mg
 blt:∃mb,base.Ns builtinsNs mb/\∀x:Str,x ≠ "__name__" -> mb x=bootBuiltins x
 nolimit:base.NoLimit
structure Cx where
 prog:Program
 w:World
 K:α3
 mg:Str->α5
 base:Heap
 A:Around
 N:List Str
 s₀:Shared
 H₀:Hp
 env:Env
 outer:List Env
 stack:List Env
 ex:List Addr
 fn:Str->Bool
 calm:Bool
 pn:α7
 xe:Value->Shared->Prop
noncomputable def frs (l:List Env):List Addr:=l.filterMap (·.frame)
noncomputable abbrev Cx.fs (X:Cx):List Addr:=frs X.outer
noncomputable def Vis (sc:Scope)(x:Str):Prop:=sc.names.lookup x=some .local\/sc.names.lookup x=some .cell\/sc.names.lookup x=some .free
noncomputable def Loc (sc:Scope)(x:Str):Prop:=sc.names.lookup x=some .local\/sc.names.lookup x=some .cell
noncomputable def Look (env:Env)(h:Heap)(m:Str->α5)(x:Str)(u:Value):Prop:=
 (env.kindOf x=some .local/\m x=some u)\/((env.kindOf x=some .cell\/env.kindOf x=some .free)/\∃c,env.cells.lookup x=some c/\h.IsCell c (some u))
structure Cx.Ok (X:Cx):Prop where
 mod:Mod X.K X.mg X.base
 kind:X.env.scope.kind=.function
 glob:X.env.globals=mainGlobals
 blt:X.env.builtins=builtinsNs
 above:X.s₀.heap.objs.size<=X.env.locals
 inj:∀x y c,X.env.cells.lookup x=some c->X.env.cells.lookup y=some c->x=y
 has:∀x,(X.env.kindOf x=some .cell\/X.env.kindOf x=some .free)->∃c,X.env.cells.lookup x=some c
 cab:∀x c,X.fn x=true->X.env.cells.lookup x=some c->X.s₀.heap.objs.size<=c
 hd:X.calm=true->X.A.handled=none
 frames:X.A.frames=some X.stack
 stk:X.stack=X.outer\/(X.stack=X.env::X.outer/\X.env.frame=some X.env.locals)
 exf:∀b∈X.ex,b≠X.env.locals/\∀x c,X.env.cells.lookup x=some c->c≠b
 bs:∀b o,X.base.get? b=some o->X.s₀.heap.get? b=some o/\X.H₀ b=none
 bsz:X.base.objs.size<=X.s₀.heap.objs.size
 noex:∀b o,X.base.get? b=some o->b∉X.ex
 exfs:∀b∈X.ex,b∉X.fs
 funs:X.s₀.heap.FunFrames X.base X.outer
 frf:∀b∈X.fs,X.H₀ b=none
structure Inv (X:Cx)(ae:α7)(σ:List (Option V))(H:Hp)(s:Shared):Prop where
 ok:X.Ok
 os:s.os=X.s₀.os
 bare:AllBare s.gens
 base:Un X.fs X.ex X.H₀ H X.s₀.heap s.heap
 loc:∃m,s.heap.Ns X.env.locals m/\∀(i:Nat) (x:Str) (v:V),X.N[i]?=some x->σ[i]?=some (some v)->Vis X.env.scope x->∃u,RelV v u/\Look X.env s.heap m x u
 cell:∀x c,X.env.cells.lookup x=some c->∃v,s.heap.IsCell c v
 free:H X.env.locals=none
 freeC:∀x c,X.env.cells.lookup x=some c->H c=none
 pin:∀p∈X.pn++ae,s.heap.get? p.1=some p.2/\H p.1=none/\p.1≠X.env.locals/\p.1∉X.fs/\∀v,p.2.data ≠ .cell v
 hok:HOk X.prog X.w H s.heap
 len:σ.length=X.N.length
section
variable {X:Cx} {ae:α7} {σ:List (Option V)} {H H':Hp} {s:Shared} {h':Heap}
def Cx.Ok.nofr (ok:X.Ok) (e:X.base.get? b=some o):b∉X.fs:=fun hb=>by
 have:=(ok.funs.mem hb).1;rw[e]at this;cases this
def Inv.bs (I:Inv X ae σ H s):∀b o,X.base.get? b=some o->s.heap.get? b=some o/\H b=none:=fun b o e=>
 ⟨I.base.keep b o (I.ok.bs b o e).1 (I.ok.bs b o e).2 (I.ok.nofr e) (I.ok.noex b o e),I.base.free b o (I.ok.bs b o e).1 (I.ok.bs b o e).2 (I.ok.noex b o e)⟩
def Inv.bk (I:Inv X ae σ H s):∀b o,X.base.get? b=some o->s.heap.get? b=some o:=fun b o e=>(I.bs b o e).1
def Inv.mod (I:Inv X ae σ H s):Mod X.K X.mg X.base:=I.ok.mod
def Inv.kIn (I:Inv X ae σ H s):X.K.In s.heap:=I.ok.mod.kin.keeps I.bk
def Inv.lt (I:Inv X ae σ H s):X.env.locals<s.heap.objs.size:=let ⟨_,hn,_⟩:=I.loc;hn.lt
def Inv.sz (I:Inv X ae σ H s):X.s₀.heap.objs.size<=s.heap.objs.size:=j1_ I.ok.above (za_ I.lt)
def Inv.nofs (I:Inv X ae σ H s) (h:s.heap.objs.size<=a):a∉X.fs:=fun hb=>by
 obtain⟨_,o,ho,_⟩:=I.ok.funs.mem hb;exact absurd (jH_ (ju_ ho) (j1_ I.sz h)) (qe_ _)
def Inv.cne (I:Inv X ae σ H s):∀x c,X.env.cells.lookup x=some c->c≠X.env.locals:=fun x c e z=>by
 obtain⟨v,o,ho,hd⟩:=I.cell x c e;obtain⟨m,⟨o',es,ep,cc,mz,_⟩,_⟩:=I.loc;rw[z,cc]at ho;cases ho;rw[mz]at hd;cases hd
def Inv.funs (I:Inv X ae σ H s):s.heap.FunFrames X.base X.outer:=by
 have all:∀(l:List Env),(∀b∈frs l,b∈X.fs)->X.s₀.heap.FunFrames X.base l->s.heap.FunFrames X.base l:=by
  intro l
  induction l with
  |nil=>intro _ _;trivial
  |cons env r ih=>
   intro hs hl;obtain⟨hk,⟨L,o,hf,hn,ho,hd⟩,hr⟩:=hl;have hL:L∈X.fs:=hs L (by unfold frs;rw[zn_,hf];exact js_);obtain⟨sl,e⟩:=I.base.slot L o ho (I.ok.frf L hL) hL fun z=>I.ok.exfs L z hL;exact⟨hk,⟨L,_,hf,hn,e,hd⟩,ih (fun b hb=>hs b (by unfold frs;rw[zn_,hf];exact jm_ _ hb)) hr⟩
 exact all X.outer (fun _ hb=>hb) I.ok.funs
def Inv.stack (I:Inv X ae σ H s):s.heap.FunFrames X.base X.stack:=by
 rcases I.ok.stk with e|⟨e,hf⟩
 ·rw[e];exact I.funs
 ·rw[e];obtain⟨m,hn,_⟩:=I.loc;refine .cons (by rw[I.ok.kind];decide) hf hn ?_ I.funs;exact Heap.get?_none_of_le (j1_ I.ok.bsz I.ok.above)
def Inv.stkSub (I:Inv X ae σ H s):∀b∈frs X.stack,b∈X.env.locals::X.fs:=fun b hb=>by
 rcases I.ok.stk with e|⟨e,hf⟩
 ·rw[e]at hb;exact jm_ _ hb
 ·rw[e]at hb;unfold frs at hb;rw[zn_,hf]at hb;exact hb
def Inv.stkFree (I:Inv X ae σ H s):∀b∈frs X.stack,H b=none:=fun b hb=>by
 rcases jr_.mp (I.stkSub b hb) with e|hb
 ·rw[e];exact I.free
 ·obtain⟨_,o,ho,_⟩:=I.ok.funs.mem hb;exact I.base.free b o ho (I.ok.frf b hb) fun z=>I.ok.exfs b z hb
def Inv.step {g':Array GenState}{t':Nat}{d':Drawn}{ch:List Addr}(I:Inv X ae σ H s)
  (eA:∀b∈ch,(b∈X.ex\/X.s₀.heap.objs.size<=b)/\b≠X.env.locals/\(∀x c,X.env.cells.lookup x=some c->c≠b)/\∀p∈X.pn++ae,p.1≠b)
  (keep:∀b o,b≠X.env.locals->b∉X.fs->b∉ch->s.heap.get? b=some o->H b=none->h'.get? b=some o)
  (slot:∀b o,b≠X.env.locals->b∈X.fs->b∉ch->s.heap.get? b=some o->H b=none->∃sl,h'.get? b=some {o with slots:=sl}) (free:∀b o,b∉ch->s.heap.get? b=some o->H b=none->H' b=none)
  (there:∀b o,b∉ch->s.heap.get? b=some o->∃o',h'.get? b=some o')
  (tups:∀b xs,H b=some (.tup xs)->H' b=some (.tup xs)) (frzs:∀b o u,H b=some (.frz o u)->H' b=some (.frz o u)) (tbls:∀b ps,H b=some (.tbl ps)->∃more,H' b=some (.tbl (ps++more)))
  (ns:∀m,s.heap.Ns X.env.locals m->h'.Ns X.env.locals m) (hok:HOk X.prog X.w H' h') (hg:AllBare g'):
  Inv X ae σ H' {s with heap:=h',gens:=g',drawn:=d',toks:=t' }:=by
 have neL:∀b o,X.s₀.heap.get? b=some o->b≠X.env.locals:=fun b o e=>jQ_ (jH_ (ju_ e) I.ok.above);have kY:∀b o,X.s₀.heap.get? b=some o->b∉X.ex->b∉ch:=fun b o e hx hb=>by
  rcases (eA b hb).1 with z|z
  ·exact hx z
  ·exact absurd (jH_ (ju_ e) z) (qe_ _)
 have cellK:∀x c,X.env.cells.lookup x=some c->∀v,s.heap.IsCell c v->h'.IsCell c v:=fun x c e v ⟨o,ho,hd⟩=>by
  have eB:c∉ch:=fun z=>(eA c z).2.2.1 x c e rfl;by_cases hc:c∈X.fs
  ·obtain⟨sl,q⟩:=slot c o (I.cne x c e) hc eB ho (I.freeC x c e);exact⟨_,q,hd⟩
  ·exact⟨o,keep c o (I.cne x c e) hc eB ho (I.freeC x c e),hd⟩
 refine⟨I.ok,I.os,hg,⟨fun b o e n hb hx=>?_,fun b o e n hb hx=>?_,fun b o e n hx=>?_,fun b o e hx=>?_,fun b xs e=>tups b xs (I.base.tups b xs e),fun b o xs e=>frzs b o xs (I.base.frzs b o xs e),fun b ps e=>?_⟩,?_,fun x c e=>?_,?_,fun x c e=>?_,fun p hp=>?_,hok,I.len⟩
 ·exact keep b o (neL b o e) hb (kY b o e hx) (I.base.keep b o e n hb hx) (I.base.free b o e n hx)
 ·obtain⟨sl,e1⟩:=I.base.slot b o e n hb hx;obtain⟨kZ,e2⟩:=slot b _ (neL b o e) hb (kY b o e hx) e1 (I.base.free b o e n hx);exact⟨kZ,e2⟩
 ·obtain⟨o',e1⟩:=I.base.there b o e hx;exact free b o' (kY b o e hx) e1 (I.base.free b o e n hx)
 ·obtain⟨o',e1⟩:=I.base.there b o e hx;exact there b o' (kY b o e hx) e1
 ·obtain⟨m1,e1⟩:=I.base.tbls b ps e;obtain⟨m2,e2⟩:=tbls b _ e1;exact⟨m1++m2,by rw[e2,Array.append_assoc]⟩
 ·obtain⟨m,hn,hl⟩:=I.loc;refine⟨m,ns m hn,fun i x v e1 e2 e3=>?_⟩;obtain⟨u,r,l⟩:=hl i x v e1 e2 e3;refine⟨u,r,?_⟩;rcases l with l|⟨k,c,e,z⟩
  ·exact .inl l
  ·exact .inr ⟨k,c,e,cellK x c e _ z⟩
 ·obtain⟨v,z⟩:=I.cell x c e;exact⟨v,cellK x c e v z⟩
 ·obtain⟨m,⟨o,_,_,ho,_⟩,_⟩:=I.loc;exact free _ o (fun z=>(eA _ z).2.1 rfl) ho I.free
 ·obtain⟨v,o,ho,hd⟩:=I.cell x c e;exact free c o (fun z=>(eA c z).2.2.1 x c e rfl) ho (I.freeC x c e)
 ·obtain⟨e,n,ne,nf,d⟩:=I.pin p hp;have eB:p.1∉ch:=fun z=>(eA p.1 z).2.2.2 p hp rfl;exact⟨keep p.1 p.2 ne nf eB e n,free p.1 p.2 eB e n,ne,nf,d⟩
def Inv.un (I:Inv X ae σ H s)(u:Un X.fs [] H H' s.heap h')(hok:HOk X.prog X.w H' h'):Inv X ae σ H' {s with heap:=h',toks:=t' }:=by
 obtain⟨m,⟨o,es,ep,ho,r⟩,_⟩:=id I.loc;obtain⟨sl,hL⟩:=u.any ho I.free (by simp);exact I.step (g':=s.gens) (d':=s.drawn) (ch:=[]) (fun _ z=>nomatch z) (fun b o _ hb _ e n=>u.keep b o e n hb (by simp)) (fun b o _ hb _ e n=>u.slot b o e n hb (by simp)) (fun b o _ e n=>u.free b o e n (by simp)) (fun b o _ e=>u.there b o e (by simp)) u.tups u.frzs u.tbls (fun m' hm=>by
  obtain⟨o',cR,k9,cc,r'⟩:=hm;rw[ho]at cc;cases cc;exact⟨_,cR,k9,hL,r'⟩) hok I.bare
def Inv.call (I:Inv X ae σ H s)(u:Un (frs X.stack) ch H H' s.heap h')(hok:HOk X.prog X.w H' h')(hg:AllBare g')
  (eA:∀b∈ch,(b∈X.ex\/X.s₀.heap.objs.size<=b)/\b≠X.env.locals/\(∀x c,X.env.cells.lookup x=some c->c≠b)/\∀p∈X.pn++ae,p.1≠b):
  Inv X ae σ H' {s with heap:=h',gens:=g',drawn:=d',toks:=t' }:=by
 obtain⟨m,⟨o,es,ep,ho,r⟩,_⟩:=id I.loc;obtain⟨sl,hL⟩:=u.any ho I.free fun z=>(eA _ z).2.1 rfl;exact I.step (ch:=ch) eA (fun b o hL hb hc e n=>u.keep b o e n (fun z=>(jr_.mp (I.stkSub b z)).elim hL hb) hc) (fun b o _ _ hc e n=>u.any e n hc) (fun b o hc e n=>u.free b o e n hc) (fun b o hc e=>u.there b o e hc) u.tups u.frzs u.tbls (fun m' hm=>by
  obtain⟨o',cR,k9,cc,r'⟩:=hm;rw[ho]at cc;cases cc;exact⟨_,cR,k9,hL,r'⟩) hok hg
def Inv.turned {it:Addr}(I:Inv X ae σ H s)(k:∀b o,b≠it->s.heap.get? b=some o->h'.get? b=some o)(hn:H it=none)(hL:it≠X.env.locals)
  (h1:it∈X.ex\/X.s₀.heap.objs.size<=it) (h2:∀x c,X.env.cells.lookup x=some c->c≠it) (h3:∀p∈X.pn++ae,p.1≠it):Inv X ae σ H {s with heap:=h',toks:=t' }:=by
 have nit:∀b u,H b=some u->b≠it:=fun b u e z=>by rw[z,hn]at e;cases e
 refine I.step (g':=s.gens) (d':=s.drawn) (ch:=[it]) (fun b hb=>?_) (fun b o _ _ hc e _=>k b o (fun z=>hc (by simp[z])) e) (fun b o _ _ hc e _=>⟨o.slots,k b o (fun z=>hc (by simp[z])) e⟩) (fun _ _ _ _ n=>n)
  (fun b o hc e=>⟨o,k b o (fun z=>hc (by simp[z])) e⟩) (fun _ _ e=>e) (fun _ _ _ e=>e) (fun b ps e=>⟨#[],by rw[e];simp⟩) (fun m hm=>?_) (fun b u e=>?_) I.bare
 ·have e:b=it:=by simpa using hb
  subst e;exact⟨h1,hL,h2,h3⟩
 ·obtain⟨o,es,ep,ho,r⟩:=hm;exact⟨o,es,ep,k _ o (qm_ hL) ho,r⟩
 ·refine (I.hok b u e).stay (fun c v hc q=>k c v ?_ q) (fun _ q=>q) fun _ _ q=>q;rcases hc with z|z
  ·rw[z];exact nit b u e
  ·exact nit c _ z
def Inv.tok (I:Inv X ae σ H s)(t:Nat):Inv X ae σ H {s with toks:=t}:=I.un (h':=s.heap) (t':=t) Un.refl I.hok
def Inv.kept (I:Inv X ae σ H s)(k:∀b u,s.heap.get? b=some u->h'.get? b=some u):Inv X ae σ H {s with heap:=h',toks:=t' }:=I.un (Un.kept k) (I.hok.kept k)
def Inv.laid (I:Inv X ae σ H s)(k:∀b u,s.heap.get? b=some u->h'.get? b=some u)(hp:s.heap.objs.size<=a)(new:A6 X.prog X.w (upd H a o) h' a o):
  Inv X ae σ (upd H a o) {s with heap:=h',toks:=t' }:=I.un (Un.laid k hp (I.hok.fresh hp)) (I.hok.laid k hp new)
def Inv.write (I:Inv X ae σ H s)(mu:Mut (H x))(he:e=x\/H e=some (.own x))(k:∀b u,b≠e->s.heap.get? b=some u->h'.get? b=some u)(gE:∃u,h'.get? e=some u)
  (new:A6 X.prog X.w (upd H x o) h' x o):Inv X ae σ (upd H x o) {s with heap:=h',toks:=t' }:=I.un (Un.write mu he k gE) (I.hok.write mu he k gE new)
def Inv.pins_of (I:Inv X ae σ H s)(h:∀p∈aG,s.heap.get? p.1=some p.2/\H p.1=none/\p.1≠X.env.locals/\p.1∉X.fs/\∀v,p.2.data ≠ .cell v):Inv X aG σ H s:=
 ⟨I.ok,I.os,I.bare,I.base,I.loc,I.cell,I.free,I.freeC,fun p hp=>(jx_.mp hp).elim (fun z=>I.pin p (jF_ _ z)) (h p),I.hok,I.len⟩
def Pg {N:List Str}(hN:N.Nodup){i j:Nat}{x:Str}(a:N[i]?=some x)(b:N[j]?=some x):i=j:=by
 obtain⟨h1,e1⟩:=ja_.mp a;obtain⟨h2,e2⟩:=ja_.mp b;exact (pf hN).mp (e1.trans e2.symm)
def Ni (I:Inv X ae σ H s)(hN:X.N.Nodup)(hi:X.N[i]?=some x)(hx:Loc X.env.scope x)(r:RelV v u)
  (h:∀s',Inv X ae (σ.set i (some v)) H s'->(∃a,Heap.SameBut a s.heap s'.heap/\(a=X.env.locals\/X.env.cells.lookup x=some a))->Q () s') (hf:X.fn x=true\/X.env.scope.names.lookup x=some .local:=by first|exact .inl rfl|exact .inr rfl|assumption):wpAny M A (storeName X.env x u) Q E s:=by
 obtain⟨m,hn,hl⟩:=id I.loc;have hcls:(X.env.scope.kind == .class||(X.env.scope.kind == .module&&X.env.locals != X.env.globals))=false:=by rw[I.ok.kind];rfl
 have hiσ:i<σ.length:=by rw[I.len];exact (ja_.mp hi).1
 have cne:=I.cne;have cn:∀{a:Addr} {h':Heap},(∃o,s.heap.get? a=some o/\H a=none)->Heap.SameBut a s.heap h'->HOk X.prog X.w H h':=fun {a h'} ha hs b ob e=>by
  obtain⟨_,_,hfree⟩:=ha;refine (I.hok b ob e).stay (fun c w' hc q=>(hs.2 c ?_).trans q) (fun _ q=>q) fun _ _ q=>q;rintro rfl;rcases hc with rfl|hc
  ·rw[hfree]at e;cases e
  ·rw[hfree]at hc;cases hc
 rcases hx with hk|hk
 ·refine wpAny_storeName_local hk hn (fun h' eX hs=>?_) hcls;obtain⟨oL,_,_,hoL,_⟩:=id hn;refine h _ ⟨I.ok,I.os,I.bare,⟨fun b o e n hb hx=>?_,fun b o e n hb hx=>?_,I.base.free,fun b o e hx=>?_,I.base.tups,I.base.frzs,I.base.tbls⟩,⟨_,eX,fun j y v' e1 e2 e3=>?_⟩,fun y c e=>?_,I.free,I.freeC,fun p hp=>?_,cn ⟨oL,hoL,I.free⟩ hs,by simpa using I.len⟩ ⟨_,hs,.inl rfl⟩
  ·exact (hs.2 b (jQ_ (jH_ (ju_ e) I.ok.above))).trans (I.base.keep b o e n hb hx)
  ·obtain⟨sl,e1⟩:=I.base.slot b o e n hb hx;exact⟨sl,(hs.2 b (jQ_ (jH_ (ju_ e) I.ok.above))).trans e1⟩
  ·obtain⟨o',e1⟩:=I.base.there b o e hx;exact⟨o',(hs.2 b (jQ_ (jH_ (ju_ e) I.ok.above))).trans e1⟩
  ·by_cases hj:j=i
   ·subst hj;rw[hi]at e1;cases e1;rw[pB hiσ]at e2;cases e2;exact⟨u,r,.inl ⟨hk,by simp⟩⟩
   ·rw[pS (qm_ hj)]at e2;obtain⟨u',r',q⟩:=hl j y v' e1 e2 e3;refine⟨u',r',?_⟩;rcases q with ⟨k,e⟩|⟨k,c,e,z⟩
    ·refine .inl ⟨k,?_⟩;have:y≠x:=fun e=>hj (Pg hN e1 (e ▸ hi));simp[this,e]
    ·exact .inr ⟨k,c,e,z.sameBut hs (cne y c e)⟩
  ·obtain⟨w',z⟩:=I.cell y c e;exact⟨w',z.sameBut hs (cne y c e)⟩
  ·obtain⟨e,n,ne,nf,d⟩:=I.pin p hp;exact⟨(hs.2 p.1 ne).trans e,n,ne,nf,d⟩
 ·have mB:X.fn x=true:=by
   rcases hf with z|z
   ·exact z
   ·rw[z]at hk;cases hk
  obtain⟨c,hc⟩:=I.ok.has x (.inl hk);obtain⟨w',z⟩:=I.cell x c hc;refine wpAny_storeName_cell I.ok.kind hk hc z (fun h' la hs=>?_);obtain⟨oc,gF,hocd⟩:=id z;refine h {s with heap:=h' } ⟨I.ok,I.os,I.bare,⟨fun b o e n hb hx=>?_,fun b o e n hb hx=>?_,I.base.free,fun b o e hx=>?_,I.base.tups,I.base.frzs,I.base.tbls⟩,⟨m,hn.sameBut hs (qm_ (cne x c hc)),fun j y v' e1 e2 e3=>?_⟩,fun y c' e=>?_,I.free,I.freeC,fun p hp=>?_,cn ⟨oc,gF,I.freeC x c hc⟩ hs,by simpa using I.len⟩ ⟨c,hs,.inr hc⟩
  ·exact (hs.2 b (jQ_ (jH_ (ju_ e) (I.ok.cab x c mB hc)))).trans (I.base.keep b o e n hb hx)
  ·obtain⟨sl,e1⟩:=I.base.slot b o e n hb hx;exact⟨sl,(hs.2 b (jQ_ (jH_ (ju_ e) (I.ok.cab x c mB hc)))).trans e1⟩
  ·obtain⟨o',e1⟩:=I.base.there b o e hx;exact⟨o',(hs.2 b (jQ_ (jH_ (ju_ e) (I.ok.cab x c mB hc)))).trans e1⟩
  ·by_cases hj:j=i
   ·subst hj;rw[hi]at e1;cases e1;rw[pB hiσ]at e2;cases e2;exact⟨u,r,.inr ⟨.inl hk,c,hc,la⟩⟩
   ·rw[pS (qm_ hj)]at e2;obtain⟨u',r',q⟩:=hl j y v' e1 e2 e3;refine⟨u',r',?_⟩;rcases q with q|⟨k,c',e,z'⟩
    ·exact .inl q
    ·refine .inr ⟨k,c',e,z'.sameBut hs ?_⟩;rintro rfl;exact hj (Pg hN e1 (I.ok.inj _ _ _ e hc ▸ hi))
  ·by_cases hcc:c'=c
   ·subst hcc;exact⟨_,la⟩
   ·obtain⟨w2,z2⟩:=I.cell y c' e;exact⟨w2,z2.sameBut hs hcc⟩
  ·obtain⟨e,n,ne,nf,d⟩:=I.pin p hp;refine⟨(hs.2 p.1 ?_).trans e,n,ne,nf,d⟩;intro q;rw[q,gF]at e;have q':oc=p.2:=jB_ e;exact d w' (by rw[<-q'];exact hocd)
def Mo (I:Inv X ae σ H s)(hN:X.N.Nodup)(hi:X.N[i]?=some x)(hx:Loc X.env.scope x)(r:RelV v u)
  (h:∀s',Inv X ae (σ.set i (some v)) H s'->Q () s') (hf:X.fn x=true\/X.env.scope.names.lookup x=some .local:=by first|exact .inl rfl|exact .inr rfl|assumption):wpAny M A (storeName X.env x u) Q E s:=
 Ni I hN hi hx r (fun s' I' _=>h s' I') hf
def Inv.call' (I:Inv X ae σ H s)(ho:s'.os=s.os)(u:Un (frs X.stack) ch H H' s.heap s'.heap)(hok:HOk X.prog X.w H' s'.heap)(hg:AllBare s'.gens)
  (eA:∀b∈ch,(b∈X.ex\/X.s₀.heap.objs.size<=b)/\b≠X.env.locals/\(∀x c,X.env.cells.lookup x=some c->c≠b)/\∀p∈X.pn++ae,p.1≠b):Inv X ae σ H' s':=by
 obtain⟨h',g',d',t',o'⟩:=s';have e:o'=s.os:=ho;subst e;exact I.call (g':=g') (t':=t') (d':=d') u hok hg eA
end
noncomputable abbrev XK:=Value->Option Addr->Hp->Prop
noncomputable abbrev St:=List (Option V)
noncomputable abbrev VK:=V->Hp->Prop
noncomputable abbrev TE:=St->Hp->VK->Prop
noncomputable abbrev TT:=St->Hp->(Bool->Hp->Prop)->Prop
noncomputable abbrev TA:=St->Hp->(List V->Hp->Prop)->Prop
structure Ends where
 nx:St->Hp->Prop
 rt:VK
 bk:St->Hp->Prop:=fun _ _=>False
 ct:St->Hp->Prop:=fun _ _=>False
noncomputable abbrev TS:=Ends->St->Hp->Prop
noncomputable def EP (X:Cx)(ae:α7)(σ:St)(Q:VK)(u:Value)(s':Shared):Prop:=∃v H',Inv X ae σ H' s'/\RelV v u/\Q v H'
noncomputable def TP (X:Cx)(ae:α7)(σ:St)(Q:Bool->Hp->Prop)(b:Bool)(s':Shared):Prop:=∃H',Inv X ae σ H' s'/\Q b H'
noncomputable def AP (X:Cx)(ae:α7)(σ:St)(Q:List V->Hp->Prop)(us:List Value)(s':Shared):Prop:=∃vs H',Inv X ae σ H' s'/\Vals vs us/\Q vs H'
noncomputable def SP (X:Cx)(ae:α7)(D:Ends)(f:Flow)(s':Shared):Prop:=
 match f with
 |.next=>∃aj H',Inv X ae aj H' s'/\D.nx aj H'
 |.brk=>∃aj H',Inv X ae aj H' s'/\D.bk aj H'
 |.cont=>∃aj H',Inv X ae aj H' s'/\D.ct aj H'
 |.ret u=>∃v aj H',Inv X ae aj H' s'/\RelV v u/\D.rt v H'
noncomputable def PE (X:Cx)(e:Expr)(t:TE):Prop:=
 ∀(ae:α7) (s:Shared) (σ:St) (H:Hp) (Q:VK),Inv X ae σ H s->t σ H Q->wpAny (model X.prog X.w) X.A (eval e X.env) (EP X ae σ Q) X.xe s
noncomputable def PT (X:Cx)(e:Expr)(t:TT):Prop:=
 ∀(ae:α7) (s:Shared) (σ:St) (H:Hp) (Q:Bool->Hp->Prop),Inv X ae σ H s->t σ H Q->wpAny (model X.prog X.w) X.A (isTrue e X.env (eval e X.env)) (TP X ae σ Q) X.xe s
noncomputable def PW (X:Cx)(e:Expr)(t:TT):Prop:=
 ∀(dk:Sem Value) (ae:α7) (s:Shared) (σ:St) (H:Hp) (Q:Bool->Hp->Prop),Inv X ae σ H s->t σ H Q->wpAny (model X.prog X.w) X.A (isTrue e X.env dk) (TP X ae σ Q) X.xe s
def PW.pt (h:PW X e t):PT X e t:=h _
noncomputable def PA (X:Cx)(es:List Expr)(t:TA):Prop:=
 ∀(pos:Pos) (ae:α7) (s:Shared) (σ:St) (H:Hp) (Q:List V->Hp->Prop),Inv X ae σ H s->t σ H Q->wpAny (model X.prog X.w) X.A (spliced (backTo pos (starEach es X.env))) (AP X ae σ Q) X.xe s
noncomputable def PS (X:Cx)(st:Stmt)(t:TS):Prop:=
 ∀(ae:α7) (s:Shared) (σ:St) (H:Hp) (D:Ends),Inv X ae σ H s->t D σ H->wpAny (model X.prog X.w) X.A (exec st X.env) (SP X ae D) X.xe s
noncomputable def PSs (X:Cx)(st:List Stmt)(t:TS):Prop:=
 ∀(ae:α7) (s:Shared) (σ:St) (H:Hp) (D:Ends),Inv X ae σ H s->t D σ H->wpAny (model X.prog X.w) X.A (execs st X.env) (SP X ae D) X.xe s
def thn (h:wpAny M A t Q E s)(hQ:∀a s,Q a s->Q' a s):wpAny M A t Q' E s:=q1_ h hQ fun _ _ x=>x
end L2
namespace L2
open PySem PySem.Spec PyProof.Rows
section
variable {X:Cx}
noncomputable def tVar (i:Nat):TE:=fun σ H Q=>∃v,σ[i]?=some (some v)/\Q v H
noncomputable def tC (v:V):TE:=fun _ H Q=>Q v H
def XC (hN:X.N[i]?=some x)(hv:Vis X.env.scope x)(hd:(x==("__debug__" : Str))=false:=by decide)(cq:(x==("__classdict__" : Str))=false:=by decide):PE X (.Name x pos) (tVar i):=by
 intro ae s σ H Q I h;obtain⟨v,e,h⟩:=h;obtain⟨m,hn,hl⟩:=I.loc;obtain⟨u,r,l⟩:=hl i x v hN e hv;have fin:EP X ae σ Q u s:=⟨v,H,I,r,h⟩;rcases l with ⟨hk,hm⟩|⟨hk,c,hc,dm⟩
 ·exact wpAny_Name (wpAny_loadName_local I.ok.kind hk hn hm fin) hd
 ·rcases hk with hk|hk
  ·exact wpAny_Name (wpAny_loadName_cell I.ok.kind hk hc dm fin) hd
  ·exact wpAny_Name (wpAny_loadName_free I.ok.kind hk hc dm fin cq) hd
def Ag {i j pos}:PE X (.Constant (.int i) j pos) (tC (.int i)):=fun _ _ _ H _ I h=>wpAny_Constant_int ⟨.int i,H,I.tok _,⟨_,rfl⟩,h⟩
def Mp {b j pos}:PE X (.Constant (.bool b) j pos) (tC (.bl b)):=fun _ _ _ H _ I h=>Constant_bool ⟨.bl b,H,I,rfl,h⟩
def BL {j pos}:PE X (.Constant .none j pos) (tC .non):=fun _ _ _ H _ I h=>Constant_none ⟨.non,H,I,rfl,h⟩
def As {x j pos}:PE X (.Constant (.str x) j pos) (tC (.str x)):=fun _ _ _ H _ I h=>Calls.Constant_str ⟨.str x,H,I.tok _,⟨_,rfl⟩,h⟩
noncomputable def Gl (X:Cx)(x:Str):Prop:=X.env.kindOf x=some .globalImplicit
def G4 (I:Inv X ae σ H s)(hg:Gl X x)(hm:X.mg x=some u)(h:Q u s)
  (hd:(x==("__debug__" : Str))=false:=by decide):wpAny (model X.prog X.w) X.A (eval (.Name x pos) X.env) Q E s:=
 Calls.Name_function_global I.ok.kind hg (Calls.loadGlobal_global (by rw[I.ok.glob];exact I.mod.glob.keeps I.bk) hm h) hd
def Js (I:Inv X ae σ H s)(hg:Gl X x)(hm:X.mg x=none)(hv:bootBuiltins x=some u)(h:Q u s)
  (hn:x ≠ "__name__" := by decide) (hd:(x==("__debug__" : Str))=false:=by decide):wpAny (model X.prog X.w) X.A (eval (.Name x pos) X.env) Q E s:=by
 obtain⟨mb,h1,h2⟩:=I.mod.blt;exact Calls.Name_function_global I.ok.kind hg (Calls.loadGlobal_builtin (by rw[I.ok.glob];exact I.mod.glob.keeps I.bk) hm (by rw[I.ok.blt];exact h1.keeps I.bk) ((h2 x hn).trans hv) h) hd
def Ot (hg:Gl X x)(hm:X.mg x=some u)(r:RelV v u)(hd:(x==("__debug__" : Str))=false:=by decide):PE X (.Name x pos) (tC v):=
 fun _ _ _ H _ I h=>G4 I hg hm ⟨v,H,I,r,h⟩ hd
def Wm (hg:Gl X x)(hm:X.mg x=none)(hv:bootBuiltins x=some u)(r:RelV v u)(hn:x ≠ "__name__" := by decide)(hd:(x==("__debug__" : Str))=false:=by decide):PE X (.Name x pos) (tC v):=
 fun _ _ _ H _ I h=>Js I hg hm hv ⟨v,H,I,r,h⟩ hn hd
variable {a b:Expr} {ta tb:TE} {pos:Pos}
noncomputable def PC (X:Cx)(op:CmpOp)(a b:Expr)(t:TE):Prop:=
 ∀(ae:α7) (s:Shared) (σ:St) (H:Hp) (Q:VK),Inv X ae σ H s->t σ H Q ->
  wpAny (model X.prog X.w) X.A (eval a X.env) (fun v s₁=>wpAny (model X.prog X.w) X.A (eval b X.env) (fun u bj=>wpAny (model X.prog X.w) X.A (compareOp op v u) (EP X ae σ Q) X.xe bj) X.xe s₁) X.xe s
def TX (b:Expr) (h:op ≠ .In)(h2:op ≠ .NotIn):behindInMarks op b=false:=by
 have e1:(op==CmpOp.In)=false:=by cases op<;>first|rfl|exact absurd rfl h
 have e2:(op==CmpOp.NotIn)=false:=by cases op<;>first|rfl|exact absurd rfl h2
 cases b<;>simp[behindInMarks,e1,e2]
noncomputable def tB (t:TE):TT:=fun σ H Q=>t σ H fun x H1=>∃c,x=.bl c/\Q c H1
def U8 (h:PC X op a b t)(h1:behindInMarks op b=false:=by first|exact TX _ (by decide) (by decide)|rfl):PT X (.Compare a [op] [b] pos) (tB t):=by
 intro ae s σ H Q I hw;refine wpAny_isTrue_Compare1 (thn (h ae s σ H _ I hw) fun v s1 h1=>thn h1 fun u s2 h2=>thn h2 fun c s3 ⟨x,H1,I1,r1,q1⟩=>?_) h1;obtain⟨d,rfl,q⟩:=q1;cases r1;exact qV_ ⟨H1,I1,q⟩
def Kp (h:PE X e t)(he:∀dk,isTrue e X.env dk=(do let v <- dk;standAt e.pos;holding [v] (truthy v)):=by intro _;rfl):PT X e (tB t):=by
 intro ae s σ H Q I hw;refine isTrue_plain (thn (h ae s σ H _ I hw) fun v s1 ⟨x,H1,I1,r1,q1⟩=>?_) (he _);obtain⟨d,rfl,q⟩:=q1;cases r1;exact qV_ ⟨H1,I1,q⟩
variable {tA lg:TT} {rest:List Expr}
noncomputable def tAnd (t u:TT):TT:=fun σ H Q=>t σ H fun c H1=>if c=true then u σ H1 Q else Q false H1
noncomputable def tOr (t u:TT):TT:=fun σ H Q=>t σ H fun c H1=>if c=true then Q true H1 else u σ H1 Q
noncomputable def tNot (t:TT):TT:=fun σ H Q=>t σ H fun c H1=>Q (!c) H1
def Q9 (ha:PT X a tA):PW X (.BoolOp .And [a] pos) tA:=by
 intro wh ae s σ H Q I h;refine isTrue_and (thn (ha ae s σ H Q I h) fun c s1 e=>?_);cases c with
 |true=>exact isTrue_and_nil e
 |false=>exact e
def Nj (ha:PT X a tA):PW X (.BoolOp .Or [a] pos) tA:=by
 intro wh ae s σ H Q I h;refine isTrue_or (thn (ha ae s σ H Q I h) fun c s1 e=>?_);cases c with
 |false=>exact isTrue_or_nil e
 |true=>exact e
def U9 (ha:PT X a tA)(hb:PW X (.BoolOp .And (b::rest) pos) lg):PW X (.BoolOp .And (a::b::rest) pos) (tAnd tA lg):=by
 intro wh ae s σ H Q I h;refine isTrue_and (thn (ha ae s σ H _ I h) fun c s1 ⟨H1,I1,q1⟩=>?_);cases c with
 |true=>exact hb wh ae s1 σ H1 Q I1 q1
 |false=>exact⟨H1,I1,q1⟩
def Ra (ha:PT X a tA)(hb:PW X (.BoolOp .Or (b::rest) pos) lg):PW X (.BoolOp .Or (a::b::rest) pos) (tOr tA lg):=by
 intro wh ae s σ H Q I h;refine isTrue_or (thn (ha ae s σ H _ I h) fun c s1 ⟨H1,I1,q1⟩=>?_);cases c with
 |true=>exact⟨H1,I1,q1⟩
 |false=>exact hb wh ae s1 σ H1 Q I1 q1
def Gw (ha:PT X a tA):PT X (.UnaryOp .Not a pos) (tNot tA):=by
 intro ae s σ H Q I h;exact isTrue_not (ha ae s σ H (fun c H1=>Q (!c) H1) I h)
noncomputable def tIf (t:TT)(ta tb:TE):TE:=fun σ H Q=>t σ H fun c H1=>if c=true then ta σ H1 Q else tb σ H1 Q
def Ph (hc:PT X c tA)(ha:PE X a ta)(hb:PE X b tb):PE X (.IfExp c a b pos) (tIf tA ta tb):=by
 intro ae s σ H Q I h;refine wpAny_IfExp (thn (hc ae s σ H _ I h) fun d s1 ⟨H1,I1,q1⟩=>?_);cases d with
 |true=>exact ha ae s1 σ H1 Q I1 q1
 |false=>exact hb ae s1 σ H1 Q I1 q1
end
end L2
namespace L2
open PySem PySem.Spec PyProof.Rows
noncomputable def SqL (K:α3)(H:Hp)(a:Addr)(xs:List V):Prop:=
 Rd H a (.lst xs) \/
  ∃(o:Obj) (its:Array Value) (n:Nat),K.lookup a=some o/\o.cls=.type "list" /\ o.dict=none/\o.data=.seq its n/\its.size<=sizeLine/\Vals xs its.toList
noncomputable def SqT (K:α3)(H:Hp)(a:Addr)(xs:List V):Prop:=
 Rd H a (.tup xs) \/
  ∃(o:Obj) (its:Array Value) (n:Nat),K.lookup a=some o/\o.cls=.type "tuple" /\ o.data=.seq its n/\its.size<=sizeLine/\Vals xs its.toList
noncomputable def absV:Value->Option V
 |.none=>some .non
 |.bool b=>some (.bl b)
 |.int i _=>some (.int i)
 |.str x _=>some (.str x)
 |.bytes b _=>some (.byt b)
 |.float b _=>some (.flt b)
 |.ref a=>some (.ref a)
 |.type n=>some (.ty n)
 |_=>none
def RelV.abs (r:RelV x u):absV u=some x:=by
 cases x with
 |non=>cases r;rfl
 |bl _=>cases r;rfl
 |int _=>obtain⟨t,rfl⟩:=r;rfl
 |str _=>obtain⟨t,rfl⟩:=r;rfl
 |byt _=>obtain⟨t,rfl⟩:=r;rfl
 |flt _=>obtain⟨t,rfl⟩:=r;rfl
 |ref _=>cases r;rfl
 |ty _=>cases r;rfl
def RelV.inj (r:RelV x u)(q:RelV y u):x=y:=jB_ (r.abs.symm.trans q.abs)
def Vals.inj:∀{xs ys:List V} {us:List Value},Vals xs us->Vals ys us->xs=ys
 |_,_,_,.nil,.nil=>rfl
 |_,_,_,.cons r t,.cons r' t'=>by rw[r.inj r',Vals.inj t t']
section
variable {X:Cx} {ae:α7} {σ:St} {H:Hp} {s:Shared} {a:Addr} {xs ys:List V}
def SqL.of {K:α3}(h:H a=some (.lst xs)):SqL K H a xs:=.inl (.inl h)
def SqT.of {K:α3}(h:H a=some (.tup xs)):SqT K H a xs:=.inl (.inl h)
def Inv.list (I:Inv X ae σ H s)(h:SqL X.K H a xs):∃its:List Value,Vals xs its/\PlainL s.heap a its.toArray/\xs.length<=sizeLine:=by
 rcases h with h|⟨o,its,n,hk,hc,hd,hs,hz,r⟩
 ·obtain⟨z,its,n,r,e⟩:=h.ok I.hok;exact⟨its,r,⟨_,n,e,rfl,rfl,rfl⟩,z⟩
 ·refine⟨its.toList,r,⟨o,n,I.kIn a o hk,hc,hd,by simpa using hs⟩,?_⟩;have e:=r.length;simp only[qj_]at e;lia
def Inv.tuple (I:Inv X ae σ H s)(h:SqT X.K H a xs):∃its:List Value,Vals xs its/\IsTup s.heap a its.toArray/\xs.length<=sizeLine:=by
 rcases h with h|⟨o,its,n,hk,hc,hs,hz,r⟩
 ·obtain⟨z,its,r,p⟩:=h.ok I.hok;exact⟨its,r,p,z⟩
 ·refine⟨its.toList,r,⟨o,I.kIn a o hk,hc,n,by simpa using hs⟩,?_⟩;have e:=r.length;simp only[qj_]at e;lia
def Inv.list_inj (I:Inv X ae σ H s)(h:SqL X.K H a xs)(h':SqL X.K H a ys):xs=ys:=by
 obtain⟨its,r,⟨o,n,e,_,_,d⟩,_⟩:=I.list h;obtain⟨its',r',⟨o',n',e',_,_,d'⟩,_⟩:=I.list h';rw[e]at e';cases e';rw[d]at d';injection d' with d1 _;have:its=its':=by simpa using qn_ rX d1
 subst this;exact r.inj r'
def Inv.tuple_inj (I:Inv X ae σ H s)(h:SqT X.K H a xs)(h':SqT X.K H a ys):xs=ys:=by
 obtain⟨its,r,⟨o,e,_,n,d⟩,_⟩:=I.tuple h;obtain⟨its',r',⟨o',e',_,n',d'⟩,_⟩:=I.tuple h';rw[e]at e';cases e';rw[d]at d';injection d' with d1 _;have:its=its':=by simpa using qn_ rX d1
 subst this;exact r.inj r'
end
noncomputable abbrev Cx.wish (X:Cx)(E:Value->Shared->Prop):Cx:={X with xe:=E}
noncomputable abbrev Cx.nox (X:Cx):Cx:=X.wish fun _ _=>False
def Cx.Ok.wish {X:Cx}(ok:X.Ok)(E:Value->Shared->Prop):(X.wish E).Ok:=
 ⟨ok.mod,ok.kind,ok.glob,ok.blt,ok.above,ok.inj,ok.has,ok.cab,ok.hd,ok.frames,ok.stk,ok.exf,ok.bs,ok.bsz,ok.noex,ok.exfs,ok.funs,ok.frf⟩
def Cx.Ok.unwish {X:Cx}{E:Value->Shared->Prop}(ok:(X.wish E).Ok):X.Ok:=
 ⟨ok.mod,ok.kind,ok.glob,ok.blt,ok.above,ok.inj,ok.has,ok.cab,ok.hd,ok.frames,ok.stk,ok.exf,ok.bs,ok.bsz,ok.noex,ok.exfs,ok.funs,ok.frf⟩
section
variable {X:Cx} {ae:α7} {σ:St} {H:Hp} {s:Shared} {E:Value->Shared->Prop}
def Inv.wish (I:Inv X ae σ H s)(E:Value->Shared->Prop):Inv (X.wish E) ae σ H s:=⟨I.ok.wish E,I.os,I.bare,I.base,I.loc,I.cell,I.free,I.freeC,I.pin,I.hok,I.len⟩
def Inv.unwish (I:Inv (X.wish E) ae σ H s):Inv X ae σ H s:=⟨I.ok.unwish,I.os,I.bare,I.base,I.loc,I.cell,I.free,I.freeC,I.pin,I.hok,I.len⟩
def SP.unwish (h:SP (X.wish E) ae D f s'):SP X ae D f s':=by
 cases f with
 |next=>obtain⟨aj,H',I,q⟩:=h;exact⟨aj,H',I.unwish,q⟩
 |brk=>obtain⟨aj,H',I,q⟩:=h;exact⟨aj,H',I.unwish,q⟩
 |cont=>obtain⟨aj,H',I,q⟩:=h;exact⟨aj,H',I.unwish,q⟩
 |ret u=>obtain⟨v,aj,H',I,r,q⟩:=h;exact⟨v,aj,H',I.unwish,r,q⟩
def PSs.nox {st:List Stmt} (h:PSs X.nox st t):PSs X st t:=fun ae s σ H D I hw=>
 q1_ (h ae s σ H D (I.wish _) hw) (fun _ _ q=>q.unwish) fun _ _ z=>oz z
end
section
variable {X:Cx} {st:Stmt} {rest:List Stmt} {t u:TS} {e:Expr} {te:TE} {pos:Pos}
noncomputable def XD:TS:=fun D σ H=>D.nx σ H
noncomputable def tSeq (t u:TS):TS:=fun D σ H=>t {D with nx:=u D} σ H
def Aw:PSs X [] XD:=fun _ _ σ H _ I h=>xY_ ⟨σ,H,I,h⟩
def Ac (h1:PS X st t)(h2:PSs X rest u):PSs X (st::rest) (tSeq t u):=by
 intro ae s σ H D I h;refine wpAny_execs_cons (thn (h1 ae s σ H {D with nx:=u D} I h) fun f s1 q=>?_);cases f with
 |next=>
  obtain⟨aj,H',I',q⟩:=q;exact h2 ae s1 aj H' D I' q
 |ret v=>exact q
 |brk=>exact q
 |cont=>exact q
def Ae (h1:PS X st t):PSs X [st] t:=by
 intro ae s σ H D I h;refine wpAny_execs_cons (thn (h1 ae s σ H D I h) fun f s1 q=>?_);cases f with
 |next=>exact xY_ q
 |ret v=>exact q
 |brk=>exact q
 |cont=>exact q
def Inv.quiet (I:Inv X ae σ H s):interactive X.env=false:=by simp[interactive,I.ok.kind]
noncomputable def XE (te:TE):TS:=fun D σ H=>te σ H fun _ H1=>D.nx σ H1
def Ay (he:PE X e te)(hs:swapsWith e none pos.line X.env=pure false:=by rfl):PS X (.Expr e pos) (XE te):=by
 intro ae s σ H D I h;exact wpAny_Expr_any (thn (he ae s σ H _ I h) fun v s1 ⟨x,H1,I1,r1,q1⟩=>⟨σ,H1,I1,q1⟩) I.quiet hs
noncomputable def tRet (te:TE):TS:=fun D σ H=>te σ H D.rt
def Ap (he:PE X e te):PS X (.Return (some e) pos) (tRet te):=by
 intro ae s σ H D I h;exact wpAny_Return_some (thn (he ae s σ H _ I h) fun v s1 ⟨x,H1,I1,r1,q1⟩=>⟨x,σ,H1,I1,r1,q1⟩)
noncomputable def tIfS (c:TT)(t u:TS):TS:=fun D σ H=>c σ H fun b H1=>if b=true then t D σ H1 else u D σ H1
def AY (hc:PT X c tc)(ha:PSs X a t)(hb:PSs X b u):PS X (.If c a b pos) (tIfS tc t u):=by
 intro ae s σ H D I h;refine wpAny_If (thn (hc ae s σ H _ I h) fun d s1 ⟨H1,I1,q1⟩=>?_);cases d with
 |true=>exact ha ae s1 σ H1 D I1 q1
 |false=>exact hb ae s1 σ H1 D I1 q1
noncomputable def XF:TS:=fun _ _ _=>False
def F6:PS X st XF:=fun _ _ _ _ _ _ h=>h.elim
end
noncomputable abbrev TG:=V->St->Hp->(St->Hp->Prop)->Prop
noncomputable abbrev TGs:=List V->St->Hp->(St->Hp->Prop)->Prop
noncomputable def PG (X:Cx)(bQ:Expr)(t:TG):Prop:=
 ∀(ae:α7) (s:Shared) (σ:St) (H:Hp) (v:V) (u:Value) (Q:St->Hp->Prop),Inv X ae σ H s->RelV v u->t v σ H Q ->
  wpAny (model X.prog X.w) X.A (assign bQ X.env u) (fun _ s'=>∃aj H',Inv X ae aj H' s'/\Q aj H') X.xe s
noncomputable def PGs (X:Cx)(ts:List Expr)(t:TGs):Prop:=
 ∀(ae:α7) (s:Shared) (σ:St) (H:Hp) (vs:List V) (us:List Value) (Q:St->Hp->Prop),Inv X ae σ H s->Vals vs us->t vs σ H Q ->
  wpAny (model X.prog X.w) X.A (assignInOrder ((assignEach ts X.env).map (·.2)) us) (fun _ s'=>∃aj H',Inv X ae aj H' s'/\Q aj H') X.xe s
noncomputable abbrev TSet:=V->V->V->Hp->(Hp->Prop)->Prop
noncomputable def PSet (X:Cx)(t:TSet):Prop:=
 ∀(ae:α7) (s:Shared) (σ:St) (H:Hp) (o i v:V) (ov iv u:Value) (Q:Hp->Prop),Inv X ae σ H s->RelV o ov->RelV i iv->RelV v u->t o i v H Q ->
  wpAny (model X.prog X.w) X.A (setItem ov iv u) (fun _ s'=>∃H',Inv X ae σ H' s'/\Q H') X.xe s
noncomputable abbrev TIp:=V->V->Hp->VK->Prop
noncomputable def PIp (X:Cx)(op:Operator)(t:TIp):Prop:=
 ∀(ae:α7) (s:Shared) (σ:St) (H:Hp) (x y:V) (v u:Value) (Q:VK),Inv X ae σ H s->RelV x v->RelV y u->t x y H Q ->
  wpAny (model X.prog X.w) X.A (inplaceOp op v u) (EP X ae σ Q) X.xe s
section
variable {X:Cx} {pos:Pos}
noncomputable def IK (i:Nat):TG:=fun v σ H Q=>Q (σ.set i (some v)) H
def Ar (hN:X.N.Nodup)(hi:X.N[i]?=some x)(hx:Loc X.env.scope x)(hf:X.fn x=true\/X.env.scope.names.lookup x=some .local:=by first|exact .inl rfl|exact .inr rfl|assumption):PG X (.Name x pos) (IK i):=by
 intro ae s σ H v u Q I r h;exact wpAny_assign_Name (Mo I hN hi hx r (fun s' I'=>⟨_,H,I',h⟩) hf)
noncomputable def gNil:TGs:=fun vs σ H Q=>vs=[]/\Q σ H
noncomputable def XG (t:TG)(u:TGs):TGs:=fun vs σ H Q=>∃v r,vs=v::r/\t v σ H fun aj H'=>u r aj H' Q
def Ou:PGs X [] gNil:=by
 intro ae s σ H vs us Q I r h;obtain⟨e,h⟩:=h;subst e;cases r;exact assignInOrder_nil ⟨σ,H,I,h⟩
def F7 (h1:PG X e t)(h2:PGs X es u)
  (hs:(assignEach (e::es) X.env).map (·.2)=assign e X.env::(assignEach es X.env).map (·.2):=by rfl):PGs X (e::es) (XG t u):=by
 intro ae s σ H vs us Q I r h;obtain⟨v,vr,e1,h⟩:=h;subst e1;cases r with
 |cons r rr=>
  rw[hs];refine assignInOrder_cons (thn (h1 ae s σ H _ _ _ I r h) fun _ s1 ⟨dn,H1,I1,q1⟩=>?_);exact h2 ae s1 dn H1 _ _ Q I1 rr q1
noncomputable def gTup (K:α3)(n:Nat)(t:TGs):TG:=fun v σ H Q=>∃a xs,v=.ref a/\SqT K H a xs/\xs.length=n/\t xs σ H Q
def Rb (hc:X.calm=true)(h:PGs X es t)
  (hn:(assignEach es X.env).length=n:=by rfl) (aH:(assignEach es X.env).findIdx? (·.1)=none:=by rfl):PG X (.Tuple es k pos) (gTup X.K n t):=by
 intro ae s σ H v u Q I r hw;obtain⟨a,xs,e1,hq,hl,hw⟩:=hw;subst e1;cases r;obtain⟨its,rv,ht,hz⟩:=I.tuple hq;refine assign_Tuple_tuple (I.ok.hd hc) ht (by simp[hn,<-hl,rv.length]) aH fun h' hx=>?_;have I1:Inv X ae σ H {s with heap:=h' }:=I.kept (t':=s.toks) fun b o e=>hx b o (jQ_ (ju_ e)) e;exact h ae _ σ H xs _ Q I1 (by simpa using rv) hw
noncomputable def gSub (to ti:TE)(t:TSet):TG:=fun v σ H Q=>to σ H fun o H1=>ti σ H1 fun i H2=>t o i v H2 fun H3=>Q σ H3
def Va (ho:PE X o to)(hi:PE X i ti)(hs:PSet X t)
  (ha:∀v,assign (.Subscript o i pos) X.env v=(do
   let ov <- holding [v] (eval o X.env)
   let iv <- holding [v,ov] (eval i X.env)
   standAt pos
   holding [v,ov,iv] (setItem ov iv v)
   release [v,ov,iv] []):=by intro _;rfl):PG X (.Subscript o i pos) (gSub to ti t):=by
 intro ae s σ H v u Q I r h;rw[ha];refine jg_ (q5_ (thn (ho ae s σ H _ I h) fun ov s1 ⟨x,H1,I1,r1,q1⟩=>?_));refine jg_ (q5_ (thn (hi ae s1 σ H1 _ I1 q1) fun iv s2 ⟨y,H2,I2,r2,q2⟩=>?_));refine jg_ (wpAny_standAt (jg_ (q5_ (thn (hs ae s2 σ H2 x y v ov iv u _ I2 r1 r2 r q2) fun _ s3 ⟨H3,I3,q3⟩=>?_))));exact wpAny_release ⟨σ,H3,I3,q3⟩
noncomputable def tAsg (te:TE)(g:TG):TS:=fun D σ H=>te σ H fun x H1=>g x σ H1 D.nx
def Vb (he:PE X e te)(hg:PG X tg g)(hs:swapsWithSole [tg] e pos.line X.env=pure false:=by rfl)(hw:swappedStores [tg] e X.env=pure none:=by rfl)
  (h1:(assignEach [tg] X.env).map (·.2)=[assign tg X.env]:=by rfl):PS X (.Assign [tg] e pos) (tAsg te g):=by
 intro ae s σ H D I h;refine wpAny_Assign_stores (thn (he ae s σ H _ I h) fun v s1 ⟨x,H1,I1,r1,q1⟩=>?_) hs hw;rw[h1];exact thn (hg ae s1 σ H1 x v _ I1 r1 q1) fun _ s2 q=>q
def C7 (hN:X.N.Nodup)(hi:X.N[i]?=some x)(hx:Loc X.env.scope x)(he:PE X e te)(hs:swapsWith e (some (.Name x bx)) pos.line X.env=pure false:=by rfl)(hf:X.fn x=true\/X.env.scope.names.lookup x=some .local:=by first|exact .inl rfl|exact .inr rfl|assumption):
  PS X (.Assign [.Name x bx] e pos) (tAsg te (IK i)):=by
 intro ae s σ H D I h;refine wpAny_Assign_Name (thn (he ae s σ H _ I h) fun v s1 ⟨y,H1,I1,r1,q1⟩=>?_) hs;exact Mo I1 hN hi hx r1 (fun s2 I2=>⟨_,H1,I2,q1⟩) hf
noncomputable def tAug (i:Nat)(te:TE)(ti:TIp):TS:=fun D σ H=>∃x,σ[i]?=some (some x)/\te σ H fun y H1=>ti x y H1 fun z H2=>D.nx (σ.set i (some z)) H2
def XH (hN:X.N.Nodup)(hi:X.N[i]?=some x)(hx:Loc X.env.scope x)(he:PE X e te)(ho:PIp X op ti)(hf:X.fn x=true\/X.env.scope.names.lookup x=some .local:=by first|exact .inl rfl|exact .inr rfl|assumption):
  PS X (.AugAssign (.Name x bx) op e pos) (tAug i te ti):=by
 intro ae s σ H D I h;obtain⟨v,e1,h⟩:=h;obtain⟨m,hn,hl⟩:=I.loc;have mD:Vis X.env.scope x:=by rcases hx with k|k;exact .inl k;exact .inr (.inl k)
 obtain⟨u,r,l⟩:=hl i x v hi e1 mD;refine wpAny_AugAssign_Name ?_;have go:wpAny (model X.prog X.w) X.A (eval e X.env) (fun w bj=>wpAny (model X.prog X.w) X.A (inplaceOp op u w) (fun r b6=>wpAny (model X.prog X.w) X.A (storeName X.env x r) (fun _=>SP X ae D .next) X.xe b6) X.xe bj) X.xe s:=by
  refine thn (he ae s σ H _ I h) fun w s1 ⟨y,H1,I1,r1,q1⟩=>?_;refine thn (ho ae s1 σ H1 v y u w _ I1 r r1 q1) fun z s2 ⟨zv,H2,I2,r2,q2⟩=>?_;exact Mo I2 hN hi hx r2 (fun s3 I3=>⟨_,H2,I3,q2⟩) hf
 rcases l with ⟨hk,hm⟩|⟨hk,c,hc,dm⟩
 ·exact wpAny_loadName_local I.ok.kind hk hn hm go
 ·rcases hk with hk|hk
  ·exact wpAny_loadName_cell I.ok.kind hk hc dm go
  ·rcases hx with k|k
   ·have:X.env.scope.names.lookup x=some .free:=hk;rw[k]at this;cases this
   ·have:X.env.scope.names.lookup x=some .free:=hk;rw[k]at this;cases this
noncomputable def ipI (f:Int->Int->Int):TIp:=fun x y H Q=>∃i j,x=.int i/\y=.int j/\Q (.int (f i j)) H
def XI:PIp X .Add (ipI fun i j=>i+j):=by
 intro ae s σ H x y v u Q I r1 r2 h;obtain⟨i,j,e1,e2,q⟩:=h;subst e1;subst e2;obtain⟨t,rfl⟩:=r1;obtain⟨t',rfl⟩:=r2;exact iadd_int ⟨.int _,H,I.tok _,⟨_,rfl⟩,q⟩
end
section
variable {X:Cx} {pos:Pos}
noncomputable def Vc (c:TT)(tb:TS):TS:=fun D σ H=>∃W:Nat->St->Hp->Prop,(∃m,W m σ H)/\∀m σ H,W m σ H ->
 c σ H fun b H1=>if b=true then ∃N:St->Hp->Prop,(∀aj H',N aj H'->∃m',m'<m/\W m' aj H')/\tb {D with nx:=N,ct:=N,bk:=D.nx} σ H1 else D.nx σ H1
def F8 (hp:PassesOwn (model X.prog X.w) X.A X.env X.xe)(hc:PT X c tc)(hb:PSs X body tb):PS X (.While c body [] pos) (Vc tc tb):=by
 intro ae s σ H D I h;obtain⟨W,⟨m0,w0⟩,cV⟩:=h;refine wpAny_While (codeAny_whileLoop (fun n s'=>∃aj H',Inv X ae aj H' s'/\W n aj H') ?_ m0 ⟨σ,H,I,w0⟩);rintro n s1 ⟨dn,H1,I1,w1⟩;refine xc_ hp (thn (hc ae s1 dn H1 _ I1 (cV n dn H1 w1)) fun b s2 ⟨H2,I2,q2⟩=>?_);cases b with
 |true=>
  obtain⟨N,hN,q2⟩:=q2;rw[if_pos rfl];refine xc_ hp (thn (hb ae s2 dn H2 _ I2 q2) fun f s3 q3=>?_);cases f with
  |next=>
   obtain⟨aJ,H3,I3,n3⟩:=q3;obtain⟨m',hm,w3⟩:=hN aJ H3 n3;exact⟨m',hm,aJ,H3,I3,w3⟩
  |cont=>
   obtain⟨aJ,H3,I3,n3⟩:=q3;obtain⟨m',hm,w3⟩:=hN aJ H3 n3;exact⟨m',hm,aJ,H3,I3,w3⟩
  |brk=>exact q3
  |ret v=>exact q3
 |false=>
  rw[if_neg jy_];exact xY_ ⟨dn,H2,I2,q2⟩
end
structure It where
 go:Nat->Hp->Prop
 yld:Nat->Hp->V->Hp->Prop
 stop:Nat->Hp->Prop
noncomputable def FpOk (X:Cx)(ae:α7)(H:Hp)(b:Addr):Prop:=
 H b=none/\b≠X.env.locals/\b∉X.fs/\(b∈X.ex\/X.s₀.heap.objs.size<=b)/\(∀x c,X.env.cells.lookup x=some c->c≠b)/\∀p∈X.pn++ae,p.1≠b
def Inv.fpOk (I:Inv X ae σ H s)(hb:s.heap.objs.size<=b)(hn:H' b=none):FpOk X ae H' b:=by
 refine⟨hn,qF_ (jH_ I.lt hb),I.nofs hb,.inr (j1_ I.sz hb),fun x c e z=>?_,fun p hp z=>?_⟩
 ·obtain⟨v,q⟩:=I.cell x c e;exact absurd (jH_ q.lt (by rw[z];exact hb)) (qe_ _)
 ·exact absurd (jH_ (ju_ (I.pin p hp).1) (by rw[z];exact hb)) (qe_ _)
structure Turn (P:Program)(w:World)(K:α3)(tg:Expr)(J:It)(fp:List Addr)(it:Addr)(tn:Nat->Heap->Prop):Prop where
 mem:it∈fp
 obj:∀i h,tn i h->∀b∈fp,∃o,h.get? b=some o/\∀v,o.data ≠ .cell v
 keep:∀i h h',tn i h->(∀b∈fp,∀o,h.get? b=some o->h'.get? b=some o)->tn i h'
 item:∀(X:Cx),X.prog=P->X.w=w->X.K=K->X.calm=true->∀(i:Nat) (ae:α7) (s:Shared) (σ:St) (H:Hp) (E:Value->Shared->Prop),Inv X ae σ H s->(∀b∈fp,FpOk X ae H b)->tn i s.heap->J.go i H ->
  wpAny (model P w) X.A (pyNext (.ref it)) (fun r s1=>∃u,r=some u /\
   wpAny (model P w) X.A (letOwnedTupleGo tg (.ref it) u) (fun _ s2=>∃x H',Inv X ae σ H' s2/\RelV x u/\J.yld i H x H'/\tn (i+1) s2.heap/\∀b∈fp,H' b=none) E s1) E s
 done:∀(X:Cx),X.prog=P->X.w=w->X.K=K->X.calm=true->∀(i:Nat) (ae:α7) (s:Shared) (σ:St) (H:Hp) (E:Value->Shared->Prop),Inv X ae σ H s->(∀b∈fp,FpOk X ae H b)->tn i s.heap->J.stop i H ->
  wpAny (model P w) X.A (pyNext (.ref it)) (fun r s1=>r=none/\Inv X ae σ H s1) E s
 self:∀(A:Around) (i:Nat) (s:Shared) (Q:Value->Shared->Prop) (E:Value->Shared->Prop),tn i s.heap->Q (.ref it) s->wpAny (model P w) A (pyIter (.ref it)) Q E s
noncomputable abbrev TI:=St->Hp->(It->Hp->Prop)->Prop
noncomputable def PIE (X:Cx)(ae:α7)(σ:St)(tg:Expr)(R:It->Hp->Prop)(lh:Value)(s2:Shared):Prop:=
 ∃(it:Addr) (fp:List Addr) (tn:Nat->Heap->Prop) (J:It) (H':Hp),lh=.ref it/\Inv X ae σ H' s2/\Turn X.prog X.w X.K tg J fp it tn/\tn 0 s2.heap/\(∀b∈fp,FpOk X ae H' b)/\R J H'
noncomputable def PI (X:Cx)(tg iter:Expr)(wi:TI):Prop:=
 ∀(ae:α7) (s:Shared) (σ:St) (H:Hp) (R:It->Hp->Prop),Inv X ae σ H s->wi σ H R ->
  wpAny (model X.prog X.w) X.A (eval iter X.env) (fun v s1=>wpAny (model X.prog X.w) X.A (pyIter v) (PIE X ae σ tg R) X.xe s1) X.xe s
def Qn {it:Addr} (ho:s.heap.get? it=some o)(hc:o.cls=.type n)(hd:o.data=.fields vs)
    (hn:["enumerate","zip","dict_itemiterator","dict_reverseitemiterator","odict_iterator","itertools.zip_longest","itertools.pairwise"].contains n=false) (hQ:Q () s):wpAny M A (letOwnedTupleGo tg (.ref it) u) Q E s:=by
  unfold letOwnedTupleGo;cases tg<;>first
    | exact jt_ hQ
    | (cases u<;>first
        | exact jt_ hQ
        | (refine jg_ (wpAny_load ho ?_)
           rw[hc,hd];show wpAny M A (if (["enumerate","zip","dict_itemiterator","dict_reverseitemiterator","odict_iterator","itertools.zip_longest","itertools.pairwise"].contains n&&vs[0]? == some (rawInt _))=true then _ else _) Q E s;rw[if_neg (by intro h;rw[hn,pT]at h;cases h)];exact jt_ hQ))
noncomputable def Itl (K:α3)(a:Addr):It:=
 ⟨fun i H=>∃xs x,SqL K H a xs/\xs[i]?=some x,fun i H x H'=>H'=H/\∀xs,SqL K H a xs->xs[i]?=some x,fun i H=>∃xs,SqL K H a xs/\xs.length<=i⟩
noncomputable def Itt (K:α3)(a:Addr):It:=
 ⟨fun i H=>∃xs x,SqT K H a xs/\xs[i]?=some x,fun i H x H'=>H'=H/\∀xs,SqT K H a xs->xs[i]?=some x,fun i H=>∃xs,SqT K H a xs/\xs.length<=i⟩
noncomputable def Itr (lo:Int)(n:Nat):It:=⟨fun i _=>i<n,fun i H x H'=>H'=H/\x=.int (lo+i),fun i _=>n<=i⟩
def Nk {P:Program}{w:World}{K:α3}{tg:Expr}(a it:Addr):Turn P w K tg (Itl K a) [it] it (fun i h=>h.IsListIter it a i) where
 mem:=by simp
 obj:=fun i h st b hb=>by
  have e:b=it:=by simpa using hb
  subst e;obtain⟨o,e,c,d⟩:=st;exact⟨o,e,fun v z=>by rw[d]at z;cases z⟩
 keep:=fun i h h' st k=>st.at fun o e=>k it (by simp) o e
 item:=by
  intro X hP hw hK hc i ae s σ H E I hf st hg;subst hP hw hK;obtain⟨xs,x,hq,hx⟩:=hg;obtain⟨its,rv,p,hz⟩:=I.list hq;obtain⟨u,hu,ru⟩:=rv.get hx;obtain⟨f0,f1,f2,f3,f4,f5⟩:=hf it (by simp);refine wpAny_pyNext_list_item st p.isList (x:=u) (by simpa using hu) fun h' cu sb=>?_;have I1:Inv X ae σ H {s with heap:=h' }:=I.turned (t':=s.toks) (fun b o hb e=>(sb.2 b hb).trans e) f0 f1 f3 f4 f5;obtain⟨o,e,c,d⟩:=id cu;exact⟨u,rfl,Qn (s:={s with heap:=h' }) e c d (by decide) ⟨x,H,I1,ru,⟨rfl,fun ys hy=>by rw[I.list_inj hy hq];exact hx⟩,cu,fun b hb=>(hf b hb).1⟩⟩
 done:=by
  intro X hP hw hK hc i ae s σ H E I hf st hg;subst hP hw hK;obtain⟨xs,hq,hx⟩:=hg;obtain⟨its,rv,p,hz⟩:=I.list hq;obtain⟨f0,f1,f2,f3,f4,f5⟩:=hf it (by simp);have hl:=rv.length;exact wpAny_pyNext_list_end (I.ok.hd hc) st p.isList (by simp;lia) fun h' eb=>⟨rfl,I.turned (t':=s.toks) (fun b o hb e=>eb b o hb e) f0 f1 f3 f4 f5⟩
 self:=fun _ _ _ _ _ st h=>wpAny_pyIter_listiter st h
def LR {P:Program}{w:World}{K:α3}{tg:Expr}(a it:Addr):Turn P w K tg (Itt K a) [it] it (fun i h=>h.IsTupleIter it a i) where
 mem:=by simp
 obj:=fun i h st b hb=>by
  have e:b=it:=by simpa using hb
  subst e;obtain⟨o,e,c,d⟩:=st;exact⟨o,e,fun v z=>by rw[d]at z;cases z⟩
 keep:=fun i h h' st k=>st.at fun o e=>k it (by simp) o e
 item:=by
  intro X hP hw hK hc i ae s σ H E I hf st hg;subst hP hw hK;obtain⟨xs,x,hq,hx⟩:=hg;obtain⟨its,rv,p,hz⟩:=I.tuple hq;obtain⟨u,hu,ru⟩:=rv.get hx;obtain⟨f0,f1,f2,f3,f4,f5⟩:=hf it (by simp);refine wpAny_pyNext_tuple_item st (show s.heap.IsTuple a its.toArray from p) (x:=u) (by simpa using hu) fun h' cu sb=>?_;have I1:Inv X ae σ H {s with heap:=h' }:=I.turned (t':=s.toks) (fun b o hb e=>(sb.2 b hb).trans e) f0 f1 f3 f4 f5;obtain⟨o,e,c,d⟩:=id cu;exact⟨u,rfl,Qn (s:={s with heap:=h' }) e c d (by decide) ⟨x,H,I1,ru,⟨rfl,fun ys hy=>by rw[I.tuple_inj hy hq];exact hx⟩,cu,fun b hb=>(hf b hb).1⟩⟩
 done:=by
  intro X hP hw hK hc i ae s σ H E I hf st hg;subst hP hw hK;obtain⟨xs,hq,hx⟩:=hg;obtain⟨its,rv,p,hz⟩:=I.tuple hq;obtain⟨f0,f1,f2,f3,f4,f5⟩:=hf it (by simp);have hl:=rv.length;exact wpAny_pyNext_tuple_end (I.ok.hd hc) st (show s.heap.IsTuple a its.toArray from p) (by simp;lia) fun h' eb=>⟨rfl,I.turned (t':=s.toks) (fun b o hb e=>eb b o hb e) f0 f1 f3 f4 f5⟩
 self:=fun _ _ _ _ _ st h=>wpAny_pyIter_tupleiter st h
def Qo {P:Program}{w:World}{K:α3}{tg:Expr}(it:Addr)(lo:Int)(n:Nat):Turn P w K tg (Itr lo n) [it] it (fun i h=>IsRangeIter h it (lo+(i:Nat)*1) ((n:Int)-(i:Nat)) 1) where
 mem:=by simp
 obj:=fun i h st b hb=>by
  have e:b=it:=by simpa using hb
  subst e;exact⟨_,st,fun v z=>by
   have z':Data.fields _=Data.cell v:=z;cases z'⟩
 keep:=fun i h h' st k=>k it (by simp) _ st
 item:=by
  intro X hP hw hK hc i ae s σ H E I hf st hg;subst hP hw hK;obtain⟨f0,f1,f2,f3,f4,f5⟩:=hf it (by simp);have W:=Walks.range (prog:=X.prog) (w:=X.w) (I.ok.hd hc) it lo 1 n;refine W.item i s _ _ hg st fun v h' tk hv cu kk=>?_;obtain⟨t,rfl⟩:=hv;have I1:Inv X ae σ H {s with heap:=h',toks:=tk}:=I.turned (fun b o hb e=>kk b o (by simpa using hb) e) f0 f1 f3 f4 f5;refine⟨_,rfl,Qn (s:={s with heap:=h',toks:=tk}) (n := "range_iterator") cu rfl rfl (by decide) ⟨.int (lo+i),H,I1,⟨t,?_⟩,⟨rfl,rfl⟩,cu,fun b hb=>(hf b hb).1⟩⟩;rw[Int.mul_one]
 done:=by
  intro X hP hw hK hc i ae s σ H E I hf st hg;subst hP hw hK;obtain⟨f0,f1,f2,f3,f4,f5⟩:=hf it (by simp);exact wpAny_pyNext_range_end (I.ok.hd hc) st (by have:n<=i:=hg;lia) fun h' eb=>⟨rfl,I.turned (t':=s.toks) (fun b o hb e=>eb b o hb e) f0 f1 f3 f4 f5⟩
 self:=fun _ _ _ _ _ st h=>wpAny_pyIter_rangeiter st h
end L2
namespace L2
open PySem PySem.Spec PyProof.Rows
section
variable {X:Cx} {tg:Expr}
noncomputable def Wn (K:α3)(tl:TE):TI:=fun σ H R=>tl σ H fun x H1=>∃a,x=.ref a/\(∃xs,SqL K H1 a xs)/\R (Itl K a) H1
noncomputable def iTup (K:α3)(tl:TE):TI:=fun σ H R=>tl σ H fun x H1=>∃a,x=.ref a/\(∃xs,SqT K H1 a xs)/\R (Itt K a) H1
def Bc (hl:PE X l tl):PI X tg l (Wn X.K tl):=by
 intro ae s σ H R I h;refine thn (hl ae s σ H _ I h) fun v s1 ⟨x,H1,I1,r1,q1⟩=>?_;obtain⟨a,e,⟨xs,hq⟩,q⟩:=q1;subst e;cases r1;obtain⟨its,rv,p,hz⟩:=I1.list hq;refine wpAny_pyIter_list p.isList ?_;refine⟨s1.heap.objs.size,[s1.heap.objs.size],_,_,H1,rfl,I1.kept (t':=s1.toks) fun b o e=>jl_ _ e,Nk a _,⟨_,jw_ _ rfl,rfl,rfl⟩,fun b hb=>?_,q⟩;have e:b=s1.heap.objs.size:=by simpa using hb
 subst e;exact I1.fpOk (jh_ _) (I1.hok.fresh (jh_ _))
def Jt (hl:PE X l tl):PI X tg l (iTup X.K tl):=by
 intro ae s σ H R I h;refine thn (hl ae s σ H _ I h) fun v s1 ⟨x,H1,I1,r1,q1⟩=>?_;obtain⟨a,e,⟨xs,hq⟩,q⟩:=q1;subst e;cases r1;obtain⟨its,rv,p,hz⟩:=I1.tuple hq;refine wpAny_pyIter_tuple (show s1.heap.IsTuple a its.toArray from p) ?_;refine⟨s1.heap.objs.size,[s1.heap.objs.size],_,_,H1,rfl,I1.kept (t':=s1.toks) fun b o e=>jl_ _ e,LR a _,⟨_,jw_ _ rfl,rfl,rfl⟩,fun b hb=>?_,q⟩;have e:b=s1.heap.objs.size:=by simpa using hb
 subst e;exact I1.fpOk (jh_ _) (I1.hok.fresh (jh_ _))
def Pj {lo hi:Int} (I:Inv X ae σ H s)(h1 : -(2 ^ 62)<=lo)(h2:lo<2 ^ 62)(h3 : -(2 ^ 62)<=hi)(h4:hi<2 ^ 62)
  (q:R (Itr lo (hi-lo).toNat) H):wpAny (model X.prog X.w) X.A (pyIter (.ref s.heap.objs.size)) (PIE X ae σ tg R) E {s with heap:=s.heap.push {cls:=.type "range",data:=.fields #[.int lo t,.int hi u,.int 1 v]},toks:=tk}:=by
 refine wpAny_pyIter_range (IsRange.new ..) (small_one h1 h2 h3 h4) ?_;have I1:Inv X ae σ H {s with heap:=s.heap.push {cls:=.type "range",data:=.fields #[.int lo t,.int hi u,.int 1 v]},toks:=tk}:=I.kept fun b o e=>jl_ _ e;refine⟨(s.heap.push {cls:=.type "range",data:=.fields #[.int lo t,.int hi u,.int 1 v]}).objs.size,[(s.heap.push {cls:=.type "range",data:=.fields #[.int lo t,.int hi u,.int 1 v]}).objs.size],_,_,H,rfl,
  I1.kept (t':=tk) fun b o e=>jl_ _ e,Qo _ lo (hi-lo).toNat,?_,fun b hb=>?_,q⟩
 ·have e1:lo+((0:Nat):Int)*1=lo:=by simp
  have e2:(((hi-lo).toNat:Nat):Int)-((0:Nat):Int)=Builtin.Range.rangeSize lo hi 1:=by rw[rangeSize_one];split<;>lia
  show IsRangeIter _ _ (lo+((0:Nat):Int)*1) ((((hi-lo).toNat:Nat):Int)-((0:Nat):Int)) 1;rw[e1,e2];exact jw_ _ rfl
 ·have e:b=(s.heap.push {cls:=.type "range",data:=.fields #[.int lo t,.int hi u,.int 1 v]}).objs.size:=by simpa using hb
  subst e;exact I1.fpOk (jh_ _) (I1.hok.fresh (jh_ _))
noncomputable def XJ (ta:TA):TI:=fun σ H R=>ta σ H fun vs H1=>∃j:Int,vs=[.int j] /\ -(2 ^ 62)<=j/\j<2 ^ 62/\R (Itr 0 j.toNat) H1
noncomputable def XM (ta:TA):TI:=fun σ H R=>ta σ H fun vs H1=>∃i j:Int,vs=[.int i,.int j]/\(-(2 ^ 62)<=i/\i<2 ^ 62 /\ -(2 ^ 62)<=j/\j<2 ^ 62)/\R (Itr i (j-i).toNat) H1
def Bs (hg:Gl X "range")(hm:X.mg "range"=none)(ha:PA X [a] ta)(hs:starEach [a] X.env=[(false,eval a X.env)]:=by rfl):PI X tg (.Call (.Name "range" p) [a] [] pos) (XJ ta):=by
 intro ae s σ H R I h;refine Call_ (Js I hg hm boot_range (qk_ (thn (ha pos ae s σ H _ I h) fun us s1 ⟨vs,H1,I1,r1,q1⟩=>?_) hs rfl));obtain⟨j,e,q1,q2,q⟩:=q1;subst e;cases r1 with
 |cons r rr=>
  cases rr;obtain⟨t,rfl⟩:=r;exact call_range_1 (Pj I1 s!"" s!"" q1 q2 (by simpa using q))
def Rc (hg:Gl X "range")(hm:X.mg "range"=none)(ha:PA X [a,b] ta)(hs:starEach [a,b] X.env=[(false,eval a X.env),(false,eval b X.env)]:=by rfl)(eZ:starEach [b] X.env=[(false,eval b X.env)]:=by rfl):
  PI X tg (.Call (.Name "range" p) [a,b] [] pos) (XM ta):=by
 intro ae s σ H R I h;refine Call_ (Js I hg hm boot_range (qk_ (thn (ha pos ae s σ H _ I h) fun us s1 ⟨vs,H1,I1,r1,q1⟩=>?_) (by rw[hs,eZ]) (by rw[eZ];rfl)));obtain⟨i,j,e,⟨q1,q2,q3,q4⟩,q⟩:=q1;subst e;cases r1 with
 |cons r rr=>
  cases rr with
  |cons r' rr=>
   cases rr;obtain⟨t,rfl⟩:=r;obtain⟨t',rfl⟩:=r';exact call_range_2 (Pj I1 q1 q2 q3 q4 q)
noncomputable def tFor (wi:TI)(g:TG)(tb:TS):TS:=fun D σ H=>wi σ H fun J H1=>∃W:Nat->Nat->St->Hp->Prop,(∃m,W 0 m σ H1)/\∀i m σ H,W i m σ H ->
 (J.stop i H/\D.nx σ H)\/(J.go i H/\∃N:St->Hp->Prop,(∀aj H',N aj H'->∃m',m'<m/\W (i+1) m' aj H')/\∀x H',J.yld i H x H'->g x σ H' fun aq H2=>tb {D with nx:=N,ct:=N,bk:=D.nx} aq H2)
noncomputable def Nl (fp:List Addr)(h:Heap):α7:=fp.filterMap fun b=>(h.get? b).map fun o=>(b,o)
def F9 (hb:b∈fp)(e:h.get? b=some o):(b,o)∈Nl fp h:=zt_.mpr ⟨b,hb,by rw[e];rfl⟩
def Rf (hp:p∈Nl fp h):p.1∈fp/\h.get? p.1=some p.2:=by
 obtain⟨b,hb,e⟩:=zt_.mp hp;cases q:h.get? b with
 |none=>rw[q]at e;cases e
 |some o=>
  rw[q]at e;have e':(b,o)=p:=jB_ e;subst e';exact⟨hb,q⟩
def Inv.pinned (I:Inv X ae σ H s)(hf:∀b∈fp,FpOk X ae H b)(ho:∀b∈fp,∃o,s.heap.get? b=some o/\∀v,o.data ≠ .cell v):Inv X (ae++Nl fp s.heap) σ H s:=
 I.pins_of fun p hp=>(jx_.mp hp).elim (fun z=>I.pin p (j2_ _ z)) fun z=>by
  obtain⟨hb,e⟩:=Rf z;obtain⟨f0,f1,f2,_⟩:=hf p.1 hb;obtain⟨o,e',d⟩:=ho p.1 hb;rw[e]at e';cases e';exact⟨e,f0,f1,f2,d⟩
def Inv.unpinned (I:Inv X (ae++pl) σ H s):Inv X ae σ H s:=I.pins_of fun p hp=>I.pin p (j2_ _ (jF_ _ hp))
def Bh {iter:Expr} {wi:TI} (hp:PassesOwn (model X.prog X.w) X.A X.env X.xe)(hc:X.calm=true)(hi:PI X tg iter wi)(hg:PG X tg g)(hb:PSs X body tb)
  (hs:∀x,foldedSetIterable iter X.env x=pure x:=by intro _;rfl):PS X (.For tg iter body [] pos) (tFor wi g tb):=by
 intro ae s σ H D I h;refine wpAny_For (thn (hi ae s σ H _ I h) fun v s1 h1=>thn h1 fun lh s2 h2=>?_) hs;obtain⟨it,fp,tn,J,H2,e,I2,T,cG,f2,W,⟨m0,w0⟩,cV⟩:=h2;subst e
 -- what stays true of jQ iterator's objects through jQ loop
 have dH:∀{H':Hp},(∀b∈fp,H' b=none)->∀b∈fp,FpOk X ae H' b:=fun hn b hb=>⟨hn b hb,(f2 b hb).2⟩;refine codeAny_forLoop_any (fun n s'=>∃i aj H',Inv X ae aj H' s'/\tn i s'.heap/\(∀b∈fp,H' b=none)/\W i n aj H') ?_ m0 ⟨0,σ,H2,I2,cG,fun b hb=>(f2 b hb).1,w0⟩;rintro n s3 ⟨i,aJ,H3,I3,cg,lj,w3⟩;rcases cV i n aJ H3 w3 with ⟨stop,qn⟩|⟨go,N,hN,step⟩
 ·refine xc_ hp (thn (T.done X rfl rfl rfl hc i ae s3 aJ H3 X.xe I3 (dH lj) cg stop) fun r s4 ⟨hr,I4⟩=>?_);subst hr;exact xY_ ⟨aJ,H3,I4,qn⟩
 ·refine xc_ hp (thn (T.item X rfl rfl rfl hc i ae s3 aJ H3 X.xe I3 (dH lj) cg go) fun r s4 ⟨u,hr,h4⟩=>?_);subst hr;refine xc_ hp (thn h4 fun _ s5 ⟨x,H5,I5,r5,y5,gG,mE⟩=>?_);have mF:=I5.pinned (dH mE) (T.obj _ _ gG);refine xc_ hp (thn (hg _ s5 aJ H5 x u _ mF r5 (step x H5 y5)) fun _ s6 ⟨cw,H6,I6,q6⟩=>?_);refine xc_ hp (thn (hb _ s6 cw H6 _ I6 q6) fun f s7 q7=>?_);have again:∀{dq:St} {H7:Hp},Inv X (ae++Nl fp s5.heap) dq H7 s7->N dq H7->∃m,m<n/\∃i aj H',Inv X ae aj H' s7/\tn i s7.heap/\(∀b∈fp,H' b=none)/\W i m aj H':=fun {dq H7} I7 n7=>by
   obtain⟨m',hm,w7⟩:=hN dq H7 n7;refine⟨m',hm,i+1,dq,H7,I7.unpinned,T.keep _ _ _ gG fun b hb o e=>(I7.pin (b,o) (j2_ _ (j2_ _ (F9 hb e)))).1,fun b hb=>?_,w7⟩;obtain⟨o,e,d⟩:=T.obj _ _ gG b hb;exact (I7.pin (b,o) (j2_ _ (j2_ _ (F9 hb e)))).2.1
  cases f with
  |next=>obtain⟨dq,H7,I7,n7⟩:=q7;exact again I7 n7
  |cont=>obtain⟨dq,H7,I7,n7⟩:=q7;exact again I7 n7
  |brk=>obtain⟨dq,H7,I7,q7⟩:=q7;exact⟨dq,H7,I7.unpinned,q7⟩
  |ret v=>obtain⟨x7,dq,H7,I7,r7,q7⟩:=q7;exact⟨x7,dq,H7,I7.unpinned,r7,q7⟩
end
def TY {K:α3}{a:Addr}{xs:List V}{g:TG}{tb:TS}{D:Ends}{σ:St}{H:Hp}(Pv:Nat->St->Hp->Prop)(h0:Pv 0 σ H)(hl:∀i σ H,i<=xs.length->Pv i σ H->SqL K H a xs)
  (hs:∀i x σ H,xs[i]?=some x->Pv i σ H->g x σ H fun aq H2=>tb {D with nx:=Pv (i+1),ct:=Pv (i+1),bk:=D.nx} aq H2) (hd:∀σ H,Pv xs.length σ H->D.nx σ H):
  ∃W:Nat->Nat->St->Hp->Prop,(∃m,W 0 m σ H)/\∀i m σ H,W i m σ H ->
   ((Itl K a).stop i H/\D.nx σ H)\/((Itl K a).go i H/\∃N:St->Hp->Prop,(∀aj H',N aj H'->∃m',m'<m/\W (i+1) m' aj H')/\∀x H',(Itl K a).yld i H x H'->g x σ H' fun aq H2=>tb {D with nx:=N,ct:=N,bk:=D.nx} aq H2):=by
 refine⟨fun i m σ H=>m=xs.length-i/\i<=xs.length/\Pv i σ H,⟨xs.length,by simp,j9_ _,h0⟩,?_⟩;rintro i m σ H ⟨rfl,hi,p⟩;have q:=hl i σ H hi p;by_cases ay:i<xs.length
 ·refine .inr ⟨⟨xs,xs[i],q,by simp[ay]⟩,Pv (i+1),fun aj H' p'=>⟨xs.length-(i+1),by lia,rfl,ay,p'⟩,fun x H' y=>?_⟩;obtain⟨e,y⟩:=y;subst e;exact hs i x σ _ (y xs q) p
 ·have e:i=xs.length:=by lia
  subst e;exact .inl ⟨⟨xs,q,jh_ _⟩,hd σ H p⟩
def Wo {K:α3}{a:Addr}{xs:List V}{g:TG}{tb:TS}{D:Ends}{σ:St}{H:Hp}(Pv:Nat->St->Hp->Prop)(h0:Pv 0 σ H)(hl:∀i σ H,i<=xs.length->Pv i σ H->SqT K H a xs)
  (hs:∀i x σ H,xs[i]?=some x->Pv i σ H->g x σ H fun aq H2=>tb {D with nx:=Pv (i+1),ct:=Pv (i+1),bk:=D.nx} aq H2) (hd:∀σ H,Pv xs.length σ H->D.nx σ H):
  ∃W:Nat->Nat->St->Hp->Prop,(∃m,W 0 m σ H)/\∀i m σ H,W i m σ H ->
   ((Itt K a).stop i H/\D.nx σ H)\/((Itt K a).go i H/\∃N:St->Hp->Prop,(∀aj H',N aj H'->∃m',m'<m/\W (i+1) m' aj H')/\∀x H',(Itt K a).yld i H x H'->g x σ H' fun aq H2=>tb {D with nx:=N,ct:=N,bk:=D.nx} aq H2):=by
 refine⟨fun i m σ H=>m=xs.length-i/\i<=xs.length/\Pv i σ H,⟨xs.length,by simp,j9_ _,h0⟩,?_⟩;rintro i m σ H ⟨rfl,hi,p⟩;have q:=hl i σ H hi p;by_cases ay:i<xs.length
 ·refine .inr ⟨⟨xs,xs[i],q,by simp[ay]⟩,Pv (i+1),fun aj H' p'=>⟨xs.length-(i+1),by lia,rfl,ay,p'⟩,fun x H' y=>?_⟩;obtain⟨e,y⟩:=y;subst e;exact hs i x σ _ (y xs q) p
 ·have e:i=xs.length:=by lia
  subst e;exact .inl ⟨⟨xs,q,jh_ _⟩,hd σ H p⟩
def Rg {lo:Int}{n:Nat}{g:TG}{tb:TS}{D:Ends}{σ:St}{H:Hp}(Pv:Nat->St->Hp->Prop)(h0:Pv 0 σ H)
  (hs:∀i σ H,i<n->Pv i σ H->g (.int (lo+i)) σ H fun aq H2=>tb {D with nx:=Pv (i+1),ct:=Pv (i+1),bk:=D.nx} aq H2) (hd:∀σ H,Pv n σ H->D.nx σ H):
  ∃W:Nat->Nat->St->Hp->Prop,(∃m,W 0 m σ H)/\∀i m σ H,W i m σ H ->
   ((Itr lo n).stop i H/\D.nx σ H)\/((Itr lo n).go i H/\∃N:St->Hp->Prop,(∀aj H',N aj H'->∃m',m'<m/\W (i+1) m' aj H')/\∀x H',(Itr lo n).yld i H x H'->g x σ H' fun aq H2=>tb {D with nx:=N,ct:=N,bk:=D.nx} aq H2):=by
 refine⟨fun i m σ H=>m=n-i/\i<=n/\Pv i σ H,⟨n,by simp,j9_ _,h0⟩,?_⟩;rintro i m σ H ⟨rfl,hi,p⟩;by_cases ay:i<n
 ·refine .inr ⟨ay,Pv (i+1),fun aj H' p'=>⟨n-(i+1),by lia,rfl,ay,p'⟩,fun x H' y=>?_⟩;obtain⟨e,y⟩:=y;subst e y;exact hs i σ _ ay p
 ·have e:i=n:=by lia
  subst e;exact .inl ⟨jh_ _,hd σ H p⟩
end L2
namespace L2
open PySem PySem.Spec PyProof.Rows
noncomputable abbrev R2:=V->V->Hp->VK->Prop
noncomputable def OpR (X:Cx)(f:Value->Value->Sem Value)(r:R2):Prop:=
 ∀(ae:α7) (s:Shared) (σ:St) (H:Hp) (x y:V) (v u:Value) (Q:VK),Inv X ae σ H s->RelV x v->RelV y u->r x y H Q ->
  wpAny (model X.prog X.w) X.A (f v u) (EP X ae σ Q) X.xe s
noncomputable def UnR (X:Cx)(f:Value->Sem Value)(r:V->Hp->VK->Prop):Prop:=
 ∀(ae:α7) (s:Shared) (σ:St) (H:Hp) (x:V) (v:Value) (Q:VK),Inv X ae σ H s->RelV x v->r x H Q ->
  wpAny (model X.prog X.w) X.A (f v) (EP X ae σ Q) X.xe s
noncomputable def DA (X:Cx)(f:Value)(r:List V->Hp->VK->Prop):Prop:=
 ∀(ae:α7) (s:Shared) (σ:St) (H:Hp) (xs:List V) (us:List Value) (Q:VK),Inv X ae σ H s->Vals xs us->r xs H Q ->
  wpAny (model X.prog X.w) X.A (call f us) (EP X ae σ Q) X.xe s
noncomputable def tOp (r:R2)(ta tb:TE):TE:=fun σ H Q=>ta σ H fun x H1=>tb σ H1 fun y H2=>r x y H2 Q
noncomputable def tUn (r:V->Hp->VK->Prop)(ta:TE):TE:=fun σ H Q=>ta σ H fun x H1=>r x H1 Q
noncomputable def rI (C:Int->Int->Prop)(g:Int->Int->V):R2:=fun x y H Q=>∃i j,x=.int i/\y=.int j/\C i j/\Q (g i j) H
noncomputable def rI0 (g:Int->Int->V):R2:=fun x y H Q=>∃i j,x=.int i/\y=.int j/\Q (g i j) H
noncomputable def rU (g:Int->V):V->Hp->VK->Prop:=fun x H Q=>∃i,x=.int i/\Q (g i) H
section
variable {X:Cx} {a b c:Expr} {ta tb tc:TE} {pos:Pos}
def binT (ha:PE X a ta)(hb:PE X b tb){ae:α7}{s:Shared}{σ:St}{H:Hp}{R:V->V->Hp->Prop}(I:Inv X ae σ H s)
  (h:ta σ H fun x H1=>tb σ H1 fun y H2=>R x y H2) {Q:Value->Shared->Prop} {f:Value->Value->Sem Value}
  (hf:∀v u s2 x y H2,Inv X ae σ H2 s2->RelV x v->RelV y u->R x y H2->wpAny (model X.prog X.w) X.A (f v u) Q X.xe s2):
  wpAny (model X.prog X.w) X.A (eval a X.env) (fun v s₁=>wpAny (model X.prog X.w) X.A (eval b X.env) (fun u bj=>wpAny (model X.prog X.w) X.A (f v u) Q X.xe bj) X.xe s₁) X.xe s:=by
 refine thn (ha ae s σ H _ I h) fun v s1 ⟨x,H1,I1,r1,q1⟩=>?_;refine thn (hb ae s1 σ H1 _ I1 q1) fun u s2 ⟨y,H2,I2,r2,q2⟩=>?_;exact hf v u s2 x y H2 I2 r1 r2 q2
def AL (ho:OpR X (binaryOp op) r)(ha:PE X a ta)(hb:PE X b tb):PE X (.BinOp a op b pos) (tOp r ta tb):=by
 intro ae s σ H Q I h;exact wpAny_BinOp (binT ha hb I h fun v u s2 x y H2 I2 rx ry q=>ho ae s2 σ H2 x y v u Q I2 rx ry q)
def Ov (ho:UnR X (unaryOp op) r)(ha:PE X a ta):PE X (.UnaryOp op a pos) (tUn r ta):=by
 intro ae s σ H Q I h;exact UnaryOp_ (thn (ha ae s σ H _ I h) fun v s1 ⟨x,H1,I1,r1,q1⟩=>ho ae s1 σ H1 x v Q I1 r1 q1)
def opI {f:Value->Value->Sem Value}{C:Int->Int->Prop}{g:Int->Int->Int}
  (rule:∀(i j:Int) (t u:Tok) (s:Shared) (Q:Value->Shared->Prop) (E:Value->Shared->Prop),C i j->Q (.int (g i j) s.toks) {s with toks:=s.toks+1}->wpAny (model X.prog X.w) X.A (f (.int i t) (.int j u)) Q E s):
  OpR X f (rI C fun i j=>.int (g i j)):=by
 intro ae s σ H x y v u Q I rx ry h;obtain⟨i,j,rfl,rfl,hc,q⟩:=h;obtain⟨t,rfl⟩:=rx;obtain⟨t',rfl⟩:=ry;exact rule i j t t' s _ _ hc ⟨.int (g i j),H,I.tok _,⟨_,rfl⟩,q⟩
def opI0 {f:Value->Value->Sem Value}{g:Int->Int->Int}
  (rule:∀(i j:Int) (t u:Tok) (s:Shared) (Q:Value->Shared->Prop) (E:Value->Shared->Prop),Q (.int (g i j) s.toks) {s with toks:=s.toks+1}->wpAny (model X.prog X.w) X.A (f (.int i t) (.int j u)) Q E s):
  OpR X f (rI0 fun i j=>.int (g i j)):=by
 intro ae s σ H x y v u Q I rx ry h;obtain⟨i,j,rfl,rfl,q⟩:=h;obtain⟨t,rfl⟩:=rx;obtain⟨t',rfl⟩:=ry;exact rule i j t t' s _ _ ⟨.int (g i j),H,I.tok _,⟨_,rfl⟩,q⟩
def opB0 {f:Value->Value->Sem Value}{g:Int->Int->Bool}
  (rule:∀(i j:Int) (t u:Tok) (s:Shared) (Q:Value->Shared->Prop) (E:Value->Shared->Prop),Q (.bool (g i j)) s->wpAny (model X.prog X.w) X.A (f (.int i t) (.int j u)) Q E s):
  OpR X f (rI0 fun i j=>.bl (g i j)):=by
 intro ae s σ H x y v u Q I rx ry h;obtain⟨i,j,rfl,rfl,q⟩:=h;obtain⟨t,rfl⟩:=rx;obtain⟨t',rfl⟩:=ry;exact rule i j t t' s _ _ ⟨.bl (g i j),H,I,rfl,q⟩
noncomputable def CDiv (i j:Int):Prop:=0<j/\j<1073741824
noncomputable def CPow (i j:Int):Prop:=0<=j/\j<=1000000/\i.natAbs<2 ^ 64
noncomputable def CMul (i j:Int):Prop:=(-(2 ^ 64)<i/\i<2 ^ 64)\/(-(2 ^ 64)<j/\j<2 ^ 64)
def CMul.ok (h:CMul i j):IntMulOk i j:=by
 rcases h with ⟨h1,h2⟩|⟨h1,h2⟩
 ·exact .of_left (intBits_le_64 h1 h2)
 ·exact .of_right (intBits_le_64 h1 h2)
def DD:OpR X (binaryOp .Add) (rI0 fun i j=>.int (i+j)):=opI0 fun _ _ _ _ _ _ _ q=>add_int q
def Pk:OpR X (binaryOp .Sub) (rI0 fun i j=>.int (i-j)):=opI0 fun _ _ _ _ _ _ _ q=>sub_int q
def Ju:OpR X (binaryOp .Mult) (rI CMul fun i j=>.int (i*j)):=opI fun _ _ _ _ _ _ _ hc q=>mul_int q hc.ok
def Mq:OpR X (binaryOp .FloorDiv) (rI CDiv fun i j=>.int (i / j)):=opI fun i j _ _ _ _ _ hc q=>by
 have h1:(0:Int)<j:=hc.1;have h2:j<1073741824:=hc.2;exact floordiv_int s!"" (by rw[Int.fdiv_eq_ediv_of_nonneg i s!""];exact q) (.inl (PyProof.noPylong_small s!""))
def EM:OpR X (binaryOp .Mod) (rI (fun _ j=>0<j) fun i j=>.int (i%j)):=opI fun i j _ _ _ _ _ hc q=>by
 have h1:(0:Int)<j:=hc;exact mod_int' s!"" (by rw[Int.fmod_eq_emod_of_nonneg i s!""];exact q)
def XN:OpR X (binaryOp .Pow) (rI CPow fun i j=>.int (i ^ j.toNat)):=opI fun _ _ _ _ _ _ _ hc q=>pow_int_small hc.1 hc.2.1 hc.2.2 q
def unI {f:Value->Sem Value}{g:Int->Int}
  (rule:∀(i:Int) (t:Tok) (s:Shared) (Q:Value->Shared->Prop) (E:Value->Shared->Prop),Q (.int (g i) s.toks) {s with toks:=s.toks+1}->wpAny (model X.prog X.w) X.A (f (.int i t)) Q E s):
  UnR X f (rU fun i=>.int (g i)):=by
 intro ae s σ H x v Q I rx h;obtain⟨i,rfl,q⟩:=h;obtain⟨t,rfl⟩:=rx;exact rule i t s _ _ ⟨.int (g i),H,I.tok _,⟨_,rfl⟩,q⟩
def Kq:UnR X (unaryOp .USub) (rU fun i=>.int (-i)):=unI fun _ _ _ _ _ q=>neg_int q
end
noncomputable def scal:V->V->Bool
 |.non,.non=>true | .non,.int _=>true | .int _,.non=>true | .non,.bl _=>true | .bl _,.non=>true | .non,.str _=>true | .str _,.non=>true
 |.int _,.int _=>true | .bl _,.bl _=>true | .str _,.str _=>true | .byt _,.byt _=>true
 |.int _,.str _=>true | .str _,.int _=>true | .bl _,.str _=>true | .str _,.bl _=>true
 |_,_=>false
noncomputable def rEq:R2:=fun x y H Q=>scal x y=true/\Q (.bl (decide (x=y))) H
noncomputable def rNe:R2:=fun x y H Q=>scal x y=true/\Q (.bl (!decide (x=y))) H
def Rh : decide (V.int i=V.int j)=(i==j):=by
 rw[qr_];simp
def Vd : decide (V.bl i=V.bl j)=(i==j):=by
 rw[qr_];simp
def Ri : decide (V.str i=V.str j)=(i==j):=by
 rw[qr_];simp
def Rj : decide (V.byt i=V.byt j)=(i.toList==j.toList):=by
 rw[qr_];cases i;cases j;simp
section
variable {X:Cx} {a b c:Expr} {ta tb tc:TE} {pos:Pos}
def AU (I:Inv X ae σ H s)(q:Q (.bl k) H)(e:k=k'):EP X ae σ Q (.bool k') s:=by
 subst e;exact⟨.bl k,H,I,rfl,q⟩
def IL:OpR X (compareOp .Eq) rEq:=by
 intro ae s σ H x y v u Q I rx ry h;obtain⟨hs,q⟩:=h;cases x with
 |non=>
  cases rx;cases y with
  |non=>cases ry;exact qU (AU I q (by simp))
  |bl j=>cases ry;exact qV (AU I q (by simp))
  |int j=>obtain⟨t',rfl⟩:=ry;exact rn (AU I q (by simp))
  |str j=>obtain⟨t',rfl⟩:=ry;exact rp (AU I q (by simp))
  |_=>exact absurd (show false=true from hs) jy_
 |bl i=>
  cases rx;cases y with
  |non=>cases ry;exact qW (AU I q (by simp))
  |bl j=>cases ry;exact eq_bool (AU I q Vd)
  |str j=>obtain⟨t',rfl⟩:=ry;exact qX (AU I q (by simp))
  |_=>exact absurd (show false=true from hs) jy_
 |int i=>
  obtain⟨t,rfl⟩:=rx;cases y with
  |non=>cases ry;exact rq (AU I q (by simp))
  |int j=>obtain⟨t',rfl⟩:=ry;exact eq_int (AU I q Rh)
  |str j=>obtain⟨t',rfl⟩:=ry;exact rA (AU I q (by simp))
  |_=>exact absurd (show false=true from hs) jy_
 |str i=>
  obtain⟨t,rfl⟩:=rx;cases y with
  |non=>cases ry;exact rB (AU I q (by simp))
  |bl j=>cases ry;exact qY (AU I q (by simp))
  |int j=>obtain⟨t',rfl⟩:=ry;exact rC (AU I q (by simp))
  |str j=>obtain⟨t',rfl⟩:=ry;exact eq_str (AU I q Ri)
  |_=>exact absurd (show false=true from hs) jy_
 |byt i=>
  obtain⟨t,rfl⟩:=rx;cases y with
  |byt j=>obtain⟨t',rfl⟩:=ry;exact tq (AU I q Rj)
  |_=>exact absurd (show false=true from hs) jy_
 |_=>cases y<;>exact absurd (show false=true from hs) jy_
def G8:OpR X (compareOp .NotEq) rNe:=by
 intro ae s σ H x y v u Q I rx ry h;obtain⟨hs,q⟩:=h;cases x with
 |non=>
  cases rx;cases y with
  |non=>cases ry;exact qZ (AU I q (by simp))
  |bl j=>cases ry;exact q9 (AU I q (by simp))
  |int j=>obtain⟨t',rfl⟩:=ry;exact rD (AU I q (by simp))
  |str j=>obtain⟨t',rfl⟩:=ry;exact rE (AU I q (by simp))
  |_=>exact absurd (show false=true from hs) jy_
 |bl i=>
  cases rx;cases y with
  |non=>cases ry;exact rh (AU I q (by simp))
  |bl j=>cases ry;exact ne_bool (AU I q (qn_ not Vd))
  |str j=>obtain⟨t',rfl⟩:=ry;exact rj (AU I q (by simp))
  |_=>exact absurd (show false=true from hs) jy_
 |int i=>
  obtain⟨t,rfl⟩:=rx;cases y with
  |non=>cases ry;exact rF (AU I q (by simp))
  |int j=>obtain⟨t',rfl⟩:=ry;exact ne_int (AU I q (qn_ not Rh))
  |str j=>obtain⟨t',rfl⟩:=ry;exact rG (AU I q (by simp))
  |_=>exact absurd (show false=true from hs) jy_
 |str i=>
  obtain⟨t,rfl⟩:=rx;cases y with
  |non=>cases ry;exact rH (AU I q (by simp))
  |bl j=>cases ry;exact rk (AU I q (by simp))
  |int j=>obtain⟨t',rfl⟩:=ry;exact rJ (AU I q (by simp))
  |str j=>obtain⟨t',rfl⟩:=ry;exact ne_str (AU I q (qn_ not Ri))
  |_=>exact absurd (show false=true from hs) jy_
 |byt i=>
  obtain⟨t,rfl⟩:=rx;cases y with
  |byt j=>obtain⟨t',rfl⟩:=ry;exact tD (AU I q (qn_ not Rj))
  |_=>exact absurd (show false=true from hs) jy_
 |_=>cases y<;>exact absurd (show false=true from hs) jy_
def Nm:OpR X (compareOp .Lt) (rI0 fun i j=>.bl (decide (i<j))):=opB0 fun _ _ _ _ _ _ _ q=>lt_int q
def IM:OpR X (compareOp .LtE) (rI0 fun i j=>.bl (decide (i<=j))):=opB0 fun _ _ _ _ _ _ _ q=>le_int q
def Wq:OpR X (compareOp .Gt) (rI0 fun i j=>.bl (decide (j<i))):=opB0 fun _ _ _ _ _ _ _ q=>gt_int q
def Rk:OpR X (compareOp .In) (fun x y H Q=>∃i j,x=.str i/\y=.str j/\Q (.bl (!(Builtin.Str.occurrences j i 0 j.length 1).isEmpty)) H):=by
 intro ae s σ H x y v u Q I rx ry h;obtain⟨i,j,rfl,rfl,q⟩:=h;obtain⟨t,rfl⟩:=rx;obtain⟨t',rfl⟩:=ry;exact in_str (AU I q rfl)
def Kr:OpR X (compareOp .Is) (fun x y H Q=>y=.non/\Q (.bl (decide (x=.non))) H):=by
 intro ae s σ H x y v u Q I rx ry h;obtain⟨rfl,q⟩:=h;cases ry;refine is_none_gen (AU I q ?_);cases x<;>first
  | (cases rx;rfl)
  | (obtain⟨t,rfl⟩:=rx;rfl)
def Rl:OpR X (compareOp .IsNot) (fun x y H Q=>y=.non/\Q (.bl (!decide (x=.non))) H):=by
 intro ae s σ H x y v u Q I rx ry h;obtain⟨rfl,q⟩:=h;cases ry;refine isnot_none_gen (AU I q ?_);cases x<;>first
  | (cases rx;rfl)
  | (obtain⟨t,rfl⟩:=rx;rfl)
def AG (b:Expr) (h:op ≠ .In:=by decide)(h2:op ≠ .NotIn:=by decide):behindInMarks op b=false:=by
 have e1:(op==CmpOp.In)=false:=by cases op<;>first|rfl|exact absurd rfl h
 have e2:(op==CmpOp.NotIn)=false:=by cases op<;>first|rfl|exact absurd rfl h2
 cases b<;>simp[behindInMarks,e1,e2]
def Kt (ho:OpR X (compareOp op) r)(ha:PE X a ta)(hb:PE X b tb)(hm:behindInMarks op b=false):PE X (.Compare a [op] [b] pos) (tOp r ta tb):=by
 intro ae s σ H Q I h;exact wpAny_Compare1 (binT ha hb I h fun v u s2 x y H2 I2 rx ry q=>ho ae s2 σ H2 x y v u Q I2 rx ry q) hm
noncomputable def Rm (t:TE):TT:=fun σ H Q=>t σ H fun x H'=>∃k,x=.bl k/\Q k H'
def Au (ho:OpR X (compareOp op) r)(ha:PE X a ta)(hb:PE X b tb)(hm:behindInMarks op b=false):PT X (.Compare a [op] [b] pos) (Rm (tOp r ta tb)):=by
 intro ae s σ H Q I h;refine wpAny_isTrue_Compare1 (thn (ha ae s σ H _ I h) fun v s1 ⟨x,H1,I1,r1,q1⟩=>thn (hb ae s1 σ H1 _ I1 q1) fun u s2 ⟨y,H2,I2,r2,q2⟩ =>
  thn (ho ae s2 σ H2 x y v u _ I2 r1 r2 q2) fun c s3 ⟨z,H3,I3,r3,k,e,q3⟩=>?_) hm
 subst e;cases r3;exact qV_ ⟨H3,I3,q3⟩
noncomputable def Ro (r r':R2)(ta tb tc:TE):TE:=fun σ H Q=>ta σ H fun x H1=>tb σ H1 fun y H2=>r x y H2 fun z H3=>∃k,z=.bl k /\
 (if k=true then tc σ H3 fun w' H4=>r' y w' H4 Q else Q (.bl false) H3)
def Mr (ho:OpR X (compareOp op) r)(cc:OpR X (compareOp jR) r')(ha:PE X a ta)(hb:PE X b tb)(hc:PE X c tc)
  (hm:lastMarks [op,jR] [b,c]=false:=by with_unfolding_all rfl):PE X (.Compare a [op,jR] [b,c] pos) (Ro r r' ta tb tc):=by
 intro ae s σ H Q I h;refine Compare_chain (thn (ha ae s σ H _ I h) fun v s1 ⟨x,H1,I1,r1,q1⟩=>chain_link (thn (hb ae s1 σ H1 _ I1 q1) fun u s2 ⟨y,H2,I2,r2,q2⟩ =>
  thn (ho ae s2 σ H2 x y v u _ I2 r1 r2 q2) fun d s3 ⟨z,H3,I3,r3,k,e,q3⟩=>?_)) hm
 subst e;cases r3;refine qV_ ?_;cases k with
 |false=>exact ite_ff ⟨.bl false,H3,I3,rfl,q3⟩
 |true=>exact ite_tt (chain_last (thn (hc ae s3 σ H3 _ I3 q3) fun w' s4 ⟨z',H4,I4,r4,q4⟩=>cc ae s4 σ H4 y z' u w' Q I4 r2 r4 q4))
def Kb (ho:OpR X (compareOp op) r)(cc:OpR X (compareOp jR) r')(ha:PE X a ta)(hb:PE X b tb)(hc:PE X c tc)
  (hm:lastMarks [op,jR] [b,c]=false:=by with_unfolding_all rfl):PT X (.Compare a [op,jR] [b,c] pos) (Rm (Ro r r' ta tb tc)):=by
 intro ae s σ H Q I h;refine isTrue_chain (thn (ha ae s σ H _ I h) fun v s1 ⟨x,H1,I1,r1,q1⟩=>test_link (thn (hb ae s1 σ H1 _ I1 q1) fun u s2 ⟨y,H2,I2,r2,q2⟩ =>
  thn (ho ae s2 σ H2 x y v u _ I2 r1 r2 q2) fun d s3 ⟨z,H3,I3,r3,k,e,q3⟩=>?_)) hm
 subst e;cases r3;refine qV_ ?_;cases k with
 |false=>
  obtain⟨k',e',q'⟩:=q3;cases e';exact ite_ff ⟨H3,I3,q'⟩
 |true=>
  refine ite_tt (test_last (thn (hc ae s3 σ H3 _ I3 q3) fun w' s4 ⟨z',H4,I4,r4,q4⟩=>thn (cc ae s4 σ H4 y z' u w' _ I4 r2 r4 q4) fun d' s5 ⟨z2,H5,I5,r5,k2,e2,q5⟩=>?_));subst e2;cases r5;exact qV_ ⟨H5,I5,q5⟩
def LS:(sizeLine:Nat)<2 ^ 63:=by rw[sizeLine_eq];decide
def BX:OpR X (binaryOp .Add) (fun x y H Q=>∃i j,x=.str i/\y=.str j/\i.length+j.length<=sizeLine/\Q (.str (i++j)) H):=by
 intro ae s σ H x y v u Q I rx ry h;obtain⟨i,j,rfl,rfl,hz,q⟩:=h;obtain⟨t,rfl⟩:=rx;obtain⟨t',rfl⟩:=ry;exact add_str (fun t' tk=>⟨.str (i++j),H,I.tok _,⟨_,rfl⟩,q⟩) hz
def vals1 (r:Vals [x] us):∃u,us=[u]/\RelV x u:=by
 cases r with
 |cons r1 r2=>cases r2;exact⟨_,rfl,r1⟩
def vals2 (r:Vals [x,y] us):∃u w',us=[u,w']/\RelV x u/\RelV y w':=by
 cases r with
 |cons r1 r2=>
  cases r2 with
  |cons r3 r4=>cases r4;exact⟨_,_,rfl,r1,r3⟩
def Rp (hc:X.calm=true):DA X (.builtin "min") (fun xs H Q=>∃i j,xs=[.int i,.int j]/\Q (.int (if j<i then j else i)) H):=by
 intro ae s σ H xs us Q I r h;obtain⟨i,j,rfl,q⟩:=h;obtain⟨u,w',rfl,⟨t,rfl⟩,⟨t',rfl⟩⟩:=vals2 r;refine min_two_ints (I.ok.hd hc) fun h' tk k=>⟨_,H,I.kept k,?_,q⟩;by_cases hj:j<i
 ·rw[if_pos hj,if_pos hj];exact⟨_,rfl⟩
 ·rw[if_neg hj,if_neg hj];exact⟨_,rfl⟩
def Nn:DA X (.type "int") (fun xs H Q=>(∃i,xs=[.int i]/\Q (.int i) H) \/ ∃k,xs=[.bl k]/\Q (.int (if k then 1 else 0)) H):=by
 intro ae s σ H xs us Q I r h;rcases h with ⟨i,rfl,q⟩|⟨k,rfl,q⟩
 ·obtain⟨u,rfl,t,rfl⟩:=vals1 r;exact call_int_int ⟨.int i,H,I,⟨_,rfl⟩,q⟩
 ·obtain⟨u,rfl,r1⟩:=vals1 r;cases r1;exact call_int_bool ⟨.int (if k then 1 else 0),H,I.tok _,⟨_,rfl⟩,q⟩
end
end L2
namespace L2
open PySem PySem.Spec PyProof.Rows
structure ObjM (h:Heap)(x dx C:Addr)(mA:Str->α5):Prop where
 obj:h.get? x=some (oF C dx)
 ns:h.Ns1 dx mA
 ne:dx≠x
def Rq {h:Heap}{dx:Addr}{mA:Str->α5}(n:h.Ns1 dx mA):∃od,h.get? dx=some od/\∀name,oW name od=some (mA name):=by
 obtain⟨o,es,ep,ho,hd,hk,_,hm⟩:=n;refine⟨o,ho,fun name=>?_⟩;have e:=hm name;unfold nsFind findBy at e;rw[<-Array.find?_toList]at e;unfold oW;rw[hd];dsimp only;split
 ·rename_i y q
  rw[q]at e;exact qn_ some e
 ·rename_i q
  rw[q]at e;have a:es.toList.any (·.refKey)=false:=by
   rw[List.any_eq_false];intro y hy;obtain⟨z,t,hkey⟩:=hk y (Array.mem_toList_iff.mp hy);simp[DictEntry.refKey,hkey]
  have a':¬ es.toList.any (·.refKey)=true:=by rw[a];exact jy_
  rw[if_neg a'];exact qn_ some e
def ObjM.look (I:ObjM h x dx C mA):∃od,tU h x (oF C dx) C (some od)/\∀name,oW name od=some (mA name):=
 let ⟨od,ho,hl⟩:=Rq I.ns
 ⟨od,⟨I.obj,rfl,rfl,ho⟩,hl⟩
section
variable {prog:Program} {w:World} {A:Around} {E:Value->Shared->Prop} {s:Shared} {K:α3} {x dx C f:Addr} {mA:Str->α5} {name:Str} {v:Value}
def Wr (X:K.In s.heap)(I:ObjM s.heap x dx C mA)(hg:oG K C name=true)(hh:oJ K C=true)
  (ha:ot K (.ref C) name=some none) (hv:mA name=some v) (dI:qz v=true) (h:Q v {s with toks:=s.toks+1}):
  wpAny (model prog w) A (getAttr (.ref x) name expr) Q E s:=by
 obtain⟨od,J,hl⟩:=I.look;exact sR X J (zo_ hg).1 (sH hh ha rfl (by rw[hl,hv])) dI h
def TZ (X:K.In s.heap)(I:ObjM s.heap x dx C mA)(hg:oG K C name=true)
  (hf:ot K (.ref C) name=some (some (.ref f))) (ht:qh K (.ref f)=true) (hv:mA name=none) (h:Q (.ref f,[.ref x]) s):
  wpAny (model prog w) A (getMethod (.ref x) name pl) Q E s:=by
 obtain⟨od,J,hl⟩:=I.look;exact sS X J (zo_ hg).1 (zo_ hg).2 hf (zA_.mp ht) (by show (oW name od).map (·.isSome)=some false;rw[hl,hv];rfl) h
def Ws (X:K.In s.heap)(I:ObjM s.heap x dx C mA)
  (hs:ot K (.ref C) "__setattr__"=some (some (.builtin "object.__setattr__"))) (hp:oM K C=true) (ht:pI K C name=some none) (hh:oJ K C=true)
  (hw:qg mA ns) (hsz:ns.length<=sizeLine)
  (h:∀h',ObjM h' x dx C (fun y=>if y=name then some v else mA y)->Heap.SameBut dx s.heap h'->Q () {s with heap:=h',toks:=s.toks+2}):
  wpAny (model prog w) A (setAttr (.ref x) name v) Q E s:=by
 obtain⟨od,J,hl⟩:=I.look;refine sV X J hs (tE (s:={s with toks:=s.toks+1}) (r:=none) X J hp ht fun b=>?_);obtain⟨cd,hc,mz⟩:=tF hh;have hx:s.heap.get? x=some ⟨.ref C,some dx,.plain,#[]⟩:=I.obj;refine jg_ (jt_ (jg_ (jg_ (wpAny_loadPart hx (jg_ (PySem.W.Looks.here (s:={s with toks:=s.toks+1}) (sI X hc) ?_))))));rw[mz];refine jt_ (a:=some dx) (jg_ (jt_ (jg_ ?_)));refine wpAny_nsSet1 (s:={s with toks:=s.toks+1}) I.ns fun h' dt eZ=>?_;obtain⟨oD,esD,epD,hoD,hdD,hcD⟩:=dt.count (PySem.Within.cons name v hw);refine jg_ (wpAny_lookBehind hoD (by rw[hdD];exact pastItsLine_dict (j1_ hcD (by rw[jD_];lia))) ?_);exact jt_ (h _ ⟨(eZ.2 _ (qm_ I.ne)).trans I.obj,dt,I.ne⟩ eZ)
def T1 {kw:List (Str×Value)}(X:K.In s.heap)(hm:qI K C=true)
  (hi:ot K (.ref C) "__init__"=some (some (.ref f))) (hf:tV K (.ref f)=some (.type "function"))
  (h:codeAny (model prog w) (A.under (.builtin "type.__call__" ⟨.ref C::vs,kw⟩)) (.call (.ref f) ⟨.ref (s.heap.objs.size+1)::vs,kw⟩) (tG (s.heap.objs.size+1) R)
   {s with heap:=(s.heap.push oB).push (oF C s.heap.objs.size)}):
  codeAny (model prog w) A (.call (.ref C) ⟨vs,kw⟩) R s:=by
 obtain⟨hh,g,d,t,os⟩:=s;exact sX (tH X hm) (sx X hi) (fun self=>tP X self hf) (.inl rfl) h
end
noncomputable def putF (f:Str)(v:V):List (Str×V)->List (Str×V)
 |[]=>[(f,v)]
 | (g,x)::r=>if g=f then (g,v)::r else (g,x)::putF f v r
def BP (f g:Str)(v:V):∀fs:List (Str×V),(putF f v fs).lookup g=if g=f then some v else fs.lookup g
 |[]=>by
  show oH g [(f,v)]=_;by_cases h:g=f
  ·have hb:(g==f)=true:=zA_.mpr h;simp only[oH,hb,if_pos h]
  ·have hb:(g==f)=false:=xl_.mpr h;simp only[oH,hb,if_neg h]
 | (k,x)::r=>by
  have ih:=BP f g v r;rw[show putF f v ((k,x)::r)=(if k=f then (k,v)::r else (k,x)::putF f v r) from rfl];by_cases hk:k=f
  ·rw[if_pos hk];by_cases h:g=k
   ·have hb:(g==k)=true:=zA_.mpr h;simp only[oH,hb,if_pos (h.trans hk)]
   ·have hb:(g==k)=false:=xl_.mpr h;simp only[oH,hb,if_neg (fun e:g=f=>h (e.trans hk.symm))]
  ·rw[if_neg hk];by_cases h:g=k
   ·have hb:(g==k)=true:=zA_.mpr h;simp only[oH,hb,if_neg (fun e:g=f=>hk (h.symm.trans e))]
   ·have hb:(g==k)=false:=xl_.mpr h;simp only[oH,hb];exact ih
def Ku (f:Str)(v:V):∀fs:List (Str×V),f∈(putF f v fs).map (·.1)/\∀g,g∈fs.map (·.1)->g∈(putF f v fs).map (·.1)
 |[]=>⟨by simp[putF],fun g h=>by simp at h⟩
 | (k,x)::r=>by
  obtain⟨i1,i2⟩:=Ku f v r;rw[show putF f v ((k,x)::r)=(if k=f then (k,v)::r else (k,x)::putF f v r) from rfl];by_cases hk:k=f
  ·rw[if_pos hk];subst hk;exact⟨by simp,fun g h=>by simpa using h⟩
  ·rw[if_neg hk];refine⟨?_,fun g h=>?_⟩
   ·rw[jJ_];exact jm_ _ i1
   ·rw[jJ_]at h ⊢;rcases jr_.mp h with e|e
    ·exact jr_.mpr (.inl e)
    ·exact jm_ _ (i2 g e)
def Kv (f:Str)(v:V):∀fs:List (Str×V),(putF f v fs).length<=fs.length+1
 |[]=>by simp[putF]
 | (k,x)::r=>by
  have ih:=Kv f v r;rw[show putF f v ((k,x)::r)=(if k=f then (k,v)::r else (k,x)::putF f v r) from rfl];by_cases hk:k=f
  ·rw[if_pos hk,jD_,jD_];lia
  ·rw[if_neg hk,jD_,jD_];lia
def RelO.some_of (r:RelO (some v) o):∃u,o=some u/\RelV v u:=by
 cases o with
 |none=>exact (show False from r).elim
 |some u=>exact⟨u,rfl,r⟩
def RelO.none_of (r:RelO none o):o=none:=by
 cases o with
 |none=>rfl
 |some u=>exact (show False from r).elim
def Rr (r:RelV v u):qz u=true:=by
 cases v with
 |non=>cases (show u=Value.none from r);rfl
 |bl b=>cases (show u=Value.bool b from r);rfl
 |int i=>obtain⟨t,e⟩:=(show ∃t,u=Value.int i t from r);cases e;rfl
 |str x=>obtain⟨t,e⟩:=(show ∃t,u=Value.str x t from r);cases e;rfl
 |byt b=>obtain⟨t,e⟩:=(show ∃t,u=Value.bytes b t from r);cases e;rfl
 |flt b=>obtain⟨t,e⟩:=(show ∃t,u=Value.float b t from r);cases e;rfl
 |ref a=>cases (show u=Value.ref a from r);rfl
 |ty n=>cases (show u=Value.type n from r);rfl
section
variable {P:Program} {w:World} {H H':Hp} {h h':Heap} {a C dx:Addr} {fs fs':List (Str×V)}
def Ms (hok:HOk P w H h)(e:H a=some (.ins C dx fs)):∃mA,ObjM h a dx C mA/\(∀f,RelO (fs.lookup f) (mA f))/\qg mA (fs.map (·.1))/\fs.length<=1000/\H dx=some (.own a):=by
 obtain⟨d,z,ne,ob,mA,n,r,q⟩:=(show A6 P w H h a (.ins C dx fs) from hok a _ e);exact⟨mA,⟨ob,n,ne⟩,r,q,z,d⟩
end
structure Cls (K:α3)(C:Addr):Prop where
 pg:oG K C Str.empty=true
 hd:oJ K C=true
 po:oM K C=true
 sa:ot K (.ref C) "__setattr__"=some (some (.builtin "object.__setattr__"))
def Cls.get {K:α3} (c:Cls K C)(f:Str):oG K C f=true:=c.pg
noncomputable def BY (K:α3)(C:Addr)(f:Str):Prop:=ot K (.ref C) f=some none
def BY.taker {K:α3} (n:BY K C f):pI K C f=some none:=by
 unfold pI;rw[show ot K (.ref C) f=some none from n];rfl
structure Meth (K:α3)(C:Addr)(m:Str)(f:Addr):Prop where
 at_:ot K (.ref C) m=some (some (.ref f))
 fn:qh K (.ref f)=true
 kp:keepIn K (.ref f)=true
section
variable {X:Cx} {ae:α7} {σ:St} {H:Hp} {s:Shared} {a C dx:Addr} {fs:List (Str×V)} {f:Str} {v:V} {A:Around} {E:Value->Shared->Prop}
def Qp (I:Inv X ae σ H s)(e:H a=some (.ins C dx fs))(c:Cls X.K C)(n:BY X.K C f)(l:fs.lookup f=some v)
  (h:∀u s',Inv X ae σ H s'->RelV v u->Q u s'):wpAny (model X.prog X.w) A (getAttr (.ref a) f b) Q E s:=by
 obtain⟨mA,O,r,_,_,_⟩:=Ms I.hok e;obtain⟨u,hu,ru⟩:=RelO.some_of (v:=v) (o:=mA f) (by rw[<-l];exact r f);exact Wr I.kIn O (c.get f) c.hd n hu (Rr ru) (h u _ (I.tok _) ru)
def LU (I:Inv X ae σ H s)(e:H a=some (.ins C dx fs))(c:Cls X.K C)(k:Meth X.K C m g)(l:fs.lookup m=none)
  (h:Q (.ref g,[.ref a]) s):wpAny (model X.prog X.w) A (getMethod (.ref a) m pl) Q E s:=by
 obtain⟨mA,O,r,_,_,_⟩:=Ms I.hok e;have hn:mA m=none:=RelO.none_of (by rw[<-l];exact r m);exact TZ I.kIn O (c.get m) k.at_ k.fn hn h
def Qq (I:Inv X ae σ H s)(e:H a=some (.ins C dx fs))(c:Cls X.K C)(n:BY X.K C f)(hl:fs.length<1000)(ry:RelV y u)
  (h:∀s',Inv X ae σ (upd H a (.ins C dx (putF f y fs))) s'->Q () s'):wpAny (model X.prog X.w) A (setAttr (.ref a) f u) Q E s:=by
 obtain⟨mA,O,r,wi,_,ho⟩:=Ms I.hok e;have hz:(fs.map (·.1)).length<=sizeLine:=by rw[jb_,sizeLine_eq];lia
 refine Ws I.kIn O c.sa c.po n.taker c.hd wi hz fun h' O' sb=>h _ ?_;have hd:∃o,h'.get? dx=some o:=let ⟨o,_,_,e',_⟩:=O'.ns;⟨o,e'⟩;refine I.write (x:=a) (e:=dx) (by rw[e];exact oq) (.inr ho) (fun b q hb z=>(sb.2 b hb).trans z) hd ?_;refine⟨by rw[Ah O.ne];exact ho,?_,O.ne,O'.obj,_,O'.ns,fun g=>?_,fun g hg=>?_⟩
 ·have:=Kv f y fs;lia
 ·show RelO ((putF f y fs).lookup g) (if g=f then some u else mA g);rw[BP];by_cases q:g=f
  ·rw[if_pos q,if_pos q];exact ry
  ·rw[if_neg q,if_neg q];exact r g
 ·by_cases q:g=f
  ·rw[q];exact (Ku f y fs).1
  ·refine (Ku f y fs).2 g (wi g fun z=>hg ?_);show (if g=f then some u else mA g)=none;rw[if_neg q];exact z
def Inv.made (I:Inv X ae σ H s):Inv X ae σ (upd (upd H s.heap.objs.size (.own (s.heap.objs.size+1))) (s.heap.objs.size+1) (.ins C s.heap.objs.size []))
  {s with heap:=(s.heap.push oB).push (oF C s.heap.objs.size)}:=by
 have e1:(s.heap.push oB).get? s.heap.objs.size=some oB:=jw_ s.heap rfl;have e2:((s.heap.push oB).push (oF C s.heap.objs.size)).get? (s.heap.objs.size+1)=some (oF C s.heap.objs.size):=by
  have:=jw_ (s.heap.push oB) (o:=oF C s.heap.objs.size) rfl
  rwa [xP_]at this
 have e3:(s.heap.push oB).Ns s.heap.objs.size (fun _=>none):=⟨oB,#[],_,e1,rfl,(fun e he=>absurd he (by simp)),fun _=>rfl⟩;have I1:=I.laid (a:=s.heap.objs.size) (o:=.own (s.heap.objs.size+1)) (h':=s.heap.push oB) (t':=s.toks) (fun b u q=>jl_ _ q) (jh_ _) ⟨_,e1⟩;refine I1.laid (a:=s.heap.objs.size+1) (o:=.ins C s.heap.objs.size []) (t':=s.toks) (fun b u q=>jl_ _ q) (rY (xP_ _ _)) ?_;have ne:s.heap.objs.size≠s.heap.objs.size+1:=jQ_ (q2_ _);refine⟨by rw[Ah ne,Ab],j9_ _,ne,e2,fun _=>none,(Heap.Ns1.of_empty e3).at fun o q=>jl_ _ q,fun _=>oq,fun y hy=>absurd rfl hy⟩
def Wt (hb:attributeBase e f env (eval e env)=eval e env)
  (h:wpAny (model prog w) A (eval e env) (fun o s₁=>wpAny (model prog w) A (getAttr o f true) Q E s₁) E s):wpAny (model prog w) A (eval (.Attribute e f pos) env) Q E s:=
 Attribute_any_ h (by rw[arm_eval_Attribute,hb])
end
noncomputable def tFld (K:α3)(ta:TE)(f:Str):TE:=fun σ H Q=>ta σ H fun x H1=>∃a C dx fs v,x=.ref a/\H1 a=some (.ins C dx fs)/\Cls K C/\BY K C f/\fs.lookup f=some v/\Q v H1
noncomputable def sFld (K:α3)(ta tv:TE)(f:Str):TS:=fun D σ H=>tv σ H fun y H1=>ta σ H1 fun x H2=>∃a C dx fs,x=.ref a/\H2 a=some (.ins C dx fs)/\Cls K C/\BY K C f/\fs.length<1000 /\
 D.nx σ (upd H2 a (.ins C dx (putF f y fs)))
section
variable {X:Cx} {o e value:Expr} {f:Str} {pos bx fX:Pos} {ta tv:TE}
def AI (he:PE X e ta)(hb:attributeBase e f X.env (eval e X.env)=eval e X.env):PE X (.Attribute e f pos) (tFld X.K ta f):=by
 intro ae s σ H Q I h;refine Wt hb (thn (he ae s σ H _ I h) fun u s1 ⟨x,H1,I1,rx,a,C,dx,fs,v,ex,ea,c,n,l,q⟩=>?_);subst ex;obtain rfl:u=Value.ref a:=rx;exact Qp I1 ea c n l fun u' s2 I2 ru=>⟨v,H1,I2,ru,q⟩
def Co (ha:PE X o ta)(hv:PE X value tv)(hs:swapsWith value (some (.Attribute o f bx)) pos.line X.env=pure false):PS X (.Assign [.Attribute o f bx] value pos) (sFld X.K ta tv f):=by
 intro ae s σ H D I h;refine plainObj_wpAny_Assign_Attribute (thn (hv ae s σ H _ I h) fun u s1 ⟨y,H1,I1,ry,q⟩=>thn (ha ae s1 σ H1 _ I1 q) fun ov s2 ⟨x,H2,I2,rx,a,C,dx,fs,ex,ea,c,n,l,q2⟩=>?_) hs;subst ex;obtain rfl:ov=Value.ref a:=rx;exact Qq I2 ea c n l ry fun s3 I3=>⟨σ,_,I3,q2⟩
end
section
variable {X:Cx} {ae:α7} {σ:St} {H:Hp} {s:Shared} {A:Around} {E:Value->Shared->Prop} {Q:Value->Shared->Prop} {c:Value} {b:Bool}
inductive TyOf (K:α3)(H:Hp):V->Value->Prop where
 | non:TyOf K H .non (.type "NoneType")
 | bl (x:Bool):TyOf K H (.bl x) (.type "bool")
 | int (i:Int):TyOf K H (.int i) (.type "int")
 | str (x:Str):TyOf K H (.str x) (.type "str")
 | flt (x:UInt64):TyOf K H (.flt x) (.type "float")
 | lst {a:Addr} {xs:List V} (e:H a=some (.lst xs)):TyOf K H (.ref a) (.type "list")
 | frz {a:Addr} {o:Obj} {xs:List V} (e:H a=some (.frz o (.lst xs))):TyOf K H (.ref a) (.type "list")
 | tup {a:Addr} {xs:List V} (e:H a=some (.tup xs)):TyOf K H (.ref a) (.type "tuple")
 | dK {a:Addr} {kvs:List (Key×V)} (e:H a=some (.dK kvs)):TyOf K H (.ref a) (.type "dict")
 | dT {a:Addr} {kvs:List (List Key×V)} (e:H a=some (.dT kvs)):TyOf K H (.ref a) (.type "dict")
 | ins {a C dx:Addr} {fs:List (Str×V)} (e:H a=some (.ins C dx fs)) (cl:Cls K C) (ha:ot K (.ref C) "__class__"=some (some (.builtin "object.__class__")))
   (hn:qi K (.builtin "object.__class__") "__get__"=some (some (.builtin "getset_descriptor.__get__"))) (htk:tQ K (.builtin "object.__class__")=some true)
   (hm:tX K C (.type "object")=some true):TyOf K H (.ref a) (.ref C)
def Rt (I:Inv X ae σ H s)(rx:RelV x u)(ty:TyOf X.K H x t)(e:kitOne X.K t c=some b)(h:∀tk,Q (.bool b) {s with toks:=tk}):
  wpAny (model X.prog X.w) A (call (.builtin "isinstance") [u,c]) Q E s:=by
 cases ty with
 |non=>cases (show u=Value.none from rx);exact qc_ sY I.kIn oq e (fun z=>nomatch z) h
 |bl y=>cases (show u=Value.bool y from rx);exact qc_ s9 I.kIn oq e (fun z=>nomatch z) h
 |int i=>obtain⟨t,q⟩:=(show ∃t,u=Value.int i t from rx);cases q;exact qc_ tI I.kIn oq e (fun z=>nomatch z) h
 |str y=>obtain⟨t,q⟩:=(show ∃t,u=Value.str y t from rx);cases q;exact qc_ tJ I.kIn oq e (fun z=>nomatch z) h
 |flt y=>obtain⟨t,q⟩:=(show ∃t,u=Value.float y t from rx);cases q;exact qc_ sL I.kIn oq e (fun z=>nomatch z) h
 |@lst a xs ea=>
  cases (show u=Value.ref a from rx);obtain⟨_,_,n,_,h1⟩:=(show A6 X.prog X.w H s.heap a (.lst xs) from I.hok a _ ea);exact qc_ zB_ I.kIn ⟨_,h1,rfl⟩ e (fun z=>nomatch z) h
 |@frz a ob xs ea=>
  cases (show u=Value.ref a from rx);obtain⟨_,_,_,n,_,h1⟩:=(show A6 X.prog X.w H s.heap a (.frz ob (.lst xs)) from I.hok a _ ea);exact qc_ zB_ I.kIn ⟨_,h1,rfl⟩ e (fun z=>nomatch z) h
 |@tup a xs ea=>
  cases (show u=Value.ref a from rx);obtain⟨_,_,_,p⟩:=(show A6 X.prog X.w H s.heap a (.tup xs) from I.hok a _ ea);obtain⟨o,h1,h2,_⟩:=p;exact qc_ qd I.kIn ⟨o,h1,h2⟩ e (fun z=>nomatch z) h
 |@dK a kvs ea=>
  cases (show u=Value.ref a from rx);obtain⟨_,_,vs,_,p⟩:=(show A6 X.prog X.w H s.heap a (.dK kvs) from I.hok a _ ea);obtain⟨o,es,ep,h1,h2,_⟩:=p;exact qc_ qj I.kIn ⟨o,h1,h2.1⟩ e (fun z=>nomatch z) h
 |@dT a kvs ea=>
  cases (show u=Value.ref a from rx);obtain⟨_,_,xs,_,o,es,ep,h1,h2,_⟩:=(show A6 X.prog X.w H s.heap a (.dT kvs) from I.hok a _ ea);exact qc_ qj I.kIn ⟨o,h1,h2.1⟩ e (fun z=>nomatch z) h
 |@ins a C dx fs ea cl ha hn htk hm=>
  cases (show u=Value.ref a from rx);obtain⟨mA,O,_⟩:=Ms I.hok ea;obtain⟨od,J,_⟩:=O.look;exact qc_ (tK (cl.get _) cl.hd ha hn htk hm) I.kIn J e (fun z=>nomatch z) h
end
end L2
namespace L2
open PySem PySem.Spec PyProof.Rows
structure Room (k:Nat)(A:Around):Prop where
 hd:A.handled=none
 dp:A.depth+3*k+5<recursionLimit
 un:A.units+16*k+200<cLine
def Room.mono (r:Room k A)(h:j<=k):Room j A:=⟨r.hd,by have:=r.dp;lia,by have:=r.un;lia⟩
def Room.deeper (r:Room (k+1) A)(env:Env):Room k (A.deeper env):=
 ⟨r.hd,by have:=r.dp;show A.depth+1+3*k+5<_;lia,by have:=r.un;show A.units+3+16*k+200<_;lia⟩
def Qr {A:Around}{C:Addr}{us:List Value}{kw:List (Str×Value)}:(A.under (.builtin "type.__call__" ⟨.ref C::us,kw⟩)).depth=A.depth+1:=by
 first|rfl|simp[Around.under,Code.weight,Code.isCreation,Code.isGuard,Code.isCaller,Code.frames,Code.isFrame,guardIds]
def Qs {A:Around}{C:Addr}{us:List Value}{kw:List (Str×Value)}:(A.under (.builtin "type.__call__" ⟨.ref C::us,kw⟩)).units=A.units+1:=by
 first|rfl|simp[Around.under,Code.cUnits,Code.frames,Code.isFrame]
def Room.make (r:Room (k+1) A)(C:Addr)(us:List Value)(kw:List (Str×Value)):Room k (A.under (.builtin "type.__call__" ⟨.ref C::us,kw⟩)):=
 ⟨r.hd,by have:=r.dp;rw[Qr];lia,by have:=r.un;rw[Qs];lia⟩
def Room.depth (r:Room k A):A.depth<recursionLimit:=by have:=r.dp;lia
def Room.units (r:Room k A):A.units+64<cLine:=by have:=r.un;lia
noncomputable def tNil:TA:=fun _ H Q=>Q [] H
noncomputable def T2 (ta:TE)(tr:TA):TA:=fun σ H Q=>ta σ H fun x H1=>tr σ H1 fun xs H2=>Q (x::xs) H2
section
variable {X:Cx} {e:Expr} {es:List Expr} {te:TE} {t:TA} {pos:Pos}
def Ad:PA X [] tNil:=fun _ _ _ _ H Q I h=>x6_ ⟨[],H,I,.nil,h⟩
def Aa (ha:PE X e te)(hr:PA X es t)(hs:starEach (e::es) X.env=(false,eval e X.env)::starEach es X.env:=by rfl):PA X (e::es) (T2 te t):=by
 intro pos ae s σ H Q I h;rw[hs];show wpAny _ _ (spliced ((false,eval e X.env)::backTo pos (starEach es X.env))) _ _ s;refine xy_ (thn (ha ae s σ H _ I h) fun u s1 ⟨x,H1,I1,r1,q1⟩=>?_);exact thn (hr pos ae s1 σ H1 _ I1 q1) fun us s2 ⟨xs,H2,I2,r2,q2⟩=>⟨x::xs,H2,I2,.cons r1 r2,q2⟩
noncomputable def tTup (t:TA):TE:=fun σ H Q=>t σ H fun xs H1=>xs.length<=sizeLine/\∀p,H1 p=none->Q (.ref p) (upd H1 p (.tup xs))
noncomputable def tLst (t:TA):TE:=fun σ H Q=>t σ H fun xs H1=>xs.length<=sizeLine/\∀p,H1 p=none->Q (.ref p) (upd H1 p (.lst xs))
def Bt {x1}(h:PA X es t):PE X (.Tuple es x1 pos) (tTup t):=by
 intro ae s σ H Q I hq;refine wpAny_Tuple_spliced (thn (h pos ae s σ H _ I hq) fun us s1 ⟨xs,H1,I1,r,z,q⟩=>⟨by rw[<-r.length];exact z,?_⟩);have hf:H1 s1.heap.objs.size=none:=I1.hok.fresh (jh_ _);refine⟨.ref s1.heap.objs.size,upd H1 s1.heap.objs.size (.tup xs),I1.laid (t':=s1.toks) (fun b u e=>jl_ _ e) (jh_ _) ?_,rfl,q _ hf⟩;exact⟨z,us,r,⟨_,jw_ _ rfl,rfl,_,rfl⟩⟩
def A7 (h:PA X es t):PE X (.List es pos) (tLst t):=by
 intro ae s σ H Q I hq;refine wpAny_List_spliced (thn (h pos ae s σ H _ I hq) fun us s1 ⟨xs,H1,I1,r,z,q⟩=>⟨by rw[<-r.length];exact z,?_⟩);have hf:H1 s1.heap.objs.size=none:=I1.hok.fresh (jh_ _);refine⟨.ref s1.heap.objs.size,upd H1 s1.heap.objs.size (.lst xs),I1.laid (t':=s1.toks) (fun b u e=>jl_ _ e) (jh_ _) ?_,rfl,q _ hf⟩;exact⟨z,us,0,r,jw_ _ rfl⟩
end
noncomputable abbrev Sp:=List V->Hp->VK->XK->Prop
noncomputable abbrev CXT:=List Env->Hp->Shared->XK->Value->Shared->Prop
structure Env0 (P:Program)(w:World)(K:α3)(mg:Str->α5)(base:Heap)(A:Around)(outer:List Env)(s:Shared)(H:Hp):Prop where
 frames:A.frames=some outer
 mod:Mod K mg base
 bs:∀b o,base.get? b=some o->s.heap.get? b=some o/\H b=none
 bsz:base.objs.size<=s.heap.objs.size
 funs:s.heap.FunFrames base outer
 frf:∀b∈frs outer,H b=none
 hok:HOk P w H s.heap
 bare:AllBare s.gens
noncomputable def CE (outer:List Env)(P:Program)(w:World)(H:Hp)(s:Shared)(Q:VK)(u:Value)(s':Shared):Prop:=
 ∃v H',s'.os=s.os/\AllBare s'.gens/\Un (frs outer) [] H H' s.heap s'.heap/\HOk P w H' s'.heap/\RelV v u/\Q v H'
noncomputable def CR (CX:CXT)(outer:List Env)(P:Program)(w:World)(H:Hp)(s:Shared)(Q:VK)(E:XK)(r:Result)(s':Shared):Prop:=
 match r with
 |.ok (.ret u)=>CE outer P w H s Q u s'
 |.ok _=>False
 |.error e=>CX outer H s E e s'
structure FnOk (P:Program)(w:World)(K:α3)(mg:Str->α5)(base:Heap)(CX:CXT)(k:Nat)(f:Addr)(fd:α6)(ps:List Str)(sp:Sp):Prop where
 len:∀vs H Q E,sp vs H Q E->vs.length=ps.length
 run:∀(A:Around) (outer:List Env) (s:Shared) (H:Hp) (args:Args) (us:List Value) (vs:List V) (Q:VK) (E:XK),Room k A->Env0 P w K mg base A outer s H->BindsTo s fd args (ps.zip us)->Vals vs us->sp vs H Q E ->
  codeAny (model P w) A (.call (.ref f) args) (CR CX outer P w H s Q E) s
def Env0.make {K:α3} (e:Env0 P w K mg base A outer s H)(C:Addr)(us:List Value)(kw:List (Str×Value)):
  Env0 P w K mg base (A.under (.builtin "type.__call__" ⟨.ref C::us,kw⟩)) outer s H:=⟨by first|exact e.frames|(simpa [Around.under,Code.envs,Code.isFrame,pushEnvs] using e.frames),e.mod,e.bs,e.bsz,e.funs,e.frf,e.hok,e.bare⟩
section
variable {X:Cx} {ae:α7} {σ:St} {H:Hp} {s s':Shared}
def Inv.env0 (I:Inv X ae σ H s):Env0 X.prog X.w X.K X.mg X.base X.A X.stack s H:=
 ⟨I.ok.frames,I.ok.mod,I.bs,j1_ I.ok.bsz I.sz,I.stack,I.stkFree,I.hok,I.bare⟩
def Inv.after (I:Inv X ae σ H s)(h:CE X.stack X.prog X.w H s Q u s'):EP X ae σ Q u s':=by
 obtain⟨v,H',os,bare,un,hok,r,q⟩:=h;obtain⟨hh,g,d,t,os'⟩:=s';obtain rfl:os'=s.os:=os;exact⟨v,H',I.call (h':=hh) (g':=g) (d':=d) (t':=t) (ch:=[]) un hok bare (fun b z=>absurd z (by simp)),r,q⟩
end
noncomputable def T3 (sp:Sp)(aI:List V)(E:XK)(t:TA):TE:=fun σ H Q=>t σ H fun vs H1=>sp (vs++aI) H1 Q E
noncomputable def Wu (C:Addr)(m:Str)(sp:Sp)(aI:List V)(E:XK)(ta:TE)(t:TA):TE:=fun σ H Q=>ta σ H fun x H1=>∃a dx fs,x=.ref a/\H1 a=some (.ins C dx fs)/\fs.lookup m=none /\
 t σ H1 fun vs H2=>sp (x::(vs++aI)) H2 Q E
noncomputable def XO (C:Addr)(sp:Sp)(aI:List V)(E:XK)(t:TA):TE:=fun σ H Q=>t σ H fun vs H1=>∀x dx,H1 x=none->H1 dx=none->dx≠x ->
 sp (.ref x::(vs++aI)) (upd (upd H1 dx (.own x)) x (.ins C dx [])) (fun v H2=>v=.non/\Q (.ref x) H2) E
noncomputable def Binds (K:α3)(fd:α6)(ps:List Str)(ds:List Value):Prop:=
 ∀(s:Shared) (us:List Value),K.In s.heap->(us++ds).length=ps.length->BindsTo s fd ⟨us,[]⟩ (ps.zip (us++ds))
def Binds.all {K:α3} (h:∀us:List Value,us.length=ps.length->bindArgs fd ⟨us,[]⟩=pure (ps.zip us)):Binds K fd ps []:=fun s us _ hl=>by
 rw[xZ_]at hl ⊢;exact .of_eq (h us hl)
noncomputable def EO (CX:CXT)(X:Cx)(E:XK):Prop:=∀(ae:α7) (σ:St) (H:Hp) (s:Shared) (e:Value) (s':Shared),Inv X ae σ H s->CX X.stack H s E e s'->X.xe e s'
section
variable {X:Cx} {CX:CXT} {k:Nat} {f C:Addr} {fd:α6} {ps:List Str} {sp:Sp} {aI:List V} {ds:List Value} {E:XK} {x m:Str} {p pos aC:Pos} {e o:Expr} {es:List Expr} {ta:TE} {t:TA}
def Np (F:FnOk X.prog X.w X.K X.mg X.base CX k f fd ps sp)(hr:Room k X.A)(hb:Binds X.K fd ps ds)(hd:Vals aI ds)(hx:EO CX X E)
  (I:Inv X ae σ H s) (r:Vals vs us) (h:sp (vs++aI) H Q E):wpAny (model X.prog X.w) X.A (call (.ref f) us) (EP X ae σ Q) X.xe s:=by
 have r2:Vals (vs++aI) (us++ds):=r.append hd;have hl:(us++ds).length=ps.length:=by rw[<-r2.length];exact F.len _ _ _ _ h
 refine wpAny_call (zu_ (F.run X.A X.stack s H ⟨us,[]⟩ (us++ds) (vs++aI) Q E hr I.env0 (hb s us I.kIn hl) r2 h) fun r s' hq=>?_);cases r with
 |error e=>exact hx ae σ H s e s' I hq
 |ok fl=>
  cases fl with
  |ret u=>exact I.after hq
  |next=>exact oz hq
  |brk=>exact oz hq
  |cont=>exact oz hq
def Wv (F:FnOk X.prog X.w X.K X.mg X.base CX k f fd ps sp)(hr:Room k X.A)(hg:Gl X x)(hm:X.mg x=some (.ref f))(hk:keepIn X.K (.ref f)=true)(hb:Binds X.K fd ps ds)(hd:Vals aI ds)(hx:EO CX X E)
  (ha:PA X (e::es) t) (cW:(x==("__debug__" : Str))=false:=by decide) (he:starEach (e::es) X.env=(false,eval e X.env)::starEach es X.env:=by rfl) (b7:(backTo pos (starEach es X.env)).any (·.1)=false:=by rfl):
  PE X (.Call (.Name x p) (e::es) [] pos) (T3 sp aI E t):=by
 intro ae s σ H Q I h;refine qP_ (G4 I hg hm ?_ cW);refine q6_ (h₀:=X.base) I.ok.mod.kin hk (thn (ha pos ae s σ H _ I h) fun us s1 ⟨vs,H1,I1,r,q⟩=>⟨I1.kIn,?_⟩) he b7;exact Np F hr hb hd hx I1 r q
def A9 (he:PE X o ta)(c:Cls X.K C)(hm:Meth X.K C m f)(F:FnOk X.prog X.w X.K X.mg X.base CX k f fd ps sp)(hr:Room k X.A)(hb:Binds X.K fd ps ds)(hd:Vals aI ds)(hx:EO CX X E)(ha:PA X (e::es) t)
  (aH:starEach (e::es) X.env=(false,eval e X.env)::starEach es X.env:=by rfl) (b7:(backTo pos (starEach es X.env)).any (·.1)=false:=by rfl)
  (ht:eval (.Call (.Attribute o m aC) (e::es) [] pos) X.env=(do
   let ov <- eval o X.env
   standAt aC.atName
   let (f,first) <- holding [ov] (getMethod ov m pl)
   callWith pos f first (backTo pos (starEach (e::es) X.env)) (backToKw pos (keywordEach [] X.env))):=by rfl):
  PE X (.Call (.Attribute o m aC) (e::es) [] pos) (Wu C m sp aI E ta t):=by
 intro ae s σ H Q I h;refine zb_ (pl:=pl) (thn (he ae s σ H _ I h) fun u s1 ⟨x,H1,I1,rx,a,dx,fs,ex,ea,l,q⟩=>?_) ht;subst ex;obtain rfl:u=Value.ref a:=rx;refine LU I1 ea c hm l ?_;refine q6_ (first:=[.ref a]) (h₀:=X.base) I.ok.mod.kin hm.kp (thn (ha pos ae s1 σ H1 _ I1 q) fun us s2 ⟨vs,H2,I2,r,q2⟩=>⟨I2.kIn,?_⟩) aH b7;exact Np (us:=.ref a::us) (vs:=.ref a::vs) F hr hb hd hx I2 (.cons rfl r) q2
def AR (he:PE X o ta)(c:Cls X.K C)(hm:Meth X.K C m f)(F:FnOk X.prog X.w X.K X.mg X.base CX k f fd ps sp)(hr:Room k X.A)(hb:Binds X.K fd ps ds)(hd:Vals aI ds)(hx:EO CX X E)
  (ht:eval (.Call (.Attribute o m aC) [] [] pos) X.env=(do
   let ov <- eval o X.env
   standAt aC.atName
   let (f,first) <- holding [ov] (getMethod ov m pl)
   callWith pos f first (backTo pos (starEach [] X.env)) (backToKw pos (keywordEach [] X.env))):=by rfl):
  PE X (.Call (.Attribute o m aC) [] [] pos) (Wu C m sp aI E ta tNil):=by
 intro ae s σ H Q I h;refine zb_ (pl:=pl) (thn (he ae s σ H _ I h) fun u s1 ⟨x,H1,I1,rx,a,dx,fs,ex,ea,l,q⟩=>?_) ht;subst ex;obtain rfl:u=Value.ref a:=rx;refine LU I1 ea c hm l ?_;exact sJ (first:=[.ref a]) I1.kIn hm.kp (Np (us:=[.ref a]) (vs:=[.ref a]) F hr hb hd hx I1 (.cons rfl .nil) q)
structure Mk (K:α3)(C f:Addr):Prop where
 makes:qI K C=true
 init:ot K (.ref C) "__init__"=some (some (.ref f))
 fn:qh K (.ref f)=true
 kp:keepIn K (.ref C)=true
def T4 (M:Mk X.K C f)(F:FnOk X.prog X.w X.K X.mg X.base CX k f fd ps sp)(hr:Room (k+1) X.A)(hb:Binds X.K fd ps ds)(hd:Vals aI ds)
  (hx:EO CX X E) (I:Inv X ae σ H s) (r:Vals vs us)
  (h:∀x dx,H x=none->H dx=none->dx≠x->sp (.ref x::(vs++aI)) (upd (upd H dx (.own x)) x (.ins C dx [])) (fun v H2=>v=.non/\Q (.ref x) H2) E):
  wpAny (model X.prog X.w) X.A (call (.ref C) us) (EP X ae σ Q) X.xe s:=by
 have hq:=h (s.heap.objs.size+1) s.heap.objs.size (I.hok.fresh (pU _)) (I.hok.fresh (jh_ _)) (jQ_ (q2_ _));have I2:=Inv.made (C:=C) I;have r2:Vals (V.ref (s.heap.objs.size+1)::(vs++aI)) (Value.ref (s.heap.objs.size+1)::(us++ds)):=.cons rfl (r.append hd);have hl:(Value.ref (s.heap.objs.size+1)::us++ds).length=ps.length:=by
  have e:=r2.length;rw[F.len _ _ _ _ hq]at e;exact e.symm
 refine wpAny_call (T1 (f:=f) I.kIn M.makes M.init (zA_.mp M.fn) (zu_ (F.run _ X.stack _ _ ⟨Value.ref (s.heap.objs.size+1)::us,[]⟩ (Value.ref (s.heap.objs.size+1)::(us++ds)) _ _ E (hr.make C us [])
  (I2.env0.make C us []) (hb _ (Value.ref (s.heap.objs.size+1)::us) I2.kIn hl) r2 hq) fun r s' eC=>?_))
 cases r with
 |error e=>exact hx ae σ _ _ e s' I2 eC
 |ok fl=>
  cases fl with
  |ret u=>
   obtain⟨v,H',I3,rv,ev,q3⟩:=I2.after eC;subst ev;exact⟨rv,⟨V.ref (s.heap.objs.size+1),H',I3,rfl,q3⟩⟩
  |next=>exact oz eC
  |brk=>exact oz eC
  |cont=>exact oz eC
def Ow (M:Mk X.K C f)(F:FnOk X.prog X.w X.K X.mg X.base CX k f fd ps sp)(hr:Room (k+1) X.A)(hg:Gl X x)(hm:X.mg x=some (.ref C))(hb:Binds X.K fd ps ds)(hd:Vals aI ds)(hx:EO CX X E)
  (ha:PA X (e::es) t) (cW:(x==("__debug__" : Str))=false:=by decide) (he:starEach (e::es) X.env=(false,eval e X.env)::starEach es X.env:=by rfl) (b7:(backTo pos (starEach es X.env)).any (·.1)=false:=by rfl):
  PE X (.Call (.Name x p) (e::es) [] pos) (XO C sp aI E t):=by
 intro ae s σ H Q I h;refine qP_ (G4 I hg hm ?_ cW);refine q6_ (h₀:=X.base) I.ok.mod.kin M.kp (thn (ha pos ae s σ H _ I h) fun us s1 ⟨vs,H1,I1,r,q⟩=>⟨I1.kIn,?_⟩) he b7;exact T4 M F hr hb hd hx I1 r q
end
structure FnScope (N P:List Str)(sc:Scope):Prop where
 kind:sc.kind=.function
 co:sc.isCoroutine=false
 gen:sc.isGenerator=false
 nd:N.Nodup
 pre:N.take P.length=P
 par:∀x∈P,sc.names.lookup x=some .local\/sc.names.lookup x=some .cell
 nofree:∀y∈sc.names,y.2 ≠ .free
def Nq {kindOf:Str->Option NameKind}{x:Str}:∀{binds:List (Str×Value)} {m:Str->α5},(∀v,(x,v)∉binds)->bindL kindOf binds m x=m x
 |[],_,_=>rfl
 | (n,v)::r,m,h=>by
  unfold bindL;rw[Nq fun w hw=>h w (jm_ _ hw)];split
  ·have:x≠n:=by rintro rfl;exact h v js_
   simp[this]
  ·rfl
def Nr {kindOf:Str->Option NameKind}{x:Str}:∀{binds:List (Str×Value)} {m:Str->α5},(∀v,(x,v)∉binds)->bindC kindOf binds m x=m x
 |[],_,_=>rfl
 | (n,v)::r,m,h=>by
  unfold bindC;rw[Nr fun w hw=>h w (jm_ _ hw)];split
  ·rfl
  ·have:x≠n:=by rintro rfl;exact h v js_
   simp[this]
def Nt {kindOf:Str->Option NameKind}{x:Str}{v:Value}:∀{P:List Str} {vs:List Value} {i:Nat} {m:Str->α5},P.Nodup->P[i]?=some x->vs[i]?=some v->kindOf x=some .local ->
  bindL kindOf (P.zip vs) m x=some v
 |[],_,_,_,_,h,_,_=>by simp at h
 |_::_,[],_,_,_,_,h,_=>by simp at h
 |p::P,w::vs,0,m,nd,h1,h2,hk=>by
  simp at h1 h2;subst h1;subst h2;show bindL kindOf ((p,w)::P.zip vs) m p=_;unfold bindL;rw[Nq fun v hv=>(j6_.mp nd).1 (pJ hv).1,if_pos hk];simp
 |p::P,w::vs,i+1,m,nd,h1,h2,hk=>by
  show bindL kindOf ((p,w)::P.zip vs) m x=_;unfold bindL;exact Nt (i:=i) (j6_.mp nd).2 (by simpa using h1) (by simpa using h2) hk
def Nu {kindOf:Str->Option NameKind}{x:Str}{v:Value}:∀{P:List Str} {vs:List Value} {i:Nat} {m:Str->α5},P.Nodup->P[i]?=some x->vs[i]?=some v->kindOf x≠some .local ->
  bindC kindOf (P.zip vs) m x=some v
 |[],_,_,_,_,h,_,_=>by simp at h
 |_::_,[],_,_,_,_,h,_=>by simp at h
 |p::P,w::vs,0,m,nd,h1,h2,hk=>by
  simp at h1 h2;subst h1;subst h2;show bindC kindOf ((p,w)::P.zip vs) m p=_;unfold bindC;rw[Nr fun v hv=>(j6_.mp nd).1 (pJ hv).1,if_neg hk];simp
 |p::P,w::vs,i+1,m,nd,h1,h2,hk=>by
  show bindC kindOf ((p,w)::P.zip vs) m x=_;unfold bindC;exact Nu (i:=i) (j6_.mp nd).2 (by simpa using h1) (by simpa using h2) hk
noncomputable def start (N:List Str)(vs:List V):St:=vs.map some++oE (N.length-vs.length) none
noncomputable def cxOf (CX:CXT)(P:Program)(w:World)(K:α3)(mg:Str->α5)(base:Heap)(N:List Str)(qual:Str)(scope:Scope)(f:Addr)(cd:Value)(A:Around)(outer:List Env)(s:Shared)(H:Hp)(E:XK):Cx where
 prog:=P
 w:=w
 K:=K
 mg:=mg
 base:=base
 A:=A.deeper (envOfC qual scope s.heap.objs.size f cd)
 N:=N
 s₀:=s
 H₀:=H
 env:=envOfC qual scope s.heap.objs.size f cd
 outer:=outer
 stack:=envOfC qual scope s.heap.objs.size f cd::outer
 ex:=[]
 calm:=true
 fn:=fun _=>true
 pn:=[]
 xe:=fun e s'=>wpAny (model P w) (A.deeper (envOfC qual scope s.heap.objs.size f cd)) (leaving (envOfC qual scope s.heap.objs.size f cd) e) (fun _ jS=>CX outer H s E e jS) (fun e' jS=>CX outer H s E e' jS) s'
def Pl {sc:Scope}{n:Nat}{x:Str}(h:sc.names.lookup x=some .cell):∃c,(cellsFrom n sc.names []).lookup x=some c:=by
 have q:=pC sc.names n [] (.inl h);exact Option.isSome_iff_exists.mp q
def Ru {K:α3}
  (S:FnScope N ps scope) (hd:A.handled=none) (e0:Env0 P w K mg base A outer s H) (hl:vs.length=ps.length) (r:Vals vs us)
  (x:InCallC s s.heap.objs.size (bindL (envOfC qual scope s.heap.objs.size f cd).kindOf (ps.zip us) fun _=>none) (cellsFrom (s.heap.objs.size+1) scope.names []) (bindC (envOfC qual scope s.heap.objs.size f cd).kindOf (ps.zip us) fun _=>none) s1):
  Inv (cxOf CX P w K mg base N qual scope f cd A outer s H E) [] (start N vs) H s1:=by
 have b7:ps.length<=N.length:=by have:=qn_ o9 S.pre;rw[jI_]at this;lia
 obtain⟨h1,tk,rfl,hk⟩:=x.done;have jT:∀b:Addr,b∉(cxOf CX P w K mg base N qual scope f cd A outer s H E).ex:=fun b z=>absurd (show b∈([]:List Addr) from z) (by simp);refine⟨⟨e0.mod,S.kind,rfl,rfl,jh_ _,fun y z c h1 h2=>?_,fun y hy=>?_,fun y c _ h=>?_,fun _=>hd,Around.frames_deeper e0.frames,.inr ⟨rfl,rfl⟩,fun b z=>absurd z (jT b),e0.bs,e0.bsz,fun b _ _=>jT b,fun b z=>absurd z (jT b),e0.funs,e0.frf⟩,
  rfl,e0.bare,Un.kept hk,⟨_,x.toInCall.ns,fun i y v h1 h2 h3=>?_⟩,fun y c h=>⟨_,x.cell y c h⟩,e0.hok.fresh (jh_ _),fun y c h=>?_,fun p hp=>absurd (show p∈([]:α7) from hp) (by simp),e0.hok.kept hk,?_⟩
 ·exact name_of_addr x.apart (qu_ h1) (qu_ h2)
 ·have hy:scope.names.lookup y=some .cell\/scope.names.lookup y=some .free:=hy;rcases hy with hy|hy
  ·exact Pl hy
  ·exact absurd rfl (S.nofree _ (qu_ hy))
 ·exact za_ (x.above y c (qu_ h))
 ·have hi:i<vs.length:=by
   unfold start at h2;by_cases hi:i<vs.length
   ·exact hi
   ·rw[jv_ (by simpa using hi)]at h2;rw[List.getElem?_replicate]at h2;split at h2<;>cases h2
  have ha:vs[i]?=some v:=by
   unfold start at h2;rw[ji_ (by simpa using hi),jj_]at h2;cases e:vs[i]? with
   |none=>rw[e]at h2;cases h2
   |some a=>rw[e]at h2;cases h2;rfl
  obtain⟨u,hu,rv⟩:=r.get ha;have hp:ps[i]?=some y:=by
   rw[<-S.pre,List.getElem?_take_of_lt s!""];exact h1
  have ndP:ps.Nodup:=by rw[<-S.pre];exact S.nd.sublist (qk _ _)
  refine⟨u,rv,?_⟩;rcases S.par y (jc_ hp) with k|k
  ·exact .inl ⟨k,Nt ndP hp hu k⟩
  ·obtain⟨c,e⟩:=Pl (n:=s.heap.objs.size+1) k;refine .inr ⟨.inl k,c,e,?_⟩;have q:=x.cell y c e;rw[Nu ndP hp hu (by show scope.names.lookup y≠_;rw[k];decide)]at q;exact q
 ·exact e0.hok.fresh (za_ (x.above y c (qu_ h)))
 ·unfold start;show _=N.length;rw[jf_,jb_,pN];lia
def XQ {K:α3} {dV kV bR pm au ct oc:Value}
       (lk:K.lookup f=some ⟨oc,od,.func (fnOf name qual params body scope dV kV bR pm an au ct),gZ⟩) (cq:pV K au qual=true) (S:FnScope N ps scope)
    (len:∀vs H Q E,sp vs H Q E->vs.length=ps.length)
    (aP:∀(A:Around) (outer:List Env) (s:Shared) (H:Hp) (vs:List V) (Q:VK) (E:XK),Room k (A.deeper (envOfC qual scope s.heap.objs.size f au))->sp vs H Q E ->
      ∃t,PSs (cxOf CX P w K mg base N qual scope f au A outer s H E) body t/\t {nx:=fun _ H'=>Q .non H',rt:=Q} (start N vs) H):
    FnOk P w K mg base CX (k+1) f (fnOf name qual params body scope dV kV bR pm an au ct) ps sp:=by
  refine⟨len,fun A outer s H args us vs Q E hr e0 hb r cH=>?_⟩;have hl:=len _ _ _ _ cH;have KX:K.In s.heap:=e0.mod.kin.keeps fun b o e=>(e0.bs b o e).1;have lim:s.heap.NoLimit:=e0.mod.nolimit.keeps fun b o e=>(e0.bs b o e).1;have hkind:∀y∈ps.zip us,scope.names.lookup y.1=some .local\/(scope.names.lookup y.1=some .cell/\((cellsFrom (s.heap.objs.size+1) scope.names []).lookup y.1).isSome=true):=fun ⟨n,v⟩ hy=>by
    rcases S.par n (pJ hy).1 with q|q
    . exact .inl q
    . exact .inr ⟨q,pC _ _ _ (.inl q)⟩
  refine codeAny_call_function hr.depth (KX _ _ lk) rfl S.co S.gen rfl (sO KX cq) (hb _ _ _ _ ?_);refine wpAny_newFunctionEnv_cells S.kind hkind fun env he s1 x=>?_;subst he;refine⟨lim.keeps x.toInCall.keep,codeAny_func ?_⟩;obtain⟨t,ht,hq⟩:=aP A outer s H vs Q E (hr.deeper _) cH;have I:Inv (cxOf CX P w K mg base N qual scope f au A outer s H E) [] (start N vs) H s1:=Ru S hr.hd e0 hl r x;refine q1_ (ht [] s1 (start N vs) H _ I hq) (fun fl s' hs=>?_) fun e s' hs=>hs;have fin:∀{aj:St} {H':Hp} {v:V} {u:Value},Inv (cxOf CX P w K mg base N qual scope f au A outer s H E) [] aj H' s'->RelV v u->Q v H'->CE outer P w H s Q u s' :=
    fun {aj H' v u} J rv q=>⟨v,H',J.os,J.bare,J.base,J.hok,rv,q⟩
  cases fl with
  |ret u=>
    obtain⟨v,aj,H',J,rv,q⟩:=hs;exact fin J rv q
  |next=>
    obtain⟨aj,H',J,q⟩:=hs;exact fin (v:=V.non) (u:=Value.none) J rfl q
  |brk=>
    obtain⟨_,_,_,q⟩:=hs;exact oz q
  |cont=>
    obtain⟨_,_,_,q⟩:=hs;exact oz q
end L2
namespace L2
open PySem PySem.Spec PyProof.Rows
section
variable {X:Cx} {x:Str} {p pos:Pos} {e:Expr} {es:List Expr} {t:TA} {id T:String} {r:List V->Hp->VK->Prop}
noncomputable def tCB (r:List V->Hp->VK->Prop)(t:TA):TE:=fun σ H Q=>t σ H fun vs H1=>r vs H1 Q
def AE (hc:DA X (.builtin id) r)(hg:Gl X x)(hm:X.mg x=none)(hv:bootBuiltins x=some (.builtin id))(ha:PA X (e::es) t)(hn:x ≠ "__name__" := by decide)(cW:(x==("__debug__" : Str))=false:=by decide)
  (he:starEach (e::es) X.env=(false,eval e X.env)::starEach es X.env:=by rfl) (b7:(backTo pos (starEach es X.env)).any (·.1)=false:=by rfl):PE X (.Call (.Name x p) (e::es) [] pos) (tCB r t):=by
 intro ae s σ H Q I h;refine qP_ (Js I hg hm hv ?_ hn cW);exact qA (thn (ha pos ae s σ H _ I h) fun us s1 ⟨vs,H1,I1,r1,q1⟩=>hc ae s1 σ H1 vs us Q I1 r1 q1) he b7
def Av (hc:DA X (.type T) r)(hg:Gl X x)(hm:X.mg x=none)(hv:bootBuiltins x=some (.type T))(ha:PA X (e::es) t)(hn:x ≠ "__name__" := by decide)(cW:(x==("__debug__" : Str))=false:=by decide)
  (he:starEach (e::es) X.env=(false,eval e X.env)::starEach es X.env:=by rfl) (b7:(backTo pos (starEach es X.env)).any (·.1)=false:=by rfl):PE X (.Call (.Name x p) (e::es) [] pos) (tCB r t):=by
 intro ae s σ H Q I h;refine qP_ (Js I hg hm hv ?_ hn cW);exact qk_ (thn (ha pos ae s σ H _ I h) fun us s1 ⟨vs,H1,I1,r1,q1⟩=>hc ae s1 σ H1 vs us Q I1 r1 q1) he b7
end
end L2
namespace HT
open PySem PyProof.Rows
section
variable {prog:Program} {w:World} {A:Around} {E:Value->Shared->Prop} {s:Shared}
def cat_tup (ht:IsTup s.heap t vs.toArray)(hb:IsTup s.heap b ws.toArray)(hv:vs ≠ [])
  (h1:ws=[]->Q (.ref t) s) (h2:ws ≠ []->Q (.ref s.heap.objs.size) {s with heap:=s.heap.push {cls:=.type "tuple",data:=.seq (vs++ws).toArray} })
  (hsz:vs.length+ws.length<=sizeLine):wpAny (model prog w) A (binaryOp .Add (.ref t) (.ref b)) Q E s:=by
 obtain⟨⟨cls,dd,data,sl⟩,ho,hc,n,hd⟩:=id ht;obtain⟨⟨cls2,ll,data2,lp⟩,g8,cC,n2,jU⟩:=id hb;simp only at hc hd cC jU;subst hc hd cC jU;have e:vs.toArray++ws.toArray=(vs++ws).toArray:=by simp
 by_cases hw:ws=[]
 ·exact concat_meets ⟨_,ho,rfl⟩ ⟨_,g8,rfl⟩ noFill_tuple_add seq_tuple_add x4_ x0_ (xW_ _ _)
   (tuple_addW1 t b vs.toArray ws.toArray n n2 dd ll sl lp (by simpa using hv) (by simp[hw])) ⟨ho,g8,h1 hw⟩
 ·refine concat_meets ⟨_,ho,rfl⟩ ⟨_,g8,rfl⟩ noFill_tuple_add seq_tuple_add x4_ x0_ (xW_ _ _)
   (tuple_addW2 t b vs.toArray ws.toArray n n2 dd ll sl lp (by simpa using hv) (by simpa using hw) (by rw[jk_,jk_];exact hsz)) ⟨ho,g8,?_⟩
  rw[e];exact h2 hw
noncomputable def sIx (n d:Nat):Option Int->Nat
 |none=>d
 |some v=>if v<0 then (v+(n:Int)).toNat else min v.toNat n
def sIx_none (n d:Nat):sIx n d none=d:=rfl
def sIx_nat (n d k:Nat):sIx n d (some (k:Int))=min k n:=by
 show (if (k:Int)<0 then ((k:Int)+(n:Int)).toNat else min (k:Int).toNat n)=min k n;rw[if_neg s!"",jC_]
def XR (n d:Nat)(hd:d<=n)(o:Option Int):sIx n d o<=n:=by
 cases o with
 |none=>exact hd
 |some v=>
  show (if v<0 then (v+(n:Int)).toNat else min v.toNat n)<=n;by_cases hv:v<0
  ·rw[if_pos hv];lia
  ·rw[if_neg hv];exact Nat.min_le_right _ _
def Rv (v:Int)(n d:Nat):(if v<0 then max (v+(n:Int)) 0 else min v (n:Int))=((sIx n d (some v):Nat):Int):=by
 show (if v<0 then max (v+(n:Int)) 0 else min v (n:Int))=(((if v<0 then (v+(n:Int)).toNat else min v.toNat n):Nat):Int);by_cases hv:v<0
 ·simp only[if_pos hv];lia
 ·simp only[if_neg hv];lia
def Qt (lo hi:Option Int)(n:Nat):Builtin.Slice.sliceAdjust lo hi 1 (n:Int)=(((sIx n 0 lo:Nat):Int),((sIx n n hi:Nat):Int)):=by
 have h1:¬ ((1:Int)<0):=by lia
 unfold Builtin.Slice.sliceAdjust;simp only[h1,q7_];refine Prod.ext ?_ ?_
 ·cases lo with
  |none=>rfl
  |some v=>exact Rv v n 0
 ·cases hi with
  |none=>rfl
  |some v=>exact Rv v n n
def Qu (i j:Nat):Builtin.Slice.slicePlaces (i:Int) (j:Int) 1=j-i:=by
 unfold Builtin.Slice.slicePlaces;have h1:(1:Int) > 0:=by lia
 simp only[h1,xS_,Int.ediv_one];split<;>lia
def LV (p:IsPart v o)(h:Q o s):wpAny (model prog w) A (Builtin.Slice.slicePartIndex v) Q E s:=by
 cases p with
 |none=>exact slicePart_none h
 |int i t=>exact slicePart_int h
def JU {sl:Addr}{vl vu:Value}{lo hi:Option Int}{n:Nat}{Q:Int×Int×Nat->Shared->Prop}(hs:s.heap.IsSliceOf sl vl vu .none)(pl:IsPart vl lo)(pu:IsPart vu hi)
  (h:Q (((sIx n 0 lo:Nat):Int),1,sIx n n hi-sIx n 0 lo) s):wpAny (model prog w) A (Builtin.Slice.sliceApplied (.ref sl) (pure (n:Int))) Q E s:=by
 obtain⟨os,g9,hcs,jm⟩:=id hs;unfold Builtin.Slice.sliceApplied Builtin.Slice.sliceFields;refine jg_ (jg_ (wpAny_field g9 jm (x:=vl) rfl (jg_ (wpAny_field g9 jm (x:=vu) rfl (jg_ (wpAny_field g9 jm (x:=.none) rfl (jt_ ?_)))))));refine jg_ (slicePart_none ?_);show wpAny _ _ (if ((1:Int)==0)=true then _ else _) _ _ s;rw[if_neg (by decide)];refine jg_ (LV pl (jg_ (LV pu (jg_ (jt_ ?_)))));show wpAny _ _ (match Builtin.Slice.sliceAdjust lo hi 1 (n:Int) with|(lo,hi)=>pure (lo,(1:Int),Builtin.Slice.slicePlaces lo hi 1)) _ _ s;rw[Qt lo hi n];show wpAny _ _ (pure (((sIx n 0 lo:Nat):Int),(1:Int),Builtin.Slice.slicePlaces ((sIx n 0 lo:Nat):Int) ((sIx n n hi:Nat):Int) 1)) _ _ s;rw[Qu];exact jt_ h
def T5 (xs:Array Value)(i k:Nat):((om k).filterMap fun (m:Nat)=>xs[((i:Int)+(m:Int)*1).toNat]?).toArray=((xs.toList.drop i).take k).toArray:=by
 have e:(fun (m:Nat)=>xs[((i:Int)+(m:Int)*1).toNat]?)=fun m=>xs[i+m]?:=by
  funext m
  have:((i:Int)+(m:Int)*1).toNat=i+m:=by lia
  rw[this]
 rw[e];have:=pick_run xs i k;rw[List.filterMap_map]at this;have e2:((fun x=>xs[x]?) ∘ fun x=>i+x)=fun m=>xs[i+m]?:=rfl;rw[e2]at this;rw[this]
def getItem_tuple_cut {t sl:Addr} {lo hi:Option Int} (ht:IsTup s.heap t items)(hs:s.heap.IsSliceOf sl vl vu .none)(pl:IsPart vl lo)(pu:IsPart vu hi)
  (hw:¬ (sIx items.size 0 lo=0/\sIx items.size items.size hi=items.size))
  (h:Q (.ref s.heap.objs.size) {s with heap:=s.heap.push {cls:=.type "tuple",data:=.seq ((items.toList.drop (sIx items.size 0 lo)).take (sIx items.size items.size hi-sIx items.size 0 lo)).toArray} })
  (hsz:items.size<=sizeLine):wpAny (model prog w) A (getItem (.ref t) (.ref sl)) Q E s:=by
 have du:sizeOk (.seq ((items.toList.drop (sIx items.size 0 lo)).take (sIx items.size items.size hi-sIx items.size 0 lo)).toArray):=by
  show ((items.toList.drop (sIx items.size 0 lo)).take (sIx items.size items.size hi-sIx items.size 0 lo)).toArray.size<=sizeLine;rw[jk_,jI_,qR_,qj_];lia
 have hj:sIx items.size items.size hi<=items.size:=XR _ _ (jh_ _) hi;obtain⟨os,g9,hcs,jm⟩:=id hs;have hTs:s.TypeIs (.ref sl) "slice" := ⟨os,g9,hcs⟩;unfold getItem
 try with_reducible refine q5_ ?_
 first|refine jg_ (jt_ ?_)|skip
 refine jg_ (wpAny_sequenceKey ht.typeIs (by decide) ?_);refine jg_ (xm_ (name:=Str.ofString "__getitem__") ht.typeIs xd_
  (q3_ xd_ ht.typeIs entry_tuple_getitem ?_ (args_tuple_getitem _ _)))
 show wpAny _ _ (Builtin.Tuple.tupleItemsOf (.ref t) >>= _) _ _ s;refine jg_ (tupleItemsOf_ ht ?_);refine jg_ (wpAny_typeOf hTs ?_);rw[if_pos (by decide)];refine jg_ (JU hs pl pu ?_);have bc:¬ ((((sIx items.size 0 lo:Nat):Int)==0&&(1:Int)==1&&(sIx items.size items.size hi-sIx items.size 0 lo)==items.size)=true):=by
  intro q;rw[qb_,qb_]at q;have q1:((sIx items.size 0 lo:Nat):Int)=0:=eq_of_beq q.1.1;have q2:sIx items.size items.size hi-sIx items.size 0 lo=items.size:=eq_of_beq q.2;exact hw ⟨by lia,by lia⟩
 show wpAny _ _ (if (((sIx items.size 0 lo:Nat):Int)==0&&(1:Int)==1&&(sIx items.size items.size hi-sIx items.size 0 lo)==items.size)=true then _ else _) _ _ s;rw[if_neg bc,T5]
 first
  | exact jg_ (m:=Builtin.Tuple.tupleExact _) (qv_ (jt_ ⟨_,rfl,jt_ h⟩) du)
  | exact jg_ (m:=Builtin.Tuple.tupleExact _) (qv_ (jg_ (jt_ (jt_ ⟨_,rfl,jt_ h⟩))) du)
  | exact jg_ (jg_ (m:=Builtin.Tuple.tupleExact _) (qv_ (jt_ (jt_ ⟨_,rfl,jt_ h⟩)) du))
  | exact jg_ (jg_ (m:=Builtin.Tuple.tupleExact _) (qv_ (jt_ ⟨_,rfl,jt_ h⟩) du))
end
end HT
namespace L2
open PySem PySem.Spec PyProof.Rows
noncomputable abbrev TO:=St->Hp->(Option Int->Hp->Prop)->Prop
noncomputable def PO (X:Cx)(e:Option Expr)(t:TO):Prop:=
 ∀(ae:α7) (s:Shared) (σ:St) (H:Hp) (Q:Option Int->Hp->Prop),Inv X ae σ H s->t σ H Q ->
  wpAny (model X.prog X.w) X.A (evalPart e X.env) (fun u s'=>∃o H',Inv X ae σ H' s'/\IsPart u o/\Q o H') X.xe s
noncomputable def Rw:TO:=fun _ H Q=>Q none H
noncomputable def XS (t:TE):TO:=fun σ H Q=>t σ H fun x H1=>∃i,x=.int i/\Q (some i) H1
def intsAre_of : ∀{us:List Value},Vals (ns.map V.int) us->IntsAre us ns:=by
 induction ns with
 |nil=>intro us r;rw[ql]at r;cases r;exact .nil
 |cons n ns ih=>
  intro us r;rw[jJ_]at r;cases r with
  |cons r1 r2=>
   obtain⟨t,e⟩:=r1;subst e;exact .cons n t (ih r2)
section
variable {X:Cx} {e:Expr} {te:TE} {lo hi:Option Expr} {tl th:TO} {pos p2:Pos}
def E7:PO X none Rw:=by
 intro ae s σ H Q I h;rw[evalPart_none];exact jt_ ⟨none,H,I,.none,h⟩
def DL (h:PE X e te):PO X (some e) (XS te):=by
 intro ae s σ H Q I hw;rw[evalPart_some];refine thn (h ae s σ H _ I hw) fun u s1 ⟨x,H1,I1,r1,q1⟩=>?_;obtain⟨i,rfl,q⟩:=q1;obtain⟨t,rfl⟩:=r1;exact⟨some i,H1,I1,.int i t,q⟩
noncomputable def SlR (X:Cx)(r:V->Option Int->Option Int->Hp->VK->Prop):Prop:=
 ∀(ae:α7) (s:Shared) (σ:St) (H:Hp) (x:V) (v vl vu:Value) (lo hi:Option Int) (sl:Addr) (Q:VK),Inv X ae σ H s->RelV x v->s.heap.IsSliceOf sl vl vu .none->IsPart vl lo->IsPart vu hi->r x lo hi H Q ->
  ∃T id,typeLookup (.type T) "__getitem__"=pure (some (.builtin id))/\s.TypeIs v T/\wpAny (model X.prog X.w) X.A (getItem v (.ref sl)) (EP X ae σ Q) X.xe s
noncomputable def tSl (r:V->Option Int->Option Int->Hp->VK->Prop)(te:TE)(tl th:TO):TE:=fun σ H Q=>te σ H fun x H1=>tl σ H1 fun l H2=>th σ H2 fun u H3=>r x l u H3 Q
def CW (hr:SlR X r)(he:PE X e te)(hl:PO X lo tl)(hu:PO X hi th):PE X (.Subscript e (.Slice lo hi none p2) pos) (tSl r te tl th):=by
 intro ae s σ H Q I h;refine Subscript_ (thn (he ae s σ H _ I h) fun v s1 ⟨x,H1,I1,r1,q1⟩=>?_);refine wpAny_Slice (thn (hl ae s1 σ H1 _ I1 q1) fun vl s2 ⟨l,H2,I2,pl,q2⟩=>thn (hu ae s2 σ H2 _ I2 q2) fun vu s3 ⟨u,H3,I3,pu,q3⟩=>?_);rw[evalPart_none];refine jt_ ?_;have I4:Inv X ae σ H3 {s3 with heap:=s3.heap.push {cls:=.type "slice",data:=.fields #[vl,vu,.none]} }:=I3.kept (t':=s3.toks) fun b ob q=>jl_ _ q;obtain⟨T,id,hT,ht,hg⟩:=hr ae {s3 with heap:=s3.heap.push {cls:=.type "slice",data:=.fields #[vl,vu,.none]} } σ H3 x v vl vu l u s3.heap.objs.size Q I4 r1 (Heap.IsSliceOf.new ..) pl pu q3;show wpAny (model X.prog X.w) X.A (subscriptTail e (.Slice lo hi none p2) v (.ref s3.heap.objs.size)) (EP X ae σ Q) X.xe {s3 with heap:=s3.heap.push {cls:=.type "slice",data:=.fields #[vl,vu,.none]} };exact tail_any (ops:=[.ref s3.heap.objs.size,v]) ht hT hg (by with_unfolding_all rfl)
noncomputable def cutV (xs:List V)(lo hi:Option Int):List V:=(xs.drop (HT.sIx xs.length 0 lo)).take (HT.sIx xs.length xs.length hi-HT.sIx xs.length 0 lo)
def Kw (xs:List V)(lo hi:Option Int):(cutV xs lo hi).length<=xs.length:=by
 unfold cutV;rw[jI_,qR_];lia
noncomputable def rSlT (K:α3):V->Option Int->Option Int->Hp->VK->Prop:=fun x lo hi H Q=>∃a xs,x=.ref a/\SqT K H a xs /\
 ¬ (HT.sIx xs.length 0 lo=0/\HT.sIx xs.length xs.length hi=xs.length)/\∀p,H p=none->Q (.ref p) (upd H p (.tup (cutV xs lo hi)))
def Ve:SlR X (rSlT X.K):=by
 intro ae s σ H x v vl vu lo hi sl Q I rx hs pl pu h;obtain⟨a,xs,rfl,hx,hw,q⟩:=h;cases rx;obtain⟨its,r,ht,hz⟩:=I.tuple hx;have av:its.toArray.size=xs.length:=by rw[jk_];exact r.length.symm
 refine⟨"tuple",_,xd_.lookup,ht.typeIs,?_⟩;refine HT.getItem_tuple_cut ht hs pl pu (by rw[av];exact hw) ?_ (by rw[av];exact hz);rw[av];refine⟨.ref s.heap.objs.size,_,I.laid (t':=s.toks) (o:=.tup (cutV xs lo hi)) (fun b ob q=>jl_ _ q) (jh_ _) ?_,rfl,q _ (I.hok.fresh (jh_ _))⟩;exact⟨j1_ (Kw xs lo hi) hz,_,(r.drop (HT.sIx xs.length 0 lo)).take (HT.sIx xs.length xs.length hi-HT.sIx xs.length 0 lo),IsTup.new _ _⟩
noncomputable def Zf (K:α3):R2:=fun x y H Q=>∃a b xs ys,x=.ref a/\y=.ref b/\SqT K H a xs/\SqT K H b ys/\xs ≠ []/\xs.length+ys.length<=sizeLine /\
 (ys=[]->Q (.ref a) H)/\(ys ≠ []->∀p,H p=none->Q (.ref p) (upd H p (.tup (xs++ys))))
def Vals.nil_iff (r:Vals xs us):us=[]↔xs=[]:=by
 cases r with
 |nil=>simp
 |cons _ _=>simp
def Ww:OpR X (binaryOp .Add) (Zf X.K):=by
 intro ae s σ H x y v u Q I rx ry h;obtain⟨a,b,xs,ys,rfl,rfl,ha,hb,hx,hz,q1,q2⟩:=h;cases rx;cases ry;obtain⟨its,r1,p1,_⟩:=I.tuple ha;obtain⟨aE,r2,p2,_⟩:=I.tuple hb;refine HT.cat_tup p1 p2 (fun z=>hx (r1.nil_iff.mp z)) (fun z=>⟨.ref a,H,I,rfl,q1 (r2.nil_iff.mp z)⟩) (fun z=>?_) (by rw[<-r1.length,<-r2.length];exact hz);refine⟨.ref s.heap.objs.size,_,I.laid (t':=s.toks) (o:=.tup (xs++ys)) (fun b ob q=>jl_ _ q) (jh_ _) ?_,rfl,q2 (fun w=>z (r2.nil_iff.mpr w)) _ (I.hok.fresh (jh_ _))⟩;exact⟨by rw[jf_];exact hz,_,r1.append r2,IsTup.new _ _⟩
end
end L2
namespace L2
open PySem PySem.Spec PyProof.Rows
noncomputable def ixN (n:Nat)(i:Int):Option Nat:=if 0<=i then (if i<n then some i.toNat else none) else if -(n:Int)<=i then some (i+n).toNat else none
noncomputable def atI {α:Type}(xs:List α)(i:Int):Option α:=(ixN xs.length i).bind fun j=>xs[j]?
def Rx (h:ixN n i=some j):seqIndex? i n=some j/\j<n /\ -(n:Int)<=i/\i<n:=by
 unfold ixN at h;by_cases h0:0<=i
 ·rw[if_pos h0]at h;by_cases h1:i<n
  ·rw[if_pos h1]at h;have e:i.toNat=j:=jB_ h;exact⟨by rw[seqIndex_of h0 h1,e],by lia,by lia,h1⟩
  ·rw[if_neg h1]at h;cases h
 ·rw[if_neg h0]at h;by_cases h1 : -(n:Int)<=i
  ·rw[if_pos h1]at h;have e:(i+n).toNat=j:=jB_ h;exact⟨by rw[seqIndex_neg s!"" h1,e],by lia,h1,by lia⟩
  ·rw[if_neg h1]at h;cases h
def Ox (h:atI xs i=some v):∃j,seqIndex? i xs.length=some j/\xs[j]?=some v/\j<xs.length /\ -(xs.length:Int)<=i/\i<xs.length:=by
 unfold atI at h;cases e:ixN xs.length i with
 |none=>rw[e]at h;cases h
 |some j=>
  rw[e]at h;obtain⟨h1,h2,h3,h4⟩:=Rx e;exact⟨j,h1,h,h2,h3,h4⟩
def G9 {α:Type}{xs:List α}{j:Nat}{v:α}(h:xs[j]?=some v):atI xs (j:Int)=some v:=by
 have hj:j<xs.length:=(ja_.mp h).1;have e:ixN xs.length (j:Int)=some j:=by
  unfold ixN;rw[if_pos s!"",if_pos s!""];simp
 unfold atI;rw[e];exact h
noncomputable def Ry (b:Expr):Prop:=∀o i,subscripted b false o i=operate [o,i] (getItem o i)
noncomputable def IxR (X:Cx)(r:R2):Prop:=
 ∀(value slice:Expr) (ae:α7) (s:Shared) (σ:St) (H:Hp) (x y:V) (v u:Value) (Q:VK),Inv X ae σ H s->RelV x v->RelV y u->r x y H Q ->
  subscripted slice false v u=operate [v,u] (getItem v u)->wpAny (model X.prog X.w) X.A (subscriptTail value slice v u) (EP X ae σ Q) X.xe s
noncomputable def MtR (X:Cx)(id:String)(r:V->List V->Hp->VK->Prop):Prop:=
 ∀(ae:α7) (s:Shared) (σ:St) (H:Hp) (x:V) (xs:List V) (v:Value) (us:List Value) (Q:VK),Inv X ae σ H s->RelV x v->Vals xs us->r x xs H Q ->
  wpAny (model X.prog X.w) X.A (call (.builtin id) (v::us)) (EP X ae σ Q) X.xe s
section
variable {X:Cx} {a b:Expr} {ta tb:TE} {pos:Pos}
def T6 (hr:IxR X r)(ha:PE X a ta)(hb:PE X b tb)(hs:Ry b):PE X (.Subscript a b pos) (tOp r ta tb):=by
 intro ae s σ H Q I h;exact Subscript_ (binT ha hb I h fun v u s2 x y H2 I2 rx ry q=>hr a b ae s2 σ H2 x y v u Q I2 rx ry q (hs _ _))
noncomputable def rIxL (K:α3):R2:=fun x y H Q=>∃p xs i v,x=.ref p/\y=.int i/\SqL K H p xs/\atI xs i=some v/\Q v H
noncomputable def rIxT (K:α3):R2:=fun x y H Q=>∃p xs i v,x=.ref p/\y=.int i/\SqT K H p xs/\atI xs i=some v/\Q v H
noncomputable def rIxS:R2:=fun x y H Q=>∃z i c,x=.str z/\y=.int i/\z.length<=sizeLine/\atI z.cps.toList i=some c/\Q (.str ⟨#[c]⟩) H
def AZ:IxR X (rIxL X.K):=by
 intro value slice ae s σ H x y v u Q I rx ry h hs;obtain⟨p,xs,i,z,rfl,rfl,hq,he,q⟩:=h;cases rx;obtain⟨t,rfl⟩:=ry;obtain⟨its,r,pl,hz⟩:=I.list hq;obtain⟨j,h1,h2,h3,h4,h5⟩:=Ox he;obtain⟨w,ew,aM⟩:=r.get h2;have hl:=r.length;have hn:=LS;have fin:EP X ae σ Q w s:=⟨z,H,I,aM,q⟩;by_cases h0:0<=i
 ·have hj:i.toNat=j:=by
   rw[seqIndex_of h0 h5]at h1;exact jB_ h1
  exact item_listR pl.isList h0 s!"" (by rw[hj];simpa using ew) fin hs
 ·have hj:(i+(its.toArray.size:Int)).toNat=j:=by
   rw[seqIndex_neg s!"" h4]at h1;rw[jk_,<-hl];exact jB_ h1
  exact subscriptTail_builtinR (x:=w) pl.isList.typeIs slot_list_getitem.lookup
   (wpAny_getItem_list_neg (Q:=fun r s'=>r=w/\EP X ae σ Q r s') pl.isList s!"" (by rw[jk_]<;>lia) s!"" (by rw[hj];simpa using ew) ⟨rfl,fin⟩) hs
def An:IxR X (rIxT X.K):=by
 intro value slice ae s σ H x y v u Q I rx ry h hs;obtain⟨p,xs,i,z,rfl,rfl,hq,he,q⟩:=h;cases rx;obtain⟨t,rfl⟩:=ry;obtain⟨its,r,pl,hz⟩:=I.tuple hq;obtain⟨j,h1,h2,h3,h4,h5⟩:=Ox he;obtain⟨w,ew,aM⟩:=r.get h2;have hl:=r.length;have hn:=LS;have fin:EP X ae σ Q w s:=⟨z,H,I,aM,q⟩;exact subscriptTail_builtinR (x:=w) pl.typeIs slot_tuple_getitem.lookup
  (getItem_tuple (j:=j) (Q:=fun r s'=>r=w/\EP X ae σ Q r s') pl s!"" s!"" (by rw[jk_,<-hl];exact h1) (by simpa using ew) ⟨rfl,fin⟩) hs
def Rz:IxR X rIxS:=by
 intro value slice ae s σ H x y v u Q I rx ry h hs;obtain⟨z,i,c,rfl,rfl,hz,he,q⟩:=h;obtain⟨t,rfl⟩:=rx;obtain⟨t',rfl⟩:=ry;obtain⟨j,h1,h2,h3,h4,h5⟩:=Ox he;have hl:z.cps.toList.length=z.length:=by simp[Str.length]
 rw[hl]at h1 h4 h5;have hn:=LS;exact tail_any (zC_ s z t) slot_str_getitem.lookup (getItem_str (c:=c) (by
  have e1:decide (i < -(2 ^ 63:Int))=false:=jP_ s!"";have e2:decide (i >= 2 ^ 63)=false:=jP_ s!"";rw[e1,e2,rK]) (by rw[h1];simpa using h2) ⟨.str ⟨#[c]⟩,H,I.tok _,⟨_,rfl⟩,q⟩) hs
def Qv (its:List Value)(n j:Nat)(u:Value):Obj.mapSeq (·.setIfInBounds j u) {cls:=.type "list",data:=.seq its.toArray n}={cls:=.type "list",data:=.seq (its.set j u).toArray n}:=by
 simp[Obj.mapSeq]
def Inv.lst {ae:α7}{σ:St}{H:Hp}{s:Shared}{p:Addr}{xs:List V}(I:Inv X ae σ H s)(h:H p=some (.lst xs)):
  ∃(its:List Value) (n:Nat),Vals xs its/\s.heap.get? p=some {cls:=.type "list",data:=.seq its.toArray n}/\xs.length<=sizeLine:=by
 obtain⟨z,its,n,r,e⟩:=I.hok p _ h;exact⟨its,n,r,e,z⟩
def Inv.lstUpd {its its':List Value} (I:Inv X ae σ H s)(h:H p=some (.lst xs))
  (ho:s.heap.get? p=some {cls:=.type "list",data:=.seq its.toArray n}) (hf:f {cls:=.type "list",data:=.seq its.toArray n}={cls:=.type "list",data:=.seq its'.toArray n' }) (r:Vals ys its') (hz:ys.length<=sizeLine) (t:Nat):
  Inv X ae σ (upd H p (.lst ys)) {s with heap:=s.heap.update p f,toks:=t}:=by
 have e:(s.heap.update p f).get? p=some {cls:=.type "list",data:=.seq its'.toArray n' }:=by
  rw[qK_ f ho (by rw[hf]<;>rfl),hf]
 refine I.write (x:=p) (e:=p) (by rw[h];trivial) (.inl rfl) (fun b u hb q=>(qo_ _ _ (qm_ hb)).trans q) ⟨_,e⟩ ?_;exact⟨hz,its',n',r,e⟩
noncomputable def XT:V->V->V->Hp->(Hp->Prop)->Prop:=fun o i v H Q=>∃p xs k j,o=.ref p/\i=.int k/\H p=some (.lst xs)/\ixN xs.length k=some j/\Q (upd H p (.lst (xs.set j v)))
def set_list:PSet X XT:=by
 intro ae s σ H o i v ov iv u Q I ro ri rv h;obtain⟨p,xs,k,j,rfl,rfl,hp,hj,q⟩:=h;cases ro;obtain⟨t,rfl⟩:=ri;obtain⟨its,n,r,ho,hz⟩:=I.lst hp;obtain⟨h1,h2,h3,h4⟩:=Rx hj;have hl:=r.length;have hn:=LS;have I':Inv X ae σ (upd H p (.lst (xs.set j v))) {s with heap:=s.heap.update p (Obj.mapSeq (·.setIfInBounds j u))}:=
  I.lstUpd hp ho (Qv its n j u) (r.set rv j) (by rw[qJ];exact hz) s.toks
 by_cases h0:0<=k
 ·have hk:k.toNat=j:=by
   rw[seqIndex_of h0 h4]at h1;exact jB_ h1
  exact tM ho h0 s!"" (by rw[jk_,<-hl];exact h4) (by rw[hk];exact⟨_,I',q⟩)
 ·have hk:(k+(its.toArray.size:Int)).toNat=j:=by
   rw[seqIndex_neg s!"" h3]at h1;rw[jk_,<-hl];exact jB_ h1
  exact sP ho s!"" (by rw[jk_,<-hl];exact h3) s!"" (by rw[hk];exact⟨_,I',q⟩)
def Nv (lo hi:Option Int)(n:Nat):(sliceBounds lo hi none n).1=((HT.sIx n 0 lo:Nat):Int)/\(sliceBounds lo hi none n).2.1=((HT.sIx n n hi:Nat):Int)/\(sliceBounds lo hi none n).2.2=1:=by
 refine⟨?_,?_,rfl⟩
 ·cases lo with
  |none=>simp[sliceBounds,HT.sIx]
  |some i=>
   simp only[sliceBounds,HT.sIx,qB,show (1:Int) > 0 by decide,xS_];by_cases h:i<0
   ·simp only[h,xS_]<;>lia
   ·simp only[h,q7_]<;>lia
 ·cases hi with
  |none=>simp[sliceBounds,HT.sIx]
  |some i=>
   simp only[sliceBounds,HT.sIx,qB,show (1:Int) > 0 by decide,xS_];by_cases h:i<0
   ·simp only[h,xS_]<;>lia
   ·simp only[h,q7_]<;>lia
def Mt (its:List Value)(lo hi:Option Int):slicePick its.toArray lo hi none=((its.drop (HT.sIx its.length 0 lo)).take (HT.sIx its.length its.length hi-HT.sIx its.length 0 lo)).toArray:=by
 obtain⟨h1,h2,h3⟩:=Nv lo hi its.toArray.size;unfold slicePick;rw[h1,h2,h3];simp only[sliceRange_one,pick_run,jk_]<;>rfl
noncomputable def rSlL (K:α3):V->Option Int->Option Int->Hp->VK->Prop:=fun x lo hi H Q=>∃a xs,x=.ref a/\SqL K H a xs/\∀p,H p=none->Q (.ref p) (upd H p (.lst (cutV xs lo hi)))
def Kx:SlR X (rSlL X.K):=by
 intro ae s σ H x v vl vu lo hi sl Q I rx hs pl pu h;obtain⟨a,xs,rfl,hx,q⟩:=h;cases rx;obtain⟨its,r,ht,hz⟩:=I.list hx;have av:=r.length;refine⟨"list",_,slot_list_getitem.lookup,ht.isList.typeIs,?_⟩;refine wpAny_getItem_list_slice ht.isList hs pl pu .none (by simp) ?_ (by rw[jk_]<;>lia);rw[Mt,<-av];refine⟨.ref s.heap.objs.size,_,I.laid (t':=s.toks) (o:=.lst (cutV xs lo hi)) (fun b ob q=>jl_ _ q) (jh_ _) ?_,rfl,q _ (I.hok.fresh (jh_ _))⟩;exact⟨j1_ (Kw xs lo hi) hz,_,0,(r.drop (HT.sIx xs.length 0 lo)).take (HT.sIx xs.length xs.length hi-HT.sIx xs.length 0 lo),jw_ _ rfl⟩
noncomputable def E3:V->Bool
 |.non=>true
 |.bl _=>true
 |.int _=>true
 |.str _=>true
 |_=>false
noncomputable def eqV:V->V->Bool
 |.non,.non=>true
 |.bl a,.bl b=>a==b
 |.bl a,.int b=>(if a then 1 else 0)==b
 |.int a,.bl b=>a==(if b then 1 else 0)
 |.int a,.int b=>a==b
 |.str a,.str b=>a==b
 |_,_=>false
def RA (ry:RelV y u)(rx:RelV x v)(fy:E3 y=true)(fx:E3 x=true):SeqAt.EqAt A s u v (eqV y x):=by
 cases y with
 |non=>
  cases ry;cases x with
  |non=>cases rx;exact SeqAt.EqAt.same _
  |bl b=>cases rx;exact SeqAt.EqAt.none_bool b
  |int b=>obtain⟨t,rfl⟩:=rx;exact SeqAt.EqAt.none_int b t
  |str b=>obtain⟨t,rfl⟩:=rx;exact SeqAt.EqAt.none_str b t
  |_=>exact absurd (show false=true from fx) jy_
 |bl a=>
  cases ry;cases x with
  |non=>cases rx;exact SeqAt.EqAt.bool_none a
  |bl b=>cases rx;exact SeqAt.EqAt.bool_bool a b
  |int b=>obtain⟨t,rfl⟩:=rx;exact SeqAt.EqAt.bool_int a b t
  |str b=>obtain⟨t,rfl⟩:=rx;exact SeqAt.EqAt.bool_str a b t
  |_=>exact absurd (show false=true from fx) jy_
 |int a=>
  obtain⟨t',rfl⟩:=ry;cases x with
  |non=>cases rx;exact SeqAt.EqAt.int_none a t'
  |bl b=>cases rx;exact SeqAt.EqAt.int_bool a t' b
  |int b=>obtain⟨t,rfl⟩:=rx;exact SeqAt.EqAt.int_int a t' b t
  |str b=>obtain⟨t,rfl⟩:=rx;exact SeqAt.EqAt.int_str a t' b t
  |_=>exact absurd (show false=true from fx) jy_
 |str a=>
  obtain⟨t',rfl⟩:=ry;cases x with
  |non=>cases rx;exact SeqAt.EqAt.str_none a t'
  |bl b=>cases rx;exact SeqAt.EqAt.str_bool a t' b
  |int b=>obtain⟨t,rfl⟩:=rx;exact SeqAt.EqAt.str_int a t' b t
  |str b=>obtain⟨t,rfl⟩:=rx;exact SeqAt.EqAt.str_str a t' b t
  |_=>exact absurd (show false=true from fx) jy_
 |_=>exact absurd (show false=true from fy) jy_
noncomputable def eqU (x:V)(u:Value):Bool:=match u with
 |.none=>eqV .non x
 |.bool b=>eqV (.bl b) x
 |.int i _=>eqV (.int i) x
 |.str z _=>eqV (.str z) x
 |_=>false
def Vf (r:RelV y u)(f:E3 y=true):eqU x u=eqV y x:=by
 cases y with
 |non=>cases r;rfl
 |bl b=>cases r;rfl
 |int i=>obtain⟨t,rfl⟩:=r;rfl
 |str z=>obtain⟨t,rfl⟩:=r;rfl
 |_=>exact absurd (show false=true from f) jy_
def Ky {x:V}:∀{xs:List V} {us:List Value},Vals xs us->xs.all E3=true->us.any (eqU x)=xs.any fun y=>eqV y x
 |_,_,.nil,_=>rfl
 |y::xs,u::us,.cons r t,f=>by
  rw[rL,qb_]at f;rw[zi_,zi_,Vf r f.1,Ky t f.2]
def Hz {A:Around}{s:Shared}{x:V}{v:Value}(rx:RelV x v)(fx:E3 x=true):∀{xs:List V} {us:List Value},Vals xs us->xs.all E3=true->∀u∈us,SeqAt.EqAt A s u v (eqU x u)
 |_,_,.nil,_=>fun u hu=>by cases hu
 |y::xs,u::us,.cons r t,f=>fun u' hu=>by
  rw[rL,qb_]at f;rcases jr_.mp hu with rfl|hu
  ·rw[Vf r f.1];exact RA r rx f.1 fx
  ·exact Hz rx fx t f.2 u' hu
noncomputable def inV (x:V)(xs:List V):Bool:=xs.any fun y=>eqV y x
noncomputable def rIn (K:α3)(hJ:Bool):R2:=fun x y H Q=>∃p xs,y=.ref p/\(SqL K H p xs\/SqT K H p xs)/\E3 x=true/\xs.all E3=true/\Q (.bl (if hJ then !inV x xs else inV x xs)) H
def Nw:OpR X (compareOp .In) (rIn X.K false):=by
 intro ae s σ H x y v u Q I rx ry h;obtain⟨p,xs,rfl,hq,fx,fs,q⟩:=h;cases ry;rcases hq with hq|hq
 ·obtain⟨its,r,pl,hz⟩:=I.list hq;refine SeqAt.in_listAt (eqU x) pl.isList (fun w hw=>Hz rx fx r fs w (by simpa using hw)) ⟨.bl _,H,I,rfl,?_⟩;rw[show its.toArray.any (eqU x)=its.any (eqU x) by simp,Ky r fs];exact q
 ·obtain⟨its,r,pl,hz⟩:=I.tuple hq;refine SeqAt.in_tupleAt (eqU x) pl (fun w hw=>Hz rx fx r fs w (by simpa using hw)) ⟨.bl _,H,I,rfl,?_⟩;rw[show its.toArray.any (eqU x)=its.any (eqU x) by simp,Ky r fs];exact q
def Nx:OpR X (compareOp .NotIn) (rIn X.K true):=by
 intro ae s σ H x y v u Q I rx ry h;obtain⟨p,xs,rfl,hq,fx,fs,q⟩:=h;cases ry;rcases hq with hq|hq
 ·obtain⟨its,r,pl,hz⟩:=I.list hq;refine SeqAt.notIn_listAt (eqU x) pl.isList (fun w hw=>Hz rx fx r fs w (by simpa using hw)) ⟨.bl _,H,I,rfl,?_⟩;rw[show its.toArray.any (eqU x)=its.any (eqU x) by simp,Ky r fs];exact q
 ·obtain⟨its,r,pl,hz⟩:=I.tuple hq;refine SeqAt.notIn_tupleAt (eqU x) pl (fun w hw=>Hz rx fx r fs w (by simpa using hw)) ⟨.bl _,H,I,rfl,?_⟩;rw[show its.toArray.any (eqU x)=its.any (eqU x) by simp,Ky r fs];exact q
def Aq:DA X (.builtin "len") (fun xs H Q=>∃p ys,xs=[.ref p]/\(SqL X.K H p ys\/SqT X.K H p ys)/\Q (.int ys.length) H):=by
 intro ae s σ H xs us Q I r h;obtain⟨p,ys,rfl,hq,q⟩:=h;obtain⟨u,rfl,rx⟩:=vals1 r;cases rx;have hn:=LS;rcases hq with hq|hq
 ·obtain⟨its,r',pl,hz⟩:=I.list hq;have av:=r'.length;exact Calls.call_len_list pl.isList (by simp only[jk_]<;>lia) ⟨.int ys.length,H,I.tok _,⟨s.toks+1,by rw[jk_,av]⟩,q⟩
 ·obtain⟨its,r',pl,hz⟩:=I.tuple hq;have av:=r'.length;exact len_tuple pl (by simp only[jk_]<;>lia) ⟨.int ys.length,H,I.tok _,⟨s.toks+1,by rw[jk_,av]⟩,q⟩
def Ny:DA X (.builtin "len") (fun xs H Q=>∃z,xs=[.str z]/\z.length<=sizeLine/\Q (.int z.length) H):=by
 intro ae s σ H xs us Q I r h;obtain⟨z,rfl,hz,q⟩:=h;obtain⟨u,rfl,t,rfl⟩:=vals1 r;have hn:=LS;exact len_str s!"" ⟨.int z.length,H,I.tok _,⟨_,rfl⟩,q⟩
def Jv:DA X (.type "list") (fun xs H Q=>∃p ys,xs=[.ref p]/\(SqL X.K H p ys\/SqT X.K H p ys)/\∀l,H l=none->Q (.ref l) (upd H l (.lst ys))):=by
 intro ae s σ H xs us Q I r h;obtain⟨p,ys,rfl,hq,q⟩:=h;obtain⟨u,rfl,rx⟩:=vals1 r;cases rx;have fin:∀(its:List Value),Vals ys its->ys.length<=sizeLine->∀(h':Heap) (c':Nat),(∀b o',s.heap.get? b=some o'->h'.get? b=some o') ->
   h'.get? s.heap.objs.size=some {cls:=.type "list",dict:=none,data:=.seq its.toArray c',slots := #[]}->EP X ae σ Q (.ref s.heap.objs.size) {s with heap:=h' }:=fun its r' hz h' c' kp e=>
  ⟨.ref s.heap.objs.size,_,I.laid (t':=s.toks) kp (jh_ _) (show A6 X.prog X.w _ h' _ (.lst ys) from ⟨hz,its,c',r',e⟩),rfl,q _ (I.hok.fresh (jh_ _))⟩
 rcases hq with hq|hq
 ·obtain⟨its,r',pl,hz⟩:=I.list hq;have av:=r'.length;obtain⟨o,ho,hc,n,hd⟩:=pl.isList;exact call_list_seq p (.inl rfl) ho hc hd (fun h' c' kp e=>fin its r' hz h' c' kp e) (by simp only[jk_]<;>lia)
 ·obtain⟨its,r',pl,hz⟩:=I.tuple hq;have av:=r'.length;obtain⟨o,ho,hc,n,hd⟩:=pl;exact call_list_seq p (.inr rfl) ho hc hd (fun h' c' kp e=>fin its r' hz h' c' kp e) (by simp only[jk_]<;>lia)
def CY:DA X (.type "tuple") (fun xs H Q=>∃p ys,xs=[.ref p]/\((SqL X.K H p ys/\∀l,H l=none->Q (.ref l) (upd H l (.tup ys)))\/(SqT X.K H p ys/\Q (.ref p) H))):=by
 intro ae s σ H xs us Q I r h;obtain⟨p,ys,rfl,h⟩:=h;obtain⟨u,rfl,rx⟩:=vals1 r;cases rx;rcases h with ⟨hq,q⟩|⟨hq,q⟩
 ·obtain⟨its,r',pl,hz⟩:=I.list hq;have av:=r'.length;refine call_tuple_list pl.isList (fun h' kp=>?_) (by simp only[jk_]<;>lia);have I1:Inv X ae σ H {s with heap:=h' }:=I.kept (t':=s.toks) kp;have I2:Inv X ae σ (upd H h'.objs.size (.tup ys)) {s with heap:=h'.push {cls:=.type "tuple",data:=.seq its.toArray} }:=
   I1.laid (t':=s.toks) (fun b o e=>jl_ _ e) (jh_ _) (show A6 X.prog X.w _ _ _ (.tup ys) from ⟨hz,its,r',IsTup.new _ _⟩)
  exact⟨.ref h'.objs.size,_,I2,rfl,q _ (I1.hok.fresh (jh_ _))⟩
 ·obtain⟨its,r',pl,hz⟩:=I.tuple hq;exact call_tuple_same pl ⟨.ref p,H,I,rfl,q⟩
noncomputable def tyV (K:α3)(T:String)(x:V)(H:Hp):Prop:=match x with
 |.str _=>T = "str"
 |.int _=>T = "int"
 |.ref p=>(T = "list" /\ ∃xs,SqL K H p xs)\/(T = "tuple" /\ ∃o,K.lookup p=some o/\o.cls=.type "tuple" /\ o.dict=none) \/
   (T = "dict" /\ ((∃kvs,H p=some (.dK kvs)) \/ ∃kvs,H p=some (.dT kvs)))\/(T = "set" /\ ∃S n,H p=some (.set S n))
 |_=>False
def XU (I:Inv X ae σ H s)(r:RelV x v)(ty:tyV X.K T x H):
  s.TypeIs v T/\∀a,v=.ref a->∃ob,s.heap.get? a=some ob/\ob.dict=none:=by
 cases x with
 |str z=>
  obtain⟨t,rfl⟩:=r;cases (show T = "str" from ty);exact⟨zC_ s z t,fun _ e=>nomatch e⟩
 |int i=>
  obtain⟨t,rfl⟩:=r;cases (show T = "int" from ty);exact⟨typeIs_int s i t,fun _ e=>nomatch e⟩
 |ref p=>
  cases r;rcases ty with ⟨rfl,xs,hq⟩|⟨rfl,o,hk,hc,hd⟩|⟨rfl,hk⟩|⟨rfl,S,n,hk⟩
  ·obtain⟨its,_,pl,_⟩:=I.list hq;refine⟨pl.isList.typeIs,fun a e=>?_⟩;cases e;obtain⟨o,n,e,c,hd,_⟩:=pl;exact⟨o,e,hd⟩
  ·refine⟨⟨o,I.kIn p o hk,hc⟩,fun a e=>?_⟩;cases e;exact⟨o,I.kIn _ o hk,hd⟩
  ·have z:∃o,s.heap.get? p=some o/\o.ExactDict:=by
    rcases hk with ⟨kvs,hk⟩|⟨kvs,hk⟩
    ·obtain⟨_,_,_,_,o,_,_,e,ex,_⟩:=I.hok p _ hk;exact⟨o,e,ex⟩
    ·obtain⟨_,_,_,_,o,_,_,e,ex,_⟩:=I.hok p _ hk;exact⟨o,e,ex⟩
   obtain⟨o,e,ex⟩:=z;refine⟨⟨o,e,ex.1⟩,fun a e2=>?_⟩;cases e2;exact⟨o,e,ex.2.1⟩
  ·obtain⟨o,_,_,_,e,ex,_⟩:=I.hok p _ hk;refine⟨⟨o,e,ex.1⟩,fun a e2=>?_⟩;cases e2;exact⟨o,e,ex.2.1⟩
 |_=>exact oz ty
noncomputable def tBM (K:α3)(T:String)(r:V->List V->Hp->VK->Prop)(to:TE)(t:TA):TE:=fun σ H Q=>to σ H fun x H1=>tyV K T x H1/\t σ H1 fun xs H2=>r x xs H2 Q
variable {o e:Expr} {es:List Expr} {to:TE} {t:TA} {name:Str} {aC aB:Pos} {T id:String} {r:V->List V->Hp->VK->Prop}
def Ek (pa:PlainAttrs T)(slot:Slot T name id)(hU:typeOf (.builtin id)=pure (.type "method_descriptor"))(hm:MtR X id r)(ho:PE X o to)(ha:PA X (e::es) t)
  (cI:attributeBase o name X.env (eval o X.env)=eval o X.env:=by rfl)
  (hV:((backTo aB (starEach (e::es) X.env)).all (fun x => !x.1)&&(backToKw aB (keywordEach [] X.env)).all (fun x=>x.1.isSome)
   && decide ((e::es).length+([]:List Keyword).length+(if ([]:List Keyword).isEmpty then 0 else 1)<30))=true:=by rfl)
  (cJ:(aC.endLine==aB.line)=true:=by rfl) (hs:starEach (e::es) X.env=(false,eval e X.env)::starEach es X.env:=by rfl) (bS:(backTo aB (starEach es X.env)).any (·.1)=false:=by rfl):
  PE X (.Call (.Attribute o name aC) (e::es) [] aB) (tBM X.K T r to t):=by
 intro ae s σ H Q I h;refine wpAny_Call_method_late cI hV cJ rfl (thn (ho ae s σ H _ I h) fun v s1 ⟨x,H1,I1,r1,ty,q1⟩=>?_);obtain⟨h1,h2⟩:=XU I1 r1 ty;refine⟨T,id,pa,slot,hU,h1,h2,?_⟩;have hA:=ha aB ae s1 σ H1 _ I1 q1;rw[hs]at hA ⊢;refine xu_ (by show (false||(backTo aB (starEach es X.env)).any (·.1))=false;rw[bS]<;>rfl) (xN_ ?_);exact thn hA fun us s2 ⟨vs,H2,I2,r2,q2⟩=>hm ae s2 σ H2 x vs v us Q I2 r1 r2 q2
/- xs.append(e),list.index on a module's tuple .. are MtR facts of 06m -/
end
end L2
namespace L2
open PySem PySem.Spec PyProof.Rows
noncomputable def MtM (X:Cx)(id:String)(r:V->List V->Hp->VK->Prop):Prop:=
 ∀(ae:α7) (s:Shared) (σ:St) (H:Hp) (x:V) (xs:List V) (v:Value) (us:List Value) (Q:VK),Inv X ae σ H s->RelV x v->Vals xs us->r x xs H Q ->
  wpAny (model X.prog X.w) X.A (call (.builtin id) (v::us)) (EP X ae σ Q) X.xe s
def Vals.one:∀{x:V} {us:List Value},Vals [x] us->∃u,us=[u]/\RelV x u
 |_,_,.cons r .nil=>⟨_,rfl,r⟩
def Vals.eraseIdx:∀{xs:List V} {us:List Value} (i:Nat),Vals xs us->Vals (xs.eraseIdx i) (us.eraseIdx i)
 |_,_,_,.nil=>.nil
 |_,_,0,.cons _ t=>t
 |_,_,i+1,.cons r t=>.cons r (Vals.eraseIdx i t)
def Vals.reverse (h:Vals xs us):Vals xs.reverse us.reverse:=by
 induction h with
 |nil=>exact .nil
 |cons r t ih=>rw[qm,qm];exact Vals.append ih (.cons r .nil)
def Nz {α:Type}:∀(l:List α) (i:Nat),(l.eraseIdx i).length<=l.length
 |[],_=>jh_ _
 |_::_,0=>pU _
 |_::r,i+1=>qC (Nz r i)
section
variable {X:Cx} {ae:α7} {σ:St} {H:Hp} {s:Shared} {l b:Addr} {xs ys zs:List V}
def Inv.lset {its its':List Value} (I:Inv X ae σ H s)(hH:H l=some (.lst xs))
  (e:s.heap.get? l=some {cls:=.type "list",data:=.seq its.toArray n}) (hf:f its.toArray=its'.toArray) (hv:Vals ys its') (hz:ys.length<=sizeLine):
  Inv X ae σ (upd H l (.lst ys)) {s with heap:=s.heap.update l (Obj.mapSeq f),toks:=t' }:=by
 have q:=PySem.IsL.update e f;rw[hf]at q;refine I.write (x:=l) (e:=l) (by rw[hH];exact trivial) (.inl rfl) (fun b' u hb hu=>(qo_ s.heap (Obj.mapSeq f) (qm_ hb)).trans hu) ⟨_,q⟩ ?_;exact⟨hz,its',_,hv,q⟩
def Inv.lnew {its:List Value} (I:Inv X ae σ H s)(hv:Vals ys its)(hz:ys.length<=sizeLine):
  Inv X ae σ (upd H s.heap.objs.size (.lst ys)) {s with heap:=s.heap.push {cls:=.type "list",data:=.seq its.toArray},toks:=t' }:=
 I.laid (fun _ _ q=>jl_ _ q) (jh_ _) ⟨hz,its,0,hv,jw_ _ rfl⟩
def Inv.fresh (I:Inv X ae σ H s):H s.heap.objs.size=none:=I.hok.fresh (jh_ _)
def Inv.lstM (I:Inv X ae σ H s)(hH:H l=some (.lst xs)):xs.length<=sizeLine/\∃(its:List Value) (n:Nat),Vals xs its/\xs.length=its.length/\s.heap.get? l=some {cls:=.type "list",data:=.seq its.toArray n}:=by
 obtain⟨z,its,n,r,e⟩:=I.hok l _ hH;exact⟨z,its,n,r,r.length,e⟩
end
section
variable {X:Cx}
noncomputable def RC:V->List V->Hp->VK->Prop:=fun x vs H Q=>∃l xs y,x=.ref l/\vs=[y]/\H l=some (.lst xs)/\xs.length<sizeLine/\Q .non (upd H l (.lst (xs++[y])))
def BN:MtM X "list.append" RC:=by
 intro ae s σ H x vs v us Q I rx rv h;obtain⟨l,xs,y,rfl,rfl,hH,hz,q⟩:=h;cases rx;obtain⟨u,rfl,ru⟩:=rv.one;obtain⟨z,its,n,r,hl,e⟩:=I.lstM hH;refine zm_ F.slot_list_append ⟨_,e,rfl⟩ F.entry_list_append (F.args_list_append_2 _ _) (qp l its.toArray n u (by rw[jk_];lia)) ⟨e,?_⟩;refine⟨.non,_,I.lset (its':=its++[u]) hH e (by simp) (r.append (.cons ru .nil)) ?_,rfl,q⟩;rw[jf_,jo_];lia
noncomputable def Vg:V->List V->Hp->VK->Prop:=fun x vs H Q=>∃l xs i k y,x=.ref l/\vs=[.int i]/\H l=some (.lst xs) /\ -(2 ^ 63)<=i/\i<2 ^ 63/\seqIndex? i xs.length=some k/\xs[k]?=some y/\Q y (upd H l (.lst (xs.eraseIdx k)))
def T7:MtM X "list.pop" Vg:=by
 intro ae s σ H x vs v us Q I rx rv h;obtain⟨l,xs,i,k,y,rfl,rfl,hH,h1,h2,hk,hy,q⟩:=h;cases rx;obtain⟨u,rfl,ru⟩:=rv.one;obtain⟨t,rfl⟩:=ru;obtain⟨z,its,n,r,hl,e⟩:=I.lstM hH;obtain⟨w,hw,aM⟩:=r.get hy;refine zm_ F.slot_list_pop ⟨_,e,rfl⟩ F.entry_list_pop (F.args_list_pop_2 _ _)
  (MeetsSeq.list_pop_at l its.toArray n i t k w (fitsIndex_both h1 h2) (by rw[jk_,<-hl];exact hk) (by rw[<-qL_];exact hw) (by rw[jk_];lia)) ⟨e,?_⟩
 refine⟨y,_,I.lset (its':=its.eraseIdx k) hH e ?_ (r.eraseIdx k) ?_,aM,q⟩
 ·show its.toArray.eraseIdxIfInBounds k=(its.eraseIdx k).toArray;rw[List.eraseIdxIfInBounds_toArray]
 ·have:=Nz xs k;lia
noncomputable def rCat:R2:=fun x y H Q=>∃l b xs zs,x=.ref l/\y=.ref b/\H l=some (.lst xs)/\H b=some (.lst zs)/\xs.length+zs.length<=sizeLine/\∀p,H p=none->Q (.ref p) (upd H p (.lst (xs++zs)))
def Vh:OpR X (binaryOp .Add) rCat:=by
 intro ae s σ H x y v u Q I rx ry h;obtain⟨l,b,xs,zs,rfl,rfl,hH,hB,hz,q⟩:=h;cases rx;cases ry;obtain⟨z,its,n,r,hl,e⟩:=I.lstM hH;obtain⟨z2,aE,n2,r2,dv,e2⟩:=I.lstM hB;refine PySem.P.add_list e e2 ?_ (by rw[jk_,jk_];lia);have ea:its.toArray++aE.toArray=(its++aE).toArray:=by simp
 rw[ea];exact⟨.ref _,_,I.lnew (t':=s.toks) (r.append r2) (by rw[jf_];lia),rfl,q _ I.fresh⟩
end
end L2
namespace Att
open PySem PySem.W PySem.Calls PyProof.Rows
def Kz : ∀(ns:α2) (vs:List Value),WellAll P h vs (ns.map WData.int)->IntsAre vs ns:=by
 intro ns
 induction ns with
 |nil=>
  intro vs w;rw[ql]at w;cases w;exact .nil
 |cons n ns ih=>
  intro vs w;rw[jJ_]at w;cases w with
  |cons a b=>
   cases a;exact .cons _ _ (ih _ b)
def RD {l:OpenLaw}{n:Nat}(hn:l.most=some n){P:Params}{h:Heap}{args:List WData}{hX:List Value}
  (fY:l.row.toRowW.claim.pre args=true) (aY:WellAll P h hX args):
  ∃a vs ns,hX=[Value.ref a]/\args=[WData.list (ns.map WData.int)]/\h.get? a=some {cls:=.type "list",data:=.seq vs.toArray}/\IntsAre vs ns/\ns.length<=n:=by
 have jV:WShape.hasAll [] args [.list .int]=true:=(pre_splitW fY).1;have hc:l.pre.holds [] {args:=args}=true:=(pre_splitW fY).2;obtain⟨d,r,rfl,h1,h2⟩:=hasAllW_cons jV;obtain rfl:=hasAllW_nil h2;obtain⟨xs,rfl,h3⟩:=hasW_list h1;obtain⟨ns,rfl⟩:=items_int h3;have av:ns.length<=n:=by
  unfold OpenLaw.pre at hc;have h4:(WTm.not (.lt (.lit (.int (n:Int))) (.len (.arg 0)))).holds [] {args:=[.list (ns.map .int)]}=true:=by
   have h4:=(holds_andW hc).1;rw[hn]at h4;exact h4
  have h5:=condW_of h4 (w_not (w_lt w_lit (w_len_list (w_arg rfl))));rw[jb_]at h5;refine j5_ fun q=>?_;have q':(n:Int)<((ns.length:Nat):Int):=by lia
  first
   | (rw[jR_ q']at h5;exact absurd h5 (by decide))
   | (simp at h5;lia)
 cases aY with
 |cons w1 w2=>
  cases w2;cases w1 with
  |list ho az=>exact⟨_,_,ns,rfl,rfl,ho,Kz ns _ az,av⟩
def RE (l:OpenLaw)(args:List WData):l.row.toRowW.claim.post args (.bool true) args=true:=
 postW_of (r:=l.row.toRowW) (X:=(true==true))
  (show WShape.has [] (.bool true) .bool=true by first|rfl|decide|simp[WShape.has,WShape.arms,WShape.armsAll])
  (show (WTm.eq .res (.lit (.bool true))).value [] {args:=args,res:=some (.bool true),after:=args}=some (.bool (true==true)) from w_eq_bool (w_res rfl) w_lit) rfl
def attach_call {l:OpenLaw}{n:Nat}{q:Program}{cj:List Str}{XP:(Str->α5)->Heap->Prop}{YP:World->Heap->Prop}{d:DefRec}
  (hn:l.most=some n) (jW:d.params.defaults=[])
  (call:∀(w:World) (s₀ s₁:Shared) (mg mb:Str->α5) (fa:Addr) (o:Obj) (pm cd bR:Value) (a:Addr) (vs:List Value) (ns:α2),
   Ground q cj [] XP w s₀ mg mb s₁.heap->YP w s₁.heap ->
   s₁.heap.get? fa=some o->o.data=.func (docDef d.name d.params d.body d.scope pm cd bR)->s₁.heap.CodeRec cd d.name->mg d.name=some (.ref fa) ->
   s₁.heap.get? a=some {cls:=.type "list",data:=.seq vs.toArray}->IntsAre vs ns->ns.length<=n->s₁.gens = #[] ->
   codeAny (model l.prog w) callerA (.call (.ref fa) ⟨[.ref a],[]⟩) (fun r s'=>r=.ok (.ret (.bool true))/\OldK s₁.heap s'.heap/\s'.os=s₁.os/\AllBare s'.gens) s₁):
  WalkO q cj XP YP l.row.toRowW d [] (fun f vs=>qS f vs):=by
 intro w s₀ s₁ mg mb G Y fa o pm cd bR dV kV ho hd cq hD hmg hg args hX as fY hlay hrd aY hlo;obtain rfl:dV=.none:=Dflts.none hD jW;obtain rfl:kV=.none:=Dflts.noKw hD;obtain⟨a,vs,ns,rfl,rfl,cK,e9,av⟩:=RD hn fY aY;refine enter_call (zu_ (call w s₀ s₁ mg mb fa o pm cd bR a vs ns G Y ho (fd_plain hd) cq hmg cK e9 av hg) fun r s' hq=>?_);obtain⟨rfl,h2,h3,h4⟩:=hq;exact⟨.inl ⟨.bool true,.bool true,[],rfl,fun _=>rfl,.bool true,RE l _,fun _=>⟨tf,fun _ hm=>(nomatch hm)⟩⟩,h2,h3,h4⟩
end Att
namespace L2
open PySem PySem.Spec PyProof.Rows
def NA:∀{vs:List Value} {ns:α2},IntsAre vs ns->Vals (ns.map V.int) vs
 |_,_,.nil=>.nil
 |_,_,.cons n t h=>.cons ⟨t,rfl⟩ (NA h)
noncomputable def Only (H:Hp):Prop:=∀b,H b=none \/ ∃o xs,H b=some (.frz o (.lst xs))
def T8 {K:α3}
  (KX:K.In s₁.heap) (hns:s₁.heap.Ns mainGlobals mg) (hb:s₁.heap.Ns builtinsNs mb) (jX:∀x:Str,x ≠ "__name__" -> mb x=bootBuiltins x) (hlim:s₁.heap.NoLimit) (hg:s₁.gens = #[])
  (ha:s₁.heap.get? a=some {cls:=.type "list",data:=.seq vs.toArray}) (hi:IntsAre vs ns) (hl:ns.length<=sizeLine) (hr:Room k callerA)
  (F:∀base:Heap,K.In base->base.Ns mainGlobals mg->FnOk P w K mg base CX k fa fd [x] sp) (hbind:∀(s:Shared) (u:Value),BindsTo s fd ⟨[u],[]⟩ [(x,u)])
  (cH:∀H:Hp,Only H->SqL K H a (ns.map V.int)->sp [.ref a] H (fun v _=>v=.bl true) fun _ _ _=>False)
  (mG:∀H e s',CX [] H s₁ (fun _ _ _=>False) e s'->False):
  codeAny (model P w) callerA (.call (.ref fa) ⟨[.ref a],[]⟩) (fun r s'=>r=.ok (.ret (.bool true))/\OldK s₁.heap s'.heap/\s'.os=s₁.os/\AllBare s'.gens) s₁:=by
 have rv:=NA hi;have lenV:=hi.length
 -- from an abstract heap in which nothing but jQ script may be cn
 have core:∀H:Hp,Only H->SqL K H a (ns.map V.int)->HOk P w H s₁.heap->(∀b,H b≠none->b=a)->(H a≠none->K.lookup a=none) ->
   codeAny (model P w) callerA (.call (.ref fa) ⟨[.ref a],[]⟩) (fun r s'=>r=.ok (.ret (.bool true))/\OldK s₁.heap s'.heap/\s'.os=s₁.os/\AllBare s'.gens) s₁:=by
  intro H hO hS hok hA hK;have base_of:∀{b:Addr} {o:Obj},s₁.heap.get? b=some o->H b=none->(hidT s₁.heap H).get? b=some o:=fun e n=>TV e n;have jT:∀{b:Addr} {o:Obj} {es:Array DictEntry} {ep:Nat},s₁.heap.get? b=some o->o.data=.dict es ep->H b=none:=fun {b o es ep} e d=>by
   cases q:H b with
   |none=>rfl
   |some u=>
    have e':b=a:=hA b (by rw[q];simp);subst e';rw[ha]at e;cases e;have d':Data.seq vs.toArray _=Data.dict es ep:=d;cases d'
  have lq:∀{b:Addr} {m:Str->α5},s₁.heap.Ns b m->(hidT s₁.heap H).Ns b m:=fun {b m} ⟨o,es,ep,e,d,r⟩=>⟨o,es,ep,base_of e (jT e d),d,r⟩;have hKb:K.In (hidT s₁.heap H):=fun b o e=>base_of (KX b o e) (by
   cases q:H b with
   |none=>rfl
   |some u=>
    have e':b=a:=hA b (by rw[q];simp);subst e';rw[hK (by rw[q];simp)]at e;cases e)
  have hM:Mod K mg (hidT s₁.heap H):=⟨hKb,lq hns,⟨mb,lq hb,jX⟩,let ⟨mc,h1,h2⟩:=hlim;⟨mc,lq h1,h2⟩⟩;have e0:Env0 P w K mg (hidT s₁.heap H) callerA [] s₁ H:=⟨rfl,hM,fun b o e=>Wk e,rY (Q8 _ _),trivial,fun b hb=>absurd (show b∈([]:List Addr) from hb) (by simp),hok,.of_eq hg⟩;refine zu_ ((F _ hKb (lq hns)).run callerA [] s₁ H ⟨[.ref a],[]⟩ [.ref a] [.ref a] _ _ hr e0 (hbind s₁ (.ref a)) (.cons rfl .nil) (cH H hO hS)) fun r s' h=>?_;cases r with
  |error e=>exact (mG H e s' h).elim
  |ok fl=>
   cases fl with
   |next=>exact oz h
   |brk=>exact oz h
   |cont=>exact oz h
   |ret u=>
    obtain⟨v,H',os,bare,un,hok',r',q⟩:=h;have q':v=.bl true:=q;subst q';obtain rfl:u=Value.bool true:=r';refine⟨rfl,OldK.of_keep fun b o e=>?_,os,bare⟩;cases q:H b with
    |none=>exact un.keep b o e q (by intro z;exact absurd (show b∈([]:List Addr) from z) (by simp)) (by simp)
    |some u=>
     rcases hO b with z|⟨ob,xs,z⟩
     ·rw[q]at z;cases z
     ·have z2:=un.frzs b ob _ z;obtain⟨e1,_⟩:=hok b _ z;obtain⟨e2,_⟩:=hok' b _ z2;rw[e]at e1;cases e1;exact e2
 cases hk:K.lookup a with
 |some o=>
  -- jQ script is one of jQ module's own objects
  have e:=KX a o hk;rw[ha]at e;cases e;refine core (fun _=>none) (fun _=>.inl rfl) (.inr ⟨_,vs.toArray,_,hk,rfl,rfl,rfl,by rw[jk_,lenV];exact hl,by simpa using rv⟩) (fun b u z=>by have z':(none:Option HO)=some u:=z;cases z') (fun b z=>absurd rfl z) fun z=>absurd rfl z
 |none=>
  refine core (fun b=>if b=a then some (.frz {cls:=.type "list",data:=.seq vs.toArray} (.lst (ns.map V.int))) else none) (fun b=>?_) (.inl (.inr ⟨{cls:=.type "list",data:=.seq vs.toArray},if_pos rfl⟩)) (fun b u z=>?_) (fun b z=>?_) fun _=>hk
  ·by_cases hb:b=a
   ·exact .inr ⟨_,_,if_pos hb⟩
   ·exact .inl (if_neg hb)
  ·by_cases hb:b=a
   ·have z':=(if_pos hb).symm.trans z;cases z';subst hb;exact⟨ha,by rw[jb_];exact hl,vs,_,rv,ha⟩
   ·have z':=(if_neg hb).symm.trans z;cases z'
  ·by_cases hb:b=a
   ·exact hb
   ·exact absurd (if_neg hb) z
def walk_of {l:pK}{n k:Nat}{q:Program}{cj:List Str}{XP:(Str->α5)->Heap->Prop}{YP:World->Heap->Prop}{d:DefRec}{K:Params->α3}{CX:World->CXT}{sp:World->Sp}{x:Str}
  (hn:l.most=some n) (dt:n<=sizeLine) (jW:d.params.defaults=[]) (hr:Room k callerA)
  (hY:∀(w:World) (h:Heap),YP w h->(K w.params).In h)
  (F:∀(w:World) (mg:Str->α5) (fa:Addr) (h:Heap),(K w.params).In h->h.Ns mainGlobals mg->mg d.name=some (.ref fa) ->
   ∃fd:α6,(∀(s:Shared) (u:Value),BindsTo s fd ⟨[u],[]⟩ [(x,u)]) /\
    ∀base:Heap,(K w.params).In base->base.Ns mainGlobals mg->FnOk l.prog w (K w.params) mg base (CX w) k fa fd [x] (sp w))
  (cH:∀(w:World) (H:Hp) (a:Addr) (ns:α2),ns.length<=n->Only H->SqL (K w.params) H a (ns.map V.int)->sp w [.ref a] H (fun v _=>v=.bl true) fun _ _ _=>False)
  (mG:∀(w:World) (H:Hp) (s:Shared) (e:Value) (s':Shared),CX w [] H s (fun _ _ _=>False) e s'->False):
  rM q cj XP YP l.row.toRowW d [] (fun f vs=>qS f vs):=by
 refine Att.attach_call hn jW fun w s₀ s₁ mg mb fa o pm cd bR a vs ns G Y ho hd cq hmg cK e9 av hg=>?_;have KX:=hY w _ Y;obtain⟨fd,hb,hF⟩:=F w mg fa _ KX G.T.g hmg;exact T8 KX G.T.g G.T.b G.T.builtins G.T.nolimit hg cK e9 (j1_ av dt) hr hF hb (fun H hO hS=>cH w H a ns av hO hS) fun H e s'=>mG w H s₁ e s'
noncomputable def AQ (s:Stmt)(j:Nat):Stmt:=match s with
 |.ClassDef _ _ _ body _ _ _ _ _ _ _=>body.getD j (.Pass ⟨0,0,0,0⟩)
 |_=>.Pass ⟨0,0,0,0⟩
noncomputable def IP (s:Stmt):Arguments:=match s with
 |.FunctionDef _ a _ _ _ _ _ _ _ _=>a
 |_=>{posonlyargs:=[],args:=[],vararg:=none,kwonlyargs:=[],kw_defaults:=[],kwarg:=none,defaults:=[]}
noncomputable def DM (s:Stmt):List Stmt:=match s with
 |.FunctionDef _ _ b _ _ _ _ _ _ _=>b
 |_=>[]
noncomputable def Af (s:Stmt):Scope:=match s with
 |.FunctionDef _ _ _ _ _ _ sc _ _ _=>sc
 |_=>{kind:=.function,names:=[],isGenerator:=false,isCoroutine:=false}
noncomputable abbrev CX0:CXT:=fun _ _ _ _ _ _=>False
noncomputable abbrev E0:XK:=fun _ _ _=>False
def AB : EO CX0 X E0:=fun _ _ _ _ _ _ _ h=>h.elim
structure Fun (K:α3)(x qual:Str)(st:Stmt)(f:Addr)(fd:α6):Prop where
 ex:∃(oc:Value) (od:Option Addr) (kV bR pm:Value) (an:Option Addr) (au ct:Value) (gZ:Array (α5)),
  fd=fnOf x qual (IP st) (DM st) (Af st) .none kV bR pm an au ct/\K.lookup f=some ⟨oc,od,.func fd,gZ⟩/\pV K au qual=true
 kp:keepIn K (.ref f)=true
section
variable {P:Program} {w:World} {K:α3} {mg:Str->α5} {base:Heap}
def Fun.ok {st:Stmt} (F:Fun K x qual st f fd)(S:FnScope N ps (Af st))(len:∀vs H Q E,sp vs H Q E->vs.length=ps.length)
  (aP:∀(au:Value) (A:Around) (outer:List Env) (s:Shared) (H:Hp) (vs:List V) (Q:VK) (E:XK),Room k (A.deeper (envOfC qual (Af st) s.heap.objs.size f au))->sp vs H Q E ->
   ∃t,PSs (cxOf CX0 P w K mg base N qual (Af st) f au A outer s H E).nox (DM st) t/\t {nx:=fun _ H'=>Q .non H',rt:=Q} (start N vs) H):FnOk P w K mg base CX0 (k+1) f fd ps sp:=by
 obtain⟨oc,od,kV,bR,pm,an,au,ct,gZ,rfl,lk,cq⟩:=F.ex;refine XQ lk cq S len fun A outer s H vs Q E hr cH=>?_;obtain⟨t,h,q⟩:=aP au A outer s H vs Q E hr cH;exact⟨t,h.nox,q⟩
def Fun.binds {st:Stmt} (F:Fun K x qual st f fd)
  (h:∀(kV bR pm:Value) (an:Option Addr) (au ct:Value) (us:List Value),us.length=ps.length->bindArgs (fnOf x qual (IP st) (DM st) (Af st) .none kV bR pm an au ct) ⟨us,[]⟩=pure (ps.zip us)):Binds K fd ps []:=by
 obtain⟨oc,od,kV,bR,pm,an,au,ct,gZ,rfl,lk,cq⟩:=F.ex;exact .all (h kV bR pm an au ct)
def fun_mk {st:Stmt} {kV bR pm au ct:Value}(l:K.lookup f=some ⟨oc,od,.func (fnOf x qual (IP st) (DM st) (Af st) .none kV bR pm an au ct),gZ⟩)
  (c:pV K au qual=true) (k:keepIn K (.ref f)=true):Fun K x qual st f (fnOf x qual (IP st) (DM st) (Af st) .none kV bR pm an au ct):=⟨⟨oc,od,kV,bR,pm,an,au,ct,gZ,rfl,l,c⟩,k⟩
end
def CZ (hr:Room k A):A.units+1<cLine:=qe (zp_ (by decide:1<=64) _) hr.units
section
variable {X:Cx}
def pv (i:Nat) (hN:X.N[i]?=some x:=by rfl)(hv:Vis X.env.scope x:=by first|exact ou rfl|exact oI (ou rfl)|exact oI (oI rfl))(hd:(x==("__debug__" : Str))=false:=by decide)
  (cq:(x==("__classdict__" : Str))=false:=by decide):PE X (.Name x pos) (tVar i):=XC hN hv hd cq
end
def ite2 {c A B:Prop}[Decidable c](h1:c->A)(h2:¬ c->B):if c then A else B:=by
 by_cases h:c
 ·rw[if_pos h];exact h1 h
 ·rw[if_neg h];exact h2 h
noncomputable def Same (H H':Hp):Prop:=∀b o,H b=some o->H' b=some o
def Same.refl (H:Hp):Same H H:=fun _ _ h=>h
def Same.trans {H H1 H2:Hp}(a:Same H H1)(b:Same H1 H2):Same H H2:=fun c o h=>b c o (a c o h)
def Same.free (e:Same H H') (h:H' l=sC):H l=sC:=by
 cases q:H l with
 |none=>rfl
 |some o=>
  rw[e l o q]at h;cases h
def Same.seq {K:α3} (e:Same H H')(h:SqL K H a xs):SqL K H' a xs:=by
 rcases h with (h|⟨o,h⟩)|h
 ·exact .inl (.inl (e _ _ h))
 ·exact .inl (.inr ⟨o,e _ _ h⟩)
 ·exact .inr h
end L2
set_option maxHeartbeats 4000000
namespace L2
open PySem PySem.Spec PyProof.Rows
section
variable {κ:Type} [DecidableEq κ]
noncomputable def valV (kvs:List (κ×V))(k:κ):Option V:=(kvs.find? fun kv=>decide (kv.1=k)).map (·.2)
noncomputable def putK (kvs:List (κ×V))(k:κ)(v:V):List (κ×V):=
 if (kvs.any fun kv=>decide (kv.1=k))=true then kvs.map (fun kv=>if kv.1=k then (kv.1,v) else kv) else kvs++[(k,v)]
def Kc {p:κ×V}{r:List (κ×V)}{k:κ}(e:p.1=k):valV (p::r) k=some p.2:=by simp[valV,qM_,e]
def Kd {p:κ×V}{r:List (κ×V)}{k:κ}(e:¬ p.1=k):valV (p::r) k=valV r k:=by simp[valV,qM_,e]
def El (k:κ):∀kvs:List (κ×V),(kvs.any fun kv=>decide (kv.1=k))=(valV kvs k).isSome
 |[]=>rfl
 |p::r=>by
  rw[zi_];by_cases e:p.1=k
  ·simp only[Kc e,jR_ e,Bool.true_or,xz_]
  ·rw[Kd e,jP_ e,Bool.false_or];exact El k r
def KA (kvs:List (κ×V))(k:κ)(v:V):(putK kvs k v).length<=kvs.length+1:=by
 unfold putK;split
 ·rw[jb_];lia
 ·rw[jf_,jD_,xe_];lia
def Mu {kvs:List (κ×V)}{k:κ}(v:V)(h:valV kvs k=none):putK kvs k v=kvs++[(k,v)]:=by
 unfold putK;rw[El,h];exact if_neg (by decide)
def RelO.isSome_eq (r:RelO o u):o.isSome=u.isSome:=by
 cases o with
 |none=>cases u with
  |none=>rfl
  |some _=>exact (show False from r).elim
 |some _=>cases u with
  |none=>exact (show False from r).elim
  |some _=>rfl
def RelO.getD (r:RelO o u)(rd:RelV d d'):RelV (o.getD d) (u.getD d'):=by
 cases o with
 |none=>cases u with
  |none=>exact rd
  |some _=>exact (show False from r).elim
 |some _=>cases u with
  |none=>exact (show False from r).elim
  |some _=>exact r
def KV.val (r:KV kvs vs)(k:κ):RelO (valV kvs k) (valueAt vs k):=by
 unfold KV at r
 induction r with
 |nil=>exact oq
 |@cons p q ps qs h t ih=>
  obtain⟨h1,h2⟩:=h;by_cases e:p.1=k
  ·have e':q.1=k:=h1.symm.trans e;have b:valueAt (q::qs) k=some q.2:=by simp[valueAt,qM_,e']
   rw[Kc e,b];exact h2
  ·have e':¬ q.1=k:=fun z=>e (h1.trans z);have b:valueAt (q::qs) k=valueAt qs k:=by simp[valueAt,qM_,e']
   rw[Kd e,b];exact ih
def KV.any (r:KV kvs vs)(k:κ):(kvs.any fun kv=>decide (kv.1=k))=vs.any fun kv=>decide (kv.1=k):=by
 unfold KV at r
 induction r with
 |nil=>rfl
 |cons h t ih=>rw[zi_,zi_,ih,h.1]
def KV.repl (r:KV kvs vs)(k:κ) (ry:RelV y u):
  KV (kvs.map fun kv=>if kv.1=k then (kv.1,y) else kv) (vs.map fun kv=>if kv.1=k then (kv.1,u) else kv):=by
 unfold KV at r ⊢
 induction r with
 |nil=>exact .nil
 |@cons p q ps qs h t ih=>
  rw[jJ_,jJ_];refine .cons ?_ ih;obtain⟨h1,h2⟩:=h;by_cases e:p.1=k
  ·rw[if_pos e,if_pos (h1.symm.trans e)];exact⟨h1,ry⟩
  ·rw[if_neg e,if_neg (fun z=>e (h1.trans z))];exact⟨h1,h2⟩
def KV.put (r:KV kvs vs)(k:κ) (ry:RelV y u):KV (putK kvs k y) (stored vs k u):=by
 unfold putK stored;rw[r.any k];by_cases e:(vs.any fun kv=>decide (kv.1=k))=true
 ·rw[if_pos e,if_pos e];exact r.repl k ry
 ·rw[if_neg e,if_neg e];exact Paired.snoc r ⟨rfl,ry⟩
def KV.length {kvs:List (κ×V)}{vs:List (κ×Value)}(r:KV kvs vs):kvs.length=vs.length:=zh_ r
end
def Qw (r:RelV (kV k) u):(Bb P w).is k u=true:=by
 cases k with
 |inl i=>obtain⟨t,e⟩:=(show ∃t,u=Value.int i t from r);subst e;exact Oo P w i t
 |inr x=>obtain⟨t,e⟩:=(show ∃t,u=Value.str x t from r);subst e;exact Oq P w x t
def NB {P:Program}{w:World}:∀{ks:List Key} {us:List Value},Vals (ks.map kV) us->ItemsAre (Bb P w) ks us
 |[],_,r=>by rw[ql]at r;cases r;exact .nil
 |k::ks,_,r=>by
  rw[jJ_]at r;cases r with
  |cons h t=>exact .cons (Qw h) (NB t)
noncomputable abbrev KT (H:Hp):List (List Key×V)->List (List Key×Addr×Value)->Prop:=Paired fun p q=>p.1=q.1/\H q.2.1=some (.tup (p.1.map kV))/\RelV p.2 q.2.2
def KT.val (r:KT H kvs xs)(k:List Key):RelO (valV kvs k) ((atKey xs k).map (·.2)):=by
 induction r with
 |nil=>exact oq
 |@cons p q ps qs h t ih=>
  obtain⟨h1,_,h2⟩:=h;by_cases e:p.1=k
  ·have e':q.1=k:=h1.symm.trans e;have b:atKey (q::qs) k=some q.2:=by simp[atKey,qM_,e']
   rw[Kc e,b];exact h2
  ·have e':¬ q.1=k:=fun z=>e (h1.trans z);have b:atKey (q::qs) k=atKey qs k:=by simp[atKey,qM_,e']
   rw[Kd e,b];exact ih
def KT.repl (r:KT H kvs xs)(k:List Key) (ry:RelV y u):
  KT H (kvs.map fun kv=>if kv.1=k then (kv.1,y) else kv) (xs.map (putAt k u)):=by
 induction r with
 |nil=>exact .nil
 |@cons p q ps qs h t ih=>
  rw[jJ_,jJ_];refine .cons ?_ ih;obtain⟨h1,h2,h3⟩:=h;unfold putAt;by_cases e:p.1=k
  ·rw[if_pos e,if_pos (h1.symm.trans e)];exact⟨h1,h2,ry⟩
  ·rw[if_neg e,if_neg (fun z=>e (h1.trans z))];exact⟨h1,h2,h3⟩
def KT.put (r:KT H kvs xs)(k:List Key) (hb:H b=some (.tup (k.map kV)))(ry:RelV y u):
  KT H (putK kvs k y) (storedH xs k b u):=by
 have e:(kvs.any fun kv=>decide (kv.1=k))=(atKey xs k).isSome:=by
  rw[El,(r.val k).isSome_eq,qq]
 unfold putK storedH;rw[e];by_cases q:(atKey xs k).isSome=true
 ·rw[if_pos q,if_pos q];exact r.repl k ry
 ·rw[if_neg q,if_neg q];exact Paired.snoc r ⟨rfl,hb,ry⟩
def KT.keeps (r:KT H kvs xs)(ht:∀b ys,H b=some (.tup ys)->H' b=some (.tup ys)):KT H' kvs xs:=
 Paired.mapP r fun _ _ z=>⟨z.1,ht _ _ z.2.1,z.2.2⟩
section
variable {P:Program} {w:World} {H:Hp} {h:Heap} {a:Addr}
def T9 (ok:HOk P w H h)(e:Rd H a u):A6 P w H h a u:=e.ok ok
def Oy (ok:HOk P w H h)(e:Rd H a (.dK kvs)):kvs.length<=sizeLine/\(a==sysModules)=false/\∃vs,KV kvs vs/\h.DictOf (Bb P w) a vs:=
 show A6 P w H h a (.dK kvs) from T9 ok e
def Zg (ok:HOk P w H h)(e:H a=some (.dK kvs)):kvs.length<=sizeLine/\(a==sysModules)=false/\∃vs,KV kvs vs/\h.DictOf (Bb P w) a vs:=Oy ok (.inl e)
def KC (ok:HOk P w H h)(e:H a=some (.tup (ks.map kV))):(tupleKind (Bb P w)).is h ks a:=by
 obtain⟨_,its,r,o,h1,h2,n,h3⟩:=(show A6 P w H h a (.tup (ks.map kV)) from ok a _ e);exact⟨o,its.toArray,n,h1,h2,h3,by simpa using NB r⟩
def Oz (ok:HOk P w H h)(e:Rd H a (.dT kvs)):kvs.length<=sizeLine/\(a==sysModules)=false /\
  ∃xs,KT H kvs xs/\h.DictOfH (tupleKind (Bb P w)) a xs:=by
 obtain⟨z,y,xs,r,o,es,ep,h1,h2,h3,h4,h5⟩:=(show A6 P w H h a (.dT kvs) from T9 ok e);refine⟨z,y,xs,r,o,es,ep,h1,h2,h3,h4,fun x hx=>?_,h5⟩;have all:∀{l:List (List Key×V)} {m:List (List Key×Addr×Value)},KT H l m->∀x∈m,(tupleKind (Bb P w)).is h x.1 x.2.1:=by
  intro l m q
  induction q with
  |nil=>intro x hx;exact nomatch hx
  |@cons p q ps qs hq t ih=>
   intro x hx;rcases jr_.mp hx with e|hx
   ·subst e;exact KC ok (by rw[<-hq.1];exact hq.2.1)
   ·exact ih x hx
 exact all r x hx
def XW (ok:HOk P w H h)(e:H a=some (.dT kvs)):kvs.length<=sizeLine/\(a==sysModules)=false /\
  ∃xs,KT H kvs xs/\h.DictOfH (tupleKind (Bb P w)) a xs:=Oz ok (.inl e)
end
noncomputable def DGet (H:Hp)(a:Addr)(y:V)(r:Option V):Prop:=
 (∃kvs k,Rd H a (.dK kvs)/\y=kV k/\r=valV kvs k) \/ ∃kvs k b,Rd H a (.dT kvs)/\y=.ref b/\H b=some (.tup (k.map kV))/\r=valV kvs k
noncomputable def DPut (H:Hp)(a:Addr)(y v:V)(H':Hp):Prop:=
 (∃kvs k,H a=some (.dK kvs)/\y=kV k/\kvs.length<sizeLine/\H'=upd H a (.dK (putK kvs k v))) \/
 ∃kvs k b,H a=some (.dT kvs)/\y=.ref b/\H b=some (.tup (k.map kV))/\kvs.length<sizeLine/\H'=upd H a (.dT (putK kvs k v))
def DGet.t (e:H a=some (.dT kvs))(eb:H b=some (.tup (k.map kV))):DGet H a (.ref b) (valV kvs k):=.inr ⟨kvs,k,b,.inl e,rfl,eb,rfl⟩
def DPut.t (e:H a=some (.dT kvs))(eb:H b=some (.tup (k.map kV)))(hl:kvs.length<sizeLine):
  DPut H a (.ref b) v (upd H a (.dT (putK kvs k v))):=.inr ⟨kvs,k,b,e,rfl,eb,hl,rfl⟩
section
variable {X:Cx} {ae:α7} {σ:St} {H:Hp} {s:Shared} {a:Addr} {y v:V} {u r:Value} {o:Option V} {A:Around} {E:Value->Shared->Prop}
def Inv.big (I:Inv X ae σ H s):sysModules<s.heap.objs.size:=by
 have h:mainGlobals<s.heap.objs.size:=(I.mod.glob.keeps I.bk).lt;exact rZ (by decide) h
def RF (hu:A.units+1<cLine)(I:Inv X ae σ H s)(g:DGet H a y (some v))(ry:RelV y u)(h:∀w' s',Inv X ae σ H s'->RelV v w'->Q w' s'):
  wpAny (model X.prog X.w) A (getItem (.ref a) u) Q E s:=by
 rcases g with ⟨kvs,k,e,ey,l⟩|⟨kvs,k,b,e,ey,eb,l⟩
 ·subst ey;obtain⟨z,hd,vs,bF,dd⟩:=Oy I.hok e;obtain⟨w',hw,aM⟩:=RelO.some_of (v:=v) (o:=valueAt vs k) (by rw[l];exact bF.val k);exact wpAny_getItem_of (Qw ry) dd.mapOf hw (h w' _ (I.tok _) aM)
 ·subst ey;cases (show u=Value.ref b from ry);obtain⟨z,hd,xs,bF,dd⟩:=Oz I.hok e;obtain⟨w',hw,aM⟩:=RelO.some_of (v:=v) (o:=(atKey xs k).map (·.2)) (by rw[l];exact bF.val k);obtain⟨p,hp,bA⟩:=Option.map_eq_some_iff.mp hw;refine wpAny_getItem_heap (xA_ hu) (KC I.hok eb) dd hp ?_;rw[bA];exact h w' _ (I.tok _) aM
def Wx (hu:A.units+1<cLine)(I:Inv X ae σ H s)(g:DGet H a y o)(ry:RelV y u)(h:∀s',Inv X ae σ H s'->Q (.bool (!o.isSome)) s'):
  wpAny (model X.prog X.w) A (compareOp .NotIn u (.ref a)) Q E s:=by
 rcases g with ⟨kvs,k,e,ey,l⟩|⟨kvs,k,b,e,ey,eb,l⟩
 ·subst ey;obtain⟨z,hd,vs,bF,dd⟩:=Oy I.hok e;refine wpAny_notIn_of (Qw ry) hd dd.mapOf ?_;rw[<-(bF.val k).isSome_eq,<-l];exact h _ (I.tok _)
 ·subst ey;cases (show u=Value.ref b from ry);obtain⟨z,hd,xs,bF,dd⟩:=Oz I.hok e;refine wpAny_notIn_heap (xA_ hu) (KC I.hok eb) hd dd ?_;have q:=(bF.val k).isSome_eq;rw[qq]at q;rw[<-q,<-l];exact h _ (I.tok _)
def Mv (I:Inv X ae σ H s)(mu:Mut (H a))(hs:Heap.SameBut a s.heap h')(he:∃q,h'.get? a=some q)(new:A6 X.prog X.w (upd H a ob) h' a ob):
  Inv X ae σ (upd H a ob) {s with heap:=h',toks:=t' }:=
 I.write (x:=a) (e:=a) mu (.inl rfl) (fun b q hb z=>(hs.2 b hb).trans z) he new
def XX (z:kvs.length<=sizeLine)(hd:(a==sysModules)=false)(bF:KV kvs vs)(dd:h'.DictOf (Bb P w) a vs):
  A6 P w H' h' a (.dK kvs):=⟨z,hd,vs,bF,dd⟩
def RG (hu:A.units+1<cLine)(I:Inv X ae σ H s)(g:DPut H a y v H')(ry:RelV y u)(rv:RelV v r)(h:∀s',Inv X ae σ H' s'->Q () s'):
  wpAny (model X.prog X.w) A (setItem (.ref a) u r) Q E s:=by
 rcases g with ⟨kvs,k,e,ey,l,eH⟩|⟨kvs,k,b,e,ey,eb,l,eH⟩
 ·subst ey eH;obtain⟨z,hd,vs,bF,dd⟩:=Zg I.hok e;have hz:vs.length<=sizeLine:=by rw[<-bF.length];exact z
  have hl:(putK kvs k v).length<=sizeLine:=by have:=KA kvs k v;lia
  refine wpAny_setItem_pairs (hsz:=hz) (Qw ry) dd fun h' jo hs=>h _ ?_;have he:∃q,h'.get? a=some q:=let ⟨q,_,_,hq,_⟩:=jo;⟨q,hq⟩;exact Mv I (by rw[e];exact oq) hs he (XX hl hd (bF.put k rv) jo)
 ·subst ey eH;cases (show u=Value.ref b from ry);obtain⟨z,hd,xs,bF,dd⟩:=XW I.hok e;have hz:xs.length<=sizeLine:=by rw[<-zh_ bF];exact z
  have hl:(putK kvs k v).length<=sizeLine:=by have:=KA kvs k v;lia
  refine wpAny_setItem_heap (hsz:=hz) (xA_ hu) (KC I.hok eb) dd fun h' jo hs=>h _ ?_;obtain⟨q,es,ep,hq,h2,h3,h4,_,h5⟩:=jo;refine Mv I (by rw[e];exact oq) hs ⟨q,hq⟩ ⟨hl,hd,_,(bF.put k eb rv).keeps fun c ys ec=>?_,q,es,ep,hq,h2,h3,h4,h5⟩;rw[Ah (XB ec e (fun z=>nomatch z))];exact ec
end
noncomputable def NoSl (i:Expr):Prop:=∀ov iv,subscripted i false ov iv=operate [ov,iv] (getItem ov iv)
def Wy {T id:String}
  (hl:typeLookup (.type T) "__getitem__"=pure (some (.builtin id))) (hs:NoSl slice)
  (h:wpAny (model prog w) A (eval value env) (fun o s₁=>wpAny (model prog w) A (eval slice env) (fun i bj=>bj.TypeIs o T/\wpAny (model prog w) A (getItem o i) Q E bj) E s₁) E s):
  wpAny (model prog w) A (eval (.Subscript value slice pos) env) Q E s:=by
 refine Subscript_ (q1_ h (fun o s₁ h₁=>q1_ h₁ (fun i bj cX=>?_) fun _ _ x=>x) fun _ _ x=>x);obtain⟨hT,cX⟩:=cX;unfold subscriptTail;refine jg_ ?_;rw[getitemInPython_of_ne hT.not_modules];refine jg_ (wpAny_specialOf hT hl ?_);have fin:wpAny (model prog w) A (subscripted slice false o i) (fun r b6=>wpAny (model prog w) A (letTemporaryGo value o r >>= fun _=>pure r) Q E b6) E bj:=by
  rw[hs o i];exact wpAny_operating (q1_ cX (fun r b6 h₃=>jg_ (wpAny_letTemporaryGo (jt_ h₃))) fun _ _ x=>x)
 first
  | exact jt_ (jg_ fin)
  | exact jg_ (jt_ (jg_ fin))
  | exact jg_ fin
def OA (I:Inv X ae σ H s)(g:DGet H a y o):s.TypeIs (.ref a) "dict" := by
 rcases g with ⟨kvs,k,e,_,_⟩|⟨kvs,k,b,e,_,_,_⟩
 ·obtain⟨_,_,vs,_,dd⟩:=Oy I.hok e;exact dd.typeIs
 ·obtain⟨_,_,xs,_,dd⟩:=Oz I.hok e;exact dd.typeIs
noncomputable def XY (td ty:TE):TE:=fun σ H Q=>td σ H fun x H1=>ty σ H1 fun y H2=>∃a v,x=.ref a/\DGet H2 a y (some v)/\Q v H2
noncomputable def RH (ty td:TE):TE:=fun σ H Q=>ty σ H fun y H1=>td σ H1 fun x H2=>∃a o,x=.ref a/\DGet H2 a y o/\Q (.bl (!o.isSome)) H2
noncomputable def XZ (td ty tv:TE):TS:=fun D σ H=>tv σ H fun v H1=>td σ H1 fun x H2=>ty σ H2 fun y H3=>∃a H4,x=.ref a/\DPut H3 a y v H4/\D.nx σ H4
section
variable {X:Cx} {o i e value:Expr} {pos bx fX:Pos} {td ty tv:TE}
def E8 (hu:X.A.units+1<cLine)(ho:PE X o td)(hi:PE X i ty)(hs:NoSl i):PE X (.Subscript o i pos) (XY td ty):=by
 intro ae s σ H Q I h;refine Wy PySem.F.slot_dict_getitem.lookup hs (thn (ho ae s σ H _ I h) fun u s1 ⟨x,H1,I1,rx,q1⟩=>thn (hi ae s1 σ H1 _ I1 q1) fun iv s2 ⟨y,H2,I2,ry,a,v,ex,g,q2⟩=>?_);subst ex;obtain rfl:u=Value.ref a:=rx;exact⟨OA I2 g,RF hu I2 g ry fun w' s3 I3 aM=>⟨v,H2,I3,aM,q2⟩⟩
def NC (hu:X.A.units+1<cLine)(hi:PE X i ty)(ho:PE X o td):PC X .NotIn i o (RH ty td):=by
 intro ae s σ H Q I h;refine thn (hi ae s σ H _ I h) fun iv s1 ⟨y,H1,I1,ry,q1⟩=>thn (ho ae s1 σ H1 _ I1 q1) fun u s2 ⟨x,H2,I2,rx,a,ov,ex,g,q2⟩=>?_;subst ex;obtain rfl:u=Value.ref a:=rx;exact Wx hu I2 g ry fun s3 I3=>⟨.bl (!ov.isSome),H2,I3,rfl,q2⟩
def Em (hu:X.A.units+1<cLine)(ho:PE X o td)(hi:PE X i ty)(hv:PE X value tv)(hs:swapsWith value (some (.Subscript o i bx)) pos.line X.env=pure false):
  PS X (.Assign [.Subscript o i bx] value pos) (XZ td ty tv):=by
 intro ae s σ H D I h;refine wpAny_Assign_Subscript (thn (hv ae s σ H _ I h) fun r s1 ⟨v,H1,I1,rv,q1⟩=>thn (ho ae s1 σ H1 _ I1 q1) fun u s2 ⟨x,H2,I2,rx,q2⟩=>thn (hi ae s2 σ H2 _ I2 q2) fun iv s3 ⟨y,H3,I3,ry,a,H4,ex,g,q3⟩=>?_) hs;subst ex;obtain rfl:u=Value.ref a:=rx;exact RG hu I3 g ry rv fun s4 I4=>⟨σ,H4,I4,q3⟩
end
def Pm (h:Heap)(hb:sysModules<h.objs.size):A6 P w H (h.push {cls:=.type "dict",data:=.dict #[]}) h.objs.size (.dT []):=
 ⟨j9_ _,xl_.mpr (qm_ (jQ_ hb)),[],.nil,_,#[],0,jw_ _ rfl,⟨rfl,rfl,rfl⟩,rfl,rfl,xs_⟩
noncomputable def Vi:TE:=fun _ H Q=>∀p,H p=none->Q (.ref p) (upd H p (.dT []))
section
variable {X:Cx} {pos:Pos}
def Ga:PE X (.Dict [] [] pos) Vi:=fun ae s σ H Q I h=>
 wpAny_Dict_empty ⟨.ref s.heap.objs.size,_,I.laid (a:=s.heap.objs.size) (o:=.dT []) (t':=s.toks) (fun _ _ q=>jl_ _ q) (jh_ _) (Pm s.heap I.big),rfl,h _ (I.hok.fresh (jh_ _))⟩
end
structure M1 (X:Cx)(o:Expr)(m:Str)(aC:Pos)(e:Expr)(aB:Pos):Prop where
 base:attributeBase o m X.env (eval o X.env)=eval o X.env
 few:((backTo aB (starEach [e] X.env)).all (fun x => !x.1)&&(backToKw aB (keywordEach [] X.env)).all (fun x=>x.1.isSome)
  && decide (([e]:List Expr).length+([]:List Keyword).length+(if ([]:List Keyword).isEmpty then 0 else 1)<30))=true
 line:(aC.endLine==aB.line)=true
 trees:backTo aB (starEach [e] X.env)=[(false,eval e X.env)]
structure M2 (X:Cx)(o:Expr)(m:Str)(aC:Pos)(e f:Expr)(aB:Pos):Prop where
 base:attributeBase o m X.env (eval o X.env)=eval o X.env
 few:((backTo aB (starEach [e,f] X.env)).all (fun x => !x.1)&&(backToKw aB (keywordEach [] X.env)).all (fun x=>x.1.isSome)
  && decide (([e,f]:List Expr).length+([]:List Keyword).length+(if ([]:List Keyword).isEmpty then 0 else 1)<30))=true
 line:(aC.endLine==aB.line)=true
 trees:backTo aB (starEach [e,f] X.env)=[(false,eval e X.env),(false,eval f X.env)]
noncomputable def IsD (H:Hp)(a:Addr):Prop:=(∃kvs,Rd H a (.dK kvs)) \/ ∃kvs,Rd H a (.dT kvs)
def Vj (I:Inv X ae σ H s)(d:IsD H a):
  s.TypeIs (.ref a) "dict" /\ (∀b,Value.ref a=.ref b->∃ob,s.heap.get? b=some ob/\ob.dict=none)/\(a==sysModules)=false:=by
 rcases d with ⟨kvs,e⟩|⟨kvs,e⟩
 ·obtain⟨_,hd,vs,_,dd⟩:=Oy I.hok e;refine⟨dd.typeIs,fun b q=>?_,hd⟩;cases q;obtain⟨ob,_,_,h1,h2,_⟩:=dd;exact⟨ob,h1,h2.2.1⟩
 ·obtain⟨_,hd,xs,_,dd⟩:=Oz I.hok e;refine⟨dd.typeIs,fun b q=>?_,hd⟩;cases q;obtain⟨ob,_,_,h1,h2,_⟩:=dd;exact⟨ob,h1,h2.2.1⟩
section
variable {X:Cx} {ae:α7} {σ:St} {H:Hp} {s:Shared} {a:Addr} {y d:V} {u r:Value} {o:Option V} {A:Around} {E:Value->Shared->Prop}
def X0 (hu:A.units+1<cLine)(I:Inv X ae σ H s)(g:DGet H a y o)(ry:RelV y u)(h:∀w' s',Inv X ae σ H s'->RelV (o.getD .non) w'->Q w' s'):
  wpAny (model X.prog X.w) A (call (.builtin "dict.get") [.ref a,u]) Q E s:=by
 rcases g with ⟨kvs,k,e,ey,l⟩|⟨kvs,k,b,e,ey,eb,l⟩
 ·subst ey;obtain⟨z,hd,vs,bF,dd⟩:=Oy I.hok e;refine call_meetsIn qN_ dd.typeIs xv_ (ph _ _) (meets_dict_get (Bb X.prog X.w) a (Qw ry) hd) ⟨_,dd.mapOf,h _ _ (I.tok _) ?_⟩;rw[l];exact (bF.val k).getD rfl
 ·subst ey;cases (show u=Value.ref b from ry);obtain⟨z,hd,xs,bF,dd⟩:=Oz I.hok e;refine call_meetsIn qN_ dd.typeIs xv_ (ph _ _) (meetsH_dict_get (tupleKind (Bb X.prog X.w)) a b hd) ⟨xA_ hu,k,xs,KC I.hok eb,dd,h _ _ (I.tok _) ?_⟩;rw[l];exact (bF.val k).getD rfl
def X1 (hu:A.units+1<cLine)(I:Inv X ae σ H s)(g:DGet H a y o)(ry:RelV y u)(rd:RelV d r)(h:∀w' s',Inv X ae σ H s'->RelV (o.getD d) w'->Q w' s'):
  wpAny (model X.prog X.w) A (call (.builtin "dict.get") [.ref a,u,r]) Q E s:=by
 rcases g with ⟨kvs,k,e,ey,l⟩|⟨kvs,k,b,e,ey,eb,l⟩
 ·subst ey;obtain⟨z,hd,vs,bF,dd⟩:=Oy I.hok e;refine call_meetsIn qN_ dd.typeIs xv_ (pj _ _ _) (meets_dict_get_default (Bb X.prog X.w) a (Qw ry) hd r) ⟨_,dd.mapOf,h _ _ (I.tok _) ?_⟩;rw[l];exact (bF.val k).getD rd
 ·subst ey;cases (show u=Value.ref b from ry);obtain⟨z,hd,xs,bF,dd⟩:=Oz I.hok e;refine call_meetsIn qN_ dd.typeIs xv_ (pj _ _ _) (meetsH_dict_get_default (tupleKind (Bb X.prog X.w)) a b hd r) ⟨xA_ hu,k,xs,KC I.hok eb,dd,h _ _ (I.tok _) ?_⟩;rw[l];exact (bF.val k).getD rd
end
noncomputable def Vk (td ty:TE):TE:=fun σ H Q=>td σ H fun x H1=>∃a,x=.ref a/\IsD H1 a/\ty σ H1 fun y H2=>∃o,DGet H2 a y o/\Q (o.getD .non) H2
noncomputable def Vl (td ty tx:TE):TE:=fun σ H Q=>td σ H fun x H1=>∃a,x=.ref a/\IsD H1 a/\ty σ H1 fun y H2=>tx σ H2 fun z H3=>∃o,DGet H3 a y o/\Q (o.getD z) H3
section
variable {X:Cx} {o e f:Expr} {aC aB:Pos} {td ty tx:TE}
def Po (hu:X.A.units+1<cLine)(ho:PE X o td)(he:PE X e ty)(m:M1 X o "get" aC e aB):PE X (.Call (.Attribute o "get" aC) [e] [] aB) (Vk td ty):=by
 intro ae s σ H Q I h;refine wpAny_Call_method m.base m.few m.line x1_ qN_ pO (thn (ho ae s σ H _ I h) fun u s1 ⟨x,H1,I1,rx,a,ex,d,q1⟩=>?_);subst ex;obtain rfl:u=Value.ref a:=rx;obtain⟨t1,t2,_⟩:=Vj I1 d;refine⟨t1,t2,?_⟩;rw[m.trees];refine xu_ rfl (xN_ (xy_ (thn (he ae s1 σ H1 _ I1 q1) fun iv s2 ⟨y,H2,I2,ry,ov,g,q2⟩=>x6_ ?_)));exact X0 hu I2 g ry fun w' s3 I3 aM=>⟨_,H2,I3,aM,q2⟩
def Ua (hu:X.A.units+1<cLine)(ho:PE X o td)(he:PE X e ty)(hf:PE X f tx)(m:M2 X o "get" aC e f aB):PE X (.Call (.Attribute o "get" aC) [e,f] [] aB) (Vl td ty tx):=by
 intro ae s σ H Q I h;refine wpAny_Call_method m.base m.few m.line x1_ qN_ pO (thn (ho ae s σ H _ I h) fun u s1 ⟨x,H1,I1,rx,a,ex,d,q1⟩=>?_);subst ex;obtain rfl:u=Value.ref a:=rx;obtain⟨t1,t2,_⟩:=Vj I1 d;refine⟨t1,t2,?_⟩;rw[m.trees];refine xu_ rfl (xN_ (xy_ (thn (he ae s1 σ H1 _ I1 q1) fun iv s2 ⟨y,H2,I2,ry,q2⟩ =>
  xy_ (thn (hf ae s2 σ H2 _ I2 q2) fun fv s3 ⟨z,H3,I3,rz,ov,g,q3⟩=>x6_ ?_))))
 exact X1 hu I3 g ry rz fun w' s4 I4 aM=>⟨_,H3,I4,aM,q3⟩
end
end L2
namespace L2
open PySem PySem.Spec PyProof.Rows
noncomputable def clOf (env:Env):List (Str×NameKind)->List (Str×Addr)->List (Str×Addr)
 |[],ah=>ah
 | (n,k)::r,ah=>if (k == .free)=true then clOf env r ((n,(env.cells.lookup n).getD 0)::ah) else clOf env r ah
def LW (h:∀p∈scope.names,p.2=.free->∃c,env.cells.lookup p.1=some c):closureFor scope env=pure (clOf env scope.names []):=by
 have go:∀(l:List (Str×NameKind)) (ah:List (Str×Addr)),(∀p∈l,p.2=.free->∃c,env.cells.lookup p.1=some c) ->
   (forIn l ah fun (x:Str×NameKind) (cs:List (Str×Addr))=>(if (x.2 == .free)=true then do let c <- cellOf env x.1;pure (oA ((x.1,c)::cs)) else pure (oA cs):Sem (ForInStep (List (Str×Addr)))))=(pure (clOf env l ah):Sem (List (Str×Addr))):=by
  intro l
  induction l with
  |nil=>intro ah _;rfl
  |cons p r ih=>
   intro ah hl;obtain⟨n,k⟩:=p;rw[pL];by_cases hk:(k == .free)=true
   ·obtain⟨c,hc⟩:=hl (n,k) js_ (by simpa using hk);have e1:cellOf env n=pure c:=by unfold cellOf;rw[hc]
    have mH:=ih ((n,c)::ah) fun q hq=>hl q (jm_ _ hq);show ((if (k == .free)=true then do let c <- cellOf env n;pure (oA ((n,c)::ah)) else pure (oA ah):Sem _) >>= _)=_;rw[if_pos hk,e1];show (forIn r ((n,c)::ah) _:Sem _)=_;rw[clOf,if_pos hk,hc];exact mH
   ·have mH:=ih ah fun q hq=>hl q (jm_ _ hq);show ((if (k == .free)=true then do let c <- cellOf env n;pure (oA ((n,c)::ah)) else pure (oA ah):Sem _) >>= _)=_;rw[if_neg hk];show (forIn r ah _:Sem _)=_;rw[clOf,if_neg hk];exact mH
 have e:=go scope.names [] h;unfold closureFor;show (forIn scope.names [] _ >>= fun cs=>pure cs:Sem _)=_;have e2:(forIn scope.names [] (fun (x:Str×NameKind) (r:List (Str×Addr))=>(match x with
   | (name,kind)=>if (kind == .free)=true then do let c <- cellOf env name;pure (oA ((name,c)::r)) else do pure PUnit.unit;pure (oA r):Sem (ForInStep (List (Str×Addr))))))=(pure (clOf env scope.names []):Sem (List (Str×Addr))):=e
 exact qn_ (fun z=>z >>= fun cs=>pure cs) e2
def Mw {env:Env}:∀(l:List (Str×NameKind)) (ah:List (Str×Addr)),(∀p∈l,p.2=.free->∃c,env.cells.lookup p.1=some c)->(∀q∈ah,env.cells.lookup q.1=some q.2)->∀q∈clOf env l ah,env.cells.lookup q.1=some q.2
 |[],_,_,ha,q,hq=>ha q hq
 | (n,k)::r,ah,hl,ha,q,hq=>by
  unfold clOf at hq;by_cases hk:(k == .free)=true
  ·rw[if_pos hk]at hq;obtain⟨c,hc⟩:=hl (n,k) js_ (by simpa using hk);refine Mw r _ (fun p hp=>hl p (jm_ _ hp)) (fun p hp=>?_) q hq;rcases jr_.mp hp with rfl|hp
   ·show env.cells.lookup n=some ((env.cells.lookup n).getD 0);rw[hc];rfl
   ·exact ha p hp
  ·rw[if_neg hk]at hq;exact Mw r _ (fun p hp=>hl p (jm_ _ hp)) ha q hq
def Ke {env:Env}:∀(l:List (Str×NameKind)) (ah:List (Str×Addr)) (x:Str),((x,NameKind.free)∈l \/ ∃c,(x,c)∈ah)->∃c,(x,c)∈clOf env l ah
 |[],_,_,h=>by
  rcases h with h|h
  ·cases h
  ·exact h
 | (n,k)::r,ah,x,h=>by
  unfold clOf;by_cases hk:(k == .free)=true
  ·rw[if_pos hk];refine Ke r _ x ?_;rcases h with h|⟨c,h⟩
   ·rcases jr_.mp h with h|h
    ·cases h;exact .inr ⟨_,js_⟩
    ·exact .inl h
   ·exact .inr ⟨c,jm_ _ h⟩
  ·rw[if_neg hk];refine Ke r _ x ?_;rcases h with h|h
   ·rcases jr_.mp h with h|h
    ·cases h;exact absurd rfl hk
    ·exact .inl h
   ·exact .inr h
def B4 {β:Type}:∀{l:List (Str×β)} {x:Str} {c:β},(x,c)∈l->∃c',l.lookup x=some c'
 |[],_,_,h=>by cases h
 | (n,d)::r,x,c,h=>by
  by_cases hx:(x==n)=true
  ·exact⟨d,by rw[qG_,hx]⟩
  ·rcases jr_.mp h with h|h
   ·cases h;exact absurd (beq_self_eq_true _) hx
   ·obtain⟨c',e⟩:=B4 h;exact⟨c',by rw[qG_];simp only[Bool.not_eq_true]at hx;rw[hx];exact e⟩
noncomputable def relF (env:Env):Str×NameKind->Str×NameKind:=fun (n,k)=>if (k==NameKind.free&&env.scope.kind == .function&&env.kindOf n==some .cell) then (n,NameKind.cell) else (n,k)
def My (h:(k==NameKind.free&&env.scope.kind == .function&&env.kindOf n==some .cell)=true):relF env (n,k)=(n,.cell):=if_pos h
def OB (h:¬ (k==NameKind.free&&env.scope.kind == .function&&env.kindOf n==some .cell)=true):relF env (n,k)=(n,k):=if_neg h
def E9 {env:Env}:∀{names:List (Str×NameKind)} {x:Str} {k:NameKind},(∀y∈names,y.2 ≠ .cell) ->
  (names.map (relF env)).lookup x=some k->(k=.cell\/k=.free)->(x,NameKind.free)∈names
 |[],_,_,_,h,_=>by simp at h
 | (n,k')::r,x,k,hc,h,hk=>by
  have ih := @E9 env r x k (fun y hy=>hc y (jm_ _ hy));rw[jJ_]at h;by_cases hb:(k'==NameKind.free&&env.scope.kind == .function&&env.kindOf n==some .cell)=true
  ·rw[My hb,qG_]at h;cases hx:x==n with
   |true=>
    have e:x=n:=by simpa using hx
    subst e;have e2:k'=.free:=by
     simp only[qb_]at hb;simpa using hb.1.1
    subst e2;exact js_
   |false=>
    rw[hx]at h;exact jm_ _ (ih h hk)
  ·rw[OB hb,qG_]at h;cases hx:x==n with
   |true=>
    rw[hx]at h;have e:x=n:=by simpa using hx
    subst e;have e2:k'=k:=jB_ h;subst e2;rcases hk with rfl|rfl
    ·exact absurd rfl (hc _ js_)
    ·exact js_
   |false=>
    rw[hx]at h;exact jm_ _ (ih h hk)
def Jw {env:Env}:∀{names:List (Str×NameKind)} {x:Str},names.lookup x=some .free ->
  ∃k,(k=NameKind.cell\/k=NameKind.free)/\(names.map (relF env)).lookup x=some k
 |[],_,h=>by simp at h
 | (n,k')::r,x,h=>by
  have ih := @Jw env r x;rw[qG_]at h;rw[jJ_];cases hx:x==n with
  |true=>
   rw[hx]at h;have e2:k'=.free:=jB_ h;subst e2;by_cases hb:((NameKind.free:NameKind)==NameKind.free&&env.scope.kind == .function&&env.kindOf n==some .cell)=true
   ·exact⟨.cell,.inl rfl,by rw[My hb,qG_,hx]⟩
   ·exact⟨.free,.inr rfl,by rw[OB hb,qG_,hx]⟩
  |false=>
   rw[hx]at h;obtain⟨k,hk,e⟩:=ih h;refine⟨k,hk,?_⟩;by_cases hb:(k'==NameKind.free&&env.scope.kind == .function&&env.kindOf n==some .cell)=true
   ·rw[My hb,qG_,hx];exact e
   ·rw[OB hb,qG_,hx];exact e
end L2
namespace L2
open PySem PySem.Spec PyProof.Rows
section
variable {prog:Program} {w:World} {A:Around} {R:Result->Shared->Prop} {s:Shared}
noncomputable abbrev cpW (prog:Program)(w:World)(A:Around)(R:Result->Shared->Prop)(env:Env){α:Type}(m:Sem α)(Q:α->Shared->Prop):Shared->Prop:=wpAny (model prog w) A m Q (notedBy (model prog w) A env fun e t=>R (.error e) t)
def NF {eE bQ iter:Expr} {it ah:Value} (I:Nat->Shared->Prop)
  (cV:∀n s,I n s->cpW prog w A R env (pyNext it) (fun r s=>match r with
   |none=>R (.ok .next) s
   |some v=>cpW prog w A R env (letOwnedTupleGo bQ it v) (fun _=>cpW prog w A R env (assign bQ env v) fun _=>cpW prog w A R env (forIn dJ true fun c r=>if r=true then do let ok <- isTrue c env (eval c env);pure (oA ok) else pure (oA r)) fun ok s=>
     if ok=true then cpW prog w A R env (eval eE env) (fun x=>cpW prog w A R env (call (.builtin "list.append") [ah,x]) fun _ t=>∃m,m<n/\I m t) s else ∃m,m<n/\I m s) s) s)
  (n:Nat) (h:I n s):codeAny (model prog w) A (.compLoop (.ListComp eE [⟨bQ,iter,dJ,0⟩] scope pos) 0 it ah env) R s:=by
 have mono:∀{α β:Type} {m:Sem α} {f:α->Sem β} {Q:α->Shared->Prop} {Q':β->Shared->Prop} {s:Shared},cpW prog w A R env m Q s->(∀a t,Q a t->cpW prog w A R env (f a) Q' t)->cpW prog w A R env (m >>= f) Q' s:=fun h k=>jg_ (q1_ h k fun _ _ e=>e);refine codeAny_loop rfl I (fun n s hI=>wpAny_noted ?_) n h;rw[compTurn_list];refine jg_ (wpAny_standAt (mono (cV n s hI) fun r s1 h1=>?_));cases r with
 |none=>exact jt_ h1
 |some v=>
  refine mono h1 fun _ _ h2=>mono h2 fun _ _ h3=>mono h3 fun ok s4 h4=>?_;cases ok with
  |false=>exact jt_ ⟨rfl,h4⟩
  |true=>exact jg_ (mono h4 fun _ _ h5=>mono h5 fun _ _ h6=>jt_ (jt_ ⟨rfl,h6⟩))
end
noncomputable abbrev Cx.blk (X:Cx)(N:List Str)(sc:Scope)(C:Addr)(s₀:Shared)(H₀:Hp)(ex:List Addr):Cx:=
 {X with N:=N,env:=compEnvC sc (clOf X.env sc.names []) C X.env,outer:=X.stack,s₀:=s₀,H₀:=H₀,ex:=ex,fn:=fun _=>false,pn:=[],xe:=fun _ _=>False}
structure BlkSc (X:Cx)(sc:Scope):Prop where
 kind:sc.kind=.function
 nocell:∀y∈sc.names,y.2 ≠ .cell
 loc:∀y∈sc.names,y.2=.local->sc.names.lookup y.1=some .local
 free:∀y∈sc.names,y.2=.free->X.env.kindOf y.1=some .cell\/X.env.kindOf y.1=some .free
noncomputable abbrev Caps:=List (Str×Option Nat)
noncomputable def Caps.names (c:Caps):List Str:=c.map (·.1)
noncomputable def Caps.st (c:Caps)(σ:St):St:=c.map fun p=>p.2.bind fun j=>(σ[j]?).join
noncomputable def Fb (N:List Str)(sc:Scope):Caps->Prop
 |[]=>True
 | (_,none)::r=>Fb N sc r
 | (x,some j)::r=>(N[j]?=some x/\sc.names.lookup x=some .free)/\Fb N sc r
def Fb.get {N:List Str}{sc:Scope}:∀{c:Caps} {i:Nat} {x:Str} {j:Nat},Fb N sc c->c[i]?=some (x,some j)->N[j]?=some x/\sc.names.lookup x=some .free
 |[],_,_,_,_,h=>by simp at h
 | (y,none)::r,0,x,j,_,h=>by simp at h
 | (y,none)::r,i+1,x,j,ok,h=>Fb.get (c:=r) (i:=i) ok (by simpa using h)
 | (y,some k)::r,0,x,j,ok,h=>by
  simp only[List.getElem?_cons_zero,x7_,Prod.mk.injEq]at h;obtain⟨rfl,rfl⟩:=h;exact ok.1
 | (y,some k)::r,i+1,x,j,ok,h=>Fb.get (c:=r) (i:=i) ok.2 (by simpa using h)
section
variable {X:Cx} {ae:α7} {σ:St} {H:Hp} {s:Shared} {sc:Scope} {fp:List Addr}
def KD (I:Inv X ae σ H s)(S:BlkSc X sc):∀p∈sc.names,p.2=.free->∃c,X.env.cells.lookup p.1=some c:=fun p hp e=>I.ok.has p.1 (S.free p hp e)
def BZ (I:Inv X ae σ H s)(S:BlkSc X sc) (h:(clOf X.env sc.names []).lookup x=some c):X.env.cells.lookup x=some c:=
 Mw sc.names [] (KD I S) (fun q hq=>by cases hq) (x,c) (qu_ h)
def X2 {N:List Str}{C:Addr}(I:Inv X ae σ H s)(S:BlkSc X sc)(hC:s.heap.objs.size<=C)(hf:∀b∈fp,FpOk X ae H b)(ho:∀b∈fp,∃o,s.heap.get? b=some o):(X.blk N sc C s H fp).Ok where
 mod:=I.ok.mod
 kind:=S.kind
 glob:=I.ok.glob
 blt:=I.ok.blt
 above:=hC
 inj:=fun x y c h1 h2=>I.ok.inj x y c (BZ I S h1) (BZ I S h2)
 has:=fun x hx=>by
  have hx':(x,NameKind.free)∈sc.names:=by
   rcases hx with hx|hx
   ·exact E9 (env:=X.env) S.nocell hx (.inl rfl)
   ·exact E9 (env:=X.env) S.nocell hx (.inr rfl)
  obtain⟨c,hc⟩:=Ke (env:=X.env) sc.names [] x (.inl hx');exact B4 hc
 cab:=fun x c h=>absurd (show false=true from h) jy_
 hd:=I.ok.hd
 frames:=I.ok.frames
 stk:=.inl rfl
 exf:=fun b hb=>by
  obtain⟨o,ho⟩:=ho b hb;refine⟨jQ_ (jH_ (ju_ ho) hC),fun x c h=>(hf b hb).2.2.2.2.1 x c (BZ I S h)⟩
 bs:=I.bs
 bsz:=j1_ I.ok.bsz I.sz
 noex:=fun b o e hb=>by
  rcases (hf b hb).2.2.2.1 with z|z
  ·exact I.ok.noex b o e z
  ·exact absurd (jH_ (ju_ (I.ok.bs b o e).1) z) (qe_ _)
 exfs:=fun b hb z=>by
  rcases jr_.mp (I.stkSub b z) with e|e
  ·exact (hf b hb).2.1 e
  ·exact (hf b hb).2.2.1 e
 funs:=I.stack
 frf:=I.stkFree
def RI {c:Caps}{C:Addr}{s4:Shared}{m:Str->α5}(I:Inv X ae σ H s)(S:BlkSc X sc)(hc:Fb X.N sc c)(hC:s.heap.objs.size<=C)(hf:∀b∈fp,FpOk X ae H b)(ho:∀b∈fp,∃o,s.heap.get? b=some o)
  (g9:s4.os=s.os) (hb:s4.gens=s.gens) (hk:∀b o,s.heap.get? b=some o->s4.heap.get? b=some o) (hn:s4.heap.Ns C m):Inv (X.blk c.names sc C s H fp) [] (c.st σ) H s4 where
 ok:=X2 I S hC hf ho
 os:=g9
 bare:=by rw[hb];exact I.bare
 base:=Un.kept hk
 loc:=by
  refine⟨m,hn,fun i x v h1 h2 hv=>?_⟩;have jY:(c.map (·.1))[i]?=some x:=h1;have mI:(c.map fun p=>p.2.bind fun j=>(σ[j]?).join)[i]?=some (some v):=h2;rw[jj_]at jY mI;cases e:c[i]? with
  |none=>rw[e]at jY;cases jY
  |some p=>
   obtain⟨y,oj⟩:=p;rw[e]at jY mI;have e1:y=x:=jB_ jY;subst e1;have e2:(oj.bind fun j=>(σ[j]?).join)=some v:=jB_ mI;cases oj with
   |none=>cases e2
   |some j=>
    have e3:(σ[j]?).join=some v:=e2;have e4:σ[j]?=some (some v):=by
     cases q:σ[j]? with
     |none=>rw[q]at e3;cases e3
     |some z=>rw[q]at e3;exact qn_ some e3
    obtain⟨k1,k2⟩:=Fb.get hc e;have k3:X.env.kindOf y=some .cell\/X.env.kindOf y=some .free:=S.free (y,.free) (qu_ k2) rfl;have mD:Vis X.env.scope y:=by
     rcases k3 with k|k
     ·exact .inr (.inl k)
     ·exact .inr (.inr k)
    obtain⟨mX,hnX,hl⟩:=I.loc;obtain⟨u,r,l⟩:=hl j y v k1 e4 mD;refine⟨u,r,?_⟩;rcases l with ⟨k,_⟩|⟨_,ca,hca,z⟩
    ·rcases k3 with k' | k'<;>(rw[k]at k';cases k')
    ·obtain⟨kd,hkd,ek⟩:=Jw (env:=X.env) k2;have lu:(compEnvC sc (clOf X.env sc.names []) C X.env).kindOf y=some kd:=ek;obtain⟨c',la⟩:=Ke (env:=X.env) sc.names [] y (.inl (qu_ k2));obtain⟨c2,cC⟩:=B4 la;have e5:=BZ I S cC;rw[hca]at e5;have e6:ca=c2:=jB_ e5;subst e6;refine .inr ⟨?_,ca,cC,?_⟩
     ·rcases hkd with rfl|rfl
      ·exact .inl lu
      ·exact .inr lu
     ·obtain⟨oc,gF,hd⟩:=z;exact⟨oc,hk _ _ gF,hd⟩
 cell:=fun x ca h=>by
  obtain⟨v,oc,gF,hd⟩:=I.cell x ca (BZ I S h);exact⟨v,oc,hk _ _ gF,hd⟩
 free:=I.hok.fresh hC
 freeC:=fun x ca h=>I.freeC x ca (BZ I S h)
 pin:=fun p hp=>absurd (show p∈([]:α7) from hp) (by simp)
 hok:=I.hok.kept hk
 len:=by show (c.map _).length=(c.map _).length;rw[jb_,jb_]
def HOk.track (x:HOk P w H h)(hn:H a=none)(new:A6 P w (upd H a o) h a o):HOk P w (upd H a o) h:=fun b u e=>by
 by_cases hb:b=a
 ·subst hb;rw[Ab]at e;cases e;exact new
 ·rw[Ah hb]at e;exact (x b u e).stay (fun c v _ q=>q) (fun c q=>by rw[Ah (AW q hn)];exact q) fun c xs q=>by rw[Ah (AW q hn)];exact q
def Un.track {fs ex:List Addr}{H H':Hp}{h h':Heap}{a:Addr}{o:HO}(u:Un fs ex H H' h h')(ha:h.objs.size<=a)(hn:H' a=none):Un fs ex H (upd H' a o) h h' where
 keep:=u.keep
 slot:=u.slot
 free:=fun b ob q n hx=>by rw[Ah (jQ_ (jH_ (ju_ q) ha))];exact u.free b ob q n hx
 there:=u.there
 tups:=fun b xs q=>by rw[Ah (AW (u.tups b xs q) hn)];exact u.tups b xs q
 frzs:=fun b ob xs q=>by rw[Ah (AW (u.frzs b ob xs q) hn)];exact u.frzs b ob xs q
 tbls:=fun b ps q=>by
  obtain⟨more,e⟩:=u.tbls b ps q;exact⟨more,by rw[Ah (AW e hn)];exact e⟩
def Wz {c:Caps}{C D:Addr}{s':Shared}{aj:St}{H':Hp}{o:HO}(I:Inv X ae σ H s)(J:Inv (X.blk c.names sc C s H fp) [] aj H' s')(hf:∀b∈fp,FpOk X ae H b)(hD:s.heap.objs.size<=D)(hn:H' D=none)
  (new:A6 X.prog X.w (upd H' D o) s'.heap D o):Inv X ae σ (upd H' D o) s':=by
 have u:Un (frs X.stack) fp H H' s.heap s'.heap:=J.base;exact I.call' J.os (u.track hD hn) (J.hok.track hn new) J.bare fun b hb=>⟨(hf b hb).2.2.2.1,(hf b hb).2.1,(hf b hb).2.2.2.2.1,(hf b hb).2.2.2.2.2⟩
end
noncomputable def PF (X:Cx)(dJ:List Expr)(t:TT):Prop:=
 ∀(ae:α7) (s:Shared) (σ:St) (H:Hp) (Q:Bool->Hp->Prop),Inv X ae σ H s->t σ H Q ->
  wpAny (model X.prog X.w) X.A (forIn dJ true fun c r=>if r=true then do let ok <- isTrue c X.env (eval c X.env);pure (oA ok) else pure (oA r)) (TP X ae σ Q) X.xe s
noncomputable def NG:TT:=fun _ H Q=>Q true H
def Bu : PF X [] NG:=fun _ _ _ H _ I h=>wpAny_tests_nil ⟨H,I,h⟩
def X3 (h:PT X c t):PF X [c] t:=fun ae s σ H Q I hw=>wpAny_tests_one (h ae s σ H Q I hw)
noncomputable def WA (wi:TI)(cp:Caps)(g:TG)(tc:TT)(te:TE):TE:=fun σ H Q=>wi σ H fun J H1=>∃W:Nat->Nat->List V->St->Hp->Prop,(∃m,W 0 m [] (cp.st σ) H1)/\∀i m ys aj H',W i m ys aj H' ->
 ys.length<sizeLine/\((J.stop i H'/\∀D,H' D=none->Q (.ref D) (upd H' D (.lst ys)))\/(J.go i H'/\∃N:List V->St->Hp->Prop,(∀zs aq H2,N zs aq H2->∃m',m'<m/\W (i+1) m' zs aq H2)/\∀x H2,J.yld i H' x H2->g x aj H2 fun aq H3=>tc aq H3 fun b H4=>
  if b=true then te aq H4 fun v H5=>N (ys++[v]) aq H5 else N ys aq H4))
section
variable {X:Cx} {tg iter eE:Expr} {dJ:List Expr} {sc:Scope} {pos:Pos} {wi:TI} {cp:Caps} {g:TG} {tc:TT} {te:TE}
def NH (hc:X.calm=true)(S:BlkSc X sc)(gH:Fb X.N sc cp)
  (hg:∀C s₀ H₀ ex,PG (X.blk cp.names sc C s₀ H₀ ex) tg g) (hf:∀C s₀ H₀ ex,PF (X.blk cp.names sc C s₀ H₀ ex) dJ tc) (he:∀C s₀ H₀ ex,PE (X.blk cp.names sc C s₀ H₀ ex) eE te)
  {ae:α7} {σ:St} {H:Hp} {s:Shared} {J:It} {it:Addr} {fp:List Addr} {tn:Nat->Heap->Prop} {Q:VK} {RR:Value->Addr->Result->Shared->Prop} {E:Value->Shared->Prop}
  (I:Inv X ae σ H s) (T:Turn X.prog X.w X.K tg J fp it tn) (st:tn 0 s.heap) (jq:∀b∈fp,FpOk X ae H b)
  (hw:∃W:Nat->Nat->List V->St->Hp->Prop,(∃m,W 0 m [] (cp.st σ) H)/\∀i m ys aj H',W i m ys aj H' ->
   ys.length<sizeLine/\((J.stop i H'/\∀D,H' D=none->Q (.ref D) (upd H' D (.lst ys)))\/(J.go i H'/\∃N:List V->St->Hp->Prop,(∀zs aq H2,N zs aq H2->∃m',m'<m/\W (i+1) m' zs aq H2)/\∀x H2,J.yld i H' x H2->g x aj H2 fun aq H3=>tc aq H3 fun b H4=>
    if b=true then te aq H4 fun v H5=>N (ys++[v]) aq H5 else N ys aq H4)))
  (hR:∀D C s' H' (m:Str->α5),Inv X ae σ H' s'->Q (.ref D) H'->s'.heap.Ns C m->H' C=none->C≠X.env.locals->X.s₀.heap.objs.size<=C->(∀x c,X.env.cells.lookup x=some c->c≠C)->(∀p∈X.pn++ae,p.1≠C)->RR (.ref D) C (.ok .next) s'):
  wpAny (model X.prog X.w) X.A (newList []) (fun ah b6=>wpAny (model X.prog X.w) X.A (newFunctionEnv sc X.env.globals (clOf X.env sc.names []) [] X.env.qual none .none (some X.env)) (fun cenv s₄=>
   codeAny (model X.prog X.w) X.A (.compStart (.ListComp eE [⟨tg,iter,dJ,0⟩] sc pos) 0 (.ref it) ah {cenv with scope:=relabel sc X.env}) (RR ah cenv.locals) s₄) E b6) E s:=by
 obtain⟨W,⟨m0,w0⟩,cV⟩:=hw;refine qv_ (wpAny_newFunctionEnv S.nocell (by intro y hy;simp at hy) (fun h₁ cY cx=>?_) S.kind);dsimp only at cY cx ⊢;generalize mJ:s.heap.push {cls:=.type "list",dict:=none,data:=.seq ([]:List Value).toArray}=H2 at cY cx ⊢;have hC:H2.objs.size=s.heap.objs.size+1:=by rw[<-mJ,xP_]
 have lx:s.heap.objs.size≠H2.objs.size:=by rw[hC];exact jQ_ (q2_ _)
 have fb:s.heap.objs.size<=H2.objs.size:=by rw[hC];exact pU _
 have below:∀b,b<s.heap.objs.size->b≠H2.objs.size:=fun b hb=>by rw[hC];exact jQ_ (x8_ hb)
 have old:∀b o,s.heap.get? b=some o->h₁.get? b=some o:=fun b o e=>cx.extBut b o (below b (ju_ e)) (jl_ _ (mJ ▸ jl_ _ e));have b8:h₁.get? s.heap.objs.size=some {cls:=.type "list",data:=.seq ([]:List Value).toArray 0}:=cx.extBut _ _ lx (jl_ _ (mJ ▸ jw_ _ rfl));have hst₁:tn 0 h₁:=T.keep 0 _ _ st fun b _ o e=>old b o e;have cK:∀b∈fp,∃o,s.heap.get? b=some o:=fun b hb=>let ⟨o,e,_⟩:=T.obj 0 _ st b hb;⟨o,e⟩;have J0:Inv (X.blk cp.names sc H2.objs.size s H fp) [] (cp.st σ) H {s with heap:=h₁,toks:=s.toks+([]:List (Str×Value)).length}:=RI I S gH fb jq cK rfl rfl old cY;have lz:∀b,s.heap.objs.size<=b->b∉frs X.stack:=fun b hb z=>by
  rcases jr_.mp (I.stkSub b z) with e|e
  ·exact absurd (jH_ I.lt (by rw[<-e];exact hb)) (qe_ _)
  ·exact I.nofs hb e
 have ncell:∀b,s.heap.objs.size<=b->∀x c,X.env.cells.lookup x=some c->c≠b:=fun b hb x c e z=>by
  obtain⟨v,q⟩:=I.cell x c e;exact absurd (jH_ q.lt (by rw[z];exact hb)) (qe_ _)
 have fpb:∀{aG:α7} {H':Hp},(∀b∈fp,H' b=none)->(∀p∈aG,p.1∉fp)->∀b∈fp,FpOk (X.blk cp.names sc H2.objs.size s H fp) aG H' b:=fun {aG H'} hn hp b hb=>by
  obtain⟨o,e⟩:=cK b hb;refine⟨hn b hb,below b (ju_ e),fun z=>?_,.inl hb,fun x c h=>(jq b hb).2.2.2.2.1 x c (BZ I S h),fun p hp' z=>?_⟩
  ·rcases jr_.mp (I.stkSub b z) with e|e
   ·exact (jq b hb).2.1 e
   ·exact (jq b hb).2.2.1 e
  ·have hp'':p∈aG:=by simpa using hp'
   exact hp p hp'' (by rw[z];exact hb)
 have loop:∀b6:Shared,b6={s with heap:=h₁,toks:=s.toks+([]:List (Str×Value)).length} ->
   codeAny (model X.prog X.w) X.A (.compLoop (.ListComp eE [⟨tg,iter,dJ,0⟩] sc pos) 0 (.ref it) (.ref s.heap.objs.size) (compEnvC sc (clOf X.env sc.names []) H2.objs.size X.env))
    (RR (.ref s.heap.objs.size) H2.objs.size) b6:=by
  rintro b6 rfl;refine NF (fun n s'=>∃i aj H' ys its k,Inv (X.blk cp.names sc H2.objs.size s H fp) [] aj H' s'/\tn i s'.heap/\(∀b∈fp,H' b=none)/\H' s.heap.objs.size=none /\
   s'.heap.get? s.heap.objs.size=some {cls:=.type "list",data:=.seq its.toArray k}/\Vals ys its/\W i n ys aj H') ?_ m0
   ⟨0,_,H,[],[],0,J0,hst₁,fun b hb=>(jq b hb).1,I.hok.fresh (jh_ _),b8,.nil,w0⟩
  rintro n s3 ⟨i,aJ,H3,ys,its,k,I3,cg,lj,gI,e3,rv,w3⟩;obtain⟨hz,tr⟩:=cV i n ys aJ H3 w3;have av:=rv.length
  -- jQ accumulator stands still while anything else runs
  have dpin:∀p ∈ [(s.heap.objs.size,({cls:=.type "list",data:=.seq its.toArray k}:Obj))],p.1∉fp:=fun p hp z=>by
   have e:p=_:=jd_.mp hp;subst e;obtain⟨o,e⟩:=cK _ z;exact absurd (ju_ e) (qe_ _)
  have I3':Inv (X.blk cp.names sc H2.objs.size s H fp) [(s.heap.objs.size,({cls:=.type "list",data:=.seq its.toArray k}:Obj))] aJ H3 s3:=I3.pins_of fun p hp=>by
   have e:p=_:=jd_.mp hp;subst e;exact⟨e3,gI,lx,lz _ (jh_ _),fun v z=>by cases z⟩
  have dH:∀b∈fp,FpOk (X.blk cp.names sc H2.objs.size s H fp) [(s.heap.objs.size,({cls:=.type "list",data:=.seq its.toArray k}:Obj))] H3 b:=fpb lj dpin;rcases tr with ⟨stop,qn⟩|⟨go,N,hN,step⟩
  ·refine thn (T.done (X.blk cp.names sc H2.objs.size s H fp) rfl rfl rfl hc i _ s3 aJ H3 _ I3' dH cg stop) fun r s4 ⟨hr,I4⟩=>?_;subst hr;obtain⟨e4,n4,_⟩:=I4.pin (s.heap.objs.size,({cls:=.type "list",data:=.seq its.toArray k}:Obj)) (by simp);have new:A6 X.prog X.w (upd H3 s.heap.objs.size (.lst ys)) s4.heap s.heap.objs.size (.lst ys):=⟨za_ hz,its,k,rv,e4⟩;obtain⟨mC,hnC,_⟩:=I4.loc;have I4':Inv (X.blk cp.names sc H2.objs.size s H fp) [] aJ H3 s4:=I4.pins_of fun p hp=>by cases hp
   have I5:=Wz I I4' jq (jh_ _) n4 new;refine hR _ _ s4 _ mC I5 (qn _ n4) hnC ?_ (qF_ (jH_ I.lt fb)) (j1_ I.sz fb) (ncell _ fb) fun p hp z=>?_
   ·rw[Ah (qm_ lx)];exact I4.free
   ·exact absurd (jH_ (ju_ (I.pin p hp).1) (by rw[z];exact fb)) (qe_ _)
  ·refine thn (T.item (X.blk cp.names sc H2.objs.size s H fp) rfl rfl rfl hc i _ s3 aJ H3 _ I3' dH cg go) fun r s4 ⟨u,hr,h4⟩=>?_;subst hr;refine thn h4 fun _ s5 ⟨x,H5,I5,r5,y5,gG,mE⟩=>?_;have mF:=I5.pinned (fpb mE dpin) (T.obj _ _ gG);have fin:∀{dq:St} {H7:Hp} {s7:Shared},Inv (X.blk cp.names sc H2.objs.size s H fp) ([(s.heap.objs.size,({cls:=.type "list",data:=.seq its.toArray k}:Obj))]++Nl fp s5.heap) dq H7 s7 ->
     s7.heap.get? s.heap.objs.size=some {cls:=.type "list",data:=.seq its.toArray k}/\H7 s.heap.objs.size=none/\(∀b∈fp,H7 b=none)/\∀b∈fp,∀o,s5.heap.get? b=some o->s7.heap.get? b=some o:=fun {dq H7 s7} I7=>by
    obtain⟨e7,n7,_⟩:=I7.pin (s.heap.objs.size,({cls:=.type "list",data:=.seq its.toArray k}:Obj)) (by simp);refine⟨e7,n7,fun b hb=>?_,fun b hb o e=>?_⟩
    ·obtain⟨o,e,_⟩:=T.obj _ _ gG b hb;exact (I7.pin (b,o) (j2_ _ (j2_ _ (F9 hb e)))).2.1
    ·exact (I7.pin (b,o) (j2_ _ (j2_ _ (F9 hb e)))).1
   refine q1_ (hg _ _ _ _ _ s5 aJ H5 x u _ mF r5 (step x H5 y5)) (fun _ s6 ⟨cw,H6,I6,q6⟩=>?_) fun _ _ z=>oz z;refine q1_ (hf _ _ _ _ _ s6 cw H6 _ I6 q6) (fun ok s7 ⟨H7,I7,q7⟩=>?_) fun _ _ z=>oz z;cases ok with
   |false=>
    rw[if_neg jy_];rw[if_neg jy_]at q7;obtain⟨m',hm,w7⟩:=hN _ _ _ q7;obtain⟨e7,n7,fr7,k7⟩:=fin I7;exact⟨m',hm,i+1,cw,H7,ys,its,k,I7.pins_of (fun p hp=>by cases hp),T.keep _ _ _ gG k7,fr7,n7,e7,rv,w7⟩
   |true=>
    rw[if_pos rfl];rw[if_pos rfl]at q7;refine q1_ (he _ _ _ _ _ s7 cw H7 _ I7 q7) (fun v s8 ⟨y,H8,I8,r8,q8⟩=>?_) fun _ _ z=>oz z;obtain⟨m',hm,w8⟩:=hN _ _ _ q8;obtain⟨e8,n8,fr8,k8⟩:=fin I8;refine zm_ F.slot_list_append ⟨_,e8,rfl⟩ F.entry_list_append (F.args_list_append_2 _ _) (qp s.heap.objs.size its.toArray k v (by rw[jk_];lia)) ⟨e8,?_⟩;obtain⟨k',q⟩:∃k',(s8.heap.update s.heap.objs.size (Obj.mapSeq fun x=>x.push v)).get? s.heap.objs.size=some {cls:=.type "list",data:=.seq (its++[v]).toArray k' }:=⟨_,by
     have q:=PySem.IsL.update e8 fun x=>x.push v;have e:(its++[v]).toArray=its.toArray.push v:=by simp
     rw[e];exact q⟩
    have I8':Inv (X.blk cp.names sc H2.objs.size s H fp) [] cw H8 s8:=I8.pins_of fun p hp=>by cases hp
    have I9:Inv (X.blk cp.names sc H2.objs.size s H fp) [] cw H8 {s8 with heap:=s8.heap.update s.heap.objs.size (Obj.mapSeq fun x=>x.push v),toks:=s8.toks}:=
     I8'.turned (it:=s.heap.objs.size) (fun b o hb e=>(qo_ _ _ (qm_ hb)).trans e) n8 lx (.inr (jh_ _)) (fun x c e=>ncell _ (jh_ _) x c (BZ I S e)) (fun p hp=>by cases hp)
    refine⟨m',hm,i+1,cw,H8,ys++[y],its++[v],k',I9,T.keep (i+1) s5.heap _ gG (fun b hb o e=>?_),fr8,n8,q,rv.append (.cons r8 .nil),w8⟩
    ·refine (qo_ _ _ ?_).trans (k8 b hb o e);intro z;obtain⟨ob,eb⟩:=cK b hb;exact absurd (ju_ eb) (by rw[<-z];exact qe_ _)
 exact codeAny_compStart_list (loop _ rfl) (T.self _ 0 _ _ _ hst₁ (loop _ rfl))
def Be (hc:X.calm=true)(S:BlkSc X sc)(gH:Fb X.N sc cp)(hi:PI X tg iter wi)
  (hg:∀C s₀ H₀ ex,PG (X.blk cp.names sc C s₀ H₀ ex) tg g) (hf:∀C s₀ H₀ ex,PF (X.blk cp.names sc C s₀ H₀ ex) dJ tc) (he:∀C s₀ H₀ ex,PE (X.blk cp.names sc C s₀ H₀ ex) eE te)
  (hs:∀x,foldedSetIterable iter X.env x=pure x:=by intro _;rfl):PE X (.ListComp eE [⟨tg,iter,dJ,0⟩] sc pos) (WA wi cp g tc te):=by
 intro ae s σ H Q I h;rw[eval_ListComp];refine wpAny_comprehension_free (use:=none) rfl hs (LW (KD I S)) S.kind S.loc (thn (hi ae s σ H _ I h) fun xv s₁ h₁=>thn h₁ fun lh bj cX=>?_);obtain⟨it,fp,tn,J,H2,e,I2,T,cG,f2,hw⟩:=cX;subst e;refine NH (RR:=fun ah C=>compPost (model X.prog X.w) X.A X.xe none (EP X ae σ Q) ah C) hc S gH hg hf he I2 T cG f2 hw ?_;intro D C s' H' m I' q hn hC hL hz bo hp;exact⟨m,hn,fun h' eF=>⟨.ref D,H',I'.turned (t':=s'.toks) (it:=C) (fun b o hb e=>eF.extBut b o hb e) hC hL (.inr hz) bo hp,rfl,q⟩⟩
def Mz (hN:X.N.Nodup)(hi:X.N[i]?=some x)(hx:X.env.scope.names.lookup x=some .local)(hc:X.calm=true)(S:BlkSc X sc)(gH:Fb X.N sc cp)(aK:PI X tg iter wi)
  (hg:∀C s₀ H₀ ex,PG (X.blk cp.names sc C s₀ H₀ ex) tg g) (hf:∀C s₀ H₀ ex,PF (X.blk cp.names sc C s₀ H₀ ex) dJ tc) (he:∀C s₀ H₀ ex,PE (X.blk cp.names sc C s₀ H₀ ex) eE te)
  (hsw:swapsWith (.ListComp eE [⟨tg,iter,dJ,0⟩] sc pos) (some (.Name x px)) spos.line X.env=pure true:=by rfl)
  (hs:∀x,foldedSetIterable iter X.env x=pure x:=by intro _;rfl):PS X (.Assign [.Name x px] (.ListComp eE [⟨tg,iter,dJ,0⟩] sc pos) spos) (tAsg (WA wi cp g tc te) (IK i)):=by
 intro ae s σ H D I h;rw[exec_Assign_Name_used _ _ _ _ hsw];refine jg_ (wpAny_standAt (jg_ ?_));show wpAny _ X.A (do let _ <- comprehension (.ListComp eE [⟨tg,iter,dJ,0⟩] sc pos) sc X.env _ (newList []) false (eval iter X.env) (some (assign (.Name x px) X.env))) _ _ s;refine jg_ (q1_ (wpAny_comprehension_free (use:=some (assign (.Name x px) X.env)) (Q:=fun _ s'=>SP X ae D .next s') rfl hs (LW (KD I S)) S.kind S.loc
  (thn (aK ae s σ H _ I h) fun xv s₁ h₁=>thn h₁ fun lh bj cX=>?_)) (fun _ s' hq=>jt_ (jt_ hq)) fun _ _ e=>e)
 obtain⟨it,fp,tn,J,H2,e,I2,T,cG,f2,hw⟩:=cX;subst e;refine NH (RR:=fun ah C=>compPost (model X.prog X.w) X.A X.xe (some (assign (.Name x px) X.env)) (fun _ s'=>SP X ae D .next s') ah C) (Q:=fun v H1=>IK i v σ H1 D.nx) hc S gH hg hf he I2 T cG f2 hw ?_;intro Dl C s' H' m I' q hn hC hL hz bo hp;show wpAny _ X.A (assign (.Name x px) X.env (.ref Dl)) _ _ _;refine wpAny_assign_Name (Ni I' hN hi (.inl hx) (v:=.ref Dl) rfl (fun jS I'' ⟨a,hsb,ha⟩=>?_) (.inr hx));have aA:C≠a:=by
  rcases ha with rfl|ha
  ·exact hL
  ·exact fun z=>bo _ _ ha z.symm
 refine⟨m,hn.sameBut hsb aA,fun h' eF=>⟨_,H',I''.turned (t':=jS.toks) (it:=C) (fun b o hb e=>eF.extBut b o hb e) hC hL (.inr hz) bo hp,q⟩⟩
end
def RJ {K:α3}{a:Addr}{xs:List V}{g:TG}{tc:TT}{te:TE}{Q:VK}{σ:St}{H:Hp}(Pv:Nat->List V->St->Hp->Prop)(h0:Pv 0 [] σ H)(hz:xs.length<sizeLine)
  (hl:∀i ys σ H,i<=xs.length->Pv i ys σ H->SqL K H a xs/\ys.length<=i)
  (hs:∀i x ys σ H,xs[i]?=some x->Pv i ys σ H->g x σ H fun aq H2=>tc aq H2 fun b H3=>if b=true then te aq H3 fun v H4=>Pv (i+1) (ys++[v]) aq H4 else Pv (i+1) ys aq H3)
  (hd:∀ys σ H,Pv xs.length ys σ H->∀D,H D=none->Q (.ref D) (upd H D (.lst ys))):
  ∃W:Nat->Nat->List V->St->Hp->Prop,(∃m,W 0 m [] σ H)/\∀i m ys aj H',W i m ys aj H' ->
   ys.length<sizeLine/\(((Itl K a).stop i H'/\∀D,H' D=none->Q (.ref D) (upd H' D (.lst ys)))\/((Itl K a).go i H'/\∃N:List V->St->Hp->Prop,(∀zs aq H2,N zs aq H2->∃m',m'<m/\W (i+1) m' zs aq H2)/\∀x H2,(Itl K a).yld i H' x H2->g x aj H2 fun aq H3=>tc aq H3 fun b H4=>
    if b=true then te aq H4 fun v H5=>N (ys++[v]) aq H5 else N ys aq H4)):=by
 refine⟨fun i m ys σ H=>m=xs.length-i/\i<=xs.length/\Pv i ys σ H,⟨xs.length,by simp,j9_ _,h0⟩,?_⟩;rintro i m ys σ H ⟨rfl,hi,p⟩;obtain⟨q,ly⟩:=hl i ys σ H hi p;refine⟨by lia,?_⟩;by_cases ay:i<xs.length
 ·refine .inr ⟨⟨xs,xs[i],q,by simp[ay]⟩,Pv (i+1),fun zs aj H' p'=>⟨xs.length-(i+1),by lia,rfl,ay,p'⟩,fun x H' y=>?_⟩;obtain⟨e,y⟩:=y;subst e;exact hs i x ys σ _ (y xs q) p
 ·have e:i=xs.length:=by lia
  subst e;exact .inl ⟨⟨xs,q,jh_ _⟩,hd ys σ H p⟩
def Ub {K:α3}{a:Addr}{xs:List V}{g:TG}{tc:TT}{te:TE}{Q:VK}{σ:St}{H:Hp}(Pv:Nat->List V->St->Hp->Prop)(h0:Pv 0 [] σ H)(hz:xs.length<sizeLine)
  (hl:∀i ys σ H,i<=xs.length->Pv i ys σ H->SqT K H a xs/\ys.length<=i)
  (hs:∀i x ys σ H,xs[i]?=some x->Pv i ys σ H->g x σ H fun aq H2=>tc aq H2 fun b H3=>if b=true then te aq H3 fun v H4=>Pv (i+1) (ys++[v]) aq H4 else Pv (i+1) ys aq H3)
  (hd:∀ys σ H,Pv xs.length ys σ H->∀D,H D=none->Q (.ref D) (upd H D (.lst ys))):
  ∃W:Nat->Nat->List V->St->Hp->Prop,(∃m,W 0 m [] σ H)/\∀i m ys aj H',W i m ys aj H' ->
   ys.length<sizeLine/\(((Itt K a).stop i H'/\∀D,H' D=none->Q (.ref D) (upd H' D (.lst ys)))\/((Itt K a).go i H'/\∃N:List V->St->Hp->Prop,(∀zs aq H2,N zs aq H2->∃m',m'<m/\W (i+1) m' zs aq H2)/\∀x H2,(Itt K a).yld i H' x H2->g x aj H2 fun aq H3=>tc aq H3 fun b H4=>
    if b=true then te aq H4 fun v H5=>N (ys++[v]) aq H5 else N ys aq H4)):=by
 refine⟨fun i m ys σ H=>m=xs.length-i/\i<=xs.length/\Pv i ys σ H,⟨xs.length,by simp,j9_ _,h0⟩,?_⟩;rintro i m ys σ H ⟨rfl,hi,p⟩;obtain⟨q,ly⟩:=hl i ys σ H hi p;refine⟨by lia,?_⟩;by_cases ay:i<xs.length
 ·refine .inr ⟨⟨xs,xs[i],q,by simp[ay]⟩,Pv (i+1),fun zs aj H' p'=>⟨xs.length-(i+1),by lia,rfl,ay,p'⟩,fun x H' y=>?_⟩;obtain⟨e,y⟩:=y;subst e;exact hs i x ys σ _ (y xs q) p
 ·have e:i=xs.length:=by lia
  subst e;exact .inl ⟨⟨xs,q,jh_ _⟩,hd ys σ H p⟩
def Qx {lo:Int}{n:Nat}{g:TG}{tc:TT}{te:TE}{Q:VK}{σ:St}{H:Hp}(Pv:Nat->List V->St->Hp->Prop)(h0:Pv 0 [] σ H)(hz:n<sizeLine)
  (hl:∀i ys σ H,i<=n->Pv i ys σ H->ys.length<=i)
  (hs:∀i ys σ H,i<n->Pv i ys σ H->g (.int (lo+i)) σ H fun aq H2=>tc aq H2 fun b H3=>if b=true then te aq H3 fun v H4=>Pv (i+1) (ys++[v]) aq H4 else Pv (i+1) ys aq H3)
  (hd:∀ys σ H,Pv n ys σ H->∀D,H D=none->Q (.ref D) (upd H D (.lst ys))):
  ∃W:Nat->Nat->List V->St->Hp->Prop,(∃m,W 0 m [] σ H)/\∀i m ys aj H',W i m ys aj H' ->
   ys.length<sizeLine/\(((Itr lo n).stop i H'/\∀D,H' D=none->Q (.ref D) (upd H' D (.lst ys)))\/((Itr lo n).go i H'/\∃N:List V->St->Hp->Prop,(∀zs aq H2,N zs aq H2->∃m',m'<m/\W (i+1) m' zs aq H2)/\∀x H2,(Itr lo n).yld i H' x H2->g x aj H2 fun aq H3=>tc aq H3 fun b H4=>
    if b=true then te aq H4 fun v H5=>N (ys++[v]) aq H5 else N ys aq H4)):=by
 refine⟨fun i m ys σ H=>m=n-i/\i<=n/\Pv i ys σ H,⟨n,by simp,j9_ _,h0⟩,?_⟩;rintro i m ys σ H ⟨rfl,hi,p⟩;have ly:=hl i ys σ H hi p;refine⟨by lia,?_⟩;by_cases ay:i<n
 ·refine .inr ⟨ay,Pv (i+1),fun zs aj H' p'=>⟨n-(i+1),by lia,rfl,ay,p'⟩,fun x H' y=>?_⟩;obtain⟨e,y⟩:=y;subst e y;exact hs i ys σ _ ay p
 ·have e:i=n:=by lia
  subst e;exact .inl ⟨jh_ _,hd ys σ H p⟩
end L2
namespace L2
open PySem PySem.Spec PyProof.Rows
section
variable {X:Cx}
def MA {bs:List Bool}{its:List Value}(r:Vals (bs.map V.bl) its){i:Nat}{v:Value}(h:its[i]?=some v):∃b,bs[i]?=some b/\v=.bool b:=by
 have hi:i<its.length:=(ja_.mp h).1;have hl:=r.length;rw[jb_]at hl;obtain⟨u,hu,ru⟩:=r.get (i:=i) (x:=V.bl bs[i]) (by rw[jj_];simp[show i<bs.length by lia]);rw[h]at hu;cases hu;exact⟨bs[i],by simp[show i<bs.length by lia],ru⟩
def X4 (bs:List Bool):(om bs.length).map (fun i=>bs.getD i false)=bs:=
 qD (by simp) fun i _ h=>by simp[h]
def range_all {bs:List Bool}:(om bs.length).all (fun i=>bs.getD i false)=bs.all id:=by
 have e:=qn_ (fun l=>l.all id) (X4 bs);rw[pD]at e;exact e
def OC {bs:List Bool}{its:List Value}{A:Around}{P:Program}{w:World}(r:Vals (bs.map V.bl) its):TruthOf P w A (fun i v=>its.toArray[i]?=some v) (fun i=>bs.getD i false):=by
 intro i v s Q E hv hq;obtain⟨b,hb,e⟩:=MA r (by simpa using hv);subst e;refine qV_ ?_;have e:bs.getD i false=b:=by rw[jp_,hb];rfl
 have eC:Q (bs.getD i false) s:=hq;rw[e]at eC;exact eC
def Kf (hc:X.calm=true):DA X (.builtin "all") (fun xs H Q=>∃(p:Addr) (bs:List Bool),xs=[.ref p]/\SqL X.K H p (bs.map V.bl)/\Q (.bl (bs.all id)) H):=by
 intro ae s σ H xs us Q I r h;obtain⟨p,bs,rfl,hq,q⟩:=h;obtain⟨u,rfl,ru⟩:=vals1 r;cases ru;obtain⟨its,rv,pl,hz⟩:=I.list hq;have av:=rv.length;rw[jb_]at av;have hh:X.A.in1.handled=none:=I.ok.hd hc;obtain⟨o,ho,_⟩:=id pl.isList;have aA:p≠s.heap.objs.size:=jQ_ (ju_ ho);refine call_all_walk (wpAny_pyIter_list pl.isList ?_);refine⟨s.heap.objs.size,_,_,its.toArray.size,_,_,fun i=>bs.getD i false,rfl,Walks.list hh _ p aA its.toArray,⟨⟨_,jw_ _ rfl,rfl,rfl⟩,pl.isList.at fun o e=>jl_ _ e⟩,OC rv,fun h' tk hk=>?_⟩;refine⟨.bl (bs.all id),H,I.kept (t':=tk) fun b o e=>hk b o ?_ (jl_ _ e),?_,q⟩
 ·intro hb;have e':b=s.heap.objs.size:=by simpa using hb
  exact absurd (ju_ e) (by rw[e'];exact qe_ _)
 ·rw[jk_,<-av,range_all];rfl
def Eo:DA X (.builtin "isinstance") (fun xs H Q=>∃x c cv t b,xs=[x,c]/\TyOf X.K H x t/\(∀u,RelV c u->u=cv)/\kitOne X.K t cv=some b/\Q (.bl b) H):=by
 intro ae s σ H xs us Q I r h;obtain⟨x,c,cv,t,b,rfl,ty,hc,hk,q⟩:=h;obtain⟨u,w',rfl,rx,rc⟩:=vals2 r;rw[hc _ rc];exact Rt I rx ty hk fun tk=>⟨.bl b,H,I.tok tk,rfl,q⟩
noncomputable def EqD (K:α3)(H:Hp):Nat->V->V->Bool->Prop
 |0,x,y,b=>E3 x=true/\E3 y=true/\b=eqV x y
 |n+1,x,y,b=>(E3 x=true/\E3 y=true/\b=eqV x y) \/ ∃a c xs ys,x=.ref a/\y=.ref c/\((SqL K H a xs/\SqL K H c ys)\/(SqT K H a xs/\SqT K H c ys)) /\
   ∃e:Nat->Bool,(∀i x y,xs[i]?=some x->ys[i]?=some y->EqD K H n x y (e i))/\b=(decide (xs.length=ys.length)&&(om (min xs.length ys.length)).all e)
def in1_units (A:Around):A.in1.units=A.units+1:=rfl
def Pp (h:E3 x=true):eqV x x=true:=by
 cases x<;>first|rfl|(simp[eqV];done)|exact absurd (show false=true from h) jy_
def EqD.self (I:Inv X ae σ H s):∀(n:Nat) {x:V} {b:Bool},EqD X.K H n x x b->b=true:=by
 intro n
 induction n with
 |zero=>
  rintro x b ⟨fx,_,rfl⟩;exact Pp fx
 |succ n ih=>
  rintro x b (⟨fx,_,rfl⟩|⟨a,c,xs,ys,rfl,e2,hq,e,he,rfl⟩)
  ·exact Pp fx
  ·cases e2;have exy:xs=ys:=by
    rcases hq with ⟨h1,h2⟩|⟨h1,h2⟩
    ·exact I.list_inj h1 h2
    ·exact I.tuple_inj h1 h2
   subst exy;simp only[decide_true,zj_,qr,xq_,qf_];intro i hi;exact ih (he i xs[i] xs[i] (by simp[hi]) (by simp[hi]))
def RK : ((om (min n m)).all e&&n==m)=(decide (n=m)&&(om (min n m)).all e):=by
 rw[Bool.and_comm]
 congr 1
def EqD.at (I:Inv X ae σ H s):∀(n:Nat) (A:Around) {x y:V} {u v:Value} {b:Bool},A.units+n<cLine->RelV x u->RelV y v->EqD X.K H n x y b ->
  SeqAt.EqAt A s u v b/\∀a c,x=.ref a->y=.ref c->SeqAt.RcAt A s u v b:=by
 intro n
 induction n with
 |zero=>
  intro A x y u v b hu rx ry h;obtain⟨fx,fy,rfl⟩:=h;refine⟨RA rx ry fx fy,?_⟩;rintro a c rfl rfl;exact absurd (show false=true from fx) jy_
 |succ n ih=>
  intro A x y u v b hu rx ry h;have hself:=h;rcases h with ⟨fx,fy,rfl⟩|⟨a,c,xs,ys,rfl,rfl,hq,e,he,rfl⟩
  ·refine⟨RA rx ry fx fy,?_⟩;rintro a c rfl rfl;exact absurd (show false=true from fx) jy_
  ·cases rx;cases ry;have key:∀(its aE:List Value),Vals xs its->Vals ys aE->∀j (h1:j<its.toArray.size) (h2:j<aE.toArray.size),SeqAt.EqAt A.in1 s its.toArray[j] aE.toArray[j] (e j):=fun its aE r1 r2 j h1 h2=>by
    have l1:=r1.length;have l2:=r2.length;rw[jk_]at h1 h2;obtain⟨u1,g1,q1⟩:=r1.get (i:=j) (x:=xs[j]'s!"") (by simp[show j<xs.length by lia]);obtain⟨u2,g2,q2⟩:=r2.get (i:=j) (x:=ys[j]'s!"") (by simp[show j<ys.length by lia]);have k1:its.toArray[j]'(by rw[jk_];exact h1)=u1:=by
     have:=(ja_.mp g1).2;simpa using this
    have k2:aE.toArray[j]'(by rw[jk_];exact h2)=u2:=by
     have:=(ja_.mp g2).2;simpa using this
    rw[k1,k2];exact (ih A.in1 (by rw[in1_units];lia) q1 q2 (he j _ _ (by simp[show j<xs.length by lia]) (by simp[show j<ys.length by lia]))).1
   have rc:SeqAt.RcAt A s (.ref a) (.ref c) (decide (xs.length=ys.length)&&(om (min xs.length ys.length)).all e):=by
    rcases hq with ⟨h1,h2⟩|⟨h1,h2⟩
    ·obtain⟨its,r1,p1,_⟩:=I.list h1;obtain⟨aE,r2,p2,_⟩:=I.list h2;have l1:=r1.length;have l2:=r2.length;by_cases hl:xs.length=ys.length
     ·have:=SeqAt.RcAt.lists (e:=e) p1.isList p2.isList (by rw[jk_,jk_];lia) s!"" (key its aE r1 r2);rw[jk_,<-l1]at this;rw[jR_ hl,zj_,<-hl,qr];exact this
     ·rw[jP_ hl,pT];exact SeqAt.RcAt.lists_lengths p1.isList p2.isList (by rw[jk_,jk_];simp;lia) s!""
    ·obtain⟨its,r1,p1,_⟩:=I.tuple h1;obtain⟨aE,r2,p2,_⟩:=I.tuple h2;have l1:=r1.length;have l2:=r2.length;have:=SeqAt.RcAt.tuples (e:=e) (show s.heap.IsTuple a its.toArray from p1) (show s.heap.IsTuple c aE.toArray from p2) s!"" (key its aE r1 r2);rw[jk_,jk_,<-l1,<-l2,RK]at this;exact this
   refine⟨?_,fun a' c' _ _=>rc⟩;by_cases hac:a=c
   ·subst hac;rw[EqD.self I (n+1) hself];exact SeqAt.EqAt.same _
   ·exact SeqAt.EqAt.of_refs hac rc
noncomputable def rEqD (K:α3)(n:Nat):R2:=fun x y H Q=>∃a c b,x=.ref a/\y=.ref c/\EqD K H n x y b/\Q (.bl b) H
def X5 (n:Nat)(hu:X.A.units+n<cLine):OpR X (compareOp .Eq) (rEqD X.K n):=by
 intro ae s σ H x y v u Q I rx ry h;obtain⟨a,c,b,ex,ey,h,q⟩:=h;exact (EqD.at I n X.A hu rx ry h).2 a c ex ey _ _ _ _ ⟨.bl b,H,I,rfl,q⟩
def EqD.flat {K:α3} (hq:(SqL K H a xs/\SqL K H c ys)\/(SqT K H a xs/\SqT K H c ys))(fx:∀x∈xs,E3 x=true)(fy:∀y∈ys,E3 y=true)(hi:∀x∈xs,∀y∈ys,eqV x y=decide (x=y))(n:Nat):
  EqD K H (n+1) (.ref a) (.ref c) (decide (xs=ys)):=by
 have base:∀m i x y,xs[i]?=some x->ys[i]?=some y->EqD K H m x y (decide (x=y)):=fun m i x y h1 h2=>by
  have m1:=jc_ h1;have m2:=jc_ h2;cases m with
  |zero=>exact⟨fx _ m1,fy _ m2,(hi _ m1 _ m2).symm⟩
  |succ m=>exact .inl ⟨fx _ m1,fy _ m2,(hi _ m1 _ m2).symm⟩
 refine .inr ⟨a,c,xs,ys,rfl,rfl,hq,fun i=>match xs[i]?,ys[i]? with|some x,some y=>decide (x=y)|_,_=>true,fun i x y h1 h2=>?_,?_⟩
 ·simp only[h1,h2];exact base n i x y h1 h2
 ·rw[qr_];simp only[jU_,qb_,xq_,qf_];constructor
  ·rintro rfl;refine⟨rfl,fun i hi=>?_⟩;have hi:i<xs.length:=by lia
   simp[hi]
  ·rintro⟨hl,h⟩;refine qw_ fun i=>?_;by_cases hi:i<xs.length
   ·have:=h i s!"";simp[hi,show i<ys.length by lia]at this;simp[hi,show i<ys.length by lia,this]
   ·rw[jT_ s!"",jT_ s!""]
end
end L2
namespace L2
open PySem PySem.Spec PyProof.Rows
noncomputable def X6 (outer:List (Str×NameKind))(sc:Scope):Bool:=
 sc.kind == .function&&sc.names.all (fun y=>y.2 != .cell&&(y.2 != .local||sc.names.lookup y.1==some .local)&&(y.2 != .free||outer.lookup y.1==some .cell||outer.lookup y.1==some .free))
def Bq (h:X6 X.env.scope.names sc=true):BlkSc X sc:=by
 unfold X6 at h;rw[qb_,xq_]at h;obtain⟨h1,h2⟩:=h;refine⟨by simpa using h1,fun y hy z=>?_,fun y hy z=>?_,fun y hy z=>?_⟩
 ·have:=h2 y hy;simp only[qb_]at this;have:=this.1.1;rw[z]at this;exact absurd this (by decide)
 ·have:=h2 y hy;simp only[qb_]at this;have:=this.1.2;rw[z]at this;simpa using this
 ·have:=h2 y hy;simp only[qb_]at this;have:=this.2;rw[z]at this;have t:(X.env.scope.names.lookup y.1==some .cell||X.env.scope.names.lookup y.1==some .free)=true:=by simpa using this
  rw[qK]at t;rcases t with t|t
  ·exact .inl (by show X.env.scope.names.lookup y.1=some .cell;simpa using t)
  ·exact .inr (by show X.env.scope.names.lookup y.1=some .free;simpa using t)
section
variable {t u:TS} {te ta tb tc':TE} {tt tu:TT} {A B:TA} {D:Ends} {σ:St} {H:Hp} {Q:VK} {R:Bool->Hp->Prop} {S:List V->Hp->Prop} {i:Nat} {v:V} {g:TG} {r r':R2} {K:α3} {wi:TI} {cp:Caps}
theorem X7:tSeq t u D σ H=t {D with nx:=u D} σ H:=rfl
theorem Vm:XD D σ H=D.nx σ H:=rfl
theorem X8:tAsg te g D σ H=te σ H fun x H1=>g x σ H1 D.nx:=rfl
theorem RL : IK i v σ H N=N (σ.set i (some v)) H:=rfl
theorem X9:tVar i σ H Q=∃v,σ[i]?=some (some v)/\Q v H:=rfl
theorem r_c:tC v σ H Q=Q v H:=rfl
theorem r_op:tOp r ta tb σ H Q=ta σ H fun x H1=>tb σ H1 fun y H2=>r x y H2 Q:=rfl
theorem r_un : tUn f ta σ H Q=ta σ H fun x H1=>f x H1 Q:=rfl
theorem r_I : rI C f x y H Q=∃i j,x=.int i/\y=.int j/\C i j/\Q (f i j) H:=rfl
theorem r_I0 : rI0 f x y H Q=∃i j,x=.int i/\y=.int j/\Q (f i j) H:=rfl
theorem r_U : rU f x H Q=∃i,x=.int i/\Q (f i) H:=rfl
theorem Vn : T3 sp aI E A σ H Q=A σ H fun vs H1=>sp (vs++aI) H1 Q E:=rfl
theorem Vo:T2 te A σ H S=te σ H fun x H1=>A σ H1 fun xs H2=>S (x::xs) H2:=rfl
theorem Ya:tNil σ H S=S [] H:=rfl
theorem Yb:tRet te D σ H=te σ H D.rt:=rfl
theorem Vp:XE te D σ H=te σ H fun _ H1=>D.nx σ H1:=rfl
theorem r_if:tIfS tt t u D σ H=tt σ H fun b H1=>if b=true then t D σ H1 else u D σ H1:=rfl
theorem r_B:tB te σ H R=te σ H fun x H1=>∃c,x=.bl c/\R c H1:=rfl
theorem Vq:Rm te σ H R=te σ H fun x H1=>∃c,x=.bl c/\R c H1:=rfl
theorem Yc:tAnd tt tu σ H R=tt σ H fun c H1=>if c=true then tu σ H1 R else R false H1:=rfl
theorem r_or:tOr tt tu σ H R=tt σ H fun c H1=>if c=true then R true H1 else tu σ H1 R:=rfl
theorem Yd:tNot tt σ H R=tt σ H fun c H1=>R (!c) H1:=rfl
theorem RM:Ro r r' ta tb tc' σ H Q=ta σ H fun x H1=>tb σ H1 fun y H2=>r x y H2 fun z H3=>∃k,z=.bl k/\(if k=true then tc' σ H3 fun w' H4=>r' y w' H4 Q else Q (.bl false) H3):=rfl
theorem Ye:tIf tt ta tb σ H Q=tt σ H fun c H1=>if c=true then ta σ H1 Q else tb σ H1 Q:=rfl
theorem r_CB : tCB f A σ H Q=A σ H fun vs H1=>f vs H1 Q:=rfl
theorem Yf:tLst A σ H Q=A σ H fun xs H1=>xs.length<=sizeLine/\∀p,H1 p=none->Q (.ref p) (upd H1 p (.lst xs)):=rfl
theorem Yg:tTup A σ H Q=A σ H fun xs H1=>xs.length<=sizeLine/\∀p,H1 p=none->Q (.ref p) (upd H1 p (.tup xs)):=rfl
theorem Yh : rIxL K x y H Q=∃p xs i v,x=.ref p/\y=.int i/\SqL K H p xs/\atI xs i=some v/\Q v H:=rfl
theorem Yi : rIxT K x y H Q=∃p xs i v,x=.ref p/\y=.int i/\SqT K H p xs/\atI xs i=some v/\Q v H:=rfl
theorem r_sl : tSl f te tl th σ H Q=te σ H fun x H1=>tl σ H1 fun l H2=>th σ H2 fun u H3=>f x l u H3 Q:=rfl
theorem Vr : XS te σ H U=te σ H fun x H1=>∃i,x=.int i/\U (some i) H1:=rfl
theorem Pq : Rw σ H U=U none H:=rfl
theorem Yj {lo hi:Option Int}:rSlL K x lo hi H Q=∃a xs,x=.ref a/\SqL K H a xs/\∀p,H p=none->Q (.ref p) (upd H p (.lst (cutV xs lo hi))):=rfl
theorem r_BM : tBM K T f te A σ H Q=te σ H fun x H1=>tyV K T x H1/\A σ H1 fun xs H2=>f x xs H2 Q:=rfl
theorem Pt : RC x vs H Q=∃l xs y,x=.ref l/\vs=[y]/\H l=some (.lst xs)/\xs.length<sizeLine/\Q .non (upd H l (.lst (xs++[y]))):=rfl
theorem Vs : gSub to ti ts v σ H N=to σ H fun o H1=>ti σ H1 fun i H2=>ts o i v H2 fun H3=>N σ H3:=rfl
theorem Vt : XT o k v H N=∃p xs m j,o=.ref p/\k=.int m/\H p=some (.lst xs)/\ixN xs.length m=some j/\N (upd H p (.lst (xs.set j v))):=rfl
theorem r_Eq : rEq x y H Q=(scal x y=true/\Q (.bl (decide (x=y))) H):=rfl
theorem r_Ne : rNe x y H Q=(scal x y=true/\Q (.bl (!decide (x=y))) H):=rfl
theorem Yk : rEqD K n x y H Q=∃a c b,x=.ref a/\y=.ref c/\EqD K H n x y b/\Q (.bl b) H:=rfl
theorem RO : Wn K te σ H Z=te σ H fun x H1=>∃a,x=.ref a/\(∃xs,SqL K H1 a xs)/\Z (Itl K a) H1:=rfl
theorem Vu : iTup K te σ H Z=te σ H fun x H1=>∃a,x=.ref a/\(∃xs,SqT K H1 a xs)/\Z (Itt K a) H1:=rfl
theorem RP : XJ A σ H Z=A σ H fun vs H1=>∃j:Int,vs=[.int j] /\ -(2 ^ 62)<=j/\j<2 ^ 62/\Z (Itr 0 j.toNat) H1:=rfl
theorem Yl : tAug i te ti D σ H=∃x,σ[i]?=some (some x)/\te σ H fun y H1=>ti x y H1 fun z H2=>D.nx (σ.set i (some z)) H2:=rfl
theorem r_ip : ipI f x y H Q=∃i j,x=.int i/\y=.int j/\Q (.int (f i j)) H:=rfl
theorem Vv:NG σ H R=R true H:=rfl
end
def Same.new (h:H p=none):Same H (upd H p o):=fun b u e=>by rw[Ah (AW e h)];exact e
def Same.newT (s:Same H H')(h:H' p=none):Same H (upd H' p o):=s.trans (Same.new h)
def Same.over (s:Same H H')(h:H p=none):Same H (upd H' p o):=fun b u e=>by rw[Ah (AW e h)];exact s b u e
def Cv (h:upd H p o D=none):H D=none/\D≠p:=by
 by_cases e:D=p
 ·subst e;rw[Ab]at h;cases h
 ·rw[Ah e]at h;exact⟨h,e⟩
def Same.seqT {K:α3} (e:Same H H')(h:SqT K H a xs):SqT K H' a xs:=by
 rcases h with (h|⟨o,h⟩)|h
 ·exact .inl (.inl (e _ _ h))
 ·exact .inl (.inr ⟨o,e _ _ h⟩)
 ·exact .inr h
def hu9 (hr:Room k A):A.units+8<cLine:=by have:=hr.units;lia
section
variable {K:α3} {wi:TI} {cp:Caps} {g:TG} {tc:TT} {te:TE} {σ:St} {H:Hp} {Q:VK}
theorem Ym : (cxOf CX P w K mg base N qual scope f cd A outer s H E).K=K:=rfl
noncomputable def IQ (J:It)(cp:Caps)(g:TG)(tc:TT)(te:TE)(σ:St)(H1:Hp)(Q:VK):Prop:=∃W:Nat->Nat->List V->St->Hp->Prop,(∃m,W 0 m [] (cp.st σ) H1)/\∀i m ys aj H',W i m ys aj H' ->
 ys.length<sizeLine/\((J.stop i H'/\∀D,H' D=none->Q (.ref D) (upd H' D (.lst ys)))\/(J.go i H'/\∃N:List V->St->Hp->Prop,(∀zs aq H2,N zs aq H2->∃m',m'<m/\W (i+1) m' zs aq H2)/\∀x H2,J.yld i H' x H2->g x aj H2 fun aq H3=>tc aq H3 fun b H4=>
  if b=true then te aq H4 fun v H5=>N (ys++[v]) aq H5 else N ys aq H4))
theorem Vw:WA wi cp g tc te σ H Q=wi σ H fun J H1=>IQ J cp g tc te σ H1 Q:=rfl
noncomputable def ForW (J:It)(g:TG)(tb:TS)(D:Ends)(σ:St)(H1:Hp):Prop:=∃W:Nat->Nat->St->Hp->Prop,(∃m,W 0 m σ H1)/\∀i m σ H,W i m σ H ->
 (J.stop i H/\D.nx σ H)\/(J.go i H/\∃N:St->Hp->Prop,(∀aj H',N aj H'->∃m',m'<m/\W (i+1) m' aj H')/\∀x H',J.yld i H x H'->g x σ H' fun aq H2=>tb {D with nx:=N,ct:=N,bk:=D.nx} aq H2)
theorem Yn : tFor wi g tb D σ H=wi σ H fun J H1=>ForW J g tb D σ H1:=rfl
def forL (Pv:Nat->St->Hp->Prop)(h0:Pv 0 σ H)(hl:∀i σ H,i<=xs.length->Pv i σ H->SqL K H a xs)
  (hs:∀i x σ H,xs[i]?=some x->Pv i σ H->g x σ H fun aq H2=>tb {D with nx:=Pv (i+1),ct:=Pv (i+1),bk:=D.nx} aq H2) (hd:∀σ H,Pv xs.length σ H->D.nx σ H):ForW (Itl K a) g tb D σ H:=TY Pv h0 hl hs hd
def forT (Pv:Nat->St->Hp->Prop)(h0:Pv 0 σ H)(hl:∀i σ H,i<=xs.length->Pv i σ H->SqT K H a xs)
  (hs:∀i x σ H,xs[i]?=some x->Pv i σ H->g x σ H fun aq H2=>tb {D with nx:=Pv (i+1),ct:=Pv (i+1),bk:=D.nx} aq H2) (hd:∀σ H,Pv xs.length σ H->D.nx σ H):ForW (Itt K a) g tb D σ H:=Wo Pv h0 hl hs hd
def forR {lo:Int} (Pv:Nat->St->Hp->Prop)(h0:Pv 0 σ H)
  (hs:∀i σ H,i<n->Pv i σ H->g (.int (lo+i)) σ H fun aq H2=>tb {D with nx:=Pv (i+1),ct:=Pv (i+1),bk:=D.nx} aq H2) (hd:∀σ H,Pv n σ H->D.nx σ H):ForW (Itr lo n) g tb D σ H:=Rg Pv h0 hs hd
def JV (Pv:Nat->List V->St->Hp->Prop)(h0:Pv 0 [] (cp.st σ) H)(hz:xs.length<sizeLine)
  (hl:∀i ys σ H,i<=xs.length->Pv i ys σ H->SqL K H a xs/\ys.length<=i)
  (hs:∀i x ys σ H,xs[i]?=some x->Pv i ys σ H->g x σ H fun aq H2=>tc aq H2 fun b H3=>if b=true then te aq H3 fun v H4=>Pv (i+1) (ys++[v]) aq H4 else Pv (i+1) ys aq H3)
  (hd:∀ys σ H,Pv xs.length ys σ H->∀D,H D=none->Q (.ref D) (upd H D (.lst ys))):IQ (Itl K a) cp g tc te σ H Q:=RJ Pv h0 hz hl hs hd
def Yo (Pv:Nat->List V->St->Hp->Prop)(h0:Pv 0 [] (cp.st σ) H)(hz:xs.length<sizeLine)
  (hl:∀i ys σ H,i<=xs.length->Pv i ys σ H->SqT K H a xs/\ys.length<=i)
  (hs:∀i x ys σ H,xs[i]?=some x->Pv i ys σ H->g x σ H fun aq H2=>tc aq H2 fun b H3=>if b=true then te aq H3 fun v H4=>Pv (i+1) (ys++[v]) aq H4 else Pv (i+1) ys aq H3)
  (hd:∀ys σ H,Pv xs.length ys σ H->∀D,H D=none->Q (.ref D) (upd H D (.lst ys))):IQ (Itt K a) cp g tc te σ H Q:=Ub Pv h0 hz hl hs hd
def Uc {lo:Int} (Pv:Nat->List V->St->Hp->Prop)(h0:Pv 0 [] (cp.st σ) H)(hz:n<sizeLine)
  (hl:∀i ys σ H,i<=n->Pv i ys σ H->ys.length<=i)
  (hs:∀i ys σ H,i<n->Pv i ys σ H->g (.int (lo+i)) σ H fun aq H2=>tc aq H2 fun b H3=>if b=true then te aq H3 fun v H4=>Pv (i+1) (ys++[v]) aq H4 else Pv (i+1) ys aq H3)
  (hd:∀ys σ H,Pv n ys σ H->∀D,H D=none->Q (.ref D) (upd H D (.lst ys))):IQ (Itr lo n) cp g tc te σ H Q:=Qx Pv h0 hz hl hs hd
def HH (f:V->V)(e:cp.st σ=none::aj)(hl:SqT K H a xs)(hz:xs.length<sizeLine)(hs:∀x∈xs,∀R:VK,R (f x) H->te (some x::aj) H R)(hd:∀D,H D=none->Q (.ref D) (upd H D (.lst (xs.map f)))):
  IQ (Itt K a) cp (IK 0) NG te σ H Q:=by
 refine Yo (xs:=xs) (fun i ys aq H2=>H2=H/\ys=(xs.take i).map f/\∃o,aq=o::aj) ⟨rfl,by simp,none,e⟩ hz (fun i ys aq H2 hi h=>?_) (fun i x ys aq H2 hx h=>?_) (fun ys aq H2 h=>?_)
 ·obtain⟨rfl,rfl,_⟩:=h;exact⟨hl,by rw[jb_,jI_];lia⟩
 ·obtain⟨rfl,rfl,o,rfl⟩:=h;refine hs x (jc_ hx) _ ⟨rfl,?_,some x,rfl⟩;rw[jA_,hx];simp
 ·obtain⟨rfl,rfl,_⟩:=h;rw[jE_];exact hd
def MB (f:V->V)(e:cp.st σ=none::aj)(hl:SqL K H a xs)(hz:xs.length<sizeLine)(hs:∀x∈xs,∀R:VK,R (f x) H->te (some x::aj) H R)(hd:∀D,H D=none->Q (.ref D) (upd H D (.lst (xs.map f)))):
  IQ (Itl K a) cp (IK 0) NG te σ H Q:=by
 refine JV (xs:=xs) (fun i ys aq H2=>H2=H/\ys=(xs.take i).map f/\∃o,aq=o::aj) ⟨rfl,by simp,none,e⟩ hz (fun i ys aq H2 hi h=>?_) (fun i x ys aq H2 hx h=>?_) (fun ys aq H2 h=>?_)
 ·obtain⟨rfl,rfl,_⟩:=h;exact⟨hl,by rw[jb_,jI_];lia⟩
 ·obtain⟨rfl,rfl,o,rfl⟩:=h;refine hs x (jc_ hx) _ ⟨rfl,?_,some x,rfl⟩;rw[jA_,hx];simp
 ·obtain⟨rfl,rfl,_⟩:=h;rw[jE_];exact hd
end
def Ak:1000000<sizeLine:=by rw[sizeLine_eq];decide
def C0 {ns:α2}{x:V}(h:x∈ns.map V.int):∃n,n∈ns/\x=.int n:=by
 obtain⟨n,hn,e⟩:=jq_.mp h;exact⟨n,hn,e.symm⟩
def Gb {ns:α2}{i:Nat}{x:V}(h:(ns.map V.int)[i]?=some x):∃n,ns[i]?=some n/\x=.int n:=by
 rw[jj_]at h;cases e:ns[i]? with
 |none=>rw[e]at h;cases h
 |some n=>rw[e]at h;exact⟨n,rfl,(jB_ h).symm⟩
noncomputable def cutI (ns:α2)(lo hi:Option Int):α2:=(ns.drop (HT.sIx ns.length 0 lo)).take (HT.sIx ns.length ns.length hi-HT.sIx ns.length 0 lo)
def Ud (ns:α2)(lo hi:Option Int):cutV (ns.map V.int) lo hi=(cutI ns lo hi).map V.int:=by
 unfold cutV cutI;rw[jb_,<-rN,<-rO]
def Yp {n:Nat}{i:Int}(h0:0<=i)(h1:i<n):ixN n i=some i.toNat:=by
 unfold ixN;rw[if_pos h0,if_pos h1]
def DE (h0:0<=i)(h:xs[i.toNat]?=some v):atI xs i=some v:=by
 have:=G9 h
 rwa [show ((i.toNat:Nat):Int)=i by lia]at this
def Ue {K:α3} : kitOne K t t=some true:=by unfold kitOne;rw[if_pos (by simp)]
def Yq : ∀u,RelV (V.ty n) u->u=.type n:=fun _ h=>h
end L2
namespace L2
open PySem PySem.W PySem.Spec PySem.Calls PyProof.Rows
section
variable {prog:Program} {w:World} {A:Around} {E:Value->Shared->Prop} {s:Shared} {K:Frag} {x D:Addr} {ox:Obj}
structure ExcCls (K:Frag)(D:Addr):Prop where
 ga:findIn K (.ref D) "__getattribute__"=some (some (.builtin "BaseException.__getattribute__"))
 hk:findIn K (.ref D) "__getattr__"=some none
 cl:(clsIn K D).isSome=true
 ca:findIn K (.ref D) "__class__"=some (some (.builtin "object.__class__"))
 gs:specialIn K (.builtin "object.__class__") "__get__"=some (some (.builtin "getset_descriptor.__get__"))
 tk:takesIn K (.builtin "object.__class__")=some true
 mo:mroIn K D (.type "object")=some true
 mb:mroIn K D (.type "BaseException")=some true
noncomputable def ExcAt (x D:Addr)(h:Heap):Prop:=∃ox,h.get? x=some ox/\ox.cls=.ref D
def ExcAt.type (I:ExcAt x D h):Looks M h (typeOf (.ref x)) (.ref D):=by
 obtain⟨ox,h1,h2⟩:=I;exact h2 ▸ (Looks.ld h1).andThen .now
def Ug (X:K.In h)(C:ExcCls K D):Looks M h (Builtin.ObjectAttr.find (.ref x) (.ref D) "__class__") (.bind (.builtin "getset_descriptor.__get__") (.builtin "object.__class__")):=
 (looks_findIn X C.ca).andThen ((show Looks M h (Builtin.ObjectAttr.getOf (some (.builtin "object.__class__"))) _ from looks_specialIn X C.gs).andThen
  ((show Looks M h (Builtin.ObjectAttr.dataDescriptor? (some (.builtin "object.__class__")) (some (.builtin "getset_descriptor.__get__"))) (some (.builtin "getset_descriptor.__get__",.builtin "object.__class__")) from (looks_takesIn X C.tk).andThen .now).andThen (Looks.tag .now)))
open Builtin Builtin.ObjectAttr Builtin.Getset_descriptor in
def WB {R:Result->Shared->Prop}{tp:Value}(X:K.In s.heap)(I:ExcAt x D s.heap)(hm:mroIn K D (.type "object")=some true)(h:R (.ok (.ret (.ref D))) s):codeAny (model prog w) A (.call (.builtin "getset_descriptor.__get__") ⟨[.builtin "object.__class__",.ref x,tp],[]⟩) R s:=by
 have l0:=I.type (M:=model prog w);have l1:=looks_mroIn (M:=model prog w) X hm;obtain⟨_,_,_,_,_⟩:=s;have sg:=KF.slot_gs;refine codeAny_call_builtin sg.plain KF.entry_gs (sg.check _ _ _ _ _ _ _ _ KF.type_class (KF.args_gs _ _ _) ?_);unfold Builtin.«getset_descriptor.__get__» descrGet;rw[dga_obj];unfold descrGetter descrCheckInstance isInstance descrNameAndClass;refine jg_ (jt_ ?_);simp only[KF.owner_class]
 repeat lk
 refine⟨Code.quiet_builtin _ (by decide +kernel),xH_ KF.entry_class ?_⟩;unfold Builtin.«object.__class__» shownTypeOf
 repeat lk
 exact h
def RQ (X:K.In s.heap)(I:ExcAt x D s.heap)(C:ExcCls K D)(hq:Q () s):wpAny M A (checkBuiltinCall "BaseException.__getattribute__" ⟨[.ref x,nameV],[]⟩) Q E s:=by
 have a1:=F.args_bexc_ga (.ref x) nameV;have l0:=I.type (M:=M);have l1:=looks_mroIn (M:=M) X C.mb;obtain⟨_,_,_,_,_⟩:=s;simp only[checkBuiltinCall,show builtinKind "BaseException.__getattribute__"=some .slot by decide +kernel,show splitId "BaseException.__getattribute__"=some ("BaseException","__getattribute__") by decide +kernel,isInstance]
 repeat (first|lk|wp_step)
 exact hq
def RS (X:K.In s.heap)(I:ExcAt x D s.heap)(C:ExcCls K D)(hq:Q (.done (.ret (.ref D))) s):wpAny (model prog w) A (Builtin.«object.__getattribute__» ⟨[.ref x,.str "__class__" tk],[]⟩) Q E s:=by
 obtain⟨hh,g,d,t,os⟩:=s;have L0:=I.type (M:=model prog w);have L1:=Ug (M:=model prog w) (x:=x) X C;unfold Builtin.«object.__getattribute__»;refine jg_ (jt_ ?_);refine jg_ (jt_ ?_);refine jg_ (L0.at ?_);refine jg_ (L1.at ?_);show wpAny _ _ (Builtin.ObjectAttr.bindTo _ _ _ _) _ _ _;unfold Builtin.ObjectAttr.bindTo;dsimp only;refine jg_ (q5_ (wpAny_call (WB (K:=K) (s:=⟨hh,g,d,t,os⟩) X I C.mo ?_)));exact jt_ hq
def RT (X:K.In s.heap)(I:ExcAt x D s.heap)(C:ExcCls K D)(h:Q (some (.ref D)) {s with toks:=s.toks+1}):wpAny (model prog w) A (getAttr? (.ref x) "__class__") Q E s:=by
 obtain⟨hh,g,d,t,os⟩:=s;have L0:=I.type (M:=model prog w);have L1:=looks_findIn (M:=model prog w) X C.ga;have L2:=looks_findIn (M:=model prog w) X C.hk;unfold getAttr? getAttrBy? getAttrBy;refine jg_ (wpAny_mkText (jg_ (zk_ (q5_ (jg_ (L0.at (jg_ (L1.at ?_))))))));show wpAny _ _ (getAttrByItsOwn _ _ _ _ _ _) _ _ _;unfold getAttrByItsOwn hookBefore;refine jg_ ?_;rw[if_pos (by rfl)];refine L2.at (jg_ (zk_ (q5_ ?_)));unfold callGetattribute;rw[if_neg (by decide)];unfold boundAndCalled;have f3:=PySem.F.attr_ValueError.ga.bind (.ref x);refine jg_ (wpAny_of_eq f3 ?_);refine wpAny_call (codeAny_call_builtin PySem.F.attr_ValueError.ga.plain F.entry_bexc_ga (RQ (K:=K) (s:=⟨hh,g,d,t+1,os⟩) X I C (RS (K:=K) (s:=⟨hh,g,d,t+1,os⟩) X I C ?_)));exact jt_ (jt_ h)
def Uh (C:ExcCls K D):KitX K (.ref x) (.ref D) (ExcAt x D):=by
 have cl:=C.cl;unfold clsIn at cl;refine⟨fun _ _ _ I=>I.type,fun _ _ X _=>?_,fun h tp dd its n sl X htp=>?_,fun X I k=>RT X I C k⟩
 ·split at cl
  ·rename_i ho
   intro A' Q' E' s' k q;exact jg_ (wpAny_loadPart (k _ _ (X _ _ ho)) (jt_ q))
  ·cases cl
 ·split at cl
  ·rename_i ho
   cases hb:(Value.ref D==Value.ref tp) with
   |false=>rfl
   |true=>
    obtain rfl:D=tp:=Value.ref.inj (zA_.mp hb);cases (X _ _ ho).symm.trans htp
  ·cases cl
end
section
variable {P:Program} {w:World}
def A6.there (x:A6 P w H h a o):∃ob,h.get? a=some ob:=by
 induction o with
 |lst xs=>obtain⟨_,_,_,_,e⟩:=x;exact⟨_,e⟩
 |tup xs=>obtain⟨_,_,_,ob,e,_⟩:=x;exact⟨_,e⟩
 |dK kvs=>obtain⟨_,_,_,_,o,_,_,e,_⟩:=x;exact⟨_,e⟩
 |dT kvs=>obtain⟨_,_,_,_,o,_,_,e,_⟩:=x;exact⟨_,e⟩
 |set S n=>obtain⟨o,_,_,_,e,_⟩:=x;exact⟨_,e⟩
 |ins C dx fs=>obtain⟨_,_,_,e,_⟩:=x;exact⟨_,e⟩
 |own y=>obtain⟨_,e⟩:=x;exact⟨_,e⟩
 |xd fs=>obtain⟨_,⟨_,_,_,e,_⟩,_⟩:=x;exact⟨_,e⟩
 |rng lo hi=>obtain⟨_,_,_,e⟩:=x;exact⟨_,e⟩
 |frz ob u ih=>obtain⟨e,_⟩:=x;exact⟨_,e⟩
 |tbl ps=>exact⟨_,(show h.get? a=some _ from x)⟩
 |met f y=>exact⟨_,(show h.get? a=some _ from x)⟩
 |ext φ=>obtain⟨_,⟨_,e⟩,_⟩:=x;exact⟨_,e⟩
structure Fly (P:Program)(w:World)(fs:List Addr)(H1 H':Hp)(h1 g B:Heap):Prop where
 un:Un fs [] H1 H' h1 g
 hok:HOk P w H' g
 cov:∀b o,g.get? b=some o->(H' b≠none \/ ∃o',h1.get? b=some o')->b∉fs->B.get? b=some o
def Fly.move {H1 H':Hp}{h1 g B h2:Heap}(x:Fly P w fs H1 H' h1 g B)(frees:∀b∈fs,H' b=none)(st:B.StaysIn h2)(up:∀b∈fs,∀o,g.get? b=some o->∃sl,h2.get? b=some {o with slots:=sl}):Fly P w fs H1 H' h1 h2 B:=by
 have keep:∀b o,g.get? b=some o->(H' b≠none \/ ∃o',h1.get? b=some o')->b∉fs->h2.get? b=some o:=fun b o e h n=>st b o (x.cov b o e h n);have lz:∀b u,H' b=some u->b∉fs:=fun b u e z=>by rw[frees b z]at e;cases e
 refine⟨⟨fun b o e n hb hx=>?_,fun b o e n hb hx=>?_,fun b o e n hx=>x.un.free b o e n hx,fun b o e hx=>?_,x.un.tups,x.un.frzs,x.un.tbls⟩,fun b u e=>?_,fun b o e h n=>?_⟩
 ·exact keep b o (x.un.keep b o e n hb hx) (.inr ⟨o,e⟩) hb
 ·obtain⟨sl,e1⟩:=x.un.slot b o e n hb hx;obtain⟨kZ,e2⟩:=up b hb _ e1;exact⟨kZ,e2⟩
 ·obtain⟨o',e1⟩:=x.un.there b o e hx;by_cases hb:b∈fs
  ·obtain⟨kZ,e2⟩:=up b hb _ e1;exact⟨_,e2⟩
  ·exact⟨o',keep b o' e1 (.inr ⟨o,e⟩) hb⟩
 ·refine (x.hok b u e).stay (fun c v hc q=>?_) (fun _ q=>q) fun _ _ q=>q;rcases hc with rfl|hc
  ·exact keep c v q (.inl (by rw[e];simp)) (lz c u e)
  ·exact keep c v q (.inl (by rw[hc];simp)) (lz c _ hc)
 ·-- B has it still
  have ⟨o1,e1⟩:∃o1,g.get? b=some o1:=by
   rcases h with h|⟨o',h⟩
   ·cases q:H' b with
    |none=>exact absurd q h
    |some u=>exact (x.hok b u q).there
   ·exact x.un.there b o' h (by simp)
  have e2:=x.cov b o1 e1 h n;have e3:=st b o1 e2;rw[e]at e3;cases e3;exact e2
noncomputable def CXe (P:Program)(w:World):CXT:=fun outer H s E e s'=>∃(ea:Addr) (cls a0:Value) (H':Hp) (B:Heap),e=.ref ea/\s'.os=s.os/\AllBare s'.gens/\Fly P w (frs outer) H H' s.heap s'.heap B/\Heap.FlyingW B outer ea cls a0 s'.heap/\E cls none H'
def KG {H1 H':Hp} {g B:Heap}(I:Inv X ae σ H1 s1)(x:Fly P w (frs X.stack) H1 H' s1.heap g B):∀b∈frs X.stack,H' b=none:=fun b hb=>by
 obtain⟨_,o,ho,_⟩:=I.stack.mem hb;exact x.un.free b o ho (I.stkFree b hb) (by simp)
def Ep {K:α3} (hE:∀c d H',E' c d H'->E c d H'):
  EO (CXe P w) (cxOf (CXe P w) P w K mg base N qual scope f cd A outer s H E) E':=by
 intro ae σ H1 s1 e s' I hc;obtain⟨ea,cls,a0,H',B,rfl,os,bare,fl,fw,q⟩:=hc;have fr:(cxOf (CXe P w) P w K mg base N qual scope f cd A outer s H E).A.frames=some (envOfC qual scope s.heap.objs.size f cd::outer):=I.ok.frames;refine wpAny_leaves_onW fr rfl fw fun h' ic ups=>?_;have fJ:=fl.move (KG I fl) ic.1 (fun b hb o e=>by
  obtain⟨_,o',cc,nf⟩:=fw.2.2.1.mem hb;rw[e]at cc;cases cc;exact ups b o e nf)
 have I2:Inv (cxOf (CXe P w) P w K mg base N qual scope f cd A outer s H E) ae σ H' {s' with heap:=h' }:=I.call' (s':={s' with heap:=h' }) os fJ.un fJ.hok bare (fun b hb=>by cases hb);refine⟨ea,cls,a0,H',B,rfl,I2.os,I2.bare,⟨I2.base,I2.hok,fun b o e h n=>fJ.cov b o e ?_ (fun z=>?_)⟩,ic,hE _ _ _ q⟩
 ·rcases h with h|⟨o',h⟩
  ·exact .inl h
  ·obtain⟨o2,e2⟩:=I.base.there b o' h (by show b∉([]:List Addr);simp);exact .inr ⟨o2,e2⟩
 ·rcases jr_.mp (I.stkSub b z) with e' | e'
  ·rcases h with h|⟨o',h⟩
   ·exact h (by rw[e'];exact I2.free)
   ·have:=ju_ h;rw[e']at this;exact absurd (jH_ this I.ok.above) (qe_ _)
  ·exact n e'
def Yr {K:α3}
   {H1:Hp}
  (I:Inv (cxOf (CXe P w) P w K mg base N qual scope f cd A outer s H E) ae σ H1 s1) (hx:Heap.MadeExcOf s1.heap h' ea cls vs) (q:E cls none H1):
  (cxOf (CXe P w) P w K mg base N qual scope f cd A outer s H E).xe (.ref ea) {s1 with heap:=h' }:=by
 have fr:(cxOf (CXe P w) P w K mg base N qual scope f cd A outer s H E).A.frames=some (envOfC qual scope s.heap.objs.size f cd::outer):=I.ok.frames;have bt:∀env∈(envOfC qual scope s.heap.objs.size f cd::outer),∀b,env.frame=some b->b∈frs (envOfC qual scope s.heap.objs.size f cd::outer):=fun env he b hb=>zt_.mpr ⟨env,he,hb⟩;have stk:=I.stack;have fl:Fly P w (frs (envOfC qual scope s.heap.objs.size f cd::outer)) H1 H1 s1.heap s1.heap (pH s1.heap (frs (envOfC qual scope s.heap.objs.size f cd::outer))):=⟨Un.refl,I.hok,fun b o e _ n=>p8 _ e n⟩;refine wpAny_leaves_madeW (base:=pH s1.heap (frs (envOfC qual scope s.heap.objs.size f cd::outer))) (h:=s1.heap) fr rfl (fun b o q=>qc _ q) ?_ hx fun h'' t ic ht hnt ups=>?_
 ·exact r6 stk bt
 ·have fJ:=fl.move (KG (X:=cxOf (CXe P w) P w K mg base N qual scope f cd A outer s H E) I fl) ic.1 (fun b hb o e=>by
   obtain⟨_,o',cc,nf⟩:=stk.mem hb;rw[e]at cc;cases cc;exact ups b o (hx.keeps b o e) nf)
  have I2:Inv (cxOf (CXe P w) P w K mg base N qual scope f cd A outer s H E) ae σ H1 {s1 with heap:=h'' }:=I.call' (s':={s1 with heap:=h'' }) rfl fJ.un fJ.hok I.bare (fun b hb=>by cases hb);refine⟨ea,cls,.ref t,H1,_,rfl,I2.os,I2.bare,⟨I2.base,I2.hok,fun b o e h n=>fJ.cov b o e ?_ (fun z=>?_)⟩,ic,q⟩
  ·rcases h with h|⟨o',h⟩
   ·exact .inl h
   ·obtain⟨o2,e2⟩:=I.base.there b o' h (by show b∉([]:List Addr);simp);exact .inr ⟨o2,e2⟩
  ·rcases jr_.mp (I.stkSub b z) with e' | e'
   ·rcases h with h|⟨o',h⟩
    ·exact h (by rw[e'];exact I2.free)
    ·have:=ju_ h;rw[e']at this;exact absurd (jH_ this I.ok.above) (qe_ _)
   ·exact n e'
end
def WD {K:Frag} (X:K.In h)(q:excIn K C bmB fe=true):
  ∃bm N nm q bs hdct sn sub ab col dd k0 k1 k2 k3 k5 mN,h.get? C=some (excClassObj nm q C N bs bm hdct sn sub ab col dd k0 k1 k2 k3 k5 fe)/\h.Ns N mN/\mN "__init__"=none/\OwnTail h bmB bm:=by
 unfold excIn at q;split at q
 case h_2=>cases q
 rename_i d0 c0 s0 hl
 split at q
 case h_2=>cases q
 rename_i B tl a0 a1 a2 a3 id0 a5 em es
 have g:=X C _ hl
 repeat rw[qb_]at q
 rcases q with ⟨⟨⟨⟨⟨e1,e2⟩,e3⟩,e4⟩,e5⟩,e6⟩;cases eq_of_beq e1;cases eq_of_beq e2;rcases s0 with ⟨l0⟩;cases es;rcases c0 with ⟨f0,f1,f2,f3,f4,f5,f6,f7,f8,f9,f10⟩;cases em;cases f10
 ·exact⟨tl,f3,f0,f4,f1,f5,f6,f7,f8,f9,d0,a0,a1,a2,a3,a5,h.nsMap f3,g,.of_isNs (isNs_of_in X e5),nsMap_none_of_in X e5 (eq_of_beq e6),tail_of_in X e4⟩
 ·cases e3
def bmV:List Value:=[.type "ValueError",.type "Exception",.type "BaseException",.type "object"]
section
variable {P:Program} {w:World} {K:α3} {mg:Str->α5} {base:Heap} {N:List Str} {qual:Str} {scope:Scope} {f:Addr} {cd:Value} {A:Around} {outer:List Env} {s:Shared} {H:Hp} {E:XK}
noncomputable def Vx (C:Addr)(E:XK)(ta:TA):TS:=fun _ σ H=>ta σ H fun vs H1=>vs.length<=sizeLine/\E (.ref C) none H1
def BO {rest:List Expr} (hm:mg x=some (.ref C))(hx:excIn K C bmV fe=true)(hg:Gl (cxOf (CXe P w) P w K mg base N qual scope f cd A outer s H E) x)
  (hn:fe = "ValueError.__new__") (ha:PA (cxOf (CXe P w) P w K mg base N qual scope f cd A outer s H E) (ie::rest) ta)
  (he:starEach (ie::rest) (cxOf (CXe P w) P w K mg base N qual scope f cd A outer s H E).env=(false,eval ie (cxOf (CXe P w) P w K mg base N qual scope f cd A outer s H E).env)::starEach rest (cxOf (CXe P w) P w K mg base N qual scope f cd A outer s H E).env:=by rfl)
  (bS:(backTo aB (starEach rest (cxOf (CXe P w) P w K mg base N qual scope f cd A outer s H E).env)).any (·.1)=false:=by rfl) (hd:(x==("__debug__" : Str))=false:=by decide):
  PS (cxOf (CXe P w) P w K mg base N qual scope f cd A outer s H E) (.Raise (some (.Call (.Name x np) (ie::rest) [] aB)) none pos) (Vx C E ta):=by
 intro ae s1 σ H1 D I h;subst hn;obtain⟨bm,Nc,nm,q,bs,hdct,sn,sub,ab,col,dd,k0,k1,k2,k3,k5,mN,hC,hN,gJ,T⟩:=WD I.mod.kin hx;refine wpAny_Raise_call_subU (C:=C) (nm:=nm) (q:=q) (N:=Nc) (bs:=bs) (bm:=bm) (hdct:=hdct) (sn:=sn) (sub:=sub) (ab:=ab) (col:=col) (dd:=dd) (k0:=k0) (k1:=k1) (k2:=k2) (k3:=k3) (k5:=k5)
  xL_ (bmB:=bmV) (by decide +kernel) xL_ (mN:=mN) (T.hasType xL_.hasBase) (I.ok.hd rfl) (by rw[he];show (false||(backTo aB (starEach rest _)).any (·.1))=false;rw[bS];rfl) gJ (G4 I hg hm ⟨rfl,?_⟩ hd)
 have hA:=ha aB ae s1 σ H1 _ I h;rw[he]at hA ⊢;refine xN_ (thn hA fun us s2 ⟨vs,H2,I2,r2,hz,q2⟩=>⟨rfl,by rw[<-r2.length];exact hz,I2.bk _ _ hC,hN.keeps I2.bk,T.keeps I2.bk,fun h' e hm=>Yr I2 hm q2⟩)
end
end L2
namespace L2
open PySem PySem.Spec PyProof.Rows
noncomputable abbrev Cx.body (X:Cx)(xe:Value->Shared->Prop)(pn:α7):Cx:={X with xe:=xe,pn:=pn}
noncomputable abbrev Cx.suite (X:Cx)(ea:Addr)(pn:α7):Cx:={X with A:=X.A.mark (some (.ref ea)),calm:=false,xe:=fun _ _=>False,pn:=pn}
section
variable {X:Cx} {ae aG:α7} {σ:St} {H:Hp} {s:Shared} {xe xe':Value->Shared->Prop} {ea:Addr}
def Inv.toBody (I:Inv X ae σ H s):Inv (X.body xe (X.pn++ae)) [] σ H s:=
 ⟨⟨I.ok.mod,I.ok.kind,I.ok.glob,I.ok.blt,I.ok.above,I.ok.inj,I.ok.has,I.ok.cab,I.ok.hd,I.ok.frames,I.ok.stk,I.ok.exf,I.ok.bs,I.ok.bsz,I.ok.noex,I.ok.exfs,I.ok.funs,I.ok.frf⟩,I.os,I.bare,I.base,I.loc,I.cell,I.free,I.freeC,fun p hp=>I.pin p (by simpa using hp),I.hok,I.len⟩
def Inv.ofBody (I:Inv (X.body xe (X.pn++ae)) aG σ H s):Inv X ae σ H s:=
 ⟨⟨I.ok.mod,I.ok.kind,I.ok.glob,I.ok.blt,I.ok.above,I.ok.inj,I.ok.has,I.ok.cab,I.ok.hd,I.ok.frames,I.ok.stk,I.ok.exf,I.ok.bs,I.ok.bsz,I.ok.noex,I.ok.exfs,I.ok.funs,I.ok.frf⟩,I.os,I.bare,I.base,I.loc,I.cell,I.free,I.freeC,fun p hp=>I.pin p (jF_ _ hp),I.hok,I.len⟩
def Inv.reBody (I:Inv (X.body xe pn) aG σ H s):Inv (X.body xe' pn) aG σ H s:=
 ⟨⟨I.ok.mod,I.ok.kind,I.ok.glob,I.ok.blt,I.ok.above,I.ok.inj,I.ok.has,I.ok.cab,I.ok.hd,I.ok.frames,I.ok.stk,I.ok.exf,I.ok.bs,I.ok.bsz,I.ok.noex,I.ok.exfs,I.ok.funs,I.ok.frf⟩,I.os,I.bare,I.base,I.loc,I.cell,I.free,I.freeC,I.pin,I.hok,I.len⟩
def Inv.toSuite (I:Inv X ae σ H s):Inv (X.suite ea (X.pn++ae)) [] σ H s:=
 ⟨⟨I.ok.mod,I.ok.kind,I.ok.glob,I.ok.blt,I.ok.above,I.ok.inj,I.ok.has,I.ok.cab,fun z=>absurd (show false=true from z) jy_,I.ok.frames,I.ok.stk,I.ok.exf,I.ok.bs,I.ok.bsz,I.ok.noex,I.ok.exfs,I.ok.funs,I.ok.frf⟩,I.os,I.bare,I.base,I.loc,I.cell,I.free,I.freeC,fun p hp=>I.pin p (by simpa using hp),I.hok,I.len⟩
def Inv.ofSuite (hd:X.calm=true->X.A.handled=none)(I:Inv (X.suite ea (X.pn++ae)) aG σ H s):Inv X ae σ H s:=
 ⟨⟨I.ok.mod,I.ok.kind,I.ok.glob,I.ok.blt,I.ok.above,I.ok.inj,I.ok.has,I.ok.cab,hd,I.ok.frames,I.ok.stk,I.ok.exf,I.ok.bs,I.ok.bsz,I.ok.noex,I.ok.exfs,I.ok.funs,I.ok.frf⟩,I.os,I.bare,I.base,I.loc,I.cell,I.free,I.freeC,fun p hp=>I.pin p (jF_ _ hp),I.hok,I.len⟩
end
noncomputable def MC (CX:CXT)(X:Cx)(σ:St)(E:XK):Prop:=∀(ae:α7) (H:Hp) (s:Shared) (e:Value) (s':Shared),Inv X ae σ H s->CX X.stack H s E e s'->X.xe e s'
noncomputable def Vy (sp:Sp)(aI:List V)(E:St->XK)(t:TA):TE:=fun σ H Q=>t σ H fun vs H1=>sp (vs++aI) H1 Q (E σ)
section
variable {X:Cx} {CX:CXT} {k:Nat} {f C:Addr} {fd:α6} {ps:List Str} {sp:Sp} {aI:List V} {ds:List Value} {E:St->XK} {x:Str} {p pos:Pos} {e:Expr} {es:List Expr} {t:TA}
def WE {ae:α7}{σ:St}{H:Hp}{s:Shared}{Q:VK}{us:List Value}{vs:List V}{E:XK}(F:FnOk X.prog X.w X.K X.mg X.base CX k f fd ps sp)(hr:Room k X.A)(hb:Binds X.K fd ps ds)(hd:Vals aI ds)(hx:MC CX X σ E)
  (I:Inv X ae σ H s) (r:Vals vs us) (h:sp (vs++aI) H Q E):wpAny (model X.prog X.w) X.A (call (.ref f) us) (EP X ae σ Q) X.xe s:=by
 have r2:Vals (vs++aI) (us++ds):=r.append hd;have hl:(us++ds).length=ps.length:=by rw[<-r2.length];exact F.len _ _ _ _ h
 refine wpAny_call (zu_ (F.run X.A X.stack s H ⟨us,[]⟩ (us++ds) (vs++aI) Q E hr I.env0 (hb s us I.kIn hl) r2 h) fun r s' hq=>?_);cases r with
 |error e=>exact hx ae H s e s' I hq
 |ok fl=>
  cases fl with
  |ret u=>exact I.after hq
  |next=>exact oz hq
  |brk=>exact oz hq
  |cont=>exact oz hq
def Ui (F:FnOk X.prog X.w X.K X.mg X.base CX k f fd ps sp)(hr:Room k X.A)(hg:Gl X x)(hm:X.mg x=some (.ref f))(hk:keepIn X.K (.ref f)=true)(hb:Binds X.K fd ps ds)(hd:Vals aI ds)(hx:∀σ,MC CX X σ (E σ))
  (ha:PA X (e::es) t) (cW:(x==("__debug__" : Str))=false:=by decide) (he:starEach (e::es) X.env=(false,eval e X.env)::starEach es X.env:=by rfl) (b7:(backTo pos (starEach es X.env)).any (·.1)=false:=by rfl):
  PE X (.Call (.Name x p) (e::es) [] pos) (Vy sp aI E t):=by
 intro ae s σ H Q I h;refine qP_ (G4 I hg hm ?_ cW);refine q6_ (h₀:=X.base) I.ok.mod.kin hk (thn (ha pos ae s σ H _ I h) fun us s1 ⟨vs,H1,I1,r,q⟩=>⟨I1.kIn,?_⟩) he b7;exact WE F hr hb hd (hx σ) I1 r q
end
noncomputable def excO (ea C:Addr):HO:=.ext (ExcAt ea C)
def NJ : DA X (.builtin "isinstance") (fun xs H Q=>∃ea C c cv b,xs=[.ref ea,c]/\H ea=some (excO ea C)/\ExcCls X.K C/\(∀u,RelV c u->u=cv)/\kitOne X.K (.ref C) cv=some b/\Q (.bl b) H):=by
 intro ae s σ H xs us Q I r h;obtain⟨ea,C,c,cv,b,rfl,hea,hC,hc,hk,q⟩:=h;obtain⟨u,w',rfl,rx,rc⟩:=vals2 r;rw[hc _ rc];cases rx;obtain⟨p,_,_⟩:=(show A6 X.prog X.w H s.heap ea (.ext (ExcAt ea C)) from I.hok ea _ hea);exact qc_ (Uh hC) I.kIn p hk (fun z=>nomatch z) fun tk=>⟨.bl b,H,I.tok tk,rfl,q⟩
end L2
namespace L2
open PySem PySem.Spec PyProof.Rows
section
variable {X:Cx}
noncomputable def Gx (K:α3):R2:=fun x y H Q=>∃a b xs ys,x=.ref a/\y=.ref b/\SqT K H a xs/\SqT K H b ys/\xs.length+ys.length<=sizeLine /\
 (xs=[]->Q (.ref b) H)/\(xs ≠ []->ys=[]->Q (.ref a) H)/\(xs ≠ []->ys ≠ []->∀p,H p=none->Q (.ref p) (upd H p (.tup (xs++ys))))
def HI:OpR X (binaryOp .Add) (Gx X.K):=by
 intro ae s σ H x y v u Q I rx ry h;obtain⟨a,b,xs,ys,rfl,rfl,ha,hb,hz,q0,q1,q2⟩:=h;by_cases hx:xs=[]
 ·subst hx;cases rx;cases ry;obtain⟨its,r1,p1,_⟩:=I.tuple ha;obtain⟨aE,r2,p2,_⟩:=I.tuple hb;have:its=[]:=r1.nil_iff.mpr rfl;subst this;obtain⟨⟨cls,dd,data,sl⟩,ho,hc,n,hd⟩:=id p1;obtain⟨⟨cls2,ll,data2,lp⟩,g8,cC,n2,jU⟩:=id p2;simp only at hc hd cC jU;subst hc hd cC jU;exact concat_meets ⟨_,ho,rfl⟩ ⟨_,g8,rfl⟩ noFill_tuple_add seq_tuple_add x4_ x0_ (xW_ _ _)
   (rP a b _ _ n n2 dd ll sl lp rfl) ⟨ho,g8,⟨.ref b,H,I,rfl,q0 rfl⟩⟩
 ·exact Ww ae s σ H _ _ v u Q I rx ry ⟨a,b,xs,ys,rfl,rfl,ha,hb,hx,hz,q1 hx,q2 hx⟩
end
def LX (Pv:Nat->St->Hp->Prop)(h0:∃m,Pv m σ H)
  (hs:∀m σ H,Pv m σ H->c σ H fun b H1=>if b=true then ∃N:St->Hp->Prop,(∀aj H',N aj H'->∃m',m'<m/\Pv m' aj H')/\tb {D with nx:=N,ct:=N,bk:=D.nx} σ H1 else D.nx σ H1):Vc c tb D σ H:=⟨Pv,h0,hs⟩
theorem Ys {K:α3} {lo hi:Option Int}:rSlT K x lo hi H Q=∃a xs,x=.ref a/\SqT K H a xs /\
 ¬ (HT.sIx xs.length 0 lo=0/\HT.sIx xs.length xs.length hi=xs.length)/\∀p,H p=none->Q (.ref p) (upd H p (.tup (cutV xs lo hi))):=rfl
inductive TyW (K:α3)(H:Hp):V->Value->Prop where
 | non:TyW K H .non (.type "NoneType")
 | bl (x:Bool):TyW K H (.bl x) (.type "bool")
 | int (i:Int):TyW K H (.int i) (.type "int")
 | str (x:Str):TyW K H (.str x) (.type "str")
 | lst {a:Addr} {xs:List V} (e:SqL K H a xs):TyW K H (.ref a) (.type "list")
 | tup {a:Addr} {xs:List V} (e:SqT K H a xs):TyW K H (.ref a) (.type "tuple")
 | exc {a C:Addr} (e:H a=some (excO a C)) (c:ExcCls K C):TyW K H (.ref a) (.ref C)
def NL : DA X (.builtin "isinstance") (fun xs H Q=>∃x c cv t b,xs=[x,c]/\TyW X.K H x t/\(∀u,RelV c u->u=cv)/\kitOne X.K t cv=some b/\Q (.bl b) H):=by
 intro ae s σ H xs us Q I r h;obtain⟨x,c,cv,t,b,rfl,ty,hc,hk,q⟩:=h;cases ty with
 |non=>exact Eo ae s σ H _ us Q I r ⟨_,c,cv,_,b,rfl,.non,hc,hk,q⟩
 |bl y=>exact Eo ae s σ H _ us Q I r ⟨_,c,cv,_,b,rfl,.bl y,hc,hk,q⟩
 |int y=>exact Eo ae s σ H _ us Q I r ⟨_,c,cv,_,b,rfl,.int y,hc,hk,q⟩
 |str y=>exact Eo ae s σ H _ us Q I r ⟨_,c,cv,_,b,rfl,.str y,hc,hk,q⟩
 |exc e hC=>exact NJ ae s σ H _ us Q I r ⟨_,_,c,cv,b,rfl,e,hC,hc,hk,q⟩
 |@lst a xs e=>
  obtain⟨u,w',rfl,rx,rc⟩:=vals2 r;rw[hc _ rc];cases rx;obtain⟨its,_,pl,_⟩:=I.list e;obtain⟨o,ho,bo,_⟩:=pl.isList;exact qc_ zB_ I.kIn ⟨o,ho,bo⟩ hk (fun z=>nomatch z) fun tk=>⟨.bl b,H,I.tok tk,rfl,q⟩
 |@tup a xs e=>
  obtain⟨u,w',rfl,rx,rc⟩:=vals2 r;rw[hc _ rc];cases rx;obtain⟨its,_,⟨o,ho,bo,_⟩,_⟩:=I.tuple e;exact qc_ qd I.kIn ⟨o,ho,bo⟩ hk (fun z=>nomatch z) fun tk=>⟨.bl b,H,I.tok tk,rfl,q⟩
end L2
namespace GW
noncomputable def Yt (L:Int):α2->α2
 |[]=>[0]
 |x::r=>if x=L-1 then 0::Yt L r else (x+1)::r
noncomputable def Br (L:Int)(w:α2):α2:=(Yt L w.reverse).reverse
noncomputable def Bf (L:Int):α2->Int
 |[]=>0
 |x::r=>Bf L r*L+x+1
noncomputable def place (L:Int)(w:α2):Int:=Bf L w.reverse
noncomputable def inW (L x:Int):Bool:=decide (0<=x)&&decide (x<L)
noncomputable def isW (L:Int)(ws:α2):Bool:=ws.all (inW L)
def WG : inW L x=true↔0<=x/\x<L:=by simp[inW]
def Am : isW L ws=true ↔ ∀x∈ws,0<=x/\x<L:=by simp[isW,WG]
noncomputable def many (L:Int):Nat->Int
 |0=>0
 |k+1=>many L k*L+1
def C8 {L:Int}(hL:0<L):∀k,0<=many L k
 |0=>qB_ _
 |k+1=>by
  have:=zz_ (C8 hL k) (xj_ hL);show 0<=many L k*L+1;lia
def C1 {L:Int}(hL:0<L):∀{l:α2},(∀x∈l,0<=x/\x<L)->many L l.length<=Bf L l/\Bf L l<many L (l.length+1)
 |[],_=>by simp[Bf,many]
 |x::r,h=>by
  have hx:=h x js_;obtain⟨h1,h2⟩:=C1 hL (l:=r) fun y hy=>h y (jm_ _ hy);show many L r.length*L+1<=Bf L r*L+x+1/\Bf L r*L+x+1<many L (r.length+1)*L+1;have a1:=jV_ h1 (xj_ hL);have a2:=jV_ (show Bf L r+1<=many L (r.length+1) by lia) (xj_ hL);rw[pW]at a2;lia
def Fc (hL:0<L) (h:isW L w=true):many L w.length<=place L w/\place L w<many L (w.length+1):=by
 have:=C1 hL (l:=w.reverse) (fun x hx=>Am.mp h x (List.mem_reverse.mp hx));rw[p9]at this;exact this
def RU (hL:0<L) (h:j<=k):many L j<=many L k:=by
 induction h with
 |refl=>exact qB_ _
 |step _ ih=>
  rename_i m _
  refine r9 ih ?_;show many L m<=many L m*L+1;have:many L m*1<=many L m*L:=oO s!"" (C8 hL m);lia
noncomputable def val (L:Int):α2->Int
 |[]=>0
 |x::r=>val L r*L+x
def D4 (L:Int)(w:α2)(x:Int):place L (w++[x])=place L w*L+x+1:=by
 unfold place;rw[List.reverse_append];rfl
end GW
namespace PySem
section
variable {prog:Program} {w:World} {A:Around} {E:Value->Shared->Prop} {s:Shared}
noncomputable abbrev lsO (ah:Array Value)(c:Nat):Obj:={cls:=.type "list",dict:=none,data:=.seq ah c,slots := #[]}
noncomputable def KP (wr:Addr->Prop)(h h':Heap):Prop:=∀b o,¬ wr b->h.get? b=some o->h'.get? b=some o
structure Gat (prog:Program)(w:World)(s:Shared)(r I:Addr)(T:String)(n:Nat)(wr:Addr->Prop)(J:Nat->List Value->Heap->Prop)(Fn:List Value->Heap->Prop):Prop where
 type:s.TypeIs (.ref r) T
 nl:(Value.type T==Value.type "list")=false
 nt:(Value.type T==Value.type "tuple")=false
 le:n<=sizeLine
 hint:∀(A:Around) (t:Shared) (Q:Bool->Shared->Prop) (E:Value->Shared->Prop),(∀b o,s.heap.get? b=some o->t.heap.get? b=some o)->(∀b tk,Q b {t with toks:=tk})->wpAny (model prog w) A (Builtin.List.listLengthHint (.ref r)) Q E t
 iter:∀(A:Around) (h1:Heap) (Q:Value->Shared->Prop) (E:Value->Shared->Prop),(∀b o,s.heap.get? b=some o->h1.get? b=some o)->h1.objs.size=s.heap.objs.size+1->(∀h',J 0 [] h'->(∀b o,h1.get? b=some o->h'.get? b=some o)->Q (.ref I) {s with heap:=h' })->wpAny (model prog w) A (pyIter (.ref r)) Q E {s with heap:=h1}
 next:∀(A:Around) i ah (t:Shared) (Q:α5->Shared->Prop) (E:Value->Shared->Prop),A.handled=none->J i ah t.heap->ah.length=i->i<=n->s.heap.objs.size<t.heap.objs.size ->
  (∀v h' tk,i<n->J (i+1) (ah++[v]) h'->KP wr t.heap h'->Q (some v) {t with heap:=h',toks:=tk})->(∀h' tk,i=n->Fn ah h'->KP wr t.heap h'->Q none {t with heap:=h',toks:=tk})->wpAny (model prog w) A (pyNext (.ref I)) Q E t
 frame:∀i ah h h',J i ah h->(∀b o,b≠s.heap.objs.size->h.get? b=some o->h'.get? b=some o)->J i ah h'
 nw:¬ wr s.heap.objs.size
variable {I r:Addr} {T:String} {n:Nat} {wr:Addr->Prop} {J:Nat->List Value->Heap->Prop} {Fn:List Value->Heap->Prop} {R:Result->Shared->Prop} {res:Value}
def Gat.loop (G:Gat prog w s r I T n wr J Fn)(hh:A.handled=none)
  (hR:∀h' tk ah c,Fn ah h'->ah.length=n->h'.get? s.heap.objs.size=some (lsO ah.toArray c)->KP wr s.heap h'->R (.ok (.ret res)) {s with heap:=h',toks:=tk}):
  ∀(k:Nat) (h:Heap) (tk c:Nat) (ah:List Value),n-ah.length=k->ah.length<=n->J ah.length ah h->h.get? s.heap.objs.size=some (lsO ah.toArray c)->KP wr s.heap h->codeAny (model prog w) A (.builtin "list.extend.loop" ⟨[.ref s.heap.objs.size,.ref I,res],[]⟩) R {s with heap:=h,toks:=tk}:=by
 intro k
 induction k with
 |zero=>
  intro h tk c ah hk hi j hS kp;refine xH_ F.entry_extend_loop ?_;rw[xb_ xT_ _];refine jg_ (G.next A.in1 _ ah {s with heap:=h,toks:=tk} _ _ hh j rfl hi (ju_ hS) (fun v h' tk l=>by lia) fun h' tk e j' kk=>?_);exact jt_ (hR h' tk ah c j' s!"" (kk _ _ G.nw hS) fun b o m q=>kk b o m (kp b o m q))
 |succ k ih=>
  intro h tk c ah hk hi j hS kp;refine xH_ F.entry_extend_loop ?_;rw[xb_ xT_ _];refine jg_ (G.next A.in1 _ ah {s with heap:=h,toks:=tk} _ _ hh j rfl hi (ju_ hS) (fun v h' tk l j' kk=>?_) fun h' tk e=>by lia);have jZ:=kk _ _ G.nw hS;have up:∀b o,b≠s.heap.objs.size->h'.get? b=some o->(h'.update s.heap.objs.size (Obj.mapSeq (·.push v))).get? b=some o:=fun b o m q=>(qo_ _ _ (qm_ m)).trans q;have hl:(ah++[v]).length=ah.length+1:=by simp
  have:=G.le;obtain⟨c',ig⟩:∃c',(h'.update s.heap.objs.size (Obj.mapSeq (·.push v))).get? s.heap.objs.size=some (lsO (ah++[v]).toArray c'):=⟨_,by rw[<-List.push_toArray];exact qK_ _ jZ rfl⟩;exact jg_ (wpAny_updateSeq jZ rfl (jt_ ⟨plainId_quiet xT_ _,ih _ tk c' (ah++[v]) s!"" s!"" (by rw[hl];exact G.frame _ _ _ _ j' up) ig fun b o m q=>up b o (jQ_ (ju_ q)) (kk b o m (kp b o m q))⟩) (by simp;lia))
def Gat.extend (G:Gat prog w s r I T n wr J Fn)(hh:A.handled=none)(k1:∀b o,s.heap.get? b=some o->h1.get? b=some o)(hz:h1.objs.size=s.heap.objs.size+1)(hS:h1.get? s.heap.objs.size=some (lsO #[] c₀))
  (hZ:∀c t,c.quiet=true->codeAny (model prog w) A c R t->Z (.again c) t)
  (hR:∀h' tk ah c,Fn ah h'->ah.length=n->h'.get? s.heap.objs.size=some (lsO ah.toArray c)->KP wr s.heap h'->R (.ok (.ret res)) {s with heap:=h',toks:=tk}):
  wpAny (model prog w) A.in1 (Builtin.List.listExtendWith (.ref s.heap.objs.size) (.ref r) res) Z E {s with heap:=h1}:=by
 have hr:r<s.heap.objs.size:=let ⟨_,ho,_⟩:=G.type;ju_ ho;have e1:Builtin.List.listSameRef (.ref s.heap.objs.size) (.ref r)=false:=by simp[Builtin.List.listSameRef,qF_ hr]
 have hT:Shared.TypeIs {s with heap:=h1} (.ref r) T:=let ⟨o,ho,x⟩:=G.type;⟨o,k1 _ _ ho,x⟩;have jr:∀(h:Heap) f b o,b≠s.heap.objs.size->h.get? b=some o->(h.update s.heap.objs.size f).get? b=some o:=fun h f b o n q=>(qo_ _ _ (qm_ n)).trans q;have go:∀(h:Heap) c tk,J 0 [] h->h.get? s.heap.objs.size=some (lsO #[] c)->(∀b o,b≠s.heap.objs.size->h1.get? b=some o->h.get? b=some o)->Z (.again (.builtin "list.extend.loop" ⟨[.ref s.heap.objs.size,.ref I,res],[]⟩)) {s with heap:=h,toks:=tk}:=fun h c tk j q k=>
  hZ _ _ (plainId_quiet xT_ _) (G.loop hh hR n h tk c [] rfl (j9_ _) j q fun b o _ x=>k b o (jQ_ (ju_ x)) (k1 b o x))
 unfold Builtin.List.listExtendWith;refine jg_ (wpAny_typeOf hT ?_);simp only[e1,G.nl,G.nt,rK,qC_,q7_];refine jg_ (G.iter A.in1 h1 _ _ k1 hz fun h' j kk=>jg_ (q5_ (G.hint A.in1 _ _ _ (fun b o q=>kk b o (k1 b o q)) fun bb tk=>?_)));have jZ:=kk _ _ hS;refine zq_ (fun _=>?_) fun _=>jt_ (go h' c₀ tk j jZ fun b o _ q=>kk b o q)
 wp_walk
 exact go _ _ tk (G.frame _ _ _ _ (G.frame _ _ _ _ j fun b o m q=>jr _ _ b o m q) fun b o m q=>jr _ _ b o m q) (qK_ _ (qK_ _ jZ rfl) rfl) fun b o m q=>jr _ _ b o m (jr _ _ b o m (kk b o q))
def Gat.list (G:Gat prog w s r I T n wr J Fn)(hh:A.handled=none)
  (hQ:∀h' tk ah c,Fn ah h'->ah.length=n->h'.get? s.heap.objs.size=some (lsO ah.toArray c)->KP wr s.heap h'->Q (.ref s.heap.objs.size) {s with heap:=h',toks:=tk}):wpAny (model prog w) A (call (.type "list") [.ref r]) Q E s:=by
 have hS:(s.heap.push (lsO #[] 0)).get? s.heap.objs.size=some (lsO #[] 0):=jw_ _ rfl;refine callType_codes (Q₁:=fun obj s₁=>obj=.ref s.heap.objs.size/\s₁={s with heap:=s.heap.push (lsO #[] 0)}) F.called_list (F.typeCall_list_1 _) F.entry_list_init (code_list_new _ ⟨rfl,rfl⟩) fun obj s₁ h₁=>?_;obtain⟨rfl,rfl⟩:=h₁;have jr:∀b o,s.heap.get? b=some o->((s.heap.push (lsO #[] 0)).update s.heap.objs.size (Obj.mapSeq fun _ => #[])).get? b=some o:=fun b o q=>(qo_ _ _ (qF_ (ju_ q))).trans (jl_ _ q);obtain⟨c2,ig⟩:∃c,((s.heap.push (lsO #[] 0)).update s.heap.objs.size (Obj.mapSeq fun _ => #[])).get? s.heap.objs.size=some (lsO #[] c):=⟨_,qK_ _ hS rfl⟩;have hz:((s.heap.push (lsO #[] 0)).update s.heap.objs.size (Obj.mapSeq fun _ => #[])).objs.size=s.heap.objs.size+1:=by rw[Heap.size_after_update,xP_]
 refine⟨⟨_,hS,rfl⟩,F.args_list_init_2 _ _,?_⟩
 wp_walk using Gat.extend (A:=A.in1) (R:=wants (fun r bj=>r=.none/\Q (.ref s.heap.objs.size) bj) E) (c₀:=c2) G hh jr hz ig
 ·exact fun _ _ a b=>⟨a,b⟩
 exact fun h' tk ah c k1 k2 k3 k4=>⟨rfl,hQ h' tk ah c k1 k2 k3 k4⟩
def Gat.collect (G:Gat prog w s r I T n wr J Fn)(hh:A.handled=none)(hQ:∀h' tk ah,Fn ah h'->ah.length=n->KP wr s.heap h'->Q ah {s with heap:=h',toks:=tk}):wpAny (model prog w) A (collect (.ref r)) Q E s:=by
 have hS:(s.heap.push (lsO #[] 0)).get? s.heap.objs.size=some (lsO #[] 0):=jw_ _ rfl;unfold PySem.collect;refine jg_ (wpAny_runValue (xH_ F.entry_proto_collect ?_));rw[xb_ F.plain_proto_collect _]
 wp_walk
 refine⟨plainId_quiet F.plain_list_iadd _,xH_ F.entry_list_iadd ?_⟩;rw[xb_ F.plain_list_iadd _];refine G.extend hh (fun b o e=>jl_ _ e) (xP_ ..) hS (fun _ _ a b=>⟨a,b⟩) fun h' tk ah c k1 k2 k3 k4=>?_;exact jg_ (wpAny_load k3 (jt_ (hQ h' tk ah k1 k2 k4)))
def Gat.tuple (G:Gat prog w s r I T n wr J Fn)(hh:A.handled=none)
  (hQ:∀(h':Heap) tk ah,Fn ah h'->ah.length=n->KP wr s.heap h'->Q (.ref h'.objs.size) {s with heap:=h'.push {cls:=.type "tuple",data:=.seq ah.toArray},toks:=tk}):wpAny (model prog w) A (call (.type "tuple") [.ref r]) Q E s:=by
 have hsub:=sub_tuple_self;have hinit:=init_tuple_lookup;have hmh:=madeHere_tuple;have hT:=G.type;refine callType_codes (Q₁:=fun obj s₁=>s₁.TypeIs obj "tuple" /\ Q obj s₁) F.called_tuple (F.typeCall_tuple_1 _) F.entry_object_init ?_ fun obj s₁ h₁=>⟨h₁.1,F.args_object_init_2 obj _,object_init_meets F.called_tuple.init.lookup F.called_tuple.made (by decide) prog w A.in1 _ s₁ ⟨h₁.1,rfl,h₁.2⟩⟩;refine codeAny_of_tree (jg_ (wpAny_of_eq (F.newCall_tuple_1 _) (jt_ ⟨plainId_quiet F.plain_tuple_new _,xH_ F.entry_tuple_new ?_⟩)));rw[xb_ F.plain_tuple_new _];have h2:A.in1.in1.handled=none:=hh;have n1:=G.nl;have n2:=G.nt
 wp_walk using wpAny_typeOf hT,G.collect h2
 intro h' tk ah k1 k2 k3;have hl:ah.length<=sizeLine:=k2 ▸ G.le;have q:=hQ h' tk ah k1 k2 k3;clear k2
 wp_walk
 exact⟨⟨_,jw_ _ rfl,rfl⟩,q⟩
def Gat.ofWalks {fp wl:List Addr}{P:Nat->Value->Prop}{St:Nat->Heap->Prop}(W:∀A:Around,A.handled=none->Walks prog w A I fp wl n P St)(hh:A.handled=none)(hf:s.heap.objs.size∉fp)(ty:s.TypeIs (.ref r) T)(nl:(Value.type T==Value.type "list")=false)(nt:(Value.type T==Value.type "tuple")=false)(le:n<=sizeLine)
  (hint:∀(A:Around) (t:Shared) (Q:Bool->Shared->Prop) (E:Value->Shared->Prop),(∀b o,s.heap.get? b=some o->t.heap.get? b=some o)->(∀b tk,Q b {t with toks:=tk})->wpAny (model prog w) A (Builtin.List.listLengthHint (.ref r)) Q E t)
  (iter:∀(A:Around) (h1:Heap) (Q:Value->Shared->Prop) (E:Value->Shared->Prop),(∀b o,s.heap.get? b=some o->h1.get? b=some o)->h1.objs.size=s.heap.objs.size+1->(∀h',St 0 h'->(∀b o,h1.get? b=some o->h'.get? b=some o)->Q (.ref I) {s with heap:=h' })->wpAny (model prog w) A (pyIter (.ref r)) Q E {s with heap:=h1}):
  Gat prog w s r I T n (· ∈ wl) (fun i ah h=>St i h/\∀(j:Nat) v,ah[j]?=some v->P j v) (fun ah _=>∀(j:Nat) v,ah[j]?=some v->P j v) where
 type:=ty
 nl:=nl
 nt:=nt
 le:=le
 hint:=hint
 iter:=fun A h1 Q E k z q=>iter A h1 Q E k z fun h' st=>q h' ⟨st,fun j v e=>by simp at e⟩
 next:=fun A i ah t Q E hh j hl hi _ q1 q2=>by
  have W:=W A hh;rcases qt i n with l|l
  ·refine W.item i t Q E l j.1 fun v h' tk p cu k=>q1 v h' tk l ⟨cu,fun m u e=>?_⟩ k;rcases qt m ah.length with a|a
   ·rw[ji_ a]at e;exact j.2 m u e
   ·have:=(ja_.mp e).1;obtain rfl:m=i:=by simp at this;lia
    rw[jv_ a,hl,j7_]at e;exact (show v=u by simpa using e) ▸ p
  ·obtain rfl:i=n:=by lia
   exact W.done t Q E j.1 fun h' tk k=>q2 h' tk rfl j.2 k
 frame:=fun i ah h h' j k=>⟨(W A hh).frame _ _ _ j.1 fun b hb o q=>k b o (fun z=>hf (z ▸ hb)) q,j.2⟩
 nw:=fun m=>hf ((W A hh).sub _ m)
end
end PySem
namespace PySem
open Sem (wp)
open AutoSeq1 (wpAny_loadPart')
namespace F
def lri_no_len:typeLookup (.type "list_reverseiterator") "__len__"=pure none:=by rw[typeLookup_type,builtinLookup_eq_fast];kernel_rfl
def lri_hint:typeLookup (.type "list_reverseiterator") "__length_hint__"=pure (some (.builtin "list_reverseiterator.__length_hint__")):=by rw[typeLookup_type,builtinLookup_eq_fast];kernel_rfl
end F
section
variable {prog:Program} {w:World} {A:Around} {E:Value->Shared->Prop} {s:Shared}
def Lv (aK:s.heap.IsRevIter I l i)(h:Q false s):wpAny (model prog w) A (Builtin.List.listLengthHint (.ref I)) Q E s:=by
 unfold Builtin.List.listLengthHint;refine jg_ (wpAny_specialOf aK.typeIs F.lri_no_len ?_);show wpAny _ A (specialOf (Value.ref I) (Str.ofString "__length_hint__") >>= _) _ _ _;refine jg_ (wpAny_specialOf aK.typeIs F.lri_hint ?_);generalize hid:("list_reverseiterator.__length_hint__" : String)=id0
 wp_delta
 rw[show splitId id0=some ("list_reverseiterator","__length_hint__") from by subst hid;decide +kernel];subst hid;refine jg_ (wpAny_isInstance (T := "list_reverseiterator") (b:=true) aK.typeIs (by rw[isSubtype_type];kernel_rfl) ?_);refine zq_ (fun cZ=>absurd cZ (by decide)) (fun _=>?_);refine zq_ (fun _=>?_) (fun cZ=>absurd (by decide +kernel) cZ);refine zq_ (fun cZ=>absurd cZ (by decide +kernel)) (fun _=>?_);exact jt_ h
def WH (hh:A.handled=none)(aK:s.heap.IsRevIter I l ((items.size:Int)-1))(hl:s.heap.IsList l items)(hz:items.size<=sizeLine):
  Gat prog w s I I "list_reverseiterator" items.size (· ∈ [I]) (fun i ah h=>(i<=items.size/\h.IsRevIter I l ((items.size:Int)-1-(i:Int))/\h.IsList l items)/\∀(j:Nat) v,ah[j]?=some v->items[items.size-1-j]?=some v) (fun ah _=>∀(j:Nat) v,ah[j]?=some v->items[items.size-1-j]?=some v):=by
 obtain⟨oi,e1,e2,e3⟩:=id aK;obtain⟨ol,f1,f2,f3⟩:=id hl;have ne:l≠I:=fun z=>by
  subst z;rw[e1]at f1;cases f1;rw[e2]at f2;exact absurd f2 (by decide)
 refine Gat.ofWalks (fun A h=>Walks.listRev h I l ne items) hh (fun m=>?_) aK.typeIs (by decide) (by decide) hz (fun A t Q E k q=>Lv (aK.at fun o z=>k _ o z) (q false t.toks)) fun A h1 Q E k _ q=>?_
 ·rcases jr_.mp m with z|z
  ·exact absurd (ju_ e1) (by rw[<-z];exact qe_ _)
  ·exact absurd (ju_ f1) (by rw[<-jd_.mp z];exact qe_ _)
 ·exact wpAny_pyIter_revIter (aK.at (h':=h1) fun o z=>k _ o z) (q h1 ⟨j9_ _,by simpa using aK.at (h':=h1) fun o z=>k _ o z,hl.at fun o z=>k _ o z⟩ fun b o z=>z)
def RW {items:Array Value}{ah:List Value}(l:ah.length=items.size)(h:∀(j:Nat) v,ah[j]?=some v->items[items.size-1-j]?=some v):ItemsOf (fun i v=>items[items.size-1-i]?=some v) ah.toArray items.size:=⟨by simpa using l,fun i v e=>h i v (by simpa using e)⟩
def Lw (hh:A.handled=none)(aK:s.heap.IsRevIter I l ((items.size:Int)-1))(hl:s.heap.IsList l items)(hz:items.size<=sizeLine)
  (hQ:∀(h':Heap) (tk:Nat) (c6:Array Value),(∀b o,b≠I->s.heap.get? b=some o->h'.get? b=some o)->ItemsOf (fun i v=>items[items.size-1-i]?=some v) c6 items.size->Q (.ref h'.objs.size) {s with heap:=h'.push {cls:=.type "tuple",data:=.seq c6 },toks:=tk}):
  wpAny (model prog w) A (call (.type "tuple") [.ref I]) Q E s:=
 (WH hh aK hl hz).tuple hh fun h' tk ah f l k4=>hQ h' tk ah.toArray (fun b o n q=>k4 b o (fun z=>n (jd_.mp z)) q) (RW l f)
end
end PySem
namespace L2
open PySem PySem.Spec PyProof.Rows
section
variable {P:Program} {w:World} {K:α3} {mg:Str->α5} {base:Heap}
def Fun.okE {st:Stmt} (F:Fun K x qual st f fd)(S:FnScope N ps (Af st))(len:∀vs H Q E,sp vs H Q E->vs.length=ps.length)
  (aP:∀(au:Value) (A:Around) (outer:List Env) (s:Shared) (H:Hp) (vs:List V) (Q:VK) (E:XK),Room k (A.deeper (envOfC qual (Af st) s.heap.objs.size f au))->sp vs H Q E ->
   ∃t,PSs (cxOf (CXe P w) P w K mg base N qual (Af st) f au A outer s H E) (DM st) t/\t {nx:=fun _ H'=>Q .non H',rt:=Q} (start N vs) H):FnOk P w K mg base (CXe P w) (k+1) f fd ps sp:=by
 obtain⟨oc,od,kV,bR,pm,an,au,ct,gZ,rfl,lk,cq⟩:=F.ex;exact XQ lk cq S len fun A outer s H vs Q E hr cH=>aP au A outer s H vs Q E hr cH
def C9 : EO (CXe P w) X E0:=fun _ _ _ _ _ _ _ h=>by
 obtain⟨_,_,_,_,_,_,_,_,_,_,q⟩:=h;exact q.elim
end
section
variable {te ta tb:TE} {A:TA} {D:Ends} {σ:St} {H:Hp} {Q:VK} {K:α3} {tbd ts:TS}
theorem Yu : rCat x y H Q=∃l b xs zs,x=.ref l/\y=.ref b/\H l=some (.lst xs)/\H b=some (.lst zs)/\xs.length+zs.length<=sizeLine/\∀p,H p=none->Q (.ref p) (upd H p (.lst (xs++zs))):=rfl
theorem RX : Vx C E A D σ H=A σ H fun vs H1=>vs.length<=sizeLine/\E (.ref C) none H1:=rfl
theorem RY : Vy sp aI E A σ H Q=A σ H fun vs H1=>sp (vs++aI) H1 Q (E σ):=rfl
end
section
variable {X:Cx} {tg:Expr}
def RZ {its:List Value} (rv:Vals xs its)(h:ItemsOf (fun i v=>its.toArray[its.toArray.size-1-i]?=some v) ah its.toArray.size):Vals xs.reverse ah.toList:=by
 have hl:=rv.length;have e:ah.toList=its.reverse:=by
  apply qw_;intro i;by_cases hi:i<its.length
  ·have hs:ah.size=its.length:=by rw[h.1,jk_]
   have:=h.2 i ah[i] (by simp[hs,hi]);rw[jk_]at this;rw[List.getElem?_reverse hi];have z:its[its.length-1-i]?=some ah[i]:=by simpa using this
   rw[z];simp[hs,hi]
  ·have hs:ah.size=its.length:=by rw[h.1,jk_]
   rw[jT_ (by simp;lia),jT_ (by simp;lia)]
 rw[e];exact rv.reverse
noncomputable def R0 (K:α3)(te:TE):TE:=fun σ H Q=>te σ H fun x H1=>∃a xs,x=.ref a/\SqL K H1 a xs/\∀p,H1 p=none->Q (.ref p) (upd H1 p (.tup xs.reverse))
theorem Pu {K:α3} : R0 K te σ H Q=te σ H fun x H1=>∃a xs,x=.ref a/\SqL K H1 a xs/\∀p,H1 p=none->Q (.ref p) (upd H1 p (.tup xs.reverse)):=rfl
def WI {e:Expr}{te:TE}{p pos pos1:Pos}{ae:α7}{σ:St}{H:Hp}{s:Shared}{W:Hp->Addr->List V->Prop}{QQ:List Value->Shared->Prop}(hg:Gl X "reversed")(hm:X.mg "reversed"=none)(he:PE X e te)(I:Inv X ae σ H s)
  (h:te σ H fun x H1=>∃a xs,x=.ref a/\SqL X.K H1 a xs/\W H1 a xs) (lA:starEach [.Call (.Name "reversed" p) [e] [] pos] X.env=[(false,eval (.Call (.Name "reversed" p) [e] [] pos) X.env)]) (hs:starEach [e] X.env=[(false,eval e X.env)])
  (k:∀s1 H1 a xs its,Inv X ae σ H1 s1->Vals xs its->s1.heap.IsList a its.toArray->xs.length<=sizeLine->H1 a≠none\/True->W H1 a xs->QQ [.ref s1.heap.objs.size] {s1 with heap:=s1.heap.push (revObj a ((its.toArray.size:Int)-1))}):
  wpAny (model X.prog X.w) X.A (spliced (backTo pos1 (starEach [.Call (.Name "reversed" p) [e] [] pos] X.env))) QQ X.xe s:=by
 rw[lA];refine xy_ ?_;refine Call_ (Js I hg hm boot_reversed (qk_ (thn (Aa he Ad hs pos ae s σ H (fun vs H1=>∃a xs,vs=[.ref a]/\SqL X.K H1 a xs/\W H1 a xs) I ?_) fun us s1 ⟨vs,H1,I1,r1,q1⟩=>?_) hs rfl))
 ·show te σ H _;have:(fun x H1=>∃a xs,x=V.ref a/\SqL X.K H1 a xs/\W H1 a xs)=(fun x H1=>tNil σ H1 fun xs H2=>∃a ys,x::xs=[V.ref a]/\SqL X.K H2 a ys/\W H2 a ys):=by
   funext x H1
   simp[tNil]
  rw[<-this];exact h
 ·obtain⟨a,xs,rfl,hq,q⟩:=q1;cases r1 with
  |cons r rr=>
   cases rr;cases r;obtain⟨its,rv,p,hz⟩:=I1.list hq;refine call_reversed_list p.isList ?_;exact x6_ (k s1 H1 a xs its I1 rv p.isList hz (.inr trivial) q)
def OD (hc:X.calm=true)(hg:Gl X "tuple")(hm:X.mg "tuple"=none)(hg2:Gl X "reversed")(mK:X.mg "reversed"=none)(he:PE X e te)
  (lA:starEach [.Call (.Name "reversed" p2) [e] [] pos2] X.env=[(false,eval (.Call (.Name "reversed" p2) [e] [] pos2) X.env)]:=by rfl) (hs:starEach [e] X.env=[(false,eval e X.env)]:=by rfl):
  PE X (.Call (.Name "tuple" p) [.Call (.Name "reversed" p2) [e] [] pos2] [] pos) (R0 X.K te):=by
 intro ae s σ H Q I h;refine qP_ (Js I hg hm boot_tuple ?_);refine qk_ (WI (W:=fun H1 a xs=>∀p,H1 p=none->Q (.ref p) (upd H1 p (.tup xs.reverse))) hg2 mK he I h lA hs fun s1 H1 a xs its I1 rv pl hz _ q=>?_) lA rfl;have hl:=rv.length;refine Lw (items:=its.toArray) (I.ok.hd hc) ⟨_,jw_ _ rfl,rfl,rfl⟩ (pl.at fun o e=>jl_ _ e) (by rw[jk_,<-hl];exact hz) fun h' tk c6 hk b8=>?_;have kp:∀b o,s1.heap.get? b=some o->h'.get? b=some o:=fun b o e=>hk b o (jQ_ (ju_ e)) (jl_ _ e);have I2:Inv X ae σ H1 {s1 with heap:=h',toks:=tk}:=I1.kept kp;refine⟨.ref h'.objs.size,_,I2.laid (t':=tk) (fun b o e=>jl_ _ e) (jh_ _) (show A6 X.prog X.w _ _ _ (.tup xs.reverse) from ⟨by rw[p9];exact hz,c6.toList,RZ rv b8,by simpa using IsTup.new _ _⟩),rfl,q _ (I2.hok.fresh (jh_ _))⟩
end
end L2
namespace L2
open PySem PySem.Spec PyProof.Rows
def WJ (x y:Int):eqV (.int x) (.int y)=decide (V.int x=V.int y):=by
 by_cases h:x=y
 ·subst h;simp[eqV]
 ·rw[jP_ (fun z=>h (by injection z))];simp[eqV,h]
def EqD.ints {K:α3}{H:Hp}{a c:Addr}{xs ys:α2}(hq:(SqL K H a (xs.map V.int)/\SqL K H c (ys.map V.int))\/(SqT K H a (xs.map V.int)/\SqT K H c (ys.map V.int)))(n:Nat):EqD K H (n+1) (.ref a) (.ref c) (decide (xs=ys)):=by
 have:=EqD.flat hq (fun x hx=>by obtain⟨_,_,rfl⟩:=C0 hx;rfl) (fun x hx=>by obtain⟨_,_,rfl⟩:=C0 hx;rfl) (fun x hx y hy=>by obtain⟨_,_,rfl⟩:=C0 hx;obtain⟨_,_,rfl⟩:=C0 hy;exact WJ _ _) n;have e:decide (xs.map V.int=ys.map V.int)=decide (xs=ys):=by
  rw[qr_];simp only[jU_];constructor
  ·intro h;exact (xB_ (fun a b h=>by injection h)).mp h
  ·intro h;rw[h]
 rw[e]at this;exact this
end L2
namespace L2
open PySem PySem.Spec PyProof.Rows
noncomputable def iSeq (K:α3)(tl:TE):TI:=fun σ H R=>tl σ H fun x H1=>∃a,x=.ref a/\(((∃xs,SqL K H1 a xs)/\R (Itl K a) H1)\/((∃xs,SqT K H1 a xs)/\R (Itt K a) H1))
theorem Vz {K:α3} : iSeq K te σ H Z=te σ H fun x H1=>∃a,x=.ref a/\(((∃xs,SqL K H1 a xs)/\Z (Itl K a) H1)\/((∃xs,SqT K H1 a xs)/\Z (Itt K a) H1)):=rfl
def Px (hl:PE X l tl):PI X tg l (iSeq X.K tl):=by
 intro ae s σ H R I h;refine thn (hl ae s σ H _ I h) fun v s1 ⟨x,H1,I1,r1,q1⟩=>?_;obtain⟨a,e,q⟩:=q1;subst e;cases r1;rcases q with ⟨⟨xs,hq⟩,q⟩|⟨⟨xs,hq⟩,q⟩
 ·obtain⟨its,rv,p,hz⟩:=I1.list hq;refine wpAny_pyIter_list p.isList ?_;refine⟨s1.heap.objs.size,[s1.heap.objs.size],_,_,H1,rfl,I1.kept (t':=s1.toks) fun b o e=>jl_ _ e,Nk a _,⟨_,jw_ _ rfl,rfl,rfl⟩,fun b hb=>?_,q⟩;have e:b=s1.heap.objs.size:=by simpa using hb
  subst e;exact I1.fpOk (jh_ _) (I1.hok.fresh (jh_ _))
 ·obtain⟨its,rv,p,hz⟩:=I1.tuple hq;refine wpAny_pyIter_tuple (show s1.heap.IsTuple a its.toArray from p) ?_;refine⟨s1.heap.objs.size,[s1.heap.objs.size],_,_,H1,rfl,I1.kept (t':=s1.toks) fun b o e=>jl_ _ e,LR a _,⟨_,jw_ _ rfl,rfl,rfl⟩,fun b hb=>?_,q⟩;have e:b=s1.heap.objs.size:=by simpa using hb
  subst e;exact I1.fpOk (jh_ _) (I1.hok.fresh (jh_ _))
end L2
namespace GW
def NM (hL:0<L) (hx:isW L xs=true):0<=place L xs:=by
 have:=(Fc hL hx).1;have:=C8 hL xs.length;lia
def R1 (hL:0<L):∀{xs ys:α2},isW L xs=true->isW L ys=true->place L xs=place L ys->xs=ys:=by
 have key:∀{l m:α2},(∀x∈l,0<=x/\x<L)->(∀x∈m,0<=x/\x<L)->Bf L l=Bf L m->l=m:=by
  intro l
  induction l with
  |nil=>
   intro m _ hm h;cases m with
   |nil=>rfl
   |cons y s=>
    have hy:=hm y js_;have:=(C1 hL (l:=s) fun z hz=>hm z (jm_ _ hz)).1;have h0:=C8 hL s.length;have hp:=zz_ (show 0<=Bf L s by lia) (xj_ hL);have h':(0:Int)=Bf L s*L+y+1:=h;lia
  |cons x r ih=>
   intro m hl hm h;have hx:=hl x js_;cases m with
   |nil=>
    have:=(C1 hL (l:=r) fun z hz=>hl z (jm_ _ hz)).1;have h0:=C8 hL r.length;have hp:=zz_ (show 0<=Bf L r by lia) (xj_ hL);have h':Bf L r*L+x+1=(0:Int):=h;lia
   |cons y s=>
    have hy:=hm y js_;have h':Bf L r*L+x+1=Bf L s*L+y+1:=h;have e1:Bf L r=Bf L s:=by
     rcases Int.lt_trichotomy (Bf L r) (Bf L s) with ay|he|ay
     ·have:=jV_ (show Bf L r+1<=Bf L s by lia) (xj_ hL);rw[pW]at this;lia
     ·exact he
     ·have:=jV_ (show Bf L s+1<=Bf L r by lia) (xj_ hL);rw[pW]at this;lia
    rw[e1]at h';rw[ih (fun z hz=>hl z (jm_ _ hz)) (fun z hz=>hm z (jm_ _ hz)) e1,show x=y by lia]
 intro xs ys hx hy h;have:=key (l:=xs.reverse) (m:=ys.reverse) (fun x h=>Am.mp hx x (List.mem_reverse.mp h)) (fun x h=>Am.mp hy x (List.mem_reverse.mp h)) h;exact List.reverse_inj.mp this
end GW
namespace L2
open PySem PySem.Spec PyProof.Rows
def VA {K:α3}{T id:String} (hK:X.K=K)(pa:PlainAttrs T)(slot:Slot T name id)(hU:typeOf (.builtin id)=pure (.type "method_descriptor"))(hm:MtR X id r)(ho:PE X o to)(ha:PA X (e::es) t)
  (cI:attributeBase o name X.env (eval o X.env)=eval o X.env:=by rfl)
  (hV:((backTo aB (starEach (e::es) X.env)).all (fun x => !x.1)&&(backToKw aB (keywordEach [] X.env)).all (fun x=>x.1.isSome)
   && decide ((e::es).length+([]:List Keyword).length+(if ([]:List Keyword).isEmpty then 0 else 1)<30))=true:=by rfl)
  (cJ:(aC.endLine==aB.line)=true:=by rfl) (hs:starEach (e::es) X.env=(false,eval e X.env)::starEach es X.env:=by rfl) (bS:(backTo aB (starEach es X.env)).any (·.1)=false:=by rfl):
  PE X (.Call (.Attribute o name aC) (e::es) [] aB) (tBM K T r to t):=by
 subst hK;exact Ek pa slot hU hm ho ha cI hV cJ hs bS
section
variable {X:Cx} {K:α3}
def R3 (h:X.K=K):IxR X (rIxT K):=by subst h;exact An
def Er (h:X.K=K):IxR X (rIxL K):=by subst h;exact AZ
def Uj (h:X.K=K):SlR X (rSlL K):=by subst h;exact Kx
def Lx (h:X.K=K):DA X (.type "tuple") (fun xs H Q=>∃p ys,xs=[.ref p]/\((SqL K H p ys/\∀l,H l=none->Q (.ref l) (upd H l (.tup ys)))\/(SqT K H p ys/\Q (.ref p) H))):=by subst h;exact CY
end
end L2
namespace GW
noncomputable def Bp (ag:α1)(r x:Int):Int:=(ag.getD r.toNat []).getD x.toNat 0
noncomputable def Al (ag:α1)(ws:α2):Int:=ws.foldl (Bp ag) 0
noncomputable def Jx (ag:α1)(ws:α2):α2:=(om (ws.length+1)).map fun j=>Al ag (ws.take j)
structure Wf (L:Int)(af:α2)(ag:α1):Prop where
 l1:1<=L
 l6:L<=6
 n1:1<=af.length
 n40:af.length<=40
 len:ag.length=af.length
 rows:∀row∈ag,(row.length:Int)=L/\∀x∈row,0<=x/\x<af.length
 mks:∀m∈af,0<=m/\m<=1000000000
def HJ (h1:ag[r.toNat]?=some row)(h2:row[x.toNat]?=some g):Bp ag r x=g:=by
 unfold Bp;have e:ag.getD r.toNat []=row:=by rw[jp_,h1];rfl
 rw[e,jp_,h2];rfl
def Wf.row {L:Int}{af:α2}{ag:α1}(wf:Wf L af ag){r:Int}(h0:0<=r)(h1:r<af.length):∃row,ag[r.toNat]?=some row/\row∈ag/\(row.length:Int)=L:=by
 have ay:r.toNat<ag.length:=by rw[wf.len];lia
 exact⟨ag[r.toNat],by simp[ay],jZ_ ay,(wf.rows _ (jZ_ ay)).1⟩
def Wf.step {L:Int}{af:α2}{ag:α1}(wf:Wf L af ag){r x:Int}(h0:0<=r)(h1:r<af.length)(x0:0<=x)(x1:x<L):∃row g,ag[r.toNat]?=some row/\row[x.toNat]?=some g/\Bp ag r x=g/\0<=g/\g<af.length:=by
 obtain⟨row,hr,hm,hl⟩:=wf.row h0 h1;have ay:x.toNat<row.length:=by lia
 have hg:row[x.toNat]?=some row[x.toNat]:=by simp[ay]
 exact⟨row,row[x.toNat],hr,hg,HJ hr hg,(wf.rows row hm).2 _ (jZ_ ay)⟩
def IS (ag:α1)(ws:α2)(x:Int):Al ag (ws++[x])=Bp ag (Al ag ws) x:=by
 unfold Al;rw[qg_];rfl
def Gd {ag:α1}{ws:α2}{i:Nat}{x:Int}(h:ws[i]?=some x):Al ag (ws.take (i+1))=Bp ag (Al ag (ws.take i)) x:=by
 rw[jA_,h];exact IS _ _ _
def Wf.walk (wf:Wf L af ag) (hw:isW L ws=true):∀i,0<=Al ag (ws.take i)/\Al ag (ws.take i)<af.length:=by
 intro i
 induction i with
 |zero=>have:=wf.n1;simp[Al];lia
 |succ i ih=>
  cases e:ws[i]? with
  |none=>
   have bg:=q9_.mp e;rw[qp_ s!""];rw[qp_ bg]at ih;exact ih
  |some x=>
   rw[Gd e];have hx:=Am.mp hw x (jc_ e);obtain⟨_,g,_,_,h,h0,h1⟩:=wf.step ih.1 ih.2 hx.1 hx.2;rw[h];exact⟨h0,h1⟩
def ME (ag:α1)(ws:α2):(Jx ag ws).length=ws.length+1:=by simp[Jx]
def Qy (h:i<=ws.length):(Jx ag ws)[i]?=some (Al ag (ws.take i)):=by
 unfold Jx;rw[jj_,xn_ s!""];rfl
def OE (ag:α1)(ws:α2):(Jx ag ws)[ws.length]?=some (Al ag ws):=by
 rw[Qy (jh_ _),jE_]
end GW
namespace L2
open PySem PySem.Spec PyProof.Rows GW
noncomputable def Rows (K:α3)(H:Hp)(w:Addr)(ag:α1):Prop:=∃ts:List Addr,SqT K H w (ts.map V.ref)/\ts.length=ag.length/\∀(i:Nat) (t:Addr) (row:α2),ts[i]?=some t->ag[i]?=some row->SqT K H t (row.map V.int)
noncomputable def Cn (K:α3)(H:Hp)(h:Addr)(L:Int)(af:α2)(ag:α1):Prop:=∃m w:Addr,SqT K H h [.int L,.ref m,.ref w]/\SqT K H m (af.map V.int)/\Rows K H w ag
def Rows.mono {K:α3} (h:Rows K H w ag)(e:Same H H'):Rows K H' w ag:=by
 obtain⟨ts,h1,h2,h3⟩:=h;exact⟨ts,e.seqT h1,h2,fun i t r a b=>e.seqT (h3 i t r a b)⟩
def Cn.mono {K:α3} (x:Cn K H h L af ag)(e:Same H H'):Cn K H' h L af ag:=by
 obtain⟨m,w,h1,h2,h3⟩:=x;exact⟨m,w,e.seqT h1,e.seqT h2,h3.mono e⟩
def Rows.at {K:α3}{H:Hp}{w:Addr}{ag:α1}(h:Rows K H w ag){i:Nat}{row:α2}(hr:ag[i]?=some row):∃xs t,SqT K H w xs/\atI xs (i:Int)=some (V.ref t)/\SqT K H t (row.map V.int):=by
 obtain⟨ts,h1,h2,h3⟩:=h;have ay:i<ts.length:=by rw[h2];exact (ja_.mp hr).1
 have ht:ts[i]?=some ts[i]:=by simp[ay]
 exact⟨_,ts[i],h1,G9 (by rw[jj_,ht];rfl),h3 i _ _ ht hr⟩
def Rows.atZ {K:α3} (h:Rows K H w ag) (h0:0<=r)(hr:ag[r.toNat]?=some row):∃xs t,SqT K H w xs/\atI xs r=some (V.ref t)/\SqT K H t (row.map V.int):=by
 obtain⟨xs,t,a,b,c⟩:=h.at hr;exact⟨xs,t,a,by rw[<-b];congr 1;lia,c⟩
def MF (h:xs[xs.length-1]?=some v):atI xs (-1)=some v:=by
 have ay:=(ja_.mp h).1;unfold atI ixN;rw[if_neg s!"",if_pos s!""];show xs[(-1+(xs.length:Int)).toNat]?=some v;rw[show (-1+(xs.length:Int)).toNat=xs.length-1 by lia];exact h
def Cw {ns:α2}{i:Int}{v:Int}(h0:0<=i)(h:ns[i.toNat]?=some v):atI (ns.map V.int) i=some (V.int v):=DE h0 (by rw[jj_,h];rfl)
def Uk {K:α3} (hp:H p=some (.lst zs))(h:SqT K H t xs):SqT K (upd H p (.lst ys)) t xs:=by
 rcases h with (q|⟨o,q⟩)|q
 ·refine .inl (.inl ?_);rw[Ah (fun z=>by rw[z,hp]at q;cases q)];exact q
 ·refine .inl (.inr ⟨o,?_⟩);rw[Ah (fun z=>by rw[z,hp]at q;cases q)];exact q
 ·exact .inr q
noncomputable def JW (K:α3)(H:Hp)(l:Addr)(ws:α1):Prop:=∃ts:List Addr,H l=some (.lst (ts.map V.ref))/\ts.length=ws.length/\∀(i:Nat) (t:Addr) (w:α2),ts[i]?=some t->ws[i]?=some w->SqT K H t (w.map V.int)
def JW.mono {K:α3} (h:JW K H l ws)(e:Same H H'):JW K H' l ws:=by
 obtain⟨ts,h1,h2,h3⟩:=h;exact⟨ts,e _ _ h1,h2,fun i t w a b=>e.seqT (h3 i t w a b)⟩
def JW.push {K:α3} (h:JW K H l ws)(hw:SqT K H t (w.map V.int)):∃xs,H l=some (.lst xs)/\xs.length=ws.length/\JW K (upd H l (.lst (xs++[V.ref t]))) l (ws++[w]):=by
 obtain⟨ts,h1,h2,h3⟩:=h;refine⟨ts.map V.ref,h1,by rw[jb_,h2],ts++[t],by rw[Ab,jz_];rfl,by simp[h2],fun i t' w' a b=>Uk h1 ?_⟩;by_cases hi:i<ts.length
 ·rw[ji_ hi]at a;rw[ji_ s!""]at b;exact h3 i t' w' a b
 ·have ht:=(ja_.mp a).1;rw[jf_,jo_]at ht;have e:i=ts.length:=by lia
  subst e;rw[jv_ (jh_ _),j7_]at a;rw[jv_ s!"",h2,j7_]at b;simp at a b;subst a b;exact hw
def JW.nil {K:α3} (h:H l=some (.lst [])):JW K H l []:=⟨[],h,rfl,fun i t w a _=>by simp at a⟩
def JW.rows {K:α3} (h:JW K H l ws):∃xs,H l=some (.lst xs)/\∀t,H t=none->Rows K (upd H t (.tup xs)) t ws:=by
 obtain⟨ts,h1,h2,h3⟩:=h;exact⟨_,h1,fun t ht=>⟨ts,SqT.of Ab,h2,fun i t' w a b=>(Same.new ht).seqT (h3 i t' w a b)⟩⟩
end L2
namespace PySem
open Sem (wp)
open AutoSeq1 (wpAny_loadPart')
section
variable {prog:Program} {w:World} {A:Around} {E:Value->Shared->Prop} {s:Shared}
def newT (hl:l.length<=sizeLine)(h:∀h',s.heap.push {cls:=.type "tuple",data:=.seq l.toArray}=h'->Q (.ref s.heap.objs.size) {s with heap:=h' }):wpAny (model prog w) A (newTuple l) Q E s:=wpAny_newTuple (h _ rfl)
end
end PySem
namespace L2
open PySem PySem.Spec PyProof.Rows
section
variable {X:Cx} {ae:α7} {σ:St} {H:Hp} {s:Shared}
def Inv.un2 {e it:Addr}(I:Inv X ae σ H s)(k:∀b o,b≠e->b≠it->s.heap.get? b=some o->h'.get? b=some o)(f1:FpOk X ae H e)(f2:FpOk X ae H it):Un (frs X.stack) [e,it] H H s.heap h'/\HOk X.prog X.w H h':=by
 have ne:∀b u,H b=some u->b≠e/\b≠it:=fun b u q=>⟨(fun z=>by rw[z,f1.1]at q;cases q),(fun z=>by rw[z,f2.1]at q;cases q)⟩;have eB:∀{b:Addr},b ∉ [e,it]->b≠e/\b≠it:=fun hb=>by simpa using hb
 refine⟨⟨fun b o q _ _ hb=>k b o (eB hb).1 (eB hb).2 q,fun b o q _ _ hb=>⟨o.slots,k b o (eB hb).1 (eB hb).2 q⟩,fun _ _ _ n _=>n,fun b o q hb=>⟨o,k b o (eB hb).1 (eB hb).2 q⟩,fun _ _ q=>q,fun _ _ _ q=>q,fun b ps q=>⟨#[],by rw[q];simp⟩⟩,fun b u q=>?_⟩;refine (I.hok b u q).stay (fun c v hc qv=>?_) (fun _ q=>q) fun _ _ q=>q;have aA:c≠e/\c≠it:=by
  rcases hc with rfl|hc
  ·exact ne _ _ q
  ·exact ne _ _ hc
 exact k c v aA.1 aA.2 qv
def FpOk.ch (f:FpOk X ae H b):(b∈X.ex\/X.s₀.heap.objs.size<=b)/\b≠X.env.locals/\(∀x c,X.env.cells.lookup x=some c->c≠b)/\∀p∈X.pn++ae,p.1≠b:=⟨f.2.2.2.1,f.2.1,f.2.2.2.2.1,f.2.2.2.2.2⟩
end
theorem VB {K:α3} : gTup K n t v σ H N=∃a xs,v=.ref a/\SqT K H a xs/\xs.length=n/\t xs σ H N:=rfl
theorem R4 : XG t u vs σ H N=∃v r,vs=v::r/\t v σ H fun aj H'=>u r aj H' N:=rfl
theorem VC : gNil vs σ H N=(vs=[]/\N σ H):=rfl
section
variable {td ty tv tx:TE} {D:Ends} {σ:St} {H:Hp} {Q:VK}
theorem VD:XY td ty σ H Q=td σ H fun x H1=>ty σ H1 fun y H2=>∃a v,x=.ref a/\DGet H2 a y (some v)/\Q v H2:=rfl
theorem PD:RH ty td σ H Q=ty σ H fun y H1=>td σ H1 fun x H2=>∃a o,x=.ref a/\DGet H2 a y o/\Q (.bl (!o.isSome)) H2:=rfl
theorem VE:XZ td ty tv D σ H=tv σ H fun v H1=>td σ H1 fun x H2=>ty σ H2 fun y H3=>∃a H4,x=.ref a/\DPut H3 a y v H4/\D.nx σ H4:=rfl
theorem R5:Vk td ty σ H Q=td σ H fun x H1=>∃a,x=.ref a/\IsD H1 a/\ty σ H1 fun y H2=>∃o,DGet H2 a y o/\Q (o.getD .non) H2:=rfl
end
end L2
namespace GW
noncomputable def VF (w:α2):List (Int×α2)->Nat->α2->List (Int×α2)
 |ents,_,[]=>ents
 |ents,x,g::r=>VF w (if g∈ents.map (·.1) then ents else ents++[(g,w++[(x:Int)])]) (x+1) r
noncomputable def bfs (ag:α1):Nat->List (Int×α2)->Nat->List (Int×α2)
 |0,ents,_=>ents
 |f+1,ents,i=>match ents[i]? with
  |none=>ents
  |some e=>bfs ag f (VF e.2 ents 0 (ag.getD e.1.toNat [])) (i+1)
noncomputable def R6 (ag:α1):List (Int×α2):=bfs ag (ag.length+1) [(0,[])] 0
def Dc:∀(n:Nat) {l:α2},l.Nodup->(∀x∈l,0<=x/\x<(n:Int))->l.length<=n
 |0,l,_,h=>by
  cases l with
  |nil=>simp
  |cons x r=>have:=h x js_;lia
 |n+1,l,hn,h=>by
  by_cases hm:(n:Int)∈l
  ·have e:=xf_ hm;have:=Dc n (l:=l.erase (n:Int)) (hn.erase _) (fun x hx=>by
    have h1:=(hn.mem_erase_iff).mp hx;have h2:=h x h1.2;have h3:=h1.1;lia)
   lia
  ·have:=Dc n hn (fun x hx=>by
    have h2:=h x hx;have:x≠n:=fun z=>hm (z ▸ hx);lia)
   lia
end GW
namespace L2
open PySem PySem.Spec PyProof.Rows
noncomputable def ups (n:Nat):α2:=(om n).map fun i:Nat=>(i:Int)
noncomputable def rNeD (K:α3)(n:Nat):R2:=fun x y H Q=>∃a c b,x=.ref a/\y=.ref c/\EqD K H n x y b/\Q (.bl (!b)) H
theorem Yv {K:α3} : rNeD K n x y H Q=∃a c b,x=.ref a/\y=.ref c/\EqD K H n x y b/\Q (.bl (!b)) H:=rfl
def VG (n:Nat)(hu:X.A.units+n<cLine):OpR X (compareOp .NotEq) (rNeD X.K n):=by
 intro ae s σ H x y v u Q I rx ry h;obtain⟨a,c,b,rfl,rfl,h,q⟩:=h;cases rx;cases ry;cases n with
 |zero=>exact absurd (show false=true from h.1) jy_
 |succ n=>
  rcases h with ⟨fx,_⟩|⟨a',c',xs,ys,e1,e2,hq,e,he,rfl⟩
  ·exact absurd (show false=true from fx) jy_
  ·cases e1;cases e2;have key:∀(its aE:List Value),Vals xs its->Vals ys aE->∀j (h1:j<its.toArray.size) (h2:j<aE.toArray.size),SeqAt.EqAt X.A.in1 s its.toArray[j] aE.toArray[j] (e j):=fun its aE r1 r2 j h1 h2=>by
    have l1:=r1.length;have l2:=r2.length;rw[jk_]at h1 h2;obtain⟨u1,g1,q1⟩:=r1.get (i:=j) (x:=xs[j]'s!"") (by simp[show j<xs.length by lia]);obtain⟨u2,g2,q2⟩:=r2.get (i:=j) (x:=ys[j]'s!"") (by simp[show j<ys.length by lia]);have k1:its.toArray[j]'(by rw[jk_];exact h1)=u1:=by
     have:=(ja_.mp g1).2;simpa using this
    have k2:aE.toArray[j]'(by rw[jk_];exact h2)=u2:=by
     have:=(ja_.mp g2).2;simpa using this
    rw[k1,k2];exact (EqD.at I n X.A.in1 (by rw[in1_units];lia) q1 q2 (he j _ _ (by simp[show j<xs.length by lia]) (by simp[show j<ys.length by lia]))).1
   have fin:EP X ae σ Q (.bool (!(decide (xs.length=ys.length)&&(om (min xs.length ys.length)).all e))) s:=⟨.bl _,H,I,rfl,q⟩;rcases hq with ⟨h1,h2⟩|⟨h1,h2⟩
   ·obtain⟨its,r1,p1,_⟩:=I.list h1;obtain⟨aE,r2,p2,_⟩:=I.list h2;have l1:=r1.length;have l2:=r2.length;by_cases hl:xs.length=ys.length
    ·have:=SeqAt.RcNeAt.lists (e:=e) p1.isList p2.isList (by rw[jk_,jk_];lia) s!"" (key its aE r1 r2);rw[jk_,<-l1]at this;rw[jR_ hl,zj_,<-hl,qr]at fin;exact this _ _ _ _ fin
    ·have:=SeqAt.RcNeAt.lists_lengths (A:=X.A) p1.isList p2.isList (by rw[jk_,jk_];simp;lia) s!"";rw[jP_ hl,pT]at fin;exact this _ _ _ _ fin
   ·obtain⟨its,r1,p1,_⟩:=I.tuple h1;obtain⟨aE,r2,p2,_⟩:=I.tuple h2;have l1:=r1.length;have l2:=r2.length;have:=SeqAt.RcNeAt.tuples (e:=e) (show s.heap.IsTuple a its.toArray from p1) (show s.heap.IsTuple c aE.toArray from p2) s!"" (key its aE r1 r2);rw[jk_,jk_,<-l1,<-l2,RK]at this;exact this _ _ _ _ fin
end L2
namespace GW
def Ul (hL:0<L) (hx:isW L xs=true)(hy:isW L ys=true)(h:place L xs<=place L ys):xs.length<=ys.length:=by
 obtain⟨a1,a2⟩:=Fc hL hx;obtain⟨b1,b2⟩:=Fc hL hy;refine j5_ fun ay=>?_;have:=RU hL (show ys.length+1<=xs.length from ay);lia
end GW
namespace L2
open PySem GW
noncomputable def mkW (af:α2)(r:Int):Int:=af.getD r.toNat 0
def Yw (h0:0<=r)(h1:r<af.length):mkW af r∈af:=by
 have ay:r.toNat<af.length:=by lia
 unfold mkW;rw[jp_,je_ ay];exact jZ_ ay
def NN (h0:0<=r)(h1:r<af.length):atI (af.map V.int) r=some (V.int (mkW af r)):=by
 have ay:r.toNat<af.length:=by lia
 refine Cw h0 ?_;unfold mkW;rw[jp_,je_ ay];rfl
end L2
namespace L2
open PySem PySem.Spec PyProof.Rows
def Vals.ofIx:∀{xs:List V} {us:List Value},us.length=xs.length->(∀(i:Nat) (v:Value),us[i]?=some v->∃x,xs[i]?=some x/\RelV x v)->Vals xs us
 |[],[],_,_=>.nil
 |[],_::_,h,_=>by simp at h
 |_::_,[],h,_=>by simp at h
 |x::xs,u::us,h,k=>by
  refine .cons ?_ (Vals.ofIx (by simpa using h) fun i v hv=>?_)
  ·obtain⟨y,e,r⟩:=k 0 u rfl;cases e;exact r
  ·obtain⟨y,e,r⟩:=k (i+1) v (by simpa using hv);exact⟨y,by simpa using e,r⟩
end L2
namespace L2
theorem r_in {K:α3} : rIn K hJ x y H Q=∃p xs,y=.ref p/\(SqL K H p xs\/SqT K H p xs)/\E3 x=true/\xs.all E3=true/\Q (.bl (if hJ then !inV x xs else inV x xs)) H:=rfl
def PH (g:Int)(ns:α2):inV (.int g) (ns.map V.int)=decide (g∈ns):=by
 unfold inV;rw[List.any_map,qr_,qS_,jU_];constructor
 ·rintro⟨n,hn,e⟩;have e:decide (n=g)=true:=by simpa [eqV] using e
  rw[<-qW_ e];exact hn
 ·exact fun h=>⟨g,h,by simp[eqV]⟩
end L2
namespace GW
noncomputable def cnt (keys:α2)(j:Nat):Nat:=((om j).filter fun r:Nat=>decide ((r:Int)∈keys)).length
end GW
namespace L2
open PySem PySem.Spec PyProof.Rows
noncomputable def Itm (K:α3)(a:Addr)(xs:List V):It:=⟨fun i H=>i<xs.length/\SqL K H a xs,fun i H x H'=>∃t v,H t=none/\xs[i]?=some v/\x=.ref t/\H'=upd H t (.tup [.int i,v]),fun i H=>i=xs.length/\SqL K H a xs⟩
def Qz {P:Program}{w:World}{K:α3}{elts:List Expr}{x1}{fX:Pos}(a e it:Addr)(aZ:e≠it)(js:a≠it)(hae:a≠e)(xs:List V):Turn P w K (.Tuple elts x1 fX) (Itm K a xs) [e,it] e (fun i h=>∃old,IsEnum h e it (i:Nat) old/\h.IsListIter it a i) where
 mem:=by simp
 obj:=fun i h st b hb=>by
  obtain⟨old,h1,o,h2,c,d⟩:=st;rcases jr_.mp hb with rfl|hb
  ·exact⟨_,h1,fun v z=>by cases z⟩
  ·rw[jd_.mp hb];exact⟨o,h2,fun v z=>by rw[d]at z;cases z⟩
 keep:=fun i h h' st k=>by
  obtain⟨old,h1,h2⟩:=st;exact⟨old,k e (by simp) _ h1,h2.at fun o q=>k it (by simp) o q⟩
 item:=by
  intro X hP hw hK hc i ae s σ H E I hf st hg;subst hP hw hK;obtain⟨hi,hq⟩:=hg;obtain⟨old,he,aK⟩:=st;obtain⟨its,rv,p,hz⟩:=I.list hq;have hl:=rv.length;have pt:s.heap.IsList a its.toArray:=p.isList;have f1:=hf e (by simp);have f2:=hf it (by simp);have Dw:=Draws.list (prog:=X.prog) (w:=X.w) (A:=X.A.in1) (I.ok.hd hc) it a js its.toArray;refine wpAny_pyNext_enum_itemD Dw he ⟨aK,pt⟩ (by simp;lia) aZ (by simp[aZ,qm_ hae]) fun u h' tk hu gE hst' hget hsz hk=>?_;have hT:s.heap.objs.size≠e:=qF_ (ju_ he);refine⟨_,rfl,wpAny_letOwnedTupleGo_enum gE fun h2 lB eZ=>?_⟩;have lu:∀b o,b≠e->b≠it->s.heap.get? b=some o->h2.get? b=some o:=fun b o h1 h3 q=>(eZ.2 b h1).trans (hk b o h1 h3 q);obtain⟨un,hok⟩:=I.un2 lu f1 f2;have hn:H s.heap.objs.size=none:=I.hok.fresh (jh_ _);have hv:xs[i]?=some xs[i]:=by simp[hi]
  obtain⟨u',jt,ru⟩:=rv.get hv;have eu:u'=u:=by
   have ff:its[i]?=some u:=by simpa using hu
   rw[jt]at ff;exact jB_ ff
  subst eu;have hget2:h2.get? s.heap.objs.size=some {cls:=.type "tuple",data:=.seq #[.int i tk,u']}:=(eZ.2 _ hT).trans hget;have new:A6 X.prog X.w (upd H s.heap.objs.size (.tup [.int i,xs[i]])) h2 s.heap.objs.size (.tup [.int i,xs[i]]):=⟨by have:=Ak;simp;lia,[.int i tk,u'],.cons ⟨tk,rfl⟩ (.cons ru .nil),_,hget2,rfl,_,rfl⟩;refine⟨.ref s.heap.objs.size,upd H s.heap.objs.size (.tup [.int i,xs[i]]),I.call' (s':={s with heap:=h2,toks:=tk+1}) (ch:=[e,it]) rfl (un.track (jh_ _) hn) (hok.track hn new) I.bare (fun b hb=>?_),rfl,⟨_,_,hn,hv,rfl,rfl⟩,?_,fun b hb=>?_⟩
  ·exact (hf b hb).ch
  ·refine⟨u',by simpa using lB,?_⟩;exact hst'.1.at fun o q=>(eZ.2 it (qm_ aZ)).trans q
  ·have fZ:=hf b hb;have:∃o,s.heap.get? b=some o:=by
    rcases jr_.mp hb with rfl|hb
    ·exact⟨_,he⟩
    ·rw[jd_.mp hb];obtain⟨o,ho,_⟩:=aK;exact⟨o,ho⟩
   obtain⟨o,ho⟩:=this;rw[Ah (jQ_ (ju_ ho))];exact fZ.1
 done:=by
  intro X hP hw hK hc i ae s σ H E I hf st hg;subst hP hw hK;obtain⟨hi,hq⟩:=hg;subst hi;obtain⟨old,he,aK⟩:=st;obtain⟨its,rv,p,hz⟩:=I.list hq;have hl:=rv.length;have pt:s.heap.IsList a its.toArray:=p.isList;have Dw:=Draws.list (prog:=X.prog) (w:=X.w) (A:=X.A.in1) (I.ok.hd hc) it a js its.toArray;obtain⟨f0,f1,f2,f3,f4,f5⟩:=hf it (by simp);refine wpAny_pyNext_enum_endD Dw he ⟨by rw[jk_,<-hl];exact aK,pt⟩ fun h' eb=>⟨rfl,I.turned (t':=s.toks) (fun b o hb e=>eb b o hb e) f0 f1 f3 f4 f5⟩
 self:=fun A i s Q E st h=>by
  obtain⟨old,he,_⟩:=st;exact wpAny_pyIter_enum he h
noncomputable def VH (K:α3)(tl:TE):TI:=fun σ H R=>tl σ H fun x H1=>∃a xs,x=.ref a/\SqL K H1 a xs/\R (Itm K a xs) H1
theorem PJ {K:α3} : VH K te σ H Z=te σ H fun x H1=>∃a xs,x=.ref a/\SqL K H1 a xs/\Z (Itm K a xs) H1:=rfl
def PL {x1} (hg:Gl X "enumerate")(hm:X.mg "enumerate"=none)(he:PE X e te)(hs:starEach [e] X.env=[(false,eval e X.env)]:=by rfl):PI X (.Tuple elts x1 fX) (.Call (.Name "enumerate" p) [e] [] pos) (VH X.K te):=by
 intro ae s σ H R I h;refine Call_ (Js I hg hm boot_enumerate (qk_ (thn (Aa he Ad hs pos ae s σ H (fun vs H1=>∃a xs,vs=[.ref a]/\SqL X.K H1 a xs/\R (Itm X.K a xs) H1) I ?_) fun us s1 ⟨vs,H1,I1,r1,q1⟩=>?_) hs rfl))
 ·show te σ H _;have:(fun x H1=>∃a xs,x=V.ref a/\SqL X.K H1 a xs/\R (Itm X.K a xs) H1)=(fun x H1=>tNil σ H1 fun xs H2=>∃a ys,x::xs=[V.ref a]/\SqL X.K H2 a ys/\R (Itm X.K a ys) H2):=by
   funext x H1
   simp[tNil]
  rw[<-this];exact h
 ·obtain⟨a,xs,rfl,hq,q⟩:=q1;cases r1 with
  |cons r rr=>
   cases rr;cases r;obtain⟨its,rv,p,hz⟩:=I1.list hq;have pt:s1.heap.IsList a its.toArray:=p.isList;obtain⟨oa,hoa,_⟩:=id pt;have ha:=ju_ hoa;refine call_enumerate_list pt fun h' b9 dM hsz hk=>?_;refine wpAny_pyIter_enum (s:={s1 with heap:=h' }) b9 ?_;have I2:Inv X ae σ H1 {s1 with heap:=h' }:=I1.kept (t':=s1.toks) hk;refine⟨s1.heap.objs.size+1,[s1.heap.objs.size+1,s1.heap.objs.size],_,_,H1,rfl,I2,Qz a (s1.heap.objs.size+1) s1.heap.objs.size (Nat.succ_ne_self _) (jQ_ ha) (jQ_ (x8_ ha)) xs,⟨_,b9,dM⟩,fun b hb=>?_,q⟩;have bg:s1.heap.objs.size<=b:=by
    rcases jr_.mp hb with rfl|hb
    ·lia
    ·rw[jd_.mp hb];exact jh_ _
   exact I1.fpOk bg (I1.hok.fresh bg)
def forM {K:α3} (Pv:Nat->St->Hp->Prop)(h0:Pv 0 σ H)(hl:∀i σ H,i<=xs.length->Pv i σ H->SqL K H a xs)
  (hs:∀i v σ H t,xs[i]?=some v->Pv i σ H->H t=none->g (.ref t) σ (upd H t (.tup [.int i,v])) fun aq H2=>tb {D with nx:=Pv (i+1),ct:=Pv (i+1),bk:=D.nx} aq H2) (hd:∀σ H,Pv xs.length σ H->D.nx σ H):ForW (Itm K a xs) g tb D σ H:=by
 refine⟨fun i m σ H=>m=xs.length-i/\i<=xs.length/\Pv i σ H,⟨xs.length,by simp,j9_ _,h0⟩,?_⟩;rintro i m σ H ⟨rfl,hi,p⟩;by_cases ay:i<xs.length
 ·refine .inr ⟨⟨ay,hl i σ H hi p⟩,Pv (i+1),fun aj H' p'=>⟨xs.length-(i+1),by lia,rfl,ay,p'⟩,fun x H' y=>?_⟩;obtain⟨t,v,hn,hv,rfl,rfl⟩:=y;exact hs i v σ H t hv p hn
 ·have e:i=xs.length:=by lia
  subst e;exact .inl ⟨⟨rfl,hl _ σ H hi p⟩,hd σ H p⟩
theorem R7 : Vg x vs H Q=∃l xs i k y,x=.ref l/\vs=[.int i]/\H l=some (.lst xs) /\ -(2 ^ 63)<=i/\i<2 ^ 63/\seqIndex? i xs.length=some k/\xs[k]?=some y/\Q y (upd H l (.lst (xs.eraseIdx k))):=rfl
noncomputable def rng (i j:Int):α2:=(om (j-i).toNat).map fun k:Nat=>i+(k:Int)
end L2
namespace PySem
open Sem (wp)
noncomputable def Heap.DEnt (h:Heap)(d:Addr)(es:Array DictEntry)(ep:Nat):Prop:=∃o,h.get? d=some o/\o.ExactDict/\o.data=.dict es ep
section
variable {prog:Program} {w:World} {A:Around} {E:Value->Shared->Prop} {s:Shared} {d it:Addr} {es:Array DictEntry} {i ep:Nat}
def Heap.DEnt.typeIs (h:s.heap.DEnt d es ep):s.TypeIs (.ref d) "dict" := let ⟨o,ho,hc,_⟩:=h;⟨o,ho,hc.1⟩
def Heap.DEnt.at {h h':Heap}(x:h.DEnt d es ep)(e:∀o,h.get? d=some o->h'.get? d=some o):h'.DEnt d es ep:=let ⟨o,ho,r⟩:=x;⟨o,e _ ho,r⟩
def Heap.DEnt.lt_size {h:Heap}(x:h.DEnt d es ep):d<h.objs.size:=let ⟨_,ho,_⟩:=x;ju_ ho
def KH (hd:(d==sysModules)=false)(hm:s.heap.DEnt d es ep)
  (hQ:Q (.ref s.heap.objs.size) {s with heap:=s.heap.push {cls:=.type "dict_keyiterator",data:=.fields #[.ref d,.int 0 0,.int es.size 0,.int ep 0]} }):wpAny (model prog w) A (pyIter (.ref d)) Q E s:=by
 have hT:=hm.typeIs;obtain⟨o,ho,hc,hdat⟩:=id hm;refine wpAny_pyIter_slot hT F.slot_dict_iter (q3_ F.slot_dict_iter hT F.entry_dict_iter (?_:wpAny _ _ (Builtin.«dict.__iter__» _) _ _ s) (F.args_dict_iter_1 _));unfold Builtin.«dict.__iter__»;refine wpAny_bind ?_;unfold Builtin.Dict.dictSlotNone;refine wpAny_bind (wpAny_notOrdered_dict hT ?_);show wpAny _ _ (pure (Value.ref d)) _ _ s;refine jt_ ?_;show wpAny _ _ (Builtin.Dict.showsAll d >>= _) _ _ s;unfold Builtin.Dict.showsAll;rw[if_neg (fun z=>by rw[hd]at z;cases z)];refine jg_ (jt_ (jg_ (wpAny_dictEntries ho hdat (jg_ (wpAny_dictEpoch ho hdat ?_)))));refine jg_ (qv_ (jt_ ⟨_,rfl,"dict_keyiterator",_,⟨_,jw_ _ rfl,rfl⟩,qz_.lookup,?_⟩));simpa [rawInt] using hQ
def ER (aK:s.heap.IsKeyIter it d i es.size ep)(hm:s.heap.DEnt d es ep)(ay:i<es.size)
  (hQ:∀h',h'.IsKeyIter it d (i+1) es.size ep->Heap.SameBut it s.heap h'->Q (some es[i].key) {s with heap:=h' }):wpAny (model prog w) A (pyNext (.ref it)) Q E s:=by
 obtain⟨o,ho,hc,hd⟩:=id aK;obtain⟨od,cS,cq,b4⟩:=id hm;have ij:Builtin.Dict_items.ownsTuple "dict_keyiterator"=false:=by decide
 unfold pyNext;refine jg_ (zk_ (xm_ (name:=Str.ofString "__next__") aK.typeIs qz_ (q3_ qz_ aK.typeIs F.entry_dict_keyiterator_next ?_ (F.args_dict_keyiterator_next_1 _))));refine jg_ (jt_ (jg_ (jg_ ?_)))
 first|refine jg_ (qT_ aK.typeIs (jt_ (jg_ (x9_ ho hd ?_))))|refine jg_ (xg_ aK.typeIs (jt_ (jg_ (x9_ ho hd ?_))))
 simp only[ij,qC_,q7_];show wpAny _ _ (if (Value.ref d==Value.none)=true then _ else _) _ _ s;rw[if_neg (show ¬ ((Value.ref d==Value.none)=true) from fun z=>jy_ z)];refine jg_ (jt_ (jg_ (wpAny_dictEntries cS b4 ?_)));rw[if_neg (by simp)];refine jg_ (jt_ (jg_ (wpAny_dictEpoch cS b4 ?_)));rw[if_neg (by simp)];refine jt_ ?_;simp only[show ¬ ((i:Int)<0) from by lia,q7_,jC_,oX ay];refine jg_ ?_
 first|refine jg_ (qT_ aK.typeIs (jt_ (jg_ (zc_ aK.typeIs ?_))))|refine jg_ (xg_ aK.typeIs (jt_ (jg_ (zc_ aK.typeIs ?_))))
 show wpAny _ _ (setField (.ref it) 1 (rawInt ((i:Int)+1)) >>= _) _ _ s;refine jg_ (wpAny_setField ho hd (by simp) ?_);have dM:(s.heap.update it (Obj.mapFields (·.setIfInBounds 1 (rawInt ((i:Int)+1))))).IsKeyIter it d (i+1) es.size ep:=⟨_,qK_ _ ho (Obj.isFreed_of_fields (Obj.data_mapFields hd _)),(Obj.cls_mapFields ..).trans hc,by rw[Obj.data_mapFields hd];simp[rawInt]⟩;refine jg_ (q5_ (jg_ (zc_ (s:={s with heap:=s.heap.update it (Obj.mapFields (·.setIfInBounds 1 (rawInt ((i:Int)+1))))}) dM.typeIs ?_)));show wpAny _ _ (pure es[i].key) _ _ _;exact jt_ (jt_ ⟨_,rfl,jt_ (hQ _ dM (Heap.SameBut.update ..))⟩)
def Fd (hh:A.handled=none)(aK:s.heap.IsKeyIter it d i es.size ep)(hm:s.heap.DEnt d es ep)(lC:es.size<=i)
  (hQ:∀h',Heap.ExtBut it s.heap h'->Q none {s with heap:=h' }):wpAny (model prog w) A (pyNext (.ref it)) Q E s:=by
 obtain⟨o,ho,hc,hd⟩:=id aK;obtain⟨od,cS,cq,b4⟩:=id hm;have ij:Builtin.Dict_items.ownsTuple "dict_keyiterator"=false:=by decide
 unfold pyNext;refine jg_ (zk_ (xm_ (name:=Str.ofString "__next__") aK.typeIs qz_ (q3_ qz_ aK.typeIs F.entry_dict_keyiterator_next ?_ (F.args_dict_keyiterator_next_1 _))));refine jg_ (jt_ (jg_ (jg_ ?_)))
 first|refine jg_ (qT_ aK.typeIs (jt_ (jg_ (x9_ ho hd ?_))))|refine jg_ (xg_ aK.typeIs (jt_ (jg_ (x9_ ho hd ?_))))
 simp only[ij,qC_,q7_];show wpAny _ _ (if (Value.ref d==Value.none)=true then _ else _) _ _ s;rw[if_neg (show ¬ ((Value.ref d==Value.none)=true) from fun z=>jy_ z)];refine jg_ (jt_ (jg_ (wpAny_dictEntries cS b4 ?_)));rw[if_neg (by simp)];refine jg_ (jt_ (jg_ (wpAny_dictEpoch cS b4 ?_)));rw[if_neg (by simp)];refine jt_ ?_;simp only[show ¬ ((i:Int)<0) from by lia,q7_,jC_,Array.getElem?_eq_none lC];refine jg_ ?_
 first|refine jg_ (qT_ aK.typeIs (jt_ ?_))|refine jg_ (xg_ aK.typeIs (jt_ ?_))
 show wpAny _ _ (setField (.ref it) 0 .none >>= _) _ _ s;refine jg_ (wpAny_setField ho hd (by simp) ?_);show wpAny _ _ (newExc (.type "StopIteration") [] >>= _) _ _ _;refine jg_ ?_;simp only[newExc,newTuple];refine jg_ (qv_ ?_ (by size_fits));refine jg_ (m:=firstArgMember _ _) (wpAny_of_eq (a:=Value.none) (by first|rfl|(simp only[firstArgMember];rfl)) (qv_ ?_ (by size_fits)));simp only[raiseNew];refine jg_ (wpAny_handled ?_);rw[show A.in1.handled=none from hh];refine jg_ (jt_ (wpAny_throw ?_));refine jg_ (wpAny_isInstance (T := "StopIteration") (b:=true) ⟨_,jw_ _ rfl,rfl⟩ isSubtype_stop (jt_ (hQ _ (((Heap.SameBut.update ..).extBut.push _).push _))))
def Walks.dent (hh:A.handled=none)(I:Addr)(aA:d≠I):Walks prog w A I [I,d] [I] es.size (fun i v=>∃e,es[i]?=some e/\v=e.key) (fun i h=>h.IsKeyIter I d i es.size ep/\h.DEnt d es ep) where
 sub:=fun b hb=>by simp at hb;simp[hb]
 frame:=fun _ _ _ st hk=>⟨st.1.at fun o e=>hk I (by simp) o e,st.2.at fun o e=>hk d (by simp) o e⟩
 item:=fun i s Q E hi st hQ=>by
  refine ER st.1 st.2 hi fun h' dM eF=>?_;exact hQ _ h' s.toks ⟨es[i],by simp[hi],rfl⟩ ⟨dM,st.2.at fun o e=>eF.extBut d o aA e⟩ fun b o hb e=>eF.extBut b o (fun z=>hb (by simp[z])) e
 done:=fun s Q E st hQ=>Fd hh st.1 st.2 (jh_ _) fun h' b9=>hQ h' s.toks fun b o hb e=>b9 b o (fun z=>hb (by simp[z])) e
 self:=fun _ _ _ _ st hQ=>wpAny_pyIter_keyiter st.1 hQ
def Um (lo:(d==sysModules)=false):tW prog w "dict" d d es.size (fun i v=>∃e,es[i]?=some e/\v=e.key) (fun h=>h.DEnt d es ep) where
 type:=fun _ hm=>hm.typeIs
 there:=fun _ hm=>⟨hm.lt_size,hm.lt_size⟩
 keep:=fun _ _ hm hk=>hm.at fun o e=>hk d (.inl rfl) o e
 notList:=by decide
 notTuple:=by decide
 hint:=fun _ _ _ _ hm hq=>sf hm.typeIs hq
 iter:=fun _ _ hh hm=>⟨_,_,(fun _ _ hq=>KH lo hm hq),Walks.dent hh _ (jQ_ hm.lt_size),⟨⟨_,jw_ _ rfl,rfl,rfl⟩,hm.at fun o e=>jl_ _ e⟩⟩
end
end PySem
namespace L2
open PySem PySem.Spec PyProof.Rows
def IT {α β:Type}{F:α->β->Prop}:∀{l:List α} {m:List β} {i:Nat} {a:α},Paired F l m->l[i]?=some a->∃b,m[i]?=some b/\F a b
 |_,_,_,_,.nil,e=>by simp at e
 |_,_,0,_,.cons r _,e=>by simp at e;subst e;exact⟨_,rfl,r⟩
 |_,_,i+1,a,.cons _ t,e=>by
  obtain⟨b,h1,h2⟩:=IT (i:=i) (a:=a) t (by simpa using e);exact⟨b,by simpa using h1,h2⟩
def OF (ok:HOk P w H h)(e:Rd H a (.dT kvs)):
  ∃o es ep,h.get? a=some o/\o.ExactDict/\o.data=.dict es ep/\es.size=kvs.length/\(a==sysModules)=false/\kvs.length<=sizeLine /\
   ∀(i:Nat) (k:List Key) (v:V),kvs[i]?=some (k,v)->∃b en,es[i]?=some en/\en.key=.ref b/\H b=some (.tup (k.map kV)):=by
 obtain⟨z,y,xs,r,o,es,ep,h1,h2,h3,h4,h5⟩:=(show A6 P w H h a (.dT kvs) from T9 ok e);have hl:=zh_ r;have hs:es.size=kvs.length:=by rw[<-qj_,h4,jb_,hl]
 refine⟨o,es,ep,h1,h2,h3,hs,y,z,fun i k v hk=>?_⟩;obtain⟨q,hq,e1,e2,_⟩:=IT r hk;refine⟨q.2.1,entryOfKey (tupleKind (Bb P w)) q,?_,rfl,e2⟩;rw[<-qL_,h4,jj_,hq];rfl
section
variable {X:Cx} {ae:α7} {σ:St} {H:Hp} {s:Shared} {a:Addr}
def Inv.freeze (I:Inv X ae σ H s)(e:H a=some (.dT kvs))(ho:s.heap.get? a=some o):Inv X ae σ (upd H a (.frz o (.dT kvs))) s:=by
 refine Mv (h':=s.heap) (t':=s.toks) I (by rw[e];exact oq) ⟨rfl,fun _ _=>rfl⟩ ⟨o,ho⟩ ?_;obtain⟨z,y,xs,r,q⟩:=(show A6 X.prog X.w H s.heap a (.dT kvs) from I.hok a _ e);refine⟨ho,z,y,xs,Paired.mapP r fun p x hx=>⟨hx.1,?_,hx.2.2⟩,q⟩;rw[Ah (fun z=>by have h1:=hx.2.1;rw[z,e]at h1;cases h1)];exact hx.2.1
end
noncomputable def Itd (o:Obj)(a:Addr)(kvs:List (List Key×V)):It:=⟨fun i H=>i<kvs.length/\H a=some (.frz o (.dT kvs)),fun i H x H'=>H'=H/\∃b k v,kvs[i]?=some (k,v)/\x=.ref b/\H b=some (.tup (k.map kV)),fun i H=>kvs.length<=i/\H a=some (.frz o (.dT kvs))⟩
def QA {P:Program}{w:World}{K:α3}{tg:Expr}{o:Obj}{a it:Addr}{kvs:List (List Key×V)}{es:Array DictEntry}{ep:Nat}(js:a≠it)(hc:o.ExactDict)(hd:o.data=.dict es ep)(hs:es.size=kvs.length):
  Turn P w K tg (Itd o a kvs) [it] it (fun i h=>h.IsKeyIter it a i es.size ep) where
 mem:=by simp
 obj:=fun i h st b hb=>by
  have e:b=it:=by simpa using hb
  subst e;obtain⟨o,e,c,d⟩:=st;exact⟨o,e,fun v z=>by rw[d]at z;cases z⟩
 keep:=fun i h h' st k=>st.at fun o e=>k it (by simp) o e
 item:=by
  intro X hP hw hK hcm i ae s σ H E I hf st hg;subst hP hw hK;obtain⟨hi,hq⟩:=hg;obtain⟨lD,_⟩:=(show A6 X.prog X.w H s.heap a (.frz o (.dT kvs)) from I.hok a _ hq);obtain⟨o',cR,k9,g1,g2,g3,g4,g5,g6,g7⟩:=OF I.hok (.inr ⟨o,hq⟩);rw[lD]at g1;cases g1;rw[hd]at g3;cases g3;obtain⟨kv,cD⟩:∃kv,kvs[i]?=some kv:=⟨kvs[i],by simp[hi]⟩;obtain⟨k,v⟩:=kv;obtain⟨b,en,e1,e2,e3⟩:=g7 i k v cD;obtain⟨f0,f1,f2,f3,f4,f5⟩:=hf it (by simp);have ay:i<es.size:=by lia
  have ee:es[i]=en:=by rw[oX ay]at e1;exact jB_ e1
  refine ER st ⟨o,lD,hc,hd⟩ ay fun h' cu sb=>?_;have I1:Inv X ae σ H {s with heap:=h' }:=I.turned (t':=s.toks) (fun b o hb e=>(sb.2 b hb).trans e) f0 f1 f3 f4 f5;obtain⟨io,e,c,d⟩:=id cu;exact⟨_,rfl,Qn (s:={s with heap:=h' }) e c d (by decide) ⟨.ref b,H,I1,(by rw[ee,e2];rfl),⟨rfl,b,k,v,cD,rfl,e3⟩,cu,fun b hb=>(hf b hb).1⟩⟩
 done:=by
  intro X hP hw hK hcm i ae s σ H E I hf st hg;subst hP hw hK;obtain⟨hi,hq⟩:=hg;obtain⟨lD,_⟩:=(show A6 X.prog X.w H s.heap a (.frz o (.dT kvs)) from I.hok a _ hq);obtain⟨f0,f1,f2,f3,f4,f5⟩:=hf it (by simp);exact Fd (I.ok.hd hcm) st ⟨o,lD,hc,hd⟩ s!"" fun h' eb=>⟨rfl,I.turned (t':=s.toks) (fun b o hb e=>eb b o hb e) f0 f1 f3 f4 f5⟩
 self:=fun _ _ _ _ _ st h=>wpAny_pyIter_keyiter st h
noncomputable def VI (td:TE):TI:=fun σ H R=>td σ H fun x H1=>∃a kvs,x=.ref a/\H1 a=some (.dT kvs)/\∀o,R (Itd o a kvs) (upd H1 a (.frz o (.dT kvs)))
theorem PM : VI te σ H Z=te σ H fun x H1=>∃a kvs,x=.ref a/\H1 a=some (.dT kvs)/\∀o,Z (Itd o a kvs) (upd H1 a (.frz o (.dT kvs))):=rfl
def PN (hl:PE X l tl):PI X tg l (VI tl):=by
 intro ae s σ H R I h;refine thn (hl ae s σ H _ I h) fun v s1 ⟨x,H1,I1,r1,q1⟩=>?_;obtain⟨a,kvs,e,hq,q⟩:=q1;subst e;cases r1;obtain⟨o,es,ep,g1,g2,g3,g4,g5,g6,g7⟩:=OF I1.hok (.inl hq);have I2:=I1.freeze hq g1;refine KH g5 ⟨o,g1,g2,g3⟩ ?_;refine⟨s1.heap.objs.size,[s1.heap.objs.size],_,_,_,rfl,I2.kept (t':=s1.toks) fun b o e=>jl_ _ e,QA (o:=o) (kvs:=kvs) (jQ_ (ju_ g1)) g2 g3 g4,⟨_,jw_ _ rfl,rfl,rfl⟩,fun b hb=>?_,q o⟩;have e:b=s1.heap.objs.size:=by simpa using hb
 subst e;exact I2.fpOk (jh_ _) (I2.hok.fresh (jh_ _))
def forD (Pv:Nat->St->Hp->Prop)(h0:Pv 0 σ H)(hl:∀i σ H,i<=kvs.length->Pv i σ H->H a=some (.frz o (.dT kvs)))
  (hs:∀i k v b σ H,kvs[i]?=some (k,v)->Pv i σ H->H b=some (.tup (k.map kV))->g (.ref b) σ H fun aq H2=>tb {D with nx:=Pv (i+1),ct:=Pv (i+1),bk:=D.nx} aq H2) (hd:∀σ H,Pv kvs.length σ H->D.nx σ H):ForW (Itd o a kvs) g tb D σ H:=by
 refine⟨fun i m σ H=>m+i=kvs.length/\Pv i σ H,⟨kvs.length,by lia,h0⟩,fun i m σ H ⟨hm,hp⟩=>?_⟩;have hq:=hl i σ H s!"" hp;by_cases hi:i<kvs.length
 ·refine .inr ⟨⟨hi,hq⟩,Pv (i+1),fun aj H' h=>⟨m-1,by lia,by lia,h⟩,fun x H' hy=>?_⟩;obtain⟨rfl,b,k,v,hk,rfl,hb⟩:=hy;exact hs i k v b σ _ hk hp hb
 ·have e:i=kvs.length:=by lia
  subst e;exact .inl ⟨⟨jh_ _,hq⟩,hd σ H hp⟩
def Dd (hc:X.calm=true):DA X (.type "list") (fun xs H Q=>∃p kvs,xs=[.ref p]/\Rd H p (.dT kvs)/\∀l rs,H l=none->rs.length=kvs.length ->
  (∀(i:Nat) (k:List Key) (v:V),kvs[i]?=some (k,v)->∃b,rs[i]?=some (V.ref b)/\H b=some (.tup (k.map kV)))->Q (.ref l) (upd H l (.lst rs))):=by
 intro ae s σ H xs us Q I r h;obtain⟨p,kvs,rfl,hp,q⟩:=h;obtain⟨u,rfl,rx⟩:=vals1 r;cases rx;obtain⟨o,es,ep,g1,g2,g3,g4,g5,g6,g7⟩:=OF I.hok hp;refine tN (Um (es:=es) (ep:=ep) g5) (I.ok.hd hc) ⟨o,g1,g2,g3⟩ s!"" fun h' tk c6 c' hk hD b8=>?_
 let f:DictEntry->V:=fun e=>match e.key with | .ref b=>V.ref b|_=>.non
 have ka:∀(i:Nat) (k:List Key) (v:V),kvs[i]?=some (k,v)->∃b,(es.toList.map f)[i]?=some (V.ref b)/\H b=some (.tup (k.map kV)):=fun i k v cD=>by
  obtain⟨b,en,e1,e2,e3⟩:=g7 i k v cD;refine⟨b,?_,e3⟩;rw[jj_,qL_,e1];show some (f en)=_;simp only[f,e2]
 have av:(es.toList.map f).length=kvs.length:=by rw[jb_,qj_,g4]
 have hv:Vals (es.toList.map f) c6.toList:=by
  refine Vals.ofIx (by rw[av,<-g4];simpa using b8.1) fun i v hv=>?_;obtain⟨e,he,rfl⟩:=b8.2 i v (by simpa using hv);have hi:i<kvs.length:=by rw[<-g4];exact (Array.getElem?_eq_some_iff.mp he).1
  obtain⟨b,en,e1,e2,e3⟩:=g7 i kvs[i].1 kvs[i].2 (by simp[hi]);rw[he]at e1;cases e1;refine⟨V.ref b,?_,by rw[e2];rfl⟩;rw[jj_,qL_,he];show some (f e)=_;simp only[f,e2]
 exact⟨.ref _,_,I.laid (t':=tk) hk (jh_ _) (show A6 X.prog X.w _ h' _ (.lst (es.toList.map f)) from ⟨by rw[av];exact g6,c6.toList,c',hv,by simpa using hD⟩),rfl,q _ _ (I.hok.fresh (jh_ _)) av ka⟩
noncomputable def OG (tk tv:TE):TE:=fun σ H Q=>∀p,H p=none->tk σ (upd H p (.dT [])) fun x H1=>tv σ H1 fun y H2=>H2 p=some (.dT [])/\∃b k,x=.ref b/\H2 b=some (.tup (k.map kV))/\Q (.ref p) (upd H2 p (.dT [(k,y)]))
theorem PQ : OG tk tv σ H Q=∀p,H p=none->tk σ (upd H p (.dT [])) fun x H1=>tv σ H1 fun y H2=>H2 p=some (.dT [])/\∃b k,x=.ref b/\H2 b=some (.tup (k.map kV))/\Q (.ref p) (upd H2 p (.dT [(k,y)])):=rfl
def R8 (hu:X.A.units+1<cLine)(hk:PE X k tk)(hv:PE X v tv):PE X (.Dict [some k] [v] pos) (OG tk tv):=by
 intro ae s σ H Q I q;have hn:=I.hok.fresh (jh_ s.heap.objs.size);have I1:=I.laid (a:=s.heap.objs.size) (o:=.dT []) (h':=s.heap.push {cls:=.type "dict",data:=.dict #[]}) (t':=s.toks) (fun _ _ q=>jl_ _ q) (jh_ _) (Pm s.heap I.big);refine wpAny_Dict_any rfl rfl (by intro z;cases z) (by show 1<=15;decide) (pairTrees_cons_walk (thn (hk ae _ σ _ _ I1 (q _ hn)) fun u s1 ⟨x,H1,J1,rx,q1⟩=>thn (hv ae s1 σ H1 _ J1 q1) fun w2 s2 ⟨y,H2,J2,ry,q2⟩=>pairTrees_nil_walk ?_));obtain⟨e,b,ks,rfl,hb,q3⟩:=q2;obtain rfl:u=Value.ref b:=rx;obtain⟨z,hd,xs,bF,dd⟩:=XW J2.hok e;cases bF;unfold storeAll;rw[pL];refine jg_ (jg_ (wpAny_dictSet_heap (hsz:=by simp) (show (tupleKind (Bb X.prog X.w)).room X.A from (show X.A.units<cLine by lia)) (KC J2.hok hb) dd fun h' jo hs=>jt_ ?_));show wpAny _ _ (forIn [] PUnit.unit _) _ _ _;rw[List.forIn_nil];refine jt_ ⟨.ref s.heap.objs.size,_,?_,rfl,q3⟩;obtain⟨qo,es,ep,hq,h2,h3,h4,_,h5⟩:=jo;have hl:([(ks,y)]:List (List Key×V)).length<=sizeLine:=by rw[sizeLine_eq];simp
 refine Mv J2 (by rw[e];exact oq) hs ⟨qo,hq⟩ ⟨hl,hd,_,KT.keeps (.cons ⟨rfl,hb,ry⟩ .nil) fun c ys ec=>?_,qo,es,ep,hq,h2,h3,h4,h5⟩;rw[Ah (XB ec e (fun z=>nomatch z))];exact ec
def PR {X:Cx}{i:Nat}{x:Str}{k v:Expr}{tk tv:TE}{pos bx dpos:Pos}(hu:X.A.units+1<cLine)(hN:X.N.Nodup)(hi:X.N[i]?=some x)(hx:Loc X.env.scope x)(hk:PE X k tk)(hv:PE X v tv)(hs:swapsWith (.Dict [some k] [v] dpos) (some (.Name x bx)) pos.line X.env=pure false)
  (hf:X.fn x=true\/X.env.scope.names.lookup x=some .local):PS X (.Assign [.Name x bx] (.Dict [some k] [v] dpos) pos) (tAsg (OG tk tv) (IK i)):=C7 hN hi hx (R8 hu hk hv) hs hf
end L2
namespace GB
open GW
variable {α:Type} [DecidableEq α]
noncomputable def E4 (step:α->Int->α)(a:α)(ws:α2):α:=ws.foldl step a
def LY (step:α->Int->α)(a:α)(ws:α2)(x:Int):E4 step a (ws++[x])=step (E4 step a ws) x:=by
 unfold E4;rw[qg_];rfl
def QB (step:α->Int->α)(a:α)(ws:α2)(x:Int):E4 step a (x::ws)=E4 step (step a x) ws:=rfl
noncomputable def put (step:α->Int->α)(r:α)(w:α2)(ents:List (α×α2))(x:Nat):List (α×α2):=if step r x∈ents.map (·.1) then ents else ents++[(step r x,w++[(x:Int)])]
noncomputable def addF (step:α->Int->α)(r:α)(w:α2):Nat->Nat->List (α×α2)->List (α×α2)
 |0,_,ents=>ents
 |m+1,x,ents=>addF step r w m (x+1) (put step r w ents x)
noncomputable def bfsF (step:α->Int->α)(m:Nat):Nat->List (α×α2)->Nat->List (α×α2)
 |0,ents,_=>ents
 |f+1,ents,i=>match ents[i]? with
  |none=>ents
  |some e=>bfsF step m f (addF step e.1 e.2 m 0 ents) (i+1)
def R9 {step:α->Int->α}{m:Nat}{ents:List (α×α2)}{i:Nat}(h:ents[i]?=none):∀f,bfsF step m f ents i=ents
 |0=>rfl
 |f+1=>by rw[bfsF,h]
def Sa {step:α->Int->α} {ents:List (α×α2)} (h:ents[i]?=some e)(f:Nat):bfsF step m (f+1) ents i=bfsF step m f (addF step e.1 e.2 m 0 ents) (i+1):=by rw[bfsF,h]
def Sb (step:α->Int->α)(r:α)(w:α2)(x:Nat)(ents:List (α×α2)):addF step r w 0 x ents=ents:=rfl
def Sd (step:α->Int->α)(r:α)(w:α2)(m x:Nat)(ents:List (α×α2)):addF step r w (m+1) x ents=addF step r w m (x+1) (put step r w ents x):=rfl
structure B (L:Int)(step:α->Int->α)(st:α)(ok:α->Prop)(ents:List (α×α2))(i:Nat)(top:Int):Prop where
 hd:ents[0]?=some (st,[])
 il:i<=ents.length
 sh:∀(j:Nat) (e:α×α2),ents[j]?=some e->e.2.length<=j
 nod:(ents.map (·.1)).Nodup
 rng:∀e∈ents,ok e.1
 wd:∀e∈ents,isW L e.2=true/\E4 step st e.2=e.1
 inc:∀(j k:Nat) (a b:α×α2),j<k->ents[j]?=some a->ents[k]?=some b->place L a.2<place L b.2
 bnd:∀e∈ents,place L e.2<top
 don:∀j,j<i->∀e,ents[j]?=some e->∀x:Int,0<=x->x<L->∃e'∈ents,e'.1=step e.1 x/\place L e'.2<=place L (e.2++[x])
variable {L:Int} {step:α->Int->α} {st:α} {ok:α->Prop} {ents:List (α×α2)} {i:Nat} {top:Int}
def B.start (L:Int)(step:α->Int->α){st:α} (h:ok st):B L step st ok [(st,[])] 0 1:=by
 refine⟨rfl,by simp,(fun j e he=>by cases j with|zero=>(simp at he;subst he;simp)|succ j=>simp at he),by simp,fun e he=>?_,fun e he=>?_,fun j k a b h h1 h2=>?_,fun e he=>?_,fun j hj=>absurd hj (qX_ _)⟩
 ·simp at he;subst he;exact h
 ·simp at he;subst he;exact⟨rfl,rfl⟩
 ·have:=(ja_.mp h2).1;simp at this;lia
 ·simp at he;subst he;simp[place,Bf]
def B.up (h:B L step st ok ents i top)(ht:top<=top'):B L step st ok ents i top' :=
 ⟨h.hd,h.il,h.sh,h.nod,h.rng,h.wd,h.inc,fun e he=>Int.lt_of_lt_of_le (h.bnd e he) ht,h.don⟩
def B.add (h:B L step st ok ents i top) (hw:(r,w)∈ents)(hx:0<=x/\x<L)(ht:top<=place L w*L+x+1)
  (mL:ok (step r x)) (bc:step r x∉ents.map (·.1)):B L step st ok (ents++[(step r x,w++[x])]) i (place L w*L+x+2):=by
 obtain⟨v1,v2⟩:=h.wd _ hw;have hp:=D4 L w x;have av:0<ents.length:=by have:=(ja_.mp h.hd).1;lia
 refine⟨?_,by have:=h.il;simp;lia,fun j e he=>?_,?_,fun e he=>?_,fun e he=>?_,fun j k a b ik h1 h2=>?_,fun e he=>?_,fun j hj e he y kb ke=>?_⟩
 ·rw[ji_ av];exact h.hd
 ·have hj:=(ja_.mp he).1;rw[jf_,jo_]at hj;by_cases eG:j<ents.length
  ·rw[ji_ eG]at he;exact h.sh j e he
  ·have e1:j=ents.length:=by lia
   subst e1;rw[jv_ (jh_ _),j7_]at he;simp at he;subst he;obtain⟨j',dw,ej⟩:=jL_ hw;have:=h.sh j' (r,w) (by rw[je_ dw,ej]);have this':w.length<=j':=this;show (w++[x]).length<=ents.length;simp;lia
 ·rw[jz_,qI_];refine⟨h.nod,by simp,fun a ha b hb=>?_⟩;simp at hb;subst hb;exact fun z=>bc (z ▸ ha)
 ·rcases jx_.mp he with he|he
  ·exact h.rng e he
  ·rw[jd_.mp he];exact mL
 ·rcases jx_.mp he with he|he
  ·exact h.wd e he
  ·rw[jd_.mp he];refine⟨?_,?_⟩
   ·rw[Am]at v1 ⊢;intro z hz;rcases jx_.mp hz with hz|hz
    ·exact v1 z hz
    ·rw[jd_.mp hz];exact hx
   ·show E4 step st (w++[x])=step r x;rw[LY];have v2':E4 step st w=r:=v2;rw[v2']
 ·have hk:=(ja_.mp h2).1;rw[jf_,jo_]at hk;by_cases hkl:k<ents.length
  ·rw[ji_ hkl]at h2;rw[ji_ s!""]at h1;exact h.inc j k a b ik h1 h2
  ·have hke:k=ents.length:=by lia
   subst hke;rw[ji_ s!""]at h1;rw[jv_ (jh_ _),j7_]at h2;simp at h2;subst h2;have:=h.bnd a (jc_ h1);show place L a.2<place L (w++[x]);rw[hp];lia
 ·rcases jx_.mp he with he|he
  ·have:=h.bnd e he;lia
  ·rw[jd_.mp he];show place L (w++[x])<_;rw[hp];lia
 ·have eG:j<ents.length\/j=ents.length:=by
   have:=(ja_.mp he).1;rw[jf_,jo_]at this;lia
  rcases eG with eG|eG
  ·rw[ji_ eG]at he;obtain⟨e',m,q⟩:=h.don j hj e he y kb ke;exact⟨e',jF_ _ m,q⟩
  ·exact absurd eG (by have:=h.il;lia)
noncomputable def Se (L:Int)(step:α->Int->α)(ents:List (α×α2))(r:α)(w:α2)(x:Nat):Prop:=∀y:Int,0<=y->y<x->∃e'∈ents,e'.1=step r y/\place L e'.2<=place L (w++[y])
def B.letter {x:Nat}{w:α2}{r:α}(h:B L step st ok ents i (place L w*L+x+1))(hs:Se L step ents r w x)(hw:(r,w)∈ents)(hx:(x:Int)<L)
  (mL:ok (step r x)):B L step st ok (put step r w ents x) i (place L w*L+((x+1:Nat):Int)+1)/\Se L step (put step r w ents x) r w (x+1):=by
 unfold put;by_cases hm:step r x∈ents.map (·.1)
 ·rw[if_pos hm];refine⟨h.up (by push_cast;lia),fun y kb ke=>?_⟩;by_cases mM:y<x
  ·exact hs y kb mM
  ·have e:y=x:=by push_cast at ke;lia
   subst e;obtain⟨e',b9,e1⟩:=jq_.mp hm;refine⟨e',b9,e1,?_⟩;have:=h.bnd e' b9;rw[D4];lia
 ·rw[if_neg hm];refine⟨(h.add hw ⟨by lia,hx⟩ (qB_ _) mL hm).up (by push_cast;lia),fun y kb ke=>?_⟩;by_cases mM:y<x
  ·obtain⟨e',m,q⟩:=hs y kb mM;exact⟨e',jF_ _ m,q⟩
  ·have e:y=x:=by push_cast at ke;lia
   subst e;exact⟨_,j2_ _ js_,rfl,qB_ _⟩
def B.next (hL:0<L){m:Nat}{w:α2}{r:α}(h:B L step st ok ents i (place L w*L+m+1))(hm:(m:Int)=L)(hs:Se L step ents r w m)(hw:ents[i]?=some (r,w)):
  B L step st ok ents (i+1) (place L w*L+L+1)/\∀e,ents[i+1]?=some e->place L w*L+L+1<=place L e.2*L+1:=by
 have hi:=(ja_.mp hw).1;rw[hm]at h;refine⟨⟨h.hd,hi,h.sh,h.nod,h.rng,h.wd,h.inc,h.bnd,fun j hj e he x h0 h1=>?_⟩,fun e he=>?_⟩
 ·by_cases dN:j<i
  ·exact h.don j dN e he x h0 h1
  ·have e1:j=i:=by lia
   subst e1;rw[hw]at he;cases he;exact hs x h0 s!""
 ·have:=h.inc i (i+1) _ _ (q2_ _) hw he;have h2:=jV_ (show place L w+1<=place L e.2 from this) (xj_ hL);rw[pW]at h2;lia
def PU {r:α}{w:α2}{x j:Nat}{e:α×α2}(h:ents[j]?=some e):(put step r w ents x)[j]?=some e:=by
 unfold put;split
 ·exact h
 ·rw[ji_ (ja_.mp h).1];exact h
def B.least (h:B L step st ok ents ents.length top){ws:α2}(hv:isW L ws=true):∀i,i<=ws.length->∃w',(E4 step st (ws.take i),w')∈ents/\place L w'<=place L (ws.take i)
 |0,_=>⟨[],by simpa [E4] using jc_ h.hd,by simp⟩
 |i+1,hi=>by
  obtain⟨w',m,hp⟩:=B.least h hv i s!"";have aN:ws[i]?=some ws[i]:=by simp
  have bt:=Am.mp hv ws[i] (jZ_ _);obtain⟨j,hj,ej⟩:=jL_ m;obtain⟨e',me,e1,e2⟩:=h.don j hj _ (by rw[je_ hj,ej]) ws[i] bt.1 bt.2;obtain⟨g,v⟩:=e';have e1:g=step (E4 step st (ws.take i)) ws[i]:=e1;have e2:place L v<=place L (w'++[ws[i]]):=e2;have et:ws.take (i+1)=ws.take i++[ws[i]]:=by rw[jA_,aN];rfl
  have hL:0<=L:=by lia
  refine⟨v,?_,?_⟩
  ·rw[et,LY,<-e1];exact me
  ·rw[et];rw[D4]at e2 ⊢;have:=jV_ hp hL;lia
def B.leastW (h:B L step st ok ents ents.length top) (hv:isW L ws=true):∃w',(E4 step st ws,w')∈ents/\place L w'<=place L ws:=by
 have:=h.least hv ws.length (jh_ _)
 rwa [jE_]at this
noncomputable def DB (w1 w2:α1)(p:Int×Int)(x:Int):Int×Int:=(Bp w1 p.1 x,Bp w2 p.2 x)
noncomputable def okP (n m:Nat)(p:Int×Int):Prop:=(0<=p.1/\p.1<(n:Int))/\(0<=p.2/\p.2<(m:Int))
noncomputable def Ba (ag:α1)(r:Int)(ws:α2):Int:=ws.foldl (Bp ag) r
def Ge (ag:α1)(ws:α2):Ba ag 0 ws=Al ag ws:=rfl
def BE (ag:α1)(r x:Int)(ws:α2):Ba ag r (x::ws)=Ba ag (Bp ag r x) ws:=rfl
def QC (ag:α1)(r x:Int)(ws:α2):Ba ag r (ws++[x])=Bp ag (Ba ag r ws) x:=by
 unfold Ba;rw[qg_];rfl
def QD {ag:α1}{ws:α2}{i:Nat}{x r:Int}(h:ws[i]?=some x):Ba ag r (ws.take (i+1))=Bp ag (Ba ag r (ws.take i)) x:=by
 rw[jA_,h];exact QC _ _ _ _
def OH (w1 w2:α1):∀(ws:α2) (p:Int×Int),E4 (DB w1 w2) p ws=(Ba w1 p.1 ws,Ba w2 p.2 ws)
 |[],p=>rfl
 |x::ws,p=>by rw[QB,OH w1 w2 ws,BE,BE];rfl
def MG {L:Int}{af:α2}{ag:α1}(wf:Wf L af ag):∀(ws:α2) {r:Int},isW L ws=true->0<=r->r<af.length->0<=Ba ag r ws/\Ba ag r ws<af.length
 |[],r,_,h0,h1=>⟨h0,h1⟩
 |x::ws,r,hv,h0,h1=>by
  have hx:=Am.mp hv x js_;obtain⟨_,g,_,_,h,g0,g1⟩:=wf.step h0 h1 hx.1 hx.2;rw[BE,h];exact MG wf ws (Am.mpr fun y hy=>Am.mp hv y (jm_ _ hy)) g0 g1
def Uo (n m:Nat){l:List (Int×Int)}(hn:l.Nodup)(h:∀p∈l,okP n m p):l.length<=n*m:=by
 have hk:∀p∈l.map (fun p:Int×Int=>p.1*m+p.2),0<=p/\p<((n*m:Nat):Int):=fun q hq=>by
  obtain⟨p,hp,rfl⟩:=jq_.mp hq;obtain⟨⟨a0,a1⟩,b0,b1⟩:=h p hp;have h1:=zz_ a0 (show (0:Int)<=m by lia);have h2:=jV_ (show p.1<=(n:Int)-1 by lia) (show (0:Int)<=m by lia);rw[Int.sub_mul]at h2;push_cast;exact⟨by show 0<=p.1*m+p.2;lia,by show p.1*m+p.2<_;lia⟩
 have hd:(l.map (fun p:Int×Int=>p.1*m+p.2)).Nodup:=by
  refine zD_.mpr (pd (fun {a b} ha hb cZ z=>cZ ?_) hn);obtain⟨⟨a0,a1⟩,b0,b1⟩:=h a ha;obtain⟨⟨c0,c1⟩,d0,d1⟩:=h b hb;have z:a.1*m+a.2=b.1*m+b.2:=z;have e1:a.1=b.1:=by
   have q1:(a.1*m+a.2) / m=a.1:=by rw[sd,pE _ _ s!"",pF b0 b1];lia
   have q2:(b.1*m+b.2) / m=b.1:=by rw[sd,pE _ _ s!"",pF d0 d1];lia
   rw[<-q1,<-q2,z]
  rw[e1]at z;exact Prod.ext e1 s!""
 have:=Dc (n*m) hd hk;simpa using this
def B.lenP {st:Int×Int}{ents:List ((Int×Int)×α2)} (h:B L (DB w1 w2) st (okP n m) ents i top):ents.length<=n*m:=by
 have:=Uo n m h.nod (fun p hp=>by
  obtain⟨e,he,rfl⟩:=jq_.mp hp;exact h.rng e he)
 simpa using this
end GB
namespace L2
open PySem PySem.Spec PyProof.Rows GW GB
noncomputable def TK (H H':Hp):Prop:=∀b xs,H b=some (.tup xs)->H' b=some (.tup xs)
def TK.refl (H:Hp):TK H H:=fun _ _ h=>h
def TK.of (s:Same H H'):TK H H':=fun b xs h=>s b _ h
def TK.trans (a:TK H H')(b:TK H' ju):TK H ju:=fun c xs h=>b c xs (a c xs h)
def TK.new (h:H p=none):TK H (upd H p o):=TK.of (Same.new h)
def TK.lst {H:Hp}{p:Addr}{o:HO}{xs:List V}(h:H p=some (.lst xs)):TK H (upd H p o):=fun b ys e=>by rw[Ah (fun z=>by rw[z,h]at e;cases e)];exact e
def TK.dT {H:Hp}{p:Addr}{o:HO}{kvs:List (List Key×V)}(h:H p=some (.dT kvs)):TK H (upd H p o):=fun b ys e=>by rw[Ah (fun z=>by rw[z,h]at e;cases e)];exact e
noncomputable def keyP (p:Int×Int):List Key:=[oT p.1,oT p.2]
def Kg (h:keyP p=keyP q):p=q:=by
 unfold keyP at h;injection h with h1 h2;injection h2 with h2 _;injection h1 with h1;injection h2 with h2;exact Prod.ext h1 h2
noncomputable def CI (H:Hp)(ents:List ((Int×Int)×α2))(kvs:List (List Key×V)):Prop:=kvs.length=ents.length/\∀(i:Nat) (e:(Int×Int)×α2),ents[i]?=some e->∃v,kvs[i]?=some (keyP e.1,v) /\
 ((v=.non/\e.2=[]) \/ ∃(t p:Addr) (x:Int) (e':(Int×Int)×α2),v=.ref t/\H t=some (.tup [.ref p,.int x])/\H p=some (.tup [.int e'.1.1,.int e'.1.2])/\e'∈ents/\e.2=e'.2++[x])
def CI.mono {ents:List ((Int×Int)×α2)} (h:CI H ents kvs)(k:TK H H'):CI H' ents kvs:=by
 refine⟨h.1,fun i e he=>?_⟩;obtain⟨v,h1,h2⟩:=h.2 i e he;refine⟨v,h1,?_⟩;rcases h2 with h2|⟨t,p,x,e',a,b,c,d⟩
 ·exact .inl h2
 ·exact .inr ⟨t,p,x,e',a,k _ _ b,k _ _ c,d⟩
def CI.no {ents:List ((Int×Int)×α2)} (h:CI H ents kvs) (hg:g∉ents.map (·.1)):valV kvs (keyP g)=none:=by
 unfold valV;rw[q0_,qd_];intro kv cD;obtain⟨i,hi,e⟩:=jL_ cD;have mO:i<ents.length:=by rw[<-h.1];exact hi
 obtain⟨v,h1,_⟩:=h.2 i ents[i] (by simp[mO]);rw[je_ hi,e]at h1;cases h1;simp only[jU_];intro z;exact hg (jq_.mpr ⟨ents[i],jZ_ _,Kg z⟩)
def Sf {κ:Type}[DecidableEq κ]{kvs:List (κ×V)}{i:Nat}{k:κ}{v:V}(hn:(kvs.map (·.1)).Nodup)(h:kvs[i]?=some (k,v)):valV kvs k=some v:=by
 induction kvs generalizing i with
 |nil=>simp at h
 |cons p r ih=>
  rw[jJ_,j6_]at hn;cases i with
  |zero=>simp at h;subst h;exact Kc rfl
  |succ i=>
   have h':r[i]?=some (k,v):=by simpa using h
   rw[Kd (fun z=>hn.1 (jq_.mpr ⟨(k,v),jc_ h',z.symm⟩))];exact ih hn.2 h'
def CI.nod {ents:List ((Int×Int)×α2)} (h:CI H ents kvs)(hn:(ents.map (·.1)).Nodup):(kvs.map (·.1)).Nodup:=by
 have e:kvs.map (·.1)=(ents.map (·.1)).map keyP:=by
  refine qw_ fun i=>?_;rw[jj_,jj_,jj_];cases he:ents[i]? with
  |none=>
   rw[jT_ (by rw[h.1];exact q9_.mp he)];rfl
  |some e=>
   obtain⟨v,h1,_⟩:=h.2 i e he;rw[h1];rfl
 rw[e];exact qu (R:=(· ≠ ·)) _ (fun a b cZ z=>cZ (Kg z)) hn
def CI.yes {ents:List ((Int×Int)×α2)} (h:CI H ents kvs)(hn:(ents.map (·.1)).Nodup) (he:e∈ents):∃v,valV kvs (keyP e.1)=some v /\
  ((v=.non/\e.2=[]) \/ ∃(t p:Addr) (x:Int) (e':(Int×Int)×α2),v=.ref t/\H t=some (.tup [.ref p,.int x])/\H p=some (.tup [.int e'.1.1,.int e'.1.2])/\e'∈ents/\e.2=e'.2++[x]):=by
 obtain⟨i,hi,ei⟩:=jL_ he;obtain⟨v,h1,h2⟩:=h.2 i e (by rw[je_ hi,ei]);exact⟨v,Sf (h.nod hn) h1,h2⟩
def CI.put {ents:List ((Int×Int)×α2)} (h:CI H ents kvs) (hg:g∉ents.map (·.1)) (ht:H t=some (.tup [.ref p,.int x]))(hp:H p=some (.tup [.int e'.1.1,.int e'.1.2]))(he:e'∈ents):
  CI H (ents++[(g,e'.2++[x])]) (putK kvs (keyP g) (.ref t)):=by
 rw[Mu _ (h.no hg)];refine⟨by rw[jf_,jf_,h.1];rfl,fun i e hi=>?_⟩;by_cases bu:i<ents.length
 ·rw[ji_ bu]at hi;rw[ji_ (by rw[h.1];exact bu)];obtain⟨v,h1,h2⟩:=h.2 i e hi;refine⟨v,h1,?_⟩;rcases h2 with h2|⟨t,p,x,e',a,b,c,d,f⟩
  ·exact .inl h2
  ·exact .inr ⟨t,p,x,e',a,b,c,jF_ _ d,f⟩
 ·have:=(ja_.mp hi).1;rw[jf_,jo_]at this;have ei:i=ents.length:=by lia
  subst ei;rw[jv_ (jh_ _),j7_]at hi;simp at hi;subst hi;refine⟨.ref t,?_,.inr ⟨t,p,x,e',rfl,ht,hp,jF_ _ he,rfl⟩⟩;rw[jv_ (by rw[h.1];exact jh_ _),h.1,j7_];rfl
noncomputable def ES (H:Hp)(ps:List (Int×Int))(rs:List V):Prop:=rs.length=ps.length/\∀(i:Nat) (p:Int×Int),ps[i]?=some p->∃b,rs[i]?=some (.ref b)/\H b=some (.tup [.int p.1,.int p.2])
def ES.mono (h:ES H ps rs)(k:TK H H'):ES H' ps rs:=by
 refine⟨h.1,fun i p hp=>?_⟩;obtain⟨b,h1,h2⟩:=h.2 i p hp;exact⟨b,h1,k _ _ h2⟩
def ES.snoc (h:ES H ps rs) (hb:H b=some (.tup [.int p.1,.int p.2])):ES H (ps++[p]) (rs++[.ref b]):=by
 refine⟨by rw[jf_,jf_,h.1];rfl,fun i q hi=>?_⟩;by_cases bu:i<ps.length
 ·rw[ji_ bu]at hi;rw[ji_ (by rw[h.1];exact bu)];exact h.2 i q hi
 ·have:=(ja_.mp hi).1;rw[jf_,jo_]at this;have ei:i=ps.length:=by lia
  subst ei;rw[jv_ (jh_ _),j7_]at hi;simp at hi;subst hi;refine⟨b,?_,hb⟩;rw[jv_ (by rw[h.1];exact jh_ _),h.1,j7_];rfl
end L2
namespace L2
theorem Sg : Vi σ H Q=∀p,H p=none->Q (.ref p) (upd H p (.dT [])):=rfl
end L2
namespace GB
open GW
def MK : isW L (x::w)=true↔(0<=x/\x<L)/\isW L w=true:=by
 rw[Am,Am];simp
def PV (P:Nat->Prop):∀(r:Nat),P r->∃m,m<=r/\P m/\∀s,s<m->¬ P s:=by
 intro r
 induction r using qL with
 |_ r ih=>
  intro h;by_cases hs:∃s,s<r/\P s
  ·obtain⟨s,h1,h2⟩:=hs;obtain⟨m,a,b,c⟩:=ih s h1 h2;exact⟨m,by lia,b,c⟩
  ·exact⟨r,jh_ _,h,fun s eF hp=>hs ⟨s,eF,hp⟩⟩
def NO {α:Type}{p q:α->Bool}:∀{l:List α},(∀x∈l,p x=true->q x=true)->(l.filter p).length<=(l.filter q).length
 |[],_=>jh_ _
 |y::l,h=>by
  have ih:=NO (l:=l) fun x hx=>h x (jm_ _ hx);rw[xR_,xR_];by_cases hp:p y=true
  ·rw[if_pos hp,if_pos (h y js_ hp)];simp;lia
  ·rw[if_neg hp];split
   ·simp;lia
   ·exact ih
def KI {α:Type}{p q:α->Bool}:∀{l:List α},(∀x∈l,p x=true->q x=true)->(∃x∈l,q x=true/\¬ p x=true)->(l.filter p).length<(l.filter q).length
 |[],_,h=>by obtain⟨x,hx,_⟩:=h;simp at hx
 |y::l,h,⟨x,hx,hq,hp⟩=>by
  have hl:=NO (l:=l) fun x hx=>h x (jm_ _ hx);rw[xR_,xR_];by_cases hy:p y=true
  ·rw[if_pos hy,if_pos (h y js_ hy)];have gd:x∈l:=by
    rcases jr_.mp hx with rfl|hx
    ·exact absurd hy hp
    ·exact hx
   have:=KI (l:=l) (fun x hx=>h x (jm_ _ hx)) ⟨x,gd,hq,hp⟩;simp;lia
  ·rw[if_neg hy];by_cases mP:q y=true
   ·rw[if_pos mP];simp;lia
   ·rw[if_neg mP];have gd:x∈l:=by
     rcases jr_.mp hx with rfl|hx
     ·exact absurd hq mP
     ·exact hx
    exact KI (l:=l) (fun x hx=>h x (jm_ _ hx)) ⟨x,gd,hq,hp⟩
noncomputable def WK (R:Nat->Nat->Prop)(r:Nat):Bool := @decide (∀s,s<r->¬ R s r) (oy _)
def HK : WK R r=true ↔ ∀s,s<r->¬ R s r := @decide_eq_true_iff _ (oy _)
noncomputable def reps (N:Nat)(R:Nat->Nat->Prop):List Nat:=(om N).filter (WK R)
structure Eqv (R:Nat->Nat->Prop):Prop where
 rfl':∀r,R r r
 sym:∀r s,R r s->R s r
 tr:∀r s t,R r s->R s t->R r t
def Sh (e:Eqv R)(e':Eqv R')(hs:∀r s,R' r s->R r s) (hr:r<N)(hsN:s<N)(h1:R r s)(h2:¬ R' r s):(reps N R).length<(reps N R').length:=by
 refine KI (fun x _ hx=>?_) ?_
 ·rw[HK]at hx ⊢;exact fun s eF z=>hx s eF (hs _ _ z)
 ·obtain⟨c,hc1,cC,lE⟩:=PV (fun c=>R c r) r (e.rfl' r);have key:∃u,u<N/\R c u/\¬ R' c u:=by
   by_cases hcr:R' c r
   ·refine⟨s,hsN,e.tr _ _ _ cC h1,fun z=>h2 (e'.tr _ _ _ (e'.sym _ _ hcr) z)⟩
   ·exact⟨r,hr,cC,hcr⟩
  obtain⟨u,hu,ip,ff⟩:=key;obtain⟨v,mQ,dy,hv3⟩:=PV (fun v=>R' v u) u (e'.rfl' u);have hcv:R c v:=e.tr _ _ _ ip (e.sym _ _ (hs _ _ dy));have hvc:v≠c:=fun z=>ff (z ▸ dy);have ay:c<v:=by
   refine Nat.lt_of_le_of_ne (j5_ fun ay=>?_) (qm_ hvc);exact lE v ay (e.tr _ _ _ (e.sym _ _ hcv) cC)
  refine⟨v,qf_.mpr s!"",?_,?_⟩
  ·rw[HK];exact fun s eF z=>hv3 s eF (e'.tr _ _ _ z dy)
  ·rw[HK];exact fun z=>z c ay hcv
def WL (N:Nat)(R:Nat->Nat->Prop):(reps N R).length<=N:=by
 have:=pP (WK R) (om N);rw[qJ_]at this;exact this
noncomputable def B3 (st:Nat->Int->Nat)(r:Nat)(ws:α2):Nat:=ws.foldl st r
def DF (st:Nat->Int->Nat)(r:Nat)(v w:α2):B3 st r (v++w)=B3 st (B3 st r v) w:=qg_ ..
noncomputable def EN (L:Int)(st:Nat->Int->Nat)(mk:Nat->Int)(t r s:Nat):Prop:=∀ws,isW L ws=true->ws.length<=t->mk (B3 st r ws)=mk (B3 st s ws)
def EN.eqv (L:Int)(st:Nat->Int->Nat)(mk:Nat->Int)(t:Nat):Eqv (EN L st mk t):=⟨fun _ _ _ _=>rfl,fun _ _ h ws a b=>(h ws a b).symm,fun _ _ _ h g ws a b=>(h ws a b).trans (g ws a b)⟩
def Gf (h:isW L w=true)(j:Nat):isW L (w.take j)=true:=Am.mpr fun x hx=>Am.mp h x (List.mem_of_mem_take hx)
def PX (h:isW L w=true)(j:Nat):isW L (w.drop j)=true:=Am.mpr fun x hx=>Am.mp h x (xO_ hx)
def WM (h:isW L v=true)(g:isW L w=true):isW L (v++w)=true:=Am.mpr fun x hx=>(jx_.mp hx).elim (Am.mp h x) (Am.mp g x)
def HN {L:Int}{st:Nat->Int->Nat}{N:Nat}(aH:∀r x,r<N->0<=x->x<L->st r x<N):∀{ws:α2} {r:Nat},r<N->isW L ws=true->B3 st r ws<N
 |[],_,h,_=>h
 |x::ws,r,h,hw=>by
  have:=MK.mp hw;exact HN aH (ws:=ws) (aH r x h this.1.1 this.1.2) this.2
def Zh {st:Nat->Int->Nat}{mk:Nat->Int} (aH:∀r x,r<N->0<=x->x<L->st r x<N) (ha:a<N)(hb:b<N) (hw:isW L w=true)(ht:mk (B3 st a w)≠mk (B3 st b w))
  (fg:∀ws,isW L ws=true->mk (B3 st a ws)≠mk (B3 st b ws)->w.length<=ws.length):w.length+2<=N:=by
 have part:∀j,j<=w.length->mk (B3 st (B3 st a (w.take j)) (w.drop j))≠mk (B3 st (B3 st b (w.take j)) (w.drop j))/\∀ws,isW L ws=true->ws.length<w.length-j->mk (B3 st (B3 st a (w.take j)) ws)=mk (B3 st (B3 st b (w.take j)) ws):=fun j hj=>by
  refine⟨?_,fun ws eJ av=>?_⟩
  ·rw[<-DF,<-DF,pQ];exact ht
  ·refine qs_ fun aA=>?_;have:=fg (w.take j++ws) (WM (Gf hw j) eJ) (by rw[DF,DF];exact aA);rw[jf_,jI_,qM hj]at this;lia
 have cnt:∀t,t<=w.length->t+2<=(reps N (EN L st mk t)).length:=by
  intro t
  induction t with
  |zero=>
   intro _;obtain⟨h1,_⟩:=part w.length (jh_ _);have h0:1<=(reps N (fun _ _=>True)).length:=by
    refine qq_ (a:=0) (qA_.mpr ⟨qf_.mpr s!"",?_⟩);rw[HK];exact fun s hs=>absurd hs (qX_ _)
   have:=Sh (N:=N) (R:=fun _ _=>True) (R':=EN L st mk 0) ⟨fun _=>trivial,fun _ _ _=>trivial,fun _ _ _ _ _=>trivial⟩ (EN.eqv ..) (fun _ _ _=>trivial) (HN aH ha (Gf hw w.length)) (HN aH hb (Gf hw w.length)) trivial (fun z=>h1 (z _ (PX hw _) (by simp)));lia
  |succ t ih=>
   intro bg;have ih:=ih s!"";obtain⟨h1,h2⟩:=part (w.length-(t+1)) s!"";have:=Sh (N:=N) (R:=EN L st mk t) (R':=EN L st mk (t+1)) (EN.eqv ..) (EN.eqv ..) (fun r s h ws eJ hl=>h ws eJ s!"") (HN aH ha (Gf hw _)) (HN aH hb (Gf hw _)) (fun ws eJ hl=>h2 ws eJ s!"") (fun z=>h1 (z _ (PX hw _) (by rw[qR_];lia)));lia
 have:=cnt w.length (jh_ _);have:=WL N (EN L st mk w.length);lia
end GB
namespace L2
open PySem PySem.Spec PyProof.Rows GW
noncomputable def LLs (H0 H:Hp)(xs:List V)(ws:α1):Prop:=∃ts:List Addr,xs=ts.map V.ref/\ts.length=ws.length/\ts.Nodup/\(∀(i:Nat) (t:Addr) (w:α2),ts[i]?=some t->ws[i]?=some w->H t=some (.lst (w.map V.int)))/\∀t∈ts,H0 t=none
def LLs.nil (H0 H:Hp):LLs H0 H [] []:=⟨[],rfl,rfl,xs_,fun i t w h=>by simp at h,fun t h=>by simp at h⟩
def LLs.mono (h:LLs H0 H xs ws)(s:Same H H'):LLs H0 H' xs ws:=by
 obtain⟨ts,a,b,c,d,e⟩:=h;exact⟨ts,a,b,c,fun i t w h1 h2=>s _ _ (d i t w h1 h2),e⟩
def LLs.len (h:LLs H0 H xs ws):xs.length=ws.length:=by
 obtain⟨ts,a,b,_⟩:=h;rw[a,jb_,b]
def LLs.snoc (h:LLs H0 H xs ws)(h0:H0 p=none)(hp:H p=none):LLs H0 (upd H p (.lst (w.map V.int))) (xs++[.ref p]) (ws++[w]):=by
 obtain⟨ts,a,b,c,d,e⟩:=h;have jv:∀t∈ts,t≠p:=fun t ht z=>by
  obtain⟨i,hi,ei⟩:=jL_ ht;have:=d i t ws[i] (by rw[je_ hi,ei]) (by simp[show i<ws.length by lia]);rw[z,hp]at this;cases this
 refine⟨ts++[p],by rw[a];simp,by simp[b],?_,fun i t v h1 h2=>?_,fun t ht=>?_⟩
 ·rw[qI_];refine⟨c,by simp,fun x hx y hy=>?_⟩;simp at hy;subst hy;exact jv x hx
 ·by_cases hi:i<ts.length
  ·rw[ji_ hi]at h1;rw[ji_ s!""]at h2;rw[Ah (jv t (jc_ h1))];exact d i t v h1 h2
  ·have:=(ja_.mp h1).1;rw[jf_,jo_]at this;have ei:i=ts.length:=by lia
   subst ei;rw[jv_ (jh_ _),j7_]at h1;rw[b,jv_ (jh_ _),j7_]at h2;simp at h1 h2;subst h1 h2;exact Ab
 ·rcases jx_.mp ht with ht|ht
  ·exact e t ht
  ·rw[jd_.mp ht];exact h0
def Same.none (s:Same H H') (h:H' p=none):H p=none:=by
 cases e:H p with
 |none=>rfl
 |some u=>rw[s _ _ e]at h;cases h
end L2
namespace GB
open GW
def Yx {L:Int}{af ai:α2}{ag ak:α1}(wf:Wf L af ag)(cL:Wf L ai ak){a b:Int}(ha:0<=a/\a<af.length)(hb:0<=b/\b<ai.length){w:α2}(hw:isW L w=true)(mk kf:Int->Int)(ht:mk (Ba ag a w)≠kf (Ba ak b w))
  (fg:∀ws,isW L ws=true->mk (Ba ag a ws)≠kf (Ba ak b ws)->place L w<=place L ws):w.length+2<=af.length+ai.length:=by
 have hL:=wf.l1
 let n:=af.length
 let st:Nat->Int->Nat:=fun r x=>if r<n then (Bp ag (r:Int) x).toNat else n+(Bp ak ((r-n:Nat):Int) x).toNat
 let mR:Nat->Int:=fun r=>if r<n then mk r else kf ((r-n:Nat):Int)
 have w1:∀{ws:α2} {r:Int},isW L ws=true->0<=r->r<af.length->B3 st r.toNat ws<n/\(B3 st r.toNat ws:Int)=Ba ag r ws:=by
  intro ws
  induction ws with
  |nil=>intro r _ h0 h1;exact⟨by show r.toNat<af.length;lia,by show ((r.toNat:Nat):Int)=r;lia⟩
  |cons x ws ih=>
   intro r hv h0 h1;have hx:=MK.mp hv;obtain⟨_,g,_,_,h,g0,g1⟩:=wf.step h0 h1 hx.1.1 hx.1.2;have e:B3 st r.toNat (x::ws)=B3 st g.toNat ws:=by
    show B3 st (st r.toNat x) ws=_;have:st r.toNat x=g.toNat:=by
     show (if r.toNat<n then (Bp ag ((r.toNat:Nat):Int) x).toNat else _)=_;rw[if_pos (by show r.toNat<af.length;lia),show ((r.toNat:Nat):Int)=r by lia,h]
    rw[this]
   rw[e,BE,h];exact ih hx.2 g0 g1
 have w2:∀{ws:α2} {r:Int},isW L ws=true->0<=r->r<ai.length->n<=B3 st (n+r.toNat) ws/\((B3 st (n+r.toNat) ws-n:Nat):Int)=Ba ak r ws:=by
  intro ws
  induction ws with
  |nil=>intro r _ h0 h1;exact⟨by show n<=n+r.toNat;lia,by show ((n+r.toNat-n:Nat):Int)=r;lia⟩
  |cons x ws ih=>
   intro r hv h0 h1;have hx:=MK.mp hv;obtain⟨_,g,_,_,h,g0,g1⟩:=cL.step h0 h1 hx.1.1 hx.1.2;have e:B3 st (n+r.toNat) (x::ws)=B3 st (n+g.toNat) ws:=by
    show B3 st (st (n+r.toNat) x) ws=_;have:st (n+r.toNat) x=n+g.toNat:=by
     show (if n+r.toNat<n then _ else n+(Bp ak ((n+r.toNat-n:Nat):Int) x).toNat)=_;rw[if_neg s!"",show ((n+r.toNat-n:Nat):Int)=r by lia,h]
    rw[this]
   rw[e,BE,h];exact ih hx.2 g0 g1
 have m1:∀{ws:α2},isW L ws=true->mR (B3 st a.toNat ws)=mk (Ba ag a ws):=fun {ws} hv=>by
  obtain⟨h1,h2⟩:=w1 hv ha.1 ha.2;show (if _<n then mk _ else _)=_;rw[if_pos h1,h2]
 have m2:∀{ws:α2},isW L ws=true->mR (B3 st (n+b.toNat) ws)=kf (Ba ak b ws):=fun {ws} hv=>by
  obtain⟨h1,h2⟩:=w2 hv hb.1 hb.2;show (if _<n then _ else kf _)=_;rw[if_neg s!"",h2]
 refine Zh (st:=st) (mk:=mR) (N:=af.length+ai.length) (a:=a.toNat) (b:=n+b.toNat) (fun r x hr h0 h1=>?_) s!"" (by show af.length+b.toNat<_;lia) hw ?_ fun ws eJ h=>?_
 ·show (if r<n then (Bp ag (r:Int) x).toNat else n+(Bp ak ((r-n:Nat):Int) x).toNat)<_;by_cases iq:r<n
  ·rw[if_pos iq];obtain⟨_,g,_,_,h,g0,g1⟩:=wf.step (r:=(r:Int)) s!"" (by have:r<af.length:=iq;lia) h0 h1;rw[h];lia
  ·rw[if_neg iq];obtain⟨_,g,_,_,h,g0,g1⟩:=cL.step (r:=((r-n:Nat):Int)) s!"" (by have:¬ r<af.length:=iq;show ((r-af.length:Nat):Int)<_;lia) h0 h1;rw[h];show af.length+g.toNat<_;lia
 ·rw[m1 hw,m2 hw];exact ht
 ·rw[m1 eJ,m2 eJ]at h;exact Ul s!"" hw eJ (fg ws eJ h)
end GB
namespace L2
open PySem PySem.Spec PyProof.Rows GW
noncomputable def Az (K:α3)(H:Hp)(xs:List V)(ws:α1):Prop:=xs.length=ws.length/\∀(i:Nat) (w:α2),ws[i]?=some w->∃t,xs[i]?=some (.ref t)/\H t=some (.tup (w.map V.int))
def Az.nil {K:α3} : Az K H [] []:=⟨rfl,fun i w h=>by simp at h⟩
def Az.mono {K:α3} (h:Az K H xs ws)(k:TK H H'):Az K H' xs ws:=by
 refine⟨h.1,fun i w hw=>?_⟩;obtain⟨t,a,b⟩:=h.2 i w hw;exact⟨t,a,k _ _ b⟩
def Az.snoc {K:α3} (h:Az K H xs ws) (ht:H t=some (.tup (w.map V.int))):Az K H (xs++[.ref t]) (ws++[w]):=by
 refine⟨by rw[jf_,jf_,h.1];rfl,fun i v hi=>?_⟩;by_cases bu:i<ws.length
 ·rw[ji_ bu]at hi;rw[ji_ (by rw[h.1];exact bu)];exact h.2 i v hi
 ·have:=(ja_.mp hi).1;rw[jf_,jo_]at this;have ei:i=ws.length:=by lia
  subst ei;rw[jv_ (jh_ _),j7_]at hi;simp at hi;subst hi;refine⟨t,?_,ht⟩;rw[jv_ (by rw[h.1];exact jh_ _),h.1,j7_];rfl
def Az.at {K:α3}{H:Hp}{xs:List V}{ws:α1}(h:Az K H xs ws){i:Nat}{x:V}(hx:xs[i]?=some x):∃t w,ws[i]?=some w/\x=.ref t/\H t=some (.tup (w.map V.int)):=by
 have hi:i<ws.length:=by rw[<-h.1];exact (ja_.mp hx).1
 obtain⟨t,a,b⟩:=h.2 i ws[i] (by simp[hi]);rw[hx]at a;exact⟨t,ws[i],by simp[hi],jB_ a,b⟩
noncomputable def rInW (K:α3)(hJ:Bool):R2:=fun x y H Q=>∃p t xs w ws,y=.ref p/\x=.ref t/\SqL K H p xs/\Az K H xs ws/\SqT K H t (w.map V.int)/\Q (.bl (if hJ then !decide (w∈ws) else decide (w∈ws))) H
theorem Yy {K:α3} : rInW K hJ x y H Q=∃p t xs w ws,y=.ref p/\x=.ref t/\SqL K H p xs/\Az K H xs ws/\SqT K H t (w.map V.int)/\Q (.bl (if hJ then !decide (w∈ws) else decide (w∈ws))) H:=rfl
def Uq (hu:X.A.units+8<cLine)(I:Inv X ae σ H s)(hp:SqL X.K H p xs)(hw:Az X.K H xs ws)(ht:SqT X.K H t (w.map V.int)):
  ∃(its:Array Value) (e:Value->Bool),s.heap.IsList p its/\(∀y,y∈its->SeqAt.EqAt X.A.in1 s y (.ref t) (e y))/\its.any e=decide (w∈ws):=by
 obtain⟨its,r,pl,_⟩:=I.list hp;have hl:=r.length
 let e:Value->Bool:=fun y => @decide (∃(i:Nat) (a:Addr),y=.ref a/\xs[i]?=some (.ref a)/\ws[i]?=some w) (oy _)
 have ee:∀(i:Nat) (a:Addr) (v:α2),xs[i]?=some (.ref a)->ws[i]?=some v->e (.ref a)=decide (v=w):=fun i a v hx hv=>by
  obtain⟨a',a1,a2⟩:=hw.2 i v hv;rw[hx]at a1;cases a1;rw[qr_];show @decide _ (oy _)=true↔_;rw[@decide_eq_true_iff _ (oy _),jU_];constructor
  ·rintro⟨j,b,hb,mS,kg⟩;cases hb;obtain⟨b',b1,b2⟩:=hw.2 j w kg;rw[mS]at b1;cases b1;rw[a2]at b2;have:=jB_ b2;injection this with this;exact (xB_ (fun x y z=>V.int.inj z)).mp this
  ·rintro rfl;exact⟨i,a,rfl,hx,hv⟩
 refine⟨its.toArray,e,pl.isList,fun y hy=>?_,?_⟩
 ·have hy':y∈its:=by simpa using hy
  obtain⟨i,hi,ei⟩:=jL_ hy';have mT:i<xs.length:=by lia
  obtain⟨u,jt,ru⟩:=r.get (i:=i) (x:=xs[i]) (by simp[mT]);rw[je_ hi,ei]at jt;cases jt;obtain⟨a,v,e1,e2,e3⟩:=hw.at (i:=i) (x:=xs[i]) (by simp[mT]);rw[e2]at ru;cases ru;rw[ee i a v (by rw[je_ mT,e2]) e1];exact (EqD.at (x:=V.ref a) (y:=V.ref t) I 2 X.A.in1 (by rw[in1_units];lia) rfl rfl (EqD.ints (xs:=v) (ys:=w) (.inr ⟨SqT.of e3,ht⟩) 1)).1
 ·rw[qr_,jU_];rw[show its.toArray.any e=its.any e by simp,qS_];constructor
  ·rintro⟨y,hy,hey⟩;obtain⟨j,b,_,_,kg⟩:=(@decide_eq_true_iff _ (oy _)).mp hey;exact jc_ kg
  ·intro hm;obtain⟨i,hi,ei⟩:=jL_ hm;obtain⟨a,a1,a2⟩:=hw.2 i w (by rw[je_ hi,ei]);obtain⟨u,jt,ru⟩:=r.get a1;cases ru;refine⟨.ref a,jc_ jt,?_⟩;rw[ee i a w a1 (by rw[je_ hi,ei])];simp
def Si (hu:X.A.units+8<cLine):OpR X (compareOp .NotIn) (rInW X.K true):=by
 intro ae s σ H x y v u Q I rx ry h;obtain⟨p,t,xs,w,ws,rfl,rfl,hp,hw,ht,q⟩:=h;cases ry;cases rx;obtain⟨its,e,h1,h2,h3⟩:=Uq hu I hp hw ht;refine SeqAt.notIn_listAt e h1 h2 ⟨.bl _,H,I,rfl,?_⟩;rw[h3];exact q
def Gx.ofS {K:α3} (ha:H a=some (.tup xs))(hb:H b=some (.tup ys))(hz:xs.length+ys.length<=sizeLine)(h:∀p H',Same H H'->H' p=some (.tup (xs++ys))->Q (.ref p) H'):Gx K (.ref a) (.ref b) H Q:=by
 refine⟨a,b,xs,ys,rfl,rfl,SqT.of ha,SqT.of hb,hz,fun e=>?_,fun _ e=>?_,fun _ _ p hp=>h p _ (Same.new hp) Ab⟩
 ·subst e;exact h b H (Same.refl _) (by simpa using hb)
 ·subst e;exact h a H (Same.refl _) (by simpa using ha)
end L2
namespace GW
noncomputable def ins (s:α1)(w:α2):α1:=if w∈s then s else s++[w]
def WN (s:α1)(w:α2):(ins s w).length<=s.length+1:=by
 unfold ins;split
 ·lia
 ·simp
def AX:∀(l s:α1),(l.foldl ins s).length<=s.length+l.length
 |[],s=>by simp
 |w::l,s=>by
  have h1:=AX l (ins s w);have h2:=WN s w;rw[xh_,jD_];lia
noncomputable def extW (n:Nat)(w:α2):α1:=(om n).map fun x:Nat=>w++[(x:Int)]
noncomputable def AK (n:Nat)(ah:α1):α1:=(ah.flatMap (extW n)).foldl ins (ah.foldl ins [])
noncomputable def De (rows ends:α1):α1:=(rows.flatMap fun r=>ends.map (r ++ ·)).foldl ins []
end GW
namespace L2
open PySem PySem.Spec PyProof.Rows GW
noncomputable def wkey (w:α2):List Key:=w.map oT
def BI (w:α2):(wkey w).map kV=w.map V.int:=by unfold wkey;rw[jN_];rfl
def Kh (h:wkey v=wkey w):v=w:=(xB_ (fun x y z=>Sum.inl.inj z)).mp h
noncomputable def CM (ws:α1)(kvs:List (List Key×V)):Prop:=kvs.map (·.1)=ws.map wkey
def CM.len (h:CM ws kvs):kvs.length=ws.length:=by
 have:=qn_ o9 h;simpa using this
def CM.some_iff (h:CM ws kvs)(w:α2):(valV kvs (wkey w)).isSome=decide (w∈ws):=by
 rw[<-El,qr_,jU_,qS_];constructor
 ·rintro⟨kv,cD,e⟩;have e:=qW_ e;have:wkey w∈ws.map wkey:=by rw[<-h,<-e];exact jq_.mpr ⟨kv,cD,rfl⟩
  obtain⟨q,hq,e2⟩:=jq_.mp this;exact Kh e2 ▸ hq
 ·intro hw;have:wkey w∈kvs.map (·.1):=by rw[h];exact jq_.mpr ⟨w,hw,rfl⟩
  obtain⟨kv,cD,e⟩:=jq_.mp this;exact⟨kv,cD,jR_ e⟩
def CM.put (h:CM ws kvs)(w:α2)(v:V):CM (ins ws w) (putK kvs (wkey w) v):=by
 have hs:=h.some_iff w;unfold putK ins;rw[El,hs];by_cases hw:w∈ws
 ·rw[if_pos hw,if_pos (show decide (w∈ws)=true from jR_ hw)];unfold CM;rw[<-h,jN_];refine jM_ fun kv _=>?_;show (if kv.1=wkey w then (kv.1,v) else kv).1=kv.1;split<;>rfl
 ·rw[if_neg hw,if_neg (show ¬ decide (w∈ws)=true by simp[hw])];unfold CM;rw[jz_,jz_,h];rfl
def CM.nil:CM [] []:=rfl
def CM.words {K:α3} (h:CM ws kvs)(hl:rs.length=kvs.length)(hr:∀(i:Nat) (k:List Key) (v:V),kvs[i]?=some (k,v)->∃b,rs[i]?=some (V.ref b)/\H b=some (.tup (k.map kV))):Az K H rs ws:=by
 refine⟨by rw[hl,h.len],fun i w hw=>?_⟩;have hi:i<kvs.length:=by rw[h.len];exact (ja_.mp hw).1
 have e:(kvs.map (·.1))[i]?=some (wkey w):=by rw[h,jj_,hw];rfl
 rw[jj_,je_ hi]at e;have e:kvs[i].1=wkey w:=jB_ e;obtain⟨b,b1,b2⟩:=hr i kvs[i].1 kvs[i].2 (by simp[hi]);exact⟨b,b1,by rw[b2,e,BI]⟩
end L2
namespace PySem.W
open PySem PySem.Calls PyProof.Rows PyProof.V PySem.Spec
section
variable {prog:Program} {w:World} {A:Around} {E:Value->Shared->Prop} {s:Shared}
noncomputable abbrev itO (x:Value)(f:Bool)(d:Addr)(i n ep:Nat)(ok ov:Value):Obj:={cls:=.type "dict_itemiterator",dict:=none,data:=.fields #[x,.bool f,.ref d,.int i 0,.int n 0,.int ep 0,ok,ov],slots := #[]}
noncomputable abbrev tpO (e:DictEntry):Obj:={cls:=.type "tuple",data:=.seq #[e.key,e.val]}
def Ur {it d:Addr} (g1:s.heap.get? it=some (itO x f d i n ep ok ov))
  (hx:x=.none \/ ∃a:Addr,∃o,x=rawInt a/\s.heap.get? a=some o/\a≠it)
  (hQ:∀h' x' f' gf gg,h'.get? it=some (itO x' f' d i n ep gf gg)->(x=.none->x'=rawInt s.heap.objs.size/\f'=false/\gf=e.key/\gg=e.val)->(x ≠ .none->x'=x)->h'.get? s.heap.objs.size=some (tpO e)->h'.objs.size=s.heap.objs.size+1->(∀b o,b≠it->s.heap.get? b=some o->h'.get? b=some o) ->
   Q (.ref s.heap.objs.size) {s with heap:=h' }):wpAny (model prog w) A (Builtin.Dict_items.pairFromOwner (.ref it) 6 e.key e.val) Q E s:=by
 have hl:=ju_ g1;obtain⟨hp,gs,dr,tk,os⟩:=s
 wp_walk using newT
 ·show 2<=sizeLine;decide
 intro h2 g;have k2:∀b o,hp.get? b=some o->h2.get? b=some o:=fun b o q=>by rw[<-g];exact jl_ _ q
 have g2:=k2 it _ g1;have g0:h2.get? hp.objs.size=some (tpO e):=by rw[<-g];exact jw_ _ rfl
 have gz:h2.objs.size=hp.objs.size+1:=by rw[<-g];exact xP_ ..
 rcases hx with rfl|⟨a,o,rfl,ha,aA⟩
 ·(wp_walk using qQ_ g2;(focus simp);intro _ g3 k3)
  (wp_walk using qQ_ g3;(focus simp);intro _ g4 k4)
  (wp_walk using qQ_ g4;(focus simp);intro _ g5 k5)
  (wp_walk using qQ_ g5;(focus simp);intro _ g6 k6)
  wp_walk
  have kk:=((k3.extBut.trans k4.extBut).trans k5.extBut).trans k6.extBut;exact hQ _ _ _ _ _ g6 (fun _=>⟨rfl,rfl,rfl,rfl⟩) (fun z=>absurd rfl z) (kk _ _ (qF_ hl) g0) ((k6.1.trans (k5.1.trans (k4.1.trans k3.1))).trans gz) fun b o n q=>kk b o n (k2 b o q)
 ·have g7:=k2 a o ha;have e:((a:Int)).toNat=a:=jC_ a
  wp_walk
  refine kdx_alive (a:=(a:Int).toNat) (by rw[e];exact g7) ?_;cases f
  ·(wp_walk using qQ_ g2;(focus simp);intro _ g3 k3)
   wp_walk
   exact hQ _ _ _ _ _ g3 (fun z=>by cases z) (fun _=>rfl) (k3.extBut _ _ (qF_ hl) g0) (k3.1.trans gz) fun b o n q=>k3.extBut b o n (k2 b o q)
  ·wp_walk
   exact hQ _ _ _ _ _ g2 (fun z=>by cases z) (fun _=>rfl) g0 gz fun b o n q=>k2 b o q
def itm {it d:Addr} (hh:A.handled=none)(aK:s.heap.get? it=some (itO x f d i es.size ep ok ov))
  (cS:s.heap.get? d=some od) (b4:od.data=.dict es ep) (hx:x=.none \/ ∃a:Addr,∃o,x=rawInt a/\s.heap.get? a=some o/\a≠it)
  (hQ:∀e h' x' f' gf gg,es[i]?=some e->h'.get? it=some (itO x' f' d (i+1) es.size ep gf gg)->(x=.none->x'=rawInt s.heap.objs.size/\f'=false/\gf=e.key/\gg=e.val)->(x ≠ .none->x'=x)->h'.get? s.heap.objs.size=some (tpO e)->h'.objs.size=s.heap.objs.size+1->(∀b o,b≠it->s.heap.get? b=some o->h'.get? b=some o) ->
   Q (some (.ref s.heap.objs.size)) {s with heap:=h' })
  (hN:es[i]?=none->∀h',Heap.ExtBut it s.heap h'->Q none {s with heap:=h' }):wpAny (model prog w) A (pyNext (.ref it)) Q E s:=by
 have hT:s.TypeIs (.ref it) "dict_itemiterator" := ⟨_,aK,rfl⟩;have e1:=xU_;have h1:A.in1.handled=none:=hh;obtain⟨c,dc,da,sl⟩:=od;replace b4:da=_:=b4;subst b4;unfold pyNext;refine jg_ (zk_ (xm_ hT e1 (q3_ e1 hT qa ?_ (p7 _))))
 wp_walk using xk_ hT,x9_ aK rfl
 cases hi:es[i]? with
 |some e=>
  simp only[show ¬ ((i:Int)<0) from by lia,q7_,jC_,hi]
  wp_walk using xk_ hT,wpAny_isOneOf_itemiter hT,qQ_ aK
  ·exact pR rfl
  intro h1 g1 k1;replace g1:h1.get? it=some (itO x f d (i+1) es.size ep ok ov):=g1;have hT1:Shared.TypeIs {s with heap:=h1} (.ref it) "dict_itemiterator" := ⟨_,g1,rfl⟩;have z1:h1.objs.size=s.heap.objs.size:=k1.1
  wp_walk using wpAny_isOneOf_itemiter hT1,Ur g1
  ·rcases hx with hx|⟨a,o,hx,ha,n⟩
   ·exact .inl hx
   ·exact .inr ⟨a,o,hx,k1.extBut a o n ha,n⟩
  intro h' x' f' gf gg q1 q2 q3 q4 q5 q6
  wp_walk
  simp only[z1]at q2 q4 q5 ⊢;exact⟨_,rfl,jt_ (hQ e h' x' f' gf gg hi q1 q2 q3 q4 q5 fun b o n q=>q6 b o n (k1.extBut b o n q))⟩
 |none=>
  simp only[show ¬ ((i:Int)<0) from by lia,q7_,jC_,hi]
  wp_walk using xk_ hT,qQ_ aK
  ·exact pR rfl
  intro h1 g1 k1
  wp_walk
  exact wpAny_raiseNew_none hh (jg_ (wpAny_isInstance (T := "StopIteration") (b:=true) ⟨_,jw_ _ rfl,rfl⟩ isSubtype_stop (jt_ (hN hi _ ((k1.extBut.push _).push _)))))
noncomputable def ItS (h:Heap)(it d S:Addr)(i n ep:Nat):Prop:=∃x f ok ov,h.get? it=some (itO x f d i n ep ok ov)/\(x=.none \/ ∃a:Addr,∃o,x=rawInt a/\h.get? a=some o/\a≠it/\a≠S)
def ItS.keep {it d S:Addr} (x:ItS h it d S i n ep)(hS:it≠S)(k:∀b o,b≠S->h.get? b=some o->h'.get? b=some o):ItS h' it d S i n ep:=by
 obtain⟨x,f,ok,ov,e,r⟩:=x;refine⟨x,f,ok,ov,k _ _ hS e,r.imp_right ?_⟩;rintro⟨a,o,e1,e2,e3,e4⟩;exact⟨a,o,e1,k _ _ e4 e2,e3,e4⟩
def its {it d S:Addr} (hh:A.handled=none)(st:ItS s.heap it d S i es.size ep)(hS:S<s.heap.objs.size)(cS:s.heap.get? d=some od)(b4:od.data=.dict es ep)
  (hQ:∀e h',es[i]?=some e->ItS h' it d S (i+1) es.size ep->h'.get? s.heap.objs.size=some (tpO e)->h'.objs.size=s.heap.objs.size+1->(∀b o,b≠it->s.heap.get? b=some o->h'.get? b=some o)->Q (some (.ref s.heap.objs.size)) {s with heap:=h' })
  (hN:es[i]?=none->∀h',Heap.ExtBut it s.heap h'->Q none {s with heap:=h' }):wpAny (model prog w) A (pyNext (.ref it)) Q E s:=by
 obtain⟨x,f,ok,ov,aK,hx⟩:=st;refine itm hh aK cS b4 (hx.imp_right fun ⟨a,o,e1,e2,e3,_⟩=>⟨a,o,e1,e2,e3⟩) (fun e h' x' f' gf gg q0 q1 q2 q3 q4 q5 q6=>hQ e h' q0 ⟨x',f',gf,gg,q1,?_⟩ q4 q5 q6) hN;rcases hx with rfl|⟨a,o,rfl,e2,e3,e4⟩
 ·exact .inr ⟨_,_,(q2 rfl).1,q4,qF_ (ju_ aK),qF_ hS⟩
 ·exact .inr ⟨a,o,q3 (fun z=>by cases z),q6 a o e3 e2,e3,e4⟩
noncomputable def Tps (es:Array DictEntry)(lo:Addr)(h:Heap)(as:List Addr):Prop:=as.Pairwise (· < ·)/\∀(j:Nat) a,as[j]?=some a->lo<a/\∃e,es[j]?=some e/\h.get? a=some (tpO e)
def Tps.low {lo lo':Addr} (g:Tps es lo h as)(l:lo'<=lo):Tps es lo' h as:=⟨g.1,fun j a e=>⟨qe l (g.2 j a e).1,(g.2 j a e).2⟩⟩
def Tps.keep {lo:Addr} (g:Tps es lo h as)(k:∀b o,lo<b->h.get? b=some o->h'.get? b=some o):Tps es lo h' as:=⟨g.1,fun j a q=>let ⟨l,e,e1,e2⟩:=g.2 j a q;⟨l,e,e1,k a _ l e2⟩⟩
def Tps.snoc {lo b:Addr} (g:Tps es lo h as)(hl:lo<b)(hb:∀a o,h.get? a=some o->a∈as->a<b)(he:es[as.length]?=some e)(ht:h.get? b=some (tpO e)):Tps es lo h (as++[b]):=by
 refine⟨List.pairwise_append.mpr ⟨g.1,List.pairwise_singleton _ _,fun a ha c hc=>?_⟩,fun j a q=>?_⟩
 ·obtain⟨j,hj⟩:=jK_.mp ha;obtain⟨_,e,_,e2⟩:=g.2 j a hj;rw[jd_.mp hc];exact hb a _ e2 ha
 ·rcases qt j as.length with l|l
  ·rw[ji_ l]at q;exact g.2 j a q
  ·rw[jv_ l]at q;obtain⟨z,rfl⟩:j-as.length=0/\a=b:=by
    cases hz:j-as.length with
    |zero=>rw[hz]at q;exact⟨rfl,by simpa using q.symm⟩
    |succ n=>rw[hz]at q;simp at q
   obtain rfl:j=as.length:=by lia
   exact⟨hl,e,he,ht⟩
end
section
variable {prog:Program} {w:World} {A:Around} {E:Value->Shared->Prop} {s:Shared} {r d:Addr} {es:Array DictEntry} {ep:Nat} {od:Obj}
def Us (hv:s.heap.IsItemsView v d)(cS:s.heap.get? d=some od)(b4:od.data=.dict es ep)
  (h:Q (.ref s.heap.objs.size) {s with heap:=s.heap.push (itO .none false d 0 es.size ep .none .none)}):wpAny (model prog w) A (pyIter (.ref v)) Q E s:=by
 have hT:=hv.typeIs;obtain⟨⟨c1,d1,a1,s1⟩,mQ,hc,dy⟩:=hv;replace dy:a1=_:=dy;obtain⟨c,dc,da,sl⟩:=od;replace b4:da=_:=b4;subst b4 dy;have e1:=qN;refine wpAny_pyIter_slot hT e1 (q3_ e1 hT qH ?_ (qE _))
 wp_walk
 exact⟨_,rfl,_,_,⟨_,jw_ _ rfl,rfl⟩,xU_.lookup,h⟩
def WO (hv:s.heap.IsItemsView r d)(cS:s.heap.get? d=some od)(b4:od.data=.dict es ep)(hn:es.size<=sizeLine):
  Gat prog w s r (s.heap.objs.size+1) "dict_items" es.size (· = s.heap.objs.size+1) (fun i ah h=>∃as,ah=as.map Value.ref/\as.length=i/\Tps es (s.heap.objs.size+1) h as/\ItS h (s.heap.objs.size+1) d s.heap.objs.size i es.size ep/\h.get? d=some od) (fun ah h=>∃as,ah=as.map Value.ref/\as.length=es.size/\Tps es s.heap.objs.size h as) where
 type:=hv.typeIs
 nl:=by decide
 nt:=by decide
 le:=hn
 hint:=fun A t Q E k q=>kdx_hint (let ⟨o,ho,hc,_⟩:=hv;⟨o,k _ o ho,hc⟩) (q false t.toks)
 iter:=fun A h1 Q E k z q=>by
  refine Us (s:={s with heap:=h1}) (let ⟨o,ho,x⟩:=hv;⟨o,k _ o ho,x⟩) (k d od cS) b4 ?_;show Q (.ref h1.objs.size) _;rw[z];refine q _ ⟨[],rfl,rfl,⟨.nil,fun j a e=>by simp at e⟩,⟨.none,false,.none,.none,?_,.inl rfl⟩,jl_ _ (k d od cS)⟩ fun b o e=>jl_ _ e;rw[<-z];exact jw_ _ rfl
 next:=fun A i ah t Q E hh j hl hi lt q1 q2=>by
  obtain⟨as,rfl,h2,h3,h4,h5⟩:=j;have li:s.heap.objs.size+1<t.heap.objs.size:=let ⟨_,_,_,_,e,_⟩:=h4;ju_ e;have kp:∀h':Heap,(∀b o,b≠s.heap.objs.size+1->t.heap.get? b=some o->h'.get? b=some o)->h'.get? d=some od:=fun h' k=>k d od (jQ_ (x8_ (ju_ cS))) h5;refine its hh h4 lt h5 b4 (fun e h' e1 st ht hz k=>?_) fun e h' x=>q2 h' t.toks (by have:=Array.getElem?_eq_none_iff.mp e;lia) ⟨as,rfl,by have:=Array.getElem?_eq_none_iff.mp e;lia,(h3.keep fun b o l q=>x b o (qF_ l) q).low (pU _)⟩ fun b o n q=>x b o n q;have mU:=h3.keep fun b o l q=>k b o (qF_ l) q;refine q1 _ h' t.toks (Array.getElem?_eq_some_iff.mp e1).1 ⟨as++[t.heap.objs.size],by simp,by simp[h2],mU.snoc li (fun a o _ m=>?_) (by rw[h2];exact e1) ht,st,kp h' k⟩ fun b o n q=>k b o n q;obtain⟨j,hj⟩:=jK_.mp m;obtain⟨_,_,_,e2⟩:=h3.2 j a hj;exact ju_ e2
 frame:=fun i ah h h' ⟨as,h1,h2,h3,h4,h5⟩ k=>⟨as,h1,h2,h3.keep fun b o l q=>k b o (qF_ (rZ (q2_ _) l)) q,h4.keep (qF_ (q2_ _)) k,k d od (jQ_ (ju_ cS)) h5⟩
 nw:=fun z=>absurd z (jQ_ (q2_ _))
def itm_list (hh:A.handled=none)(hv:s.heap.IsItemsView r d)(cS:s.heap.get? d=some od)(b4:od.data=.dict es ep)(hn:es.size<=sizeLine)
  (hQ:∀h' tk ah c as,(∀b o,s.heap.get? b=some o->h'.get? b=some o)->h'.get? s.heap.objs.size=some (lsO ah c)->as.length=es.size->Tps es s.heap.objs.size h' as->ah.toList=as.map Value.ref->Q (.ref s.heap.objs.size) {s with heap:=h',toks:=tk}):
  wpAny (model prog w) A (call (.type "list") [.ref r]) Q E s:=
 (WO hv cS b4 hn).list hh fun h' tk ah c ⟨as,f1,f2,f3⟩ _ k3 k4=>hQ h' tk ah.toArray c as (fun b o q=>k4 b o (jQ_ (x8_ (ju_ q))) q) k3 f2 f3 (by simpa using f1)
end
end PySem.W
namespace L2
open PySem PySem.Spec PyProof.Rows
def PY (ok:HOk P w H h)(e:Rd H a (.dT kvs)):
  ∃o es ep,h.get? a=some o/\o.ExactDict/\o.data=.dict es ep/\es.size=kvs.length/\(a==sysModules)=false/\kvs.length<=sizeLine /\
   ∀(i:Nat) (k:List Key) (v:V),kvs[i]?=some (k,v)->∃b en,es[i]?=some en/\en.key=.ref b/\H b=some (.tup (k.map kV))/\RelV v en.val:=by
 obtain⟨z,y,xs,r,o,es,ep,h1,h2,h3,h4,h5⟩:=(show A6 P w H h a (.dT kvs) from T9 ok e);have hl:=zh_ r;have hs:es.size=kvs.length:=by rw[<-qj_,h4,jb_,hl]
 refine⟨o,es,ep,h1,h2,h3,hs,y,z,fun i k v hk=>?_⟩;obtain⟨q,hq,e1,e2,e3⟩:=IT r hk;refine⟨q.2.1,entryOfKey (tupleKind (Bb P w)) q,?_,rfl,e2,e3⟩;rw[<-qL_,h4,jj_,hq];rfl
noncomputable def OI (v d:Addr):HO:=.ext (fun h=>h.IsItemsView v d)
noncomputable def VJ (td:TE):TE:=fun σ H Q=>td σ H fun x H1=>∃d kvs,x=.ref d/\Rd H1 d (.dT kvs)/\∀v,H1 v=none->Q (.ref v) (upd H1 v (OI v d))
theorem Sj : VJ td σ H Q=td σ H fun x H1=>∃d kvs,x=.ref d/\Rd H1 d (.dT kvs)/\∀v,H1 v=none->Q (.ref v) (upd H1 v (OI v d)):=rfl
def Ut (ho:PE X o td)(cI:attributeBase o "items" X.env (eval o X.env)=eval o X.env:=by rfl)(cJ:(aC.endLine==aB.line)=true:=by rfl):PE X (.Call (.Attribute o "items" aC) [] [] aB) (VJ td):=by
 intro ae s σ H Q I h;refine wpAny_Call_method0_late cI cJ (thn (ho ae s σ H _ I h) fun v s1 ⟨x,H1,I1,r1,d,kvs,ex,hd,q⟩=>?_);subst ex;obtain rfl:v=Value.ref d:=r1;obtain⟨od,es,ep,g1,g2,g3,g4,g5,g6,g7⟩:=PY I1.hok hd;have hT:s1.TypeIs (.ref d) "dict" := ⟨od,g1,g2.1⟩;refine⟨"dict","dict.items",x1_,pk,rT,hT,fun b e=>?_,xu_ rfl (PySem.evalArgs_none ?_)⟩
 ·cases e;exact⟨od,g1,g2.2.1⟩
 refine q3_ pk hT rQ (?_:wpAny _ _ (Builtin.«dict.items» _) _ _ s1) (rm _);unfold Builtin.«dict.items»;refine jg_ ?_;unfold Builtin.Dict.noArgs;refine jg_ (wpAny_notOrdered_dict hT ?_);show wpAny _ _ (pure d) _ _ s1;refine jt_ ?_;show wpAny _ _ (Builtin.Dict.showsAll d >>= _) _ _ s1;unfold Builtin.Dict.showsAll;rw[if_neg (by rw[g5];exact jy_)];refine jg_ (jt_ ?_);refine jg_ (qv_ (jt_ ⟨_,rfl,?_⟩));have new:A6 X.prog X.w (upd H1 s1.heap.objs.size (OI s1.heap.objs.size d)) (s1.heap.push {cls:=.type "dict_items",data:=.fields #[.ref d]}) s1.heap.objs.size (OI s1.heap.objs.size d):=
  ⟨⟨_,jw_ _ rfl,rfl,rfl⟩,⟨_,jw_ _ rfl⟩,fun h1 h2 ⟨o,e,r⟩ k=>⟨o,k o e,r⟩⟩
 exact⟨.ref _,_,I1.laid (t':=s1.toks) (fun b u e=>jl_ _ e) (jh_ _) new,rfl,q _ (I1.hok.fresh (jh_ _))⟩
def PZ {P:Program}{w:World}{fs:List Addr}{H0:Hp}{h0 h':Heap}:∀(as:List (Addr×List V)),(as.map (·.1)).Nodup ->
  (∀p∈as,h0.objs.size<=p.1/\p.2.length<=sizeLine/\∃its:List Value,Vals p.2 its/\IsTup h' p.1 its.toArray)->∀H,Un fs [] H0 H h0 h'->HOk P w H h'->(∀p∈as,H p.1=none) ->
  ∃H2,Un fs [] H0 H2 h0 h'/\HOk P w H2 h'/\Same H H2/\(∀p∈as,H2 p.1=some (.tup p.2))/\∀b,b∉as.map (·.1)->H2 b=H b
 |[],_,_,H,u,k,_=>⟨H,u,k,Same.refl _,(fun p hp=>by simp at hp),fun b _=>rfl⟩
 |p::r,nd,hp,H,u,k,hn=>by
  rw[jJ_,j6_]at nd;obtain⟨h1,h2,its,h3,h4⟩:=hp p js_;have mV:=hn p js_;have k2:HOk P w (upd H p.1 (.tup p.2)) h':=k.track mV ⟨h2,its,h3,h4⟩;obtain⟨H2,e1,e2,e3,e4,e5⟩:=PZ r nd.2 (fun q hq=>hp q (jm_ _ hq)) (upd H p.1 (.tup p.2)) (u.track h1 mV) k2 (fun q hq=>by
   have aA:q.1≠p.1:=fun z=>nd.1 (by rw[<-z];exact qY_ hq);rw[Ah aA];exact hn q (jm_ _ hq))
  refine⟨H2,e1,e2,(Same.new mV).trans e3,fun q hq=>?_,fun b hb=>?_⟩
  ·rcases jr_.mp hq with rfl|hq
   ·exact e3 _ _ Ab
   ·exact e4 q hq
  ·rw[jJ_,jr_,not_or]at hb;rw[e5 b hb.2,Ah hb.1]
def Vals.two' (h1:RelV x u)(h2:RelV y v):Vals [x,y] [u,v]:=.cons h1 (.cons h2 .nil)
def Yz:∀as:List Addr,Vals (as.map V.ref) (as.map Value.ref)
 |[]=>.nil
 |_::r=>.cons rfl (Yz r)
def Sk {X:Cx}{ae:α7}{σ:St}{H:Hp}{s:Shared}{kvs:List (List Key×V)}{es:Array DictEntry}{h':Heap}{as:List Addr}(I:Inv X ae σ H s)(hk:∀b o,s.heap.get? b=some o->h'.get? b=some o)(ck:as.length=kvs.length)(hG:PySem.W.Tps es s.heap.objs.size h' as)
  (g7:∀(i:Nat) (k:List Key) (v:V),kvs[i]?=some (k,v)->∃b en,es[i]?=some en/\en.key=.ref b/\H b=some (.tup (k.map kV))/\RelV v en.val):
  ∃H2,Un X.fs [] H H2 s.heap h'/\HOk X.prog X.w H2 h'/\Same H H2/\(∀b,b<=s.heap.objs.size->H2 b=H b)/\Vals (as.map V.ref) (as.map Value.ref)/\∀(i:Nat) (k:List Key) (x:V),kvs[i]?=some (k,x)->∃t b,(as.map V.ref)[i]?=some (V.ref t)/\H2 t=some (.tup [.ref b,x])/\H b=some (.tup (k.map kV)):=by
 have ex:∀i:Fin kvs.length,∃b:Addr,∃en,es[i.1]?=some en/\en.key=.ref b/\H b=some (.tup (kvs[i.1].1.map kV))/\RelV kvs[i.1].2 en.val:=fun i=>g7 i.1 kvs[i.1].1 kvs[i.1].2 (by simp)
 let cs:List (List V):=List.ofFn fun i:Fin kvs.length=>[V.ref (oN (ex i)),kvs[i.1].2]
 have bo:cs.length=kvs.length:=by simp[cs]
 have jw:∀i:Fin kvs.length,cs[i.1]?=some [V.ref (oN (ex i)),kvs[i.1].2]:=fun i=>by simp[cs]
 have hz:(as.zip cs).map (·.1)=as:=List.map_fst_zip (by rw[ck,bo];exact jh_ _);have aO:∀p∈as.zip cs,∃i:Fin kvs.length,as[i.1]?=some p.1/\p.2=[V.ref (oN (ex i)),kvs[i.1].2]:=fun p hp=>by
  obtain⟨i,hi⟩:=jK_.mp hp;obtain⟨h1,h2⟩:=qh_.mp hi;have l:i<kvs.length:=by rw[<-ck];exact (ja_.mp h1).1
  rw[jw ⟨i,l⟩]at h2;exact⟨⟨i,l⟩,h1,(jB_ h2).symm⟩
 obtain⟨H2,e1,e2,e3,e4,e5⟩:=PZ (as.zip cs) (by rw[hz];exact hG.1.imp fun a=>jQ_ a) (fun p hp=>by
  obtain⟨i,h1,h2⟩:=aO p hp;obtain⟨en,a1,a2,a3,a4⟩:=zd_ (ex i);obtain⟨l,e,b1,b2⟩:=hG.2 i.1 p.1 h1;rw[a1]at b1;cases b1;refine⟨za_ l,by rw[h2];have:=Ak;simp;lia,[en.key,en.val],?_,⟨_,b2,rfl,0,rfl⟩⟩;rw[h2,a2];exact Vals.two' rfl a4) H (Un.kept hk) (I.hok.kept hk) (fun p hp=>by
  obtain⟨i,h1,h2⟩:=aO p hp;exact I.hok.fresh (za_ (hG.2 i.1 p.1 h1).1))
 refine⟨H2,e1,e2,e3,fun b hb=>e5 b ?_,?_,fun i k x hkx=>?_⟩
 ·rw[hz];intro z;obtain⟨j,hj⟩:=jK_.mp z;exact absurd (hG.2 j b hj).1 (Nat.not_lt.mpr hb)
 ·exact Yz as
 ·have l:=(ja_.mp hkx).1;obtain⟨en,a1,a2,a3,a4⟩:=zd_ (ex ⟨i,l⟩);have ek:kvs[i]=(k,x):=(ja_.mp hkx).2;have js:as[i]?=some (as[i]'s!""):=by simp
  refine⟨_,_,by rw[jj_,js];rfl,?_,by simpa [ek] using a3⟩;have:=e4 (as[i]'s!"",_) (jK_.mpr ⟨i,qh_.mpr ⟨js,jw ⟨i,l⟩⟩⟩);simpa [ek] using this
def KJ (hc:X.calm=true):DA X (.type "list") (fun xs H Q=>∃v d kvs,xs=[.ref v]/\H v=some (OI v d)/\Rd H d (.dT kvs)/\∀l rs H',Same H H'->H' l=none->rs.length=kvs.length ->
  (∀(i:Nat) (k:List Key) (x:V),kvs[i]?=some (k,x)->∃t b,rs[i]?=some (V.ref t)/\H' t=some (.tup [.ref b,x])/\H b=some (.tup (k.map kV)))->Q (.ref l) (upd H' l (.lst rs))):=by
 intro ae s σ H xs us Q I r h;obtain⟨p,d,kvs,rfl,hv,hp,q⟩:=h;obtain⟨u,rfl,rx⟩:=vals1 r;cases rx;obtain⟨o,es,ep,g1,g2,g3,g4,g5,g6,g7⟩:=PY I.hok hp;obtain⟨hview,_⟩:=(show A6 X.prog X.w H s.heap p (OI p d) from I.hok p _ hv);refine PySem.W.itm_list (I.ok.hd hc) hview g1 g3 (by rw[g4];exact g6) fun h' tk ah c as hk hS hl hG b8=>?_;have ck:=hl.trans g4;obtain⟨H2,e1,e2,e3,e5,hv,e4⟩:=Sk I hk ck hG g7;have hD:H2 s.heap.objs.size=none:=(e5 _ (jh_ _)).trans (I.hok.fresh (jh_ _));have new:A6 X.prog X.w (upd H2 s.heap.objs.size (.lst (as.map V.ref))) h' s.heap.objs.size (.lst (as.map V.ref)):=⟨by rw[jb_,ck];exact g6,ah.toList,c,by rw[b8];exact hv,by simpa using hS⟩;exact⟨.ref _,_,I.un (t':=tk) (e1.track (jh_ _) hD) (e2.track hD new),rfl,q _ _ H2 e3 hD (by rw[jb_,ck]) e4⟩
def Sl (hg:Gl X x)(hm:∃t,X.mg x=some (.int n t))(hd:(x==("__debug__" : Str))=false:=by decide):PE X (.Name x pos) (tC (.int n)):=by
 obtain⟨t,hm⟩:=hm;exact Ot hg hm ⟨_,rfl⟩ hd
section
variable {K:α3} {ta tv td ty tx:TE} {t:TA} {f m:Str} {σ:St} {H:Hp} {Q:VK} {D:Ends} {C:Addr} {sp:Sp} {aI:List V} {E:XK}
theorem YA:tFld K ta f σ H Q=ta σ H fun x H1=>∃a C dx fs v,x=.ref a/\H1 a=some (.ins C dx fs)/\Cls K C/\BY K C f/\fs.lookup f=some v/\Q v H1:=rfl
theorem VL:sFld K ta tv f D σ H=tv σ H fun y H1=>ta σ H1 fun x H2=>∃a C dx fs,x=.ref a/\H2 a=some (.ins C dx fs)/\Cls K C/\BY K C f/\fs.length<1000/\D.nx σ (upd H2 a (.ins C dx (putF f y fs))):=rfl
theorem VM:Wu C m sp aI E ta t σ H Q=ta σ H fun x H1=>∃a dx fs,x=.ref a/\H1 a=some (.ins C dx fs)/\fs.lookup m=none/\t σ H1 fun vs H2=>sp (x::(vs++aI)) H2 Q E:=rfl
theorem VN:XO C sp aI E t σ H Q=t σ H fun vs H1=>∀x dx,H1 x=none->H1 dx=none->dx≠x->sp (.ref x::(vs++aI)) (upd (upd H1 dx (.own x)) x (.ins C dx [])) (fun v H2=>v=.non/\Q (.ref x) H2) E:=rfl
theorem Sm:Vl td ty tx σ H Q=td σ H fun x H1=>∃a,x=.ref a/\IsD H1 a/\ty σ H1 fun y H2=>tx σ H2 fun z H3=>∃o,DGet H3 a y o/\Q (o.getD z) H3:=rfl
end
noncomputable def ents (es:List (α2×Int)):List (List Key×V):=es.map fun e=>(wkey e.1,V.int e.2)
def Sn (es:List (α2×Int)):CM (es.map (·.1)) (ents es):=by unfold CM ents;rw[jN_,jN_];rfl
def KL (h:w∉es.map (·.1)):valV (ents es) (wkey w)=none:=by
 have:=(Sn es).some_iff w;rw[jP_ h]at this;cases q:valV (ents es) (wkey w) with
 |none=>rfl
 |some v=>rw[q]at this;cases this
def DG:∀{es:List (α2×Int)} {w:α2} {m:Int},(es.map (·.1)).Nodup->(w,m)∈es->valV (ents es) (wkey w)=some (.int m)
 |[],_,_,_,h=>by cases h
 |e::r,w,m,nd,h=>by
  rw[jJ_,j6_]at nd;unfold valV ents;rw[jJ_,qM_];by_cases hw:e.1=w
  ·have ir:e.2=m:=by
    rcases jr_.mp h with q|q
    ·rw[<-q]
    ·exact absurd (jq_.mpr ⟨_,q,hw.symm⟩) nd.1
   rw[show decide ((wkey e.1,V.int e.2).1=wkey w)=true from jR_ (by rw[hw]),<-ir];rfl
  ·rw[show decide ((wkey e.1,V.int e.2).1=wkey w)=false from jP_ fun z=>hw (Kh z)];rcases jr_.mp h with q|q
   ·exact absurd (by rw[<-q]) hw
   ·exact DG nd.2 q
def P0 (h:w∉es.map (·.1)):putK (ents es) (wkey w) (.int m)=ents (es++[(w,m)]):=by
 unfold putK;rw[El,KL h,if_neg (by simp)];unfold ents;rw[jz_];rfl
def QE:¬ (("letters" : Str) = "marks"):=by decide +kernel
noncomputable def OJ (L:Int)(d:Addr):List (Str×V):=putF "marks" (.ref d) (putF "letters" (.int L) [])
def ML (L:Int)(d:Addr):(OJ L d).lookup ("letters" : Str)=some (.int L):=by
 unfold OJ;rw[BP,if_neg QE,BP,if_pos rfl]
def Cy (L:Int)(d:Addr):(OJ L d).lookup ("marks" : Str)=some (.ref d):=by
 unfold OJ;rw[BP,if_pos rfl]
def CC (L:Int)(d:Addr){m:Str}(h1:¬ m = "marks")(h2:¬ m = "letters"):(OJ L d).lookup m=none:=by
 unfold OJ;rw[BP,if_neg h1,BP,if_neg h2];rfl
structure BookAt (C:Addr)(H:Hp)(p d:Addr)(L:Int)(es:List (α2×Int)):Prop where
 ob:∃dx,H p=some (.ins C dx (OJ L d))
 dc:H d=some (.dT (ents es))
 nd:(es.map (·.1)).Nodup
def BookAt.mono (h:BookAt C H p d L es)(s:Same H H'):BookAt C H' p d L es:=by
 obtain⟨⟨dx,a⟩,b,c⟩:=h;exact⟨⟨dx,s _ _ a⟩,s _ _ b,c⟩
end L2
namespace L2
open PySem PySem.W PySem.Spec PySem.Calls PyProof.Rows
noncomputable def YB (K:α3)(Ca:Addr)(E:St->XK)(tb ts:TS):TS:=fun D σ H=>tb D σ H/\∀aj cls H',E aj cls none H'->∃C,cls=.ref C/\qT K (.ref C) (.ref Ca)=some true/\ts D aj H'
theorem VO {K:α3} : YB K Ca E tb ts D σ H=(tb D σ H/\∀aj cls H',E aj cls none H'->∃C,cls=.ref C/\qT K (.ref C) (.ref Ca)=some true/\ts D aj H'):=rfl
def WQ (hg:Gl X c)(hm:X.mg c=some (.ref Ca))(aH:X.stack=X.env::X.outer)(hL:X.env.frame=some X.env.locals)(hex:X.ex=[])
  (hb:∀xe pn,(∀σ,MC (CXe X.prog X.w) (X.body xe pn) σ (E σ))->PSs (X.body xe pn) body tb) (hs:∀ea pn,PSs (X.suite ea pn) (b₀::suite) ts) (hd:(c==("__debug__" : Str))=false:=by decide):
  PS X (.Try body [.ExceptHandler (some (.Name c np)) none (b₀::suite) hpos] [] [] pos) (YB X.K Ca E tb ts):=by
 intro ae s σ H D I h;obtain⟨aP,hhand⟩:=h;have hB:=hb (fun e s'=>∃aG aj H1 s1,Inv (X.body (fun _ _=>True) (X.pn++ae)) aG aj H1 s1/\CXe X.prog X.w X.stack H1 s1 (E aj) e s') (X.pn++ae) (fun σ aG H s e s' I' hcx=>⟨aG,σ,H,s,I'.reBody,hcx⟩) [] s σ H D I.toBody aP;refine wpAny_Try_except (q1_ hB (fun f s1 q=>?_) fun e s1 q=>?_)
 ·cases f with
  |next=>obtain⟨dn,H1,I1,q1⟩:=q;exact xY_ ⟨dn,H1,I1.ofBody,q1⟩
  |brk=>obtain⟨dn,H1,I1,q1⟩:=q;exact⟨dn,H1,I1.ofBody,q1⟩
  |cont=>obtain⟨dn,H1,I1,q1⟩:=q;exact⟨dn,H1,I1.ofBody,q1⟩
  |ret v=>obtain⟨x1,dn,H1,I1,r1,q1⟩:=q;exact⟨x1,dn,H1,I1.ofBody,r1,q1⟩
 ·obtain⟨aG,aj,H1,s2,I2,ea,cls,a0,H',B,rfl,os,bare,fl,fw,hE⟩:=q;obtain⟨C,rfl,hexm,jv⟩:=hhand aj cls H' hE;have I2':Inv X ae aj H1 s2:=I2.ofBody;have fr:X.A.frames=some (X.env::X.outer):=by rw[I.ok.frames,aH]
  have frees:=KG I2' fl;have fw0:=fw;rw[aH]at fw;have invAt:∀h',Heap.FlyingW B (X.env::X.outer) ea (.ref C) a0 h'->s1.heap.UpToSlots h'->Inv X ae aj H' {s1 with heap:=h' }:=fun h' ic ups=>by
   have fJ:=fl.move frees ic.1 (fun b hb o e=>by
    obtain⟨_,o',cc,nf⟩:=fw0.2.2.1.mem hb;rw[e]at cc;cases cc;exact ups b o e nf)
   exact I2'.call' (s':={s1 with heap:=h' }) os fJ.un fJ.hok bare (fun b hb=>by cases hb)
  refine wpAny_looks_onW fr hL fw fun h4 held4 up4=>?_;refine wpAny_landsW held4 fun h5 mW up5=>?_;have I5:=invAt h5 mW (up4.trans up5);have I5m:Inv (X.suite ea (X.pn++ae)) [] aj H' {s1 with heap:=h5}:=I5.toSuite;refine wpAny_handleBy_cons (codeAny_handlers_test (G4 (X:=X.suite ea (X.pn++ae)) I5m hg hm ?_ hd)) (by intro q;cases q);have LT:tY (model X.prog X.w) h5 (typeOf (.ref ea)) (.ref C):=by
   obtain⟨ob,kh,gF⟩:=mW.there;exact gF ▸ (PySem.W.Looks.ld kh).andThen .now
  refine (tR (K:=X.K) (M:=model X.prog X.w) I5.kIn LT hexm) _ _ _ _ (fun b o e=>e) ?_;refine codeAny_handlers_suite ?_;refine lands_againW mW fun h6 fw6 up6=>?_;have I6:=invAt h6 fw6 ((up4.trans up5).trans up6);refine q1_ (hs ea (X.pn++ae) [] _ _ _ D I6.toSuite jv) (fun f s8 q8=>?_) (fun _ _ z=>oz z);cases f with
  |next=>obtain⟨iu,H8,I8,q⟩:=q8;exact⟨iu,H8,I8.ofSuite I.ok.hd,q⟩
  |brk=>obtain⟨iu,H8,I8,q⟩:=q8;exact⟨iu,H8,I8.ofSuite I.ok.hd,q⟩
  |cont=>obtain⟨iu,H8,I8,q⟩:=q8;exact⟨iu,H8,I8.ofSuite I.ok.hd,q⟩
  |ret v=>obtain⟨x8,iu,H8,I8,r8,q⟩:=q8;exact⟨x8,iu,H8,I8.ofSuite I.ok.hd,r8,q⟩
end L2
namespace L2
open PySem PySem.Spec PyProof.Rows
noncomputable def VP (i:Nat)(f:Addr)(sp:Sp)(aI:List V)(E:XK)(t:TA):TE:=fun σ H Q=>tVar i σ H fun v H1=>v=.ref f/\t σ H1 fun vs H2=>sp (vs++aI) H2 Q E
theorem So : VP i f sp aI E t σ H Q=tVar i σ H fun v H1=>v=.ref f/\t σ H1 fun vs H2=>sp (vs++aI) H2 Q E:=rfl
theorem Sq : XM A σ H Z=A σ H fun vs H1=>∃i j:Int,vs=[.int i,.int j]/\(-(2 ^ 62)<=i/\i<2 ^ 62 /\ -(2 ^ 62)<=j/\j<2 ^ 62)/\Z (Itr i (j-i).toNat) H1:=rfl
section
variable {X:Cx} {CX CX':CXT} {k k':Nat} {f f':Addr} {fd fd':α6} {ps ps':List Str} {sp sp':Sp} {aI dvs':List V} {ds ds':List Value} {x:Str} {p pos:Pos} {e:Expr} {es:List Expr} {t:TA}
def Uu (i:Nat)(F:FnOk X.prog X.w X.K X.mg X.base CX k f fd ps sp)(hr:Room k X.A)(hk:keepIn X.K (.ref f)=true)(hb:Binds X.K fd ps ds)(hd:Vals aI ds)(hx:EO CX X E)(ha:PA X (e::es) t)
  (hN:X.N[i]?=some x:=by rfl) (hv:Vis X.env.scope x:=by first|exact ou rfl|exact oI (ou rfl)|exact oI (oI rfl)) (cW:(x==("__debug__" : Str))=false:=by decide) (cq:(x==("__classdict__" : Str))=false:=by decide)
  (he:starEach (e::es) X.env=(false,eval e X.env)::starEach es X.env:=by rfl) (b7:(backTo pos (starEach es X.env)).any (·.1)=false:=by rfl):
  PE X (.Call (.Name x p) (e::es) [] pos) (VP i f sp aI E t):=by
 intro ae s σ H Q I h;refine qP_ (thn (pv i hN hv cW cq ae s σ H _ I h) fun u s1 ⟨v,H1,I1,rv,ev,q⟩=>?_);subst ev;obtain rfl:u=Value.ref f:=rv;refine q6_ (h₀:=X.base) I.ok.mod.kin hk (thn (ha pos ae s1 σ H1 _ I1 q) fun us s2 ⟨vs,H2,I2,r,q2⟩=>⟨I2.kIn,?_⟩) he b7;exact Np F hr hb hd hx I2 r q2
end
end L2
namespace L2
open PySem PySem.Spec PyProof.Rows GW
noncomputable def SqB (K:α3)(H:Hp)(t:Bool)(a:Addr)(xs:List V):Prop:=match t with|false=>SqL K H a xs|true=>SqT K H a xs
def SqB.mono {K:α3} (h:SqB K H t a xs)(s:Same H H'):SqB K H' t a xs:=by
 cases t
 ·exact s.seq h
 ·exact s.seqT h
def SqB.or {K:α3} (h:SqB K H t a xs):SqL K H a xs\/SqT K H a xs:=by
 cases t
 ·exact .inl h
 ·exact .inr h
def P4 {K:α3} (f:V->V)(e:cp.st σ=none::aj)(hl:SqB K H t a xs)(hz:xs.length<sizeLine)(hs:∀x∈xs,∀R:VK,R (f x) H->te (some x::aj) H R)(hd:∀D,H D=none->Q (.ref D) (upd H D (.lst (xs.map f)))):
  ((∃xs,SqL K H a xs)/\IQ (Itl K a) cp (IK 0) NG te σ H Q)\/((∃xs,SqT K H a xs)/\IQ (Itt K a) cp (IK 0) NG te σ H Q):=by
 cases t
 ·exact .inl ⟨⟨_,hl⟩,MB f e hl hz hs hd⟩
 ·exact .inr ⟨⟨_,hl⟩,HH f e hl hz hs hd⟩
end L2
namespace Nest
noncomputable def sl (row:α2)(b i:Nat):α2:=(row.take i).drop b
noncomputable def outF (p e:Int)(s:α2×Int)(x:Int):α2×Int:=if x=e then (s.1,s.2-1) else (if s.2=0 then s.1++[x] else s.1,if p<=x then s.2+1 else s.2)
noncomputable def outS (p e:Int)(l:α2):α2×Int:=l.foldl (outF p e) ([],0)
noncomputable def outW (p e:Int)(l:α2):α2:=(outS p e l).1
noncomputable def prtF (p e:Int)(s:List (Int×α2)×α2×α1)(x:Int):List (Int×α2)×α2×α1:=
 if x=e then (s.1++[(s.2.1.getLastD 0,s.2.2.getLastD [])],s.2.1.dropLast,s.2.2.dropLast)
 else if p<=x then (s.1,s.2.1++[x-p],s.2.2.dropLast++[s.2.2.getLastD []++[x]]++[[]])
 else (s.1,s.2.1,s.2.2.dropLast++[s.2.2.getLastD []++[x]])
noncomputable def prtS (p e:Int)(ws:α2):List (Int×α2)×α2×α1:=ws.foldl (prtF p e) ([],[],[[]])
noncomputable def wd (p e:Int)(row:α2)(i a:Nat):α2:=outW p e (sl row (a+1) i)
end Nest
namespace L2
open PySem PySem.Spec PyProof.Rows GW
def P5 {K:α3} (hK:X.K=K)(hl:PE X l tl):PI X tg l (Wn K tl):=by subst hK;exact Bc hl
def WR {K:α3} (hK:X.K=K)(hl:PE X l tl):PI X tg l (iTup K tl):=by subst hK;exact Jt hl
end L2
namespace L2
open PySem PySem.Spec PyProof.Rows
def NQ {K:α3}(h:X.K=K):OpR X (binaryOp .Add) (Gx K):=by subst h;exact HI
end L2
namespace L2
open PySem PySem.W PySem.Spec PySem.Calls PyProof.Rows
noncomputable def BG (K:α3)(H:Hp)(xs:List V)(ws:α1):Prop:=xs.length=ws.length/\∀(i:Nat) (w:α2),ws[i]?=some w->∃t,xs[i]?=some (.ref t)/\H t=some (.lst (w.map V.int))
def BG.at {K:α3}{H:Hp}{xs:List V}{ws:α1}(h:BG K H xs ws){i:Nat}{x:V}(hx:xs[i]?=some x):∃t w,ws[i]?=some w/\x=.ref t/\H t=some (.lst (w.map V.int)):=by
 have hi:i<ws.length:=by rw[<-h.1];exact (ja_.mp hx).1
 obtain⟨t,a,b⟩:=h.2 i ws[i] (by simp[hi]);rw[hx]at a;exact⟨t,ws[i],by simp[hi],jB_ a,b⟩
noncomputable def MM (K:α3):V->List V->Hp->VK->Prop:=fun x vs H Q=>∃l xs t w ws,x=.ref l/\vs=[.ref t]/\H l=some (.lst xs)/\BG K H xs ws/\SqL K H t (w.map V.int)/\w∈ws/\xs.length<1000000/\Q (.int (ws.idxOf w:Nat)) H
theorem NR {K:α3} : MM K x vs H Q=∃l xs t w ws,x=.ref l/\vs=[.ref t]/\H l=some (.lst xs)/\BG K H xs ws/\SqL K H t (w.map V.int)/\w∈ws/\xs.length<1000000/\Q (.int (ws.idxOf w:Nat)) H:=rfl
def P6:∀{ws:α1} {m:Nat} {w:α2},ws[m]?=some w->ws.idxOf w<=m
 |[],m,w,h=>by simp at h
 |v::ws,m,w,h=>by
  rw[List.idxOf_cons];cases m with
  |zero=>
   have:v=w:=by simpa using h
   simp[this]
  |succ m=>
   have:=P6 (ws:=ws) (m:=m) (w:=w) (by simpa using h);cases e:(v==w) with
   |true=>exact j9_ _
   |false=>exact qC this
def QF (hu:X.A.units+8<cLine):MtM X "list.index" (MM X.K):=by
 intro ae s σ H x vs v us Q I rx rv h;obtain⟨l,xs,t,w,ws,rfl,rfl,hH,hw,ht,aO,ay,q⟩:=h;cases rx;obtain⟨u,rfl,ry⟩:=vals1 rv;cases ry;obtain⟨zz,its,n,r,hl,e⟩:=I.lstM hH
 let ev:Value->Bool:=fun y => @decide (∃(i:Nat) (a:Addr),y=.ref a/\xs[i]?=some (.ref a)/\ws[i]?=some w) (oy _)
 have ee:∀(i:Nat) (a:Addr) (v:α2),xs[i]?=some (.ref a)->ws[i]?=some v->ev (.ref a)=decide (v=w):=fun i a v hx hv=>by
  obtain⟨a',a1,a2⟩:=hw.2 i v hv;rw[hx]at a1;cases a1;rw[qr_];show @decide _ (oy _)=true↔_;rw[@decide_eq_true_iff _ (oy _),jU_];constructor
  ·rintro⟨j,b,hb,mS,kg⟩;cases hb;obtain⟨b',b1,b2⟩:=hw.2 j w kg;rw[mS]at b1;cases b1;rw[a2]at b2;have:=jB_ b2;injection this with this;exact (xB_ (fun x y z=>V.int.inj z)).mp this
  ·rintro rfl;exact⟨i,a,rfl,hx,hv⟩
 have av:xs.length=ws.length:=hw.1;have bG:xs.length=its.length:=r.length;have get:∀(m:Nat) (hm:m<its.toArray.size),∃(a:Addr) (v:α2),its.toArray[m]=.ref a/\xs[m]?=some (.ref a)/\ws[m]?=some v/\H a=some (.lst (v.map V.int)):=fun m hm=>by
  have eK:m<xs.length:=by rw[jk_]at hm;lia
  obtain⟨a,v,e1,e2,e3⟩:=hw.at (i:=m) (x:=xs[m]) (by simp[eK]);have hx:xs[m]?=some (.ref a):=by rw[je_ eK,e2]
  obtain⟨w',f1,f2⟩:=r.get hx;have e4:its.toArray[m]=w':=by
   have:its[m]?=some its.toArray[m]:=by simp at hm;simp[hm]
   rw[f1]at this;exact (jB_ this).symm
  cases f2;exact⟨a,v,e4,hx,e1,e3⟩
 have hj:ws.idxOf w<ws.length:=oU aO;have hjs:ws.idxOf w<its.toArray.size:=by rw[jk_];lia
 refine zm_ F.slot_list_index ⟨_,e,rfl⟩ F.entry_list_index (F.args_list_index_2 _ _) (SeqAt.list_indexAt l its.toArray n none #[] (.ref t) ev (ws.idxOf w) hjs s!"" ?_ fun m hm hmj=>?_) ⟨e,fun y hy=>?_,?_⟩
 ·obtain⟨a,v,e1,e2,e3,e4⟩:=get _ hjs;rw[e1,ee _ a v e2 e3];have:ws[ws.idxOf w]?=some w:=by rw[je_ hj,xC_]
  rw[this]at e3;cases e3;simp
 ·obtain⟨a,v,e1,e2,e3,e4⟩:=get m hm;rw[e1,ee _ a v e2 e3,decide_eq_false_iff_not];intro z;have eK:m<ws.length:=by lia
  have:ws[m]=w:=by rw[je_ eK]at e3;rw[jB_ e3];exact z
  have h2:=P6 (ws:=ws) (m:=m) (w:=w) (by rw[je_ eK,this]);lia
 ·obtain⟨m,hm,em⟩:=jL_ (show y∈its by simpa using hy);obtain⟨a,v,e1,e2,e3,e4⟩:=get m (by rw[jk_];exact hm);have:y=.ref a:=by rw[<-em,<-e1];simp
  rw[this,ee m a v e2 e3];exact (EqD.at (x:=V.ref a) (y:=V.ref t) I 2 _ (by rw[in1_units];lia) rfl rfl (EqD.ints (xs:=v) (ys:=w) (.inl ⟨SqL.of e4,ht⟩) 1)).1
 ·exact⟨.int (ws.idxOf w:Nat),H,I.tok _,⟨_,rfl⟩,q⟩
end L2
set_option maxHeartbeats 1000000
namespace L2
open PySem PySem.Spec PyProof.Rows
noncomputable def Its (x:Str):It:=⟨fun i _=>i<x.cps.size,fun i H v H'=>H'=H/\∃c,x.cps[i]?=some c/\v=.str ⟨#[c]⟩,fun i _=>x.cps.size<=i⟩
def P7 {P:Program}{w:World}{K:α3}{tg:Expr}(ty:String)(hU:ty = "str_ascii_iterator" \/ ty = "str_iterator")(x:Str)(t:Tok)(it:Addr):Turn P w K tg (Its x) [it] it (fun i h=>h.IsStrIter it ty x t i) where
 mem:=by simp
 obj:=fun i h st b hb=>by
  have e:b=it:=by simpa using hb
  subst e;obtain⟨o,e,c,d⟩:=st;exact⟨o,e,fun v z=>by rw[d]at z;cases z⟩
 keep:=fun i h h' st k=>by
  obtain⟨o,ho,r⟩:=st;exact⟨o,k it (by simp) o ho,r⟩
 item:=by
  intro X hP hw hK hc i ae s σ H E I hf st hg;subst hP hw hK;obtain⟨f0,f1,f2,f3,f4,f5⟩:=hf it (by simp);have iw:i<x.cps.size:=hg;have hx:x.cps[i]?=some x.cps[i]:=by simp[iw]
  rcases hU with rfl|rfl
  ·refine wpAny_pyNext_ascii_item st hx fun h' cu sb=>?_;have I1:Inv X ae σ H {s with heap:=h',toks:=s.toks+1}:=I.turned (t':=s.toks+1) (fun b o hb e=>(sb.2 b hb).trans e) f0 f1 f3 f4 f5;obtain⟨o,e,c,d⟩:=id cu;exact⟨_,rfl,Qn (s:={s with heap:=h',toks:=s.toks+1}) e c d (by decide) ⟨.str ⟨#[x.cps[i]]⟩,H,I1,⟨_,rfl⟩,⟨rfl,_,hx,rfl⟩,cu,fun b hb=>(hf b hb).1⟩⟩
  ·refine wpAny_pyNext_wide_item st hx fun h' cu sb=>?_;have I1:Inv X ae σ H {s with heap:=h',toks:=s.toks+1}:=I.turned (t':=s.toks+1) (fun b o hb e=>(sb.2 b hb).trans e) f0 f1 f3 f4 f5;obtain⟨o,e,c,d⟩:=id cu;exact⟨_,rfl,Qn (s:={s with heap:=h',toks:=s.toks+1}) e c d (by decide) ⟨.str ⟨#[x.cps[i]]⟩,H,I1,⟨_,rfl⟩,⟨rfl,_,hx,rfl⟩,cu,fun b hb=>(hf b hb).1⟩⟩
 done:=by
  intro X hP hw hK hc i ae s σ H E I hf st hg;subst hP hw hK;obtain⟨f0,f1,f2,f3,f4,f5⟩:=hf it (by simp);have iw:x.cps.size<=i:=hg;rcases hU with rfl|rfl
  ·exact wpAny_pyNext_ascii_end (I.ok.hd hc) st (by simp[iw]) fun h' eb=>⟨rfl,I.turned (t':=s.toks) (fun b o hb e=>eb b o hb e) f0 f1 f3 f4 f5⟩
  ·exact wpAny_pyNext_wide_end (I.ok.hd hc) st (by simp[iw]) fun h' eb=>⟨rfl,I.turned (t':=s.toks) (fun b o hb e=>eb b o hb e) f0 f1 f3 f4 f5⟩
 self:=fun _ _ _ _ _ st h=>by
  rcases hU with rfl|rfl
  ·exact wpAny_pyIter_striter_ascii st h
  ·exact wpAny_pyIter_striter_wide st h
noncomputable def iStr (tl:TE):TI:=fun σ H R=>tl σ H fun x H1=>∃z,x=.str z/\R (Its z) H1
theorem VQ : iStr te σ H Z=te σ H fun x H1=>∃z,x=.str z/\Z (Its z) H1:=rfl
def YC (hl:PE X l tl):PI X tg l (iStr tl):=by
 intro ae s σ H R I h;refine thn (hl ae s σ H _ I h) fun v s1 ⟨x,H1,I1,r1,q1⟩=>?_;obtain⟨z,e,q⟩:=q1;subst e;obtain⟨t,rfl⟩:=r1;have hb:∀b ∈ [s1.heap.objs.size],FpOk X ae H1 b:=fun b hb=>by
  have e:b=s1.heap.objs.size:=by simpa using hb
  subst e;exact I1.fpOk (jh_ _) (I1.hok.fresh (jh_ _))
 cases ha:z.cps.all (· < 128)
 ·exact wpAny_pyIter_wide ha ⟨s1.heap.objs.size,[s1.heap.objs.size],_,_,H1,rfl,I1.kept (t':=s1.toks) fun b o e=>jl_ _ e,P7 "str_iterator" (.inr rfl) z t _,⟨_,jw_ _ rfl,rfl,rfl⟩,hb,q⟩
 ·exact wpAny_pyIter_ascii ha ⟨s1.heap.objs.size,[s1.heap.objs.size],_,_,H1,rfl,I1.kept (t':=s1.toks) fun b o e=>jl_ _ e,P7 "str_ascii_iterator" (.inl rfl) z t _,⟨_,jw_ _ rfl,rfl,rfl⟩,hb,q⟩
def YD (Pv:Nat->List V->St->Hp->Prop)(h0:Pv 0 [] (cp.st σ) H)(hz:z.cps.size<sizeLine)
  (hl:∀i ys σ H,i<=z.cps.size->Pv i ys σ H->ys.length<=i)
  (hs:∀i c ys σ H,z.cps[i]?=some c->Pv i ys σ H->g (.str ⟨#[c]⟩) σ H fun aq H2=>tc aq H2 fun b H3=>if b=true then te aq H3 fun v H4=>Pv (i+1) (ys++[v]) aq H4 else Pv (i+1) ys aq H3)
  (hd:∀ys σ H,Pv z.cps.size ys σ H->∀D,H D=none->Q (.ref D) (upd H D (.lst ys))):IQ (Its z) cp g tc te σ H Q:=by
 refine⟨fun i m ys σ H=>m=z.cps.size-i/\i<=z.cps.size/\Pv i ys σ H,⟨z.cps.size,by simp,j9_ _,h0⟩,?_⟩;rintro i m ys σ H ⟨rfl,hi,p⟩;have ly:=hl i ys σ H hi p;refine⟨by lia,?_⟩;by_cases ay:i<z.cps.size
 ·refine .inr ⟨ay,Pv (i+1),fun zs aj H' p'=>⟨z.cps.size-(i+1),by lia,rfl,ay,p'⟩,fun x H' y=>?_⟩;obtain⟨rfl,c,hc,rfl⟩:=y;exact hs i c ys σ _ hc p
 ·have e:i=z.cps.size:=by lia
  subst e;exact .inl ⟨jh_ _,hd ys σ H p⟩
def P8:∀{ys:List Str} {us:List Value},Vals (ys.map V.str) us->StrsAre us ys
 |[],us,r=>by cases r;exact .nil
 |y::ys,us,r=>by
  cases r with
  |cons a b=>
   obtain⟨t,rfl⟩:=a;exact .cons y t (P8 b)
noncomputable def VR (K:α3):V->List V->Hp->VK->Prop:=fun x xs H Q=>∃z l ys,x=.str z/\xs=[.ref l]/\SqL K H l (ys.map V.str)/\z.length<=16/\(ys.map (·.length)).sum+ys.length<=1048576/\Q (.str (Txt.join z ys)) H
def Ki : MtR X "str.join" (VR X.K):=by
 intro ae s σ H x xs v us Q I rx rv h;obtain⟨z,l,ys,rfl,rfl,hl,hz,hw,q⟩:=h;obtain⟨t,rfl⟩:=rx;obtain⟨u,rfl,ry⟩:=vals1 rv;cases ry;obtain⟨its,r,p,hh⟩:=I.list hl;exact join_listW p.isList (by simpa using P8 r) hz hw fun t' k=>⟨.str _,H,I.tok _,⟨_,rfl⟩,q⟩
noncomputable def rSlS:V->Option Int->Option Int->Hp->VK->Prop:=fun x lo hi H Q=>∃z,x=.str z/\z.length<=sizeLine/\Q (.str (Txt.slice z lo hi)) H
def VS : SlR X rSlS:=by
 intro ae s σ H x v vl vu lo hi sl Q I rx hs pl pu h;obtain⟨z,rfl,hz,q⟩:=h;obtain⟨t,rfl⟩:=rx;refine⟨"str",_,F.slot_str_getitem.lookup,zC_ _ _ _,?_⟩;cases pl with
 |none=>
  cases pu with
  |none=>exact xo_ (l:=none) (u:=none) (st:=none) hs rfl (zr_ ⟨j1_ (zv_ z _ _) hz,fun t' k=>⟨.str _,H,I.tok _,⟨_,rfl⟩,q⟩⟩)
  |int j u=>exact xo_ (l:=none) (u:=some (j,u)) (st:=none) hs rfl (zr_ ⟨j1_ (zv_ z _ _) hz,fun t' k=>⟨.str _,H,I.tok _,⟨_,rfl⟩,q⟩⟩)
 |int i w=>
  cases pu with
  |none=>exact xo_ (l:=some (i,w)) (u:=none) (st:=none) hs rfl (zr_ ⟨j1_ (zv_ z _ _) hz,fun t' k=>⟨.str _,H,I.tok _,⟨_,rfl⟩,q⟩⟩)
  |int j u=>exact xo_ (l:=some (i,w)) (u:=some (j,u)) (st:=none) hs rfl (zr_ ⟨j1_ (zv_ z _ _) hz,fun t' k=>⟨.str _,H,I.tok _,⟨_,rfl⟩,q⟩⟩)
section
variable {K:α3} {x:V} {xs:List V} {lo hi:Option Int} {H:Hp} {Q:VK}
theorem Sr:VR K x xs H Q=∃z l ys,x=.str z/\xs=[.ref l]/\SqL K H l (ys.map V.str)/\z.length<=16/\(ys.map (·.length)).sum+ys.length<=1048576/\Q (.str (Txt.join z ys)) H:=rfl
theorem YE : rIxS x y H Q=∃z i c,x=.str z/\y=.int i/\z.length<=sizeLine/\atI z.cps.toList i=some c/\Q (.str ⟨#[c]⟩) H:=rfl
theorem YF:rSlS x lo hi H Q=∃z,x=.str z/\z.length<=sizeLine/\Q (.str (Txt.slice z lo hi)) H:=rfl
end
def Ss (hg:Gl X x)(hm:∃t,X.mg x=some (.str z t))(hd:(x==("__debug__" : Str))=false:=by decide):PE X (.Name x pos) (tC (.str z)):=by
 obtain⟨t,hm⟩:=hm;exact Ot hg hm ⟨_,rfl⟩ hd
end L2
set_option maxHeartbeats 4000000
namespace L2
section
variable {α:Type} [DecidableEq α]
noncomputable def ins1 (ah:List α)(x:α):List α:=if x∈ah then ah else ah++[x]
noncomputable def WT (ah row:List α):List α:=row.foldl ins1 ah
noncomputable def Su (row:List α):List α:=WT [] row
noncomputable def num (row:List α):α2:=row.map fun x=>((Su row).idxOf x:Int)
noncomputable def ncl (row:List α):Nat:=(Su row).length
end
noncomputable def rowB (n:Nat)(b:α2->Nat->Int)(w:α2):α2:=(om n).map (b w)
noncomputable abbrev StC:=α1×α2
noncomputable def Zi (n:Nat)(b:α2->Nat->Int)(w:α2)(st:StC)(x:Nat):StC:=if ncl st.2<ncl (st.2.zip (rowB n b ((x:Int)::w))) then (st.1++[(x:Int)::w],num (st.2.zip (rowB n b ((x:Int)::w)))) else st
noncomputable def YG (n:Nat)(b:α2->Nat->Int)(w:α2)(L:Nat)(st:StC):StC:=(om L).foldl (Zi n b w) st
noncomputable def VT (n:Nat)(b:α2->Nat->Int)(L:Nat):Nat->Nat->StC->StC
 |0,_,st=>st
 |f+1,k,st=>if k<st.1.length then VT n b L f (k+1) (YG n b (st.1.getD k []) L st) else st
section
variable {n L:Nat} {b:α2->Nat->Int} {w:α2} {st:StC}
noncomputable def wcOf (n L:Nat)(b:α2->Nat->Int):StC:=VT n b L 41 0 ([[]],num (rowB n b []))
end
end L2
namespace L2
open GW GB
noncomputable def bW (af:α2)(ag:α1)(w:α2)(r:Nat):Int:=af.getD (Ba ag (r:Int) w).toNat 0
noncomputable def cf (c:α2)(r:Int):Int:=c.getD r.toNat 0
noncomputable def hm (c R:α2)(r:Int):Int:=(((Su (R.map (cf c))).idxOf (cf c r):Nat):Int)
noncomputable def YH (c ah:α2)(r:Int):α2:=if cf c r∈ah.map (cf c) then ah else ah++[r]
noncomputable def FR (c R:α2):α2:=R.foldl (YH c) []
noncomputable def hrow (c R:α2)(ag:α1)(r:Int):α2:=(ag.getD r.toNat []).map (hm c R)
noncomputable def cOf (L:Nat)(af:α2)(ag:α1):α2:=(wcOf af.length L (bW af ag)).2
noncomputable def rOf (ag:α1):α2:=(R6 ag).map (·.1)
noncomputable def sF (L:Nat)(af:α2)(ag:α1):α2:=FR (cOf L af ag) (rOf ag)
noncomputable def hO (L:Nat)(af:α2)(ag:α1)(r:Int):Int:=hm (cOf L af ag) (rOf ag) r
section
variable {L:Nat} {af:α2} {ag:α1}
noncomputable def wi (ag:α1)(r:Int):α2:=(((R6 ag).find? fun e=>decide (e.1=r)).map (·.2)).getD []
end
def NS (ag:α1)(r:Int)(u v:α2):Ba ag r (u++v)=Ba ag (Ba ag r u) v:=by unfold Ba;rw[qg_]
end L2
set_option maxHeartbeats 1000000
namespace L2
open PySem PySem.Spec PyProof.Rows
def NT:∀{l:List (Str×Tok)} {ys:List Str},l.map (·.1)=ys->Vals (ys.map V.str) (strValues l)
 |[],_,rfl=>.nil
 | (x,t)::l,_,rfl=>.cons ⟨t,rfl⟩ (NT rfl)
noncomputable def VU:V->List V->Hp->VK->Prop:=fun x xs H Q=>∃z y,x=.str z/\xs=[.str y]/\(y.length==0)=false/\z.length<=900000/\∀l,H l=none->Q (.ref l) (upd H l (.lst ((Txt.split z y).map V.str)))
theorem Sv : VU x xs H Q=∃z y,x=.str z/\xs=[.str y]/\(y.length==0)=false/\z.length<=900000/\∀l,H l=none->Q (.ref l) (upd H l (.lst ((Txt.split z y).map V.str))):=rfl
def HS : MtR X "str.split" VU:=by
 intro ae s σ H x xs v us Q I rx rv h;obtain⟨z,y,rfl,rfl,hy,hz,q⟩:=h;obtain⟨t,rfl⟩:=rx;obtain⟨w',rfl,ry⟩:=vals1 rv;obtain⟨u,rfl⟩:=ry;have hl:=Ak;have hf:H s.heap.objs.size=none:=I.hok.fresh (jh_ _);have hp:(Builtin.Str.partsBetween z (Builtin.Str.occurrences z y 0 z.length (z.length+1)) y.length).length<=sizeLine:=by
  rw[oP];have:=StrLaws.occ_length_le z y 0 z.length (z.length+1);lia
 have fin:∀(l:List (Str×Tok)) (k:Nat),l.map (·.1)=Txt.split z y->l.length<=sizeLine->EP X ae σ Q (.ref s.heap.objs.size) {s with heap:=s.heap.push {cls:=.type "list",data:=.seq (strValues l).toArray},toks:=k}:=fun l k e lF=>
  ⟨.ref s.heap.objs.size,upd H s.heap.objs.size (.lst ((Txt.split z y).map V.str)),I.laid (t':=k) (fun b u e=>jl_ _ e) (jh_ _) ⟨by rw[jb_,<-e,jb_];exact lF,strValues l,0,NT e,jw_ _ rfl⟩,rfl,q _ hf⟩
 cases h1:(decide (z.length<y.length)||decide (Builtin.Str.strKind z<Builtin.Str.strKind y))
 ·cases hf:(Builtin.Str.occurrences z y 0 z.length (z.length+1)).isEmpty
  ·refine zm_ F.slot_str_split (zC_ _ _ _) F.entry_str_split (F.args_str_split_2 _ _) (meets_str_split_sep z y t u h1 hy hf s!"" hp) ?_;show wants _ _ _ {s with toks:=_,heap:=s.heap.push {cls:=.type "list",data:=.seq (strsFrom s.toks (Builtin.Str.partsBetween z (Builtin.Str.occurrences z y 0 z.length (z.length+1)) y.length)).toArray} };rw[strsFrom_eq];exact fin (numbered s.toks _) _ ((numbered_texts _ _).trans ((if_neg (zs_ h1)).trans (if_neg (zs_ hf))).symm) (by
    have:=qn_ o9 (numbered_texts s.toks (Builtin.Str.partsBetween z (Builtin.Str.occurrences z y 0 z.length (z.length+1)) y.length));rw[jb_]at this;rw[this];exact hp)
  ·exact zm_ F.slot_str_split (zC_ _ _ _) F.entry_str_split (F.args_str_split_2 _ _) (meets_str_split_not_found z y t u h1 hy hf)
    (fin [(z,t)] s.toks ((if_neg (zs_ h1)).trans (if_pos hf)).symm (by show 1<=sizeLine;lia))
 ·exact zm_ F.slot_str_split (zC_ _ _ _) F.entry_str_split (F.args_str_split_2 _ _) (meets_str_split_cannot_occur z y t u h1)
   (fin [(z,t)] s.toks (if_pos h1).symm (by show 1<=sizeLine;lia))
noncomputable def nt (n:Int):Str:=Str.ofString (toString n)
def Bv : DA X (.type "str") (fun xs H Q=>∃i:Int,xs=[.int i]/\0<=i/\i<10 ^ 10/\Q (.str (nt i)) H):=by
 intro ae s σ H xs us Q I r h;obtain⟨i,rfl,h0,h1,q⟩:=h;obtain⟨u,rfl,t,rfl⟩:=vals1 r;refine P.str_of_int ?_ ⟨.str (nt i),H,I.tok _,⟨_,rfl⟩,q⟩;by_cases hz:i.natAbs=0
 ·rw[hz];decide
 ·have e34:(2:Nat) ^ 34=17179869184:=by decide
  have:=(Nat.log2_lt hz (k:=34)).mpr s!"";lia
def Sw : DA X (.type "int") (fun xs H Q=>∃i:Int,xs=[.str (nt i)]/\0<=i/\i<10 ^ 10/\Q (.int i) H):=by
 intro ae s σ H xs us Q I r h;obtain⟨i,rfl,h0,h1,q⟩:=h;obtain⟨u,rfl,t,rfl⟩:=vals1 r;exact PySem.W.KIN.call_num h0 h1 ⟨.int i,H,I.tok _,⟨_,rfl⟩,q⟩
noncomputable def jn (c:Nat):List (List Nat)->List Nat
 |[]=>[]
 |[p]=>p
 |p::q::r=>p++c::jn c (q::r)
def Sx {c:Nat}:∀{p q A B:List Nat},c∉p->c∉q->p++c::A=q++c::B->p=q/\A=B
 |[],[],A,B,_,_,h=>⟨rfl,(zE_ h).2⟩
 |[],y::q,A,B,_,hq,h=>absurd (zE_ h).1 (fun e=>hq (e ▸ js_ ..))
 |x::p,[],A,B,hp,_,h=>absurd (zE_ h).1 (fun e=>hp (e ▸ js_ ..))
 |x::p,y::q,A,B,hp,hq,h=>by
  obtain⟨e,h⟩:=zE_ h;obtain⟨a,b⟩:=Sx (fun z=>hp (jm_ _ z)) (fun z=>hq (jm_ _ z)) h;exact⟨by rw[e,a],b⟩
def VW {c:Nat}:∀{xs ys:List (List Nat)},xs ≠ []->ys ≠ []->(∀p∈xs,c∉p)->(∀p∈ys,c∉p)->jn c xs=jn c ys->xs=ys
 |[],_,h,_,_,_,_=>absurd rfl h
 |_,[],_,h,_,_,_=>absurd rfl h
 |[p],[q],_,_,_,_,h=>by rw[show p=q from h]
 |[p],q::q'::r,_,_,hp,_,h=>absurd (show c∈p by rw[show p=q++c::jn c (q'::r) from h];simp) (hp p (js_ ..))
 |p::p'::r,[q],_,_,_,hq,h=>absurd (show c∈q by rw[<-show p++c::jn c (p'::r)=q from h];simp) (hq q (js_ ..))
 |p::p'::r,q::q'::r',_,_,hp,hq,h=>by
  obtain⟨a,b⟩:=Sx (hp p (js_ ..)) (hq q (js_ ..)) (show p++c::jn c (p'::r)=q++c::jn c (q'::r') from h);rw[a,VW (by simp) (by simp) (fun x hx=>hp x (jm_ _ hx)) (fun x hx=>hq x (jm_ _ hx)) b]
def IU (c:Nat):∀ps:List Str,(Str.join ⟨#[c]⟩ ps).cps.toList=jn c (ps.map (·.cps.toList))
 |[]=>rfl
 |[p]=>rfl
 |p::q::r=>by
  show (p++(⟨#[c]⟩:Str)++Str.join ⟨#[c]⟩ (q::r)).cps.toList=_;rw[qt_,qt_,j4_,j4_,IU c (q::r)];simp[jn]
def MN (x:Str)(c dz:Nat):∀(n a:Nat) (st:Array Nat×Nat),st.snd<=a->st.fst.size+n<=dz->(forIn (oQ a n) st (StrLaws.occBody x ⟨#[c]⟩ x.length dz)).run.fst.toList=st.fst.toList++(oQ a n).filter (fun i=>decide (x.cps.toList[i]?=some c))
 |0,a,st,_,_=>by simp
 |n+1,a,st,h1,h2=>by
  rw[qF,pL];unfold StrLaws.occBody;by_cases hc:x.cps.toList[a]?=some c
  ·have hs:=(StrLaws.subAt_one x c a).mpr hc;rw[if_pos ⟨⟨⟨by lia,h1⟩,hs.1⟩,hs.2⟩];have:=MN x c dz n (a+1) (st.fst.push a,a+1) (jh_ _) (by rw[Array.size_push];lia);unfold StrLaws.occBody at this;refine Eq.trans this ?_;rw[Array.toList_push,pq (by simpa using hc),qx_];rfl
  ·rw[if_neg (fun z=>hc ((StrLaws.subAt_one x c a).mp ⟨z.1.2,z.2⟩))];have:=MN x c dz n (a+1) st s!"" s!"";unfold StrLaws.occBody at this;refine Eq.trans this ?_;rw[pz (by simpa using hc)]
def WU (x:Str)(c:Nat):Builtin.Str.occurrences x ⟨#[c]⟩ 0 x.length (x.length+1)=(oQ 0 (x.length+1)).filter (fun i=>decide (x.cps.toList[i]?=some c)):=by
 rw[StrLaws.occ_eq,MN x c _ _ 0 (#[],0) (jh_ _) (by simp)];simp
def P9 (h:∀i,a<=i->i<b->x.cps.toList[i]? ≠ some c):c∉(Builtin.Str.strSub x a b).cps.toList:=fun hm=>by
 rw[StrLaws.strSub_toList]at hm;obtain⟨i,hi⟩:=jK_.mp hm;rw[xD_]at hi;split at hi
 ·rw[List.getElem?_drop]at hi;exact h (a+i) s!"" s!"" hi
 ·cases hi
def IV (x:Str)(c:Nat):∀(n a:Nat),a+n=x.length+1->∀b,b<=a->(∀i,b<=i->i<a->x.cps.toList[i]? ≠ some c)->∀p∈StrLaws.partsFrom x 1 b ((oQ a n).filter (fun i=>decide (x.cps.toList[i]?=some c))),c∉p.cps.toList
 |0,a,e,b,hb,hf,p,hp=>by
  have hp:p=Builtin.Str.strSub x b x.length:=by simpa [StrLaws.partsFrom] using hp
  rw[hp];exact P9 fun i h1 h2=>hf i h1 s!""
 |n+1,a,e,b,hb,hf,p,hp=>by
  rw[qF]at hp;by_cases hc:x.cps.toList[a]?=some c
  ·rw[pq (by simpa using hc)]at hp;rcases jr_.mp (show p∈Builtin.Str.strSub x b a::StrLaws.partsFrom x 1 (a+1) ((oQ (a+1) n).filter (fun i=>decide (x.cps.toList[i]?=some c))) from hp) with rfl|hp
   ·exact P9 hf
   ·exact IV x c n (a+1) s!"" (a+1) (jh_ _) (fun i h1 h2=>by lia) p hp
  ·rw[pz (by simpa using hc)]at hp;refine IV x c n (a+1) s!"" b s!"" (fun i h1 h2=>?_) p hp;by_cases e:i=a
   ·rw[e];exact hc
   ·exact hf i h1 s!""
def QG (x:Str)(c:Nat)(hk:Builtin.Str.strKind ⟨#[c]⟩<=Builtin.Str.strKind x\/c∉x.cps.toList):∀p∈Txt.split x ⟨#[c]⟩,c∉p.cps.toList:=by
 have hn:x.cps.toList.length=x.length:=by simp[Str.length]
 intro p hp;unfold Txt.split at hp;split at hp
 ·rename_i h
  rw[jd_.mp hp];rw[qK,jU_,jU_]at h;rcases h with h|h
  ·have:x.length=0:=by have h':x.length<1:=h;lia
   intro z;have:=qq_ z;lia
  ·rcases hk with hk|hk
   ·lia
   ·exact hk
 ·rw[WU]at hp;split at hp
  ·rename_i h
   rw[jd_.mp hp];intro z;obtain⟨i,hi⟩:=jK_.mp z;have bu:=(ja_.mp hi).1;have:i∈(oQ 0 (x.length+1)).filter (fun i=>decide (x.cps.toList[i]?=some c)):=qA_.mpr ⟨by simp[List.mem_range'];lia,by simpa using hi⟩;rw[List.isEmpty_iff.mp h]at this;cases this
  ·rw[StrLaws.partsBetween_eq]at hp;exact IV x c (x.length+1) 0 s!"" 0 (jh_ _) (fun i h1 h2=>by lia) p hp
def Uv (x y:Str):Txt.split x y ≠ []:=by
 unfold Txt.split;split
 ·simp
 ·split
  ·simp
  ·intro z;have:=qn_ o9 z;rw[oP]at this;simp at this
def Uw (hc:c<128)(x:Str):Builtin.Str.strKind ⟨#[c]⟩<=Builtin.Str.strKind x:=by
 have e:Builtin.Str.strKind ⟨#[c]⟩=1:=by
  unfold Builtin.Str.strKind;rw[if_pos];simp;lia
 rw[e];unfold Builtin.Str.strKind;split
 ·exact jh_ _
 ·split<;>decide
def Gg (hc:c<128) (aA:ps ≠ [])(hf:∀p∈ps,c∉p.cps.toList):Txt.split (Txt.join ⟨#[c]⟩ ps) ⟨#[c]⟩=ps:=by
 have h1:=StrLaws.join_split (Txt.join ⟨#[c]⟩ ps) ⟨#[c]⟩;have h2:Txt.join ⟨#[c]⟩ ps=Str.join ⟨#[c]⟩ ps:=qy_ _ _;have h3:=qn_ (fun x:Str=>x.cps.toList) h1;rw[IU,h2,IU]at h3;have h4:=VW (by simpa using Uv _ _) (by simpa using aA) (fun p hp=>by
  obtain⟨q,hq,rfl⟩:=jq_.mp hp;exact QG _ c (.inl (Uw hc _)) q hq) (fun p hp=>by
  obtain⟨q,hq,rfl⟩:=jq_.mp hp;exact hf q hq) h3
 rw[h2];exact (xB_ (fun a b e=>Str.ext' (Array.toList_inj.mp e))).mp h4
def MO {m:Nat}:(nt (m:Int)).cps.toList=(pG 10 m).map Char.toNat:=PySem.W.KIN.signs_num m
def VX (m:Nat):pG 10 m ≠ []:=Nat.toDigits_ne_nil
def Ux:∀m:Nat,m≠0->(pG 10 m)[0]? ≠ some '0':=by
 intro m
 induction m using qL with
 |_ m ih=>
  intro hm;by_cases h:m<10
  ·rw[Nat.toDigits_of_lt_base h];intro z;have z:rR m = '0':=by simpa using z
   have:∀d:Nat,d<10->rR d = '0'->d=0:=by decide
   exact hm (this m h z)
  ·rw[Nat.toDigits_of_base_le (by decide) s!""];rw[ji_ (qZ_.mpr (VX _))];exact ih (m / 10) s!"" s!""
def Qa (h0:0<=n) (hc:c∈(nt n).cps.toList):48<=c/\c<=57:=by
 obtain⟨m,rfl⟩:=qU_ h0;rw[MO]at hc;obtain⟨ch,eA,e⟩:=jq_.mp hc;have r:=rS (Nat.isDigit_of_mem_toDigits (by decide) (by decide) eA);rw[<-e];exact r
def KN (h0:0<=n)(h1:n<10 ^ 10):1<=(nt n).length/\(nt n).length<=10:=by
 refine⟨?_,PySem.W.KT.len_num h0 h1⟩;obtain⟨m,rfl⟩:=qU_ h0;have e:(nt (m:Int)).cps.toList.length=(nt (m:Int)).length:=by simp[Str.length]
 rw[<-e,MO,jb_];exact qZ_.mpr (VX _)
def WV (h0:0<=n)(h:(nt n).cps.toList[0]?=some 48):n=0:=by
 obtain⟨m,rfl⟩:=qU_ h0;rw[MO,jj_]at h;by_cases hm:m=0
 ·subst hm;rfl
 ·exfalso;cases e:(pG 10 m)[0]? with
  |none=>rw[e]at h;cases h
  |some ch=>
   rw[e]at h;have h:ch.toNat=48:=jB_ h;refine Ux m hm ?_;rw[e]
   congr 1
   exact Char.toNat_inj.mp h
def WW:nt 0=⟨#[48]⟩:=by decide +kernel
end L2
set_option maxHeartbeats 4000000
namespace L2
open PySem PySem.Spec PyProof.Rows
def Bw : DA X (.type "tuple") (fun xs H Q=>∃p ys,xs=[.ref p]/\((SqL X.K H p ys/\∀l,H l=none->Q (.ref l) (upd H l (.tup ys)))\/False)):=fun ae s σ H xs us Q I r h=>by
 obtain⟨p,ys,e,h|h⟩:=h
 ·exact CY ae s σ H xs us Q I r ⟨p,ys,e,.inl h⟩
 ·exact h.elim
def len1 {α:Type}{us:List α}(h:us.length=1):∃a,us=[a]:=by match us,h with|[a],_=>exact⟨a,rfl⟩
def len2 {α:Type}{us:List α}(h:us.length=2):∃a b,us=[a,b]:=by match us,h with|[a,b],_=>exact⟨a,b,rfl⟩
def len3 {α:Type}{us:List α}(h:us.length=3):∃a b c,us=[a,b,c]:=by match us,h with|[a,b,c],_=>exact⟨a,b,c,rfl⟩
def len4 {α:Type}{us:List α}(h:us.length=4):∃a b c d,us=[a,b,c,d]:=by match us,h with|[a,b,c,d],_=>exact⟨a,b,c,d,rfl⟩
def len6 {α:Type}{us:List α}(h:us.length=6):∃a b c d e f,us=[a,b,c,d,e,f]:=by match us,h with|[a,b,c,d,e,f],_=>exact⟨a,b,c,d,e,f,rfl⟩
noncomputable def Sy (u:TS)(D:Ends):St->Hp->Prop:=u D
noncomputable def YI (t u:TS):TS:=fun D σ H=>t {D with nx:=Sy u D} σ H
theorem VY : YI t u D σ H=t {D with nx:=Sy u D} σ H:=rfl
def Es (h:u D σ H):Sy u D σ H:=h
def Et {st:Stmt}{rest:List Stmt} (h1:PS X st t)(h2:PSs X rest u):PSs X (st::rest) (YI t u):=Ac h1 h2
end L2
set_option maxHeartbeats 1000000
set_option maxHeartbeats 4000000
namespace PySem.W
open PySem PySem.Calls PyProof.Rows PyProof.V PySem.Spec
end PySem.W
namespace L2
open PySem PySem.W PySem.Spec PySem.Calls PyProof.Rows
structure CMeth (K:α3)(C:Addr)(m:Str)(f:Addr):Prop where
 sg:qi K (.ref C) "__getattribute__"=some (some (.builtin "type.__getattribute__"))
 rd:tS K C (.type "type")=true
 fc:tT K (.ref C) (.type "type") m=some (.val (.ref f))
 kp:keepIn K (.ref f)=true
section
variable {X:Cx} {CX:CXT} {k:Nat} {f C:Addr} {fd:α6} {ps:List Str} {sp:Sp} {aI:List V} {ds:List Value} {E:XK} {x m:Str} {np aC pos:Pos} {e:Expr} {es:List Expr} {t:TA}
def YJ (hg:Gl X x)(hmx:X.mg x=some (.ref C))(hm:CMeth X.K C m f)(F:FnOk X.prog X.w X.K X.mg X.base CX k f fd ps sp)(hr:Room k X.A)(hb:Binds X.K fd ps ds)(hd:Vals aI ds)(hx:EO CX X E)(ha:PA X (e::es) t)
  (cW:(x==("__debug__" : Str))=false:=by decide) (aH:starEach (e::es) X.env=(false,eval e X.env)::starEach es X.env:=by rfl) (b7:(backTo pos (starEach es X.env)).any (·.1)=false:=by rfl)
  (ht:eval (.Call (.Attribute (.Name x np) m aC) (e::es) [] pos) X.env=(do
   let ov <- eval (.Name x np) X.env
   standAt aC.atName
   let (f,first) <- holding [ov] (getMethod ov m pl)
   callWith pos f first (backTo pos (starEach (e::es) X.env)) (backToKw pos (keywordEach [] X.env))):=by rfl):
  PE X (.Call (.Attribute (.Name x np) m aC) (e::es) [] pos) (T3 sp aI E t):=by
 intro ae s σ H Q I h;refine zb_ (pl:=pl) (G4 I hg hmx ?_ cW) ht;refine sQ I.kIn hm.sg (tj I.kIn hm.rd hm.fc rfl ?_);refine q6_ (first:=[]) (h₀:=X.base) I.ok.mod.kin hm.kp (thn (ha pos ae _ σ H _ (I.tok _) h) fun us s2 ⟨vs,H2,I2,r,q2⟩=>⟨I2.kIn,?_⟩) aH b7;exact Np F hr hb hd hx I2 r q2
end
end L2
namespace L2
open PySem PySem.Spec PyProof.Rows
def JX {σ:α2}{v:Int}(h:σ.Nodup):(step_dedup σ v).Nodup:=by
 unfold step_dedup;split
 ·exact h
 ·rename_i hn
  rw[qI_];refine⟨h,by simp,fun a ha b hb=>?_⟩;rw[jd_.mp hb];intro z;subst z;exact hn (qS_.mpr ⟨a,ha,by simp⟩)
def Gy (val:Nat->Int):∀i,(firstMet val i).Nodup
 |0=>xs_
 |i+1=>by rw[firstMet_succ];exact JX (Gy val i)
def NU (val:Nat->Int)(i:Nat)(k:Int):k∈firstMet val i ↔ ∃j,j<i/\val j=k:=by
 have h:=firstMet_any val i k;constructor
 ·intro hk;have h1:(firstMet val i).any (· == k)=true:=qS_.mpr ⟨k,hk,by simp⟩;rw[h1]at h;obtain⟨x,hx,e⟩:=qS_.mp h.symm;obtain⟨j,hj,rfl⟩:=jq_.mp hx;exact⟨j,qf_.mp hj,by simpa using e⟩
 ·rintro⟨j,hj,rfl⟩;have h1:((om i).map val).any (· == val j)=true:=qS_.mpr ⟨val j,jq_.mpr ⟨j,qf_.mpr hj,rfl⟩,by simp⟩;rw[h1]at h;obtain⟨x,hx,e⟩:=qS_.mp h;have:x=val j:=by simpa using e
  exact this ▸ hx
def SA (hc:X.calm=true):DA X (.type "set") (fun xs H Q=>∃(p:Addr) (ns:α2),xs=[.ref p]/\SqL X.K H p (ns.map V.int)/\ns.length<=4000/\∀(a:Addr) (S:Int->Bool) (ds:α2),H a=none->ds.Nodup->(∀x,x∈ds↔x∈ns)->Q (.ref a) (upd H a (.set S ds.length))):=by
 intro ae s σ H xs us Q I r h;obtain⟨p,ns,rfl,hq,hz,q⟩:=h;obtain⟨u,rfl,rx⟩:=vals1 r;cases rx;obtain⟨its,r',pl,_⟩:=I.list hq;have i1:IntsAre its ns:=by simpa using intsAre_of r'
 have av:=r'.length;rw[jb_]at av;refine PySem.call_set_list (items:=its.toArray) (ns:=ns) (I.ok.hd hc) pl.isList (by simpa using i1) (by rw[jk_];unfold scanBound;lia) fun h' tk hS hk=>?_;rw[jk_]at hS;refine⟨.ref _,_,I.laid (t':=tk) (o:=.set (fun k'=>(firstMet (fun i=>ns.getD i 0) its.length).any (· == k')) (firstMet (fun i=>ns.getD i 0) its.length).length) (fun b o hb=>hk b o (ju_ hb) hb) (jh_ _) hS,rfl,q _ _ _ (I.hok.fresh (jh_ _)) (Gy _ _) fun x=>?_⟩;rw[NU];constructor
 ·rintro⟨j,hj,rfl⟩;have lG:j<ns.length:=by lia
  rw[jp_,je_ lG];exact jZ_ _
 ·intro hx;obtain⟨j,hj,e⟩:=jL_ hx;exact⟨j,by lia,by rw[jp_,je_ hj];exact e⟩
def OK : DA X (.builtin "len") (fun xs H Q=>∃p S n,xs=[.ref p]/\H p=some (.set S n)/\Q (.int n) H):=by
 intro ae s σ H xs us Q I r h;obtain⟨p,S,n,rfl,hq,q⟩:=h;obtain⟨u,rfl,rx⟩:=vals1 r;cases rx;obtain⟨o,es,ep,t,ho,hex,hd,_,_,hsc,hf,hn⟩:=I.hok _ _ hq;unfold scanBound at hsc;exact PySem.call_len_set ho hex hd hf s!"" ⟨.int n,H,I.tok _,⟨s.toks+1,by rw[hn]⟩,q⟩
def OL {K:α3}(h:X.K=K)(hu:X.A.units+8<cLine):MtR X "list.index" (MM K):=by subst h;exact QF hu
end L2
namespace L2
open PySem PySem.W PySem.Spec PySem.Calls PyProof.Rows
noncomputable def vD:Option (Option V)->(V->Prop)->Prop
 |some (some v),q=>q v
 |_,_=>False
theorem SD : vD (some (some v)) q=q v:=rfl
def Zj (h:vD o q):∃v,o=some (some v)/\q v:=by
 match o,h with
 |some (some v),h=>exact⟨v,rfl,h⟩
noncomputable def Uy (i:Nat):TE:=fun σ H Q=>vD σ[i]? fun v=>Q v H
theorem VZ : Uy i σ H Q=vD σ[i]? fun v=>Q v H:=rfl
def pvD (i:Nat) (hN:X.N[i]?=some x:=by rfl)(hv:Vis X.env.scope x:=by first|exact ou rfl|exact oI (ou rfl)|exact oI (oI rfl))(hd:(x==("__debug__" : Str))=false:=by decide)
  (cq:(x==("__classdict__" : Str))=false:=by decide):PE X (.Name x pos) (Uy i):=fun ae s σ H Q I h=>pv i hN hv hd cq ae s σ H Q I (Zj h)
noncomputable def iD:V->V->(Int->Int->Prop)->Prop
 |.int i,.int j,q=>q i j
 |x,y,q=>∃i j,x=.int i/\y=.int j/\q i j
theorem V0 : iD (.int i) (.int j) q=q i j:=rfl
def WX : iD x y q=∃i j,x=.int i/\y=.int j/\q i j:=by
 cases x<;>cases y<;>first|rfl|(simp[iD])
noncomputable def rID (C:Int->Int->Prop)(g:Int->Int->V):R2:=fun x y H Q=>iD x y fun i j=>C i j/\Q (g i j) H
noncomputable def rI0D (g:Int->Int->V):R2:=fun x y H Q=>iD x y fun i j=>Q (g i j) H
theorem r_ID : rID C f x y H Q=iD x y fun i j=>C i j/\Q (f i j) H:=rfl
theorem YK : rI0D f x y H Q=iD x y fun i j=>Q (f i j) H:=rfl
def YL : rID C g=rI C g:=by
 funext x y H Q;exact WX
def WY : rI0D g=rI0 g:=by
 funext x y H Q;exact WX
def opD (h:OpR X f (rI C g)):OpR X f (rID C g):=by rw[YL];exact h
def opD0 (h:OpR X f (rI0 g)):OpR X f (rI0D g):=by rw[WY];exact h
noncomputable def bD:V->(Bool->Prop)->Prop
 |.bl c,q=>q c
 |x,q=>∃c,x=.bl c/\q c
theorem YM : bD (.bl c) q=q c:=rfl
def YN : bD x q=∃c,x=.bl c/\q c:=by
 cases x<;>first|rfl|(simp[bD])
noncomputable def tBD (t:TE):TT:=fun σ H Q=>t σ H fun x H1=>bD x fun c=>Q c H1
theorem r_BD : tBD te σ H R=te σ H fun x H1=>bD x fun c=>R c H1:=rfl
def V1 : tBD t=tB t:=by
 funext σ H Q
 show t σ H _=t σ H _
 congr 1
 funext x H1;exact YN
def WZ : tBD t=Rm t:=V1
def ptB (h:PT X e (tB t)):PT X e (tBD t):=by rw[V1];exact h
def ptT (h:PT X e (Rm t)):PT X e (tBD t):=by rw[WZ];exact h
noncomputable def eD:V->V->Prop->Prop
 |.int _,.int _,q=>q
 |.str _,.str _,q=>q
 |.non,.non,q=>q
 |.bl _,.bl _,q=>q
 |x,y,q=>scal x y=true/\q
theorem V2 : eD (.int i) (.int j) q=q:=rfl
theorem V3 : eD (.str i) (.str j) q=q:=rfl
theorem V4 : eD .non .non q=q:=rfl
theorem YO : eD (.bl i) (.bl j) q=q:=rfl
def W0 : eD x y q=(scal x y=true/\q):=by
 cases x<;>cases y<;>first|rfl|(simp[eD,scal])
noncomputable def rEqF:R2:=fun x y H Q=>eD x y (Q (.bl (decide (x=y))) H)
noncomputable def rNeF:R2:=fun x y H Q=>eD x y (Q (.bl (!decide (x=y))) H)
theorem YQ : rEqF x y H Q=eD x y (Q (.bl (decide (x=y))) H):=rfl
theorem YR : rNeF x y H Q=eD x y (Q (.bl (!decide (x=y))) H):=rfl
def W2:rEqF=rEq:=by funext x y H Q;exact W0
def W4:rNeF=rNe:=by funext x y H Q;exact W0
def opE (h:OpR X f rEq):OpR X f rEqF:=by rw[W2];exact h
def opN (h:OpR X f rNe):OpR X f rNeF:=by rw[W4];exact h
noncomputable def aD:V->(Addr->Prop)->Prop
 |.ref a,q=>q a
 |x,q=>∃a,x=.ref a/\q a
theorem V5 : aD (.ref a) q=q a:=rfl
def Uz : aD x q=∃a,x=.ref a/\q a:=by
 cases x<;>first|rfl|(simp[aD])
noncomputable def nD:V->(Int->Prop)->Prop
 |.int a,q=>q a
 |x,q=>∃a,x=.int a/\q a
theorem V6 : nD (.int a) q=q a:=rfl
def SE : nD x q=∃a,x=.int a/\q a:=by
 cases x<;>first|rfl|(simp[nD])
noncomputable def W5 (K:α3):R2:=fun x y H Q=>aD x fun p=>∃xs,nD y fun i=>SqT K H p xs/\∃v,atI xs i=some v/\Q v H
noncomputable def W6 (K:α3):R2:=fun x y H Q=>aD x fun p=>∃xs,nD y fun i=>SqL K H p xs/\∃v,atI xs i=some v/\Q v H
theorem V7 {K:α3} : W5 K x y H Q=aD x fun p=>∃xs,nD y fun i=>SqT K H p xs/\∃v,atI xs i=some v/\Q v H:=rfl
theorem V8 {K:α3} : W6 K x y H Q=aD x fun p=>∃xs,nD y fun i=>SqL K H p xs/\∃v,atI xs i=some v/\Q v H:=rfl
def UA {K:α3}:W5 K=rIxT K:=by
 funext x y H Q
 show aD x _=∃p xs i v,_;rw[Uz];refine propext ⟨fun ⟨p,e,h⟩=>?_,fun ⟨p,xs,i,v,e1,e2,e3,e4,e5⟩=>⟨p,e1,?_⟩⟩
 ·obtain⟨xs,h⟩:=h;rw[SE]at h;obtain⟨i,e2,e3,v,e4,e5⟩:=h;exact⟨p,xs,i,v,e,e2,e3,e4,e5⟩
 ·refine⟨xs,?_⟩;rw[SE];exact⟨i,e2,e3,v,e4,e5⟩
def UB {K:α3}:W6 K=rIxL K:=by
 funext x y H Q
 show aD x _=∃p xs i v,_;rw[Uz];refine propext ⟨fun ⟨p,e,h⟩=>?_,fun ⟨p,xs,i,v,e1,e2,e3,e4,e5⟩=>⟨p,e1,?_⟩⟩
 ·obtain⟨xs,h⟩:=h;rw[SE]at h;obtain⟨i,e2,e3,v,e4,e5⟩:=h;exact⟨p,xs,i,v,e,e2,e3,e4,e5⟩
 ·refine⟨xs,?_⟩;rw[SE];exact⟨i,e2,e3,v,e4,e5⟩
def ixTD {K:α3}(h:IxR X (rIxT K)):IxR X (W5 K):=by rw[UA];exact h
def ixLD {K:α3}(h:IxR X (rIxL K)):IxR X (W6 K):=by rw[UB];exact h
noncomputable def lD1:List V->(V->Prop)->Prop
 |[x],q=>q x
 |xs,q=>∃x,xs=[x]/\q x
theorem SF : lD1 [x] q=q x:=rfl
def YS : lD1 xs q=∃x,xs=[x]/\q x:=by
 match xs with
 |[]=>rfl
 |[x]=>simp[lD1]
 |x::y::r=>rfl
noncomputable def W7 (K:α3):List V->Hp->VK->Prop:=fun xs H Q=>lD1 xs fun x=>aD x fun p=>∃ys,(SqL K H p ys\/SqT K H p ys)/\Q (.int ys.length) H
theorem V9 {K:α3} : W7 K xs H Q=lD1 xs fun x=>aD x fun p=>∃ys,(SqL K H p ys\/SqT K H p ys)/\Q (.int ys.length) H:=rfl
def lenD {K:α3} (h:DA X f (fun xs H Q=>∃p ys,xs=[.ref p]/\(SqL K H p ys\/SqT K H p ys)/\Q (.int ys.length) H)):DA X f (W7 K):=by
 have e:W7 K=fun xs H Q=>∃p ys,xs=[.ref p]/\(SqL K H p ys\/SqT K H p ys)/\Q (.int ys.length) H:=by
  funext xs H Q
  show lD1 xs _=_;rw[YS];refine propext ⟨fun ⟨x,e,h⟩=>?_,fun ⟨p,ys,e,h1,h2⟩=>⟨_,e,ys,h1,h2⟩⟩;rw[Uz]at h;obtain⟨p,rfl,ys,h1,h2⟩:=h;exact⟨p,ys,e,h1,h2⟩
 rw[e];exact h
def Ao (hN:X.N.Nodup)(he:PE X e te)(hi:X.N[i]?=some x:=by rfl)(hx:Loc X.env.scope x:=by exact ou rfl)(hs:swapsWith e (some (.Name x bx)) pos.line X.env=pure false:=by rfl)(hf:X.fn x=true\/X.env.scope.names.lookup x=some .local:=by first|exact .inl rfl|exact .inr rfl|assumption):PS X (.Assign [.Name x bx] e pos) (tAsg te (IK i)):=C7 hN hi hx he hs hf
def Ai (hr:IxR X r)(ha:PE X a ta)(hb:PE X b tb)(hs:Ry b:=by exact fun _ _=>rfl):PE X (.Subscript a b pos) (tOp r ta tb):=T6 hr ha hb hs
end L2
namespace PySem
open Sem (wp)
structure VKind (prog:Program)(w:World)(K:Type)[DecidableEq K] where
 is:Heap->K->Value->Prop
 hash:K->Int
 draws:K->Nat
 room:Around->Prop
 inj:∀{h:Heap} {a:Value} {x y:K},is h x a->is h y a->x=y
 keeps:∀{h h':Heap} {k:K} {a:Value} {d:Addr} {o:Obj} {es ep},is h k a->h.get? d=some o->o.data=.dict es ep->Heap.SameBut d h h'->is h' k a
 pyHash:∀{A:Around} {E:Value->Shared->Prop} {s:Shared} {k:K} {a:Addr} {Q:Int->Shared->Prop},room A->is s.heap k (.ref a)->Q (hash k) {s with toks:=s.toks+draws k}->wpAny (model prog w) A (PySem.pyHash (.ref a)) Q E s
 eqBool:∀{A:Around} {E:Value->Shared->Prop} {s:Shared} {x y:K} {u:Value} {b:Addr} {Q:Bool->Shared->Prop},room A->is s.heap x u->is s.heap y (.ref b)->Q (decide (x=y)) s->wpAny (model prog w) A (PySem.eqBool u (.ref b)) Q E s
 quiet:∀{A:Around} {E:Value->Shared->Prop} {s:Shared} {k:K} {a:Value} {Q:Bool->Shared->Prop},room A->is s.heap k a->Q true s->wpAny (model prog w) A (eqIsQuiet 8 a) Q E s
noncomputable abbrev NI:=Int ⊕ α2
noncomputable abbrev NK:=Option (List NI)
end PySem
namespace L2
open PySem PySem.Spec PyProof.Rows
def Room.d (r:Room k A)(h:j<=k:=by decide):Room j A:=r.mono h
noncomputable abbrev HA (K:α3)(x:Str)(f:Addr):Prop:=nsIn K mainGlobals x=some (some (.ref f))
structure HF (K:α3)(x:Str)(st:Stmt)(f:Addr)(fd:α6):Prop where
 a:nsIn K mainGlobals x=some (some (.ref f))
 F:Fun K x x st f fd
def HF.b {K:α3} {st:Stmt} (h:HF K x st f fd)(e:∀(kV bR pm:Value) (an:Option Addr) (au ct v:Value),bindArgs (fnOf x x (IP st) (DM st) (Af st) .none kV bR pm an au ct) ⟨[v],[]⟩=pure [(p,v)])(s:Shared)(v:Value):BindsTo s fd ⟨[v],[]⟩ [(p,v)]:=by
 obtain⟨_,_,_,_,_,_,_,_,_,rfl,_,_⟩:=h.F.ex;exact .of_eq (e _ _ _ _ _ _ _)
end L2
namespace L2
open PySem PySem.Spec PyProof.Rows
section
variable {X:Cx} {ae:α7} {σ:L2.St} {A:Around}
noncomputable abbrev ends (Q E:Value->Shared->Prop):Result->Shared->Prop:=fun r s'=>match r with | .ok (.ret v)=>Q v s' | .ok _=>False | .error e=>E e s'
end
end L2
namespace N80
open Nest L2 GW
noncomputable def val (b:Nat)(v:α2):Nat:=v.foldl (fun a x=>a*b+x.toNat) 0
noncomputable def cod (b:Nat)(v:α2):Nat:=b ^ v.length+val b v
inductive Nst (p e:Int):α2->Prop
 | nil:Nst p e []
 | pl {x:Int} {row:α2}:0<=x->x<p->Nst p e row->Nst p e (x::row)
 | ca {c:Int} {ki row:α2}:p<=c->c<e->Nst p e ki->Nst p e row->Nst p e (c::ki++e::row)
noncomputable def Okr (A:Int->α2->Prop)(p e:Int)(row:α2):Prop:=∀q∈(prtS p e row).1,A q.1 q.2
structure Acc (A:Int->α2->Prop)(p e:Int)(j:Int)(row:α2):Prop where
 n:Nst p e row
 o:Okr A p e row
 a:A j (outW p e row)
open Classical in
noncomputable def cnt (A:Int->α2->Prop)(p e:Int)(b h n:Nat):Nat:=(om h).countP fun i:Nat=>decide (∃ki,Acc A p e (i:Int) ki/\cod b ki<n)
structure Turn {R:Type}(A:Int->α2->Prop)(p e:Int)(b:Nat)(fin:R->Prop)(best:R->Option (α2))(res:Option (α2)):Prop where
 s:∀t,res=some t->∃r,best r=some t/\fin r
 l:∀r t,best r=some t->fin r->∃t',res=some t'/\cod b t'<=cod b t
end N80
namespace HT
open PySem PyProof.Rows
inductive LtE (A:Around)(s:Shared)(f:Bool):List Value->List Value->Bool->Prop
 | endL {ws:List Value}:LtE A s f [] ws f
 | endR {vs:List Value}:LtE A s f vs [] f
 | eq {v w:Value} {vs ws:List Value} {b:Bool}:SeqAt.EqAt A s v w true->LtE A s f vs ws b->LtE A s f (v::vs) (w::ws) b
 | ne {v w:Value} {vs ws:List Value} {b:Bool}:SeqAt.EqAt A s v w false->(∀(prog:Program) (wd:World) (E:Value->Shared->Prop) (Q:Value->Shared->Prop),Q (.bool b) s->wpAny (model prog wd) A (richCompare .Lt v w) Q E s)->LtE A s f (v::vs) (w::ws) b
end HT
namespace L2
open PySem PySem.Spec PyProof.Rows
structure HG (K:α3)(x q:Str)(st:Stmt)(f:Addr)(fd:α6)(M:Prop):Prop where
 m:M
 F:Fun K x q st f fd
section
variable {P:Program} {w:World} {K:α3} {mg:Str->α5} {base:Heap} {CX:CXT} {k:Nat} {x q:Str} {st:Stmt} {N ps:List Str} {sp:Sp} {f:Addr} {fd:α6} {M:Prop}
structure CalH (P:Program)(w:World)(mg:Str->α5)(base:Heap)(CX:CXT){K:α3}{x q:Str}{st:Stmt}{f:Addr}{fd:α6}{M:Prop}(h:HG K x q st f fd M)(k:Nat)(ps:List Str)(sp:Sp):Prop where
 g:FnOk P w K mg base CX k f fd ps sp
 b:Binds K fd ps []
noncomputable abbrev Bnd (x q:Str)(st:Stmt)(ps:List Str):Prop:=∀(kV bR pm:Value) (an:Option Addr) (au ct:Value) (us:List Value),us.length=ps.length->bindArgs (fnOf x q (IP st) (DM st) (Af st) .none kV bR pm an au ct) ⟨us,[]⟩=pure (ps.zip us)
def HG.ok (h:HG K x q st f fd M)(S:FnScope N ps (Af st))(len:∀vs H Q E,sp vs H Q E->vs.length=ps.length)
  (aP:∀(au:Value) (A:Around) (outer:List Env) (s:Shared) (H:Hp) (vs:List V) (Q:VK) (E:XK),Room k (A.deeper (envOfC q (Af st) s.heap.objs.size f au))->sp vs H Q E ->
   ∃t,PSs (cxOf CX0 P w K mg base N q (Af st) f au A outer s H E).nox (DM st) t/\t {nx:=fun _ H'=>Q .non H',rt:=Q} (start N vs) H)
  (e:Bnd x q st ps:=by
   intro _ _ _ _ _ _ us hl;first|(obtain⟨_,rfl⟩:=len1 hl;rfl)|(obtain⟨_,_,rfl⟩:=len2 hl;rfl)|(obtain⟨_,_,_,rfl⟩:=len3 hl;rfl)|(obtain⟨_,_,_,_,rfl⟩:=len4 hl;rfl)|(obtain⟨_,_,_,_,_,rfl⟩:=len5 hl;rfl)|(obtain⟨_,_,_,_,_,_,rfl⟩:=len6 hl;rfl)):CalH P w mg base CX0 h (k+1) ps sp:=⟨h.F.ok S len aP,h.F.binds e⟩
def HG.okE (h:HG K x q st f fd M)(S:FnScope N ps (Af st))(len:∀vs H Q E,sp vs H Q E->vs.length=ps.length)
  (aP:∀(au:Value) (A:Around) (outer:List Env) (s:Shared) (H:Hp) (vs:List V) (Q:VK) (E:XK),Room k (A.deeper (envOfC q (Af st) s.heap.objs.size f au))->sp vs H Q E ->
   ∃t,PSs (cxOf (CXe P w) P w K mg base N q (Af st) f au A outer s H E) (DM st) t/\t {nx:=fun _ H'=>Q .non H',rt:=Q} (start N vs) H)
  (e:Bnd x q st ps:=by
   intro _ _ _ _ _ _ us hl;first|(obtain⟨_,rfl⟩:=len1 hl;rfl)|(obtain⟨_,_,rfl⟩:=len2 hl;rfl)|(obtain⟨_,_,_,rfl⟩:=len3 hl;rfl)|(obtain⟨_,_,_,_,rfl⟩:=len4 hl;rfl)|(obtain⟨_,_,_,_,_,rfl⟩:=len5 hl;rfl)|(obtain⟨_,_,_,_,_,_,rfl⟩:=len6 hl;rfl)):CalH P w mg base (CXe P w) h (k+1) ps sp:=⟨h.F.okE S len aP,h.F.binds e⟩
noncomputable abbrev HP (K:α3)(mg:Str->α5)(fA:Nat->Addr)(fD:Nat->α6)(x:Str)(st:Stmt)(i:Nat):Prop:=HG K x x st (fA i) (fD i) (mg x=some (.ref (fA i)))
noncomputable abbrev HQ (K:α3)(fA:Nat->Addr)(fD:Nat->α6)(x q:Str)(st:Stmt)(i:Nat)(M:Addr->Prop):Prop:=HG K x q st (fA i) (fD i) (M (fA i))
def Aj {X:Cx}{h:HG X.K x x st f fd (X.mg x=some (.ref f))}{E:XK}{p pos:Pos}{e:Expr}{es:List Expr}{t:TA}(q:CalH X.prog X.w X.mg X.base CX h k ps sp)(hr:Room k X.A)(hx:EO CX X E)
  (ha:PA X (e::es) t) (hg:Gl X x:=by rfl) (cW:(x==("__debug__" : Str))=false:=by decide) (he:starEach (e::es) X.env=(false,eval e X.env)::starEach es X.env:=by rfl) (b7:(backTo pos (starEach es X.env)).any (·.1)=false:=by rfl):
  PE X (.Call (.Name x p) (e::es) [] pos) (T3 sp [] E t):=Wv q.g hr hg h.m h.F.kp q.b .nil hx ha cW he b7
end
end L2
namespace L2
open PySem
section
variable {α β:Type} {f:α->β} {a b:α} {l m:List α} {n:Nat}
theorem mp_C:oR f (a::l)=f a::oR f l:=rfl
theorem mp_N:oR f []=[]:=rfl
theorem ap_C:a::l++m=a::(l++m):=rfl
theorem ap_N:[]++m=m:=rfl
theorem gt_Z:(a::l)[0]?=some a:=rfl
theorem gt_S:(a::l)[n+1]?=l[n]?:=rfl
theorem st_Z:(a::l).set 0 b=b::l:=rfl
theorem st_S:(a::l).set (n+1) b=a::l.set n b:=rfl
theorem rp_Z:oE 0 a=[]:=rfl
theorem rp_S:oE (n+1) a=a::oE n a:=rfl
theorem ln_N:([]:List α).length=0:=rfl
theorem ln_C:(a::l).length=l.length+1:=rfl
end
end L2
namespace Mine
open PySem L2 GW GB
local macro_rules | `(tactic| walk_at "rd") => `(tactic| (try dsimp only[↓VZ,SD,↓r_ID,↓YK,V0,↓r_BD,YM,↓YQ,↓YR,V2,V3,V4,YO,↓V7,↓V8,V5,V6,↓V9,SF,↓X7,↓Vm,↓X8,↓RL,↓X9,↓r_c,↓r_op,↓r_un,↓r_I,↓r_I0,↓r_U,↓Vn,↓Vo,↓Ya,↓Yb,↓Vp,↓r_if,↓r_B,↓Vq,↓Yc,↓r_or,↓Yd,↓RM,↓Ye,↓r_CB,↓Yf,↓Yg,↓Yh,↓Yi,↓r_sl,↓Vr,↓Pq,↓Yj,↓Ys,↓r_BM,↓Pt,↓Vs,↓Vt,↓r_Eq,↓r_Ne,↓Yk,↓RO,↓Vu,↓RP,↓Yl,↓r_ip,↓Vv,↓Vw,↓Yn,↓Yu,↓RX,↓RY,↓Yv,↓VB,↓R4,↓VC,↓VD,↓PD,↓VE,↓R5,↓r_in,↓R7,↓PJ,↓Vz,↓VQ,Sr,Sv,YF,YE,↓Pu,↓VY,↓PM,↓PQ,↓Sg,↓Yy,NR,↓YA,↓VL,↓VM,↓VN,↓Sm,↓Sj,↓VO,↓Sq,↓So,Ym,L2.start,scal,mp_C,mp_N,ap_C,ap_N,gt_Z,gt_S,st_Z,st_S,rp_Z,rp_S,ln_N,ln_C,Nat.reduceAdd,Nat.reduceSub])<;>(try simp only[↓VZ,SD,↓r_ID,↓YK,V0,↓r_BD,YM,↓YQ,↓YR,V2,V3,V4,YO,↓V7,↓V8,V5,V6,↓V9,SF,WX,YN,W0,Uz,SE,↓X7,↓Vm,↓X8,↓RL,↓X9,↓r_c,↓r_op,↓r_un,↓r_I,↓r_I0,↓r_U,↓Vn,↓Vo,↓Ya,↓Yb,↓Vp,↓r_if,↓r_B,↓Vq,↓Yc,↓r_or,↓Yd,↓RM,↓Ye,↓r_CB,↓Yf,↓Yg,↓Yh,↓Yi,↓r_sl,↓Vr,↓Pq,↓Yj,↓Ys,↓r_BM,↓Pt,↓Vs,↓Vt,↓r_Eq,↓r_Ne,↓Yk,↓RO,↓Vu,↓RP,↓Yl,↓r_ip,↓Vv,↓Vw,↓Yn,↓Yu,↓RX,↓RY,↓Yv,↓VB,↓R4,↓VC,↓VD,↓PD,↓VE,↓R5,↓r_in,↓R7,↓PJ,↓Vz,↓VQ,Sr,Sv,YF,YE,↓Pu,↓VY,↓PM,↓PQ,↓Sg,↓Yy,NR,↓YA,↓VL,↓VM,↓VN,↓Sm,↓Sj,↓VO,↓Sq,↓So,Ym,L2.start,jJ_,ql,jD_,xe_,List.cons_append,List.nil_append,xZ_,oE,List.getElem?_cons_zero,List.getElem?_cons_succ,List.set_cons_zero,List.set_cons_succ,x7_,V.int.injEq,V.str.injEq,V.ref.injEq,V.bl.injEq,List.cons.injEq,and_true,true_and,and_assoc,exists_and_left,exists_eq_left',exists_eq_left,exists_eq_right,exists_eq,xS_,q7_,qC_,jU_,scal,Nat.reduceAdd,Nat.reduceSub,reduceCtorEq,Bool.not_true,Bool.not_false]))
local macro_rules|`(tactic|nofun)=>`(tactic|walk_at "rd")
set_option hygiene false in
local macro_rules|`(tactic|delta $x:ident $y:ident)=>`(tactic|refine HG.ok $x $y (fun vs H Q E h=>?_) (fun au A outer s H vs Q E hr h=>?_))
set_option hygiene false in
local macro_rules|`(⋯)=>`(CalH P w mg base CX0)
local macro_rules | `(tactic| walk_at "sc") => `(tactic| exact⟨rfl,rfl,rfl,by decide +kernel,rfl,by decide +kernel,by decide +kernel⟩)
noncomputable def top (i:Nat):Stmt:=PySem.Challenge.pw_guessroom_k93_logs_written.main.body.getD i (.Pass ⟨0,0,0,0⟩)
noncomputable abbrev Ha:Stmt:=AQ (top 28) 0
def NV:FnScope ["self","letters"] ["self","letters"] (Af Ha):=by walk_at "sc"
noncomputable abbrev KO:Stmt:=top 11
def QH:FnScope ["letters","word"] ["letters","word"] (Af KO):=by walk_at "sc"
noncomputable abbrev Fe:Stmt:=top 12
def MQ:FnScope ["letters","word"] ["letters","word"] (Af Fe):=by walk_at "sc"
noncomputable abbrev OM:Stmt:=top 23
def Kj:FnScope ["house","word","ways","rooms","letter"] ["house","word"] (Af OM):=by walk_at "sc"
noncomputable abbrev Hb:Stmt:=AQ (top 28) 3
def NW:FnScope ["self","word"] ["self","word"] (Af Hb):=by walk_at "sc"
noncomputable abbrev MR:Stmt:=top 43
def B5:FnScope ["book","access","guess","word","mark","last","rooms","low","high","middle","asked","told"] ["book","access","guess","word","mark","last"] (Af MR):=by walk_at "sc"
noncomputable abbrev DO:Stmt:=AQ (top 31) 8
def Df:FnScope ["self","words","left","word"] ["self","words"] (Af DO):=by walk_at "sc"
noncomputable abbrev KQ:Stmt:=top 33
def D5:FnScope ["letters","access","rows","word","letter"] ["letters","access"] (Af KQ):=by walk_at "sc"
noncomputable abbrev ON:Stmt:=top 34
def Kk:FnScope ["letters","access","ends","words","row","end"] ["letters","access","ends"] (Af ON):=by walk_at "sc"
noncomputable abbrev Bx:Stmt:=AQ (top 44) 3
def E5:FnScope ["self"] ["self"] (Af Bx):=by walk_at "sc"
noncomputable abbrev Eu:Stmt:=top 24
def Lz:FnScope ["house","word"] ["house","word"] (Af Eu):=by walk_at "sc"
noncomputable abbrev Ew:Stmt:=top 25
def LA:FnScope ["house","word"] ["house","word"] (Af Ew):=by walk_at "sc"
noncomputable abbrev DQ:Stmt:=AQ (top 44) 7
def KR:FnScope ["self","house","word"] ["self","house","word"] (Af DQ):=by walk_at "sc"
noncomputable abbrev Ex:Stmt:=AQ (top 44) 4
def CD:FnScope ["self","mark","last","found"] ["self"] (Af Ex):=by walk_at "sc"
noncomputable abbrev IW:Stmt:=top 35
def OO:FnScope ["book","word","ends"] ["book","word","ends"] (Af IW):=by walk_at "sc"
noncomputable abbrev DR:Stmt:=top 36
def Dh:FnScope ["book","letters","access","ends","marks","row"] ["book","letters","access","ends"] (Af DR):=by walk_at "sc"
noncomputable abbrev Di:Stmt:=top 38
def A4:FnScope ["letters","access","marks","rooms","room","word","ways"] ["letters","access","marks"] (Af Di):=by walk_at "sc"
noncomputable abbrev IX:Stmt:=top 39
def Hc:FnScope ["book","letters","access","ends","marks","room_marks"] ["book","letters","access","ends"] (Af IX):=by walk_at "sc"
noncomputable abbrev B6:Stmt:=AQ (top 44) 8
def Hd:FnScope ["self"] ["self"] (Af B6):=by walk_at "sc"
noncomputable abbrev Ff:Stmt:=AQ (top 28) 4
def MS:FnScope ["self"] ["self"] (Af Ff):=by walk_at "sc"
noncomputable abbrev DS:Stmt:=top 40
def Dj:FnScope ["heard","answer","house","word","told"] ["heard","answer","house"] (Af DS):=by walk_at "sc"
noncomputable abbrev Ey:Stmt:=top 41
def LB:FnScope ["book","house"] ["book","house"] (Af Ey):=by walk_at "sc"
noncomputable abbrev B7:Stmt:=AQ (top 44) 9
def He:FnScope ["self"] ["self"] (Af B7):=by walk_at "sc"
noncomputable abbrev BJ:Stmt:=AQ (top 31) 9
def Fg:FnScope ["self"] ["self"] (Af BJ):=by walk_at "sc"
noncomputable abbrev IY:Stmt:=top 37
def Ez:FnScope ["book","letters","access","ends","marks","known","row"] ["book","letters","access","ends"] (Af IY):=by walk_at "sc"
noncomputable abbrev By:Stmt:=AQ (top 44) 5
def Cp:FnScope ["self","row"] ["self"] (Af By):=by walk_at "sc"
noncomputable abbrev CN:Stmt:=AQ (top 31) 7
def IZ:FnScope ["self"] ["self"] (Af CN):=by walk_at "sc"
noncomputable abbrev EA:Stmt:=AQ (top 30) 3
def LC:FnScope ["self"] ["self"] (Af EA):=by walk_at "sc"
noncomputable abbrev Fh:Stmt:=AQ (top 30) 0
def MT:FnScope ["self"] ["self"] (Af Fh):=by walk_at "sc"
noncomputable abbrev Hf:Stmt:=AQ (top 31) 0
def NX:FnScope ["self","letters","most","book","ways","ends"] ["self","letters","most","book","ways","ends"] (Af Hf):=by walk_at "sc"
noncomputable abbrev B8:Stmt:=AQ (top 44) 6
def Hg:FnScope ["self","letters"] ["self","letters"] (Af B8):=by walk_at "sc"
noncomputable abbrev Fi:Stmt:=AQ (top 44) 0
def MU:FnScope ["self","letters","most"] ["self","letters","most"] (Af Fi):=by walk_at "sc"
noncomputable abbrev EB:Stmt:=AQ (top 30) 1
def LD:FnScope ["self"] ["self"] (Af EB):=by walk_at "sc"
noncomputable abbrev I0:Stmt:=top 52
def OP:FnScope ["parts"] ["parts"] (Af I0):=by walk_at "sc"
noncomputable abbrev Dk:Stmt:=top 18
def JY:FnScope ["letters"] ["letters"] (Af Dk):=by walk_at "sc"
noncomputable abbrev KS:Stmt:=top 17
def QI:FnScope ["number"] ["number"] (Af KS):=by walk_at "sc"
noncomputable abbrev EC:Stmt:=top 19
def LF:FnScope ["marks"] ["marks"] (Af EC):=by walk_at "sc"
noncomputable abbrev ED:Stmt:=top 20
def LG:FnScope ["rooms"] ["rooms"] (Af ED):=by walk_at "sc"
noncomputable abbrev Fj:Stmt:=top 21
def HV:FnScope ["letters","rooms","ways","row"] ["letters","rooms","ways"] (Af Fj):=by walk_at "sc"
noncomputable abbrev SH:Stmt:=top 22
def W8:FnScope ["letters","marks","ways"] ["letters","marks","ways"] (Af SH):=by walk_at "sc"
noncomputable abbrev KU:Stmt:=top 53
def LZ:FnScope ["text","rows"] ["text"] (Af KU):=by walk_at "sc"
noncomputable abbrev DT:Stmt:=top 54
def Fl:FnScope ["first","count","row","parts"] ["first","count","row"] (Af DT):=by walk_at "sc"
noncomputable abbrev EF:Stmt:=top 51
def LH:FnScope ["text"] ["text"] (Af EF):=by walk_at "sc"
noncomputable abbrev Fm:Stmt:=top 55
def HW:FnScope ["text","most","count"] ["text","most"] (Af Fm):=by walk_at "sc"
noncomputable abbrev DU:Stmt:=top 56
def KW:FnScope ["first","row"] ["first","row"] (Af DU):=by walk_at "sc"
noncomputable abbrev Hh:Stmt:=top 57
def NY:FnScope ["letters","row"] ["letters","row"] (Af Hh):=by walk_at "sc"
noncomputable abbrev Fo:Stmt:=top 58
def C2:FnScope ["text","rows","letters","rooms"] ["text"] (Af Fo):=by walk_at "sc"
noncomputable abbrev KY:Stmt:=top 66
def QJ:FnScope ["asker"] ["asker"] (Af KY):=by walk_at "sc"
noncomputable abbrev BQ:Stmt:=AQ (top 30) 2
def Gn:FnScope ["self","deed"] ["self","deed"] (Af BQ):=by walk_at "sc"
noncomputable abbrev Fp:Stmt:=AQ (top 31) 2
def MV:FnScope ["self"] ["self"] (Af Fp):=by walk_at "sc"
noncomputable abbrev Fq:Stmt:=top 27
def MW:FnScope ["mark"] ["mark"] (Af Fq):=by walk_at "sc"
noncomputable abbrev Fs:Stmt:=AQ (top 28) 1
def MX:FnScope ["self","word","mark"] ["self","word","mark"] (Af Fs):=by walk_at "sc"
noncomputable abbrev Ja:Stmt:=AQ (top 28) 2
def OQ:FnScope ["self","word","mark"] ["self","word","mark"] (Af Ja):=by walk_at "sc"
noncomputable abbrev B9:Stmt:=AQ (top 31) 1
def Hi:FnScope ["self","number"] ["self","number"] (Af B9):=by walk_at "sc"
noncomputable abbrev Ft:Stmt:=AQ (top 44) 1
def MY:FnScope ["self","mark"] ["self","mark"] (Af Ft):=by walk_at "sc"
noncomputable abbrev Bz:Stmt:=AQ (top 31) 3
def E6:FnScope ["self","word","number"] ["self","word","number"] (Af Bz):=by walk_at "sc"
noncomputable abbrev DV:Stmt:=AQ (top 44) 2
def KZ:FnScope ["self","word","mark"] ["self","word","mark"] (Af DV):=by walk_at "sc"
noncomputable abbrev Hj:Stmt:=top 50
def NZ:FnScope ["word"] ["word"] (Af Hj):=by walk_at "sc"
noncomputable abbrev Bm:Stmt:=top 60
def D6:FnScope ["house","other"] ["house","other"] (Af Bm):=by walk_at "sc"
noncomputable abbrev Fu:Stmt:=top 61
def A8:FnScope ["house","other","start","steps","found","walked","pair","letter","goal"] ["house","other","start"] (Af Fu):=by walk_at "sc"
noncomputable abbrev K0:Stmt:=top 62
def Gh:FnScope ["steps","pair","backwards","step"] ["steps","pair"] (Af K0):=by walk_at "sc"
noncomputable abbrev Cb:Stmt:=top 63
def BR:FnScope ["house","other","start","steps","pair"] ["house","other","start"] (Af Cb):=by walk_at "sc"
noncomputable abbrev Fv:Stmt:=top 64
def MZ:FnScope ["house","other"] ["house","other"] (Af Fv):=by walk_at "sc"
noncomputable abbrev SI:Stmt:=top 67
def M0:FnScope ["asker","house","wish","word","mark"] ["asker","house"] (Af SI):=by walk_at "sc"
noncomputable abbrev Hk:Stmt:=top 68
def N0:FnScope ["wish"] ["wish"] (Af Hk):=by walk_at "sc"
noncomputable abbrev K1:Stmt:=top 69
def Gi:FnScope ["text","most","house","asker","rows"] ["text","most"] (Af K1):=by walk_at "sc"
noncomputable abbrev DW:Stmt:=top 71
def K2:FnScope ["script","k"] ["script","k"] (Af DW):=by walk_at "sc"
noncomputable abbrev Dm:Stmt:=top 72
def AA:FnScope ["script","head","letters","rooms","some","slots","k","cell","marks","ways","room","row"] ["script"] (Af Dm):=by walk_at "sc"
noncomputable abbrev Hl:Stmt:=top 73
def BA:FnScope ["house","text","room","ahead"] ["house"] (Af Hl):=by walk_at "sc"
noncomputable abbrev DX:Stmt:=top 74
def AM:FnScope ["house","there","turn","room","ahead","names","lines"] ["house"] (Af DX):=by walk_at "sc"
noncomputable abbrev EG:Stmt:=top 75
def CF:FnScope ["house","word","room","letter"] ["house","word"] (Af EG):=by walk_at "sc"
noncomputable abbrev Cc:Stmt:=top 76
def AH:FnScope ["house","other","words","row","at","pair","letter","ahead"] ["house","other"] (Af Cc):=by walk_at "sc"
noncomputable abbrev CP:Stmt:=top 77
def Jb:FnScope ["word"] ["word"] (Af CP):=by walk_at "sc"
noncomputable abbrev Jc:Stmt:=top 78
def Dn:FnScope ["house","asker","want","mark","word"] ["house","asker"] (Af Jc):=by walk_at "sc"
noncomputable abbrev CQ:Stmt:=top 79
def Jd:FnScope ["m","letters"] ["m","letters"] (Af CQ):=by walk_at "sc"
noncomputable abbrev W9:Stmt:=top 80
def HX:FnScope ["script","house","n","most","log","rows","asker","k","asks"] ["script"] (Af W9):=by walk_at "sc"
noncomputable def K3:Caps:=[("letter",none),("letters",some 0)]
def LI:(Caps.names K3).Nodup:=by decide +kernel
noncomputable def Jy:Caps:=[("end",none),("book",some 0),("word",some 1)]
def K4:(Caps.names Jy).Nodup:=by decide +kernel
noncomputable def D7:Caps:=[("letter",none),("rooms",some 3),("marks",some 2),("word",some 5)]
def Gp:(Caps.names D7).Nodup:=by decide +kernel
noncomputable def Jz:Caps:=[("word",none),("book",some 0)]
def K5:(Caps.names Jz).Nodup:=by decide +kernel
noncomputable def JA:Caps:=[("word",none),("marks",some 4)]
def K6:(Caps.names JA).Nodup:=by decide +kernel
noncomputable def Fw:Caps:=[("mark",none)]
def HY:(Caps.names Fw).Nodup:=by decide +kernel
noncomputable def Gz:Caps:=[("goal",none),("rooms",some 1)]
def Je:(Caps.names Gz).Nodup:=by decide +kernel
noncomputable def Kl:Caps:=[("row",none)]
def OR:(Caps.names Kl).Nodup:=by decide +kernel
noncomputable def Fx:Caps:=[("sign",none)]
def HZ:(Caps.names Fx).Nodup:=by decide +kernel
noncomputable def Ia:Caps:=[("part",none)]
def JZ:(Caps.names Ia).Nodup:=by decide +kernel
noncomputable def GA:Caps:=[("row",none),("letters",some 2)]
def Jf:(Caps.names GA).Nodup:=by decide +kernel
noncomputable def GC:Caps:=[("room",none)]
def Jg:(Caps.names GC).Nodup:=by decide +kernel
noncomputable def GD:Caps:=[("room",none)]
def Jh:(Caps.names GD).Nodup:=by decide +kernel
noncomputable def Ib:Caps:=[("letter",none)]
def J3:(Caps.names Ib).Nodup:=by decide +kernel
noncomputable def D8:Caps:=[("k",none)]
def Gq:(Caps.names D8).Nodup:=by decide +kernel
noncomputable def D9:Caps:=[("k",none),("some",some 4),("slots",some 5)]
def Gr:(Caps.names D9).Nodup:=by decide +kernel
noncomputable def Ea:Caps:=[("slot",none),("rooms",some 3)]
def Gs:(Caps.names Ea).Nodup:=by decide +kernel
noncomputable def ET:Caps:=[("room",none),("names",some 5),("house",some 0)]
def Hm:(Caps.names ET).Nodup:=by decide +kernel
noncomputable def EU:Caps:=[("ahead",none),("names",some 1)]
def Hn:(Caps.names EU).Nodup:=by decide +kernel
noncomputable def EV:Caps:=[("line",none),("lines",some 6)]
def Ho:(Caps.names EV).Nodup:=by decide +kernel
noncomputable def Eb:Caps:=[("room",none),("names",some 5)]
def Gu:(Caps.names Eb).Nodup:=by decide +kernel
noncomputable def DH:Caps:=[("letter",none)]
def Fy:(Caps.names DH).Nodup:=by decide +kernel
noncomputable def SJ:Caps:=[("row",none)]
def QK:(Caps.names SJ).Nodup:=by decide +kernel
noncomputable def SK:Caps:=[("row",none)]
def QL:(Caps.names SK).Nodup:=by decide +kernel
structure Txt (mg:Str->α5):Prop where
 all:mg "all"=none
 enumerate:mg "enumerate"=none
 int:mg "int"=none
 isinstance:mg "isinstance"=none
 len:mg "len"=none
 list:mg "list"=none
 min:mg "min"=none
 range:mg "range"=none
 reversed:mg "reversed"=none
 set:mg "set"=none
 str:mg "str"=none
 tuple:mg "tuple"=none
structure Own (K:α3)(mg:Str->α5)(ar cy cz ao:Addr):Prop where
 m_j1:mg "Book"=some (.ref ar)
 cl_j1:Cls K ar
 n_Book_letters:BY K ar "letters"
 n_Book_marks:BY K ar "marks"
 m_ja:mg "Turns"=some (.ref cy)
 m_jd:mg "Hunt"=some (.ref cz)
 m_j0:mg "Asker"=some (.ref ao)
 cl_j0:Cls K ao
 n_Asker_book:BY K ao "book"
 n_Asker_ends:BY K ao "ends"
 n_Asker_gaps:BY K ao "gaps"
 n_Asker_guess:BY K ao "guess"
 n_Asker_letters:BY K ao "letters"
 n_Asker_most:BY K ao "most"
 n_Asker_ways:BY K ao "ways"
 n_Asker_wish:BY K ao "wish"
 n_Asker_wrong:BY K ao "wrong"
 q_jg:∃t,mg "EMPTY"=some (.str "." t)
 q_je:∃t,mg "FIGURES"=some (.str "0123456789" t)
 q_j9:∃t,mg "MOST_FIGURES"=some (.int 10 t)
 q_j8:∃t,mg "MOST_LETTERS"=some (.int 6 t)
 q_jc:∃t,mg "MOST_MARK"=some (.int 1000000000 t)
 q_jb:∃t,mg "MOST_ROOMS"=some (.int 40 t)
 q_jf:∃t,mg "SIGNS"=some (.str "abcdef" t)
structure Exs (K:α3)(mg:Str->α5)(aV aQ aW bh bT bH:Addr):Prop where
 m_j5:mg "BadHouse"=some (.ref aV)
 m_j6:mg "BadWord"=some (.ref aQ)
 m_j7:mg "BadMark"=some (.ref aW)
 m_j4:mg "OutOfTurn"=some (.ref bh)
 m_j3:mg "NoDifference"=some (.ref bT)
 m_j2:mg "Contradiction"=some (.ref bH)
 x_j5:oC K aV bmV "ValueError.__new__"=true
 x_j6:oC K aQ bmV "ValueError.__new__"=true
 x_j7:oC K aW bmV "ValueError.__new__"=true
 x_j4:oC K bh bmV "ValueError.__new__"=true
 x_j3:oC K bT bmV "ValueError.__new__"=true
 x_j2:oC K bH bmV "ValueError.__new__"=true
structure En (P:Program)(w:World)(K:α3)(mg:Str->α5)(base:Heap)(aV aQ aW bh bT bH ar cy cz ao:Addr)(fA:Nat->Addr)(fD:Nat->α6):Prop extends Txt mg,Own K mg ar cy cz ao,Exs K mg aV aQ aW bh bT bH where
 j0:HQ K fA fD "__init__" "Book.__init__" Ha 0 (Mk K ar)
 j1:HP K mg fA fD "is_word" KO 1
 j2:HP K mg fA fD "check_word" Fe 2
 j3:HP K mg fA fD "trail" OM 3
 j4:HQ K fA fD "told" "Book.told" Hb 4 (Meth K ar "told")
 j5:HP K mg fA fD "halved" MR 5
 j6:HQ K fA fD "ask_for" "Hunt.ask_for" DO 6 (Meth K ao "ask_for")
 j7:HP K mg fA fD "rows_of" KQ 7
 j8:HP K mg fA fD "cells" ON 8
 j9:HQ K fA fD "look_for_gaps" "Asker.look_for_gaps" Bx 9 (Meth K ao "look_for_gaps")
 j10:HP K mg fA fD "room_behind" Eu 10
 j11:HP K mg fA fD "mark_behind" Ew 11
 j12:HQ K fA fD "answer" "Asker.answer" DQ 12 (Meth K ao "answer")
 j13:HQ K fA fD "halve" "Asker.halve" Ex 13 (Meth K ao "halve")
 j14:HP K mg fA fD "marks_of" IW 14
 j15:HP K mg fA fD "marks_by_row" DR 15
 j16:HP K mg fA fD "ways_by_marks" Di 16
 j17:HP K mg fA fD "guess_of" IX 17
 j18:HQ K fA fD "make_guess" "Asker.make_guess" B6 18 (Meth K ao "make_guess")
 j19:HQ K fA fD "heard" "Book.heard" Ff 19 (Meth K ar "heard")
 j20:HP K mg fA fD "first_unlike" DS 20
 j21:HP K mg fA fD "first_wrong" Ey 21
 j22:HQ K fA fD "wrong_word" "Asker.wrong_word" B7 22 (Meth K ao "wrong_word")
 j23:HQ K fA fD "look_at_guess" "Hunt.look_at_guess" BJ 23 (Meth K ao "look_at_guess")
 j24:HP K mg fA fD "stranger" IY 24
 j25:HQ K fA fD "look_at_words" "Asker.look_at_words" By 25 (Meth K ao "look_at_words")
 j26:HQ K fA fD "next_wish" "Hunt.next_wish" CN 26 (Meth K ao "next_wish")
 j27:HQ K fA fD "go_on" "Turns.go_on" EA 27 (Meth K ao "go_on")
 j28:HQ K fA fD "__init__" "Turns.__init__" Fh 28 (CMeth K cy "__init__")
 j29:HQ K fA fD "__init__" "Hunt.__init__" Hf 29 (CMeth K cz "__init__")
 j30:HQ K fA fD "first_ends" "Asker.first_ends" B8 30 (Meth K ao "first_ends")
 j31:HQ K fA fD "__init__" "Asker.__init__" Fi 31 (Mk K ao)
 j32:HQ K fA fD "wants" "Turns.wants" EB 32 (Meth K ao "wants")
 j33:HP K mg fA fD "row_text" I0 33
 j34:HP K mg fA fD "check_letters" Dk 34
 j35:HP K mg fA fD "is_mark" KS 35
 j36:HP K mg fA fD "check_marks" EC 36
 j37:HP K mg fA fD "check_rooms" ED 37
 j38:HP K mg fA fD "check_ways" Fj 38
 j39:HP K mg fA fD "made" SH 39
 j40:HP K mg fA fD "rows_in" KU 40
 j41:HP K mg fA fD "parts_behind" DT 41
 j42:HP K mg fA fD "read_number" EF 42
 j43:HP K mg fA fD "read_count" Fm 43
 j44:HP K mg fA fD "read_letters" DU 44
 j45:HP K mg fA fD "read_room" Hh 45
 j46:HP K mg fA fD "read_house" Fo 46
 j47:HP K mg fA fD "goes_on" KY 47
 j48:HQ K fA fD "check_wants" "Turns.check_wants" BQ 48 (Meth K ao "check_wants")
 j49:HQ K fA fD "agree" "Hunt.agree" Fp 49 (Meth K ao "agree")
 j50:HP K mg fA fD "check_mark" Fq 50
 j51:HQ K fA fD "check" "Book.check" Fs 51 (Meth K ar "check")
 j52:HQ K fA fD "put" "Book.put" Ja 52 (Meth K ar "put")
 j53:HQ K fA fD "keep_answer" "Hunt.keep_answer" B9 53 (Meth K ao "keep_answer")
 j54:HQ K fA fD "hear" "Asker.hear" Ft 54 (Meth K ao "hear")
 j55:HQ K fA fD "keep_objection" "Hunt.keep_objection" Bz 55 (Meth K ao "keep_objection")
 j56:HQ K fA fD "differ" "Asker.differ" DV 56 (Meth K ao "differ")
 j57:HP K mg fA fD "word_text" Hj 57
 j58:HP K mg fA fD "check_as_many_letters" Bm 58
 j59:HP K mg fA fD "steps_from" Fu 59
 j60:HP K mg fA fD "word_to" K0 60
 j61:HP K mg fA fD "least_word_apart" Cb 61
 j62:HP K mg fA fD "difference" Fv 62
 j63:HP K mg fA fD "deed" SI 63
 j64:HP K mg fA fD "last_rows" Hk 64
 j65:HP K mg fA fD "sitting" K1 65
 j66:HP K mg fA fD "_law_cell_at" DW 66
 j67:HP K mg fA fD "_law_house_by" Dm 67
 j68:HP K mg fA fD "_law_text" Hl 68
 j69:HP K mg fA fD "_law_classes" DX 69
 j70:HP K mg fA fD "_law_answer" EG 70
 j71:HP K mg fA fD "_law_first_apart" Cc 71
 j72:HP K mg fA fD "_law_word_text" CP 72
 j73:HP K mg fA fD "_law_due" Jc 73
 j74:HP K mg fA fD "_law_most_asks" CQ 74
 j75:HP K mg fA fD "law" W9 75
section
variable {P:Program} {w:World} {K:α3} {mg:Str->α5} {base:Heap}
variable {aV aQ aW bh bT bH ar cy cz ao:Addr} {fA:Nat->Addr} {fD:Nat->α6} (EE:En P w K mg base aV aQ aW bh bT bH ar cy cz ao fA fD)
noncomputable def QM (K:α3):Sp:=fun vs H Q _=>∃(L:Int) (a:Addr) (ws:α2),vs=[.int L,.ref a]/\SqT K H a (ws.map V.int)/\ws.length<=1000/\∀H',Same H H'->Q (.bl (isW L ws)) H'
def QN:⋯ EE.j1 1 ["letters","word"] (QM K):=by
 delta EE.j1 QH
 ·obtain⟨L,a,ws,rfl,_⟩:=h;rfl
 ·obtain⟨L,a,ws,rfl,hw,hz,k⟩:=h;have hl:=Ak;refine⟨_,(Ae (Ap (AE (Kf rfl) rfl EE.all xI_ (Aa (Be rfl (Bq rfl) (cp:=K3) ⟨⟨rfl,rfl⟩,oq⟩ (Jt (pvD 1)) (fun _ _ _ _=>(Ar (i:=0) LI rfl (ou rfl))) (fun _ _ _ _=>Bu) (fun _ _ _ _=>(Mr IM Nm Ag (pvD 0) (pvD 1)))) Ad)))),?_⟩;nofun;refine⟨⟨_,hw⟩,HH (aj:=[some (.int L)]) (fun x=>match x with | .int n=>.bl (inW L n)|_=>.non) rfl hw (by rw[jb_];lia) (fun x hx R hR=>?_) (fun D hD=>?_)⟩
  ·obtain⟨n,_,rfl⟩:=C0 hx;nofun;by_cases h0:0<=n
   ·simp only[h0,xS_];simpa [inW,h0] using hR
   ·simp only[h0,q7_];simpa [inW,h0] using hR
  ·refine⟨D,rfl,ws.map (inW L),.inl (.inl ?_),?_⟩
   ·rw[Ab,jN_,jN_];rfl
   ·have:=k _ (Same.new hD (o:=.lst ((ws.map V.int).map fun x=>match x with | .int n=>.bl (inW L n)|_=>.non)));simpa [isW,pD] using this
noncomputable def UC (K:α3)(BW:Addr):Sp:=fun vs H Q E=>∃(L:Int) (a:Addr) (ws:α2),vs=[.int L,.ref a]/\SqT K H a (ws.map V.int)/\ws.length<=1000/\(isW L ws=true->∀H',Same H H'->Q .non H')/\(isW L ws=false->∀H',Same H H'->E (.ref BW) none H')
def Ic:CalH P w mg base (CXe P w) EE.j2 2 ["letters","word"] (UC K aQ):=by
 refine HG.okE EE.j2 MQ (fun vs H Q E h=>?_) (fun au A outer s H vs Q E hr h=>?_)
 ·obtain⟨L,a,ws,rfl,_⟩:=h;rfl
 ·obtain⟨L,a,ws,rfl,hw,hz,k,kE⟩:=h;have hl:=Ak;refine⟨_,(Ae (AY (Gw (ptB (Kp (Aj (QN EE) hr.d AB (Aa (pvD 0) (Aa (pvD 1) Ad))))))
   (Ae (BO EE.m_j6 EE.x_j6 rfl rfl (Aa As Ad)))
   Aw)),?_⟩
  nofun;refine⟨L,a,ws,rfl,hw,hz,fun H' s'=>?_⟩;nofun;cases hv:isW L ws with
  |true=>
   simp only[Bool.not_true,qC_,q7_];exact k hv H' s'
  |false=>
   simp only[Bool.not_false,xS_];exact⟨by lia,kE hv H' s'⟩
noncomputable def QO:Sp:=fun vs H Q _=>∃n:Int,vs=[.int n]/\Q (.bl (decide (0<=n)&&decide (n<=1000000000))) H
def L3:⋯ EE.j35 1 ["number"] (QO):=by
 delta EE.j35 QI
 ·obtain⟨n,rfl,_⟩:=h;rfl
 ·obtain⟨n,rfl,k⟩:=h;refine⟨_,(Ae (Ap (Mr IM IM Ag (pvD 0) (Sl rfl EE.q_jc)))),?_⟩;nofun;by_cases h0:0<=n
  ·simp only[h0,xS_];simpa [h0] using k
  ·simp only[h0,q7_];simpa [h0] using k
noncomputable def LJ (BM:Addr):Sp:=fun vs H Q E=>∃n:Int,vs=[.int n]/\(0<=n->n<=1000000000->Q .non H)/\(¬ (0<=n/\n<=1000000000)->E (.ref BM) none H)
def M3:CalH P w mg base (CXe P w) EE.j50 2 ["mark"] (LJ aW):=by
 refine HG.okE EE.j50 MW (fun vs H Q E h=>?_) (fun au A outer s H vs Q E hr h=>?_)
 ·obtain⟨n,rfl,_⟩:=h;rfl
 ·obtain⟨n,rfl,k,kE⟩:=h;refine⟨_,(Ae (AY (Gw (ptB (Kp (Aj (L3 EE) hr.d AB (Aa (pvD 0) Ad)))))
   (Ae (BO EE.m_j7 EE.x_j7 rfl rfl (Aa As Ad)))
   Aw)),?_⟩
  nofun;refine⟨n,rfl,?_⟩;nofun;by_cases h0:0<=n/\n<=1000000000
  ·rw[if_neg (by simp[h0.1,h0.2])];exact k h0.1 h0.2
  ·rw[if_pos (by simp only[Bool.not_eq_true',Bool.and_eq_false_iff,decide_eq_false_iff_not];lia)];exact⟨by have:=Ak;lia,kE h0⟩
noncomputable def UD (K:α3)(BW:Addr):Sp:=fun vs H Q E=>∃(h a:Addr) (L:Int) (af:α2) (ag:α1) (ws:α2),vs=[.ref h,.ref a]/\Cn K H h L af ag/\Wf L af ag/\SqT K H a (ws.map V.int)/\ws.length<=600/\(isW L ws=true->∀p H',Same H H'->H p=none->H' p=some (.lst ((Jx ag ws).map V.int))->Q (.ref p) H')/\(isW L ws=false->∀H',Same H H'->E (.ref BW) none H')
def Qb:CalH P w mg base (CXe P w) EE.j3 3 ["house","word"] (UD K aQ):=by
 refine HG.okE EE.j3 Kj (fun vs H Q E h=>?_) (fun au A outer s H vs Q E hr h=>?_)
 ·obtain⟨h,a,L,af,ag,ws,rfl,_⟩:=h;rfl
 ·obtain⟨h,a,L,af,ag,ws,rfl,hh,wf,hw,hz,k,kE⟩:=h;have hl:=Ak;refine⟨_,(Ac (Ay (Aj (Ic EE) hr.d (Ep fun _ _ _ h=>h) (Aa (Ai (ixTD An) (pvD 0) Ag) (Aa (pvD 1) Ad))))
   (PSs.nox (Ac (Ao (i:=2) Kj.nd (Ai (ixTD An) (pvD 0) Ag))
   (Ac (Ao (i:=3) Kj.nd (A7 (Aa Ag Ad)))
   (Ac (Bh jG_ rfl (Jt (pvD 1)) (Ar (i:=4) Kj.nd rfl (ou rfl))
   (Ae (Ay (Ek jS_ jX_ jY_ BN (pvD 3) (Aa (Ai (ixTD An) (Ai (ixTD An) (pvD 2) (Ai (ixLD AZ) (pvD 3) (Ov Kq Ag))) (pvD 4)) Ad)))))
   (Ae (Ap (pvD 3)))))))),?_⟩
  nofun;obtain⟨m,wv,h1,h2,h3⟩:=hh;refine⟨_,h1,_,rfl,L,a,ws,rfl,hw,by lia,fun hv H1 s1=>?_,kE⟩;nofun;have hw1:=s1.seqT hw;have mU:=h3.mono s1;refine⟨_,s1.seqT h1,_,rfl,by lia,fun p hp=>?_⟩;have s2:=Same.new hp (o:=.lst [V.int 0]);refine⟨⟨_,s2.seqT hw1⟩,forT (xs:=ws.map V.int) (fun i aq H2=>Same H1 H2/\H2 p=some (.lst (((om (i+1)).map fun j=>Al ag (ws.take j)).map V.int))/\∃o,aq=[some (.ref h),some (.ref a),some (.ref wv),some (.ref p),o]) ⟨s2,by rw[Ab];simp[Al],none,rfl⟩ (fun i aq H2 _ h=>h.1.seqT hw1) (fun i x aq H2 hx h=>?_) (fun aq H2 h=>?_)⟩
  ·obtain⟨s3,bI,o,rfl⟩:=h;obtain⟨n,hn,rfl⟩:=Gb hx;have hi:=(ja_.mp hn).1;have hx:=Am.mp hv n (jc_ hn);have c7:=wf.walk hv i;obtain⟨row,g,r1,r2,r3,r4,r5⟩:=wf.step c7.1 c7.2 hx.1 hx.2;obtain⟨xs,t,q1,q2,q3⟩:=(mU.mono s3).atZ c7.1 r1;nofun;refine⟨.inl ⟨rfl,_,SqL.of bI⟩,_,SqL.of bI,_,MF (v:=V.int (Al ag (ws.take i))) (by simp),?_⟩;nofun;refine⟨_,q1,_,q2,?_⟩;nofun;refine⟨_,q3,_,Cw hx.1 r2,_,bI,by simp;lia,s3.over hp,?_,_,rfl⟩;rw[Ab,show om (i+1+1)=om (i+1)++[i+1] from xi_,jz_,jz_,<-r3,<-Gd hn];rfl
  ·obtain⟨s3,bI,o,rfl⟩:=h;nofun;rw[jb_]at bI;exact k hv p H2 (s1.trans s3) (s1.free hp) bI
noncomputable def Xa (K:α3)(BW:Addr):Sp:=fun vs H Q E=>∃(h a:Addr) (L:Int) (af:α2) (ag:α1) (ws:α2),vs=[.ref h,.ref a]/\Cn K H h L af ag/\Wf L af ag/\SqT K H a (ws.map V.int)/\ws.length<=600/\(isW L ws=true->∀H',Same H H'->Q (.int (Al ag ws)) H')/\(isW L ws=false->∀H',Same H H'->E (.ref BW) none H')
def LK:CalH P w mg base (CXe P w) EE.j10 4 ["house","word"] (Xa K aQ):=by
 refine HG.okE EE.j10 Lz (fun vs H Q E h=>?_) (fun au A outer s H vs Q E hr h=>?_)
 ·obtain⟨h,a,L,af,ag,ws,rfl,_⟩:=h;rfl
 ·obtain⟨h,a,L,af,ag,ws,rfl,hh,wf,hw,hz,k,kE⟩:=h;have hl:=Ak;refine⟨_,(Ae (Ap (Ai (ixLD AZ) (Aj (Qb EE) hr.d (Ep fun _ _ _ h=>h) (Aa (pvD 0) (Aa (pvD 1) Ad))) (Ov Kq Ag)))),?_⟩;nofun;refine⟨h,a,L,af,ag,ws,rfl,hh,wf,hw,hz,fun hv p H1 s1 _ hp=>?_,kE⟩;nofun;refine⟨_,SqL.of hp,_,MF (v:=V.int (Al ag ws)) ?_,k hv H1 s1⟩;rw[jj_,jb_,ME,show ws.length+1-1=ws.length by lia,OE];rfl
noncomputable def Ax (af:α2)(r:Int):Int:=af.getD r.toNat 0
def UE (h0:0<=r)(h1:r<af.length):atI (af.map V.int) r=some (V.int (Ax af r)):=by
 have ay:r.toNat<af.length:=by lia
 refine Cw h0 ?_;unfold Ax;rw[jp_];simp[ay]
noncomputable def Xb (K:α3)(BW:Addr):Sp:=fun vs H Q E=>∃(h a:Addr) (L:Int) (af:α2) (ag:α1) (ws:α2),vs=[.ref h,.ref a]/\Cn K H h L af ag/\Wf L af ag/\SqT K H a (ws.map V.int)/\ws.length<=600/\(isW L ws=true->∀H',Same H H'->Q (.int (Ax af (Al ag ws))) H')/\(isW L ws=false->∀H',Same H H'->E (.ref BW) none H')
def CG:CalH P w mg base (CXe P w) EE.j11 5 ["house","word"] (Xb K aQ):=by
 refine HG.okE EE.j11 LA (fun vs H Q E h=>?_) (fun au A outer s H vs Q E hr h=>?_)
 ·obtain⟨h,a,L,af,ag,ws,rfl,_⟩:=h;rfl
 ·obtain⟨h,a,L,af,ag,ws,rfl,hh,wf,hw,hz,k,kE⟩:=h;have hl:=Ak;refine⟨_,(Ae (Ap (Ai (ixTD An) (Ai (ixTD An) (pvD 0) Ag) (Aj (LK EE) hr.d (Ep fun _ _ _ h=>h) (Aa (pvD 0) (Aa (pvD 1) Ad)))))),?_⟩;nofun;have mY:=hh;obtain⟨m,wv,h1,h2,h3⟩:=hh;refine⟨_,h1,_,rfl,?_⟩;nofun;refine⟨h,a,L,af,ag,ws,rfl,mY,wf,hw,hz,fun hv H1 s1=>?_,kE⟩;nofun;have c7:=wf.walk hv ws.length;rw[jE_]at c7;exact⟨_,s1.seqT h2,_,UE c7.1 c7.2,k hv H1 s1⟩
noncomputable def N1 (C:Addr):Sp:=fun vs H Q _=>∃(p dx:Addr) (L:Int),vs=[.ref p,.int L]/\H p=some (.ins C dx [])/\∀(d:Addr) (H':Hp),H d=none->BookAt C H' p d L []->(∀b o,H b=some o->b≠p->H' b=some o)->Q .non H'
def JC:⋯ EE.j0 1 ["self","letters"] (N1 ar):=by
 delta EE.j0 NV
 ·obtain⟨p,dx,L,rfl,_⟩:=h;rfl
 ·obtain⟨p,dx,L,rfl,hp,k⟩:=h;refine⟨_,(Ac (Co (pvD 0) (pvD 1) rfl)
   (Ae (Co (pvD 0) Ga rfl))),?_⟩
  nofun;refine⟨_,_,_,hp,EE.cl_j1,EE.n_Book_letters,by decide,fun d hd=>?_⟩;have mZ:d≠p:=fun z=>by rw[z,Ab]at hd;cases hd
  rw[Ah mZ]at hd;refine⟨_,_,_,by rw[Ah (qm_ mZ)];exact Ab,EE.cl_j1,EE.n_Book_marks,by simp[putF],?_⟩;refine k d _ hd ⟨⟨_,Ab⟩,by rw[Ah mZ];exact Ab,by simp⟩ fun b o hb lH=>?_;rw[Ah lH,Ah (AW hb hd),Ah lH];exact hb
noncomputable def LL (C BW BM:Addr):Sp:=fun vs H Q E=>∃(p d t:Addr) (L m:Int) (w:α2) (es:List (α2×Int)),vs=[.ref p,.ref t,.int m]/\BookAt C H p d L es/\H t=some (.tup (w.map V.int))/\w.length<=900 /\
 (isW L w=false->∀H',Same H H'->E (.ref BW) none H') /\
 (isW L w=true->¬ (0<=m/\m<=1000000000)->∀H',Same H H'->E (.ref BM) none H') /\
 (isW L w=true->0<=m->m<=1000000000->∀H',Same H H'->Q .non H')
def C3:CalH P w mg base (CXe P w) EE.j51 3 ["self","word","mark"] (LL ar aQ aW):=by
 refine HG.okE EE.j51 MX (fun vs H Q E h=>?_) (fun au A outer s H vs Q E hr h=>?_)
 ·obtain⟨p,d,t,L,m,wd,es,rfl,_⟩:=h;rfl
 ·obtain⟨p,d,t,L,m,wd,es,rfl,B,ht,aY,kW,kM,k⟩:=h;have gh:=Ak;refine⟨_,(Ac (Ay (Aj (Ic EE) hr.d (Ep fun _ _ _ h=>h) (Aa (AI (pvD 0) rfl) (Aa (pvD 1) Ad))))
   (Ae (Ay (Aj (M3 EE) hr.d (Ep fun _ _ _ h=>h) (Aa (pvD 2) Ad))))),?_⟩
  obtain⟨⟨dx,hp⟩,hd,nd⟩:=id B;nofun;refine⟨_,_,_,hp,EE.cl_j1,EE.n_Book_letters,_,ML _ _,?_⟩;refine⟨L,t,wd,rfl,SqT.of ht,by lia,fun hw H1 s1=>?_,fun hw H1 s1=>kW hw H1 s1⟩;nofun;exact⟨m,rfl,fun h0 h1=>k hw h0 h1 _ s1,fun hm=>kM hw hm H1 s1⟩
noncomputable def putE (es:List (α2×Int))(v:α2)(m:Int):List (α2×Int):=if v∈es.map (·.1) then es else es++[(v,m)]
def QP (nd:(es.map (·.1)).Nodup)(h:(v,m)∈es):putK (ents es) (wkey v) (.int m)=ents es:=by
 unfold putK;rw[El,DG nd h,if_pos (by simp)];unfold ents;rw[jN_];refine jM_ fun e he=>?_;show (if wkey e.1=wkey v then (wkey e.1,V.int m) else (wkey e.1,V.int e.2))=(wkey e.1,V.int e.2);split
 ·rename_i z
  have e1:e.1=v:=Kh z;have h1:=DG nd (show (e.1,e.2)∈es from he);rw[e1,DG nd h]at h1;rw[jB_ h1]
 ·rfl
noncomputable def N2 (C BW BM CO:Addr):Sp:=fun vs H Q E=>∃(p d t:Addr) (L m:Int) (w:α2) (es:List (α2×Int)),vs=[.ref p,.ref t,.int m]/\BookAt C H p d L es/\H t=some (.tup (w.map V.int))/\w.length<=900/\es.length<=100000 /\
 (isW L w=false->∀H',Same H H'->E (.ref BW) none H') /\
 (isW L w=true->¬ (0<=m/\m<=1000000000)->∀H',Same H H'->E (.ref BM) none H') /\
 (isW L w=true->0<=m->m<=1000000000->∀n,(w,n)∈es->n≠m->∀H',Same H H'->E (.ref CO) none H') /\
 (isW L w=true->0<=m->m<=1000000000->(∀n,(w,n)∈es->n=m)->∀H',BookAt C H' p d L (putE es w m)->(∀b o,H b=some o->b≠d->H' b=some o)->Q .non H')
def EH:CalH P w mg base (CXe P w) EE.j52 4 ["self","word","mark"] (N2 ar aQ aW bH):=by
 refine HG.okE EE.j52 OQ (fun vs H Q E h=>?_) (fun au A outer s H vs Q E hr h=>?_)
 ·obtain⟨p,d,t,L,m,w,es,rfl,_⟩:=h;rfl
 ·obtain⟨p,d,t,L,m,wd,es,rfl,B,ht,aY,hl,kW,kM,kC,k⟩:=h;have gh:=Ak;refine⟨_,(Ac (Ay (A9 (pvD 0) EE.cl_j1 EE.j51.m (C3 EE).g hr.d (C3 EE).b .nil (Ep fun _ _ _ h=>h) (Aa (pvD 1) (Aa (pvD 2) Ad))))
   (Ac (AY (ptT (Au (opN G8) (Ua (CZ hr) (AI (pvD 0) rfl) (pvD 1) (pvD 2) ⟨by rfl,by rfl,by rfl,by rfl⟩) (pvD 2) (AG _)))
   (Ae (BO EE.m_j2 EE.x_j2 rfl rfl (Aa As Ad)))
   Aw)
   (Ae (Em (CZ hr) (AI (pvD 0) rfl) (pvD 1) (pvD 2) rfl)))),?_⟩
  obtain⟨⟨dx,hp⟩,hd,nd⟩:=id B;nofun;refine⟨_,_,hp,CC _ _ (by decide +kernel) (by decide +kernel),p,d,t,L,m,wd,es,rfl,B,ht,aY,fun hw H1 s1=>kW hw H1 s1,fun hw hm H1 s1=>kM hw hm H1 s1,fun hw h0 h1 H1 s1=>?_⟩;have bM:=s1 _ _ hp;have jy:=s1 _ _ hd;have c8:H1 t=some (.tup ((wkey wd).map kV)):=by rw[BI];exact s1 _ _ ht
  have gK:(ents es).length=es.length:=by unfold ents;rw[jb_]
  have hpd:p≠d:=fun z=>by rw[z,jy]at bM;cases bM
  have hg:=DGet.t jy c8;nofun;by_cases hn:wd∈es.map (·.1)
  ·obtain⟨e,he,rfl⟩:=jq_.mp hn;have hv:=DG nd (show (e.1,e.2)∈es from he);rw[hv]at hg;refine⟨_,_,_,bM,EE.cl_j1,EE.n_Book_marks,_,Cy _ _,d,rfl,.inr ⟨_,.inl jy⟩,_,hg,rfl,?_⟩;by_cases hm:e.2=m
   ·rw[if_neg (by simp[hm])];refine⟨_,_,_,bM,EE.cl_j1,EE.n_Book_marks,_,Cy _ _,d,rfl,_,DPut.t jy c8 s!"",?_⟩;rw[QP nd (show (e.1,m)∈es from hm ▸ he)];refine k hw h0 h1 (fun n eX=>?_) _ ⟨⟨dx,by rw[Ah hpd];exact bM⟩,by unfold putE;rw[if_pos hn];exact Ab,by unfold putE;rw[if_pos hn];exact nd⟩ fun b o hb gL=>by rw[Ah gL];exact s1 _ _ hb
    have h2:=DG nd eX;rw[hv]at h2;have h3:=jB_ h2;simp at h3;lia
   ·rw[if_pos (by simp[hm])];exact⟨by lia,kC hw h0 h1 e.2 he hm H1 s1⟩
  ·rw[KL hn]at hg;refine⟨_,_,_,bM,EE.cl_j1,EE.n_Book_marks,_,Cy _ _,d,rfl,.inr ⟨_,.inl jy⟩,_,hg,rfl,?_⟩;rw[if_neg (by simp)];refine⟨_,_,_,bM,EE.cl_j1,EE.n_Book_marks,_,Cy _ _,d,rfl,_,DPut.t jy c8 s!"",?_⟩;rw[P0 hn];refine k hw h0 h1 (fun n eX=>absurd (jq_.mpr ⟨_,eX,rfl⟩) hn) _ ⟨⟨dx,by rw[Ah hpd];exact bM⟩,by unfold putE;rw[if_neg hn];exact Ab,?_⟩ fun b o hb gL=>by rw[Ah gL];exact s1 _ _ hb
   unfold putE;rw[if_neg hn,jz_,qI_];refine⟨nd,by simp,fun a ha b hb z=>?_⟩;rw[xE_,jd_]at hb;exact hn (by have e:a=wd:=z.trans hb;rw[<-e];exact ha)
noncomputable def N3 (C:Addr):Sp:=fun vs H Q _=>∃(p d t:Addr) (L:Int) (w:α2) (es:List (α2×Int)),vs=[.ref p,.ref t]/\BookAt C H p d L es/\H t=some (.tup (w.map V.int))/\(w∉es.map (·.1)->Q .non H)/\∀m,(w,m)∈es->Q (.int m) H
def Bi:⋯ EE.j4 1 ["self","word"] (N3 ar):=by
 delta EE.j4 NW
 ·obtain⟨p,d,t,L,wd,es,rfl,_⟩:=h;rfl
 ·obtain⟨p,d,t,L,wd,es,rfl,B,ht,kn,ks⟩:=h;refine⟨_,(Ae (Ap (Po (CZ hr) (AI (pvD 0) rfl) (pvD 1) ⟨by rfl,by rfl,by rfl,by rfl⟩))),?_⟩;obtain⟨⟨dx,hp⟩,hd,nd⟩:=id B;have c8:H t=some (.tup ((wkey wd).map kV)):=by rw[BI];exact ht
  nofun;refine⟨_,_,_,hp,EE.cl_j1,EE.n_Book_marks,_,Cy _ _,d,rfl,.inr ⟨_,.inl hd⟩,_,DGet.t hd c8,?_⟩;by_cases hm:wd∈es.map (·.1)
  ·obtain⟨e,he,rfl⟩:=jq_.mp hm;rw[DG nd (show (e.1,e.2)∈es from he)];exact ks e.2 he
  ·rw[KL hm];exact kn hm
noncomputable def SM (H:Hp)(rs:List V)(es:List (α2×Int)):Prop:=rs.length=es.length/\∀(i:Nat) (tr:α2×Int),es[i]?=some tr->∃t b,rs[i]?=some (V.ref t)/\H t=some (.tup [.ref b,.int tr.2])/\H b=some (.tup (tr.1.map V.int))
noncomputable def M5 (K:α3)(C:Addr):Sp:=fun vs H Q _=>∃(p d:Addr) (L:Int) (es:List (α2×Int)),vs=[.ref p]/\BookAt C H p d L es/\∀l rs H',Same H H'->H l=none->H' l=some (.lst rs)->SM H' rs es->Q (.ref l) H'
def Ie:⋯ EE.j19 1 ["self"] (M5 K ar):=by
 delta EE.j19 MS
 ·obtain⟨p,d,L,es,rfl,_⟩:=h;rfl
 ·obtain⟨p,d,L,es,rfl,B,k⟩:=h;refine⟨_,(Ae (Ap (Av (KJ rfl) rfl EE.list qH_ (Aa (Ut (AI (pvD 0) rfl)) Ad)))),?_⟩;obtain⟨⟨dx,hp⟩,hd,nd⟩:=id B;nofun;refine⟨_,_,_,hp,EE.cl_j1,EE.n_Book_marks,_,Cy _ _,d,rfl,_,.inl hd,fun v hv=>?_⟩;have sv:=Same.new (o:=OI v d) hv;refine⟨d,Ab,_,.inl (sv _ _ hd),fun l rs H2 s2 dv av hr=>?_⟩;have s3:=sv.trans (s2.newT (o:=.lst rs) dv);refine k l rs _ s3 (Same.none (sv.trans s2) dv) Ab ⟨by rw[av];unfold ents;rw[jb_],fun i tr hi=>?_⟩;obtain⟨t,e1,b,e2,e3⟩:=hr i (wkey tr.1) (.int tr.2) (by unfold ents;rw[jj_,hi];rfl);rw[BI]at e3;exact⟨t,b,e1,(Same.new dv) _ _ e2,(s2.newT dv) _ _ e3⟩
noncomputable def SN (K:α3):Sp:=fun vs H Q _=>∃(L:Nat) (a:Addr) (xs:List V) (ah:α1),vs=[.int L,.ref a]/\L<=6/\SqL K H a xs/\Az K H xs ah/\ah.length<=100/\(∀w∈ah,w.length<=100)/\∀l rs H',Same H H'->H l=none->H' l=some (.lst rs)->Az K H' rs (AK L ah)->Q (.ref l) H'
def L4:⋯ EE.j7 1 ["letters","access"] (SN K):=by
 delta EE.j7 D5
 ·obtain⟨L,a,xs,ah,rfl,_⟩:=h;rfl
 ·obtain⟨L,a,xs,ah,rfl,hL,ha,hw,ck,aY,k⟩:=h;have hl:=Ak;refine⟨_,(Ac (C7 (i:=2) D5.nd rfl (ou rfl) Ga)
   (Ac (Bh jG_ rfl (Bc (pvD 1)) (Ar (i:=3) D5.nd rfl (ou rfl))
   (Ae (Em (CZ hr) (pvD 2) (pvD 3) Mp rfl)))
   (Ac (Bh jG_ rfl (Bc (pvD 1)) (Ar (i:=3) D5.nd rfl (ou rfl))
   (Ae (Bh jG_ rfl (Bs rfl EE.range (Aa (pvD 0) Ad)) (Ar (i:=4) D5.nd rfl (ou rfl))
   (Ae (Em (CZ hr) (pvD 2) (AL HI (pvD 3) (Bt (Aa (pvD 4) Ad))) Mp rfl)))))
   (Ae (Ap (Av (Dd rfl) rfl EE.list qH_ (Aa (pvD 2) Ad))))))),?_⟩
  nofun;intro p hp;have sp:=Same.new (o:=.dT []) hp;refine⟨⟨_,sp.seq ha⟩,?_⟩;obtain⟨Pv,aw⟩:∃Pv:Nat->St->Hp->Prop,∀i aj H',Pv i aj H'↔(∃(kvs:List (List Key×V)) (o:Option V),Same H H'/\H' p=some (.dT kvs)/\CM ((ah.take i).foldl ins []) kvs/\aj=[some (.int L),some (.ref a),some (.ref p),o,none]):=⟨_,fun _ _ _=>ql_⟩;refine forL (xs:=xs) Pv ((aw _ _ _).mpr ⟨[],none,sp,Ab,by rw[xt_];exact CM.nil,rfl⟩) (fun i aj H' _ h'=>by obtain⟨_,_,s',_⟩:=(aw _ _ _).mp h';exact s'.seq ha) (fun i x aj H' hx h'=>?_) (fun aj H' h'=>?_)
  ·obtain⟨kvs,o,s',hd,hk,rfl⟩:=(aw _ _ _).mp h';obtain⟨t,w,aN,rfl,ht⟩:=hw.at hx;have av:kvs.length<=100:=by
    have:=AX (ah.take i) [];rw[hk.len];simp at this ⊢;lia
   nofun;refine⟨_,DPut.t (k:=wkey w) hd (by rw[BI];exact s' _ _ ht) s!"",(aw _ _ _).mpr ⟨_,_,s'.over hp,Ab,?_,rfl⟩⟩;rw[jA_,aN,x2_,qg_];exact hk.put w _
  ·obtain⟨kvs,o,s',hd,hk,rfl⟩:=(aw _ _ _).mp h';rw[hw.1,jE_]at hk;nofun;refine⟨⟨_,s'.seq ha⟩,?_⟩;obtain⟨Pw,bU⟩:∃Pv:Nat->St->Hp->Prop,∀i aj H',Pv i aj H'↔(∃(kvs:List (List Key×V)) (o o':Option V),Same H H'/\H' p=some (.dT kvs)/\CM (((ah.take i).flatMap (extW L)).foldl ins (ah.foldl ins [])) kvs/\aj=[some (.int L),some (.ref a),some (.ref p),o,o']):=⟨_,fun _ _ _=>ql_⟩;refine forL (xs:=xs) Pw ((bU _ _ _).mpr ⟨kvs,_,_,s',hd,by rw[xt_];exact hk,rfl⟩) (fun i aj H' _ h'=>by obtain⟨_,_,_,s',_⟩:=(bU _ _ _).mp h';exact s'.seq ha) (fun i x aq H2 hx h2=>?_) (fun aq H2 h2=>?_)
   ·obtain⟨kvs,o,o',s2,hd,hk,rfl⟩:=(bU _ _ _).mp h2;obtain⟨t,w,aN,rfl,ht⟩:=hw.at hx;have hwlen:=aY w (jc_ aN);have jz:=s2 _ _ ht;nofun;refine⟨by lia,by lia,?_⟩;rw[jC_];obtain⟨Py,fK⟩:∃Pv:Nat->St->Hp->Prop,∀j aj H',Pv j aj H'↔(∃(kvs:List (List Key×V)) (o':Option V),Same H H'/\H' p=some (.dT kvs)/\CM (((om j).map fun x:Nat=>w++[(x:Int)]).foldl ins (((ah.take i).flatMap (extW L)).foldl ins (ah.foldl ins []))) kvs/\aj=[some (.int L),some (.ref a),some (.ref p),some (.ref t),o']):=⟨_,fun _ _ _=>ql_⟩;refine forR Py ((fK _ _ _).mpr ⟨kvs,_,s2,hd,hk,rfl⟩) (fun j aJ H3 hj h3=>?_) (fun aJ H3 h3=>?_)
    ·obtain⟨kvs,o',s3,hd,hk,rfl⟩:=(fK _ _ _).mp h3;have ej:(0:Int)+(j:Nat)=(j:Int):=by lia
     rw[ej];have ix:=s3 _ _ ht;have av:kvs.length<=10000:=by
      have h1:=AX ((om j).map fun x:Nat=>w++[(x:Int)]) (((ah.take i).flatMap (extW L)).foldl ins (ah.foldl ins []));have h2:=AX ((ah.take i).flatMap (extW L)) (ah.foldl ins []);have h3:=AX ah [];have h4:((ah.take i).flatMap (extW L)).length<=600:=by
       rw[xp_];have:(ah.take i).map (fun a=>(extW L a).length)=(ah.take i).map (fun _=>L):=jM_ fun a _=>by simp[extW]
       rw[this,pM,x5_];have:(ah.take i).length<=100:=by rw[jI_];lia
       exact j1_ (j3_ this hL) s!""
      rw[hk.len];simp at h1 h3;lia
     nofun;refine⟨by lia,fun p1 bM=>?_⟩;refine Gx.ofS (Same.new bM _ _ ix) Ab (by simp;lia) fun q H4 s4 hq=>?_;have gM:=(Same.new (o:=.tup [V.int (j:Int)]) bM).trans s4;have eC:H4 q=some (.tup ((wkey (w++[(j:Int)])).map kV)):=by rw[BI,hq];simp
     refine⟨_,DPut.t (k:=wkey (w++[(j:Int)])) (gM _ _ hd) eC s!"",(fK _ _ _).mpr ⟨_,_,(s3.trans gM).over hp,Ab,?_,rfl⟩⟩;rw[xi_,jz_,qg_];exact hk.put _ _
    ·obtain⟨kvs,o',s3,hd,hk,rfl⟩:=(fK _ _ _).mp h3;refine (bU _ _ _).mpr ⟨kvs,_,_,s3,hd,?_,rfl⟩;rw[jA_,aN,x2_,qb,qg_];simpa [extW] using hk
   ·obtain⟨kvs,o,o',s2,hd,hk,rfl⟩:=(bU _ _ _).mp h2;rw[hw.1,jE_]at hk;nofun;refine⟨kvs,.inl hd,fun l rs gh bG dO=>?_⟩;exact k l rs _ (s2.newT gh) (Same.none s2 gh) Ab ((hk.words (K:=K) bG dO).mono (TK.new gh))
noncomputable def UG (K:α3):Sp:=fun vs H Q _=>∃(L:Nat) (a e:Addr) (xs ys:List V) (ah ends:α1),vs=[.int L,.ref a,.ref e]/\L<=6/\SqL K H a xs/\Az K H xs ah/\ah.length<=100/\(∀w∈ah,w.length<=100)/\SqL K H e ys/\Az K H ys ends/\ends.length<=100/\(∀w∈ends,w.length<=500)/\∀l rs H',Same H H'->H l=none->H' l=some (.lst rs)->Az K H' rs (De (AK L ah) ends)->Q (.ref l) H'
def OS (hL:L<=6)(ck:ah.length<=100)(aY:∀w∈ah,w.length<=100):(AK L ah).length<=700/\∀w∈AK L ah,w.length<=101:=by
 have mem:∀(l s:α1) (w:α2),w∈l.foldl ins s->w∈s\/w∈l:=by
  intro l
  induction l with
  |nil=>intro s w h;exact .inl h
  |cons v l ih=>
   intro s w h;rw[xh_]at h;rcases ih _ _ h with h|h
   ·unfold ins at h;split at h
    ·exact .inl h
    ·rcases jx_.mp h with h|h
     ·exact .inl h
     ·rw[jd_.mp h];exact .inr js_
   ·exact .inr (jm_ _ h)
 refine⟨?_,fun w hw=>?_⟩
 ·have h2:=AX (ah.flatMap (extW L)) (ah.foldl ins []);have h3:=AX ah [];have h4:(ah.flatMap (extW L)).length<=600:=by
   rw[xp_];have:ah.map (fun a=>(extW L a).length)=ah.map (fun _=>L):=jM_ fun a _=>by simp[extW]
   rw[this,pM,x5_];exact j1_ (j3_ ck hL) s!""
  unfold AK;simp at h3;lia
 ·unfold AK at hw;rcases mem _ _ _ hw with h|h
  ·rcases mem _ _ _ h with h|h
   ·simp at h
   ·have:=aY w h;lia
  ·obtain⟨v,hv,h⟩:=xr_.mp h;obtain⟨x,_,rfl⟩:=jq_.mp h;have:=aY v hv;simp;lia
def UH:⋯ EE.j8 2 ["letters","access","ends"] (UG K):=by
 delta EE.j8 Kk
 ·obtain⟨L,a,e,xs,ys,ah,ends,rfl,_⟩:=h;rfl
 ·obtain⟨L,a,e,xs,ys,ah,ends,rfl,hL,ha,hw,ck,aY,he,hwe,gK,hewl,k⟩:=h;have hl:=Ak;obtain⟨bG,dA⟩:=OS hL ck aY;refine⟨_,(Ac (C7 (i:=3) Kk.nd rfl (ou rfl) Ga)
   (Ac (Bh jG_ rfl (Bc (Aj (L4 EE) hr.d AB (Aa (pvD 0) (Aa (pvD 1) Ad)))) (Ar (i:=4) Kk.nd rfl (ou rfl))
   (Ae (Bh jG_ rfl (Bc (pvD 2)) (Ar (i:=5) Kk.nd rfl (ou rfl))
   (Ae (Em (CZ hr) (pvD 3) (AL HI (pvD 4) (pvD 5)) Mp rfl)))))
   (Ae (Ap (Av (Dd rfl) rfl EE.list qH_ (Aa (pvD 3) Ad)))))),?_⟩
  nofun;intro p hp;have sp:=Same.new (o:=.dT []) hp;refine⟨L,a,xs,ah,rfl,hL,sp.seq ha,hw.mono (TK.of sp),ck,aY,fun r rs H1 s1 iq hr dO=>?_⟩;generalize AK L ah=rows at bG dA dO k;have m6:=sp.trans s1;have hrH:H r=none:=Same.none sp iq;have bM:=s1 _ _ (Ab (H:=H) (a:=p) (o:=.dT []));nofun;refine⟨⟨_,SqL.of hr⟩,?_⟩;have kj:r≠p:=(Cv iq).2;obtain⟨Pw,bU⟩:∃Pv:Nat->St->Hp->Prop,∀i aj H',Pv i aj H'↔(∃(kvs:List (List Key×V)) (o o':Option V),Same H H'/\H' r=some (.lst rs)/\Az K H' rs rows/\H' p=some (.dT kvs)/\CM (((rows.take i).flatMap fun r=>ends.map (r ++ ·)).foldl ins []) kvs/\aj=[some (.int L),some (.ref a),some (.ref e),some (.ref p),o,o']):=⟨_,fun _ _ _=>ql_⟩;refine forL (xs:=rs) Pw ((bU _ _ _).mpr ⟨[],_,_,m6,hr,dO,bM,by rw[xt_];exact CM.nil,rfl⟩) (fun i aj H' _ h'=>by obtain⟨_,_,_,_,q,_⟩:=(bU _ _ _).mp h';exact SqL.of q) (fun i x aq H2 hx h2=>?_) (fun aq H2 h2=>?_)
  ·obtain⟨kvs,o,o',s2,fL,iy,hd,hk,rfl⟩:=(bU _ _ _).mp h2;obtain⟨t,w,aN,rfl,ht⟩:=iy.at hx;have hwlen:=dA w (jc_ aN);nofun;refine⟨⟨_,s2.seq he⟩,?_⟩;obtain⟨Py,fK⟩:∃Pv:Nat->St->Hp->Prop,∀j aj H',Pv j aj H'↔(∃(kvs:List (List Key×V)) (o':Option V),Same H H'/\H' r=some (.lst rs)/\Az K H' rs rows/\H' t=some (.tup (w.map V.int))/\H' p=some (.dT kvs)/\CM (((ends.take j).map (w ++ ·)).foldl ins (((rows.take i).flatMap fun r=>ends.map (r ++ ·)).foldl ins [])) kvs/\aj=[some (.int L),some (.ref a),some (.ref e),some (.ref p),some (.ref t),o']):=⟨_,fun _ _ _=>ql_⟩;refine forL (xs:=ys) Py ((fK _ _ _).mpr ⟨kvs,_,s2,fL,iy,ht,hd,by rw[xt_];exact hk,rfl⟩) (fun j aj H' _ h'=>by obtain⟨_,_,s',_⟩:=(fK _ _ _).mp h';exact s'.seq he) (fun j y aJ H3 hy h3=>?_) (fun aJ H3 h3=>?_)
   ·obtain⟨kvs,o',s3,dB,iz,ix,hd,hk,rfl⟩:=(fK _ _ _).mp h3;obtain⟨u,v,lI,rfl,hu⟩:=hwe.at hy;have hvlen:=hewl v (jc_ lI);have av:kvs.length<=100000:=by
     have h1:=AX ((ends.take j).map (w ++ ·)) (((rows.take i).flatMap fun r=>ends.map (r ++ ·)).foldl ins []);have h2:=AX ((rows.take i).flatMap fun r=>ends.map (r ++ ·)) [];have h4:((rows.take i).flatMap fun r=>ends.map (r ++ ·)).length<=70000:=by
      rw[xp_];have:(rows.take i).map (fun a=>(ends.map (a ++ ·)).length)=(rows.take i).map (fun _=>ends.length):=jM_ fun a _=>by simp
      rw[this,pM,x5_];have:(rows.take i).length<=700:=by rw[jI_];lia
      exact j1_ (j3_ this gK) s!""
     rw[hk.len];rw[jb_,jI_]at h1;rw[xe_,Nat.zero_add]at h2;lia
    nofun;refine Gx.ofS ix (s3 _ _ hu) (by simp;lia) fun q H4 s4 hq=>?_;have eC:H4 q=some (.tup ((wkey (w++v)).map kV)):=by rw[BI,hq];simp
    have m7:=s4 _ _ hd;have kD:TK H4 (upd H4 p (.dT (putK kvs (wkey (w++v)) (V.bl true)))):=TK.dT m7;refine⟨_,DPut.t (k:=wkey (w++v)) m7 eC s!"",(fK _ _ _).mpr ⟨_,_,(s3.trans s4).over hp,by rw[Ah kj];exact s4 _ _ dB,(iz.mono (TK.of s4)).mono kD,kD _ _ (s4 _ _ ix),Ab,?_,rfl⟩⟩;rw[jA_,lI,x2_,jz_,qg_];exact hk.put _ _
   ·obtain⟨kvs,o',s3,dB,iz,ix,hd,hk,rfl⟩:=(fK _ _ _).mp h3;rw[hwe.1,jE_]at hk;refine (bU _ _ _).mpr ⟨kvs,_,_,s3,dB,iz,hd,?_,rfl⟩;rw[jA_,aN,x2_,qb,qg_];simpa using hk
  ·obtain⟨kvs,o,o',s2,fL,iy,hd,hk,rfl⟩:=(bU _ _ _).mp h2;rw[dO.1,jE_]at hk;nofun;refine⟨kvs,.inl hd,fun l bN gh iA hrs'=>?_⟩;exact k l bN _ (s2.newT gh) (Same.none s2 gh) Ab ((hk.words (K:=K) iA hrs').mono (TK.new gh))
noncomputable def mkO (es:List (α2×Int))(w:α2):Option Int:=(es.find? fun e=>decide (e.1=w)).map (·.2)
noncomputable def oV:Option Int->V
 |some m=>.int m
 |none=>.non
def DI:∀{es:List (α2×Int)} {w:α2} {m:Int},(es.map (·.1)).Nodup->(w,m)∈es->mkO es w=some m
 |[],_,_,_,h=>by cases h
 |e::es,w,m,nd,h=>by
  rw[jJ_,j6_]at nd;unfold mkO;rw[qM_];rcases jr_.mp h with h|h
  ·subst h;simp
  ·have aA:e.1≠w:=fun z=>nd.1 (by rw[z];exact qY_ (f:=(·.1)) h);rw[jP_ aA];exact DI nd.2 h
def Ig {es:List (α2×Int)}{w:α2}(h:w∉es.map (·.1)):mkO es w=none:=by
 unfold mkO;rw[qd_.mpr fun e he z=>h (by have:=qW_ z;rw[<-this];exact qY_ (f:=(·.1)) he)];rfl
noncomputable def QR (K:α3)(C:Addr):Sp:=fun vs H Q _=>∃(p d t a:Addr) (L:Int) (w:α2) (es:List (α2×Int)) (xs:List V) (ends:α1),vs=[.ref p,.ref t,.ref a]/\BookAt C H p d L es/\H t=some (.tup (w.map V.int))/\w.length<=100/\SqL K H a xs/\Az K H xs ends/\ends.length<=100/\(∀e∈ends,e.length<=500)/\∀l H',Same H H'->H' l=some (.lst (ends.map fun e=>oV (mkO es (w++e))))->Q (.ref l) H'
def OU:⋯ EE.j14 2 ["book","word","ends"] (QR K ar):=by
 delta EE.j14 OO
 ·obtain⟨p,d,t,a,L,wd,es,xs,ends,rfl,_⟩:=h;rfl
 ·obtain⟨p,d,t,a,L,wd,es,xs,ends,rfl,B,ht,aY,ha,hE,gK,iB,k⟩:=h;have hl:=Ak;refine⟨_,(Ae (Ap (Be rfl (Bq rfl) (cp:=Jy) ⟨⟨rfl,rfl⟩,⟨⟨rfl,rfl⟩,oq⟩⟩ (Bc (pvD 2)) (fun _ _ _ _=>(Ar (i:=0) K4 rfl (ou rfl))) (fun _ _ _ _=>Bu) (fun _ _ _ _=>(A9 (pvD 1) EE.cl_j1 EE.j4.m (Bi EE).g hr.d (Bi EE).b .nil AB (Aa (AL (NQ (K:=K) rfl) (pvD 2) (pvD 0)) Ad)))))),?_⟩;nofun;obtain⟨⟨dx,hp⟩,hd,nd⟩:=id B;refine⟨⟨_,ha⟩,JV (xs:=xs) (fun i ys aj H'=>Same H H'/\ys=(ends.take i).map (fun e=>oV (mkO es (wd++e)))/\∃o,aj=[o,some (.ref p),some (.ref t)]) ⟨Same.refl _,rfl,none,rfl⟩ (by rw[hE.1];lia) (fun i ys aj H' hi h'=>⟨h'.1.seq ha,by rw[h'.2.1,jb_,jI_];lia⟩) (fun i x ys aj H' hx h'=>?_) (fun ys aj H' h' D hD=>?_)⟩
  ·obtain⟨s1,rfl,o,rfl⟩:=h';obtain⟨te,e,aZ,rfl,kl⟩:=hE.at hx;have hel':=iB e (jc_ aZ);have et:ends.take (i+1)=ends.take i++[e]:=by rw[jA_,aZ];rfl
   nofun;refine⟨_,_,s1 _ _ hp,CC _ _ (by decide +kernel) (by decide +kernel),Gx.ofS (s1 _ _ ht) (s1 _ _ kl) (by simp;lia) fun q H2 s2 hq=>?_⟩;have bO:=s1.trans s2;refine⟨p,d,q,L,wd++e,es,rfl,B.mono bO,by rw[jz_];exact hq,fun hm=>⟨bO,?_,_,rfl⟩,fun m hm=>⟨bO,?_,_,rfl⟩⟩
   ·rw[et,jz_,xE_,Ig hm];rfl
   ·rw[et,jz_,xE_,DI nd hm];rfl
  ·obtain⟨s1,rfl,o,rfl⟩:=h';rw[hE.1,jE_];exact k D _ (s1.newT hD) Ab
noncomputable def CU (H:Hp)(f:α2->List V)(ks:α1)(kvs:List (List Key×V)):Prop:=kvs.length=ks.length/\∀(i:Nat) (w:α2),ks[i]?=some w->∃t,kvs[i]?=some (wkey w,.ref t)/\H t=some (.tup (f w))
def CU.nil : CU H f [] []:=⟨rfl,fun i w h=>by simp at h⟩
def CU.mono (h:CU H f ks kvs)(s:∀t ys,H t=some (.tup ys)->H' t=some (.tup ys)):CU H' f ks kvs:=⟨h.1,fun i w hi=>by
 obtain⟨t,a,b⟩:=h.2 i w hi;exact⟨t,a,s _ _ b⟩⟩
def CU.snoc {H:Hp}{f:α2->List V}{ks:α1}{kvs:List (List Key×V)}{w:α2}{t:Addr}(h:CU H f ks kvs)(ht:H t=some (.tup (f w))):CU H f (ks++[w]) (kvs++[(wkey w,.ref t)]):=by
 refine⟨by simp[h.1],fun i r hi=>?_⟩;by_cases hl:i<ks.length
 ·rw[ji_ hl]at hi;rw[ji_ (by rw[h.1];exact hl)];exact h.2 i r hi
 ·have:=(ja_.mp hi).1;rw[jf_,jo_]at this;have e:i=ks.length:=by lia
  subst e;rw[jv_ (jh_ _),j7_]at hi;simp at hi;subst hi;exact⟨t,by rw[<-h.1];simp,ht⟩
def CU.keys (h:CU H f ks kvs):CM ks kvs:=by
 refine qw_ fun i=>?_;rw[jj_,jj_];cases e:ks[i]? with
 |none=>
  have:kvs[i]?=none:=jT_ (by rw[h.1];exact q9_.mp e);rw[this];rfl
 |some w=>
  obtain⟨t,a,_⟩:=h.2 i w e;rw[a];rfl
def SR {s:α1}{w:α2}(h:s.Nodup):(ins s w).Nodup:=by
 unfold ins;split
 ·exact h
 ·rename_i hw
  rw[qI_];refine⟨h,by simp,fun a ha b hb z=>?_⟩;rw[jd_.mp hb]at z;exact hw (z ▸ ha)
def B0:∀{l s:α1},s.Nodup->(l.foldl ins s).Nodup
 |[],_,h=>h
 |w::l,s,h=>by rw[xh_];exact B0 (SR h)
def OV (n:Nat)(ah:α1):(AK n ah).Nodup:=B0 (B0 xs_)
def SS (n:Nat):∀(ah:α1),(ah.flatMap (extW n)).length<=ah.length*n
 |[]=>by simp
 |w::ah=>by
  rw[qw,jf_,jD_,zw_];have h1:=SS n ah;have h2:(extW n w).length=n:=by unfold extW;simp
  lia
def N4 (n:Nat)(ah:α1):(AK n ah).length<=ah.length+ah.length*n:=by
 unfold AK;have h1:=AX (ah.flatMap (extW n)) (ah.foldl ins []);have h2:=AX ah [];have h3:=SS n ah;simp at h2;lia
def UI {s:α1}{w:α2}{m:Nat}(h:∀v∈s,v.length<=m)(hw:w.length<=m):∀v∈ins s w,v.length<=m:=fun v hv=>by
 unfold ins at hv;split at hv
 ·exact h v hv
 ·rcases jx_.mp hv with hv|hv
  ·exact h v hv
  ·rw[jd_.mp hv];exact hw
def Hq {m:Nat}:∀{l s:α1},(∀v∈s,v.length<=m)->(∀v∈l,v.length<=m)->∀v∈l.foldl ins s,v.length<=m
 |[],_,h,_=>h
 |w::l,s,h,hl=>by rw[xh_];exact Hq (UI h (hl w (by simp))) (fun v hv=>hl v (by simp[hv]))
def QS (h:∀w∈ah,w.length<=m):∀w∈AK n ah,w.length<=m+1:=by
 unfold AK;refine Hq (Hq (by simp) fun v hv=>by have:=h v hv;lia) fun v hv=>?_;obtain⟨u,hu,hv⟩:=xr_.mp hv;unfold extW at hv;obtain⟨x,_,rfl⟩:=jq_.mp hv;have:=h u hu;rw[jf_,jo_];lia
noncomputable def YT (K:α3)(C:Addr):Sp:=fun vs H Q _=>∃(p d a b:Addr) (L:Int) (N:Nat) (es:List (α2×Int)) (xs ys:List V) (ah ends:α1),vs=[.ref p,.int N,.ref a,.ref b]/\BookAt C H p d L es/\N<=6/\SqL K H a xs/\Az K H xs ah/\ah.length<=64/\(∀w∈ah,w.length<=64)/\SqL K H b ys/\Az K H ys ends/\ends.length<=50/\(∀e∈ends,e.length<=500)/\∀l kvs H',Same H H'->H l=none->H' l=some (.dT kvs)->CU H' (fun w=>ends.map fun e=>oV (mkO es (w++e))) (AK N ah) kvs->Q (.ref l) H'
def Fz:⋯ EE.j15 3 ["book","letters","access","ends"] (YT K ar):=by
 delta EE.j15 Dh
 ·obtain⟨p,d,a,b,L,N,es,xs,ys,ah,ends,rfl,_⟩:=h;rfl
 ·obtain⟨p,d,a,b,L,N,es,xs,ys,ah,ends,rfl,B,hN,ha,hA,ck,gi,hb,hE,gK,iB,k⟩:=h;have hl:=Ak;refine⟨_,(Ac (C7 (i:=4) Dh.nd rfl (ou rfl) Ga)
   (Ac (Bh jG_ rfl (Bc (Aj (L4 EE) hr.d AB (Aa (pvD 1) (Aa (pvD 2) Ad)))) (Ar (i:=5) Dh.nd rfl (ou rfl))
   (Ae (Em (CZ hr) (pvD 4) (pvD 5) (Av Bw rfl EE.tuple j0_ (Aa (Aj (OU EE) hr.d AB (Aa (pvD 0) (Aa (pvD 5) (Aa (pvD 3) Ad)))) Ad)) rfl)))
   (Ae (Ap (pvD 4))))),?_⟩
  nofun;intro m hm;have s0:=Same.new hm (o:=.dT []);refine⟨N,a,xs,ah,rfl,hN,s0.seq ha,hA.mono (fun _ _ z=>s0 _ _ z),by lia,fun w hw=>by have:=gi w hw;lia,fun r rs H1 s1 eN dP hW=>⟨r,rfl,⟨_,SqL.of dP⟩,?_⟩⟩;have m8:=s1 _ _ (show upd H m (.dT []) m=some (.dT []) from Ab);have m6:=s0.trans s1;have hrlen:=N4 N ah;have dA:=QS (n:=N) gi;have c9:=OV N ah;have bG:(AK N ah).length<=500:=by
   have:ah.length*N<=64*6:=j3_ ck hN;lia
  have kk:=k;generalize AK N ah=aM at hW bG dA c9 kk;clear k hrlen;obtain⟨Pv,aw⟩:∃Pv:Nat->St->Hp->Prop,∀i aj H',Pv i aj H'↔(∃(kvs:List (List Key×V)) (o:Option V),Same H H'/\H' r=some (.lst rs)/\TK H1 H'/\H' m=some (.dT kvs)/\CU H' (fun w=>ends.map fun e=>oV (mkO es (w++e))) (aM.take i) kvs/\aj=[some (.ref p),some (.int N),some (.ref a),some (.ref b),some (.ref m),o]):=⟨_,fun _ _ _=>ql_⟩;refine forL (xs:=rs) Pv ((aw _ _ _).mpr ⟨[],none,m6,dP,TK.refl _,m8,by rw[xt_];exact CU.nil,rfl⟩) (fun i aj H' _ h'=>by obtain⟨_,_,_,h2,_⟩:=(aw _ _ _).mp h';exact SqL.of h2) (fun i x aj H' hx h'=>?_) (fun aj H' h'=>?_)
  ·obtain⟨kvs,o,s',dC,tk,eK,hM,rfl⟩:=(aw _ _ _).mp h';obtain⟨t,w,aN,rfl,ht⟩:=hW.at hx;have hi:=(ja_.mp aN).1;have aY:=dA w (jc_ aN);have et:aM.take (i+1)=aM.take i++[w]:=by rw[jA_,aN];rfl
   have bc:w∉aM.take i:=fun z=>by
    obtain⟨j,hj,ej⟩:=jL_ z;rw[jI_]at hj;rw[qx]at ej;have:=(pf (h₀:=(show j<aM.length by lia)) (h₁:=hi) c9).mp (by rw[ej];exact ((ja_.mp aN).2).symm);lia
   have hv:valV kvs (wkey w)=none:=by
    have:=hM.keys.some_iff w;rw[jP_ bc]at this;cases e:valV kvs (wkey w) with
    |none=>rfl
    |some v=>rw[e]at this;cases this
   have hkl:kvs.length<=500:=by rw[hM.1,jI_];lia
   nofun;refine⟨p,d,t,b,L,w,es,ys,ends,rfl,B.mono s',tk _ _ ht,by lia,s'.seq hb,hE.mono (fun _ _ z=>s' _ _ z),by lia,fun e he=>by have:=iB e he;lia,fun l H2 s2 dv=>⟨l,rfl,_,.inl ⟨SqL.of dv,fun t2 jz=>?_⟩⟩⟩;have s3:=s2.newT jz (o:=.tup (ends.map fun e=>oV (mkO es (w++e))));refine⟨_,DPut.t (k:=wkey w) (s3 _ _ eK) (by rw[BI];exact s3 _ _ (tk _ _ ht)) s!"",(aw _ _ _).mpr ⟨_,_,(s'.trans s3).over hm,?_,fun c zs z=>?_,Ab,?_,rfl⟩⟩
   ·rw[Ah (fun z=>by rw[z,eK]at dC;cases dC)];exact s3 _ _ dC
   ·rw[Ah (fun e=>by have:=tk _ _ z;rw[e,eK]at this;cases this)];exact s3 _ _ (tk _ _ z)
   ·rw[Mu _ hv,et];exact ((hM.mono fun c zs z=>s3 _ _ z).snoc (t:=t2) Ab).mono fun c zs z=>by
     rw[Ah (fun e=>by rw[e,s3 _ _ eK]at z;cases z)];exact z
  ·obtain⟨kvs,o,s',dC,tk,eK,hM,rfl⟩:=(aw _ _ _).mp h';rw[hW.1,jE_]at hM;nofun;exact kk m kvs _ s' hm eK hM
def CU.get {H:Hp}{f:α2->List V}{ks:α1}{kvs:List (List Key×V)}(h:CU H f ks kvs){w:α2}(hw:w∈ks):∃t,valV kvs (wkey w)=some (.ref t)/\H t=some (.tup (f w)):=by
 have hs:=h.keys.some_iff w;rw[jR_ hw]at hs;unfold valV at hs ⊢;cases e:kvs.find? (fun kv=>decide (kv.1=wkey w)) with
 |none=>rw[e]at hs;cases hs
 |some kv=>
  have h1:kv.1=wkey w:=by have:=x3_ e;simpa using this
  obtain⟨i,hi,ei⟩:=jL_ (xa_ e);have m9:i<ks.length:=by rw[<-h.1];exact hi
  obtain⟨t,a,b⟩:=h.2 i ks[i] (by simp[m9]);rw[je_ hi,ei]at a;have ea:=jB_ a;rw[ea]at h1;have:ks[i]=w:=Kh h1;rw[this]at b;exact⟨t,by rw[ea];rfl,b⟩
def UJ {s:α1}{w v:α2}:v∈ins s w↔v∈s\/v=w:=by
 unfold ins;split
 ·rename_i h
  exact⟨.inl,fun z=>z.elim id fun e=>e ▸ h⟩
 ·simp
def EI:∀{l s:α1} {v:α2},v∈l.foldl ins s↔v∈s\/v∈l
 |[],s,v=>by simp
 |w::l,s,v=>by
  rw[xh_,EI,UJ,jr_,or_assoc]
def K7 {n:Nat}{ah:α1}{w:α2}(h:w∈ah):w∈AK n ah:=by
 unfold AK;exact EI.mpr (.inl (EI.mpr (.inr h)))
noncomputable def QT (K:α3)(C:Addr):Sp:=fun vs H Q _=>∃(p d a b:Addr) (L:Int) (N:Nat) (es:List (α2×Int)) (xs ys:List V) (ah ends:α1) (g:α2->α2),vs=[.ref p,.int N,.ref a,.ref b]/\BookAt C H p d L es/\N<=6/\SqL K H a xs/\Az K H xs ah/\ah.length<=64/\(∀w∈ah,w.length<=64)/\SqL K H b ys/\Az K H ys ends/\ends.length<=50/\(∀e∈ends,e.length<=500)/\(∀w∈AK N ah,(ends.map fun e=>oV (mkO es (w++e)))=(g w).map V.int)/\(∀w t H',(AK N ah).find? (fun w=>decide (g w∉ah.map g))=some w->Same H H'->H' t=some (.tup (w.map V.int))->Q (.ref t) H')/\∀H',(AK N ah).find? (fun w=>decide (g w∉ah.map g))=none->Same H H'->Q .non H'
def OW:⋯ EE.j24 4 ["book","letters","access","ends"] (QT K ar):=by
 delta EE.j24 Ez
 ·obtain⟨p,d,a,b,L,N,es,xs,ys,ah,ends,g,rfl,_⟩:=h;rfl
 ·obtain⟨p,d,a,b,L,N,es,xs,ys,ah,ends,g,rfl,B,hN,ha,hA,ck,gi,hb,hE,gK,iB,hg,k,kn⟩:=h;have hl:=Ak;refine⟨_,(Ac (C7 (i:=4) Ez.nd rfl (oI rfl) (Aj (Fz EE) hr.d AB (Aa (pvD 0) (Aa (pvD 1) (Aa (pvD 2) (Aa (pvD 3) Ad))))))
   (Ac (Mz (i:=5) Ez.nd rfl rfl rfl (Bq rfl) (cp:=JA) ⟨⟨rfl,rfl⟩,oq⟩ (Bc (pvD 2)) (fun _ _ _ _=>(Ar (i:=0) K6 rfl (ou rfl))) (fun _ _ _ _=>Bu) (fun _ _ _ _=>(E8 (CZ hr) (pvD 1) (pvD 0) (fun _ _=>rfl))))
   (Ac (Bh jG_ rfl (PN (pvD 4)) (Ar (i:=6) Ez.nd rfl (ou rfl))
   (Ae (AY (ptT (Au (Si (hu9 hr)) (E8 (CZ hr) (pvD 4) (pvD 6) (fun _ _=>rfl)) (pvD 5) rfl))
   (Ae (Ap (pvD 6)))
   Aw)))
   (Ae (Ap BL))))),?_⟩
  nofun;refine⟨p,d,a,b,L,N,es,xs,ys,ah,ends,rfl,B,hN,ha,hA,ck,gi,hb,hE,gK,iB,fun m kvs H1 s1 hm0 hm hM=>?_⟩;nofun;have kk:=k;have kkn:=kn;have bt:∀w∈ah,w∈AK N ah:=fun w h=>K7 h;generalize AK N ah=aM at hM hg kk kkn bt;clear k kn;have ha1:=s1.seq ha;have dQ:Az K H1 xs ah:=hA.mono (TK.of s1);refine⟨⟨_,ha1⟩,JV (xs:=xs) (fun i ys aj H'=>H'=H1/\Az K H1 ys ((ah.take i).map g)/\∃o,aj=[o,some (.ref m)]) ⟨rfl,Az.nil,none,rfl⟩ (by rw[hA.1];lia) (fun i ys aj H' hi h'=>⟨by rw[h'.1];exact ha1,by rw[h'.2.1.1,jb_,jI_];lia⟩) (fun i x ys aj H' hx h'=>?_) (fun ys aj H' h' D hD=>?_)⟩
  ·obtain⟨rfl,hY,o,rfl⟩:=h';obtain⟨t,w,aN,rfl,ht⟩:=dQ.at hx;have eO:=jc_ aN;obtain⟨u,ip,ff⟩:=hM.get (bt w eO);have et:ah.take (i+1)=ah.take i++[w]:=by rw[jA_,aN];rfl
   rw[hg w (bt w eO)]at ff;nofun;have km:DGet H' m (.ref t) (some (.ref u)):=by rw[<-ip];exact DGet.t (k:=wkey w) hm (by rw[BI];exact ht)
   refine⟨_,km,?_,_,rfl⟩;rw[et,jz_];exact hY.snoc ff
  ·obtain⟨rfl,hY,o,rfl⟩:=h';rw[hA.1,jE_]at hY;have sD:=Same.new hD (o:=.lst ys);have mK:=sD _ _ hm;refine⟨kvs,mK,fun oo=>?_⟩;have hDm:D≠m:=fun z=>by rw[z,hm]at hD;cases hD
   obtain⟨HF,ko⟩:∃HF:Hp,HF=upd (upd H' D (.lst ys)) m (.frz oo (.dT kvs)):=⟨_,rfl⟩;rw[<-ko];have hmF:HF m=some (.frz oo (.dT kvs)):=by rw[ko];exact Ab
   have tkF:TK H' HF:=fun c zs z=>by rw[ko,Ah (fun e=>by rw[e,hm]at z;cases z)];exact sD _ _ z
   have hDF:HF D=some (.lst ys):=by rw[ko,Ah hDm];exact Ab
   have sF:Same H HF:=by rw[ko];exact (s1.trans sD).over hm0
   obtain⟨Pv,aw⟩:∃Pv:Nat->St->Hp->Prop,∀i aj H',Pv i aj H'↔(H'=HF/\(∀w∈aM.take i,g w∈ah.map g)/\∃o,aj=[some (.ref p),some (.int N),some (.ref a),some (.ref b),some (.ref m),some (.ref D),o]):=⟨_,fun _ _ _=>ql_⟩;refine forD Pv ((aw _ _ _).mpr ⟨rfl,(fun w hw=>by rw[xt_]at hw;cases hw),none,rfl⟩) (fun i aq H2 _ h2=>by rw[((aw _ _ _).mp h2).1];exact hmF) (fun i k0 v0 bb aq H2 cD h2 jX=>?_) (fun aq H2 h2=>?_)
   ·obtain⟨rfl,az,o2,rfl⟩:=(aw _ _ _).mp h2;have hi:i<aM.length:=by rw[<-hM.1];exact (ja_.mp cD).1
    have aN:aM[i]?=some aM[i]:=by simp[hi]
    obtain⟨t,e1,e2⟩:=hM.2 i _ aN;have eO:=jc_ aN;rw[cD]at e1;cases e1;replace e2:H' t=some (.tup ((g aM[i]).map V.int)):=by rw[<-hg _ eO];exact e2
    rw[BI]at jX;have et:aM.take (i+1)=aM.take i++[aM[i]]:=by rw[jA_,aN];rfl
    nofun;obtain⟨t',mQ,dy⟩:=hM.get eO;replace dy:H' t'=some (.tup ((g aM[i]).map V.int)):=by rw[<-hg _ eO];exact dy
    refine⟨V.ref t',.inr ⟨kvs,wkey aM[i],bb,.inr ⟨oo,hmF⟩,rfl,by rw[BI];exact jX,mQ.symm⟩,t',rfl,_,SqL.of hDF,g aM[i],ah.map g,hY.mono tkF,SqT.of (tkF _ _ dy),?_⟩;by_cases aO:g aM[i]∈ah.map g
    ·rw[if_neg (by rw[jR_ aO];decide)];refine (aw _ _ _).mpr ⟨rfl,fun w hw=>?_,_,rfl⟩;rw[et]at hw;rcases jx_.mp hw with hw|hw
     ·exact az w hw
     ·rw[jd_.mp hw];exact aO
    ·rw[if_pos (by rw[jP_ aO];rfl)];refine kk aM[i] bb _ (List.find?_eq_some_iff_getElem.mpr ⟨jR_ aO,i,hi,rfl,fun j hj=>?_⟩) sF jX;have:=az aM[j] (jK_.mpr ⟨j,by rw[xD_,if_pos hj];simp[show j<aM.length by lia]⟩);rw[jP_ (not_not_intro this)];rfl
   ·obtain⟨rfl,az,o2,rfl⟩:=(aw _ _ _).mp h2;rw[hM.1,jE_]at az;nofun;refine kkn _ (qd_.mpr fun w hw=>?_) sF;simp[az w hw]
noncomputable def eI (g:α2->α2)(ah:α1)(i:Nat):List (α2×Int):=(om i).map fun j=>(g (ah.getD j []),(j:Int))
def Xc (g:α2->α2)(ah:α1)(i:Nat):eI g ah (i+1)=eI g ah i++[(g (ah.getD i []),(i:Int))]:=by unfold eI;rw[xi_,jz_];rfl
def SU (g:α2->α2)(ah:α1) (hi:i<=ah.length):(eI g ah i).map (·.1)=(ah.map g).take i:=by
 refine qw_ fun j=>?_;unfold eI;rw[jN_,jj_,xD_,jj_];by_cases hj:j<i
 ·rw[if_pos hj,xn_ hj];have dw:j<ah.length:=by lia
  simp[jp_,dw]
 ·rw[if_neg hj,jT_ (by simp;lia)];rfl
def YU (hx:x∈ah.map g):(x,(((ah.map g).idxOf x:Nat):Int))∈eI g ah ah.length:=by
 unfold eI;have ay:(ah.map g).idxOf x<(ah.map g).length:=oU hx;rw[jb_]at ay;refine jq_.mpr ⟨(ah.map g).idxOf x,qf_.mpr ay,?_⟩;have h1:(ah.map g)[(ah.map g).idxOf x]'(by rw[jb_];exact ay)=x:=xC_ _;rw[zf_]at h1;rw[jp_,je_ ay];show (g _,_)=_;rw[Option.getD_some,h1]
def OX {n:Nat}{ah:α1}{w:α2}{x:Nat}(h:w∈ah)(hx:x<n):w++[(x:Int)]∈AK n ah:=by
 unfold AK;refine EI.mpr (.inr (xr_.mpr ⟨w,h,?_⟩));unfold extW;exact jq_.mpr ⟨x,qf_.mpr hx,rfl⟩
def N5 {l:α1}{i:Nat}(hi:i<l.length)(nd:l.Nodup):l[i]∉l.take i:=fun z=>by
 obtain⟨j,hj,ej⟩:=jL_ z;rw[jI_]at hj;rw[qx]at ej;have:=(pf (h₀:=(show j<l.length by lia)) (h₁:=hi) nd).mp ej;lia
noncomputable def UK (K:α3):Sp:=fun vs H Q _=>∃(N:Nat) (a m:Addr) (xs:List V) (ah:α1) (kvs:List (List Key×V)) (g:α2->α2),vs=[.int N,.ref a,.ref m]/\N<=6/\SqL K H a xs/\Az K H xs ah/\ah.length<=64/\(∀w∈ah,w.length<=64)/\H m=some (.dT kvs)/\CU H (fun w=>(g w).map V.int) (AK N ah) kvs/\(ah.map g).Nodup/\(∀w∈ah,∀x:Nat,x<N->g (w++[(x:Int)])∈ah.map g)/\∀t ys H',Same H H'->H' t=some (.tup ys)->Az K H' ys (ah.map fun w=>(om N).map fun x:Nat=>(((ah.map g).idxOf (g (w++[(x:Int)])):Nat):Int))->Q (.ref t) H'
def J5:⋯ EE.j16 1 ["letters","access","marks"] (UK K):=by
 delta EE.j16 A4
 ·obtain⟨N,a,m,xs,ah,kvs,g,rfl,_⟩:=h;rfl
 ·obtain⟨N,a,m,xs,ah,kvs,g,rfl,hN,ha,hA,ck,gi,hm,hM,c9,bt,k⟩:=h;have hl:=Ak;refine⟨_,(Ac (C7 (i:=3) A4.nd rfl (oI rfl) Ga)
   (Ac (Bh jG_ rfl (PL rfl EE.enumerate (pvD 1)) (Rb rfl (F7 (Ar (i:=4) A4.nd rfl (ou rfl)) (F7 (Ar (i:=5) A4.nd rfl (oI rfl)) Ou)))
   (Ae (Em (CZ hr) (pvD 3) (E8 (CZ hr) (pvD 2) (pvD 5) (fun _ _=>rfl)) (pvD 4) rfl)))
   (Ac (Ao (i:=6) A4.nd (A7 Ad))
   (Ac (Bh jG_ rfl (Bc (pvD 1)) (Ar (i:=5) A4.nd rfl (oI rfl))
   (Ae (Ay (Ek jS_ jX_ jY_ BN (pvD 6) (Aa (Av Bw rfl EE.tuple j0_ (Aa (Be rfl (Bq rfl) (cp:=D7) ⟨⟨rfl,rfl⟩,⟨⟨rfl,rfl⟩,⟨⟨rfl,rfl⟩,oq⟩⟩⟩ (Bs rfl EE.range (Aa (pvD 0) Ad)) (fun _ _ _ _=>(Ar (i:=0) Gp rfl (ou rfl))) (fun _ _ _ _=>Bu) (fun _ _ _ _=>(Po (CZ hr) (pvD 1) (E8 (CZ hr) (pvD 2) (AL (NQ (K:=K) rfl) (pvD 3) (Bt (Aa (pvD 0) Ad))) (fun _ _=>rfl)) ⟨by rfl,by rfl,by rfl,by rfl⟩))) Ad)) Ad)))))
   (Ae (Ap (Av Bw rfl EE.tuple j0_ (Aa (pvD 6) Ad)))))))),?_⟩
  nofun;intro p hp;have s0:=Same.new hp (o:=.dT []);have hkn:∀i,i<=ah.length->((eI g ah i).map (·.1)).Nodup:=fun i hi=>by rw[SU g ah hi];exact c9.sublist (qk _ _)
  refine⟨_,s0.seq ha,?_⟩;obtain⟨Pv,aw⟩:∃Pv:Nat->St->Hp->Prop,∀i aj H',Pv i aj H'↔(∃o1 o2:Option V,Same H H'/\H' p=some (.dT (ents (eI g ah i)))/\aj=[some (.int N),some (.ref a),some (.ref m),some (.ref p),o1,o2,none]):=⟨_,fun _ _ _=>ql_⟩;have hpm:p≠m:=fun z=>by rw[z,hm]at hp;cases hp
  refine forM Pv ((aw _ _ _).mpr ⟨none,none,s0,Ab,rfl⟩) (fun i aj H' _ h'=>by obtain⟨_,_,s',_⟩:=(aw _ _ _).mp h';exact s'.seq ha) (fun i v aj H' t hv h' ht=>?_) (fun aj H' h'=>?_)
  ·obtain⟨o1,o2,s',hp',rfl⟩:=(aw _ _ _).mp h';obtain⟨tw,w,aN,rfl,df⟩:=hA.at hv;have eO:=jc_ aN;have hi:=(ja_.mp aN).1;have sT:=s'.newT ht (o:=.tup [.int i,.ref tw]);obtain⟨u,ip,ff⟩:=hM.get (K7 (n:=N) eO);have hgd:ah.getD i []=w:=by rw[jp_,aN];rfl
   have bc:g w∉(eI g ah i).map (·.1):=by
    rw[SU g ah s!""];have:=N5 (l:=ah.map g) (i:=i) (by rw[jb_];exact hi) c9;rw[zf_,(ja_.mp aN).2]at this;exact this
   nofun;have km:DGet (upd H' t (.tup [V.int i,V.ref tw])) m (.ref tw) (some (.ref u)):=by rw[<-ip];exact DGet.t (k:=wkey w) (sT _ _ hm) (by rw[BI];exact sT _ _ df)
   have bg:(ents (eI g ah i)).length=i:=by unfold ents eI;rw[jb_,jb_,qJ_]
   refine⟨_,SqT.of Ab,rfl,V.int i,_,rfl,V.ref tw,_,rfl,rfl,V.ref u,km,_,DPut.t (k:=wkey (g w)) (Same.new ht _ _ hp') (by rw[BI];exact sT _ _ ff) s!"",(aw _ _ _).mpr ⟨_,_,sT.over hp,by rw[Ab,P0 bc,Xc,hgd],rfl⟩⟩
  ·obtain⟨o1,o2,s',hp',rfl⟩:=(aw _ _ _).mp h';rw[hA.1]at hp';nofun;refine⟨by lia,fun q hq=>⟨⟨_,(s'.newT hq).seq ha⟩,?_⟩⟩;have sq:=s'.newT hq (o:=.lst []);have iC:H q=none:=s'.none hq;have hpq:p≠q:=fun z=>by rw[z,hq]at hp';cases hp'
   obtain⟨Pw,bU⟩:∃Pv:Nat->St->Hp->Prop,∀i aq H2,Pv i aq H2↔(∃(ys:List V) (o:Option V),Same H H2/\H2 p=some (.dT (ents (eI g ah ah.length)))/\H2 q=some (.lst ys)/\Az K H2 ys ((ah.take i).map fun w=>(om N).map fun x:Nat=>(((ah.map g).idxOf (g (w++[(x:Int)])):Nat):Int))/\aq=[some (.int N),some (.ref a),some (.ref m),some (.ref p),o1,o,some (.ref q)]):=⟨_,fun _ _ _=>ql_⟩;refine forL (xs:=xs) Pw ((bU _ _ _).mpr ⟨[],_,sq,Same.new hq _ _ hp',Ab,Az.nil,rfl⟩) (fun i aq H2 _ h2=>by obtain⟨_,_,s2,_⟩:=(bU _ _ _).mp h2;exact s2.seq ha) (fun i x aq H2 hx h2=>?_) (fun aq H2 h2=>?_)
   ·obtain⟨ys,o,s2,bA,lJ,hY,rfl⟩:=(bU _ _ _).mp h2;obtain⟨tw,w,aN,rfl,df⟩:=hA.at hx;have eO:=jc_ aN;have aY:=gi w eO;have et:ah.take (i+1)=ah.take i++[w]:=by rw[jA_,aN];rfl
    have hyl:ys.length<=64:=by rw[hY.1,jb_,jI_];lia
    nofun;refine⟨.inl ⟨rfl,_,SqL.of lJ⟩,by lia,by lia,?_⟩;rw[jC_];obtain⟨Pc,bJ⟩:∃Pc:Nat->List V->St->Hp->Prop,∀j us cb H4,Pc j us cb H4↔(Same H2 H4/\us=((om j).map fun x:Nat=>(((ah.map g).idxOf (g (w++[(x:Int)])):Nat):Int)).map V.int/\∃o,cb=[o,some (.ref p),some (.ref m),some (.ref tw)]):=⟨_,fun _ _ _ _=>ql_⟩;refine Uc Pc ((bJ _ _ _ _).mpr ⟨Same.refl _,rfl,none,rfl⟩) s!"" (fun j us cb H4 _ h4=>?_) (fun j us cb H4 hj h4=>?_) (fun us cb H4 h4 D hD=>?_)
    ·obtain⟨_,rfl,_⟩:=(bJ _ _ _ _).mp h4;rw[jb_,jb_,qJ_];lia
    ·obtain⟨s4,rfl,o4,rfl⟩:=(bJ _ _ _ _).mp h4;rw[zx_];have s24:=s2.trans s4;obtain⟨u,ip,ff⟩:=hM.get (OX (n:=N) eO hj);have aO:=YU (bt w eO j hj);nofun;refine⟨.inr ⟨_,.inl (s4 _ _ bA)⟩,by lia,fun p1 bM=>Gx.ofS (Same.new bM _ _ (s24 _ _ df)) Ab (by simp;lia) fun q3 H5 s5 lK=>?_⟩;have nc:=(Same.new bM (o:=.tup [V.int j])).trans s5;have s25:=s24.trans nc;have km:DGet H5 m (.ref q3) (some (.ref u)):=by rw[<-ip];exact DGet.t (k:=wkey (w++[(j:Int)])) (s25 _ _ hm) (by rw[BI,jz_];exact lK)
     refine⟨_,km,_,DGet.t (k:=wkey (g (w++[(j:Int)]))) ((s4.trans nc) _ _ bA) (by rw[BI];exact s25 _ _ ff),(bJ _ _ _ _).mpr ⟨s4.trans nc,?_,_,rfl⟩⟩;rw[DG (hkn _ (jh_ _)) aO,xi_,jz_,jz_];rfl
    ·obtain⟨s4,rfl,o4,rfl⟩:=(bJ _ _ _ _).mp h4;refine⟨D,rfl,_,.inl ⟨SqL.of Ab,fun t ht=>?_⟩⟩;have lL:=(s4.newT hD).newT ht (o:=.tup (((om N).map fun x:Nat=>(((ah.map g).idxOf (g (w++[(x:Int)])):Nat):Int)).map V.int));have lK:=lL _ _ lJ;refine⟨_,lK,by lia,(bU _ _ _).mpr ⟨ys++[.ref t],_,(s2.trans lL).over iC,by rw[Ah hpq];exact lL _ _ bA,Ab,?_,rfl⟩⟩;rw[et,jz_];exact ((hY.mono (TK.of lL)).snoc Ab).mono (TK.lst lK)
   ·obtain⟨ys,o,s2,bA,lJ,hY,rfl⟩:=(bU _ _ _).mp h2;rw[hA.1,jE_]at hY;nofun;exact⟨_,.inl ⟨SqL.of lJ,fun t ht=>k t ys _ (s2.newT ht) Ab (hY.mono (TK.of (Same.new ht)))⟩⟩
noncomputable def UL (K:α3)(C:Addr):Sp:=fun vs H Q _=>∃(p d a b:Addr) (L:Int) (N:Nat) (es:List (α2×Int)) (xs ys:List V) (ah ends:α1) (g:α2->α2) (f:α2->Int),vs=[.ref p,.int N,.ref a,.ref b]/\BookAt C H p d L es/\N<=6/\SqL K H a xs/\Az K H xs ah/\ah.length<=64/\(∀w∈ah,w.length<=64)/\SqL K H b ys/\Az K H ys ends/\ends.length<=50/\(∀e∈ends,e.length<=500)/\(∀w∈AK N ah,(ends.map fun e=>oV (mkO es (w++e)))=(g w).map V.int)/\(ah.map g).Nodup/\(∀w∈ah,∀x:Nat,x<N->g (w++[(x:Int)])∈ah.map g)/\(∀w∈ah,mkO es w=some (f w))/\∀h tm tw zs H',Same H H'->H' h=some (.tup [.int N,.ref tm,.ref tw])->H' tm=some (.tup ((ah.map f).map V.int))->H' tw=some (.tup zs)->Az K H' zs (ah.map fun w=>(om N).map fun x:Nat=>(((ah.map g).idxOf (g (w++[(x:Int)])):Nat):Int))->Q (.ref h) H'
def OY:⋯ EE.j17 4 ["book","letters","access","ends"] (UL K ar):=by
 delta EE.j17 Hc
 ·obtain⟨p,d,a,b,L,N,es,xs,ys,ah,ends,g,f,rfl,_⟩:=h;rfl
 ·obtain⟨p,d,a,b,L,N,es,xs,ys,ah,ends,g,f,rfl,B,hN,ha,hA,ck,gi,hb,hE,gK,iB,hg,c9,bt,hf,k⟩:=h;have hl:=Ak;refine⟨_,(Ac (Ao (i:=4) Hc.nd (Aj (Fz EE) hr.d AB (Aa (pvD 0) (Aa (pvD 1) (Aa (pvD 2) (Aa (pvD 3) Ad))))))
   (Ac (Ao (i:=5) Hc.nd (Av Bw rfl EE.tuple j0_ (Aa (Be rfl (Bq rfl) (cp:=Jz) ⟨⟨rfl,rfl⟩,oq⟩ (Bc (pvD 2)) (fun _ _ _ _=>(Ar (i:=0) K5 rfl (ou rfl))) (fun _ _ _ _=>Bu) (fun _ _ _ _=>(A9 (pvD 1) EE.cl_j1 EE.j4.m (Bi EE).g hr.d (Bi EE).b .nil AB (Aa (pvD 0) Ad)))) Ad)))
   (Ae (Ap (Bt (Aa (pvD 1) (Aa (pvD 5) (Aa (Aj (J5 EE) hr.d AB (Aa (pvD 1) (Aa (pvD 2) (Aa (pvD 4) Ad)))) Ad)))))))),?_⟩
  nofun;refine⟨p,d,a,b,L,N,es,xs,ys,ah,ends,rfl,B,hN,ha,hA,ck,gi,hb,hE,gK,iB,fun m kvs H1 s1 hm0 hm hM=>?_⟩;have dQ:Az K H1 xs ah:=hA.mono (TK.of s1);have B1:=B.mono s1;obtain⟨⟨dx,kh⟩,hdc,nd⟩:=id B1;refine⟨⟨_,s1.seq ha⟩,JV (xs:=xs) (fun i us aj H'=>H'=H1/\us=((ah.take i).map f).map V.int/\∃o,aj=[o,some (.ref p)]) ⟨rfl,rfl,none,rfl⟩ (by rw[hA.1];lia) (fun i us aj H' hi h'=>⟨by rw[h'.1];exact s1.seq ha,by rw[h'.2.1,jb_,jb_,jI_];lia⟩) (fun i x us aj H' hx h'=>?_) (fun us aj H' h' D hD=>?_)⟩
  ·obtain⟨rfl,rfl,o,rfl⟩:=h';obtain⟨t,w,aN,rfl,ht⟩:=dQ.at hx;have lM:=hf w (jc_ aN);have et:ah.take (i+1)=ah.take i++[w]:=by rw[jA_,aN];rfl
   nofun;refine⟨_,_,kh,CC _ _ (by decide +kernel) (by decide +kernel),p,d,t,L,w,es,rfl,B1,ht,fun hn=>?_,fun v hv=>?_⟩
   ·rw[Ig hn]at lM;cases lM
   ·rw[DI nd hv]at lM;cases lM;refine⟨rfl,?_,_,rfl⟩;rw[et,jz_,jz_];rfl
  ·obtain⟨rfl,rfl,o,rfl⟩:=h';rw[hA.1,jE_];refine⟨D,rfl,_,.inl ⟨SqL.of Ab,fun tm jA=>?_⟩⟩;have sD:=(Same.new hD (o:=.lst ((ah.map f).map V.int))).newT jA (o:=.tup ((ah.map f).map V.int));have s2:=s1.trans sD;refine⟨N,a,m,xs,ah,kvs,g,rfl,hN,s2.seq ha,hA.mono (TK.of s2),ck,gi,sD _ _ hm,⟨hM.1,fun i w hi=>?_⟩,c9,bt,fun tw zs H3 s3 df hz=>⟨by lia,fun h hh=>?_⟩⟩
   ·obtain⟨t,e1,e2⟩:=hM.2 i w hi;refine⟨t,e1,?_⟩;have:=sD _ _ e2;show _=some (HO.tup ((g w).map V.int));rw[<-hg w (jc_ hi)];exact this
   ·have sh:=Same.new hh (o:=.tup [.int N,.ref tm,.ref tw]);exact k h tm tw zs _ (s2.trans (s3.trans sh)) Ab ((s3.trans sh) _ _ Ab) (sh _ _ df) (hz.mono (TK.of sh))
noncomputable def GF (af:α2)(ag:α1)(tr:α2×Int):Bool:=decide (Ax af (Al ag tr.1)≠tr.2)
noncomputable def K8 (K:α3)(fm:Addr):Sp:=fun vs H Q _=>∃(l h:Addr) (L:Int) (af:α2) (ag:α1) (rs:List V) (es:List (α2×Int)),vs=[.ref l,.ref fm,.ref h]/\SqL K H l rs/\SM H rs es/\Cn K H h L af ag/\Wf L af ag/\(∀e∈es,isW L e.1=true/\e.1.length<=600) /\
 ∀H',Same H H'->((∀e∈es,GF af ag e=false)->Q .non H')/\∀(i:Nat) (e:α2×Int) (t:Addr),(∀j,j<i->∀e',es[j]?=some e'->GF af ag e'=false)->es[i]?=some e->GF af ag e=true->H' t=some (.tup (e.1.map V.int))->Q (.ref t) H'
def K9:⋯ EE.j20 6 ["heard","answer","house"] (K8 K (fA 11)):=by
 delta EE.j20 Dj
 ·obtain⟨l,h,L,af,ag,rs,es,rfl,_⟩:=h;rfl
 ·obtain⟨l,h,L,af,ag,rs,es,rfl,dh,ht,hh,wf,dR,k⟩:=h;refine⟨_,(Ac (Bh jG_ rfl (Bc (pvD 0)) (Rb rfl (F7 (Ar (i:=3) Dj.nd rfl (ou rfl)) (F7 (Ar (i:=4) Dj.nd rfl (ou rfl)) Ou)))
   (Ae (AY (ptT (Au (opN G8) (Uu 1 (CG EE).g hr.d EE.j11.F.kp (CG EE).b .nil (C9 (P:=P) (w:=w)) (Aa (pvD 2) (Aa (pvD 3) Ad))) (pvD 4) (AG _)))
   (Ae (Ap (pvD 3)))
   Aw)))
   (Ae (Ap BL))),?_⟩
  nofun;refine⟨⟨_,dh⟩,?_⟩;obtain⟨Pv,aw⟩:∃Pv:Nat->St->Hp->Prop,∀i aj H',Pv i aj H'↔(Same H H'/\(∀j,j<i->∀e,es[j]?=some e->GF af ag e=false)/\∃o o',aj=[some (.ref l),some (.ref (fA 11)),some (.ref h),o,o']):=⟨_,fun _ _ _=>ql_⟩;refine forL (xs:=rs) Pv ((aw _ _ _).mpr ⟨Same.refl _,fun j hj=>absurd hj (qX_ _),none,none,rfl⟩) (fun i aq H2 _ h2=>((aw _ _ _).mp h2).1.seq dh) (fun i x aq H2 hx h2=>?_) (fun aq H2 h2=>?_)
  ·obtain⟨s2,az,o,o',rfl⟩:=(aw _ _ _).mp h2;have hi:i<es.length:=by rw[<-ht.1];exact (ja_.mp hx).1
   have aZ:es[i]?=some es[i]:=by simp[hi]
   obtain⟨t,wt,e1,e2,e3⟩:=ht.2 i _ aZ;rw[hx]at e1;cases e1;have hok:=dR _ (jc_ aZ);generalize es[i]=e at aZ e2 e3 hok;nofun;refine⟨_,SqT.of (s2 _ _ e2),rfl,_,_,rfl,_,_,rfl,rfl,h,wt,L,af,ag,e.1,rfl,hh.mono s2,wf,SqT.of (s2 _ _ e3),hok.2,fun _ H3 s3=>⟨rfl,?_⟩,fun z=>by rw[hok.1]at z;cases z⟩;by_cases hw:Ax af (Al ag e.1)=e.2
   ·rw[if_neg (by rw[hw];simp)];refine (aw _ _ _).mpr ⟨s2.trans s3,fun j hj e' dw=>?_,_,_,rfl⟩;by_cases dN:j<i
    ·exact az j dN e' dw
    ·have ej:j=i:=by lia
     subst ej;rw[aZ]at dw;cases dw;exact jP_ fun z=>z hw
   ·rw[if_pos (by simp[hw])];exact (k _ (s2.trans s3)).2 i e wt az aZ (jR_ hw) ((s2.trans s3) _ _ e3)
  ·obtain⟨s2,az,o,o',rfl⟩:=(aw _ _ _).mp h2;nofun;refine (k _ s2).1 fun e he=>?_;obtain⟨j,hj,ej⟩:=jL_ he;exact az j (by rw[ht.1];exact hj) e (by rw[je_ hj,ej])
noncomputable def LM (K:α3)(C:Addr):Sp:=fun vs H Q _=>∃(p d h:Addr) (L:Int) (af:α2) (ag:α1) (es:List (α2×Int)),vs=[.ref p,.ref h]/\Cn K H h L af ag/\Wf L af ag/\BookAt C H p d L es/\(∀e∈es,isW L e.1=true/\e.1.length<=600) /\
 ∀H',Same H H'->((∀e∈es,GF af ag e=false)->Q .non H')/\∀(i:Nat) (e:α2×Int) (t:Addr),(∀j,j<i->∀e',es[j]?=some e'->GF af ag e'=false)->es[i]?=some e->GF af ag e=true->H' t=some (.tup (e.1.map V.int))->Q (.ref t) H'
def LN:⋯ EE.j21 7 ["book","house"] (LM K ar):=by
 delta EE.j21 LB
 ·obtain⟨p,d,h,L,af,ag,es,rfl,_⟩:=h;rfl
 ·obtain⟨p,d,h,L,af,ag,es,rfl,hh,wf,B,dR,k⟩:=h;refine⟨_,(Ae (Ap (Aj (K9 EE) hr.d AB (Aa (AR (pvD 0) EE.cl_j1 EE.j19.m (Ie EE).g hr.d (Ie EE).b .nil AB) (Aa (Ot (v:=.ref (fA 11)) rfl EE.j11.m rfl) (Aa (pvD 1) Ad)))))),?_⟩;obtain⟨⟨dx,hp⟩,hd,nd⟩:=id B;nofun;refine⟨_,_,hp,CC _ _ (by decide +kernel) (by decide +kernel),p,d,L,es,rfl,B,fun l rs H1 s1 hl dh ht=>?_⟩;exact⟨l,h,L,af,ag,rs,es,rfl,SqL.of dh,ht,hh.mono s1,wf,dR,fun H2 s2=>k _ (s1.trans s2)⟩
def M6 (l:α1):∀(s:α1) (v:α2),v∈l.foldl ins s↔v∈s\/v∈l:=by
 induction l with
 |nil=>intro s v;simp
 |cons a l ih=>
  intro s v;rw[xh_,ih];unfold ins;split
  ·rename_i h
   constructor
   ·rintro (h1|h1)
    ·exact .inl h1
    ·exact .inr (jm_ _ h1)
   ·rintro (h1|h1)
    ·exact .inl h1
    ·rcases jr_.mp h1 with rfl|h1
     ·exact .inl h
     ·exact .inr h1
  ·constructor
   ·rintro (h1|h1)
    ·rcases jx_.mp h1 with h1|h1
     ·exact .inl h1
     ·rw[jd_.mp h1];exact .inr (js_ ..)
    ·exact .inr (jm_ _ h1)
   ·rintro (h1|h1)
    ·exact .inl (jF_ _ h1)
    ·rcases jr_.mp h1 with rfl|h1
     ·exact .inl (by simp)
     ·exact .inr h1
def AF : v∈AK L W↔v∈W \/ ∃a∈W,∃x:Nat,x<L/\v=a++[(x:Int)]:=by
 unfold AK;rw[M6,M6];simp only[q4_,false_or,xr_,extW,jq_,qf_];constructor
 ·rintro (h|⟨a,ha,x,hx,rfl⟩)
  ·exact .inl h
  ·exact .inr ⟨a,ha,x,hx,rfl⟩
 ·rintro (h|⟨a,ha,x,hx,rfl⟩)
  ·exact .inl h
  ·exact .inr ⟨a,ha,x,hx,rfl⟩
def AN : c∈De R E ↔ ∃r∈R,∃e∈E,c=r++e:=by
 unfold De;rw[M6];simp only[q4_,false_or,xr_,jq_];constructor
 ·rintro⟨r,hr,e,he,rfl⟩;exact⟨r,hr,e,he,rfl⟩
 ·rintro⟨r,hr,e,he,rfl⟩;exact⟨r,hr,e,he,rfl⟩
noncomputable abbrev Bk:=List (α2×Int)
noncomputable def Grow (es cR:Bk):Prop:=∀v m,mkO es v=some m->mkO cR v=some m
def Grow.refl (es:Bk):Grow es es:=fun _ _ h=>h
def Grow.snoc (es:Bk)(v:α2)(m:Int):Grow es (es++[(v,m)]):=fun u n h=>by
 unfold mkO at h ⊢;rw[qy];cases hf:es.find? (fun e=>decide (e.1=u)) with
 |none=>rw[hf]at h;cases h
 |some e=>rw[hf]at h;exact h
def FA (h:mkO es v=some m):(v,m)∈es:=by
 unfold mkO at h;cases hf:es.find? (fun e=>decide (e.1=v)) with
 |none=>rw[hf]at h;cases h
 |some e=>
  rw[hf]at h;have h1:=xa_ hf;have h2:=x3_ hf;simp at h h2;subst h h2;exact h1
def OZ : v∈es.map (·.1) ↔ ∃m,mkO es v=some m:=by
 constructor
 ·intro h;cases hm:mkO es v with
  |some m=>exact⟨m,rfl⟩
  |none=>
   obtain⟨e,he,rfl⟩:=jq_.mp h;unfold mkO at hm;rw[q0_,qd_]at hm;exact absurd (jR_ rfl) (hm e he)
 ·rintro⟨m,hm⟩;exact jq_.mpr ⟨_,FA hm,rfl⟩
noncomputable def Ih (E:α1)(es:Bk)(v u:α2):Prop:=∃e∈E,∃m n,mkO es (v++e)=some m/\mkO es (u++e)=some n/\m≠n
def Ih.symm (h:Ih E es v u):Ih E es u v:=by
 obtain⟨e,he,m,n,a,b,c⟩:=h;exact⟨e,he,n,m,b,a,qm_ c⟩
def Ih.mono (h:Ih E es v u)(hE:∀e∈E,e∈E')(g:Grow es cR):Ih E' cR v u:=by
 obtain⟨e,he,m,n,a,b,c⟩:=h;exact⟨e,hE e he,m,n,g _ _ a,g _ _ b,c⟩
noncomputable def Pend (L:Nat)(W E:α1)(es:Bk):Prop:=∃a∈W,∃x:Nat,x<L/\∀u∈W,Ih E es (a++[(x:Int)]) u
def Pend.mono (h:Pend L W E es)(g:Grow es cR):Pend L W E cR:=by
 obtain⟨a,ha,x,hx,k⟩:=h;exact⟨a,ha,x,hx,fun u hu=>(k u hu).mono (fun _ z=>z) g⟩
structure Tb (L most:Nat)(W E:α1)(es:Bk):Prop where
 l1:1<=L
 l6:L<=6
 m12:most<=12
 w0:W[0]?=some []
 wW:∀v∈W,isW L v=true/\v.length<W.length
 wn:W.length<=most
 e0:E[0]?=some []
 eW:∀e∈E,isW L e=true
 nd:(es.map (·.1)).Nodup
 bW:∀p∈es,isW L p.1=true/\0<=p.2/\p.2<=1000000000
 dist:∀(i j:Nat) (v u:α2),W[i]?=some v->W[j]?=some u->i≠j->Ih E es v u
 jj:E.length<=W.length\/(E.length=W.length+1/\Pend L W E es)
def Tb.en (t:Tb L most W E es):E.length<=most+1:=by
 have:=t.wn;rcases t.jj with h|h
 ·lia
 ·lia
def Tb.put {L most:Nat}{W E:α1}{es:Bk}(t:Tb L most W E es){v:α2}{m:Int}(hn:v∉es.map (·.1))(hv:isW L v=true)(h0:0<=m)(h9:m<=1000000000):Tb L most W E (es++[(v,m)]) where
 l1:=t.l1
 l6:=t.l6
 m12:=t.m12
 w0:=t.w0
 wW:=t.wW
 wn:=t.wn
 e0:=t.e0
 eW:=t.eW
 nd:=by
  rw[jz_,qI_];exact⟨t.nd,by simp,fun a ha b hb=>by rw[jd_.mp hb];intro z;subst z;exact hn ha⟩
 bW:=fun p hp=>by
  rcases jx_.mp hp with hp|hp
  ·exact t.bW p hp
  ·rw[jd_.mp hp];exact⟨hv,h0,h9⟩
 dist:=fun i j v' u h1 h2 h3=>(t.dist i j v' u h1 h2 h3).mono (fun _ z=>z) (Grow.snoc es v m)
 jj:=by
  rcases t.jj with h|h
  ·exact .inl h
  ·exact .inr ⟨h.1,h.2.mono (Grow.snoc es v m)⟩
noncomputable def Full (L:Nat)(W E:α1)(es:Bk):Prop:=∀c∈De (AK L W) E,∃m,mkO es c=some m
noncomputable def gOf (E:α1)(es:Bk)(v:α2):α2:=E.map fun e=>(mkO es (v++e)).getD 0
def Wa (f:Full L W E es) (hv:v∈AK L W):(E.map fun e=>oV (mkO es (v++e)))=(gOf E es v).map V.int:=by
 unfold gOf;rw[jN_];refine jM_ fun e he=>?_;obtain⟨m,hm⟩:=f (v++e) (AN.mpr ⟨v,hv,e,he,rfl⟩);show oV (mkO es (v++e))=V.int ((mkO es (v++e)).getD 0);rw[hm];rfl
def Ii (f:Full L W E es) (hv:v∈AK L W)(hu:u∈AK L W):gOf E es v≠gOf E es u↔Ih E es v u:=by
 constructor
 ·intro h;refine qs_ fun bc=>h ?_;unfold gOf;refine jM_ fun e he=>?_;obtain⟨m,hm⟩:=f (v++e) (AN.mpr ⟨v,hv,e,he,rfl⟩);obtain⟨n,hn⟩:=f (u++e) (AN.mpr ⟨u,hu,e,he,rfl⟩);rw[hm,hn];exact qs_ fun aA=>bc ⟨e,he,m,n,hm,hn,aA⟩
 ·rintro⟨e,he,m,n,hm,hn,aA⟩ heq;unfold gOf at heq;have:=List.map_inj_left.mp heq e he;rw[hm,hn]at this;exact aA this
def Tb.nodup (t:Tb L most W E es)(f:Full L W E es):(W.map (gOf E es)).Nodup:=by
 rw[xM_,zD_,xQ_];intro i j hi hj lN;exact (Ii f (AF.mpr (.inl (jZ_ hi))) (AF.mpr (.inl (jZ_ hj)))).mpr (t.dist i j _ _ (je_ hi) (je_ hj) s!"")
def Tb.more (t:Tb L most W E es)(f:Full L W E es) (h:(AK L W).find? (fun v=>decide (gOf E es v∉W.map (gOf E es)))=some v):(v∈AK L W/\v∉W/\isW L v=true/\v.length<=W.length)/\(W.length<most->Tb L most (W++[v]) E es):=by
 have h1:=xa_ h;have h2:=x3_ h;have h2:gOf E es v∉W.map (gOf E es):=qW_ h2;have hnW:v∉W:=fun z=>h2 (qY_ z);have fM:∀u∈W,Ih E es v u:=fun u hu=>(Ii f h1 (AF.mpr (.inl hu))).mp fun z=>h2 (by rw[z];exact qY_ hu);have hv:isW L v=true/\v.length<=W.length:=by
  rcases AF.mp h1 with h|⟨a,ha,x,hx,rfl⟩
  ·exact absurd h hnW
  ·have:=t.wW a ha;exact⟨Am.mpr fun y hy=>by
    rcases jx_.mp hy with hy|hy
    ·exact Am.mp this.1 y hy
    ·rw[jd_.mp hy];lia,by rw[jf_,jo_];lia⟩
 refine⟨⟨h1,hnW,hv.1,hv.2⟩,fun hm=>⟨t.l1,t.l6,t.m12,?_,fun u hu=>?_,by simp;lia,t.e0,t.eW,t.nd,t.bW,fun i j a b hi hj lN=>?_,?_⟩⟩
 ·have:=(ja_.mp t.w0).1;rw[ji_ this];exact t.w0
 ·rw[jf_,jo_];rcases jx_.mp hu with hu|hu
  ·have:=t.wW u hu;exact⟨this.1,by lia⟩
  ·rw[jd_.mp hu];exact⟨hv.1,by lia⟩
 ·have m9:=(ja_.mp hi).1;have dw:=(ja_.mp hj).1;rw[jf_,jo_]at m9 dw;by_cases bu:i<W.length
  ·rw[ji_ bu]at hi;by_cases eG:j<W.length
   ·rw[ji_ eG]at hj;exact t.dist i j a b hi hj lN
   ·rw[jv_ s!"",show j-W.length=0 by lia]at hj;cases hj;exact (fM a (jc_ hi)).symm
  ·rw[jv_ s!"",show i-W.length=0 by lia]at hi;cases hi;rw[ji_ s!""]at hj;exact fM b (jc_ hj)
 ·rw[jf_,jo_];rcases t.jj with h|h
  ·exact .inl s!""
  ·exact .inl s!""
def Tb.none (t:Tb L most W E es)(f:Full L W E es)(h:(AK L W).find? (fun v=>decide (gOf E es v∉W.map (gOf E es)))=none):¬ Pend L W E es/\(∀a∈W,∀x:Nat,x<L->gOf E es (a++[(x:Int)])∈W.map (gOf E es)):=by
 have az:∀v∈AK L W,gOf E es v∈W.map (gOf E es):=fun v hv=>by
  have:=qd_.mp h v hv;simpa using this
 refine⟨fun ⟨a,ha,x,hx,k⟩=>?_,fun a ha x hx=>az _ (AF.mpr (.inr ⟨a,ha,x,hx,rfl⟩))⟩;have hr:=AF.mpr (.inr ⟨a,ha,x,hx,rfl⟩);obtain⟨u,hu,e⟩:=jq_.mp (az _ hr);exact (Ii f hr (AF.mpr (.inl hu))).mpr (k u hu) e.symm
structure GuessOk (L:Nat)(W E:α1)(es:Bk)(af:α2)(ag:α1):Prop where
 ml:af.length=W.length
 m:∀(i:Nat) (v:α2),W[i]?=some v->∃y,af[i]?=some y/\mkO es v=some y
 wl:ag.length=W.length
 rl:∀row∈ag,row.length=L
 go:∀(i:Nat) (v:α2) (x:Nat),W[i]?=some v->x<L->∃(row:α2) (k:Nat) (u:α2),ag[i]?=some row/\row[x]?=some (k:Int)/\W[k]?=some u/\∀e∈E,∃y,mkO es (v++[(x:Int)]++e)=some y/\mkO es (u++e)=some y
def GuessOk.mono (g:GuessOk L W E es af ag)(h:Grow es cR):GuessOk L W E cR af ag:=by
 refine⟨g.ml,fun i v hv=>?_,g.wl,g.rl,fun i v x hv hx=>?_⟩
 ·obtain⟨y,a,b⟩:=g.m i v hv;exact⟨y,a,h _ _ b⟩
 ·obtain⟨row,k,u,a,b,c,d⟩:=g.go i v x hv hx;refine⟨row,k,u,a,b,c,fun e he=>?_⟩;obtain⟨y,y1,y2⟩:=d e he;exact⟨y,h _ _ y1,h _ _ y2⟩
def YV {α:Type}[BEq α][LawfulBEq α]{l:List α}{a:α}(h:a∈l):l[l.idxOf a]?=some a/\l.idxOf a<l.length:=by
 have h1:=xX_.mpr h;exact⟨by rw[je_ h1,xC_],h1⟩
def Tb.guess (t:Tb L most W E es)(f:Full L W E es)(h:∀a∈W,∀x:Nat,x<L->gOf E es (a++[(x:Int)])∈W.map (gOf E es)):GuessOk L W E es (W.map fun v=>(mkO es v).getD 0) (W.map fun v=>(om L).map fun x:Nat=>(((W.map (gOf E es)).idxOf (gOf E es (v++[(x:Int)])):Nat):Int)):=by
 have kq:([]:α2)∈E:=jc_ t.e0;refine⟨by rw[jb_],fun i v hv=>?_,by rw[jb_],fun row hr=>?_,fun i v x hv hx=>?_⟩
 ·obtain⟨m,hm⟩:=f v (AN.mpr ⟨v,AF.mpr (.inl (jc_ hv)),[],kq,by simp⟩);exact⟨m,by rw[jj_,hv];show some ((mkO es v).getD 0)=_;rw[hm];rfl,hm⟩
 ·obtain⟨v,_,rfl⟩:=jq_.mp hr;rw[jb_,qJ_]
 ·have b5:=jc_ hv;have hg:=h v b5 x hx;obtain⟨q1,q2⟩:=YV hg;obtain⟨k,hk⟩:∃k,k=(W.map (gOf E es)).idxOf (gOf E es (v++[(x:Int)])):=⟨_,rfl⟩;rw[<-hk]at q1 q2;rw[jb_]at q2;rw[jj_,je_ q2]at q1;have q3:gOf E es W[k]=gOf E es (v++[(x:Int)]):=jB_ q1;refine⟨_,k,W[k],by rw[jj_,hv];rfl,by rw[jj_,xn_ hx,hk];rfl,je_ q2,fun e he=>?_⟩;obtain⟨y,hy⟩:=f (v++[(x:Int)]++e) (AN.mpr ⟨_,AF.mpr (.inr ⟨v,b5,x,hx,rfl⟩),e,he,rfl⟩);obtain⟨z,hz⟩:=f (W[k]++e) (AN.mpr ⟨_,AF.mpr (.inl (jZ_ q2)),e,he,rfl⟩);have:=List.map_inj_left.mp q3 e he;rw[hy,hz]at this;have e2:z=y:=this;exact⟨y,hy,by rw[hz,e2]⟩
def Tb.wf (t:Tb L most W E es) (g:GuessOk L W E es af ag):Wf L af ag:=by
 have h0:=(ja_.mp t.w0).1;have:=t.wn;have:=t.m12;have:=t.l1;have:=t.l6;refine⟨by lia,by lia,by rw[g.ml];lia,by rw[g.ml];lia,by rw[g.wl,g.ml],fun row hr=>?_,fun m hm=>?_⟩
 ·refine⟨by rw[g.rl row hr],fun y hy=>?_⟩;obtain⟨i,hi⟩:=jK_.mp hr;have bu:=(ja_.mp hi).1;rw[g.wl]at bu;obtain⟨x,hx⟩:=jK_.mp hy;have gd:=(ja_.mp hx).1;rw[g.rl row hr]at gd;obtain⟨row',k,u,a,b,c,_⟩:=g.go i _ x (je_ bu) gd;rw[hi]at a;cases a;rw[hx]at b;cases b;have:=(ja_.mp c).1;rw[g.ml];lia
 ·obtain⟨i,hi⟩:=jK_.mp hm;have bu:=(ja_.mp hi).1;rw[g.ml]at bu;obtain⟨y,a,b⟩:=g.m i _ (je_ bu);rw[hi]at a;cases a;exact (t.bW _ (FA b)).2
def GuessOk.room (t:Tb L most W E es) (g:GuessOk L W E es af ag) (hv:isW L v=true):∀i:Nat,∃(k:Nat) (u:α2),Al ag (v.take i)=(k:Int)/\W[k]?=some u:=fun i=>by
 have wf:=t.wf g;obtain⟨h0,h1⟩:=wf.walk hv i;rw[g.ml]at h1;obtain⟨k,hk⟩:=qU_ h0;rw[hk]at h1;exact⟨k,W[k]'s!"",hk,je_ s!""⟩
def GuessOk.step {L most:Nat}{W E:α1}{es:Bk}(t:Tb L most W E es){af:α2}{ag:α1}(g:GuessOk L W E es af ag){v:α2}(hv:isW L v=true){i k:Nat}{a:α2}{y:Int}(hy:v[i]?=some y)(hk:Al ag (v.take i)=(k:Int))(ha:W[k]?=some a):∃(x k':Nat) (u:α2),y=(x:Int)/\x<L/\Al ag (v.take (i+1))=(k':Int)/\W[k']?=some u/\∀e∈E,∃m,mkO es (a++[(x:Int)]++e)=some m/\mkO es (u++e)=some m:=by
 have hb:=Am.mp hv y (jc_ hy);obtain⟨x,rfl⟩:=qU_ hb.1;obtain⟨row,k',u,q1,q2,q3,q4⟩:=g.go k a x ha s!"";refine⟨x,k',u,rfl,by lia,?_,q3,q4⟩;rw[Gd hy,hk];exact HJ (by rw[show ((k:Int)).toNat=k by lia];exact q1) (by rw[show ((x:Int)).toNat=x by lia];exact q2)
def Tb.halved {L most:Nat}{W E:α1}{es:Bk}(t:Tb L most W E es)(hE:E.length<=W.length){af:α2}{ag:α1}(g:GuessOk L W E es af ag){v:α2}(hv:isW L v=true){i k k':Nat}(hi:i<v.length){a u:α2}{mk b:Int}(hk:Al ag (v.take i)=(k:Int))(ha:W[k]?=some a)(h1:mkO es (a++v.drop i)=some b)(aA:b≠mk)(lO:Al ag (v.take (i+1))=(k':Int))(hu:W[k']?=some u)(h2:mkO es (u++v.drop (i+1))=some mk):Tb L most W (E++[v.drop (i+1)]) es/\Pend L W (E++[v.drop (i+1)]) es:=by
 obtain⟨y,hy⟩:∃y,v[i]?=some y:=⟨v[i],by simp⟩;obtain⟨x,k2,u2,rfl,hx,q1,q2,q3⟩:=g.step t hv hy hk ha;have ek:k2=k':=by rw[lO]at q1;exact (Int.ofNat.inj q1).symm
 subst ek;rw[hu]at q2;cases q2;have lP:v.drop i=(x:Int)::v.drop (i+1):=by
  have:=(ja_.mp hy);rw[oY hi,this.2]
 have hpend:Pend L W (E++[v.drop (i+1)]) es:=by
  refine⟨a,jc_ ha,x,hx,fun w' fh=>?_⟩;obtain⟨j,hj⟩:=jK_.mp fh;by_cases ik:j=k2
  ·subst ik;rw[hu]at hj;cases hj;refine⟨v.drop (i+1),by simp,b,mk,?_,h2,aA⟩;rw[lP]at h1;rw[qx_];exact h1
  ·obtain⟨e,he,m,n,z1,z2,z3⟩:=t.dist j k2 _ _ hj hu ik;obtain⟨y2,y3,y4⟩:=q3 e he;rw[z2]at y4;cases y4;exact⟨e,jF_ _ he,n,m,y3,z1,qm_ z3⟩
 refine⟨⟨t.l1,t.l6,t.m12,t.w0,t.wW,t.wn,?_,fun e he=>?_,t.nd,t.bW,fun i j v u h1 h2 h3=>(t.dist i j v u h1 h2 h3).mono (fun e he=>jF_ _ he) (Grow.refl _),?_⟩,hpend⟩
 ·have:=(ja_.mp t.e0).1;rw[ji_ this];exact t.e0
 ·rcases jx_.mp he with he|he
  ·exact t.eW e he
  ·rw[jd_.mp he];exact Am.mpr fun y hy=>Am.mp hv y (xO_ hy)
 ·rw[jf_,jo_];by_cases ay:E.length<W.length
  ·exact .inl s!""
  ·exact .inr ⟨by lia,hpend⟩
structure AS where
 L:Nat
 most:Nat
 W:α1
 E:α1
 G:α1
 gs:Option (α2×α1)
 wr:Option (α2)
 es:Bk
inductive Wish where
 | ask (c:α2)
 | shown (m:α2) (ws:α1)
 | done (m:α2) (ws:α1)
 | spent (c:α2)
inductive HR where
 | ask (c:α2)
 | fin (hi:Nat)
noncomputable def EW (L:Nat)(W E:α1)(es:Bk):α1:=(De (AK L W) E).filter fun c=>(mkO es c).isNone
noncomputable def Bn (W:α1)(es:Bk):α2:=W.map fun v=>(mkO es v).getD 0
noncomputable def CS (L:Nat)(W E:α1)(es:Bk):α1:=W.map fun v=>(om L).map fun x:Nat=>(((W.map (gOf E es)).idxOf (gOf E es (v++[(x:Int)])):Nat):Int)
noncomputable def Bg (es:Bk)(m:α2)(ws:α1):Option (α2):=(es.find? fun e=>decide (Ax m (Al ws e.1)≠e.2)).map (·.1)
noncomputable def FC (W ws:α1)(v:α2)(i:Nat):α2:=W.getD (Al ws (v.take i)).toNat []
noncomputable def Ec (es:Bk)(W ws:α1)(v:α2)(mk:Int):Nat->Nat->Nat->HR
 |0,_,hi=>.fin hi
 |f+1,lo,hi=>if hi-lo > 1 then (match mkO es (FC W ws v ((lo+hi) / 2)++v.drop ((lo+hi) / 2)) with
   |none=>.ask (FC W ws v ((lo+hi) / 2)++v.drop ((lo+hi) / 2))
   |some t=>if t=mk then Ec es W ws v mk f lo ((lo+hi) / 2) else Ec es W ws v mk f ((lo+hi) / 2) hi) else .fin hi
noncomputable def CH (L:Nat)(W E:α1)(es:Bk):Option (α2):=(AK L W).find? fun v=>decide (gOf E es v∉W.map (gOf E es))
noncomputable def DC (s:AS):AS×Option Wish:=match CH s.L s.W s.E s.es with
 |some r=>if s.W.length=s.most then (s,some (.spent r)) else ({s with W:=s.W++[r],G:=EW s.L (s.W++[r]) s.E s.es},none)
 |none=>match Bg s.es (Bn s.W s.es) (CS s.L s.W s.E s.es) with
  |none=>({s with gs:=some (Bn s.W s.es,CS s.L s.W s.E s.es),wr:=none},some (.shown (Bn s.W s.es) (CS s.L s.W s.E s.es)))
  |some v=>({s with gs:=some (Bn s.W s.es,CS s.L s.W s.E s.es),wr:=some v},none)
noncomputable def Ij (s:AS)(v m:α2)(ws:α1):AS×Option Wish:=match Ec s.es s.W ws v (Ax m (Al ws v)) v.length 0 v.length with
 |.ask c=>(s,some (.ask c))
 |.fin hi=>({s with wr:=none,E:=s.E++[v.drop hi],G:=EW s.L s.W (s.E++[v.drop hi]) s.es},none)
noncomputable def Br (s:AS):AS×Option Wish:=match s.G with
 |c::r=>({s with G:=r},some (.ask c))
 |[]=>match s.wr with
  |some v=>match s.gs with
   |some (m,ws)=>Ij s v m ws
   |none=>(s,none)
  |none=>DC s
structure OkX (x:Option (α2))(B:Nat)(s:AS):Prop where
 tb:Tb s.L s.most s.W s.E s.es
 cov:∀c∈De (AK s.L s.W) s.E,(∃m,mkO s.es c=some m)\/c∈s.G\/x=some c
 gn:s.G.Nodup
 gW:∀c∈s.G,isW s.L c=true/\mkO s.es c=none/\c.length<=B+(s.most+1)*s.E.length
 le:∀e∈s.E,e.length+(s.most+1)<=B+(s.most+1)*s.E.length
 lb:∀p∈s.es,p.1.length<=B+(s.most+1)*s.E.length+(if s.wr.isSome then s.most else 0)
 wr:∀v,s.wr=some v->s.G=[]/\s.E.length<=s.W.length/\isW s.L v=true/\v.length<=B+(s.most+1)*s.E.length/\∃m ws t,s.gs=some (m,ws)/\GuessOk s.L s.W s.E s.es m ws/\mkO s.es v=some t/\t≠Ax m (Al ws v)
def OkX.full {B:Nat} (o:OkX none B s)(h:s.G=[]):Full s.L s.W s.E s.es:=fun c hc=>by
 rcases o.cov c hc with z|z|z
 ·exact z
 ·rw[h]at z;cases z
 ·cases z
def OkX.lens {B:Nat} (o:OkX x B s):(s.most+1)*s.E.length<=(s.most+1)*(s.most+1):=xV_ _ o.tb.en
def OkX.cell {x:Option (α2)}{B:Nat}{s:AS}{W:α1}{E:α1}(hW:∀v∈W,isW s.L v=true/\v.length<W.length)(hn:W.length<=s.most)(hE:∀e∈E,isW s.L e=true/\e.length+(s.most+1)<=B+(s.most+1)*E.length){c:α2}(hc:c∈De (AK s.L W) E):isW s.L c=true/\c.length<=B+(s.most+1)*E.length:=by
 obtain⟨r,hr,e,he,rfl⟩:=AN.mp hc;have h2:=hE e he;have h1:isW s.L r=true/\r.length<=W.length:=by
  rcases AF.mp hr with h|⟨a,ha,y,hy,rfl⟩
  ·have:=hW r h;exact⟨this.1,by lia⟩
  ·have:=hW a ha;exact⟨Am.mpr fun z hz=>by
    rcases jx_.mp hz with hz|hz
    ·exact Am.mp this.1 z hz
    ·rw[jd_.mp hz];lia,by rw[jf_,jo_];lia⟩
 refine⟨Am.mpr fun z hz=>?_,by rw[jf_];lia⟩;rcases jx_.mp hz with hz|hz
 ·exact Am.mp h1.1 z hz
 ·exact Am.mp h2.1 z hz
def La (R E:α1):(De R E).Nodup:=B0 xs_
def O0 {B:Nat}{s:AS}{W E:α1}(hW:∀v∈W,isW s.L v=true/\v.length<W.length)(hn:W.length<=s.most)(hE:∀e∈E,isW s.L e=true/\e.length+(s.most+1)<=B+(s.most+1)*E.length):(∀c∈De (AK s.L W) E,(∃m,mkO s.es c=some m)\/c∈EW s.L W E s.es\/(none:Option (α2))=some c)/\(EW s.L W E s.es).Nodup/\∀c∈EW s.L W E s.es,isW s.L c=true/\mkO s.es c=none/\c.length<=B+(s.most+1)*E.length:=by
 refine⟨fun c hc=>?_,(La _ _).filter _,fun c hc=>?_⟩
 ·cases hm:mkO s.es c with
  |some m=>exact .inl ⟨m,rfl⟩
  |none=>exact .inr (.inl (qA_.mpr ⟨hc,by rw[hm];rfl⟩))
 ·obtain⟨h1,h2⟩:=qA_.mp hc;have:=OkX.cell (x:=none) (s:=s) hW hn hE h1;exact⟨this.1,by simpa using h2,this.2⟩
def O1 {L most:Nat}{W E:α1}{es:Bk}(t:Tb L most W E es){m:α2}{ws:α1}(g:GuessOk L W E es m ws){v:α2}(hv:isW L v=true){mk:Int}:∀(f lo hi:Nat),hi-lo<=f+1->lo<hi->hi<=v.length->(∃b,mkO es (FC W ws v lo++v.drop lo)=some b/\b≠mk)->mkO es (FC W ws v hi++v.drop hi)=some mk->match Ec es W ws v mk f lo hi with
   |.ask c=>mkO es c=none/\∃i,i<v.length/\c=FC W ws v i++v.drop i
   |.fin h=>0<h/\h<=v.length/\(∃b,mkO es (FC W ws v (h-1)++v.drop (h-1))=some b/\b≠mk)/\mkO es (FC W ws v h++v.drop h)=some mk
 |0,lo,hi,h1,h2,h3,h4,h5=>by
  have:lo=hi-1:=by lia
  subst this;exact⟨by lia,h3,h4,h5⟩
 |f+1,lo,hi,h1,h2,h3,h4,h5=>by
  unfold Ec;by_cases hg:hi-lo > 1
  ·rw[if_pos hg];cases hm:mkO es (FC W ws v ((lo+hi) / 2)++v.drop ((lo+hi) / 2)) with
   |none=>exact⟨hm,(lo+hi) / 2,by lia,rfl⟩
   |some b=>
    dsimp only;by_cases hb:b=mk
    ·rw[if_pos hb];subst hb;exact O1 t g hv f lo ((lo+hi) / 2) s!"" s!"" s!"" h4 hm
    ·rw[if_neg hb];exact O1 t g hv f ((lo+hi) / 2) hi s!"" s!"" h3 ⟨b,hm,hb⟩ h5
  ·rw[if_neg hg];have:lo=hi-1:=by lia
   subst this;exact⟨by lia,h3,h4,h5⟩
def L5 (t:Tb L most W E es) (g:GuessOk L W E es m ws) (hv:isW L v=true)(i:Nat):∃k:Nat,Al ws (v.take i)=(k:Int)/\W[k]?=some (FC W ws v i):=by
 obtain⟨k,u,h1,h2⟩:=g.room t hv i;refine⟨k,h1,?_⟩;unfold FC;rw[h1,show ((k:Int)).toNat=k by lia,jp_,h2];rfl
open Classical in
noncomputable def mu (s:AS):Nat:=4*(s.most-s.W.length)+(if s.wr.isSome then 2 else if Pend s.L s.W s.E s.es then 1 else 3)
noncomputable def WOk (B:Nat)(s:AS):Wish->Prop
 |.ask c=>OkX (some c) B s/\mkO s.es c=none/\isW s.L c=true/\c.length<=B+(s.most+1)*s.E.length+(if s.wr.isSome then s.most else 0)/\c∉s.G
 |.shown m ws=>OkX none B s/\s.G=[]/\s.wr=none/\s.gs=some (m,ws)/\GuessOk s.L s.W s.E s.es m ws/\∀p∈s.es,Ax m (Al ws p.1)=p.2
 |.done m ws=>OkX none B s/\s.G=[]/\s.wr=none/\s.gs=some (m,ws)/\GuessOk s.L s.W s.E s.es m ws/\∀p∈s.es,Ax m (Al ws p.1)=p.2
 |.spent r=>OkX none B s/\s.G=[]/\s.wr=none/\s.W.length=s.most/\r∈AK s.L s.W/\r∉s.W/\isW s.L r=true/\r.length<=s.W.length/\∀u∈s.W,Ih s.E s.es r u
structure Kept (s s':AS):Prop where
 l:s'.L=s.L
 m:s'.most=s.most
 e:s'.es=s.es
def UM {B:Nat} (o:OkX none B s) (hv:s.wr=some v)(hg:s.gs=some (m,ws)):(∀s',Ij s v m ws=(s',none)->OkX none B s'/\Kept s s'/\mu s'<mu s)/\∀s' x,Ij s v m ws=(s',some x)->WOk B s' x/\Kept s s':=by
 obtain⟨hG,hE,b5,hvl,m',kr,t,e1,g,ht,aA⟩:=o.wr v hv;rw[hg]at e1;cases e1;have tb:=o.tb;have hw0:=tb.w0;have iE:0<v.length:=by
  refine qf fun z=>aA ?_;have:v=[]:=qD_.mp z;subst this;obtain⟨y,y1,y2⟩:=g.m 0 [] hw0;rw[ht]at y2;cases y2;show t=m.getD 0 0;rw[jp_,y1];rfl
 have a0:FC s.W ws v 0=[]:=by
  obtain⟨k,k1,k2⟩:=L5 tb g b5 0;have:(k:Int)=0:=by rw[<-k1];rfl
  have:k=0:=by lia
  subst this;rw[hw0]at k2;exact (jB_ k2).symm
 have aL:mkO s.es (FC s.W ws v v.length++v.drop v.length)=some (Ax m (Al ws v)):=by
  obtain⟨k,k1,k2⟩:=L5 tb g b5 v.length;rw[jE_]at k1;obtain⟨y,y1,y2⟩:=g.m k _ k2;rw[qG,xZ_,y2,k1];show some y=some (m.getD ((k:Int)).toNat 0);rw[show ((k:Int)).toNat=k by lia,jp_,y1];rfl
 have key:=O1 tb g b5 (mk:=Ax m (Al ws v)) v.length 0 v.length s!"" iE (jh_ _) ⟨t,by rw[a0];exact ht,aA⟩ aL;unfold Ij;cases hh:Ec s.es s.W ws v (Ax m (Al ws v)) v.length 0 v.length with
 |ask c=>
  rw[hh]at key;obtain⟨k1,i,hi,rfl⟩:=key;refine⟨fun s' z=>(by cases z),fun s' x z=>?_⟩;cases z;obtain⟨k,q1,q2⟩:=L5 tb g b5 i;have q3:=tb.wW _ (jc_ q2);have q4:=tb.wn;refine⟨⟨⟨tb,fun c hc=>?_,o.gn,o.gW,o.le,o.lb,o.wr⟩,k1,Am.mpr fun y hy=>?_,?_,by rw[hG];simp⟩,⟨rfl,rfl,rfl⟩⟩
  ·rcases o.cov c hc with z|z|z
   ·exact .inl z
   ·exact .inr (.inl z)
   ·cases z
  ·rcases jx_.mp hy with hy|hy
   ·exact Am.mp q3.1 y hy
   ·exact Am.mp b5 y (xO_ hy)
  ·rw[hv,jf_,qR_];simp only[xz_,xS_];lia
 |fin hi=>
  rw[hh]at key;obtain⟨h0,h1,⟨b,b1,b2⟩,h3⟩:=key;refine⟨fun s' z=>?_,fun s' x z=>(by cases z)⟩;cases z;obtain⟨k,q1,q2⟩:=L5 tb g b5 (hi-1);obtain⟨k',fN,iF⟩:=L5 tb g b5 hi;have e1:hi-1+1=hi:=by lia
  obtain⟨jB,pend⟩:=tb.halved hE g b5 (i:=hi-1) s!"" q1 q2 b1 b2 (by rw[e1];exact fN) iF (by rw[e1];exact h3);rw[e1]at jB pend;have bg:∀e∈s.E++[v.drop hi],isW s.L e=true/\e.length+(s.most+1)<=B+(s.most+1)*(s.E++[v.drop hi]).length:=fun e he=>by
   rw[jf_,jo_,se];rcases jx_.mp he with he|he
   ·have:=o.le e he;exact⟨tb.eW e he,by lia⟩
   ·rw[jd_.mp he,qR_];exact⟨Am.mpr fun y hy=>Am.mp b5 y (xO_ hy),by lia⟩
  obtain⟨c1,c2,c3⟩:=O0 (B:=B) (s:=s) (W:=s.W) (E:=s.E++[v.drop hi]) tb.wW tb.wn bg;refine⟨⟨jB,c1,c2,c3,fun e he=>(bg e he).2,fun p hp=>?_,fun v' z=>(by cases z)⟩,⟨rfl,rfl,rfl⟩,?_⟩
  ·have:=o.lb p hp;rw[hv]at this;simp only[xz_,xS_]at this;show p.1.length<=B+(s.most+1)*(s.E++[v.drop hi]).length+0;rw[jf_,jo_,se];lia
  ·unfold mu;rw[hv];simp only[xz_,xS_,zy_,qC_,q7_];rw[if_pos pend];lia
def SV {B:Nat} (o:OkX none B s)(hG:s.G=[])(hw:s.wr=none):(∀s',DC s=(s',none)->OkX none B s'/\Kept s s'/\mu s'<mu s)/\∀s' x,DC s=(s',some x)->WOk B s' x/\Kept s s':=by
 have tb:=o.tb;have full:=o.full hG;have ng:∀p∈s.es,p.1.length<=B+(s.most+1)*s.E.length:=fun p hp=>by
  have:=o.lb p hp;rw[hw]at this;exact this
 unfold DC;cases aH:CH s.L s.W s.E s.es with
 |some r=>
  obtain⟨⟨r1,r2,r3,r4⟩,more⟩:=tb.more full aH;have rap:∀u∈s.W,Ih s.E s.es r u:=fun u hu=>by
   have h2:=x3_ aH;have h2:gOf s.E s.es r∉s.W.map (gOf s.E s.es):=qW_ h2;exact (Ii full r1 (AF.mpr (.inl hu))).mp fun z=>h2 (by rw[z];exact qY_ hu)
  dsimp only;by_cases hm:s.W.length=s.most
  ·rw[if_pos hm];refine⟨fun s' z=>(by cases z),fun s' x z=>?_⟩;cases z;exact⟨⟨o,hG,hw,hm,r1,r2,r3,r4,rap⟩,⟨rfl,rfl,rfl⟩⟩
  ·rw[if_neg hm];refine⟨fun s' z=>?_,fun s' x z=>(by cases z)⟩;cases z;have ay:s.W.length<s.most:=by have:=tb.wn;lia
   have jB:=more ay;obtain⟨c1,c2,c3⟩:=O0 (B:=B) (s:=s) (W:=s.W++[r]) (E:=s.E) jB.wW jB.wn (fun e he=>⟨tb.eW e he,o.le e he⟩);refine⟨⟨jB,c1,c2,c3,o.le,o.lb,fun v z=>?_⟩,⟨rfl,rfl,rfl⟩,?_⟩
   ·rw[show s.wr=some v from z]at hw;cases hw
   ·unfold mu;show 4*(s.most-(s.W++[r]).length)+(if s.wr.isSome then 2 else _)<_;rw[jf_,jo_,hw];simp only[zy_,qC_,q7_];split<;>split<;>lia
 |none=>
  obtain⟨np,cl⟩:=tb.none full aH;have g:GuessOk s.L s.W s.E s.es (Bn s.W s.es) (CS s.L s.W s.E s.es):=tb.guess full cl;have hEW:s.E.length<=s.W.length:=by
   rcases tb.jj with h|h
   ·exact h
   ·exact absurd h.2 np
  dsimp only;cases hf:Bg s.es (Bn s.W s.es) (CS s.L s.W s.E s.es) with
  |none=>
   refine⟨fun s' z=>(by cases z),fun s' x z=>?_⟩;cases z;refine⟨⟨⟨tb,o.cov,o.gn,o.gW,o.le,fun p hp=>by have:=ng p hp;exact this,fun v z=>(by cases z)⟩,hG,rfl,rfl,g,fun p hp=>?_⟩,⟨rfl,rfl,rfl⟩⟩;unfold Bg at hf;rw[q0_,qd_]at hf;have:=hf p hp;simpa using this
  |some v=>
   refine⟨fun s' z=>?_,fun s' x z=>(by cases z)⟩;cases z;unfold Bg at hf;cases lQ:s.es.find? (fun e=>decide (Ax (Bn s.W s.es) (Al (CS s.L s.W s.E s.es) e.1)≠e.2)) with
   |none=>rw[lQ]at hf;cases hf
   |some e=>
    rw[lQ]at hf;cases hf;have h1:=xa_ lQ;have h2:=x3_ lQ;have h2:Ax (Bn s.W s.es) (Al (CS s.L s.W s.E s.es) e.1)≠e.2:=qW_ h2;refine⟨⟨tb,o.cov,o.gn,o.gW,o.le,fun p hp=>by have:=ng p hp;show p.1.length<=B+(s.most+1)*s.E.length+s.most;lia,fun v z=>?_⟩,⟨rfl,rfl,rfl⟩,?_⟩
    ·cases z;exact⟨hG,hEW,(tb.bW e h1).1,ng e h1,_,_,e.2,rfl,g,DI tb.nd h1,qm_ h2⟩
    ·unfold mu;rw[hw];simp only[xz_,xS_,zy_,qC_,q7_];rw[if_neg np];lia
def Ji {B:Nat} (o:OkX none B s):(∀s',Br s=(s',none)->OkX none B s'/\Kept s s'/\mu s'<mu s)/\∀s' x,Br s=(s',some x)->WOk B s' x/\Kept s s':=by
 unfold Br;cases hG:s.G with
 |cons c r=>
  refine⟨fun s' z=>(by cases z),fun s' x z=>?_⟩;cases z;have aR:s.wr=none:=by
   cases h:s.wr with
   |none=>rfl
   |some v=>have:=(o.wr v h).1;rw[hG]at this;cases this
  have gn:=o.gn;rw[hG,j6_]at gn;have hc:=o.gW c (by rw[hG];exact js_ ..);refine⟨⟨⟨o.tb,fun b hb=>?_,gn.2,fun b hb=>o.gW b (by rw[hG];exact jm_ _ hb),o.le,o.lb,fun v z=>?_⟩,hc.2.1,hc.1,by have:=hc.2.2;show c.length<=B+(s.most+1)*s.E.length+(if s.wr.isSome=true then s.most else 0);lia,gn.1⟩,⟨rfl,rfl,rfl⟩⟩
  ·rcases o.cov b hb with z|z|z
   ·exact .inl z
   ·rw[hG]at z;rcases jr_.mp z with rfl|z
    ·exact .inr (.inr rfl)
    ·exact .inr (.inl z)
   ·cases z
  ·rw[show s.wr=some v from z]at aR;cases aR
 |nil=>
  cases hw:s.wr with
  |none=>exact SV o hG hw
  |some v=>
   obtain⟨_,_,_,_,m,ws,t,e1,_⟩:=o.wr v hw;rw[e1];exact UM o hw e1
noncomputable def afl (wv:V)(L most:Int)(b pw pe pg:Addr)(gv rv:V):List (Str×V):=[("wish",wv),("letters",.int L),("most",.int most),("book",.ref b),("ways",.ref pw),("ends",.ref pe),("gaps",.ref pg),("guess",gv),("wrong",rv)]
section
variable (wv:V) (L most:Int) (b pw pe pg:Addr) (gv rv y:V)
def Hr:(afl wv L most b pw pe pg gv rv).lookup ("wish" : Str)=some wv:=by kernel_rfl
def Jj:(afl wv L most b pw pe pg gv rv).lookup ("letters" : Str)=some (.int L):=by kernel_rfl
def Xd:(afl wv L most b pw pe pg gv rv).lookup ("most" : Str)=some (.int most):=by kernel_rfl
def FD:(afl wv L most b pw pe pg gv rv).lookup ("book" : Str)=some (.ref b):=by kernel_rfl
def Jk:(afl wv L most b pw pe pg gv rv).lookup ("ways" : Str)=some (.ref pw):=by kernel_rfl
def Lb:(afl wv L most b pw pe pg gv rv).lookup ("ends" : Str)=some (.ref pe):=by kernel_rfl
def SW:(afl wv L most b pw pe pg gv rv).lookup ("gaps" : Str)=some (.ref pg):=by kernel_rfl
def Km:(afl wv L most b pw pe pg gv rv).lookup ("guess" : Str)=some gv:=by kernel_rfl
def Gj:(afl wv L most b pw pe pg gv rv).lookup ("wrong" : Str)=some rv:=by kernel_rfl
def Qc:putF "wish" y (afl wv L most b pw pe pg gv rv)=afl y L most b pw pe pg gv rv:=by kernel_rfl
def UN (q:Addr):putF "gaps" (.ref q) (afl wv L most b pw pe pg gv rv)=afl wv L most b pw pe q gv rv:=by kernel_rfl
def SX:putF "guess" y (afl wv L most b pw pe pg gv rv)=afl wv L most b pw pe pg y rv:=by kernel_rfl
def Lc:putF "wrong" y (afl wv L most b pw pe pg gv rv)=afl wv L most b pw pe pg gv y:=by kernel_rfl
def UO:putF "wrong" .non (putF "guess" .non (putF "gaps" (.ref pg) (putF "ends" (.ref pe) (putF "ways" (.ref pw) (putF "book" (.ref b) (putF "most" (.int most) (putF "letters" (.int L) (putF "wish" .non []))))))))=afl .non L most b pw pe pg .non .non:=by kernel_rfl
end
structure AD where
 dx:Addr
 b:Addr
 d:Addr
 pw:Addr
 pe:Addr
 pg:Addr
noncomputable def HouT (K:α3)(H:Hp)(h:Addr)(L:Int)(m:α2)(ws:α1):Prop:=∃tm tw zs,H h=some (.tup [.int L,.ref tm,.ref tw])/\H tm=some (.tup (m.map V.int))/\H tw=some (.tup zs)/\Az K H zs ws
def HouT.mono {K:α3} (x:HouT K H h L m ws)(k:TK H H'):HouT K H' h L m ws:=by
 obtain⟨tm,tw,zs,a,b,c,d⟩:=x;exact⟨tm,tw,zs,k _ _ a,k _ _ b,k _ _ c,d.mono k⟩
def Az.rows39 {K:α3} (h:Az K H zs ws)(hw:SqT K H t zs):Rows K H t ws:=by
 refine⟨zs.map (fun v=>match v with | .ref t=>t|_=>0),?_,by rw[jb_];exact h.1,fun i t r hi hr=>?_⟩
 ·have e:(zs.map (fun v=>match v with | .ref t=>t|_=>0)).map V.ref=zs:=by
   rw[jN_];refine qw_ fun i=>?_;rw[jj_];by_cases hi:i<ws.length
   ·obtain⟨t,a,_⟩:=h.2 i ws[i] (by simp[hi]);rw[a];rfl
   ·rw[jT_ (by rw[h.1];lia)];rfl
  rw[e];exact hw
 ·obtain⟨t',a,b⟩:=h.2 i r hr;rw[jj_,a]at hi;cases hi;exact SqT.of b
def HouT.house {K:α3} (x:HouT K H h L m ws):Cn K H h L m ws:=by
 obtain⟨tm,tw,zs,a,b,c,d⟩:=x;exact⟨tm,tw,SqT.of a,SqT.of b,Az.rows39 d (SqT.of c)⟩
noncomputable def GV (K:α3)(H:Hp)(L:Int)(gv:V):Option (α2×α1)->Prop
 |none=>gv=.non
 |some (m,ws)=>∃h,gv=.ref h/\HouT K H h L m ws
noncomputable def RV (H:Hp)(rv:V):Option (α2)->Prop
 |none=>rv=.non
 |some v=>∃t,rv=.ref t/\H t=some (.tup (v.map V.int))
def GV.mono {K:α3} (x:GV K H L gv o)(k:TK H H'):GV K H' L gv o:=by
 match o,x with
 |none,x=>exact x
 |some (m,ws),⟨h,a,b⟩=>exact⟨h,a,b.mono k⟩
def RV.mono (x:RV H rv o)(k:TK H H'):RV H' rv o:=by
 match o,x with
 |none,x=>exact x
 |some v,⟨t,a,b⟩=>exact⟨t,a,k _ _ b⟩
noncomputable def Wish.tag:Wish->Str
 |.ask _ => "ask"
 |.shown _ _ => "show"
 |.done _ _ => "done"
 |.spent _ => "spent"
noncomputable def Zk (K:α3)(H:Hp)(L:Int)(u:Addr):Wish->Prop
 |.ask c=>H u=some (.tup (c.map V.int))
 |.shown m ws=>HouT K H u L m ws
 |.done m ws=>HouT K H u L m ws
 |.spent c=>H u=some (.tup (c.map V.int))
noncomputable def Bj (K:α3)(H:Hp)(L:Int)(wv:V)(x:Wish):Prop:=∃t u,wv=.ref t/\H t=some (.tup [.str x.tag,.ref u])/\Zk K H L u x
def Bj.mono {K:α3} {wv:V} (h:Bj K H L wv x)(k:TK H H'):Bj K H' L wv x:=by
 obtain⟨t,u,a,b,c⟩:=h;refine⟨t,u,a,k _ _ b,?_⟩;cases x with
 |ask c'=>exact k _ _ c
 |spent c'=>exact k _ _ c
 |shown m ws=>exact HouT.mono c k
 |done m ws=>exact HouT.mono c k
structure AskAt (K:α3)(CA CB:Addr)(H:Hp)(a:Addr)(ad:AD)(s:AS)(wv gv rv:V)(zs ys us:List V):Prop where
 ob:H a=some (.ins CA ad.dx (afl wv s.L s.most ad.b ad.pw ad.pe ad.pg gv rv))
 bk:BookAt CB H ad.b ad.d s.L s.es
 w:H ad.pw=some (.lst zs)
 wW:Az K H zs s.W
 e:H ad.pe=some (.lst ys)
 eW:Az K H ys s.E
 g:H ad.pg=some (.lst us)
 gW:Az K H us s.G
 we:ad.pw≠ad.pe
 wg:ad.pw≠ad.pg
 eg:ad.pe≠ad.pg
 gv:GV K H s.L gv s.gs
 rv:RV H rv s.wr
noncomputable def Asks (K:α3)(CA CB:Addr)(H:Hp)(a:Addr)(ad:AD)(s:AS)(wv:V):Prop:=∃gv rv zs ys us,AskAt K CA CB H a ad s wv gv rv zs ys us
def BookAt.tk (h:BookAt C H p d L es)(hp:∀o,H p=some o->H' p=some o)(hd:∀o,H d=some o->H' d=some o):BookAt C H' p d L es:=by
 obtain⟨⟨dx,a⟩,b,c⟩:=h;exact⟨⟨dx,hp _ a⟩,hd _ b,c⟩
noncomputable def Frm (H H':Hp)(a:Addr)(ad:AD):Prop:=(∀x o,H x=some o->x≠a->x≠ad.d->x≠ad.pw->x≠ad.pe->x≠ad.pg->H' x=some o)/\∀x,H' x=none->H x=none
noncomputable def AdOk (H:Hp)(ad aF:AD):Prop:=aF.dx=ad.dx/\aF.b=ad.b/\aF.d=ad.d/\aF.pw=ad.pw/\aF.pe=ad.pe/\(aF.pg=ad.pg\/H aF.pg=none)
def AdOk.refl (H:Hp)(ad:AD):AdOk H ad ad:=⟨rfl,rfl,rfl,rfl,rfl,.inl rfl⟩
def Frm.of (s:Same H H')(a:Addr)(ad:AD):Frm H H' a ad:=⟨fun x o h _ _ _ _ _=>s _ _ h,fun x h=>s.none h⟩
def Frm.trans {H H1 H2:Hp} {ad aX:AD}(f:Frm H H1 a ad)(k:AdOk H ad aX)(g:Frm H1 H2 a aX):Frm H H2 a ad:=by
 obtain⟨k1,k2,k3,k4,k5,k6⟩:=k;refine⟨fun x o h n1 n2 n3 n4 n5=>g.1 x o (f.1 x o h n1 n2 n3 n4 n5) n1 (by rw[k3];exact n2) (by rw[k4];exact n3) (by rw[k5];exact n4) (fun z=>?_),fun x h=>f.2 x (g.2 x h)⟩;rcases k6 with k6|k6
 ·exact n5 (z.trans k6)
 ·rw[z,k6]at h;cases h
def AdOk.trans {H H1:Hp} {ad aX aS:AD}(f:Frm H H1 a ad)(k:AdOk H ad aX)(g:AdOk H1 aX aS):AdOk H ad aS:=by
 obtain⟨k1,k2,k3,k4,k5,k6⟩:=k;obtain⟨g1,g2,g3,g4,g5,g6⟩:=g;refine⟨g1.trans k1,g2.trans k2,g3.trans k3,g4.trans k4,g5.trans k5,?_⟩;rcases g6 with g6|g6
 ·rw[g6];exact k6
 ·exact .inr (f.2 _ g6)
section
variable {K:α3} {CA CB:Addr} {H H':Hp} {a:Addr} {ad:AD} {s:AS} {wv gv rv:V} {zs ys us:List V}
def AskAt.tk (x:AskAt K CA CB H a ad s wv gv rv zs ys us)(f:Frm H H' a ad):TK H H':=fun t ts h=>f.1 t _ h (fun z=>by rw[z,x.ob]at h;cases h) (fun z=>by rw[z,x.bk.dc]at h;cases h) (fun z=>by rw[z,x.w]at h;cases h) (fun z=>by rw[z,x.e]at h;cases h) (fun z=>by rw[z,x.g]at h;cases h)
def AskAt.same (x:AskAt K CA CB H a ad s wv gv rv zs ys us)(k:Same H H'):AskAt K CA CB H' a ad s wv gv rv zs ys us:=
 ⟨k _ _ x.ob,x.bk.mono k,k _ _ x.w,x.wW.mono (TK.of k),k _ _ x.e,x.eW.mono (TK.of k),k _ _ x.g,x.gW.mono (TK.of k),x.we,x.wg,x.eg,x.gv.mono (TK.of k),x.rv.mono (TK.of k)⟩
def AskAt.tkob (x:AskAt K CA CB H a ad s wv gv rv zs ys us)(o:HO):TK H (upd H a o):=fun t ts h=>by rw[Ah (fun z=>by rw[z,x.ob]at h;cases h)];exact h
def AskAt.na (x:AskAt K CA CB H a ad s wv gv rv zs ys us):ad.pw≠a/\ad.pe≠a/\ad.pg≠a/\ad.d≠a/\ad.b≠ad.d/\ad.pw≠ad.d/\ad.pe≠ad.d/\ad.pg≠ad.d/\ad.b≠ad.pw/\ad.b≠ad.pe/\ad.b≠ad.pg:=by
 obtain⟨dx,hb⟩:=x.bk.ob;refine⟨fun z=>?_,fun z=>?_,fun z=>?_,fun z=>?_,fun z=>?_,fun z=>?_,fun z=>?_,fun z=>?_,fun z=>?_,fun z=>?_,fun z=>?_⟩
 ·have:=x.w;rw[z,x.ob]at this;cases this
 ·have:=x.e;rw[z,x.ob]at this;cases this
 ·have:=x.g;rw[z,x.ob]at this;cases this
 ·have:=x.bk.dc;rw[z,x.ob]at this;cases this
 ·rw[z,x.bk.dc]at hb;cases hb
 ·have:=x.w;rw[z,x.bk.dc]at this;cases this
 ·have:=x.e;rw[z,x.bk.dc]at this;cases this
 ·have:=x.g;rw[z,x.bk.dc]at this;cases this
 ·rw[z,x.w]at hb;cases hb
 ·rw[z,x.e]at hb;cases hb
 ·rw[z,x.g]at hb;cases hb
def AskAt.nb (x:AskAt K CA CB H a ad s wv gv rv zs ys us):ad.b≠a:=fun z=>by
 obtain⟨dx,hb⟩:=x.bk.ob;rw[z,x.ob]at hb;injection hb with hb;injection hb with _ _ hb;have h1:=qn_ (fun l=>oH ("wish" : Str) l) hb;rw[Hr,CC _ _ (by decide +kernel) (by decide +kernel)]at h1;cases h1
def AskAt.put (x:AskAt K CA CB H a ad s wv gv rv zs ys us) (hL:s'.L=s.L)(hm:s'.most=s.most)(hW:s'.W=s.W)(hE:s'.E=s.E)(hG:s'.G=s.G)(dR:s'.es=s.es)(g':GV K H s'.L gv' s'.gs)(r':RV H rv' s'.wr):AskAt K CA CB (upd H a (.ins CA ad.dx (afl wv' s.L s.most ad.b ad.pw ad.pe ad.pg gv' rv'))) a ad s' wv' gv' rv' zs ys us:=by
 obtain⟨n1,n2,n3,n4,n5,n6,n7,n8,n9,jC,jD⟩:=x.na;have tk:=x.tkob (.ins CA ad.dx (afl wv' s.L s.most ad.b ad.pw ad.pe ad.pg gv' rv'));exact⟨by rw[Ab,hL,hm],by rw[hL,dR];exact BookAt.tk x.bk (fun o h=>by rw[Ah x.nb];exact h) (fun o h=>by rw[Ah n4];exact h),by rw[Ah n1];exact x.w,by rw[hW];exact x.wW.mono tk,by rw[Ah n2];exact x.e,by rw[hE];exact x.eW.mono tk,by rw[Ah n3];exact x.g,by rw[hG];exact x.gW.mono tk,x.we,x.wg,x.eg,g'.mono tk,r'.mono tk⟩
def AskAt.putF (x:AskAt K CA CB H a ad s wv gv rv zs ys us)(o:HO):Frm H (upd H a o) a ad:=⟨fun y o' h n _ _ _ _=>by rw[Ah n];exact h,fun y h=>by
 by_cases z:y=a
 ·rw[z,Ab]at h;cases h
 ·rwa [Ah z]at h⟩
end
inductive Goes:AS->AS->Wish->Prop where
 | stop {s s':AS} {x:Wish}:Br s=(s',some x)->Goes s s' x
 | more {s s1 s':AS} {x:Wish}:Br s=(s1,none)->Goes s1 s' x->Goes s s' x
def Goes.ok {B:Nat} (g:Goes s s' x)(o:OkX none B s):WOk B s' x/\Kept s s':=by
 induction g with
 |stop h=>exact (Ji o).2 _ _ h
 |more h _ ih=>
  obtain⟨o1,k1,_⟩:=(Ji o).1 _ h;obtain⟨o2,k2⟩:=ih o1;exact⟨o2,⟨k2.l.trans k1.l,k2.m.trans k1.m,k2.e.trans k1.e⟩⟩
structure Sz (s:AS):Prop where
 l6:s.L<=6
 w:s.W.length<=13/\∀v∈s.W,v.length<=50
 e:s.E.length<=14/\∀v∈s.E,v.length<=500
 b:∀p∈s.es,p.1.length<=600
def L7 (ys:α2)(m:Nat):cutV (ys.map V.int) (some (m:Int)) none=(ys.drop m).map V.int:=by
 rw[Ud];unfold cutI;rw[HT.sIx_nat,HT.sIx_none]
 congr 1
 by_cases h:m<=ys.length
 ·rw[qM h,qp_ (by rw[qR_];lia)]
 ·rw[Nat.min_eq_right s!"",qG,List.drop_of_length_le s!"",List.take_nil]
def SY (ws:α1)(v:α2) (hi:i<=v.length):((Jx ws v).map V.int)[i]?=some (V.int (Al ws (v.take i))):=by
 unfold Jx;rw[jj_,jj_,xn_ s!""];rfl
def Frm.seq {H H1 H2:Hp} {ad:AD}(f:Frm H H1 a ad)(g:Frm H1 H2 a ad):Frm H H2 a ad:=f.trans (AdOk.refl H ad) g
noncomputable def Bd (B:Nat)(s:AS):Prop:=B+(s.most+1)*(s.most+1)+s.most<=500
def OkX.sz {B:Nat} (o:OkX y B s)(h:Bd B s):Sz s:=by
 have tb:=o.tb;have h1:=tb.wn;have h2:=tb.m12;have h3:=tb.en;have h4:=o.lens;unfold Bd at h;refine⟨tb.l6,⟨by lia,fun v hv=>by have:=(tb.wW v hv).2;lia⟩,⟨by lia,fun v hv=>by have:=o.le v hv;lia⟩,fun p hp=>?_⟩;have:=o.lb p hp;split at this<;>lia
def Jl (wv:V)(L most:Int)(b pw pe pg:Addr)(gv rv:V):(afl wv L most b pw pe pg gv rv).length<1000:=by unfold afl;simp
section
variable {K:α3} {CA CB:Addr} {H H':Hp} {a:Addr} {ad:AD} {s:AS} {wv gv rv:V} {zs ys us:List V}
def AskAt.putW (x:AskAt K CA CB H a ad s wv gv rv zs ys us) (h:Az K H ku W'):AskAt K CA CB (upd H ad.pw (.lst ku)) a ad {s with W:=W' } wv gv rv ku ys us:=by
 obtain⟨n1,n2,n3,n4,n5,n6,n7,n8,n9,jC,jD⟩:=x.na;have tk:=TK.lst x.w (o:=.lst ku);exact⟨by rw[Ah (qm_ n1)];exact x.ob,BookAt.tk x.bk (fun o h=>by rw[Ah n9];exact h) (fun o h=>by rw[Ah (qm_ n6)];exact h),Ab,h.mono tk,by rw[Ah (qm_ x.we)];exact x.e,x.eW.mono tk,by rw[Ah (qm_ x.wg)];exact x.g,x.gW.mono tk,x.we,x.wg,x.eg,x.gv.mono tk,x.rv.mono tk⟩
def AskAt.putE (x:AskAt K CA CB H a ad s wv gv rv zs ys us) (h:Az K H nh E'):AskAt K CA CB (upd H ad.pe (.lst nh)) a ad {s with E:=E' } wv gv rv zs nh us:=by
 obtain⟨n1,n2,n3,n4,n5,n6,n7,n8,n9,jC,jD⟩:=x.na;have tk:=TK.lst x.e (o:=.lst nh);exact⟨by rw[Ah (qm_ n2)];exact x.ob,BookAt.tk x.bk (fun o h=>by rw[Ah jC];exact h) (fun o h=>by rw[Ah (qm_ n7)];exact h),by rw[Ah x.we];exact x.w,x.wW.mono tk,Ab,h.mono tk,by rw[Ah (qm_ x.eg)];exact x.g,x.gW.mono tk,x.we,x.wg,x.eg,x.gv.mono tk,x.rv.mono tk⟩
def AskAt.putG (x:AskAt K CA CB H a ad s wv gv rv zs ys us) (h:Az K H ni G'):AskAt K CA CB (upd H ad.pg (.lst ni)) a ad {s with G:=G' } wv gv rv zs ys ni:=by
 obtain⟨n1,n2,n3,n4,n5,n6,n7,n8,n9,jC,jD⟩:=x.na;have tk:=TK.lst x.g (o:=.lst ni);exact⟨by rw[Ah (qm_ n3)];exact x.ob,BookAt.tk x.bk (fun o h=>by rw[Ah jD];exact h) (fun o h=>by rw[Ah (qm_ n8)];exact h),by rw[Ah x.wg];exact x.w,x.wW.mono tk,by rw[Ah x.eg];exact x.e,x.eW.mono tk,Ab,h.mono tk,x.we,x.wg,x.eg,x.gv.mono tk,x.rv.mono tk⟩
def Frm.put (h:q=ad.pw\/q=ad.pe\/q=ad.pg\/q=ad.d)(hq:∃o,H q=some o):Frm H (upd H q o) a ad:=by
 refine⟨fun y o' hy n1 n2 n3 n4 n5=>?_,fun y hy=>?_⟩
 ·rw[Ah (fun z=>by rcases h with h|h|h|h<;>subst h<;>contradiction)];exact hy
 ·by_cases z:y=q
  ·rw[z,Ab]at hy;cases hy
  ·rwa [Ah z]at hy
end
def YW {i n:Nat}(h:i<n):seqIndex? (i:Int) n=some i:=by
 unfold seqIndex?;simp[show ¬ (i:Int)<0 by lia,h]
def Az.tail39 {K:α3} (h:Az K H us (c::r)):Az K H (us.eraseIdx 0) r:=by
 cases us with
 |nil=>have:=h.1;cases this
 |cons u us=>
  refine⟨?_,fun i w hi=>?_⟩
  ·have:=h.1;simpa using this
  ·exact h.2 (i+1) w (by simpa using hi)
def QU (h:mkO es b=none)(hb:b≠c):mkO (es++[(c,m)]) b=none:=by
 refine Ig fun z=>?_;rw[jz_]at z;rcases jx_.mp z with z|z
 ·obtain⟨n,hn⟩:=OZ.mp z;rw[h]at hn;cases hn
 ·exact hb (jd_.mp z)
def OkX.told {B:Nat} (o:OkX y B s) (hy:∀b,y=some b->b=c)(hn:c∉s.es.map (·.1))(hc:isW s.L c=true)(h0:0<=m)(h9:m<=1000000000)(hl:c.length<=B+(s.most+1)*s.E.length+(if s.wr.isSome then s.most else 0))(hg:c∉s.G):OkX none B {s with es:=s.es++[(c,m)]}:=by
 have gr:=Grow.snoc s.es c m;refine⟨o.tb.put hn hc h0 h9,fun b hb=>?_,o.gn,fun b hb=>?_,o.le,fun p hp=>?_,fun v hv=>?_⟩
 ·rcases o.cov b hb with ⟨z,hz⟩|z|z
  ·exact .inl ⟨z,gr _ _ hz⟩
  ·exact .inr (.inl z)
  ·have:=hy b z;subst this;exact .inl ⟨m,DI (o.tb.put hn hc h0 h9).nd (by simp)⟩
 ·obtain⟨h1,h2,h3⟩:=o.gW b hb;exact⟨h1,QU h2 (fun z=>hg (z ▸ hb)),h3⟩
 ·rcases jx_.mp hp with hp|hp
  ·exact o.lb p hp
  ·rw[jd_.mp hp];exact hl
 ·obtain⟨h1,h2,h3,h4,mm,ws,t,h5,h6,h7,h8⟩:=o.wr v hv;exact⟨h1,h2,h3,h4,mm,ws,t,h5,h6.mono gr,gr _ _ h7,h8⟩
section
variable {K:α3} {CA CB:Addr} {H H':Hp} {a:Addr} {ad:AD} {s:AS} {wv gv rv:V} {zs ys us:List V}
def AskAt.putB (x:AskAt K CA CB H a ad s wv gv rv zs ys us) (hb:BookAt CB H' ad.b ad.d s.L cR)(hf:∀b o,H b=some o->b≠ad.d->H' b=some o):AskAt K CA CB H' a ad {s with es:=cR } wv gv rv zs ys us/\Frm H H' a ad/\TK H H':=by
 obtain⟨n1,n2,n3,n4,n5,n6,n7,n8,n9,jC,jD⟩:=x.na;have tk:TK H H':=fun t ts h=>hf t _ h (fun z=>by rw[z,x.bk.dc]at h;cases h);refine⟨⟨hf _ _ x.ob (qm_ n4),hb,hf _ _ x.w n6,x.wW.mono tk,hf _ _ x.e n7,x.eW.mono tk,hf _ _ x.g n8,x.gW.mono tk,x.we,x.wg,x.eg,x.gv.mono tk,x.rv.mono tk⟩,⟨fun y o h _ n _ _ _=>hf _ _ h n,fun y h=>?_⟩,tk⟩;cases hy:H y with
 |none=>rfl
 |some o=>
  by_cases z:y=ad.d
  ·rw[z,hb.dc]at h;cases h
  ·rw[hf _ _ hy z]at h;cases h
end
noncomputable def s039 (L most:Nat):AS:={L:=L,most:=most,W:=[[]],E:=[[]],G:=EW L [[]] [[]] [],gs:=none,wr:=none,es:=[]}
def O2 (B:Nat)(l1:1<=L)(l6:L<=6)(m1:1<=most)(m12:most<=12):OkX none B (s039 L most):=by
 have hw:∀v ∈ [([]:α2)],isW (L:Int) v=true/\v.length < [([]:α2)].length:=fun v hv=>by
  rw[jd_.mp hv];exact⟨Am.mpr fun x hx=>(by cases hx),by simp⟩
 have hE:∀e ∈ [([]:α2)],isW (L:Int) e=true/\e.length+(most+1)<=B+(most+1) * [([]:α2)].length:=fun v hv=>by
  rw[jd_.mp hv];exact⟨Am.mpr fun x hx=>(by cases hx),by simp⟩
 obtain⟨c1,c2,c3⟩:=O0 (B:=B) (s:=s039 L most) (W:=[[]]) (E:=[[]]) hw (by show 1<=most;lia) hE;refine⟨⟨l1,l6,m12,rfl,hw,by show 1<=most;lia,rfl,fun e he=>(hE e he).1,xs_,fun p hp=>(by cases hp),fun i j v u h1 h2 h3=>?_,.inl (jh_ _)⟩,c1,c2,c3,fun e he=>(hE e he).2,fun p hp=>(by cases hp),fun v hv=>(by cases hv)⟩;have h1:=(ja_.mp h1).1;have h2:=(ja_.mp h2).1;have h1:i<1:=h1;have h2:j<1:=h2;lia
def Qd (f:Str)(v:V):∀fs:List (Str×V),(putF f v fs).length<=fs.length+1
 |[]=>by simp[putF]
 | (g,x)::r=>by
  unfold putF;split
  ·simp
  ·have:=Qd f v r;rw[jD_,jD_];lia
def S0 (hW:W.length<=100)(hL:L<=6)(hE:E.length<=100):(De (AK L W) E).length<=100000:=by
 unfold De;have h1:=AX ((AK L W).flatMap fun r=>E.map (r ++ ·)) [];have h2:((AK L W).flatMap fun r=>E.map (r ++ ·)).length=(AK L W).length*E.length:=by
  rw[xp_];generalize AK L W=l
  induction l with
  |nil=>simp
  |cons a l ih=>rw[jJ_,zl_,ih,jb_,jD_,zw_];lia
 have h3:=N4 L W;have h4:W.length*L<=100*6:=j3_ hW hL;have h5:(AK L W).length*E.length<=700*100:=j3_ s!"" hE;rw[h2,xe_]at h1;lia
noncomputable def UP (CA:Addr):Sp:=fun vs H Q _=>∃(a dx:Addr) (fs:List (Str×V)),vs=[.ref a]/\H a=some (.ins CA dx fs)/\fs.length<1000/\Q .non (upd H a (.ins CA dx (putF "wish" .non fs)))
def Ik:⋯ EE.j28 1 ["self"] (UP ao):=by
 delta EE.j28 MT
 ·obtain⟨a,dx,fs,rfl,_⟩:=h;rfl
 ·obtain⟨a,dx,fs,rfl,ha,hz,k⟩:=h;refine⟨_,(Ae (Co (pvD 0) BL rfl)),?_⟩;nofun;exact⟨_,_,_,ha,EE.cl_j0,EE.n_Asker_wish,hz,k⟩
noncomputable def UQ (CA:Addr):Sp:=fun vs H Q _=>∃(a dx b pw pe:Addr) (L most:Int),vs=[.ref a,.int L,.int most,.ref b,.ref pw,.ref pe]/\H a=some (.ins CA dx [])/\∀(pg:Addr) (H':Hp),H pg=none->H' a=some (.ins CA dx (afl .non L most b pw pe pg .non .non))->H' pg=some (.lst [])->(∀x o,H x=some o->x≠a->H' x=some o)->(∀x,H' x=none->H x=none)->Q .non H'
def JD:⋯ EE.j29 3 ["self","letters","most","book","ways","ends"] (UQ ao):=by
 delta EE.j29 NX
 ·obtain⟨a,dx,b,pw,pe,L,most,rfl,_⟩:=h;rfl
 ·obtain⟨a,dx,b,pw,pe,L,most,rfl,ha,k⟩:=h;have hl:=Ak;refine⟨_,(Ac (Ay (YJ rfl EE.m_ja EE.j28.m (Ik EE).g hr.d (Ik EE).b .nil AB (Aa (pvD 0) Ad)))
   (Ac (Co (pvD 0) (pvD 1) rfl)
   (Ac (Co (pvD 0) (pvD 2) rfl)
   (Ac (Co (pvD 0) (pvD 3) rfl)
   (Ac (Co (pvD 0) (pvD 4) rfl)
   (Ac (Co (pvD 0) (pvD 5) rfl)
   (Ac (Co (pvD 0) (A7 Ad) rfl)
   (Ac (Co (pvD 0) BL rfl)
   (Ae (Co (pvD 0) BL rfl)))))))))),?_⟩
  nofun;have pl:∀(f:Str) (v:V) (fs:List (Str×V)) (n:Nat),fs.length<n->(putF f v fs).length<n+1:=fun f v fs n h=>by have:=Qd f v fs;lia
  have z1:=pl "wish" .non [] 1 (by simp);have z2:=pl "letters" (.int L) _ _ z1;have z3:=pl "most" (.int most) _ _ z2;have z4:=pl "book" (.ref b) _ _ z3;have z5:=pl "ways" (.ref pw) _ _ z4;have z6:=pl "ends" (.ref pe) _ _ z5;refine⟨a,dx,[],rfl,ha,by simp,_,_,_,Ab,EE.cl_j0,EE.n_Asker_letters,by lia,_,_,_,Ab,EE.cl_j0,EE.n_Asker_most,by lia,_,_,_,Ab,EE.cl_j0,EE.n_Asker_book,by lia,_,_,_,Ab,EE.cl_j0,EE.n_Asker_ways,by lia,_,_,_,Ab,EE.cl_j0,EE.n_Asker_ends,by lia,by lia,fun pg fO=>?_⟩;have nj:pg≠a:=fun z=>by rw[z,Ab]at fO;cases fO
  have z7:=pl "gaps" (.ref pg) _ _ z6;have z8:=pl "guess" .non _ _ z7;refine⟨_,_,_,by rw[Ah (qm_ nj)];exact Ab,EE.cl_j0,EE.n_Asker_gaps,by lia,_,_,_,Ab,EE.cl_j0,EE.n_Asker_guess,by lia,_,_,_,Ab,EE.cl_j0,EE.n_Asker_wrong,by lia,?_⟩;have dS:H pg=none:=by
   simp only[Ah nj]at fO;exact fO
  refine k pg _ dS (by rw[Ab,UO]) (by simp only[Ah nj];exact Ab) (fun y o hy iG=>?_) (fun y hy=>?_)
  ·have lR:y≠pg:=fun z=>by rw[z,dS]at hy;cases hy
   simp only[Ah iG,Ah lR];exact hy
  ·by_cases iG:y=a
   ·rw[iG,Ab]at hy;cases hy
   ·by_cases lR:y=pg
    ·rw[lR];exact dS
    ·simp only[Ah iG,Ah lR]at hy;exact hy
noncomputable def UR (K:α3)(CA CB:Addr):Sp:=fun vs H Q _=>∃(a:Addr) (ad:AD) (s:AS) (wv:V),vs=[.ref a]/\Asks K CA CB H a ad s wv/\Q wv H
def AV:⋯ EE.j32 1 ["self"] (UR K ao ar):=by
 delta EE.j32 LD
 ·obtain⟨a,ad,s,wv,rfl,_⟩:=h;rfl
 ·obtain⟨a,ad,s,wv,rfl,⟨gv,rv,zs,ys,us,x⟩,k⟩:=h;refine⟨_,(Ae (Ap (AI (pvD 0) rfl))),?_⟩;nofun;exact⟨_,_,_,x.ob,EE.cl_j0,EE.n_Asker_wish,_,Hr ..,k⟩
noncomputable def S1 (K:α3)(CA CB OT:Addr):Sp:=fun vs H Q E=>∃(a:Addr) (ad:AD) (s:AS) (wv:V) (x:Wish) (d:Str),vs=[.ref a,.str d]/\Asks K CA CB H a ad s wv/\Bj K H s.L wv x/\(x.tag=d->Q .non H)/\(x.tag≠d->E (.ref OT) none H)
def AO:CalH P w mg base (CXe P w) EE.j48 1 ["self","deed"] (S1 K ao ar bh):=by
 refine HG.okE EE.j48 Gn (fun vs H Q E h=>?_) (fun au A outer s H vs Q E hr h=>?_)
 ·obtain⟨a,ad,s,wv,x,d,rfl,_⟩:=h;rfl
 ·obtain⟨a,ad,s,wv,x,d,rfl,⟨gv,rv,zs,ys,us,A'⟩,hw,k,kE⟩:=h;have hl:=Ak;refine⟨_,(Ae (AY (ptT (Au (opN G8) (Ai (ixTD An) (AI (pvD 0) rfl) Ag) (pvD 1) (AG _)))
   (Ae (BO EE.m_j4 EE.x_j4 rfl rfl (Aa As Ad)))
   Aw)),?_⟩
  nofun;obtain⟨t,u,rfl,ht,_⟩:=hw;refine⟨_,_,_,A'.ob,EE.cl_j0,EE.n_Asker_wish,_,Hr ..,t,rfl,_,SqT.of ht,V.str x.tag,rfl,rfl,?_⟩;by_cases hd:x.tag=d
  ·rw[if_neg (by simp[hd])];exact k hd
  ·rw[if_pos (by simp[hd])];exact⟨by lia,kE hd⟩
noncomputable def S7 (K:α3)(CA CB:Addr):Sp:=fun vs H Q _=>∃(a l:Addr) (ad:AD) (s:AS) (wv:V) (ts:List V) (ws:α1),vs=[.ref a,.ref l]/\Asks K CA CB H a ad s wv/\SqL K H l ts/\Az K H ts ws/\ws.Nodup/\ws.length<=100000/\∀aF H',Asks K CA CB H' a aF {s with G:=ws.filter fun c=>(mkO s.es c).isNone} wv->Frm H H' a ad->AdOk H ad aF->Q .non H'
def FE:⋯ EE.j6 2 ["self","words"] (S7 K ao ar):=by
 delta EE.j6 Df
 ·obtain⟨a,l,ad,s,wv,ts,ws,rfl,_⟩:=h;rfl
 ·obtain⟨a,l,ad,s,wv,ts,ws,rfl,⟨gv,rv,zs,ys,us,x⟩,bV,hW,nd,hz,k⟩:=h;have hl:=Ak;refine⟨_,(Ac (C7 (i:=2) Df.nd rfl (ou rfl) Ga)
   (Ac (Bh jG_ rfl (Bc (pvD 1)) (Ar (i:=3) Df.nd rfl (ou rfl))
   (Ae (AY (ptT (Au Kr (A9 (AI (pvD 0) rfl) EE.cl_j1 EE.j4.m (Bi EE).g hr.d (Bi EE).b .nil AB (Aa (pvD 3) Ad)) BL (AG _)))
   (Ae (Em (CZ hr) (pvD 2) (pvD 3) Mp rfl))
   Aw)))
   (Ae (Co (pvD 0) (Av (Dd rfl) rfl EE.list qH_ (Aa (pvD 2) Ad)) rfl)))),?_⟩
  nofun;intro p hp;have sp:=Same.new (o:=.dT []) hp;obtain⟨iH,hb⟩:=x.bk.ob;obtain⟨Pv,aw⟩:∃Pv:Nat->St->Hp->Prop,∀i aj H',Pv i aj H'↔(∃(kvs:List (List Key×V)) (o:Option V),Same H H'/\H' p=some (.dT kvs)/\CM ((ws.take i).filter fun c=>(mkO s.es c).isNone) kvs/\aj=[some (.ref a),some (.ref l),some (.ref p),o]):=⟨_,fun _ _ _=>ql_⟩;refine⟨⟨_,sp.seq bV⟩,forL (xs:=ts) Pv ((aw _ _ _).mpr ⟨[],none,sp,Ab,by rw[xt_];exact CM.nil,rfl⟩) (fun i aj H' _ h'=>by obtain⟨_,_,s',_⟩:=(aw _ _ _).mp h';exact s'.seq bV) (fun i y aj H' hy h'=>?_) (fun aj H' h'=>?_)⟩
  ·obtain⟨kvs,o,s',hd,hk,rfl⟩:=(aw _ _ _).mp h';obtain⟨t,c,jw,rfl,ht⟩:=hW.at hy;have bu:i<ws.length:=(ja_.mp jw).1;have av:kvs.length<=100000:=by
    rw[hk.len];have h1:=pP (fun c=>(mkO s.es c).isNone) (ws.take i);rw[jI_]at h1;lia
   have eP:=s' _ _ ht;have hnot:c∉ws.take i:=fun z=>by
    obtain⟨j,hj⟩:=jK_.mp z;rw[xD_]at hj;split at hj
    ·rename_i dN
     have h1:=ja_.mp hj;have h2:=ja_.mp jw;have:=(xQ_.mp (xM_.mp nd)) j i h1.1 h2.1 dN;exact this (h1.2.trans h2.2.symm)
    ·cases hj
   have etk:(ws.take (i+1)).filter (fun c=>(mkO s.es c).isNone)=(ws.take i).filter (fun c=>(mkO s.es c).isNone)++(if (mkO s.es c).isNone then [c] else []):=by
    rw[jA_,jw,List.filter_append]
    congr 1
    show List.filter _ [c]=_;rw[xR_];rfl
   nofun;refine⟨_,_,_,s' _ _ x.ob,EE.cl_j0,EE.n_Asker_book,_,FD ..,ad.b,rfl,_,_,s' _ _ hb,CC _ _ (by decide +kernel) (by decide +kernel),ad.b,ad.d,t,_,c,s.es,rfl,x.bk.mono s',eP,fun hn=>?_,fun m hm=>?_⟩
   ·dsimp only;rw[if_pos rfl];have bc:(mkO s.es c).isNone=true:=by rw[Ig hn];rfl
    refine⟨_,DPut.t (k:=wkey c) hd (by rw[BI];exact eP) s!"",(aw _ _ _).mpr ⟨_,_,s'.over hp,Ab,?_,rfl⟩⟩;rw[etk,if_pos bc];have:=hk.put c (.bl true);unfold ins at this;rw[if_neg (fun z=>hnot (qA_.mp z).1)]at this;exact this
   ·dsimp only;rw[if_neg (by simp)];have hso:(mkO s.es c).isNone=false:=by rw[DI x.bk.nd hm];rfl
    refine (aw _ _ _).mpr ⟨kvs,_,s',hd,?_,rfl⟩;rw[etk,hso];simpa using hk
  ·obtain⟨kvs,o,s',hd,hk,rfl⟩:=(aw _ _ _).mp h';rw[hW.1,jE_]at hk;nofun;refine⟨kvs,.inl hd,fun q rs hq bG dO=>?_⟩;have x1:=x.same (s'.newT hq (o:=.lst rs));have uq:upd H' q (.lst rs) q=some (.lst rs):=Ab;have br:=(hk.words (K:=K) bG dO).mono (TK.new hq (o:=.lst rs));have s1:=s'.newT hq (o:=.lst rs);have iC:H q=none:=s'.none hq;generalize upd H' q (.lst rs)=H1 at x1 uq br s1 ⊢;obtain⟨n1,n2,n3,n4,n5,n6,n7,n8,n9,jC,jD⟩:=x1.na;have hqa:q≠a:=fun z=>by rw[z,x1.ob]at uq;cases uq
   refine⟨_,_,_,x1.ob,EE.cl_j0,EE.n_Asker_gaps,by unfold afl;simp,?_⟩;rw[UN];refine k {ad with pg:=q} _ ⟨gv,rv,zs,ys,rs,?_⟩ ⟨fun y o hy m1 m2 m3 m4 m5=>by rw[Ah m1];exact s1 _ _ hy,fun y hy=>?_⟩ ⟨rfl,rfl,rfl,rfl,rfl,.inr iC⟩
   ·have tk:=x1.tkob (.ins ao ad.dx (afl wv s.L s.most ad.b ad.pw ad.pe q gv rv));refine⟨Ab,BookAt.tk x1.bk (fun o h=>by rw[Ah x1.nb];exact h) (fun o h=>by rw[Ah n4];exact h),by rw[Ah n1];exact x1.w,x1.wW.mono tk,by rw[Ah n2];exact x1.e,x1.eW.mono tk,by rw[Ah hqa];exact uq,br.mono tk,x.we,fun z=>?_,fun z=>?_,x1.gv.mono tk,x1.rv.mono tk⟩
    ·rw[show q=ad.pw from z.symm,x.w]at iC;cases iC
    ·rw[show q=ad.pe from z.symm,x.e]at iC;cases iC
   ·by_cases iG:y=a
    ·rw[iG,Ab]at hy;cases hy
    ·rw[Ah iG]at hy;exact s1.none hy
noncomputable def US (K:α3)(CA CB:Addr):Sp:=fun vs H Q _=>∃(a:Addr) (ad:AD) (s:AS) (wv:V),vs=[.ref a]/\Asks K CA CB H a ad s wv/\Sz s/\∀aF H',Asks K CA CB H' a aF {s with G:=EW s.L s.W s.E s.es} wv->Frm H H' a ad->AdOk H ad aF->Q .non H'
def AJ:⋯ EE.j9 3 ["self"] (US K ao ar):=by
 delta EE.j9 E5
 ·obtain⟨a,ad,s,wv,rfl,_⟩:=h;rfl
 ·obtain⟨a,ad,s,wv,rfl,⟨gv,rv,zs,ys,us,x⟩,sz,k⟩:=h;have hl:=Ak;refine⟨_,(Ae (Ay (A9 (pvD 0) EE.cl_j0 EE.j6.m (FE EE).g hr.d (FE EE).b .nil AB (Aa (Aj (UH EE) hr.d AB (Aa (AI (pvD 0) rfl) (Aa (AI (pvD 0) rfl) (Aa (AI (pvD 0) rfl) Ad)))) Ad)))),?_⟩;nofun;have w1:=sz.w.1;have e1:=sz.e.1;refine⟨_,_,x.ob,by kernel_rfl,_,_,_,x.ob,EE.cl_j0,EE.n_Asker_letters,_,Jj ..,_,_,_,x.ob,EE.cl_j0,EE.n_Asker_ways,_,Jk ..,_,_,_,x.ob,EE.cl_j0,EE.n_Asker_ends,_,Lb ..,s.L,ad.pw,ad.pe,zs,ys,s.W,s.E,rfl,sz.l6,SqL.of x.w,x.wW,by lia,fun v hv=>by have:=sz.w.2 v hv;lia,SqL.of x.e,x.eW,by lia,sz.e.2,fun l rs H1 s1 cM dh hw=>?_⟩;have bo:(De (AK s.L s.W) s.E).length<=100000:=S0 s!"" sz.l6 s!"";exact⟨a,l,ad,s,wv,rs,_,rfl,⟨_,_,_,_,_,x.same s1⟩,SqL.of dh,hw,La _ _,bo,fun aF H2 x2 f2 k2=>k aF H2 x2 ((Frm.of s1 a ad).trans (AdOk.refl H ad) f2) (AdOk.trans (Frm.of s1 a ad) (AdOk.refl H ad) k2)⟩
noncomputable def UT (K:α3):Sp:=fun vs H Q _=>∃(a:Addr) (L:Int),vs=[.ref a,.int L]/\∀l t H',Same H H'->H l=none->H' l=some (.lst [.ref t])->H' t=some (.tup [])->Q (.ref l) H'
def Dp:⋯ EE.j30 1 ["self","letters"] (UT K):=by
 delta EE.j30 Hg
 ·obtain⟨a,L,rfl,_⟩:=h;rfl
 ·obtain⟨a,L,rfl,k⟩:=h;have hl:=Ak;refine⟨_,(Ae (Ap (A7 (Aa (Bt Ad) Ad)))),?_⟩;nofun;refine⟨by lia,fun t ht=>⟨by lia,fun l bV=>?_⟩⟩;exact k l t _ ((Same.new ht).newT bV) ((Same.new ht).none bV) Ab (Same.new bV _ _ Ab)
noncomputable def O3 (K:α3):Sp:=fun vs H Q _=>∃(a h t:Addr) (L:Int) (m:α2) (ws:α1) (v:α2),vs=[.ref a,.ref h,.ref t]/\Cn K H h L m ws/\Wf L m ws/\SqT K H t (v.map V.int)/\v.length<=600/\isW L v=true/\∀H',Same H H'->Q (.int (Ax m (Al ws v))) H'
def Cd:⋯ EE.j12 6 ["self","house","word"] (O3 K):=by
 delta EE.j12 KR
 ·obtain⟨a,h,t,L,m,ws,v,rfl,_⟩:=h;rfl
 ·obtain⟨a,h,t,L,m,ws,v,rfl,hh,wf,ht,hz,hv,k⟩:=h;refine⟨_,(Ae (Ap (Aj (CG EE) hr.d (C9 (P:=P) (w:=w)) (Aa (pvD 1) (Aa (pvD 2) Ad))))),?_⟩;nofun;exact⟨h,t,L,m,ws,v,rfl,hh,wf,ht,hz,fun _ H' s'=>k H' s',fun z=>by rw[hv]at z;cases z⟩
noncomputable def YX (K:α3)(CA CB:Addr):Sp:=fun vs H Q _=>∃(a:Addr) (ad:AD) (s:AS) (wv:V),vs=[.ref a]/\Asks K CA CB H a ad s wv/\Sz s/\Tb s.L s.most s.W s.E s.es/\Full s.L s.W s.E s.es/\CH s.L s.W s.E s.es=none/\∀h H',Same H H'->HouT K H' h s.L (Bn s.W s.es) (CS s.L s.W s.E s.es)->Q (.ref h) H'
def Dq:⋯ EE.j18 5 ["self"] (YX K ao ar):=by
 delta EE.j18 Hd
 ·obtain⟨a,ad,s,wv,rfl,_⟩:=h;rfl
 ·obtain⟨a,ad,s,wv,rfl,⟨gv,rv,zs,ys,us,x⟩,sz,tb,fu,hs,k⟩:=h;refine⟨_,(Ae (Ap (Aj (OY EE) hr.d AB (Aa (AI (pvD 0) rfl) (Aa (AI (pvD 0) rfl) (Aa (AI (pvD 0) rfl) (Aa (AI (pvD 0) rfl) Ad))))))),?_⟩;nofun;have w1:=sz.w.1;have e1:=sz.e.1;obtain⟨np,cl⟩:=tb.none fu hs;have kq:([]:α2)∈s.E:=jc_ tb.e0;refine⟨_,_,_,x.ob,EE.cl_j0,EE.n_Asker_book,_,FD ..,_,_,_,x.ob,EE.cl_j0,EE.n_Asker_letters,_,Jj ..,_,_,_,x.ob,EE.cl_j0,EE.n_Asker_ways,_,Jk ..,_,_,_,x.ob,EE.cl_j0,EE.n_Asker_ends,_,Lb ..,ad.b,ad.d,ad.pw,ad.pe,s.L,s.L,s.es,zs,ys,s.W,s.E,gOf s.E s.es,fun v=>(mkO s.es v).getD 0,rfl,x.bk,sz.l6,SqL.of x.w,x.wW,by lia,fun v hv=>by have:=sz.w.2 v hv;lia,SqL.of x.e,x.eW,by lia,sz.e.2,fun v hv=>Wa fu hv,tb.nodup fu,cl,fun v hv=>?_,fun h tm tw ku H' s' h1 h2 h3 h4=>k h H' s' ⟨tm,tw,ku,h1,h2,h3,h4⟩⟩;obtain⟨m,hm⟩:=fu v (AN.mpr ⟨v,AF.mpr (.inl hv),[],kq,by simp⟩);show mkO s.es v=some ((mkO s.es v).getD 0);rw[hm];rfl
noncomputable def YY (K:α3)(CA CB:Addr):Sp:=fun vs H Q _=>∃(a:Addr) (ad:AD) (s:AS) (wv:V) (m:α2) (ws:α1),vs=[.ref a]/\Asks K CA CB H a ad s wv/\s.gs=some (m,ws)/\Wf s.L m ws/\(∀e∈s.es,isW s.L e.1=true/\e.1.length<=600)/\∀H',Same H H'->(Bg s.es m ws=none->Q .non H')/\∀v t,Bg s.es m ws=some v->H' t=some (.tup (v.map V.int))->Q (.ref t) H'
def Dr:⋯ EE.j22 8 ["self"] (YY K ao ar):=by
 delta EE.j22 He
 ·obtain⟨a,ad,s,wv,m,ws,rfl,_⟩:=h;rfl
 ·obtain⟨a,ad,s,wv,m,ws,rfl,⟨gv,rv,zs,ys,us,x⟩,hg,wf,hb,k⟩:=h;refine⟨_,(Ae (Ap (Aj (LN EE) hr.d AB (Aa (AI (pvD 0) rfl) (Aa (AI (pvD 0) rfl) Ad))))),?_⟩;nofun;have kx:=x.gv;rw[hg]at kx;obtain⟨h,rfl,hh⟩:=kx;refine⟨_,_,_,x.ob,EE.cl_j0,EE.n_Asker_book,_,FD ..,_,_,_,x.ob,EE.cl_j0,EE.n_Asker_guess,_,Km ..,ad.b,ad.d,h,s.L,m,ws,s.es,rfl,hh.house,wf,x.bk,hb,fun H' s'=>⟨fun bc=>(k H' s').1 ?_,fun i e t bc hi fh ht=>?_⟩⟩
  ·unfold Bg;rw[q0_,qd_];intro e he;have:=bc e he;unfold GF at this;rw[this];simp
  ·refine (k H' s').2 e.1 t ?_ ht
   ·unfold Bg;have bu:=(ja_.mp hi).1;have e':s.es=s.es.take i++(e::s.es.drop (i+1)):=by
     have h1:=(pQ (i+1) s.es).symm;rw[jA_,hi,qx_]at h1;exact h1
    rw[e',qy,qd_.mpr fun p hp=>?_,qM_]
    ·unfold GF at fh;rw[fh];rfl
    ·obtain⟨j,hj⟩:=jK_.mp hp;rw[xD_]at hj;split at hj
     ·rename_i dN
      have:=bc j dN p hj;unfold GF at this;rw[this];simp
     ·cases hj
noncomputable def S8 (K:α3)(CB:Addr):Sp:=fun vs H Q _=>∃(b d pw h t:Addr) (L:Nat) (es:Bk) (zs:List V) (W:α1) (m:α2) (ws:α1) (v:α2) (mk:Int),vs=[.ref b,.ref pw,.ref h,.ref t,.int mk,.int v.length]/\BookAt CB H b d L es/\H pw=some (.lst zs)/\Az K H zs W/\Cn K H h L m ws/\Wf L m ws/\H t=some (.tup (v.map V.int))/\isW L v=true/\0<v.length/\v.length<=600/\(∀u∈W,u.length<=50)/\(∀i,i<=v.length->∃k:Nat,Al ws (v.take i)=(k:Int)/\W[k]?=some (FC W ws v i))/\∀H',Same H H'->(∀c u t',Ec es W ws v mk v.length 0 v.length=.ask c->H' u=some (.tup (c.map V.int))->H' t'=some (.tup [.str "ask",.ref u])->Q (.ref t') H')/\(∀hi u t',Ec es W ws v mk v.length 0 v.length=.fin hi->H' u=some (.tup ((v.drop hi).map V.int))->H' t'=some (.tup [.str "end",.ref u])->Q (.ref t') H')
def Ta:⋯ EE.j5 4 ["book","access","guess","word","mark","last"] (S8 K ar):=by
 delta EE.j5 B5
 ·obtain⟨b,d,pw,h,t,L,es,zs,W',m,ws,v,mk,rfl,_⟩:=h;rfl
 ·obtain⟨b,d,pw,h,t,L,es,zs,W',m,ws,v,mk,rfl,bk,eQ,hW,hh,wf,ht,hv,iE,hz,cT,b8,k⟩:=h;have hl:=Ak;refine⟨_,(Ac (Ao (i:=6) B5.nd (Aj (Qb EE) hr.d (C9 (P:=P) (w:=w)) (Aa (pvD 2) (Aa (pvD 3) Ad))))
   (Ac (Ao (i:=7) B5.nd Ag)
   (Ac (Ao (i:=8) B5.nd (pvD 5))
   (Ac (F8 jG_ (ptT (Au (opD0 Wq) (AL (opD0 Pk) (pvD 8) (pvD 7)) Ag (AG _)))
   (Ac (Ao (i:=9) B5.nd (AL (opD Mq) (AL (opD0 DD) (pvD 7) (pvD 8)) Ag))
   (Ac (Ao (i:=10) B5.nd (AL HI (Ai (ixLD AZ) (pvD 1) (Ai (ixLD AZ) (pvD 6) (pvD 9))) (CW Ve (pvD 3) (DL (pvD 9)) E7)))
   (Ac (Ao (i:=11) B5.nd (A9 (pvD 0) EE.cl_j1 EE.j4.m (Bi EE).g hr.d (Bi EE).b .nil AB (Aa (pvD 10) Ad)))
   (Ac (AY (ptT (Au Kr (pvD 11) BL (AG _)))
   (Ae (Ap (Bt (Aa As (Aa (pvD 10) Ad)))))
   Aw)
   (Ae (AY (ptT (Au (opE IL) (pvD 11) (pvD 4) (AG _)))
   (Ae (Ao (i:=8) B5.nd (pvD 9)))
   (Ae (Ao (i:=7) B5.nd (pvD 9))))))))))
   (Ae (Ap (Bt (Aa As (Aa (CW Ve (pvD 3) (DL (pvD 8)) E7) Ad))))))))),?_⟩
  obtain⟨⟨iH,hb⟩,hd,nd⟩:=id bk;nofun;refine⟨h,t,L,m,ws,v,rfl,hh,wf,SqT.of ht,hz,fun _ p H1 s1 hpN hp=>?_,fun z=>by rw[hv]at z;cases z⟩;obtain⟨Pv,aw⟩:∃Pv:Nat->St->Hp->Prop,∀n aj H',Pv n aj H'↔(∃(lo hi:Nat) (f:Nat) (o1 o2 o3:Option V),Same H1 H'/\n=hi-lo/\hi-lo<=f+1/\lo<hi/\hi<=v.length/\Ec es W' ws v mk v.length 0 v.length=Ec es W' ws v mk f lo hi/\aj=[some (.ref b),some (.ref pw),some (.ref h),some (.ref t),some (.int mk),some (.int v.length),some (.ref p),some (.int lo),some (.int hi),o1,o2,o3]):=⟨_,fun _ _ _=>ql_⟩;refine LX Pv ⟨v.length,(aw _ _ _).mpr ⟨0,v.length,v.length,none,none,none,Same.refl _,by lia,by lia,by lia,by lia,rfl,rfl⟩⟩ fun n aj H' h'=>?_;obtain⟨lo,hi,f,o1,o2,o3,s',hn,hf,hlo,hhi,e,rfl⟩:=(aw _ _ _).mp h';nofun;by_cases hg:hi-lo > 1
  ·rw[if_pos s!""];refine⟨fun aq H2=>∃m',m'<n/\Pv m' aq H2,fun _ _ z=>z,?_⟩;have em:((lo:Int)+(hi:Int)) / 2=(((lo+hi) / 2:Nat):Int):=by lia
   simp only[em];have hmid:(lo+hi) / 2<=v.length:=by lia
   obtain⟨kk,k1,k2⟩:=b8 _ hmid;obtain⟨ta,a1,a2⟩:=(hW.mono (TK.of (s1.trans s'))).2 kk _ k2;have eP:=(s1.trans s') _ _ ht;refine⟨by show CDiv _ _;unfold CDiv;lia,_,SqL.of (s' _ _ hp),_,G9 (SY ws v hmid),zs,_,rfl,SqL.of ((s1.trans s') _ _ eQ),_,(by rw[k1];exact G9 a1),_,SqT.of eP,?_,fun q hq=>?_⟩
   ·rw[HT.sIx_nat,HT.sIx_none,jb_];lia
   rw[L7];have sq:=Same.new (o:=.tup ((v.drop ((lo+hi) / 2)).map V.int)) hq;have av:=cT _ (jc_ k2);refine Gx.ofS (sq _ _ a2) Ab (by rw[jb_,jb_,qR_];lia) fun u H2 s2 hu=>?_;rw[<-jz_]at hu;have s3:=(s1.trans s').trans (sq.trans s2);have s4:=s'.trans (sq.trans s2);refine⟨_,_,s3 _ _ hb,CC _ _ (by decide +kernel) (by decide +kernel),b,d,u,L,_,es,rfl,bk.mono s3,hu,fun dt=>?_,fun t' hm=>?_⟩
   ·dsimp only;rw[if_pos rfl];refine⟨by lia,fun x hx=>?_⟩;obtain⟨f',rfl⟩:∃f',f=f'+1:=⟨f-1,by lia⟩;refine (k _ (s3.newT hx)).1 _ u x ?_ (Same.new hx _ _ hu) Ab;rw[e];unfold Ec;rw[if_pos hg,Ig dt]
   ·dsimp only;rw[if_neg (by simp)];obtain⟨f',rfl⟩:∃f',f=f'+1:=⟨f-1,by lia⟩;have e2:Ec es W' ws v mk (f'+1) lo hi=if t'=mk then Ec es W' ws v mk f' lo ((lo+hi) / 2) else Ec es W' ws v mk f' ((lo+hi) / 2) hi:=by
     conv=>lhs;unfold Ec
     rw[if_pos hg,DI nd hm]
    rw[e2]at e;refine⟨rfl,?_⟩;by_cases jA:t'=mk
    ·rw[if_pos (by rw[jA])];rw[if_pos jA]at e;exact⟨_,by lia,(aw _ _ _).mpr ⟨lo,(lo+hi) / 2,f',_,_,_,s4,rfl,by lia,by lia,by lia,e,rfl⟩⟩
    ·rw[if_neg (fun z=>jA (V.int.inj z))];rw[if_neg jA]at e;exact⟨_,by lia,(aw _ _ _).mpr ⟨(lo+hi) / 2,hi,f',_,_,_,s4,rfl,by lia,by lia,by lia,e,rfl⟩⟩
  ·rw[if_neg s!""];have eP:=(s1.trans s') _ _ ht;refine⟨_,SqT.of eP,?_,fun q hq=>⟨by lia,fun x hx=>?_⟩⟩
   ·rw[HT.sIx_nat,HT.sIx_none,jb_];lia
   rw[L7]at hx ⊢;have sq:=Same.new (o:=.tup ((v.drop hi).map V.int)) hq;refine (k _ (((s1.trans s').trans sq).newT hx)).2 hi q x ?_ (Same.new hx _ _ Ab) Ab;rw[e];cases f with
   |zero=>rfl
   |succ f=>unfold Ec;rw[if_neg hg]
noncomputable def Tc (K:α3)(CA CB:Addr):Sp:=fun vs H Q _=>∃(a:Addr) (ad:AD) (s:AS) (wv:V) (B:Nat),vs=[.ref a]/\Asks K CA CB H a ad s wv/\OkX none B s/\s.G=[]/\Bd B s/\CH s.L s.W s.E s.es=none/\∀H' r,Asks K CA CB H' a ad (DC s).1 wv->Frm H H' a ad->((DC s).2=none->r=.non)->(∀x,(DC s).2=some x->Bj K H' s.L r x)->Q r H'
def CJ:⋯ EE.j23 9 ["self"] (Tc K ao ar):=by
 delta EE.j23 Fg
 ·obtain⟨a,ad,s,wv,B,rfl,_⟩:=h;rfl
 ·obtain⟨a,ad,s,wv,B,rfl,⟨gv,rv,zs,ys,us,x⟩,ok,hG,bd,aH,k⟩:=h;have hl:=Ak;have sz:=ok.sz bd;have tb:=ok.tb;obtain⟨np,cl⟩:=tb.none (ok.full hG) aH;have g:GuessOk s.L s.W s.E s.es (Bn s.W s.es) (CS s.L s.W s.E s.es):=tb.guess (ok.full hG) cl;have wf:=tb.wf g;refine⟨_,(Ac (Co (pvD 0) (AR (pvD 0) EE.cl_j0 EE.j18.m (Dq EE).g hr.d (Dq EE).b .nil AB) rfl)
   (Ac (Co (pvD 0) (AR (pvD 0) EE.cl_j0 EE.j22.m (Dr EE).g hr.d (Dr EE).b .nil AB) rfl)
   (Ac (AY (ptT (Au Kr (AI (pvD 0) rfl) BL (AG _)))
   (Ae (Ap (Bt (Aa As (Aa (AI (pvD 0) rfl) Ad)))))
   Aw)
   (Ae (Ap BL))))),?_⟩
  nofun;refine⟨_,_,x.ob,by kernel_rfl,a,ad,s,wv,rfl,⟨_,_,_,_,_,x⟩,sz,tb,ok.full hG,aH,fun h H1 s1 hh=>?_⟩;have x1:=x.same s1;refine⟨_,_,_,x1.ob,EE.cl_j0,EE.n_Asker_guess,Jl ..,?_⟩;rw[SX];have x2:=x1.put (wv':=wv) (gv':=.ref h) (rv':=rv) (s':={s with gs:=some (Bn s.W s.es,CS s.L s.W s.E s.es)}) rfl rfl rfl rfl rfl rfl ⟨h,rfl,hh⟩ x1.rv;have f2:=(Frm.of s1 a ad).seq (x1.putF (.ins ao ad.dx (afl wv s.L s.most ad.b ad.pw ad.pe ad.pg (.ref h) rv)));refine⟨_,_,x2.ob,by kernel_rfl,a,ad,_,wv,_,_,rfl,⟨_,_,_,_,_,x2⟩,rfl,wf,fun e he=>⟨(tb.bW e he).1,sz.b e he⟩,fun H3 s3=>⟨fun bc=>?_,fun v t hv ht=>?_⟩⟩
  ·have el:DC s=({s with gs:=some (Bn s.W s.es,CS s.L s.W s.E s.es),wr:=none},some (.shown (Bn s.W s.es) (CS s.L s.W s.E s.es))):=by
    unfold DC;rw[aH];dsimp only;rw[bc]
   have x3:=x2.same s3;refine⟨_,_,_,x3.ob,EE.cl_j0,EE.n_Asker_wrong,Jl ..,?_⟩;rw[Lc];have x4:=x3.put (wv':=wv) (gv':=.ref h) (rv':=.non) (s':={s with gs:=some (Bn s.W s.es,CS s.L s.W s.E s.es),wr:=none}) rfl rfl rfl rfl rfl rfl x3.gv rfl;have f4:=(f2.seq (Frm.of s3 a ad)).seq (x3.putF (.ins ao ad.dx (afl wv s.L s.most ad.b ad.pw ad.pe ad.pg (.ref h) .non)));refine⟨_,_,_,x4.ob,EE.cl_j0,EE.n_Asker_wrong,_,Gj ..,?_⟩;rw[if_pos rfl];refine⟨_,_,_,x4.ob,EE.cl_j0,EE.n_Asker_guess,_,Km ..,by lia,fun p hp=>?_⟩;refine k _ _ ?_ (f4.seq (Frm.of (Same.new hp) a ad)) ?_ ?_
   ·rw[el];exact⟨_,_,_,_,_,x4.same (Same.new hp)⟩
   ·rw[el];exact fun z=>by cases z
   ·rw[el];intro y z;cases z;refine⟨p,h,rfl,Ab,?_⟩;obtain⟨h',e',mY⟩:=(x4.same (Same.new hp)).gv;cases e';exact mY
  ·have el:DC s=({s with gs:=some (Bn s.W s.es,CS s.L s.W s.E s.es),wr:=some v},none):=by
    unfold DC;rw[aH];dsimp only;rw[hv]
   have x3:=x2.same s3;refine⟨_,_,_,x3.ob,EE.cl_j0,EE.n_Asker_wrong,Jl ..,?_⟩;rw[Lc];have x4:=x3.put (wv':=wv) (gv':=.ref h) (rv':=.ref t) (s':={s with gs:=some (Bn s.W s.es,CS s.L s.W s.E s.es),wr:=some v}) rfl rfl rfl rfl rfl rfl x3.gv ⟨t,rfl,ht⟩;have f4:=(f2.seq (Frm.of s3 a ad)).seq (x3.putF (.ins ao ad.dx (afl wv s.L s.most ad.b ad.pw ad.pe ad.pg (.ref h) (.ref t))));refine⟨_,_,_,x4.ob,EE.cl_j0,EE.n_Asker_wrong,_,Gj ..,?_⟩;rw[if_neg (by simp)];refine k _ _ ?_ f4 ?_ ?_
   ·rw[el];exact⟨_,_,_,_,_,x4⟩
   ·rw[el];exact fun _=>rfl
   ·rw[el];exact fun y z=>by cases z
noncomputable def M7 (K:α3)(CA CB:Addr)(pre:AS->Prop)(f:AS->AS×Option Wish):Sp:=fun vs H Q _=>∃(a:Addr) (ad:AD) (s:AS) (wv:V) (B:Nat),vs=[.ref a]/\Asks K CA CB H a ad s wv/\OkX none B s/\Bd B s/\pre s/\∀aF H' r,Asks K CA CB H' a aF (f s).1 wv->Frm H H' a ad->AdOk H ad aF->((f s).2=none->r=.non)->(∀x,(f s).2=some x->Bj K H' s.L r x)->Q r H'
def Cq:⋯ EE.j25 10 ["self"] (M7 K ao ar (fun s=>s.G=[]/\s.wr=none) DC):=by
 delta EE.j25 Cp
 ·obtain⟨a,ad,s,wv,B,rfl,_⟩:=h;rfl
 ·obtain⟨a,ad,s,wv,B,rfl,⟨gv,rv,zs,ys,us,x⟩,ok,bd,⟨hG,aR⟩,k⟩:=h;have hl:=Ak;have sz:=ok.sz bd;have tb:=ok.tb;have w1:=sz.w.1;have e1:=sz.e.1;refine⟨_,(Ac (Ao (i:=1) Cp.nd (Aj (OW EE) hr.d AB (Aa (AI (pvD 0) rfl) (Aa (AI (pvD 0) rfl) (Aa (AI (pvD 0) rfl) (Aa (AI (pvD 0) rfl) Ad))))))
   (Ac (AY (ptT (Au Kr (pvD 1) BL (AG _)))
   (Ae (Ap (AR (pvD 0) EE.cl_j0 EE.j23.m (CJ EE).g hr.d (CJ EE).b .nil AB)))
   Aw)
   (Ac (AY (ptT (Au (opE IL) (AE (lenD Aq) (by rfl) EE.len jO_ (Aa (AI (pvD 0) rfl) Ad)) (AI (pvD 0) rfl) (AG _)))
   (Ae (Ap (Bt (Aa As (Aa (pvD 1) Ad)))))
   Aw)
   (Ac (Ay (Ek jS_ jX_ jY_ BN (AI (pvD 0) rfl) (Aa (pvD 1) Ad)))
   (Ac (Ay (AR (pvD 0) EE.cl_j0 EE.j9.m (AJ EE).g hr.d (AJ EE).b .nil AB))
   (Ae (Ap BL))))))),?_⟩
  nofun;refine⟨_,_,_,x.ob,EE.cl_j0,EE.n_Asker_book,_,FD ..,_,_,_,x.ob,EE.cl_j0,EE.n_Asker_letters,_,Jj ..,_,_,_,x.ob,EE.cl_j0,EE.n_Asker_ways,_,Jk ..,_,_,_,x.ob,EE.cl_j0,EE.n_Asker_ends,_,Lb ..,ad.b,ad.d,ad.pw,ad.pe,s.L,s.L,s.es,zs,ys,s.W,s.E,gOf s.E s.es,rfl,x.bk,sz.l6,SqL.of x.w,x.wW,by lia,fun v hv=>by have:=sz.w.2 v hv;lia,SqL.of x.e,x.eW,by lia,sz.e.2,fun v hv=>Wa (ok.full hG) hv,fun r t H1 aH s1 ht=>?_,fun H1 aH s1=>?_⟩
  ·dsimp only;rw[if_neg (by simp)];have x1:=x.same s1;have f1:=Frm.of s1 a ad;have k1:=AdOk.refl H ad;refine⟨_,_,_,x1.ob,EE.cl_j0,EE.n_Asker_ways,_,Jk ..,ad.pw,rfl,_,.inl (SqL.of x1.w),_,_,_,x1.ob,EE.cl_j0,EE.n_Asker_most,_,Xd ..,rfl,?_⟩;rw[x1.wW.1];by_cases hm:s.W.length=s.most
   ·rw[if_pos (by rw[hm])];have el:DC s=(s,some (.spent r)):=by
     unfold DC;rw[show CH s.L s.W s.E s.es=some r from aH];dsimp only;rw[if_pos hm]
    refine⟨by lia,fun p hp=>?_⟩;refine k ad _ _ ?_ (f1.seq (Frm.of (Same.new hp) a ad)) k1 ?_ ?_
    ·rw[el];exact⟨_,_,_,_,_,x1.same (Same.new hp)⟩
    ·rw[el];exact fun z=>by cases z
    ·rw[el];intro y z;cases z;exact⟨p,t,rfl,Ab,Same.new hp _ _ ht⟩
   ·rw[if_neg (fun z=>hm (by have:=V.int.inj z;lia))];have el:DC s=({s with W:=s.W++[r],G:=EW s.L (s.W++[r]) s.E s.es},none):=by
     unfold DC;rw[show CH s.L s.W s.E s.es=some r from aH];dsimp only;rw[if_neg hm]
    have x2:=x1.putW (x1.wW.snoc ht);have f2:=f1.seq (Frm.put (a:=a) (o:=.lst (zs++[.ref t])) (.inl rfl) ⟨_,x1.w⟩);obtain⟨o2,kp,_⟩:=(SV ok hG aR).1 _ el;have gj:=o2.sz (B:=B) bd;refine⟨_,_,_,x1.ob,EE.cl_j0,EE.n_Asker_ways,_,Jk ..,.inl ⟨rfl,_,SqL.of x1.w⟩,ad.pw,rfl,_,x1.w,by rw[x1.wW.1];lia,_,_,x2.ob,by kernel_rfl,a,ad,_,wv,rfl,⟨_,_,_,_,_,x2⟩,⟨gj.l6,gj.w,gj.e,gj.b⟩,fun aF H3 x3 f3 k3=>?_⟩;refine k aF H3 _ ?_ (f2.trans k1 f3) (AdOk.trans f2 k1 k3) ?_ ?_
    ·rw[el];exact x3
    ·rw[el];exact fun _=>rfl
    ·rw[el];exact fun y z=>by cases z
  ·dsimp only;rw[if_pos rfl];have x1:=x.same s1;have f1:=Frm.of s1 a ad;have k1:=AdOk.refl H ad;exact⟨_,_,x1.ob,by kernel_rfl,a,ad,s,wv,B,rfl,⟨_,_,_,_,_,x1⟩,ok,hG,bd,aH,fun H3 r x3 f3=>k ad H3 r x3 (f1.seq f3) k1⟩
def GG:⋯ EE.j13 7 ["self"] (M7 K ao ar (fun s=>s.G=[]/\s.wr≠none) Br):=by
 delta EE.j13 CD
 ·obtain⟨a,ad,s,wv,B,rfl,_⟩:=h;rfl
 ·obtain⟨a,ad,s,wv,B,rfl,⟨gv,rv,zs,ys,us,x⟩,ok,bd,⟨hG,aR⟩,k⟩:=h;have hl:=Ak;have sz:=ok.sz bd;have tb:=ok.tb;have w1:=sz.w.1;have e1:=sz.e.1;obtain⟨v,hv⟩:=Option.ne_none_iff_exists'.mp aR;obtain⟨_,hEW,b5,hvl,m,ws,tt,dU,g,htt,aA⟩:=ok.wr v hv;have en:Br s=Ij s v m ws:=by
   unfold Br;rw[hG,hv,dU]
  have wf:=tb.wf g;have kx:=x.gv;rw[dU]at kx;obtain⟨h,rfl,hh⟩:=kx;have fP:=x.rv;rw[hv]at fP;obtain⟨t,rfl,ht⟩:=fP;refine⟨_,(Ac (Ao (i:=1) CD.nd (A9 (pvD 0) EE.cl_j0 EE.j12.m (Cd EE).g hr.d (Cd EE).b .nil AB (Aa (AI (pvD 0) rfl) (Aa (AI (pvD 0) rfl) Ad))))
   (Ac (Ao (i:=2) CD.nd (AL (opD0 Pk) (AE (lenD Aq) (by rfl) EE.len jO_ (Aa (AI (pvD 0) rfl) Ad)) (AE (lenD Aq) (by rfl) EE.len jO_ (Aa (Ai (ixLD AZ) (AI (pvD 0) rfl) Ag) Ad))))
   (Ac (Ao (i:=3) CD.nd (Aj (Ta EE) hr.d AB (Aa (AI (pvD 0) rfl) (Aa (AI (pvD 0) rfl) (Aa (AI (pvD 0) rfl) (Aa (AI (pvD 0) rfl) (Aa (pvD 1) (Aa (pvD 2) Ad))))))))
   (Ac (AY (ptT (Au (opE IL) (Ai (ixTD An) (pvD 3) Ag) As (AG _)))
   (Ae (Ap (pvD 3)))
   Aw)
   (Ac (Co (pvD 0) BL rfl)
   (Ac (Ay (Ek jS_ jX_ jY_ BN (AI (pvD 0) rfl) (Aa (Ai (ixTD An) (pvD 3) Ag) Ad)))
   (Ac (Ay (AR (pvD 0) EE.cl_j0 EE.j9.m (AJ EE).g hr.d (AJ EE).b .nil AB))
   (Ae (Ap BL))))))))),?_⟩
  nofun;have iE:0<v.length:=by
   refine qf fun z=>aA ?_;have:v=[]:=qD_.mp z;subst this;obtain⟨y,y1,y2⟩:=g.m 0 [] tb.w0;rw[htt]at y2;cases y2;show tt=m.getD 0 0;rw[jp_,y1];rfl
  have hvl2:v.length<=600:=by
   have:=ok.lens;unfold Bd at bd;lia
  refine⟨_,_,x.ob,by kernel_rfl,_,_,_,x.ob,EE.cl_j0,EE.n_Asker_guess,_,Km ..,_,_,_,x.ob,EE.cl_j0,EE.n_Asker_wrong,_,Gj ..,a,h,t,s.L,m,ws,v,rfl,hh.house,wf,SqT.of ht,hvl2,b5,fun H1 s1=>?_⟩;have x1:=x.same s1;have f1:=Frm.of s1 a ad;have k1:=AdOk.refl H ad;obtain⟨t0,q1,q2⟩:=x1.eW.2 0 [] tb.e0;have c8:=s1 _ _ ht;refine⟨_,_,_,x1.ob,EE.cl_j0,EE.n_Asker_wrong,_,Gj ..,t,rfl,_,.inr (SqT.of c8),_,_,_,x1.ob,EE.cl_j0,EE.n_Asker_ends,_,Lb ..,ad.pe,rfl,_,SqL.of x1.e,_,G9 (j:=0) q1,t0,rfl,_,.inr (SqT.of q2),_,_,_,x1.ob,EE.cl_j0,EE.n_Asker_book,_,FD ..,_,_,_,x1.ob,EE.cl_j0,EE.n_Asker_ways,_,Jk ..,_,_,_,x1.ob,EE.cl_j0,EE.n_Asker_guess,_,Km ..,_,_,_,x1.ob,EE.cl_j0,EE.n_Asker_wrong,_,Gj ..,ad.b,ad.d,ad.pw,h,t,s.L,s.es,zs,s.W,m,ws,v,Ax m (Al ws v),by simp,x1.bk,x1.w,x1.wW,(hh.mono (TK.of s1)).house,wf,c8,b5,iE,hvl2,sz.w.2,fun i _=>L5 tb g b5 i,fun H2 s2=>⟨fun c u t' hc hu eP=>?_,fun hi u t' hc hu eP=>?_⟩⟩
  ·have el:Br s=(s,some (.ask c)):=by
    rw[en];unfold Ij;rw[hc]
   refine⟨t',rfl,_,SqT.of eP,_,rfl,rfl,?_⟩;rw[if_pos rfl];refine k ad H2 _ ?_ (f1.seq (Frm.of s2 a ad)) k1 ?_ ?_
   ·rw[el];exact⟨_,_,_,_,_,x1.same s2⟩
   ·rw[el];exact fun z=>by cases z
   ·rw[el];intro y z;cases z;exact⟨t',u,rfl,eP,hu⟩
  ·have el:Br s=({s with wr:=none,E:=s.E++[v.drop hi],G:=EW s.L s.W (s.E++[v.drop hi]) s.es},none):=by
    rw[en];unfold Ij;rw[hc]
   have x2:=x1.same s2;have f2:=f1.seq (Frm.of s2 a ad);refine⟨t',rfl,_,SqT.of eP,_,rfl,rfl,?_⟩;rw[if_neg (fun z=>absurd (V.str.inj z) (by decide +kernel))];refine⟨_,_,_,x2.ob,EE.cl_j0,EE.n_Asker_wrong,Jl ..,?_⟩;rw[Lc];have x3:=x2.put (wv':=wv) (gv':=.ref h) (rv':=.non) (s':={s with wr:=none}) rfl rfl rfl rfl rfl rfl x2.gv rfl;have f3:=f2.seq (x2.putF (.ins ao ad.dx (afl wv s.L s.most ad.b ad.pw ad.pe ad.pg (.ref h) .non)));have nk:=x2.tkob (.ins ao ad.dx (afl wv s.L s.most ad.b ad.pw ad.pe ad.pg (.ref h) .non));have ix:=nk _ _ eP;have hu3:=nk _ _ hu;have x4:=x3.putE (x3.eW.snoc hu3);have f4:=f3.seq (Frm.put (a:=a) (o:=.lst (ys++[.ref u])) (.inr (.inl rfl)) ⟨_,x3.e⟩);obtain⟨o2,kp,_⟩:=(Ji ok).1 _ el;have gj:=o2.sz (B:=B) bd;refine⟨_,_,_,x3.ob,EE.cl_j0,EE.n_Asker_ends,_,Lb ..,.inl ⟨rfl,_,SqL.of x3.e⟩,t',rfl,_,SqT.of ix,_,rfl,ad.pe,rfl,_,x3.e,by rw[x3.eW.1];show s.E.length<_;lia,_,_,x4.ob,by kernel_rfl,a,ad,_,wv,rfl,⟨_,_,_,_,_,x4⟩,⟨gj.l6,gj.w,gj.e,gj.b⟩,fun aF H3 x5 f5 k5=>?_⟩;refine k aF H3 _ ?_ (f4.trans k1 f5) (AdOk.trans f4 k1 k5) ?_ ?_
   ·rw[el];exact x5
   ·rw[el];exact fun _=>rfl
   ·rw[el];exact fun y z=>by cases z
def BF:⋯ EE.j26 11 ["self"] (M7 K ao ar (fun _=>True) Br):=by
 delta EE.j26 IZ
 ·obtain⟨a,ad,s,wv,B,rfl,_⟩:=h;rfl
 ·obtain⟨a,ad,s,wv,B,rfl,⟨gv,rv,zs,ys,us,x⟩,ok,bd,_,k⟩:=h;have hl:=Ak;refine⟨_,(Ac (AY (ptT (Au (opD0 Wq) (AE (lenD Aq) (by rfl) EE.len jO_ (Aa (AI (pvD 0) rfl) Ad)) Ag (AG _)))
   (Ae (Ap (Bt (Aa As (Aa (Ek jS_ si sj T7 (AI (pvD 0) rfl) (Aa Ag Ad)) Ad)))))
   Aw)
   (Ac (AY (ptT (Au Rl (AI (pvD 0) rfl) BL (AG _)))
   (Ae (Ap (AR (pvD 0) EE.cl_j0 EE.j13.m (GG EE).g hr.d (GG EE).b .nil AB)))
   Aw)
   (Ae (Ap (AR (pvD 0) EE.cl_j0 EE.j25.m (Cq EE).g hr.d (Cq EE).b .nil AB))))),?_⟩
  nofun;refine⟨_,_,_,x.ob,EE.cl_j0,EE.n_Asker_gaps,_,SW ..,ad.pg,rfl,_,.inl (SqL.of x.g),?_⟩;cases hG:s.G with
  |cons c r=>
   have hgl:us.length=r.length+1:=by rw[x.gW.1,hG];rfl
   have nq:=x.gW;rw[hG]at nq;obtain⟨tc,g1,g2⟩:=nq.2 0 c rfl;rw[if_pos s!""];have el:Br s=({s with G:=r},some (.ask c)):=by
    unfold Br;rw[hG]
   have x2:=x.putG (Az.tail39 nq);have f2:Frm H (upd H ad.pg (.lst (us.eraseIdx 0))) a ad:=Frm.put (.inr (.inr (.inl rfl))) ⟨_,x.g⟩;have fi:=TK.lst x.g (o:=.lst (us.eraseIdx 0));refine⟨_,_,_,x.ob,EE.cl_j0,EE.n_Asker_gaps,_,SW ..,.inl ⟨rfl,_,SqL.of x.g⟩,ad.pg,rfl,_,x.g,by decide,by decide,0,YW (i:=0) s!"",_,g1,by lia,fun p hp=>?_⟩;refine k ad _ _ ?_ (f2.seq (Frm.of (Same.new hp) a ad)) (AdOk.refl H ad) ?_ ?_
   ·rw[el];exact⟨_,_,_,_,_,x2.same (Same.new hp)⟩
   ·rw[el];exact fun z=>by cases z
   ·rw[el];intro y z;cases z;exact⟨p,tc,rfl,Ab,Same.new hp _ _ (fi _ _ g2)⟩
  |nil=>
   rw[if_neg (by rw[x.gW.1,hG];simp)];refine⟨_,_,_,x.ob,EE.cl_j0,EE.n_Asker_wrong,_,Gj ..,?_⟩;cases aR:s.wr with
   |none=>
    have fP:=x.rv;rw[aR]at fP;have fP:rv=.non:=fP;subst fP;have en:Br s=DC s:=by
     unfold Br;rw[hG,aR]
    rw[en]at k;rw[if_neg (by simp)];exact⟨_,_,x.ob,by kernel_rfl,a,ad,s,wv,B,rfl,⟨_,_,_,_,_,x⟩,ok,bd,⟨hG,aR⟩,k⟩
   |some v=>
    have fP:=x.rv;rw[aR]at fP;obtain⟨t,rfl,ht⟩:=fP;rw[if_pos (by simp)];exact⟨_,_,x.ob,by kernel_rfl,a,ad,s,wv,B,rfl,⟨_,_,_,_,_,x⟩,ok,bd,⟨hG,by rw[aR];simp⟩,k⟩
noncomputable def Xe (K:α3)(CA CB:Addr):Sp:=fun vs H Q _=>∃(a:Addr) (ad:AD) (s:AS) (wv:V) (B:Nat),vs=[.ref a]/\Asks K CA CB H a ad s wv/\OkX none B s/\Bd B s/\∀aF H' s' x wv',Goes s s' x->Asks K CA CB H' a aF s' wv'->Bj K H' s.L wv' x->Frm H H' a ad->AdOk H ad aF->Q .non H'
def Bo:⋯ EE.j27 12 ["self"] (Xe K ao ar):=by
 delta EE.j27 LC
 ·obtain⟨a,ad,s,wv,B,rfl,_⟩:=h;rfl
 ·obtain⟨a,ad,s,wv,B,rfl,⟨gv,rv,zs,ys,us,x⟩,ok,bd,k⟩:=h;have hl:=Ak;refine⟨_,(Ac (Co (pvD 0) (AR (pvD 0) EE.cl_j0 EE.j26.m (BF EE).g hr.d (BF EE).b .nil AB) rfl)
   (Ae (F8 jG_ (ptT (Au Kr (AI (pvD 0) rfl) BL (AG _)))
   (Ae (Co (pvD 0) (AR (pvD 0) EE.cl_j0 EE.j26.m (BF EE).g hr.d (BF EE).b .nil AB) rfl))))),?_⟩
  nofun;obtain⟨Pv,aw⟩:∃Pv:Nat->St->Hp->Prop,∀n aj H',Pv n aj H'↔(∃(aX:AD) (s1:AS) (bX:V),Asks K ao ar H' a aX s1 bX/\Frm H H' a ad/\AdOk H ad aX/\aj=[some (.ref a)]/\((bX=.non/\OkX none B s1/\Kept s s1/\(∀s' y,Goes s1 s' y->Goes s s' y)/\n=mu s1+1) \/ ∃y,Bj K H' s.L bX y/\Goes s s1 y/\n=0)):=⟨_,fun _ _ _=>ql_⟩;have step:∀(s1:AS) (aX:AD) (bX:V) (H1:Hp) (M:Nat),Asks K ao ar H1 a aX s1 bX->Frm H H1 a ad->AdOk H ad aX->OkX none B s1->Kept s s1->(∀s' y,Goes s1 s' y->Goes s s' y)->mu s1<=M->∃x x_1,H1 a=some (HO.ins ao x x_1)/\oH ("next_wish" : Str) x_1=none/\M7 K ao ar (fun x=>True) Br [V.ref a] H1 (fun y H1=>∃x x_2 nr,H1 a=some (HO.ins x x_2 nr)/\Cls K x/\BY K x ("wish" : Str)/\nr.length<1000/\∃m',m'<M+1/\Pv m' [some (V.ref a)] (upd H1 a (HO.ins x x_2 (putF ("wish" : Str) y nr)))) E0:=by
   rintro s1 aX bX H1 M ⟨gv,rv,zs,ys,us,x1⟩ f1 k1 gk iI fQ hM;refine⟨_,_,x1.ob,by kernel_rfl,a,aX,s1,bX,B,rfl,⟨_,_,_,_,_,x1⟩,gk,by unfold Bd at bd ⊢;rw[iI.m];exact bd,trivial,fun aS H2 r x2 f2 k2 hN hS=>?_⟩;obtain⟨fj,fk,gN,gO,gP,x2⟩:=x2;refine⟨_,_,_,x2.ob,EE.cl_j0,EE.n_Asker_wish,Jl ..,?_⟩;rw[Qc];have x3:=x2.put (wv':=r) (gv':=fj) (rv':=fk) (s':=(Br s1).1) rfl rfl rfl rfl rfl rfl x2.gv x2.rv;have f3:=(f1.trans k1 f2).trans (AdOk.trans f1 k1 k2) (x2.putF (.ins ao aS.dx (afl r (Br s1).1.L (Br s1).1.most aS.b aS.pw aS.pe aS.pg fj fk)));have tk:=x2.tkob (.ins ao aS.dx (afl r (Br s1).1.L (Br s1).1.most aS.b aS.pw aS.pe aS.pg fj fk));have k3:=AdOk.trans f1 k1 k2;cases hn:(Br s1).2 with
   |none=>
    have e1:Br s1=((Br s1).1,none):=by rw[<-hn]
    obtain⟨jE,iJ,hmu⟩:=(Ji gk).1 _ e1;refine⟨mu (Br s1).1+1,by lia,(aw _ _ _).mpr ⟨aS,_,r,⟨_,_,_,_,_,x3⟩,f3,k3,rfl,.inl ⟨hN hn,jE,⟨iJ.l.trans iI.l,iJ.m.trans iI.m,iJ.e.trans iI.e⟩,fun s' y hy=>fQ s' y (.more e1 hy),rfl⟩⟩⟩
   |some y=>
    have e1:Br s1=((Br s1).1,some y):=by rw[<-hn]
    have hw:=(hS y hn).mono tk;rw[iI.l]at hw;exact⟨0,by lia,(aw _ _ _).mpr ⟨aS,_,r,⟨_,_,_,_,_,x3⟩,f3,k3,rfl,.inr ⟨y,hw,fQ _ _ (.stop e1),rfl⟩⟩⟩
  obtain⟨c1,c2,c3,c4,c5⟩:=step s ad wv H (mu s+1) ⟨_,_,_,_,_,x⟩ (Frm.of (Same.refl _) a ad) (AdOk.refl H ad) ok ⟨rfl,rfl,rfl⟩ (fun _ _ z=>z) s!"";refine⟨c1,c2,c3,c4,?_⟩;obtain⟨a',aF,s',wv',B',e1,e2,e3,e4,e5,e6⟩:=c5;refine⟨a',aF,s',wv',B',e1,e2,e3,e4,e5,fun aS H2 r x2 f2 k2 hN hS=>?_⟩;obtain⟨d1,d2,d3,d4,d5,d6,d7,m',_,d8⟩:=e6 aS H2 r x2 f2 k2 hN hS;refine⟨d1,d2,d3,d4,d5,d6,d7,LX Pv ⟨m',d8⟩ fun n aj H' h'=>?_⟩;obtain⟨aX,s1,bX,⟨gv,rv,zs,ys,us,x1⟩,f1,k1,rfl,hh⟩:=(aw _ _ _).mp h';nofun;refine⟨_,_,_,x1.ob,EE.cl_j0,EE.n_Asker_wish,_,Hr ..,?_⟩;rcases hh with ⟨rfl,gk,iI,fQ,hn⟩|⟨y,hw,fQ,hn⟩
  ·rw[if_pos rfl];refine⟨fun aq H2=>∃m',m'<n/\Pv m' aq H2,fun _ _ z=>z,?_⟩;subst hn;exact step s1 aX _ H' (mu s1) ⟨_,_,_,_,_,x1⟩ f1 k1 gk iI fQ s!""
  ·obtain⟨t,u,e,_⟩:=id hw;rw[if_neg (by rw[e];simp)];exact k aX _ s1 y bX fQ ⟨_,_,_,_,_,x1⟩ hw f1 k1
noncomputable def Wb (K:α3)(CA CB:Addr)(H:Hp)(a:Addr)(ad:AD)(s:AS)(Q:VK):Prop:=∀aF H' s' x' wv',Goes s s' x'->Asks K CA CB H' a aF s' wv'->Bj K H' s.L wv' x'->Frm H H' a ad->AdOk H ad aF->Q .non H'
noncomputable def Td (K:α3)(CA CB OT BM:Addr):Sp:=fun vs H Q E=>∃(a:Addr) (ad:AD) (s:AS) (wv:V) (x:Wish) (B:Nat) (m:Int),vs=[.ref a,.int m]/\Asks K CA CB H a ad s wv/\Bj K H s.L wv x/\WOk B s x/\Bd B s/\s.es.length<=100000/\(x.tag ≠ "ask" -> E (.ref OT) none H)/\∀c,x=.ask c->(¬ (0<=m/\m<=1000000000)->∀H',Same H H'->E (.ref BM) none H')/\(0<=m->m<=1000000000->Wb K CA CB H a ad {s with es:=s.es++[(c,m)]} Q)
def Ds:CalH P w mg base (CXe P w) EE.j53 13 ["self","number"] (Td K ao ar bh aW):=by
 refine HG.okE EE.j53 Hi (fun vs H Q E h=>?_) (fun au A outer s H vs Q E hr h=>?_)
 ·obtain⟨a,ad,s,wv,x,B,m,rfl,_⟩:=h;rfl
 ·obtain⟨a,ad,s,wv,y,B,m,rfl,⟨gv,rv,zs,ys,us,x⟩,hw,ok,bd,hz,kE,k⟩:=h;have hl:=Ak;refine⟨_,(Ac (Ay (A9 (pvD 0) EE.cl_j0 EE.j48.m (AO EE).g hr.d (AO EE).b .nil (Ep fun _ _ _ h=>h) (Aa As Ad)))
   (Ac (Ay (A9 (AI (pvD 0) rfl) EE.cl_j1 EE.j52.m (EH EE).g hr.d (EH EE).b .nil (Ep fun _ _ _ h=>h) (Aa (Ai (ixTD An) (AI (pvD 0) rfl) Ag) (Aa (pvD 1) Ad))))
   (Ae (Ay (AR (pvD 0) EE.cl_j0 EE.j27.m (Bo EE).g hr.d (Bo EE).b .nil AB))))),?_⟩
  nofun;refine⟨_,_,x.ob,by kernel_rfl,a,ad,s,wv,y,"ask",rfl,⟨_,_,_,_,_,x⟩,hw,fun bY=>?_,kE⟩;cases y with
  |shown mm ws=>exact absurd bY (show ¬ ("show" : Str) = "ask" by decide +kernel)
  |done mm ws=>exact absurd bY (show ¬ ("done" : Str) = "ask" by decide +kernel)
  |spent c=>exact absurd bY (show ¬ ("spent" : Str) = "ask" by decide +kernel)
  |ask c=>
   obtain⟨t,u,rfl,ht,hu⟩:=hw;obtain⟨kM,kk⟩:=k c rfl;obtain⟨fo,hn,hc,av,hg⟩:=ok;obtain⟨iH,hb⟩:=x.bk.ob;have eR:c∉s.es.map (·.1):=fun z=>by
    obtain⟨n,eX⟩:=OZ.mp z;rw[hn]at eX;cases eX
   have bo:c.length<=900:=by
    have h1:=fo.lens;unfold Bd at bd;split at av<;>lia
   refine⟨_,_,_,x.ob,EE.cl_j0,EE.n_Asker_book,_,FD ..,ad.b,rfl,_,_,hb,CC _ _ (by decide +kernel) (by decide +kernel),_,_,_,x.ob,EE.cl_j0,EE.n_Asker_wish,_,Hr ..,t,rfl,_,SqT.of ht,_,rfl,ad.b,ad.d,u,s.L,m,c,s.es,rfl,x.bk,hu,bo,hz,fun z=>(by rw[hc]at z;cases z),fun _ hm H' s'=>kM hm H' s',fun _ _ _ n bt _ _ _=>absurd (jq_.mpr ⟨_,bt,rfl⟩) eR,fun _ h0 h9 _ H' fZ hf=>?_⟩;unfold putE at fZ;rw[if_neg eR]at fZ;obtain⟨x2,f2,fi⟩:=x.putB fZ hf;exact⟨_,_,x2.ob,by kernel_rfl,a,ad,_,_,B,rfl,⟨_,_,_,_,_,x2⟩,fo.told (fun b hb=>(jB_ hb).symm) eR hc h0 h9 av hg,bd,fun aF H3 s' y' wv' go x3 jF f3 k3=>kk h0 h9 aF H3 s' y' wv' go x3 jF (f2.trans (AdOk.refl H ad) f3) (AdOk.trans f2 (AdOk.refl H ad) k3)⟩
noncomputable def UU (K:α3)(CA CB OT:Addr):Sp:=fun vs H Q E=>∃(a:Addr) (ad:AD) (s:AS) (wv:V) (x:Wish),vs=[.ref a]/\Asks K CA CB H a ad s wv/\Bj K H s.L wv x/\(x.tag ≠ "show" -> E (.ref OT) none H)/\∀mm ws,x=.shown mm ws->∀H' wv',Asks K CA CB H' a ad s wv'->Bj K H' s.L wv' (.done mm ws)->Frm H H' a ad->Q .non H'
def C4:CalH P w mg base (CXe P w) EE.j49 2 ["self"] (UU K ao ar bh):=by
 refine HG.okE EE.j49 MV (fun vs H Q E h=>?_) (fun au A outer s H vs Q E hr h=>?_)
 ·obtain⟨a,ad,s,wv,x,rfl,_⟩:=h;rfl
 ·obtain⟨a,ad,s,wv,y,rfl,⟨gv,rv,zs,ys,us,x⟩,hw,kE,k⟩:=h;have hl:=Ak;refine⟨_,(Ac (Ay (A9 (pvD 0) EE.cl_j0 EE.j48.m (AO EE).g hr.d (AO EE).b .nil (Ep fun _ _ _ h=>h) (Aa As Ad)))
   (Ae (Co (pvD 0) (Bt (Aa As (Aa (Ai (ixTD An) (AI (pvD 0) rfl) Ag) Ad))) rfl))),?_⟩
  nofun;refine⟨_,_,x.ob,by kernel_rfl,a,ad,s,wv,y,"show",rfl,⟨_,_,_,_,_,x⟩,hw,fun bY=>?_,kE⟩;cases y with
  |ask c=>exact absurd bY (show ¬ ("ask" : Str) = "show" by decide +kernel)
  |done mm ws=>exact absurd bY (show ¬ ("done" : Str) = "show" by decide +kernel)
  |spent c=>exact absurd bY (show ¬ ("spent" : Str) = "show" by decide +kernel)
  |shown mm ws=>
   obtain⟨t,u,rfl,ht,hu⟩:=hw;refine⟨_,_,_,x.ob,EE.cl_j0,EE.n_Asker_wish,_,Hr ..,t,rfl,_,SqT.of ht,_,rfl,by lia,fun p hp=>?_⟩;have x1:=x.same (Same.new hp (o:=.tup [.str "done",.ref u]));refine⟨_,_,_,x1.ob,EE.cl_j0,EE.n_Asker_wish,Jl ..,?_⟩;rw[Qc];have x2:=x1.put (wv':=.ref p) (gv':=gv) (rv':=rv) (s':=s) rfl rfl rfl rfl rfl rfl x1.gv x1.rv;have tk:=x1.tkob (.ins ao ad.dx (afl (.ref p) s.L s.most ad.b ad.pw ad.pe ad.pg gv rv));exact k mm ws rfl _ _ ⟨_,_,_,_,_,x2⟩ ⟨p,u,rfl,tk _ _ Ab,HouT.mono hu (TK.trans (TK.new hp) tk)⟩ ((Frm.of (Same.new hp) a ad).seq (x1.putF _))
noncomputable def Wc (K:α3)(CA CB OT BW BM ND CO:Addr):Sp:=fun vs H Q E=>∃(a t:Addr) (ad:AD) (s:AS) (wv:V) (x:Wish) (B:Nat) (w:α2) (m:Int),vs=[.ref a,.ref t,.int m]/\Asks K CA CB H a ad s wv/\Bj K H s.L wv x/\WOk B s x/\Bd B s/\s.es.length<=100000/\H t=some (.tup (w.map V.int))/\w.length<=600/\(x.tag ≠ "show" -> E (.ref OT) none H)/\∀mm ws,x=.shown mm ws->(isW s.L w=false->∀H',Same H H'->E (.ref BW) none H')/\(isW s.L w=true->¬ (0<=m/\m<=1000000000)->∀H',Same H H'->E (.ref BM) none H')/\(isW s.L w=true->0<=m->m<=1000000000->(Ax mm (Al ws w)=m->∀H',Same H H'->E (.ref ND) none H')/\(Ax mm (Al ws w)≠m->w∈s.es.map (·.1)->∀H',Same H H'->E (.ref CO) none H')/\(Ax mm (Al ws w)≠m->w∉s.es.map (·.1)->w.length<=B+(s.most+1)*s.E.length/\Wb K CA CB H a ad {s with es:=s.es++[(w,m)]} Q))
def Cr:CalH P w mg base (CXe P w) EE.j55 13 ["self","word","number"] (Wc K ao ar bh aQ aW bT bH):=by
 refine HG.okE EE.j55 E6 (fun vs H Q E h=>?_) (fun au A outer s H vs Q E hr h=>?_)
 ·obtain⟨a,t,ad,s,wv,x,B,wd,m,rfl,_⟩:=h;rfl
 ·obtain⟨a,t,ad,s,wv,y,B,wd,m,rfl,⟨gv,rv,zs,ys,us,x⟩,hw,ok,bd,hz,ht,cT,kE,k⟩:=h;have hl:=Ak;refine⟨_,(Ac (Ay (A9 (pvD 0) EE.cl_j0 EE.j48.m (AO EE).g hr.d (AO EE).b .nil (Ep fun _ _ _ h=>h) (Aa As Ad)))
   (Ac (Ay (A9 (AI (pvD 0) rfl) EE.cl_j1 EE.j51.m (C3 EE).g hr.d (C3 EE).b .nil (Ep fun _ _ _ h=>h) (Aa (pvD 1) (Aa (pvD 2) Ad))))
   (Ac (AY (ptT (Au (opE IL) (A9 (pvD 0) EE.cl_j0 EE.j12.m (Cd EE).g hr.d (Cd EE).b .nil AB (Aa (Ai (ixTD An) (AI (pvD 0) rfl) Ag) (Aa (pvD 1) Ad))) (pvD 2) (AG _)))
   (Ae (BO EE.m_j3 EE.x_j3 rfl rfl (Aa As Ad)))
   Aw)
   (Ac (Ay (A9 (AI (pvD 0) rfl) EE.cl_j1 EE.j52.m (EH EE).g hr.d (EH EE).b .nil (Ep fun _ _ _ h=>h) (Aa (pvD 1) (Aa (pvD 2) Ad))))
   (Ae (Ay (AR (pvD 0) EE.cl_j0 EE.j27.m (Bo EE).g hr.d (Bo EE).b .nil AB))))))),?_⟩
  nofun;refine⟨_,_,x.ob,by kernel_rfl,a,ad,s,wv,y,"show",rfl,⟨_,_,_,_,_,x⟩,hw,fun bY=>?_,kE⟩;cases y with
  |ask c=>exact absurd bY (show ¬ ("ask" : Str) = "show" by decide +kernel)
  |done mm ws=>exact absurd bY (show ¬ ("done" : Str) = "show" by decide +kernel)
  |spent c=>exact absurd bY (show ¬ ("spent" : Str) = "show" by decide +kernel)
  |shown mm ws=>
   obtain⟨tw,u,rfl,df,hu⟩:=hw;obtain⟨kW,kM,kk⟩:=k mm ws rfl;obtain⟨bB,hG,aR,dU,g,az⟩:=ok;obtain⟨iH,hb⟩:=x.bk.ob;have wf:=bB.tb.wf g;refine⟨_,_,_,x.ob,EE.cl_j0,EE.n_Asker_book,_,FD ..,ad.b,rfl,_,_,hb,CC _ _ (by decide +kernel) (by decide +kernel),ad.b,ad.d,t,s.L,m,wd,s.es,rfl,x.bk,ht,by lia,kW,kM,fun hc h0 h9 H1 s1=>?_⟩;obtain⟨kN,kC,kG⟩:=kk hc h0 h9;have x1:=x.same s1;have c8:=s1 _ _ ht;refine⟨_,_,x1.ob,by kernel_rfl,_,_,_,x1.ob,EE.cl_j0,EE.n_Asker_wish,_,Hr ..,tw,rfl,_,SqT.of (s1 _ _ df),_,rfl,a,u,t,s.L,mm,ws,wd,rfl,HouT.house (HouT.mono hu (TK.of s1)),wf,SqT.of c8,cT,hc,fun H2 s2=>⟨rfl,?_⟩⟩;by_cases he:Ax mm (Al ws wd)=m
   ·rw[if_pos (by rw[he])];exact⟨by lia,kN he _ (s1.trans s2)⟩
   ·rw[if_neg (fun z=>he (V.int.inj z))];have x2:=x1.same s2;have bO:=s1.trans s2;refine⟨_,_,_,x2.ob,EE.cl_j0,EE.n_Asker_book,_,FD ..,ad.b,rfl,_,_,bO _ _ hb,CC _ _ (by decide +kernel) (by decide +kernel),ad.b,ad.d,t,s.L,m,wd,s.es,rfl,x2.bk,bO _ _ ht,by lia,hz,fun z=>(by rw[hc]at z;cases z),fun _ z=>absurd ⟨h0,h9⟩ z,fun _ _ _ n bt _ H3 s3=>kC he (jq_.mpr ⟨_,bt,rfl⟩) H3 (bO.trans s3),fun _ _ _ cm H3 fZ hf=>?_⟩;have eR:wd∉s.es.map (·.1):=fun z=>by
     obtain⟨p,hp,rfl⟩:=jq_.mp z;have h1:=cm p.2 hp;exact he ((az p hp).trans h1)
    unfold putE at fZ;rw[if_neg eR]at fZ;obtain⟨av,kT⟩:=kG he eR;obtain⟨x3,f3,nk⟩:=x2.putB fZ hf;have f3':=(Frm.of bO a ad).seq f3;exact⟨_,_,x3.ob,by kernel_rfl,a,ad,_,_,B,rfl,⟨_,_,_,_,_,x3⟩,bB.told (fun b hb=>(by cases hb)) eR hc h0 h9 s!"" (by rw[hG];simp),bd,fun aF H4 s' y' wv' go x4 hw4 f4 k4=>kT aF H4 s' y' wv' go x4 hw4 (f3'.trans (AdOk.refl H ad) f4) (AdOk.trans f3' (AdOk.refl H ad) k4)⟩
def C5:CalH P w mg base (CXe P w) EE.j54 14 ["self","mark"] (Td K ao ar bh aW):=by
 refine HG.okE EE.j54 MY (fun vs H Q E h=>?_) (fun au A outer s H vs Q E hr h=>?_)
 ·obtain⟨a,ad,s,wv,x,B,m,rfl,_⟩:=h;rfl
 ·obtain⟨a,ad,s,wv,y,B,m,rfl,⟨gv,rv,zs,ys,us,x⟩,hw,ok,bd,hz,kE,k⟩:=h;have hl:=Ak;refine⟨_,(Ae (Ay (A9 (pvD 0) EE.cl_j0 EE.j53.m (Ds EE).g hr.d (Ds EE).b .nil (Ep fun _ _ _ h=>h) (Aa (pvD 1) Ad)))),?_⟩;nofun;exact⟨_,_,x.ob,by kernel_rfl,a,ad,s,wv,y,B,m,rfl,⟨_,_,_,_,_,x⟩,hw,ok,bd,hz,kE,k⟩
def Ce:CalH P w mg base (CXe P w) EE.j56 14 ["self","word","mark"] (Wc K ao ar bh aQ aW bT bH):=by
 refine HG.okE EE.j56 KZ (fun vs H Q E h=>?_) (fun au A outer s H vs Q E hr h=>?_)
 ·obtain⟨a,t,ad,s,wv,x,B,wd,m,rfl,_⟩:=h;rfl
 ·obtain⟨a,t,ad,s,wv,y,B,wd,m,rfl,⟨gv,rv,zs,ys,us,x⟩,hw,ok,bd,hz,ht,cT,kE,k⟩:=h;have hl:=Ak;refine⟨_,(Ae (Ay (A9 (pvD 0) EE.cl_j0 EE.j55.m (Cr EE).g hr.d (Cr EE).b .nil (Ep fun _ _ _ h=>h) (Aa (pvD 1) (Aa (pvD 2) Ad))))),?_⟩;nofun;exact⟨_,_,x.ob,by kernel_rfl,a,t,ad,s,wv,y,B,wd,m,rfl,⟨_,_,_,_,_,x⟩,hw,ok,bd,hz,ht,cT,kE,k⟩
noncomputable def UW (K:α3)(CA CB:Addr):Sp:=fun vs H Q _=>∃(a dx:Addr) (L most:Nat),vs=[.ref a,.int L,.int most]/\H a=some (.ins CA dx [])/\1<=L/\L<=6/\1<=most/\most<=12/\∀ad H' s x wv,Goes (s039 L most) s x->Asks K CA CB H' a ad s wv->Bj K H' L wv x->(∀y o,H y=some o->y≠a->H' y=some o)->(∀y,H' y=none->H y=none)->(H ad.d=none/\H ad.pw=none/\H ad.pe=none/\H ad.pg=none)->Q .non H'
def C6:⋯ EE.j31 13 ["self","letters","most"] (UW K ao ar):=by
 delta EE.j31 MU
 ·obtain⟨a,dx,L,most,rfl,_⟩:=h;rfl
 ·obtain⟨a,dx,L,most,rfl,ha,l1,l6,m1,m12,k⟩:=h;have hl:=Ak;refine⟨_,(Ac (Ay (YJ rfl EE.m_jd EE.j29.m (JD EE).g hr.d (JD EE).b .nil AB (Aa (pvD 0) (Aa (pvD 1) (Aa (pvD 2) (Aa (Ow EE.j0.m (JC EE).g hr.d rfl EE.m_j1 (JC EE).b .nil AB (Aa (pvD 1) Ad)) (Aa (A7 (Aa (Bt Ad) Ad)) (Aa (A9 (pvD 0) EE.cl_j0 EE.j30.m (Dp EE).g hr.d (Dp EE).b .nil AB (Aa (pvD 1) Ad)) Ad))))))))
   (Ac (Ay (AR (pvD 0) EE.cl_j0 EE.j9.m (AJ EE).g hr.d (AJ EE).b .nil AB))
   (Ae (Ay (AR (pvD 0) EE.cl_j0 EE.j27.m (Bo EE).g hr.d (Bo EE).b .nil AB))))),?_⟩
  nofun;intro b iH lS jG aA;have cZ:a≠b:=fun z=>by rw[<-z,ha]at lS;cases lS
  refine⟨b,iH,L,rfl,Ab,fun d H2 hd bk hf=>⟨rfl,by lia,fun p hp=>⟨by lia,fun pw eQ=>?_⟩⟩⟩;have s2:Same H H2:=fun y o hy=>by
   have y1:y≠b:=fun z=>by rw[z,lS]at hy;cases hy
   have y2:y≠iH:=fun z=>by rw[z,jG]at hy;cases hy
   exact hf y o (by rw[Ah y1,Ah y2];exact hy) y1
  have nu:H d=none:=by
   cases h:H d with
   |none=>rfl
   |some o=>
    have y1:d≠b:=fun z=>by rw[z,lS]at h;cases h
    have y2:d≠iH:=fun z=>by rw[z,jG]at h;cases h
    rw[Ah y1,Ah y2,h]at hd;cases hd
  have sp:=Same.new (o:=.tup []) hp;have s3:=sp.trans (Same.new (o:=.lst [.ref p]) eQ);have bI:=(Same.new (o:=.lst [.ref p]) eQ) _ _ (show upd H2 p (.tup []) p=some (.tup []) from Ab);have jF:upd (upd H2 p (.tup [])) pw (.lst [.ref p]) pw=some (.lst [.ref p]):=Ab;generalize upd (upd H2 p (.tup [])) pw (.lst [.ref p])=H3 at s3 bI jF ⊢;have fq:H pw=none:=s2.none (sp.none eQ);refine⟨_,_,s3 _ _ (s2 _ _ ha),by kernel_rfl,a,L,rfl,fun pe te H4 s4 nv hpe4 kl=>?_⟩;refine⟨a,dx,b,pw,pe,L,most,rfl,s4 _ _ (s3 _ _ (s2 _ _ ha)),fun pg H5 fO kh hpg5 iK ny=>?_⟩;have gM:=s3.trans s4;have ky:=s2.trans gM;have bk4:=bk.mono gM;have ne:∀y,H y=none->y≠a:=fun y hy z=>by rw[z,ha]at hy;cases hy
  have iL:H pe=none:=s2.none (s3.none nv);have dS:H pg=none:=ky.none fO;have cE:=s4 _ _ bI;have hpH:H p=none:=s2.none hp;have hteA:te≠a:=fun z=>by
   have:=ky _ _ ha;rw[z,this]at kl;cases kl
  have x5:AskAt K ao ar H5 a ⟨dx,b,d,pw,pe,pg⟩ {s039 L most with G:=[]} .non .non .non [.ref p] [.ref te] []:=
   ⟨kh,BookAt.tk bk4 (fun o h=>iK _ _ h (qm_ cZ)) (fun o h=>iK _ _ h (ne _ nu)),iK _ _ (s4 _ _ jF) (ne _ fq),Az.nil.snoc (w:=[]) (iK _ _ cE (ne _ hpH)),iK _ _ hpe4 (ne _ iL),Az.nil.snoc (w:=[]) (iK _ _ kl hteA),hpg5,Az.nil,fun z=>(by rw[show pe=pw from z.symm,jF]at nv;cases nv),fun z=>(by rw[show pg=pw from z.symm,s4 _ _ jF]at fO;cases fO),fun z=>(by rw[show pg=pe from z.symm,hpe4]at fO;cases fO),rfl,rfl⟩
  have hmm:(most+1)*(most+1)<=13*13:=j3_ s!"" s!"";have bd:Bd 0 (s039 L most):=by
   show 0+(most+1)*(most+1)+most<=500;lia
  have ok:=O2 0 l1 l6 m1 m12;have sz:=ok.sz bd;refine⟨_,_,x5.ob,by kernel_rfl,a,_,_,.non,rfl,⟨_,_,_,_,_,x5⟩,⟨sz.l6,sz.w,sz.e,sz.b⟩,fun ad6 H6 x6 f6 k6=>?_⟩;obtain⟨gv6,rv6,zs6,ys6,us6,x6⟩:=x6;refine⟨_,_,x6.ob,by kernel_rfl,a,ad6,s039 L most,.non,0,rfl,⟨_,_,_,_,_,x6⟩,ok,bd,fun ad7 H7 s' y wv' go x7 hw7 f7 k7=>?_⟩;have f57:=f6.trans k6 f7;obtain⟨q1,q2,q3,q4,q5,q6⟩:=AdOk.trans f6 k6 k7;have hn:∀y,H7 y=none->H y=none:=fun y hy=>ky.none (ny y (f57.2 y hy));refine k ad7 H7 s' y wv' go x7 hw7 (fun z o hz hza=>?_) hn ⟨by rw[q3];exact nu,by rw[q4];exact fq,by rw[q5];exact iL,?_⟩
  ·exact f57.1 z o (iK _ _ (ky _ _ hz) hza) hza (fun e=>by rw[e]at hz;rw[show H d=none from nu]at hz;cases hz) (fun e=>by rw[e]at hz;rw[show H pw=none from fq]at hz;cases hz) (fun e=>by rw[e]at hz;rw[show H pe=none from iL]at hz;cases hz) (fun e=>by rw[e]at hz;rw[show H pg=none from dS]at hz;cases hz)
  ·rcases q6 with q6|q6
   ·rw[q6];exact dS
   ·exact ky.none (ny _ q6)
def forB {K:α3} (Pv:Nat->St->Hp->Prop)(h0:Pv 0 σ H)(hl:∀i σ H,i<=xs.length->Pv i σ H->SqB K H t a xs)
  (hs:∀i x σ H,xs[i]?=some x->Pv i σ H->g x σ H fun aq H2=>tb {D with nx:=Pv (i+1),ct:=Pv (i+1),bk:=D.nx} aq H2) (hd:∀σ H,Pv xs.length σ H->D.nx σ H):((∃xs,SqL K H a xs)/\ForW (Itl K a) g tb D σ H)\/((∃xs,SqT K H a xs)/\ForW (Itt K a) g tb D σ H):=by
 cases t
 ·exact .inl ⟨⟨_,hl 0 σ H (j9_ _) h0⟩,forL Pv h0 hl hs hd⟩
 ·exact .inr ⟨⟨_,hl 0 σ H (j9_ _) h0⟩,forT Pv h0 hl hs hd⟩
noncomputable def O4 (K:α3)(H:Hp)(xs:List V)(ws:α1):Prop:=xs.length=ws.length/\∀(i:Nat) (r:α2),ws[i]?=some r->∃(t:Bool) (a:Addr),xs[i]?=some (.ref a)/\SqB K H t a (r.map V.int)
def O4.mono {K:α3} (h:O4 K H xs ws)(s:Same H H'):O4 K H' xs ws:=by
 refine⟨h.1,fun i r hi=>?_⟩;obtain⟨t,a,e,b⟩:=h.2 i r hi;exact⟨t,a,e,b.mono s⟩
def O4.at {K:α3}{H:Hp}{xs:List V}{ws:α1}(h:O4 K H xs ws){i:Nat}{x:V}(hx:xs[i]?=some x):∃(r:α2) (t:Bool) (a:Addr),ws[i]?=some r/\x=.ref a/\SqB K H t a (r.map V.int):=by
 have hi:i<ws.length:=by rw[<-h.1];exact (ja_.mp hx).1
 obtain⟨t,a,e,b⟩:=h.2 i ws[i] (by simp[hi]);rw[hx]at e;exact⟨ws[i],t,a,by simp[hi],jB_ e,b⟩
noncomputable def mkB (n:Int):Bool:=decide (0<=n)&&decide (n<=1000000000)
noncomputable def okM (ms:α2):Bool:=ms.all mkB
noncomputable def goB (n g:Int):Bool:=decide (0<=g)&&decide (g<n)
noncomputable def okR (L n:Int)(r:α2):Bool:=decide ((r.length:Int)=L)&&r.all (goB n)
noncomputable def okH (L:Int)(ms:α2)(ws:α1):Bool:=(decide (1<=L)&&decide (L<=6))&&((decide (1<=ms.length)&&decide (ms.length<=40))&&(okM ms&&(decide (ws.length=ms.length)&&ws.all (okR L ms.length))))
noncomputable def YZ (BH:Addr):Sp:=fun vs H Q E=>∃L:Int,vs=[.int L]/\((decide (1<=L)&&decide (L<=6))=true->Q .non H)/\((decide (1<=L)&&decide (L<=6))=false->E (.ref BH) none H)
def J7:CalH P w mg base (CXe P w) EE.j34 1 ["letters"] (YZ aV):=by
 refine HG.okE EE.j34 JY (fun vs H Q E h=>?_) (fun au A outer s H vs Q E hr h=>?_)
 ·obtain⟨L,rfl,_⟩:=h;rfl
 ·obtain⟨L,rfl,k,kE⟩:=h;have hl:=Ak;refine⟨_,(Ae (AY (Gw (Kb IM IM Ag (pvD 0) (Sl rfl EE.q_j8)))
   (Ae (BO EE.m_j5 EE.x_j5 rfl rfl (Aa As Ad)))
   Aw)),?_⟩
  nofun;by_cases h1:1<=L
  ·rw[if_pos h1];by_cases h6:L<=6
   ·rw[if_neg (by simp[h6])];exact k (by simp[h1,h6])
   ·rw[if_pos (by simp[h6])];exact⟨by lia,kE (by simp[h6])⟩
  ·rw[if_neg h1];exact⟨by lia,kE (by simp[h1])⟩
noncomputable def Y0 (BH:Addr):Sp:=fun vs H Q E=>∃n:Nat,vs=[.int n]/\((decide (1<=n)&&decide (n<=40))=true->Q .non H)/\((decide (1<=n)&&decide (n<=40))=false->E (.ref BH) none H)
def LO:CalH P w mg base (CXe P w) EE.j37 1 ["rooms"] (Y0 aV):=by
 refine HG.okE EE.j37 LG (fun vs H Q E h=>?_) (fun au A outer s H vs Q E hr h=>?_)
 ·obtain⟨L,rfl,_⟩:=h;rfl
 ·obtain⟨L,rfl,k,kE⟩:=h;have hl:=Ak;refine⟨_,(Ae (AY (Gw (Kb IM IM Ag (pvD 0) (Sl rfl EE.q_jb)))
   (Ae (BO EE.m_j5 EE.x_j5 rfl rfl (Aa As Ad)))
   Aw)),?_⟩
  nofun;by_cases h1:1<=L
  ·rw[if_pos s!""];by_cases h6:L<=40
   ·rw[if_neg (by simp;lia)];exact k (by simp[h1,h6])
   ·rw[if_pos (by simp;lia)];exact⟨by lia,kE (by simp[h6])⟩
  ·rw[if_neg s!""];exact⟨by lia,kE (by simp[h1])⟩
noncomputable def Y1 (K:α3)(BH:Addr):Sp:=fun vs H Q E=>∃(t:Bool) (a:Addr) (ms:α2),vs=[.ref a]/\SqB K H t a (ms.map V.int)/\ms.length<=900/\(okM ms=true->∀H',Same H H'->Q .non H')/\(okM ms=false->∀H',Same H H'->E (.ref BH) none H')
def LP:CalH P w mg base (CXe P w) EE.j36 2 ["marks"] (Y1 K aV):=by
 refine HG.okE EE.j36 LF (fun vs H Q E h=>?_) (fun au A outer s H vs Q E hr h=>?_)
 ·obtain⟨t,a,ms,rfl,_⟩:=h;rfl
 ·obtain⟨t,a,ms,rfl,ha,hz,k,kE⟩:=h;have hl:=Ak;refine⟨_,(Ae (AY (Gw (ptB (Kp (AE (Kf rfl) rfl EE.all xI_ (Aa (Be rfl (Bq rfl) (cp:=Fw) oq (Px (pvD 0)) (fun _ _ _ _=>(Ar (i:=0) HY rfl (ou rfl))) (fun _ _ _ _=>Bu) (fun _ _ _ _=>(Aj (L3 EE) hr.d AB (Aa (pvD 0) Ad)))) Ad)))))
   (Ae (BO EE.m_j5 EE.x_j5 rfl rfl (Aa As Ad)))
   Aw)),?_⟩
  nofun;refine P4 (aj:=[]) (fun x=>match x with | .int n=>.bl (mkB n)|_=>.non) rfl ha (by rw[jb_];lia) (fun x hx R hR=>?_) (fun D hD=>?_)
  ·obtain⟨n,_,rfl⟩:=C0 hx;nofun;exact⟨n,rfl,hR⟩
  ·refine⟨D,rfl,ms.map mkB,SqL.of ?_,?_⟩
   ·rw[Ab,jN_,jN_];rfl
   rw[pD];cases hv:okM ms with
   |true=>
    rw[if_neg (by rw[show ms.all (id ∘ mkB)=true from hv];decide)];exact k hv _ (Same.new hD)
   |false=>
    rw[if_pos (by rw[show ms.all (id ∘ mkB)=false from hv];decide)];exact⟨by lia,kE hv _ (Same.new hD)⟩
noncomputable def Y2 (K:α3)(BH:Addr):Sp:=fun vs H Q E=>∃(t:Bool) (a:Addr) (L:Int) (n:Nat) (xs:List V) (ws:α1),vs=[.int L,.int n,.ref a]/\SqB K H t a xs/\O4 K H xs ws/\(∀r∈ws,r.length<=900)/\((decide (ws.length=n)&&ws.all (okR L n))=true->∀H',Same H H'->Q .non H')/\((decide (ws.length=n)&&ws.all (okR L n))=false->∀H',Same H H'->E (.ref BH) none H')
def M8:CalH P w mg base (CXe P w) EE.j38 1 ["letters","rooms","ways"] (Y2 K aV):=by
 refine HG.okE EE.j38 HV (fun vs H Q E h=>?_) (fun au A outer s H vs Q E hr h=>?_)
 ·obtain⟨t,a,L,n,xs,ws,rfl,_⟩:=h;rfl
 ·obtain⟨t,a,L,n,xs,ws,rfl,ha,hr,hz,k,kE⟩:=h;have hl:=Ak;refine⟨_,(Ac (AY (ptT (Au (opN G8) (AE (lenD Aq) (by rfl) EE.len jO_ (Aa (pvD 2) Ad)) (pvD 1) (AG _)))
   (Ae (BO EE.m_j5 EE.x_j5 rfl rfl (Aa As Ad)))
   Aw)
   (Ae (Bh PassesOwn.leaving rfl (Px (pvD 2)) (Ar (i:=3) HV.nd rfl (ou rfl))
   (Ac (AY (ptT (Au (opN G8) (AE (lenD Aq) (by rfl) EE.len jO_ (Aa (pvD 3) Ad)) (pvD 0) (AG _)))
   (Ae (BO EE.m_j5 EE.x_j5 rfl rfl (Aa As Ad)))
   Aw)
   (Ae (AY (Gw (ptB (Kp (AE (Kf rfl) rfl EE.all xI_ (Aa (Be rfl (Bq rfl) (cp:=Gz) ⟨⟨rfl,rfl⟩,oq⟩ (Px (pvD 3)) (fun _ _ _ _=>(Ar (i:=0) Je rfl (ou rfl))) (fun _ _ _ _=>Bu) (fun _ _ _ _=>(Mr IM Nm Ag (pvD 0) (pvD 1)))) Ad)))))
   (Ae (BO EE.m_j5 EE.x_j5 rfl rfl (Aa As Ad)))
   Aw)))))),?_⟩
  nofun;refine⟨_,ha.or,?_⟩;rw[hr.1];by_cases hn:ws.length=n
  ·rw[if_neg (by simp;lia)];rw[jR_ hn,zj_]at k kE;obtain⟨Pv,aw⟩:∃Pv:Nat->St->Hp->Prop,∀i aj H',Pv i aj H'↔(Same H H'/\(ws.take i).all (okR L n)=true/\∃o,aj=[some (.int L),some (.int n),some (.ref a),o]):=⟨_,fun _ _ _=>ql_⟩;refine forB (t:=t) (xs:=xs) Pv ((aw _ _ _).mpr ⟨Same.refl _,by simp,none,rfl⟩) (fun i aj H' _ h'=>ha.mono ((aw _ _ _).mp h').1) (fun i x aj H' hx h'=>?_) (fun aj H' h'=>?_)
   ·obtain⟨s1,az,o,rfl⟩:=(aw _ _ _).mp h';obtain⟨r,t',a',kz,rfl,hB⟩:=(hr.mono s1).at hx;have iM:=hz r (jc_ kz);have hbad:okR L n r=false->ws.all (okR L n)=false:=fun hb=>by
     rw[List.all_eq_false];exact⟨r,jc_ kz,by rw[hb];decide⟩
    nofun;refine⟨_,hB.or,?_⟩;rw[jb_];by_cases hL:(r.length:Int)=L
    ·rw[if_neg (by simp[hL])];refine P4 (aj:=[some (.int n)]) (fun x=>match x with | .int g=>.bl (goB n g)|_=>.non) rfl hB (by rw[jb_];lia) (fun x hx R hR=>?_) (fun D hD=>?_)
     ·obtain⟨g,_,rfl⟩:=C0 hx;nofun;by_cases h0:0<=g
      ·simp only[h0,xS_];simpa [goB,h0] using hR
      ·simp only[h0,q7_];simpa [goB,h0] using hR
     ·refine⟨D,rfl,r.map (goB n),SqL.of ?_,?_⟩
      ·rw[Ab,jN_,jN_];rfl
      rw[pD];have e1:okR L n r=r.all (id ∘ goB n):=by unfold okR;rw[jR_ hL,zj_];rfl
      cases hv:okR L n r with
      |true=>
       rw[if_neg (by rw[<-e1,hv];decide)];refine (aw _ _ _).mpr ⟨s1.newT hD,?_,_,rfl⟩;rw[jA_,kz,List.all_append,az];simp[hv]
      |false=>
       rw[if_pos (by rw[<-e1,hv];decide)];exact⟨by lia,kE (hbad hv) _ (s1.newT hD)⟩
    ·rw[if_pos (by simp[hL])];exact⟨by lia,kE (hbad (by unfold okR;rw[jP_ hL];rfl)) _ s1⟩
   ·obtain⟨s1,az,o,rfl⟩:=(aw _ _ _).mp h';rw[hr.1,jE_]at az;exact k az _ s1
  ·rw[if_pos (by simp;lia)];exact⟨by lia,kE (by simp[hn]) _ (Same.refl _)⟩
def Zl {K:α3} (Pv:Nat->List V->St->Hp->Prop)(h0:Pv 0 [] (cp.st σ) H)(hz:xs.length<sizeLine)
  (hl:∀i ys σ H,i<=xs.length->Pv i ys σ H->SqB K H t a xs/\ys.length<=i) (iN:SqB K H t a xs)
  (hs:∀i x ys σ H,xs[i]?=some x->Pv i ys σ H->g x σ H fun aq H2=>tc aq H2 fun b H3=>if b=true then te aq H3 fun v H4=>Pv (i+1) (ys++[v]) aq H4 else Pv (i+1) ys aq H3)
  (hd:∀ys σ H,Pv xs.length ys σ H->∀D,H D=none->Q (.ref D) (upd H D (.lst ys))):((∃xs,SqL K H a xs)/\IQ (Itl K a) cp g tc te σ H Q)\/((∃xs,SqT K H a xs)/\IQ (Itt K a) cp g tc te σ H Q):=by
 cases t
 ·exact .inl ⟨⟨_,iN⟩,JV Pv h0 hz hl hs hd⟩
 ·exact .inr ⟨⟨_,iN⟩,Yo Pv h0 hz hl hs hd⟩
noncomputable def Gv (K:α3)(H:Hp)(zs:List V)(ws:α1):Prop:=zs.length=ws.length/\∀(i:Nat) (r:α2),ws[i]?=some r->∃c,zs[i]?=some (.ref c)/\SqT K H c (r.map V.int)
def Gv.nil {K:α3} : Gv K H [] []:=⟨rfl,fun i r h=>by simp at h⟩
def Gv.mono {K:α3} (h:Gv K H xs ws)(s:Same H H'):Gv K H' xs ws:=by
 refine⟨h.1,fun i r hi=>?_⟩;obtain⟨a,e,b⟩:=h.2 i r hi;exact⟨a,e,s.seqT b⟩
def Gv.snoc {K:α3} (h:Gv K H xs nz)(ht:SqT K H t (r.map V.int)):Gv K H (xs++[.ref t]) (nz++[r]):=by
 refine⟨by simp[h.1],fun i r' hi=>?_⟩;by_cases hl:i<nz.length
 ·rw[ji_ hl]at hi;rw[ji_ (by rw[h.1];exact hl)];exact h.2 i r' hi
 ·have:=(ja_.mp hi).1;rw[jf_,jo_]at this;have e:i=nz.length:=by lia
  subst e;rw[jv_ (jh_ _),j7_]at hi;simp at hi;subst hi;exact⟨t,by rw[<-h.1];simp,ht⟩
noncomputable def Xf (K:α3)(BH:Addr):Sp:=fun vs H Q E=>∃(t t2:Bool) (a b:Addr) (L:Int) (ms:α2) (xs:List V) (ws:α1),vs=[.int L,.ref a,.ref b]/\SqB K H t a (ms.map V.int)/\SqB K H t2 b xs/\O4 K H xs ws/\ms.length<=900/\ws.length<=900/\(∀r∈ws,r.length<=900) /\
 (okH L ms ws=true->∀h m y zs H',Same H H'->H' h=some (.tup [.int L,.ref m,.ref y])->SqT K H' m (ms.map V.int)->H' y=some (.tup zs)->Gv K H' zs ws->Q (.ref h) H')/\(okH L ms ws=false->∀H',Same H H'->E (.ref BH) none H')
def Te:CalH P w mg base (CXe P w) EE.j39 3 ["letters","marks","ways"] (Xf K aV):=by
 refine HG.okE EE.j39 W8 (fun vs H Q E h=>?_) (fun au A outer s H vs Q E hr h=>?_)
 ·obtain⟨t,t2,a,b,L,ms,xs,ws,rfl,_⟩:=h;rfl
 ·obtain⟨t,t2,a,b,L,ms,xs,ws,rfl,ha,hb,hR,hz1,cT,hz3,k,kE⟩:=h;have hl:=Ak;refine⟨_,(Ac (Ay (Aj (J7 EE) hr.d (Ep fun _ _ _ h=>h) (Aa (pvD 0) Ad)))
   (Ac (Ay (Aj (LO EE) hr.d (Ep fun _ _ _ h=>h) (Aa (AE (lenD Aq) (by rfl) EE.len jO_ (Aa (pvD 1) Ad)) Ad)))
   (Ac (Ay (Aj (LP EE) hr.d (Ep fun _ _ _ h=>h) (Aa (pvD 1) Ad)))
   (Ac (Ay (Aj (M8 EE) hr.d (Ep fun _ _ _ h=>h) (Aa (pvD 0) (Aa (AE (lenD Aq) (by rfl) EE.len jO_ (Aa (pvD 1) Ad)) (Aa (pvD 2) Ad)))))
   (Ae (Ap (Bt (Aa (pvD 0) (Aa (Av CY rfl EE.tuple j0_ (Aa (pvD 1) Ad)) (Aa (Av CY rfl EE.tuple j0_ (Aa (Be rfl (Bq rfl) (cp:=Kl) oq (Px (pvD 2)) (fun _ _ _ _=>(Ar (i:=0) OR rfl (ou rfl))) (fun _ _ _ _=>Bu) (fun _ _ _ _=>(Av (Lx (K:=K) rfl) rfl EE.tuple j0_ (Aa (pvD 0) Ad)))) Ad)) Ad)))))))))),?_⟩
  nofun;refine⟨L,rfl,fun c1=>⟨_,ha.or,ms.length,by rw[jb_],fun c2=>⟨t,a,ms,rfl,ha,hz1,fun c3 H1 s1=>⟨_,(ha.mono s1).or,t2,b,L,ms.length,xs,ws,by rw[jb_],hb.mono s1,hR.mono s1,hz3,fun c4 H2 s2=>?_,fun c4 H2 s2=>kE (by unfold okH;rw[c1,c2,c3,c4];rfl) H2 (s1.trans s2)⟩,fun c3 H1 s1=>kE (by unfold okH;rw[c1,c2,c3];rfl) H1 s1⟩,fun c2=>kE (by unfold okH;rw[c1,c2];rfl) H (Same.refl _)⟩,fun c1=>kE (by unfold okH;rw[c1];rfl) H (Same.refl _)⟩;have hok:okH L ms ws=true:=by unfold okH;rw[c1,c2,c3,c4];rfl
  have bO:=s1.trans s2;clear kE;have key:∀m H3,Same H H3->SqT K H3 m (ms.map V.int)->∀(zs:List V) (H4:Hp) (D:Addr),Same H3 H4->Gv K H4 zs ws->H4 D=none->∀l1,upd H4 D (.lst zs) l1=none->∀h,upd (upd H4 D (.lst zs)) l1 (.tup zs) h=none->Q (.ref h) (upd (upd (upd H4 D (.lst zs)) l1 (.tup zs)) h (.tup [.int L,.ref m,.ref l1])):=by
   intro m H3 s3 hm zs H4 D s4 hRT hD l1 dh h hh;have sD:=((Same.new hD (o:=.lst zs)).newT dh (o:=.tup zs)).newT hh (o:=.tup [.int L,.ref m,.ref l1]);exact k hok h m l1 zs _ ((s3.trans s4).trans sD) Ab ((s4.trans sD).seqT hm) (Same.new hh _ _ Ab) (hRT.mono sD)
  have comp:∀m H3,Same H H3->SqT K H3 m (ms.map V.int)->∀G:VK,(∀(zs:List V) (H4:Hp) (D:Addr),Same H3 H4->Gv K H4 zs ws->H4 D=none->G (.ref D) (upd H4 D (.lst zs)))->((∃xs,SqL K H3 b xs)/\IQ (Itl K b) Kl (IK 0) NG (tCB (fun xs H Q=>∃p,xs=[V.ref p]/\∃x,(SqL K H p x/\∀(l:Addr),H l=none->Q (V.ref l) (upd H l (HO.tup x)))\/SqT K H p x/\Q (V.ref p) H) (T2 (Uy 0) tNil)) [some (V.int L),some (V.ref a),some (V.ref b)] H3 G)\/((∃xs,SqT K H3 b xs)/\IQ (Itt K b) Kl (IK 0) NG (tCB (fun xs H Q=>∃p,xs=[V.ref p]/\∃x,(SqL K H p x/\∀(l:Addr),H l=none->Q (V.ref l) (upd H l (HO.tup x)))\/SqT K H p x/\Q (V.ref p) H) (T2 (Uy 0) tNil)) [some (V.int L),some (V.ref a),some (V.ref b)] H3 G):=by
   intro m H3 s3 hm G hG;refine Zl (t:=t2) (xs:=xs) (fun i zs aj H'=>Same H3 H'/\Gv K H' zs (ws.take i)/\∃o,aj=[o]) ⟨Same.refl _,Gv.nil,none,rfl⟩ (by rw[hR.1];lia) (fun i ys aj H' hi h'=>⟨hb.mono (s3.trans h'.1),by rw[h'.2.1.1,jI_];lia⟩) (hb.mono s3) (fun i x zs aj H' hx h'=>?_) (fun zs aj H' h' D hD=>?_)
   ·obtain⟨s4,hT,o,rfl⟩:=h';obtain⟨r,t',a',kz,rfl,hB⟩:=(hR.mono (s3.trans s4)).at hx;have et:ws.take (i+1)=ws.take i++[r]:=by rw[jA_,kz];rfl
    nofun;cases t' with
    |false=>exact⟨_,.inl ⟨hB,fun l hl=>⟨s4.newT hl,by rw[et];exact (hT.mono (Same.new hl)).snoc (SqT.of Ab),_,rfl⟩⟩⟩
    |true=>exact⟨_,.inr ⟨hB,⟨s4,by rw[et];exact hT.snoc hB,_,rfl⟩⟩⟩
   ·obtain⟨s4,hT,o,rfl⟩:=h';rw[hR.1,jE_]at hT;exact hG zs H' D s4 hT hD
  cases t with
  |false=>
   refine⟨_,.inl ⟨ha.mono bO,fun m hm=>comp m _ (bO.newT hm) (SqT.of Ab) _ fun zs H4 D s4 hT hD=>?_⟩⟩;exact⟨D,rfl,_,.inl ⟨SqL.of Ab,fun l1 dh=>⟨by lia,fun h hh=>key m _ (bO.newT hm) (SqT.of Ab) zs H4 D s4 hT hD l1 dh h hh⟩⟩⟩
  |true=>
   refine⟨_,.inr ⟨ha.mono bO,comp a _ bO (ha.mono bO) _ fun zs H4 D s4 hT hD=>?_⟩⟩;exact⟨D,rfl,_,.inl ⟨SqL.of Ab,fun l1 dh=>⟨by lia,fun h hh=>key a _ bO (ha.mono bO) zs H4 D s4 hT hD l1 dh h hh⟩⟩⟩
def Xg:(Str.ofString "abcdef").cps.toList=[97,98,99,100,101,102]:=by decide +kernel
def Qe:∀(ls:List Nat) (a:Array Nat),(ls.map fun c=>(⟨#[c]⟩:Str)).foldl (fun ah p=>ah++(Str.ofString "").cps++p.cps) a=a++ls.toArray
 |[],a=>by simp
 |c::ls,a=>by
  rw[jJ_,xh_,Qe ls];have e:(Str.ofString "").cps = #[]:=by decide +kernel
  rw[e];simp
def UX (ls:List Nat):Txt.join (Str.ofString "") (ls.map fun c=>(⟨#[c]⟩:Str))=⟨ls.toArray⟩:=by
 unfold Txt.join Builtin.Str.glued;cases ls with
 |nil=>rfl
 |cons c ls=>
  rw[jJ_,List.drop_one,List.tail_cons,Qe];show (⟨#[c]++ls.toArray⟩:Str)=_;simp
noncomputable def BS (ws:α2):Str:=if ws=[] then Str.ofString "." else ⟨(ws.map fun x=>97+x.toNat).toArray⟩
def Tf (z:Str)(a b:Option Int):(Txt.slice z a b).length<=z.length:=zv_ z a b
def Tg:(Str.ofString "abcdef").length=6:=by decide +kernel
def Ld:(Str.ofString "").length=0:=by decide +kernel
def We (h:inW 6 n=true):atI (Str.ofString "abcdef").cps.toList n=some (97+n.toNat):=by
 unfold inW at h;simp at h;rw[Xg];have:n=0\/n=1\/n=2\/n=3\/n=4\/n=5:=by lia
 rcases this with rfl|rfl|rfl|rfl|rfl|rfl<;>rfl
def N6 (h:ws ≠ []):Txt.join (Str.ofString "") (ws.map fun n=>(⟨#[97+n.toNat]⟩:Str))=BS ws:=by
 have:=UX (ws.map fun n=>97+n.toNat);rw[jN_]at this;unfold BS;rw[if_neg h];exact this
def M9:∀ws:α2,((ws.map fun n=>(⟨#[97+n.toNat]⟩:Str)).map fun s:Str=>s.length).sum=ws.length
 |[]=>rfl
 |w::ws=>by
  rw[jJ_,jJ_,zl_,M9 ws,jD_];show 1+_=_;lia
def Kn (ws:α2):(BS ws).length<=ws.length+1:=by
 unfold BS;split
 ·have:(Str.ofString ".").length=1:=by decide +kernel
  lia
 ·show ((ws.map fun x=>97+x.toNat).toArray).size<=_;simp
noncomputable def Qf (K:α3):Sp:=fun vs H Q _=>∃(a:Addr) (ws:α2),vs=[.ref a]/\SqT K H a (ws.map V.int)/\ws.length<=700/\(∀x∈ws,inW 6 x=true)/\∀H',Same H H'->Q (.str (BS ws)) H'
def FF:⋯ EE.j57 1 ["word"] (Qf K):=by
 delta EE.j57 NZ
 ·obtain⟨a,ws,rfl,_⟩:=h;rfl
 ·obtain⟨a,ws,rfl,ha,hz,hw,k⟩:=h;have hl:=Ak;refine⟨_,(Ac (AY (ptT (Au (opE IL) (AE (lenD Aq) (by rfl) EE.len jO_ (Aa (pvD 0) Ad)) Ag (AG _)))
   (Ae (Ap (Ss rfl EE.q_jg)))
   Aw)
   (Ae (Ap (Ek qi_ xJ_ xK_ Ki As (Aa (Be rfl (Bq rfl) (cp:=Ib) oq (Jt (pvD 0)) (fun _ _ _ _=>(Ar (i:=0) J3 rfl (ou rfl))) (fun _ _ _ _=>Bu) (fun _ _ _ _=>(T6 Rz (Ss rfl EE.q_jf) (pvD 0) (fun _ _=>rfl)))) Ad))))),?_⟩
  nofun;refine⟨_,.inr ha,?_⟩;rw[jb_];refine ite2 (fun h0=>?_) (fun h0=>?_)
  ·have e:ws=[]:=qD_.mp s!"";have:=k H (Same.refl _);rw[e]at this;exact this
  ·have aA:ws ≠ []:=fun e=>h0 (by rw[e];rfl);obtain⟨f,hf⟩:∃f:V->V,∀n:Int,f (V.int n)=.str ⟨#[97+n.toNat]⟩:=⟨fun x=>match x with | .int n=>.str ⟨#[97+n.toNat]⟩|_=>.non,fun _=>rfl⟩;refine⟨rfl,⟨_,ha⟩,HH (aj:=[]) f rfl ha (by rw[jb_];lia) (fun x hx R hR=>?_) (fun D hD=>?_)⟩
   ·obtain⟨n,hn,rfl⟩:=C0 hx;have bt:=hw n hn;rw[hf]at hR;nofun;exact⟨by rw[Tg];lia,_,We bt,hR⟩
   ·have em:(ws.map V.int).map f=(ws.map fun n=>(⟨#[97+n.toNat]⟩:Str)).map V.str:=by
     rw[jN_,jN_];exact jM_ fun n _=>hf n
    rw[em];refine⟨D,rfl,_,SqL.of Ab,by rw[Ld];lia,by rw[M9,jb_];lia,?_⟩;rw[N6 aA];exact k _ (Same.new hD)
def str0:Str.ofString "0"=⟨#[48]⟩:=by decide +kernel
def figs (h:48<=c/\c<=57):(Builtin.Str.occurrences (Str.ofString "0123456789") ⟨#[c]⟩ 0 (Str.ofString "0123456789").length 1).isEmpty=false:=by
 have:∀d:Nat,d<10->(Builtin.Str.occurrences (Str.ofString "0123456789") ⟨#[48+d]⟩ 0 (Str.ofString "0123456789").length 1).isEmpty=false:=by decide +kernel
 have h':=this (c-48) s!""
 rwa [show 48+(c-48)=c by lia]at h'
noncomputable def Xh:Sp:=fun vs H Q _=>∃n:Int,vs=[.str (nt n)]/\0<=n/\n<10 ^ 10/\∀H',Same H H'->Q (.int n) H'
def GH:⋯ EE.j42 1 ["text"] (Xh):=by
 delta EE.j42 LH
 ·obtain⟨n,rfl,_⟩:=h;rfl
 ·obtain⟨n,rfl,h0,h1,k⟩:=h;have hl:=Ak;obtain⟨l1,l2⟩:=KN h0 h1;have hsz:(nt n).cps.toList.length=(nt n).length:=by simp[Str.length]
  have hsz':(nt n).cps.size=(nt n).length:=rfl;refine⟨_,(Ac (AY (PW.pt (Ra (Gw (Kb IM IM Ag (AE Ny (by rfl) EE.len jO_ (Aa (pvD 0) Ad)) (Sl rfl EE.q_j9))) (Nj (Gw (ptB (Kp (AE (Kf rfl) rfl EE.all xI_ (Aa (Be rfl (Bq rfl) (cp:=Fx) oq (YC (pvD 0)) (fun _ _ _ _=>(Ar (i:=0) HZ rfl (ou rfl))) (fun _ _ _ _=>Bu) (fun _ _ _ _=>(Kt Rk (pvD 0) (Ss rfl EE.q_je) rfl))) Ad))))))))
   (Ae F6)
   Aw)
   (Ac (AY (PW.pt (U9 (ptT (Au (opE IL) (T6 Rz (pvD 0) Ag (fun _ _=>rfl)) As (AG _))) (Q9 (ptT (Au (opN G8) (pvD 0) As (AG _))))))
   (Ae F6)
   Aw)
   (Ae (Ap (Av Sw rfl EE.int ze_ (Aa (pvD 0) Ad)))))),?_⟩
  nofun;refine⟨by lia,?_⟩;rw[if_pos s!"",if_neg (by simp;lia)];refine YD (fun i zs aj H'=>H'=H/\zs=(om i).map (fun _=>V.bl true)/\∃o,aj=[o]) ⟨rfl,rfl,none,rfl⟩ (by rw[hsz'];lia) (fun i zs aj H' hi h'=>by rw[h'.2.1];simp) (fun i c zs aj H' hc h'=>?_) (fun zs aj H' h' D hD=>?_)
  ·obtain⟨rfl,rfl,o,rfl⟩:=h';have hd:=Qa h0 (jc_ (show (nt n).cps.toList[i]?=some c by simpa using hc));nofun;rw[figs hd];exact⟨by rw[xi_,jz_];rfl,_,rfl⟩
  ·obtain⟨rfl,rfl,o,rfl⟩:=h';refine⟨D,rfl,(om (nt n).cps.size).map (fun _=>true),SqL.of (by rw[Ab,jN_];rfl),?_⟩;rw[if_neg (by simp)];obtain⟨c,hc⟩:∃c,(nt n).cps.toList[0]?=some c:=⟨(nt n).cps.toList[0]'s!"",by simp[show 0<(nt n).cps.toList.length by lia]⟩;refine⟨by lia,c,DE (qB_ 0) hc,?_⟩;rw[str0];have fin:∃i,nt n=nt i/\0<=i/\i<10 ^ 10/\Q (V.int i) (upd H' D (HO.lst ((om (nt n).cps.size).map (fun _=>V.bl true)))):=⟨n,rfl,h0,h1,k _ (Same.new hD)⟩;by_cases e:c=48
   ·subst e;have:=WV h0 hc;subst this;rw[if_pos rfl,if_neg (by rw[WW];simp)];exact fin
   ·rw[if_neg (by simpa using e)];exact fin
noncomputable def tx (s:String):Str:=Str.ofString s
noncomputable def Th:Sp:=fun vs H Q _=>∃n m:Int,vs=[.str (nt n),.int m]/\1<=n/\n<10 ^ 10/\n<=m/\∀H',Same H H'->Q (.int n) H'
def Na:⋯ EE.j43 2 ["text","most"] (Th):=by
 delta EE.j43 HW
 ·obtain⟨n,m,rfl,_⟩:=h;rfl
 ·obtain⟨n,m,rfl,h0,h1,h2,k⟩:=h;refine⟨_,(Ac (Ao (i:=2) HW.nd (Aj (GH EE) hr.d AB (Aa (pvD 0) Ad)))
   (Ac (AY (Gw (Kb IM IM Ag (pvD 2) (pvD 1)))
   (Ae F6)
   Aw)
   (Ae (Ap (pvD 2))))),?_⟩
  nofun;refine⟨n,rfl,by lia,h1,fun H' s'=>⟨n,rfl,?_⟩⟩;rw[if_pos h0];refine⟨n,rfl,?_⟩;rw[if_neg (by simp;exact h2)];exact k H' s'
def spc:Str.ofString " "=⟨#[32]⟩:=by decide +kernel
def nwl:Str.ofString "\n"=⟨#[10]⟩:=by decide +kernel
def cut1 (x:V)(xs:List V):cutV (x::xs) (some 1) none=xs:=by
 unfold cutV HT.sIx;simp
def cutL (v:V)(xs:List V):cutV (xs++[v]) none (some (-1))=xs:=by
 unfold cutV HT.sIx;simp only[jf_,jo_,List.drop_zero,Nat.sub_zero];rw[if_pos (by omega),show ((-1:Int)+((xs.length+1:Nat):Int)).toNat=xs.length by omega];exact List.take_left' rfl
noncomputable def rowS (ps:List Str):Str:=Txt.join (Str.ofString " ") ps
noncomputable def UY:Sp:=fun vs H Q _=>∃(f:Str) (ps:List Str),vs=[.str f,.int ps.length,.str (rowS (f::ps))]/\32∉f.cps.toList/\(∀p∈ps,32∉p.cps.toList)/\(rowS (f::ps)).length<=900000/\∀l H',Same H H'->H l=none->H' l=some (.lst (ps.map V.str))->Q (.ref l) H'
def FG:⋯ EE.j41 1 ["first","count","row"] (UY):=by
 delta EE.j41 Fl
 ·obtain⟨f,ps,rfl,_⟩:=h;rfl
 ·obtain⟨f,ps,rfl,hf,hp,hz,k⟩:=h;have hl:=Ak;refine⟨_,(Ac (Ao (i:=3) Fl.nd (Ek qi_ xw_ xx_ HS (pvD 2) (Aa As Ad)))
   (Ac (AY (PW.pt (Ra (ptT (Au (opN G8) (Ai (ixLD AZ) (pvD 3) Ag) (pvD 0) (AG _))) (Nj (ptT (Au (opN G8) (AE (lenD Aq) (by rfl) EE.len jO_ (Aa (pvD 3) Ad)) (AL (opD0 DD) (pvD 1) Ag) (AG _))))))
   (Ae F6)
   Aw)
   (Ae (Ap (CW Kx (pvD 3) (DL Ag) E7))))),?_⟩
  nofun;have cH:Txt.split (rowS (f::ps)) (Str.ofString " ")=f::ps:=by
   unfold rowS;rw[spc];exact Gg (by decide) (by simp) fun p hp'=>by
    rcases jr_.mp hp' with rfl|hp'
    ·exact hf
    ·exact hp p hp'
  refine⟨rfl,by decide +kernel,hz,fun l bV=>?_⟩;rw[cH];refine⟨_,SqL.of Ab,_,DE (qB_ 0) rfl,rfl,?_⟩;rw[if_neg (by simp)];refine⟨_,.inl (SqL.of Ab),?_⟩;rw[if_neg (by simp)];refine⟨_,SqL.of Ab,fun p hp'=>?_⟩;rw[jJ_,cut1];exact k p _ ((Same.new bV).newT hp') ((Same.new bV).none hp') Ab
noncomputable def Ti:Sp:=fun vs H Q _=>∃(z:Str) (rs:List Str),vs=[.str z]/\z=Txt.join (Str.ofString "\n") (rs++[Str.ofString ""])/\rs ≠ []/\(∀p∈rs,10∉p.cps.toList)/\z.length<=900000/\∀l H',Same H H'->H l=none->H' l=some (.lst (rs.map V.str))->Q (.ref l) H'
def QV:⋯ EE.j40 1 ["text"] (Ti):=by
 delta EE.j40 LZ
 ·obtain⟨z,rs,rfl,_⟩:=h;rfl
 ·obtain⟨z,rs,rfl,ez,aA,hp,hz,k⟩:=h;have hl:=Ak;refine⟨_,(Ac (Ao (i:=1) LZ.nd (Ek qi_ xw_ xx_ HS (pvD 0) (Aa As Ad)))
   (Ac (AY (PW.pt (Ra (ptT (Au (opD0 Nm) (AE (lenD Aq) (by rfl) EE.len jO_ (Aa (pvD 1) Ad)) Ag (AG _))) (Nj (ptT (Au (opN G8) (Ai (ixLD AZ) (pvD 1) (Ov Kq Ag)) As (AG _))))))
   (Ae F6)
   Aw)
   (Ae (Ap (CW Kx (pvD 1) E7 (DL (Ov Kq Ag))))))),?_⟩
  nofun;have cH:Txt.split z (Str.ofString "\n")=rs++[Str.ofString ""]:=by
   rw[ez,nwl];exact Gg (by decide) (by simp) fun p hp'=>by
    rcases jx_.mp hp' with hp' | hp'
    ·exact hp p hp'
    ·rw[jd_.mp hp'];decide +kernel
  refine⟨rfl,by decide +kernel,hz,fun l bV=>?_⟩;rw[cH];rw[jz_];have bG:0<rs.length:=qZ_.mpr aA;refine⟨_,.inl (SqL.of Ab),?_⟩;rw[if_neg (by rw[jf_,jb_];simp;omega)];refine⟨_,SqL.of Ab,V.str (Str.ofString ""),MF (by simp),rfl,?_⟩;rw[if_neg (by simp)];refine⟨_,SqL.of Ab,fun p hp'=>?_⟩;rw[xE_,cutL];exact k p _ ((Same.new bV).newT hp') ((Same.new bV).none hp') Ab
noncomputable def O5:Sp:=fun vs H Q _=>∃(f:Str) (n:Int),vs=[.str f,.str (rowS [f,nt n])]/\32∉f.cps.toList/\f.length<=100/\1<=n/\n<=6/\∀H',Same H H'->Q (.int n) H'
def Jm (h0:0<=n) (hc:c<48):c∉(nt n).cps.toList:=fun z=>by
 have:=Qa h0 z;lia
def Ko (ps:List Str)(B:Nat)(h:∀p∈ps,p.length<=B):(rowS ps).length<=ps.length*B+ps.length:=by
 have h1:=StrLaws.join_length_le (Str.ofString " ") ps;have h2:=StrLaws.sumLen_le (B:=B) ps h;have h3:(Str.ofString " ").length=1:=by decide +kernel
 rw[h3]at h1;show (Builtin.Str.glued (Str.ofString " ") ps).length<=_;rw[qy_];lia
def Le:⋯ EE.j44 3 ["first","row"] (O5):=by
 delta EE.j44 KW
 ·obtain⟨f,n,rfl,_⟩:=h;rfl
 ·obtain⟨f,n,rfl,hf,hfl,h0,h1,k⟩:=h;refine⟨_,(Ae (Ap (Aj (Na EE) hr.d AB (Aa (Ai (ixLD AZ) (Aj (FG EE) hr.d AB (Aa (pvD 0) (Aa Ag (Aa (pvD 1) Ad)))) Ag) (Aa (Sl rfl EE.q_j8) Ad))))),?_⟩;nofun;have hn:n<10 ^ 10:=by lia
  have dv:=(KN s!"" hn).2;refine⟨f,[nt n],rfl,hf,fun p hp=>by rw[jd_.mp hp];exact Jm s!"" (by decide),?_,fun l H' s' hl bV=>?_⟩
  ·have:=Ko [f,nt n] 100 (fun p hp=>by
    rcases jr_.mp hp with rfl|hp
    ·exact hfl
    ·rw[jd_.mp hp];lia)
   simp at this;lia
  ·nofun;exact⟨_,SqL.of bV,_,DE (qB_ 0) rfl,n,_,rfl,h0,hn,h1,fun H2 s2=>k H2 (s'.trans s2)⟩
noncomputable def UZ (K:α3):Sp:=fun vs H Q _=>∃(L:Nat) (ns:α2),vs=[.int L,.str (rowS (Str.ofString "room" :: ns.map nt))]/\ns.length=L+1/\L<=100/\(∀n∈ns,0<=n/\n<10 ^ 10)/\∀l H',Same H H'->H l=none->H' l=some (.lst (ns.map V.int))->Q (.ref l) H'
def N7:⋯ EE.j45 2 ["letters","row"] (UZ K):=by
 delta EE.j45 NY
 ·obtain⟨L,ns,rfl,_⟩:=h;rfl
 ·obtain⟨L,ns,rfl,av,hL,hn,k⟩:=h;have hl:=Ak;refine⟨_,(Ae (Ap (Be rfl (Bq rfl) (cp:=Ia) oq (Bc (Aj (FG EE) hr.d AB (Aa As (Aa (AL (opD0 DD) (pvD 0) Ag) (Aa (pvD 1) Ad))))) (fun _ _ _ _=>(Ar (i:=0) JZ rfl (ou rfl))) (fun _ _ _ _=>Bu) (fun _ _ _ _=>(Aj (GH EE) hr.d AB (Aa (pvD 0) Ad)))))),?_⟩;nofun;refine⟨Str.ofString "room",ns.map nt,by rw[jb_,av];rfl,by decide +kernel,fun p hp=>?_,?_,fun l H' s' dh bV=>?_⟩
  ·obtain⟨n,h1,rfl⟩:=jq_.mp hp;exact Jm (hn n h1).1 (by decide)
  ·have:=Ko (Str.ofString "room" :: ns.map nt) 10 (fun p hp=>by
    rcases jr_.mp hp with rfl|hp
    ·decide +kernel
    ·obtain⟨n,h1,rfl⟩:=jq_.mp hp;exact (KN (hn n h1).1 (hn n h1).2).2)
   simp at this;lia
  ·refine⟨l,rfl,⟨_,SqL.of bV⟩,?_⟩;refine JV (xs:=(ns.map nt).map V.str) (fun i zs aj H2=>Same H' H2/\zs=(ns.take i).map V.int/\∃o,aj=[o]) ⟨Same.refl _,rfl,none,rfl⟩ (by rw[jb_,jb_];lia) (fun i zs aj H2 hi h'=>⟨SqL.of (h'.1 _ _ bV),by rw[h'.2.1,jb_,jI_];lia⟩) (fun i x zs aj H2 hx h'=>?_) (fun zs aj H2 h' D hD=>?_)
   ·obtain⟨s2,rfl,o,rfl⟩:=h';rw[jj_,jj_]at hx;cases gJ:ns[i]? with
    |none=>rw[gJ]at hx;cases hx
    |some n=>
     rw[gJ]at hx;cases hx;have hb:=hn n (jc_ gJ);nofun;refine⟨n,rfl,hb.1,hb.2,fun H3 s3=>⟨s2.trans s3,?_,_,rfl⟩⟩;rw[jA_,gJ,jz_];rfl
   ·obtain⟨s2,rfl,o,rfl⟩:=h';have e:(ns.take ((ns.map nt).map V.str).length)=ns:=qp_ (by simp);rw[e];exact k D _ ((s'.trans s2).newT hD) ((s'.trans s2).none hD) Ab
noncomputable def rowL (ps:List Str):List Nat:=jn 32 (ps.map fun p:Str=>p.cps.toList)++[10]
noncomputable def tL (rows:List (List Str)):List Nat:=(rows.map rowL).flatten
noncomputable def Ed (ps:List Str):Str:=rowS ps++Str.ofString "\n"
def Gk (ps:List Str):(rowS ps).cps.toList=jn 32 (ps.map fun p:Str=>p.cps.toList):=by
 show (Builtin.Str.glued (Str.ofString " ") ps).cps.toList=_;rw[qy_,spc,IU]
def Tj (ps:List Str):(Ed ps).cps.toList=rowL ps:=by
 unfold Ed rowL;rw[qt_,j4_,Gk,nwl]
def Tn (ps:List Str)(B:Nat)(h:∀p∈ps,p.length<=B):(Ed ps).length<=ps.length*B+ps.length+1:=by
 have:=Ko ps B h;unfold Ed;rw[Str.length_append];have h3:(Str.ofString "\n").length=1:=by decide +kernel
 omega
def Xi:∀ps:List Str,(Str.join (Str.ofString "") ps).cps.toList=(ps.map fun p:Str=>p.cps.toList).flatten
 |[]=>rfl
 |[p]=>by simp[Str.join]
 |p::q::r=>by
  show (p++Str.ofString "" ++ Str.join (Str.ofString "") (q::r)).cps.toList=_;have e:(Str.ofString "").cps.toList=[]:=by decide +kernel
  rw[qt_,qt_,j4_,j4_,Xi (q::r),e];simp
def To (c:Nat):∀xs:List (List Nat),jn c (xs++[[]])=(xs.map (· ++ [c])).flatten
 |[]=>rfl
 |[p]=>by simp[jn]
 |p::q::r=>by
  have:=To c (q::r);show p++c::jn c (q::r++[[]])=_;rw[this];simp
noncomputable def QW (K:α3):Sp:=fun vs H Q _=>∃(a:Addr) (ps:List Str),vs=[.ref a]/\SqL K H a (ps.map V.str)/\ps.length<=10/\(∀p∈ps,p.length<=1000)/\Q (.str (Ed ps)) H
def Hs:⋯ EE.j33 1 ["parts"] (QW K):=by
 delta EE.j33 OP
 ·obtain⟨a,ps,rfl,_⟩:=h;rfl
 ·obtain⟨a,ps,rfl,ha,hp,bV,k⟩:=h;have hl:=Ak;refine⟨_,(Ae (Ap (AL BX (Ek qi_ xJ_ xK_ Ki As (Aa (pvD 0) Ad)) As))),?_⟩;nofun;have h1:=StrLaws.sumLen_le (B:=1000) ps bV;have h2:=Ko ps 1000 bV;have h3:(Str.ofString "\n").length=1:=by decide +kernel
  have h4:ps.length*1000<=10000:=by lia
  refine⟨rfl,ps,ha,by decide +kernel,by lia,?_⟩;exact⟨by show (rowS ps).length+_<=_;lia,k⟩
def Tp {c x:Nat}:∀{ps:List (List Nat)},x∈jn c ps->x=c \/ ∃p∈ps,x∈p
 |[],h=>by cases h
 |[p],h=>.inr ⟨p,js_ ..,h⟩
 |p::q::r,h=>by
  rcases jx_.mp (show x∈p++c::jn c (q::r) from h) with h|h
  ·exact .inr ⟨p,js_ ..,h⟩
  ·rcases jr_.mp h with h|h
   ·exact .inl h
   ·rcases Tp h with h|⟨p',h1,h2⟩
    ·exact .inl h
    ·exact .inr ⟨p',jm_ _ h1,h2⟩
def Lf (c:Nat)(p:List Nat):∀r:List (List Nat),jn c (p::r)=p++(r.map (c :: ·)).flatten
 |[]=>by simp[jn]
 |q::r=>by
  show p++c::jn c (q::r)=_;rw[Lf c q r];simp
noncomputable def Nb (m:Int)(ws:α2):List Str:=Str.ofString "room" :: (m::ws).map nt
noncomputable def FH (L:Int)(af:α2)(ag:α1):List (List Str):=[Str.ofString "house",nt L]::(af.zip ag).map fun p=>Nb p.1 p.2
def BG.mono' {K:α3} (h:BG K H xs ws)(s:Same H H'):BG K H' xs ws:=⟨h.1,fun i w hi=>by
 obtain⟨t,a,b⟩:=h.2 i w hi;exact⟨t,a,s _ _ b⟩⟩
def BG.snoc' {K:α3}{H:Hp}{xs:List V}{ws:α1}(h:BG K H xs ws){t:Addr}{w:α2}(ht:H t=some (.lst (w.map V.int))):BG K H (xs++[.ref t]) (ws++[w]):=by
 refine⟨by rw[jf_,jf_,h.1];rfl,fun i r hi=>?_⟩;by_cases bu:i<ws.length
 ·rw[ji_ bu]at hi;rw[ji_ (by rw[h.1];exact bu)];exact h.2 i r hi
 ·have:=(ja_.mp hi).1;rw[jf_,jo_]at this;have ei:i=ws.length:=by lia
  subst ei;rw[jv_ (jh_ _),j7_]at hi;simp at hi;subst hi;exact⟨t,by rw[<-h.1];simp,ht⟩
def Gv.R45 {K:α3}{H:Hp}{w:Addr}{zs:List V}{ws:α1}(h:Gv K H zs ws)(hz:SqT K H w zs):Rows K H w ws:=by
 refine⟨zs.map (fun v=>match v with | .ref t=>t|_=>0),?_,by rw[jb_];exact h.1,fun i t r hi hr=>?_⟩
 ·have e:(zs.map (fun v=>match v with | .ref t=>t|_=>0)).map V.ref=zs:=by
   rw[jN_];refine qw_ fun i=>?_;rw[jj_];by_cases hi:i<ws.length
   ·obtain⟨t,a,_⟩:=h.2 i ws[i] (by simp[hi]);rw[a];rfl
   ·rw[jT_ (by rw[h.1];lia)];rfl
  rw[e];exact hz
 ·obtain⟨t',a,b⟩:=h.2 i r hr;rw[jj_,a]at hi;cases hi;exact b
def Y3 (wf:Wf L af ag):okH L af ag=true:=by
 unfold okH;have h1:=wf.l1;have h2:=wf.l6;have h3:=wf.n1;have h4:=wf.n40;have h5:=wf.len;have h6:okM af=true:=by
  unfold okM;rw[xq_];intro m hm;have:=wf.mks m hm;unfold mkB;simp;lia
 have h7:ag.all (okR L af.length)=true:=by
  rw[xq_];intro r hr;have:=wf.rows r hr;unfold okR;rw[qb_,jU_,xq_];refine⟨this.1,fun g hg=>?_⟩;have:=this.2 g hg;unfold goB;simp;lia
 rw[h6,h7];simp;lia
noncomputable def Tq (K:α3):Sp:=fun vs H Q _=>∃(z:Str) (L:Int) (af:α2) (ag:α1),vs=[.str z]/\Wf L af ag/\z.cps.toList=tL (FH L af ag)/\z.length<=20000/\∀h H',Same H H'->Cn K H' h L af ag->Q (.ref h) H'
def Nd:⋯ EE.j46 4 ["text"] (Tq K):=by
 delta EE.j46 C2
 ·obtain⟨z,L,af,ag,rfl,_⟩:=h;rfl
 ·obtain⟨z,L,af,ag,rfl,wf,ez,hz,k⟩:=h;have hl:=Ak;have jH:=wf.l1;have cN:=wf.l6;have cO:=wf.n40;have kB:=wf.n1;have aY:=wf.len;refine⟨_,(Ac (Ao (i:=1) C2.nd (Aj (QV EE) hr.d AB (Aa (pvD 0) Ad)))
   (Ac (C7 (i:=2) C2.nd rfl (oI rfl) (Aj (Le EE) hr.d AB (Aa As (Aa (Ai (ixLD AZ) (pvD 1) Ag) Ad))))
   (Ac (Mz (i:=3) C2.nd rfl rfl rfl (Bq rfl) (cp:=GA) ⟨⟨rfl,rfl⟩,oq⟩ (Bc (CW Kx (pvD 1) (DL Ag) E7)) (fun _ _ _ _=>(Ar (i:=0) Jf rfl (ou rfl))) (fun _ _ _ _=>Bu) (fun _ _ _ _=>(Aj (N7 EE) hr.d AB (Aa (pvD 1) (Aa (pvD 0) Ad)))))
   (Ae (WQ (E:=(fun _ _ _ _=>False)) rfl EE.m_j5 rfl rfl rfl (fun xe pn hx=>(Ae (Ap (Ui (Te EE).g (hr.mono (by decide)) rfl EE.j39.m EE.j39.F.kp (Te EE).b .nil hx (Aa (pvD 2) (Aa (Be rfl (Bq rfl) (cp:=GD) oq (P5 (K:=K) rfl (pvD 3)) (fun _ _ _ _=>(Ar (i:=0) Jh rfl (ou rfl))) (fun _ _ _ _=>Bu) (fun _ _ _ _=>(Ai (ixLD (Er (K:=K) rfl)) (pvD 0) Ag))) (Aa (Be rfl (Bq rfl) (cp:=GC) oq (P5 (K:=K) rfl (pvD 3)) (fun _ _ _ _=>(Ar (i:=0) Jg rfl (ou rfl))) (fun _ _ _ _=>Bu) (fun _ _ _ _=>(CW (Uj (K:=K) rfl) (pvD 0) (DL Ag) E7))) Ad)))))))
   (fun ea pn=>(Ae F6))))))),?_⟩
  nofun;have hjoin:z=Txt.join (Str.ofString "\n") ((FH L af ag).map rowS++[Str.ofString ""]):=by
   refine Str.ext' (Array.toList_inj.mp ?_);rw[ez];show _=(Builtin.Str.glued (Str.ofString "\n") _).cps.toList;rw[qy_,nwl,IU,jz_,jN_];have e:(Str.ofString "").cps.toList=[]:=by decide +kernel
   rw[xE_,e,To,jN_];unfold tL
   congr 1
   refine jM_ fun r _=>?_;show rowL r=(rowS r).cps.toList++[10];rw[Gk];rfl
  have feed:∀r∈FH L af ag,10∉(rowS r).cps.toList:=fun r hr hm=>by
   rw[Gk]at hm;rcases Tp hm with h|⟨p,hp,hx⟩
   ·omega
   ·obtain⟨q,hq,rfl⟩:=jq_.mp hp;rcases jr_.mp hr with rfl|hr
    ·rcases jr_.mp hq with rfl|hq
     ·exact absurd hx (by decide +kernel)
     ·rw[jd_.mp hq]at hx;exact Jm (by omega) (by decide) hx
    ·obtain⟨e,he,rfl⟩:=jq_.mp hr;rcases jr_.mp hq with rfl|hq
     ·exact absurd hx (by decide +kernel)
     ·obtain⟨n,hn,rfl⟩:=jq_.mp hq;obtain⟨i,hi⟩:=jK_.mp he;have hz:=qh_.mp (show (af.zip ag)[i]?=some (e.1,e.2) from hi);refine Jm ?_ (by decide) hx;rcases jr_.mp hn with rfl|hn
      ·exact (wf.mks _ (jc_ hz.1)).1
      ·exact ((wf.rows _ (jc_ hz.2)).2 n hn).1
  refine⟨z,(FH L af ag).map rowS,rfl,hjoin,by unfold FH;simp,fun p hp=>by obtain⟨r,hr,rfl⟩:=jq_.mp hp;exact feed r hr,by omega,fun pl H1 s1 hplN b7=>?_⟩;refine⟨pl,rfl,_,SqL.of b7,_,DE (qB_ 0) rfl,Str.ofString "house",L,rfl,by decide +kernel,by decide +kernel,jH,cN,fun H2 s2=>⟨pl,rfl,_,SqL.of (s2 _ _ b7),fun pc hpc=>?_⟩⟩;have ecut:cutV (((FH L af ag).map rowS).map V.str) (some 1) none=(((af.zip ag).map fun p=>Nb p.1 p.2).map rowS).map V.str:=by
   unfold FH;rw[jJ_,jJ_,cut1]
  rw[ecut];have s13:=(s1.trans s2).newT hpc (o:=.lst ((((af.zip ag).map fun p=>Nb p.1 p.2).map rowS).map V.str));have iO:upd H2 pc (.lst ((((af.zip ag).map fun p=>Nb p.1 p.2).map rowS).map V.str)) pc=some (.lst ((((af.zip ag).map fun p=>Nb p.1 p.2).map rowS).map V.str)):=Ab;generalize upd H2 pc (.lst ((((af.zip ag).map fun p=>Nb p.1 p.2).map rowS).map V.str))=H3 at s13 iO ⊢;have lT:(af.zip ag).length=af.length:=by rw[qO,aY];lia
  refine⟨⟨_,SqL.of iO⟩,JV (xs:=(((af.zip ag).map fun p=>Nb p.1 p.2).map rowS).map V.str) (fun i zs aj H'=>Same H3 H'/\BG K H' zs (((af.zip ag).take i).map fun p=>p.1::p.2)/\∃o,aj=[o,some (.int L)]) ⟨Same.refl _,⟨rfl,fun i w hi=>by simp at hi⟩,none,rfl⟩ (by rw[jb_,jb_,jb_,lT];lia) (fun i zs aj H' hi h'=>⟨SqL.of (h'.1 _ _ iO),by rw[h'.2.1.1,jb_,jI_];lia⟩) (fun i x zs aj H' hx h'=>?_) (fun zs aj H' h' D hD=>?_)⟩
  ·obtain⟨s',hZ,o,rfl⟩:=h';rw[jj_,jj_,jj_]at hx;cases aZ:(af.zip ag)[i]? with
   |none=>rw[aZ]at hx;cases hx
   |some e=>
    rw[aZ]at hx;cases hx;have cT:=qh_.mp (show (af.zip ag)[i]?=some (e.1,e.2) from aZ);have hm:=wf.mks _ (jc_ cT.1);have hr:=wf.rows _ (jc_ cT.2);have bG:(e.2.length:Int)=L:=hr.1;nofun;refine⟨L.toNat,e.1::e.2,by rw[show ((L.toNat:Nat):Int)=L by lia];rfl,by rw[jD_];lia,by lia,fun n hn=>?_,fun l H4 s4 cM hl4=>⟨s'.trans s4,?_,_,rfl⟩⟩
    ·rcases jr_.mp hn with rfl|hn
     ·lia
     ·have:=hr.2 n hn;lia
    ·rw[jA_,aZ,jz_];exact BG.snoc' (BG.mono' hZ s4) hl4
  ·obtain⟨s',hZ,o,rfl⟩:=h';rw[jb_,jb_,jb_,jE_]at hZ;have sD:=s'.newT hD (o:=.lst zs);have lU:=BG.mono' hZ (Same.new hD (o:=.lst zs));have lV:upd H' D (.lst zs) D=some (.lst zs):=Ab;generalize upd H' D (.lst zs)=HD at sD lU lV ⊢;have hzz:zs.length=af.length:=by rw[lU.1,jb_,lT]
   refine⟨⟨D,rfl,⟨_,SqL.of lV⟩,JV (xs:=zs) (fun i ys aq H2=>H2=HD/\ys=(af.take i).map V.int/\∃o,aq=[o]) ⟨rfl,rfl,none,rfl⟩ s!"" (fun i ys aq H2 hi h2=>⟨by rw[h2.1];exact SqL.of lV,by rw[h2.2.1,jb_,jI_];lia⟩) (fun i x ys aq H2 hx h2=>?_) (fun ys aq H2 h2 D2 dD=>?_)⟩,fun _ _ _ z=>z.elim⟩
   ·obtain⟨rfl,rfl,o,rfl⟩:=h2;obtain⟨t,r,hr,rfl,ht⟩:=BG.at lU hx;rw[jj_]at hr;cases aZ:(af.zip ag)[i]? with
    |none=>rw[aZ]at hr;cases hr
    |some e=>
     rw[aZ]at hr;cases hr;have cT:=qh_.mp (show (af.zip ag)[i]?=some (e.1,e.2) from aZ);nofun;refine⟨_,SqL.of ht,_,DE (qB_ 0) rfl,?_⟩
     first
      | (refine⟨rfl,?_,_,rfl⟩;rw[jA_,cT.1,jz_];rfl)
      | (refine⟨?_,_,rfl⟩;rw[jA_,cT.1,jz_];rfl)
   ·obtain⟨rfl,rfl,o,rfl⟩:=h2;rw[hzz,jE_];have sE:=Same.new dD (o:=.lst (af.map V.int));have nA:=sE _ _ lV;have hZE:=BG.mono' lU sE;have hME:upd H2 D2 (.lst (af.map V.int)) D2=some (.lst (af.map V.int)):=Ab;have sF':=sD.trans sE;generalize upd H2 D2 (.lst (af.map V.int))=HE at sE nA hZE hME sF' ⊢;refine⟨D,rfl,⟨_,SqL.of nA⟩,JV (xs:=zs) (fun i ys aJ iP=>Same HE iP/\BG K iP ys (ag.take i)/\∃o,aJ=[o]) ⟨Same.refl _,⟨rfl,fun i w hi=>by simp at hi⟩,none,rfl⟩ s!"" (fun i ys aJ iP hi h3=>⟨SqL.of (h3.1 _ _ nA),by rw[h3.2.1.1,jI_];lia⟩) (fun i x ys aJ iP hx h3=>?_) (fun ys aJ iP h3 D3 gI=>?_)⟩
    ·obtain⟨s3,hY,o,rfl⟩:=h3;obtain⟨t,r,hr,rfl,ht⟩:=BG.at hZE hx;rw[jj_]at hr;cases aZ:(af.zip ag)[i]? with
     |none=>rw[aZ]at hr;cases hr
     |some e=>
      rw[aZ]at hr;cases hr;have cT:=qh_.mp (show (af.zip ag)[i]?=some (e.1,e.2) from aZ);nofun;refine⟨_,SqL.of (s3 _ _ ht),fun p hp=>?_⟩;rw[jJ_,cut1];refine⟨s3.newT hp,?_,_,rfl⟩;rw[jA_,cT.2];exact BG.snoc' (BG.mono' hY (Same.new hp)) Ab
    ·obtain⟨s3,hY,o,rfl⟩:=h3;rw[qp_ s!""]at hY;have sG:=s3.newT gI (o:=.lst ys);have nB:=BG.mono' hY (Same.new gI (o:=.lst ys));have hYs:upd iP D3 (.lst ys) D3=some (.lst ys):=Ab;generalize upd iP D3 (.lst ys)=HG at sG nB hYs ⊢;refine⟨false,false,D2,D3,L,af,ys,ag,rfl,SqL.of (sG _ _ hME),SqL.of hYs,⟨nB.1,fun i r hi=>?_⟩,by lia,by lia,fun r hr=>by have:=(wf.rows r hr).1;lia,fun _ hh m y us H5 s5 h1 h2 h3 h4=>?_,fun z=>by rw[Y3 wf]at z;cases z⟩
     ·obtain⟨t,a1,a2⟩:=nB.2 i r hi;exact⟨false,t,a1,SqL.of a2⟩
     ·exact k hh H5 (((s13.trans sF').trans sG).trans s5) ⟨m,y,SqT.of h1,h2,Gv.R45 h4 (SqT.of h3)⟩
noncomputable def Il (w1 w2:α1)(L:Int)(n m:Nat)(a b:Int):List ((Int×Int)×α2):=bfsF (DB w1 w2) L.toNat (n*m+1) [((a,b),[])] 0
noncomputable def U0 (K:α3):Sp:=fun vs H Q _=>∃(h h2 st:Addr) (L:Int) (af ai:α2) (ag ak:α1) (a b:Int),vs=[.ref h,.ref h2,.ref st]/\Cn K H h L af ag/\Wf L af ag/\Cn K H h2 L ai ak/\Wf L ai ak/\H st=some (.tup [.int a,.int b])/\okP af.length ai.length (a,b) /\
 ∀d top kvs H',Same H H'->H d=none->H' d=some (.dT kvs)->CI H' (Il ag ak L af.length ai.length a b) kvs->B L (DB ag ak) (a,b) (okP af.length ai.length) (Il ag ak L af.length ai.length a b) (Il ag ak L af.length ai.length a b).length top->Q (.ref d) H'
def Nf:⋯ EE.j59 1 ["house","other","start"] (U0 K):=by
 delta EE.j59 A8
 ·obtain⟨h,h2,st,L,af,ai,ag,ak,a,b,rfl,_⟩:=h;rfl
 ·obtain⟨h,h2,st,L,af,ai,ag,ak,a,b,rfl,hh,wf,dE,cL,aH,hok,k⟩:=h;have hl:=Ak;have jH:=wf.l1;have cN:=wf.l6;have cO:=wf.n40;have ft:=cL.n40;refine⟨_,(@Ac _ _ _ _ _ (@PR _ 3 _ _ _ _ _ _ _ _ (CZ hr) A8.nd rfl (ou rfl) (pvD 2) BL rfl (ou rfl))
   (Ac (Ao (i:=4) A8.nd (A7 (Aa (pvD 2) Ad)))
   (Ac (Ao (i:=5) A8.nd Ag)
   (Ac (F8 jG_ (ptT (Au (opD0 Nm) (pvD 5) (AE (lenD Aq) (by rfl) EE.len jO_ (Aa (pvD 4) Ad)) (AG _)))
   (Ac (Ao (i:=6) A8.nd (Ai (ixLD AZ) (pvD 4) (pvD 5)))
   (Ac (Bh jG_ rfl (Bs rfl EE.range (Aa (Ai (ixTD An) (pvD 0) Ag) Ad)) (Ar (i:=7) A8.nd rfl (ou rfl))
   (Ac (Ao (i:=8) A8.nd (Bt (Aa (Ai (ixTD An) (Ai (ixTD An) (Ai (ixTD An) (pvD 0) Ag) (Ai (ixTD An) (pvD 6) Ag)) (pvD 7)) (Aa (Ai (ixTD An) (Ai (ixTD An) (Ai (ixTD An) (pvD 1) Ag) (Ai (ixTD An) (pvD 6) Ag)) (pvD 7)) Ad))))
   (Ae (AY (U8 (NC (CZ hr) (pvD 8) (pvD 3)))
   (Ac (Em (CZ hr) (pvD 3) (pvD 8) (Bt (Aa (pvD 6) (Aa (pvD 7) Ad))) rfl)
   (Ae (Ay (Ek jS_ jX_ jY_ BN (pvD 4) (Aa (pvD 8) Ad)))))
   Aw))))
   (Ae (XH (i:=5) A8.nd rfl (ou rfl) Ag XI)))))
   (Ae (Ap (pvD 3))))))),?_⟩
  nofun;intro p hp;have hpst:st≠p:=fun z=>by rw[z,hp]at aH;cases aH
  refine⟨Ab,keyP (a,b),(Same.new hp) _ _ aH,by lia,fun p2 bA=>?_⟩;have hne2:p2≠p:=(Cv bA).2;have hp2n:H p2=none:=(Cv (Cv bA).1).1;have s0:Same H (upd (upd (upd H p (.dT [])) p (.dT [(keyP (a,b),V.non)])) p2 (.lst [V.ref st])):=((Same.new hp).over hp).newT bA;have jI:upd (upd (upd H p (.dT [])) p (.dT [(keyP (a,b),V.non)])) p2 (.lst [V.ref st]) p=some (.dT [(keyP (a,b),V.non)]):=Same.new bA _ _ Ab;have eN:upd (upd (upd H p (.dT [])) p (.dT [(keyP (a,b),V.non)])) p2 (.lst [V.ref st]) p2=some (.lst [V.ref st]):=Ab;have lW:CI (upd (upd (upd H p (.dT [])) p (.dT [(keyP (a,b),V.non)])) p2 (.lst [V.ref st])) [((a,b),[])] [(keyP (a,b),V.non)]:=⟨rfl,fun i e he=>by
   cases i with
   |zero=>simp at he;subst he;exact⟨_,rfl,.inl ⟨rfl,rfl⟩⟩
   |succ i=>simp at he⟩
  have lX:ES (upd (upd (upd H p (.dT [])) p (.dT [(keyP (a,b),V.non)])) p2 (.lst [V.ref st])) (([((a,b),[])]:List ((Int×Int)×α2)).map (·.1)) [V.ref st]:=⟨rfl,fun i q hq=>by
   cases i with
   |zero=>simp at hq;subst hq;exact⟨st,rfl,s0 _ _ aH⟩
   |succ i=>simp at hq⟩
  generalize upd (upd (upd H p (.dT [])) p (.dT [(keyP (a,b),V.non)])) p2 (.lst [V.ref st])=H0 at s0 jI eN lW lX ⊢;clear bA;obtain⟨Pv,aw⟩:∃Pv:Nat->St->Hp->Prop,∀m aq H2,Pv m aq H2↔(∃(ents:List ((Int×Int)×α2)) (kvs:List (List Key×V)) (rs:List V) (i:Nat) (top:Int) (o6 o7 o8:Option V),m=af.length*ai.length+1-i/\Same H H2/\H2 p=some (.dT kvs)/\H2 p2=some (.lst rs)/\CI H2 ents kvs/\ES H2 (ents.map (·.1)) rs/\B L (DB ag ak) (a,b) (okP af.length ai.length) ents i top/\(∀e,ents[i]?=some e->top<=place L e.2*L+1)/\bfsF (DB ag ak) L.toNat (af.length*ai.length+1-i) ents i=Il ag ak L af.length ai.length a b/\aq=[some (.ref h),some (.ref h2),some (.ref st),some (.ref p),some (.ref p2),some (.int i),o6,o7,o8]):=⟨_,fun _ _ _=>ql_⟩;refine LX Pv ⟨_,(aw _ _ _).mpr ⟨_,_,_,0,1,none,none,none,rfl,s0,jI,eN,lW,lX,B.start L _ hok,fun e he=>?_,rfl,rfl⟩⟩ ?_
  ·simp at he;subst he;simp[place,Bf]
  intro m aq H2 iQ;obtain⟨ents,kvs,rs,i,top,o6,o7,o8,rfl,s2,kF,fL,cG,iR,bf,iS,gm,rfl⟩:=(aw _ _ _).mp iQ;have jJ:=bf.lenP;have hnm:af.length*ai.length<=1600:=j3_ cO ft;nofun;refine⟨_,.inl (SqL.of fL),?_⟩;have bG:rs.length=ents.length:=by rw[iR.1,jb_]
  rw[bG];refine ite2 (fun ay=>?_) (fun lC=>?_)
  ·have hi:i<ents.length:=by lia
   obtain⟨e,he⟩:∃e,ents[i]?=some e:=⟨ents[i],by simp[hi]⟩;obtain⟨⟨ra,rb⟩,w⟩:=e;have aO:=jc_ he;have dC:okP af.length ai.length (ra,rb):=bf.rng _ aO;obtain⟨⟨gQ,fz⟩,gR,fB⟩:=id dC;have htop':top<=place L w*L+1:=iS _ he;obtain⟨row,hrow,lY,dG⟩:=wf.row gQ fz;obtain⟨row2,cP,hrm2,hrowl2⟩:=cL.row gR fB;obtain⟨mm,wv,q1,q2,q3⟩:=id hh;obtain⟨nC,wv',fN,iF,kH⟩:=id dE;obtain⟨xs,t,z1,z2,z3⟩:=q3.atZ gQ hrow;obtain⟨xs',t',nE,nF,nG⟩:=kH.atZ gR cP;obtain⟨bp,iT,dW⟩:=iR.2 i (ra,rb) (by rw[jj_,he];rfl);refine⟨Pv (af.length*ai.length+1-(i+1)),fun aj H' h=>⟨_,by lia,h⟩,?_⟩;refine⟨_,SqL.of fL,_,DE (v:=V.ref bp) s!"" (by rw[jC_];exact iT),?_⟩;nofun;refine⟨_,s2.seqT q1,_,rfl,?_⟩;nofun;refine⟨by lia,by lia,?_⟩;obtain⟨Pn,fC⟩:∃Pn:Nat->St->Hp->Prop,∀x aJ H3,Pn x aJ H3↔(∃(ax:List ((Int×Int)×α2)) (aT:List (List Key×V)) (bN:List V) (o7 o8:Option V),Same H H3/\H3 p=some (.dT aT)/\H3 p2=some (.lst bN)/\CI H3 ax aT/\ES H3 (ax.map (·.1)) bN/\H3 bp=some (.tup [.int ra,.int rb])/\B L (DB ag ak) (a,b) (okP af.length ai.length) ax i (place L w*L+(x:Int)+1)/\Se L (DB ag ak) ax (ra,rb) w x/\ax[i]?=some ((ra,rb),w)/\addF (DB ag ak) (ra,rb) w (L.toNat-x) x ax=addF (DB ag ak) (ra,rb) w L.toNat 0 ents/\aJ=[some (.ref h),some (.ref h2),some (.ref st),some (.ref p),some (.ref p2),some (.int i),some (.ref bp),o7,o8]):=⟨_,fun _ _ _=>ql_⟩;refine forR Pn ((fC _ _ _).mpr ⟨ents,kvs,rs,o7,o8,s2,kF,fL,cG,iR,dW,bf.up (by push_cast;lia),(fun y h0 h1=>absurd h1 (by push_cast;lia)),he,rfl,rfl⟩) (fun x aJ H3 hx h3=>?_) (fun aJ H3 h3=>?_)
   ·obtain⟨ax,aT,bN,o7,o8,s3,iU,dB,cg,gp,gq,dX,iV,eT,gS,rfl⟩:=(fC _ _ _).mp h3;have ex:(0:Int)+(x:Nat)=(x:Int):=by lia
    rw[ex];have fR:(x:Int)<L:=by lia
    obtain⟨rw1,g1,c1,c2,c3,c4,c5⟩:=wf.step gQ fz (show (0:Int)<=(x:Int) by lia) fR;obtain⟨rw2,g2,d1,d2,d3,d4,d5⟩:=cL.step gR fB (show (0:Int)<=(x:Int) by lia) fR;rw[hrow]at c1;cases c1;rw[cP]at d1;cases d1;have iW:DB ag ak (ra,rb) (x:Int)=(g1,g2):=by show (Bp ag ra x,Bp ak rb x)=_;rw[c3,d3]
    have cQ:=jc_ eT;obtain⟨dY,gw⟩:=dX.letter iV cQ fR (by rw[iW];exact⟨⟨c4,c5⟩,d4,d5⟩);have gx:=PU (step:=DB ag ak) (r:=(ra,rb)) (w:=w) (x:=x) eT;rw[show L.toNat-x=(L.toNat-(x+1))+1 by lia,Sd]at gS;nofun;refine⟨_,s3.seqT q1,_,rfl,?_⟩;nofun;refine⟨_,SqT.of gq,_,rfl,?_⟩;nofun;refine⟨_,s3.seqT z1,_,z2,?_⟩;nofun;refine⟨_,s3.seqT z3,_,Cw s!"" c2,_,s3.seqT fN,_,rfl,_,SqT.of gq,_,rfl,_,rfl,_,_,rfl,s3.seqT nE,_,nF,_,rfl,_,s3.seqT nG,_,Cw s!"" d2,by lia,fun p3 bI=>?_⟩;have sT:=s3.newT bI (o:=.tup [V.int g1,V.int g2]);have kT:TK H3 (upd H3 p3 (.tup [V.int g1,V.int g2])):=TK.new bI;have fS:=Same.new bI (o:=.tup [V.int g1,V.int g2]) _ _ iU;have iX:=Same.new bI (o:=.tup [V.int g1,V.int g2]) _ _ dB;have gT:=Same.new bI (o:=.tup [V.int g1,V.int g2]) _ _ gq;have eU:=cg.mono kT;have iY:=gp.mono kT;have iZ:upd H3 p3 (.tup [V.int g1,V.int g2]) p3=some (.tup ((keyP (g1,g2)).map kV)):=Ab;generalize upd H3 p3 (.tup [V.int g1,V.int g2])=kI at sT kT fS iX gT eU iY iZ ⊢;refine⟨_,DGet.t fS iZ,?_⟩;by_cases hm:(g1,g2)∈ax.map (·.1)
    ·have di:put (DB ag ak) (ra,rb) w ax x=ax:=by unfold put;rw[iW,if_pos hm]
     rw[di]at dY gw gx gS;obtain⟨e',b9,e1⟩:=jq_.mp hm;obtain⟨v,hv,_⟩:=eU.yes dX.nod b9;rw[e1]at hv;rw[hv,if_neg (by simp)];exact (fC _ _ _).mpr ⟨ax,aT,bN,_,_,sT,fS,iX,eU,iY,gT,dY,gw,gx,gS,rfl⟩
    ·have di:put (DB ag ak) (ra,rb) w ax x=ax++[((g1,g2),w++[(x:Int)])]:=by unfold put;rw[iW,if_neg hm]
     rw[di]at dY gw gx gS;rw[eU.no hm,if_pos (by simp)];refine⟨by lia,fun p4 cE=>?_⟩;have sU:=sT.newT cE (o:=.tup [V.ref bp,V.int x]);have kU:TK kI (upd kI p4 (.tup [V.ref bp,V.int x])):=TK.new cE;have jK:=Same.new cE (o:=.tup [V.ref bp,V.int x]) _ _ fS;have lZ:=Same.new cE (o:=.tup [V.ref bp,V.int x]) _ _ iX;have kJ:=kU _ _ gT;have i0:=kU _ _ iZ;have hp4U:upd kI p4 (.tup [V.ref bp,V.int x]) p4=some (.tup [V.ref bp,V.int x]):=Ab;have l3:=(eU.mono kU).put hm hp4U (e':=((ra,rb),w)) kJ cQ;have l4:=iY.mono kU;generalize upd kI p4 (.tup [V.ref bp,V.int x])=HU at sU kU jK lZ kJ i0 hp4U l3 l4 ⊢;have hlen3:=dX.lenP;nofun;refine⟨_,DPut.t (k:=keyP (g1,g2)) jK i0 (by rw[cg.1];lia),?_⟩;have gy:TK HU (upd HU p (.dT (putK aT (keyP (g1,g2)) (V.ref p4)))):=TK.dT jK;have dZ:upd HU p (.dT (putK aT (keyP (g1,g2)) (V.ref p4))) p2=some (.lst bN):=by rw[Ah hne2];exact lZ
     refine⟨.inl ⟨rfl,_,SqL.of dZ⟩,_,dZ,by rw[gp.1,jb_];lia,(fC _ _ _).mpr ⟨_,_,_,_,_,(sU.over hp).over hp2n,?_,Ab,(l3.mono gy).mono (TK.lst dZ),?_,TK.lst dZ _ _ (gy _ _ kJ),dY,gw,gx,gS,rfl⟩⟩
     ·rw[Ah (qm_ hne2)];exact Ab
     ·have:=((l4.mono gy).mono (TK.lst (o:=.lst (bN++[V.ref p3])) dZ)).snoc (p:=(g1,g2)) (b:=p3) (TK.lst dZ _ _ (gy _ _ i0));simpa using this
   ·obtain⟨ax,aT,bN,o7,o8,s3,iU,dB,cg,gp,gq,dX,iV,eT,gS,rfl⟩:=(fC _ _ _).mp h3;rw[j7_,Sb]at gS;nofun;obtain⟨dY,fE⟩:=dX.next s!"" s!"" iV eT;refine (aw _ _ _).mpr ⟨ax,aT,bN,i+1,_,_,_,_,rfl,s3,iU,dB,cg,gp,dY,fE,?_,by push_cast;rfl⟩;rw[show af.length*ai.length+1-i=(af.length*ai.length+1-(i+1))+1 by lia,Sa he]at gm;rw[gS];exact gm
  ·have hi:i=ents.length:=by have:=bf.il;lia
   subst hi;rw[R9 (by simp)]at gm;rw[<-gm]at k;exact k p top kvs H2 s2 hp kF cG bf
noncomputable def Tr (K:α3):Sp:=fun vs H Q _=>∃(d b:Addr) (ents:List ((Int×Int)×α2)) (kvs:List (List Key×V)) (e:(Int×Int)×α2),vs=[.ref d,.ref b]/\Rd H d (.dT kvs)/\CI H ents kvs/\(ents.map (·.1)).Nodup/\e∈ents/\H b=some (.tup [.int e.1.1,.int e.1.2])/\e.2.length<=2000/\∀t H',Same H H'->H' t=some (.tup (e.2.map V.int))->Q (.ref t) H'
def QX:⋯ EE.j60 1 ["steps","pair"] (Tr K):=by
 delta EE.j60 Gh
 ·obtain⟨d,b,ents,kvs,e,rfl,_⟩:=h;rfl
 ·obtain⟨d,b,ents,kvs,e,rfl,hd,aH,nod,he,hb,av,k⟩:=h;have hl:=Ak;refine⟨_,(Ac (Ao (i:=2) Gh.nd (A7 Ad))
   (Ac (Ao (i:=3) Gh.nd (E8 (CZ hr) (pvD 0) (pvD 1) (fun _ _=>rfl)))
   (Ac (F8 jG_ (ptT (Au Rl (pvD 3) BL (AG _)))
   (Ac (Ay (Ek jS_ jX_ jY_ BN (pvD 2) (Aa (Ai (ixTD An) (pvD 3) Ag) Ad)))
   (Ae (Ao (i:=3) Gh.nd (E8 (CZ hr) (pvD 0) (Ai (ixTD An) (pvD 3) Ag) (fun _ _=>rfl))))))
   (Ae (Ap (OD rfl rfl EE.tuple rfl EE.reversed (pvD 2))))))),?_⟩
  nofun;have rdm:∀{H2:Hp},Same H H2->Rd H2 d (.dT kvs):=fun {H2} s=>by
   rcases hd with hd|⟨o,hd⟩
   ·exact .inl (s _ _ hd)
   ·exact .inr ⟨o,s _ _ hd⟩
  have get:∀{H2:Hp} {e':(Int×Int)×α2} {b':Addr} {v:V},Same H H2->H2 b'=some (.tup [.int e'.1.1,.int e'.1.2])->valV kvs (keyP e'.1)=some v->DGet H2 d (.ref b') (some v):=fun {H2 e' b' v} s hb hv=>.inr ⟨kvs,keyP e'.1,b',rdm s,rfl,hb,hv.symm⟩;refine⟨by lia,fun p hp=>?_⟩;obtain⟨v0,iE,hi0⟩:=aH.yes nod he;refine⟨v0,get (Same.new hp) (Same.new hp _ _ hb) iE,?_⟩;obtain⟨Pv,aw⟩:∃Pv:Nat->St->Hp->Prop,∀m aq H2,Pv m aq H2↔(∃(ec:(Int×Int)×α2) (jL:α2) (v:V),m=ec.2.length/\ec∈ents/\e.2=ec.2++jL/\valV kvs (keyP ec.1)=some v/\Same H H2/\H2 p=some (.lst (jL.reverse.map V.int))/\aq=[some (.ref d),some (.ref b),some (.ref p),some v]):=⟨_,fun _ _ _=>ql_⟩;refine LX Pv ⟨_,(aw _ _ _).mpr ⟨e,[],v0,rfl,he,by simp,iE,Same.new hp,by rw[Ab];rfl,rfl⟩⟩ ?_;intro m aq H2 iQ;obtain⟨ec,jL,v,rfl,hec,gA,hv,s2,bA,rfl⟩:=(aw _ _ _).mp iQ;obtain⟨v',dI,hi⟩:=aH.yes nod hec;rw[hv]at dI;cases dI;rcases hi with ⟨rfl,hnil⟩|⟨t,q,x,e',rfl,ht,hq,b9,hsn⟩
  ·nofun;refine⟨_,SqL.of bA,fun r hr=>?_⟩;rw[<-List.map_reverse,List.reverse_reverse];rw[hnil,List.nil_append]at gA;exact k r _ (s2.newT hr) (by rw[Ab,gA])
  ·obtain⟨v2,dy,_⟩:=aH.yes nod b9;have hlsuf:jL.length<=2000:=by rw[gA,jf_]at av;lia
   nofun;refine⟨Pv e'.2.length,fun aj H' h=>⟨_,by rw[hsn,jf_,jo_];lia,h⟩,?_⟩;have s3:Same H (upd H2 p (.lst (jL.reverse.map V.int++[V.int x]))):=s2.over hp;refine⟨.inl ⟨rfl,_,SqL.of bA⟩,_,SqT.of (s2 _ _ ht),_,rfl,_,bA,by simp;lia,_,SqT.of (s3 _ _ ht),_,rfl,v2,get s3 (s3 _ _ hq) dy,(aw _ _ _).mpr ⟨e',x::jL,v2,rfl,b9,by rw[gA,hsn];simp,dy,s3,by rw[Ab];simp,rfl⟩⟩
noncomputable def Ee (w1 w2:α1)(m1 m2:α2)(a b:Int)(ws:α2):Prop:=mkW m1 (Ba w1 a ws)≠mkW m2 (Ba w2 b ws)
noncomputable def Y4 (K:α3):Sp:=fun vs H Q _=>∃(h h2 st:Addr) (L:Int) (af ai:α2) (ag ak:α1) (a b:Int),vs=[.ref h,.ref h2,.ref st]/\Cn K H h L af ag/\Wf L af ag/\Cn K H h2 L ai ak/\Wf L ai ak/\H st=some (.tup [.int a,.int b])/\okP af.length ai.length (a,b) /\
 (∀H',Same H H'->(∀ws,isW L ws=true->¬ Ee ag ak af ai a b ws)->Q .non H') /\
 ∀t w H',Same H H'->H' t=some (.tup (w.map V.int))->isW L w=true->w.length<=2000->Ee ag ak af ai a b w->(∀ws,isW L ws=true->Ee ag ak af ai a b ws->place L w<=place L ws)->Q (.ref t) H'
def Ht:⋯ EE.j61 2 ["house","other","start"] (Y4 K):=by
 delta EE.j61 BR
 ·obtain⟨h,h2,st,L,af,ai,ag,ak,a,b,rfl,_⟩:=h;rfl
 ·obtain⟨h,h2,st,L,af,ai,ag,ak,a,b,rfl,hh,wf,dE,cL,aH,hok,kN,kS⟩:=h;have hl:=Ak;have cO:=wf.n40;have ft:=cL.n40;refine⟨_,(Ac (Ao (i:=3) BR.nd (Aj (Nf EE) hr.d AB (Aa (pvD 0) (Aa (pvD 1) (Aa (pvD 2) Ad)))))
   (Ac (Bh jG_ rfl (PN (pvD 3)) (Ar (i:=4) BR.nd rfl (ou rfl))
   (Ae (AY (ptT (Au (opN G8) (Ai (ixTD An) (Ai (ixTD An) (pvD 0) Ag) (Ai (ixTD An) (pvD 4) Ag)) (Ai (ixTD An) (Ai (ixTD An) (pvD 1) Ag) (Ai (ixTD An) (pvD 4) Ag)) (AG _)))
   (Ae (Ap (Aj (QX EE) hr.d AB (Aa (pvD 3) (Aa (pvD 4) Ad)))))
   Aw)))
   (Ae (Ap BL)))),?_⟩
  nofun;refine⟨h,h2,st,L,af,ai,ag,ak,a,b,rfl,hh,wf,dE,cL,aH,hok,fun d top kvs H1 s1 hdn hd stp bf=>?_⟩;generalize Il ag ak L af.length ai.length a b=ents at stp bf;nofun;refine⟨kvs,hd,fun o=>?_⟩;have sF:Same H (upd H1 d (.frz o (.dT kvs))):=s1.over hdn;have kK:=stp.mono (TK.dT (o:=.frz o (.dT kvs)) hd);have dF:upd H1 d (.frz o (.dT kvs)) d=some (.frz o (.dT kvs)):=Ab;generalize upd H1 d (.frz o (.dT kvs))=HF at sF kK dF ⊢;have hmk:∀e∈ents,Ba ag a e.2=e.1.1/\Ba ak b e.2=e.1.2:=fun e he=>by
   have:=(bf.wd e he).2;rw[OH]at this;exact⟨qn_ Prod.fst this,qn_ Prod.snd this⟩
  refine forD (fun i aq H2=>H2=HF/\(∀j,j<i->∀e,ents[j]?=some e->mkW af e.1.1=mkW ai e.1.2)/\∃o4,aq=[some (.ref h),some (.ref h2),some (.ref st),some (.ref d),o4]) ⟨rfl,fun j hj=>absurd hj (qX_ _),none,rfl⟩ (fun i aq H2 _ h=>by rw[h.1];exact dF) (fun i kk v bp aq H2 cD h lH=>?_) (fun aq H2 h=>?_)
  ·obtain⟨rfl,cm,o4,rfl⟩:=h;have hi:i<ents.length:=by rw[<-kK.1];exact (ja_.mp cD).1
   have aZ:ents[i]?=some ents[i]:=by simp[hi]
   have ir:=jc_ aZ;obtain⟨v',dI,_⟩:=kK.2 i _ aZ;rw[cD]at dI;cases dI;have i3:H2 bp=some (.tup [.int ents[i].1.1,.int ents[i].1.2]):=lH;obtain⟨⟨a0,a1⟩,b0,b1⟩:=bf.rng _ ir;obtain⟨mm,wv,q1,q2,q3⟩:=hh.mono sF;obtain⟨nC,wv',fN,iF,kH⟩:=dE.mono sF;nofun;refine⟨_,q1,_,rfl,?_⟩;nofun;refine⟨_,SqT.of i3,_,rfl,?_⟩;nofun;refine⟨_,q2,_,NN a0 a1,_,fN,_,rfl,?_⟩;nofun;refine⟨_,SqT.of i3,_,rfl,_,_,rfl,iF,_,NN b0 b1,rfl,?_⟩;by_cases aA:mkW af ents[i].1.1=mkW ai ents[i].1.2
   ·rw[if_neg (by rw[jR_ (qn_ V.int aA)];decide)];refine⟨fun j hj e he=>?_,_,rfl⟩;by_cases dN:j<i
    ·exact cm j dN e he
    ·have:j=i:=by lia
     subst this;rw[aZ]at he;cases he;exact aA
   ·rw[if_pos (by rw[jP_ (fun z=>aA (V.int.inj z))];decide)];have jJ:=bf.lenP;have hnm:af.length*ai.length<=1600:=j3_ cO ft;have jV:=bf.sh i _ aZ;refine⟨d,bp,ents,kvs,ents[i],rfl,.inr ⟨o,dF⟩,kK,bf.nod,ir,i3,by lia,fun t H3 s3 ht=>?_⟩;refine kS t _ H3 (sF.trans s3) ht (bf.wd _ ir).1 s!"" ?_ fun ws hw cU=>?_
    ·show mkW af (Ba ag a ents[i].2)≠mkW ai (Ba ak b ents[i].2);rw[(hmk _ ir).1,(hmk _ ir).2];exact aA
    ·obtain⟨w',hm,hple⟩:=bf.leastW hw;obtain⟨j,hj,ej⟩:=jL_ hm;have l5:ents[j]?=some (E4 (DB ag ak) (a,b) ws,w'):=by rw[je_ hj,ej]
     have lN:i<=j:=j5_ fun ay=>by
      have:=cm j ay _ l5;rw[OH]at this;exact cU this
     by_cases he:i=j
     ·subst he;rw[aZ]at l5;have:=qn_ Prod.snd (jB_ l5);rw[this];exact hple
     ·have:=bf.inc i j _ _ s!"" aZ l5;exact r9 (xj_ this) hple
  ·obtain⟨rfl,cm,o4,rfl⟩:=h;nofun;refine kN _ sF fun ws hw ht=>?_;obtain⟨w',hm,_⟩:=bf.leastW hw;obtain⟨j,hj,ej⟩:=jL_ hm;have:=cm j (by rw[kK.1];exact hj) _ (by rw[je_ hj,ej]);rw[OH]at this;exact ht this
noncomputable def Y5 (K:α3)(BH:Addr):Sp:=fun vs H Q E=>∃(h h2:Addr) (L L2:Int) (af ai:α2) (ag ak:α1),vs=[.ref h,.ref h2]/\Cn K H h L af ag/\Cn K H h2 L2 ai ak/\(L=L2->Q .non H)/\(L≠L2->E (.ref BH) none H)
def Ef:CalH P w mg base (CXe P w) EE.j58 1 ["house","other"] (Y5 K aV):=by
 refine HG.okE EE.j58 D6 (fun vs H Q E h=>?_) (fun au A outer s H vs Q E hr h=>?_)
 ·obtain⟨h,h2,L,L2,af,ai,ag,ak,rfl,_⟩:=h;rfl
 ·obtain⟨h,h2,L,L2,af,ai,ag,ak,rfl,hh,dE,k,kE⟩:=h;have hl:=Ak;refine⟨_,(Ae (AY (ptT (Au (opN G8) (Ai (ixTD An) (pvD 0) Ag) (Ai (ixTD An) (pvD 1) Ag) (AG _)))
   (Ae (BO EE.m_j5 EE.x_j5 rfl rfl (Aa As Ad)))
   Aw)),?_⟩
  nofun;obtain⟨m,wv,q1,q2,q3⟩:=hh;obtain⟨m',wv',fN,iF,kH⟩:=dE;refine⟨_,q1,_,rfl,?_⟩;nofun;refine⟨_,fN,_,rfl,rfl,?_⟩;by_cases e:L=L2
  ·rw[if_neg (by rw[jR_ (qn_ V.int e)];decide)];exact k e
  ·rw[if_pos (by rw[jP_ (fun z=>e (V.int.inj z))];decide)];exact⟨by lia,kE e⟩
noncomputable def Xj (K:α3)(BH:Addr):Sp:=fun vs H Q E=>∃(h h2:Addr) (L M:Int) (af ai:α2) (ag ak:α1),vs=[.ref h,.ref h2]/\Cn K H h L af ag/\Wf L af ag/\Cn K H h2 M ai ak/\Wf M ai ak /\
 (L=M->(∀H',Same H H'->(∀ws,isW L ws=true->¬ Ee ag ak af ai 0 0 ws)->Q .non H') /\
  ∀t w H',Same H H'->H' t=some (.tup (w.map V.int))->isW L w=true->w.length<=2000->Ee ag ak af ai 0 0 w->(∀ws,isW L ws=true->Ee ag ak af ai 0 0 ws->place L w<=place L ws)->Q (.ref t) H')/\(L≠M->∀H',Same H H'->E (.ref BH) none H')
def Ng:CalH P w mg base (CXe P w) EE.j62 3 ["house","other"] (Xj K aV):=by
 refine HG.okE EE.j62 MZ (fun vs H Q E h=>?_) (fun au A outer s H vs Q E hr h=>?_)
 ·obtain⟨h,h2,L,M,af,ai,ag,ak,rfl,_⟩:=h;rfl
 ·obtain⟨h,h2,L,M,af,ai,ag,ak,rfl,hh,wf,dE,cL,k,kE⟩:=h;have hl:=Ak;have kB:=wf.n1;have m8:=cL.n1;refine⟨_,(Ac (Ay (Aj (Ef EE) hr.d (Ep fun _ _ _ h=>h) (Aa (pvD 0) (Aa (pvD 1) Ad))))
   (PSs.nox (Ae (Ap (Aj (Ht EE) hr.d AB (Aa (pvD 0) (Aa (pvD 1) (Aa (Bt (Aa Ag (Aa Ag Ad))) Ad)))))))),?_⟩
  nofun;refine⟨h,h2,L,M,af,ai,ag,ak,rfl,hh,dE,fun e=>?_,fun e=>kE e H (Same.refl _)⟩;subst e;obtain⟨kN,kS⟩:=k rfl;nofun;refine⟨by lia,fun p hp=>?_⟩;have sp:=Same.new (o:=.tup [V.int 0,V.int 0]) hp;exact⟨h,h2,p,L,af,ai,ag,ak,0,0,rfl,hh.mono sp,wf,dE.mono sp,cL,Ab,⟨⟨by lia,by show (0:Int)<_;lia⟩,by lia,by show (0:Int)<_;lia⟩,fun H' s h=>kN H' (sp.trans s) h,fun t w H' s=>kS t w H' (sp.trans s)⟩
noncomputable def cell (ns:α2)(k:Nat):Int:=ns.getD k 0
noncomputable def Xk (K:α3):Sp:=fun vs H Q _=>∃(a:Addr) (ns:α2) (k:Nat),vs=[.ref a,.int k]/\SqL K H a (ns.map V.int)/\Q (.int (cell ns k)) H
def Cf:⋯ EE.j66 1 ["script","k"] (Xk K):=by
 delta EE.j66 K2
 ·obtain⟨a,ns,k,rfl,_⟩:=h;rfl
 ·obtain⟨a,ns,k,rfl,hs,q⟩:=h;refine⟨_,(Ac (AY (ptT (Au (opD0 Nm) (pvD 1) (AE (lenD Aq) (by rfl) EE.len jO_ (Aa (pvD 0) Ad)) (AG _)))
   (Ae (Ap (Ai (ixLD AZ) (pvD 0) (pvD 1))))
   Aw)
   (Ae (Ap Ag))),?_⟩
  nofun;refine⟨_,.inl hs,?_⟩;rw[jb_];refine ite2 (fun hk=>?_) (fun hk=>?_)
  ·have lO:k<ns.length:=by simpa using hk
   refine⟨_,hs,V.int (cell ns k),?_,q⟩;refine G9 ?_;rw[jj_];unfold cell;rw[jp_];simp[lO]
  ·have lO:¬ k<ns.length:=by simpa using hk
   have:cell ns k=0:=by
    unfold cell;rw[jp_,jT_ s!""];rfl
   rw[<-this];exact q
noncomputable def O6 (K:α3):Sp:=fun vs H Q _=>∃(h a:Addr) (L:Int) (af:α2) (ag:α1) (ws:α2),vs=[.ref h,.ref a]/\Cn K H h L af ag/\Wf L af ag/\SqT K H a (ws.map V.int)/\isW L ws=true/\Q (.int (Ax af (Al ag ws))) H
def GI:⋯ EE.j70 1 ["house","word"] (O6 K):=by
 delta EE.j70 CF
 ·obtain⟨h,a,L,af,ag,ws,rfl,_⟩:=h;rfl
 ·obtain⟨h,a,L,af,ag,ws,rfl,hh,wf,ha,hv,k⟩:=h;have kB:=wf.n1;refine⟨_,(Ac (Ao (i:=2) CF.nd Ag)
   (Ac (Bh jG_ rfl (Jt (pvD 1)) (Ar (i:=3) CF.nd rfl (ou rfl))
   (Ae (Ao (i:=2) CF.nd (Ai (ixTD An) (Ai (ixTD An) (Ai (ixTD An) (pvD 0) Ag) (pvD 2)) (pvD 3)))))
   (Ae (Ap (Ai (ixTD An) (Ai (ixTD An) (pvD 0) Ag) (pvD 2)))))),?_⟩
  nofun;refine⟨⟨_,ha⟩,forT (xs:=ws.map V.int) (fun i aq H2=>H2=H/\∃o,aq=[some (.ref h),some (.ref a),some (.int (Ba ag 0 (ws.take i))),o]) ⟨rfl,none,by simp[Ba]⟩ (fun i aq H2 _ h=>by rw[h.1];exact ha) (fun i x aq H2 hx h=>?_) (fun aq H2 h=>?_)⟩
  ·obtain⟨rfl,o,rfl⟩:=h;obtain⟨n,hn,rfl⟩:=Gb hx;have bt:=Am.mp hv n (jc_ hn);have c7:=MG wf (ws.take i) (Gf hv i) (show (0:Int)<=0 by lia) s!"";obtain⟨row,g,r1,r2,r3,r4,r5⟩:=wf.step c7.1 c7.2 bt.1 bt.2;obtain⟨m,wv,q1,q2,q3⟩:=id hh;obtain⟨xs,t,z1,z2,z3⟩:=q3.atZ c7.1 r1;nofun;refine⟨_,q1,_,rfl,?_⟩;nofun;refine⟨_,z1,_,z2,?_⟩;nofun;refine⟨_,z3,_,Cw bt.1 r2,?_⟩;rw[QD hn,r3];exact⟨rfl,_,rfl⟩
  ·obtain⟨rfl,o,rfl⟩:=h;rw[jb_,jE_];obtain⟨m,wv,q1,q2,q3⟩:=id hh;have wk:=MG wf ws hv (show (0:Int)<=0 by lia) s!"";nofun;exact⟨_,q1,_,rfl,m,rfl,_,q2,_,NN wk.1 wk.2,k⟩
def Hu {l k:α2}(h:l.Nodup)(hs:∀x∈l,x∈k):l.length<=k.length:=by
 induction l generalizing k with
 |nil=>simp
 |cons a l ih=>
  rw[j6_]at h;have ha:=hs a js_;have h1:∀x∈l,x∈k.erase a:=fun x hx=>by
   refine (zg_ ?_).mpr (hs x (jm_ _ hx));intro z;subst z;exact h.1 hx
  have:=ih h.2 h1;rw[xf_ ha]at this;have hp:=qq_ ha;rw[jD_];lia
def N8 {l k:α2}(h:l.Nodup)(hs:∀x∈l,x∈k)(hk:k.length<=l.length){x:Int}(hx:x∈k):x∈l:=by
 refine Decidable.byContradiction fun hn=>?_;have:=Hu (l:=x::l) (k:=k) (by rw[j6_];exact⟨hn,h⟩) fun y hy=>by
  rcases jr_.mp hy with rfl|hy
  ·exact hx
  ·exact hs y hy
 rw[jD_]at this;lia
structure Met41 (L:Int)(n:Nat)(ag:α1)(rs:α2):Prop where
 nd:rs.Nodup
 z:0∈rs
 w:∀r∈rs,∃v,isW L v=true/\Al ag v=r
 rg:∀r∈rs,0<=r/\r<(n:Int)
noncomputable def U1 (L:Int)(ag:α1)(rs:α2):Prop:=∀r∈rs,∀x:Int,0<=x->x<L->Bp ag r x∈rs
def Met41.add (m:Met41 L af.length ag rs)(wf:Wf L af ag) (hr:r∈rs)(x0:0<=x)(x1:x<L)(hn:Bp ag r x∉rs):Met41 L af.length ag (rs++[Bp ag r x]):=by
 obtain⟨r0,r1⟩:=m.rg r hr;obtain⟨_,g,_,_,h,g0,g1⟩:=wf.step r0 r1 x0 x1;refine⟨?_,jF_ _ m.z,fun q hq=>?_,fun q hq=>?_⟩
 ·rw[qI_];exact⟨m.nd,by simp,fun a ha b hb=>by rw[jd_.mp hb];intro z;subst z;exact hn ha⟩
 ·rcases jx_.mp hq with hq|hq
  ·exact m.w q hq
  ·rw[jd_.mp hq];obtain⟨v,hv,e⟩:=m.w r hr;refine⟨v++[x],Am.mpr fun y hy=>?_,by rw[IS,e]⟩;rcases jx_.mp hy with hy|hy
   ·exact Am.mp hv y hy
   ·rw[jd_.mp hy];exact⟨x0,x1⟩
 ·rcases jx_.mp hq with hq|hq
  ·exact m.rg q hq
  ·rw[jd_.mp hq,h];exact⟨g0,g1⟩
def FJ {α:Type}[DecidableEq α]{l k:List α}(h:l.Nodup)(hs:∀x∈l,x∈k):l.length<=k.length:=by
 induction l generalizing k with
 |nil=>simp
 |cons a l ih=>
  rw[j6_]at h;have ha:=hs a js_;have h1:∀x∈l,x∈k.erase a:=fun x hx=>by
   refine (zg_ ?_).mpr (hs x (jm_ _ hx));intro z;subst z;exact h.1 hx
  have:=ih h.2 h1;rw[xf_ ha]at this;have hp:=qq_ ha;rw[jD_];lia
section
variable {rs:α2} {E:Nat->Int->Int->Prop}
noncomputable def Ts (rs:α2)(E:Nat->Int->Int->Prop)(k i:Nat):Prop:=∀a,rs[i]?=some a->∀j b,j<i->rs[j]?=some b->¬ E k b a
open Classical in
noncomputable def FK (rs:α2)(E:Nat->Int->Int->Prop)(k:Nat):List Nat:=(om rs.length).filter fun i=>decide (Ts rs E k i)
open Classical in
def CK {k i:Nat}:i∈FK rs E k↔i<rs.length/\Ts rs E k i:=by
 unfold FK;rw[qA_,qf_,jU_]
def Lg (k:Nat):(FK rs E k).Nodup:=List.nodup_range.filter _
def Qg (rf:∀k a,E k a a)(sy:∀k a b,E k a b->E k b a)(tr:∀k a b c,E k a b->E k b c->E k a c)(k:Nat):∀(n i:Nat) (a:Int),i<=n->rs[i]?=some a->∃j b,rs[j]?=some b/\E k b a/\Ts rs E k j:=by
 intro n
 induction n with
 |zero=>
  intro i a hi ha;have:i=0:=by lia
  subst this;exact⟨0,a,ha,rf k a,fun a' _ j b hj=>absurd hj (qX_ _)⟩
 |succ n ih=>
  intro i a hi ha;by_cases h:Ts rs E k i
  ·exact⟨i,a,ha,rf k a,h⟩
  ·unfold Ts at h;simp only[pX]at h;obtain⟨a',e',j,b,hj,hb,hE⟩:=h;rw[ha]at e';cases e';have hE:E k b a:=Classical.not_not.mp hE;obtain⟨j',b',h1,h2,h3⟩:=ih j b s!"" hb;exact⟨j',b',h1,tr k _ _ _ h2 hE,h3⟩
def Y6 (rf:∀k a,E k a a)(sy:∀k a b,E k a b->E k b a)(tr:∀k a b c,E k a b->E k b c->E k a c)(mo:∀k a b,E (k+1) a b->E k a b) (ha:a∈rs)(hb:b∈rs)(h:E k a b)(hn:¬ E (k+1) a b):(FK rs E k).length+1<=(FK rs E (k+1)).length:=by
 have sub:∀i∈FK rs E k,i∈FK rs E (k+1):=fun i hi=>by
  obtain⟨h1,h2⟩:=CK.mp hi;exact CK.mpr ⟨h1,fun a ha j b hj hb hE=>h2 a ha j b hj hb (mo k _ _ hE)⟩
 obtain⟨i,hi,gJ⟩:∃i,i∈FK rs E (k+1)/\i∉FK rs E k:=by
  refine qs_ fun hc=>hn ?_;have az:∀i,i∈FK rs E (k+1)->i∈FK rs E k:=fun i hi=>qs_ fun z=>hc ⟨i,hi,z⟩;obtain⟨ia,hia⟩:=jK_.mp ha;obtain⟨ib,hib⟩:=jK_.mp hb;obtain⟨j1,c1,p1,p2,p3⟩:=Qg (rs:=rs) rf sy tr (k+1) ia ia a (jh_ _) hia;obtain⟨j2,c2,r1,r2,r3⟩:=Qg (rs:=rs) rf sy tr (k+1) ib ib b (jh_ _) hib;have g1:=(CK.mp (az j1 (CK.mpr ⟨(ja_.mp p1).1,p3⟩))).2;have g2:=(CK.mp (az j2 (CK.mpr ⟨(ja_.mp r1).1,r3⟩))).2;have e12:E k c1 c2:=tr k _ _ _ (mo k _ _ p2) (tr k _ _ _ h (sy k _ _ (mo k _ _ r2)));have ej:j1=j2:=by
   refine qs_ fun aA=>?_;rcases Nat.lt_or_gt_of_ne aA with ay|ay
   ·exact g2 c2 r1 j1 c1 ay p1 e12
   ·exact g1 c1 p1 j2 c2 ay r1 (sy k _ _ e12)
  subst ej;rw[p1]at r1;cases r1;exact tr _ _ _ _ (sy _ _ _ p2) r2
 have:=FJ (l:=i::FK rs E k) (k:=FK rs E (k+1)) (by rw[j6_];exact⟨gJ,Lg k⟩) fun y hy=>by
  rcases jr_.mp hy with rfl|hy
  ·exact hi
  ·exact sub y hy
 simpa using this
def Y7 (rf:∀k a,E k a a)(sy:∀k a b,E k a b->E k b a)(tr:∀k a b c,E k a b->E k b c->E k a c)(mo:∀k a b,E (k+1) a b->E k a b)(st:∀k,(∀a∈rs,∀b∈rs,E k a b->E (k+1) a b)->∀a∈rs,∀b∈rs,E (k+1) a b->E (k+2) a b)(h0:0<rs.length) (ha:a∈rs)(hb:b∈rs)(h:E rs.length a b)(j:Nat):E j a b:=by
 have key:∀k,(∃k',k'<k/\∀a∈rs,∀b∈rs,E k' a b->E (k'+1) a b)\/k+1<=(FK rs E k).length:=by
  intro k
  induction k with
  |zero=>
   right;have:0∈FK rs E 0:=CK.mpr ⟨h0,fun a _ j b hj=>absurd hj (qX_ _)⟩;exact qq_ this
  |succ k ih=>
   rcases ih with ⟨k',h1,h2⟩|ih
   ·exact .inl ⟨k',by lia,h2⟩
   ·by_cases hs:∀a∈rs,∀b∈rs,E k a b->E (k+1) a b
    ·exact .inl ⟨k,by lia,hs⟩
    ·simp only[pX]at hs;obtain⟨a,ha,b,hb,h1,h2⟩:=hs;right;have:=Y6 rf sy tr mo ha hb h1 h2;lia
 have bg:(FK rs E rs.length).length<=rs.length:=by
  have:=FJ (l:=FK rs E rs.length) (k:=om rs.length) (Lg _) fun i hi=>qf_.mpr (CK.mp hi).1;simpa using this
 rcases key rs.length with ⟨k',h1,h2⟩|h1
 ·have up:∀d,∀a∈rs,∀b∈rs,E (k'+d) a b->E (k'+d+1) a b:=by
   intro d
   induction d with
   |zero=>exact h2
   |succ d ih=>exact st _ ih
  have far:∀d,E (rs.length+d) a b:=by
   intro d
   induction d with
   |zero=>exact h
   |succ d ih=>
    have:=up (rs.length+d-k') a ha b hb (by rw[show k'+(rs.length+d-k')=rs.length+d by lia];exact ih);rw[show k'+(rs.length+d-k')+1=rs.length+(d+1) by lia]at this;exact this
  have down:∀d i,E (i+d) a b->E i a b:=by
   intro d
   induction d with
   |zero=>exact fun i h=>h
   |succ d ih=>exact fun i h=>ih i (mo _ _ _ h)
  exact down rs.length j (by rw[Nat.add_comm];exact far j)
 ·lia
end
noncomputable def Jn (L:Int)(af:α2)(ag:α1)(k:Nat)(a b:Int):Prop:=∀v,isW L v=true->v.length<=k->mkW af (Ba ag a v)=mkW af (Ba ag b v)
def Jn.succ : Jn L af ag (k+1) a b↔Jn L af ag k a b/\∀x:Int,0<=x->x<L->Jn L af ag k (Bp ag a x) (Bp ag b x):=by
 constructor
 ·intro h;refine⟨fun v hv hl=>h v hv s!"",fun x x0 x1 v hv hl=>?_⟩;have:=h (x::v) (Am.mpr fun y hy=>by
   rcases jr_.mp hy with rfl|hy
   ·exact⟨x0,x1⟩
   ·exact Am.mp hv y hy) (by rw[jD_];lia)
  rw[BE,BE]at this;exact this
 ·rintro⟨h1,h2⟩ v hv hl;cases v with
  |nil=>exact h1 [] hv (by simp)
  |cons x v=>
   have hx:=Am.mp hv x js_;rw[BE,BE];exact h2 x hx.1 hx.2 v (Am.mpr fun y hy=>Am.mp hv y (jm_ _ hy)) (by rw[jD_]at hl;lia)
def Jn.all {L:Int}{af:α2}{ag:α1}{rs:α2}(hz:0∈rs)(cl:∀r∈rs,∀x:Int,0<=x->x<L->Bp ag r x∈rs){a b:Int}(ha:a∈rs)(hb:b∈rs)(h:Jn L af ag rs.length a b):∀v,isW L v=true->mkW af (Ba ag a v)=mkW af (Ba ag b v):=fun v hv=>
 Y7 (rs:=rs) (E:=Jn L af ag) (fun _ _ _ _ _=>rfl) (fun _ _ _ h v hv hl=>(h v hv hl).symm) (fun _ _ _ _ h g v hv hl=>(h v hv hl).trans (g v hv hl)) (fun _ _ _ h=>(Jn.succ.mp h).1) (fun k hs a ha b hb h=>by
  obtain⟨h1,h2⟩:=Jn.succ.mp h;exact Jn.succ.mpr ⟨h,fun x x0 x1=>hs _ (cl a ha x x0 x1) _ (cl b hb x x0 x1) (h2 x x0 x1)⟩) (qq_ hz) ha hb h v.length v hv (jh_ _)
structure Cls41 (L:Int)(af:α2)(ag:α1)(cl:Int->Int)(ds:α2):Prop where
 nd:ds.Nodup
 at_:∀v,isW L v=true->cl (Al ag v)∈ds
 of:∀d∈ds,∃v,isW L v=true/\cl (Al ag v)=d
 eq:∀v u,isW L v=true->isW L u=true->(cl (Al ag v)=cl (Al ag u) ↔ ∀e,isW L e=true->mkW af (Al ag (v++e))=mkW af (Al ag (u++e)))
noncomputable def ln41 (names:α2)(ag:α1)(r:Nat):α2:=names.getD r 0::(ag.getD r []).map fun a=>names.getD a.toNat 0
noncomputable def DY (names:α2)(ag:α1):α1:=(om names.length).map (ln41 names ag)
noncomputable def nx41 (names:α2)(ag:α1):α2:=(DY names ag).map fun w=>(((DY names ag).idxOf w:Nat):Int)
noncomputable def GJ (L:Int)(af:α2)(ag:α1)(k:Nat)(names:α2):Prop:=names.length=af.length/\∀a b:Nat,a<af.length->b<af.length->(names.getD a 0=names.getD b 0↔Jn L af ag k a b)
def GJ.next (wf:Wf L af ag) (h:GJ L af ag k names):GJ L af ag (k+1) (nx41 names ag):=by
 have hl:(DY names ag).length=af.length:=by unfold DY;rw[jb_,qJ_,h.1]
 have at_:∀a:Nat,a<af.length->(DY names ag)[a]?=some (ln41 names ag a):=fun a ha=>by
  unfold DY;rw[jj_,xn_ (by rw[h.1];exact ha)];rfl
 have nat:∀a:Nat,a<af.length->(nx41 names ag).getD a 0=(((DY names ag).idxOf (ln41 names ag a):Nat):Int):=fun a ha=>by
  unfold nx41;rw[jp_,jj_,at_ a ha];rfl
 refine⟨by unfold nx41;rw[jb_,hl],fun a b ha hb=>?_⟩;rw[nat a ha,nat b hb,Jn.succ];have e1:((((DY names ag).idxOf (ln41 names ag a):Nat):Int)=(((DY names ag).idxOf (ln41 names ag b):Nat):Int))↔ln41 names ag a=ln41 names ag b:=by
  constructor
  ·intro e;have e:(DY names ag).idxOf (ln41 names ag a)=(DY names ag).idxOf (ln41 names ag b):=by lia
   have ma:=jc_ (at_ a ha);have mb:=jc_ (at_ b hb);have ga:=xC_ (xX_.mpr ma);have gb:=xC_ (xX_.mpr mb);rw[<-ga,<-gb]
   congr 1
  ·intro e;rw[e]
 rw[e1];obtain⟨ra,fz,ra2,ra3⟩:=wf.row (r:=(a:Int)) s!"" s!"";obtain⟨rb,fB,rb2,rb3⟩:=wf.row (r:=(b:Int)) s!"" s!"";rw[jC_]at fz fB;have ga:ag.getD a []=ra:=by rw[jp_,fz];rfl
 have gb:ag.getD b []=rb:=by rw[jp_,fB];rfl
 have st:∀(c:Nat) (rc:α2),ag[c]?=some rc->rc∈ag->∀x:Nat,(x:Int)<L->∃g:Nat,rc[x]?=some (g:Int)/\g<af.length/\Bp ag c x=g:=fun c rc h1 h2 x hx=>by
  have h3:=wf.rows rc h2;have gd:x<rc.length:=by lia
  have h4:=h3.2 rc[x] (jZ_ _);refine⟨rc[x].toNat,by rw[je_ gd];congr 1;lia,by lia,?_⟩;rw[HJ (row:=rc) (g:=rc[x]) (by rw[jC_];exact h1) (by rw[jC_];exact je_ gd)];lia
 unfold ln41;rw[ga,gb,List.cons.injEq,h.2 a b ha hb];refine and_congr ql_ ?_;constructor
 ·intro e x x0 x1;obtain⟨xn,rfl⟩:∃xn:Nat,x=(xn:Int):=⟨x.toNat,by lia⟩;obtain⟨g,g1,g2,g3⟩:=st a ra fz ra2 xn x1;obtain⟨f,f1,f2,f3⟩:=st b rb fB rb2 xn x1;rw[g3,f3,<-h.2 g f g2 f2];have:=qn_ (fun l:α2=>l[xn]?) e;simp only[jj_,g1,f1,qP,jC_,x7_]at this;exact this
 ·intro e;refine qw_ fun xn=>?_;by_cases hx:(xn:Int)<L
  ·obtain⟨g,g1,g2,g3⟩:=st a ra fz ra2 xn hx;obtain⟨f,f1,f2,f3⟩:=st b rb fB rb2 xn hx;have e1:=e (xn:Int) s!"" hx;rw[g3,f3,<-h.2 g f g2 f2]at e1;simp only[jj_,g1,f1,qP,jC_,x7_];exact e1
  ·rw[jT_ (by rw[jb_];lia),jT_ (by rw[jb_];lia)]
def GJ.first : GJ L af ag 0 af:=⟨rfl,fun a b ha hb=>by
 constructor
 ·intro e v hv hl;have:v=[]:=qD_.mp s!"";subst this;show af.getD ((a:Int)).toNat 0=af.getD ((b:Int)).toNat 0;rw[jC_,jC_];exact e
 ·intro h;have:=h [] (Am.mpr fun x hx=>(by cases hx)) (j9_ _);have:af.getD ((a:Int)).toNat 0=af.getD ((b:Int)).toNat 0:=this;rw[jC_,jC_]at this;exact this⟩
noncomputable def U2 (K:α3):Sp:=fun vs H Q _=>∃(h:Addr) (L:Int) (af:α2) (ag:α1),vs=[.ref h]/\Cn K H h L af ag/\Wf L af ag/\∀(cl:Int->Int) (ds:α2) (H':Hp),Same H H'->Cls41 L af ag cl ds->Q (.int ds.length) H'
noncomputable def WdT (H:Hp)(ents:List ((Int×Int)×α2))(kvs:List (List Key×V)):Prop:=kvs.length=ents.length/\∀(i:Nat) (e:(Int×Int)×α2),ents[i]?=some e->∃t,kvs[i]?=some (keyP e.1,V.ref t)/\H t=some (.tup (e.2.map V.int))
def WdT.mono {ents:List ((Int×Int)×α2)} (h:WdT H ents kvs)(k:TK H H'):WdT H' ents kvs:=⟨h.1,fun i e he=>by
 obtain⟨t,h1,h2⟩:=h.2 i e he;exact⟨t,h1,k _ _ h2⟩⟩
def WdT.no {ents:List ((Int×Int)×α2)} (h:WdT H ents kvs) (hg:g∉ents.map (·.1)):valV kvs (keyP g)=none:=by
 unfold valV;rw[q0_,qd_];intro kv cD;obtain⟨i,hi,e⟩:=jL_ cD;have mO:i<ents.length:=by rw[<-h.1];exact hi
 obtain⟨v,h1,_⟩:=h.2 i ents[i] (by simp[mO]);rw[je_ hi,e]at h1;cases h1;simp only[jU_];intro z;exact hg (jq_.mpr ⟨ents[i],jZ_ _,Kg z⟩)
def WdT.nod {ents:List ((Int×Int)×α2)} (h:WdT H ents kvs)(hn:(ents.map (·.1)).Nodup):(kvs.map (·.1)).Nodup:=by
 have e:kvs.map (·.1)=(ents.map (·.1)).map keyP:=by
  refine qw_ fun i=>?_;rw[jj_,jj_,jj_];cases he:ents[i]? with
  |none=>
   rw[jT_ (by rw[h.1];exact q9_.mp he)];rfl
  |some e=>
   obtain⟨v,h1,_⟩:=h.2 i e he;rw[h1];rfl
 rw[e];exact qu (R:=(· ≠ ·)) _ (fun a b cZ z=>cZ (Kg z)) hn
def WdT.yes {ents:List ((Int×Int)×α2)} (h:WdT H ents kvs)(hn:(ents.map (·.1)).Nodup) (he:e∈ents):∃t,valV kvs (keyP e.1)=some (.ref t)/\H t=some (.tup (e.2.map V.int)):=by
 obtain⟨i,hi,ei⟩:=jL_ he;obtain⟨v,h1,h2⟩:=h.2 i e (by rw[je_ hi,ei]);exact⟨v,Sf (h.nod hn) h1,h2⟩
def WdT.put {H:Hp}{ents:List ((Int×Int)×α2)}{kvs:List (List Key×V)}(h:WdT H ents kvs){g:Int×Int}(hg:g∉ents.map (·.1)){t:Addr}{w:α2}(ht:H t=some (.tup (w.map V.int))):WdT H (ents++[(g,w)]) (putK kvs (keyP g) (.ref t)):=by
 rw[Mu _ (h.no hg)];refine⟨by rw[jf_,jf_,h.1];rfl,fun i e hi=>?_⟩;by_cases bu:i<ents.length
 ·rw[ji_ bu]at hi;obtain⟨t',h1,h2⟩:=h.2 i e hi;exact⟨t',by rw[ji_ (by rw[h.1];exact bu)];exact h1,h2⟩
 ·have hl:=(ja_.mp hi).1;rw[jf_,jo_]at hl;have e1:i=ents.length:=by lia
  subst e1;rw[jv_ (jh_ _),j7_]at hi;have:(g,w)=e:=by simpa using hi
  subst this;exact⟨t,by rw[<-h.1,jv_ (jh_ _),j7_];rfl,ht⟩
def B.leastI {α:Type}[DecidableEq α]{L:Int}{step:α->Int->α}{st:α}{ok:α->Prop}{ents:List (α×α2)}{i:Nat}{top:Int}(hL:1<=L)(h:B L step st ok ents i top){e:α×α2}(he:ents[i]?=some e):∀{ws:α2},isW L ws=true->place L ws<place L e.2->∃j,j<i/\∃w',ents[j]?=some (E4 step st ws,w')/\place L w'<=place L ws:=by
 have pos:∀{v:α2},isW L v=true->0<=place L v:=fun hv=>NM s!"" hv;have at_:∀{e':α×α2},e'∈ents->place L e'.2<place L e.2->∃j,j<i/\ents[j]?=some e':=fun {e'} hm hp=>by
  obtain⟨j,hj,ej⟩:=jL_ hm;have dw:ents[j]?=some e':=by rw[je_ hj,ej]
  refine⟨j,?_,dw⟩;refine Nat.not_le.mp fun z=>?_;by_cases dN:j=i
  ·subst dN;rw[he]at dw;cases dw;lia
  ·have:=h.inc i j _ _ s!"" he dw;lia
 intro ws;generalize hn:ws.length=n
 induction n generalizing ws with
 |zero=>
  intro hv hp;have:ws=[]:=qD_.mp hn;subst this;obtain⟨j,hj,ej⟩:=at_ (jc_ h.hd) hp;exact⟨j,hj,[],ej,qB_ _⟩
 |succ n ih=>
  intro hv hp;obtain⟨us,x,rfl⟩:∃us x,ws=us++[x]:=⟨ws.dropLast,ws.getLast (by intro z;rw[z]at hn;cases hn),(oS _).symm⟩;have hus:isW L us=true:=Am.mpr fun y hy=>Am.mp hv y (jF_ _ hy);have hx:=Am.mp hv x (by simp);have hx2:0<=x/\x<L:=by
   unfold inW at hx;simpa using hx
  have p0:=pos hus;have e1:=D4 L us x;have h2:place L us<=place L us*L:=by
   have:=oO hL p0;lia
  obtain⟨j,hj,w',ej,bg⟩:=ih (by rw[jf_,jo_]at hn;lia) hus s!"";obtain⟨e',m1,m2,m3⟩:=h.don j hj _ ej x hx2.1 hx2.2;have e2:=D4 L w' x;replace m3:place L e'.2<=place L (w'++[x]):=m3;replace m2:e'.1=step (E4 step st us) x:=m2;have h3:place L w'*L<=place L us*L:=jV_ bg s!"";obtain⟨k,hk,ek⟩:=at_ m1 s!"";refine⟨k,hk,e'.2,?_,by lia⟩;rw[ek];have:E4 step st (us++[x])=e'.1:=by
   rw[m2];unfold E4;rw[qg_];rfl
  rw[this]
noncomputable def O7 (K:α3):Sp:=fun vs H Q _=>∃(h h2:Addr) (L:Int) (af ai:α2) (ag ak:α1),vs=[.ref h,.ref h2]/\Cn K H h L af ag/\Wf L af ag/\Cn K H h2 L ai ak/\Wf L ai ak/\(∀H',Same H H'->(∀ws,isW L ws=true->¬ Ee ag ak af ai 0 0 ws)->Q .non H')/\∀t w H',Same H H'->H' t=some (.tup (w.map V.int))->isW L w=true->Ee ag ak af ai 0 0 w->(∀ws,isW L ws=true->Ee ag ak af ai 0 0 ws->place L w<=place L ws)->Q (.ref t) H'
def Hv:⋯ EE.j71 1 ["house","other"] (O7 K):=by
 delta EE.j71 AH
 ·obtain⟨h,h2,L,af,ai,ag,ak,rfl,_⟩:=h;rfl
 ·obtain⟨h,h2,L,af,ai,ag,ak,rfl,hh,wf,dE,cL,kN,kS⟩:=h;have hl:=Ak;have jH:=wf.l1;have cN:=wf.l6;have cO:=wf.n40;have ft:=cL.n40;refine⟨_,(@Ac _ _ _ _ _ (@PR _ 2 _ _ _ _ _ _ _ _ (CZ hr) AH.nd rfl (ou rfl) (Bt (Aa Ag (Aa Ag Ad))) (Bt Ad) rfl (ou rfl))
   (Ac (Ao (i:=3) AH.nd (A7 (Aa (Bt (Aa Ag (Aa Ag Ad))) Ad)))
   (Ac (Ao (i:=4) AH.nd Ag)
   (Ac (F8 jG_ (ptT (Au (opD0 Nm) (pvD 4) (AE (lenD Aq) (by rfl) EE.len jO_ (Aa (pvD 3) Ad)) (AG _)))
   (Ac (Ao (i:=5) AH.nd (Ai (ixLD AZ) (pvD 3) (pvD 4)))
   (Ac (AY (ptT (Au (opN G8) (Ai (ixTD An) (Ai (ixTD An) (pvD 0) Ag) (Ai (ixTD An) (pvD 5) Ag)) (Ai (ixTD An) (Ai (ixTD An) (pvD 1) Ag) (Ai (ixTD An) (pvD 5) Ag)) (AG _)))
   (Ae (Ap (E8 (CZ hr) (pvD 2) (pvD 5) (fun _ _=>rfl))))
   Aw)
   (Ac (Bh jG_ rfl (Bs rfl EE.range (Aa (Ai (ixTD An) (pvD 0) Ag) Ad)) (Ar (i:=6) AH.nd rfl (ou rfl))
   (Ac (Ao (i:=7) AH.nd (Bt (Aa (Ai (ixTD An) (Ai (ixTD An) (Ai (ixTD An) (pvD 0) Ag) (Ai (ixTD An) (pvD 5) Ag)) (pvD 6)) (Aa (Ai (ixTD An) (Ai (ixTD An) (Ai (ixTD An) (pvD 1) Ag) (Ai (ixTD An) (pvD 5) Ag)) (pvD 6)) Ad))))
   (Ae (AY (U8 (NC (CZ hr) (pvD 7) (pvD 2)))
   (Ac (Em (CZ hr) (pvD 2) (pvD 7) (AL HI (E8 (CZ hr) (pvD 2) (pvD 5) (fun _ _=>rfl)) (Bt (Aa (pvD 6) Ad))) rfl)
   (Ae (Ay (Ek jS_ jX_ jY_ BN (pvD 3) (Aa (pvD 7) Ad)))))
   Aw))))
   (Ae (Ao (i:=4) AH.nd (AL (opD0 DD) (pvD 4) Ag)))))))
   (Ae (Ap BL)))))),?_⟩
  nofun;intro p hp;have kB:=wf.n1;have m8:=cL.n1;refine⟨by lia,fun p1 bM=>⟨by lia,fun p2 bA=>?_⟩⟩;have sA:=((Same.new hp (o:=.dT [])).newT bM (o:=.tup [V.int 0,V.int 0])).newT bA (o:=.tup []);have dQ:upd (upd (upd H p (.dT [])) p1 (.tup [V.int 0,V.int 0])) p2 (.tup []) p1=some (.tup [V.int 0,V.int 0]):=Same.new bA _ _ Ab;have bw:upd (upd (upd H p (.dT [])) p1 (.tup [V.int 0,V.int 0])) p2 (.tup []) p2=some (.tup []):=Ab;have nH:upd (upd (upd H p (.dT [])) p1 (.tup [V.int 0,V.int 0])) p2 (.tup []) p=some (.dT []):=Same.new bA _ _ (Same.new bM _ _ Ab);generalize upd (upd (upd H p (.dT [])) p1 (.tup [V.int 0,V.int 0])) p2 (.tup [])=HA at sA dQ bw nH ⊢;refine⟨nH,keyP (0,0),dQ,by lia,fun p3 bI=>⟨by lia,fun p4 cE=>?_⟩⟩;have hA2':upd HA p (.dT [(keyP (0,0),V.ref p2)]) p2=some (.tup []):=TK.dT nH _ _ bw;have s0:=((sA.over hp (o:=.dT [(keyP (0,0),V.ref p2)])).newT bI (o:=.tup [V.int 0,V.int 0])).newT cE (o:=.lst [V.ref p3]);have gM:=(Same.new bI (o:=.tup [V.int 0,V.int 0])).newT cE (o:=.lst [V.ref p3]);have jI:=gM _ _ (show upd HA p (.dT [(keyP (0,0),V.ref p2)]) p=_ from Ab);have w0:=gM _ _ hA2';have dB:=Same.new cE (o:=.lst [V.ref p3]) _ _ (show upd (upd HA p (.dT [(keyP (0,0),V.ref p2)])) p3 (.tup [V.int 0,V.int 0]) p3=_ from Ab);have eN:upd (upd (upd HA p (.dT [(keyP (0,0),V.ref p2)])) p3 (.tup [V.int 0,V.int 0])) p4 (.lst [V.ref p3]) p4=some (.lst [V.ref p3]):=Ab;generalize upd (upd (upd HA p (.dT [(keyP (0,0),V.ref p2)])) p3 (.tup [V.int 0,V.int 0])) p4 (.lst [V.ref p3])=H0 at s0 jI w0 dB eN ⊢;have hp4p:p4≠p:=fun z=>by rw[z,jI]at eN;cases eN
  have hp4n:H p4=none:=(sA.over hp).none ((Same.new bI).none cE);have lW:WdT H0 [((0,0),[])] [(keyP (0,0),V.ref p2)]:=⟨rfl,fun i e he=>by
   cases i with
   |zero=>simp at he;subst he;exact⟨p2,rfl,w0⟩
   |succ i=>simp at he⟩
  have lX:ES H0 (([((0,0),[])]:List ((Int×Int)×α2)).map (·.1)) [V.ref p3]:=⟨rfl,fun i q hq=>by
   cases i with
   |zero=>simp at hq;subst hq;exact⟨p3,rfl,dB⟩
   |succ i=>simp at hq⟩
  have hok:okP af.length ai.length (0,0):=⟨⟨by lia,by show (0:Int)<_;lia⟩,by lia,by show (0:Int)<_;lia⟩;obtain⟨Pv,aw⟩:∃Pv:Nat->St->Hp->Prop,∀m aq H2,Pv m aq H2↔(∃(ents:List ((Int×Int)×α2)) (kvs:List (List Key×V)) (rs:List V) (i:Nat) (top:Int) (o6 o7 o8:Option V),m=af.length*ai.length+1-i/\Same H H2/\H2 p=some (.dT kvs)/\H2 p4=some (.lst rs)/\WdT H2 ents kvs/\ES H2 (ents.map (·.1)) rs/\B L (DB ag ak) (0,0) (okP af.length ai.length) ents i top/\(∀e,ents[i]?=some e->top<=place L e.2*L+1)/\(∀j,j<i->∀e,ents[j]?=some e->mkW af e.1.1=mkW ai e.1.2)/\aq=[some (.ref h),some (.ref h2),some (.ref p),some (.ref p4),some (.int i),o6,o7,o8]):=⟨_,fun _ _ _=>ql_⟩;refine LX Pv ⟨_,(aw _ _ _).mpr ⟨_,_,_,0,1,none,none,none,rfl,s0,jI,eN,lW,lX,B.start L _ hok,fun e he=>?_,fun j hj=>absurd hj (qX_ _),rfl⟩⟩ ?_
  ·simp at he;subst he;simp[place,Bf]
  intro m aq H2 iQ;obtain⟨ents,kvs,rs,i,top,o6,o7,o8,rfl,s2,kF,fL,cG,iR,bf,iS,az,rfl⟩:=(aw _ _ _).mp iQ;have jJ:=bf.lenP;have hnm:af.length*ai.length<=1600:=j3_ cO ft;nofun;refine⟨_,.inl (SqL.of fL),?_⟩;have bG:rs.length=ents.length:=by rw[iR.1,jb_]
  rw[bG];refine ite2 (fun ay=>?_) (fun lC=>?_)
  ·have hi:i<ents.length:=by lia
   obtain⟨e,he⟩:∃e,ents[i]?=some e:=⟨ents[i],by simp[hi]⟩;obtain⟨⟨ra,rb⟩,w⟩:=e;have aO:=jc_ he;have dC:okP af.length ai.length (ra,rb):=bf.rng _ aO;obtain⟨⟨gQ,fz⟩,gR,fB⟩:=id dC;have htop':top<=place L w*L+1:=iS _ he;obtain⟨row,hrow,lY,dG⟩:=wf.row gQ fz;obtain⟨row2,cP,hrm2,hrowl2⟩:=cL.row gR fB;obtain⟨mm,wv,q1,q2,q3⟩:=id hh;obtain⟨nC,wv',fN,iF,kH⟩:=id dE;obtain⟨xs,t,z1,z2,z3⟩:=q3.atZ gQ hrow;obtain⟨xs',t',nE,nF,nG⟩:=kH.atZ gR cP;obtain⟨bp,iT,dW⟩:=iR.2 i (ra,rb) (by rw[jj_,he];rfl);refine⟨Pv (af.length*ai.length+1-(i+1)),fun aj H' h=>⟨_,by lia,h⟩,?_⟩;refine⟨_,SqL.of fL,_,DE (v:=V.ref bp) s!"" (by rw[jC_];exact iT),?_⟩;nofun;refine⟨_,s2.seqT q1,_,rfl,_,SqT.of dW,_,rfl,mm,rfl,_,ra,rfl,s2.seqT q2,_,NN gQ fz,_,s2.seqT fN,_,rfl,_,SqT.of dW,_,rfl,nC,rfl,_,rb,rfl,s2.seqT iF,_,NN gR fB,rfl,?_⟩;by_cases aA:mkW af ra=mkW ai rb
   ·rw[if_neg (by rw[jR_ (qn_ V.int aA)];decide)];refine⟨_,s2.seqT q1,_,rfl,L,rfl,by lia,by lia,?_⟩;obtain⟨Pn,fC⟩:∃Pn:Nat->St->Hp->Prop,∀x aJ H3,Pn x aJ H3↔(∃(ax:List ((Int×Int)×α2)) (aT:List (List Key×V)) (bN:List V) (o7 o8:Option V),Same H H3/\H3 p=some (.dT aT)/\H3 p4=some (.lst bN)/\WdT H3 ax aT/\ES H3 (ax.map (·.1)) bN/\H3 bp=some (.tup [.int ra,.int rb])/\B L (DB ag ak) (0,0) (okP af.length ai.length) ax i (place L w*L+(x:Int)+1)/\Se L (DB ag ak) ax (ra,rb) w x/\ax[i]?=some ((ra,rb),w)/\(∀j,j<i->∀e,ax[j]?=some e->mkW af e.1.1=mkW ai e.1.2)/\aJ=[some (.ref h),some (.ref h2),some (.ref p),some (.ref p4),some (.int i),some (.ref bp),o7,o8]):=⟨_,fun _ _ _=>ql_⟩;refine forR Pn ((fC _ _ _).mpr ⟨ents,kvs,rs,o7,o8,s2,kF,fL,cG,iR,dW,bf.up (by push_cast;lia),(fun y h0 h1=>absurd h1 (by push_cast;lia)),he,az,rfl⟩) (fun x aJ H3 hx h3=>?_) (fun aJ H3 h3=>?_)
    ·obtain⟨ax,aT,bN,o7,o8,s3,iU,dB,cg,gp,gq,dX,iV,eT,l7,rfl⟩:=(fC _ _ _).mp h3;have ex:(0:Int)+(x:Nat)=(x:Int):=by lia
     rw[ex];have fR:(x:Int)<L:=by lia
     obtain⟨rw1,g1,c1,c2,c3,c4,c5⟩:=wf.step gQ fz (show (0:Int)<=(x:Int) by lia) fR;obtain⟨rw2,g2,d1,d2,d3,d4,d5⟩:=cL.step gR fB (show (0:Int)<=(x:Int) by lia) fR;rw[hrow]at c1;cases c1;rw[cP]at d1;cases d1;have iW:DB ag ak (ra,rb) (x:Int)=(g1,g2):=by show (Bp ag ra x,Bp ak rb x)=_;rw[c3,d3]
     have cQ:=jc_ eT;obtain⟨dY,gw⟩:=dX.letter iV cQ fR (by rw[iW];exact⟨⟨c4,c5⟩,d4,d5⟩);have gx:=PU (step:=DB ag ak) (r:=(ra,rb)) (w:=w) (x:=x) eT;have hi3:=(ja_.mp eT).1;nofun;refine⟨_,s3.seqT q1,_,rfl,?_⟩;nofun;refine⟨_,SqT.of gq,_,rfl,?_⟩;nofun;refine⟨_,s3.seqT z1,_,z2,?_⟩;nofun;refine⟨_,s3.seqT z3,_,Cw s!"" c2,_,s3.seqT fN,_,rfl,_,SqT.of gq,_,rfl,_,rfl,_,_,rfl,s3.seqT nE,_,nF,_,rfl,_,s3.seqT nG,_,Cw s!"" d2,by lia,fun p5 gC=>?_⟩;have sT:=s3.newT gC (o:=.tup [V.int g1,V.int g2]);have kT:TK H3 (upd H3 p5 (.tup [V.int g1,V.int g2])):=TK.new gC;have fS:=Same.new gC (o:=.tup [V.int g1,V.int g2]) _ _ iU;have iX:=Same.new gC (o:=.tup [V.int g1,V.int g2]) _ _ dB;have gT:=Same.new gC (o:=.tup [V.int g1,V.int g2]) _ _ gq;have eU:=cg.mono kT;have iY:=gp.mono kT;have i4:upd H3 p5 (.tup [V.int g1,V.int g2]) p5=some (.tup ((keyP (g1,g2)).map kV)):=Ab;generalize upd H3 p5 (.tup [V.int g1,V.int g2])=kI at sT kT fS iX gT eU iY i4 ⊢;refine⟨_,DGet.t fS i4,?_⟩;by_cases hm:(g1,g2)∈ax.map (·.1)
     ·have di:put (DB ag ak) (ra,rb) w ax x=ax:=by unfold put;rw[iW,if_pos hm]
      rw[di]at dY gw gx;obtain⟨e',b9,e1⟩:=jq_.mp hm;obtain⟨v,hv,_⟩:=eU.yes dX.nod b9;rw[e1]at hv;rw[hv,if_neg (by simp)];exact (fC _ _ _).mpr ⟨ax,aT,bN,_,_,sT,fS,iX,eU,iY,gT,dY,gw,gx,l7,rfl⟩
     ·have di:put (DB ag ak) (ra,rb) w ax x=ax++[((g1,g2),w++[(x:Int)])]:=by unfold put;rw[iW,if_neg hm]
      rw[di]at dY gw gx;rw[eU.no hm,if_pos (by simp)];obtain⟨tw,y1,y2⟩:=eU.yes dX.nod cQ;have hgT:=DGet.t (k:=keyP (ra,rb)) fS gT;rw[y1]at hgT;have hlen3:=dX.lenP;have aY:=dX.sh i _ eT;have aY:w.length<=i:=aY;nofun;refine⟨_,hgT,by lia,fun p6 hp6=>Gx.ofS (Same.new hp6 _ _ y2) Ab (by simp;lia) fun q HU sU' hq=>?_⟩;have hq:HU q=some (.tup ((w++[(x:Int)]).map V.int)):=by rw[jz_];exact hq
      have i5:=(Same.new hp6 (o:=.tup [V.int x])).trans sU';have sU:=sT.trans i5;have jK:=i5 _ _ fS;have lZ:=i5 _ _ iX;have kJ:=i5 _ _ gT;have hp5U:=i5 _ _ i4;have l3:=(eU.mono (TK.of i5)).put hm hq;have l4:=iY.mono (TK.of i5);refine⟨_,DPut.t (k:=keyP (g1,g2)) jK hp5U (by rw[cg.1];lia),?_⟩;have gy:TK HU (upd HU p (.dT (putK aT (keyP (g1,g2)) (V.ref q)))):=TK.dT jK;have dZ:upd HU p (.dT (putK aT (keyP (g1,g2)) (V.ref q))) p4=some (.lst bN):=by rw[Ah hp4p];exact lZ
      refine⟨.inl ⟨rfl,_,SqL.of dZ⟩,_,dZ,by rw[gp.1,jb_];lia,(fC _ _ _).mpr ⟨_,_,_,_,_,(sU.over hp).over hp4n,?_,Ab,(l3.mono gy).mono (TK.lst dZ),?_,TK.lst dZ _ _ (gy _ _ kJ),dY,gw,gx,fun j hj e' b9=>?_,rfl⟩⟩
      ·rw[Ah (qm_ hp4p)];exact Ab
      ·have:=((l4.mono gy).mono (TK.lst (o:=.lst (bN++[V.ref p5])) dZ)).snoc (p:=(g1,g2)) (b:=p5) (TK.lst dZ _ _ (gy _ _ hp5U));simpa using this
      ·rw[ji_ s!""]at b9;exact l7 j hj e' b9
    ·obtain⟨ax,aT,bN,o7,o8,s3,iU,dB,cg,gp,gq,dX,iV,eT,l7,rfl⟩:=(fC _ _ _).mp h3;nofun;obtain⟨dY,fE⟩:=dX.next s!"" s!"" iV eT;refine (aw _ _ _).mpr ⟨ax,aT,bN,i+1,_,_,_,_,rfl,s3,iU,dB,cg,gp,dY,fE,fun j hj e' b9=>?_,by push_cast;rfl⟩;by_cases dN:j<i
     ·exact l7 j dN e' b9
     ·have:j=i:=by lia
      subst this;rw[eT]at b9;cases b9;exact aA
   ·rw[if_pos (by rw[jP_ (fun z=>aA (V.int.inj z))];decide)];obtain⟨tw,y1,y2⟩:=cG.yes bf.nod aO;have hg:=DGet.t (k:=keyP (ra,rb)) kF dW;rw[y1]at hg;have aY:w.length<=i:=bf.sh i _ he;refine⟨_,hg,kS tw w H2 s2 y2 (bf.wd _ aO).1 ?_ (fun ws eJ jv=>?_)⟩
    rotate_left
    ·refine Int.not_lt.mp fun hlt9=>?_;obtain⟨j9,hj9,w9,he9,_⟩:=B.leastI s!"" bf he eJ hlt9;have:=az j9 hj9 _ he9;rw[OH]at this;exact jv this
    have c7:=(bf.wd _ aO).2;rw[OH]at c7;show mkW af (Ba ag 0 w)≠mkW ai (Ba ak 0 w);have k1:Ba ag 0 w=ra:=qn_ Prod.fst c7;have k2:Ba ak 0 w=rb:=qn_ Prod.snd c7;rw[k1,k2];exact aA
  ·have hi:i=ents.length:=by have:=bf.il;lia
   subst hi;refine kN H2 s2 fun ws hw ht=>?_;obtain⟨w',hm,_⟩:=bf.leastW hw;obtain⟨j,hj,ej⟩:=jL_ hm;have:=az j hj _ (by rw[je_ hj,ej]);rw[OH]at this;exact ht this
noncomputable def Tt (K:α3):Sp:=fun vs H Q _=>∃m L:Int,vs=[.int m,.int L]/\0<=m/\m<=1000/\0<=L/\L<=1000/\Q (.int ((1+m*L)*m+10*(m-1))) H
def Jo:⋯ EE.j74 1 ["m","letters"] (Tt K):=by
 delta EE.j74 Jd
 ·obtain⟨m,L,rfl,_⟩:=h;rfl
 ·obtain⟨m,L,rfl,m0,m1,l0,l1,k⟩:=h;refine⟨_,(Ae (Ap (AL (opD0 DD) (AL (opD Ju) (AL (opD0 DD) Ag (AL (opD Ju) (pvD 0) (pvD 1))) (pvD 0)) (AL (opD Ju) Ag (AL (opD0 Pk) (pvD 0) Ag))))),?_⟩;nofun;refine⟨.inl ⟨by lia,by lia⟩,.inr ⟨by lia,by lia⟩,.inl ⟨by lia,by lia⟩,k⟩
def O8 {l k:α1}(h:l.Nodup)(hs:∀x∈l,x∈k):l.length<=k.length:=by
 induction l generalizing k with
 |nil=>simp
 |cons a l ih=>
  rw[j6_]at h;have ha:=hs a js_;have h1:∀x∈l,x∈k.erase a:=fun x hx=>by
   refine (zg_ ?_).mpr (hs x (jm_ _ hx));intro z;subst z;exact h.1 hx
  have:=ih h.2 h1;rw[xf_ ha]at this;have hp:=qq_ ha;rw[jD_];lia
noncomputable def BU (s:AS):α1:=De (AK s.L s.W) s.E
noncomputable def nonC (s:AS):Nat:=s.es.countP fun p=>decide (p.1∉BU s)
noncomputable def JX42 (s:AS):Wish->Prop
 |.ask c=>(s.wr=none->c∈BU s)/\∀v m ws,s.wr=some v->s.gs=some (m,ws)->Ec s.es s.W ws v (Ax m (Al ws v)) v.length 0 v.length=.ask c
 |.shown m ws=>CH s.L s.W s.E s.es=none/\m=Bn s.W s.es/\ws=CS s.L s.W s.E s.es
 |_=>True
def N9 (he:s'.es=s.es)(hc:∀c∈BU s,c∈BU s'):nonC s'<=nonC s:=by
 unfold nonC;rw[he];refine List.countP_mono_left fun p _ h=>?_;simp only[jU_]at h ⊢;exact fun z=>h (hc _ z)
def Jp (h:c∈EW L W E es):c∈De (AK L W) E:=(qA_.mp h).1
def O9 (h:v∈AK L W):v∈AK L (W++[r]):=by
 rcases AF.mp h with h|⟨a,ha,y,hy,e⟩
 ·exact AF.mpr (.inl (jF_ _ h))
 ·exact AF.mpr (.inr ⟨a,jF_ _ ha,y,hy,e⟩)
def Nh (f:Full L W E es)(g:Grow es cR) (hr:r∈AK L W):gOf E cR r=gOf E es r:=by
 unfold gOf;refine jM_ fun e he=>?_;obtain⟨m,hm⟩:=f (r++e) (AN.mpr ⟨r,hr,e,he,rfl⟩);rw[hm,g _ _ hm]
def Y8 {L:Int}{af:α2}{ag:α1}(wf:Wf L af ag){w:α2}(hw:isW L w=true):0<=Al ag w/\Al ag w<af.length:=by
 have:=wf.walk hw w.length
 rwa [jE_]at this
def L8 (ag:α1)(u e:α2):Al ag (u++e)=Ba ag (Al ag u) e:=by
 rw[<-Ge,NS,Ge]
noncomputable def Lh (es:Bk)(hm:α2)(hw:α1):Prop:=∀p∈es,Ax hm (Al hw p.1)=p.2
noncomputable def bq (n:Nat):Nat:=if n<=1 then 0 else if n<=2 then 1 else if n<=4 then 2 else if n<=8 then 3 else if n<=16 then 4 else if n<=32 then 5 else if n<=64 then 6 else if n<=128 then 7 else if n<=256 then 8 else if n<=512 then 9 else 10
def Xl (n:Nat):bq n<=10:=by
 unfold bq
 repeat' split
 all_goals lia
def Y9 (h:n<=1):bq n=0:=by unfold bq;rw[if_pos h]
def Xm (g:1<n)(h:n<=2):bq n=1:=by unfold bq;rw[if_neg s!"",if_pos h]
def Xn (g:2<n)(h:n<=4):bq n=2:=by unfold bq;rw[if_neg s!"",if_neg s!"",if_pos h]
def Xo (g:4<n)(h:n<=8):bq n=3:=by unfold bq;rw[if_neg s!"",if_neg s!"",if_neg s!"",if_pos h]
def Xp (g:8<n)(h:n<=16):bq n=4:=by unfold bq;rw[if_neg s!"",if_neg s!"",if_neg s!"",if_neg s!"",if_pos h]
def Xq (g:16<n)(h:n<=32):bq n=5:=by unfold bq;rw[if_neg s!"",if_neg s!"",if_neg s!"",if_neg s!"",if_neg s!"",if_pos h]
def Xr (g:32<n)(h:n<=64):bq n=6:=by unfold bq;rw[if_neg s!"",if_neg s!"",if_neg s!"",if_neg s!"",if_neg s!"",if_neg s!"",if_pos h]
def Xs (g:64<n)(h:n<=128):bq n=7:=by unfold bq;rw[if_neg s!"",if_neg s!"",if_neg s!"",if_neg s!"",if_neg s!"",if_neg s!"",if_neg s!"",if_pos h]
def Xt (g:128<n)(h:n<=256):bq n=8:=by unfold bq;rw[if_neg s!"",if_neg s!"",if_neg s!"",if_neg s!"",if_neg s!"",if_neg s!"",if_neg s!"",if_neg s!"",if_pos h]
def Xu (g:256<n)(h:n<=512):bq n=9:=by unfold bq;rw[if_neg s!"",if_neg s!"",if_neg s!"",if_neg s!"",if_neg s!"",if_neg s!"",if_neg s!"",if_neg s!"",if_neg s!"",if_pos h]
def Tu (g:512<n):bq n=10:=by unfold bq;rw[if_neg s!"",if_neg s!"",if_neg s!"",if_neg s!"",if_neg s!"",if_neg s!"",if_neg s!"",if_neg s!"",if_neg s!"",if_neg s!""]
def Eg (h:n<=2 ^ t):bq n<=t:=by
 by_cases a0:n<=1
 ·rw[Y9 (n:=n) a0];exact j9_ _
 by_cases a1:n<=2
 ·rw[Xm (n:=n) s!"" a1];refine j5_ fun z=>?_;have:=qa_ (show 0<2 by decide) (show t<=0 by lia);lia
 by_cases a2:n<=4
 ·rw[Xn (n:=n) s!"" a2];refine j5_ fun z=>?_;have:=qa_ (show 0<2 by decide) (show t<=1 by lia);lia
 by_cases a3:n<=8
 ·rw[Xo (n:=n) s!"" a3];refine j5_ fun z=>?_;have:=qa_ (show 0<2 by decide) (show t<=2 by lia);lia
 by_cases a4:n<=16
 ·rw[Xp (n:=n) s!"" a4];refine j5_ fun z=>?_;have:=qa_ (show 0<2 by decide) (show t<=3 by lia);lia
 by_cases a5:n<=32
 ·rw[Xq (n:=n) s!"" a5];refine j5_ fun z=>?_;have:=qa_ (show 0<2 by decide) (show t<=4 by lia);lia
 by_cases a6:n<=64
 ·rw[Xr (n:=n) s!"" a6];refine j5_ fun z=>?_;have:=qa_ (show 0<2 by decide) (show t<=5 by lia);lia
 by_cases a7:n<=128
 ·rw[Xs (n:=n) s!"" a7];refine j5_ fun z=>?_;have:=qa_ (show 0<2 by decide) (show t<=6 by lia);lia
 by_cases a8:n<=256
 ·rw[Xt (n:=n) s!"" a8];refine j5_ fun z=>?_;have:=qa_ (show 0<2 by decide) (show t<=7 by lia);lia
 by_cases a9:n<=512
 ·rw[Xu (n:=n) s!"" a9];refine j5_ fun z=>?_;have:=qa_ (show 0<2 by decide) (show t<=8 by lia);lia
 rw[Tu (n:=n) s!""];refine j5_ fun z=>?_;have:=qa_ (show 0<2 by decide) (show t<=9 by lia);lia
def Tv (h1:1<n)(h2:n<=1024)(hk:k<=(n+1) / 2):bq k+1<=bq n:=by
 by_cases a1:n<=2
 ·rw[Xm (n:=n) s!"" a1];have:=Eg (n:=k) (t:=0) s!"";lia
 by_cases a2:n<=4
 ·rw[Xn (n:=n) s!"" a2];have:=Eg (n:=k) (t:=1) s!"";lia
 by_cases a3:n<=8
 ·rw[Xo (n:=n) s!"" a3];have:=Eg (n:=k) (t:=2) s!"";lia
 by_cases a4:n<=16
 ·rw[Xp (n:=n) s!"" a4];have:=Eg (n:=k) (t:=3) s!"";lia
 by_cases a5:n<=32
 ·rw[Xq (n:=n) s!"" a5];have:=Eg (n:=k) (t:=4) s!"";lia
 by_cases a6:n<=64
 ·rw[Xr (n:=n) s!"" a6];have:=Eg (n:=k) (t:=5) s!"";lia
 by_cases a7:n<=128
 ·rw[Xs (n:=n) s!"" a7];have:=Eg (n:=k) (t:=6) s!"";lia
 by_cases a8:n<=256
 ·rw[Xt (n:=n) s!"" a8];have:=Eg (n:=k) (t:=7) s!"";lia
 by_cases a9:n<=512
 ·rw[Xu (n:=n) s!"" a9];have:=Eg (n:=k) (t:=8) s!"";lia
 rw[Tu (n:=n) s!""];have:=Eg (n:=k) (t:=9) s!"";lia
def Tw (h:k<=n):bq k<=bq n:=by
 by_cases a0:n<=1
 ·rw[Y9 (n:=n) a0];exact Eg s!""
 by_cases a1:n<=2
 ·rw[Xm (n:=n) s!"" a1];exact Eg s!""
 by_cases a2:n<=4
 ·rw[Xn (n:=n) s!"" a2];exact Eg s!""
 by_cases a3:n<=8
 ·rw[Xo (n:=n) s!"" a3];exact Eg s!""
 by_cases a4:n<=16
 ·rw[Xp (n:=n) s!"" a4];exact Eg s!""
 by_cases a5:n<=32
 ·rw[Xq (n:=n) s!"" a5];exact Eg s!""
 by_cases a6:n<=64
 ·rw[Xr (n:=n) s!"" a6];exact Eg s!""
 by_cases a7:n<=128
 ·rw[Xs (n:=n) s!"" a7];exact Eg s!""
 by_cases a8:n<=256
 ·rw[Xt (n:=n) s!"" a8];exact Eg s!""
 by_cases a9:n<=512
 ·rw[Xu (n:=n) s!"" a9];exact Eg s!""
 rw[Tu (n:=n) s!""];exact Xl k
noncomputable def Li (es:Bk)(W ws:α1)(v:α2)(mk:Int):Nat->Nat->Nat->Nat
 |0,_,_=>0
 |f+1,lo,hi=>if hi-lo > 1 then (match mkO es (FC W ws v ((lo+hi) / 2)++v.drop ((lo+hi) / 2)) with
   |none=>bq (hi-lo)
   |some t=>if t=mk then Li es W ws v mk f lo ((lo+hi) / 2) else Li es W ws v mk f ((lo+hi) / 2) hi) else 0
def Gm (es:Bk)(W ws:α1)(v:α2)(mk:Int):∀f lo hi,Li es W ws v mk f lo hi<=bq (hi-lo)
 |0,lo,hi=>j9_ _
 |f+1,lo,hi=>by
  unfold Li;by_cases hg:hi-lo > 1
  ·rw[if_pos hg];cases hm:mkO es (FC W ws v ((lo+hi) / 2)++v.drop ((lo+hi) / 2)) with
   |none=>exact jh_ _
   |some t=>
    dsimp only;split
    ·exact j1_ (Gm es W ws v mk f _ _) (Tw s!"")
    ·exact j1_ (Gm es W ws v mk f _ _) (Tw s!"")
  ·rw[if_neg hg];exact j9_ _
def Jq {es:Bk}{W ws:α1}{v:α2}{mk:Int}{c:α2}{m:Int}(nd:((es++[(c,m)]).map (·.1)).Nodup):∀f lo hi,hi-lo<=1024->Ec es W ws v mk f lo hi=.ask c->Li (es++[(c,m)]) W ws v mk f lo hi+1<=Li es W ws v mk f lo hi
 |0,lo,hi,_,h=>by cases h
 |f+1,lo,hi,hz,h=>by
  unfold Ec at h;unfold Li;by_cases hg:hi-lo > 1
  ·rw[if_pos hg]at h ⊢;rw[if_pos hg];cases hm:mkO es (FC W ws v ((lo+hi) / 2)++v.drop ((lo+hi) / 2)) with
   |none=>
    rw[hm]at h;have e:FC W ws v ((lo+hi) / 2)++v.drop ((lo+hi) / 2)=c:=by injection h
    rw[e,DI nd (show (c,m)∈es++[(c,m)] by simp)];dsimp only;split
    ·have h1:=Gm (es++[(c,m)]) W ws v mk f lo ((lo+hi) / 2);have h2:=Tv (n:=hi-lo) (k:=(lo+hi) / 2-lo) hg hz s!"";lia
    ·have h1:=Gm (es++[(c,m)]) W ws v mk f ((lo+hi) / 2) hi;have h2:=Tv (n:=hi-lo) (k:=hi-(lo+hi) / 2) hg hz s!"";lia
   |some t=>
    rw[hm]at h;dsimp only at h;rw[Grow.snoc es c m _ _ hm];dsimp only;by_cases ht:t=mk
    ·rw[if_pos ht]at h ⊢;rw[if_pos ht];exact Jq nd f _ _ s!"" h
    ·rw[if_neg ht]at h ⊢;rw[if_neg ht];exact Jq nd f _ _ s!"" h
  ·rw[if_neg hg]at h;cases h
structure J41 (s:AS)(d:Nat):Prop where
 gc:∀c∈s.G,c∈BU s
 pc:∀v∈s.W,v=[] \/ ∃a∈s.W,∃x:Nat,x<s.L/\v=a++[(x:Int)]
 n0:s.wr=none->nonC s+10<=d+10*s.E.length
 n1:∀v m ws,s.wr=some v->s.gs=some (m,ws)->nonC s+Li s.es s.W ws v (Ax m (Al ws v)) v.length 0 v.length<=d+10*s.E.length
 d0:s.wr=none->d+1<=s.E.length
 d1:s.wr.isSome=true->d<=s.E.length
def U3 {B d:Nat} (o:OkX none B s)(j:J41 s d)(hG:s.G=[])(hw:s.wr=none):(∀s',DC s=(s',none)->J41 s' d)/\∀s' x,DC s=(s',some x)->J41 s' d/\JX42 s' x:=by
 unfold DC;cases aH:CH s.L s.W s.E s.es with
 |some r=>
  obtain⟨⟨r1,r2,r3,r4⟩,_⟩:=o.tb.more (o.full hG) aH;dsimp only;by_cases hm:s.W.length=s.most
  ·rw[if_pos hm];exact⟨fun s' z=>(by cases z),fun s' x z=>(by cases z;exact⟨j,trivial⟩)⟩
  ·rw[if_neg hm];refine⟨fun s' z=>?_,fun s' x z=>(by cases z)⟩;cases z;refine⟨fun c hc=>Jp hc,fun v hv=>?_,fun _=>?_,fun v m ws hv=>?_,j.d0,j.d1⟩
   ·rcases jx_.mp hv with hv|hv
    ·rcases j.pc v hv with z|⟨a,ha,y,hy,e⟩
     ·exact .inl z
     ·exact .inr ⟨a,jF_ _ ha,y,hy,e⟩
    ·rw[jd_.mp hv];rcases AF.mp r1 with z|⟨a,ha,y,hy,e⟩
     ·exact absurd z r2
     ·exact .inr ⟨a,jF_ _ ha,y,hy,e⟩
   ·have h1:=N9 (s:=s) (s':={s with W:=s.W++[r],G:=EW s.L (s.W++[r]) s.E s.es}) rfl (fun c hc=>by
     obtain⟨q,hq,e,he,rfl⟩:=AN.mp hc;exact AN.mpr ⟨q,O9 hq,e,he,rfl⟩)
    have:=j.n0 hw;show nonC _+10<=d+10*s.E.length;lia
   ·rw[show s.wr=some v from hv]at hw;cases hw
 |none=>
  dsimp only;cases hf:Bg s.es (Bn s.W s.es) (CS s.L s.W s.E s.es) with
  |none=>
   refine⟨fun s' z=>(by cases z),fun s' x z=>?_⟩;cases z;exact⟨⟨j.gc,j.pc,fun _=>j.n0 hw,fun v m ws hv=>(by cases hv),fun _=>j.d0 hw,fun z=>(by cases z)⟩,aH,rfl,rfl⟩
  |some v=>
   refine⟨fun s' z=>?_,fun s' x z=>(by cases z)⟩;cases z;refine⟨j.gc,j.pc,fun z=>(by cases z),fun v' m ws hv hg=>?_,fun z=>(by cases z),fun _=>?_⟩
   ·have h1:=Gm s.es s.W ws v' (Ax m (Al ws v')) v'.length 0 v'.length;have h2:=Xl (v'.length-0);have h3:=j.n0 hw;have h4:nonC s+Li s.es s.W ws v' (Ax m (Al ws v')) v'.length 0 v'.length<=d+10*s.E.length:=by lia
    exact h4
   ·have:=j.d0 hw;show d<=s.E.length;lia
def Qh {B d:Nat} (o:OkX none B s)(j:J41 s d):(∀s',Br s=(s',none)->J41 s' d)/\∀s' x,Br s=(s',some x)->J41 s' d/\JX42 s' x:=by
 unfold Br;cases hG:s.G with
 |cons c r=>
  refine⟨fun s' z=>(by cases z),fun s' x z=>?_⟩;cases z;have aR:s.wr=none:=by
   cases h:s.wr with
   |none=>rfl
   |some v=>have:=(o.wr v h).1;rw[hG]at this;cases this
  refine⟨⟨fun b hb=>j.gc b (by rw[hG];exact jm_ _ hb),j.pc,j.n0,j.n1,j.d0,j.d1⟩,fun _=>j.gc c (by rw[hG];exact js_ ..),fun v m ws hv=>?_⟩;rw[show s.wr=some v from hv]at aR;cases aR
 |nil=>
  cases hw:s.wr with
  |none=>exact U3 o j hG hw
  |some v=>
   obtain⟨_,_,_,_,m,ws,t,e1,_⟩:=o.wr v hw;rw[e1];dsimp only;unfold Ij;cases hh:Ec s.es s.W ws v (Ax m (Al ws v)) v.length 0 v.length with
   |ask c=>
    refine⟨fun s' z=>(by cases z),fun s' x z=>?_⟩;cases z;refine⟨j,fun z=>(by rw[hw]at z;cases z),fun v' m' kr dI iw=>?_⟩;rw[hw]at dI;rw[e1]at iw;cases dI;cases iw;exact hh
   |fin hi=>
    refine⟨fun s' z=>?_,fun s' x z=>(by cases z)⟩;cases z;refine⟨fun c hc=>Jp hc,j.pc,fun _=>?_,fun v m ws hv=>(by cases hv),fun _=>?_,fun z=>(by cases z)⟩
    ·have h1:=N9 (s:=s) (s':={s with wr:=none,E:=s.E++[v.drop hi],G:=EW s.L s.W (s.E++[v.drop hi]) s.es}) rfl (fun c hc=>by
      obtain⟨q,hq,e,he,rfl⟩:=AN.mp hc;exact AN.mpr ⟨q,hq,e,jF_ _ he,rfl⟩)
     have h2:=j.n1 v m ws hw e1;show nonC _+10<=d+10*(s.E++[v.drop hi]).length;rw[jf_,jo_];lia
    ·have h2:=j.d1 (by rw[hw];rfl);show d+1<=(s.E++[v.drop hi]).length;rw[jf_,jo_];lia
def Goes.J41 {B d:Nat} (g:Goes s s' x)(o:OkX none B s)(j:J41 s d):Mine.J41 s' d/\JX42 s' x:=by
 induction g with
 |stop h=>exact (Qh o j).2 _ _ h
 |more h _ ih=>
  obtain⟨o1,_,_⟩:=(Ji o).1 _ h;exact ih o1 ((Qh o j).1 _ h)
def J41.start (L most:Nat):J41 (s039 L most) 0:=⟨fun c hc=>Jp hc,fun v hv=>.inl (jd_.mp hv),fun _=>(by show 0+10<=0+10*1;lia),fun v m ws hv=>(by cases hv),fun _=>(by show 0+1<=1;lia),fun z=>(by cases z)⟩
def J41.told {B d:Nat} (o:OkX (some c) B s)(hB:B+(s.most+1)*(s.most+1)<=1024)(j:J41 s d)(x:JX42 s (.ask c))(hn:c∉s.es.map (·.1)):J41 {s with es:=s.es++[(c,m)]} d:=by
 obtain⟨x1,x2⟩:=x;have nd:((s.es++[(c,m)]).map (·.1)).Nodup:=by
  rw[jz_,qI_];exact⟨o.tb.nd,by simp,fun a ha b hb=>by rw[jd_.mp hb];intro z;subst z;exact hn ha⟩
 refine⟨j.gc,j.pc,fun hw=>?_,fun v m' ws hv hg=>?_,j.d0,j.d1⟩
 ·have h1:=j.n0 hw;have h2:nonC {s with es:=s.es++[(c,m)]}=nonC s:=by
   show pb (fun p=>decide (p.1∉BU s)) (s.es++[(c,m)])=_;rw[xF_,q8_,if_neg (by simp[x1 hw])];rfl
  rw[h2];exact h1
 ·have h1:=j.n1 v m' ws hv hg;have h2:nonC {s with es:=s.es++[(c,m)]}<=nonC s+1:=by
   show pb (fun p=>decide (p.1∉BU s)) (s.es++[(c,m)])<=pb (fun p=>decide (p.1∉BU s)) s.es+1;rw[xF_,q8_];split<;>lia
  obtain⟨_,_,_,hvl,_⟩:=o.wr v hv;have h4:=o.lens;have h3:=Jq (W:=s.W) (ws:=ws) (v:=v) (mk:=Ax m' (Al ws v)) nd v.length 0 v.length s!"" (x2 v m' ws hv hg);have h5:nonC {s with es:=s.es++[(c,m)]}+Li (s.es++[(c,m)]) s.W ws v (Ax m' (Al ws v)) v.length 0 v.length<=d+10*s.E.length:=by lia
  exact h5
def Zm {B d:Nat}{s:AS}{m:α2}{ws:α1}{w:α2}{n:Int}(o:OkX none B s)(hG:s.G=[])(aR:s.wr=none)(j:J41 s d)(x:JX42 s (.shown m ws))(aA:Ax m (Al ws w)≠n){s':AS}{y:Wish}(g:Goes {s with es:=s.es++[(w,n)]} s' y):∃s2,Goes s2 s' y/\J41 s2 (d+1)/\Br {s with es:=s.es++[(w,n)]}=(s2,none):=by
 obtain⟨aH,rfl,rfl⟩:=x;have full:=o.full hG;have gr:=Grow.snoc s.es w n;have kq:([]:α2)∈s.E:=jc_ o.tb.e0;have eW:s.W.map (gOf s.E (s.es++[(w,n)]))=s.W.map (gOf s.E s.es):=jM_ fun v hv=>Nh full gr (AF.mpr (.inl hv));have eS:CH s.L s.W s.E (s.es++[(w,n)])=none:=by
  unfold CH at aH ⊢;rw[qd_]at aH ⊢;intro v hv;have:=aH v hv;rw[eW,Nh full gr hv];exact this
 have eM:Bn s.W (s.es++[(w,n)])=Bn s.W s.es:=by
  unfold Bn;refine jM_ fun v hv=>?_;obtain⟨q,hq⟩:=full v (AN.mpr ⟨v,AF.mpr (.inl hv),[],kq,by simp⟩);rw[hq,gr _ _ hq]
 have eY:CS s.L s.W s.E (s.es++[(w,n)])=CS s.L s.W s.E s.es:=by
  unfold CS;rw[eW];refine jM_ fun v hv=>jM_ fun y hy=>?_;rw[Nh full gr (AF.mpr (.inr ⟨v,hv,y,qf_.mp hy,rfl⟩))]
 obtain⟨u,hu⟩:∃u,Bg (s.es++[(w,n)]) (Bn s.W s.es) (CS s.L s.W s.E s.es)=some u:=by
  unfold Bg;cases hf:(s.es++[(w,n)]).find? (fun e=>decide (Ax (Bn s.W s.es) (Al (CS s.L s.W s.E s.es) e.1)≠e.2)) with
  |some e=>exact⟨e.1,rfl⟩
  |none=>
   have:=qd_.mp hf (w,n) (by simp);simp[aA]at this
 have en:Br {s with es:=s.es++[(w,n)]}=({s with es:=s.es++[(w,n)],gs:=some (Bn s.W s.es,CS s.L s.W s.E s.es),wr:=some u},none):=by
  unfold Br;rw[show ({s with es:=s.es++[(w,n)]}:AS).G=[] from hG];dsimp only;rw[aR];dsimp only;unfold DC;dsimp only;rw[eS];dsimp only;rw[eM,eY,hu]
 have h7:=j.n0 aR;have h2:nonC {s with es:=s.es++[(w,n)]}<=nonC s+1:=by
  show pb (fun p=>decide (p.1∉BU s)) (s.es++[(w,n)])<=pb (fun p=>decide (p.1∉BU s)) s.es+1;rw[xF_,q8_];split<;>lia
 refine⟨{s with es:=s.es++[(w,n)],gs:=some (Bn s.W s.es,CS s.L s.W s.E s.es),wr:=some u},?_,⟨j.gc,j.pc,fun z=>(by cases z),fun v m ws hv hg=>?_,fun z=>(by cases z),fun _=>j.d0 aR⟩,en⟩
 ·cases g with
  |stop h=>rw[en]at h;cases h
  |more h g=>rw[en]at h;cases h;exact g
 ·have h1:=Gm (s.es++[(w,n)]) s.W ws v (Ax m (Al ws v)) v.length 0 v.length;have h3:=Xl (v.length-0);have h5:nonC {s with es:=s.es++[(w,n)]}+Li (s.es++[(w,n)]) s.W ws v (Ax m (Al ws v)) v.length 0 v.length<=d+1+10*s.E.length:=by lia
  exact h5
def QY (j:J41 s d):(AK s.L s.W).length<=1+s.W.length*s.L:=by
 have nd:(AK s.L s.W).Nodup:=by unfold AK;exact B0 (B0 xs_)
 have:=FJ (l:=AK s.L s.W) (k:=[]::s.W.flatMap fun a=>(om s.L).map fun x:Nat=>a++[(x:Int)]) nd fun v hv=>by
  have key:∀a∈s.W,∀x:Nat,x<s.L->a++[(x:Int)]∈([]::s.W.flatMap fun a=>(om s.L).map fun x:Nat=>a++[(x:Int)]:α1):=fun a ha x hx=>jm_ _ (xr_.mpr ⟨a,ha,jq_.mpr ⟨x,qf_.mpr hx,rfl⟩⟩);rcases AF.mp hv with h|⟨a,ha,y,hy,rfl⟩
  ·rcases j.pc v h with rfl|⟨a,ha,x,hx,rfl⟩
   ·exact js_ ..
   ·exact key a ha x hx
  ·exact key a ha y hy
 have e:(s.W.flatMap fun a=>(om s.L).map fun x:Nat=>a++[(x:Int)]).length=s.W.length*s.L:=by
  generalize s.W=l
  induction l with
  |nil=>simp
  |cons a l ih=>rw[qw,jf_,ih,jb_,qJ_,jD_,zw_];lia
 rw[jD_,e]at this;lia
def J41.few {B d m:Nat} (o:OkX x B s)(j:J41 s d)(hW:s.W.length<=m)(hE:s.E.length<=m)(hr:s.wr.isSome=true->s.E.length+1<=m):s.es.length<=(1+m*s.L)*m+10*(m-1)+d:=by
 have h1:=List.length_eq_countP_add_countP (l:=s.es) (fun p=>decide (p.1∉BU s));have hE1:1<=s.E.length:=(ja_.mp o.tb.e0).1;have h2:nonC s<=d+10*(m-1):=by
  cases hw:s.wr with
  |none=>have:=j.n0 hw;lia
  |some v=>
   obtain⟨_,_,_,_,m',ws,t,e1,_⟩:=o.wr v hw;have:=j.n1 v m' ws hw e1;have:=hr (by rw[hw];rfl);lia
 have h3:s.es.countP (fun p=>decide (¬ decide (p.1∉BU s)=true))<=(BU s).length:=by
  rw[List.countP_eq_length_filter,<-jb_ (f:=(·.1))];refine O8 ?_ fun c hc=>?_
  ·exact List.Nodup.sublist (List.Sublist.map _ List.filter_sublist) o.tb.nd
  ·obtain⟨p,hp,rfl⟩:=jq_.mp hc;have:=(qA_.mp hp).2;simpa using this
 have h4:(BU s).length<=(1+m*s.L)*m:=by
  unfold BU De;have a1:=AX ((AK s.L s.W).flatMap fun r=>s.E.map (r ++ ·)) [];have a2:((AK s.L s.W).flatMap fun r=>s.E.map (r ++ ·)).length=(AK s.L s.W).length*s.E.length:=by
   rw[xp_];generalize AK s.L s.W=l
   induction l with
   |nil=>simp
   |cons a l ih=>rw[jJ_,zl_,ih,jb_,jD_,zw_];lia
  have a3:=QY j;have a6:s.W.length*s.L<=m*s.L:=j3_ hW (jh_ _);have a7:(AK s.L s.W).length*s.E.length<=(1+m*s.L)*m:=j3_ s!"" hE;rw[a2,xe_]at a1;lia
 unfold nonC at h2;lia
section
variable {L most:Nat} {W E:α1} {es:Bk} {hm:α2} {hw:α1} {cl:Int->Int} {ds:α2}
def Cls41.apart (k:Cls41 L hm hw cl ds)(c:Lh es hm hw) (hv:isW (L:Int) v=true)(hu:isW (L:Int) u=true)(hE:∀e∈E,isW (L:Int) e=true)(h:Ih E es v u):cl (Al hw v)≠cl (Al hw u):=by
 obtain⟨e,he,m,n,h1,h2,h3⟩:=h;intro z;have:=(k.eq v u hv hu).mp z e (hE e he);have a:Ax hm (Al hw (v++e))=m:=c _ (FA h1);have b:Ax hm (Al hw (u++e))=n:=c _ (FA h2);exact h3 (a.symm.trans (this.trans b))
def Cls41.nodup (k:Cls41 L hm hw cl ds)(c:Lh es hm hw)(t:Tb L most W E es):(W.map fun v=>cl (Al hw v)).Nodup:=by
 rw[xM_,xQ_];intro i j hi hj lN;rw[jb_]at hi hj;rw[zf_,zf_];exact k.apart c (t.wW _ (jZ_ _)).1 (t.wW _ (jZ_ _)).1 t.eW (t.dist i j _ _ (je_ hi) (je_ hj) s!"")
def Cls41.le (k:Cls41 L hm hw cl ds)(c:Lh es hm hw)(t:Tb L most W E es):W.length<=ds.length:=by
 have:=Hu (l:=W.map fun v=>cl (Al hw v)) (k:=ds) (k.nodup c t) fun x hx=>by
  obtain⟨u,hu,rfl⟩:=jq_.mp hx;exact k.at_ u (t.wW u hu).1
 rwa [jb_]at this
def Cls41.more (k:Cls41 L hm hw cl ds)(c:Lh es hm hw)(t:Tb L most W E es) (hr:isW (L:Int) r=true)(h:∀u∈W,Ih E es r u):W.length+1<=ds.length:=by
 have:=Hu (l:=cl (Al hw r)::W.map fun v=>cl (Al hw v)) (k:=ds) (by
  rw[j6_];refine⟨fun z=>?_,k.nodup c t⟩;obtain⟨u,hu,eu⟩:=jq_.mp z;exact k.apart c hr (t.wW u hu).1 t.eW (h u hu) eu.symm) fun x hx=>by
  rcases jr_.mp hx with rfl|hx
  ·exact k.at_ r hr
  ·obtain⟨u,hu,rfl⟩:=jq_.mp hx;exact k.at_ u (t.wW u hu).1
 rw[jD_,jb_]at this;exact this
def Cls41.ends (k:Cls41 L hm hw cl ds)(c:Lh es hm hw)(t:Tb L most W E es):E.length<=ds.length/\E.length<=most+1:=by
 refine⟨?_,t.en⟩;have h1:=k.le c t;rcases t.jj with h|⟨h,a,ha,x,hx,fM⟩
 ·lia
 ·have:=k.more c t (r:=a++[(x:Int)]) (Am.mpr fun y hy=>by
   rcases jx_.mp hy with hy|hy
   ·exact Am.mp (t.wW a ha).1 y hy
   ·rw[jd_.mp hy];lia) fM
  lia
def Cls41.right (k:Cls41 L hm hw cl ds)(wf:Wf (L:Int) hm hw)(c:Lh es hm hw)(t:Tb L most W E es) (g:GuessOk L W E es m ws)(hn:ds.length<=W.length) (hv:isW (L:Int) v=true):Ax hm (Al hw v)=Ax m (Al ws v):=by
 have nd:=k.nodup c t;have sur:∀x∈ds,∃u∈W,cl (Al hw u)=x:=fun x hx=>by
  have:=N8 (l:=W.map fun v=>cl (Al hw v)) (k:=ds) nd (fun y hy=>by
   obtain⟨u,hu,rfl⟩:=jq_.mp hy;exact k.at_ u (t.wW u hu).1) (by rw[jb_];exact hn) hx
  obtain⟨u,hu,e⟩:=jq_.mp this;exact⟨u,hu,e⟩
 have key:∀(n:Nat) (v:α2),v.length=n->isW (L:Int) v=true->∃i:Nat,∃u,Al ws v=(i:Int)/\W[i]?=some u/\cl (Al hw v)=cl (Al hw u):=by
  intro n
  induction n with
  |zero=>
   intro v hv _;have:v=[]:=qD_.mp hv;subst this;exact⟨0,[],rfl,t.w0,rfl⟩
  |succ n ih=>
   intro v hv b5;obtain⟨v',x,rfl⟩:∃v' x,v=v'++[x]:=⟨v.dropLast,v.getLast (by intro z;rw[z]at hv;cases hv),(oS _).symm⟩;have dI:isW (L:Int) v'=true:=Am.mpr fun y hy=>Am.mp b5 y (jF_ _ hy);have hx:=Am.mp b5 x (by simp);obtain⟨i,a,h1,h2,h3⟩:=ih v' (by simpa using hv) dI;obtain⟨xn,rfl⟩:∃xn:Nat,x=(xn:Int):=⟨x.toNat,by lia⟩;obtain⟨row,kk,u,g1,g2,g3,g4⟩:=g.go i a xn h2 s!"";have haW:=(t.wW a (jc_ h2)).1;have huW:=(t.wW u (jc_ g3)).1;have nI:isW (L:Int) (a++[(xn:Int)])=true:=Am.mpr fun y hy=>by
    rcases jx_.mp hy with hy|hy
    ·exact Am.mp haW y hy
    ·rw[jd_.mp hy];exact hx
   refine⟨kk,u,?_,g3,?_⟩
   ·rw[IS,h1];exact HJ (row:=row) (by rw[jC_];exact g1) (by rw[jC_];exact g2)
   ·have e1:cl (Al hw (v'++[(xn:Int)]))=cl (Al hw (a++[(xn:Int)])):=by
     refine (k.eq _ _ b5 nI).mpr fun e he=>?_;have:=(k.eq _ _ dI haW).mp h3 ([(xn:Int)]++e) (Am.mpr fun y hy=>by
      rcases jx_.mp hy with hy|hy
      ·rw[jd_.mp hy];exact hx
      ·exact Am.mp he y hy)
     rw[<-qx_,<-qx_]at this;exact this
    rw[e1];obtain⟨b,hb,eb⟩:=sur _ (k.at_ _ nI);have hbW:=(t.wW b hb).1;obtain⟨jb,nJ⟩:=jK_.mp hb;by_cases ik:jb=kk
    ·subst ik;rw[g3]at nJ;cases nJ;exact eb.symm
    ·obtain⟨e,he,p,q,p1,p2,p3⟩:=t.dist jb kk b u nJ g3 ik;obtain⟨y,y1,y2⟩:=g4 e he;rw[p2]at y2;cases y2;have c1:Ax hm (Al hw (b++e))=p:=c _ (FA p1);have c2:Ax hm (Al hw (a++[(xn:Int)]++e))=q:=c _ (FA y1);have c3:=(k.eq b (a++[(xn:Int)]) hbW nI).mp eb e (t.eW e he);exact absurd (c1.symm.trans (Eq.trans c3 c2)) p3
 obtain⟨i,u,h1,h2,h3⟩:=key v.length v rfl hv;have huW:=(t.wW u (jc_ h2)).1;obtain⟨y,y1,y2⟩:=g.m i u h2;have c1:Ax hm (Al hw u)=y:=c _ (FA y2);have c2:=(k.eq v u hv huW).mp h3 [] (Am.mpr fun x hx=>(by cases hx));rw[xZ_,xZ_]at c2;have c2:Ax hm (Al hw v)=Ax hm (Al hw u):=c2;rw[c2,c1,h1];show y=m.getD ((i:Int)).toNat 0;rw[show ((i:Int)).toNat=i by lia,jp_,y1];rfl
def Cls41.ge (k:Cls41 L hm hw cl ds) (wf:Wf (L:Int) m ws)(h:∀v,isW (L:Int) v=true->mkW hm (Al hw v)=mkW m (Al ws v)):ds.length<=m.length:=by
 have ch:∀d,∃v,d∈ds->isW (L:Int) v=true/\cl (Al hw v)=d:=fun d=>by
  by_cases hd:d∈ds
  ·obtain⟨v,hv⟩:=k.of d hd;exact⟨v,fun _=>hv⟩
  ·exact⟨[],fun z=>absurd z hd⟩
 have sp:=fun d=>zd_ (ch d);have nd:(ds.map fun d=>Al ws (oN (ch d))).Nodup:=by
  refine zD_.mpr (pd (fun {a b} ha hb cZ z=>cZ ?_) k.nd);obtain⟨a1,a2⟩:=sp a ha;obtain⟨b1,b2⟩:=sp b hb;rw[<-a2,<-b2];refine (k.eq _ _ a1 b1).mpr fun e he=>?_;have ap:∀v,isW (L:Int) v=true->isW (L:Int) (v++e)=true:=fun v hv=>Am.mpr fun y hy=>by
   rcases jx_.mp hy with hy|hy
   ·exact Am.mp hv y hy
   ·exact Am.mp he y hy
  rw[h _ (ap _ a1),h _ (ap _ b1),L8,L8,z]
 have:=Dc m.length nd fun x hx=>by
  obtain⟨d,hd,rfl⟩:=jq_.mp hx;exact Y8 wf (sp d hd).1
 rwa [jb_]at this
end
def Goes.det (g:Goes s a x)(h:Goes s b y):a=b/\x=y:=by
 induction g with
 |stop e=>
  cases h with
  |stop e'=>rw[e]at e';cases e';exact⟨rfl,rfl⟩
  |more e' _=>rw[e]at e';cases e'
 |more e _ ih=>
  cases h with
  |stop e'=>rw[e]at e';cases e'
  |more e' h'=>rw[e]at e';cases e';exact ih h'
def EqD.all43 {K:α3} (hq:(SqL K H a xs/\SqL K H c ys)\/(SqT K H a xs/\SqT K H c ys))(hl:xs.length=ys.length)(h:∀(i:Nat) (x y:V),xs[i]?=some x->ys[i]?=some y->EqD K H n x y true):EqD K H (n+1) (.ref a) (.ref c) true:=
 .inr ⟨a,c,xs,ys,rfl,rfl,hq,fun _=>true,h,by simp[hl]⟩
def EqD.str43 {K:α3} (n:Nat)(i:Str):EqD K H n (.str i) (.str i) true:=by
 cases n with
 |zero=>exact⟨rfl,rfl,by simp[eqV]⟩
 |succ n=>exact .inl ⟨rfl,rfl,by simp[eqV]⟩
noncomputable def Wish.on93:Wish->Bool
 |.ask _=>true
 |.shown _ _=>true
 |_=>false
noncomputable def Tx (K:α3)(CA CB:Addr):Sp:=fun vs H Q _=>∃(a:Addr) (ad:AD) (s:AS) (wv:V) (x:Wish),vs=[.ref a]/\Asks K CA CB H a ad s wv/\Bj K H s.L wv x/\∀H',Same H H'->Q (.bl x.on93) H'
def QZ:⋯ EE.j47 2 ["asker"] (Tx K ao ar):=by
 delta EE.j47 QJ
 ·obtain⟨a,ad,s,wv,x,rfl,_⟩:=h;rfl
 ·obtain⟨a,ad,s,wv,x,rfl,hA,hW,k⟩:=h;have hl:=Ak;obtain⟨t,u,rfl,ht,hu⟩:=id hW;obtain⟨gv,rv,zs,ys,us,A1⟩:=id hA;refine⟨_,(Ae (Ap (Kt Nw (Ai (ixTD An) (AR (pvD 0) EE.cl_j0 EE.j32.m (AV EE).g hr.d (AV EE).b .nil AB) Ag) (Bt (Aa As (Aa As Ad))) rfl))),?_⟩;nofun;refine⟨_,_,A1.ob,by kernel_rfl,a,ad,s,_,rfl,hA,t,rfl,_,SqT.of ht,_,rfl,by lia,fun p hp=>⟨_,.inr (SqT.of Ab),rfl,rfl,?_⟩⟩;have e:inV (V.str x.tag) [V.str (Str.ofString "ask"),V.str (Str.ofString "show")]=x.on93:=by
   cases x with
   |ask c=>exact (show inV (V.str (Str.ofString "ask")) [V.str (Str.ofString "ask"),V.str (Str.ofString "show")]=true by decide +kernel)
   |shown m ws=>exact (show inV (V.str (Str.ofString "show")) [V.str (Str.ofString "ask"),V.str (Str.ofString "show")]=true by decide +kernel)
   |done m ws=>exact (show inV (V.str (Str.ofString "done")) [V.str (Str.ofString "ask"),V.str (Str.ofString "show")]=false by decide +kernel)
   |spent c=>exact (show inV (V.str (Str.ofString "spent")) [V.str (Str.ofString "ask"),V.str (Str.ofString "show")]=false by decide +kernel)
  rw[e];exact k _ (Same.new hp)
noncomputable def Wish.last93:Wish->List (List Str)
 |.spent c=>[[Str.ofString "spent",BS c]]
 |_=>[]
noncomputable def Tz (K:α3):Sp:=fun vs H Q _=>∃(L:Nat) (wv:V) (x:Wish),vs=[wv]/\Bj K H L wv x/\(∀c,x=.spent c->c.length<=700/\∀y∈c,inW 6 y=true)/\∀l H',Same H H'->H l=none->H' l=some (.lst ((x.last93.map Ed).map V.str))->Q (.ref l) H'
def Oa:⋯ EE.j64 2 ["wish"] (Tz K):=by
 delta EE.j64 N0
 ·obtain⟨L,wv,x,rfl,_⟩:=h;rfl
 ·obtain⟨L,wv,x,rfl,hW,hc,k⟩:=h;have hl:=Ak;obtain⟨t,u,rfl,ht,hu⟩:=id hW;refine⟨_,(Ae (Ap (Ph (ptT (Au (opE IL) (Ai (ixTD An) (pvD 0) Ag) As (AG _))) (A7 (Aa (Aj (Hs EE) hr.d AB (Aa (A7 (Aa As (Aa (Aj (FF EE) hr.d AB (Aa (Ai (ixTD An) (pvD 0) Ag) Ad)) Ad))) Ad)) Ad)) (A7 Ad)))),?_⟩;nofun;refine⟨_,SqT.of ht,_,rfl,rfl,?_⟩;cases x with
  |spent c=>
   rw[if_pos (show V.str (Wish.tag (.spent c))=V.str (Str.ofString "spent") from rfl)];obtain⟨hc1,cC⟩:=hc c rfl;refine⟨_,SqT.of ht,_,rfl,u,c,rfl,SqT.of hu,hc1,cC,fun H1 s1=>⟨by lia,fun p hp=>⟨p,[Str.ofString "spent",BS c],rfl,SqL.of Ab,by simp,fun y hy=>?_,by lia,fun q hq=>?_⟩⟩⟩
   ·have:=Kn c;rcases jr_.mp hy with rfl|hy
    ·decide
    ·rw[jd_.mp hy];lia
   ·have s2:=s1.trans (Same.new hp (o:=.lst [V.str (Str.ofString "spent"),V.str (BS c)]));exact k q _ (s2.newT hq) (s2.none hq) Ab
  |ask c=>rw[if_neg (show ¬ V.str (Wish.tag (.ask c))=V.str (Str.ofString "spent") from fun z=>absurd (V.str.inj z) (show ¬ Str.ofString "ask"=Str.ofString "spent" by decide +kernel))];exact⟨by lia,fun p hp=>k p _ (Same.new hp) hp Ab⟩
  |shown m ws=>rw[if_neg (show ¬ V.str (Wish.tag (.shown m ws))=V.str (Str.ofString "spent") from fun z=>absurd (V.str.inj z) (show ¬ Str.ofString "show"=Str.ofString "spent" by decide +kernel))];exact⟨by lia,fun p hp=>k p _ (Same.new hp) hp Ab⟩
  |done m ws=>rw[if_neg (show ¬ V.str (Wish.tag (.done m ws))=V.str (Str.ofString "spent") from fun z=>absurd (V.str.inj z) (show ¬ Str.ofString "done"=Str.ofString "spent" by decide +kernel))];exact⟨by lia,fun p hp=>k p _ (Same.new hp) hp Ab⟩
def Cz:⋯ EE.j72 1 ["word"] (Qf K):=by
 delta EE.j72 Jb
 ·obtain⟨a,ws,rfl,_⟩:=h;rfl
 ·obtain⟨a,ws,rfl,ha,hz,hw,k⟩:=h;have hl:=Ak;refine⟨_,(Ac (AY (ptT (Au (X5 8 (hu9 hr)) (pvD 0) (Bt Ad) (AG _)))
   (Ae (Ap As))
   Aw)
   (Ae (Ap (Ek qi_ xJ_ xK_ Ki As (Aa (Be rfl (Bq rfl) (cp:=DH) oq (Jt (pvD 0)) (fun _ _ _ _=>(Ar (i:=0) Fy rfl (ou rfl))) (fun _ _ _ _=>Bu) (fun _ _ _ _=>(T6 Rz As (pvD 0) (fun _ _=>rfl)))) Ad))))),?_⟩
  nofun;refine⟨by lia,fun p hp=>⟨_,EqD.ints (xs:=ws) (ys:=[]) (.inr ⟨(Same.new hp).seqT ha,SqT.of Ab⟩) 7,?_⟩⟩;have s1:=Same.new hp (o:=.tup []);by_cases h0:ws=[]
  ·rw[if_pos (jR_ h0)];have:=k _ s1;rw[h0]at this;exact this
  ·rw[if_neg (by rw[jP_ h0];decide)];obtain⟨f,hf⟩:∃f:V->V,∀n:Int,f (V.int n)=.str ⟨#[97+n.toNat]⟩:=⟨fun x=>match x with | .int n=>.str ⟨#[97+n.toNat]⟩|_=>.non,fun _=>rfl⟩;refine⟨rfl,⟨_,s1.seqT ha⟩,HH (aj:=[]) f rfl (s1.seqT ha) (by rw[jb_];lia) (fun x hx R hR=>?_) (fun D hD=>?_)⟩
   ·obtain⟨n,hn,rfl⟩:=C0 hx;have bt:=hw n hn;rw[hf]at hR;nofun;exact⟨by rw[Tg];lia,_,We bt,hR⟩
   ·have em:(ws.map V.int).map f=(ws.map fun n=>(⟨#[97+n.toNat]⟩:Str)).map V.str:=by
     rw[jN_,jN_];exact jM_ fun n _=>hf n
    rw[em];refine⟨D,rfl,_,SqL.of Ab,by rw[Ld];lia,by rw[M9,jb_];lia,?_⟩;rw[N6 h0];exact k _ (s1.newT hD)
structure Led93 (s:AS)(x:Wish)(hm:α2)(hw:α1)(d:Nat):Prop where
 ok:WOk 300 s x
 j:J41 s d
 jx:JX42 s x
 co:Lh s.es hm hw
 wf:Wf s.L hm hw
 m12:s.most<=12
def WOk.okx93 {B:Nat} (o:WOk B s x):∃y,OkX y B s:=by
 cases x with
 |ask c=>exact⟨_,o.1⟩
 |shown m ws=>exact⟨_,o.1⟩
 |done m ws=>exact⟨_,o.1⟩
 |spent c=>exact⟨_,o.1⟩
def Led93.mm {hm:α2} (l:Led93 s x hm hw d):(s.most+1)*(s.most+1)<=169:=j3_ (show s.most+1<=13 by have:=l.m12;lia) (show s.most+1<=13 by have:=l.m12;lia)
def Led93.bd {hm:α2} (l:Led93 s x hm hw d):Bd 300 s:=by
 have h1:=l.mm;have h2:=l.m12;unfold Bd;lia
def LQ {hm:α2} (wf:Wf L hm hw) (hv:isW L v=true):0<=Ax hm (Al hw v)/\Ax hm (Al hw v)<=1000000000:=by
 have h:=Y8 wf hv;exact wf.mks _ (Yw h.1 h.2)
def Led93.ask {s s':AS}{c hm:α2}{hw:α1}{y:Wish}{d:Nat}(l:Led93 s (.ask c) hm hw d)(g:Goes {s with es:=s.es++[(c,Ax hm (Al hw c))]} s' y):Led93 s' y hm hw d/\s'.es.length=s.es.length+1/\s'.L=s.L/\s'.most=s.most:=by
 obtain⟨fo,hn,hc,av,hg⟩:=id l.ok;have eR:c∉s.es.map (·.1):=fun z=>by
  obtain⟨n,eX⟩:=OZ.mp z;rw[hn]at eX;cases eX
 have ha:=LQ l.wf hc;have h1:=l.mm;have gk:=fo.told (m:=Ax hm (Al hw c)) (fun b hb=>(jB_ hb).symm) eR hc ha.1 ha.2 av hg;have j1:=J41.told (m:=Ax hm (Al hw c)) fo s!"" l.j l.jx eR;obtain⟨jE,kp⟩:=g.ok gk;obtain⟨j2,jx2⟩:=Goes.J41 g gk j1;have e:=kp.e;have eL:=kp.l;have em:=kp.m;refine⟨⟨jE,j2,jx2,?_,by rw[eL];exact l.wf,by rw[em];exact l.m12⟩,by rw[e];simp,eL,em⟩;rw[e];intro p hp;rcases jx_.mp hp with hp|hp
 ·exact l.co p hp
 ·rw[jd_.mp hp]
def Led93.obj {s s':AS}{w hm m:α2}{hw ws:α1}{y:Wish}{d:Nat}(l:Led93 s (.shown m ws) hm hw d)(hc:isW s.L w=true)(hz:w.length<=300)(aA:Ax m (Al ws w)≠Ax hm (Al hw w))(g:Goes {s with es:=s.es++[(w,Ax hm (Al hw w))]} s' y):Led93 s' y hm hw (d+1)/\s'.es.length=s.es.length+1/\s'.L=s.L/\s'.most=s.most:=by
 obtain⟨bB,hG,aR,dU,gu,az⟩:=id l.ok;have eR:w∉s.es.map (·.1):=fun z=>by
  obtain⟨p,hp,rfl⟩:=jq_.mp z;exact aA ((az p hp).trans (l.co p hp).symm)
 have ha:=LQ l.wf hc;have gk:=bB.told (m:=Ax hm (Al hw w)) (fun b hb=>(by cases hb)) eR hc ha.1 ha.2 s!"" (by rw[hG];simp);obtain⟨s2,g2,j2,e2⟩:=Zm bB hG aR l.j l.jx aA g;obtain⟨jE,iJ,_⟩:=(Ji gk).1 _ e2;obtain⟨ok3,kp⟩:=g2.ok jE;obtain⟨j3,jx3⟩:=Goes.J41 g2 jE j2;have e:s'.es=s.es++[(w,Ax hm (Al hw w))]:=kp.e.trans iJ.e;have eL:s'.L=s.L:=kp.l.trans iJ.l;have em:s'.most=s.most:=kp.m.trans iJ.m;refine⟨⟨ok3,j3,jx3,?_,by rw[eL];exact l.wf,by rw[em];exact l.m12⟩,by rw[e];simp,eL,em⟩;rw[e];intro p hp;rcases jx_.mp hp with hp|hp
 ·exact l.co p hp
 ·rw[jd_.mp hp]
def Led93.bound {hm:α2} (l:Led93 s x hm hw d)(k:Cls41 s.L hm hw cl ds):s.W.length<=ds.length/\d<=ds.length/\s.es.length<=(1+min ds.length (s.most+1)*s.L)*min ds.length (s.most+1)+10*(min ds.length (s.most+1)-1)+d/\(s.wr=none->d+1<=ds.length):=by
 obtain⟨y,o⟩:=WOk.okx93 l.ok;have tb:=o.tb;have h1:=k.le l.co tb;obtain⟨h2,h3⟩:=k.ends l.co tb;have hr:s.wr.isSome=true->s.E.length+1<=min ds.length (s.most+1):=fun hs=>by
  obtain⟨v,hv⟩:=Option.isSome_iff_exists.mp hs;obtain⟨_,hE,b5,_,m,ws,t,_,g,ht,aA⟩:=o.wr v hv;have h4:=tb.wn;by_cases hn:ds.length<=s.W.length
  ·have h5:=k.right l.wf l.co tb g hn b5;have h6:Ax hm (Al hw v)=t:=l.co _ (FA ht);exact absurd (h6.symm.trans h5) aA
  ·lia
 refine⟨h1,?_,l.j.few o (by have:=tb.wn;lia) s!"" hr,fun fh=>?_⟩
 ·cases fh:s.wr with
  |none=>have:=l.j.d0 fh;lia
  |some v=>have:=l.j.d1 (by rw[fh];rfl);lia
 ·have:=l.j.d0 fh;lia
def TB (h:Br s=(s',some x)):∀m ws,x ≠ .done m ws:=by
 intro m ws e;subst e;unfold Br at h;split at h
 ·cases h
 ·split at h
  ·split at h
   ·unfold Ij at h;split at h<;>cases h
   ·cases h
  ·unfold DC at h;split at h
   ·split at h<;>cases h
   ·split at h<;>cases h
def Goes.nd93 (g:Goes s s' x):∀m ws,x ≠ .done m ws:=by
 induction g with
 |stop h=>exact TB h
 |more _ _ ih=>exact ih
noncomputable def Nn93 (H:Hp)(ad:AD):Prop:=H ad.d=none/\H ad.pw=none/\H ad.pe=none/\H ad.pg=none
def Nn93.same {H H1 H2:Hp} {ad:AD}(n:Nn93 H ad)(ha:H a=none)(s:Same H H1)(f:Frm H1 H2 a ad):Same H H2:=fun y o hy=>f.1 y o (s y o hy) (fun z=>by rw[z,ha]at hy;cases hy) (fun z=>by rw[z,n.1]at hy;cases hy) (fun z=>by rw[z,n.2.1]at hy;cases hy) (fun z=>by rw[z,n.2.2.1]at hy;cases hy) (fun z=>by rw[z,n.2.2.2]at hy;cases hy)
def Nn93.next {H H1:Hp}{ad aF:AD}(n:Nn93 H ad)(s:Same H H1)(k:AdOk H1 ad aF):Nn93 H aF:=by
 obtain⟨k1,k2,k3,k4,k5,k6⟩:=k;refine⟨by rw[k3];exact n.1,by rw[k4];exact n.2.1,by rw[k5];exact n.2.2.1,?_⟩;rcases k6 with k6|k6
 ·rw[k6];exact n.2.2.2
 ·exact s.none k6
inductive Sat93 (L:Nat)(hm:α2)(hw:α1):AS->Wish->List (List Str)->Prop where
 | spent {s:AS} {c:α2}:Sat93 L hm hw s (.spent c) [[Str.ofString "spent",BS c]]
 | agree {s:AS} {m:α2} {ws:α1}:(∀v,isW L v=true->¬ Ee hw ws hm m 0 0 v)->Sat93 L hm hw s (.shown m ws) [[Str.ofString "agree"]]
 | done {s:AS} {m:α2} {ws:α1}:Sat93 L hm hw s (.done m ws) []
 | ask {s s':AS} {c:α2} {y:Wish} {rows:List (List Str)}:isW L c=true->Goes {s with es:=s.es++[(c,Ax hm (Al hw c))]} s' y->Sat93 L hm hw s' y rows->Sat93 L hm hw s (.ask c) ([Str.ofString "ask",BS c,nt (Ax hm (Al hw c))]::rows)
 | obj {s s':AS} {m w:α2} {ws:α1} {y:Wish} {rows:List (List Str)}:isW L w=true->Ee hw ws hm m 0 0 w->(∀v,isW L v=true->Ee hw ws hm m 0 0 v->place L w<=place L v)->Goes {s with es:=s.es++[(w,Ax hm (Al hw w))]} s' y->Sat93 L hm hw s' y rows->Sat93 L hm hw s (.shown m ws) ([Str.ofString "object",BS w,nt (Ax hm (Al hw w))]::rows)
def Sat93.ne {hm:α2} (h:Sat93 L hm hw s x rows)(hx:∀m ws,x ≠ .done m ws):rows ≠ []:=by
 cases h with
 |done=>exact absurd rfl (hx _ _)
 |_=>simp
def Pb {hm m w:α2} (wf:Wf L hm hw)(wg:Wf L m ws)(fh:isW L w=true)(ht:Ee hw ws hm m 0 0 w)(hl:∀v,isW L v=true->Ee hw ws hm m 0 0 v->place L w<=place L v):w.length+2<=hm.length+m.length:=by
 have h1:=wf.n1;have h2:=wg.n1;exact Yx wf wg ⟨qB_ 0,by lia⟩ ⟨qB_ 0,by lia⟩ fh (mkW hm) (mkW m) ht hl
def Q0 {L:Int}(hL:1<=L){v w:α2}(hv:isW L v=true)(hw:isW L w=true)(h:place L v=place L w):v=w:=by
 exact R1 s!"" hv hw h
def TC (m:Nat):Builtin.Str.strSliceIndices (some (-1)) none 1 (m+1)=[m]:=by
 unfold Builtin.Str.strSliceIndices sliceRange;simp only[show (1:Int) > 0 by decide,xS_,show (-1:Int)<0 by decide];have e:max 0 (min (-1+((m+1:Nat):Int)) ((m+1:Nat):Int))=(m:Int):=by lia
 rw[e,if_pos s!"",show (((m+1:Nat):Int)-(m:Int)+1-1) / 1=1 by lia];simp
def TF (m:Nat):Builtin.Str.strSliceIndices none (some (-1)) 1 (m+1)=om m:=by
 unfold Builtin.Str.strSliceIndices sliceRange;simp only[show (1:Int) > 0 by decide,xS_,show (-1:Int)<0 by decide];have e:max 0 (min (-1+((m+1:Nat):Int)) ((m+1:Nat):Int))=(m:Int):=by lia
 rw[e];have e2:(if (0:Int)<(m:Int) then ((m:Int)-0+1-1) / 1 else 0).toNat=m:=by split<;>lia
 rw[e2];refine qD (by simp) fun i h1 h2=>?_;simp
def Wg (a:Array Nat):∀m,m<=a.size->(om m).filterMap (a[·]?)=a.toList.take m
 |0,_=>by simp
 |m+1,h=>by
  have h2:a[m]?=some a[m]:=by simp[show m<a.size by lia]
  rw[xi_,List.filterMap_append,Wg a m s!"",jA_]
  congr 1
  simp[h2,show m<a.toList.length by rw[qj_];lia]
def Ob (h:z.cps.toList=pre++[c])(hp:pre ≠ []):Txt.slice z (some (-1)) none=⟨#[c]⟩/\(Txt.slice z none (some (-1))).cps.toList=pre:=by
 have hn:z.cps.size=pre.length+1:=by rw[<-qj_,h];simp
 have hz:z.length=pre.length+1:=hn;have bM:0<pre.length:=qZ_.mpr hp;constructor
 ·unfold Txt.slice;rw[hz,TC,if_neg (by simp;lia)];have:z.cps[pre.length]?=some c:=by rw[<-qL_,h];simp
  simp[this]
 ·unfold Txt.slice;rw[hz,TF,if_neg (by simp)];show ((om pre.length).filterMap (z.cps[·]?)).toArray.toList=pre;rw[Wg _ _ s!"",h];simp
def Oc (c:Nat):∀xs:List (List Nat),xs ≠ []->(xs.map (· ++ [c])).flatten=jn c xs++[c]
 |[],h=>absurd rfl h
 |[p],_=>by simp[jn]
 |p::q::r,_=>by
  have:=Oc c (q::r) (by simp);rw[jJ_,List.flatten_cons,this];show _=(p++c::jn c (q::r))++[c];simp
def Q1 (hg:g.cps.toList=tL R)(hR:R ≠ [])(aA:(rowS (R.headD [])).cps.toList ≠ []):Txt.slice g (some (-1)) none=Str.ofString "\n" /\ Txt.slice g none (some (-1))=Txt.join (Str.ofString "\n") (R.map rowS):=by
 have e1:tL R=jn 10 (R.map fun r=>(rowS r).cps.toList)++[10]:=by
  rw[<-Oc 10 _ (by simpa using hR),jN_];unfold tL
  congr 1
  refine jM_ fun r _=>?_;show rowL r=(rowS r).cps.toList++[10];rw[Gk];rfl
 have e2:jn 10 (R.map fun r=>(rowS r).cps.toList) ≠ []:=by
  cases R with
  |nil=>exact absurd rfl hR
  |cons r R=>
   rw[jJ_,Lf];intro z;exact aA (List.append_eq_nil_iff.mp z).1
 obtain⟨h1,h2⟩:=Ob (hg.trans e1) e2;refine⟨h1.trans nwl.symm,Str.ext' (Array.toList_inj.mp ?_)⟩;rw[h2];show _=(Builtin.Str.glued (Str.ofString "\n") _).cps.toList;rw[qy_,nwl,IU,jN_];rfl
noncomputable def Cl93 (r:List Str):Prop:=r ≠ []/\∀p∈r,32∉p.cps.toList/\10∉p.cps.toList
def Cl93.nl (h:Cl93 r):10∉(rowS r).cps.toList:=fun hm=>by
 rw[Gk]at hm;rcases Tp hm with h' | ⟨p,hp,hx⟩
 ·lia
 ·obtain⟨q,hq,rfl⟩:=jq_.mp hp;exact (h.2 q hq).2 hx
def TH (c:α2):32∉(BS c).cps.toList/\10∉(BS c).cps.toList:=by
 unfold BS;split
 ·exact⟨by decide +kernel,by decide +kernel⟩
 ·constructor <;>
  ·intro hm;obtain⟨x,_,e⟩:=jq_.mp (show _∈c.map (fun x=>97+x.toNat) from hm);lia
def nt93 (h:0<=n):32∉(nt n).cps.toList/\10∉(nt n).cps.toList:=⟨Jm h (by decide),Jm h (by decide)⟩
def TJ (ha:32∉a.cps.toList/\10∉a.cps.toList)(hb:32∉b.cps.toList/\10∉b.cps.toList)(hc:32∉c.cps.toList/\10∉c.cps.toList):Cl93 [a,b,c]:=⟨by simp,fun p hp=>by
 simp only[jr_,q4_,or_false]at hp;rcases hp with rfl|rfl|rfl<;>assumption⟩
section
variable {L:Nat} {hm:α2} {hw:α1}
def Sat93.clean (wf:Wf (L:Int) hm hw) (h:Sat93 L hm hw s x rows):∀r∈rows,Cl93 r:=by
 induction h with
 |spent=>
  intro r hr;rw[jd_.mp hr];refine⟨by simp,fun p hp=>?_⟩;rcases jr_.mp hp with rfl|hp
  ·exact⟨by decide +kernel,by decide +kernel⟩
  ·rw[jd_.mp hp];exact TH _
 |agree _=>
  intro r hr;rw[jd_.mp hr];refine⟨by simp,fun p hp=>?_⟩;rw[jd_.mp hp];exact⟨by decide +kernel,by decide +kernel⟩
 |done=>intro r hr;cases hr
 |ask hc _ _ ih=>
  intro r hr;rcases jr_.mp hr with rfl|hr
  ·exact TJ ⟨by decide +kernel,by decide +kernel⟩ (TH _) (nt93 (LQ wf hc).1)
  ·exact ih r hr
 |obj hc _ _ _ _ ih=>
  intro r hr;rcases jr_.mp hr with rfl|hr
  ·exact TJ ⟨by decide +kernel,by decide +kernel⟩ (TH _) (nt93 (LQ wf hc).1)
  ·exact ih r hr
noncomputable def J8 (r:List Str):Bool:=decide (r.headD (Str.ofString "")=Str.ofString "ask")
def Sat93.sum (kc:Cls41 (L:Int) hm hw cl ds) (h:Sat93 L hm hw s x rows):∀{d:Nat},Led93 s x hm hw d->s.L=L->s.most=most->(∀m ws,x ≠ .done m ws)->rows.countP J8+s.es.length<=(1+min ds.length (most+1)*L)*min ds.length (most+1)+10*(min ds.length (most+1)-1)+d/\∃r,rows.getLast?=some r/\r.headD (Str.ofString "")=(if ds.length<=most then Str.ofString "agree" else Str.ofString "spent"):=by
 induction h with
 |@spent s c=>
  intro d l eL em hn;obtain⟨_,_,b,_⟩:=l.bound (show Cls41 s.L hm hw cl ds by rw[eL];exact kc);rw[eL,em]at b;obtain⟨bB,hG,aR,nK,kL,nL,dA,bG,fM⟩:=id l.ok;have hmore:=(show Cls41 s.L hm hw cl ds by rw[eL];exact kc).more l.co bB.tb dA fM;refine⟨?_,_,rfl,?_⟩
  ·have:([[Str.ofString "spent",BS c]]:List (List Str)).countP J8=0:=by
    rw[List.countP_eq_zero];intro r hr;rw[jd_.mp hr];show ¬ decide (Str.ofString "spent"=Str.ofString "ask")=true;decide +kernel
   lia
  ·rw[if_neg s!""];rfl
 |@agree s m ws bc=>
  intro d l eL em hn;obtain⟨_,_,b,_⟩:=l.bound (show Cls41 s.L hm hw cl ds by rw[eL];exact kc);rw[eL,em]at b;obtain⟨bB,hG,aR,dU,gu,az⟩:=id l.ok;have fT:=bB.tb.wf gu;have lC:=(show Cls41 s.L hm hw cl ds by rw[eL];exact kc).ge fT (fun v hv=>Decidable.byContradiction fun z=>bc v (by rw[<-eL];exact hv) z);have h1:=gu.ml;have h2:=bB.tb.wn;refine⟨?_,_,rfl,?_⟩
  ·have:([[Str.ofString "agree"]]:List (List Str)).countP J8=0:=by decide +kernel
   lia
  ·rw[if_pos s!""];rfl
 |done=>intro d l eL em hn;exact absurd rfl (hn _ _)
 |@ask s s' c y rows hc go hs ih=>
  intro d l eL em hn;obtain⟨l2,e2,d9,ed⟩:=l.ask go;obtain⟨h1,r,h2,h3⟩:=ih l2 (d9.trans eL) (ed.trans em) go.nd93;have h4:=hs.ne go.nd93;refine⟨?_,r,?_,h3⟩
  ·rw[pA];split<;>lia
  ·rw[xG_ h4];exact h2
 |@obj s s' m w ws y rows hc ht bg go hs ih=>
  intro d l eL em hn;have aA:Ax m (Al ws w)≠Ax hm (Al hw w):=fun z=>ht z.symm;have fT:=l.ok.1.tb.wf l.ok.2.2.2.2.1;have jV:=Pb (L:=(L:Int)) (by rw[<-eL];exact l.wf) (by rw[<-eL];exact fT) hc ht bg;have h5:=l.wf.n40;have h6:=fT.n40;obtain⟨l2,e2,d9,ed⟩:=l.obj (by rw[eL];exact hc) s!"" aA go;obtain⟨h1,r,h2,h3⟩:=ih l2 (d9.trans eL) (ed.trans em) go.nd93;have h4:=hs.ne go.nd93;refine⟨?_,r,?_,h3⟩
  ·rw[pA,if_neg (show ¬ J8 [Str.ofString "object",BS w,nt (Ax hm (Al hw w))]=true from by show ¬ decide (Str.ofString "object"=Str.ofString "ask")=true;decide +kernel)];lia
  ·rw[xG_ h4];exact h2
def Sat93.two (h:Sat93 L hm hw s x rows)(l:Led93 s x hm hw d)(ee:s.es=[])(hn:∀m ws,x ≠ .done m ws):2<=rows.length:=by
 cases h with
 |spent=>
  exfalso;obtain⟨bB,hG,aR,nK,kL,nL,dA,bG,fM⟩:=id l.ok;obtain⟨e,_,m,n,h1,_⟩:=fM [] (jc_ bB.tb.w0);rw[ee]at h1;cases h1
 |agree _=>
  exfalso;obtain⟨bB,hG,aR,dU,gu,az⟩:=id l.ok;obtain⟨y,_,y2⟩:=gu.m 0 [] bB.tb.w0;rw[ee]at y2;cases y2
 |done=>exact absurd rfl (hn _ _)
 |ask hc go hs=>
  have:=qZ_.mpr (hs.ne go.nd93);rw[jD_];lia
 |obj _ _ _ go hs=>
  have:=qZ_.mpr (hs.ne go.nd93);rw[jD_];lia
end
def L9 {L:Nat}(h6:L<=6){c:α2}(h:isW (L:Int) c=true):∀y∈c,inW 6 y=true:=fun y hy=>by
 have:=Am.mp h y hy;unfold inW at this ⊢;simp only[qb_,jU_]at this ⊢;lia
def ne93 (h:a≠b):¬ V.str a=V.str b:=fun z=>h (V.str.inj z)
noncomputable def TL (K:α3)(CA CB:Addr):Sp:=fun vs H Q _=>∃(a h:Addr) (ad:AD) (s:AS) (wv:V) (x:Wish) (hm:α2) (hw:α1) (d:Nat),vs=[.ref a,.ref h]/\Asks K CA CB H a ad s wv/\Bj K H s.L wv x/\Led93 s x hm hw d/\s.es.length<=100000/\(∀m ws,x=.shown m ws->hm.length+m.length<=300)/\Cn K H h s.L hm hw/\x.on93=true /\
 (∀c,x=.ask c->∀l aF H' s' y wv',Goes {s with es:=s.es++[(c,Ax hm (Al hw c))]} s' y->Asks K CA CB H' a aF s' wv'->Bj K H' s'.L wv' y->Frm H H' a ad->AdOk H ad aF->H l=none->H' l=some (.lst ([Str.ofString "ask",BS c,nt (Ax hm (Al hw c))].map V.str))->Q (.ref l) H') /\
 (∀m ws,x=.shown m ws->(∀v,isW s.L v=true->¬ Ee hw ws hm m 0 0 v)->∀l H' wv',Asks K CA CB H' a ad s wv'->Bj K H' s.L wv' (.done m ws)->Frm H H' a ad->H l=none->H' l=some (.lst ([Str.ofString "agree"].map V.str))->Q (.ref l) H') /\
 (∀m ws w,x=.shown m ws->isW s.L w=true->Ee hw ws hm m 0 0 w->(∀v,isW s.L v=true->Ee hw ws hm m 0 0 v->place s.L w<=place s.L v)->w.length<=300->∀l aF H' s' y wv',Goes {s with es:=s.es++[(w,Ax hm (Al hw w))]} s' y->Asks K CA CB H' a aF s' wv'->Bj K H' s'.L wv' y->Frm H H' a ad->AdOk H ad aF->H l=none->H' l=some (.lst ([Str.ofString "object",BS w,nt (Ax hm (Al hw w))].map V.str))->Q (.ref l) H')
def Xv:⋯ EE.j63 15 ["asker","house"] (TL K ao ar):=by
 delta EE.j63 M0
 ·obtain⟨a,h,ad,s,wv,x,hm,hw,d,rfl,_⟩:=h;rfl
 ·obtain⟨a,h,ad,s,wv,x,hm,hw,d,rfl,hA,hW,aU,dR,nM,hh,fU,kA,kG,kO⟩:=h;have hl:=Ak;obtain⟨t,u,rfl,ht,hu⟩:=id hW;obtain⟨gv,rv,zs,ys,us,A1⟩:=id hA;have wf:=aU.wf;have cN:s.L<=6:=by have:=wf.l6;lia
  have m1:=aU.mm;have m12:=aU.m12;refine⟨_,(Ac (Ao (i:=2) M0.nd (AR (pvD 0) EE.cl_j0 EE.j32.m (AV EE).g hr.d (AV EE).b .nil AB))
   (Ac (Ao (i:=3) M0.nd (Ph (ptT (Au (opE IL) (Ai (ixTD An) (pvD 2) Ag) As (AG _))) (Ai (ixTD An) (pvD 2) Ag) (Aj (Ng EE) hr.d (C9 (P:=P) (w:=w)) (Aa (pvD 1) (Aa (Ai (ixTD An) (pvD 2) Ag) Ad)))))
   (Ac (AY (ptT (Au Kr (pvD 3) BL (AG _)))
   (Ac (Ay (AR (pvD 0) EE.cl_j0 EE.j49.m (C4 EE).g hr.d (C4 EE).b .nil (C9 (P:=P) (w:=w))))
   (Ae (Ap (A7 (Aa As Ad)))))
   Aw)
   (Ac (Ao (i:=4) M0.nd (Aj (CG EE) hr.d (C9 (P:=P) (w:=w)) (Aa (pvD 1) (Aa (pvD 3) Ad))))
   (Ac (AY (ptT (Au (opE IL) (Ai (ixTD An) (pvD 2) Ag) As (AG _)))
   (Ac (Ay (A9 (pvD 0) EE.cl_j0 EE.j54.m (C5 EE).g hr.d (C5 EE).b .nil (C9 (P:=P) (w:=w)) (Aa (pvD 4) Ad)))
   (Ae (Ap (A7 (Aa As (Aa (Aj (FF EE) hr.d AB (Aa (pvD 3) Ad)) (Aa (Av Bv rfl EE.str jW_ (Aa (pvD 4) Ad)) Ad)))))))
   Aw)
   (Ac (Ay (A9 (pvD 0) EE.cl_j0 EE.j56.m (Ce EE).g hr.d (Ce EE).b .nil (C9 (P:=P) (w:=w)) (Aa (pvD 3) (Aa (pvD 4) Ad))))
   (Ae (Ap (A7 (Aa As (Aa (Aj (FF EE) hr.d AB (Aa (pvD 3) Ad)) (Aa (Av Bv rfl EE.str jW_ (Aa (pvD 4) Ad)) Ad)))))))))))),?_⟩
  nofun;refine⟨_,_,A1.ob,by kernel_rfl,a,ad,s,_,rfl,hA,t,rfl,_,SqT.of ht,_,rfl,rfl,?_⟩;cases x with
  |done m ws=>cases fU
  |spent c=>cases fU
  |ask c=>
   rw[if_pos (show V.str (Wish.tag (.ask c))=V.str (Str.ofString "ask") from rfl)];obtain⟨fo,bc,hc,bo,hg⟩:=id aU.ok;have en:=fo.tb.en;have lB:(s.most+1)*s.E.length<=(s.most+1)*(s.most+1):=xV_ _ en;have ha:=LQ wf hc;have hc6:c.length<=600:=by split at bo<;>lia
   have nN:c.length<=700:=by lia
   have hu:H u=some (.tup (c.map V.int)):=hu;refine⟨t,rfl,_,SqT.of ht,_,rfl,?_⟩;rw[if_neg (show ¬ V.ref u=V.non from fun z=>V.noConfusion z)];refine⟨h,u,s.L,hm,hw,c,rfl,hh,wf,SqT.of hu,by lia,fun _ H1 s1=>?_,fun z=>by rw[hc]at z;cases z⟩;dsimp only;have A2:=A1.same s1;refine⟨t,rfl,_,SqT.of (s1 _ _ ht),_,rfl,rfl,?_⟩;rw[if_pos (show V.str (Wish.tag (.ask c))=V.str (Str.ofString "ask") from rfl)];refine⟨_,_,A2.ob,by kernel_rfl,a,ad,s,_,.ask c,300,_,rfl,⟨_,_,_,_,_,A2⟩,hW.mono (TK.of s1),aU.ok,aU.bd,dR,fun z=>absurd rfl z,fun c' e=>?_⟩;cases e;refine⟨fun z=>absurd ha z,fun _ _ aS H2 ef y bK bz bw bL f2 k2=>?_⟩;have fi:=A2.tk f2;refine⟨u,c,rfl,SqT.of (fi _ _ (s1 _ _ hu)),nN,L9 cN hc,fun H3 s3=>⟨_,rfl,ha.1,by lia,by lia,fun p hp=>?_⟩⟩;obtain⟨fj,fk,gN,gO,gP,A3⟩:=bw;have s4:=s3.newT hp (o:=.lst [V.str (Str.ofString "ask"),V.str (BS c),V.str (nt (Ax hm (Al hw c)))]);obtain⟨k1,k3,k4,k5,k6,k7⟩:=k2;exact kA c rfl p aS _ ef y bK bz ⟨_,_,_,_,_,A3.same s4⟩ (by rw[(aU.ask bz).2.2.1];exact bL.mono (TK.of s4)) (((Frm.of s1 a ad).trans (AdOk.refl _ _) f2).trans (AdOk.refl _ _) (Frm.of s4 a ad)) ⟨k1,k3,k4,k5,k6,k7.imp id fun z=>s1.none z⟩ (s1.none (f2.2 _ (s3.none hp))) Ab
  |shown m ws=>
   rw[if_neg (show ¬ V.str (Wish.tag (.shown m ws))=V.str (Str.ofString "ask") from ne93 (show Str.ofString "show" ≠ Str.ofString "ask" by decide +kernel))];obtain⟨bB,hG,aR,dU,gu,az⟩:=id aU.ok;have fT:=bB.tb.wf gu;have h4:=nM m ws rfl;refine⟨t,rfl,_,SqT.of ht,_,rfl,h,u,s.L,s.L,hm,m,hw,ws,rfl,hh,wf,HouT.house hu,fT,fun _=>⟨fun H1 s1 bc=>?_,fun tw w H1 s1 df br aY cU bg=>?_⟩,fun z=>absurd rfl z⟩
   ·dsimp only;rw[if_pos rfl];have A2:=A1.same s1;refine⟨_,_,A2.ob,by kernel_rfl,a,ad,s,_,.shown m ws,rfl,⟨_,_,_,_,_,A2⟩,hW.mono (TK.of s1),fun z=>absurd rfl z,fun mm kr e H2 bK bw bL f2=>⟨by lia,fun p hp=>?_⟩⟩;cases e;obtain⟨fj,fk,gN,gO,gP,A3⟩:=bw;have s4:=Same.new hp (o:=.lst [V.str (Str.ofString "agree")]);exact kG m ws rfl bc p _ bK ⟨_,_,_,_,_,A3.same s4⟩ (bL.mono (TK.of s4)) (((Frm.of s1 a ad).trans (AdOk.refl _ _) f2).trans (AdOk.refl _ _) (Frm.of s4 a ad)) (s1.none (f2.2 _ hp)) Ab
   ·dsimp only;rw[if_neg (show ¬ V.ref tw=V.non from fun z=>V.noConfusion z)];have jV:=Pb wf fT br cU bg;have ha:=LQ wf br;have aA:Ax m (Al ws w)≠Ax hm (Al hw w):=fun z=>cU z.symm;refine⟨h,tw,s.L,hm,hw,w,rfl,hh.mono s1,wf,SqT.of df,by lia,fun _ H2 s2=>?_,fun z=>by rw[br]at z;cases z⟩;dsimp only;have bO:=s1.trans s2;have A2:=A1.same bO;refine⟨t,rfl,_,SqT.of (bO _ _ ht),_,rfl,rfl,?_⟩;rw[if_neg (show ¬ V.str (Wish.tag (.shown m ws))=V.str (Str.ofString "ask") from ne93 (show Str.ofString "show" ≠ Str.ofString "ask" by decide +kernel))];refine⟨_,_,A2.ob,by kernel_rfl,a,tw,ad,s,_,.shown m ws,300,w,_,rfl,⟨_,_,_,_,_,A2⟩,hW.mono (TK.of bO),aU.ok,aU.bd,dR,s2 _ _ df,by lia,fun z=>absurd rfl z,fun mm kr e=>?_⟩;cases e;refine⟨fun z=>(by rw[br]at z;cases z),fun _ z=>absurd ha z,fun _ _ _=>⟨fun z=>absurd z aA,fun _ bt=>?_,fun _ _=>⟨by lia,fun aS H3 ef y bK bz bw bL f2 k2=>?_⟩⟩⟩
    ·exfalso;obtain⟨q,hq,rfl⟩:=jq_.mp bt;exact aA ((az q hq).trans (aU.co q hq).symm)
    ·have fi:=A2.tk f2;refine⟨tw,w,rfl,SqT.of (fi _ _ (s2 _ _ df)),by lia,L9 cN br,fun H4 s3=>⟨_,rfl,ha.1,by lia,by lia,fun p hp=>?_⟩⟩;obtain⟨fj,fk,gN,gO,gP,A3⟩:=bw;have s4:=s3.newT hp (o:=.lst [V.str (Str.ofString "object"),V.str (BS w),V.str (nt (Ax hm (Al hw w)))]);obtain⟨k1,k3,k4,k5,k6,k7⟩:=k2;exact kO m ws w rfl br cU bg s!"" p aS _ ef y bK bz ⟨_,_,_,_,_,A3.same s4⟩ (by rw[(aU.obj br s!"" aA bz).2.2.1];exact bL.mono (TK.of s4)) (((Frm.of bO a ad).trans (AdOk.refl _ _) f2).trans (AdOk.refl _ _) (Frm.of s4 a ad)) ⟨k1,k3,k4,k5,k6,k7.imp id fun z=>bO.none z⟩ (bO.none (f2.2 _ (s3.none hp))) Ab
def AskAt.keep {K:α3} {ad:AD} {wv gv rv:V} (x:AskAt K CA CB H a ad s wv gv rv zs ys us)(k:∀y o,H y=some o->(y=a\/y=ad.b\/y=ad.d\/y=ad.pw\/y=ad.pe\/y=ad.pg)->H' y=some o)(tk:TK H H'):AskAt K CA CB H' a ad s wv gv rv zs ys us:=
 ⟨k _ _ x.ob (.inl rfl),BookAt.tk x.bk (fun o h=>k _ _ h (.inr (.inl rfl))) (fun o h=>k _ _ h (.inr (.inr (.inl rfl)))),k _ _ x.w (.inr (.inr (.inr (.inl rfl)))),x.wW.mono tk,k _ _ x.e (.inr (.inr (.inr (.inr (.inl rfl))))),x.eW.mono tk,k _ _ x.g (.inr (.inr (.inr (.inr (.inr rfl))))),x.gW.mono tk,x.we,x.wg,x.eg,x.gv.mono tk,x.rv.mono tk⟩
noncomputable def Fps (a:Addr)(ad:AD)(y:Addr):Prop:=y=a\/y=ad.d\/y=ad.pw\/y=ad.pe\/y=ad.pg
def Frm.keep93 {ad:AD}(f:Frm H H' a ad) (h:H y=some o)(n:¬ Fps a ad y):H' y=some o:=f.1 y o h (fun z=>n (.inl z)) (fun z=>n (.inr (.inl z))) (fun z=>n (.inr (.inr (.inl z)))) (fun z=>n (.inr (.inr (.inr (.inl z))))) (fun z=>n (.inr (.inr (.inr (.inr z)))))
def Fps.next93 {ad aF:AD}(k:AdOk H ad aF) (h:H y=some o)(n:¬ Fps a ad y):¬ Fps a aF y:=by
 obtain⟨_,_,k3,k4,k5,k6⟩:=k;rintro (z|z|z|z|z)
 ·exact n (.inl z)
 ·exact n (.inr (.inl (z.trans k3)))
 ·exact n (.inr (.inr (.inl (z.trans k4))))
 ·exact n (.inr (.inr (.inr (.inl (z.trans k5)))))
 ·rcases k6 with k6|k6
  ·exact n (.inr (.inr (.inr (.inr (z.trans k6)))))
  ·rw[z,k6]at h;cases h
def Asks.beside93 {K:α3} {ad:AD} {wv:V}(x:Asks K CA CB H a ad s wv) (hy:H y=some (.lst xs))(n:¬ Fps a ad y):Asks K CA CB (upd H y o) a ad s wv:=by
 obtain⟨gv,rv,zs,ys,us,x⟩:=x;refine⟨gv,rv,zs,ys,us,x.keep (fun c q hc hq=>?_) (TK.lst hy)⟩;rw[Ah (fun z=>?_)]
 ·exact hc
 ·subst z;rcases hq with z|z|z|z|z|z
  ·exact n (.inl z)
  ·subst z;obtain⟨dx,b1⟩:=x.bk.ob;rw[b1]at hy;cases hy
  ·exact n (.inr (.inl z))
  ·exact n (.inr (.inr (.inl z)))
  ·exact n (.inr (.inr (.inr (.inl z))))
  ·exact n (.inr (.inr (.inr (.inr z))))
def Za (B:Nat):∀ls:List Str,(∀z∈ls,z.length<=B)->(ls.map fun s:Str=>s.length).sum<=ls.length*B
 |[],_=>by simp
 |z::ls,h=>by
  have h1:=h z (by simp);have h2:=Za B ls fun y hy=>h y (jm_ _ hy);rw[jJ_,zl_,jD_,Nat.add_mul,Nat.one_mul];lia
def Zb (h:r.length<=3/\∀q∈r,q.length<=1000):(Ed r).length<=3004:=by
 have h1:=Tn r 1000 h.2;have h2:r.length*1000<=3*1000:=pY _ h.1;lia
def Zc (rows:List (List Str)):(Txt.join (Str.ofString "") (rows.map Ed)).cps.toList=tL rows:=by
 have h2:Txt.join (Str.ofString "") (rows.map Ed)=Str.join (Str.ofString "") (rows.map Ed):=qy_ _ _;rw[h2,Xi,jN_];unfold tL
 congr 1
 exact jM_ fun r _=>Tj r
def Zn (ls:List Str):(Txt.join (Str.ofString "") ls).length=(ls.map fun s:Str=>s.length).sum:=by
 have h2:Txt.join (Str.ofString "") ls=Str.join (Str.ofString "") ls:=qy_ _ _;show (Txt.join (Str.ofString "") ls).cps.size=_;rw[h2,<-qj_,Xi,List.length_flatten,jN_];rfl
def Xw (ha:a.length<=1000)(hb:b.length<=1000)(hc:c.length<=1000):([a,b,c]:List Str).length<=3/\∀q∈([a,b,c]:List Str),q.length<=1000:=⟨jh_ 3,fun q hq=>by
 simp only[jr_,q4_,or_false]at hq;rcases hq with rfl|rfl|rfl<;>assumption⟩
def Ma (h0:0<=n)(h1:n<10 ^ 10):(nt n).length<=1000:=by have:=KN h0 h1;lia
noncomputable def U4 (K:α3):Sp:=fun vs H Q _=>∃(z:Str) (L most:Nat) (hm:α2) (hw:α1) (cl:Int->Int) (ds:α2),vs=[.str z,.int most]/\Wf (L:Int) hm hw/\z.cps.toList=tL (FH L hm hw)/\z.length<=20000/\1<=most/\most<=12/\hm.length<=4/\Cls41 (L:Int) hm hw cl ds/\ds.length<=4/\∀(g:Str) (H':Hp) (s:AS) (x:Wish) (rows:List (List Str)),Same H H'->Goes (s039 L most) s x->Sat93 L hm hw s x rows->g.cps.toList=tL ([Str.ofString "sitting",nt L,nt most]::rows)->g.length<=500000->rows.length<=142->Q (.str g) H'
def Q2:⋯ EE.j65 16 ["text","most"] (U4 K):=by
 delta EE.j65 Gi
 ·obtain⟨z,L,most,hm,hw,cl,ds,rfl,_⟩:=h;rfl
 ·obtain⟨z,L,most,hm,hw,cl,ds,rfl,wf,ez,hz,jM,eh,hm4,kc,m7,k⟩:=h;have hl:=Ak;have L1:1<=L:=by have:=wf.l1;lia
  have L6:L<=6:=by have:=wf.l6;lia
  refine⟨_,(Ac (Ao (i:=2) Gi.nd (Aj (Nd EE) hr.d AB (Aa (pvD 0) Ad)))
   (Ac (Ao (i:=3) Gi.nd (Ow EE.j31.m (C6 EE).g hr.d rfl EE.m_j0 (C6 EE).b .nil AB (Aa (Ai (ixTD An) (pvD 2) Ag) (Aa (pvD 1) Ad))))
   (Ac (Ao (i:=4) Gi.nd (A7 (Aa (Aj (Hs EE) hr.d AB (Aa (A7 (Aa As (Aa (Av Bv rfl EE.str jW_ (Aa (Ai (ixTD An) (pvD 2) Ag) Ad)) (Aa (Av Bv rfl EE.str jW_ (Aa (pvD 1) Ad)) Ad)))) Ad)) Ad)))
   (Ac (F8 jG_ (ptB (Kp (Aj (QZ EE) hr.d AB (Aa (pvD 3) Ad))))
   (Ae (Ay (Ek jS_ jX_ jY_ BN (pvD 4) (Aa (Aj (Hs EE) hr.d AB (Aa (Aj (Xv EE) hr.d AB (Aa (pvD 3) (Aa (pvD 2) Ad))) Ad)) Ad)))))
   (Ae (Ap (Ek qi_ xJ_ xK_ Ki As (Aa (AL Vh (pvD 4) (Aj (Oa EE) hr.d AB (Aa (AR (pvD 3) EE.cl_j0 EE.j32.m (AV EE).g hr.d (AV EE).b .nil AB) Ad))) Ad)))))))),?_⟩
  nofun;refine⟨z,L,hm,hw,rfl,wf,ez,hz,fun h H1 s1 hh=>?_⟩;dsimp only;obtain⟨tm,tw,q1,q2,q3⟩:=id hh;refine⟨h,rfl,_,q1,_,rfl,fun aa dx fF jG aA=>?_⟩;have sN:Same H1 (upd (upd H1 dx (.own aa)) aa (.ins ao dx [])):=fun y o hy=>by
   rw[Ah (fun z=>by rw[z,fF]at hy;cases hy),Ah (fun z=>by rw[z,jG]at hy;cases hy)];exact hy
  refine⟨aa,dx,L,most,rfl,Ab,L1,L6,jM,eh,fun ad H2 s x wv go hA hW hf dt cA=>⟨rfl,?_⟩⟩;have nO:∀y o,H1 y=some o->y≠aa:=fun y o hy z=>by rw[z,fF]at hy;cases hy
  have nP:Same H1 H2:=fun y o hy=>hf y o (sN y o hy) (nO y o hy);have nQ:Nn93 H1 ad:=⟨sN.none cA.1,sN.none cA.2.1,sN.none cA.2.2.1,sN.none cA.2.2.2⟩;have bB:=O2 (L:=L) (most:=most) 300 L1 L6 jM s!"";obtain⟨nR,kp⟩:=go.ok bB;obtain⟨j,jx⟩:=Goes.J41 go bB (J41.start L most);have eL:s.L=L:=kp.l;have em:s.most=most:=kp.m;have ee:s.es=[]:=kp.e;have aU:Led93 s x hm hw 0:=⟨nR,j,jx,(by rw[ee];intro p hp;cases hp),by rw[eL];exact wf,by rw[em];exact eh⟩;refine⟨h,rfl,_,nP.seqT q1,_,rfl,_,rfl,by lia,by lia,by lia,by lia,by lia,fun p hp=>⟨p,[Str.ofString "sitting",nt L,nt most],rfl,SqL.of Ab,by simp,fun y hy=>?_,by lia,fun lr hlr=>?_⟩⟩
  ·rcases jr_.mp hy with rfl|hy
   ·decide
   ·rcases jr_.mp hy with rfl|hy
    ·exact Ma s!"" s!""
    ·rw[jd_.mp hy];exact Ma s!"" s!""
  have nS:=(Same.new hp (o:=.lst [V.str (Str.ofString "sitting"),V.str (nt L),V.str (nt most)])).newT hlr (o:=.lst [V.str (Ed [Str.ofString "sitting",nt L,nt most])]);obtain⟨gv0,rv0,zs0,ys0,us0,A0⟩:=id hA;have cM:H2 lr=none:=(Same.new hp).none hlr;have hF:¬ Fps aa ad lr:=by
   rintro (z|z|z|z|z)
   ·rw[z,A0.ob]at cM;cases cM
   ·rw[z,A0.bk.dc]at cM;cases cM
   ·rw[z,A0.w]at cM;cases cM
   ·rw[z,A0.e]at cM;cases cM
   ·rw[z,A0.g]at cM;cases cM
  have A3:Asks K ao ar _ aa ad s wv:=⟨_,_,_,_,_,A0.same nS⟩;have W3:=hW.mono (TK.of nS);have h3:=show (upd (upd H2 p (.lst [V.str (Str.ofString "sitting"),V.str (nt L),V.str (nt most)])) lr (.lst [V.str (Ed [Str.ofString "sitting",nt L,nt most])])) lr=_ from Ab;have S13:=nP.trans nS;generalize upd (upd H2 p (.lst [V.str (Str.ofString "sitting"),V.str (nt L),V.str (nt most)])) lr (.lst [V.str (Ed [Str.ofString "sitting",nt L,nt most])])=H3 at A3 W3 h3 S13 ⊢;obtain⟨Pv,aw⟩:∃Pv:Nat->St->Hp->Prop,∀m aj H',Pv m aj H'↔(∃(aX:AD) (s1:AS) (bX:V) (x1:Wish) (d:Nat) (body:List (List Str)),m=2*(140-s1.es.length)+(if x1.on93 then 1 else 0)/\Asks K ao ar H' aa aX s1 bX/\Bj K H' s1.L bX x1/\((∀m ws,x1 ≠ .done m ws)->Led93 s1 x1 hm hw d)/\s1.L=L/\s1.most=most/\s1.es.length<=140/\Same H1 H'/\Nn93 H1 aX/\H' lr=some (.lst (([Str.ofString "sitting",nt L,nt most]::body).map fun r=>V.str (Ed r)))/\¬ Fps aa aX lr/\(∀rest,Sat93 L hm hw s1 x1 rest->Sat93 L hm hw s x (body++rest))/\body.length<=s1.es.length+(if x1.on93 then 0 else 1)/\(∀r∈body,r.length<=3/\∀q∈r,q.length<=1000)/\aj=[some (.str z),some (.int most),some (.ref h),some (.ref aa),some (.ref lr)]):=⟨_,fun _ _ _=>ql_⟩;refine LX Pv ⟨_,(aw _ _ _).mpr ⟨ad,s,wv,x,0,[],rfl,A3,by rw[eL];exact W3,fun _=>aU,eL,em,by rw[ee];simp,S13,nQ,h3,hF,fun rest hr=>hr,by simp,by simp,rfl⟩⟩ ?_;intro m cb H4 iQ;obtain⟨aX,bP,bX,x1,d,body,rfl,dQ,gU,led1,bZ,fG,he1,S4,nn,hlr4,i6,gL,jJ,l8,rfl⟩:=(aw _ _ _).mp iQ;nofun;refine⟨aa,aX,bP,bX,x1,rfl,dQ,gU,fun H5 s5=>?_⟩;dsimp only;refine⟨_,rfl,?_⟩;obtain⟨gv1,rv1,zs1,ys1,us1,A1⟩:=id dQ;have A5:=A1.same s5;have hx5:=gU.mono (TK.of s5);have dj:=s5 _ _ hlr4;have S5:=S4.trans s5;have i7:=nP.none cM;have nT:Cls41 bP.L hm hw cl ds:=by rw[bZ];exact kc
  by_cases fU:x1.on93=true
  ·rw[fU]at jJ ⊢;rw[if_pos rfl]at jJ;rw[if_pos rfl,if_pos rfl];have c9:∀m ws,x1 ≠ .done m ws:=fun m ws e=>by subst e;cases fU
   have ld:=led1 c9;obtain⟨bW,bd',bE,b0⟩:=ld.bound nT;have dR:bP.es.length<=134:=by
    obtain⟨M,hM⟩:∃M,M=min ds.length (bP.most+1):=⟨_,rfl⟩;rw[<-hM]at bE;have M4:M<=4:=by lia
    have h9:(1+M*bP.L)*M<=(1+4*6)*4:=j3_ (zp_ (j3_ M4 s!"") 1) M4;lia
   refine⟨fun aj H'=>∃m',m'<2*(140-bP.es.length)+1/\Pv m' aj H',fun aj H' h=>h,.inl ⟨rfl,_,SqL.of dj⟩,aa,h,aX,bP,bX,x1,hm,hw,d,rfl,⟨_,_,_,_,_,A5⟩,hx5,ld,by lia,fun m ws e=>?_,by rw[bZ];exact hh.mono S5,fU,fun c e l aS H6 ef y bK bz bw bL f2 k2 i8 i9=>?_,fun m ws e bc l H6 bK bw bL f2 i8 i9=>?_,fun m ws w e br cU bg aY l aS H6 ef y bK bz bw bL f2 k2 i8 i9=>?_⟩
   ·subst e;have:=ld.ok.2.2.2.2.1.ml;lia
   ·subst e;obtain⟨cB,dv,d9,ed⟩:=ld.ask bz;have b3:=f2.keep93 dj i6;have kP:=Fps.next93 k2 dj i6;have hc:=ld.ok.2.2.1;have hrow:([Str.ofString "ask",BS c,nt (Ax hm (Al hw c))]:List Str).length<=3/\∀q∈([Str.ofString "ask",BS c,nt (Ax hm (Al hw c))]:List Str),q.length<=1000:=by
     obtain⟨fo,_,_,bo,_⟩:=id ld.ok;have en:=fo.tb.en;have lB:(bP.most+1)*bP.E.length<=(bP.most+1)*(bP.most+1):=xV_ _ en;have m1:=ld.mm;have ha:=LQ ld.wf hc;have h5:=Kn c;exact Xw (by decide) (by split at bo<;>lia) (Ma ha.1 s!"")
    refine⟨l,_,rfl,SqL.of i9,by simp,hrow.2,_,b3,by simp;lia,_,?_,(aw _ _ _).mpr ⟨aS,ef,bK,y,d,body++[[Str.ofString "ask",BS c,nt (Ax hm (Al hw c))]],rfl,bw.beside93 b3 kP,bL.mono (TK.lst b3),fun _=>cB,d9.trans bZ,ed.trans fG,by lia,(nn.same fF S5 f2).over i7,nn.next S5 k2,by rw[Ab];simp,kP,fun rest hr=>?_,?_,fun r hr=>?_,rfl⟩⟩
    ·split<;>lia
    ·rw[qx_];exact gL _ (.ask (by rw[<-bZ];exact hc) bz hr)
    ·rw[jf_,jo_];lia
    ·rcases jx_.mp hr with hr|hr
     ·exact l8 r hr
     ·rw[jd_.mp hr];exact hrow
   ·subst e;have b3:=f2.keep93 dj i6;have hrow:([Str.ofString "agree"]:List Str).length<=3/\∀q∈([Str.ofString "agree"]:List Str),q.length<=1000:=⟨by simp,fun q hq=>by rw[jd_.mp hq];decide⟩;refine⟨l,_,rfl,SqL.of i9,by simp,hrow.2,_,b3,by simp;lia,_,?_,(aw _ _ _).mpr ⟨aX,bP,bK,.done m ws,d,body++[[Str.ofString "agree"]],rfl,bw.beside93 b3 i6,bL.mono (TK.lst b3),fun z=>absurd rfl (z m ws),bZ,fG,he1,(nn.same fF S5 f2).over i7,nn,by rw[Ab];simp,i6,fun rest hr=>?_,?_,fun r hr=>?_,rfl⟩⟩
    ·rw[if_neg (show ¬ (Wish.done m ws).on93=true from fun z=>by cases z)];lia
    ·cases hr;rw[qx_];exact gL _ (.agree (by rw[<-bZ];exact bc))
    ·rw[jf_,jo_,if_neg (show ¬ (Wish.done m ws).on93=true from fun z=>by cases z)];lia
    ·rcases jx_.mp hr with hr|hr
     ·exact l8 r hr
     ·rw[jd_.mp hr];exact hrow
   ·subst e;have aA:Ax m (Al ws w)≠Ax hm (Al hw w):=fun z=>cU z.symm;obtain⟨cB,dv,d9,ed⟩:=ld.obj br aY aA bz;have b3:=f2.keep93 dj i6;have kP:=Fps.next93 k2 dj i6;have hrow:([Str.ofString "object",BS w,nt (Ax hm (Al hw w))]:List Str).length<=3/\∀q∈([Str.ofString "object",BS w,nt (Ax hm (Al hw w))]:List Str),q.length<=1000:=by
     have ha:=LQ ld.wf br;have h5:=Kn w;exact Xw (by decide) s!"" (Ma ha.1 s!"")
    refine⟨l,_,rfl,SqL.of i9,by simp,hrow.2,_,b3,by simp;lia,_,?_,(aw _ _ _).mpr ⟨aS,ef,bK,y,d+1,body++[[Str.ofString "object",BS w,nt (Ax hm (Al hw w))]],rfl,bw.beside93 b3 kP,bL.mono (TK.lst b3),fun _=>cB,d9.trans bZ,ed.trans fG,by lia,(nn.same fF S5 f2).over i7,nn.next S5 k2,by rw[Ab];simp,kP,fun rest hr=>?_,?_,fun r hr=>?_,rfl⟩⟩
    ·split<;>lia
    ·rw[qx_];rw[bZ]at br bg;exact gL _ (.obj br cU bg bz hr)
    ·rw[jf_,jo_];lia
    ·rcases jx_.mp hr with hr|hr
     ·exact l8 r hr
     ·rw[jd_.mp hr];exact hrow
  ·rw[if_neg fU];rw[if_neg fU]at jJ;obtain⟨rs,dO⟩:∃rs:List (List Str),rs=x1.last93:=⟨_,rfl⟩;have hsat:Sat93 L hm hw bP x1 rs:=by
    rw[dO];cases x1 with
    |ask c=>exact absurd rfl fU
    |shown m ws=>exact absurd rfl fU
    |done m ws=>exact .done
    |spent c=>exact .spent
   have cH:∀c,x1=.spent c->c.length<=700/\∀y∈c,inW 6 y=true:=fun c e=>by
    subst e;have ld:=led1 (fun m ws z=>by cases z);obtain⟨bB,hG,aR,nK,kL,nL,dA,bG,fM⟩:=id ld.ok;have:=ld.m12;exact⟨by lia,L9 s!"" dA⟩
   have bG:rs.length<=1/\∀r∈rs,r.length<=3/\∀q∈r,q.length<=1000:=by
    rw[dO];cases x1 with
    |spent c=>
     have h5:=Kn c;have:=(cH c rfl).1;refine⟨jh_ 1,fun r hr=>?_⟩;rw[jd_.mp hr];exact⟨by simp,fun q hq=>by
      rcases jr_.mp hq with rfl|hq
      ·decide
      ·rw[jd_.mp hq];lia⟩
    |ask c=>exact⟨j9_ 1,fun r hr=>absurd (show r∈([]:List (List Str)) from hr) q4_⟩
    |shown m ws=>exact⟨j9_ 1,fun r hr=>absurd (show r∈([]:List (List Str)) from hr) q4_⟩
    |done m ws=>exact⟨j9_ 1,fun r hr=>absurd (show r∈([]:List (List Str)) from hr) q4_⟩
   have hfirst:([Str.ofString "sitting",nt L,nt most]:List Str).length<=3/\∀q∈([Str.ofString "sitting",nt L,nt most]:List Str),q.length<=1000:=Xw (by decide) (Ma s!"" s!"") (Ma s!"" s!"");have h6:=Za 3004 (([Str.ofString "sitting",nt L,nt most]::(body++rs)).map Ed) (fun z hz=>by
    obtain⟨r,hr,rfl⟩:=jq_.mp hz;refine Zb ?_;rcases jr_.mp hr with rfl|hr
    ·exact hfirst
    ·rcases jx_.mp hr with hr|hr
     ·exact l8 r hr
     ·exact bG.2 r hr)
   have h7:=bG.1;have h8:(([Str.ofString "sitting",nt L,nt most]::(body++rs)).map Ed).length<=143:=by
    simp only[jb_,jD_,jf_];lia
   have h9:=pY 3004 h8;refine⟨rfl,_,_,A5.ob,by kernel_rfl,aa,aX,bP,_,rfl,⟨_,_,_,_,_,A5⟩,bP.L,bX,x1,rfl,hx5,cH,fun l H6 s6 i8 i9=>⟨l,rfl,_,s6 _ _ dj,_,i9,?_,fun p hp=>⟨([Str.ofString "sitting",nt L,nt most]::(body++rs)).map Ed,?_,by rw[Ld];lia,?_,?_⟩⟩⟩
   ·have:=bG.1;rw[<-dO];simp only[jb_,jD_];lia
   ·have e:oR (fun r=>V.str (Ed r)) ([Str.ofString "sitting",nt L,nt most]::body)++oR V.str (rs.map Ed)=oR V.str (oR Ed ([Str.ofString "sitting",nt L,nt most]::(body++rs))):=by simp
    rw[<-dO,e];exact SqL.of Ab
   ·lia
   ·rw[<-dO];refine k _ _ s x (body++rs) (((s1.trans S5).trans s6).newT hp) go (gL _ hsat) (Zc _) ?_ (by rw[jf_];have:=bG.1;lia);rw[Zn];lia
noncomputable def U5 (K:α3)(CA CB:Addr):Sp:=fun vs H Q _=>∃(a h:Addr) (ad:AD) (s:AS) (wv:V) (x:Wish) (hm:α2) (hw:α1) (d:Nat),vs=[.ref h,.ref a]/\Asks K CA CB H a ad s wv/\Bj K H s.L wv x/\Led93 s x hm hw d/\s.es.length<=100000/\(∀m ws,x=.shown m ws->hm.length+m.length<=300)/\Cn K H h s.L hm hw/\(∀m ws,x ≠ .done m ws) /\
 (∀c,x=.spent c->∀l H',Same H H'->H l=none->H' l=some (.lst ([Str.ofString "spent",BS c].map V.str))->Q (.ref l) H') /\
 (∀c,x=.ask c->∀l aF H' s' y wv',Goes {s with es:=s.es++[(c,Ax hm (Al hw c))]} s' y->Asks K CA CB H' a aF s' wv'->Bj K H' s'.L wv' y->Frm H H' a ad->AdOk H ad aF->H l=none->H' l=some (.lst ([Str.ofString "ask",BS c,nt (Ax hm (Al hw c))].map V.str))->Q (.ref l) H') /\
 (∀m ws,x=.shown m ws->(∀v,isW s.L v=true->¬ Ee hw ws hm m 0 0 v)->∀l H' wv',Asks K CA CB H' a ad s wv'->Bj K H' s.L wv' (.done m ws)->Frm H H' a ad->H l=none->H' l=some (.lst ([Str.ofString "agree"].map V.str))->Q (.ref l) H') /\
 (∀m ws w,x=.shown m ws->isW s.L w=true->Ee hw ws hm m 0 0 w->(∀v,isW s.L v=true->Ee hw ws hm m 0 0 v->place s.L w<=place s.L v)->w.length<=300->∀l aF H' s' y wv',Goes {s with es:=s.es++[(w,Ax hm (Al hw w))]} s' y->Asks K CA CB H' a aF s' wv'->Bj K H' s'.L wv' y->Frm H H' a ad->AdOk H ad aF->H l=none->H' l=some (.lst ([Str.ofString "object",BS w,nt (Ax hm (Al hw w))].map V.str))->Q (.ref l) H')
def Pf:⋯ EE.j73 15 ["house","asker"] (U5 K ao ar):=by
 delta EE.j73 Dn
 ·obtain⟨a,h,ad,s,wv,x,hm,hw,d,rfl,_⟩:=h;rfl
 ·obtain⟨a,h,ad,s,wv,x,hm,hw,d,rfl,hA,hW,aU,dR,nM,hh,c9,kS,kA,kG,kO⟩:=h;have hl:=Ak;obtain⟨t,u,rfl,ht,hu⟩:=id hW;obtain⟨gv,rv,zs,ys,us,A1⟩:=id hA;have wf:=aU.wf;have cN:s.L<=6:=by have:=wf.l6;lia
  have m1:=aU.mm;have m12:=aU.m12;refine⟨_,(Ac (Ao (i:=2) Dn.nd (AR (pvD 1) EE.cl_j0 EE.j32.m (AV EE).g hr.d (AV EE).b .nil AB))
   (Ac (AY (ptT (Au (opE IL) (Ai (ixTD An) (pvD 2) Ag) As (AG _)))
   (Ae (Ap (A7 (Aa As (Aa (Aj (Cz EE) hr.d AB (Aa (Ai (ixTD An) (pvD 2) Ag) Ad)) Ad)))))
   Aw)
   (Ac (AY (ptT (Au (opE IL) (Ai (ixTD An) (pvD 2) Ag) As (AG _)))
   (Ac (Ao (i:=3) Dn.nd (Aj (GI EE) hr.d AB (Aa (pvD 0) (Aa (Ai (ixTD An) (pvD 2) Ag) Ad))))
   (Ac (Ay (A9 (pvD 1) EE.cl_j0 EE.j54.m (C5 EE).g hr.d (C5 EE).b .nil (C9 (P:=P) (w:=w)) (Aa (pvD 3) Ad)))
   (Ae (Ap (A7 (Aa As (Aa (Aj (Cz EE) hr.d AB (Aa (Ai (ixTD An) (pvD 2) Ag) Ad)) (Aa (Av Bv rfl EE.str jW_ (Aa (pvD 3) Ad)) Ad))))))))
   Aw)
   (Ac (AY (ptT (Au (opN G8) (Ai (ixTD An) (pvD 2) Ag) As (AG _)))
   (Ae (Ap (A7 (Aa As Ad))))
   Aw)
   (Ac (Ao (i:=4) Dn.nd (Aj (Hv EE) hr.d AB (Aa (pvD 0) (Aa (Ai (ixTD An) (pvD 2) Ag) Ad))))
   (Ac (AY (ptT (Au Kr (pvD 4) BL (AG _)))
   (Ac (Ay (AR (pvD 1) EE.cl_j0 EE.j49.m (C4 EE).g hr.d (C4 EE).b .nil (C9 (P:=P) (w:=w))))
   (Ae (Ap (A7 (Aa As Ad)))))
   Aw)
   (Ac (Ao (i:=3) Dn.nd (Aj (GI EE) hr.d AB (Aa (pvD 0) (Aa (pvD 4) Ad))))
   (Ac (Ay (A9 (pvD 1) EE.cl_j0 EE.j56.m (Ce EE).g hr.d (Ce EE).b .nil (C9 (P:=P) (w:=w)) (Aa (pvD 4) (Aa (pvD 3) Ad))))
   (Ae (Ap (A7 (Aa As (Aa (Aj (Cz EE) hr.d AB (Aa (pvD 4) Ad)) (Aa (Av Bv rfl EE.str jW_ (Aa (pvD 3) Ad)) Ad)))))))))))))),?_⟩
  nofun;refine⟨_,_,A1.ob,by kernel_rfl,a,ad,s,_,rfl,hA,t,rfl,_,SqT.of ht,_,rfl,rfl,?_⟩;cases x with
  |done m ws=>exact absurd rfl (c9 m ws)
  |spent c=>
   rw[if_pos (show V.str (Wish.tag (.spent c))=V.str (Str.ofString "spent") from rfl)];obtain⟨bB,hG,aR,nK,kL,nL,dA,bG,fM⟩:=id aU.ok;refine⟨t,rfl,_,SqT.of ht,_,rfl,u,c,rfl,SqT.of hu,by lia,L9 cN dA,fun H1 s1=>⟨by lia,fun p hp=>kS c rfl p _ (s1.newT hp) (s1.none hp) Ab⟩⟩
  |ask c=>
   rw[if_neg (show ¬ V.str (Wish.tag (.ask c))=V.str (Str.ofString "spent") from ne93 (show Str.ofString "ask" ≠ Str.ofString "spent" by decide +kernel))];obtain⟨fo,bc,hc,bo,hg⟩:=id aU.ok;have en:=fo.tb.en;have lB:(s.most+1)*s.E.length<=(s.most+1)*(s.most+1):=xV_ _ en;have ha:=LQ wf hc;have nN:c.length<=700:=by split at bo<;>lia
   have hu:H u=some (.tup (c.map V.int)):=hu;refine⟨t,rfl,_,SqT.of ht,_,rfl,rfl,?_⟩;rw[if_pos (show V.str (Wish.tag (.ask c))=V.str (Str.ofString "ask") from rfl)];refine⟨t,rfl,_,SqT.of ht,_,rfl,h,u,s.L,hm,hw,c,rfl,hh,wf,SqT.of hu,hc,?_⟩;refine⟨_,_,A1.ob,by kernel_rfl,a,ad,s,_,.ask c,300,_,rfl,⟨_,_,_,_,_,A1⟩,hW,aU.ok,aU.bd,dR,fun z=>absurd rfl z,fun c' e=>?_⟩;cases e;refine⟨fun z=>absurd ha z,fun _ _ aS H2 ef y bK bz bw bL f2 k2=>?_⟩;have fi:=A1.tk f2;refine⟨t,rfl,_,SqT.of (fi _ _ ht),_,rfl,u,c,rfl,SqT.of (fi _ _ hu),nN,L9 cN hc,fun H3 s3=>⟨_,rfl,ha.1,by lia,by lia,fun p hp=>?_⟩⟩;obtain⟨fj,fk,gN,gO,gP,A3⟩:=bw;have s4:=s3.newT hp (o:=.lst [V.str (Str.ofString "ask"),V.str (BS c),V.str (nt (Ax hm (Al hw c)))]);exact kA c rfl p aS _ ef y bK bz ⟨_,_,_,_,_,A3.same s4⟩ (by rw[(aU.ask bz).2.2.1];exact bL.mono (TK.of s4)) (f2.trans (AdOk.refl _ _) (Frm.of s4 a ad)) k2 (f2.2 _ (s3.none hp)) Ab
  |shown m ws=>
   rw[if_neg (show ¬ V.str (Wish.tag (.shown m ws))=V.str (Str.ofString "spent") from ne93 (show Str.ofString "show" ≠ Str.ofString "spent" by decide +kernel))];obtain⟨bB,hG,aR,dU,gu,az⟩:=id aU.ok;have fT:=bB.tb.wf gu;have h4:=nM m ws rfl;refine⟨t,rfl,_,SqT.of ht,_,rfl,rfl,?_⟩;rw[if_neg (show ¬ V.str (Wish.tag (.shown m ws))=V.str (Str.ofString "ask") from ne93 (show Str.ofString "show" ≠ Str.ofString "ask" by decide +kernel))];refine⟨t,rfl,_,SqT.of ht,_,rfl,rfl,?_⟩;rw[if_neg (show ¬ (!decide (V.str (Wish.tag (.shown m ws))=V.str (Str.ofString "show")))=true from by rw[jR_ (show V.str (Wish.tag (.shown m ws))=V.str (Str.ofString "show") from rfl)];decide)];refine⟨t,rfl,_,SqT.of ht,_,rfl,h,u,s.L,hm,m,hw,ws,rfl,hh,wf,HouT.house hu,fT,fun H1 s1 bc=>?_,fun tw w H1 s1 df br cU bg=>?_⟩
   ·dsimp only;rw[if_pos rfl];have A2:=A1.same s1;refine⟨_,_,A2.ob,by kernel_rfl,a,ad,s,_,.shown m ws,rfl,⟨_,_,_,_,_,A2⟩,hW.mono (TK.of s1),fun z=>absurd rfl z,fun mm kr e H2 bK bw bL f2=>⟨by lia,fun p hp=>?_⟩⟩;cases e;obtain⟨fj,fk,gN,gO,gP,A3⟩:=bw;have s4:=Same.new hp (o:=.lst [V.str (Str.ofString "agree")]);exact kG m ws rfl bc p _ bK ⟨_,_,_,_,_,A3.same s4⟩ (bL.mono (TK.of s4)) (((Frm.of s1 a ad).trans (AdOk.refl _ _) f2).trans (AdOk.refl _ _) (Frm.of s4 a ad)) (s1.none (f2.2 _ hp)) Ab
   ·dsimp only;rw[if_neg (show ¬ V.ref tw=V.non from fun z=>V.noConfusion z)];have jV:=Pb wf fT br cU bg;have ha:=LQ wf br;have aA:Ax m (Al ws w)≠Ax hm (Al hw w):=fun z=>cU z.symm;have A2:=A1.same s1;refine⟨h,tw,s.L,hm,hw,w,rfl,hh.mono s1,wf,SqT.of df,br,?_⟩;refine⟨_,_,A2.ob,by kernel_rfl,a,tw,ad,s,_,.shown m ws,300,w,_,rfl,⟨_,_,_,_,_,A2⟩,hW.mono (TK.of s1),aU.ok,aU.bd,dR,df,by lia,fun z=>absurd rfl z,fun mm kr e=>?_⟩;cases e;refine⟨fun z=>(by rw[br]at z;cases z),fun _ z=>absurd ha z,fun _ _ _=>⟨fun z=>absurd z aA,fun _ bt=>?_,fun _ _=>⟨by lia,fun aS H3 ef y bK bz bw bL f2 k2=>?_⟩⟩⟩
    ·exfalso;obtain⟨q,hq,rfl⟩:=jq_.mp bt;exact aA ((az q hq).trans (aU.co q hq).symm)
    ·have fi:=A2.tk f2;refine⟨tw,w,rfl,SqT.of (fi _ _ df),by lia,L9 cN br,fun H4 s3=>⟨_,rfl,ha.1,by lia,by lia,fun p hp=>?_⟩⟩;obtain⟨fj,fk,gN,gO,gP,A3⟩:=bw;have s4:=s3.newT hp (o:=.lst [V.str (Str.ofString "object"),V.str (BS w),V.str (nt (Ax hm (Al hw w)))]);obtain⟨k1,k3,k4,k5,k6,k7⟩:=k2;exact kO m ws w rfl br cU bg s!"" p aS _ ef y bK bz ⟨_,_,_,_,_,A3.same s4⟩ (by rw[(aU.obj br s!"" aA bz).2.2.1];exact bL.mono (TK.of s4)) (((Frm.of s1 a ad).trans (AdOk.refl _ _) f2).trans (AdOk.refl _ _) (Frm.of s4 a ad)) ⟨k1,k3,k4,k5,k6,k7.imp id fun z=>s1.none z⟩ (s1.none (f2.2 _ (s3.none hp))) Ab
def Q3 (hm:af[i]?=some m)(hw:ag[i]?=some row):tL ((FH L af ag).take (i+1+1))=tL ((FH L af ag).take (i+1))++(jn 32 ((Str.ofString "room").cps.toList::(nt m).cps.toList::row.map fun g=>(nt g).cps.toList)++[10]):=by
 have hnext:(FH L af ag)[i+1]?=some (Nb m row):=by
  unfold FH;rw[List.getElem?_cons_succ,jj_,show (af.zip ag)[i]?=some (m,row) from qh_.mpr ⟨hm,hw⟩];rfl
 unfold tL;rw[jA_ (i:=i+1),hnext,jz_,List.flatten_append]
 congr 1
 unfold rowL Nb;simp[Function.comp_def]
noncomputable def Q4 (K:α3):Sp:=fun vs H Q _=>∃(h:Addr) (L:Int) (af:α2) (ag:α1),vs=[.ref h]/\Cn K H h L af ag/\Wf L af ag/\∀z,z.cps.toList=tL (FH L af ag)->z.length<=20000->Q (.str z) H
def Od:⋯ EE.j68 1 ["house"] (Q4 K):=by
 delta EE.j68 BA
 ·obtain⟨h,L,af,ag,rfl,_⟩:=h;rfl
 ·obtain⟨h,L,af,ag,rfl,hh,wf,k⟩:=h;have hl:=Ak;have jH:=wf.l1;have cN:=wf.l6;have cO:=wf.n40;have aY:=wf.len;obtain⟨mm,wv,q1,q2,q3⟩:=id hh;have hnl:=(KN (show 0<=L by lia) (show L<10 ^ 10 by lia)).2;have e1:(Str.ofString "house ").length=6:=by decide +kernel
  have e2:(Str.ofString "\n").length=1:=by decide +kernel
  have e3:(Str.ofString "room ").length=5:=by decide +kernel
  have e4:(Str.ofString " ").length=1:=by decide +kernel
  have c1:(Str.ofString "house ").cps.toList=(Str.ofString "house").cps.toList++[32]:=by decide +kernel
  have c3:(Str.ofString "room ").cps.toList=(Str.ofString "room").cps.toList++[32]:=by decide +kernel
  refine⟨_,(Ac (Ao (i:=1) BA.nd (AL BX (AL BX As (Av Bv rfl EE.str jW_ (Aa (Ai (ixTD An) (pvD 0) Ag) Ad))) As))
   (Ac (Bh jG_ rfl (Bs rfl EE.range (Aa (AE (lenD Aq) (by rfl) EE.len jO_ (Aa (Ai (ixTD An) (pvD 0) Ag) Ad)) Ad)) (Ar (i:=2) BA.nd rfl (ou rfl))
   (Ac (Ao (i:=1) BA.nd (AL BX (AL BX (pvD 1) As) (Av Bv rfl EE.str jW_ (Aa (Ai (ixTD An) (Ai (ixTD An) (pvD 0) Ag) (pvD 2)) Ad))))
   (Ac (Bh jG_ rfl (Jt (Ai (ixTD An) (Ai (ixTD An) (pvD 0) Ag) (pvD 2))) (Ar (i:=3) BA.nd rfl (ou rfl))
   (Ae (Ao (i:=1) BA.nd (AL BX (AL BX (pvD 1) As) (Av Bv rfl EE.str jW_ (Aa (pvD 3) Ad))))))
   (Ae (Ao (i:=1) BA.nd (AL BX (pvD 1) As))))))
   (Ae (Ap (pvD 1))))),?_⟩
  nofun;refine⟨_,q1,_,rfl,L,rfl,by lia,by lia,?_⟩;have al:∀x y:Str,(x++y).length=x.length+y.length:=fun x y=>Str.length_append x y;refine⟨by lia,by rw[al];lia,_,q1,_,rfl,mm,rfl,_,.inr q2,by lia,by rw[jb_];lia,?_⟩;rw[jb_,jC_];obtain⟨Pv,aw⟩:∃Pv:Nat->St->Hp->Prop,∀i aj H',Pv i aj H'↔(∃(z:Str) (o2 o3:Option V),H'=H/\z.cps.toList=tL ((FH L af ag).take (i+1))/\z.length<=100*(i+1)/\aj=[some (.ref h),some (.str z),o2,o3]):=⟨_,fun _ _ _=>ql_⟩;refine forR Pv ((aw _ _ _).mpr ⟨_,none,none,rfl,?_,?_,rfl⟩) (fun i aj H' hi h'=>?_) (fun aj H' h'=>?_)
  ·rw[qt_,qt_,j4_,j4_,c1,nwl];unfold FH tL rowL;simp[jn]
  ·rw[al,al];lia
  ·obtain⟨z,o2,o3,rfl,hz,lT,rfl⟩:=(aw _ _ _).mp h';rw[zx_];have l9:af[i]?=some af[i]:=by simp[hi]
   have aN:ag[i]?=some ag[i]:=by simp[show i<ag.length by lia]
   have nU:=wf.rows _ (jc_ aN);have nV:=wf.mks _ (jc_ l9);generalize af[i]=m at l9 nV;generalize ag[i]=row at aN nU;have bG:(row.length:Int)=L:=nU.1;have md:=(KN nV.1 (show m<10 ^ 10 by lia)).2;obtain⟨xs,t,y1,y2,y3⟩:=q3.at aN;nofun;refine⟨by lia,_,q1,_,rfl,mm,rfl,_,q2,_,G9 (by rw[jj_,l9];rfl),m,rfl,nV.1,by lia,by rw[al];lia,?_⟩;refine⟨_,q1,_,rfl,wv,rfl,_,y1,_,y2,t,rfl,⟨_,y3⟩,?_⟩;obtain⟨Pz,fV⟩:∃Pv:Nat->St->Hp->Prop,∀j aJ H3,Pv j aJ H3↔(∃(z':Str) (o3:Option V),H3=H'/\z'.cps.toList=tL ((FH L af ag).take (i+1))++(jn 32 ((Str.ofString "room").cps.toList::(nt m).cps.toList::(row.take j).map fun g=>(nt g).cps.toList))/\z'.length<=z.length+15+11*j/\aJ=[some (.ref h),some (.str z'),some (.int i),o3]):=⟨_,fun _ _ _=>ql_⟩;refine forT (xs:=row.map V.int) Pz ((fV _ _ _).mpr ⟨_,o3,rfl,?_,?_,rfl⟩) (fun j aJ H3 _ h3=>by obtain⟨_,_,rfl,_⟩:=(fV _ _ _).mp h3;exact y3) (fun j x aJ H3 hx h3=>?_) (fun aJ H3 h3=>?_)
   ·rw[qt_,qt_,j4_,j4_,c3,hz];simp[jn]
   ·rw[al,al];lia
   ·obtain⟨z',o3',rfl,iM,hzl',rfl⟩:=(fV _ _ _).mp h3;obtain⟨g,hg,rfl⟩:=Gb hx;have hgb:=nU.2 g (jc_ hg);have hgl:=(KN hgb.1 (show g<10 ^ 10 by lia)).2;have eG:=(ja_.mp hg).1;nofun;refine⟨by lia,hgb.1,by lia,by rw[al];lia,(fV _ _ _).mpr ⟨_,_,rfl,?_,?_,rfl⟩⟩
    ·rw[qt_,qt_,j4_,j4_,iM,spc,jA_ (l:=row) (i:=j),hg,jz_,Lf,Lf];simp
    ·rw[al,al];lia
   ·obtain⟨z',o3',rfl,iM,hzl',rfl⟩:=(fV _ _ _).mp h3;rw[jb_,jE_]at iM;rw[jb_]at hzl';nofun;refine⟨by lia,(aw _ _ _).mpr ⟨_,_,_,rfl,?_,?_,rfl⟩⟩
    ·rw[qt_,j4_,iM,nwl,Q3 l9 aN,qx_]
    ·rw[al];lia
  ·obtain⟨z,o2,o3,rfl,hz,lT,rfl⟩:=(aw _ _ _).mp h';nofun;refine k z ?_ s!"";rw[hz,qp_];unfold FH;rw[jD_,jb_,qO];lia
def Q5 (xs:List V)(m n:Nat)(h:m<=n)(hn:n<=xs.length):cutV xs (some (m:Int)) (some (n:Int))=(xs.take n).drop m:=by
 unfold cutV;rw[HT.sIx_nat,HT.sIx_nat,show min m xs.length=m from by lia,show min n xs.length=n from by lia,List.drop_take]
noncomputable def U6 (K:α3):Sp:=fun vs H Q _=>∃(a:Addr) (ns:α2),vs=[.ref a]/\SqL K H a (ns.map V.int)/\ns.length<=64/\∀(h:Addr) (L:Nat) (af:α2) (ag:α1) (H':Hp),Same H H'->Cn K H' h L af ag->Wf L af ag->L<=6->af.length<=4->Q (.ref h) H'
def Ka:⋯ EE.j67 2 ["script"] (U6 K):=by
 delta EE.j67 AA
 ·obtain⟨a,ns,rfl,_⟩:=h;rfl
 ·obtain⟨a,ns,rfl,hs,hz,k⟩:=h;have hl:=Ak;refine⟨_,(Ac (Ao (i:=1) AA.nd (AL (opD EM) (Aj (Cf EE) hr.d AB (Aa (pvD 0) (Aa Ag Ad))) (AL (opD XN) Ag Ag)))
   (Ac (Ao (i:=2) AA.nd (Ai (ixLD AZ) (A7 (Aa Ag (Aa Ag (Aa Ag (Aa Ag (Aa Ag (Aa Ag Ad))))))) (AL (opD EM) (pvD 1) Ag)))
   (Ac (C7 (i:=3) AA.nd rfl (oI rfl) (AL (opD0 DD) Ag (AL (opD EM) (AL (opD Mq) (pvD 1) Ag) Ag)))
   (Ac (C7 (i:=4) AA.nd rfl (oI rfl) (A7 (Aa (AL (opD EM) (Aj (Cf EE) hr.d AB (Aa (pvD 0) (Aa Ag Ad))) Ag) (Aa (AL (opD EM) (Aj (Cf EE) hr.d AB (Aa (pvD 0) (Aa Ag Ad))) Ag) Ad))))
   (Ac (Vb (AL (opD Ju) (Ai (ixLD AZ) (pvD 4) Ag) (Av Nn rfl EE.int ze_ (Aa (Kt (opN G8) (AL (opD EM) (AL (opD Mq) (pvD 1) Ag) Ag) Ag (AG _)) Ad))) (Va (pvD 4) Ag set_list))
   (Ac (C7 (i:=5) AA.nd rfl (oI rfl) (Be rfl (Bq rfl) (cp:=D8) oq (Bs rfl EE.range (Aa (AL (opD Ju) (pvD 3) (AL (opD0 DD) (pvD 2) Ag)) Ad)) (fun _ _ _ _=>(Ar (i:=0) Gq rfl (ou rfl))) (fun _ _ _ _=>Bu) (fun _ _ _ _=>Ag)))
   (Ac (Bh jG_ rfl (PL rfl EE.enumerate (pvD 0)) (Rb rfl (F7 (Ar (i:=6) AA.nd rfl (ou rfl)) (F7 (Ar (i:=7) AA.nd rfl (ou rfl)) Ou)))
   (Ae (Vb (AL (opD EM) (AL (opD0 DD) (AL (opD Ju) (Ai (ixLD AZ) (pvD 5) (AL (opD EM) (pvD 6) (AE (lenD Aq) (by rfl) EE.len jO_ (Aa (pvD 5) Ad)))) Ag) (pvD 7)) Ag) (Va (pvD 5) (AL (opD EM) (pvD 6) (AE (lenD Aq) (by rfl) EE.len jO_ (Aa (pvD 5) Ad))) set_list))))
   (Ac (Mz (i:=8) AA.nd rfl rfl rfl (Bq rfl) (cp:=D9) ⟨⟨rfl,rfl⟩,⟨⟨rfl,rfl⟩,oq⟩⟩ (Bs rfl EE.range (Aa (pvD 3) Ad)) (fun _ _ _ _=>(Ar (i:=0) Gr rfl (ou rfl))) (fun _ _ _ _=>Bu) (fun _ _ _ _=>(Ai (ixLD (Er (K:=K) rfl)) (pvD 1) (AL (opD EM) (Ai (ixLD (Er (K:=K) rfl)) (pvD 2) (pvD 0)) Ag))))
   (Ac (Ao (i:=9) AA.nd (A7 Ad))
   (Ac (Bh jG_ rfl (Bs rfl EE.range (Aa (pvD 3) Ad)) (Ar (i:=10) AA.nd rfl (ou rfl))
   (Ac (Ao (i:=11) AA.nd (CW Kx (pvD 5) (DL (AL (opD0 DD) (pvD 3) (AL (opD Ju) (pvD 10) (pvD 2)))) (DL (AL (opD0 DD) (pvD 3) (AL (opD Ju) (AL (opD0 DD) (pvD 10) Ag) (pvD 2))))))
   (Ae (Ay (Ek jS_ jX_ jY_ BN (pvD 9) (Aa (Av Bw rfl EE.tuple j0_ (Aa (Be rfl (Bq rfl) (cp:=Ea) ⟨⟨rfl,rfl⟩,oq⟩ (Bc (pvD 11)) (fun _ _ _ _=>(Ar (i:=0) Gs rfl (ou rfl))) (fun _ _ _ _=>Bu) (fun _ _ _ _=>(AL (opD EM) (AL (opD Mq) (pvD 0) Ag) (pvD 1)))) Ad)) Ad))))))
   (Ae (Ap (Bt (Aa (pvD 2) (Aa (Av Bw rfl EE.tuple j0_ (Aa (pvD 8) Ad)) (Aa (Av Bw rfl EE.tuple j0_ (Aa (pvD 9) Ad)) Ad)))))))))))))))),?_⟩
  nofun;have hc9:CPow 10 9:=⟨by lia,by lia,by decide⟩;have hd0:=qO_ (cell ns 0) (show (10:Int) ^ tO 9≠0 by decide);have c10:=qO_ (cell ns 1) (show (1000000001:Int)≠0 by decide);have c11:=qE_ (cell ns 1) (show (0:Int)<1000000001 by decide);have c20:=qO_ (cell ns 2) (show (1000000001:Int)≠0 by decide);have c21:=qE_ (cell ns 2) (show (0:Int)<1000000001 by decide);refine⟨a,ns,0,rfl,hs,hc9,_,rfl,by decide,by lia,fun p0 hp0=>?_⟩;generalize cell ns 0%10 ^ tO 9=hd at hd0 ⊢;have g0:=qO_ hd (show (6:Int)≠0 by decide);have g1:=qE_ hd (show (0:Int)<6 by decide);have g2:=qO_ (hd / 6) (show (4:Int)≠0 by decide);have g3:=qE_ (hd / 6) (show (0:Int)<4 by decide);obtain⟨L,hLv,jH,hL2⟩:∃L:Nat,atI [V.int 1,V.int 2,V.int 3,V.int 1,V.int 2,V.int 6] (hd%6)=some (V.int (L:Int))/\1<=L/\L<=6:=by
   rcases (show hd%6=0\/hd%6=1\/hd%6=2\/hd%6=3\/hd%6=4\/hd%6=5 by lia) with z|z|z|z|z|z<;>rw[z]
   ·exact⟨1,rfl,by lia,by lia⟩
   ·exact⟨2,rfl,by lia,by lia⟩
   ·exact⟨3,rfl,by lia,by lia⟩
   ·exact⟨1,rfl,by lia,by lia⟩
   ·exact⟨2,rfl,by lia,by lia⟩
   ·exact⟨6,rfl,by lia,by lia⟩
  obtain⟨n,hn,kB,ny⟩:∃n:Nat,1+hd / 6%4=(n:Int)/\1<=n/\n<=4:=⟨(1+hd / 6%4).toNat,by lia,by lia,by lia⟩;have mf:=Same.new hp0 (o:=.lst [V.int 1,V.int 2,V.int 3,V.int 1,V.int 2,V.int 6]);refine⟨by decide,_,SqL.of Ab,_,hLv,⟨by decide,by decide⟩,by decide,a,ns,1,rfl,mf.seq hs,_,rfl,by decide,a,ns,2,rfl,mf.seq hs,_,rfl,by decide,by lia,fun p1 hp1'=>?_⟩;have bM:H p1=none:=mf.none hp1';have sp:=mf.newT hp1' (o:=.lst [V.int (cell ns 1%1000000001),V.int (cell ns 2%1000000001)]);refine⟨_,SqL.of Ab,_,rfl,⟨by decide,by decide⟩,by decide,.inr ⟨_,rfl,?_,_,Ab,0,rfl,?_⟩⟩
  ·split<;>exact .inr ⟨by decide,by decide⟩
  rw[hn];have c00:0<=cell ns 1%1000000001*(if (!decide (hd / 24%3=1))=true then 1 else 0)/\cell ns 1%1000000001*(if (!decide (hd / 24%3=1))=true then 1 else 0)<1000000001:=by split<;>lia
  have e00:∀v:Int,[V.int (cell ns 1%1000000001),V.int (cell ns 2%1000000001)].set 0 (V.int v)=[V.int v,V.int (cell ns 2%1000000001)]:=fun v=>rfl;rw[e00];generalize cell ns 1%1000000001*(if (!decide (hd / 24%3=1))=true then 1 else 0)=v1 at c00 ⊢;obtain⟨c10,c11⟩:=c00;have nW:=sp.over (o:=.lst [V.int v1,V.int (cell ns 2%1000000001)]) bM;generalize hG1:upd (upd H p0 (.lst [V.int 1,V.int 2,V.int 3,V.int 1,V.int 2,V.int 6])) p1 (.lst [V.int (cell ns 1%1000000001),V.int (cell ns 2%1000000001)])=HG1 at nW ⊢;have hP:upd HG1 p1 (.lst [V.int v1,V.int (cell ns 2%1000000001)]) p1=some (.lst [V.int v1,V.int (cell ns 2%1000000001)]):=Ab;generalize upd HG1 p1 (.lst [V.int v1,V.int (cell ns 2%1000000001)])=H1 at nW hP ⊢;generalize cell ns 2%1000000001=v2 at c20 c21 hP ⊢;obtain⟨M,hM,hM15⟩:∃M:Nat,M=n*(L+1)/\M<=28:=⟨_,rfl,j3_ (show n<=4 by lia) (show L+1<=7 by lia)⟩;have hMi:(n:Int)*((L:Int)+1)=(M:Int):=by rw[hM];simp
  refine⟨(L:Int),rfl,?_⟩;rw[hMi];refine⟨.inl ⟨by lia,by lia⟩,by lia,by lia,?_⟩;rw[jC_];have s1:=nW;have hS1:=hP;refine Uc (fun i ys aj H'=>H'=H1/\ys=(oE i (0:Int)).map V.int/\∃o,aj=[o]) ⟨rfl,rfl,none,rfl⟩ s!"" (fun i ys aj H' _ h'=>by rw[h'.2.1,jb_,pN];lia) (fun i ys aj H' hi h'=>?_) (fun ys aj H' h' D hD=>?_)
  ·obtain⟨rfl,rfl,o,rfl⟩:=h';nofun;refine⟨?_,_,rfl⟩;have e1:oR V.int (oE i 0)++[V.int 0]=oR V.int (oE (i+1) 0):=by rw[List.replicate_succ',jz_];rfl
   rw[e1,List.replicate_succ];rfl
  obtain⟨rfl,rfl,o,rfl⟩:=h';have sD:=s1.newT hD (o:=.lst ((oE M (0:Int)).map V.int));have hDH:H D=none:=s1.none hD;have hDS:D≠p1:=fun z=>by rw[z,hS1]at hD;cases hD
  refine⟨_,sD.seq hs,?_⟩;obtain⟨Pv,aw⟩:∃Pv:Nat->St->Hp->Prop,∀i aj ju,Pv i aj ju↔(∃(sl:α2) (o1 o2:Option V),sl.length=M/\Same H ju/\ju D=some (.lst (sl.map V.int))/\ju p1=some (.lst [V.int v1,V.int v2])/\aj=[some (.ref a),some (.int hd),some (.int L),some (.int n),some (.ref p1),some (.ref D),o1,o2,none,none,none,none]):=⟨_,fun _ _ _=>ql_⟩;have hM1:1<=M:=by rw[hM];exact Nat.mul_pos s!"" s!""
  refine forM Pv ((aw _ _ _).mpr ⟨oE M 0,none,none,by simp,sD,Ab,Same.new hD _ _ hS1,rfl⟩) (fun i aj H2 _ h2=>by obtain⟨_,_,_,_,s2,_⟩:=(aw _ _ _).mp h2;exact s2.seq hs) (fun i v aj H2 t hv h2 ht=>?_) (fun aj H2 h2=>?_)
  ·obtain⟨sl,o1,o2,jN,s2,dD,ig,rfl⟩:=(aw _ _ _).mp h2;obtain⟨c,hc,rfl⟩:=Gb hv;have sT:=s2.newT ht (o:=.tup [V.int i,V.int c]);have kQ:=Same.new ht (o:=.tup [V.int i,V.int c]);have j0:=qO_ (i:Int) (show (M:Int)≠0 by lia);have j1:=qE_ (i:Int) (show (0:Int)<M by lia);obtain⟨j,hj⟩:∃j:Nat,(i:Int)%(M:Int)=j:=⟨((i:Int)%(M:Int)).toNat,by lia⟩;obtain⟨sv,hx⟩:∃sv,sl[(j:Int).toNat]?=some sv:=⟨sl[j],by simp[show j<sl.length by lia]⟩;nofun;refine⟨_,SqT.of Ab,rfl,V.int i,_,rfl,V.int c,_,rfl,rfl,_,.inl (SqL.of (kQ _ _ dD)),_,rfl,?_⟩;rw[jb_,jN,hj];refine⟨by lia,_,SqL.of (kQ _ _ dD),_,Cw s!"" hx,_,rfl,.inr ⟨by decide,by decide⟩,c,rfl,by decide,_,.inl (SqL.of (kQ _ _ dD)),_,rfl,?_⟩;rw[jb_,jN,hj];refine⟨by lia,_,kQ _ _ dD,j,?_,(aw _ _ _).mpr ⟨sl.set j ((sv*31+c)%2147483647),_,_,by rw[qJ];exact jN,sT.over hDH,by rw[Ab,List.map_set],?_,rfl⟩⟩
   ·rw[Yp s!"" (by rw[jb_];lia)];simp
   ·rw[Ah (qm_ hDS)];exact kQ _ _ ig
  ·obtain⟨sl,o1,o2,jN,s2,dD,ig,rfl⟩:=(aw _ _ _).mp h2;nofun;refine⟨by lia,by lia,?_⟩;rw[jC_];obtain⟨Pc,bJ⟩:∃Pc:Nat->List V->St->Hp->Prop,∀j ys cb H4,Pc j ys cb H4↔(H4=H2/\∃(ms:α2) (o:Option V),ys=ms.map V.int/\ms.length=j/\(∀x∈ms,0<=x/\x<=1000000000)/\cb=[o,some (.ref p1),some (.ref D)]):=⟨_,fun _ _ _ _=>ql_⟩;refine Uc Pc ((bJ _ _ _ _).mpr ⟨rfl,[],none,rfl,rfl,(fun x hx=>by cases hx),rfl⟩) s!"" (fun j ys cb H4 _ h4=>?_) (fun j ys cb H4 hj h4=>?_) (fun ys cb H4 h4 D2 hD2'=>?_)
   ·obtain⟨_,ms,o,rfl,md,_⟩:=(bJ _ _ _ _).mp h4;rw[jb_];lia
   ·obtain⟨rfl,ms,o,rfl,md,nX,rfl⟩:=(bJ _ _ _ _).mp h4;rw[zx_];have hjM:j<sl.length:=by rw[jN,hM];exact jH_ hj (Nat.le_mul_of_pos_right _ s!"")
    have hx:sl[(j:Int).toNat]?=some sl[j]:=by simp[hjM]
    have e0:=qO_ sl[j] (show (2:Int)≠0 by decide);have e1:=qE_ sl[j] (show (0:Int)<2 by decide);obtain⟨v,hv,v0,v1'⟩:∃v:Int,atI [V.int v1,V.int v2] (sl[j]%2)=some (V.int v)/\0<=v/\v<=1000000000:=by
     have:sl[j]%2=0\/sl[j]%2=1:=by lia
     rcases this with z|z<;>rw[z]<;>exact⟨_,rfl,by lia,by lia⟩
    nofun;refine⟨_,SqL.of dD,_,Cw s!"" hx,_,rfl,by decide,_,SqL.of ig,_,hv,(bJ _ _ _ _).mpr ⟨rfl,ms++[v],_,by simp,by simp[md],fun z iM=>?_,rfl⟩⟩;rcases jx_.mp iM with h|h
    ·exact nX z h
    ·rw[jd_.mp h];exact⟨v0,v1'⟩
   ·obtain⟨rfl,ms,o,rfl,md,nX,rfl⟩:=(bJ _ _ _ _).mp h4;refine⟨by lia,fun pw eQ=>⟨by lia,by lia,?_⟩⟩;have fq:H pw=none:=s2.none (Cv eQ).1;have s5:=(Same.new hD2' (o:=.lst (ms.map V.int))).newT eQ (o:=.lst []);have hG:upd (upd H4 D2 (.lst (ms.map V.int))) pw (.lst []) pw=some (.lst []):=Ab;have hGD:upd (upd H4 D2 (.lst (ms.map V.int))) pw (.lst []) D2=some (.lst (ms.map V.int)):=Same.new eQ _ _ Ab;have hDp:D≠pw:=fun z=>by
     have:=(Cv eQ).1;rw[<-z,dD]at this;cases this
    have hD2p:D2≠pw:=fun z=>by rw[<-z,Ab]at eQ;cases eQ
    have hD5:=s5 _ _ dD;have mh:=s2.trans s5;generalize upd (upd H4 D2 (.lst (ms.map V.int))) pw (.lst [])=HG at s5 hG hGD hD5 mh ⊢;obtain⟨Pz,fV⟩:∃Pv:Nat->St->Hp->Prop,∀i cw H6,Pv i cw H6↔(∃(ag:α1) (o3 o4:Option V),Same H H6/\H6 D=some (.lst (sl.map V.int))/\H6 D2=some (.lst (ms.map V.int))/\JW K H6 pw ag/\ag.length=i/\(∀r∈ag,r.length=L/\∀x∈r,0<=x/\x<(n:Int))/\cw=[some (.ref a),some (.int hd),some (.int L),some (.int n),some (.ref p1),some (.ref D),o1,o2,some (.ref D2),some (.ref pw),o3,o4]):=⟨_,fun _ _ _=>ql_⟩;refine forR Pz ((fV _ _ _).mpr ⟨[],none,none,mh,hD5,hGD,JW.nil hG,rfl,(fun r dP=>by cases dP),rfl⟩) (fun i cw H6 hi h6=>?_) (fun cw H6 h6=>?_)
    ·obtain⟨ag,o3,o4,s6,gV,nY,mj,aY,aR,rfl⟩:=(fV _ _ _).mp h6;obtain⟨ts,c8,_⟩:=id mj;rw[zx_];nofun;have hb:n+(i+1)*L<=M:=by
      rw[hM];rcases (show L=1\/L=2\/L=3\/L=4\/L=5\/L=6 by lia) with z|z|z|z|z|z<;>subst z<;>lia
     have hb1:n+i*L+L=n+(i+1)*L:=by rw[zw_];lia
     have e1:(n:Int)+(i:Int)*(L:Int)=((n+i*L:Nat):Int):=by simp
     have e2:(n:Int)+((i:Int)+1)*(L:Int)=((n+(i+1)*L:Nat):Int):=by simp
     rw[e1,e2];refine⟨.inl ⟨by lia,by lia⟩,.inl ⟨by lia,by lia⟩,_,SqL.of gV,fun p3 bI=>?_⟩;rw[Q5 _ _ _ s!"" (by rw[jb_];lia),<-rO,<-rN];have hrsl:((sl.take (n+(i+1)*L)).drop (n+i*L)).length=L:=by rw[qR_,jI_];lia
     generalize (sl.take (n+(i+1)*L)).drop (n+i*L)=rs at hrsl ⊢;have s7:=Same.new bI (o:=.lst (rs.map V.int));refine⟨.inl ⟨rfl,_,SqL.of (s7 _ _ c8)⟩,⟨_,SqL.of Ab⟩,?_⟩;obtain⟨f,hf⟩:∃f:V->V,∀c:Int,f (V.int c)=.int (c / 3%(n:Int)):=⟨fun x=>match x with | .int c=>.int (c / 3%(n:Int))|_=>.non,fun _=>rfl⟩;refine MB (xs:=rs.map V.int) (aj:=[some (.int n)]) f rfl (SqL.of Ab) (by rw[jb_];lia) (fun x hx R hR=>?_) (fun D3 gI=>?_)
     ·obtain⟨c,hc,rfl⟩:=jq_.mp hx;rw[hf]at hR;nofun;exact⟨⟨by decide,by decide⟩,by lia,hR⟩
     have em:(rs.map V.int).map f=(rs.map fun c=>c / 3%(n:Int)).map V.int:=by
      rw[jN_,jN_];exact jM_ fun c _=>hf c
     rw[em];refine⟨D3,rfl,_,.inl ⟨SqL.of Ab,fun t ht=>?_⟩⟩;have s8:=(s7.newT gI (o:=.lst ((rs.map fun c=>c / 3%(n:Int)).map V.int))).newT ht (o:=.tup ((rs.map fun c=>c / 3%(n:Int)).map V.int));obtain⟨xs,f1,f2,f3⟩:=(mj.mono s8).push (w:=rs.map fun c=>c / 3%(n:Int)) (t:=t) (SqT.of Ab);refine⟨xs,f1,by lia,(fV _ _ _).mpr ⟨ag++[rs.map fun c=>c / 3%(n:Int)],_,_,(s6.trans s8).over fq,by rw[Ah hDp];exact s8 _ _ gV,by rw[Ah hD2p];exact s8 _ _ nY,f3,by simp[aY],fun r dP=>?_,rfl⟩⟩;rcases jx_.mp dP with dP|dP
     ·exact aR r dP
     ·rw[jd_.mp dP];refine⟨by rw[jb_];exact hrsl,fun x hx=>?_⟩;obtain⟨c,_,rfl⟩:=jq_.mp hx;exact⟨qO_ _ s!"",qE_ _ s!""⟩
    ·obtain⟨ag,o3,o4,s6,gV,nY,mj,aY,aR,rfl⟩:=(fV _ _ _).mp h6;nofun;refine⟨_,.inl ⟨SqL.of nY,fun t1 c8=>?_⟩⟩;obtain⟨xs,gU,dA⟩:=(mj.mono (Same.new c8 (o:=.tup (ms.map V.int)))).rows;refine⟨xs,.inl ⟨SqL.of gU,fun t2 jz=>⟨by lia,fun hh nZ=>?_⟩⟩⟩;exact k hh L ms ag _ (((s6.newT c8).newT jz).newT nZ) ⟨t1,t2,SqT.of Ab,((Same.new jz).newT nZ).seqT (SqT.of Ab),(dA t2 jz).mono (Same.new nZ)⟩ ⟨by lia,by lia,by lia,by lia,by lia,fun r dP=>⟨by have:=(aR r dP).1;lia,fun x hx=>by have:=(aR r dP).2 x hx;lia⟩,nX⟩ hL2 s!""
def GJ.cls93 {L:Int}{af:α2}{ag:α1}(wf:Wf L af ag){rs names ds:α2}{k:Nat}(hk:rs.length<=k)(h:GJ L af ag k names)(hz:0∈rs)(hw:∀r∈rs,∃v,isW L v=true/\Al ag v=r)(hc:∀r∈rs,∀x:Int,0<=x->x<L->Bp ag r x∈rs)(nd:ds.Nodup)(hd:∀x,x∈ds↔x∈rs.map fun r=>names.getD r.toNat 0):Cls41 L af ag (fun r=>names.getD r.toNat 0) ds:=by
 have mem:∀v,isW L v=true->Al ag v∈rs:=by
  intro v hv;have key:∀i,Al ag (v.take i)∈rs:=by
   intro i
   induction i with
   |zero=>exact hz
   |succ i ih=>
    by_cases hi:i<v.length
    ·have lI:v[i]?=some v[i]:=by simp[hi]
     rw[Gd lI];have:=Am.mp hv v[i] (jZ_ _);exact hc _ ih _ this.1 this.2
    ·rw[qp_ s!""]at ih ⊢;exact ih
  have:=key v.length
  rwa [jE_]at this
 refine⟨nd,fun v hv=>(hd _).mpr (jq_.mpr ⟨_,mem v hv,rfl⟩),fun d b4=>?_,fun v u hv hu=>?_⟩
 ·obtain⟨r,hr,rfl⟩:=jq_.mp ((hd d).mp b4);obtain⟨v,hv,e⟩:=hw r hr;exact⟨v,hv,by rw[e]⟩
 ·have rv:=wf.walk hv v.length;have ru:=wf.walk hu u.length;rw[jE_]at rv ru;have mv:=mem v hv;have mu:=mem u hu;have e1:=h.2 (Al ag v).toNat (Al ag u).toNat s!"" s!"";rw[show (((Al ag v).toNat:Nat):Int)=Al ag v by lia,show (((Al ag u).toNat:Nat):Int)=Al ag u by lia]at e1;show names.getD (Al ag v).toNat 0=names.getD (Al ag u).toNat 0↔_;rw[e1];have ap:∀(w e:α2),Al ag (w++e)=Ba ag (Al ag w) e:=fun w e=>by rw[<-Ge,NS,Ge]
  constructor
  ·intro z e he;rw[ap,ap];exact Jn.all hz hc mv mu (fun v hv hl=>z v hv s!"") e he
  ·intro z e he _;have:=z e he;rw[ap,ap]at this;exact this
def Lj:⋯ EE.j69 1 ["house"] (U2 K):=by
 delta EE.j69 AM
 ·obtain⟨h,L,af,ag,rfl,_⟩:=h;rfl
 ·obtain⟨h,L,af,ag,rfl,hh,wf,k⟩:=h;have hl:=Ak;refine⟨_,(Ac (Ao (i:=1) AM.nd (A7 (Aa Ag Ad)))
   (Ac (Bh jG_ rfl (Bs rfl EE.range (Aa (AE (lenD Aq) (by rfl) EE.len jO_ (Aa (Ai (ixTD An) (pvD 0) Ag) Ad)) Ad)) (Ar (i:=2) AM.nd rfl (ou rfl))
   (Ae (Bh jG_ rfl (Bc (Av Jv rfl EE.list qH_ (Aa (pvD 1) Ad))) (Ar (i:=3) AM.nd rfl (ou rfl))
   (Ae (Bh jG_ rfl (Jt (Ai (ixTD An) (Ai (ixTD An) (pvD 0) Ag) (pvD 3))) (Ar (i:=4) AM.nd rfl (ou rfl))
   (Ae (AY (ptT (Au Nx (pvD 4) (pvD 1) rfl))
   (Ae (Ay (Ek jS_ jX_ jY_ BN (pvD 1) (Aa (pvD 4) Ad))))
   Aw)))))))
   (Ac (C7 (i:=5) AM.nd rfl (oI rfl) (Av Jv rfl EE.list qH_ (Aa (Ai (ixTD An) (pvD 0) Ag) Ad)))
   (Ac (Bh jG_ rfl (Bs rfl EE.range (Aa (AE (lenD Aq) (by rfl) EE.len jO_ (Aa (Ai (ixTD An) (pvD 0) Ag) Ad)) Ad)) (Ar (i:=2) AM.nd rfl (ou rfl))
   (Ac (C7 (i:=6) AM.nd rfl (oI rfl) (Be rfl (Bq rfl) (cp:=ET) ⟨⟨rfl,rfl⟩,⟨⟨rfl,rfl⟩,oq⟩⟩ (Bs rfl EE.range (Aa (AE (lenD Aq) (by rfl) EE.len jO_ (Aa (pvD 5) Ad)) Ad)) (fun _ _ _ _=>(Ar (i:=0) Hm rfl (ou rfl))) (fun _ _ _ _=>Bu) (fun _ _ _ _=>(AL Vh (A7 (Aa (Ai (ixLD (Er (K:=K) rfl)) (pvD 1) (pvD 0)) Ad)) (Be rfl (Bq rfl) (cp:=EU) ⟨⟨rfl,rfl⟩,oq⟩ (WR (K:=K) rfl (Ai (ixTD (R3 (K:=K) rfl)) (Ai (ixTD (R3 (K:=K) rfl)) (pvD 2) Ag) (pvD 0))) (fun _ _ _ _=>(Ar (i:=0) Hn rfl (ou rfl))) (fun _ _ _ _=>Bu) (fun _ _ _ _=>(Ai (ixLD (Er (K:=K) rfl)) (pvD 1) (pvD 0))))))))
   (Ae (C7 (i:=5) AM.nd rfl (oI rfl) (Be rfl (Bq rfl) (cp:=EV) ⟨⟨rfl,rfl⟩,oq⟩ (Bc (pvD 6)) (fun _ _ _ _=>(Ar (i:=0) Ho rfl (ou rfl))) (fun _ _ _ _=>Bu) (fun _ _ _ _=>(VA (K:=K) rfl jS_ rV rW (OL (K:=K) rfl (hu9 hr)) (pvD 1) (Aa (pvD 0) Ad))))))))
   (Ae (Ap (AE OK (by rfl) EE.len jO_ (Aa (Av (SA rfl) rfl EE.set sk (Aa (Be rfl (Bq rfl) (cp:=Eb) ⟨⟨rfl,rfl⟩,oq⟩ (Bc (pvD 1)) (fun _ _ _ _=>(Ar (i:=0) Gu rfl (ou rfl))) (fun _ _ _ _=>Bu) (fun _ _ _ _=>(Ai (ixLD (Er (K:=K) rfl)) (pvD 1) (pvD 0)))) Ad)) Ad)))))))),?_⟩
  obtain⟨tm,tw,q1,q2,q3⟩:=id hh;nofun;have cO:=wf.n40;have kB:=wf.n1;have jH:=wf.l1;have cN:=wf.l6;refine⟨by lia,fun p hp=>?_⟩;have sp:=Same.new hp (o:=.lst [V.int 0]);refine⟨_,sp.seqT q1,_,rfl,tm,rfl,_,.inr (sp.seqT q2),?_⟩;rw[jb_];refine⟨by lia,by lia,?_⟩;rw[jC_];obtain⟨Pv,aw⟩:∃Pv:Nat->St->Hp->Prop,∀i aj H',Pv i aj H'↔(∃(rs:α2) (o1 o2 o3:Option V),Same H H'/\H' p=some (.lst (rs.map V.int))/\Met41 L af.length ag rs/\(U1 L ag rs\/i+1<=rs.length)/\aj=[some (.ref h),some (.ref p),o1,o2,o3,none,none]):=⟨_,fun _ _ _=>ql_⟩;have m0:Met41 L af.length ag [0]:=⟨by simp,by simp,fun r hr=>⟨[],Am.mpr fun x hx=>(by cases hx),by rw[jd_.mp hr];rfl⟩,fun r hr=>by rw[jd_.mp hr];lia⟩;refine forR Pv ((aw _ _ _).mpr ⟨[0],none,none,none,sp,Ab,m0,.inr (by simp),rfl⟩) (fun i aq H2 hi h2=>?_) (fun aq H2 h2=>?_)
  ·obtain⟨cF,o1,o2,o3,s2,bA,m2,cC,rfl⟩:=(aw _ _ _).mp h2;have hr40:cF.length<=af.length:=Dc _ m2.nd m2.rg;nofun;refine⟨_,.inl (SqL.of bA),fun c hc=>⟨⟨_,SqL.of Ab⟩,?_⟩⟩;have sc:=Same.new hc (o:=.lst (cF.map V.int));have gH:c≠p:=fun z=>by rw[z,bA]at hc;cases hc
   obtain⟨Pw,bU⟩:∃Pv:Nat->St->Hp->Prop,∀j aj H',Pv j aj H'↔(∃(rs:α2) (o2 o3:Option V),Same H H'/\H' c=some (.lst (cF.map V.int))/\H' p=some (.lst (rs.map V.int))/\Met41 L af.length ag rs/\(∀r∈cF,r∈rs)/\cF.length<=rs.length/\(U1 L ag cF->rs=cF)/\(∀k,k<j->∀r,cF[k]?=some r->∀x:Int,0<=x->x<L->Bp ag r x∈rs)/\aj=[some (.ref h),some (.ref p),some (.int (0+(i:Int))),o2,o3,none,none]):=⟨_,fun _ _ _=>ql_⟩;refine forL (xs:=cF.map V.int) Pw ((bU _ _ _).mpr ⟨cF,_,_,s2.trans sc,Ab,by rw[Ah (qm_ gH)];exact bA,m2,fun r hr=>hr,jh_ _,fun _=>rfl,fun k hk=>absurd hk (qX_ _),rfl⟩) (fun j aJ H3 _ h3=>by obtain⟨_,_,_,_,h,_⟩:=(bU _ _ _).mp h3;exact SqL.of h) (fun j y aJ H3 hy h3=>?_) (fun aJ H3 h3=>?_)
   ·obtain⟨rs,o2,o3,s3,lE,bI,m3,ja,len3,jc,cg,rfl⟩:=(bU _ _ _).mp h3;obtain⟨r,hr,rfl⟩:=Gb hy;have eN:=jc_ hr;obtain⟨r0,r1⟩:=m2.rg r eN;obtain⟨row,hrow,lY,dG⟩:=wf.row r0 r1;obtain⟨xs,t,z1,z2,z3⟩:=q3.atZ r0 hrow;nofun;refine⟨_,s3.seqT q1,_,rfl,tw,rfl,_,s3.seqT z1,_,z2,t,rfl,⟨_,s3.seqT z3⟩,?_⟩;obtain⟨Pe,jO⟩:∃Pv:Nat->St->Hp->Prop,∀l aj H',Pv l aj H'↔(∃(rs:α2) (o3:Option V),Same H H'/\H' c=some (.lst (cF.map V.int))/\H' p=some (.lst (rs.map V.int))/\Met41 L af.length ag rs/\(∀r∈cF,r∈rs)/\cF.length<=rs.length/\(U1 L ag cF->rs=cF)/\(∀k,k<j->∀r,cF[k]?=some r->∀x:Int,0<=x->x<L->Bp ag r x∈rs)/\(∀x:Int,0<=x->x<l->Bp ag r x∈rs)/\aj=[some (.ref h),some (.ref p),some (.int (0+(i:Int))),some (.int r),o3,none,none]):=⟨_,fun _ _ _=>ql_⟩;refine forT (xs:=row.map V.int) Pe ((jO _ _ _).mpr ⟨rs,_,s3,lE,bI,m3,ja,len3,jc,cg,fun x h0 h1=>s!"",rfl⟩) (fun l cb H4 _ h4=>by obtain⟨_,_,s4,_⟩:=(jO _ _ _).mp h4;exact s4.seqT z3) (fun l y cb H4 hy4 h4=>?_) (fun cb H4 h4=>?_)
    ·obtain⟨rs,o3,s4,mn,cE,m4,eo,len4,jd,mq,mw,rfl⟩:=(jO _ _ _).mp h4;obtain⟨g,hg,rfl⟩:=Gb hy4;have lF:=(ja_.mp hg).1;have dU:Bp ag r (l:Int)=g:=HJ hrow (by rw[jC_];exact hg);have hrl4:rs.length<=af.length:=Dc _ m4.nd m4.rg;nofun;have fR:(l:Int)<L:=by lia
     have ay:∀(bN:α2),(∀q∈rs,q∈bN)->g∈bN->∀x:Int,0<=x->x<((l+1:Nat):Int)->Bp ag r x∈bN:=fun bN hs je x h0 h1=>by
      by_cases hx:x<(l:Int)
      ·exact hs _ (mw x h0 hx)
      ·have:x=(l:Int):=by lia
       subst this;rw[dU];exact je
     refine⟨_,.inl (SqL.of cE),rfl,by simp[E3],?_⟩;by_cases je:g∈rs
     ·rw[if_neg (by rw[PH];simp[je])];exact (jO _ _ _).mpr ⟨rs,_,s4,mn,cE,m4,eo,len4,jd,mq,ay rs (fun q hq=>hq) je,rfl⟩
     ·rw[if_pos (by rw[PH];simp[je])];have kL:r∈rs:=eo r eN;have m5:=m4.add wf kL s!"" fR (by rw[dU];exact je);rw[dU]at m5;refine⟨.inl ⟨rfl,_,SqL.of cE⟩,_,cE,by rw[jb_];lia,(jO _ _ _).mpr ⟨rs++[g],_,s4.over hp,by rw[Ah gH];exact mn,by rw[Ab,jz_];rfl,m5,fun q hq=>jF_ _ (eo q hq),by rw[jf_];lia,fun bo=>?_,fun k hk r' dC x x0 x1=>jF_ _ (mq k hk r' dC x x0 x1),ay _ (fun q hq=>jF_ _ hq) (by simp),rfl⟩⟩;have h1:=bo r eN (l:Int) s!"" fR;rw[dU]at h1;exact absurd (eo g h1) je
    ·obtain⟨rs,o3,s4,mn,cE,m4,eo,len4,jd,mq,mw,rfl⟩:=(jO _ _ _).mp h4;rw[jb_,dG]at mw;refine (bU _ _ _).mpr ⟨rs,_,_,s4,mn,cE,m4,eo,len4,jd,fun k hk r' dC=>?_,rfl⟩;by_cases hkj:k<j
     ·exact mq k hkj r' dC
     ·have:k=j:=by lia
      subst this;rw[hr]at dC;cases dC;exact mw
   ·obtain⟨rs,o2,o3,s3,lE,bI,m3,ja,len3,jc,cg,rfl⟩:=(bU _ _ _).mp h3;rw[jb_]at cg;refine (aw _ _ _).mpr ⟨rs,_,_,_,s3,bI,m3,?_,rfl⟩;by_cases bo:U1 L ag cF
    ·rw[jc bo];exact .inl bo
    ·refine .inr ?_;have h1:i+1<=cF.length:=by rcases cC with h|h;exact absurd h bo;exact h
     refine Nat.lt_of_not_le fun bg=>bo fun r hr x x0 x1=>?_;have aH:Bp ag r x∈rs:=by
      obtain⟨k,hk,ek⟩:=jL_ hr;exact cg k hk r (by rw[je_ hk,ek]) x x0 x1
     exact N8 m2.nd ja s!"" aH
  ·obtain⟨rs,o1,o2,o3,s2,bA,m2,cC,rfl⟩:=(aw _ _ _).mp h2;nofun;have bg:rs.length<=af.length:=Dc _ m2.nd m2.rg;have bo:∀r∈rs,∀x:Int,0<=x->x<L->Bp ag r x∈rs:=by rcases cC with h|h;exact h;lia
   have br:=m2.w;have hz:=m2.z;have hrg:=m2.rg;have s1:=s2;have hprN:=hp;have kj:=bA;generalize H2=H1 at s1 kj;refine⟨_,s1.seqT q1,_,rfl,tm,rfl,_,.inr (s1.seqT q2),fun pn oe=>⟨_,s1.newT oe |>.seqT q1,_,rfl,tm,rfl,_,.inr (s1.newT oe |>.seqT q2),?_⟩⟩;rw[jb_];refine⟨by lia,by lia,?_⟩;rw[jC_];have sn:=Same.new oe (o:=.lst (af.map V.int));obtain⟨Pv,aw⟩:∃Pv:Nat->St->Hp->Prop,∀i aj H',Pv i aj H'↔(∃(names:α2) (pn:Addr) (o4 o5 o6 o7:Option V),Same H1 H'/\H' pn=some (.lst (names.map V.int))/\GJ L af ag i names/\aj=[some (.ref h),some (.ref p),o5,o6,o7,some (.ref pn),o4]):=⟨_,fun _ _ _=>ql_⟩;refine forR Pv ((aw _ _ _).mpr ⟨af,pn,_,_,_,_,sn,Ab,GJ.first,rfl⟩) (fun i aq H2 hi h2=>?_) (fun aq H2 h2=>?_)
   ·obtain⟨names,pn,o4,o5,o6,o7,s2,dt,nm,rfl⟩:=(aw _ _ _).mp h2;have hnl:names.length=af.length:=nm.1;have s02:=s1.trans s2;nofun;refine⟨_,.inl (SqL.of dt),?_⟩;rw[jb_];refine⟨by lia,by lia,?_⟩;rw[jC_];obtain⟨Pc,bJ⟩:∃Pc:Nat->List V->St->Hp->Prop,∀j ys cb H4,Pc j ys cb H4↔(Same H2 H4/\LLs H2 H4 ys ((om j).map (ln41 names ag))/\∃o,cb=[o,some (.ref pn),some (.ref h)]):=⟨_,fun _ _ _ _=>ql_⟩;refine Uc Pc ((bJ _ _ _ _).mpr ⟨Same.refl _,LLs.nil _ _,none,rfl⟩) s!"" (fun j ys cb H4 hj h4=>?_) (fun j ys cb H4 hj h4=>?_) (fun ys cb H4 h4 D hD=>?_)
    ·obtain⟨_,gX,_⟩:=(bJ _ _ _ _).mp h4;rw[LLs.len gX,jb_,qJ_];lia
    ·obtain⟨s4,gX,o,rfl⟩:=(bJ _ _ _ _).mp h4;rw[zx_];have lG:names[j]?=some names[j]:=by simp[hj]
     obtain⟨row,hrow,lY,dG⟩:=wf.row (r:=(j:Int)) s!"" s!"";obtain⟨xs,t,z1,z2,z3⟩:=(q3.mono (s02.trans s4)).atZ s!"" hrow;nofun;refine⟨_,SqL.of (s4 _ _ dt),_,Cw s!"" (by rw[jC_];exact lG),by lia,fun p1 bM=>?_⟩;have s5:=Same.new bM (o:=.lst [V.int names[j]]);have mh:=(s02.trans s4).trans s5;obtain⟨f,hf⟩:∃f:V->V,∀a:Int,f (V.int a)=.int (names.getD a.toNat 0):=⟨fun v=>match v with | .int a=>.int (names.getD a.toNat 0)|_=>.non,fun _=>rfl⟩;have ka:∀a:Int,0<=a->a<(af.length:Int)->names[a.toNat]?=some (names.getD a.toNat 0):=fun a a0 a1=>by
      rw[jp_,je_ (show a.toNat<names.length by lia)];rfl
     refine⟨_,mh.seqT q1,_,rfl,tw,rfl,_,s5.seqT z1,_,z2,t,rfl,⟨_,s5.seqT z3⟩,HH (xs:=row.map V.int) (aj:=[some (.ref pn)]) f rfl (s5.seqT z3) (by rw[jb_];lia) (fun y hy R hR=>?_) (fun D3 gI=>?_)⟩
     ·obtain⟨a,ha,rfl⟩:=jq_.mp hy;have jf:=(wf.rows row lY).2 a ha;rw[hf]at hR;nofun;exact⟨_,SqL.of (s5 _ _ (s4 _ _ dt)),_,Cw jf.1 (ka a jf.1 jf.2),hR⟩
     have em:(row.map V.int).map f=(row.map fun a=>names.getD a.toNat 0).map V.int:=by
      rw[jN_,jN_];exact jM_ fun a _=>hf a
     rw[em];have s6:=Same.new gI (o:=.lst ((row.map fun a=>names.getD a.toNat 0).map V.int));refine⟨D3,rfl,_,s6 _ _ Ab,_,Ab,by rw[jb_,jb_];simp;lia,fun p5 gC=>(bJ _ _ _ _).mpr ⟨((s4.trans s5).trans s6).newT gC,?_,_,rfl⟩⟩;have el:ln41 names ag j=names[j]::row.map fun a=>names.getD a.toNat 0:=by
      unfold ln41;rw[jC_]at hrow;rw[jp_,lG,jp_,hrow];rfl
     have:=(gX.mono (s5.trans s6)).snoc (w:=ln41 names ag j) (s4.none ((s5.trans s6).none gC)) gC;rw[xi_,jz_];show LLs _ _ _ (_++[ln41 names ag j]);rw[el]at this ⊢;exact this
    ·obtain⟨s4,gX,o,rfl⟩:=(bJ _ _ _ _).mp h4;have gX:LLs H2 H4 ys (DY names ag):=gX;have lF:(DY names ag).length=af.length:=by unfold DY;rw[jb_,qJ_,hnl]
     have hyl:ys.length=af.length:=by rw[LLs.len gX,lF]
     have s5:=Same.new hD (o:=.lst ys);have wL:BG K (upd H4 D (.lst ys)) ys (DY names ag):=by
      obtain⟨ts,e1,e2,e3,e4,e5⟩:=gX.mono s5;refine⟨by rw[e1,jb_,e2],fun i w hi=>?_⟩;have bV:i<ts.length:=by rw[e2];exact (ja_.mp hi).1
      exact⟨ts[i],by rw[e1,jj_];simp[bV],e4 i _ w (by simp[bV]) hi⟩
     have kR:upd H4 D (.lst ys) D=some (.lst ys):=Ab;generalize upd H4 D (.lst ys)=H5 at s5 wL kR ⊢;obtain⟨Pd,eV⟩:∃Pc:Nat->List V->St->Hp->Prop,∀j zs cw H6,Pc j zs cw H6↔(H6=H5/\zs=(((DY names ag).take j).map fun w=>(((DY names ag).idxOf w:Nat):Int)).map V.int/\∃o,cw=[o,some (.ref D)]):=⟨_,fun _ _ _ _=>ql_⟩;refine⟨D,rfl,⟨_,SqL.of kR⟩,JV (xs:=ys) Pd ((eV _ _ _ _).mpr ⟨rfl,rfl,none,rfl⟩) s!"" (fun j zs cw H6 hj h6=>?_) (fun j y zs cw H6 hy h6=>?_) (fun zs cw H6 h6 D2 dD=>?_)⟩
     ·obtain⟨rfl,rfl,_⟩:=(eV _ _ _ _).mp h6;exact⟨SqL.of kR,by rw[jb_,jb_,jI_];lia⟩
     ·obtain⟨rfl,rfl,o,rfl⟩:=(eV _ _ _ _).mp h6;have eG:j<(DY names ag).length:=by rw[<-wL.1];exact (ja_.mp hy).1
      have hlj:(DY names ag)[j]?=some (DY names ag)[j]:=by simp[eG]
      obtain⟨t,e1,e2⟩:=wL.2 j _ hlj;rw[hy]at e1;cases e1;nofun;refine⟨.inl ⟨rfl,_,SqL.of kR⟩,ys,kR,_,DY names ag,wL,SqL.of e2,jZ_ _,by lia,(eV _ _ _ _).mpr ⟨rfl,?_,_,rfl⟩⟩;rw[jA_,hlj,jz_,jz_];rfl
     ·obtain⟨rfl,rfl,o,rfl⟩:=(eV _ _ _ _).mp h6;rw[wL.1,jE_];exact (aw _ _ _).mpr ⟨nx41 names ag,D2,_,_,_,_,((s2.trans s4).trans s5).newT dD,Ab,nm.next wf,rfl⟩
   ·obtain⟨names,pn,o4,o5,o6,o7,s2,dt,nm,rfl⟩:=(aw _ _ _).mp h2;nofun;have ka:∀a:Int,0<=a->a<(af.length:Int)->names[a.toNat]?=some (names.getD a.toNat 0):=fun a a0 a1=>by
     have h1:names.length=af.length:=nm.1;rw[jp_,je_ (show a.toNat<names.length by lia)];rfl
    obtain⟨f,hf⟩:∃f:V->V,∀a:Int,f (V.int a)=.int (names.getD a.toNat 0):=⟨fun v=>match v with | .int a=>.int (names.getD a.toNat 0)|_=>.non,fun _=>rfl⟩;refine⟨⟨_,SqL.of (s2 _ _ kj)⟩,MB (xs:=rs.map V.int) (aj:=[some (.ref pn)]) f rfl (SqL.of (s2 _ _ kj)) (by rw[jb_];lia) (fun y hy R hR=>?_) (fun D hD=>?_)⟩
    ·obtain⟨a,ha,rfl⟩:=jq_.mp hy;have jf:=hrg a ha;rw[hf]at hR;nofun;exact⟨_,SqL.of dt,_,Cw jf.1 (ka a jf.1 jf.2),hR⟩
    have em:(rs.map V.int).map f=(rs.map fun a=>names.getD a.toNat 0).map V.int:=by
     rw[jN_,jN_];exact jM_ fun a _=>hf a
    rw[em];refine⟨D,rfl,_,SqL.of Ab,by rw[jb_];lia,fun a S ds ha c9 jm=>⟨S,ds.length,Ab,?_⟩⟩;exact k _ ds _ (((s1.trans s2).newT hD).newT ha) (GJ.cls93 wf bg nm hz br bo c9 jm)
noncomputable def LS93 (H:Hp)(ys:List V)(rows:List (List Str)):Prop:=ys.length=rows.length/\∀(i:Nat) (r:List Str),rows[i]?=some r->∃t,ys[i]?=some (.ref t)/\H t=some (.lst (r.map V.str))
def LS93.mono (h:LS93 H ys rows)(s:Same H H'):LS93 H' ys rows:=⟨h.1,fun i r hi=>by
 obtain⟨t,a,b⟩:=h.2 i r hi;exact⟨t,a,s _ _ b⟩⟩
def LS93.snoc (h:LS93 H ys rows) (ht:H t=some (.lst (r.map V.str))):LS93 H (ys++[V.ref t]) (rows++[r]):=by
 refine⟨by rw[jf_,jf_,h.1];rfl,fun i q hi=>?_⟩;by_cases bu:i<rows.length
 ·rw[ji_ bu]at hi;rw[ji_ (by rw[h.1];exact bu)];exact h.2 i q hi
 ·have:=(ja_.mp hi).1;rw[jf_,jo_]at this;have ei:i=rows.length:=by lia
  subst ei;rw[jv_ (jh_ _),j7_]at hi;simp at hi;subst hi;exact⟨t,by rw[<-h.1];simp,ht⟩
def Zd : ∀{ps:List Str},p∈ps->p.length<=(Txt.join sep ps).length:=fun {ps} hp=>by
 refine j1_ ?_ (qQ sep ps)
 induction ps with
 |nil=>cases hp
 |cons q ps ih=>
  rw[jJ_,zl_];rcases jr_.mp hp with rfl|hp
  ·lia
  ·have:=ih hp;lia
def TM {K:α3}{H:Hp}{a b:Addr}{r:List Str}(ha:SqL K H a (r.map V.str))(hb:SqL K H b (r.map V.str))(n:Nat):EqD K H (n+1) (.ref a) (.ref b) true:=by
 refine EqD.all43 (.inl ⟨ha,hb⟩) rfl (fun i x y hx hy=>?_);rw[hx]at hy;cases hy;rw[jj_]at hx;cases hi:r[i]? with
 |none=>rw[hi]at hx;cases hx
 |some q=>
  rw[hi]at hx;cases hx;exact EqD.str43 n q
noncomputable def U7 (K:α3):Sp:=fun vs H Q _=>∃(a:Addr) (ns:α2),vs=[.ref a]/\SqL K H a (ns.map V.int)/\ns.length<=63/\∀H',Q (.bl true) H'
def Ze:⋯ EE.j75 17 ["script"] (U7 K):=by
 delta EE.j75 HX
 ·obtain⟨a,ns,rfl,_⟩:=h;rfl
 ·obtain⟨a,ns,rfl,hs,hz,k⟩:=h;have hl:=Ak;refine⟨_,(Ac (Ao (i:=1) HX.nd (Aj (Ka EE) hr.d AB (Aa (pvD 0) Ad)))
   (Ac (Ao (i:=2) HX.nd (Aj (Lj EE) hr.d AB (Aa (pvD 1) Ad)))
   (Ac (Ao (i:=3) HX.nd (AL (opD0 DD) Ag (AL (opD EM) (Aj (Cf EE) hr.d AB (Aa (pvD 0) (Aa Ag Ad))) Ag)))
   (Ac (Ao (i:=4) HX.nd (Aj (Q2 EE) hr.d AB (Aa (Aj (Od EE) hr.d AB (Aa (pvD 1) Ad)) (Aa (pvD 3) Ad))))
   (Et (AY (PW.pt (Ra (Gw (ptB (Kp (AE NL rfl EE.isinstance qR (Aa (pvD 4) (Aa (Wm (v:=.ty "str") rfl EE.str jW_ rfl) Ad)))))) (Nj (ptT (Au (opN G8) (CW VS (pvD 4) (DL (Ov Kq Ag)) E7) As (AG _))))))
   (Ae (Ap Mp))
   Aw)
   (Et (Mz (i:=5) HX.nd rfl rfl rfl (Bq rfl) (cp:=SJ) oq (Bc (Ek qi_ xw_ xx_ HS (CW VS (pvD 4) E7 (DL (Ov Kq Ag))) (Aa As Ad))) (fun _ _ _ _=>(Ar (i:=0) QK rfl (ou rfl))) (fun _ _ _ _=>Bu) (fun _ _ _ _=>(VA (K:=K) rfl qi_ xw_ xx_ HS (pvD 0) (Aa As Ad))))
   (Et (AY (PW.pt (Ra (ptT (Au (opD0 Nm) (AE (lenD Aq) (by rfl) EE.len jO_ (Aa (pvD 5) Ad)) Ag (AG _))) (Nj (ptT (Au (VG 8 (hu9 hr)) (Ai (ixLD AZ) (pvD 5) Ag) (A7 (Aa As (Aa (Av Bv rfl EE.str jW_ (Aa (Ai (ixTD An) (pvD 1) Ag) Ad)) (Aa (Av Bv rfl EE.str jW_ (Aa (pvD 3) Ad)) Ad)))) (AG _))))))
   (Ae (Ap Mp))
   Aw)
   (Et (Ao (i:=6) HX.nd (Ow EE.j31.m (C6 EE).g hr.d rfl EE.m_j0 (C6 EE).b .nil AB (Aa (Ai (ixTD An) (pvD 1) Ag) (Aa (pvD 3) Ad))))
   (Et (Bh jG_ rfl (Rc rfl EE.range (Aa Ag (Aa (AE (lenD Aq) (by rfl) EE.len jO_ (Aa (pvD 5) Ad)) Ad))) (Ar (i:=7) HX.nd rfl (ou rfl))
   (Ac (AY (ptT (Au (VG 8 (hu9 hr)) (Ai (ixLD AZ) (pvD 5) (pvD 7)) (Aj (Pf EE) hr.d AB (Aa (pvD 1) (Aa (pvD 6) Ad))) (AG _)))
   (Ae (Ap Mp))
   Aw)
   (Ae (AY (PW.pt (U9 (ptT (Au (opD0 Nm) (pvD 7) (AL (opD0 Pk) (AE (lenD Aq) (by rfl) EE.len jO_ (Aa (pvD 5) Ad)) Ag) (AG _))) (Q9 (ptT (Au Nw (Ai (ixLD AZ) (Ai (ixLD AZ) (pvD 5) (pvD 7)) Ag) (A7 (Aa As (Aa As Ad))) rfl)))))
   (Ae (Ap Mp))
   Aw))))
   (Et (Ao (i:=8) HX.nd (AE (lenD Aq) (by rfl) EE.len jO_ (Aa (Be rfl (Bq rfl) (cp:=SK) oq (Bc (pvD 5)) (fun _ _ _ _=>(Ar (i:=0) QL rfl (ou rfl))) (fun _ _ _ _=>(X3 (ptT (Au (opE IL) (Ai (ixLD (Er (K:=K) rfl)) (pvD 0) Ag) As (AG _))))) (fun _ _ _ _=>(pvD 0))) Ad)))
   (Et (AY (ptT (Au (opD0 Wq) (pvD 8) (Aj (Jo EE) hr.d AB (Aa (AE (Rp rfl) rfl EE.min sm (Aa (pvD 2) (Aa (AL (opD0 DD) (pvD 3) Ag) Ad))) (Aa (Ai (ixTD An) (pvD 1) Ag) Ad))) (AG _)))
   (Ae (Ap Mp))
   Aw)
   (Ae (Ap (Kt (opE IL) (Ai (ixLD AZ) (Ai (ixLD AZ) (pvD 5) (Ov Kq Ag)) Ag) (Ai (ixLD AZ) (A7 (Aa As (Aa As Ad))) (Av Nn rfl EE.int ze_ (Aa (Kt (opD0 IM) (pvD 2) (pvD 3) (AG _)) Ad))) (AG _))))))))))))))),?_⟩
  nofun;refine⟨a,ns,rfl,hs,by lia,fun h L hm hw H1 s1 hh wf hL h4=>?_⟩;dsimp only;obtain⟨tm,tw,q1,q2,q3⟩:=id hh;refine⟨h,L,hm,hw,rfl,hh,wf,fun cl ds H2 s2 kc=>?_⟩;dsimp only;have S2:=s1.trans s2;have eZ:=S2.seq hs;have dE:=hh.mono s2;have L1:1<=L:=by have:=wf.l1;lia
  have L6:L<=6:=by have:=wf.l6;lia
  have c0:=qO_ (cell ns 3) (show (12:Int)≠0 by decide);have c1:=qE_ (cell ns 3) (show (0:Int)<12 by decide);obtain⟨mo,hmo,jM,eh⟩:∃n:Nat,1+cell ns 3%12=(n:Int)/\1<=n/\n<=12:=⟨(1+cell ns 3%12).toNat,by lia,by lia,by lia⟩;have hds4:ds.length<=4:=by
   have:=kc.ge wf (fun _ _=>rfl);lia
  refine⟨a,ns,3,rfl,eZ,_,rfl,by decide,h,L,hm,hw,rfl,dE,wf,fun z ez cT=>?_⟩;dsimp only;rw[hmo];refine⟨z,L,mo,hm,hw,cl,ds,rfl,wf,ez,cT,jM,eh,h4,kc,hds4,fun g H3 s x rows s3 go kX eg hgl bG=>?_⟩;dsimp only;have bB:=O2 (L:=L) (most:=mo) 300 L1 L6 jM s!"";obtain⟨nR,kp⟩:=go.ok bB;obtain⟨j,jx⟩:=Goes.J41 go bB (J41.start L mo);have eL:s.L=L:=kp.l;have em:s.most=mo:=kp.m;have ee:s.es=[]:=kp.e;have aU:Led93 s x hm hw 0:=⟨nR,j,jx,(by rw[ee];intro p hp;cases hp),by rw[eL];exact wf,by rw[em];exact eh⟩;have two:=kX.two aU ee go.nd93;obtain⟨jg,sumL⟩:=kX.sum kc aU eL em go.nd93;rw[ee]at jg;obtain⟨R,hR⟩:∃R,R=[Str.ofString "sitting",nt L,nt mo]::rows:=⟨_,rfl⟩;rw[<-hR]at eg;have hRne:R ≠ []:=by rw[hR];simp
  have hR0:R[0]?=some [Str.ofString "sitting",nt L,nt mo]:=by rw[hR];rfl
  have mx:∀r∈R,Cl93 r:=fun r hr=>by
   rw[hR]at hr;rcases jr_.mp hr with rfl|hr
   ·exact TJ ⟨by decide +kernel,by decide +kernel⟩ (nt93 s!"") (nt93 s!"")
   ·exact kX.clean wf r hr
  obtain⟨cut1',cut2'⟩:=Q1 eg hRne (by
   rw[hR];show (rowS [Str.ofString "sitting",nt L,nt mo]).cps.toList ≠ [];rw[Gk];intro z;have:=qn_ o9 z;rw[jJ_,Lf,jf_]at this;have e:(Str.ofString "sitting").cps.toList.length=7:=by decide +kernel
   simp only[xe_]at this;lia)
  have hRl:R.length<=143:=by rw[hR,jD_];lia
  have S3:=S2.trans s3;have hh3:=dE.mono s3;refine⟨_,_,.str _,Yq,_,Ue,?_⟩;rw[if_neg (by decide)];refine⟨g,rfl,by lia,?_⟩;rw[if_neg (by rw[jR_ cut1'];decide)];refine Es ?_;nofun;obtain⟨O,hO⟩:∃O,O=R.map rowS:=⟨_,rfl⟩;have hOl:O.length=R.length:=by rw[hO,jb_]
  have esp:Txt.split (Txt.slice g none (some (-1))) (Str.ofString "\n")=O:=by
   rw[cut2',nwl,<-hO];exact Gg (by decide) (by rw[hO];simpa using hRne) (fun p hp=>by
    rw[hO]at hp;obtain⟨r,hr,rfl⟩:=jq_.mp hp;exact (mx r hr).nl)
  have jN:=Tf g none (some (-1));refine⟨by lia,rfl,by decide +kernel,by lia,fun l0 iN=>⟨⟨_,SqL.of Ab⟩,?_⟩⟩;rw[esp];have s4:=Same.new iN (o:=.lst (O.map V.str));have hO4:upd H3 l0 (.lst (O.map V.str)) l0=some (.lst (O.map V.str)):=Ab;generalize upd H3 l0 (.lst (O.map V.str))=H4 at s4 hO4 ⊢;have S4:=S3.trans s4;obtain⟨Pc,bJ⟩:∃Pc:Nat->List V->St->Hp->Prop,∀j ys fH H5,Pc j ys fH H5↔(Same H4 H5/\LS93 H5 ys (R.take j)/\∃o,fH=[o]):=⟨_,fun _ _ _ _=>ql_⟩;refine JV (xs:=O.map V.str) Pc ((bJ _ _ _ _).mpr ⟨Same.refl _,⟨rfl,fun i r hi=>by simp at hi⟩,none,rfl⟩) (by rw[jb_];lia) (fun j ys fH H5 hj h5=>?_) (fun j y ys fH H5 hy h5=>?_) (fun ys fH H5 h5 D hD=>?_)
  ·obtain⟨s5,jP,_⟩:=(bJ _ _ _ _).mp h5;rw[jb_]at hj;exact⟨SqL.of (s5 _ _ hO4),by rw[jP.1,jI_];lia⟩
  ·obtain⟨s5,jP,o,rfl⟩:=(bJ _ _ _ _).mp h5;rw[jj_,hO,jj_]at hy;cases hr:R[j]? with
   |none=>rw[hr]at hy;cases hy
   |some r=>
    rw[hr]at hy;cases hy;have hc:=mx r (jc_ hr);nofun;have iA:(rowS r).length<=(Txt.join (Str.ofString "\n") (R.map rowS)).length:=Zd (jq_.mpr ⟨r,jc_ hr,rfl⟩);rw[<-cut2']at iA;have esr:Txt.split (rowS r) (Str.ofString " ")=r:=by
     unfold rowS;rw[spc];exact Gg (by decide) hc.1 (fun p hp=>(hc.2 p hp).1)
    refine⟨rfl,by decide +kernel,by omega,fun l iN=>(bJ _ _ _ _).mpr ⟨s5.newT iN,?_,_,rfl⟩⟩;rw[esr,jA_,hr];exact (jP.mono (Same.new iN)).snoc Ab
  ·obtain⟨s5,jP,_⟩:=(bJ _ _ _ _).mp h5;rw[jb_,hOl,jE_]at jP;have s6:=Same.new hD (o:=.lst ys);have gV:upd H5 D (.lst ys) D=some (.lst ys):=Ab;have cN:=jP.mono s6;have S6:=(S4.trans s5).trans s6;have s36:=(s4.trans s5).trans s6;generalize upd H5 D (.lst ys)=H6 at s6 gV cN S6 s36 ⊢;refine Es ?_;nofun;have hR3:3<=R.length:=by rw[hR,jD_];omega
   obtain⟨t0,y0,ht0⟩:=cN.2 0 _ hR0;have H16:Same H1 H6:=(s2.trans s3).trans s36;refine⟨_,.inl (SqL.of gV),?_⟩;rw[cN.1,if_neg (by omega)];refine⟨_,SqL.of gV,_,DE (qB_ 0) (show ys[(0:Int).toNat]?=some (V.ref t0) from y0),_,H16.seqT q1,_,rfl,_,rfl,by omega,by omega,by omega,by omega,by omega,fun p hp=>⟨t0,rfl,true,TM (SqL.of (Same.new hp _ _ ht0)) (SqL.of Ab) 7,?_⟩⟩;rw[if_neg (by decide)];have s7:=Same.new hp (o:=.lst [V.str (Str.ofString "sitting"),V.str (nt L),V.str (nt mo)]);have fW:=s7 _ _ gV;have er:=cN.mono s7;have my:=H16.trans s7;generalize upd H6 p (.lst [V.str (Str.ofString "sitting"),V.str (nt L),V.str (nt mo)])=H7 at s7 fW er my ⊢;refine Es ?_;nofun;refine⟨_,my.seqT q1,_,rfl,fun aa dx fF jG aA=>?_⟩;have sN:Same H7 (upd (upd H7 dx (.own aa)) aa (.ins ao dx [])):=fun y o hy=>by
    rw[Ah (fun z=>by rw[z,fF]at hy;cases hy),Ah (fun z=>by rw[z,jG]at hy;cases hy)];exact hy
   have nO:∀y o,H7 y=some o->y≠aa:=fun y o hy z=>by rw[z,fF]at hy;cases hy
   refine⟨aa,dx,L,mo,rfl,Ab,L1,L6,jM,eh,fun ad H8 sb xb wv gob hA hW hf dt cA=>⟨rfl,?_⟩⟩;obtain⟨rfl,rfl⟩:=Goes.det go gob;have S78:Same H7 H8:=fun y o hy=>hf y o (sN y o hy) (nO y o hy);have nQ:Nn93 H7 ad:=⟨sN.none cA.1,sN.none cA.2.1,sN.none cA.2.2.1,sN.none cA.2.2.2⟩;refine Es ?_;nofun;obtain⟨Pv,aw⟩:∃Pv:Nat->St->Hp->Prop,∀i aj H',Pv i aj H'↔(∃(aX:AD) (s1:AS) (bX:V) (x1:Wish) (d:Nat) (o7:Option V),Asks K ao ar H' aa aX s1 bX/\Bj K H' s1.L bX x1/\s1.L=L/\s1.most=mo/\Same H7 H'/\Nn93 H7 aX/\(R.drop (i+1)=[]\/(Sat93 L hm hw s1 x1 (R.drop (i+1))/\(∀m ws,x1 ≠ .done m ws)/\Led93 s1 x1 hm hw d))/\aj=[some (.ref a),some (.ref h),some (.int ds.length),some (.int mo),some (.str g),some (.ref D),some (.ref aa),o7,none]):=⟨_,fun _ _ _=>ql_⟩;refine⟨_,.inl (SqL.of (S78 _ _ fW)),?_⟩;rw[er.1];refine⟨by lia,by lia,by lia,by lia,?_⟩;rw[show ((R.length:Int)-1).toNat=R.length-1 by lia];refine forR Pv ((aw _ _ _).mpr ⟨ad,s,wv,x,0,none,hA,by rw[eL];exact hW,eL,em,S78,nQ,.inr ⟨by rw[hR];exact kX,go.nd93,aU⟩,rfl⟩) (fun i σ9 H9 hi h9=>?_) (fun σ9 H9 h9=>?_)
   ·obtain⟨aX,bP,bX,x1,d,o7,dQ,gU,bZ,fG,S9,nn,jh,rfl⟩:=(aw _ _ _).mp h9;have og:i+1<R.length:=by lia
    obtain⟨r,hr⟩:∃r,R[i+1]?=some r:=⟨R[i+1],by simp[og]⟩;have lP:R.drop (i+1)=r::R.drop (i+2):=by
     rw[oY og];rw[je_ og]at hr;cases hr;rfl
    rw[lP]at jh;rcases jh with z|⟨st,c9,ld⟩
    ·cases z
    generalize bC:R.drop (i+2)=rest at st lP;obtain⟨tr,yr,fI⟩:=er.2 (i+1) r hr;have nT:Cls41 bP.L hm hw cl ds:=by rw[bZ];exact kc
    obtain⟨bW,bd',bE,b0⟩:=ld.bound nT;have dR:bP.es.length<=134:=by
     obtain⟨M,hM⟩:∃M,M=min ds.length (bP.most+1):=⟨_,rfl⟩;rw[<-hM]at bE;have M4:M<=4:=by lia
     have h9:(1+M*bP.L)*M<=(1+4*6)*4:=j3_ (zp_ (j3_ M4 s!"") 1) M4;lia
    nofun;refine⟨_,SqL.of (S9 _ _ fW),V.ref tr,DE s!"" (by rw[show ((1:Int)+(i:Nat)).toNat=i+1 by lia];exact yr),?_⟩;refine⟨aa,h,aX,bP,bX,x1,hm,hw,d,rfl,dQ,gU,ld,by lia,fun m ws e=>?_,by rw[bZ];exact hh.mono (my.trans S9),c9,fun c e l H5 s5 cM ji=>?_,fun c e l aS H5 ef y bK bz bw bL f2 k2 cM ji=>?_,fun m ws e bc l H5 bK bw bL f2 cM ji=>?_,fun m ws w e br cU bg aY l aS H5 ef y bK bz bw bL f2 k2 cM ji=>?_⟩
    ·subst e;have:=ld.ok.2.2.2.2.1.ml;lia
    ·subst e;cases st;have av:R.length<=i+2:=List.drop_eq_nil_iff.mp bC;have S5:=S9.trans s5;obtain⟨gv1,rv1,zs1,ys1,us1,A1⟩:=id dQ;refine⟨tr,rfl,l,rfl,true,TM (SqL.of (S5 _ _ fI)) (SqL.of ji) 7,?_⟩;rw[if_neg (by decide)];refine⟨_,.inl (SqL.of (S5 _ _ fW)),?_⟩;rw[er.1,if_neg s!""];exact (aw _ _ _).mpr ⟨aX,bP,bX,.spent c,d,_,⟨_,_,_,_,_,A1.same s5⟩,gU.mono (TK.of s5),bZ,fG,S5,nn,.inl bC,rfl⟩
    ·subst e;cases st with
     |ask hc fQ cG=>
      obtain⟨rfl,rfl⟩:=Goes.det fQ bz;obtain⟨cB,dv,d9,ed⟩:=ld.ask bz;have S5:=nn.same fF S9 f2;refine⟨tr,rfl,l,rfl,true,TM (SqL.of (S5 _ _ fI)) (SqL.of ji) 7,?_⟩;rw[if_neg (by decide)];refine⟨_,.inl (SqL.of (S5 _ _ fW)),?_⟩;rw[er.1];by_cases ay:(1:Int)+(i:Nat)<(R.length:Int)-1
      ·rw[if_pos ay];refine⟨_,SqL.of (S5 _ _ fW),V.ref tr,DE s!"" (by rw[show ((1:Int)+(i:Nat)).toNat=i+1 by lia];exact yr),tr,rfl,_,SqL.of (S5 _ _ fI),_,rfl,by lia,fun p hp=>⟨_,.inl (SqL.of Ab),rfl,rfl,?_⟩⟩;rw[if_neg (show ¬ inV (V.str (Str.ofString "ask")) [V.str (Str.ofString "agree"),V.str (Str.ofString "spent")]=true by decide +kernel)];obtain⟨fj,fk,gN,gO,gP,A2⟩:=id bw;have sp:=Same.new hp (o:=.lst [V.str (Str.ofString "agree"),V.str (Str.ofString "spent")]);exact (aw _ _ _).mpr ⟨aS,_,bK,_,d,_,⟨_,_,_,_,_,A2.same sp⟩,bL.mono (TK.of sp),d9.trans bZ,ed.trans fG,S5.trans sp,nn.next S9 k2,.inr ⟨by rw[show R.drop (i+1+1)=_ from bC];exact cG,bz.nd93,cB⟩,rfl⟩
      ·rw[if_neg ay];exact (aw _ _ _).mpr ⟨aS,_,bK,_,d,_,bw,bL,d9.trans bZ,ed.trans fG,S5,nn.next S9 k2,.inr ⟨by rw[show R.drop (i+1+1)=_ from bC];exact cG,bz.nd93,cB⟩,rfl⟩
    ·subst e;cases st with
     |obj gD jk _ _ _=>exact absurd jk (bc _ (by rw[bZ];exact gD))
     |agree _=>
      have av:R.length<=i+2:=List.drop_eq_nil_iff.mp bC;have S5:=nn.same fF S9 f2;refine⟨tr,rfl,l,rfl,true,TM (SqL.of (S5 _ _ fI)) (SqL.of ji) 7,?_⟩;rw[if_neg (by decide)];refine⟨_,.inl (SqL.of (S5 _ _ fW)),?_⟩;rw[er.1,if_neg s!""];exact (aw _ _ _).mpr ⟨aX,bP,bK,.done m ws,d,_,bw,bL,bZ,fG,S5,nn,.inl bC,rfl⟩
    ·subst e;cases st with
     |agree bc=>exact absurd cU (bc _ (by rw[<-bZ];exact br))
     |@obj _ s3' _ w1 _ y3 _ gD jk hle1 fQ cG=>
      have hwdL:isW (L:Int) w=true:=by rw[<-bZ];exact br
      have ew:w=w1:=Q0 (L:=(L:Int)) s!"" hwdL gD (Int.le_antisymm (by
       have:=bg w1 (by rw[bZ];exact gD) jk;rw[bZ]at this;exact this) (hle1 w hwdL cU))
      subst ew;obtain⟨rfl,rfl⟩:=Goes.det fQ bz;have aA:Ax m (Al ws w)≠Ax hm (Al hw w):=fun z=>cU z.symm;obtain⟨cB,dv,d9,ed⟩:=ld.obj br aY aA bz;have S5:=nn.same fF S9 f2;refine⟨tr,rfl,l,rfl,true,TM (SqL.of (S5 _ _ fI)) (SqL.of ji) 7,?_⟩;rw[if_neg (by decide)];refine⟨_,.inl (SqL.of (S5 _ _ fW)),?_⟩;rw[er.1];by_cases ay:(1:Int)+(i:Nat)<(R.length:Int)-1
      ·rw[if_pos ay];refine⟨_,SqL.of (S5 _ _ fW),V.ref tr,DE s!"" (by rw[show ((1:Int)+(i:Nat)).toNat=i+1 by lia];exact yr),tr,rfl,_,SqL.of (S5 _ _ fI),_,rfl,by lia,fun p hp=>⟨_,.inl (SqL.of Ab),rfl,rfl,?_⟩⟩;rw[if_neg (show ¬ inV (V.str (Str.ofString "object")) [V.str (Str.ofString "agree"),V.str (Str.ofString "spent")]=true by decide +kernel)];obtain⟨fj,fk,gN,gO,gP,A2⟩:=id bw;have sp:=Same.new hp (o:=.lst [V.str (Str.ofString "agree"),V.str (Str.ofString "spent")]);exact (aw _ _ _).mpr ⟨aS,_,bK,_,d+1,_,⟨_,_,_,_,_,A2.same sp⟩,bL.mono (TK.of sp),d9.trans bZ,ed.trans fG,S5.trans sp,nn.next S9 k2,.inr ⟨by rw[show R.drop (i+1+1)=_ from bC];exact cG,bz.nd93,cB⟩,rfl⟩
      ·rw[if_neg ay];exact (aw _ _ _).mpr ⟨aS,_,bK,_,d+1,_,bw,bL,d9.trans bZ,ed.trans fG,S5,nn.next S9 k2,.inr ⟨by rw[show R.drop (i+1+1)=_ from bC];exact cG,bz.nd93,cB⟩,rfl⟩
   ·obtain⟨aX,bP,bX,x1,d,o7,dQ,gU,bZ,fG,S9,nn,jh,rfl⟩:=(aw _ _ _).mp h9;nofun;refine Es ?_;nofun;obtain⟨Pd,eV⟩:∃Pc:Nat->List V->St->Hp->Prop,∀j ys fH H5,Pc j ys fH H5↔(H5=H9/\ys.length=(R.take j).countP J8/\∃o,fH=[o]):=⟨_,fun _ _ _ _=>ql_⟩;have oh:=S9 _ _ fW;refine⟨⟨_,SqL.of oh⟩,JV (xs:=ys) Pd ((eV _ _ _ _).mpr ⟨rfl,rfl,none,rfl⟩) (by rw[er.1];lia) (fun j zs fH H5 hj h5=>?_) (fun j y zs fH H5 hy h5=>?_) (fun zs fH H5 h5 D2 dD=>?_)⟩
    ·obtain⟨rfl,jl,_⟩:=(eV _ _ _ _).mp h5;refine⟨SqL.of oh,?_⟩;rw[jl];exact j1_ List.countP_le_length (by rw[jI_];lia)
    ·obtain⟨rfl,jl,o,rfl⟩:=(eV _ _ _ _).mp h5;have hj:j<R.length:=by rw[<-er.1];exact (ja_.mp hy).1
     have hr:R[j]?=some R[j]:=by simp[hj]
     obtain⟨tr,yr,fI⟩:=er.2 j _ hr;rw[hy]at yr;cases yr;have hc:=mx _ (jc_ hr);generalize R[j]=r at hr fI hc;obtain⟨q,qs,rfl⟩:∃q qs,r=q::qs:=by
      cases r with
      |nil=>exact absurd rfl hc.1
      |cons q qs=>exact⟨q,qs,rfl⟩
     nofun;refine⟨_,SqL.of (S9 _ _ fI),V.str q,DE (qB_ 0) rfl,rfl,?_⟩;by_cases hq:q=Str.ofString "ask"
     ·rw[if_pos (by rw[hq])];refine (eV _ _ _ _).mpr ⟨rfl,?_,_,rfl⟩;rw[jf_,jl,jA_,hr,xF_]
      congr 1
      show 1=[q::qs].countP J8;rw[q8_,if_pos (show J8 (q::qs)=true from jR_ hq)]
     ·rw[if_neg (fun z=>hq (V.str.inj z))];refine (eV _ _ _ _).mpr ⟨rfl,?_,_,rfl⟩;rw[jl,jA_,hr,xF_];show _=_ + [q::qs].countP J8;rw[q8_,if_neg (show ¬ J8 (q::qs)=true from fun z=>hq (qW_ z)),Nat.add_zero]
    ·obtain⟨rfl,jl,o,rfl⟩:=(eV _ _ _ _).mp h5;rw[er.1,jE_]at jl;nofun;have sZ:=Same.new dD (o:=.lst zs);refine⟨_,.inl (SqL.of Ab),?_⟩;rw[jl];have hcR:R.countP J8=rows.countP J8:=by
      rw[hR,pA,if_neg (show ¬ J8 [Str.ofString "sitting",nt L,nt mo]=true from by show ¬ decide (Str.ofString "sitting"=Str.ofString "ask")=true;decide +kernel)];rfl
     rw[hcR];refine Es ?_;nofun;have fg:(if (mo:Int)+1<(ds.length:Int) then (mo:Int)+1 else (ds.length:Int))=((min ds.length (mo+1):Nat):Int):=by split<;>lia
     obtain⟨y0,o0⟩:=WOk.okx93 aU.ok;have W1:1<=s.W.length:=(ja_.mp o0.tb.w0).1;have b1:=(aU.bound (show Cls41 s.L hm hw cl ds by rw[eL];exact kc)).1;have SZ:=(my.trans S9).trans sZ;refine⟨_,SZ.seqT q1,_,rfl,?_⟩;rw[fg];obtain⟨M,hM⟩:∃M,M=min ds.length (mo+1):=⟨_,rfl⟩;rw[<-hM]at jg ⊢;obtain⟨PP,hPP⟩:∃P,P=(1+M*L)*M:=⟨_,rfl⟩;have bJ:(1+(M:Int)*(L:Int))*(M:Int)=(PP:Int):=by rw[hPP];simp
     rw[<-hPP,xe_]at jg;refine⟨M,L,rfl,by lia,by lia,by lia,by lia,_,rfl,?_⟩;rw[bJ,if_neg s!""];refine Es ?_;nofun;obtain⟨rl,dh,dv⟩:=sumL;have hlast:R[R.length-1]?=some rl:=by
      rw[<-List.getLast?_eq_getElem?,hR,xG_ (kX.ne go.nd93)];exact dh
     obtain⟨tr,yr,fI⟩:=er.2 _ _ hlast;have hc:=mx _ (jc_ hlast);obtain⟨q,qs,rfl⟩:∃q qs,rl=q::qs:=by
      cases rl with
      |nil=>exact absurd rfl hc.1
      |cons q qs=>exact⟨q,qs,rfl⟩
     have hq:q=if ds.length<=mo then Str.ofString "agree" else Str.ofString "spent" := dv
     refine⟨_,SqL.of (sZ _ _ oh),V.ref tr,MF (by rw[er.1];exact yr),tr,rfl,_,SqL.of (sZ _ _ (S9 _ _ fI)),V.str q,DE (qB_ 0) rfl,by lia,fun p hp=>.inr ⟨_,SqL.of Ab,V.str q,?_,rfl,?_⟩⟩
     ·by_cases bg:ds.length<=mo
      ·rw[if_pos (show (ds.length:Int)<=(mo:Int) by lia),hq,if_pos bg];rfl
      ·rw[if_neg (show ¬ (ds.length:Int)<=(mo:Int) by lia),hq,if_neg bg];rfl
     ·rw[jR_ rfl];exact k _
end
def all_mk {l:pK}{w:World}{K:α3}{h:Heap}{mg:Str->α5}{fa Hw Oe JE TN Hx Qi DZ Of TQ BB Im Io D0 EJ Mb GK FL Mc Cg FN GL Ip Ci BK Md BC CT EK FO Hy Cj FP EL Me FQ Og Iq Ir JF Wi Oh GN Iu JG GO Lk JH Oi BV FT JI FU Jr Ck FV BD D1 Ll Cm JJ Oj DJ JK Wj Lm Ol GP FW Ln GQ Iv DK EX Mf EY Zo:Addr}(X:K.In h)(G:h.Ns mainGlobals mg)(hfa:mg "law"=some (.ref fa))
  {aV aQ aW bh bT bH ar cy cz ao:Addr}
  {JL Mg Iw Qj JN Om FX Mh Qk Cs GR GS FY GU Lo FZ EZ Lp Dt Iy F0 GX Du CL Lq Ct Eh GY Iz JO Dv IA GZ Lr E1 Mi G0 G1 IB TR Mj F1 G2 IC F2 JQ ID Ml CV IE IF IG Ls Dx IH Cu F3 JR B2 II Mm Dy IJ TU JS Mn F4 E2 JT F5 G3 Dz Ei Lu Ej Ql:α6}
  (aC_j1:nsIn K mainGlobals "Book"=some (some (.ref ar)))
  (pg_j1:oG K ar Str.empty=true)
  (hd_j1:oJ K ar=true)
  (po_j1:oM K ar=true)
  (sa_j1:ot K (.ref ar) "__setattr__"=some (some (.builtin "object.__setattr__")))
  (n_letters_Book:ot K (.ref ar) "letters"=some none)
  (n_marks_Book:ot K (.ref ar) "marks"=some none)
  (aC_ja:nsIn K mainGlobals "Turns"=some (some (.ref cy)))
  (aC_jd:nsIn K mainGlobals "Hunt"=some (some (.ref cz)))
  (aC_j0:nsIn K mainGlobals "Asker"=some (some (.ref ao)))
  (pg_j0:oG K ao Str.empty=true)
  (hd_j0:oJ K ao=true)
  (po_j0:oM K ao=true)
  (sa_j0:ot K (.ref ao) "__setattr__"=some (some (.builtin "object.__setattr__")))
  (n_book_Asker:ot K (.ref ao) "book"=some none)
  (n_ends_Asker:ot K (.ref ao) "ends"=some none)
  (n_gaps_Asker:ot K (.ref ao) "gaps"=some none)
  (n_guess_Asker:ot K (.ref ao) "guess"=some none)
  (n_letters_Asker:ot K (.ref ao) "letters"=some none)
  (n_most_Asker:ot K (.ref ao) "most"=some none)
  (n_ways_Asker:ot K (.ref ao) "ways"=some none)
  (n_wish_Asker:ot K (.ref ao) "wish"=some none)
  (n_wrong_Asker:ot K (.ref ao) "wrong"=some none)
  {tk_jg:Tok}
  (q_jg:nsIn K mainGlobals "EMPTY"=some (some (.str "." tk_jg)))
  {tk_je:Tok}
  (q_je:nsIn K mainGlobals "FIGURES"=some (some (.str "0123456789" tk_je)))
  {tk_j9:Tok}
  (q_j9:nsIn K mainGlobals "MOST_FIGURES"=some (some (.int 10 tk_j9)))
  {tk_j8:Tok}
  (q_j8:nsIn K mainGlobals "MOST_LETTERS"=some (some (.int 6 tk_j8)))
  {tk_jc:Tok}
  (q_jc:nsIn K mainGlobals "MOST_MARK"=some (some (.int 1000000000 tk_jc)))
  {tk_jb:Tok}
  (q_jb:nsIn K mainGlobals "MOST_ROOMS"=some (some (.int 40 tk_jb)))
  {tk_jf:Tok}
  (q_jf:nsIn K mainGlobals "SIGNS"=some (some (.str "abcdef" tk_jf)))
  (J0:HG K "__init__" "Book.__init__" Ha Hw JL (Mk K ar Hw))
  (j1:HF K "is_word" KO Oe Mg)
  (j2:HF K "check_word" Fe JE Iw)
  (j3:HF K "trail" OM TN Qj)
  (J4:HG K "told" "Book.told" Hb Hx JN (Meth K ar "told" Hx))
  (j5:HF K "halved" MR Qi Om)
  (J6:HG K "ask_for" "Hunt.ask_for" DO DZ FX (Meth K ao "ask_for" DZ))
  (j7:HF K "rows_of" KQ Of Mh)
  (j8:HF K "cells" ON TQ Qk)
  (J9:HG K "look_for_gaps" "Asker.look_for_gaps" Bx BB Cs (Meth K ao "look_for_gaps" BB))
  (j10:HF K "room_behind" Eu Im GR)
  (j11:HF K "mark_behind" Ew Io GS)
  (J12:HG K "answer" "Asker.answer" DQ D0 FY (Meth K ao "answer" D0))
  (J13:HG K "halve" "Asker.halve" Ex EJ GU (Meth K ao "halve" EJ))
  (j14:HF K "marks_of" IW Mb Lo)
  (j15:HF K "marks_by_row" DR GK FZ)
  (j16:HF K "ways_by_marks" Di FL EZ)
  (j17:HF K "guess_of" IX Mc Lp)
  (J18:HG K "make_guess" "Asker.make_guess" B6 Cg Dt (Meth K ao "make_guess" Cg))
  (J19:HG K "heard" "Book.heard" Ff FN Iy (Meth K ar "heard" FN))
  (j20:HF K "first_unlike" DS GL F0)
  (j21:HF K "first_wrong" Ey Ip GX)
  (J22:HG K "wrong_word" "Asker.wrong_word" B7 Ci Du (Meth K ao "wrong_word" Ci))
  (J23:HG K "look_at_guess" "Hunt.look_at_guess" BJ BK CL (Meth K ao "look_at_guess" BK))
  (j24:HF K "stranger" IY Md Lq)
  (J25:HG K "look_at_words" "Asker.look_at_words" By BC Ct (Meth K ao "look_at_words" BC))
  (J26:HG K "next_wish" "Hunt.next_wish" CN CT Eh (Meth K ao "next_wish" CT))
  (J27:HG K "go_on" "Turns.go_on" EA EK GY (Meth K ao "go_on" EK))
  (J28:HG K "__init__" "Turns.__init__" Fh FO Iz (CMeth K cy "__init__" FO))
  (J29:HG K "__init__" "Hunt.__init__" Hf Hy JO (CMeth K cz "__init__" Hy))
  (J30:HG K "first_ends" "Asker.first_ends" B8 Cj Dv (Meth K ao "first_ends" Cj))
  (J31:HG K "__init__" "Asker.__init__" Fi FP IA (Mk K ao FP))
  (J32:HG K "wants" "Turns.wants" EB EL GZ (Meth K ao "wants" EL))
  (j33:HF K "row_text" I0 Me Lr)
  (j34:HF K "check_letters" Dk FQ E1)
  (j35:HF K "is_mark" KS Og Mi)
  (j36:HF K "check_marks" EC Iq G0)
  (j37:HF K "check_rooms" ED Ir G1)
  (j38:HF K "check_ways" Fj JF IB)
  (j39:HF K "made" SH Wi TR)
  (j40:HF K "rows_in" KU Oh Mj)
  (j41:HF K "parts_behind" DT GN F1)
  (j42:HF K "read_number" EF Iu G2)
  (j43:HF K "read_count" Fm JG IC)
  (j44:HF K "read_letters" DU GO F2)
  (j45:HF K "read_room" Hh Lk JQ)
  (j46:HF K "read_house" Fo JH ID)
  (j47:HF K "goes_on" KY Oi Ml)
  (J48:HG K "check_wants" "Turns.check_wants" BQ BV CV (Meth K ao "check_wants" BV))
  (J49:HG K "agree" "Hunt.agree" Fp FT IE (Meth K ao "agree" FT))
  (j50:HF K "check_mark" Fq JI IF)
  (J51:HG K "check" "Book.check" Fs FU IG (Meth K ar "check" FU))
  (J52:HG K "put" "Book.put" Ja Jr Ls (Meth K ar "put" Jr))
  (J53:HG K "keep_answer" "Hunt.keep_answer" B9 Ck Dx (Meth K ao "keep_answer" Ck))
  (J54:HG K "hear" "Asker.hear" Ft FV IH (Meth K ao "hear" FV))
  (J55:HG K "keep_objection" "Hunt.keep_objection" Bz BD Cu (Meth K ao "keep_objection" BD))
  (J56:HG K "differ" "Asker.differ" DV D1 F3 (Meth K ao "differ" D1))
  (j57:HF K "word_text" Hj Ll JR)
  (j58:HF K "check_as_many_letters" Bm Cm B2)
  (j59:HF K "steps_from" Fu JJ II)
  (j60:HF K "word_to" K0 Oj Mm)
  (j61:HF K "least_word_apart" Cb DJ Dy)
  (j62:HF K "difference" Fv JK IJ)
  (j63:HF K "deed" SI Wj TU)
  (j64:HF K "last_rows" Hk Lm JS)
  (j65:HF K "sitting" K1 Ol Mn)
  (j66:HF K "_law_cell_at" DW GP F4)
  (j67:HF K "_law_house_by" Dm FW E2)
  (j68:HF K "_law_text" Hl Ln JT)
  (j69:HF K "_law_classes" DX GQ F5)
  (j70:HF K "_law_answer" EG Iv G3)
  (j71:HF K "_law_first_apart" Cc DK Dz)
  (j72:HF K "_law_word_text" CP EX Ei)
  (j73:HF K "_law_due" Jc Mf Lu)
  (j74:HF K "_law_most_asks" CQ EY Ej)
  (j75:HF K "law" W9 Zo Ql)
  (z_all:nsIn K mainGlobals "all"=some none)
  (z_enumerate:nsIn K mainGlobals "enumerate"=some none)
  (z_int:nsIn K mainGlobals "int"=some none)
  (z_isinstance:nsIn K mainGlobals "isinstance"=some none)
  (z_len:nsIn K mainGlobals "len"=some none)
  (z_list:nsIn K mainGlobals "list"=some none)
  (z_min:nsIn K mainGlobals "min"=some none)
  (z_range:nsIn K mainGlobals "range"=some none)
  (z_reversed:nsIn K mainGlobals "reversed"=some none)
  (z_set:nsIn K mainGlobals "set"=some none)
  (z_str:nsIn K mainGlobals "str"=some none)
  (z_tuple:nsIn K mainGlobals "tuple"=some none)
  (m_j5:nsIn K mainGlobals "BadHouse"=some (some (.ref aV)))
  (m_j6:nsIn K mainGlobals "BadWord"=some (some (.ref aQ)))
  (m_j7:nsIn K mainGlobals "BadMark"=some (some (.ref aW)))
  (m_j4:nsIn K mainGlobals "OutOfTurn"=some (some (.ref bh)))
  (m_j3:nsIn K mainGlobals "NoDifference"=some (some (.ref bT)))
  (m_j2:nsIn K mainGlobals "Contradiction"=some (some (.ref bH)))
  (x_j5:oC K aV bmV "ValueError.__new__"=true)
  (x_j6:oC K aQ bmV "ValueError.__new__"=true)
  (x_j7:oC K aW bmV "ValueError.__new__"=true)
  (x_j4:oC K bh bmV "ValueError.__new__"=true)
  (x_j3:oC K bT bmV "ValueError.__new__"=true)
  (x_j2:oC K bH bmV "ValueError.__new__"=true)
  : ∃fd:α6,(∀(s:Shared) (v:Value),BindsTo s fd ⟨[v],[]⟩ [("script",v)])/\∀base:Heap,K.In base->base.Ns mainGlobals mg->FnOk l.prog w K mg base CX0 17 fa fd ["script"] (U7 K):=by
 have e:=hfa.symm.trans (jn_ X G j75.a);cases e;exact⟨Ql,j75.b fun _ _ _ _ _ _ _=>rfl,fun base _ _=>(Ze (P:=l.prog) (w:=w) (base:=base) (fA:=fun i=>[Hw,Oe,JE,TN,Hx,Qi,DZ,Of,TQ,BB,Im,Io,D0,EJ,Mb,GK,FL,Mc,Cg,FN,GL,Ip,Ci,BK,Md,BC,CT,EK,FO,Hy,Cj,FP,EL,Me,FQ,Og,Iq,Ir,JF,Wi,Oh,GN,Iu,JG,GO,Lk,JH,Oi,BV,FT,JI,FU,Jr,Ck,FV,BD,D1,Ll,Cm,JJ,Oj,DJ,JK,Wj,Lm,Ol,GP,FW,Ln,GQ,Iv,DK,EX,Mf,EY,fa].getD i fa) (fD:=fun i=>[JL,Mg,Iw,Qj,JN,Om,FX,Mh,Qk,Cs,GR,GS,FY,GU,Lo,FZ,EZ,Lp,Dt,Iy,F0,GX,Du,CL,Lq,Ct,Eh,GY,Iz,JO,Dv,IA,GZ,Lr,E1,Mi,G0,G1,IB,TR,Mj,F1,G2,IC,F2,JQ,ID,Ml,CV,IE,IF,IG,Ls,Dx,IH,Cu,F3,JR,B2,II,Mm,Dy,IJ,TU,JS,Mn,F4,E2,JT,F5,G3,Dz,Ei,Lu,Ej,Ql].getD i Ql) ⟨⟨j8_ X G z_all,j8_ X G z_enumerate,j8_ X G z_int,j8_ X G z_isinstance,j8_ X G z_len,j8_ X G z_list,j8_ X G z_min,j8_ X G z_range,j8_ X G z_reversed,j8_ X G z_set,j8_ X G z_str,j8_ X G z_tuple⟩,⟨jn_ X G aC_j1,⟨pg_j1,hd_j1,po_j1,sa_j1⟩,n_letters_Book,n_marks_Book,jn_ X G aC_ja,jn_ X G aC_jd,jn_ X G aC_j0,⟨pg_j0,hd_j0,po_j0,sa_j0⟩,n_book_Asker,n_ends_Asker,n_gaps_Asker,n_guess_Asker,n_letters_Asker,n_most_Asker,n_ways_Asker,n_wish_Asker,n_wrong_Asker,⟨_,jn_ X G q_jg⟩,⟨_,jn_ X G q_je⟩,⟨_,jn_ X G q_j9⟩,⟨_,jn_ X G q_j8⟩,⟨_,jn_ X G q_jc⟩,⟨_,jn_ X G q_jb⟩,⟨_,jn_ X G q_jf⟩⟩,⟨jn_ X G m_j5,jn_ X G m_j6,jn_ X G m_j7,jn_ X G m_j4,jn_ X G m_j3,jn_ X G m_j2,x_j5,x_j6,x_j7,x_j4,x_j3,x_j2⟩,J0,⟨jn_ X G j1.a,j1.F⟩,⟨jn_ X G j2.a,j2.F⟩,⟨jn_ X G j3.a,j3.F⟩,J4,⟨jn_ X G j5.a,j5.F⟩,J6,⟨jn_ X G j7.a,j7.F⟩,⟨jn_ X G j8.a,j8.F⟩,J9,⟨jn_ X G j10.a,j10.F⟩,⟨jn_ X G j11.a,j11.F⟩,J12,J13,⟨jn_ X G j14.a,j14.F⟩,⟨jn_ X G j15.a,j15.F⟩,⟨jn_ X G j16.a,j16.F⟩,⟨jn_ X G j17.a,j17.F⟩,J18,J19,⟨jn_ X G j20.a,j20.F⟩,⟨jn_ X G j21.a,j21.F⟩,J22,J23,⟨jn_ X G j24.a,j24.F⟩,J25,J26,J27,J28,J29,J30,J31,J32,⟨jn_ X G j33.a,j33.F⟩,⟨jn_ X G j34.a,j34.F⟩,⟨jn_ X G j35.a,j35.F⟩,⟨jn_ X G j36.a,j36.F⟩,⟨jn_ X G j37.a,j37.F⟩,⟨jn_ X G j38.a,j38.F⟩,⟨jn_ X G j39.a,j39.F⟩,⟨jn_ X G j40.a,j40.F⟩,⟨jn_ X G j41.a,j41.F⟩,⟨jn_ X G j42.a,j42.F⟩,⟨jn_ X G j43.a,j43.F⟩,⟨jn_ X G j44.a,j44.F⟩,⟨jn_ X G j45.a,j45.F⟩,⟨jn_ X G j46.a,j46.F⟩,⟨jn_ X G j47.a,j47.F⟩,J48,J49,⟨jn_ X G j50.a,j50.F⟩,J51,J52,J53,J54,J55,J56,⟨jn_ X G j57.a,j57.F⟩,⟨jn_ X G j58.a,j58.F⟩,⟨jn_ X G j59.a,j59.F⟩,⟨jn_ X G j60.a,j60.F⟩,⟨jn_ X G j61.a,j61.F⟩,⟨jn_ X G j62.a,j62.F⟩,⟨jn_ X G j63.a,j63.F⟩,⟨jn_ X G j64.a,j64.F⟩,⟨jn_ X G j65.a,j65.F⟩,⟨jn_ X G j66.a,j66.F⟩,⟨jn_ X G j67.a,j67.F⟩,⟨jn_ X G j68.a,j68.F⟩,⟨jn_ X G j69.a,j69.F⟩,⟨jn_ X G j70.a,j70.F⟩,⟨jn_ X G j71.a,j71.F⟩,⟨jn_ X G j72.a,j72.F⟩,⟨jn_ X G j73.a,j73.F⟩,⟨jn_ X G j74.a,j74.F⟩,⟨jn_ X G j75.a,j75.F⟩⟩).g⟩
def walk {l:pK}{q:Program}{cj:List Str}{XP:(Str->α5)->Heap->Prop}{YP:World->Heap->Prop}{d:DefRec}{K:Params->α3}(hn:l.most=some 63)(jW:d.params.defaults=[])
  (hY:∀(w:World) (h:Heap),YP w h->(K w.params).In h)
  (F:∀(w:World) (mg:Str->α5) (fa:Addr) (h:Heap),(K w.params).In h->h.Ns mainGlobals mg->mg d.name=some (.ref fa) ->
   ∃fd:α6,(∀(s:Shared) (u:Value),BindsTo s fd ⟨[u],[]⟩ [("script",u)])/\∀base:Heap,(K w.params).In base->base.Ns mainGlobals mg->FnOk l.prog w (K w.params) mg base CX0 17 fa fd ["script"] (U7 (K w.params))):
  rM q cj XP YP l.row.toRowW d [] (fun f vs=>qS f vs):=
 L2.walk_of (n:=63) (k:=17) (x := "script") (CX:=fun _=>CX0) (sp:=fun w=>U7 (K w.params)) hn (by decide) jW ⟨rfl,by decide,by decide⟩ hY F (fun _ _ a ns hl _ hS=>⟨a,ns,rfl,hS,hl,fun _=>rfl⟩) fun _ _ _ _ _ z=>z
end Mine
structure PySem.W.Fast:Prop where (tw11729989817183690748 tw4327386242872347025 tw6977439476286546789 tw6147910318030708738 tw1522108259576206217 tw11398351073116122181 tw4236207276143733693 tw596416254679090280 tw6004024083873083078 tw16845427672734604249 tw15403692466159458704 tw14728786974215286100 tw2255593175725362597 tw12012933242740373297 tw1728741988614801485 tw336538099579722151 tw711843765496744292 tw6624453266425713483 tw5744881639192789906 tw7502541985837872176 tw13750535478792781209 tw14005710754274564019 tw5594700053406686278 tw6787763075722233352 tw4769082403057721453 tw14892674120355939103 tw10865472617080346288 tw1693400549056271766 tw15524745840251110599 tw2120046505300277540 tw4163075160404625790 tw5257371728456089197 tw8155346499791985055 tw17033699620005204922 tw313002756992520634 tw5157750692190454133 tw2575762640042659254 tw12503540582772950130 tw7656290982306340564 tw14150824390888979843 tw18191034159453151643 tw7986417573319001760 tw11036873791452365365 tw12792677830518215472 tw15449697147876504255 tw17761519078010421572 tw18014925668941500585 tw4465895137683016595 tw13735071345542342596 tw11985106687237021751 tw3761773103277965448 tw12123131035108789208 tw13787420831447783120 tw11892323576890696474 tw12083145330664085188 tw16475008387821978041 tw7244948890686532380 tw12249115653132617516 tw12030981215822238703 tw7609172576988597062 tw11065532831458042754 tw4723475882802834994 tw11319461923186156056 tw4283286170828568011 tw13974457091435369360 tw6859521930087283249 tw6154456311289360462 tw15464825345174725565 tw923078372978716165 tw17949752513618294735 tw5209101310147816156 tw10757391665765404779 tw5401789266938401693 tw15643090079658637124 tw12958057832007356324 tw5920407934374680801 tw2911452941330198170 tw1811466030009252042 tw11584264251063644697 tw3145566479809386955 tw3843769869074043648 tw11811178599406622765 tw16301590944476787474 tw16671739582430945736 tw6912884264603386005 tw12730423781921744167 tw5220082523814841321 tw2136865054330729464 tw11806452408494611876 tw348219110465407872 tw12962033327471196786 tw2356405162713587561 tw9410489609473310537 tw10351200664314359940 tw12946223805130228441 tw12738980969665152236 tw14489977844568154047 tw9558314241972077724 tw16574062578514910280 tw10788149005709392103 tw17770678222337324419 tw12384483152101400943 tw16304282334391400716 tw15199576546441963631 tw9061185431564590848 tw8547797672017247833 tw7889604237426740719 tw6150458062371952751 tw17689951708994915740 tw11987844319549112329 tw4041959674128277991 tw16164548178578362773 tw17835068236396429036 tw3102750197319693307 tw2890358328785591609 tw8862341984373419464 tw4294173400592618741 tw3805659624866165345 tw16465808697826074315 tw8280307271807553883 tw243142540951781498 tw15666571695155294794 tw12827865851991430860 tw17695260226230221878 tw13405077532327600774 tw548851557121821317 tw1878944103376718852 tw17167188013852540690 tw14623670024827255876 tw9952542274576183845 tw8080541282817696390 tw3239230908831590651 tw14125640208138832788 tw8660429057933288224 tw14108887673467333172 tw11300525200138479210 tw13030971433270873701 tw16806621453012509577 tw17512414454466439856 tw6758699974037910299 tw7407759056145920580 tw10961551078707736056 tw15671721004135553339 tw12245158189417606846 tw15478331047030615739 tw9533783020319354869 tw6467614617750856250 tw17075897790253114473 tw10929355184246916837 tw13161472886319302648 tw8651462984530263009 tw10992338698578747215 tw13734756669956713183 tw5277848836011844325 tw5402942576716942755 tw6486668403288061177 tw7826435979810530597 tw15564316242658796967 tw274051429127010728 tw13383277114447901795 tw16707064833385428493 tw841214186497646915 tw748504040632250899 tw13941887304316177974 tw6021666145801032305 tw15141096326696972132 tw5585894289387636000 tw2542872158081225902 tw3640180667233440923 tw11696401170297214892 tw15784860220789888812 tw4694363891179799107 tw15863127097293366276 tw17936120061407356457 tw13878491653725542541 tw6633433105825775416 tw324702997504625829 tw9017948497365982188 tw12724333844424116537 tw5884136746896708106 tw7586901192484491246 tw15645204672511006142 tw2933528285105635164 tw16663155222828247418 tw13874032995524538032 tw2045584384973163013 tw8865868751900420179 tw10432497899636300645 tw5765500513520695160 tw12824078062812798742 tw13240745249778014423 tw14217694520108813894 tw7806919098604595213 tw7328929110977451640 tw13712183989198425368 tw9754147922424186848 tw10891640418334937621 tw925419993066112410 tw8373616041978940309 tw9884734941361608029 tw9280033302731117107 tw12250103052136115894 tw16805013910104665860 tw1853380314294430895 tw15483529227703153115 tw10680107196048255549 tw259642236150839961 tw6152847330245396823 tw5364727728304365453 tw14210255977001100060 tw9844865660290804102 tw11030586913643490507 tw9451586431513667913 tw12462473126702260303 tw14013249248795007720 tw14937912151736574190 tw6603203272965828900 tw8428249462865401125 tw14523134105107690274 tw4619122306319233615 tw558853791571859530 tw5832141337902587736 tw11025653900233937265 tw16940624168728173181 tw4661045575745718472 tw14643045202521330956 tw14427211495525437369 tw5327400623603102401 tw4695372738680690186 tw4233487003366979980 tw10949422993837879437 tw14368808182640655574 tw16857482890725457907 tw11739394984757227909 tw11768649491146434158 tw6008530292120291422 tw2192988845042557009 tw7997102494257167590 tw18162399879281747742 tw3136066059951820447 tw6050754005325950169 tw18434499938802369184 tw10857853927138005083 tw11515722714078771015 tw5188326218406090572 tw3749716586946300732 tw8687136203906196340 tw9116636319113516722 tw7913543432987278049 tw1279355274924929960 tw17630620202167229350 tw3795911290702918170 tw8389098786717133684 tw2398651518616355599 tw14622479070449195785 tw8719363432006818913 tw13791838879470360752 tw2267514357968113377 tw1508269038854752300 tw6237657086618478477 tw9847438094405026411 tw6292464006807063506 tw3796751829677238532 tw16907640963724342580 tw4741179389998276641 tw2891477452816231890 tw3542576865910683438 tw14508353687106285801 tw15115807229465663112 tw16111190441268586252 tw14118636417789618414 tw4261971490797108545 tw4959070846972733899 tw15287796352906716329 tw18303531540860336925 tw8358072674145552723 tw12125743836986352410 tw7370308361507231794 tw11445763582383849077 tw17159629915603611110 tw6192550487596626790 tw3412379074838845962 tw2393368144775662971 tw6536132828860344381 tw9460277912962796211 tw6291669480761970665 tw17099990722246615460 tw8629094154817716043 tw14325906392226785264 tw11463950272667434612 tw12507248470848970084 tw14804879784356154677 tw8731451032570835821 tw5118986446299121831 tw13434583865920116795 tw17578492731146585102 tw571171607312346148 tw31464856295349443 tw10979651944203660498 tw11472236413122822911 tw3528503381732855433 tw8369777754258066543 tw18426342983371615238 tw564114038302743626 tw55070664181125068 tw1046344509610973835 tw7605992111270086587 tw13160639198482009619 tw5717529916009135837 tw3235525398260711779 tw16134371009737094377 tw17606981361866727513 tw9290081351583571517 tw13462172435803860370 tw6190724022134450716 tw15892505226889266631 tw11578594649704845087 tw17754104630215532479 tw363851040752321573 tw316258717358440547 tw14295733815574518035 tw10313819737972076107 tw4307982271174034704 tw16966754699725368561 tw7526426132294788727 tw4285474431676258989 tw17071061282155974840 tw11466647012177600283 tw340152384498202958 tw8156345095748141630 tw17626894340553690875 tw16783349105289773564 tw2925797669452818407 tw3801999389085995716 tw7309885507204580255 tw7602874175286657231 tw15964909744729819023 tw2807515714211681412 tw10692472806598811914 tw10388961026150872944 tw9602530638348973096 tw697746485442477017 tw7985569519468804979 tw17732008350263537877 tw7730665612835614274 tw14099417962472700422 tw77989358196211379 tw13099203632691333307 tw5574246686865159107 tw5131283338550654743 tw10025708981666139185 tw14108523795767224714 tw16621437143150538555 tw17766680120844106196 tw8799680911930256054 tw3667626679306113078 tw889778311317084026 tw4733353029832014392 tw6149396028854058768 tw15754467527827797644 tw13645096135953385055 tw16269123231848431859 tw1244694020616931468 tw12061094618614282941 tw3805741984876613649 tw15224197536834075188 tw4261718060598871797 tw702799349246023816 tw11290642806756365808 tw16366027550870257980 tw12008648000685201430 tw3343499053797077936 tw5542501258188464534 tw17924059591010936809 tw4303920632465117841 tw7976045218570539422 tw4683516180053284875 tw6967171306601354021 tw14361682855198615498 tw12507913915263188787 tw4306555318466906073 tw4404529391221237409 tw17824574038061365866 tw16323872259194775178 tw1554300082164527346 tw2974543395870303287 tw5173629253977017543 tw5547862314279736791 tw8595493396616480700 tw11367774729374431277 tw11955817875097241761 tw7865744019128430089 tw16830544950508690157 tw10403583250707466930 tw2475687090467517127 tw3252549284985505639 tw13869603445350386968 tw17428161911411830131 tw3366116685727375986 tw1477152092002471550 tw1710196813230564878 tw4379307955492992305 tw11987618914163520045 tw9673757202028725363 tw565353995307706094 tw2923712523579979084 tw9424269267932982372 tw13071162581966906394 tw3879712420244773246 tw4756703058023533387 tw9741244214129662696 tw14661382245326417474 tw13748775231282966526 tw926268068778492845 tw11970479855024620951 tw9120915091348838777 tw12575627173598342598 tw16360707010857258272 tw13936621832848794653 tw11221420398019566433 tw6146174120413363467 tw14792100015882318683 tw17668392130277676351 tw4254869858942179609 tw15976539621952788735 tw15462370038153842229 tw3071112674889849447 tw13771178324094930674 tw11858403240818380188 tw2889751805616900548 tw6623975747497092223 tw16597521571804923769 tw11452579037662377010 tw11177786742484145151 tw979016027457014979 tw1157192816863732905 tw13493277896750926331 tw9468607183656455615 tw11583576633094312180 tw14283148654873765850 tw16396695908404357147 tw426661503481103228 tw2778116715129334793 tw146391152872604475 tw6266020964708017295 tw7878758082161208328 tw2557134821313195628 tw6575487277210700914 tw17217731330406857997 tw14610606916620910908 tw11174956121738593843 tw209406060195031773 tw11598667231078894955 tw14043654619382725143 tw13062322467812206847 tw3406818780957899363 tw7205982951032042028 tw13902703204437472388 tw14914686666689146187 tw1512784291134381163 tw15556738348094033214 tw9995794026975256083 tw7972315028599469673 tw10718902374453475504 tw13701161411639246276 tw5000064559643590243 tw13690274372850701914 tw2500465180432885082 tw8140616354992605433 tw3396765056244426239 tw5348855950903492467 tw5724856702726899261 tw616085476260729503 tw16145745270259266498 tw16951379560839190869 tw14983419648547919204 tw10997549020829130689 tw17809544378101923045 tw11087357365605956760 tw13866523651860176291 tw8045336818946330212 tw5677026213550511310 tw9330906245501817218 tw17222370688402192202 tw5438514152626601793 tw10978817462123228651 tw16541524032686755150 tw8791870897297604809 tw6666088181445350451 tw10784805987409046822 tw12869369293047832618 tw7789052738537741768 tw17175611869118571479 tw2578171951283737303 tw12798782717171151200 tw7518129318459334666 tw4329574881666924093 tw6055578717748554528 tw7750205977722488713 tw13481876589352347471 tw12581810839710666213 tw9052686828499297066 tw15902522593723346458 tw5630161957013184173 tw768451563170574177 tw15293855405346764282 tw6859282143728623718 tw15720237393146402279 tw5998623520961754890 tw2170695931942861102 tw8180324780503196878 tw3964203944511676589 tw3563790060118790990 tw11074403471035909700 tw15511698980582454734 tw6098663247395789801 tw17825900492578201612 tw5076211529903612807 tw11258613790818946958 tw1266997671174109497 tw1619277605544234069 tw3269169079973393885 tw14957032378722899924 tw5762859157031821575 tw1356374628587627686 tw7437821324661360868 tw12162358838905764937 tw16978983136255749825 tw9906229727594569585 tw14832156648255987449 tw9261080377147447477 tw13070808876667185111 tw9744192081716446167 tw3159942463522426963 tw514439590594858588 tw13542192253145929934 tw7307475890177928971 tw14302422473891674556 tw17822264336746529588 tw3029961739666985679 tw15672946029476765791 tw2921438438295494889 tw3894868312103836930 tw12551873329549624950 tw7038932653704318686 tw14828408425398210667 tw13433661651648734236 tw7419681213172034824 tw7543305242087213776 tw1425679413596156667 tw4886251672496777705 tw8846969065915428729 tw15713490632075004101 tw17699071096670009717 tw5776798239512967558 tw269657500416241401 tw17434365614128824953 tw2356919959933235842 tw6441724638941878098 tw191990013191720842 tw17483011994604545432 tw18385333086117584722 tw6405667277047182587 tw3723261230800703783 tw16984800973981649029 tw9971455696749356892 tw15453544074600518310 tw477216344056037813 tw12799340781143575041 tw6178536172629547489 tw13838440878162537574 tw14373751341363369273 tw15799610076494280316 tw434720413051417043 tw14039194250327345200 tw12990572497832312007 tw845762113855960328 tw4446381759136383013 tw1182913955779615342 tw11382608741541855794 tw9117528844821152584 tw16245138586715821386 tw14144770863973515301 tw7027539419634795676 tw1116518436318437352 tw17760014794462133232 tw5682445026865617209 tw16808015566458844394 tw6011753818784181045 tw10141474200979467705 tw6263516554490101023 tw1755330405094145485 tw4684385171087065103 tw1624022454910635481 tw10290301152399609375 tw79948649995411864 tw13562998227817627721 tw7275953680923733645 tw2252155194011429518 tw4781285537169002076 tw14159243251283180403 tw3534618808167005999 tw1749958854281216795 tw5692085636521547446 tw15184346284732162888 tw11065858679076804736 tw11814481142899892290 tw696563865403772151 tw10810720388955308397 tw4907978748570858585 tw1917783144462430899 tw7003543647598295886 tw16542400501245961531 tw3266296706618370388 tw11554968488338126810 tw2220449889252596252 tw10552287444264865493 tw12830252870457631202 tw9574891525304755755 tw13342391014838135100 tw8268449693050331018 tw5713598891957274848 tw3553259006499672805 tw68949075583153797 tw16025865131608427046 tw3014441825181620272 tw9694669992946593278 tw12262489969155186095 tw3198631094798229081 tw5793271543189390813 tw5016970895684551258 tw2847839495598272212 tw13255967711362367776 tw13680288419990834212 tw2345284451279913361 tw14934744938405686929 tw3687336798254074564 tw9088196481211359017 tw5540886956744683051 tw9465874377658094177 tw8163701951303620980 tw16400163090994571067 tw11570678475581443452 tw8248727301448179593 tw6547706715632184222 tw2360643476200354439 tw7045640890950728186 tw6508694082545918649 tw17400012340977218116 tw9285881297350473297 tw17914368239806056983 tw14301972698629368851 tw14015193937499902155 tw3111714795050251601 tw15066955466276785135 tw8585275171899759991 tw4208446153273928852 tw16014346401139351794 tw16195784679897695278 tw8235754692292340261 tw4196761745205891275 tw16101312560114509252 tw9297905192837532093 tw2652980952203161537 tw15213621239046578916 tw3724902221336917346 tw8085746411152263512 tw16617480259022921254 tw15189710269407516261 tw17788222270424606746 tw5471083660161229855 tw2779360575503207475 tw6221829821015787134 tw17853216501249544018 tw3060619493081530902 tw4303112501940190024 tw12400957962533995332 tw15032576425414606822 tw9933835631259902013 tw16931899295038700930 tw10781440330993110641 tw2250886056613480071 tw10580645353915979625 tw13089830475756742251 tw4713525232274387378 tw15286356445028213857 tw11644904937650018910 tw16142088260640137253 tw12362363416757019792 tw17953071729617576049 tw17096924489253906183 tw17217681521219037790 tw6449078753092223495 tw13803969630247779284 tw16239768747401008656 tw780526123683744652 tw2468981650854708714 tw17095820119792971027 tw4256370354224030620 tw13603216518662810829 tw5049264264255387680 tw13088030354610019938 tw9410818087672322028 tw9623064636204515759 tw2135573659592486316 tw13566969583106859466 tw6245763046900566367 tw11800920442642226422 tw9473309954518492272 tw5221993347507179322 tw6213461455601306927 tw9976865813507077370 tw12081223867097284789 tw11260953879986895322 tw12270294526485761581 tw17078556536528331587 tw8713629486614721493 tw283773453644684976 tw1275914768720524436 tw2533981184230312652 tw11571124199774597172 tw6124854882873766381 tw12555742264683498382 tw10093173114890655076 tw10269156815847164527 tw11640784696474052925 tw178666546163532096 tw3093306565590898712 tw7188552893443169285 tw9627475045853928598 tw8293919467085854242 tw11605216569205602205 tw7233731370185845431 tw10872576133774166075 tw1968244562059061461 tw18237507241079143820 tw16142516328313949392 tw10187411142891710596 tw1372144062564713780 tw9023877928809535546 tw13621693146323286168 tw5752507028278877850 tw1030765193091233724 tw18066105080910870376 tw9882385828172760759 tw8179256021231438154 tw4958589075509583906 tw12916789257676936523 tw15098431009499450982 tw17488903638406967152 tw10937469355579443050 tw2965322341630608069 tw1399139608955629830 tw11379488455089602079 tw10176308268187703252 tw8335531540774102271 tw3411620034162660741 tw9277992254273828000 tw10196206131442552108 tw16712485531473856656 tw12411033850425402466 tw10001067276074651742 tw10620611938626121005 tw793046912878623702 tw5228163559732489255 tw5081550951277413782 tw13206128926016985085:True)
open PySem PySem.W PyProof.Rows
set_option maxRecDepth 100000 in
set_option maxHeartbeats 0 in
theorem PySem.Challenge.cw_guessroom_k93_logs_written_holds : PySem.Challenge.rw_guessroom_k93_logs_written.Holds := by
  w_on; o_law; k_head; (case hw => w_witness2)
  k_fill
  refine Mine.walk (l := PySem.Challenge.rw_guessroom_k93_logs_written) rfl rfl (fun w h Y => PySem.W.kIn_of Y) ?F
  case F =>
    intro w mg fa h KX G hmg
    refine' Mine.all_mk KX G hmg ?aC_j1 ?pg_j1 ?hd_j1 ?po_j1 ?sa_j1 ?n_letters_Book ?n_marks_Book ?aC_ja ?aC_jd ?aC_j0 ?pg_j0 ?hd_j0 ?po_j0 ?sa_j0 ?n_book_Asker ?n_ends_Asker ?n_gaps_Asker ?n_guess_Asker ?n_letters_Asker ?n_most_Asker ?n_ways_Asker ?n_wish_Asker ?n_wrong_Asker ?q_jg ?q_je ?q_j9 ?q_j8 ?q_jc ?q_jb ?q_jf ?J0 ?j1 ?j2 ?j3 ?J4 ?j5 ?J6 ?j7 ?j8 ?J9 ?j10 ?j11 ?J12 ?J13 ?j14 ?j15 ?j16 ?j17 ?J18 ?J19 ?j20 ?j21 ?J22 ?J23 ?j24 ?J25 ?J26 ?J27 ?J28 ?J29 ?J30 ?J31 ?J32 ?j33 ?j34 ?j35 ?j36 ?j37 ?j38 ?j39 ?j40 ?j41 ?j42 ?j43 ?j44 ?j45 ?j46 ?j47 ?J48 ?J49 ?j50 ?J51 ?J52 ?J53 ?J54 ?J55 ?J56 ?j57 ?j58 ?j59 ?j60 ?j61 ?j62 ?j63 ?j64 ?j65 ?j66 ?j67 ?j68 ?j69 ?j70 ?j71 ?j72 ?j73 ?j74 ?j75 ?z_all ?z_enumerate ?z_int ?z_isinstance ?z_len ?z_list ?z_min ?z_range ?z_reversed ?z_set ?z_str ?z_tuple ?m_j5 ?m_j6 ?m_j7 ?m_j4 ?m_j3 ?m_j2 ?x_j5 ?x_j6 ?x_j7 ?x_j4 ?x_j3 ?x_j2
    (case aC_j1|aC_ja|aC_jd|aC_j0|m_j5|m_j6|m_j7|m_j4|m_j3|m_j2|pg_j1|hd_j1|po_j1|sa_j1|n_letters_Book|n_marks_Book|pg_j0|hd_j0|po_j0|sa_j0|n_book_Asker|n_ends_Asker|n_gaps_Asker|n_guess_Asker|n_letters_Asker|n_most_Asker|n_ways_Asker|n_wish_Asker|n_wrong_Asker|q_jg|q_je|q_j9|q_j8|q_jc|q_jb|q_jf|z_all|z_enumerate|z_int|z_isinstance|z_len|z_list|z_min|z_range|z_reversed|z_set|z_str|z_tuple=>k_is)
    (case x_j5|x_j6|x_j7|x_j4|x_j3|x_j2=>k_exc)
    (case J0|J4|J6|J9|J12|J13|J18|J19|J22|J23|J25|J26|J27|J28|J29|J30|J31|J32|J48|J49|J51|J52|J53|J54|J55|J56 => constructor; (constructor <;> k_is); apply L2.fun_mk <;> k_is)
    (case j1|j2|j3|j5|j7|j8|j10|j11|j14|j15|j16|j17|j20|j21|j24|j33|j34|j35|j36|j37|j38|j39|j40|j41|j42|j43|j44|j45|j46|j47 => constructor; k_is; apply L2.fun_mk <;> k_is)
    (case j50|j57|j58|j59|j60|j61|j62|j63|j64|j65|j66|j67|j68|j69|j70|j71|j72|j73|j74|j75 => constructor; k_is; apply L2.fun_mk <;> k_is)
