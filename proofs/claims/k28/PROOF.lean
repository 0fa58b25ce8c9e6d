import PyProof.Rows.All
import Wide.All
import OpenK.AllK
import Wide.FinOn
import Lean
import PyProof.EqAt
import PyProof.EqKinds
import PyProof.TupleCall
import KE.KRevIter
import PyProof.ListRange
import PyProof.TupleOfGen
import PyProof.Draws
import PyProof.EnumMake
import PyProof.EnumFor
import PyProof.NeKinds
import KE.KDictList
import PyProof.Rows.TupDisplay
import PyProof.ZipIter
import PyProof.Rows.ZipGen
import KE.KItemsList
import PyProof.Rows.SumAny
import PyProof.StrWalks
import PyProof.StrCalls
import PyProof.StrCalls3
import PyProof.StrLawsFirst
import PyProof.StrLawsIn
import PyProof.SliceStr2
import PyProof.StrBlockI
import PyProof.Rows.StrWeight2
import PyProof.ListNew
import PyProof.DictRoadsH
import PyProof.WalkInts
import PyProof.Rows.MinMaxN
import KE.KDictLaws
import PyProof.StrCalls2
import PyProof.StrLawsChain
import KE.KIntText
import KE.KxText
import KE.KMinKey
import KE.KPairComp
import PyProof.MaxThree
import PyProof.DictValues
import OpenK.KCls
import PyProof.Rows.SortShellK
import KE.KSortTup
import KE.KLam
import KE.KNestM
import PySem.Challenge.RW_guessroom_k28_whole_suites_decide
set_option compiler.extract_closed false
local macro_rules | `(s!$_) => `(by lia)
namespace Al
abbrev jC_:=@congrArg
abbrev j4_:=@decide_eq_true
abbrev j9_:=@decide_eq_false
abbrev ql_:=@decide_eq_true_eq
abbrev qv_:=@of_decide_eq_true
abbrev xb_:=@if_false
abbrev xv_:=@of_decide_eq_false
abbrev zs_:=@if_true
abbrev zF_:=@beq_eq_false_iff_ne
abbrev z1_:=@beq_iff_eq
abbrev α0:=List (List (List Int))
abbrev α1:=List (List Int)
abbrev α2:=List Int
abbrev α5:=Option PySem.Value
abbrev α7:=List (PySem.Addr×PySem.Obj)
abbrev jJ_:=@PySem.PassesOwn.never
abbrev j1_:=@Classical.byContradiction
abbrev qk_:=@Iff.rfl
abbrev qn_:=@Ne.symm
abbrev xG_:=@List.cons.injEq
abbrev x5_:=@PySem.IsL.update
abbrev za_:=@PySem.Heap.SameBut.update
abbrev zd_:=@PySem.AutoSeq1.wpAny_loadPart'
abbrev ze_:=@List.Pairwise.imp_of_mem
abbrev z6_:=@Prod.ext
end Al
open Al
open List renaming length_map->ja_,getElem?_eq_some_iff->jb_,mem_of_getElem?->jc_,getElem?_append_left->jd_,getElem?_map->je_,getElem?_eq_getElem->jh_,getD_eq_getElem?_getD->jj_,length_append->jk_,mem_cons_of_mem->jl_,getElem?_append_right->jm_,mem_cons_self->jn_,size_toArray->jp_,mem_singleton->jq_,mem_map->jt_,mem_append->jw_,length_take->jx_,mem_append_right->jy_,mem_cons->jB_,mem_range->jF_,mem_iff_getElem?->jG_,getElem_of_mem->jO_,take_length->jP_,take_add_one->jQ_,length_singleton->jR_,map_append->jS_,length_cons->jT_,map_map->jU_,getElem?_eq_none->jV_,take_of_length_le->jW_,map_cons->jZ_,mem_append_left->j2_,getElem_mem->j3_,lookup_cons->j7_,append_assoc->qc_,length_range->qd_,append_nil->qg_,length_nil->qi_,replicate_succ->qj_,map_congr_left->qr_,foldl_append->qu_,length_replicate->qx_,length_pos_of_mem->qB_,drop_eq_nil_of_le->qC_,nodup_cons->qD_,getElem?_range->qE_,idxOf_lt_length_of_mem->qG_,ext_getElem?->qK_,getElem?_set_self->qM_,length_set->qO_,getElem?_zip_eq_some->qQ_,all_eq_true->qR_,length_erase_of_mem->qV_,foldl_cons->qY_,getElem_idxOf->qZ_,reverse_reverse->q0_,pairwise_append->q1_,mem_reverse->q3_,reverse_append->q5_,mem_map_of_mem->q6_,mem_of_find?_eq_some->q7_,drop_eq_getElem_cons->q8_,take_append_drop->q9_,pairwise_reverse->xa_,length_drop->xc_,getElem?_set_ne->xf_,mem_erase_of_ne->xg_,mem_of_mem_take->xh_,pairwise_map->xj_,mem_filter->xk_,find?_cons->xl_,find?_eq_none->xt_,getElem?_eq_none_iff->xw_,pairwise_iff_getElem->xx_,of_mem_zip->xz_,getElem?_take_of_lt->xA_,flatten_cons->xC_,idxOf_lt_length_iff->xH_,length_reverse->xJ_,getElem_inj->xL_,any_eq_true->xM_,map_nil->xQ_,nil_append->xR_,range_succ->xT_,length_filter_le->xU_,nodup_append->xX_,mem_iff_getElem->x1_,mem_or_eq_of_mem_set->x4_,cons_append->x7_,not_mem_nil->x8_,getElem?_replicate->zf_,getElem?_cons_zero->zj_,set_cons_zero->zl_,map_replicate->zm_,length_filter_eq_length_iff->zn_,reverse_replicate->zq_,nodup_range->zz_,mem_flatMap->zA_,any_cons->zD_,filterMap_cons->zG_,forIn_cons->zK_,idxOf_cons->zM_,length_pos_iff->zN_,length_zip->zO_,find?_some->zP_,toList_toArray->zQ_,zip_cons_cons->zR_,map_inj_right->zU_,forIn_nil->zW_,take_zero->zY_,idxOf_append->z2_,getElem_drop->z3_,replicate->qU,range->qV,length->rm,take_append_of_le_length->rA,drop_append_of_le_length->rB,eq_of_mem_replicate->rK,pairwise_singleton->rN,foldl->rQ,find?_cons_of_neg->rY,perm_append_comm->sj,set_append_right->su,nodup_nil->sJ,flatMap_append->sP,take_succ_cons->sQ,map_take->sR,zip_nil_right->sZ,any_eq_false->tD,take_sublist->tF,map_set->tJ,reverse_cons->tM,getElem?_map->tN,getElem_take->tO,reverse_perm->tR,zipIdx_cons->tZ,map_fst_zip->ua,drop_length->ud,length_tail->ue,countP_cons->ug,drop_take->uz,take_take->uA,drop_zero->uD,all_cons->va,all_map->vp,drop->we
open PySem renaming wpAny_bind->jf_,wpAny_pure->ju_,boot_len->jI_,mem_of_lookup->qh_,wpAny_loadPart'->qt_,wpAny_callSpecial?_slot->qJ_,wpAny_mono->qN_,wpAny_newObj_type->qT_,wpAny_holding->qX_,wpAny_typeNameOfWhole_keyiter->xd_,wpAny_call_entry->xn_,wpAny_Call_Name_kw->xq_,wpAny_passesOwn->xy_,call_meets->xD_,wpAny_typeNameOf_keyiter->xE_,wpAny_attempt->xI_,wpAny_pyIter_tuple->xO_,wpAny_setField_rec->xP_,wpAny_truthy_bool->xV_,wpAny_comprehension_free->zc_,tupleKind_room_in1->zi_,wpAny_pyIter_list->zr_,wpAny_dictEntries->zu_,wpAny_isOneOf_keyiter->zw_,wpAny_execs_nil->zH_,sizeLine_eq->zI_,list_append->z0_,FuncData->α6,seqSlot_of->tW,call->ux,Within->vj,Fin->wg
open Nat renaming le_refl->jg_,lt_of_lt_of_le->jz_,ne_of_lt->jL_,zero_le->jX_,lt_irrefl->j8_,sub_self->qb_,le_trans->qm_,lt_or_ge->qF_,ne_of_gt->qL_,not_lt_zero->qP_,le_of_lt->q2_,lt_succ_of_lt->xi_,le_add_right->xo_,lt_of_sub_eq_succ->xu_,le_of_succ_le->xF_,not_lt->xY_,lt_succ_self->x6_,zero_add->zx_,lt_of_le_of_lt->zS_,le_succ->z4_,le_of_eq->rV,le_antisymm->sf,mul_le_mul_right->sL,mul_comm->tG,min_self->tI,add_zero->tL,lt_trichotomy->tS,le_of_not_lt->tV,not_lt_of_le->tY,succ_le_succ->t9,strongRecOn->uo,succ_mul->vn,add_comm->vo,le_total->vv
open Int renaming toNat_natCast->ji_,mul_le_mul_of_nonneg_right->j0_,emod_lt_of_pos->j5_,emod_nonneg->qo_,le_of_lt->xr_,toNat_of_nonneg->xK_,le_refl->xS_,mul_nonneg->x3_,add_mul->zL_,lt_of_lt_of_le->zT_,zero_add->zV_,add_mul_ediv_right->rS,ediv_eq_zero_of_lt->rT,mul_le_mul->uE,le_trans->vq,add_comm->vt
open PySem.Heap renaming get?_push_of_some->jo_,lt_size->js_,get?_push_size->jH_,get?_update_other->qa_,size_push->qz_,get?_update_self->qU_
open Option.some renaming inj->jr_,injEq->zt_
open Bool renaming false_ne_true->jv_,false_eq_true->jY_,and_eq_true->qe_,eq_iff_iff->qy_,not_false->zX_,not_true->z5_,not_eq_true'->tQ,or_eq_true->uj,false_and->uv,true_and->vc
open PyProof.Rows renaming wpS_bind->jA_,boot_tuple->jE_,wpS_pure->jK_,callWith_type1->qf_,wpS_forRange->qI_,boot_list->xm_,slot_tuple_getitem->xB_,wpS_mono->xZ_,KK_mirror_equal->zk_,wpS_modify->zE_,boot_max->sG,callWith_builtin1->tU,boot_isinstance->ur,tuple_addW0->vd,boot_bool->vw,boot_all->vA,boot_min->vB,KeyKind->vF,lt_int->vJ,setArr->vK
open PySem.F renaming plainAttrs_list->jD_,slot_list_append->jM_,type_list_append->jN_,slot_dict_keyiterator_next->qW_,plain_extend_loop->x9_,args_tuple_add_2->zb_,entry_tuple_add->zg_,slot_tuple_add->zo_,slot_dict_get->zv_,slot_tuple_mul->zy_,args_list_append_2->zC_,slot_int_rmul->zJ_,slot_dict_setdefault->rC,args_dict_get_2->rL,plainAttrs_dict->rM,slot_list_index->rO,type_list_index->rP,entry_dict_get->rR,args_dict_setdefault_3->ub,entry_dict_setdefault->ui,type_dict_setdefault->uk,slot_list_extend->vg,type_list_extend->vh,args_tuple_lt_2->vi,entry_tuple_lt->vm,slot_tuple_lt->vx,type_dict_get->vy
open Array renaming length_toList->j6_,getElem?_eq_getElem->qA_,toList_append->qS_,getElem?_eq_some_iff->q4_,getElem?_toList->xs_,perm_iff_toList_perm->x0_,toList_reverse->x2_,toList_append->rp,getElem?_eq_none_iff->rE,toList_setIfInBounds->rF,getElem_extract->sx,toList_push->tP,toList->vk,ext'->vR
open Option renaming toList_some->qp_,isSome_some->zh_,none->rJ,map_eq_none_iff->rW,isSome_none->tq,isSome_map->tH,getD_some->uf,map_some->uq
open PySem.W renaming mg_none_of->qq_,kia_one->qs_,cellsFrom_some->xN_,kitx_list->zZ_,Frag->α3,CodeHd->q9,tabIn->rj,tabObj->rl,kla_obj->rD,methodObj->rG,instObj->rZ,OpenLaw->si,lookIn->sI,mg_of->sS,kitx_tuple->sY,kitx_dict->tE,plainGet->tT,kdl_call->tX,kat_cons->uc,kat_yes->um,kla_makeFunctionHit->uu,findIn->uw,kat_go->uB,kat_no->uC,WalkO->ve,kla_makeFunction->vf,kdl_hint_dict->vz,hideAll_size->vC,hideAll_none->vE,kla_callFunE->vG,kla_codeExpr->vH,hideAll_get->vI,codeHd_of_K->vL,of_hideAll->vM,kitx_float->vN,callWith_K->vO,codeRec_of->vP,ki_setBack->vQ,hasDictIn->vS,plainOver->vT,specialIn->vU,kitx_none->vV,kitx_bool->vW,kdx_alive->vX,eq_bytes->vZ,ne_bytes->v3,kitx_int->v5,kitx_str->v7,kitx_own->v8,ki_setAt->v9,kdl_dict->wa,kat_kind->wk,kla_eval->wm,codeHdIn->wq,hideAll->wz,takesIn->wA,kat_nil->wB,kat_one->wC,KatTups->wD,InstAt->wF,KdlSrc->wG,kat_lt->wH,kla_fn->wI,mroIn->wJ
open PyProof.Rows.KeyOrd renaming kle_of_klt->qw_,kle_refl->qH_,kle_trans->xe_
open PySem.Calls renaming spliced_cons->xp_,spliced_nil->xW_,callWith_builtin->zp_,evalArgs_plain->zB_
open True renaming intro->qW
open Sum renaming inl->qX,inr->sO
open Or renaming inl->qY,inr->rh
open ForInStep renaming yield->qZ,done->uy
open False renaming elim->rg
open Classical renaming propDecidable->rq,not_forall->sN
open List.Pairwise renaming nil->rH,sublist->sk,map->tK,imp->vY
open List.Perm renaming append_right->rX,append_left->sr
open Prod.mk renaming inj->uh,injEq->vb
open PySem.EqNone renaming eq_none_none->uF,eq_none_bool->uG,eq_bool_none->uH,ne_none_none->uK,ne_none_bool->uL,ne_bool_none->uM,eq_none_int->uP,eq_none_str->uQ,eq_int_none->uR,eq_str_none->uT,ne_none_int->uV,ne_none_str->uW,ne_int_none->uX,ne_str_none->uZ
open PySem.EqMixed renaming eq_bool_str->uI,eq_str_bool->uJ,ne_bool_str->uN,ne_str_bool->uO,eq_int_str->uS,eq_str_int->uU,ne_int_str->uY,ne_str_int->u9
open PySem.W (nsIn keepIn codeIn fnOf kitOne)
set_option Elab.async false
set_option linter.all false
set_option maxRecDepth 100000
namespace L2
open PySem PySem.Spec PyProof.Rows
abbrev Key:=Sum Int Str
def LY:Key->Value->Bool
 |.inl k,v=>Value.isInt k v
 |.inr x,v=>Value.isStrOf x v
def keyH (w:World):Key->Int
 |.inl k=>hashInt k
 |.inr x=>hashStr w x
def Bi:∀{k:Key} {v:Value},LY k v=true->(∃i t,k=qX i/\v=Value.int i t)\/(∃x t,k=sO x/\v=Value.str x t)
 |.inl i,v,h=>by
  obtain⟨t,e⟩:=Value.isInt_shape (k:=i) (v:=v) h
  exact .inl ⟨i,t,rfl,e⟩
 |.inr x,v,h=>by
  obtain⟨t,e⟩:=Value.isStrOf_shape (x:=x) (v:=v) h
  exact .inr ⟨x,t,rfl,e⟩
def OX (i:Int)(t:Tok):LY (.inl i) (.int i t)=true:=by simp[LY,Value.isInt]
def OY (x:Str)(t:Tok):LY (.inr x) (.str x t)=true:=by simp[LY,Value.isStrOf]
def Vz (a b:Int):decide ((qX a:Key)=qX b)=(a==b):=by
 by_cases e:a=b
 ·subst e;simp
 ·have h:¬ (qX a:Key)=qX b:=fun q=>e (Sum.inl.inj q)
  rw[j9_ h]
  exact (zF_.mpr e).symm
def VA (a b:Str):decide ((sO a:Key)=sO b)=decide (a=b):=by
 by_cases e:a=b
 ·subst e;simp
 ·have h:¬ (sO a:Key)=sO b:=fun q=>e (Sum.inr.inj q)
  rw[j9_ h,j9_ e]
def VB (a:Int)(b:Str):decide ((qX a:Key)=sO b)=false:=j9_ (fun q=>nomatch q)
def VC (a:Str)(b:Int):decide ((sO a:Key)=qX b)=false:=j9_ (fun q=>nomatch q)
def Bj (prog:Program)(w:World):PySem.KeyKind prog w Key where
 is:=LY
 hash:=keyH w
 inj:=fun v a b ha hb=>by
  rcases Bi ha with ⟨i,t,rfl,rfl⟩|⟨x,t,rfl,rfl⟩
  ·rcases Bi hb with ⟨j,u,rfl,e⟩|⟨y,u,rfl,e⟩
   ·injection e with e1 _;rw[e1]
   ·exact nomatch e
  ·rcases Bi hb with ⟨j,u,rfl,e⟩|⟨y,u,rfl,e⟩
   ·exact nomatch e
   ·injection e with e1 _;rw[e1]
 byValue:=fun k v h=>by
  rcases Bi h with ⟨i,t,rfl,rfl⟩|⟨x,t,rfl,rfl⟩<;>rfl
 pyHash:=fun hv h=>by
  rcases Bi hv with ⟨i,t,rfl,rfl⟩|⟨x,t,rfl,rfl⟩
  ·exact wpAny_pyHash_int h
  ·exact wpAny_pyHash_str h
 eqBool:=fun hu hv h=>by
  rcases Bi hu with ⟨i,t,rfl,rfl⟩|⟨x,t,rfl,rfl⟩
  ·rcases Bi hv with ⟨j,u,rfl,rfl⟩|⟨y,u,rfl,rfl⟩
   ·rw[Vz]at h;exact wpAny_eqBool_int h
   ·rw[VB]at h;exact SeqAt.EqAt.int_str i t y u _ _ _ _ h
  ·rcases Bi hv with ⟨j,u,rfl,rfl⟩|⟨y,u,rfl,rfl⟩
   ·rw[VC]at h;exact SeqAt.EqAt.str_int x t j u _ _ _ _ h
   ·rw[VA]at h;exact wpAny_eqBool_str h
 «strs» := fun k x t v h=>by
  rcases Bi h with ⟨i,u,rfl,e⟩|⟨y,u,rfl,e⟩
  ·exact nomatch e
  ·injection e with e1 _
   subst e1
   cases v<;>rfl
def LZ (prog:Program)(w:World)(i:Int)(t:Tok):(Bj prog w).is (.inl i) (.int i t)=true:=OX i t
def L3 (prog:Program)(w:World)(x:Str)(t:Tok):(Bj prog w).is (.inr x) (.str x t)=true:=OY x t
inductive V where
 | non|bl (b:Bool)|int (i:Int)|str (x:Str)|byt (b:Array UInt8)|flt (b:UInt64)|ref (a:Addr)|ty (n:String)
 deriving DecidableEq
def RelV:V->Value->Prop
 |.non,u=>u=Value.none
 |.bl b,u=>u=Value.bool b
 |.int i,u=>∃t,u=Value.int i t
 |.str x,u=>∃t,u=Value.str x t
 |.byt b,u=>∃t,u=Value.bytes b t
 |.flt b,u=>∃t,u=Value.float b t
 |.ref a,u=>u=Value.ref a
 |.ty n,u=>u=Value.type n
abbrev Vals:List V->List Value->Prop:=Paired RelV
def Vals.length   (r:Vals xs us):xs.length=us.length:=Paired.length r
def Vals.get:∀{xs:List V} {us:List Value} {i:Nat} {x:V},Vals xs us->xs[i]?=some x->∃u,us[i]?=some u/\RelV x u
 |_,_,_,_,.nil,e=>by simp at e
 |_,_,0,_,.cons r _,e=>by simp at e;subst e;exact⟨_,rfl,r⟩
 |_,_,i+1,x,.cons _ t,e=>by
  obtain⟨u,h1,h2⟩:=Vals.get (i:=i) (x:=x) t (by simpa using e)
  exact⟨u,by simpa using h1,h2⟩
def Vals.set {x:V}{u:Value}(r:RelV x u):∀{xs:List V} {us:List Value} (i:Nat),Vals xs us->Vals (xs.set i x) (us.set i u)
 |_,_,_,.nil=>.nil
 |_,_,0,.cons _ t=>.cons r t
 |_,_,i+1,.cons q t=>.cons q (Vals.set r i t)
def Vals.append:∀{xs ys:List V} {us ws:List Value},Vals xs us->Vals ys ws->Vals (xs++ys) (us++ws)
 |_,_,_,_,.nil,s=>s
 |_,_,_,_,.cons r t,s=>.cons r (Vals.append t s)
def Vals.take:∀{xs:List V} {us:List Value} (n:Nat),Vals xs us->Vals (xs.take n) (us.take n)
 |_,_,0,_=>.nil
 |_,_,_+1,.nil=>.nil
 |_,_,n+1,.cons r t=>.cons r (Vals.take n t)
def Vals.drop:∀{xs:List V} {us:List Value} (n:Nat),Vals xs us->Vals (xs.drop n) (us.drop n)
 |_,_,0,r=>r
 |_,_,_+1,.nil=>.nil
 |_,_,n+1,.cons _ t=>Vals.drop n t
def RelO:Option V->α5->Prop
 |some v,some u=>RelV v u
 |none,none=>True
 |_,_=>False
def KV {κ:Type}:List (κ×V)->List (κ×Value)->Prop:=Paired fun (p:κ×V) (q:κ×Value)=>p.1=q.1/\RelV p.2 q.2
def kV:Key->V
 |.inl i=>.int i
 |.inr x=>.str x
inductive HO where
 | lst (xs:List V)
 | tup (xs:List V)
 | dK (kvs:List (Key×V))|dT (kvs:List (List Key×V))
 | set (S:Int->Bool) (n:Nat)
 | ins (C dx:Addr) (fs:List (Str×V))
 | own (x:Addr)
 | xd (fs:List (Str×V))
 | met (f x:Addr)
 | rng (lo hi:Int)
 | frz (o:Obj) (u:HO)
 | tbl (ps:Array Value)
 | ext (φ:Heap->Prop)
abbrev Hp:=Addr->Option HO
def upd (H:Hp)(a:Addr)(o:HO):Hp:=fun b=>if b=a then some o else H b
def Ab    : upd H a o a=some o:=by unfold upd;rw[if_pos rfl]
def Ah    (h:b≠a):upd H a o b=H b:=by unfold upd;rw[if_neg h]
def Ur {H:Hp}{a b:Addr}{o u:HO}(h:H a=some o)(h':H b=some u)(d:o≠u):a≠b:=by
 intro e;subst e;rw[h]at h';exact d (jr_ h')
def Ap {H:Hp}{a b:Addr}{o:HO}(h:H a=some o)(h':H b=none):a≠b:=by
 intro e;subst e;rw[h]at h';cases h'
section
variable (P:Program) (w:World)
def Bo (H:Hp)(h:Heap)(a:Addr):HO->Prop
 |.lst xs=>xs.length<=sizeLine/\∃(its:List Value) (n:Nat),Vals xs its/\h.get? a=some {cls:=.type "list",data:=.seq its.toArray n}
 |.tup xs=>xs.length<=sizeLine/\∃its:List Value,Vals xs its/\IsTup h a its.toArray
 |.dK kvs=>kvs.length<=sizeLine/\(a==sysModules)=false/\∃vs,KV kvs vs/\h.DictOf (Bj P w) a vs
 |.dT kvs=>kvs.length<=sizeLine/\(a==sysModules)=false/\∃xs:List (List Key×Addr×Value),
   Paired (fun (p:List Key×V) (q:List Key×Addr×Value)=>p.1=q.1/\H q.2.1=some (.tup (p.1.map kV))/\RelV p.2 q.2.2) kvs xs /\
   ∃o es ep,h.get? a=some o/\o.ExactDict/\o.data=.dict es ep/\es.toList=xs.map (entryOfKey (tupleKind (Bj P w)))/\(xs.map (·.1)).Nodup
 |.set S n=>h.SetOf (intKind P w) a S n
 |.ins C dx fs=>H dx=some (.own a)/\fs.length<=1000/\dx≠a/\h.get? a=some (rZ C dx) /\
   ∃mA,h.Ns1 dx mA/\(∀f,RelO (fs.lookup f) (mA f))/\vj mA (fs.map (·.1))
 |.own _=>∃o,h.get? a=some o
 |.xd fs=>∃mA,h.Ns1 a mA/\∀f,RelO (fs.lookup f) (mA f)
 |.rng lo hi=>∃t u v,h.get? a=some {cls:=.type "range",data:=.fields #[.int lo t,.int hi u,.int 1 v]}
 |.frz o u=>h.get? a=some o/\Bo H h a u
 |.tbl ps=>h.get? a=some {cls:=.none,data:=.fields ps}
 |.met f x=>h.get? a=some (rG (.ref f) (.ref x))
 |.ext φ=>φ h/\(∃o,h.get? a=some o)/\∀h1 h2:Heap,φ h1->(∀o,h1.get? a=some o->h2.get? a=some o)->φ h2
def HOk (H:Hp)(h:Heap):Prop:=∀a o,H a=some o->Bo P w H h a o
end
section
variable {P:Program} {w:World} {H H':Hp} {h h':Heap} {a:Addr} {o:HO}
def Bo.lt (x:Bo P w H h a o):a<h.objs.size:=by
 cases o with
 |lst xs=>obtain⟨_,_,_,_,e⟩:=x;exact js_ e
 |tup xs=>obtain⟨_,_,_,p⟩:=x;exact p.lt
 |dK kvs=>obtain⟨_,_,_,_,o,_,_,e,_⟩:=x;exact js_ e
 |dT kvs=>obtain⟨_,_,_,_,o,_,_,e,_⟩:=x;exact js_ e
 |set S n=>obtain⟨o,_,_,_,e,_⟩:=x;exact js_ e
 |ins C dx fs=>obtain⟨_,_,_,e,_⟩:=x;exact js_ e
 |own y=>obtain⟨_,e⟩:=x;exact js_ e
 |xd fs=>obtain⟨_,⟨_,_,_,e,_⟩,_⟩:=x;exact js_ e
 |rng lo hi=>obtain⟨_,_,_,e⟩:=x;exact js_ e
 |frz ob u=>obtain⟨e,_⟩:=x;exact js_ e
 |tbl ps=>exact js_ (show h.get? a=some _ from x)
 |met f y=>exact js_ (show h.get? a=some _ from x)
 |ext φ=>obtain⟨_,⟨_,e⟩,_⟩:=x;exact js_ e
def Paired.mapP {α β:Type}{F G:α->β->Prop}:∀{l₁:List α} {l₂:List β},Paired F l₁ l₂->(∀a b,F a b->G a b)->Paired G l₁ l₂
 |_,_,.nil,_=>.nil
 |_,_,.cons r t,f=>.cons (f _ _ r) (Paired.mapP t f)
def Bo.stay (x:Bo P w H h a o)(k:∀b u,(b=a\/H b=some (.own a))->h.get? b=some u->h'.get? b=some u)
  (ho:∀b,H b=some (.own a)->H' b=some (.own a)) (ht:∀b xs,H b=some (.tup xs)->H' b=some (.tup xs)):Bo P w H' h' a o:=by
 induction o with
 |lst xs=>obtain⟨z,its,n,r,e⟩:=x;exact⟨z,its,n,r,k _ _ (.inl rfl) e⟩
 |tup xs=>obtain⟨z,its,r,ob,e,c⟩:=x;exact⟨z,its,r,ob,k _ _ (.inl rfl) e,c⟩
 |dK kvs=>obtain⟨z,y,vs,r,ob,es,ep,e,c⟩:=x;exact⟨z,y,vs,r,ob,es,ep,k _ _ (.inl rfl) e,c⟩
 |dT kvs=>
  obtain⟨z,y,xs,r,ob,es,ep,e,c⟩:=x
  exact⟨z,y,xs,Paired.mapP r fun p q z=>⟨z.1,ht _ _ z.2.1,z.2.2⟩,ob,es,ep,k _ _ (.inl rfl) e,c⟩
 |set S n=>obtain⟨ob,es,ep,t,e,c⟩:=x;exact⟨ob,es,ep,t,k _ _ (.inl rfl) e,c⟩
 |ins C dx fs=>
  obtain⟨d,z,ne,e,mA,⟨od,es,ep,e2,c⟩,r⟩:=x
  exact⟨ho _ d,z,ne,k _ _ (.inl rfl) e,mA,⟨od,es,ep,k _ _ (.inr d) e2,c⟩,r⟩
 |own y=>obtain⟨ob,e⟩:=x;exact⟨ob,k _ _ (.inl rfl) e⟩
 |xd fs=>obtain⟨mA,⟨od,es,ep,e,c⟩,r⟩:=x;exact⟨mA,⟨od,es,ep,k _ _ (.inl rfl) e,c⟩,r⟩
 |rng lo hi=>obtain⟨t,u,v,e⟩:=x;exact⟨t,u,v,k _ _ (.inl rfl) e⟩
 |frz ob u ih=>obtain⟨e,q⟩:=x;exact⟨k _ _ (.inl rfl) e,ih q⟩
 |tbl ps=>
  have e:h.get? a=some {cls:=.none,data:=.fields ps}:=x
  show h'.get? a=some {cls:=.none,data:=.fields ps}
  exact k a _ (.inl rfl) e
 |met f y=>
  have e:h.get? a=some (rG (.ref f) (.ref y)):=x
  show h'.get? a=some (rG (.ref f) (.ref y))
  exact k a _ (.inl rfl) e
 |ext φ=>obtain⟨p,⟨o,e⟩,st⟩:=x;exact⟨st _ _ p fun o q=>k _ _ (.inl rfl) q,⟨o,k _ _ (.inl rfl) e⟩,st⟩
def HOk.lt (x:HOk P w H h)(e:H a=some o):a<h.objs.size:=(x a o e).lt
def HOk.fresh (x:HOk P w H h)(e:h.objs.size<=a):H a=none:=by
 cases q:H a with
 |none=>rfl
 |some u=>exact absurd (jz_ (x.lt q) e) (j8_ _)
def HOk.kept (x:HOk P w H h)(k:∀b u,h.get? b=some u->h'.get? b=some u):HOk P w H h':=fun a o e=>
 (x a o e).stay (fun b u _ q=>k b u q) (fun _ q=>q) fun _ _ q=>q
def HOk.laid (x:HOk P w H h)(k:∀b u,h.get? b=some u->h'.get? b=some u)(hp:h.objs.size<=a)(new:Bo P w (upd H a o) h' a o):HOk P w (upd H a o) h':=fun b u e=>by
 have hn:=x.fresh hp
 by_cases hb:b=a
 ·subst hb;rw[Ab]at e;cases e;exact new
 ·rw[Ah hb]at e
  exact (x b u e).stay (fun c v _ q=>k c v q) (fun c q=>by rw[Ah (Ap q hn)];exact q) fun c xs q=>by rw[Ah (Ap q hn)];exact q
end
def Rd (H:Hp)(a:Addr)(u:HO):Prop:=H a=some u \/ ∃o,H a=some (.frz o u)
def Rd.ok       (r:Rd H a u)(x:HOk P w H h):Bo P w H h a u:=by
 rcases r with r|⟨o,r⟩
 ·exact x a u r
 ·obtain⟨_,q⟩:=x a _ r
  exact q
def Mut:Option HO->Prop
 |some (.lst _)=>True
 |some (.dK _)=>True
 |some (.dT _)=>True
 |some (.set _ _)=>True
 |some (.ins _ _ _)=>True
 |some (.ext _)=>True
 |_=>False
section
variable {P:Program} {w:World} {H:Hp} {h h':Heap} {x e:Addr} {o':HO}
def HOk.write (ok:HOk P w H h)(mu:Mut (H x))(he:e=x\/H e=some (.own x))(k:∀b u,b≠e->h.get? b=some u->h'.get? b=some u)(i5:∃u,h'.get? e=some u)
  (new:Bo P w (upd H x o') h' x o'):HOk P w (upd H x o') h':=fun b u q=>by
 have nown:∀c y,H c=some (.own y)->c≠x:=fun c y r z=>by subst z;rw[r]at mu;exact mu
 have ntup:∀c xs,H c=some (.tup xs)->c≠x:=fun c xs r z=>by subst z;rw[r]at mu;exact mu
 by_cases hb:b=x
 ·subst hb;rw[Ab]at q;cases q;exact new
 ·rw[Ah hb]at q
  by_cases jq:b=e
  ·have q':H b=some (.own x):=by
    rcases he with z|z
    ·exact absurd (jq.trans z) hb
    ·rw[jq];exact z
   rw[q]at q';cases q'
   obtain⟨v,hv⟩:=i5
   exact⟨v,by rw[jq];exact hv⟩
  ·refine (ok b u q).stay (fun c v hc r=>k c v ?_ r) (fun c r=>by rw[Ah (nown c b r)];exact r) fun c xs r=>by rw[Ah (ntup c xs r)];exact r
   rcases hc with rfl|hc
   ·exact jq
   ·rintro rfl
    rcases he with z|z
    ·exact nown c b hc z
    ·rw[hc]at z;cases z;exact hb rfl
end
structure Un (fs ex:List Addr)(H H':Hp)(h h':Heap):Prop where
 keep:∀b o,h.get? b=some o->H b=none->b∉fs->b∉ex->h'.get? b=some o
 slot:∀b o,h.get? b=some o->H b=none->b∈fs->b∉ex->∃sl,h'.get? b=some {o with slots:=sl}
 free:∀b o,h.get? b=some o->H b=none->b∉ex->H' b=none
 there:∀b o,h.get? b=some o->b∉ex->∃o',h'.get? b=some o'
 tups:∀b xs,H b=some (.tup xs)->H' b=some (.tup xs)
 frzs:∀b o u,H b=some (.frz o u)->H' b=some (.frz o u)
 tbls:∀b ps,H b=some (.tbl ps)->∃more,H' b=some (.tbl (ps++more))
section
variable {fs fs' ex ex':List Addr} {H H1 H2:Hp} {h h1 h2 h':Heap} {a x e:Addr} {o:HO}
def Un.any (u:Un fs ex H H1 h h1)   (q:h.get? b=some ob)(n:H b=none)(hx:b∉ex):∃sl,h1.get? b=some {ob with slots:=sl}:=by
 by_cases hb:b∈fs
 ·exact u.slot b ob q n hb hx
 ·exact⟨ob.slots,u.keep b ob q n hb hx⟩
def Un.kept (k:∀b u,h.get? b=some u->h'.get? b=some u):Un fs ex H H h h' :=
 ⟨fun b ob q _ _ _=>k b ob q,fun b ob q _ _ _=>⟨ob.slots,k b ob q⟩,fun _ _ _ n _=>n,fun b ob q _=>⟨ob,k b ob q⟩,fun _ _ q=>q,fun _ _ _ q=>q,fun _ ps q=>⟨#[],by rw[q];simp⟩⟩
def Un.refl:Un fs ex H H h h:=Un.kept fun _ _ q=>q
def Un.laid (k:∀b u,h.get? b=some u->h'.get? b=some u)(hp:h.objs.size<=a)(hn:H a=none):Un fs ex H (upd H a o) h h' where
 keep:=fun b u q _ _ _=>k b u q
 slot:=fun b u q _ _ _=>⟨u.slots,k b u q⟩
 free:=fun b u q n _=>by rw[Ah (jL_ (jz_ (js_ q) hp))];exact n
 there:=fun b u q _=>⟨u,k b u q⟩
 tups:=fun b xs q=>by rw[Ah (Ap q hn)];exact q
 frzs:=fun b u xs q=>by rw[Ah (Ap q hn)];exact q
 tbls:=fun b ps q=>⟨#[],by rw[Ah (Ap q hn),q];simp⟩
def Un.write (mu:Mut (H x))(he:e=x\/H e=some (.own x))(k:∀b u,b≠e->h.get? b=some u->h'.get? b=some u)(i5:∃u,h'.get? e=some u):Un fs ex H (upd H x o) h h':=by
 have hx:∀b,H b=none->b≠x:=fun b n z=>by subst z;rw[n]at mu;exact mu
 have hb:∀b,H b=none->b≠e:=fun b n z=>by
  subst z
  rcases he with r|r
  ·exact hx b n r
  ·rw[n]at r;cases r
 have hm:∀b u,H b=some u->¬ Mut (some u)->b≠x:=fun b u q nm z=>by subst z;rw[q]at mu;exact nm mu
 refine⟨fun b u q n _ _=>k b u (hb b n) q,fun b u q n _ _=>⟨u.slots,k b u (hb b n) q⟩,fun b u q n _=>by rw[Ah (hx b n)];exact n,fun b u q _=>?_,
  fun b xs q=>by rw[Ah (hm b _ q fun z=>z)];exact q,fun b u xs q=>by rw[Ah (hm b _ q fun z=>z)];exact q,fun b ps q=>⟨#[],by rw[Ah (hm b _ q fun z=>z),q];simp⟩⟩
 by_cases jq:b=e
 ·subst jq;exact i5
 ·exact⟨u,k b u jq q⟩
end
def trk (h:Heap)(H:Hp):List Addr:=(qV h.objs.size).filter fun a=>(H a).isSome
def hidT (h:Heap)(H:Hp):Heap:=wz h (trk h H)
def OZ (h:Heap)(H:Hp):(hidT h H).objs.size=h.objs.size:=vC _ _
def Hg     (e:h.get? b=some o)(n:H b=none):(hidT h H).get? b=some o:=
 vI _ e fun hm=>by
  have q:(H b).isSome=true:=(xk_.mp hm).2
  rw[n]at q;simp at q
def Us     (e:(hidT h H).get? b=some o):h.get? b=some o/\H b=none:=by
 have e':h.get? b=some o:=vM (trk h H) e
 refine⟨e',?_⟩
 cases q:H b with
 |none=>rfl
 |some x=>
  have hm:b∈trk h H:=xk_.mpr ⟨jF_.mpr (js_ e'),by simp[q]⟩
  have z:(hidT h H).get? b=none:=vE (trk h H) hm
  rw[z]at e;cases e
def Ut (g h:Heap)(L:Addr):α7:=(qV h.objs.size).filterMap fun a=>if a=L\/(g.get? a).isSome=true then none else (h.get? a).map fun o=>(a,o)
def rest (g h:Heap)(L d:Addr):α7:=(Ut g h L).filter fun p=>decide (p.1≠d)
end L2
namespace L2
open PySem PySem.Spec PyProof.Rows
structure Mod (K:α3)(mg:Str->α5)(base:Heap):Prop where
 kin:K.In base
 glob:base.Ns mainGlobals mg
 blt:∃mb,base.Ns builtinsNs mb/\∀x:Str,x ≠ "__name__" -> mb x=bootBuiltins x
 nolimit:base.NoLimit
structure Cx where
 prog:Program
 w:World
 K:α3
 mg:Str->α5
 base:Heap
 A:Around
 N:List Str
 s₀:Shared
 H₀:Hp
 env:Env
 outer:List Env
 stack:List Env
 ex:List Addr
 fn:Str->Bool
 calm:Bool
 pn:α7
 xe:Value->Shared->Prop
def frs (l:List Env):List Addr:=l.filterMap (·.frame)
abbrev Cx.fs (X:Cx):List Addr:=frs X.outer
def Vis (sc:Scope)(x:Str):Prop:=sc.names.lookup x=some .local\/sc.names.lookup x=some .cell\/sc.names.lookup x=some .free
def Loc (sc:Scope)(x:Str):Prop:=sc.names.lookup x=some .local\/sc.names.lookup x=some .cell
def Look (env:Env)(h:Heap)(m:Str->α5)(x:Str)(u:Value):Prop:=
 (env.kindOf x=some .local/\m x=some u)\/((env.kindOf x=some .cell\/env.kindOf x=some .free)/\∃c,env.cells.lookup x=some c/\h.IsCell c (some u))
structure Cx.Ok (X:Cx):Prop where
 mod:Mod X.K X.mg X.base
 kind:X.env.scope.kind=.function
 glob:X.env.globals=mainGlobals
 blt:X.env.builtins=builtinsNs
 above:X.s₀.heap.objs.size<=X.env.locals
 inj:∀x y c,X.env.cells.lookup x=some c->X.env.cells.lookup y=some c->x=y
 has:∀x,(X.env.kindOf x=some .cell\/X.env.kindOf x=some .free)->∃c,X.env.cells.lookup x=some c
 cab:∀x c,X.fn x=true->X.env.cells.lookup x=some c->X.s₀.heap.objs.size<=c
 hd:X.calm=true->X.A.handled=none
 frames:X.A.frames=some X.stack
 stk:X.stack=X.outer\/(X.stack=X.env::X.outer/\X.env.frame=some X.env.locals)
 exf:∀b∈X.ex,b≠X.env.locals/\∀x c,X.env.cells.lookup x=some c->c≠b
 bs:∀b o,X.base.get? b=some o->X.s₀.heap.get? b=some o/\X.H₀ b=none
 bsz:X.base.objs.size<=X.s₀.heap.objs.size
 noex:∀b o,X.base.get? b=some o->b∉X.ex
 exfs:∀b∈X.ex,b∉X.fs
 funs:X.s₀.heap.FunFrames X.base X.outer
 frf:∀b∈X.fs,X.H₀ b=none
structure Inv (X:Cx)(af:α7)(σ:List (Option V))(H:Hp)(s:Shared):Prop where
 ok:X.Ok
 os:s.os=X.s₀.os
 bare:AllBare s.gens
 base:Un X.fs X.ex X.H₀ H X.s₀.heap s.heap
 loc:∃m,s.heap.Ns X.env.locals m/\∀(i:Nat) (x:Str) (v:V),X.N[i]?=some x->σ[i]?=some (some v)->Vis X.env.scope x->∃u,RelV v u/\Look X.env s.heap m x u
 cell:∀x c,X.env.cells.lookup x=some c->∃v,s.heap.IsCell c v
 free:H X.env.locals=none
 freeC:∀x c,X.env.cells.lookup x=some c->H c=none
 pin:∀p∈X.pn++af,s.heap.get? p.1=some p.2/\H p.1=none/\p.1≠X.env.locals/\p.1∉X.fs/\∀v,p.2.data ≠ .cell v
 hok:HOk X.prog X.w H s.heap
 len:σ.length=X.N.length
section
variable {X:Cx} {af:α7} {σ:List (Option V)} {H H':Hp} {s:Shared} {h':Heap}
def Cx.Ok.nofr (ok:X.Ok)   (e:X.base.get? b=some o):b∉X.fs:=fun hb=>by
 have:=(ok.funs.mem hb).1
 rw[e]at this;cases this
def Inv.bs (I:Inv X af σ H s):∀b o,X.base.get? b=some o->s.heap.get? b=some o/\H b=none:=fun b o e=>
 ⟨I.base.keep b o (I.ok.bs b o e).1 (I.ok.bs b o e).2 (I.ok.nofr e) (I.ok.noex b o e),I.base.free b o (I.ok.bs b o e).1 (I.ok.bs b o e).2 (I.ok.noex b o e)⟩
def Inv.bk (I:Inv X af σ H s):∀b o,X.base.get? b=some o->s.heap.get? b=some o:=fun b o e=>(I.bs b o e).1
def Inv.mod (I:Inv X af σ H s):Mod X.K X.mg X.base:=I.ok.mod
def Inv.kIn (I:Inv X af σ H s):X.K.In s.heap:=I.ok.mod.kin.keeps I.bk
def Inv.lt (I:Inv X af σ H s):X.env.locals<s.heap.objs.size:=let ⟨_,hn,_⟩:=I.loc;hn.lt
def Inv.sz (I:Inv X af σ H s):X.s₀.heap.objs.size<=s.heap.objs.size:=qm_ I.ok.above (q2_ I.lt)
def Inv.nofs (I:Inv X af σ H s)  (h:s.heap.objs.size<=a):a∉X.fs:=fun hb=>by
 obtain⟨_,o,ho,_⟩:=I.ok.funs.mem hb
 exact absurd (jz_ (js_ ho) (qm_ I.sz h)) (j8_ _)
def Inv.cne (I:Inv X af σ H s):∀x c,X.env.cells.lookup x=some c->c≠X.env.locals:=fun x c e z=>by
 obtain⟨v,o,ho,hd⟩:=I.cell x c e
 obtain⟨m,⟨o',es,ep,h8,dk,_⟩,_⟩:=I.loc
 rw[z,h8]at ho;cases ho;rw[dk]at hd;cases hd
def Inv.funs (I:Inv X af σ H s):s.heap.FunFrames X.base X.outer:=by
 have all:∀(l:List Env),(∀b∈frs l,b∈X.fs)->X.s₀.heap.FunFrames X.base l->s.heap.FunFrames X.base l:=by
  intro l
  induction l with
  |nil=>intro _ _;trivial
  |cons env r ih=>
   intro hs hl
   obtain⟨hk,⟨L,o,hf,hn,ho,hd⟩,hr⟩:=hl
   have hL:L∈X.fs:=hs L (by unfold frs;rw[zG_,hf];exact jn_)
   obtain⟨sl,e⟩:=I.base.slot L o ho (I.ok.frf L hL) hL fun z=>I.ok.exfs L z hL
   exact⟨hk,⟨L,_,hf,hn,e,hd⟩,ih (fun b hb=>hs b (by unfold frs;rw[zG_,hf];exact jl_ _ hb)) hr⟩
 exact all X.outer (fun _ hb=>hb) I.ok.funs
def Inv.stack (I:Inv X af σ H s):s.heap.FunFrames X.base X.stack:=by
 rcases I.ok.stk with e|⟨e,hf⟩
 ·rw[e];exact I.funs
 ·rw[e]
  obtain⟨m,hn,_⟩:=I.loc
  refine .cons (by rw[I.ok.kind];decide) hf hn ?_ I.funs
  exact Heap.get?_none_of_le (qm_ I.ok.bsz I.ok.above)
def Inv.stkSub (I:Inv X af σ H s):∀b∈frs X.stack,b∈X.env.locals::X.fs:=fun b hb=>by
 rcases I.ok.stk with e|⟨e,hf⟩
 ·rw[e]at hb;exact jl_ _ hb
 ·rw[e]at hb
  unfold frs at hb
  rw[zG_,hf]at hb
  exact hb
def Inv.stkFree (I:Inv X af σ H s):∀b∈frs X.stack,H b=none:=fun b hb=>by
 rcases jB_.mp (I.stkSub b hb) with e|hb
 ·rw[e];exact I.free
 ·obtain⟨_,o,ho,_⟩:=I.ok.funs.mem hb
  exact I.base.free b o ho (I.ok.frf b hb) fun z=>I.ok.exfs b z hb
def Inv.step {g':Array GenState}{t':Nat}{d':Drawn}{ch:List Addr}(I:Inv X af σ H s)
  (gN:∀b∈ch,(b∈X.ex\/X.s₀.heap.objs.size<=b)/\b≠X.env.locals/\(∀x c,X.env.cells.lookup x=some c->c≠b)/\∀p∈X.pn++af,p.1≠b)
  (keep:∀b o,b≠X.env.locals->b∉X.fs->b∉ch->s.heap.get? b=some o->H b=none->h'.get? b=some o)
  (slot:∀b o,b≠X.env.locals->b∈X.fs->b∉ch->s.heap.get? b=some o->H b=none->∃sl,h'.get? b=some {o with slots:=sl}) (free:∀b o,b∉ch->s.heap.get? b=some o->H b=none->H' b=none)
  (there:∀b o,b∉ch->s.heap.get? b=some o->∃o',h'.get? b=some o')
  (tups:∀b xs,H b=some (.tup xs)->H' b=some (.tup xs)) (frzs:∀b o u,H b=some (.frz o u)->H' b=some (.frz o u)) (tbls:∀b ps,H b=some (.tbl ps)->∃more,H' b=some (.tbl (ps++more)))
  (ns:∀m,s.heap.Ns X.env.locals m->h'.Ns X.env.locals m) (hok:HOk X.prog X.w H' h') (hg:AllBare g'):
  Inv X af σ H' {s with heap:=h',gens:=g',drawn:=d',toks:=t' }:=by
 have neL:∀b o,X.s₀.heap.get? b=some o->b≠X.env.locals:=fun b o e=>jL_ (jz_ (js_ e) I.ok.above)
 have ny:∀b o,X.s₀.heap.get? b=some o->b∉X.ex->b∉ch:=fun b o e hx hb=>by
  rcases (gN b hb).1 with z|z
  ·exact hx z
  ·exact absurd (jz_ (js_ e) z) (j8_ _)
 have cellK:∀x c,X.env.cells.lookup x=some c->∀v,s.heap.IsCell c v->h'.IsCell c v:=fun x c e v ⟨o,ho,hd⟩=>by
  have fG:c∉ch:=fun z=>(gN c z).2.2.1 x c e rfl
  by_cases hc:c∈X.fs
  ·obtain⟨sl,q⟩:=slot c o (I.cne x c e) hc fG ho (I.freeC x c e)
   exact⟨_,q,hd⟩
  ·exact⟨o,keep c o (I.cne x c e) hc fG ho (I.freeC x c e),hd⟩
 refine⟨I.ok,I.os,hg,⟨fun b o e n hb hx=>?_,fun b o e n hb hx=>?_,fun b o e n hx=>?_,fun b o e hx=>?_,fun b xs e=>tups b xs (I.base.tups b xs e),fun b o xs e=>frzs b o xs (I.base.frzs b o xs e),fun b ps e=>?_⟩,?_,fun x c e=>?_,?_,fun x c e=>?_,fun p hp=>?_,hok,I.len⟩
 ·exact keep b o (neL b o e) hb (ny b o e hx) (I.base.keep b o e n hb hx) (I.base.free b o e n hx)
 ·obtain⟨sl,e1⟩:=I.base.slot b o e n hb hx
  obtain⟨sl',e2⟩:=slot b _ (neL b o e) hb (ny b o e hx) e1 (I.base.free b o e n hx)
  exact⟨sl',e2⟩
 ·obtain⟨o',e1⟩:=I.base.there b o e hx
  exact free b o' (ny b o e hx) e1 (I.base.free b o e n hx)
 ·obtain⟨o',e1⟩:=I.base.there b o e hx
  exact there b o' (ny b o e hx) e1
 ·obtain⟨m1,e1⟩:=I.base.tbls b ps e
  obtain⟨m2,e2⟩:=tbls b _ e1
  exact⟨m1++m2,by rw[e2,Array.append_assoc]⟩
 ·obtain⟨m,hn,hl⟩:=I.loc
  refine⟨m,ns m hn,fun i x v e1 e2 e3=>?_⟩
  obtain⟨u,r,l⟩:=hl i x v e1 e2 e3
  refine⟨u,r,?_⟩
  rcases l with l|⟨k,c,e,z⟩
  ·exact .inl l
  ·exact .inr ⟨k,c,e,cellK x c e _ z⟩
 ·obtain⟨v,z⟩:=I.cell x c e
  exact⟨v,cellK x c e v z⟩
 ·obtain⟨m,⟨o,_,_,ho,_⟩,_⟩:=I.loc
  exact free _ o (fun z=>(gN _ z).2.1 rfl) ho I.free
 ·obtain⟨v,o,ho,hd⟩:=I.cell x c e
  exact free c o (fun z=>(gN c z).2.2.1 x c e rfl) ho (I.freeC x c e)
 ·obtain⟨e,n,ne,nf,d⟩:=I.pin p hp
  have fG:p.1∉ch:=fun z=>(gN p.1 z).2.2.2 p hp rfl
  exact⟨keep p.1 p.2 ne nf fG e n,free p.1 p.2 fG e n,ne,nf,d⟩
def Inv.un  (I:Inv X af σ H s)(u:Un X.fs [] H H' s.heap h')(hok:HOk X.prog X.w H' h'):Inv X af σ H' {s with heap:=h',toks:=t' }:=by
 obtain⟨m,⟨o,es,ep,ho,r⟩,_⟩:=id I.loc
 obtain⟨sl,hL⟩:=u.any ho I.free (by simp)
 exact I.step (g':=s.gens) (d':=s.drawn) (ch:=[]) (fun _ z=>nomatch z) (fun b o _ hb _ e n=>u.keep b o e n hb (by simp)) (fun b o _ hb _ e n=>u.slot b o e n hb (by simp)) (fun b o _ e n=>u.free b o e n (by simp)) (fun b o _ e=>u.there b o e (by simp)) u.tups u.frzs u.tbls (fun m' hm=>by
  obtain⟨o',oC,oD,h8,r'⟩:=hm
  rw[ho]at h8;cases h8
  exact⟨_,oC,oD,hL,r'⟩) hok I.bare
def Inv.call     (I:Inv X af σ H s)(u:Un (frs X.stack) ch H H' s.heap h')(hok:HOk X.prog X.w H' h')(hg:AllBare g')
  (gN:∀b∈ch,(b∈X.ex\/X.s₀.heap.objs.size<=b)/\b≠X.env.locals/\(∀x c,X.env.cells.lookup x=some c->c≠b)/\∀p∈X.pn++af,p.1≠b):
  Inv X af σ H' {s with heap:=h',gens:=g',drawn:=d',toks:=t' }:=by
 obtain⟨m,⟨o,es,ep,ho,r⟩,_⟩:=id I.loc
 obtain⟨sl,hL⟩:=u.any ho I.free fun z=>(gN _ z).2.1 rfl
 exact I.step (ch:=ch) gN (fun b o hL hb hc e n=>u.keep b o e n (fun z=>(jB_.mp (I.stkSub b z)).elim hL hb) hc) (fun b o _ _ hc e n=>u.any e n hc) (fun b o hc e n=>u.free b o e n hc) (fun b o hc e=>u.there b o e hc) u.tups u.frzs u.tbls (fun m' hm=>by
  obtain⟨o',oC,oD,h8,r'⟩:=hm
  rw[ho]at h8;cases h8
  exact⟨_,oC,oD,hL,r'⟩) hok hg
def Inv.turned  {it:Addr}(I:Inv X af σ H s)(k:∀b o,b≠it->s.heap.get? b=some o->h'.get? b=some o)(hn:H it=none)(hL:it≠X.env.locals)
  (h1:it∈X.ex\/X.s₀.heap.objs.size<=it) (h2:∀x c,X.env.cells.lookup x=some c->c≠it) (h3:∀p∈X.pn++af,p.1≠it):Inv X af σ H {s with heap:=h',toks:=t' }:=by
 have nit:∀b u,H b=some u->b≠it:=fun b u e z=>by rw[z,hn]at e;cases e
 refine I.step (g':=s.gens) (d':=s.drawn) (ch:=[it]) (fun b hb=>?_) (fun b o _ _ hc e _=>k b o (fun z=>hc (by simp[z])) e) (fun b o _ _ hc e _=>⟨o.slots,k b o (fun z=>hc (by simp[z])) e⟩) (fun _ _ _ _ n=>n)
  (fun b o hc e=>⟨o,k b o (fun z=>hc (by simp[z])) e⟩) (fun _ _ e=>e) (fun _ _ _ e=>e) (fun b ps e=>⟨#[],by rw[e];simp⟩) (fun m hm=>?_) (fun b u e=>?_) I.bare
 ·have e:b=it:=by simpa using hb
  subst e
  exact⟨h1,hL,h2,h3⟩
 ·obtain⟨o,es,ep,ho,r⟩:=hm
  exact⟨o,es,ep,k _ o (qn_ hL) ho,r⟩
 ·refine (I.hok b u e).stay (fun c v hc q=>k c v ?_ q) (fun _ q=>q) fun _ _ q=>q
  rcases hc with z|z
  ·rw[z];exact nit b u e
  ·exact nit c _ z
def Inv.tok (I:Inv X af σ H s)(t:Nat):Inv X af σ H {s with toks:=t}:=I.un (h':=s.heap) (t':=t) Un.refl I.hok
def Inv.kept  (I:Inv X af σ H s)(k:∀b u,s.heap.get? b=some u->h'.get? b=some u):Inv X af σ H {s with heap:=h',toks:=t' }:=I.un (Un.kept k) (I.hok.kept k)
def Inv.laid    (I:Inv X af σ H s)(k:∀b u,s.heap.get? b=some u->h'.get? b=some u)(hp:s.heap.objs.size<=a)(new:Bo X.prog X.w (upd H a o) h' a o):
  Inv X af σ (upd H a o) {s with heap:=h',toks:=t' }:=I.un (Un.laid k hp (I.hok.fresh hp)) (I.hok.laid k hp new)
def Inv.write    (I:Inv X af σ H s)(mu:Mut (H x))(he:e=x\/H e=some (.own x))(k:∀b u,b≠e->s.heap.get? b=some u->h'.get? b=some u)(i5:∃u,h'.get? e=some u)
  (new:Bo X.prog X.w (upd H x o) h' x o):Inv X af σ (upd H x o) {s with heap:=h',toks:=t' }:=I.un (Un.write mu he k i5) (I.hok.write mu he k i5 new)
def Inv.pins_of  (I:Inv X af σ H s)(h:∀p∈aX,s.heap.get? p.1=some p.2/\H p.1=none/\p.1≠X.env.locals/\p.1∉X.fs/\∀v,p.2.data ≠ .cell v):Inv X aX σ H s:=
 ⟨I.ok,I.os,I.bare,I.base,I.loc,I.cell,I.free,I.freeC,fun p hp=>(jw_.mp hp).elim (fun z=>I.pin p (j2_ _ z)) (h p),I.hok,I.len⟩
def M4 {N:List Str}(hN:N.Nodup){i j:Nat}{x:Str}(a:N[i]?=some x)(b:N[j]?=some x):i=j:=by
 obtain⟨h1,e1⟩:=jb_.mp a
 obtain⟨h2,e2⟩:=jb_.mp b
 exact (xL_ hN).mp (e1.trans e2.symm)
def HD         (I:Inv X af σ H s)(hN:X.N.Nodup)(hi:X.N[i]?=some x)(hx:Loc X.env.scope x)(r:RelV v u)
  (h:∀s',Inv X af (σ.set i (some v)) H s'->(∃a,Heap.SameBut a s.heap s'.heap/\(a=X.env.locals\/X.env.cells.lookup x=some a))->Q () s') (hf:X.fn x=true\/X.env.scope.names.lookup x=some .local:=by first|exact .inl rfl|exact .inr rfl|assumption):wpAny M A (storeName X.env x u) Q E s:=by
 obtain⟨m,hn,hl⟩:=id I.loc
 have jr:(X.env.scope.kind == .class||(X.env.scope.kind == .module&&X.env.locals != X.env.globals))=false:=by rw[I.ok.kind];rfl
 have hiσ:i<σ.length:=by rw[I.len];exact (jb_.mp hi).1
 have cne:=I.cne
 have tracked:∀{a:Addr} {h':Heap},(∃o,s.heap.get? a=some o/\H a=none)->Heap.SameBut a s.heap h'->HOk X.prog X.w H h':=fun {a h'} ha hs b ob e=>by
  obtain⟨_,_,hfree⟩:=ha
  refine (I.hok b ob e).stay (fun c w' hc q=>(hs.2 c ?_).trans q) (fun _ q=>q) fun _ _ q=>q
  rintro rfl
  rcases hc with rfl|hc
  ·rw[hfree]at e;cases e
  ·rw[hfree]at hc;cases hc
 rcases hx with hk|hk
 ·refine wpAny_storeName_local hk hn (fun h' fQ hs=>?_) jr
  obtain⟨oL,_,_,oE,_⟩:=id hn
  refine h _ ⟨I.ok,I.os,I.bare,⟨fun b o e n hb hx=>?_,fun b o e n hb hx=>?_,I.base.free,fun b o e hx=>?_,I.base.tups,I.base.frzs,I.base.tbls⟩,⟨_,fQ,fun j y v' e1 e2 e3=>?_⟩,fun y c e=>?_,I.free,I.freeC,fun p hp=>?_,tracked ⟨oL,oE,I.free⟩ hs,by simpa using I.len⟩ ⟨_,hs,.inl rfl⟩
  ·exact (hs.2 b (jL_ (jz_ (js_ e) I.ok.above))).trans (I.base.keep b o e n hb hx)
  ·obtain⟨sl,e1⟩:=I.base.slot b o e n hb hx
   exact⟨sl,(hs.2 b (jL_ (jz_ (js_ e) I.ok.above))).trans e1⟩
  ·obtain⟨o',e1⟩:=I.base.there b o e hx
   exact⟨o',(hs.2 b (jL_ (jz_ (js_ e) I.ok.above))).trans e1⟩
  ·by_cases hj:j=i
   ·subst hj
    rw[hi]at e1;cases e1
    rw[qM_ hiσ]at e2
    cases e2
    exact⟨u,r,.inl ⟨hk,by simp⟩⟩
   ·rw[xf_ (qn_ hj)]at e2
    obtain⟨u',r',q⟩:=hl j y v' e1 e2 e3
    refine⟨u',r',?_⟩
    rcases q with ⟨k,e⟩|⟨k,c,e,z⟩
    ·refine .inl ⟨k,?_⟩
     have:y≠x:=fun e=>hj (M4 hN e1 (e ▸ hi))
     simp[this,e]
    ·exact .inr ⟨k,c,e,z.sameBut hs (cne y c e)⟩
  ·obtain⟨w',z⟩:=I.cell y c e
   exact⟨w',z.sameBut hs (cne y c e)⟩
  ·obtain⟨e,n,ne,nf,d⟩:=I.pin p hp
   exact⟨(hs.2 p.1 ne).trans e,n,ne,nf,d⟩
 ·have oF:X.fn x=true:=by
   rcases hf with z|z
   ·exact z
   ·rw[z]at hk;cases hk
  obtain⟨c,hc⟩:=I.ok.has x (.inl hk)
  obtain⟨w',z⟩:=I.cell x c hc
  refine wpAny_storeName_cell I.ok.kind hk hc z (fun h' fH hs=>?_)
  obtain⟨oc,dI,hocd⟩:=id z
  refine h {s with heap:=h' } ⟨I.ok,I.os,I.bare,⟨fun b o e n hb hx=>?_,fun b o e n hb hx=>?_,I.base.free,fun b o e hx=>?_,I.base.tups,I.base.frzs,I.base.tbls⟩,⟨m,hn.sameBut hs (qn_ (cne x c hc)),fun j y v' e1 e2 e3=>?_⟩,fun y c' e=>?_,I.free,I.freeC,fun p hp=>?_,tracked ⟨oc,dI,I.freeC x c hc⟩ hs,by simpa using I.len⟩ ⟨c,hs,.inr hc⟩
  ·exact (hs.2 b (jL_ (jz_ (js_ e) (I.ok.cab x c oF hc)))).trans (I.base.keep b o e n hb hx)
  ·obtain⟨sl,e1⟩:=I.base.slot b o e n hb hx
   exact⟨sl,(hs.2 b (jL_ (jz_ (js_ e) (I.ok.cab x c oF hc)))).trans e1⟩
  ·obtain⟨o',e1⟩:=I.base.there b o e hx
   exact⟨o',(hs.2 b (jL_ (jz_ (js_ e) (I.ok.cab x c oF hc)))).trans e1⟩
  ·by_cases hj:j=i
   ·subst hj
    rw[hi]at e1;cases e1
    rw[qM_ hiσ]at e2
    cases e2
    exact⟨u,r,.inr ⟨.inl hk,c,hc,fH⟩⟩
   ·rw[xf_ (qn_ hj)]at e2
    obtain⟨u',r',q⟩:=hl j y v' e1 e2 e3
    refine⟨u',r',?_⟩
    rcases q with q|⟨k,c',e,z'⟩
    ·exact .inl q
    ·refine .inr ⟨k,c',e,z'.sameBut hs ?_⟩
     rintro rfl
     exact hj (M4 hN e1 (I.ok.inj _ _ _ e hc ▸ hi))
  ·by_cases hcc:c'=c
   ·subst hcc;exact⟨_,fH⟩
   ·obtain⟨w2,z2⟩:=I.cell y c' e
    exact⟨w2,z2.sameBut hs hcc⟩
  ·obtain⟨e,n,ne,nf,d⟩:=I.pin p hp
   refine⟨(hs.2 p.1 ?_).trans e,n,ne,nf,d⟩
   intro q
   rw[q,dI]at e
   have q':oc=p.2:=jr_ e
   exact d w' (by rw[<-q'];exact hocd)
def JL         (I:Inv X af σ H s)(hN:X.N.Nodup)(hi:X.N[i]?=some x)(hx:Loc X.env.scope x)(r:RelV v u)
  (h:∀s',Inv X af (σ.set i (some v)) H s'->Q () s') (hf:X.fn x=true\/X.env.scope.names.lookup x=some .local:=by first|exact .inl rfl|exact .inr rfl|assumption):wpAny M A (storeName X.env x u) Q E s:=
 HD I hN hi hx r (fun s' I' _=>h s' I') hf
def Inv.call'   (I:Inv X af σ H s)(ho:s'.os=s.os)(u:Un (frs X.stack) ch H H' s.heap s'.heap)(hok:HOk X.prog X.w H' s'.heap)(hg:AllBare s'.gens)
  (gN:∀b∈ch,(b∈X.ex\/X.s₀.heap.objs.size<=b)/\b≠X.env.locals/\(∀x c,X.env.cells.lookup x=some c->c≠b)/\∀p∈X.pn++af,p.1≠b):Inv X af σ H' s':=by
 obtain⟨h',g',d',t',o'⟩:=s'
 have e:o'=s.os:=ho
 subst e
 exact I.call (g':=g') (t':=t') (d':=d') u hok hg gN
end
abbrev XK:=Value->Option Addr->Hp->Prop
abbrev St:=List (Option V)
abbrev VK:=V->Hp->Prop
abbrev TE:=St->Hp->VK->Prop
abbrev TT:=St->Hp->(Bool->Hp->Prop)->Prop
abbrev TA:=St->Hp->(List V->Hp->Prop)->Prop
structure Ends where
 nx:St->Hp->Prop
 rt:VK
 bk:St->Hp->Prop:=fun _ _=>False
 ct:St->Hp->Prop:=fun _ _=>False
abbrev TS:=Ends->St->Hp->Prop
def EP (X:Cx)(af:α7)(σ:St)(Q:VK)(u:Value)(s':Shared):Prop:=∃v H',Inv X af σ H' s'/\RelV v u/\Q v H'
def TP (X:Cx)(af:α7)(σ:St)(Q:Bool->Hp->Prop)(b:Bool)(s':Shared):Prop:=∃H',Inv X af σ H' s'/\Q b H'
def AP (X:Cx)(af:α7)(σ:St)(Q:List V->Hp->Prop)(us:List Value)(s':Shared):Prop:=∃vs H',Inv X af σ H' s'/\Vals vs us/\Q vs H'
def SP (X:Cx)(af:α7)(D:Ends)(f:Flow)(s':Shared):Prop:=
 match f with
 |.next=>∃ag H',Inv X af ag H' s'/\D.nx ag H'
 |.brk=>∃ag H',Inv X af ag H' s'/\D.bk ag H'
 |.cont=>∃ag H',Inv X af ag H' s'/\D.ct ag H'
 |.ret u=>∃v ag H',Inv X af ag H' s'/\RelV v u/\D.rt v H'
def PE (X:Cx)(e:Expr)(t:TE):Prop:=
 ∀(af:α7) (s:Shared) (σ:St) (H:Hp) (Q:VK),Inv X af σ H s->t σ H Q->wpAny (model X.prog X.w) X.A (eval e X.env) (EP X af σ Q) X.xe s
def PT (X:Cx)(e:Expr)(t:TT):Prop:=
 ∀(af:α7) (s:Shared) (σ:St) (H:Hp) (Q:Bool->Hp->Prop),Inv X af σ H s->t σ H Q->wpAny (model X.prog X.w) X.A (isTrue e X.env (eval e X.env)) (TP X af σ Q) X.xe s
def PW (X:Cx)(e:Expr)(t:TT):Prop:=
 ∀(d8:Sem Value) (af:α7) (s:Shared) (σ:St) (H:Hp) (Q:Bool->Hp->Prop),Inv X af σ H s->t σ H Q->wpAny (model X.prog X.w) X.A (isTrue e X.env d8) (TP X af σ Q) X.xe s
def PW.pt    (h:PW X e t):PT X e t:=h _
def PA (X:Cx)(es:List Expr)(t:TA):Prop:=
 ∀(pos:Pos) (af:α7) (s:Shared) (σ:St) (H:Hp) (Q:List V->Hp->Prop),Inv X af σ H s->t σ H Q->wpAny (model X.prog X.w) X.A (spliced (backTo pos (starEach es X.env))) (AP X af σ Q) X.xe s
def PS (X:Cx)(st:Stmt)(t:TS):Prop:=
 ∀(af:α7) (s:Shared) (σ:St) (H:Hp) (D:Ends),Inv X af σ H s->t D σ H->wpAny (model X.prog X.w) X.A (exec st X.env) (SP X af D) X.xe s
def PSs (X:Cx)(st:List Stmt)(t:TS):Prop:=
 ∀(af:α7) (s:Shared) (σ:St) (H:Hp) (D:Ends),Inv X af σ H s->t D σ H->wpAny (model X.prog X.w) X.A (execs st X.env) (SP X af D) X.xe s
def thn        (h:wpAny M A t Q E s)(hQ:∀a s,Q a s->Q' a s):wpAny M A t Q' E s:=qN_ h hQ fun _ _ x=>x
end L2
namespace L2
open PySem PySem.Spec PyProof.Rows
section
variable {X:Cx}
def tVar (i:Nat):TE:=fun σ H Q=>∃v,σ[i]?=some (some v)/\Q v H
def tC (v:V):TE:=fun _ H Q=>Q v H
def VD    (hN:X.N[i]?=some x)(hv:Vis X.env.scope x)(hd:(x==("__debug__" : Str))=false:=by decide)(bQ:(x==("__classdict__" : Str))=false:=by decide):PE X (.Name x pos) (tVar i):=by
 intro af s σ H Q I h
 obtain⟨v,e,h⟩:=h
 obtain⟨m,hn,hl⟩:=I.loc
 obtain⟨u,r,l⟩:=hl i x v hN e hv
 have fin:EP X af σ Q u s:=⟨v,H,I,r,h⟩
 rcases l with ⟨hk,hm⟩|⟨hk,c,hc,d9⟩
 ·exact wpAny_Name (wpAny_loadName_local I.ok.kind hk hn hm fin) hd
 ·rcases hk with hk|hk
  ·exact wpAny_Name (wpAny_loadName_cell I.ok.kind hk hc d9 fin) hd
  ·exact wpAny_Name (wpAny_loadName_free I.ok.kind hk hc d9 fin bQ) hd
def Ae {i j pos}:PE X (.Constant (.int i) j pos) (tC (.int i)):=fun _ _ _ H _ I h=>wpAny_Constant_int ⟨.int i,H,I.tok _,⟨_,rfl⟩,h⟩
def L4 {b j pos}:PE X (.Constant (.bool b) j pos) (tC (.bl b)):=fun _ _ _ H _ I h=>Constant_bool ⟨.bl b,H,I,rfl,h⟩
def O0 {j pos}:PE X (.Constant .none j pos) (tC .non):=fun _ _ _ H _ I h=>Constant_none ⟨.non,H,I,rfl,h⟩
def Gl (X:Cx)(x:Str):Prop:=X.env.kindOf x=some .globalImplicit
def Uu          (I:Inv X af σ H s)(hg:Gl X x)(hm:X.mg x=some u)(h:Q u s)
  (hd:(x==("__debug__" : Str))=false:=by decide):wpAny (model X.prog X.w) X.A (eval (.Name x pos) X.env) Q E s:=
 Calls.Name_function_global I.ok.kind hg (Calls.loadGlobal_global (by rw[I.ok.glob];exact I.mod.glob.keeps I.bk) hm h) hd
def D6          (I:Inv X af σ H s)(hg:Gl X x)(hm:X.mg x=none)(hv:bootBuiltins x=some u)(h:Q u s)
  (hn:x ≠ "__name__" := by decide) (hd:(x==("__debug__" : Str))=false:=by decide):wpAny (model X.prog X.w) X.A (eval (.Name x pos) X.env) Q E s:=by
 obtain⟨mb,h1,h2⟩:=I.mod.blt
 exact Calls.Name_function_global I.ok.kind hg (Calls.loadGlobal_builtin (by rw[I.ok.glob];exact I.mod.glob.keeps I.bk) hm (by rw[I.ok.blt];exact h1.keeps I.bk) ((h2 x hn).trans hv) h) hd
def Uv     (hg:Gl X x)(hm:X.mg x=none)(hv:bootBuiltins x=some u)(r:RelV v u)(hn:x ≠ "__name__" := by decide)(hd:(x==("__debug__" : Str))=false:=by decide):PE X (.Name x pos) (tC v):=
 fun _ _ _ H _ I h=>D6 I hg hm hv ⟨v,H,I,r,h⟩ hn hd
variable {a b:Expr} {ta tb:TE} {pos:Pos}
def PC (X:Cx)(op:CmpOp)(a b:Expr)(t:TE):Prop:=
 ∀(af:α7) (s:Shared) (σ:St) (H:Hp) (Q:VK),Inv X af σ H s->t σ H Q ->
  wpAny (model X.prog X.w) X.A (eval a X.env) (fun v s₁=>wpAny (model X.prog X.w) X.A (eval b X.env) (fun u bt=>wpAny (model X.prog X.w) X.A (compareOp op v u) (EP X af σ Q) X.xe bt) X.xe s₁) X.xe s
def RE (b:Expr)  (h:op ≠ .In)(h2:op ≠ .NotIn):behindInMarks op b=false:=by
 have e1:(op==CmpOp.In)=false:=by cases op<;>first|rfl|exact absurd rfl h
 have e2:(op==CmpOp.NotIn)=false:=by cases op<;>first|rfl|exact absurd rfl h2
 cases b<;>simp[behindInMarks,e1,e2]
def tB (t:TE):TT:=fun σ H Q=>t σ H fun x H1=>∃c,x=.bl c/\Q c H1
def O1   (h:PC X op a b t)(h1:behindInMarks op b=false:=by first|exact RE _ (by decide) (by decide)|rfl):PT X (.Compare a [op] [b] pos) (tB t):=by
 intro af s σ H Q I hw
 refine wpAny_isTrue_Compare1 (thn (h af s σ H _ I hw) fun v s1 h1=>thn h1 fun u s2 h2=>thn h2 fun c s3 ⟨x,H1,I1,r1,q1⟩=>?_) h1
 obtain⟨d,rfl,q⟩:=q1
 cases r1
 exact xV_ ⟨H1,I1,q⟩
def S5   (h:PE X e t)(he:∀d8,isTrue e X.env d8=(do let v <- d8;standAt e.pos;holding [v] (truthy v)):=by intro _;rfl):PT X e (tB t):=by
 intro af s σ H Q I hw
 refine isTrue_plain (thn (h af s σ H _ I hw) fun v s1 ⟨x,H1,I1,r1,q1⟩=>?_) (he _)
 obtain⟨d,rfl,q⟩:=q1
 cases r1
 exact xV_ ⟨H1,I1,q⟩
variable {tA nA:TT} {rest:List Expr}
def tAnd (t u:TT):TT:=fun σ H Q=>t σ H fun c H1=>if c=true then u σ H1 Q else Q false H1
def tOr (t u:TT):TT:=fun σ H Q=>t σ H fun c H1=>if c=true then Q true H1 else u σ H1 Q
def tNot (t:TT):TT:=fun σ H Q=>t σ H fun c H1=>Q (!c) H1
def D7 (ha:PT X a tA):PW X (.BoolOp .And [a] pos) tA:=by
 intro wh af s σ H Q I h
 refine isTrue_and (thn (ha af s σ H Q I h) fun c s1 e=>?_)
 cases c with
 |true=>exact isTrue_and_nil e
 |false=>exact e
def O2 (ha:PT X a tA):PW X (.BoolOp .Or [a] pos) tA:=by
 intro wh af s σ H Q I h
 refine isTrue_or (thn (ha af s σ H Q I h) fun c s1 e=>?_)
 cases c with
 |false=>exact isTrue_or_nil e
 |true=>exact e
def GH (ha:PT X a tA)(hb:PW X (.BoolOp .And (b::rest) pos) nA):PW X (.BoolOp .And (a::b::rest) pos) (tAnd tA nA):=by
 intro wh af s σ H Q I h
 refine isTrue_and (thn (ha af s σ H _ I h) fun c s1 ⟨H1,I1,q1⟩=>?_)
 cases c with
 |true=>exact hb wh af s1 σ H1 Q I1 q1
 |false=>exact⟨H1,I1,q1⟩
def Uw (ha:PT X a tA)(hb:PW X (.BoolOp .Or (b::rest) pos) nA):PW X (.BoolOp .Or (a::b::rest) pos) (tOr tA nA):=by
 intro wh af s σ H Q I h
 refine isTrue_or (thn (ha af s σ H _ I h) fun c s1 ⟨H1,I1,q1⟩=>?_)
 cases c with
 |true=>exact⟨H1,I1,q1⟩
 |false=>exact hb wh af s1 σ H1 Q I1 q1
def S6 (ha:PT X a tA):PT X (.UnaryOp .Not a pos) (tNot tA):=by
 intro af s σ H Q I h
 exact isTrue_not (ha af s σ H (fun c H1=>Q (!c) H1) I h)
end
end L2
namespace L2
open PySem PySem.Spec PyProof.Rows
def SqL (K:α3)(H:Hp)(a:Addr)(xs:List V):Prop:=
 Rd H a (.lst xs) \/
  ∃(o:Obj) (its:Array Value) (n:Nat),K.lookup a=some o/\o.cls=.type "list" /\ o.dict=none/\o.data=.seq its n/\its.size<=sizeLine/\Vals xs its.toList
def SqT (K:α3)(H:Hp)(a:Addr)(xs:List V):Prop:=
 Rd H a (.tup xs) \/
  ∃(o:Obj) (its:Array Value) (n:Nat),K.lookup a=some o/\o.cls=.type "tuple" /\ o.data=.seq its n/\its.size<=sizeLine/\Vals xs its.toList
def absV:Value->Option V
 |.none=>some .non
 |.bool b=>some (.bl b)
 |.int i _=>some (.int i)
 |.str x _=>some (.str x)
 |.bytes b _=>some (.byt b)
 |.float b _=>some (.flt b)
 |.ref a=>some (.ref a)
 |.type n=>some (.ty n)
 |_=>none
def RelV.abs   (r:RelV x u):absV u=some x:=by
 cases x with
 |non=>cases r;rfl
 |bl _=>cases r;rfl
 |int _=>obtain⟨t,rfl⟩:=r;rfl
 |str _=>obtain⟨t,rfl⟩:=r;rfl
 |byt _=>obtain⟨t,rfl⟩:=r;rfl
 |flt _=>obtain⟨t,rfl⟩:=r;rfl
 |ref _=>cases r;rfl
 |ty _=>cases r;rfl
def RelV.inj   (r:RelV x u)(q:RelV y u):x=y:=jr_ (r.abs.symm.trans q.abs)
def Vals.inj:∀{xs ys:List V} {us:List Value},Vals xs us->Vals ys us->xs=ys
 |_,_,_,.nil,.nil=>rfl
 |_,_,_,.cons r t,.cons r' t'=>by rw[r.inj r',Vals.inj t t']
section
variable {X:Cx} {af:α7} {σ:St} {H:Hp} {s:Shared} {a:Addr} {xs ys:List V}
def SqL.of {K:α3}(h:H a=some (.lst xs)):SqL K H a xs:=.inl (.inl h)
def SqT.of {K:α3}(h:H a=some (.tup xs)):SqT K H a xs:=.inl (.inl h)
def Inv.list (I:Inv X af σ H s)(h:SqL X.K H a xs):∃its:List Value,Vals xs its/\PlainL s.heap a its.toArray/\xs.length<=sizeLine:=by
 rcases h with h|⟨o,its,n,hk,hc,hd,hs,hz,r⟩
 ·obtain⟨z,its,n,r,e⟩:=h.ok I.hok
  exact⟨its,r,⟨_,n,e,rfl,rfl,rfl⟩,z⟩
 ·refine⟨its.toList,r,⟨o,n,I.kIn a o hk,hc,hd,by simpa using hs⟩,?_⟩
  have e:=r.length
  simp only[j6_]at e
  lia
def Inv.tuple (I:Inv X af σ H s)(h:SqT X.K H a xs):∃its:List Value,Vals xs its/\IsTup s.heap a its.toArray/\xs.length<=sizeLine:=by
 rcases h with h|⟨o,its,n,hk,hc,hs,hz,r⟩
 ·obtain⟨z,its,r,p⟩:=h.ok I.hok
  exact⟨its,r,p,z⟩
 ·refine⟨its.toList,r,⟨o,I.kIn a o hk,hc,n,by simpa using hs⟩,?_⟩
  have e:=r.length
  simp only[j6_]at e
  lia
def Inv.list_inj (I:Inv X af σ H s)(h:SqL X.K H a xs)(h':SqL X.K H a ys):xs=ys:=by
 obtain⟨its,r,⟨o,n,e,_,_,d⟩,_⟩:=I.list h
 obtain⟨its',r',⟨o',n',e',_,_,d'⟩,_⟩:=I.list h'
 rw[e]at e';cases e'
 rw[d]at d'
 injection d' with d1 _
 have:its=its':=by simpa using jC_ vk d1
 subst this
 exact r.inj r'
def Inv.tuple_inj (I:Inv X af σ H s)(h:SqT X.K H a xs)(h':SqT X.K H a ys):xs=ys:=by
 obtain⟨its,r,⟨o,e,_,n,d⟩,_⟩:=I.tuple h
 obtain⟨its',r',⟨o',e',_,n',d'⟩,_⟩:=I.tuple h'
 rw[e]at e';cases e'
 rw[d]at d'
 injection d' with d1 _
 have:its=its':=by simpa using jC_ vk d1
 subst this
 exact r.inj r'
end
abbrev Cx.wish (X:Cx)(E:Value->Shared->Prop):Cx:={X with xe:=E}
abbrev Cx.nox (X:Cx):Cx:=X.wish fun _ _=>False
def Cx.Ok.wish {X:Cx}(ok:X.Ok)(E:Value->Shared->Prop):(X.wish E).Ok:=
 ⟨ok.mod,ok.kind,ok.glob,ok.blt,ok.above,ok.inj,ok.has,ok.cab,ok.hd,ok.frames,ok.stk,ok.exf,ok.bs,ok.bsz,ok.noex,ok.exfs,ok.funs,ok.frf⟩
def Cx.Ok.unwish {X:Cx}{E:Value->Shared->Prop}(ok:(X.wish E).Ok):X.Ok:=
 ⟨ok.mod,ok.kind,ok.glob,ok.blt,ok.above,ok.inj,ok.has,ok.cab,ok.hd,ok.frames,ok.stk,ok.exf,ok.bs,ok.bsz,ok.noex,ok.exfs,ok.funs,ok.frf⟩
section
variable {X:Cx} {af:α7} {σ:St} {H:Hp} {s:Shared} {E:Value->Shared->Prop}
def Inv.wish (I:Inv X af σ H s)(E:Value->Shared->Prop):Inv (X.wish E) af σ H s:=⟨I.ok.wish E,I.os,I.bare,I.base,I.loc,I.cell,I.free,I.freeC,I.pin,I.hok,I.len⟩
def Inv.unwish (I:Inv (X.wish E) af σ H s):Inv X af σ H s:=⟨I.ok.unwish,I.os,I.bare,I.base,I.loc,I.cell,I.free,I.freeC,I.pin,I.hok,I.len⟩
def SP.unwish    (h:SP (X.wish E) af D f s'):SP X af D f s':=by
 cases f with
 |next=>obtain⟨ag,H',I,q⟩:=h;exact⟨ag,H',I.unwish,q⟩
 |brk=>obtain⟨ag,H',I,q⟩:=h;exact⟨ag,H',I.unwish,q⟩
 |cont=>obtain⟨ag,H',I,q⟩:=h;exact⟨ag,H',I.unwish,q⟩
 |ret u=>obtain⟨v,ag,H',I,r,q⟩:=h;exact⟨v,ag,H',I.unwish,r,q⟩
def PSs.nox {st:List Stmt}  (h:PSs X.nox st t):PSs X st t:=fun af s σ H D I hw=>
 qN_ (h af s σ H D (I.wish _) hw) (fun _ _ q=>q.unwish) fun _ _ z=>rg z
end
section
variable {X:Cx} {st:Stmt} {rest:List Stmt} {t u:TS} {e:Expr} {te:TE} {pos:Pos}
def VE:TS:=fun D σ H=>D.nx σ H
def tSeq (t u:TS):TS:=fun D σ H=>t {D with nx:=u D} σ H
def AK:PSs X [] VE:=fun _ _ σ H _ I h=>zH_ ⟨σ,H,I,h⟩
def Ac (h1:PS X st t)(h2:PSs X rest u):PSs X (st::rest) (tSeq t u):=by
 intro af s σ H D I h
 refine wpAny_execs_cons (thn (h1 af s σ H {D with nx:=u D} I h) fun f s1 q=>?_)
 cases f with
 |next=>
  obtain⟨ag,H',I',q⟩:=q
  exact h2 af s1 ag H' D I' q
 |ret v=>exact q
 |brk=>exact q
 |cont=>exact q
def Af (h1:PS X st t):PSs X [st] t:=by
 intro af s σ H D I h
 refine wpAny_execs_cons (thn (h1 af s σ H D I h) fun f s1 q=>?_)
 cases f with
 |next=>exact zH_ q
 |ret v=>exact q
 |brk=>exact q
 |cont=>exact q
def Inv.quiet     (I:Inv X af σ H s):interactive X.env=false:=by simp[interactive,I.ok.kind]
def VF (te:TE):TS:=fun D σ H=>te σ H fun _ H1=>D.nx σ H1
def Bc (he:PE X e te)(hs:swapsWith e none pos.line X.env=pure false:=by rfl):PS X (.Expr e pos) (VF te):=by
 intro af s σ H D I h
 exact wpAny_Expr_any (thn (he af s σ H _ I h) fun v s1 ⟨x,H1,I1,r1,q1⟩=>⟨σ,H1,I1,q1⟩) I.quiet hs
def tRet (te:TE):TS:=fun D σ H=>te σ H D.rt
def AH (he:PE X e te):PS X (.Return (some e) pos) (tRet te):=by
 intro af s σ H D I h
 exact wpAny_Return_some (thn (he af s σ H _ I h) fun v s1 ⟨x,H1,I1,r1,q1⟩=>⟨x,σ,H1,I1,r1,q1⟩)
def tIfS (c:TT)(t u:TS):TS:=fun D σ H=>c σ H fun b H1=>if b=true then t D σ H1 else u D σ H1
def BI    (hc:PT X c tc)(ha:PSs X a t)(hb:PSs X b u):PS X (.If c a b pos) (tIfS tc t u):=by
 intro af s σ H D I h
 refine wpAny_If (thn (hc af s σ H _ I h) fun d s1 ⟨H1,I1,q1⟩=>?_)
 cases d with
 |true=>exact ha af s1 σ H1 D I1 q1
 |false=>exact hb af s1 σ H1 D I1 q1
def VG:TS:=fun _ _ _=>False
def RG:PS X st VG:=fun _ _ _ _ _ _ h=>h.elim
end
abbrev TG:=V->St->Hp->(St->Hp->Prop)->Prop
abbrev TGs:=List V->St->Hp->(St->Hp->Prop)->Prop
def PG (X:Cx)(bX:Expr)(t:TG):Prop:=
 ∀(af:α7) (s:Shared) (σ:St) (H:Hp) (v:V) (u:Value) (Q:St->Hp->Prop),Inv X af σ H s->RelV v u->t v σ H Q ->
  wpAny (model X.prog X.w) X.A (assign bX X.env u) (fun _ s'=>∃ag H',Inv X af ag H' s'/\Q ag H') X.xe s
def PGs (X:Cx)(ts:List Expr)(t:TGs):Prop:=
 ∀(af:α7) (s:Shared) (σ:St) (H:Hp) (vs:List V) (us:List Value) (Q:St->Hp->Prop),Inv X af σ H s->Vals vs us->t vs σ H Q ->
  wpAny (model X.prog X.w) X.A (assignInOrder ((assignEach ts X.env).map (·.2)) us) (fun _ s'=>∃ag H',Inv X af ag H' s'/\Q ag H') X.xe s
abbrev TSet:=V->V->V->Hp->(Hp->Prop)->Prop
def PSet (X:Cx)(t:TSet):Prop:=
 ∀(af:α7) (s:Shared) (σ:St) (H:Hp) (o i v:V) (ov iv u:Value) (Q:Hp->Prop),Inv X af σ H s->RelV o ov->RelV i iv->RelV v u->t o i v H Q ->
  wpAny (model X.prog X.w) X.A (setItem ov iv u) (fun _ s'=>∃H',Inv X af σ H' s'/\Q H') X.xe s
abbrev TIp:=V->V->Hp->VK->Prop
def PIp (X:Cx)(op:Operator)(t:TIp):Prop:=
 ∀(af:α7) (s:Shared) (σ:St) (H:Hp) (x y:V) (v u:Value) (Q:VK),Inv X af σ H s->RelV x v->RelV y u->t x y H Q ->
  wpAny (model X.prog X.w) X.A (inplaceOp op v u) (EP X af σ Q) X.xe s
section
variable {X:Cx} {pos:Pos}
def Fz (i:Nat):TG:=fun v σ H Q=>Q (σ.set i (some v)) H
def Am   (hN:X.N.Nodup)(hi:X.N[i]?=some x)(hx:Loc X.env.scope x)(hf:X.fn x=true\/X.env.scope.names.lookup x=some .local:=by first|exact .inl rfl|exact .inr rfl|assumption):PG X (.Name x pos) (Fz i):=by
 intro af s σ H v u Q I r h
 exact wpAny_assign_Name (JL I hN hi hx r (fun s' I'=>⟨_,H,I',h⟩) hf)
def gNil:TGs:=fun vs σ H Q=>vs=[]/\Q σ H
def VH (t:TG)(u:TGs):TGs:=fun vs σ H Q=>∃v r,vs=v::r/\t v σ H fun ag H'=>u r ag H' Q
def O3:PGs X [] gNil:=by
 intro af s σ H vs us Q I r h
 obtain⟨e,h⟩:=h
 subst e
 cases r
 exact assignInOrder_nil ⟨σ,H,I,h⟩
def Hh     (h1:PG X e t)(h2:PGs X es u)
  (hs:(assignEach (e::es) X.env).map (·.2)=assign e X.env::(assignEach es X.env).map (·.2):=by rfl):PGs X (e::es) (VH t u):=by
 intro af s σ H vs us Q I r h
 obtain⟨v,vr,e1,h⟩:=h
 subst e1
 cases r with
 |cons r rr=>
  rw[hs]
  refine assignInOrder_cons (thn (h1 af s σ H _ _ _ I r h) fun _ s1 ⟨i6,H1,I1,q1⟩=>?_)
  exact h2 af s1 i6 H1 _ _ Q I1 rr q1
def gTup (K:α3)(n:Nat)(t:TGs):TG:=fun v σ H Q=>∃a xs,v=.ref a/\SqT K H a xs/\xs.length=n/\t xs σ H Q
def S7     (hc:X.calm=true)(h:PGs X es t)
  (hn:(assignEach es X.env).length=n:=by rfl) (la:(assignEach es X.env).findIdx? (·.1)=none:=by rfl):PG X (.Tuple es k pos) (gTup X.K n t):=by
 intro af s σ H v u Q I r hw
 obtain⟨a,xs,e1,hq,hl,hw⟩:=hw
 subst e1
 cases r
 obtain⟨its,rv,ht,hz⟩:=I.tuple hq
 refine assign_Tuple_tuple (I.ok.hd hc) ht (by simp[hn,<-hl,rv.length]) la fun h' hx=>?_
 have I1:Inv X af σ H {s with heap:=h' }:=I.kept (t':=s.toks) fun b o e=>hx b o (jL_ (js_ e)) e
 exact h af _ σ H xs _ Q I1 (by simpa using rv) hw
def gSub (to ti:TE)(t:TSet):TG:=fun v σ H Q=>to σ H fun o H1=>ti σ H1 fun i H2=>t o i v H2 fun H3=>Q σ H3
def KO    (ho:PE X o to)(hi:PE X i ti)(hs:PSet X t)
  (ha:∀v,assign (.Subscript o i pos) X.env v=(do
   let ov <- holding [v] (eval o X.env)
   let iv <- holding [v,ov] (eval i X.env)
   standAt pos
   holding [v,ov,iv] (setItem ov iv v)
   release [v,ov,iv] []):=by intro _;rfl):PG X (.Subscript o i pos) (gSub to ti t):=by
 intro af s σ H v u Q I r h
 rw[ha]
 refine jf_ (qX_ (thn (ho af s σ H _ I h) fun ov s1 ⟨x,H1,I1,r1,q1⟩=>?_))
 refine jf_ (qX_ (thn (hi af s1 σ H1 _ I1 q1) fun iv s2 ⟨y,H2,I2,r2,q2⟩=>?_))
 refine jf_ (wpAny_standAt (jf_ (qX_ (thn (hs af s2 σ H2 x y v ov iv u _ I2 r1 r2 r q2) fun _ s3 ⟨H3,I3,q3⟩=>?_))))
 exact wpAny_release ⟨σ,H3,I3,q3⟩
def tAsg (te:TE)(g:TG):TS:=fun D σ H=>te σ H fun x H1=>g x σ H1 D.nx
def KQ    (he:PE X e te)(hg:PG X tg g)(hs:swapsWithSole [tg] e pos.line X.env=pure false:=by rfl)(hw:swappedStores [tg] e X.env=pure none:=by rfl)
  (h1:(assignEach [tg] X.env).map (·.2)=[assign tg X.env]:=by rfl):PS X (.Assign [tg] e pos) (tAsg te g):=by
 intro af s σ H D I h
 refine wpAny_Assign_stores (thn (he af s σ H _ I h) fun v s1 ⟨x,H1,I1,r1,q1⟩=>?_) hs hw
 rw[h1]
 exact thn (hg af s1 σ H1 x v _ I1 r1 q1) fun _ s2 q=>q
def Be      (hN:X.N.Nodup)(hi:X.N[i]?=some x)(hx:Loc X.env.scope x)(he:PE X e te)(hs:swapsWith e (some (.Name x bG)) pos.line X.env=pure false:=by rfl)(hf:X.fn x=true\/X.env.scope.names.lookup x=some .local:=by first|exact .inl rfl|exact .inr rfl|assumption):
  PS X (.Assign [.Name x bG] e pos) (tAsg te (Fz i)):=by
 intro af s σ H D I h
 refine wpAny_Assign_Name (thn (he af s σ H _ I h) fun v s1 ⟨y,H1,I1,r1,q1⟩=>?_) hs
 exact JL I1 hN hi hx r1 (fun s2 I2=>⟨_,H1,I2,q1⟩) hf
def tAug (i:Nat)(te:TE)(ti:TIp):TS:=fun D σ H=>∃x,σ[i]?=some (some x)/\te σ H fun y H1=>ti x y H1 fun z H2=>D.nx (σ.set i (some z)) H2
def O4        (hN:X.N.Nodup)(hi:X.N[i]?=some x)(hx:Loc X.env.scope x)(he:PE X e te)(ho:PIp X op ti)(hf:X.fn x=true\/X.env.scope.names.lookup x=some .local:=by first|exact .inl rfl|exact .inr rfl|assumption):
  PS X (.AugAssign (.Name x bG) op e pos) (tAug i te ti):=by
 intro af s σ H D I h
 obtain⟨v,e1,h⟩:=h
 obtain⟨m,hn,hl⟩:=I.loc
 have l7:Vis X.env.scope x:=by rcases hx with k|k;exact .inl k;exact .inr (.inl k)
 obtain⟨u,r,l⟩:=hl i x v hi e1 l7
 refine wpAny_AugAssign_Name ?_
 have go:wpAny (model X.prog X.w) X.A (eval e X.env) (fun w bt=>wpAny (model X.prog X.w) X.A (inplaceOp op u w) (fun r bj=>wpAny (model X.prog X.w) X.A (storeName X.env x r) (fun _=>SP X af D .next) X.xe bj) X.xe bt) X.xe s:=by
  refine thn (he af s σ H _ I h) fun w s1 ⟨y,H1,I1,r1,q1⟩=>?_
  refine thn (ho af s1 σ H1 v y u w _ I1 r r1 q1) fun z s2 ⟨zv,H2,I2,r2,q2⟩=>?_
  exact JL I2 hN hi hx r2 (fun s3 I3=>⟨_,H2,I3,q2⟩) hf
 rcases l with ⟨hk,hm⟩|⟨hk,c,hc,d9⟩
 ·exact wpAny_loadName_local I.ok.kind hk hn hm go
 ·rcases hk with hk|hk
  ·exact wpAny_loadName_cell I.ok.kind hk hc d9 go
  ·rcases hx with k|k
   ·have:X.env.scope.names.lookup x=some .free:=hk
    rw[k]at this;cases this
   ·have:X.env.scope.names.lookup x=some .free:=hk
    rw[k]at this;cases this
def ipI (f:Int->Int->Int):TIp:=fun x y H Q=>∃i j,x=.int i/\y=.int j/\Q (.int (f i j)) H
def S8:PIp X .Add (ipI fun i j=>i+j):=by
 intro af s σ H x y v u Q I r1 r2 h
 obtain⟨i,j,e1,e2,q⟩:=h
 subst e1;subst e2
 obtain⟨t,rfl⟩:=r1
 obtain⟨t',rfl⟩:=r2
 exact iadd_int ⟨.int _,H,I.tok _,⟨_,rfl⟩,q⟩
def VI:PIp X .Sub (ipI fun i j=>i-j):=by
 intro af s σ H x y v u Q I r1 r2 h
 obtain⟨i,j,e1,e2,q⟩:=h
 subst e1;subst e2
 obtain⟨t,rfl⟩:=r1
 obtain⟨t',rfl⟩:=r2
 exact isub_int ⟨.int _,H,I.tok _,⟨_,rfl⟩,q⟩
end
section
variable {X:Cx} {pos:Pos}
def S9 (c:TT)(tb:TS):TS:=fun D σ H=>∃W:Nat->St->Hp->Prop,(∃m,W m σ H)/\∀m σ H,W m σ H ->
 c σ H fun b H1=>if b=true then ∃N:St->Hp->Prop,(∀ag H',N ag H'->∃m',m'<m/\W m' ag H')/\tb {D with nx:=N,ct:=N,bk:=D.nx} σ H1 else D.nx σ H1
def Dp     (hp:PassesOwn (model X.prog X.w) X.A X.env X.xe)(hc:PT X c tc)(hb:PSs X body tb):PS X (.While c body [] pos) (S9 tc tb):=by
 intro af s σ H D I h
 obtain⟨W,⟨m0,w0⟩,turn⟩:=h
 refine wpAny_While (codeAny_whileLoop (fun n s'=>∃ag H',Inv X af ag H' s'/\W n ag H') ?_ m0 ⟨σ,H,I,w0⟩)
 rintro n s1 ⟨i6,H1,I1,w1⟩
 refine xy_ hp (thn (hc af s1 i6 H1 _ I1 (turn n i6 H1 w1)) fun b s2 ⟨H2,I2,q2⟩=>?_)
 cases b with
 |true=>
  obtain⟨N,hN,q2⟩:=q2
  rw[if_pos rfl]
  refine xy_ hp (thn (hb af s2 i6 H2 _ I2 q2) fun f s3 q3=>?_)
  cases f with
  |next=>
   obtain⟨aC,H3,I3,n3⟩:=q3
   obtain⟨m',hm,w3⟩:=hN aC H3 n3
   exact⟨m',hm,aC,H3,I3,w3⟩
  |cont=>
   obtain⟨aC,H3,I3,n3⟩:=q3
   obtain⟨m',hm,w3⟩:=hN aC H3 n3
   exact⟨m',hm,aC,H3,I3,w3⟩
  |brk=>exact q3
  |ret v=>exact q3
 |false=>
  rw[if_neg jv_]
  exact zH_ ⟨i6,H2,I2,q2⟩
end
structure It where
 go:Nat->Hp->Prop
 yld:Nat->Hp->V->Hp->Prop
 stop:Nat->Hp->Prop
def FpOk (X:Cx)(af:α7)(H:Hp)(b:Addr):Prop:=
 H b=none/\b≠X.env.locals/\b∉X.fs/\(b∈X.ex\/X.s₀.heap.objs.size<=b)/\(∀x c,X.env.cells.lookup x=some c->c≠b)/\∀p∈X.pn++af,p.1≠b
def Inv.fpOk       (I:Inv X af σ H s)(hb:s.heap.objs.size<=b)(hn:H' b=none):FpOk X af H' b:=by
 refine⟨hn,qL_ (jz_ I.lt hb),I.nofs hb,.inr (qm_ I.sz hb),fun x c e z=>?_,fun p hp z=>?_⟩
 ·obtain⟨v,q⟩:=I.cell x c e
  exact absurd (jz_ q.lt (by rw[z];exact hb)) (j8_ _)
 ·exact absurd (jz_ (js_ (I.pin p hp).1) (by rw[z];exact hb)) (j8_ _)
structure Turn (P:Program)(w:World)(K:α3)(tg:Expr)(J:It)(fp:List Addr)(it:Addr)(tn:Nat->Heap->Prop):Prop where
 mem:it∈fp
 obj:∀i h,tn i h->∀b∈fp,∃o,h.get? b=some o/\∀v,o.data ≠ .cell v
 keep:∀i h h',tn i h->(∀b∈fp,∀o,h.get? b=some o->h'.get? b=some o)->tn i h'
 item:∀(X:Cx),X.prog=P->X.w=w->X.K=K->X.calm=true->∀(i:Nat) (af:α7) (s:Shared) (σ:St) (H:Hp) (E:Value->Shared->Prop),Inv X af σ H s->(∀b∈fp,FpOk X af H b)->tn i s.heap->J.go i H ->
  wpAny (model P w) X.A (pyNext (.ref it)) (fun r s1=>∃u,r=some u /\
   wpAny (model P w) X.A (letOwnedTupleGo tg (.ref it) u) (fun _ s2=>∃x H',Inv X af σ H' s2/\RelV x u/\J.yld i H x H'/\tn (i+1) s2.heap/\∀b∈fp,H' b=none) E s1) E s
 done:∀(X:Cx),X.prog=P->X.w=w->X.K=K->X.calm=true->∀(i:Nat) (af:α7) (s:Shared) (σ:St) (H:Hp) (E:Value->Shared->Prop),Inv X af σ H s->(∀b∈fp,FpOk X af H b)->tn i s.heap->J.stop i H ->
  wpAny (model P w) X.A (pyNext (.ref it)) (fun r s1=>r=none/\Inv X af σ H s1) E s
 self:∀(A:Around) (i:Nat) (s:Shared) (Q:Value->Shared->Prop) (E:Value->Shared->Prop),tn i s.heap->Q (.ref it) s->wpAny (model P w) A (pyIter (.ref it)) Q E s
abbrev TI:=St->Hp->(It->Hp->Prop)->Prop
def PIE (X:Cx)(af:α7)(σ:St)(tg:Expr)(R:It->Hp->Prop)(l8:Value)(s2:Shared):Prop:=
 ∃(it:Addr) (fp:List Addr) (tn:Nat->Heap->Prop) (J:It) (H':Hp),l8=.ref it/\Inv X af σ H' s2/\Turn X.prog X.w X.K tg J fp it tn/\tn 0 s2.heap/\(∀b∈fp,FpOk X af H' b)/\R J H'
def PI (X:Cx)(tg iter:Expr)(wi:TI):Prop:=
 ∀(af:α7) (s:Shared) (σ:St) (H:Hp) (R:It->Hp->Prop),Inv X af σ H s->wi σ H R ->
  wpAny (model X.prog X.w) X.A (eval iter X.env) (fun v s1=>wpAny (model X.prog X.w) X.A (pyIter v) (PIE X af σ tg R) X.xe s1) X.xe s
def Ux      {it:Addr}      (ho:s.heap.get? it=some o)(hc:o.cls=.type n)(hd:o.data=.fields vs)
    (hn:["enumerate","zip","dict_itemiterator","dict_reverseitemiterator","odict_iterator","itertools.zip_longest","itertools.pairwise"].contains n=false) (hQ:Q () s):wpAny M A (letOwnedTupleGo tg (.ref it) u) Q E s:=by
  unfold letOwnedTupleGo
  cases tg<;>first
    | exact ju_ hQ
    | (cases u<;>first
        | exact ju_ hQ
        | (refine jf_ (wpAny_load ho ?_)
           rw[hc,hd]
           show wpAny M A (if (["enumerate","zip","dict_itemiterator","dict_reverseitemiterator","odict_iterator","itertools.zip_longest","itertools.pairwise"].contains n&&vs[0]? == some (rawInt _))=true then _ else _) Q E s
           rw[if_neg (by intro h;rw[hn,uv]at h;cases h)]
           exact ju_ hQ))
def Itl (K:α3)(a:Addr):It:=
 ⟨fun i H=>∃xs x,SqL K H a xs/\xs[i]?=some x,fun i H x H'=>H'=H/\∀xs,SqL K H a xs->xs[i]?=some x,fun i H=>∃xs,SqL K H a xs/\xs.length<=i⟩
def Itt (K:α3)(a:Addr):It:=
 ⟨fun i H=>∃xs x,SqT K H a xs/\xs[i]?=some x,fun i H x H'=>H'=H/\∀xs,SqT K H a xs->xs[i]?=some x,fun i H=>∃xs,SqT K H a xs/\xs.length<=i⟩
def Itr (lo:Int)(n:Nat):It:=⟨fun i _=>i<n,fun i H x H'=>H'=H/\x=.int (lo+i),fun i _=>n<=i⟩
def KR {P:Program}{w:World}{K:α3}{tg:Expr}(a it:Addr):Turn P w K tg (Itl K a) [it] it (fun i h=>h.IsListIter it a i) where
 mem:=by simp
 obj:=fun i h st b hb=>by
  have e:b=it:=by simpa using hb
  subst e
  obtain⟨o,e,c,d⟩:=st
  exact⟨o,e,fun v z=>by rw[d]at z;cases z⟩
 keep:=fun i h h' st k=>st.at fun o e=>k it (by simp) o e
 item:=by
  intro X hP hw hK hc i af s σ H E I hf st hg
  subst hP hw hK
  obtain⟨xs,x,hq,hx⟩:=hg
  obtain⟨its,rv,p,hz⟩:=I.list hq
  obtain⟨u,hu,ru⟩:=rv.get hx
  obtain⟨f0,f1,f2,f3,f4,f5⟩:=hf it (by simp)
  refine wpAny_pyNext_list_item st p.isList (x:=u) (by simpa using hu) fun h' ah sb=>?_
  have I1:Inv X af σ H {s with heap:=h' }:=I.turned (t':=s.toks) (fun b o hb e=>(sb.2 b hb).trans e) f0 f1 f3 f4 f5
  obtain⟨o,e,c,d⟩:=id ah
  exact⟨u,rfl,Ux (s:={s with heap:=h' }) e c d (by decide) ⟨x,H,I1,ru,⟨rfl,fun ys hy=>by rw[I.list_inj hy hq];exact hx⟩,ah,fun b hb=>(hf b hb).1⟩⟩
 done:=by
  intro X hP hw hK hc i af s σ H E I hf st hg
  subst hP hw hK
  obtain⟨xs,hq,hx⟩:=hg
  obtain⟨its,rv,p,hz⟩:=I.list hq
  obtain⟨f0,f1,f2,f3,f4,f5⟩:=hf it (by simp)
  have hl:=rv.length
  exact wpAny_pyNext_list_end (I.ok.hd hc) st p.isList (by simp;lia) fun h' eb=>⟨rfl,I.turned (t':=s.toks) (fun b o hb e=>eb b o hb e) f0 f1 f3 f4 f5⟩
 self:=fun _ _ _ _ _ st h=>wpAny_pyIter_listiter st h
def Je {P:Program}{w:World}{K:α3}{tg:Expr}(a it:Addr):Turn P w K tg (Itt K a) [it] it (fun i h=>h.IsTupleIter it a i) where
 mem:=by simp
 obj:=fun i h st b hb=>by
  have e:b=it:=by simpa using hb
  subst e
  obtain⟨o,e,c,d⟩:=st
  exact⟨o,e,fun v z=>by rw[d]at z;cases z⟩
 keep:=fun i h h' st k=>st.at fun o e=>k it (by simp) o e
 item:=by
  intro X hP hw hK hc i af s σ H E I hf st hg
  subst hP hw hK
  obtain⟨xs,x,hq,hx⟩:=hg
  obtain⟨its,rv,p,hz⟩:=I.tuple hq
  obtain⟨u,hu,ru⟩:=rv.get hx
  obtain⟨f0,f1,f2,f3,f4,f5⟩:=hf it (by simp)
  refine wpAny_pyNext_tuple_item st (show s.heap.IsTuple a its.toArray from p) (x:=u) (by simpa using hu) fun h' ah sb=>?_
  have I1:Inv X af σ H {s with heap:=h' }:=I.turned (t':=s.toks) (fun b o hb e=>(sb.2 b hb).trans e) f0 f1 f3 f4 f5
  obtain⟨o,e,c,d⟩:=id ah
  exact⟨u,rfl,Ux (s:={s with heap:=h' }) e c d (by decide) ⟨x,H,I1,ru,⟨rfl,fun ys hy=>by rw[I.tuple_inj hy hq];exact hx⟩,ah,fun b hb=>(hf b hb).1⟩⟩
 done:=by
  intro X hP hw hK hc i af s σ H E I hf st hg
  subst hP hw hK
  obtain⟨xs,hq,hx⟩:=hg
  obtain⟨its,rv,p,hz⟩:=I.tuple hq
  obtain⟨f0,f1,f2,f3,f4,f5⟩:=hf it (by simp)
  have hl:=rv.length
  exact wpAny_pyNext_tuple_end (I.ok.hd hc) st (show s.heap.IsTuple a its.toArray from p) (by simp;lia) fun h' eb=>⟨rfl,I.turned (t':=s.toks) (fun b o hb e=>eb b o hb e) f0 f1 f3 f4 f5⟩
 self:=fun _ _ _ _ _ st h=>wpAny_pyIter_tupleiter st h
def N3 {P:Program}{w:World}{K:α3}{tg:Expr}(it:Addr)(lo:Int)(n:Nat):Turn P w K tg (Itr lo n) [it] it (fun i h=>IsRangeIter h it (lo+(i:Nat)*1) ((n:Int)-(i:Nat)) 1) where
 mem:=by simp
 obj:=fun i h st b hb=>by
  have e:b=it:=by simpa using hb
  subst e
  exact⟨_,st,fun v z=>by
   have z':Data.fields _=Data.cell v:=z
   cases z'⟩
 keep:=fun i h h' st k=>k it (by simp) _ st
 item:=by
  intro X hP hw hK hc i af s σ H E I hf st hg
  subst hP hw hK
  obtain⟨f0,f1,f2,f3,f4,f5⟩:=hf it (by simp)
  have W:=Walks.range (prog:=X.prog) (w:=X.w) (I.ok.hd hc) it lo 1 n
  refine W.item i s _ _ hg st fun v h' tk hv ah kk=>?_
  obtain⟨t,rfl⟩:=hv
  have I1:Inv X af σ H {s with heap:=h',toks:=tk}:=I.turned (fun b o hb e=>kk b o (by simpa using hb) e) f0 f1 f3 f4 f5
  refine⟨_,rfl,Ux (s:={s with heap:=h',toks:=tk}) (n := "range_iterator") ah rfl rfl (by decide) ⟨.int (lo+i),H,I1,⟨t,?_⟩,⟨rfl,rfl⟩,ah,fun b hb=>(hf b hb).1⟩⟩
  rw[Int.mul_one]
 done:=by
  intro X hP hw hK hc i af s σ H E I hf st hg
  subst hP hw hK
  obtain⟨f0,f1,f2,f3,f4,f5⟩:=hf it (by simp)
  exact wpAny_pyNext_range_end (I.ok.hd hc) st (by have:n<=i:=hg;lia) fun h' eb=>⟨rfl,I.turned (t':=s.toks) (fun b o hb e=>eb b o hb e) f0 f1 f3 f4 f5⟩
 self:=fun _ _ _ _ _ st h=>wpAny_pyIter_rangeiter st h
end L2
namespace L2
open PySem PySem.Spec PyProof.Rows
section
variable {X:Cx} {tg:Expr}
def VJ (K:α3)(tl:TE):TI:=fun σ H R=>tl σ H fun x H1=>∃a,x=.ref a/\(∃xs,SqL K H1 a xs)/\R (Itl K a) H1
def iTup (K:α3)(tl:TE):TI:=fun σ H R=>tl σ H fun x H1=>∃a,x=.ref a/\(∃xs,SqT K H1 a xs)/\R (Itt K a) H1
def AW   (hl:PE X l tl):PI X tg l (VJ X.K tl):=by
 intro af s σ H R I h
 refine thn (hl af s σ H _ I h) fun v s1 ⟨x,H1,I1,r1,q1⟩=>?_
 obtain⟨a,e,⟨xs,hq⟩,q⟩:=q1
 subst e
 cases r1
 obtain⟨its,rv,p,hz⟩:=I1.list hq
 refine zr_ p.isList ?_
 refine⟨s1.heap.objs.size,[s1.heap.objs.size],_,_,H1,rfl,I1.kept (t':=s1.toks) fun b o e=>jo_ _ e,KR a _,⟨_,jH_ _ rfl,rfl,rfl⟩,fun b hb=>?_,q⟩
 have e:b=s1.heap.objs.size:=by simpa using hb
 subst e
 exact I1.fpOk (jg_ _) (I1.hok.fresh (jg_ _))
def E3   (hl:PE X l tl):PI X tg l (iTup X.K tl):=by
 intro af s σ H R I h
 refine thn (hl af s σ H _ I h) fun v s1 ⟨x,H1,I1,r1,q1⟩=>?_
 obtain⟨a,e,⟨xs,hq⟩,q⟩:=q1
 subst e
 cases r1
 obtain⟨its,rv,p,hz⟩:=I1.tuple hq
 refine xO_ (show s1.heap.IsTuple a its.toArray from p) ?_
 refine⟨s1.heap.objs.size,[s1.heap.objs.size],_,_,H1,rfl,I1.kept (t':=s1.toks) fun b o e=>jo_ _ e,Je a _,⟨_,jH_ _ rfl,rfl,rfl⟩,fun b hb=>?_,q⟩
 have e:b=s1.heap.objs.size:=by simpa using hb
 subst e
 exact I1.fpOk (jg_ _) (I1.hok.fresh (jg_ _))
def RH       {lo hi:Int}   (I:Inv X af σ H s)(h1 : -(2 ^ 62)<=lo)(h2:lo<2 ^ 62)(h3 : -(2 ^ 62)<=hi)(h4:hi<2 ^ 62)
  (q:R (Itr lo (hi-lo).toNat) H):wpAny (model X.prog X.w) X.A (pyIter (.ref s.heap.objs.size)) (PIE X af σ tg R) E {s with heap:=s.heap.push {cls:=.type "range",data:=.fields #[.int lo t,.int hi u,.int 1 v]},toks:=tk}:=by
 refine wpAny_pyIter_range (IsRange.new ..) (small_one h1 h2 h3 h4) ?_
 have I1:Inv X af σ H {s with heap:=s.heap.push {cls:=.type "range",data:=.fields #[.int lo t,.int hi u,.int 1 v]},toks:=tk}:=I.kept fun b o e=>jo_ _ e
 refine⟨(s.heap.push {cls:=.type "range",data:=.fields #[.int lo t,.int hi u,.int 1 v]}).objs.size,[(s.heap.push {cls:=.type "range",data:=.fields #[.int lo t,.int hi u,.int 1 v]}).objs.size],_,_,H,rfl,
  I1.kept (t':=tk) fun b o e=>jo_ _ e,N3 _ lo (hi-lo).toNat,?_,fun b hb=>?_,q⟩
 ·have e1:lo+((0:Nat):Int)*1=lo:=by simp
  have e2:(((hi-lo).toNat:Nat):Int)-((0:Nat):Int)=Builtin.Range.rangeSize lo hi 1:=by rw[rangeSize_one];split<;>lia
  show IsRangeIter _ _ (lo+((0:Nat):Int)*1) ((((hi-lo).toNat:Nat):Int)-((0:Nat):Int)) 1
  rw[e1,e2]
  exact jH_ _ rfl
 ·have e:b=(s.heap.push {cls:=.type "range",data:=.fields #[.int lo t,.int hi u,.int 1 v]}).objs.size:=by simpa using hb
  subst e
  exact I1.fpOk (jg_ _) (I1.hok.fresh (jg_ _))
def VL (ta:TA):TI:=fun σ H R=>ta σ H fun vs H1=>∃j:Int,vs=[.int j] /\ -(2 ^ 62)<=j/\j<2 ^ 62/\R (Itr 0 j.toNat) H1
def AR    (hg:Gl X "range")(hm:X.mg "range"=none)(ha:PA X [a] ta)(hs:starEach [a] X.env=[(false,eval a X.env)]:=by rfl):PI X tg (.Call (.Name "range" p) [a] [] pos) (VL ta):=by
 intro af s σ H R I h
 refine Call_ (D6 I hg hm boot_range (qf_ (thn (ha pos af s σ H _ I h) fun us s1 ⟨vs,H1,I1,r1,q1⟩=>?_) hs rfl))
 obtain⟨j,e,q1,q2,q⟩:=q1
 subst e
 cases r1 with
 |cons r rr=>
  cases rr
  obtain⟨t,rfl⟩:=r
  exact call_range_1 (RH I1 s!"" s!"" q1 q2 (by simpa using q))
def tFor (wi:TI)(g:TG)(tb:TS):TS:=fun D σ H=>wi σ H fun J H1=>∃W:Nat->Nat->St->Hp->Prop,(∃m,W 0 m σ H1)/\∀i m σ H,W i m σ H ->
 (J.stop i H/\D.nx σ H)\/(J.go i H/\∃N:St->Hp->Prop,(∀ag H',N ag H'->∃m',m'<m/\W (i+1) m' ag H')/\∀x H',J.yld i H x H'->g x σ H' fun aj H2=>tb {D with nx:=N,ct:=N,bk:=D.nx} aj H2)
def Jf (fp:List Addr)(h:Heap):α7:=fp.filterMap fun b=>(h.get? b).map fun o=>(b,o)
def CH     (hb:b∈fp)(e:h.get? b=some o):(b,o)∈Jf fp h:=List.mem_filterMap.mpr ⟨b,hb,by rw[e];rfl⟩
def O5    (hp:p∈Jf fp h):p.1∈fp/\h.get? p.1=some p.2:=by
 obtain⟨b,hb,e⟩:=List.mem_filterMap.mp hp
 cases q:h.get? b with
 |none=>rw[q]at e;cases e
 |some o=>
  rw[q]at e
  have e':(b,o)=p:=jr_ e
  subst e'
  exact⟨hb,q⟩
def Inv.pinned      (I:Inv X af σ H s)(hf:∀b∈fp,FpOk X af H b)(ho:∀b∈fp,∃o,s.heap.get? b=some o/\∀v,o.data ≠ .cell v):Inv X (af++Jf fp s.heap) σ H s:=
 I.pins_of fun p hp=>(jw_.mp hp).elim (fun z=>I.pin p (jy_ _ z)) fun z=>by
  obtain⟨hb,e⟩:=O5 z
  obtain⟨f0,f1,f2,_⟩:=hf p.1 hb
  obtain⟨o,e',d⟩:=ho p.1 hb
  rw[e]at e';cases e'
  exact⟨e,f0,f1,f2,d⟩
def Inv.unpinned     (I:Inv X (af++pl) σ H s):Inv X af σ H s:=I.pins_of fun p hp=>I.pin p (jy_ _ (j2_ _ hp))
def Bs {iter:Expr}  {wi:TI}    (hp:PassesOwn (model X.prog X.w) X.A X.env X.xe)(hc:X.calm=true)(hi:PI X tg iter wi)(hg:PG X tg g)(hb:PSs X body tb)
  (hs:∀x,foldedSetIterable iter X.env x=pure x:=by intro _;rfl):PS X (.For tg iter body [] pos) (tFor wi g tb):=by
 intro af s σ H D I h
 refine wpAny_For (thn (hi af s σ H _ I h) fun v s1 h1=>thn h1 fun l8 s2 h2=>?_) hs
 obtain⟨it,fp,tn,J,H2,e,I2,T,aP,f2,W,⟨m0,w0⟩,turn⟩:=h2
 subst e
 -- what stays true of oG iterator's objects through oG loop
 have cM:∀{H':Hp},(∀b∈fp,H' b=none)->∀b∈fp,FpOk X af H' b:=fun hn b hb=>⟨hn b hb,(f2 b hb).2⟩
 refine codeAny_forLoop_any (fun n s'=>∃i ag H',Inv X af ag H' s'/\tn i s'.heap/\(∀b∈fp,H' b=none)/\W i n ag H') ?_ m0 ⟨0,σ,H2,I2,aP,fun b hb=>(f2 b hb).1,w0⟩
 rintro n s3 ⟨i,aC,H3,I3,bR,lb,w3⟩
 rcases turn i n aC H3 w3 with ⟨stop,qn⟩|⟨go,N,hN,step⟩
 ·refine xy_ hp (thn (T.done X rfl rfl rfl hc i af s3 aC H3 X.xe I3 (cM lb) bR stop) fun r s4 ⟨hr,I4⟩=>?_)
  subst hr
  exact zH_ ⟨aC,H3,I4,qn⟩
 ·refine xy_ hp (thn (T.item X rfl rfl rfl hc i af s3 aC H3 X.xe I3 (cM lb) bR go) fun r s4 ⟨u,hr,h4⟩=>?_)
  subst hr
  refine xy_ hp (thn h4 fun _ s5 ⟨x,H5,I5,r5,y5,a9,l9⟩=>?_)
  have md:=I5.pinned (cM l9) (T.obj _ _ a9)
  refine xy_ hp (thn (hg _ s5 aC H5 x u _ md r5 (step x H5 y5)) fun _ s6 ⟨dm,H6,I6,q6⟩=>?_)
  refine xy_ hp (thn (hb _ s6 dm H6 _ I6 q6) fun f s7 q7=>?_)
  have again:∀{df:St} {H7:Hp},Inv X (af++Jf fp s5.heap) df H7 s7->N df H7->∃m,m<n/\∃i ag H',Inv X af ag H' s7/\tn i s7.heap/\(∀b∈fp,H' b=none)/\W i m ag H':=fun {df H7} I7 n7=>by
   obtain⟨m',hm,w7⟩:=hN df H7 n7
   refine⟨m',hm,i+1,df,H7,I7.unpinned,T.keep _ _ _ a9 fun b hb o e=>(I7.pin (b,o) (jy_ _ (jy_ _ (CH hb e)))).1,fun b hb=>?_,w7⟩
   obtain⟨o,e,d⟩:=T.obj _ _ a9 b hb
   exact (I7.pin (b,o) (jy_ _ (jy_ _ (CH hb e)))).2.1
  cases f with
  |next=>obtain⟨df,H7,I7,n7⟩:=q7;exact again I7 n7
  |cont=>obtain⟨df,H7,I7,n7⟩:=q7;exact again I7 n7
  |brk=>obtain⟨df,H7,I7,q7⟩:=q7;exact⟨df,H7,I7.unpinned,q7⟩
  |ret v=>obtain⟨x7,df,H7,I7,r7,q7⟩:=q7;exact⟨x7,df,H7,I7.unpinned,r7,q7⟩
end
def RI {K:α3}{a:Addr}{xs:List V}{g:TG}{tb:TS}{D:Ends}{σ:St}{H:Hp}(Pv:Nat->St->Hp->Prop)(h0:Pv 0 σ H)(hl:∀i σ H,i<=xs.length->Pv i σ H->SqL K H a xs)
  (hs:∀i x σ H,xs[i]?=some x->Pv i σ H->g x σ H fun aj H2=>tb {D with nx:=Pv (i+1),ct:=Pv (i+1),bk:=D.nx} aj H2) (hd:∀σ H,Pv xs.length σ H->D.nx σ H):
  ∃W:Nat->Nat->St->Hp->Prop,(∃m,W 0 m σ H)/\∀i m σ H,W i m σ H ->
   ((Itl K a).stop i H/\D.nx σ H)\/((Itl K a).go i H/\∃N:St->Hp->Prop,(∀ag H',N ag H'->∃m',m'<m/\W (i+1) m' ag H')/\∀x H',(Itl K a).yld i H x H'->g x σ H' fun aj H2=>tb {D with nx:=N,ct:=N,bk:=D.nx} aj H2):=by
 refine⟨fun i m σ H=>m=xs.length-i/\i<=xs.length/\Pv i σ H,⟨xs.length,by simp,jX_ _,h0⟩,?_⟩
 rintro i m σ H ⟨rfl,hi,p⟩
 have q:=hl i σ H hi p
 by_cases au:i<xs.length
 ·refine .inr ⟨⟨xs,xs[i],q,by simp[au]⟩,Pv (i+1),fun ag H' p'=>⟨xs.length-(i+1),by lia,rfl,au,p'⟩,fun x H' y=>?_⟩
  obtain⟨e,y⟩:=y
  subst e
  exact hs i x σ _ (y xs q) p
 ·have e:i=xs.length:=by lia
  subst e
  exact .inl ⟨⟨xs,q,jg_ _⟩,hd σ H p⟩
def Uy {K:α3}{a:Addr}{xs:List V}{g:TG}{tb:TS}{D:Ends}{σ:St}{H:Hp}(Pv:Nat->St->Hp->Prop)(h0:Pv 0 σ H)(hl:∀i σ H,i<=xs.length->Pv i σ H->SqT K H a xs)
  (hs:∀i x σ H,xs[i]?=some x->Pv i σ H->g x σ H fun aj H2=>tb {D with nx:=Pv (i+1),ct:=Pv (i+1),bk:=D.nx} aj H2) (hd:∀σ H,Pv xs.length σ H->D.nx σ H):
  ∃W:Nat->Nat->St->Hp->Prop,(∃m,W 0 m σ H)/\∀i m σ H,W i m σ H ->
   ((Itt K a).stop i H/\D.nx σ H)\/((Itt K a).go i H/\∃N:St->Hp->Prop,(∀ag H',N ag H'->∃m',m'<m/\W (i+1) m' ag H')/\∀x H',(Itt K a).yld i H x H'->g x σ H' fun aj H2=>tb {D with nx:=N,ct:=N,bk:=D.nx} aj H2):=by
 refine⟨fun i m σ H=>m=xs.length-i/\i<=xs.length/\Pv i σ H,⟨xs.length,by simp,jX_ _,h0⟩,?_⟩
 rintro i m σ H ⟨rfl,hi,p⟩
 have q:=hl i σ H hi p
 by_cases au:i<xs.length
 ·refine .inr ⟨⟨xs,xs[i],q,by simp[au]⟩,Pv (i+1),fun ag H' p'=>⟨xs.length-(i+1),by lia,rfl,au,p'⟩,fun x H' y=>?_⟩
  obtain⟨e,y⟩:=y
  subst e
  exact hs i x σ _ (y xs q) p
 ·have e:i=xs.length:=by lia
  subst e
  exact .inl ⟨⟨xs,q,jg_ _⟩,hd σ H p⟩
def O6 {lo:Int}{n:Nat}{g:TG}{tb:TS}{D:Ends}{σ:St}{H:Hp}(Pv:Nat->St->Hp->Prop)(h0:Pv 0 σ H)
  (hs:∀i σ H,i<n->Pv i σ H->g (.int (lo+i)) σ H fun aj H2=>tb {D with nx:=Pv (i+1),ct:=Pv (i+1),bk:=D.nx} aj H2) (hd:∀σ H,Pv n σ H->D.nx σ H):
  ∃W:Nat->Nat->St->Hp->Prop,(∃m,W 0 m σ H)/\∀i m σ H,W i m σ H ->
   ((Itr lo n).stop i H/\D.nx σ H)\/((Itr lo n).go i H/\∃N:St->Hp->Prop,(∀ag H',N ag H'->∃m',m'<m/\W (i+1) m' ag H')/\∀x H',(Itr lo n).yld i H x H'->g x σ H' fun aj H2=>tb {D with nx:=N,ct:=N,bk:=D.nx} aj H2):=by
 refine⟨fun i m σ H=>m=n-i/\i<=n/\Pv i σ H,⟨n,by simp,jX_ _,h0⟩,?_⟩
 rintro i m σ H ⟨rfl,hi,p⟩
 by_cases au:i<n
 ·refine .inr ⟨au,Pv (i+1),fun ag H' p'=>⟨n-(i+1),by lia,rfl,au,p'⟩,fun x H' y=>?_⟩
  obtain⟨e,y⟩:=y
  subst e y
  exact hs i σ _ au p
 ·have e:i=n:=by lia
  subst e
  exact .inl ⟨jg_ _,hd σ H p⟩
end L2
namespace L2
open PySem PySem.Spec PyProof.Rows
abbrev R2:=V->V->Hp->VK->Prop
def OpR (X:Cx)(f:Value->Value->Sem Value)(r:R2):Prop:=
 ∀(af:α7) (s:Shared) (σ:St) (H:Hp) (x y:V) (v u:Value) (Q:VK),Inv X af σ H s->RelV x v->RelV y u->r x y H Q ->
  wpAny (model X.prog X.w) X.A (f v u) (EP X af σ Q) X.xe s
def UnR (X:Cx)(f:Value->Sem Value)(r:V->Hp->VK->Prop):Prop:=
 ∀(af:α7) (s:Shared) (σ:St) (H:Hp) (x:V) (v:Value) (Q:VK),Inv X af σ H s->RelV x v->r x H Q ->
  wpAny (model X.prog X.w) X.A (f v) (EP X af σ Q) X.xe s
def Cr (X:Cx)(f:Value)(r:List V->Hp->VK->Prop):Prop:=
 ∀(af:α7) (s:Shared) (σ:St) (H:Hp) (xs:List V) (us:List Value) (Q:VK),Inv X af σ H s->Vals xs us->r xs H Q ->
  wpAny (model X.prog X.w) X.A (call f us) (EP X af σ Q) X.xe s
def tOp (r:R2)(ta tb:TE):TE:=fun σ H Q=>ta σ H fun x H1=>tb σ H1 fun y H2=>r x y H2 Q
def tUn (r:V->Hp->VK->Prop)(ta:TE):TE:=fun σ H Q=>ta σ H fun x H1=>r x H1 Q
def rI (C:Int->Int->Prop)(g:Int->Int->V):R2:=fun x y H Q=>∃i j,x=.int i/\y=.int j/\C i j/\Q (g i j) H
def rI0 (g:Int->Int->V):R2:=fun x y H Q=>∃i j,x=.int i/\y=.int j/\Q (g i j) H
def rU (g:Int->V):V->Hp->VK->Prop:=fun x H Q=>∃i,x=.int i/\Q (g i) H
section
variable {X:Cx} {a b c:Expr} {ta tb tc:TE} {pos:Pos}
def binT (ha:PE X a ta)(hb:PE X b tb){af:α7}{s:Shared}{σ:St}{H:Hp}{R:V->V->Hp->Prop}(I:Inv X af σ H s)
  (h:ta σ H fun x H1=>tb σ H1 fun y H2=>R x y H2) {Q:Value->Shared->Prop} {f:Value->Value->Sem Value}
  (hf:∀v u s2 x y H2,Inv X af σ H2 s2->RelV x v->RelV y u->R x y H2->wpAny (model X.prog X.w) X.A (f v u) Q X.xe s2):
  wpAny (model X.prog X.w) X.A (eval a X.env) (fun v s₁=>wpAny (model X.prog X.w) X.A (eval b X.env) (fun u bt=>wpAny (model X.prog X.w) X.A (f v u) Q X.xe bt) X.xe s₁) X.xe s:=by
 refine thn (ha af s σ H _ I h) fun v s1 ⟨x,H1,I1,r1,q1⟩=>?_
 refine thn (hb af s1 σ H1 _ I1 q1) fun u s2 ⟨y,H2,I2,r2,q2⟩=>?_
 exact hf v u s2 x y H2 I2 r1 r2 q2
def An   (ho:OpR X (binaryOp op) r)(ha:PE X a ta)(hb:PE X b tb):PE X (.BinOp a op b pos) (tOp r ta tb):=by
 intro af s σ H Q I h
 exact wpAny_BinOp (binT ha hb I h fun v u s2 x y H2 I2 rx ry q=>ho af s2 σ H2 x y v u Q I2 rx ry q)
def VM   (ho:UnR X (unaryOp op) r)(ha:PE X a ta):PE X (.UnaryOp op a pos) (tUn r ta):=by
 intro af s σ H Q I h
 exact UnaryOp_ (thn (ha af s σ H _ I h) fun v s1 ⟨x,H1,I1,r1,q1⟩=>ho af s1 σ H1 x v Q I1 r1 q1)
def opI {f:Value->Value->Sem Value}{C:Int->Int->Prop}{g:Int->Int->Int}
  (rule:∀(i j:Int) (t u:Tok) (s:Shared) (Q:Value->Shared->Prop) (E:Value->Shared->Prop),C i j->Q (.int (g i j) s.toks) {s with toks:=s.toks+1}->wpAny (model X.prog X.w) X.A (f (.int i t) (.int j u)) Q E s):
  OpR X f (rI C fun i j=>.int (g i j)):=by
 intro af s σ H x y v u Q I rx ry h
 obtain⟨i,j,rfl,rfl,hc,q⟩:=h
 obtain⟨t,rfl⟩:=rx
 obtain⟨t',rfl⟩:=ry
 exact rule i j t t' s _ _ hc ⟨.int (g i j),H,I.tok _,⟨_,rfl⟩,q⟩
def opI0 {f:Value->Value->Sem Value}{g:Int->Int->Int}
  (rule:∀(i j:Int) (t u:Tok) (s:Shared) (Q:Value->Shared->Prop) (E:Value->Shared->Prop),Q (.int (g i j) s.toks) {s with toks:=s.toks+1}->wpAny (model X.prog X.w) X.A (f (.int i t) (.int j u)) Q E s):
  OpR X f (rI0 fun i j=>.int (g i j)):=by
 intro af s σ H x y v u Q I rx ry h
 obtain⟨i,j,rfl,rfl,q⟩:=h
 obtain⟨t,rfl⟩:=rx
 obtain⟨t',rfl⟩:=ry
 exact rule i j t t' s _ _ ⟨.int (g i j),H,I.tok _,⟨_,rfl⟩,q⟩
def opB0 {f:Value->Value->Sem Value}{g:Int->Int->Bool}
  (rule:∀(i j:Int) (t u:Tok) (s:Shared) (Q:Value->Shared->Prop) (E:Value->Shared->Prop),Q (.bool (g i j)) s->wpAny (model X.prog X.w) X.A (f (.int i t) (.int j u)) Q E s):
  OpR X f (rI0 fun i j=>.bl (g i j)):=by
 intro af s σ H x y v u Q I rx ry h
 obtain⟨i,j,rfl,rfl,q⟩:=h
 obtain⟨t,rfl⟩:=rx
 obtain⟨t',rfl⟩:=ry
 exact rule i j t t' s _ _ ⟨.bl (g i j),H,I,rfl,q⟩
def CDiv (i j:Int):Prop:=0<j/\j<1073741824
def CMul (i j:Int):Prop:=(-(2 ^ 64)<i/\i<2 ^ 64)\/(-(2 ^ 64)<j/\j<2 ^ 64)
def CMul.ok  (h:CMul i j):IntMulOk i j:=by
 rcases h with ⟨h1,h2⟩|⟨h1,h2⟩
 ·exact .of_left (intBits_le_64 h1 h2)
 ·exact .of_right (intBits_le_64 h1 h2)
def AY:OpR X (binaryOp .Add) (rI0 fun i j=>.int (i+j)):=opI0 fun _ _ _ _ _ _ _ q=>add_int q
def CQ:OpR X (binaryOp .Sub) (rI0 fun i j=>.int (i-j)):=opI0 fun _ _ _ _ _ _ _ q=>sub_int q
def FA:OpR X (binaryOp .Mult) (rI CMul fun i j=>.int (i*j)):=opI fun _ _ _ _ _ _ _ hc q=>mul_int q hc.ok
def BX:OpR X (binaryOp .FloorDiv) (rI CDiv fun i j=>.int (i / j)):=opI fun i j _ _ _ _ _ hc q=>by
 have h1:(0:Int)<j:=hc.1
 have h2:j<1073741824:=hc.2
 exact floordiv_int s!"" (by rw[Int.fdiv_eq_ediv_of_nonneg i s!""];exact q) (.inl (PyProof.noPylong_small s!""))
def AM:OpR X (binaryOp .Mod) (rI (fun _ j=>0<j) fun i j=>.int (i%j)):=opI fun i j _ _ _ _ _ hc q=>by
 have h1:(0:Int)<j:=hc
 exact mod_int' s!"" (by rw[Int.fmod_eq_emod_of_nonneg i s!""];exact q)
def unI {f:Value->Sem Value}{g:Int->Int}
  (rule:∀(i:Int) (t:Tok) (s:Shared) (Q:Value->Shared->Prop) (E:Value->Shared->Prop),Q (.int (g i) s.toks) {s with toks:=s.toks+1}->wpAny (model X.prog X.w) X.A (f (.int i t)) Q E s):
  UnR X f (rU fun i=>.int (g i)):=by
 intro af s σ H x v Q I rx h
 obtain⟨i,rfl,q⟩:=h
 obtain⟨t,rfl⟩:=rx
 exact rule i t s _ _ ⟨.int (g i),H,I.tok _,⟨_,rfl⟩,q⟩
def Ta:UnR X (unaryOp .USub) (rU fun i=>.int (-i)):=unI fun _ _ _ _ _ q=>neg_int q
end
def scal:V->V->Bool
 |.non,.non=>true | .non,.int _=>true | .int _,.non=>true | .non,.bl _=>true | .bl _,.non=>true | .non,.str _=>true | .str _,.non=>true
 |.int _,.int _=>true | .bl _,.bl _=>true | .str _,.str _=>true | .byt _,.byt _=>true
 |.int _,.str _=>true | .str _,.int _=>true | .bl _,.str _=>true | .str _,.bl _=>true
 |_,_=>false
def rEq:R2:=fun x y H Q=>scal x y=true/\Q (.bl (decide (x=y))) H
def rNe:R2:=fun x y H Q=>scal x y=true/\Q (.bl (!decide (x=y))) H
def O7  : decide (V.int i=V.int j)=(i==j):=by
 rw[qy_]
 simp
def Tc  : decide (V.bl i=V.bl j)=(i==j):=by
 rw[qy_]
 simp
def O8  : decide (V.str i=V.str j)=(i==j):=by
 rw[qy_]
 simp
def O9  : decide (V.byt i=V.byt j)=(i.toList==j.toList):=by
 rw[qy_]
 cases i
 cases j
 simp
section
variable {X:Cx} {a b c:Expr} {ta tb tc:TE} {pos:Pos}
def A4       (I:Inv X af σ H s)(q:Q (.bl k) H)(e:k=k'):EP X af σ Q (.bool k') s:=by
 subst e
 exact⟨.bl k,H,I,rfl,q⟩
def Cb:OpR X (compareOp .Eq) rEq:=by
 intro af s σ H x y v u Q I rx ry h
 obtain⟨hs,q⟩:=h
 cases x with
 |non=>
  cases rx
  cases y with
  |non=>cases ry;exact uF (A4 I q (by simp))
  |bl j=>cases ry;exact uG (A4 I q (by simp))
  |int j=>obtain⟨t',rfl⟩:=ry;exact uP (A4 I q (by simp))
  |str j=>obtain⟨t',rfl⟩:=ry;exact uQ (A4 I q (by simp))
  |_=>exact absurd (show false=true from hs) jv_
 |bl i=>
  cases rx
  cases y with
  |non=>cases ry;exact uH (A4 I q (by simp))
  |bl j=>cases ry;exact eq_bool (A4 I q Tc)
  |str j=>obtain⟨t',rfl⟩:=ry;exact uI (A4 I q (by simp))
  |_=>exact absurd (show false=true from hs) jv_
 |int i=>
  obtain⟨t,rfl⟩:=rx
  cases y with
  |non=>cases ry;exact uR (A4 I q (by simp))
  |int j=>obtain⟨t',rfl⟩:=ry;exact eq_int (A4 I q O7)
  |str j=>obtain⟨t',rfl⟩:=ry;exact uS (A4 I q (by simp))
  |_=>exact absurd (show false=true from hs) jv_
 |str i=>
  obtain⟨t,rfl⟩:=rx
  cases y with
  |non=>cases ry;exact uT (A4 I q (by simp))
  |bl j=>cases ry;exact uJ (A4 I q (by simp))
  |int j=>obtain⟨t',rfl⟩:=ry;exact uU (A4 I q (by simp))
  |str j=>obtain⟨t',rfl⟩:=ry;exact eq_str (A4 I q O8)
  |_=>exact absurd (show false=true from hs) jv_
 |byt i=>
  obtain⟨t,rfl⟩:=rx
  cases y with
  |byt j=>obtain⟨t',rfl⟩:=ry;exact vZ (A4 I q O9)
  |_=>exact absurd (show false=true from hs) jv_
 |_=>cases y<;>exact absurd (show false=true from hs) jv_
def RJ:OpR X (compareOp .NotEq) rNe:=by
 intro af s σ H x y v u Q I rx ry h
 obtain⟨hs,q⟩:=h
 cases x with
 |non=>
  cases rx
  cases y with
  |non=>cases ry;exact uK (A4 I q (by simp))
  |bl j=>cases ry;exact uL (A4 I q (by simp))
  |int j=>obtain⟨t',rfl⟩:=ry;exact uV (A4 I q (by simp))
  |str j=>obtain⟨t',rfl⟩:=ry;exact uW (A4 I q (by simp))
  |_=>exact absurd (show false=true from hs) jv_
 |bl i=>
  cases rx
  cases y with
  |non=>cases ry;exact uM (A4 I q (by simp))
  |bl j=>cases ry;exact ne_bool (A4 I q (jC_ not Tc))
  |str j=>obtain⟨t',rfl⟩:=ry;exact uN (A4 I q (by simp))
  |_=>exact absurd (show false=true from hs) jv_
 |int i=>
  obtain⟨t,rfl⟩:=rx
  cases y with
  |non=>cases ry;exact uX (A4 I q (by simp))
  |int j=>obtain⟨t',rfl⟩:=ry;exact ne_int (A4 I q (jC_ not O7))
  |str j=>obtain⟨t',rfl⟩:=ry;exact uY (A4 I q (by simp))
  |_=>exact absurd (show false=true from hs) jv_
 |str i=>
  obtain⟨t,rfl⟩:=rx
  cases y with
  |non=>cases ry;exact uZ (A4 I q (by simp))
  |bl j=>cases ry;exact uO (A4 I q (by simp))
  |int j=>obtain⟨t',rfl⟩:=ry;exact u9 (A4 I q (by simp))
  |str j=>obtain⟨t',rfl⟩:=ry;exact ne_str (A4 I q (jC_ not O8))
  |_=>exact absurd (show false=true from hs) jv_
 |byt i=>
  obtain⟨t,rfl⟩:=rx
  cases y with
  |byt j=>obtain⟨t',rfl⟩:=ry;exact v3 (A4 I q (jC_ not O9))
  |_=>exact absurd (show false=true from hs) jv_
 |_=>cases y<;>exact absurd (show false=true from hs) jv_
def HE:OpR X (compareOp .Lt) (rI0 fun i j=>.bl (decide (i<j))):=opB0 fun _ _ _ _ _ _ _ q=>lt_int q
def VN:OpR X (compareOp .LtE) (rI0 fun i j=>.bl (decide (i<=j))):=opB0 fun _ _ _ _ _ _ _ q=>le_int q
def Uz:OpR X (compareOp .Gt) (rI0 fun i j=>.bl (decide (j<i))):=opB0 fun _ _ _ _ _ _ _ q=>gt_int q
def VO:OpR X (compareOp .Is) (fun x y H Q=>y=.non/\Q (.bl (decide (x=.non))) H):=by
 intro af s σ H x y v u Q I rx ry h
 obtain⟨rfl,q⟩:=h
 cases ry
 refine is_none_gen (A4 I q ?_)
 cases x<;>first
  | (cases rx;rfl)
  | (obtain⟨t,rfl⟩:=rx;rfl)
def AI (b:Expr)  (h:op ≠ .In:=by decide)(h2:op ≠ .NotIn:=by decide):behindInMarks op b=false:=by
 have e1:(op==CmpOp.In)=false:=by cases op<;>first|rfl|exact absurd rfl h
 have e2:(op==CmpOp.NotIn)=false:=by cases op<;>first|rfl|exact absurd rfl h2
 cases b<;>simp[behindInMarks,e1,e2]
def UA   (ho:OpR X (compareOp op) r)(ha:PE X a ta)(hb:PE X b tb)(hm:behindInMarks op b=false):PE X (.Compare a [op] [b] pos) (tOp r ta tb):=by
 intro af s σ H Q I h
 exact wpAny_Compare1 (binT ha hb I h fun v u s2 x y H2 I2 rx ry q=>ho af s2 σ H2 x y v u Q I2 rx ry q) hm
def RK (t:TE):TT:=fun σ H Q=>t σ H fun x H'=>∃k,x=.bl k/\Q k H'
def As   (ho:OpR X (compareOp op) r)(ha:PE X a ta)(hb:PE X b tb)(hm:behindInMarks op b=false):PT X (.Compare a [op] [b] pos) (RK (tOp r ta tb)):=by
 intro af s σ H Q I h
 refine wpAny_isTrue_Compare1 (thn (ha af s σ H _ I h) fun v s1 ⟨x,H1,I1,r1,q1⟩=>thn (hb af s1 σ H1 _ I1 q1) fun u s2 ⟨y,H2,I2,r2,q2⟩ =>
  thn (ho af s2 σ H2 x y v u _ I2 r1 r2 q2) fun c s3 ⟨z,H3,I3,r3,k,e,q3⟩=>?_) hm
 subst e
 cases r3
 exact xV_ ⟨H3,I3,q3⟩
def Td (r r':R2)(ta tb tc:TE):TE:=fun σ H Q=>ta σ H fun x H1=>tb σ H1 fun y H2=>r x y H2 fun z H3=>∃k,z=.bl k /\
 (if k=true then tc σ H3 fun w' H4=>r' y w' H4 Q else Q (.bl false) H3)
def RL   (ho:OpR X (compareOp op) r)(h8:OpR X (compareOp op') r')(ha:PE X a ta)(hb:PE X b tb)(hc:PE X c tc)
  (hm:lastMarks [op,op'] [b,c]=false:=by with_unfolding_all rfl):PE X (.Compare a [op,op'] [b,c] pos) (Td r r' ta tb tc):=by
 intro af s σ H Q I h
 refine Compare_chain (thn (ha af s σ H _ I h) fun v s1 ⟨x,H1,I1,r1,q1⟩=>chain_link (thn (hb af s1 σ H1 _ I1 q1) fun u s2 ⟨y,H2,I2,r2,q2⟩ =>
  thn (ho af s2 σ H2 x y v u _ I2 r1 r2 q2) fun d s3 ⟨z,H3,I3,r3,k,e,q3⟩=>?_)) hm
 subst e
 cases r3
 refine xV_ ?_
 cases k with
 |false=>exact ite_ff ⟨.bl false,H3,I3,rfl,q3⟩
 |true=>exact ite_tt (chain_last (thn (hc af s3 σ H3 _ I3 q3) fun w' s4 ⟨z',H4,I4,r4,q4⟩=>h8 af s4 σ H4 y z' u w' Q I4 r2 r4 q4))
def KS:(sizeLine:Nat)<2 ^ 63:=by rw[zI_];decide
def vals1   (r:Vals [x] us):∃u,us=[u]/\RelV x u:=by
 cases r with
 |cons r1 r2=>cases r2;exact⟨_,rfl,r1⟩
def vals2   (r:Vals [x,y] us):∃u w',us=[u,w']/\RelV x u/\RelV y w':=by
 cases r with
 |cons r1 r2=>
  cases r2 with
  |cons r3 r4=>cases r4;exact⟨_,_,rfl,r1,r3⟩
def Pb (hc:X.calm=true):Cr X (.builtin "min") (fun xs H Q=>∃i j,xs=[.int i,.int j]/\Q (.int (if j<i then j else i)) H):=by
 intro af s σ H xs us Q I r h
 obtain⟨i,j,rfl,q⟩:=h
 obtain⟨u,w',rfl,⟨t,rfl⟩,⟨t',rfl⟩⟩:=vals2 r
 refine min_two_ints (I.ok.hd hc) fun h' tk k=>⟨_,H,I.kept k,?_,q⟩
 by_cases hj:j<i
 ·rw[if_pos hj,if_pos hj];exact⟨_,rfl⟩
 ·rw[if_neg hj,if_neg hj];exact⟨_,rfl⟩
end
end L2
namespace L2
open PySem PySem.Spec PyProof.Rows
structure ObjM (h:Heap)(x dx C:Addr)(mA:Str->α5):Prop where
 obj:h.get? x=some (rZ C dx)
 ns:h.Ns1 dx mA
 ne:dx≠x
def Pe {h:Heap}{dx:Addr}{mA:Str->α5}(n:h.Ns1 dx mA):∃od,h.get? dx=some od/\∀name,sI name od=some (mA name):=by
 obtain⟨o,es,ep,ho,hd,hk,_,hm⟩:=n
 refine⟨o,ho,fun name=>?_⟩
 have e:=hm name
 unfold nsFind findBy at e
 rw[<-Array.find?_toList]at e
 unfold sI
 rw[hd]
 dsimp only
 split
 ·rename_i y q
  rw[q]at e
  exact jC_ some e
 ·rename_i q
  rw[q]at e
  have a:es.toList.any (·.refKey)=false:=by
   rw[tD]
   intro y hy
   obtain⟨z,t,bH⟩:=hk y (Array.mem_toList_iff.mp hy)
   simp[DictEntry.refKey,bH]
  have a':¬ es.toList.any (·.refKey)=true:=by rw[a];exact jv_
  rw[if_neg a']
  exact jC_ some e
def ObjM.look    (I:ObjM h x dx C mA):∃od,wF h x (rZ C dx) C (some od)/\∀name,sI name od=some (mA name):=
 let ⟨od,ho,hl⟩:=Pe I.ns
 ⟨od,⟨I.obj,rfl,rfl,ho⟩,hl⟩
def RelO.some_of   (r:RelO (some v) o):∃u,o=some u/\RelV v u:=by
 cases o with
 |none=>exact (show False from r).elim
 |some u=>exact⟨u,rfl,r⟩
section
variable {P:Program} {w:World} {H H':Hp} {h h':Heap} {a C dx:Addr} {fs fs':List (Str×V)}
def UB (hok:HOk P w H h)(e:H a=some (.ins C dx fs)):∃mA,ObjM h a dx C mA/\(∀f,RelO (fs.lookup f) (mA f))/\vj mA (fs.map (·.1))/\fs.length<=1000/\H dx=some (.own a):=by
 obtain⟨d,z,ne,ob,mA,n,r,q⟩:=(show Bo P w H h a (.ins C dx fs) from hok a _ e)
 exact⟨mA,⟨ob,n,ne⟩,r,q,z,d⟩
end
structure Cls (K:α3)(C:Addr):Prop where
 pg:tT K C Str.empty=true
 hd:vS K C=true
 po:vT K C=true
 sa:uw K (.ref C) "__setattr__"=some (some (.builtin "object.__setattr__"))
def Cls.get {K:α3}  (c:Cls K C)(f:Str):tT K C f=true:=c.pg
section
variable {X:Cx} {af:α7} {σ:St} {H:Hp} {s:Shared} {A:Around} {E:Value->Shared->Prop} {Q:Value->Shared->Prop} {c:Value} {b:Bool}
inductive TyOf (K:α3)(H:Hp):V->Value->Prop where
 | non:TyOf K H .non (.type "NoneType")
 | bl (x:Bool):TyOf K H (.bl x) (.type "bool")
 | int (i:Int):TyOf K H (.int i) (.type "int")
 | str (x:Str):TyOf K H (.str x) (.type "str")
 | flt (x:UInt64):TyOf K H (.flt x) (.type "float")
 | lst {a:Addr} {xs:List V} (e:H a=some (.lst xs)):TyOf K H (.ref a) (.type "list")
 | frz {a:Addr} {o:Obj} {xs:List V} (e:H a=some (.frz o (.lst xs))):TyOf K H (.ref a) (.type "list")
 | tup {a:Addr} {xs:List V} (e:H a=some (.tup xs)):TyOf K H (.ref a) (.type "tuple")
 | dK {a:Addr} {kvs:List (Key×V)} (e:H a=some (.dK kvs)):TyOf K H (.ref a) (.type "dict")
 | dT {a:Addr} {kvs:List (List Key×V)} (e:H a=some (.dT kvs)):TyOf K H (.ref a) (.type "dict")
 | ins {a C dx:Addr} {fs:List (Str×V)} (e:H a=some (.ins C dx fs)) (cl:Cls K C) (ha:uw K (.ref C) "__class__"=some (some (.builtin "object.__class__")))
   (hn:vU K (.builtin "object.__class__") "__get__"=some (some (.builtin "getset_descriptor.__get__"))) (ic:wA K (.builtin "object.__class__")=some true)
   (hm:wJ K C (.type "object")=some true):TyOf K H (.ref a) (.ref C)
def Pf   (I:Inv X af σ H s)(rx:RelV x u)(ty:TyOf X.K H x t)(e:kitOne X.K t c=some b)(h:∀tk,Q (.bool b) {s with toks:=tk}):
  wpAny (model X.prog X.w) A (call (.builtin "isinstance") [u,c]) Q E s:=by
 cases ty with
 |non=>cases (show u=Value.none from rx);exact qs_ vV I.kIn qW e (fun z=>nomatch z) h
 |bl y=>cases (show u=Value.bool y from rx);exact qs_ vW I.kIn qW e (fun z=>nomatch z) h
 |int i=>obtain⟨t,q⟩:=(show ∃t,u=Value.int i t from rx);cases q;exact qs_ v5 I.kIn qW e (fun z=>nomatch z) h
 |str y=>obtain⟨t,q⟩:=(show ∃t,u=Value.str y t from rx);cases q;exact qs_ v7 I.kIn qW e (fun z=>nomatch z) h
 |flt y=>obtain⟨t,q⟩:=(show ∃t,u=Value.float y t from rx);cases q;exact qs_ vN I.kIn qW e (fun z=>nomatch z) h
 |@lst a xs ea=>
  cases (show u=Value.ref a from rx)
  obtain⟨_,_,n,_,h1⟩:=(show Bo X.prog X.w H s.heap a (.lst xs) from I.hok a _ ea)
  exact qs_ zZ_ I.kIn ⟨_,h1,rfl⟩ e (fun z=>nomatch z) h
 |@frz a ob xs ea=>
  cases (show u=Value.ref a from rx)
  obtain⟨_,_,_,n,_,h1⟩:=(show Bo X.prog X.w H s.heap a (.frz ob (.lst xs)) from I.hok a _ ea)
  exact qs_ zZ_ I.kIn ⟨_,h1,rfl⟩ e (fun z=>nomatch z) h
 |@tup a xs ea=>
  cases (show u=Value.ref a from rx)
  obtain⟨_,_,_,p⟩:=(show Bo X.prog X.w H s.heap a (.tup xs) from I.hok a _ ea)
  obtain⟨o,h1,h2,_⟩:=p
  exact qs_ sY I.kIn ⟨o,h1,h2⟩ e (fun z=>nomatch z) h
 |@dK a kvs ea=>
  cases (show u=Value.ref a from rx)
  obtain⟨_,_,vs,_,p⟩:=(show Bo X.prog X.w H s.heap a (.dK kvs) from I.hok a _ ea)
  obtain⟨o,es,ep,h1,h2,_⟩:=p
  exact qs_ tE I.kIn ⟨o,h1,h2.1⟩ e (fun z=>nomatch z) h
 |@dT a kvs ea=>
  cases (show u=Value.ref a from rx)
  obtain⟨_,_,xs,_,o,es,ep,h1,h2,_⟩:=(show Bo X.prog X.w H s.heap a (.dT kvs) from I.hok a _ ea)
  exact qs_ tE I.kIn ⟨o,h1,h2.1⟩ e (fun z=>nomatch z) h
 |@ins a C dx fs ea cl ha hn ic hm=>
  cases (show u=Value.ref a from rx)
  obtain⟨mA,O,_⟩:=UB I.hok ea
  obtain⟨od,J,_⟩:=O.look
  exact qs_ (v8 (cl.get _) cl.hd ha hn ic hm) I.kIn J e (fun z=>nomatch z) h
end
end L2
namespace L2
open PySem PySem.Spec PyProof.Rows
structure Room (k:Nat)(A:Around):Prop where
 hd:A.handled=none
 dp:A.depth+3*k+5<recursionLimit
 un:A.units+16*k+200<cLine
def Room.mono   (r:Room k A)(h:j<=k):Room j A:=⟨r.hd,by have:=r.dp;lia,by have:=r.un;lia⟩
def Room.deeper   (r:Room (k+1) A)(env:Env):Room k (A.deeper env):=
 ⟨r.hd,by have:=r.dp;show A.depth+1+3*k+5<_;lia,by have:=r.un;show A.units+3+16*k+200<_;lia⟩
def Room.in1   (r:Room (k+1) A):Room k A.in1:=
 ⟨r.hd,by have:=r.dp;show A.depth+3*k+5<_;lia,by have:=r.un;show A.units+1+16*k+200<_;lia⟩
def Room.depth   (r:Room k A):A.depth<recursionLimit:=by have:=r.dp;lia
def Room.units   (r:Room k A):A.units+64<cLine:=by have:=r.un;lia
def tNil:TA:=fun _ H Q=>Q [] H
def VP (ta:TE)(tr:TA):TA:=fun σ H Q=>ta σ H fun x H1=>tr σ H1 fun xs H2=>Q (x::xs) H2
section
variable {X:Cx} {e:Expr} {es:List Expr} {te:TE} {t:TA} {pos:Pos}
def Ad:PA X [] tNil:=fun _ _ _ _ H Q I h=>xW_ ⟨[],H,I,.nil,h⟩
def Aa (ha:PE X e te)(hr:PA X es t)(hs:starEach (e::es) X.env=(false,eval e X.env)::starEach es X.env:=by rfl):PA X (e::es) (VP te t):=by
 intro pos af s σ H Q I h
 rw[hs]
 show wpAny _ _ (spliced ((false,eval e X.env)::backTo pos (starEach es X.env))) _ _ s
 refine xp_ (thn (ha af s σ H _ I h) fun u s1 ⟨x,H1,I1,r1,q1⟩=>?_)
 exact thn (hr pos af s1 σ H1 _ I1 q1) fun us s2 ⟨xs,H2,I2,r2,q2⟩=>⟨x::xs,H2,I2,.cons r1 r2,q2⟩
def tTup (t:TA):TE:=fun σ H Q=>t σ H fun xs H1=>xs.length<=sizeLine/\∀p,H1 p=none->Q (.ref p) (upd H1 p (.tup xs))
def tLst (t:TA):TE:=fun σ H Q=>t σ H fun xs H1=>xs.length<=sizeLine/\∀p,H1 p=none->Q (.ref p) (upd H1 p (.lst xs))
def Bx {x1}(h:PA X es t):PE X (.Tuple es x1 pos) (tTup t):=by
 intro af s σ H Q I hq
 refine wpAny_Tuple_spliced (thn (h pos af s σ H _ I hq) fun us s1 ⟨xs,H1,I1,r,z,q⟩=>⟨by rw[<-r.length];exact z,?_⟩)
 have hf:H1 s1.heap.objs.size=none:=I1.hok.fresh (jg_ _)
 refine⟨.ref s1.heap.objs.size,upd H1 s1.heap.objs.size (.tup xs),I1.laid (t':=s1.toks) (fun b u e=>jo_ _ e) (jg_ _) ?_,rfl,q _ hf⟩
 exact⟨z,us,r,⟨_,jH_ _ rfl,rfl,_,rfl⟩⟩
def Bp (h:PA X es t):PE X (.List es pos) (tLst t):=by
 intro af s σ H Q I hq
 refine wpAny_List_spliced (thn (h pos af s σ H _ I hq) fun us s1 ⟨xs,H1,I1,r,z,q⟩=>⟨by rw[<-r.length];exact z,?_⟩)
 have hf:H1 s1.heap.objs.size=none:=I1.hok.fresh (jg_ _)
 refine⟨.ref s1.heap.objs.size,upd H1 s1.heap.objs.size (.lst xs),I1.laid (t':=s1.toks) (fun b u e=>jo_ _ e) (jg_ _) ?_,rfl,q _ hf⟩
 exact⟨z,us,0,r,jH_ _ rfl⟩
end
abbrev Sp:=List V->Hp->VK->XK->Prop
abbrev CXT:=List Env->Hp->Shared->XK->Value->Shared->Prop
structure Env0 (P:Program)(w:World)(K:α3)(mg:Str->α5)(base:Heap)(A:Around)(outer:List Env)(s:Shared)(H:Hp):Prop where
 frames:A.frames=some outer
 mod:Mod K mg base
 bs:∀b o,base.get? b=some o->s.heap.get? b=some o/\H b=none
 bsz:base.objs.size<=s.heap.objs.size
 funs:s.heap.FunFrames base outer
 frf:∀b∈frs outer,H b=none
 hok:HOk P w H s.heap
 bare:AllBare s.gens
def CE (outer:List Env)(P:Program)(w:World)(H:Hp)(s:Shared)(Q:VK)(u:Value)(s':Shared):Prop:=
 ∃v H',s'.os=s.os/\AllBare s'.gens/\Un (frs outer) [] H H' s.heap s'.heap/\HOk P w H' s'.heap/\RelV v u/\Q v H'
def CR (CX:CXT)(outer:List Env)(P:Program)(w:World)(H:Hp)(s:Shared)(Q:VK)(E:XK)(r:Result)(s':Shared):Prop:=
 match r with
 |.ok (.ret u)=>CE outer P w H s Q u s'
 |.ok _=>False
 |.error e=>CX outer H s E e s'
structure FnOk (P:Program)(w:World)(K:α3)(mg:Str->α5)(base:Heap)(CX:CXT)(k:Nat)(f:Addr)(fd:α6)(ps:List Str)(sp:Sp):Prop where
 len:∀vs H Q E,sp vs H Q E->vs.length=ps.length
 run:∀(A:Around) (outer:List Env) (s:Shared) (H:Hp) (args:Args) (us:List Value) (vs:List V) (Q:VK) (E:XK),Room k A->Env0 P w K mg base A outer s H->BindsTo s fd args (ps.zip us)->Vals vs us->sp vs H Q E ->
  codeAny (model P w) A (.call (.ref f) args) (CR CX outer P w H s Q E) s
def Env0.in1   {K:α3}       (e:Env0 P w K mg base A outer s H):
  Env0 P w K mg base A.in1 outer s H:=⟨e.frames,e.mod,e.bs,e.bsz,e.funs,e.frf,e.hok,e.bare⟩
section
variable {X:Cx} {af:α7} {σ:St} {H:Hp} {s s':Shared}
def Inv.env0 (I:Inv X af σ H s):Env0 X.prog X.w X.K X.mg X.base X.A X.stack s H:=
 ⟨I.ok.frames,I.ok.mod,I.bs,qm_ I.ok.bsz I.sz,I.stack,I.stkFree,I.hok,I.bare⟩
def Inv.after   (I:Inv X af σ H s)(h:CE X.stack X.prog X.w H s Q u s'):EP X af σ Q u s':=by
 obtain⟨v,H',os,bare,un,hok,r,q⟩:=h
 obtain⟨hh,g,d,t,os'⟩:=s'
 obtain rfl:os'=s.os:=os
 exact⟨v,H',I.call (h':=hh) (g':=g) (d':=d) (t':=t) (ch:=[]) un hok bare (fun b z=>absurd z (by simp)),r,q⟩
end
def UC (sp:Sp)(gO:List V)(E:XK)(t:TA):TE:=fun σ H Q=>t σ H fun vs H1=>sp (vs++gO) H1 Q E
def N4 (K:α3)(fd:α6)(ps:List Str)(ds:List Value):Prop:=
 ∀(s:Shared) (us:List Value),K.In s.heap->(us++ds).length=ps.length->BindsTo s fd ⟨us,[]⟩ (ps.zip (us++ds))
def N4.all {K:α3}   (h:∀us:List Value,us.length=ps.length->bindArgs fd ⟨us,[]⟩=pure (ps.zip us)):N4 K fd ps []:=fun s us _ hl=>by
 rw[qg_]at hl ⊢
 exact .of_eq (h us hl)
def M5 (CX:CXT)(X:Cx)(E:XK):Prop:=∀(af:α7) (σ:St) (H:Hp) (s:Shared) (e:Value) (s':Shared),Inv X af σ H s->CX X.stack H s E e s'->X.xe e s'
section
variable {X:Cx} {CX:CXT} {k:Nat} {f C:Addr} {fd:α6} {ps:List Str} {sp:Sp} {gO:List V} {ds:List Value} {E:XK} {x m:Str} {p pos bx:Pos} {e o:Expr} {es:List Expr} {ta:TE} {t:TA}
def VQ        (F:FnOk X.prog X.w X.K X.mg X.base CX k f fd ps sp)(hr:Room k X.A)(hb:N4 X.K fd ps ds)(hd:Vals gO ds)(hx:M5 CX X E)
  (I:Inv X af σ H s) (r:Vals vs us) (h:sp (vs++gO) H Q E):wpAny (model X.prog X.w) X.A (call (.ref f) us) (EP X af σ Q) X.xe s:=by
 have r2:Vals (vs++gO) (us++ds):=r.append hd
 have hl:(us++ds).length=ps.length:=by rw[<-r2.length];exact F.len _ _ _ _ h
 refine wpAny_call (codeAny_mono (F.run X.A X.stack s H ⟨us,[]⟩ (us++ds) (vs++gO) Q E hr I.env0 (hb s us I.kIn hl) r2 h) fun r s' hq=>?_)
 cases r with
 |error e=>exact hx af σ H s e s' I hq
 |ok fl=>
  cases fl with
  |ret u=>exact I.after hq
  |next=>exact rg hq
  |brk=>exact rg hq
  |cont=>exact rg hq
def UD (F:FnOk X.prog X.w X.K X.mg X.base CX k f fd ps sp)(hr:Room k X.A)(hg:Gl X x)(hm:X.mg x=some (.ref f))(hk:keepIn X.K (.ref f)=true)(hb:N4 X.K fd ps ds)(hd:Vals gO ds)(hx:M5 CX X E)
  (ha:PA X (e::es) t) (js:(x==("__debug__" : Str))=false:=by decide) (he:starEach (e::es) X.env=(false,eval e X.env)::starEach es X.env:=by rfl) (gP:(backTo pos (starEach es X.env)).any (·.1)=false:=by rfl):
  PE X (.Call (.Name x p) (e::es) [] pos) (UC sp gO E t):=by
 intro af s σ H Q I h
 refine xq_ (Uu I hg hm ?_ js)
 refine vO (h₀:=X.base) I.ok.mod.kin hk (thn (ha pos af s σ H _ I h) fun us s1 ⟨vs,H1,I1,r,q⟩=>⟨I1.kIn,?_⟩) he gP
 exact VQ F hr hb hd hx I1 r q
end
structure FnScope (N P:List Str)(sc:Scope):Prop where
 kind:sc.kind=.function
 co:sc.isCoroutine=false
 gen:sc.isGenerator=false
 nd:N.Nodup
 pre:N.take P.length=P
 par:∀x∈P,sc.names.lookup x=some .local\/sc.names.lookup x=some .cell
 nofree:∀y∈sc.names,y.2 ≠ .free
def KU {kindOf:Str->Option NameKind}{x:Str}:∀{binds:List (Str×Value)} {m:Str->α5},(∀v,(x,v)∉binds)->bindL kindOf binds m x=m x
 |[],_,_=>rfl
 | (n,v)::r,m,h=>by
  unfold bindL
  rw[KU fun w hw=>h w (jl_ _ hw)]
  split
  ·have:x≠n:=by rintro rfl;exact h v jn_
   simp[this]
  ·rfl
def KW {kindOf:Str->Option NameKind}{x:Str}:∀{binds:List (Str×Value)} {m:Str->α5},(∀v,(x,v)∉binds)->bindC kindOf binds m x=m x
 |[],_,_=>rfl
 | (n,v)::r,m,h=>by
  unfold bindC
  rw[KW fun w hw=>h w (jl_ _ hw)]
  split
  ·rfl
  ·have:x≠n:=by rintro rfl;exact h v jn_
   simp[this]
def KY {kindOf:Str->Option NameKind}{x:Str}{v:Value}:∀{P:List Str} {vs:List Value} {i:Nat} {m:Str->α5},P.Nodup->P[i]?=some x->vs[i]?=some v->kindOf x=some .local ->
  bindL kindOf (P.zip vs) m x=some v
 |[],_,_,_,_,h,_,_=>by simp at h
 |_::_,[],_,_,_,_,h,_=>by simp at h
 |p::P,w::vs,0,m,nd,h1,h2,hk=>by
  simp at h1 h2;subst h1;subst h2
  show bindL kindOf ((p,w)::P.zip vs) m p=_
  unfold bindL
  rw[KU fun v hv=>(qD_.mp nd).1 (xz_ hv).1,if_pos hk]
  simp
 |p::P,w::vs,i+1,m,nd,h1,h2,hk=>by
  show bindL kindOf ((p,w)::P.zip vs) m x=_
  unfold bindL
  exact KY (i:=i) (qD_.mp nd).2 (by simpa using h1) (by simpa using h2) hk
def KZ {kindOf:Str->Option NameKind}{x:Str}{v:Value}:∀{P:List Str} {vs:List Value} {i:Nat} {m:Str->α5},P.Nodup->P[i]?=some x->vs[i]?=some v->kindOf x≠some .local ->
  bindC kindOf (P.zip vs) m x=some v
 |[],_,_,_,_,h,_,_=>by simp at h
 |_::_,[],_,_,_,_,h,_=>by simp at h
 |p::P,w::vs,0,m,nd,h1,h2,hk=>by
  simp at h1 h2;subst h1;subst h2
  show bindC kindOf ((p,w)::P.zip vs) m p=_
  unfold bindC
  rw[KW fun v hv=>(qD_.mp nd).1 (xz_ hv).1,if_neg hk]
  simp
 |p::P,w::vs,i+1,m,nd,h1,h2,hk=>by
  show bindC kindOf ((p,w)::P.zip vs) m x=_
  unfold bindC
  exact KZ (i:=i) (qD_.mp nd).2 (by simpa using h1) (by simpa using h2) hk
def start (N:List Str)(vs:List V):St:=vs.map some++qU (N.length-vs.length) none
def cxOf (CX:CXT)(P:Program)(w:World)(K:α3)(mg:Str->α5)(base:Heap)(N:List Str)(qual:Str)(scope:Scope)(f:Addr)(cd:Value)(A:Around)(outer:List Env)(s:Shared)(H:Hp)(E:XK):Cx where
 prog:=P
 w:=w
 K:=K
 mg:=mg
 base:=base
 A:=A.deeper (envOfC qual scope s.heap.objs.size f cd)
 N:=N
 s₀:=s
 H₀:=H
 env:=envOfC qual scope s.heap.objs.size f cd
 outer:=outer
 stack:=envOfC qual scope s.heap.objs.size f cd::outer
 ex:=[]
 calm:=true
 fn:=fun _=>true
 pn:=[]
 xe:=fun e s'=>wpAny (model P w) (A.deeper (envOfC qual scope s.heap.objs.size f cd)) (leaving (envOfC qual scope s.heap.objs.size f cd) e) (fun _ ie=>CX outer H s E e ie) (fun e' ie=>CX outer H s E e' ie) s'
def M6 {sc:Scope}{n:Nat}{x:Str}(h:sc.names.lookup x=some .cell):∃c,(cellsFrom n sc.names []).lookup x=some c:=by
 have q:=xN_ sc.names n [] (.inl h)
 exact Option.isSome_iff_exists.mp q
def K0    {K:α3}
  (S:FnScope N ps scope) (hd:A.handled=none) (e0:Env0 P w K mg base A outer s H) (hl:vs.length=ps.length) (r:Vals vs us)
  (x:InCallC s s.heap.objs.size (bindL (envOfC qual scope s.heap.objs.size f cd).kindOf (ps.zip us) fun _=>none) (cellsFrom (s.heap.objs.size+1) scope.names []) (bindC (envOfC qual scope s.heap.objs.size f cd).kindOf (ps.zip us) fun _=>none) s1):
  Inv (cxOf CX P w K mg base N qual scope f cd A outer s H E) [] (start N vs) H s1:=by
 have gP:ps.length<=N.length:=by have:=jC_ rm S.pre;rw[jx_]at this;lia
 obtain⟨h1,tk,rfl,hk⟩:=x.done
 have oH:∀b:Addr,b∉(cxOf CX P w K mg base N qual scope f cd A outer s H E).ex:=fun b z=>absurd (show b∈([]:List Addr) from z) (by simp)
 refine⟨⟨e0.mod,S.kind,rfl,rfl,jg_ _,fun y z c h1 h2=>?_,fun y hy=>?_,fun y c _ h=>?_,fun _=>hd,Around.frames_deeper e0.frames,.inr ⟨rfl,rfl⟩,fun b z=>absurd z (oH b),e0.bs,e0.bsz,fun b _ _=>oH b,fun b z=>absurd z (oH b),e0.funs,e0.frf⟩,
  rfl,e0.bare,Un.kept hk,⟨_,x.toInCall.ns,fun i y v h1 h2 h3=>?_⟩,fun y c h=>⟨_,x.cell y c h⟩,e0.hok.fresh (jg_ _),fun y c h=>?_,fun p hp=>absurd (show p∈([]:α7) from hp) (by simp),e0.hok.kept hk,?_⟩
 ·exact name_of_addr x.apart (qh_ h1) (qh_ h2)
 ·have hy:scope.names.lookup y=some .cell\/scope.names.lookup y=some .free:=hy
  rcases hy with hy|hy
  ·exact M6 hy
  ·exact absurd rfl (S.nofree _ (qh_ hy))
 ·exact q2_ (x.above y c (qh_ h))
 ·have hi:i<vs.length:=by
   unfold start at h2
   by_cases hi:i<vs.length
   ·exact hi
   ·rw[jm_ (by simpa using hi)]at h2
    rw[zf_]at h2
    split at h2<;>cases h2
  have ha:vs[i]?=some v:=by
   unfold start at h2
   rw[jd_ (by simpa using hi),je_]at h2
   cases e:vs[i]? with
   |none=>rw[e]at h2;cases h2
   |some a=>rw[e]at h2;cases h2;rfl
  obtain⟨u,hu,rv⟩:=r.get ha
  have hp:ps[i]?=some y:=by
   rw[<-S.pre,xA_ s!""];exact h1
  have ndP:ps.Nodup:=by rw[<-S.pre];exact S.nd.sublist (tF _ _)
  refine⟨u,rv,?_⟩
  rcases S.par y (jc_ hp) with k|k
  ·exact .inl ⟨k,KY ndP hp hu k⟩
  ·obtain⟨c,e⟩:=M6 (n:=s.heap.objs.size+1) k
   refine .inr ⟨.inl k,c,e,?_⟩
   have q:=x.cell y c e
   rw[KZ ndP hp hu (by show scope.names.lookup y≠_;rw[k];decide)]at q
   exact q
 ·exact e0.hok.fresh (q2_ (x.above y c (qh_ h)))
 ·unfold start
  show _=N.length
  rw[jk_,ja_,qx_]
  lia
def VR    {K:α3}         {dV kV bz pm aA ct oc:Value}
       (lk:K.lookup f=some ⟨oc,od,.func (fnOf name qual params body scope dV kV bz pm an aA ct),fR⟩) (bQ:codeIn K aA qual=true) (S:FnScope N ps scope)
    (len:∀vs H Q E,sp vs H Q E->vs.length=ps.length)
    (dn:∀(A:Around) (outer:List Env) (s:Shared) (H:Hp) (vs:List V) (Q:VK) (E:XK),Room k (A.deeper (envOfC qual scope s.heap.objs.size f aA))->sp vs H Q E ->
      ∃t,PSs (cxOf CX P w K mg base N qual scope f aA A outer s H E) body t/\t {nx:=fun _ H'=>Q .non H',rt:=Q} (start N vs) H):
    FnOk P w K mg base CX (k+1) f (fnOf name qual params body scope dV kV bz pm an aA ct) ps sp:=by
  refine⟨len,fun A outer s H args us vs Q E hr e0 hb r eQ=>?_⟩
  have hl:=len _ _ _ _ eQ
  have KX:K.In s.heap:=e0.mod.kin.keeps fun b o e=>(e0.bs b o e).1
  have oI:s.heap.NoLimit:=e0.mod.nolimit.keeps fun b o e=>(e0.bs b o e).1
  have fS:∀y∈ps.zip us,scope.names.lookup y.1=some .local\/(scope.names.lookup y.1=some .cell/\((cellsFrom (s.heap.objs.size+1) scope.names []).lookup y.1).isSome=true):=fun ⟨n,v⟩ hy=>by
    rcases S.par n (xz_ hy).1 with q|q
    . exact .inl q
    . exact .inr ⟨q,xN_ _ _ _ (.inl q)⟩
  refine codeAny_call_function hr.depth (KX _ _ lk) rfl S.co S.gen rfl (vP KX bQ) (hb _ _ _ _ ?_)
  refine wpAny_newFunctionEnv_cells S.kind fS fun env he s1 x=>?_
  subst he
  refine⟨oI.keeps x.toInCall.keep,codeAny_func ?_⟩
  obtain⟨t,ht,hq⟩:=dn A outer s H vs Q E (hr.deeper _) eQ
  have I:Inv (cxOf CX P w K mg base N qual scope f aA A outer s H E) [] (start N vs) H s1:=K0 S hr.hd e0 hl r x
  refine qN_ (ht [] s1 (start N vs) H _ I hq) (fun fl s' hs=>?_) fun e s' hs=>hs
  have fin:∀{ag:St} {H':Hp} {v:V} {u:Value},Inv (cxOf CX P w K mg base N qual scope f aA A outer s H E) [] ag H' s'->RelV v u->Q v H'->CE outer P w H s Q u s' :=
    fun {ag H' v u} J rv q=>⟨v,H',J.os,J.bare,J.base,J.hok,rv,q⟩
  cases fl with
  |ret u=>
    obtain⟨v,ag,H',J,rv,q⟩:=hs
    exact fin J rv q
  |next=>
    obtain⟨ag,H',J,q⟩:=hs
    exact fin (v:=V.non) (u:=Value.none) J rfl q
  |brk=>
    obtain⟨_,_,_,q⟩:=hs
    exact rg q
  |cont=>
    obtain⟨_,_,_,q⟩:=hs
    exact rg q
end L2
namespace L2
open PySem PySem.Spec PyProof.Rows
section
variable {X:Cx} {x:Str} {p pos:Pos} {e:Expr} {es:List Expr} {t:TA} {id T:String} {r:List V->Hp->VK->Prop}
def tCB (r:List V->Hp->VK->Prop)(t:TA):TE:=fun σ H Q=>t σ H fun vs H1=>r vs H1 Q
def Aq (hc:Cr X (.builtin id) r)(hg:Gl X x)(hm:X.mg x=none)(hv:bootBuiltins x=some (.builtin id))(ha:PA X (e::es) t)(hn:x ≠ "__name__" := by decide)(js:(x==("__debug__" : Str))=false:=by decide)
  (he:starEach (e::es) X.env=(false,eval e X.env)::starEach es X.env:=by rfl) (gP:(backTo pos (starEach es X.env)).any (·.1)=false:=by rfl):PE X (.Call (.Name x p) (e::es) [] pos) (tCB r t):=by
 intro af s σ H Q I h
 refine xq_ (D6 I hg hm hv ?_ hn js)
 exact tU (thn (ha pos af s σ H _ I h) fun us s1 ⟨vs,H1,I1,r1,q1⟩=>hc af s1 σ H1 vs us Q I1 r1 q1) he gP
def AE (hc:Cr X (.type T) r)(hg:Gl X x)(hm:X.mg x=none)(hv:bootBuiltins x=some (.type T))(ha:PA X (e::es) t)(hn:x ≠ "__name__" := by decide)(js:(x==("__debug__" : Str))=false:=by decide)
  (he:starEach (e::es) X.env=(false,eval e X.env)::starEach es X.env:=by rfl) (gP:(backTo pos (starEach es X.env)).any (·.1)=false:=by rfl):PE X (.Call (.Name x p) (e::es) [] pos) (tCB r t):=by
 intro af s σ H Q I h
 refine xq_ (D6 I hg hm hv ?_ hn js)
 exact qf_ (thn (ha pos af s σ H _ I h) fun us s1 ⟨vs,H1,I1,r1,q1⟩=>hc af s1 σ H1 vs us Q I1 r1 q1) he gP
end
end L2
namespace HT
open PySem PyProof.Rows
def lexLt:α2->α2->Bool
 |[],[]=>false
 |[],_::_=>true
 |_::_,[]=>false
 |x::xs,y::ys=>if x=y then lexLt xs ys else decide (x<y)
def lexLt_cons (x y:Int)(xs ys:α2):lexLt (x::xs) (y::ys)=if x=y then lexLt xs ys else decide (x<y):=rfl
def JN:lexLt [] []=false:=rfl
def IS (y:Int)(ys:α2):lexLt [] (y::ys)=true:=rfl
def IT (x:Int)(xs:α2):lexLt (x::xs) []=false:=rfl
def RM (A:Around)(s:Shared)(a:Int)(t:Tok)(c:Int)(u:Tok):∃e,SeqAt.EqAt A s (.int a t) (.int c u) e/\(e=true↔a=c):=
 ⟨(a==c),SeqAt.EqAt.int_int a t c u,by simp⟩
def RO (A:Around)(s:Shared)(a:Int)(t:Tok)(c:Int)(u:Tok)(prog:Program)(w:World)(E:Value->Shared->Prop)(Q:Value->Shared->Prop)(h:Q (.bool (decide (a<c))) s):
  wpAny (model prog w) A (richCompare .Lt (.int a t) (.int c u)) Q E s:=
 (vJ h:wpAny (model prog w) A (compareOp .Lt (.int a t) (.int c u)) Q E s)
section
open PySem.SeqAt
open PySem.AutoSeq1 (wpAny_loadPart')
open PySem.MeetsSeq PySem.MeetsSeq2 PySem.MeetsSeq3
def JO (l b:Addr)(items aT:Array Value)(n n2:Nat)(dd i7:Option Addr)(sl gQ:Array (α5))(ns ms:α2)(hi:IntsAre items.toList ns)(hj:IntsAre aT.toList ms):
  Meets (Builtin.«tuple.__lt__» ⟨[.ref l,.ref b],[]⟩)
   (fun _ R s=>s.heap.get? l=some {cls:=.type "tuple",dict:=dd,data:=.seq items n,slots:=sl}/\s.heap.get? b=some {cls:=.type "tuple",dict:=i7,data:=.seq aT n2,slots:=gQ} /\
    R (.ok (.ret (.bool (lexLt ns ms)))) s):=
 .of_wp fun prog w A R s h=>by
  obtain⟨hp,g,d,tk,os⟩:=s;obtain⟨hl,hb,h⟩:=h
  have f2:=AutoSeq1.sub_tuple_tuple
  have z1:items.size=ns.length:=by rw[<-hi.length];simp
  have z2:aT.size=ms.length:=by rw[<-hj.length];simp
  wp_walk using qt_ hl,qt_ hb,wpAny_forIn_list _ (fun rest b s'=>b.1=none/\s'=⟨hp,g,d,tk,os⟩/\∃(vs ws:List Value) (lg lh:α2),rest=vs.zip ws /\
   IntsAre vs lg/\IntsAre ws lh/\lg.length+aT.size=lh.length+items.size/\R (.ok (.ret (.bool (lexLt lg lh)))) ⟨hp,g,d,tk,os⟩) _
  case turn=>
   rintro⟨y,x⟩ rest b s' ⟨ig,rfl,vs,ws,lg,lh,hz,dB,cj,ak,hR⟩
   cases dB with
   |nil=>rw[List.zip_nil_left]at hz;cases hz
   |cons a t hvi' =>
    cases cj with
    |nil=>rw[sZ]at hz;cases hz
    |cons c u hwi' =>
     rw[zR_]at hz
     injection hz with ik hrest
     injection ik with hy hx
     subst hy hx
     rw[lexLt_cons]at hR
     simp only[jT_]at ak
     obtain⟨e,he,eT⟩:=RM A.in1 ⟨hp,g,d,tk,os⟩ a t c u
     refine jf_ (he prog w _ _ ?_)
     cases e with
     |true=>
      rw[if_pos (eT.mp rfl)]at hR
      wp_walk
      exact⟨rfl,rfl,_,_,_,_,hrest,hvi',hwi',by lia,hR⟩
     |false=>
      rw[if_neg (fun q=>absurd (eT.mpr q) jv_)]at hR
      have ip:=RO A.in1 ⟨hp,g,d,tk,os⟩ a t c u prog w
      wp_walk using ip
      exact⟨_,rfl,by simpa using hR⟩
  case fin=>
   rintro⟨b1,b2⟩ s' ⟨ig,rfl,vs,ws,lg,lh,hz,dB,cj,ak,hR⟩
   simp only at ig
   subst ig
   have hv:lexLt lg lh=decide (items.size<aT.size):=by
    cases dB with
    |nil=>
     cases cj with
     |nil=>
      simp only[qi_]at ak
      rw[JN]
      exact (j9_ s!"").symm
     |cons c u hw=>
      simp only[qi_,jT_]at ak
      rw[IS]
      exact (j4_ s!"").symm
    |cons a t hv=>
     cases cj with
     |nil=>
      simp only[qi_,jT_]at ak
      rw[IT]
      exact (j9_ s!"").symm
     |cons c u hw=>
      rw[zR_]at hz
      cases hz
   rw[hv]at hR
   wp_walk
   exact⟨_,rfl,by simpa [Builtin.Tuple.tupleCompareSizes] using hR⟩
  case h=>
   exact⟨rfl,rfl,items.toList,aT.toList,ns,ms,rfl,hi,hj,by lia,h⟩
end
section
variable {prog:Program} {w:World} {A:Around} {E:Value->Shared->Prop} {s:Shared}
def lt_tupInts     (hl:IsTup s.heap l items)(hb:IsTup s.heap b aT)(hi:IntsAre items.toList ns)(hj:IntsAre aT.toList ms)
  (hu:A.units<cLine) (h:Q (.bool (lexLt ns ms)) s):wpAny (model prog w) A (compareOp .Lt (.ref l) (.ref b)) Q E s:=by
 obtain⟨⟨cls,dd,data,sl⟩,ho,hc,n,hd⟩:=id hl
 obtain⟨⟨cls2,i7,data2,gQ⟩,gR,cu,n2,fT⟩:=id hb
 simp only at hc hd cu fT
 subst hc hd cu fT
 exact richCompare_meets_room (op:=.Lt) ⟨_,ho,rfl⟩ ⟨_,gR,rfl⟩ vx vm (vi _ _) (JO l b items aT n n2 dd i7 sl gQ ns ms hi hj)
  ⟨ho,gR,show Value.bool (lexLt ns ms)≠Value.notImplemented/\Q (.bool (lexLt ns ms)) s from ⟨(fun x=>nomatch x),h⟩⟩ hu
def cat_tup    (ht:IsTup s.heap t vs.toArray)(hb:IsTup s.heap b ws.toArray)(hv:vs ≠ [])
  (h1:ws=[]->Q (.ref t) s) (h2:ws ≠ []->Q (.ref s.heap.objs.size) {s with heap:=s.heap.push {cls:=.type "tuple",data:=.seq (vs++ws).toArray} })
  (hsz:vs.length+ws.length<=sizeLine):wpAny (model prog w) A (binaryOp .Add (.ref t) (.ref b)) Q E s:=by
 obtain⟨⟨cls,dd,data,sl⟩,ho,hc,n,hd⟩:=id ht
 obtain⟨⟨cls2,i7,data2,gQ⟩,gR,cu,n2,fT⟩:=id hb
 simp only at hc hd cu fT
 subst hc hd cu fT
 have e:vs.toArray++ws.toArray=(vs++ws).toArray:=by simp
 by_cases hw:ws=[]
 ·exact concat_meets ⟨_,ho,rfl⟩ ⟨_,gR,rfl⟩ noFill_tuple_add seq_tuple_add zo_ zg_ (zb_ _ _)
   (tuple_addW1 t b vs.toArray ws.toArray n n2 dd i7 sl gQ (by simpa using hv) (by simp[hw])) ⟨ho,gR,h1 hw⟩
 ·refine concat_meets ⟨_,ho,rfl⟩ ⟨_,gR,rfl⟩ noFill_tuple_add seq_tuple_add zo_ zg_ (zb_ _ _)
   (tuple_addW2 t b vs.toArray ws.toArray n n2 dd i7 sl gQ (by simpa using hv) (by simpa using hw) (by rw[jp_,jp_];exact hsz)) ⟨ho,gR,?_⟩
  rw[e]
  exact h2 hw
def sIx (n d:Nat):Option Int->Nat
 |none=>d
 |some v=>if v<0 then (v+(n:Int)).toNat else min v.toNat n
def sIx_none (n d:Nat):sIx n d none=d:=rfl
def sIx_nat (n d k:Nat):sIx n d (some (k:Int))=min k n:=by
 show (if (k:Int)<0 then ((k:Int)+(n:Int)).toNat else min (k:Int).toNat n)=min k n
 rw[if_neg s!"",ji_]
def VS (n d:Nat)(hd:d<=n)(o:Option Int):sIx n d o<=n:=by
 cases o with
 |none=>exact hd
 |some v=>
  show (if v<0 then (v+(n:Int)).toNat else min v.toNat n)<=n
  by_cases hv:v<0
  ·rw[if_pos hv];lia
  ·rw[if_neg hv];exact Nat.min_le_right _ _
def Pg (v:Int)(n d:Nat):(if v<0 then max (v+(n:Int)) 0 else min v (n:Int))=((sIx n d (some v):Nat):Int):=by
 show (if v<0 then max (v+(n:Int)) 0 else min v (n:Int))=(((if v<0 then (v+(n:Int)).toNat else min v.toNat n):Nat):Int)
 by_cases hv:v<0
 ·simp only[if_pos hv];lia
 ·simp only[if_neg hv];lia
def N5 (lo hi:Option Int)(n:Nat):Builtin.Slice.sliceAdjust lo hi 1 (n:Int)=(((sIx n 0 lo:Nat):Int),((sIx n n hi:Nat):Int)):=by
 have h1:¬ ((1:Int)<0):=by lia
 unfold Builtin.Slice.sliceAdjust
 simp only[h1,xb_]
 refine z6_ ?_ ?_
 ·cases lo with
  |none=>rfl
  |some v=>exact Pg v n 0
 ·cases hi with
  |none=>rfl
  |some v=>exact Pg v n n
def N6 (i j:Nat):Builtin.Slice.slicePlaces (i:Int) (j:Int) 1=j-i:=by
 unfold Builtin.Slice.slicePlaces
 have h1:(1:Int) > 0:=by lia
 simp only[h1,zs_,Int.ediv_one]
 split<;>lia
def Jg    (p:IsPart v o)(h:Q o s):wpAny (model prog w) A (Builtin.Slice.slicePartIndex v) Q E s:=by
 cases p with
 |none=>exact slicePart_none h
 |int i t=>exact slicePart_int h
def GY {sl:Addr}{vl vu:Value}{lo hi:Option Int}{n:Nat}{Q:Int×Int×Nat->Shared->Prop}(hs:s.heap.IsSliceOf sl vl vu .none)(pl:IsPart vl lo)(pu:IsPart vu hi)
  (h:Q (((sIx n 0 lo:Nat):Int),1,sIx n n hi-sIx n 0 lo) s):wpAny (model prog w) A (Builtin.Slice.sliceApplied (.ref sl) (pure (n:Int))) Q E s:=by
 obtain⟨os,dJ,hcs,nB⟩:=id hs
 unfold Builtin.Slice.sliceApplied Builtin.Slice.sliceFields
 refine jf_ (jf_ (wpAny_field dJ nB (x:=vl) rfl (jf_ (wpAny_field dJ nB (x:=vu) rfl (jf_ (wpAny_field dJ nB (x:=.none) rfl (ju_ ?_)))))))
 refine jf_ (slicePart_none ?_)
 show wpAny _ _ (if ((1:Int)==0)=true then _ else _) _ _ s
 rw[if_neg (by decide)]
 refine jf_ (Jg pl (jf_ (Jg pu (jf_ (ju_ ?_)))))
 show wpAny _ _ (match Builtin.Slice.sliceAdjust lo hi 1 (n:Int) with|(lo,hi)=>pure (lo,(1:Int),Builtin.Slice.slicePlaces lo hi 1)) _ _ s
 rw[N5 lo hi n]
 show wpAny _ _ (pure (((sIx n 0 lo:Nat):Int),(1:Int),Builtin.Slice.slicePlaces ((sIx n 0 lo:Nat):Int) ((sIx n n hi:Nat):Int) 1)) _ _ s
 rw[N6]
 exact ju_ h
def RP (xs:Array Value)(i k:Nat):((qV k).filterMap fun (m:Nat)=>xs[((i:Int)+(m:Int)*1).toNat]?).toArray=((xs.toList.drop i).take k).toArray:=by
 have e:(fun (m:Nat)=>xs[((i:Int)+(m:Int)*1).toNat]?)=fun m=>xs[i+m]?:=by
  funext m
  have:((i:Int)+(m:Int)*1).toNat=i+m:=by lia
  rw[this]
 rw[e]
 have:=pick_run xs i k
 rw[List.filterMap_map]at this
 have e2:((fun x=>xs[x]?) ∘ fun x=>i+x)=fun m=>xs[i+m]?:=rfl
 rw[e2]at this
 rw[this]
def getItem_tuple_cut {t sl:Addr}   {lo hi:Option Int}  (ht:IsTup s.heap t items)(hs:s.heap.IsSliceOf sl vl vu .none)(pl:IsPart vl lo)(pu:IsPart vu hi)
  (hw:¬ (sIx items.size 0 lo=0/\sIx items.size items.size hi=items.size))
  (h:Q (.ref s.heap.objs.size) {s with heap:=s.heap.push {cls:=.type "tuple",data:=.seq ((items.toList.drop (sIx items.size 0 lo)).take (sIx items.size items.size hi-sIx items.size 0 lo)).toArray} })
  (hsz:items.size<=sizeLine):wpAny (model prog w) A (getItem (.ref t) (.ref sl)) Q E s:=by
 have ed:sizeOk (.seq ((items.toList.drop (sIx items.size 0 lo)).take (sIx items.size items.size hi-sIx items.size 0 lo)).toArray):=by
  show ((items.toList.drop (sIx items.size 0 lo)).take (sIx items.size items.size hi-sIx items.size 0 lo)).toArray.size<=sizeLine
  rw[jp_,jx_,xc_,j6_]
  lia
 have hj:sIx items.size items.size hi<=items.size:=VS _ _ (jg_ _) hi
 obtain⟨os,dJ,hcs,nB⟩:=id hs
 have hTs:s.TypeIs (.ref sl) "slice" := ⟨os,dJ,hcs⟩
 unfold getItem
 try with_reducible refine qX_ ?_
 first|refine jf_ (ju_ ?_)|skip
 refine jf_ (wpAny_sequenceKey ht.typeIs (by decide) ?_)
 refine jf_ (qJ_ (name:=Str.ofString "__getitem__") ht.typeIs xB_
  (xn_ xB_ ht.typeIs entry_tuple_getitem ?_ (args_tuple_getitem _ _)))
 show wpAny _ _ (Builtin.Tuple.tupleItemsOf (.ref t) >>= _) _ _ s
 refine jf_ (tupleItemsOf_ ht ?_)
 refine jf_ (wpAny_typeOf hTs ?_)
 rw[if_pos (by decide)]
 refine jf_ (GY hs pl pu ?_)
 have dq:¬ ((((sIx items.size 0 lo:Nat):Int)==0&&(1:Int)==1&&(sIx items.size items.size hi-sIx items.size 0 lo)==items.size)=true):=by
  intro q
  rw[qe_,qe_]at q
  have q1:((sIx items.size 0 lo:Nat):Int)=0:=eq_of_beq q.1.1
  have q2:sIx items.size items.size hi-sIx items.size 0 lo=items.size:=eq_of_beq q.2
  exact hw ⟨by lia,by lia⟩
 show wpAny _ _ (if (((sIx items.size 0 lo:Nat):Int)==0&&(1:Int)==1&&(sIx items.size items.size hi-sIx items.size 0 lo)==items.size)=true then _ else _) _ _ s
 rw[if_neg dq,RP]
 first
  | exact jf_ (m:=Builtin.Tuple.tupleExact _) (qT_ (ju_ ⟨_,rfl,ju_ h⟩) ed)
  | exact jf_ (m:=Builtin.Tuple.tupleExact _) (qT_ (jf_ (ju_ (ju_ ⟨_,rfl,ju_ h⟩))) ed)
  | exact jf_ (jf_ (m:=Builtin.Tuple.tupleExact _) (qT_ (ju_ (ju_ ⟨_,rfl,ju_ h⟩)) ed))
  | exact jf_ (jf_ (m:=Builtin.Tuple.tupleExact _) (qT_ (ju_ ⟨_,rfl,ju_ h⟩) ed))
end
end HT
namespace L2
open PySem PySem.Spec PyProof.Rows
abbrev TO:=St->Hp->(Option Int->Hp->Prop)->Prop
def PO (X:Cx)(e:Option Expr)(t:TO):Prop:=
 ∀(af:α7) (s:Shared) (σ:St) (H:Hp) (Q:Option Int->Hp->Prop),Inv X af σ H s->t σ H Q ->
  wpAny (model X.prog X.w) X.A (evalPart e X.env) (fun u s'=>∃o H',Inv X af σ H' s'/\IsPart u o/\Q o H') X.xe s
def Ph:TO:=fun _ H Q=>Q none H
def VT (t:TE):TO:=fun σ H Q=>t σ H fun x H1=>∃i,x=.int i/\Q (some i) H1
def intsAre_of  : ∀{us:List Value},Vals (ns.map V.int) us->IntsAre us ns:=by
 induction ns with
 |nil=>intro us r;rw[xQ_]at r;cases r;exact .nil
 |cons n ns ih=>
  intro us r
  rw[jZ_]at r
  cases r with
  |cons r1 r2=>
   obtain⟨t,e⟩:=r1
   subst e
   exact .cons n t (ih r2)
section
variable {X:Cx} {e:Expr} {te:TE} {lo hi:Option Expr} {tl th:TO} {pos p2:Pos}
def UE:PO X none Ph:=by
 intro af s σ H Q I h
 rw[evalPart_none]
 exact ju_ ⟨none,H,I,.none,h⟩
def UG (h:PE X e te):PO X (some e) (VT te):=by
 intro af s σ H Q I hw
 rw[evalPart_some]
 refine thn (h af s σ H _ I hw) fun u s1 ⟨x,H1,I1,r1,q1⟩=>?_
 obtain⟨i,rfl,q⟩:=q1
 obtain⟨t,rfl⟩:=r1
 exact⟨some i,H1,I1,.int i t,q⟩
def SlR (X:Cx)(r:V->Option Int->Option Int->Hp->VK->Prop):Prop:=
 ∀(af:α7) (s:Shared) (σ:St) (H:Hp) (x:V) (v vl vu:Value) (lo hi:Option Int) (sl:Addr) (Q:VK),Inv X af σ H s->RelV x v->s.heap.IsSliceOf sl vl vu .none->IsPart vl lo->IsPart vu hi->r x lo hi H Q ->
  ∃T id,typeLookup (.type T) "__getitem__"=pure (some (.builtin id))/\s.TypeIs v T/\wpAny (model X.prog X.w) X.A (getItem v (.ref sl)) (EP X af σ Q) X.xe s
def tSl (r:V->Option Int->Option Int->Hp->VK->Prop)(te:TE)(tl th:TO):TE:=fun σ H Q=>te σ H fun x H1=>tl σ H1 fun l H2=>th σ H2 fun u H3=>r x l u H3 Q
def RQ  (hr:SlR X r)(he:PE X e te)(hl:PO X lo tl)(hu:PO X hi th):PE X (.Subscript e (.Slice lo hi none p2) pos) (tSl r te tl th):=by
 intro af s σ H Q I h
 refine Subscript_ (thn (he af s σ H _ I h) fun v s1 ⟨x,H1,I1,r1,q1⟩=>?_)
 refine wpAny_Slice (thn (hl af s1 σ H1 _ I1 q1) fun vl s2 ⟨l,H2,I2,pl,q2⟩=>thn (hu af s2 σ H2 _ I2 q2) fun vu s3 ⟨u,H3,I3,pu,q3⟩=>?_)
 rw[evalPart_none]
 refine ju_ ?_
 have I4:Inv X af σ H3 {s3 with heap:=s3.heap.push {cls:=.type "slice",data:=.fields #[vl,vu,.none]} }:=I3.kept (t':=s3.toks) fun b ob q=>jo_ _ q
 obtain⟨T,id,hT,ht,hg⟩:=hr af {s3 with heap:=s3.heap.push {cls:=.type "slice",data:=.fields #[vl,vu,.none]} } σ H3 x v vl vu l u s3.heap.objs.size Q I4 r1 (Heap.IsSliceOf.new ..) pl pu q3
 show wpAny (model X.prog X.w) X.A (subscriptTail e (.Slice lo hi none p2) v (.ref s3.heap.objs.size)) (EP X af σ Q) X.xe {s3 with heap:=s3.heap.push {cls:=.type "slice",data:=.fields #[vl,vu,.none]} }
 exact tail_any (ops:=[.ref s3.heap.objs.size,v]) ht hT hg (by with_unfolding_all rfl)
def cutV (xs:List V)(lo hi:Option Int):List V:=(xs.drop (HT.sIx xs.length 0 lo)).take (HT.sIx xs.length xs.length hi-HT.sIx xs.length 0 lo)
def L5 (xs:List V)(lo hi:Option Int):(cutV xs lo hi).length<=xs.length:=by
 unfold cutV
 rw[jx_,xc_]
 lia
def rSlT (K:α3):V->Option Int->Option Int->Hp->VK->Prop:=fun x lo hi H Q=>∃a xs,x=.ref a/\SqT K H a xs /\
 ¬ (HT.sIx xs.length 0 lo=0/\HT.sIx xs.length xs.length hi=xs.length)/\∀p,H p=none->Q (.ref p) (upd H p (.tup (cutV xs lo hi)))
def VU:SlR X (rSlT X.K):=by
 intro af s σ H x v vl vu lo hi sl Q I rx hs pl pu h
 obtain⟨a,xs,rfl,hx,hw,q⟩:=h
 cases rx
 obtain⟨its,r,ht,hz⟩:=I.tuple hx
 have ak:its.toArray.size=xs.length:=by rw[jp_];exact r.length.symm
 refine⟨"tuple",_,xB_.lookup,ht.typeIs,?_⟩
 refine HT.getItem_tuple_cut ht hs pl pu (by rw[ak];exact hw) ?_ (by rw[ak];exact hz)
 rw[ak]
 refine⟨.ref s.heap.objs.size,_,I.laid (t':=s.toks) (o:=.tup (cutV xs lo hi)) (fun b ob q=>jo_ _ q) (jg_ _) ?_,rfl,q _ (I.hok.fresh (jg_ _))⟩
 exact⟨qm_ (L5 xs lo hi) hz,_,(r.drop (HT.sIx xs.length 0 lo)).take (HT.sIx xs.length xs.length hi-HT.sIx xs.length 0 lo),IsTup.new _ _⟩
def Xe (K:α3):R2:=fun x y H Q=>∃a b xs ys,x=.ref a/\y=.ref b/\SqT K H a xs/\SqT K H b ys/\xs ≠ []/\xs.length+ys.length<=sizeLine /\
 (ys=[]->Q (.ref a) H)/\(ys ≠ []->∀p,H p=none->Q (.ref p) (upd H p (.tup (xs++ys))))
def Vals.nil_iff   (r:Vals xs us):us=[]↔xs=[]:=by
 cases r with
 |nil=>simp
 |cons _ _=>simp
def UH:OpR X (binaryOp .Add) (Xe X.K):=by
 intro af s σ H x y v u Q I rx ry h
 obtain⟨a,b,xs,ys,rfl,rfl,ha,hb,hx,hz,q1,q2⟩:=h
 cases rx
 cases ry
 obtain⟨its,r1,p1,_⟩:=I.tuple ha
 obtain⟨aK,r2,p2,_⟩:=I.tuple hb
 refine HT.cat_tup p1 p2 (fun z=>hx (r1.nil_iff.mp z)) (fun z=>⟨.ref a,H,I,rfl,q1 (r2.nil_iff.mp z)⟩) (fun z=>?_) (by rw[<-r1.length,<-r2.length];exact hz)
 refine⟨.ref s.heap.objs.size,_,I.laid (t':=s.toks) (o:=.tup (xs++ys)) (fun b ob q=>jo_ _ q) (jg_ _) ?_,rfl,q2 (fun w=>z (r2.nil_iff.mpr w)) _ (I.hok.fresh (jg_ _))⟩
 exact⟨by rw[jk_];exact hz,_,r1.append r2,IsTup.new _ _⟩
end
end L2
namespace L2
open PySem PySem.Spec PyProof.Rows
def ixN (n:Nat)(i:Int):Option Nat:=if 0<=i then (if i<n then some i.toNat else none) else if -(n:Int)<=i then some (i+n).toNat else none
def atI {α:Type}(xs:List α)(i:Int):Option α:=(ixN xs.length i).bind fun j=>xs[j]?
def Pj    (h:ixN n i=some j):seqIndex? i n=some j/\j<n /\ -(n:Int)<=i/\i<n:=by
 unfold ixN at h
 by_cases h0:0<=i
 ·rw[if_pos h0]at h
  by_cases h1:i<n
  ·rw[if_pos h1]at h
   have e:i.toNat=j:=jr_ h
   exact⟨by rw[seqIndex_of h0 h1,e],by lia,by lia,h1⟩
  ·rw[if_neg h1]at h;cases h
 ·rw[if_neg h0]at h
  by_cases h1 : -(n:Int)<=i
  ·rw[if_pos h1]at h
   have e:(i+n).toNat=j:=jr_ h
   exact⟨by rw[seqIndex_neg s!"" h1,e],by lia,h1,by lia⟩
  ·rw[if_neg h1]at h;cases h
def Pk     (h:atI xs i=some v):∃j,seqIndex? i xs.length=some j/\xs[j]?=some v/\j<xs.length /\ -(xs.length:Int)<=i/\i<xs.length:=by
 unfold atI at h
 cases e:ixN xs.length i with
 |none=>rw[e]at h;cases h
 |some j=>
  rw[e]at h
  obtain⟨h1,h2,h3,h4⟩:=Pj e
  exact⟨j,h1,h,h2,h3,h4⟩
def D8 {α:Type}{xs:List α}{j:Nat}{v:α}(h:xs[j]?=some v):atI xs (j:Int)=some v:=by
 have hj:j<xs.length:=(jb_.mp h).1
 have e:ixN xs.length (j:Int)=some j:=by
  unfold ixN
  rw[if_pos s!"",if_pos s!""];simp
 unfold atI;rw[e];exact h
def Pl (b:Expr):Prop:=∀o i,subscripted b false o i=operate [o,i] (getItem o i)
def IxR (X:Cx)(r:R2):Prop:=
 ∀(value aY:Expr) (af:α7) (s:Shared) (σ:St) (H:Hp) (x y:V) (v u:Value) (Q:VK),Inv X af σ H s->RelV x v->RelV y u->r x y H Q ->
  subscripted aY false v u=operate [v,u] (getItem v u)->wpAny (model X.prog X.w) X.A (subscriptTail value aY v u) (EP X af σ Q) X.xe s
def MtR (X:Cx)(id:String)(r:V->List V->Hp->VK->Prop):Prop:=
 ∀(af:α7) (s:Shared) (σ:St) (H:Hp) (x:V) (xs:List V) (v:Value) (us:List Value) (Q:VK),Inv X af σ H s->RelV x v->Vals xs us->r x xs H Q ->
  wpAny (model X.prog X.w) X.A (call (.builtin id) (v::us)) (EP X af σ Q) X.xe s
section
variable {X:Cx} {a b:Expr} {ta tb:TE} {pos:Pos}
def IxR.or  (h:IxR X r)(h':IxR X r'):IxR X (fun x y H Q=>r x y H Q\/r' x y H Q):=by
 intro value aY af s σ H x y v u Q I rx ry q hs
 rcases q with q|q
 ·exact h value aY af s σ H x y v u Q I rx ry q hs
 ·exact h' value aY af s σ H x y v u Q I rx ry q hs
def VW  (hr:IxR X r)(ha:PE X a ta)(hb:PE X b tb)(hs:Pl b):PE X (.Subscript a b pos) (tOp r ta tb):=by
 intro af s σ H Q I h
 exact Subscript_ (binT ha hb I h fun v u s2 x y H2 I2 rx ry q=>hr a b af s2 σ H2 x y v u Q I2 rx ry q (hs _ _))
def rIxL (K:α3):R2:=fun x y H Q=>∃p xs i v,x=.ref p/\y=.int i/\SqL K H p xs/\atI xs i=some v/\Q v H
def rIxT (K:α3):R2:=fun x y H Q=>∃p xs i v,x=.ref p/\y=.int i/\SqT K H p xs/\atI xs i=some v/\Q v H
def AX:IxR X (rIxL X.K):=by
 intro value aY af s σ H x y v u Q I rx ry h hs
 obtain⟨p,xs,i,z,rfl,rfl,hq,he,q⟩:=h
 cases rx
 obtain⟨t,rfl⟩:=ry
 obtain⟨its,r,pl,hz⟩:=I.list hq
 obtain⟨j,h1,h2,h3,h4,h5⟩:=Pk he
 obtain⟨w,ew,eU⟩:=r.get h2
 have hl:=r.length
 have hn:=KS
 have fin:EP X af σ Q w s:=⟨z,H,I,eU,q⟩
 by_cases h0:0<=i
 ·have hj:i.toNat=j:=by
   rw[seqIndex_of h0 h5]at h1
   exact jr_ h1
  exact item_listR pl.isList h0 s!"" (by rw[hj];simpa using ew) fin hs
 ·have hj:(i+(its.toArray.size:Int)).toNat=j:=by
   rw[seqIndex_neg s!"" h4]at h1
   rw[jp_,<-hl]
   exact jr_ h1
  exact subscriptTail_builtinR (x:=w) pl.isList.typeIs slot_list_getitem.lookup
   (wpAny_getItem_list_neg (Q:=fun r s'=>r=w/\EP X af σ Q r s') pl.isList s!"" (by rw[jp_]<;>lia) s!"" (by rw[hj];simpa using ew) ⟨rfl,fin⟩) hs
def Ao:IxR X (rIxT X.K):=by
 intro value aY af s σ H x y v u Q I rx ry h hs
 obtain⟨p,xs,i,z,rfl,rfl,hq,he,q⟩:=h
 cases rx
 obtain⟨t,rfl⟩:=ry
 obtain⟨its,r,pl,hz⟩:=I.tuple hq
 obtain⟨j,h1,h2,h3,h4,h5⟩:=Pk he
 obtain⟨w,ew,eU⟩:=r.get h2
 have hl:=r.length
 have hn:=KS
 have fin:EP X af σ Q w s:=⟨z,H,I,eU,q⟩
 exact subscriptTail_builtinR (x:=w) pl.typeIs slot_tuple_getitem.lookup
  (getItem_tuple (j:=j) (Q:=fun r s'=>r=w/\EP X af σ Q r s') pl s!"" s!"" (by rw[jp_,<-hl];exact h1) (by simpa using ew) ⟨rfl,fin⟩) hs
def N7 (its:List Value)(n j:Nat)(u:Value):Obj.mapSeq (·.setIfInBounds j u) {cls:=.type "list",data:=.seq its.toArray n}={cls:=.type "list",data:=.seq (its.set j u).toArray n}:=by
 simp[Obj.mapSeq]
def Inv.lst {af:α7}{σ:St}{H:Hp}{s:Shared}{p:Addr}{xs:List V}(I:Inv X af σ H s)(h:H p=some (.lst xs)):
  ∃(its:List Value) (n:Nat),Vals xs its/\s.heap.get? p=some {cls:=.type "list",data:=.seq its.toArray n}/\xs.length<=sizeLine:=by
 obtain⟨z,its,n,r,e⟩:=I.hok p _ h
 exact⟨its,n,r,e,z⟩
def Inv.lstUpd       {its its':List Value}   (I:Inv X af σ H s)(h:H p=some (.lst xs))
  (ho:s.heap.get? p=some {cls:=.type "list",data:=.seq its.toArray n}) (hf:f {cls:=.type "list",data:=.seq its.toArray n}={cls:=.type "list",data:=.seq its'.toArray n' }) (r:Vals ys its') (hz:ys.length<=sizeLine) (t:Nat):
  Inv X af σ (upd H p (.lst ys)) {s with heap:=s.heap.update p f,toks:=t}:=by
 have e:(s.heap.update p f).get? p=some {cls:=.type "list",data:=.seq its'.toArray n' }:=by
  rw[qU_ f ho (by rw[hf]<;>rfl),hf]
 refine I.write (x:=p) (e:=p) (by rw[h];trivial) (.inl rfl) (fun b u hb q=>(qa_ _ _ (qn_ hb)).trans q) ⟨_,e⟩ ?_
 exact⟨hz,its',n',r,e⟩
def VX:V->V->V->Hp->(Hp->Prop)->Prop:=fun o i v H Q=>∃p xs k j,o=.ref p/\i=.int k/\H p=some (.lst xs)/\ixN xs.length k=some j/\Q (upd H p (.lst (xs.set j v)))
def set_list:PSet X VX:=by
 intro af s σ H o i v ov iv u Q I ro ri rv h
 obtain⟨p,xs,k,j,rfl,rfl,hp,hj,q⟩:=h
 cases ro
 obtain⟨t,rfl⟩:=ri
 obtain⟨its,n,r,ho,hz⟩:=I.lst hp
 obtain⟨h1,h2,h3,h4⟩:=Pj hj
 have hl:=r.length
 have hn:=KS
 have I':Inv X af σ (upd H p (.lst (xs.set j v))) {s with heap:=s.heap.update p (Obj.mapSeq (·.setIfInBounds j u))}:=
  I.lstUpd hp ho (N7 its n j u) (r.set rv j) (by rw[qO_];exact hz) s.toks
 by_cases h0:0<=k
 ·have hk:k.toNat=j:=by
   rw[seqIndex_of h0 h4]at h1
   exact jr_ h1
  exact v9 ho h0 s!"" (by rw[jp_,<-hl];exact h4) (by rw[hk];exact⟨_,I',q⟩)
 ·have hk:(k+(its.toArray.size:Int)).toNat=j:=by
   rw[seqIndex_neg s!"" h3]at h1
   rw[jp_,<-hl]
   exact jr_ h1
  exact vQ ho s!"" (by rw[jp_,<-hl];exact h3) s!"" (by rw[hk];exact⟨_,I',q⟩)
def Cz:V->Bool
 |.non=>true
 |.bl _=>true
 |.int _=>true
 |.str _=>true
 |_=>false
def eqV:V->V->Bool
 |.non,.non=>true
 |.bl a,.bl b=>a==b
 |.bl a,.int b=>(if a then 1 else 0)==b
 |.int a,.bl b=>a==(if b then 1 else 0)
 |.int a,.int b=>a==b
 |.str a,.str b=>a==b
 |_,_=>false
def Pm     (ry:RelV y u)(rx:RelV x v)(fy:Cz y=true)(fx:Cz x=true):SeqAt.EqAt A s u v (eqV y x):=by
 cases y with
 |non=>
  cases ry
  cases x with
  |non=>cases rx;exact SeqAt.EqAt.same _
  |bl b=>cases rx;exact SeqAt.EqAt.none_bool b
  |int b=>obtain⟨t,rfl⟩:=rx;exact SeqAt.EqAt.none_int b t
  |str b=>obtain⟨t,rfl⟩:=rx;exact SeqAt.EqAt.none_str b t
  |_=>exact absurd (show false=true from fx) jv_
 |bl a=>
  cases ry
  cases x with
  |non=>cases rx;exact SeqAt.EqAt.bool_none a
  |bl b=>cases rx;exact SeqAt.EqAt.bool_bool a b
  |int b=>obtain⟨t,rfl⟩:=rx;exact SeqAt.EqAt.bool_int a b t
  |str b=>obtain⟨t,rfl⟩:=rx;exact SeqAt.EqAt.bool_str a b t
  |_=>exact absurd (show false=true from fx) jv_
 |int a=>
  obtain⟨t',rfl⟩:=ry
  cases x with
  |non=>cases rx;exact SeqAt.EqAt.int_none a t'
  |bl b=>cases rx;exact SeqAt.EqAt.int_bool a t' b
  |int b=>obtain⟨t,rfl⟩:=rx;exact SeqAt.EqAt.int_int a t' b t
  |str b=>obtain⟨t,rfl⟩:=rx;exact SeqAt.EqAt.int_str a t' b t
  |_=>exact absurd (show false=true from fx) jv_
 |str a=>
  obtain⟨t',rfl⟩:=ry
  cases x with
  |non=>cases rx;exact SeqAt.EqAt.str_none a t'
  |bl b=>cases rx;exact SeqAt.EqAt.str_bool a t' b
  |int b=>obtain⟨t,rfl⟩:=rx;exact SeqAt.EqAt.str_int a t' b t
  |str b=>obtain⟨t,rfl⟩:=rx;exact SeqAt.EqAt.str_str a t' b t
  |_=>exact absurd (show false=true from fx) jv_
 |_=>exact absurd (show false=true from fy) jv_
def eqU (x:V)(u:Value):Bool:=match u with
 |.none=>eqV .non x
 |.bool b=>eqV (.bl b) x
 |.int i _=>eqV (.int i) x
 |.str z _=>eqV (.str z) x
 |_=>false
def Te   (r:RelV y u)(f:Cz y=true):eqU x u=eqV y x:=by
 cases y with
 |non=>cases r;rfl
 |bl b=>cases r;rfl
 |int i=>obtain⟨t,rfl⟩:=r;rfl
 |str z=>obtain⟨t,rfl⟩:=r;rfl
 |_=>exact absurd (show false=true from f) jv_
def JQ {x:V}:∀{xs:List V} {us:List Value},Vals xs us->xs.all Cz=true->us.any (eqU x)=xs.any fun y=>eqV y x
 |_,_,.nil,_=>rfl
 |y::xs,u::us,.cons r t,f=>by
  rw[va,qe_]at f
  rw[zD_,zD_,Te r f.1,JQ t f.2]
def Hi {A:Around}{s:Shared}{x:V}{v:Value}(rx:RelV x v)(fx:Cz x=true):∀{xs:List V} {us:List Value},Vals xs us->xs.all Cz=true->∀u∈us,SeqAt.EqAt A s u v (eqU x u)
 |_,_,.nil,_=>fun u hu=>by cases hu
 |y::xs,u::us,.cons r t,f=>fun u' hu=>by
  rw[va,qe_]at f
  rcases jB_.mp hu with rfl|hu
  ·rw[Te r f.1];exact Pm r rx f.1 fx
  ·exact Hi rx fx t f.2 u' hu
def inV (x:V)(xs:List V):Bool:=xs.any fun y=>eqV y x
def rIn (K:α3)(jt:Bool):R2:=fun x y H Q=>∃p xs,y=.ref p/\(SqL K H p xs\/SqT K H p xs)/\Cz x=true/\xs.all Cz=true/\Q (.bl (if jt then !inV x xs else inV x xs)) H
def GI:OpR X (compareOp .NotIn) (rIn X.K true):=by
 intro af s σ H x y v u Q I rx ry h
 obtain⟨p,xs,rfl,hq,fx,fs,q⟩:=h
 cases ry
 rcases hq with hq|hq
 ·obtain⟨its,r,pl,hz⟩:=I.list hq
  refine SeqAt.notIn_listAt (eqU x) pl.isList (fun w hw=>Hi rx fx r fs w (by simpa using hw)) ⟨.bl _,H,I,rfl,?_⟩
  rw[show its.toArray.any (eqU x)=its.any (eqU x) by simp,JQ r fs]
  exact q
 ·obtain⟨its,r,pl,hz⟩:=I.tuple hq
  refine SeqAt.notIn_tupleAt (eqU x) pl (fun w hw=>Hi rx fx r fs w (by simpa using hw)) ⟨.bl _,H,I,rfl,?_⟩
  rw[show its.toArray.any (eqU x)=its.any (eqU x) by simp,JQ r fs]
  exact q
def Aj:Cr X (.builtin "len") (fun xs H Q=>∃p ys,xs=[.ref p]/\(SqL X.K H p ys\/SqT X.K H p ys)/\Q (.int ys.length) H):=by
 intro af s σ H xs us Q I r h
 obtain⟨p,ys,rfl,hq,q⟩:=h
 obtain⟨u,rfl,rx⟩:=vals1 r
 cases rx
 have hn:=KS
 rcases hq with hq|hq
 ·obtain⟨its,r',pl,hz⟩:=I.list hq
  have ak:=r'.length
  exact Calls.call_len_list pl.isList (by simp only[jp_]<;>lia) ⟨.int ys.length,H,I.tok _,⟨s.toks+1,by rw[jp_,ak]⟩,q⟩
 ·obtain⟨its,r',pl,hz⟩:=I.tuple hq
  have ak:=r'.length
  exact len_tuple pl (by simp only[jp_]<;>lia) ⟨.int ys.length,H,I.tok _,⟨s.toks+1,by rw[jp_,ak]⟩,q⟩
def Cr.or   (h:Cr X f r)(h':Cr X f r'):Cr X f (fun xs H Q=>r xs H Q\/r' xs H Q):=by
 intro af s σ H xs us Q I rs q
 rcases q with q|q
 ·exact h af s σ H xs us Q I rs q
 ·exact h' af s σ H xs us Q I rs q
def D9:Cr X (.type "list") (fun xs H Q=>∃p ys,xs=[.ref p]/\(SqL X.K H p ys\/SqT X.K H p ys)/\∀l,H l=none->Q (.ref l) (upd H l (.lst ys))):=by
 intro af s σ H xs us Q I r h
 obtain⟨p,ys,rfl,hq,q⟩:=h
 obtain⟨u,rfl,rx⟩:=vals1 r
 cases rx
 have fin:∀(its:List Value),Vals ys its->ys.length<=sizeLine->∀(h':Heap) (c':Nat),(∀b o',s.heap.get? b=some o'->h'.get? b=some o') ->
   h'.get? s.heap.objs.size=some {cls:=.type "list",dict:=none,data:=.seq its.toArray c',slots := #[]}->EP X af σ Q (.ref s.heap.objs.size) {s with heap:=h' }:=fun its r' hz h' c' kp e=>
  ⟨.ref s.heap.objs.size,_,I.laid (t':=s.toks) kp (jg_ _) (show Bo X.prog X.w _ h' _ (.lst ys) from ⟨hz,its,c',r',e⟩),rfl,q _ (I.hok.fresh (jg_ _))⟩
 rcases hq with hq|hq
 ·obtain⟨its,r',pl,hz⟩:=I.list hq
  have ak:=r'.length
  obtain⟨o,ho,hc,n,hd⟩:=pl.isList
  exact call_list_seq p (.inl rfl) ho hc hd (fun h' c' kp e=>fin its r' hz h' c' kp e) (by simp only[jp_]<;>lia)
 ·obtain⟨its,r',pl,hz⟩:=I.tuple hq
  have ak:=r'.length
  obtain⟨o,ho,hc,n,hd⟩:=pl
  exact call_list_seq p (.inr rfl) ho hc hd (fun h' c' kp e=>fin its r' hz h' c' kp e) (by simp only[jp_]<;>lia)
def JR:Cr X (.type "tuple") (fun xs H Q=>∃p ys,xs=[.ref p]/\((SqL X.K H p ys/\∀l,H l=none->Q (.ref l) (upd H l (.tup ys)))\/(SqT X.K H p ys/\Q (.ref p) H))):=by
 intro af s σ H xs us Q I r h
 obtain⟨p,ys,rfl,h⟩:=h
 obtain⟨u,rfl,rx⟩:=vals1 r
 cases rx
 rcases h with ⟨hq,q⟩|⟨hq,q⟩
 ·obtain⟨its,r',pl,hz⟩:=I.list hq
  have ak:=r'.length
  refine call_tuple_list pl.isList (fun h' kp=>?_) (by simp only[jp_]<;>lia)
  have I1:Inv X af σ H {s with heap:=h' }:=I.kept (t':=s.toks) kp
  have I2:Inv X af σ (upd H h'.objs.size (.tup ys)) {s with heap:=h'.push {cls:=.type "tuple",data:=.seq its.toArray} }:=
   I1.laid (t':=s.toks) (fun b o e=>jo_ _ e) (jg_ _) (show Bo X.prog X.w _ _ _ (.tup ys) from ⟨hz,its,r',IsTup.new _ _⟩)
  exact⟨.ref h'.objs.size,_,I2,rfl,q _ (I1.hok.fresh (jg_ _))⟩
 ·obtain⟨its,r',pl,hz⟩:=I.tuple hq
  exact call_tuple_same pl ⟨.ref p,H,I,rfl,q⟩
def tyV (K:α3)(T:String)(x:V)(H:Hp):Prop:=match x with
 |.str _=>T = "str"
 |.int _=>T = "int"
 |.ref p=>(T = "list" /\ ∃xs,SqL K H p xs)\/(T = "tuple" /\ ∃o,K.lookup p=some o/\o.cls=.type "tuple" /\ o.dict=none) \/
   (T = "dict" /\ ((∃kvs,H p=some (.dK kvs)) \/ ∃kvs,H p=some (.dT kvs)))\/(T = "set" /\ ∃S n,H p=some (.set S n))
 |_=>False
def VY        (I:Inv X af σ H s)(r:RelV x v)(ty:tyV X.K T x H):
  s.TypeIs v T/\∀a,v=.ref a->∃ob,s.heap.get? a=some ob/\ob.dict=none:=by
 cases x with
 |str z=>
  obtain⟨t,rfl⟩:=r
  cases (show T = "str" from ty)
  exact⟨typeIs_str s z t,fun _ e=>nomatch e⟩
 |int i=>
  obtain⟨t,rfl⟩:=r
  cases (show T = "int" from ty)
  exact⟨typeIs_int s i t,fun _ e=>nomatch e⟩
 |ref p=>
  cases r
  rcases ty with ⟨rfl,xs,hq⟩|⟨rfl,o,hk,hc,hd⟩|⟨rfl,hk⟩|⟨rfl,S,n,hk⟩
  ·obtain⟨its,_,pl,_⟩:=I.list hq
   refine⟨pl.isList.typeIs,fun a e=>?_⟩
   cases e
   obtain⟨o,n,e,c,hd,_⟩:=pl
   exact⟨o,e,hd⟩
  ·refine⟨⟨o,I.kIn p o hk,hc⟩,fun a e=>?_⟩
   cases e
   exact⟨o,I.kIn _ o hk,hd⟩
  ·have z:∃o,s.heap.get? p=some o/\o.ExactDict:=by
    rcases hk with ⟨kvs,hk⟩|⟨kvs,hk⟩
    ·obtain⟨_,_,_,_,o,_,_,e,ex,_⟩:=I.hok p _ hk
     exact⟨o,e,ex⟩
    ·obtain⟨_,_,_,_,o,_,_,e,ex,_⟩:=I.hok p _ hk
     exact⟨o,e,ex⟩
   obtain⟨o,e,ex⟩:=z
   refine⟨⟨o,e,ex.1⟩,fun a e2=>?_⟩
   cases e2
   exact⟨o,e,ex.2.1⟩
  ·obtain⟨o,_,_,_,e,ex,_⟩:=I.hok p _ hk
   refine⟨⟨o,e,ex.1⟩,fun a e2=>?_⟩
   cases e2
   exact⟨o,e,ex.2.1⟩
 |_=>exact rg ty
def tBM (K:α3)(T:String)(r:V->List V->Hp->VK->Prop)(to:TE)(t:TA):TE:=fun σ H Q=>to σ H fun x H1=>tyV K T x H1/\t σ H1 fun xs H2=>r x xs H2 Q
variable {o e:Expr} {es:List Expr} {to:TE} {t:TA} {name:Str} {bx aG:Pos} {T id:String} {r:V->List V->Hp->VK->Prop}
def C5 (pa:PlainAttrs T)(slot:Slot T name id)(oJ:typeOf (.builtin id)=pure (.type "method_descriptor"))(hm:MtR X id r)(ho:PE X o to)(ha:PA X (e::es) t)
  (fU:attributeBase o name X.env (eval o X.env)=eval o X.env:=by rfl)
  (iq:((backTo aG (starEach (e::es) X.env)).all (fun x => !x.1)&&(backToKw aG (keywordEach [] X.env)).all (fun x=>x.1.isSome)
   && decide ((e::es).length+([]:List Keyword).length+(if ([]:List Keyword).isEmpty then 0 else 1)<30))=true:=by rfl)
  (fV:(bx.endLine==aG.line)=true:=by rfl) (hs:starEach (e::es) X.env=(false,eval e X.env)::starEach es X.env:=by rfl) (dM:(backTo aG (starEach es X.env)).any (·.1)=false:=by rfl):
  PE X (.Call (.Attribute o name bx) (e::es) [] aG) (tBM X.K T r to t):=by
 intro af s σ H Q I h
 refine wpAny_Call_method_late fU iq fV rfl (thn (ho af s σ H _ I h) fun v s1 ⟨x,H1,I1,r1,ty,q1⟩=>?_)
 obtain⟨h1,h2⟩:=VY I1 r1 ty
 refine⟨T,id,pa,slot,oJ,h1,h2,?_⟩
 have hA:=ha aG af s1 σ H1 _ I1 q1
 rw[hs]at hA ⊢
 refine zp_ (by show (false||(backTo aG (starEach es X.env)).any (·.1))=false;rw[dM]<;>rfl) (zB_ ?_)
 exact thn hA fun us s2 ⟨vs,H2,I2,r2,q2⟩=>hm af s2 σ H2 x vs v us Q I2 r1 r2 q2
/- xs.append(e),list.index on a module's tuple .. are MtR facts of 06m -/
end
end L2
namespace L2
open PySem PySem.Spec PyProof.Rows
def MtM (X:Cx)(id:String)(r:V->List V->Hp->VK->Prop):Prop:=
 ∀(af:α7) (s:Shared) (σ:St) (H:Hp) (x:V) (xs:List V) (v:Value) (us:List Value) (Q:VK),Inv X af σ H s->RelV x v->Vals xs us->r x xs H Q ->
  wpAny (model X.prog X.w) X.A (call (.builtin id) (v::us)) (EP X af σ Q) X.xe s
def Vals.one:∀{x:V} {us:List Value},Vals [x] us->∃u,us=[u]/\RelV x u
 |_,_,.cons r .nil=>⟨_,rfl,r⟩
def Vals.rep {xs:List V}{us:List Value}(h:Vals xs us):∀k:Nat,Vals (qU k xs).flatten (qU k us).flatten
 |0=>.nil
 |k+1=>by
  rw[qj_,qj_,xC_,xC_]
  exact Vals.append h (Vals.rep h k)
def foldl_rep (its:List Value):∀(k:Nat) (ai:List Value),
  rQ (fun x1 x2=>x1++x2) ai.toArray (qU k its.toArray)=(ai++(qU k its).flatten).toArray
 |0,ai=>by simp
 |k+1,ai=>by
  have e:ai.toArray++its.toArray=(ai++its).toArray:=by simp
  have e2:(ai++its)++(qU k its).flatten=ai++(qU (k+1) its).flatten:=by
   rw[qj_,xC_,qc_]
  rw[<-e2,<-foldl_rep its k (ai++its),<-e,qj_,qY_]
section
variable {X:Cx} {af:α7} {σ:St} {H:Hp} {s:Shared} {l b:Addr} {xs ys zs:List V}
def Inv.lset {its its':List Value}    (I:Inv X af σ H s)(hH:H l=some (.lst xs))
  (e:s.heap.get? l=some {cls:=.type "list",data:=.seq its.toArray n}) (hf:f its.toArray=its'.toArray) (hv:Vals ys its') (hz:ys.length<=sizeLine):
  Inv X af σ (upd H l (.lst ys)) {s with heap:=s.heap.update l (Obj.mapSeq f),toks:=t' }:=by
 have q:=x5_ e f
 rw[hf]at q
 refine I.write (x:=l) (e:=l) (by rw[hH];exact trivial) (.inl rfl) (fun b' u hb hu=>(qa_ s.heap (Obj.mapSeq f) (qn_ hb)).trans hu) ⟨_,q⟩ ?_
 exact⟨hz,its',_,hv,q⟩
def Inv.lnew {its:List Value}  (I:Inv X af σ H s)(hv:Vals ys its)(hz:ys.length<=sizeLine):
  Inv X af σ (upd H s.heap.objs.size (.lst ys)) {s with heap:=s.heap.push {cls:=.type "list",data:=.seq its.toArray},toks:=t' }:=
 I.laid (fun _ _ q=>jo_ _ q) (jg_ _) ⟨hz,its,0,hv,jH_ _ rfl⟩
def Inv.fresh (I:Inv X af σ H s):H s.heap.objs.size=none:=I.hok.fresh (jg_ _)
def Inv.lstM (I:Inv X af σ H s)(hH:H l=some (.lst xs)):xs.length<=sizeLine/\∃(its:List Value) (n:Nat),Vals xs its/\xs.length=its.length/\s.heap.get? l=some {cls:=.type "list",data:=.seq its.toArray n}:=by
 obtain⟨z,its,n,r,e⟩:=I.hok l _ hH
 exact⟨z,its,n,r,r.length,e⟩
def M7  (h:n<=sizeLine):Builtin.List.listTooLong n=false:=by
 unfold Builtin.List.listTooLong
 exact j9_ s!""
end
section
variable {X:Cx}
def Po:V->List V->Hp->VK->Prop:=fun x vs H Q=>∃l xs y,x=.ref l/\vs=[y]/\H l=some (.lst xs)/\xs.length<sizeLine/\Q .non (upd H l (.lst (xs++[y])))
def AS:MtM X "list.append" Po:=by
 intro af s σ H x vs v us Q I rx rv h
 obtain⟨l,xs,y,rfl,rfl,hH,hz,q⟩:=h
 cases rx
 obtain⟨u,rfl,ru⟩:=rv.one
 obtain⟨z,its,n,r,hl,e⟩:=I.lstM hH
 refine xD_ F.slot_list_append ⟨_,e,rfl⟩ F.entry_list_append (zC_ _ _) (z0_ l its.toArray n u (by rw[jp_];lia)) ⟨e,?_⟩
 refine⟨.non,_,I.lset (its':=its++[u]) hH e (by simp) (r.append (.cons ru .nil)) ?_,rfl,q⟩
 rw[jk_,jR_]
 lia
def Pp:V->List V->Hp->VK->Prop:=fun x vs H Q=>∃l b xs zs,x=.ref l/\vs=[.ref b]/\H l=some (.lst xs)/\H b=some (.lst zs)/\xs.length+zs.length<=sizeLine/\Q .non (upd H l (.lst (xs++zs)))
def Pq:MtM X "list.extend" Pp:=by
 intro af s σ H x vs v us Q I rx rv h
 obtain⟨l,b,xs,zs,rfl,rfl,hH,hB,hz,q⟩:=h
 cases rx
 obtain⟨u,rfl,ru⟩:=rv.one
 cases ru
 obtain⟨z,its,n,r,hl,e⟩:=I.lstM hH
 obtain⟨z2,aK,n2,r2,bS,e2⟩:=I.lstM hB
 have hsz:its.toArray.size+aK.toArray.size<=sizeLine:=by rw[jp_,jp_];lia
 have fW:¬ (!its.toArray.isEmpty&&Builtin.List.listTooLong (its.toArray.size+aK.toArray.size))=true:=by
  rw[M7 hsz,Bool.and_false]
  exact jv_
 refine xD_ F.slot_list_extend ⟨_,e,rfl⟩ F.entry_list_extend (F.args_list_extend_2 _ _)
  (AutoSeq1.list_extend_list_list_0 l its.toArray n b aK.toArray n2 fW (by rw[jp_];lia) s!"") ⟨e,e2,?_⟩
 refine⟨.non,_,I.lset (its':=its++aK) hH e (by simp) (r.append r2) ?_,rfl,q⟩
 rw[jk_]
 lia
def rCat:R2:=fun x y H Q=>∃l b xs zs,x=.ref l/\y=.ref b/\H l=some (.lst xs)/\H b=some (.lst zs)/\xs.length+zs.length<=sizeLine/\∀p,H p=none->Q (.ref p) (upd H p (.lst (xs++zs)))
def VZ:OpR X (binaryOp .Add) rCat:=by
 intro af s σ H x y v u Q I rx ry h
 obtain⟨l,b,xs,zs,rfl,rfl,hH,hB,hz,q⟩:=h
 cases rx
 cases ry
 obtain⟨z,its,n,r,hl,e⟩:=I.lstM hH
 obtain⟨z2,aK,n2,r2,bS,e2⟩:=I.lstM hB
 refine PySem.P.add_list e e2 ?_ (by rw[jp_,jp_];lia)
 have ea:its.toArray++aK.toArray=(its++aK).toArray:=by simp
 rw[ea]
 exact⟨.ref _,_,I.lnew (t':=s.toks) (r.append r2) (by rw[jk_];lia),rfl,q _ I.fresh⟩
def rRep:R2:=fun x y H Q=>∃l k xs,x=.ref l/\y=.int k/\H l=some (.lst xs) /\ -(2 ^ 63)<=k/\k<2 ^ 63/\xs.length*k.toNat<=sizeLine /\
 ∀p,H p=none->Q (.ref p) (upd H p (.lst (qU k.toNat xs).flatten))
def len_rep {α:Type}(xs:List α)(k:Nat):(qU k xs).flatten.length=k*xs.length:=by
 induction k with
 |zero=>simp
 |succ k ih=>rw[qj_,xC_,jk_,ih,vn,vo]
def Pt:OpR X (binaryOp .Mult) rRep:=by
 intro af s σ H x y v u Q I rx ry h
 obtain⟨l,k,xs,rfl,rfl,hH,h1,h2,hz,q⟩:=h
 cases rx
 obtain⟨t,rfl⟩:=ry
 obtain⟨z,its,n,r,hl,e⟩:=I.lstM hH
 have ak:its.toArray.size*k.toNat<=sizeLine:=by rw[jp_,<-hl];exact hz
 have hcap:¬ its.toArray.size*k.toNat > (2 ^ 63-1) / 8:=by
  have:(sizeLine:Nat)<=(2 ^ 63-1) / 8:=by decide
  lia
 have hfit:¬ (!Builtin.List.listFitsIndex k)=true:=by
  rw[fitsIndex_both h1 h2]
  exact jv_
 have fW:¬ Builtin.List.listTooLong (its.toArray.size*k.toNat)=true:=by
  rw[M7 ak]
  exact jv_
 have dr:rQ (fun x1 x2=>x1++x2) #[] (qU (if its.toArray.isEmpty=true then 0 else k.toNat) its.toArray)=(qU k.toNat its).flatten.toArray:=by
  have f0:∀m:Nat,rQ (fun x1 x2=>x1++x2) #[] (qU m its.toArray)=(qU m its).flatten.toArray:=fun m=>by
   have:=foldl_rep its m []
   rw[xR_]at this
   exact this
  rw[f0]
  cases its with
  |nil=>simp
  |cons a r'=>rw[if_neg (by simp)]
 refine wpAny_binaryOp_repeat_ref (T := "list") (U := "int") (by decide) ⟨_,e,rfl⟩ (fun s'=>typeIs_int s' k t) noFill_list_mul F.fills_int_mul zJ_ repeat_list F.slot_int_index.lookup
  (xD_ zJ_ (typeIs_int s k t) F.entry_int_rmul (F.args_int_rmul_2 _ _) (int___rmul___int_list k t l its.toArray n)
   ⟨e,rfl,⟨_,e,rfl⟩,xD_ F.slot_list_mul ⟨_,e,rfl⟩ F.entry_list_mul (F.args_list_mul_2 _ _) (AutoListH.list___mul___list_int_3 l its.toArray n k t hfit hcap fW) ⟨e,?_⟩⟩)
 rw[dr]
 exact⟨.ref _,_,I.lnew (t':=s.toks) (r.rep k.toNat) (by rw[len_rep,tG];exact hz),rfl,q _ I.fresh⟩
end
end L2
namespace Att
open PySem PySem.W PySem.Calls PyProof.Rows
def HH   : ∀(ns:α2) (vs:List Value),WellAll P h vs (ns.map WData.int)->IntsAre vs ns:=by
 intro ns
 induction ns with
 |nil=>
  intro vs w
  rw[xQ_]at w
  cases w
  exact .nil
 |cons n ns ih=>
  intro vs w
  rw[jZ_]at w
  cases w with
  |cons a b=>
   cases a
   exact .cons _ _ (ih _ b)
def Pu {l:OpenLaw}{n:Nat}(hn:l.most=some n){P:Params}{h:Heap}{args:List WData}{ju:List Value}
  (ir:l.row.toRowW.claim.pre args=true) (cD:WellAll P h ju args):
  ∃a vs ns,ju=[Value.ref a]/\args=[WData.list (ns.map WData.int)]/\h.get? a=some {cls:=.type "list",data:=.seq vs.toArray}/\IntsAre vs ns/\ns.length<=n:=by
 have hsh:WShape.hasAll [] args [.list .int]=true:=(pre_splitW ir).1
 have hc:l.pre.holds [] {args:=args}=true:=(pre_splitW ir).2
 obtain⟨d,r,rfl,h1,h2⟩:=hasAllW_cons hsh
 obtain rfl:=hasAllW_nil h2
 obtain⟨xs,rfl,h3⟩:=hasW_list h1
 obtain⟨ns,rfl⟩:=items_int h3
 have ak:ns.length<=n:=by
  unfold OpenLaw.pre at hc
  have h4:(WTm.not (.lt (.lit (.int (n:Int))) (.len (.arg 0)))).holds [] {args:=[.list (ns.map .int)]}=true:=by
   have h4:=(holds_andW hc).1
   rw[hn]at h4
   exact h4
  have h5:=condW_of h4 (w_not (w_lt w_lit (w_len_list (w_arg rfl))))
  rw[ja_]at h5
  refine tV fun q=>?_
  have q':(n:Int)<((ns.length:Nat):Int):=by lia
  first
   | (rw[j4_ q']at h5;exact absurd h5 (by decide))
   | (simp at h5;lia)
 cases cD with
 |cons w1 w2=>
  cases w2
  cases w1 with
  |list ho aB=>exact⟨_,_,ns,rfl,rfl,ho,HH ns _ aB,ak⟩
def Px (l:OpenLaw)(args:List WData):l.row.toRowW.claim.post args (.bool true) args=true:=
 postW_of (r:=l.row.toRowW) (X:=(true==true))
  (show WShape.has [] (.bool true) .bool=true by first|rfl|decide|simp[WShape.has,WShape.arms,WShape.armsAll])
  (show (WTm.eq .res (.lit (.bool true))).value [] {args:=args,res:=some (.bool true),after:=args}=some (.bool (true==true)) from w_eq_bool (w_res rfl) w_lit) rfl
def attach_call {l:OpenLaw}{n:Nat}{q:Program}{cE:List Str}{XP:(Str->α5)->Heap->Prop}{YP:World->Heap->Prop}{d:DefRec}
  (hn:l.most=some n) (mf:d.params.defaults=[])
  (call:∀(w:World) (s₀ s₁:Shared) (mg mb:Str->α5) (fa:Addr) (o:Obj) (pm cd bz:Value) (a:Addr) (vs:List Value) (ns:α2),
   Ground q cE [] XP w s₀ mg mb s₁.heap->YP w s₁.heap ->
   s₁.heap.get? fa=some o->o.data=.func (docDef d.name d.params d.body d.scope pm cd bz)->s₁.heap.CodeRec cd d.name->mg d.name=some (.ref fa) ->
   s₁.heap.get? a=some {cls:=.type "list",data:=.seq vs.toArray}->IntsAre vs ns->ns.length<=n->s₁.gens = #[] ->
   codeAny (model l.prog w) callerA (.call (.ref fa) ⟨[.ref a],[]⟩) (fun r s'=>r=.ok (.ret (.bool true))/\OldK s₁.heap s'.heap/\s'.os=s₁.os/\AllBare s'.gens) s₁):
  WalkO q cE XP YP l.row.toRowW d [] (fun f vs=>ux f vs):=by
 intro w s₀ s₁ mg mb G Y fa o pm cd bz dV kV ho hd bQ hD hmg hg args ju as ir hlay hrd cD oM
 obtain rfl:dV=.none:=Dflts.none hD mf
 obtain rfl:kV=.none:=Dflts.noKw hD
 obtain⟨a,vs,ns,rfl,rfl,bI,fX,ak⟩:=Pu hn ir cD
 refine enter_call (codeAny_mono (call w s₀ s₁ mg mb fa o pm cd bz a vs ns G Y ho (fd_plain hd) bQ hmg bI fX ak hg) fun r s' hq=>?_)
 obtain⟨rfl,h2,h3,h4⟩:=hq
 exact⟨.inl ⟨.bool true,.bool true,[],rfl,fun _=>rfl,.bool true,Px l _,fun _=>⟨rH,fun _ hm=>(nomatch hm)⟩⟩,h2,h3,h4⟩
end Att
namespace L2
open PySem PySem.Spec PyProof.Rows
def K1:∀{vs:List Value} {ns:α2},IntsAre vs ns->Vals (ns.map V.int) vs
 |_,_,.nil=>.nil
 |_,_,.cons n t h=>.cons ⟨t,rfl⟩ (K1 h)
def C2 (s:Stmt):Arguments:=match s with
 |.FunctionDef _ a _ _ _ _ _ _ _ _=>a
 |_=>{posonlyargs:=[],args:=[],vararg:=none,kwonlyargs:=[],kw_defaults:=[],kwarg:=none,defaults:=[]}
def CA (s:Stmt):List Stmt:=match s with
 |.FunctionDef _ _ b _ _ _ _ _ _ _=>b
 |_=>[]
def Al (s:Stmt):Scope:=match s with
 |.FunctionDef _ _ _ _ _ _ sc _ _ _=>sc
 |_=>{kind:=.function,names:=[],isGenerator:=false,isCoroutine:=false}
abbrev CX0:CXT:=fun _ _ _ _ _ _=>False
abbrev E0:XK:=fun _ _ _=>False
def AL  : M5 CX0 X E0:=fun _ _ _ _ _ _ _ h=>h.elim
structure Fun (K:α3)(x qual:Str)(st:Stmt)(f:Addr)(fd:α6):Prop where
 ex:∃(oc:Value) (od:Option Addr) (kV bz pm:Value) (an:Option Addr) (aA ct:Value) (fR:Array (α5)),
  fd=fnOf x qual (C2 st) (CA st) (Al st) .none kV bz pm an aA ct/\K.lookup f=some ⟨oc,od,.func fd,fR⟩/\codeIn K aA qual=true
 kp:keepIn K (.ref f)=true
section
variable {P:Program} {w:World} {K:α3} {mg:Str->α5} {base:Heap}
def Fun.ok  {st:Stmt}      (F:Fun K x qual st f fd)(S:FnScope N ps (Al st))(len:∀vs H Q E,sp vs H Q E->vs.length=ps.length)
  (dn:∀(aA:Value) (A:Around) (outer:List Env) (s:Shared) (H:Hp) (vs:List V) (Q:VK) (E:XK),Room k (A.deeper (envOfC qual (Al st) s.heap.objs.size f aA))->sp vs H Q E ->
   ∃t,PSs (cxOf CX0 P w K mg base N qual (Al st) f aA A outer s H E).nox (CA st) t/\t {nx:=fun _ H'=>Q .non H',rt:=Q} (start N vs) H):FnOk P w K mg base CX0 (k+1) f fd ps sp:=by
 obtain⟨oc,od,kV,bz,pm,an,aA,ct,fR,rfl,lk,bQ⟩:=F.ex
 refine VR lk bQ S len fun A outer s H vs Q E hr eQ=>?_
 obtain⟨t,h,q⟩:=dn aA A outer s H vs Q E hr eQ
 exact⟨t,h.nox,q⟩
def Fun.binds  {st:Stmt}    (F:Fun K x qual st f fd)
  (h:∀(kV bz pm:Value) (an:Option Addr) (aA ct:Value) (us:List Value),us.length=ps.length->bindArgs (fnOf x qual (C2 st) (CA st) (Al st) .none kV bz pm an aA ct) ⟨us,[]⟩=pure (ps.zip us)):N4 K fd ps []:=by
 obtain⟨oc,od,kV,bz,pm,an,aA,ct,fR,rfl,lk,bQ⟩:=F.ex
 exact .all (h kV bz pm an aA ct)
def fun_mk  {st:Stmt}     {kV bz pm aA ct:Value}(l:K.lookup f=some ⟨oc,od,.func (fnOf x qual (C2 st) (CA st) (Al st) .none kV bz pm an aA ct),fR⟩)
  (c:codeIn K aA qual=true) (k:keepIn K (.ref f)=true):Fun K x qual st f (fnOf x qual (C2 st) (CA st) (Al st) .none kV bz pm an aA ct):=⟨⟨oc,od,kV,bz,pm,an,aA,ct,fR,rfl,l,c⟩,k⟩
end
def HI   (hr:Room k A):A.units+1<cLine:=zS_ (Nat.add_le_add_left (by decide:1<=64) _) hr.units
section
variable {X:Cx}
def pv (i:Nat)   (hN:X.N[i]?=some x:=by rfl)(hv:Vis X.env.scope x:=by first|exact qY rfl|exact rh (qY rfl)|exact rh (rh rfl))(hd:(x==("__debug__" : Str))=false:=by decide)
  (bQ:(x==("__classdict__" : Str))=false:=by decide):PE X (.Name x pos) (tVar i):=VD hN hv hd bQ
end
def ite2 {c A B:Prop}[Decidable c](h1:c->A)(h2:¬ c->B):if c then A else B:=by
 by_cases h:c
 ·rw[if_pos h]
  exact h1 h
 ·rw[if_neg h]
  exact h2 h
def Same (H H':Hp):Prop:=∀b o,H b=some o->H' b=some o
def Same.refl (H:Hp):Same H H:=fun _ _ h=>h
def Same.trans {H H1 H2:Hp}(a:Same H H1)(b:Same H1 H2):Same H H2:=fun c o h=>b c o (a c o h)
def Same.free  (e:Same H H')  (h:H' l=rJ):H l=rJ:=by
 cases q:H l with
 |none=>rfl
 |some o=>
  rw[e l o q]at h
  cases h
def Same.seq {K:α3}    (e:Same H H')(h:SqL K H a xs):SqL K H' a xs:=by
 rcases h with (h|⟨o,h⟩)|h
 ·exact .inl (.inl (e _ _ h))
 ·exact .inl (.inr ⟨o,e _ _ h⟩)
 ·exact .inr h
end L2
set_option maxHeartbeats 4000000
namespace L2
open PySem PySem.Spec PyProof.Rows
section
variable {κ:Type} [DecidableEq κ]
def valV (kvs:List (κ×V))(k:κ):Option V:=(kvs.find? fun kv=>decide (kv.1=k)).map (·.2)
def putK (kvs:List (κ×V))(k:κ)(v:V):List (κ×V):=
 if (kvs.any fun kv=>decide (kv.1=k))=true then kvs.map (fun kv=>if kv.1=k then (kv.1,v) else kv) else kvs++[(k,v)]
def Hj {p:κ×V}{r:List (κ×V)}{k:κ}(e:p.1=k):valV (p::r) k=some p.2:=by simp[valV,xl_,e]
def Hk {p:κ×V}{r:List (κ×V)}{k:κ}(e:¬ p.1=k):valV (p::r) k=valV r k:=by simp[valV,xl_,e]
def CS (k:κ):∀kvs:List (κ×V),(kvs.any fun kv=>decide (kv.1=k))=(valV kvs k).isSome
 |[]=>rfl
 |p::r=>by
  rw[zD_]
  by_cases e:p.1=k
  ·simp only[Hj e,j4_ e,Bool.true_or,zh_]
  ·rw[Hk e,j9_ e,Bool.false_or];exact CS k r
def Dq (kvs:List (κ×V))(k:κ)(v:V):(putK kvs k v).length<=kvs.length+1:=by
 unfold putK
 split
 ·rw[ja_];lia
 ·rw[jk_,jT_,qi_];lia
def M8 {kvs:List (κ×V)}{k:κ}(v:V)(h:valV kvs k=none):putK kvs k v=kvs++[(k,v)]:=by
 unfold putK
 rw[CS,h]
 exact if_neg (by decide)
def RelO.isSome_eq   (r:RelO o u):o.isSome=u.isSome:=by
 cases o with
 |none=>cases u with
  |none=>rfl
  |some _=>exact (show False from r).elim
 |some _=>cases u with
  |none=>exact (show False from r).elim
  |some _=>rfl
def RelO.getD     (r:RelO o u)(rd:RelV d d'):RelV (o.getD d) (u.getD d'):=by
 cases o with
 |none=>cases u with
  |none=>exact rd
  |some _=>exact (show False from r).elim
 |some _=>cases u with
  |none=>exact (show False from r).elim
  |some _=>exact r
def KV.val   (r:KV kvs vs)(k:κ):RelO (valV kvs k) (valueAt vs k):=by
 unfold KV at r
 induction r with
 |nil=>exact qW
 |@cons p q ps qs h t ih=>
  obtain⟨h1,h2⟩:=h
  by_cases e:p.1=k
  ·have e':q.1=k:=h1.symm.trans e
   have b:valueAt (q::qs) k=some q.2:=by simp[valueAt,xl_,e']
   rw[Hj e,b];exact h2
  ·have e':¬ q.1=k:=fun z=>e (h1.trans z)
   have b:valueAt (q::qs) k=valueAt qs k:=by simp[valueAt,xl_,e']
   rw[Hk e,b];exact ih
def KV.any   (r:KV kvs vs)(k:κ):(kvs.any fun kv=>decide (kv.1=k))=vs.any fun kv=>decide (kv.1=k):=by
 unfold KV at r
 induction r with
 |nil=>rfl
 |cons h t ih=>rw[zD_,zD_,ih,h.1]
def KV.repl   (r:KV kvs vs)(k:κ)   (ry:RelV y u):
  KV (kvs.map fun kv=>if kv.1=k then (kv.1,y) else kv) (vs.map fun kv=>if kv.1=k then (kv.1,u) else kv):=by
 unfold KV at r ⊢
 induction r with
 |nil=>exact .nil
 |@cons p q ps qs h t ih=>
  rw[jZ_,jZ_]
  refine .cons ?_ ih
  obtain⟨h1,h2⟩:=h
  by_cases e:p.1=k
  ·rw[if_pos e,if_pos (h1.symm.trans e)];exact⟨h1,ry⟩
  ·rw[if_neg e,if_neg (fun z=>e (h1.trans z))];exact⟨h1,h2⟩
def KV.put   (r:KV kvs vs)(k:κ)   (ry:RelV y u):KV (putK kvs k y) (stored vs k u):=by
 unfold putK stored
 rw[r.any k]
 by_cases e:(vs.any fun kv=>decide (kv.1=k))=true
 ·rw[if_pos e,if_pos e];exact r.repl k ry
 ·rw[if_neg e,if_neg e];exact Paired.snoc r ⟨rfl,ry⟩
def KV.keys {kvs:List (κ×V)}{vs:List (κ×Value)}(r:KV kvs vs):kvs.map (·.1)=vs.map (·.1):=by
 unfold KV at r
 induction r with
 |nil=>rfl
 |cons h t ih=>rw[jZ_,jZ_,ih,h.1]
def KV.length {kvs:List (κ×V)}{vs:List (κ×Value)}(r:KV kvs vs):kvs.length=vs.length:=Paired.length r
end
def L6     (r:RelV (kV k) u):(Bj P w).is k u=true:=by
 cases k with
 |inl i=>obtain⟨t,e⟩:=(show ∃t,u=Value.int i t from r);subst e;exact LZ P w i t
 |inr x=>obtain⟨t,e⟩:=(show ∃t,u=Value.str x t from r);subst e;exact L3 P w x t
def K2 {P:Program}{w:World}:∀{ks:List Key} {us:List Value},Vals (ks.map kV) us->ItemsAre (Bj P w) ks us
 |[],_,r=>by rw[xQ_]at r;cases r;exact .nil
 |k::ks,_,r=>by
  rw[jZ_]at r
  cases r with
  |cons h t=>exact .cons (L6 h) (K2 t)
abbrev KT (H:Hp):List (List Key×V)->List (List Key×Addr×Value)->Prop:=Paired fun p q=>p.1=q.1/\H q.2.1=some (.tup (p.1.map kV))/\RelV p.2 q.2.2
def KT.val    (r:KT H kvs xs)(k:List Key):RelO (valV kvs k) ((atKey xs k).map (·.2)):=by
 induction r with
 |nil=>exact qW
 |@cons p q ps qs h t ih=>
  obtain⟨h1,_,h2⟩:=h
  by_cases e:p.1=k
  ·have e':q.1=k:=h1.symm.trans e
   have b:atKey (q::qs) k=some q.2:=by simp[atKey,xl_,e']
   rw[Hj e,b];exact h2
  ·have e':¬ q.1=k:=fun z=>e (h1.trans z)
   have b:atKey (q::qs) k=atKey qs k:=by simp[atKey,xl_,e']
   rw[Hk e,b];exact ih
def KT.repl    (r:KT H kvs xs)(k:List Key)   (ry:RelV y u):
  KT H (kvs.map fun kv=>if kv.1=k then (kv.1,y) else kv) (xs.map (putAt k u)):=by
 induction r with
 |nil=>exact .nil
 |@cons p q ps qs h t ih=>
  rw[jZ_,jZ_]
  refine .cons ?_ ih
  obtain⟨h1,h2,h3⟩:=h
  unfold putAt
  by_cases e:p.1=k
  ·rw[if_pos e,if_pos (h1.symm.trans e)];exact⟨h1,h2,ry⟩
  ·rw[if_neg e,if_neg (fun z=>e (h1.trans z))];exact⟨h1,h2,h3⟩
def KT.put    (r:KT H kvs xs)(k:List Key)    (hb:H b=some (.tup (k.map kV)))(ry:RelV y u):
  KT H (putK kvs k y) (storedH xs k b u):=by
 have e:(kvs.any fun kv=>decide (kv.1=k))=(atKey xs k).isSome:=by
  rw[CS,(r.val k).isSome_eq,tH]
 unfold putK storedH
 rw[e]
 by_cases q:(atKey xs k).isSome=true
 ·rw[if_pos q,if_pos q];exact r.repl k ry
 ·rw[if_neg q,if_neg q];exact Paired.snoc r ⟨rfl,hb,ry⟩
def KT.keeps    (r:KT H kvs xs)(ht:∀b ys,H b=some (.tup ys)->H' b=some (.tup ys)):KT H' kvs xs:=
 Paired.mapP r fun _ _ z=>⟨z.1,ht _ _ z.2.1,z.2.2⟩
section
variable {P:Program} {w:World} {H:Hp} {h:Heap} {a:Addr}
def UI  (ok:HOk P w H h)(e:Rd H a u):Bo P w H h a u:=e.ok ok
def L7  (ok:HOk P w H h)(e:Rd H a (.dK kvs)):kvs.length<=sizeLine/\(a==sysModules)=false/\∃vs,KV kvs vs/\h.DictOf (Bj P w) a vs:=
 show Bo P w H h a (.dK kvs) from UI ok e
def RS  (ok:HOk P w H h)(e:H a=some (.dK kvs)):kvs.length<=sizeLine/\(a==sysModules)=false/\∃vs,KV kvs vs/\h.DictOf (Bj P w) a vs:=L7 ok (.inl e)
def Jh  (ok:HOk P w H h)(e:H a=some (.tup (ks.map kV))):(tupleKind (Bj P w)).is h ks a:=by
 obtain⟨_,its,r,o,h1,h2,n,h3⟩:=(show Bo P w H h a (.tup (ks.map kV)) from ok a _ e)
 exact⟨o,its.toArray,n,h1,h2,h3,by simpa using K2 r⟩
def N8  (ok:HOk P w H h)(e:Rd H a (.dT kvs)):kvs.length<=sizeLine/\(a==sysModules)=false /\
  ∃xs,KT H kvs xs/\h.DictOfH (tupleKind (Bj P w)) a xs:=by
 obtain⟨z,y,xs,r,o,es,ep,h1,h2,h3,h4,h5⟩:=(show Bo P w H h a (.dT kvs) from UI ok e)
 refine⟨z,y,xs,r,o,es,ep,h1,h2,h3,h4,fun x hx=>?_,h5⟩
 have all:∀{l:List (List Key×V)} {m:List (List Key×Addr×Value)},KT H l m->∀x∈m,(tupleKind (Bj P w)).is h x.1 x.2.1:=by
  intro l m q
  induction q with
  |nil=>intro x hx;exact nomatch hx
  |@cons p q ps qs hq t ih=>
   intro x hx
   rcases jB_.mp hx with e|hx
   ·subst e
    exact Jh ok (by rw[<-hq.1];exact hq.2.1)
   ·exact ih x hx
 exact all r x hx
def UJ  (ok:HOk P w H h)(e:H a=some (.dT kvs)):kvs.length<=sizeLine/\(a==sysModules)=false /\
  ∃xs,KT H kvs xs/\h.DictOfH (tupleKind (Bj P w)) a xs:=N8 ok (.inl e)
end
def DGet (H:Hp)(a:Addr)(y:V)(r:Option V):Prop:=
 (∃kvs k,Rd H a (.dK kvs)/\y=kV k/\r=valV kvs k) \/ ∃kvs k b,Rd H a (.dT kvs)/\y=.ref b/\H b=some (.tup (k.map kV))/\r=valV kvs k
def DPut (H:Hp)(a:Addr)(y v:V)(H':Hp):Prop:=
 (∃kvs k,H a=some (.dK kvs)/\y=kV k/\kvs.length<sizeLine/\H'=upd H a (.dK (putK kvs k v))) \/
 ∃kvs k b,H a=some (.dT kvs)/\y=.ref b/\H b=some (.tup (k.map kV))/\kvs.length<sizeLine/\H'=upd H a (.dT (putK kvs k v))
def DGet.k {H:Hp}{a:Addr}{kvs:List (Key×V)}{k:Key}(e:H a=some (.dK kvs)):DGet H a (kV k) (valV kvs k):=.inl ⟨kvs,k,.inl e,rfl,rfl⟩
def DGet.t {H:Hp}{a b:Addr}{kvs:List (List Key×V)}{k:List Key}(e:H a=some (.dT kvs))(eb:H b=some (.tup (k.map kV))):DGet H a (.ref b) (valV kvs k):=.inr ⟨kvs,k,b,.inl e,rfl,eb,rfl⟩
def DPut.k {H:Hp}{a:Addr}{kvs:List (Key×V)}{k:Key}{v:V}(e:H a=some (.dK kvs))(hl:kvs.length<sizeLine):DPut H a (kV k) v (upd H a (.dK (putK kvs k v))):=.inl ⟨kvs,k,e,rfl,hl,rfl⟩
def DPut.t {H:Hp}{a b:Addr}{kvs:List (List Key×V)}{k:List Key}{v:V}(e:H a=some (.dT kvs))(eb:H b=some (.tup (k.map kV)))(hl:kvs.length<sizeLine):
  DPut H a (.ref b) v (upd H a (.dT (putK kvs k v))):=.inr ⟨kvs,k,b,e,rfl,eb,hl,rfl⟩
section
variable {X:Cx} {af:α7} {σ:St} {H:Hp} {s:Shared} {a:Addr} {y v:V} {u r:Value} {o:Option V} {A:Around} {E:Value->Shared->Prop}
def Inv.big (I:Inv X af σ H s):sysModules<s.heap.objs.size:=by
 have h:mainGlobals<s.heap.objs.size:=(I.mod.glob.keeps I.bk).lt
 exact Nat.lt_trans (by decide) h
def PD  (hu:A.units+1<cLine)(I:Inv X af σ H s)(g:DGet H a y (some v))(ry:RelV y u)(h:∀w' s',Inv X af σ H s'->RelV v w'->Q w' s'):
  wpAny (model X.prog X.w) A (getItem (.ref a) u) Q E s:=by
 rcases g with ⟨kvs,k,e,ey,l⟩|⟨kvs,k,b,e,ey,eb,l⟩
 ·subst ey
  obtain⟨z,hd,vs,aZ,dd⟩:=L7 I.hok e
  obtain⟨w',hw,eU⟩:=RelO.some_of (v:=v) (o:=valueAt vs k) (by rw[l];exact aZ.val k)
  exact wpAny_getItem_of (L6 ry) dd.mapOf hw (h w' _ (I.tok _) eU)
 ·subst ey
  cases (show u=Value.ref b from ry)
  obtain⟨z,hd,xs,aZ,dd⟩:=N8 I.hok e
  obtain⟨w',hw,eU⟩:=RelO.some_of (v:=v) (o:=(atKey xs k).map (·.2)) (by rw[l];exact aZ.val k)
  obtain⟨p,hp,aN⟩:=Option.map_eq_some_iff.mp hw
  refine wpAny_getItem_heap (zi_ hu) (Jh I.hok eb) dd hp ?_
  rw[aN]
  exact h w' _ (I.tok _) eU
def UK  (hu:A.units+1<cLine)(I:Inv X af σ H s)(g:DGet H a y o)(ry:RelV y u)(h:∀s',Inv X af σ H s'->Q (.bool (!o.isSome)) s'):
  wpAny (model X.prog X.w) A (compareOp .NotIn u (.ref a)) Q E s:=by
 rcases g with ⟨kvs,k,e,ey,l⟩|⟨kvs,k,b,e,ey,eb,l⟩
 ·subst ey
  obtain⟨z,hd,vs,aZ,dd⟩:=L7 I.hok e
  refine wpAny_notIn_of (L6 ry) hd dd.mapOf ?_
  rw[<-(aZ.val k).isSome_eq,<-l]
  exact h _ (I.tok _)
 ·subst ey
  cases (show u=Value.ref b from ry)
  obtain⟨z,hd,xs,aZ,dd⟩:=N8 I.hok e
  refine wpAny_notIn_heap (zi_ hu) (Jh I.hok eb) hd dd ?_
  have q:=(aZ.val k).isSome_eq
  rw[tH]at q
  rw[<-q,<-l]
  exact h _ (I.tok _)
def HJ    (I:Inv X af σ H s)(mu:Mut (H a))(hs:Heap.SameBut a s.heap h')(he:∃q,h'.get? a=some q)(new:Bo X.prog X.w (upd H a ob) h' a ob):
  Inv X af σ (upd H a ob) {s with heap:=h',toks:=t' }:=
 I.write (x:=a) (e:=a) mu (.inl rfl) (fun b q hb z=>(hs.2 b hb).trans z) he new
def PH       (z:kvs.length<=sizeLine)(hd:(a==sysModules)=false)(aZ:KV kvs vs)(dd:h'.DictOf (Bj P w) a vs):
  Bo P w H' h' a (.dK kvs):=⟨z,hd,vs,aZ,dd⟩
def PJ   (hu:A.units+1<cLine)(I:Inv X af σ H s)(g:DPut H a y v H')(ry:RelV y u)(rv:RelV v r)(h:∀s',Inv X af σ H' s'->Q () s'):
  wpAny (model X.prog X.w) A (setItem (.ref a) u r) Q E s:=by
 rcases g with ⟨kvs,k,e,ey,l,eH⟩|⟨kvs,k,b,e,ey,eb,l,eH⟩
 ·subst ey eH
  obtain⟨z,hd,vs,aZ,dd⟩:=RS I.hok e
  have hz:vs.length<=sizeLine:=by rw[<-aZ.length];exact z
  have hl:(putK kvs k v).length<=sizeLine:=by have:=Dq kvs k v;lia
  refine wpAny_setItem_pairs (hsz:=hz) (L6 ry) dd fun h' fI hs=>h _ ?_
  have he:∃q,h'.get? a=some q:=let ⟨q,_,_,hq,_⟩:=fI;⟨q,hq⟩
  exact HJ I (by rw[e];exact qW) hs he (PH hl hd (aZ.put k rv) fI)
 ·subst ey eH
  cases (show u=Value.ref b from ry)
  obtain⟨z,hd,xs,aZ,dd⟩:=UJ I.hok e
  have hz:xs.length<=sizeLine:=by rw[<-Paired.length aZ];exact z
  have hl:(putK kvs k v).length<=sizeLine:=by have:=Dq kvs k v;lia
  refine wpAny_setItem_heap (hsz:=hz) (zi_ hu) (Jh I.hok eb) dd fun h' fI hs=>h _ ?_
  obtain⟨q,es,ep,hq,h2,h3,h4,_,h5⟩:=fI
  refine HJ I (by rw[e];exact qW) hs ⟨q,hq⟩ ⟨hl,hd,_,(aZ.put k eb rv).keeps fun c ys ec=>?_,q,es,ep,hq,h2,h3,h4,h5⟩
  rw[Ah (Ur ec e (fun z=>nomatch z))]
  exact ec
end
section
variable {X:Cx} {af:α7} {σ:St} {H:Hp} {s:Shared} {a:Addr} {kvs:List (Key×V)} {k:Key} {u:Value} {A:Around} {E:Value->Shared->Prop}
def Xf  (I:Inv X af σ H s)(e:Rd H a (.dK kvs))(h:∀t s',Inv X af σ H s'->Q (.int kvs.length t) s'):wpAny (model X.prog X.w) A (call (.builtin "len") [.ref a]) Q E s:=by
 obtain⟨z,hd,vs,aZ,dd⟩:=L7 I.hok e
 refine call_len_dict hd dd (by rw[<-aZ.length];rw[zI_]at z;lia) ?_
 rw[<-aZ.length]
 exact h _ _ (I.tok _)
end
def NoSl (i:Expr):Prop:=∀ov iv,subscripted i false ov iv=operate [ov,iv] (getItem ov iv)
def UL         {T id:String}
  (hl:typeLookup (.type T) "__getitem__"=pure (some (.builtin id))) (hs:NoSl aY)
  (h:wpAny (model prog w) A (eval value env) (fun o s₁=>wpAny (model prog w) A (eval aY env) (fun i bt=>bt.TypeIs o T/\wpAny (model prog w) A (getItem o i) Q E bt) E s₁) E s):
  wpAny (model prog w) A (eval (.Subscript value aY pos) env) Q E s:=by
 refine Subscript_ (qN_ h (fun o s₁ h₁=>qN_ h₁ (fun i bt cN=>?_) fun _ _ x=>x) fun _ _ x=>x)
 obtain⟨hT,cN⟩:=cN
 unfold subscriptTail
 refine jf_ ?_
 rw[getitemInPython_of_ne hT.not_modules]
 refine jf_ (wpAny_specialOf hT hl ?_)
 have fin:wpAny (model prog w) A (subscripted aY false o i) (fun r bj=>wpAny (model prog w) A (letTemporaryGo value o r >>= fun _=>pure r) Q E bj) E bt:=by
  rw[hs o i]
  exact wpAny_operating (qN_ cN (fun r bj h₃=>jf_ (wpAny_letTemporaryGo (ju_ h₃))) fun _ _ x=>x)
 first
  | exact ju_ (jf_ fin)
  | exact jf_ (ju_ (jf_ fin))
  | exact jf_ fin
def L8         (I:Inv X af σ H s)(g:DGet H a y o):s.TypeIs (.ref a) "dict" := by
 rcases g with ⟨kvs,k,e,_,_⟩|⟨kvs,k,b,e,_,_,_⟩
 ·obtain⟨_,_,vs,_,dd⟩:=L7 I.hok e
  exact dd.typeIs
 ·obtain⟨_,_,xs,_,dd⟩:=N8 I.hok e
  exact dd.typeIs
def V0 (td ty:TE):TE:=fun σ H Q=>td σ H fun x H1=>ty σ H1 fun y H2=>∃a v,x=.ref a/\DGet H2 a y (some v)/\Q v H2
def PL (ty td:TE):TE:=fun σ H Q=>ty σ H fun y H1=>td σ H1 fun x H2=>∃a o,x=.ref a/\DGet H2 a y o/\Q (.bl (!o.isSome)) H2
def V1 (td ty tv:TE):TS:=fun D σ H=>tv σ H fun v H1=>td σ H1 fun x H2=>ty σ H2 fun y H3=>∃a H4,x=.ref a/\DPut H3 a y v H4/\D.nx σ H4
section
variable {X:Cx} {o i e value:Expr} {pos bG eV:Pos} {td ty tv:TE}
def PM (hu:X.A.units+1<cLine)(ho:PE X o td)(hi:PE X i ty)(hs:NoSl i):PE X (.Subscript o i pos) (V0 td ty):=by
 intro af s σ H Q I h
 refine UL PySem.F.slot_dict_getitem.lookup hs (thn (ho af s σ H _ I h) fun u s1 ⟨x,H1,I1,rx,q1⟩=>thn (hi af s1 σ H1 _ I1 q1) fun iv s2 ⟨y,H2,I2,ry,a,v,ex,g,q2⟩=>?_)
 subst ex
 obtain rfl:u=Value.ref a:=rx
 exact⟨L8 I2 g,PD hu I2 g ry fun w' s3 I3 eU=>⟨v,H2,I3,eU,q2⟩⟩
def HK (hu:X.A.units+1<cLine)(hi:PE X i ty)(ho:PE X o td):PC X .NotIn i o (PL ty td):=by
 intro af s σ H Q I h
 refine thn (hi af s σ H _ I h) fun iv s1 ⟨y,H1,I1,ry,q1⟩=>thn (ho af s1 σ H1 _ I1 q1) fun u s2 ⟨x,H2,I2,rx,a,ov,ex,g,q2⟩=>?_
 subst ex
 obtain rfl:u=Value.ref a:=rx
 exact UK hu I2 g ry fun s3 I3=>⟨.bl (!ov.isSome),H2,I3,rfl,q2⟩
def JS (hu:X.A.units+1<cLine)(ho:PE X o td)(hi:PE X i ty)(hv:PE X value tv)(hs:swapsWith value (some (.Subscript o i bG)) pos.line X.env=pure false):
  PS X (.Assign [.Subscript o i bG] value pos) (V1 td ty tv):=by
 intro af s σ H D I h
 refine wpAny_Assign_Subscript (thn (hv af s σ H _ I h) fun r s1 ⟨v,H1,I1,rv,q1⟩=>thn (ho af s1 σ H1 _ I1 q1) fun u s2 ⟨x,H2,I2,rx,q2⟩=>thn (hi af s2 σ H2 _ I2 q2) fun iv s3 ⟨y,H3,I3,ry,a,H4,ex,g,q3⟩=>?_) hs
 subst ex
 obtain rfl:u=Value.ref a:=rx
 exact PJ hu I3 g ry rv fun s4 I4=>⟨σ,H4,I4,q3⟩
end
def M9    (h:Heap)(hb:sysModules<h.objs.size):Bo P w H (h.push {cls:=.type "dict",data:=.dict #[]}) h.objs.size (.dK []):=
 ⟨jX_ _,zF_.mpr (qn_ (jL_ hb)),[],.nil,Heap.DictOf.new h⟩
def Na    (h:Heap)(hb:sysModules<h.objs.size):Bo P w H (h.push {cls:=.type "dict",data:=.dict #[]}) h.objs.size (.dT []):=
 ⟨jX_ _,zF_.mpr (qn_ (jL_ hb)),[],.nil,_,#[],0,jH_ _ rfl,⟨rfl,rfl,rfl⟩,rfl,rfl,sJ⟩
def PN:TE:=fun _ H Q=>∀p,H p=none->Q (.ref p) (upd H p (.dK []))
def PQ:TE:=fun _ H Q=>∀p,H p=none->Q (.ref p) (upd H p (.dT []))
section
variable {X:Cx} {pos:Pos}
def Nb:PE X (.Dict [] [] pos) PN:=fun af s σ H Q I h=>
 wpAny_Dict_empty ⟨.ref s.heap.objs.size,_,I.laid (a:=s.heap.objs.size) (o:=.dK []) (t':=s.toks) (fun _ _ q=>jo_ _ q) (jg_ _) (M9 s.heap I.big),rfl,h _ (I.hok.fresh (jg_ _))⟩
def Nc:PE X (.Dict [] [] pos) PQ:=fun af s σ H Q I h=>
 wpAny_Dict_empty ⟨.ref s.heap.objs.size,_,I.laid (a:=s.heap.objs.size) (o:=.dT []) (t':=s.toks) (fun _ _ q=>jo_ _ q) (jg_ _) (Na s.heap I.big),rfl,h _ (I.hok.fresh (jg_ _))⟩
end
def HN:List (TE×TE)->St->Hp->(List (V×V)->Hp->Prop)->Prop
 |[],_,H,Q=>Q [] H
 | (tk,tv)::r,σ,H,Q=>tk σ H fun x H1=>tv σ H1 fun y H2=>HN r σ H2 fun ps H3=>Q ((x,y)::ps) H3
abbrev VV:List (V×V)->List (Value×Value)->Prop:=Paired fun p q=>RelV p.1 q.1/\RelV p.2 q.2
def PPs (X:Cx)(pos:Pos)(keys:List (Option Expr))(cO:List Expr)(aE:List (TE×TE)):Prop:=
 ∀(af:α7) (s:Shared) (σ:St) (H:Hp) (Q:List (V×V)->Hp->Prop),Inv X af σ H s->HN aE σ H Q ->
  wpAny (model X.prog X.w) X.A (evalPairs (pairTrees keys cO X.env pos)) (fun vs s'=>∃ps H',Inv X af σ H' s'/\VV ps vs/\Q ps H') X.xe s
def UM   : PPs X pos [] [] []:=fun af s σ H Q I h=>pairTrees_nil_walk ⟨[],H,I,.nil,h⟩
def RT        (hk:PE X k tk)(hv:PE X v tv)(hr:PPs X pos ks vs aE):
  PPs X pos (some k::ks) (v::vs) ((tk,tv)::aE):=fun af s σ H Q I h=>
 pairTrees_cons_walk (thn (hk af s σ H _ I h) fun u s1 ⟨x,H1,I1,rx,q1⟩=>thn (hv af s1 σ H1 _ I1 q1) fun w2 s2 ⟨y,H2,I2,ry,q2⟩ =>
  thn (hr af s2 σ H2 _ I2 q2) fun ws s3 ⟨ps,H3,I3,aZ,q3⟩=>⟨(x,y)::ps,H3,I3,.cons ⟨rx,ry⟩ aZ,q3⟩)
def GJ (kvs more:List (Key×V)):List (Key×V):=more.foldl (fun ai kv=>putK ai kv.1 kv.2) kvs
def KV.merge:∀{more:List (Key×V)} {rs:List (Key×Value)} {kvs:List (Key×V)} {vs:List (Key×Value)},KV more rs->KV kvs vs->KV (GJ kvs more) (merged vs rs):=by
 intro more rs kvs vs r
 unfold KV at r
 induction r generalizing kvs vs with
 |nil=>intro q;exact q
 |@cons p q ps qs h t ih=>
  intro r0
  have e:KV (putK kvs p.1 p.2) (stored vs q.1 q.2):=by
   have:=r0.put p.1 h.2
   rw[<-h.1];exact this
  exact ih e
def FC:∀(more kvs:List (Key×V)),(GJ kvs more).length<=kvs.length+more.length
 |[],kvs=>by show kvs.length<=kvs.length+0;lia
 |p::r,kvs=>by
  have h1:=FC r (putK kvs p.1 p.2)
  have h2:=Dq kvs p.1 p.2
  show (GJ (putK kvs p.1 p.2) r).length<=_
  rw[jT_];lia
def Ji {P:Program}{w:World}:∀{kvs:List (Key×V)} {ws:List (Value×Value)},VV (kvs.map fun kv=>(kV kv.1,kv.2)) ws->∃rs,Carries (Bj P w) ws rs/\KV kvs rs
 |[],_,r=>by rw[xQ_]at r;cases r;exact⟨[],qW,.nil⟩
 |p::kvs,_,r=>by
  rw[jZ_]at r
  cases r with
  |@cons a b as bs h t=>
   obtain⟨rs,c,q⟩:=Ji (P:=P) (w:=w) t
   obtain⟨b1,b2⟩:=b
   exact⟨(p.1,b2)::rs,⟨L6 h.1,rfl,c⟩,.cons ⟨rfl,h.2⟩ q⟩
def UN (aE:List (TE×TE)):TE:=fun σ H Q=>∀p,H p=none->HN aE σ (upd H p (.dK [])) fun ps H2=>H2 p=some (.dK [])/\∃kvs:List (Key×V),ps=kvs.map (fun kv=>(kV kv.1,kv.2))/\kvs.length<=15/\Q (.ref p) (upd H2 p (.dK (GJ [] kvs)))
def UO      (h:PPs X pos keys cO aE)(aB:keys.all (·.isSome)=true)(hl:keys.length=cO.length)(h0:keys ≠ [])
  (h15:keys.length<=15):PE X (.Dict keys cO pos) (UN aE):=by
 intro af s σ H Q I q
 have hn:=I.hok.fresh (jg_ s.heap.objs.size)
 have I1:=I.laid (a:=s.heap.objs.size) (o:=.dK []) (h':=s.heap.push {cls:=.type "dict",data:=.dict #[]}) (t':=s.toks) (fun _ _ q=>jo_ _ q) (jg_ _) (M9 s.heap I.big)
 refine wpAny_Dict_walk (knd:=Bj X.prog X.w) aB hl h0 h15 (thn (h af _ σ _ _ I1 (q _ hn)) fun ws s2 ⟨ps,H2,I2,aZ,e,kvs,ep,lk,q2⟩=>?_)
 subst ep
 obtain⟨rs,c,rk⟩:=Ji (P:=X.prog) (w:=X.w) aZ
 obtain⟨z,hd,vs0,r0,dd⟩:=RS I2.hok e
 cases r0
 refine⟨rs,c,dd,fun h' fI hs=>⟨.ref s.heap.objs.size,_,?_,rfl,q2⟩⟩
 have hz:(GJ [] kvs).length<=sizeLine:=by
  have h1:=FC kvs []
  rw[qi_]at h1
  rw[zI_];lia
 have he:∃q,h'.get? s.heap.objs.size=some q:=let ⟨q,_,_,hq,_⟩:=fI;⟨q,hq⟩
 exact HJ I2 (by rw[e];exact qW) hs he (PH hz hd (rk.merge .nil) fI)
structure M1 (X:Cx)(o:Expr)(m:Str)(bx:Pos)(e:Expr)(aG:Pos):Prop where
 base:attributeBase o m X.env (eval o X.env)=eval o X.env
 few:((backTo aG (starEach [e] X.env)).all (fun x => !x.1)&&(backToKw aG (keywordEach [] X.env)).all (fun x=>x.1.isSome)
  && decide (([e]:List Expr).length+([]:List Keyword).length+(if ([]:List Keyword).isEmpty then 0 else 1)<30))=true
 line:(bx.endLine==aG.line)=true
 trees:backTo aG (starEach [e] X.env)=[(false,eval e X.env)]
structure M2 (X:Cx)(o:Expr)(m:Str)(bx:Pos)(e f:Expr)(aG:Pos):Prop where
 base:attributeBase o m X.env (eval o X.env)=eval o X.env
 few:((backTo aG (starEach [e,f] X.env)).all (fun x => !x.1)&&(backToKw aG (keywordEach [] X.env)).all (fun x=>x.1.isSome)
  && decide (([e,f]:List Expr).length+([]:List Keyword).length+(if ([]:List Keyword).isEmpty then 0 else 1)<30))=true
 line:(bx.endLine==aG.line)=true
 trees:backTo aG (starEach [e,f] X.env)=[(false,eval e X.env),(false,eval f X.env)]
def IsD (H:Hp)(a:Addr):Prop:=(∃kvs,Rd H a (.dK kvs)) \/ ∃kvs,Rd H a (.dT kvs)
def Tf       (I:Inv X af σ H s)(d:IsD H a):
  s.TypeIs (.ref a) "dict" /\ (∀b,Value.ref a=.ref b->∃ob,s.heap.get? b=some ob/\ob.dict=none)/\(a==sysModules)=false:=by
 rcases d with ⟨kvs,e⟩|⟨kvs,e⟩
 ·obtain⟨_,hd,vs,_,dd⟩:=L7 I.hok e
  refine⟨dd.typeIs,fun b q=>?_,hd⟩
  cases q
  obtain⟨ob,_,_,h1,h2,_⟩:=dd
  exact⟨ob,h1,h2.2.1⟩
 ·obtain⟨_,hd,xs,_,dd⟩:=N8 I.hok e
  refine⟨dd.typeIs,fun b q=>?_,hd⟩
  cases q
  obtain⟨ob,_,_,h1,h2,_⟩:=dd
  exact⟨ob,h1,h2.2.1⟩
section
variable {X:Cx} {af:α7} {σ:St} {H:Hp} {s:Shared} {a:Addr} {y d:V} {u r:Value} {o:Option V} {A:Around} {E:Value->Shared->Prop}
def V2  (hu:A.units+1<cLine)(I:Inv X af σ H s)(g:DGet H a y o)(ry:RelV y u)(h:∀w' s',Inv X af σ H s'->RelV (o.getD .non) w'->Q w' s'):
  wpAny (model X.prog X.w) A (call (.builtin "dict.get") [.ref a,u]) Q E s:=by
 rcases g with ⟨kvs,k,e,ey,l⟩|⟨kvs,k,b,e,ey,eb,l⟩
 ·subst ey
  obtain⟨z,hd,vs,aZ,dd⟩:=L7 I.hok e
  refine call_meetsIn zv_ dd.typeIs rR (rL _ _) (meets_dict_get (Bj X.prog X.w) a (L6 ry) hd) ⟨_,dd.mapOf,h _ _ (I.tok _) ?_⟩
  rw[l]
  exact (aZ.val k).getD rfl
 ·subst ey
  cases (show u=Value.ref b from ry)
  obtain⟨z,hd,xs,aZ,dd⟩:=N8 I.hok e
  refine call_meetsIn zv_ dd.typeIs rR (rL _ _) (meetsH_dict_get (tupleKind (Bj X.prog X.w)) a b hd) ⟨zi_ hu,k,xs,Jh I.hok eb,dd,h _ _ (I.tok _) ?_⟩
  rw[l]
  exact (aZ.val k).getD rfl
end
def PR (td ty:TE):TE:=fun σ H Q=>td σ H fun x H1=>∃a,x=.ref a/\IsD H1 a/\ty σ H1 fun y H2=>∃o,DGet H2 a y o/\Q (o.getD .non) H2
section
variable {X:Cx} {o e f:Expr} {bx aG:Pos} {td ty tx:TE}
def RU (hu:X.A.units+1<cLine)(ho:PE X o td)(he:PE X e ty)(m:M1 X o "get" bx e aG):PE X (.Call (.Attribute o "get" bx) [e] [] aG) (PR td ty):=by
 intro af s σ H Q I h
 refine wpAny_Call_method m.base m.few m.line rM zv_ vy (thn (ho af s σ H _ I h) fun u s1 ⟨x,H1,I1,rx,a,ex,d,q1⟩=>?_)
 subst ex
 obtain rfl:u=Value.ref a:=rx
 obtain⟨t1,t2,_⟩:=Tf I1 d
 refine⟨t1,t2,?_⟩
 rw[m.trees]
 refine zp_ rfl (zB_ (xp_ (thn (he af s1 σ H1 _ I1 q1) fun iv s2 ⟨y,H2,I2,ry,ov,g,q2⟩=>xW_ ?_)))
 exact V2 hu I2 g ry fun w' s3 I3 eU=>⟨_,H2,I3,eU,q2⟩
end
end L2
namespace L2
open PySem PySem.Spec PyProof.Rows
def clOf (env:Env):List (Str×NameKind)->List (Str×Addr)->List (Str×Addr)
 |[],ai=>ai
 | (n,k)::r,ai=>if (k == .free)=true then clOf env r ((n,(env.cells.lookup n).getD 0)::ai) else clOf env r ai
def Gb   (h:∀p∈scope.names,p.2=.free->∃c,env.cells.lookup p.1=some c):closureFor scope env=pure (clOf env scope.names []):=by
 have go:∀(l:List (Str×NameKind)) (ai:List (Str×Addr)),(∀p∈l,p.2=.free->∃c,env.cells.lookup p.1=some c) ->
   (forIn l ai fun (x:Str×NameKind) (cs:List (Str×Addr))=>(if (x.2 == .free)=true then do let c <- cellOf env x.1;pure (qZ ((x.1,c)::cs)) else pure (qZ cs):Sem (ForInStep (List (Str×Addr)))))=(pure (clOf env l ai):Sem (List (Str×Addr))):=by
  intro l
  induction l with
  |nil=>intro ai _;rfl
  |cons p r ih=>
   intro ai hl
   obtain⟨n,k⟩:=p
   rw[zK_]
   by_cases hk:(k == .free)=true
   ·obtain⟨c,hc⟩:=hl (n,k) jn_ (by simpa using hk)
    have e1:cellOf env n=pure c:=by unfold cellOf;rw[hc]
    have oN:=ih ((n,c)::ai) fun q hq=>hl q (jl_ _ hq)
    show ((if (k == .free)=true then do let c <- cellOf env n;pure (qZ ((n,c)::ai)) else pure (qZ ai):Sem _) >>= _)=_
    rw[if_pos hk,e1]
    show (forIn r ((n,c)::ai) _:Sem _)=_
    rw[clOf,if_pos hk,hc]
    exact oN
   ·have oN:=ih ai fun q hq=>hl q (jl_ _ hq)
    show ((if (k == .free)=true then do let c <- cellOf env n;pure (qZ ((n,c)::ai)) else pure (qZ ai):Sem _) >>= _)=_
    rw[if_neg hk]
    show (forIn r ai _:Sem _)=_
    rw[clOf,if_neg hk]
    exact oN
 have e:=go scope.names [] h
 unfold closureFor
 show (forIn scope.names [] _ >>= fun cs=>pure cs:Sem _)=_
 have e2:(forIn scope.names [] (fun (x:Str×NameKind) (r:List (Str×Addr))=>(match x with
   | (name,kind)=>if (kind == .free)=true then do let c <- cellOf env name;pure (qZ ((name,c)::r)) else do pure PUnit.unit;pure (qZ r):Sem (ForInStep (List (Str×Addr))))))=(pure (clOf env scope.names []):Sem (List (Str×Addr))):=e
 exact jC_ (fun z=>z >>= fun cs=>pure cs) e2
def Hl {env:Env}:∀(l:List (Str×NameKind)) (ai:List (Str×Addr)),(∀p∈l,p.2=.free->∃c,env.cells.lookup p.1=some c)->(∀q∈ai,env.cells.lookup q.1=some q.2)->∀q∈clOf env l ai,env.cells.lookup q.1=some q.2
 |[],_,_,ha,q,hq=>ha q hq
 | (n,k)::r,ai,hl,ha,q,hq=>by
  unfold clOf at hq
  by_cases hk:(k == .free)=true
  ·rw[if_pos hk]at hq
   obtain⟨c,hc⟩:=hl (n,k) jn_ (by simpa using hk)
   refine Hl r _ (fun p hp=>hl p (jl_ _ hp)) (fun p hp=>?_) q hq
   rcases jB_.mp hp with rfl|hp
   ·show env.cells.lookup n=some ((env.cells.lookup n).getD 0)
    rw[hc];rfl
   ·exact ha p hp
  ·rw[if_neg hk]at hq
   exact Hl r _ (fun p hp=>hl p (jl_ _ hp)) ha q hq
def EI {env:Env}:∀(l:List (Str×NameKind)) (ai:List (Str×Addr)) (x:Str),((x,NameKind.free)∈l \/ ∃c,(x,c)∈ai)->∃c,(x,c)∈clOf env l ai
 |[],_,_,h=>by
  rcases h with h|h
  ·cases h
  ·exact h
 | (n,k)::r,ai,x,h=>by
  unfold clOf
  by_cases hk:(k == .free)=true
  ·rw[if_pos hk]
   refine EI r _ x ?_
   rcases h with h|⟨c,h⟩
   ·rcases jB_.mp h with h|h
    ·cases h
     exact .inr ⟨_,jn_⟩
    ·exact .inl h
   ·exact .inr ⟨c,jl_ _ h⟩
  ·rw[if_neg hk]
   refine EI r _ x ?_
   rcases h with h|h
   ·rcases jB_.mp h with h|h
    ·cases h
     exact absurd rfl hk
    ·exact .inl h
   ·exact .inr h
def Bf {β:Type}:∀{l:List (Str×β)} {x:Str} {c:β},(x,c)∈l->∃c',l.lookup x=some c'
 |[],_,_,h=>by cases h
 | (n,d)::r,x,c,h=>by
  by_cases hx:(x==n)=true
  ·exact⟨d,by rw[j7_,hx]⟩
  ·rcases jB_.mp h with h|h
   ·cases h;exact absurd (beq_self_eq_true _) hx
   ·obtain⟨c',e⟩:=Bf h
    exact⟨c',by rw[j7_];simp only[Bool.not_eq_true]at hx;rw[hx];exact e⟩
def relF (env:Env):Str×NameKind->Str×NameKind:=fun (n,k)=>if (k==NameKind.free&&env.scope.kind == .function&&env.kindOf n==some .cell) then (n,NameKind.cell) else (n,k)
def Hm    (h:(k==NameKind.free&&env.scope.kind == .function&&env.kindOf n==some .cell)=true):relF env (n,k)=(n,.cell):=if_pos h
def JT    (h:¬ (k==NameKind.free&&env.scope.kind == .function&&env.kindOf n==some .cell)=true):relF env (n,k)=(n,k):=if_neg h
def Ea {env:Env}:∀{names:List (Str×NameKind)} {x:Str} {k:NameKind},(∀y∈names,y.2 ≠ .cell) ->
  (names.map (relF env)).lookup x=some k->(k=.cell\/k=.free)->(x,NameKind.free)∈names
 |[],_,_,_,h,_=>by simp at h
 | (n,k')::r,x,k,hc,h,hk=>by
  have ih := @Ea env r x k (fun y hy=>hc y (jl_ _ hy))
  rw[jZ_]at h
  by_cases hb:(k'==NameKind.free&&env.scope.kind == .function&&env.kindOf n==some .cell)=true
  ·rw[Hm hb,j7_]at h
   cases hx:x==n with
   |true=>
    have e:x=n:=by simpa using hx
    subst e
    have e2:k'=.free:=by
     simp only[qe_]at hb
     simpa using hb.1.1
    subst e2
    exact jn_
   |false=>
    rw[hx]at h
    exact jl_ _ (ih h hk)
  ·rw[JT hb,j7_]at h
   cases hx:x==n with
   |true=>
    rw[hx]at h
    have e:x=n:=by simpa using hx
    subst e
    have e2:k'=k:=jr_ h
    subst e2
    rcases hk with rfl|rfl
    ·exact absurd rfl (hc _ jn_)
    ·exact jn_
   |false=>
    rw[hx]at h
    exact jl_ _ (ih h hk)
def Eb {env:Env}:∀{names:List (Str×NameKind)} {x:Str},names.lookup x=some .free ->
  ∃k,(k=NameKind.cell\/k=NameKind.free)/\(names.map (relF env)).lookup x=some k
 |[],_,h=>by simp at h
 | (n,k')::r,x,h=>by
  have ih := @Eb env r x
  rw[j7_]at h
  rw[jZ_]
  cases hx:x==n with
  |true=>
   rw[hx]at h
   have e2:k'=.free:=jr_ h
   subst e2
   by_cases hb:((NameKind.free:NameKind)==NameKind.free&&env.scope.kind == .function&&env.kindOf n==some .cell)=true
   ·exact⟨.cell,.inl rfl,by rw[Hm hb,j7_,hx]⟩
   ·exact⟨.free,.inr rfl,by rw[JT hb,j7_,hx]⟩
  |false=>
   rw[hx]at h
   obtain⟨k,hk,e⟩:=ih h
   refine⟨k,hk,?_⟩
   by_cases hb:(k'==NameKind.free&&env.scope.kind == .function&&env.kindOf n==some .cell)=true
   ·rw[Hm hb,j7_,hx];exact e
   ·rw[JT hb,j7_,hx];exact e
end L2
namespace L2
open PySem PySem.Spec PyProof.Rows
section
variable {prog:Program} {w:World} {A:Around} {R:Result->Shared->Prop} {s:Shared}
abbrev cpW (prog:Program)(w:World)(A:Around)(R:Result->Shared->Prop)(env:Env){α:Type}(m:Sem α)(Q:α->Shared->Prop):Shared->Prop:=wpAny (model prog w) A m Q (notedBy (model prog w) A env fun e t=>R (.error e) t)
def GK {cF bX iter:Expr}    {it ai:Value}  (I:Nat->Shared->Prop)
  (turn:∀n s,I n s->cpW prog w A R env (pyNext it) (fun r s=>match r with
   |none=>R (.ok .next) s
   |some v=>cpW prog w A R env (letOwnedTupleGo bX it v) (fun _=>cpW prog w A R env (assign bX env v) fun _=>cpW prog w A R env (forIn cw true fun c r=>if r=true then do let ok <- isTrue c env (eval c env);pure (qZ ok) else pure (qZ r)) fun ok s=>
     if ok=true then cpW prog w A R env (eval cF env) (fun x=>cpW prog w A R env (call (.builtin "list.append") [ai,x]) fun _ t=>∃m,m<n/\I m t) s else ∃m,m<n/\I m s) s) s)
  (n:Nat) (h:I n s):codeAny (model prog w) A (.compLoop (.ListComp cF [⟨bX,iter,cw,0⟩] scope pos) 0 it ai env) R s:=by
 have mono:∀{α β:Type} {m:Sem α} {f:α->Sem β} {Q:α->Shared->Prop} {Q':β->Shared->Prop} {s:Shared},cpW prog w A R env m Q s->(∀a t,Q a t->cpW prog w A R env (f a) Q' t)->cpW prog w A R env (m >>= f) Q' s:=fun h k=>jf_ (qN_ h k fun _ _ e=>e)
 refine codeAny_loop rfl I (fun n s hI=>wpAny_noted ?_) n h
 rw[compTurn_list]
 refine jf_ (wpAny_standAt (mono (turn n s hI) fun r s1 h1=>?_))
 cases r with
 |none=>exact ju_ h1
 |some v=>
  refine mono h1 fun _ _ h2=>mono h2 fun _ _ h3=>mono h3 fun ok s4 h4=>?_
  cases ok with
  |false=>exact ju_ ⟨rfl,h4⟩
  |true=>exact jf_ (mono h4 fun _ _ h5=>mono h5 fun _ _ h6=>ju_ (ju_ ⟨rfl,h6⟩))
end
abbrev Cx.blk (X:Cx)(N:List Str)(sc:Scope)(C:Addr)(s₀:Shared)(H₀:Hp)(ex:List Addr):Cx:=
 {X with N:=N,env:=compEnvC sc (clOf X.env sc.names []) C X.env,outer:=X.stack,s₀:=s₀,H₀:=H₀,ex:=ex,fn:=fun _=>false,pn:=[],xe:=fun _ _=>False}
structure BlkSc (X:Cx)(sc:Scope):Prop where
 kind:sc.kind=.function
 nocell:∀y∈sc.names,y.2 ≠ .cell
 loc:∀y∈sc.names,y.2=.local->sc.names.lookup y.1=some .local
 free:∀y∈sc.names,y.2=.free->X.env.kindOf y.1=some .cell\/X.env.kindOf y.1=some .free
abbrev Caps:=List (Str×Option Nat)
def Caps.names (c:Caps):List Str:=c.map (·.1)
def Caps.st (c:Caps)(σ:St):St:=c.map fun p=>p.2.bind fun j=>(σ[j]?).join
def CK (N:List Str)(sc:Scope):Caps->Prop
 |[]=>True
 | (_,none)::r=>CK N sc r
 | (x,some j)::r=>(N[j]?=some x/\sc.names.lookup x=some .free)/\CK N sc r
def CK.get {N:List Str}{sc:Scope}:∀{c:Caps} {i:Nat} {x:Str} {j:Nat},CK N sc c->c[i]?=some (x,some j)->N[j]?=some x/\sc.names.lookup x=some .free
 |[],_,_,_,_,h=>by simp at h
 | (y,none)::r,0,x,j,_,h=>by simp at h
 | (y,none)::r,i+1,x,j,ok,h=>CK.get (c:=r) (i:=i) ok (by simpa using h)
 | (y,some k)::r,0,x,j,ok,h=>by
  simp only[zj_,zt_,vb]at h
  obtain⟨rfl,rfl⟩:=h
  exact ok.1
 | (y,some k)::r,i+1,x,j,ok,h=>CK.get (c:=r) (i:=i) ok.2 (by simpa using h)
section
variable {X:Cx} {af:α7} {σ:St} {H:Hp} {s:Shared} {sc:Scope} {fp:List Addr}
def HR (I:Inv X af σ H s)(S:BlkSc X sc):∀p∈sc.names,p.2=.free->∃c,X.env.cells.lookup p.1=some c:=fun p hp e=>I.ok.has p.1 (S.free p hp e)
def BP (I:Inv X af σ H s)(S:BlkSc X sc)   (h:(clOf X.env sc.names []).lookup x=some c):X.env.cells.lookup x=some c:=
 Hl sc.names [] (HR I S) (fun q hq=>by cases hq) (x,c) (qh_ h)
def V3 {N:List Str}{C:Addr}(I:Inv X af σ H s)(S:BlkSc X sc)(hC:s.heap.objs.size<=C)(hf:∀b∈fp,FpOk X af H b)(ho:∀b∈fp,∃o,s.heap.get? b=some o):(X.blk N sc C s H fp).Ok where
 mod:=I.ok.mod
 kind:=S.kind
 glob:=I.ok.glob
 blt:=I.ok.blt
 above:=hC
 inj:=fun x y c h1 h2=>I.ok.inj x y c (BP I S h1) (BP I S h2)
 has:=fun x hx=>by
  have eX:(x,NameKind.free)∈sc.names:=by
   rcases hx with hx|hx
   ·exact Ea (env:=X.env) S.nocell hx (.inl rfl)
   ·exact Ea (env:=X.env) S.nocell hx (.inr rfl)
  obtain⟨c,hc⟩:=EI (env:=X.env) sc.names [] x (.inl eX)
  exact Bf hc
 cab:=fun x c h=>absurd (show false=true from h) jv_
 hd:=I.ok.hd
 frames:=I.ok.frames
 stk:=.inl rfl
 exf:=fun b hb=>by
  obtain⟨o,ho⟩:=ho b hb
  refine⟨jL_ (jz_ (js_ ho) hC),fun x c h=>(hf b hb).2.2.2.2.1 x c (BP I S h)⟩
 bs:=I.bs
 bsz:=qm_ I.ok.bsz I.sz
 noex:=fun b o e hb=>by
  rcases (hf b hb).2.2.2.1 with z|z
  ·exact I.ok.noex b o e z
  ·exact absurd (jz_ (js_ (I.ok.bs b o e).1) z) (j8_ _)
 exfs:=fun b hb z=>by
  rcases jB_.mp (I.stkSub b z) with e|e
  ·exact (hf b hb).2.1 e
  ·exact (hf b hb).2.2.1 e
 funs:=I.stack
 frf:=I.stkFree
def PU {c:Caps}{C:Addr}{s4:Shared}{m:Str->α5}(I:Inv X af σ H s)(S:BlkSc X sc)(hc:CK X.N sc c)(hC:s.heap.objs.size<=C)(hf:∀b∈fp,FpOk X af H b)(ho:∀b∈fp,∃o,s.heap.get? b=some o)
  (dJ:s4.os=s.os) (hb:s4.gens=s.gens) (hk:∀b o,s.heap.get? b=some o->s4.heap.get? b=some o) (hn:s4.heap.Ns C m):Inv (X.blk c.names sc C s H fp) [] (c.st σ) H s4 where
 ok:=V3 I S hC hf ho
 os:=dJ
 bare:=by rw[hb];exact I.bare
 base:=Un.kept hk
 loc:=by
  refine⟨m,hn,fun i x v h1 h2 hv=>?_⟩
  have fY:(c.map (·.1))[i]?=some x:=h1
  have fZ:(c.map fun p=>p.2.bind fun j=>(σ[j]?).join)[i]?=some (some v):=h2
  rw[je_]at fY fZ
  cases e:c[i]? with
  |none=>rw[e]at fY;cases fY
  |some p=>
   obtain⟨y,oj⟩:=p
   rw[e]at fY fZ
   have e1:y=x:=jr_ fY
   subst e1
   have e2:(oj.bind fun j=>(σ[j]?).join)=some v:=jr_ fZ
   cases oj with
   |none=>cases e2
   |some j=>
    have e3:(σ[j]?).join=some v:=e2
    have e4:σ[j]?=some (some v):=by
     cases q:σ[j]? with
     |none=>rw[q]at e3;cases e3
     |some z=>rw[q]at e3;exact jC_ some e3
    obtain⟨k1,k2⟩:=CK.get hc e
    have k3:X.env.kindOf y=some .cell\/X.env.kindOf y=some .free:=S.free (y,.free) (qh_ k2) rfl
    have l7:Vis X.env.scope y:=by
     rcases k3 with k|k
     ·exact .inr (.inl k)
     ·exact .inr (.inr k)
    obtain⟨mX,hnX,hl⟩:=I.loc
    obtain⟨u,r,l⟩:=hl j y v k1 e4 l7
    refine⟨u,r,?_⟩
    rcases l with ⟨k,_⟩|⟨_,ca,oO,z⟩
    ·rcases k3 with k' | k'<;>(rw[k]at k';cases k')
    ·obtain⟨kd,mh,ek⟩:=Eb (env:=X.env) k2
     have eY:(compEnvC sc (clOf X.env sc.names []) C X.env).kindOf y=some kd:=ek
     obtain⟨c',fH⟩:=EI (env:=X.env) sc.names [] y (.inl (qh_ k2))
     obtain⟨c2,cu⟩:=Bf fH
     have e5:=BP I S cu
     rw[oO]at e5
     have e6:ca=c2:=jr_ e5
     subst e6
     refine .inr ⟨?_,ca,cu,?_⟩
     ·rcases mh with rfl|rfl
      ·exact .inl eY
      ·exact .inr eY
     ·obtain⟨oc,dI,hd⟩:=z
      exact⟨oc,hk _ _ dI,hd⟩
 cell:=fun x ca h=>by
  obtain⟨v,oc,dI,hd⟩:=I.cell x ca (BP I S h)
  exact⟨v,oc,hk _ _ dI,hd⟩
 free:=I.hok.fresh hC
 freeC:=fun x ca h=>I.freeC x ca (BP I S h)
 pin:=fun p hp=>absurd (show p∈([]:α7) from hp) (by simp)
 hok:=I.hok.kept hk
 len:=by show (c.map _).length=(c.map _).length;rw[ja_,ja_]
def HOk.track       (x:HOk P w H h)(hn:H a=none)(new:Bo P w (upd H a o) h a o):HOk P w (upd H a o) h:=fun b u e=>by
 by_cases hb:b=a
 ·subst hb;rw[Ab]at e;cases e;exact new
 ·rw[Ah hb]at e
  exact (x b u e).stay (fun c v _ q=>q) (fun c q=>by rw[Ah (Ap q hn)];exact q) fun c xs q=>by rw[Ah (Ap q hn)];exact q
def Un.track {fs ex:List Addr}{H H':Hp}{h h':Heap}{a:Addr}{o:HO}(u:Un fs ex H H' h h')(ha:h.objs.size<=a)(hn:H' a=none):Un fs ex H (upd H' a o) h h' where
 keep:=u.keep
 slot:=u.slot
 free:=fun b ob q n hx=>by rw[Ah (jL_ (jz_ (js_ q) ha))];exact u.free b ob q n hx
 there:=u.there
 tups:=fun b xs q=>by rw[Ah (Ap (u.tups b xs q) hn)];exact u.tups b xs q
 frzs:=fun b ob xs q=>by rw[Ah (Ap (u.frzs b ob xs q) hn)];exact u.frzs b ob xs q
 tbls:=fun b ps q=>by
  obtain⟨more,e⟩:=u.tbls b ps q
  exact⟨more,by rw[Ah (Ap e hn)];exact e⟩
def UP {c:Caps}{C D:Addr}{s':Shared}{ag:St}{H':Hp}{o:HO}(I:Inv X af σ H s)(J:Inv (X.blk c.names sc C s H fp) [] ag H' s')(hf:∀b∈fp,FpOk X af H b)(hD:s.heap.objs.size<=D)(hn:H' D=none)
  (new:Bo X.prog X.w (upd H' D o) s'.heap D o):Inv X af σ (upd H' D o) s':=by
 have u:Un (frs X.stack) fp H H' s.heap s'.heap:=J.base
 exact I.call' J.os (u.track hD hn) (J.hok.track hn new) J.bare fun b hb=>⟨(hf b hb).2.2.2.1,(hf b hb).2.1,(hf b hb).2.2.2.2.1,(hf b hb).2.2.2.2.2⟩
end
def PF (X:Cx)(cw:List Expr)(t:TT):Prop:=
 ∀(af:α7) (s:Shared) (σ:St) (H:Hp) (Q:Bool->Hp->Prop),Inv X af σ H s->t σ H Q ->
  wpAny (model X.prog X.w) X.A (forIn cw true fun c r=>if r=true then do let ok <- isTrue c X.env (eval c X.env);pure (qZ ok) else pure (qZ r)) (TP X af σ Q) X.xe s
def N9:TT:=fun _ H Q=>Q true H
def Bg  : PF X [] N9:=fun _ _ _ H _ I h=>wpAny_tests_nil ⟨H,I,h⟩
def PV    (h:PT X c t):PF X [c] t:=fun af s σ H Q I hw=>wpAny_tests_one (h af s σ H Q I hw)
def RV (wi:TI)(cp:Caps)(g:TG)(tc:TT)(te:TE):TE:=fun σ H Q=>wi σ H fun J H1=>∃W:Nat->Nat->List V->St->Hp->Prop,(∃m,W 0 m [] (cp.st σ) H1)/\∀i m ys ag H',W i m ys ag H' ->
 ys.length<sizeLine/\((J.stop i H'/\∀D,H' D=none->Q (.ref D) (upd H' D (.lst ys)))\/(J.go i H'/\∃N:List V->St->Hp->Prop,(∀zs aj H2,N zs aj H2->∃m',m'<m/\W (i+1) m' zs aj H2)/\∀x H2,J.yld i H' x H2->g x ag H2 fun aj H3=>tc aj H3 fun b H4=>
  if b=true then te aj H4 fun v H5=>N (ys++[v]) aj H5 else N ys aj H4))
section
variable {X:Cx} {tg iter cF:Expr} {cw:List Expr} {sc:Scope} {pos:Pos} {wi:TI} {cp:Caps} {g:TG} {tc:TT} {te:TE}
def K3 (hc:X.calm=true)(S:BlkSc X sc)(iu:CK X.N sc cp)
  (hg:∀C s₀ H₀ ex,PG (X.blk cp.names sc C s₀ H₀ ex) tg g) (hf:∀C s₀ H₀ ex,PF (X.blk cp.names sc C s₀ H₀ ex) cw tc) (he:∀C s₀ H₀ ex,PE (X.blk cp.names sc C s₀ H₀ ex) cF te)
  {af:α7} {σ:St} {H:Hp} {s:Shared} {J:It} {it:Addr} {fp:List Addr} {tn:Nat->Heap->Prop} {Q:VK} {RR:Value->Addr->Result->Shared->Prop} {E:Value->Shared->Prop}
  (I:Inv X af σ H s) (T:Turn X.prog X.w X.K tg J fp it tn) (st:tn 0 s.heap) (eZ:∀b∈fp,FpOk X af H b)
  (hw:∃W:Nat->Nat->List V->St->Hp->Prop,(∃m,W 0 m [] (cp.st σ) H)/\∀i m ys ag H',W i m ys ag H' ->
   ys.length<sizeLine/\((J.stop i H'/\∀D,H' D=none->Q (.ref D) (upd H' D (.lst ys)))\/(J.go i H'/\∃N:List V->St->Hp->Prop,(∀zs aj H2,N zs aj H2->∃m',m'<m/\W (i+1) m' zs aj H2)/\∀x H2,J.yld i H' x H2->g x ag H2 fun aj H3=>tc aj H3 fun b H4=>
    if b=true then te aj H4 fun v H5=>N (ys++[v]) aj H5 else N ys aj H4)))
  (hR:∀D C s' H' (m:Str->α5),Inv X af σ H' s'->Q (.ref D) H'->s'.heap.Ns C m->H' C=none->C≠X.env.locals->X.s₀.heap.objs.size<=C->(∀x c,X.env.cells.lookup x=some c->c≠C)->(∀p∈X.pn++af,p.1≠C)->RR (.ref D) C (.ok .next) s'):
  wpAny (model X.prog X.w) X.A (newList []) (fun ai bj=>wpAny (model X.prog X.w) X.A (newFunctionEnv sc X.env.globals (clOf X.env sc.names []) [] X.env.qual none .none (some X.env)) (fun f6 jv=>
   codeAny (model X.prog X.w) X.A (.compStart (.ListComp cF [⟨tg,iter,cw,0⟩] sc pos) 0 (.ref it) ai {f6 with scope:=relabel sc X.env}) (RR ai f6.locals) jv) E bj) E s:=by
 obtain⟨W,⟨m0,w0⟩,turn⟩:=hw
 refine qT_ (wpAny_newFunctionEnv S.nocell (by intro y hy;simp at hy) (fun h₁ bY cP=>?_) S.kind)
 dsimp only at bY cP ⊢
 generalize jw:s.heap.push {cls:=.type "list",dict:=none,data:=.seq ([]:List Value).toArray}=H2 at bY cP ⊢
 have hC:H2.objs.size=s.heap.objs.size+1:=by rw[<-jw,qz_]
 have i8:s.heap.objs.size≠H2.objs.size:=by rw[hC];exact jL_ (x6_ _)
 have bJ:s.heap.objs.size<=H2.objs.size:=by rw[hC];exact z4_ _
 have below:∀b,b<s.heap.objs.size->b≠H2.objs.size:=fun b hb=>by rw[hC];exact jL_ (xi_ hb)
 have old:∀b o,s.heap.get? b=some o->h₁.get? b=some o:=fun b o e=>cP.extBut b o (below b (js_ e)) (jo_ _ (jw ▸ jo_ _ e))
 have bZ:h₁.get? s.heap.objs.size=some {cls:=.type "list",data:=.seq ([]:List Value).toArray 0}:=cP.extBut _ _ i8 (jo_ _ (jw ▸ jH_ _ rfl))
 have b7:tn 0 h₁:=T.keep 0 _ _ st fun b _ o e=>old b o e
 have bI:∀b∈fp,∃o,s.heap.get? b=some o:=fun b hb=>let ⟨o,e,_⟩:=T.obj 0 _ st b hb;⟨o,e⟩
 have J0:Inv (X.blk cp.names sc H2.objs.size s H fp) [] (cp.st σ) H {s with heap:=h₁,toks:=s.toks+([]:List (Str×Value)).length}:=PU I S iu bJ eZ bI rfl rfl old bY
 have oP:∀b,s.heap.objs.size<=b->b∉frs X.stack:=fun b hb z=>by
  rcases jB_.mp (I.stkSub b z) with e|e
  ·exact absurd (jz_ I.lt (by rw[<-e];exact hb)) (j8_ _)
  ·exact I.nofs hb e
 have dt:∀b,s.heap.objs.size<=b->∀x c,X.env.cells.lookup x=some c->c≠b:=fun b hb x c e z=>by
  obtain⟨v,q⟩:=I.cell x c e
  exact absurd (jz_ q.lt (by rw[z];exact hb)) (j8_ _)
 have mj:∀{aX:α7} {H':Hp},(∀b∈fp,H' b=none)->(∀p∈aX,p.1∉fp)->∀b∈fp,FpOk (X.blk cp.names sc H2.objs.size s H fp) aX H' b:=fun {aX H'} hn hp b hb=>by
  obtain⟨o,e⟩:=bI b hb
  refine⟨hn b hb,below b (js_ e),fun z=>?_,.inl hb,fun x c h=>(eZ b hb).2.2.2.2.1 x c (BP I S h),fun p lj z=>?_⟩
  ·rcases jB_.mp (I.stkSub b z) with e|e
   ·exact (eZ b hb).2.1 e
   ·exact (eZ b hb).2.2.1 e
  ·have jx:p∈aX:=by simpa using lj
   exact hp p jx (by rw[z];exact hb)
 have loop:∀bj:Shared,bj={s with heap:=h₁,toks:=s.toks+([]:List (Str×Value)).length} ->
   codeAny (model X.prog X.w) X.A (.compLoop (.ListComp cF [⟨tg,iter,cw,0⟩] sc pos) 0 (.ref it) (.ref s.heap.objs.size) (compEnvC sc (clOf X.env sc.names []) H2.objs.size X.env))
    (RR (.ref s.heap.objs.size) H2.objs.size) bj:=by
  rintro bj rfl
  refine GK (fun n s'=>∃i ag H' ys its k,Inv (X.blk cp.names sc H2.objs.size s H fp) [] ag H' s'/\tn i s'.heap/\(∀b∈fp,H' b=none)/\H' s.heap.objs.size=none /\
   s'.heap.get? s.heap.objs.size=some {cls:=.type "list",data:=.seq its.toArray k}/\Vals ys its/\W i n ys ag H') ?_ m0
   ⟨0,_,H,[],[],0,J0,b7,fun b hb=>(eZ b hb).1,I.hok.fresh (jg_ _),bZ,.nil,w0⟩
  rintro n s3 ⟨i,aC,H3,ys,its,k,I3,bR,lb,oQ,e3,rv,w3⟩
  obtain⟨hz,tr⟩:=turn i n ys aC H3 w3
  have ak:=rv.length
  -- oG accumulator stands still while anything else runs
  have f7:∀p ∈ [(s.heap.objs.size,({cls:=.type "list",data:=.seq its.toArray k}:Obj))],p.1∉fp:=fun p hp z=>by
   have e:p=_:=jq_.mp hp
   subst e
   obtain⟨o,e⟩:=bI _ z
   exact absurd (js_ e) (j8_ _)
  have mn:Inv (X.blk cp.names sc H2.objs.size s H fp) [(s.heap.objs.size,({cls:=.type "list",data:=.seq its.toArray k}:Obj))] aC H3 s3:=I3.pins_of fun p hp=>by
   have e:p=_:=jq_.mp hp
   subst e
   exact⟨e3,oQ,i8,oP _ (jg_ _),fun v z=>by cases z⟩
  have cM:∀b∈fp,FpOk (X.blk cp.names sc H2.objs.size s H fp) [(s.heap.objs.size,({cls:=.type "list",data:=.seq its.toArray k}:Obj))] H3 b:=mj lb f7
  rcases tr with ⟨stop,qn⟩|⟨go,N,hN,step⟩
  ·refine thn (T.done (X.blk cp.names sc H2.objs.size s H fp) rfl rfl rfl hc i _ s3 aC H3 _ mn cM bR stop) fun r s4 ⟨hr,I4⟩=>?_
   subst hr
   obtain⟨e4,n4,_⟩:=I4.pin (s.heap.objs.size,({cls:=.type "list",data:=.seq its.toArray k}:Obj)) (by simp)
   have new:Bo X.prog X.w (upd H3 s.heap.objs.size (.lst ys)) s4.heap s.heap.objs.size (.lst ys):=⟨q2_ hz,its,k,rv,e4⟩
   obtain⟨mC,oR,_⟩:=I4.loc
   have oS:Inv (X.blk cp.names sc H2.objs.size s H fp) [] aC H3 s4:=I4.pins_of fun p hp=>by cases hp
   have I5:=UP I oS eZ (jg_ _) n4 new
   refine hR _ _ s4 _ mC I5 (qn _ n4) oR ?_ (qL_ (jz_ I.lt bJ)) (qm_ I.sz bJ) (dt _ bJ) fun p hp z=>?_
   ·rw[Ah (qn_ i8)];exact I4.free
   ·exact absurd (jz_ (js_ (I.pin p hp).1) (by rw[z];exact bJ)) (j8_ _)
  ·refine thn (T.item (X.blk cp.names sc H2.objs.size s H fp) rfl rfl rfl hc i _ s3 aC H3 _ mn cM bR go) fun r s4 ⟨u,hr,h4⟩=>?_
   subst hr
   refine thn h4 fun _ s5 ⟨x,H5,I5,r5,y5,a9,l9⟩=>?_
   have md:=I5.pinned (mj l9 f7) (T.obj _ _ a9)
   have fin:∀{df:St} {H7:Hp} {s7:Shared},Inv (X.blk cp.names sc H2.objs.size s H fp) ([(s.heap.objs.size,({cls:=.type "list",data:=.seq its.toArray k}:Obj))]++Jf fp s5.heap) df H7 s7 ->
     s7.heap.get? s.heap.objs.size=some {cls:=.type "list",data:=.seq its.toArray k}/\H7 s.heap.objs.size=none/\(∀b∈fp,H7 b=none)/\∀b∈fp,∀o,s5.heap.get? b=some o->s7.heap.get? b=some o:=fun {df H7 s7} I7=>by
    obtain⟨e7,n7,_⟩:=I7.pin (s.heap.objs.size,({cls:=.type "list",data:=.seq its.toArray k}:Obj)) (by simp)
    refine⟨e7,n7,fun b hb=>?_,fun b hb o e=>?_⟩
    ·obtain⟨o,e,_⟩:=T.obj _ _ a9 b hb
     exact (I7.pin (b,o) (jy_ _ (jy_ _ (CH hb e)))).2.1
    ·exact (I7.pin (b,o) (jy_ _ (jy_ _ (CH hb e)))).1
   refine qN_ (hg _ _ _ _ _ s5 aC H5 x u _ md r5 (step x H5 y5)) (fun _ s6 ⟨dm,H6,I6,q6⟩=>?_) fun _ _ z=>rg z
   refine qN_ (hf _ _ _ _ _ s6 dm H6 _ I6 q6) (fun ok s7 ⟨H7,I7,q7⟩=>?_) fun _ _ z=>rg z
   cases ok with
   |false=>
    rw[if_neg jv_]
    rw[if_neg jv_]at q7
    obtain⟨m',hm,w7⟩:=hN _ _ _ q7
    obtain⟨e7,n7,oU,k7⟩:=fin I7
    exact⟨m',hm,i+1,dm,H7,ys,its,k,I7.pins_of (fun p hp=>by cases hp),T.keep _ _ _ a9 k7,oU,n7,e7,rv,w7⟩
   |true=>
    rw[if_pos rfl]
    rw[if_pos rfl]at q7
    refine qN_ (he _ _ _ _ _ s7 dm H7 _ I7 q7) (fun v s8 ⟨y,H8,I8,r8,q8⟩=>?_) fun _ _ z=>rg z
    obtain⟨m',hm,w8⟩:=hN _ _ _ q8
    obtain⟨e8,n8,oV,k8⟩:=fin I8
    refine xD_ F.slot_list_append ⟨_,e8,rfl⟩ F.entry_list_append (zC_ _ _) (z0_ s.heap.objs.size its.toArray k v (by rw[jp_];lia)) ⟨e8,?_⟩
    obtain⟨k',q⟩:∃k',(s8.heap.update s.heap.objs.size (Obj.mapSeq fun x=>x.push v)).get? s.heap.objs.size=some {cls:=.type "list",data:=.seq (its++[v]).toArray k' }:=⟨_,by
     have q:=x5_ e8 fun x=>x.push v
     have e:(its++[v]).toArray=its.toArray.push v:=by simp
     rw[e]
     exact q⟩
    have I8':Inv (X.blk cp.names sc H2.objs.size s H fp) [] dm H8 s8:=I8.pins_of fun p hp=>by cases hp
    have I9:Inv (X.blk cp.names sc H2.objs.size s H fp) [] dm H8 {s8 with heap:=s8.heap.update s.heap.objs.size (Obj.mapSeq fun x=>x.push v),toks:=s8.toks}:=
     I8'.turned (it:=s.heap.objs.size) (fun b o hb e=>(qa_ _ _ (qn_ hb)).trans e) n8 i8 (.inr (jg_ _)) (fun x c e=>dt _ (jg_ _) x c (BP I S e)) (fun p hp=>by cases hp)
    refine⟨m',hm,i+1,dm,H8,ys++[y],its++[v],k',I9,T.keep (i+1) s5.heap _ a9 (fun b hb o e=>?_),oV,n8,q,rv.append (.cons r8 .nil),w8⟩
    ·refine (qa_ _ _ ?_).trans (k8 b hb o e)
     intro z
     obtain⟨ob,eb⟩:=bI b hb
     exact absurd (js_ eb) (by rw[<-z];exact j8_ _)
 exact codeAny_compStart_list (loop _ rfl) (T.self _ 0 _ _ _ b7 (loop _ rfl))
def A5 (hc:X.calm=true)(S:BlkSc X sc)(iu:CK X.N sc cp)(hi:PI X tg iter wi)
  (hg:∀C s₀ H₀ ex,PG (X.blk cp.names sc C s₀ H₀ ex) tg g) (hf:∀C s₀ H₀ ex,PF (X.blk cp.names sc C s₀ H₀ ex) cw tc) (he:∀C s₀ H₀ ex,PE (X.blk cp.names sc C s₀ H₀ ex) cF te)
  (hs:∀x,foldedSetIterable iter X.env x=pure x:=by intro _;rfl):PE X (.ListComp cF [⟨tg,iter,cw,0⟩] sc pos) (RV wi cp g tc te):=by
 intro af s σ H Q I h
 rw[eval_ListComp]
 refine zc_ (use:=none) rfl hs (Gb (HR I S)) S.kind S.loc (thn (hi af s σ H _ I h) fun xv s₁ h₁=>thn h₁ fun l8 bt cN=>?_)
 obtain⟨it,fp,tn,J,H2,e,I2,T,aP,f2,hw⟩:=cN
 subst e
 refine K3 (RR:=fun ai C=>compPost (model X.prog X.w) X.A X.xe none (EP X af σ Q) ai C) hc S iu hg hf he I2 T aP f2 hw ?_
 intro D C s' H' m I' q hn hC hL hz bL hp
 exact⟨m,hn,fun h' f9=>⟨.ref D,H',I'.turned (t':=s'.toks) (it:=C) (fun b o hb e=>f9.extBut b o hb e) hC hL (.inr hz) bL hp,rfl,q⟩⟩
def Ec    (hN:X.N.Nodup)(hi:X.N[i]?=some x)(hx:X.env.scope.names.lookup x=some .local)(hc:X.calm=true)(S:BlkSc X sc)(iu:CK X.N sc cp)(bg:PI X tg iter wi)
  (hg:∀C s₀ H₀ ex,PG (X.blk cp.names sc C s₀ H₀ ex) tg g) (hf:∀C s₀ H₀ ex,PF (X.blk cp.names sc C s₀ H₀ ex) cw tc) (he:∀C s₀ H₀ ex,PE (X.blk cp.names sc C s₀ H₀ ex) cF te)
  (oW:swapsWith (.ListComp cF [⟨tg,iter,cw,0⟩] sc pos) (some (.Name x px)) jy.line X.env=pure true:=by rfl)
  (hs:∀x,foldedSetIterable iter X.env x=pure x:=by intro _;rfl):PS X (.Assign [.Name x px] (.ListComp cF [⟨tg,iter,cw,0⟩] sc pos) jy) (tAsg (RV wi cp g tc te) (Fz i)):=by
 intro af s σ H D I h
 rw[exec_Assign_Name_used _ _ _ _ oW]
 refine jf_ (wpAny_standAt (jf_ ?_))
 show wpAny _ X.A (do let _ <- comprehension (.ListComp cF [⟨tg,iter,cw,0⟩] sc pos) sc X.env _ (newList []) false (eval iter X.env) (some (assign (.Name x px) X.env))) _ _ s
 refine jf_ (qN_ (zc_ (use:=some (assign (.Name x px) X.env)) (Q:=fun _ s'=>SP X af D .next s') rfl hs (Gb (HR I S)) S.kind S.loc
  (thn (bg af s σ H _ I h) fun xv s₁ h₁=>thn h₁ fun l8 bt cN=>?_)) (fun _ s' hq=>ju_ (ju_ hq)) fun _ _ e=>e)
 obtain⟨it,fp,tn,J,H2,e,I2,T,aP,f2,hw⟩:=cN
 subst e
 refine K3 (RR:=fun ai C=>compPost (model X.prog X.w) X.A X.xe (some (assign (.Name x px) X.env)) (fun _ s'=>SP X af D .next s') ai C) (Q:=fun v H1=>Fz i v σ H1 D.nx) hc S iu hg hf he I2 T aP f2 hw ?_
 intro Dl C s' H' m I' q hn hC hL hz bL hp
 show wpAny _ X.A (assign (.Name x px) X.env (.ref Dl)) _ _ _
 refine wpAny_assign_Name (HD I' hN hi (.inl hx) (v:=.ref Dl) rfl (fun ie oX ⟨a,nE,ha⟩=>?_) (.inr hx))
 have ay:C≠a:=by
  rcases ha with rfl|ha
  ·exact hL
  ·exact fun z=>bL _ _ ha z.symm
 refine⟨m,hn.sameBut nE ay,fun h' f9=>⟨_,H',oX.turned (t':=ie.toks) (it:=C) (fun b o hb e=>f9.extBut b o hb e) hC hL (.inr hz) bL hp,q⟩⟩
end
def PX {K:α3}{a:Addr}{xs:List V}{g:TG}{tc:TT}{te:TE}{Q:VK}{σ:St}{H:Hp}(Pv:Nat->List V->St->Hp->Prop)(h0:Pv 0 [] σ H)(hz:xs.length<sizeLine)
  (hl:∀i ys σ H,i<=xs.length->Pv i ys σ H->SqL K H a xs/\ys.length<=i)
  (hs:∀i x ys σ H,xs[i]?=some x->Pv i ys σ H->g x σ H fun aj H2=>tc aj H2 fun b H3=>if b=true then te aj H3 fun v H4=>Pv (i+1) (ys++[v]) aj H4 else Pv (i+1) ys aj H3)
  (hd:∀ys σ H,Pv xs.length ys σ H->∀D,H D=none->Q (.ref D) (upd H D (.lst ys))):
  ∃W:Nat->Nat->List V->St->Hp->Prop,(∃m,W 0 m [] σ H)/\∀i m ys ag H',W i m ys ag H' ->
   ys.length<sizeLine/\(((Itl K a).stop i H'/\∀D,H' D=none->Q (.ref D) (upd H' D (.lst ys)))\/((Itl K a).go i H'/\∃N:List V->St->Hp->Prop,(∀zs aj H2,N zs aj H2->∃m',m'<m/\W (i+1) m' zs aj H2)/\∀x H2,(Itl K a).yld i H' x H2->g x ag H2 fun aj H3=>tc aj H3 fun b H4=>
    if b=true then te aj H4 fun v H5=>N (ys++[v]) aj H5 else N ys aj H4)):=by
 refine⟨fun i m ys σ H=>m=xs.length-i/\i<=xs.length/\Pv i ys σ H,⟨xs.length,by simp,jX_ _,h0⟩,?_⟩
 rintro i m ys σ H ⟨rfl,hi,p⟩
 obtain⟨q,ly⟩:=hl i ys σ H hi p
 refine⟨by lia,?_⟩
 by_cases au:i<xs.length
 ·refine .inr ⟨⟨xs,xs[i],q,by simp[au]⟩,Pv (i+1),fun zs ag H' p'=>⟨xs.length-(i+1),by lia,rfl,au,p'⟩,fun x H' y=>?_⟩
  obtain⟨e,y⟩:=y
  subst e
  exact hs i x ys σ _ (y xs q) p
 ·have e:i=xs.length:=by lia
  subst e
  exact .inl ⟨⟨xs,q,jg_ _⟩,hd ys σ H p⟩
def RW {K:α3}{a:Addr}{xs:List V}{g:TG}{tc:TT}{te:TE}{Q:VK}{σ:St}{H:Hp}(Pv:Nat->List V->St->Hp->Prop)(h0:Pv 0 [] σ H)(hz:xs.length<sizeLine)
  (hl:∀i ys σ H,i<=xs.length->Pv i ys σ H->SqT K H a xs/\ys.length<=i)
  (hs:∀i x ys σ H,xs[i]?=some x->Pv i ys σ H->g x σ H fun aj H2=>tc aj H2 fun b H3=>if b=true then te aj H3 fun v H4=>Pv (i+1) (ys++[v]) aj H4 else Pv (i+1) ys aj H3)
  (hd:∀ys σ H,Pv xs.length ys σ H->∀D,H D=none->Q (.ref D) (upd H D (.lst ys))):
  ∃W:Nat->Nat->List V->St->Hp->Prop,(∃m,W 0 m [] σ H)/\∀i m ys ag H',W i m ys ag H' ->
   ys.length<sizeLine/\(((Itt K a).stop i H'/\∀D,H' D=none->Q (.ref D) (upd H' D (.lst ys)))\/((Itt K a).go i H'/\∃N:List V->St->Hp->Prop,(∀zs aj H2,N zs aj H2->∃m',m'<m/\W (i+1) m' zs aj H2)/\∀x H2,(Itt K a).yld i H' x H2->g x ag H2 fun aj H3=>tc aj H3 fun b H4=>
    if b=true then te aj H4 fun v H5=>N (ys++[v]) aj H5 else N ys aj H4)):=by
 refine⟨fun i m ys σ H=>m=xs.length-i/\i<=xs.length/\Pv i ys σ H,⟨xs.length,by simp,jX_ _,h0⟩,?_⟩
 rintro i m ys σ H ⟨rfl,hi,p⟩
 obtain⟨q,ly⟩:=hl i ys σ H hi p
 refine⟨by lia,?_⟩
 by_cases au:i<xs.length
 ·refine .inr ⟨⟨xs,xs[i],q,by simp[au]⟩,Pv (i+1),fun zs ag H' p'=>⟨xs.length-(i+1),by lia,rfl,au,p'⟩,fun x H' y=>?_⟩
  obtain⟨e,y⟩:=y
  subst e
  exact hs i x ys σ _ (y xs q) p
 ·have e:i=xs.length:=by lia
  subst e
  exact .inl ⟨⟨xs,q,jg_ _⟩,hd ys σ H p⟩
def Oa {lo:Int}{n:Nat}{g:TG}{tc:TT}{te:TE}{Q:VK}{σ:St}{H:Hp}(Pv:Nat->List V->St->Hp->Prop)(h0:Pv 0 [] σ H)(hz:n<sizeLine)
  (hl:∀i ys σ H,i<=n->Pv i ys σ H->ys.length<=i)
  (hs:∀i ys σ H,i<n->Pv i ys σ H->g (.int (lo+i)) σ H fun aj H2=>tc aj H2 fun b H3=>if b=true then te aj H3 fun v H4=>Pv (i+1) (ys++[v]) aj H4 else Pv (i+1) ys aj H3)
  (hd:∀ys σ H,Pv n ys σ H->∀D,H D=none->Q (.ref D) (upd H D (.lst ys))):
  ∃W:Nat->Nat->List V->St->Hp->Prop,(∃m,W 0 m [] σ H)/\∀i m ys ag H',W i m ys ag H' ->
   ys.length<sizeLine/\(((Itr lo n).stop i H'/\∀D,H' D=none->Q (.ref D) (upd H' D (.lst ys)))\/((Itr lo n).go i H'/\∃N:List V->St->Hp->Prop,(∀zs aj H2,N zs aj H2->∃m',m'<m/\W (i+1) m' zs aj H2)/\∀x H2,(Itr lo n).yld i H' x H2->g x ag H2 fun aj H3=>tc aj H3 fun b H4=>
    if b=true then te aj H4 fun v H5=>N (ys++[v]) aj H5 else N ys aj H4)):=by
 refine⟨fun i m ys σ H=>m=n-i/\i<=n/\Pv i ys σ H,⟨n,by simp,jX_ _,h0⟩,?_⟩
 rintro i m ys σ H ⟨rfl,hi,p⟩
 have ly:=hl i ys σ H hi p
 refine⟨by lia,?_⟩
 by_cases au:i<n
 ·refine .inr ⟨au,Pv (i+1),fun zs ag H' p'=>⟨n-(i+1),by lia,rfl,au,p'⟩,fun x H' y=>?_⟩
  obtain⟨e,y⟩:=y
  subst e y
  exact hs i ys σ _ au p
 ·have e:i=n:=by lia
  subst e
  exact .inl ⟨jg_ _,hd ys σ H p⟩
end L2
namespace L2
open PySem PySem.Spec PyProof.Rows
section
variable {X:Cx}
def JU {bs:List Bool}{its:List Value}(r:Vals (bs.map V.bl) its){i:Nat}{v:Value}(h:its[i]?=some v):∃b,bs[i]?=some b/\v=.bool b:=by
 have hi:i<its.length:=(jb_.mp h).1
 have hl:=r.length
 rw[ja_]at hl
 obtain⟨u,hu,ru⟩:=r.get (i:=i) (x:=V.bl bs[i]) (by rw[je_];simp[show i<bs.length by lia])
 rw[h]at hu
 cases hu
 exact⟨bs[i],by simp[show i<bs.length by lia],ru⟩
def V4 (bs:List Bool):(qV bs.length).map (fun i=>bs.getD i false)=bs:=
 List.ext_getElem (by simp) fun i _ h=>by simp[h]
def PY {bs:List Bool}:(qV bs.length).all (fun i=>bs.getD i false)=bs.all id:=by
 have e:=jC_ (fun l=>l.all id) (V4 bs)
 rw[vp]at e;exact e
def L9 {bs:List Bool}{its:List Value}{A:Around}{P:Program}{w:World}(r:Vals (bs.map V.bl) its):TruthOf P w A (fun i v=>its.toArray[i]?=some v) (fun i=>bs.getD i false):=by
 intro i v s Q E hv hq
 obtain⟨b,hb,e⟩:=JU r (by simpa using hv)
 subst e
 refine xV_ ?_
 have e:bs.getD i false=b:=by rw[jj_,hb];rfl
 have gS:Q (bs.getD i false) s:=hq
 rw[e]at gS
 exact gS
def RX (hc:X.calm=true):Cr X (.builtin "all") (fun xs H Q=>∃(p:Addr) (bs:List Bool),xs=[.ref p]/\SqL X.K H p (bs.map V.bl)/\Q (.bl (bs.all id)) H):=by
 intro af s σ H xs us Q I r h
 obtain⟨p,bs,rfl,hq,q⟩:=h
 obtain⟨u,rfl,ru⟩:=vals1 r
 cases ru
 obtain⟨its,rv,pl,hz⟩:=I.list hq
 have ak:=rv.length
 rw[ja_]at ak
 have hh:X.A.in1.handled=none:=I.ok.hd hc
 obtain⟨o,ho,_⟩:=id pl.isList
 have ay:p≠s.heap.objs.size:=jL_ (js_ ho)
 refine call_all_walk (zr_ pl.isList ?_)
 refine⟨s.heap.objs.size,_,_,its.toArray.size,_,_,fun i=>bs.getD i false,rfl,Walks.list hh _ p ay its.toArray,⟨⟨_,jH_ _ rfl,rfl,rfl⟩,pl.isList.at fun o e=>jo_ _ e⟩,L9 rv,fun h' tk hk=>?_⟩
 refine⟨.bl (bs.all id),H,I.kept (t':=tk) fun b o e=>hk b o ?_ (jo_ _ e),?_,q⟩
 ·intro hb
  have e':b=s.heap.objs.size:=by simpa using hb
  exact absurd (js_ e) (by rw[e'];exact j8_ _)
 ·rw[jp_,<-ak,PY];rfl
def Dr:Cr X (.builtin "isinstance") (fun xs H Q=>∃x c cv t b,xs=[x,c]/\TyOf X.K H x t/\(∀u,RelV c u->u=cv)/\kitOne X.K t cv=some b/\Q (.bl b) H):=by
 intro af s σ H xs us Q I r h
 obtain⟨x,c,cv,t,b,rfl,ty,hc,hk,q⟩:=h
 obtain⟨u,w',rfl,rx,rc⟩:=vals2 r
 rw[hc _ rc]
 exact Pf I rx ty hk fun tk=>⟨.bl b,H,I.tok tk,rfl,q⟩
def EqD (K:α3)(H:Hp):Nat->V->V->Bool->Prop
 |0,x,y,b=>Cz x=true/\Cz y=true/\b=eqV x y
 |n+1,x,y,b=>(Cz x=true/\Cz y=true/\b=eqV x y) \/ ∃a c xs ys,x=.ref a/\y=.ref c/\((SqL K H a xs/\SqL K H c ys)\/(SqT K H a xs/\SqT K H c ys)) /\
   ∃e:Nat->Bool,(∀i x y,xs[i]?=some x->ys[i]?=some y->EqD K H n x y (e i))/\b=(decide (xs.length=ys.length)&&(qV (min xs.length ys.length)).all e)
def in1_units (A:Around):A.in1.units=A.units+1:=rfl
def Nd  (h:Cz x=true):eqV x x=true:=by
 cases x<;>first|rfl|(simp[eqV];done)|exact absurd (show false=true from h) jv_
def EqD.self     (I:Inv X af σ H s):∀(n:Nat) {x:V} {b:Bool},EqD X.K H n x x b->b=true:=by
 intro n
 induction n with
 |zero=>
  rintro x b ⟨fx,_,rfl⟩
  exact Nd fx
 |succ n ih=>
  rintro x b (⟨fx,_,rfl⟩|⟨a,c,xs,ys,rfl,e2,hq,e,he,rfl⟩)
  ·exact Nd fx
  ·cases e2
   have oY:xs=ys:=by
    rcases hq with ⟨h1,h2⟩|⟨h1,h2⟩
    ·exact I.list_inj h1 h2
    ·exact I.tuple_inj h1 h2
   subst oY
   simp only[decide_true,vc,tI,qR_,jF_]
   intro i hi
   exact ih (he i xs[i] xs[i] (by simp[hi]) (by simp[hi]))
def UQ   : ((qV (min n m)).all e&&n==m)=(decide (n=m)&&(qV (min n m)).all e):=by
 rw[Bool.and_comm]
 congr 1
def EqD.at     (I:Inv X af σ H s):∀(n:Nat) (A:Around) {x y:V} {u v:Value} {b:Bool},A.units+n<cLine->RelV x u->RelV y v->EqD X.K H n x y b ->
  SeqAt.EqAt A s u v b/\∀a c,x=.ref a->y=.ref c->SeqAt.RcAt A s u v b:=by
 intro n
 induction n with
 |zero=>
  intro A x y u v b hu rx ry h
  obtain⟨fx,fy,rfl⟩:=h
  refine⟨Pm rx ry fx fy,?_⟩
  rintro a c rfl rfl
  exact absurd (show false=true from fx) jv_
 |succ n ih=>
  intro A x y u v b hu rx ry h
  have hself:=h
  rcases h with ⟨fx,fy,rfl⟩|⟨a,c,xs,ys,rfl,rfl,hq,e,he,rfl⟩
  ·refine⟨Pm rx ry fx fy,?_⟩
   rintro a c rfl rfl
   exact absurd (show false=true from fx) jv_
  ·cases rx
   cases ry
   have key:∀(its aK:List Value),Vals xs its->Vals ys aK->∀j (h1:j<its.toArray.size) (h2:j<aK.toArray.size),SeqAt.EqAt A.in1 s its.toArray[j] aK.toArray[j] (e j):=fun its aK r1 r2 j h1 h2=>by
    have l1:=r1.length
    have l2:=r2.length
    rw[jp_]at h1 h2
    obtain⟨u1,g1,q1⟩:=r1.get (i:=j) (x:=xs[j]'s!"") (by simp[show j<xs.length by lia])
    obtain⟨u2,g2,q2⟩:=r2.get (i:=j) (x:=ys[j]'s!"") (by simp[show j<ys.length by lia])
    have k1:its.toArray[j]'(by rw[jp_];exact h1)=u1:=by
     have:=(jb_.mp g1).2
     simpa using this
    have k2:aK.toArray[j]'(by rw[jp_];exact h2)=u2:=by
     have:=(jb_.mp g2).2
     simpa using this
    rw[k1,k2]
    exact (ih A.in1 (by rw[in1_units];lia) q1 q2 (he j _ _ (by simp[show j<xs.length by lia]) (by simp[show j<ys.length by lia]))).1
   have rc:SeqAt.RcAt A s (.ref a) (.ref c) (decide (xs.length=ys.length)&&(qV (min xs.length ys.length)).all e):=by
    rcases hq with ⟨h1,h2⟩|⟨h1,h2⟩
    ·obtain⟨its,r1,p1,_⟩:=I.list h1
     obtain⟨aK,r2,p2,_⟩:=I.list h2
     have l1:=r1.length
     have l2:=r2.length
     by_cases hl:xs.length=ys.length
     ·have:=SeqAt.RcAt.lists (e:=e) p1.isList p2.isList (by rw[jp_,jp_];lia) s!"" (key its aK r1 r2)
      rw[jp_,<-l1]at this
      rw[j4_ hl,vc,<-hl,tI]
      exact this
     ·rw[j9_ hl,uv]
      exact SeqAt.RcAt.lists_lengths p1.isList p2.isList (by rw[jp_,jp_];simp;lia) s!""
    ·obtain⟨its,r1,p1,_⟩:=I.tuple h1
     obtain⟨aK,r2,p2,_⟩:=I.tuple h2
     have l1:=r1.length
     have l2:=r2.length
     have:=SeqAt.RcAt.tuples (e:=e) (show s.heap.IsTuple a its.toArray from p1) (show s.heap.IsTuple c aK.toArray from p2) s!"" (key its aK r1 r2)
     rw[jp_,jp_,<-l1,<-l2,UQ]at this
     exact this
   refine⟨?_,fun a' c' _ _=>rc⟩
   by_cases hac:a=c
   ·subst hac
    rw[EqD.self I (n+1) hself]
    exact SeqAt.EqAt.same _
   ·exact SeqAt.EqAt.of_refs hac rc
def EqD.flat {K:α3}    (hq:(SqL K H a xs/\SqL K H c ys)\/(SqT K H a xs/\SqT K H c ys))(fx:∀x∈xs,Cz x=true)(fy:∀y∈ys,Cz y=true)(hi:∀x∈xs,∀y∈ys,eqV x y=decide (x=y))(n:Nat):
  EqD K H (n+1) (.ref a) (.ref c) (decide (xs=ys)):=by
 have base:∀m i x y,xs[i]?=some x->ys[i]?=some y->EqD K H m x y (decide (x=y)):=fun m i x y h1 h2=>by
  have m1:=jc_ h1
  have m2:=jc_ h2
  cases m with
  |zero=>exact⟨fx _ m1,fy _ m2,(hi _ m1 _ m2).symm⟩
  |succ m=>exact .inl ⟨fx _ m1,fy _ m2,(hi _ m1 _ m2).symm⟩
 refine .inr ⟨a,c,xs,ys,rfl,rfl,hq,fun i=>match xs[i]?,ys[i]? with|some x,some y=>decide (x=y)|_,_=>true,fun i x y h1 h2=>?_,?_⟩
 ·simp only[h1,h2]
  exact base n i x y h1 h2
 ·rw[qy_]
  simp only[ql_,qe_,qR_,jF_]
  constructor
  ·rintro rfl
   refine⟨rfl,fun i hi=>?_⟩
   have hi:i<xs.length:=by lia
   simp[hi]
  ·rintro⟨hl,h⟩
   refine qK_ fun i=>?_
   by_cases hi:i<xs.length
   ·have:=h i s!""
    simp[hi,show i<ys.length by lia]at this
    simp[hi,show i<ys.length by lia,this]
   ·rw[jV_ s!"",jV_ s!""]
end
end L2
namespace L2
open PySem PySem.Spec PyProof.Rows
def V5 (outer:List (Str×NameKind))(sc:Scope):Bool:=
 sc.kind == .function&&sc.names.all (fun y=>y.2 != .cell&&(y.2 != .local||sc.names.lookup y.1==some .local)&&(y.2 != .free||outer.lookup y.1==some .cell||outer.lookup y.1==some .free))
def A6   (h:V5 X.env.scope.names sc=true):BlkSc X sc:=by
 unfold V5 at h
 rw[qe_,qR_]at h
 obtain⟨h1,h2⟩:=h
 refine⟨by simpa using h1,fun y hy z=>?_,fun y hy z=>?_,fun y hy z=>?_⟩
 ·have:=h2 y hy
  simp only[qe_]at this
  have:=this.1.1
  rw[z]at this
  exact absurd this (by decide)
 ·have:=h2 y hy
  simp only[qe_]at this
  have:=this.1.2
  rw[z]at this
  simpa using this
 ·have:=h2 y hy
  simp only[qe_]at this
  have:=this.2
  rw[z]at this
  have t:(X.env.scope.names.lookup y.1==some .cell||X.env.scope.names.lookup y.1==some .free)=true:=by simpa using this
  rw[uj]at t
  rcases t with t|t
  ·exact .inl (by show X.env.scope.names.lookup y.1=some .cell;simpa using t)
  ·exact .inr (by show X.env.scope.names.lookup y.1=some .free;simpa using t)
section
variable {t u:TS} {te ta tb tc':TE} {tt tu:TT} {A B:TA} {D:Ends} {σ:St} {H:Hp} {Q:VK} {R:Bool->Hp->Prop} {S:List V->Hp->Prop} {i:Nat} {v:V} {g:TG} {r r':R2} {K:α3} {wi:TI} {cp:Caps}
theorem V6:tSeq t u D σ H=t {D with nx:=u D} σ H:=rfl
theorem Tg:VE D σ H=D.nx σ H:=rfl
theorem V7:tAsg te g D σ H=te σ H fun x H1=>g x σ H1 D.nx:=rfl
theorem PZ  : Fz i v σ H N=N (σ.set i (some v)) H:=rfl
theorem V8:tVar i σ H Q=∃v,σ[i]?=some (some v)/\Q v H:=rfl
theorem r_c:tC v σ H Q=Q v H:=rfl
theorem r_op:tOp r ta tb σ H Q=ta σ H fun x H1=>tb σ H1 fun y H2=>r x y H2 Q:=rfl
theorem r_un  : tUn f ta σ H Q=ta σ H fun x H1=>f x H1 Q:=rfl
theorem r_I    : rI C f x y H Q=∃i j,x=.int i/\y=.int j/\C i j/\Q (f i j) H:=rfl
theorem r_I0   : rI0 f x y H Q=∃i j,x=.int i/\y=.int j/\Q (f i j) H:=rfl
theorem r_U   : rU f x H Q=∃i,x=.int i/\Q (f i) H:=rfl
theorem Th    : UC sp gO E A σ H Q=A σ H fun vs H1=>sp (vs++gO) H1 Q E:=rfl
theorem Ti:VP te A σ H S=te σ H fun x H1=>A σ H1 fun xs H2=>S (x::xs) H2:=rfl
theorem V9:tNil σ H S=S [] H:=rfl
theorem Wa:tRet te D σ H=te σ H D.rt:=rfl
theorem Tj:VF te D σ H=te σ H fun _ H1=>D.nx σ H1:=rfl
theorem r_if:tIfS tt t u D σ H=tt σ H fun b H1=>if b=true then t D σ H1 else u D σ H1:=rfl
theorem r_B:tB te σ H R=te σ H fun x H1=>∃c,x=.bl c/\R c H1:=rfl
theorem Tn:RK te σ H R=te σ H fun x H1=>∃c,x=.bl c/\R c H1:=rfl
theorem Wb:tAnd tt tu σ H R=tt σ H fun c H1=>if c=true then tu σ H1 R else R false H1:=rfl
theorem r_or:tOr tt tu σ H R=tt σ H fun c H1=>if c=true then R true H1 else tu σ H1 R:=rfl
theorem Wc:tNot tt σ H R=tt σ H fun c H1=>R (!c) H1:=rfl
theorem P0:Td r r' ta tb tc' σ H Q=ta σ H fun x H1=>tb σ H1 fun y H2=>r x y H2 fun z H3=>∃k,z=.bl k/\(if k=true then tc' σ H3 fun w' H4=>r' y w' H4 Q else Q (.bl false) H3):=rfl
theorem r_CB  : tCB f A σ H Q=A σ H fun vs H1=>f vs H1 Q:=rfl
theorem We:tLst A σ H Q=A σ H fun xs H1=>xs.length<=sizeLine/\∀p,H1 p=none->Q (.ref p) (upd H1 p (.lst xs)):=rfl
theorem Wg:tTup A σ H Q=A σ H fun xs H1=>xs.length<=sizeLine/\∀p,H1 p=none->Q (.ref p) (upd H1 p (.tup xs)):=rfl
theorem Wi  : rIxL K x y H Q=∃p xs i v,x=.ref p/\y=.int i/\SqL K H p xs/\atI xs i=some v/\Q v H:=rfl
theorem Wj  : rIxT K x y H Q=∃p xs i v,x=.ref p/\y=.int i/\SqT K H p xs/\atI xs i=some v/\Q v H:=rfl
theorem r_sl   : tSl f te tl th σ H Q=te σ H fun x H1=>tl σ H1 fun l H2=>th σ H2 fun u H3=>f x l u H3 Q:=rfl
theorem To  : VT te σ H U=te σ H fun x H1=>∃i,x=.int i/\U (some i) H1:=rfl
theorem Nf  : Ph σ H U=U none H:=rfl
theorem r_BM   : tBM K T f te A σ H Q=te σ H fun x H1=>tyV K T x H1/\A σ H1 fun xs H2=>f x xs H2 Q:=rfl
theorem Ng   : Po x vs H Q=∃l xs y,x=.ref l/\vs=[y]/\H l=some (.lst xs)/\xs.length<sizeLine/\Q .non (upd H l (.lst (xs++[y]))):=rfl
theorem Tp    : gSub to ti ts v σ H N=to σ H fun o H1=>ti σ H1 fun i H2=>ts o i v H2 fun H3=>N σ H3:=rfl
theorem Tq   : VX o k v H N=∃p xs m j,o=.ref p/\k=.int m/\H p=some (.lst xs)/\ixN xs.length m=some j/\N (upd H p (.lst (xs.set j v))):=rfl
theorem r_Eq  : rEq x y H Q=(scal x y=true/\Q (.bl (decide (x=y))) H):=rfl
theorem r_Ne  : rNe x y H Q=(scal x y=true/\Q (.bl (!decide (x=y))) H):=rfl
theorem P4  : VJ K te σ H Z=te σ H fun x H1=>∃a,x=.ref a/\(∃xs,SqL K H1 a xs)/\Z (Itl K a) H1:=rfl
theorem Tr  : iTup K te σ H Z=te σ H fun x H1=>∃a,x=.ref a/\(∃xs,SqT K H1 a xs)/\Z (Itt K a) H1:=rfl
theorem P5  : VL A σ H Z=A σ H fun vs H1=>∃j:Int,vs=[.int j] /\ -(2 ^ 62)<=j/\j<2 ^ 62/\Z (Itr 0 j.toNat) H1:=rfl
theorem Wk  : tAug i te ti D σ H=∃x,σ[i]?=some (some x)/\te σ H fun y H1=>ti x y H1 fun z H2=>D.nx (σ.set i (some z)) H2:=rfl
theorem r_ip   : ipI f x y H Q=∃i j,x=.int i/\y=.int j/\Q (.int (f i j)) H:=rfl
theorem Ts:N9 σ H R=R true H:=rfl
end
def Same.new    (h:H p=none):Same H (upd H p o):=fun b u e=>by rw[Ah (Ap e h)];exact e
def Same.newT    (s:Same H H')(h:H' p=none):Same H (upd H' p o):=s.trans (Same.new h)
def Same.over    (s:Same H H')(h:H p=none):Same H (upd H' p o):=fun b u e=>by rw[Ah (Ap e h)];exact s b u e
def Av    (h:upd H p o D=none):H D=none/\D≠p:=by
 by_cases e:D=p
 ·subst e;rw[Ab]at h;cases h
 ·rw[Ah e]at h;exact⟨h,e⟩
def Same.seqT {K:α3}    (e:Same H H')(h:SqT K H a xs):SqT K H' a xs:=by
 rcases h with (h|⟨o,h⟩)|h
 ·exact .inl (.inl (e _ _ h))
 ·exact .inl (.inr ⟨o,e _ _ h⟩)
 ·exact .inr h
def hu9   (hr:Room k A):A.units+8<cLine:=by have:=hr.units;lia
section
variable {K:α3} {wi:TI} {cp:Caps} {g:TG} {tc:TT} {te:TE} {σ:St} {H:Hp} {Q:VK}
theorem Wl               : (cxOf CX P w K mg base N qual scope f cd A outer s H E).K=K:=rfl
def K4 (J:It)(cp:Caps)(g:TG)(tc:TT)(te:TE)(σ:St)(H1:Hp)(Q:VK):Prop:=∃W:Nat->Nat->List V->St->Hp->Prop,(∃m,W 0 m [] (cp.st σ) H1)/\∀i m ys ag H',W i m ys ag H' ->
 ys.length<sizeLine/\((J.stop i H'/\∀D,H' D=none->Q (.ref D) (upd H' D (.lst ys)))\/(J.go i H'/\∃N:List V->St->Hp->Prop,(∀zs aj H2,N zs aj H2->∃m',m'<m/\W (i+1) m' zs aj H2)/\∀x H2,J.yld i H' x H2->g x ag H2 fun aj H3=>tc aj H3 fun b H4=>
  if b=true then te aj H4 fun v H5=>N (ys++[v]) aj H5 else N ys aj H4))
theorem Tt:RV wi cp g tc te σ H Q=wi σ H fun J H1=>K4 J cp g tc te σ H1 Q:=rfl
def ForW (J:It)(g:TG)(tb:TS)(D:Ends)(σ:St)(H1:Hp):Prop:=∃W:Nat->Nat->St->Hp->Prop,(∃m,W 0 m σ H1)/\∀i m σ H,W i m σ H ->
 (J.stop i H/\D.nx σ H)\/(J.go i H/\∃N:St->Hp->Prop,(∀ag H',N ag H'->∃m',m'<m/\W (i+1) m' ag H')/\∀x H',J.yld i H x H'->g x σ H' fun aj H2=>tb {D with nx:=N,ct:=N,bk:=D.nx} aj H2)
theorem Wm   : tFor wi g tb D σ H=wi σ H fun J H1=>ForW J g tb D σ H1:=rfl
def forL        (Pv:Nat->St->Hp->Prop)(h0:Pv 0 σ H)(hl:∀i σ H,i<=xs.length->Pv i σ H->SqL K H a xs)
  (hs:∀i x σ H,xs[i]?=some x->Pv i σ H->g x σ H fun aj H2=>tb {D with nx:=Pv (i+1),ct:=Pv (i+1),bk:=D.nx} aj H2) (hd:∀σ H,Pv xs.length σ H->D.nx σ H):ForW (Itl K a) g tb D σ H:=RI Pv h0 hl hs hd
def forT        (Pv:Nat->St->Hp->Prop)(h0:Pv 0 σ H)(hl:∀i σ H,i<=xs.length->Pv i σ H->SqT K H a xs)
  (hs:∀i x σ H,xs[i]?=some x->Pv i σ H->g x σ H fun aj H2=>tb {D with nx:=Pv (i+1),ct:=Pv (i+1),bk:=D.nx} aj H2) (hd:∀σ H,Pv xs.length σ H->D.nx σ H):ForW (Itt K a) g tb D σ H:=Uy Pv h0 hl hs hd
def forR {lo:Int}       (Pv:Nat->St->Hp->Prop)(h0:Pv 0 σ H)
  (hs:∀i σ H,i<n->Pv i σ H->g (.int (lo+i)) σ H fun aj H2=>tb {D with nx:=Pv (i+1),ct:=Pv (i+1),bk:=D.nx} aj H2) (hd:∀σ H,Pv n σ H->D.nx σ H):ForW (Itr lo n) g tb D σ H:=O6 Pv h0 hs hd
def IU   (Pv:Nat->List V->St->Hp->Prop)(h0:Pv 0 [] (cp.st σ) H)(hz:xs.length<sizeLine)
  (hl:∀i ys σ H,i<=xs.length->Pv i ys σ H->SqL K H a xs/\ys.length<=i)
  (hs:∀i x ys σ H,xs[i]?=some x->Pv i ys σ H->g x σ H fun aj H2=>tc aj H2 fun b H3=>if b=true then te aj H3 fun v H4=>Pv (i+1) (ys++[v]) aj H4 else Pv (i+1) ys aj H3)
  (hd:∀ys σ H,Pv xs.length ys σ H->∀D,H D=none->Q (.ref D) (upd H D (.lst ys))):K4 (Itl K a) cp g tc te σ H Q:=PX Pv h0 hz hl hs hd
def RY   (Pv:Nat->List V->St->Hp->Prop)(h0:Pv 0 [] (cp.st σ) H)(hz:xs.length<sizeLine)
  (hl:∀i ys σ H,i<=xs.length->Pv i ys σ H->SqT K H a xs/\ys.length<=i)
  (hs:∀i x ys σ H,xs[i]?=some x->Pv i ys σ H->g x σ H fun aj H2=>tc aj H2 fun b H3=>if b=true then te aj H3 fun v H4=>Pv (i+1) (ys++[v]) aj H4 else Pv (i+1) ys aj H3)
  (hd:∀ys σ H,Pv xs.length ys σ H->∀D,H D=none->Q (.ref D) (upd H D (.lst ys))):K4 (Itt K a) cp g tc te σ H Q:=RW Pv h0 hz hl hs hd
def JV {lo:Int}  (Pv:Nat->List V->St->Hp->Prop)(h0:Pv 0 [] (cp.st σ) H)(hz:n<sizeLine)
  (hl:∀i ys σ H,i<=n->Pv i ys σ H->ys.length<=i)
  (hs:∀i ys σ H,i<n->Pv i ys σ H->g (.int (lo+i)) σ H fun aj H2=>tc aj H2 fun b H3=>if b=true then te aj H3 fun v H4=>Pv (i+1) (ys++[v]) aj H4 else Pv (i+1) ys aj H3)
  (hd:∀ys σ H,Pv n ys σ H->∀D,H D=none->Q (.ref D) (upd H D (.lst ys))):K4 (Itr lo n) cp g tc te σ H Q:=Oa Pv h0 hz hl hs hd
def EJ    (f:V->V)(e:cp.st σ=none::ag)(hl:SqT K H a xs)(hz:xs.length<sizeLine)(hs:∀x∈xs,∀R:VK,R (f x) H->te (some x::ag) H R)(hd:∀D,H D=none->Q (.ref D) (upd H D (.lst (xs.map f)))):
  K4 (Itt K a) cp (Fz 0) N9 te σ H Q:=by
 refine RY (xs:=xs) (fun i ys aj H2=>H2=H/\ys=(xs.take i).map f/\∃o,aj=o::ag) ⟨rfl,by simp,none,e⟩ hz (fun i ys aj H2 hi h=>?_) (fun i x ys aj H2 hx h=>?_) (fun ys aj H2 h=>?_)
 ·obtain⟨rfl,rfl,_⟩:=h
  exact⟨hl,by rw[ja_,jx_];lia⟩
 ·obtain⟨rfl,rfl,o,rfl⟩:=h
  refine hs x (jc_ hx) _ ⟨rfl,?_,some x,rfl⟩
  rw[jQ_,hx];simp
 ·obtain⟨rfl,rfl,_⟩:=h
  rw[jP_]
  exact hd
def FD    (f:V->V)(e:cp.st σ=none::ag)(hl:SqL K H a xs)(hz:xs.length<sizeLine)(hs:∀x∈xs,∀R:VK,R (f x) H->te (some x::ag) H R)(hd:∀D,H D=none->Q (.ref D) (upd H D (.lst (xs.map f)))):
  K4 (Itl K a) cp (Fz 0) N9 te σ H Q:=by
 refine IU (xs:=xs) (fun i ys aj H2=>H2=H/\ys=(xs.take i).map f/\∃o,aj=o::ag) ⟨rfl,by simp,none,e⟩ hz (fun i ys aj H2 hi h=>?_) (fun i x ys aj H2 hx h=>?_) (fun ys aj H2 h=>?_)
 ·obtain⟨rfl,rfl,_⟩:=h
  exact⟨hl,by rw[ja_,jx_];lia⟩
 ·obtain⟨rfl,rfl,o,rfl⟩:=h
  refine hs x (jc_ hx) _ ⟨rfl,?_,some x,rfl⟩
  rw[jQ_,hx];simp
 ·obtain⟨rfl,rfl,_⟩:=h
  rw[jP_]
  exact hd
end
def tCut (t u:TS):TS:=fun D σ H=>∃R:St->Hp->Prop,t {D with nx:=R} σ H/\∀ag H',R ag H'->u D ag H'
def Bz  {st:Stmt}{rest:List Stmt}  (h1:PS X st t)(h2:PSs X rest u):PSs X (st::rest) (tCut t u):=by
 intro af s σ H D I h
 obtain⟨R,ha,hb⟩:=h
 refine wpAny_execs_cons (thn (h1 af s σ H {D with nx:=R} I ha) fun f s1 q=>?_)
 cases f with
 |next=>
  obtain⟨ag,H',I',q⟩:=q
  exact h2 af s1 ag H' D I' (hb ag H' q)
 |ret v=>exact q
 |brk=>exact q
 |cont=>exact q
def Ar:1000000<sizeLine:=by rw[zI_];decide
def CT {ns:α2}{x:V}(h:x∈ns.map V.int):∃n,n∈ns/\x=.int n:=by
 obtain⟨n,hn,e⟩:=jt_.mp h
 exact⟨n,hn,e.symm⟩
def Ck {ns:α2}{i:Nat}{x:V}(h:(ns.map V.int)[i]?=some x):∃n,ns[i]?=some n/\x=.int n:=by
 rw[je_]at h
 cases e:ns[i]? with
 |none=>rw[e]at h;cases h
 |some n=>rw[e]at h;exact⟨n,rfl,(jr_ h).symm⟩
def cutI (ns:α2)(lo hi:Option Int):α2:=(ns.drop (HT.sIx ns.length 0 lo)).take (HT.sIx ns.length ns.length hi-HT.sIx ns.length 0 lo)
def RZ (ns:α2)(lo hi:Option Int):cutV (ns.map V.int) lo hi=(cutI ns lo hi).map V.int:=by
 unfold cutV cutI
 rw[ja_,<-List.map_drop,<-sR]
def Nh (ns:α2)(j:Nat)(x:Int):(ns.map V.int).set j (.int x)=(ns.set j x).map V.int:=by rw[tJ]
def Wn {n:Nat}{i:Int}(h0:0<=i)(h1:i<n):ixN n i=some i.toNat:=by
 unfold ixN;rw[if_pos h0,if_pos h1]
def Cc     (h0:0<=i)(h:xs[i.toNat]?=some v):atI xs i=some v:=by
 have:=D8 h
 rwa [show ((i.toNat:Nat):Int)=i by lia]at this
def R0 {K:α3}  : kitOne K t t=some true:=by unfold kitOne;rw[if_pos (by simp)]
def Wo  : ∀u,RelV (V.ty n) u->u=.type n:=fun _ h=>h
end L2
namespace L2
open PySem PySem.W PySem.Spec PySem.Calls PyProof.Rows
section
variable {prog:Program} {w:World} {A:Around} {E:Value->Shared->Prop} {s:Shared} {K:Frag} {x D:Addr} {ox:Obj}
structure ExcCls (K:Frag)(D:Addr):Prop where
 ga:findIn K (.ref D) "__getattribute__"=some (some (.builtin "BaseException.__getattribute__"))
 hk:findIn K (.ref D) "__getattr__"=some none
 cl:(clsIn K D).isSome=true
 ca:findIn K (.ref D) "__class__"=some (some (.builtin "object.__class__"))
 gs:specialIn K (.builtin "object.__class__") "__get__"=some (some (.builtin "getset_descriptor.__get__"))
 tk:takesIn K (.builtin "object.__class__")=some true
 mo:mroIn K D (.type "object")=some true
 mb:mroIn K D (.type "BaseException")=some true
def JW (x D:Addr)(h:Heap):Prop:=∃ox,h.get? x=some ox/\ox.cls=.ref D
def JW.type   (I:JW x D h):Looks M h (typeOf (.ref x)) (.ref D):=by
 obtain⟨ox,h1,h2⟩:=I
 exact h2 ▸ (Looks.ld h1).andThen .now
def R3   (X:K.In h)(C:ExcCls K D):Looks M h (Builtin.ObjectAttr.find (.ref x) (.ref D) "__class__") (.bind (.builtin "getset_descriptor.__get__") (.builtin "object.__class__")):=
 (looks_findIn X C.ca).andThen ((show Looks M h (Builtin.ObjectAttr.getOf (some (.builtin "object.__class__"))) _ from looks_specialIn X C.gs).andThen
  ((show Looks M h (Builtin.ObjectAttr.dataDescriptor? (some (.builtin "object.__class__")) (some (.builtin "getset_descriptor.__get__"))) (some (.builtin "getset_descriptor.__get__",.builtin "object.__class__")) from (looks_takesIn X C.tk).andThen .now).andThen (Looks.tag .now)))
open Builtin Builtin.ObjectAttr Builtin.Getset_descriptor in
def UR {R:Result->Shared->Prop}{tp:Value}(X:K.In s.heap)(I:JW x D s.heap)(hm:mroIn K D (.type "object")=some true)(h:R (.ok (.ret (.ref D))) s):codeAny (model prog w) A (.call (.builtin "getset_descriptor.__get__") ⟨[.builtin "object.__class__",.ref x,tp],[]⟩) R s:=by
 have l0:=I.type (M:=model prog w)
 have l1:=looks_mroIn (M:=model prog w) X hm
 obtain⟨_,_,_,_,_⟩:=s
 have sg:=KF.slot_gs
 refine codeAny_call_builtin sg.plain KF.entry_gs (sg.check _ _ _ _ _ _ _ _ KF.type_class (KF.args_gs _ _ _) ?_)
 unfold Builtin.«getset_descriptor.__get__» descrGet
 rw[dga_obj]
 unfold descrGetter descrCheckInstance isInstance descrNameAndClass
 refine jf_ (ju_ ?_)
 simp only[KF.owner_class]
 repeat lk
 refine⟨Code.quiet_builtin _ (by decide +kernel),codeAny_builtin KF.entry_class ?_⟩
 unfold Builtin.«object.__class__» shownTypeOf
 repeat lk
 exact h
def P6    (X:K.In s.heap)(I:JW x D s.heap)(C:ExcCls K D)(hq:Q () s):wpAny M A (checkBuiltinCall "BaseException.__getattribute__" ⟨[.ref x,nameV],[]⟩) Q E s:=by
 have a1:=F.args_bexc_ga (.ref x) nameV
 have l0:=I.type (M:=M)
 have l1:=looks_mroIn (M:=M) X C.mb
 obtain⟨_,_,_,_,_⟩:=s
 simp only[checkBuiltinCall,show builtinKind "BaseException.__getattribute__"=some .slot by decide +kernel,show splitId "BaseException.__getattribute__"=some ("BaseException","__getattribute__") by decide +kernel,isInstance]
 repeat (first|lk|wp_step)
 exact hq
def P7   (X:K.In s.heap)(I:JW x D s.heap)(C:ExcCls K D)(hq:Q (.done (.ret (.ref D))) s):wpAny (model prog w) A (Builtin.«object.__getattribute__» ⟨[.ref x,.str "__class__" tk],[]⟩) Q E s:=by
 obtain⟨hh,g,d,t,os⟩:=s
 have L0:=I.type (M:=model prog w)
 have L1:=R3 (M:=model prog w) (x:=x) X C
 unfold Builtin.«object.__getattribute__»
 refine jf_ (ju_ ?_)
 refine jf_ (ju_ ?_)
 refine jf_ (L0.at ?_)
 refine jf_ (L1.at ?_)
 show wpAny _ _ (Builtin.ObjectAttr.bindTo _ _ _ _) _ _ _
 unfold Builtin.ObjectAttr.bindTo
 dsimp only
 refine jf_ (qX_ (wpAny_call (UR (K:=K) (s:=⟨hh,g,d,t,os⟩) X I C.mo ?_)))
 exact ju_ hq
def P8  (X:K.In s.heap)(I:JW x D s.heap)(C:ExcCls K D)(h:Q (some (.ref D)) {s with toks:=s.toks+1}):wpAny (model prog w) A (getAttr? (.ref x) "__class__") Q E s:=by
 obtain⟨hh,g,d,t,os⟩:=s
 have L0:=I.type (M:=model prog w)
 have L1:=looks_findIn (M:=model prog w) X C.ga
 have L2:=looks_findIn (M:=model prog w) X C.hk
 unfold getAttr? getAttrBy? getAttrBy
 refine jf_ (wpAny_mkText (jf_ (xI_ (qX_ (jf_ (L0.at (jf_ (L1.at ?_))))))))
 show wpAny _ _ (getAttrByItsOwn _ _ _ _ _ _) _ _ _
 unfold getAttrByItsOwn hookBefore
 refine jf_ ?_
 rw[if_pos (by rfl)]
 refine L2.at (jf_ (xI_ (qX_ ?_)))
 unfold callGetattribute
 rw[if_neg (by decide)]
 unfold boundAndCalled
 have f3:=PySem.F.attr_ValueError.ga.bind (.ref x)
 refine jf_ (wpAny_of_eq f3 ?_)
 refine wpAny_call (codeAny_call_builtin PySem.F.attr_ValueError.ga.plain F.entry_bexc_ga (P6 (K:=K) (s:=⟨hh,g,d,t+1,os⟩) X I C (P7 (K:=K) (s:=⟨hh,g,d,t+1,os⟩) X I C ?_)))
 exact ju_ (ju_ h)
def R4 (C:ExcCls K D):KitX K (.ref x) (.ref D) (JW x D):=by
 have cl:=C.cl
 unfold clsIn at cl
 refine⟨fun _ _ _ I=>I.type,fun _ _ X _=>?_,fun h tp dd its n sl X htp=>?_,fun X I k=>P8 X I C k⟩
 ·split at cl
  ·rename_i ho
   intro A' Q' E' s' k q
   exact jf_ (wpAny_loadPart (k _ _ (X _ _ ho)) (ju_ q))
  ·cases cl
 ·split at cl
  ·rename_i ho
   cases hb:(Value.ref D==Value.ref tp) with
   |false=>rfl
   |true=>
    obtain rfl:D=tp:=Value.ref.inj (z1_.mp hb)
    cases (X _ _ ho).symm.trans htp
  ·cases cl
end
end L2
namespace L2
open PySem PySem.Spec PyProof.Rows
def excO (ea C:Addr):HO:=.ext (JW ea C)
def K5  : Cr X (.builtin "isinstance") (fun xs H Q=>∃ea C c cv b,xs=[.ref ea,c]/\H ea=some (excO ea C)/\ExcCls X.K C/\(∀u,RelV c u->u=cv)/\kitOne X.K (.ref C) cv=some b/\Q (.bl b) H):=by
 intro af s σ H xs us Q I r h
 obtain⟨ea,C,c,cv,b,rfl,hea,hC,hc,hk,q⟩:=h
 obtain⟨u,w',rfl,rx,rc⟩:=vals2 r
 rw[hc _ rc]
 cases rx
 obtain⟨p,_,_⟩:=(show Bo X.prog X.w H s.heap ea (.ext (JW ea C)) from I.hok ea _ hea)
 exact qs_ (R4 hC) I.kIn p hk (fun z=>nomatch z) fun tk=>⟨.bl b,H,I.tok tk,rfl,q⟩
end L2
namespace HT
open PySem PySem.Spec PyProof.Rows
open PySem.AutoSeq1 (wpAny_loadPart')
section
open PySem.SeqAt PySem.MeetsSeq PySem.MeetsSeq2 PySem.MeetsSeq3
def int_rmul_tup (a:Int)(t:Tok)(l:Addr)(items:Array Value)(n:Nat)(dd:Option Addr)(sl:Array (α5)):
  Meets (Builtin.«int.__rmul__» ⟨[.int a t,.ref l],[]⟩) (fun _ R s=>s.heap.get? l=some {cls:=.type "tuple",dict:=dd,data:=.seq items n,slots:=sl}/\R (.ok (.ret Value.notImplemented)) s):=
 .of_wp fun prog w A R s h=>by obtain⟨hp,g,d,tk,os⟩:=s;obtain⟨hl,h⟩:=h;wp_walk using qt_ hl;exact⟨_,rfl,h⟩
def noFill_tuple_mul:fillsNumberSlot (.type "tuple") "mul"=pure false:=by
 first|exact fillsNumberSlot_false (by decide +kernel)|(unfold fillsNumberSlot;kernel_rfl)|kernel_rfl
def repeat_tuple:seqRepeat? (.type "tuple")=pure (some (.builtin "tuple.__mul__")):=by
 unfold seqRepeat?
 rw[tW (T := "tuple") (name := "__mul__") (id := "tuple.__mul__") zy_.lookup (by decide +kernel),tW (T := "tuple") (name := "__rmul__") (id := "tuple.__rmul__") F.slot_tuple_rmul.lookup (by decide +kernel)]
 rfl
def tup_mul_one (l:Addr)(items:Array Value)(n:Nat)(dd:Option Addr)(sl:Array (α5))(u:Tok):
  Meets (Builtin.«tuple.__mul__» ⟨[.ref l,.int 1 u],[]⟩) (fun _ R s=>s.heap.get? l=some {cls:=.type "tuple",dict:=dd,data:=.seq items n,slots:=sl}/\R (.ok (.ret (Value.ref l))) s):=
 .of_wp fun prog w A R s h=>by
  obtain⟨hp,g,d,tk,os⟩:=s;obtain⟨hl,h⟩:=h
  have f1:=AutoSeq1.idx_int
  unfold Builtin.«tuple.__mul__»
  wp_walk using qt_ hl
  exact⟨_,rfl,h⟩
def tup_mul_none (l:Addr)(items:Array Value)(n:Nat)(dd:Option Addr)(sl:Array (α5))(x:Int)(u:Tok)(h0:¬ items.isEmpty=true)(h1:x<=0)(h2 : -(2 ^ 63)<=x):
  Meets (Builtin.«tuple.__mul__» ⟨[.ref l,.int x u],[]⟩) (fun _ R s=>s.heap.get? l=some {cls:=.type "tuple",dict:=dd,data:=.seq items n,slots:=sl}/\R (.ok (.ret (Value.ref s.heap.objs.size))) {s with heap:=s.heap.push {cls:=.type "tuple",data:=.seq #[]} }):=
 .of_wp fun prog w A R s h=>by
  obtain⟨hp,g,d,tk,os⟩:=s;obtain⟨hl,h⟩:=h
  have f1:=AutoSeq1.idx_int
  have c1:(decide (x < -(2 ^ 63:Int))||decide (x >= 2 ^ 63))=false:=by simp;lia
  have c2:(items.isEmpty||x==1)=false:=by simp at h0 ⊢;exact⟨h0,by lia⟩
  have c3:(decide (x<=0)||items.isEmpty)=true:=by simp[h1]
  unfold Builtin.«tuple.__mul__»
  wp_walk using qt_ hl
  rw[if_neg (by rw[c1];exact jv_)]
  wp_walk using qt_ hl
  rw[if_neg (by rw[c2];exact jv_)]
  rw[if_pos c3]
  wp_walk using qt_ hl
  exact⟨_,rfl,h⟩
def tup_mul_many (l:Addr)(items:Array Value)(n:Nat)(dd:Option Addr)(sl:Array (α5))(x:Int)(u:Tok)(h0:¬ items.isEmpty=true)(h1:1<x)(h2:x<2 ^ 63)(h3:items.size*x.toNat<=sizeLine):
  Meets (Builtin.«tuple.__mul__» ⟨[.ref l,.int x u],[]⟩) (fun _ R s=>s.heap.get? l=some {cls:=.type "tuple",dict:=dd,data:=.seq items n,slots:=sl}/\R (.ok (.ret (Value.ref s.heap.objs.size))) {s with heap:=s.heap.push {cls:=.type "tuple",data:=.seq ((qU x.toNat items).foldl (· ++ ·) #[])} }):=
 .of_wp fun prog w A R s h=>by
  obtain⟨hp,g,d,tk,os⟩:=s;obtain⟨hl,h⟩:=h
  have f1:=AutoSeq1.idx_int
  have hs:sizeLine=16777216:=zI_
  have c1:(decide (x < -(2 ^ 63:Int))||decide (x >= 2 ^ 63))=false:=by simp;lia
  have c2:(items.isEmpty||x==1)=false:=by simp at h0 ⊢;exact⟨h0,by lia⟩
  have c3:(decide (x<=0)||items.isEmpty)=false:=by simp at h0 ⊢;exact⟨by lia,h0⟩
  obtain⟨k,rfl⟩:∃k:Nat,x=(k:Int):=⟨x.toNat,by lia⟩
  have c4:¬ ((items.size:Int)*(k:Int) > (2 ^ 63-1) / 8):=by
   rw[ji_]at h3
   have:((items.size*k:Nat):Int)=(items.size:Int)*(k:Int):=by push_cast;rfl
   lia
  have c5:Builtin.Tuple.tupleTooMany ((items.size:Int)*(k:Int))=false:=by
   unfold Builtin.Tuple.tupleTooMany
   rw[ji_]at h3
   have:((items.size*k:Nat):Int)=(items.size:Int)*(k:Int):=by push_cast;rfl
   simp
   lia
  unfold Builtin.«tuple.__mul__»
  wp_walk using qt_ hl
  rw[if_neg (by rw[c1];exact jv_)]
  wp_walk using qt_ hl
  rw[if_neg (by rw[c2];exact jv_)]
  rw[if_neg (by rw[c3];exact jv_),if_neg c4,if_neg (by rw[c5];exact jv_)]
  wp_walk using qt_ hl
  have hz:¬ (rQ (fun x1 x2=>x1++x2) #[] (qU ((k:Int)).toNat items)).size > sizeLine:=by
   have:=L2.foldl_rep items.toList k []
   rw[xR_]at this
   have e:items.toList.toArray=items:=by simp
   rw[e]at this
   rw[ji_,this,jp_,L2.len_rep]
   rw[ji_]at h3
   rw[j6_,tG]
   lia
  rw[if_neg hz]
  wp_walk using qt_ hl
  exact⟨_,rfl,h⟩
end
end HT
namespace L2
open PySem PySem.Spec PyProof.Rows
section
variable {X:Cx}
def P9 (K:α3):R2:=fun x y H Q=>∃l k xs,x=.ref l/\y=.int k/\SqT K H l xs/\xs ≠ [] /\ -(2 ^ 63)<=k/\k<2 ^ 63/\xs.length*k.toNat<=sizeLine /\
 (k=1->Q (.ref l) H)/\(k≠1->∀p,H p=none->Q (.ref p) (upd H p (.tup (qU k.toNat xs).flatten)))
def Qa:OpR X (binaryOp .Mult) (P9 X.K):=by
 intro af s σ H x y v u Q I rx ry h
 obtain⟨l,k,xs,rfl,rfl,hq,ay,h1,h2,hz,q1,q2⟩:=h
 cases rx
 obtain⟨t,rfl⟩:=ry
 obtain⟨its,r,p1,_⟩:=I.tuple hq
 have ak:=r.length
 have fQ:¬ its.toArray.isEmpty=true:=by
  intro z
  have:its=[]:=by simpa using z
  exact ay (r.nil_iff.mp this)
 obtain⟨⟨cls,dd,data,sl⟩,ho,hc,n,hd⟩:=id p1
 simp only at hc hd
 subst hc hd
 refine wpAny_binaryOp_repeat_ref (T := "tuple") (U := "int") (by decide) ⟨_,ho,rfl⟩ (fun s'=>typeIs_int s' k t) HT.noFill_tuple_mul F.fills_int_mul zJ_ HT.repeat_tuple F.slot_int_index.lookup
  (xD_ zJ_ (typeIs_int s k t) F.entry_int_rmul (F.args_int_rmul_2 _ _) (HT.int_rmul_tup k t l its.toArray n dd sl) ⟨ho,rfl,⟨_,ho,rfl⟩,?_⟩)
 by_cases k1:k=1
 ·subst k1
  exact xD_ zy_ ⟨_,ho,rfl⟩ F.entry_tuple_mul (F.args_tuple_mul_2 _ _) (HT.tup_mul_one l its.toArray n dd sl t) ⟨ho,⟨.ref l,H,I,rfl,q1 rfl⟩⟩
 ·have fin:∀(ys:List Value),Vals (qU k.toNat xs).flatten ys->EP X af σ Q (.ref s.heap.objs.size) {s with heap:=s.heap.push {cls:=.type "tuple",data:=.seq ys.toArray} }:=fun ys rv=>
   ⟨.ref s.heap.objs.size,_,I.laid (t':=s.toks) (o:=.tup (qU k.toNat xs).flatten) (fun b ob q=>jo_ _ q) (jg_ _) ⟨by rw[len_rep,tG];exact hz,_,rv,IsTup.new _ _⟩,rfl,q2 k1 _ (I.hok.fresh (jg_ _))⟩
  by_cases k0:k<=0
  ·refine xD_ zy_ ⟨_,ho,rfl⟩ F.entry_tuple_mul (F.args_tuple_mul_2 _ _) (HT.tup_mul_none l its.toArray n dd sl k t fQ k0 h1) ⟨ho,?_⟩
   exact fin [] (by rw[show k.toNat=0 by lia];exact .nil)
  ·refine xD_ zy_ ⟨_,ho,rfl⟩ F.entry_tuple_mul (F.args_tuple_mul_2 _ _) (HT.tup_mul_many l its.toArray n dd sl k t fQ s!"" h2 (by rw[jp_,<-ak];exact hz)) ⟨ho,?_⟩
   have e:=foldl_rep its k.toNat []
   rw[xR_]at e
   have e':rQ (fun x1 x2=>x1++x2) #[] (qU k.toNat its.toArray)=(qU k.toNat its).flatten.toArray:=e
   rw[e']
   exact fin _ (r.rep k.toNat)
def E4 (K:α3):R2:=fun x y H Q=>∃a b xs ys,x=.ref a/\y=.ref b/\SqT K H a xs/\SqT K H b ys/\xs.length+ys.length<=sizeLine /\
 (xs=[]->Q (.ref b) H)/\(xs ≠ []->ys=[]->Q (.ref a) H)/\(xs ≠ []->ys ≠ []->∀p,H p=none->Q (.ref p) (upd H p (.tup (xs++ys))))
def EK:OpR X (binaryOp .Add) (E4 X.K):=by
 intro af s σ H x y v u Q I rx ry h
 obtain⟨a,b,xs,ys,rfl,rfl,ha,hb,hz,q0,q1,q2⟩:=h
 by_cases hx:xs=[]
 ·subst hx
  cases rx
  cases ry
  obtain⟨its,r1,p1,_⟩:=I.tuple ha
  obtain⟨aK,r2,p2,_⟩:=I.tuple hb
  have:its=[]:=r1.nil_iff.mpr rfl
  subst this
  obtain⟨⟨cls,dd,data,sl⟩,ho,hc,n,hd⟩:=id p1
  obtain⟨⟨cls2,i7,data2,gQ⟩,gR,cu,n2,fT⟩:=id p2
  simp only at hc hd cu fT
  subst hc hd cu fT
  exact concat_meets ⟨_,ho,rfl⟩ ⟨_,gR,rfl⟩ noFill_tuple_add seq_tuple_add zo_ zg_ (zb_ _ _)
   (vd a b _ _ n n2 dd i7 sl gQ rfl) ⟨ho,gR,⟨.ref b,H,I,rfl,q0 rfl⟩⟩
 ·exact UH af s σ H _ _ v u Q I rx ry ⟨a,b,xs,ys,rfl,rfl,ha,hb,hx,hz,q1 hx,q2 hx⟩
end
def HS      (Pv:Nat->St->Hp->Prop)(h0:∃m,Pv m σ H)
  (hs:∀m σ H,Pv m σ H->c σ H fun b H1=>if b=true then ∃N:St->Hp->Prop,(∀ag H',N ag H'->∃m',m'<m/\Pv m' ag H')/\tb {D with nx:=N,ct:=N,bk:=D.nx} σ H1 else D.nx σ H1):S9 c tb D σ H:=⟨Pv,h0,hs⟩
theorem Wq {K:α3}    {lo hi:Option Int}:rSlT K x lo hi H Q=∃a xs,x=.ref a/\SqT K H a xs /\
 ¬ (HT.sIx xs.length 0 lo=0/\HT.sIx xs.length xs.length hi=xs.length)/\∀p,H p=none->Q (.ref p) (upd H p (.tup (cutV xs lo hi))):=rfl
def HV {α:Type}(x:α)(k:Nat):(qU k [x]).flatten=qU k x:=by
 induction k with
 |zero=>rfl
 |succ k ih=>rw[qj_,xC_,ih,qj_];rfl
inductive TyW (K:α3)(H:Hp):V->Value->Prop where
 | non:TyW K H .non (.type "NoneType")
 | bl (x:Bool):TyW K H (.bl x) (.type "bool")
 | int (i:Int):TyW K H (.int i) (.type "int")
 | str (x:Str):TyW K H (.str x) (.type "str")
 | lst {a:Addr} {xs:List V} (e:SqL K H a xs):TyW K H (.ref a) (.type "list")
 | tup {a:Addr} {xs:List V} (e:SqT K H a xs):TyW K H (.ref a) (.type "tuple")
 | exc {a C:Addr} (e:H a=some (excO a C)) (c:ExcCls K C):TyW K H (.ref a) (.ref C)
def K6  : Cr X (.builtin "isinstance") (fun xs H Q=>∃x c cv t b,xs=[x,c]/\TyW X.K H x t/\(∀u,RelV c u->u=cv)/\kitOne X.K t cv=some b/\Q (.bl b) H):=by
 intro af s σ H xs us Q I r h
 obtain⟨x,c,cv,t,b,rfl,ty,hc,hk,q⟩:=h
 cases ty with
 |non=>exact Dr af s σ H _ us Q I r ⟨_,c,cv,_,b,rfl,.non,hc,hk,q⟩
 |bl y=>exact Dr af s σ H _ us Q I r ⟨_,c,cv,_,b,rfl,.bl y,hc,hk,q⟩
 |int y=>exact Dr af s σ H _ us Q I r ⟨_,c,cv,_,b,rfl,.int y,hc,hk,q⟩
 |str y=>exact Dr af s σ H _ us Q I r ⟨_,c,cv,_,b,rfl,.str y,hc,hk,q⟩
 |exc e hC=>exact K5 af s σ H _ us Q I r ⟨_,_,c,cv,b,rfl,e,hC,hc,hk,q⟩
 |@lst a xs e=>
  obtain⟨u,w',rfl,rx,rc⟩:=vals2 r
  rw[hc _ rc]
  cases rx
  obtain⟨its,_,pl,_⟩:=I.list e
  obtain⟨o,ho,bL,_⟩:=pl.isList
  exact qs_ zZ_ I.kIn ⟨o,ho,bL⟩ hk (fun z=>nomatch z) fun tk=>⟨.bl b,H,I.tok tk,rfl,q⟩
 |@tup a xs e=>
  obtain⟨u,w',rfl,rx,rc⟩:=vals2 r
  rw[hc _ rc]
  cases rx
  obtain⟨its,_,⟨o,ho,bL,_⟩,_⟩:=I.tuple e
  exact qs_ sY I.kIn ⟨o,ho,bL⟩ hk (fun z=>nomatch z) fun tk=>⟨.bl b,H,I.tok tk,rfl,q⟩
end L2
namespace GW
def Ed (L:Int):α2->α2
 |[]=>[0]
 |x::r=>if x=L-1 then 0::Ed L r else (x+1)::r
def Ee (L:Int)(w:α2):α2:=(Ed L w.reverse).reverse
def AU (L:Int):α2->Int
 |[]=>0
 |x::r=>AU L r*L+x+1
def Au (L:Int)(w:α2):Int:=AU L w.reverse
def inW (L x:Int):Bool:=decide (0<=x)&&decide (x<L)
def isW (L:Int)(ws:α2):Bool:=ws.all (inW L)
def US  : inW L x=true↔0<=x/\x<L:=by simp[inW]
def Ay   : isW L ws=true ↔ ∀x∈ws,0<=x/\x<L:=by simp[isW,US]
def K7 (L:Int)(m:Nat)(r:α2):Ed L (qU m (L-1)++r)=qU m 0++Ed L r:=by
 induction m with
 |zero=>rfl
 |succ m ih=>rw[qj_,x7_,Ed,if_pos rfl,ih,qj_,x7_]
def Qb (L:Int)(a:α2)(x:Int)(m:Nat)(h:x≠L-1):Ee L (a++[x]++qU m (L-1))=a++[x+1]++qU m 0:=by
 unfold Ee
 rw[q5_,zq_,q5_,List.reverse_singleton,K7]
 show (qU m 0++Ed L (x::a.reverse)).reverse=_
 rw[Ed,if_neg h]
 simp
def Qc (L:Int)(m:Nat):Ee L (qU m (L-1))=qU (m+1) 0:=by
 unfold Ee
 have:=K7 L m []
 rw[qg_]at this
 rw[zq_,this]
 show (qU m (0:Int)++[0]).reverse=_
 rw[q5_,zq_]
 rfl
def Ma (L:Int)(l:α2):AU L (Ed L l)=AU L l+1:=by
 induction l with
 |nil=>simp[Ed,AU]
 |cons x r ih=>
  rw[Ed]
  by_cases h:x=L-1
  ·rw[if_pos h,AU,ih,AU,h,zL_];lia
  ·rw[if_neg h,AU,AU];lia
def Ob (L:Int)(w:α2):Au L (Ee L w)=Au L w+1:=by
 unfold Au Ee
 rw[q0_,Ma]
def Mb  (hL:0<L)  (h:∀x∈l,0<=x/\x<L):∀x∈Ed L l,0<=x/\x<L:=by
 induction l with
 |nil=>intro x hx;simp[Ed]at hx;subst hx;exact⟨xS_ _,hL⟩
 |cons y r ih=>
  have hy:=h y jn_
  have hr:∀x∈r,0<=x/\x<L:=fun x hx=>h x (jl_ _ hx)
  intro x hx
  rw[Ed]at hx
  by_cases e:y=L-1
  ·rw[if_pos e]at hx
   rcases jB_.mp hx with rfl|hx
   ·exact⟨xS_ _,hL⟩
   ·exact ih hr x hx
  ·rw[if_neg e]at hx
   rcases jB_.mp hx with rfl|hx
   ·lia
   ·exact hr x hx
def Mc  (hL:0<L)  (h:isW L w=true):isW L (Ee L w)=true:=by
 rw[Ay]at h ⊢
 intro x hx
 unfold Ee at hx
 rw[q3_]at hx
 exact Mb hL (fun y hy=>h y (q3_.mp hy)) x hx
def K8 (L:Int)(l:α2):l.length<=(Ed L l).length/\(Ed L l).length<=l.length+1:=by
 induction l with
 |nil=>simp[Ed]
 |cons x r ih=>
  rw[Ed]
  by_cases h:x=L-1
  ·rw[if_pos h];simp;lia
  ·rw[if_neg h];simp
def K9 (L:Int)(w:α2):w.length<=(Ee L w).length/\(Ee L w).length<=w.length+1:=by
 have:=K8 L w.reverse
 unfold Ee
 rw[xJ_]at this
 rw[xJ_]
 exact this
def many (L:Int):Nat->Int
 |0=>0
 |k+1=>many L k*L+1
def Cf {L:Int}(hL:0<L):∀k,0<=many L k
 |0=>xS_ _
 |k+1=>by
  have:=x3_ (Cf hL k) (xr_ hL)
  show 0<=many L k*L+1
  lia
def CD {L:Int}(hL:0<L):∀{l:α2},(∀x∈l,0<=x/\x<L)->many L l.length<=AU L l/\AU L l<many L (l.length+1)
 |[],_=>by simp[AU,many]
 |x::r,h=>by
  have hx:=h x jn_
  obtain⟨h1,h2⟩:=CD hL (l:=r) fun y hy=>h y (jl_ _ hy)
  show many L r.length*L+1<=AU L r*L+x+1/\AU L r*L+x+1<many L (r.length+1)*L+1
  have a1:=j0_ h1 (xr_ hL)
  have a2:=j0_ (show AU L r+1<=many L (r.length+1) by lia) (xr_ hL)
  rw[zL_]at a2
  lia
def GL  (hL:0<L)  (h:isW L w=true):many L w.length<=Au L w/\Au L w<many L (w.length+1):=by
 have:=CD hL (l:=w.reverse) (fun x hx=>Ay.mp h x (q3_.mp hx))
 rw[xJ_]at this
 exact this
def La  (hL:0<L)  (h:j<=k):many L j<=many L k:=by
 induction h with
 |refl=>exact xS_ _
 |step _ ih=>
  rename_i m _
  refine vq ih ?_
  show many L m<=many L m*L+1
  have:many L m*1<=many L m*L:=Int.mul_le_mul_of_nonneg_left s!"" (Cf hL m)
  lia
def EL  (hL:0<L)  (h:isW L w=true)(k:Nat):w.length<=k↔Au L w<many L (k+1):=by
 obtain⟨h1,h2⟩:=GL hL h
 constructor
 ·intro hk
  exact zT_ h2 (La hL s!"")
 ·intro hp
  refine tV fun hk=>?_
  have:=La hL (show k+1<=w.length from hk)
  lia
def nth (L:Int):Nat->α2
 |0=>[]
 |n+1=>Ee L (nth L n)
def C6 {L:Int}(hL:0<L):∀n,isW L (nth L n)=true
 |0=>rfl
 |n+1=>Mc hL (C6 hL n)
def Ef (L:Int):∀n:Nat,Au L (nth L n)=n
 |0=>rfl
 |n+1=>by show Au L (Ee L (nth L n))=_;rw[Ob,Ef L n];push_cast;rfl
def Oc  (hL:0<L)(n:Nat):(nth L n).length<=n:=by
 induction n with
 |zero=>simp[nth]
 |succ n ih=>have:=(K9 L (nth L n)).2;show (Ee L (nth L n)).length<=n+1;lia
def CI (L:Int)(w:α2)(x:Int):Au L (w++[x])=Au L w*L+x+1:=by
 unfold Au
 rw[q5_];rfl
def Ni {L:Int}{w:α2}{k:Nat}(hk:k<=w.length)(h:∀j,k<=j->j<w.length->w[j]?=some (L-1)):w=w.take k++qU (w.length-k) (L-1):=by
 apply qK_
 intro j
 by_cases hj:j<k
 ·rw[jd_ (by rw[jx_];lia),xA_ hj]
 ·by_cases hl:j<w.length
  ·rw[h j s!"" hl,jm_ (by rw[jx_];lia),zf_,if_pos (by rw[jx_];lia)]
  ·rw[jV_ s!"",jV_ (by rw[jk_,jx_,qx_];lia)]
def Lb     (hk:k<w.length)(h:∀j,k+1<=j->j<w.length->w[j]?=some (L-1))(hx:w[k]?=some x)(ay:x≠L-1):
  Ee L w=w.take k++[x+1]++qU (w.length-(k+1)) 0:=by
 have e:=Ni (show k+1<=w.length from hk) h
 have e2:w.take (k+1)=w.take k++[x]:=by rw[jQ_,hx];rfl
 rw[e2]at e
 have:=Qb L (w.take k) x (w.length-(k+1)) ay
 rw[<-e]at this
 exact this
def Md   (h:∀j,0<=j->j<w.length->w[j]?=some (L-1)):Ee L w=qU (w.length+1) 0:=by
 have e:=Ni (jX_ _) h
 simp at e
 have:=Qc L w.length
 rw[<-e]at this
 exact this
end GW
namespace PySem
section
variable {prog:Program} {w:World} {A:Around} {E:Value->Shared->Prop} {s:Shared}
abbrev lsO (ai:Array Value)(c:Nat):Obj:={cls:=.type "list",dict:=none,data:=.seq ai c,slots := #[]}
def KP (wr:Addr->Prop)(h h':Heap):Prop:=∀b o,¬ wr b->h.get? b=some o->h'.get? b=some o
structure Gat (prog:Program)(w:World)(s:Shared)(r I:Addr)(T:String)(n:Nat)(wr:Addr->Prop)(J:Nat->List Value->Heap->Prop)(Fn:List Value->Heap->Prop):Prop where
 type:s.TypeIs (.ref r) T
 nl:(Value.type T==Value.type "list")=false
 nt:(Value.type T==Value.type "tuple")=false
 le:n<=sizeLine
 hint:∀(A:Around) (t:Shared) (Q:Bool->Shared->Prop) (E:Value->Shared->Prop),(∀b o,s.heap.get? b=some o->t.heap.get? b=some o)->(∀b tk,Q b {t with toks:=tk})->wpAny (model prog w) A (Builtin.List.listLengthHint (.ref r)) Q E t
 iter:∀(A:Around) (h1:Heap) (Q:Value->Shared->Prop) (E:Value->Shared->Prop),(∀b o,s.heap.get? b=some o->h1.get? b=some o)->h1.objs.size=s.heap.objs.size+1->(∀h',J 0 [] h'->(∀b o,h1.get? b=some o->h'.get? b=some o)->Q (.ref I) {s with heap:=h' })->wpAny (model prog w) A (pyIter (.ref r)) Q E {s with heap:=h1}
 next:∀(A:Around) i ai (t:Shared) (Q:α5->Shared->Prop) (E:Value->Shared->Prop),A.handled=none->J i ai t.heap->ai.length=i->i<=n->s.heap.objs.size<t.heap.objs.size ->
  (∀v h' tk,i<n->J (i+1) (ai++[v]) h'->KP wr t.heap h'->Q (some v) {t with heap:=h',toks:=tk})->(∀h' tk,i=n->Fn ai h'->KP wr t.heap h'->Q none {t with heap:=h',toks:=tk})->wpAny (model prog w) A (pyNext (.ref I)) Q E t
 frame:∀i ai h h',J i ai h->(∀b o,b≠s.heap.objs.size->h.get? b=some o->h'.get? b=some o)->J i ai h'
 nw:¬ wr s.heap.objs.size
variable {I r:Addr} {T:String} {n:Nat} {wr:Addr->Prop} {J:Nat->List Value->Heap->Prop} {Fn:List Value->Heap->Prop} {R:Result->Shared->Prop} {res:Value}
def Gat.loop (G:Gat prog w s r I T n wr J Fn)(hh:A.handled=none)
  (hR:∀h' tk ai c,Fn ai h'->ai.length=n->h'.get? s.heap.objs.size=some (lsO ai.toArray c)->KP wr s.heap h'->R (.ok (.ret res)) {s with heap:=h',toks:=tk}):
  ∀(k:Nat) (h:Heap) (tk c:Nat) (ai:List Value),n-ai.length=k->ai.length<=n->J ai.length ai h->h.get? s.heap.objs.size=some (lsO ai.toArray c)->KP wr s.heap h->codeAny (model prog w) A (.builtin "list.extend.loop" ⟨[.ref s.heap.objs.size,.ref I,res],[]⟩) R {s with heap:=h,toks:=tk}:=by
 intro k
 induction k with
 |zero=>
  intro h tk c ai hk hi j hS kp
  refine codeAny_builtin F.entry_extend_loop ?_
  rw[Around.under_plainId x9_ _]
  refine jf_ (G.next A.in1 _ ai {s with heap:=h,toks:=tk} _ _ hh j rfl hi (js_ hS) (fun v h' tk l=>by lia) fun h' tk e j' kk=>?_)
  exact ju_ (hR h' tk ai c j' s!"" (kk _ _ G.nw hS) fun b o m q=>kk b o m (kp b o m q))
 |succ k ih=>
  intro h tk c ai hk hi j hS kp
  refine codeAny_builtin F.entry_extend_loop ?_
  rw[Around.under_plainId x9_ _]
  refine jf_ (G.next A.in1 _ ai {s with heap:=h,toks:=tk} _ _ hh j rfl hi (js_ hS) (fun v h' tk l j' kk=>?_) fun h' tk e=>by lia)
  have mq:=kk _ _ G.nw hS
  have up:∀b o,b≠s.heap.objs.size->h'.get? b=some o->(h'.update s.heap.objs.size (Obj.mapSeq (·.push v))).get? b=some o:=fun b o m q=>(qa_ _ _ (qn_ m)).trans q
  have hl:(ai++[v]).length=ai.length+1:=by simp
  have:=G.le
  obtain⟨c',i9⟩:∃c',(h'.update s.heap.objs.size (Obj.mapSeq (·.push v))).get? s.heap.objs.size=some (lsO (ai++[v]).toArray c'):=⟨_,by rw[<-List.push_toArray];exact qU_ _ mq rfl⟩
  exact jf_ (wpAny_updateSeq mq rfl (ju_ ⟨plainId_quiet x9_ _,ih _ tk c' (ai++[v]) s!"" s!"" (by rw[hl];exact G.frame _ _ _ _ j' up) i9 fun b o m q=>up b o (jL_ (js_ q)) (kk b o m (kp b o m q))⟩) (by simp;lia))
def Gat.extend    (G:Gat prog w s r I T n wr J Fn)(hh:A.handled=none)(k1:∀b o,s.heap.get? b=some o->h1.get? b=some o)(hz:h1.objs.size=s.heap.objs.size+1)(hS:h1.get? s.heap.objs.size=some (lsO #[] c₀))
  (hZ:∀c t,c.quiet=true->codeAny (model prog w) A c R t->Z (.again c) t)
  (hR:∀h' tk ai c,Fn ai h'->ai.length=n->h'.get? s.heap.objs.size=some (lsO ai.toArray c)->KP wr s.heap h'->R (.ok (.ret res)) {s with heap:=h',toks:=tk}):
  wpAny (model prog w) A.in1 (Builtin.List.listExtendWith (.ref s.heap.objs.size) (.ref r) res) Z E {s with heap:=h1}:=by
 have hr:r<s.heap.objs.size:=let ⟨_,ho,_⟩:=G.type;js_ ho
 have e1:Builtin.List.listSameRef (.ref s.heap.objs.size) (.ref r)=false:=by simp[Builtin.List.listSameRef,qL_ hr]
 have hT:Shared.TypeIs {s with heap:=h1} (.ref r) T:=let ⟨o,ho,x⟩:=G.type;⟨o,k1 _ _ ho,x⟩
 have ll:∀(h:Heap) f b o,b≠s.heap.objs.size->h.get? b=some o->(h.update s.heap.objs.size f).get? b=some o:=fun h f b o n q=>(qa_ _ _ (qn_ n)).trans q
 have go:∀(h:Heap) c tk,J 0 [] h->h.get? s.heap.objs.size=some (lsO #[] c)->(∀b o,b≠s.heap.objs.size->h1.get? b=some o->h.get? b=some o)->Z (.again (.builtin "list.extend.loop" ⟨[.ref s.heap.objs.size,.ref I,res],[]⟩)) {s with heap:=h,toks:=tk}:=fun h c tk j q k=>
  hZ _ _ (plainId_quiet x9_ _) (G.loop hh hR n h tk c [] rfl (jX_ _) j q fun b o _ x=>k b o (jL_ (js_ x)) (k1 b o x))
 unfold Builtin.List.listExtendWith
 refine jf_ (wpAny_typeOf hT ?_)
 simp only[e1,G.nl,G.nt,Bool.or_false,jY_,xb_]
 refine jf_ (G.iter A.in1 h1 _ _ k1 hz fun h' j kk=>jf_ (qX_ (G.hint A.in1 _ _ _ (fun b o q=>kk b o (k1 b o q)) fun bb tk=>?_)))
 have mq:=kk _ _ hS
 refine wpAny_ite_split (fun _=>?_) fun _=>ju_ (go h' c₀ tk j mq fun b o _ q=>kk b o q)
 wp_walk
 exact go _ _ tk (G.frame _ _ _ _ (G.frame _ _ _ _ j fun b o m q=>ll _ _ b o m q) fun b o m q=>ll _ _ b o m q) (qU_ _ (qU_ _ mq rfl) rfl) fun b o m q=>ll _ _ b o m (ll _ _ b o m (kk b o q))
def Gat.list  (G:Gat prog w s r I T n wr J Fn)(hh:A.handled=none)
  (hQ:∀h' tk ai c,Fn ai h'->ai.length=n->h'.get? s.heap.objs.size=some (lsO ai.toArray c)->KP wr s.heap h'->Q (.ref s.heap.objs.size) {s with heap:=h',toks:=tk}):wpAny (model prog w) A (call (.type "list") [.ref r]) Q E s:=by
 have hS:(s.heap.push (lsO #[] 0)).get? s.heap.objs.size=some (lsO #[] 0):=jH_ _ rfl
 refine callType_codes (Q₁:=fun obj s₁=>obj=.ref s.heap.objs.size/\s₁={s with heap:=s.heap.push (lsO #[] 0)}) F.called_list (F.typeCall_list_1 _) F.entry_list_init (code_list_new _ ⟨rfl,rfl⟩) fun obj s₁ h₁=>?_
 obtain⟨rfl,rfl⟩:=h₁
 have ll:∀b o,s.heap.get? b=some o->((s.heap.push (lsO #[] 0)).update s.heap.objs.size (Obj.mapSeq fun _ => #[])).get? b=some o:=fun b o q=>(qa_ _ _ (qL_ (js_ q))).trans (jo_ _ q)
 obtain⟨c2,i9⟩:∃c,((s.heap.push (lsO #[] 0)).update s.heap.objs.size (Obj.mapSeq fun _ => #[])).get? s.heap.objs.size=some (lsO #[] c):=⟨_,qU_ _ hS rfl⟩
 have hz:((s.heap.push (lsO #[] 0)).update s.heap.objs.size (Obj.mapSeq fun _ => #[])).objs.size=s.heap.objs.size+1:=by rw[Heap.size_after_update,qz_]
 refine⟨⟨_,hS,rfl⟩,F.args_list_init_2 _ _,?_⟩
 wp_walk using Gat.extend (A:=A.in1) (R:=wants (fun r bt=>r=.none/\Q (.ref s.heap.objs.size) bt) E) (c₀:=c2) G hh ll hz i9
 ·exact fun _ _ a b=>⟨a,b⟩
 exact fun h' tk ai c k1 k2 k3 k4=>⟨rfl,hQ h' tk ai c k1 k2 k3 k4⟩
end
end PySem
namespace L2
open PySem PySem.Spec PyProof.Rows
section
variable {te ta tb:TE} {A:TA} {D:Ends} {σ:St} {H:Hp} {Q:VK} {K:α3} {tbd ts:TS}
theorem Nj   : Pp x vs H Q=∃l b xs zs,x=.ref l/\vs=[.ref b]/\H l=some (.lst xs)/\H b=some (.lst zs)/\xs.length+zs.length<=sizeLine/\Q .non (upd H l (.lst (xs++zs))):=rfl
theorem Wr  : rCat x y H Q=∃l b xs zs,x=.ref l/\y=.ref b/\H l=some (.lst xs)/\H b=some (.lst zs)/\xs.length+zs.length<=sizeLine/\∀p,H p=none->Q (.ref p) (upd H p (.lst (xs++zs))):=rfl
theorem Ws  : rRep x y H Q=∃l k xs,x=.ref l/\y=.int k/\H l=some (.lst xs) /\ -(2 ^ 63)<=k/\k<2 ^ 63/\xs.length*k.toNat<=sizeLine/\∀p,H p=none->Q (.ref p) (upd H p (.lst (qU k.toNat xs).flatten)):=rfl
end
end L2
namespace L2
open PySem PySem.Spec PyProof.Rows
def iteB {c A B:Prop}[Decidable c](hB:B)(h:c->B->A):if c then A else B:=by
 by_cases hc:c
 ·rw[if_pos hc];exact h hc hB
 ·rw[if_neg hc];exact hB
def UT (x y:Int):eqV (.int x) (.int y)=decide (V.int x=V.int y):=by
 by_cases h:x=y
 ·subst h;simp[eqV]
 ·rw[j9_ (fun z=>h (by injection z))];simp[eqV,h]
def EqD.ints {K:α3}{H:Hp}{a c:Addr}{xs ys:α2}(hq:(SqL K H a (xs.map V.int)/\SqL K H c (ys.map V.int))\/(SqT K H a (xs.map V.int)/\SqT K H c (ys.map V.int)))(n:Nat):EqD K H (n+1) (.ref a) (.ref c) (decide (xs=ys)):=by
 have:=EqD.flat hq (fun x hx=>by obtain⟨_,_,rfl⟩:=CT hx;rfl) (fun x hx=>by obtain⟨_,_,rfl⟩:=CT hx;rfl) (fun x hx y hy=>by obtain⟨_,_,rfl⟩:=CT hx;obtain⟨_,_,rfl⟩:=CT hy;exact UT _ _) n
 have e:decide (xs.map V.int=ys.map V.int)=decide (xs=ys):=by
  rw[qy_]
  simp only[ql_]
  constructor
  ·intro h
   exact (zU_ (fun a b h=>by injection h)).mp h
  ·intro h;rw[h]
 rw[e]at this
 exact this
end L2
namespace L2
open PySem PySem.Spec PyProof.Rows
def iSeq (K:α3)(tl:TE):TI:=fun σ H R=>tl σ H fun x H1=>∃a,x=.ref a/\(((∃xs,SqL K H1 a xs)/\R (Itl K a) H1)\/((∃xs,SqT K H1 a xs)/\R (Itt K a) H1))
theorem Tu {K:α3}     : iSeq K te σ H Z=te σ H fun x H1=>∃a,x=.ref a/\(((∃xs,SqL K H1 a xs)/\Z (Itl K a) H1)\/((∃xs,SqT K H1 a xs)/\Z (Itt K a) H1)):=rfl
def Tv    (hl:PE X l tl):PI X tg l (iSeq X.K tl):=by
 intro af s σ H R I h
 refine thn (hl af s σ H _ I h) fun v s1 ⟨x,H1,I1,r1,q1⟩=>?_
 obtain⟨a,e,q⟩:=q1
 subst e
 cases r1
 rcases q with ⟨⟨xs,hq⟩,q⟩|⟨⟨xs,hq⟩,q⟩
 ·obtain⟨its,rv,p,hz⟩:=I1.list hq
  refine zr_ p.isList ?_
  refine⟨s1.heap.objs.size,[s1.heap.objs.size],_,_,H1,rfl,I1.kept (t':=s1.toks) fun b o e=>jo_ _ e,KR a _,⟨_,jH_ _ rfl,rfl,rfl⟩,fun b hb=>?_,q⟩
  have e:b=s1.heap.objs.size:=by simpa using hb
  subst e
  exact I1.fpOk (jg_ _) (I1.hok.fresh (jg_ _))
 ·obtain⟨its,rv,p,hz⟩:=I1.tuple hq
  refine xO_ (show s1.heap.IsTuple a its.toArray from p) ?_
  refine⟨s1.heap.objs.size,[s1.heap.objs.size],_,_,H1,rfl,I1.kept (t':=s1.toks) fun b o e=>jo_ _ e,Je a _,⟨_,jH_ _ rfl,rfl,rfl⟩,fun b hb=>?_,q⟩
  have e:b=s1.heap.objs.size:=by simpa using hb
  subst e
  exact I1.fpOk (jg_ _) (I1.hok.fresh (jg_ _))
end L2
namespace GW
def Lc  (hL:0<L)  (hx:isW L xs=true):0<=Au L xs:=by
 have:=(GL hL hx).1
 have:=Cf hL xs.length
 lia
def Qd  (hL:0<L):∀{xs ys:α2},isW L xs=true->isW L ys=true->Au L xs=Au L ys->xs=ys:=by
 have key:∀{l m:α2},(∀x∈l,0<=x/\x<L)->(∀x∈m,0<=x/\x<L)->AU L l=AU L m->l=m:=by
  intro l
  induction l with
  |nil=>
   intro m _ hm h
   cases m with
   |nil=>rfl
   |cons y s=>
    have hy:=hm y jn_
    have:=(CD hL (l:=s) fun z hz=>hm z (jl_ _ hz)).1
    have h0:=Cf hL s.length
    have hp:=x3_ (show 0<=AU L s by lia) (xr_ hL)
    have h':(0:Int)=AU L s*L+y+1:=h
    lia
  |cons x r ih=>
   intro m hl hm h
   have hx:=hl x jn_
   cases m with
   |nil=>
    have:=(CD hL (l:=r) fun z hz=>hl z (jl_ _ hz)).1
    have h0:=Cf hL r.length
    have hp:=x3_ (show 0<=AU L r by lia) (xr_ hL)
    have h':AU L r*L+x+1=(0:Int):=h
    lia
   |cons y s=>
    have hy:=hm y jn_
    have h':AU L r*L+x+1=AU L s*L+y+1:=h
    have e1:AU L r=AU L s:=by
     rcases Int.lt_trichotomy (AU L r) (AU L s) with au|he|au
     ·have:=j0_ (show AU L r+1<=AU L s by lia) (xr_ hL)
      rw[zL_]at this;lia
     ·exact he
     ·have:=j0_ (show AU L s+1<=AU L r by lia) (xr_ hL)
      rw[zL_]at this;lia
    rw[e1]at h'
    rw[ih (fun z hz=>hl z (jl_ _ hz)) (fun z hz=>hm z (jl_ _ hz)) e1,show x=y by lia]
 intro xs ys hx hy h
 have:=key (l:=xs.reverse) (m:=ys.reverse) (fun x h=>Ay.mp hx x (q3_.mp h)) (fun x h=>Ay.mp hy x (q3_.mp h)) h
 exact List.reverse_inj.mp this
end GW
namespace L2
open PySem PySem.Spec PyProof.Rows
def Tw  {K:α3}{T id:String}        (hK:X.K=K)(pa:PlainAttrs T)(slot:Slot T name id)(oJ:typeOf (.builtin id)=pure (.type "method_descriptor"))(hm:MtR X id r)(ho:PE X o to)(ha:PA X (e::es) t)
  (fU:attributeBase o name X.env (eval o X.env)=eval o X.env:=by rfl)
  (iq:((backTo aG (starEach (e::es) X.env)).all (fun x => !x.1)&&(backToKw aG (keywordEach [] X.env)).all (fun x=>x.1.isSome)
   && decide ((e::es).length+([]:List Keyword).length+(if ([]:List Keyword).isEmpty then 0 else 1)<30))=true:=by rfl)
  (fV:(bx.endLine==aG.line)=true:=by rfl) (hs:starEach (e::es) X.env=(false,eval e X.env)::starEach es X.env:=by rfl) (dM:(backTo aG (starEach es X.env)).any (·.1)=false:=by rfl):
  PE X (.Call (.Attribute o name bx) (e::es) [] aG) (tBM K T r to t):=by
 subst hK
 exact C5 pa slot oJ hm ho ha fU iq fV hs dM
section
variable {X:Cx} {K:α3}
def Bt (h:X.K=K):IxR X (rIxT K):=by subst h;exact Ao
def Bn (h:X.K=K):IxR X (rIxL K):=by subst h;exact AX
def JX (h:X.K=K):Cr X (.builtin "len") (fun xs H Q=>∃p ys,xs=[.ref p]/\(SqL K H p ys\/SqT K H p ys)/\Q (.int ys.length) H):=by subst h;exact Aj
def JY (h:X.K=K):Cr X (.type "list") (fun xs H Q=>∃p ys,xs=[.ref p]/\(SqL K H p ys\/SqT K H p ys)/\∀l,H l=none->Q (.ref l) (upd H l (.lst ys))):=by subst h;exact D9
end
end L2
namespace GW
def Bm (ae:α1)(r x:Int):Int:=(ae.getD r.toNat []).getD x.toNat 0
def AB (ae:α1)(ws:α2):Int:=ws.foldl (Bm ae) 0
def Jj (ae:α1)(ws:α2):α2:=(qV (ws.length+1)).map fun j=>AB ae (ws.take j)
structure Wf (L:Int)(aa:α2)(ae:α1):Prop where
 l1:1<=L
 l6:L<=6
 n1:1<=aa.length
 n40:aa.length<=40
 len:ae.length=aa.length
 rows:∀row∈ae,(row.length:Int)=L/\∀x∈row,0<=x/\x<aa.length
 mks:∀m∈aa,0<=m/\m<=1000000000
def BF     (h1:ae[r.toNat]?=some row)(h2:row[x.toNat]?=some g):Bm ae r x=g:=by
 unfold Bm
 have e:ae.getD r.toNat []=row:=by rw[jj_,h1];rfl
 rw[e,jj_,h2];rfl
def Wf.row {L:Int}{aa:α2}{ae:α1}(wf:Wf L aa ae){r:Int}(h0:0<=r)(h1:r<aa.length):∃row,ae[r.toNat]?=some row/\row∈ae/\(row.length:Int)=L:=by
 have au:r.toNat<ae.length:=by rw[wf.len];lia
 exact⟨ae[r.toNat],by simp[au],j3_ au,(wf.rows _ (j3_ au)).1⟩
def Wf.step {L:Int}{aa:α2}{ae:α1}(wf:Wf L aa ae){r x:Int}(h0:0<=r)(h1:r<aa.length)(x0:0<=x)(x1:x<L):∃row g,ae[r.toNat]?=some row/\row[x.toNat]?=some g/\Bm ae r x=g/\0<=g/\g<aa.length:=by
 obtain⟨row,hr,hm,hl⟩:=wf.row h0 h1
 have au:x.toNat<row.length:=by lia
 have hg:row[x.toNat]?=some row[x.toNat]:=by simp[au]
 exact⟨row,row[x.toNat],hr,hg,BF hr hg,(wf.rows row hm).2 _ (j3_ au)⟩
def BG (ae:α1)(ws:α2)(x:Int):AB ae (ws++[x])=Bm ae (AB ae ws) x:=by
 unfold AB
 rw[qu_];rfl
def Jk {ae:α1}{ws:α2}{i:Nat}{x:Int}(h:ws[i]?=some x):AB ae (ws.take (i+1))=Bm ae (AB ae (ws.take i)) x:=by
 rw[jQ_,h]
 exact BG _ _ _
def Wf.walk    (wf:Wf L aa ae)  (hw:isW L ws=true):∀i,0<=AB ae (ws.take i)/\AB ae (ws.take i)<aa.length:=by
 intro i
 induction i with
 |zero=>have:=wf.n1;simp[AB];lia
 |succ i ih=>
  cases e:ws[i]? with
  |none=>
   have aS:=xw_.mp e
   rw[jW_ s!""]
   rw[jW_ aS]at ih
   exact ih
  |some x=>
   rw[Jk e]
   have hx:=Ay.mp hw x (jc_ e)
   obtain⟨_,g,_,_,h,h0,h1⟩:=wf.step ih.1 ih.2 hx.1 hx.2
   rw[h];exact⟨h0,h1⟩
def JZ (ae:α1)(ws:α2):(Jj ae ws).length=ws.length+1:=by simp[Jj]
def Od    (h:i<=ws.length):(Jj ae ws)[i]?=some (AB ae (ws.take i)):=by
 unfold Jj
 rw[je_,qE_ s!""];rfl
def Me (ae:α1)(ws:α2):(Jj ae ws)[ws.length]?=some (AB ae ws):=by
 rw[Od (jg_ _),jP_]
end GW
namespace L2
open PySem PySem.Spec PyProof.Rows GW
def Rows (K:α3)(H:Hp)(w:Addr)(ae:α1):Prop:=∃ts:List Addr,SqT K H w (ts.map V.ref)/\ts.length=ae.length/\∀(i:Nat) (t:Addr) (row:α2),ts[i]?=some t->ae[i]?=some row->SqT K H t (row.map V.int)
def AZ (K:α3)(H:Hp)(h:Addr)(L:Int)(aa:α2)(ae:α1):Prop:=∃m w:Addr,SqT K H h [.int L,.ref m,.ref w]/\SqT K H m (aa.map V.int)/\Rows K H w ae
def Rows.mono {K:α3}    (h:Rows K H w ae)(e:Same H H'):Rows K H' w ae:=by
 obtain⟨ts,h1,h2,h3⟩:=h
 exact⟨ts,e.seqT h1,h2,fun i t r a b=>e.seqT (h3 i t r a b)⟩
def AZ.mono {K:α3}      (x:AZ K H h L aa ae)(e:Same H H'):AZ K H' h L aa ae:=by
 obtain⟨m,w,h1,h2,h3⟩:=x
 exact⟨m,w,e.seqT h1,e.seqT h2,h3.mono e⟩
def Rows.at {K:α3}{H:Hp}{w:Addr}{ae:α1}(h:Rows K H w ae){i:Nat}{row:α2}(hr:ae[i]?=some row):∃xs t,SqT K H w xs/\atI xs (i:Int)=some (V.ref t)/\SqT K H t (row.map V.int):=by
 obtain⟨ts,h1,h2,h3⟩:=h
 have au:i<ts.length:=by rw[h2];exact (jb_.mp hr).1
 have ht:ts[i]?=some ts[i]:=by simp[au]
 exact⟨_,ts[i],h1,D8 (by rw[je_,ht];rfl),h3 i _ _ ht hr⟩
def Rows.atZ {K:α3}    (h:Rows K H w ae)   (h0:0<=r)(hr:ae[r.toNat]?=some row):∃xs t,SqT K H w xs/\atI xs r=some (V.ref t)/\SqT K H t (row.map V.int):=by
 obtain⟨xs,t,a,b,c⟩:=h.at hr
 exact⟨xs,t,a,by rw[<-b];congr 1;lia,c⟩
def Qe    (h:xs[xs.length-1]?=some v):atI xs (-1)=some v:=by
 have au:=(jb_.mp h).1
 unfold atI ixN
 rw[if_neg s!"",if_pos s!""]
 show xs[(-1+(xs.length:Int)).toNat]?=some v
 rw[show (-1+(xs.length:Int)).toNat=xs.length-1 by lia]
 exact h
def A7 {ns:α2}{i:Int}{v:Int}(h0:0<=i)(h:ns[i.toNat]?=some v):atI (ns.map V.int) i=some (V.int v):=Cc h0 (by rw[je_,h];rfl)
def J3 {K:α3}    (hp:H p=some (.lst zs))(h:SqT K H t xs):SqT K (upd H p (.lst ys)) t xs:=by
 rcases h with (q|⟨o,q⟩)|q
 ·refine .inl (.inl ?_)
  rw[Ah (fun z=>by rw[z,hp]at q;cases q)];exact q
 ·refine .inl (.inr ⟨o,?_⟩)
  rw[Ah (fun z=>by rw[z,hp]at q;cases q)];exact q
 ·exact .inr q
def CB (K:α3)(H:Hp)(l:Addr)(ws:α1):Prop:=∃ts:List Addr,H l=some (.lst (ts.map V.ref))/\ts.length=ws.length/\∀(i:Nat) (t:Addr) (w:α2),ts[i]?=some t->ws[i]?=some w->SqT K H t (w.map V.int)
def CB.mono {K:α3}    (h:CB K H l ws)(e:Same H H'):CB K H' l ws:=by
 obtain⟨ts,h1,h2,h3⟩:=h
 exact⟨ts,e _ _ h1,h2,fun i t w a b=>e.seqT (h3 i t w a b)⟩
def CB.off {K:α3}     (h:CB K H l ws)(hp:H p=some (.lst zs))(ne:l≠p):CB K (upd H p (.lst ys)) l ws:=by
 obtain⟨ts,h1,h2,h3⟩:=h
 exact⟨ts,by rw[Ah ne];exact h1,h2,fun i t w a b=>J3 hp (h3 i t w a b)⟩
def CB.push {K:α3}     (h:CB K H l ws)(hw:SqT K H t (w.map V.int)):∃xs,H l=some (.lst xs)/\xs.length=ws.length/\CB K (upd H l (.lst (xs++[V.ref t]))) l (ws++[w]):=by
 obtain⟨ts,h1,h2,h3⟩:=h
 refine⟨ts.map V.ref,h1,by rw[ja_,h2],ts++[t],by rw[Ab,jS_];rfl,by simp[h2],fun i t' w' a b=>J3 h1 ?_⟩
 by_cases hi:i<ts.length
 ·rw[jd_ hi]at a
  rw[jd_ s!""]at b
  exact h3 i t' w' a b
 ·have ht:=(jb_.mp a).1
  rw[jk_,jR_]at ht
  have e:i=ts.length:=by lia
  subst e
  rw[jm_ (jg_ _),qb_]at a
  rw[jm_ s!"",h2,qb_]at b
  simp at a b
  subst a b
  exact hw
def CB.nil {K:α3}   (h:H l=some (.lst [])):CB K H l []:=⟨[],h,rfl,fun i t w a _=>by simp at a⟩
def CB.rows {K:α3}    (h:CB K H l ws):∃xs,H l=some (.lst xs)/\∀t,H t=none->Rows K (upd H t (.tup xs)) t ws:=by
 obtain⟨ts,h1,h2,h3⟩:=h
 exact⟨_,h1,fun t ht=>⟨ts,SqT.of Ab,h2,fun i t' w a b=>(Same.new ht).seqT (h3 i t' w a b)⟩⟩
end L2
namespace PySem
open Sem (wp)
open AutoSeq1 (wpAny_loadPart')
section
variable {prog:Program} {w:World} {A:Around} {E:Value->Shared->Prop} {s:Shared}
def newT   (hl:l.length<=sizeLine)(h:∀h',s.heap.push {cls:=.type "tuple",data:=.seq l.toArray}=h'->Q (.ref s.heap.objs.size) {s with heap:=h' }):wpAny (model prog w) A (newTuple l) Q E s:=wpAny_newTuple (h _ rfl)
def psh {h h':Heap}{o:Obj}(q:h.push o=h')(ho:o.isFreed=false):(∀c u,h.get? c=some u->h'.get? c=some u)/\h'.get? h.objs.size=some o/\h'.objs.size=h.objs.size+1:=by
 subst q
 exact⟨fun c u x=>jo_ _ x,jH_ _ ho,qz_ ..⟩
def Gd {it l:Addr}    (bg:s.heap.IsTupleIter it l i)(hl:s.heap.IsTuple l items)
  (hQ:∀x h',items[i]?=some x->h'.IsTupleIter it l (i+1)->Heap.SameBut it s.heap h'->Q x {s with heap:=h' })
  (hE:items[i]?=none->A.handled=none/\∀h' e,Heap.ExtBut it s.heap h'->(∃o,h'.get? e=some o/\o.cls=.type "StopIteration")->E (.ref e) {s with heap:=h' }):wpAny (model prog w) A (Builtin.SmallTypes.nextOf (.ref it)) Q E s:=by
 obtain⟨⟨c,dc,da,sl⟩,ho,hc,hd⟩:=id bg
 obtain⟨⟨c',dc',da',sl'⟩,nF,fH,nl,oZ⟩:=hl
 replace hc:c=_:=hc;replace hd:da=_:=hd;replace fH:c'=_:=fH;replace oZ:da'=_:=oZ
 subst hc hd fH oZ
 have e1:=F.slot_tuple_iterator_next
 unfold Builtin.SmallTypes.nextOf
 refine jf_ (qJ_ bg.typeIs e1 (xn_ e1 bg.typeIs F.entry_tuple_iterator_next ?_ (F.args_tuple_iterator_next_1 _)))
 wp_walk
 cases hx:items[i]? with
 |some x=>
  simp only[ji_,hx]
  wp_walk
  exact⟨x,rfl,ju_ (hQ x _ hx ⟨_,qU_ _ ho (by simp[Obj.mapFields,Obj.isFreed]),rfl,by simp[Obj.mapFields,rawInt]⟩ (za_ ..))⟩
 |none=>
  obtain⟨hh,hE⟩:=hE hx
  have h1:A.in1.handled=none:=hh
  simp only[ji_,hx]
  wp_walk
  unfold raiseNew
  wp_walk
  exact hE _ _ (((za_ ..).extBut.push _).push _) ⟨_,jH_ _ rfl,rfl⟩
def Draws.tuple (hh:A.handled=none)(it l:Addr)(ay:l≠it)(items:Array Value):
  Draws prog w A it [it,l] items.size (fun i v=>items[i]?=some v) (fun i h=>h.IsTupleIter it l i/\h.IsTuple l items) where
 live:=fun _ _ st=>let ⟨o,e,_⟩:=st.1;⟨o,e⟩
 frame:=fun _ _ _ st k=>⟨st.1.at fun o e=>k it (by simp) o e,let ⟨o,e,r⟩:=st.2;⟨o,k l (by simp) o e,r⟩⟩
 item:=fun i t Q E hi st q=>Gd st.1 st.2 (fun x h' e1 e2 e3=>q x h' t.toks e1 ⟨e2,st.2.extBut e3.extBut ay⟩ e3) fun z=>by rw[rE]at z;lia
 done:=fun t Q E st q=>Gd st.1 st.2 (fun x h' e1=>by have:=(q4_.mp e1).1;lia) fun _=>⟨hh,q⟩
def EU    (hL:s.heap.IsTuple l items)
  (h:∀h',IsEnum h' (s.heap.objs.size+1) s.heap.objs.size 0 .none->h'.IsTupleIter s.heap.objs.size l 0->h'.objs.size=s.heap.objs.size+2->(∀b o,s.heap.get? b=some o->h'.get? b=some o)->Q (.ref (s.heap.objs.size+1)) {s with heap:=h' }):
  wpAny (model prog w) A (call (.type "enumerate") [.ref l]) Q E s:=by
 have M:Meets (Builtin.«enumerate.__new__» ⟨[.type "enumerate",.ref l],[]⟩) fun _ R t=>t.heap.IsTuple l items/\∀h',IsEnum h' (t.heap.objs.size+1) t.heap.objs.size 0 .none->h'.IsTupleIter t.heap.objs.size l 0->h'.objs.size=t.heap.objs.size+2->(∀b o,t.heap.get? b=some o->h'.get? b=some o)->R (.ok (.ret (.ref (t.heap.objs.size+1)))) {t with heap:=h' }:=.of_wp fun prog w A R t ⟨hl,q⟩=>by
  have cQ:=sub_enumerate
  obtain⟨hp,g,d,tk,os⟩:=t
  obtain⟨⟨c,dc,da,sl⟩,e1,hc,n,hd⟩:=id hl
  have fin:∀f,f=Fin.done (.ret (.ref (hp.push {cls:=.type "tuple_iterator",data:=.fields #[.ref l,.int 0 0]}).objs.size))->∃x,f=.done (.ret x)/\R (.ok (.ret x)) ⟨(hp.push {cls:=.type "tuple_iterator",data:=.fields #[.ref l,.int 0 0]}).push {cls:=.type "enumerate",data:=.fields #[.none,.bool false,.ref hp.objs.size,rawInt 0,.none,.none]},g,d,tk,os⟩:=fun f hf=>by
   have z:=qz_ hp {cls:=.type "tuple_iterator",data:=.fields #[.ref l,.int 0 0]}
   rw[z]at hf
   have y:=jH_ (hp.push {cls:=.type "tuple_iterator",data:=.fields #[.ref l,.int 0 0]}) (o:={cls:=.type "enumerate",data:=.fields #[.none,.bool false,.ref hp.objs.size,rawInt 0,.none,.none]}) rfl
   rw[z]at y
   exact⟨_,hf,q _ y ⟨_,jo_ _ (jH_ _ rfl),rfl,rfl⟩ (by rw[qz_,z]) fun b o x=>jo_ _ (jo_ _ x)⟩
  wp_walk using zd_ e1
  refine wpAny_stack_any fun st=>ju_ ?_
  split
  ·rename_i c _ _ _ _ _
   cases (c==Value.type "enumerate")<;>(wp_walk using zd_ e1,xO_ hl;exact fin _ rfl)
  ·wp_walk using zd_ e1,xO_ hl
   exact fin _ rfl
 exact callType_new F.called_enumerate (by decide) (F.typeCall_enumerate_1 _) (F.newCall_enumerate_1 _) (fun obj=>F.args_object_init_2 obj _) F.entry_enumerate_new M ⟨hL,fun h' a b c d=>⟨⟨_,a,rfl⟩,h h' a b c d⟩⟩
end
end PySem
namespace L2
open PySem PySem.Spec PyProof.Rows
section
variable {X:Cx} {af:α7} {σ:St} {H:Hp} {s:Shared}
def Inv.un2  {e it:Addr}(I:Inv X af σ H s)(k:∀b o,b≠e->b≠it->s.heap.get? b=some o->h'.get? b=some o)(f1:FpOk X af H e)(f2:FpOk X af H it):Un (frs X.stack) [e,it] H H s.heap h'/\HOk X.prog X.w H h':=by
 have ne:∀b u,H b=some u->b≠e/\b≠it:=fun b u q=>⟨(fun z=>by rw[z,f1.1]at q;cases q),(fun z=>by rw[z,f2.1]at q;cases q)⟩
 have fG:∀{b:Addr},b ∉ [e,it]->b≠e/\b≠it:=fun hb=>by simpa using hb
 refine⟨⟨fun b o q _ _ hb=>k b o (fG hb).1 (fG hb).2 q,fun b o q _ _ hb=>⟨o.slots,k b o (fG hb).1 (fG hb).2 q⟩,fun _ _ _ n _=>n,fun b o q hb=>⟨o,k b o (fG hb).1 (fG hb).2 q⟩,fun _ _ q=>q,fun _ _ _ q=>q,fun b ps q=>⟨#[],by rw[q];simp⟩⟩,fun b u q=>?_⟩
 refine (I.hok b u q).stay (fun c v hc qv=>?_) (fun _ q=>q) fun _ _ q=>q
 have ay:c≠e/\c≠it:=by
  rcases hc with rfl|hc
  ·exact ne _ _ q
  ·exact ne _ _ hc
 exact k c v ay.1 ay.2 qv
def FpOk.ch  (f:FpOk X af H b):(b∈X.ex\/X.s₀.heap.objs.size<=b)/\b≠X.env.locals/\(∀x c,X.env.cells.lookup x=some c->c≠b)/\∀p∈X.pn++af,p.1≠b:=⟨f.2.2.2.1,f.2.1,f.2.2.2.2.1,f.2.2.2.2.2⟩
end
def Itn (K:α3)(a:Addr)(xs:List V):It:=⟨fun i H=>i<xs.length/\SqT K H a xs,fun i H x H'=>∃t v,H t=none/\xs[i]?=some v/\x=.ref t/\H'=upd H t (.tup [.int i,v]),fun i H=>i=xs.length/\SqT K H a xs⟩
def Oe {P:Program}{w:World}{K:α3}{gc:List Expr}{x1}{eV:Pos}(a e it:Addr)(gT:e≠it)(mv:a≠it)(hae:a≠e)(xs:List V):Turn P w K (.Tuple gc x1 eV) (Itn K a xs) [e,it] e (fun i h=>∃old,IsEnum h e it (i:Nat) old/\h.IsTupleIter it a i) where
 mem:=by simp
 obj:=fun i h st b hb=>by
  obtain⟨old,h1,o,h2,c,d⟩:=st
  rcases jB_.mp hb with rfl|hb
  ·exact⟨_,h1,fun v z=>by cases z⟩
  ·rw[jq_.mp hb]
   exact⟨o,h2,fun v z=>by rw[d]at z;cases z⟩
 keep:=fun i h h' st k=>by
  obtain⟨old,h1,h2⟩:=st
  exact⟨old,k e (by simp) _ h1,h2.at fun o q=>k it (by simp) o q⟩
 item:=by
  intro X hP hw hK hc i af s σ H E I hf st hg
  subst hP hw hK
  obtain⟨hi,hq⟩:=hg
  obtain⟨old,he,bg⟩:=st
  obtain⟨its,rv,p,hz⟩:=I.tuple hq
  have hl:=rv.length
  have pt:s.heap.IsTuple a its.toArray:=p
  have f1:=hf e (by simp)
  have f2:=hf it (by simp)
  have Dw:=Draws.tuple (prog:=X.prog) (w:=X.w) (A:=X.A.in1) (I.ok.hd hc) it a mv its.toArray
  refine wpAny_pyNext_enum_itemD Dw he ⟨bg,pt⟩ (by simp;lia) gT (by simp[gT,qn_ hae]) fun u h' tk hu i5 hst' hget hsz hk=>?_
  have hT:s.heap.objs.size≠e:=qL_ (js_ he)
  refine⟨_,rfl,wpAny_letOwnedTupleGo_enum i5 fun h2 pj cR=>?_⟩
  have eY:∀b o,b≠e->b≠it->s.heap.get? b=some o->h2.get? b=some o:=fun b o h1 h3 q=>(cR.2 b h1).trans (hk b o h1 h3 q)
  obtain⟨un,hok⟩:=I.un2 eY f1 f2
  have hn:H s.heap.objs.size=none:=I.hok.fresh (jg_ _)
  have hv:xs[i]?=some xs[i]:=by simp[hi]
  obtain⟨u',ja,ru⟩:=rv.get hv
  have eu:u'=u:=by
   have hu2:its[i]?=some u:=by simpa using hu
   rw[ja]at hu2
   exact jr_ hu2
  subst eu
  have hget2:h2.get? s.heap.objs.size=some {cls:=.type "tuple",data:=.seq #[.int i tk,u']}:=(cR.2 _ hT).trans hget
  have new:Bo X.prog X.w (upd H s.heap.objs.size (.tup [.int i,xs[i]])) h2 s.heap.objs.size (.tup [.int i,xs[i]]):=⟨by have:=Ar;simp;lia,[.int i tk,u'],.cons ⟨tk,rfl⟩ (.cons ru .nil),_,hget2,rfl,_,rfl⟩
  refine⟨.ref s.heap.objs.size,upd H s.heap.objs.size (.tup [.int i,xs[i]]),I.call' (s':={s with heap:=h2,toks:=tk+1}) (ch:=[e,it]) rfl (un.track (jg_ _) hn) (hok.track hn new) I.bare (fun b hb=>?_),rfl,⟨_,_,hn,hv,rfl,rfl⟩,?_,fun b hb=>?_⟩
  ·exact (hf b hb).ch
  ·refine⟨u',by simpa using pj,?_⟩
   exact hst'.1.at fun o q=>(cR.2 it (qn_ gT)).trans q
  ·have ig:=hf b hb
   have:∃o,s.heap.get? b=some o:=by
    rcases jB_.mp hb with rfl|hb
    ·exact⟨_,he⟩
    ·rw[jq_.mp hb]
     obtain⟨o,ho,_⟩:=bg
     exact⟨o,ho⟩
   obtain⟨o,ho⟩:=this
   rw[Ah (jL_ (js_ ho))]
   exact ig.1
 done:=by
  intro X hP hw hK hc i af s σ H E I hf st hg
  subst hP hw hK
  obtain⟨hi,hq⟩:=hg
  subst hi
  obtain⟨old,he,bg⟩:=st
  obtain⟨its,rv,p,hz⟩:=I.tuple hq
  have hl:=rv.length
  have pt:s.heap.IsTuple a its.toArray:=p
  have Dw:=Draws.tuple (prog:=X.prog) (w:=X.w) (A:=X.A.in1) (I.ok.hd hc) it a mv its.toArray
  obtain⟨f0,f1,f2,f3,f4,f5⟩:=hf it (by simp)
  refine wpAny_pyNext_enum_endD Dw he ⟨by rw[jp_,<-hl];exact bg,pt⟩ fun h' eb=>⟨rfl,I.turned (t':=s.toks) (fun b o hb e=>eb b o hb e) f0 f1 f3 f4 f5⟩
 self:=fun A i s Q E st h=>by
  obtain⟨old,he,_⟩:=st
  exact wpAny_pyIter_enum he h
def Tx (K:α3)(tl:TE):TI:=fun σ H R=>tl σ H fun x H1=>∃a xs,x=.ref a/\SqT K H1 a xs/\R (Itn K a xs) H1
theorem Nk {K:α3}     : Tx K te σ H Z=te σ H fun x H1=>∃a xs,x=.ref a/\SqT K H1 a xs/\Z (Itn K a xs) H1:=rfl
theorem Tz {K:α3}       : gTup K n t v σ H N=∃a xs,v=.ref a/\SqT K H a xs/\xs.length=n/\t xs σ H N:=rfl
theorem Qf       : VH t u vs σ H N=∃v r,vs=v::r/\t v σ H fun ag H'=>u r ag H' N:=rfl
theorem TB     : gNil vs σ H N=(vs=[]/\N σ H):=rfl
def R5   {x1}     (hg:Gl X "enumerate")(hm:X.mg "enumerate"=none)(he:PE X e te)(hs:starEach [e] X.env=[(false,eval e X.env)]:=by rfl):PI X (.Tuple gc x1 eV) (.Call (.Name "enumerate" p) [e] [] pos) (Tx X.K te):=by
 intro af s σ H R I h
 refine Call_ (D6 I hg hm boot_enumerate (qf_ (thn (Aa he Ad hs pos af s σ H (fun vs H1=>∃a xs,vs=[.ref a]/\SqT X.K H1 a xs/\R (Itn X.K a xs) H1) I ?_) fun us s1 ⟨vs,H1,I1,r1,q1⟩=>?_) hs rfl))
 ·show te σ H _
  have:(fun x H1=>∃a xs,x=V.ref a/\SqT X.K H1 a xs/\R (Itn X.K a xs) H1)=(fun x H1=>tNil σ H1 fun xs H2=>∃a ys,x::xs=[V.ref a]/\SqT X.K H2 a ys/\R (Itn X.K a ys) H2):=by
   funext x H1
   simp[tNil]
  rw[<-this]
  exact h
 ·obtain⟨a,xs,rfl,hq,q⟩:=q1
  cases r1 with
  |cons r rr=>
   cases rr
   cases r
   obtain⟨its,rv,p,hz⟩:=I1.tuple hq
   have pt:s1.heap.IsTuple a its.toArray:=p
   obtain⟨oa,hoa,_⟩:=id pt
   have ha:=js_ hoa
   refine EU pt fun h' dN fb hsz hk=>?_
   refine wpAny_pyIter_enum (s:={s1 with heap:=h' }) dN ?_
   have I2:Inv X af σ H1 {s1 with heap:=h' }:=I1.kept (t':=s1.toks) hk
   refine⟨s1.heap.objs.size+1,[s1.heap.objs.size+1,s1.heap.objs.size],_,_,H1,rfl,I2,Oe a (s1.heap.objs.size+1) s1.heap.objs.size (Nat.succ_ne_self _) (jL_ ha) (jL_ (xi_ ha)) xs,⟨_,dN,fb⟩,fun b hb=>?_,q⟩
   have aS:s1.heap.objs.size<=b:=by
    rcases jB_.mp hb with rfl|hb
    ·lia
    ·rw[jq_.mp hb];exact jg_ _
   exact I1.fpOk aS (I1.hok.fresh aS)
def forN {K:α3}        (Pv:Nat->St->Hp->Prop)(h0:Pv 0 σ H)(hl:∀i σ H,i<=xs.length->Pv i σ H->SqT K H a xs)
  (hs:∀i v σ H t,xs[i]?=some v->Pv i σ H->H t=none->g (.ref t) σ (upd H t (.tup [.int i,v])) fun aj H2=>tb {D with nx:=Pv (i+1),ct:=Pv (i+1),bk:=D.nx} aj H2) (hd:∀σ H,Pv xs.length σ H->D.nx σ H):ForW (Itn K a xs) g tb D σ H:=by
 refine⟨fun i m σ H=>m=xs.length-i/\i<=xs.length/\Pv i σ H,⟨xs.length,by simp,jX_ _,h0⟩,?_⟩
 rintro i m σ H ⟨rfl,hi,p⟩
 by_cases au:i<xs.length
 ·refine .inr ⟨⟨au,hl i σ H hi p⟩,Pv (i+1),fun ag H' p'=>⟨xs.length-(i+1),by lia,rfl,au,p'⟩,fun x H' y=>?_⟩
  obtain⟨t,v,hn,hv,rfl,rfl⟩:=y
  exact hs i v σ H t hv p hn
 ·have e:i=xs.length:=by lia
  subst e
  exact .inl ⟨⟨rfl,hl _ σ H hi p⟩,hd σ H p⟩
section
variable {td ty tv tx:TE} {D:Ends} {σ:St} {H:Hp} {Q:VK}
theorem TC:V0 td ty σ H Q=td σ H fun x H1=>ty σ H1 fun y H2=>∃a v,x=.ref a/\DGet H2 a y (some v)/\Q v H2:=rfl
theorem Nl:PL ty td σ H Q=ty σ H fun y H1=>td σ H1 fun x H2=>∃a o,x=.ref a/\DGet H2 a y o/\Q (.bl (!o.isSome)) H2:=rfl
theorem TF:V1 td ty tv D σ H=tv σ H fun v H1=>td σ H1 fun x H2=>ty σ H2 fun y H3=>∃a H4,x=.ref a/\DPut H3 a y v H4/\D.nx σ H4:=rfl
theorem Qg:PR td ty σ H Q=td σ H fun x H1=>∃a,x=.ref a/\IsD H1 a/\ty σ H1 fun y H2=>∃o,DGet H2 a y o/\Q (o.getD .non) H2:=rfl
theorem TH  : UN aE σ H Q=∀p,H p=none->HN aE σ (upd H p (.dK [])) fun ps H2=>H2 p=some (.dK [])/\∃kvs:List (Key×V),ps=kvs.map (fun kv=>(kV kv.1,kv.2))/\kvs.length<=15/\Q (.ref p) (upd H2 p (.dK (GJ [] kvs))):=rfl
theorem Nm  : HN [] σ H R=R [] H:=rfl
theorem Nn   : HN ((td,tv)::r) σ H R=td σ H fun x H1=>tv σ H1 fun y H2=>HN r σ H2 fun ps H3=>R ((x,y)::ps) H3:=rfl
end
end L2
namespace GW
def CU (w:α2):List (Int×α2)->Nat->α2->List (Int×α2)
 |ents,_,[]=>ents
 |ents,x,g::r=>CU w (if g∈ents.map (·.1) then ents else ents++[(g,w++[(x:Int)])]) (x+1) r
def bfs (ae:α1):Nat->List (Int×α2)->Nat->List (Int×α2)
 |0,ents,_=>ents
 |f+1,ents,i=>match ents[i]? with
  |none=>ents
  |some e=>bfs ae f (CU e.2 ents 0 (ae.getD e.1.toNat [])) (i+1)
def Aw (ae:α1):List (Int×α2):=bfs ae (ae.length+1) [(0,[])] 0
def J4 {ae:α1}{ents:List (Int×α2)}{i:Nat}(h:ents[i]?=none):∀f,bfs ae f ents i=ents
 |0=>rfl
 |f+1=>by rw[bfs,h]
def J5  {ents:List (Int×α2)}   (h:ents[i]?=some e)(f:Nat):bfs ae (f+1) ents i=bfs ae f (CU e.2 ents 0 (ae.getD e.1.toNat [])) (i+1):=by rw[bfs,h]
def FE:∀(n:Nat) {l:α2},l.Nodup->(∀x∈l,0<=x/\x<(n:Int))->l.length<=n
 |0,l,_,h=>by
  cases l with
  |nil=>simp
  |cons x r=>have:=h x jn_;lia
 |n+1,l,hn,h=>by
  by_cases hm:(n:Int)∈l
  ·have e:=qV_ hm
   have:=FE n (l:=l.erase (n:Int)) (hn.erase _) (fun x hx=>by
    have h1:=(hn.mem_erase_iff).mp hx
    have h2:=h x h1.2
    have h3:=h1.1
    lia)
   lia
  ·have:=FE n hn (fun x hx=>by
    have h2:=h x hx
    have:x≠n:=fun z=>hm (z ▸ hx)
    lia)
   lia
structure Bfs (L:Int)(n:Nat)(ae:α1)(ents:List (Int×α2))(i:Nat)(top:Int):Prop where
 hd:ents[0]?=some (0,[])
 il:i<=ents.length
 sh:∀(j:Nat) (e:Int×α2),ents[j]?=some e->e.2.length<=j
 nod:(ents.map (·.1)).Nodup
 rng:∀e∈ents,0<=e.1/\e.1<(n:Int)
 wd:∀e∈ents,isW L e.2=true/\AB ae e.2=e.1
 inc:∀(j k:Nat) (a b:Int×α2),j<k->ents[j]?=some a->ents[k]?=some b->Au L a.2<Au L b.2
 bnd:∀e∈ents,Au L e.2<top
 don:∀j,j<i->∀e,ents[j]?=some e->∀x:Int,0<=x->x<L->∃e'∈ents,e'.1=Bm ae e.1 x/\Au L e'.2<=Au L (e.2++[x])
def Bfs.len    {ents:List (Int×α2)}   (h:Bfs L n ae ents i top):ents.length<=n:=by
 have:=FE n h.nod (fun x hx=>by
  obtain⟨e,he,rfl⟩:=jt_.mp hx
  exact h.rng e he)
 simpa using this
def Bfs.start (L:Int)  (hn:1<=n)(ae:α1):Bfs L n ae [(0,[])] 0 1:=by
 refine⟨rfl,by simp,(fun j e he=>by cases j with|zero=>(simp at he;subst he;simp)|succ j=>simp at he),by simp,fun e he=>?_,fun e he=>?_,fun j k a b h h1 h2=>?_,fun e he=>?_,fun j hj=>absurd hj (qP_ _)⟩
 ·simp at he;subst he;simp;lia
 ·simp at he;subst he;exact⟨rfl,rfl⟩
 ·have:=(jb_.mp h2).1;simp at this;lia
 ·simp at he;subst he;simp[Au,AU]
def Bfs.add  (hL:0<L)   {ents:List (Int×α2)}   (h:Bfs L n ae ents i top)   (hw:(r,w)∈ents)(hx:0<=x/\x<L)(ht:top<=Au L w*L+x+1)
  (hg:g=Bm ae r x) (bM:0<=g/\g<(n:Int)) (dq:g∉ents.map (·.1)):Bfs L n ae (ents++[(g,w++[x])]) i (Au L w*L+x+2):=by
 obtain⟨v1,v2⟩:=h.wd _ hw
 have hp:=CI L w x
 have ak:0<ents.length:=by have:=(jb_.mp h.hd).1;lia
 refine⟨?_,by have:=h.il;simp;lia,fun j e he=>?_,?_,fun e he=>?_,fun e he=>?_,fun j k a b gU h1 h2=>?_,fun e he=>?_,fun j hj e he y gd fe=>?_⟩
 ·rw[jd_ ak];exact h.hd
 ·have hj:=(jb_.mp he).1
  rw[jk_,jR_]at hj
  by_cases cx:j<ents.length
  ·rw[jd_ cx]at he
   exact h.sh j e he
  ·have e1:j=ents.length:=by lia
   subst e1
   rw[jm_ (jg_ _),qb_]at he
   simp at he
   subst he
   obtain⟨j',ck,ej⟩:=jO_ hw
   have:=h.sh j' (r,w) (by rw[jh_ ck,ej])
   have this':w.length<=j':=this
   show (w++[x]).length<=ents.length
   simp;lia
 ·rw[jS_,xX_]
  refine⟨h.nod,by simp,fun a ha b hb=>?_⟩
  simp at hb
  subst hb
  exact fun z=>dq (z ▸ ha)
 ·rcases jw_.mp he with he|he
  ·exact h.rng e he
  ·rw[jq_.mp he];exact bM
 ·rcases jw_.mp he with he|he
  ·exact h.wd e he
  ·rw[jq_.mp he]
   refine⟨?_,?_⟩
   ·rw[Ay]at v1 ⊢
    intro z hz
    rcases jw_.mp hz with hz|hz
    ·exact v1 z hz
    ·rw[jq_.mp hz];exact hx
   ·show AB ae (w++[x])=g
    rw[BG]
    have pq:AB ae w=r:=v2
    rw[pq,hg]
 ·have hk:=(jb_.mp h2).1
  rw[jk_,jR_]at hk
  by_cases gf:k<ents.length
  ·rw[jd_ gf]at h2
   rw[jd_ s!""]at h1
   exact h.inc j k a b gU h1 h2
  ·have pA:k=ents.length:=by lia
   subst pA
   rw[jd_ s!""]at h1
   rw[jm_ (jg_ _),qb_]at h2
   simp at h2
   subst h2
   have:=h.bnd a (jc_ h1)
   show Au L a.2<Au L (w++[x])
   rw[hp];lia
 ·rcases jw_.mp he with he|he
  ·have:=h.bnd e he;lia
  ·rw[jq_.mp he]
   show Au L (w++[x])<_
   rw[hp];lia
 ·have cx:j<ents.length\/j=ents.length:=by
   have:=(jb_.mp he).1
   rw[jk_,jR_]at this
   lia
  rcases cx with cx|cx
  ·rw[jd_ cx]at he
   obtain⟨e',m,q⟩:=h.don j hj e he y gd fe
   exact⟨e',j2_ _ m,q⟩
  ·exact absurd cx (by have:=h.il;lia)
def Bfs.up    {ents:List (Int×α2)}   (h:Bfs L n ae ents i top)(ht:top<=dO):Bfs L n ae ents i dO :=
 ⟨h.hd,h.il,h.sh,h.nod,h.rng,h.wd,h.inc,fun e he=>zT_ (h.bnd e he) ht,h.don⟩
def Seen (L:Int)(ae:α1)(ents:List (Int×α2))(r:Int)(w:α2)(x:Nat):Prop:=∀y:Int,0<=y->y<x->∃e'∈ents,e'.1=Bm ae r y/\Au L e'.2<=Au L (w++[y])
def Bfs.letter {L:Int}(hL:0<L){n:Nat}{ae:α1}{ents:List (Int×α2)}{i x:Nat}{w:α2}{r g:Int}(h:Bfs L n ae ents i (Au L w*L+x+1))(hs:Seen L ae ents r w x)(hw:(r,w)∈ents)(hx:(x:Int)<L)
  (hg:g=Bm ae r x) (bM:0<=g/\g<(n:Int)):Bfs L n ae (if g∈ents.map (·.1) then ents else ents++[(g,w++[(x:Int)])]) i (Au L w*L+((x+1:Nat):Int)+1)/\Seen L ae (if g∈ents.map (·.1) then ents else ents++[(g,w++[(x:Int)])]) r w (x+1):=by
 by_cases hm:g∈ents.map (·.1)
 ·rw[if_pos hm]
  refine⟨h.up (by push_cast;lia),fun y gd fe=>?_⟩
  by_cases ik:y<x
  ·exact hs y gd ik
  ·have e:y=x:=by push_cast at fe;lia
   subst e
   obtain⟨e',dN,e1⟩:=jt_.mp hm
   refine⟨e',dN,by rw[<-hg];exact e1,?_⟩
   have:=h.bnd e' dN
   rw[CI];lia
 ·rw[if_neg hm]
  refine⟨(h.add hL hw ⟨by lia,hx⟩ (xS_ _) hg bM hm).up (by push_cast;lia),fun y gd fe=>?_⟩
  by_cases ik:y<x
  ·obtain⟨e',m,q⟩:=hs y gd ik
   exact⟨e',j2_ _ m,q⟩
  ·have e:y=x:=by push_cast at fe;lia
   subst e
   exact⟨_,jy_ _ jn_,hg,xS_ _⟩
def Bfs.next {L:Int}(hL:0<L){n i m:Nat}{ae:α1}{ents:List (Int×α2)}{w:α2}{r:Int}(h:Bfs L n ae ents i (Au L w*L+m+1))(hm:(m:Int)=L)(hs:Seen L ae ents r w m)(hw:ents[i]?=some (r,w)):
  Bfs L n ae ents (i+1) (Au L w*L+L+1)/\∀e,ents[i+1]?=some e->Au L w*L+L+1<=Au L e.2*L+1:=by
 have hi:=(jb_.mp hw).1
 rw[hm]at h
 refine⟨⟨h.hd,hi,h.sh,h.nod,h.rng,h.wd,h.inc,h.bnd,fun j hj e he x h0 h1=>?_⟩,fun e he=>?_⟩
 ·by_cases iw:j<i
  ·exact h.don j iw e he x h0 h1
  ·have e1:j=i:=by lia
   subst e1
   rw[hw]at he
   cases he
   exact hs x h0 s!""
 ·have:=h.inc i (i+1) _ _ (x6_ _) hw he
  have h2:=j0_ (show Au L w+1<=Au L e.2 from this) (xr_ hL)
  rw[zL_]at h2
  lia
def Ge (w:α2)(ents:List (Int×α2))(x:Nat):CU w ents x []=ents:=rfl
def Fj (w:α2)(ents:List (Int×α2))(x:Nat)(g:Int)(r:α2):CU w ents x (g::r)=CU w (if g∈ents.map (·.1) then ents else ents++[(g,w++[(x:Int)])]) (x+1) r:=rfl
def Fl {ents:List (Int×α2)}{g:Int}{v:α2}{i:Nat}{e:Int×α2}(h:ents[i]?=some e):(if g∈ents.map (·.1) then ents else ents++[(g,v)])[i]?=some e:=by
 split
 ·exact h
 ·rw[jd_ (jb_.mp h).1];exact h
end GW
namespace L2
open PySem PySem.Spec PyProof.Rows
def ups (n:Nat):α2:=(qV n).map fun i:Nat=>(i:Int)
def Np (te:TE):TE:=fun σ H Q=>te σ H fun x H1=>∃j:Int,x=.int j/\0<=j/\j<=100000/\∀p,H1 p=none->Q (.ref p) (upd H1 p (.lst ((ups j.toNat).map V.int)))
theorem Ld     : Np te σ H Q=te σ H fun x H1=>∃j:Int,x=.int j/\0<=j/\j<=100000/\∀p,H1 p=none->Q (.ref p) (upd H1 p (.lst ((ups j.toNat).map V.int))):=rfl
def Qh   (h:ItemsOf (fun i v=>∃t,v=.int ((0:Int)+(i:Nat)*1) t) ai n):Vals ((ups n).map V.int) ai.toList:=by
 have hs:=h.1
 have key:∀(l:List Value) (k:Nat),(∀i v,l[i]?=some v->∃t,v=Value.int ((k+i:Nat):Int) t)->Vals (((qV l.length).map fun i=>((k+i:Nat):Int)).map V.int) l:=by
  intro l
  induction l with
  |nil=>intro k _;exact .nil
  |cons u r ih=>
   intro k hk
   rw[jT_,List.range_succ_eq_map,jZ_,jZ_]
   refine .cons ?_ ?_
   ·obtain⟨t,e⟩:=hk 0 u (by simp)
    exact⟨t,by simpa using e⟩
   ·have:=ih (k+1) (fun i v hv=>by
     obtain⟨t,e⟩:=hk (i+1) v (by simpa using hv)
     exact⟨t,by rw[e];congr 1;push_cast;lia⟩)
    have e:((List.map Nat.succ (qV r.length)).map fun i=>((k+i:Nat):Int))=((qV r.length).map fun i=>((k+1+i:Nat):Int)):=by
     rw[jU_]
     apply qr_
     intro i _
     show ((k+(i+1):Nat):Int)=_
     congr 1;lia
    rw[e]
    exact this
 have:=key ai.toList 0 (fun i v hv=>by
  obtain⟨t,e⟩:=h.2 i v (by simpa using hv)
  exact⟨t,by rw[e];congr 1;push_cast;lia⟩)
 have hl:ai.toList.length=n:=by simpa using hs
 rw[hl]at this
 have e2:((qV n).map fun i=>((0+i:Nat):Int))=ups n:=by
  unfold ups
  apply qr_
  intro i _
  congr 1;lia
 rw[e2]at this
 exact this
def Gf     (hc:X.calm=true)(hg:Gl X "list")(hm:X.mg "list"=none)(jz:Gl X "range")(gV:X.mg "range"=none)(he:PE X e te)
  (jb:starEach [.Call (.Name "range" p2) [e] [] dP] X.env=[(false,eval (.Call (.Name "range" p2) [e] [] dP) X.env)]:=by rfl) (hs:starEach [e] X.env=[(false,eval e X.env)]:=by rfl):
  PE X (.Call (.Name "list" p) [.Call (.Name "range" p2) [e] [] dP] [] pos) (Np te):=by
 intro af s σ H Q I h
 refine xq_ (D6 I hg hm boot_list ?_)
 refine qf_ ?_ jb rfl
 rw[jb]
 refine xp_ ?_
 refine Call_ (D6 I jz gV boot_range (qf_ (thn (Aa he Ad hs dP af s σ H (fun vs H1=>∃j:Int,vs=[.int j]/\0<=j/\j<=100000/\∀p,H1 p=none->Q (.ref p) (upd H1 p (.lst ((ups j.toNat).map V.int)))) I ?_) fun us s1 ⟨vs,H1,I1,r1,q1⟩=>?_) hs rfl))
 ·show te σ H _
  have:(fun x H1=>∃j:Int,x=V.int j/\0<=j/\j<=100000/\∀p,H1 p=none->Q (.ref p) (upd H1 p (.lst ((ups j.toNat).map V.int))))=(fun x H1=>tNil σ H1 fun xs H2=>∃j:Int,x::xs=[V.int j]/\0<=j/\j<=100000/\∀p,H2 p=none->Q (.ref p) (upd H2 p (.lst ((ups j.toNat).map V.int)))):=by
   funext x H1
   simp[tNil]
  rw[<-this]
  exact h
 ·obtain⟨j,rfl,h0,h1,q⟩:=q1
  cases r1 with
  |cons r rr=>
   cases rr
   obtain⟨t,rfl⟩:=r
   refine call_range_1 ?_
   refine xW_ ?_
   refine call_list_range (n:=j.toNat) (I.ok.hd hc) (IsRange.new ..) (small_one s!"" s!"" s!"" s!"") ?_ s!"" fun h' tk dQ c' hk hS bZ=>?_
   ·rw[rangeSize_one];split<;>lia
   ·have kp:∀b o,s1.heap.get? b=some o->h'.get? b=some o:=fun b o e=>hk b o (jo_ _ e)
    have hz:(ups j.toNat).length=j.toNat:=by simp[ups]
    have hl:=Ar
    refine⟨.ref _,_,I1.laid (t':=tk) kp (by rw[qz_];exact z4_ _) (show Bo X.prog X.w _ h' _ (.lst ((ups j.toNat).map V.int)) from ⟨by rw[ja_,hz];lia,dQ.toList,c',Qh bZ,by simpa using hS⟩),rfl,q _ (I1.hok.fresh (by rw[qz_];exact z4_ _))⟩
def Qi (tk tv:TE):TE:=UN [(tk,tv)]
def R6     (hk:PE X k tk)(hv:PE X v tv):PE X (.Dict [some k] [v] pos) (Qi tk tv):=UO (RT hk hv UM) rfl rfl (by intro z;cases z) (by show 1<=15;decide)
theorem Qj     : Qi tk tv σ H Q=∀p,H p=none->tk σ (upd H p (.dK [])) fun x H1=>tv σ H1 fun y H2=>H2 p=some (.dK [])/\∃kvs:List (Key×V),[(x,y)]=kvs.map (fun kv=>(kV kv.1,kv.2))/\kvs.length<=15/\Q (.ref p) (upd H2 p (.dK (GJ [] kvs))):=rfl
def UU {X:Cx}{i:Nat}{x:Str}{k v:Expr}{tk tv:TE}{pos bG gg:Pos}(hN:X.N.Nodup)(hi:X.N[i]?=some x)(hx:Loc X.env.scope x)(hk:PE X k tk)(hv:PE X v tv)(hs:swapsWith (.Dict [some k] [v] gg) (some (.Name x bG)) pos.line X.env=pure false)
  (hf:X.fn x=true\/X.env.scope.names.lookup x=some .local):PS X (.Assign [.Name x bG] (.Dict [some k] [v] gg) pos) (tAsg (Qi tk tv) (Fz i)):=Be hN hi hx (R6 hk hv) hs hf
end L2
namespace L2
open PySem GW
def mkW (aa:α2)(r:Int):Int:=aa.getD r.toNat 0
def Wt   (h0:0<=r)(h1:r<aa.length):mkW aa r∈aa:=by
 have au:r.toNat<aa.length:=by lia
 unfold mkW
 rw[jj_,jh_ au]
 exact j3_ au
def Le   (h0:0<=r)(h1:r<aa.length):atI (aa.map V.int) r=some (V.int (mkW aa r)):=by
 have au:r.toNat<aa.length:=by lia
 refine A7 h0 ?_
 unfold mkW
 rw[jj_,jh_ au];rfl
end L2
namespace GW
def Bfs.least {L:Int}{n:Nat}{ae:α1}{top:Int}{ents:List (Int×α2)}(h:Bfs L n ae ents ents.length top){ws:α2}(hv:isW L ws=true):∀i,i<=ws.length->∃w',(AB ae (ws.take i),w')∈ents/\Au L w'<=Au L (ws.take i)
 |0,_=>⟨[],by simpa [AB] using jc_ h.hd,by simp⟩
 |i+1,hi=>by
  obtain⟨w',m,hp⟩:=Bfs.least h hv i s!""
  have cj:ws[i]?=some ws[i]:=by simp
  have bN:=Ay.mp hv ws[i] (j3_ _)
  obtain⟨j,hj,ej⟩:=jO_ m
  obtain⟨e',me,e1,e2⟩:=h.don j hj _ (by rw[jh_ hj,ej]) ws[i] bN.1 bN.2
  obtain⟨g,v⟩:=e'
  have e1:g=Bm ae (AB ae (ws.take i)) ws[i]:=e1
  have e2:Au L v<=Au L (w'++[ws[i]]):=e2
  have et:ws.take (i+1)=ws.take i++[ws[i]]:=by rw[jQ_,cj];rfl
  have hL:0<=L:=by lia
  refine⟨v,?_,?_⟩
  ·rw[et,BG,<-e1];exact me
  ·rw[et]
   rw[CI]at e2 ⊢
   have:=j0_ hp hL
   lia
end GW
namespace L2
open PySem PySem.Spec PyProof.Rows
def Vals.ofIx:∀{xs:List V} {us:List Value},us.length=xs.length->(∀(i:Nat) (v:Value),us[i]?=some v->∃x,xs[i]?=some x/\RelV x v)->Vals xs us
 |[],[],_,_=>.nil
 |[],_::_,h,_=>by simp at h
 |_::_,[],h,_=>by simp at h
 |x::xs,u::us,h,k=>by
  refine .cons ?_ (Vals.ofIx (by simpa using h) fun i v hv=>?_)
  ·obtain⟨y,e,r⟩:=k 0 u rfl
   cases e
   exact r
  ·obtain⟨y,e,r⟩:=k (i+1) v (by simpa using hv)
   exact⟨y,by simpa using e,r⟩
def Qk   (h:LY k v=true):RelV (kV k) v:=by
 rcases Bi h with ⟨i,t,rfl,e⟩|⟨x,t,rfl,e⟩
 ·exact⟨t,e⟩
 ·exact⟨t,e⟩
def IV  (hc:X.calm=true):Cr X (.type "list") (fun xs H Q=>∃p kvs,xs=[.ref p]/\H p=some (.dK kvs)/\∀l,H l=none->Q (.ref l) (upd H l (.lst (kvs.map fun kv=>kV kv.1)))):=by
 intro af s σ H xs us Q I r h
 obtain⟨p,kvs,rfl,hp,q⟩:=h
 obtain⟨u,rfl,rx⟩:=vals1 r
 cases rx
 obtain⟨hz,hS,vs,rr,m⟩:=RS I.hok hp
 obtain⟨ep,mw⟩:=m.dictAt
 have ak:=rr.length
 have hks:=rr.keys
 refine tX (wa (knd:=Bj X.prog X.w) (kvs:=vs) (ep:=ep) hS) (I.ok.hd hc) mw s!"" fun h' tk dQ c' hk hD bZ=>?_
 have hv:Vals (kvs.map fun kv=>kV kv.1) dQ.toList:=by
  refine Vals.ofIx (by rw[ja_,ak];simpa using bZ.1) fun i v hv=>?_
  obtain⟨k,x,hx,cy⟩:=bZ.2 i v (by simpa using hv)
  refine⟨kV k,?_,Qk cy⟩
  have e1:(kvs.map (·.1))[i]?=some k:=by rw[hks,je_,hx];rfl
  rw[je_]at e1 ⊢
  cases hq:kvs[i]? with
  |none=>rw[hq]at e1;cases e1
  |some kv=>rw[hq]at e1;cases e1;rfl
 exact⟨.ref _,_,I.laid (t':=tk) hk (jg_ _) (show Bo X.prog X.w _ h' _ (.lst (kvs.map fun kv=>kV kv.1)) from ⟨by rw[ja_];exact hz,dQ.toList,c',hv,by simpa using hD⟩),rfl,q _ (I.hok.fresh (jg_ _))⟩
end L2
namespace L2
theorem r_in {K:α3}     : rIn K jt x y H Q=∃p xs,y=.ref p/\(SqL K H p xs\/SqT K H p xs)/\Cz x=true/\xs.all Cz=true/\Q (.bl (if jt then !inV x xs else inV x xs)) H:=rfl
def HW (ns:α2):(ns.map V.int).all Cz=true:=by
 rw[qR_]
 intro x hx
 obtain⟨n,_,rfl⟩:=jt_.mp hx
 rfl
def Nq (g:Int)(ns:α2):inV (.int g) (ns.map V.int)=decide (g∈ns):=by
 unfold inV
 rw[List.any_map,qy_,xM_,ql_]
 constructor
 ·rintro⟨n,hn,e⟩
  have e:decide (n=g)=true:=by simpa [eqV] using e
  rw[<-qv_ e];exact hn
 ·exact fun h=>⟨g,h,by simp[eqV]⟩
end L2
namespace L2
open PySem PySem.Spec PyProof.Rows
def rng (i j:Int):α2:=(qV (j-i).toNat).map fun k:Nat=>i+(k:Int)
end L2
namespace GW
open L2
def HX:∀{l m:α2},l.Nodup->(∀x∈l,x∈m)->m.length<=l.length->l.Perm m
 |[],m,_,_,h=>by
  have:m=[]:=List.eq_nil_of_length_eq_zero (by simpa using h)
  subst this;exact .refl _
 |x::l,m,hn,h,hl=>by
  have hx:=h x jn_
  have fQ:=qD_.mp hn
  have p:=HX (l:=l) (m:=m.erase x) fQ.2 (fun y hy=>(xg_ (fun (z:y=x)=>fQ.1 (z ▸ hy))).mpr (h y (jl_ _ hy))) (by rw[qV_ hx];simp at hl;lia)
  exact (p.cons x).trans (List.perm_cons_erase hx).symm
def Ql (n:Nat):(ups n).Nodup:=by
 unfold ups
 exact tK (R:=(· ≠ ·)) _ (fun a b cm z=>cm s!"") zz_
def Qm   : x∈ups n↔0<=x/\x<(n:Int):=by
 unfold ups
 rw[jt_]
 constructor
 ·rintro⟨r,hr,rfl⟩
  have:=jF_.mp hr
  lia
 ·exact fun h=>⟨x.toNat,jF_.mpr s!"",by lia⟩
def Qn (n:Nat):(ups n).length=n:=by simp[ups]
def C7 (n:Nat)(o:α2):Prop:=o.Perm (ups n)/\o[0]?=some 0
def C7.len   (h:C7 n o):o.length=n:=by rw[h.1.length_eq,Qn]
def C7.nod   (h:C7 n o):o.Nodup:=(h.1.nodup_iff).mpr (Ql n)
def C7.mem   (h:C7 n o)  : x∈o↔0<=x/\x<(n:Int):=by rw[h.1.mem_iff,Qm]
def ordW (o:α2)(r:Int):Int:=o.getD r.toNat 0
def UW   (h0:0<=r)(h1:r<o.length):o[r.toNat]?=some (ordW o r):=by
 unfold ordW
 rw[jj_,jh_ s!""];rfl
def C7.at   (h:C7 n o)  (h0:0<=r)(h1:r<(n:Int)):o[r.toNat]?=some (ordW o r)/\0<=ordW o r/\ordW o r<(n:Int):=by
 have:=UW (o:=o) h0 (by rw[h.len];exact h1)
 exact⟨this,h.mem.mp (jc_ this)⟩
def C7.inv   (h:C7 n o)  (h0:0<=x)(h1:x<(n:Int)):∃r:Nat,r<n/\o[r]?=some x:=by
 obtain⟨r,hr,e⟩:=jO_ (h.mem.mpr ⟨h0,h1⟩)
 exact⟨r,by rw[<-h.len];exact hr,by rw[jh_ hr,e]⟩
def CC {α:Type}(o:α2)(f:Nat->α):Nat->List α->List α
 |0,d=>d
 |i+1,d=>(CC o f i d).set (ordW o i).toNat (f i)
def CJ {α:Type}(o:α2)(f:Nat->α):∀(i:Nat) (d:List α),(CC o f i d).length=d.length
 |0,_=>rfl
 |i+1,d=>by rw[CC,qO_,CJ o f i d]
def C7.inj   (h:C7 n o)  (hr:r<n)(hq:q<n)(e:ordW o r=ordW o q):r=q:=by
 have a:=(h.at (r:=(r:Int)) s!"" s!"").1
 have b:=(h.at (r:=(q:Int)) s!"" s!"").1
 rw[ji_]at a b
 have bA:r<o.length:=by rw[h.len];exact hr
 have gS:q<o.length:=by rw[h.len];exact hq
 refine (xL_ (h₀:=bA) (h₁:=gS) h.nod).mp ?_
 rw[jh_ bA]at a
 rw[jh_ gS]at b
 rw[jr_ a,jr_ b,e]
def HY {α:Type}{n:Nat}{o:α2}(h:C7 n o)(f:Nat->α):∀(i:Nat) (d:List α),i<=n->d.length=n->∀r:Nat,r<i->(CC o f i d)[(ordW o r).toNat]?=some (f r)
 |0,_,_,_,r,hr=>absurd hr (qP_ _)
 |i+1,d,hi,hd,r,hr=>by
  have b:=(h.at (r:=(r:Int)) s!"" s!"").2
  have c:=(h.at (r:=(i:Int)) s!"" s!"").2
  rw[CC]
  by_cases e:r=i
  ·subst e
   rw[qM_ (by rw[CJ,hd];lia)]
  ·have ne:ordW o i≠ordW o r:=fun z=>e (h.inj s!"" s!"" z.symm)
   rw[xf_ s!""]
   exact HY h f i d s!"" hd r s!""
def Qo (n:Nat)(o aa:α2):α2:=CC o (fun r=>aa.getD r 0) n (qU n 0)
def Qp (n:Nat)(o:α2)(ae:α1):α1:=CC o (fun r=>(ae.getD r []).map (ordW o)) n (qU n [])
end GW
namespace L2
open PySem PySem.Spec PyProof.Rows GW
def CB.set {K:α3}      (h:CB K H l ws)(hw:SqT K H t (w.map V.int)):∃xs,H l=some (.lst xs)/\xs.length=ws.length/\CB K (upd H l (.lst (xs.set j (V.ref t)))) l (ws.set j w):=by
 obtain⟨ts,h1,h2,h3⟩:=h
 refine⟨_,h1,by simpa using h2,ts.set j t,by rw[Ab,tJ],by simpa using h2,fun i t' w' a b=>?_⟩
 have key:∀{u:Addr} {v:α2},SqT K H u (v.map V.int)->SqT K (upd H l (.lst ((ts.map V.ref).set j (V.ref t)))) u (v.map V.int):=fun q=>J3 h1 q
 by_cases e:j=i
 ·subst e
  rw[qM_ (by have:=(jb_.mp a).1;simpa using this)]at a
  rw[qM_ (by have:=(jb_.mp b).1;simpa using this)]at b
  cases a;cases b
  exact key hw
 ·rw[xf_ e]at a b
  exact key (h3 i t' w' a b)
end L2
namespace L2
def J6 {α:Type}(x:α):∀n:Nat,(qU n [x]).flatten=qU n x
 |0=>rfl
 |n+1=>by rw[qj_,xC_,J6 x n,qj_];rfl
end L2
namespace L2
def Nr {n:Nat}{x:Int}(h0:0<=x)(h1:x<(n:Int)):ixN n x=some x.toNat:=by
 unfold ixN
 simp only[h0,h1,and_self,zs_]
end L2
namespace GW
def C8 (n:Nat)(o aa:α2):(Qo n o aa).length=n:=by unfold Qo;rw[CJ,qx_]
def Lf (n:Nat)(o:α2)(ae:α1):(Qp n o ae).length=n:=by unfold Qp;rw[CJ,qx_]
def R7   (h:C7 n o)(aa:α2)  (hr:r<n):(Qo n o aa)[(ordW o r).toNat]?=some (aa.getD r 0):=HY h _ n _ (jg_ _) (qx_) r hr
def R8   (h:C7 n o)(ae:α1)  (hr:r<n):(Qp n o ae)[(ordW o r).toNat]?=some ((ae.getD r []).map (ordW o)):=HY h _ n _ (jg_ _) (qx_) r hr
end GW
namespace GW
open L2
def C7.nat   (h:C7 n o)  (hj:j<n):∃r:Nat,r<n/\ordW o r=(j:Int):=by
 obtain⟨r,hr,er⟩:=h.inv (x:=(j:Int)) s!"" s!""
 have a:=(h.at (r:=(r:Int)) s!"" s!"").1
 rw[ji_,er]at a
 exact⟨r,hr,(jr_ a).symm⟩
def Wf.getW    (wf:Wf L aa ae)  (hr:r<aa.length):ae[r]?=some (ae.getD r [])/\ae.getD r []∈ae:=by
 have au:r<ae.length:=by rw[wf.len];exact hr
 have e:ae.getD r []=ae[r]:=by rw[jj_,jh_ au];rfl
 rw[e]
 exact⟨jh_ au,j3_ au⟩
def R9 {L:Int}{aa:α2}{ae:α1}{o:α2}(wf:Wf L aa ae)(h:C7 aa.length o){j:Nat}{row:α2}(hj:(Qp aa.length o ae)[j]?=some row):∃r:Nat,r<aa.length/\ordW o r=(j:Int)/\row=(ae.getD r []).map (ordW o):=by
 have au:=(jb_.mp hj).1
 rw[Lf]at au
 obtain⟨r,hr,er⟩:=h.nat au
 have:=R8 h ae hr
 rw[er,ji_,hj]at this
 exact⟨r,hr,er,jr_ this⟩
def UX     (wf:Wf L aa ae)(h:C7 aa.length o):Wf L (Qo aa.length o aa) (Qp aa.length o ae):=by
 refine⟨wf.l1,wf.l6,by rw[C8];exact wf.n1,by rw[C8];exact wf.n40,by rw[C8,Lf],fun row hrow=>?_,fun m hm=>?_⟩
 ·rw[C8]
  obtain⟨j,hj,e⟩:=jO_ hrow
  obtain⟨r,hr,_,rfl⟩:=R9 wf h (j:=j) (row:=row) (by rw[jh_ hj,e])
  have hw:=wf.rows _ (wf.getW hr).2
  refine⟨by rw[ja_];exact hw.1,fun x hx=>?_⟩
  obtain⟨g,hg,rfl⟩:=jt_.mp hx
  have:=hw.2 g hg
  exact (h.at this.1 this.2).2
 ·obtain⟨j,hj,e⟩:=jO_ hm
  have au:=hj
  rw[C8]at au
  obtain⟨r,hr,er⟩:=h.nat au
  have:=R7 h aa hr
  rw[er,ji_,jh_ hj,e]at this
  have:m=aa.getD r 0:=jr_ this
  rw[this,jj_,jh_ hr]
  exact wf.mks _ (j3_ hr)
end GW
namespace PySem
open Sem (wp)
def Heap.DEnt (h:Heap)(d:Addr)(es:Array DictEntry)(ep:Nat):Prop:=∃o,h.get? d=some o/\o.ExactDict/\o.data=.dict es ep
section
variable {prog:Program} {w:World} {A:Around} {E:Value->Shared->Prop} {s:Shared} {d it:Addr} {es:Array DictEntry} {i ep:Nat}
def Heap.DEnt.typeIs (h:s.heap.DEnt d es ep):s.TypeIs (.ref d) "dict" := let ⟨o,ho,hc,_⟩:=h;⟨o,ho,hc.1⟩
def Heap.DEnt.at {h h':Heap}(x:h.DEnt d es ep)(e:∀o,h.get? d=some o->h'.get? d=some o):h'.DEnt d es ep:=let ⟨o,ho,r⟩:=x;⟨o,e _ ho,r⟩
def Heap.DEnt.lt_size {h:Heap}(x:h.DEnt d es ep):d<h.objs.size:=let ⟨_,ho,_⟩:=x;js_ ho
def Mf  (hd:(d==sysModules)=false)(hm:s.heap.DEnt d es ep)
  (hQ:Q (.ref s.heap.objs.size) {s with heap:=s.heap.push {cls:=.type "dict_keyiterator",data:=.fields #[.ref d,.int 0 0,.int es.size 0,.int ep 0]} }):wpAny (model prog w) A (pyIter (.ref d)) Q E s:=by
 have hT:=hm.typeIs
 obtain⟨o,ho,hc,ix⟩:=id hm
 refine wpAny_pyIter_slot hT F.slot_dict_iter (xn_ F.slot_dict_iter hT F.entry_dict_iter (?_:wpAny _ _ (Builtin.«dict.__iter__» _) _ _ s) (F.args_dict_iter_1 _))
 unfold Builtin.«dict.__iter__»;refine wpAny_bind ?_
 unfold Builtin.Dict.dictSlotNone;refine wpAny_bind (wpAny_notOrdered_dict hT ?_)
 show wpAny _ _ (pure (Value.ref d)) _ _ s;refine ju_ ?_
 show wpAny _ _ (Builtin.Dict.showsAll d >>= _) _ _ s;unfold Builtin.Dict.showsAll
 rw[if_neg (fun z=>by rw[hd]at z;cases z)]
 refine jf_ (ju_ (jf_ (zu_ ho ix (jf_ (wpAny_dictEpoch ho ix ?_)))))
 refine jf_ (qT_ (ju_ ⟨_,rfl,"dict_keyiterator",_,⟨_,jH_ _ rfl,rfl⟩,qW_.lookup,?_⟩));simpa [rawInt] using hQ
def GZ  (bg:s.heap.IsKeyIter it d i es.size ep)(hm:s.heap.DEnt d es ep)(au:i<es.size)
  (hQ:∀h',h'.IsKeyIter it d (i+1) es.size ep->Heap.SameBut it s.heap h'->Q (some es[i].key) {s with heap:=h' }):wpAny (model prog w) A (pyNext (.ref it)) Q E s:=by
 obtain⟨o,ho,hc,hd⟩:=id bg
 obtain⟨od,my,bQ,mz⟩:=id hm
 have jA:Builtin.Dict_items.ownsTuple "dict_keyiterator"=false:=by decide
 unfold pyNext
 refine jf_ (xI_ (qJ_ (name:=Str.ofString "__next__") bg.typeIs qW_ (xn_ qW_ bg.typeIs F.entry_dict_keyiterator_next ?_ (F.args_dict_keyiterator_next_1 _))))
 refine jf_ (ju_ (jf_ (jf_ ?_)))
 first|refine jf_ (xd_ bg.typeIs (ju_ (jf_ (wpAny_fieldsOf ho hd ?_))))|refine jf_ (xE_ bg.typeIs (ju_ (jf_ (wpAny_fieldsOf ho hd ?_))))
 simp only[jA,jY_,xb_];show wpAny _ _ (if (Value.ref d==Value.none)=true then _ else _) _ _ s
 rw[if_neg (show ¬ ((Value.ref d==Value.none)=true) from fun z=>jv_ z)]
 refine jf_ (ju_ (jf_ (zu_ my mz ?_)))
 rw[if_neg (by simp)];refine jf_ (ju_ (jf_ (wpAny_dictEpoch my mz ?_)))
 rw[if_neg (by simp)];refine ju_ ?_
 simp only[show ¬ ((i:Int)<0) from by lia,xb_,ji_,qA_ au];refine jf_ ?_
 first|refine jf_ (xd_ bg.typeIs (ju_ (jf_ (zw_ bg.typeIs ?_))))|refine jf_ (xE_ bg.typeIs (ju_ (jf_ (zw_ bg.typeIs ?_))))
 show wpAny _ _ (setField (.ref it) 1 (rawInt ((i:Int)+1)) >>= _) _ _ s;refine jf_ (wpAny_setField ho hd (by simp) ?_)
 have fb:(s.heap.update it (Obj.mapFields (·.setIfInBounds 1 (rawInt ((i:Int)+1))))).IsKeyIter it d (i+1) es.size ep:=⟨_,qU_ _ ho (Obj.isFreed_of_fields (Obj.data_mapFields hd _)),(Obj.cls_mapFields ..).trans hc,by rw[Obj.data_mapFields hd];simp[rawInt]⟩
 refine jf_ (qX_ (jf_ (zw_ (s:={s with heap:=s.heap.update it (Obj.mapFields (·.setIfInBounds 1 (rawInt ((i:Int)+1))))}) fb.typeIs ?_)))
 show wpAny _ _ (pure es[i].key) _ _ _;exact ju_ (ju_ ⟨_,rfl,ju_ (hQ _ fb (za_ ..))⟩)
def HZ  (hh:A.handled=none)(bg:s.heap.IsKeyIter it d i es.size ep)(hm:s.heap.DEnt d es ep)(bu:es.size<=i)
  (hQ:∀h',Heap.ExtBut it s.heap h'->Q none {s with heap:=h' }):wpAny (model prog w) A (pyNext (.ref it)) Q E s:=by
 obtain⟨o,ho,hc,hd⟩:=id bg
 obtain⟨od,my,bQ,mz⟩:=id hm
 have jA:Builtin.Dict_items.ownsTuple "dict_keyiterator"=false:=by decide
 unfold pyNext
 refine jf_ (xI_ (qJ_ (name:=Str.ofString "__next__") bg.typeIs qW_ (xn_ qW_ bg.typeIs F.entry_dict_keyiterator_next ?_ (F.args_dict_keyiterator_next_1 _))))
 refine jf_ (ju_ (jf_ (jf_ ?_)))
 first|refine jf_ (xd_ bg.typeIs (ju_ (jf_ (wpAny_fieldsOf ho hd ?_))))|refine jf_ (xE_ bg.typeIs (ju_ (jf_ (wpAny_fieldsOf ho hd ?_))))
 simp only[jA,jY_,xb_];show wpAny _ _ (if (Value.ref d==Value.none)=true then _ else _) _ _ s
 rw[if_neg (show ¬ ((Value.ref d==Value.none)=true) from fun z=>jv_ z)]
 refine jf_ (ju_ (jf_ (zu_ my mz ?_)))
 rw[if_neg (by simp)];refine jf_ (ju_ (jf_ (wpAny_dictEpoch my mz ?_)))
 rw[if_neg (by simp)];refine ju_ ?_
 simp only[show ¬ ((i:Int)<0) from by lia,xb_,ji_,Array.getElem?_eq_none bu];refine jf_ ?_
 first|refine jf_ (xd_ bg.typeIs (ju_ ?_))|refine jf_ (xE_ bg.typeIs (ju_ ?_))
 show wpAny _ _ (setField (.ref it) 0 .none >>= _) _ _ s;refine jf_ (wpAny_setField ho hd (by simp) ?_)
 show wpAny _ _ (newExc (.type "StopIteration") [] >>= _) _ _ _;refine jf_ ?_
 simp only[newExc,newTuple];refine jf_ (qT_ ?_ (by size_fits))
 refine jf_ (m:=firstArgMember _ _) (wpAny_of_eq (a:=Value.none) (by first|rfl|(simp only[firstArgMember];rfl)) (qT_ ?_ (by size_fits)))
 simp only[raiseNew];refine jf_ (wpAny_handled ?_)
 rw[show A.in1.handled=none from hh];refine jf_ (ju_ (wpAny_throw ?_))
 refine jf_ (wpAny_isInstance (T := "StopIteration") (b:=true) ⟨_,jH_ _ rfl,rfl⟩ isSubtype_stop (ju_ (hQ _ (((za_ ..).extBut.push _).push _))))
def Walks.dent (hh:A.handled=none)(I:Addr)(ay:d≠I):Walks prog w A I [I,d] [I] es.size (fun i v=>∃e,es[i]?=some e/\v=e.key) (fun i h=>h.IsKeyIter I d i es.size ep/\h.DEnt d es ep) where
 sub:=fun b hb=>by simp at hb;simp[hb]
 frame:=fun _ _ _ st hk=>⟨st.1.at fun o e=>hk I (by simp) o e,st.2.at fun o e=>hk d (by simp) o e⟩
 item:=fun i s Q E hi st hQ=>by
  refine GZ st.1 st.2 hi fun h' fb f9=>?_
  exact hQ _ h' s.toks ⟨es[i],by simp[hi],rfl⟩ ⟨fb,st.2.at fun o e=>f9.extBut d o ay e⟩ fun b o hb e=>f9.extBut b o (fun z=>hb (by simp[z])) e
 done:=fun s Q E st hQ=>HZ hh st.1 st.2 (jg_ _) fun h' dN=>hQ h' s.toks fun b o hb e=>dN b o (fun z=>hb (by simp[z])) e
 self:=fun _ _ _ _ st hQ=>wpAny_pyIter_keyiter st.1 hQ
def Sa (lo:(d==sysModules)=false):wG prog w "dict" d d es.size (fun i v=>∃e,es[i]?=some e/\v=e.key) (fun h=>h.DEnt d es ep) where
 type:=fun _ hm=>hm.typeIs
 there:=fun _ hm=>⟨hm.lt_size,hm.lt_size⟩
 keep:=fun _ _ hm hk=>hm.at fun o e=>hk d (.inl rfl) o e
 notList:=by decide
 notTuple:=by decide
 hint:=fun _ _ _ _ hm hq=>vz hm.typeIs hq
 iter:=fun _ _ hh hm=>⟨_,_,(fun _ _ hq=>Mf lo hm hq),Walks.dent hh _ (jL_ hm.lt_size),⟨⟨_,jH_ _ rfl,rfl,rfl⟩,hm.at fun o e=>jo_ _ e⟩⟩
end
end PySem
namespace L2
open PySem PySem.Spec PyProof.Rows
def Jl {α β:Type}{F:α->β->Prop}:∀{l:List α} {m:List β} {i:Nat} {a:α},Paired F l m->l[i]?=some a->∃b,m[i]?=some b/\F a b
 |_,_,_,_,.nil,e=>by simp at e
 |_,_,0,_,.cons r _,e=>by simp at e;subst e;exact⟨_,rfl,r⟩
 |_,_,i+1,a,.cons _ t,e=>by
  obtain⟨b,h1,h2⟩:=Jl (i:=i) (a:=a) t (by simpa using e)
  exact⟨b,by simpa using h1,h2⟩
def UY       (ok:HOk P w H h)(e:Rd H a (.dT kvs)):
  ∃o es ep,h.get? a=some o/\o.ExactDict/\o.data=.dict es ep/\es.size=kvs.length/\(a==sysModules)=false/\kvs.length<=sizeLine /\
   ∀(i:Nat) (k:List Key) (v:V),kvs[i]?=some (k,v)->∃b en,es[i]?=some en/\en.key=.ref b/\H b=some (.tup (k.map kV)):=by
 obtain⟨z,y,xs,r,o,es,ep,h1,h2,h3,h4,h5⟩:=(show Bo P w H h a (.dT kvs) from UI ok e)
 have hl:=Paired.length r
 have hs:es.size=kvs.length:=by rw[<-j6_,h4,ja_,hl]
 refine⟨o,es,ep,h1,h2,h3,hs,y,z,fun i k v hk=>?_⟩
 obtain⟨q,hq,e1,e2,_⟩:=Jl r hk
 refine⟨q.2.1,entryOfKey (tupleKind (Bj P w)) q,?_,rfl,e2⟩
 rw[<-xs_,h4,je_,hq];rfl
def Ia  (hc:X.calm=true):Cr X (.type "list") (fun xs H Q=>∃p kvs,xs=[.ref p]/\Rd H p (.dT kvs)/\∀l rs,H l=none->rs.length=kvs.length ->
  (∀(i:Nat) (k:List Key) (v:V),kvs[i]?=some (k,v)->∃b,rs[i]?=some (V.ref b)/\H b=some (.tup (k.map kV)))->Q (.ref l) (upd H l (.lst rs))):=by
 intro af s σ H xs us Q I r h
 obtain⟨p,kvs,rfl,hp,q⟩:=h
 obtain⟨u,rfl,rx⟩:=vals1 r
 cases rx
 obtain⟨o,es,ep,g1,g2,g3,g4,g5,g6,g7⟩:=UY I.hok hp
 refine tX (Sa (es:=es) (ep:=ep) g5) (I.ok.hd hc) ⟨o,g1,g2,g3⟩ s!"" fun h' tk dQ c' hk hD bZ=>?_
 let f:DictEntry->V:=fun e=>match e.key with | .ref b=>V.ref b|_=>.non
 have mw:∀(i:Nat) (k:List Key) (v:V),kvs[i]?=some (k,v)->∃b,(es.toList.map f)[i]?=some (V.ref b)/\H b=some (.tup (k.map kV)):=fun i k v gh=>by
  obtain⟨b,en,e1,e2,e3⟩:=g7 i k v gh
  refine⟨b,?_,e3⟩
  rw[je_,xs_,e1]
  show some (f en)=_
  simp only[f,e2]
 have ak:(es.toList.map f).length=kvs.length:=by rw[ja_,j6_,g4]
 have hv:Vals (es.toList.map f) dQ.toList:=by
  refine Vals.ofIx (by rw[ak,<-g4];simpa using bZ.1) fun i v hv=>?_
  obtain⟨e,he,rfl⟩:=bZ.2 i v (by simpa using hv)
  have hi:i<kvs.length:=by rw[<-g4];exact (q4_.mp he).1
  obtain⟨b,en,e1,e2,e3⟩:=g7 i kvs[i].1 kvs[i].2 (by simp[hi])
  rw[he]at e1
  cases e1
  refine⟨V.ref b,?_,by rw[e2];rfl⟩
  rw[je_,xs_,he]
  show some (f e)=_
  simp only[f,e2]
 exact⟨.ref _,_,I.laid (t':=tk) hk (jg_ _) (show Bo X.prog X.w _ h' _ (.lst (es.toList.map f)) from ⟨by rw[ak];exact g6,dQ.toList,c',hv,by simpa using hD⟩),rfl,q _ _ (I.hok.fresh (jg_ _)) ak mw⟩
def Mg (tk tv:TE):TE:=fun σ H Q=>∀p,H p=none->tk σ (upd H p (.dT [])) fun x H1=>tv σ H1 fun y H2=>H2 p=some (.dT [])/\∃b k,x=.ref b/\H2 b=some (.tup (k.map kV))/\Q (.ref p) (upd H2 p (.dT [(k,y)]))
theorem Nt     : Mg tk tv σ H Q=∀p,H p=none->tk σ (upd H p (.dT [])) fun x H1=>tv σ H1 fun y H2=>H2 p=some (.dT [])/\∃b k,x=.ref b/\H2 b=some (.tup (k.map kV))/\Q (.ref p) (upd H2 p (.dT [(k,y)])):=rfl
def Qq     (hu:X.A.units+1<cLine)(hk:PE X k tk)(hv:PE X v tv):PE X (.Dict [some k] [v] pos) (Mg tk tv):=by
 intro af s σ H Q I q
 have hn:=I.hok.fresh (jg_ s.heap.objs.size)
 have I1:=I.laid (a:=s.heap.objs.size) (o:=.dT []) (h':=s.heap.push {cls:=.type "dict",data:=.dict #[]}) (t':=s.toks) (fun _ _ q=>jo_ _ q) (jg_ _) (Na s.heap I.big)
 refine wpAny_Dict_any rfl rfl (by intro z;cases z) (by show 1<=15;decide) (pairTrees_cons_walk (thn (hk af _ σ _ _ I1 (q _ hn)) fun u s1 ⟨x,H1,J1,rx,q1⟩=>thn (hv af s1 σ H1 _ J1 q1) fun w2 s2 ⟨y,H2,J2,ry,q2⟩=>pairTrees_nil_walk ?_))
 obtain⟨e,b,ks,rfl,hb,q3⟩:=q2
 obtain rfl:u=Value.ref b:=rx
 obtain⟨z,hd,xs,aZ,dd⟩:=UJ J2.hok e
 cases aZ
 unfold storeAll
 rw[zK_]
 refine jf_ (jf_ (wpAny_dictSet_heap (hsz:=by simp) (show (tupleKind (Bj X.prog X.w)).room X.A from (show X.A.units<cLine by lia)) (Jh J2.hok hb) dd fun h' fI hs=>ju_ ?_))
 show wpAny _ _ (forIn [] PUnit.unit _) _ _ _
 rw[zW_]
 refine ju_ ⟨.ref s.heap.objs.size,_,?_,rfl,q3⟩
 obtain⟨qo,es,ep,hq,h2,h3,h4,_,h5⟩:=fI
 have hl:([(ks,y)]:List (List Key×V)).length<=sizeLine:=by rw[zI_];simp
 refine HJ J2 (by rw[e];exact qW) hs ⟨qo,hq⟩ ⟨hl,hd,_,KT.keeps (.cons ⟨rfl,hb,ry⟩ .nil) fun c ys ec=>?_,qo,es,ep,hq,h2,h3,h4,h5⟩
 rw[Ah (Ur ec e (fun z=>nomatch z))]
 exact ec
def Sb {X:Cx}{i:Nat}{x:Str}{k v:Expr}{tk tv:TE}{pos bG gg:Pos}(hu:X.A.units+1<cLine)(hN:X.N.Nodup)(hi:X.N[i]?=some x)(hx:Loc X.env.scope x)(hk:PE X k tk)(hv:PE X v tv)(hs:swapsWith (.Dict [some k] [v] gg) (some (.Name x bG)) pos.line X.env=pure false)
  (hf:X.fn x=true\/X.env.scope.names.lookup x=some .local):PS X (.Assign [.Name x bG] (.Dict [some k] [v] gg) pos) (tAsg (Mg tk tv) (Fz i)):=Be hN hi hx (Qq hu hk hv) hs hf
end L2
namespace GB
open GW
variable {α:Type} [DecidableEq α]
def Gg (step:α->Int->α)(a:α)(ws:α2):α:=ws.foldl step a
def Jm (step:α->Int->α)(a:α)(ws:α2)(x:Int):Gg step a (ws++[x])=step (Gg step a ws) x:=by
 unfold Gg
 rw[qu_];rfl
def Of (step:α->Int->α)(a:α)(ws:α2)(x:Int):Gg step a (x::ws)=Gg step (step a x) ws:=rfl
def put (step:α->Int->α)(r:α)(w:α2)(ents:List (α×α2))(x:Nat):List (α×α2):=if step r x∈ents.map (·.1) then ents else ents++[(step r x,w++[(x:Int)])]
def addF (step:α->Int->α)(r:α)(w:α2):Nat->Nat->List (α×α2)->List (α×α2)
 |0,_,ents=>ents
 |m+1,x,ents=>addF step r w m (x+1) (put step r w ents x)
def bfsF (step:α->Int->α)(m:Nat):Nat->List (α×α2)->Nat->List (α×α2)
 |0,ents,_=>ents
 |f+1,ents,i=>match ents[i]? with
  |none=>ents
  |some e=>bfsF step m f (addF step e.1 e.2 m 0 ents) (i+1)
def Qr {step:α->Int->α}{m:Nat}{ents:List (α×α2)}{i:Nat}(h:ents[i]?=none):∀f,bfsF step m f ents i=ents
 |0=>rfl
 |f+1=>by rw[bfsF,h]
def Qs {step:α->Int->α}  {ents:List (α×α2)}   (h:ents[i]?=some e)(f:Nat):bfsF step m (f+1) ents i=bfsF step m f (addF step e.1 e.2 m 0 ents) (i+1):=by rw[bfsF,h]
def Qt (step:α->Int->α)(r:α)(w:α2)(x:Nat)(ents:List (α×α2)):addF step r w 0 x ents=ents:=rfl
def Qu (step:α->Int->α)(r:α)(w:α2)(m x:Nat)(ents:List (α×α2)):addF step r w (m+1) x ents=addF step r w m (x+1) (put step r w ents x):=rfl
structure B (L:Int)(step:α->Int->α)(st:α)(ok:α->Prop)(ents:List (α×α2))(i:Nat)(top:Int):Prop where
 hd:ents[0]?=some (st,[])
 il:i<=ents.length
 sh:∀(j:Nat) (e:α×α2),ents[j]?=some e->e.2.length<=j
 nod:(ents.map (·.1)).Nodup
 rng:∀e∈ents,ok e.1
 wd:∀e∈ents,isW L e.2=true/\Gg step st e.2=e.1
 inc:∀(j k:Nat) (a b:α×α2),j<k->ents[j]?=some a->ents[k]?=some b->Au L a.2<Au L b.2
 bnd:∀e∈ents,Au L e.2<top
 don:∀j,j<i->∀e,ents[j]?=some e->∀x:Int,0<=x->x<L->∃e'∈ents,e'.1=step e.1 x/\Au L e'.2<=Au L (e.2++[x])
variable {L:Int} {step:α->Int->α} {st:α} {ok:α->Prop} {ents:List (α×α2)} {i:Nat} {top:Int}
def B.start (L:Int)(step:α->Int->α){st:α}  (h:ok st):B L step st ok [(st,[])] 0 1:=by
 refine⟨rfl,by simp,(fun j e he=>by cases j with|zero=>(simp at he;subst he;simp)|succ j=>simp at he),by simp,fun e he=>?_,fun e he=>?_,fun j k a b h h1 h2=>?_,fun e he=>?_,fun j hj=>absurd hj (qP_ _)⟩
 ·simp at he;subst he;exact h
 ·simp at he;subst he;exact⟨rfl,rfl⟩
 ·have:=(jb_.mp h2).1;simp at this;lia
 ·simp at he;subst he;simp[Au,AU]
def B.up  (h:B L step st ok ents i top)(ht:top<=dO):B L step st ok ents i dO :=
 ⟨h.hd,h.il,h.sh,h.nod,h.rng,h.wd,h.inc,fun e he=>zT_ (h.bnd e he) ht,h.don⟩
def B.add (h:B L step st ok ents i top)    (hw:(r,w)∈ents)(hx:0<=x/\x<L)(ht:top<=Au L w*L+x+1)
  (bM:ok (step r x)) (dq:step r x∉ents.map (·.1)):B L step st ok (ents++[(step r x,w++[x])]) i (Au L w*L+x+2):=by
 obtain⟨v1,v2⟩:=h.wd _ hw
 have hp:=CI L w x
 have ak:0<ents.length:=by have:=(jb_.mp h.hd).1;lia
 refine⟨?_,by have:=h.il;simp;lia,fun j e he=>?_,?_,fun e he=>?_,fun e he=>?_,fun j k a b gU h1 h2=>?_,fun e he=>?_,fun j hj e he y gd fe=>?_⟩
 ·rw[jd_ ak];exact h.hd
 ·have hj:=(jb_.mp he).1
  rw[jk_,jR_]at hj
  by_cases cx:j<ents.length
  ·rw[jd_ cx]at he
   exact h.sh j e he
  ·have e1:j=ents.length:=by lia
   subst e1
   rw[jm_ (jg_ _),qb_]at he
   simp at he
   subst he
   obtain⟨j',ck,ej⟩:=jO_ hw
   have:=h.sh j' (r,w) (by rw[jh_ ck,ej])
   have this':w.length<=j':=this
   show (w++[x]).length<=ents.length
   simp;lia
 ·rw[jS_,xX_]
  refine⟨h.nod,by simp,fun a ha b hb=>?_⟩
  simp at hb
  subst hb
  exact fun z=>dq (z ▸ ha)
 ·rcases jw_.mp he with he|he
  ·exact h.rng e he
  ·rw[jq_.mp he];exact bM
 ·rcases jw_.mp he with he|he
  ·exact h.wd e he
  ·rw[jq_.mp he]
   refine⟨?_,?_⟩
   ·rw[Ay]at v1 ⊢
    intro z hz
    rcases jw_.mp hz with hz|hz
    ·exact v1 z hz
    ·rw[jq_.mp hz];exact hx
   ·show Gg step st (w++[x])=step r x
    rw[Jm]
    have pq:Gg step st w=r:=v2
    rw[pq]
 ·have hk:=(jb_.mp h2).1
  rw[jk_,jR_]at hk
  by_cases gf:k<ents.length
  ·rw[jd_ gf]at h2
   rw[jd_ s!""]at h1
   exact h.inc j k a b gU h1 h2
  ·have pA:k=ents.length:=by lia
   subst pA
   rw[jd_ s!""]at h1
   rw[jm_ (jg_ _),qb_]at h2
   simp at h2
   subst h2
   have:=h.bnd a (jc_ h1)
   show Au L a.2<Au L (w++[x])
   rw[hp];lia
 ·rcases jw_.mp he with he|he
  ·have:=h.bnd e he;lia
  ·rw[jq_.mp he]
   show Au L (w++[x])<_
   rw[hp];lia
 ·have cx:j<ents.length\/j=ents.length:=by
   have:=(jb_.mp he).1
   rw[jk_,jR_]at this
   lia
  rcases cx with cx|cx
  ·rw[jd_ cx]at he
   obtain⟨e',m,q⟩:=h.don j hj e he y gd fe
   exact⟨e',j2_ _ m,q⟩
  ·exact absurd cx (by have:=h.il;lia)
def Sd (L:Int)(step:α->Int->α)(ents:List (α×α2))(r:α)(w:α2)(x:Nat):Prop:=∀y:Int,0<=y->y<x->∃e'∈ents,e'.1=step r y/\Au L e'.2<=Au L (w++[y])
def B.letter {x:Nat}{w:α2}{r:α}(h:B L step st ok ents i (Au L w*L+x+1))(hs:Sd L step ents r w x)(hw:(r,w)∈ents)(hx:(x:Int)<L)
  (bM:ok (step r x)):B L step st ok (put step r w ents x) i (Au L w*L+((x+1:Nat):Int)+1)/\Sd L step (put step r w ents x) r w (x+1):=by
 unfold put
 by_cases hm:step r x∈ents.map (·.1)
 ·rw[if_pos hm]
  refine⟨h.up (by push_cast;lia),fun y gd fe=>?_⟩
  by_cases ik:y<x
  ·exact hs y gd ik
  ·have e:y=x:=by push_cast at fe;lia
   subst e
   obtain⟨e',dN,e1⟩:=jt_.mp hm
   refine⟨e',dN,e1,?_⟩
   have:=h.bnd e' dN
   rw[CI];lia
 ·rw[if_neg hm]
  refine⟨(h.add hw ⟨by lia,hx⟩ (xS_ _) bM hm).up (by push_cast;lia),fun y gd fe=>?_⟩
  by_cases ik:y<x
  ·obtain⟨e',m,q⟩:=hs y gd ik
   exact⟨e',j2_ _ m,q⟩
  ·have e:y=x:=by push_cast at fe;lia
   subst e
   exact⟨_,jy_ _ jn_,rfl,xS_ _⟩
def B.next (hL:0<L){m:Nat}{w:α2}{r:α}(h:B L step st ok ents i (Au L w*L+m+1))(hm:(m:Int)=L)(hs:Sd L step ents r w m)(hw:ents[i]?=some (r,w)):
  B L step st ok ents (i+1) (Au L w*L+L+1)/\∀e,ents[i+1]?=some e->Au L w*L+L+1<=Au L e.2*L+1:=by
 have hi:=(jb_.mp hw).1
 rw[hm]at h
 refine⟨⟨h.hd,hi,h.sh,h.nod,h.rng,h.wd,h.inc,h.bnd,fun j hj e he x h0 h1=>?_⟩,fun e he=>?_⟩
 ·by_cases iw:j<i
  ·exact h.don j iw e he x h0 h1
  ·have e1:j=i:=by lia
   subst e1
   rw[hw]at he
   cases he
   exact hs x h0 s!""
 ·have:=h.inc i (i+1) _ _ (x6_ _) hw he
  have h2:=j0_ (show Au L w+1<=Au L e.2 from this) (xr_ hL)
  rw[zL_]at h2
  lia
def Se {r:α}{w:α2}{x j:Nat}{e:α×α2}(h:ents[j]?=some e):(put step r w ents x)[j]?=some e:=by
 unfold put
 split
 ·exact h
 ·rw[jd_ (jb_.mp h).1];exact h
def B.least (h:B L step st ok ents ents.length top){ws:α2}(hv:isW L ws=true):∀i,i<=ws.length->∃w',(Gg step st (ws.take i),w')∈ents/\Au L w'<=Au L (ws.take i)
 |0,_=>⟨[],by simpa [Gg] using jc_ h.hd,by simp⟩
 |i+1,hi=>by
  obtain⟨w',m,hp⟩:=B.least h hv i s!""
  have cj:ws[i]?=some ws[i]:=by simp
  have bN:=Ay.mp hv ws[i] (j3_ _)
  obtain⟨j,hj,ej⟩:=jO_ m
  obtain⟨e',me,e1,e2⟩:=h.don j hj _ (by rw[jh_ hj,ej]) ws[i] bN.1 bN.2
  obtain⟨g,v⟩:=e'
  have e1:g=step (Gg step st (ws.take i)) ws[i]:=e1
  have e2:Au L v<=Au L (w'++[ws[i]]):=e2
  have et:ws.take (i+1)=ws.take i++[ws[i]]:=by rw[jQ_,cj];rfl
  have hL:0<=L:=by lia
  refine⟨v,?_,?_⟩
  ·rw[et,Jm,<-e1];exact me
  ·rw[et]
   rw[CI]at e2 ⊢
   have:=j0_ hp hL
   lia
def B.leastW (h:B L step st ok ents ents.length top)  (hv:isW L ws=true):∃w',(Gg step st ws,w')∈ents/\Au L w'<=Au L ws:=by
 have:=h.least hv ws.length (jg_ _)
 rwa [jP_]at this
def Fm (w1 w2:α1)(p:Int×Int)(x:Int):Int×Int:=(Bm w1 p.1 x,Bm w2 p.2 x)
def okP (n m:Nat)(p:Int×Int):Prop:=(0<=p.1/\p.1<(n:Int))/\(0<=p.2/\p.2<(m:Int))
def Bu (ae:α1)(r:Int)(ws:α2):Int:=ws.foldl (Bm ae) r
def BH (ae:α1)(ws:α2):Bu ae 0 ws=AB ae ws:=rfl
def A2 (ae:α1)(r x:Int)(ws:α2):Bu ae r (x::ws)=Bu ae (Bm ae r x) ws:=rfl
def Og (ae:α1)(r x:Int)(ws:α2):Bu ae r (ws++[x])=Bm ae (Bu ae r ws) x:=by
 unfold Bu
 rw[qu_];rfl
def Oh {ae:α1}{ws:α2}{i:Nat}{x r:Int}(h:ws[i]?=some x):Bu ae r (ws.take (i+1))=Bm ae (Bu ae r (ws.take i)) x:=by
 rw[jQ_,h]
 exact Og _ _ _ _
def UZ (w1 w2:α1):∀(ws:α2) (p:Int×Int),Gg (Fm w1 w2) p ws=(Bu w1 p.1 ws,Bu w2 p.2 ws)
 |[],p=>rfl
 |x::ws,p=>by rw[Of,UZ w1 w2 ws,A2,A2];rfl
def J7 {L:Int}{aa:α2}{ae:α1}(wf:Wf L aa ae):∀(ws:α2) {r:Int},isW L ws=true->0<=r->r<aa.length->0<=Bu ae r ws/\Bu ae r ws<aa.length
 |[],r,_,h0,h1=>⟨h0,h1⟩
 |x::ws,r,hv,h0,h1=>by
  have hx:=Ay.mp hv x jn_
  obtain⟨_,g,_,_,h,g0,g1⟩:=wf.step h0 h1 hx.1 hx.2
  rw[A2,h]
  exact J7 wf ws (Ay.mpr fun y hy=>Ay.mp hv y (jl_ _ hy)) g0 g1
def Sf (n m:Nat){l:List (Int×Int)}(hn:l.Nodup)(h:∀p∈l,okP n m p):l.length<=n*m:=by
 have hk:∀p∈l.map (fun p:Int×Int=>p.1*m+p.2),0<=p/\p<((n*m:Nat):Int):=fun q hq=>by
  obtain⟨p,hp,rfl⟩:=jt_.mp hq
  obtain⟨⟨a0,a1⟩,b0,b1⟩:=h p hp
  have h1:=x3_ a0 (show (0:Int)<=m by lia)
  have h2:=j0_ (show p.1<=(n:Int)-1 by lia) (show (0:Int)<=m by lia)
  rw[Int.sub_mul]at h2
  push_cast
  exact⟨by show 0<=p.1*m+p.2;lia,by show p.1*m+p.2<_;lia⟩
 have hd:(l.map (fun p:Int×Int=>p.1*m+p.2)).Nodup:=by
  refine xj_.mpr (ze_ (fun {a b} ha hb cm z=>cm ?_) hn)
  obtain⟨⟨a0,a1⟩,b0,b1⟩:=h a ha
  obtain⟨⟨c0,c1⟩,d0,d1⟩:=h b hb
  have z:a.1*m+a.2=b.1*m+b.2:=z
  have e1:a.1=b.1:=by
   have q1:(a.1*m+a.2) / m=a.1:=by rw[vt,rS _ _ s!"",rT b0 b1];lia
   have q2:(b.1*m+b.2) / m=b.1:=by rw[vt,rS _ _ s!"",rT d0 d1];lia
   rw[<-q1,<-q2,z]
  rw[e1]at z
  exact z6_ e1 s!""
 have:=FE (n*m) hd hk
 simpa using this
def B.lenP   {st:Int×Int}{ents:List ((Int×Int)×α2)}   (h:B L (Fm w1 w2) st (okP n m) ents i top):ents.length<=n*m:=by
 have:=Sf n m h.nod (fun p hp=>by
  obtain⟨e,he,rfl⟩:=jt_.mp hp
  exact h.rng e he)
 simpa using this
end GB
namespace L2
open PySem PySem.Spec PyProof.Rows GW GB
def TK (H H':Hp):Prop:=∀b xs,H b=some (.tup xs)->H' b=some (.tup xs)
def TK.refl (H:Hp):TK H H:=fun _ _ h=>h
def TK.of  (s:Same H H'):TK H H':=fun b xs h=>s b _ h
def TK.trans  (a:TK H H')(b:TK H' iy):TK H iy:=fun c xs h=>b c xs (a c xs h)
def TK.new    (h:H p=none):TK H (upd H p o):=TK.of (Same.new h)
def TK.lst {H:Hp}{p:Addr}{o:HO}{xs:List V}(h:H p=some (.lst xs)):TK H (upd H p o):=fun b ys e=>by rw[Ah (fun z=>by rw[z,h]at e;cases e)];exact e
def TK.dT {H:Hp}{p:Addr}{o:HO}{kvs:List (List Key×V)}(h:H p=some (.dT kvs)):TK H (upd H p o):=fun b ys e=>by rw[Ah (fun z=>by rw[z,h]at e;cases e)];exact e
def keyP (p:Int×Int):List Key:=[qX p.1,qX p.2]
def Sg  (h:keyP p=keyP q):p=q:=by
 unfold keyP at h
 injection h with h1 h2
 injection h2 with h2 _
 injection h1 with h1
 injection h2 with h2
 exact z6_ h1 h2
def U0 {κ:Type}[DecidableEq κ]{kvs:List (κ×V)}{i:Nat}{k:κ}{v:V}(hn:(kvs.map (·.1)).Nodup)(h:kvs[i]?=some (k,v)):valV kvs k=some v:=by
 induction kvs generalizing i with
 |nil=>simp at h
 |cons p r ih=>
  rw[jZ_,qD_]at hn
  cases i with
  |zero=>simp at h;subst h;exact Hj rfl
  |succ i=>
   have h':r[i]?=some (k,v):=by simpa using h
   rw[Hk (fun z=>hn.1 (jt_.mpr ⟨(k,v),jc_ h',z.symm⟩))]
   exact ih hn.2 h'
def E5 (H:Hp)(ps:List (Int×Int))(rs:List V):Prop:=rs.length=ps.length/\∀(i:Nat) (p:Int×Int),ps[i]?=some p->∃b,rs[i]?=some (.ref b)/\H b=some (.tup [.int p.1,.int p.2])
def E5.mono    (h:E5 H ps rs)(k:TK H H'):E5 H' ps rs:=by
 refine⟨h.1,fun i p hp=>?_⟩
 obtain⟨b,h1,h2⟩:=h.2 i p hp
 exact⟨b,h1,k _ _ h2⟩
def E5.snoc    (h:E5 H ps rs)   (hb:H b=some (.tup [.int p.1,.int p.2])):E5 H (ps++[p]) (rs++[.ref b]):=by
 refine⟨by rw[jk_,jk_,h.1];rfl,fun i q hi=>?_⟩
 by_cases ee:i<ps.length
 ·rw[jd_ ee]at hi
  rw[jd_ (by rw[h.1];exact ee)]
  exact h.2 i q hi
 ·have:=(jb_.mp hi).1
  rw[jk_,jR_]at this
  have ei:i=ps.length:=by lia
  subst ei
  rw[jm_ (jg_ _),qb_]at hi
  simp at hi
  subst hi
  refine⟨b,?_,hb⟩
  rw[jm_ (by rw[h.1];exact jg_ _),h.1,qb_];rfl
end L2
namespace L2
theorem Qv    : PN σ H Q=∀p,H p=none->Q (.ref p) (upd H p (.dK [])):=rfl
theorem Qw    : PQ σ H Q=∀p,H p=none->Q (.ref p) (upd H p (.dT [])):=rfl
end L2
namespace GB
open GW
def J8   : isW L (x::w)=true↔(0<=x/\x<L)/\isW L w=true:=by
 rw[Ay,Ay]
 simp
def Sh   (h:isW L w=true)(j:Nat):isW L (w.take j)=true:=Ay.mpr fun x hx=>Ay.mp h x (xh_ hx)
def BN   (h:isW L v=true)(g:isW L w=true):isW L (v++w)=true:=Ay.mpr fun x hx=>(jw_.mp hx).elim (Ay.mp h x) (Ay.mp g x)
end GB
namespace L2
open GW
def Qx (n:Nat)(num:Int):α2:=0::(qV (n-1)).map fun j:Nat=>1+((j:Int)+num)%((n:Int)-1)
def Qy  (hn:2<=n)(num:Int):C7 n (Qx n num):=by
 have rng:∀j:Nat,0<=((j:Int)+num)%((n:Int)-1)/\((j:Int)+num)%((n:Int)-1)<(n:Int)-1:=fun j=>⟨qo_ _ s!"",j5_ _ s!""⟩
 refine⟨HX ?_ (fun x hx=>?_) ?_,rfl⟩
 ·unfold Qx
  rw[qD_]
  refine⟨fun h=>?_,?_⟩
  ·obtain⟨j,_,e⟩:=jt_.mp h
   have:=rng j
   lia
  ·refine xj_.mpr (ze_ (fun {a b} ha hb cm z=>cm ?_) zz_)
   have ha:=jF_.mp ha
   have hb:=jF_.mp hb
   have z:((a:Int)+num)%((n:Int)-1)=((b:Int)+num)%((n:Int)-1):=by lia
   have key:∀{a b:Nat},b<=a->a<n-1->((a:Int)+num)%((n:Int)-1)=((b:Int)+num)%((n:Int)-1)->a=b:=fun {a b} h1 h2 z=>by
    have:=Int.emod_eq_emod_iff_emod_sub_eq_zero.mp z
    rw[show (a:Int)+num-((b:Int)+num)=(a:Int)-b by lia,Int.emod_eq_of_lt s!"" s!""]at this
    lia
   rcases vv b a with h|h
   ·exact key h ha z
   ·exact (key h hb z.symm).symm
 ·rw[Qm]
  unfold Qx at hx
  rcases jB_.mp hx with rfl|hx
  ·lia
  ·obtain⟨j,_,rfl⟩:=jt_.mp hx
   have:=rng j
   lia
 ·unfold Qx
  rw[Qn];simp;lia
end L2
namespace L2
open PySem PySem.Spec PyProof.Rows GW
def LLs (H0 H:Hp)(xs:List V)(ws:α1):Prop:=∃ts:List Addr,xs=ts.map V.ref/\ts.length=ws.length/\ts.Nodup/\(∀(i:Nat) (t:Addr) (w:α2),ts[i]?=some t->ws[i]?=some w->H t=some (.lst (w.map V.int)))/\∀t∈ts,H0 t=none
def LLs.nil (H0 H:Hp):LLs H0 H [] []:=⟨[],rfl,rfl,sJ,fun i t w h=>by simp at h,fun t h=>by simp at h⟩
def LLs.mono    (h:LLs H0 H xs ws)(s:Same H H'):LLs H0 H' xs ws:=by
 obtain⟨ts,a,b,c,d,e⟩:=h
 exact⟨ts,a,b,c,fun i t w h1 h2=>s _ _ (d i t w h1 h2),e⟩
def LLs.len    (h:LLs H0 H xs ws):xs.length=ws.length:=by
 obtain⟨ts,a,b,_⟩:=h
 rw[a,ja_,b]
def LLs.snoc      (h:LLs H0 H xs ws)(h0:H0 p=none)(hp:H p=none):LLs H0 (upd H p (.lst (w.map V.int))) (xs++[.ref p]) (ws++[w]):=by
 obtain⟨ts,a,b,c,d,e⟩:=h
 have hts:∀t∈ts,t≠p:=fun t ht z=>by
  obtain⟨i,hi,ei⟩:=jO_ ht
  have:=d i t ws[i] (by rw[jh_ hi,ei]) (by simp[show i<ws.length by lia])
  rw[z,hp]at this;cases this
 refine⟨ts++[p],by rw[a];simp,by simp[b],?_,fun i t v h1 h2=>?_,fun t ht=>?_⟩
 ·rw[xX_]
  refine⟨c,by simp,fun x hx y hy=>?_⟩
  simp at hy;subst hy;exact hts x hx
 ·by_cases hi:i<ts.length
  ·rw[jd_ hi]at h1
   rw[jd_ s!""]at h2
   rw[Ah (hts t (jc_ h1))]
   exact d i t v h1 h2
  ·have:=(jb_.mp h1).1
   rw[jk_,jR_]at this
   have ei:i=ts.length:=by lia
   subst ei
   rw[jm_ (jg_ _),qb_]at h1
   rw[b,jm_ (jg_ _),qb_]at h2
   simp at h1 h2
   subst h1 h2
   exact Ab
 ·rcases jw_.mp ht with ht|ht
  ·exact e t ht
  ·rw[jq_.mp ht];exact h0
def LLs.at    (h:LLs H0 H xs ws)   (hw:ws[i]?=some w):∃t,xs[i]?=some (.ref t)/\H t=some (.lst (w.map V.int))/\H0 t=none/\∀j x,LLs H0 (upd H t (.lst ((w.set j x).map V.int))) xs (ws.set i (w.set j x)):=by
 obtain⟨ts,a,b,c,d,e⟩:=h
 have hi:i<ts.length:=by rw[b];exact (jb_.mp hw).1
 have ht:ts[i]?=some ts[i]:=by simp[hi]
 refine⟨ts[i],by rw[a,je_,ht];rfl,d i _ w ht hw,e _ (j3_ hi),fun j x=>⟨ts,a,by rw[qO_];exact b,c,fun k t v h1 h2=>?_,e⟩⟩
 by_cases hk:k=i
 ·subst hk
  rw[ht]at h1;cases h1
  rw[qM_ s!""]at h2;cases h2
  exact Ab
 ·have ay:t≠ts[i]:=fun z=>hk (by
   have dR:=(jb_.mp h1).1
   refine (xL_ (h₀:=dR) (h₁:=hi) c).mp ?_
   rw[<-z]
   exact (jb_.mp h1).2)
  rw[xf_ (qn_ hk)]at h2
  rw[Ah ay]
  exact d k t v h1 h2
def Same.none  (s:Same H H')  (h:H' p=none):H p=none:=by
 cases e:H p with
 |none=>rfl
 |some u=>rw[s _ _ e]at h;cases h
def Si {K:α3}         (hl:SqL K H a xs)(ak:xs.length=ws.length)(e:cp.st σ=rJ::ag)(hz:xs.length<sizeLine)
  (hs:∀(i:Nat) (x:V) (w:α2) H2,Same H H2->xs[i]?=some x->ws[i]?=some w->∀R:VK,(∀p H3,Same H2 H3->SqT K H3 p (w.map V.int)->R (.ref p) H3)->te (some x::ag) H2 R)
  (hd:∀H2 D ys,Same H H2->H2 D=rJ->CB K (upd H2 D (.lst ys)) D ws->Q (.ref D) (upd H2 D (.lst ys))):K4 (Itl K a) cp (Fz 0) N9 te σ H Q:=by
 refine IU (xs:=xs) (fun i ys aj H2=>Same H H2/\(∃ts:List Addr,ys=ts.map V.ref/\ts.length=i/\∀(j:Nat) (t:Addr) (w:α2),ts[j]?=some t->ws[j]?=some w->SqT K H2 t (w.map V.int))/\∃o,aj=o::ag) ⟨Same.refl _,⟨[],rfl,rfl,fun j t w h=>by simp at h⟩,rJ,e⟩ hz (fun i ys aj H2 hi h=>?_) (fun i x ys aj H2 hx h=>?_) (fun ys aj H2 h=>?_)
 ·obtain⟨s,⟨ts,rfl,hm,_⟩,_⟩:=h
  exact⟨s.seq hl,by rw[ja_];lia⟩
 ·obtain⟨s,⟨ts,rfl,hm,ht⟩,o,rfl⟩:=h
  have hi:i<ws.length:=by rw[<-ak];exact (jb_.mp hx).1
  refine hs i x ws[i] H2 s hx (by simp[hi]) _ fun p H3 s3 hp=>⟨s.trans s3,⟨ts++[p],by simp,by simp[hm],fun j t w h1 h2=>?_⟩,some x,rfl⟩
  by_cases hj:j<ts.length
  ·rw[jd_ hj]at h1
   exact s3.seqT (ht j t w h1 h2)
  ·have:=(jb_.mp h1).1
   rw[jk_,jR_]at this
   have ej:j=i:=by lia
   subst ej
   rw[<-hm,jm_ (jg_ _),qb_]at h1
   simp at h1
   subst h1
   rw[jh_ hi]at h2
   cases h2
   exact hp
 ·obtain⟨s,⟨ts,rfl,hm,ht⟩,_⟩:=h
  exact fun D hD=>hd H2 D _ s hD ⟨ts,Ab,by lia,fun j t w h1 h2=>(Same.new hD).seqT (ht j t w h1 h2)⟩
end L2
namespace GW
def Wf.setM    (wf:Wf L aa ae)(r:Nat)  (h:0<=m/\m<=1000000000):Wf L (aa.set r m) ae:=by
 refine⟨wf.l1,wf.l6,by rw[qO_];exact wf.n1,by rw[qO_];exact wf.n40,by rw[qO_];exact wf.len,fun row hr=>?_,fun x hx=>?_⟩
 ·rw[qO_];exact wf.rows row hr
 ·rcases x4_ hx with hx|rfl
  ·exact wf.mks x hx
  ·exact h
def Wf.setW {L:Int}{aa:α2}{ae:α1}(wf:Wf L aa ae){i:Nat}{row:α2}(hr:ae[i]?=some row)(j:Nat){g:Int}(h:0<=g/\g<aa.length):Wf L aa (ae.set i (row.set j g)):=by
 refine⟨wf.l1,wf.l6,wf.n1,wf.n40,by rw[qO_];exact wf.len,fun x hx=>?_,wf.mks⟩
 rcases x4_ hx with hx|rfl
 ·exact wf.rows x hx
 ·have:=wf.rows row (jc_ hr)
  refine⟨by rw[qO_];exact this.1,fun y hy=>?_⟩
  rcases x4_ hy with hy|rfl
  ·exact this.2 y hy
  ·exact h
end GW
namespace L2
open PySem GW
def LLs.off      (h:LLs H0 H xs ws)(hp:H0 p=some u):LLs H0 (upd H p o) xs ws:=by
 obtain⟨ts,a,b,c,d,e⟩:=h
 refine⟨ts,a,b,c,fun i t w h1 h2=>?_,e⟩
 rw[Ah (fun z=>by have:=e t (jc_ h1);rw[z,hp]at this;cases this)]
 exact d i t w h1 h2
end L2
namespace L2
open PySem PySem.Spec PyProof.Rows
def Mh:∀(names:List (Str×NameKind)) (h:Heap) (ai:List (Str×Addr)) (x:Str) (c:Addr),(cellsFrom h.objs.size names ai).lookup x=some c->((pushCells h names).IsCell c none/\h.objs.size<=c)\/ai.lookup x=some c
 |[],_,_,_,_,e=>.inr e
 | (y,k)::r,h,ai,x,c,e=>by
  unfold cellsFrom at e
  unfold pushCells
  by_cases hk:(k == .cell)=true
  ·rw[if_pos hk]at e ⊢
   have e':(cellsFrom (h.push {cls:=.type "cell",data:=.cell none}).objs.size r ((y,h.objs.size)::ai)).lookup x=some c:=by rw[qz_];exact e
   rcases Mh r _ _ x c e' with ⟨a,b⟩|q
   ·rw[qz_]at b
    exact .inl ⟨a,xF_ b⟩
   ·rw[j7_]at q
    cases hx:x==y with
    |true=>
     rw[hx]at q
     have:h.objs.size=c:=jr_ q
     subst this
     exact .inl ⟨⟨_,pushCells_keeps _ _ _ _ (jH_ _ rfl),rfl⟩,jg_ _⟩
    |false=>rw[hx]at q;exact .inr q
  ·rw[if_neg hk]at e ⊢
   exact Mh r h ai x c e
def Hn:∀(names:List (Str×NameKind)) (n:Nat) (ai:List (Str×Addr)) (x:Str) (c:Addr),(cellsFrom n names ai).lookup x=some c->n<=c\/ai.lookup x=some c
 |[],_,_,_,_,e=>.inr e
 | (y,k)::r,n,ai,x,c,e=>by
  unfold cellsFrom at e
  by_cases hk:(k == .cell)=true
  ·rw[if_pos hk]at e
   rcases Hn r _ _ x c e with b|q
   ·exact .inl (xF_ b)
   ·rw[j7_]at q
    cases hx:x==y with
    |true=>rw[hx]at q;have:n=c:=jr_ q;exact .inl (rV this)
    |false=>rw[hx]at q;exact .inr q
  ·rw[if_neg hk]at e
   exact Hn r n ai x c e
def Qz:∀(names:List (Str×NameKind)) (n:Nat) (ai:List (Str×Addr)),(∀x y c,ai.lookup x=some c->ai.lookup y=some c->x=y)->(∀x c,ai.lookup x=some c->c<n)->∀x y c,(cellsFrom n names ai).lookup x=some c->(cellsFrom n names ai).lookup y=some c->x=y
 |[],_,_,hi,_,x,y,c,e1,e2=>hi x y c e1 e2
 | (z,k)::r,n,ai,hi,hb,x,y,c,e1,e2=>by
  unfold cellsFrom at e1 e2
  by_cases hk:(k == .cell)=true
  ·rw[if_pos hk]at e1 e2
   refine Qz r (n+1) ((z,n)::ai) (fun x y c h1 h2=>?_) (fun x c h=>?_) x y c e1 e2
   ·rw[j7_]at h1 h2
    cases hx:x==z with
    |true=>
     cases hy:y==z with
     |true=>rw[z1_.mp hx,z1_.mp hy]
     |false=>
      rw[hx]at h1;rw[hy]at h2
      have e:n=c:=jr_ h1
      exact absurd (hb y c h2) (by rw[<-e];exact j8_ _)
    |false=>
     cases hy:y==z with
     |true=>
      rw[hx]at h1;rw[hy]at h2
      have e:n=c:=jr_ h2
      exact absurd (hb x c h1) (by rw[<-e];exact j8_ _)
     |false=>rw[hx]at h1;rw[hy]at h2;exact hi x y c h1 h2
   ·rw[j7_]at h
    cases hx:x==z with
    |true=>rw[hx]at h;have e:n=c:=jr_ h;rw[<-e];exact x6_ _
    |false=>rw[hx]at h;exact xi_ (hb x c h)
  ·rw[if_neg hk]at e1 e2
   exact Qz r n ai hi hb x y c e1 e2
def Mi:∀(names:List (Str×NameKind)) (n:Nat) (ai:List (Str×Addr)) (x:Str),(∀p∈names,p.1=x->p.2 ≠ .cell)->(cellsFrom n names ai).lookup x=ai.lookup x
 |[],_,_,_,_=>rfl
 | (y,k)::r,n,ai,x,h=>by
  unfold cellsFrom
  by_cases hk:(k == .cell)=true
  ·rw[if_pos hk,Mi r _ _ x fun p hp=>h p (jl_ _ hp),j7_]
   cases hx:x==y with
   |true=>exact absurd (z1_.mp hk) (h (y,k) jn_ (z1_.mp hx).symm)
   |false=>rfl
  ·rw[if_neg hk]
   exact Mi r n ai x fun p hp=>h p (jl_ _ hp)
def Lg      {globals:Addr}
  (hQ:Q {scope:=sc,locals:=s.heap.objs.size,globals,cells:=cellsFrom (s.heap.objs.size+1) sc.names cl,qual,func:=none,code:=outer.code,frame:=outer.frame,builtins:=outer.builtins} {s with heap:=pushCells (s.heap.push {cls:=.type "dict",data:=.dict #[]}) sc.names}):
  wpAny M A (newFunctionEnv sc globals cl [] qual none .none (some outer)) Q E s:=by
 simp only[newFunctionEnv,zh_,zs_]
 refine jf_ (wpAny_alloc (jf_ (wpAny_layCells _ (fun name kind cells=>by cases jB:kind==NameKind.cell<;>simp[jB]) _ _ _ _ ?_)))
 rw[show ({s with heap:=s.heap.push {cls:=.type "dict",data:=.dict #[]} }:Shared).heap.objs.size=s.heap.objs.size+1 from qz_ ..]
 refine jf_ ?_
 rw[zW_]
 exact ju_ (ju_ hQ)
abbrev ownC (X:Cx)(sc:Scope)(C:Addr):List (Str×Addr):=cellsFrom (C+1) sc.names (clOf X.env sc.names [])
abbrev Cx.blkC (X:Cx)(N:List Str)(sc:Scope)(C:Addr)(s₀:Shared)(H₀:Hp)(ex:List Addr):Cx:=
 {X with N:=N,env:=compEnvC sc (ownC X sc C) C X.env,outer:=X.stack,s₀:=s₀,H₀:=H₀,ex:=ex,fn:=fun x=>sc.names.lookup x==some .cell,pn:=[],xe:=fun _ _=>False}
def Ib {env:Env}:∀(l:List (Str×NameKind)) (ai:List (Str×Addr)) (x:Str) (c:Addr),(x,c)∈clOf env l ai->(x,NameKind.free)∈l\/(x,c)∈ai
 |[],_,_,_,h=>.inr h
 | (n,k)::r,ai,x,c,h=>by
  unfold clOf at h
  by_cases hk:(k == .free)=true
  ·rw[if_pos hk]at h
   rcases Ib r _ x c h with q|q
   ·exact .inl (jl_ _ q)
   ·rcases jB_.mp q with q|q
    ·cases q
     rw[z1_.mp hk]
     exact .inl jn_
    ·exact .inr q
  ·rw[if_neg hk]at h
   rcases Ib r _ x c h with q|q
   ·exact .inl (jl_ _ q)
   ·exact .inr q
structure BlkScC (X:Cx)(sc:Scope):Prop where
 kind:sc.kind=.function
 one:∀y∈sc.names,∀z∈sc.names,y.1=z.1->y.2=z.2
 loc:∀y∈sc.names,y.2=.local->sc.names.lookup y.1=some .local
 free:∀y∈sc.names,y.2=.free->X.env.kindOf y.1=some .cell\/X.env.kindOf y.1=some .free
section
variable {X:Cx} {af:α7} {σ:St} {H:Hp} {s:Shared} {sc:Scope} {fp:List Addr}
def Jn (I:Inv X af σ H s)(S:BlkScC X sc):∀p∈sc.names,p.2=.free->∃c,X.env.cells.lookup p.1=some c:=fun p hp e=>I.ok.has p.1 (S.free p hp e)
def Ds (I:Inv X af σ H s)(S:BlkScC X sc)   (h:(clOf X.env sc.names []).lookup x=some c):X.env.cells.lookup x=some c:=
 Hl sc.names [] (Jn I S) (fun q hq=>by cases hq) (x,c) (qh_ h)
def Gh  (I:Inv X af σ H s)(S:BlkScC X sc)   (h:(ownC X sc C).lookup x=some c):C+1<=c\/X.env.cells.lookup x=some c:=by
 rcases Hn _ _ _ _ _ h with q|q
 ·exact .inl q
 ·exact .inr (Ds I S q)
def Dt {env:Env}:∀{names:List (Str×NameKind)} {x:Str} {k:NameKind},(names.map (relF env)).lookup x=some k->(k=.cell\/k=.free)->(x,NameKind.free)∈names\/names.lookup x=some .cell
 |[],_,_,h,_=>by simp at h
 | (n,k')::r,x,k,h,hk=>by
  have ih := @Dt env r x k
  rw[jZ_]at h
  rw[j7_]
  by_cases hb:(k'==NameKind.free&&env.scope.kind == .function&&env.kindOf n==some .cell)=true
  ·rw[Hm hb,j7_]at h
   cases hx:x==n with
   |true=>
    have e:x=n:=by simpa using hx
    subst e
    have e2:k'=.free:=by
     simp only[qe_]at hb
     simpa using hb.1.1
    subst e2
    exact .inl jn_
   |false=>
    rw[hx]at h
    rcases ih h hk with q|q
    ·exact .inl (jl_ _ q)
    ·exact .inr q
  ·rw[JT hb,j7_]at h
   cases hx:x==n with
   |true=>
    rw[hx]at h
    have e:x=n:=by simpa using hx
    subst e
    have e2:k'=k:=jr_ h
    subst e2
    rcases hk with rfl|rfl
    ·exact .inr rfl
    ·exact .inl jn_
   |false=>
    rw[hx]at h
    rcases ih h hk with q|q
    ·exact .inl (jl_ _ q)
    ·exact .inr q
def U1 {N:List Str}{C:Addr}(I:Inv X af σ H s)(S:BlkScC X sc)(hC:s.heap.objs.size<=C)(hf:∀b∈fp,FpOk X af H b)(ho:∀b∈fp,∃o,s.heap.get? b=some o):(X.blkC N sc C s H fp).Ok where
 mod:=I.ok.mod
 kind:=S.kind
 glob:=I.ok.glob
 blt:=I.ok.blt
 above:=hC
 inj:=fun x y c h1 h2=>by
  refine Qz sc.names (C+1) (clOf X.env sc.names []) (fun x y c h1 h2=>I.ok.inj x y c (Ds I S h1) (Ds I S h2)) (fun x c h=>?_) x y c h1 h2
  obtain⟨v,q⟩:=I.cell x c (Ds I S h)
  exact xi_ (jz_ q.lt hC)
 has:=fun x hx=>by
  have eX:(x,NameKind.free)∈sc.names\/sc.names.lookup x=some .cell:=by
   rcases hx with hx|hx
   ·exact Dt (env:=X.env) hx (.inl rfl)
   ·exact Dt (env:=X.env) hx (.inr rfl)
  refine Option.isSome_iff_exists.mp (xN_ sc.names (C+1) (clOf X.env sc.names []) ?_)
  rcases eX with q|q
  ·obtain⟨c,hc⟩:=EI (env:=X.env) sc.names [] x (.inl q)
   obtain⟨c',e⟩:=Bf hc
   exact .inr (by rw[e];rfl)
  ·exact .inl q
 cab:=fun x c h e=>by
  have hx:sc.names.lookup x=some .cell:=by simpa using h
  rcases Hn _ _ _ _ _ e with q|q
  ·exact qm_ hC (xF_ q)
  ·rcases Ib _ _ _ _ (qh_ q) with z|z
   ·have:=S.one _ (qh_ hx) _ z rfl
    cases this
   ·cases z
 hd:=I.ok.hd
 frames:=I.ok.frames
 stk:=.inl rfl
 exf:=fun b hb=>by
  obtain⟨o,ho⟩:=ho b hb
  refine⟨jL_ (jz_ (js_ ho) hC),fun x c h=>?_⟩
  rcases Gh I S h with q|q
  ·intro z;rw[z]at q;exact absurd (jz_ (js_ ho) hC) (tY (xF_ q))
  ·exact (hf b hb).2.2.2.2.1 x c q
 bs:=I.bs
 bsz:=qm_ I.ok.bsz I.sz
 noex:=fun b o e hb=>by
  rcases (hf b hb).2.2.2.1 with z|z
  ·exact I.ok.noex b o e z
  ·exact absurd (jz_ (js_ (I.ok.bs b o e).1) z) (j8_ _)
 exfs:=fun b hb z=>by
  rcases jB_.mp (I.stkSub b z) with e|e
  ·exact (hf b hb).2.1 e
  ·exact (hf b hb).2.2.1 e
 funs:=I.stack
 frf:=I.stkFree
def Oi {c:Caps}{C:Addr}{s4:Shared}{m:Str->α5}(I:Inv X af σ H s)(S:BlkScC X sc)(hc:CK X.N sc c)(hC:s.heap.objs.size<=C)(hf:∀b∈fp,FpOk X af H b)(ho:∀b∈fp,∃o,s.heap.get? b=some o)
  (dJ:s4.os=s.os) (hb:s4.gens=s.gens) (hk:∀b o,s.heap.get? b=some o->s4.heap.get? b=some o) (hn:s4.heap.Ns C m)
  (bL:∀x c,(ownC X sc C).lookup x=some c->(s4.heap.IsCell c none/\C+1<=c)\/(clOf X.env sc.names []).lookup x=some c):Inv (X.blkC c.names sc C s H fp) [] (c.st σ) H s4 where
 ok:=U1 I S hC hf ho
 os:=dJ
 bare:=by rw[hb];exact I.bare
 base:=Un.kept hk
 loc:=by
  refine⟨m,hn,fun i x v h1 h2 hv=>?_⟩
  have fY:(c.map (·.1))[i]?=some x:=h1
  have fZ:(c.map fun p=>p.2.bind fun j=>(σ[j]?).join)[i]?=some (some v):=h2
  rw[je_]at fY fZ
  cases e:c[i]? with
  |none=>rw[e]at fY;cases fY
  |some p=>
   obtain⟨y,oj⟩:=p
   rw[e]at fY fZ
   have e1:y=x:=jr_ fY
   subst e1
   have e2:(oj.bind fun j=>(σ[j]?).join)=some v:=jr_ fZ
   cases oj with
   |none=>cases e2
   |some j=>
    have e3:(σ[j]?).join=some v:=e2
    have e4:σ[j]?=some (some v):=by
     cases q:σ[j]? with
     |none=>rw[q]at e3;cases e3
     |some z=>rw[q]at e3;exact jC_ some e3
    obtain⟨k1,k2⟩:=CK.get hc e
    have jC:=qh_ k2
    have k3:X.env.kindOf y=some .cell\/X.env.kindOf y=some .free:=S.free (y,.free) jC rfl
    have l7:Vis X.env.scope y:=by
     rcases k3 with k|k
     ·exact .inr (.inl k)
     ·exact .inr (.inr k)
    obtain⟨mX,hnX,hl⟩:=I.loc
    obtain⟨u,r,l⟩:=hl j y v k1 e4 l7
    refine⟨u,r,?_⟩
    rcases l with ⟨k,_⟩|⟨_,ca,oO,z⟩
    ·rcases k3 with k' | k'<;>(rw[k]at k';cases k')
    ·obtain⟨kd,mh,ek⟩:=Eb (env:=X.env) k2
     have eY:(compEnvC sc (ownC X sc C) C X.env).kindOf y=some kd:=ek
     obtain⟨c',fH⟩:=EI (env:=X.env) sc.names [] y (.inl jC)
     obtain⟨c2,cu⟩:=Bf fH
     have e5:=Ds I S cu
     rw[oO]at e5
     have e6:ca=c2:=jr_ e5
     subst e6
     have e7:(ownC X sc C).lookup y=some ca:=by
      rw[Mi sc.names (C+1) _ y fun p hp ep z=>?_]
      ·exact cu
      ·have:=S.one p hp (y,.free) jC ep
       rw[z]at this;cases this
     refine .inr ⟨?_,ca,e7,?_⟩
     ·rcases mh with rfl|rfl
      ·exact .inl eY
      ·exact .inr eY
     ·obtain⟨oc,dI,hd⟩:=z
      exact⟨oc,hk _ _ dI,hd⟩
 cell:=fun x ca h=>by
  rcases bL x ca h with ⟨q,_⟩|q
  ·exact⟨_,q⟩
  ·obtain⟨v,oc,dI,hd⟩:=I.cell x ca (Ds I S q)
   exact⟨v,oc,hk _ _ dI,hd⟩
 free:=I.hok.fresh hC
 freeC:=fun x ca h=>by
  rcases bL x ca h with ⟨_,q⟩|q
  ·exact I.hok.fresh (qm_ hC (xF_ q))
  ·exact I.freeC x ca (Ds I S q)
 pin:=fun p hp=>absurd (show p∈([]:α7) from hp) (by simp)
 hok:=I.hok.kept hk
 len:=by show (c.map _).length=(c.map _).length;rw[ja_,ja_]
def Sj {c:Caps}{C D:Addr}{s':Shared}{ag:St}{H':Hp}{o:HO}(I:Inv X af σ H s)(J:Inv (X.blkC c.names sc C s H fp) [] ag H' s')(hf:∀b∈fp,FpOk X af H b)(hD:s.heap.objs.size<=D)(hn:H' D=none)
  (new:Bo X.prog X.w (upd H' D o) s'.heap D o):Inv X af σ (upd H' D o) s':=by
 have u:Un (frs X.stack) fp H H' s.heap s'.heap:=J.base
 exact I.call' J.os (u.track hD hn) (J.hok.track hn new) J.bare fun b hb=>⟨(hf b hb).2.2.2.1,(hf b hb).2.1,(hf b hb).2.2.2.2.1,(hf b hb).2.2.2.2.2⟩
end
section
variable {X:Cx} {tg iter cF:Expr} {cw:List Expr} {sc:Scope} {pos:Pos} {wi:TI} {cp:Caps} {g:TG} {tc:TT} {te:TE}
def Oj (hc:X.calm=true)(S:BlkScC X sc)(iu:CK X.N sc cp)
  (hg:∀C s₀ H₀ ex,PG (X.blkC cp.names sc C s₀ H₀ ex) tg g) (hf:∀C s₀ H₀ ex,PF (X.blkC cp.names sc C s₀ H₀ ex) cw tc) (he:∀C s₀ H₀ ex,PE (X.blkC cp.names sc C s₀ H₀ ex) cF te)
  {af:α7} {σ:St} {H:Hp} {s:Shared} {J:It} {it:Addr} {fp:List Addr} {tn:Nat->Heap->Prop} {Q:VK} {RR:Value->Addr->Result->Shared->Prop} {E:Value->Shared->Prop}
  (I:Inv X af σ H s) (T:Turn X.prog X.w X.K tg J fp it tn) (st:tn 0 s.heap) (eZ:∀b∈fp,FpOk X af H b)
  (hw:∃W:Nat->Nat->List V->St->Hp->Prop,(∃m,W 0 m [] (cp.st σ) H)/\∀i m ys ag H',W i m ys ag H' ->
   ys.length<sizeLine/\((J.stop i H'/\∀D,H' D=none->Q (.ref D) (upd H' D (.lst ys)))\/(J.go i H'/\∃N:List V->St->Hp->Prop,(∀zs aj H2,N zs aj H2->∃m',m'<m/\W (i+1) m' zs aj H2)/\∀x H2,J.yld i H' x H2->g x ag H2 fun aj H3=>tc aj H3 fun b H4=>
    if b=true then te aj H4 fun v H5=>N (ys++[v]) aj H5 else N ys aj H4)))
  (hR:∀D C s' H' (m:Str->α5),Inv X af σ H' s'->Q (.ref D) H'->s'.heap.Ns C m->H' C=none->C≠X.env.locals->X.s₀.heap.objs.size<=C->(∀x c,X.env.cells.lookup x=some c->c≠C)->(∀p∈X.pn++af,p.1≠C)->RR (.ref D) C (.ok .next) s'):
  wpAny (model X.prog X.w) X.A (newList []) (fun ai bj=>wpAny (model X.prog X.w) X.A (newFunctionEnv sc X.env.globals (clOf X.env sc.names []) [] X.env.qual none .none (some X.env)) (fun f6 jv=>
   codeAny (model X.prog X.w) X.A (.compStart (.ListComp cF [⟨tg,iter,cw,0⟩] sc pos) 0 (.ref it) ai {f6 with scope:=relabel sc X.env}) (RR ai f6.locals) jv) E bj) E s:=by
 obtain⟨W,⟨m0,w0⟩,turn⟩:=hw
 refine qT_ (Lg ?_)
 dsimp only
 generalize jw:s.heap.push {cls:=.type "list",dict:=none,data:=.seq ([]:List Value).toArray}=H2
 obtain⟨h₁,ef⟩:∃h₁,h₁=pushCells (H2.push {cls:=.type "dict",data:=.dict #[]}) sc.names:=⟨_,rfl⟩
 rw[<-ef]
 have hcells:∀x c,(ownC X sc H2.objs.size).lookup x=some c->(h₁.IsCell c none/\H2.objs.size+1<=c)\/(clOf X.env sc.names []).lookup x=some c:=fun x c e=>by
  have:=Mh sc.names (H2.push {cls:=.type "dict",data:=.dict #[]}) (clOf X.env sc.names []) x c (by rw[qz_];exact e)
  rw[qz_]at this
  rw[ef];exact this
 have bY:h₁.Ns H2.objs.size (fun _=>none):=by rw[ef];exact (Heap.Ns.new H2 (.type "dict")).keeps (pushCells_keeps _ _)
 have keep₁:∀b o,H2.get? b=some o->h₁.get? b=some o:=fun b o e=>by rw[ef];exact pushCells_keeps _ _ b o (jo_ _ e)
 have hC:H2.objs.size=s.heap.objs.size+1:=by rw[<-jw,qz_]
 have i8:s.heap.objs.size≠H2.objs.size:=by rw[hC];exact jL_ (x6_ _)
 have bJ:s.heap.objs.size<=H2.objs.size:=by rw[hC];exact z4_ _
 have below:∀b,b<s.heap.objs.size->b≠H2.objs.size:=fun b hb=>by rw[hC];exact jL_ (xi_ hb)
 have old:∀b o,s.heap.get? b=some o->h₁.get? b=some o:=fun b o e=>keep₁ b o (jw ▸ jo_ _ e)
 have bZ:h₁.get? s.heap.objs.size=some {cls:=.type "list",data:=.seq ([]:List Value).toArray 0}:=keep₁ _ _ (jw ▸ jH_ _ rfl)
 have b7:tn 0 h₁:=T.keep 0 _ _ st fun b _ o e=>old b o e
 have bI:∀b∈fp,∃o,s.heap.get? b=some o:=fun b hb=>let ⟨o,e,_⟩:=T.obj 0 _ st b hb;⟨o,e⟩
 have J0:Inv (X.blkC cp.names sc H2.objs.size s H fp) [] (cp.st σ) H {s with heap:=h₁}:=Oi I S iu bJ eZ bI rfl rfl old bY hcells
 have oP:∀b,s.heap.objs.size<=b->b∉frs X.stack:=fun b hb z=>by
  rcases jB_.mp (I.stkSub b z) with e|e
  ·exact absurd (jz_ I.lt (by rw[<-e];exact hb)) (j8_ _)
  ·exact I.nofs hb e
 have dt:∀b,s.heap.objs.size<=b->∀x c,X.env.cells.lookup x=some c->c≠b:=fun b hb x c e z=>by
  obtain⟨v,q⟩:=I.cell x c e
  exact absurd (jz_ q.lt (by rw[z];exact hb)) (j8_ _)
 have mj:∀{aX:α7} {H':Hp},(∀b∈fp,H' b=none)->(∀p∈aX,p.1∉fp)->∀b∈fp,FpOk (X.blkC cp.names sc H2.objs.size s H fp) aX H' b:=fun {aX H'} hn hp b hb=>by
  obtain⟨o,e⟩:=bI b hb
  refine⟨hn b hb,below b (js_ e),fun z=>?_,.inl hb,fun x c h=>(by
   rcases Gh I S h with q|q
   ·intro z;rw[z]at q;exact absurd (js_ e) (tY (qm_ bJ (xF_ q)))
   ·exact (eZ b hb).2.2.2.2.1 x c q),fun p lj z=>?_⟩
  ·rcases jB_.mp (I.stkSub b z) with e|e
   ·exact (eZ b hb).2.1 e
   ·exact (eZ b hb).2.2.1 e
  ·have jx:p∈aX:=by simpa using lj
   exact hp p jx (by rw[z];exact hb)
 have loop:∀bj:Shared,bj={s with heap:=h₁} ->
   codeAny (model X.prog X.w) X.A (.compLoop (.ListComp cF [⟨tg,iter,cw,0⟩] sc pos) 0 (.ref it) (.ref s.heap.objs.size) (compEnvC sc (ownC X sc H2.objs.size) H2.objs.size X.env))
    (RR (.ref s.heap.objs.size) H2.objs.size) bj:=by
  rintro bj rfl
  refine GK (fun n s'=>∃i ag H' ys its k,Inv (X.blkC cp.names sc H2.objs.size s H fp) [] ag H' s'/\tn i s'.heap/\(∀b∈fp,H' b=none)/\H' s.heap.objs.size=none /\
   s'.heap.get? s.heap.objs.size=some {cls:=.type "list",data:=.seq its.toArray k}/\Vals ys its/\W i n ys ag H') ?_ m0
   ⟨0,_,H,[],[],0,J0,b7,fun b hb=>(eZ b hb).1,I.hok.fresh (jg_ _),bZ,.nil,w0⟩
  rintro n s3 ⟨i,aC,H3,ys,its,k,I3,bR,lb,oQ,e3,rv,w3⟩
  obtain⟨hz,tr⟩:=turn i n ys aC H3 w3
  have ak:=rv.length
  -- oG accumulator stands still while anything else runs
  have f7:∀p ∈ [(s.heap.objs.size,({cls:=.type "list",data:=.seq its.toArray k}:Obj))],p.1∉fp:=fun p hp z=>by
   have e:p=_:=jq_.mp hp
   subst e
   obtain⟨o,e⟩:=bI _ z
   exact absurd (js_ e) (j8_ _)
  have mn:Inv (X.blkC cp.names sc H2.objs.size s H fp) [(s.heap.objs.size,({cls:=.type "list",data:=.seq its.toArray k}:Obj))] aC H3 s3:=I3.pins_of fun p hp=>by
   have e:p=_:=jq_.mp hp
   subst e
   exact⟨e3,oQ,i8,oP _ (jg_ _),fun v z=>by cases z⟩
  have cM:∀b∈fp,FpOk (X.blkC cp.names sc H2.objs.size s H fp) [(s.heap.objs.size,({cls:=.type "list",data:=.seq its.toArray k}:Obj))] H3 b:=mj lb f7
  rcases tr with ⟨stop,qn⟩|⟨go,N,hN,step⟩
  ·refine thn (T.done (X.blkC cp.names sc H2.objs.size s H fp) rfl rfl rfl hc i _ s3 aC H3 _ mn cM bR stop) fun r s4 ⟨hr,I4⟩=>?_
   subst hr
   obtain⟨e4,n4,_⟩:=I4.pin (s.heap.objs.size,({cls:=.type "list",data:=.seq its.toArray k}:Obj)) (by simp)
   have new:Bo X.prog X.w (upd H3 s.heap.objs.size (.lst ys)) s4.heap s.heap.objs.size (.lst ys):=⟨q2_ hz,its,k,rv,e4⟩
   obtain⟨mC,oR,_⟩:=I4.loc
   have oS:Inv (X.blkC cp.names sc H2.objs.size s H fp) [] aC H3 s4:=I4.pins_of fun p hp=>by cases hp
   have I5:=Sj I oS eZ (jg_ _) n4 new
   refine hR _ _ s4 _ mC I5 (qn _ n4) oR ?_ (qL_ (jz_ I.lt bJ)) (qm_ I.sz bJ) (dt _ bJ) fun p hp z=>?_
   ·rw[Ah (qn_ i8)];exact I4.free
   ·exact absurd (jz_ (js_ (I.pin p hp).1) (by rw[z];exact bJ)) (j8_ _)
  ·refine thn (T.item (X.blkC cp.names sc H2.objs.size s H fp) rfl rfl rfl hc i _ s3 aC H3 _ mn cM bR go) fun r s4 ⟨u,hr,h4⟩=>?_
   subst hr
   refine thn h4 fun _ s5 ⟨x,H5,I5,r5,y5,a9,l9⟩=>?_
   have md:=I5.pinned (mj l9 f7) (T.obj _ _ a9)
   have fin:∀{df:St} {H7:Hp} {s7:Shared},Inv (X.blkC cp.names sc H2.objs.size s H fp) ([(s.heap.objs.size,({cls:=.type "list",data:=.seq its.toArray k}:Obj))]++Jf fp s5.heap) df H7 s7 ->
     s7.heap.get? s.heap.objs.size=some {cls:=.type "list",data:=.seq its.toArray k}/\H7 s.heap.objs.size=none/\(∀b∈fp,H7 b=none)/\∀b∈fp,∀o,s5.heap.get? b=some o->s7.heap.get? b=some o:=fun {df H7 s7} I7=>by
    obtain⟨e7,n7,_⟩:=I7.pin (s.heap.objs.size,({cls:=.type "list",data:=.seq its.toArray k}:Obj)) (by simp)
    refine⟨e7,n7,fun b hb=>?_,fun b hb o e=>?_⟩
    ·obtain⟨o,e,_⟩:=T.obj _ _ a9 b hb
     exact (I7.pin (b,o) (jy_ _ (jy_ _ (CH hb e)))).2.1
    ·exact (I7.pin (b,o) (jy_ _ (jy_ _ (CH hb e)))).1
   refine qN_ (hg _ _ _ _ _ s5 aC H5 x u _ md r5 (step x H5 y5)) (fun _ s6 ⟨dm,H6,I6,q6⟩=>?_) fun _ _ z=>rg z
   refine qN_ (hf _ _ _ _ _ s6 dm H6 _ I6 q6) (fun ok s7 ⟨H7,I7,q7⟩=>?_) fun _ _ z=>rg z
   cases ok with
   |false=>
    rw[if_neg jv_]
    rw[if_neg jv_]at q7
    obtain⟨m',hm,w7⟩:=hN _ _ _ q7
    obtain⟨e7,n7,oU,k7⟩:=fin I7
    exact⟨m',hm,i+1,dm,H7,ys,its,k,I7.pins_of (fun p hp=>by cases hp),T.keep _ _ _ a9 k7,oU,n7,e7,rv,w7⟩
   |true=>
    rw[if_pos rfl]
    rw[if_pos rfl]at q7
    refine qN_ (he _ _ _ _ _ s7 dm H7 _ I7 q7) (fun v s8 ⟨y,H8,I8,r8,q8⟩=>?_) fun _ _ z=>rg z
    obtain⟨m',hm,w8⟩:=hN _ _ _ q8
    obtain⟨e8,n8,oV,k8⟩:=fin I8
    refine xD_ F.slot_list_append ⟨_,e8,rfl⟩ F.entry_list_append (zC_ _ _) (z0_ s.heap.objs.size its.toArray k v (by rw[jp_];lia)) ⟨e8,?_⟩
    obtain⟨k',q⟩:∃k',(s8.heap.update s.heap.objs.size (Obj.mapSeq fun x=>x.push v)).get? s.heap.objs.size=some {cls:=.type "list",data:=.seq (its++[v]).toArray k' }:=⟨_,by
     have q:=x5_ e8 fun x=>x.push v
     have e:(its++[v]).toArray=its.toArray.push v:=by simp
     rw[e]
     exact q⟩
    have I8':Inv (X.blkC cp.names sc H2.objs.size s H fp) [] dm H8 s8:=I8.pins_of fun p hp=>by cases hp
    have I9:Inv (X.blkC cp.names sc H2.objs.size s H fp) [] dm H8 {s8 with heap:=s8.heap.update s.heap.objs.size (Obj.mapSeq fun x=>x.push v),toks:=s8.toks}:=
     I8'.turned (it:=s.heap.objs.size) (fun b o hb e=>(qa_ _ _ (qn_ hb)).trans e) n8 i8 (.inr (jg_ _)) (fun x c e=>by
      rcases Gh I S e with q|q
      ·intro z;rw[z]at q;exact absurd (qm_ q bJ) (Nat.not_succ_le_self _)
      ·exact dt _ (jg_ _) x c q) (fun p hp=>by cases hp)
    refine⟨m',hm,i+1,dm,H8,ys++[y],its++[v],k',I9,T.keep (i+1) s5.heap _ a9 (fun b hb o e=>?_),oV,n8,q,rv.append (.cons r8 .nil),w8⟩
    ·refine (qa_ _ _ ?_).trans (k8 b hb o e)
     intro z
     obtain⟨ob,eb⟩:=bI b hb
     exact absurd (js_ eb) (by rw[<-z];exact j8_ _)
 exact codeAny_compStart_list (loop _ rfl) (T.self _ 0 _ _ _ b7 (loop _ rfl))
def Sk    (hN:X.N.Nodup)(hi:X.N[i]?=some x)(hx:X.env.scope.names.lookup x=some .local)(hc:X.calm=true)(S:BlkScC X sc)(iu:CK X.N sc cp)(bg:PI X tg iter wi)
  (hg:∀C s₀ H₀ ex,PG (X.blkC cp.names sc C s₀ H₀ ex) tg g) (hf:∀C s₀ H₀ ex,PF (X.blkC cp.names sc C s₀ H₀ ex) cw tc) (he:∀C s₀ H₀ ex,PE (X.blkC cp.names sc C s₀ H₀ ex) cF te)
  (oW:swapsWith (.ListComp cF [⟨tg,iter,cw,0⟩] sc pos) (some (.Name x px)) jy.line X.env=pure true:=by rfl)
  (hs:∀x,foldedSetIterable iter X.env x=pure x:=by intro _;rfl):PS X (.Assign [.Name x px] (.ListComp cF [⟨tg,iter,cw,0⟩] sc pos) jy) (tAsg (RV wi cp g tc te) (Fz i)):=by
 intro af s σ H D I h
 rw[exec_Assign_Name_used _ _ _ _ oW]
 refine jf_ (wpAny_standAt (jf_ ?_))
 show wpAny _ X.A (do let _ <- comprehension (.ListComp cF [⟨tg,iter,cw,0⟩] sc pos) sc X.env _ (newList []) false (eval iter X.env) (some (assign (.Name x px) X.env))) _ _ s
 refine jf_ (qN_ (zc_ (use:=some (assign (.Name x px) X.env)) (Q:=fun _ s'=>SP X af D .next s') rfl hs (Gb (Jn I S)) S.kind S.loc
  (thn (bg af s σ H _ I h) fun xv s₁ h₁=>thn h₁ fun l8 bt cN=>?_)) (fun _ s' hq=>ju_ (ju_ hq)) fun _ _ e=>e)
 obtain⟨it,fp,tn,J,H2,e,I2,T,aP,f2,hw⟩:=cN
 subst e
 refine Oj (RR:=fun ai C=>compPost (model X.prog X.w) X.A X.xe (some (assign (.Name x px) X.env)) (fun _ s'=>SP X af D .next s') ai C) (Q:=fun v H1=>Fz i v σ H1 D.nx) hc S iu hg hf he I2 T aP f2 hw ?_
 intro Dl C s' H' m I' q hn hC hL hz bL hp
 show wpAny _ X.A (assign (.Name x px) X.env (.ref Dl)) _ _ _
 refine wpAny_assign_Name (HD I' hN hi (.inl hx) (v:=.ref Dl) rfl (fun ie oX ⟨a,nE,ha⟩=>?_) (.inr hx))
 have ay:C≠a:=by
  rcases ha with rfl|ha
  ·exact hL
  ·exact fun z=>bL _ _ ha z.symm
 refine⟨m,hn.sameBut nE ay,fun h' f9=>⟨_,H',oX.turned (t':=ie.toks) (it:=C) (fun b o hb e=>f9.extBut b o hb e) hC hL (.inr hz) bL hp,q⟩⟩
end
def TJ (outer:List (Str×NameKind))(sc:Scope):Bool:=
 sc.kind == .function&&sc.names.all (fun y=>(y.2 != .local||sc.names.lookup y.1==some .local)&&(y.2 != .free||outer.lookup y.1==some .cell||outer.lookup y.1==some .free)&&sc.names.all fun z=>y.1 != z.1||y.2==z.2)
def U2   (h:TJ X.env.scope.names sc=true):BlkScC X sc:=by
 unfold TJ at h
 rw[qe_,qR_]at h
 obtain⟨h1,h2⟩:=h
 refine⟨by simpa using h1,fun y hy z hz e=>?_,fun y hy z=>?_,fun y hy z=>?_⟩
 ·have:=h2 y hy
  simp only[qe_,qR_]at this
  have:=this.2 z hz
  rw[e]at this
  simpa using this
 ·have:=h2 y hy
  simp only[qe_]at this
  have:=this.1.1
  rw[z]at this
  simpa using this
 ·have:=h2 y hy
  simp only[qe_]at this
  have:=this.1.2
  rw[z]at this
  have t:(X.env.scope.names.lookup y.1==some .cell||X.env.scope.names.lookup y.1==some .free)=true:=by simpa using this
  rw[uj]at t
  rcases t with t|t
  ·exact .inl (by show X.env.scope.names.lookup y.1=some .cell;simpa using t)
  ·exact .inr (by show X.env.scope.names.lookup y.1=some .free;simpa using t)
end L2
namespace L2
open PySem PySem.Spec PyProof.Rows GW GB
def Gi (ps:List (Int×Int))(kvs:List (List Key×V)):Prop:=kvs.map (·.1)=ps.map keyP
def Gi.no   (h:Gi ps kvs)  (hg:g∉ps):valV kvs (keyP g)=none:=by
 unfold valV
 rw[rW,xt_]
 intro kv gh
 simp only[ql_]
 intro z
 have:keyP g∈ps.map keyP:=by rw[<-h,<-z];exact jt_.mpr ⟨kv,gh,rfl⟩
 obtain⟨q,hq,e⟩:=jt_.mp this
 exact hg (Sg e ▸ hq)
def Gi.yes   (h:Gi ps kvs)  (hg:g∈ps):(valV kvs (keyP g)).isSome=true:=by
 rw[<-CS]
 have:keyP g∈kvs.map (·.1):=by rw[h];exact jt_.mpr ⟨g,hg,rfl⟩
 obtain⟨kv,gh,e⟩:=jt_.mp this
 exact xM_.mpr ⟨kv,gh,j4_ e⟩
def Gi.put   (h:Gi ps kvs)  (hg:g∉ps)(v:V):Gi (ps++[g]) (putK kvs (keyP g) v):=by
 rw[M8 _ (h.no hg)]
 unfold Gi
 rw[jS_,jS_,h];rfl
def Gi.len   (h:Gi ps kvs):kvs.length=ps.length:=by
 have:=jC_ rm h
 simpa using this
end L2
namespace L2
open PySem PySem.Spec PyProof.Rows GW
def AD (K:α3)(H:Hp)(xs:List V)(ws:α1):Prop:=xs.length=ws.length/\∀(i:Nat) (w:α2),ws[i]?=some w->∃t,xs[i]?=some (.ref t)/\H t=some (.tup (w.map V.int))
def AD.nil {K:α3}  : AD K H [] []:=⟨rfl,fun i w h=>by simp at h⟩
def AD.mono {K:α3}    (h:AD K H xs ws)(k:TK H H'):AD K H' xs ws:=by
 refine⟨h.1,fun i w hw=>?_⟩
 obtain⟨t,a,b⟩:=h.2 i w hw
 exact⟨t,a,k _ _ b⟩
def AD.snoc {K:α3}    (h:AD K H xs ws)   (ht:H t=some (.tup (w.map V.int))):AD K H (xs++[.ref t]) (ws++[w]):=by
 refine⟨by rw[jk_,jk_,h.1];rfl,fun i v hi=>?_⟩
 by_cases ee:i<ws.length
 ·rw[jd_ ee]at hi
  rw[jd_ (by rw[h.1];exact ee)]
  exact h.2 i v hi
 ·have:=(jb_.mp hi).1
  rw[jk_,jR_]at this
  have ei:i=ws.length:=by lia
  subst ei
  rw[jm_ (jg_ _),qb_]at hi
  simp at hi
  subst hi
  refine⟨t,?_,ht⟩
  rw[jm_ (by rw[h.1];exact jg_ _),h.1,qb_];rfl
def AD.at {K:α3}{H:Hp}{xs:List V}{ws:α1}(h:AD K H xs ws){i:Nat}{x:V}(hx:xs[i]?=some x):∃t w,ws[i]?=some w/\x=.ref t/\H t=some (.tup (w.map V.int)):=by
 have hi:i<ws.length:=by rw[<-h.1];exact (jb_.mp hx).1
 obtain⟨t,a,b⟩:=h.2 i ws[i] (by simp[hi])
 rw[hx]at a
 exact⟨t,ws[i],by simp[hi],jr_ a,b⟩
def E4.ofS {K:α3}     (ha:H a=some (.tup xs))(hb:H b=some (.tup ys))(hz:xs.length+ys.length<=sizeLine)(h:∀p H',Same H H'->H' p=some (.tup (xs++ys))->Q (.ref p) H'):E4 K (.ref a) (.ref b) H Q:=by
 refine⟨a,b,xs,ys,rfl,rfl,SqT.of ha,SqT.of hb,hz,fun e=>?_,fun _ e=>?_,fun _ _ p hp=>h p _ (Same.new hp) Ab⟩
 ·subst e;exact h b H (Same.refl _) (by simpa using hb)
 ·subst e;exact h a H (Same.refl _) (by simpa using ha)
def Inv.unL        (I:Inv X af σ H s)(k:∀b o,b∉fp->s.heap.get? b=some o->h'.get? b=some o)(f:∀b∈fp,FpOk X af H b):Un (frs X.stack) fp H H s.heap h'/\HOk X.prog X.w H h':=by
 have ne:∀b u,H b=some u->b∉fp:=fun b u q hb=>by rw[(f b hb).1]at q;cases q
 refine⟨⟨fun b o q _ _ hb=>k b o hb q,fun b o q _ _ hb=>⟨o.slots,k b o hb q⟩,fun _ _ _ n _=>n,fun b o q hb=>⟨o,k b o hb q⟩,fun _ _ q=>q,fun _ _ _ q=>q,fun b ps q=>⟨#[],by rw[q];simp⟩⟩,fun b u q=>?_⟩
 refine (I.hok b u q).stay (fun c v hc qv=>?_) (fun _ q=>q) fun _ _ q=>q
 have ay:c∉fp:=by
  rcases hc with rfl|hc
  ·exact ne _ _ q
  ·exact ne _ _ hc
 exact k c v ay qv
end L2
namespace GW
def ins (s:α1)(w:α2):α1:=if w∈s then s else s++[w]
def U3 (s:α1)(w:α2):(ins s w).length<=s.length+1:=by
 unfold ins;split
 ·lia
 ·simp
def Cg:∀(l s:α1),(l.foldl ins s).length<=s.length+l.length
 |[],s=>by simp
 |w::l,s=>by
  have h1:=Cg l (ins s w)
  have h2:=U3 s w
  rw[qY_,jT_];lia
end GW
namespace L2
open PySem PySem.Spec PyProof.Rows GW
def wkey (w:α2):List Key:=w.map qX
def J9 (w:α2):(wkey w).map kV=w.map V.int:=by unfold wkey;rw[jU_];rfl
def FF  (h:wkey v=wkey w):v=w:=(zU_ (fun x y z=>Sum.inl.inj z)).mp h
def EV (ws:α1)(kvs:List (List Key×V)):Prop:=kvs.map (·.1)=ws.map wkey
def EV.len   (h:EV ws kvs):kvs.length=ws.length:=by
 have:=jC_ rm h
 simpa using this
def EV.some_iff   (h:EV ws kvs)(w:α2):(valV kvs (wkey w)).isSome=decide (w∈ws):=by
 rw[<-CS,qy_,ql_,xM_]
 constructor
 ·rintro⟨kv,gh,e⟩
  have e:=qv_ e
  have:wkey w∈ws.map wkey:=by rw[<-h,<-e];exact jt_.mpr ⟨kv,gh,rfl⟩
  obtain⟨q,hq,e2⟩:=jt_.mp this
  exact FF e2 ▸ hq
 ·intro hw
  have:wkey w∈kvs.map (·.1):=by rw[h];exact jt_.mpr ⟨w,hw,rfl⟩
  obtain⟨kv,gh,e⟩:=jt_.mp this
  exact⟨kv,gh,j4_ e⟩
def EV.put   (h:EV ws kvs)(w:α2)(v:V):EV (ins ws w) (putK kvs (wkey w) v):=by
 have hs:=h.some_iff w
 unfold putK ins
 rw[CS,hs]
 by_cases hw:w∈ws
 ·rw[if_pos hw,if_pos (show decide (w∈ws)=true from j4_ hw)]
  unfold EV
  rw[<-h,jU_]
  refine qr_ fun kv _=>?_
  show (if kv.1=wkey w then (kv.1,v) else kv).1=kv.1
  split<;>rfl
 ·rw[if_neg hw,if_neg (show ¬ decide (w∈ws)=true by simp[hw])]
  unfold EV
  rw[jS_,jS_,h];rfl
def EV.nil:EV [] []:=rfl
def EV.words {K:α3}     (h:EV ws kvs)(hl:rs.length=kvs.length)(hr:∀(i:Nat) (k:List Key) (v:V),kvs[i]?=some (k,v)->∃b,rs[i]?=some (V.ref b)/\H b=some (.tup (k.map kV))):AD K H rs ws:=by
 refine⟨by rw[hl,h.len],fun i w hw=>?_⟩
 have hi:i<kvs.length:=by rw[h.len];exact (jb_.mp hw).1
 have e:(kvs.map (·.1))[i]?=some (wkey w):=by rw[h,je_,hw];rfl
 rw[je_,jh_ hi]at e
 have e:kvs[i].1=wkey w:=jr_ e
 obtain⟨b,b1,b2⟩:=hr i kvs[i].1 kvs[i].2 (by simp[hi])
 exact⟨b,b1,by rw[b2,e,J9]⟩
end L2
namespace PySem.W
open PySem PySem.Calls PyProof.Rows PyProof.V PySem.Spec
end PySem.W
namespace L2
open PySem PySem.Spec PyProof.Rows
def Nu {P:Program}{w:World}{fs:List Addr}{H0:Hp}{h0 h':Heap}:∀(as:List (Addr×List V)),(as.map (·.1)).Nodup ->
  (∀p∈as,h0.objs.size<=p.1/\p.2.length<=sizeLine/\∃its:List Value,Vals p.2 its/\IsTup h' p.1 its.toArray)->∀H,Un fs [] H0 H h0 h'->HOk P w H h'->(∀p∈as,H p.1=none) ->
  ∃H2,Un fs [] H0 H2 h0 h'/\HOk P w H2 h'/\Same H H2/\(∀p∈as,H2 p.1=some (.tup p.2))/\∀b,b∉as.map (·.1)->H2 b=H b
 |[],_,_,H,u,k,_=>⟨H,u,k,Same.refl _,(fun p hp=>by simp at hp),fun b _=>rfl⟩
 |p::r,nd,hp,H,u,k,hn=>by
  rw[jZ_,qD_]at nd
  obtain⟨h1,h2,its,h3,h4⟩:=hp p jn_
  have pB:=hn p jn_
  have k2:HOk P w (upd H p.1 (.tup p.2)) h':=k.track pB ⟨h2,its,h3,h4⟩
  obtain⟨H2,e1,e2,e3,e4,e5⟩:=Nu r nd.2 (fun q hq=>hp q (jl_ _ hq)) (upd H p.1 (.tup p.2)) (u.track h1 pB) k2 (fun q hq=>by
   have ay:q.1≠p.1:=fun z=>nd.1 (by rw[<-z];exact q6_ hq)
   rw[Ah ay]
   exact hn q (jl_ _ hq))
  refine⟨H2,e1,e2,(Same.new pB).trans e3,fun q hq=>?_,fun b hb=>?_⟩
  ·rcases jB_.mp hq with rfl|hq
   ·exact e3 _ _ Ab
   ·exact e4 q hq
  ·rw[jZ_,jB_,not_or]at hb
   rw[e5 b hb.2,Ah hb.1]
def Vals.two'   (h1:RelV x u)(h2:RelV y v):Vals [x,y] [u,v]:=.cons h1 (.cons h2 .nil)
def Wu:∀as:List Addr,Vals (as.map V.ref) (as.map Value.ref)
 |[]=>.nil
 |_::r=>.cons rfl (Wu r)
def Cs (K:α3)(H:Hp)(xs:List V)(aE:List (α2×Int)):Prop:=xs.length=aE.length/\∀(i:Nat) (tr:α2×Int),aE[i]?=some tr->∃t wt,xs[i]?=some (.ref t)/\SqT K H t [.ref wt,.int tr.2]/\SqT K H wt (tr.1.map V.int)/\tr.1.length<=600
def Cs.mono {K:α3}    (h:Cs K H xs aE)(s:Same H H'):Cs K H' xs aE:=by
 refine⟨h.1,fun i tr bh=>?_⟩
 obtain⟨t,wt,a,b,c,d⟩:=h.2 i tr bh
 exact⟨t,wt,a,s.seqT b,s.seqT c,d⟩
def ents (es:List (α2×Int)):List (List Key×V):=es.map fun e=>(wkey e.1,V.int e.2)
def QA:V->List V->Hp->VK->Prop:=fun x vs H Q=>∃l xs y j,x=.ref l/\vs=[y]/\H l=some (.lst xs)/\Cz y=true/\xs.all Cz=true/\j<1000000/\(∃z,xs[j]?=some z/\eqV z y=true)/\(∀m z,m<j->xs[m]?=some z->eqV z y=false)/\Q (.int (j:Nat)) H
theorem Nv     : QA x vs H Q=∃l xs y j,x=.ref l/\vs=[y]/\H l=some (.lst xs)/\Cz y=true/\xs.all Cz=true/\j<1000000/\(∃z,xs[j]?=some z/\eqV z y=true)/\(∀m z,m<j->xs[m]?=some z->eqV z y=false)/\Q (.int (j:Nat)) H:=rfl
def U4   (r:RelV z u)(f:Cz z=true):eqU x u=eqV z x:=by
 have:=JQ (x:=x) (xs:=[z]) (us:=[u]) (.cons r .nil) (by simp[f])
 simpa using this
def QB  : MtM X "list.index" QA:=by
 intro af s σ H x vs v us Q I rx rv h
 obtain⟨l,xs,y,j,rfl,rfl,hH,fy,fs,hj,⟨z,pC,hz2⟩,dq,q⟩:=h
 cases rx
 obtain⟨u,rfl,ry⟩:=vals1 rv
 obtain⟨zz,its,n,r,hl,e⟩:=I.lstM hH
 have get:∀(m:Nat) (hm:m<its.toArray.size) (w:V),xs[m]?=some w->Cz w=true->eqU y its.toArray[m]=eqV w y:=fun m hm w hw fw=>by
  obtain⟨w',e1,e2⟩:=r.get hw
  have e3:its.toArray[m]=w':=by
   have:its[m]?=some its.toArray[m]:=by simp at hm;simp[hm]
   rw[e1]at this
   exact (jr_ this).symm
  rw[e3]
  exact U4 e2 fw
 have fl:∀(m:Nat) (w:V),xs[m]?=some w->Cz w=true:=fun m w hw=>qR_.mp fs w (jc_ hw)
 have lq:=(jb_.mp pC).1
 have mB:j<its.toArray.size:=by rw[jp_];lia
 refine xD_ F.slot_list_index ⟨_,e,rfl⟩ F.entry_list_index (F.args_list_index_2 _ _) (SeqAt.list_indexAt l its.toArray n none #[] u (eqU y) j mB s!"" ?_ fun m hm hmj=>?_) ⟨e,fun w hw=>Hi ry fy r fs w (by simpa using hw),?_⟩
 ·rw[get j mB z pC (fl j z pC)];exact hz2
 ·have pD:xs[m]?=some xs[m]:=by simp[show m<xs.length by lia]
  rw[get m hm _ pD (fl m _ pD)]
  exact dq m _ hmj pD
 ·exact⟨.int (j:Nat),H,I.tok _,⟨_,rfl⟩,q⟩
end L2
namespace L2
open PySem PySem.W PySem.Spec PySem.Calls PyProof.Rows
def P9.ofS {K:α3}      (hq:H l=some (.tup xs))(ay:xs ≠ [])(h1 : -(2 ^ 63)<=k)(h2:k<2 ^ 63)(hz:xs.length*k.toNat<=sizeLine)(h:∀p H',Same H H'->H' p=some (.tup (qU k.toNat xs).flatten)->Q (.ref p) H'):P9 K (.ref l) (.int k) H Q:=by
 refine⟨l,k,xs,rfl,rfl,SqT.of hq,ay,h1,h2,hz,fun e=>?_,fun _ p hp=>h p _ (Same.new hp) Ab⟩
 subst e
 exact h l H (Same.refl _) (by simpa using hq)
end L2
namespace PrimeO
def Xg (p:Nat):Prop:=∀d,2<=d->d<p->p%d≠0
def Pr (p:Int):Prop:=2<=p/\p<1000000000000000000/\Xg p.toNat
end PrimeO
namespace PySem
open Sem (wp)
open PySem.F
def BK (t:Bool)(h:Heap)(l:Addr)(xs:Array Value):Prop:=match t with|false=>h.IsList l xs|true=>h.IsTuple l xs
def Bw (t:Bool)(h:Heap)(i l:Addr)(k:Nat):Prop:=match t with|false=>h.IsListIter i l k|true=>h.IsTupleIter i l k
def BK.extBut   {a b items}(x:BK t h a items)(hs:Heap.ExtBut b h h')(cm:a≠b):BK t h' a items:=by
 cases t
 ·exact Heap.IsList.extBut x hs cm
 ·exact Heap.IsTuple.extBut x hs cm
def BK.push   {a items}(x:BK t h a items)(o:Obj):BK t (h.push o) a items:=by
 cases t
 ·exact Heap.IsList.push x o
 ·exact Heap.IsTuple.push x o
def BK.lt   {a items}(x:BK t h a items):a<h.objs.size:=by
 cases t
 ·obtain⟨_,e,_⟩:=x;exact js_ e
 ·obtain⟨_,e,_⟩:=x;exact js_ e
def Bw.extBut   {a b l i}(x:Bw t h a l i)(hs:Heap.ExtBut b h h')(cm:a≠b):Bw t h' a l i:=by
 cases t
 ·exact Heap.IsListIter.extBut x hs cm
 ·exact Heap.IsTupleIter.extBut x hs cm
def Bw.at   {a l i}(x:Bw t h a l i)(e:∀o,h.get? a=some o->h'.get? a=some o):Bw t h' a l i:=by
 cases t
 ·exact Heap.IsListIter.at x e
 ·exact Heap.IsTupleIter.at x e
def Bw.ob   {a l i}(x:Bw t h a l i):∃o,h.get? a=some o/\o.data=.fields #[.ref l,.int i 0]:=by
 cases t
 ·obtain⟨o,e,_,d⟩:=x;exact⟨o,e,d⟩
 ·obtain⟨o,e,_,d⟩:=x;exact⟨o,e,d⟩
def Bw.lt   {a l i}(x:Bw t h a l i):a<h.objs.size:=by
 obtain⟨_,e,_⟩:=x.ob;exact js_ e
section
variable {prog:Program} {w:World} {A:Around} {E:Value->Shared->Prop} {s:Shared}
def Gj  {it l:Addr}    (bg:Bw t s.heap it l i)(hl:BK t s.heap l items)
  (hQ:∀x h',items[i]?=some x->Bw t h' it l (i+1)->Heap.SameBut it s.heap h'->Q x {s with heap:=h' })
  (hE:items[i]?=none->A.handled=none/\∀h' e,Heap.ExtBut it s.heap h'->(∃o,h'.get? e=some o/\o.cls=.type "StopIteration")->E (.ref e) {s with heap:=h' }):wpAny (model prog w) A (Builtin.SmallTypes.nextOf (.ref it)) Q E s:=by
 cases t
 ·cases hx:items[i]? with
  |some x=>exact wpAny_nextOf_list_item bg hl hx fun h'=>hQ x h' hx
  |none=>exact wpAny_nextOf_list_end (hE hx).1 bg hl hx (hE hx).2
 ·exact Gd bg hl hQ hE
def U5 (t:Bool):Value:=match t with|false=>.type "list_iterator" |true=>.type "tuple_iterator"
def Bw.mk    (g:h.get? a=some {cls:=U5 t,data:=.fields #[.ref l,.int 0 0]}):Bw t h a l 0:=by
 cases t
 ·exact⟨_,g,rfl,rfl⟩
 ·exact⟨_,g,rfl,rfl⟩
def G0   {items}  (hl:BK t s.heap l items)
  (hQ:Q (.ref s.heap.objs.size) {s with heap:=s.heap.push {cls:=U5 t,data:=.fields #[.ref l,.int 0 0]} }):wpAny (model prog w) A (pyIter (.ref l)) Q E s:=by
 cases t
 ·exact zr_ hl hQ
 ·exact xO_ hl hQ
end
section
variable {prog:Program} {w:World} {A:Around} {E:Value->Shared->Prop} {s:Shared}
def QC   {items}  (hl:BK t s.heap l items)(h:∀h',s.heap.push {cls:=U5 t,data:=.fields #[.ref l,.int 0 0]}=h'->Q (.ref s.heap.objs.size) {s with heap:=h' }):wpAny (model prog w) A (pyIter (.ref l)) Q E s:=G0 hl (h _ rfl)
def zipN  {z TI TO i1 i2 l1 l2:Addr}     (D:ZipApart z TI TO i1 i2 l1 l2)(hz:IsZip s.heap z TI TO .none)(fJ:IsPair s.heap TI (.ref i1) (.ref i2))(gi:IsPair s.heap TO a b)
  (h1:Bw t1 s.heap i1 l1 k1) (h2:Bw t2 s.heap i2 l2 k2) (bE:BK t1 s.heap l1 xs) (bS:BK t2 s.heap l2 ys)
  (hQ:∀x y h',xs[k1]?=some x->ys[k2]?=some y->IsZip h' z TI TO (rawInt s.heap.objs.size)->IsPair h' TO x y->Bw t1 h' i1 l1 (k1+1)->Bw t2 h' i2 l2 (k2+1)->IsPair h' s.heap.objs.size x y->h'.objs.size=s.heap.objs.size+1->(∀c o,c≠z->c≠TO->c≠i1->c≠i2->s.heap.get? c=some o->h'.get? c=some o)->Q (some (.ref s.heap.objs.size)) {s with heap:=h' })
  (hN:xs[k1]?=none\/ys[k2]?=none->A.handled=none/\∀h',(∀c o,c≠z->c≠TO->c≠i1->c≠i2->s.heap.get? c=some o->h'.get? c=some o)->Q none {s with heap:=h' }):wpAny (model prog w) A (pyNext (.ref z)) Q E s:=by
 have hT:s.TypeIs (.ref z) "zip" := ⟨_,hz,rfl⟩
 have e1:=F.slot_zip_next
 unfold pyNext
 refine jf_ (xI_ (qJ_ hT e1 (xn_ e1 hT F.entry_zip_next ?_ (F.args_zip_next_1 _))))
 wp_walk using xP_ hz
 ·exact xu_ rfl
 intro u0 g0 k0
 replace g0:IsZip u0 z TI TO .ellipsis:=g0
 have m1:Bw t1 u0 i1 l1 k1:=h1.extBut k0.extBut D.i1z
 have m2:BK t1 u0 l1 xs:=bE.extBut k0.extBut D.l1z
 simp only[tZ,List.zipIdx_nil,zK_,zW_]
 have stop:∀h' (e:Addr),(∀c o,c≠z->c≠TO->c≠i1->c≠i2->s.heap.get? c=some o->h'.get? c=some o)->IsZip h' z TI TO .ellipsis->(∃o,h'.get? e=some o/\o.cls=.type "StopIteration")->xs[k1]?=none\/ys[k2]?=none ->
   wpAny (model prog w) A.in1 (setField (.ref z) 0 .none) (fun _ ie=>wpAny (model prog w) A (do if <- isInstance (.ref e) (.type "StopIteration") then pure none else throw (.ref e)) Q E ie) (fun e s'=>wpAny (model prog w) A (do if <- isInstance e (.type "StopIteration") then pure none else throw e) Q E s') {s with heap:=h' }:=fun h' e kk hz' he hx=>by
  obtain⟨o,e2,e3⟩:=he
  have n:e≠z:=fun x=>by subst x;rw[hz']at e2;cases e2;simp at e3
  refine xP_ hz' (xu_ rfl) fun h2 _ k2=>jf_ (wpAny_isInstance (T := "StopIteration") (b:=true) ⟨o,k2.extBut e o n e2,e3⟩ isSubtype_stop (ju_ ((hN hx).2 h2 fun c o n1 n2 n3 n4 q=>k2.extBut c o n1 (kk c o n1 n2 n3 n4 q))))
 wp_walk using wpAny_onRaise,Gj (A:=A.in1) (s:={s with heap:=u0}) m1 m2
 ·intro x u1 hx m3 k3
  have y0:IsPair u1 TO a b:=k3.extBut TO _ D.TOi1 (k0.extBut TO _ D.TOz gi)
  wp_walk using wpAny_updateSeq_pair y0
  intro u2 y2 k4
  replace y2:IsPair u2 TO x b:=y2
  have kk:∀c o,c≠z->c≠TO->c≠i1->s.heap.get? c=some o->u2.get? c=some o:=fun c o n1 n2 n3 q=>k4.extBut c o n2 (k3.extBut c o n3 (k0.extBut c o n1 q))
  have g2:IsZip u2 z TI TO .ellipsis:=k4.extBut _ _ D.TOz.symm (k3.extBut _ _ D.i1z.symm g0)
  have m4:Bw t2 u2 i2 l2 k2:=h2.at fun o q=>kk _ o D.i2z D.TOi2.symm D.i12.symm q
  have m5:BK t2 u2 l2 ys:=((bS.extBut k0.extBut D.l2z).extBut k3.extBut D.l2i1).extBut k4.extBut D.l2TO
  wp_walk using wpAny_onRaise,Gj (A:=A.in1) (s:={s with heap:=u2}) m4 m5
  ·intro y u3 hy m6 k5
   have y3:IsPair u3 TO x b:=k5.extBut TO _ D.TOi2 y2
   wp_walk using wpAny_updateSeq_pair y3
   intro u4 y4 k6
   replace y4:IsPair u4 TO x y:=y4
   have g4:IsZip u4 z TI TO .ellipsis:=k6.extBut _ _ D.TOz.symm (k5.extBut _ _ D.i2z.symm g2)
   have zz:u4.objs.size=s.heap.objs.size:=k6.1.trans (k5.1.trans (k4.1.trans (k3.1.trans k0.1)))
   wp_walk using newT
   ·exact (show 2<=sizeLine from by decide)
   intro u5 q5
   have kp:∀c o,u4.get? c=some o->u5.get? c=some o:=fun c o q=>by rw[<-q5];exact jo_ _ q
   have g5:=kp z _ g4
   have y5:IsPair u5 u4.objs.size x y:=by rw[<-q5];exact jH_ _ rfl
   have z5:u5.objs.size=u4.objs.size+1:=by rw[<-q5];exact qz_ ..
   wp_walk using xP_ g5
   ·exact xu_ rfl
   intro u6 g6 k7
   replace g6:IsZip u6 z TI TO (rawInt u4.objs.size):=g6
   wp_walk using xP_ g6
   ·exact xu_ rfl
   intro u7 g7 k8
   replace g7:IsZip u7 z TI TO (rawInt u4.objs.size):=g7
   refine ju_ ⟨_,rfl,ju_ ?_⟩
   show Q (some (Value.ref u4.objs.size)) _
   have up:∀c o,c≠z->u4.get? c=some o->u7.get? c=some o:=fun c o n q=>k8.extBut c o n (k7.extBut c o n (kp c o q))
   have nz:u4.objs.size≠z:=qL_ (js_ g4)
   have y7:=k8.extBut _ _ nz (k7.extBut _ _ nz y5)
   rw[zz]at g7 y7 z5 ⊢
   exact hQ x y u7 hx hy g7 (up _ _ D.TOz y4) ((m3.at fun o q=>k6.extBut _ o D.TOi1.symm (k5.extBut _ o D.i12 (k4.extBut _ o D.TOi1.symm q))).at fun o q=>up _ o D.i1z q) ((m6.at fun o q=>k6.extBut _ o D.TOi2.symm q).at fun o q=>up _ o D.i2z q) y7 ((k8.1.trans k7.1).trans z5)
    fun c o n1 n2 n3 n4 q=>up c o n1 (k6.extBut c o n2 (k5.extBut c o n4 (kk c o n1 n2 n3 q)))
  ·refine fun hy=>⟨(hN (.inr hy)).1,fun u3 e k5 he=>?_⟩
   exact stop u3 e (fun c o n1 n2 n3 n4 q=>k5 c o n4 (kk c o n1 n2 n3 q)) (k5 z _ D.i2z.symm g2) he (.inr hy)
 ·refine fun hx=>⟨(hN (.inl hx)).1,fun u1 e k3 he=>?_⟩
  exact stop u1 e (fun c o n1 n2 n3 n4 q=>k3 c o n3 (k0.extBut c o n1 q)) (k3 z _ D.i1z.symm g0) he (.inl hx)
def Ic     (bE:BK t1 s.heap l1 xs)(bS:BK t2 s.heap l2 ys)
  (h:∀h',IsZip h' (s.heap.objs.size+4) (s.heap.objs.size+2) (s.heap.objs.size+3) .none->IsPair h' (s.heap.objs.size+2) (.ref s.heap.objs.size) (.ref (s.heap.objs.size+1))->IsPair h' (s.heap.objs.size+3) .none .none->Bw t1 h' s.heap.objs.size l1 0->Bw t2 h' (s.heap.objs.size+1) l2 0->h'.objs.size=s.heap.objs.size+5->(∀c o,s.heap.get? c=some o->h'.get? c=some o)->Q (.ref (s.heap.objs.size+4)) {s with heap:=h' }):
  wpAny (model prog w) A (call (.type "zip") [.ref l1,.ref l2]) Q E s:=by
 have M:Meets (Builtin.«zip.__new__» ⟨[.type "zip",.ref l1,.ref l2],[]⟩) fun _ R t=>t=s/\∀h',IsZip h' (s.heap.objs.size+4) (s.heap.objs.size+2) (s.heap.objs.size+3) .none->IsPair h' (s.heap.objs.size+2) (.ref s.heap.objs.size) (.ref (s.heap.objs.size+1))->IsPair h' (s.heap.objs.size+3) .none .none->Bw t1 h' s.heap.objs.size l1 0->Bw t2 h' (s.heap.objs.size+1) l2 0->h'.objs.size=s.heap.objs.size+5->(∀c o,s.heap.get? c=some o->h'.get? c=some o)->R (.ok (.ret (.ref (s.heap.objs.size+4)))) {s with heap:=h' }:=.of_wp fun prog w A R t ⟨e,q⟩=>by
  subst e
  obtain⟨hp,g,d,tk,os⟩:=t
  have cQ:=sub_zip
  wp_walk using QC bE
  intro u1 q1
  obtain⟨a1,b1,c1⟩:=psh q1 rfl
  have hl2':BK t2 u1 l2 ys:=by rw[<-q1];exact BK.push bS _
  wp_walk using QC (s:=⟨u1,g,d,tk,os⟩) hl2'
  intro u2 q2
  obtain⟨a2,b2,c2⟩:=psh q2 rfl
  wp_walk using newT
  ·exact (show 2<=sizeLine from by decide)
  intro u3 q3
  obtain⟨a3,b3,c3⟩:=psh q3 rfl
  wp_walk using newT
  ·exact (show 2<=sizeLine from by decide)
  intro u4 q4
  obtain⟨a4,b4,c4⟩:=psh q4 rfl
  wp_walk
  refine⟨_,rfl,?_⟩
  have Z1:u1.objs.size=hp.objs.size+1:=c1
  have Z2:u2.objs.size=hp.objs.size+2:=(show u2.objs.size=u1.objs.size+1 from c2).trans (by rw[Z1])
  have Z3:u3.objs.size=hp.objs.size+3:=(show u3.objs.size=u2.objs.size+1 from c3).trans (by rw[Z2])
  have Z4:u4.objs.size=hp.objs.size+4:=(show u4.objs.size=u3.objs.size+1 from c4).trans (by rw[Z3])
  obtain⟨a5,b5,c5⟩:=psh (rfl:u4.push {cls:=.type "zip",data:=.fields #[.none,.bool false,.bool false,.ref u2.objs.size,.ref u3.objs.size]}=_) rfl
  replace b1:u1.get? hp.objs.size=_:=b1
  replace b2:u2.get? u1.objs.size=_:=b2
  replace b3:IsPair u3 u2.objs.size (.ref hp.objs.size) (.ref u1.objs.size):=b3
  replace b4:IsPair u4 u3.objs.size .none .none:=b4
  show R (.ok (.ret (.ref u4.objs.size))) ⟨u4.push {cls:=.type "zip",data:=.fields #[.none,.bool false,.bool false,.ref u2.objs.size,.ref u3.objs.size]},g,d,tk,os⟩
  rw[Z1,Z2]at b3
  rw[Z1]at b2
  rw[Z3]at b4
  rw[Z2,Z3,Z4]at b5
  rw[Z2,Z3]at a5 c5 ⊢
  rw[Z4]at c5 ⊢
  exact q _ b5 (a5 _ _ (a4 _ _ b3)) (a5 _ _ b4) (Bw.mk (a5 _ _ (a4 _ _ (a3 _ _ (a2 _ _ b1))))) (Bw.mk (a5 _ _ (a4 _ _ (a3 _ _ b2)))) c5 fun c o x=>a5 _ _ (a4 _ _ (a3 _ _ (a2 _ _ (a1 _ _ x))))
 exact callType_new F.called_zip (by decide) (F.typeCall_zip_2 _ _) (F.newCall_zip_2 _ _) (fun obj=>F.args_object_init_3 obj _ _) F.entry_zip_new M ⟨rfl,fun h' a b c d e f g=>⟨⟨_,a,rfl⟩,h h' a b c d e f g⟩⟩
end
end PySem
namespace PySem
section
variable {prog:Program} {w:World} {A:Around} {E:Value->Shared->Prop} {s:Shared}
abbrev zpO (T TI TO:Addr)(f:Bool):Obj:={cls:=.type "zip",dict:=none,data:=.fields #[rawInt T,.bool f,.bool false,.ref TI,.ref TO],slots := #[]}
def zipH  {z TI TO T i1 i2 l1 l2:Addr}      (D:ZipApart z TI TO i1 i2 l1 l2)(hz:s.heap.get? z=some (zpO T TI TO f))(hTo:s.heap.get? T=some oT)(fJ:IsPair s.heap TI (.ref i1) (.ref i2))
  (h1:Bw t1 s.heap i1 l1 k1) (h2:Bw t2 s.heap i2 l2 k2) (bE:BK t1 s.heap l1 xs) (bS:BK t2 s.heap l2 ys)
  (hQ:∀x y h',xs[k1]?=some x->ys[k2]?=some y->h'.get? z=some (zpO T TI TO true)->Bw t1 h' i1 l1 (k1+1)->Bw t2 h' i2 l2 (k2+1)->IsPair h' s.heap.objs.size x y->h'.objs.size=s.heap.objs.size+1->(∀c o,c≠z->c≠i1->c≠i2->s.heap.get? c=some o->h'.get? c=some o)->Q (some (.ref s.heap.objs.size)) {s with heap:=h' })
  (hN:xs[k1]?=none\/ys[k2]?=none->A.handled=none/\∀h',(∀c o,c≠z->c≠i1->c≠i2->s.heap.get? c=some o->h'.get? c=some o)->Q none {s with heap:=h' }):wpAny (model prog w) A (pyNext (.ref z)) Q E s:=by
 have hT:s.TypeIs (.ref z) "zip" := ⟨_,hz,rfl⟩
 have e1:=F.slot_zip_next
 have e:((T:Int)).toNat=T:=ji_ T
 have lz:=js_ hz
 unfold pyNext
 refine jf_ (xI_ (qJ_ hT e1 (xn_ e1 hT F.entry_zip_next ?_ (F.args_zip_next_1 _))))
 wp_walk
 simp only[<-Array.forIn_toList,zK_,zW_]
 refine vX (a:=(T:Int).toNat) (by rw[e];exact hTo) ?_
 have stop:∀h' (e:Addr),(∀c o,c≠z->c≠i1->c≠i2->s.heap.get? c=some o->h'.get? c=some o)->(∃o,h'.get? e=some o/\o.cls=.type "StopIteration")->xs[k1]?=none\/ys[k2]?=none ->
   wpAny (model prog w) A (do if <- isInstance (.ref e) (.type "StopIteration") then pure none else throw (.ref e)) Q E {s with heap:=h' }:=fun h' e kk ⟨o,e2,e3⟩ hx=>jf_ (wpAny_isInstance (T := "StopIteration") (b:=true) ⟨o,e2,e3⟩ isSubtype_stop (ju_ ((hN hx).2 h' kk)))
 cases f
 ·wp_walk using xP_ hz
  ·exact xu_ rfl
  intro u0 g0 k0
  have m1:=h1.extBut k0.extBut D.i1z
  have m2:=bE.extBut k0.extBut D.l1z
  wp_walk using Gj (A:=A.in1) (s:={s with heap:=u0}) m1 m2
  ·intro x u1 hx m3 k3
   have m4:=(h2.extBut k0.extBut D.i2z).extBut k3.extBut D.i12.symm
   have m5:=(bS.extBut k0.extBut D.l2z).extBut k3.extBut D.l2i1
   wp_walk using Gj (A:=A.in1) (s:={s with heap:=u1}) m4 m5
   ·intro y u2 hy m6 k4
    wp_walk using newT
    ·exact (show 2<=sizeLine from by decide)
    intro u3 q3
    obtain⟨a3,b3,c3⟩:=psh q3 rfl
    wp_walk
    have zz:u2.objs.size=s.heap.objs.size:=k4.1.trans (k3.1.trans k0.1)
    have b4:IsPair u3 u2.objs.size x y:=b3
    have c4:u3.objs.size=u2.objs.size+1:=c3
    have kk:∀c o,c≠z->c≠i1->c≠i2->s.heap.get? c=some o->u3.get? c=some o:=fun c o n1 n2 n3 q=>a3 _ _ (k4.extBut c o n3 (k3.extBut c o n2 (k0.extBut c o n1 q)))
    have g3:=a3 _ _ (k4.extBut z _ D.i2z.symm (k3.extBut z _ D.i1z.symm g0))
    refine⟨_,rfl,ju_ ?_⟩
    show Q (some (Value.ref u2.objs.size)) _
    rw[zz]at b4 c4 ⊢
    exact hQ x y u3 hx hy g3 ((m3.extBut k4.extBut D.i12).at fun o q=>a3 _ _ q) (m6.at fun o q=>a3 _ _ q) b4 c4 kk
   ·exact fun hy=>⟨(hN (.inr hy)).1,fun u2 e k4 he=>stop u2 e (fun c o n1 n2 n3 q=>k4 c o n3 (k3.extBut c o n2 (k0.extBut c o n1 q))) he (.inr hy)⟩
  ·exact fun hx=>⟨(hN (.inl hx)).1,fun u1 e k3 he=>stop u1 e (fun c o n1 n2 n3 q=>k3 c o n2 (k0.extBut c o n1 q)) he (.inl hx)⟩
 ·have k0:=Heap.SameBut.refl z s.heap
  have m1:=h1.extBut k0.extBut D.i1z
  have m2:=bE.extBut k0.extBut D.l1z
  wp_walk using Gj (A:=A.in1) (s:={s with heap:=s.heap}) m1 m2
  ·intro x u1 hx m3 k3
   have m4:=(h2.extBut k0.extBut D.i2z).extBut k3.extBut D.i12.symm
   have m5:=(bS.extBut k0.extBut D.l2z).extBut k3.extBut D.l2i1
   wp_walk using Gj (A:=A.in1) (s:={s with heap:=u1}) m4 m5
   ·intro y u2 hy m6 k4
    wp_walk using newT
    ·exact (show 2<=sizeLine from by decide)
    intro u3 q3
    obtain⟨a3,b3,c3⟩:=psh q3 rfl
    wp_walk
    have zz:u2.objs.size=s.heap.objs.size:=k4.1.trans (k3.1.trans k0.1)
    have b4:IsPair u3 u2.objs.size x y:=b3
    have c4:u3.objs.size=u2.objs.size+1:=c3
    have kk:∀c o,c≠z->c≠i1->c≠i2->s.heap.get? c=some o->u3.get? c=some o:=fun c o n1 n2 n3 q=>a3 _ _ (k4.extBut c o n3 (k3.extBut c o n2 (k0.extBut c o n1 q)))
    have g3:=a3 _ _ (k4.extBut z _ D.i2z.symm (k3.extBut z _ D.i1z.symm hz))
    refine⟨_,rfl,ju_ ?_⟩
    show Q (some (Value.ref u2.objs.size)) _
    rw[zz]at b4 c4 ⊢
    exact hQ x y u3 hx hy g3 ((m3.extBut k4.extBut D.i12).at fun o q=>a3 _ _ q) (m6.at fun o q=>a3 _ _ q) b4 c4 kk
   ·exact fun hy=>⟨(hN (.inr hy)).1,fun u2 e k4 he=>stop u2 e (fun c o n1 n2 n3 q=>k4 c o n3 (k3.extBut c o n2 (k0.extBut c o n1 q))) he (.inr hy)⟩
  ·exact fun hx=>⟨(hN (.inl hx)).1,fun u1 e k3 he=>stop u1 e (fun c o n1 n2 n3 q=>k3 c o n2 (k0.extBut c o n1 q)) he (.inl hx)⟩
end
def ZTp (xs ys:Array Value)(lo:Addr)(h:Heap)(as:List Addr):Prop:=as.Pairwise (· < ·)/\∀(j:Nat) a,as[j]?=some a->lo<a/\∃x y,xs[j]?=some x/\ys[j]?=some y/\IsPair h a x y
def ZTp.keep  {lo:Addr}   (g:ZTp xs ys lo h as)(k:∀b o,lo<b->h.get? b=some o->h'.get? b=some o):ZTp xs ys lo h' as:=⟨g.1,fun j a q=>let ⟨l,x,y,e1,e2,e3⟩:=g.2 j a q;⟨l,x,y,e1,e2,k a _ l e3⟩⟩
def ZTp.snoc  {lo b:Addr}    (g:ZTp xs ys lo h as)(hl:lo<b)(hb:∀a o,h.get? a=some o->a∈as->a<b)(e1:xs[as.length]?=some x)(e2:ys[as.length]?=some y)(ht:IsPair h b x y):ZTp xs ys lo h (as++[b]):=by
 refine⟨q1_.mpr ⟨g.1,rN _ _,fun a ha c hc=>?_⟩,fun j a q=>?_⟩
 ·obtain⟨j,hj⟩:=jG_.mp ha
  obtain⟨_,_,_,_,_,e⟩:=g.2 j a hj
  rw[jq_.mp hc]
  exact hb a _ e ha
 ·rcases qF_ j as.length with l|l
  ·rw[jd_ l]at q
   exact g.2 j a q
  ·have:=(jb_.mp q).1
   obtain rfl:j=as.length:=by simp at this;lia
   rw[jm_ l,qb_]at q
   obtain rfl:b=a:=by simpa using q
   exact⟨hl,x,y,e1,e2,ht⟩
section
variable {prog:Program} {w:World} {s:Shared}
def Ol:typeLookup (.type "zip") "__len__"=pure none:=by rw[typeLookup_type,builtinLookup_eq_fast];kernel_rfl
def Mj:typeLookup (.type "zip") "__length_hint__"=pure none:=by rw[typeLookup_type,builtinLookup_eq_fast];kernel_rfl
def U6  {z TI TO i1 i2 l1 l2:Addr}   (D:ZipApart z TI TO i1 i2 l1 l2)(hn:xs.size<=sizeLine)(hxy:xs.size=ys.size)(hz:IsZip s.heap z TI TO .none)(fJ:IsPair s.heap TI (.ref i1) (.ref i2))(gi:IsPair s.heap TO a b)(h1:Bw t1 s.heap i1 l1 0)(h2:Bw t2 s.heap i2 l2 0)(bE:BK t1 s.heap l1 xs)(bS:BK t2 s.heap l2 ys):
  Gat prog w s z z "zip" xs.size (fun b=>b=z\/b=TO\/b=i1\/b=i2) (fun i ai h=>∃as,ai=as.map Value.ref/\as.length=i/\ZTp xs ys s.heap.objs.size h as/\(IsPair h TI (.ref i1) (.ref i2)/\Bw t1 h i1 l1 i/\Bw t2 h i2 l2 i/\BK t1 h l1 xs/\BK t2 h l2 ys)/\((IsZip h z TI TO .none/\∃a b,IsPair h TO a b) \/ ∃T f oT,h.get? z=some (zpO T TI TO f)/\h.get? T=some oT/\s.heap.objs.size<T)) (fun ai h=>∃as,ai=as.map Value.ref/\as.length=xs.size/\ZTp xs ys s.heap.objs.size h as):=by
 have lz:=js_ hz
 have lI:=js_ fJ
 have lO:=js_ gi
 have a1:=h1.lt
 have a2:=h2.lt
 have b1:=bE.lt
 have b2:=bS.lt
 have sq:∀{t:Bool} {h h':Heap} {l:Addr} {v:Array Value},BK t h l v->(∀o,h.get? l=some o->h'.get? l=some o)->BK t h' l v:=fun {t} {h h' l v} x k=>by
  cases t
  ·obtain⟨o,e,r⟩:=x;exact⟨o,k o e,r⟩
  ·obtain⟨o,e,r⟩:=x;exact⟨o,k o e,r⟩
 refine⟨⟨_,hz,rfl⟩,by decide,by decide,hn,fun A t Q E k q=>?_,fun A u Q E k zz q=>?_,fun A i ai t Q E hh j hl hi lt q1 q2=>?_,fun i ai h h' j k=>?_,?_⟩
 ·have hT:t.TypeIs (.ref z) "zip" := ⟨_,k _ _ hz,rfl⟩
  unfold Builtin.List.listLengthHint
  wp_walk using wpAny_specialOf hT Ol,wpAny_specialOf hT Mj
  exact q _ t.toks
 ·exact wpAny_pyIter_zip (k _ _ hz) (q u ⟨[],rfl,rfl,⟨.nil,fun j a e=>by simp at e⟩,⟨k _ _ fJ,h1.at fun o e=>k _ o e,h2.at fun o e=>k _ o e,sq bE fun o e=>k _ o e,sq bS fun o e=>k _ o e⟩,.inl ⟨k _ _ hz,_,_,k _ _ gi⟩⟩ fun b o e=>e)
 ·obtain⟨as,rfl,e2,e3,⟨e4,e5,e6,e7,e8⟩,e9⟩:=j
  have old:∀{b:Addr},s.heap.objs.size<b->¬ (b=z\/b=TO\/b=i1\/b=i2):=fun {b} l x=>by
   rcases x with rfl|rfl|rfl|rfl
   ·exact absurd lz (xY_.mpr (q2_ l))
   ·exact absurd lO (xY_.mpr (q2_ l))
   ·exact absurd a1 (xY_.mpr (q2_ l))
   ·exact absurd a2 (xY_.mpr (q2_ l))
  have fin:∀h',(xs[i]?=none\/ys[i]?=none)->KP (fun b=>b=z\/b=TO\/b=i1\/b=i2) t.heap h'->Q none {t with heap:=h' }:=fun h' e k=>by
   have:i=xs.size:=by rcases e with e|e<;>rw[rE]at e<;>lia
   exact q2 h' t.toks this ⟨as,rfl,by lia,e3.keep fun b o l q=>k b o (old l) q⟩ k
  have one:∀x y h',xs[i]?=some x->ys[i]?=some y->Bw t1 h' i1 l1 (i+1)->Bw t2 h' i2 l2 (i+1)->IsPair h' t.heap.objs.size x y->KP (fun b=>b=z\/b=TO\/b=i1\/b=i2) t.heap h'->(∃T f oT,h'.get? z=some (zpO T TI TO f)/\h'.get? T=some oT/\s.heap.objs.size<T)->Q (some (.ref t.heap.objs.size)) {t with heap:=h' }:=fun x y h' ex ey i1' i2' hp k st=>by
   refine q1 _ h' t.toks (q4_.mp ex).1 ⟨as++[t.heap.objs.size],by simp,by simp[e2],(e3.keep fun b o l q=>k b o (old l) q).snoc lt (fun a o _ m=>?_) (by rw[e2];exact ex) (by rw[e2];exact ey) hp,⟨k _ _ (fun x=>?_) e4,i1',i2',sq e7 fun o q=>k _ o (fun x=>?_) q,sq e8 fun o q=>k _ o (fun x=>?_) q⟩,.inr st⟩ k
   ·obtain⟨j,hj⟩:=jG_.mp m
    obtain⟨_,_,_,_,_,e⟩:=e3.2 j a hj
    exact js_ e
   ·rcases x with x|x|x|x
    ·exact D.TIz x
    ·exact D.TITO x
    ·exact D.TIi1 x
    ·exact D.TIi2 x
   ·rcases x with x|x|x|x
    ·exact D.l1z x
    ·exact D.l1TO x
    ·exact D.l1i1 x
    ·exact D.l1i2 x
   ·rcases x with x|x|x|x
    ·exact D.l2z x
    ·exact D.l2TO x
    ·exact D.l2i1 x
    ·exact D.l2i2 x
  rcases e9 with ⟨c1,c,d,c2⟩|⟨T,f,oT,c1,c2,c3⟩
  ·refine zipN D c1 e4 c2 e5 e6 e7 e8 (fun x y h' ex ey g1 g2 g3 g4 g5 gs gk=>one x y h' ex ey g3 g4 g5 (fun b o n q=>gk b o (fun z=>n (.inl z)) (fun z=>n (.inr (.inl z))) (fun z=>n (.inr (.inr (.inl z)))) (fun z=>n (.inr (.inr (.inr z)))) q) ⟨_,false,_,g1,g5,lt⟩) fun e=>⟨hh,fun h' gk=>fin h' e fun b o n q=>gk b o (fun z=>n (.inl z)) (fun z=>n (.inr (.inl z))) (fun z=>n (.inr (.inr (.inl z)))) (fun z=>n (.inr (.inr (.inr z)))) q⟩
  ·refine zipH D c1 c2 e4 e5 e6 e7 e8 (fun x y h' ex ey g1 g3 g4 g5 gs gk=>one x y h' ex ey g3 g4 g5 (fun b o n q=>gk b o (fun z=>n (.inl z)) (fun z=>n (.inr (.inr (.inl z)))) (fun z=>n (.inr (.inr (.inr z)))) q) ⟨T,true,oT,g1,gk T oT (fun z=>old c3 (.inl z)) (fun z=>old c3 (.inr (.inr (.inl z)))) (fun z=>old c3 (.inr (.inr (.inr z)))) c2,c3⟩) fun e=>⟨hh,fun h' gk=>fin h' e fun b o n q=>gk b o (fun z=>n (.inl z)) (fun z=>n (.inr (.inr (.inl z)))) (fun z=>n (.inr (.inr (.inr z)))) q⟩
 ·obtain⟨as,r1,r2,r3,⟨r4,r5,r6,r7,r8⟩,r9⟩:=j
  refine⟨as,r1,r2,r3.keep fun b o l q=>k b o (qL_ l) q,⟨k _ _ (jL_ lI) r4,r5.at fun o q=>k _ o (jL_ a1) q,r6.at fun o q=>k _ o (jL_ a2) q,sq r7 fun o q=>k _ o (jL_ b1) q,sq r8 fun o q=>k _ o (jL_ b2) q⟩,?_⟩
  rcases r9 with ⟨c1,c,d,c2⟩|⟨T,f,oT,c1,c2,c3⟩
  ·exact .inl ⟨k _ _ (jL_ lz) c1,c,d,k _ _ (jL_ lO) c2⟩
  ·exact .inr ⟨T,f,oT,k _ _ (jL_ lz) c1,k _ _ (qL_ c3) c2,c3⟩
 ·rintro (x|x|x|x)
  ·exact absurd x (qL_ lz)
  ·exact absurd x (qL_ lO)
  ·exact absurd x (qL_ a1)
  ·exact absurd x (qL_ a2)
end
end PySem
namespace L2
open PySem PySem.Spec PyProof.Rows GW
def SqB (K:α3)(H:Hp)(t:Bool)(a:Addr)(xs:List V):Prop:=match t with|false=>SqL K H a xs|true=>SqT K H a xs
def Inv.seqB         (I:Inv X af σ H s)(h:SqB X.K H t a xs):∃its:List Value,Vals xs its/\BK t s.heap a its.toArray:=by
 cases t
 ·obtain⟨its,r,p,_⟩:=I.list h
  exact⟨its,r,p.isList⟩
 ·obtain⟨its,r,p,_⟩:=I.tuple h
  exact⟨its,r,p⟩
def Itz2 (K:α3)(t1 t2:Bool)(a b:Addr)(xs ys:List V):It:=⟨fun i H=>i<xs.length/\i<ys.length/\SqB K H t1 a xs/\SqB K H t2 b ys,fun i H x H'=>∃t u v,H t=none/\xs[i]?=some u/\ys[i]?=some v/\x=.ref t/\H'=upd H t (.tup [u,v]),fun i H=>(xs.length<=i\/ys.length<=i)/\SqB K H t1 a xs/\SqB K H t2 b ys⟩
def QD {P:Program}{w:World}{K:α3}{gc:List Expr}{x1}{eV:Pos}{t1 t2:Bool}{a b z TI TO i1 i2:Addr}(D:ZipApart z TI TO i1 i2 a b)(xs ys:List V):Turn P w K (.Tuple gc x1 eV) (Itz2 K t1 t2 a b xs ys) [z,TI,TO,i1,i2] z
  (fun i h=>IsZip h z TI TO .none/\IsPair h TI (.ref i1) (.ref i2)/\(∃c d,IsPair h TO c d)/\Bw t1 h i1 a i/\Bw t2 h i2 b i) where
 mem:=by simp
 obj:=fun i h st c hc=>by
  obtain⟨h1,h2,⟨u,v,h3⟩,h4',h5'⟩:=st
  obtain⟨o4,h4,d4⟩:=h4'.ob
  obtain⟨o5,h5,d5⟩:=h5'.ob
  simp only[jB_,x8_,or_false]at hc
  rcases hc with rfl|rfl|rfl|rfl|rfl
  ·exact⟨_,h1,fun v z=>by cases z⟩
  ·exact⟨_,h2,fun v z=>by cases z⟩
  ·exact⟨_,h3,fun v z=>by cases z⟩
  ·exact⟨o4,h4,fun v z=>by rw[d4]at z;cases z⟩
  ·exact⟨o5,h5,fun v z=>by rw[d5]at z;cases z⟩
 keep:=fun i h h' st k=>by
  obtain⟨h1,h2,⟨u,v,h3⟩,h4,h5⟩:=st
  exact⟨k z (by simp) _ h1,k TI (by simp) _ h2,⟨u,v,k TO (by simp) _ h3⟩,h4.at fun o q=>k i1 (by simp) o q,h5.at fun o q=>k i2 (by simp) o q⟩
 item:=by
  intro X hP hw hK hc i af s σ H E I hf st hg
  subst hP hw hK
  obtain⟨hi,hj,hq,cS⟩:=hg
  obtain⟨hz,fJ,⟨c,d,gi⟩,h1,h2⟩:=st
  obtain⟨its,rv,p⟩:=I.seqB hq
  obtain⟨aK,jD,p2⟩:=I.seqB cS
  obtain⟨u,hu,ru⟩:=rv.get (i:=i) (x:=xs[i]) (by simp[hi])
  obtain⟨v,hv,pE⟩:=jD.get (i:=i) (x:=ys[i]) (by simp[hj])
  have l1:=rv.length
  have l2:=jD.length
  refine zipN D hz fJ gi h1 h2 p p2 (fun u' v' h' eu ev g1 g2 g3 g4 g5 gs gk=>?_) fun y=>by simp at y;lia
  obtain rfl:u=u':=by simpa [hu] using eu
  obtain rfl:v=v':=by simpa [hv] using ev
  have hTz:s.heap.objs.size≠z:=qL_ (js_ hz)
  refine⟨_,rfl,wpAny_letOwnedTupleGo_zip g1 fun fZ e1 cR=>?_⟩
  have eY:∀b o,b ∉ [z,TI,TO,i1,i2]->s.heap.get? b=some o->fZ.get? b=some o:=fun b o hb q=>by
   simp only[jB_,x8_,or_false,not_or]at hb
   exact (cR.2 b hb.1).trans (gk b o hb.1 hb.2.2.1 hb.2.2.2.1 hb.2.2.2.2 q)
  obtain⟨un,hok⟩:=I.unL eY hf
  have hn:H s.heap.objs.size=none:=I.hok.fresh (jg_ _)
  have new:Bo X.prog X.w (upd H s.heap.objs.size (.tup [xs[i],ys[i]])) fZ s.heap.objs.size (.tup [xs[i],ys[i]]):=⟨by have:=Ar;simp;lia,[u,v],.cons ru (.cons pE .nil),_,(cR.2 _ hTz).trans g5,rfl,_,rfl⟩
  refine⟨.ref s.heap.objs.size,upd H s.heap.objs.size (.tup [xs[i],ys[i]]),I.call' (s':={s with heap:=fZ }) (ch:=[z,TI,TO,i1,i2]) rfl (un.track (jg_ _) hn) (hok.track hn new) I.bare (fun b hb=>?_),rfl,⟨_,_,_,hn,by simp[hi],by simp[hj],rfl,rfl⟩,?_,fun b hb=>?_⟩
  ·exact (hf b hb).ch
  ·refine⟨e1,(cR.2 TI D.TIz).trans (gk TI _ D.TIz D.TITO D.TIi1 D.TIi2 fJ),⟨u,v,(cR.2 TO D.TOz).trans g2⟩,g3.at fun o q=>(cR.2 i1 D.i1z).trans q,g4.at fun o q=>(cR.2 i2 D.i2z).trans q⟩
  ·have ig:=hf b hb
   have:∃o,s.heap.get? b=some o:=by
    simp only[jB_,x8_,or_false]at hb
    rcases hb with rfl|rfl|rfl|rfl|rfl
    ·exact⟨_,hz⟩
    ·exact⟨_,fJ⟩
    ·exact⟨_,gi⟩
    ·obtain⟨o,ho,_⟩:=h1.ob;exact⟨o,ho⟩
    ·obtain⟨o,ho,_⟩:=h2.ob;exact⟨o,ho⟩
   obtain⟨o,ho⟩:=this
   rw[Ah (jL_ (js_ ho))]
   exact ig.1
 done:=by
  intro X hP hw hK hc i af s σ H E I hf st hg
  subst hP hw hK
  obtain⟨hi,hq,cS⟩:=hg
  obtain⟨hz,fJ,⟨c,d,gi⟩,h1,h2⟩:=st
  obtain⟨its,rv,p⟩:=I.seqB hq
  obtain⟨aK,jD,p2⟩:=I.seqB cS
  have l1:=rv.length
  have l2:=jD.length
  refine zipN D hz fJ gi h1 h2 p p2 (fun u v h' eu ev=>by have a:=(q4_.mp eu).1;have b:=(q4_.mp ev).1;simp at a b;lia) fun _=>⟨I.ok.hd hc,fun h' gk=>⟨rfl,?_⟩⟩
  obtain⟨un,hok⟩:=I.unL (h':=h') (fun b o hb q=>by
   simp only[jB_,x8_,or_false,not_or]at hb
   exact gk b o hb.1 hb.2.2.1 hb.2.2.2.1 hb.2.2.2.2 q) hf
  exact I.call' (s':={s with heap:=h' }) (ch:=[z,TI,TO,i1,i2]) rfl un hok I.bare fun b hb=>(hf b hb).ch
 self:=fun A i s Q E st h=>wpAny_pyIter_zip st.1 h
def Wv (K:α3)(ta:TA):TI:=fun σ H R=>ta σ H fun vs H1=>∃a b xs ys t1 t2,vs=[.ref a,.ref b]/\SqB K H1 t1 a xs/\SqB K H1 t2 b ys/\R (Itz2 K t1 t2 a b xs ys) H1
theorem QE {K:α3}     : Wv K ta σ H Z=ta σ H fun vs H1=>∃a b xs ys t1 t2,vs=[.ref a,.ref b]/\SqB K H1 t1 a xs/\SqB K H1 t2 b ys/\Z (Itz2 K t1 t2 a b xs ys) H1:=rfl
def U7   {x1}     (hg:Gl X "zip")(hm:X.mg "zip"=none)(ha:PA X [e,f] ta)(hs:starEach [e,f] X.env=[(false,eval e X.env),(false,eval f X.env)]:=by rfl)(cR:starEach [f] X.env=[(false,eval f X.env)]:=by rfl):PI X (.Tuple gc x1 eV) (.Call (.Name "zip" p) [e,f] [] pos) (Wv X.K ta):=by
 intro af s σ H R I h
 refine Call_ (D6 I hg hm boot_zip (qf_ (thn (ha pos af s σ H _ I h) fun us s1 ⟨vs,H1,I1,r1,q1⟩=>?_) (by rw[hs,cR]) (by rw[cR];rfl)))
 obtain⟨a,b,xs,ys,t1,t2,ev,hq,cS,q⟩:=q1
 subst ev
 cases r1 with
 |cons r rr=>cases rr with
  |cons r' rr=>
   cases rr
   cases r
   cases r'
   obtain⟨its,rv,pl⟩:=I1.seqB hq
   obtain⟨aK,jD,jc⟩:=I1.seqB cS
   refine Ic pl jc fun h' hz fJ gi hi1 nG hsz hk=>?_
   refine wpAny_pyIter_zip (s:={s1 with heap:=h' }) hz ?_
   have I2:Inv X af σ H1 {s1 with heap:=h' }:=I1.kept (t':=s1.toks) hk
   refine⟨_,_,_,_,H1,rfl,I2,QD (zipApart_new pl.lt jc.lt) xs ys,⟨hz,fJ,⟨_,_,gi⟩,hi1,nG⟩,fun c hc=>?_,q⟩
   have aS:s1.heap.objs.size<=c:=by
    simp only[jB_,x8_,or_false]at hc
    rcases hc with rfl|rfl|rfl|rfl|rfl
    ·exact xo_ _ 4
    ·exact xo_ _ 2
    ·exact xo_ _ 3
    ·exact jg_ _
    ·exact xo_ _ 1
   exact I1.fpOk aS (I1.hok.fresh aS)
def Xh {K:α3}         (n:Nat)(b8:n<=xs.length)(gj:n<=ys.length)(hn3:xs.length=n\/ys.length=n)(Pv:Nat->St->Hp->Prop)(h0:Pv 0 σ H)(hl:∀i σ H,i<=n->Pv i σ H->SqB K H t1 a xs/\SqB K H t2 b ys)
  (hs:∀i u v σ H t,i<n->xs[i]?=some u->ys[i]?=some v->Pv i σ H->H t=none->g (.ref t) σ (upd H t (.tup [u,v])) fun aj H2=>tb {D with nx:=Pv (i+1),ct:=Pv (i+1),bk:=D.nx} aj H2) (hd:∀σ H,Pv n σ H->D.nx σ H):ForW (Itz2 K t1 t2 a b xs ys) g tb D σ H:=by
 refine⟨fun i m σ H=>m+i=n/\Pv i σ H,⟨n,by lia,h0⟩,fun i m σ H ⟨hm,hp⟩=>?_⟩
 obtain⟨q1,q2⟩:=hl i σ H s!"" hp
 by_cases hi:i<n
 ·refine .inr ⟨⟨by lia,by lia,q1,q2⟩,Pv (i+1),fun ag H' h=>⟨m-1,by lia,by lia,h⟩,fun x H' hy=>?_⟩
  obtain⟨t,u,v,e1,e2,e3,rfl,rfl⟩:=hy
  exact hs i u v σ H t hi e2 e3 hp e1
 ·have e:i=n:=by lia
  subst e
  exact .inl ⟨⟨by lia,q1,q2⟩,hd σ H hp⟩
end L2
namespace Nest
def sl (row:α2)(b i:Nat):α2:=(row.take i).drop b
def outF (p e:Int)(s:α2×Int)(x:Int):α2×Int:=if x=e then (s.1,s.2-1) else (if s.2=0 then s.1++[x] else s.1,if p<=x then s.2+1 else s.2)
def outS (p e:Int)(l:α2):α2×Int:=l.foldl (outF p e) ([],0)
def outW (p e:Int)(l:α2):α2:=(outS p e l).1
def wd (p e:Int)(row:α2)(i a:Nat):α2:=outW p e (sl row (a+1) i)
end Nest
namespace L2
open PySem PySem.Spec PyProof.Rows GW
def QF  {K:α3}   (hK:X.K=K)(hl:PE X l tl):PI X tg l (iTup K tl):=by subst hK;exact E3 hl
end L2
namespace L2
open PySem PySem.Spec PyProof.Rows
def QG  {K:α3}(h:X.K=K):OpR X (binaryOp .Add) (E4 K):=by subst h;exact EK
end L2
namespace L2
open PySem PySem.W PySem.Spec PySem.Calls PyProof.Rows
def Om    [DecidableEq κ](knd:HeapKind prog w κ)  (hd:(d==sysModules)=false):
  MeetsIn prog w (Builtin.«dict.__len__» ⟨[.ref d],[]⟩) (fun _ R s=>∃xs,s.heap.DictOfH knd d xs/\R (.ok (.ret (.int (xs.length:Nat) s.toks))) {s with toks:=s.toks+1}):=
 .of_wp fun A R s ⟨xs,⟨o,es,ep,ho,_,ix,he,_⟩,h⟩=>by
  show wpAny _ _ (dictSize d >>= _) _ _ s
  unfold dictSize
  refine jf_ (jf_ (zu_ ho ix (ju_ ?_)))
  refine jf_ (wpAny_pendingCount_other hd (wpAny_ret_mkInt ?_))
  rw[tL,size_of_entries he]
  exact h
def Ww {prog:Program}{w:World}{κ:Type}[DecidableEq κ]{knd:HeapKind prog w κ}{A:Around}{E:Value->Shared->Prop}{s:Shared}{d:Addr}{xs:List (κ×Addr×Value)}{Q:Value->Shared->Prop}(hd:(d==sysModules)=false)(hm:s.heap.DictOfH knd d xs)(hfit:(xs.length:Int)<2 ^ 63)
  (h:Q (.int xs.length (s.toks+1)) {s with toks:=s.toks+1+1}):wpAny (model prog w) A (call (.builtin "len") [.ref d]) Q E s:=by
 refine Calls.call_function_entry kind_len plain_len entry_len (args_len1 _) ?_
 unfold Builtin.«len»
 refine jf_ (m:=oneArg "len" _) (ju_ (jf_ (m:=callSpecial? (.ref d) (Str.ofString "__len__")) (qJ_ (name:=Str.ofString "__len__") hm.typeIs F.slot_dict_len (call_meetsIn F.slot_dict_len hm.typeIs F.entry_dict_len (F.args_dict_len_1 _) (Om knd hd) ⟨xs,hm,?_⟩))))
 show wpAny _ _ _ _ _ {s with toks:=s.toks+1}
 refine jf_ (qX_ (ju_ (jf_ (wpAny_letGo ?_))))
 show wpAny _ _ (if ((xs.length:Nat):Int)<0 then _ else _) _ _ _
 rw[if_neg s!""]
 show wpAny _ _ (if ((xs.length:Nat):Int) >= 2 ^ 63 then _ else _) _ _ _
 rw[if_neg s!""]
 exact jf_ (wpAny_mkInt (ju_ ⟨_,rfl,h⟩))
def IW  : Cr X (.builtin "len") (fun xs H Q=>∃p kvs,xs=[.ref p]/\H p=some (.dT kvs)/\Q (.int kvs.length) H):=by
 intro af s σ H xs us Q I r h
 obtain⟨p,kvs,rfl,e,q⟩:=h
 obtain⟨u,rfl,rx⟩:=vals1 r
 cases rx
 obtain⟨z,hd,xs,aZ,dd⟩:=UJ I.hok e
 have hn:=KS
 have ak:kvs.length=xs.length:=aZ.length
 exact Ww hd dd s!"" ⟨.int kvs.length,H,I.tok _,⟨_,by rw[ak]⟩,q⟩
def Nw (K:α3)(H:Hp)(xs:List V)(ws:α1):Prop:=xs.length=ws.length/\∀(i:Nat) (w:α2),ws[i]?=some w->∃t,xs[i]?=some (.ref t)/\H t=some (.lst (w.map V.int))
def Nw.at {K:α3}{H:Hp}{xs:List V}{ws:α1}(h:Nw K H xs ws){i:Nat}{x:V}(hx:xs[i]?=some x):∃t w,ws[i]?=some w/\x=.ref t/\H t=some (.lst (w.map V.int)):=by
 have hi:i<ws.length:=by rw[<-h.1];exact (jb_.mp hx).1
 obtain⟨t,a,b⟩:=h.2 i ws[i] (by simp[hi])
 rw[hx]at a
 exact⟨t,ws[i],by simp[hi],jr_ a,b⟩
def Nx:∀{ws:α1} {m:Nat} {w:α2},ws[m]?=some w->ws.idxOf w<=m
 |[],m,w,h=>by simp at h
 |v::ws,m,w,h=>by
  rw[zM_]
  cases m with
  |zero=>
   have:v=w:=by simpa using h
   simp[this]
  |succ m=>
   have:=Nx (ws:=ws) (m:=m) (w:=w) (by simpa using h)
   cases e:(v==w) with
   |true=>exact jX_ _
   |false=>exact t9 this
end L2
set_option maxHeartbeats 1000000
set_option maxHeartbeats 4000000
namespace L2
open PySem PySem.W PySem.Spec PySem.Calls PyProof.Rows
def Sl           (I:Inv X af σ H s)(hc:X.calm=true)(rv:Vals xs us)(pF:Vals ys vs)(pl:BK t1 s.heap a us.toArray)(jc:BK t2 s.heap b vs.toArray)(ak:xs.length=ys.length)(hz:xs.length<=sizeLine)
  (q:∀l rs H',Same H H'->H' l=none->rs.length=xs.length->(∀(i:Nat) (x y:V),xs[i]?=some x->ys[i]?=some y->∃t,rs[i]?=some (V.ref t)/\H' t=some (.tup [x,y]))->Q (.ref l) (upd H' l (.lst rs))):
  wpAny (model X.prog X.w) X.A (call (.type "zip") [.ref a,.ref b]) (fun v s2=>wpAny (model X.prog X.w) X.A (call (.type "list") [v]) (EP X af σ Q) X.xe s2) X.xe s:=by
 have l1:=rv.length
 have l2:=pF.length
 refine Ic pl jc fun h1 z1 z2 z3 z4 z5 z6 z7=>?_
 have sq:∀{t:Bool} {l:Addr} {v:Array Value},BK t s.heap l v->BK t h1 l v:=fun {t} {l v} x=>by
  cases t
  ·obtain⟨o,e,r⟩:=x;exact⟨o,z7 _ o e,r⟩
  ·obtain⟨o,e,r⟩:=x;exact⟨o,z7 _ o e,r⟩
 have G:Gat X.prog X.w {s with heap:=h1} (s.heap.objs.size+4) _ "zip" us.toArray.size _ _ _:=U6 (s:={s with heap:=h1}) (zipApart_new pl.lt jc.lt) (by rw[jp_,<-l1];exact hz) (by simp;lia) z1 z2 z3 z4 z5 (sq pl) (sq jc)
 refine G.list (I.ok.hd hc) fun h' tk ai c ⟨as,f1,f2,f3⟩ _ hS k4=>?_
 have aS:s.heap.objs.size<=h1.objs.size:=by lia
 have hk:∀b o,s.heap.get? b=some o->h'.get? b=some o:=fun b o e=>by
  have:=js_ e
  refine k4 b o (fun x=>?_) (z7 b o e)
  rcases x with x|x|x|x
  ·exact absurd x (jL_ (jz_ this (xo_ _ 4)))
  ·exact absurd x (jL_ (jz_ this (xo_ _ 3)))
  ·exact absurd x (jL_ this)
  ·exact absurd x (jL_ (jz_ this (xo_ _ 1)))
 have jE:as.length=xs.length:=by simp at f2;lia
 let cs:List (List V):=(xs.zip ys).map fun p=>[p.1,p.2]
 have bL:cs.length=xs.length:=by simp[cs,ak]
 have hci:∀(i:Nat) (x y:V),xs[i]?=some x->ys[i]?=some y->cs[i]?=some [x,y]:=fun i x y h1 h2=>by
  simp only[cs]
  rw[je_,show (xs.zip ys)[i]?=some (x,y) from qQ_.mpr ⟨h1,h2⟩];rfl
 have hzz:(as.zip cs).map (·.1)=as:=ua (by rw[jE,bL];exact jg_ _)
 have a6:∀p∈as.zip cs,∃(i:Nat) (x y:V),as[i]?=some p.1/\xs[i]?=some x/\ys[i]?=some y/\p.2=[x,y]:=fun p hp=>by
  obtain⟨i,hi⟩:=jG_.mp hp
  obtain⟨e1,e2⟩:=qQ_.mp hi
  have l:i<xs.length:=by rw[<-jE];exact (jb_.mp e1).1
  have ex:xs[i]?=some xs[i]:=by simp
  have ey:ys[i]?=some (ys[i]'s!""):=by simp
  rw[hci i _ _ ex ey]at e2
  exact⟨i,_,_,e1,ex,ey,(jr_ e2).symm⟩
 have ab:∀x∈as,h1.objs.size<x:=fun x hx=>by
  obtain⟨j,hj⟩:=jG_.mp hx
  exact (f3.2 j x hj).1
 have fr:∀p∈as.zip cs,h1.objs.size<p.1:=fun p hp=>by
  obtain⟨i,_,_,e,_⟩:=a6 p hp
  exact ab _ (jc_ e)
 obtain⟨H2,e1,e2,e3,e4,e5⟩:=Nu (as.zip cs) (by rw[hzz];exact f3.1.imp fun a=>jL_ a) (fun p hp=>by
  obtain⟨i,x,y,g1,g2,g3,g4⟩:=a6 p hp
  obtain⟨u,hu,ru⟩:=rv.get g2
  obtain⟨v,hv,pE⟩:=pF.get g3
  obtain⟨_,x',y',b1,b2,b3⟩:=f3.2 i p.1 g1
  obtain rfl:u=x':=by simpa [hu] using b1
  obtain rfl:v=y':=by simpa [hv] using b2
  refine⟨q2_ (zS_ aS (fr p hp)),by rw[g4];have:=Ar;simp;lia,[u,v],?_,⟨_,b3,rfl,0,rfl⟩⟩
  rw[g4]
  exact Vals.two' ru pE) H (Un.kept hk) (I.hok.kept hk) (fun p hp=>I.hok.fresh (q2_ (zS_ aS (fr p hp))))
 have hD:H2 h1.objs.size=none:=by
  rw[e5 _ (by rw[hzz];exact fun z=>absurd (ab _ z) (j8_ _))]
  exact I.hok.fresh aS
 have new:Bo X.prog X.w (upd H2 h1.objs.size (.lst (as.map V.ref))) h' h1.objs.size (.lst (as.map V.ref)):=⟨by rw[ja_,jE];exact hz,as.map Value.ref,c,Wu as,by rw[<-f1];exact hS⟩
 refine⟨.ref h1.objs.size,_,I.un (t':=tk) (e1.track aS hD) (e2.track hD new),rfl,q _ _ H2 e3 hD (by rw[ja_,jE]) fun i x y hx hy=>?_⟩
 have hi:i<as.length:=by rw[jE];exact (jb_.mp hx).1
 have mv:as[i]?=some as[i]:=by simp[hi]
 exact⟨as[i],by rw[je_,mv];rfl,e4 (as[i],[x,y]) (jG_.mpr ⟨i,qQ_.mpr ⟨mv,hci i x y hx hy⟩⟩)⟩
def Ny (K:α3)(ta:TA):TE:=fun σ H Q=>ta σ H fun vs H1=>∃a b xs ys,vs=[.ref a,.ref b]/\SqL K H1 a xs/\SqL K H1 b ys/\xs.length=ys.length/\∀l rs H',Same H1 H'->H' l=none->rs.length=xs.length ->
 (∀(i:Nat) (x y:V),xs[i]?=some x->ys[i]?=some y->∃t,rs[i]?=some (V.ref t)/\H' t=some (.tup [x,y]))->Q (.ref l) (upd H' l (.lst rs))
theorem Lh {K:α3}     : Ny K ta σ H Q=ta σ H fun vs H1=>∃a b xs ys,vs=[.ref a,.ref b]/\SqL K H1 a xs/\SqL K H1 b ys/\xs.length=ys.length/\∀l rs H',Same H1 H'->H' l=none->rs.length=xs.length ->
 (∀(i:Nat) (x y:V),xs[i]?=some x->ys[i]?=some y->∃t,rs[i]?=some (V.ref t)/\H' t=some (.tup [x,y]))->Q (.ref l) (upd H' l (.lst rs)):=rfl
def Oo     (hc:X.calm=true)(hg:Gl X "list")(hm:X.mg "list"=none)(jz:Gl X "zip")(gV:X.mg "zip"=none)(ha:PA X [e,f] ta)
  (jb:starEach [.Call (.Name "zip" p2) [e,f] [] dP] X.env=[(false,eval (.Call (.Name "zip" p2) [e,f] [] dP) X.env)]:=by rfl) (hs:starEach [e,f] X.env=[(false,eval e X.env),(false,eval f X.env)]:=by rfl) (cR:starEach [f] X.env=[(false,eval f X.env)]:=by rfl):
  PE X (.Call (.Name "list" p) [.Call (.Name "zip" p2) [e,f] [] dP] [] pos) (Ny X.K ta):=by
 intro af s σ H Q I h
 refine xq_ (D6 I hg hm boot_list ?_)
 refine qf_ ?_ jb rfl
 rw[jb]
 refine xp_ ?_
 refine Call_ (D6 I jz gV boot_zip (qf_ (thn (ha dP af s σ H _ I h) fun us s1 ⟨vs,H1,I1,r1,q1⟩=>?_) (by rw[hs,cR]) (by rw[cR];rfl)))
 obtain⟨a,b,xs,ys,ev,hq,cS,ak,q⟩:=q1
 subst ev
 cases r1 with
 |cons r rr=>cases rr with
  |cons r' rr=>
   cases rr
   cases r
   cases r'
   obtain⟨its,rv,pl,ff⟩:=I1.list hq
   obtain⟨aK,jD,jc,_⟩:=I1.list cS
   exact qN_ (Sl (t1:=false) (t2:=false) I1 hc rv jD pl.isList jc.isList ak ff q) (fun v s2 h=>xW_ h) fun _ _ e=>e
def Li  (hc:X.calm=true):Cr X (.builtin "max") (fun xs H Q=>∃(p:Addr) (ns:α2) (m:Int),xs=[.ref p]/\SqL X.K H p (ns.map V.int)/\m∈ns/\(∀x∈ns,x<=m)/\Q (.int m) H):=by
 intro af s σ H xs us Q I r h
 obtain⟨p,ns,m,rfl,hq,hm,hmax,q⟩:=h
 obtain⟨u,rfl,rx⟩:=vals1 r
 cases rx
 obtain⟨its,r',pl,_⟩:=I.list hq
 have hi:IntsAre its ns:=by simpa using intsAre_of r'
 obtain⟨zs,e⟩:=hi.allInts.items
 have iz:ns=zs.toList.map (·.1):=by rw[<-hi.numsOf,<-nums_intItems,<-e]
 have ay:0<ns.length:=qB_ hm
 have hsz:0<zs.size:=by rw[iz,ja_,j6_]at ay;exact ay
 have hl:=pl.isList
 rw[e]at hl
 refine max_intList (I.ok.hd hc) hl hsz fun v h' tk hv hk=>?_
 obtain⟨t,rfl⟩:=intItems_at hv
 obtain⟨h1,h2⟩:=argBest_gt (numAt zs) (zs.size-1)
 have g1:numAt zs (argBest (fun i j=>decide (numAt zs i > numAt zs j)) (zs.size-1))∈ns:=by
  rw[iz,numAt_eq];exact getD_mem (by rw[ja_,j6_];lia)
 have g2:m<=numAt zs (argBest (fun i j=>decide (numAt zs i > numAt zs j)) (zs.size-1)):=by
  rw[iz]at hm
  obtain⟨j,hj,rfl⟩:=mem_getD hm
  rw[ja_,j6_]at hj
  rw[<-numAt_eq];exact h2 j s!""
 have g3:=hmax _ g1
 have g4:numAt zs (argBest (fun i j=>decide (numAt zs i > numAt zs j)) (zs.size-1))=m:=by lia
 exact⟨.int m,H,I.kept hk,⟨t,by rw[g4]⟩,q⟩
def Lj  : Cr X (.builtin "len") (fun xs H Q=>(∃a kvs,xs=[V.ref a]/\H a=some (.dK kvs)/\Q (.int kvs.length) H) \/ ∃p kvs,xs=[.ref p]/\H p=some (.dT kvs)/\Q (.int kvs.length) H):=
 Cr.or (by
  intro af s σ H xs us Q I r h
  obtain⟨a,kvs,rfl,ha,q⟩:=h
  obtain⟨u,rfl,ru⟩:=vals1 r
  cases ru
  exact Xf I (.inl ha) fun t s' I'=>⟨.int kvs.length,H,I',⟨t,rfl⟩,q⟩) IW
def rIxB (K:α3):R2:=fun x y H Q=>rIxL K x y H Q\/rIxT K x y H Q
def U8  {K:α3}(h:X.K=K):IxR X (rIxB K):=IxR.or (Bn h) (Bt h)
theorem Wx {K:α3}    : rIxB K x y H Q=((∃p xs i v,x=.ref p/\y=.int i/\SqL K H p xs/\atI xs i=some v/\Q v H) \/ ∃p xs i v,x=.ref p/\y=.int i/\SqT K H p xs/\atI xs i=some v/\Q v H):=rfl
def TL:TE:=fun σ H Q=>PN σ H Q\/PQ σ H Q
theorem QH    : TL σ H Q=((∀p,H p=none->Q (.ref p) (upd H p (.dK []))) \/ ∀p,H p=none->Q (.ref p) (upd H p (.dT []))):=rfl
def Sm   : PE X (.Dict [] [] pos) TL:=fun af s σ H Q I h=>h.elim (fun h=>Nb af s σ H Q I h) (fun h=>Nc af s σ H Q I h)
end L2
namespace L2
section
variable {α:Type} [DecidableEq α]
def ins1 (ai:List α)(x:α):List α:=if x∈ai then ai else ai++[x]
def BA (ai row:List α):List α:=row.foldl ins1 ai
def AA (row:List α):List α:=BA [] row
def Ka {ai:List α}{x y:α}:y∈ins1 ai x↔y∈ai\/y=x:=by
 unfold ins1
 split
 ·rename_i h
  constructor
  ·exact .inl
  ·rintro (h' | rfl)
   ·exact h'
   ·exact h
 ·simp
def Ie:∀{row ai:List α} {y:α},y∈BA ai row↔y∈ai\/y∈row
 |[],ai,y=>by simp[BA]
 |x::row,ai,y=>by
  show y∈BA (ins1 ai x) row↔_
  rw[Ie,Ka,jB_,or_assoc]
def AN {row:List α}{y:α}:y∈AA row↔y∈row:=by
 unfold AA
 rw[Ie];simp
def Oq {ai:List α}{x:α}(h:ai.Nodup):(ins1 ai x).Nodup:=by
 unfold ins1
 split
 ·exact h
 ·rename_i hx
  exact xX_.mpr ⟨h,by simp,fun a ha b hb z=>by simp at hb;subst z hb;exact hx ha⟩
def FG:∀{row ai:List α},ai.Nodup->(BA ai row).Nodup
 |[],ai,h=>h
 |x::row,ai,h=>FG (row:=row) (Oq h)
def Bh (row:List α):(AA row).Nodup:=FG sJ
def Ml (row:List α)(x:α):AA (row++[x])=ins1 (AA row) x:=by
 unfold AA BA
 rw[qu_];rfl
def QI {l:List α}{x y:α}(hx:x∈l)(hy:y∈l)(h:l.idxOf x=l.idxOf y):x=y:=by
 have h1:=qG_ hx
 have h2:=qG_ hy
 have e1:l[l.idxOf x]=x:=qZ_ h1
 have e2:l[l.idxOf y]=y:=qZ_ h2
 rw[<-e1,<-e2]
 congr 1
def num (row:List α):α2:=row.map fun x=>((AA row).idxOf x:Int)
def Gk (row:List α):(num row).length=row.length:=by unfold num;rw[ja_]
def Du {β:Type}[DecidableEq β](f:α->β):∀(row ai:List α),(∀x y,x∈ai\/x∈row->y∈ai\/y∈row->f x=f y->x=y)->BA (ai.map f) (row.map f)=(BA ai row).map f
 |[],ai,_=>rfl
 |x::row,ai,h=>by
  show BA (ins1 (ai.map f) (f x)) (row.map f)=(BA (ins1 ai x) row).map f
  have e:ins1 (ai.map f) (f x)=(ins1 ai x).map f:=by
   unfold ins1
   by_cases hx:x∈ai
   ·rw[if_pos hx,if_pos (q6_ hx)]
   ·rw[if_neg hx,if_neg,jS_];rfl
    intro z
    obtain⟨y,hy,e⟩:=jt_.mp z
    have:=h y x (.inl hy) (.inr (jn_ ..)) e
    subst this
    exact hx hy
  rw[e]
  refine Du f row _ fun a b ha hb=>h a b ?_ ?_
  ·rcases ha with ha|ha
   ·rcases Ka.mp ha with ha|rfl
    ·exact .inl ha
    ·exact .inr (jn_ ..)
   ·exact .inr (jl_ _ ha)
  ·rcases hb with hb|hb
   ·rcases Ka.mp hb with hb|rfl
    ·exact .inl hb
    ·exact .inr (jn_ ..)
   ·exact .inr (jl_ _ hb)
def ncl (row:List α):Nat:=(AA row).length
def Gm (row:List α):ncl (num row)=ncl row:=by
 unfold ncl num AA
 have:=Du (fun x=>((AA row).idxOf x:Int)) row [] (fun x y hx hy e=>by
  simp at hx hy
  exact QI (AN.mpr hx) (AN.mpr hy) s!"")
 unfold AA at this
 simp only[xQ_]at this
 rw[this,ja_]
def Nz {row:List α}{i:Nat}{x:α}(h:row[i]?=some x):(num row)[i]?=some ((AA row).idxOf x:Int):=by
 unfold num
 rw[je_,h];rfl
def Mm {row:List α}{i j:Nat}{x y:α}(hx:row[i]?=some x)(hy:row[j]?=some y):(num row)[i]?=(num row)[j]? ↔ x=y:=by
 rw[Nz hx,Nz hy]
 constructor
 ·intro h
  have:=jr_ h
  exact QI (AN.mpr (jc_ hx)) (AN.mpr (jc_ hy)) s!""
 ·rintro rfl;rfl
def NA {row:List α}{n:Int}(h:n∈num row):0<=n/\n<ncl row:=by
 unfold num at h
 obtain⟨x,hx,rfl⟩:=jt_.mp h
 have:=qG_ (AN.mpr hx)
 exact⟨by lia,by unfold ncl;lia⟩
def Kb {row:List α}(h:row ≠ []):((ncl row:Int)-1)∈num row:=by
 have ay:AA row ≠ []:=fun z=>by
  cases row with
  |nil=>exact h rfl
  |cons x row=>
   have:x∈AA (x::row):=AN.mpr (jn_ ..)
   rw[z]at this;cases this
 have jF:0<(AA row).length:=zN_.mpr ay
 have au:(AA row).length-1<(AA row).length:=by lia
 refine jt_.mpr ⟨(AA row)[(AA row).length-1],AN.mp (j3_ au),?_⟩
 have e:=(Bh row).idxOf_getElem _ au
 rw[e]
 unfold ncl
 lia
def U9 {row:List α}(h:row ≠ []):1<=ncl row:=by
 have h1:=Kb h
 have:=NA h1
 lia
def GN (row:List α):ncl row<=row.length:=by
 unfold ncl
 have:∀(row ai:List α),(BA ai row).length<=ai.length+row.length:=fun row=>by
  induction row with
  |nil=>intro ai;exact jg_ _
  |cons x row ih=>
   intro ai
   have:=ih (ins1 ai x)
   have h2:(ins1 ai x).length<=ai.length+1:=by unfold ins1;split<;>simp
   show (BA (ins1 ai x) row).length<=_
   rw[jT_];lia
 have:=this row []
 simpa [AA] using this
end
def NB {α:Type}[DecidableEq α]:∀{l m:List α},l.Nodup->(∀x∈l,x∈m)->l.length<=m.length
 |[],m,_,_=>jX_ _
 |x::l,m,hn,h=>by
  have hx:=h x (jn_ ..)
  have h1:=qD_.mp hn
  have:=NB (m:=m.erase x) h1.2 fun y hy=>by
   have ay:y≠x:=fun z=>h1.1 (z ▸ hy)
   exact (xg_ ay).mpr (h y (jl_ _ hy))
  rw[qV_ hx]at this
  have hp:0<m.length:=qB_ hx
  rw[jT_];lia
def Ot {α β:Type}[DecidableEq α][DecidableEq β](f:α->β){l:List α}{m:List β}(hl:l.Nodup)(hm:m.Nodup)(hs:∀y∈m,∃x∈l,f x=y)(ak:l.length<=m.length){x y:α}(hx:x∈l)(hy:y∈l)(e:f x=f y):x=y:=by
 refine Decidable.byContradiction fun ay=>?_
 have cQ:∀z∈m,z∈(l.erase y).map f:=fun z hz=>by
  obtain⟨u,hu,rfl⟩:=hs z hz
  by_cases huy:u=y
  ·subst huy
   exact jt_.mpr ⟨x,(xg_ ay).mpr hx,e⟩
  ·exact jt_.mpr ⟨u,(xg_ huy).mpr hu,rfl⟩
 have:=NB hm cQ
 rw[ja_,qV_ hy]at this
 have hp:0<l.length:=qB_ hy
 lia
def Ou {α β:Type}[DecidableEq α][DecidableEq β]{row:List (α×β)}(h:ncl row<=ncl (row.map (·.1))){x y:α×β}(hx:x∈row)(hy:y∈row)(e:x.1=y.1):x.2=y.2:=by
 have h':(AA row).length<=(AA (row.map fun p:α×β=>p.1)).length:=h
 have:=Ot (fun p:α×β=>p.1) (Bh row) (Bh (row.map fun p:α×β=>p.1)) (fun z hz=>by
  obtain⟨p,hp,rfl⟩:=jt_.mp (AN.mp hz)
  exact⟨p,AN.mpr hp,rfl⟩) h' (AN.mpr hx) (AN.mpr hy) e
 rw[this]
def Va {α β:Type}[DecidableEq α][DecidableEq β]{row:List (α×β)}(h:∀x∈row,∀y∈row,x.1=y.1->x=y):ncl (row.map (·.1))=ncl row:=by
 unfold ncl AA
 have:=Du (fun p:α×β=>p.1) row [] (fun x y hx hy e=>by
  simp at hx hy
  exact h x hx y hy e)
 simp only[xQ_]at this
 rw[this,ja_]
structure WC (L:Int)(n:Nat)(b:α2->Nat->Int)(words:α1)(c:α2):Prop where
 w0:words[0]?=some []
 ok:∀w∈words,∀x∈w,0<=x/\x<L
 tl:∀(k:Nat) (w:α2),words[k]?=some w->0<k->w.tail∈words.take k
 nd:words.Nodup
 len:c.length=n
 rng:∀v∈c,0<=v/\v<ncl c
 top:((ncl c:Int)-1)∈c
 iff:∀r s,r<n->s<n->(c[r]?=c[s]? ↔ ∀w∈words,b w r=b w s)
 le:words.length<=ncl c
def rowB (n:Nat)(b:α2->Nat->Int)(w:α2):α2:=(qV n).map (b w)
def BY     (hr:r<n):(rowB n b w)[r]?=some (b w r):=by
 unfold rowB
 rw[je_,qE_ hr];rfl
def QJ {c m:α2}(h:c.length=m.length):(c.zip m).map (·.1)=c:=by
 rw[ua s!""]
def Jo {c m:α2}{r:Nat}{u v:Int}(hu:c[r]?=some u)(hv:m[r]?=some v):(c.zip m)[r]?=some (u,v):=by
 rw[qQ_];exact⟨hu,hv⟩
section
variable {L:Int} {n:Nat} {b:α2->Nat->Int} {words:α1} {c:α2} {w:α2} {x:Int}
def WC.start (hn:1<=n):WC L n b [[]] (num (rowB n b [])):=by
 have ay:rowB n b [] ≠ []:=fun z=>by
  have:=jC_ rm z
  unfold rowB at this
  simp at this;lia
 refine⟨rfl,(fun w hw x hx=>by simp at hw;subst hw;cases hx),fun k w hk h0=>?_,by simp,by rw[Gk];unfold rowB;simp,fun v hv=>?_,?_,fun r s hr hs=>?_,?_⟩
 ·cases k with
  |zero=>lia
  |succ k=>simp at hk
 ·rw[Gm];exact NA hv
 ·rw[Gm];exact Kb ay
 ·rw[Mm (BY hr) (BY hs)]
  simp
 ·rw[Gm]
  exact U9 ay
def WC.at (h:WC L n b words c)  (hr:r<n):∃u,c[r]?=some u:=⟨c[r]'(by rw[h.len];exact hr),by simp[h.len,hr]⟩
def Dv:(rowB n b w).length=n:=by unfold rowB;simp
def WC.zlen (h:WC L n b words c):c.length=(rowB n b w).length:=by rw[h.len,Dv]
def WC.same (h:WC L n b words c)(aS:ncl (c.zip (rowB n b w))<=ncl c)  (hr:r<n)(hs:s<n)(e:c[r]?=c[s]?):b w r=b w s:=by
 obtain⟨u,hu⟩:=h.at hr
 obtain⟨v,hv⟩:=h.at hs
 have huv:u=v:=by rw[hu,hv]at e;exact jr_ e
 have h1:=jc_ (Jo hu (BY (b:=b) (w:=w) hr))
 have h2:=jc_ (Jo hv (BY (b:=b) (w:=w) hs))
 exact Ou (by rw[QJ (h.zlen)];exact aS) h1 h2 huv
def QK {c m:α2}{p:Int×Int}(hp:p∈c.zip m):∃r:Nat,c[r]?=some p.1/\m[r]?=some p.2:=by
 obtain⟨r,hr⟩:=jG_.mp hp
 have:=qQ_.mp (show (c.zip m)[r]?=some (p.1,p.2) from hr)
 exact⟨r,this.1,this.2⟩
def WC.told (h:WC L n b words c)(hs:∀r s,r<n->s<n->c[r]?=c[s]?->b w r=b w s):ncl (c.zip (rowB n b w))<=ncl c:=by
 have e:=Va (row:=c.zip (rowB n b w)) fun p hp q hq e=>by
  obtain⟨r,p1,p2⟩:=QK hp
  obtain⟨s,q1,q2⟩:=QK hq
  have hr:r<n:=by rw[<-h.len];exact (jb_.mp p1).1
  have f9:s<n:=by rw[<-h.len];exact (jb_.mp q1).1
  have:=hs r s hr f9 (by rw[p1,q1,e])
  rw[BY hr]at p2
  rw[BY f9]at q2
  have e2:p.2=q.2:=by rw[<-jr_ p2,<-jr_ q2,this]
  exact z6_ e e2
 rw[<-e,QJ h.zlen]
 exact jg_ _
def WC.more (h:WC L n b words c)(hn:1<=n)(hw:w∈words)(hx:0<=x/\x<L)(lr:ncl c<ncl (c.zip (rowB n b (x::w)))):WC L n b (words++[x::w]) (num (c.zip (rowB n b (x::w)))):=by
 have dr:x::w∉words:=fun hm=>by
  have:=h.told (w:=x::w) fun r s hr hs e=>((h.iff r s hr hs).mp e) _ hm
  lia
 have ff:(c.zip (rowB n b (x::w))).length=n:=by rw[zO_,h.len,Dv];lia
 have ay:c.zip (rowB n b (x::w)) ≠ []:=fun z=>by rw[z]at ff;simp at ff;lia
 have jF:0<words.length:=by
  have:=(jb_.mp h.w0).1
  exact this
 refine⟨by rw[jd_ jF];exact h.w0,fun v hv y hy=>?_,fun k v hk h0=>?_,?_,by rw[Gk,ff],fun v hv=>?_,?_,fun r s hr hs=>?_,?_⟩
 ·rcases jw_.mp hv with hv|hv
  ·exact h.ok v hv y hy
  ·rw[jq_.mp hv]at hy
   rcases jB_.mp hy with rfl|hy
   ·exact hx
   ·exact h.ok w hw y hy
 ·by_cases gf:k<words.length
  ·rw[jd_ gf]at hk
   rw[rA s!""]
   exact h.tl k v hk h0
  ·have:=(jb_.mp hk).1
   rw[jk_,jR_]at this
   have e:k=words.length:=by lia
   subst e
   rw[jm_ (jg_ _),qb_]at hk
   simp at hk
   subst hk
   rw[List.take_left']
   ·exact hw
   ·rfl
 ·exact xX_.mpr ⟨h.nd,by simp,fun a ha y hy z=>by simp at hy;subst z hy;exact dr ha⟩
 ·rw[Gm];exact NA hv
 ·rw[Gm];exact Kb ay
 ·obtain⟨u,hu⟩:=h.at hr
  obtain⟨v,hv⟩:=h.at hs
  rw[Mm (Jo hu (BY hr)) (Jo hv (BY hs))]
  constructor
  ·intro e y hy
   rcases jw_.mp hy with hy|hy
   ·exact ((h.iff r s hr hs).mp (by rw[hu,hv,(uh e).1])) y hy
   ·rw[jq_.mp hy];exact (uh e).2
  ·intro e
   have e1:=(h.iff r s hr hs).mpr fun y hy=>e y (j2_ _ hy)
   rw[hu,hv]at e1
   have e2:=e (x::w) (jy_ _ (jq_.mpr rfl))
   rw[jr_ e1,e2]
 ·rw[jk_,jR_,Gm]
  have:=h.le
  lia
def Told (n:Nat)(b:α2->Nat->Int)(c:α2)(w:α2):Prop:=∀r s,r<n->s<n->c[r]?=c[s]?->b w r=b w s
def WC.finer (h:WC L n b words c)(hz:c.length=n)  (ht:Told n b c u):Told n b (num (c.zip (rowB n b w))) u:=fun r s hr hs e=>by
 obtain⟨p,hp⟩:=h.at hr
 obtain⟨q,hq⟩:=h.at hs
 have:=(Mm (Jo hp (BY (b:=b) (w:=w) hr)) (Jo hq (BY (b:=b) (w:=w) hs))).mp e
 exact ht r s hr hs (by rw[hp,hq,(uh this).1])
def WC.mine (h:WC L n b words c)(hw:w∈words):Told n b c w:=fun r s hr hs e=>((h.iff r s hr hs).mp e) w hw
end
def QL {α β:Type}[DecidableEq α][DecidableEq β](f:α->β):∀(l:List α) (x:α),(∀y∈l,f y=f x->y=x)->(l.map f).idxOf (f x)=l.idxOf x
 |[],x,_=>rfl
 |a::l,x,h=>by
  rw[jZ_,zM_,zM_,QL f l x fun y hy=>h y (jl_ _ hy)]
  by_cases e:a=x
  ·subst e;simp
  ·have:¬ f a=f x:=fun z=>e (h a (jn_ ..) z)
   rw[show (a==x)=false by simpa using e,show (f a==f x)=false by simpa using this]
def Vb  [DecidableEq α][DecidableEq β](f:α->β)  (h:∀x∈row,∀y∈row,f x=f y->x=y):num (row.map f)=num row:=by
 have e:AA (row.map f)=(AA row).map f:=by
  unfold AA
  have:=Du f row [] (fun x y hx hy e=>h x (hx.resolve_left (by simp)) y (hy.resolve_left (by simp)) e)
  simpa using this
 unfold num
 rw[jU_,e]
 refine qr_ fun x hx=>?_
 show (((AA row).map f).idxOf (f x):Int)=_
 rw[QL f _ _ fun y hy e=>h y (AN.mp hy) x hx e]
def Sn {α:Type}[DecidableEq α]{l:List α}{x y:α}(hy:y∈l):(l++[x]).idxOf y=l.idxOf y:=by
 rw[z2_,if_pos hy]
def Mn {α:Type}[DecidableEq α]{l:List α}{x:α}(hx:x∉l):(l++[x]).idxOf x=l.length:=by
 rw[z2_,if_neg hx];simp
abbrev StC:=α1×α2
def IX (n:Nat)(b:α2->Nat->Int)(w:α2)(st:StC)(x:Nat):StC:=if ncl st.2<ncl (st.2.zip (rowB n b ((x:Int)::w))) then (st.1++[(x:Int)::w],num (st.2.zip (rowB n b ((x:Int)::w)))) else st
def FH (n:Nat)(b:α2->Nat->Int)(w:α2)(L:Nat)(st:StC):StC:=(qV L).foldl (IX n b w) st
def FJ (n:Nat)(b:α2->Nat->Int)(L:Nat):Nat->Nat->StC->StC
 |0,_,st=>st
 |f+1,k,st=>if k<st.1.length then FJ n b L f (k+1) (FH n b (st.1.getD k []) L st) else st
section
variable {n L:Nat} {b:α2->Nat->Int} {w:α2} {st:StC}
def Ig  : FH n b w (i+1) st=IX n b w (FH n b w i st) i:=by
 unfold FH
 rw[xT_,qu_];rfl
def Jp  (h:st.1.length<=k):FJ n b L f k st=st:=by
 cases f with
 |zero=>rfl
 |succ f=>unfold FJ;rw[if_neg s!""]
def Lk   (h:st.1[k]?=some v):FJ n b L (f+1) k st=FJ n b L f (k+1) (FH n b v L st):=by
 have hk:=(jb_.mp h).1
 rw[FJ,if_pos hk,jj_,h];rfl
structure WS (n L:Nat)(b:α2->Nat->Int)(k i:Nat)(st:StC):Prop where
 wc:WC L n b st.1 st.2
 told:∀(j:Nat) (v:α2),st.1[j]?=some v->∀x:Nat,x<L->(j<k\/(j=k/\x<i))->Told n b st.2 ((x:Int)::v)
def WS.start (hn:1<=n):WS n L b 0 0 ([[]],num (rowB n b [])):=⟨WC.start hn,fun j v hj x hx h=>by lia⟩
def WS.next  (h:WS n L b k L st):WS n L b (k+1) 0 st:=⟨h.wc,fun j v hj x hx hh=>h.told j v hj x hx s!""⟩
def WS.step  (hn:1<=n)(hw:st.1[k]?=some w)(hi:i<L)(h:WS n L b k i st):WS n L b k (i+1) (IX n b w st i)/\(IX n b w st i).1[k]?=some w:=by
 have hm:=jc_ hw
 unfold IX
 by_cases hc:ncl st.2<ncl (st.2.zip (rowB n b ((i:Int)::w)))
 ·rw[if_pos hc]
  have hW:=h.wc.more hn hm (show 0<=(i:Int)/\(i:Int)<L by lia) hc
  have hk:=(jb_.mp hw).1
  refine⟨⟨hW,fun j v hj x hx hh=>?_⟩,by rw[jd_ hk];exact hw⟩
  by_cases e:j=k/\x=i
  ·obtain⟨rfl,rfl⟩:=e
   rw[jd_ hk,hw]at hj
   cases hj
   exact hW.mine (jy_ _ (jq_.mpr rfl))
  ·have cx:j<st.1.length:=by lia
   rw[jd_ cx]at hj
   exact h.wc.finer h.wc.len (h.told j v hj x hx s!"")
 ·rw[if_neg hc]
  refine⟨⟨h.wc,fun j v hj x hx hh=>?_⟩,hw⟩
  by_cases e:j=k/\x=i
  ·obtain⟨rfl,rfl⟩:=e
   rw[hw]at hj
   cases hj
   exact fun r s hr hs er=>h.wc.same s!"" hr hs er
  ·exact h.told j v hj x hx s!""
def WS.few  (h:WS n L b k i st):st.1.length<=n:=by
 have h1:=h.wc.le
 have h2:=GN st.2
 rw[h.wc.len]at h2
 lia
def wcOf (n L:Nat)(b:α2->Nat->Int):StC:=FJ n b L 41 0 ([[]],num (rowB n b []))
structure Fin17 (n L:Nat)(b:α2->Nat->Int)(st:StC):Prop where
 wc:WC L n b st.1 st.2
 told:∀v∈st.1,∀x:Nat,x<L->Told n b st.2 ((x:Int)::v)
def WS.fin  (h:WS n L b k 0 st)(hk:st.1.length<=k):Fin17 n L b st:=⟨h.wc,fun v hv x hx=>by
 obtain⟨j,hj⟩:=jG_.mp hv
 have:=(jb_.mp hj).1
 exact h.told j v hj x hx s!""⟩
end
end L2
namespace L2
open PySem PySem.W PySem.Spec PySem.Calls PyProof.Rows
def QM              (I:Inv X af σ H s)(e:H a=some (.dK kvs))(l:kvs.length<sizeLine)(ry:RelV (kV k) u)(rv:RelV v r)
  (h0:∀x,valV kvs k=some x->∀w' s',Inv X af σ H s'->RelV x w'->Q w' s') (h1:valV kvs k=none->∀s',Inv X af σ (upd H a (.dK (putK kvs k v))) s'->Q r s'):
  wpAny (model X.prog X.w) A (call (.builtin "dict.setdefault") [.ref a,u,r]) Q E s:=by
 obtain⟨z,hd,vs,aZ,dd⟩:=RS I.hok e
 have hz:vs.length<=sizeLine:=by rw[<-aZ.length];exact z
 refine call_meetsIn rC dd.typeIs ui (ub _ _ _) (kt_meets_setdefault (Bj X.prog X.w) a (L6 ry) hd r) ⟨vs,dd,hz,fun x hx=>?_,fun hn h' fI hs=>?_⟩
 ·have rk:=aZ.val k
  rw[hx]at rk
  cases q:valV kvs k with
  |none=>rw[q]at rk;exact (rk:False).elim
  |some y=>rw[q]at rk;exact h0 y q _ _ (I.tok _) rk
 ·have rk:=aZ.val k
  rw[hn]at rk
  cases q:valV kvs k with
  |some y=>rw[q]at rk;exact (rk:False).elim
  |none=>
   refine h1 q _ ?_
   have hl:(putK kvs k v).length<=sizeLine:=by have:=Dq kvs k v;lia
   have he:∃q,h'.get? a=some q:=let ⟨q,_,_,hq,_⟩:=fI;⟨q,hq⟩
   exact HJ I (by rw[e];exact qW) hs he (PH hl hd (aZ.put k rv) fI)
def NC (td ty tx:TE):TE:=fun σ H Q=>td σ H fun x H1=>∃a,x=.ref a/\IsD H1 a/\ty σ H1 fun y H2=>tx σ H2 fun z H3=>∃n kvs,y=.int n/\H3 a=some (.dK kvs)/\kvs.length<sizeLine/\(∀v,valV kvs (qX n)=some v->Q v H3)/\(valV kvs (qX n)=none->Q z (upd H3 a (.dK (putK kvs (qX n) z))))
theorem Ll     : NC td ty tx σ H Q=td σ H fun x H1=>∃a,x=.ref a/\IsD H1 a/\ty σ H1 fun y H2=>tx σ H2 fun z H3=>∃n kvs,y=.int n/\H3 a=some (.dK kvs)/\kvs.length<sizeLine/\(∀v,valV kvs (qX n)=some v->Q v H3)/\(valV kvs (qX n)=none->Q z (upd H3 a (.dK (putK kvs (qX n) z)))):=rfl
def Ov     (ho:PE X o td)(he:PE X e ty)(hf:PE X f tx)(m:M2 X o "setdefault" bx e f aG):PE X (.Call (.Attribute o "setdefault" bx) [e,f] [] aG) (NC td ty tx):=by
 intro af s σ H Q I h
 refine wpAny_Call_method m.base m.few m.line rM rC uk (thn (ho af s σ H _ I h) fun u s1 ⟨x,H1,I1,rx,a,ex,d,q1⟩=>?_)
 subst ex
 obtain rfl:u=Value.ref a:=rx
 obtain⟨t1,t2,_⟩:=Tf I1 d
 refine⟨t1,t2,?_⟩
 rw[m.trees]
 refine zp_ rfl (zB_ (xp_ (thn (he af s1 σ H1 _ I1 q1) fun iv s2 ⟨y,H2,I2,ry,q2⟩ =>
  xp_ (thn (hf af s2 σ H2 _ I2 q2) fun fv s3 ⟨z,H3,I3,rz,n,kvs,ey,ea,l,q3,q4⟩=>xW_ ?_))))
 subst ey
 exact QM (k:=qX n) I3 ea l ry rz (fun v hv w' s4 I4 eU=>⟨v,H3,I4,eU,q3 v hv⟩) fun hn s4 I4=>⟨z,_,I4,rz,q4 hn⟩
end L2
namespace L2
open GW GB
def QN {L:Int}(hL:0<L){n i:Nat}{ae:α1}{r:Int}{w:α2}:∀(rest:α2) (x:Nat) (ents:List (Int×α2)),((x+rest.length:Nat):Int)=L->(∀(k:Nat) (g:Int),rest[k]?=some g->g=Bm ae r ((x+k:Nat):Int)/\0<=g/\g<(n:Int))->Bfs L n ae ents i (Au L w*L+x+1)->Seen L ae ents r w x->ents[i]?=some (r,w) ->
  Bfs L n ae (CU w ents x rest) i (Au L w*L+L+1)/\Seen L ae (CU w ents x rest) r w L.toNat/\(CU w ents x rest)[i]?=some (r,w)
 |[],x,ents,hx,hg,bf,se,he=>by
  rw[Ge]
  have e:(x:Int)=L:=by simpa using hx
  rw[e]at bf
  exact⟨bf,by rw[show L.toNat=x by lia];exact se,he⟩
 |g::rest,x,ents,hx,hg,bf,se,he=>by
  rw[Fj]
  obtain⟨g1,g2⟩:=hg 0 g rfl
  have bO:(x:Int)<L:=by rw[jT_]at hx;lia
  obtain⟨pG,se'⟩:=bf.letter hL se (jc_ he) bO g1 g2
  refine QN hL rest (x+1) _ (by rw[<-hx,jT_];congr 1;lia) (fun k g' hk=>?_) pG se' (Fl he)
  have:=hg (k+1) g' (by simpa using hk)
  rwa [show x+(k+1)=x+1+k by lia]at this
def QO {L:Int}{aa:α2}{ae:α1}(wf:Wf L aa ae):∀(f:Nat) (ents:List (Int×α2)) (i:Nat) (top:Int),Bfs L aa.length ae ents i top->(∀e,ents[i]?=some e->top<=Au L e.2*L+1)->aa.length<i+f->∃dO,Bfs L aa.length ae (bfs ae f ents i) (bfs ae f ents i).length dO
 |0,ents,i,top,bf,ht,hf=>absurd bf.il (by have:=bf.len;lia)
 |f+1,ents,i,top,bf,ht,hf=>by
  have hL:0<L:=by have:=wf.l1;lia
  cases he:ents[i]? with
  |none=>
   rw[J4 he]
   have:i=ents.length:=by have:=bf.il;have:=xw_.mp he;lia
   exact⟨top,this ▸ bf⟩
  |some e=>
   obtain⟨r,w⟩:=e
   rw[J5 he]
   have hr:=bf.rng _ (jc_ he)
   obtain⟨row,h1,h2,h3⟩:=wf.row hr.1 hr.2
   have mD:ae.getD r.toNat []=row:=by rw[jj_,h1];rfl
   obtain⟨a,b,c⟩:=QN (w:=w) (r:=r) hL row 0 ents (by simpa using h3) (fun k g hk=>⟨by rw[zx_];exact (BF h1 (by rw[ji_];exact hk)).symm,(wf.rows row h2).2 g (jc_ hk)⟩) (bf.up (by have h9:top<=Au L w*L+1:=ht _ he;push_cast;lia)) (fun y h0 h1=>absurd h1 (by push_cast;lia)) he
   obtain⟨pG,eg⟩:=Bfs.next hL (m:=L.toNat) (by rw[show ((L.toNat:Nat):Int)=L by lia];exact a) s!"" b c
   show ∃dO,Bfs L aa.length ae (bfs ae f (CU w ents 0 (ae.getD r.toNat [])) (i+1)) _ dO
   rw[mD]
   exact QO wf f _ (i+1) _ pG eg s!""
def Bfs.mk    (wf:Wf L aa ae):∃top,Bfs L aa.length ae (Aw ae) (Aw ae).length top:=by
 unfold Aw
 refine QO wf _ _ 0 1 (Bfs.start L wf.n1 ae) (fun e he=>?_) (by rw[wf.len];lia)
 simp at he;subst he;simp[Au,AU]
def Lm {n L:Nat}{b:α2->Nat->Int}{st:StC}{k:Nat}{w:α2}(hn:1<=n)(hw:st.1[k]?=some w)(h:WS n L b k 0 st):∀i,i<=L->WS n L b k i (FH n b w i st)/\(FH n b w i st).1[k]?=some w
 |0,_=>⟨h,hw⟩
 |i+1,hi=>by
  obtain⟨a,c⟩:=Lm hn hw h i s!""
  rw[Ig]
  exact a.step hn c s!""
def Jq {n L:Nat}{b:α2->Nat->Int}(hn:1<=n)(aO:n<=40):∀(f k:Nat) (st:StC),k+f=41->WS n L b k 0 st->Fin17 n L b (FJ n b L f k st)
 |0,k,st,hk,h=>h.fin (by have:=h.few;lia)
 |f+1,k,st,hk,h=>by
  cases hw:st.1[k]? with
  |none=>
   have:=xw_.mp hw
   rw[Jp this]
   exact h.fin this
  |some w=>
   rw[Lk hw]
   exact Jq hn aO f (k+1) _ s!"" (Lm hn hw h L (jg_ _)).1.next
def Fin17.mk'   (hn:1<=n)(aO:n<=40):Fin17 n L b (wcOf n L b):=Jq hn aO 41 0 _ rfl (WS.start hn)
def bW (aa:α2)(ae:α1)(w:α2)(r:Nat):Int:=aa.getD (Bu ae (r:Int) w).toNat 0
def TM   : rowB aa.length (bW aa ae) []=aa:=by
 refine qK_ fun i=>?_
 by_cases hi:i<aa.length
 ·rw[BY hi]
  unfold bW
  show some (aa.getD ((i:Int)).toNat 0)=_
  rw[ji_,jj_,jh_ hi];rfl
 ·rw[jV_ (by rw[Dv];lia),jV_ s!""]
def Mo   (w:α2)(x:Int)(r:Nat)(h:0<=Bm ae (r:Int) x):bW aa ae (x::w) r=bW aa ae w (Bm ae (r:Int) x).toNat:=by
 unfold bW
 rw[A2,xK_ h]
def cf (c:α2)(r:Int):Int:=c.getD r.toNat 0
def hm (c R:α2)(r:Int):Int:=(((AA (R.map (cf c))).idxOf (cf c r):Nat):Int)
def By (c ai:α2)(r:Int):α2:=if cf c r∈ai.map (cf c) then ai else ai++[r]
def FR (c R:α2):α2:=R.foldl (By c) []
def Ow (c ai:α2)(r:Int):(By c ai r).map (cf c)=ins1 (ai.map (cf c)) (cf c r):=by
 unfold By ins1
 split
 ·rfl
 ·rw[jS_];rfl
def QP (c:α2):∀(R ai:α2),(R.foldl (By c) ai).map (cf c)=BA (ai.map (cf c)) (R.map (cf c))
 |[],ai=>rfl
 |r::R,ai=>by
  rw[qY_,QP c R,Ow];rfl
def Ih (c R:α2):(FR c R).map (cf c)=AA (R.map (cf c)):=QP c R []
def QQ {c R:α2}{i:Nat}{r:Int}(h:R[i]?=some r):FR c (R.take (i+1))=By c (FR c (R.take i)) r:=by
 unfold FR
 rw[jQ_,h,qp_,qu_];rfl
def Vc (c R:α2)(r:Int):FR c (R++[r])=By c (FR c R) r:=by
 unfold FR
 rw[qu_];rfl
def QR (c:α2):∀(R ai:α2) (r:Int),r∈R.foldl (By c) ai->r∈ai\/r∈R
 |[],ai,r,h=>.inl h
 |q::R,ai,r,h=>by
  rcases QR c R _ r h with h|h
  ·unfold By at h
   split at h
   ·exact .inl h
   ·rcases jw_.mp h with h|h
    ·exact .inl h
    ·exact .inr (by rw[jq_.mp h];exact jn_ ..)
  ·exact .inr (jl_ _ h)
def FK   (h:r∈FR c R):r∈R:=(QR c R [] r h).resolve_left (by simp)
def ND (c R:α2):(FR c R).length<=R.length:=by
 have h:=jC_ rm (Ih c R)
 have h2:=GN (R.map (cf c))
 unfold ncl at h2
 rw[ja_]at h h2
 lia
def mkR (aa:α2)(r:Int):Int:=aa.getD r.toNat 0
def hrow (c R:α2)(ae:α1)(r:Int):α2:=(ae.getD r.toNat []).map (hm c R)
def hm_F {c R:α2}{j:Nat}{r:Int}(h:(FR c R)[j]?=some r):hm c R r=j:=by
 have h1:(AA (R.map (cf c)))[j]?=some (cf c r):=by rw[<-Ih,je_,h];rfl
 unfold hm
 obtain⟨hj,e⟩:=jb_.mp h1
 rw[<-e,(Bh _).idxOf_getElem _ hj]
def F_hm   (h:r∈R):∃(j:Nat) (q:Int),j<(FR c R).length/\hm c R r=j/\(FR c R)[j]?=some q/\cf c q=cf c r:=by
 have bT:cf c r∈AA (R.map (cf c)):=AN.mpr (q6_ h)
 have hi:=qG_ bT
 have hl:(FR c R).length=(AA (R.map (cf c))).length:=by rw[<-Ih,ja_]
 refine⟨(AA (R.map (cf c))).idxOf (cf c r),(FR c R)[(AA (R.map (cf c))).idxOf (cf c r)]'s!"",by lia,rfl,by simp[hl,hi],?_⟩
 have e:((FR c R).map (cf c))[(AA (R.map (cf c))).idxOf (cf c r)]?=some (cf c r):=by rw[Ih,jh_ hi,qZ_]
 rw[je_,jh_ s!""]at e
 exact jr_ e
def hm_congr   (h:cf c r=cf c s):hm c R r=hm c R s:=by unfold hm;rw[h]
def Ln {c:α2}(p:Int->Int):∀Q:α2,Q.reverse.Pairwise (fun a b=>p a<p b)->(FR c Q.reverse).Pairwise (fun a b=>p a<p b)/\∀r∈Q.reverse,∃f∈FR c Q.reverse,cf c f=cf c r/\p f<=p r
 |[],_=>⟨rH,fun r hr=>by simp at hr⟩
 |q::Q,h=>by
  rw[tM]at h ⊢
  obtain⟨h1,_,h3⟩:=q1_.mp h
  obtain⟨i1,i2⟩:=Ln p Q h1
  rw[Vc]
  unfold By
  by_cases hc:cf c q∈(FR c Q.reverse).map (cf c)
  ·rw[if_pos hc]
   refine⟨i1,fun r hr=>?_⟩
   rcases jw_.mp hr with hr|hr
   ·exact i2 r hr
   ·rw[jq_.mp hr]
    obtain⟨f,hf,e⟩:=jt_.mp hc
    exact⟨f,hf,e,xr_ (h3 f (FK hf) q (jq_.mpr rfl))⟩
  ·rw[if_neg hc]
   refine⟨q1_.mpr ⟨i1,rN _ _,fun a ha b hb=>?_⟩,fun r hr=>?_⟩
   ·exact h3 a (FK ha) b hb
   ·rcases jw_.mp hr with hr|hr
    ·obtain⟨f,hf,e⟩:=i2 r hr
     exact⟨f,j2_ _ hf,e⟩
    ·exact⟨r,jy_ _ hr,rfl,xS_ _⟩
def So  (p:Int->Int)(h:R.Pairwise (fun a b=>p a<p b)):(FR c R).Pairwise (fun a b=>p a<p b)/\∀r∈R,∃f∈FR c R,cf c f=cf c r/\p f<=p r:=by
 have:=Ln (c:=c) p R.reverse (by rw[q0_];exact h)
 rwa [q0_]at this
section
variable {L:Nat} {aa:α2} {ae:α1}
def Lo {c:α2}{n:Nat}(hc:c.length=n){r:Int}(h0:0<=r)(h1:r<(n:Int)):c[r.toNat]?=some (cf c r):=by
 unfold cf
 rw[jj_]
 simp[show r.toNat<c.length by lia]
def Wf.stp (wf:Wf L aa ae){r x:Int}(h0:0<=r)(h1:r<aa.length)(x0:0<=x)(x1:x<L):0<=Bm ae r x/\Bm ae r x<aa.length:=by
 obtain⟨_,g,_,_,e,a,b⟩:=wf.step h0 h1 x0 x1
 rw[e];exact⟨a,b⟩
def Ho (wf:Wf L aa ae){st:StC}(fin:Fin17 aa.length L (bW aa ae) st){r s:Int}(r0:0<=r)(r1:r<aa.length)(s0:0<=s)(s1:s<aa.length)(e:cf st.2 r=cf st.2 s):
  mkR aa r=mkR aa s/\∀x:Nat,x<L->cf st.2 (Bm ae r x)=cf st.2 (Bm ae s x):=by
 have ec:st.2[r.toNat]?=st.2[s.toNat]?:=by rw[Lo fin.wc.len r0 r1,Lo fin.wc.len s0 s1,e]
 have hr:r.toNat<aa.length:=by lia
 have hs:s.toNat<aa.length:=by lia
 have all:=(fin.wc.iff _ _ hr hs).mp ec
 have eR:((r.toNat:Nat):Int)=r:=by lia
 have eS:((s.toNat:Nat):Int)=s:=by lia
 refine⟨?_,fun x hx=>?_⟩
 ·have:=all [] (jc_ fin.wc.w0)
  unfold bW at this
  rw[eR,eS]at this
  exact this
 ·obtain⟨a0,a1⟩:=Wf.stp wf r0 r1 (show (0:Int)<=x by lia) s!""
  obtain⟨b0,b1⟩:=Wf.stp wf s0 s1 (show (0:Int)<=x by lia) s!""
  have:=(fin.wc.iff (Bm ae r x).toNat (Bm ae s x).toNat s!"" s!"").mpr fun w hw=>by
   have:=fin.told w hw x hx r.toNat s.toNat hr hs ec
   rw[Mo _ _ _ (by rw[eR];exact a0),Mo _ _ _ (by rw[eS];exact b0),eR,eS]at this
   exact this
  rw[Lo fin.wc.len a0 a1,Lo fin.wc.len b0 b1]at this
  exact jr_ this
def Mp (wf:Wf L aa ae){st:StC}(fin:Fin17 aa.length L (bW aa ae) st):∀(w:α2) {r s:Int},isW L w=true->0<=r->r<aa.length->0<=s->s<aa.length->cf st.2 r=cf st.2 s->mkR aa (Bu ae r w)=mkR aa (Bu ae s w)
 |[],r,s,_,r0,r1,s0,s1,e=>(Ho wf fin r0 r1 s0 s1 e).1
 |x::w,r,s,hw,r0,r1,s0,s1,e=>by
  obtain⟨hx,hw⟩:=J8.mp hw
  obtain⟨a0,a1⟩:=Wf.stp wf r0 r1 hx.1 hx.2
  obtain⟨b0,b1⟩:=Wf.stp wf s0 s1 hx.1 hx.2
  rw[A2,A2]
  refine Mp wf fin w hw a0 a1 b0 b1 ?_
  have:=(Ho wf fin r0 r1 s0 s1 e).2 x.toNat s!""
  rwa [show ((x.toNat:Nat):Int)=x by lia]at this
def Jr (wf:Wf L aa ae){st:StC}(fin:Fin17 aa.length L (bW aa ae) st){r s:Int}(r0:0<=r)(r1:r<aa.length)(s0:0<=s)(s1:s<aa.length)(h:∀w,isW L w=true->mkR aa (Bu ae r w)=mkR aa (Bu ae s w)):cf st.2 r=cf st.2 s:=by
 have eR:((r.toNat:Nat):Int)=r:=by lia
 have eS:((s.toNat:Nat):Int)=s:=by lia
 have:=(fin.wc.iff r.toNat s.toNat s!"" s!"").mpr fun w hw=>by
  have:=h w (Ay.mpr (fin.wc.ok w hw))
  unfold bW
  rw[eR,eS]
  exact this
 rw[Lo fin.wc.len r0 r1,Lo fin.wc.len s0 s1]at this
 exact jr_ this
end
def cOf (L:Nat)(aa:α2)(ae:α1):α2:=(wcOf aa.length L (bW aa ae)).2
def rOf (ae:α1):α2:=(Aw ae).map (·.1)
def sF (L:Nat)(aa:α2)(ae:α1):α2:=FR (cOf L aa ae) (rOf ae)
def sM (L:Nat)(aa:α2)(ae:α1):α2:=(sF L aa ae).map (mkR aa)
def sW (L:Nat)(aa:α2)(ae:α1):α1:=(sF L aa ae).map (hrow (cOf L aa ae) (rOf ae) ae)
def hO (L:Nat)(aa:α2)(ae:α1)(r:Int):Int:=hm (cOf L aa ae) (rOf ae) r
section
variable {L:Nat} {aa:α2} {ae:α1}
def finO (wf:Wf L aa ae):Fin17 aa.length L (bW aa ae) (wcOf aa.length L (bW aa ae)):=Fin17.mk' wf.n1 wf.n40
def C9 (wf:Wf L aa ae)  (h:r∈rOf ae):0<=r/\r<aa.length:=by
 obtain⟨top,bf⟩:=Bfs.mk wf
 obtain⟨e,he,rfl⟩:=jt_.mp h
 exact bf.rng e he
def Gn (wf:Wf L aa ae){r x:Int}(h:r∈rOf ae)(x0:0<=x)(x1:x<L):Bm ae r x∈rOf ae:=by
 obtain⟨top,bf⟩:=Bfs.mk wf
 obtain⟨e,he,rfl⟩:=jt_.mp h
 obtain⟨j,hj⟩:=jG_.mp he
 obtain⟨e',h1,h2,_⟩:=bf.don j (jb_.mp hj).1 e hj x x0 x1
 rw[<-h2]
 exact q6_ h1
def QS (wf:Wf L aa ae):(rOf ae)[0]?=some 0:=by
 obtain⟨top,bf⟩:=Bfs.mk wf
 unfold rOf
 rw[je_,bf.hd];rfl
def QT (wf:Wf L aa ae):(rOf ae).length<=aa.length:=by
 obtain⟨top,bf⟩:=Bfs.mk wf
 unfold rOf
 rw[ja_];exact bf.len
def Kc (wf:Wf L aa ae):∀(w:α2) {r:Int},r∈rOf ae->isW L w=true->Bu ae r w∈rOf ae
 |[],r,h,_=>h
 |x::w,r,h,hw=>by
  obtain⟨hx,hw⟩:=J8.mp hw
  rw[A2]
  exact Kc wf w (Gn wf h hx.1 hx.2) hw
def GO (wf:Wf L aa ae){j:Nat}{r:Int}(h:(sF L aa ae)[j]?=some r):r∈rOf ae/\0<=r/\r<aa.length/\hO L aa ae r=j:=by
 have h1:=FK (jc_ h)
 have:=C9 wf h1
 exact⟨h1,this.1,this.2,hm_F h⟩
def TN (wf:Wf L aa ae):(sF L aa ae).length<=aa.length:=qm_ (ND _ _) (QT wf)
def Vd (wf:Wf L aa ae)  (h:r∈rOf ae):∃(j:Nat) (q:Int),j<(sF L aa ae).length/\hO L aa ae r=j/\(sF L aa ae)[j]?=some q/\cf (cOf L aa ae) q=cf (cOf L aa ae) r:=F_hm h
def Wy (wf:Wf L aa ae)  (h:r∈rOf ae):0<=hO L aa ae r/\hO L aa ae r<(sF L aa ae).length:=by
 obtain⟨j,q,h1,h2,_⟩:=Vd wf h
 lia
def Ii (wf:Wf L aa ae):(0:Int)∈rOf ae:=jc_ (QS wf)
def QU (wf:Wf L aa ae):(sF L aa ae)[0]?=some 0:=by
 have h:=QS wf
 unfold sF
 cases hR:rOf ae with
 |nil=>rw[hR]at h;cases h
 |cons a R=>
  rw[hR]at h
  cases h
  unfold FR
  rw[qY_]
  have e:By (cOf L aa ae) [] 0=[0]:=by unfold By;simp
  rw[e]
  have:∀(R ai:α2),ai[0]?=some 0->(R.foldl (By (cOf L aa ae)) ai)[0]?=some 0:=fun R=>by
   induction R with
   |nil=>intro ai h;exact h
   |cons r R ih=>
    intro ai h
    refine ih _ ?_
    unfold By
    split
    ·exact h
    ·rw[jd_ (jb_.mp h).1];exact h
  exact this R [0] rfl
def Mq (wf:Wf L aa ae):hO L aa ae 0=0:=by
 have:=(GO wf (QU wf)).2.2.2
 simpa using this
def Xi {j:Nat}{r:Int}(h:(sF L aa ae)[j]?=some r):(sM L aa ae)[j]?=some (mkR aa r):=by
 unfold sM;rw[tN,h];rfl
def Wz {j:Nat}{r:Int}(h:(sF L aa ae)[j]?=some r):(sW L aa ae)[j]?=some (hrow (cOf L aa ae) (rOf ae) ae r):=by
 unfold sW;rw[tN,h];rfl
def GP:(sM L aa ae).length=(sF L aa ae).length:=by unfold sM;rw[ja_]
def TQ:(sW L aa ae).length=(sF L aa ae).length:=by unfold sW;rw[ja_]
def WA    (h:ms[r.toNat]?=some m):mkR ms r=m:=by unfold mkR;rw[jj_,h];rfl
def TR   (h:r.toNat<ms.length):ms[r.toNat]?=some (mkR ms r):=by unfold mkR;rw[jj_];simp[h]
def Mr (wf:Wf L aa ae)  (h:r∈rOf ae):mkR (sM L aa ae) (hO L aa ae r)=mkR aa r:=by
 obtain⟨j,q,h1,h2,h3,h4⟩:=Vd wf h
 have hq:=GO wf h3
 have hr:=C9 wf h
 rw[h2]
 rw[WA (show (sM L aa ae)[((j:Nat):Int).toNat]?=some (mkR aa q) by rw[ji_];exact Xi h3)]
 exact (Ho wf (finO wf) hq.2.1 hq.2.2.1 hr.1 hr.2 h4).1
def WB (wf:Wf L aa ae)  (h:r∈rOf ae):(sW L aa ae)[(hO L aa ae r).toNat]?=some ((ae.getD r.toNat []).map (hO L aa ae)):=by
 obtain⟨j,q,h1,h2,h3,h4⟩:=Vd wf h
 have hq:=GO wf h3
 have hr:=C9 wf h
 rw[h2,ji_,Wz h3]
 congr 1
 unfold hrow
 obtain⟨row,a1,a2,a3⟩:=wf.row hq.2.1 hq.2.2.1
 obtain⟨fg,b1,b2,b3⟩:=wf.row hr.1 hr.2
 have e1:ae.getD q.toNat []=row:=by rw[jj_,a1];rfl
 have e2:ae.getD r.toNat []=fg:=by rw[jj_,b1];rfl
 rw[e1,e2]
 refine qK_ fun x=>?_
 by_cases hx:x<L
 ·have iA:x<row.length:=by lia
  have hxr':x<fg.length:=by lia
  rw[je_,je_,jh_ iA,jh_ hxr']
  show some (hm _ _ row[x])=some (hm _ _ fg[x])
  have c1:Bm ae q (x:Nat)=row[x]:=BF a1 (by rw[ji_];simp[iA])
  have c2:Bm ae r (x:Nat)=fg[x]:=BF b1 (by rw[ji_];simp[hxr'])
  have:=(Ho wf (finO wf) hq.2.1 hq.2.2.1 hr.1 hr.2 h4).2 x hx
  rw[c1,c2]at this
  exact jC_ some (hm_congr this)
 ·rw[jV_ (by rw[ja_];lia),jV_ (by rw[ja_];lia)]
def Ve (wf:Wf L aa ae){r x:Int}(h:r∈rOf ae)(x0:0<=x)(x1:x<L):Bm (sW L aa ae) (hO L aa ae r) x=hO L aa ae (Bm ae r x):=by
 have hr:=C9 wf h
 obtain⟨row,b1,b2,b3⟩:=wf.row hr.1 hr.2
 have e2:ae.getD r.toNat []=row:=by rw[jj_,b1];rfl
 have h1:=WB wf h
 rw[e2]at h1
 have iA:x.toNat<row.length:=by lia
 rw[BF b1 (show row[x.toNat]?=some row[x.toNat] by simp[iA])]
 exact BF h1 (by rw[je_,jh_ iA];rfl)
def Gp (wf:Wf L aa ae):∀(w:α2) {r:Int},r∈rOf ae->isW L w=true->Bu (sW L aa ae) (hO L aa ae r) w=hO L aa ae (Bu ae r w)
 |[],r,h,_=>rfl
 |x::w,r,h,hw=>by
  obtain⟨hx,hw⟩:=J8.mp hw
  rw[A2,A2,Ve wf h hx.1 hx.2]
  exact Gp wf w (Gn wf h hx.1 hx.2) hw
def sWf (wf:Wf L aa ae):Wf L (sM L aa ae) (sW L aa ae):=by
 have hz:=QU wf
 refine⟨wf.l1,wf.l6,?_,?_,by rw[GP,TQ],fun row hrow'=>?_,fun m lu=>?_⟩
 ·rw[GP];have:=(jb_.mp hz).1;lia
 ·rw[GP];have:=TN wf;have:=wf.n40;lia
 ·obtain⟨j,hj⟩:=jG_.mp hrow'
  have cx:=(jb_.mp hj).1
  rw[TQ]at cx
  have hq:=GO wf (show (sF L aa ae)[j]?=some (sF L aa ae)[j] by simp[cx])
  rw[Wz (show (sF L aa ae)[j]?=some (sF L aa ae)[j] by simp[cx])]at hj
  have hj:=jr_ hj
  obtain⟨fg,b1,b2,b3⟩:=wf.row hq.2.1 hq.2.2.1
  have e2:ae.getD ((sF L aa ae)[j]).toNat []=fg:=by rw[jj_,b1];rfl
  unfold hrow at hj
  rw[e2]at hj
  subst hj
  refine⟨by rw[ja_];exact b3,fun x hx=>?_⟩
  obtain⟨g,hg,rfl⟩:=jt_.mp hx
  rw[GP]
  refine Wy wf ?_
  obtain⟨y,hy⟩:=jG_.mp hg
  have iB:=(jb_.mp hy).1
  have:=Gn wf hq.1 (x:=(y:Nat)) s!"" s!""
  rwa [BF b1 (by rw[ji_];exact hy)]at this
 ·unfold sM at lu
  obtain⟨r,hr,rfl⟩:=jt_.mp lu
  have:=C9 wf (FK hr)
  refine wf.mks _ (jc_ (TR (ms:=aa) (r:=r) s!""))
structure Can (L:Nat)(aa:α2)(ae:α1):Prop where
 wf:Wf L aa ae
 lw:∃u:Nat->α2,(∀j,j<aa.length->isW L (u j)=true/\AB ae (u j)=(j:Int))/\(∀v,isW L v=true->∀j:Nat,AB ae v=(j:Int)->Au L (u j)<=Au L v)/\(∀j k,j<k->k<aa.length->Au L (u j)<Au L (u k))
 red:∀i j:Nat,i<aa.length->j<aa.length->(∀w,isW L w=true->mkR aa (Bu ae i w)=mkR aa (Bu ae j w))->i=j
def wi (ae:α1)(r:Int):α2:=(((Aw ae).find? fun e=>decide (e.1=r)).map (·.2)).getD []
def Sq {L:Int}{n:Nat}{top:Int}(bf:Bfs L n ae (Aw ae) (Aw ae).length top){e:Int×α2}(he:e∈Aw ae):wi ae e.1=e.2:=by
 unfold wi
 cases hq:(Aw ae).find? (fun e'=>decide (e'.1=e.1)) with
 |none=>
  rw[xt_]at hq
  have:=hq _ he
  simp at this
 |some e' =>
  have hk:=zP_ hq
  simp only[ql_]at hk
  obtain⟨i,hi,ei⟩:=jO_ (q7_ hq)
  obtain⟨j,hj,ej⟩:=jO_ he
  have ij:i=j:=(xL_ (h₀:=by simpa using hi) (h₁:=by simpa using hj) bf.nod).mp (by simp[ei,ej,hk])
  subst ij
  rw[<-ei,ej];rfl
def TU {L:Int}{n:Nat}{top:Int}(bf:Bfs L n ae (Aw ae) (Aw ae).length top):(rOf ae).Pairwise (fun a b=>Au L (wi ae a)<Au L (wi ae b)):=by
 unfold rOf
 rw[xj_,xx_]
 intro i j hi hj aW
 rw[Sq bf (j3_ hi),Sq bf (j3_ hj)]
 exact bf.inc i j _ _ aW (by simp[hi]) (by simp[hj])
def WD {α:Type}{R:α->α->Prop}{l:List α}(h:l.Pairwise R){i j:Nat}{a b:α}(aW:i<j)(ha:l[i]?=some a)(hb:l[j]?=some b):R a b:=by
 obtain⟨h1,rfl⟩:=jb_.mp ha
 obtain⟨h2,rfl⟩:=jb_.mp hb
 exact xx_.mp h i j h1 h2 aW
def WE (wf:Wf L aa ae)  (h:r∈rOf ae):isW L (wi ae r)=true/\AB ae (wi ae r)=r:=by
 obtain⟨top,bf⟩:=Bfs.mk wf
 obtain⟨e,he,rfl⟩:=jt_.mp h
 rw[Sq bf he]
 exact bf.wd e he
def Kd (wf:Wf L aa ae)  (hv:isW L v=true):AB ae v∈rOf ae/\Au L (wi ae (AB ae v))<=Au L v:=by
 obtain⟨top,bf⟩:=Bfs.mk wf
 obtain⟨w',h1,h2⟩:=bf.least hv v.length (jg_ _)
 rw[jP_]at h1 h2
 have:=Sq bf h1
 exact⟨jt_.mpr ⟨_,h1,rfl⟩,by rw[show wi ae (AB ae v)=w' from this];exact h2⟩
def sCan (wf:Wf L aa ae):Can L (sM L aa ae) (sW L aa ae):=by
 obtain⟨top,bf⟩:=Bfs.mk wf
 obtain⟨f1,f2⟩:=So (c:=cOf L aa ae) (fun r=>Au L (wi ae r)) (TU bf)
 have mE:∀{j:Nat},j<(sF L aa ae).length->(sF L aa ae)[j]?=some ((sF L aa ae).getD j 0):=fun {j} hj=>by rw[jj_];simp[hj]
 refine⟨sWf wf,⟨fun j=>wi ae ((sF L aa ae).getD j 0),fun j hj=>?_,fun v hv j hj=>?_,fun j k gU hk=>?_⟩,fun i j hi hj aB=>?_⟩
 ·rw[GP]at hj
  have hq:=GO wf (mE hj)
  have:=WE wf hq.1
  refine⟨this.1,?_⟩
  have h2:=Gp wf (wi ae ((sF L aa ae).getD j 0)) (Ii wf) this.1
  rw[Mq wf,BH,BH,this.2,hq.2.2.2]at h2
  exact h2
 ·obtain⟨h1,h2⟩:=Kd wf hv
  have h3:=Gp wf v (Ii wf) hv
  rw[Mq wf,BH,BH,hj]at h3
  obtain⟨f,hf,hc,hp⟩:=f2 _ h1
  obtain⟨i,hi⟩:=jG_.mp hf
  have hi':=(GO wf hi).2.2.2
  have e:hO L aa ae f=hO L aa ae (AB ae v):=hm_congr hc
  rw[hi',<-h3]at e
  have e':i=j:=by lia
  subst e'
  show Au L (wi ae ((sF L aa ae).getD i 0))<=_
  rw[jj_,show (sF L aa ae)[i]?=some f from hi]
  exact vq hp h2
 ·rw[GP]at hk
  exact WD f1 gU (mE s!"") (mE hk)
 ·rw[GP]at hi hj
  have qi:=GO wf (mE hi)
  have qj:=GO wf (mE hj)
  have:=Jr wf (finO wf) qi.2.1 qi.2.2.1 qj.2.1 qj.2.2.1 fun w hw=>by
   have:=aB w hw
   rw[<-qi.2.2.2,<-qj.2.2.2,Gp wf w qi.1 hw,Gp wf w qj.1 hw,Mr wf (Kc wf w qi.1 hw),Mr wf (Kc wf w qj.1 hw)]at this
   exact this
  have e:hO L aa ae ((sF L aa ae).getD i 0)=hO L aa ae ((sF L aa ae).getD j 0):=hm_congr this
  rw[qi.2.2.2,qj.2.2.2]at e
  lia
def WG (wf:Wf L aa ae)  (hv:isW L v=true):mkR (sM L aa ae) (AB (sW L aa ae) v)=mkR aa (AB ae v):=by
 have h:=Gp wf v (Ii wf) hv
 rw[Mq wf,BH,BH]at h
 rw[h,Mr wf]
 have:=Kc wf v (Ii wf) hv
 rwa [BH]at this
end
def Wf.walk' {L:Nat}{aa:α2}{ae:α1}(wf:Wf L aa ae){w:α2}(hw:isW L w=true):0<=AB ae w/\AB ae w<aa.length:=by
 have:=wf.walk hw w.length
 rwa [jP_]at this
section
variable {L:Nat} {m1 m2:α2} {w1 w2:α1}
def TV:∀{l m:α2},l.Pairwise (· < ·)->m.Pairwise (· < ·)->(∀x,x∈l↔x∈m)->l=m
 |[],[],_,_,_=>rfl
 |[],y::m,_,_,h=>absurd ((h y).mpr (jn_ ..)) (by simp)
 |x::l,[],_,_,h=>absurd ((h x).mp (jn_ ..)) (by simp)
 |x::l,y::m,hl,hm,h=>by
  obtain⟨l1,l2⟩:=List.pairwise_cons.mp hl
  obtain⟨k1,k2⟩:=List.pairwise_cons.mp hm
  have oY:x=y:=by
   have h1:=(h x).mp (jn_ ..)
   have h2:=(h y).mpr (jn_ ..)
   rcases jB_.mp h1 with h1|h1
   ·exact h1
   ·rcases jB_.mp h2 with h2|h2
    ·exact h2.symm
    ·have:=l1 y h2
     have:=k1 x h1
     lia
  subst oY
  congr 1
  refine TV l2 k2 fun z=>⟨fun hz=>?_,fun hz=>?_⟩
  ·rcases jB_.mp ((h z).mp (jl_ _ hz)) with e|e
   ·have:=l1 z hz;lia
   ·exact e
  ·rcases jB_.mp ((h z).mpr (jl_ _ hz)) with e|e
   ·have:=k1 z hz;lia
   ·exact e
def Can.order (c:Can L m1 w1):rOf w1=(qV m1.length).map fun j:Nat=>(j:Int):=by
 obtain⟨u,p,q,s⟩:=c.lw
 obtain⟨top,bf⟩:=Bfs.mk c.wf
 have hL:(0:Int)<L:=by have:=c.wf.l1;lia
 have pl:∀r∈rOf w1,Au L (wi w1 r)=Au L (u r.toNat):=fun r hr=>by
  have cn:=C9 c.wf hr
  obtain⟨a,b⟩:=WE c.wf hr
  have g1:=q _ a r.toNat s!""
  obtain⟨a',b'⟩:=p r.toNat s!""
  obtain⟨_,g2⟩:=Kd c.wf a'
  rw[b',xK_ cn.1]at g2
  lia
 refine TV ?_ ?_ fun x=>⟨fun hx=>?_,fun hx=>?_⟩
 ·have h1:=TU bf
  refine ze_ (fun {a b} ha hb cm=>?_) h1
  have ra:=C9 c.wf ha
  have rb:=C9 c.wf hb
  rw[pl a ha,pl b hb]at cm
  refine Int.lt_of_not_ge fun bu=>?_
  rcases qF_ b.toNat a.toNat with au|hge'
  ·have:=s b.toNat a.toNat au s!""
   lia
  ·have:a.toNat=b.toNat:=by lia
   rw[this]at cm
   lia
 ·rw[xj_]
  exact vY (fun h=>by lia) List.pairwise_lt_range
 ·have:=C9 c.wf hx
  exact jt_.mpr ⟨x.toNat,jF_.mpr s!"",by lia⟩
 ·obtain⟨j,hj,rfl⟩:=jt_.mp hx
  obtain⟨a,b⟩:=p j (jF_.mp hj)
  have:=(Kd c.wf a).1
  rwa [b]at this
end
end L2
set_option maxHeartbeats 1000000
namespace L2
open PySem PySem.Spec PyProof.Rows
def nt (n:Int):Str:=Str.ofString (toString n)
end L2
set_option maxHeartbeats 4000000
namespace L2
open PySem PySem.Spec PyProof.Rows
def Az  : Cr X (.type "tuple") (fun xs H Q=>∃p ys,xs=[.ref p]/\((SqL X.K H p ys/\∀l,H l=none->Q (.ref l) (upd H l (.tup ys)))\/False)):=fun af s σ H xs us Q I r h=>by
 obtain⟨p,ys,e,h|h⟩:=h
 ·exact JR af s σ H xs us Q I r ⟨p,ys,e,.inl h⟩
 ·exact h.elim
def Dx  {K:α3}(h:X.K=K):Cr X (.type "tuple") (fun xs H Q=>∃p ys,xs=[.ref p]/\((SqL K H p ys/\∀l,H l=none->Q (.ref l) (upd H l (.tup ys)))\/False)):=by subst h;exact Az
def len1 {α:Type}{us:List α}(h:us.length=1):∃a,us=[a]:=by match us,h with|[a],_=>exact⟨a,rfl⟩
def len2 {α:Type}{us:List α}(h:us.length=2):∃a b,us=[a,b]:=by match us,h with|[a,b],_=>exact⟨a,b,rfl⟩
def len3 {α:Type}{us:List α}(h:us.length=3):∃a b c,us=[a,b,c]:=by match us,h with|[a,b,c],_=>exact⟨a,b,c,rfl⟩
def QV (u:TS)(D:Ends):St->Hp->Prop:=u D
def WH (t u:TS):TS:=fun D σ H=>t {D with nx:=QV u D} σ H
theorem TX     : WH t u D σ H=t {D with nx:=QV u D} σ H:=rfl
def Sr     (h:u D σ H):QV u D σ H:=h
def Ss  {st:Stmt}{rest:List Stmt}  (h1:PS X st t)(h2:PSs X rest u):PSs X (st::rest) (WH t u):=Ac h1 h2
end L2
set_option maxHeartbeats 1000000
set_option maxHeartbeats 4000000
namespace PySem.W
open PySem PySem.Calls PyProof.Rows PyProof.V PySem.Spec
end PySem.W
namespace L2
open PySem PySem.W PySem.Spec PySem.Calls PyProof.Rows
def vD:Option (Option V)->(V->Prop)->Prop
 |some (some v),q=>q v
 |_,_=>False
theorem QW   : vD (some (some v)) q=q v:=rfl
def Xj   (h:vD o q):∃v,o=some (some v)/\q v:=by
 match o,h with
 |some (some v),h=>exact⟨v,rfl,h⟩
def Ox (i:Nat):TE:=fun σ H Q=>vD σ[i]? fun v=>Q v H
theorem TY     : Ox i σ H Q=vD σ[i]? fun v=>Q v H:=rfl
def pvD  (i:Nat)   (hN:X.N[i]?=some x:=by rfl)(hv:Vis X.env.scope x:=by first|exact qY rfl|exact rh (qY rfl)|exact rh (rh rfl))(hd:(x==("__debug__" : Str))=false:=by decide)
  (bQ:(x==("__classdict__" : Str))=false:=by decide):PE X (.Name x pos) (Ox i):=fun af s σ H Q I h=>pv i hN hv hd bQ af s σ H Q I (Xj h)
def iD:V->V->(Int->Int->Prop)->Prop
 |.int i,.int j,q=>q i j
 |x,y,q=>∃i j,x=.int i/\y=.int j/\q i j
theorem TZ   : iD (.int i) (.int j) q=q i j:=rfl
def Vf   : iD x y q=∃i j,x=.int i/\y=.int j/\q i j:=by
 cases x<;>cases y<;>first|rfl|(simp[iD])
def rID (C:Int->Int->Prop)(g:Int->Int->V):R2:=fun x y H Q=>iD x y fun i j=>C i j/\Q (g i j) H
def rI0D (g:Int->Int->V):R2:=fun x y H Q=>iD x y fun i j=>Q (g i j) H
theorem r_ID      : rID C f x y H Q=iD x y fun i j=>C i j/\Q (f i j) H:=rfl
theorem WI     : rI0D f x y H Q=iD x y fun i j=>Q (f i j) H:=rfl
def WJ   : rID C g=rI C g:=by
 funext x y H Q;exact Vf
def Vg  : rI0D g=rI0 g:=by
 funext x y H Q;exact Vf
def opD     (h:OpR X f (rI C g)):OpR X f (rID C g):=by rw[WJ];exact h
def opD0    (h:OpR X f (rI0 g)):OpR X f (rI0D g):=by rw[Vg];exact h
def bD:V->(Bool->Prop)->Prop
 |.bl c,q=>q c
 |x,q=>∃c,x=.bl c/\q c
theorem WK   : bD (.bl c) q=q c:=rfl
def WL   : bD x q=∃c,x=.bl c/\q c:=by
 cases x<;>first|rfl|(simp[bD])
def tBD (t:TE):TT:=fun σ H Q=>t σ H fun x H1=>bD x fun c=>Q c H1
theorem r_BD     : tBD te σ H R=te σ H fun x H1=>bD x fun c=>R c H1:=rfl
def T1  : tBD t=tB t:=by
 funext σ H Q
 show t σ H _=t σ H _
 congr 1
 funext x H1;exact WL
def Vh  : tBD t=RK t:=T1
def ptB    (h:PT X e (tB t)):PT X e (tBD t):=by rw[T1];exact h
def ptT    (h:PT X e (RK t)):PT X e (tBD t):=by rw[Vh];exact h
def eD:V->V->Prop->Prop
 |.int _,.int _,q=>q
 |.str _,.str _,q=>q
 |.non,.non,q=>q
 |.bl _,.bl _,q=>q
 |x,y,q=>scal x y=true/\q
theorem T2   : eD (.int i) (.int j) q=q:=rfl
theorem T3   : eD (.str i) (.str j) q=q:=rfl
theorem T4  : eD .non .non q=q:=rfl
theorem WM   : eD (.bl i) (.bl j) q=q:=rfl
def Vi   : eD x y q=(scal x y=true/\q):=by
 cases x<;>cases y<;>first|rfl|(simp[eD,scal])
def rEqF:R2:=fun x y H Q=>eD x y (Q (.bl (decide (x=y))) H)
def rNeF:R2:=fun x y H Q=>eD x y (Q (.bl (!decide (x=y))) H)
theorem WN    : rEqF x y H Q=eD x y (Q (.bl (decide (x=y))) H):=rfl
theorem WO    : rNeF x y H Q=eD x y (Q (.bl (!decide (x=y))) H):=rfl
def Vj:rEqF=rEq:=by funext x y H Q;exact Vi
def Vk:rNeF=rNe:=by funext x y H Q;exact Vi
def opE   (h:OpR X f rEq):OpR X f rEqF:=by rw[Vj];exact h
def opN   (h:OpR X f rNe):OpR X f rNeF:=by rw[Vk];exact h
def aD:V->(Addr->Prop)->Prop
 |.ref a,q=>q a
 |x,q=>∃a,x=.ref a/\q a
theorem T5   : aD (.ref a) q=q a:=rfl
def Su   : aD x q=∃a,x=.ref a/\q a:=by
 cases x<;>first|rfl|(simp[aD])
def nD:V->(Int->Prop)->Prop
 |.int a,q=>q a
 |x,q=>∃a,x=.int a/\q a
theorem T6   : nD (.int a) q=q a:=rfl
def QX   : nD x q=∃a,x=.int a/\q a:=by
 cases x<;>first|rfl|(simp[nD])
def Vl (K:α3):R2:=fun x y H Q=>aD x fun p=>∃xs,nD y fun i=>SqT K H p xs/\∃v,atI xs i=some v/\Q v H
def Sv (K:α3):R2:=fun x y H Q=>aD x fun p=>∃xs,nD y fun i=>SqL K H p xs/\∃v,atI xs i=some v/\Q v H
theorem T7 {K:α3}    : Vl K x y H Q=aD x fun p=>∃xs,nD y fun i=>SqT K H p xs/\∃v,atI xs i=some v/\Q v H:=rfl
theorem T8 {K:α3}    : Sv K x y H Q=aD x fun p=>∃xs,nD y fun i=>SqL K H p xs/\∃v,atI xs i=some v/\Q v H:=rfl
def Sw {K:α3}:Vl K=rIxT K:=by
 funext x y H Q
 show aD x _=∃p xs i v,_
 rw[Su]
 refine propext ⟨fun ⟨p,e,h⟩=>?_,fun ⟨p,xs,i,v,e1,e2,e3,e4,e5⟩=>⟨p,e1,?_⟩⟩
 ·obtain⟨xs,h⟩:=h
  rw[QX]at h
  obtain⟨i,e2,e3,v,e4,e5⟩:=h
  exact⟨p,xs,i,v,e,e2,e3,e4,e5⟩
 ·refine⟨xs,?_⟩
  rw[QX]
  exact⟨i,e2,e3,v,e4,e5⟩
def Sx {K:α3}:Sv K=rIxL K:=by
 funext x y H Q
 show aD x _=∃p xs i v,_
 rw[Su]
 refine propext ⟨fun ⟨p,e,h⟩=>?_,fun ⟨p,xs,i,v,e1,e2,e3,e4,e5⟩=>⟨p,e1,?_⟩⟩
 ·obtain⟨xs,h⟩:=h
  rw[QX]at h
  obtain⟨i,e2,e3,v,e4,e5⟩:=h
  exact⟨p,xs,i,v,e,e2,e3,e4,e5⟩
 ·refine⟨xs,?_⟩
  rw[QX]
  exact⟨i,e2,e3,v,e4,e5⟩
def ixTD  {K:α3}(h:IxR X (rIxT K)):IxR X (Vl K):=by rw[Sw];exact h
def ixLD  {K:α3}(h:IxR X (rIxL K)):IxR X (Sv K):=by rw[Sx];exact h
def lD1:List V->(V->Prop)->Prop
 |[x],q=>q x
 |xs,q=>∃x,xs=[x]/\q x
theorem QY   : lD1 [x] q=q x:=rfl
def WQ   : lD1 xs q=∃x,xs=[x]/\q x:=by
 match xs with
 |[]=>rfl
 |[x]=>simp[lD1]
 |x::y::r=>rfl
def Vm (K:α3):List V->Hp->VK->Prop:=fun xs H Q=>lD1 xs fun x=>aD x fun p=>∃ys,(SqL K H p ys\/SqT K H p ys)/\Q (.int ys.length) H
theorem T9 {K:α3}    : Vm K xs H Q=lD1 xs fun x=>aD x fun p=>∃ys,(SqL K H p ys\/SqT K H p ys)/\Q (.int ys.length) H:=rfl
def lenD  {K:α3}  (h:Cr X f (fun xs H Q=>∃p ys,xs=[.ref p]/\(SqL K H p ys\/SqT K H p ys)/\Q (.int ys.length) H)):Cr X f (Vm K):=by
 have e:Vm K=fun xs H Q=>∃p ys,xs=[.ref p]/\(SqL K H p ys\/SqT K H p ys)/\Q (.int ys.length) H:=by
  funext xs H Q
  show lD1 xs _=_
  rw[WQ]
  refine propext ⟨fun ⟨x,e,h⟩=>?_,fun ⟨p,ys,e,h1,h2⟩=>⟨_,e,ys,h1,h2⟩⟩
  rw[Su]at h
  obtain⟨p,rfl,ys,h1,h2⟩:=h
  exact⟨p,ys,e,h1,h2⟩
 rw[e];exact h
def Ak       (hN:X.N.Nodup)(he:PE X e te)(hi:X.N[i]?=some x:=by rfl)(hx:Loc X.env.scope x:=by exact qY rfl)(hs:swapsWith e (some (.Name x bG)) pos.line X.env=pure false:=by rfl)(hf:X.fn x=true\/X.env.scope.names.lookup x=some .local:=by first|exact .inl rfl|exact .inr rfl|assumption):PS X (.Assign [.Name x bG] e pos) (tAsg te (Fz i)):=Be hN hi hx he hs hf
def Ag      (hr:IxR X r)(ha:PE X a ta)(hb:PE X b tb)(hs:Pl b:=by exact fun _ _=>rfl):PE X (.Subscript a b pos) (tOp r ta tb):=VW hr ha hb hs
end L2
namespace PySem
open Sem (wp)
structure VKind (prog:Program)(w:World)(K:Type)[DecidableEq K] where
 is:Heap->K->Value->Prop
 hash:K->Int
 draws:K->Nat
 room:Around->Prop
 inj:∀{h:Heap} {a:Value} {x y:K},is h x a->is h y a->x=y
 keeps:∀{h h':Heap} {k:K} {a:Value} {d:Addr} {o:Obj} {es ep},is h k a->h.get? d=some o->o.data=.dict es ep->Heap.SameBut d h h'->is h' k a
 pyHash:∀{A:Around} {E:Value->Shared->Prop} {s:Shared} {k:K} {a:Addr} {Q:Int->Shared->Prop},room A->is s.heap k (.ref a)->Q (hash k) {s with toks:=s.toks+draws k}->wpAny (model prog w) A (PySem.pyHash (.ref a)) Q E s
 eqBool:∀{A:Around} {E:Value->Shared->Prop} {s:Shared} {x y:K} {u:Value} {b:Addr} {Q:Bool->Shared->Prop},room A->is s.heap x u->is s.heap y (.ref b)->Q (decide (x=y)) s->wpAny (model prog w) A (PySem.eqBool u (.ref b)) Q E s
 quiet:∀{A:Around} {E:Value->Shared->Prop} {s:Shared} {k:K} {a:Value} {Q:Bool->Shared->Prop},room A->is s.heap k a->Q true s->wpAny (model prog w) A (eqIsQuiet 8 a) Q E s
abbrev NI:=Int ⊕ α2
abbrev NK:=Option (List NI)
end PySem
namespace L2
open PySem PySem.W PySem.Spec PySem.Calls PyProof.Rows
def TSq (K:α3)(H H':Hp):Prop:=∀b ys,SqT K H b ys->SqT K H' b ys
def TSq.un {K:α3}    (h1:∀xs,H p≠some (.tup xs))(h2:∀ob xs,H p≠some (.frz ob (.tup xs))):TSq K H (upd H p o):=fun b ys e=>by
 rcases e with (e|⟨ob,e⟩)|e
 ·exact .inl (.inl (by rw[Ah (fun z=>by rw[z]at e;exact h1 _ e)];exact e))
 ·exact .inl (.inr ⟨ob,by rw[Ah (fun z=>by rw[z]at e;exact h2 _ _ e)];exact e⟩)
 ·exact .inr e
end L2
namespace aL
open PySem PyProof.Rows
def KE (κ:KeyKind)(x:Keyed):κ.α:=(κ.keyOf x.1).getD κ.dflt
def Sy     (h:xs[i]?=some x):KK κ xs i=KE κ x:=by unfold KK KE;rw[h]
structure SB (kd:SortKind)(a₀:Array Keyed)(st:SortSt):Prop where
 perm:(arrOf st).Perm a₀
 kind:kindOf st=kd
 failed:failedOf st=none
def SB.size   {st:SortSt}(h:SB kd a₀ st):(arrOf st).size=a₀.size:=h.perm.size_eq
def SB.setArr   {st:SortSt}(h:SB kd a₀ st)  (hp:xs.Perm (arrOf st)):SB kd a₀ (vK st xs):=⟨hp.trans h.perm,h.kind,h.failed⟩
def SB.mem   {st:SortSt}(h:SB kd a₀ st)  (hx:x∈(arrOf st).toList):x∈a₀.toList:=(x0_.mp h.perm).mem_iff.mp hx
def SB.get   {st:SortSt}(h:SB kd a₀ st)  (hi:i<a₀.size):∃x,(arrOf st)[i]?=some x/\x∈a₀.toList:=by
 have hi':i<(arrOf st).size:=by rw[h.size];exact hi
 exact⟨(arrOf st)[i],getElem?_pos _ i hi',h.mem (by simp)⟩
def LtOk (kd:SortKind)(κ:KeyKind)(a₀:Array Keyed)(prog:Program)(w:World)(A:Around)(E:Value->Shared->Prop)(s:Shared):Prop:=
 ∀(x y:Keyed) (st:SortSt) (Q:Option Bool->SortSt->Prop),x∈a₀.toList->y∈a₀.toList->kindOf st=kd->Q (some (κ.blt (KE κ x) (KE κ y))) st->wpS (model prog w) A E s (lt' x y) Q st
def SO (κ:KeyKind)(xs:Array Keyed)(lo hi:Nat):Prop:=∀i j,lo<=i->i<=j->j<hi->κ.kle (KK κ xs i) (KK κ xs j)
def NI (κ:KeyKind)(xs:Array Keyed)(lo hi:Nat):Prop:=∀i j,lo<=i->i<=j->j<hi->κ.kle (KK κ xs j) (KK κ xs i)
def Out (lo hi:Nat)(xs ys:Array Keyed):Prop:=∀i,i<lo\/hi<=i->ys[i]?=xs[i]?
def Out.refl (lo hi:Nat)(xs:Array Keyed):Out lo hi xs xs:=fun _ _=>rfl
def Out.trans {lo hi:Nat}  (h:Out lo hi xs ys)(g:Out lo hi ys zs):Out lo hi xs zs:=fun i hi=>(g i hi).trans (h i hi)
def Js  {lo hi i j:Nat}(hj:j<=xs.size)(h1:lo<=i)(h2:j<=hi):Out lo hi xs (mirror xs i j ((j-i) / 2)):=fun k hk=>by
 rw[getElem?_mirror_all hj,if_neg s!""]
def Oy  {lo hi mF d:Nat}(hs:mF<xs.size)(hd:d<=mF)(h1:lo<=mF-d)(h2:mF<hi):Out lo hi xs (bubble xs mF d):=fun k hk=>by
 rw[getElem?_bubble hs d hd,if_neg s!"",if_neg s!""]
section
variable {prog:Program} {w:World} {A:Around} {E:Value->Shared->Prop} {s:Shared} {a₀:Array Keyed} {κ:KeyKind} {kd:SortKind}
def Ij {st:SortSt}   (hO:LtOk kd κ a₀ prog w A E s)(hB:SB kd a₀ st)(hi:i<a₀.size)(hj:j<a₀.size)(h:Q (some (κ.blt (KK κ (arrOf st) i) (KK κ (arrOf st) j))) st):wpS (model prog w) A E s (ltAt' i j) Q st:=by
 obtain⟨x,e1,hx⟩:=hB.get hi
 obtain⟨y,e2,hy⟩:=hB.get hj
 rw[Sy e1,Sy e2]at h
 rw[ltAt'_eq]
 refine jA_ (wpS_get ?_)
 show wpS _ _ _ _ (do let x <- elem' (arrOf st) i;let y <- elem' (arrOf st) j;lt' x y) Q st
 rw[elem'_eq,elem'_eq,e1,e2]
 exact jA_ (jK_ (jA_ (jK_ (hO x y st Q hx hy hB.kind h))))
def ascL (lo a ao:Nat):StateT SortSt Sem AscSt:=
 forIn [a:ao] ((none,a):AscSt) fun _ jd=>do
  let __x <- ltAt' (lo+jd.snd) (lo+jd.snd-1)
  match __x with
  |some cT=>if cT=true then pure (uy (none,jd.snd)) else pure (qZ (none,jd.snd+1))
  |_=>pure (uy (some none,jd.snd))
def SO.snoc  {lo x:Nat}(h:SO κ xs lo (lo+x))(o:1<=x)(q:κ.blt (KK κ xs (lo+x)) (KK κ xs (lo+x-1))=false):SO κ xs lo (lo+(x+1)):=fun i j a b c=>by
 rcases qF_ j (lo+x) with y|y
 ·exact h i j a b y
 obtain rfl:j=lo+x:=by lia
 rcases Nat.eq_or_lt_of_le b with rfl|z
 ·exact qH_ _
 ·exact xe_ (h i (lo+x-1) a s!"" s!"") q
def Ua {st:SortSt}{lo a ao:Nat}  (hO:LtOk kd κ a₀ prog w A E s)(hn:lo+ao<=a₀.size)(ha:1<=a)(han:a<=ao)(hB:SB kd a₀ st)(hs:SO κ (arrOf st) lo (lo+a))
  (h:∀n,a<=n->n<=ao->SO κ (arrOf st) lo (lo+n)->(n=ao\/κ.klt (KK κ (arrOf st) (lo+n)) (KK κ (arrOf st) (lo+n-1)))->Q (none,n) st):
  wpS (model prog w) A E s (ascL lo a ao) Q st:=by
 unfold ascL
 refine qI_ (fun x c t=>t=st/\c=(none,x)/\x<=ao/\SO κ (arrOf st) lo (lo+x)) (fun x c t y z i=>?_) (fun c t i=>?_) ⟨rfl,rfl,han,hs⟩
 ·obtain⟨rfl,rfl,_,so⟩:=i
  refine jA_ (Ij hO hB (by show lo+x<_;lia) (by show lo+x-1<_;lia) ?_)
  dsimp only
  generalize e:κ.blt _ _=b
  cases b
  ·exact jK_ ⟨rfl,rfl,z,so.snoc s!"" e⟩
  ·exact jK_ (h x y (q2_ z) so (.inr e))
 ·obtain⟨rfl,rfl,o,so⟩:=i
  exact h _ s!"" o so (.inl s!"")
def Lp (lo n ao:Nat):StateT SortSt Sem (Option Nat):=do
 reverseSlice' lo (lo+n)
 let jd <- ascL lo n ao
 match jd.fst with
 |some r=>pure r
 |none=>pure (some jd.snd)
def EM {st:SortSt}   (h:Q () (setArr st (mirror (arrOf st) i j ((j-i) / 2)))):wpS (model prog w) A E s (reverseSlice' i j) Q st:=by
 rw[reverseSlice'_eq];exact zE_ h
def Vn {st:SortSt}{lo n ao:Nat}  (hO:LtOk kd κ a₀ prog w A E s)(hn:lo+ao<=a₀.size)(h1:1<=n)(fK:n<=ao)(hB:SB kd a₀ st)(hs:NI κ (arrOf st) lo (lo+n))
  (h:∀m ah,SB kd a₀ ah->pendingOf ah=pendingOf st->Out lo (lo+ao) (arrOf st) (arrOf ah)->1<=m->m<=ao->SO κ (arrOf ah) lo (lo+m)->Q (some m) ah):
  wpS (model prog w) A E s (Lp lo n ao) Q st:=by
 unfold Lp
 have hsz:lo+n<=(arrOf st).size:=by rw[hB.size];lia
 refine jA_ (EM ?_)
 have iC:SB kd a₀ (setArr st (mirror (arrOf st) lo (lo+n) ((lo+n-lo) / 2))):=hB.setArr (mirror_perm _ _ _ _)
 refine jA_ (Ua hO hn h1 fK iC ?_ fun m iE gV hsm _=>jK_ (h m _ iC rfl (Js hsz (jg_ _) s!"") s!"" gV hsm))
 intro i j hl aW hj
 show κ.kle (KK κ (mirror (arrOf st) lo (lo+n) ((lo+n-lo) / 2)) i) (KK κ (mirror (arrOf st) lo (lo+n) ((lo+n-lo) / 2)) j)
 rw[KK_mirror hsz,KK_mirror hsz,if_pos s!"",if_pos s!""]
 exact hs _ _ s!"" s!"" s!""
end
end aL
namespace aL
open PySem PyProof.Rows
def BZ:Bool->Keyed->Array Keyed->Nat->Nat->Nat->StateT SortSt Sem (Option Nat):=sortPriv% PySem.Builtin.gallop
def Jt (left:Bool)(key:Keyed)(arr:Array Keyed)(base i:Nat):StateT SortSt Sem (Option Bool):=do
 let x <- elem' arr (base+i)
 if left then lt' x key else return ( <- lt' key x).map (!·)
def Sz (left:Bool)(key:Keyed)(arr:Array Keyed)(base n lo hi:Nat):StateT SortSt Sem (Option Nat):=do
 let mut lo:=lo
 let mut hi:=hi
 for _ in [0:n] do
  if lo >= hi then break
  let m:=lo+(hi-lo) / 2
  let some more <- Jt left key arr base m|return none
  if more then lo:=m+1 else hi:=m
 return some hi
def Oz (left:Bool)(key:Keyed)(arr:Array Keyed)(base n hint:Nat):BZ left key arr base n hint=(do
 let some right <- Jt left key arr base hint|return none
 if right then
  let mut lastofs:=0
  let mut ofs:=1
  for _ in [0:n] do
   if ofs >= n-hint then break
   let some more <- Jt left key arr base (hint+ofs)|return none
   if !more then break
   lastofs:=ofs
   ofs:=2*ofs+1
  Sz left key arr base n (hint+lastofs+1) (hint+min ofs (n-hint))
 else
  let mut lastofs:=0
  let mut ofs:=1
  for _ in [0:n] do
   if ofs >= hint+1 then break
   let some found <- Jt left key arr base (hint-ofs)|return none
   if found then break
   lastofs:=ofs
   ofs:=2*ofs+1
  Sz left key arr base n (hint+1-min ofs (hint+1)) (hint-lastofs)):=rfl
section
variable {prog:Program} {w:World} {A:Around} {E:Value->Shared->Prop} {s:Shared} {a₀:Array Keyed} {κ:KeyKind} {kd:SortKind}
def gB (κ:KeyKind)(left:Bool)(key:Keyed)(arr:Array Keyed)(base i:Nat):Bool:=if left then κ.blt (KK κ arr (base+i)) (KE κ key) else !κ.blt (KE κ key) (KK κ arr (base+i))
def InA (a₀ arr:Array Keyed)(base n:Nat):Prop:=∀i,i<n->∃x,arr[base+i]?=some x/\x∈a₀.toList
def FL     {st:SortSt}  (hO:LtOk kd κ a₀ prog w A E s)(hk:kindOf st=kd)(bH:key∈a₀.toList)(hA:InA a₀ arr base n)(hi:i<n)(h:Q (some (gB κ left key arr base i)) st):
  wpS (model prog w) A E s (Jt left key arr base i) Q st:=by
 obtain⟨x,e,hx⟩:=hA i hi
 unfold Jt
 rw[elem'_eq,e]
 refine jA_ (jK_ ?_)
 unfold gB at h
 rw[Sy e]at h
 cases left with
 |true=>exact hO x key st Q hx bH hk h
 |false=>
  refine jA_ (hO key x st _ bH hx hk ?_)
  exact jK_ h
def Lq     {st:SortSt}  (hO:LtOk kd κ a₀ prog w A E s)(hk:kindOf st=kd)(bH:key∈a₀.toList)(hA:InA a₀ arr base n)(hh:hint<n)
  (ez:∀i j,i<=j->j<n->gB κ left key arr base j=true->gB κ left key arr base i=true)
  (h:∀k,k<=n->(∀i,i<k->gB κ left key arr base i=true)->(∀i,k<=i->i<n->gB κ left key arr base i=false)->Q (some k) st):
  wpS (model prog w) A E s (BZ left key arr base n hint) Q st:=by
 have gm:∀i j,i<=j->j<n->gB κ left key arr base i=false->gB κ left key arr base j=false:=fun i j aW hj hf=>by
  cases e:gB κ left key arr base j with
  |false=>rfl
  |true=>rw[ez i j aW hj e]at hf;cases hf
 have hlast:∀lo hi:Nat,lo<=hi->hi<=n->(∀i,i<lo->gB κ left key arr base i=true)->(∀i,hi<=i->i<n->gB κ left key arr base i=false)->wpS (model prog w) A E s (Sz left key arr base n lo hi) Q st:=by
  intro lo hi hlh hhn oM hhi
  unfold Sz
  refine jA_ (xZ_ (qI_ (I:=fun x c ah=>ah=st/\∃lo hi,c=(none,lo,hi)/\lo<=hi/\hi<=n/\hi-lo<=n-x/\(∀i,i<lo->gB κ left key arr base i=true)/\(∀i,hi<=i->i<n->gB κ left key arr base i=false))
   (Q:=fun c ah=>ah=st/\∃k,∃lo,c=(none,lo,k)/\k<=n/\(∀i,i<k->gB κ left key arr base i=true)/\(∀i,k<=i->i<n->gB κ left key arr base i=false)) ?step ?fin ⟨rfl,lo,hi,rfl,hlh,hhn,by lia,oM,hhi⟩) ?post)
  case fin=>
   rintro c ah ⟨rfl,lo,hi,rfl,h1,h2,h3,h4,h5⟩
   have:lo=hi:=by lia
   subst this
   exact⟨rfl,lo,lo,rfl,h2,h4,h5⟩
  case post=>
   rintro c ah ⟨rfl,k,lo,rfl,h1,h2,h3⟩
   exact jK_ (h k h1 h2 h3)
  case step=>
   rintro x c ah _ hx ⟨rfl,lo,hi,rfl,h1,h2,h3,h4,h5⟩
   dsimp only
   by_cases bu:lo >= hi
   ·rw[if_pos bu]
    have:lo=hi:=by lia
    subst this
    exact jK_ ⟨rfl,lo,lo,rfl,h2,h4,h5⟩
   ·rw[if_neg bu]
    refine jA_ (FL hO hk bH hA (n:=n) s!"" ?_)
    cases hg:gB κ left key arr base (lo+(hi-lo) / 2) with
    |true=>
     dsimp only
     rw[if_pos rfl]
     refine jK_ ⟨rfl,lo+(hi-lo) / 2+1,hi,rfl,by lia,h2,by lia,fun i hi'=>?_,h5⟩
     exact ez i (lo+(hi-lo) / 2) s!"" s!"" hg
    |false=>
     dsimp only
     rw[if_neg (by simp)]
     refine jK_ ⟨rfl,lo,lo+(hi-lo) / 2,rfl,by lia,by lia,by lia,h4,fun i hi' hn=>?_⟩
     exact gm (lo+(hi-lo) / 2) i hi' hn hg
 rw[Oz]
 refine jA_ (FL hO hk bH hA hh ?_)
 cases hg:gB κ left key arr base hint with
 |true=>
  dsimp only
  rw[if_pos rfl]
  refine jA_ (xZ_ (qI_ (I:=fun x c ah=>ah=st/\∃last ofs,c=(none,last,ofs)/\last<ofs/\x<ofs/\hint+last<n/\gB κ left key arr base (hint+last)=true)
   (Q:=fun c ah=>ah=st/\∃last ofs,c=(none,last,ofs)/\last<ofs/\hint+last<n/\gB κ left key arr base (hint+last)=true/\(n-hint<=ofs\/hint+ofs<n/\gB κ left key arr base (hint+ofs)=false)) ?step ?fin ⟨rfl,0,1,rfl,by lia,by lia,by lia,hg⟩) ?post)
  case fin=>
   rintro c ah ⟨rfl,last,ofs,rfl,h1,h2,h3,h4⟩
   exact⟨rfl,last,ofs,rfl,h1,h3,h4,.inl s!""⟩
  case step=>
   rintro x c ah _ hx ⟨rfl,last,ofs,rfl,h1,h2,h3,h4⟩
   dsimp only
   by_cases bu:ofs >= n-hint
   ·rw[if_pos bu]
    exact jK_ ⟨rfl,last,ofs,rfl,h1,h3,h4,.inl bu⟩
   ·rw[if_neg bu]
    refine jA_ (FL hO hk bH hA (n:=n) s!"" ?_)
    cases iF:gB κ left key arr base (hint+ofs) with
    |true=>
     dsimp only
     rw[if_neg (by simp)]
     exact jK_ ⟨rfl,ofs,2*ofs+1,rfl,by lia,by lia,by lia,iF⟩
    |false=>
     dsimp only
     rw[if_pos (by simp)]
     exact jK_ ⟨rfl,last,ofs,rfl,h1,h3,h4,.inr ⟨by lia,iF⟩⟩
  case post=>
   rintro c ah ⟨rfl,last,ofs,rfl,h1,h3,h4,h5⟩
   dsimp only
   refine hlast (hint+last+1) (hint+min ofs (n-hint)) s!"" s!"" (fun i hi=>ez i (hint+last) s!"" h3 h4) (fun i hi hn=>?_)
   rcases h5 with h5|⟨h5,h6⟩
   ·lia
   ·exact gm (hint+ofs) i s!"" hn h6
 |false=>
  dsimp only
  rw[if_neg (by simp)]
  refine jA_ (xZ_ (qI_ (I:=fun x c ah=>ah=st/\∃last ofs,c=(none,last,ofs)/\last<ofs/\x<ofs/\last<=hint/\gB κ left key arr base (hint-last)=false)
   (Q:=fun c ah=>ah=st/\∃last ofs,c=(none,last,ofs)/\last<ofs/\last<=hint/\gB κ left key arr base (hint-last)=false/\(hint+1<=ofs\/ofs<=hint/\gB κ left key arr base (hint-ofs)=true)) ?step ?fin ⟨rfl,0,1,rfl,by lia,by lia,by lia,hg⟩) ?post)
  case fin=>
   rintro c ah ⟨rfl,last,ofs,rfl,h1,h2,h3,h4⟩
   exact⟨rfl,last,ofs,rfl,h1,h3,h4,.inl s!""⟩
  case step=>
   rintro x c ah _ hx ⟨rfl,last,ofs,rfl,h1,h2,h3,h4⟩
   dsimp only
   by_cases bu:ofs >= hint+1
   ·rw[if_pos bu]
    exact jK_ ⟨rfl,last,ofs,rfl,h1,h3,h4,.inl bu⟩
   ·rw[if_neg bu]
    refine jA_ (FL hO hk bH hA (n:=n) s!"" ?_)
    cases iF:gB κ left key arr base (hint-ofs) with
    |true=>
     dsimp only
     rw[if_pos rfl]
     exact jK_ ⟨rfl,last,ofs,rfl,h1,h3,h4,.inr ⟨by lia,iF⟩⟩
    |false=>
     dsimp only
     rw[if_neg (by simp)]
     exact jK_ ⟨rfl,ofs,2*ofs+1,rfl,by lia,by lia,by lia,iF⟩
  case post=>
   rintro c ah ⟨rfl,last,ofs,rfl,h1,h3,h4,h5⟩
   dsimp only
   refine hlast (hint+1-min ofs (hint+1)) (hint-last) s!"" s!"" (fun i hi=>?_) (fun i hi hn=>gm (hint-last) i s!"" hn h4)
   rcases h5 with h5|⟨h5,h6⟩
   ·lia
   ·exact ez i (hint-ofs) s!"" s!"" h6
end
end aL
namespace aL
open PySem PyProof.Rows
abbrev Eg (st:SortSt)(g:Nat):SortSt:=SortSt.mk' (kindOf st) (arrOf st) (pendingOf st) g (failedOf st)
def AV:Nat->StateT SortSt Sem Unit:=sortPriv% PySem.Builtin.setMinGallop
def G1 (g:Nat):AV g=modify fun s=>Eg s g:=rfl
def Hq:Array Keyed->Array Keyed->StateT SortSt Sem (Array Keyed):=sortPriv% PySem.Builtin.mergeLo
def Dy (a b out:Array Keyed)(ia ib:Nat):Array Keyed:=out++a.extract ia a.size++b.extract ib b.size
def Ik (a b out:Array Keyed)(ia ib:Nat):Array Keyed:=out++b.extract ib b.size++a.extract ia a.size
def Ms (a b:Array Keyed):Hq a b=(do
 rule "list.sort.merge-lo"
 let mut out:Array Keyed := #[<-elem' b 0]
 let mut ia:=0
 let mut ib:=1
 if ib==b.size then return Dy a b out ia ib
 if ia+1==a.size then return Ik a b out ia ib
 let mut minGallop:=gallopOf ( <- get)
 for _ in [0:a.size+b.size] do
  let mut acount:=0
  let mut bcount:=0
  for _ in [0:a.size+b.size] do
   let some gn <- lt' ( <- elem' b ib) ( <- elem' a ia)|return Dy a b out ia ib
   if gn then
    out:=out.push ( <- elem' b ib);ib:=ib+1;bcount:=bcount+1;acount:=0
    if ib==b.size then return Dy a b out ia ib
    if bcount >= minGallop then break
   else
    out:=out.push ( <- elem' a ia);ia:=ia+1;acount:=acount+1;bcount:=0
    if ia+1==a.size then return Ik a b out ia ib
    if acount >= minGallop then break
  rule "list.sort.gallop"
  minGallop:=minGallop+1
  for _ in [0:a.size+b.size] do
   if minGallop > 1 then minGallop:=minGallop-1
   AV minGallop
   let some k <- BZ false ( <- elem' b ib) a ia (a.size-ia) 0|return Dy a b out ia ib
   acount:=k
   if k > 0 then
    out:=out++a.extract ia (ia+k);ia:=ia+k
    if ia+1==a.size then return Ik a b out ia ib
    if ia==a.size then return Dy a b out ia ib
   out:=out.push ( <- elem' b ib);ib:=ib+1
   if ib==b.size then return Dy a b out ia ib
   let some k <- BZ true ( <- elem' a ia) b ib (b.size-ib) 0|return Dy a b out ia ib
   bcount:=k
   if k > 0 then
    out:=out++b.extract ib (ib+k);ib:=ib+k
    if ib==b.size then return Dy a b out ia ib
   out:=out.push ( <- elem' a ia);ia:=ia+1
   if ia+1==a.size then return Ik a b out ia ib
   if acount<7&&bcount<7 then break
  minGallop:=minGallop+1
  AV minGallop
 unsupported "internal:list.sort.merge-bound"):=rfl
section
variable {α:Type} {R:α->α->Prop} {A B out:List α} {ia ib:Nat}
structure MI (R:α->α->Prop)(A B out:List α)(ia ib:Nat):Prop where
 ha:ia<=A.length
 hb:ib<=B.length
 pm:out.Perm (A.take ia++B.take ib)
 so:out.Pairwise R
 le:∀x∈out,∀y∈A.drop ia++B.drop ib,R x y
def MI.swap (h:MI R A B out ia ib):MI R B A out ib ia:=⟨h.hb,h.ha,h.pm.trans sj,h.so,fun x hx y hy=>h.le x hx y (by rcases jw_.mp hy with z|z;exact jy_ _ z;exact j2_ _ z)⟩
def OA (A:List α)(i k:Nat):A.drop i=(A.drop i).take k++A.drop (i+k):=by
 rw[<-List.drop_drop,q9_]
def MI.ta (h:MI R A B out ia ib)(sA:A.Pairwise R)  (hk:ia+k<=A.length)(hx:∀x∈(A.drop ia).take k,∀y∈B.drop ib,R x y):MI R A B (out++(A.drop ia).take k) (ia+k) ib:=by
 have eQ:=OA A ia k
 have pH:(A.drop ia).Pairwise R:=sk (List.drop_sublist _ _) sA
 refine⟨hk,h.hb,?_,?_,fun x lx y hy=>?_⟩
 ·have e:A.take (ia+k)=A.take ia++(A.drop ia).take k:=List.take_add
  rw[e,qc_]
  refine (rX _ h.pm).trans ?_
  rw[qc_]
  exact sr _ sj
 ·refine q1_.mpr ⟨h.so,sk (tF _ _) pH,fun x cz y fe=>h.le x cz y (j2_ _ (xh_ fe))⟩
 ·rcases jw_.mp lx with lx|lx
  ·refine h.le x lx y ?_
   rcases jw_.mp hy with hy|hy
   ·exact j2_ _ (by rw[eQ];exact jy_ _ hy)
   ·exact jy_ _ hy
  ·rcases jw_.mp hy with hy|hy
   ·rw[eQ]at pH
    exact (q1_.mp pH).2.2 x lx y hy
   ·exact hx x lx y hy
def MI.tb (h:MI R A B out ia ib)(sB:B.Pairwise R)  (hk:ib+k<=B.length)(hx:∀x∈(B.drop ib).take k,∀y∈A.drop ia,R x y):MI R A B (out++(B.drop ib).take k) ia (ib+k):=(h.swap.ta sB hk hx).swap
def MI.start (A B:List α):MI R A B [] 0 0:=⟨jX_ _,jX_ _,by simp,rH,fun x hx=>by cases hx⟩
def Mgd (R:α->α->Prop)(A B r:List α):Prop:=r.Perm (A++B)/\r.Pairwise R
def MI.done (h:MI R A B out ia ib)(sA:A.Pairwise R)(sB:B.Pairwise R)(he:A.length<=ia\/B.length<=ib):Mgd R A B (out++A.drop ia++B.drop ib):=by
 rcases he with he|he
 ·have:=(h.tb sB (k:=B.length-ib) (by have:=h.hb;lia) (fun x _ y hy=>by rw[qC_ he]at hy;cases hy))
  have e:(B.drop ib).take (B.length-ib)=B.drop ib:=jW_ (by rw[xc_];exact jg_ _)
  rw[e]at this
  rw[qC_ he,qg_]
  refine⟨?_,this.so⟩
  have p:=this.pm
  rw[jW_ he,jW_ (by have:=h.hb;lia)]at p
  exact p
 ·have:=(h.ta sA (k:=A.length-ia) (by have:=h.ha;lia) (fun x _ y hy=>by rw[qC_ he]at hy;cases hy))
  have e:(A.drop ia).take (A.length-ia)=A.drop ia:=jW_ (by rw[xc_];exact jg_ _)
  rw[e]at this
  rw[qC_ he,qg_]
  refine⟨?_,this.so⟩
  have p:=this.pm
  rw[jW_ he,jW_ (by have:=h.ha;lia)]at p
  exact p
def MI.last (h:MI R A B out ia ib)(sA:A.Pairwise R)(sB:B.Pairwise R)(hl:∀x∈B,∀y∈A.drop ia,R x y):Mgd R A B (out++B.drop ib++A.drop ia):=by
 have h1:=h.tb sB (k:=B.length-ib) (by have:=h.hb;lia) (fun x hx y hy=>hl x (List.mem_of_mem_drop (xh_ hx)) y hy)
 have e:(B.drop ib).take (B.length-ib)=B.drop ib:=jW_ (by rw[xc_];exact jg_ _)
 rw[e]at h1
 have h2:=h1.done sA sB (.inr (by have:=h.hb;lia))
 rw[qC_ (show B.length<=ib+(B.length-ib) by have:=h.hb;lia),qg_]at h2
 exact h2
end
end aL
namespace aL
open PySem PyProof.Rows
def LeK (κ:KeyKind)(x y:Keyed):Prop:=κ.kle (KE κ x) (KE κ y)
structure SG (st ah:SortSt):Prop where
 kd:kindOf ah=kindOf st
 arr:arrOf ah=arrOf st
 pe:pendingOf ah=pendingOf st
 fa:failedOf ah=failedOf st
def SG.refl (st:SortSt):SG st st:=⟨rfl,rfl,rfl,rfl⟩
def SG.set {st ah:SortSt}(h:SG st ah)(g:Nat):SG st (Eg ah g):=⟨h.kd,h.arr,h.pe,h.fa⟩
abbrev G5:=Option (Array Keyed)×Array Keyed×Nat×Nat×Nat
abbrev G6:=Option (Array Keyed)×Array Keyed×Nat×Nat×Nat×Nat
abbrev G7:=Option (Array Keyed)×Array Keyed×Nat×Nat×Nat×Nat×Nat
def PC (a b out:Array Keyed)(ia ib mg ac bc:Nat):StateT SortSt Sem (ForInStep G7):=do
 let y <- elem' a ia
 if (ia+1+1==a.size)=true then pure (.done (some (Ik a b (out.push y) (ia+1) ib),out.push y,ia+1,ib,mg,ac,bc))
 else if (decide (ac<7)&&decide (bc<7))=true then pure (.done (none,out.push y,ia+1,ib,mg,ac,bc)) else pure (.yield (none,out.push y,ia+1,ib,mg,ac,bc))
def PB (a b out:Array Keyed)(ia ib mg ac bc:Nat):StateT SortSt Sem (ForInStep G7):=do
 let y <- elem' b ib
 if (ib+1==b.size)=true then pure (.done (some (Dy a b (out.push y) ia (ib+1)),out.push y,ia,ib+1,mg,ac,bc))
 else do
  let z <- elem' a ia
  let x <- BZ true z b (ib+1) (b.size-(ib+1)) 0
  match x with
  |some k=>if k > 0 then (if (ib+1+k==b.size)=true then pure (.done (some (Dy a b (out.push y++b.extract (ib+1) (ib+1+k)) ia (ib+1+k)),out.push y++b.extract (ib+1) (ib+1+k),ia,ib+1+k,mg,ac,k)) else PC a b (out.push y++b.extract (ib+1) (ib+1+k)) ia (ib+1+k) mg ac k) else PC a b (out.push y) ia (ib+1) mg ac k
  |_=>pure (.done (some (Dy a b (out.push y) ia (ib+1)),out.push y,ia,ib+1,mg,ac,bc))
def PA (a b out:Array Keyed)(ia ib mg ac bc:Nat):StateT SortSt Sem (ForInStep G7):=do
 AV mg
 let y <- elem' b ib
 let x <- BZ false y a ia (a.size-ia) 0
 match x with
 |some k=>if k > 0 then (if (ia+k+1==a.size)=true then pure (.done (some (Ik a b (out++a.extract ia (ia+k)) (ia+k) ib),out++a.extract ia (ia+k),ia+k,ib,mg,k,bc)) else if (ia+k==a.size)=true then pure (.done (some (Dy a b (out++a.extract ia (ia+k)) (ia+k) ib),out++a.extract ia (ia+k),ia+k,ib,mg,k,bc)) else PB a b (out++a.extract ia (ia+k)) (ia+k) ib mg k bc) else PB a b out ia ib mg k bc
 |_=>pure (.done (some (Dy a b out ia ib),out,ia,ib,mg,ac,bc))
def P1 (a b:Array Keyed)(mg:Nat)(c:G6):StateT SortSt Sem (ForInStep G6):=do
 let y <- elem' b c.2.2.2.1
 let z <- elem' a c.2.2.1
 let x <- lt' y z
 match x with
 |some gn=>
  if gn=true then
   elem' b c.2.2.2.1 >>= fun y=>
   if (c.2.2.2.1+1==b.size)=true then pure (.done (some (Dy a b (c.2.1.push y) c.2.2.1 (c.2.2.2.1+1)),c.2.1.push y,c.2.2.1,c.2.2.2.1+1,0,c.2.2.2.2.2+1))
   else if c.2.2.2.2.2+1 >= mg then pure (.done (none,c.2.1.push y,c.2.2.1,c.2.2.2.1+1,0,c.2.2.2.2.2+1)) else pure (.yield (none,c.2.1.push y,c.2.2.1,c.2.2.2.1+1,0,c.2.2.2.2.2+1))
  else
   elem' a c.2.2.1 >>= fun y=>
   if (c.2.2.1+1+1==a.size)=true then pure (.done (some (Ik a b (c.2.1.push y) (c.2.2.1+1) c.2.2.2.1),c.2.1.push y,c.2.2.1+1,c.2.2.2.1,c.2.2.2.2.1+1,0))
   else if c.2.2.2.2.1+1 >= mg then pure (.done (none,c.2.1.push y,c.2.2.1+1,c.2.2.2.1,c.2.2.2.2.1+1,0)) else pure (.yield (none,c.2.1.push y,c.2.2.1+1,c.2.2.2.1,c.2.2.2.2.1+1,0))
 |_=>pure (.done (some (Dy a b c.2.1 c.2.2.1 c.2.2.2.1),c.2.1,c.2.2.1,c.2.2.2.1,c.2.2.2.2.1,c.2.2.2.2.2))
def P2 (a b:Array Keyed)(c:G7):StateT SortSt Sem (ForInStep G7):=if c.2.2.2.2.1 > 1 then PA a b c.2.1 c.2.2.1 c.2.2.2.1 (c.2.2.2.2.1-1) c.2.2.2.2.2.1 c.2.2.2.2.2.2 else PA a b c.2.1 c.2.2.1 c.2.2.2.1 c.2.2.2.2.1 c.2.2.2.2.2.1 c.2.2.2.2.2.2
def PO (a b:Array Keyed)(c:G5):StateT SortSt Sem (ForInStep G5):=do
 let d <- forIn [0:a.size+b.size] ((none,c.2.1,c.2.2.1,c.2.2.2.1,0,0):G6) fun _ d=>P1 a b c.2.2.2.2 d
 match d.1 with
 |some r=>pure (.done (some r,d.2.1,d.2.2.1,d.2.2.2.1,c.2.2.2.2))
 |none=>do
  liftM (rule "list.sort.gallop")
  let e <- forIn [0:a.size+b.size] ((none,d.2.1,d.2.2.1,d.2.2.2.1,c.2.2.2.2+1,d.2.2.2.2.1,d.2.2.2.2.2):G7) fun _ e=>P2 a b e
  match e.1 with
  |some r=>pure (.done (some r,e.2.1,e.2.2.1,e.2.2.2.1,e.2.2.2.2.1))
  |none=>do
   AV (e.2.2.2.2.1+1)
   pure (.yield (none,e.2.1,e.2.2.1,e.2.2.2.1,e.2.2.2.2.1+1))
def Lr (a b:Array Keyed):Hq a b=(do
 liftM (rule "list.sort.merge-lo")
 let y <- elem' b 0
 if (1==b.size)=true then pure (Dy a b #[y] 0 1)
 else if (0+1==a.size)=true then pure (Ik a b #[y] 0 1)
 else do
  let g <- get
  let c <- forIn [0:a.size+b.size] ((none,#[y],0,1,gallopOf g):G5) fun _ c=>PO a b c
  match c.1 with
  |some r=>pure r
  |none=>unsupported "internal:list.sort.merge-bound"):=by
 rw[Ms]
 refine jC_ (bind _) (funext fun _=>jC_ (bind _) (funext fun y=>?_))
 refine jC_ (ite _ _) (jC_ (ite _ _) (jC_ (bind _) (funext fun g=>?_)))
 refine congr (jC_ bind (jC_ (forIn _ _) (funext fun _=>funext fun c=>?_))) (funext fun c=>?_)
 ·unfold PO
  dsimp only
  refine congr (jC_ bind (jC_ (forIn _ _) (funext fun _=>funext fun d=>?_))) (funext fun d=>?_)
  ·unfold P1
   rfl
  ·cases d.1 with
   |some r=>rfl
   |none=>
    dsimp only
    refine jC_ (bind _) (funext fun _=>congr (jC_ bind (jC_ (forIn _ _) (funext fun _=>funext fun e=>?_))) (funext fun e=>?_))
    ·unfold P2 PA PB PC
     rfl
    ·cases e.1 with
     |some r=>rfl
     |none=>rfl
 ·cases c.1 with
  |some r=>rfl
  |none=>rfl
end aL
namespace aL
open PySem PyProof.Rows
section
variable {prog:Program} {w:World} {A:Around} {E:Value->Shared->Prop} {s:Shared} {a₀:Array Keyed} {κ:KeyKind} {kd:SortKind}
def Bq   {st:SortSt}  (hi:i<arr.size)(h:Q arr[i] st):wpS (model prog w) A E s (elem' arr i) Q st:=by
 rw[elem'_eq,getElem?_pos arr i hi]
 exact jK_ h
def Gq  {st:SortSt}  (h:Q () st):wpS (model prog w) A E s (rule n:StateT SortSt Sem Unit) Q st:=wpS_lift (wpAny_rule ⟨rfl,h⟩)
def EO (a:Array Keyed)(i j:Nat):(a.extract i j).toList=(a.toList.drop i).take (j-i):=by simp[List.extract_eq_take_drop]
def Ke (a:Array Keyed)(i:Nat):(a.extract i a.size).toList=a.toList.drop i:=by
 rw[EO];exact jW_ (by simp)
def OB (a b out:Array Keyed)(ia ib:Nat):(Dy a b out ia ib).toList=out.toList++a.toList.drop ia++b.toList.drop ib:=by
 unfold Dy;rw[rp,rp,Ke,Ke]
def OC (a b out:Array Keyed)(ia ib:Nat):(Ik a b out ia ib).toList=out.toList++b.toList.drop ib++a.toList.drop ia:=by
 unfold Ik;rw[rp,rp,Ke,Ke]
def LeK.refl (x:Keyed):LeK κ x x:=qH_ _
def LeK.trans  (h:LeK κ x y)(g:LeK κ y z):LeK κ x z:=xe_ h g
def QZ {a:Array Keyed}(sA:a.toList.Pairwise (LeK κ)){i j:Nat}(aW:i<=j)(hj:j<a.size):LeK κ a[i] a[j]:=by
 by_cases e:i=j
 ·subst e;exact LeK.refl _
 ·exact xx_.mp sA i j (by simpa using s!"") (by simpa using hj) s!""
def CV {a:Array Keyed}{i:Nat}{y:Keyed}(h:y∈a.toList.drop i):∃j,∃hj:j<a.size,i<=j/\y=a[j]:=by
 obtain⟨k,hk,e⟩:=x1_.mp h
 rw[z3_]at e
 rw[xc_]at hk
 exact⟨i+k,by simpa using (by simp at hk;lia),by lia,by rw[<-e];simp⟩
def OD {a:Array Keyed}{i k:Nat}{y:Keyed}(h:y∈(a.toList.drop i).take k):∃j,∃hj:i+j<a.size,j<k/\y=a[i+j]:=by
 obtain⟨j,hj,e⟩:=x1_.mp h
 rw[tO,z3_]at e
 rw[jx_,xc_]at hj
 exact⟨j,by simp at hj;lia,by lia,by rw[<-e];simp⟩
def Hr {a:Array Keyed}(sA:a.toList.Pairwise (LeK κ)){i:Nat}(hi:i<a.size):∀y∈a.toList.drop i,LeK κ a[i] y:=fun y hy=>by
 obtain⟨j,hj,aW,rfl⟩:=CV hy
 exact QZ sA aW hj
def Vo {a:Array Keyed}{i:Nat}(hi:i<a.size):(a.toList.drop i).take 1=[a[i]]:=by
 rw[q8_ (by simpa using hi)];simp
section
variable {a b out:Array Keyed} {ia ib:Nat}
def MI.pushA (h:MI (LeK κ) a.toList b.toList out.toList ia ib)(sA:a.toList.Pairwise (LeK κ))(hi:ia<a.size)(hx:∀y∈b.toList.drop ib,LeK κ a[ia] y):MI (LeK κ) a.toList b.toList (out.push a[ia]).toList (ia+1) ib:=by
 have:=h.ta sA (k:=1) (by simp;lia) (by rw[Vo hi];intro x eX y hy;rw[jq_.mp eX];exact hx y hy)
 rw[Vo hi]at this
 rw[tP];exact this
def MI.pushB (h:MI (LeK κ) a.toList b.toList out.toList ia ib)(sB:b.toList.Pairwise (LeK κ))(hi:ib<b.size)(hx:∀y∈a.toList.drop ia,LeK κ b[ib] y):MI (LeK κ) a.toList b.toList (out.push b[ib]).toList ia (ib+1):=(h.swap.pushA sB hi hx).swap
def MI.extA (h:MI (LeK κ) a.toList b.toList out.toList ia ib)(sA:a.toList.Pairwise (LeK κ))  (hk:ia+k<=a.size)(hx:∀j,j<k->∀(hj:ia+j<a.size),∀y∈b.toList.drop ib,LeK κ a[ia+j] y):MI (LeK κ) a.toList b.toList (out++a.extract ia (ia+k)).toList (ia+k) ib:=by
 have:=h.ta sA (k:=k) (by simpa using hk) (fun x eX y hy=>by
  obtain⟨j,hj,gU,rfl⟩:=OD eX
  exact hx j gU hj y hy)
 rw[qS_,EO,show ia+k-ia=k by lia];exact this
def MI.extB (h:MI (LeK κ) a.toList b.toList out.toList ia ib)(sB:b.toList.Pairwise (LeK κ))  (hk:ib+k<=b.size)(hx:∀j,j<k->∀(hj:ib+j<b.size),∀y∈a.toList.drop ia,LeK κ b[ib+j] y):MI (LeK κ) a.toList b.toList (out++b.extract ib (ib+k)).toList ia (ib+k):=(h.swap.extA sB hk hx).swap
end
def D0   (hi:i<xs.size):KK κ xs i=KE κ xs[i]:=Sy (getElem?_pos xs i hi)
def Ub  (hA:∀x∈a.toList,x∈a₀.toList)  (h:i+n<=a.size):InA a₀ a i n:=fun j hj=>⟨a[i+j],getElem?_pos _ _ s!"",hA _ (by simp)⟩
def Kf    {st:SortSt}  (hO:LtOk kd κ a₀ prog w A E s)(hk:kindOf st=kd)(bH:key∈a₀.toList)(hA:∀x∈a.toList,x∈a₀.toList)(sA:∀i j (hi:i<a.size) (hj:j<a.size),base<=i->i<=j->j<base+n->LeK κ a[i] a[j])(hn:base+n<=a.size)(hh:hint<n)
  (h:∀k,k<=n->(∀i (hi:base+i<a.size),i<k->LeK κ a[base+i] key)->(∀i (hi:base+i<a.size),k<=i->i<n->κ.klt (KE κ key) (KE κ a[base+i]))->Q (some k) st):
  wpS (model prog w) A E s (BZ false key a base n hint) Q st:=by
 refine Lq hO hk bH (Ub hA hn) hh (fun i j aW hj hb=>?_) (fun k lA h1 h2=>h k lA (fun i hi jG=>?_) (fun i hi jG bN=>?_))
 ·simp only[gB,jY_,xb_,D0 (show base+i<a.size by lia),D0 (show base+j<a.size by lia),tQ]at hb ⊢
  exact xe_ (sA _ _ s!"" s!"" s!"" s!"" s!"") hb
 ·have:=h1 i jG
  simp only[gB,jY_,xb_,D0 hi,tQ]at this
  exact this
 ·have:=h2 i jG bN
  simp only[gB,jY_,xb_,D0 hi,Bool.not_eq_false']at this
  exact this
def Kg    {st:SortSt}  (hO:LtOk kd κ a₀ prog w A E s)(hk:kindOf st=kd)(bH:key∈a₀.toList)(hA:∀x∈a.toList,x∈a₀.toList)(sA:∀i j (hi:i<a.size) (hj:j<a.size),base<=i->i<=j->j<base+n->LeK κ a[i] a[j])(hn:base+n<=a.size)(hh:hint<n)
  (h:∀k,k<=n->(∀i (hi:base+i<a.size),i<k->κ.klt (KE κ a[base+i]) (KE κ key))->(∀i (hi:base+i<a.size),k<=i->i<n->LeK κ key a[base+i])->Q (some k) st):
  wpS (model prog w) A E s (BZ true key a base n hint) Q st:=by
 refine Lq hO hk bH (Ub hA hn) hh (fun i j aW hj hb=>?_) (fun k lA h1 h2=>h k lA (fun i hi jG=>?_) (fun i hi jG bN=>?_))
 ·simp only[gB,zs_,D0 (show base+i<a.size by lia),D0 (show base+j<a.size by lia)]at hb ⊢
  exact KeyOrd.klt_of_kle_of_klt (sA _ _ s!"" s!"" s!"" s!"" s!"") hb
 ·have:=h1 i jG
  simp only[gB,zs_,D0 hi]at this
  exact this
 ·have:=h2 i jG bN
  simp only[gB,zs_,D0 hi]at this
  exact this
def Kh {a:Array Keyed}(sA:a.toList.Pairwise (LeK κ))(base n:Nat):∀i j (hi:i<a.size) (hj:j<a.size),base<=i->i<=j->j<base+n->LeK κ a[i] a[j]:=fun _ _ _ hj _ aW _=>QZ sA aW hj
structure MP (a₀:Array Keyed)(κ:KeyKind)(a b:Array Keyed):Prop where
 hA:∀x∈a.toList,x∈a₀.toList
 hB:∀x∈b.toList,x∈a₀.toList
 sA:a.toList.Pairwise (LeK κ)
 sB:b.toList.Pairwise (LeK κ)
 ha:1<=a.size
 hb:1<=b.size
 hf:∀y∈a.toList,LeK κ b[0] y
 hl:∀x∈b.toList,LeK κ x a[a.size-1]
section
variable {a b:Array Keyed}
def MP.done (M:MP a₀ κ a b)   (h:MI (LeK κ) a.toList b.toList out.toList ia ib)(he:a.size<=ia\/b.size<=ib):Mgd (LeK κ) a.toList b.toList (Dy a b out ia ib).toList:=by
 rw[OB];exact h.done M.sA M.sB (by simpa using he)
def MP.last (M:MP a₀ κ a b)   (h:MI (LeK κ) a.toList b.toList out.toList ia ib)(he:ia+1=a.size):Mgd (LeK κ) a.toList b.toList (Ik a b out ia ib).toList:=by
 rw[OC]
 refine h.last M.sA M.sB (fun x hx y hy=>?_)
 obtain⟨j,hj,aW,rfl⟩:=CV hy
 have e:j=a.size-1:=by lia
 subst e
 exact M.hl x hx
def MJ (κ:KeyKind)(a b:Array Keyed)(out:Array Keyed)(ia ib p:Nat):Prop:=MI (LeK κ) a.toList b.toList out.toList ia ib/\ia+1<a.size/\ib<b.size/\p<=ia+ib
def Xk (hO:LtOk kd κ a₀ prog w A E s)(M:MP a₀ κ a b){st:SortSt}(hk:kindOf st=kd)   (h1:c.1=none)(hJ:MJ κ a b c.2.1 c.2.2.1 c.2.2.2.1 p)
  (h:∀d:G6,d.1=none->MJ κ a b d.2.1 d.2.2.1 d.2.2.2.1 (p+1)->Q (.yield d) st/\Q (.done d) st) (hd:∀(d:G6) x,d.1=some x->Mgd (LeK κ) a.toList b.toList x.toList->Q (.done d) st):
  wpS (model prog w) A E s (P1 a b mg c) Q st:=by
 obtain⟨c0,out,ia,ib,ac,bc⟩:=c
 obtain⟨hM,h2,h3,h4⟩:=hJ
 dsimp only at *
 unfold P1
 dsimp only
 refine jA_ (Bq h3 (jA_ (Bq (show ia<a.size by lia) (jA_ (hO _ _ _ _ (M.hB _ (by simp)) (M.hA _ (by simp)) hk ?_)))))
 cases e:κ.blt (KE κ b[ib]) (KE κ a[ia]) with
 |true=>
  dsimp only
  rw[if_pos rfl]
  have bP:=hM.pushB M.sB h3 (fun y hy=>LeK.trans (qw_ e) (Hr M.sA s!"" y hy))
  refine jA_ (Bq h3 ?_)
  by_cases hq:ib+1=b.size
  ·rw[if_pos (by simpa using hq)]
   exact jK_ (hd _ _ rfl (M.done bP (.inr s!"")))
  ·rw[if_neg (by simpa using hq)]
   have hh:=h (none,out.push b[ib],ia,ib+1,0,bc+1) rfl (show MJ κ a b (out.push b[ib]) ia (ib+1) (p+1) from ⟨bP,h2,by lia,by lia⟩)
   split
   ·exact jK_ hh.2
   ·exact jK_ hh.1
 |false=>
  dsimp only
  rw[if_neg (by simp)]
  have bP:=hM.pushA M.sA (show ia<a.size by lia) (fun y hy=>LeK.trans e (Hr M.sB h3 y hy))
  refine jA_ (Bq (show ia<a.size by lia) ?_)
  by_cases hq:ia+1+1=a.size
  ·rw[if_pos (by simpa using hq)]
   exact jK_ (hd _ _ rfl (M.last bP hq))
  ·rw[if_neg (by simpa using hq)]
   have hh:=h (none,out.push a[ia],ia+1,ib,ac+1,0) rfl (show MJ κ a b (out.push a[ia]) (ia+1) ib (p+1) from ⟨bP,by lia,h3,by lia⟩)
   split
   ·exact jK_ hh.2
   ·exact jK_ hh.1
def WR (M:MP a₀ κ a b){st:SortSt}   (hM:MI (LeK κ) a.toList b.toList out.toList ia ib)(h2:ia+1<a.size)(h3:ib<b.size)(h4:p<=ia+ib)(aS:∀y∈b.toList.drop ib,LeK κ a[ia] y)
  (h:∀d:G7,d.1=none->MJ κ a b d.2.1 d.2.2.1 d.2.2.2.1 p->Q (.yield d) st/\Q (.done d) st) (hd:∀(d:G7) x,d.1=some x->Mgd (LeK κ) a.toList b.toList x.toList->Q (.done d) st):
  wpS (model prog w) A E s (PC a b out ia ib mg ac bc) Q st:=by
 unfold PC
 refine jA_ (Bq (show ia<a.size by lia) ?_)
 have bP:=hM.pushA M.sA (show ia<a.size by lia) aS
 by_cases hq:ia+1+1=a.size
 ·rw[if_pos (by simpa using hq)]
  exact jK_ (hd _ _ rfl (M.last bP hq))
 ·rw[if_neg (by simpa using hq)]
  have hh:=h (none,out.push a[ia],ia+1,ib,mg,ac,bc) rfl (show MJ κ a b (out.push a[ia]) (ia+1) ib p from ⟨bP,by lia,h3,by lia⟩)
  split
  ·exact jK_ hh.2
  ·exact jK_ hh.1
def WT (hO:LtOk kd κ a₀ prog w A E s)(M:MP a₀ κ a b){st:SortSt}(hk:kindOf st=kd)   (hM:MI (LeK κ) a.toList b.toList out.toList ia ib)(h2:ia+1<a.size)(h3:ib<b.size)(h4:p<=ia+ib)(aS:∀y∈a.toList.drop ia,LeK κ b[ib] y)
  (h:∀d:G7,d.1=none->MJ κ a b d.2.1 d.2.2.1 d.2.2.2.1 p->Q (.yield d) st/\Q (.done d) st) (hd:∀(d:G7) x,d.1=some x->Mgd (LeK κ) a.toList b.toList x.toList->Q (.done d) st):
  wpS (model prog w) A E s (PB a b out ia ib mg ac bc) Q st:=by
 unfold PB
 refine jA_ (Bq h3 ?_)
 have bP:=hM.pushB M.sB h3 aS
 by_cases hq:ib+1=b.size
 ·rw[if_pos (by simpa using hq)]
  exact jK_ (hd _ _ rfl (M.done bP (.inr s!"")))
 ·rw[if_neg (by simpa using hq)]
  refine jA_ (Bq (show ia<a.size by lia) (jA_ (Kg hO hk (M.hA _ (by simp)) M.hB (Kh M.sB _ _) s!"" s!"" (fun k lA g1 g2=>?_))))
  dsimp only
  have gp:∀y∈b.toList.drop (ib+1+k),LeK κ a[ia] y:=fun y hy=>by
   obtain⟨j,hj,aW,rfl⟩:=CV hy
   have:=g2 (j-(ib+1)) s!"" s!"" s!""
   have e:ib+1+(j-(ib+1))=j:=by lia
   simp only[e]at this
   exact this
  by_cases dC:k > 0
  ·rw[if_pos dC]
   have dD:=bP.extB M.sB (k:=k) s!"" (fun j hj ck y hy=>LeK.trans (qw_ (g1 j ck hj)) (Hr M.sA s!"" y hy))
   by_cases cS:ib+1+k=b.size
   ·rw[if_pos (by simpa using cS)]
    exact jK_ (hd _ _ rfl (M.done dD (.inr s!"")))
   ·rw[if_neg (by simpa using cS)]
    exact WR M dD h2 s!"" s!"" gp h hd
  ·rw[if_neg dC]
   have e:k=0:=by lia
   subst e
   exact WR M bP h2 s!"" s!"" gp h hd
def SG.trans {st ah aU:SortSt}(h:SG st ah)(g:SG ah aU):SG st aU:=⟨g.kd.trans h.kd,g.arr.trans h.arr,g.pe.trans h.pe,g.fa.trans h.fa⟩
def Ki  {st:SortSt}  (h:Q () (Eg st g)):wpS (model prog w) A E s (AV g) Q st:=by
 rw[G1];exact zE_ h
def WU (hO:LtOk kd κ a₀ prog w A E s)(M:MP a₀ κ a b){st:SortSt}(hk:kindOf st=kd)   (hJ:MJ κ a b out ia ib p)
  (h:∀(d:G7) ah,SG st ah->d.1=none->MJ κ a b d.2.1 d.2.2.1 d.2.2.2.1 p->Q (.yield d) ah/\Q (.done d) ah) (hd:∀(d:G7) x ah,SG st ah->d.1=some x->Mgd (LeK κ) a.toList b.toList x.toList->Q (.done d) ah):
  wpS (model prog w) A E s (PA a b out ia ib mg ac bc) Q st:=by
 obtain⟨hM,h2,h3,h4⟩:=hJ
 unfold PA
 refine jA_ (Ki ?_)
 have hG:SG st (Eg st mg):=(SG.refl st).set mg
 refine jA_ (Bq h3 (jA_ (Kf hO (hG.kd.trans hk) (M.hB _ (by simp)) M.hA (Kh M.sA _ _) s!"" s!"" (fun k lA g1 g2=>?_))))
 dsimp only
 have aS:∀y∈a.toList.drop (ia+k),LeK κ b[ib] y:=fun y hy=>by
  obtain⟨j,hj,aW,rfl⟩:=CV hy
  have:=g2 (j-ia) s!"" s!"" s!""
  have e:ia+(j-ia)=j:=by lia
  simp only[e]at this
  exact qw_ this
 by_cases dC:k > 0
 ·rw[if_pos dC]
  have dD:=hM.extA M.sA (k:=k) s!"" (fun j hj ck y hy=>LeK.trans (g1 j ck hj) (Hr M.sB h3 y hy))
  by_cases hq:ia+k+1=a.size
  ·rw[if_pos (by simpa using hq)]
   exact jK_ (hd _ _ _ hG rfl (M.last dD hq))
  ·rw[if_neg (by simpa using hq)]
   by_cases cS:ia+k=a.size
   ·rw[if_pos (by simpa using cS)]
    exact jK_ (hd _ _ _ hG rfl (M.done dD (.inl s!"")))
   ·rw[if_neg (by simpa using cS)]
    exact WT hO M (hG.kd.trans hk) dD s!"" h3 s!"" aS (fun d=>h d _ hG) (fun d x=>hd d x _ hG)
 ·rw[if_neg dC]
  have e:k=0:=by lia
  subst e
  exact WT hO M (hG.kd.trans hk) hM h2 h3 h4 aS (fun d=>h d _ hG) (fun d x=>hd d x _ hG)
def Xl (hO:LtOk kd κ a₀ prog w A E s)(M:MP a₀ κ a b){st:SortSt}(hk:kindOf st=kd)   (hJ:MJ κ a b c.2.1 c.2.2.1 c.2.2.2.1 p)
  (h:∀(d:G7) ah,SG st ah->d.1=none->MJ κ a b d.2.1 d.2.2.1 d.2.2.2.1 p->Q (.yield d) ah/\Q (.done d) ah) (hd:∀(d:G7) x ah,SG st ah->d.1=some x->Mgd (LeK κ) a.toList b.toList x.toList->Q (.done d) ah):
  wpS (model prog w) A E s (P2 a b c) Q st:=by
 unfold P2
 split
 ·exact WU hO M hk hJ h hd
 ·exact WU hO M hk hJ h hd
def Xm (hO:LtOk kd κ a₀ prog w A E s)(M:MP a₀ κ a b){st:SortSt}(hk:kindOf st=kd)   (hJ:MJ κ a b c.2.1 c.2.2.1 c.2.2.2.1 p)
  (h:∀(d:G5) ah,SG st ah->d.1=none->MJ κ a b d.2.1 d.2.2.1 d.2.2.2.1 (p+1)->Q (.yield d) ah) (hd:∀(d:G5) x ah,SG st ah->d.1=some x->Mgd (LeK κ) a.toList b.toList x.toList->Q (.done d) ah):
  wpS (model prog w) A E s (PO a b c) Q st:=by
 have cm:1<=a.size+b.size:=by have:=M.ha;lia
 unfold PO
 refine jA_ (xZ_ (qI_ (I:=fun x d ah=>ah=st/\d.1=none/\MJ κ a b d.2.1 d.2.2.1 d.2.2.2.1 (p+x))
   (Q:=fun d ah=>ah=st/\((d.1=none/\MJ κ a b d.2.1 d.2.2.1 d.2.2.2.1 (p+1)) \/ ∃x,d.1=some x/\Mgd (LeK κ) a.toList b.toList x.toList)) ?step ?fin ⟨rfl,rfl,hJ⟩) ?post)
 case step=>
  rintro x d ah _ hx ⟨rfl,h1,h2⟩
  refine Xk hO M hk h1 h2 (fun d' g1 g2=>⟨⟨rfl,g1,g2⟩,rfl,.inl ⟨g1,g2.1,g2.2.1,g2.2.2.1,?_⟩⟩) (fun d' x g1 g2=>⟨rfl,.inr ⟨x,g1,g2⟩⟩)
  have:=g2.2.2.2;lia
 case fin=>
  rintro d ah ⟨rfl,h1,h2⟩
  refine⟨rfl,.inl ⟨h1,h2.1,h2.2.1,h2.2.2.1,?_⟩⟩
  have:=h2.2.2.2;lia
 case post=>
  rintro d ah ⟨rfl,hh⟩
  rcases hh with ⟨h1,h2⟩|⟨x,h1,h2⟩
  ·rw[h1]
   dsimp only
   refine jA_ (Gq ?_)
   refine jA_ (xZ_ (qI_ (I:=fun x d aU=>SG ah aU/\d.1=none/\MJ κ a b d.2.1 d.2.2.1 d.2.2.2.1 (p+1))
    (Q:=fun d aU=>SG ah aU/\((d.1=none/\MJ κ a b d.2.1 d.2.2.1 d.2.2.2.1 (p+1)) \/ ∃x,d.1=some x/\Mgd (LeK κ) a.toList b.toList x.toList)) ?step2 ?fin2 ⟨SG.refl _,rfl,h2⟩) ?post2)
   case step2=>
    rintro x e aU _ hx ⟨g0,g1,g2⟩
    exact Xl hO M (g0.kd.trans hk) g2 (fun d' bR k0 k1 k2=>⟨⟨g0.trans k0,k1,k2⟩,g0.trans k0,.inl ⟨k1,k2⟩⟩) (fun d' x bR k0 k1 k2=>⟨g0.trans k0,.inr ⟨x,k1,k2⟩⟩)
   case fin2=>
    rintro e aU ⟨g0,g1,g2⟩
    exact⟨g0,.inl ⟨g1,g2⟩⟩
   case post2=>
    rintro e aU ⟨g0,hh⟩
    rcases hh with ⟨g1,g2⟩|⟨x,g1,g2⟩
    ·rw[g1]
     dsimp only
     refine jA_ (Ki (jK_ ?_))
     exact h (none,e.2.1,e.2.2.1,e.2.2.2.1,e.2.2.2.2.1+1) _ (g0.set _) rfl g2
    ·rw[g1]
     dsimp only
     exact jK_ (hd _ x _ g0 rfl g2)
  ·rw[h1]
   dsimp only
   exact jK_ (hd _ x _ (SG.refl _) rfl h2)
def OE {st:SortSt}  (hO:LtOk kd κ a₀ prog w A E s)(M:MP a₀ κ a b)(hk:kindOf st=kd)
  (h:∀r ah,SG st ah->Mgd (LeK κ) a.toList b.toList r.toList->Q r ah):wpS (model prog w) A E s (Hq a b) Q st:=by
 have ha:=M.ha
 have hb:=M.hb
 rw[Lr]
 refine jA_ (Gq (jA_ (Bq hb ?_)))
 have hM:MI (LeK κ) a.toList b.toList (#[b[0]]:Array Keyed).toList 0 1:=MI.pushB (out := #[]) (MI.start _ _) M.sB hb (by simpa using M.hf)
 by_cases h1:1=b.size
 ·rw[if_pos (by simpa using h1)]
  exact jK_ (h _ _ (SG.refl _) (M.done hM (.inr s!"")))
 ·rw[if_neg (by simpa using h1)]
  by_cases h2:0+1=a.size
  ·rw[if_pos (by simpa using h2)]
   exact jK_ (h _ _ (SG.refl _) (M.last hM h2))
  ·rw[if_neg (by simpa using h2)]
   refine jA_ (wpS_get ?_)
   refine jA_ (xZ_ (qI_ (I:=fun x c ah=>SG st ah/\c.1=none/\MJ κ a b c.2.1 c.2.2.1 c.2.2.2.1 (1+x))
    (Q:=fun c ah=>SG st ah/\∃x,c.1=some x/\Mgd (LeK κ) a.toList b.toList x.toList) ?step ?fin ⟨SG.refl _,rfl,show MJ κ a b #[b[0]] 0 1 (1+0) from ⟨hM,by lia,by lia,by lia⟩⟩) ?post)
   case step=>
    rintro x c ah _ hx ⟨g0,g1,g2⟩
    exact Xm hO M (g0.kd.trans hk) g2 (fun d aP k0 k1 k2=>⟨g0.trans k0,k1,k2⟩) (fun d x aP k0 k1 k2=>⟨g0.trans k0,x,k1,k2⟩)
   case fin=>
    rintro c ah ⟨g0,g1,g2⟩
    have:=g2.2.1;have:=g2.2.2.1;have:=g2.2.2.2
    lia
   case post=>
    rintro c ah ⟨g0,x,g1,g2⟩
    rw[g1]
    dsimp only
    exact jK_ (h x ah g0 g2)
end
end
end aL
namespace aL
open PySem PyProof.Rows
def Hs:Array Keyed->Array Keyed->StateT SortSt Sem (Array Keyed):=sortPriv% PySem.Builtin.mergeHi
def doneH (a b out:Array Keyed)(na nb:Nat):Array Keyed:=a.extract 0 na++b.extract 0 nb++out.reverse
def firstB (a b out:Array Keyed)(na nb:Nat):Array Keyed:=b.extract 0 nb++a.extract 0 na++out.reverse
def Mt (a b:Array Keyed):Hs a b=(do
 rule "list.sort.merge-hi"
 let mut na:=a.size-1
 let mut nb:=b.size
 let mut out:Array Keyed := #[<-elem' a na]
 if na==0 then return doneH a b out na nb
 if nb==1 then return firstB a b out na nb
 let mut minGallop:=gallopOf ( <- get)
 for _ in [0:a.size+b.size] do
  let mut acount:=0
  let mut bcount:=0
  for _ in [0:a.size+b.size] do
   let some gq <- lt' ( <- elem' b (nb-1)) ( <- elem' a (na-1))|return doneH a b out na nb
   if gq then
    na:=na-1;out:=out.push ( <- elem' a na);acount:=acount+1;bcount:=0
    if na==0 then return doneH a b out na nb
    if acount >= minGallop then break
   else
    nb:=nb-1;out:=out.push ( <- elem' b nb);bcount:=bcount+1;acount:=0
    if nb==1 then return firstB a b out na nb
    if bcount >= minGallop then break
  rule "list.sort.gallop"
  minGallop:=minGallop+1
  for _ in [0:a.size+b.size] do
   if minGallop > 1 then minGallop:=minGallop-1
   AV minGallop
   let some eA <- BZ false ( <- elem' b (nb-1)) a 0 na (na-1)|return doneH a b out na nb
   let k:=na-eA
   acount:=k
   if k > 0 then
    out:=out++(a.extract eA na).reverse;na:=eA
    if na==0 then return doneH a b out na nb
   nb:=nb-1;out:=out.push ( <- elem' b nb)
   if nb==1 then return firstB a b out na nb
   let some eA <- BZ true ( <- elem' a (na-1)) b 0 nb (nb-1)|return doneH a b out na nb
   let k:=nb-eA
   bcount:=k
   if k > 0 then
    out:=out++(b.extract eA nb).reverse;nb:=eA
    if nb==1 then return firstB a b out na nb
    if nb==0 then return doneH a b out na nb
   na:=na-1;out:=out.push ( <- elem' a na)
   if na==0 then return doneH a b out na nb
   if acount<7&&bcount<7 then break
  minGallop:=minGallop+1
  AV minGallop
 unsupported "internal:list.sort.merge-bound"):=rfl
abbrev H5:=Option (Array Keyed)×Nat×Nat×Array Keyed×Nat
abbrev H6:=Option (Array Keyed)×Nat×Nat×Array Keyed×Nat×Nat
abbrev H7:=Option (Array Keyed)×Nat×Nat×Array Keyed×Nat×Nat×Nat
def HC (a b out:Array Keyed)(na nb mg ac bc:Nat):StateT SortSt Sem (ForInStep H7):=do
 let y <- elem' a (na-1)
 if (na-1==0)=true then pure (.done (some (doneH a b (out.push y) (na-1) nb),na-1,nb,out.push y,mg,ac,bc))
 else if (decide (ac<7)&&decide (bc<7))=true then pure (.done (none,na-1,nb,out.push y,mg,ac,bc)) else pure (.yield (none,na-1,nb,out.push y,mg,ac,bc))
def HB (a b out:Array Keyed)(na nb mg ac bc:Nat):StateT SortSt Sem (ForInStep H7):=do
 let y <- elem' b (nb-1)
 if (nb-1==1)=true then pure (.done (some (firstB a b (out.push y) na (nb-1)),na,nb-1,out.push y,mg,ac,bc))
 else do
  let z <- elem' a (na-1)
  let x <- BZ true z b 0 (nb-1) (nb-1-1)
  match x with
  |some t=>if nb-1-t > 0 then (if (t==1)=true then pure (.done (some (firstB a b (out.push y++(b.extract t (nb-1)).reverse) na t),na,t,out.push y++(b.extract t (nb-1)).reverse,mg,ac,nb-1-t)) else if (t==0)=true then pure (.done (some (doneH a b (out.push y++(b.extract t (nb-1)).reverse) na t),na,t,out.push y++(b.extract t (nb-1)).reverse,mg,ac,nb-1-t)) else HC a b (out.push y++(b.extract t (nb-1)).reverse) na t mg ac (nb-1-t)) else HC a b (out.push y) na (nb-1) mg ac (nb-1-t)
  |_=>pure (.done (some (doneH a b (out.push y) na (nb-1)),na,nb-1,out.push y,mg,ac,bc))
def HA (a b out:Array Keyed)(na nb mg ac bc:Nat):StateT SortSt Sem (ForInStep H7):=do
 AV mg
 let y <- elem' b (nb-1)
 let x <- BZ false y a 0 na (na-1)
 match x with
 |some t=>if na-t > 0 then (if (t==0)=true then pure (.done (some (doneH a b (out++(a.extract t na).reverse) t nb),t,nb,out++(a.extract t na).reverse,mg,na-t,bc)) else HB a b (out++(a.extract t na).reverse) t nb mg (na-t) bc) else HB a b out na nb mg (na-t) bc
 |_=>pure (.done (some (doneH a b out na nb),na,nb,out,mg,ac,bc))
def H1 (a b:Array Keyed)(mg:Nat)(c:H6):StateT SortSt Sem (ForInStep H6):=do
 let y <- elem' b (c.2.2.1-1)
 let z <- elem' a (c.2.1-1)
 let x <- lt' y z
 match x with
 |some gq=>
  if gq=true then
   elem' a (c.2.1-1) >>= fun y=>
   if (c.2.1-1==0)=true then pure (.done (some (doneH a b (c.2.2.2.1.push y) (c.2.1-1) c.2.2.1),c.2.1-1,c.2.2.1,c.2.2.2.1.push y,c.2.2.2.2.1+1,0))
   else if c.2.2.2.2.1+1 >= mg then pure (.done (none,c.2.1-1,c.2.2.1,c.2.2.2.1.push y,c.2.2.2.2.1+1,0)) else pure (.yield (none,c.2.1-1,c.2.2.1,c.2.2.2.1.push y,c.2.2.2.2.1+1,0))
  else
   elem' b (c.2.2.1-1) >>= fun y=>
   if (c.2.2.1-1==1)=true then pure (.done (some (firstB a b (c.2.2.2.1.push y) c.2.1 (c.2.2.1-1)),c.2.1,c.2.2.1-1,c.2.2.2.1.push y,0,c.2.2.2.2.2+1))
   else if c.2.2.2.2.2+1 >= mg then pure (.done (none,c.2.1,c.2.2.1-1,c.2.2.2.1.push y,0,c.2.2.2.2.2+1)) else pure (.yield (none,c.2.1,c.2.2.1-1,c.2.2.2.1.push y,0,c.2.2.2.2.2+1))
 |_=>pure (.done (some (doneH a b c.2.2.2.1 c.2.1 c.2.2.1),c.2.1,c.2.2.1,c.2.2.2.1,c.2.2.2.2.1,c.2.2.2.2.2))
def H2 (a b:Array Keyed)(c:H7):StateT SortSt Sem (ForInStep H7):=if c.2.2.2.2.1 > 1 then HA a b c.2.2.2.1 c.2.1 c.2.2.1 (c.2.2.2.2.1-1) c.2.2.2.2.2.1 c.2.2.2.2.2.2 else HA a b c.2.2.2.1 c.2.1 c.2.2.1 c.2.2.2.2.1 c.2.2.2.2.2.1 c.2.2.2.2.2.2
def HO (a b:Array Keyed)(c:H5):StateT SortSt Sem (ForInStep H5):=do
 let d <- forIn [0:a.size+b.size] ((none,c.2.1,c.2.2.1,c.2.2.2.1,0,0):H6) fun _ d=>H1 a b c.2.2.2.2 d
 match d.1 with
 |some r=>pure (.done (some r,d.2.1,d.2.2.1,d.2.2.2.1,c.2.2.2.2))
 |none=>do
  liftM (rule "list.sort.gallop")
  let e <- forIn [0:a.size+b.size] ((none,d.2.1,d.2.2.1,d.2.2.2.1,c.2.2.2.2+1,d.2.2.2.2.1,d.2.2.2.2.2):H7) fun _ e=>H2 a b e
  match e.1 with
  |some r=>pure (.done (some r,e.2.1,e.2.2.1,e.2.2.2.1,e.2.2.2.2.1))
  |none=>do
   AV (e.2.2.2.2.1+1)
   pure (.yield (none,e.2.1,e.2.2.1,e.2.2.2.1,e.2.2.2.2.1+1))
def Ls (a b:Array Keyed):Hs a b=(do
 liftM (rule "list.sort.merge-hi")
 let y <- elem' a (a.size-1)
 if (a.size-1==0)=true then pure (doneH a b #[y] (a.size-1) b.size)
 else if (b.size==1)=true then pure (firstB a b #[y] (a.size-1) b.size)
 else do
  let g <- get
  let c <- forIn [0:a.size+b.size] ((none,a.size-1,b.size,#[y],gallopOf g):H5) fun _ c=>HO a b c
  match c.1 with
  |some r=>pure r
  |none=>unsupported "internal:list.sort.merge-bound"):=by
 rw[Mt]
 refine jC_ (bind _) (funext fun _=>jC_ (bind _) (funext fun y=>?_))
 refine jC_ (ite _ _) (jC_ (ite _ _) (jC_ (bind _) (funext fun g=>?_)))
 refine congr (jC_ bind (jC_ (forIn _ _) (funext fun _=>funext fun c=>?_))) (funext fun c=>?_)
 ·unfold HO
  dsimp only
  refine congr (jC_ bind (jC_ (forIn _ _) (funext fun _=>funext fun d=>?_))) (funext fun d=>?_)
  ·unfold H1
   rfl
  ·cases d.1 with
   |some r=>rfl
   |none=>
    dsimp only
    refine jC_ (bind _) (funext fun _=>congr (jC_ bind (jC_ (forIn _ _) (funext fun _=>funext fun e=>?_))) (funext fun e=>?_))
    ·unfold H2 HA HB HC
     rfl
    ·cases e.1 with
     |some r=>rfl
     |none=>rfl
 ·cases c.1 with
  |some r=>rfl
  |none=>rfl
section
variable {α:Type} {R:α->α->Prop} {A B:List α}
def Il (A:List α)  (h:n<=A.length):A.reverse.drop (A.length-n)=(A.take n).reverse:=by
 rw[List.drop_reverse,show A.length-(A.length-n)=n by lia]
def Q0 (A:List α)  (h:n<=A.length)(ht:t<=n):(A.reverse.drop (A.length-n)).take (n-t)=((A.take n).drop t).reverse:=by
 rw[Il A h,List.take_reverse,jx_,show min n A.length-(n-t)=t by lia]
def Mgd.rev  (h:Mgd (fun x y=>R y x) B.reverse A.reverse r.reverse):Mgd R A B r:=by
 refine⟨?_,xa_.mp h.2⟩
 have:=h.1
 rw[<-q5_]at this
 exact ((tR r).symm.trans this).trans (tR _)
end
section
variable {prog:Program} {w:World} {A:Around} {E:Value->Shared->Prop} {s:Shared} {a₀:Array Keyed} {κ:KeyKind} {kd:SortKind} {a b out:Array Keyed} {na nb:Nat}
structure MH (κ:KeyKind)(a b out:Array Keyed)(na nb:Nat):Prop where
 ha:na<=a.size
 hb:nb<=b.size
 mi:MI (fun x y=>LeK κ y x) a.toList.reverse b.toList.reverse out.toList (a.toList.length-na) (b.toList.length-nb)
def MH.swap (h:MH κ a b out na nb):MH κ b a out nb na:=⟨h.hb,h.ha,h.mi.swap⟩
def Q1   (h:x∈(a.toList.take na).drop t):∃j,∃hj:j<a.size,t<=j/\j<na/\x=a[j]:=by
 obtain⟨k,hk,e⟩:=x1_.mp h
 rw[z3_,tO]at e
 rw[xc_,jx_]at hk
 exact⟨t+k,by simp at hk;lia,by lia,by lia,by rw[<-e];simp⟩
def NF  (h:x∈a.toList.take na):∃j,∃hj:j<a.size,j<na/\x=a[j]:=by
 obtain⟨j,hj,_,h2,e⟩:=Q1 (t:=0) (by simpa using h)
 exact⟨j,hj,h2,e⟩
def MH.extA (h:MH κ a b out na nb)(sA:a.toList.Pairwise (LeK κ))  (ht:t<=na)(hx:∀j (hj:j<a.size),t<=j->j<na->∀y∈b.toList.take nb,LeK κ y a[j]):MH κ a b (out++(a.extract t na).reverse) t nb:=by
 have hna:=h.ha
 have hl:a.toList.length=a.size:=j6_
 have:=h.mi.ta (xa_.mpr sA) (k:=na-t) (by rw[xJ_];lia) (by
  rw[Q0 _ s!"" ht,Il _ (by have:=h.hb;simpa using this)]
  intro x eX y hy
  obtain⟨j,hj,h1,h2,rfl⟩:=Q1 (q3_.mp eX)
  exact hx j hj h1 h2 y (q3_.mp hy))
 rw[Q0 _ s!"" ht,show a.toList.length-na+(na-t)=a.toList.length-t by lia]at this
 refine⟨by lia,h.hb,?_⟩
 rw[qS_,x2_,EO,show (we t a.toList).take (na-t)=(a.toList.take na).drop t by rw[uz]]
 exact this
def MH.extB (h:MH κ a b out na nb)(sB:b.toList.Pairwise (LeK κ))  (ht:t<=nb)(hx:∀j (hj:j<b.size),t<=j->j<nb->∀y∈a.toList.take na,LeK κ y b[j]):MH κ a b (out++(b.extract t nb).reverse) na t:=(h.swap.extA sB ht hx).swap
def MH.pushA (h:MH κ a b out na nb)(sA:a.toList.Pairwise (LeK κ))(h1:1<=na)(hi:na-1<a.size)(hx:∀y∈b.toList.take nb,LeK κ y a[na-1]):MH κ a b (out.push a[na-1]) (na-1) nb:=by
 have hna:=h.ha
 have:=h.extA sA (t:=na-1) s!"" (fun j hj g1 g2 y hy=>by (have e:j=na-1:=by lia);subst e;exact hx y hy)
 have e:(a.extract (na-1) na).reverse = #[a[na-1]]:=by
  apply vR
  rw[x2_,EO,show na-(na-1)=1 by lia,Vo hi];rfl
 rw[e]at this
 simpa using this
def MH.pushB (h:MH κ a b out na nb)(sB:b.toList.Pairwise (LeK κ))(h1:1<=nb)(hi:nb-1<b.size)(hx:∀y∈a.toList.take na,LeK κ y b[nb-1]):MH κ a b (out.push b[nb-1]) na (nb-1):=(h.swap.pushA sB h1 hi hx).swap
def WV (a:Array Keyed)(n:Nat):(a.extract 0 n).toList=a.toList.take n:=by rw[EO];simp
def MP.doneH (M:MP a₀ κ a b)(h:MH κ a b out na nb)(he:na=0\/nb=0):Mgd (LeK κ) a.toList b.toList (doneH a b out na nb).toList:=by
 apply Mgd.rev
 have hA:=h.ha
 have hB:=h.hb
 have:=h.mi.swap.done (xa_.mpr M.sB) (xa_.mpr M.sA) (by simp only[xJ_];simp only[j6_];lia)
 rw[Il _ (by simpa using hB),Il _ (by simpa using hA)]at this
 have e:(aL.doneH a b out na nb).toList.reverse=out.toList++(b.toList.take nb).reverse++(a.toList.take na).reverse:=by
  unfold aL.doneH
  simp only[qS_,WV,x2_,q5_,q0_,qc_]
 rw[e];exact this
def MP.firstB (M:MP a₀ κ a b)(h:MH κ a b out na nb)(he:nb=1):Mgd (LeK κ) a.toList b.toList (firstB a b out na nb).toList:=by
 apply Mgd.rev
 have hA:=h.ha
 have hB:=h.hb
 have:=h.mi.swap.last (xa_.mpr M.sB) (xa_.mpr M.sA) (by
  rw[Il _ (by simpa using hB)]
  intro x hx y hy
  obtain⟨j,hj,h2,rfl⟩:=NF (q3_.mp hy)
  have e:j=0:=by lia
  subst e
  exact M.hf x (q3_.mp hx))
 rw[Il _ (by simpa using hA),Il _ (by simpa using hB)]at this
 have e:(aL.firstB a b out na nb).toList.reverse=out.toList++(a.toList.take na).reverse++(b.toList.take nb).reverse:=by
  unfold aL.firstB
  simp only[qS_,WV,x2_,q5_,q0_,qc_]
 rw[e];exact this
def Ht (sA:a.toList.Pairwise (LeK κ))(hi:na-1<a.size):∀y∈a.toList.take na,LeK κ y a[na-1]:=fun y hy=>by
 obtain⟨j,hj,h2,rfl⟩:=NF hy
 exact QZ sA s!"" hi
def MHJ (κ:KeyKind)(a b out:Array Keyed)(na nb p:Nat):Prop:=MH κ a b out na nb/\1<=na/\2<=nb/\na+nb+p<=a.size+b.size
def Xn (hO:LtOk kd κ a₀ prog w A E s)(M:MP a₀ κ a b){st:SortSt}(hk:kindOf st=kd)   (h1:c.1=none)(hJ:MHJ κ a b c.2.2.2.1 c.2.1 c.2.2.1 p)
  (h:∀d:H6,d.1=none->MHJ κ a b d.2.2.2.1 d.2.1 d.2.2.1 (p+1)->Q (.yield d) st/\Q (.done d) st) (hd:∀(d:H6) x,d.1=some x->Mgd (LeK κ) a.toList b.toList x.toList->Q (.done d) st):
  wpS (model prog w) A E s (H1 a b mg c) Q st:=by
 obtain⟨c0,na,nb,out,ac,bc⟩:=c
 obtain⟨hM,h2,h3,h4⟩:=hJ
 dsimp only at *
 have hA:=hM.ha
 have hB:=hM.hb
 unfold H1
 dsimp only
 refine jA_ (Bq (show nb-1<b.size by lia) (jA_ (Bq (show na-1<a.size by lia) (jA_ (hO _ _ _ _ (M.hB _ (by simp)) (M.hA _ (by simp)) hk ?_)))))
 cases e:κ.blt (KE κ b[nb-1]) (KE κ a[na-1]) with
 |true=>
  dsimp only
  rw[if_pos rfl]
  have bP:=hM.pushA M.sA h2 s!"" (fun y hy=>LeK.trans (Ht M.sB s!"" y hy) (qw_ e))
  refine jA_ (Bq (show na-1<a.size by lia) ?_)
  by_cases hq:na-1=0
  ·rw[if_pos (by simpa using hq)]
   exact jK_ (hd _ _ rfl (M.doneH bP (.inl hq)))
  ·rw[if_neg (by simpa using hq)]
   have hh:=h (none,na-1,nb,out.push a[na-1],ac+1,0) rfl (show MHJ κ a b (out.push a[na-1]) (na-1) nb (p+1) from ⟨bP,by lia,h3,by lia⟩)
   split
   ·exact jK_ hh.2
   ·exact jK_ hh.1
 |false=>
  dsimp only
  rw[if_neg (by simp)]
  have bP:=hM.pushB M.sB s!"" s!"" (fun y hy=>LeK.trans (Ht M.sA s!"" y hy) e)
  refine jA_ (Bq (show nb-1<b.size by lia) ?_)
  by_cases hq:nb-1=1
  ·rw[if_pos (by simpa using hq)]
   exact jK_ (hd _ _ rfl (M.firstB bP hq))
  ·rw[if_neg (by simpa using hq)]
   have hh:=h (none,na,nb-1,out.push b[nb-1],0,bc+1) rfl (show MHJ κ a b (out.push b[nb-1]) na (nb-1) (p+1) from ⟨bP,h2,by lia,by lia⟩)
   split
   ·exact jK_ hh.2
   ·exact jK_ hh.1
def WW (M:MP a₀ κ a b){st:SortSt}  (hM:MH κ a b out na nb)(h2:1<=na)(h3:2<=nb)(h4:na+nb+p<=a.size+b.size)(hi:na-1<a.size)(aS:∀y∈b.toList.take nb,LeK κ y a[na-1])
  (h:∀d:H7,d.1=none->MHJ κ a b d.2.2.2.1 d.2.1 d.2.2.1 p->Q (.yield d) st/\Q (.done d) st) (hd:∀(d:H7) x,d.1=some x->Mgd (LeK κ) a.toList b.toList x.toList->Q (.done d) st):
  wpS (model prog w) A E s (HC a b out na nb mg ac bc) Q st:=by
 unfold HC
 refine jA_ (Bq hi ?_)
 have bP:=hM.pushA M.sA h2 hi aS
 by_cases hq:na-1=0
 ·rw[if_pos (by simpa using hq)]
  exact jK_ (hd _ _ rfl (M.doneH bP (.inl hq)))
 ·rw[if_neg (by simpa using hq)]
  have hh:=h (none,na-1,nb,out.push a[na-1],mg,ac,bc) rfl (show MHJ κ a b (out.push a[na-1]) (na-1) nb p from ⟨bP,by lia,h3,by lia⟩)
  split
  ·exact jK_ hh.2
  ·exact jK_ hh.1
def WX (hO:LtOk kd κ a₀ prog w A E s)(M:MP a₀ κ a b){st:SortSt}(hk:kindOf st=kd)  (hM:MH κ a b out na nb)(h2:1<=na)(h3:2<=nb)(h4:na+nb+p<=a.size+b.size)(hi:nb-1<b.size)(aS:∀y∈a.toList.take na,LeK κ y b[nb-1])
  (h:∀d:H7,d.1=none->MHJ κ a b d.2.2.2.1 d.2.1 d.2.2.1 p->Q (.yield d) st/\Q (.done d) st) (hd:∀(d:H7) x,d.1=some x->Mgd (LeK κ) a.toList b.toList x.toList->Q (.done d) st):
  wpS (model prog w) A E s (HB a b out na nb mg ac bc) Q st:=by
 unfold HB
 have hA:=hM.ha
 have hB:=hM.hb
 refine jA_ (Bq hi ?_)
 have bP:=hM.pushB M.sB s!"" hi aS
 by_cases hq:nb-1=1
 ·rw[if_pos (by simpa using hq)]
  exact jK_ (hd _ _ rfl (M.firstB bP hq))
 ·rw[if_neg (by simpa using hq)]
  refine jA_ (Bq (show na-1<a.size by lia) (jA_ (Kg hO hk (M.hA _ (by simp)) M.hB (Kh M.sB _ _) s!"" s!"" (fun t mG g1 g2=>?_))))
  dsimp only
  have gp:∀y∈b.toList.take t,LeK κ y a[na-1]:=fun y hy=>by
   obtain⟨j,hj,aW,rfl⟩:=NF hy
   have:=g1 j s!"" aW
   simp only[zx_]at this
   exact qw_ this
  by_cases dC:nb-1-t > 0
  ·rw[if_pos dC]
   have dD:=bP.extB M.sB (t:=t) s!"" (fun j hj pI pJ y hy=>by
    have:=g2 j s!"" pI pJ
    simp only[zx_]at this
    exact LeK.trans (Ht M.sA s!"" y hy) this)
   by_cases cS:t=1
   ·rw[if_pos (by simpa using cS)]
    exact jK_ (hd _ _ rfl (M.firstB dD cS))
   ·rw[if_neg (by simpa using cS)]
    by_cases je:t=0
    ·rw[if_pos (by simpa using je)]
     exact jK_ (hd _ _ rfl (M.doneH dD (.inr je)))
    ·rw[if_neg (by simpa using je)]
     exact WW M dD h2 s!"" s!"" s!"" gp h hd
  ·rw[if_neg dC]
   have e:t=nb-1:=by lia
   subst e
   exact WW M bP h2 s!"" s!"" s!"" gp h hd
def WY (hO:LtOk kd κ a₀ prog w A E s)(M:MP a₀ κ a b){st:SortSt}(hk:kindOf st=kd)  (hJ:MHJ κ a b out na nb p)
  (h:∀(d:H7) ah,SG st ah->d.1=none->MHJ κ a b d.2.2.2.1 d.2.1 d.2.2.1 p->Q (.yield d) ah/\Q (.done d) ah) (hd:∀(d:H7) x ah,SG st ah->d.1=some x->Mgd (LeK κ) a.toList b.toList x.toList->Q (.done d) ah):
  wpS (model prog w) A E s (HA a b out na nb mg ac bc) Q st:=by
 obtain⟨hM,h2,h3,h4⟩:=hJ
 have hA:=hM.ha
 have hB:=hM.hb
 unfold HA
 refine jA_ (Ki ?_)
 have hG:SG st (Eg st mg):=(SG.refl st).set mg
 refine jA_ (Bq (show nb-1<b.size by lia) (jA_ (Kf hO (hG.kd.trans hk) (M.hB _ (by simp)) M.hA (Kh M.sA _ _) s!"" s!"" (fun t mG g1 g2=>?_))))
 dsimp only
 have aS:∀y∈a.toList.take t,LeK κ y b[nb-1]:=fun y hy=>by
  obtain⟨j,hj,aW,rfl⟩:=NF hy
  have:=g1 j s!"" aW
  simp only[zx_]at this
  exact this
 by_cases dC:na-t > 0
 ·rw[if_pos dC]
  have dD:=hM.extA M.sA (t:=t) s!"" (fun j hj pI pJ y hy=>by
   have:=g2 j s!"" pI pJ
   simp only[zx_]at this
   exact LeK.trans (Ht M.sB s!"" y hy) (qw_ this))
  by_cases hq:t=0
  ·rw[if_pos (by simpa using hq)]
   exact jK_ (hd _ _ _ hG rfl (M.doneH dD (.inl hq)))
  ·rw[if_neg (by simpa using hq)]
   exact WX hO M (hG.kd.trans hk) dD s!"" h3 s!"" s!"" aS (fun d=>h d _ hG) (fun d x=>hd d x _ hG)
 ·rw[if_neg dC]
  have e:t=na:=by lia
  subst e
  exact WX hO M (hG.kd.trans hk) hM h2 h3 h4 s!"" aS (fun d=>h d _ hG) (fun d x=>hd d x _ hG)
def Xo (hO:LtOk kd κ a₀ prog w A E s)(M:MP a₀ κ a b){st:SortSt}(hk:kindOf st=kd)   (hJ:MHJ κ a b c.2.2.2.1 c.2.1 c.2.2.1 p)
  (h:∀(d:H7) ah,SG st ah->d.1=none->MHJ κ a b d.2.2.2.1 d.2.1 d.2.2.1 p->Q (.yield d) ah/\Q (.done d) ah) (hd:∀(d:H7) x ah,SG st ah->d.1=some x->Mgd (LeK κ) a.toList b.toList x.toList->Q (.done d) ah):
  wpS (model prog w) A E s (H2 a b c) Q st:=by
 unfold H2
 split
 ·exact WY hO M hk hJ h hd
 ·exact WY hO M hk hJ h hd
def Xp (hO:LtOk kd κ a₀ prog w A E s)(M:MP a₀ κ a b){st:SortSt}(hk:kindOf st=kd)   (hJ:MHJ κ a b c.2.2.2.1 c.2.1 c.2.2.1 p)
  (h:∀(d:H5) ah,SG st ah->d.1=none->MHJ κ a b d.2.2.2.1 d.2.1 d.2.2.1 (p+1)->Q (.yield d) ah) (hd:∀(d:H5) x ah,SG st ah->d.1=some x->Mgd (LeK κ) a.toList b.toList x.toList->Q (.done d) ah):
  wpS (model prog w) A E s (HO a b c) Q st:=by
 have cm:1<=a.size+b.size:=by have:=M.ha;lia
 unfold HO
 refine jA_ (xZ_ (qI_ (I:=fun x d ah=>ah=st/\d.1=none/\MHJ κ a b d.2.2.2.1 d.2.1 d.2.2.1 (p+x))
   (Q:=fun d ah=>ah=st/\((d.1=none/\MHJ κ a b d.2.2.2.1 d.2.1 d.2.2.1 (p+1)) \/ ∃x,d.1=some x/\Mgd (LeK κ) a.toList b.toList x.toList)) ?step ?fin ⟨rfl,rfl,hJ⟩) ?post)
 case step=>
  rintro x d ah _ hx ⟨rfl,h1,h2⟩
  refine Xn hO M hk h1 h2 (fun d' g1 g2=>⟨⟨rfl,g1,g2⟩,rfl,.inl ⟨g1,g2.1,g2.2.1,g2.2.2.1,?_⟩⟩) (fun d' x g1 g2=>⟨rfl,.inr ⟨x,g1,g2⟩⟩)
  have:=g2.2.2.2;lia
 case fin=>
  rintro d ah ⟨rfl,h1,h2⟩
  refine⟨rfl,.inl ⟨h1,h2.1,h2.2.1,h2.2.2.1,?_⟩⟩
  have:=h2.2.2.2;lia
 case post=>
  rintro d ah ⟨rfl,hh⟩
  rcases hh with ⟨h1,h2⟩|⟨x,h1,h2⟩
  ·rw[h1]
   dsimp only
   refine jA_ (Gq ?_)
   refine jA_ (xZ_ (qI_ (I:=fun x d aU=>SG ah aU/\d.1=none/\MHJ κ a b d.2.2.2.1 d.2.1 d.2.2.1 (p+1))
    (Q:=fun d aU=>SG ah aU/\((d.1=none/\MHJ κ a b d.2.2.2.1 d.2.1 d.2.2.1 (p+1)) \/ ∃x,d.1=some x/\Mgd (LeK κ) a.toList b.toList x.toList)) ?step2 ?fin2 ⟨SG.refl _,rfl,h2⟩) ?post2)
   case step2=>
    rintro x e aU _ hx ⟨g0,g1,g2⟩
    exact Xo hO M (g0.kd.trans hk) g2 (fun d' bR k0 k1 k2=>⟨⟨g0.trans k0,k1,k2⟩,g0.trans k0,.inl ⟨k1,k2⟩⟩) (fun d' x bR k0 k1 k2=>⟨g0.trans k0,.inr ⟨x,k1,k2⟩⟩)
   case fin2=>
    rintro e aU ⟨g0,g1,g2⟩
    exact⟨g0,.inl ⟨g1,g2⟩⟩
   case post2=>
    rintro e aU ⟨g0,hh⟩
    rcases hh with ⟨g1,g2⟩|⟨x,g1,g2⟩
    ·rw[g1]
     dsimp only
     refine jA_ (Ki (jK_ ?_))
     exact h (none,e.2.1,e.2.2.1,e.2.2.2.1,e.2.2.2.2.1+1) _ (g0.set _) rfl g2
    ·rw[g1]
     dsimp only
     exact jK_ (hd _ x _ g0 rfl g2)
  ·rw[h1]
   dsimp only
   exact jK_ (hd _ x _ (SG.refl _) rfl h2)
def OF {st:SortSt}  (hO:LtOk kd κ a₀ prog w A E s)(M:MP a₀ κ a b)(hk:kindOf st=kd)
  (h:∀r ah,SG st ah->Mgd (LeK κ) a.toList b.toList r.toList->Q r ah):wpS (model prog w) A E s (Hs a b) Q st:=by
 have ha:=M.ha
 have hb:=M.hb
 rw[Ls]
 refine jA_ (Gq (jA_ (Bq (show a.size-1<a.size by lia) ?_)))
 have hM0:MH κ a b #[] a.size b.size:=⟨jg_ _,jg_ _,by simpa using MI.start _ _⟩
 have hM:MH κ a b #[a[a.size-1]] (a.size-1) b.size:=hM0.pushA M.sA ha s!"" (fun y hy=>M.hl y (xh_ hy))
 by_cases h1:a.size-1=0
 ·rw[if_pos (by simpa using h1)]
  exact jK_ (h _ _ (SG.refl _) (M.doneH hM (.inl h1)))
 ·rw[if_neg (by simpa using h1)]
  by_cases h2:b.size=1
  ·rw[if_pos (by simpa using h2)]
   exact jK_ (h _ _ (SG.refl _) (M.firstB hM h2))
  ·rw[if_neg (by simpa using h2)]
   refine jA_ (wpS_get ?_)
   refine jA_ (xZ_ (qI_ (I:=fun x c ah=>SG st ah/\c.1=none/\MHJ κ a b c.2.2.2.1 c.2.1 c.2.2.1 (1+x))
    (Q:=fun c ah=>SG st ah/\∃x,c.1=some x/\Mgd (LeK κ) a.toList b.toList x.toList) ?step ?fin ⟨SG.refl _,rfl,show MHJ κ a b #[a[a.size-1]] (a.size-1) b.size (1+0) from ⟨hM,by lia,by lia,by lia⟩⟩) ?post)
   case step=>
    rintro x c ah _ hx ⟨g0,g1,g2⟩
    exact Xp hO M (g0.kd.trans hk) g2 (fun d aP k0 k1 k2=>⟨g0.trans k0,k1,k2⟩) (fun d x aP k0 k1 k2=>⟨g0.trans k0,x,k1,k2⟩)
   case fin=>
    rintro c ah ⟨g0,g1,g2⟩
    have:=g2.2.1;have:=g2.2.2.1;have:=g2.2.2.2
    lia
   case post=>
    rintro c ah ⟨g0,x,g1,g2⟩
    rw[g1]
    dsimp only
    exact jK_ (h x ah g0 g2)
end
end aL
namespace aL
open PySem PyProof.Rows
section
variable {prog:Program} {w:World} {A:Around} {E:Value->Shared->Prop} {s:Shared} {a₀:Array Keyed} {κ:KeyKind} {kd:SortKind}
structure SQ (kd:SortKind)(a₀:Array Keyed)(lo hi:Nat)(st ah:SortSt):Prop where
 b:SB kd a₀ ah
 pe:pendingOf ah=pendingOf st
 out:Out lo hi (arrOf st) (arrOf ah)
def SQ.refl {lo hi:Nat}{st:SortSt}(h:SB kd a₀ st):SQ kd a₀ lo hi st st:=⟨h,rfl,Out.refl _ _ _⟩
def SQ.trans {lo hi:Nat}{st ah aU:SortSt}(h:SQ kd a₀ lo hi st ah)(g:SQ kd a₀ lo hi ah aU):SQ kd a₀ lo hi st aU:=⟨g.b,g.pe.trans h.pe,h.out.trans g.out⟩
def SQ.mir {lo hi i j:Nat}{st ah:SortSt}(h:SQ kd a₀ lo hi st ah)(hj:j<=a₀.size)(h1:lo<=i)(h2:j<=hi):SQ kd a₀ lo hi st (setArr ah (mirror (arrOf ah) i j ((j-i) / 2))):=
 ⟨h.b.setArr (mirror_perm _ _ _ _),h.pe,h.out.trans (Js (by rw[h.b.size];exact hj) h1 h2)⟩
def SQ.bub {lo hi k l:Nat}{st ah:SortSt}(h:SQ kd a₀ lo hi st ah)(hk:k<a₀.size)(h1:lo<=l)(hl:l<=k)(h2:k<hi):SQ kd a₀ lo hi st (setArr ah (bubble (arrOf ah) k (k-l))):=
 ⟨h.b.setArr (bubble_perm _ _ _),h.pe,h.out.trans (Oy (by rw[h.b.size];exact hk) s!"" s!"" h2)⟩
def NG {st bB:SortSt}{lo n ao:Nat}  (hO:LtOk kd κ a₀ prog w A E s)(hn:lo+ao<=a₀.size)(h1:1<=n)(fK:n<=ao)(hB:SQ kd a₀ lo (lo+ao) bB st)(hs:NI κ (arrOf st) lo (lo+n))
  (h:∀m ah,SQ kd a₀ lo (lo+ao) bB ah->1<=m->m<=ao->SO κ (arrOf ah) lo (lo+m)->Q (some m) ah):
  wpS (model prog w) A E s (Lp lo n ao) Q st:=Vn hO hn h1 fK hB.b hs (fun m ah g1 g2 g3 g4 g5 g6=>h m ah (hB.trans ⟨g1,g2,g3⟩) g4 g5 g6)
def SA (lo n ao:Nat):StateT SortSt Sem DescSt:=
 forIn [n:ao] ((none,n,0):DescSt) fun _ c=>do
  let x <- ltAt' (lo+c.2.1) (lo+c.2.1-1)
  match x with
  |some cT=>
   if cT=true then
    if c.2.2 > 0 then do
     reverseSlice' (lo+c.2.1-(c.2.2+1)) (lo+c.2.1)
     pure (.yield (none,c.2.1+1,0))
    else pure (.yield (none,c.2.1+1,0))
   else do
    let x <- ltAt' (lo+c.2.1-1) (lo+c.2.1)
    match x with
    |some larger=>if larger=true then pure (.done (none,c.2.1,c.2.2)) else pure (.yield (none,c.2.1+1,c.2.2+1))
    |_=>pure (.done (some none,c.2.1,c.2.2))
  |_=>pure (.done (some none,c.2.1,c.2.2))
def Q2 (lo n ao:Nat):StateT SortSt Sem (Option Nat):=do
 liftM (rule "list.sort.descending-run")
 let c <- SA lo (n+1) ao
 match c.1 with
 |some r=>pure r
 |none=>
  if c.2.2 > 0 then do
   reverseSlice' (lo+c.2.1-(c.2.2+1)) (lo+c.2.1)
   Lp lo c.2.1 ao
  else Lp lo c.2.1 ao
def Kj (lo ao:Nat):countRun' lo ao=(do
  let c <- ascL lo 1 ao
  match c.1 with
  |some r=>pure r
  |none=>
   if (c.2==ao)=true then pure (some c.2)
   else if c.2 > 1 then do
    let x <- ltAt' lo (lo+c.2-1)
    match x with
    |some rose=>if rose=true then pure (some c.2) else do
      reverseSlice' lo (lo+c.2)
      Q2 lo c.2 ao
    |_=>pure none
   else Q2 lo c.2 ao):=by
 have tl:∀n (f:AscSt->StateT SortSt Sem (Option Nat)),(∀r m,f (some r,m)=pure r)->(∀m,f (none,m)=pure (some m))->(reverseSlice' lo (lo+n) >>= fun _=>ascL lo n ao >>= f)=Lp lo n ao:=fun n f h1 h2=>by
  refine jC_ (bind _) (funext fun _=>jC_ (bind _) (funext fun c=>?_))
  rcases c with ⟨_|r,m⟩
  ·exact h2 m
  ·exact h1 r m
 have pl:∀n (f:DescSt->StateT SortSt Sem (Option Nat)),(∀r m q,f (some r,m,q)=pure r)->(∀m q,f (none,m,q)=if q > 0 then reverseSlice' (lo+m-(q+1)) (lo+m) >>= fun _=>Lp lo m ao else Lp lo m ao) ->
   (liftM (rule "list.sort.descending-run") >>= fun _=>SA lo (n+1) ao >>= f)=Q2 lo n ao:=fun n f h1 h2=>by
  refine jC_ (bind _) (funext fun _=>jC_ (bind _) (funext fun c=>?_))
  rcases c with ⟨_|r,m,q⟩
  ·exact h2 m q
  ·exact h1 r m q
 rw[countRun'_eq]
 unfold ascL
 refine jC_ (bind _) (funext fun c=>?_)
 obtain⟨r,n⟩:=c
 cases r with
 |some r=>rfl
 |none=>
  dsimp only
  refine jC_ (ite _ _) ?_
  by_cases hn:n > 1
  ·rw[if_pos hn,if_pos hn]
   refine jC_ (bind _) (funext fun x=>?_)
   cases x with
   |none=>rfl
   |some rose=>
    dsimp only
    refine jC_ (ite _ _) (jC_ (bind _) (funext fun _=>pl n _ (fun _ _ _=>rfl) fun m q=>by
    dsimp only
    by_cases o:q > 0
    ·rw[if_pos o,if_pos o];exact jC_ (bind _) (funext fun _=>tl m _ (fun _ _=>rfl) fun _=>rfl)
    ·rw[if_neg o,if_neg o];exact tl m _ (fun _ _=>rfl) fun _=>rfl))
  ·rw[if_neg hn,if_neg hn]
   exact pl n _ (fun _ _ _=>rfl) fun m q=>by
    dsimp only
    by_cases o:q > 0
    ·rw[if_pos o,if_pos o];exact jC_ (bind _) (funext fun _=>tl m _ (fun _ _=>rfl) fun _=>rfl)
    ·rw[if_neg o,if_neg o];exact tl m _ (fun _ _=>rfl) fun _=>rfl
def Vp {st bB:SortSt}{lo n ao:Nat}  (hO:LtOk kd κ a₀ prog w A E s)(hn:lo+ao<=a₀.size)(h1:1<=n)(fK:n<=ao)(hB:SQ kd a₀ lo (lo+ao) bB st)(hs:NI κ (arrOf st) lo (lo+n))
  (h:∀m dS ah,SQ kd a₀ lo (lo+ao) bB ah->n<=m->m<=ao->NI κ (arrOf ah) lo (lo+m)->dS+1<=m->(∀i,lo+m-(dS+1)<=i->i<lo+m->KK κ (arrOf ah) i=KK κ (arrOf ah) (lo+m-1))->Q (none,m,dS) ah):
  wpS (model prog w) A E s (SA lo n ao) Q st:=by
 unfold SA
 refine qI_ (I:=fun x c ah=>∃dS,c=(none,x,dS)/\SQ kd a₀ lo (lo+ao) bB ah/\NI κ (arrOf ah) lo (lo+x)/\dS+1<=x /\
   (∀i,lo+x-(dS+1)<=i->i<lo+x->KK κ (arrOf ah) i=KK κ (arrOf ah) (lo+x-1))) ?step ?fin ⟨0,rfl,hB,hs,by lia,fun i h1 h2=>by congr 1;lia⟩
 case fin=>
  rintro c ah ⟨dS,rfl,g1,g2,g3,g4⟩
  rw[show max n ao=ao by lia]at g2 g3 g4 ⊢
  exact h ao dS ah g1 fK (jg_ _) g2 g3 g4
 case step=>
  rintro x c ah hax hxn ⟨dS,rfl,hQ,hN,hq,he⟩
  dsimp only
  have hsz:lo+x<=(arrOf ah).size:=by rw[hQ.b.size];lia
  refine jA_ (Ij hO hQ.b s!"" s!"" ?_)
  cases hless:κ.blt (KK κ (arrOf ah) (lo+x)) (KK κ (arrOf ah) (lo+x-1))
  case true=>
   simp only[zs_]
   have iG:∀xs:Array Keyed,(∀k,KK κ xs k=KK κ (arrOf ah) k)->NI κ xs lo (lo+(x+1)):=by
    intro xs hk i j hl aW hj
    rw[hk,hk]
    rcases qF_ j (lo+x) with lq|lq
    ·exact hN i j hl aW lq
    ·obtain rfl:j=lo+x:=by lia
     rcases qF_ i (lo+x) with hi' | hi'
     ·exact xe_ (qw_ hless) (hN i (lo+x-1) hl s!"" s!"")
     ·obtain rfl:i=lo+x:=by lia
      exact qH_ _
   by_cases gr:dS > 0
   ·rw[if_pos gr]
    exact jA_ (EM (jK_ ⟨0,rfl,hQ.mir s!"" s!"" s!"",iG _ (zk_ hsz he),by lia,fun i h1 h2=>by congr 1;lia⟩))
   ·rw[if_neg gr]
    exact jK_ ⟨0,rfl,hQ,iG _ (fun _=>rfl),by lia,fun i h1 h2=>by congr 1;lia⟩
  case false=>
   simp only[jY_,xb_]
   refine jA_ (Ij hO hQ.b s!"" s!"" ?_)
   cases hlarger:κ.blt (KK κ (arrOf ah) (lo+x-1)) (KK κ (arrOf ah) (lo+x))
   case true=>
    simp only[zs_]
    exact jK_ (h x dS ah hQ hax s!"" hN hq he)
   case false=>
    simp only[jY_,xb_]
    have same:KK κ (arrOf ah) (lo+x)=KK κ (arrOf ah) (lo+x-1):=KeyOrd.kle_antisymm hlarger hless
    refine jK_ ⟨dS+1,rfl,hQ,fun i j hl aW hj=>?_,by lia,fun i h1 h2=>?_⟩
    ·rcases qF_ j (lo+x) with lq|lq
     ·exact hN i j hl aW lq
     ·obtain rfl:j=lo+x:=by lia
      rcases qF_ i (lo+x) with hi' | hi'
      ·rw[same];exact hN i (lo+x-1) hl s!"" s!""
      ·obtain rfl:i=lo+x:=by lia
       exact qH_ _
    ·rw[show lo+(x+1)-1=lo+x by lia]
     by_cases gu:i=lo+x
     ·rw[gu]
     ·rw[same];exact he i s!"" s!""
def Q3 {st bB:SortSt}{lo n ao:Nat}  (hO:LtOk kd κ a₀ prog w A E s)(hn:lo+ao<=a₀.size)(fK:n+1<=ao)(hB:SQ kd a₀ lo (lo+ao) bB st)(hs:NI κ (arrOf st) lo (lo+(n+1)))
  (h:∀m ah,SQ kd a₀ lo (lo+ao) bB ah->1<=m->m<=ao->SO κ (arrOf ah) lo (lo+m)->Q (some m) ah):
  wpS (model prog w) A E s (Q2 lo n ao) Q st:=by
 unfold Q2
 refine jA_ (Gq (jA_ (Vp hO hn s!"" fK hB hs fun m dS ah g1 g2 g3 g4 g5 g6=>?_)))
 dsimp only
 have hsz:lo+m<=(arrOf ah).size:=by rw[g1.b.size];lia
 by_cases gr:dS > 0
 ·rw[if_pos gr]
  refine jA_ (EM (NG hO hn s!"" g3 (g1.mir s!"" s!"" s!"") ?_ h))
  intro i j hl aW hj
  show κ.kle (KK κ (mirror (arrOf ah) _ _ _) j) (KK κ (mirror (arrOf ah) _ _ _) i)
  rw[zk_ hsz g6,zk_ hsz g6]
  exact g4 i j hl aW hj
 ·rw[if_neg gr]
  exact NG hO hn s!"" g3 g1 g4 h
def Mu {st:SortSt}{lo ao:Nat}  (hO:LtOk kd κ a₀ prog w A E s)(hn:lo+ao<=a₀.size)(h1:1<=ao)(hB:SB kd a₀ st)
  (h:∀m ah,SQ kd a₀ lo (lo+ao) st ah->1<=m->m<=ao->SO κ (arrOf ah) lo (lo+m)->Q (some m) ah):
  wpS (model prog w) A E s (countRun' lo ao) Q st:=by
 have hQ:SQ kd a₀ lo (lo+ao) st st:=SQ.refl hB
 rw[Kj]
 refine jA_ (Ua hO hn (jg_ 1) h1 hB (fun i j hl aW hj=>by (obtain rfl:i=j:=by lia);exact qH_ _) fun n b8 gj iH hor=>?_)
 dsimp only
 by_cases fK:n=ao
 ·rw[if_pos (by simpa using fK)]
  exact jK_ (h n st hQ b8 gj iH)
 ·rw[if_neg (by simpa using fK)]
  have au:=hor.resolve_left fK
  by_cases lr:n > 1
  ·rw[if_pos lr]
   refine jA_ (Ij hO hB s!"" s!"" ?_)
   cases hrose:κ.blt (KK κ (arrOf st) lo) (KK κ (arrOf st) (lo+n-1))
   case true=>
    simp only[zs_]
    exact jK_ (h n st hQ b8 gj iH)
   case false=>
    simp only[jY_,xb_]
    have hsz:lo+n<=(arrOf st).size:=by rw[hB.size];lia
    have aB:∀k,lo<=k->k<lo+n->KK κ (arrOf st) k=KK κ (arrOf st) (lo+n-1):=fun k lB eY=>
     KeyOrd.kle_antisymm (iH k (lo+n-1) lB s!"" s!"") (xe_ hrose (iH lo k (jg_ _) lB eY))
    refine jA_ (EM (Q3 hO hn s!"" (hQ.mir s!"" (jg_ _) s!"") ?_ h))
    intro i j hl aW hj
    show κ.kle (KK κ (mirror (arrOf st) _ _ _) j) (KK κ (mirror (arrOf st) _ _ _) i)
    rw[zk_ hsz aB,zk_ hsz aB]
    rcases qF_ j (lo+n) with hjn|hjn
    ·rw[aB i hl s!"",aB j s!"" hjn];exact qH_ _
    ·obtain rfl:j=lo+n:=by lia
     rcases qF_ i (lo+n) with hi' | hi'
     ·rw[aB i hl hi'];exact qw_ au
     ·obtain rfl:i=lo+n:=by lia
      exact qH_ _
  ·rw[if_neg lr]
   obtain rfl:n=1:=by lia
   refine Q3 hO hn s!"" hQ ?_ h
   intro i j hl aW hj
   by_cases hi':i=j
   ·subst hi';exact qH_ _
   ·obtain rfl:i=lo:=by lia
    obtain rfl:j=i+1:=by lia
    exact qw_ au
structure Bis (κ:KeyKind)(xs:Array Keyed)(lo k l r:Nat):Prop where
 le:l<=r
 top:r<=k
 low:∀i,lo<=i->i<lo+l->κ.kle (KK κ xs i) (KK κ xs (lo+k))
 high:∀i,lo+r<=i->i<lo+k->κ.klt (KK κ xs (lo+k)) (KK κ xs i)
section
variable {xs:Array Keyed} {lo k l r:Nat}
def Bis.start:Bis κ xs lo k 0 k:=⟨jX_ _,jg_ _,fun i a b=>absurd a (Nat.not_le.mpr b),fun i a b=>absurd a (Nat.not_le.mpr b)⟩
def Bis.turn (B:Bis κ xs lo k l r)(o:l<r)(hs:SO κ xs lo (lo+k))(b:Bool)(e:κ.blt (KK κ xs (lo+k)) (KK κ xs (lo+(l+r) / 2))=b):
  if b=true then Bis κ xs lo k l ((l+r) / 2) else Bis κ xs lo k ((l+r) / 2+1) r:=by
 have t:=B.top
 cases b
 ·exact⟨by lia,t,fun i a c=>xe_ (hs i (lo+(l+r) / 2) a s!"" s!"") e,B.high⟩
 ·exact⟨by lia,by lia,B.low,fun i a c=>KeyOrd.klt_of_klt_of_kle e (hs _ i s!"" a c)⟩
def Bis.put (B:Bis κ xs lo k l l)(hs:SO κ xs lo (lo+k))(hz:lo+k<xs.size):SO κ (bubble xs (lo+k) (lo+k-(lo+l))) lo (lo+(k+1)):=by
 have t:=B.top
 have eA:∀i,KK κ (bubble xs (lo+k) (lo+k-(lo+l))) i=if i=lo+l then KK κ xs (lo+k) else if lo+l<i/\i<=lo+k then KK κ xs (i-1) else KK κ xs i:=fun i=>by
  rw[KK_bubble hz s!"",show lo+k-(lo+k-(lo+l))=lo+l by lia]
 intro i j a b c
 rw[eA i,eA j]
 rcases tS i (lo+l) with x|x|x<;>rcases tS j (lo+l) with y|y|y
 ·rw[if_neg s!"",if_neg s!"",if_neg s!"",if_neg s!""];exact hs i j a b s!""
 ·rw[if_neg s!"",if_neg s!"",if_pos y];exact B.low i a x
 ·rw[if_neg s!"",if_neg s!"",if_neg s!"",if_pos s!""];exact hs i (j-1) a s!"" s!""
 ·lia
 ·rw[if_pos x,if_pos y];exact qH_ _
 ·rw[if_pos x,if_neg s!"",if_pos s!""];exact qw_ (B.high (j-1) s!"" s!"")
 ·lia
 ·lia
 ·rw[if_neg s!"",if_pos s!"",if_neg s!"",if_pos s!""];exact hs (i-1) (j-1) s!"" s!"" s!""
end
def Kk {st:SortSt}{lo n ok:Nat}  (hO:LtOk kd κ a₀ prog w A E s)(hn:lo+n<=a₀.size)(hok:ok<=n)(hB:SB kd a₀ st)(hs:SO κ (arrOf st) lo (lo+ok))
  (h:∀ah,SQ kd a₀ lo (lo+n) st ah->SO κ (arrOf ah) lo (lo+n)->Q true ah):wpS (model prog w) A E s (binarySort' lo n ok) Q st:=by
 rw[binarySort'_eq]
 have one:SO κ (arrOf st) lo (lo+max ok 1):=fun i j a b c=>if q:i=j then q ▸ qH_ _ else hs i j a b s!""
 have fin:∀t,SQ kd a₀ lo (lo+n) st t->SO κ (arrOf t) lo (lo+max (max ok 1) n)->Q true t:=fun t q so=>h t q fun i j a b c=>so i j a b s!""
 refine jA_ (qI_ (fun k c t=>c=(none,())/\SQ kd a₀ lo (lo+n) st t/\SO κ (arrOf t) lo (lo+k)) (fun k c t a b i=>?_) (fun c t i=>?_) ⟨rfl,SQ.refl hB,one⟩)
 ·obtain⟨rfl,q,so⟩:=i
  have put:∀l,Bis κ (arrOf t) lo k l l->wpS (model prog w) A E s (do moveDown' (lo+k) (lo+l);pure (qZ ((none:Option Bool),()))) (fun r u=>match r with | .done _=>False | .yield c=>c=(none,())/\SQ kd a₀ lo (lo+n) st u/\SO κ (arrOf u) lo (lo+(k+1))) t:=fun l B=>by
   have tp:=B.top
   rw[moveDown'_eq]
   exact jA_ (zE_ (jK_ ⟨rfl,q.bub s!"" s!"" s!"" s!"",B.put so (by rw[q.b.size];lia)⟩))
  refine jA_ (xZ_ (qI_ (fun x d t'=>t'=t/\∃l r,d=(none,l,r)/\r-l<=k-x/\Bis κ (arrOf t) lo k l r) (Q:=fun d t'=>t'=t/\∃l,d=(none,l,l)/\Bis κ (arrOf t) lo k l l) (fun x d t' _ y i=>?_) (fun d t' i=>?_) ⟨rfl,0,k,rfl,jg_ _,.start⟩) fun d t' i=>?_)
  ·obtain⟨rfl,l,r,rfl,z,B⟩:=i
   have tp:=B.top
   by_cases o:l<r
   ·have m:=B.turn o so
    dsimp only
    rw[if_neg (Nat.not_le.mpr o)]
    refine jA_ (Ij hO q.b s!"" s!"" ?_)
    generalize e:κ.blt _ _=b
    replace m:=m b e
    cases b
    ·exact jK_ ⟨rfl,_,r,rfl,by lia,m⟩
    ·exact jK_ ⟨rfl,l,_,rfl,by lia,m⟩
   ·cases sf B.le (xY_.mp o)
    dsimp only
    rw[if_pos (jg_ _)]
    exact jK_ ⟨rfl,l,rfl,B⟩
  ·obtain⟨rfl,l,r,rfl,z,B⟩:=i
   cases sf B.le s!""
   exact⟨rfl,l,rfl,B⟩
  ·obtain⟨rfl,l,rfl,B⟩:=i
   exact xZ_ (put l B) fun r u g=>by cases r with|done _=>exact g.elim|yield _=>exact g
 ·obtain⟨rfl,q,so⟩:=i
  exact jK_ (fin t q so)
end
end aL
namespace aL
open PySem PyProof.Rows
def wr (a:Array Keyed)(base:Nat)(r:List Keyed)(n:Nat):Array Keyed:=(r.zipIdx n).foldl (fun a (p,j)=>a.setIfInBounds (base+j) p) a
def Mv (i:Nat):mergeAt' i=(do
 let s <- get
 let (some (sa,na,power),some (sb,nb,_)):=((pendingOf s)[i]?,(pendingOf s)[i+1]?)|unsupported "internal:list.sort.pending"
 set (setPending s (((pendingOf s).setIfInBounds i (sa,na+nb,power)).eraseIdxIfInBounds (i+1)))
 let some k <- BZ false ( <- elem' (arrOf s) sb) (arrOf s) sa na 0|return false
 if na-k==0 then return true
 let some m <- BZ true ( <- elem' (arrOf s) (sa+k+(na-k)-1)) (arrOf s) sb nb (nb-1)|return false
 if m==0 then return true
 let merged <- if na-k<=m then Hq ((arrOf s).extract (sa+k) sb) ((arrOf s).extract sb (sb+m)) else Hs ((arrOf s).extract (sa+k) sb) ((arrOf s).extract sb (sb+m))
 modify fun s=>setArr s (wr (arrOf s) (sa+k) merged.toList 0)
 return (failedOf ( <- get)).isNone):=rfl
def Q4 {base:Nat}:∀(r:List Keyed) (n:Nat) (a:Array Keyed),base+n+r.length<=a.size->(wr a base r n).toList=a.toList.take (base+n)++r++a.toList.drop (base+n+r.length)
 |[],n,a,h=>by simp[wr]
 |x::r,n,a,h=>by
  have ih:=Q4 (base:=base) r (n+1) (a.setIfInBounds (base+n) x) (by simp at h ⊢;lia)
  unfold wr at ih ⊢
  rw[tZ,qY_]
  simp only at ih ⊢
  simp only[jT_]at h
  have hl:base+n<a.toList.length:=by simp;lia
  rw[ih,rF,show base+(n+1)=base+n+1 by lia,List.take_set,List.drop_set_of_lt s!"",List.take_succ_eq_append_getElem hl,su _ _ (by simp;lia)]
  simp only[jx_,j6_,jT_]
  rw[show base+n-min (base+n) a.size=0 by lia,zl_,show base+n+1+r.length=base+n+(r.length+1) by lia]
  simp
section
variable {prog:Program} {w:World} {A:Around} {E:Value->Shared->Prop} {s:Shared} {a₀:Array Keyed} {κ:KeyKind} {kd:SortKind}
def seg (a:Array Keyed)(lo hi:Nat):List Keyed:=(a.toList.take hi).drop lo
def Mw  {lo hi:Nat}(h:hi<=a.size):(seg a lo hi).length=hi-lo:=by unfold seg;simp;lia
def Kl  {lo hi i:Nat}(h:i<(seg a lo hi).length)(hi':lo+i<a.size):(seg a lo hi)[i]=a[lo+i]:=by simp[seg]
def Ju  {lo hi:Nat}(h:hi<=a.size):SO κ a lo hi↔(seg a lo hi).Pairwise (LeK κ):=by
 rw[xx_]
 constructor
 ·intro g i j hi hj aW
  have hl:=Mw (lo:=lo) h
  have:=g (lo+i) (lo+j) s!"" s!"" s!""
  rw[D0 s!"",D0 s!""]at this
  rw[Kl hi s!"",Kl hj s!""]
  exact this
 ·intro g i j hl aW hj
  rcases qF_ i j with au|bu
  ·have ak:=Mw (lo:=lo) h
   have:=g (i-lo) (j-lo) s!"" s!"" s!""
   rw[Kl s!"" s!"",Kl s!"" s!""]at this
   simp only[show lo+(i-lo)=i by lia,show lo+(j-lo)=j by lia]at this
   rw[D0 s!"",D0 s!""]
   exact this
  ·obtain rfl:i=j:=by lia
   exact qH_ _
def Fo  {lo hi:Nat}  (h:x∈seg a lo hi):∃j,∃hj:j<a.size,lo<=j/\j<hi/\x=a[j]:=Q1 h
def Gr (a:Array Keyed)  (h1:l<=m)(h2:m<=h):seg a l h=seg a l m++seg a m h:=by
 unfold seg
 have e:a.toList.take h=a.toList.take m++(a.toList.take h).drop m:=by
  have:=q9_ m (a.toList.take h)
  rw[uA,show min m h=m by lia]at this
  exact this.symm
 rw[e]
 rcases vv m a.toList.length with hm|hm
 ·rw[rB (by rw[jx_];lia)]
  congr 1
  rw[<-e]
 ·rw[show (a.toList.take h).drop m=[] from qC_ (by rw[jx_];lia)]
  simp only[qg_]
  rw[show we m (a.toList.take m)=[] from qC_ (by rw[jx_];lia),qg_]
def My  {lo hi i j:Nat}(h:SO κ a lo hi)(h1:lo<=i)(h2:i<=j)(h3:j<hi)(hi':i<a.size)(hj:j<a.size):LeK κ a[i] a[j]:=by
 have:=h i j h1 h2 h3
 rw[D0 hi',D0 hj]at this
 exact this
def Hu  {lo hi:Nat}(e:∀i,lo<=i->i<hi->ys[i]?=xs[i]?)(h:SO κ xs lo hi):SO κ ys lo hi:=fun i j h1 h2 h3=>by
 rw[KK_congr (e i h1 s!""),KK_congr (e j s!"" h3)];exact h i j h1 h2 h3
def SD    (aS:l<=e)(he:e<=a.size)(hp:r.Perm (seg a l e)):
  (wr a l r 0).Perm a/\Out l e a (wr a l r 0)/\seg (wr a l r 0) l e=r:=by
 have hl:r.length=e-l:=by rw[hp.length_eq,Mw he]
 have hw:=Q4 (base:=l) r 0 a s!""
 rw[tL,show l+r.length=e by lia]at hw
 have h0:a.toList=a.toList.take l++seg a l e++a.toList.drop e:=by
  have h1:=q9_ e a.toList
  have h2:=q9_ l (a.toList.take e)
  rw[uA,show min l e=l by lia]at h2
  rw[show seg a l e=(a.toList.take e).drop l from rfl,h2,h1]
 have au:(a.toList.take l).length=l:=by simp;lia
 refine⟨?_,fun i hi=>?_,?_⟩
 ·rw[x0_,hw]
  conv=>rhs;rw[h0]
  exact rX _ (sr _ hp)
 ·rw[<-xs_,<-xs_,hw]
  rcases hi with hi|hi
  ·rw[qc_,jd_ s!"",xA_ hi]
  ·rw[jm_ (by rw[jk_];lia),jk_,au,List.getElem?_drop]
   congr 1;lia
 ·unfold seg
  rw[hw,qc_,<-qc_,rA (by rw[jk_];lia),jW_ (by rw[jk_];lia),rB s!"",qC_ s!"",xR_]
def Eh (a:Array Keyed)(i j:Nat):(a.extract i j).toList=seg a i j:=by rw[EO,seg,uz]
def WZ {st ah:SortSt}  (h:Q ⟨⟩ ah):wpS (model prog w) A E s (set ah:StateT SortSt Sem PUnit) Q st:=zE_ (f:=fun _=>ah) h
def OG {st:SortSt}   (hO:LtOk kd κ a₀ prog w A E s)(hB:SB kd a₀ st)(e1:(pendingOf st)[i]?=some (sa,na,pw))(e2:(pendingOf st)[i+1]?=some (sb,nb,q))(nE:sb=sa+na)(hna:1<=na)(hnb:1<=nb)(hz:sb+nb<=a₀.size)
  (s1:SO κ (arrOf st) sa sb) (s2:SO κ (arrOf st) sb (sb+nb))
  (h:∀ah,SB kd a₀ ah->pendingOf ah=((pendingOf st).setIfInBounds i (sa,na+nb,pw)).eraseIdxIfInBounds (i+1)->Out sa (sb+nb) (arrOf st) (arrOf ah)->SO κ (arrOf ah) sa (sb+nb)->Q true ah):
  wpS (model prog w) A E s (mergeAt' i) Q st:=by
 have hsz:=hB.size
 rw[Mv]
 refine jA_ (wpS_get ?_)
 rw[e1,e2]
 dsimp only
 refine jA_ (WZ ?_)
 have iC:SB kd a₀ (setPending st (((pendingOf st).setIfInBounds i (sa,na+nb,pw)).eraseIdxIfInBounds (i+1))):=⟨hB.perm,hB.kind,hB.failed⟩
 have a6:∀x∈(arrOf st).toList,x∈a₀.toList:=fun x hx=>hB.mem hx
 refine jA_ (Bq (show sb<(arrOf st).size by lia) (jA_ (Kf hO iC.kind (a6 _ (by simp)) a6 (fun i j hi hj g1 g2 g3=>My s1 g1 g2 s!"" hi hj) s!"" s!"" (fun k lA g1 g2=>?_))))
 dsimp only
 by_cases dC:na-k=0
 ·rw[if_pos (by simpa using dC)]
  refine jK_ (h _ iC rfl (Out.refl _ _ _) ?_)
  intro i j hl aW hj
  show κ.kle (KK κ (arrOf st) i) (KK κ (arrOf st) j)
  rcases qF_ j sb with c|c
  ·exact s1 i j hl aW c
  ·rcases qF_ i sb with c2|c2
   ·have a1:=g1 (i-sa) s!"" s!""
    simp only[show sa+(i-sa)=i by lia]at a1
    have a2:=s2 sb j (jg_ _) c hj
    rw[D0 (show sb<(arrOf st).size by lia)]at a2
    rw[D0 (show i<(arrOf st).size by lia)]
    exact xe_ a1 a2
   ·exact s2 i j c2 aW hj
 ·rw[if_neg (by simpa using dC)]
  have el:sa+k+(na-k)-1=sb-1:=by lia
  rw[el]
  refine jA_ (Bq (show sb-1<(arrOf st).size by lia) (jA_ (Kg hO iC.kind (a6 _ (by simp)) a6 (fun i j hi hj g1 g2 g3=>My s2 g1 g2 s!"" hi hj) s!"" s!"" (fun m hmn g3 g4=>?_))))
  dsimp only
  by_cases cA:m=0
  ·rw[if_pos (by simpa using cA)]
   refine jK_ (h _ iC rfl (Out.refl _ _ _) ?_)
   intro i j hl aW hj
   show κ.kle (KK κ (arrOf st) i) (KK κ (arrOf st) j)
   rcases qF_ j sb with c|c
   ·exact s1 i j hl aW c
   ·rcases qF_ i sb with c2|c2
    ·have a1:=g4 (j-sb) s!"" s!"" s!""
     simp only[show sb+(j-sb)=j by lia]at a1
     have a2:=s1 i (sb-1) hl s!"" s!""
     rw[D0 (show sb-1<(arrOf st).size by lia)]at a2
     rw[D0 (show j<(arrOf st).size by lia)]
     exact xe_ a2 a1
    ·exact s2 i j c2 aW hj
  ·rw[if_neg (by simpa using cA)]
   have z1:((arrOf st).extract (sa+k) sb).size=sb-(sa+k):=by simp;lia
   have z2:((arrOf st).extract sb (sb+m)).size=m:=by simp;lia
   have hM:MP a₀ κ ((arrOf st).extract (sa+k) sb) ((arrOf st).extract sb (sb+m)):=by
    refine {hA:=fun x hx=>?_,hB:=fun x hx=>?_,sA:=?_,sB:=?_,ha:=by lia,hb:=by lia,hf:=fun y hy=>?_,hl:=fun x hx=>?_}
    ·rw[Eh]at hx;obtain⟨j,hj,_,_,rfl⟩:=Fo hx;exact a6 _ (by simp)
    ·rw[Eh]at hx;obtain⟨j,hj,_,_,rfl⟩:=Fo hx;exact a6 _ (by simp)
    ·rw[Eh];exact (Ju s!"").mp (fun i j c1 c2 c3=>s1 i j s!"" c2 c3)
    ·rw[Eh];exact (Ju s!"").mp (fun i j c1 c2 c3=>s2 i j c1 c2 s!"")
    ·rw[Eh]at hy;obtain⟨j,hj,c1,c2,rfl⟩:=Fo hy
     have a1:=g2 (j-sa) s!"" s!"" s!""
     simp only[show sa+(j-sa)=j by lia]at a1
     simp only[sx,tL]
     exact qw_ a1
    ·rw[Eh]at hx;obtain⟨j,hj,c1,c2,rfl⟩:=Fo hx
     have a1:=g3 (j-sb) s!"" s!""
     simp only[show sb+(j-sb)=j by lia]at a1
     simp only[sx,z1,show sa+k+(sb-(sa+k)-1)=sb-1 by lia]
     exact qw_ a1
   have hend:∀(r:Array Keyed) (ah:SortSt),SG (setPending st (((pendingOf st).setIfInBounds i (sa,na+nb,pw)).eraseIdxIfInBounds (i+1))) ah->Mgd (LeK κ) ((arrOf st).extract (sa+k) sb).toList ((arrOf st).extract sb (sb+m)).toList r.toList ->
     wpS (model prog w) A E s (do
      modify fun s=>setArr s (wr (arrOf s) (sa+k) r.toList 0)
      return (failedOf ( <- get)).isNone:StateT SortSt Sem Bool) Q ah:=by
    intro r ah hG hR
    refine jA_ (zE_ (jA_ (wpS_get (jK_ ?_))))
    have ea:arrOf ah=arrOf st:=hG.arr
    have hf:failedOf (setArr ah (wr (arrOf ah) (sa+k) r.toList 0))=none:=hG.fa.trans hB.failed
    rw[hf]
    rw[Eh,Eh]at hR
    have hp:r.toList.Perm (seg (arrOf st) (sa+k) (sb+m)):=by rw[Gr _ (show sa+k<=sb by lia) (show sb<=sb+m by lia)];exact hR.1
    obtain⟨w1,w2,w3⟩:=SD s!"" s!"" hp
    have hsz2:(wr (arrOf st) (sa+k) r.toList 0).size=(arrOf st).size:=w1.size_eq
    have jH:arrOf (setArr ah (wr (arrOf ah) (sa+k) r.toList 0))=wr (arrOf st) (sa+k) r.toList 0:=by rw[<-ea]
    refine h _ ⟨?_,hG.kd.trans hB.kind,hf⟩ hG.pe ?_ ?_
    ·rw[jH];exact w1.trans hB.perm
    ·rw[jH];exact fun i hi=>w2 i s!""
    ·rw[jH,Ju s!"",Gr _ (show sa<=sa+k by lia) (show sa+k<=sb+nb by lia),Gr _ (show sa+k<=sb+m by lia) (show sb+m<=sb+nb by lia),w3]
     have f1:∀x∈seg (wr (arrOf st) (sa+k) r.toList 0) sa (sa+k),∃j,∃hj:j<(arrOf st).size,sa<=j/\j<sa+k/\x=(arrOf st)[j]:=fun x hx=>by
      obtain⟨j,hj,c1,c2,rfl⟩:=Fo hx
      refine⟨j,by lia,c1,c2,?_⟩
      have:=w2 j s!""
      rw[qA_ hj,qA_ (show j<(arrOf st).size by lia)]at this
      exact jr_ this
     have f3:∀x∈seg (wr (arrOf st) (sa+k) r.toList 0) (sb+m) (sb+nb),∃j,∃hj:j<(arrOf st).size,sb+m<=j/\j<sb+nb/\x=(arrOf st)[j]:=fun x hx=>by
      obtain⟨j,hj,c1,c2,rfl⟩:=Fo hx
      refine⟨j,by lia,c1,c2,?_⟩
      have:=w2 j s!""
      rw[qA_ hj,qA_ (show j<(arrOf st).size by lia)]at this
      exact jr_ this
     have f2:∀x∈r.toList,∃j,∃hj:j<(arrOf st).size,sa+k<=j/\j<sb+m/\x=(arrOf st)[j]:=fun x hx=>by
      obtain⟨j,hj,c1,c2,rfl⟩:=Fo (hp.mem_iff.mp hx)
      exact⟨j,hj,c1,c2,rfl⟩
     have low:∀j (hj:j<(arrOf st).size),sa<=j->j<sa+k->LeK κ (arrOf st)[j] ((arrOf st)[sb]'s!""):=fun j hj c1 c2=>by
      have a1:=g1 (j-sa) s!"" s!""
      simp only[show sa+(j-sa)=j by lia]at a1
      exact a1
     have high:∀j (hj:j<(arrOf st).size),sb+m<=j->j<sb+nb->LeK κ ((arrOf st)[sb-1]'s!"") (arrOf st)[j]:=fun j hj c1 c2=>by
      have a1:=g4 (j-sb) s!"" s!"" s!""
      simp only[show sb+(j-sb)=j by lia]at a1
      exact a1
     refine q1_.mpr ⟨?_,q1_.mpr ⟨hR.2,?_,fun x hx y hy=>?_⟩,fun x hx y hy=>?_⟩
     ·exact (Ju s!"").mp (Hu (fun i c1 c2=>w2 i s!"") (fun i j c1 c2 c3=>s1 i j c1 c2 s!""))
     ·exact (Ju s!"").mp (Hu (fun i c1 c2=>w2 i s!"") (fun i j c1 c2 c3=>s2 i j s!"" c2 s!""))
     ·obtain⟨j,hj,c1,c2,rfl⟩:=f2 x hx
      obtain⟨l,hl,d1,d2,rfl⟩:=f3 y hy
      rcases qF_ j sb with c|c
      ·exact LeK.trans (My s1 s!"" s!"" s!"" hj s!"") (high l hl d1 d2)
      ·exact My s2 c s!"" d2 hj hl
     ·obtain⟨j,hj,c1,c2,rfl⟩:=f1 x hx
      rcases jw_.mp hy with hy|hy
      ·obtain⟨l,hl,d1,d2,rfl⟩:=f2 y hy
       rcases qF_ l sb with c|c
       ·exact My s1 c1 s!"" c hj hl
       ·exact LeK.trans (low j hj c1 c2) (My s2 (jg_ _) c s!"" s!"" hl)
      ·obtain⟨l,hl,d1,d2,rfl⟩:=f3 y hy
       exact LeK.trans (low j hj c1 c2) (My s2 (jg_ _) s!"" d2 s!"" hl)
   by_cases hc:na-k<=m
   ·rw[if_pos hc]
    exact jA_ (OE hO hM iC.kind hend)
   ·rw[if_neg hc]
    exact jA_ (OF hO hM iC.kind hend)
end
end aL
namespace aL
open PySem PyProof.Rows
abbrev Rn:=Nat×Nat×Nat
def JP (lo n:Nat):StateT SortSt Sem (ForInStep (Option Unit×Nat)):=do
 modify fun s=>setPending s ((pendingOf s).push (lo,n,0))
 pure (.yield (none,lo+n))
def JM (pw:Nat):StateT SortSt Sem (ForInStep (Option Unit×Unit)):=do
 let g <- get
 match if (pendingOf g).size > 1 then (pendingOf g)[(pendingOf g).size-2]? else none with
 |some (_,_,older)=>if older<=pw then pure (.done (none,())) else do
   let b <- mergeAt' ((pendingOf g).size-2)
   if (!b)=true then pure (.done (some (),())) else pure (.yield (none,()))
 |_=>pure (.done (none,()))
def JB (size lo n:Nat):StateT SortSt Sem (ForInStep (Option Unit×Nat)):=do
 let g <- get
 match (pendingOf g).back? with
 |some (s1,n1,_)=>do
  let c <- forIn [0:size] ((none,()):Option Unit×Unit) fun _ _=>JM (power' size (2*s1+n1) (2*s1+n1+n1+n) size)
  match c.1 with
  |some r=>pure (.done (some r,lo))
  |none=>do
   modify fun s=>setPending s ((pendingOf s).modify ((pendingOf s).size-1) fun (st,len,_)=>(st,len,power' size (2*s1+n1) (2*s1+n1+n1+n) size))
   JP lo n
 |_=>JP lo n
def RN (size b9 lo n:Nat):StateT SortSt Sem (ForInStep (Option Unit×Nat)):=
 if n<b9 then (do
  liftM (rule "list.sort.binary-insertion")
  let b <- binarySort' lo (min (size-lo) b9) n
  if (!b)=true then pure (.done (some (),lo)) else JB size lo (min (size-lo) b9))
 else JB size lo n
def RB (size b9:Nat)(c:Option Unit×Nat):StateT SortSt Sem (ForInStep (Option Unit×Nat)):=
 if c.2 >= size then pure (.done (none,c.2)) else do
  let x <- countRun' c.2 (size-c.2)
  match x with
  |some n=>RN size b9 c.2 n
  |_=>pure (.done (some (),c.2))
def FI (p:Array Rn):Nat:=if Option.any (fun x=>decide (x<p[p.size-2+1]?.elim 0 fun x=>x.snd.fst)) (if p.size-2 > 0 then Option.map (fun x=>x.snd.fst) p[p.size-2-1]? else none)=true then p.size-2-1 else p.size-2
def FB:StateT SortSt Sem (ForInStep (Option Unit×Unit)):=do
 let g <- get
 if (pendingOf g).size<=1 then pure (.done (none,()))
 else do
  let b <- mergeAt' (FI (pendingOf g))
  if (!b)=true then pure (.done (some (),())) else pure (.yield (none,()))
def Km:sortRuns'=(do
 let g <- get
 let c <- forIn [0:(arrOf g).size] ((none,0):Option Unit×Nat) fun _ c=>RB (arrOf g).size (minRun' (arrOf g).size (arrOf g).size 0) c
 match c.1 with
 |some r=>pure r
 |none=>do
  let c <- forIn [0:(arrOf g).size] ((none,()):Option Unit×Unit) fun _ _=>FB
  match c.1 with
  |some r=>pure r
  |none=>pure ()):=by
 rw[sortRuns'_eq]
 refine jC_ (bind _) (funext fun g=>?_)
 refine congr (jC_ bind (jC_ (forIn _ _) (funext fun _=>funext fun c=>?_))) (funext fun c=>?_)
 ·unfold RB
  refine jC_ (ite _ _) (jC_ (bind _) (funext fun x=>?_))
  cases x with
  |none=>rfl
  |some n=>
   dsimp only
   unfold RN
   by_cases hn:n<minRun' (arrOf g).size (arrOf g).size 0
   ·rw[if_pos hn,if_pos hn]
    refine jC_ (bind _) (funext fun _=>jC_ (bind _) (funext fun b=>jC_ (ite _ _) ?_))
    unfold JB
    refine jC_ (bind _) (funext fun g'=>?_)
    try dsimp only
    rcases (pendingOf g').back? with _|⟨s1,n1,q⟩
    ·rfl
    ·try dsimp only
     refine congr (jC_ bind (jC_ (forIn _ _) (funext fun _=>funext fun _=>?_))) (funext fun c=>?_)
     ·unfold JM
      refine jC_ (bind _) (funext fun g2=>?_)
      try dsimp only
      rcases (if (pendingOf g2).size > 1 then (pendingOf g2)[(pendingOf g2).size-2]? else none) with _|⟨a,b,c⟩
      ·rfl
      ·rfl
     ·obtain⟨r,u⟩:=c
      cases r<;>rfl
   ·rw[if_neg hn,if_neg hn]
    unfold JB
    refine jC_ (bind _) (funext fun g'=>?_)
    try dsimp only
    rcases (pendingOf g').back? with _|⟨s1,n1,q⟩
    ·rfl
    ·try dsimp only
     refine congr (jC_ bind (jC_ (forIn _ _) (funext fun _=>funext fun _=>?_))) (funext fun c=>?_)
     ·unfold JM
      refine jC_ (bind _) (funext fun g2=>?_)
      try dsimp only
      rcases (if (pendingOf g2).size > 1 then (pendingOf g2)[(pendingOf g2).size-2]? else none) with _|⟨a,b,c⟩
      ·rfl
      ·rfl
     ·obtain⟨r,u⟩:=c
      cases r<;>rfl
 ·obtain⟨r,lo⟩:=c
  cases r with
  |some r=>rfl
  |none=>
   dsimp only
   refine congr (jC_ bind (jC_ (forIn _ _) (funext fun _=>funext fun c=>?_))) (funext fun c=>?_)
   ·rfl
   ·obtain⟨r,u⟩:=c
    cases r<;>rfl
section
variable {prog:Program} {w:World} {A:Around} {E:Value->Shared->Prop} {s:Shared} {a₀:Array Keyed} {κ:KeyKind} {kd:SortKind}
def Ch (κ:KeyKind)(xs:Array Keyed):List Rn->Nat->Nat->Prop
 |[],a,b=>a=b
 |p::r,a,b=>p.1=a/\1<=p.2.1/\SO κ xs a (a+p.2.1)/\Ch κ xs r (a+p.2.1) b
def Ch.le {xs:Array Keyed}:∀{l:List Rn} {a b:Nat},Ch κ xs l a b->a+l.length<=b
 |[],a,b,h=>rV h
 |p::r,a,b,h=>by have:=Ch.le h.2.2.2;have:=h.2.1;simp only[jT_];lia
def Ch.append {xs:Array Keyed}:∀{l l':List Rn} {a b:Nat},Ch κ xs (l++l') a b ↔ ∃c,Ch κ xs l a c/\Ch κ xs l' c b
 |[],l',a,b=>⟨fun h=>⟨a,rfl,h⟩,fun ⟨c,e,h⟩=>by cases e;exact h⟩
 |p::r,l',a,b=>⟨fun ⟨h1,h2,h3,h4⟩=>by obtain⟨c,g1,g2⟩:=Ch.append.mp h4;exact⟨c,⟨h1,h2,h3,g1⟩,g2⟩,fun ⟨c,⟨h1,h2,h3,h4⟩,h5⟩=>⟨h1,h2,h3,Ch.append.mpr ⟨c,h4,h5⟩⟩⟩
def Ch.congr {xs ys:Array Keyed}:∀{l:List Rn} {a b:Nat},(∀i,a<=i->i<b->ys[i]?=xs[i]?)->Ch κ xs l a b->Ch κ ys l a b
 |[],a,b,_,h=>h
 |p::r,a,b,e,⟨h1,h2,h3,h4⟩=>⟨h1,h2,Hu (fun i g1 g2=>e i g1 (by have:=h4.le;lia)) h3,h4.congr (fun i g1 g2=>e i s!"" g2)⟩
def Ch.same {xs:Array Keyed}:∀{l l':List Rn} {a b:Nat},l.map (fun p=>(p.1,p.2.1))=l'.map (fun p=>(p.1,p.2.1))->Ch κ xs l a b->Ch κ xs l' a b
 |[],[],_,_,_,h=>h
 |[],_::_,_,_,e,_=>by cases e
 |_::_,[],_,_,e,_=>by cases e
 |p::r,p'::r',a,b,e,⟨h1,h2,h3,h4⟩=>by
  simp only[jZ_,xG_,vb]at e
  obtain⟨⟨e1,e2⟩,e3⟩:=e
  refine⟨e1 ▸ h1,e2 ▸ h2,e2 ▸ h3,?_⟩
  rw[<-e2]
  exact h4.same e3
def Lu {st:SortSt}   (hO:LtOk kd κ a₀ prog w A E s)(hB:SB kd a₀ st)(hC:Ch κ (arrOf st) (pendingOf st).toList 0 m)(hm:m<=a₀.size)(hi:i+1<(pendingOf st).size)
  (h:∀ah,SB kd a₀ ah->Ch κ (arrOf ah) (pendingOf ah).toList 0 m->(pendingOf ah).size+1=(pendingOf st).size->Out 0 m (arrOf st) (arrOf ah)->Q true ah):
  wpS (model prog w) A E s (mergeAt' i) Q st:=by
 have hl:(pendingOf st).toList.length=(pendingOf st).size:=j6_
 have e0:(pendingOf st).toList=(pendingOf st).toList.take i++(pendingOf st)[i]::(pendingOf st)[i+1]::(pendingOf st).toList.drop (i+2):=by
  have h1:=(q9_ i (pendingOf st).toList).symm
  rw[q8_ s!"",q8_ s!""]at h1
  exact h1
 obtain⟨l1,bE⟩:∃l,l=(pendingOf st).toList.take i:=⟨_,rfl⟩
 obtain⟨l2,bS⟩:∃l,l=(pendingOf st).toList.drop (i+2):=⟨_,rfl⟩
 obtain⟨⟨sa,na,pw⟩,hx⟩:∃p,p=(pendingOf st)[i]:=⟨_,rfl⟩
 obtain⟨⟨sb,nb,q⟩,hy⟩:∃p,p=(pendingOf st)[i+1]:=⟨_,rfl⟩
 rw[<-bE,<-bS,<-hx,<-hy]at e0
 have lC:l1.length=i:=by rw[bE,jx_];lia
 rw[e0]at hC
 obtain⟨c,c1,c2,c3,c4,c5,c6,c7,c8⟩:=Ch.append.mp hC
 dsimp only at c2 c3 c4 c5 c6 c7 c8
 subst c2
 subst c5
 have aS:=c8.le
 have hle1:=c1.le
 refine OG hO hB (by rw[hx];exact qA_ s!"") (by rw[hy];exact qA_ hi) rfl c3 c6 s!"" c4 c7 (fun ah g1 g2 g3 g4=>?_)
 have e1:(pendingOf ah).toList=l1++(sa,na+nb,pw)::l2:=by
  rw[g2,Array.toList_eraseIdxIfInBounds,rF,e0,su _ _ s!"",lC,qb_,zl_,List.eraseIdx_append_of_length_le s!"",lC,show i+1-i=1 by lia]
  rfl
 refine h ah g1 ?_ ?_ (fun i hi=>g3 i s!"")
 ·rw[e1]
  refine Ch.append.mpr ⟨sa,c1.congr (fun i _ h2=>g3 i s!""),rfl,?_,?_,?_⟩
  ·show 1<=na+nb
   lia
  ·rw[show sa+(na+nb)=sa+na+nb by lia];exact g4
  ·show Ch κ (arrOf ah) l2 (sa+(na+nb)) m
   rw[show sa+(na+nb)=sa+na+nb by lia]
   exact c8.congr (fun i h1 _=>g3 i s!"")
 ·have l1':(pendingOf ah).toList.length=(l1++(sa,na+nb,pw)::l2).length:=by rw[e1]
  have l2':(pendingOf st).toList.length=(l1++(sa,na,pw)::(sa+na,nb,q)::l2).length:=by rw[e0]
  simp only[jk_,jT_,j6_]at l1' l2'
  lia
def W0 {st:SortSt}{lo n:Nat}  (hB:SB kd a₀ st)(hC:Ch κ (arrOf st) (pendingOf st).toList 0 lo)(hn:1<=n)(hs:SO κ (arrOf st) lo (lo+n))
  (h:∀ah,SB kd a₀ ah->Ch κ (arrOf ah) (pendingOf ah).toList 0 (lo+n)->Q (.yield (none,lo+n)) ah):wpS (model prog w) A E s (JP lo n) Q st:=by
 unfold JP
 refine jA_ (zE_ (jK_ (h _ ⟨hB.perm,hB.kind,hB.failed⟩ ?_)))
 show Ch κ (arrOf st) ((pendingOf st).push (lo,n,0)).toList 0 (lo+n)
 rw[tP]
 exact Ch.append.mpr ⟨lo,hC,rfl,hn,hs,rfl⟩
def W2 {st:SortSt}{lo n:Nat}  (hO:LtOk kd κ a₀ prog w A E s)(hB:SB kd a₀ st)(hC:Ch κ (arrOf st) (pendingOf st).toList 0 lo)(hn:1<=n)(hz:lo+n<=a₀.size)(hs:SO κ (arrOf st) lo (lo+n))
  (h:∀ah,SB kd a₀ ah->Ch κ (arrOf ah) (pendingOf ah).toList 0 (lo+n)->Q (.yield (none,lo+n)) ah):wpS (model prog w) A E s (JB a₀.size lo n) Q st:=by
 unfold JB
 refine jA_ (wpS_get ?_)
 rcases (pendingOf st).back? with _|⟨s1,n1,q⟩
 ·exact W0 hB hC hn hs h
 ·dsimp only
  generalize power' a₀.size (2*s1+n1) (2*s1+n1+n1+n) a₀.size=pw
  refine jA_ (xZ_ (qI_ (I:=fun _ c ah=>c=(none,())/\SB kd a₀ ah/\Ch κ (arrOf ah) (pendingOf ah).toList 0 lo/\Out 0 lo (arrOf st) (arrOf ah))
   (Q:=fun c ah=>c=(none,())/\SB kd a₀ ah/\Ch κ (arrOf ah) (pendingOf ah).toList 0 lo/\Out 0 lo (arrOf st) (arrOf ah)) ?step (fun _ _ hh=>hh) ⟨rfl,hB,hC,Out.refl _ _ _⟩) ?post)
  case step=>
   rintro x c ah _ _ ⟨rfl,g1,g2,g3⟩
   unfold JM
   refine jA_ (wpS_get ?_)
   rcases hh:(if (pendingOf ah).size > 1 then (pendingOf ah)[(pendingOf ah).size-2]? else none) with _|⟨a,b,older⟩
   ·exact jK_ ⟨rfl,g1,g2,g3⟩
   ·dsimp only
    have lr:(pendingOf ah).size > 1:=by
     by_cases hq:(pendingOf ah).size > 1
     ·exact hq
     ·rw[if_neg hq]at hh;cases hh
    split
    ·exact jK_ ⟨rfl,g1,g2,g3⟩
    ·refine jA_ (Lu hO g1 g2 s!"" s!"" (fun aP k1 k2 k3 k4=>?_))
     rw[if_neg (by simp)]
     exact jK_ ⟨rfl,k1,k2,g3.trans k4⟩
  case post=>
   rintro c ah ⟨rfl,g1,g2,g3⟩
   dsimp only
   refine jA_ (zE_ ?_)
   refine W0 ⟨g1.perm,g1.kind,g1.failed⟩ ?_ hn ?_ h
   ·refine Ch.same ?_ g2
    show _=((pendingOf ah).modify _ _).toList.map _
    rw[Array.toList_modify]
    apply qK_
    intro i
    rw[je_,je_,List.getElem?_modify]
    by_cases hi:(pendingOf ah).size-1=i
    ·simp only[if_pos hi];cases (pendingOf ah).toList[i]?<;>rfl
    ·simp only[if_neg hi];cases (pendingOf ah).toList[i]?<;>rfl
   ·exact Hu (fun i h1 h2=>g3 i s!"") hs
def Mz {st:SortSt}  (hO:LtOk kd κ a₀ prog w A E s)(hB:SB kd a₀ st)(hp:pendingOf st = #[])
  (h:∀ah,SB kd a₀ ah->SO κ (arrOf ah) 0 a₀.size->Q () ah):wpS (model prog w) A E s sortRuns' Q st:=by
 rw[Km]
 refine jA_ (wpS_get ?_)
 rw[hB.size]
 generalize minRun' a₀.size a₀.size 0=mr
 refine jA_ (xZ_ (qI_ (I:=fun x c ah=>SB kd a₀ ah/\∃lo,c=(none,lo)/\lo<=a₀.size/\(x<=lo\/a₀.size<=lo)/\Ch κ (arrOf ah) (pendingOf ah).toList 0 lo)
  (Q:=fun c ah=>SB kd a₀ ah/\c=(none,a₀.size)/\Ch κ (arrOf ah) (pendingOf ah).toList 0 a₀.size) ?step ?fin ⟨hB,0,rfl,by lia,by lia,by rw[hp];rfl⟩) ?post)
 case fin=>
  rintro c ah ⟨g1,lo,rfl,g2,g3,g4⟩
  obtain rfl:lo=a₀.size:=by lia
  exact⟨g1,rfl,g4⟩
 case step=>
  rintro x c ah _ hx ⟨g1,lo,rfl,g2,g3,g4⟩
  unfold RB
  dsimp only
  by_cases bu:lo >= a₀.size
  ·rw[if_pos bu]
   obtain rfl:lo=a₀.size:=by lia
   exact jK_ ⟨g1,rfl,g4⟩
  ·rw[if_neg bu]
   have aV:∀n,1<=n->lo+n<=a₀.size->∀aP,SB kd a₀ aP->Ch κ (arrOf aP) (pendingOf aP).toList 0 (lo+n)->SB kd a₀ aP/\∃mH,((none,lo+n):Option Unit×Nat)=(none,mH)/\mH<=a₀.size/\(x+1<=mH\/a₀.size<=mH)/\Ch κ (arrOf aP) (pendingOf aP).toList 0 mH :=
    fun n h1 h2 aP k1 k2=>⟨k1,lo+n,rfl,h2,by lia,k2⟩
   refine jA_ (Mu hO s!"" s!"" g1 (fun m aP k1 k2 k3 k4=>?_))
   have k5:Ch κ (arrOf aP) (pendingOf aP).toList 0 lo:=by rw[k1.pe];exact g4.congr (fun i _ h2=>k1.out i (.inl h2))
   dsimp only
   unfold RN
   by_cases hm:m<mr
   ·rw[if_pos hm]
    refine jA_ (Gq (jA_ (Kk hO s!"" s!"" k1.b k4 (fun bR q1 q2=>?_))))
    rw[if_neg (by simp)]
    have q3:Ch κ (arrOf bR) (pendingOf bR).toList 0 lo:=by rw[q1.pe];exact k5.congr (fun i _ h2=>q1.out i (.inl h2))
    exact W2 hO q1.b q3 s!"" s!"" q2 (aV _ s!"" s!"")
   ·rw[if_neg hm]
    exact W2 hO k1.b k5 k2 s!"" k4 (aV _ k2 s!"")
 case post=>
  rintro c ah ⟨g1,rfl,g4⟩
  dsimp only
  have aS:=g4.le
  refine jA_ (xZ_ (qI_ (I:=fun x c aP=>c=(none,())/\SB kd a₀ aP/\Ch κ (arrOf aP) (pendingOf aP).toList 0 a₀.size/\(pendingOf aP).size+x<=a₀.size)
   (Q:=fun c aP=>c=(none,())/\SB kd a₀ aP/\Ch κ (arrOf aP) (pendingOf aP).toList 0 a₀.size/\(pendingOf aP).size<=1) ?step2 ?fin2 ⟨rfl,g1,g4,by simpa using aS⟩) ?post2)
  case fin2=>
   rintro c aP ⟨rfl,k1,k2,k3⟩
   exact⟨rfl,k1,k2,by lia⟩
  case step2=>
   rintro x c aP _ hx ⟨rfl,k1,k2,k3⟩
   unfold FB
   refine jA_ (wpS_get ?_)
   by_cases h1:(pendingOf aP).size<=1
   ·rw[if_pos h1]
    exact jK_ ⟨rfl,k1,k2,h1⟩
   ·rw[if_neg h1]
    have hFI:FI (pendingOf aP)+1<(pendingOf aP).size:=by
     unfold FI
     repeat' split
     all_goals lia
    refine jA_ (Lu hO k1 k2 (jg_ _) hFI (fun bR q1 q2 q3 q4=>?_))
    rw[if_neg (by simp)]
    exact jK_ ⟨rfl,q1,q2,by lia⟩
  case post2=>
   rintro c aP ⟨rfl,k1,k2,k3⟩
   refine jK_ (h aP k1 ?_)
   have hl:(pendingOf aP).toList.length<=1:=by simpa using k3
   match aN:(pendingOf aP).toList,hl with
   |[],_=>rw[aN]at k2;intro i j h1 h2 h3;rw[<-show 0=a₀.size from k2]at h3;lia
   |[p],_=>
    rw[aN]at k2
    obtain⟨c1,c2,c3,c4⟩:=k2
    have e:0+p.2.1=a₀.size:=c4
    rw[e]at c3
    exact c3
end
end aL
namespace HT
def lexLt_irr2:∀{xs:α2},HT.lexLt xs xs=false
 |[]=>rfl
 |x::xs=>by rw[HT.lexLt_cons,if_pos rfl];exact lexLt_irr2
def lexLt_trans:∀{xs ys zs:α2},lexLt xs ys=true->lexLt ys zs=true->lexLt xs zs=true
 |[],[],_,h,_=>by cases h
 |_::_,[],_,h,_=>by cases h
 |_,_::_,[],_,h=>by cases h
 |[],_::_,_::_,_,_=>rfl
 |x::xs,y::ys,z::zs,h,g=>by
  rw[lexLt_cons]at h g ⊢
  by_cases e1:x=y
  ·rw[if_pos e1]at h
   by_cases e2:y=z
   ·rw[if_pos e2]at g;rw[if_pos (e1.trans e2)];exact lexLt_trans h g
   ·rw[if_neg e2]at g;rw[if_neg (e1 ▸ e2),e1];exact g
  ·rw[if_neg e1]at h
   by_cases e2:y=z
   ·rw[if_neg (e2 ▸ e1),<-e2];exact h
   ·rw[if_neg e2]at g
    have:=qv_ h
    have:=qv_ g
    rw[if_neg s!""]
    exact j4_ s!""
def lexLt_total:∀{xs ys:α2},lexLt xs ys=false->lexLt ys xs=false->xs=ys
 |[],[],_,_=>rfl
 |[],_::_,h,_=>by cases h
 |_::_,[],_,h=>by cases h
 |x::xs,y::ys,h,g=>by
  rw[lexLt_cons]at h g
  by_cases e:x=y
  ·rw[if_pos e]at h;rw[if_pos e.symm]at g;rw[e,lexLt_total h g]
  ·rw[if_neg e]at h;rw[if_neg (qn_ e)]at g
   have:=xv_ h
   have:=xv_ g
   lia
end HT
namespace aL
open PySem PyProof.Rows L2
def pblt (x y:Int×α2):Bool:=if x.1=y.1 then HT.lexLt x.2 y.2 else decide (x.1<y.1)
def Jv  (h:pblt a b=true)(g:pblt b c=true):pblt a c=true:=by
 unfold pblt at *
 by_cases e1:a.1=b.1
 ·rw[if_pos e1]at h
  by_cases e2:b.1=c.1
  ·rw[if_pos e2]at g;rw[if_pos (e1.trans e2)];exact HT.lexLt_trans h g
  ·rw[if_neg e2]at g;rw[if_neg (e1 ▸ e2),e1];exact g
 ·rw[if_neg e1]at h
  by_cases e2:b.1=c.1
  ·rw[if_neg (e2 ▸ e1),<-e2];exact h
  ·rw[if_neg e2]at g
   have:=qv_ h
   have:=qv_ g
   rw[if_neg s!""]
   exact j4_ s!""
def Jw  (h:pblt a b=false)(g:pblt b a=false):a=b:=by
 unfold pblt at *
 by_cases e:a.1=b.1
 ·rw[if_pos e]at h;rw[if_pos e.symm]at g
  exact z6_ e (HT.lexLt_total h g)
 ·rw[if_neg e]at h;rw[if_neg (qn_ e)]at g
  have:=xv_ h
  have:=xv_ g
  lia
def SE  (h:pblt a c=true):pblt a b=true\/pblt b c=true:=by
 cases e:pblt a b with
 |true=>exact .inl rfl
 |false=>
  cases e2:pblt b a with
  |true=>exact .inr (Jv e2 h)
  |false=>have:=Jw e e2;subst this;exact .inr h
def KeyV (K:α3)(H:Hp)(v:Value)(n:Int)(ns:α2):Prop:=∃t u,v=.ref t/\SqT K H t [.int n,.ref u]/\SqT K H u (ns.map V.int)
open Classical in
noncomputable def kS (K:α3)(H:Hp):vF where
 α:=Int×α2
 blt:=pblt
 irrefl:=fun a=>by unfold pblt;rw[if_pos rfl];exact HT.lexLt_irr2
 trans:=fun _ _ _=>Jv
 negTrans:=fun _ _ _=>SE
 total:=fun _ _=>Jw
 keyOf:=fun v=>if h:∃p:Int×α2,KeyV K H v p.1 p.2 then some h.choose else none
 dflt:=(0,[])
section
variable {X:Cx} {af:α7} {σ:L2.St} {H:Hp} {s:Shared}
def Im:∀{ns ms:α2},ns.map V.int=ms.map V.int->ns=ms
 |[],[],_=>rfl
 |[],_::_,h=>by cases h
 |_::_,[],h=>by cases h
 |n::ns,m::ms,h=>by
  simp only[jZ_,xG_,V.int.injEq]at h
  rw[h.1,Im h.2]
def KeyV.inj (I:Inv X af σ H s)    (h:KeyV X.K H v n ns)(g:KeyV X.K H v m ms):n=m/\ns=ms:=by
 obtain⟨t,u,rfl,h1,h2⟩:=h
 obtain⟨t',u',e,g1,g2⟩:=g
 cases e
 have e:=I.tuple_inj h1 g1
 simp only[xG_,V.int.injEq,V.ref.injEq,and_true]at e
 obtain⟨rfl,rfl⟩:=e
 exact⟨rfl,Im (I.tuple_inj h2 g2)⟩
def SF (I:Inv X af σ H s)    (h:KeyV X.K H x.1 n ns):KE (kS X.K H) x=(n,ns):=by
 have hex:∃p:Int×α2,KeyV X.K H x.1 p.1 p.2:=⟨(n,ns),h⟩
 have e:(kS X.K H).keyOf x.1=some hex.choose:=dif_pos hex
 have e2:=KeyV.inj I hex.choose_spec h
 unfold KE
 rw[e]
 exact z6_ e2.1 e2.2
def Vq (I:Inv X af σ H s)   (hu:A.units+6<cLine)    (hv:KeyV X.K H v n ns)(hw:KeyV X.K H u m ms)  (h:Q (pblt (n,ns) (m,ms)) s):
  wpAny (model X.prog X.w) A (keyLt' (tuples' true) v u) Q E s:=by
 obtain⟨a,ta,rfl,ha,hta⟩:=hv
 obtain⟨b,tb,rfl,hb,lD⟩:=hw
 obtain⟨its,r1,⟨o1,q1,c1,n1,d1⟩,_⟩:=I.tuple ha
 obtain⟨aK,r2,⟨o2,q2,c2,n2,d2⟩,_⟩:=I.tuple hb
 obtain⟨jts,k1,p1,_⟩:=I.tuple hta
 obtain⟨jts2,k2,p2,_⟩:=I.tuple lD
 have i1:IntsAre jts.toArray.toList ns:=intsAre_of k1
 have i2:IntsAre jts2.toArray.toList ms:=intsAre_of k2
 have eqT:=fun (bb:Bool) (he:EqD X.K H 2 (.ref ta) (.ref tb) bb)=>(EqD.at (x:=V.ref ta) (y:=V.ref tb) (u:=Value.ref ta) (v:=Value.ref tb) I 2 A s!"" rfl rfl he).1
 have hed:=EqD.ints (K:=X.K) (H:=H) (a:=ta) (c:=tb) (xs:=ns) (ys:=ms) (.inr ⟨hta,lD⟩) 1
 cases r1 with
 |cons e1 r1'=>cases r1' with
  |cons e2 r1''=>cases r1'';cases r2 with
   |cons e3 r2'=>cases r2' with
    |cons e4 r2'' =>
     cases r2''
     obtain⟨t1,rfl⟩:=e1
     obtain⟨t2,rfl⟩:=e3
     cases e2
     cases e4
     refine wH q1 d1 q2 d2 ?_
     simp only[zR_,sZ]
     refine uc (wpAny_eqBool_int (uB (fun e=>?_) (fun e=>?_)))
     ·have mI:n=m:=by simpa using e
      refine um (uc (eqT _ hed _ _ _ _ (uB (fun e'=>?_) (fun e'=>?_))))
      ·have iz:ns=ms:=qv_ e'
       refine um (wB ?_)
       have:pblt (n,ns) (m,ms)=decide (([Value.int n t1,Value.ref ta].toArray).size<([Value.int m t2,Value.ref tb].toArray).size):=by
        subst mI;subst iz
        unfold pblt
        rw[if_pos rfl,HT.lexLt_irr2];rfl
       rw[<-this];exact h
      ·have iz:ns≠ms:=xv_ e'
       refine uC (wC _ _ ?_)
       have:pblt (n,ns) (m,ms)=HT.lexLt ns ms:=by unfold pblt;rw[if_pos mI]
       rw[this]at h
       exact HT.lt_tupInts p1 p2 i1 i2 s!"" h
     ·have mI:n≠m:=by simpa using e
      refine uC ?_
      show wpAny _ _ (oneLt' true _ _) _ _ _
      refine oneLt_int ?_
      have:pblt (n,ns) (m,ms)=decide (n<m):=by unfold pblt;rw[if_neg mI]
      rw[<-this];exact h
def ltOk (I:Inv X af σ H s)   (hu:A.units+6<cLine)  (hk:∀x∈a₀.toList,∃n ns,KeyV X.K H x.1 n ns):LtOk (tuples' true) (kS X.K H) a₀ X.prog X.w A E s:=by
 intro x y st Q hx hy mh h
 obtain⟨n,ns,h1⟩:=hk x hx
 obtain⟨m,ms,h2⟩:=hk y hy
 rw[SF I h1,SF I h2]at h
 rw[lt'_eq]
 refine jA_ (wpS_get ?_)
 rw[mh]
 refine jA_ (wpS_lift (xI_ (Vq I hu h1 h2 ⟨rfl,?_⟩)))
 exact jK_ h
end
end aL
namespace aL
open PySem PyProof.Rows L2
def MA {α β:Type}{f:α->β}:∀{k l:List β},k.Perm l->∀m:List α,k=m.map f->∃m':List α,m'.Perm m/\l=m'.map f:=by
 intro k l h
 induction h with
 |nil=>intro m e;cases m with
  |nil=>exact⟨[],.refl _,rfl⟩
  |cons=>cases e
 |cons x _ ih=>intro m e;cases m with
  |nil=>cases e
  |cons y m=>
   simp only[jZ_,xG_]at e
   obtain⟨rfl,e⟩:=e
   obtain⟨m',p,rfl⟩:=ih m e
   exact⟨y::m',p.cons y,rfl⟩
 |swap x y l=>intro m e;cases m with
  |nil=>cases e
  |cons a m=>cases m with
   |nil=>cases e
   |cons b m=>
    simp only[jZ_,xG_]at e
    obtain⟨rfl,rfl,rfl⟩:=e
    exact⟨b::a::m,.swap a b m,rfl⟩
 |trans _ _ ih1 ih2=>
  intro m e
  obtain⟨m1,p1,e1⟩:=ih1 m e
  obtain⟨m2,p2,e2⟩:=ih2 m1 e1
  exact⟨m2,p2.trans p1,e2⟩
abbrev Wd:=Addr×α2
def wv (ws:List Wd):List V:=ws.map fun w=>V.ref w.1
def wu (ws:List Wd):List Value:=ws.map fun w=>Value.ref w.1
def Q5:∀ws:List Wd,Vals (wv ws) (wu ws)
 |[]=>.nil
 |_::r=>.cons rfl (Q5 r)
def FN:∀{ts:List Addr} {us:List Value},Vals (ts.map V.ref) us->us=ts.map Value.ref
 |[],_,h=>by cases h;rfl
 |t::ts,_,h=>by
  cases h with
  |cons e r=>
   have e':_=Value.ref t:=e
   rw[FN r,e'];rfl
def kw (w:Wd):Int×α2:=((w.2.length:Int),w.2)
def Srt (os:List Wd):Prop:=os.Pairwise fun p q=>pblt (kw q) (kw p)=false
def WsOk (K:α3)(H:Hp)(ws:List Wd):Prop:=∀w∈ws,SqT K H w.1 (w.2.map V.int)
def TsOk (K:α3)(H:Hp)(ts:List Addr)(ws:List Wd):Prop:=∀(j:Nat) t w,ts[j]?=some t->ws[j]?=some w->SqT K H t [.int w.2.length,.ref w.1]
section
variable {X:Cx} {af:α7} {σ:L2.St} {H H0:Hp} {s:Shared} {A:Around} {E:Value->Shared->Prop} {ws:List Wd} {ts:List Addr} {a kT:Addr} {e1:Nat} {P:wg->Shared->Prop} {f:Value}
def Turn (X:Cx)(af:α7)(σ:L2.St)(A:Around)(f:Value)(ws:List Wd)(H0:Hp):Prop:=∀w∈ws,∀(H':Hp) (s':Shared),Inv X af σ H' s'->Same H0 H' ->
 wpAny (model X.prog X.w) A (call f [.ref w.1]) (EP X af σ (fun k iy=>∃t,k=.ref t/\Same H' iy/\SqT X.K iy t [.int w.2.length,.ref w.1])) (fun _ _=>False) s'
abbrev Emp (a:Addr)(e1:Nat):L2.HO:=.ext fun h=>h.get? a=some (seqObj "list" #[] e1)
def SH (X:Cx)(af:α7)(σ:L2.St)(H0:Hp)(a:Addr)(ws:List Wd)(P:wg->Shared->Prop):Prop:=
 ∀s' H' os,Inv X af σ H' s'->Same H0 H'->H' a=some (.lst (wv os))->os.Perm ws->Srt os->P (.done (.ret .none)) s'
def W3 {st:SortSt}{os:List Wd}(I:Inv X af σ H s)(ha:H a=some (Emp a e1))(hk:H kT=some (.lst (ts.map V.ref)))(lE:kT≠a)(h0:Same H0 H)(hn:H0 a=none)(lF:H0 kT=none)(hz:os.length<=sizeLine)
  (harr:(arrOf st).map (·.2)=(wu os).toArray) (hf:failedOf st=none) (hp:os.Perm ws) (hs:Srt os) (h:SH X af σ H0 a ws P):
  wpAny (model X.prog X.w) A (ksk_tail a false e1 (.ref kT) st) P E s:=by
 obtain⟨z,its,n,r,el,e⟩:=I.lstM hk
 have I1:Inv X af σ (upd H kT (.lst [])) {s with heap:=s.heap.update kT (Obj.mapSeq fun _=>(#[]:Array Value)),toks:=s.toks}:=I.lset (its':=[]) (f:=fun _ => #[]) hk e rfl .nil (jX_ _)
 have lG:upd H kT (.lst []) a=some (Emp a e1):=by rw[Ah (qn_ lE)];exact ha
 obtain⟨e2,_,_⟩:=I1.hok a _ lG
 unfold ksk_tail
 refine jf_ (listUpdate_at e rfl ?_ (by rw[jp_,<-el];exact z) (jX_ _))
 refine jf_ (wpAny_letGo ?_)
 refine jf_ (seqEpoch_at e2 rfl ?_)
 simp only[jY_,xb_]
 rw[harr]
 refine jf_ (listUpdate_at e2 rfl ?_ (jX_ _) (by rw[jp_];simp only[wu,ja_];lia))
 rw[hf]
 simp only[bne_self_eq_false,jY_,xb_]
 have q:=x5_ (f:=fun _=>(wu os).toArray) e2
 have I2:Inv X af σ (upd (upd H kT (.lst [])) a (.lst (wv os))) {s with heap:=(s.heap.update kT (Obj.mapSeq fun _=>(#[]:Array Value))).update a (Obj.mapSeq fun _=>(wu os).toArray),toks:=s.toks}:=by
  refine I1.write (x:=a) (e:=a) (by rw[lG];exact trivial) (.inl rfl) (fun b' u hb hu=>(qa_ _ _ (qn_ hb)).trans hu) ⟨_,q⟩ ⟨by simp only[wv,ja_];exact hz,wu os,_,Q5 os,q⟩
 exact ju_ (h _ _ os I2 ((h0.over lF).over hn) Ab hp hs)
def Jx (hl:ts.length=ws.length):((ts.map Value.ref).toArray.zip (wu ws).toArray).toList=(ts.zip ws).map fun p=>(Value.ref p.1,Value.ref p.2.1):=by
 rw[ksk_zip,zQ_]
 unfold wu
 rw[List.zip_map]
 rfl
def Q6 (hl:ts.length=ws.length)(hT:TsOk X.K H ts ws)  (hp:p∈ts.zip ws):SqT X.K H p.1 [.int p.2.2.length,.ref p.2.1]:=by
 obtain⟨j,hj,e⟩:=x1_.mp hp
 rw[List.getElem_zip]at e
 rw[zO_]at hj
 subst e
 exact hT j _ _ (jh_ s!"") (jh_ s!"")
def Q7 (I:Inv X af σ H s):∀(ts:List Addr) (ws:List Wd),ts.length=ws.length->(∀p∈ts.zip ws,SqT X.K H p.1 [.int p.2.2.length,.ref p.2.1])->∃fs:List Value,wD s.heap (ts.map Value.ref) fs/\fs.length=ts.length/\∀v∈fs,∃n t,v=.int n t
 |[],[],_,_=>⟨[],trivial,rfl,fun v hv=>by cases hv⟩
 |t::ts,w::ws,hl,h=>by
  obtain⟨fs,h1,h2,h3⟩:=Q7 I ts ws (by simpa using hl) (fun p hp=>h p (jl_ _ hp))
  have h4:SqT X.K H t [.int w.2.length,.ref w.1]:=h (t,w) jn_
  obtain⟨its,r,⟨o,ho,hc,n,hd⟩,_⟩:=I.tuple h4
  cases r with
  |cons e1 r' =>
   obtain⟨tk,rfl⟩:=e1
   refine⟨.int w.2.length tk::fs,PySem.W.KatTups.cons ho hc hd rfl h1,by simp[h2],fun v hv=>?_⟩
   rcases jB_.mp hv with rfl|hv
   ·exact⟨_,_,rfl⟩
   ·exact h3 v hv
def Xq (I:Inv X af σ H s)(hu:A.units+6<cLine)(ha:H a=some (Emp a e1))(hk:H kT=some (.lst (ts.map V.ref)))(lE:kT≠a)(h0:Same H0 H)(hn:H0 a=none)(lF:H0 kT=none)(hz:ws.length<=sizeLine)
  (hl:ts.length=ws.length) (hW:WsOk X.K H ws) (hT:TsOk X.K H ts ws) (h:SH X af σ H0 a ws P):
  wpAny (model X.prog X.w) A (ksk_end a false (wu ws).toArray e1 (.ref kT) (ts.map Value.ref).toArray) P E s:=by
 have hsz:(wu ws).toArray.size=ws.length:=by simp[wu]
 have cy:=fun p hp=>Q6 (X:=X) (H:=H) hl hT (p:=p) hp
 have fin:∀st:SortSt,(arrOf st).Perm ((ts.map Value.ref).toArray.zip (wu ws).toArray)->failedOf st=none->SO (kS X.K H) (arrOf st) 0 (arrOf st).size->wpAny (model X.prog X.w) A (ksk_tail a false e1 (.ref kT) st) P E s:=by
  intro st hp hf hs
  have lj:=(x0_.mp hp).symm
  rw[Jx hl]at lj
  obtain⟨m',p1,e⟩:=MA lj _ rfl
  have e2:(arrOf st).map (·.2)=(wu (m'.map (·.2))).toArray:=by
   apply vR
   rw[Array.toList_map,e,zQ_]
   simp[wu]
  have pz:(m'.map (·.2)).Perm ws:=by
   have:=p1.map (·.2)
   rwa [List.map_snd_zip s!""]at this
  refine W3 I ha hk lE h0 hn lF (by rw[pz.length_eq];exact hz) e2 hf pz ?_ h
  have cR:=(Ju (jg_ _)).mp hs
  have e3:seg (arrOf st) 0 (arrOf st).size=(arrOf st).toList:=by unfold seg;rw[uD];exact jW_ (by simp)
  rw[e3,e,xj_]at cR
  unfold Srt
  rw[xj_]
  refine cR.imp_of_mem (fun {x y} hx hy aS=>?_)
  have kx:KeyV X.K H (Value.ref x.1) x.2.2.length x.2.2:=⟨_,_,rfl,cy x (p1.mem_iff.mp hx),hW _ (xz_ (p1.mem_iff.mp hx)).2⟩
  have ky:KeyV X.K H (Value.ref y.1) y.2.2.length y.2.2:=⟨_,_,rfl,cy y (p1.mem_iff.mp hy),hW _ (xz_ (p1.mem_iff.mp hy)).2⟩
  unfold LeK at aS
  rw[SF I (x:=(Value.ref x.1,Value.ref x.2.1)) kx,SF I (x:=(Value.ref y.1,Value.ref y.2.1)) ky]at aS
  exact aS
 unfold ksk_end
 simp only[jY_,xb_]
 by_cases h2:(wu ws).toArray.size<2
 ·rw[if_pos h2,if_pos h2]
  refine jf_ (ju_ ?_)
  rw[StateT.run_pure]
  refine jf_ (ju_ ?_)
  refine fin (SortSt.mk' general' ((ts.map Value.ref).toArray.zip (wu ws).toArray) #[] 7 none) (Array.Perm.refl _) rfl ?_
  intro i j g1 g2 g3
  have g4:j<((ts.map Value.ref).toArray.zip (wu ws).toArray).size:=g3
  rw[Array.size_zip,hsz]at g4
  have:i=j:=by lia
  subst this
  exact qH_ _
 ·rw[if_neg h2,if_neg h2]
  obtain⟨fs,f1,f2,f3⟩:=Q7 I ts ws hl cy
  refine jf_ (wk (T:=.type "int") f1 s!"" (fun v hv=>?_) (by decide) ?_)
  ·obtain⟨n,t,rfl⟩:=f3 v hv
   exact PySem.W.Looks.of_pure rfl
  ·have hz0:((ts.map Value.ref).toArray.zip (wu ws).toArray).size=ws.length:=by simp[wu,hl]
   refine jf_ (qN_ (Mz (κ:=kS X.K H) (kd:=tuples' true) (a₀:=(ts.map Value.ref).toArray.zip (wu ws).toArray) (st:=SortSt.mk' (tuples' true) ((ts.map Value.ref).toArray.zip (wu ws).toArray) #[] 7 none)
    (Q:=fun _ ah=>SB (tuples' true) ((ts.map Value.ref).toArray.zip (wu ws).toArray) ah/\SO (kS X.K H) (arrOf ah) 0 ((ts.map Value.ref).toArray.zip (wu ws).toArray).size)
    (ltOk I hu (fun x hx=>?_)) ⟨Array.Perm.refl _,rfl,rfl⟩ rfl fun ah a1 a2=>⟨a1,a2⟩) ?_ fun _ _ e=>e)
   ·rw[Jx hl]at hx
    obtain⟨p,hp,rfl⟩:=jt_.mp hx
    exact⟨p.2.2.length,p.2.2,_,_,rfl,cy p hp,hW _ (xz_ hp).2⟩
   ·rintro⟨⟨⟩,ah⟩ s' ⟨rfl,hB,hS⟩
    exact fin ah hB.perm hB.failed (by rw[hB.size];exact hS)
def WsOk.same {K:α3}  (h:WsOk K H ws)(e:Same H H'):WsOk K H' ws:=fun w hw=>e.seqT (h w hw)
def SI {K:α3}     (hp:H p=some (.lst zs))(h:SqT K H b xs):SqT K (upd H p o) b xs:=by
 have:TSq K H (upd H p o):=TSq.un (fun xs e=>by rw[hp]at e;cases e) (fun ob xs e=>by rw[hp]at e;cases e)
 exact this b xs h
def W4 (I:Inv X af σ H s)(hu:A.units+6<cLine)(ha:H a=some (Emp a e1))(hk:H kT=some (.lst []))(lE:kT≠a)(h0:Same H0 H)(hn:H0 a=none)(lF:H0 kT=none)(hz:ws.length<sizeLine)
  (hW:WsOk X.K H0 ws) (hT:Turn X af σ A f ws H0) (h:SH X af σ H0 a ws P):
  wpAny (model X.prog X.w) A (ksk_rest a f false (wu ws).toArray e1 (.ref kT)) P E s:=by
 unfold ksk_rest
 refine jf_ (wpAny_rule ?_)
 rw[List.forIn_toArray]
 refine jf_ (ksk_fold (fun i s'=>∃(H':Hp) (ts:List Addr),Inv X af σ H' s'/\Same H0 H'/\H' a=some (Emp a e1)/\H' kT=some (.lst (ts.map V.ref))/\ts.length=i/\TsOk X.K H' ts ws) (wu ws) 0 s
  ⟨H,[],I,h0,ha,hk,rfl,fun j t w h1 _=>by simp at h1⟩ ?step ?done)
 case step=>
  rintro j x s' hx ⟨H',ts,I',g0,g1,g2,g3,g4⟩
  simp only[zx_]at g3 ⊢
  unfold wu at hx
  rw[je_]at hx
  obtain⟨w,hw,rfl⟩:∃w,ws[j]?=some w/\Value.ref w.1=x:=by
   cases e:ws[j]? with
   |none=>rw[e]at hx;cases hx
   |some w=>rw[e]at hx;cases hx;exact⟨w,rfl,rfl⟩
  have hj:j<ws.length:=(jb_.mp hw).1
  refine jf_ (xI_ (qN_ (hT w (jc_ hw) H' s' I' g0) (fun k s2 eY=>?_) fun _ _ z=>z.elim))
  obtain⟨v,H2,I2,rv,t,rfl,q1,q2⟩:=eY
  have rk:k=Value.ref t:=rv
  subst rk
  have gW:=q1 _ _ g2
  obtain⟨z,its,n,r,el,e⟩:=I2.lstM gW
  dsimp only
  have hi:=FN r
  have jI:its.length=j:=by rw[hi,ja_];exact g3
  refine jf_ (listUpdate_at e rfl ?_ (by rw[jp_,jI];lia) (by rw[Array.size_push,jp_,jI];lia))
  refine ju_ ⟨rfl,upd H2 kT (.lst ((ts++[t]).map V.ref)),ts++[t],?_,?_,?_,Ab,by simp[g3],?_⟩
  ·have:=I2.lset (its':=its++[Value.ref t]) (ys:=(ts++[t]).map V.ref) (f:=fun a=>a.push (Value.ref t)) (t':=s2.toks) gW e (by simp) (by rw[jS_];exact r.append (.cons rfl .nil)) (by rw[ja_,jk_,g3];simp;lia)
   exact this
  ·exact (g0.trans q1).over lF
  ·rw[Ah (qn_ lE)];exact q1 _ _ g1
  ·intro i t' w' h1 h2
   refine SI gW ?_
   by_cases hi:i<ts.length
   ·rw[jd_ hi]at h1
    exact q1.seqT (g4 i t' w' h1 h2)
   ·rw[jm_ s!""]at h1
    have:i-ts.length=0:=by
     by_cases hq:i-ts.length=0
     ·exact hq
     ·rw[jV_ (by simp;lia)]at h1;cases h1
    rw[this]at h1
    cases h1
    have:i=j:=by lia
    subst this
    rw[hw]at h2;cases h2
    exact q2
 case done=>
  rintro s' ⟨H',ts,I',g0,g1,g2,g3,g4⟩
  obtain⟨z,its,n,r,el,e⟩:=I'.lstM g2
  have hi:=FN r
  subst hi
  refine jf_ (listItems_at e rfl ?_)
  exact Xq I' hu g1 g2 lE g0 hn lF s!"" (by rw[g3];simp[wu]) (hW.same g0) g4 h
def W5 {n:Nat}(I:Inv X af σ H s)(hu:A.units+6<cLine)(ha:H a=some (.lst (wv ws)))(h0:Same H0 H)(hn:H0 a=none)(hz:ws.length<sizeLine)(jJ:∀b,s.heap.objs.size<=b->H0 b=none)
  (hW:WsOk X.K H0 ws) (hT:Turn X af σ A f ws H0) (h:SH X af σ H0 a ws P):
  wpAny (model X.prog X.w) A (ksk_tree a f false) P E s:=by
 obtain⟨z,its,n,r,el,e⟩:=I.lstM ha
 have hi:its=wu ws:=by
  have:Vals ((ws.map (·.1)).map V.ref) its:=by rw[jU_];exact r
  rw[FN this,jU_];rfl
 subst hi
 have q:=x5_ (f:=fun _=>(#[]:Array Value)) e
 obtain⟨e1,lH⟩:∃e1,(s.heap.update a (Obj.mapSeq fun _=>(#[]:Array Value))).get? a=some (seqObj "list" #[] e1):=⟨_,q⟩
 have I1:Inv X af σ (upd H a (Emp a e1)) {s with heap:=s.heap.update a (Obj.mapSeq fun _=>(#[]:Array Value)),toks:=s.toks}:=by
  refine I.write (x:=a) (e:=a) (by rw[ha];exact trivial) (.inl rfl) (fun b' u hb hu=>(qa_ _ _ (qn_ hb)).trans hu) ⟨_,lH⟩ ⟨lH,⟨_,lH⟩,fun h1 h2 g1 g2=>g2 _ g1⟩
 unfold ksk_tree
 refine jf_ (listItems_at e rfl ?_)
 refine jf_ (listUpdate_at e rfl ?_ (by rw[jp_];simp only[wu,ja_];lia) (jX_ _))
 refine jf_ (seqEpoch_at lH rfl ?_)
 refine jf_ (wpAny_newTuple ?_ (by rw[zQ_];simp only[wu,ja_];lia))
 refine jf_ (wpAny_newList ?_ (jX_ _))
 refine qX_ ?_
 have I2:=I1.kept (t':=s.toks) (h':=(s.heap.update a (Obj.mapSeq fun _=>(#[]:Array Value))).push {cls:=.type "tuple",data:=.seq (wu ws).toArray}) (fun _ _ q=>jo_ _ q)
 have I3:=I2.lnew (t':=s.toks) (its:=[]) (ys:=[]) .nil (jX_ _)
 have hk:((s.heap.update a (Obj.mapSeq fun _=>(#[]:Array Value))).push {cls:=.type "tuple",data:=.seq (wu ws).toArray}).objs.size=s.heap.objs.size+1:=by rw[size_push',Heap.size_update]
 have au:=js_ e
 refine W4 I3 hu ?_ Ab ?_ ?_ hn ?_ hz hW hT h
 ·rw[Ah (by show a≠_;rw[hk];exact jL_ (xi_ au))];exact Ab
 ·show _≠a
  rw[hk];exact qL_ (xi_ au)
 ·refine (h0.over hn).over (jJ _ ?_)
  show _<=_
  rw[hk];lia
 ·refine jJ _ ?_
  show _<=_
  rw[hk];lia
def Xr (X:Cx)(af:α7)(σ:L2.St)(H:Hp)(ws:List Wd)(Q:Value->Shared->Prop):Prop:=
 ∀s' H' D os,Inv X af σ H' s'->Same H H'->H D=none->H' D=some (.lst (wv os))->os.Perm ws->Srt os->Q (.ref D) s'
def SJ   (I:Inv X af σ H s)(hu:A.units+8<cLine)(hl:SqL X.K H l (wv ws))(hz:ws.length<sizeLine)(hW:WsOk X.K H ws)
  (hT:Turn X af σ A.in1.in1 (.ref q) ws H) (h:Xr X af σ H ws Q):
  wpAny (model X.prog X.w) A (call (.builtin "sorted") [.ref l] [(Str.ofString "key",.ref q)]) Q E s:=by
 obtain⟨its,r,pl,_⟩:=I.list hl
 have hi:its=wu ws:=by
  have:Vals ((ws.map (·.1)).map V.ref) its:=by rw[jU_];exact r
  rw[FN this,jU_];rfl
 subst hi
 have ak:(wu ws).length=ws.length:=by simp[wu]
 refine call_function_entry_kw kind_sorted plain_sorted entry_sorted (ksk_s1 _ _) ?_
 unfold Builtin.«sorted»
 refine jf_ (m:=checkCount "sorted" 1 1 _) (ju_ ?_)
 refine jf_ (collect_list (vs:=wu ws) ?isl ?_ s!"")
 case isl=>
  exact pl.isList
 refine jf_ (wpAny_newList ?_ s!"")
 have hsz:((s.heap.push (seqObj "list" #[] 0)).update s.heap.objs.size (Obj.mapSeq (· ++ (wu ws).toArray))).objs.size=s.heap.objs.size+1:=by
  rw[Heap.size_update,size_push']
 have keep:∀b o,s.heap.get? b=some o->((s.heap.push (seqObj "list" #[] 0)).update s.heap.objs.size (Obj.mapSeq (· ++ (wu ws).toArray))).get? b=some o:=fun b o q=>by
  have au:b<s.heap.objs.size:=js_ q
  rw[Heap.get?_update_ne _ _ _ _ (jL_ au),Heap.get?_push_ne _ _ _ (jL_ au)]
  exact q
 have I1:=I.kept (t':=s.toks) keep
 have I2:=I1.lnew (t':=s.toks) (its:=wu ws) (ys:=wv ws) (Q5 ws) (by simp only[wv,ja_];lia)
 have hD:H (s.heap.objs.size+1)=none:=I.hok.fresh (z4_ _)
 have oE:(((s.heap.push (seqObj "list" #[] 0)).update s.heap.objs.size (Obj.mapSeq (· ++ (wu ws).toArray))).push (seqObj "list" (wu ws).toArray 0)).get? (s.heap.objs.size+1)=some (seqObj "list" (wu ws).toArray 0):=by
  rw[<-hsz];exact jH_ _ rfl
 show wpAny _ _ _ _ _ {s with heap:=((s.heap.push (seqObj "list" #[] 0)).update s.heap.objs.size (Obj.mapSeq (· ++ (wu ws).toArray))).push (seqObj "list" (wu ws).toArray 0)}
 have I3:Inv X af σ (upd H (s.heap.objs.size+1) (.lst (wv ws))) {s with heap:=((s.heap.push (seqObj "list" #[] 0)).update s.heap.objs.size (Obj.mapSeq (· ++ (wu ws).toArray))).push (seqObj "list" (wu ws).toArray 0)}:=by
  have:=I2
  dsimp only at this
  rw[hsz]at this
  exact this
 rw[hsz]
 refine jf_ (qX_ (wpAny_call_entry_kw slot_list_sort ⟨_,oE,rfl⟩ entry_list_sort ?body (ksk_l1 _ _)))
 case body=>
  have eg:=ksk_t1 q (s.heap.objs.size+1)
  show wpAny (model X.prog X.w) A.in1.in1 (Builtin.«list.sort» ⟨[.ref (s.heap.objs.size+1)],[(Str.ofString "key",.ref q)]⟩) _ _ _
  rw[eg]
  refine W5 (n:=0) (H0:=H) I3 (by rw[in1_units,in1_units];lia) Ab (Same.new hD) hD hz (fun b hb=>I.hok.fresh ?_) hW hT fun s' H' os I' g1 g2 g3 g4=>⟨_,rfl,?_⟩
  ·have ig:(((s.heap.push (seqObj "list" #[] 0)).update s.heap.objs.size (Obj.mapSeq (· ++ (wu ws).toArray))).push (seqObj "list" (wu ws).toArray 0)).objs.size<=b:=hb
   rw[size_push',hsz]at ig
   lia
  ·exact ju_ ⟨_,rfl,h s' H' _ os I' g1 hD g2 g3 g4⟩
end
end aL
namespace L2
open PySem PySem.Spec PyProof.Rows
def W6   {K:α3}
               (S:FnScope N ps scope) (hr:Room (k+1) A) (e0:Env0 P w K mg base A outer s H)
    (ho:s.heap.get? f=some (rD name qual params body scope [] pm c' gX)) (bQ:s.heap.CodeRec (.ref c') qual) (hb:bindArgs (wI name qual params body scope [] pm (.ref c') gX) args=pure (ps.zip us)) (r:Vals vs us) (hl:vs.length=ps.length)
    (ht:PE (cxOf CX0 P w K mg base N qual scope f (.ref c') A outer s H E).nox body t) (hq:t (start N vs) H Q):codeAny (model P w) A (.call (.ref f) args) (CR CX0 outer P w H s Q E) s:=by
  have oI:s.heap.NoLimit:=e0.mod.nolimit.keeps fun b o e=>(e0.bs b o e).1
  have fS:∀y∈ps.zip us,scope.names.lookup y.1=some .local\/(scope.names.lookup y.1=some .cell/\((cellsFrom (s.heap.objs.size+1) scope.names []).lookup y.1).isSome=true):=fun ⟨n,v⟩ hy=>by
    rcases S.par n (xz_ hy).1 with q|q
    . exact .inl q
    . exact .inr ⟨q,xN_ _ _ _ (.inl q)⟩
  refine vG hr.depth ho rfl S.co S.gen rfl bQ ?_
  rw[hb]
  refine ju_ ?_
  refine wpAny_newFunctionEnv_cells S.kind fS fun env he s1 x=>?_
  subst he
  refine⟨oI.keeps x.toInCall.keep,vH ?_⟩
  have I:Inv (cxOf CX0 P w K mg base N qual scope f (.ref c') A outer s H E) [] (start N vs) H s1:=K0 S hr.hd e0 hl r x
  refine qN_ (ht [] s1 (start N vs) H _ (I.wish _) hq) (fun u s' hs=>?_) fun e s' hs=>hs.elim
  obtain⟨v,H',J,rv,q⟩:=hs
  have J':=J.unwish
  exact⟨v,H',J'.os,J'.bare,J'.base,J'.hok,rv,q⟩
def BmOk (mg:Str->α5)(base:Heap):Prop:=∃bm ob,mg "__builtins__"=some (.ref bm)/\bm≠builtinsNs/\base.get? bm=some ob/\ob.cls=.type "module" /\ ob.dict=some builtinsNs/\ob.data=.plain
end L2
namespace L2
open PySem PySem.Spec PyProof.Rows aL
abbrev lamA (ap:Pos):Arguments:={posonlyargs:=[],args:=[{arg := "word",annotation:=none,pos:=ap}],vararg:=none,kwonlyargs:=[],kw_defaults:=[],kwarg:=none,defaults:=[]}
abbrev lamB (p1 p2 p3 p4 p5:Pos):Expr:=.Tuple [.Call (.Name "len" p1) [.Name "word" p2] [] p3,.Name "word" p4] 0 p5
abbrev lamS:Scope:={kind:=.function,names:=[(Str.ofString "word",.local),(Str.ofString "len",.globalImplicit)],isGenerator:=false,isCoroutine:=false,more:=[]}
def SK:FnScope ["word"] ["word"] lamS:=⟨rfl,rfl,rfl,by decide,rfl,fun x hx=>.inl (by rw[jq_.mp hx];rfl),fun y hy=>by
 rcases jB_.mp hy with rfl|hy
 ·simp
 ·rw[jq_.mp hy];simp⟩
end L2
namespace L2
open PySem PySem.Spec PyProof.Rows
def Q8   {K:α3}
  (KX:K.In s₁.heap) (iz:s₁.heap.Ns mainGlobals mg) (hb:s₁.heap.Ns builtinsNs mb) (hbb:∀x:Str,x ≠ "__name__" -> mb x=bootBuiltins x) (hlim:s₁.heap.NoLimit) (hg:s₁.gens = #[]) (pK:BmOk mg s₁.heap)
  (hC:q9 s₁.heap c T) (hT:s₁.heap.get? T=some (rl #[])) (pL:K.lookup T=none)
  (ha:s₁.heap.get? a=some {cls:=.type "list",data:=.seq vs.toArray}) (hi:IntsAre vs ns) (hl:ns.length<=sizeLine) (hr:Room k callerA)
  (F:∀base:Heap,K.In base->base.Ns mainGlobals mg->q9 base c T->BmOk mg base->FnOk P w K mg base CX k fa fd [x] sp) (hbind:∀(s:Shared) (u:Value),BindsTo s fd ⟨[u],[]⟩ [(x,u)])
  (eQ:∀H:Hp,H T=some (.tbl #[])->SqL K H a (ns.map V.int)->sp [.ref a] H (fun v _=>v=.bl true) fun _ _ _=>False)
  (pM:∀H e s',CX [] H s₁ (fun _ _ _=>False) e s'->False):
  codeAny (model P w) callerA (.call (.ref fa) ⟨[.ref a],[]⟩) (fun r s'=>r=.ok (.ret (.bool true))/\OldK s₁.heap s'.heap/\s'.os=s₁.os/\AllBare s'.gens) s₁:=by
 have rv:=K1 hi
 have lenV:=hi.length
 have hTa:T≠a:=fun z=>by subst z;rw[hT]at ha;cases ha
 have core:∀H:Hp,H T=some (.tbl #[])->SqL K H a (ns.map V.int)->HOk P w H s₁.heap->(∀b,H b≠none->b=T\/(b=a/\K.lookup a=none/\∃o xs,H a=some (.frz o (.lst xs)))) ->
   codeAny (model P w) callerA (.call (.ref fa) ⟨[.ref a],[]⟩) (fun r s'=>r=.ok (.ret (.bool true))/\OldK s₁.heap s'.heap/\s'.os=s₁.os/\AllBare s'.gens) s₁:=by
  intro H hHT hS hok hA
  have free:∀{b:Addr} {o:Obj},s₁.heap.get? b=some o->o.cls ≠ .none->o.data ≠ .seq vs.toArray 0->H b=none:=fun {b o} e h1 h2=>by
   cases q:H b with
   |none=>rfl
   |some u=>
    rcases hA b (by rw[q];simp) with rfl|⟨rfl,_⟩
    ·rw[hT]at e;cases e;exact absurd rfl h1
    ·rw[ha]at e;cases e;exact absurd rfl h2
  have nH:∀{b:Addr} {m:Str->α5},s₁.heap.Ns b m->(hidT s₁.heap H).Ns b m:=fun {b m} ⟨o,es,ep,e,d,r⟩=>⟨o,es,ep,Hg e (by
   cases q:H b with
   |none=>rfl
   |some u=>
    rcases hA b (by rw[q];simp) with rfl|⟨rfl,_⟩
    ·rw[hT]at e;cases e;cases d
    ·rw[ha]at e;cases e;cases d),d,r⟩
  have hKb:K.In (hidT s₁.heap H):=fun b o e=>Hg (KX b o e) (by
   cases q:H b with
   |none=>rfl
   |some u=>
    rcases hA b (by rw[q];simp) with rfl|⟨rfl,z,_⟩
    ·rw[pL]at e;cases e
    ·rw[z]at e;cases e)
  have hM:Mod K mg (hidT s₁.heap H):=⟨hKb,nH iz,⟨mb,nH hb,hbb⟩,let ⟨mc,h1,h2⟩:=hlim;⟨mc,nH h1,h2⟩⟩
  have e0:Env0 P w K mg (hidT s₁.heap H) callerA [] s₁ H:=⟨rfl,hM,fun b o e=>Us e,rV (OZ _ _),trivial,fun b hb=>absurd (show b∈([]:List Addr) from hb) (by simp),hok,.of_eq hg⟩
  have hCb:q9 (hidT s₁.heap H) c T:=by
   obtain⟨o,ws,file,tf,flags,tg,inF,text,tt,e,hc,hd,r⟩:=id hC
   exact⟨o,ws,file,tf,flags,tg,inF,text,tt,Hg e (free e (by rw[hc];intro z;cases z) (by rw[hd];intro z;cases z)),hc,hd,r⟩
  have hbb2:BmOk mg (hidT s₁.heap H):=by
   obtain⟨bm,ob,b1,b2,b3,b4,b5,b6⟩:=pK
   exact⟨bm,ob,b1,b2,Hg b3 (free b3 (by rw[b4];intro z;cases z) (by rw[b6];intro z;cases z)),b4,b5,b6⟩
  refine codeAny_mono ((F _ hKb (nH iz) hCb hbb2).run callerA [] s₁ H ⟨[.ref a],[]⟩ [.ref a] [.ref a] _ _ hr e0 (hbind s₁ (.ref a)) (.cons rfl .nil) (eQ H hHT hS)) fun r s' h=>?_
  cases r with
  |error e=>exact (pM H e s' h).elim
  |ok fl=>
   cases fl with
   |next=>exact rg h
   |brk=>exact rg h
   |cont=>exact rg h
   |ret u=>
    obtain⟨v,H',os,bare,un,hok',r',q⟩:=h
    have q':v=.bl true:=q
    subst q'
    obtain rfl:u=Value.bool true:=r'
    have noB:∀b:Addr,b∉frs ([]:List Env):=fun b z=>absurd (show b∈([]:List Addr) from z) (by simp)
    have all:∀b o,s₁.heap.get? b=some o->asItWas s₁.heap s'.heap b o:=fun b o e=>by
     cases q:H b with
     |none=>exact .inl (un.keep b o e q (noB b) (by simp))
     |some u=>
      rcases hA b (by rw[q];simp) with rfl|⟨rfl,_,ob,xs,z⟩
      ·obtain⟨more,z2⟩:=un.tbls b _ hHT
       have e2:s'.heap.get? b=some {cls:=.none,data:=.fields (#[]++more)}:=hok' b _ z2
       rw[hT]at e;cases e
       obtain⟨o',ws,_,_,_,_,_,_,_,e3,hc,hd,h11,_⟩:=hC
       exact .inr (.inl ⟨⟨c,o',ws,e3,hc,hd,h11⟩,rfl,#[],more,rfl,e2⟩)
      ·have z2:=un.frzs b ob _ z
       obtain⟨e1,_⟩:=hok b _ z
       obtain⟨e2,_⟩:=hok' b _ z2
       rw[e]at e1;cases e1
       exact .inl e2
    refine⟨rfl,⟨all,fun b o e=>?_⟩,os,bare⟩
    exact un.there b o e (by simp)
 cases hk:K.lookup a with
 |some o=>
  have e:=KX a o hk
  rw[ha]at e
  cases e
  refine core (fun b=>if b=T then some (.tbl #[]) else none) (if_pos rfl) (.inr ⟨_,vs.toArray,_,hk,rfl,rfl,rfl,by rw[jp_,lenV];exact hl,by simpa using rv⟩) (fun b u z=>?_) (fun b z=>?_)
  ·by_cases hb:b=T
   ·have z':=(if_pos hb).symm.trans z
    cases z';subst hb;exact hT
   ·have z':=(if_neg hb).symm.trans z
    cases z'
  ·by_cases hb:b=T
   ·exact .inl hb
   ·exact absurd (if_neg hb) z
 |none=>
  refine core (fun b=>if b=T then some (.tbl #[]) else if b=a then some (.frz {cls:=.type "list",data:=.seq vs.toArray} (.lst (ns.map V.int))) else none) (if_pos rfl) (.inl (.inr ⟨{cls:=.type "list",data:=.seq vs.toArray},by show (if a=T then _ else _)=_;rw[if_neg (qn_ hTa),if_pos rfl]⟩)) (fun b u z=>?_) (fun b z=>?_)
  ·by_cases hb:b=T
   ·have z':=(if_pos hb).symm.trans z
    cases z';subst hb;exact hT
   ·have z1:=(if_neg hb).symm.trans z
    by_cases fh:b=a
    ·have z':=(if_pos fh).symm.trans z1
     cases z'
     subst fh
     exact⟨ha,by rw[ja_];exact hl,vs,_,rv,ha⟩
    ·have z':=(if_neg fh).symm.trans z1
     cases z'
  ·by_cases hb:b=T
   ·exact .inl hb
   ·by_cases fh:b=a
    ·exact .inr ⟨fh,hk,_,_,by show (if a=T then _ else _)=_;rw[if_neg (qn_ hTa),if_pos rfl]⟩
    ·exact absurd (by show (if b=T then _ else _)=_;rw[if_neg hb,if_neg fh]) z
def walk_ofT {l:si}{n k:Nat}{q:Program}{cE:List Str}{XP:(Str->α5)->Heap->Prop}{YP:World->Heap->Prop}{d:DefRec}{K:Params->α3}{CX:World->CXT}{sp:World->Sp}{x xT:Str}
  (hn:l.most=some n) (gj:n<=sizeLine) (mf:d.params.defaults=[]) (hr:Room k callerA)
  (hY:∀(w:World) (h:Heap),YP w h->(K w.params).In h)
  (F:∀(w:World) (mg:Str->α5) (fa:Addr) (h:Heap),YP w h->(K w.params).In h->h.Ns mainGlobals mg->mg d.name=some (.ref fa) ->
   ∃(fd:α6) (c T:Addr),rj (K w.params) xT=some (c,T)/\(K w.params).lookup T=none/\q9 h c T/\h.get? T=some (rl #[])/\(∀(s:Shared) (u:Value),BindsTo s fd ⟨[u],[]⟩ [(x,u)]) /\
    ∀base:Heap,(K w.params).In base->base.Ns mainGlobals mg->q9 base c T->BmOk mg base->FnOk l.prog w (K w.params) mg base (CX w) k fa fd [x] (sp w))
  (eQ:∀(w:World) (H:Hp) (a c T:Addr) (ns:α2),ns.length<=n->rj (K w.params) xT=some (c,T)->H T=some (.tbl #[])->SqL (K w.params) H a (ns.map V.int)->sp w [.ref a] H (fun v _=>v=.bl true) fun _ _ _=>False)
  (pM:∀(w:World) (H:Hp) (s:Shared) (e:Value) (s':Shared),CX w [] H s (fun _ _ _=>False) e s'->False):
  ve q cE XP YP l.row.toRowW d [] (fun f vs=>ux f vs):=by
 refine Att.attach_call hn mf fun w s₀ s₁ mg mb fa o pm cd bz a vs ns G Y ho hd bQ hmg bI fX ak hg=>?_
 have KX:=hY w _ Y
 obtain⟨fd,c,T,jI,pL,hC,hT,hb,hF⟩:=F w mg fa _ Y KX G.T.g hmg
 exact Q8 KX G.T.g G.T.b G.T.builtins G.T.nolimit hg (let ⟨bm,ob,b1,b2,b3,b4,b5,b6⟩:=G.T.bmain;⟨bm,ob,b1,b2,b3,b4,b5,b6⟩) hC hT pL bI fX (qm_ ak gj) hr hF hb (fun H hO hS=>eQ w H a c T ns ak jI hO hS) fun H e s'=>pM w H s₁ e s'
def tabC (K:α3)(x:Str):Addr:=((rj K x).getD (0,0)).1
def tabP (K:α3)(x:Str):Addr:=((rj K x).getD (0,0)).2
def MB {K:α3}   (h:rj K x=some (c,T)):tabC K x=c:=by unfold tabC;rw[h];rfl
def Q9 {K:α3}   (h:rj K x=some (c,T)):tabP K x=T:=by unfold tabP;rw[h];rfl
def SM {K:α3}      {sl gQ:Array (α5)}  (a:nsIn K mainGlobals x=some (some (.ref f)))(l:K.lookup f=some ⟨oc,od,.func fd,sl⟩)(hc:fd.code=.ref c)
  (lc:K.lookup c=some ⟨oc2,od2,.fields vs,gQ⟩) (h:vs[11]?=some (.ref T)):rj K x=some (c,T):=by
 unfold rj
 rw[a]
 dsimp only
 rw[l]
 dsimp only
 rw[hc]
 dsimp only
 rw[lc]
 dsimp only
 rw[h]
structure FunL (K:α3)(mg:Str->α5)(base:Heap)(x qual:Str)(st:Stmt)(f:Addr)(fd:α6):Prop where
 ex:∃(oc:Value) (od:Option Addr) (kV bz pm:Value) (an:Option Addr) (ct:Value) (fR:Array (α5)),
  fd=fnOf x qual (C2 st) (CA st) (Al st) .none kV bz pm an (.ref (tabC K x)) ct/\K.lookup f=some ⟨oc,od,.func fd,fR⟩/\codeIn K (.ref (tabC K x)) qual=true
 C:q9 base (tabC K x) (tabP K x)
 B:BmOk mg base
section
variable {P:Program} {w:World} {K:α3} {mg:Str->α5} {base:Heap}
def FunL.ok  {st:Stmt}      (F:FunL K mg base x qual st f fd)(S:FnScope N ps (Al st))(len:∀vs H Q E,sp vs H Q E->vs.length=ps.length)
  (dn:∀(aA:Value) (bQ:aA=.ref (tabC K x)) (A:Around) (outer:List Env) (s:Shared) (H:Hp) (vs:List V) (Q:VK) (E:XK),Room k (A.deeper (envOfC qual (Al st) s.heap.objs.size f aA))->sp vs H Q E ->
   ∃t,PSs (cxOf CX0 P w K mg base N qual (Al st) f aA A outer s H E).nox (CA st) t/\t {nx:=fun _ H'=>Q .non H',rt:=Q} (start N vs) H):FnOk P w K mg base CX0 (k+1) f fd ps sp:=by
 obtain⟨oc,od,kV,bz,pm,an,ct,fR,rfl,lk,bQ⟩:=F.ex
 refine VR lk bQ S len fun A outer s H vs Q E hr eQ=>?_
 obtain⟨t,h,q⟩:=dn _ rfl A outer s H vs Q E hr eQ
 exact⟨t,h.nox,q⟩
def Vr  {st:Stmt}     {kV bz pm ct:Value}(ti:rj K x=some (c,T))(l:K.lookup f=some ⟨oc,od,.func (fnOf x qual (C2 st) (CA st) (Al st) .none kV bz pm an (.ref c) ct),fR⟩)
  (hc:codeIn K (.ref c) qual=true) (C:q9 base c T) (B:BmOk mg base):FunL K mg base x qual st f (fnOf x qual (C2 st) (CA st) (Al st) .none kV bz pm an (.ref c) ct):=
 ⟨⟨oc,od,kV,bz,pm,an,ct,fR,by rw[MB ti],l,by rw[MB ti];exact hc⟩,by rw[MB ti,Q9 ti];exact C,B⟩
end
end L2
namespace L2
open PySem PySem.Spec PyProof.Rows aL
def BW (T:Addr)(H H':Hp):Prop:=∀b o,b≠T->H b=some o->H' b=some o
def LamT (T:Addr)(lp:Pos)(qual:Str)(H:Hp):Prop:=H T=some (.tbl #[]) \/ ∃(c':Addr) (oc:Obj) (vs:Array Value) (t:Tok),H T=some (.tbl #[rawInt lp.line,rawInt lp.col,.ref c'])/\H c'=some (.frz oc (.own 0))/\oc.data=.fields vs/\vs[1]?=some (.str (qual ++ "<lambda>") t)
def LamT.is     (h:LamT T lp qual H):∃ps,H T=some (.tbl ps):=by
 rcases h with h|⟨_,_,_,_,h,_⟩
 ·exact⟨_,h⟩
 ·exact⟨_,h⟩
def LamT.mono     (h:LamT T lp qual H)(s:Same H H'):LamT T lp qual H':=by
 rcases h with h|⟨c',oc,vs,t,h,h2,h3,h4⟩
 ·exact .inl (s _ _ h)
 ·exact .inr ⟨c',oc,vs,t,s _ _ h,s _ _ h2,h3,h4⟩
def BW.of   (s:Same H H'):BW T H H':=fun b o _ e=>s b o e
def BW.trans   (s:BW T H H')(s':BW T H' iy):BW T H iy:=fun b o hb e=>s' b o hb (s b o hb e)
def BW.ne   (s:BW T H H')   (e:H b=some o)(ho:∀ps,o ≠ .tbl ps)  (hT:H T=some (.tbl ps)):H' b=some o:=s b o (fun z=>by subst z;rw[hT]at e;cases e;exact ho _ rfl) e
def BW.tsq {K:α3}   (s:BW T H H')  (hT:H T=some (.tbl ps))   (h:SqT K H b ys):SqT K H' b ys:=by
 rcases h with h|h
 ·left
  rcases h with h|⟨o,h⟩
  ·exact .inl (s.ne h (fun _ z=>by cases z) hT)
  ·exact .inr ⟨o,s.ne h (fun _ z=>by cases z) hT⟩
 ·exact .inr h
def BW.lsq {K:α3}   (s:BW T H H')  (hT:H T=some (.tbl ps))   (h:SqL K H b ys):SqL K H' b ys:=by
 rcases h with h|h
 ·left
  rcases h with h|⟨o,h⟩
  ·exact .inl (s.ne h (fun _ z=>by cases z) hT)
  ·exact .inr ⟨o,s.ne h (fun _ z=>by cases z) hT⟩
 ·exact .inr h
def BW.none   (s:BW T H H')  (hT:H' T=some (.tbl ps))  (h:H' b=none):H b=none:=by
 cases q:H b with
 |none=>rfl
 |some o=>
  have:=s b o (fun z=>by subst z;rw[hT]at h;cases h) q
  rw[h]at this;cases this
section
variable {X:Cx} {af:α7} {σ:St} {H:Hp} {s:Shared}
def Inv.tabK      (I:Inv X af σ H s)(hP:H P=some (.tbl ps))(k:∀b o,b≠P->s.heap.get? b=some o->h'.get? b=some o)(e:h'.get? P=some (rl (ps++ps')))
  (hc:s.heap.objs.size<=c') (dI:h'.get? c'=some oc):Inv X af σ (upd (upd H P (.tbl (ps++ps'))) c' (.frz oc (.own 0))) {s with heap:=h',toks:=t' }:=by
 have nP:∀b,H b=none->b≠P:=fun b n z=>by subst z;rw[hP]at n;cases n
 have mJ:∀b u,H b=some u->(∀qs,u ≠ .tbl qs)->b≠P:=fun b u q hu z=>by subst z;rw[hP]at q;cases q;exact hu _ rfl
 have nC:∀b u,H b=some u->b≠c':=fun b u q z=>by subst z;rw[I.hok.fresh hc]at q;cases q
 have nC2:∀b o,s.heap.get? b=some o->b≠c':=fun b o q z=>by subst z;exact absurd (js_ q) (xY_.mpr hc)
 refine I.un ⟨fun b o q n _ _=>k b o (nP b n) q,fun b o q n _ _=>⟨o.slots,k b o (nP b n) q⟩,fun b o q n _=>by rw[Ah (nC2 b o q),Ah (nP b n)];exact n,fun b o q _=>?_,fun b xs q=>?_,fun b o u q=>?_,fun b qs q=>?_⟩ (fun b u q=>?_)
 ·by_cases hb:b=P
  ·subst hb;exact⟨_,e⟩
  ·exact⟨o,k b o hb q⟩
 ·rw[Ah (nC b _ q),Ah (mJ b _ q (fun _ z=>by cases z))];exact q
 ·rw[Ah (nC b _ q),Ah (mJ b _ q (fun _ z=>by cases z))];exact q
 ·by_cases hb:b=P
  ·subst hb;rw[hP]at q;cases q;exact⟨ps',by rw[Ah (nC b _ hP)];exact Ab⟩
  ·rw[Ah (nC b _ q),Ah hb];exact⟨#[],by rw[q];simp⟩
 ·by_cases hbc:b=c'
  ·subst hbc;rw[Ab]at q;cases q;exact⟨dI,_,dI⟩
  rw[Ah hbc]at q
  by_cases hb:b=P
  ·subst hb;rw[Ab]at q;cases q;exact e
  ·rw[Ah hb]at q
   refine (I.hok b u q).stay (fun c v hc r=>k c v ?_ r) (fun c r=>by rw[Ah (nC c _ r),Ah (mJ c _ r (fun _ z=>by cases z))];exact r) fun c xs r=>by rw[Ah (nC c _ r),Ah (mJ c _ r (fun _ z=>by cases z))];exact r
   rcases hc with rfl|hc
   ·exact hb
   ·exact mJ c _ hc (fun _ z=>by cases z)
def Ra          (I:Inv X af σ H s)(eB:X.env.code=.ref c)(C:q9 X.base c P)(hL:LamT P pos X.env.qual H)
  (hb:BmOk X.mg X.base) (bL:closureFor scope X.env=pure []) (hdef:defaultsOf params X.env=([],[]))
  (h:∀(f c':Addr) (oc:Obj) (vs:Array Value) (t:Tok) (gX:Value) (H':Hp) (s':Shared),Inv X (af++[(f,rD "<lambda>" (X.env.qual ++ "<lambda>") params body scope [] ((X.mg "__name__").getD .none) c' gX)]) σ H' s'->BW P H H'->H' P=some (.tbl #[rawInt pos.line,rawInt pos.col,.ref c'])->H' c'=some (.frz oc (.own 0))->oc.data=.fields vs->vs[1]?=some (.str (X.env.qual ++ "<lambda>") t)->Q (.ref f) s'):
  wpAny M A (eval (.Lambda params body scope pos) X.env) Q E s:=by
 obtain⟨ps,hP⟩:=hL.is
 obtain⟨bm,ob,b1,b2,b3,b4,b5,b6⟩:=hb
 have hg:s.heap.Ns mainGlobals X.mg:=I.mod.glob.keeps I.bk
 have eP:s.heap.get? P=some (rl ps):=I.hok P _ hP
 have nb:∀b o,X.base.get? b=some o->b≠P:=fun b o e z=>by subst z;have:=(I.bs b o e).2;rw[hP]at this;cases this
 have hgP:mainGlobals≠P:=by
  obtain⟨o,es,ep,e,_⟩:=I.mod.glob
  exact nb _ _ e
 have hbG:bm≠mainGlobals:=fun q=>by
  obtain⟨o,es,ep,e,hd,_⟩:=I.mod.glob
  rw[q,e]at b3;cases b3;rw[hd]at b6;cases b6
 refine wm hdef ?_
 rcases hL with hL|⟨c',oc,vs,t,h1,h2,h3,h4⟩
 ·have:ps = #[]:=by rw[hL]at hP;cases hP;rfl
  subst this
  refine vf (mg:=X.mg) bL I.ok.glob hg eB (C.keeps I.bk) eP (by trivial) rfl hgP ⟨bm,ob,b1,b2,hbG,nb _ _ b3,I.bk _ _ b3,b4,b5,b6⟩ fun c' gX h' tk hx bu au hrec lD=>?_
  obtain⟨c₂,oc,vs,t,e2,dI,hd,hv⟩:=hrec
  cases e2
  have I1:=I.tabK (t':=tk) (h':=h'.push (rD "<lambda>" (X.env.qual ++ "<lambda>") params body scope [] ((X.mg "__name__").getD .none) c' gX)) hP (fun b o hb e=>jo_ _ (hx b o hb e)) (jo_ _ lD) bu (jo_ _ dI)
  have hsz:s.heap.objs.size<=h'.objs.size:=qm_ bu (q2_ au)
  have hcP:P≠c':=fun z=>by subst z;exact absurd (js_ eP) (xY_.mpr bu)
  refine h h'.objs.size c' oc vs t gX _ _ (I1.pins_of fun p hp=>?_) (fun b o hb e=>?_) ((Ah hcP).trans Ab) Ab hd hv
  ·rcases jw_.mp hp with hp|hp
   ·exact I1.pin p (jy_ _ hp)
   ·rw[jq_.mp hp]
    refine⟨jH_ _ rfl,?_,fun z=>?_,I.nofs hsz,fun v z=>by cases z⟩
    ·rw[Ah (fun z=>absurd au (by dsimp only at z;rw[z];exact j8_ _)),Ah (fun z=>by dsimp only at z;subst z;exact absurd (js_ eP) (xY_.mpr hsz))]
     exact I.hok.fresh hsz
    ·dsimp only at z
     have:=I.lt
     rw[<-z]at this
     exact absurd this (xY_.mpr hsz)
  ·rw[Ah (fun z=>by subst z;rw[I.hok.fresh bu]at e;cases e),Ah hb];exact e
 ·have:ps = #[rawInt pos.line,rawInt pos.col,.ref c']:=by rw[h1]at hP;cases hP;rfl
  subst this
  refine uu (mg:=X.mg) (cv:=.ref c') bL I.ok.glob hg eB (C.keeps I.bk) eP (by trivial) (by simp[codeAmong,rawInt]) ⟨bm,ob,b1,b2,hbG,nb _ _ b3,I.bk _ _ b3,b4,b5,b6⟩ fun gX h' tk hk hsz=>?_
  have I1:=I.kept (t':=tk) (h':=h'.push (rD "<lambda>" (X.env.qual ++ "<lambda>") params body scope [] ((X.mg "__name__").getD .none) c' gX)) (fun b o e=>jo_ _ (hk b o e))
  refine h h'.objs.size c' oc vs t gX _ _ (I1.pins_of fun p hp=>?_) (fun b o hb e=>e) h1 h2 h3 h4
  rcases jw_.mp hp with hp|hp
  ·exact I1.pin p (jy_ _ hp)
  ·rw[jq_.mp hp]
   refine⟨jH_ _ rfl,I.hok.fresh hsz,fun z=>?_,I.nofs hsz,fun v z=>by cases z⟩
   dsimp only at z
   have:=I.lt
   rw[<-z]at this
   exact absurd this (xY_.mpr hsz)
end
def NH (K:α3)(P:Addr)(lp:Pos)(qual:Str)(t:TA):TE:=fun σ H Q=>t σ H fun vs H1=>∃l ws,vs=[.ref l]/\SqL K H1 l (wv ws)/\WsOk K H1 ws/\ws.length<sizeLine/\LamT P lp qual H1 /\
 ∀H2 D os,BW P H1 H2->LamT P lp qual H2->H1 D=none->H2 D=some (.lst (wv os))->os.Perm ws->Srt os->Q (.ref D) H2
theorem Lv {K:α3}        : NH K P lp qual t σ H Q=t σ H fun vs H1=>∃l ws,vs=[.ref l]/\SqL K H1 l (wv ws)/\WsOk K H1 ws/\ws.length<sizeLine/\LamT P lp qual H1 /\
 ∀H2 D os,BW P H1 H2->LamT P lp qual H2->H1 D=none->H2 D=some (.lst (wv os))->os.Perm ws->Srt os->Q (.ref D) H2:=rfl
def OH        (hr:Room (k+3) X.A)(hg:Gl X "sorted")(hm:X.mg "sorted"=none)(iI:X.mg "len"=none)(eB:X.env.code=.ref c)(C:q9 X.base c P)(pK:BmOk X.mg X.base)
  (ha:PA X [e] ta) (hq:X.env.qual=qual:=by rfl)
  (he:backTo pos (starEach [e] X.env)=(false,eval e X.env)::backTo pos (starEach [] X.env):=by rfl) (gP:(backTo pos (starEach [e] X.env)).any (·.1)=false:=by rfl):
  PE X (.Call (.Name "sorted" p) [e] [⟨some "key",.Lambda (lamA ap) (lamB p1 p2 p3 p4 p5) lamS lp,kp⟩] pos) (NH X.K P lp qual ta):=by
 intro af s σ H Q I h
 subst hq
 refine xq_ (D6 I hg hm rfl ?_)
 refine callWith_kw ?_ he gP
 refine thn (ha pos af s σ H _ I h) fun us s1 ⟨vs,H1,I1,r1,q1⟩=>?_
 obtain⟨l,ws,rfl,hl,hW,hz,hP,q⟩:=q1
 obtain⟨ps,hP1⟩:=hP.is
 obtain⟨u1,rfl,rx⟩:=vals1 r1
 cases rx
 refine kws_cons (Ra I1 eB C hP pK rfl rfl fun f c' oc vs t gX H2 s2 I2 i9 hT2 cu hd hv=>kws_nil ?_)
 show wpAny (model X.prog X.w) X.A (call (.builtin "sorted") [.ref l] [(Str.ofString "key",.ref f)]) _ _ s2
 have nP:∀b ys,SqT X.K H1 b ys->SqT X.K H2 b ys:=fun b ys=>i9.tsq hP1
 have bS:SqL X.K H2 l (wv ws):=i9.lsq hP1 hl
 refine SJ I2 (by have:=hr.un;lia) bS hz (fun w hw=>nP _ _ (hW w hw)) (fun w hw H' s' I' hS=>?_) (fun s' H' D os I' g1 g2 g3 g4 g5=>?_)
 ·have hf:=(I'.pin _ (jy_ _ (jy_ _ (jn_)))).1
  have fH:s'.heap.get? c'=some oc:=(I'.hok c' _ (hS _ _ cu)).1
  have mK:s'.heap.CodeRec (.ref c') (X.env.qual ++ "<lambda>"):=⟨c',oc,vs,t,rfl,fH,hd,hv⟩
  have pN:SqT X.K H' w.1 (w.2.map V.int):=hS.seqT (nP _ _ (hW w hw))
  refine wpAny_call (codeAny_mono (W6 (k:=k) (N:=["word"]) (ps:=["word"]) (vs:=[.ref w.1]) (us:=[.ref w.1]) (E:=fun _ _ _=>False) (Q:=fun kv iy=>∃t,kv=.ref t/\Same H' iy/\SqT X.K iy t [.int w.2.length,.ref w.1]) SK hr.in1.in1 I'.env0.in1.in1 hf mK rfl (.cons rfl .nil) rfl
   (Bx (Aa (Aq Aj rfl iI rfl (Aa (pv 0) Ad)) (Aa (pv 0) Ad))) ?_) fun r s2 hq=>?_)
  ·refine⟨.ref w.1,rfl,w.1,w.2.map V.int,rfl,.inr pN,.ref w.1,rfl,?_,fun p hp=>?_⟩
   ·show 2<=sizeLine
    decide
   ·rw[ja_]
    exact⟨p,rfl,Same.new hp,.inl (.inl Ab)⟩
  ·cases r with
   |error e=>exact hq.elim
   |ok fl=>
    cases fl with
    |ret u=>exact I'.after hq
    |next=>exact rg hq
    |brk=>exact rg hq
    |cont=>exact rg hq
 ·exact⟨.ref D,H',I'.unpinned,rfl,q H' D os (i9.trans (BW.of g1)) (.inr ⟨c',oc,vs,t,g1 _ _ hT2,g1 _ _ cu,hd,hv⟩) (i9.none hT2 g2) g3 g4 g5⟩
end L2
namespace L2
open PySem PySem.Spec PyProof.Rows
def EqsD (K:α3)(H:Hp)(n:Nat)(xs:List V)(x:V)(e:Nat->Bool):Prop:=(∀(i:Nat) (v:V),xs[i]?=some v->∃a,v=.ref a/\EqD K H n v x (e i))/\∀(i j:Nat) (v:V),xs[i]?=some v->xs[j]?=some v->e i=e j
noncomputable def evG (xs:List V)(e:Nat->Bool)(y:Value):Bool := @decide (∃(i:Nat) (a:Addr),y=.ref a/\xs[i]?=some (.ref a)/\e i=true) (rq _)
def Lw {K:α3}      (h:EqsD K H n xs x e)   (hx:xs[i]?=some (.ref a)):evG xs e (.ref a)=e i:=by
 rw[qy_]
 unfold evG
 rw[@decide_eq_true_iff _ (rq _)]
 constructor
 ·rintro⟨j,b,hb,pO,mL⟩
  cases hb
  rw[h.2 i j _ hx pO];exact mL
 ·intro he
  exact⟨i,a,rfl,hx,he⟩
def rInG (K:α3)(n:Nat)(jt:Bool):R2:=fun x y H Q=>∃p t xs e,y=.ref p/\x=.ref t/\SqL K H p xs/\EqsD K H n xs x e/\Q (.bl (if jt then !((qV xs.length).any e) else (qV xs.length).any e)) H
theorem W7 {K:α3}      : rInG K n jt x y H Q=∃p t xs e,y=.ref p/\x=.ref t/\SqL K H p xs/\EqsD K H n xs x e/\Q (.bl (if jt then !((qV xs.length).any e) else (qV xs.length).any e)) H:=rfl
def SN          (hu:X.A.units+n+1<cLine)(I:Inv X af σ H s)(hp:SqL X.K H p xs)(hE:EqsD X.K H n xs (.ref t) e):
  ∃(its:Array Value),s.heap.IsList p its/\(∀y,y∈its->SeqAt.EqAt X.A.in1 s y (.ref t) (evG xs e y))/\its.any (evG xs e)=(qV xs.length).any e:=by
 obtain⟨its,r,pl,_⟩:=I.list hp
 have hl:=r.length
 refine⟨its.toArray,pl.isList,fun y hy=>?_,?_⟩
 ·have hy':y∈its:=by simpa using hy
  obtain⟨i,hi,ei⟩:=jO_ hy'
  have gu:i<xs.length:=by lia
  obtain⟨u,ja,ru⟩:=r.get (i:=i) (x:=xs[i]) (by simp[gu])
  rw[jh_ hi,ei]at ja
  cases ja
  obtain⟨a,e2,e3⟩:=hE.1 i xs[i] (by simp[gu])
  rw[e2]at ru e3
  cases ru
  rw[Lw hE (i:=i) (by rw[jh_ gu,e2])]
  exact (EqD.at (x:=V.ref a) (y:=V.ref t) I n X.A.in1 (by rw[in1_units];lia) rfl rfl e3).1
 ·rw[show its.toArray.any (evG xs e)=its.any (evG xs e) by simp,qy_,xM_,xM_]
  constructor
  ·rintro⟨y,hy,hey⟩
   obtain⟨j,b,_,pO,mL⟩:=(@decide_eq_true_iff _ (rq _)).mp hey
   exact⟨j,jF_.mpr (jb_.mp pO).1,mL⟩
  ·rintro⟨i,hi,gT⟩
   have hi:=jF_.mp hi
   obtain⟨a,e2,e3⟩:=hE.1 i xs[i] (by simp[hi])
   have hx:xs[i]?=some (.ref a):=by rw[jh_ hi,e2]
   obtain⟨u,ja,ru⟩:=r.get hx
   cases ru
   exact⟨.ref a,jc_ ja,by rw[Lw hE hx];exact gT⟩
def hu45  (h:u+8<cLine):u+4+1<cLine:=by lia
def hu46  (h:u+8<cLine):u+4+2<cLine:=by lia
def Rb  (n:Nat)(hu:X.A.units+n+1<cLine):OpR X (compareOp .NotIn) (rInG X.K n true):=by
 intro af s σ H x y v u Q I rx ry h
 obtain⟨p,t,xs,e,rfl,rfl,hp,hw,q⟩:=h
 cases ry
 cases rx
 obtain⟨its,h1,h2,h3⟩:=SN hu I hp hw
 refine SeqAt.notIn_listAt _ h1 h2 ⟨.bl _,H,I,rfl,?_⟩
 rw[h3]
 exact q
def MC (K:α3)(n:Nat):V->List V->Hp->VK->Prop:=fun x vs H Q=>∃l xs t e m,x=.ref l/\vs=[.ref t]/\H l=some (.lst xs)/\EqsD K H n xs (.ref t) e/\m<xs.length/\e m=true/\(∀j,j<m->e j=false)/\xs.length<1000000/\Q (.int (m:Nat)) H
theorem NJ {K:α3}      : MC K n x vs H Q=∃l xs t e m,x=.ref l/\vs=[.ref t]/\H l=some (.lst xs)/\EqsD K H n xs (.ref t) e/\m<xs.length/\e m=true/\(∀j,j<m->e j=false)/\xs.length<1000000/\Q (.int (m:Nat)) H:=rfl
def Rc  (n:Nat)(hu:X.A.units+n+2<cLine):MtM X "list.index" (MC X.K n):=by
 intro af s σ H x vs v us Q I rx rv h
 obtain⟨l,xs,t,e,m,rfl,rfl,hH,hE,hm,hem,mL,au,q⟩:=h
 cases rx
 obtain⟨u,rfl,ry⟩:=vals1 rv
 cases ry
 obtain⟨zz,its,k,r,hl,eo⟩:=I.lstM hH
 have cG:xs.length=its.length:=r.length
 have get:∀(j:Nat) (hj:j<its.toArray.size),∃(a:Addr),its.toArray[j]=.ref a/\xs[j]?=some (.ref a)/\EqD X.K H n (.ref a) (.ref t) (e j):=fun j hj=>by
  have ck:j<xs.length:=by rw[jp_]at hj;lia
  obtain⟨a,e2,e3⟩:=hE.1 j xs[j] (by simp[ck])
  rw[e2]at e3
  have hx:xs[j]?=some (.ref a):=by rw[jh_ ck,e2]
  obtain⟨w',f1,f2⟩:=r.get hx
  have e4:its.toArray[j]=w':=by
   have:its[j]?=some its.toArray[j]:=by simp at hj;simp[hj]
   rw[f1]at this
   exact (jr_ this).symm
  cases f2
  exact⟨a,e4,hx,e3⟩
 have mB:m<its.toArray.size:=by rw[jp_];lia
 refine xD_ F.slot_list_index ⟨_,eo,rfl⟩ F.entry_list_index (F.args_list_index_2 _ _) (SeqAt.list_indexAt l its.toArray k none #[] (.ref t) (evG xs e) m mB s!"" ?_ fun j hj hjm=>?_) ⟨eo,fun y hy=>?_,?_⟩
 ·obtain⟨a,e1,e2,e3⟩:=get _ mB
  rw[e1,Lw hE e2];exact hem
 ·obtain⟨a,e1,e2,e3⟩:=get j hj
  rw[e1,Lw hE e2];exact mL j hjm
 ·obtain⟨j,hj,ej⟩:=jO_ (show y∈its by simpa using hy)
  obtain⟨a,e1,e2,e3⟩:=get j (by rw[jp_];exact hj)
  have:y=.ref a:=by rw[<-ej,<-e1];simp
  rw[this,Lw hE e2]
  exact (EqD.at (x:=V.ref a) (y:=V.ref t) I n _ (by rw[in1_units];lia) rfl rfl e3).1
 ·exact⟨.int (m:Nat),H,I.tok _,⟨_,rfl⟩,q⟩
def OI  {K:α3}(h:X.K=K)(n:Nat)(hu:X.A.units+n+2<cLine):MtR X "list.index" (MC K n):=by subst h;exact Rc n hu
structure Cal (P:Program)(w:World)(K:α3)(mg:Str->α5)(base:Heap)(CX:CXT)(k:Nat)(x:Str)(st:Stmt)(ps:List Str)(sp:Sp)(f:Addr)(fd:α6):Prop where
 g:FnOk P w K mg base CX k f fd ps sp
 F:Fun K x x st f fd
 b:N4 K fd ps []
 m:mg x=some (.ref f)
def Room.d   (r:Room k A)(h:j<=k:=by decide):Room j A:=r.mono h
def Ai          {st:Stmt}     (q:Cal X.prog X.w X.K X.mg X.base CX k x st ps sp f fd)(hr:Room k X.A)(hx:M5 CX X E)
  (ha:PA X (e::es) t) (hg:Gl X x:=by rfl) (js:(x==("__debug__" : Str))=false:=by decide) (he:starEach (e::es) X.env=(false,eval e X.env)::starEach es X.env:=by rfl) (gP:(backTo pos (starEach es X.env)).any (·.1)=false:=by rfl):
  PE X (.Call (.Name x p) (e::es) [] pos) (UC sp [] E t):=UD q.g hr hg q.m q.F.kp q.b .nil hx ha js he gP
abbrev HA (K:α3)(x:Str)(f:Addr):Prop:=nsIn K mainGlobals x=some (some (.ref f))
abbrev HL (K:α3)(x:Str)(st:Stmt)(f:Addr)(oc:Value)(od:Option Addr)(kV dc pm:Value)(an:Option Addr)(cd ct:Value)(sl:Array (α5)):Prop:=K.lookup f=some ⟨oc,od,.func (fnOf x x (C2 st) (CA st) (Al st) .none kV dc pm an cd ct),sl⟩
structure HF (K:α3)(x:Str)(st:Stmt)(f:Addr)(fd:α6):Prop where
 a:nsIn K mainGlobals x=some (some (.ref f))
 F:Fun K x x st f fd
structure Wh (P:Program)(w:World)(K:α3)(mg:Str->α5)(base:Heap):Prop where
 m:∀(x:Str) (f:Addr),nsIn K mainGlobals x=some (some (.ref f))->mg x=some (.ref f)
def HF.c   {K:α3}      {st:Stmt}     (h:HF K x st f fd)(Z:Wh P w K mg base)(g:FnOk P w K mg base CX k f fd ps sp)
  (e:∀(kV bz pm:Value) (an:Option Addr) (aA ct:Value) (us:List Value),us.length=ps.length->bindArgs (fnOf x x (C2 st) (CA st) (Al st) .none kV bz pm an aA ct) ⟨us,[]⟩=pure (ps.zip us):=by
   intro _ _ _ _ _ _ us hl;first|(obtain⟨_,rfl⟩:=len1 hl;rfl)|(obtain⟨_,_,rfl⟩:=len2 hl;rfl)|(obtain⟨_,_,_,rfl⟩:=len3 hl;rfl)|(obtain⟨_,_,_,_,rfl⟩:=len4 hl;rfl)):Cal P w K mg base CX k x st ps sp f fd:=⟨g,h.F,h.F.binds e,Z.m _ _ h.a⟩
def HF.b {K:α3}  {st:Stmt}   (h:HF K x st f fd)(e:∀(kV bz pm:Value) (an:Option Addr) (aA ct v:Value),bindArgs (fnOf x x (C2 st) (CA st) (Al st) .none kV bz pm an aA ct) ⟨[v],[]⟩=pure [(p,v)])(s:Shared)(v:Value):BindsTo s fd ⟨[v],[]⟩ [(p,v)]:=by
 obtain⟨_,_,_,_,_,_,_,_,_,rfl,_,_⟩:=h.F.ex
 exact .of_eq (e _ _ _ _ _ _ _)
end L2
namespace Mine
open PySem L2 GW GB
local macro_rules | `(tactic| walk_at "rd") => `(tactic| (try dsimp only[↓TY,QW,↓r_ID,↓WI,TZ,↓r_BD,WK,↓WN,↓WO,T2,T3,T4,WM,↓T7,↓T8,T5,T6,↓T9,QY,↓V6,↓Tg,↓V7,↓PZ,↓V8,↓r_c,↓r_op,↓r_un,↓r_I,↓r_I0,↓r_U,↓Th,↓Ti,↓V9,↓Wa,↓Tj,↓r_if,↓r_B,↓Tn,↓Wb,↓r_or,↓Wc,↓P0,↓r_CB,↓We,↓Wg,↓Wi,↓Wj,↓r_sl,↓To,↓Nf,↓Wq,↓r_BM,↓Ng,↓Tp,↓Tq,↓r_Eq,↓r_Ne,↓P4,↓Tr,↓P5,↓Wk,↓r_ip,↓Ts,↓Tt,↓Wm,↓Nj,↓Wr,↓Ws,↓Nk,↓Qj,↓Ld,↓Tz,↓Qf,↓TB,↓TC,↓Nl,↓TF,↓Qg,↓TH,↓Nm,↓Nn,↓r_in,↓Tu,↓Lh,↓QH,Wx,↓Ll,Lv,W7,NJ,↓TX,↓Nt,↓Qv,↓Qw,↓Nv,↓QE,Wl,L2.start,jZ_,xQ_,jT_,qi_,x7_,xR_,qU,zj_,List.getElem?_cons_succ,zl_,List.set_cons_succ,scal])<;>(try simp only[↓TY,QW,↓r_ID,↓WI,TZ,↓r_BD,WK,↓WN,↓WO,T2,T3,T4,WM,↓T7,↓T8,T5,T6,↓T9,QY,Vf,WL,Vi,Su,QX,↓V6,↓Tg,↓V7,↓PZ,↓V8,↓r_c,↓r_op,↓r_un,↓r_I,↓r_I0,↓r_U,↓Th,↓Ti,↓V9,↓Wa,↓Tj,↓r_if,↓r_B,↓Tn,↓Wb,↓r_or,↓Wc,↓P0,↓r_CB,↓We,↓Wg,↓Wi,↓Wj,↓r_sl,↓To,↓Nf,↓Wq,↓r_BM,↓Ng,↓Tp,↓Tq,↓r_Eq,↓r_Ne,↓P4,↓Tr,↓P5,↓Wk,↓r_ip,↓Ts,↓Tt,↓Wm,↓Nj,↓Wr,↓Ws,↓Nk,↓Qj,↓Ld,↓Tz,↓Qf,↓TB,↓TC,↓Nl,↓TF,↓Qg,↓TH,↓Nm,↓Nn,↓r_in,↓Tu,↓Lh,↓QH,Wx,↓Ll,Lv,W7,NJ,↓TX,↓Nt,↓Qv,↓Qw,↓Nv,↓QE,Wl,L2.start,jZ_,xQ_,jT_,qi_,x7_,xR_,qg_,qU,zj_,List.getElem?_cons_succ,zl_,List.set_cons_succ,zt_,V.int.injEq,V.str.injEq,V.ref.injEq,V.bl.injEq,xG_,and_true,true_and,and_assoc,exists_and_left,exists_eq_left',exists_eq_left,exists_eq_right,exists_eq,zs_,xb_,jY_,ql_,scal,Nat.reduceAdd,Nat.reduceSub,reduceCtorEq,z5_,zX_]))
local macro_rules|`(tactic|nofun)=>`(tactic|walk_at "rd")
set_option hygiene false in
local macro_rules|`(tactic|delta $x:ident)=>`(tactic|refine F.ok $x (fun vs H Q E h=>?_) (fun aA A outer s H vs Q E hr h=>?_))
set_option hygiene false in
local macro_rules|`(nofun)=>`(FnOk P w K mg base CX0)
set_option hygiene false in
local macro_rules|`(⋯)=>`(Cal P w K mg base CX0)
local macro_rules | `(tactic| walk_at "sc") => `(tactic| exact⟨rfl,rfl,rfl,by decide +kernel,rfl,by decide +kernel,by decide +kernel⟩)
def top (i:Nat):Stmt:=PySem.Challenge.pw_guessroom_k28_whole_suites_decide.main.body.getD i (.Pass ⟨0,0,0,0⟩)
abbrev FO:Stmt:=top 4
def OJ:FnScope ["letters","word"] ["letters","word"] (Al FO):=by walk_at "sc"
abbrev BQ:Stmt:=top 5
def Kn:FnScope ["letters","word"] ["letters","word"] (Al BQ):=by walk_at "sc"
abbrev Dz:Stmt:=top 6
def Ei:FnScope ["letters","word","kept"] ["letters","word"] (Al Dz):=by walk_at "sc"
abbrev ER:Stmt:=top 7
def DA:FnScope ["letters","most","words","word"] ["letters","most"] (Al ER):=by walk_at "sc"
abbrev Ko:Stmt:=top 9
def Hv:FnScope ["house","word","ways","rooms","letter"] ["house","word"] (Al Ko):=by walk_at "sc"
abbrev B0:Stmt:=top 10
def IY:FnScope ["house","word"] ["house","word"] (Al B0):=by walk_at "sc"
abbrev B1:Stmt:=top 11
def IZ:FnScope ["house","word"] ["house","word"] (Al B1):=by walk_at "sc"
abbrev Dc:Stmt:=top 13
def BB:FnScope ["house","words","rooms","walked","room","letter","goal"] ["house"] (Al Dc):=by walk_at "sc"
abbrev FP:Stmt:=top 14
def Jy:FnScope ["house","words"] ["house"] (Al FP):=by walk_at "sc"
abbrev Ej:Stmt:=top 15
def OK:FnScope ["house"] ["house"] (Al Ej):=by walk_at "sc"
abbrev ES:Stmt:=top 17
def Fp:FnScope ["row","numbers","thing"] ["row"] (Al ES):=by walk_at "sc"
abbrev A8:Stmt:=top 18
def Ax:FnScope ["house","words","marks_behind","classes","walked","letter","marks","finer"] ["house"] (Al A8):=by walk_at "sc"
abbrev Ek:Stmt:=top 19
def OL:FnScope ["house"] ["house"] (Al Ek):=by walk_at "sc"
abbrev CW:Stmt:=top 20
def Kp:FnScope ["house"] ["house"] (Al CW):=by walk_at "sc"
abbrev Kq:Stmt:=top 22
def FQ:FnScope ["house","classes","numbers","told","room"] ["house"] (Al Kq):=by walk_at "sc"
abbrev Io:Stmt:=top 23
def FT:FnScope ["house","home_of","marks","ways","room"] ["house"] (Al Io):=by walk_at "sc"
abbrev Ci:Stmt:=top 25
def Fq:FnScope ["words","once","word"] ["words"] (Al Ci):=by walk_at "sc"
abbrev Ba:Stmt:=top 26
def A0:FnScope ["house","word","rooms","letter"] ["house","word"] (Al Ba):=by walk_at "sc"
abbrev CF:Stmt:=top 27
def Bk:FnScope ["words","marks_behind","room","own","left","word","marks","still"] ["words","marks_behind","room"] (Al CF):=by walk_at "sc"
abbrev Bb:Stmt:=top 28
def Bv:FnScope ["house","words","marks_behind"] ["house"] (Al Bb):=by walk_at "sc"
abbrev Ct:Stmt:=top 29
def B2:FnScope ["base","more","ends","words","way","middle","first"] ["base","more","ends"] (Al Ct):=by walk_at "sc"
abbrev Kr:Stmt:=top 30
def Kt:FnScope ["house","more","base","words"] ["house","more"] (Al Kr):=by walk_at "sc"
abbrev NL:Stmt:=top 31
def Rf:FnScope ["house","more","base"] ["house","more"] (Al NL):=by walk_at "sc"
abbrev DB:Stmt:=top 32
def Lx:FnScope ["house","words"] ["house","words"] (Al DB):=by walk_at "sc"
abbrev Cm:Stmt:=top 33
def CL:FnScope ["house","some","trial"] ["house","some"] (Al Cm):=by walk_at "sc"
abbrev Hw:Stmt:=top 34
def Rg:FnScope ["house","some"] ["house","some"] (Al Hw):=by walk_at "sc"
abbrev Bl:Stmt:=top 36
def Ip:FnScope ["script","k"] ["script","k"] (Al Bl):=by walk_at "sc"
abbrev BC:Stmt:=top 37
def DC:FnScope ["number","k","many","turn"] ["number","k","many"] (Al BC):=by walk_at "sc"
abbrev B3:Stmt:=top 38
def AJ:FnScope ["number","rooms","way","top","marks","room","mark"] ["number","rooms"] (Al B3):=by walk_at "sc"
abbrev Cn:Stmt:=top 39
def AF:FnScope ["script","letters","rooms","shape","ways","room","row","letter","k","goal"] ["script","letters","rooms"] (Al Cn):=by walk_at "sc"
abbrev Cu:Stmt:=top 40
def A1:FnScope ["house","number","rooms","small","fold","ways","room","row","letter","goal","twins"] ["house","number","rooms"] (Al Cu):=by walk_at "sc"
abbrev B4:Stmt:=top 41
def AO:FnScope ["script","letters","rooms","marks","house","number"] ["script"] (Al B4):=by walk_at "sc"
abbrev Co:Stmt:=top 42
def El:FnScope ["script","house","number"] ["script","house"] (Al Co):=by walk_at "sc"
abbrev B5:Stmt:=top 43
def Bd:FnScope ["house","row","at","here","goal"] ["house"] (Al B5):=by walk_at "sc"
abbrev Cp:Stmt:=top 44
def Br:FnScope ["house","number","marks","ways","room","letter","same"] ["house","number"] (Al Cp):=by walk_at "sc"
abbrev BM:Stmt:=top 45
def A3:FnScope ["house","number","rooms","order","marks","ways","room"] ["house","number"] (Al BM):=by walk_at "sc"
abbrev Cq:Stmt:=top 46
def A9:FnScope ["house","row","turn","keys","known","key"] ["house"] (Al Cq):=by walk_at "sc"
abbrev DD:Stmt:=top 47
def BD:FnScope ["house","row","order","first","room","number","ways"] ["house"] (Al DD):=by walk_at "sc"
abbrev B6:Stmt:=top 48
def AG:FnScope ["house","script","many","base","number","way","most","rooms","marks","ways","rival"] ["house","script","many"] (Al B6):=by walk_at "sc"
abbrev B7:Stmt:=top 49
def AQ:FnScope ["house","other","known","row","at","here","letter","goal"] ["house","other"] (Al B7):=by walk_at "sc"
abbrev Vs:Stmt:=top 50
def FU:FnScope ["script","house","many","rival","due","pair","words","told"] ["script"] (Al Vs):=by walk_at "sc"
abbrev FV:Pos:=⟨105,34,105,64⟩
def Iq:Caps:=[("letter",none),("letters",some 0)]
def I0:(Caps.names Iq).Nodup:=by decide +kernel
def Ir:Caps:=[("room",none),("words",some 1)]
def Ja:(Caps.names Ir).Nodup:=by decide +kernel
def GQ:Caps:=[("thing",none),("numbers",some 1)]
def Iu:(Caps.names GQ).Nodup:=by decide +kernel
def Cv:Caps:=[("goals",none),("marks_behind",some 2),("walked",some 4),("letter",some 5)]
def Dd:(Caps.names Cv).Nodup:=by decide +kernel
def Lz:Caps:=[("goal",none),("home_of",some 1)]
def LA:(Caps.names Lz).Nodup:=by decide +kernel
def BR:Caps:=[("room",none),("letter",some 3),("house",some 0)]
def CM:(Caps.names BR).Nodup:=by decide +kernel
def BS:Caps:=[("room",none),("house",some 0)]
def CN:(Caps.names BS).Nodup:=by decide +kernel
def Em:Caps:=[("other",none),("marks",some 6),("room",some 2)]
def FW:(Caps.names Em).Nodup:=by decide +kernel
def BU:Caps:=[("word",none),("house",some 0)]
def CO:(Caps.names BU).Nodup:=by decide +kernel
def BV:Caps:=[("room",none),("words",some 1),("marks_behind",some 2)]
def CP:(Caps.names BV).Nodup:=by decide +kernel
def E6:Caps:=[("end",none),("first",some 6)]
def Gs:(Caps.names E6).Nodup:=by decide +kernel
def LB:Caps:=[("mark",none),("words",some 3)]
def LC:(Caps.names LB).Nodup:=by decide +kernel
def FX:Caps:=[("word",none),("house",some 0)]
def G2:(Caps.names FX).Nodup:=by decide +kernel
def E7:Caps:=[("twin",none),("goal",some 9),("fold",some 4)]
def Gu:(Caps.names E7).Nodup:=by decide +kernel
def E8:Caps:=[("room",none),("house",some 0)]
def Gv:(Caps.names E8).Nodup:=by decide +kernel
def DM:Caps:=[("row",none)]
def Fs:(Caps.names DM).Nodup:=by decide +kernel
def DO:Caps:=[("goal",none),("marks",some 2),("letter",some 5),("ways",some 3),("room",some 4)]
def Ft:(Caps.names DO).Nodup:=by decide +kernel
def DQ:Caps:=[("row",none)]
def Fu:(Caps.names DQ).Nodup:=by decide +kernel
def CY:Caps:=[("room",none),("number",some 1),("rooms",some 2)]
def Eo:(Caps.names CY).Nodup:=by decide +kernel
def CZ:Caps:=[("goal",none),("order",some 3)]
def Ep:(Caps.names CZ).Nodup:=by decide +kernel
def DR:Caps:=[("room",none),("row",some 1),("house",some 0)]
def Fv:(Caps.names DR).Nodup:=by decide +kernel
def DS:Caps:=[("goal",none),("row",some 1)]
def Fw:(Caps.names DS).Nodup:=by decide +kernel
def DT:Caps:=[("key",none),("known",some 4)]
def Fx:(Caps.names DT).Nodup:=by decide +kernel
def FY:Caps:=[("seen",none),("row",some 1)]
def G3:(Caps.names FY).Nodup:=by decide +kernel
def FZ:Caps:=[("room",none),("row",some 1)]
def G4:(Caps.names FZ).Nodup:=by decide +kernel
def F0:Caps:=[("room",none),("number",some 5),("row",some 1),("house",some 0)]
def G8:(Caps.names F0).Nodup:=by decide +kernel
def F1:Caps:=[("goal",none),("number",some 1),("row",some 2)]
def G9:(Caps.names F1).Nodup:=by decide +kernel
def E9:Caps:=[("room",none),("house",some 0)]
def Gw:(Caps.names E9).Nodup:=by decide +kernel
def De:Caps:=[("room",none),("house",some 0),("number",some 4)]
def EW:(Caps.names De).Nodup:=by decide +kernel
def Df:Caps:=[("room",none),("rooms",some 7),("number",some 4),("house",some 0)]
def EX:(Caps.names Df).Nodup:=by decide +kernel
def Dh:Caps:=[("k",none),("rooms",some 1),("number",some 2),("room",some 0)]
def EY:(Caps.names Dh).Nodup:=by decide +kernel
def Di:Caps:=[("row",none)]
def EZ:(Caps.names Di).Nodup:=by decide +kernel
structure Txt (mg:Str->α5):Prop where
 all:mg "all"=none
 bool:mg "bool"=none
 enumerate:mg "enumerate"=none
 isinstance:mg "isinstance"=none
 len:mg "len"=none
 list:mg "list"=none
 max:mg "max"=none
 min:mg "min"=none
 range:mg "range"=none
 sorted:mg "sorted"=none
 tuple:mg "tuple"=none
 zip:mg "zip"=none
section
variable {P:Program} {w:World} {K:α3} {mg:Str->α5} {base:Heap}
def Jz (K:α3):Sp:=fun vs H Q _=>∃(L:Int) (a:Addr) (ws:α2),vs=[.int L,.ref a]/\SqT K H a (ws.map V.int)/\ws.length<=1000/\∀H',Same H H'->Q (.bl (isW L ws)) H'
def OM   (F:Fun K "is_word" "is_word" FO f fd)(T:Txt mg)
  : nofun 1 f fd ["letters","word"] (Jz K):=by
 delta OJ
 ·obtain⟨L,a,ws,rfl,_⟩:=h;rfl
 ·obtain⟨L,a,ws,rfl,hw,hz,k⟩:=h
  have hl:=Ar
  refine⟨_,(Af (AH (Aq (RX rfl) rfl T.all vA (Aa (A5 rfl (A6 rfl) (cp:=Iq) ⟨⟨rfl,rfl⟩,qW⟩ (E3 (pvD 1)) (fun _ _ _ _=>(Am (i:=0) I0 rfl (qY rfl))) (fun _ _ _ _=>Bg) (fun _ _ _ _=>(RL VN HE Ae (pvD 0) (pvD 1)))) Ad)))),?_⟩
  nofun
  refine⟨⟨_,hw⟩,EJ (ag:=[some (.int L)]) (fun x=>match x with | .int n=>.bl (inW L n)|_=>.non) rfl hw (by rw[ja_];lia) (fun x hx R hR=>?_) (fun D hD=>?_)⟩
  ·obtain⟨n,_,rfl⟩:=CT hx
   nofun
   by_cases h0:0<=n
   ·simp only[h0,zs_]
    simpa [inW,h0] using hR
   ·simp only[h0,xb_]
    simpa [inW,h0] using hR
  ·refine⟨D,rfl,ws.map (inW L),.inl (.inl ?_),?_⟩
   ·rw[Ab,jU_,jU_];rfl
   ·have:=k _ (Same.new hD (o:=.lst ((ws.map V.int).map fun x=>match x with | .int n=>.bl (inW L n)|_=>.non)))
    simpa [isW,vp] using this
def Hx (K:α3):Sp:=fun vs H Q E=>∃(L:Int) (a:Addr) (ws:α2),vs=[.int L,.ref a]/\SqT K H a (ws.map V.int)/\ws.length<=1000/\(isW L ws=true->∀H',Same H H'->Q .non H')/\(isW L ws=false->False)
def Ku   (F:Fun K "check_word" "check_word" BQ f fd)(T:Txt mg)
   (jK:⋯ 1 "is_word" FO ["letters","word"] (Jz K) LD JA)
  : nofun 2 f fd ["letters","word"] (Hx K):=by
 delta Kn
 ·obtain⟨L,a,ws,rfl,_⟩:=h;rfl
 ·obtain⟨L,a,ws,rfl,hw,hz,k,kE⟩:=h
  have hl:=Ar
  refine⟨_,(Af (BI (S6 (ptB (S5 (Ai jK hr.d AL (Aa (pvD 0) (Aa (pvD 1) Ad))))))
   (Af RG)
   AK)),?_⟩
  nofun
  refine⟨L,a,ws,rfl,hw,hz,fun H' s'=>?_⟩
  nofun
  cases hv:isW L ws with
  |true=>
   simp only[z5_,jY_,xb_]
   exact k hv H' s'
  |false=>
   simp only[zX_,zs_]
   exact (kE hv).elim
def NM (K:α3):Sp:=fun vs H Q E=>∃(L:Int) (a:Addr) (ws:α2),vs=[.int L,.ref a]/\SqT K H a (ws.map V.int)/\ws.length<=990/\(isW L ws=true->∀p H',Same H H'->H' p=some (.tup ((Ee L ws).map V.int))->Q (.ref p) H')/\(isW L ws=false->False)
def LF   (F:Fun K "next_word" "next_word" Dz f fd)(T:Txt mg)
   (cU:⋯ 2 "check_word" BQ ["letters","word"] (Hx K) C0 CG)
  : nofun 3 f fd ["letters","word"] (NM K):=by
 delta Ei
 ·obtain⟨L,a,ws,rfl,_⟩:=h;rfl
 ·obtain⟨L,a,ws,rfl,hw,hz,k',kE⟩:=h
  have hl:=Ar
  refine⟨_,(Ac (Bc (Ai cU hr.d AL (Aa (pvD 0) (Aa (pvD 1) Ad))))
   (Ac (Ak (i:=2) Ei.nd (Aq (lenD Aj) (by rfl) T.len jI_ (Aa (pvD 1) Ad)))
   (Ac (Dp jJ_ (PW.pt (GH (ptT (As (opD0 Uz) (pvD 2) Ae (AI _))) (D7 (ptT (As (opE Cb) (Ag (ixTD Ao) (pvD 1) (An (opD0 CQ) (pvD 2) Ae)) (An (opD0 CQ) (pvD 0) Ae) (AI _))))))
   (Af (O4 (i:=2) Ei.nd rfl (qY rfl) Ae VI)))
   (Ac (BI (ptT (As (opE Cb) (pvD 2) Ae (AI _)))
   (Af (AH (An Qa (Bx (Aa Ae Ad)) (An (opD0 AY) (Aq (lenD Aj) (by rfl) T.len jI_ (Aa (pvD 1) Ad)) Ae))))
   AK)
   (Af (AH (An EK (An EK (RQ VU (pvD 1) UE (UG (An (opD0 CQ) (pvD 2) Ae))) (Bx (Aa (An (opD0 AY) (Ag (ixTD Ao) (pvD 1) (An (opD0 CQ) (pvD 2) Ae)) Ae) Ad))) (An Qa (Bx (Aa Ae Ad)) (An (opD0 CQ) (Aq (lenD Aj) (by rfl) T.len jI_ (Aa (pvD 1) Ad)) (pvD 2)))))))))),?_⟩
  nofun
  refine⟨L,a,ws,rfl,hw,by lia,fun hv H1 s1=>?_,kE⟩
  have k:=k' hv
  nofun
  have dE:=s1.seqT hw
  refine⟨_,.inr dE,?_⟩
  rw[ja_]
  obtain⟨Pv,ar⟩:∃Pv:Nat->St->Hp->Prop,∀m aj H2,Pv m aj H2↔(H2=H1/\∃kept:Nat,m=kept/\kept<=ws.length/\(∀j,kept<=j->j<ws.length->ws[j]?=some (L-1))/\aj=[some (.int L),some (.ref a),some (.int kept)]):=⟨_,fun _ _ _=>qk_⟩
  refine HS Pv ⟨ws.length,(ar _ _ _).mpr ⟨rfl,ws.length,rfl,jg_ _,fun j h1 h2=>absurd h2 s!"",rfl⟩⟩ ?_
  intro m aj H2 hp
  obtain⟨rfl,kept,em,hk,hj,rfl⟩:=(ar _ _ _).mp hp
  nofun
  by_cases h0:0<kept
  ·have au:kept-1<ws.length:=by lia
   have hx:ws[kept-1]?=some (ws[kept-1]'au):=by simp[au]
   have ax:atI (ws.map V.int) ((kept:Int)-1)=some (V.int (ws[kept-1]'au)):=Cc s!"" (by rw[je_,show ((kept:Int)-1).toNat=kept-1 by lia,hx];rfl)
   rw[if_pos (show (0:Int)<kept by lia)]
   refine⟨_,dE,_,ax,?_⟩
   nofun
   refine ite2 (fun he=>?_) (fun ay=>?_)
   ·refine⟨fun ag H'=>H'=H2/\ag=[some (.int L),some (.ref a),some (.int ((kept:Int)-1))],fun ag H' h=>?_,rfl,rfl⟩
    obtain⟨rfl,rfl⟩:=h
    refine⟨kept-1,by lia,(ar _ _ _).mpr ⟨rfl,kept-1,rfl,by lia,fun j h1 h2=>?_,by rw[show ((kept-1:Nat):Int)=(kept:Int)-1 by lia]⟩⟩
    by_cases e:j=kept-1
    ·subst e;rw[hx,he]
    ·exact hj j s!"" h2
   ·-- return word[:kept-1]+(word[kept-1]+1,)+(0,) * ..
    rw[if_neg (show ¬ (kept:Int)=0 by lia)]
    have hcut:¬ (HT.sIx (ws.map V.int).length 0 none=0/\HT.sIx (ws.map V.int).length (ws.map V.int).length (some ((kept:Int)-1))=(ws.map V.int).length):=by
     rintro⟨_,h2⟩
     rw[show (kept:Int)-1=((kept-1:Nat):Int) by lia,HT.sIx_nat,ja_]at h2
     lia
    have ecut:cutV (ws.map V.int) none (some ((kept:Int)-1))=(ws.take (kept-1)).map V.int:=by
     rw[RZ]
     unfold cutI
     rw[show (kept:Int)-1=((kept-1:Nat):Int) by lia,HT.sIx_nat,HT.sIx_none,uD,Nat.sub_zero]
     congr 2
     lia
    refine⟨_,dE,hcut,fun p1 bw=>?_⟩
    rw[ecut]
    have t1:Same H2 (upd H2 p1 (.tup ((ws.take (kept-1)).map V.int))):=Same.new bw
    have q1:(upd H2 p1 (.tup ((ws.take (kept-1)).map V.int))) p1=some (.tup ((ws.take (kept-1)).map V.int)):=Ab
    generalize upd H2 p1 (.tup ((ws.take (kept-1)).map V.int))=H3 at t1 q1 ⊢
    refine⟨_,t1.seqT dE,_,ax,?_⟩
    nofun
    refine⟨by lia,fun p2 aN=>?_⟩
    refine E4.ofS ((Same.new aN) _ _ q1) Ab (by simp;lia) fun p3 H4 t4 q3=>?_
    nofun
    have t5:Same H2 H4:=(t1.newT aN).trans t4
    refine⟨by lia,fun p4 eC=>?_⟩
    have mM:=(Same.new eC (o:=.tup [V.int 0])) _ _ q3
    have w4:=((t5.newT eC (o:=.tup [V.int 0])).seqT dE)
    have t6:=t5.newT eC (o:=.tup [V.int 0])
    have z4:(upd H4 p4 (.tup [V.int 0])) p4=some (.tup [V.int 0]):=Ab
    generalize upd H4 p4 (.tup [V.int 0])=H5 at mM w4 t6 z4 ⊢
    refine⟨_,.inr w4,?_⟩
    refine P9.ofS z4 (by simp) s!"" (by rw[ja_];lia) (by simp;lia) fun p5 H6 t7 q5=>?_
    refine E4.ofS (t7 _ _ mM) q5 (by simp[HV];lia) fun p6 H7 t8 q6=>?_
    refine k p6 H7 (s1.trans (t6.trans (t7.trans t8))) ?_
    have e:=Lb (L:=L) (w:=ws) (k:=kept-1) au (fun j h1 h2=>hj j s!"" h2) hx (by intro z;exact ay (by rw[z]))
    rw[e]
    rw[HV]at q6
    have en:(((ws.map V.int).length:Int)-(kept:Int)).toNat=ws.length-(kept-1+1):=by rw[ja_];lia
    rw[en]at q6
    simpa [jS_,zm_] using q6
  ·have h00:kept=0:=by lia
   subst h00
   rw[if_neg s!""]
   nofun
   refine⟨by lia,fun p1 bw=>?_⟩
   refine⟨_,.inr ((Same.new bw).seqT dE),?_⟩
   refine P9.ofS Ab (by simp) s!"" (by rw[ja_];lia) (by simp;lia) fun p5 H6 t7 q5=>?_
   refine k p5 H6 (s1.trans ((Same.new bw).trans t7)) ?_
   rw[Md (L:=L) (w:=ws) hj]
   rw[HV]at q5
   have en:(((ws.map V.int).length:Int)+1).toNat=ws.length+1:=by rw[ja_];lia
   rw[en]at q5
   simpa [zm_] using q5
def Uc (K:α3):Sp:=fun vs H Q _=>∃(L:Int) (m:Nat),vs=[.int L,.int m]/\1<=L/\L<=6/\m<=8/\many L (m+1)<=4000/\∀p xs H',Same H H'->H p=none->H' p=some (.lst xs)->AD K H' xs ((qV (many L (m+1)).toNat).map (nth L))->Q (.ref p) H'
def ME   (F:Fun K "words_to" "words_to" ER f fd)(T:Txt mg)
   (jL:⋯ 3 "next_word" Dz ["letters","word"] (NM K) Iv GR)
  : nofun 4 f fd ["letters","most"] (Uc K):=by
 delta DA
 ·obtain⟨L,m,rfl,_⟩:=h;rfl
 ·obtain⟨L,m,rfl,cV,cW,hm,bq,k⟩:=h
  have hl:=Ar
  refine⟨_,(Ac (Ak (i:=2) DA.nd (Bp Ad))
   (Ac (Ak (i:=3) DA.nd (Bx Ad))
   (Ac (Dp jJ_ (ptT (As (opD0 VN) (Aq (lenD Aj) (by rfl) T.len jI_ (Aa (pvD 3) Ad)) (pvD 1) (AI _)))
   (Ac (Bc (C5 jD_ jM_ jN_ AS (pvD 2) (Aa (pvD 3) Ad)))
   (Af (Ak (i:=3) DA.nd (Ai jL hr.d AL (Aa (pvD 0) (Aa (pvD 3) Ad)))))))
   (Af (AH (pvD 2)))))),?_⟩
  nofun
  refine⟨by lia,fun p hp=>⟨by lia,fun t ht=>?_⟩⟩
  have iJ:p≠t:=fun z=>by rw[<-z,Ab]at ht;cases ht
  obtain⟨Pv,ar⟩:∃Pv:Nat->St->Hp->Prop,∀m' aj H2,Pv m' aj H2↔(∃(n:Nat) (t2:Addr) (xs:List V),m'=((many L (m+1)).toNat-n)/\n<=(many L (m+1)).toNat/\Same H H2/\H2 p=some (.lst xs)/\AD K H2 xs ((qV n).map (nth L))/\H2 t2=some (.tup ((nth L n).map V.int))/\aj=[some (.int L),some (.int m),some (.ref p),some (.ref t2)]):=⟨_,fun _ _ _=>qk_⟩
  refine HS Pv ⟨_,(ar _ _ _).mpr ⟨0,t,[],rfl,jX_ _,(Same.new hp).newT ht,by rw[Ah iJ,Ab],AD.nil,Ab,rfl⟩⟩ ?_
  intro m' aj H2 dF
  obtain⟨n,t2,xs,rfl,hn,s2,mN,hW,hT,rfl⟩:=(ar _ _ _).mp dF
  have hv:=C6 (show 0<L by lia) n
  have eT:=EL (show 0<L by lia) hv m
  rw[Ef]at eT
  have fK:=Cf (show 0<L by lia) (m+1)
  have bO:=hW.1
  rw[ja_,qd_]at bO
  nofun
  refine⟨_,.inr (SqT.of hT),?_⟩
  rw[ja_]
  refine ite2 (fun aS=>?_) (fun lr=>?_)
  ·have jM:(nth L n).length<=m:=by lia
   have au:=eT.mp jM
   refine⟨fun ag H'=>∃t3 lJ,ag=[some (.int L),some (.int m),some (.ref p),some (.ref t3)]/\Same H H'/\H' p=some (.lst lJ)/\AD K H' lJ ((qV (n+1)).map (nth L))/\H' t3=some (.tup ((nth L (n+1)).map V.int)),fun ag H' h=>?_,?_⟩
   ·obtain⟨t3,lJ,rfl,s3,cX,pP,mO⟩:=h
    exact⟨_,by lia,(ar _ _ _).mpr ⟨n+1,t3,lJ,rfl,by lia,s3,cX,pP,mO,rfl⟩⟩
   ·have ak:=Oc (show 0<L by lia) n
    have hT':=TK.lst mN (o:=.lst (xs++[V.ref t2])) _ _ hT
    refine⟨.inl ⟨rfl,_,SqL.of mN⟩,_,mN,by lia,L,t2,nth L n,rfl,SqT.of hT',by lia,fun _ t3 H3 s3 mO=>?_,fun hf=>by rw[hv]at hf;cases hf⟩
    refine⟨t3,xs++[V.ref t2],rfl,(s2.over hp).trans s3,s3 _ _ Ab,?_,mO⟩
    rw[xT_,jS_]
    exact ((hW.mono (TK.lst mN)).snoc hT').mono (TK.of s3)
  ·have bu:¬ (nth L n).length<=m:=by lia
   have hnl:¬ ((n:Int)<many L (m+1)):=fun z=>bu (eT.mpr z)
   have e:n=(many L (m+1)).toNat:=by lia
   subst e
   nofun
   exact k p xs H2 s2 hp mN hW
def NN (K:α3):Sp:=fun vs H Q E=>∃(h a:Addr) (L:Int) (aa:α2) (ae:α1) (ws:α2),vs=[.ref h,.ref a]/\AZ K H h L aa ae/\Wf L aa ae/\SqT K H a (ws.map V.int)/\ws.length<=600/\(isW L ws=true->∀p H',Same H H'->H p=none->H' p=some (.lst ((Jj ae ws).map V.int))->Q (.ref p) H')/\(isW L ws=false->False)
def SR   (F:Fun K "trail" "trail" Ko f fd)(T:Txt mg)
   (cU:⋯ 2 "check_word" BQ ["letters","word"] (Hx K) C0 CG)
  : nofun 3 f fd ["house","word"] (NN K):=by
 delta Hv
 ·obtain⟨h,a,L,aa,ae,ws,rfl,_⟩:=h;rfl
 ·obtain⟨h,a,L,aa,ae,ws,rfl,hh,wf,hw,hz,k,kE⟩:=h
  have hl:=Ar
  refine⟨_,(Ac (Bc (Ai cU hr.d AL (Aa (Ag (ixTD Ao) (pvD 0) Ae) (Aa (pvD 1) Ad))))
   (Ac (Ak (i:=2) Hv.nd (Ag (ixTD Ao) (pvD 0) Ae))
   (Ac (Ak (i:=3) Hv.nd (Bp (Aa Ae Ad)))
   (Ac (Bs jJ_ rfl (E3 (pvD 1)) (Am (i:=4) Hv.nd rfl (qY rfl))
   (Af (Bc (C5 jD_ jM_ jN_ AS (pvD 3) (Aa (Ag (ixTD Ao) (Ag (ixTD Ao) (pvD 2) (Ag (ixLD AX) (pvD 3) (VM Ta Ae))) (pvD 4)) Ad)))))
   (Af (AH (pvD 3))))))),?_⟩
  nofun
  obtain⟨m,wv,h1,h2,h3⟩:=hh
  refine⟨_,h1,_,rfl,L,a,ws,rfl,hw,by lia,fun hv H1 s1=>?_,kE⟩
  nofun
  have dE:=s1.seqT hw
  have h3':=h3.mono s1
  refine⟨_,s1.seqT h1,_,rfl,by lia,fun p hp=>?_⟩
  have s2:=Same.new hp (o:=.lst [V.int 0])
  refine⟨⟨_,s2.seqT dE⟩,forT (xs:=ws.map V.int) (fun i aj H2=>Same H1 H2/\H2 p=some (.lst (((qV (i+1)).map fun j=>AB ae (ws.take j)).map V.int))/\∃o,aj=[some (.ref h),some (.ref a),some (.ref wv),some (.ref p),o]) ⟨s2,by rw[Ab];simp[AB],none,rfl⟩ (fun i aj H2 _ h=>h.1.seqT dE) (fun i x aj H2 hx h=>?_) (fun aj H2 h=>?_)⟩
  ·obtain⟨s3,cX,o,rfl⟩:=h
   obtain⟨n,hn,rfl⟩:=Ck hx
   have hi:=(jb_.mp hn).1
   have hx:=Ay.mp hv n (jc_ hn)
   have gY:=wf.walk hv i
   obtain⟨row,g,r1,r2,r3,r4,r5⟩:=wf.step gY.1 gY.2 hx.1 hx.2
   obtain⟨xs,t,q1,q2,q3⟩:=(h3'.mono s3).atZ gY.1 r1
   nofun
   refine⟨.inl ⟨rfl,_,SqL.of cX⟩,_,SqL.of cX,_,Qe (v:=V.int (AB ae (ws.take i))) (by simp),?_⟩
   nofun
   refine⟨_,q1,_,q2,?_⟩
   nofun
   refine⟨_,q3,_,A7 hx.1 r2,_,cX,by simp;lia,s3.over hp,?_,_,rfl⟩
   rw[Ab,show qV (i+1+1)=qV (i+1)++[i+1] from xT_,jS_,jS_,<-r3,<-Jk hn]
   rfl
  ·obtain⟨s3,cX,o,rfl⟩:=h
   nofun
   rw[ja_]at cX
   exact k hv p H2 (s1.trans s3) (s1.free hp) cX
def MF (K:α3):Sp:=fun vs H Q E=>∃(h a:Addr) (L:Int) (aa:α2) (ae:α1) (ws:α2),vs=[.ref h,.ref a]/\AZ K H h L aa ae/\Wf L aa ae/\SqT K H a (ws.map V.int)/\ws.length<=600/\(isW L ws=true->∀H',Same H H'->Q (.int (AB ae ws)) H')/\(isW L ws=false->False)
def Jb   (F:Fun K "room_behind" "room_behind" B0 f fd)(T:Txt mg)
   (gv:⋯ 3 "trail" Ko ["house","word"] (NN K) Rh NO)
  : nofun 4 f fd ["house","word"] (MF K):=by
 delta IY
 ·obtain⟨h,a,L,aa,ae,ws,rfl,_⟩:=h;rfl
 ·obtain⟨h,a,L,aa,ae,ws,rfl,hh,wf,hw,hz,k,kE⟩:=h
  have hl:=Ar
  refine⟨_,(Af (AH (Ag (ixLD AX) (Ai gv hr.d AL (Aa (pvD 0) (Aa (pvD 1) Ad))) (VM Ta Ae)))),?_⟩
  nofun
  refine⟨h,a,L,aa,ae,ws,rfl,hh,wf,hw,hz,fun hv p H1 s1 _ hp=>?_,kE⟩
  nofun
  refine⟨_,SqL.of hp,_,Qe (v:=V.int (AB ae ws)) ?_,k hv H1 s1⟩
  rw[je_,ja_,JZ,show ws.length+1-1=ws.length by lia,Me];rfl
def MG (aa:α2)(r:Int):Int:=aa.getD r.toNat 0
def SS   (h0:0<=r)(h1:r<aa.length):atI (aa.map V.int) r=some (V.int (MG aa r)):=by
 have au:r.toNat<aa.length:=by lia
 refine A7 h0 ?_
 unfold MG
 rw[jj_]
 simp[au]
def MK (K:α3):Sp:=fun vs H Q E=>∃(h a:Addr) (L:Int) (aa:α2) (ae:α1) (ws:α2),vs=[.ref h,.ref a]/\AZ K H h L aa ae/\Wf L aa ae/\SqT K H a (ws.map V.int)/\ws.length<=600/\(isW L ws=true->∀H',Same H H'->Q (.int (MG aa (AB ae ws))) H')/\(isW L ws=false->False)
def Jc   (F:Fun K "mark_behind" "mark_behind" B1 f fd)(T:Txt mg)
   (fi:⋯ 4 "room_behind" B0 ["house","word"] (MF K) DE C3)
  : nofun 5 f fd ["house","word"] (MK K):=by
 delta IZ
 ·obtain⟨h,a,L,aa,ae,ws,rfl,_⟩:=h;rfl
 ·obtain⟨h,a,L,aa,ae,ws,rfl,hh,wf,hw,hz,k,kE⟩:=h
  have hl:=Ar
  refine⟨_,(Af (AH (Ag (ixTD Ao) (Ag (ixTD Ao) (pvD 0) Ae) (Ai fi hr.d AL (Aa (pvD 0) (Aa (pvD 1) Ad)))))),?_⟩
  nofun
  have pQ:=hh
  obtain⟨m,wv,h1,h2,h3⟩:=hh
  refine⟨_,h1,_,rfl,?_⟩
  nofun
  refine⟨h,a,L,aa,ae,ws,rfl,pQ,wf,hw,hz,fun hv H1 s1=>?_,kE⟩
  nofun
  have gY:=wf.walk hv ws.length
  rw[jP_]at gY
  exact⟨_,s1.seqT h2,_,SS gY.1 gY.2,k hv H1 s1⟩
def Er (K:α3)(H:Hp)(d:Addr)(ents:List (Int×α2)):Prop:=∃kvs:List (Key×V),H d=some (.dK kvs)/\kvs.length=ents.length/\∀(i:Nat) (e:Int×α2),ents[i]?=some e->∃t,kvs[i]?=some (qX e.1,V.ref t)/\H t=some (.tup (e.2.map V.int))
def W8     (hp:H p=some (.dK kvs))(h:H t=some (.tup xs)):upd H p (.dK a7) t=some (.tup xs):=by
 rw[Ah (fun z=>by rw[z,hp]at h;cases h)];exact h
def Er.mono {K:α3}   {ents:List (Int×α2)}(h:Er K H d ents)(s:Same H H'):Er K H' d ents:=by
 obtain⟨kvs,h1,h2,h3⟩:=h
 refine⟨kvs,s _ _ h1,h2,fun i e he=>?_⟩
 obtain⟨t,a,b⟩:=h3 i e he
 exact⟨t,a,s _ _ b⟩
def Er.off {K:α3}   {ents:List (Int×α2)}  (h:Er K H d ents)(hp:H p=some (.lst zs)):Er K (upd H p (.lst ys)) d ents:=by
 obtain⟨kvs,h1,h2,h3⟩:=h
 refine⟨kvs,by rw[Ah (fun z=>by rw[z,hp]at h1;cases h1)];exact h1,h2,fun i e he=>?_⟩
 obtain⟨t,a,b⟩:=h3 i e he
 exact⟨t,a,TK.lst hp _ _ b⟩
def Er.no {K:α3}   {ents:List (Int×α2)}(h:Er K H d ents)  (hg:g∉ents.map (·.1)):DGet H d (.int g) none:=by
 obtain⟨kvs,h1,h2,h3⟩:=h
 have e:valV kvs (qX g:Key)=none:=by
  unfold valV
  rw[rW,xt_]
  intro kv gh
  obtain⟨i,hi,e⟩:=jO_ gh
  obtain⟨t,a,_⟩:=h3 i ents[i] (by simp[show i<ents.length by lia])
  have e2:kvs[i]?=some kv:=by rw[jh_ hi,e]
  rw[e2]at a
  cases a
  simp only[ql_]
  intro z
  injection z with z
  exact hg (jt_.mpr ⟨ents[i],j3_ _,z⟩)
 have:=DGet.k (k:=(qX g:Key)) h1
 rw[e]at this
 exact this
def Er.yes {K:α3}{H:Hp}{d:Addr}{ents:List (Int×α2)}(h:Er K H d ents)(nod:(ents.map (·.1)).Nodup){g:Int}{w:α2}(hg:(g,w)∈ents):∃t,DGet H d (.int g) (some (.ref t))/\H t=some (.tup (w.map V.int)):=by
 obtain⟨kvs,h1,h2,h3⟩:=h
 obtain⟨i,hi,ei⟩:=jO_ hg
 have ei':ents[i]?=some (g,w):=by rw[jh_ hi,ei]
 obtain⟨t,a,b⟩:=h3 i _ ei'
 refine⟨t,?_,b⟩
 have hf:valV kvs (qX g:Key)=some (.ref t):=by
  unfold valV
  cases hq:kvs.find? (fun kv=>decide (kv.1=(qX g:Key))) with
  |none=>
   rw[xt_]at hq
   have:=hq _ (jc_ a)
   simp at this
  |some kv=>
   have hk:=zP_ hq
   simp only[ql_]at hk
   obtain⟨j,hj,ej⟩:=jO_ (q7_ hq)
   have ck:j<ents.length:=by lia
   obtain⟨t',a',b'⟩:=h3 j ents[j] (by simp[ck])
   have e2:kvs[j]?=some kv:=by rw[jh_ hj,ej]
   rw[e2]at a'
   have a2:kv=(qX ents[j].1,V.ref t'):=jr_ a'
   rw[a2]at hk
   have dR:ents[j].1=g:=by injection hk
   have ij:i=j:=by
    refine (xL_ (h₀:=by simpa using hi) (h₁:=by simpa using ck) nod).mp ?_
    simp[ei,dR]
   subst ij
   rw[e2]at a
   have a3:kv=(qX g,V.ref t):=jr_ a
   rw[a3];rfl
 have:=DGet.k (k:=(qX g:Key)) h1
 rw[hf]at this
 exact this
def Er.put {K:α3}{H:Hp}{d t:Addr}{ents:List (Int×α2)}{g:Int}{w:α2}(h:Er K H d ents)(hg:g∉ents.map (·.1))(hz:ents.length<1000)(ht:H t=some (.tup (w.map V.int))):∃H',DPut H d (.int g) (.ref t) H'/\(∃kvs a7,H d=some (.dK kvs)/\H'=upd H d (.dK a7))/\Er K H' d (ents++[(g,w)]):=by
 have dq:=h.no hg
 obtain⟨kvs,h1,h2,h3⟩:=h
 have hl:=Ar
 have hv:valV kvs (qX g:Key)=none:=by
  rcases dq with ⟨a7,k,e,ey,er⟩|⟨a7,k,b,e,ey,_⟩
  ·have e1:a7=kvs:=by
    rcases e with e|⟨o,e⟩
    ·rw[h1]at e;cases e;rfl
    ·rw[h1]at e;cases e
   subst e1
   cases k with
   |inl m=>
    have:m=g:=by injection ey with ey;exact ey.symm
    subst this
    exact er.symm
   |inr m=>cases ey
  ·cases ey
 have hp:putK kvs (qX g:Key) (V.ref t)=kvs++[(qX g,V.ref t)]:=by
  unfold putK
  rw[CS,hv]
  rfl
 refine⟨_,DPut.k (k:=(qX g:Key)) h1 s!"",⟨kvs,_,h1,rfl⟩,kvs++[(qX g,V.ref t)],by rw[Ab,hp],by simp[h2],fun i e he=>?_⟩
 by_cases hi:i<ents.length
 ·rw[jd_ hi]at he
  obtain⟨t',a,b⟩:=h3 i e he
  exact⟨t',by rw[jd_ s!""];exact a,W8 h1 b⟩
 ·have au:=(jb_.mp he).1
  rw[jk_,jR_]at au
  have e1:i=ents.length:=by lia
  subst e1
  rw[jm_ (jg_ _),qb_]at he
  simp at he
  subst he
  exact⟨t,by rw[jm_ s!"",h2,qb_];rfl,W8 h1 ht⟩
def Gx (K:α3):Sp:=fun vs H Q _=>∃(h:Addr) (L:Int) (aa:α2) (ae:α1),vs=[.ref h]/\AZ K H h L aa ae/\Wf L aa ae/\∀d top H',Same H H'->H d=none->Er K H' d (Aw ae)->Bfs L aa.length ae (Aw ae) (Aw ae).length top->Q (.ref d) H'
def ML   (F:Fun K "words_in" "words_in" Dc f fd)(T:Txt mg)
  : nofun 1 f fd ["house"] (Gx K):=by
 delta BB
 ·obtain⟨h,L,aa,ae,rfl,_⟩:=h;rfl
 ·obtain⟨h,L,aa,ae,rfl,hh,wf,k⟩:=h
  have hl:=Ar
  have cV:=wf.l1
  have b8:=wf.n1
  have aO:=wf.n40
  refine⟨_,(@Ac _ _ _ _ _ (@UU _ 1 _ _ _ _ _ _ _ _ BB.nd rfl (qY rfl) Ae (Bx Ad) rfl (qY rfl))
   (Ac (Ak (i:=2) BB.nd (Bp (Aa Ae Ad)))
   (Ac (Ak (i:=3) BB.nd Ae)
   (Ac (Dp jJ_ (ptT (As (opD0 HE) (pvD 3) (Aq (lenD Aj) (by rfl) T.len jI_ (Aa (pvD 2) Ad)) (AI _)))
   (Ac (Ak (i:=4) BB.nd (Ag (ixLD AX) (pvD 2) (pvD 3)))
   (Ac (Bs jJ_ rfl (R5 rfl T.enumerate (Ag (ixTD Ao) (Ag (ixTD Ao) (pvD 0) Ae) (pvD 4))) (S7 rfl (Hh (Am (i:=5) BB.nd rfl (qY rfl)) (Hh (Am (i:=6) BB.nd rfl (qY rfl)) O3)))
   (Af (BI (O1 (HK (HI hr) (pvD 6) (pvD 1)))
   (Ac (JS (HI hr) (pvD 1) (pvD 6) (An EK (PM (HI hr) (pvD 1) (pvD 4) (fun _ _=>rfl)) (Bx (Aa (pvD 5) Ad))) rfl)
   (Af (Bc (C5 jD_ jM_ jN_ AS (pvD 2) (Aa (pvD 6) Ad)))))
   AK)))
   (Af (O4 (i:=3) BB.nd rfl (qY rfl) Ae S8)))))
   (Af (AH (pvD 1))))))),?_⟩
  nofun
  intro p hp
  refine⟨by lia,fun p1 bw=>⟨Same.new bw _ _ Ab,[(qX 0,V.ref p1)],rfl,by simp,by lia,fun p2 aN=>?_⟩⟩
  have iE:GJ [] [((qX 0:Key),V.ref p1)]=[((qX 0:Key),V.ref p1)]:=rfl
  rw[iE]at aN ⊢
  have hne1:p1≠p:=(Av bw).2
  have iK:p2≠p:=(Av aN).2
  have s0:Same H (upd (upd (upd (upd H p (.dK [])) p1 (.tup [])) p (.dK [(qX 0,V.ref p1)])) p2 (.lst [V.int 0])):=(((Same.new hp).newT bw).over hp).newT aN
  have mP:Er K (upd (upd (upd (upd H p (.dK [])) p1 (.tup [])) p (.dK [(qX 0,V.ref p1)])) p2 (.lst [V.int 0])) p [(0,[])]:=by
   refine⟨[(qX 0,V.ref p1)],Same.new aN _ _ Ab,rfl,fun i e he=>?_⟩
   cases i with
   |zero=>
    simp at he
    subst he
    refine⟨p1,rfl,?_⟩
    refine Same.new aN _ _ ?_
    rw[Ah hne1];exact Ab
   |succ i=>simp at he
  have dh:upd (upd (upd (upd H p (.dK [])) p1 (.tup [])) p (.dK [(qX 0,V.ref p1)])) p2 (.lst [V.int 0]) p2=some (.lst ((([(0,[])]:List (Int×α2)).map (·.1)).map V.int)):=Ab
  have iL:H p2=none:=by
   have h1:=(Av aN).1
   have h2:=(Av h1).1
   exact (Av h2).1
  generalize upd (upd (upd (upd H p (.dK [])) p1 (.tup [])) p (.dK [(qX 0,V.ref p1)])) p2 (.lst [V.int 0])=H0 at s0 mP dh ⊢
  clear bw aN iE
  obtain⟨Pv,ar⟩:∃Pv:Nat->St->Hp->Prop,∀m aj H2,Pv m aj H2↔(∃(ents:List (Int×α2)) (i:Nat) (top:Int) (o4 o5 o6:Option V),m=aa.length+1-i/\Same H H2/\Er K H2 p ents/\H2 p2=some (.lst ((ents.map (·.1)).map V.int))/\Bfs L aa.length ae ents i top/\(∀e,ents[i]?=some e->top<=Au L e.2*L+1)/\bfs ae (aa.length+1-i) ents i=Aw ae/\aj=[some (.ref h),some (.ref p),some (.ref p2),some (.int i),o4,o5,o6]):=⟨_,fun _ _ _=>qk_⟩
  refine HS Pv ⟨_,(ar _ _ _).mpr ⟨[(0,[])],0,1,none,none,none,rfl,s0,mP,dh,Bfs.start L b8 ae,fun e he=>?_,by unfold Aw;rw[wf.len];rfl,rfl⟩⟩ ?_
  ·simp at he;subst he;simp[Au,AU]
  intro m aj H2 dF
  obtain⟨ents,i,top,o4,o5,o6,rfl,s2,nI,di,bf,gw,bC,rfl⟩:=(ar _ _ _).mp dF
  have pS:=bf.len
  nofun
  refine⟨_,.inl (SqL.of di),?_⟩
  rw[ja_,ja_]
  refine ite2 (fun au=>?_) (fun bu=>?_)
  ·have hi:i<ents.length:=by lia
   obtain⟨e,he⟩:∃e,ents[i]?=some e:=⟨ents[i],by simp[hi]⟩
   obtain⟨r,w⟩:=e
   have a6:=jc_ he
   have bA:=bf.rng _ a6
   have htop':top<=Au L w*L+1:=gw _ he
   obtain⟨row,hrow,eE,cG⟩:=wf.row bA.1 bA.2
   have mD:ae.getD r.toNat []=row:=by rw[jj_,hrow];rfl
   obtain⟨mm,wv,q1,q2,q3⟩:=id hh
   obtain⟨xs,t,z1,z2,z3⟩:=q3.atZ bA.1 hrow
   refine⟨Pv (aa.length+1-(i+1)),fun ag H' h=>⟨_,by lia,h⟩,?_⟩
   refine⟨_,SqL.of di,_,A7 (v:=r) s!"" (by rw[ji_,je_,he];rfl),?_⟩
   nofun
   refine⟨_,s2.seqT q1,_,rfl,?_⟩
   nofun
   refine⟨_,s2.seqT z1,_,z2,?_⟩
   nofun
   refine⟨_,s2.seqT z3,?_⟩
   obtain⟨Pn,bU⟩:∃Pn:Nat->St->Hp->Prop,∀x aC H3,Pn x aC H3↔(∃(aq:List (Int×α2)) (o5 o6:Option V),Same H H3/\Er K H3 p aq/\H3 p2=some (.lst ((aq.map (·.1)).map V.int))/\Bfs L aa.length ae aq i (Au L w*L+(x:Int)+1)/\Seen L ae aq r w x/\aq[i]?=some (r,w)/\CU w aq x (row.drop x)=CU w ents 0 row/\aC=[some (.ref h),some (.ref p),some (.ref p2),some (.int i),some (.int r),o5,o6]):=⟨_,fun _ _ _=>qk_⟩
   refine forN Pn ((bU _ _ _).mpr ⟨ents,o5,o6,s2,nI,di,bf.up (by push_cast;lia),(fun y h0 h1=>absurd h1 (by push_cast;lia)),he,rfl,rfl⟩) (fun x aC H3 _ h3=>?_) (fun x v aC H3 t' hx h3 eg=>?_) (fun aC H3 h3=>?_)
   ·obtain⟨aq,_,_,s3,_⟩:=(bU _ _ _).mp h3
    exact s3.seqT z3
   ·obtain⟨aq,o5,o6,s3,jN,cH,cI,fj,dU,bF,rfl⟩:=(bU _ _ _).mp h3
    obtain⟨g,hg,rfl⟩:=Ck hx
    have bO:=(jb_.mp hg).1
    have jO:=(wf.rows row eE).2 g (jc_ hg)
    have pT:g=Bm ae r (x:Int):=(BF hrow (by rw[ji_];exact hg)).symm
    have cJ:=jc_ dU
    have gy:row.drop x=g::row.drop (x+1):=by
     rw[q8_ bO]
     congr 1
     exact (jb_.mp hg).2
    obtain⟨cK,eF⟩:=cI.letter s!"" fj cJ s!"" pT jO
    have eG:=Fl (g:=g) (v:=w++[(x:Int)]) dU
    rw[gy,Fj]at bF
    have sT:=s3.newT eg (o:=.tup [V.int x,V.int g])
    have fL:=jN.mono (Same.new eg (o:=.tup [V.int x,V.int g]))
    have jP:=Same.new eg (o:=.tup [V.int x,V.int g]) _ _ cH
    nofun
    refine⟨_,SqT.of Ab,rfl,?_⟩
    nofun
    generalize upd H3 t' (.tup [V.int x,V.int g])=nJ at sT fL jP ⊢
    by_cases hm:g∈aq.map (·.1)
    ·rw[if_pos hm]at cK eF eG bF
     obtain⟨e',dN,e1⟩:=jt_.mp hm
     obtain⟨g',w'⟩:=e'
     have e1:g'=g:=e1
     subst e1
     obtain⟨tt,dg,_⟩:=fL.yes cI.nod dN
     refine⟨_,dg,?_⟩
     rw[if_neg (by simp)]
     exact (bU _ _ _).mpr ⟨aq,_,_,sT,fL,jP,cK,eF,eG,bF,rfl⟩
    ·rw[if_neg hm]at cK eF eG bF
     refine⟨_,fL.no hm,?_⟩
     rw[if_pos (by simp)]
     obtain⟨tw,dw,nK⟩:=fL.yes cI.nod cJ
     refine⟨_,dw,by lia,fun q5 nL=>?_⟩
     have cD:w.length<=100:=by
      have h1:w.length<=i:=cI.sh i _ dU
      lia
     refine E4.ofS (Same.new nL _ _ nK) Ab (by simp;lia) fun q6 H6 s6 hq6=>?_
     have sU:=(sT.newT nL).trans s6
     have enU:=(fL.mono (Same.new nL)).mono s6
     have hrU:=s6 _ _ (Same.new nL _ _ jP)
     have hq6':H6 q6=some (.tup ((w++[(x:Int)]).map V.int)):=by simpa using hq6
     obtain⟨H7,dp,⟨kvs,a7,hd,rfl⟩,enV⟩:=enU.put hm (by have:=cI.len;lia) hq6'
     nofun
     refine⟨_,dp,?_⟩
     have iM:upd H6 p (.dK a7) p2=some (.lst ((aq.map (·.1)).map V.int)):=by rw[Ah iK];exact hrU
     refine⟨.inl ⟨rfl,_,SqL.of iM⟩,_,iM,by have:=cI.len;simp;lia,(bU _ _ _).mpr ⟨aq++[(g,w++[(x:Int)])],_,_,(sU.over hp).over iL,enV.off iM,by rw[Ab];simp,cK,eF,eG,bF,rfl⟩⟩
   ·obtain⟨aq,o5,o6,s3,jN,cH,cI,fj,dU,bF,rfl⟩:=(bU _ _ _).mp h3
    rw[ja_]at cI fj bF
    rw[ud,Ge]at bF
    nofun
    obtain⟨cK,du⟩:=cI.next s!"" cG fj dU
    refine (ar _ _ _).mpr ⟨aq,i+1,_,_,_,_,rfl,s3,jN,cH,cK,du,?_,by push_cast;rfl⟩
    rw[show aa.length+1-i=(aa.length+1-(i+1))+1 by lia,J5 he]at bC
    rw[bF,<-mD]
    exact bC
  ·have hi:i=ents.length:=by have:=bf.il;lia
   subst hi
   rw[J4 (by simp)]at bC
   rw[<-bC]at k
   exact k p top H2 s2 hp nI bf
def Xs (H:Hp)(d:Addr)(ents:List (Int×α2))(n:Nat):Prop:=∃xs:List V,H d=some (.lst xs)/\xs.length=n/\∀r:Nat,r<n->(∃(w:α2) (t:Addr),((r:Int),w)∈ents/\xs[r]?=some (.ref t)/\H t=some (.tup (w.map V.int)))\/((r:Int)∉ents.map (·.1)/\xs[r]?=some .non)
def LG (K:α3):Sp:=fun vs H Q _=>∃(h:Addr) (L:Int) (aa:α2) (ae:α1),vs=[.ref h]/\AZ K H h L aa ae/\Wf L aa ae/\∀d top H',Same H H'->H d=none->Xs H' d (Aw ae) aa.length->Bfs L aa.length ae (Aw ae) (Aw ae).length top->Q (.ref d) H'
def ON   (F:Fun K "ways_in" "ways_in" FP f fd)(T:Txt mg)
   (fk:⋯ 1 "words_in" Dc ["house"] (Gx K) Gy Fy)
  : nofun 2 f fd ["house"] (LG K):=by
 delta Jy
 ·obtain⟨h,L,aa,ae,rfl,_⟩:=h;rfl
 ·obtain⟨h,L,aa,ae,rfl,hh,wf,k⟩:=h
  have hl:=Ar
  have aO:=wf.n40
  refine⟨_,(Ac (Be (i:=1) Jy.nd rfl (rh rfl) (Ai fk hr.d AL (Aa (pvD 0) Ad)))
   (Af (AH (A5 rfl (A6 rfl) (cp:=Ir) (te:=PR (Ox 1) (Ox 0)) ⟨⟨rfl,rfl⟩,qW⟩ (AR rfl T.range (Aa (Aq (lenD Aj) (by rfl) T.len jI_ (Aa (Ag (ixTD Ao) (pvD 0) Ae) Ad)) Ad)) (fun _ _ _ _=>(Am (i:=0) Ja rfl (qY rfl))) (fun _ _ _ _=>Bg) (fun _ _ _ _=>(by exact (RU (HI hr) (pvD 1) (pvD 0) ⟨rfl,rfl,rfl,rfl⟩))))))),?_⟩
  nofun
  refine⟨h,L,aa,ae,rfl,hh,wf,fun d top H1 s1 hd en bf=>?_⟩
  obtain⟨mm,wv,q1,q2,q3⟩:=hh.mono s1
  nofun
  refine⟨_,q1,_,rfl,?_⟩
  nofun
  refine⟨_,.inr q2,?_⟩
  rw[ja_]
  refine⟨by lia,by lia,?_⟩
  rw[ji_]
  obtain⟨Pc,dj⟩:∃Pc:Nat->List V->St->Hp->Prop,∀j ys bK H4,Pc j ys bK H4↔(H4=H1/\ys.length=j/\(∀r:Nat,r<j->(∃(w:α2) (t:Addr),((r:Int),w)∈Aw ae/\ys[r]?=some (.ref t)/\H1 t=some (.tup (w.map V.int)))\/((r:Int)∉(Aw ae).map (·.1)/\ys[r]?=some .non))/\∃o,bK=[o,some (.ref d)]):=⟨_,fun _ _ _ _=>qk_⟩
  refine JV Pc ((dj _ _ _ _).mpr ⟨rfl,rfl,(fun r hr=>absurd hr (qP_ _)),none,rfl⟩) s!"" (fun j ys bK H4 _ h4=>?_) (fun j ys bK H4 hj h4=>?_) (fun ys bK H4 h4 D hD=>?_)
  ·obtain⟨_,ak,_⟩:=(dj _ _ _ _).mp h4
   lia
  ·obtain⟨rfl,ak,aB,o,rfl⟩:=(dj _ _ _ _).mp h4
   obtain⟨kvs,lB,_⟩:=id en
   have ext:∀v:V,((∃(w:α2) (t:Addr),((j:Int),w)∈Aw ae/\v=.ref t/\H4 t=some (.tup (w.map V.int)))\/((j:Int)∉(Aw ae).map (·.1)/\v=.non))->∀o,Pc (j+1) (ys++[v]) [o,some (.ref d)] H4:=fun v hv o=>by
    refine (dj _ _ _ _).mpr ⟨rfl,by simp[ak],fun r hr=>?_,o,rfl⟩
    by_cases mQ:r<j
    ·rw[jd_ s!""]
     exact aB r mQ
    ·have e:r=j:=by lia
     subst e
     rw[jm_ s!"",ak,qb_]
     rcases hv with ⟨w,t,a,b,c⟩|⟨a,b⟩
     ·exact .inl ⟨w,t,a,by rw[b];rfl,c⟩
     ·exact .inr ⟨a,by rw[b];rfl⟩
   nofun
   refine⟨.inl ⟨kvs,.inl lB⟩,?_⟩
   have ej:(0:Int)+(j:Nat)=(j:Int):=by lia
   rw[ej]
   by_cases hm:(j:Int)∈(Aw ae).map (·.1)
   ·obtain⟨e',dN,e1⟩:=jt_.mp hm
    obtain⟨g',w'⟩:=e'
    have e1:g'=(j:Int):=e1
    subst e1
    obtain⟨tt,dg,hw⟩:=en.yes bf.nod dN
    exact⟨_,dg,ext _ (.inl ⟨w',tt,dN,rfl,hw⟩) _⟩
   ·exact⟨_,en.no hm,ext _ (.inr ⟨hm,rfl⟩) _⟩
  ·obtain⟨rfl,ak,aB,o,rfl⟩:=(dj _ _ _ _).mp h4
   refine k D top _ (s1.newT hD) (s1.free hD) ⟨ys,Ab,ak,fun r hr=>?_⟩ bf
   rcases aB r hr with ⟨w,t,a,b,c⟩|h
   ·exact .inl ⟨w,t,a,b,Same.new hD _ _ c⟩
   ·exact .inr h
structure RF (L n:Nat)(ae:α1)(R:α2):Prop where
 hd:R[0]?=some 0
 nod:R.Nodup
 rng:∀r∈R,0<=r/\r<(n:Int)
 len:R.length<=n
 cls:∀r∈R,∀x:Nat,x<L->Bm ae r (x:Int)∈R
def RF.of {L n:Nat}{ae:α1}{top:Int}(bf:Bfs L n ae (Aw ae) (Aw ae).length top):RF L n ae ((Aw ae).map (·.1)):=by
 refine⟨by rw[je_,bf.hd];rfl,bf.nod,fun r hr=>?_,by rw[ja_];exact bf.len,fun r hr x hx=>?_⟩
 ·obtain⟨e,he,rfl⟩:=jt_.mp hr
  exact bf.rng e he
 ·obtain⟨e,he,rfl⟩:=jt_.mp hr
  obtain⟨j,hj⟩:=jG_.mp he
  obtain⟨e',h1,h2,_⟩:=bf.don j (jb_.mp hj).1 e hj (x:Int) s!"" s!""
  rw[<-h2]
  exact q6_ h1
def Gz (K:α3):Sp:=fun vs H Q _=>∃(h:Addr) (L:Nat) (aa:α2) (ae:α1),vs=[.ref h]/\AZ K H h L aa ae/\Wf L aa ae/\∀p H',Same H H'->H p=none->H' p=some (.lst (((Aw ae).map (·.1)).map V.int))->RF L aa.length ae ((Aw ae).map (·.1))->Q (.ref p) H'
def OO   (F:Fun K "reached" "reached" Ej f fd)(T:Txt mg)
   (fk:⋯ 1 "words_in" Dc ["house"] (Gx K) Gy Fy)
  : nofun 2 f fd ["house"] (Gz K):=by
 delta OK
 ·obtain⟨h,L,aa,ae,rfl,_⟩:=h;rfl
 ·obtain⟨h,L,aa,ae,rfl,hh,wf,k⟩:=h
  refine⟨_,(Af (AH (AE (IV rfl) rfl T.list xm_ (Aa (Ai fk hr.d AL (Aa (pvD 0) Ad)) Ad)))),?_⟩
  nofun
  refine⟨h,L,aa,ae,rfl,hh,wf,fun d top H1 s1 hd en bf=>?_⟩
  obtain⟨kvs,h1,h2,h3⟩:=en
  refine⟨d,rfl,kvs,h1,fun l hl=>k l _ (s1.newT hl) (s1.free hl) ?_ (RF.of bf)⟩
  rw[Ab]
  congr 2
  refine qK_ fun i=>?_
  rw[je_,je_,je_]
  cases he:(Aw ae)[i]? with
  |none=>
   have:kvs[i]?=none:=by rw[xw_]at he ⊢;lia
   rw[this];rfl
  |some e=>
   obtain⟨t,a,_⟩:=h3 i e he
   rw[a];rfl
def numD {α κ:Type}[DecidableEq α](k:α->κ)(ks:List α):List (κ×V):=ks.map fun x=>(k x,V.int ((ks.idxOf x:Nat):Int))
def DF {α κ:Type}[DecidableEq α]{k:α->κ}{ks:List α}:(numD k ks).length=ks.length:=by unfold numD;rw[ja_]
def Dj {α κ:Type}[DecidableEq α][DecidableEq κ]{k:α->κ}(hk:∀x y,k x=k y->x=y){ks:List α}(nd:ks.Nodup){x:α}(hx:x∈ks):valV (numD k ks) (k x)=some (V.int ((ks.idxOf x:Nat):Int)):=by
 have hi:=qG_ hx
 refine U0 (i:=ks.idxOf x) ?_ ?_
 ·unfold numD
  rw[jU_]
  exact tK _ (fun a b cm z=>cm (hk a b z)) nd
 ·unfold numD
  rw[je_,jh_ hi,qZ_];rfl
def F2 {α κ:Type}[DecidableEq α][DecidableEq κ]{k:α->κ}(hk:∀x y,k x=k y->x=y){ks:List α}{x:α}(hx:x∉ks):valV (numD k ks) (k x)=none:=by
 have h1:=CS (k x) (numD k ks)
 have h2:((numD k ks).any fun kv=>decide (kv.1=k x))=false:=by
  rw[tD]
  intro p hp
  unfold numD at hp
  obtain⟨y,hy,rfl⟩:=jt_.mp hp
  simp only[ql_]
  intro z
  exact hx (hk _ _ z ▸ hy)
 rw[h2]at h1
 cases q:valV (numD k ks) (k x) with
 |none=>rfl
 |some v=>rw[q]at h1;cases h1
def Kv {α κ:Type}[DecidableEq α][DecidableEq κ]{k:α->κ}(hk:∀x y,k x=k y->x=y){ks:List α}{x:α}(hx:x∉ks):putK (numD k ks) (k x) (V.int ((ks.length:Nat):Int))=numD k (ks++[x]):=by
 rw[M8 _ (F2 hk hx)]
 unfold numD
 rw[jS_,List.map_singleton,Mn hx]
 congr 1
 exact qr_ fun y hy=>by rw[Sn hy]
def DG {α:Type}[DecidableEq α]{row:List α}{i:Nat}{x:α}(h:row[i]?=some x):AA (row.take (i+1))=ins1 (AA (row.take i)) x:=by
 rw[jQ_,h];exact Ml _ _
def Kw  [DecidableEq α](row:List α)(i:Nat):(AA (row.take i)).length<=row.length:=by
 have h1:=GN (row.take i)
 unfold ncl at h1
 rw[jx_]at h1
 lia
def Ud (K:α3):Sp:=fun vs H Q _=>∃(a:Addr),vs=[.ref a]/\((∃ns:α2,SqT K H a (ns.map V.int)/\ns.length<=100/\∀l H',Same H H'->H l=none->H' l=some (.lst ((num ns).map V.int))->Q (.ref l) H')\/(∃(xs:List V) (ws:α1),SqL K H a xs/\AD K H xs ws/\ws.length<=100/\∀l H',Same H H'->H l=none->H' l=some (.lst ((num ws).map V.int))->Q (.ref l) H'))
def MM   (F:Fun K "numbered" "numbered" ES f fd)(T:Txt mg)
  : nofun 1 f fd ["row"] (Ud K):=by
 delta Fp
 ·obtain⟨a,rfl,_⟩:=h;rfl
 ·obtain⟨a,rfl,cm⟩:=h
  have hl:=Ar
  refine⟨_,(Ac (Be (i:=1) Fp.nd rfl (rh rfl) Sm)
   (Ac (Bs jJ_ rfl (Tv (pvD 0)) (Am (i:=2) Fp.nd rfl (qY rfl))
   (Af (BI (O1 (HK (HI hr) (pvD 2) (pvD 1)))
   (Af (JS (HI hr) (pvD 1) (pvD 2) (Aq Lj (by rfl) T.len jI_ (Aa (pvD 1) Ad)) rfl))
   AK)))
   (Af (AH (A5 rfl (A6 rfl) (cp:=GQ) ⟨⟨rfl,rfl⟩,qW⟩ (Tv (pvD 0)) (fun _ _ _ _=>(Am (i:=0) Iu rfl (qY rfl))) (fun _ _ _ _=>Bg) (fun _ _ _ _=>(PM (HI hr) (pvD 1) (pvD 0) (fun _ _=>rfl)))))))),?_⟩
  rcases cm with ⟨ns,ha,hz,k⟩|⟨xs,ws,ha,hW,hz,k⟩
  ·nofun
   refine .inl fun d hd=>?_
   have sd:=Same.new hd (o:=.dK [])
   have cy:∀x y:Int,(qX x:Key)=qX y->x=y:=fun x y z=>Sum.inl.inj z
   obtain⟨Pv,ar⟩:∃Pv:Nat->St->Hp->Prop,∀i ag H',Pv i ag H'↔(∃o:Option V,Same H H'/\H' d=some (.dK (numD (fun x:Int=>(qX x:Key)) (AA (ns.take i))))/\ag=[some (.ref a),some (.ref d),o]):=⟨_,fun _ _ _=>qk_⟩
   refine .inr ⟨⟨_,sd.seqT ha⟩,forT (xs:=ns.map V.int) Pv ((ar _ _ _).mpr ⟨none,sd,Ab,rfl⟩) (fun i ag H' _ h'=>by obtain⟨_,s',_⟩:=(ar _ _ _).mp h';exact s'.seqT ha) (fun i x ag H' hx h'=>?_) (fun ag H' h'=>?_)⟩
   ·obtain⟨o,s',dk,rfl⟩:=(ar _ _ _).mp h'
    obtain⟨n,hn,rfl⟩:=Ck hx
    have lK:=Kw ns i
    have nd:=Bh (ns.take i)
    have et:=DG hn
    nofun
    refine⟨_,DGet.k (k:=qX n) dk,?_⟩
    by_cases hm:n∈AA (ns.take i)
    ·rw[Dj cy nd hm]
     simp only[zh_,z5_,jY_,xb_]
     exact (ar _ _ _).mpr ⟨_,s',by rw[et,ins1,if_pos hm];exact dk,rfl⟩
    ·rw[F2 cy hm]
     simp only[tq,zX_,zs_]
     have dW:=Kv (k:=fun x:Int=>(qX x:Key)) cy hm
     refine .inl ⟨_,dk,_,DPut.k (k:=qX n) dk (by rw[DF];lia),(ar _ _ _).mpr ⟨_,s'.over hd,?_,rfl⟩⟩
     rw[Ab,et,ins1,if_neg hm,DF]
     exact jC_ (fun z=>some (HO.dK z)) dW
   ·obtain⟨o,s',dk,rfl⟩:=(ar _ _ _).mp h'
    rw[ja_,jP_]at dk
    nofun
    obtain⟨f,hf⟩:∃f:V->V,∀n:Int,f (V.int n)=.int (((AA ns).idxOf n:Nat):Int):=⟨fun x=>match x with | .int n=>.int (((AA ns).idxOf n:Nat):Int)|_=>.non,fun _=>rfl⟩
    refine .inr ⟨⟨_,s'.seqT ha⟩,EJ (ag:=[some (.ref d)]) f rfl (s'.seqT ha) (by rw[ja_];lia) (fun x hx R hR=>?_) (fun D hD=>?_)⟩
    ·obtain⟨n,hn,rfl⟩:=CT hx
     rw[hf]at hR
     have e:=Dj (k:=fun x:Int=>(qX x:Key)) cy (Bh ns) (AN.mpr hn)
     have hg:=DGet.k (k:=qX n) dk
     rw[e]at hg
     nofun
     exact⟨_,hg,hR⟩
    ·have em:(ns.map V.int).map f=(num ns).map V.int:=by
      unfold num
      rw[jU_,jU_]
      exact qr_ fun n _=>hf n
     exact k D _ (s'.newT hD) (s'.none hD) (by rw[Ab,em])
  ·nofun
   refine .inr fun d hd=>?_
   have sd:=Same.new hd (o:=.dT [])
   obtain⟨Pv,ar⟩:∃Pv:Nat->St->Hp->Prop,∀i ag H',Pv i ag H'↔(∃o:Option V,Same H H'/\H' d=some (.dT (numD wkey (AA (ws.take i))))/\ag=[some (.ref a),some (.ref d),o]):=⟨_,fun _ _ _=>qk_⟩
   refine .inl ⟨⟨_,sd.seq ha⟩,forL (xs:=xs) Pv ((ar _ _ _).mpr ⟨none,sd,Ab,rfl⟩) (fun i ag H' _ h'=>by obtain⟨_,s',_⟩:=(ar _ _ _).mp h';exact s'.seq ha) (fun i x ag H' hx h'=>?_) (fun ag H' h'=>?_)⟩
   ·obtain⟨o,s',dk,rfl⟩:=(ar _ _ _).mp h'
    obtain⟨t,v,dB,rfl,ht⟩:=hW.at hx
    have lK:=Kw ws i
    have nd:=Bh (ws.take i)
    have et:=DG dB
    have eg:H' t=some (.tup ((wkey v).map kV)):=by rw[J9];exact s' _ _ ht
    nofun
    refine⟨_,DGet.t dk eg,?_⟩
    by_cases hm:v∈AA (ws.take i)
    ·rw[Dj (fun x y z=>FF z) nd hm]
     simp only[zh_,z5_,jY_,xb_]
     exact (ar _ _ _).mpr ⟨_,s',by rw[et,ins1,if_pos hm];exact dk,rfl⟩
    ·rw[F2 (fun x y z=>FF z) hm]
     simp only[tq,zX_,zs_]
     refine .inr ⟨_,dk,_,DPut.t (k:=wkey v) dk eg (by rw[DF];lia),(ar _ _ _).mpr ⟨_,s'.over hd,?_,rfl⟩⟩
     rw[Ab,et,ins1,if_neg hm,DF,Kv (fun x y z=>FF z) hm]
   ·obtain⟨o,s',dk,rfl⟩:=(ar _ _ _).mp h'
    rw[hW.1,jP_]at dk
    nofun
    refine .inl ⟨⟨_,s'.seq ha⟩,IU (xs:=xs) (fun i zs aj H2=>H2=H'/\zs=((num ws).take i).map V.int/\∃o,aj=[o,some (.ref d)]) ⟨rfl,rfl,none,rfl⟩ (by rw[hW.1];lia) (fun i zs aj H2 hi h2=>⟨by rw[h2.1];exact s'.seq ha,by rw[h2.2.1,ja_,jx_];lia⟩) (fun i x zs aj H2 hx h2=>?_) (fun zs aj H2 h2 D hD=>?_)⟩
    ·obtain⟨rfl,rfl,o2,rfl⟩:=h2
     obtain⟨t,v,dB,rfl,ht⟩:=hW.at hx
     have eg:H2 t=some (.tup ((wkey v).map kV)):=by rw[J9];exact s' _ _ ht
     have e:=Dj (fun x y z=>FF z) (Bh ws) (AN.mpr (jc_ dB))
     have hg:=DGet.t dk eg
     rw[e]at hg
     nofun
     refine⟨_,hg,?_⟩
     first
      | (refine⟨rfl,?_,_,rfl⟩;rw[jQ_,Nz dB,jS_];rfl)
      | (refine⟨?_,_,rfl⟩;rw[jQ_,Nz dB,jS_];rfl)
    ·obtain⟨rfl,rfl,o2,rfl⟩:=h2
     rw[hW.1,jW_ (by rw[Gk];exact jg_ _)]
     exact k D _ (s'.newT hD) (s'.none hD) Ab
def BehL (H:Hp)(mm pw pb:Addr)(aa:α2)(n:Nat)(b:α2->Nat->Int)(bs:List V)(words:α1):Prop:=bs.length=words.length/\∀(i:Nat) (w:α2),words[i]?=some w->∃t,bs[i]?=some (.ref t)/\((H t=some (.lst ((rowB n b w).map V.int))/\t≠pw/\t≠pb)\/(t=mm/\rowB n b w=aa))
def BehL.keep        (h:BehL H mm pw pb aa n b bs words)(s:∀t o,t≠pw->t≠pb->H t=some o->H' t=some o):BehL H' mm pw pb aa n b bs words:=⟨h.1,fun i w hi=>by
 obtain⟨t,e1,e2⟩:=h.2 i w hi
 exact⟨t,e1,e2.imp (fun e=>⟨s _ _ e.2.1 e.2.2 e.1,e.2⟩) id⟩⟩
def BehL.snoc {H:Hp}{mm pw pb:Addr}{aa:α2}{n:Nat}{b:α2->Nat->Int}{bs:List V}{words:α1}{t:Addr}{w:α2}(h:BehL H mm pw pb aa n b bs words)(ht:H t=some (.lst ((rowB n b w).map V.int)))(h1:t≠pw)(h2:t≠pb):BehL H mm pw pb aa n b (bs++[.ref t]) (words++[w]):=by
 refine⟨by simp[h.1],fun i r hi=>?_⟩
 by_cases hl:i<words.length
 ·rw[jd_ hl]at hi
  rw[jd_ (by rw[h.1];exact hl)]
  exact h.2 i r hi
 ·have:=(jb_.mp hi).1
  rw[jk_,jR_]at this
  have e:i=words.length:=by lia
  subst e
  rw[jm_ (jg_ _),qb_]at hi
  simp at hi
  subst hi
  exact⟨t,by rw[<-h.1];simp,.inl ⟨ht,h1,h2⟩⟩
def WC.short      (h:WC L n b words c):∀(k:Nat) (w:α2),words[k]?=some w->w.length<=k:=by
 intro k
 induction k using uo with
 |_ k ih=>
  intro w hw
  cases k with
  |zero=>
   rw[h.w0]at hw
   cases hw
   exact jX_ _
  |succ k=>
   obtain⟨j,hj⟩:=jG_.mp (h.tl (k+1) w hw (Nat.succ_pos _))
   rw[List.getElem?_take]at hj
   split at hj
   ·rename_i au
    have:=ih j au _ hj
    rw[ue]at this
    lia
   ·cases hj
def zipW (c m:α2):α1:=(c.zip m).map fun p=>[p.1,p.2]
def SU (c m:α2):num (zipW c m)=num (c.zip m):=Vb _ fun p _ q _ e=>by
 have h1:=List.cons.inj e
 exact z6_ h1.1 (List.cons.inj h1.2).1
def Vt (K:α3):Sp:=fun vs H Q _=>∃(h:Addr) (L:Nat) (aa:α2) (ae:α1),vs=[.ref h]/\AZ K H h L aa ae/\Wf L aa ae/\∀t pw pc xs H',Same H H'->H' t=some (.tup [.ref pw,.ref pc])->H pw=none->H' pw=some (.lst xs)->AD K H' xs (wcOf aa.length L (bW aa ae)).1->H' pc=some (.lst ((wcOf aa.length L (bW aa ae)).2.map V.int))->Fin17 aa.length L (bW aa ae) (wcOf aa.length L (bW aa ae))->Q (.ref t) H'
def E1   (F:Fun K "words_and_classes" "words_and_classes" A8 f fd)(T:Txt mg)
   (iN:⋯ 1 "numbered" ES ["row"] (Ud K) JC Iw)
  : nofun 2 f fd ["house"] (Vt K):=by
 delta Ax
 ·obtain⟨h,L,aa,ae,rfl,_⟩:=h;rfl
 ·obtain⟨h,L,aa,ae,rfl,hh,wf,k⟩:=h
  have hl:=Ar
  have cV:=wf.l1
  have cW:=wf.l6
  have b8:=wf.n1
  have aO:=wf.n40
  refine⟨_,(Ac (Ak (i:=1) Ax.nd (Bp (Aa (Bx Ad) Ad)))
   (Ac (Be (i:=2) Ax.nd rfl (rh rfl) (Bp (Aa (Ag (ixTD Ao) (pvD 0) Ae) Ad)))
   (Ac (Ak (i:=3) Ax.nd (Ai iN hr.d AL (Aa (Ag (ixTD Ao) (pvD 0) Ae) Ad)))
   (Ac (Be (i:=4) Ax.nd rfl (rh rfl) Ae)
   (Ac (Dp jJ_ (ptT (As (opD0 HE) (pvD 4) (Aq (lenD Aj) (by rfl) T.len jI_ (Aa (pvD 1) Ad)) (AI _)))
   (Ac (Bs jJ_ rfl (AR rfl T.range (Aa (Ag (ixTD Ao) (pvD 0) Ae) Ad)) (Am (i:=5) Ax.nd rfl (rh rfl))
   (Ac (Ec (i:=6) Ax.nd rfl rfl rfl (A6 rfl) (cp:=Cv) ⟨⟨rfl,rfl⟩,⟨⟨rfl,rfl⟩,⟨⟨rfl,rfl⟩,qW⟩⟩⟩ (E3 (Ag (ixTD Ao) (pvD 0) Ae)) (fun _ _ _ _=>(Am (i:=0) Dd rfl (qY rfl))) (fun _ _ _ _=>Bg) (fun _ _ _ _=>(VW (U8 (K:=K) rfl) (Ag (ixLD (Bn (K:=K) rfl)) (pvD 1) (pvD 2)) (Ag (ixTD (Bt (K:=K) rfl)) (pvD 0) (pvD 3)) (fun _ _=>rfl))))
   (Ac (Ak (i:=7) Ax.nd (Ai iN hr.d AL (Aa (Oo rfl rfl T.list rfl T.zip (Aa (pvD 3) (Aa (pvD 6) Ad))) Ad)))
   (Af (BI (ptT (As (opD0 Uz) (Aq (Li rfl) rfl T.max sG (Aa (pvD 7) Ad)) (Aq (Li rfl) rfl T.max sG (Aa (pvD 3) Ad)) (AI _)))
   (Ac (Bc (C5 jD_ jM_ jN_ AS (pvD 1) (Aa (An EK (Bx (Aa (pvD 5) Ad)) (Ag (ixLD AX) (pvD 1) (pvD 4))) Ad)))
   (Ac (Bc (C5 jD_ jM_ jN_ AS (pvD 2) (Aa (pvD 6) Ad)))
   (Af (Ak (i:=3) Ax.nd (pvD 7)))))
   AK)))))
   (Af (O4 (i:=4) Ax.nd rfl (rh rfl) Ae S8))))
   (Af (AH (Bx (Aa (pvD 1) (Aa (pvD 3) Ad)))))))))),?_⟩
  obtain⟨mm,wv,q1,q2,ts,q3,q4,q5⟩:=id hh
  nofun
  refine⟨jX_ _,fun t0 iO=>⟨by lia,fun pw br=>?_⟩⟩
  have s1:=(Same.new iO (o:=.tup [])).newT br (o:=.lst [V.ref t0])
  have hpwH:H pw=none:=(Same.new iO (o:=.tup [])).none br
  have dE:upd (upd H t0 (.tup [])) pw (.lst [V.ref t0]) pw=some (.lst [V.ref t0]):=Ab
  have hW1:AD K (upd (upd H t0 (.tup [])) pw (.lst [V.ref t0])) [V.ref t0] [[]]:=⟨rfl,fun i w hi=>by
   match i,hi with
   |0,hi=>cases hi;exact⟨t0,rfl,Same.new br _ _ Ab⟩⟩
  generalize upd (upd H t0 (.tup [])) pw (.lst [V.ref t0])=H1 at s1 dE hW1 ⊢
  refine⟨_,s1.seqT q1,_,rfl,by lia,fun pb lL=>?_⟩
  have hpbH:H pb=none:=s1.none lL
  have hpbw:pb≠pw:=fun z=>by rw[z,dE]at lL;cases lL
  have s2:=s1.newT lL (o:=.lst [V.ref mm])
  have fh:upd H1 pb (.lst [V.ref mm]) pb=some (.lst [V.ref mm]):=Ab
  have fm:=Same.new lL (o:=.lst [V.ref mm]) _ _ dE
  have jQ:=hW1.mono (TK.new lL (o:=.lst [V.ref mm]))
  generalize upd H1 pb (.lst [V.ref mm])=H2 at s2 fh fm jQ ⊢
  refine⟨_,s2.seqT q1,_,rfl,mm,rfl,.inl ⟨aa,s2.seqT q2,by lia,fun pc H3 s3 iP hpc3=>?_⟩⟩
  have lM:=s2.trans s3
  obtain⟨Pv,ar⟩:∃Pv:Nat->St->Hp->Prop,∀m ag H',Pv m ag H'↔(∃(st:StC) (k:Nat) (xs bs:List V) (pc:Addr) (o5 o6 o7:Option V),m=41-k/\Same H H'/\H' pw=some (.lst xs)/\AD K H' xs st.1/\H' pb=some (.lst bs)/\BehL H' mm pw pb aa aa.length (bW aa ae) bs st.1/\H' pc=some (.lst (st.2.map V.int))/\pc≠pw/\pc≠pb/\WS aa.length L (bW aa ae) k 0 st/\FJ aa.length (bW aa ae) L (41-k) k st=wcOf aa.length L (bW aa ae)/\ag=[some (.ref h),some (.ref pw),some (.ref pb),some (.ref pc),some (.int k),o5,o6,o7]):=⟨_,fun _ _ _=>qk_⟩
  have hpcw:pc≠pw:=fun z=>by rw[z,fm]at iP;cases iP
  have hpcb:pc≠pb:=fun z=>by rw[z,fh]at iP;cases iP
  refine HS Pv ⟨_,(ar _ _ _).mpr ⟨([[]],num (rowB aa.length (bW aa ae) [])),0,[V.ref t0],[V.ref mm],pc,none,none,none,rfl,lM,s3 _ _ fm,jQ.mono (TK.of s3),s3 _ _ fh,⟨rfl,fun i w hi=>?_⟩,by rw[TM];exact hpc3,hpcw,hpcb,WS.start b8,rfl,rfl⟩⟩ ?_
  ·match i,hi with
   |0,hi=>cases hi;exact⟨mm,rfl,.inr ⟨rfl,TM⟩⟩
  intro m bK H4 h4
  obtain⟨st,k0,xs,bs,pc4,o5,o6,o7,rfl,s4,cY,gZ,hb4,hB4,pU,hcw4,hcb4,pV,ho4,rfl⟩:=(ar _ _ _).mp h4
  have iq:=pV.few
  nofun
  refine⟨_,.inl (SqL.of cY),?_⟩
  rw[gZ.1]
  refine ite2 (fun au=>?_) (fun bu=>?_)
  ·have hk:k0<st.1.length:=by lia
   obtain⟨w,gY⟩:∃w,st.1[k0]?=some w:=⟨st.1[k0],by simp[hk]⟩
   refine⟨Pv (41-(k0+1)),fun ag H' h=>⟨_,by lia,h⟩,?_⟩
   nofun
   refine⟨_,s4.seqT q1,_,rfl,L,rfl,by lia,by lia,?_⟩
   rw[ji_]
   obtain⟨Pz,mR⟩:∃Pv:Nat->St->Hp->Prop,∀i ag H',Pv i ag H'↔(∃(ah:StC) (xs bs:List V) (pc:Addr) (o5 o6 o7:Option V),ah=FH aa.length (bW aa ae) w i st/\Same H H'/\H' pw=some (.lst xs)/\AD K H' xs ah.1/\H' pb=some (.lst bs)/\BehL H' mm pw pb aa aa.length (bW aa ae) bs ah.1/\H' pc=some (.lst (ah.2.map V.int))/\pc≠pw/\pc≠pb/\WS aa.length L (bW aa ae) k0 i ah/\ah.1[k0]?=some w/\ag=[some (.ref h),some (.ref pw),some (.ref pb),some (.ref pc),some (.int k0),o5,o6,o7]):=⟨_,fun _ _ _=>qk_⟩
   refine forR Pz ((mR _ _ _).mpr ⟨st,xs,bs,pc4,o5,o6,o7,rfl,s4,cY,gZ,hb4,hB4,pU,hcw4,hcb4,pV,gY,rfl⟩) (fun i iQ H5 hi h5=>?_) (fun iQ H5 h5=>?_)
   ·obtain⟨a9,mS,mT,pW,p5,p6,p7,jR,s5,fM,jf,lN,lP,nM,jS,jT,fN,fo,rfl⟩:=(mR _ _ _).mp h5
    rw[zV_]
    have hfew5:=fN.few
    have hisw:=fN.wc.ok w (jc_ fo)
    obtain⟨tb,lD,htbv⟩:=lP.2 k0 w fo
    nofun
    refine⟨_,s5.seqT q1,_,rfl,wv,rfl,⟨_,s5.seqT q3⟩,RY (xs:=ts.map V.ref) (fun j zs ag H'=>H'=H5/\zs=((rowB aa.length (bW aa ae) ((i:Int)::w)).take j).map V.int/\∃o,ag=[o,some (.ref pb),some (.int k0),some (.int i)]) ⟨rfl,rfl,none,rfl⟩ (by rw[ja_,q4,wf.len];lia) (fun j zs ag H' hj h'=>⟨by rw[h'.1];exact s5.seqT q3,by rw[h'.2.1,ja_,jx_];lia⟩) (fun j x zs ag H' hx h'=>?_) (fun zs ag H' h' D hD=>?_)⟩
    ·obtain⟨rfl,rfl,o,rfl⟩:=h'
     rw[je_]at hx
     cases nN:ts[j]? with
     |none=>rw[nN]at hx;cases hx
     |some tj=>
      rw[nN]at hx
      cases hx
      have hj:j<aa.length:=by rw[<-wf.len,<-q4];exact (jb_.mp nN).1
      obtain⟨row,g,r1,r2,r3,r4,r5⟩:=wf.step (show (0:Int)<=(j:Nat) by lia) s!"" (show (0:Int)<=(i:Nat) by lia) s!""
      rw[ji_]at r1 r2
      have hrow:=q5 j tj row nN r1
      have iR:(rowB aa.length (bW aa ae) w)[g.toNat]?=some (bW aa ae ((i:Int)::w) j):=by
       rw[BY s!"",Mo w (i:Int) j (by rw[r3];exact r4),r3]
      have mQ:(rowB aa.length (bW aa ae) ((i:Int)::w))[j]?=some (bW aa ae ((i:Int)::w) j):=BY hj
      nofun
      refine⟨_,SqL.of lN,_,D8 lD,_,s5.seqT hrow,_,A7 s!"" (by rw[ji_];exact r2),?_⟩
      have aV:((rowB aa.length (bW aa ae) ((i:Int)::w)).take j).map V.int++[V.int (bW aa ae ((i:Int)::w) j)]=((rowB aa.length (bW aa ae) ((i:Int)::w)).take (j+1)).map V.int:=by rw[jQ_,mQ,jS_];rfl
      rcases htbv with ⟨bE,_,_⟩|⟨lQ,g8⟩
      ·exact .inl ⟨tb,rfl,_,g,rfl,SqL.of bE,_,A7 r4 iR,aV,_,rfl⟩
      ·exact .inr ⟨tb,rfl,_,g,rfl,by rw[lQ];exact s5.seqT q2,_,A7 r4 (by have hv:=iR;rw[g8]at hv;exact hv),aV,_,rfl⟩
    ·obtain⟨rfl,rfl,o,rfl⟩:=h'
     rw[ja_,q4,wf.len,jW_ (by rw[Dv];exact jg_ _)]
     have ay:a9.2.zip (rowB aa.length (bW aa ae) ((i:Int)::w)) ≠ []:=fun z=>by
      have:=jC_ rm z
      rw[zO_,fN.wc.len,Dv,tI,qi_]at this
      lia
     have ff:(zipW a9.2 (rowB aa.length (bW aa ae) ((i:Int)::w))).length=aa.length:=by
      unfold zipW
      rw[ja_,zO_,fN.wc.len,Dv];lia
     refine⟨D,rfl,_,SqL.of (Same.new hD _ _ nM),_,SqL.of Ab,by rw[ja_,ja_,fN.wc.len,Dv],fun l rs H6 s6 lR cG pX=>⟨l,rfl,.inr ⟨rs,zipW a9.2 (rowB aa.length (bW aa ae) ((i:Int)::w)),SqL.of Ab,⟨?_,fun j v hj=>?_⟩,by lia,fun pf H7 s7 jU gz=>?_⟩⟩⟩
     ·rw[cG,ff,ja_,fN.wc.len]
     ·unfold zipW at hj
      rw[je_]at hj
      cases hq:(a9.2.zip (rowB aa.length (bW aa ae) ((i:Int)::w)))[j]? with
      |none=>rw[hq]at hj;cases hj
      |some p=>
       rw[hq]at hj
       cases hj
       obtain⟨u1,u2⟩:=qQ_.mp (show (a9.2.zip (rowB aa.length (bW aa ae) ((i:Int)::w)))[j]?=some (p.1,p.2) from hq)
       obtain⟨t,t1,t2⟩:=pX j (V.int p.1) (V.int p.2) (by rw[je_,u1];rfl) (by rw[je_,u2];rfl)
       exact⟨t,t1,Same.new lR _ _ t2⟩
     have sD:Same H' (upd H' D (.lst ((rowB aa.length (bW aa ae) ((i:Int)::w)).map V.int))):=Same.new hD
     have eI:upd H' D (.lst ((rowB aa.length (bW aa ae) ((i:Int)::w)).map V.int)) D=some (.lst ((rowB aa.length (bW aa ae) ((i:Int)::w)).map V.int)):=Ab
     have jV:=(Same.new lR (o:=.lst rs)).trans s7
     have jg:=sD.trans (s6.trans jV)
     have nO:=(s6.trans jV) _ _ eI
     have nQ:=jg _ _ fM
     have hb7:=jg _ _ lN
     have hc7:=jg _ _ nM
     have hDw:D≠pw:=fun z=>by rw[z,fM]at hD;cases hD
     have hDb:D≠pb:=fun z=>by rw[z,lN]at hD;cases hD
     have iS:H' pf=none:=sD.none (s6.none ((Same.new lR (o:=.lst rs)).none jU))
     have hpfw:pf≠pw:=fun z=>by rw[z,fM]at iS;cases iS
     have hpfb:pf≠pb:=fun z=>by rw[z,lN]at iS;cases iS
     have cL:=fN.step b8 fo hi
     have eJ:FH aa.length (bW aa ae) w (i+1) st=IX aa.length (bW aa ae) w a9 i:=by rw[Ig,<-jR]
     rw[SU]at gz
     refine⟨pf,rfl,_,SqL.of gz,(ncl (a9.2.zip (rowB aa.length (bW aa ae) ((i:Int)::w))):Int)-1,Kb ay,(fun x hx=>by have:=NA hx;lia),_,SqL.of hc7,(ncl a9.2:Int)-1,fN.wc.top,(fun x hx=>by have:=fN.wc.rng x hx;lia),?_⟩
     refine ite2 (fun lr=>?_) (fun aS=>?_)
     ·have hgt':ncl a9.2<ncl (a9.2.zip (rowB aa.length (bW aa ae) ((i:Int)::w))):=by lia
      have pY:IX aa.length (bW aa ae) w a9 i=(a9.1++[(i:Int)::w],num (a9.2.zip (rowB aa.length (bW aa ae) ((i:Int)::w)))):=by unfold IX;rw[if_pos hgt']
      obtain⟨tw,htw1,htw2⟩:=jf.2 k0 w fo
      have hwlen:=WC.short fN.wc k0 w fo
      refine⟨.inl ⟨rfl,_,SqL.of nQ⟩,by lia,fun p1 bw=>⟨_,SqL.of (Same.new bw _ _ nQ),_,D8 htw1,E4.ofS Ab (Same.new bw _ _ (jg _ _ htw2)) (by simp;lia) fun q H8 s8 hq=>?_⟩⟩
      have mU:=(Same.new bw (o:=.tup [V.int i])).trans s8
      have hw8:=mU _ _ nQ
      have hb8:=mU _ _ hb7
      have bO:=jf.1
      have pS:=lP.1
      refine⟨_,hw8,by lia,?_⟩
      have pZ:upd H8 pw (.lst (mS++[V.ref q])) pb=some (.lst mT):=by rw[Ah hpbw];exact hb8
      have p0:=jg.trans mU
      rw[pY]at cL eJ
      refine⟨.inl ⟨rfl,_,SqL.of pZ⟩,_,pZ,by lia,(mR _ _ _).mpr ⟨_,mS++[V.ref q],mT++[V.ref D],pf,_,_,_,eJ.symm,((s5.trans p0).over hpwH).over hpbH,by rw[Ah (qn_ hpbw),Ab],(((jf.mono (TK.of p0)).snoc (w:=(i:Int)::w) hq).mono (TK.lst hw8)).mono (TK.lst pZ),Ab,?_,by rw[Ah hpfb,Ah hpfw];exact mU _ _ gz,hpfw,hpfb,cL.1,cL.2,rfl⟩⟩
      exact BehL.snoc (lP.keep (fun t o t1 t2 e=>by rw[Ah t2,Ah t1];exact p0 _ _ e)) (by rw[Ah hDb,Ah hDw];exact mU _ _ nO) hDw hDb
     ·have jM:¬ ncl a9.2<ncl (a9.2.zip (rowB aa.length (bW aa ae) ((i:Int)::w))):=by lia
      have pY:IX aa.length (bW aa ae) w a9 i=a9:=by unfold IX;rw[if_neg jM]
      rw[pY]at cL eJ
      exact (mR _ _ _).mpr ⟨a9,mS,mT,pW,_,_,_,eJ.symm,s5.trans jg,nQ,jf.mono (TK.of jg),hb7,lP.keep (fun t o _ _ e=>jg _ _ e),hc7,jS,jT,cL.1,cL.2,rfl⟩
   ·obtain⟨a9,mS,mT,pW,p5,p6,p7,jR,s5,fM,jf,lN,lP,nM,jS,jT,fN,fo,rfl⟩:=(mR _ _ _).mp h5
    nofun
    have e41:41-k0=(41-(k0+1))+1:=by lia
    refine (ar _ _ _).mpr ⟨a9,k0+1,mS,mT,pW,_,_,_,rfl,s5,fM,jf,lN,lP,nM,jS,jT,fN.next,?_,rfl⟩
    rw[jR,<-ho4,e41,Lk gY]
  ·have e:st=wcOf aa.length L (bW aa ae):=by rw[<-ho4,Jp s!""]
   have aV:=pV.fin s!""
   rw[e]at gZ pU aV
   exact⟨by lia,fun p hp=>k p pw pc4 xs _ (s4.newT hp) Ab hpwH (Same.new hp _ _ cY) (gZ.mono (TK.new hp)) (Same.new hp _ _ pU) aV⟩
def Ri (K:α3):Sp:=fun vs H Q _=>∃(h:Addr) (L:Nat) (aa:α2) (ae:α1),vs=[.ref h]/\AZ K H h L aa ae/\Wf L aa ae/\∀pw xs H',Same H H'->H pw=none->H' pw=some (.lst xs)->AD K H' xs (wcOf aa.length L (bW aa ae)).1->Fin17 aa.length L (bW aa ae) (wcOf aa.length L (bW aa ae))->Q (.ref pw) H'
def OP   (F:Fun K "tellers" "tellers" Ek f fd)(T:Txt mg)
   (fq:⋯ 2 "words_and_classes" A8 ["house"] (Vt K) BO BJ)
  : nofun 3 f fd ["house"] (Ri K):=by
 delta OL
 ·obtain⟨h,L,aa,ae,rfl,_⟩:=h;rfl
 ·obtain⟨h,L,aa,ae,rfl,hh,wf,k⟩:=h
  refine⟨_,(Af (AH (Ag (ixTD Ao) (Ai fq hr.d AL (Aa (pvD 0) Ad)) Ae))),?_⟩
  nofun
  exact⟨h,L,aa,ae,rfl,hh,wf,fun t pw pc xs H' s' ht jW br hW mV aV=>⟨t,rfl,_,SqT.of ht,_,rfl,k pw xs H' s' jW br hW aV⟩⟩
def Ue (K:α3):Sp:=fun vs H Q _=>∃(h:Addr) (L:Nat) (aa:α2) (ae:α1),vs=[.ref h]/\AZ K H h L aa ae/\Wf L aa ae/\∀pc H',Same H H'->H' pc=some (.lst ((wcOf aa.length L (bW aa ae)).2.map V.int))->Fin17 aa.length L (bW aa ae) (wcOf aa.length L (bW aa ae))->Q (.ref pc) H'
def Kx   (F:Fun K "classes_of" "classes_of" CW f fd)(T:Txt mg)
   (fq:⋯ 2 "words_and_classes" A8 ["house"] (Vt K) BO BJ)
  : nofun 3 f fd ["house"] (Ue K):=by
 delta Kp
 ·obtain⟨h,L,aa,ae,rfl,_⟩:=h;rfl
 ·obtain⟨h,L,aa,ae,rfl,hh,wf,k⟩:=h
  refine⟨_,(Af (AH (Ag (ixTD Ao) (Ai fq hr.d AL (Aa (pvD 0) Ad)) Ae))),?_⟩
  nofun
  exact⟨h,L,aa,ae,rfl,hh,wf,fun t pw pc xs H' s' ht jW br hW mV aV=>⟨t,rfl,_,SqT.of ht,_,rfl,k pc H' s' mV aV⟩⟩
def Iy {α:Type}[DecidableEq α]:∀(row ai:List α),∃t,BA ai row=ai++t
 |[],ai=>⟨[],by simp[BA]⟩
 |x::row,ai=>by
  obtain⟨t,ht⟩:=Iy row (ins1 ai x)
  show ∃t,BA (ins1 ai x) row=ai++t
  rw[ht]
  unfold ins1
  split
  ·exact⟨t,rfl⟩
  ·exact⟨x::t,by simp⟩
def OQ  [DecidableEq α](a b:List α):∃t,AA (a++b)=AA a++t:=by
 unfold AA BA
 rw[qu_]
 exact Iy b _
def Ky {α:Type}[DecidableEq α]{row:List α}{i:Nat}{x:α}(h:x∈AA (row.take i)):(AA row).idxOf x=(AA (row.take i)).idxOf x:=by
 obtain⟨t,ht⟩:=OQ (row.take i) (row.drop i)
 rw[q9_]at ht
 rw[ht,z2_,if_pos h]
def D4 (c R:α2)(n i:Nat):List V:=(qV n).map fun r:Nat=>if (r:Int)∈R.take i then V.int (hm c R r) else V.non
def F3   : (D4 c R n i).length=n:=by unfold D4;simp
def Rj {c R:α2}{n i:Nat}{r:Int}(hr:R[i]?=some r)(h0:0<=r)(h1:r<(n:Int)):(D4 c R n i).set r.toNat (V.int (hm c R r))=D4 c R n (i+1):=by
 have et:R.take (i+1)=R.take i++[r]:=by rw[jQ_,hr];rfl
 refine qK_ fun j=>?_
 by_cases hj:j<n
 ·have e2:(D4 c R n (i+1))[j]?=some (if (j:Int)∈R.take (i+1) then V.int (hm c R j) else V.non):=by
   unfold D4
   rw[je_,qE_ hj];rfl
  have e1:(D4 c R n i)[j]?=some (if (j:Int)∈R.take i then V.int (hm c R j) else V.non):=by
   unfold D4
   rw[je_,qE_ hj];rfl
  rw[e2]
  by_cases e:r.toNat=j
  ·have mQ:r=(j:Int):=by lia
   rw[<-e,qM_ (by rw[F3];lia),e,<-mQ,if_pos (by rw[et];simp)]
  ·rw[xf_ e,e1]
   have ay:¬ (j:Int)=r:=fun z=>e s!""
   by_cases bT:(j:Int)∈R.take i
   ·rw[if_pos bT,if_pos (by rw[et];exact j2_ _ bT)]
   ·rw[if_neg bT,if_neg (by rw[et];intro z;rcases jw_.mp z with z|z;exact bT z;exact ay (jq_.mp z))]
 ·rw[jV_ (by rw[qO_,F3];lia),jV_ (by rw[F3];lia)]
def NQ (K:α3):Sp:=fun vs H Q _=>∃(h:Addr) (L:Nat) (aa:α2) (ae:α1),vs=[.ref h]/\AZ K H h L aa ae/\Wf L aa ae/\∀p H',Same H H'->H p=none->H' p=some (.lst (D4 (wcOf aa.length L (bW aa ae)).2 ((Aw ae).map (·.1)) aa.length ((Aw ae).map (·.1)).length))->Fin17 aa.length L (bW aa ae) (wcOf aa.length L (bW aa ae))->RF L aa.length ae ((Aw ae).map (·.1))->Q (.ref p) H'
def SV   (F:Fun K "homes" "homes" Kq f fd)(T:Txt mg)
   (ft:⋯ 2 "reached" Ej ["house"] (Gz K) Iz GA)
   (jX:⋯ 3 "classes_of" CW ["house"] (Ue K) GS F4)
  : nofun 4 f fd ["house"] (NQ K):=by
 delta FQ
 ·obtain⟨h,L,aa,ae,rfl,_⟩:=h;rfl
 ·obtain⟨h,L,aa,ae,rfl,hh,wf,k⟩:=h
  have hl:=Ar
  have aO:=wf.n40
  obtain⟨mm,wv,q1,q2,q3⟩:=id hh
  refine⟨_,(Ac (Ak (i:=1) FQ.nd (Ai jX hr.d AL (Aa (pvD 0) Ad)))
   (Ac (Ak (i:=2) FQ.nd Nb)
   (Ac (Ak (i:=3) FQ.nd (An Pt (Bp (Aa O0 Ad)) (Aq (lenD Aj) (by rfl) T.len jI_ (Aa (Ag (ixTD Ao) (pvD 0) Ae) Ad))))
   (Ac (Bs jJ_ rfl (AW (Ai ft hr.d AL (Aa (pvD 0) Ad))) (Am (i:=4) FQ.nd rfl (qY rfl))
   (Af (KQ (Ov (pvD 2) (Ag (ixLD AX) (pvD 1) (pvD 4)) (Aq Lj (by rfl) T.len jI_ (Aa (pvD 2) Ad)) ⟨by rfl,by rfl,by rfl,by rfl⟩) (KO (pvD 3) (pvD 4) set_list))))
   (Af (AH (pvD 3))))))),?_⟩
  nofun
  refine⟨h,L,aa,ae,rfl,hh,wf,fun pc H1 s1 mV aV=>?_⟩
  intro pd lS
  have sd:=s1.newT lS (o:=.dK [])
  refine⟨by lia,fun p1 bw=>⟨_,(sd.newT bw).seqT q1,_,rfl,mm,rfl,_,.inr ((sd.newT bw).seqT q2),_,Ab,by lia,by rw[ja_];lia,by rw[ja_,jR_,ji_];lia,fun pt iJ=>?_⟩⟩
  rw[ja_,ji_]
  have sT:=(sd.newT bw (o:=.lst [V.non])).newT iJ (o:=.lst (qU aa.length [V.non]).flatten)
  have jY:H pt=none:=(sd.newT bw (o:=.lst [V.non])).none iJ
  have hpdN:H pd=none:=s1.none lS
  have jZ:upd (upd (upd H1 pd (.dK [])) p1 (.lst [V.non])) pt (.lst (qU aa.length [V.non]).flatten) pd=some (.dK []):=(Same.new iJ) _ _ ((Same.new bw) _ _ Ab)
  have j0:upd (upd (upd H1 pd (.dK [])) p1 (.lst [V.non])) pt (.lst (qU aa.length [V.non]).flatten) pt=some (.lst (qU aa.length [V.non]).flatten):=Ab
  have j3:upd (upd (upd H1 pd (.dK [])) p1 (.lst [V.non])) pt (.lst (qU aa.length [V.non]).flatten) pc=some (.lst ((wcOf aa.length L (bW aa ae)).2.map V.int)):=(Same.new iJ) _ _ ((Same.new bw) _ _ ((Same.new lS) _ _ mV))
  generalize upd (upd (upd H1 pd (.dK [])) p1 (.lst [V.non])) pt (.lst (qU aa.length [V.non]).flatten)=HT at sT jZ j0 j3 ⊢
  clear sd bw iJ lS s1 mV
  refine⟨h,L,aa,ae,rfl,hh.mono sT,wf,fun pR H2 s2 cZ j4 rf=>⟨pR,rfl,⟨_,SqL.of j4⟩,?_⟩⟩
  generalize hR:(Aw ae).map (·.1)=R at j4 rf k
  generalize la:wcOf aa.length L (bW aa ae)=st at j3 aV k
  have s02:=sT.trans s2
  have iT:=s2 _ _ jZ
  have j5:=s2 _ _ j0
  have gA:=s2 _ _ j3
  have p8:pd≠pt:=fun z=>by rw[z,j5]at iT;cases iT
  have hRt:pR≠pt:=fun z=>by rw[z,j0]at cZ;cases cZ
  have hRd:pR≠pd:=fun z=>by rw[z,jZ]at cZ;cases cZ
  have bQ:pc≠pd:=fun z=>by rw[z,iT]at gA;cases gA
  have hct:pc≠pt:=fun z=>by
   rw[z,j5]at gA
   have bL:=aV.wc.len
   have e:=jr_ gA
   injection e with e
   have b8:=wf.n1
   have e0:=jC_ (fun l:List V=>l[0]?) e
   obtain⟨n,hn⟩:∃n,aa.length=n+1:=⟨aa.length-1,by lia⟩
   cases hc:st.2 with
   |nil=>rw[hc]at bL;simp at bL;lia
   |cons a r=>rw[hc,hn]at e0;simp[qj_]at e0
  have cy:∀x y:Int,(qX x:Key)=qX y->x=y:=fun x y z=>Sum.inl.inj z
  obtain⟨Pv,ar⟩:∃Pv:Nat->St->Hp->Prop,∀i ag H',Pv i ag H'↔(∃o:Option V,Same H H'/\H' pR=some (.lst (R.map V.int))/\H' pc=some (.lst (st.2.map V.int))/\H' pd=some (.dK (numD (fun x:Int=>(qX x:Key)) (AA ((R.map (cf st.2)).take i))))/\H' pt=some (.lst (D4 st.2 R aa.length i))/\ag=[some (.ref h),some (.ref pc),some (.ref pd),some (.ref pt),o]):=⟨_,fun _ _ _=>qk_⟩
  refine forL (xs:=R.map V.int) Pv ((ar _ _ _).mpr ⟨none,s02,j4,gA,iT,?_,rfl⟩) (fun i ag H' _ h'=>by obtain⟨_,_,h2,_⟩:=(ar _ _ _).mp h';exact SqL.of h2) (fun i x ag H' hx h'=>?_) (fun ag H' h'=>?_)
  ·rw[j5]
   congr 2
   unfold D4
   refine qK_ fun j=>?_
   by_cases hj:j<aa.length
   ·rw[je_,qE_ hj];simp[hj]
   ·rw[jV_ (by simp;lia),jV_ (by simp;lia)]
  ·obtain⟨o,s',dX,iU,gC,gD,rfl⟩:=(ar _ _ _).mp h'
   obtain⟨r,hr,rfl⟩:=Ck hx
   have eE:=jc_ hr
   have cn:=rf.rng r eE
   have mK:(R.map (cf st.2))[i]?=some (cf st.2 r):=by rw[je_,hr];rfl
   have bL:=aV.wc.len
   have lK:=Kw (R.map (cf st.2)) i
   rw[ja_]at lK
   have p9:=rf.len
   have nd:=Bh ((R.map (cf st.2)).take i)
   have et:=DG mK
   have hcat:(st.2)[r.toNat]?=some (cf st.2 r):=by unfold cf;rw[jj_];simp[show r.toNat<st.2.length by lia]
   nofun
   have gu:ixN (D4 st.2 R aa.length i).length r=some r.toNat:=by rw[F3];exact Wn cn.1 s!""
   have gE:=Rj (c:=st.2) (n:=aa.length) hr cn.1 cn.2
   refine⟨.inl ⟨_,.inl gC⟩,_,SqL.of iU,_,A7 cn.1 hcat,.inl ⟨_,gC,_,rfl,_,gC,by rw[DF];lia,fun v hv=>?_,fun hn=>?_⟩⟩
   ·by_cases bT:cf st.2 r∈AA ((R.map (cf st.2)).take i)
    ·have e:=Dj (k:=fun x:Int=>(qX x:Key)) cy nd bT
     have e2:=hv.symm.trans e
     cases e2
     have eh:hm st.2 R r=(((AA ((R.map (cf st.2)).take i)).idxOf (cf st.2 r):Nat):Int):=by unfold hm;rw[Ky bT]
     refine⟨_,gD,_,gu,(ar _ _ _).mpr ⟨_,s'.over jY,by rw[Ah hRt];exact dX,by rw[Ah hct];exact iU,by rw[Ah p8,et,ins1,if_pos bT];exact gC,by rw[Ab,<-gE,eh],rfl⟩⟩
    ·have e:=F2 (k:=fun x:Int=>(qX x:Key)) cy bT
     have e2:=hv.symm.trans e
     cases e2
   ·have bT:cf st.2 r∉AA ((R.map (cf st.2)).take i):=fun z=>by
     have e:=Dj (k:=fun x:Int=>(qX x:Key)) cy nd z
     have e2:=hn.symm.trans e
     cases e2
    have dW:=Kv (k:=fun x:Int=>(qX x:Key)) cy bT
    have eh:hm st.2 R r=((numD (fun x:Int=>(qX x:Key)) (AA ((R.map (cf st.2)).take i))).length:Int):=by
     unfold hm
     rw[DF,Ky (i:=i+1) (by rw[et,ins1,if_neg bT];simp),et,ins1,if_neg bT,Mn bT]
    have hpt2':upd H' pd (.dK (putK (numD (fun x:Int=>(qX x:Key)) (AA ((R.map (cf st.2)).take i))) (qX (cf st.2 r)) (V.int ((numD (fun x:Int=>(qX x:Key)) (AA ((R.map (cf st.2)).take i))).length:Int)))) pt=some (.lst (D4 st.2 R aa.length i)):=by rw[Ah (qn_ p8)];exact gD
    refine⟨_,hpt2',_,gu,(ar _ _ _).mpr ⟨_,(s'.over hpdN).over jY,by rw[Ah hRt,Ah hRd];exact dX,by rw[Ah hct,Ah bQ];exact iU,?_,by rw[Ab,<-gE,eh],rfl⟩⟩
    rw[Ah p8,Ab,et,ins1,if_neg bT,DF]
    exact jC_ (fun z=>some (HO.dK z)) dW
  ·obtain⟨o,s',dX,iU,gC,gD,rfl⟩:=(ar _ _ _).mp h'
   rw[ja_]at gD
   nofun
   exact k pt _ s' jY gD aV rf
def W9    (h:R[i]?=some r):(hm c R r=((FR c (R.take i)).length:Int))↔cf c r∉(FR c (R.take i)).map (cf c):=by
 have mK:(R.map (cf c))[i]?=some (cf c r):=by rw[je_,h];rfl
 have ak:(FR c (R.take i)).length=(AA ((R.map (cf c)).take i)).length:=by
  have:=jC_ rm (Ih c (R.take i))
  rw[ja_,sR]at this
  exact this
 rw[Ih,sR,ak]
 have et:=DG mK
 unfold hm
 constructor
 ·intro e bT
  rw[Ky bT]at e
  have:=qG_ bT
  lia
 ·intro bT
  rw[Ky (i:=i+1) (by rw[et,ins1,if_neg bT];simp),et,ins1,if_neg bT,Mn bT]
def NR {c R:α2}{n:Nat}{r:Int}(hr:r∈R)(h0:0<=r)(h1:r<(n:Int)):(D4 c R n R.length)[r.toNat]?=some (V.int (hm c R r)):=by
 unfold D4
 rw[je_,qE_ s!"",jP_]
 have e:((r.toNat:Nat):Int)=r:=by lia
 show some (if ((r.toNat:Nat):Int)∈R then V.int (hm c R ((r.toNat:Nat):Int)) else V.non)=_
 rw[e,if_pos hr]
def AD.toRows {K:α3}{H:Hp}{w:Addr}{zs:List V}{ws:α1}(h:AD K H zs ws)(hw:SqT K H w zs):Rows K H w ws:=by
 refine⟨zs.map (fun v=>match v with | .ref t=>t|_=>0),?_,by rw[ja_];exact h.1,fun i t r hi hr=>?_⟩
 ·have e:(zs.map (fun v=>match v with | .ref t=>t|_=>0)).map V.ref=zs:=by
   rw[jU_]
   refine qK_ fun i=>?_
   rw[je_]
   by_cases hi:i<ws.length
   ·obtain⟨t,a,_⟩:=h.2 i ws[i] (by simp[hi])
    rw[a];rfl
   ·rw[jV_ (by rw[h.1];lia)];rfl
  rw[e];exact hw
 ·obtain⟨t',a,b⟩:=h.2 i r hr
  rw[je_,a]at hi
  cases hi
  exact SqT.of b
def Kz (K:α3):Sp:=fun vs H Q _=>∃(h:Addr) (L:Nat) (aa:α2) (ae:α1),vs=[.ref h]/\AZ K H h L aa ae/\Wf L aa ae/\∀t H',Same H H'->AZ K H' t L (sM L aa ae) (sW L aa ae)->Q (.ref t) H'
def SW   (F:Fun K "least" "least" Io f fd)(T:Txt mg)
   (ft:⋯ 2 "reached" Ej ["house"] (Gz K) Iz GA)
   (gF:⋯ 4 "homes" Kq ["house"] (NQ K) Rk NS)
  : nofun 5 f fd ["house"] (Kz K):=by
 delta FT
 ·obtain⟨h,L,aa,ae,rfl,_⟩:=h;rfl
 ·obtain⟨h,L,aa,ae,rfl,hh,wf,k⟩:=h
  have hl:=Ar
  have aO:=wf.n40
  have cW:=wf.l6
  obtain⟨mm,wv,q1,q2,q3⟩:=id hh
  refine⟨_,(Ac (Be (i:=1) FT.nd rfl (rh rfl) (Ai gF hr.d AL (Aa (pvD 0) Ad)))
   (Ac (Ak (i:=2) FT.nd (Bp Ad))
   (Ac (Ak (i:=3) FT.nd (Bp Ad))
   (Ac (Bs jJ_ rfl (AW (Ai ft hr.d AL (Aa (pvD 0) Ad))) (Am (i:=4) FT.nd rfl (qY rfl))
   (Af (BI (ptT (As (opE Cb) (Ag (ixLD AX) (pvD 1) (pvD 4)) (Aq (lenD Aj) (by rfl) T.len jI_ (Aa (pvD 2) Ad)) (AI _)))
   (Ac (Bc (C5 jD_ jM_ jN_ AS (pvD 2) (Aa (Ag (ixTD Ao) (Ag (ixTD Ao) (pvD 0) Ae) (pvD 4)) Ad)))
   (Af (Bc (C5 jD_ jM_ jN_ AS (pvD 3) (Aa (AE Az rfl T.tuple jE_ (Aa (A5 rfl (A6 rfl) (cp:=Lz) ⟨⟨rfl,rfl⟩,qW⟩ (E3 (Ag (ixTD Ao) (Ag (ixTD Ao) (pvD 0) Ae) (pvD 4))) (fun _ _ _ _=>(Am (i:=0) LA rfl (qY rfl))) (fun _ _ _ _=>Bg) (fun _ _ _ _=>(Ag (ixLD (Bn (K:=K) rfl)) (pvD 1) (pvD 0)))) Ad)) Ad)))))
   AK)))
   (Af (AH (Bx (Aa (Ag (ixTD Ao) (pvD 0) Ae) (Aa (AE Az rfl T.tuple jE_ (Aa (pvD 2) Ad)) (Aa (AE Az rfl T.tuple jE_ (Aa (pvD 3) Ad)) Ad)))))))))),?_⟩
  nofun
  refine⟨h,L,aa,ae,rfl,hh,wf,fun ph H1 s1 hphN lT aV rf=>?_⟩
  generalize hR:(Aw ae).map (·.1)=R at lT rf
  generalize la:wcOf aa.length L (bW aa ae)=st at lT aV
  refine⟨jX_ _,fun pm cb=>⟨jX_ _,fun pv dF=>?_⟩⟩
  have hpmN:H pm=none:=s1.none cb
  have s2:=(s1.newT cb (o:=.lst [])).newT dF (o:=.lst [])
  have hpvN:H pv=none:=(s1.newT cb (o:=.lst [])).none dF
  have dv:upd (upd H1 pm (.lst [])) pv (.lst []) pm=some (.lst []):=(Same.new dF) _ _ Ab
  have j6:upd (upd H1 pm (.lst [])) pv (.lst []) pv=some (.lst []):=Ab
  have hph2:upd (upd H1 pm (.lst [])) pv (.lst []) ph=some (.lst (D4 st.2 R aa.length R.length)):=(Same.new dF) _ _ ((Same.new cb) _ _ lT)
  have hphm:ph≠pm:=fun z=>by rw[z,cb]at lT;cases lT
  have nR:pm≠pv:=fun z=>by rw[<-z,Ab]at dF;cases dF
  have hphv:ph≠pv:=fun z=>by rw[<-z,(Same.new cb) _ _ lT]at dF;cases dF
  generalize upd (upd H1 pm (.lst [])) pv (.lst [])=H2 at s2 dv j6 hph2 ⊢
  refine⟨h,L,aa,ae,rfl,hh.mono s2,wf,fun pR H3 s3 cZ j4 rf2=>?_⟩
  rw[hR]at j4
  have lM:=s2.trans s3
  have hRm:pR≠pm:=fun z=>by rw[z,dv]at cZ;cases cZ
  have hRv:pR≠pv:=fun z=>by rw[z,j6]at cZ;cases cZ
  have hpm3:=s3 _ _ dv
  have hpv3:=s3 _ _ j6
  have hph3:=s3 _ _ hph2
  refine⟨pR,rfl,⟨_,SqL.of j4⟩,?_⟩
  obtain⟨Pv,ar⟩:∃Pv:Nat->St->Hp->Prop,∀i ag H',Pv i ag H'↔(∃(zs:List V) (o:Option V),Same H H'/\H' pR=some (.lst (R.map V.int))/\H' ph=some (.lst (D4 st.2 R aa.length R.length))/\H' pm=some (.lst (((FR st.2 (R.take i)).map (mkR aa)).map V.int))/\H' pv=some (.lst zs)/\AD K H' zs ((FR st.2 (R.take i)).map (hrow st.2 R ae))/\ag=[some (.ref h),some (.ref ph),some (.ref pm),some (.ref pv),o]):=⟨_,fun _ _ _=>qk_⟩
  refine forL (xs:=R.map V.int) Pv ((ar _ _ _).mpr ⟨[],none,lM,j4,hph3,hpm3,hpv3,AD.nil,rfl⟩) (fun i ag H' _ h'=>by obtain⟨_,_,_,h2,_⟩:=(ar _ _ _).mp h';exact SqL.of h2) (fun i x ag H' hx h'=>?_) (fun ag H' h'=>?_)
  ·obtain⟨zs,o,s',dX,iV,dy,iW,lU,rfl⟩:=(ar _ _ _).mp h'
   obtain⟨r,hr,rfl⟩:=Ck hx
   have eE:=jc_ hr
   have cn:=rf.rng r eE
   have lK:=ND st.2 (R.take i)
   have p9:=rf.len
   rw[jx_]at lK
   have mw:=NR (c:=st.2) (n:=aa.length) eE cn.1 cn.2
   have dr:=W9 (c:=st.2) hr
   have eFR:=QQ (c:=st.2) hr
   obtain⟨row,gG,eK,hrow3⟩:=wf.row cn.1 cn.2
   have cc:=wf.rows row eK
   have jr:∀g∈row,g∈R:=fun g hg=>by
    obtain⟨x,hx⟩:=jG_.mp hg
    have bO:=(jb_.mp hx).1
    have:=rf.cls r eE x s!""
    rwa [BF gG (by rw[ji_];exact hx)]at this
   have g8:aa[r.toNat]?=some (mkR aa r):=by unfold mkR;rw[jj_];simp[show r.toNat<aa.length by lia]
   have lV:hrow st.2 R ae r=row.map (hm st.2 R):=by unfold hrow;rw[jj_,gG];rfl
   obtain⟨xs1,t1,z1,z2,z3⟩:=q3.atZ cn.1 gG
   nofun
   refine⟨_,SqL.of iV,_,Cc cn.1 mw,_,.inl (SqL.of dy),?_⟩
   rw[ja_,ja_]
   refine⟨rfl,ite2 (fun he=>?_) (fun he=>?_)⟩
   ·have hnot:=dr.mp (V.int.inj he)
    have gH:FR st.2 (R.take (i+1))=FR st.2 (R.take i)++[r]:=by rw[eFR,By,if_neg hnot]
    refine⟨.inl ⟨rfl,_,SqL.of dy⟩,_,s'.seqT q1,_,rfl,mm,rfl,_,s'.seqT q2,_,A7 cn.1 g8,_,dy,by rw[ja_,ja_];lia,?_⟩
    have sM:=s'.over hpmN (o:=.lst (((FR st.2 (R.take i)).map (mkR aa)).map V.int++[V.int (mkR aa r)]))
    have j7:upd H' pm (.lst (((FR st.2 (R.take i)).map (mkR aa)).map V.int++[V.int (mkR aa r)])) pv=some (.lst zs):=by rw[Ah (qn_ nR)];exact iW
    have j8:upd H' pm (.lst (((FR st.2 (R.take i)).map (mkR aa)).map V.int++[V.int (mkR aa r)])) ph=some (.lst (D4 st.2 R aa.length R.length)):=by rw[Ah hphm];exact iV
    have hpRM:upd H' pm (.lst (((FR st.2 (R.take i)).map (mkR aa)).map V.int++[V.int (mkR aa r)])) pR=some (.lst (R.map V.int)):=by rw[Ah hRm];exact dX
    have hpmM:upd H' pm (.lst (((FR st.2 (R.take i)).map (mkR aa)).map V.int++[V.int (mkR aa r)])) pm=some (.lst (((FR st.2 (R.take i)).map (mkR aa)).map V.int++[V.int (mkR aa r)])):=Ab
    have hZM:=lU.mono (TK.lst dy (o:=.lst (((FR st.2 (R.take i)).map (mkR aa)).map V.int++[V.int (mkR aa r)])))
    generalize upd H' pm (.lst (((FR st.2 (R.take i)).map (mkR aa)).map V.int++[V.int (mkR aa r)]))=HM at sM j7 j8 hpRM hpmM hZM ⊢
    obtain⟨f,hf⟩:∃f:V->V,∀n:Int,f (V.int n)=.int (hm st.2 R n):=⟨fun x=>match x with | .int n=>.int (hm st.2 R n)|_=>.non,fun _=>rfl⟩
    refine⟨.inl ⟨rfl,_,SqL.of j7⟩,_,sM.seqT q1,_,rfl,wv,rfl,_,sM.seqT z1,_,z2,t1,rfl,⟨_,sM.seqT z3⟩,EJ (ag:=[some (.ref ph)]) f rfl (sM.seqT z3) (by rw[ja_];lia) (fun x hx R' jh=>?_) (fun D hD=>?_)⟩
    ·obtain⟨g,hg,rfl⟩:=CT hx
     rw[hf]at jh
     have qa:=cc.2 g hg
     nofun
     exact⟨_,SqL.of j8,_,Cc qa.1 (NR (jr g hg) qa.1 qa.2),jh⟩
    ·have em:(row.map V.int).map f=(hrow st.2 R ae r).map V.int:=by
      rw[lV,jU_,jU_]
      exact qr_ fun n _=>hf n
     rw[em]
     refine⟨D,rfl,_,.inl ⟨SqL.of Ab,fun tl htl=>?_⟩⟩
     have sX:=(Same.new hD (o:=.lst ((hrow st.2 R ae r).map V.int))).newT htl (o:=.tup ((hrow st.2 R ae r).map V.int))
     have hpvX:=sX _ _ j7
     have ff:zs.length<=1000:=by rw[lU.1,ja_];lia
     refine⟨_,hpvX,by lia,(ar _ _ _).mpr ⟨zs++[V.ref tl],_,(sM.trans sX).over hpvN,by rw[Ah hRv];exact sX _ _ hpRM,by rw[Ah hphv];exact sX _ _ j8,?_,Ab,?_,rfl⟩⟩
     ·rw[Ah nR,sX _ _ hpmM,gH,jS_,jS_];rfl
     ·rw[gH,jS_]
      exact ((hZM.mono (TK.of sX)).snoc (w:=hrow st.2 R ae r) Ab).mono (TK.lst hpvX)
   ·have bN:cf st.2 r∈(FR st.2 (R.take i)).map (cf st.2):=Decidable.byContradiction fun z=>he (by rw[dr.mpr z])
    have gH:FR st.2 (R.take (i+1))=FR st.2 (R.take i):=by rw[eFR,By,if_pos bN]
    exact (ar _ _ _).mpr ⟨zs,_,s',dX,iV,by rw[gH];exact dy,iW,by rw[gH];exact lU,rfl⟩
  ·obtain⟨zs,o,s',dX,iV,dy,iW,lU,rfl⟩:=(ar _ _ _).mp h'
   rw[ja_,jP_]at dy lU
   nofun
   refine⟨_,s'.seqT q1,_,rfl,_,.inl ⟨SqL.of dy,fun tm lQ=>⟨_,.inl ⟨SqL.of ((Same.new lQ) _ _ iW),fun tw mW=>⟨by lia,fun t ht=>?_⟩⟩⟩⟩⟩
   have sE:=((Same.new lQ (o:=.tup (((FR st.2 R).map (mkR aa)).map V.int))).newT mW (o:=.tup zs)).newT ht (o:=.tup [V.int L,V.ref tm,V.ref tw])
   subst hR la
   exact k t _ (s'.trans sE) ⟨tm,tw,SqT.of Ab,SqT.of ((Same.new ht) _ _ ((Same.new mW) _ _ Ab)),AD.toRows (lU.mono (TK.of sE)) (SqT.of ((Same.new ht) _ _ Ab))⟩
abbrev LamH (K:α3)(H:Hp):Prop:=LamT (tabP K "in_order") FV (Str.ofString "in_order" ++ ".<locals>.") H
def F5 {K:α3}{H:Hp}:∀{us:α1} {xs:List V},AD K H xs us->∃os:List aL.Wd,xs=aL.wv os/\os.map (·.2)=us/\∀w∈os,H w.1=some (.tup (w.2.map V.int))
 |[],xs,h=>⟨[],List.length_eq_zero_iff.mp h.1,rfl,fun w hw=>by cases hw⟩
 |u::us,xs,h=>by
  obtain⟨t,h1,h2⟩:=h.2 0 u rfl
  match xs,h with
  |[],h=>exact absurd h.1 (by simp)
  |x::xs,h=>
   have e:x=V.ref t:=by simpa using h1
   obtain⟨os,e1,e2,e3⟩:=F5 (K:=K) (H:=H) (us:=us) (xs:=xs) ⟨by simpa using h.1,fun i w hw=>h.2 (i+1) w (by simpa using hw)⟩
   refine⟨(t,u)::os,by rw[e,e1];rfl,by simp[e2],fun w hw=>?_⟩
   rcases jB_.mp hw with rfl|hw
   ·exact h2
   ·exact e3 w hw
def WsT (H:Hp)(os:List aL.Wd):Prop:=∀w∈os,H w.1=some (.tup (w.2.map V.int))
def Ug (K:α3):Sp:=fun vs H Q _=>∃(a:Addr) (xs:List V) (ws:α1),vs=[.ref a]/\SqL K H a xs/\AD K H xs ws/\ws.length<sizeLine/\LamH K H /\
 ∀D H' os,BW (tabP K "in_order") H H'->LamH K H'->H D=none->H' D=some (.lst (aL.wv os))->WsT H' os->(os.map (·.2)).Perm (ws.foldl ins [])->aL.Srt os->Q (.ref D) H'
def MN   (F:FunL K mg base "in_order" "in_order" Ci f fd)(T:Txt mg)
  : nofun 4 f fd ["words"] (Ug K):=by
 refine F.ok Fq (fun vs H Q E h=>?_) (fun aA bQ A outer s H vs Q E hr h=>?_)
 ·obtain⟨a,xs,ws,rfl,_⟩:=h;rfl
 ·obtain⟨a,xs,ws,rfl,hs,hW,hz,hT,k⟩:=h
  have hl:=Ar
  refine⟨_,(Ac (Be (i:=1) Fq.nd rfl (qY rfl) Nc)
   (Ac (Bs jJ_ rfl (AW (pvD 0)) (Am (i:=2) Fq.nd rfl (qY rfl))
   (Af (JS (HI hr) (pvD 1) (pvD 2) L4 rfl)))
   (Af (AH (OH (k:=0) (c:=tabC K "in_order") (P:=tabP K "in_order") (lp:=FV) (qual:=Str.ofString "in_order" ++ ".<locals>.") hr rfl T.sorted T.len bQ F.C F.B (Aa (AE (Ia rfl) rfl T.list xm_ (Aa (pvD 1) Ad)) Ad)))))),?_⟩
  nofun
  intro p hp
  have sp:=Same.new (o:=.dT []) hp
  refine⟨⟨_,sp.seq hs⟩,?_⟩
  obtain⟨Py,mY⟩:∃Pv:Nat->St->Hp->Prop,∀j ag H',Pv j ag H'↔(∃(kvs:List (List Key×V)) (o':Option V),Same H H'/\H' p=some (.dT kvs)/\EV ((ws.take j).foldl ins []) kvs/\ag=[some (.ref a),some (.ref p),o']):=⟨_,fun _ _ _=>qk_⟩
  refine forL (xs:=xs) Py ((mY _ _ _).mpr ⟨[],_,sp,Ab,by rw[zY_];exact EV.nil,rfl⟩) (fun j ag H' _ h'=>by obtain⟨_,_,s',_⟩:=(mY _ _ _).mp h';exact s'.seq hs) (fun j y aC H3 hy h3=>?_) (fun aC H3 h3=>?_)
  ·obtain⟨kvs,o',s3,hd,hk,rfl⟩:=(mY _ _ _).mp h3
   obtain⟨u,v,dB,rfl,hu⟩:=hW.at hy
   have hj:j<ws.length:=(jb_.mp dB).1
   have ak:kvs.length<sizeLine:=by
    have h1:=Cg (ws.take j) []
    rw[hk.len]
    rw[jx_,qi_]at h1
    lia
   nofun
   have gS:H3 u=some (.tup ((wkey v).map kV)):=by rw[J9];exact s3 _ _ hu
   refine⟨_,DPut.t (k:=wkey v) hd gS s!"",(mY _ _ _).mpr ⟨_,_,s3.over hp,Ab,?_,rfl⟩⟩
   rw[jQ_,dB,qp_,qu_]
   exact hk.put _ _
  ·obtain⟨kvs,o',s3,hd,hk,rfl⟩:=(mY _ _ _).mp h3
   rw[hW.1,jP_]at hk
   nofun
   refine⟨kvs,.inl hd,fun l rs lC cG pX=>?_⟩
   have hWr:AD K (upd H3 l (.lst rs)) rs (ws.foldl ins []):=(hk.words (K:=K) cG pX).mono (TK.new lC)
   obtain⟨qb,e1,e2,e3⟩:=F5 hWr
   have s4:Same H (upd H3 l (.lst rs)):=s3.newT lC
   have lW:=hT.mono s4
   have ak:qb.length<sizeLine:=by
    have h1:=jC_ rm e2
    have h2:=Cg ws []
    rw[ja_]at h1
    rw[qi_]at h2
    lia
   have qc:SqL K (upd H3 l (.lst rs)) l (aL.wv qb):=by rw[<-e1];exact SqL.of Ab
   generalize upd H3 l (.lst rs)=H4 at hWr e3 s4 lW qc ⊢
   refine⟨qb,qc,fun w hw=>SqT.of (e3 w hw),ak,lW,fun H5 D os s5 nS g9 hD cB hsrt=>?_⟩
   refine k D H5 os (fun b o hb e=>s5 b o hb (s4 b o e)) nS (Same.none s4 g9) hD (fun w hw=>?_) ?_ hsrt
   ·have h1:=e3 w (cB.mem_iff.mp hw)
    obtain⟨_,mZ⟩:=lW.is
    exact s5.ne h1 (fun _ z=>by cases z) mZ
   ·have:=cB.map (·.2)
    rw[e2]at this
    exact this
def Uh (K:α3)(H:Hp)(e:Addr)(n:Nat)(E:Nat->α1):Prop:=∃es:List V,H e=some (.lst es)/\∀r,r<n->∃q ys,es[r]?=some (.ref q)/\H q=some (.lst ys)/\AD K H ys (E r)
def wayW (ae:α1)(r:Nat):α2:=(((Aw ae).find? fun e=>e.1==(r:Int)).getD (0,[])).2
def MO {ae:α1}(nod:((Aw ae).map (·.1)).Nodup){r:Nat}{w:α2}(h:((r:Int),w)∈Aw ae):wayW ae r=w:=by
 unfold wayW
 cases hf:(Aw ae).find? fun e=>e.1==(r:Int) with
 |none=>exact absurd (xt_.mp hf _ h) (by simp)
 |some e=>
  have h1:=zP_ hf
  have h2:=q7_ hf
  have e1:e.1=(r:Int):=by simpa using h1
  obtain⟨i,hi,ei⟩:=jO_ h2
  obtain⟨j,hj,ej⟩:=jO_ h
  have ij:i=j:=(xL_ (h₀:=by simpa using hi) (h₁:=by simpa using hj) nod).mp (by simp[ei,ej,e1])
  subst ij
  rw[ei]at ej
  rw[uf,ej]
def oneW (ae:α1)(E:Nat->α1)(r:Nat)(m:α2):α1:=(E (AB ae (wayW ae r++m)).toNat).map ((wayW ae r++m) ++ ·)
def allW (ae:α1)(n:Nat)(c9:α1)(E:Nat->α1):α1:=(qV n).flatMap fun r=>c9.flatMap (oneW ae E r)
abbrev Dk (L:Int)(m:Nat):α1:=(qV (many L (m+2)).toNat).map (nth L)
def F6 {α β:Type}{f:α->List β}{c:Nat}:∀(l:List α),(∀x∈l,(f x).length<=c)->(l.flatMap f).length<=l.length*c
 |[],_=>by simp
 |x::l,h=>by
  have h1:=h x jn_
  have h2:=F6 l (fun y hy=>h y (jl_ _ hy))
  rw[List.flatMap_cons,jk_,jT_,vn]
  lia
def OR {K:α3}    (h:AD K H xs us)(g:AD K H ys vs):AD K H (xs++ys) (us++vs):=by
 refine⟨by rw[jk_,jk_,h.1,g.1],fun i w hw=>?_⟩
 by_cases hi:i<us.length
 ·rw[jd_ hi]at hw
  obtain⟨t,a,b⟩:=h.2 i w hw
  exact⟨t,by rw[jd_ (by rw[h.1];exact hi)];exact a,b⟩
 ·rw[jm_ s!""]at hw
  obtain⟨t,a,b⟩:=g.2 _ w hw
  exact⟨t,by rw[jm_ (by rw[h.1];lia),h.1];exact a,b⟩
def MQ (K:α3):Sp:=fun vs H Q _=>∃(h e:Addr) (L:Int) (m:Nat) (aa:α2) (ae:α1) (E:Nat->α1),vs=[.ref h,.int m,.ref e]/\AZ K H h L aa ae/\Wf L aa ae/\m<=3/\many L (m+2)<=341/\Uh K H e aa.length E/\(∀r,r<aa.length->(E r).length<=40/\∀w∈E r,w.length<=40)/\(∀r:Nat,r<aa.length->(r:Int)∈(Aw ae).map (·.1))/\LamH K H /\
 ∀D H' os,BW (tabP K "in_order") H H'->LamH K H'->H D=none->H' D=some (.lst (aL.wv os))->WsT H' os->(os.map (·.2)).Perm ((allW ae aa.length (Dk L m) E).foldl ins [])->aL.Srt os->Q (.ref D) H'
def KA   (F:Fun K "words_with" "words_with" Ct f fd)(T:Txt mg)
   (j9:⋯ 4 "words_to" ER ["letters","most"] (Uc K) JD IA)
   (fi:⋯ 4 "room_behind" B0 ["house","word"] (MF K) DE C3)
   (ka:⋯ 2 "ways_in" FP ["house"] (LG K) LH JE)
   (kb:⋯ 4 "in_order" Ci ["words"] (Ug K) ET Vu)
  : nofun 5 f fd ["base","more","ends"] (MQ K):=by
 delta B2
 ·obtain⟨h,e,L,m,aa,ae,E,rfl,_⟩:=h;rfl
 ·obtain⟨h,e,L,m,aa,ae,E,rfl,hh,wf,hm,bq,hE,hEl,aB,hT,k⟩:=h
  have hl:=Ar
  have cV:=wf.l1
  have cW:=wf.l6
  have aO:=wf.n40
  refine⟨_,(Ac (Ak (i:=3) B2.nd (Bp Ad))
   (Ac (Bs jJ_ rfl (AW (Ai ka hr.d AL (Aa (pvD 0) Ad))) (Am (i:=4) B2.nd rfl (qY rfl))
   (Af (Bs jJ_ rfl (AW (Ai j9 hr.d AL (Aa (Ag (ixTD Ao) (pvD 0) Ae) (Aa (An (opD0 AY) (pvD 1) Ae) Ad)))) (Am (i:=5) B2.nd rfl (qY rfl))
   (Ac (Be (i:=6) B2.nd rfl (rh rfl) (An EK (pvD 4) (pvD 5)))
   (Af (Bc (C5 jD_ vg vh Pq (pvD 3) (Aa (A5 rfl (A6 rfl) (cp:=E6) ⟨⟨rfl,rfl⟩,qW⟩ (AW (Ag (ixLD AX) (pvD 2) (Ai fi hr.d AL (Aa (pvD 0) (Aa (pvD 6) Ad))))) (fun _ _ _ _=>(Am (i:=0) Gs rfl (qY rfl))) (fun _ _ _ _=>Bg) (fun _ _ _ _=>(An (QG (K:=K) rfl) (pvD 1) (pvD 0)))) Ad))))))))
   (Af (AH (Ai kb hr.d AL (Aa (pvD 3) Ad)))))),?_⟩
  nofun
  refine⟨by lia,fun p hp=>?_⟩
  have s0:=Same.new (o:=.lst []) hp
  refine⟨h,L,aa,ae,rfl,hh.mono s0,wf,fun d top H1 s1 hdn hWS bf=>?_⟩
  obtain⟨xs,hd,bO,hxs⟩:=hWS
  have s01:=s0.trans s1
  have bw:=s1 _ _ (Ab (H:=H) (a:=p) (o:=.lst []))
  have lS:d≠p:=(Av hdn).2
  refine⟨d,rfl,⟨_,SqL.of hd⟩,?_⟩
  have hmL:(Dk L m).length<=341:=by
   rw[ja_,qd_];lia
  have hone:∀(r:Nat) (v:α2),r<aa.length->isW L (wayW ae r++v)=true->(oneW ae E r v).length<=40:=fun r v hr hv=>by
   have h1:=wf.walk hv (wayW ae r++v).length
   rw[jP_]at h1
   unfold oneW
   rw[ja_]
   exact (hEl _ s!"").1
  have hway:∀r,r<aa.length->∃t,xs[r]?=some (.ref t)/\H1 t=some (.tup ((wayW ae r).map V.int))/\isW L (wayW ae r)=true/\(wayW ae r).length<=40:=fun r hr=>by
   rcases hxs r hr with ⟨w,t,a,b,c⟩|⟨a,_⟩
   ·rw[MO bf.nod a]
    obtain⟨j,hj⟩:=jG_.mp a
    have h1:=bf.sh j _ hj
    have h2:=(jb_.mp hj).1
    have h3:=bf.len
    exact⟨t,b,c,(bf.wd _ a).1,by dsimp only at h1;lia⟩
   ·exact absurd (aB r hr) a
  have nR:∀v∈Dk L m,isW L v=true:=fun v hv=>by
   obtain⟨k',_,rfl⟩:=jt_.mp hv
   exact C6 (show 0<L by lia) k'
  have happ:∀r,r<aa.length->∀v,isW L v=true->isW L (wayW ae r++v)=true:=fun r hr v hv=>by
   obtain⟨_,_,_,m7,_⟩:=hway r hr
   rw[Ay]at m7 hv ⊢
   intro x hx
   rcases jw_.mp hx with hx|hx
   ·exact m7 x hx
   ·exact hv x hx
  have hb1:∀r,r<aa.length->∀j,(((Dk L m).take j).flatMap (oneW ae E r)).length<=13640:=fun r hr j=>by
   have h1:=F6 (f:=oneW ae E r) (c:=40) ((Dk L m).take j) (fun v hv=>hone r v hr (happ r hr v (nR v (xh_ hv))))
   have h2:((Dk L m).take j).length<=341:=qm_ (by rw[jx_];lia) hmL
   lia
  have fh:∀i,i<=aa.length->((qV i).flatMap fun r=>(Dk L m).flatMap (oneW ae E r)).length<=545600:=fun i hi=>by
   have h1:=F6 (f:=fun r=>(Dk L m).flatMap (oneW ae E r)) (c:=13640) (qV i) (fun r hr=>by
    have:=hb1 r (by have:=jF_.mp hr;lia) (Dk L m).length
    rw[jP_]at this
    exact this)
   rw[qd_]at h1
   have h2:i*13640<=40*13640:=sL _ s!""
   lia
  obtain⟨Pv,ar⟩:∃Pv:Nat->St->Hp->Prop,∀i ag H',Pv i ag H'↔(∃(ys:List V) (o4 o5 o6:Option V),Same H H'/\TK H1 H'/\H' d=some (.lst xs)/\H' p=some (.lst ys)/\AD K H' ys ((qV i).flatMap fun r=>(Dk L m).flatMap (oneW ae E r))/\ag=[some (.ref h),some (.int m),some (.ref e),some (.ref p),o4,o5,o6]):=⟨_,fun _ _ _=>qk_⟩
  refine forL (xs:=xs) Pv ((ar _ _ _).mpr ⟨[],none,none,none,s01,TK.refl _,hd,bw,AD.nil,rfl⟩) (fun i ag H' _ h'=>by obtain⟨_,_,_,_,_,_,q,_⟩:=(ar _ _ _).mp h';exact SqL.of q) (fun i x aj H2 hx h2=>?_) (fun aj H2 h2=>?_)
  ·obtain⟨ys,o4,o5,o6,s2,qd,fT,aN,jQ,rfl⟩:=(ar _ _ _).mp h2
   have hi:i<aa.length:=by rw[<-bO];exact (jb_.mp hx).1
   obtain⟨t,hU,ht,m7,cD⟩:=hway i hi
   rw[hx]at hU
   cases hU
   nofun
   obtain⟨mm,wv,q1,q2,q3⟩:=id hh
   refine⟨_,s2.seqT q1,_,rfl,L,m+1,by rw[Int.natCast_add];rfl,cV,cW,by lia,by show many L (m+2)<=4000;lia,fun pm zs H3 s3 hpmn cb hWm=>⟨pm,rfl,⟨_,SqL.of cb⟩,?_⟩⟩
   have hWm':AD K H3 zs (Dk L m):=hWm
   have hppm:pm≠p:=fun z=>by rw[z,aN]at hpmn;cases hpmn
   have hpH:H p=none:=hp
   obtain⟨Pw,cg⟩:∃Pv:Nat->St->Hp->Prop,∀j ag H',Pv j ag H'↔(∃(fu:List V) (o5 o6:Option V),Same H H'/\TK H3 H'/\H' d=some (.lst xs)/\H' pm=some (.lst zs)/\H' p=some (.lst fu)/\AD K H' fu (((qV i).flatMap fun r=>(Dk L m).flatMap (oneW ae E r))++((Dk L m).take j).flatMap (oneW ae E i))/\ag=[some (.ref h),some (.int m),some (.ref e),some (.ref p),some (.ref t),o5,o6]):=⟨_,fun _ _ _=>qk_⟩
   refine forL (xs:=zs) Pw ((cg _ _ _).mpr ⟨ys,o5,o6,s2.trans s3,TK.refl _,s3 _ _ fT,cb,s3 _ _ aN,by rw[zY_,List.flatMap_nil,qg_];exact jQ.mono (TK.of s3),rfl⟩) (fun j ag H' _ h'=>by obtain⟨_,_,_,_,_,_,q,_⟩:=(cg _ _ _).mp h';exact SqL.of q) (fun j y bK H4 hy h4=>?_) (fun bK H4 h4=>?_)
   ·obtain⟨fu,o5,o6,s4,m8,qe,hpm4,eC,gZ,rfl⟩:=(cg _ _ _).mp h4
    obtain⟨u,v,hvj,rfl,hu⟩:=hWm'.at hy
    have hvm:isW L v=true/\v.length<=4:=by
     obtain⟨k',dR,rfl⟩:=jt_.mp (jc_ hvj)
     have hv:=C6 (show 0<L by lia) k'
     refine⟨hv,?_⟩
     have h1:=(EL (show 0<L by lia) hv (m+1)).mpr (by
      rw[Ef]
      have:=jF_.mp dR
      show (k':Int)<many L (m+2)
      lia)
     lia
    have ht4:=m8 _ _ (TK.of s3 _ _ (qd _ _ ht))
    have hu4:=m8 _ _ hu
    nofun
    refine E4.ofS ht4 hu4 (by simp;lia) fun q H5 s5 hq=>?_
    have ji:isW L (wayW ae i++v)=true:=by
     rw[Ay]at m7 ⊢
     intro x hx
     rcases jw_.mp hx with hx|hx
     ·exact m7 x hx
     ·exact Ay.mp hvm.1 x hx
    have gS:H5 q=some (.tup ((wayW ae i++v).map V.int)):=by rw[hq,jS_]
    nofun
    have cB:=s5 _ _ eC
    refine⟨.inl ⟨rfl,_,SqL.of cB⟩,h,q,L,aa,ae,wayW ae i++v,rfl,hh.mono (s4.trans s5),wf,SqT.of gS,by rw[jk_];lia,fun _ H6 s6=>?_,fun hf=>by rw[ji]at hf;cases hf⟩
    have fO:=wf.walk ji (wayW ae i++v).length
    rw[jP_]at fO
    obtain⟨es,lH,pj⟩:=id hE
    obtain⟨pe,ye,qf,hye,hWe⟩:=pj (AB ae (wayW ae i++v)).toNat s!""
    have hEr:=hEl (AB ae (wayW ae i++v)).toNat s!""
    have qg:=(s4.trans s5).trans s6
    have hye6:=qg _ _ hye
    have hWe6:=hWe.mono (TK.of qg)
    have iB:=hWe.1
    refine⟨es,_,rfl,SqL.of (qg _ _ lH),_,Cc s!"" qf,pe,rfl,⟨_,SqL.of hye6⟩,?_⟩
    refine IU (xs:=ye) (fun j' bV ag H'=>Same H6 H'/\AD K H' bV (((E (AB ae (wayW ae i++v)).toNat).take j').map ((wayW ae i++v) ++ ·))/\∃o,ag=[o,some (.ref q)]) ⟨Same.refl _,AD.nil,none,rfl⟩ s!"" (fun j' bV ag H' ck h'=>⟨SqL.of (h'.1 _ _ hye6),by have:=h'.2.1.1;rw[ja_,jx_]at this;lia⟩) (fun j' x' bV ag H' eX h'=>?_) (fun bV ag H' h' D hD=>?_)
    ·obtain⟨s7,fP,o,rfl⟩:=h'
     obtain⟨u',v',m9,rfl,ja⟩:=hWe6.at eX
     have hvl:=hEr.2 v' (jc_ m9)
     nofun
     refine E4.ofS (s7 _ _ (s6 _ _ gS)) (s7 _ _ ja) (by simp;lia) fun q2 H8 s8 cS=>⟨s7.trans s8,?_,_,rfl⟩
     rw[jQ_,m9,qp_,jS_]
     exact (fP.mono (TK.of s8)).snoc (by rw[cS];simp)
    ·obtain⟨s7,fP,o,_⟩:=h'
     rw[iB,jP_]at fP
     have qh:upd H' D (.lst bV) p=some (.lst fu):=by
      have:=s7 _ _ (s6 _ _ cB)
      rw[Ah (Ap this hD)];exact this
     have s7D:Same H6 (upd H' D (.lst bV)):=s7.newT hD
     have nO:upd H' D (.lst bV) D=some (.lst bV):=Ab
     have lX:AD K (upd H' D (.lst bV)) bV _:=fP.mono (TK.new hD)
     generalize upd H' D (.lst bV)=H9 at qh s7D nO lX ⊢
     have nc:=(s5.trans s6).trans s7D
     have s49:=s4.trans nc
     have bE:=gZ.1
     have bS:=lX.1
     rw[jk_]at bE
     rw[ja_]at bS
     have ng:=hb1 i hi j
     have hb4:=fh i s!""
     have kT:TK H9 (upd H9 p (.lst (fu++bV))):=TK.lst qh
     refine⟨D,rfl,fu,qh,bV,nO,by lia,(cg _ _ _).mpr ⟨fu++bV,_,_,s49.over hpH,(m8.trans (TK.of nc)).trans kT,by rw[Ah lS];exact nc _ _ qe,by rw[Ah hppm];exact nc _ _ hpm4,Ab,?_,rfl⟩⟩
     rw[jQ_,hvj,qp_,sP,<-qc_]
     refine OR ((gZ.mono (TK.of nc)).mono kT) ?_
     have e1:[v].flatMap (oneW ae E i)=(E (AB ae (wayW ae i++v)).toNat).map ((wayW ae i++v) ++ ·):=by simp[oneW]
     rw[e1]
     exact lX.mono kT
   ·obtain⟨fu,o5,o6,s4,m8,qe,hpm4,eC,gZ,rfl⟩:=(cg _ _ _).mp h4
    refine (ar _ _ _).mpr ⟨fu,_,_,_,s4,(qd.trans (TK.of s3)).trans m8,qe,eC,?_,rfl⟩
    have:(Dk L m).take zs.length=Dk L m:=jW_ (by rw[hWm'.1];exact jg_ _)
    rw[this]at gZ
    rw[xT_,sP]
    simpa using gZ
  ·obtain⟨ys,o4,o5,o6,s2,qd,fT,aN,jQ,rfl⟩:=(ar _ _ _).mp h2
   rw[bO]at jQ
   nofun
   refine⟨p,ys,_,rfl,SqL.of aN,jQ,?_,hT.mono s2,fun D H3 os s3 hL3 g9 hD dJ cb hs=>?_⟩
   ·have:=fh aa.length (jg_ _)
    lia
   ·exact k D H3 os (fun b o hb e=>s3 b o hb (s2 b o e)) hL3 (Same.none s2 g9) hD dJ cb hs
def Rl      (h:WC L n b words c):∀(k:Nat) (w:α2),words[k]?=some w->w.length<=k:=by
 intro k
 induction k using uo with
 |ind k ih=>
  intro w hw
  by_cases hk:k=0
  ·subst hk
   rw[h.w0]at hw
   cases hw
   simp
  ·have ht:=h.tl k w hw s!""
   obtain⟨j,hj⟩:=jG_.mp ht
   have gU:j<k:=by
    have:=(jb_.mp hj).1
    rw[jx_]at this
    lia
   rw[xA_ gU]at hj
   have:=ih j gU _ hj
   rw[ue]at this
   lia
def Fb (L:Nat)(aa:α2)(ae:α1)(m:Nat):α1:=allW (sW L aa ae) (sM L aa ae).length (Dk (L:Int) m) fun _=>(wcOf (sM L aa ae).length L (bW (sM L aa ae) (sW L aa ae))).1
def NT (K:α3):Sp:=fun vs H Q _=>∃(h:Addr) (L m:Nat) (aa:α2) (ae:α1),vs=[.ref h,.int m]/\AZ K H h L aa ae/\Wf L aa ae/\m<=3/\many L (m+2)<=341/\LamH K H /\
 ∀D H' os,BW (tabP K "in_order") H H'->LamH K H'->H D=none->H' D=some (.lst (aL.wv os))->WsT H' os->(os.map (·.2)).Perm ((Fb L aa ae m).foldl ins [])->aL.Srt os->Q (.ref D) H'
def SX   (F:Fun K "suite" "suite" Kr f fd)(T:Txt mg)
   (fz:⋯ 3 "tellers" Ek ["house"] (Ri K) IB GC)
   (fA:⋯ 5 "least" Io ["house"] (Kz K) MR KC)
   (fB:⋯ 5 "words_with" Ct ["base","more","ends"] (MQ K) Es DH)
  : nofun 6 f fd ["house","more"] (NT K):=by
 delta Kt
 ·obtain⟨h,L,m,aa,ae,rfl,_⟩:=h;rfl
 ·obtain⟨h,L,m,aa,ae,rfl,hh,wf,hm,bq,hT,k⟩:=h
  have hl:=Ar
  refine⟨_,(Ac (Ak (i:=2) Kt.nd (Ai fA hr.d AL (Aa (pvD 0) Ad)))
   (Ac (Be (i:=3) Kt.nd rfl (rh rfl) (Ai fz hr.d AL (Aa (pvD 2) Ad)))
   (Af (AH (Ai fB hr.d AL (Aa (pvD 2) (Aa (pvD 1) (Aa (A5 rfl (A6 rfl) (cp:=LB) ⟨⟨rfl,rfl⟩,qW⟩ (E3 (Ag (ixTD Ao) (pvD 2) Ae)) (fun _ _ _ _=>(Am (i:=0) LC rfl (qY rfl))) (fun _ _ _ _=>Bg) (fun _ _ _ _=>(pvD 1))) Ad)))))))),?_⟩
  nofun
  have aQ:=sWf wf
  have cq:=sCan wf
  have iH:=aQ.n40
  refine⟨h,L,aa,ae,rfl,hh,wf,fun ps H3 s3 dY=>?_⟩
  unfold Fb at k
  generalize sM L aa ae=ms at aQ cq dY iH k
  generalize sW L aa ae=vs at aQ cq dY k
  obtain⟨sm,sv,r1,r2,r3⟩:=id dY
  refine⟨ps,L,ms,vs,rfl,dY,aQ,fun pe xs H7 s7 hpeN qf hW fin=>?_⟩
  have s37:=s3.trans s7
  generalize la:wcOf ms.length L (bW ms vs)=st at hW fin k
  have ji:st.1.length<=40:=by
   have h1:=fin.wc.le
   have h2:=GN st.2
   rw[fin.wc.len]at h2
   lia
  have cD:=Rl fin.wc
  nofun
  refine⟨_,s7.seqT r1,_,rfl,sm,rfl,⟨_,s7.seqT r2⟩,?_⟩
  refine RY (xs:=ms.map V.int) (fun i ys ag H'=>H'=H7/\ys=qU i (V.ref pe)/\∃o,ag=[o,some (.ref pe)]) ⟨rfl,rfl,none,rfl⟩ (by rw[ja_];lia) (fun i ys ag H' hi h'=>?_) (fun i x ys ag H' hx h'=>?_) (fun ys ag H' h' D hD=>?_)
  ·obtain⟨rfl,rfl,_⟩:=h'
   exact⟨s7.seqT r2,by rw[qx_];exact jg_ _⟩
  ·obtain⟨rfl,rfl,o,rfl⟩:=h'
   nofun
   refine⟨?_,_,rfl⟩
   exact (List.replicate_succ' ..).symm
  ·obtain⟨rfl,rfl,o,rfl⟩:=h'
   rw[ja_]
   have sD:=s37.newT hD (o:=.lst (qU ms.length (V.ref pe)))
   have jj:=Same.new hD (o:=.lst (qU ms.length (V.ref pe)))
   have eI:upd H' D (.lst (qU ms.length (V.ref pe))) D=some (.lst (qU ms.length (V.ref pe))):=Ab
   generalize upd H' D (.lst (qU ms.length (V.ref pe)))=H8 at sD jj eI ⊢
   refine⟨ps,D,L,m,ms,vs,fun _=>st.1,rfl,dY.mono (s7.trans jj),aQ,hm,bq,⟨_,eI,fun r hr=>⟨pe,xs,by rw[zf_,if_pos hr],jj _ _ qf,hW.mono (TK.of jj)⟩⟩,fun r hr=>⟨ji,fun w hw=>?_⟩,fun r hr=>?_,hT.mono sD,fun D' H9 os sT qk g9 jk dJ cb hs=>?_⟩
   ·obtain⟨j,hj⟩:=jG_.mp hw
    have h1:=cD j w hj
    have h2:j<st.1.length:=(jb_.mp hj).1
    lia
   ·have h1:=cq.order
    unfold rOf at h1
    rw[h1]
    exact jt_.mpr ⟨r,jF_.mpr hr,rfl⟩
   ·exact k D' H9 os (fun b o hb e=>sT b o hb (sD b o e)) qk (Same.none sD g9) jk dJ cb hs
def ownF (b:α2->Nat->Int)(r:Nat):α1->List Nat->α1
 |[],_=>[]
 |v::ws,left=>(if (left.filter fun o=>decide (b v o=b v r)).length<left.length then [v] else [])++ownF b r ws (left.filter fun o=>decide (b v o=b v r))
def F7 (b:α2->Nat->Int)(r n:Nat)(ws:α1):List Nat:=ws.foldl (fun left v=>left.filter fun o=>decide (b v o=b v r)) (qV n)
def ownW (n:Nat)(b:α2->Nat->Int)(ws:α1)(r:Nat):α1:=[]::ownF b r ws (qV n)
def Rm {b:α2->Nat->Int}{r:Nat}{v:α2}(left:List Nat):(left.filter fun o=>decide (b v o=b v r)).length<left.length ↔ ∃o∈left,b v o≠b v r:=by
 constructor
 ·intro h
  refine j1_ fun z=>?_
  have:=(zn_ (p:=fun o=>decide (b v o=b v r)) (l:=left)).mpr fun o ho=>j4_ (j1_ fun y=>z ⟨o,ho,y⟩)
  lia
 ·rintro⟨o,ho,ay⟩
  refine Nat.lt_of_not_le fun h=>?_
  have:=zn_.mp (sf (xU_ _ _) h) o ho
  exact ay (qv_ this)
def Hy {b:α2->Nat->Int}{r:Nat}{w:α2}:∀(ws:α1) (left:List Nat),w∈ownF b r ws left ↔ ∃o∈left,ws.find? (fun v=>decide (b v o≠b v r))=some w
 |[],left=>by simp[ownF]
 |v::ws,left=>by
  unfold ownF
  rw[jw_,Hy ws]
  constructor
  ·rintro (h|⟨o,ho,h⟩)
   ·split at h
    ·rename_i au
     obtain⟨o,ho,ay⟩:=(Rm left).mp au
     rw[jq_.mp h]
     exact⟨o,ho,by simp[xl_,ay]⟩
    ·cases h
   ·obtain⟨ho,he⟩:=xk_.mp ho
    have he:=qv_ he
    exact⟨o,ho,by rw[rY (by simp[he])];exact h⟩
  ·rintro⟨o,ho,h⟩
   by_cases ay:b v o=b v r
   ·rw[rY (by simp[ay])]at h
    exact .inr ⟨o,xk_.mpr ⟨ho,j4_ ay⟩,h⟩
   ·have h:v=w:=by simpa [xl_,ay] using h
    subst h
    left
    rw[if_pos ((Rm left).mpr ⟨o,ho,ay⟩)]
    exact jn_
def Hz {b:α2->Nat->Int}{r:Nat}:∀(ws:α1) (left:List Nat),r∈left->(ownF b r ws left).length+1<=left.length
 |[],left,h=>by
  have:=qB_ h
  simp only[ownF,qi_];lia
 |v::ws,left,h=>by
  have h2:=Hz (b:=b) (r:=r) ws (left.filter fun o=>decide (b v o=b v r)) (xk_.mpr ⟨h,by simp⟩)
  unfold ownF
  rw[jk_]
  split
  ·simp only[jR_];lia
  ·rename_i hh
   have:=xU_ (fun o=>decide (b v o=b v r)) left
   simp only[qi_];lia
def KD {b:α2->Nat->Int}{r:Nat}{w:α2}{ws:α1}{left:List Nat}(h:w∈ownF b r ws left):w∈ws:=by
 obtain⟨o,_,h⟩:=(Hy ws left).mp h
 exact q7_ h
def LI {b:α2->Nat->Int}{r:Nat}{v:α2}:∀(ws:α1) (left:List Nat) (i:Nat),ws[i]?=some v->ownF b r (ws.take (i+1)) left=ownF b r (ws.take i) left++(if (((ws.take i).foldl (fun left v=>left.filter fun o=>decide (b v o=b v r)) left).filter fun o=>decide (b v o=b v r)).length<((ws.take i).foldl (fun left v=>left.filter fun o=>decide (b v o=b v r)) left).length then [v] else [])
 |[],left,i,h=>by simp at h
 |u::ws,left,0,h=>by
  have h:u=v:=by simpa using h
  subst h
  simp[ownF]
 |u::ws,left,i+1,h=>by
  rw[sQ,sQ,ownF,ownF,qY_,LI ws _ i (by simpa using h),qc_]
def LJ {b:α2->Nat->Int}{r:Nat}:∀(ws:α1) (left:List Nat) (o:Nat),o∈ws.foldl (fun left v=>left.filter fun o=>decide (b v o=b v r)) left->o∈left
 |[],left,o,h=>h
 |v::ws,left,o,h=>(xk_.mp (LJ ws _ o h)).1
def LK {b:α2->Nat->Int}{r:Nat}:∀(ws:α1) (left:List Nat),(ws.foldl (fun left v=>left.filter fun o=>decide (b v o=b v r)) left).length<=left.length
 |[],left=>jg_ _
 |v::ws,left=>qm_ (LK ws _) (xU_ _ _)
def SY   (ws:α1):∀o∈F7 b r n ws,o<n:=fun o h=>jF_.mp (LJ ws _ o h)
def Ro   (ws:α1):(F7 b r n ws).length<=n:=by
 have:=LK (b:=b) (r:=r) ws (qV n)
 rw[qd_]at this
 exact this
def LL (H:Hp)(n:Nat)(b:α2->Nat->Int)(ws:α1)(ys:List V):Prop:=ys.length=ws.length/\∀(i:Nat) (v:α2),ws[i]?=some v->∃q,ys[i]?=some (.ref q)/\H q=some (.lst ((rowB n b v).map V.int))
def LL.mono      (h:LL H n b ws ys)(s:Same H H'):LL H' n b ws ys:=
 ⟨h.1,fun i v hv=>let ⟨q,a,c⟩:=h.2 i v hv;⟨q,a,s _ _ c⟩⟩
def Ui (K:α3):Sp:=fun vs H Q _=>∃(h a:Addr) (L:Nat) (aa:α2) (ae:α1) (ws:α2),vs=[.ref h,.ref a]/\AZ K H h L aa ae/\Wf L aa ae/\SqT K H a (ws.map V.int)/\isW L ws=true /\
 ∀p H',Same H H'->H p=none->H' p=some (.lst ((rowB aa.length (bW aa ae) ws).map V.int))->Q (.ref p) H'
def DI   (F:Fun K "marks_from_each_room" "marks_from_each_room" Ba f fd)(T:Txt mg)
  : nofun 1 f fd ["house","word"] (Ui K):=by
 delta A0
 ·obtain⟨h,a,L,aa,ae,ws,rfl,_⟩:=h;rfl
 ·obtain⟨h,a,L,aa,ae,ws,rfl,hh,wf,ha,hv,k⟩:=h
  have hl:=Ar
  have hn:=wf.n40
  obtain⟨m,wv,q1,q2,q3⟩:=id hh
  refine⟨_,(Ac (Ak (i:=2) A0.nd (Gf rfl rfl T.list rfl T.range (Aq (lenD Aj) (by rfl) T.len jI_ (Aa (Ag (ixTD Ao) (pvD 0) Ae) Ad))))
   (Ac (Bs jJ_ rfl (E3 (pvD 1)) (Am (i:=3) A0.nd rfl (rh rfl))
   (Af (Ec (i:=2) A0.nd rfl rfl rfl (A6 rfl) (cp:=BR) ⟨⟨rfl,rfl⟩,⟨⟨rfl,rfl⟩,qW⟩⟩ (AW (pvD 2)) (fun _ _ _ _=>(Am (i:=0) CM rfl (qY rfl))) (fun _ _ _ _=>Bg) (fun _ _ _ _=>(Ag (ixTD (Bt (K:=K) rfl)) (Ag (ixTD (Bt (K:=K) rfl)) (Ag (ixTD (Bt (K:=K) rfl)) (pvD 2) Ae) (pvD 0)) (pvD 1))))))
   (Af (AH (A5 rfl (A6 rfl) (cp:=BS) ⟨⟨rfl,rfl⟩,qW⟩ (AW (pvD 2)) (fun _ _ _ _=>(Am (i:=0) CN rfl (qY rfl))) (fun _ _ _ _=>Bg) (fun _ _ _ _=>(Ag (ixTD (Bt (K:=K) rfl)) (Ag (ixTD (Bt (K:=K) rfl)) (pvD 1) Ae) (pvD 0)))))))),?_⟩
  nofun
  refine⟨_,q1,_,rfl,m,rfl,_,.inr q2,?_⟩
  rw[ja_]
  refine⟨by lia,by lia,fun p hp=>?_⟩
  rw[ji_]
  have s0:=Same.new hp (o:=.lst ((ups aa.length).map V.int))
  refine⟨⟨_,s0.seqT ha⟩,?_⟩
  have eL:∀(i r:Nat),r<aa.length->0<=Bu ae r (ws.take i)/\Bu ae r (ws.take i)<aa.length:=fun i r hr=>J7 wf (ws.take i) (Sh hv i) s!"" s!""
  obtain⟨Pv,ar⟩:∃Pv:Nat->St->Hp->Prop,∀i ag H',Pv i ag H'↔(∃(q:Addr) (o:Option V),Same H H'/\H' q=some (.lst (((qV aa.length).map fun r:Nat=>Bu ae r (ws.take i)).map V.int))/\ag=[some (.ref h),some (.ref a),some (.ref q),o]):=⟨_,fun _ _ _=>qk_⟩
  refine forT (xs:=ws.map V.int) Pv ((ar _ _ _).mpr ⟨p,none,s0,Ab,rfl⟩) (fun i ag H' _ h'=>by obtain⟨_,_,s',_⟩:=(ar _ _ _).mp h';exact s'.seqT ha) (fun i x ag H' hx h'=>?_) (fun ag H' h'=>?_)
  ·obtain⟨q,o,s1,hq,rfl⟩:=(ar _ _ _).mp h'
   obtain⟨l,kc,rfl⟩:=Ck hx
   have bN:=Ay.mp hv l (jc_ kc)
   nofun
   refine⟨⟨_,SqL.of hq⟩,?_⟩
   obtain⟨m',ql,g1,g2,g3⟩:=hh.mono s1
   refine FD (ag:=[some (.int l),some (.ref h)]) (fun x=>match x with | .int r=>.int (Bm ae r l)|_=>.non) rfl (SqL.of hq) (by simp;lia) (fun x hx R hR=>?_) (fun D hD=>?_)
   ·obtain⟨y,hy,rfl⟩:=jt_.mp hx
    obtain⟨r,hr,rfl⟩:=jt_.mp hy
    have hr:=jF_.mp hr
    have hw:=eL i r hr
    generalize Bu ae r (ws.take i)=y at hw hR
    obtain⟨row,g,r1,r2,r3,r4,r5⟩:=wf.step hw.1 hw.2 bN.1 bN.2
    obtain⟨xs,t,z1,z2,z3⟩:=g3.atZ hw.1 r1
    nofun
    refine⟨_,g1,_,rfl,ql,rfl,_,z1,_,z2,_,rfl,_,z3,_,A7 bN.1 r2,?_⟩
    rw[<-r3]
    exact hR
   ·refine (ar _ _ _).mpr ⟨D,_,s1.newT hD,?_,rfl⟩
    rw[Ab,jU_,jU_,jU_]
    congr 2
    refine qr_ fun r hr=>?_
    show V.int (Bm ae (Bu ae r (ws.take i)) l)=V.int (Bu ae r (ws.take (i+1)))
    rw[Oh kc]
  ·obtain⟨q,o,s1,hq,rfl⟩:=(ar _ _ _).mp h'
   rw[ja_,jP_]at hq
   nofun
   refine⟨⟨_,SqL.of hq⟩,?_⟩
   obtain⟨m',ql,g1,g2,g3⟩:=hh.mono s1
   refine FD (ag:=[some (.ref h)]) (fun x=>match x with | .int r=>.int (aa.getD r.toNat 0)|_=>.non) rfl (SqL.of hq) (by simp;lia) (fun x hx R hR=>?_) (fun D hD=>?_)
   ·obtain⟨y,hy,rfl⟩:=jt_.mp hx
    obtain⟨r,hr,rfl⟩:=jt_.mp hy
    have hr:=jF_.mp hr
    have hw:=J7 wf ws hv (show (0:Int)<=r by lia) s!""
    generalize Bu ae r ws=y at hw hR
    nofun
    refine⟨_,g1,_,rfl,m',rfl,_,g2,_,?_,hR⟩
    rw[Cc hw.1 (v:=V.int (aa.getD y.toNat 0)) (by rw[je_,jj_];simp[show y.toNat<aa.length by lia])]
   ·refine k D _ (s1.newT hD) (Same.none s1 hD) ?_
    rw[Ab,jU_,jU_]
    unfold rowB
    rw[jU_]
    rfl
def Uj (K:α3):Sp:=fun vs H Q _=>∃(a c:Addr) (n r:Nat) (b:α2->Nat->Int) (ws:α1) (xs ys:List V),vs=[.ref a,.ref c,.int r]/\SqL K H a xs/\AD K H xs ws/\SqL K H c ys/\LL H n b ws ys/\1<=ws.length/\ws.length<=40/\n<=40/\r<n /\
 ∀p zs H',Same H H'->H p=none->H' p=some (.lst zs)->AD K H' zs (ownW n b ws r)->Q (.ref p) H'
def Jd   (F:Fun K "own_tellers" "own_tellers" CF f fd)(T:Txt mg)
  : nofun 1 f fd ["words","marks_behind","room"] (Uj K):=by
 delta Bk
 ·obtain⟨a,c,n,r,b,ws,xs,ys,rfl,_⟩:=h;rfl
 ·obtain⟨a,c,n,r,b,ws,xs,ys,rfl,ha,hW,hc,hM,dE,hw40,hn,bA,k⟩:=h
  have hl:=Ar
  refine⟨_,(Ac (Ak (i:=3) Bk.nd (Bp (Aa (Bx Ad) Ad)))
   (Ac (Ak (i:=4) Bk.nd (Gf rfl rfl T.list rfl T.range (Aq (lenD Aj) (by rfl) T.len jI_ (Aa (Ag (ixLD AX) (pvD 1) Ae) Ad))))
   (Ac (Bs jJ_ rfl (U7 rfl T.zip (Aa (pvD 0) (Aa (pvD 1) Ad))) (S7 rfl (Hh (Am (i:=5) Bk.nd rfl (qY rfl)) (Hh (Am (i:=6) Bk.nd rfl (rh rfl)) O3)))
   (Ac (Ec (i:=7) Bk.nd rfl rfl rfl (A6 rfl) (cp:=Em) ⟨⟨rfl,rfl⟩,⟨⟨rfl,rfl⟩,qW⟩⟩ (AW (pvD 4)) (fun _ _ _ _=>(Am (i:=0) FW rfl (qY rfl))) (fun _ _ _ _=>(PV (ptT (As (opE Cb) (Ag (ixLD (Bn (K:=K) rfl)) (pvD 1) (pvD 0)) (Ag (ixLD (Bn (K:=K) rfl)) (pvD 1) (pvD 2)) (AI _))))) (fun _ _ _ _=>(pvD 0)))
   (Bz (BI (ptT (As (opD0 HE) (Aq (lenD Aj) (by rfl) T.len jI_ (Aa (pvD 7) Ad)) (Aq (lenD Aj) (by rfl) T.len jI_ (Aa (pvD 4) Ad)) (AI _)))
   (Af (Bc (C5 jD_ jM_ jN_ AS (pvD 3) (Aa (pvD 5) Ad))))
   AK)
   (Af (Ak (i:=4) Bk.nd (pvD 7))))))
   (Af (AH (pvD 3)))))),?_⟩
  nofun
  refine⟨by lia,fun p hp=>⟨by lia,fun p1 bw=>?_⟩⟩
  have s1:Same H (upd (upd H p (.tup [])) p1 (.lst [V.ref p])):=(Same.new hp).newT bw
  have hp1N:H p1=none:=(Same.new hp).none bw
  have hpp:p1≠p:=(Av bw).2
  have e1:upd (upd H p (.tup [])) p1 (.lst [V.ref p]) p1=some (.lst [V.ref p]):=Ab
  have e0:upd (upd H p (.tup [])) p1 (.lst [V.ref p]) p=some (.tup []):=by rw[Ah (qn_ hpp)];exact Ab
  generalize upd (upd H p (.tup [])) p1 (.lst [V.ref p])=H1 at s1 e1 e0 ⊢
  obtain⟨v0,hv0⟩:∃v,ws[0]?=some v:=⟨_,jh_ s!""⟩
  obtain⟨q0,hq0,cA⟩:=hM.2 0 v0 hv0
  have cG:∀v,(rowB n b v).length=n:=fun v=>by unfold rowB;rw[ja_,qd_]
  refine⟨_,s1.seq hc,_,Cc (by decide) hq0,q0,rfl,_,.inl (SqL.of (s1 _ _ cA)),?_⟩
  rw[ja_,cG]
  refine⟨by lia,by lia,fun p2 aN=>?_⟩
  rw[ji_]
  have hp2N:H p2=none:=s1.none aN
  have hp12:p1≠p2:=Ap e1 aN
  have s2:=s1.newT aN (o:=.lst ((ups n).map V.int))
  have nh:upd H1 p2 (.lst ((ups n).map V.int)) p1=some (.lst [V.ref p]):=by rw[Ah hp12];exact e1
  have e02:upd H1 p2 (.lst ((ups n).map V.int)) p=some (.tup []):=by rw[Ah (Ap e0 aN)];exact e0
  have e22:upd H1 p2 (.lst ((ups n).map V.int)) p2=some (.lst ((ups n).map V.int)):=Ab
  generalize upd H1 p2 (.lst ((ups n).map V.int))=H2 at s2 nh e02 e22 ⊢
  refine⟨xs,ys,false,s2.seq ha,false,s2.seq hc,?_⟩
  obtain⟨Pv,ar⟩:∃Pv:Nat->St->Hp->Prop,∀i ag H',Pv i ag H'↔(∃(zs:List V) (q:Addr) (o5 o6 o7:Option V),Same H H'/\H' p1=some (.lst zs)/\AD K H' zs ([]::ownF b r (ws.take i) (qV n))/\H q=none/\q≠p1/\H' q=some (.lst (((F7 b r n (ws.take i)).map fun o:Nat=>(o:Int)).map V.int))/\ag=[some (.ref a),some (.ref c),some (.int r),some (.ref p1),some (.ref q),o5,o6,o7]):=⟨_,fun _ _ _=>qk_⟩
  have bO:=hW.1
  have iB:=hM.1
  refine Xh ws.length s!"" s!"" (.inl s!"") Pv ((ar _ _ _).mpr ⟨_,p2,none,none,none,s2,nh,AD.nil.snoc (w:=[]) e02,hp2N,qn_ hp12,e22,rfl⟩) (fun i ag H' _ h'=>?_) (fun i u v ag H' t hi hu hv h' ht=>?_) (fun ag H' h'=>?_)
  ·obtain⟨_,_,_,_,_,s',_⟩:=(ar _ _ _).mp h'
   exact⟨s'.seq ha,s'.seq hc⟩
  ·obtain⟨zs,q,o5,o6,o7,s',hz,nT,hqN,hqp,hq,rfl⟩:=(ar _ _ _).mp h'
   obtain⟨tw,w0,cj,rfl,mW⟩:=hW.at hu
   obtain⟨qm,hqm,lu⟩:=hM.2 i w0 cj
   rw[hv]at hqm
   cases hqm
   have sT:=s'.newT ht (o:=.tup [V.ref tw,V.ref qm])
   have nU:=Same.new ht (o:=.tup [V.ref tw,V.ref qm])
   have hT:upd H' t (.tup [V.ref tw,V.ref qm]) t=some (.tup [V.ref tw,V.ref qm]):=Ab
   generalize upd H' t (.tup [V.ref tw,V.ref qm])=H3 at sT nU hT ⊢
   have hz3:=nU _ _ hz
   have je:=nU _ _ hq
   have hWz3:=nT.mono (TK.of nU)
   have hmm3:=sT _ _ lu
   nofun
   refine⟨_,SqT.of hT,rfl,?_⟩
   nofun
   refine⟨⟨_,SqL.of je⟩,?_⟩
   have au:=SY (b:=b) (r:=r) (n:=n) (ws.take i)
   have ic:F7 b r n (ws.take (i+1))=(F7 b r n (ws.take i)).filter fun o=>decide (b w0 o=b w0 r):=by
    unfold F7
    rw[jQ_,cj,qp_,qu_]
    rfl
   have qp:=LI (b:=b) (r:=r) ws (qV n) i cj
   rw[show (ws.take i).foldl (fun left v=>left.filter fun o=>decide (b v o=b v r)) (qV n)=F7 b r n (ws.take i) from rfl,<-ic]at qp
   have hll:=Ro (b:=b) (r:=r) (n:=n) (ws.take i)
   generalize F7 b r n (ws.take i)=left at je au ic qp hll
   have hrow:∀o:Nat,o<n->((rowB n b w0).map V.int)[o]?=some (V.int (b w0 o)):=fun o ho=>by rw[je_,BY ho];rfl
   refine IU (xs:=(left.map fun o:Nat=>(o:Int)).map V.int) (fun i' bV aj lY=>lY=H3/\bV=(((left.take i').filter fun o=>decide (b w0 o=b w0 r)).map fun o:Nat=>(o:Int)).map V.int/\∃o,aj=[o,some (.ref qm),some (.int r)]) ⟨rfl,rfl,none,rfl⟩ (by simp only[ja_];lia) (fun i' bV aj lY hi' h2=>?_) (fun i' x bV aj lY hx h2=>?_) (fun bV aj lY h2 D hD=>?_)
   ·obtain⟨rfl,rfl,_⟩:=h2
    refine⟨SqL.of je,?_⟩
    rw[ja_,ja_]
    exact qm_ (xU_ _ _) (by rw[jx_];lia)
   ·obtain⟨rfl,rfl,o,rfl⟩:=h2
    rw[je_,je_]at hx
    cases kc:left[i']? with
    |none=>rw[kc]at hx;cases hx
    |some o1=>
     rw[kc]at hx
     cases hx
     have ho1:=au o1 (jc_ kc)
     nofun
     refine⟨_,SqL.of hmm3,_,Cc s!"" (by rw[ji_];exact hrow o1 ho1),_,SqL.of hmm3,_,Cc s!"" (by rw[ji_];exact hrow r bA),?_⟩
     refine⟨rfl,?_⟩
     rw[jQ_,kc,qp_,List.filter_append]
     by_cases he:b w0 o1=b w0 r
     ·rw[if_pos (by rw[he]),List.filter_cons_of_pos (by simp[he])]
      exact⟨by simp,_,rfl⟩
     ·rw[if_neg (fun z=>he (V.int.inj z)),List.filter_cons_of_neg (by simp[he])]
      exact⟨by simp,_,rfl⟩
   ·obtain⟨rfl,rfl,o,rfl⟩:=h2
    rw[ja_,ja_,jP_,<-ic]
    have sD:=sT.newT hD (o:=.lst (((F7 b r n (ws.take (i+1))).map fun o:Nat=>(o:Int)).map V.int))
    have jl:=Same.new hD (o:=.lst (((F7 b r n (ws.take (i+1))).map fun o:Nat=>(o:Int)).map V.int))
    have eI:upd lY D (.lst (((F7 b r n (ws.take (i+1))).map fun o:Nat=>(o:Int)).map V.int)) D=some (.lst (((F7 b r n (ws.take (i+1))).map fun o:Nat=>(o:Int)).map V.int)):=Ab
    have hDN:H D=none:=sT.none hD
    have hDp:D≠p1:=qn_ (Ap hz3 hD)
    generalize upd lY D (.lst (((F7 b r n (ws.take (i+1))).map fun o:Nat=>(o:Int)).map V.int))=H4 at sD jl eI ⊢
    have ni:=jl _ _ hz3
    have hq4:=jl _ _ je
    have ke:=hWz3.mono (TK.of jl)
    have ff:=ke.1
    have nF:=Hz (b:=b) (r:=r) (ws.take i) (qV n) (jF_.mpr bA)
    rw[qd_]at nF
    rw[jT_]at ff
    refine⟨fun ag H'=>∃bV,Same H H'/\H' p1=some (.lst bV)/\AD K H' bV ([]::ownF b r (ws.take (i+1)) (qV n))/\H' D=some (.lst (((F7 b r n (ws.take (i+1))).map fun o:Nat=>(o:Int)).map V.int))/\ag=[some (.ref a),some (.ref c),some (.int r),some (.ref p1),some (.ref q),some (.ref tw),some (.ref qm),some (.ref D)],?_,fun ag H' hR=>?_⟩
    ·nofun
     refine⟨_,.inl (SqL.of eI),_,.inl (SqL.of hq4),?_⟩
     rw[qp]
     simp only[ja_]
     refine ite2 (fun hlt2=>?_) (fun bu=>?_)
     ·rw[if_pos s!""]
      refine⟨.inl ⟨rfl,_,SqL.of ni⟩,zs,ni,by lia,sD.over hp1N,_,Ab,?_,?_⟩
      ·rw[<-x7_]
       exact (ke.mono (TK.lst ni)).snoc (by rw[Ah (Ur ni (sD _ _ mW) (by intro z;cases z)).symm];exact sD _ _ mW)
      ·rw[Ah hDp];exact eI
     ·rw[if_neg s!"",qg_]
      exact⟨sD,zs,ni,ke,eI⟩
    ·obtain⟨bV,s5,hz5,jf,hD5,rfl⟩:=hR
     nofun
     exact (ar _ _ _).mpr ⟨bV,D,_,_,_,s5,hz5,jf,hDN,hDp,hD5,rfl⟩
  ·obtain⟨zs,q,o5,o6,o7,s',hz,nT,hqN,hqp,hq,rfl⟩:=(ar _ _ _).mp h'
   rw[jP_]at nT
   nofun
   exact k p1 zs _ s' hp1N hz nT
def Uk (K:α3):Sp:=fun vs H Q _=>∃(h:Addr) (L:Nat) (aa:α2) (ae:α1),vs=[.ref h]/\AZ K H h L aa ae/\Wf L aa ae /\
 ∀e H',Same H H'->H e=none->Uh K H' e aa.length (ownW aa.length (bW aa ae) (wcOf aa.length L (bW aa ae)).1)->Q (.ref e) H'
def DJ   (F:Fun K "tellers_of_each_room" "tellers_of_each_room" Bb f fd)(T:Txt mg)
   (fz:⋯ 3 "tellers" Ek ["house"] (Ri K) IB GC)
   (kf:⋯ 1 "marks_from_each_room" Ba ["house","word"] (Ui K) Cd B8)
   (kg:⋯ 1 "own_tellers" CF ["words","marks_behind","room"] (Uj K) F8 Fc)
  : nofun 4 f fd ["house"] (Uk K):=by
 delta Bv
 ·obtain⟨h,L,aa,ae,rfl,_⟩:=h;rfl
 ·obtain⟨h,L,aa,ae,rfl,hh,wf,k⟩:=h
  have hl:=Ar
  have hn:=wf.n40
  have b8:=wf.n1
  refine⟨_,(Ac (Be (i:=1) Bv.nd rfl (rh rfl) (Ai fz hr.d AL (Aa (pvD 0) Ad)))
   (Ac (Be (i:=2) Bv.nd rfl (rh rfl) (A5 rfl (A6 rfl) (cp:=BU) ⟨⟨rfl,rfl⟩,qW⟩ (AW (pvD 1)) (fun _ _ _ _=>(Am (i:=0) CO rfl (qY rfl))) (fun _ _ _ _=>Bg) (fun _ _ _ _=>(Ai kf hr.d AL (Aa (pvD 1) (Aa (pvD 0) Ad))))))
   (Af (AH (A5 rfl (A6 rfl) (cp:=BV) ⟨⟨rfl,rfl⟩,⟨⟨rfl,rfl⟩,qW⟩⟩ (AR rfl T.range (Aa (Aq (lenD Aj) (by rfl) T.len jI_ (Aa (Ag (ixTD Ao) (pvD 0) Ae) Ad)) Ad)) (fun _ _ _ _=>(Am (i:=0) CP rfl (qY rfl))) (fun _ _ _ _=>Bg) (fun _ _ _ _=>(Ai kg hr.d AL (Aa (pvD 1) (Aa (pvD 2) (Aa (pvD 0) Ad)))))))))),?_⟩
  nofun
  refine⟨h,L,aa,ae,rfl,hh,wf,fun pw xs H1 s1 jW br hW fin=>?_⟩
  generalize la:wcOf aa.length L (bW aa ae)=st at hW fin k
  have ji:st.1.length<=40:=by
   have h1:=fin.wc.le
   have h2:=GN st.2
   rw[fin.wc.len]at h2
   lia
  have hf1:1<=st.1.length:=by
   have:=(jb_.mp fin.wc.w0).1
   lia
  nofun
  refine⟨⟨_,SqL.of br⟩,?_⟩
  have bO:=hW.1
  refine IU (xs:=xs) (fun i ys ag H'=>Same H1 H'/\LL H' aa.length (bW aa ae) (st.1.take i) ys/\∃o,ag=[o,some (.ref h)]) ⟨Same.refl _,⟨rfl,fun i v hv=>by simp at hv⟩,none,rfl⟩ s!"" (fun i ys ag H' hi h'=>⟨SqL.of (h'.1 _ _ br),by rw[h'.2.1.1,jx_];lia⟩) (fun i x ys ag H' hx h'=>?_) (fun ys ag H' h' D hD=>?_)
  ·obtain⟨s2,hM,o,rfl⟩:=h'
   obtain⟨t,v,dB,rfl,ht⟩:=hW.at hx
   nofun
   refine⟨h,t,L,aa,ae,v,rfl,hh.mono (s1.trans s2),wf,SqT.of (s2 _ _ ht),Ay.mpr (fin.wc.ok v (jc_ dB)),fun p H3 s3 qq hp=>⟨s2.trans s3,?_,_,rfl⟩⟩
   have hM3:=hM.mono s3
   have iB:=hM.1
   rw[jQ_,dB,qp_]
   refine⟨by rw[jk_,jk_,iB];rfl,fun j w hw=>?_⟩
   rw[jx_]at iB
   have hiL:=(jb_.mp dB).1
   by_cases hj:j<ys.length
   ·rw[jd_ (by rw[jx_];lia)]at hw
    obtain⟨q,a1,a2⟩:=hM3.2 j w hw
    exact⟨q,by rw[jd_ hj];exact a1,a2⟩
   ·rw[jm_ (by rw[jx_];lia)]at hw
    have:j-(st.1.take i).length=0:=by
     have:=(jb_.mp hw).1
     simpa using this
    rw[this]at hw
    have hw:v=w:=by simpa using hw
    subst hw
    rw[jx_]at this
    exact⟨p,by rw[jm_ s!"",show j-ys.length=0 by lia];rfl,hp⟩
  ·obtain⟨s2,hM,o,rfl⟩:=h'
   rw[bO,jP_]at hM
   have sD:=(s1.trans s2).newT hD (o:=.lst ys)
   have jl:=s2.newT hD (o:=.lst ys)
   have eI:upd H' D (.lst ys) D=some (.lst ys):=Ab
   have dD:=hM.mono (Same.new hD (o:=.lst ys))
   generalize upd H' D (.lst ys)=H3 at sD jl eI dD ⊢
   obtain⟨m,wv,q1,q2,q3⟩:=hh.mono sD
   nofun
   refine⟨_,q1,_,rfl,m,rfl,_,.inr q2,?_⟩
   rw[ja_,ji_]
   refine⟨by lia,by lia,?_⟩
   have hpw3:=jl _ _ br
   have pP:=hW.mono (TK.of jl)
   refine JV (fun i zs ag H'=>Same H3 H'/\zs.length=i/\(∀r,r<i->∃q ys,zs[r]?=some (.ref q)/\H' q=some (.lst ys)/\AD K H' ys (ownW aa.length (bW aa ae) st.1 r))/\∃o,ag=[o,some (.ref pw),some (.ref D)]) ⟨Same.refl _,rfl,fun r hr=>absurd hr (qP_ _),none,rfl⟩ s!"" (fun i zs ag H' hi h'=>rV h'.2.1) (fun i zs ag H' hi h'=>?_) (fun zs ag H' h' D' jk=>?_)
   ·obtain⟨s4,ff,hz,o,rfl⟩:=h'
    nofun
    refine⟨pw,D,aa.length,i,bW aa ae,st.1,xs,ys,by rw[zV_],SqL.of (s4 _ _ hpw3),pP.mono (TK.of s4),SqL.of (s4 _ _ eI),dD.mono s4,hf1,ji,hn,hi,fun p us H5 s5 qq hp hWu=>⟨s4.trans s5,by rw[jk_,ff];rfl,fun r hr=>?_,_,rfl⟩⟩
    by_cases ip:r<i
    ·obtain⟨q,fu,b1,b2,b3⟩:=hz r ip
     exact⟨q,by rw[jd_ s!""];exact b1,fu,s5 _ _ b2,b3.mono (TK.of s5)⟩
    ·obtain rfl:r=i:=by lia
     exact⟨p,by rw[jm_ s!"",show r-zs.length=0 by lia];rfl,us,hp,hWu⟩
   ·obtain⟨s4,ff,hz,o,rfl⟩:=h'
    refine k D' _ ((sD.trans s4).newT jk) ((sD.trans s4).none jk) ⟨zs,Ab,fun r hr=>?_⟩
    obtain⟨q,fu,b1,b2,b3⟩:=hz r hr
    exact⟨q,fu,b1,by rw[Ah (Ap b2 jk)];exact b2,b3.mono (TK.new jk)⟩
def KG (L:Nat)(aa:α2)(ae:α1)(m:Nat):α1:=allW (sW L aa ae) (sM L aa ae).length (Dk (L:Int) m) (ownW (sM L aa ae).length (bW (sM L aa ae) (sW L aa ae)) (wcOf (sM L aa ae).length L (bW (sM L aa ae) (sW L aa ae))).1)
def Rp (K:α3):Sp:=fun vs H Q _=>∃(h:Addr) (L m:Nat) (aa:α2) (ae:α1),vs=[.ref h,.int m]/\AZ K H h L aa ae/\Wf L aa ae/\m<=3/\many L (m+2)<=341/\LamH K H /\
 ∀D H' os,BW (tabP K "in_order") H H'->LamH K H'->H D=none->H' D=some (.lst (aL.wv os))->WsT H' os->(os.map (·.2)).Perm ((KG L aa ae m).foldl ins [])->aL.Srt os->Q (.ref D) H'
def Vv   (F:Fun K "slim" "slim" NL f fd)(T:Txt mg)
   (fA:⋯ 5 "least" Io ["house"] (Kz K) MR KC)
   (kh:⋯ 4 "tellers_of_each_room" Bb ["house"] (Uk K) Ce B9)
   (fB:⋯ 5 "words_with" Ct ["base","more","ends"] (MQ K) Es DH)
  : nofun 6 f fd ["house","more"] (Rp K):=by
 delta Rf
 ·obtain⟨h,L,m,aa,ae,rfl,_⟩:=h;rfl
 ·obtain⟨h,L,m,aa,ae,rfl,hh,wf,hm,bq,hT,k⟩:=h
  have hl:=Ar
  refine⟨_,(Ac (Ak (i:=2) Rf.nd (Ai fA hr.d AL (Aa (pvD 0) Ad)))
   (Af (AH (Ai fB hr.d AL (Aa (pvD 2) (Aa (pvD 1) (Aa (Ai kh hr.d AL (Aa (pvD 2) Ad)) Ad))))))),?_⟩
  nofun
  have aQ:=sWf wf
  have cq:=sCan wf
  have iH:=aQ.n40
  refine⟨h,L,aa,ae,rfl,hh,wf,fun ps H3 s3 dY=>?_⟩
  unfold KG at k
  generalize sM L aa ae=ms at aQ cq dY iH k
  generalize sW L aa ae=vs at aQ cq dY k
  have fin:Fin17 ms.length L (bW ms vs) (wcOf ms.length L (bW ms vs)):=Fin17.mk' aQ.n1 iH
  refine⟨ps,L,ms,vs,rfl,dY,aQ,fun e H4 s4 heN hE=>?_⟩
  have ki:=s3.trans s4
  have cD:=Rl fin.wc
  have ji:(wcOf ms.length L (bW ms vs)).1.length<=40:=by
   have h1:=fin.wc.le
   have h2:=GN (wcOf ms.length L (bW ms vs)).2
   rw[fin.wc.len]at h2
   lia
  refine⟨ps,e,L,m,ms,vs,_,rfl,dY.mono s4,aQ,hm,bq,hE,fun r hr=>⟨?_,fun w hw=>?_⟩,fun r hr=>?_,hT.mono ki,fun D' H9 os sT qk g9 jk dJ cb hs=>?_⟩
  ·have:=Hz (b:=bW ms vs) (r:=r) (wcOf ms.length L (bW ms vs)).1 (qV ms.length) (jF_.mpr hr)
   rw[qd_]at this
   unfold ownW
   rw[jT_]
   lia
  ·unfold ownW at hw
   rcases jB_.mp hw with rfl|hw
   ·simp
   ·obtain⟨j,hj⟩:=jG_.mp (KD hw)
    have h1:=cD j w hj
    have h2:=(jb_.mp hj).1
    lia
  ·have h1:=cq.order
   unfold rOf at h1
   rw[h1]
   exact jt_.mpr ⟨r,jF_.mpr hr,rfl⟩
  ·exact k D' H9 os (fun b o hb e=>sT b o hb (ki b o e)) qk (Same.none ki g9) jk dJ cb hs
def cell (ns:α2)(k:Nat):Int:=ns.getD k 0
def IC (K:α3):Sp:=fun vs H Q _=>∃(a:Addr) (ns:α2) (k:Nat),vs=[.ref a,.int k]/\SqL K H a (ns.map V.int)/\Q (.int (cell ns k)) H
def ID   (F:Fun K "_law_cell_at" "_law_cell_at" Bl f fd)(T:Txt mg)
  : nofun 1 f fd ["script","k"] (IC K):=by
 delta Ip
 ·obtain⟨a,ns,k,rfl,_⟩:=h;rfl
 ·obtain⟨a,ns,k,rfl,hs,q⟩:=h
  refine⟨_,(Ac (BI (ptT (As (opD0 HE) (pvD 1) (Aq (lenD Aj) (by rfl) T.len jI_ (Aa (pvD 0) Ad)) (AI _)))
   (Af (AH (Ag (ixLD AX) (pvD 0) (pvD 1))))
   AK)
   (Af (AH Ae))),?_⟩
  nofun
  refine⟨_,.inl hs,?_⟩
  rw[ja_]
  refine ite2 (fun hk=>?_) (fun hk=>?_)
  ·have dR:k<ns.length:=by simpa using hk
   refine⟨_,hs,V.int (cell ns k),?_,q⟩
   refine D8 ?_
   rw[je_]
   unfold cell
   rw[jj_]
   simp[dR]
  ·have dR:¬ k<ns.length:=by simpa using hk
   have:cell ns k=0:=by
    unfold cell
    rw[jj_,jV_ s!""];rfl
   rw[<-this]
   exact q
def F9:Sp:=fun vs H Q _=>∃num k m:Int,vs=[.int num,.int k,.int m]/\0<=k/\k<=1000000/\0<m/\∀x,0<=x->x<m->Q (.int x) H
def KH   (F:Fun K "_law_mixed" "_law_mixed" BC f fd)(T:Txt mg)
  : nofun 1 f fd ["number","k","many"] (F9):=by
 delta DC
 ·obtain⟨num,k,m,rfl,_⟩:=h;rfl
 ·obtain⟨num,k,m,rfl,dC,lB,hm,q⟩:=h
  refine⟨_,(Ac (Ak (i:=3) DC.nd (An (opD AM) (An (opD0 AY) (An (opD0 AY) (An (opD0 AY) (An (opD AM) (pvD 0) Ae) (An (opD FA) (An (opD FA) Ae (pvD 1)) (pvD 1))) (An (opD FA) Ae (pvD 1))) Ae) Ae))
   (Ac (Ak (i:=3) DC.nd (An (opD AM) (An (opD FA) (pvD 3) Ae) Ae))
   (Af (AH (An (opD AM) (An (opD AM) (An (opD FA) (pvD 3) (pvD 3)) Ae) (pvD 2)))))),?_⟩
  nofun
  refine⟨by decide,.inl ⟨by decide,by decide⟩,.inr ⟨by lia,by lia⟩,.inl ⟨by decide,by decide⟩,by decide,.inr ⟨by decide,by decide⟩,by decide,?_⟩
  generalize (num%2147483647+69621*k*k+40692*k+1)%2147483647*48271=z
  have m0:=qo_ z (show (2147483647:Int)≠0 by decide)
  have m1:=j5_ z (show (0:Int)<2147483647 by decide)
  exact⟨.inl ⟨by lia,by lia⟩,by decide,hm,q _ (qo_ _ s!"") (j5_ _ hm)⟩
def JF (K:α3):Sp:=fun vs H Q _=>∃(num:Int) (n:Nat),vs=[.int num,.int n]/\1<=n/\n<=40/\∀(t:Addr) (aa:α2) (H':Hp),Same H H'->SqT K H' t (aa.map V.int)->aa.length=n->(∀m∈aa,0<=m/\m<=1000000000)->Q (.ref t) H'
def Ha   (F:Fun K "_law_marks_by" "_law_marks_by" B3 f fd)(T:Txt mg)
   (bo:⋯ 1 "_law_mixed" BC ["number","k","many"] (F9) Cw Ca)
  : nofun 2 f fd ["number","rooms"] (JF K):=by
 delta AJ
 ·obtain⟨num,n,rfl,_⟩:=h;rfl
 ·obtain⟨num,n,rfl,b8,aO,k⟩:=h
  have hl:=Ar
  refine⟨_,(Ac (Ak (i:=2) AJ.nd (An (opD AM) (An (opD0 AY) (pvD 0) Ae) Ae))
   (Ac (Ak (i:=3) AJ.nd (An (opD AM) (An (opD BX) (pvD 0) Ae) Ae))
   (Ac (Ak (i:=4) AJ.nd (Bp Ad))
   (Ac (Bs jJ_ rfl (AR rfl T.range (Aa (pvD 1) Ad)) (Am (i:=5) AJ.nd rfl (qY rfl))
   (Ac (Ak (i:=6) AJ.nd (pvD 3))
   (Bz (BI (PW.pt (GH (ptT (As (opE Cb) (An (opD AM) (pvD 2) Ae) Ae (AI _))) (D7 (ptT (As (opE Cb) (Ai bo hr.d AL (Aa (pvD 0) (Aa (pvD 5) (Aa Ae Ad)))) Ae (AI _))))))
   (Af (Ak (i:=6) AJ.nd (An (opD0 CQ) Ae (pvD 3))))
   AK)
   (Bz (BI (ptT (As (opE Cb) (pvD 2) Ae (AI _)))
   (Af (Ak (i:=6) AJ.nd (Ai bo hr.d AL (Aa (pvD 0) (Aa (pvD 5) (Aa Ae Ad))))))
   AK)
   (Bz (BI (PW.pt (Uw (PW.pt (GH (ptT (As (opE Cb) (pvD 2) Ae (AI _))) (D7 (ptT (As (opE Cb) (pvD 5) (An (opD AM) (An (opD BX) (pvD 0) Ae) (pvD 1)) (AI _)))))) (O2 (PW.pt (GH (ptT (As (opE Cb) (pvD 2) Ae (AI _))) (D7 (ptT (As (opE Cb) (pvD 5) (An (opD0 CQ) (pvD 1) Ae) (AI _)))))))))
   (Af (Ak (i:=6) AJ.nd (An (opD AM) (An (opD0 AY) (pvD 3) Ae) Ae)))
   AK)
   (Bz (BI (PW.pt (Uw (ptT (As (opE Cb) (pvD 2) Ae (AI _))) (O2 (ptT (As (opE Cb) (pvD 2) Ae (AI _))))))
   (Af (Ak (i:=6) AJ.nd (Ai bo hr.d AL (Aa (pvD 0) (Aa (pvD 5) (Aa Ae Ad))))))
   AK)
   (Af (Bc (C5 jD_ jM_ jN_ AS (pvD 4) (Aa (pvD 6) Ad))))))))))
   (Af (AH (AE Az rfl T.tuple jE_ (Aa (pvD 4) Ad)))))))),?_⟩
  nofun
  refine⟨by decide,⟨by decide,by decide⟩,by decide,by lia,fun p hp=>⟨by lia,by lia,?_⟩⟩
  rw[ji_]
  have iO:=qo_ (num / 8) (show (1000000001:Int)≠0 by decide)
  have nV:=j5_ (num / 8) (show (0:Int)<1000000001 by decide)
  generalize (num+1)%8=kj
  generalize num / 8%1000000001=top at iO nV ⊢
  obtain⟨Pv,ar⟩:∃Pv:Nat->St->Hp->Prop,∀i aj H2,Pv i aj H2↔(∃(aa:α2) (o1 o2:Option V),Same H H2/\H2 p=some (.lst (aa.map V.int))/\aa.length=i/\(∀m∈aa,0<=m/\m<=1000000000)/\aj=[some (.int num),some (.int n),some (.int kj),some (.int top),some (.ref p),o1,o2]):=⟨_,fun _ _ _=>qk_⟩
  refine forR Pv ((ar _ _ _).mpr ⟨[],none,none,Same.new hp,by rw[Ab];rfl,rfl,(fun m hm=>by cases hm),rfl⟩) (fun i aj H2 hi h2=>?_) (fun aj H2 h2=>?_)
  ·obtain⟨aa,o1,o2,s2,aN,ak,bA,rfl⟩:=(ar _ _ _).mp h2
   generalize eL:(0:Int)+(i:Nat)=room
   have aR:0<=room:=by lia
   have dZ:room<=40:=by lia
   obtain⟨R,hR⟩:∃R:St->Hp->Prop,∀aC H3,R aC H3↔(H3=H2/\∃cC:Int,0<=cC/\cC<=1000000000/\aC=[some (.int num),some (.int n),some (.int kj),some (.int top),some (.ref p),some (.int room),some (.int cC)]):=⟨_,fun _ _=>qk_⟩
   nofun
   refine⟨R,?_,fun aC H3 h3=>⟨R,?_,fun bK H4 h4=>⟨R,?_,fun iQ H5 h5=>⟨R,?_,fun dm H6 h6=>?_⟩⟩⟩⟩
   ·nofun
    refine⟨by decide,iteB ((hR _ _).mpr ⟨rfl,top,iO,by lia,rfl⟩) (fun _ hB=>⟨num,room,2,rfl,aR,by lia,by decide,fun x _ _=>?_⟩)⟩
    nofun
    exact ite2 (fun _=>(hR _ _).mpr ⟨rfl,_,by lia,by lia,rfl⟩) (fun _=>hB)
   ·obtain⟨rfl,cC,cA,iE,rfl⟩:=(hR _ _).mp h3
    nofun
    refine ite2 (fun _=>⟨num,room,1000000001,rfl,aR,by lia,by decide,fun x dz cz=>?_⟩) (fun _=>h3)
    nofun
    exact (hR _ _).mpr ⟨rfl,x,dz,by lia,rfl⟩
   ·obtain⟨rfl,cC,cA,iE,rfl⟩:=(hR _ _).mp h4
    nofun
    have hA:R [some (.int num),some (.int n),some (.int kj),some (.int top),some (.ref p),some (.int room),some (.int ((top+1)%1000000001))] H4:=(hR _ _).mpr ⟨rfl,_,qo_ _ (by decide),by have:=j5_ (top+1) (show (0:Int)<1000000001 by decide);lia,rfl⟩
    have hE:if kj=5 then (if room=(n:Int)-1 then (0:Int)<1000000001/\R [some (.int num),some (.int n),some (.int kj),some (.int top),some (.ref p),some (.int room),some (.int ((top+1)%1000000001))] H4 else R [some (.int num),some (.int n),some (.int kj),some (.int top),some (.ref p),some (.int room),some (.int cC)] H4) else R [some (.int num),some (.int n),some (.int kj),some (.int top),some (.ref p),some (.int room),some (.int cC)] H4:=
     ite2 (fun _=>ite2 (fun _=>⟨by decide,hA⟩) (fun _=>h4)) (fun _=>h4)
    exact ite2 (fun _=>⟨⟨by decide,by decide⟩,by lia,ite2 (fun _=>⟨by decide,hA⟩) (fun _=>hE)⟩) (fun _=>hE)
   ·obtain⟨rfl,cC,cA,iE,rfl⟩:=(hR _ _).mp h5
    nofun
    exact ite2 (fun _=>⟨num,room,3,rfl,aR,by lia,by decide,fun x dz cz=>(hR _ _).mpr ⟨rfl,x,dz,by lia,rfl⟩⟩) (fun _=>ite2 (fun _=>⟨num,room,3,rfl,aR,by lia,by decide,fun x dz cz=>(hR _ _).mpr ⟨rfl,x,dz,by lia,rfl⟩⟩) (fun _=>h5))
   ·obtain⟨rfl,cC,cA,iE,rfl⟩:=(hR _ _).mp h6
    nofun
    refine⟨.inl ⟨rfl,_,SqL.of aN⟩,_,aN,by rw[ja_];lia,(ar _ _ _).mpr ⟨aa++[cC],_,_,s2.over hp,by rw[Ab];simp,by simp[ak],fun m hm=>?_,rfl⟩⟩
    rcases jw_.mp hm with hm|hm
    ·exact bA m hm
    ·rw[jq_.mp hm];exact⟨cA,iE⟩
  ·obtain⟨aa,o1,o2,s2,aN,ak,bA,rfl⟩:=(ar _ _ _).mp h2
   nofun
   refine⟨_,.inl ⟨SqL.of aN,fun t ht=>?_⟩⟩
   exact k t aa _ (s2.newT ht) (SqT.of Ab) ak bA
def LM (K:α3):Sp:=fun vs H Q _=>∃(a:Addr) (ns:α2) (L:Int) (n:Nat),vs=[.ref a,.int L,.int n]/\SqL K H a (ns.map V.int)/\1<=L/\L<=6/\1<=n/\n<=40/\∀(t:Addr) (ae:α1) (H':Hp),Same H H'->Rows K H' t ae->ae.length=n->(∀row∈ae,(row.length:Int)=L/\∀x∈row,0<=x/\x<(n:Int))->Q (.ref t) H'
def IE   (F:Fun K "_law_ways_by" "_law_ways_by" Cn f fd)(T:Txt mg)
   (a8:⋯ 1 "_law_cell_at" Bl ["script","k"] (IC K) BL BE)
   (bo:⋯ 1 "_law_mixed" BC ["number","k","many"] (F9) Cw Ca)
  : nofun 2 f fd ["script","letters","rooms"] (LM K):=by
 delta AF
 ·obtain⟨a,ns,L,n,rfl,_⟩:=h;rfl
 ·obtain⟨a,ns,L,n,rfl,hs,cV,cW,b8,aO,k⟩:=h
  have hl:=Ar
  refine⟨_,(Ac (Ak (i:=3) AF.nd (Ai a8 hr.d AL (Aa (pvD 0) (Aa Ae Ad))))
   (Ac (Ak (i:=4) AF.nd (Bp Ad))
   (Ac (Bs jJ_ rfl (AR rfl T.range (Aa (pvD 2) Ad)) (Am (i:=5) AF.nd rfl (qY rfl))
   (Ac (Ak (i:=6) AF.nd (Bp Ad))
   (Ac (Bs jJ_ rfl (AR rfl T.range (Aa (pvD 1) Ad)) (Am (i:=7) AF.nd rfl (qY rfl))
   (Ac (Ak (i:=8) AF.nd (An (opD0 AY) (An (opD0 AY) Ae (An (opD FA) (pvD 5) (pvD 1))) (pvD 7)))
   (Ac (Ak (i:=9) AF.nd (Ai bo hr.d AL (Aa (pvD 3) (Aa (pvD 8) (Aa (pvD 2) Ad)))))
   (Bz (BI (ptT (As (opD0 HE) (pvD 8) (Aq (lenD Aj) (by rfl) T.len jI_ (Aa (pvD 0) Ad)) (AI _)))
   (Af (Ak (i:=9) AF.nd (An (opD AM) (Ag (ixLD AX) (pvD 0) (pvD 8)) (pvD 2))))
   AK)
   (Bz (BI (PW.pt (GH (ptT (As (opE Cb) (An (opD AM) (pvD 3) Ae) Ae (AI _))) (D7 (ptT (As (opE Cb) (pvD 7) (An (opD AM) (An (opD BX) (pvD 3) Ae) (pvD 1)) (AI _))))))
   (Af (Ak (i:=9) AF.nd (An (opD AM) (An (opD0 AY) (pvD 5) Ae) (pvD 2))))
   AK)
   (Bz (BI (ptT (As (opE Cb) (An (opD AM) (pvD 3) Ae) Ae (AI _)))
   (Af (Ak (i:=9) AF.nd (pvD 5)))
   AK)
   (Bz (BI (PW.pt (GH (ptT (As (opE Cb) (An (opD AM) (pvD 3) Ae) Ae (AI _))) (D7 (ptT (As (opE Cb) (pvD 7) (An (opD AM) (An (opD BX) (pvD 3) Ae) (pvD 1)) (AI _))))))
   (Af (Ak (i:=9) AF.nd (Aq (Pb rfl) rfl T.min vB (Aa (An (opD0 AY) (pvD 5) Ae) (Aa (An (opD0 CQ) (pvD 2) Ae) Ad)))))
   AK)
   (Af (Bc (C5 jD_ jM_ jN_ AS (pvD 6) (Aa (pvD 9) Ad)))))))))))
   (Af (Bc (C5 jD_ jM_ jN_ AS (pvD 4) (Aa (AE Az rfl T.tuple jE_ (Aa (pvD 6) Ad)) Ad)))))))
   (Af (AH (AE Az rfl T.tuple jE_ (Aa (pvD 4) Ad))))))),?_⟩
  nofun
  refine⟨a,ns,3,rfl,hs,?_⟩
  nofun
  generalize cell ns 3=eM
  refine⟨by lia,fun pw br=>⟨by lia,by lia,?_⟩⟩
  rw[ji_]
  obtain⟨Pv,ar⟩:∃Pv:Nat->St->Hp->Prop,∀i aj H2,Pv i aj H2↔(∃(ae:α1) (o1 o2 o3 o4 o5:Option V),Same H H2/\CB K H2 pw ae/\ae.length=i/\(∀row∈ae,(row.length:Int)=L/\∀x∈row,0<=x/\x<(n:Int))/\aj=[some (.ref a),some (.int L),some (.int n),some (.int eM),some (.ref pw),o1,o2,o3,o4,o5]):=⟨_,fun _ _ _=>qk_⟩
  refine forR Pv ((ar _ _ _).mpr ⟨[],none,none,none,none,none,Same.new br,CB.nil Ab,rfl,(fun m hm=>by cases hm),rfl⟩) (fun i aj H2 hi h2=>?_) (fun aj H2 h2=>?_)
  ·obtain⟨ae,o1,o2,o3,o4,o5,s2,fm,ak,bA,rfl⟩:=(ar _ _ _).mp h2
   generalize eL:(0:Int)+(i:Nat)=room
   have aR:0<=room:=by lia
   have dZ:room<n:=by lia
   nofun
   refine⟨by lia,fun pr dG=>⟨by lia,by lia,?_⟩⟩
   have kl:H pr=none:=s2.free dG
   have sA:=s2.newT dG (o:=.lst [])
   have hwA:=fm.mono (Same.new dG (o:=.lst []))
   have hrA:upd H2 pr (.lst []) pr=some (.lst (([]:α2).map V.int)):=Ab
   have ay:pw≠pr:=by
    obtain⟨ts,e,_⟩:=fm
    exact Ap e dG
   generalize upd H2 pr (.lst [])=HA at sA hwA hrA ⊢
   obtain⟨Pr,iX⟩:∃Pv:Nat->St->Hp->Prop,∀j aC H3,Pv j aC H3↔(∃(row:α2) (o3 o4 o5:Option V),Same H H3/\CB K H3 pw ae/\H3 pr=some (.lst (row.map V.int))/\row.length=j/\(∀x∈row,0<=x/\x<(n:Int))/\aC=[some (.ref a),some (.int L),some (.int n),some (.int eM),some (.ref pw),some (.int room),some (.ref pr),o3,o4,o5]):=⟨_,fun _ _ _=>qk_⟩
   refine forR Pr ((iX _ _ _).mpr ⟨[],o3,o4,o5,sA,hwA,hrA,rfl,(fun m hm=>by cases hm),rfl⟩) (fun j aC H3 hj h3=>?_) (fun aC H3 h3=>?_)
   ·obtain⟨row,o3,o4,o5,s3,eN,cH,cG,cn,rfl⟩:=(iX _ _ _).mp h3
    generalize hlet:(0:Int)+(j:Nat)=letter
    nofun
    have dC:0<=room*L:=x3_ aR s!""
    have lB:room*L<=40*6:=uE s!"" s!"" s!"" s!""
    refine⟨.inl ⟨by lia,by lia⟩,?_⟩
    generalize hkk:6+room*L+letter=kk
    refine⟨eM,kk,n,rfl,by lia,by lia,by lia,fun g0 hg00 hg01=>?_⟩
    obtain⟨R,hR⟩:∃R:St->Hp->Prop,∀bK H4,R bK H4↔(H4=H3/\∃g:Int,0<=g/\g<(n:Int)/\bK=[some (.ref a),some (.int L),some (.int n),some (.int eM),some (.ref pw),some (.int room),some (.ref pr),some (.int letter),some (.int kk),some (.int g)]):=⟨_,fun _ _=>qk_⟩
    refine⟨R,?_,fun bK H4 h4=>⟨R,?_,fun iQ H5 h5=>⟨R,?_,fun dm H6 h6=>⟨R,?_,fun df H7 h7=>?_⟩⟩⟩⟩
    ·nofun
     refine⟨_,.inl (s3.seq hs),?_⟩
     rw[ja_]
     refine ite2 (fun au=>?_) (fun _=>(hR _ _).mpr ⟨rfl,g0,hg00,hg01,rfl⟩)
     have dR:kk.toNat<ns.length:=by lia
     refine⟨_,s3.seq hs,_,A7 s!"" (v:=ns[kk.toNat]) (by simp[dR]),?_⟩
     nofun
     exact⟨by lia,(hR _ _).mpr ⟨rfl,_,qo_ _ s!"",j5_ _ s!"",rfl⟩⟩
    ·obtain⟨rfl,g,nW,nX,rfl⟩:=(hR _ _).mp h4
     nofun
     exact⟨by decide,ite2 (fun _=>⟨⟨by decide,by decide⟩,by lia,ite2 (fun _=>⟨by lia,(hR _ _).mpr ⟨rfl,_,qo_ _ s!"",j5_ _ s!"",rfl⟩⟩) (fun _=>h4)⟩) (fun _=>h4)⟩
    ·obtain⟨rfl,g,nW,nX,rfl⟩:=(hR _ _).mp h5
     nofun
     exact⟨by decide,ite2 (fun _=>(hR _ _).mpr ⟨rfl,room,aR,dZ,rfl⟩) (fun _=>h5)⟩
    ·obtain⟨rfl,g,nW,nX,rfl⟩:=(hR _ _).mp h6
     nofun
     exact⟨by decide,ite2 (fun _=>⟨⟨by decide,by decide⟩,by lia,ite2 (fun _=>(hR _ _).mpr ⟨rfl,_,by split<;>lia,by split<;>lia,rfl⟩) (fun _=>h6)⟩) (fun _=>h6)⟩
    ·obtain⟨rfl,g,nW,nX,rfl⟩:=(hR _ _).mp h7
     nofun
     refine⟨.inl ⟨rfl,_,SqL.of cH⟩,_,cH,by rw[ja_];lia,(iX _ _ _).mpr ⟨row++[g],_,_,_,s3.over kl,eN.off cH ay,by rw[Ab];simp,by simp[cG],fun x hx=>?_,rfl⟩⟩
     rcases jw_.mp hx with hx|hx
     ·exact cn x hx
     ·rw[jq_.mp hx];exact⟨nW,nX⟩
   ·obtain⟨row,o3,o4,o5,s3,eN,cH,cG,cn,rfl⟩:=(iX _ _ _).mp h3
    nofun
    obtain⟨ts,e0,_⟩:=id eN
    refine⟨.inl ⟨rfl,_,SqL.of e0⟩,_,.inl ⟨SqL.of cH,fun t ht=>?_⟩⟩
    obtain⟨xs,e1,e2,cY⟩:=(eN.mono (Same.new ht (o:=.tup (row.map V.int)))).push (w:=row) (SqT.of Ab)
    refine⟨xs,e1,by lia,(ar _ _ _).mpr ⟨ae++[row],_,_,_,_,_,(s3.newT ht).over br,cY,by simp[ak],fun r hr=>?_,rfl⟩⟩
    rcases jw_.mp hr with hr|hr
    ·exact bA r hr
    ·rw[jq_.mp hr];exact⟨by lia,cn⟩
  ·obtain⟨ae,o1,o2,o3,o4,o5,s2,fm,ak,bA,rfl⟩:=(ar _ _ _).mp h2
   nofun
   obtain⟨xs,e1,cc⟩:=fm.rows
   refine⟨_,.inl ⟨SqL.of e1,fun t ht=>?_⟩⟩
   exact k t ae _ (s2.newT ht) (cc t ht) ak bA
def S0 (L:Int)(m1:α2)(w1:α1)(m2:α2)(w2:α1):Prop:=∀w,isW L w=true->mkR m1 (AB w1 w)=mkR m2 (AB w2 w)
def KI (K:α3):Sp:=fun vs H Q _=>∃(h:Addr) (L:Int) (aa:α2) (ae:α1) (num:Int) (n:Nat),vs=[.ref h,.int num,.int n]/\AZ K H h L aa ae/\Wf L aa ae/\n<=40/\∀h' av aF H',Same H H'->AZ K H' h' L av aF->Wf L av aF->av.length=max aa.length n->Q (.ref h') H'
def KJ   (F:Fun K "_law_blown" "_law_blown" Cu f fd)(T:Txt mg)
   (bo:⋯ 1 "_law_mixed" BC ["number","k","many"] (F9) Cw Ca)
  : nofun 2 f fd ["house","number","rooms"] (KI K):=by
 delta A1
 ·obtain⟨h,L,aa,ae,num,n,rfl,_⟩:=h;rfl
 ·obtain⟨h,L,aa,ae,num,n,rfl,hh,wf,aO,k⟩:=h
  have hl:=Ar
  have cV:=wf.l1
  have cW:=wf.l6
  have jb:=wf.n1
  have hs40:=wf.n40
  refine⟨_,(Ac (Ak (i:=3) A1.nd (Aq (lenD Aj) (by rfl) T.len jI_ (Aa (Ag (ixTD Ao) (pvD 0) Ae) Ad)))
   (Ac (Be (i:=4) A1.nd rfl (rh rfl) (Gf rfl rfl T.list rfl T.range (pvD 3)))
   (Ac (Dp jJ_ (ptT (As (opD0 HE) (Aq (lenD Aj) (by rfl) T.len jI_ (Aa (pvD 4) Ad)) (pvD 2) (AI _)))
   (Af (Bc (C5 jD_ jM_ jN_ AS (pvD 4) (Aa (Ai bo hr.d AL (Aa (pvD 1) (Aa (Aq (lenD Aj) (by rfl) T.len jI_ (Aa (pvD 4) Ad)) (Aa (pvD 3) Ad)))) Ad)))))
   (Ac (Ak (i:=5) A1.nd (Bp Ad))
   (Ac (Bs jJ_ rfl (AR rfl T.range (Aa (Aq (lenD Aj) (by rfl) T.len jI_ (Aa (pvD 4) Ad)) Ad)) (Am (i:=6) A1.nd rfl (qY rfl))
   (Ac (Ak (i:=7) A1.nd (Bp Ad))
   (Ac (Bs jJ_ rfl (AR rfl T.range (Aa (Ag (ixTD Ao) (pvD 0) Ae) Ad)) (Am (i:=8) A1.nd rfl (qY rfl))
   (Ac (Be (i:=9) A1.nd rfl (rh rfl) (Ag (ixTD Ao) (Ag (ixTD Ao) (Ag (ixTD Ao) (pvD 0) Ae) (Ag (ixLD AX) (pvD 4) (pvD 6))) (pvD 8)))
   (Ac (Ec (i:=10) A1.nd rfl rfl rfl (A6 rfl) (cp:=E7) ⟨⟨rfl,rfl⟩,⟨⟨rfl,rfl⟩,qW⟩⟩ (AR rfl T.range (Aa (Aq (lenD Aj) (by rfl) T.len jI_ (Aa (pvD 4) Ad)) Ad)) (fun _ _ _ _=>(Am (i:=0) Gu rfl (qY rfl))) (fun _ _ _ _=>(PV (ptT (As (opE Cb) (Ag (ixLD (Bn (K:=K) rfl)) (pvD 2) (pvD 0)) (pvD 1) (AI _))))) (fun _ _ _ _=>(pvD 0)))
   (Af (Bc (C5 jD_ jM_ jN_ AS (pvD 7) (Aa (Ag (ixLD AX) (pvD 10) (Ai bo hr.d AL (Aa (An (opD0 AY) (pvD 1) Ae) (Aa (An (opD0 AY) (An (opD FA) (pvD 6) (Ag (ixTD Ao) (pvD 0) Ae)) (pvD 8)) (Aa (Aq (lenD Aj) (by rfl) T.len jI_ (Aa (pvD 10) Ad)) Ad))))) Ad)))))))
   (Af (Bc (C5 jD_ jM_ jN_ AS (pvD 5) (Aa (AE Az rfl T.tuple jE_ (Aa (pvD 7) Ad)) Ad)))))))
   (Af (AH (Bx (Aa (Ag (ixTD Ao) (pvD 0) Ae) (Aa (AE Az rfl T.tuple jE_ (Aa (A5 rfl (A6 rfl) (cp:=E8) ⟨⟨rfl,rfl⟩,qW⟩ (AW (pvD 4)) (fun _ _ _ _=>(Am (i:=0) Gv rfl (qY rfl))) (fun _ _ _ _=>Bg) (fun _ _ _ _=>(Ag (ixTD (Bt (K:=K) rfl)) (Ag (ixTD (Bt (K:=K) rfl)) (pvD 1) Ae) (pvD 0)))) Ad)) (Aa (AE Az rfl T.tuple jE_ (Aa (pvD 5) Ad)) Ad))))))))))),?_⟩
  nofun
  obtain⟨tm,tw,q1,q2,q3⟩:=id hh
  refine⟨_,q1,_,rfl,?_⟩
  nofun
  refine⟨_,.inr q2,?_⟩
  rw[ja_]
  refine⟨by lia,by lia,fun pf gz=>?_⟩
  rw[ji_]
  obtain⟨Pw,cg⟩:∃Pv:Nat->St->Hp->Prop,∀m aj H2,Pv m aj H2↔(∃aH:α2,m=41-aH.length/\Same H H2/\H2 pf=some (.lst (aH.map V.int))/\aa.length<=aH.length/\aH.length<=40/\aH.length<=max aa.length n/\(∀x∈aH,0<=x/\x<(aa.length:Int))/\(∀g:Nat,g<aa.length->aH[g]?=some (g:Int))/\aj=[some (.ref h),some (.int num),some (.int n),some (.int aa.length),some (.ref pf),none,none,none,none,none,none]):=⟨_,fun _ _ _=>qk_⟩
  refine HS Pw ⟨_,(cg _ _ _).mpr ⟨ups aa.length,rfl,Same.new gz,by rw[Ab],by simp[ups],by simp[ups];lia,by simp[ups];lia,fun x hx=>?_,fun g hg=>?_,rfl⟩⟩ ?_
  ·obtain⟨i,hi,rfl⟩:=jt_.mp hx
   have:=jF_.mp hi
   lia
  ·unfold ups
   rw[je_,qE_ hg];rfl
  intro m aj H2 br
  obtain⟨aH,rfl,s2,km,lK,hf40,hfm,jJ,hfg,rfl⟩:=(cg _ _ _).mp br
  nofun
  refine⟨_,.inl (SqL.of km),?_⟩
  rw[ja_]
  refine ite2 (fun au=>?_) (fun bu=>?_)
  ·refine⟨Pw (41-(aH.length+1)),fun ag H' h=>⟨_,by lia,h⟩,?_⟩
   refine⟨.inl ⟨rfl,_,SqL.of km⟩,_,.inl (SqL.of km),?_⟩
   rw[ja_]
   refine⟨num,_,aa.length,rfl,by lia,by lia,by lia,fun x dz cz=>?_⟩
   nofun
   refine⟨_,km,by rw[ja_];lia,(cg _ _ _).mpr ⟨aH++[x],by simp,s2.over gz,by rw[Ab];simp,by simp;lia,by simp;lia,by simp;lia,fun y hy=>?_,fun g hg=>?_,rfl⟩⟩
   ·rcases jw_.mp hy with hy|hy
    ·exact jJ y hy
    ·rw[jq_.mp hy];exact⟨dz,cz⟩
   ·rw[jd_ s!""];exact hfg g hg
  ·clear br cg Pw
   refine⟨by lia,fun pw br=>⟨_,.inl (SqL.of (Same.new br _ _ km)),?_⟩⟩
   rw[ja_]
   refine⟨by lia,by lia,?_⟩
   rw[ji_]
   have hpwn:H pw=none:=s2.free br
   have hnefw:pf≠pw:=Ap km br
   have sB:=s2.newT br (o:=.lst [])
   have hfB:=Same.new br (o:=.lst []) _ _ km
   have hwB:upd H2 pw (.lst []) pw=some (.lst []):=Ab
   generalize upd H2 pw (.lst [])=HB at sB hfB hwB ⊢
   obtain⟨Pv,ar⟩:∃Pv:Nat->St->Hp->Prop,∀i aC H3,Pv i aC H3↔(∃(ws:α1) (o6 o7 o8 o9 kn:Option V),Same H H3/\H3 pf=some (.lst (aH.map V.int))/\CB K H3 pw ws/\ws.length=i/\(∀row∈ws,(row.length:Int)=L/\∀x∈row,0<=x/\x<(aH.length:Int))/\aC=[some (.ref h),some (.int num),some (.int n),some (.int aa.length),some (.ref pf),some (.ref pw),o6,o7,o8,o9,kn]):=⟨_,fun _ _ _=>qk_⟩
   refine forR Pv ((ar _ _ _).mpr ⟨[],none,none,none,none,none,sB,hfB,CB.nil hwB,rfl,(fun r hr=>by cases hr),rfl⟩) (fun i aC H3 hi h3=>?_) (fun aC H3 h3=>?_)
   ·obtain⟨ws,o6,o7,o8,o9,kn,s3,nj,eN,cD,fO,rfl⟩:=(ar _ _ _).mp h3
    generalize eL:(0:Int)+(i:Nat)=room
    have aR:0<=room:=by lia
    have dZ:room<aH.length:=by lia
    nofun
    refine⟨by lia,fun pr dG=>⟨_,(s3.newT dG).seqT q1,_,rfl,?_⟩⟩
    nofun
    refine⟨by lia,by lia,?_⟩
    have kl:H pr=none:=s3.free dG
    have dr:pw≠pr:=by
     obtain⟨ts,e,_⟩:=id eN
     exact Ap e dG
    have hnef:pf≠pr:=Ap nj dG
    have sC:=s3.newT dG (o:=.lst [])
    have hfC:=Same.new dG (o:=.lst []) _ _ nj
    have hwC:=eN.mono (Same.new dG (o:=.lst []))
    have hrC:upd H3 pr (.lst []) pr=some (.lst (([]:α2).map V.int)):=Ab
    generalize upd H3 pr (.lst [])=HC at sC hfC hwC hrC ⊢
    obtain⟨Pr,iX⟩:∃Pv:Nat->St->Hp->Prop,∀j bK H4,Pv j bK H4↔(∃(row:α2) (o8 o9 kn:Option V),Same H H4/\H4 pf=some (.lst (aH.map V.int))/\CB K H4 pw ws/\H4 pr=some (.lst (row.map V.int))/\row.length=j/\(∀x∈row,0<=x/\x<(aH.length:Int))/\bK=[some (.ref h),some (.int num),some (.int n),some (.int aa.length),some (.ref pf),some (.ref pw),some (.int room),some (.ref pr),o8,o9,kn]):=⟨_,fun _ _ _=>qk_⟩
    refine forR Pr ((iX _ _ _).mpr ⟨[],_,_,_,sC,hfC,hwC,hrC,rfl,(fun r hr=>by cases hr),rfl⟩) (fun j bK H4 hj h4=>?_) (fun bK H4 h4=>?_)
    ·obtain⟨row,o8,o9,kn,s4,dH,cY,nk,cG,cn,rfl⟩:=(iX _ _ _).mp h4
     generalize hlet:(0:Int)+(j:Nat)=letter
     obtain⟨fr,hfr1⟩:∃fr,aH[room.toNat]?=some fr:=⟨aH[room.toNat]'s!"",by simp[show room.toNat<aH.length by lia]⟩
     have ko:=jJ fr (jc_ hfr1)
     obtain⟨row0,g,r1,r2,r3,r4,r5⟩:=wf.step (x:=letter) ko.1 ko.2 s!"" s!""
     obtain⟨xs,t,z1,z2,z3⟩:=q3.atZ ko.1 r1
     nofun
     refine⟨_,s4.seqT q1,_,rfl,?_⟩
     nofun
     refine⟨_,SqL.of dH,_,A7 aR hfr1,?_⟩
     nofun
     refine⟨_,s4.seqT z1,_,z2,?_⟩
     nofun
     refine⟨_,s4.seqT z3,_,A7 s!"" r2,?_⟩
     nofun
     refine⟨_,.inl (SqL.of dH),?_⟩
     rw[ja_]
     refine⟨by lia,by lia,?_⟩
     rw[ji_]
     obtain⟨Pc,dj⟩:∃Pc:Nat->List V->St->Hp->Prop,∀c ys iQ H5,Pc c ys iQ H5↔(H5=H4/\∃(aM:α2) (o:Option V),ys=aM.map V.int/\aM.length<=c/\(∀x∈aM,0<=x/\x<(aH.length:Int))/\(g.toNat<c->aM ≠ [])/\iQ=[o,some (.int g),some (.ref pf)]):=⟨_,fun _ _ _ _=>qk_⟩
     refine JV Pc ((dj _ _ _ _).mpr ⟨rfl,[],none,rfl,jg_ _,(fun x hx=>by cases hx),(fun z=>absurd z (qP_ _)),rfl⟩) s!"" (fun c ys iQ H5 _ h5=>?_) (fun c ys iQ H5 hc h5=>?_) (fun ys iQ H5 h5 D hD=>?_)
     ·obtain⟨_,aM,o,rfl,ak,_⟩:=(dj _ _ _ _).mp h5
      rw[ja_];exact ak
     ·obtain⟨rfl,aM,o,rfl,ak,bh,mG,rfl⟩:=(dj _ _ _ _).mp h5
      obtain⟨fv,hfv⟩:∃fv,aH[c]?=some fv:=⟨aH[c]'hc,by simp[hc]⟩
      have ec:(0:Int)+(c:Nat)=(c:Int):=by lia
      rw[ec]
      nofun
      refine⟨_,SqL.of dH,_,A7 s!"" (by rw[ji_];exact hfv),?_⟩
      nofun
      refine ite2 (fun he=>?_) (fun ay=>?_)
      ·refine (dj _ _ _ _).mpr ⟨rfl,aM++[(c:Int)],_,by simp,by simp;lia,fun x hx=>?_,(fun _ z=>by simp at z),rfl⟩
       rcases jw_.mp hx with hx|hx
       ·exact bh x hx
       ·rw[jq_.mp hx];lia
      ·refine (dj _ _ _ _).mpr ⟨rfl,aM,_,rfl,by lia,bh,fun hlt'=>?_,rfl⟩
       by_cases hgc:g.toNat=c
       ·exfalso
        have:=hfg c s!""
        rw[hfv]at this
        have e2:=jr_ this
        apply ay
        lia
       ·exact mG s!""
     ·obtain⟨rfl,aM,o,rfl,ak,bh,mG,rfl⟩:=(dj _ _ _ _).mp h5
      have ay:aM ≠ []:=mG s!""
      have jF:0<aM.length:=zN_.mpr ay
      have sD:=Same.new hD (o:=.lst (aM.map V.int))
      have hmul0:0<=room*L:=x3_ aR s!""
      have hmul1:room*L<=40*6:=uE s!"" s!"" s!"" s!""
      refine⟨.inl ⟨rfl,_,SqL.of (sD _ _ nk)⟩,_,(s4.trans sD).seqT q1,_,rfl,L,rfl,.inl ⟨by lia,by lia⟩,D,rfl,_,.inl (SqL.of Ab),?_⟩
      rw[ja_]
      refine⟨_,_,_,rfl,by lia,by lia,by lia,fun x dz cz=>?_⟩
      have hU:x.toNat<aM.length:=by lia
      refine⟨D,rfl,_,x,rfl,SqL.of Ab,_,A7 dz (v:=aM[x.toNat]) (by simp[hU]),_,sD _ _ nk,by rw[ja_];lia,(iX _ _ _).mpr ⟨row++[aM[x.toNat]],_,_,_,(s4.trans sD).over kl,?_,(cY.mono sD).off (sD _ _ nk) dr,by rw[Ab];simp,by simp[cG],fun y hy=>?_,rfl⟩⟩
      ·rw[Ah hnef];exact sD _ _ dH
      ·rcases jw_.mp hy with hy|hy
       ·exact cn y hy
       ·rw[jq_.mp hy];exact bh _ (j3_ hU)
    ·obtain⟨row,o8,o9,kn,s4,dH,cY,nk,cG,cn,rfl⟩:=(iX _ _ _).mp h4
     nofun
     obtain⟨ts,e0,_⟩:=id cY
     refine⟨.inl ⟨rfl,_,SqL.of e0⟩,_,.inl ⟨SqL.of nk,fun t ht=>?_⟩⟩
     obtain⟨xs,e1,e2,fM⟩:=(cY.mono (Same.new ht (o:=.tup (row.map V.int)))).push (w:=row) (SqT.of Ab)
     refine⟨xs,e1,by lia,(ar _ _ _).mpr ⟨ws++[row],_,_,_,_,_,(s4.newT ht).over hpwn,?_,fM,by simp[cD],fun r hr=>?_,rfl⟩⟩
     ·rw[Ah hnefw];exact Same.new ht _ _ dH
     ·rcases jw_.mp hr with hr|hr
      ·exact fO r hr
      ·rw[jq_.mp hr];exact⟨by lia,cn⟩
   ·obtain⟨ws,o6,o7,o8,o9,kn,s3,nj,eN,cD,fO,rfl⟩:=(ar _ _ _).mp h3
    nofun
    refine⟨_,s3.seqT q1,_,rfl,⟨_,SqL.of nj⟩,FD (ag:=[some (.ref h)]) (fun x=>match x with | .int n=>.int (mkW aa n)|_=>.non) rfl (SqL.of nj) (by rw[ja_];lia) (fun x hx R hR=>?_) (fun Dm hDm=>?_)⟩
    ·obtain⟨y,hy,rfl⟩:=CT hx
     have bN:=jJ y hy
     nofun
     refine⟨_,s3.seqT q1,_,rfl,?_⟩
     nofun
     exact⟨_,s3.seqT q2,_,Le bN.1 bN.2,hR⟩
    have em:(aH.map V.int).map (fun x=>match x with | .int n=>.int (mkW aa n)|_=>.non)=(aH.map (mkW aa)).map V.int:=by rw[jU_,jU_];rfl
    rw[em]
    refine⟨Dm,rfl,_,.inl ⟨SqL.of Ab,fun t1 nV=>?_⟩⟩
    obtain⟨xs,cz,cc⟩:=(eN.mono ((Same.new hDm (o:=.lst ((aH.map (mkW aa)).map V.int))).newT nV (o:=.tup ((aH.map (mkW aa)).map V.int)))).rows
    refine⟨xs,.inl ⟨SqL.of cz,fun t2 qr=>⟨by lia,fun h9 qt=>?_⟩⟩⟩
    refine k h9 (aH.map (mkW aa)) ws _ ((((s3.newT hDm).newT nV).newT qr).newT qt) ⟨t1,t2,SqT.of Ab,((Same.new qr).newT qt).seqT (SqT.of Ab),(cc t2 qr).mono (Same.new qt)⟩ ⟨cV,cW,by rw[ja_];lia,by rw[ja_];lia,by rw[ja_];lia,fun row hr=>by rw[ja_];exact fO row hr,fun m hm=>?_⟩ (by rw[ja_];lia)
    obtain⟨y,hy,rfl⟩:=jt_.mp hm
    have bN:=jJ y hy
    exact wf.mks _ (Wt bN.1 bN.2)
def JG (K:α3):Sp:=fun vs H Q _=>∃(a:Addr) (ns:α2),vs=[.ref a]/\SqL K H a (ns.map V.int)/\∀h L aa ae H',Same H H'->AZ K H' h L aa ae->Wf L aa ae->aa.length<=15->Q (.ref h) H'
def Hb   (F:Fun K "_law_house_by" "_law_house_by" B4 f fd)(T:Txt mg)
   (a8:⋯ 1 "_law_cell_at" Bl ["script","k"] (IC K) BL BE)
   (kq:⋯ 2 "_law_marks_by" B3 ["number","rooms"] (JF K) Et DU)
   (kr:⋯ 2 "_law_ways_by" Cn ["script","letters","rooms"] (LM K) Fd Eu)
   (fC:⋯ 2 "_law_blown" Cu ["house","number","rooms"] (KI K) Ew DK)
  : nofun 3 f fd ["script"] (JG K):=by
 delta AO
 ·obtain⟨a,ns,rfl,_⟩:=h;rfl
 ·obtain⟨a,ns,rfl,hs,k⟩:=h
  have hl:=Ar
  refine⟨_,(Ac (Ak (i:=1) AO.nd (An (opD0 AY) Ae (An (opD AM) (An (opD0 AY) (Ai a8 hr.d AL (Aa (pvD 0) (Aa Ae Ad))) Ae) Ae)))
   (Ac (Ak (i:=2) AO.nd (An (opD0 AY) Ae (An (opD AM) (An (opD0 AY) (Ai a8 hr.d AL (Aa (pvD 0) (Aa Ae Ad))) Ae) Ae)))
   (Bz (BI (PW.pt (GH (ptT (As (opE Cb) (An (opD AM) (An (opD BX) (Ai a8 hr.d AL (Aa (pvD 0) (Aa Ae Ad))) Ae) Ae) Ae (AI _))) (D7 (ptT (As (opD0 HE) (pvD 1) Ae (AI _))))))
   (Af (Ak (i:=2) AO.nd (An (opD0 AY) Ae (An (opD AM) (An (opD BX) (Ai a8 hr.d AL (Aa (pvD 0) (Aa Ae Ad))) Ae) Ae))))
   AK)
   (Ac (Ak (i:=3) AO.nd (Ai kq hr.d AL (Aa (Ai a8 hr.d AL (Aa (pvD 0) (Aa Ae Ad))) (Aa (pvD 2) Ad))))
   (Ac (Ak (i:=4) AO.nd (Bx (Aa (pvD 1) (Aa (pvD 3) (Aa (Ai kr hr.d AL (Aa (pvD 0) (Aa (pvD 1) (Aa (pvD 2) Ad)))) Ad)))))
   (Ac (Ak (i:=5) AO.nd (Ai a8 hr.d AL (Aa (pvD 0) (Aa Ae Ad))))
   (Bz (BI (ptT (As (opE Cb) (An (opD AM) (pvD 5) Ae) Ae (AI _)))
   (Af (Ak (i:=4) AO.nd (Ai fC hr.d AL (Aa (pvD 4) (Aa (pvD 5) (Aa (An (opD0 AY) (An (opD0 AY) (pvD 2) Ae) (An (opD AM) (An (opD BX) (pvD 5) Ae) Ae)) Ad))))))
   AK)
   (Af (AH (pvD 4)))))))))),?_⟩
  nofun
  refine⟨a,ns,0,rfl,hs,?_⟩
  nofun
  refine⟨by decide,a,ns,1,rfl,hs,?_⟩
  nofun
  have cV:1<=1+(cell ns 0+1)%6:=by lia
  have cW:1+(cell ns 0+1)%6<=6:=by lia
  generalize 1+(cell ns 0+1)%6=L at cV cW ⊢
  obtain⟨R,hR⟩:∃R:St->Hp->Prop,∀ag H',R ag H'↔(H'=H/\∃n:Nat,1<=n/\n<=12/\ag=[some (.ref a),some (.int L),some (.int n),none,none,none]):=⟨_,fun _ _=>qk_⟩
  refine⟨by decide,R,?_,?_⟩
  ·nofun
   refine⟨a,ns,1,rfl,hs,?_⟩
   nofun
   refine⟨⟨by decide,by decide⟩,by decide,?_⟩
   have hb:R [some (V.ref a),some (V.int L),some (V.int (1+(cell ns 1+3)%5)),none,none,none] H:=(hR _ _).mpr ⟨rfl,(1+(cell ns 1+3)%5).toNat,by lia,by lia,by rw[show (((1+(cell ns 1+3)%5).toNat:Nat):Int)=1+(cell ns 1+3)%5 by lia]⟩
   refine ite2 (fun _=>ite2 (fun _=>?_) (fun _=>hb)) (fun _=>hb)
   refine⟨a,ns,1,rfl,hs,_,rfl,⟨by decide,by decide⟩,by decide,(hR _ _).mpr ⟨rfl,(1+cell ns 1 / 80%12).toNat,by lia,by lia,?_⟩⟩
   rw[show (((1+cell ns 1 / 80%12).toNat:Nat):Int)=1+cell ns 1 / 80%12 by lia]
  ·intro ag H' h'
   obtain⟨rfl,n,b8,hn12,rfl⟩:=(hR _ _).mp h'
   have aO:n<=40:=by lia
   nofun
   refine⟨a,ns,2,rfl,hs,?_⟩
   nofun
   refine⟨_,n,rfl,b8,aO,fun tm aa H1 s1 lQ iI hmr=>?_⟩
   nofun
   refine⟨a,ns,L,n,rfl,s1.seq hs,cV,cW,b8,aO,fun tw ae H2 s2 cc cD fO=>?_⟩
   nofun
   refine⟨by lia,fun h hh=>?_⟩
   have wf:Wf L aa ae:=⟨cV,cW,by lia,by lia,by lia,fun row hr=>by rw[iI];exact fO row hr,hmr⟩
   have dY:=(s1.trans s2).newT hh (o:=.tup [V.int L,V.ref tm,V.ref tw])
   have ku:AZ K (upd H2 h (.tup [V.int L,V.ref tm,V.ref tw])) h L aa ae:=⟨tm,tw,SqT.of Ab,(s2.newT hh).seqT lQ,cc.mono (Same.new hh)⟩
   generalize upd H2 h (.tup [V.int L,V.ref tm,V.ref tw])=H3 at dY ku ⊢
   refine⟨a,ns,4,rfl,dY.seq hs,?_⟩
   nofun
   obtain⟨R2,qu⟩:∃R:St->Hp->Prop,∀bK H4,R bK H4↔(∃(h:Addr) (aa:α2) (ae:α1) (o1 o2 o3:Option V),Same H' H4/\AZ K H4 h L aa ae/\Wf L aa ae/\aa.length<=15/\bK=[some (.ref a),some (.int L),o1,o2,some (.ref h),o3]):=⟨_,fun _ _=>qk_⟩
   refine⟨R2,?_,?_⟩
   ·nofun
    refine⟨by decide,ite2 (fun _=>⟨⟨by decide,by decide⟩,by decide,?_⟩) (fun _=>(qu _ _).mpr ⟨h,aa,ae,_,_,_,dY,ku,wf,by lia,rfl⟩)⟩
    have dz:=qo_ (cell ns 4 / 3) (show (3:Int)≠0 by decide)
    have cz:=j5_ (cell ns 4 / 3) (show (0:Int)<3 by decide)
    obtain⟨m,hm,hm40⟩:∃m:Nat,(n:Int)+1+cell ns 4 / 3%3=(m:Int)/\m<=15:=⟨((n:Int)+1+cell ns 4 / 3%3).toNat,by lia,by lia⟩
    rw[hm]
    refine⟨h,L,aa,ae,_,m,rfl,ku,wf,by lia,fun h' av aF H4 s4 pQ hV hml'=>?_⟩
    exact (qu _ _).mpr ⟨h',av,aF,_,_,_,dY.trans s4,pQ,hV,by rw[hml'];lia,rfl⟩
   ·intro bK H4 h4
    obtain⟨h,aa,ae,o1,o2,o3,s4,kz,qw,kA,rfl⟩:=(qu _ _).mp h4
    nofun
    exact k h L aa ae H4 s4 kz qw kA
def IF (K:α3):Sp:=fun vs H Q _=>∃(h:Addr) (L:Int) (aa:α2) (ae:α1) (num:Int),vs=[.ref h,.int num]/\AZ K H h L aa ae/\Wf L aa ae/\∀h' av aF H',Same H H'->AZ K H' h' L av aF->Wf L av aF->av.length=aa.length->Q (.ref h') H'
def GD   (F:Fun K "_law_turned_by" "_law_turned_by" BM f fd)(T:Txt mg)
  : nofun 1 f fd ["house","number"] (IF K):=by
 delta A3
 ·obtain⟨h,L,aa,ae,num,rfl,_⟩:=h;rfl
 ·obtain⟨h,L,aa,ae,num,rfl,hh,wf,k⟩:=h
  have hl:=Ar
  have b8:=wf.n1
  have aO:=wf.n40
  obtain⟨tm,tw,q1,q2,q3⟩:=id hh
  refine⟨_,(Ac (Be (i:=2) A3.nd rfl (rh rfl) (Aq (lenD Aj) (by rfl) T.len jI_ (Aa (Ag (ixTD Ao) (pvD 0) Ae) Ad)))
   (Ac (BI (ptT (As (opE Cb) (pvD 2) Ae (AI _)))
   (Af (AH (pvD 0)))
   AK)
   (Bz (Be (i:=3) A3.nd rfl (rh rfl) (An VZ (Bp (Aa Ae Ad)) (A5 rfl (A6 rfl) (cp:=CY) ⟨⟨rfl,rfl⟩,⟨⟨rfl,rfl⟩,qW⟩⟩ (AR rfl T.range (Aa (An (opD0 CQ) (pvD 2) Ae) Ad)) (fun _ _ _ _=>(Am (i:=0) Eo rfl (qY rfl))) (fun _ _ _ _=>Bg) (fun _ _ _ _=>(An (opD0 AY) Ae (An (opD AM) (An (opD0 AY) (pvD 0) (pvD 1)) (An (opD0 CQ) (pvD 2) Ae)))))))
   (Ac (Ak (i:=4) A3.nd (An Pt (Bp (Aa Ae Ad)) (pvD 2)))
   (Ac (Ak (i:=5) A3.nd (An Pt (Bp (Aa (Bx Ad) Ad)) (pvD 2)))
   (Ac (Bs jJ_ rfl (AR rfl T.range (Aa (pvD 2) Ad)) (Am (i:=6) A3.nd rfl (qY rfl))
   (Ac (KQ (Ag (ixTD Ao) (Ag (ixTD Ao) (pvD 0) Ae) (pvD 6)) (KO (pvD 4) (Ag (ixLD AX) (pvD 3) (pvD 6)) set_list))
   (Af (KQ (AE Az rfl T.tuple jE_ (Aa (A5 rfl (A6 rfl) (cp:=CZ) ⟨⟨rfl,rfl⟩,qW⟩ (E3 (Ag (ixTD Ao) (Ag (ixTD Ao) (pvD 0) Ae) (pvD 6))) (fun _ _ _ _=>(Am (i:=0) Ep rfl (qY rfl))) (fun _ _ _ _=>Bg) (fun _ _ _ _=>(Ag (ixLD (Bn (K:=K) rfl)) (pvD 1) (pvD 0)))) Ad)) (KO (pvD 5) (Ag (ixLD AX) (pvD 3) (pvD 6)) set_list)))))
   (Af (AH (Bx (Aa (Ag (ixTD Ao) (pvD 0) Ae) (Aa (AE Az rfl T.tuple jE_ (Aa (pvD 4) Ad)) (Aa (AE Az rfl T.tuple jE_ (Aa (pvD 5) Ad)) Ad)))))))))))),?_⟩
  nofun
  refine⟨_,q1,_,rfl,?_⟩
  nofun
  refine⟨_,.inr q2,?_⟩
  rw[ja_]
  refine ite2 (fun h1=>k h aa ae H (Same.refl _) hh wf rfl) (fun h1=>?_)
  have h2:2<=aa.length:=by lia
  have ho:=Qy h2 num
  have nF:=ho.len
  generalize hspin:Qx aa.length num=o at ho nF
  refine⟨fun ag H'=>Same H H'/\∃a,H' a=some (.lst (o.map V.int))/\ag=[some (.ref h),some (.int num),some (.int aa.length),some (.ref a),none,none,none],?_,fun i6 H1 hR=>?_⟩
  ·nofun
   refine⟨by lia,fun p hp=>⟨by lia,by lia,?_⟩⟩
   refine JV (n:=((aa.length:Int)-1).toNat) (fun i ys aj H2=>H2=upd H p (.lst [V.int 0])/\ys=((qV i).map fun j:Nat=>1+((j:Int)+num)%((aa.length:Int)-1)).map V.int/\∃o,aj=[o,some (.int num),some (.int aa.length)]) ⟨rfl,rfl,none,rfl⟩ s!"" (fun i ys aj H2 _ h=>by rw[h.2.1];simp) (fun i ys aj H2 hi h=>?_) (fun ys aj H2 h=>?_)
   ·obtain⟨rfl,rfl,o,rfl⟩:=h
    nofun
    refine⟨by lia,?_⟩
    rw[xT_,show (0:Int)+(i:Nat)=(i:Int) by lia]
    simp
   ·obtain⟨rfl,rfl,o,rfl⟩:=h
    intro D hD
    have n1:p≠D:=fun z=>by rw[<-z,Ab]at hD;cases hD
    refine⟨D,rfl,_,by rw[Ah n1];exact Ab,_,Ab,by simp;lia,fun q hq=>⟨((Same.new hp).newT hD).newT hq,q,?_,rfl⟩⟩
    rw[Ab,<-hspin,show ((aa.length:Int)-1).toNat=aa.length-1 by lia]
    rfl
  obtain⟨s1,a,ha,rfl⟩:=hR
  have lG:SqL K H1 a (o.map V.int):=SqL.of ha
  nofun
  rw[ji_]
  refine⟨by lia,fun p hp=>⟨_,Ab,by lia,by lia,by simp;lia,fun p1 bw=>⟨by lia,fun p2 aN=>⟨by lia,fun p3 cX=>⟨_,Ab,by lia,by lia,by simp;lia,fun p4 eC=>?_⟩⟩⟩⟩⟩
  rw[J6]at aN cX eC ⊢
  rw[J6]
  have sA:=(((((Same.new (o:=.lst [V.int 0]) hp).newT (o:=.lst (qU aa.length (V.int 0))) bw).newT (o:=.tup []) aN).newT (o:=.lst [V.ref p2]) cX).newT (o:=.lst (qU aa.length (V.ref p2))) eC)
  have n41:p4≠p1:=(Av (Av (Av eC).1).1).2
  have cA:upd (upd (upd (upd (upd H1 p (.lst [V.int 0])) p1 (.lst (qU aa.length (V.int 0)))) p2 (.tup [])) p3 (.lst [V.ref p2])) p4 (.lst (qU aa.length (V.ref p2))) p1=some (.lst ((qU aa.length (0:Int)).map V.int)):=by
   rw[zm_]
   exact Same.new eC _ _ (Same.new cX _ _ (Same.new aN _ _ Ab))
  have hw0:CB K (upd (upd (upd (upd (upd H1 p (.lst [V.int 0])) p1 (.lst (qU aa.length (V.int 0)))) p2 (.tup [])) p3 (.lst [V.ref p2])) p4 (.lst (qU aa.length (V.ref p2)))) p4 (qU aa.length []):=by
   refine⟨qU aa.length p2,by rw[Ab,zm_],by simp,fun i t w e1 e2=>?_⟩
   have e3:t=p2:=rK (jc_ e1)
   have e4:w=[]:=rK (jc_ e2)
   subst e3 e4
   exact SqT.of (Same.new eC _ _ (Same.new cX _ _ Ab))
  have hp1n:H1 p1=none:=(Av bw).1
  have hp4n:H1 p4=none:=(Av (Av (Av (Av eC).1).1).1).1
  generalize upd (upd (upd (upd (upd H1 p (.lst [V.int 0])) p1 (.lst (qU aa.length (V.int 0)))) p2 (.tup [])) p3 (.lst [V.ref p2])) p4 (.lst (qU aa.length (V.ref p2)))=H2 at sA cA hw0 ⊢
  refine⟨by lia,by lia,?_⟩
  obtain⟨Pn,bU⟩:∃Pn:Nat->St->Hp->Prop,∀i aC H3,Pn i aC H3↔(∃(o5:Option V),Same H1 H3/\H3 p1=some (.lst ((CC o (fun r=>aa.getD r 0) i (qU aa.length 0)).map V.int))/\CB K H3 p4 (CC o (fun r=>(ae.getD r []).map (ordW o)) i (qU aa.length []))/\aC=[some (.ref h),some (.int num),some (.int aa.length),some (.ref a),some (.ref p1),some (.ref p4),o5]):=⟨_,fun _ _ _=>qk_⟩
  refine forR Pn ((bU _ _ _).mpr ⟨none,sA,cA,hw0,rfl⟩) (fun i aC HT hi h3=>?_) (fun aC H3 h3=>?_)
  ·obtain⟨o5,sT,hmT,pN,rfl⟩:=(bU _ _ _).mp h3
   have ei:(0:Int)+(i:Nat)=(i:Int):=by lia
   rw[ei]
   have hxa:=ho.at (r:=(i:Int)) s!"" s!""
   rw[ji_]at hxa
   obtain⟨hxi,dz,cz⟩:=hxa
   obtain⟨tm3,tw3,y1,y2,y3⟩:=hh.mono (s1.trans sT)
   have g8:aa[i]?=some (aa.getD i 0):=by rw[jj_,jh_ hi];rfl
   obtain⟨row,hrow,eE,cG⟩:=wf.row (r:=(i:Int)) s!"" s!""
   rw[ji_]at hrow
   nofun
   refine⟨_,y1,_,rfl,_,rfl,_,y2,_,D8 (by rw[je_,g8];rfl),_,sT.seq lG,_,D8 (by rw[je_,hxi];rfl),?_⟩
   refine⟨_,_,rfl,hmT,(ordW o i).toNat,Nr dz (by rw[ja_,CJ,qx_];exact cz),?_⟩
   have sU:Same H1 (upd HT p1 (.lst (((CC o (fun r=>aa.getD r 0) i (qU aa.length 0)).map V.int).set (ordW o i).toNat (V.int (aa.getD i 0))))):=sT.over hp1n
   have hmU:upd HT p1 (.lst (((CC o (fun r=>aa.getD r 0) i (qU aa.length 0)).map V.int).set (ordW o i).toNat (V.int (aa.getD i 0)))) p1=some (.lst ((CC o (fun r=>aa.getD r 0) (i+1) (qU aa.length 0)).map V.int)):=by
    rw[Ab,CC,tJ]
   have hwU:=pN.off (ys:=((CC o (fun r=>aa.getD r 0) i (qU aa.length 0)).map V.int).set (ordW o i).toNat (V.int (aa.getD i 0))) hmT n41
   generalize upd HT p1 (.lst (((CC o (fun r=>aa.getD r 0) i (qU aa.length 0)).map V.int).set (ordW o i).toNat (V.int (aa.getD i 0))))=HU at sU hmU hwU ⊢
   obtain⟨tm4,tw4,z1,z2,z3⟩:=hh.mono (s1.trans sU)
   obtain⟨xs4,t4,c1,c2,c3⟩:=z3.at hrow
   refine⟨_,z1,_,rfl,_,rfl,_,c1,_,c2,_,rfl,⟨_,c3⟩,?_⟩
   obtain⟨f,hf⟩:∃f:V->V,∀g:Int,f (V.int g)=.int (ordW o g):=⟨fun v=>match v with | .int g=>.int (ordW o g)|_=>.non,fun _=>rfl⟩
   refine EJ (xs:=row.map V.int) (ag:=[some (.ref a)]) f rfl c3 (by rw[ja_];have:=wf.l6;lia) (fun v hv R hR=>?_) (fun D hD=>?_)
   ·obtain⟨g,hg,rfl⟩:=jt_.mp hv
    rw[hf]at hR
    have jz:=(wf.rows row eE).2 g hg
    nofun
    exact⟨_,sU.seq lG,_,A7 jz.1 (ho.at jz.1 jz.2).1,hR⟩
   ·have em:(row.map V.int).map f=(row.map (ordW o)).map V.int:=by
     rw[jU_,jU_]
     exact qr_ fun g _=>hf g
    rw[em]
    refine⟨D,rfl,_,.inl ⟨SqL.of Ab,fun l fD=>?_⟩⟩
    have sV:=(Same.new (o:=.lst ((row.map (ordW o)).map V.int)) hD).newT (o:=.tup ((row.map (ordW o)).map V.int)) fD
    obtain⟨xs8,e1,e2,gE⟩:=(hwU.mono sV).set (j:=(ordW o i).toNat) (w:=row.map (ordW o)) (SqT.of Ab)
    refine⟨_,(sU.trans sV).seq lG,_,D8 (by rw[je_,hxi];rfl),xs8,_,rfl,e1,(ordW o i).toNat,Nr dz (by rw[e2,CJ,qx_];exact cz),(bU _ _ _).mpr ⟨_,(sU.trans sV).over hp4n,?_,?_,rfl⟩⟩
    ·rw[Ah n41.symm];exact sV _ _ hmU
    ·rw[CC,jj_,hrow];exact gE
  ·obtain⟨o5,s3,nY,eN,rfl⟩:=(bU _ _ _).mp h3
   nofun
   obtain⟨tm3,tw3,y1,y2,y3⟩:=hh.mono (s1.trans s3)
   refine⟨_,y1,_,rfl,_,.inl ⟨SqL.of nY,fun l fD=>?_⟩⟩
   obtain⟨xs,cz,iA⟩:=(eN.mono (Same.new (o:=.tup ((Qo aa.length o aa).map V.int)) fD)).rows
   refine⟨_,.inl ⟨SqL.of cz,fun l1 bE=>⟨by lia,fun p5 cB=>?_⟩⟩⟩
   exact k p5 _ _ _ (((s1.trans s3).newT fD).newT bE |>.newT cB) ⟨l,l1,SqT.of Ab,SqT.of (Same.new cB _ _ (Same.new bE _ _ Ab)),(iA l1 bE).mono (Same.new cB)⟩ (UX wf ho) (C8 _ _ _)
def Rq (K:α3):Sp:=fun vs H Q _=>∃(a h:Addr) (ns:α2) (L:Int) (aa:α2) (ae:α1),vs=[.ref a,.ref h]/\SqL K H a (ns.map V.int)/\AZ K H h L aa ae/\Wf L aa ae/\∀(m:Nat) H',m<=3->many L (m+2)<=341->Same H H'->Q (.int m) H'
def IG   (F:Fun K "_law_more_by" "_law_more_by" Co f fd)(T:Txt mg)
   (a8:⋯ 1 "_law_cell_at" Bl ["script","k"] (IC K) BL BE)
  : nofun 2 f fd ["script","house"] (Rq K):=by
 delta El
 ·obtain⟨a,h,ns,L,aa,ae,rfl,_⟩:=h;rfl
 ·obtain⟨a,h,ns,L,aa,ae,rfl,hs,hh,wf,k⟩:=h
  have hl:=Ar
  refine⟨_,(Ac (Ak (i:=2) El.nd (An (opD BX) (Ai a8 hr.d AL (Aa (pvD 0) (Aa Ae Ad))) Ae))
   (Ac (BI (ptT (As (opD0 Uz) (Aq (lenD Aj) (by rfl) T.len jI_ (Aa (Ag (ixTD Ao) (pvD 1) Ae) Ad)) Ae (AI _)))
   (Af (AH (An (opD AM) (pvD 2) Ae)))
   AK)
   (Ac (BI (PW.pt (GH (ptT (As (opD0 HE) (Aq (lenD Aj) (by rfl) T.len jI_ (Aa (Ag (ixTD Ao) (pvD 1) Ae) Ad)) Ae (AI _))) (D7 (ptT (As (opE Cb) (An (opD AM) (pvD 2) Ae) Ae (AI _))))))
   (Af (AH (Ag (ixLD AX) (Bp (Aa Ae (Aa Ae (Aa Ae (Aa Ae (Aa Ae (Aa Ae Ad))))))) (An (opD0 CQ) (Ag (ixTD Ao) (pvD 1) Ae) Ae))))
   AK)
   (Ac (BI (ptT (As (opE Cb) (An (opD AM) (pvD 2) Ae) Ae (AI _)))
   (Af (AH (Ag (ixLD AX) (Bp (Aa Ae (Aa Ae (Aa Ae (Aa Ae (Aa Ae (Aa Ae Ad))))))) (An (opD0 CQ) (Ag (ixTD Ao) (pvD 1) Ae) Ae))))
   AK)
   (Af (AH (An (opD AM) (pvD 2) (Ag (ixLD AX) (Bp (Aa Ae (Aa Ae (Aa Ae (Aa Ae (Aa Ae (Aa Ae Ad))))))) (An (opD0 CQ) (Ag (ixTD Ao) (pvD 1) Ae) Ae))))))))),?_⟩
  nofun
  obtain⟨mm,wv,q1,q2,q3⟩:=id hh
  have cV:=wf.l1
  have cW:=wf.l6
  refine⟨a,ns,0,rfl,hs,_,rfl,⟨by decide,by decide⟩,_,q1,_,rfl,mm,rfl,_,.inr q2,?_⟩
  generalize cell ns 0 / 6=c
  rw[ja_]
  have hL:L=1\/L=2\/L=3\/L=4\/L=5\/L=6:=by lia
  have m0:many L (0+2)<=341:=by rcases hL with rfl|rfl|rfl|rfl|rfl|rfl<;>decide
  have m1:many L (1+2)<=341:=by rcases hL with rfl|rfl|rfl|rfl|rfl|rfl<;>decide
  have m2:many L (2+2)<=341:=by rcases hL with rfl|rfl|rfl|rfl|rfl|rfl<;>decide
  have m3:L<=4->many L (3+2)<=341:=fun h=>by
   rcases hL with rfl|rfl|rfl|rfl|rfl|rfl
   all_goals first|decide|lia
  -- each answer
  have qx:∀(c:Int) H',Same H H'->0<=c->c<=3->(c=3->L<=4)->Q (.int c) H':=fun c H' hS h0 h3 hc=>by
   obtain⟨m,rfl⟩:∃m:Nat,c=(m:Int):=⟨c.toNat,by lia⟩
   refine k m H' s!"" ?_ hS
   rcases (show m=0\/m=1\/m=2\/m=3 by lia) with rfl|rfl|rfl|rfl
   ·exact m0
   ·exact m1
   ·exact m2
   ·exact m3 (hc rfl)
  refine ite2 (fun _=>⟨by decide,qx _ _ (Same.refl _) s!"" s!"" s!""⟩) (fun _=>?_)
  refine⟨_,q1,_,rfl,mm,rfl,_,.inr q2,?_⟩
  rw[ja_]
  refine ite2 (fun h3=>⟨by decide,ite2 (fun _=>⟨by decide,fun p hp=>?_⟩) (fun _=>⟨by decide,ite2 (fun _=>⟨by decide,fun p hp=>?_⟩) (fun _=>⟨by decide,fun p hp=>?_⟩)⟩)⟩) (fun h3=>⟨by decide,ite2 (fun _=>⟨by decide,fun p hp=>?_⟩) (fun _=>⟨by decide,fun p hp=>?_⟩)⟩)
  all_goals
   refine⟨_,(Same.new hp).seqT q1,_,rfl,L,rfl,_,SqL.of Ab,?_⟩
   clear hh wf q1 q2 q3 k m0 m1 m2 m3
   rcases hL with rfl|rfl|rfl|rfl|rfl|rfl
   all_goals first
    | exact⟨_,rfl,qx _ _ (Same.new hp) (by decide) (by decide) (by decide)⟩
    | exact⟨_,rfl,_,rfl,by decide,qx _ _ (Same.new hp) s!"" s!"" s!""⟩
def BW.tsq2 {K:α3}    (h:BW T H H')(hT:H T=some (.tbl ps)):TSq K H H':=fun b ys q=>h.tsq hT q
def AZ.monoQ {K:α3}      (x:AZ K H h L aa ae)(e:TSq K H H'):AZ K H' h L aa ae:=by
 obtain⟨m,w,h1,h2,ts,h3,h4,h5⟩:=x
 exact⟨m,w,e _ _ h1,e _ _ h2,ts,e _ _ h3,h4,fun i t r a b=>e _ _ (h5 i t r a b)⟩
def Rr:∀(l s:α1) (w:α2),w∈l.foldl ins s->w∈s\/w∈l
 |[],s,w,h=>.inl h
 |v::l,s,w,h=>by
  rw[qY_]at h
  rcases Rr l _ w h with h|h
  ·unfold ins at h
   split at h
   ·exact .inl h
   ·rcases jw_.mp h with h|h
    ·exact .inl h
    ·rw[jq_.mp h];exact .inr jn_
  ·exact .inr (jl_ _ h)
def Rt {K:α3}  {os:List aL.Wd}(h:WsT H os):AD K H (aL.wv os) (os.map (·.2)):=by
 refine⟨by simp[aL.wv],fun i w hw=>?_⟩
 rw[je_]at hw
 cases e:os[i]? with
 |none=>rw[e]at hw;cases hw
 |some o=>
  rw[e]at hw;cases hw
  exact⟨o.1,by rw[aL.wv,je_,e];rfl,h o (jc_ e)⟩
def Ru:∀(l s:α1) (w:α2),(w∈s\/w∈l)->w∈l.foldl ins s
 |[],s,w,h=>h.resolve_right (by simp)
 |v::l,s,w,h=>by
  rw[qY_]
  refine Ru l _ w ?_
  unfold ins
  rcases h with h|h
  ·left
   split
   ·exact h
   ·exact j2_ _ h
  ·rcases jB_.mp h with rfl|h
   ·left
    split
    ·rename_i hh;exact hh
    ·exact jy_ _ jn_
   ·exact .inr h
def Ex {l:α1}{w:α2}:w∈l.foldl ins []↔w∈l:=⟨fun h=>(Rr l [] w h).resolve_left (by simp),fun h=>Ru l [] w (.inr h)⟩
def KL {ae:α1}{n:Nat}{c9:α1}{E:Nat->α1}{w:α2}:w∈allW ae n c9 E ↔ ∃r,r<n/\∃v∈c9,∃e∈E (AB ae (wayW ae r++v)).toNat,w=wayW ae r++v++e:=by
 unfold allW oneW
 constructor
 ·intro h
  obtain⟨r,hr,h⟩:=zA_.mp h
  obtain⟨v,hv,h⟩:=zA_.mp h
  obtain⟨e,he,rfl⟩:=jt_.mp h
  exact⟨r,jF_.mp hr,v,hv,e,he,rfl⟩
 ·rintro⟨r,hr,v,hv,e,he,rfl⟩
  exact zA_.mpr ⟨r,jF_.mpr hr,zA_.mpr ⟨v,hv,jt_.mpr ⟨e,he,rfl⟩⟩⟩
def KN   (hL:0<L)  : v∈Dk L m↔isW L v=true/\v.length<=m+1:=by
 constructor
 ·intro h
  obtain⟨k',dR,rfl⟩:=jt_.mp h
  have hv:=C6 hL k'
  refine⟨hv,?_⟩
  have h1:=(EL hL hv (m+1)).mpr (by
   rw[Ef]
   have:=jF_.mp dR
   show (k':Int)<many L (m+2)
   lia)
  lia
 ·rintro⟨hv,hl⟩
  have h1:=(EL hL hv (m+1)).mp s!""
  obtain⟨k',dR⟩:∃k':Nat,Au L v=(k':Int):=⟨(Au L v).toNat,by have:=Lc hL hv;lia⟩
  refine jt_.mpr ⟨k',jF_.mpr ?_,?_⟩
  ·have:(k':Int)<many L (m+2):=by rw[<-dR];exact h1
   lia
  ·exact Qd hL (C6 hL k') hv (by rw[Ef,dR])
def LN    (cq:Can L ms vs)  (hr:r<ms.length):((r:Int),wayW vs r)∈Aw vs/\isW L (wayW vs r)=true/\AB vs (wayW vs r)=(r:Int)/\(wayW vs r).length<=40:=by
 obtain⟨top,bf⟩:=Bfs.mk cq.wf
 have hord:=cq.order
 unfold rOf at hord
 have bN:((r:Int),wayW vs r)∈Aw vs:=by
  have:(r:Int)∈(Aw vs).map (·.1):=by rw[hord];exact jt_.mpr ⟨r,jF_.mpr hr,rfl⟩
  obtain⟨e,he,e1⟩:=jt_.mp this
  obtain⟨g,w⟩:=e
  have e1:g=(r:Int):=e1
  subst e1
  rw[MO bf.nod he]
  exact he
 have jm:=bf.wd _ bN
 obtain⟨j,hj⟩:=jG_.mp bN
 have h1:=bf.sh j _ hj
 have h2:=(jb_.mp hj).1
 have h3:=bf.len
 have h4:=cq.wf.n40
 exact⟨bN,jm.1,jm.2,by dsimp only at h1;lia⟩
def LO {α:Type}{p q:α->Bool}:∀{l:List α},(∀x∈l,p x=true->q x=true)->(∃x∈l,q x=true/\p x=false)->l.countP p<l.countP q
 |[],_,⟨x,hx,_⟩=>by cases hx
 |a::l,h,⟨x,hx,h1,h2⟩=>by
  have hm:l.countP p<=l.countP q:=List.countP_mono_left fun y hy=>h y (jl_ _ hy)
  rw[ug,ug]
  rcases jB_.mp hx with rfl|hx
  ·rw[h1,h2];simp;lia
  ·have:=LO (l:=l) (fun y hy=>h y (jl_ _ hy)) ⟨x,hx,h1,h2⟩
   have ha:=h a jn_
   by_cases pa:p a=true
   ·rw[pa,ha pa];simp;lia
   ·have:p a=false:=by simpa using pa
    rw[this]
    have:0<=(if q a=true then 1 else 0):=jX_ _
    simp only[jY_,xb_];lia
def NU {α:Type}[DecidableEq α]:∀{l m:List α},l.Nodup->(∀x∈l,x∈m)->l.length<=m.length
 |[],m,_,_=>jX_ _
 |a::l,m,hn,hs=>by
  have fQ:=qD_.mp hn
  have h1:=NU (l:=l) (m:=m.erase a) fQ.2 fun x hx=>by
   have:x≠a:=fun z=>fQ.1 (z ▸ hx)
   exact (xg_ this).mpr (hs x (jl_ _ hx))
  have h2:=qV_ (hs a jn_)
  have h3:=qB_ (hs a jn_)
  rw[jT_];lia
def IH {f:Nat->Nat}{n:Nat}(h:∀i j,i<n->j<n->f i=f j->i=j):((qV n).map f).Nodup:=by
 rw[List.nodup_iff_pairwise_ne,xj_]
 refine (List.nodup_iff_pairwise_ne.mp zz_).imp_of_mem fun {a b} ha hb cm z=>cm (h a b (jF_.mp ha) (jF_.mp hb) z)
def BN   (hu:isW L u=true)(hv:isW L v=true):isW L (u++v)=true:=by
 rw[Ay]at hu hv ⊢
 intro x hx
 rcases jw_.mp hx with hx|hx
 ·exact hu x hx
 ·exact hv x hx
section
variable {L n m:Nat} {ms mr:α2} {vs wr:α1} {ai:Nat->α2} {E:Nat->α1}
structure Asked (L n m:Nat)(ms mr:α2)(vs wr:α1)(ai:Nat->α2)(E:Nat->α1):Prop where
 hn:n=ms.length
 w1:Wf L ms vs
 w2:Wf L mr wr
 sz:mr.length<=n+m
 acW:∀r,r<n->isW L (ai r)=true/\AB vs (ai r)=(r:Int)
 ac0:ai 0=[]
 eW:∀r,r<n->∀e∈E r,isW L e=true
 e0:∀r,r<n->[]∈E r
 sep:∀r s,r<n->s<n->r≠s->∃e,e∈E r/\e∈E s/\mkR ms (Bu vs r e)≠mkR ms (Bu vs s e)
 agr:∀r,r<n->∀v,isW L v=true->v.length<=m+1->∀e∈E (AB vs (ai r++v)).toNat,mkR ms (AB vs (ai r++v++e))=mkR mr (AB wr (ai r++v++e))
def LP (ae:α1)(u v:α2):AB ae (u++v)=Bu ae (AB ae u) v:=by unfold Bu AB;rw[qu_]
def Asked.fwd (A:Asked L n m ms mr vs wr ai E)   (hr:r<n)(bA:r'<n)(hv:isW L v=true)(m9:isW L v'=true)(l:v.length<=m+1)(l':v'.length<=m+1)(e:AB wr (ai r++v)=AB wr (ai r'++v')):AB vs (ai r++v)=AB vs (ai r'++v'):=by
 refine j1_ fun ay=>?_
 have h1:=L2.Wf.walk' A.w1 (BN (A.acW r hr).1 hv)
 have h2:=L2.Wf.walk' A.w1 (BN (A.acW r' bA).1 m9)
 have hn:=A.hn
 obtain⟨x,ha,hb,hd⟩:=A.sep (AB vs (ai r++v)).toNat (AB vs (ai r'++v')).toNat s!"" s!"" s!""
 have g1:=A.agr r hr v hv l x ha
 have g2:=A.agr r' bA v' m9 l' x hb
 rw[LP vs,LP wr]at g1 g2
 rw[xK_ h1.1,xK_ h2.1,g1,g2,e]at hd
 exact hd rfl
def D5 (L n:Nat)(wr:α1)(ai:Nat->α2)(k q:Nat):Prop:=∃r,r<n/\∃v,isW L v=true/\v.length<=k/\AB wr (ai r++v)=(q:Int)
def GF (A:Asked L n m ms mr vs wr ai E){k:Nat}(h:∀q,D5 L n wr ai (k+1) q->D5 L n wr ai k q):∀j q,D5 L n wr ai (k+j) q->D5 L n wr ai k q
 |0,q,g=>g
 |j+1,q,⟨r,hr,v,hv,hl,e⟩=>by
  by_cases au:v.length<=k+j
  ·exact GF A h j q ⟨r,hr,v,hv,au,e⟩
  ·have ay:v ≠ []:=fun z=>by subst z;simp at au
   have ev:=(List.dropLast_concat_getLast ay).symm
   have hvv:=Ay.mp hv
   have hd:isW L v.dropLast=true:=Ay.mpr fun x hx=>hvv x (List.dropLast_subset _ hx)
   have hx:=hvv _ (List.getLast_mem ay)
   have w1:=L2.Wf.walk' A.w2 (BN (A.acW r hr).1 hd)
   obtain⟨r2,di,v2,nZ,bS,e2⟩:=GF A h j (AB wr (ai r++v.dropLast)).toNat ⟨r,hr,v.dropLast,hd,by rw[List.length_dropLast];lia,by lia⟩
   refine h q ⟨r2,di,v2++[v.getLast ay],BN nZ (Ay.mpr fun x eX=>by rw[jq_.mp eX];exact hx),by rw[jk_];simpa using bS,?_⟩
   rw[<-e]
   conv=>rhs;rw[ev]
   rw[<-qc_,<-qc_,BG,BG,e2,xK_ w1.1]
open Classical in
def LQ (A:Asked L n m ms mr vs wr ai E):∀q,D5 L n wr ai (m+1) q->D5 L n wr ai m q:=by
 refine j1_ fun dq=>?_
 have up:∀k q,D5 L n wr ai k q->D5 L n wr ai (k+1) q:=fun k q ⟨r,hr,v,hv,hl,e⟩=>⟨r,hr,v,hv,by lia,e⟩
 have lt:∀k q,D5 L n wr ai k q->q<mr.length:=fun k q ⟨r,hr,v,hv,hl,e⟩=>by
  have:=L2.Wf.walk' A.w2 (BN (A.acW r hr).1 hv)
  lia
 have iG:∀k,k<=m+1->n+k<=(qV mr.length).countP (fun q=>decide (D5 L n wr ai k q)):=by
  intro k
  induction k with
  |zero=>
   intro _
   rw[List.countP_eq_length_filter]
   have:=NU (l:=(qV n).map fun r=>(AB wr (ai r)).toNat) (m:=(qV mr.length).filter fun q=>decide (D5 L n wr ai 0 q)) (IH fun i j hi hj e=>?_) (fun x hx=>?_)
   ·rw[ja_,qd_]at this
    lia
   ·have wi:=L2.Wf.walk' A.w2 (A.acW i hi).1
    have wj:=L2.Wf.walk' A.w2 (A.acW j hj).1
    have:=A.fwd (v:=[]) (v':=[]) hi hj rfl rfl (by simp) (by simp) (by rw[qg_,qg_];lia)
    rw[qg_,qg_,(A.acW i hi).2,(A.acW j hj).2]at this
    lia
   ·obtain⟨r,hr,rfl⟩:=jt_.mp hx
    have hr:=jF_.mp hr
    have wi:=L2.Wf.walk' A.w2 (A.acW r hr).1
    refine xk_.mpr ⟨jF_.mpr s!"",j4_ ⟨r,hr,[],rfl,jg_ _,by rw[qg_];lia⟩⟩
  |succ k ih=>
   intro hk
   have h1:=ih s!""
   have hex:∃q,D5 L n wr ai (k+1) q/\¬ D5 L n wr ai k q:=by
    refine j1_ fun hh=>dq ?_
    have st:∀q,D5 L n wr ai (k+1) q->D5 L n wr ai k q:=fun q g=>j1_ fun z=>hh ⟨q,g,z⟩
    intro q g
    have e:m+1=k+(m+1-k):=by lia
    rw[e]at g
    obtain⟨r,hr,v,hv,hl,e⟩:=GF A st _ q g
    exact⟨r,hr,v,hv,by lia,e⟩
   obtain⟨q,g1,g2⟩:=hex
   have h2:=LO (l:=qV mr.length) (p:=fun q=>decide (D5 L n wr ai k q)) (q:=fun q=>decide (D5 L n wr ai (k+1) q)) (fun x _ hx=>j4_ (up k x (qv_ hx))) ⟨q,jF_.mpr (lt _ q g1),j4_ g1,j9_ g2⟩
   lia
 have h1:=iG (m+1) (jg_ _)
 have h2:=List.countP_le_length (l:=qV mr.length) (p:=fun q=>decide (D5 L n wr ai (m+1) q))
 rw[qd_]at h2
 have:=A.sz
 lia
def Asked.all (A:Asked L n m ms mr vs wr ai E):∀w,isW L w=true->mkR ms (AB vs w)=mkR mr (AB wr w):=by
 have hn:=A.hn
 have n1:=A.w1.n1
 have key:∀w:α2,isW L w.reverse=true->∃r,r<n/\∃v,isW L v=true/\v.length<=m/\AB wr w.reverse=AB wr (ai r++v)/\AB vs w.reverse=AB vs (ai r++v):=by
  intro w
  induction w with
  |nil=>exact fun _=>⟨0,by lia,[],rfl,jX_ _,by rw[A.ac0];rfl,by rw[A.ac0];rfl⟩
  |cons x w ih=>
   intro hw
   rw[tM]at hw ⊢
   have dE:isW L w.reverse=true:=Ay.mpr fun y hy=>Ay.mp hw y (j2_ _ hy)
   have hx:isW L [x]=true:=Ay.mpr fun y hy=>Ay.mp hw y (jy_ _ hy)
   obtain⟨r,hr,v,hv,hl,e1,e2⟩:=ih dE
   have qy:=BN hv hx
   have w1:=L2.Wf.walk' A.w2 (BN (A.acW r hr).1 qy)
   obtain⟨r2,di,v2,nZ,bS,e3⟩:=LQ A (AB wr (ai r++(v++[x]))).toNat ⟨r,hr,v++[x],qy,by rw[jk_];simpa using hl,by lia⟩
   have e4:AB wr (ai r++(v++[x]))=AB wr (ai r2++v2):=by rw[e3];lia
   refine⟨r2,di,v2,nZ,bS,?_,?_⟩
   ·rw[<-e4,BG,e1,<-qc_,BG]
   ·rw[<-A.fwd hr di qy nZ (by rw[jk_];simpa using hl) s!"" e4,BG,e2,<-qc_,BG]
 intro w hw
 obtain⟨r,hr,v,hv,hl,e1,e2⟩:=key w.reverse (by rw[q0_];exact hw)
 rw[q0_]at e1 e2
 rw[e1,e2]
 have h1:=L2.Wf.walk' A.w1 (BN (A.acW r hr).1 hv)
 have:=A.agr r hr v hv s!"" [] (A.e0 _ s!"")
 rw[qg_]at this
 exact this
end
def Q6 {kvs:List (List Key×V)}{ws:α1}(h:EV (ws.foldl ins []) kvs){w:α2}:(valV kvs (wkey w)).isSome=decide (w∈ws):=by
 rw[h.some_iff w]
 exact decide_eq_decide.mpr Ex
def S1 {L:Nat}{aa:α2}{ae:α1}{m:Nat}(wf:Wf L aa ae){w:α2}(h:w∈KG L aa ae m):w∈Fb L aa ae m:=by
 have aQ:=sWf wf
 have fin:=Fin17.mk' (b:=bW (sM L aa ae) (sW L aa ae)) (L:=L) aQ.n1 aQ.n40
 unfold KG at h
 unfold Fb
 rw[KL]at h ⊢
 obtain⟨r,hr,v,hv,e,he,rfl⟩:=h
 refine⟨r,hr,v,hv,e,?_,rfl⟩
 unfold ownW at he
 rcases jB_.mp he with rfl|he
 ·exact jc_ fin.wc.w0
 ·exact KD he
def S2     (hr:r<n)(hs:s<n)  (he:ws.find? (fun v=>decide (b v s≠b v r))=some e):e∈ownW n b ws r/\e∈ownW n b ws s:=by
 unfold ownW
 refine⟨jl_ _ ((Hy ws _).mpr ⟨s,jF_.mpr hs,he⟩),jl_ _ ((Hy ws _).mpr ⟨r,jF_.mpr hr,?_⟩)⟩
 rw[<-he]
 congr 1
 exact funext fun v=>decide_eq_decide.mpr ⟨qn_,qn_⟩
def Ul    (cq:Can L ms vs)  (hr:r<ms.length)(hs:s<ms.length)(ay:r≠s):∃e,(wcOf ms.length L (bW ms vs)).1.find? (fun v=>decide (bW ms vs v s≠bW ms vs v r))=some e/\isW L e=true/\bW ms vs e s≠bW ms vs e r/\e∈(wcOf ms.length L (bW ms vs)).1:=by
 have fin:=Fin17.mk' (b:=bW ms vs) (L:=L) cq.wf.n1 cq.wf.n40
 cases hf:(wcOf ms.length L (bW ms vs)).1.find? (fun v=>decide (bW ms vs v s≠bW ms vs v r)) with
 |some e=>
  have hm:=q7_ hf
  have hd:=zP_ hf
  exact⟨e,rfl,Ay.mpr (fin.wc.ok e hm),qv_ hd,hm⟩
 |none=>
  refine absurd ?_ ay
  have aB:=xt_.mp hf
  have hc:=(fin.wc.iff r s hr hs).mpr fun w hw=>by
   have:=aB w hw
   exact (j1_ fun z=>this (j4_ (qn_ z)))
  have cu:cf (wcOf ms.length L (bW ms vs)).2 r=cf (wcOf ms.length L (bW ms vs)).2 s:=by
   have e1:=Lo (c:=(wcOf ms.length L (bW ms vs)).2) fin.wc.len (r:=(r:Int)) s!"" s!""
   have e2:=Lo (c:=(wcOf ms.length L (bW ms vs)).2) fin.wc.len (r:=(s:Int)) s!"" s!""
   rw[ji_]at e1 e2
   rw[e1,e2]at hc
   exact jr_ hc
  exact cq.red r s hr hs fun w hw=>Mp cq.wf fin w hw s!"" s!"" s!"" s!"" cu
def NV     (hn:n<=40)(hm:c9.length<=341)(hE:∀r<n,∀v∈c9,(E (AB ae (wayW ae r++v)).toNat).length<=40):(allW ae n c9 E).length<=545600:=by
 unfold allW
 have h1:=F6 (f:=fun r=>c9.flatMap (oneW ae E r)) (c:=13640) (qV n) (fun r hr=>by
  have h2:=F6 (f:=oneW ae E r) (c:=40) c9 (fun v hv=>by unfold oneW;rw[ja_];exact hE r (jF_.mp hr) v hv)
  lia)
 rw[qd_]at h1
 have h2:n*13640<=40*13640:=sL _ s!""
 lia
def NW   (h:many L (m+2)<=341):(Dk L m).length<=341:=by
 rw[ja_,qd_];lia
def OS {L:Nat}{aa:α2}{ae:α1}{m:Nat}(wf:Wf L aa ae)(h:many L (m+2)<=341):(Fb L aa ae m).length<=545600:=by
 have aQ:=sWf wf
 have fin:=Fin17.mk' (b:=bW (sM L aa ae) (sW L aa ae)) (L:=L) aQ.n1 aQ.n40
 unfold Fb
 refine NV aQ.n40 (NW h) fun r hr v hv=>?_
 have h1:=fin.wc.le
 have h2:=GN (wcOf (sM L aa ae).length L (bW (sM L aa ae) (sW L aa ae))).2
 rw[fin.wc.len]at h2
 have:=aQ.n40
 lia
def Rv {L:Nat}{aa:α2}{ae:α1}{m:Nat}(wf:Wf L aa ae)(h:many L (m+2)<=341):(KG L aa ae m).length<=545600:=by
 have aQ:=sWf wf
 have cq:=sCan wf
 unfold KG
 refine NV aQ.n40 (NW h) fun r hr v hv=>?_
 have hv:=(KN (by have:=wf.l1;lia)).mp hv
 have hw:=L2.Wf.walk' aQ (BN (LN cq hr).2.1 hv.1)
 have h3:=Hz (b:=bW (sM L aa ae) (sW L aa ae)) (r:=(AB (sW L aa ae) (wayW (sW L aa ae) r++v)).toNat) (wcOf (sM L aa ae).length L (bW (sM L aa ae) (sW L aa ae))).1 (qV (sM L aa ae).length) (jF_.mpr s!"")
 rw[qd_]at h3
 unfold ownW
 rw[jT_]
 have:=aQ.n40
 lia
def JH (K:α3):Sp:=fun vs H Q _=>∃(h:Addr) (L:Int) (aa:α2) (ae:α1),vs=[.ref h]/\AZ K H h L aa ae/\Wf L aa ae/\∀p H',Same H H'->H p=none->H' p=some (.lst (((Aw ae).map (·.1)).map V.int))->Q (.ref p) H'
def Hd   (F:Fun K "_law_order_of" "_law_order_of" B5 f fd)(T:Txt mg)
  : nofun 1 f fd ["house"] (JH K):=by
 delta Bd
 ·obtain⟨h,L,aa,ae,rfl,_⟩:=h;rfl
 ·obtain⟨h,L,aa,ae,rfl,hh,wf,k⟩:=h
  have hl:=Ar
  have cV:=wf.l1
  have b8:=wf.n1
  have aO:=wf.n40
  refine⟨_,(Ac (Ak (i:=1) Bd.nd (Bp (Aa Ae Ad)))
   (Ac (Ak (i:=2) Bd.nd Ae)
   (Ac (Dp jJ_ (ptT (As (opD0 HE) (pvD 2) (Aq (lenD Aj) (by rfl) T.len jI_ (Aa (pvD 1) Ad)) (AI _)))
   (Ac (Ak (i:=3) Bd.nd (Ag (ixTD Ao) (Ag (ixTD Ao) (pvD 0) Ae) (Ag (ixLD AX) (pvD 1) (pvD 2))))
   (Ac (Bs jJ_ rfl (E3 (pvD 3)) (Am (i:=4) Bd.nd rfl (qY rfl))
   (Af (BI (ptT (As GI (pvD 4) (pvD 1) rfl))
   (Af (Bc (C5 jD_ jM_ jN_ AS (pvD 1) (Aa (pvD 4) Ad))))
   AK)))
   (Af (Ak (i:=2) Bd.nd (An (opD0 AY) (pvD 2) Ae))))))
   (Af (AH (pvD 1)))))),?_⟩
  nofun
  refine⟨by lia,fun p2 aN=>?_⟩
  have s0:Same H (upd H p2 (.lst [V.int 0])):=Same.new aN
  have dh:upd H p2 (.lst [V.int 0]) p2=some (.lst ((([(0,[])]:List (Int×α2)).map (·.1)).map V.int)):=Ab
  generalize upd H p2 (.lst [V.int 0])=H0 at s0 dh ⊢
  obtain⟨Pv,ar⟩:∃Pv:Nat->St->Hp->Prop,∀m aj H2,Pv m aj H2↔(∃(ents:List (Int×α2)) (i:Nat) (top:Int) (o4 o5:Option V),m=aa.length+1-i/\Same H H2/\H2 p2=some (.lst ((ents.map (·.1)).map V.int))/\Bfs L aa.length ae ents i top/\(∀e,ents[i]?=some e->top<=Au L e.2*L+1)/\bfs ae (aa.length+1-i) ents i=Aw ae/\aj=[some (.ref h),some (.ref p2),some (.int i),o4,o5]):=⟨_,fun _ _ _=>qk_⟩
  refine HS Pv ⟨_,(ar _ _ _).mpr ⟨[(0,[])],0,1,none,none,rfl,s0,dh,Bfs.start L b8 ae,fun e he=>?_,by unfold Aw;rw[wf.len];rfl,rfl⟩⟩ ?_
  ·simp at he;subst he;simp[Au,AU]
  intro m aj H2 dF
  obtain⟨ents,i,top,o4,o5,rfl,s2,di,bf,gw,bC,rfl⟩:=(ar _ _ _).mp dF
  have pS:=bf.len
  nofun
  refine⟨_,.inl (SqL.of di),?_⟩
  rw[ja_,ja_]
  refine ite2 (fun au=>?_) (fun bu=>?_)
  ·have hi:i<ents.length:=by lia
   obtain⟨e,he⟩:∃e,ents[i]?=some e:=⟨ents[i],by simp[hi]⟩
   obtain⟨r,w⟩:=e
   have a6:=jc_ he
   have bA:=bf.rng _ a6
   have htop':top<=Au L w*L+1:=gw _ he
   obtain⟨row,hrow,eE,cG⟩:=wf.row bA.1 bA.2
   have mD:ae.getD r.toNat []=row:=by rw[jj_,hrow];rfl
   obtain⟨mm,wv,q1,q2,q3⟩:=id hh
   obtain⟨xs,t,z1,z2,z3⟩:=q3.atZ bA.1 hrow
   refine⟨Pv (aa.length+1-(i+1)),fun ag H' h=>⟨_,by lia,h⟩,?_⟩
   refine⟨_,s2.seqT q1,_,rfl,_,SqL.of di,_,A7 (v:=r) s!"" (by rw[ji_,je_,he];rfl),_,rfl,_,_,rfl,s2.seqT z1,_,z2,_,rfl,⟨_,s2.seqT z3⟩,?_⟩
   obtain⟨Pn,bU⟩:∃Pn:Nat->St->Hp->Prop,∀x aC H3,Pn x aC H3↔(∃(aq:List (Int×α2)) (o5:Option V),Same H H3/\H3 p2=some (.lst ((aq.map (·.1)).map V.int))/\Bfs L aa.length ae aq i (Au L w*L+(x:Int)+1)/\Seen L ae aq r w x/\aq[i]?=some (r,w)/\CU w aq x (row.drop x)=CU w ents 0 row/\aC=[some (.ref h),some (.ref p2),some (.int i),some (.ref t),o5]):=⟨_,fun _ _ _=>qk_⟩
   refine forT (xs:=row.map V.int) Pn ((bU _ _ _).mpr ⟨ents,o5,s2,di,bf.up (by push_cast;lia),(fun y h0 h1=>absurd h1 (by push_cast;lia)),he,rfl,rfl⟩) (fun x aC H3 _ h3=>?_) (fun x v aC H3 hx h3=>?_) (fun aC H3 h3=>?_)
   ·obtain⟨aq,_,s3,_⟩:=(bU _ _ _).mp h3
    exact s3.seqT z3
   ·obtain⟨aq,o5,s3,cH,cI,fj,dU,bF,rfl⟩:=(bU _ _ _).mp h3
    obtain⟨g,hg,rfl⟩:=Ck hx
    have bO:=(jb_.mp hg).1
    have jO:=(wf.rows row eE).2 g (jc_ hg)
    have pT:g=Bm ae r (x:Int):=(BF hrow (by rw[ji_];exact hg)).symm
    have cJ:=jc_ dU
    have gy:row.drop x=g::row.drop (x+1):=by
     rw[q8_ bO]
     congr 1
     exact (jb_.mp hg).2
    obtain⟨cK,eF⟩:=cI.letter s!"" fj cJ s!"" pT jO
    have eG:=Fl (g:=g) (v:=w++[(x:Int)]) dU
    rw[gy,Fj]at bF
    nofun
    refine⟨_,.inl (SqL.of cH),rfl,HW _,?_⟩
    rw[Nq]
    by_cases hm:g∈aq.map (·.1)
    ·rw[if_pos hm]at cK eF eG bF
     rw[j4_ hm,if_neg (by simp)]
     exact (bU _ _ _).mpr ⟨aq,_,s3,cH,cK,eF,eG,bF,rfl⟩
    ·rw[if_neg hm]at cK eF eG bF
     rw[j9_ hm,if_pos (by simp)]
     refine⟨.inl ⟨rfl,_,SqL.of cH⟩,_,cH,by have:=cI.len;simp;lia,(bU _ _ _).mpr ⟨aq++[(g,w++[(x:Int)])],_,s3.over aN,by rw[Ab];simp,cK,eF,eG,bF,rfl⟩⟩
   ·obtain⟨aq,o5,s3,cH,cI,fj,dU,bF,rfl⟩:=(bU _ _ _).mp h3
    rw[ja_]at cI fj bF
    rw[ud,Ge]at bF
    nofun
    obtain⟨cK,du⟩:=cI.next s!"" cG fj dU
    refine (ar _ _ _).mpr ⟨aq,i+1,_,_,_,rfl,s3,cH,cK,du,?_,by push_cast;rfl⟩
    rw[show aa.length+1-i=(aa.length+1-(i+1))+1 by lia,J5 he]at bC
    rw[bF,<-mD]
    exact bC
  ·have hi:i=ents.length:=by have:=bf.il;lia
   subst hi
   rw[J4 (by simp)]at bC
   nofun
   rw[<-bC]at k
   exact k p2 H2 s2 aN di
def GU {α:Type}[DecidableEq α]{l k:List α}(h:l.Nodup)(hs:∀x∈l,x∈k):l.length<=k.length:=by
 induction l generalizing k with
 |nil=>simp
 |cons a l ih=>
  rw[qD_]at h
  have ha:=hs a jn_
  have h1:∀x∈l,x∈k.erase a:=fun x hx=>by
   refine (xg_ ?_).mpr (hs x (jl_ _ hx))
   intro z;subst z;exact h.1 hx
  have:=ih h.2 h1
  rw[qV_ ha]at this
  have hp:=qB_ ha
  rw[jT_];lia
section
variable {rs:α2} {E:Nat->Int->Int->Prop}
def Rw (rs:α2)(E:Nat->Int->Int->Prop)(k i:Nat):Prop:=∀a,rs[i]?=some a->∀j b,j<i->rs[j]?=some b->¬ E k b a
open Classical in
noncomputable def Ey (rs:α2)(E:Nat->Int->Int->Prop)(k:Nat):List Nat:=(qV rs.length).filter fun i=>decide (Rw rs E k i)
open Classical in
def Cy {k i:Nat}:i∈Ey rs E k↔i<rs.length/\Rw rs E k i:=by
 unfold Ey
 rw[xk_,jF_,ql_]
def II (k:Nat):(Ey rs E k).Nodup:=zz_.filter _
def NX (rf:∀k a,E k a a)(sy:∀k a b,E k a b->E k b a)(tr:∀k a b c,E k a b->E k b c->E k a c)(k:Nat):∀(n i:Nat) (a:Int),i<=n->rs[i]?=some a->∃j b,rs[j]?=some b/\E k b a/\Rw rs E k j:=by
 intro n
 induction n with
 |zero=>
  intro i a hi ha
  have:i=0:=by lia
  subst this
  exact⟨0,a,ha,rf k a,fun a' _ j b hj=>absurd hj (qP_ _)⟩
 |succ n ih=>
  intro i a hi ha
  by_cases h:Rw rs E k i
  ·exact⟨i,a,ha,rf k a,h⟩
  ·unfold Rw at h
   simp only[sN]at h
   obtain⟨a',e',j,b,hj,hb,hE⟩:=h
   rw[ha]at e'
   cases e'
   have hE:E k b a:=Classical.not_not.mp hE
   obtain⟨j',b',h1,h2,h3⟩:=ih j b s!"" hb
   exact⟨j',b',h1,tr k _ _ _ h2 hE,h3⟩
def Xa (rf:∀k a,E k a a)(sy:∀k a b,E k a b->E k b a)(tr:∀k a b c,E k a b->E k b c->E k a c)(mo:∀k a b,E (k+1) a b->E k a b)   (ha:a∈rs)(hb:b∈rs)(h:E k a b)(hn:¬ E (k+1) a b):(Ey rs E k).length+1<=(Ey rs E (k+1)).length:=by
 have sub:∀i∈Ey rs E k,i∈Ey rs E (k+1):=fun i hi=>by
  obtain⟨h1,h2⟩:=Cy.mp hi
  exact Cy.mpr ⟨h1,fun a ha j b hj hb hE=>h2 a ha j b hj hb (mo k _ _ hE)⟩
 obtain⟨i,hi,hni⟩:∃i,i∈Ey rs E (k+1)/\i∉Ey rs E k:=by
  refine j1_ fun hc=>hn ?_
  have aB:∀i,i∈Ey rs E (k+1)->i∈Ey rs E k:=fun i hi=>j1_ fun z=>hc ⟨i,hi,z⟩
  obtain⟨ia,hia⟩:=jG_.mp ha
  obtain⟨ib,hib⟩:=jG_.mp hb
  obtain⟨j1,c1,p1,p2,p3⟩:=NX (rs:=rs) rf sy tr (k+1) ia ia a (jg_ _) hia
  obtain⟨j2,c2,r1,r2,r3⟩:=NX (rs:=rs) rf sy tr (k+1) ib ib b (jg_ _) hib
  have g1:=(Cy.mp (aB j1 (Cy.mpr ⟨(jb_.mp p1).1,p3⟩))).2
  have g2:=(Cy.mp (aB j2 (Cy.mpr ⟨(jb_.mp r1).1,r3⟩))).2
  have nh:E k c1 c2:=tr k _ _ _ (mo k _ _ p2) (tr k _ _ _ h (sy k _ _ (mo k _ _ r2)))
  have ej:j1=j2:=by
   refine j1_ fun ay=>?_
   rcases Nat.lt_or_gt_of_ne ay with au|au
   ·exact g2 c2 r1 j1 c1 au p1 nh
   ·exact g1 c1 p1 j2 c2 au r1 (sy k _ _ nh)
  subst ej
  rw[p1]at r1
  cases r1
  exact tr _ _ _ _ (sy _ _ _ p2) r2
 have:=GU (l:=i::Ey rs E k) (k:=Ey rs E (k+1)) (by rw[qD_];exact⟨hni,II k⟩) fun y hy=>by
  rcases jB_.mp hy with rfl|hy
  ·exact hi
  ·exact sub y hy
 simpa using this
def Xb (rf:∀k a,E k a a)(sy:∀k a b,E k a b->E k b a)(tr:∀k a b c,E k a b->E k b c->E k a c)(mo:∀k a b,E (k+1) a b->E k a b)(st:∀k,(∀a∈rs,∀b∈rs,E k a b->E (k+1) a b)->∀a∈rs,∀b∈rs,E (k+1) a b->E (k+2) a b)(h0:0<rs.length)  (ha:a∈rs)(hb:b∈rs)(h:E rs.length a b)(j:Nat):E j a b:=by
 have key:∀k,(∃k',k'<k/\∀a∈rs,∀b∈rs,E k' a b->E (k'+1) a b)\/k+1<=(Ey rs E k).length:=by
  intro k
  induction k with
  |zero=>
   right
   have:0∈Ey rs E 0:=Cy.mpr ⟨h0,fun a _ j b hj=>absurd hj (qP_ _)⟩
   exact qB_ this
  |succ k ih=>
   rcases ih with ⟨k',h1,h2⟩|ih
   ·exact .inl ⟨k',by lia,h2⟩
   ·by_cases hs:∀a∈rs,∀b∈rs,E k a b->E (k+1) a b
    ·exact .inl ⟨k,by lia,hs⟩
    ·simp only[sN]at hs
     obtain⟨a,ha,b,hb,h1,h2⟩:=hs
     right
     have:=Xa rf sy tr mo ha hb h1 h2
     lia
 have aS:(Ey rs E rs.length).length<=rs.length:=by
  have:=GU (l:=Ey rs E rs.length) (k:=qV rs.length) (II _) fun i hi=>jF_.mpr (Cy.mp hi).1
  simpa using this
 rcases key rs.length with ⟨k',h1,h2⟩|h1
 ·have up:∀d,∀a∈rs,∀b∈rs,E (k'+d) a b->E (k'+d+1) a b:=by
   intro d
   induction d with
   |zero=>exact h2
   |succ d ih=>exact st _ ih
  have far:∀d,E (rs.length+d) a b:=by
   intro d
   induction d with
   |zero=>exact h
   |succ d ih=>
    have:=up (rs.length+d-k') a ha b hb (by rw[show k'+(rs.length+d-k')=rs.length+d by lia];exact ih)
    rw[show k'+(rs.length+d-k')+1=rs.length+(d+1) by lia]at this
    exact this
  have down:∀d i,E (i+d) a b->E i a b:=by
   intro d
   induction d with
   |zero=>exact fun i h=>h
   |succ d ih=>exact fun i h=>ih i (mo _ _ _ h)
  exact down rs.length j (by rw[vo];exact far j)
 ·lia
end
def GG (L:Int)(aa:α2)(ae:α1)(k:Nat)(a b:Int):Prop:=∀v,isW L v=true->v.length<=k->mkW aa (Bu ae a v)=mkW aa (Bu ae b v)
def GG.succ      : GG L aa ae (k+1) a b↔GG L aa ae k a b/\∀x:Int,0<=x->x<L->GG L aa ae k (Bm ae a x) (Bm ae b x):=by
 constructor
 ·intro h
  refine⟨fun v hv hl=>h v hv s!"",fun x x0 x1 v hv hl=>?_⟩
  have:=h (x::v) (Ay.mpr fun y hy=>by
   rcases jB_.mp hy with rfl|hy
   ·exact⟨x0,x1⟩
   ·exact Ay.mp hv y hy) (by rw[jT_];lia)
  rw[A2,A2]at this
  exact this
 ·rintro⟨h1,h2⟩ v hv hl
  cases v with
  |nil=>exact h1 [] hv (by simp)
  |cons x v=>
   have hx:=Ay.mp hv x jn_
   rw[A2,A2]
   exact h2 x hx.1 hx.2 v (Ay.mpr fun y hy=>Ay.mp hv y (jl_ _ hy)) (by rw[jT_]at hl;lia)
def GG.all {L:Int}{aa:α2}{ae:α1}{rs:α2}(hz:0∈rs)(cl:∀r∈rs,∀x:Int,0<=x->x<L->Bm ae r x∈rs){a b:Int}(ha:a∈rs)(hb:b∈rs)(h:GG L aa ae rs.length a b):∀v,isW L v=true->mkW aa (Bu ae a v)=mkW aa (Bu ae b v):=fun v hv=>
 Xb (rs:=rs) (E:=GG L aa ae) (fun _ _ _ _ _=>rfl) (fun _ _ _ h v hv hl=>(h v hv hl).symm) (fun _ _ _ _ h g v hv hl=>(h v hv hl).trans (g v hv hl)) (fun _ _ _ h=>(GG.succ.mp h).1) (fun k hs a ha b hb h=>by
  obtain⟨h1,h2⟩:=GG.succ.mp h
  exact GG.succ.mpr ⟨h,fun x x0 x1=>hs _ (cl a ha x x0 x1) _ (cl b hb x x0 x1) (h2 x x0 x1)⟩) (qB_ hz) ha hb h v.length v hv (jg_ _)
def ln41 (names:α2)(ae:α1)(r:Nat):α2:=names.getD r 0::(ae.getD r []).map fun a=>names.getD a.toNat 0
def C1 (L:Int)(aa:α2)(ae:α1)(k:Nat)(names:α2):Prop:=names.length=aa.length/\∀a b:Nat,a<aa.length->b<aa.length->(names.getD a 0=names.getD b 0↔GG L aa ae k a b)
def C1.more    (wf:Wf L aa ae)   (h:C1 L aa ae k names)(hl:d6.length=aa.length)(he:∀a b:Nat,a<aa.length->b<aa.length->(d6.getD a 0=d6.getD b 0↔ln41 names ae a=ln41 names ae b)):C1 L aa ae (k+1) d6:=by
 refine⟨hl,fun a b ha hb=>?_⟩
 rw[he a b ha hb,GG.succ]
 obtain⟨ra,kB,ra2,ra3⟩:=wf.row (r:=(a:Int)) s!"" s!""
 obtain⟨rb,kC,rb2,rb3⟩:=wf.row (r:=(b:Int)) s!"" s!""
 rw[ji_]at kB kC
 have ga:ae.getD a []=ra:=by rw[jj_,kB];rfl
 have gb:ae.getD b []=rb:=by rw[jj_,kC];rfl
 have st:∀(c:Nat) (rc:α2),ae[c]?=some rc->rc∈ae->∀x:Nat,(x:Int)<L->∃g:Nat,rc[x]?=some (g:Int)/\g<aa.length/\Bm ae c x=g:=fun c rc h1 h2 x hx=>by
  have h3:=wf.rows rc h2
  have bO:x<rc.length:=by lia
  have h4:=h3.2 rc[x] (j3_ _)
  refine⟨rc[x].toNat,by rw[jh_ bO];congr 1;lia,by lia,?_⟩
  rw[BF (row:=rc) (g:=rc[x]) (by rw[ji_];exact h1) (by rw[ji_];exact jh_ bO)]
  lia
 unfold ln41
 rw[ga,gb,xG_,h.2 a b ha hb]
 refine and_congr qk_ ?_
 constructor
 ·intro e x x0 x1
  obtain⟨xn,rfl⟩:∃xn:Nat,x=(xn:Int):=⟨x.toNat,by lia⟩
  obtain⟨g,g1,g2,g3⟩:=st a ra kB ra2 xn x1
  obtain⟨f,f1,f2,f3⟩:=st b rb kC rb2 xn x1
  rw[g3,f3,<-h.2 g f g2 f2]
  have:=jC_ (fun l:α2=>l[xn]?) e
  simp only[je_,g1,f1,uq,ji_,zt_]at this
  exact this
 ·intro e
  refine qK_ fun xn=>?_
  by_cases hx:(xn:Int)<L
  ·obtain⟨g,g1,g2,g3⟩:=st a ra kB ra2 xn hx
   obtain⟨f,f1,f2,f3⟩:=st b rb kC rb2 xn hx
   have e1:=e (xn:Int) s!"" hx
   rw[g3,f3,<-h.2 g f g2 f2]at e1
   simp only[je_,g1,f1,uq,ji_,zt_]
   exact e1
  ·rw[jV_ (by rw[ja_];lia),jV_ (by rw[ja_];lia)]
def C1.first    : C1 L aa ae 0 aa:=⟨rfl,fun a b ha hb=>by
 constructor
 ·intro e v hv hl
  have:v=[]:=List.length_eq_zero_iff.mp s!""
  subst this
  show aa.getD ((a:Int)).toNat 0=aa.getD ((b:Int)).toNat 0
  rw[ji_,ji_];exact e
 ·intro h
  have:=h [] (Ay.mpr fun x hx=>(by cases hx)) (jX_ _)
  have:aa.getD ((a:Int)).toNat 0=aa.getD ((b:Int)).toNat 0:=this
  rw[ji_,ji_]at this
  exact this⟩
def E2 (H:Hp)(xs:List V)(ks:α1):Prop:=xs.length=ks.length/\∀(i:Nat) (k:α2),ks[i]?=some k->∃(t l:Addr) (c:Int) (w:α2),xs[i]?=some (.ref t)/\k=c::w/\H t=some (.tup [.int c,.ref l])/\H l=some (.lst (w.map V.int))
def E2.nil  : E2 H [] []:=⟨rfl,fun i k h=>by simp at h⟩
def E2.mono    (h:E2 H xs ks)(s:Same H H'):E2 H' xs ks:=⟨h.1,fun i k hk=>let ⟨t,l,c,w,a,b,d,e⟩:=h.2 i k hk;⟨t,l,c,w,a,b,s _ _ d,s _ _ e⟩⟩
def E2.snoc {H:Hp}{xs:List V}{ks:α1}(h:E2 H xs ks){t l:Addr}{c:Int}{w:α2}(ht:H t=some (.tup [.int c,.ref l]))(hl:H l=some (.lst (w.map V.int))):E2 H (xs++[.ref t]) (ks++[c::w]):=by
 refine⟨by rw[jk_,jk_,h.1];rfl,fun i k hk=>?_⟩
 by_cases hi:i<ks.length
 ·rw[jd_ hi]at hk
  obtain⟨t',l',c',w',a,b,d,e⟩:=h.2 i k hk
  exact⟨t',l',c',w',by rw[jd_ (by rw[h.1];exact hi)];exact a,b,d,e⟩
 ·rw[jm_ s!""]at hk
  have h0:i-ks.length=0:=by
   have:=(jb_.mp hk).1
   simpa using this
  rw[h0]at hk
  have hk:c::w=k:=by simpa using hk
  subst hk
  exact⟨t,l,c,w,by rw[jm_ (by rw[h.1];lia),h.1,h0];rfl,rfl,ht,hl⟩
def E2.at {H:Hp}{xs:List V}{ks:α1}(h:E2 H xs ks){i:Nat}{x:V}(hx:xs[i]?=some x):∃(t l:Addr) (c:Int) (w:α2),ks[i]?=some (c::w)/\x=.ref t/\H t=some (.tup [.int c,.ref l])/\H l=some (.lst (w.map V.int)):=by
 have hi:i<ks.length:=by rw[<-h.1];exact (jb_.mp hx).1
 obtain⟨t,l,c,w,a,b,d,e⟩:=h.2 i ks[i] (by simp[hi])
 rw[hx]at a
 exact⟨t,l,c,w,by rw[<-b];simp[hi],jr_ a,d,e⟩
def eqP {K:α3}{H:Hp}{t l t' l':Addr}{c c':Int}{w w':α2}(ht:H t=some (.tup [.int c,.ref l]))(hl:H l=some (.lst (w.map V.int)))(eg:H t'=some (.tup [.int c',.ref l']))(fD:H l'=some (.lst (w'.map V.int))):
  EqD K H 4 (.ref t) (.ref t') (decide (c::w=c'::w')):=by
 refine .inr ⟨t,t',_,_,rfl,rfl,.inr ⟨SqT.of ht,SqT.of eg⟩,fun i=>if i=0 then decide (c=c') else decide (w=w'),fun i x y hx hy=>?_,?_⟩
 ·match i,hx,hy with
  |0,hx,hy=>
   cases hx;cases hy
   refine .inl ⟨rfl,rfl,?_⟩
   show decide (c=c')=(c==c')
   by_cases h:c=c'<;>simp[h]
  |1,hx,hy=>
   cases hx;cases hy
   have:=EqD.ints (K:=K) (xs:=w) (ys:=w') (.inl ⟨SqL.of hl,SqL.of fD⟩) 2
   exact this
  |i+2,hx,hy=>simp at hx
 ·rw[qy_,ql_]
  simp[xT_]
def E2.eqs {K:α3}{H:Hp}{xs:List V}{ks:α1}(h:E2 H xs ks){t l:Addr}{c:Int}{w:α2}(ht:H t=some (.tup [.int c,.ref l]))(hl:H l=some (.lst (w.map V.int))):EqsD K H 4 xs (.ref t) (fun i=>decide (ks[i]?=some (c::w))):=by
 refine⟨fun i v hv=>?_,fun i j v hi hj=>?_⟩
 ·obtain⟨t',l',c',w',a,rfl,d,e⟩:=h.at hv
  refine⟨t',rfl,?_⟩
  show EqD K H 4 (.ref t') (.ref t) (decide (ks[i]?=some (c::w)))
  rw[show (decide (ks[i]?=some (c::w)))=decide (c'::w'=c::w) by rw[a];simp]
  exact eqP d e ht hl
 ·obtain⟨t1,l1,c1,w1,a1,rfl,d1,e1⟩:=h.at hi
  obtain⟨t2,l2,c2,w2,a2,z,d2,e2⟩:=h.at hj
  cases z
  rw[d1]at d2
  cases d2
  rw[e1]at e2
  have:=jr_ e2
  injection this with this
  have:=(zU_ (fun x y z=>V.int.inj z)).mp this
  show decide (ks[i]?=some (c::w))=decide (ks[j]?=some (c::w))
  rw[a1,a2,this]
def Vw {ks:α1}{k:α2}:((qV ks.length).any fun i=>decide (ks[i]?=some k))=decide (k∈ks):=by
 rw[qy_,xM_,ql_]
 constructor
 ·rintro⟨i,_,h⟩
  exact jc_ (qv_ h)
 ·intro h
  obtain⟨i,hi⟩:=jG_.mp h
  exact⟨i,jF_.mpr (jb_.mp hi).1,j4_ hi⟩
def Cj (names:α2)(ae:α1):α1:=(qV names.length).map (ln41 names ae)
def nx31 (names:α2)(ae:α1):α2:=(Cj names ae).map fun k=>((((Cj names ae).foldl ins []).idxOf k:Nat):Int)
def C1.turn    (wf:Wf L aa ae)   (h:C1 L aa ae k names):C1 L aa ae (k+1) (nx31 names ae):=by
 have eA:∀a:Nat,a<aa.length->(Cj names ae)[a]?=some (ln41 names ae a):=fun a ha=>by
  unfold Cj
  rw[je_,qE_ (by rw[h.1];exact ha)];rfl
 have nat:∀a:Nat,a<aa.length->(nx31 names ae).getD a 0=((((Cj names ae).foldl ins []).idxOf (ln41 names ae a):Nat):Int):=fun a ha=>by
  unfold nx31
  rw[jj_,je_,eA a ha];rfl
 refine C1.more wf h (by unfold nx31 Cj;rw[ja_,ja_,qd_,h.1]) fun a b ha hb=>?_
 rw[nat a ha,nat b hb]
 constructor
 ·intro e
  have e:((Cj names ae).foldl ins []).idxOf (ln41 names ae a)=((Cj names ae).foldl ins []).idxOf (ln41 names ae b):=by lia
  have ma:=Ex.mpr (jc_ (eA a ha))
  have mb:=Ex.mpr (jc_ (eA b hb))
  have ga:=qZ_ (xH_.mpr ma)
  have gb:=qZ_ (xH_.mpr mb)
  rw[<-ga,<-gb]
  congr 1
 ·intro e;rw[e]
def Rx (K:α3):Sp:=fun vs H Q _=>∃(h:Addr) (L:Int) (aa:α2) (ae:α1),vs=[.ref h]/\AZ K H h L aa ae/\Wf L aa ae/\∀(p:Addr) (names:α2) (H':Hp),Same H H'->H p=none->H' p=some (.lst (names.map V.int))->C1 L aa ae aa.length names->Q (.ref p) H'
def IJ   (F:Fun K "_law_classes" "_law_classes" Cq f fd)(T:Txt mg)
  : nofun 1 f fd ["house"] (Rx K):=by
 delta A9
 ·obtain⟨h,L,aa,ae,rfl,_⟩:=h;rfl
 ·obtain⟨h,L,aa,ae,rfl,hh,wf,k⟩:=h
  have hl:=Ar
  have aO:=wf.n40
  have b8:=wf.n1
  have cV:=wf.l1
  have cW:=wf.l6
  refine⟨_,(Ac (Be (i:=1) A9.nd rfl (rh rfl) (AE D9 rfl T.list xm_ (Aa (Ag (ixTD Ao) (pvD 0) Ae) Ad)))
   (Ac (Bs jJ_ rfl (AR rfl T.range (Aa (Aq (lenD Aj) (by rfl) T.len jI_ (Aa (Ag (ixTD Ao) (pvD 0) Ae) Ad)) Ad)) (Am (i:=2) A9.nd rfl (qY rfl))
   (Ac (Ec (i:=3) A9.nd rfl rfl rfl (A6 rfl) (cp:=DR) ⟨⟨rfl,rfl⟩,⟨⟨rfl,rfl⟩,qW⟩⟩ (AR rfl T.range (Aa (Aq (lenD Aj) (by rfl) T.len jI_ (Aa (pvD 1) Ad)) Ad)) (fun _ _ _ _=>(Am (i:=0) Fv rfl (qY rfl))) (fun _ _ _ _=>Bg) (fun _ _ _ _=>(Bx (Aa (Ag (ixLD (Bn (K:=K) rfl)) (pvD 1) (pvD 0)) (Aa (A5 rfl (A6 rfl) (cp:=DS) ⟨⟨rfl,rfl⟩,qW⟩ (QF (K:=K) rfl (Ag (ixTD (Bt (K:=K) rfl)) (Ag (ixTD (Bt (K:=K) rfl)) (pvD 2) Ae) (pvD 0))) (fun _ _ _ _=>(Am (i:=0) Fw rfl (qY rfl))) (fun _ _ _ _=>Bg) (fun _ _ _ _=>(Ag (ixLD (Bn (K:=K) rfl)) (pvD 1) (pvD 0)))) Ad)))))
   (Ac (Be (i:=4) A9.nd rfl (rh rfl) (Bp Ad))
   (Ac (Bs jJ_ rfl (AW (pvD 3)) (Am (i:=5) A9.nd rfl (qY rfl))
   (Af (BI (ptT (As (Rb 4 (hu45 (hu9 hr))) (pvD 5) (pvD 4) rfl))
   (Af (Bc (C5 jD_ jM_ jN_ AS (pvD 4) (Aa (pvD 5) Ad))))
   AK)))
   (Af (Be (i:=1) A9.nd rfl (rh rfl) (A5 rfl (A6 rfl) (cp:=DT) ⟨⟨rfl,rfl⟩,qW⟩ (AW (pvD 3)) (fun _ _ _ _=>(Am (i:=0) Fx rfl (qY rfl))) (fun _ _ _ _=>Bg) (fun _ _ _ _=>(Tw (K:=K) rfl jD_ rO rP (OI (K:=K) rfl 4 (hu46 (hu9 hr))) (pvD 1) (Aa (pvD 0) Ad))))))))))
   (Af (AH (pvD 1))))),?_⟩
  obtain⟨tm,tw,q1,q2,q3⟩:=id hh
  nofun
  refine⟨_,q1,_,rfl,tm,rfl,_,.inr q2,fun pn n0=>?_⟩
  have s0:=Same.new n0 (o:=.lst (aa.map V.int))
  refine⟨_,s0.seqT q1,_,rfl,tm,rfl,_,.inr (s0.seqT q2),?_⟩
  rw[ja_]
  refine⟨by lia,by lia,?_⟩
  rw[ji_]
  obtain⟨Pv,ar⟩:∃Pv:Nat->St->Hp->Prop,∀i ag H',Pv i ag H'↔(∃(names:α2) (pn:Addr) (o2 o3 o4 o5:Option V),Same H H'/\H pn=none/\H' pn=some (.lst (names.map V.int))/\C1 L aa ae i names/\ag=[some (.ref h),some (.ref pn),o2,o3,o4,o5]):=⟨_,fun _ _ _=>qk_⟩
  refine forR Pv ((ar _ _ _).mpr ⟨aa,pn,none,none,none,none,s0,n0,Ab,C1.first,rfl⟩) (fun i aj H2 hi h2=>?_) (fun aj H2 h2=>?_)
  ·obtain⟨names,pn,o2,o3,o4,o5,s2,hnN,gj,nm,rfl⟩:=(ar _ _ _).mp h2
   have hnl:names.length=aa.length:=nm.1
   nofun
   refine⟨_,.inl (SqL.of gj),?_⟩
   rw[ja_]
   refine⟨by lia,by lia,?_⟩
   rw[ji_]
   have hlk:(Cj names ae).length=names.length:=by unfold Cj;rw[ja_,qd_]
   have hlat:∀r,r<names.length->(Cj names ae)[r]?=some (ln41 names ae r):=fun r hr=>by unfold Cj;rw[je_,qE_ hr];rfl
   have fE:∀g:Int,0<=g->g<aa.length->(names.map V.int)[g.toNat]?=some (V.int (names.getD g.toNat 0)):=fun g g0 g1=>by rw[je_,jj_,jh_ s!""];rfl
   refine JV (fun i' xs ag H'=>Same H2 H'/\E2 H' xs ((Cj names ae).take i')/\∃o,ag=[o,some (.ref pn),some (.ref h)]) ⟨Same.refl _,E2.nil,none,rfl⟩ s!"" (fun i' xs ag H' hi' h'=>by rw[h'.2.1.1,jx_];lia) (fun i' xs ag H' hi' h'=>?_) (fun xs ag Hc h' pk kD=>?_)
   ·obtain⟨s3,gW,o,rfl⟩:=h'
    rw[zV_]
    obtain⟨row,w1,w2,w3⟩:=wf.row (r:=(i':Int)) s!"" s!""
    rw[ji_]at w1
    obtain⟨kF,jo,g1,g2,g3⟩:=hh.mono (s2.trans s3)
    obtain⟨zs,t,z1,z2,z3⟩:=g3.at w1
    have hrow:=wf.rows row w2
    nofun
    refine⟨_,SqL.of (s3 _ _ gj),_,Cc s!"" (fE _ s!"" s!""),?_⟩
    refine⟨_,g1,_,rfl,jo,rfl,_,z1,_,z2,t,rfl,⟨_,z3⟩,?_⟩
    refine EJ (ag:=[some (.ref pn)]) (fun x=>match x with | .int g=>.int (names.getD g.toNat 0)|_=>.non) rfl z3 (by rw[ja_];lia) (fun x hx R hR=>?_) (fun D hD=>?_)
    ·obtain⟨g,hg,rfl⟩:=jt_.mp hx
     have bM:=hrow.2 g hg
     nofun
     exact⟨_,SqL.of (s3 _ _ gj),_,Cc bM.1 (fE g bM.1 bM.2),hR⟩
    ·refine⟨by lia,fun p hp=>?_⟩
     rw[ji_]
     have sD:=(Same.new hD (o:=.lst ((row.map V.int).map fun x=>match x with | .int g=>.int (names.getD g.toNat 0)|_=>.non))).newT hp (o:=.tup [V.int (names.getD i' 0),V.ref D])
     have e1:=Same.new hp (o:=.tup [V.int (names.getD i' 0),V.ref D]) _ _ (Ab (H:=H') (a:=D) (o:=.lst ((row.map V.int).map fun x=>match x with | .int g=>.int (names.getD g.toNat 0)|_=>.non)))
     have e2:upd (upd H' D (.lst ((row.map V.int).map fun x=>match x with | .int g=>.int (names.getD g.toNat 0)|_=>.non))) p (.tup [V.int (names.getD i' 0),V.ref D]) p=some (.tup [V.int (names.getD i' 0),V.ref D]):=Ab
     generalize upd (upd H' D (.lst ((row.map V.int).map fun x=>match x with | .int g=>.int (names.getD g.toNat 0)|_=>.non))) p (.tup [V.int (names.getD i' 0),V.ref D])=H4 at sD e1 e2 ⊢
     refine⟨s3.trans sD,?_,_,rfl⟩
     rw[jQ_,hlat i' hi',qp_]
     have e3:ln41 names ae i'=names.getD i' 0::row.map fun a=>names.getD a.toNat 0:=by
      unfold ln41
      rw[jj_ (l:=ae),w1];rfl
     rw[e3]
     refine (gW.mono sD).snoc e2 ?_
     rw[e1,jU_,jU_]
     rfl
   ·obtain⟨s3,gW,o,rfl⟩:=h'
    rw[<-hlk,jP_]at gW
    nofun
    refine⟨by lia,fun p hp=>?_⟩
    have sK:=s3.newT kD (o:=.lst xs)
    have sp:=(Same.new kD (o:=.lst xs)).newT hp (o:=.lst [])
    have kG:pk≠p:=qn_ (Av hp).2
    have n5:upd (upd Hc pk (.lst xs)) p (.lst []) pk=some (.lst xs):=by rw[Ah kG];exact Ab
    have ep:upd (upd Hc pk (.lst xs)) p (.lst []) p=some (.lst []):=Ab
    have qq:H2 p=none:=(s3.newT kD (o:=.lst xs)).none hp
    have hk4:=gW.mono sp
    have s4:Same H2 (upd (upd Hc pk (.lst xs)) p (.lst [])):=s3.trans sp
    have kH:=sp
    generalize upd (upd Hc pk (.lst xs)) p (.lst [])=H4 at s4 n5 ep hk4 kH ⊢
    have hpN2:H p=none:=s2.none qq
    have bO:=hk4.1
    refine⟨⟨_,SqL.of n5⟩,?_⟩
    have lZ:=(Av hp).1
    obtain⟨Pw,cg⟩:∃Pv:Nat->St->Hp->Prop,∀j ag H',Pv j ag H'↔(∃(ys:List V) (o5:Option V),BW p H4 H'/\H' p=some (.lst ys)/\E2 Hc ys (((Cj names ae).take j).foldl ins [])/\ag=[some (.ref h),some (.ref pn),some (.int (0+(i:Int))),some (.ref pk),some (.ref p),o5]):=⟨_,fun _ _ _=>qk_⟩
    refine forL (xs:=xs) Pw ((cg _ _ _).mpr ⟨[],_,fun _ _ _ e=>e,ep,E2.nil,rfl⟩) (fun j ag H' _ h'=>by obtain⟨_,_,s',_⟩:=(cg _ _ _).mp h';exact SqL.of (s' _ _ kG n5)) (fun j x ag H5 hx h'=>?_) (fun ag H5 h'=>?_)
    ·obtain⟨ys,o5,s5,cB,jB,rfl⟩:=(cg _ _ _).mp h'
     have sc:Same Hc H5:=fun b o e=>s5 b o (Ap e lZ) (kH _ _ e)
     have l3:=jB.mono sc
     obtain⟨t,l,c,w0,cy,rfl,ht,eO⟩:=gW.at hx
     have qz:H5 t=some (.tup [.int c,.ref l]):=s5 _ _ (Ap ht lZ) (kH _ _ ht)
     have qA:H5 l=some (.lst (w0.map V.int)):=s5 _ _ (Ap eO lZ) (kH _ _ eO)
     have iB:=l3.1
     have ee:=Cg ((Cj names ae).take j) []
     rw[jx_,qi_]at ee
     nofun
     refine⟨ys,SqL.of cB,_,l3.eqs qz qA,?_⟩
     rw[iB,Vw]
     have nq:((Cj names ae).take (j+1)).foldl ins []=ins (((Cj names ae).take j).foldl ins []) (c::w0):=by rw[jQ_,cy,qp_,qu_];rfl
     refine ite2 (fun hy=>?_) (fun hn=>?_)
     ·have hy:¬ (c::w0∈((Cj names ae).take j).foldl ins []):=by simpa using hy
      refine⟨.inl ⟨rfl,_,SqL.of cB⟩,ys,cB,by lia,(cg _ _ _).mpr ⟨_,_,fun b o hb e=>by rw[Ah hb];exact s5 b o hb e,Ab,?_,rfl⟩⟩
      rw[nq,show ins (((Cj names ae).take j).foldl ins []) (c::w0)=((Cj names ae).take j).foldl ins []++[c::w0] from if_neg hy]
      exact jB.snoc ht eO
     ·have hn:c::w0∈((Cj names ae).take j).foldl ins []:=by simpa using hn
      refine (cg _ _ _).mpr ⟨ys,_,s5,cB,?_,rfl⟩
      rw[nq,show ins (((Cj names ae).take j).foldl ins []) (c::w0)=((Cj names ae).take j).foldl ins [] from if_pos hn]
      exact jB
    ·obtain⟨ys,o5,s5,cB,jB,rfl⟩:=(cg _ _ _).mp h'
     have sc:Same Hc H5:=fun b o e=>s5 b o (Ap e lZ) (kH _ _ e)
     have l3:=jB.mono sc
     rw[bO,jP_]at l3
     have ee:=Cg (Cj names ae) []
     rw[qi_]at ee
     have iB:=l3.1
     have epk5:=s5 _ _ kG n5
     nofun
     refine⟨⟨_,SqL.of epk5⟩,?_⟩
     refine IU (xs:=xs) (fun i' us ag H'=>H'=H5/\us=(((Cj names ae).take i').map fun k=>(((((Cj names ae).foldl ins []).idxOf k:Nat):Int))).map V.int/\∃o,ag=[o,some (.ref p)]) ⟨rfl,rfl,none,rfl⟩ s!"" (fun i' us ag H' hi' h'=>by obtain⟨rfl,rfl,_⟩:=h';exact⟨SqL.of epk5,by rw[ja_,ja_,jx_];lia⟩) (fun i' x us ag H' hx h'=>?_) (fun us ag H' h' D hD=>?_)
     ·obtain⟨rfl,rfl,o,rfl⟩:=h'
      obtain⟨t,l,c,w0,cy,rfl,ht,eO⟩:=gW.at hx
      have qz:H' t=some (.tup [.int c,.ref l]):=s5 _ _ (Ap ht lZ) (kH _ _ ht)
      have qA:H' l=some (.lst (w0.map V.int)):=s5 _ _ (Ap eO lZ) (kH _ _ eO)
      have a6:=Ex.mpr (jc_ cy)
      have iY:=xH_.mpr a6
      nofun
      refine⟨.inl ⟨rfl,_,SqL.of cB⟩,ys,cB,_,l3.eqs qz qA,((Cj names ae).foldl ins []).idxOf (c::w0),by lia,?_,fun j hj=>?_,by lia,?_,_,rfl⟩
      ·exact j4_ (by rw[jh_ iY,qZ_])
      ·refine j9_ fun z=>?_
       have:=Nx z
       lia
      ·rw[jQ_,cy,qp_,jS_,jS_]
       rfl
     ·obtain⟨rfl,rfl,o,rfl⟩:=h'
      rw[bO,jP_]
      have sH:Same H H':=fun b o e=>s5 b o (Ap e hpN2) (s4 _ _ (s2 _ _ e))
      exact (ar _ _ _).mpr ⟨nx31 names ae,D,_,_,_,_,sH.newT hD,sH.none hD,Ab,nm.turn wf,rfl⟩
  ·obtain⟨names,pn,o2,o3,o4,o5,s2,hnN,gj,nm,rfl⟩:=(ar _ _ _).mp h2
   nofun
   exact k pn names _ s2 hnN gj nm
def Ry {c c':α2}:∀(R ai:α2),(∀r s,(r∈ai\/r∈R)->(s∈ai\/s∈R)->(cf c r=cf c s↔cf c' r=cf c' s))->R.foldl (By c) ai=R.foldl (By c') ai
 |[],ai,_=>rfl
 |q::R,ai,h=>by
  have e:By c ai q=By c' ai q:=by
   unfold By
   have:cf c q∈ai.map (cf c)↔cf c' q∈ai.map (cf c'):=by
    rw[jt_,jt_]
    constructor
    ·rintro⟨a,ha,e⟩;exact⟨a,ha,(h a q (.inl ha) (.inr jn_)).mp e⟩
    ·rintro⟨a,ha,e⟩;exact⟨a,ha,(h a q (.inl ha) (.inr jn_)).mpr e⟩
   by_cases hq:cf c q∈ai.map (cf c)
   ·rw[if_pos hq,if_pos (this.mp hq)]
   ·rw[if_neg hq,if_neg (fun z=>hq (this.mpr z))]
  rw[qY_,qY_,e]
  have sub:∀r,r∈By c' ai q->r∈ai\/r∈q::R:=fun r hr=>by
   unfold By at hr
   split at hr
   ·exact .inl hr
   ·rcases jw_.mp hr with hr|hr
    ·exact .inl hr
    ·exact .inr (by rw[jq_.mp hr];exact jn_)
  refine Ry R _ fun r s hr hs=>h r s ?_ ?_
  ·rcases hr with hr|hr
   ·exact sub r hr
   ·exact .inr (jl_ _ hr)
  ·rcases hs with hs|hs
   ·exact sub s hs
   ·exact .inr (jl_ _ hs)
def Vx  (h:∀r s,r∈R->s∈R->(cf c r=cf c s↔cf c' r=cf c' s)):FR c R=FR c' R/\∀r∈R,hm c R r=hm c' R r:=by
 have e:FR c R=FR c' R:=Ry R [] fun r s hr hs=>h r s (hr.resolve_left (by simp)) (hs.resolve_left (by simp))
 refine⟨e,fun r hr=>?_⟩
 obtain⟨j,q,hj,e1,e2,e3⟩:=F_hm (c:=c) hr
 have hq:q∈R:=FK (jc_ e2)
 rw[e]at e2
 rw[e1,<-hm_F e2]
 exact L2.hm_congr ((h q r hq hr).mp e3)
def S3 {L:Nat}{aa:α2}{ae:α1}(wf:Wf L aa ae){names:α2}(nm:C1 L aa ae aa.length names):∀r s,r∈rOf ae->s∈rOf ae->(cf names r=cf names s↔cf (cOf L aa ae) r=cf (cOf L aa ae) s):=by
 intro r s hr hs
 have r0:=C9 wf hr
 have s0:=C9 wf hs
 have h1:=nm.2 r.toNat s.toNat s!"" s!""
 rw[show ((r.toNat:Nat):Int)=r by lia,show ((s.toNat:Nat):Int)=s by lia]at h1
 show names.getD r.toNat 0=names.getD s.toNat 0↔_
 rw[h1]
 constructor
 ·intro h
  refine Jr wf (finO wf) r0.1 r0.2 s0.1 s0.2 fun w hw=>?_
  have aS:=QT wf
  exact GG.all (rs:=rOf ae) (Ii wf) (fun q hq x x0 x1=>Gn wf hq x0 x1) hr hs (fun v hv hl=>h v hv s!"") w hw
 ·intro h v hv _
  exact Mp wf (finO wf) v hv r0.1 r0.2 s0.1 s0.2 h
def Vy {L:Nat}{aa:α2}{ae:α1}(wf:Wf L aa ae){names:α2}(nm:C1 L aa ae aa.length names):FR names (rOf ae)=sF L aa ae/\(sF L aa ae).map (hrow names (rOf ae) ae)=sW L aa ae:=by
 obtain⟨e1,e2⟩:=Vx (S3 wf nm)
 refine⟨e1,?_⟩
 unfold sW
 refine qr_ fun r hr=>?_
 unfold hrow
 refine qr_ fun g hg=>e2 g ?_
 have bA:r∈rOf ae:=FK hr
 have r0:=C9 wf bA
 obtain⟨row,w1,w2,w3⟩:=wf.row r0.1 r0.2
 rw[jj_,w1]at hg
 obtain⟨x,hx,rfl⟩:=jO_ (show g∈row from hg)
 have:=Gn wf bA (x:=(x:Int)) s!"" s!""
 rw[BF w1 (g:=row[x]) (by rw[ji_];exact jh_ hx)]at this
 exact this
def LR:∀{ws:α2} {m:Nat} {w:Int},ws[m]?=some w->ws.idxOf w<=m
 |[],m,w,h=>by simp at h
 |v::ws,m,w,h=>by
  rw[zM_]
  cases m with
  |zero=>
   have:v=w:=by simpa using h
   simp[this]
  |succ m=>
   have:=LR (ws:=ws) (m:=m) (w:=w) (by simpa using h)
   cases e:(v==w) with
   |true=>exact jX_ _
   |false=>exact t9 this
def NY (K:α3):Sp:=fun vs H Q _=>∃(h:Addr) (L:Nat) (aa:α2) (ae:α1),vs=[.ref h]/\AZ K H h L aa ae/\Wf L aa ae/\∀(p:Addr) (H':Hp),Same H H'->AZ K H' p L (sM L aa ae) (sW L aa ae)->Q (.ref p) H'
def LS   (F:Fun K "_law_base" "_law_base" DD f fd)(T:Txt mg)
   (kI:⋯ 1 "_law_order_of" B5 ["house"] (JH K) Ez DV)
   (kJ:⋯ 1 "_law_classes" Cq ["house"] (Rx K) Fe EA)
  : nofun 2 f fd ["house"] (NY K):=by
 delta BD
 ·obtain⟨h,L,aa,ae,rfl,_⟩:=h;rfl
 ·obtain⟨h,L,aa,ae,rfl,hh,wf,k⟩:=h
  have hl:=Ar
  have aO:=wf.n40
  have b8:=wf.n1
  have cV:=wf.l1
  have cW:=wf.l6
  refine⟨_,(Ac (Be (i:=1) BD.nd rfl (rh rfl) (Ai kJ hr.d AL (Aa (pvD 0) Ad)))
   (Ac (Ak (i:=2) BD.nd (Ai kI hr.d AL (Aa (pvD 0) Ad)))
   (Ac (Ak (i:=3) BD.nd (Bp Ad))
   (Ac (Bs jJ_ rfl (AW (pvD 2)) (Am (i:=4) BD.nd rfl (qY rfl))
   (Af (BI (ptT (As GI (Ag (ixLD AX) (pvD 1) (pvD 4)) (A5 rfl (A6 rfl) (cp:=FY) ⟨⟨rfl,rfl⟩,qW⟩ (AW (pvD 3)) (fun _ _ _ _=>(Am (i:=0) G3 rfl (qY rfl))) (fun _ _ _ _=>Bg) (fun _ _ _ _=>(Ag (ixLD (Bn (K:=K) rfl)) (pvD 1) (pvD 0)))) rfl))
   (Af (Bc (C5 jD_ jM_ jN_ AS (pvD 3) (Aa (pvD 4) Ad))))
   AK)))
   (Ac (Be (i:=5) BD.nd rfl (rh rfl) (A5 rfl (A6 rfl) (cp:=FZ) ⟨⟨rfl,rfl⟩,qW⟩ (AW (pvD 3)) (fun _ _ _ _=>(Am (i:=0) G4 rfl (qY rfl))) (fun _ _ _ _=>Bg) (fun _ _ _ _=>(Ag (ixLD (Bn (K:=K) rfl)) (pvD 1) (pvD 0)))))
   (Ac (Ec (i:=6) BD.nd rfl rfl rfl (A6 rfl) (cp:=F0) ⟨⟨rfl,rfl⟩,⟨⟨rfl,rfl⟩,⟨⟨rfl,rfl⟩,qW⟩⟩⟩ (AW (pvD 3)) (fun _ _ _ _=>(Am (i:=0) G8 rfl (qY rfl))) (fun _ _ _ _=>Bg) (fun _ _ _ _=>(AE (Dx (K:=K) rfl) rfl T.tuple jE_ (Aa (A5 rfl (A6 rfl) (cp:=F1) ⟨⟨rfl,rfl⟩,⟨⟨rfl,rfl⟩,qW⟩⟩ (QF (K:=K) rfl (Ag (ixTD (Bt (K:=K) rfl)) (Ag (ixTD (Bt (K:=K) rfl)) (pvD 3) Ae) (pvD 0))) (fun _ _ _ _=>(Am (i:=0) G9 rfl (qY rfl))) (fun _ _ _ _=>Bg) (fun _ _ _ _=>(Tw (K:=K) rfl jD_ rO rP QB (pvD 1) (Aa (Ag (ixLD (Bn (K:=K) rfl)) (pvD 2) (pvD 0)) Ad)))) Ad))))
   (Af (AH (Bx (Aa (Ag (ixTD Ao) (pvD 0) Ae) (Aa (AE Az rfl T.tuple jE_ (Aa (A5 rfl (A6 rfl) (cp:=E9) ⟨⟨rfl,rfl⟩,qW⟩ (AW (pvD 3)) (fun _ _ _ _=>(Am (i:=0) Gw rfl (qY rfl))) (fun _ _ _ _=>Bg) (fun _ _ _ _=>(Ag (ixTD (Bt (K:=K) rfl)) (Ag (ixTD (Bt (K:=K) rfl)) (pvD 1) Ae) (pvD 0)))) Ad)) (Aa (AE Az rfl T.tuple jE_ (Aa (pvD 6) Ad)) Ad)))))))))))),?_⟩
  nofun
  refine⟨h,L,aa,ae,rfl,hh,wf,fun pn names H1 s1 hpnN n0 nm=>?_⟩
  refine⟨h,L,aa,ae,rfl,hh.mono s1,wf,fun po H2 s2 hpoN n6=>?_⟩
  refine⟨by lia,fun pf gz=>?_⟩
  obtain⟨hF,hW⟩:=Vy wf nm
  have hR:((Aw ae).map (·.1))=rOf ae:=rfl
  rw[hR]at n6
  have p9:=QT wf
  have l4:=fun {r:Int} (h:r∈rOf ae)=>C9 wf h
  have hRs:=fun {r x:Int} (h:r∈rOf ae) (x0:0<=x) (x1:x<L)=>Gn wf h x0 x1
  have hnl:names.length=aa.length:=nm.1
  have fE:∀g:Int,0<=g->g<aa.length->(names.map V.int)[g.toNat]?=some (V.int (cf names g)):=fun g g0 g1=>by unfold cf;rw[je_,jj_,jh_ s!""];rfl
  unfold sM at k
  rw[<-hW,<-hF]at k
  generalize rOf ae=R at n6 p9 l4 hRs k
  have s12:=s1.trans s2
  have s3:=s12.newT gz (o:=.lst [])
  have jU:H pf=none:=s12.none gz
  have hpn2:=s2 _ _ n0
  have hpfo:pf≠po:=qn_ (Ap n6 gz)
  have kK:pf≠pn:=qn_ (Ap hpn2 gz)
  have epf:upd H2 pf (.lst []) pf=some (.lst []):=Ab
  have qB:upd H2 pf (.lst []) po=some (.lst (R.map V.int)):=by rw[Ah (qn_ hpfo)];exact n6
  have qC:upd H2 pf (.lst []) pn=some (.lst (names.map V.int)):=by rw[Ah (qn_ kK)];exact hpn2
  generalize upd H2 pf (.lst [])=H3 at s3 epf qB qC ⊢
  refine⟨po,rfl,⟨_,SqL.of qB⟩,?_⟩
  have comp1:∀{H':Hp} {F:α2} {Q':VK} {cp:Caps} {σ:St},H' pn=some (.lst (names.map V.int))->H' pf=some (.lst (F.map V.int))->(∀r∈F,r∈R)->F.length<=40->cp.st σ=[none,some (.ref pn)]->(∀D,H' D=none->Q' (.ref D) (upd H' D (.lst ((F.map (cf names)).map V.int))))->K4 (Itl K pf) cp (Fz 0) N9 (tOp (Sv K) (Ox 1) (Ox 0)) σ H' Q':=fun {H' F Q' cp σ} h1 h2 cQ ak e hd=>by
   refine FD (ag:=[some (.ref pn)]) (fun x=>match x with | .int g=>.int (cf names g)|_=>.non) e (SqL.of h2) (by rw[ja_];lia) (fun x hx R' jh=>?_) (fun D hD=>?_)
   ·obtain⟨g,hg,rfl⟩:=jt_.mp hx
    have bM:=l4 (cQ g hg)
    nofun
    exact⟨_,SqL.of h1,_,Cc bM.1 (fE g bM.1 bM.2),jh⟩
   ·have:=hd D hD
    rw[jU_]at this ⊢
    exact this
  obtain⟨Pv,ar⟩:∃Pv:Nat->St->Hp->Prop,∀j ag H',Pv j ag H'↔(∃(o4:Option V),BW pf H3 H'/\Same H H'/\H' pf=some (.lst ((FR names (R.take j)).map V.int))/\ag=[some (.ref h),some (.ref pn),some (.ref po),some (.ref pf),o4,none,none]):=⟨_,fun _ _ _=>qk_⟩
  refine forL (xs:=R.map V.int) Pv ((ar _ _ _).mpr ⟨none,fun _ _ _ e=>e,s3,epf,rfl⟩) (fun j ag H' _ h'=>by obtain⟨_,s',_⟩:=(ar _ _ _).mp h';exact SqL.of (s' _ _ (qn_ hpfo) qB)) (fun j x ag H' hx h'=>?_) (fun ag H' h'=>?_)
  ·obtain⟨o4,s4,n9,dH,rfl⟩:=(ar _ _ _).mp h'
   obtain⟨r,ip,rfl⟩:=Ck hx
   have oe:=jc_ ip
   have dh:=l4 oe
   have qD:=ND names (R.take j)
   rw[jx_]at qD
   have gI:=s4 _ _ (qn_ kK) qC
   nofun
   refine⟨_,SqL.of gI,_,Cc dh.1 (fE r dh.1 dh.2),⟨_,SqL.of dH⟩,?_⟩
   refine comp1 gI dH (fun q hq=>xh_ (FK hq)) s!"" rfl fun D hD=>?_
   have sD:=Same.new hD (o:=.lst (((FR names (R.take j)).map (cf names)).map V.int))
   have eD:upd H' D (.lst (((FR names (R.take j)).map (cf names)).map V.int)) D=some (.lst (((FR names (R.take j)).map (cf names)).map V.int)):=Ab
   have og:=sD _ _ dH
   generalize upd H' D (.lst (((FR names (R.take j)).map (cf names)).map V.int))=H5 at sD eD og ⊢
   refine⟨D,rfl,_,.inl (SqL.of eD),rfl,HW _,?_⟩
   rw[Nq]
   have nq:=QQ (c:=names) ip
   refine ite2 (fun hy=>?_) (fun hn=>?_)
   ·have hy:¬ (cf names r∈(FR names (R.take j)).map (cf names)):=by simpa using hy
    refine⟨.inl ⟨rfl,_,SqL.of og⟩,_,og,by rw[ja_];lia,(ar _ _ _).mpr ⟨_,fun b o hb e=>by rw[Ah hb];exact sD _ _ (s4 b o hb e),(n9.trans sD).over jU,?_,rfl⟩⟩
    rw[Ab,nq,show By names (FR names (R.take j)) r=FR names (R.take j)++[r] from if_neg hy,jS_]
    rfl
   ·have hn:cf names r∈(FR names (R.take j)).map (cf names):=by simpa using hn
    refine (ar _ _ _).mpr ⟨_,fun b o hb e=>sD _ _ (s4 b o hb e),n9.trans sD,?_,rfl⟩
    rw[og,nq,show By names (FR names (R.take j)) r=FR names (R.take j) from if_pos hn]
  ·obtain⟨o4,s4,n9,dH,rfl⟩:=(ar _ _ _).mp h'
   rw[ja_,jP_]at dH
   have gI:=s4 _ _ (qn_ kK) qC
   have qD:=ND names R
   nofun
   refine⟨⟨_,SqL.of dH⟩,?_⟩
   refine comp1 gI dH (fun q hq=>FK hq) s!"" rfl fun pm cb=>?_
   have cQ:∀q∈FR names R,q∈R:=fun q hq=>FK hq
   have bL:∀g∈R,cf names g∈(FR names R).map (cf names)/\hm names R g=((((FR names R).map (cf names)).idxOf (cf names g):Nat):Int):=fun g hg=>by
    unfold hm
    rw[Ih]
    exact⟨AN.mpr (q6_ hg),rfl⟩
   have oh:=n9.newT cb (o:=.lst (((FR names R).map (cf names)).map V.int))
   have qE:=Same.new cb (o:=.lst (((FR names R).map (cf names)).map V.int))
   have kL:upd H' pm (.lst (((FR names R).map (cf names)).map V.int)) pm=some (.lst (((FR names R).map (cf names)).map V.int)):=Ab
   generalize upd H' pm (.lst (((FR names R).map (cf names)).map V.int))=H5 at oh qE kL ⊢
   have oi:=qE _ _ dH
   have epn5:=qE _ _ gI
   generalize FR names R=F at dH oi qD cQ bL k kL
   refine⟨⟨_,SqL.of oi⟩,?_⟩
   have hFz:F.length<sizeLine:=by lia
   refine IU (xs:=F.map V.int) (fun i' zs ag H'=>Same H5 H'/\AD K H' zs ((F.take i').map (hrow names R ae))/\∃o,ag=[o,some (.ref pm),some (.ref pn),some (.ref h)]) ⟨Same.refl _,AD.nil,none,rfl⟩ (by rw[ja_];exact hFz) (fun i' zs ag H' hi' h'=>⟨SqL.of (h'.1 _ _ oi),by rw[h'.2.1.1,ja_,jx_];lia⟩) (fun i' x zs ag H6 hx h'=>?_) (fun zs ag H6 h' pw br=>?_)
   ·obtain⟨s6,om,o,rfl⟩:=h'
    obtain⟨r,ip,rfl⟩:=Ck hx
    have oe:=cQ r (jc_ ip)
    have dh:=l4 oe
    obtain⟨row,w1,w2,w3⟩:=wf.row dh.1 dh.2
    obtain⟨kF,jo,g1,g2,g3⟩:=hh.mono (oh.trans s6)
    obtain⟨ys,t,z1,z2,z3⟩:=g3.atZ dh.1 w1
    have hrw:=wf.rows row w2
    have hgR:∀g∈row,g∈R:=fun g hg=>by
     obtain⟨x,hx,rfl⟩:=jO_ hg
     have:=hRs oe (x:=(x:Int)) s!"" s!""
     rw[BF w1 (g:=row[x]) (by rw[ji_];exact jh_ hx)]at this
     exact this
    nofun
    refine⟨_,g1,_,rfl,jo,rfl,_,z1,_,z2,t,rfl,⟨_,z3⟩,?_⟩
    refine EJ (ag:=[some (.ref pm),some (.ref pn)]) (fun x=>match x with | .int g=>.int (hm names R g)|_=>.non) rfl z3 (by rw[ja_];lia) (fun x hx R' jh=>?_) (fun D hD=>?_)
    ·obtain⟨g,hg,rfl⟩:=jt_.mp hx
     have bM:=l4 (hgR g hg)
     obtain⟨hc1,cu⟩:=bL g (hgR g hg)
     have iY:=xH_.mpr hc1
     rw[ja_]at iY
     nofun
     refine⟨.inl ⟨rfl,_,SqL.of (s6 _ _ kL)⟩,_,SqL.of (s6 _ _ epn5),_,Cc bM.1 (fE g bM.1 bM.2),_,s6 _ _ kL,rfl,HW _,(F.map (cf names)).idxOf (cf names g),by lia,⟨V.int (cf names g),?_,by simp[eqV]⟩,fun m z hm hz=>?_,?_⟩
     ·rw[je_,jh_ (by rw[ja_];exact iY),qZ_];rfl
     ·obtain⟨y,hy,rfl⟩:=Ck hz
      have ay:y≠cf names g:=fun z=>by
       have:=LR (by rw[hy,z])
       lia
      simp[eqV,ay]
     ·rw[<-cu];exact jh
    ·refine⟨D,rfl,_,.inl ⟨SqL.of Ab,fun l eO=>?_⟩⟩
     have sD:=(Same.new hD (o:=.lst ((row.map V.int).map fun x=>match x with | .int g=>.int (hm names R g)|_=>.non))).newT eO (o:=.tup ((row.map V.int).map fun x=>match x with | .int g=>.int (hm names R g)|_=>.non))
     refine⟨s6.trans sD,?_,_,rfl⟩
     rw[jQ_,ip,qp_,jS_]
     refine (om.mono (TK.of sD)).snoc ?_
     rw[Ab,jU_]
     unfold hrow
     rw[jj_,w1,uf,jU_]
     rfl
   ·obtain⟨s6,om,o,rfl⟩:=h'
    rw[ja_,jP_]at om
    have s7:=s6.newT br (o:=.lst zs)
    have l5:upd H6 pw (.lst zs) pw=some (.lst zs):=Ab
    have fP:AD K (upd H6 pw (.lst zs)) zs _:=om.mono (TK.new br)
    generalize upd H6 pw (.lst zs)=H7 at s7 l5 fP ⊢
    have sH7:=oh.trans s7
    obtain⟨kF,jo,g1,g2,g3⟩:=hh.mono sH7
    have hf7:=s7 _ _ oi
    refine⟨_,g1,_,rfl,⟨_,SqL.of hf7⟩,?_⟩
    refine FD (ag:=[some (.ref h)]) (fun x=>match x with | .int g=>.int (mkR aa g)|_=>.non) rfl (SqL.of hf7) (by rw[ja_];exact hFz) (fun x hx R' jh=>?_) (fun D hD=>?_)
    ·obtain⟨g,hg,rfl⟩:=jt_.mp hx
     have bM:=l4 (cQ g hg)
     nofun
     refine⟨_,g1,_,rfl,kF,rfl,_,g2,_,Cc bM.1 (v:=V.int (mkR aa g)) ?_,jh⟩
     rw[je_,TR s!""];rfl
    ·have sD:=s7.newT hD (o:=.lst ((F.map V.int).map fun x=>match x with | .int g=>.int (mkR aa g)|_=>.non))
     have eD:upd H7 D (.lst ((F.map V.int).map fun x=>match x with | .int g=>.int (mkR aa g)|_=>.non)) D=some (.lst ((F.map (mkR aa)).map V.int)):=by rw[Ab,jU_,jU_];rfl
     have jj:=Same.new hD (o:=.lst ((F.map V.int).map fun x=>match x with | .int g=>.int (mkR aa g)|_=>.non))
     generalize upd H7 D (.lst ((F.map V.int).map fun x=>match x with | .int g=>.int (mkR aa g)|_=>.non))=H8 at sD eD jj ⊢
     refine⟨D,rfl,_,.inl ⟨SqL.of eD,fun l eO=>?_⟩⟩
     have sl:=Same.new eO (o:=.tup ((F.map (mkR aa)).map V.int))
     have el:upd H8 l (.tup ((F.map (mkR aa)).map V.int)) l=some (.tup ((F.map (mkR aa)).map V.int)):=Ab
     generalize upd H8 l (.tup ((F.map (mkR aa)).map V.int))=H9 at sl el ⊢
     have epw9:=sl _ _ (jj _ _ l5)
     refine⟨pw,rfl,_,.inl ⟨SqL.of epw9,fun l1 bE=>⟨by lia,fun p hp=>?_⟩⟩⟩
     have hz9:=fP.mono (TK.of (jj.trans sl))
     have gJ:=(Same.new bE (o:=.tup zs)).newT hp (o:=.tup [V.int L,V.ref l,V.ref l1])
     have e1:=Same.new hp (o:=.tup [V.int L,V.ref l,V.ref l1]) _ _ (Ab (H:=H9) (a:=l1) (o:=.tup zs))
     have e2:upd (upd H9 l1 (.tup zs)) p (.tup [V.int L,V.ref l,V.ref l1]) p=some (.tup [V.int L,V.ref l,V.ref l1]):=Ab
     have gK:=hz9.mono (TK.of gJ)
     generalize upd (upd H9 l1 (.tup zs)) p (.tup [V.int L,V.ref l,V.ref l1])=oo at gJ e1 e2 gK ⊢
     refine k p oo (((oh.trans sD).trans sl).trans gJ) ⟨l,l1,SqT.of e2,SqT.of (gJ _ _ el),?_⟩
     obtain⟨os,x1,x2,x3⟩:=F5 gK
     refine⟨os.map (·.1),?_,by rw[<-x2,ja_,ja_],fun i t row hi hrow=>?_⟩
     ·rw[jU_]
      rw[x1]at e1
      exact SqT.of e1
     ·rw[<-x2,je_]at hrow
      rw[je_]at hi
      cases ho:os[i]? with
      |none=>rw[ho]at hi;cases hi
      |some o=>
       rw[ho]at hi hrow
       cases hi;cases hrow
       exact SqT.of (x3 o (jc_ ho))
def WsT.monoT   {os:List aL.Wd}  (h:WsT H os)(s:BW T H H')(hT:H T=some (.tbl ps)):WsT H' os:=fun w hw=>s.ne (h w hw) (fun _ z=>by cases z) hT
def JI (K:α3):Sp:=fun vs H Q _=>∃(h:Addr) (L:Int) (aa:α2) (ae:α1) (num:Int),vs=[.ref h,.int num]/\AZ K H h L aa ae/\Wf L aa ae/\∀h' av aF H',Same H H'->AZ K H' h' L av aF->Wf L av aF->av.length=aa.length->Q (.ref h') H'
def IK   (F:Fun K "_law_spoiled" "_law_spoiled" Cp f fd)(T:Txt mg)
  : nofun 1 f fd ["house","number"] (JI K):=by
 delta Br
 ·obtain⟨h,L,aa,ae,num,rfl,_⟩:=h;rfl
 ·obtain⟨h,L,aa,ae,num,rfl,hh,wf,k⟩:=h
  have hl:=Ar
  have cV:=wf.l1
  have cW:=wf.l6
  have b8:=wf.n1
  have aO:=wf.n40
  obtain⟨tm,tw,q1,q2,q3⟩:=id hh
  refine⟨_,(Ac (Be (i:=2) Br.nd rfl (rh rfl) (AE D9 rfl T.list xm_ (Aa (Ag (ixTD Ao) (pvD 0) Ae) Ad)))
   (Bz (Be (i:=3) Br.nd rfl (rh rfl) (A5 rfl (A6 rfl) (cp:=DM) qW (E3 (Ag (ixTD Ao) (pvD 0) Ae)) (fun _ _ _ _=>(Am (i:=0) Fs rfl (qY rfl))) (fun _ _ _ _=>Bg) (fun _ _ _ _=>(AE (JY (K:=K) rfl) rfl T.list xm_ (Aa (pvD 0) Ad)))))
   (Ac (Be (i:=4) Br.nd rfl (rh rfl) (An (opD AM) (An (opD BX) (pvD 1) Ae) (Aq (lenD Aj) (by rfl) T.len jI_ (Aa (pvD 2) Ad))))
   (Bz (BI (ptT (As (opE Cb) (An (opD AM) (pvD 1) Ae) Ae (AI _)))
   (Af (KQ (An (opD AM) (An (opD0 AY) (An (opD0 AY) (Ag (ixLD AX) (pvD 2) (pvD 4)) Ae) (An (opD AM) (An (opD BX) (pvD 1) Ae) Ae)) Ae) (KO (pvD 2) (pvD 4) set_list)))
   AK)
   (Bz (BI (ptT (As (opE Cb) (An (opD AM) (pvD 1) Ae) Ae (AI _)))
   (Ac (Be (i:=5) Br.nd rfl (rh rfl) (An (opD AM) (An (opD BX) (pvD 1) Ae) (Ag (ixTD Ao) (pvD 0) Ae)))
   (Ac (Ec (i:=6) Br.nd rfl rfl rfl (A6 rfl) (cp:=DO) ⟨⟨rfl,rfl⟩,⟨⟨rfl,rfl⟩,⟨⟨rfl,rfl⟩,⟨⟨rfl,rfl⟩,qW⟩⟩⟩⟩ (AR rfl T.range (Aa (Aq (lenD Aj) (by rfl) T.len jI_ (Aa (pvD 2) Ad)) Ad)) (fun _ _ _ _=>(Am (i:=0) Ft rfl (qY rfl))) (fun _ _ _ _=>(PV (ptT (As (opE Cb) (Ag (ixLD (Bn (K:=K) rfl)) (pvD 1) (pvD 0)) (Ag (ixLD (Bn (K:=K) rfl)) (pvD 1) (Ag (ixLD (Bn (K:=K) rfl)) (Ag (ixLD (Bn (K:=K) rfl)) (pvD 3) (pvD 4)) (pvD 2))) (AI _))))) (fun _ _ _ _=>(pvD 0)))
   (Af (KQ (Ag (ixLD AX) (pvD 6) (An (opD AM) (An (opD BX) (pvD 1) Ae) (Aq (lenD Aj) (by rfl) T.len jI_ (Aa (pvD 6) Ad)))) (KO (Ag (ixLD AX) (pvD 3) (pvD 4)) (pvD 5) set_list)))))
   AK)
   (Af (AH (Bx (Aa (Ag (ixTD Ao) (pvD 0) Ae) (Aa (AE Az rfl T.tuple jE_ (Aa (pvD 2) Ad)) (Aa (AE Az rfl T.tuple jE_ (Aa (A5 rfl (A6 rfl) (cp:=DQ) qW (AW (pvD 3)) (fun _ _ _ _=>(Am (i:=0) Fu rfl (qY rfl))) (fun _ _ _ _=>Bg) (fun _ _ _ _=>(AE (Dx (K:=K) rfl) rfl T.tuple jE_ (Aa (pvD 0) Ad)))) Ad)) Ad))))))))))),?_⟩
  nofun
  refine⟨_,q1,_,rfl,?_⟩
  nofun
  refine⟨_,.inr q2,fun pm cb=>?_⟩
  have sm:=Same.new (o:=.lst (aa.map V.int)) cb
  have cA:upd H pm (.lst (aa.map V.int)) pm=some (.lst (aa.map V.int)):=Ab
  generalize upd H pm (.lst (aa.map V.int))=H0 at sm cA ⊢
  obtain⟨R,hR⟩:∃R:St->Hp->Prop,∀ag H',R ag H'↔(∃(pw:Addr) (xs:List V) (av:α2) (aF:α1) (room:Int) (o5 o6:Option V),Same H H'/\H0 pw=none/\H' pm=some (.lst (av.map V.int))/\H' pw=some (.lst xs)/\LLs H0 H' xs aF/\pw≠pm/\0<=room/\room<aa.length/\av.length=aa.length/\Wf L av aF/\ag=[some (.ref h),some (.int num),some (.ref pm),some (.ref pw),some (.int room),o5,o6]):=⟨_,fun _ _=>qk_⟩
  obtain⟨R1,hR1⟩:∃R:St->Hp->Prop,∀ag H',R ag H'↔(∃(pw:Addr) (xs:List V),Same H0 H'/\H0 pw=none/\H' pw=some (.lst xs)/\LLs H0 H' xs ae/\ag=[some (.ref h),some (.int num),some (.ref pm),some (.ref pw),none,none,none]):=⟨_,fun _ _=>qk_⟩
  refine⟨R1,?_,fun i6 H1 h1=>?_⟩
  ·obtain⟨kF,jo,y1,y2,y3⟩:=hh.mono sm
   obtain⟨ts,z1,z2,z3⟩:=id y3
   nofun
   refine⟨_,y1,_,rfl,?_⟩
   nofun
   refine⟨⟨_,z1⟩,?_⟩
   have ak:=wf.len
   refine RY (xs:=ts.map V.ref) (fun i ys aj H2=>Same H0 H2/\LLs H0 H2 ys (ae.take i)/\∃o,aj=[o]) ⟨Same.refl _,by rw[zY_];exact LLs.nil _ _,none,rfl⟩ (by rw[ja_];lia) (fun i ys aj H2 _ h=>⟨h.1.seqT z1,by rw[h.2.1.len,jx_];lia⟩) (fun i x ys aj H2 hx h=>?_) (fun ys aj H2 h=>?_)
   ·obtain⟨s2,d7,o,rfl⟩:=h
    have hi:i<ts.length:=by have:=(jb_.mp hx).1;rwa [ja_]at this
    have jI:ts[i]?=some ts[i]:=by simp[hi]
    rw[je_,jI]at hx
    cases hx
    have cj:ae[i]?=some ae[i]:=by simp[show i<ae.length by lia]
    nofun
    refine⟨_,.inr (s2.seqT (z3 i _ _ jI cj)),fun l fD=>⟨s2.newT fD,?_,_,rfl⟩⟩
    rw[jQ_,cj]
    exact d7.snoc (Same.none s2 fD) fD
   ·obtain⟨s2,d7,o,rfl⟩:=h
    rw[ja_,z2,jP_]at d7
    intro D hD
    exact (hR1 _ _).mpr ⟨D,ys,s2.newT hD,Same.none s2 hD,Ab,d7.mono (Same.new hD),rfl⟩
  obtain⟨pw,xs,s1,dA,br,d7,rfl⟩:=(hR1 _ _).mp h1
  have kM:pw≠pm:=fun z=>by rw[z,cA]at dA;cases dA
  have hHpw:H pw=none:=Same.none sm dA
  nofun
  refine⟨(show CDiv num 3 from ⟨by lia,by lia⟩),_,.inl (SqL.of (s1 _ _ cA)),?_⟩
  rw[ja_]
  refine⟨by lia,?_⟩
  have r0:=qo_ (num / 3) (show (aa.length:Int)≠0 by lia)
  have r1:=j5_ (num / 3) (show (0:Int)<aa.length by lia)
  generalize num / 3%(aa.length:Int)=room at r0 r1 ⊢
  refine⟨R,?_,fun aj H2 h2=>?_⟩
  ·nofun
   refine⟨by lia,ite2 (fun h3=>?_) (fun h3=>(hR _ _).mpr ⟨pw,xs,aa,ae,room,none,none,sm.trans s1,dA,s1 _ _ cA,br,d7,kM,r0,r1,rfl,wf,rfl⟩)⟩
   have hi:room.toNat<aa.length:=by lia
   have m0:=qo_ (aa[room.toNat]+1+num / 120%1000000000) (show (1000000001:Int)≠0 by lia)
   have m1:=j5_ (aa[room.toNat]+1+num / 120%1000000000) (show (0:Int)<1000000001 by lia)
   refine⟨_,SqL.of (s1 _ _ cA),_,A7 r0 (show aa[room.toNat]?=some aa[room.toNat] by simp[hi]),_,rfl,(show CDiv num 120 from ⟨by lia,by lia⟩),by lia,by lia,_,s1 _ _ cA,room.toNat,Nr r0 (by rw[ja_];exact r1),?_⟩
   generalize (aa[room.toNat]+1+num / 120%1000000000)%1000000001=mk at m0 m1 ⊢
   refine (hR _ _).mpr ⟨pw,xs,aa.set room.toNat mk,ae,room,none,none,(sm.trans s1).over cb,dA,by rw[Ab,Nh],by rw[Ah kM];exact br,d7.off cA,kM,r0,r1,by rw[qO_],wf.setM _ ⟨m0,by lia⟩,rfl⟩
  clear d7 br s1 h1
  obtain⟨pw,xs,av,aF,room,o5,o6,s2,dA,gV,fm,d7,ay,r0,r1,iI,hV,rfl⟩:=(hR _ _).mp h2
  refine⟨R,?_,fun aC H3 h3=>?_⟩
  ·nofun
   refine⟨by lia,ite2 (fun h3=>?_) (fun h3=>h2)⟩
   obtain⟨kF,jo,y1,y2,y3⟩:=hh.mono s2
   have l0:=qo_ (num / 120) (show L≠0 by lia)
   have l1:=j5_ (num / 120) (show (0:Int)<L by lia)
   refine⟨(show CDiv num 120 from ⟨by lia,by lia⟩),_,y1,_,rfl,_,rfl,by lia,_,.inl (SqL.of gV),by lia,by rw[ja_];lia,?_⟩
   generalize num / 120%L=letter at l0 l1 ⊢
   rw[ja_,ji_]
   have fQ:=hV.n40
   obtain⟨row,hrow,eE,cG⟩:=hV.row r0 s!""
   obtain⟨t,hU,ht,iO,gE⟩:=d7.at hrow
   have au:letter.toNat<row.length:=by lia
   have hg:row[letter.toNat]?=some row[letter.toNat]:=by simp[au]
   have bM:=(hV.rows row eE).2 row[letter.toNat] (j3_ au)
   generalize row[letter.toNat]=g0 at hg bM
   refine JV (fun i ys bK H4=>H4=H2/\(∃gs:α2,ys=gs.map V.int/\gs.length<=i/\(∀g∈gs,0<=g/\g<av.length)/\(g0<i->gs ≠ []))/\∃o,bK=[o,some (.ref pm),some (.int letter),some (.ref pw),some (.int room)]) ⟨rfl,⟨[],rfl,by simp,by simp,fun h=>absurd h (by push_cast;lia)⟩,none,rfl⟩ s!"" (fun i ys bK H4 _ h=>by obtain⟨_,⟨gs,rfl,h,_⟩,_⟩:=h;rw[ja_];exact h) (fun i ys bK H4 hi h=>?_) (fun ys bK H4 h=>?_)
   ·obtain⟨rfl,⟨gs,rfl,hgl,oq,qF⟩,o,rfl⟩:=h
    have ei:(0:Int)+(i:Nat)=(i:Int):=by lia
    rw[ei]
    nofun
    refine⟨_,SqL.of gV,_,Le s!"" s!"",_,SqL.of fm,_,Cc r0 hU,?_⟩
    nofun
    refine⟨_,SqL.of ht,_,A7 l0 hg,_,_,rfl,SqL.of gV,_,Le bM.1 bM.2,rfl,?_⟩
    by_cases he:mkW av (i:Int)=mkW av g0
    ·rw[if_pos (jC_ V.int he)]
     refine⟨⟨gs++[(i:Int)],by simp,by simp;lia,fun g hg=>?_,fun _=>by simp⟩,_,rfl⟩
     rcases jw_.mp hg with hg|hg
     ·exact oq g hg
     ·rw[jq_.mp hg];lia
    ·rw[if_neg (fun z=>he (V.int.inj z))]
     refine⟨⟨gs,rfl,by lia,oq,fun h=>qF ?_⟩,_,rfl⟩
     have:g0≠i:=fun z=>he (by rw[z])
     push_cast at h
     lia
   ·obtain⟨rfl,⟨gs,rfl,hgl,oq,qF⟩,o,rfl⟩:=h
    intro D hD
    have hne':gs ≠ []:=qF bM.2
    have hgp:0<gs.length:=zN_.mpr hne'
    have sD:=Same.new (o:=.lst (gs.map V.int)) hD
    have i0:=qo_ (num / 720) (show (gs.length:Int)≠0 by lia)
    have i1:=j5_ (num / 720) (show (0:Int)<gs.length by lia)
    have gu:(num / 720%(gs.length:Int)).toNat<gs.length:=by lia
    refine⟨(show CDiv num 720 from ⟨by lia,by lia⟩),D,rfl,_,.inl (SqL.of Ab),by rw[ja_];lia,D,rfl,_,SqL.of Ab,V.int gs[(num / 720%(gs.length:Int)).toNat],by rw[ja_];exact A7 i0 (by simp[gu]),_,SqL.of (sD _ _ fm),_,Cc r0 hU,t,rfl,_,sD _ _ ht,letter.toNat,Nr l0 (by rw[ja_];lia),?_⟩
    have hgx:=oq _ (j3_ gu)
    generalize gs[(num / 720%(gs.length:Int)).toNat]=gx at hgx ⊢
    have iJ:pm≠t:=fun z=>by rw[<-z,cA]at iO;cases iO
    have hwt:pw≠t:=fun z=>by
     rw[<-z,fm]at ht
     have:=jC_ (fun o=>match o with|some (HO.lst l)=>l[room.toNat]? | _=>none) ht
     simp only[hU]at this
     rw[je_]at this
     cases e:row[room.toNat]? with
     |none=>rw[e]at this;cases this
     |some v=>rw[e]at this;cases this
    rw[Nh]
    have hLs:LLs H0 (upd (upd H4 D (.lst (gs.map V.int))) t (.lst ((row.set letter.toNat gx).map V.int))) xs (aF.set room.toNat (row.set letter.toNat gx)):=by
     obtain⟨t',a1,_,_,a4⟩:=(d7.mono sD).at hrow
     rw[hU]at a1
     cases a1
     exact a4 _ _
    exact (hR _ _).mpr ⟨pw,xs,av,_,room,_,_,(s2.newT hD).over (Same.none sm iO),dA,by rw[Ah iJ];exact sD _ _ gV,by rw[Ah hwt];exact sD _ _ fm,hLs,ay,r0,r1,iI,hV.setW hrow _ hgx,rfl⟩
  obtain⟨pw,xs,av,aF,room,o5,o6,s3,dA,nY,eN,d7,ay,r0,r1,iI,hV,rfl⟩:=(hR _ _).mp h3
  obtain⟨kF,jo,y1,y2,y3⟩:=hh.mono s3
  nofun
  refine⟨_,y1,_,rfl,?_⟩
  nofun
  refine⟨_,.inl ⟨SqL.of nY,fun l fD=>⟨⟨_,SqL.of (Same.new fD _ _ eN)⟩,?_⟩⟩⟩
  have sl:=Same.new (o:=.tup (av.map V.int)) fD
  have wl:=hV.len
  have wn:=hV.n40
  refine Si (xs:=xs) (ws:=aF) (ag:=[]) (SqL.of (sl _ _ eN)) d7.len rfl (by rw[d7.len];lia) (fun i x w H4 s4 hx hw R hR=>?_) (fun H4 D ys s4 hD hT=>?_)
  ·obtain⟨t,a1,a2,_⟩:=d7.at hw
   rw[hx]at a1
   cases a1
   nofun
   refine⟨_,.inl ⟨SqL.of (s4 _ _ (sl _ _ a2)),fun p hp=>hR p _ (Same.new hp) (SqT.of Ab)⟩⟩
  ·obtain⟨lJ,cz,iA⟩:=hT.rows
   rw[Ab]at cz
   cases cz
   refine⟨D,rfl,_,.inl ⟨SqL.of Ab,fun l1 bE=>⟨by lia,fun p5 cB=>?_⟩⟩⟩
   have sD:=Same.new (o:=.lst ys) hD
   refine k p5 av aF _ (((((s3.trans sl).trans s4).newT hD).newT bE).newT cB) ⟨l,l1,SqT.of Ab,?_,(iA l1 bE).mono (Same.new cB)⟩ hV iI
   exact SqT.of (Same.new cB _ _ (Same.new bE _ _ (sD _ _ (s4 _ _ Ab))))
def Cs (K:α3)(H:Hp)(xs:List V)(aE:List (α2×Int)):Prop:=xs.length=aE.length/\∀(i:Nat) (tr:α2×Int),aE[i]?=some tr->∃t wt,xs[i]?=some (.ref t)/\SqT K H t [.ref wt,.int tr.2]/\SqT K H wt (tr.1.map V.int)/\tr.1.length<=600
def Cs.mono {K:α3}    (h:Cs K H xs aE)(s:Same H H'):Cs K H' xs aE:=by
 refine⟨h.1,fun i tr bh=>?_⟩
 obtain⟨t,wt,a,b,c,d⟩:=h.2 i tr bh
 exact⟨t,wt,a,s.seqT b,s.seqT c,d⟩
def Cs.nil {K:α3}  : Cs K H [] []:=⟨rfl,fun i tr h=>by simp at h⟩
def Cs.snoc {K:α3}{H:Hp}{xs:List V}{aE:List (α2×Int)}(h:Cs K H xs aE){t wt:Addr}{w:α2}{m:Int}(h1:SqT K H t [.ref wt,.int m])(h2:SqT K H wt (w.map V.int))(h3:w.length<=600):Cs K H (xs++[.ref t]) (aE++[(w,m)]):=by
 refine⟨by rw[jk_,jk_,h.1];rfl,fun i tr hi=>?_⟩
 by_cases ee:i<aE.length
 ·rw[jd_ ee]at hi
  rw[jd_ (by rw[h.1];exact ee)]
  exact h.2 i tr hi
 ·have:=(jb_.mp hi).1
  rw[jk_,jR_]at this
  have ei:i=aE.length:=by lia
  subst ei
  rw[jm_ (jg_ _),qb_]at hi
  simp at hi
  subst hi
  refine⟨t,wt,?_,h1,h2,h3⟩
  rw[jm_ (by rw[h.1];exact jg_ _),h.1,qb_];rfl
def Wds (K:α3)(H:Hp)(xs:List V)(ws:α1):Prop:=xs.length=ws.length/\∀(i:Nat) (w:α2),ws[i]?=some w->∃t,xs[i]?=some (.ref t)/\SqT K H t (w.map V.int)
def Wds.mono {K:α3}    (h:Wds K H xs ws)(s:Same H H'):Wds K H' xs ws:=by
 refine⟨h.1,fun i tr bh=>?_⟩
 obtain⟨t,a,b⟩:=h.2 i tr bh
 exact⟨t,a,s.seqT b⟩
def EB (aa:α2)(ae:α1)(w:α2):α2×Int:=(w,MG aa (AB ae w))
def Um (K:α3):Sp:=fun vs H Q E=>∃(h a:Addr) (L:Int) (aa:α2) (ae:α1) (xs:List V) (ws:α1),vs=[.ref h,.ref a]/\AZ K H h L aa ae/\Wf L aa ae/\SqL K H a xs/\Wds K H xs ws/\(∀w∈ws,w.length<=600)/\xs.length<sizeLine /\
 ((∀w∈ws,isW L w=true)->∀H2 D ys,Same H H2->H2 D=none->Cs K H2 ys (ws.map (EB aa ae))->Q (.ref D) (upd H2 D (.lst ys))) /\
 ((∃w∈ws,isW L w=false)->False)
def LU   (F:Fun K "trials_of" "trials_of" DB f fd)(T:Txt mg)
   (fF:⋯ 5 "mark_behind" B1 ["house","word"] (MK K) DL C4)
  : nofun 6 f fd ["house","words"] (Um K):=by
 delta Lx
 ·obtain⟨h,a,L,aa,ae,xs,ws,rfl,_⟩:=h;rfl
 ·obtain⟨h,a,L,aa,ae,xs,ws,rfl,hh,wf,ha,hw,cD,bO,k,kE⟩:=h
  have hl:=Ar
  refine⟨_,(Af (AH (A5 rfl (A6 rfl) (cp:=FX) ⟨⟨rfl,rfl⟩,qW⟩ (AW (pvD 1)) (fun _ _ _ _=>(Am (i:=0) G2 rfl (qY rfl))) (fun _ _ _ _=>Bg) (fun _ _ _ _=>(Bx (Aa (pvD 0) (Aa (Ai fF hr.d AL (Aa (pvD 1) (Aa (pvD 0) Ad))) Ad))))))),?_⟩
  nofun
  refine⟨⟨_,ha⟩,?_⟩
  obtain⟨Pv,ar⟩:∃Pv:Nat->List V->St->Hp->Prop,∀i ys ag H',Pv i ys ag H'↔(Same H H'/\Cs K H' ys ((ws.take i).map (EB aa ae))/\(∀w∈ws.take i,isW L w=true)/\i<=ws.length/\∃o,ag=[o,some (.ref h)]):=⟨_,fun _ _ _ _=>qk_⟩
  refine IU (xs:=xs) Pv ((ar _ _ _ _).mpr ⟨Same.refl _,by rw[zY_];exact Cs.nil,by simp,jX_ _,none,rfl⟩) s!"" (fun i ys aj H2 hi h2=>?_) (fun i x ys aj H2 hx h2=>?_) (fun ys aj H2 h2 D hD=>?_)
  ·obtain⟨s2,t2,_,ee,_⟩:=(ar _ _ _ _).mp h2
   refine⟨s2.seq ha,?_⟩
   rw[t2.1,ja_,jx_]
   lia
  ·obtain⟨s2,t2,aB,ee,o,rfl⟩:=(ar _ _ _ _).mp h2
   have hi:i<ws.length:=by rw[<-hw.1];exact (jb_.mp hx).1
   have cj:ws[i]?=some ws[i]:=by simp[hi]
   obtain⟨t,e1,e2⟩:=hw.2 i _ cj
   rw[hx]at e1
   cases e1
   have hsz:=cD _ (jc_ cj)
   have ic:ws.take (i+1)=ws.take i++[ws[i]]:=by rw[List.take_succ,cj];rfl
   nofun
   refine⟨h,t,L,aa,ae,ws[i],rfl,hh.mono s2,wf,s2.seqT e2,hsz,fun hv H3 s3=>⟨by lia,fun p hp=>?_⟩,fun hv=>kE ⟨_,jc_ cj,hv⟩⟩
   have sp:=s3.newT (o:=.tup [V.ref t,V.int (MG aa (AB ae ws[i]))]) hp
   refine (ar _ _ _ _).mpr ⟨s2.trans sp,?_,fun w nK=>?_,hi,_,rfl⟩
   ·rw[ic,jS_]
    exact (t2.mono sp).snoc (SqT.of Ab) ((s2.trans sp).seqT e2) hsz
   ·rw[ic]at nK
    rcases jw_.mp nK with z|z
    ·exact aB w z
    ·rw[jq_.mp z];exact hv
  ·obtain⟨s2,t2,aB,_,o,rfl⟩:=(ar _ _ _ _).mp h2
   rw[jW_ (by rw[hw.1];exact jg_ _)]at t2 aB
   exact k aB H2 D ys s2 hD t2
def Ff (aa:α2)(ae:α1)(tr:α2×Int):Bool:=decide (MG aa (AB ae tr.1)≠tr.2)
def Xc (K:α3):Sp:=fun vs H Q E=>∃(h a:Addr) (L:Int) (aa:α2) (ae:α1) (xs:List V) (aE:List (α2×Int)),vs=[.ref h,.ref a]/\AZ K H h L aa ae/\Wf L aa ae/\SqL K H a xs/\Cs K H xs aE /\
 ((∀tr∈aE,isW L tr.1=true)->∀H',Same H H'->((∀tr∈aE,Ff aa ae tr=false)->Q .non H')/\∀(i:Nat) (tr:α2×Int) (x:V),(∀j,j<i->∀tr',aE[j]?=some tr'->Ff aa ae tr'=false)->aE[i]?=some tr->xs[i]?=some x->Ff aa ae tr=true->Q x H') /\
 ((∃tr∈aE,isW L tr.1=false)->False)
def IL   (F:Fun K "first_failed" "first_failed" Cm f fd)(T:Txt mg)
   (cU:⋯ 2 "check_word" BQ ["letters","word"] (Hx K) C0 CG)
   (fF:⋯ 5 "mark_behind" B1 ["house","word"] (MK K) DL C4)
  : nofun 6 f fd ["house","some"] (Xc K):=by
 delta CL
 ·obtain⟨h,a,L,aa,ae,xs,aE,rfl,_⟩:=h;rfl
 ·obtain⟨h,a,L,aa,ae,xs,aE,rfl,hh,wf,ha,ht,k,kE⟩:=h
  have hl:=Ar
  refine⟨_,(Ac (Bs jJ_ rfl (AW (pvD 1)) (Am (i:=2) CL.nd rfl (qY rfl))
   (Af (Bc (Ai cU hr.d AL (Aa (Ag (ixTD Ao) (pvD 0) Ae) (Aa (Ag (ixTD Ao) (pvD 2) Ae) Ad))))))
   (Ac (Bs jJ_ rfl (AW (pvD 1)) (Am (i:=2) CL.nd rfl (qY rfl))
   (Af (BI (ptT (As (opN RJ) (Ai fF hr.d AL (Aa (pvD 0) (Aa (Ag (ixTD Ao) (pvD 2) Ae) Ad))) (Ag (ixTD Ao) (pvD 2) Ae) (AI _)))
   (Af (AH (pvD 2)))
   AK)))
   (Af (AH O0)))),?_⟩
  nofun
  refine⟨⟨_,ha⟩,?_⟩
  obtain⟨Pv,ar⟩:∃Pv:Nat->St->Hp->Prop,∀i ag H',Pv i ag H'↔(Same H H'/\(∀j,j<i->∀tr,aE[j]?=some tr->isW L tr.1=true)/\∃o,ag=[some (.ref h),some (.ref a),o]):=⟨_,fun _ _ _=>qk_⟩
  refine forL (xs:=xs) Pv ((ar _ _ _).mpr ⟨Same.refl _,fun j hj=>absurd hj (qP_ _),none,rfl⟩) (fun i aj H2 _ h2=>((ar _ _ _).mp h2).1.seq ha) (fun i x aj H2 hx h2=>?_) (fun aj H2 h2=>?_)
  ·obtain⟨s2,aB,o,rfl⟩:=(ar _ _ _).mp h2
   have hi:i<aE.length:=by rw[<-ht.1];exact (jb_.mp hx).1
   have bh:aE[i]?=some aE[i]:=by simp[hi]
   obtain⟨t,wt,e1,e2,e3,e4⟩:=ht.2 i _ bh
   rw[hx]at e1
   cases e1
   obtain⟨tm,tw,q1,q2,q3⟩:=hh.mono s2
   nofun
   refine⟨_,q1,_,rfl,?_⟩
   nofun
   refine⟨_,s2.seqT e2,_,rfl,?_⟩
   refine⟨L,wt,aE[i].1,rfl,s2.seqT e3,by lia,fun hv H3 s3=>?_,fun hv=>kE ⟨_,jc_ bh,hv⟩⟩
   refine (ar _ _ _).mpr ⟨s2.trans s3,fun j hj tr ck=>?_,_,rfl⟩
   by_cases iw:j<i
   ·exact aB j iw tr ck
   ·have:j=i:=by lia
    subst this
    rw[bh]at ck
    cases ck
    exact hv
  ·obtain⟨s2,aB,o,rfl⟩:=(ar _ _ _).mp h2
   have hW:∀tr∈aE,isW L tr.1=true:=fun tr bh=>by
    obtain⟨j,hj,ej⟩:=jO_ bh
    exact aB j (by rw[ht.1];exact hj) tr (by rw[jh_ hj,ej])
   nofun
   refine⟨⟨_,s2.seq ha⟩,?_⟩
   obtain⟨Pw,cg⟩:∃Pv:Nat->St->Hp->Prop,∀i ag H',Pv i ag H'↔(Same H H'/\(∀j,j<i->∀tr,aE[j]?=some tr->Ff aa ae tr=false)/\∃o,ag=[some (.ref h),some (.ref a),o]):=⟨_,fun _ _ _=>qk_⟩
   refine forL (xs:=xs) Pw ((cg _ _ _).mpr ⟨s2,fun j hj=>absurd hj (qP_ _),_,rfl⟩) (fun i aC H3 _ h3=>((cg _ _ _).mp h3).1.seq ha) (fun i x aC H3 hx h3=>?_) (fun aC H3 h3=>?_)
   ·obtain⟨s3,dq,o,rfl⟩:=(cg _ _ _).mp h3
    have hi:i<aE.length:=by rw[<-ht.1];exact (jb_.mp hx).1
    have bh:aE[i]?=some aE[i]:=by simp[hi]
    obtain⟨t,wt,e1,e2,e3,e4⟩:=ht.2 i _ bh
    rw[hx]at e1
    cases e1
    have hv:=hW _ (jc_ bh)
    nofun
    refine⟨_,s3.seqT e2,_,rfl,?_⟩
    refine⟨h,wt,L,aa,ae,aE[i].1,rfl,hh.mono s3,wf,s3.seqT e3,e4,fun _ H4 s4=>?_,fun z=>by rw[hv]at z;cases z⟩
    have ki:=s3.trans s4
    nofun
    refine⟨_,ki.seqT e2,_,rfl,rfl,?_⟩
    by_cases he:MG aa (AB ae aE[i].1)=aE[i].2
    ·rw[if_neg (by rw[j4_ (jC_ V.int he)];decide)]
     refine (cg _ _ _).mpr ⟨ki,fun j hj tr ck=>?_,_,rfl⟩
     by_cases iw:j<i
     ·exact dq j iw tr ck
     ·have:j=i:=by lia
      subst this
      rw[bh]at ck
      cases ck
      exact j9_ (fun z=>z he)
    ·rw[if_pos (by rw[j9_ (fun z=>he (V.int.inj z))];decide)]
     exact (k hW H4 ki).2 i _ _ dq bh hx (j4_ he)
   ·obtain⟨s3,dq,o,rfl⟩:=(cg _ _ _).mp h3
    nofun
    refine (k hW H3 s3).1 fun tr bh=>?_
    obtain⟨j,hj,ej⟩:=jO_ bh
    exact dq j (by rw[ht.1];exact hj) tr (by rw[jh_ hj,ej])
def LV (K:α3):Sp:=fun vs H Q E=>∃(h a:Addr) (L:Int) (aa:α2) (ae:α1) (xs:List V) (aE:List (α2×Int)),vs=[.ref h,.ref a]/\AZ K H h L aa ae/\Wf L aa ae/\SqL K H a xs/\Cs K H xs aE /\
 ((∀tr∈aE,isW L tr.1=true)->∀H',Same H H'->Q (.bl (aE.all fun tr => !Ff aa ae tr)) H')/\((∃tr∈aE,isW L tr.1=false)->False)
def Rz   (F:Fun K "passes" "passes" Hw f fd)(T:Txt mg)
   (kN:⋯ 6 "first_failed" Cm ["house","some"] (Xc K) Fg EC)
  : nofun 7 f fd ["house","some"] (LV K):=by
 delta Rg
 ·obtain⟨h,a,L,aa,ae,xs,aE,rfl,_⟩:=h;rfl
 ·obtain⟨h,a,L,aa,ae,xs,aE,rfl,hh,wf,ha,ht,k,kE⟩:=h
  refine⟨_,(Af (AH (UA VO (Ai kN hr.d AL (Aa (pvD 0) (Aa (pvD 1) Ad))) O0 (AI _)))),?_⟩
  nofun
  refine⟨h,a,L,aa,ae,xs,aE,rfl,hh,wf,ha,ht,fun hW H' s=>⟨fun aB=>?_,fun i tr x dq bh hx hf=>?_⟩,kE⟩
  ·nofun
   have:=k hW H' s
   rw[show (aE.all fun tr => !Ff aa ae tr)=true from qR_.mpr fun tr bh=>by rw[aB tr bh];rfl]at this
   exact this
  ·obtain⟨t,wt,e1,_⟩:=ht.2 i tr bh
   rw[hx]at e1
   cases e1
   nofun
   have:=k hW H' s
   rw[show (aE.all fun tr => !Ff aa ae tr)=false from Bool.eq_false_iff.mpr fun z=>by
    have:=qR_.mp z tr (jc_ bh)
    rw[hf]at this
    cases this]at this
   exact this
def MS {K:α3}     (e:SqT K H l zs)(h:AD K H zs ws):Rows K H l ws:=by
 obtain⟨os,x1,x2,x3⟩:=F5 h
 refine⟨os.map (·.1),?_,by rw[<-x2,ja_,ja_],fun i t row hi hrow=>?_⟩
 ·rw[jU_]
  rw[x1]at e
  exact e
 ·rw[<-x2,je_]at hrow
  rw[je_]at hi
  cases ho:os[i]? with
  |none=>rw[ho]at hi;cases hi
  |some o=>
   rw[ho]at hi hrow
   cases hi;cases hrow
   exact SqT.of (x3 o (jc_ ho))
def NZ (K:α3):Sp:=fun vs H Q _=>∃(h a:Addr) (L m:Nat) (ns:α2) (aa:α2) (ae:α1),vs=[.ref h,.ref a,.int m]/\AZ K H h L aa ae/\Wf L aa ae/\aa.length<=15/\m<=3/\SqL K H a (ns.map V.int)/\∀(h':Addr) (mr:α2) (wr:α1) (H':Hp),Same H H'->AZ K H' h' L mr wr->Wf L mr wr->mr.length<=(sM L aa ae).length+m->Q (.ref h') H'
def He   (F:Fun K "_law_rival_by" "_law_rival_by" B6 f fd)(T:Txt mg)
   (a8:⋯ 1 "_law_cell_at" Bl ["script","k"] (IC K) BL BE)
   (bo:⋯ 1 "_law_mixed" BC ["number","k","many"] (F9) Cw Ca)
   (fC:⋯ 2 "_law_blown" Cu ["house","number","rooms"] (KI K) Ew DK)
   (kO:⋯ 1 "_law_spoiled" Cp ["house","number"] (JI K) Fh ED)
   (kP:⋯ 1 "_law_turned_by" BM ["house","number"] (IF K) DW Dn)
   (kQ:⋯ 2 "_law_base" DD ["house"] (NY K) IM GV)
  : nofun 3 f fd ["house","script","many"] (NZ K):=by
 delta AG
 ·obtain⟨h,a,L,m,ns,aa,ae,rfl,_⟩:=h;rfl
 ·obtain⟨h,a,L,m,ns,aa,ae,rfl,hh,wf,h15,nY,hs,k⟩:=h
  have hl:=Ar
  have cV:=wf.l1
  have cW:=wf.l6
  have b8:=wf.n1
  have hsl:(sM L aa ae).length<=aa.length:=by
   rw[GP]
   exact TN wf
  have aQ:=sWf wf
  have jb:=aQ.n1
  refine⟨_,(Ac (Ak (i:=3) AG.nd (Ai kQ hr.d AL (Aa (pvD 0) Ad)))
   (Ac (Be (i:=4) AG.nd rfl (rh rfl) (Ai a8 hr.d AL (Aa (pvD 1) (Aa Ae Ad))))
   (Ac (Ak (i:=5) AG.nd (Ag (ixLD AX) (Bp (Aa Ae (Aa Ae (Aa Ae (Aa Ae (Aa Ae (Aa Ae Ad))))))) (An (opD AM) (pvD 4) Ae)))
   (Ac (Be (i:=4) AG.nd rfl (rh rfl) (An (opD BX) (pvD 4) Ae))
   (Ss (Ak (i:=6) AG.nd (An (opD0 AY) (Aq (lenD Aj) (by rfl) T.len jI_ (Aa (Ag (ixTD Ao) (pvD 3) Ae) Ad)) (pvD 2)))
   (Ac (BI (ptT (As (opE Cb) (pvD 5) Ae (AI _)))
   (Ac (Be (i:=7) AG.nd rfl (rh rfl) (An (opD0 AY) Ae (An (opD AM) (pvD 4) (pvD 6))))
   (Ac (Ec (i:=8) AG.nd rfl rfl rfl (A6 rfl) (cp:=De) ⟨⟨rfl,rfl⟩,⟨⟨rfl,rfl⟩,qW⟩⟩ (AR rfl T.range (Aa (pvD 7) Ad)) (fun _ _ _ _=>(Am (i:=0) EW rfl (qY rfl))) (fun _ _ _ _=>Bg) (fun _ _ _ _=>(Ag (ixTD (Bt (K:=K) rfl)) (Ag (ixTD (Bt (K:=K) rfl)) (pvD 1) Ae) (Ai bo hr.d AL (Aa (pvD 2) (Aa (pvD 0) (Aa (Aq (lenD (JX (K:=K) rfl)) (by rfl) T.len jI_ (Aa (Ag (ixTD (Bt (K:=K) rfl)) (pvD 1) Ae) Ad)) Ad)))))))
   (Ac (Sk (i:=9) AG.nd rfl rfl rfl (U2 rfl) (cp:=Df) ⟨⟨rfl,rfl⟩,⟨⟨rfl,rfl⟩,⟨⟨rfl,rfl⟩,qW⟩⟩⟩ (AR rfl T.range (Aa (pvD 7) Ad)) (fun _ _ _ _=>(Am (i:=0) EX rfl (rh rfl))) (fun _ _ _ _=>Bg) (fun _ _ _ _=>(A5 rfl (A6 rfl) (cp:=Dh) ⟨⟨rfl,rfl⟩,⟨⟨rfl,rfl⟩,⟨⟨rfl,rfl⟩,qW⟩⟩⟩ (AR rfl T.range (Aa (Ag (ixTD (Bt (K:=K) rfl)) (pvD 3) Ae) Ad)) (fun _ _ _ _=>(Am (i:=0) EY rfl (qY rfl))) (fun _ _ _ _=>Bg) (fun _ _ _ _=>(Ai bo hr.d AL (Aa (An (opD0 AY) (pvD 2) Ae) (Aa (An (opD0 AY) (An (opD FA) (pvD 3) Ae) (pvD 0)) (Aa (pvD 1) Ad))))))))
   (Af (AH (Bx (Aa (Ag (ixTD Ao) (pvD 0) Ae) (Aa (AE Az rfl T.tuple jE_ (Aa (pvD 8) Ad)) (Aa (AE Az rfl T.tuple jE_ (Aa (A5 rfl (A6 rfl) (cp:=Di) qW (AW (pvD 9)) (fun _ _ _ _=>(Am (i:=0) EZ rfl (qY rfl))) (fun _ _ _ _=>Bg) (fun _ _ _ _=>(AE (Dx (K:=K) rfl) rfl T.tuple jE_ (Aa (pvD 0) Ad)))) Ad)) Ad)))))))))
   AK)
   (Ac (Ak (i:=10) AG.nd (Ai kP hr.d AL (Aa (Ai fC hr.d AL (Aa (pvD 3) (Aa (pvD 4) (Aa (An (opD0 CQ) (pvD 6) (An (opD AM) (pvD 4) (An (opD0 AY) (pvD 2) Ae))) Ad)))) (Aa (An (opD AM) (pvD 4) Ae) Ad))))
   (Bz (BI (ptT (As (opN RJ) (pvD 5) Ae (AI _)))
   (Af (Ak (i:=10) AG.nd (Ai kO hr.d AL (Aa (pvD 10) (Aa (An (opD0 AY) (An (opD FA) (An (opD BX) (pvD 4) Ae) Ae) (pvD 5)) Ad)))))
   AK)
   (Af (AH (pvD 10))))))))))),?_⟩
  nofun
  refine⟨h,L,aa,ae,rfl,hh,wf,fun hb H1 s1 qG=>?_⟩
  generalize sM L aa ae=ms at aQ jb hsl qG k
  generalize sW L aa ae=vs at aQ qG
  refine⟨a,ns,5,rfl,s1.seq hs,?_⟩
  dsimp only
  generalize cell ns 5=num
  refine⟨by lia,fun p hp=>⟨num,rfl,by decide,?_⟩⟩
  have sp:=s1.newT hp (o:=.lst [V.int 0,V.int 1,V.int 2,V.int 3,V.int 2,V.int 2])
  have sp1:=Same.new hp (o:=.lst [V.int 0,V.int 1,V.int 2,V.int 3,V.int 2,V.int 2])
  have ep:upd H1 p (.lst [V.int 0,V.int 1,V.int 2,V.int 3,V.int 2,V.int 2]) p=some (.lst [V.int 0,V.int 1,V.int 2,V.int 3,V.int 2,V.int 2]):=Ab
  have kR:=qG.mono sp1
  have ot:=hh.mono sp
  generalize upd H1 p (.lst [V.int 0,V.int 1,V.int 2,V.int 3,V.int 2,V.int 2])=H2 at sp sp1 ep kR ot ⊢
  obtain⟨wy,hwy⟩:∃wy:Int,atI [V.int 0,V.int 1,V.int 2,V.int 3,V.int 2,V.int 2] (num%6)=some (V.int wy):=by
   have h0:=qo_ num (show (6:Int)≠0 by decide)
   have h1:=j5_ num (show (0:Int)<6 by decide)
   rcases (show num%6=0\/num%6=1\/num%6=2\/num%6=3\/num%6=4\/num%6=5 by lia) with e|e|e|e|e|e<;>rw[e]<;>exact⟨_,rfl⟩
  obtain⟨tb,wb,b1,b2,b3⟩:=id kR
  refine⟨_,SqL.of ep,_,hwy,num,rfl,⟨by decide,by decide⟩,hb,rfl,_,b1,_,rfl,tb,rfl,_,.inr b2,?_⟩
  rw[ja_]
  refine Sr ?_
  nofun
  refine ite2 (fun h3=>?_) (fun h3=>?_)
  ·have dh:=qo_ (num / 6) (show ((ms.length:Int)+m)≠0 by lia)
   have hr1:=j5_ (num / 6) (show (0:Int)<(ms.length:Int)+m by lia)
   obtain⟨rn,hrn⟩:∃rn:Nat,1+num / 6%((ms.length:Int)+m)=(rn:Int):=⟨(1+num / 6%((ms.length:Int)+m)).toNat,by lia⟩
   rw[hrn]
   have hrn1:1<=rn:=by lia
   have hrnm:rn<=ms.length+m:=by lia
   obtain⟨tm,tw,q1,q2,q3⟩:=id ot
   refine⟨by lia,by lia,by lia,?_⟩
   rw[ji_]
   obtain⟨Pc,dj⟩:∃Pc:Nat->List V->St->Hp->Prop,∀i ys ag H',Pc i ys ag H'↔(H'=H2/\(∃ks:α2,ys=ks.map V.int/\ks.length=i/\∀x∈ks,x∈aa)/\∃o,ag=[o,some (.ref h),some (.int (num / 6))]):=⟨_,fun _ _ _ _=>qk_⟩
   refine JV Pc ((dj _ _ _ _).mpr ⟨rfl,⟨[],rfl,rfl,fun x hx=>by cases hx⟩,none,rfl⟩) s!"" (fun i ys ag H' hi h'=>by obtain⟨_,⟨ks,rfl,e,_⟩,_⟩:=(dj _ _ _ _).mp h';rw[ja_,e];exact jg_ _) (fun i ys ag H' hi h'=>?_) (fun ys ag H' h' pm cb=>?_)
   ·obtain⟨rfl,⟨ks,rfl,gf,nr⟩,o,rfl⟩:=(dj _ _ _ _).mp h'
    nofun
    refine⟨_,q1,_,rfl,_,q1,_,rfl,tm,rfl,_,.inr q2,?_⟩
    rw[ja_]
    refine⟨_,_,_,rfl,by lia,by lia,by lia,fun x dz cz=>?_⟩
    have bO:x.toNat<aa.length:=by lia
    refine⟨tm,rfl,_,x,rfl,q2,_,A7 dz (v:=aa[x.toNat]) (jh_ bO),(dj _ _ _ _).mpr ⟨rfl,⟨ks++[aa[x.toNat]],by simp,by simp[gf],fun y hy=>?_⟩,_,rfl⟩⟩
    rcases jw_.mp hy with hy|hy
    ·exact nr y hy
    ·rw[jq_.mp hy];exact j3_ bO
   ·obtain⟨rfl,⟨mr,rfl,iI,lu⟩,o,rfl⟩:=(dj _ _ _ _).mp h'
    have s3:=Same.new cb (o:=.lst (mr.map V.int))
    have kL:upd H' pm (.lst (mr.map V.int)) pm=some (.lst (mr.map V.int)):=Ab
    generalize upd H' pm (.lst (mr.map V.int))=H3 at s3 kL ⊢
    refine⟨by lia,by lia,?_⟩
    refine JV (fun i ys ag H'=>Same H3 H'/\(∃ws:α1,Nw K H' ys ws/\ws.length=i/\∀row∈ws,row.length=L/\∀x∈row,0<=x/\x<(rn:Int))/\∃o,ag=[o,some (.int rn),some (.int (num / 6)),some (.ref h)]) ⟨Same.refl _,⟨[],⟨rfl,fun i w h=>by simp at h⟩,rfl,fun x hx=>by cases hx⟩,none,rfl⟩ s!"" (fun i ys ag H' hi h'=>by obtain⟨_,⟨ws,hw,e,_⟩,_⟩:=h';rw[hw.1,e];exact jg_ _) (fun i ys ag H4 hi h'=>?_) (fun ys ag H4 h' pw br=>?_)
    ·obtain⟨s4,⟨ws,cY,cD,fO⟩,o,rfl⟩:=h'
     rw[zV_]
     nofun
     refine⟨_,(s3.trans s4).seqT q1,_,rfl,_,rfl,by lia,by lia,?_⟩
     rw[ji_]
     obtain⟨Pd,nu⟩:∃Pc:Nat->List V->St->Hp->Prop,∀j zs ag H',Pc j zs ag H'↔(H'=H4/\(∃ks:α2,zs=ks.map V.int/\ks.length=j/\∀x∈ks,0<=x/\x<(rn:Int))/\∃o,ag=[o,some (.int rn),some (.int (num / 6)),some (.int i)]):=⟨_,fun _ _ _ _=>qk_⟩
     refine JV Pd ((nu _ _ _ _).mpr ⟨rfl,⟨[],rfl,rfl,fun x hx=>by cases hx⟩,none,rfl⟩) s!"" (fun j zs ag H' hj h'=>by obtain⟨_,⟨ks,rfl,e,_⟩,_⟩:=(nu _ _ _ _).mp h';rw[ja_,e];exact jg_ _) (fun j zs ag H' hj h'=>?_) (fun zs ag H' h' D hD=>?_)
     ·obtain⟨rfl,⟨ks,rfl,gf,nr⟩,o,rfl⟩:=(nu _ _ _ _).mp h'
      rw[zV_]
      nofun
      refine⟨.inl ⟨by lia,by lia⟩,_,_,_,rfl,by lia,by lia,by lia,fun x dz cz=>(nu _ _ _ _).mpr ⟨rfl,⟨ks++[x],by simp,by simp[gf],fun y hy=>?_⟩,_,rfl⟩⟩
      rcases jw_.mp hy with hy|hy
      ·exact nr y hy
      ·rw[jq_.mp hy];exact⟨dz,cz⟩
     ·obtain⟨rfl,⟨ks,rfl,gf,nr⟩,o,rfl⟩:=(nu _ _ _ _).mp h'
      refine⟨s4.newT hD,⟨ws++[ks],?_,by simp[cD],fun row hr=>?_⟩,_,rfl⟩
      ·have sD:=Same.new hD (o:=.lst (ks.map V.int))
       refine⟨by rw[jk_,jk_,cY.1];rfl,fun i2 w hw=>?_⟩
       by_cases nG:i2<ws.length
       ·rw[jd_ nG]at hw
        obtain⟨t,a1,a2⟩:=cY.2 i2 w hw
        exact⟨t,by rw[jd_ (by rw[cY.1];exact nG)];exact a1,sD _ _ a2⟩
       ·rw[jm_ s!""]at hw
        have h0:i2-ws.length=0:=by
         have:=(jb_.mp hw).1
         simpa using this
        rw[h0]at hw
        have hw:ks=w:=by simpa using hw
        subst hw
        exact⟨D,by rw[jm_ (by rw[cY.1];lia),cY.1,h0];rfl,Ab⟩
      ·rcases jw_.mp hr with hr|hr
       ·exact fO row hr
       ·rw[jq_.mp hr];exact⟨gf,nr⟩
    ·obtain⟨s4,⟨ws,cY,cD,fO⟩,o,rfl⟩:=h'
     have s5:=s4.newT br (o:=.lst ys)
     have l5:upd H4 pw (.lst ys) pw=some (.lst ys):=Ab
     have fM:Nw K (upd H4 pw (.lst ys)) ys ws:=⟨cY.1,fun i w h=>let ⟨t,a1,a2⟩:=cY.2 i w h;⟨t,a1,Same.new br _ _ a2⟩⟩
     generalize upd H4 pw (.lst ys)=H5 at s5 l5 fM ⊢
     have s35:=s3.trans s5
     refine⟨_,s35.seqT q1,_,rfl,pm,rfl,_,.inl ⟨SqL.of (s5 _ _ kL),fun l eO=>⟨pw,rfl,⟨_,SqL.of (Same.new eO _ _ l5)⟩,?_⟩⟩⟩
     have s6:=s35.newT eO (o:=.tup (mr.map V.int))
     have qH:=Same.new eO (o:=.tup (mr.map V.int))
     have el:upd H5 l (.tup (mr.map V.int)) l=some (.tup (mr.map V.int)):=Ab
     generalize upd H5 l (.tup (mr.map V.int))=H6 at s6 qH el ⊢
     refine IU (xs:=ys) (fun i zs ag H'=>Same H6 H'/\AD K H' zs (ws.take i)/\∃o,ag=[o]) ⟨Same.refl _,AD.nil,none,rfl⟩ (by rw[fM.1];lia) (fun i zs ag H' hi h'=>⟨SqL.of (h'.1 _ _ (qH _ _ l5)),by rw[h'.2.1.1,jx_];lia⟩) (fun i x zs ag H' hx h'=>?_) (fun zs ag H7 h' D hD=>?_)
     ·obtain⟨s7,fP,o,rfl⟩:=h'
      obtain⟨t,w0,cj,rfl,ht⟩:=fM.at hx
      nofun
      refine⟨_,.inl ⟨SqL.of (s7 _ _ (qH _ _ ht)),fun l2 bS=>⟨s7.newT bS,?_,_,rfl⟩⟩⟩
      rw[jQ_,cj,qp_]
      exact (fP.mono (TK.new bS)).snoc Ab
     ·obtain⟨s7,fP,o,rfl⟩:=h'
      rw[fM.1,jP_]at fP
      have lX:AD K (upd H7 D (.lst zs)) zs ws:=fP.mono (TK.new hD)
      have s8:=(s6.trans s7).newT hD (o:=.lst zs)
      have eD:upd H7 D (.lst zs) D=some (.lst zs):=Ab
      have el8:=Same.new hD (o:=.lst zs) _ _ (s7 _ _ el)
      generalize upd H7 D (.lst zs)=H8 at lX s8 eD el8 ⊢
      refine⟨D,rfl,_,.inl ⟨SqL.of eD,fun l1 bE=>⟨by lia,fun p hp=>?_⟩⟩⟩
      have gJ:=(Same.new bE (o:=.tup zs)).newT hp (o:=.tup [V.int L,V.ref l,V.ref l1])
      have e1:=Same.new hp (o:=.tup [V.int L,V.ref l,V.ref l1]) _ _ (Ab (H:=H8) (a:=l1) (o:=.tup zs))
      have e2:upd (upd H8 l1 (.tup zs)) p (.tup [V.int L,V.ref l,V.ref l1]) p=some (.tup [V.int L,V.ref l,V.ref l1]):=Ab
      have gK:=lX.mono (TK.of gJ)
      generalize upd (upd H8 l1 (.tup zs)) p (.tup [V.int L,V.ref l,V.ref l1])=oo at gJ e1 e2 gK ⊢
      refine k p mr ws oo (sp.trans (s8.trans gJ)) ⟨l,l1,SqT.of e2,SqT.of (gJ _ _ el8),MS (SqT.of e1) gK⟩ ⟨cV,cW,by lia,by lia,by lia,fun row hr=>⟨by rw[(fO row hr).1],fun x hx=>by rw[iI];exact (fO row hr).2 x hx⟩,fun m hm=>wf.mks _ (lu m hm)⟩ s!""
  ·have dh:=qo_ (num / 6) (show ((m:Int)+1)≠0 by lia)
   have hr1:=j5_ (num / 6) (show (0:Int)<(m:Int)+1 by lia)
   obtain⟨nb,hnb⟩:∃nb:Nat,(ms.length:Int)+m-num / 6%((m:Int)+1)=(nb:Int):=⟨((ms.length:Int)+m-num / 6%((m:Int)+1)).toNat,by lia⟩
   rw[hnb]
   refine⟨by lia,hb,L,ms,vs,num / 6,nb,rfl,kR,aQ,by lia,fun h4 m4 w4 H4 s4 kz qw qc=>⟨by decide,?_⟩⟩
   refine⟨h4,L,m4,w4,_,rfl,kz,qw,fun ho mo wo H5 s5 hho wfo oM=>?_⟩
   have s05:=(sp.trans s4).trans s5
   obtain⟨R,hR⟩:∃R:St->Hp->Prop,∀ag H',R ag H'↔(∃(hx:Addr) (mx:α2) (wx:α1),Same H H'/\AZ K H' hx L mx wx/\Wf L mx wx/\mx.length<=ms.length+m/\ag=[some (V.ref h),some (V.ref a),some (V.int m),some (V.ref hb),some (V.int (num / 6)),some (V.int wy),some (V.int ((ms.length:Int)+m)),none,none,none,some (.ref hx)]):=⟨_,fun _ _=>qk_⟩
   refine⟨R,?_,fun ag H' h'=>?_⟩
   ·nofun
    refine ite2 (fun _=>?_) (fun _=>(hR _ _).mpr ⟨ho,mo,wo,s05,hho,wfo,by lia,rfl⟩)
    refine⟨⟨by decide,by decide⟩,.inr ⟨by decide,by decide⟩,ho,L,mo,wo,_,rfl,hho,wfo,fun hx mx wx H6 s6 qI qJ hlx=>(hR _ _).mpr ⟨hx,mx,wx,s05.trans s6,qI,qJ,by lia,rfl⟩⟩
   ·obtain⟨hx,mx,wx,s6,qI,qJ,hlx,rfl⟩:=(hR _ _).mp h'
    nofun
    exact k hx mx wx H' s6 qI qJ hlx
def Ga (w1 w2:α1)(L:Int)(n m:Nat)(a b:Int):List ((Int×Int)×α2):=bfsF (Fm w1 w2) L.toNat (n*m+1) [((a,b),[])] 0
def JJ (K:α3):Sp:=fun vs H Q _=>∃(h h2:Addr) (L:Int) (aa aw:α2) (ae az:α1),vs=[.ref h,.ref h2]/\AZ K H h L aa ae/\Wf L aa ae/\AZ K H h2 L aw az/\Wf L aw az /\
 ∀l rs H',Same H H'->H l=none->H' l=some (.lst rs)->E5 H' ((Ga ae az L aa.length aw.length 0 0).map (·.1)) rs->(∃top,B L (Fm ae az) (0,0) (okP aa.length aw.length) (Ga ae az L aa.length aw.length 0 0) (Ga ae az L aa.length aw.length 0 0).length top)->Q (.ref l) H'
def Hf   (F:Fun K "_law_pairs_of" "_law_pairs_of" B7 f fd)(T:Txt mg)
  : nofun 1 f fd ["house","other"] (JJ K):=by
 delta AQ
 ·obtain⟨h,h2,L,aa,aw,ae,az,rfl,_⟩:=h;rfl
 ·obtain⟨h,h2,L,aa,aw,ae,az,rfl,hh,wf,ot,ou,k⟩:=h
  have hl:=Ar
  have cV:=wf.l1
  have cW:=wf.l6
  have aO:=wf.n40
  have hm40:=ou.n40
  refine⟨_,(@Ac _ _ _ _ _ (@Sb _ 2 _ _ _ _ _ _ _ _ (HI hr) AQ.nd rfl (qY rfl) (Bx (Aa Ae (Aa Ae Ad))) L4 rfl (qY rfl))
   (Ac (Ak (i:=3) AQ.nd (Bp (Aa (Bx (Aa Ae (Aa Ae Ad))) Ad)))
   (Ac (Ak (i:=4) AQ.nd Ae)
   (Ac (Dp jJ_ (ptT (As (opD0 HE) (pvD 4) (Aq (lenD Aj) (by rfl) T.len jI_ (Aa (pvD 3) Ad)) (AI _)))
   (Ac (Ak (i:=5) AQ.nd (Ag (ixLD AX) (pvD 3) (pvD 4)))
   (Ac (Bs jJ_ rfl (AR rfl T.range (Aa (Ag (ixTD Ao) (pvD 0) Ae) Ad)) (Am (i:=6) AQ.nd rfl (qY rfl))
   (Ac (Ak (i:=7) AQ.nd (Bx (Aa (Ag (ixTD Ao) (Ag (ixTD Ao) (Ag (ixTD Ao) (pvD 0) Ae) (Ag (ixTD Ao) (pvD 5) Ae)) (pvD 6)) (Aa (Ag (ixTD Ao) (Ag (ixTD Ao) (Ag (ixTD Ao) (pvD 1) Ae) (Ag (ixTD Ao) (pvD 5) Ae)) (pvD 6)) Ad))))
   (Af (BI (O1 (HK (HI hr) (pvD 7) (pvD 2)))
   (Ac (JS (HI hr) (pvD 2) (pvD 7) L4 rfl)
   (Af (Bc (C5 jD_ jM_ jN_ AS (pvD 3) (Aa (pvD 7) Ad)))))
   AK))))
   (Af (Ak (i:=4) AQ.nd (An (opD0 AY) (pvD 4) Ae))))))
   (Af (AH (pvD 3))))))),?_⟩
  nofun
  have b8:=wf.n1
  have iE:=ou.n1
  have hok:okP aa.length aw.length (0,0):=⟨⟨by lia,by show (0:Int)<_;lia⟩,by lia,by show (0:Int)<_;lia⟩
  intro p hp
  refine⟨by lia,fun pk kD=>⟨Same.new kD _ _ Ab,keyP (0,0),Ab,by lia,fun pr dG=>⟨by lia,fun p2 aN=>?_⟩⟩⟩
  have iK:p2≠p:=(Av (Av aN).1).2
  have iL:H p2=none:=(Av (Av (Av (Av aN).1).1).1).1
  have s0:Same H (upd (upd (upd (upd (upd H p (.dT [])) pk (.tup [V.int 0,V.int 0])) p (.dT [(keyP (0,0),V.bl true)])) pr (.tup [V.int 0,V.int 0])) p2 (.lst [V.ref pr])):=((((Same.new hp).newT kD).over hp).newT dG).newT aN
  have mP:upd (upd (upd (upd (upd H p (.dT [])) pk (.tup [V.int 0,V.int 0])) p (.dT [(keyP (0,0),V.bl true)])) pr (.tup [V.int 0,V.int 0])) p2 (.lst [V.ref pr]) p=some (.dT [(keyP (0,0),V.bl true)]):=Same.new aN _ _ (Same.new dG _ _ Ab)
  have dh:upd (upd (upd (upd (upd H p (.dT [])) pk (.tup [V.int 0,V.int 0])) p (.dT [(keyP (0,0),V.bl true)])) pr (.tup [V.int 0,V.int 0])) p2 (.lst [V.ref pr]) p2=some (.lst [V.ref pr]):=Ab
  have st0:Gi (([((0,0),[])]:List ((Int×Int)×α2)).map (·.1)) [(keyP (0,0),V.bl true)]:=rfl
  have fo0:E5 (upd (upd (upd (upd (upd H p (.dT [])) pk (.tup [V.int 0,V.int 0])) p (.dT [(keyP (0,0),V.bl true)])) pr (.tup [V.int 0,V.int 0])) p2 (.lst [V.ref pr])) (([((0,0),[])]:List ((Int×Int)×α2)).map (·.1)) [V.ref pr]:=⟨rfl,fun i q hq=>by
   cases i with
   |zero=>simp at hq;subst hq;exact⟨pr,rfl,Same.new aN _ _ Ab⟩
   |succ i=>simp at hq⟩
  generalize upd (upd (upd (upd (upd H p (.dT [])) pk (.tup [V.int 0,V.int 0])) p (.dT [(keyP (0,0),V.bl true)])) pr (.tup [V.int 0,V.int 0])) p2 (.lst [V.ref pr])=H0 at s0 mP dh st0 fo0 ⊢
  clear aN dG kD
  obtain⟨Pv,ar⟩:∃Pv:Nat->St->Hp->Prop,∀m aj H2,Pv m aj H2↔(∃(ents:List ((Int×Int)×α2)) (kvs:List (List Key×V)) (rs:List V) (i:Nat) (top:Int) (o6 o7 o8:Option V),m=aa.length*aw.length+1-i/\Same H H2/\H2 p=some (.dT kvs)/\H2 p2=some (.lst rs)/\Gi (ents.map (·.1)) kvs/\E5 H2 (ents.map (·.1)) rs/\B L (Fm ae az) (0,0) (okP aa.length aw.length) ents i top/\(∀e,ents[i]?=some e->top<=Au L e.2*L+1)/\bfsF (Fm ae az) L.toNat (aa.length*aw.length+1-i) ents i=Ga ae az L aa.length aw.length 0 0/\aj=[some (.ref h),some (.ref h2),some (.ref p),some (.ref p2),some (.int i),o6,o7,o8]):=⟨_,fun _ _ _=>qk_⟩
  refine HS Pv ⟨_,(ar _ _ _).mpr ⟨_,_,_,0,1,none,none,none,rfl,s0,mP,dh,st0,fo0,B.start L _ hok,fun e he=>?_,rfl,rfl⟩⟩ ?_
  ·simp at he;subst he;simp[Au,AU]
  intro m aj H2 dF
  obtain⟨ents,kvs,rs,i,top,o6,o7,o8,rfl,s2,nI,di,aP,oy,bf,gw,bC,rfl⟩:=(ar _ _ _).mp dF
  have pS:=bf.lenP
  have mI:aa.length*aw.length<=1600:=Nat.mul_le_mul aO hm40
  nofun
  refine⟨_,.inl (SqL.of di),?_⟩
  have cG:rs.length=ents.length:=by rw[oy.1,ja_]
  rw[cG]
  refine ite2 (fun au=>?_) (fun bu=>?_)
  ·have hi:i<ents.length:=by lia
   obtain⟨e,he⟩:∃e,ents[i]?=some e:=⟨ents[i],by simp[hi]⟩
   obtain⟨⟨ra,rb⟩,w⟩:=e
   have a6:=jc_ he
   have bA:okP aa.length aw.length (ra,rb):=bf.rng _ a6
   obtain⟨⟨qK,kB⟩,qL,kC⟩:=id bA
   have htop':top<=Au L w*L+1:=gw _ he
   obtain⟨row,hrow,eE,hrowl⟩:=wf.row qK kB
   obtain⟨row2,eK,hrm2,hrowl2⟩:=ou.row qL kC
   obtain⟨mm,wv,q1,q2,q3⟩:=id hh
   obtain⟨mm',ql,qM,q2',mM⟩:=id ot
   obtain⟨xs,t,z1,z2,z3⟩:=q3.atZ qK hrow
   obtain⟨lJ,t',z1',z2',z3'⟩:=mM.atZ qL eK
   obtain⟨bp,hbp1,hbp2⟩:=oy.2 i (ra,rb) (by rw[je_,he];rfl)
   refine⟨Pv (aa.length*aw.length+1-(i+1)),fun ag H' h=>⟨_,by lia,h⟩,?_⟩
   refine⟨_,SqL.of di,_,Cc (v:=V.ref bp) s!"" (by rw[ji_];exact hbp1),?_⟩
   nofun
   refine⟨_,s2.seqT q1,_,rfl,?_⟩
   nofun
   refine⟨by lia,by lia,?_⟩
   obtain⟨Pn,bU⟩:∃Pn:Nat->St->Hp->Prop,∀x aC H3,Pn x aC H3↔(∃(aq:List ((Int×Int)×α2)) (a7:List (List Key×V)) (iZ:List V) (o7 o8:Option V),Same H H3/\H3 p=some (.dT a7)/\H3 p2=some (.lst iZ)/\Gi (aq.map (·.1)) a7/\E5 H3 (aq.map (·.1)) iZ/\H3 bp=some (.tup [.int ra,.int rb])/\B L (Fm ae az) (0,0) (okP aa.length aw.length) aq i (Au L w*L+(x:Int)+1)/\Sd L (Fm ae az) aq (ra,rb) w x/\aq[i]?=some ((ra,rb),w)/\addF (Fm ae az) (ra,rb) w (L.toNat-x) x aq=addF (Fm ae az) (ra,rb) w L.toNat 0 ents/\aC=[some (.ref h),some (.ref h2),some (.ref p),some (.ref p2),some (.int i),some (.ref bp),o7,o8]):=⟨_,fun _ _ _=>qk_⟩
   refine forR Pn ((bU _ _ _).mpr ⟨ents,kvs,rs,o7,o8,s2,nI,di,aP,oy,hbp2,bf.up (by push_cast;lia),(fun y h0 h1=>absurd h1 (by push_cast;lia)),he,rfl,rfl⟩) (fun x aC H3 hx h3=>?_) (fun aC H3 h3=>?_)
   ·obtain⟨aq,a7,iZ,o7,o8,s3,jN,cH,bR,oz,ng,cI,fj,dU,bF,rfl⟩:=(bU _ _ _).mp h3
    have ex:(0:Int)+(x:Nat)=(x:Int):=by lia
    rw[ex]
    have qN:(x:Int)<L:=by lia
    obtain⟨rw1,g1,c1,c2,c3,c4,c5⟩:=wf.step qK kB (show (0:Int)<=(x:Int) by lia) qN
    obtain⟨pF,g2,d1,d2,d3,d4,d5⟩:=ou.step qL kC (show (0:Int)<=(x:Int) by lia) qN
    rw[hrow]at c1;cases c1
    rw[eK]at d1;cases d1
    have iF:Fm ae az (ra,rb) (x:Int)=(g1,g2):=by show (Bm ae ra x,Bm az rb x)=_;rw[c3,d3]
    have cJ:=jc_ dU
    obtain⟨cK,eF⟩:=cI.letter fj cJ qN (by rw[iF];exact⟨⟨c4,c5⟩,d4,d5⟩)
    have eG:=Se (step:=Fm ae az) (r:=(ra,rb)) (w:=w) (x:=x) dU
    rw[show L.toNat-x=(L.toNat-(x+1))+1 by lia,Qu]at bF
    nofun
    refine⟨_,s3.seqT q1,_,rfl,?_⟩
    nofun
    refine⟨_,SqT.of ng,_,rfl,?_⟩
    nofun
    refine⟨_,s3.seqT z1,_,z2,?_⟩
    nofun
    refine⟨_,s3.seqT z3,_,A7 s!"" c2,_,s3.seqT qM,_,rfl,_,SqT.of ng,_,rfl,_,rfl,_,_,rfl,s3.seqT z1',_,z2',_,rfl,_,s3.seqT z3',_,A7 s!"" d2,by lia,fun p3 cX=>?_⟩
    have sT:=s3.newT cX (o:=.tup [V.int g1,V.int g2])
    have kT:TK H3 (upd H3 p3 (.tup [V.int g1,V.int g2])):=TK.new cX
    have fL:=Same.new cX (o:=.tup [V.int g1,V.int g2]) _ _ jN
    have jP:=Same.new cX (o:=.tup [V.int g1,V.int g2]) _ _ cH
    have qO:=Same.new cX (o:=.tup [V.int g1,V.int g2]) _ _ ng
    have qP:=oz.mono kT
    have i3:upd H3 p3 (.tup [V.int g1,V.int g2]) p3=some (.tup ((keyP (g1,g2)).map kV)):=Ab
    generalize upd H3 p3 (.tup [V.int g1,V.int g2])=nJ at sT kT fL jP qO qP i3 ⊢
    refine⟨_,DGet.t fL i3,?_⟩
    by_cases hm:(g1,g2)∈aq.map (·.1)
    ·have dW:put (Fm ae az) (ra,rb) w aq x=aq:=by unfold put;rw[iF,if_pos hm]
     rw[dW]at cK eF eG bF
     rw[bR.yes hm,if_neg (by decide)]
     exact (bU _ _ _).mpr ⟨aq,a7,iZ,_,_,sT,fL,jP,bR,qP,qO,cK,eF,eG,bF,rfl⟩
    ·have dW:put (Fm ae az) (ra,rb) w aq x=aq++[((g1,g2),w++[(x:Int)])]:=by unfold put;rw[iF,if_neg hm]
     rw[dW]at cK eF eG bF
     rw[bR.no hm,if_pos (by simp)]
     have hlen3:=cI.lenP
     refine⟨_,DPut.t (k:=keyP (g1,g2)) fL i3 (by rw[bR.len,ja_];lia),?_⟩
     have qQ:TK nJ (upd nJ p (.dT (putK a7 (keyP (g1,g2)) (V.bl true)))):=TK.dT fL
     have iM:upd nJ p (.dT (putK a7 (keyP (g1,g2)) (V.bl true))) p2=some (.lst iZ):=by rw[Ah iK];exact jP
     refine⟨.inl ⟨rfl,_,SqL.of iM⟩,_,iM,by rw[oz.1,ja_];lia,(bU _ _ _).mpr ⟨aq++[((g1,g2),w++[(x:Int)])],putK a7 (keyP (g1,g2)) (V.bl true),iZ++[V.ref p3],_,_,(sT.over hp).over iL,?_,Ab,?_,?_,TK.lst iM _ _ (qQ _ _ qO),cK,eF,eG,bF,rfl⟩⟩
     ·rw[Ah (qn_ iK)];exact Ab
     ·have:=bR.put hm (V.bl true)
      simpa using this
     ·have:=((qP.mono qQ).mono (TK.lst (o:=.lst (iZ++[V.ref p3])) iM)).snoc (p:=(g1,g2)) (b:=p3) (TK.lst iM _ _ (qQ _ _ i3))
      simpa using this
   ·obtain⟨aq,a7,iZ,o7,o8,s3,jN,cH,bR,oz,ng,cI,fj,dU,bF,rfl⟩:=(bU _ _ _).mp h3
    rw[qb_,Qt]at bF
    nofun
    obtain⟨cK,du⟩:=cI.next s!"" s!"" fj dU
    refine (ar _ _ _).mpr ⟨aq,a7,iZ,i+1,_,_,_,_,rfl,s3,jN,cH,bR,oz,cK,du,?_,by push_cast;rfl⟩
    rw[show aa.length*aw.length+1-i=(aa.length*aw.length+1-(i+1))+1 by lia,Qs he]at bC
    rw[bF]
    exact bC
  ·have hi:i=ents.length:=by have:=bf.il;lia
   subst hi
   rw[Qr (by simp)]at bC
   rw[<-bC]at k
   exact k p2 rs H2 s2 iL di oy ⟨top,bf⟩
def N0 {L:Nat}{aa mr:α2}{ae wr:α1}{m:Nat}(wf:Wf L aa ae)(hX:Wf L mr wr)(hsz:mr.length<=(sM L aa ae).length+m){E:Nat->α1}
  (eW:∀r,r<(sM L aa ae).length->∀e∈E r,isW L e=true) (e0:∀r,r<(sM L aa ae).length->[]∈E r)
  (sep:∀r s,r<(sM L aa ae).length->s<(sM L aa ae).length->r≠s->∃e,e∈E r/\e∈E s/\bW (sM L aa ae) (sW L aa ae) e r≠bW (sM L aa ae) (sW L aa ae) e s)
  (agr:∀w∈allW (sW L aa ae) (sM L aa ae).length (Dk (L:Int) m) E,mkR aa (AB ae w)=mkR mr (AB wr w)):S0 L aa ae mr wr:=by
 have aQ:=sWf wf
 have cq:=sCan wf
 have hL:=wf.l1
 have A:Asked L (sM L aa ae).length m (sM L aa ae) mr (sW L aa ae) wr (wayW (sW L aa ae)) E:=by
  refine⟨rfl,aQ,hX,hsz,fun r hr=>⟨(LN cq hr).2.1,(LN cq hr).2.2.1⟩,?_,eW,e0,fun r s hr hs ay=>?_,fun r hr v hv hl e he=>?_⟩
  ·obtain⟨top,bf⟩:=Bfs.mk aQ
   exact MO bf.nod (r:=0) (jc_ bf.hd)
  ·obtain⟨e,h1,h2,h3⟩:=sep r s hr hs ay
   exact⟨e,h1,h2,h3⟩
  ·have hw:=LN cq hr
   have hww:=L2.Wf.walk' aQ (BN hw.2.1 hv)
   have iR:=BN (BN hw.2.1 hv) (eW _ s!"" e he)
   rw[WG wf iR]
   exact agr _ (KL.mpr ⟨r,hr,v,(KN s!"").mpr ⟨hv,hl⟩,e,he,rfl⟩)
 intro w hw
 rw[<-WG wf hw]
 exact A.all w hw
def LW {L:Nat}{aa mr:α2}{ae wr:α1}{m:Nat}(wf:Wf L aa ae)(hX:Wf L mr wr)(hsz:mr.length<=(sM L aa ae).length+m)(agr:∀w∈Fb L aa ae m,mkR aa (AB ae w)=mkR mr (AB wr w)):S0 L aa ae mr wr:=by
 have aQ:=sWf wf
 have fin:=Fin17.mk' (b:=bW (sM L aa ae) (sW L aa ae)) (L:=L) aQ.n1 aQ.n40
 refine N0 wf hX hsz (E:=fun _=>(wcOf (sM L aa ae).length L (bW (sM L aa ae) (sW L aa ae))).1) (fun r _ e he=>Ay.mpr (fin.wc.ok e he)) (fun r _=>jc_ fin.wc.w0) (fun r s hr hs ay=>?_) agr
 obtain⟨e,_,_,h3,h4⟩:=Ul (sCan wf) hr hs ay
 exact⟨e,h4,h4,qn_ h3⟩
def MT {L:Nat}{aa mr:α2}{ae wr:α1}{m:Nat}(wf:Wf L aa ae)(hX:Wf L mr wr)(hsz:mr.length<=(sM L aa ae).length+m)(agr:∀w∈KG L aa ae m,mkR aa (AB ae w)=mkR mr (AB wr w)):S0 L aa ae mr wr:=by
 have aQ:=sWf wf
 have fin:=Fin17.mk' (b:=bW (sM L aa ae) (sW L aa ae)) (L:=L) aQ.n1 aQ.n40
 refine N0 wf hX hsz (E:=ownW (sM L aa ae).length (bW (sM L aa ae) (sW L aa ae)) (wcOf (sM L aa ae).length L (bW (sM L aa ae) (sW L aa ae))).1) (fun r _ e he=>?_) (fun r _=>jn_) (fun r s hr hs ay=>?_) agr
 ·unfold ownW at he
  rcases jB_.mp he with rfl|he
  ·rfl
  ·exact Ay.mpr (fin.wc.ok e (KD he))
 ·obtain⟨e,h1,_,h3,h4⟩:=Ul (sCan wf) hr hs ay
  have:=S2 hr hs h1
  exact⟨e,this.1,this.2,qn_ h3⟩
def IP {L:Nat}{aa:α2}{ae:α1}{m:Nat}(wf:Wf L aa ae){w:α2}(h:w∈Fb L aa ae m):isW L w=true/\w.length<=81+m:=by
 have aQ:=sWf wf
 have fin:=Fin17.mk' (b:=bW (sM L aa ae) (sW L aa ae)) (L:=L) aQ.n1 aQ.n40
 have ji:(wcOf (sM L aa ae).length L (bW (sM L aa ae) (sW L aa ae))).1.length<=40:=by
  have h1:=fin.wc.le
  have h2:=GN (wcOf (sM L aa ae).length L (bW (sM L aa ae) (sW L aa ae))).2
  rw[fin.wc.len]at h2
  have:=aQ.n40
  lia
 have cD:=Rl fin.wc
 unfold Fb at h
 rw[KL]at h
 obtain⟨r,hr,v,hv,e,he,rfl⟩:=h
 have hv:=(KN (by have:=wf.l1;lia)).mp hv
 have hw:=LN (sCan wf) hr
 obtain⟨j,hj⟩:=jG_.mp he
 have h1:=cD j e hj
 have h2:=(jb_.mp hj).1
 refine⟨BN (BN hw.2.1 hv.1) (Ay.mpr (fin.wc.ok e he)),?_⟩
 rw[jk_,jk_]
 lia
def OT {L:Nat}{aa:α2}{ae:α1}{m:Nat}(wf:Wf L aa ae){w:α2}(h:w∈KG L aa ae m):isW L w=true/\w.length<=81+m:=IP wf (S1 wf h)
def RA {L:Nat}{aa aw:α2}{ae az:α1}{ents:List ((Int×Int)×α2)}{ok:Int×Int->Prop}{top:Int}(bf:B L (Fm ae az) (0,0) ok ents ents.length top):(∀j,j<ents.length->∀e,ents[j]?=some e->mkW aa e.1.1=mkW aw e.1.2) ↔ ∀v,isW L v=true->mkR aa (AB ae v)=mkR aw (AB az v):=by
 constructor
 ·intro h v hv
  obtain⟨w',hm,_⟩:=bf.leastW hv
  obtain⟨j,hj,ej⟩:=jO_ hm
  have:=h j hj _ (by rw[jh_ hj,ej])
  rw[UZ]at this
  exact this
 ·intro h j hj e he
  have jm:=bf.wd e (jc_ he)
  have h1:=jm.2
  rw[UZ]at h1
  have:=h e.2 jm.1
  rw[<-BH,<-BH,show Bu ae 0 e.2=e.1.1 from jC_ Prod.fst h1,show Bu az 0 e.2=e.1.2 from jC_ Prod.snd h1]at this
  exact this
def S4 (K:α3):Sp:=fun vs H Q _=>∃(a:Addr) (ns:α2),vs=[.ref a]/\SqL K H a (ns.map V.int)/\ns.length<=63/\H (tabP K "in_order")=some (.tbl #[])/\∀H',Q (.bl true) H'
def Xd   (F:Fun K "law" "law" Vs f fd)(T:Txt mg)
   (gL:⋯ 6 "suite" Kr ["house","more"] (NT K) RC N1)
   (gM:⋯ 6 "slim" NL ["house","more"] (Rp K) Uo RD)
   (kU:⋯ 6 "trials_of" DB ["house","words"] (Um K) IQ GX)
   (kW:⋯ 7 "passes" Hw ["house","some"] (LV K) N2 LX)
   (kX:⋯ 3 "_law_house_by" B4 ["script"] (JG K) EE DX)
   (kY:⋯ 2 "_law_more_by" Co ["script","house"] (Rq K) Fi EF)
   (kZ:⋯ 3 "_law_rival_by" B6 ["house","script","many"] (NZ K) EG DY)
   (k9:⋯ 1 "_law_pairs_of" B7 ["house","other"] (JJ K) EH DZ)
  : nofun 8 f fd ["script"] (S4 K):=by
 delta FU
 ·obtain⟨a,ns,rfl,_⟩:=h;rfl
 ·obtain⟨a,ns,rfl,hs,hz,hT,k⟩:=h
  have hl:=Ar
  refine⟨_,(Ac (Ak (i:=1) FU.nd (Ai kX hr.d AL (Aa (pvD 0) Ad)))
   (Ac (Ak (i:=2) FU.nd (Ai kY hr.d AL (Aa (pvD 0) (Aa (pvD 1) Ad))))
   (Ac (Ak (i:=3) FU.nd (Ai kZ hr.d AL (Aa (pvD 1) (Aa (pvD 0) (Aa (pvD 2) Ad)))))
   (Ac (Ak (i:=4) FU.nd L4)
   (Bz (Bs jJ_ rfl (AW (Ai k9 hr.d AL (Aa (pvD 1) (Aa (pvD 3) Ad)))) (Am (i:=5) FU.nd rfl (qY rfl))
   (Af (BI (ptT (As (opN RJ) (Ag (ixTD Ao) (Ag (ixTD Ao) (pvD 1) Ae) (Ag (ixTD Ao) (pvD 5) Ae)) (Ag (ixTD Ao) (Ag (ixTD Ao) (pvD 3) Ae) (Ag (ixTD Ao) (pvD 5) Ae)) (AI _)))
   (Af (Ak (i:=4) FU.nd L4))
   AK)))
   (Ac (Bs jJ_ rfl (AW (Bp (Aa (Ai gL hr.d AL (Aa (pvD 1) (Aa (pvD 2) Ad))) (Aa (Ai gM hr.d AL (Aa (pvD 1) (Aa (pvD 2) Ad))) Ad)))) (Am (i:=6) FU.nd rfl (qY rfl))
   (Ac (Ak (i:=7) FU.nd (Ai kW hr.d AL (Aa (pvD 3) (Aa (Ai kU hr.d AL (Aa (pvD 1) (Aa (pvD 6) Ad))) Ad))))
   (Af (BI (PW.pt (Uw (S6 (ptB (S5 (Aq K6 rfl T.isinstance ur (Aa (pvD 7) (Aa (Uv (v:=.ty "bool") rfl T.bool vw rfl) Ad)))))) (O2 (ptT (As (opN RJ) (pvD 7) (pvD 4) (AI _))))))
   (Af (AH L4))
   AK))))
   (Af (AH L4)))))))),?_⟩
  nofun
  refine⟨a,ns,rfl,hs,fun h L0 aa ae H1 s1 hh wf kA=>?_⟩
  obtain⟨L,rfl⟩:∃L:Nat,L0=(L:Int):=⟨L0.toNat,by have:=wf.l1;lia⟩
  refine⟨a,h,ns,L,aa,ae,rfl,s1.seq hs,hh,wf,fun m H2 hm bq s2=>?_⟩
  refine⟨h,a,L,m,ns,aa,ae,rfl,hh.mono s2,wf,kA,hm,(s1.trans s2).seq hs,fun hr mr wr H3 s3 lV hX hsz=>?_⟩
  have lM:=(s1.trans s2).trans s3
  have mO:=lM _ _ hT
  have oA:=(hh.mono s2).mono s3
  clear s1 s2 s3 hh lM
  dsimp only
  obtain⟨R,hR⟩:∃R:St->Hp->Prop,∀ag H',R ag H'↔(Same H3 H'/\∃(d:Bool) (o:Option V),(d=true ↔ ∀v,isW L v=true->mkR aa (AB ae v)=mkR mr (AB wr v))/\ag=[some (.ref a),some (.ref h),some (.int m),some (.ref hr),some (.bl d),o,none,none]):=⟨_,fun _ _=>qk_⟩
  refine⟨R,?_,fun aC H4 h3=>?_⟩
  ·nofun
   refine⟨h,hr,L,aa,mr,ae,wr,rfl,oA,wf,lV,hX,fun l rs H6 s6 lC lR oB ⟨top,bf⟩=>?_⟩
   generalize Ga ae wr L aa.length mr.length 0 0=ents at oB bf
   obtain⟨tm,tw,q1,q2,q3⟩:=oA.mono s6
   obtain⟨kF,jo,qM,q2',mM⟩:=lV.mono s6
   refine⟨l,rfl,⟨_,SqL.of lR⟩,?_⟩
   obtain⟨Pv,ar⟩:∃Pv:Nat->St->Hp->Prop,∀i ag H',Pv i ag H'↔(H'=H6/\∃(d:Bool) (o:Option V),(d=true ↔ ∀j,j<i->∀e,ents[j]?=some e->mkW aa e.1.1=mkW mr e.1.2)/\ag=[some (.ref a),some (.ref h),some (.int m),some (.ref hr),some (.bl d),o,none,none]):=⟨_,fun _ _ _=>qk_⟩
   refine forL (xs:=rs) Pv ((ar _ _ _).mpr ⟨rfl,true,none,⟨fun _ j hj=>absurd hj (qP_ _),fun _=>rfl⟩,rfl⟩) (fun i ag H' _ h'=>by rw[((ar _ _ _).mp h').1];exact SqL.of lR) (fun i x ag H' hx h'=>?_) (fun ag H' h'=>?_)
   ·obtain⟨rfl,d,o,hd,rfl⟩:=(ar _ _ _).mp h'
    have hi:i<ents.length:=by have:=(jb_.mp hx).1;rw[oB.1,ja_]at this;exact this
    have gT:ents[i]?=some ents[i]:=by simp[hi]
    obtain⟨b,e1,e2⟩:=oB.2 i ents[i].1 (by rw[je_,gT];rfl)
    rw[hx]at e1
    cases e1
    obtain⟨⟨a0,a1⟩,b0,b1⟩:=bf.rng _ (jc_ gT)
    nofun
    refine⟨_,q1,_,rfl,?_⟩
    nofun
    refine⟨_,SqT.of e2,_,rfl,?_⟩
    nofun
    refine⟨_,q2,_,Le a0 a1,_,qM,_,rfl,?_⟩
    nofun
    refine⟨_,SqT.of e2,_,rfl,_,_,rfl,q2',_,Le b0 b1,rfl,?_⟩
    by_cases g8:mkW aa ents[i].1.1=mkW mr ents[i].1.2
    ·rw[if_neg (by rw[j4_ (jC_ V.int g8)];decide)]
     refine (ar _ _ _).mpr ⟨rfl,d,_,⟨fun z j hj e he=>?_,fun z=>hd.mpr fun j hj e he=>z j s!"" e he⟩,rfl⟩
     by_cases iw:j<i
     ·exact hd.mp z j iw e he
     ·have:j=i:=by lia
      subst this
      rw[gT]at he
      cases he
      exact g8
    ·rw[if_pos (by rw[j9_ (fun z=>g8 (V.int.inj z))];decide)]
     exact (ar _ _ _).mpr ⟨rfl,false,_,⟨(fun z=>by cases z),fun z=>absurd (z i s!"" _ gT) g8⟩,rfl⟩
   ·obtain⟨rfl,d,o,hd,rfl⟩:=(ar _ _ _).mp h'
    rw[oB.1,ja_]at hd
    exact (hR _ _).mpr ⟨s6,d,o,hd.trans (RA bf),rfl⟩
  obtain⟨s4,d,o,hd,rfl⟩:=(hR _ _).mp h3
  have lW:=s4 _ _ mO
  have kz:=oA.mono s4
  have hhr4:=lV.mono s4
  clear hR R h3 oA lV
  nofun
  refine⟨h,L,m,aa,ae,rfl,kz,wf,hm,bq,.inl lW,fun D1 H5 qR s5 nS hDn1 hD1 hos1 i4 hsrt1=>?_⟩
  have t5:TSq K H4 H5:=BW.tsq2 (T:=tabP K "in_order") s5 lW
  have qS:=AZ.monoQ kz t5
  have hhr5:=AZ.monoQ hhr4 t5
  obtain⟨ps5,mZ⟩:=nS.is
  refine⟨h,L,m,aa,ae,rfl,qS,wf,hm,bq,nS,fun D2 H6 os2 s6 cW hDn2 hD2 hos2 dv hsrt2=>?_⟩
  have t6:TSq K H5 H6:=BW.tsq2 (T:=tabP K "in_order") s6 mZ
  have hh6:=AZ.monoQ qS t6
  have hhr6:=AZ.monoQ hhr5 t6
  have hD16:H6 D1=some (.lst (aL.wv qR)):=BW.ne (T:=tabP K "in_order") s6 hD1 (fun _ z=>by cases z) mZ
  have hos16:WsT H6 qR:=WsT.monoT (T:=tabP K "in_order") hos1 s6 mZ
  have qT:∀{os:List aL.Wd},WsT H6 os->Wds K H6 (aL.wv os) (os.map (·.2)):=fun h=>by
   have:=Rt (K:=K) h
   exact⟨this.1,fun i w hw=>let ⟨t,a1,a2⟩:=this.2 i w hw;⟨t,a1,SqT.of a2⟩⟩
  -- what both lists are
  have both:∀(D:Addr),(D=D1\/D=D2)->∃(os:List aL.Wd),H6 D=some (.lst (aL.wv os))/\Wds K H6 (aL.wv os) (os.map (·.2))/\os.length<=545600/\(∀w∈os.map (·.2),isW L w=true/\w.length<=84)/\((∀w∈os.map (·.2),mkR aa (AB ae w)=mkR mr (AB wr w))->S0 L aa ae mr wr):=by
   rintro D (rfl|rfl)
   ·refine⟨qR,hD16,qT hos16,?_,fun w hw=>?_,fun h=>LW wf hX hsz fun w hw=>h w (by rw[i4.mem_iff,Ex];exact hw)⟩
    ·have h1:=i4.length_eq
     have h2:=Cg (Fb L aa ae m) []
     have h3:=OS wf bq
     rw[ja_]at h1
     rw[qi_]at h2
     lia
    ·rw[i4.mem_iff,Ex]at hw
     have:=IP wf hw
     exact⟨this.1,by lia⟩
   ·refine⟨os2,hD2,qT hos2,?_,fun w hw=>?_,fun h=>MT wf hX hsz fun w hw=>h w (by rw[dv.mem_iff,Ex];exact hw)⟩
    ·have h1:=dv.length_eq
     have h2:=Cg (KG L aa ae m) []
     have h3:=Rv wf bq
     rw[ja_]at h1
     rw[qi_]at h2
     lia
    ·rw[dv.mem_iff,Ex]at hw
     have:=OT wf hw
     exact⟨this.1,by lia⟩
  clear i4 dv hsrt1 hsrt2 hos1 hos2 hos16 qT hDn1 hDn2 hD1 kz qS hhr4 hhr5
  refine⟨by lia,fun p hp=>?_⟩
  have sp:=Same.new hp (o:=.lst [V.ref D1,V.ref D2])
  have ep:upd H6 p (.lst [V.ref D1,V.ref D2]) p=some (.lst [V.ref D1,V.ref D2]):=Ab
  generalize upd H6 p (.lst [V.ref D1,V.ref D2])=H7 at sp ep ⊢
  refine⟨⟨_,SqL.of ep⟩,?_⟩
  obtain⟨Pv,ar⟩:∃Pv:Nat->St->Hp->Prop,∀i ag H',Pv i ag H'↔(Same H7 H'/\∃(o6 o7:Option V),ag=[some (.ref a),some (.ref h),some (.int m),some (.ref hr),some (.bl d),o,o6,o7]):=⟨_,fun _ _ _=>qk_⟩
  refine forL (xs:=[V.ref D1,V.ref D2]) Pv ((ar _ _ _).mpr ⟨Same.refl _,none,none,rfl⟩) (fun i ag H' _ h'=>SqL.of (((ar _ _ _).mp h').1 _ _ ep)) (fun i x ag H' hx h'=>?_) (fun ag H' h'=>?_)
  ·obtain⟨s7,o6,o7,rfl⟩:=(ar _ _ _).mp h'
   obtain⟨D,rfl,eI⟩:∃D,x=V.ref D/\(D=D1\/D=D2):=by
    match i,hx with
    |0,hx=>cases hx;exact⟨D1,rfl,.inl rfl⟩
    |1,hx=>cases hx;exact⟨D2,rfl,.inr rfl⟩
    |i+2,hx=>simp at hx
   obtain⟨os,hD,jm,hosl,nv,aB⟩:=both D eI
   have jV:=sp.trans s7
   generalize hws:os.map (·.2)=ws at jm nv aB
   nofun
   refine⟨h,D,L,aa,ae,_,ws,rfl,hh6.mono jV,wf,SqL.of (jV _ _ hD),jm.mono jV,fun w hw=>by have:=(nv w hw).2;lia,by simp only[aL.wv,ja_];lia,fun _ H8 D3 ys s8 g9 hTr=>?_,fun hf=>?_⟩
   ·have s9:=s8.newT g9 (o:=.lst ys)
    have eD:upd H8 D3 (.lst ys) D3=some (.lst ys):=Ab
    have hTr9:=hTr.mono (Same.new g9 (o:=.lst ys))
    generalize upd H8 D3 (.lst ys)=H9 at s9 eD hTr9 ⊢
    have htW:∀tr∈ws.map (EB aa ae),isW L tr.1=true:=fun tr bh=>by
     obtain⟨w,hw,rfl⟩:=jt_.mp bh
     exact (nv w hw).1
    have htF:¬ ∃tr∈ws.map (EB aa ae),isW L tr.1=false:=fun ⟨tr,bh,hf⟩=>by rw[htW tr bh]at hf;cases hf
    refine⟨hr,D3,L,mr,wr,ys,_,rfl,(hhr6.mono jV).mono s9,hX,SqL.of eD,hTr9,fun _ oo gJ=>?_,fun hf=>absurd hf htF⟩
    have hpass:(ws.map (EB aa ae)).all (fun tr => !Ff mr wr tr)=d:=by
     rw[qy_,hd,qR_]
     constructor
     ·intro hc
      refine aB fun w hw=>?_
      have:=hc (EB aa ae w) (q6_ hw)
      have hf:Ff mr wr (EB aa ae w)=false:=by simpa using this
      have:=xv_ hf
      exact (j1_ fun z=>this (fun e=>z e.symm))
     ·intro jE tr bh
      obtain⟨w,hw,rfl⟩:=jt_.mp bh
      have e:=jE w (nv w hw).1
      have:Ff mr wr (EB aa ae w)=false:=j9_ fun z=>z e.symm
      rw[this];rfl
    rw[hpass]
    refine⟨_,_,.bl _,Wo,_,R0,?_⟩
    rw[if_neg (by decide)]
    refine⟨rfl,?_⟩
    rw[if_neg (by simp)]
    exact (ar _ _ _).mpr ⟨(s7.trans s9).trans gJ,_,_,rfl⟩
   ·obtain⟨w,hw,hf⟩:=hf
    rw[(nv w hw).1]at hf
    cases hf
  ·obtain⟨s7,o6,o7,rfl⟩:=(ar _ _ _).mp h'
   nofun
   exact k _
end
def all_mk {l:si}{w:World}{K:α3}{h:Heap}{mg:Str->α5}{fa LD C0 Iv JD Rh DE DL Gy LH Iz JC BO IB GS Rk MR ET Cd F8 Ce Es RC Uo IQ Fg N2 BL Cw Et Fd Ew EE Fi Ez Fh DW Fe IM EG EH Xt:Addr}(X:K.In h)(G:h.Ns mainGlobals mg)(hfa:mg "law"=some (.ref fa))
  {JA CG GR IA NO C3 C4 Fy JE GA Iw BJ GC F4 NS KC B8 Fc B9 DH N1 RD GX EC LX BE Ca DU Eu DK DX EF DV ED Dn EA GV DY DZ Uq:α6}
  {MU MV:Option Addr} {MW:Array (α5)} {MX MY MZ M0 M3:Value}
  (j_is_word:HF K "is_word" FO LD JA)
  (j_check_word:HF K "check_word" BQ C0 CG)
  (j_next_word:HF K "next_word" Dz Iv GR)
  (j_words_to:HF K "words_to" ER JD IA)
  (j_trail:HF K "trail" Ko Rh NO)
  (j_room_behind:HF K "room_behind" B0 DE C3)
  (j_mark_behind:HF K "mark_behind" B1 DL C4)
  (j_words_in:HF K "words_in" Dc Gy Fy)
  (j_ways_in:HF K "ways_in" FP LH JE)
  (j_reached:HF K "reached" Ej Iz GA)
  (j_numbered:HF K "numbered" ES JC Iw)
  (j_words_and_classes:HF K "words_and_classes" A8 BO BJ)
  (j_tellers:HF K "tellers" Ek IB GC)
  (j_classes_of:HF K "classes_of" CW GS F4)
  (j_homes:HF K "homes" Kq Rk NS)
  (j_least:HF K "least" Io MR KC)
  (a_j0:HA K "in_order" ET)
  {aI:Addr}
  (l_j0:HL K "in_order" Ci ET MX MU MY MZ M0 MV (.ref aI) M3 MW)
  {aJ:Addr} {oC_in_order:Value} {dC_in_order:Option Addr} {sC_in_order:Array (α5)} {vC_in_order:Array Value} (lc_in_order:K.lookup aI=some ⟨oC_in_order,dC_in_order,.fields vC_in_order,sC_in_order⟩) (hx_in_order:vC_in_order[11]?=some (.ref aJ)) (kt_in_order:K.lookup aJ=none) (ch_in_order:wq K aI aJ=true) (tb_in_order:h.get? aJ=some (rl #[]))
  (c_j0:codeIn K (.ref aI) "in_order"=true)
  (k_j0:keepIn K (.ref ET)=true)
  (j_marks_from_each_room:HF K "marks_from_each_room" Ba Cd B8)
  (j_own_tellers:HF K "own_tellers" CF F8 Fc)
  (j_tellers_of_each_room:HF K "tellers_of_each_room" Bb Ce B9)
  (j_words_with:HF K "words_with" Ct Es DH)
  (j_suite:HF K "suite" Kr RC N1)
  (j_slim:HF K "slim" NL Uo RD)
  (j_trials_of:HF K "trials_of" DB IQ GX)
  (j_first_failed:HF K "first_failed" Cm Fg EC)
  (j_passes:HF K "passes" Hw N2 LX)
  (j__law_cell_at:HF K "_law_cell_at" Bl BL BE)
  (j__law_mixed:HF K "_law_mixed" BC Cw Ca)
  (j__law_marks_by:HF K "_law_marks_by" B3 Et DU)
  (j__law_ways_by:HF K "_law_ways_by" Cn Fd Eu)
  (j__law_blown:HF K "_law_blown" Cu Ew DK)
  (j__law_house_by:HF K "_law_house_by" B4 EE DX)
  (j__law_more_by:HF K "_law_more_by" Co Fi EF)
  (j__law_order_of:HF K "_law_order_of" B5 Ez DV)
  (j__law_spoiled:HF K "_law_spoiled" Cp Fh ED)
  (j__law_turned_by:HF K "_law_turned_by" BM DW Dn)
  (j__law_classes:HF K "_law_classes" Cq Fe EA)
  (j__law_base:HF K "_law_base" DD IM GV)
  (j__law_rival_by:HF K "_law_rival_by" B6 EG DY)
  (j__law_pairs_of:HF K "_law_pairs_of" B7 EH DZ)
  (j_law:HF K "law" Vs Xt Uq)
  (z_all:nsIn K mainGlobals "all"=some none)
  (z_bool:nsIn K mainGlobals "bool"=some none)
  (z_enumerate:nsIn K mainGlobals "enumerate"=some none)
  (z_isinstance:nsIn K mainGlobals "isinstance"=some none)
  (z_len:nsIn K mainGlobals "len"=some none)
  (z_list:nsIn K mainGlobals "list"=some none)
  (z_max:nsIn K mainGlobals "max"=some none)
  (z_min:nsIn K mainGlobals "min"=some none)
  (z_range:nsIn K mainGlobals "range"=some none)
  (z_sorted:nsIn K mainGlobals "sorted"=some none)
  (z_tuple:nsIn K mainGlobals "tuple"=some none)
  (z_zip:nsIn K mainGlobals "zip"=some none)
  : ∃(fd:α6) (c T:Addr),rj K "in_order"=some (c,T)/\K.lookup T=none/\q9 h c T/\h.get? T=some (rl #[])/\(∀(s:Shared) (v:Value),BindsTo s fd ⟨[v],[]⟩ [("script",v)])/\∀base:Heap,K.In base->base.Ns mainGlobals mg->q9 base c T->BmOk mg base->FnOk l.prog w K mg base CX0 8 fa fd ["script"] (S4 K):=by
 have e:=hfa.symm.trans (sS X G j_law.a)
 cases e
 have T:Txt mg:=⟨qq_ X G z_all,qq_ X G z_bool,qq_ X G z_enumerate,qq_ X G z_isinstance,qq_ X G z_len,qq_ X G z_list,qq_ X G z_max,qq_ X G z_min,qq_ X G z_range,qq_ X G z_sorted,qq_ X G z_tuple,qq_ X G z_zip⟩
 have JK:=fun_mk (st:=Ci) l_j0 c_j0 k_j0
 have OU:=JK.binds (ps:=["words"]) fun _ _ _ _ _ _ us hl=>(by obtain⟨y0,rfl⟩:=len1 hl;rfl)
 have OV:=sS X G a_j0
 have ti_in_order:=SM a_j0 l_j0 rfl lc_in_order hx_in_order
 refine⟨Uq,aI,aJ,ti_in_order,kt_in_order,vL X ch_in_order,tb_in_order,j_law.b fun _ _ _ _ _ _ _=>rfl,fun base _ _ hC_ hB_=>?_⟩
 have FL_in_order:=Vr (st:=Ci) ti_in_order l_j0 c_j0 hC_ hB_
 have Z_:Wh l.prog w K mg base:=⟨fun _ _ a=>sS X G a⟩
 have jK:=j_is_word.c Z_ (OM j_is_word.F T )
 have cU:=j_check_word.c Z_ (Ku j_check_word.F T jK)
 have jL:=j_next_word.c Z_ (LF j_next_word.F T cU)
 have j9:=j_words_to.c Z_ (ME j_words_to.F T jL)
 have gv:=j_trail.c Z_ (SR j_trail.F T cU)
 have fi:=j_room_behind.c Z_ (Jb j_room_behind.F T gv)
 have fF:=j_mark_behind.c Z_ (Jc j_mark_behind.F T fi)
 have fk:=j_words_in.c Z_ (ML j_words_in.F T )
 have ka:=j_ways_in.c Z_ (ON j_ways_in.F T fk)
 have ft:=j_reached.c Z_ (OO j_reached.F T fk)
 have iN:=j_numbered.c Z_ (MM j_numbered.F T )
 have fq:=j_words_and_classes.c Z_ (E1 j_words_and_classes.F T iN)
 have fz:=j_tellers.c Z_ (OP j_tellers.F T fq)
 have jX:=j_classes_of.c Z_ (Kx j_classes_of.F T fq)
 have gF:=j_homes.c Z_ (SV j_homes.F T ft jX)
 have fA:=j_least.c Z_ (SW j_least.F T ft gF)
 have OW:=MN (P:=l.prog) (w:=w) (base:=base) FL_in_order T
 have kb:=Cal.mk (x := "in_order") (st:=Ci) OW JK OU OV
 have kf:=j_marks_from_each_room.c Z_ (DI j_marks_from_each_room.F T )
 have kg:=j_own_tellers.c Z_ (Jd j_own_tellers.F T )
 have kh:=j_tellers_of_each_room.c Z_ (DJ j_tellers_of_each_room.F T fz kf kg)
 have fB:=j_words_with.c Z_ (KA j_words_with.F T j9 fi ka kb)
 have gL:=j_suite.c Z_ (SX j_suite.F T fz fA fB)
 have gM:=j_slim.c Z_ (Vv j_slim.F T fA kh fB)
 have kU:=j_trials_of.c Z_ (LU j_trials_of.F T fF)
 have kN:=j_first_failed.c Z_ (IL j_first_failed.F T cU fF)
 have kW:=j_passes.c Z_ (Rz j_passes.F T kN)
 have a8:=j__law_cell_at.c Z_ (ID j__law_cell_at.F T )
 have bo:=j__law_mixed.c Z_ (KH j__law_mixed.F T )
 have kq:=j__law_marks_by.c Z_ (Ha j__law_marks_by.F T bo)
 have kr:=j__law_ways_by.c Z_ (IE j__law_ways_by.F T a8 bo)
 have fC:=j__law_blown.c Z_ (KJ j__law_blown.F T bo)
 have kX:=j__law_house_by.c Z_ (Hb j__law_house_by.F T a8 kq kr fC)
 have kY:=j__law_more_by.c Z_ (IG j__law_more_by.F T a8)
 have kI:=j__law_order_of.c Z_ (Hd j__law_order_of.F T )
 have kO:=j__law_spoiled.c Z_ (IK j__law_spoiled.F T )
 have kP:=j__law_turned_by.c Z_ (GD j__law_turned_by.F T )
 have kJ:=j__law_classes.c Z_ (IJ j__law_classes.F T )
 have kQ:=j__law_base.c Z_ (LS j__law_base.F T kI kJ)
 have kZ:=j__law_rival_by.c Z_ (He j__law_rival_by.F T a8 bo fC kO kP kQ)
 have k9:=j__law_pairs_of.c Z_ (Hf j__law_pairs_of.F T )
 exact Xd j_law.F T gL gM kU kW kX kY kZ k9
def walk {l:si}{q:Program}{cE:List Str}{XP:(Str->α5)->Heap->Prop}{YP:World->Heap->Prop}{d:DefRec}{K:Params->α3}(hn:l.most=some 63)(mf:d.params.defaults=[])
  (hY:∀(w:World) (h:Heap),YP w h->(K w.params).In h)
  (F:∀(w:World) (mg:Str->α5) (fa:Addr) (h:Heap),YP w h->(K w.params).In h->h.Ns mainGlobals mg->mg d.name=some (.ref fa) ->
   ∃(fd:α6) (c T:Addr),rj (K w.params) "in_order"=some (c,T)/\(K w.params).lookup T=none/\q9 h c T/\h.get? T=some (rl #[])/\(∀(s:Shared) (u:Value),BindsTo s fd ⟨[u],[]⟩ [("script",u)])/\∀base:Heap,(K w.params).In base->base.Ns mainGlobals mg->q9 base c T->BmOk mg base->FnOk l.prog w (K w.params) mg base CX0 8 fa fd ["script"] (S4 (K w.params))):
  ve q cE XP YP l.row.toRowW d [] (fun f vs=>ux f vs):=
 L2.walk_ofT (xT := "in_order") (n:=63) (k:=8) (x := "script") (CX:=fun _=>CX0) (sp:=fun w=>S4 (K w.params)) hn (by decide) mf ⟨rfl,by decide,by decide⟩ hY F (fun _ _ a _ _ ns hl ti hT hS=>⟨a,ns,rfl,hS,hl,by rw[Q9 ti];exact hT,fun _=>rfl⟩) fun _ _ _ _ _ z=>z
end Mine
structure PySem.W.Fast:Prop where (tw17937879513927114740 tw13688305929920856003 tw12042906141869751132 tw9384339272434323410 tw10252689145398617840 tw15295872872680221718 tw13681678508979539553 tw15859441684707794388 tw859007965791440959 tw903146191653768815 tw4028075938261455645 tw17950677419396191041 tw2327409567696664933 tw9639836124121059388 tw5700649006269295818 tw2111162124017904815 tw16011073008783391403 tw9576895825749265476 tw703055002467142437 tw10911066479763725901 tw1857459404817482272 tw3476434016252362477 tw18215213939852659075 tw3346772160081243594 tw3810042380053468502 tw7573776613063104706 tw9612314593655642259 tw768323079226913876 tw1015716225315984469 tw2204274290866500618 tw16593220622954954594 tw3506126258375788715 tw12492143125872031751 tw8640767922306730273 tw8331082006225854223 tw1953057081374945055 tw8902782110223672725 tw7173321055356008760 tw4284300934425936779 tw2394972015093432636 tw10094195782996594676 tw15006239275938177021 tw17804753136028558786 tw3798527255503491336 tw15015157080101087418 tw11082966509722415580 tw433071606895748968 tw5992242208094323788 tw6741581087605734833 tw16225939161461178426 tw16023164100838549784 tw914215135336144877 tw3108857901432470466 tw11452003288549916642 tw10770152289749741178 tw16189493909045487658 tw15148713224757825067 tw10904084663529869686 tw2431125871856612374 tw9541112806724696171 tw11427734745511982355 tw16052597261193787161 tw10658426263070241121 tw8723830797093682959 tw556465339600004836 tw5560808546927486581 tw11714362426289684089 tw12567581093800292124 tw8746659471928035612 tw5765500513520695160 tw16158730804712780605 tw12458080493967259901 tw15321276448795431739 tw11033546359428392284 tw10234255352330797355 tw12464296306310564266 tw5598592774649083230 tw792989706496073177 tw5116786556192064342 tw1015996917941412883 tw16576233832308608345 tw16478655242073379663 tw14924442857951351670 tw1472281793880588887 tw12594989342681594326 tw9952167267000087221 tw9500062416273996965 tw5025545949322174959 tw12326761225585422115 tw4215685396365641943 tw10406823964626813424 tw18014164194705799171 tw1609843950408497861 tw14545474334148325095 tw6921803551661603804 tw17768149959794663839 tw16556221695805778401 tw17671518404028501508 tw2688319328180531657 tw3022918780943324002 tw14805450842911212834 tw2314034373452151684 tw8282219357412184253 tw2558894651611728104 tw4899681677037324747 tw4731761616198130691 tw12957700313736752441 tw15553724574910378181 tw566281555944521992 tw13412659339156381682 tw14289885444500089369 tw14934543468660248898 tw16460580164708379095 tw2690027860310602986 tw1388182620713235238 tw7701622292833361183 tw12032889091803065758 tw18047838292312702448 tw9752757797414944705 tw12890832864275427095 tw4220885724227301047 tw8489528816904941235 tw9726432869657030086 tw1439060406021514970 tw9986757792475793528 tw11196986498945685185 tw4594739653909320563 tw3966493733578644642 tw6060444676534517290 tw6835534893527520884 tw179826164046074795 tw1801939410341560424 tw15728326119483897231 tw13299213950422230836 tw10578321010068791570 tw16355718143860149384 tw10512632588957897572 tw3913596259375054352 tw12234258189329078882 tw3761521390624346125 tw3181111093587970824 tw17813237508762262825 tw727551627684631873 tw6805076879066440516 tw11971929634052855499 tw9583641876180399338 tw7634093328422214641 tw16489937370767204433 tw7173395866500339419 tw6324900264562573696 tw16030040903797461207 tw14969152455330446658 tw16739938694604782096 tw2555627841922006801 tw9775273445388975355 tw11956522235919425236 tw17065411793453548527 tw16458525499106069955 tw2944370971724232848 tw16936621034040915185 tw9068160007997738793 tw4570336706335636263 tw3204901267572432332 tw16643931373929043605 tw12191422027157337982 tw4732928072584995374 tw8402862415296617045 tw18012627136526098659 tw2024813993555171547 tw8171190840665518626 tw5579835820439426358 tw11378474222310697838 tw14437294193857536777 tw12251622909271944463 tw17938451022650527041 tw12615005382721863788 tw16933843363876625885 tw14723463821932498114 tw2271311538006727390 tw16533832185001519521 tw3149361900983904864 tw6421943919795127070 tw12361475132334991843 tw14858256857000662335 tw6214418018451333255 tw5535724769453941175 tw6742496523944618339 tw3521606705326929116 tw9535307581528258647 tw17728203515770508763 tw18028377510434787143 tw15306702939104271810 tw10425369849326948150 tw4847621750540979900 tw14942975014082942099 tw10406043130345610899 tw3385802906148740489 tw2024321562251991095 tw2120082884996924528 tw6793089267811575831 tw12632188894514471107 tw17617748146526157721 tw91252672339650458 tw15760063779186741728 tw5399416079064070017 tw14220799281146225120 tw11998743119312292593 tw10119317001372958339 tw5330889126288506507 tw15051860671747634407 tw6379278782962700181 tw12679032339002767066 tw18230341955839017667 tw14806207054310499698 tw14784619309066600264 tw5726169919502423179 tw14983261543854606854 tw3893145016243042035 tw15493708147223670125 tw7742452906872031435 tw8418950957908849383 tw17713592112380127890 tw5480455483591254106 tw11376673729145988889 tw651150366217087308 tw1138655618412213585 tw3050011350812175324 tw5383627813961368052 tw13058876787563343035 tw8408833654188538012 tw6204244224299378414 tw3661330737428983458 tw7952264855366892118 tw15017826050417135281 tw13046872207127546778 tw17340652608519501376 tw5619616610763392167 tw4942266203669755482 tw13026844528514974098 tw3248577840470093115 tw17236756023279016347 tw7163730304341335172 tw12741780239295777465 tw8838651947413701741 tw14873381630846572940 tw3640234109978677078 tw4248190256429341328 tw6559892806914357623 tw16678845409680120220 tw179782284906031970 tw16659212217642793314 tw14704961575059126677 tw9854615229363130914 tw6935290056020863040 tw10414147357333759847 tw10996413391407501333 tw12383889305642477033 tw10849551720819878273 tw13799773977299539137 tw18401183958337493190 tw5975859595412794781 tw5185735050512548176 tw7431578957946768165 tw648487033402546204 tw11741776271155143463 tw17492516130839969286 tw2220546660018261753 tw16002411567544527965 tw750298270995661349 tw9618451606069636683 tw10801543556186596468 tw1166202062995352408 tw8236064131473561235 tw2804109495666279720 tw17210424527518355275 tw3520191865798135367 tw4664888729200346073 tw8055925019378615948 tw8085231207301453397 tw12099813070867993554 tw7253276819318687680 tw11651797870471858981 tw9994280459728324038 tw11007284991128135756 tw12434085662182341946 tw8518544407043566976 tw9881139171515903932 tw2311782786505711968 tw8426730274968449162 tw4495016415797087795 tw3830062083449664903 tw14775873424580935203 tw18190958317141545229 tw13876537162364255009 tw12305988651775648416 tw11928136834271828723 tw8459477005136393112 tw2476860493337097260 tw9929396174372318431 tw15200206870339083576 tw17612994761683720159 tw4615930563081285014 tw856576264281958886 tw713800118403687682 tw15045475105741731670 tw7180416457822683879 tw13719514942922306924 tw5952807785970749034 tw6837677536897790750 tw15475396458271389953 tw13267749060363043894 tw11388811001961267934:True)
open PySem PySem.W PyProof.Rows
set_option maxRecDepth 100000 in
set_option maxHeartbeats 0 in
theorem PySem.Challenge.cw_guessroom_k28_whole_suites_decide_holds : PySem.Challenge.rw_guessroom_k28_whole_suites_decide.Holds := by
  w_on; o_law; k_head; (case hw => w_witness2)
  k_fill
  refine Mine.walk (l := PySem.Challenge.rw_guessroom_k28_whole_suites_decide) rfl rfl (fun w h Y => PySem.W.km_in_of Y) ?F
  case F =>
    intro w mg fa h Y KX G hmg
    refine' Mine.all_mk KX G hmg ?j_is_word ?j_check_word ?j_next_word ?j_words_to ?j_trail ?j_room_behind ?j_mark_behind ?j_words_in ?j_ways_in ?j_reached ?j_numbered ?j_words_and_classes ?j_tellers ?j_classes_of ?j_homes ?j_least ?a_j0 ?l_j0 ?lc_in_order ?hx_in_order ?kt_in_order ?ch_in_order ?tb_in_order ?c_j0 ?k_j0 ?j_marks_from_each_room ?j_own_tellers ?j_tellers_of_each_room ?j_words_with ?j_suite ?j_slim ?j_trials_of ?j_first_failed ?j_passes ?j__law_cell_at ?j__law_mixed ?j__law_marks_by ?j__law_ways_by ?j__law_blown ?j__law_house_by ?j__law_more_by ?j__law_order_of ?j__law_spoiled ?j__law_turned_by ?j__law_classes ?j__law_base ?j__law_rival_by ?j__law_pairs_of ?j_law ?z_all ?z_bool ?z_enumerate ?z_isinstance ?z_len ?z_list ?z_max ?z_min ?z_range ?z_sorted ?z_tuple ?z_zip
    all_goals try unfold L2.HA
    all_goals try unfold L2.HL
    (case j_is_word|j_check_word|j_next_word|j_words_to|j_trail|j_room_behind|j_mark_behind|j_words_in|j_ways_in|j_reached|j_numbered|j_words_and_classes|j_tellers|j_classes_of|j_homes|j_least|j_marks_from_each_room|j_own_tellers|j_tellers_of_each_room|j_words_with|j_suite|j_slim|j_trials_of|j_first_failed|j_passes|j__law_cell_at|j__law_mixed|j__law_marks_by|j__law_ways_by|j__law_blown => constructor; k_is; apply L2.fun_mk <;> k_is)
    (case j__law_house_by|j__law_more_by|j__law_order_of|j__law_spoiled|j__law_turned_by|j__law_classes|j__law_base|j__law_rival_by|j__law_pairs_of|j_law => constructor; k_is; apply L2.fun_mk <;> k_is)
    (case a_j0|l_j0|lc_in_order|c_j0|k_j0|z_all|z_bool|z_enumerate|z_isinstance|z_len|z_list|z_max|z_min|z_range|z_sorted|z_tuple|z_zip=>k_is)
    (case hx_in_order => exact rfl)
    (case kt_in_order => first | k_is | kernel_rfl | exact rfl)
    (case ch_in_order => first | k_is | kernel_rfl)
    (case tb_in_order => exact PySem.W.km_tabs_of Y _ (.head _))
