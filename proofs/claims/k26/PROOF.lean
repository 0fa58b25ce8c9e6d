import PyProof.Rows.All
import Wide.All
import OpenK.AllK
import Wide.FinOn
import Lean
import PyProof.EqAt
import PyProof.EqKinds
import PyProof.TupleCall
import KE.KRevIter
import PyProof.ListRange
import PyProof.TupleOfGen
import PyProof.Draws
import PyProof.EnumMake
import PyProof.EnumFor
import PyProof.NeKinds
import KE.KDictList
import PyProof.Rows.TupDisplay
import PyProof.ZipIter
import PyProof.Rows.ZipGen
import KE.KItemsList
import PyProof.Rows.SumAny
import PyProof.StrWalks
import PyProof.StrCalls
import PyProof.StrCalls3
import PyProof.StrLawsFirst
import PyProof.StrLawsIn
import PyProof.SliceStr2
import PyProof.StrBlockI
import PyProof.Rows.StrWeight2
import PyProof.ListNew
import PyProof.DictRoadsH
import PyProof.WalkInts
import PyProof.Rows.MinMaxN
import KE.KDictLaws
import PyProof.StrCalls2
import PyProof.StrLawsChain
import KE.KIntText
import KE.KxText
import KE.KMinKey
import KE.KPairComp
import PyProof.MaxThree
import PyProof.DictValues
import OpenK.KCls
import PyProof.Rows.SortShellK
import KE.KSortTup
import KE.KLam
import KE.KNestM
import PySem.Challenge.RW_guessroom_k26_whole_suite_is_enough
set_option compiler.extract_closed false
local macro_rules | `(s!$_) => `(by lia)
namespace Al
noncomputable abbrev ja_:=@List.length_map
noncomputable abbrev jb_:=@List.getElem?_eq_some_iff
noncomputable abbrev jc_:=@List.mem_of_getElem?
noncomputable abbrev jd_:=@List.getElem?_map
noncomputable abbrev je_:=@PySem.wpAny_bind
noncomputable abbrev jf_:=@List.getElem?_eq_getElem
noncomputable abbrev jg_:=@Nat.le_refl
noncomputable abbrev jh_:=@List.getD_eq_getElem?_getD
noncomputable abbrev ji_:=@Int.toNat_natCast
noncomputable abbrev jj_:=@List.getElem?_append_left
noncomputable abbrev jk_:=@List.mem_cons_of_mem
noncomputable abbrev jl_:=@List.size_toArray
noncomputable abbrev jm_:=@PySem.Heap.get?_push_of_some
noncomputable abbrev jn_:=@List.mem_cons_self
noncomputable abbrev jo_:=@List.length_append
noncomputable abbrev jp_:=@Option.some.inj
noncomputable abbrev jq_:=@List.mem_singleton
noncomputable abbrev jr_:=@List.getElem?_append_right
noncomputable abbrev js_:=@PySem.Heap.lt_size
noncomputable abbrev jt_:=@Bool.false_ne_true
noncomputable abbrev ju_:=@PySem.wpAny_pure
noncomputable abbrev jv_:=@List.mem_map
noncomputable abbrev jw_:=@List.mem_append_right
noncomputable abbrev jx_:=@Nat.lt_of_lt_of_le
noncomputable abbrev jy_:=@PyProof.Rows.wpS_bind
noncomputable abbrev jz_:=@PyProof.Rows.boot_tuple
noncomputable abbrev jA_:=@List.mem_append
noncomputable abbrev jB_:=@List.length_take
noncomputable abbrev jC_:=@PySem.Heap.get?_push_size
noncomputable abbrev jD_:=@congrArg
noncomputable abbrev jE_:=@PySem.F.plainAttrs_list
noncomputable abbrev jF_:=@PySem.W.mg_of
noncomputable abbrev jG_:=@List.mem_iff_getElem?
noncomputable abbrev jH_:=@PyProof.Rows.wpS_pure
noncomputable abbrev jI_:=@PySem.boot_len
noncomputable abbrev jJ_:=@PySem.PassesOwn.never
noncomputable abbrev jK_:=@Nat.ne_of_lt
noncomputable abbrev jL_:=@List.mem_cons
noncomputable abbrev jM_:=@PySem.F.slot_list_append
noncomputable abbrev jN_:=@PySem.F.type_list_append
noncomputable abbrev jO_:=@List.take_of_length_le
noncomputable abbrev jP_:=@List.mem_range
noncomputable abbrev jQ_:=@List.getElem?_eq_none
noncomputable abbrev jR_:=@List.getElem_of_mem
noncomputable abbrev jS_:=@List.map_append
noncomputable abbrev jT_:=@List.take_length
noncomputable abbrev jU_:=@List.take_add_one
noncomputable abbrev jV_:=@List.length_cons
noncomputable abbrev jW_:=@List.map_map
noncomputable abbrev jX_:=@Nat.zero_le
noncomputable abbrev jY_:=@Bool.false_eq_true
noncomputable abbrev jZ_:=@Int.emod_lt_of_pos
noncomputable abbrev j0_:=@List.length_singleton
noncomputable abbrev j1_:=@List.map_cons
noncomputable abbrev j2_:=@List.getElem_mem
noncomputable abbrev j3_:=@Array.length_toList
noncomputable abbrev j4_:=@List.lookup_cons
noncomputable abbrev j5_:=@Nat.lt_irrefl
noncomputable abbrev j6_:=@Int.emod_nonneg
noncomputable abbrev j7_:=@PySem.Heap.get?_update_other
noncomputable abbrev j8_:=@List.mem_append_left
noncomputable abbrev j9_:=@Classical.byContradiction
noncomputable abbrev qa_:=@Bool.and_eq_true
noncomputable abbrev qb_:=@PySem.W.mg_none_of
noncomputable abbrev qc_:=@decide_eq_false
noncomputable abbrev qd_:=@PyProof.Rows.callWith_type1
noncomputable abbrev qe_:=@PySem.mem_of_lookup
noncomputable abbrev qf_:=@List.replicate_succ
noncomputable abbrev qg_:=@decide_eq_true
noncomputable abbrev qh_:=@List.append_assoc
noncomputable abbrev qi_:=@List.append_nil
noncomputable abbrev qj_:=@List.map_congr_left
noncomputable abbrev qk_:=@Iff.rfl
noncomputable abbrev ql_:=@Nat.le_trans
noncomputable abbrev qm_:=@PySem.W.kia_one
noncomputable abbrev qn_:=@PySem.wpAny_loadPart'
noncomputable abbrev qo_:=@decide_eq_true_eq
noncomputable abbrev qp_:=@PyProof.Rows.KeyOrd.kle_of_klt
noncomputable abbrev qq_:=@List.length_replicate
noncomputable abbrev qr_:=@Int.mul_le_mul_of_nonneg_right
noncomputable abbrev qs_:=@Nat.sub_self
noncomputable abbrev qt_:=@List.length_nil
noncomputable abbrev qu_:=@PySem.Heap.size_push
noncomputable abbrev qv_:=@of_decide_eq_true
noncomputable abbrev qw_:=@Array.getElem?_eq_getElem
noncomputable abbrev qx_:=@Ne.symm
noncomputable abbrev qy_:=@List.drop_eq_nil_of_le
noncomputable abbrev qz_:=@Bool.eq_iff_iff
noncomputable abbrev qA_:=@List.nodup_cons
noncomputable abbrev qB_:=@List.getElem?_range
noncomputable abbrev qC_:=@Nat.lt_or_ge
noncomputable abbrev qD_:=@List.idxOf_lt_length_of_mem
noncomputable abbrev qE_:=@PyProof.Rows.KeyOrd.kle_refl
noncomputable abbrev qF_:=@PyProof.Rows.wpS_forRange
noncomputable abbrev qG_:=@List.all_eq_true
noncomputable abbrev qH_:=@PySem.wpAny_callSpecial?_slot
noncomputable abbrev qI_:=@List.ext_getElem?
noncomputable abbrev qJ_:=@List.foldl_append
noncomputable abbrev qK_:=@Option.toList_some
noncomputable abbrev qL_:=@List.getElem?_set_self
noncomputable abbrev qM_:=@PySem.wpAny_mono
noncomputable abbrev qN_:=@List.length_pos_of_mem
noncomputable abbrev qO_:=@List.length_set
noncomputable abbrev qP_:=@List.getElem?_zip_eq_some
noncomputable abbrev qQ_:=@Array.toList_append
noncomputable abbrev qR_:=@Nat.ne_of_gt
noncomputable abbrev qS_:=@PySem.wpAny_newObj_type
noncomputable abbrev qT_:=@PySem.Heap.get?_update_self
noncomputable abbrev qU_:=@List.length_erase_of_mem
noncomputable abbrev qV_:=@List.length_range
noncomputable abbrev qW_:=@PySem.F.slot_dict_keyiterator_next
noncomputable abbrev qX_:=@PySem.wpAny_holding
noncomputable abbrev qY_:=@List.getElem_idxOf
noncomputable abbrev qZ_:=@List.reverse_reverse
noncomputable abbrev q0_:=@List.pairwise_append
noncomputable abbrev q1_:=@Nat.le_of_lt
noncomputable abbrev q2_:=@List.mem_reverse
noncomputable abbrev q3_:=@if_false
noncomputable abbrev q4_:=@List.reverse_append
noncomputable abbrev q5_:=@List.mem_map_of_mem
noncomputable abbrev q6_:=@List.drop_eq_getElem_cons
noncomputable abbrev q7_:=@List.foldl_cons
noncomputable abbrev q8_:=@List.take_append_drop
noncomputable abbrev q9_:=@List.pairwise_reverse
noncomputable abbrev xa_:=@List.length_drop
noncomputable abbrev xb_:=@PySem.wpAny_typeNameOfWhole_keyiter
noncomputable abbrev xc_:=@PyProof.Rows.KeyOrd.kle_trans
noncomputable abbrev xd_:=@List.getElem?_set_ne
noncomputable abbrev xe_:=@List.mem_erase_of_ne
noncomputable abbrev xf_:=@List.mem_of_mem_take
noncomputable abbrev xg_:=@PyProof.Rows.boot_isinstance
noncomputable abbrev xh_:=@Nat.lt_succ_of_lt
noncomputable abbrev xi_:=@Nat.not_lt_zero
noncomputable abbrev xj_:=@Int.toNat_of_nonneg
noncomputable abbrev xk_:=@PyProof.Rows.boot_list
noncomputable abbrev xl_:=@PySem.wpAny_call_entry
noncomputable abbrev xm_:=@PySem.Calls.spliced_cons
noncomputable abbrev xn_:=@PySem.wpAny_Call_Name_kw
noncomputable abbrev xo_:=@Array.getElem?_toList
noncomputable abbrev xp_:=@Nat.lt_of_sub_eq_succ
noncomputable abbrev xq_:=@of_decide_eq_false
noncomputable abbrev xr_:=@List.getElem?_eq_none_iff
noncomputable abbrev xs_:=@List.mem_of_find?_eq_some
noncomputable abbrev xt_:=@List.pairwise_iff_getElem
noncomputable abbrev xu_:=@PySem.wpAny_truthy_bool
noncomputable abbrev xv_:=@PySem.wpAny_passesOwn
noncomputable abbrev xw_:=@List.of_mem_zip
noncomputable abbrev xx_:=@List.getElem?_take_of_lt
noncomputable abbrev xy_:=@PyProof.Rows.slot_tuple_getitem
noncomputable abbrev xz_:=@List.flatten_cons
noncomputable abbrev xA_:=@PySem.call_meets
noncomputable abbrev xB_:=@PySem.wpAny_typeNameOf_keyiter
noncomputable abbrev xC_:=@List.pairwise_map
noncomputable abbrev xD_:=@Nat.le_of_succ_le
noncomputable abbrev xE_:=@List.cons.injEq
noncomputable abbrev xF_:=@List.idxOf_lt_length_iff
noncomputable abbrev xG_:=@Int.le_of_lt
noncomputable abbrev xH_:=@PySem.wpAny_attempt
noncomputable abbrev xI_:=@List.length_reverse
noncomputable abbrev xJ_:=@List.getElem_inj
noncomputable abbrev xK_:=@PySem.W.cellsFrom_some
noncomputable abbrev xL_:=@PySem.wpAny_pyIter_tuple
noncomputable abbrev xM_:=@PySem.wpAny_setField_rec
noncomputable abbrev xN_:=@List.find?_eq_none
noncomputable abbrev xO_:=@if_true
noncomputable abbrev xP_:=@List.map_nil
noncomputable abbrev xQ_:=@List.nil_append
noncomputable abbrev xR_:=@List.find?_cons
noncomputable abbrev xS_:=@List.range_succ
noncomputable abbrev xT_:=@PySem.Calls.spliced_nil
noncomputable abbrev xU_:=@Nat.not_lt
noncomputable abbrev xV_:=@PyProof.Rows.wpS_mono
noncomputable abbrev xW_:=@Array.getElem?_eq_some_iff
noncomputable abbrev xX_:=@Array.perm_iff_toList_perm
noncomputable abbrev xY_:=@List.mem_iff_getElem
noncomputable abbrev xZ_:=@Array.toList_reverse
noncomputable abbrev x0_:=@List.mem_or_eq_of_mem_set
noncomputable abbrev x1_:=@PySem.IsL.update
noncomputable abbrev x2_:=@List.any_eq_true
noncomputable abbrev x3_:=@PySem.F.plain_extend_loop
noncomputable abbrev x4_:=@PySem.Heap.SameBut.update
noncomputable abbrev x5_:=@PySem.F.args_tuple_add_2
noncomputable abbrev x6_:=@PySem.wpAny_comprehension_free
noncomputable abbrev x7_:=@PySem.AutoSeq1.wpAny_loadPart'
noncomputable abbrev x8_:=@List.getElem?_replicate
noncomputable abbrev x9_:=@PySem.F.entry_tuple_add
noncomputable abbrev za_:=@Option.isSome_some
noncomputable abbrev zb_:=@PySem.tupleKind_room_in1
noncomputable abbrev zc_:=@List.getElem?_cons_zero
noncomputable abbrev zd_:=@PyProof.Rows.KK_mirror_equal
noncomputable abbrev ze_:=@List.set_cons_zero
noncomputable abbrev zf_:=@List.map_replicate
noncomputable abbrev zg_:=@PySem.F.slot_tuple_add
noncomputable abbrev zh_:=@PySem.Calls.callWith_builtin
noncomputable abbrev zi_:=@List.reverse_replicate
noncomputable abbrev zj_:=@PySem.wpAny_pyIter_list
noncomputable abbrev zk_:=@Option.some.injEq
noncomputable abbrev zl_:=@Int.le_refl
noncomputable abbrev zm_:=@List.nodup_append
noncomputable abbrev zn_:=@PySem.wpAny_dictEntries
noncomputable abbrev zo_:=@Int.mul_nonneg
noncomputable abbrev zp_:=@PySem.F.slot_dict_get
noncomputable abbrev zq_:=@PySem.wpAny_isOneOf_keyiter
noncomputable abbrev zr_:=@Nat.zero_add
noncomputable abbrev zs_:=@PyProof.Rows.boot_max
noncomputable abbrev zt_:=@Nat.lt_succ_self
noncomputable abbrev zu_:=@PySem.F.slot_tuple_mul
noncomputable abbrev zv_:=@List.cons_append
noncomputable abbrev zw_:=@List.nodup_range
noncomputable abbrev zx_:=@List.mem_flatMap
noncomputable abbrev zy_:=@PySem.Calls.evalArgs_plain
noncomputable abbrev zz_:=@PySem.F.args_list_append_2
noncomputable abbrev zA_:=@List.any_cons
noncomputable abbrev zB_:=@PyProof.Rows.wpS_modify
noncomputable abbrev zC_:=@beq_eq_false_iff_ne
noncomputable abbrev zD_:=@List.mem_filter
noncomputable abbrev zE_:=@List.filterMap_cons
noncomputable abbrev zF_:=@PySem.wpAny_execs_nil
noncomputable abbrev zG_:=@PySem.F.slot_int_rmul
noncomputable abbrev zH_:=@List.idxOf_cons
noncomputable abbrev zI_:=@List.length_pos_iff
noncomputable abbrev zJ_:=@List.length_zip
noncomputable abbrev zK_:=@List.find?_some
noncomputable abbrev zL_:=@List.toList_toArray
noncomputable abbrev zM_:=@List.zip_cons_cons
noncomputable abbrev zN_:=@Nat.lt_of_le_of_lt
noncomputable abbrev zO_:=@List.map_inj_right
noncomputable abbrev zP_:=@Int.zero_add
noncomputable abbrev zQ_:=@Bool.not_false
noncomputable abbrev zR_:=@List.take_zero
noncomputable abbrev zS_:=@PySem.W.kitx_list
noncomputable abbrev zT_:=@PySem.list_append
noncomputable abbrev zU_:=@beq_iff_eq
noncomputable abbrev zV_:=@List.idxOf_append
noncomputable abbrev zW_:=@List.getElem_drop
noncomputable abbrev zX_:=@Nat.le_succ
noncomputable abbrev zY_:=@Int.add_mul
noncomputable abbrev zZ_:=@Bool.not_true
noncomputable abbrev α0:=List (List (List Int))
noncomputable abbrev α1:=List (List Int)
noncomputable abbrev α2:=List Int
noncomputable abbrev α3:=PySem.W.Frag
noncomputable abbrev α5:=Option PySem.Value
noncomputable abbrev α6:=PySem.FuncData
noncomputable abbrev α7:=List (PySem.Addr×PySem.Obj)
end Al
open Al
open PySem.W (nsIn keepIn codeIn fnOf kitOne)
set_option Elab.async false
set_option linter.all false
set_option maxRecDepth 100000
namespace L2
open PySem PySem.Spec PyProof.Rows
noncomputable abbrev Key:=Sum Int Str
noncomputable def SH:Key->Value->Bool
 |.inl k,v=>Value.isInt k v
 |.inr x,v=>Value.isStrOf x v
noncomputable def keyH (w:World):Key->Int
 |.inl k=>hashInt k
 |.inr x=>hashStr w x
theorem BR:∀{k:Key} {v:Value},SH k v=true->(∃i t,k=Sum.inl i/\v=Value.int i t)\/(∃x t,k=Sum.inr x/\v=Value.str x t)
 |.inl i,v,h=>by
  obtain⟨t,e⟩:=Value.isInt_shape (k:=i) (v:=v) h
  exact .inl ⟨i,t,rfl,e⟩
 |.inr x,v,h=>by
  obtain⟨t,e⟩:=Value.isStrOf_shape (x:=x) (v:=v) h
  exact .inr ⟨x,t,rfl,e⟩
theorem W4 (i:Int)(t:Tok):SH (.inl i) (.int i t)=true:=by simp[SH,Value.isInt]
theorem W5 (x:Str)(t:Tok):SH (.inr x) (.str x t)=true:=by simp[SH,Value.isStrOf]
theorem Dh_ (a b:Int):decide ((Sum.inl a:Key)=Sum.inl b)=(a==b):=by
 by_cases e:a=b
 ·subst e;simp
 ·have h:¬ (Sum.inl a:Key)=Sum.inl b:=fun q=>e (Sum.inl.inj q)
  rw[qc_ h]
  exact (zC_.mpr e).symm
theorem Di_ (a b:Str):decide ((Sum.inr a:Key)=Sum.inr b)=decide (a=b):=by
 by_cases e:a=b
 ·subst e;simp
 ·have h:¬ (Sum.inr a:Key)=Sum.inr b:=fun q=>e (Sum.inr.inj q)
  rw[qc_ h,qc_ e]
theorem Dj_ (a:Int)(b:Str):decide ((Sum.inl a:Key)=Sum.inr b)=false:=qc_ (fun q=>nomatch q)
theorem Dk_ (a:Str)(b:Int):decide ((Sum.inr a:Key)=Sum.inl b)=false:=qc_ (fun q=>nomatch q)
noncomputable def B1 (prog:Program)(w:World):PySem.KeyKind prog w Key where
 is:=SH
 hash:=keyH w
 inj:=fun v a b ha hb=>by
  rcases BR ha with ⟨i,t,rfl,rfl⟩|⟨x,t,rfl,rfl⟩
  ·rcases BR hb with ⟨j,u,rfl,e⟩|⟨y,u,rfl,e⟩
   ·injection e with e1 _;rw[e1]
   ·exact nomatch e
  ·rcases BR hb with ⟨j,u,rfl,e⟩|⟨y,u,rfl,e⟩
   ·exact nomatch e
   ·injection e with e1 _;rw[e1]
 byValue:=fun k v h=>by
  rcases BR h with ⟨i,t,rfl,rfl⟩|⟨x,t,rfl,rfl⟩<;>rfl
 pyHash:=fun hv h=>by
  rcases BR hv with ⟨i,t,rfl,rfl⟩|⟨x,t,rfl,rfl⟩
  ·exact wpAny_pyHash_int h
  ·exact wpAny_pyHash_str h
 eqBool:=fun hu hv h=>by
  rcases BR hu with ⟨i,t,rfl,rfl⟩|⟨x,t,rfl,rfl⟩
  ·rcases BR hv with ⟨j,u,rfl,rfl⟩|⟨y,u,rfl,rfl⟩
   ·rw[Dh_]at h;exact wpAny_eqBool_int h
   ·rw[Dj_]at h;exact SeqAt.EqAt.int_str i t y u _ _ _ _ h
  ·rcases BR hv with ⟨j,u,rfl,rfl⟩|⟨y,u,rfl,rfl⟩
   ·rw[Dk_]at h;exact SeqAt.EqAt.str_int x t j u _ _ _ _ h
   ·rw[Di_]at h;exact wpAny_eqBool_str h
 «strs» := fun k x t v h=>by
  rcases BR h with ⟨i,u,rfl,e⟩|⟨y,u,rfl,e⟩
  ·exact nomatch e
  ·injection e with e1 _
   subst e1
   cases v<;>rfl
theorem SI (prog:Program)(w:World)(i:Int)(t:Tok):(B1 prog w).is (.inl i) (.int i t)=true:=W4 i t
theorem SJ (prog:Program)(w:World)(x:Str)(t:Tok):(B1 prog w).is (.inr x) (.str x t)=true:=W5 x t
inductive V where
 | non|bl (b:Bool)|int (i:Int)|str (x:Str)|byt (b:Array UInt8)|flt (b:UInt64)|ref (a:Addr)|ty (n:String)
 deriving DecidableEq
noncomputable def RelV:V->Value->Prop
 |.non,u=>u=Value.none
 |.bl b,u=>u=Value.bool b
 |.int i,u=>∃t,u=Value.int i t
 |.str x,u=>∃t,u=Value.str x t
 |.byt b,u=>∃t,u=Value.bytes b t
 |.flt b,u=>∃t,u=Value.float b t
 |.ref a,u=>u=Value.ref a
 |.ty n,u=>u=Value.type n
noncomputable abbrev Vals:List V->List Value->Prop:=Paired RelV
theorem Vals.length   (r:Vals xs us):xs.length=us.length:=Paired.length r
theorem Vals.get:∀{xs:List V} {us:List Value} {i:Nat} {x:V},Vals xs us->xs[i]?=some x->∃u,us[i]?=some u/\RelV x u
 |_,_,_,_,.nil,e=>by simp at e
 |_,_,0,_,.cons r _,e=>by simp at e;subst e;exact⟨_,rfl,r⟩
 |_,_,i+1,x,.cons _ t,e=>by
  obtain⟨u,h1,h2⟩:=Vals.get (i:=i) (x:=x) t (by simpa using e)
  exact⟨u,by simpa using h1,h2⟩
theorem Vals.set {x:V}{u:Value}(r:RelV x u):∀{xs:List V} {us:List Value} (i:Nat),Vals xs us->Vals (xs.set i x) (us.set i u)
 |_,_,_,.nil=>.nil
 |_,_,0,.cons _ t=>.cons r t
 |_,_,i+1,.cons q t=>.cons q (Vals.set r i t)
theorem Vals.append:∀{xs ys:List V} {us ws:List Value},Vals xs us->Vals ys ws->Vals (xs++ys) (us++ws)
 |_,_,_,_,.nil,s=>s
 |_,_,_,_,.cons r t,s=>.cons r (Vals.append t s)
theorem Vals.take:∀{xs:List V} {us:List Value} (n:Nat),Vals xs us->Vals (xs.take n) (us.take n)
 |_,_,0,_=>.nil
 |_,_,_+1,.nil=>.nil
 |_,_,n+1,.cons r t=>.cons r (Vals.take n t)
theorem Vals.drop:∀{xs:List V} {us:List Value} (n:Nat),Vals xs us->Vals (xs.drop n) (us.drop n)
 |_,_,0,r=>r
 |_,_,_+1,.nil=>.nil
 |_,_,n+1,.cons _ t=>Vals.drop n t
noncomputable def RelO:Option V->α5->Prop
 |some v,some u=>RelV v u
 |none,none=>True
 |_,_=>False
noncomputable def KV {κ:Type}:List (κ×V)->List (κ×Value)->Prop:=Paired fun (p:κ×V) (q:κ×Value)=>p.1=q.1/\RelV p.2 q.2
noncomputable def kV:Key->V
 |.inl i=>.int i
 |.inr x=>.str x
inductive HO where
 | lst (xs:List V)
 | tup (xs:List V)
 | dK (kvs:List (Key×V))|dT (kvs:List (List Key×V))
 | set (S:Int->Bool) (n:Nat)
 | ins (C dx:Addr) (fs:List (Str×V))
 | own (x:Addr)
 | xd (fs:List (Str×V))
 | met (f x:Addr)
 | rng (lo hi:Int)
 | frz (o:Obj) (u:HO)
 | tbl (ps:Array Value)
 | ext (φ:Heap->Prop)
noncomputable abbrev Hp:=Addr->Option HO
noncomputable def upd (H:Hp)(a:Addr)(o:HO):Hp:=fun b=>if b=a then some o else H b
theorem Ab    : upd H a o a=some o:=by unfold upd;rw[if_pos rfl]
theorem Ai    (h:b≠a):upd H a o b=H b:=by unfold upd;rw[if_neg h]
theorem Fg_ {H:Hp}{a b:Addr}{o u:HO}(h:H a=some o)(h':H b=some u)(d:o≠u):a≠b:=by
 intro e;subst e;rw[h]at h';exact d (jp_ h')
theorem AB {H:Hp}{a b:Addr}{o:HO}(h:H a=some o)(h':H b=none):a≠b:=by
 intro e;subst e;rw[h]at h';cases h'
section
variable (P:Program) (w:World)
noncomputable def Cc (H:Hp)(h:Heap)(a:Addr):HO->Prop
 |.lst xs=>xs.length<=sizeLine/\∃(its:List Value) (n:Nat),Vals xs its/\h.get? a=some {cls:=.type "list",data:=.seq its.toArray n}
 |.tup xs=>xs.length<=sizeLine/\∃its:List Value,Vals xs its/\IsTup h a its.toArray
 |.dK kvs=>kvs.length<=sizeLine/\(a==sysModules)=false/\∃vs,KV kvs vs/\h.DictOf (B1 P w) a vs
 |.dT kvs=>kvs.length<=sizeLine/\(a==sysModules)=false/\∃xs:List (List Key×Addr×Value),
   Paired (fun (p:List Key×V) (q:List Key×Addr×Value)=>p.1=q.1/\H q.2.1=some (.tup (p.1.map kV))/\RelV p.2 q.2.2) kvs xs /\
   ∃o es ep,h.get? a=some o/\o.ExactDict/\o.data=.dict es ep/\es.toList=xs.map (entryOfKey (tupleKind (B1 P w)))/\(xs.map (·.1)).Nodup
 |.set S n=>h.SetOf (intKind P w) a S n
 |.ins C dx fs=>H dx=some (.own a)/\fs.length<=1000/\dx≠a/\h.get? a=some (PySem.W.instObj C dx) /\
   ∃mA,h.Ns1 dx mA/\(∀f,RelO (fs.lookup f) (mA f))/\PySem.Within mA (fs.map (·.1))
 |.own _=>∃o,h.get? a=some o
 |.xd fs=>∃mA,h.Ns1 a mA/\∀f,RelO (fs.lookup f) (mA f)
 |.rng lo hi=>∃t u v,h.get? a=some {cls:=.type "range",data:=.fields #[.int lo t,.int hi u,.int 1 v]}
 |.frz o u=>h.get? a=some o/\Cc H h a u
 |.tbl ps=>h.get? a=some {cls:=.none,data:=.fields ps}
 |.met f x=>h.get? a=some (PySem.W.methodObj (.ref f) (.ref x))
 |.ext φ=>φ h/\(∃o,h.get? a=some o)/\∀h1 h2:Heap,φ h1->(∀o,h1.get? a=some o->h2.get? a=some o)->φ h2
noncomputable def HOk (H:Hp)(h:Heap):Prop:=∀a o,H a=some o->Cc P w H h a o
end
section
variable {P:Program} {w:World} {H H':Hp} {h h':Heap} {a:Addr} {o:HO}
theorem Cc.lt (x:Cc P w H h a o):a<h.objs.size:=by
 cases o with
 |lst xs=>obtain⟨_,_,_,_,e⟩:=x;exact js_ e
 |tup xs=>obtain⟨_,_,_,p⟩:=x;exact p.lt
 |dK kvs=>obtain⟨_,_,_,_,o,_,_,e,_⟩:=x;exact js_ e
 |dT kvs=>obtain⟨_,_,_,_,o,_,_,e,_⟩:=x;exact js_ e
 |set S n=>obtain⟨o,_,_,_,e,_⟩:=x;exact js_ e
 |ins C dx fs=>obtain⟨_,_,_,e,_⟩:=x;exact js_ e
 |own y=>obtain⟨_,e⟩:=x;exact js_ e
 |xd fs=>obtain⟨_,⟨_,_,_,e,_⟩,_⟩:=x;exact js_ e
 |rng lo hi=>obtain⟨_,_,_,e⟩:=x;exact js_ e
 |frz ob u=>obtain⟨e,_⟩:=x;exact js_ e
 |tbl ps=>exact js_ (show h.get? a=some _ from x)
 |met f y=>exact js_ (show h.get? a=some _ from x)
 |ext φ=>obtain⟨_,⟨_,e⟩,_⟩:=x;exact js_ e
theorem Paired.mapP {α β:Type}{F G:α->β->Prop}:∀{l₁:List α} {l₂:List β},Paired F l₁ l₂->(∀a b,F a b->G a b)->Paired G l₁ l₂
 |_,_,.nil,_=>.nil
 |_,_,.cons r t,f=>.cons (f _ _ r) (Paired.mapP t f)
theorem Cc.stay (x:Cc P w H h a o)(k:∀b u,(b=a\/H b=some (.own a))->h.get? b=some u->h'.get? b=some u)
  (ho:∀b,H b=some (.own a)->H' b=some (.own a)) (ht:∀b xs,H b=some (.tup xs)->H' b=some (.tup xs)):Cc P w H' h' a o:=by
 induction o with
 |lst xs=>obtain⟨z,its,n,r,e⟩:=x;exact⟨z,its,n,r,k _ _ (.inl rfl) e⟩
 |tup xs=>obtain⟨z,its,r,ob,e,c⟩:=x;exact⟨z,its,r,ob,k _ _ (.inl rfl) e,c⟩
 |dK kvs=>obtain⟨z,y,vs,r,ob,es,ep,e,c⟩:=x;exact⟨z,y,vs,r,ob,es,ep,k _ _ (.inl rfl) e,c⟩
 |dT kvs=>
  obtain⟨z,y,xs,r,ob,es,ep,e,c⟩:=x
  exact⟨z,y,xs,Paired.mapP r fun p q z=>⟨z.1,ht _ _ z.2.1,z.2.2⟩,ob,es,ep,k _ _ (.inl rfl) e,c⟩
 |set S n=>obtain⟨ob,es,ep,t,e,c⟩:=x;exact⟨ob,es,ep,t,k _ _ (.inl rfl) e,c⟩
 |ins C dx fs=>
  obtain⟨d,z,ne,e,mA,⟨od,es,ep,e2,c⟩,r⟩:=x
  exact⟨ho _ d,z,ne,k _ _ (.inl rfl) e,mA,⟨od,es,ep,k _ _ (.inr d) e2,c⟩,r⟩
 |own y=>obtain⟨ob,e⟩:=x;exact⟨ob,k _ _ (.inl rfl) e⟩
 |xd fs=>obtain⟨mA,⟨od,es,ep,e,c⟩,r⟩:=x;exact⟨mA,⟨od,es,ep,k _ _ (.inl rfl) e,c⟩,r⟩
 |rng lo hi=>obtain⟨t,u,v,e⟩:=x;exact⟨t,u,v,k _ _ (.inl rfl) e⟩
 |frz ob u ih=>obtain⟨e,q⟩:=x;exact⟨k _ _ (.inl rfl) e,ih q⟩
 |tbl ps=>
  have e:h.get? a=some {cls:=.none,data:=.fields ps}:=x
  show h'.get? a=some {cls:=.none,data:=.fields ps}
  exact k a _ (.inl rfl) e
 |met f y=>
  have e:h.get? a=some (PySem.W.methodObj (.ref f) (.ref y)):=x
  show h'.get? a=some (PySem.W.methodObj (.ref f) (.ref y))
  exact k a _ (.inl rfl) e
 |ext φ=>obtain⟨p,⟨o,e⟩,st⟩:=x;exact⟨st _ _ p fun o q=>k _ _ (.inl rfl) q,⟨o,k _ _ (.inl rfl) e⟩,st⟩
theorem HOk.lt (x:HOk P w H h)(e:H a=some o):a<h.objs.size:=(x a o e).lt
theorem HOk.fresh (x:HOk P w H h)(e:h.objs.size<=a):H a=none:=by
 cases q:H a with
 |none=>rfl
 |some u=>exact absurd (jx_ (x.lt q) e) (j5_ _)
theorem HOk.kept (x:HOk P w H h)(k:∀b u,h.get? b=some u->h'.get? b=some u):HOk P w H h':=fun a o e=>
 (x a o e).stay (fun b u _ q=>k b u q) (fun _ q=>q) fun _ _ q=>q
theorem HOk.laid (x:HOk P w H h)(k:∀b u,h.get? b=some u->h'.get? b=some u)(hp:h.objs.size<=a)(new:Cc P w (upd H a o) h' a o):HOk P w (upd H a o) h':=fun b u e=>by
 have hn:=x.fresh hp
 by_cases hb:b=a
 ·subst hb;rw[Ab]at e;cases e;exact new
 ·rw[Ai hb]at e
  exact (x b u e).stay (fun c v _ q=>k c v q) (fun c q=>by rw[Ai (AB q hn)];exact q) fun c xs q=>by rw[Ai (AB q hn)];exact q
end
noncomputable def Rd (H:Hp)(a:Addr)(u:HO):Prop:=H a=some u \/ ∃o,H a=some (.frz o u)
theorem Rd.ok       (r:Rd H a u)(x:HOk P w H h):Cc P w H h a u:=by
 rcases r with r|⟨o,r⟩
 ·exact x a u r
 ·obtain⟨_,q⟩:=x a _ r
  exact q
noncomputable def Mut:Option HO->Prop
 |some (.lst _)=>True
 |some (.dK _)=>True
 |some (.dT _)=>True
 |some (.set _ _)=>True
 |some (.ins _ _ _)=>True
 |some (.ext _)=>True
 |_=>False
section
variable {P:Program} {w:World} {H:Hp} {h h':Heap} {x e:Addr} {o':HO}
theorem HOk.write (ok:HOk P w H h)(mu:Mut (H x))(he:e=x\/H e=some (.own x))(k:∀b u,b≠e->h.get? b=some u->h'.get? b=some u)(gU:∃u,h'.get? e=some u)
  (new:Cc P w (upd H x o') h' x o'):HOk P w (upd H x o') h':=fun b u q=>by
 have nown:∀c y,H c=some (.own y)->c≠x:=fun c y r z=>by subst z;rw[r]at mu;exact mu
 have ntup:∀c xs,H c=some (.tup xs)->c≠x:=fun c xs r z=>by subst z;rw[r]at mu;exact mu
 by_cases hb:b=x
 ·subst hb;rw[Ab]at q;cases q;exact new
 ·rw[Ai hb]at q
  by_cases iu:b=e
  ·have q':H b=some (.own x):=by
    rcases he with z|z
    ·exact absurd (iu.trans z) hb
    ·rw[iu];exact z
   rw[q]at q';cases q'
   obtain⟨v,hv⟩:=gU
   exact⟨v,by rw[iu];exact hv⟩
  ·refine (ok b u q).stay (fun c v hc r=>k c v ?_ r) (fun c r=>by rw[Ai (nown c b r)];exact r) fun c xs r=>by rw[Ai (ntup c xs r)];exact r
   rcases hc with rfl|hc
   ·exact iu
   ·rintro rfl
    rcases he with z|z
    ·exact nown c b hc z
    ·rw[hc]at z;cases z;exact hb rfl
end
structure Un (fs ex:List Addr)(H H':Hp)(h h':Heap):Prop where
 keep:∀b o,h.get? b=some o->H b=none->b∉fs->b∉ex->h'.get? b=some o
 slot:∀b o,h.get? b=some o->H b=none->b∈fs->b∉ex->∃sl,h'.get? b=some {o with slots:=sl}
 free:∀b o,h.get? b=some o->H b=none->b∉ex->H' b=none
 there:∀b o,h.get? b=some o->b∉ex->∃o',h'.get? b=some o'
 tups:∀b xs,H b=some (.tup xs)->H' b=some (.tup xs)
 frzs:∀b o u,H b=some (.frz o u)->H' b=some (.frz o u)
 tbls:∀b ps,H b=some (.tbl ps)->∃more,H' b=some (.tbl (ps++more))
section
variable {fs fs' ex ex':List Addr} {H H1 H2:Hp} {h h1 h2 h':Heap} {a x e:Addr} {o:HO}
theorem Un.any (u:Un fs ex H H1 h h1)   (q:h.get? b=some ob)(n:H b=none)(hx:b∉ex):∃sl,h1.get? b=some {ob with slots:=sl}:=by
 by_cases hb:b∈fs
 ·exact u.slot b ob q n hb hx
 ·exact⟨ob.slots,u.keep b ob q n hb hx⟩
theorem Un.kept (k:∀b u,h.get? b=some u->h'.get? b=some u):Un fs ex H H h h' :=
 ⟨fun b ob q _ _ _=>k b ob q,fun b ob q _ _ _=>⟨ob.slots,k b ob q⟩,fun _ _ _ n _=>n,fun b ob q _=>⟨ob,k b ob q⟩,fun _ _ q=>q,fun _ _ _ q=>q,fun _ ps q=>⟨#[],by rw[q];simp⟩⟩
theorem Un.refl:Un fs ex H H h h:=Un.kept fun _ _ q=>q
theorem Un.laid (k:∀b u,h.get? b=some u->h'.get? b=some u)(hp:h.objs.size<=a)(hn:H a=none):Un fs ex H (upd H a o) h h' where
 keep:=fun b u q _ _ _=>k b u q
 slot:=fun b u q _ _ _=>⟨u.slots,k b u q⟩
 free:=fun b u q n _=>by rw[Ai (jK_ (jx_ (js_ q) hp))];exact n
 there:=fun b u q _=>⟨u,k b u q⟩
 tups:=fun b xs q=>by rw[Ai (AB q hn)];exact q
 frzs:=fun b u xs q=>by rw[Ai (AB q hn)];exact q
 tbls:=fun b ps q=>⟨#[],by rw[Ai (AB q hn),q];simp⟩
theorem Un.write (mu:Mut (H x))(he:e=x\/H e=some (.own x))(k:∀b u,b≠e->h.get? b=some u->h'.get? b=some u)(gU:∃u,h'.get? e=some u):Un fs ex H (upd H x o) h h':=by
 have hx:∀b,H b=none->b≠x:=fun b n z=>by subst z;rw[n]at mu;exact mu
 have hb:∀b,H b=none->b≠e:=fun b n z=>by
  subst z
  rcases he with r|r
  ·exact hx b n r
  ·rw[n]at r;cases r
 have hm:∀b u,H b=some u->¬ Mut (some u)->b≠x:=fun b u q nm z=>by subst z;rw[q]at mu;exact nm mu
 refine⟨fun b u q n _ _=>k b u (hb b n) q,fun b u q n _ _=>⟨u.slots,k b u (hb b n) q⟩,fun b u q n _=>by rw[Ai (hx b n)];exact n,fun b u q _=>?_,
  fun b xs q=>by rw[Ai (hm b _ q fun z=>z)];exact q,fun b u xs q=>by rw[Ai (hm b _ q fun z=>z)];exact q,fun b ps q=>⟨#[],by rw[Ai (hm b _ q fun z=>z),q];simp⟩⟩
 by_cases iu:b=e
 ·subst iu;exact gU
 ·exact⟨u,k b u iu q⟩
end
noncomputable def trk (h:Heap)(H:Hp):List Addr:=(List.range h.objs.size).filter fun a=>(H a).isSome
noncomputable def hidT (h:Heap)(H:Hp):Heap:=PySem.W.hideAll h (trk h H)
theorem W6 (h:Heap)(H:Hp):(hidT h H).objs.size=h.objs.size:=PySem.W.hideAll_size _ _
theorem Lh     (e:h.get? b=some o)(n:H b=none):(hidT h H).get? b=some o:=
 PySem.W.hideAll_get _ e fun hm=>by
  have q:(H b).isSome=true:=(zD_.mp hm).2
  rw[n]at q;simp at q
theorem Cb_     (e:(hidT h H).get? b=some o):h.get? b=some o/\H b=none:=by
 have e':h.get? b=some o:=PySem.W.of_hideAll (trk h H) e
 refine⟨e',?_⟩
 cases q:H b with
 |none=>rfl
 |some x=>
  have hm:b∈trk h H:=zD_.mpr ⟨jP_.mpr (js_ e'),by simp[q]⟩
  have z:(hidT h H).get? b=none:=PySem.W.hideAll_none (trk h H) hm
  rw[z]at e;cases e
noncomputable def Cc_ (g h:Heap)(L:Addr):α7:=(List.range h.objs.size).filterMap fun a=>if a=L\/(g.get? a).isSome=true then none else (h.get? a).map fun o=>(a,o)
noncomputable def rest (g h:Heap)(L d:Addr):α7:=(Cc_ g h L).filter fun p=>decide (p.1≠d)
end L2
namespace L2
open PySem PySem.Spec PyProof.Rows
structure Mod (K:α3)(mg:Str->α5)(base:Heap):Prop where
 kin:K.In base
 glob:base.Ns mainGlobals mg
 blt:∃mb,base.Ns builtinsNs mb/\∀x:Str,x ≠ "__name__" -> mb x=bootBuiltins x
 nolimit:base.NoLimit
structure Cx where
 prog:Program
 w:World
 K:α3
 mg:Str->α5
 base:Heap
 A:Around
 N:List Str
 s₀:Shared
 H₀:Hp
 env:Env
 outer:List Env
 stack:List Env
 ex:List Addr
 fn:Str->Bool
 calm:Bool
 pn:α7
 xe:Value->Shared->Prop
noncomputable def frs (l:List Env):List Addr:=l.filterMap (·.frame)
noncomputable abbrev Cx.fs (X:Cx):List Addr:=frs X.outer
noncomputable def Vis (sc:Scope)(x:Str):Prop:=sc.names.lookup x=some .local\/sc.names.lookup x=some .cell\/sc.names.lookup x=some .free
noncomputable def Loc (sc:Scope)(x:Str):Prop:=sc.names.lookup x=some .local\/sc.names.lookup x=some .cell
noncomputable def Look (env:Env)(h:Heap)(m:Str->α5)(x:Str)(u:Value):Prop:=
 (env.kindOf x=some .local/\m x=some u)\/((env.kindOf x=some .cell\/env.kindOf x=some .free)/\∃c,env.cells.lookup x=some c/\h.IsCell c (some u))
structure Cx.Ok (X:Cx):Prop where
 mod:Mod X.K X.mg X.base
 kind:X.env.scope.kind=.function
 glob:X.env.globals=mainGlobals
 blt:X.env.builtins=builtinsNs
 above:X.s₀.heap.objs.size<=X.env.locals
 inj:∀x y c,X.env.cells.lookup x=some c->X.env.cells.lookup y=some c->x=y
 has:∀x,(X.env.kindOf x=some .cell\/X.env.kindOf x=some .free)->∃c,X.env.cells.lookup x=some c
 cab:∀x c,X.fn x=true->X.env.cells.lookup x=some c->X.s₀.heap.objs.size<=c
 hd:X.calm=true->X.A.handled=none
 frames:X.A.frames=some X.stack
 stk:X.stack=X.outer\/(X.stack=X.env::X.outer/\X.env.frame=some X.env.locals)
 exf:∀b∈X.ex,b≠X.env.locals/\∀x c,X.env.cells.lookup x=some c->c≠b
 bs:∀b o,X.base.get? b=some o->X.s₀.heap.get? b=some o/\X.H₀ b=none
 bsz:X.base.objs.size<=X.s₀.heap.objs.size
 noex:∀b o,X.base.get? b=some o->b∉X.ex
 exfs:∀b∈X.ex,b∉X.fs
 funs:X.s₀.heap.FunFrames X.base X.outer
 frf:∀b∈X.fs,X.H₀ b=none
structure Inv (X:Cx)(af:α7)(σ:List (Option V))(H:Hp)(s:Shared):Prop where
 ok:X.Ok
 os:s.os=X.s₀.os
 bare:AllBare s.gens
 base:Un X.fs X.ex X.H₀ H X.s₀.heap s.heap
 loc:∃m,s.heap.Ns X.env.locals m/\∀(i:Nat) (x:Str) (v:V),X.N[i]?=some x->σ[i]?=some (some v)->Vis X.env.scope x->∃u,RelV v u/\Look X.env s.heap m x u
 cell:∀x c,X.env.cells.lookup x=some c->∃v,s.heap.IsCell c v
 free:H X.env.locals=none
 freeC:∀x c,X.env.cells.lookup x=some c->H c=none
 pin:∀p∈X.pn++af,s.heap.get? p.1=some p.2/\H p.1=none/\p.1≠X.env.locals/\p.1∉X.fs/\∀v,p.2.data ≠ .cell v
 hok:HOk X.prog X.w H s.heap
 len:σ.length=X.N.length
section
variable {X:Cx} {af:α7} {σ:List (Option V)} {H H':Hp} {s:Shared} {h':Heap}
theorem Cx.Ok.nofr (ok:X.Ok)   (e:X.base.get? b=some o):b∉X.fs:=fun hb=>by
 have:=(ok.funs.mem hb).1
 rw[e]at this;cases this
theorem Inv.bs (I:Inv X af σ H s):∀b o,X.base.get? b=some o->s.heap.get? b=some o/\H b=none:=fun b o e=>
 ⟨I.base.keep b o (I.ok.bs b o e).1 (I.ok.bs b o e).2 (I.ok.nofr e) (I.ok.noex b o e),I.base.free b o (I.ok.bs b o e).1 (I.ok.bs b o e).2 (I.ok.noex b o e)⟩
theorem Inv.bk (I:Inv X af σ H s):∀b o,X.base.get? b=some o->s.heap.get? b=some o:=fun b o e=>(I.bs b o e).1
theorem Inv.mod (I:Inv X af σ H s):Mod X.K X.mg X.base:=I.ok.mod
theorem Inv.kIn (I:Inv X af σ H s):X.K.In s.heap:=I.ok.mod.kin.keeps I.bk
theorem Inv.lt (I:Inv X af σ H s):X.env.locals<s.heap.objs.size:=let ⟨_,hn,_⟩:=I.loc;hn.lt
theorem Inv.sz (I:Inv X af σ H s):X.s₀.heap.objs.size<=s.heap.objs.size:=ql_ I.ok.above (q1_ I.lt)
theorem Inv.nofs (I:Inv X af σ H s)  (h:s.heap.objs.size<=a):a∉X.fs:=fun hb=>by
 obtain⟨_,o,ho,_⟩:=I.ok.funs.mem hb
 exact absurd (jx_ (js_ ho) (ql_ I.sz h)) (j5_ _)
theorem Inv.cne (I:Inv X af σ H s):∀x c,X.env.cells.lookup x=some c->c≠X.env.locals:=fun x c e z=>by
 obtain⟨v,o,ho,hd⟩:=I.cell x c e
 obtain⟨m,⟨o',es,ep,gc,cN,_⟩,_⟩:=I.loc
 rw[z,gc]at ho;cases ho;rw[cN]at hd;cases hd
theorem Inv.funs (I:Inv X af σ H s):s.heap.FunFrames X.base X.outer:=by
 have all:∀(l:List Env),(∀b∈frs l,b∈X.fs)->X.s₀.heap.FunFrames X.base l->s.heap.FunFrames X.base l:=by
  intro l
  induction l with
  |nil=>intro _ _;trivial
  |cons env r ih=>
   intro hs hl
   obtain⟨hk,⟨L,o,hf,hn,ho,hd⟩,hr⟩:=hl
   have hL:L∈X.fs:=hs L (by unfold frs;rw[zE_,hf];exact jn_)
   obtain⟨sl,e⟩:=I.base.slot L o ho (I.ok.frf L hL) hL fun z=>I.ok.exfs L z hL
   exact⟨hk,⟨L,_,hf,hn,e,hd⟩,ih (fun b hb=>hs b (by unfold frs;rw[zE_,hf];exact jk_ _ hb)) hr⟩
 exact all X.outer (fun _ hb=>hb) I.ok.funs
theorem Inv.stack (I:Inv X af σ H s):s.heap.FunFrames X.base X.stack:=by
 rcases I.ok.stk with e|⟨e,hf⟩
 ·rw[e];exact I.funs
 ·rw[e]
  obtain⟨m,hn,_⟩:=I.loc
  refine .cons (by rw[I.ok.kind];decide) hf hn ?_ I.funs
  exact Heap.get?_none_of_le (ql_ I.ok.bsz I.ok.above)
theorem Inv.stkSub (I:Inv X af σ H s):∀b∈frs X.stack,b∈X.env.locals::X.fs:=fun b hb=>by
 rcases I.ok.stk with e|⟨e,hf⟩
 ·rw[e]at hb;exact jk_ _ hb
 ·rw[e]at hb
  unfold frs at hb
  rw[zE_,hf]at hb
  exact hb
theorem Inv.stkFree (I:Inv X af σ H s):∀b∈frs X.stack,H b=none:=fun b hb=>by
 rcases jL_.mp (I.stkSub b hb) with e|hb
 ·rw[e];exact I.free
 ·obtain⟨_,o,ho,_⟩:=I.ok.funs.mem hb
  exact I.base.free b o ho (I.ok.frf b hb) fun z=>I.ok.exfs b z hb
theorem Inv.step {g':Array GenState}{t':Nat}{d':Drawn}{ch:List Addr}(I:Inv X af σ H s)
  (fQ:∀b∈ch,(b∈X.ex\/X.s₀.heap.objs.size<=b)/\b≠X.env.locals/\(∀x c,X.env.cells.lookup x=some c->c≠b)/\∀p∈X.pn++af,p.1≠b)
  (keep:∀b o,b≠X.env.locals->b∉X.fs->b∉ch->s.heap.get? b=some o->H b=none->h'.get? b=some o)
  (slot:∀b o,b≠X.env.locals->b∈X.fs->b∉ch->s.heap.get? b=some o->H b=none->∃sl,h'.get? b=some {o with slots:=sl}) (free:∀b o,b∉ch->s.heap.get? b=some o->H b=none->H' b=none)
  (there:∀b o,b∉ch->s.heap.get? b=some o->∃o',h'.get? b=some o')
  (tups:∀b xs,H b=some (.tup xs)->H' b=some (.tup xs)) (frzs:∀b o u,H b=some (.frz o u)->H' b=some (.frz o u)) (tbls:∀b ps,H b=some (.tbl ps)->∃more,H' b=some (.tbl (ps++more)))
  (ns:∀m,s.heap.Ns X.env.locals m->h'.Ns X.env.locals m) (hok:HOk X.prog X.w H' h') (hg:AllBare g'):
  Inv X af σ H' {s with heap:=h',gens:=g',drawn:=d',toks:=t' }:=by
 have neL:∀b o,X.s₀.heap.get? b=some o->b≠X.env.locals:=fun b o e=>jK_ (jx_ (js_ e) I.ok.above)
 have lA:∀b o,X.s₀.heap.get? b=some o->b∉X.ex->b∉ch:=fun b o e hx hb=>by
  rcases (fQ b hb).1 with z|z
  ·exact hx z
  ·exact absurd (jx_ (js_ e) z) (j5_ _)
 have cellK:∀x c,X.env.cells.lookup x=some c->∀v,s.heap.IsCell c v->h'.IsCell c v:=fun x c e v ⟨o,ho,hd⟩=>by
  have eI:c∉ch:=fun z=>(fQ c z).2.2.1 x c e rfl
  by_cases hc:c∈X.fs
  ·obtain⟨sl,q⟩:=slot c o (I.cne x c e) hc eI ho (I.freeC x c e)
   exact⟨_,q,hd⟩
  ·exact⟨o,keep c o (I.cne x c e) hc eI ho (I.freeC x c e),hd⟩
 refine⟨I.ok,I.os,hg,⟨fun b o e n hb hx=>?_,fun b o e n hb hx=>?_,fun b o e n hx=>?_,fun b o e hx=>?_,fun b xs e=>tups b xs (I.base.tups b xs e),fun b o xs e=>frzs b o xs (I.base.frzs b o xs e),fun b ps e=>?_⟩,?_,fun x c e=>?_,?_,fun x c e=>?_,fun p hp=>?_,hok,I.len⟩
 ·exact keep b o (neL b o e) hb (lA b o e hx) (I.base.keep b o e n hb hx) (I.base.free b o e n hx)
 ·obtain⟨sl,e1⟩:=I.base.slot b o e n hb hx
  obtain⟨sl',e2⟩:=slot b _ (neL b o e) hb (lA b o e hx) e1 (I.base.free b o e n hx)
  exact⟨sl',e2⟩
 ·obtain⟨o',e1⟩:=I.base.there b o e hx
  exact free b o' (lA b o e hx) e1 (I.base.free b o e n hx)
 ·obtain⟨o',e1⟩:=I.base.there b o e hx
  exact there b o' (lA b o e hx) e1
 ·obtain⟨m1,e1⟩:=I.base.tbls b ps e
  obtain⟨m2,e2⟩:=tbls b _ e1
  exact⟨m1++m2,by rw[e2,Array.append_assoc]⟩
 ·obtain⟨m,hn,hl⟩:=I.loc
  refine⟨m,ns m hn,fun i x v e1 e2 e3=>?_⟩
  obtain⟨u,r,l⟩:=hl i x v e1 e2 e3
  refine⟨u,r,?_⟩
  rcases l with l|⟨k,c,e,z⟩
  ·exact .inl l
  ·exact .inr ⟨k,c,e,cellK x c e _ z⟩
 ·obtain⟨v,z⟩:=I.cell x c e
  exact⟨v,cellK x c e v z⟩
 ·obtain⟨m,⟨o,_,_,ho,_⟩,_⟩:=I.loc
  exact free _ o (fun z=>(fQ _ z).2.1 rfl) ho I.free
 ·obtain⟨v,o,ho,hd⟩:=I.cell x c e
  exact free c o (fun z=>(fQ c z).2.2.1 x c e rfl) ho (I.freeC x c e)
 ·obtain⟨e,n,ne,nf,d⟩:=I.pin p hp
  have eI:p.1∉ch:=fun z=>(fQ p.1 z).2.2.2 p hp rfl
  exact⟨keep p.1 p.2 ne nf eI e n,free p.1 p.2 eI e n,ne,nf,d⟩
theorem Inv.un  (I:Inv X af σ H s)(u:Un X.fs [] H H' s.heap h')(hok:HOk X.prog X.w H' h'):Inv X af σ H' {s with heap:=h',toks:=t' }:=by
 obtain⟨m,⟨o,es,ep,ho,r⟩,_⟩:=id I.loc
 obtain⟨sl,hL⟩:=u.any ho I.free (by simp)
 exact I.step (g':=s.gens) (d':=s.drawn) (ch:=[]) (fun _ z=>nomatch z) (fun b o _ hb _ e n=>u.keep b o e n hb (by simp)) (fun b o _ hb _ e n=>u.slot b o e n hb (by simp)) (fun b o _ e n=>u.free b o e n (by simp)) (fun b o _ e=>u.there b o e (by simp)) u.tups u.frzs u.tbls (fun m' hm=>by
  obtain⟨o',mw,my,gc,r'⟩:=hm
  rw[ho]at gc;cases gc
  exact⟨_,mw,my,hL,r'⟩) hok I.bare
theorem Inv.call     (I:Inv X af σ H s)(u:Un (frs X.stack) ch H H' s.heap h')(hok:HOk X.prog X.w H' h')(hg:AllBare g')
  (fQ:∀b∈ch,(b∈X.ex\/X.s₀.heap.objs.size<=b)/\b≠X.env.locals/\(∀x c,X.env.cells.lookup x=some c->c≠b)/\∀p∈X.pn++af,p.1≠b):
  Inv X af σ H' {s with heap:=h',gens:=g',drawn:=d',toks:=t' }:=by
 obtain⟨m,⟨o,es,ep,ho,r⟩,_⟩:=id I.loc
 obtain⟨sl,hL⟩:=u.any ho I.free fun z=>(fQ _ z).2.1 rfl
 exact I.step (ch:=ch) fQ (fun b o hL hb hc e n=>u.keep b o e n (fun z=>(jL_.mp (I.stkSub b z)).elim hL hb) hc) (fun b o _ _ hc e n=>u.any e n hc) (fun b o hc e n=>u.free b o e n hc) (fun b o hc e=>u.there b o e hc) u.tups u.frzs u.tbls (fun m' hm=>by
  obtain⟨o',mw,my,gc,r'⟩:=hm
  rw[ho]at gc;cases gc
  exact⟨_,mw,my,hL,r'⟩) hok hg
theorem Inv.turned  {it:Addr}(I:Inv X af σ H s)(k:∀b o,b≠it->s.heap.get? b=some o->h'.get? b=some o)(hn:H it=none)(hL:it≠X.env.locals)
  (h1:it∈X.ex\/X.s₀.heap.objs.size<=it) (h2:∀x c,X.env.cells.lookup x=some c->c≠it) (h3:∀p∈X.pn++af,p.1≠it):Inv X af σ H {s with heap:=h',toks:=t' }:=by
 have nit:∀b u,H b=some u->b≠it:=fun b u e z=>by rw[z,hn]at e;cases e
 refine I.step (g':=s.gens) (d':=s.drawn) (ch:=[it]) (fun b hb=>?_) (fun b o _ _ hc e _=>k b o (fun z=>hc (by simp[z])) e) (fun b o _ _ hc e _=>⟨o.slots,k b o (fun z=>hc (by simp[z])) e⟩) (fun _ _ _ _ n=>n)
  (fun b o hc e=>⟨o,k b o (fun z=>hc (by simp[z])) e⟩) (fun _ _ e=>e) (fun _ _ _ e=>e) (fun b ps e=>⟨#[],by rw[e];simp⟩) (fun m hm=>?_) (fun b u e=>?_) I.bare
 ·have e:b=it:=by simpa using hb
  subst e
  exact⟨h1,hL,h2,h3⟩
 ·obtain⟨o,es,ep,ho,r⟩:=hm
  exact⟨o,es,ep,k _ o (qx_ hL) ho,r⟩
 ·refine (I.hok b u e).stay (fun c v hc q=>k c v ?_ q) (fun _ q=>q) fun _ _ q=>q
  rcases hc with z|z
  ·rw[z];exact nit b u e
  ·exact nit c _ z
theorem Inv.tok (I:Inv X af σ H s)(t:Nat):Inv X af σ H {s with toks:=t}:=I.un (h':=s.heap) (t':=t) Un.refl I.hok
theorem Inv.kept  (I:Inv X af σ H s)(k:∀b u,s.heap.get? b=some u->h'.get? b=some u):Inv X af σ H {s with heap:=h',toks:=t' }:=I.un (Un.kept k) (I.hok.kept k)
theorem Inv.laid    (I:Inv X af σ H s)(k:∀b u,s.heap.get? b=some u->h'.get? b=some u)(hp:s.heap.objs.size<=a)(new:Cc X.prog X.w (upd H a o) h' a o):
  Inv X af σ (upd H a o) {s with heap:=h',toks:=t' }:=I.un (Un.laid k hp (I.hok.fresh hp)) (I.hok.laid k hp new)
theorem Inv.write    (I:Inv X af σ H s)(mu:Mut (H x))(he:e=x\/H e=some (.own x))(k:∀b u,b≠e->s.heap.get? b=some u->h'.get? b=some u)(gU:∃u,h'.get? e=some u)
  (new:Cc X.prog X.w (upd H x o) h' x o):Inv X af σ (upd H x o) {s with heap:=h',toks:=t' }:=I.un (Un.write mu he k gU) (I.hok.write mu he k gU new)
theorem Inv.pins_of  (I:Inv X af σ H s)(h:∀p∈aV,s.heap.get? p.1=some p.2/\H p.1=none/\p.1≠X.env.locals/\p.1∉X.fs/\∀v,p.2.data ≠ .cell v):Inv X aV σ H s:=
 ⟨I.ok,I.os,I.bare,I.base,I.loc,I.cell,I.free,I.freeC,fun p hp=>(jA_.mp hp).elim (fun z=>I.pin p (j8_ _ z)) (h p),I.hok,I.len⟩
theorem UA {N:List Str}(hN:N.Nodup){i j:Nat}{x:Str}(a:N[i]?=some x)(b:N[j]?=some x):i=j:=by
 obtain⟨h1,e1⟩:=jb_.mp a
 obtain⟨h2,e2⟩:=jb_.mp b
 exact (xJ_ hN).mp (e1.trans e2.symm)
theorem Lz         (I:Inv X af σ H s)(hN:X.N.Nodup)(hi:X.N[i]?=some x)(hx:Loc X.env.scope x)(r:RelV v u)
  (h:∀s',Inv X af (σ.set i (some v)) H s'->(∃a,Heap.SameBut a s.heap s'.heap/\(a=X.env.locals\/X.env.cells.lookup x=some a))->Q () s') (hf:X.fn x=true\/X.env.scope.names.lookup x=some .local:=by first|exact .inl rfl|exact .inr rfl|assumption):wpAny M A (storeName X.env x u) Q E s:=by
 obtain⟨m,hn,hl⟩:=id I.loc
 have iw:(X.env.scope.kind == .class||(X.env.scope.kind == .module&&X.env.locals != X.env.globals))=false:=by rw[I.ok.kind];rfl
 have hiσ:i<σ.length:=by rw[I.len];exact (jb_.mp hi).1
 have cne:=I.cne
 have tracked:∀{a:Addr} {h':Heap},(∃o,s.heap.get? a=some o/\H a=none)->Heap.SameBut a s.heap h'->HOk X.prog X.w H h':=fun {a h'} ha hs b ob e=>by
  obtain⟨_,_,hfree⟩:=ha
  refine (I.hok b ob e).stay (fun c w' hc q=>(hs.2 c ?_).trans q) (fun _ q=>q) fun _ _ q=>q
  rintro rfl
  rcases hc with rfl|hc
  ·rw[hfree]at e;cases e
  ·rw[hfree]at hc;cases hc
 rcases hx with hk|hk
 ·refine wpAny_storeName_local hk hn (fun h' eZ hs=>?_) iw
  obtain⟨oL,_,_,mz,_⟩:=id hn
  refine h _ ⟨I.ok,I.os,I.bare,⟨fun b o e n hb hx=>?_,fun b o e n hb hx=>?_,I.base.free,fun b o e hx=>?_,I.base.tups,I.base.frzs,I.base.tbls⟩,⟨_,eZ,fun j y v' e1 e2 e3=>?_⟩,fun y c e=>?_,I.free,I.freeC,fun p hp=>?_,tracked ⟨oL,mz,I.free⟩ hs,by simpa using I.len⟩ ⟨_,hs,.inl rfl⟩
  ·exact (hs.2 b (jK_ (jx_ (js_ e) I.ok.above))).trans (I.base.keep b o e n hb hx)
  ·obtain⟨sl,e1⟩:=I.base.slot b o e n hb hx
   exact⟨sl,(hs.2 b (jK_ (jx_ (js_ e) I.ok.above))).trans e1⟩
  ·obtain⟨o',e1⟩:=I.base.there b o e hx
   exact⟨o',(hs.2 b (jK_ (jx_ (js_ e) I.ok.above))).trans e1⟩
  ·by_cases hj:j=i
   ·subst hj
    rw[hi]at e1;cases e1
    rw[qL_ hiσ]at e2
    cases e2
    exact⟨u,r,.inl ⟨hk,by simp⟩⟩
   ·rw[xd_ (qx_ hj)]at e2
    obtain⟨u',r',q⟩:=hl j y v' e1 e2 e3
    refine⟨u',r',?_⟩
    rcases q with ⟨k,e⟩|⟨k,c,e,z⟩
    ·refine .inl ⟨k,?_⟩
     have:y≠x:=fun e=>hj (UA hN e1 (e ▸ hi))
     simp[this,e]
    ·exact .inr ⟨k,c,e,z.sameBut hs (cne y c e)⟩
  ·obtain⟨w',z⟩:=I.cell y c e
   exact⟨w',z.sameBut hs (cne y c e)⟩
  ·obtain⟨e,n,ne,nf,d⟩:=I.pin p hp
   exact⟨(hs.2 p.1 ne).trans e,n,ne,nf,d⟩
 ·have mB:X.fn x=true:=by
   rcases hf with z|z
   ·exact z
   ·rw[z]at hk;cases hk
  obtain⟨c,hc⟩:=I.ok.has x (.inl hk)
  obtain⟨w',z⟩:=I.cell x c hc
  refine wpAny_storeName_cell I.ok.kind hk hc z (fun h' eJ hs=>?_)
  obtain⟨oc,di,hocd⟩:=id z
  refine h {s with heap:=h' } ⟨I.ok,I.os,I.bare,⟨fun b o e n hb hx=>?_,fun b o e n hb hx=>?_,I.base.free,fun b o e hx=>?_,I.base.tups,I.base.frzs,I.base.tbls⟩,⟨m,hn.sameBut hs (qx_ (cne x c hc)),fun j y v' e1 e2 e3=>?_⟩,fun y c' e=>?_,I.free,I.freeC,fun p hp=>?_,tracked ⟨oc,di,I.freeC x c hc⟩ hs,by simpa using I.len⟩ ⟨c,hs,.inr hc⟩
  ·exact (hs.2 b (jK_ (jx_ (js_ e) (I.ok.cab x c mB hc)))).trans (I.base.keep b o e n hb hx)
  ·obtain⟨sl,e1⟩:=I.base.slot b o e n hb hx
   exact⟨sl,(hs.2 b (jK_ (jx_ (js_ e) (I.ok.cab x c mB hc)))).trans e1⟩
  ·obtain⟨o',e1⟩:=I.base.there b o e hx
   exact⟨o',(hs.2 b (jK_ (jx_ (js_ e) (I.ok.cab x c mB hc)))).trans e1⟩
  ·by_cases hj:j=i
   ·subst hj
    rw[hi]at e1;cases e1
    rw[qL_ hiσ]at e2
    cases e2
    exact⟨u,r,.inr ⟨.inl hk,c,hc,eJ⟩⟩
   ·rw[xd_ (qx_ hj)]at e2
    obtain⟨u',r',q⟩:=hl j y v' e1 e2 e3
    refine⟨u',r',?_⟩
    rcases q with q|⟨k,c',e,z'⟩
    ·exact .inl q
    ·refine .inr ⟨k,c',e,z'.sameBut hs ?_⟩
     rintro rfl
     exact hj (UA hN e1 (I.ok.inj _ _ _ e hc ▸ hi))
  ·by_cases hcc:c'=c
   ·subst hcc;exact⟨_,eJ⟩
   ·obtain⟨w2,z2⟩:=I.cell y c' e
    exact⟨w2,z2.sameBut hs hcc⟩
  ·obtain⟨e,n,ne,nf,d⟩:=I.pin p hp
   refine⟨(hs.2 p.1 ?_).trans e,n,ne,nf,d⟩
   intro q
   rw[q,di]at e
   have q':oc=p.2:=jp_ e
   exact d w' (by rw[<-q'];exact hocd)
theorem OX         (I:Inv X af σ H s)(hN:X.N.Nodup)(hi:X.N[i]?=some x)(hx:Loc X.env.scope x)(r:RelV v u)
  (h:∀s',Inv X af (σ.set i (some v)) H s'->Q () s') (hf:X.fn x=true\/X.env.scope.names.lookup x=some .local:=by first|exact .inl rfl|exact .inr rfl|assumption):wpAny M A (storeName X.env x u) Q E s:=
 Lz I hN hi hx r (fun s' I' _=>h s' I') hf
theorem Inv.call'   (I:Inv X af σ H s)(ho:s'.os=s.os)(u:Un (frs X.stack) ch H H' s.heap s'.heap)(hok:HOk X.prog X.w H' s'.heap)(hg:AllBare s'.gens)
  (fQ:∀b∈ch,(b∈X.ex\/X.s₀.heap.objs.size<=b)/\b≠X.env.locals/\(∀x c,X.env.cells.lookup x=some c->c≠b)/\∀p∈X.pn++af,p.1≠b):Inv X af σ H' s':=by
 obtain⟨h',g',d',t',o'⟩:=s'
 have e:o'=s.os:=ho
 subst e
 exact I.call (g':=g') (t':=t') (d':=d') u hok hg fQ
end
noncomputable abbrev XK:=Value->Option Addr->Hp->Prop
noncomputable abbrev St:=List (Option V)
noncomputable abbrev VK:=V->Hp->Prop
noncomputable abbrev TE:=St->Hp->VK->Prop
noncomputable abbrev TT:=St->Hp->(Bool->Hp->Prop)->Prop
noncomputable abbrev TA:=St->Hp->(List V->Hp->Prop)->Prop
structure Ends where
 nx:St->Hp->Prop
 rt:VK
 bk:St->Hp->Prop:=fun _ _=>False
 ct:St->Hp->Prop:=fun _ _=>False
noncomputable abbrev TS:=Ends->St->Hp->Prop
noncomputable def EP (X:Cx)(af:α7)(σ:St)(Q:VK)(u:Value)(s':Shared):Prop:=∃v H',Inv X af σ H' s'/\RelV v u/\Q v H'
noncomputable def TP (X:Cx)(af:α7)(σ:St)(Q:Bool->Hp->Prop)(b:Bool)(s':Shared):Prop:=∃H',Inv X af σ H' s'/\Q b H'
noncomputable def AP (X:Cx)(af:α7)(σ:St)(Q:List V->Hp->Prop)(us:List Value)(s':Shared):Prop:=∃vs H',Inv X af σ H' s'/\Vals vs us/\Q vs H'
noncomputable def SP (X:Cx)(af:α7)(D:Ends)(f:Flow)(s':Shared):Prop:=
 match f with
 |.next=>∃ag H',Inv X af ag H' s'/\D.nx ag H'
 |.brk=>∃ag H',Inv X af ag H' s'/\D.bk ag H'
 |.cont=>∃ag H',Inv X af ag H' s'/\D.ct ag H'
 |.ret u=>∃v ag H',Inv X af ag H' s'/\RelV v u/\D.rt v H'
noncomputable def PE (X:Cx)(e:Expr)(t:TE):Prop:=
 ∀(af:α7) (s:Shared) (σ:St) (H:Hp) (Q:VK),Inv X af σ H s->t σ H Q->wpAny (model X.prog X.w) X.A (eval e X.env) (EP X af σ Q) X.xe s
noncomputable def PT (X:Cx)(e:Expr)(t:TT):Prop:=
 ∀(af:α7) (s:Shared) (σ:St) (H:Hp) (Q:Bool->Hp->Prop),Inv X af σ H s->t σ H Q->wpAny (model X.prog X.w) X.A (isTrue e X.env (eval e X.env)) (TP X af σ Q) X.xe s
noncomputable def PW (X:Cx)(e:Expr)(t:TT):Prop:=
 ∀(dE:Sem Value) (af:α7) (s:Shared) (σ:St) (H:Hp) (Q:Bool->Hp->Prop),Inv X af σ H s->t σ H Q->wpAny (model X.prog X.w) X.A (isTrue e X.env dE) (TP X af σ Q) X.xe s
theorem PW.pt    (h:PW X e t):PT X e t:=h _
noncomputable def PA (X:Cx)(es:List Expr)(t:TA):Prop:=
 ∀(pos:Pos) (af:α7) (s:Shared) (σ:St) (H:Hp) (Q:List V->Hp->Prop),Inv X af σ H s->t σ H Q->wpAny (model X.prog X.w) X.A (spliced (backTo pos (starEach es X.env))) (AP X af σ Q) X.xe s
noncomputable def PS (X:Cx)(st:Stmt)(t:TS):Prop:=
 ∀(af:α7) (s:Shared) (σ:St) (H:Hp) (D:Ends),Inv X af σ H s->t D σ H->wpAny (model X.prog X.w) X.A (exec st X.env) (SP X af D) X.xe s
noncomputable def PSs (X:Cx)(st:List Stmt)(t:TS):Prop:=
 ∀(af:α7) (s:Shared) (σ:St) (H:Hp) (D:Ends),Inv X af σ H s->t D σ H->wpAny (model X.prog X.w) X.A (execs st X.env) (SP X af D) X.xe s
theorem thn        (h:wpAny M A t Q E s)(hQ:∀a s,Q a s->Q' a s):wpAny M A t Q' E s:=qM_ h hQ fun _ _ x=>x
end L2
namespace L2
open PySem PySem.Spec PyProof.Rows
section
variable {X:Cx}
noncomputable def tVar (i:Nat):TE:=fun σ H Q=>∃v,σ[i]?=some (some v)/\Q v H
noncomputable def tC (v:V):TE:=fun _ H Q=>Q v H
theorem Dl_    (hN:X.N[i]?=some x)(hv:Vis X.env.scope x)(hd:(x==("__debug__" : Str))=false:=by decide)(bE:(x==("__classdict__" : Str))=false:=by decide):PE X (.Name x pos) (tVar i):=by
 intro af s σ H Q I h
 obtain⟨v,e,h⟩:=h
 obtain⟨m,hn,hl⟩:=I.loc
 obtain⟨u,r,l⟩:=hl i x v hN e hv
 have fin:EP X af σ Q u s:=⟨v,H,I,r,h⟩
 rcases l with ⟨hk,hm⟩|⟨hk,c,hc,dF⟩
 ·exact wpAny_Name (wpAny_loadName_local I.ok.kind hk hn hm fin) hd
 ·rcases hk with hk|hk
  ·exact wpAny_Name (wpAny_loadName_cell I.ok.kind hk hc dF fin) hd
  ·exact wpAny_Name (wpAny_loadName_free I.ok.kind hk hc dF fin bE) hd
theorem Ac {i j pos}:PE X (.Constant (.int i) j pos) (tC (.int i)):=fun _ _ _ H _ I h=>wpAny_Constant_int ⟨.int i,H,I.tok _,⟨_,rfl⟩,h⟩
theorem SK {b j pos}:PE X (.Constant (.bool b) j pos) (tC (.bl b)):=fun _ _ _ H _ I h=>Constant_bool ⟨.bl b,H,I,rfl,h⟩
theorem W7 {j pos}:PE X (.Constant .none j pos) (tC .non):=fun _ _ _ H _ I h=>Constant_none ⟨.non,H,I,rfl,h⟩
noncomputable def Gl (X:Cx)(x:Str):Prop:=X.env.kindOf x=some .globalImplicit
theorem Cd_          (I:Inv X af σ H s)(hg:Gl X x)(hm:X.mg x=some u)(h:Q u s)
  (hd:(x==("__debug__" : Str))=false:=by decide):wpAny (model X.prog X.w) X.A (eval (.Name x pos) X.env) Q E s:=
 Calls.Name_function_global I.ok.kind hg (Calls.loadGlobal_global (by rw[I.ok.glob];exact I.mod.glob.keeps I.bk) hm h) hd
theorem Gi          (I:Inv X af σ H s)(hg:Gl X x)(hm:X.mg x=none)(hv:bootBuiltins x=some u)(h:Q u s)
  (hn:x ≠ "__name__" := by decide) (hd:(x==("__debug__" : Str))=false:=by decide):wpAny (model X.prog X.w) X.A (eval (.Name x pos) X.env) Q E s:=by
 obtain⟨mb,h1,h2⟩:=I.mod.blt
 exact Calls.Name_function_global I.ok.kind hg (Calls.loadGlobal_builtin (by rw[I.ok.glob];exact I.mod.glob.keeps I.bk) hm (by rw[I.ok.blt];exact h1.keeps I.bk) ((h2 x hn).trans hv) h) hd
theorem OY     (hg:Gl X x)(hm:X.mg x=none)(hv:bootBuiltins x=some u)(r:RelV v u)(hn:x ≠ "__name__" := by decide)(hd:(x==("__debug__" : Str))=false:=by decide):PE X (.Name x pos) (tC v):=
 fun _ _ _ H _ I h=>Gi I hg hm hv ⟨v,H,I,r,h⟩ hn hd
variable {a b:Expr} {ta tb:TE} {pos:Pos}
noncomputable def PC (X:Cx)(op:CmpOp)(a b:Expr)(t:TE):Prop:=
 ∀(af:α7) (s:Shared) (σ:St) (H:Hp) (Q:VK),Inv X af σ H s->t σ H Q ->
  wpAny (model X.prog X.w) X.A (eval a X.env) (fun v s₁=>wpAny (model X.prog X.w) X.A (eval b X.env) (fun u bg=>wpAny (model X.prog X.w) X.A (compareOp op v u) (EP X af σ Q) X.xe bg) X.xe s₁) X.xe s
theorem Zd (b:Expr)  (h:op ≠ .In)(h2:op ≠ .NotIn):behindInMarks op b=false:=by
 have e1:(op==CmpOp.In)=false:=by cases op<;>first|rfl|exact absurd rfl h
 have e2:(op==CmpOp.NotIn)=false:=by cases op<;>first|rfl|exact absurd rfl h2
 cases b<;>simp[behindInMarks,e1,e2]
noncomputable def tB (t:TE):TT:=fun σ H Q=>t σ H fun x H1=>∃c,x=.bl c/\Q c H1
theorem AO_   (h:PC X op a b t)(h1:behindInMarks op b=false:=by first|exact Zd _ (by decide) (by decide)|rfl):PT X (.Compare a [op] [b] pos) (tB t):=by
 intro af s σ H Q I hw
 refine wpAny_isTrue_Compare1 (thn (h af s σ H _ I hw) fun v s1 h1=>thn h1 fun u s2 h2=>thn h2 fun c s3 ⟨x,H1,I1,r1,q1⟩=>?_) h1
 obtain⟨d,rfl,q⟩:=q1
 cases r1
 exact xu_ ⟨H1,I1,q⟩
theorem LA   (h:PE X e t)(he:∀dE,isTrue e X.env dE=(do let v <- dE;standAt e.pos;holding [v] (truthy v)):=by intro _;rfl):PT X e (tB t):=by
 intro af s σ H Q I hw
 refine isTrue_plain (thn (h af s σ H _ I hw) fun v s1 ⟨x,H1,I1,r1,q1⟩=>?_) (he _)
 obtain⟨d,rfl,q⟩:=q1
 cases r1
 exact xu_ ⟨H1,I1,q⟩
variable {tA lB:TT} {rest:List Expr}
noncomputable def tAnd (t u:TT):TT:=fun σ H Q=>t σ H fun c H1=>if c=true then u σ H1 Q else Q false H1
noncomputable def tOr (t u:TT):TT:=fun σ H Q=>t σ H fun c H1=>if c=true then Q true H1 else u σ H1 Q
noncomputable def tNot (t:TT):TT:=fun σ H Q=>t σ H fun c H1=>Q (!c) H1
theorem Gj (ha:PT X a tA):PW X (.BoolOp .And [a] pos) tA:=by
 intro wh af s σ H Q I h
 refine isTrue_and (thn (ha af s σ H Q I h) fun c s1 e=>?_)
 cases c with
 |true=>exact isTrue_and_nil e
 |false=>exact e
theorem UB (ha:PT X a tA):PW X (.BoolOp .Or [a] pos) tA:=by
 intro wh af s σ H Q I h
 refine isTrue_or (thn (ha af s σ H Q I h) fun c s1 e=>?_)
 cases c with
 |false=>exact isTrue_or_nil e
 |true=>exact e
theorem J7 (ha:PT X a tA)(hb:PW X (.BoolOp .And (b::rest) pos) lB):PW X (.BoolOp .And (a::b::rest) pos) (tAnd tA lB):=by
 intro wh af s σ H Q I h
 refine isTrue_and (thn (ha af s σ H _ I h) fun c s1 ⟨H1,I1,q1⟩=>?_)
 cases c with
 |true=>exact hb wh af s1 σ H1 Q I1 q1
 |false=>exact⟨H1,I1,q1⟩
theorem VC (ha:PT X a tA)(hb:PW X (.BoolOp .Or (b::rest) pos) lB):PW X (.BoolOp .Or (a::b::rest) pos) (tOr tA lB):=by
 intro wh af s σ H Q I h
 refine isTrue_or (thn (ha af s σ H _ I h) fun c s1 ⟨H1,I1,q1⟩=>?_)
 cases c with
 |true=>exact⟨H1,I1,q1⟩
 |false=>exact hb wh af s1 σ H1 Q I1 q1
theorem Om (ha:PT X a tA):PT X (.UnaryOp .Not a pos) (tNot tA):=by
 intro af s σ H Q I h
 exact isTrue_not (ha af s σ H (fun c H1=>Q (!c) H1) I h)
noncomputable def Dm_ (ta tb:TE):TE:=fun σ H Q=>ta σ H fun x H1=>∃c,x=.bl c/\if c=true then tb σ H1 Q else Q (.bl false) H1
theorem Dn_ {op}  (h:PE X a t):PE X (.BoolOp op [a] pos) t:=fun af s σ H Q I hw=>BoolOp_one (h af s σ H Q I hw)
theorem Do_ (ha:PE X a ta)(hb:PE X (.BoolOp .And (b::rest) pos) tb):PE X (.BoolOp .And (a::b::rest) pos) (Dm_ ta tb):=by
 intro af s σ H Q I h
 refine BoolOp_and (thn (ha af s σ H _ I h) fun v s1 ⟨x,H1,I1,r1,q1⟩=>?_)
 obtain⟨c,rfl,q1⟩:=q1
 cases r1
 refine xu_ ?_
 cases c with
 |true=>exact hb af s1 σ H1 Q I1 q1
 |false=>exact⟨.bl false,H1,I1,rfl,q1⟩
end
end L2
namespace L2
open PySem PySem.Spec PyProof.Rows
noncomputable def SqL (K:α3)(H:Hp)(a:Addr)(xs:List V):Prop:=
 Rd H a (.lst xs) \/
  ∃(o:Obj) (its:Array Value) (n:Nat),K.lookup a=some o/\o.cls=.type "list" /\ o.dict=none/\o.data=.seq its n/\its.size<=sizeLine/\Vals xs its.toList
noncomputable def SqT (K:α3)(H:Hp)(a:Addr)(xs:List V):Prop:=
 Rd H a (.tup xs) \/
  ∃(o:Obj) (its:Array Value) (n:Nat),K.lookup a=some o/\o.cls=.type "tuple" /\ o.data=.seq its n/\its.size<=sizeLine/\Vals xs its.toList
noncomputable def absV:Value->Option V
 |.none=>some .non
 |.bool b=>some (.bl b)
 |.int i _=>some (.int i)
 |.str x _=>some (.str x)
 |.bytes b _=>some (.byt b)
 |.float b _=>some (.flt b)
 |.ref a=>some (.ref a)
 |.type n=>some (.ty n)
 |_=>none
theorem RelV.abs   (r:RelV x u):absV u=some x:=by
 cases x with
 |non=>cases r;rfl
 |bl _=>cases r;rfl
 |int _=>obtain⟨t,rfl⟩:=r;rfl
 |str _=>obtain⟨t,rfl⟩:=r;rfl
 |byt _=>obtain⟨t,rfl⟩:=r;rfl
 |flt _=>obtain⟨t,rfl⟩:=r;rfl
 |ref _=>cases r;rfl
 |ty _=>cases r;rfl
theorem RelV.inj   (r:RelV x u)(q:RelV y u):x=y:=jp_ (r.abs.symm.trans q.abs)
theorem Vals.inj:∀{xs ys:List V} {us:List Value},Vals xs us->Vals ys us->xs=ys
 |_,_,_,.nil,.nil=>rfl
 |_,_,_,.cons r t,.cons r' t'=>by rw[r.inj r',Vals.inj t t']
section
variable {X:Cx} {af:α7} {σ:St} {H:Hp} {s:Shared} {a:Addr} {xs ys:List V}
theorem SqL.of {K:α3}(h:H a=some (.lst xs)):SqL K H a xs:=.inl (.inl h)
theorem SqT.of {K:α3}(h:H a=some (.tup xs)):SqT K H a xs:=.inl (.inl h)
theorem Inv.list (I:Inv X af σ H s)(h:SqL X.K H a xs):∃its:List Value,Vals xs its/\PlainL s.heap a its.toArray/\xs.length<=sizeLine:=by
 rcases h with h|⟨o,its,n,hk,hc,hd,hs,hz,r⟩
 ·obtain⟨z,its,n,r,e⟩:=h.ok I.hok
  exact⟨its,r,⟨_,n,e,rfl,rfl,rfl⟩,z⟩
 ·refine⟨its.toList,r,⟨o,n,I.kIn a o hk,hc,hd,by simpa using hs⟩,?_⟩
  have e:=r.length
  simp only[j3_]at e
  lia
theorem Inv.tuple (I:Inv X af σ H s)(h:SqT X.K H a xs):∃its:List Value,Vals xs its/\IsTup s.heap a its.toArray/\xs.length<=sizeLine:=by
 rcases h with h|⟨o,its,n,hk,hc,hs,hz,r⟩
 ·obtain⟨z,its,r,p⟩:=h.ok I.hok
  exact⟨its,r,p,z⟩
 ·refine⟨its.toList,r,⟨o,I.kIn a o hk,hc,n,by simpa using hs⟩,?_⟩
  have e:=r.length
  simp only[j3_]at e
  lia
theorem Inv.list_inj (I:Inv X af σ H s)(h:SqL X.K H a xs)(h':SqL X.K H a ys):xs=ys:=by
 obtain⟨its,r,⟨o,n,e,_,_,d⟩,_⟩:=I.list h
 obtain⟨its',r',⟨o',n',e',_,_,d'⟩,_⟩:=I.list h'
 rw[e]at e';cases e'
 rw[d]at d'
 injection d' with d1 _
 have:its=its':=by simpa using jD_ Array.toList d1
 subst this
 exact r.inj r'
theorem Inv.tuple_inj (I:Inv X af σ H s)(h:SqT X.K H a xs)(h':SqT X.K H a ys):xs=ys:=by
 obtain⟨its,r,⟨o,e,_,n,d⟩,_⟩:=I.tuple h
 obtain⟨its',r',⟨o',e',_,n',d'⟩,_⟩:=I.tuple h'
 rw[e]at e';cases e'
 rw[d]at d'
 injection d' with d1 _
 have:its=its':=by simpa using jD_ Array.toList d1
 subst this
 exact r.inj r'
end
noncomputable abbrev Cx.wish (X:Cx)(E:Value->Shared->Prop):Cx:={X with xe:=E}
noncomputable abbrev Cx.nox (X:Cx):Cx:=X.wish fun _ _=>False
theorem Cx.Ok.wish {X:Cx}(ok:X.Ok)(E:Value->Shared->Prop):(X.wish E).Ok:=
 ⟨ok.mod,ok.kind,ok.glob,ok.blt,ok.above,ok.inj,ok.has,ok.cab,ok.hd,ok.frames,ok.stk,ok.exf,ok.bs,ok.bsz,ok.noex,ok.exfs,ok.funs,ok.frf⟩
theorem Cx.Ok.unwish {X:Cx}{E:Value->Shared->Prop}(ok:(X.wish E).Ok):X.Ok:=
 ⟨ok.mod,ok.kind,ok.glob,ok.blt,ok.above,ok.inj,ok.has,ok.cab,ok.hd,ok.frames,ok.stk,ok.exf,ok.bs,ok.bsz,ok.noex,ok.exfs,ok.funs,ok.frf⟩
section
variable {X:Cx} {af:α7} {σ:St} {H:Hp} {s:Shared} {E:Value->Shared->Prop}
theorem Inv.wish (I:Inv X af σ H s)(E:Value->Shared->Prop):Inv (X.wish E) af σ H s:=⟨I.ok.wish E,I.os,I.bare,I.base,I.loc,I.cell,I.free,I.freeC,I.pin,I.hok,I.len⟩
theorem Inv.unwish (I:Inv (X.wish E) af σ H s):Inv X af σ H s:=⟨I.ok.unwish,I.os,I.bare,I.base,I.loc,I.cell,I.free,I.freeC,I.pin,I.hok,I.len⟩
theorem SP.unwish    (h:SP (X.wish E) af D f s'):SP X af D f s':=by
 cases f with
 |next=>obtain⟨ag,H',I,q⟩:=h;exact⟨ag,H',I.unwish,q⟩
 |brk=>obtain⟨ag,H',I,q⟩:=h;exact⟨ag,H',I.unwish,q⟩
 |cont=>obtain⟨ag,H',I,q⟩:=h;exact⟨ag,H',I.unwish,q⟩
 |ret u=>obtain⟨v,ag,H',I,r,q⟩:=h;exact⟨v,ag,H',I.unwish,r,q⟩
theorem PSs.nox {st:List Stmt}  (h:PSs X.nox st t):PSs X st t:=fun af s σ H D I hw=>
 qM_ (h af s σ H D (I.wish _) hw) (fun _ _ q=>q.unwish) fun _ _ z=>False.elim z
end
section
variable {X:Cx} {st:Stmt} {rest:List Stmt} {t u:TS} {e:Expr} {te:TE} {pos:Pos}
noncomputable def Dp_:TS:=fun D σ H=>D.nx σ H
noncomputable def tSeq (t u:TS):TS:=fun D σ H=>t {D with nx:=u D} σ H
theorem AX:PSs X [] Dp_:=fun _ _ σ H _ I h=>zF_ ⟨σ,H,I,h⟩
theorem Ad (h1:PS X st t)(h2:PSs X rest u):PSs X (st::rest) (tSeq t u):=by
 intro af s σ H D I h
 refine wpAny_execs_cons (thn (h1 af s σ H {D with nx:=u D} I h) fun f s1 q=>?_)
 cases f with
 |next=>
  obtain⟨ag,H',I',q⟩:=q
  exact h2 af s1 ag H' D I' q
 |ret v=>exact q
 |brk=>exact q
 |cont=>exact q
theorem Ag (h1:PS X st t):PSs X [st] t:=by
 intro af s σ H D I h
 refine wpAny_execs_cons (thn (h1 af s σ H D I h) fun f s1 q=>?_)
 cases f with
 |next=>exact zF_ q
 |ret v=>exact q
 |brk=>exact q
 |cont=>exact q
theorem Inv.quiet     (I:Inv X af σ H s):interactive X.env=false:=by simp[interactive,I.ok.kind]
noncomputable def Dq_ (te:TE):TS:=fun D σ H=>te σ H fun _ H1=>D.nx σ H1
theorem BS (he:PE X e te)(hs:swapsWith e none pos.line X.env=pure false:=by rfl):PS X (.Expr e pos) (Dq_ te):=by
 intro af s σ H D I h
 exact wpAny_Expr_any (thn (he af s σ H _ I h) fun v s1 ⟨x,H1,I1,r1,q1⟩=>⟨σ,H1,I1,q1⟩) I.quiet hs
noncomputable def tRet (te:TE):TS:=fun D σ H=>te σ H D.rt
theorem AR (he:PE X e te):PS X (.Return (some e) pos) (tRet te):=by
 intro af s σ H D I h
 exact wpAny_Return_some (thn (he af s σ H _ I h) fun v s1 ⟨x,H1,I1,r1,q1⟩=>⟨x,σ,H1,I1,r1,q1⟩)
noncomputable def tIfS (c:TT)(t u:TS):TS:=fun D σ H=>c σ H fun b H1=>if b=true then t D σ H1 else u D σ H1
theorem Cy    (hc:PT X c tc)(ha:PSs X a t)(hb:PSs X b u):PS X (.If c a b pos) (tIfS tc t u):=by
 intro af s σ H D I h
 refine wpAny_If (thn (hc af s σ H _ I h) fun d s1 ⟨H1,I1,q1⟩=>?_)
 cases d with
 |true=>exact ha af s1 σ H1 D I1 q1
 |false=>exact hb af s1 σ H1 D I1 q1
noncomputable def Dr_:TS:=fun _ _ _=>False
theorem Ze:PS X st Dr_:=fun _ _ _ _ _ _ h=>h.elim
end
noncomputable abbrev TG:=V->St->Hp->(St->Hp->Prop)->Prop
noncomputable abbrev TGs:=List V->St->Hp->(St->Hp->Prop)->Prop
noncomputable def PG (X:Cx)(bI:Expr)(t:TG):Prop:=
 ∀(af:α7) (s:Shared) (σ:St) (H:Hp) (v:V) (u:Value) (Q:St->Hp->Prop),Inv X af σ H s->RelV v u->t v σ H Q ->
  wpAny (model X.prog X.w) X.A (assign bI X.env u) (fun _ s'=>∃ag H',Inv X af ag H' s'/\Q ag H') X.xe s
noncomputable def PGs (X:Cx)(ts:List Expr)(t:TGs):Prop:=
 ∀(af:α7) (s:Shared) (σ:St) (H:Hp) (vs:List V) (us:List Value) (Q:St->Hp->Prop),Inv X af σ H s->Vals vs us->t vs σ H Q ->
  wpAny (model X.prog X.w) X.A (assignInOrder ((assignEach ts X.env).map (·.2)) us) (fun _ s'=>∃ag H',Inv X af ag H' s'/\Q ag H') X.xe s
noncomputable abbrev TSet:=V->V->V->Hp->(Hp->Prop)->Prop
noncomputable def PSet (X:Cx)(t:TSet):Prop:=
 ∀(af:α7) (s:Shared) (σ:St) (H:Hp) (o i v:V) (ov iv u:Value) (Q:Hp->Prop),Inv X af σ H s->RelV o ov->RelV i iv->RelV v u->t o i v H Q ->
  wpAny (model X.prog X.w) X.A (setItem ov iv u) (fun _ s'=>∃H',Inv X af σ H' s'/\Q H') X.xe s
noncomputable abbrev TIp:=V->V->Hp->VK->Prop
noncomputable def PIp (X:Cx)(op:Operator)(t:TIp):Prop:=
 ∀(af:α7) (s:Shared) (σ:St) (H:Hp) (x y:V) (v u:Value) (Q:VK),Inv X af σ H s->RelV x v->RelV y u->t x y H Q ->
  wpAny (model X.prog X.w) X.A (inplaceOp op v u) (EP X af σ Q) X.xe s
section
variable {X:Cx} {pos:Pos}
noncomputable def Jn (i:Nat):TG:=fun v σ H Q=>Q (σ.set i (some v)) H
theorem Au   (hN:X.N.Nodup)(hi:X.N[i]?=some x)(hx:Loc X.env.scope x)(hf:X.fn x=true\/X.env.scope.names.lookup x=some .local:=by first|exact .inl rfl|exact .inr rfl|assumption):PG X (.Name x pos) (Jn i):=by
 intro af s σ H v u Q I r h
 exact wpAny_assign_Name (OX I hN hi hx r (fun s' I'=>⟨_,H,I',h⟩) hf)
noncomputable def gNil:TGs:=fun vs σ H Q=>vs=[]/\Q σ H
noncomputable def Ds_ (t:TG)(u:TGs):TGs:=fun vs σ H Q=>∃v r,vs=v::r/\t v σ H fun ag H'=>u r ag H' Q
theorem Ce_:PGs X [] gNil:=by
 intro af s σ H vs us Q I r h
 obtain⟨e,h⟩:=h
 subst e
 cases r
 exact assignInOrder_nil ⟨σ,H,I,h⟩
theorem UC     (h1:PG X e t)(h2:PGs X es u)
  (hs:(assignEach (e::es) X.env).map (·.2)=assign e X.env::(assignEach es X.env).map (·.2):=by rfl):PGs X (e::es) (Ds_ t u):=by
 intro af s σ H vs us Q I r h
 obtain⟨v,vr,e1,h⟩:=h
 subst e1
 cases r with
 |cons r rr=>
  rw[hs]
  refine assignInOrder_cons (thn (h1 af s σ H _ _ _ I r h) fun _ s1 ⟨gV,H1,I1,q1⟩=>?_)
  exact h2 af s1 gV H1 _ _ Q I1 rr q1
noncomputable def gTup (K:α3)(n:Nat)(t:TGs):TG:=fun v σ H Q=>∃a xs,v=.ref a/\SqT K H a xs/\xs.length=n/\t xs σ H Q
theorem Dt_     (hc:X.calm=true)(h:PGs X es t)
  (hn:(assignEach es X.env).length=n:=by rfl) (j6:(assignEach es X.env).findIdx? (·.1)=none:=by rfl):PG X (.Tuple es k pos) (gTup X.K n t):=by
 intro af s σ H v u Q I r hw
 obtain⟨a,xs,e1,hq,hl,hw⟩:=hw
 subst e1
 cases r
 obtain⟨its,rv,ht,hz⟩:=I.tuple hq
 refine assign_Tuple_tuple (I.ok.hd hc) ht (by simp[hn,<-hl,rv.length]) j6 fun h' hx=>?_
 have I1:Inv X af σ H {s with heap:=h' }:=I.kept (t':=s.toks) fun b o e=>hx b o (jK_ (js_ e)) e
 exact h af _ σ H xs _ Q I1 (by simpa using rv) hw
noncomputable def gSub (to ti:TE)(t:TSet):TG:=fun v σ H Q=>to σ H fun o H1=>ti σ H1 fun i H2=>t o i v H2 fun H3=>Q σ H3
theorem QS    (ho:PE X o to)(hi:PE X i ti)(hs:PSet X t)
  (ha:∀v,assign (.Subscript o i pos) X.env v=(do
   let ov <- holding [v] (eval o X.env)
   let iv <- holding [v,ov] (eval i X.env)
   standAt pos
   holding [v,ov,iv] (setItem ov iv v)
   release [v,ov,iv] []):=by intro _;rfl):PG X (.Subscript o i pos) (gSub to ti t):=by
 intro af s σ H v u Q I r h
 rw[ha]
 refine je_ (qX_ (thn (ho af s σ H _ I h) fun ov s1 ⟨x,H1,I1,r1,q1⟩=>?_))
 refine je_ (qX_ (thn (hi af s1 σ H1 _ I1 q1) fun iv s2 ⟨y,H2,I2,r2,q2⟩=>?_))
 refine je_ (wpAny_standAt (je_ (qX_ (thn (hs af s2 σ H2 x y v ov iv u _ I2 r1 r2 r q2) fun _ s3 ⟨H3,I3,q3⟩=>?_))))
 exact wpAny_release ⟨σ,H3,I3,q3⟩
noncomputable def tAsg (te:TE)(g:TG):TS:=fun D σ H=>te σ H fun x H1=>g x σ H1 D.nx
theorem QT    (he:PE X e te)(hg:PG X tg g)(hs:swapsWithSole [tg] e pos.line X.env=pure false:=by rfl)(hw:swappedStores [tg] e X.env=pure none:=by rfl)
  (h1:(assignEach [tg] X.env).map (·.2)=[assign tg X.env]:=by rfl):PS X (.Assign [tg] e pos) (tAsg te g):=by
 intro af s σ H D I h
 refine wpAny_Assign_stores (thn (he af s σ H _ I h) fun v s1 ⟨x,H1,I1,r1,q1⟩=>?_) hs hw
 rw[h1]
 exact thn (hg af s1 σ H1 x v _ I1 r1 q1) fun _ s2 q=>q
theorem Cd      (hN:X.N.Nodup)(hi:X.N[i]?=some x)(hx:Loc X.env.scope x)(he:PE X e te)(hs:swapsWith e (some (.Name x bU)) pos.line X.env=pure false:=by rfl)(hf:X.fn x=true\/X.env.scope.names.lookup x=some .local:=by first|exact .inl rfl|exact .inr rfl|assumption):
  PS X (.Assign [.Name x bU] e pos) (tAsg te (Jn i)):=by
 intro af s σ H D I h
 refine wpAny_Assign_Name (thn (he af s σ H _ I h) fun v s1 ⟨y,H1,I1,r1,q1⟩=>?_) hs
 exact OX I1 hN hi hx r1 (fun s2 I2=>⟨_,H1,I2,q1⟩) hf
noncomputable def tAug (i:Nat)(te:TE)(ti:TIp):TS:=fun D σ H=>∃x,σ[i]?=some (some x)/\te σ H fun y H1=>ti x y H1 fun z H2=>D.nx (σ.set i (some z)) H2
theorem W8        (hN:X.N.Nodup)(hi:X.N[i]?=some x)(hx:Loc X.env.scope x)(he:PE X e te)(ho:PIp X op ti)(hf:X.fn x=true\/X.env.scope.names.lookup x=some .local:=by first|exact .inl rfl|exact .inr rfl|assumption):
  PS X (.AugAssign (.Name x bU) op e pos) (tAug i te ti):=by
 intro af s σ H D I h
 obtain⟨v,e1,h⟩:=h
 obtain⟨m,hn,hl⟩:=I.loc
 have j7:Vis X.env.scope x:=by rcases hx with k|k;exact .inl k;exact .inr (.inl k)
 obtain⟨u,r,l⟩:=hl i x v hi e1 j7
 refine wpAny_AugAssign_Name ?_
 have go:wpAny (model X.prog X.w) X.A (eval e X.env) (fun w bg=>wpAny (model X.prog X.w) X.A (inplaceOp op u w) (fun r a7=>wpAny (model X.prog X.w) X.A (storeName X.env x r) (fun _=>SP X af D .next) X.xe a7) X.xe bg) X.xe s:=by
  refine thn (he af s σ H _ I h) fun w s1 ⟨y,H1,I1,r1,q1⟩=>?_
  refine thn (ho af s1 σ H1 v y u w _ I1 r r1 q1) fun z s2 ⟨zv,H2,I2,r2,q2⟩=>?_
  exact OX I2 hN hi hx r2 (fun s3 I3=>⟨_,H2,I3,q2⟩) hf
 rcases l with ⟨hk,hm⟩|⟨hk,c,hc,dF⟩
 ·exact wpAny_loadName_local I.ok.kind hk hn hm go
 ·rcases hk with hk|hk
  ·exact wpAny_loadName_cell I.ok.kind hk hc dF go
  ·rcases hx with k|k
   ·have:X.env.scope.names.lookup x=some .free:=hk
    rw[k]at this;cases this
   ·have:X.env.scope.names.lookup x=some .free:=hk
    rw[k]at this;cases this
noncomputable def ipI (f:Int->Int->Int):TIp:=fun x y H Q=>∃i j,x=.int i/\y=.int j/\Q (.int (f i j)) H
theorem AP_:PIp X .Add (ipI fun i j=>i+j):=by
 intro af s σ H x y v u Q I r1 r2 h
 obtain⟨i,j,e1,e2,q⟩:=h
 subst e1;subst e2
 obtain⟨t,rfl⟩:=r1
 obtain⟨t',rfl⟩:=r2
 exact iadd_int ⟨.int _,H,I.tok _,⟨_,rfl⟩,q⟩
theorem Du_:PIp X .Sub (ipI fun i j=>i-j):=by
 intro af s σ H x y v u Q I r1 r2 h
 obtain⟨i,j,e1,e2,q⟩:=h
 subst e1;subst e2
 obtain⟨t,rfl⟩:=r1
 obtain⟨t',rfl⟩:=r2
 exact isub_int ⟨.int _,H,I.tok _,⟨_,rfl⟩,q⟩
end
section
variable {X:Cx} {pos:Pos}
noncomputable def AQ_ (c:TT)(tb:TS):TS:=fun D σ H=>∃W:Nat->St->Hp->Prop,(∃m,W m σ H)/\∀m σ H,W m σ H ->
 c σ H fun b H1=>if b=true then ∃N:St->Hp->Prop,(∀ag H',N ag H'->∃m',m'<m/\W m' ag H')/\tb {D with nx:=N,ct:=N,bk:=D.nx} σ H1 else D.nx σ H1
theorem Hb     (hp:PassesOwn (model X.prog X.w) X.A X.env X.xe)(hc:PT X c tc)(hb:PSs X body tb):PS X (.While c body [] pos) (AQ_ tc tb):=by
 intro af s σ H D I h
 obtain⟨W,⟨m0,w0⟩,turn⟩:=h
 refine wpAny_While (codeAny_whileLoop (fun n s'=>∃ag H',Inv X af ag H' s'/\W n ag H') ?_ m0 ⟨σ,H,I,w0⟩)
 rintro n s1 ⟨gV,H1,I1,w1⟩
 refine xv_ hp (thn (hc af s1 gV H1 _ I1 (turn n gV H1 w1)) fun b s2 ⟨H2,I2,q2⟩=>?_)
 cases b with
 |true=>
  obtain⟨N,hN,q2⟩:=q2
  rw[if_pos rfl]
  refine xv_ hp (thn (hb af s2 gV H2 _ I2 q2) fun f s3 q3=>?_)
  cases f with
  |next=>
   obtain⟨aA,H3,I3,n3⟩:=q3
   obtain⟨m',hm,w3⟩:=hN aA H3 n3
   exact⟨m',hm,aA,H3,I3,w3⟩
  |cont=>
   obtain⟨aA,H3,I3,n3⟩:=q3
   obtain⟨m',hm,w3⟩:=hN aA H3 n3
   exact⟨m',hm,aA,H3,I3,w3⟩
  |brk=>exact q3
  |ret v=>exact q3
 |false=>
  rw[if_neg jt_]
  exact zF_ ⟨gV,H2,I2,q2⟩
end
structure It where
 go:Nat->Hp->Prop
 yld:Nat->Hp->V->Hp->Prop
 stop:Nat->Hp->Prop
noncomputable def FpOk (X:Cx)(af:α7)(H:Hp)(b:Addr):Prop:=
 H b=none/\b≠X.env.locals/\b∉X.fs/\(b∈X.ex\/X.s₀.heap.objs.size<=b)/\(∀x c,X.env.cells.lookup x=some c->c≠b)/\∀p∈X.pn++af,p.1≠b
theorem Inv.fpOk       (I:Inv X af σ H s)(hb:s.heap.objs.size<=b)(hn:H' b=none):FpOk X af H' b:=by
 refine⟨hn,qR_ (jx_ I.lt hb),I.nofs hb,.inr (ql_ I.sz hb),fun x c e z=>?_,fun p hp z=>?_⟩
 ·obtain⟨v,q⟩:=I.cell x c e
  exact absurd (jx_ q.lt (by rw[z];exact hb)) (j5_ _)
 ·exact absurd (jx_ (js_ (I.pin p hp).1) (by rw[z];exact hb)) (j5_ _)
structure Turn (P:Program)(w:World)(K:α3)(tg:Expr)(J:It)(fp:List Addr)(it:Addr)(tn:Nat->Heap->Prop):Prop where
 mem:it∈fp
 obj:∀i h,tn i h->∀b∈fp,∃o,h.get? b=some o/\∀v,o.data ≠ .cell v
 keep:∀i h h',tn i h->(∀b∈fp,∀o,h.get? b=some o->h'.get? b=some o)->tn i h'
 item:∀(X:Cx),X.prog=P->X.w=w->X.K=K->X.calm=true->∀(i:Nat) (af:α7) (s:Shared) (σ:St) (H:Hp) (E:Value->Shared->Prop),Inv X af σ H s->(∀b∈fp,FpOk X af H b)->tn i s.heap->J.go i H ->
  wpAny (model P w) X.A (pyNext (.ref it)) (fun r s1=>∃u,r=some u /\
   wpAny (model P w) X.A (letOwnedTupleGo tg (.ref it) u) (fun _ s2=>∃x H',Inv X af σ H' s2/\RelV x u/\J.yld i H x H'/\tn (i+1) s2.heap/\∀b∈fp,H' b=none) E s1) E s
 done:∀(X:Cx),X.prog=P->X.w=w->X.K=K->X.calm=true->∀(i:Nat) (af:α7) (s:Shared) (σ:St) (H:Hp) (E:Value->Shared->Prop),Inv X af σ H s->(∀b∈fp,FpOk X af H b)->tn i s.heap->J.stop i H ->
  wpAny (model P w) X.A (pyNext (.ref it)) (fun r s1=>r=none/\Inv X af σ H s1) E s
 self:∀(A:Around) (i:Nat) (s:Shared) (Q:Value->Shared->Prop) (E:Value->Shared->Prop),tn i s.heap->Q (.ref it) s->wpAny (model P w) A (pyIter (.ref it)) Q E s
noncomputable abbrev TI:=St->Hp->(It->Hp->Prop)->Prop
noncomputable def PIE (X:Cx)(af:α7)(σ:St)(tg:Expr)(R:It->Hp->Prop)(j8:Value)(s2:Shared):Prop:=
 ∃(it:Addr) (fp:List Addr) (tn:Nat->Heap->Prop) (J:It) (H':Hp),j8=.ref it/\Inv X af σ H' s2/\Turn X.prog X.w X.K tg J fp it tn/\tn 0 s2.heap/\(∀b∈fp,FpOk X af H' b)/\R J H'
noncomputable def PI (X:Cx)(tg iter:Expr)(wi:TI):Prop:=
 ∀(af:α7) (s:Shared) (σ:St) (H:Hp) (R:It->Hp->Prop),Inv X af σ H s->wi σ H R ->
  wpAny (model X.prog X.w) X.A (eval iter X.env) (fun v s1=>wpAny (model X.prog X.w) X.A (pyIter v) (PIE X af σ tg R) X.xe s1) X.xe s
theorem Cf_      {it:Addr}      (ho:s.heap.get? it=some o)(hc:o.cls=.type n)(hd:o.data=.fields vs)
    (hn:["enumerate","zip","dict_itemiterator","dict_reverseitemiterator","odict_iterator","itertools.zip_longest","itertools.pairwise"].contains n=false) (hQ:Q () s):wpAny M A (letOwnedTupleGo tg (.ref it) u) Q E s:=by
  unfold letOwnedTupleGo
  cases tg<;>first
    | exact ju_ hQ
    | (cases u<;>first
        | exact ju_ hQ
        | (refine je_ (wpAny_load ho ?_)
           rw[hc,hd]
           show wpAny M A (if (["enumerate","zip","dict_itemiterator","dict_reverseitemiterator","odict_iterator","itertools.zip_longest","itertools.pairwise"].contains n&&vs[0]? == some (rawInt _))=true then _ else _) Q E s
           rw[if_neg (by intro h;rw[hn,Bool.false_and]at h;cases h)]
           exact ju_ hQ))
noncomputable def Itl (K:α3)(a:Addr):It:=
 ⟨fun i H=>∃xs x,SqL K H a xs/\xs[i]?=some x,fun i H x H'=>H'=H/\∀xs,SqL K H a xs->xs[i]?=some x,fun i H=>∃xs,SqL K H a xs/\xs.length<=i⟩
noncomputable def Itt (K:α3)(a:Addr):It:=
 ⟨fun i H=>∃xs x,SqT K H a xs/\xs[i]?=some x,fun i H x H'=>H'=H/\∀xs,SqT K H a xs->xs[i]?=some x,fun i H=>∃xs,SqT K H a xs/\xs.length<=i⟩
noncomputable def Itr (lo:Int)(n:Nat):It:=⟨fun i _=>i<n,fun i H x H'=>H'=H/\x=.int (lo+i),fun i _=>n<=i⟩
theorem QU {P:Program}{w:World}{K:α3}{tg:Expr}(a it:Addr):Turn P w K tg (Itl K a) [it] it (fun i h=>h.IsListIter it a i) where
 mem:=by simp
 obj:=fun i h st b hb=>by
  have e:b=it:=by simpa using hb
  subst e
  obtain⟨o,e,c,d⟩:=st
  exact⟨o,e,fun v z=>by rw[d]at z;cases z⟩
 keep:=fun i h h' st k=>st.at fun o e=>k it (by simp) o e
 item:=by
  intro X hP hw hK hc i af s σ H E I hf st hg
  subst hP hw hK
  obtain⟨xs,x,hq,hx⟩:=hg
  obtain⟨its,rv,p,hz⟩:=I.list hq
  obtain⟨u,hu,ru⟩:=rv.get hx
  obtain⟨f0,f1,f2,f3,f4,f5⟩:=hf it (by simp)
  refine wpAny_pyNext_list_item st p.isList (x:=u) (by simpa using hu) fun h' ah sb=>?_
  have I1:Inv X af σ H {s with heap:=h' }:=I.turned (t':=s.toks) (fun b o hb e=>(sb.2 b hb).trans e) f0 f1 f3 f4 f5
  obtain⟨o,e,c,d⟩:=id ah
  exact⟨u,rfl,Cf_ (s:={s with heap:=h' }) e c d (by decide) ⟨x,H,I1,ru,⟨rfl,fun ys hy=>by rw[I.list_inj hy hq];exact hx⟩,ah,fun b hb=>(hf b hb).1⟩⟩
 done:=by
  intro X hP hw hK hc i af s σ H E I hf st hg
  subst hP hw hK
  obtain⟨xs,hq,hx⟩:=hg
  obtain⟨its,rv,p,hz⟩:=I.list hq
  obtain⟨f0,f1,f2,f3,f4,f5⟩:=hf it (by simp)
  have hl:=rv.length
  exact wpAny_pyNext_list_end (I.ok.hd hc) st p.isList (by simp;lia) fun h' eb=>⟨rfl,I.turned (t':=s.toks) (fun b o hb e=>eb b o hb e) f0 f1 f3 f4 f5⟩
 self:=fun _ _ _ _ _ st h=>wpAny_pyIter_listiter st h
theorem Oo {P:Program}{w:World}{K:α3}{tg:Expr}(a it:Addr):Turn P w K tg (Itt K a) [it] it (fun i h=>h.IsTupleIter it a i) where
 mem:=by simp
 obj:=fun i h st b hb=>by
  have e:b=it:=by simpa using hb
  subst e
  obtain⟨o,e,c,d⟩:=st
  exact⟨o,e,fun v z=>by rw[d]at z;cases z⟩
 keep:=fun i h h' st k=>st.at fun o e=>k it (by simp) o e
 item:=by
  intro X hP hw hK hc i af s σ H E I hf st hg
  subst hP hw hK
  obtain⟨xs,x,hq,hx⟩:=hg
  obtain⟨its,rv,p,hz⟩:=I.tuple hq
  obtain⟨u,hu,ru⟩:=rv.get hx
  obtain⟨f0,f1,f2,f3,f4,f5⟩:=hf it (by simp)
  refine wpAny_pyNext_tuple_item st (show s.heap.IsTuple a its.toArray from p) (x:=u) (by simpa using hu) fun h' ah sb=>?_
  have I1:Inv X af σ H {s with heap:=h' }:=I.turned (t':=s.toks) (fun b o hb e=>(sb.2 b hb).trans e) f0 f1 f3 f4 f5
  obtain⟨o,e,c,d⟩:=id ah
  exact⟨u,rfl,Cf_ (s:={s with heap:=h' }) e c d (by decide) ⟨x,H,I1,ru,⟨rfl,fun ys hy=>by rw[I.tuple_inj hy hq];exact hx⟩,ah,fun b hb=>(hf b hb).1⟩⟩
 done:=by
  intro X hP hw hK hc i af s σ H E I hf st hg
  subst hP hw hK
  obtain⟨xs,hq,hx⟩:=hg
  obtain⟨its,rv,p,hz⟩:=I.tuple hq
  obtain⟨f0,f1,f2,f3,f4,f5⟩:=hf it (by simp)
  have hl:=rv.length
  exact wpAny_pyNext_tuple_end (I.ok.hd hc) st (show s.heap.IsTuple a its.toArray from p) (by simp;lia) fun h' eb=>⟨rfl,I.turned (t':=s.toks) (fun b o hb e=>eb b o hb e) f0 f1 f3 f4 f5⟩
 self:=fun _ _ _ _ _ st h=>wpAny_pyIter_tupleiter st h
theorem VD {P:Program}{w:World}{K:α3}{tg:Expr}(it:Addr)(lo:Int)(n:Nat):Turn P w K tg (Itr lo n) [it] it (fun i h=>IsRangeIter h it (lo+(i:Nat)*1) ((n:Int)-(i:Nat)) 1) where
 mem:=by simp
 obj:=fun i h st b hb=>by
  have e:b=it:=by simpa using hb
  subst e
  exact⟨_,st,fun v z=>by
   have z':Data.fields _=Data.cell v:=z
   cases z'⟩
 keep:=fun i h h' st k=>k it (by simp) _ st
 item:=by
  intro X hP hw hK hc i af s σ H E I hf st hg
  subst hP hw hK
  obtain⟨f0,f1,f2,f3,f4,f5⟩:=hf it (by simp)
  have W:=Walks.range (prog:=X.prog) (w:=X.w) (I.ok.hd hc) it lo 1 n
  refine W.item i s _ _ hg st fun v h' tk hv ah kk=>?_
  obtain⟨t,rfl⟩:=hv
  have I1:Inv X af σ H {s with heap:=h',toks:=tk}:=I.turned (fun b o hb e=>kk b o (by simpa using hb) e) f0 f1 f3 f4 f5
  refine⟨_,rfl,Cf_ (s:={s with heap:=h',toks:=tk}) (n := "range_iterator") ah rfl rfl (by decide) ⟨.int (lo+i),H,I1,⟨t,?_⟩,⟨rfl,rfl⟩,ah,fun b hb=>(hf b hb).1⟩⟩
  rw[Int.mul_one]
 done:=by
  intro X hP hw hK hc i af s σ H E I hf st hg
  subst hP hw hK
  obtain⟨f0,f1,f2,f3,f4,f5⟩:=hf it (by simp)
  exact wpAny_pyNext_range_end (I.ok.hd hc) st (by have:n<=i:=hg;lia) fun h' eb=>⟨rfl,I.turned (t':=s.toks) (fun b o hb e=>eb b o hb e) f0 f1 f3 f4 f5⟩
 self:=fun _ _ _ _ _ st h=>wpAny_pyIter_rangeiter st h
end L2
namespace L2
open PySem PySem.Spec PyProof.Rows
section
variable {X:Cx} {tg:Expr}
noncomputable def Dv_ (K:α3)(tl:TE):TI:=fun σ H R=>tl σ H fun x H1=>∃a,x=.ref a/\(∃xs,SqL K H1 a xs)/\R (Itl K a) H1
noncomputable def iTup (K:α3)(tl:TE):TI:=fun σ H R=>tl σ H fun x H1=>∃a,x=.ref a/\(∃xs,SqT K H1 a xs)/\R (Itt K a) H1
theorem B2   (hl:PE X l tl):PI X tg l (Dv_ X.K tl):=by
 intro af s σ H R I h
 refine thn (hl af s σ H _ I h) fun v s1 ⟨x,H1,I1,r1,q1⟩=>?_
 obtain⟨a,e,⟨xs,hq⟩,q⟩:=q1
 subst e
 cases r1
 obtain⟨its,rv,p,hz⟩:=I1.list hq
 refine zj_ p.isList ?_
 refine⟨s1.heap.objs.size,[s1.heap.objs.size],_,_,H1,rfl,I1.kept (t':=s1.toks) fun b o e=>jm_ _ e,QU a _,⟨_,jC_ _ rfl,rfl,rfl⟩,fun b hb=>?_,q⟩
 have e:b=s1.heap.objs.size:=by simpa using hb
 subst e
 exact I1.fpOk (jg_ _) (I1.hok.fresh (jg_ _))
theorem Gk   (hl:PE X l tl):PI X tg l (iTup X.K tl):=by
 intro af s σ H R I h
 refine thn (hl af s σ H _ I h) fun v s1 ⟨x,H1,I1,r1,q1⟩=>?_
 obtain⟨a,e,⟨xs,hq⟩,q⟩:=q1
 subst e
 cases r1
 obtain⟨its,rv,p,hz⟩:=I1.tuple hq
 refine xL_ (show s1.heap.IsTuple a its.toArray from p) ?_
 refine⟨s1.heap.objs.size,[s1.heap.objs.size],_,_,H1,rfl,I1.kept (t':=s1.toks) fun b o e=>jm_ _ e,Oo a _,⟨_,jC_ _ rfl,rfl,rfl⟩,fun b hb=>?_,q⟩
 have e:b=s1.heap.objs.size:=by simpa using hb
 subst e
 exact I1.fpOk (jg_ _) (I1.hok.fresh (jg_ _))
theorem UD       {lo hi:Int}   (I:Inv X af σ H s)(h1 : -(2 ^ 62)<=lo)(h2:lo<2 ^ 62)(h3 : -(2 ^ 62)<=hi)(h4:hi<2 ^ 62)
  (q:R (Itr lo (hi-lo).toNat) H):wpAny (model X.prog X.w) X.A (pyIter (.ref s.heap.objs.size)) (PIE X af σ tg R) E {s with heap:=s.heap.push {cls:=.type "range",data:=.fields #[.int lo t,.int hi u,.int 1 v]},toks:=tk}:=by
 refine wpAny_pyIter_range (IsRange.new ..) (small_one h1 h2 h3 h4) ?_
 have I1:Inv X af σ H {s with heap:=s.heap.push {cls:=.type "range",data:=.fields #[.int lo t,.int hi u,.int 1 v]},toks:=tk}:=I.kept fun b o e=>jm_ _ e
 refine⟨(s.heap.push {cls:=.type "range",data:=.fields #[.int lo t,.int hi u,.int 1 v]}).objs.size,[(s.heap.push {cls:=.type "range",data:=.fields #[.int lo t,.int hi u,.int 1 v]}).objs.size],_,_,H,rfl,
  I1.kept (t':=tk) fun b o e=>jm_ _ e,VD _ lo (hi-lo).toNat,?_,fun b hb=>?_,q⟩
 ·have e1:lo+((0:Nat):Int)*1=lo:=by simp
  have e2:(((hi-lo).toNat:Nat):Int)-((0:Nat):Int)=Builtin.Range.rangeSize lo hi 1:=by rw[rangeSize_one];split<;>lia
  show IsRangeIter _ _ (lo+((0:Nat):Int)*1) ((((hi-lo).toNat:Nat):Int)-((0:Nat):Int)) 1
  rw[e1,e2]
  exact jC_ _ rfl
 ·have e:b=(s.heap.push {cls:=.type "range",data:=.fields #[.int lo t,.int hi u,.int 1 v]}).objs.size:=by simpa using hb
  subst e
  exact I1.fpOk (jg_ _) (I1.hok.fresh (jg_ _))
noncomputable def Dw_ (ta:TA):TI:=fun σ H R=>ta σ H fun vs H1=>∃j:Int,vs=[.int j] /\ -(2 ^ 62)<=j/\j<2 ^ 62/\R (Itr 0 j.toNat) H1
noncomputable def Dx_ (ta:TA):TI:=fun σ H R=>ta σ H fun vs H1=>∃i j:Int,vs=[.int i,.int j]/\(-(2 ^ 62)<=i/\i<2 ^ 62 /\ -(2 ^ 62)<=j/\j<2 ^ 62)/\R (Itr i (j-i).toNat) H1
theorem Bh    (hg:Gl X "range")(hm:X.mg "range"=none)(ha:PA X [a] ta)(hs:starEach [a] X.env=[(false,eval a X.env)]:=by rfl):PI X tg (.Call (.Name "range" p) [a] [] pos) (Dw_ ta):=by
 intro af s σ H R I h
 refine Call_ (Gi I hg hm boot_range (qd_ (thn (ha pos af s σ H _ I h) fun us s1 ⟨vs,H1,I1,r1,q1⟩=>?_) hs rfl))
 obtain⟨j,e,q1,q2,q⟩:=q1
 subst e
 cases r1 with
 |cons r rr=>
  cases rr
  obtain⟨t,rfl⟩:=r
  exact call_range_1 (UD I1 s!"" s!"" q1 q2 (by simpa using q))
theorem W9    (hg:Gl X "range")(hm:X.mg "range"=none)(ha:PA X [a,b] ta)(hs:starEach [a,b] X.env=[(false,eval a X.env),(false,eval b X.env)]:=by rfl)(eK:starEach [b] X.env=[(false,eval b X.env)]:=by rfl):
  PI X tg (.Call (.Name "range" p) [a,b] [] pos) (Dx_ ta):=by
 intro af s σ H R I h
 refine Call_ (Gi I hg hm boot_range (qd_ (thn (ha pos af s σ H _ I h) fun us s1 ⟨vs,H1,I1,r1,q1⟩=>?_) (by rw[hs,eK]) (by rw[eK];rfl)))
 obtain⟨i,j,e,⟨q1,q2,q3,q4⟩,q⟩:=q1
 subst e
 cases r1 with
 |cons r rr=>
  cases rr with
  |cons r' rr=>
   cases rr
   obtain⟨t,rfl⟩:=r
   obtain⟨t',rfl⟩:=r'
   exact call_range_2 (UD I1 q1 q2 q3 q4 q)
noncomputable def tFor (wi:TI)(g:TG)(tb:TS):TS:=fun D σ H=>wi σ H fun J H1=>∃W:Nat->Nat->St->Hp->Prop,(∃m,W 0 m σ H1)/\∀i m σ H,W i m σ H ->
 (J.stop i H/\D.nx σ H)\/(J.go i H/\∃N:St->Hp->Prop,(∀ag H',N ag H'->∃m',m'<m/\W (i+1) m' ag H')/\∀x H',J.yld i H x H'->g x σ H' fun aj H2=>tb {D with nx:=N,ct:=N,bk:=D.nx} aj H2)
noncomputable def Oq (fp:List Addr)(h:Heap):α7:=fp.filterMap fun b=>(h.get? b).map fun o=>(b,o)
theorem D8     (hb:b∈fp)(e:h.get? b=some o):(b,o)∈Oq fp h:=List.mem_filterMap.mpr ⟨b,hb,by rw[e];rfl⟩
theorem Xa    (hp:p∈Oq fp h):p.1∈fp/\h.get? p.1=some p.2:=by
 obtain⟨b,hb,e⟩:=List.mem_filterMap.mp hp
 cases q:h.get? b with
 |none=>rw[q]at e;cases e
 |some o=>
  rw[q]at e
  have e':(b,o)=p:=jp_ e
  subst e'
  exact⟨hb,q⟩
theorem Inv.pinned      (I:Inv X af σ H s)(hf:∀b∈fp,FpOk X af H b)(ho:∀b∈fp,∃o,s.heap.get? b=some o/\∀v,o.data ≠ .cell v):Inv X (af++Oq fp s.heap) σ H s:=
 I.pins_of fun p hp=>(jA_.mp hp).elim (fun z=>I.pin p (jw_ _ z)) fun z=>by
  obtain⟨hb,e⟩:=Xa z
  obtain⟨f0,f1,f2,_⟩:=hf p.1 hb
  obtain⟨o,e',d⟩:=ho p.1 hb
  rw[e]at e';cases e'
  exact⟨e,f0,f1,f2,d⟩
theorem Inv.unpinned     (I:Inv X (af++pl) σ H s):Inv X af σ H s:=I.pins_of fun p hp=>I.pin p (jw_ _ (j8_ _ hp))
theorem Ci {iter:Expr}  {wi:TI}    (hp:PassesOwn (model X.prog X.w) X.A X.env X.xe)(hc:X.calm=true)(hi:PI X tg iter wi)(hg:PG X tg g)(hb:PSs X body tb)
  (hs:∀x,foldedSetIterable iter X.env x=pure x:=by intro _;rfl):PS X (.For tg iter body [] pos) (tFor wi g tb):=by
 intro af s σ H D I h
 refine wpAny_For (thn (hi af s σ H _ I h) fun v s1 h1=>thn h1 fun j8 s2 h2=>?_) hs
 obtain⟨it,fp,tn,J,H2,e,I2,T,aM,f2,W,⟨m0,w0⟩,turn⟩:=h2
 subst e
 -- what stays true of mD iterator's objects through mD loop
 have cn:∀{H':Hp},(∀b∈fp,H' b=none)->∀b∈fp,FpOk X af H' b:=fun hn b hb=>⟨hn b hb,(f2 b hb).2⟩
 refine codeAny_forLoop_any (fun n s'=>∃i ag H',Inv X af ag H' s'/\tn i s'.heap/\(∀b∈fp,H' b=none)/\W i n ag H') ?_ m0 ⟨0,σ,H2,I2,aM,fun b hb=>(f2 b hb).1,w0⟩
 rintro n s3 ⟨i,aA,H3,I3,cV,jz,w3⟩
 rcases turn i n aA H3 w3 with ⟨stop,qn⟩|⟨go,N,hN,step⟩
 ·refine xv_ hp (thn (T.done X rfl rfl rfl hc i af s3 aA H3 X.xe I3 (cn jz) cV stop) fun r s4 ⟨hr,I4⟩=>?_)
  subst hr
  exact zF_ ⟨aA,H3,I4,qn⟩
 ·refine xv_ hp (thn (T.item X rfl rfl rfl hc i af s3 aA H3 X.xe I3 (cn jz) cV go) fun r s4 ⟨u,hr,h4⟩=>?_)
  subst hr
  refine xv_ hp (thn h4 fun _ s5 ⟨x,H5,I5,r5,y5,aZ,j9⟩=>?_)
  have ka:=I5.pinned (cn j9) (T.obj _ _ aZ)
  refine xv_ hp (thn (hg _ s5 aA H5 x u _ ka r5 (step x H5 y5)) fun _ s6 ⟨cO,H6,I6,q6⟩=>?_)
  refine xv_ hp (thn (hb _ s6 cO H6 _ I6 q6) fun f s7 q7=>?_)
  have again:∀{cJ:St} {H7:Hp},Inv X (af++Oq fp s5.heap) cJ H7 s7->N cJ H7->∃m,m<n/\∃i ag H',Inv X af ag H' s7/\tn i s7.heap/\(∀b∈fp,H' b=none)/\W i m ag H':=fun {cJ H7} I7 n7=>by
   obtain⟨m',hm,w7⟩:=hN cJ H7 n7
   refine⟨m',hm,i+1,cJ,H7,I7.unpinned,T.keep _ _ _ aZ fun b hb o e=>(I7.pin (b,o) (jw_ _ (jw_ _ (D8 hb e)))).1,fun b hb=>?_,w7⟩
   obtain⟨o,e,d⟩:=T.obj _ _ aZ b hb
   exact (I7.pin (b,o) (jw_ _ (jw_ _ (D8 hb e)))).2.1
  cases f with
  |next=>obtain⟨cJ,H7,I7,n7⟩:=q7;exact again I7 n7
  |cont=>obtain⟨cJ,H7,I7,n7⟩:=q7;exact again I7 n7
  |brk=>obtain⟨cJ,H7,I7,q7⟩:=q7;exact⟨cJ,H7,I7.unpinned,q7⟩
  |ret v=>obtain⟨x7,cJ,H7,I7,r7,q7⟩:=q7;exact⟨x7,cJ,H7,I7.unpinned,r7,q7⟩
end
theorem Zf {K:α3}{a:Addr}{xs:List V}{g:TG}{tb:TS}{D:Ends}{σ:St}{H:Hp}(Pv:Nat->St->Hp->Prop)(h0:Pv 0 σ H)(hl:∀i σ H,i<=xs.length->Pv i σ H->SqL K H a xs)
  (hs:∀i x σ H,xs[i]?=some x->Pv i σ H->g x σ H fun aj H2=>tb {D with nx:=Pv (i+1),ct:=Pv (i+1),bk:=D.nx} aj H2) (hd:∀σ H,Pv xs.length σ H->D.nx σ H):
  ∃W:Nat->Nat->St->Hp->Prop,(∃m,W 0 m σ H)/\∀i m σ H,W i m σ H ->
   ((Itl K a).stop i H/\D.nx σ H)\/((Itl K a).go i H/\∃N:St->Hp->Prop,(∀ag H',N ag H'->∃m',m'<m/\W (i+1) m' ag H')/\∀x H',(Itl K a).yld i H x H'->g x σ H' fun aj H2=>tb {D with nx:=N,ct:=N,bk:=D.nx} aj H2):=by
 refine⟨fun i m σ H=>m=xs.length-i/\i<=xs.length/\Pv i σ H,⟨xs.length,by simp,jX_ _,h0⟩,?_⟩
 rintro i m σ H ⟨rfl,hi,p⟩
 have q:=hl i σ H hi p
 by_cases au:i<xs.length
 ·refine .inr ⟨⟨xs,xs[i],q,by simp[au]⟩,Pv (i+1),fun ag H' p'=>⟨xs.length-(i+1),by lia,rfl,au,p'⟩,fun x H' y=>?_⟩
  obtain⟨e,y⟩:=y
  subst e
  exact hs i x σ _ (y xs q) p
 ·have e:i=xs.length:=by lia
  subst e
  exact .inl ⟨⟨xs,q,jg_ _⟩,hd σ H p⟩
theorem Cg_ {K:α3}{a:Addr}{xs:List V}{g:TG}{tb:TS}{D:Ends}{σ:St}{H:Hp}(Pv:Nat->St->Hp->Prop)(h0:Pv 0 σ H)(hl:∀i σ H,i<=xs.length->Pv i σ H->SqT K H a xs)
  (hs:∀i x σ H,xs[i]?=some x->Pv i σ H->g x σ H fun aj H2=>tb {D with nx:=Pv (i+1),ct:=Pv (i+1),bk:=D.nx} aj H2) (hd:∀σ H,Pv xs.length σ H->D.nx σ H):
  ∃W:Nat->Nat->St->Hp->Prop,(∃m,W 0 m σ H)/\∀i m σ H,W i m σ H ->
   ((Itt K a).stop i H/\D.nx σ H)\/((Itt K a).go i H/\∃N:St->Hp->Prop,(∀ag H',N ag H'->∃m',m'<m/\W (i+1) m' ag H')/\∀x H',(Itt K a).yld i H x H'->g x σ H' fun aj H2=>tb {D with nx:=N,ct:=N,bk:=D.nx} aj H2):=by
 refine⟨fun i m σ H=>m=xs.length-i/\i<=xs.length/\Pv i σ H,⟨xs.length,by simp,jX_ _,h0⟩,?_⟩
 rintro i m σ H ⟨rfl,hi,p⟩
 have q:=hl i σ H hi p
 by_cases au:i<xs.length
 ·refine .inr ⟨⟨xs,xs[i],q,by simp[au]⟩,Pv (i+1),fun ag H' p'=>⟨xs.length-(i+1),by lia,rfl,au,p'⟩,fun x H' y=>?_⟩
  obtain⟨e,y⟩:=y
  subst e
  exact hs i x σ _ (y xs q) p
 ·have e:i=xs.length:=by lia
  subst e
  exact .inl ⟨⟨xs,q,jg_ _⟩,hd σ H p⟩
theorem Xb {lo:Int}{n:Nat}{g:TG}{tb:TS}{D:Ends}{σ:St}{H:Hp}(Pv:Nat->St->Hp->Prop)(h0:Pv 0 σ H)
  (hs:∀i σ H,i<n->Pv i σ H->g (.int (lo+i)) σ H fun aj H2=>tb {D with nx:=Pv (i+1),ct:=Pv (i+1),bk:=D.nx} aj H2) (hd:∀σ H,Pv n σ H->D.nx σ H):
  ∃W:Nat->Nat->St->Hp->Prop,(∃m,W 0 m σ H)/\∀i m σ H,W i m σ H ->
   ((Itr lo n).stop i H/\D.nx σ H)\/((Itr lo n).go i H/\∃N:St->Hp->Prop,(∀ag H',N ag H'->∃m',m'<m/\W (i+1) m' ag H')/\∀x H',(Itr lo n).yld i H x H'->g x σ H' fun aj H2=>tb {D with nx:=N,ct:=N,bk:=D.nx} aj H2):=by
 refine⟨fun i m σ H=>m=n-i/\i<=n/\Pv i σ H,⟨n,by simp,jX_ _,h0⟩,?_⟩
 rintro i m σ H ⟨rfl,hi,p⟩
 by_cases au:i<n
 ·refine .inr ⟨au,Pv (i+1),fun ag H' p'=>⟨n-(i+1),by lia,rfl,au,p'⟩,fun x H' y=>?_⟩
  obtain⟨e,y⟩:=y
  subst e y
  exact hs i σ _ au p
 ·have e:i=n:=by lia
  subst e
  exact .inl ⟨jg_ _,hd σ H p⟩
end L2
namespace L2
open PySem PySem.Spec PyProof.Rows
noncomputable abbrev R2:=V->V->Hp->VK->Prop
noncomputable def OpR (X:Cx)(f:Value->Value->Sem Value)(r:R2):Prop:=
 ∀(af:α7) (s:Shared) (σ:St) (H:Hp) (x y:V) (v u:Value) (Q:VK),Inv X af σ H s->RelV x v->RelV y u->r x y H Q ->
  wpAny (model X.prog X.w) X.A (f v u) (EP X af σ Q) X.xe s
noncomputable def UnR (X:Cx)(f:Value->Sem Value)(r:V->Hp->VK->Prop):Prop:=
 ∀(af:α7) (s:Shared) (σ:St) (H:Hp) (x:V) (v:Value) (Q:VK),Inv X af σ H s->RelV x v->r x H Q ->
  wpAny (model X.prog X.w) X.A (f v) (EP X af σ Q) X.xe s
noncomputable def DE (X:Cx)(f:Value)(r:List V->Hp->VK->Prop):Prop:=
 ∀(af:α7) (s:Shared) (σ:St) (H:Hp) (xs:List V) (us:List Value) (Q:VK),Inv X af σ H s->Vals xs us->r xs H Q ->
  wpAny (model X.prog X.w) X.A (call f us) (EP X af σ Q) X.xe s
noncomputable def tOp (r:R2)(ta tb:TE):TE:=fun σ H Q=>ta σ H fun x H1=>tb σ H1 fun y H2=>r x y H2 Q
noncomputable def tUn (r:V->Hp->VK->Prop)(ta:TE):TE:=fun σ H Q=>ta σ H fun x H1=>r x H1 Q
noncomputable def rI (C:Int->Int->Prop)(g:Int->Int->V):R2:=fun x y H Q=>∃i j,x=.int i/\y=.int j/\C i j/\Q (g i j) H
noncomputable def rI0 (g:Int->Int->V):R2:=fun x y H Q=>∃i j,x=.int i/\y=.int j/\Q (g i j) H
noncomputable def rU (g:Int->V):V->Hp->VK->Prop:=fun x H Q=>∃i,x=.int i/\Q (g i) H
section
variable {X:Cx} {a b c:Expr} {ta tb tc:TE} {pos:Pos}
theorem binT (ha:PE X a ta)(hb:PE X b tb){af:α7}{s:Shared}{σ:St}{H:Hp}{R:V->V->Hp->Prop}(I:Inv X af σ H s)
  (h:ta σ H fun x H1=>tb σ H1 fun y H2=>R x y H2) {Q:Value->Shared->Prop} {f:Value->Value->Sem Value}
  (hf:∀v u s2 x y H2,Inv X af σ H2 s2->RelV x v->RelV y u->R x y H2->wpAny (model X.prog X.w) X.A (f v u) Q X.xe s2):
  wpAny (model X.prog X.w) X.A (eval a X.env) (fun v s₁=>wpAny (model X.prog X.w) X.A (eval b X.env) (fun u bg=>wpAny (model X.prog X.w) X.A (f v u) Q X.xe bg) X.xe s₁) X.xe s:=by
 refine thn (ha af s σ H _ I h) fun v s1 ⟨x,H1,I1,r1,q1⟩=>?_
 refine thn (hb af s1 σ H1 _ I1 q1) fun u s2 ⟨y,H2,I2,r2,q2⟩=>?_
 exact hf v u s2 x y H2 I2 r1 r2 q2
theorem An   (ho:OpR X (binaryOp op) r)(ha:PE X a ta)(hb:PE X b tb):PE X (.BinOp a op b pos) (tOp r ta tb):=by
 intro af s σ H Q I h
 exact wpAny_BinOp (binT ha hb I h fun v u s2 x y H2 I2 rx ry q=>ho af s2 σ H2 x y v u Q I2 rx ry q)
theorem Dy_   (ho:UnR X (unaryOp op) r)(ha:PE X a ta):PE X (.UnaryOp op a pos) (tUn r ta):=by
 intro af s σ H Q I h
 exact UnaryOp_ (thn (ha af s σ H _ I h) fun v s1 ⟨x,H1,I1,r1,q1⟩=>ho af s1 σ H1 x v Q I1 r1 q1)
theorem opI {f:Value->Value->Sem Value}{C:Int->Int->Prop}{g:Int->Int->Int}
  (rule:∀(i j:Int) (t u:Tok) (s:Shared) (Q:Value->Shared->Prop) (E:Value->Shared->Prop),C i j->Q (.int (g i j) s.toks) {s with toks:=s.toks+1}->wpAny (model X.prog X.w) X.A (f (.int i t) (.int j u)) Q E s):
  OpR X f (rI C fun i j=>.int (g i j)):=by
 intro af s σ H x y v u Q I rx ry h
 obtain⟨i,j,rfl,rfl,hc,q⟩:=h
 obtain⟨t,rfl⟩:=rx
 obtain⟨t',rfl⟩:=ry
 exact rule i j t t' s _ _ hc ⟨.int (g i j),H,I.tok _,⟨_,rfl⟩,q⟩
theorem opI0 {f:Value->Value->Sem Value}{g:Int->Int->Int}
  (rule:∀(i j:Int) (t u:Tok) (s:Shared) (Q:Value->Shared->Prop) (E:Value->Shared->Prop),Q (.int (g i j) s.toks) {s with toks:=s.toks+1}->wpAny (model X.prog X.w) X.A (f (.int i t) (.int j u)) Q E s):
  OpR X f (rI0 fun i j=>.int (g i j)):=by
 intro af s σ H x y v u Q I rx ry h
 obtain⟨i,j,rfl,rfl,q⟩:=h
 obtain⟨t,rfl⟩:=rx
 obtain⟨t',rfl⟩:=ry
 exact rule i j t t' s _ _ ⟨.int (g i j),H,I.tok _,⟨_,rfl⟩,q⟩
theorem opB0 {f:Value->Value->Sem Value}{g:Int->Int->Bool}
  (rule:∀(i j:Int) (t u:Tok) (s:Shared) (Q:Value->Shared->Prop) (E:Value->Shared->Prop),Q (.bool (g i j)) s->wpAny (model X.prog X.w) X.A (f (.int i t) (.int j u)) Q E s):
  OpR X f (rI0 fun i j=>.bl (g i j)):=by
 intro af s σ H x y v u Q I rx ry h
 obtain⟨i,j,rfl,rfl,q⟩:=h
 obtain⟨t,rfl⟩:=rx
 obtain⟨t',rfl⟩:=ry
 exact rule i j t t' s _ _ ⟨.bl (g i j),H,I,rfl,q⟩
noncomputable def CDiv (i j:Int):Prop:=0<j/\j<1073741824
noncomputable def CMul (i j:Int):Prop:=(-(2 ^ 64)<i/\i<2 ^ 64)\/(-(2 ^ 64)<j/\j<2 ^ 64)
theorem CMul.ok  (h:CMul i j):IntMulOk i j:=by
 rcases h with ⟨h1,h2⟩|⟨h1,h2⟩
 ·exact .of_left (intBits_le_64 h1 h2)
 ·exact .of_right (intBits_le_64 h1 h2)
theorem Bm:OpR X (binaryOp .Add) (rI0 fun i j=>.int (i+j)):=opI0 fun _ _ _ _ _ _ _ q=>add_int q
theorem EH:OpR X (binaryOp .Sub) (rI0 fun i j=>.int (i-j)):=opI0 fun _ _ _ _ _ _ _ q=>sub_int q
theorem IG:OpR X (binaryOp .Mult) (rI CMul fun i j=>.int (i*j)):=opI fun _ _ _ _ _ _ _ hc q=>mul_int q hc.ok
theorem CB:OpR X (binaryOp .FloorDiv) (rI CDiv fun i j=>.int (i / j)):=opI fun i j _ _ _ _ _ hc q=>by
 have h1:(0:Int)<j:=hc.1
 have h2:j<1073741824:=hc.2
 exact floordiv_int s!"" (by rw[Int.fdiv_eq_ediv_of_nonneg i s!""];exact q) (.inl (PyProof.noPylong_small s!""))
theorem A5:OpR X (binaryOp .Mod) (rI (fun _ j=>0<j) fun i j=>.int (i%j)):=opI fun i j _ _ _ _ _ hc q=>by
 have h1:(0:Int)<j:=hc
 exact mod_int' s!"" (by rw[Int.fmod_eq_emod_of_nonneg i s!""];exact q)
theorem unI {f:Value->Sem Value}{g:Int->Int}
  (rule:∀(i:Int) (t:Tok) (s:Shared) (Q:Value->Shared->Prop) (E:Value->Shared->Prop),Q (.int (g i) s.toks) {s with toks:=s.toks+1}->wpAny (model X.prog X.w) X.A (f (.int i t)) Q E s):
  UnR X f (rU fun i=>.int (g i)):=by
 intro af s σ H x v Q I rx h
 obtain⟨i,rfl,q⟩:=h
 obtain⟨t,rfl⟩:=rx
 exact rule i t s _ _ ⟨.int (g i),H,I.tok _,⟨_,rfl⟩,q⟩
theorem AR_:UnR X (unaryOp .USub) (rU fun i=>.int (-i)):=unI fun _ _ _ _ _ q=>neg_int q
end
noncomputable def scal:V->V->Bool
 |.non,.non=>true | .non,.int _=>true | .int _,.non=>true | .non,.bl _=>true | .bl _,.non=>true | .non,.str _=>true | .str _,.non=>true
 |.int _,.int _=>true | .bl _,.bl _=>true | .str _,.str _=>true | .byt _,.byt _=>true
 |.int _,.str _=>true | .str _,.int _=>true | .bl _,.str _=>true | .str _,.bl _=>true
 |_,_=>false
noncomputable def rEq:R2:=fun x y H Q=>scal x y=true/\Q (.bl (decide (x=y))) H
noncomputable def rNe:R2:=fun x y H Q=>scal x y=true/\Q (.bl (!decide (x=y))) H
theorem Xc  : decide (V.int i=V.int j)=(i==j):=by
 rw[qz_]
 simp
theorem AS_  : decide (V.bl i=V.bl j)=(i==j):=by
 rw[qz_]
 simp
theorem Xd  : decide (V.str i=V.str j)=(i==j):=by
 rw[qz_]
 simp
theorem Xe  : decide (V.byt i=V.byt j)=(i.toList==j.toList):=by
 rw[qz_]
 cases i
 cases j
 simp
section
variable {X:Cx} {a b c:Expr} {ta tb tc:TE} {pos:Pos}
theorem Bw       (I:Inv X af σ H s)(q:Q (.bl k) H)(e:k=k'):EP X af σ Q (.bool k') s:=by
 subst e
 exact⟨.bl k,H,I,rfl,q⟩
theorem Dx:OpR X (compareOp .Eq) rEq:=by
 intro af s σ H x y v u Q I rx ry h
 obtain⟨hs,q⟩:=h
 cases x with
 |non=>
  cases rx
  cases y with
  |non=>cases ry;exact PySem.EqNone.eq_none_none (Bw I q (by simp))
  |bl j=>cases ry;exact PySem.EqNone.eq_none_bool (Bw I q (by simp))
  |int j=>obtain⟨t',rfl⟩:=ry;exact PySem.EqNone.eq_none_int (Bw I q (by simp))
  |str j=>obtain⟨t',rfl⟩:=ry;exact PySem.EqNone.eq_none_str (Bw I q (by simp))
  |_=>exact absurd (show false=true from hs) jt_
 |bl i=>
  cases rx
  cases y with
  |non=>cases ry;exact PySem.EqNone.eq_bool_none (Bw I q (by simp))
  |bl j=>cases ry;exact eq_bool (Bw I q AS_)
  |str j=>obtain⟨t',rfl⟩:=ry;exact PySem.EqMixed.eq_bool_str (Bw I q (by simp))
  |_=>exact absurd (show false=true from hs) jt_
 |int i=>
  obtain⟨t,rfl⟩:=rx
  cases y with
  |non=>cases ry;exact PySem.EqNone.eq_int_none (Bw I q (by simp))
  |int j=>obtain⟨t',rfl⟩:=ry;exact eq_int (Bw I q Xc)
  |str j=>obtain⟨t',rfl⟩:=ry;exact PySem.EqMixed.eq_int_str (Bw I q (by simp))
  |_=>exact absurd (show false=true from hs) jt_
 |str i=>
  obtain⟨t,rfl⟩:=rx
  cases y with
  |non=>cases ry;exact PySem.EqNone.eq_str_none (Bw I q (by simp))
  |bl j=>cases ry;exact PySem.EqMixed.eq_str_bool (Bw I q (by simp))
  |int j=>obtain⟨t',rfl⟩:=ry;exact PySem.EqMixed.eq_str_int (Bw I q (by simp))
  |str j=>obtain⟨t',rfl⟩:=ry;exact eq_str (Bw I q Xd)
  |_=>exact absurd (show false=true from hs) jt_
 |byt i=>
  obtain⟨t,rfl⟩:=rx
  cases y with
  |byt j=>obtain⟨t',rfl⟩:=ry;exact PySem.W.eq_bytes (Bw I q Xe)
  |_=>exact absurd (show false=true from hs) jt_
 |_=>cases y<;>exact absurd (show false=true from hs) jt_
theorem Zg:OpR X (compareOp .NotEq) rNe:=by
 intro af s σ H x y v u Q I rx ry h
 obtain⟨hs,q⟩:=h
 cases x with
 |non=>
  cases rx
  cases y with
  |non=>cases ry;exact PySem.EqNone.ne_none_none (Bw I q (by simp))
  |bl j=>cases ry;exact PySem.EqNone.ne_none_bool (Bw I q (by simp))
  |int j=>obtain⟨t',rfl⟩:=ry;exact PySem.EqNone.ne_none_int (Bw I q (by simp))
  |str j=>obtain⟨t',rfl⟩:=ry;exact PySem.EqNone.ne_none_str (Bw I q (by simp))
  |_=>exact absurd (show false=true from hs) jt_
 |bl i=>
  cases rx
  cases y with
  |non=>cases ry;exact PySem.EqNone.ne_bool_none (Bw I q (by simp))
  |bl j=>cases ry;exact ne_bool (Bw I q (jD_ not AS_))
  |str j=>obtain⟨t',rfl⟩:=ry;exact PySem.EqMixed.ne_bool_str (Bw I q (by simp))
  |_=>exact absurd (show false=true from hs) jt_
 |int i=>
  obtain⟨t,rfl⟩:=rx
  cases y with
  |non=>cases ry;exact PySem.EqNone.ne_int_none (Bw I q (by simp))
  |int j=>obtain⟨t',rfl⟩:=ry;exact ne_int (Bw I q (jD_ not Xc))
  |str j=>obtain⟨t',rfl⟩:=ry;exact PySem.EqMixed.ne_int_str (Bw I q (by simp))
  |_=>exact absurd (show false=true from hs) jt_
 |str i=>
  obtain⟨t,rfl⟩:=rx
  cases y with
  |non=>cases ry;exact PySem.EqNone.ne_str_none (Bw I q (by simp))
  |bl j=>cases ry;exact PySem.EqMixed.ne_str_bool (Bw I q (by simp))
  |int j=>obtain⟨t',rfl⟩:=ry;exact PySem.EqMixed.ne_str_int (Bw I q (by simp))
  |str j=>obtain⟨t',rfl⟩:=ry;exact ne_str (Bw I q (jD_ not Xd))
  |_=>exact absurd (show false=true from hs) jt_
 |byt i=>
  obtain⟨t,rfl⟩:=rx
  cases y with
  |byt j=>obtain⟨t',rfl⟩:=ry;exact PySem.W.ne_bytes (Bw I q (jD_ not Xe))
  |_=>exact absurd (show false=true from hs) jt_
 |_=>cases y<;>exact absurd (show false=true from hs) jt_
theorem LB:OpR X (compareOp .Lt) (rI0 fun i j=>.bl (decide (i<j))):=opB0 fun _ _ _ _ _ _ _ q=>lt_int q
theorem Dz_:OpR X (compareOp .LtE) (rI0 fun i j=>.bl (decide (i<=j))):=opB0 fun _ _ _ _ _ _ _ q=>le_int q
theorem Ch_:OpR X (compareOp .Gt) (rI0 fun i j=>.bl (decide (j<i))):=opB0 fun _ _ _ _ _ _ _ q=>gt_int q
theorem Fh_:OpR X (compareOp .GtE) (rI0 fun i j=>.bl (decide (j<=i))):=opB0 fun _ _ _ _ _ _ _ q=>ge_int q
theorem DA_:OpR X (compareOp .Is) (fun x y H Q=>y=.non/\Q (.bl (decide (x=.non))) H):=by
 intro af s σ H x y v u Q I rx ry h
 obtain⟨rfl,q⟩:=h
 cases ry
 refine is_none_gen (Bw I q ?_)
 cases x<;>first
  | (cases rx;rfl)
  | (obtain⟨t,rfl⟩:=rx;rfl)
theorem AV (b:Expr)  (h:op ≠ .In:=by decide)(h2:op ≠ .NotIn:=by decide):behindInMarks op b=false:=by
 have e1:(op==CmpOp.In)=false:=by cases op<;>first|rfl|exact absurd rfl h
 have e2:(op==CmpOp.NotIn)=false:=by cases op<;>first|rfl|exact absurd rfl h2
 cases b<;>simp[behindInMarks,e1,e2]
theorem SM   (ho:OpR X (compareOp op) r)(ha:PE X a ta)(hb:PE X b tb)(hm:behindInMarks op b=false):PE X (.Compare a [op] [b] pos) (tOp r ta tb):=by
 intro af s σ H Q I h
 exact wpAny_Compare1 (binT ha hb I h fun v u s2 x y H2 I2 rx ry q=>ho af s2 σ H2 x y v u Q I2 rx ry q) hm
noncomputable def Zh (t:TE):TT:=fun σ H Q=>t σ H fun x H'=>∃k,x=.bl k/\Q k H'
theorem Aw   (ho:OpR X (compareOp op) r)(ha:PE X a ta)(hb:PE X b tb)(hm:behindInMarks op b=false):PT X (.Compare a [op] [b] pos) (Zh (tOp r ta tb)):=by
 intro af s σ H Q I h
 refine wpAny_isTrue_Compare1 (thn (ha af s σ H _ I h) fun v s1 ⟨x,H1,I1,r1,q1⟩=>thn (hb af s1 σ H1 _ I1 q1) fun u s2 ⟨y,H2,I2,r2,q2⟩ =>
  thn (ho af s2 σ H2 x y v u _ I2 r1 r2 q2) fun c s3 ⟨z,H3,I3,r3,k,e,q3⟩=>?_) hm
 subst e
 cases r3
 exact xu_ ⟨H3,I3,q3⟩
noncomputable def AT_ (r r':R2)(ta tb tc:TE):TE:=fun σ H Q=>ta σ H fun x H1=>tb σ H1 fun y H2=>r x y H2 fun z H3=>∃k,z=.bl k /\
 (if k=true then tc σ H3 fun w' H4=>r' y w' H4 Q else Q (.bl false) H3)
theorem Zi   (ho:OpR X (compareOp op) r)(gc:OpR X (compareOp op') r')(ha:PE X a ta)(hb:PE X b tb)(hc:PE X c tc)
  (hm:lastMarks [op,op'] [b,c]=false:=by with_unfolding_all rfl):PE X (.Compare a [op,op'] [b,c] pos) (AT_ r r' ta tb tc):=by
 intro af s σ H Q I h
 refine Compare_chain (thn (ha af s σ H _ I h) fun v s1 ⟨x,H1,I1,r1,q1⟩=>chain_link (thn (hb af s1 σ H1 _ I1 q1) fun u s2 ⟨y,H2,I2,r2,q2⟩ =>
  thn (ho af s2 σ H2 x y v u _ I2 r1 r2 q2) fun d s3 ⟨z,H3,I3,r3,k,e,q3⟩=>?_)) hm
 subst e
 cases r3
 refine xu_ ?_
 cases k with
 |false=>exact ite_ff ⟨.bl false,H3,I3,rfl,q3⟩
 |true=>exact ite_tt (chain_last (thn (hc af s3 σ H3 _ I3 q3) fun w' s4 ⟨z',H4,I4,r4,q4⟩=>gc af s4 σ H4 y z' u w' Q I4 r2 r4 q4))
theorem QV:(sizeLine:Nat)<2 ^ 63:=by rw[sizeLine_eq];decide
theorem vals1   (r:Vals [x] us):∃u,us=[u]/\RelV x u:=by
 cases r with
 |cons r1 r2=>cases r2;exact⟨_,rfl,r1⟩
theorem vals2   (r:Vals [x,y] us):∃u w',us=[u,w']/\RelV x u/\RelV y w':=by
 cases r with
 |cons r1 r2=>
  cases r2 with
  |cons r3 r4=>cases r4;exact⟨_,_,rfl,r1,r3⟩
theorem Xf (hc:X.calm=true):DE X (.builtin "max") (fun xs H Q=>∃i j,xs=[.int i,.int j]/\Q (.int (if j > i then j else i)) H):=by
 intro af s σ H xs us Q I r h
 obtain⟨i,j,rfl,q⟩:=h
 obtain⟨u,w',rfl,⟨t,rfl⟩,⟨t',rfl⟩⟩:=vals2 r
 refine max_two_ints (I.ok.hd hc) fun h' tk k=>⟨_,H,I.kept k,?_,q⟩
 by_cases hj:j > i
 ·rw[if_pos hj,if_pos hj];exact⟨_,rfl⟩
 ·rw[if_neg hj,if_neg hj];exact⟨_,rfl⟩
theorem Xg (hc:X.calm=true):DE X (.builtin "min") (fun xs H Q=>∃i j,xs=[.int i,.int j]/\Q (.int (if j<i then j else i)) H):=by
 intro af s σ H xs us Q I r h
 obtain⟨i,j,rfl,q⟩:=h
 obtain⟨u,w',rfl,⟨t,rfl⟩,⟨t',rfl⟩⟩:=vals2 r
 refine min_two_ints (I.ok.hd hc) fun h' tk k=>⟨_,H,I.kept k,?_,q⟩
 by_cases hj:j<i
 ·rw[if_pos hj,if_pos hj];exact⟨_,rfl⟩
 ·rw[if_neg hj,if_neg hj];exact⟨_,rfl⟩
end
end L2
namespace L2
open PySem PySem.Spec PyProof.Rows
structure ObjM (h:Heap)(x dx C:Addr)(mA:Str->α5):Prop where
 obj:h.get? x=some (PySem.W.instObj C dx)
 ns:h.Ns1 dx mA
 ne:dx≠x
theorem Xh {h:Heap}{dx:Addr}{mA:Str->α5}(n:h.Ns1 dx mA):∃od,h.get? dx=some od/\∀name,PySem.W.lookIn name od=some (mA name):=by
 obtain⟨o,es,ep,ho,hd,hk,_,hm⟩:=n
 refine⟨o,ho,fun name=>?_⟩
 have e:=hm name
 unfold nsFind findBy at e
 rw[<-Array.find?_toList]at e
 unfold PySem.W.lookIn
 rw[hd]
 dsimp only
 split
 ·rename_i y q
  rw[q]at e
  exact jD_ some e
 ·rename_i q
  rw[q]at e
  have a:es.toList.any (·.refKey)=false:=by
   rw[List.any_eq_false]
   intro y hy
   obtain⟨z,t,bq⟩:=hk y (Array.mem_toList_iff.mp hy)
   simp[DictEntry.refKey,bq]
  have a':¬ es.toList.any (·.refKey)=true:=by rw[a];exact jt_
  rw[if_neg a']
  exact jD_ some e
theorem ObjM.look    (I:ObjM h x dx C mA):∃od,PySem.W.InstAt h x (PySem.W.instObj C dx) C (some od)/\∀name,PySem.W.lookIn name od=some (mA name):=
 let ⟨od,ho,hl⟩:=Xh I.ns
 ⟨od,⟨I.obj,rfl,rfl,ho⟩,hl⟩
theorem RelO.some_of   (r:RelO (some v) o):∃u,o=some u/\RelV v u:=by
 cases o with
 |none=>exact (show False from r).elim
 |some u=>exact⟨u,rfl,r⟩
section
variable {P:Program} {w:World} {H H':Hp} {h h':Heap} {a C dx:Addr} {fs fs':List (Str×V)}
theorem Ci_ (hok:HOk P w H h)(e:H a=some (.ins C dx fs)):∃mA,ObjM h a dx C mA/\(∀f,RelO (fs.lookup f) (mA f))/\PySem.Within mA (fs.map (·.1))/\fs.length<=1000/\H dx=some (.own a):=by
 obtain⟨d,z,ne,ob,mA,n,r,q⟩:=(show Cc P w H h a (.ins C dx fs) from hok a _ e)
 exact⟨mA,⟨ob,n,ne⟩,r,q,z,d⟩
end
structure Cls (K:α3)(C:Addr):Prop where
 pg:PySem.W.plainGet K C Str.empty=true
 hd:PySem.W.hasDictIn K C=true
 po:PySem.W.plainOver K C=true
 sa:PySem.W.findIn K (.ref C) "__setattr__"=some (some (.builtin "object.__setattr__"))
theorem Cls.get {K:α3}  (c:Cls K C)(f:Str):PySem.W.plainGet K C f=true:=c.pg
section
variable {X:Cx} {af:α7} {σ:St} {H:Hp} {s:Shared} {A:Around} {E:Value->Shared->Prop} {Q:Value->Shared->Prop} {c:Value} {b:Bool}
inductive TyOf (K:α3)(H:Hp):V->Value->Prop where
 | non:TyOf K H .non (.type "NoneType")
 | bl (x:Bool):TyOf K H (.bl x) (.type "bool")
 | int (i:Int):TyOf K H (.int i) (.type "int")
 | str (x:Str):TyOf K H (.str x) (.type "str")
 | flt (x:UInt64):TyOf K H (.flt x) (.type "float")
 | lst {a:Addr} {xs:List V} (e:H a=some (.lst xs)):TyOf K H (.ref a) (.type "list")
 | frz {a:Addr} {o:Obj} {xs:List V} (e:H a=some (.frz o (.lst xs))):TyOf K H (.ref a) (.type "list")
 | tup {a:Addr} {xs:List V} (e:H a=some (.tup xs)):TyOf K H (.ref a) (.type "tuple")
 | dK {a:Addr} {kvs:List (Key×V)} (e:H a=some (.dK kvs)):TyOf K H (.ref a) (.type "dict")
 | dT {a:Addr} {kvs:List (List Key×V)} (e:H a=some (.dT kvs)):TyOf K H (.ref a) (.type "dict")
 | ins {a C dx:Addr} {fs:List (Str×V)} (e:H a=some (.ins C dx fs)) (cl:Cls K C) (ha:PySem.W.findIn K (.ref C) "__class__"=some (some (.builtin "object.__class__")))
   (hn:PySem.W.specialIn K (.builtin "object.__class__") "__get__"=some (some (.builtin "getset_descriptor.__get__"))) (kb:PySem.W.takesIn K (.builtin "object.__class__")=some true)
   (hm:PySem.W.mroIn K C (.type "object")=some true):TyOf K H (.ref a) (.ref C)
theorem Xi   (I:Inv X af σ H s)(rx:RelV x u)(ty:TyOf X.K H x t)(e:kitOne X.K t c=some b)(h:∀tk,Q (.bool b) {s with toks:=tk}):
  wpAny (model X.prog X.w) A (call (.builtin "isinstance") [u,c]) Q E s:=by
 cases ty with
 |non=>cases (show u=Value.none from rx);exact qm_ PySem.W.kitx_none I.kIn True.intro e (fun z=>nomatch z) h
 |bl y=>cases (show u=Value.bool y from rx);exact qm_ PySem.W.kitx_bool I.kIn True.intro e (fun z=>nomatch z) h
 |int i=>obtain⟨t,q⟩:=(show ∃t,u=Value.int i t from rx);cases q;exact qm_ PySem.W.kitx_int I.kIn True.intro e (fun z=>nomatch z) h
 |str y=>obtain⟨t,q⟩:=(show ∃t,u=Value.str y t from rx);cases q;exact qm_ PySem.W.kitx_str I.kIn True.intro e (fun z=>nomatch z) h
 |flt y=>obtain⟨t,q⟩:=(show ∃t,u=Value.float y t from rx);cases q;exact qm_ PySem.W.kitx_float I.kIn True.intro e (fun z=>nomatch z) h
 |@lst a xs ea=>
  cases (show u=Value.ref a from rx)
  obtain⟨_,_,n,_,h1⟩:=(show Cc X.prog X.w H s.heap a (.lst xs) from I.hok a _ ea)
  exact qm_ zS_ I.kIn ⟨_,h1,rfl⟩ e (fun z=>nomatch z) h
 |@frz a ob xs ea=>
  cases (show u=Value.ref a from rx)
  obtain⟨_,_,_,n,_,h1⟩:=(show Cc X.prog X.w H s.heap a (.frz ob (.lst xs)) from I.hok a _ ea)
  exact qm_ zS_ I.kIn ⟨_,h1,rfl⟩ e (fun z=>nomatch z) h
 |@tup a xs ea=>
  cases (show u=Value.ref a from rx)
  obtain⟨_,_,_,p⟩:=(show Cc X.prog X.w H s.heap a (.tup xs) from I.hok a _ ea)
  obtain⟨o,h1,h2,_⟩:=p
  exact qm_ PySem.W.kitx_tuple I.kIn ⟨o,h1,h2⟩ e (fun z=>nomatch z) h
 |@dK a kvs ea=>
  cases (show u=Value.ref a from rx)
  obtain⟨_,_,vs,_,p⟩:=(show Cc X.prog X.w H s.heap a (.dK kvs) from I.hok a _ ea)
  obtain⟨o,es,ep,h1,h2,_⟩:=p
  exact qm_ PySem.W.kitx_dict I.kIn ⟨o,h1,h2.1⟩ e (fun z=>nomatch z) h
 |@dT a kvs ea=>
  cases (show u=Value.ref a from rx)
  obtain⟨_,_,xs,_,o,es,ep,h1,h2,_⟩:=(show Cc X.prog X.w H s.heap a (.dT kvs) from I.hok a _ ea)
  exact qm_ PySem.W.kitx_dict I.kIn ⟨o,h1,h2.1⟩ e (fun z=>nomatch z) h
 |@ins a C dx fs ea cl ha hn kb hm=>
  cases (show u=Value.ref a from rx)
  obtain⟨mA,O,_⟩:=Ci_ I.hok ea
  obtain⟨od,J,_⟩:=O.look
  exact qm_ (PySem.W.kitx_own (cl.get _) cl.hd ha hn kb hm) I.kIn J e (fun z=>nomatch z) h
end
end L2
namespace L2
open PySem PySem.Spec PyProof.Rows
structure Room (k:Nat)(A:Around):Prop where
 hd:A.handled=none
 dp:A.depth+3*k+5<recursionLimit
 un:A.units+16*k+200<cLine
theorem Room.mono   (r:Room k A)(h:j<=k):Room j A:=⟨r.hd,by have:=r.dp;lia,by have:=r.un;lia⟩
theorem Room.deeper   (r:Room (k+1) A)(env:Env):Room k (A.deeper env):=
 ⟨r.hd,by have:=r.dp;show A.depth+1+3*k+5<_;lia,by have:=r.un;show A.units+3+16*k+200<_;lia⟩
theorem Room.in1   (r:Room (k+1) A):Room k A.in1:=
 ⟨r.hd,by have:=r.dp;show A.depth+3*k+5<_;lia,by have:=r.un;show A.units+1+16*k+200<_;lia⟩
theorem Room.depth   (r:Room k A):A.depth<recursionLimit:=by have:=r.dp;lia
theorem Room.units   (r:Room k A):A.units+64<cLine:=by have:=r.un;lia
noncomputable def tNil:TA:=fun _ H Q=>Q [] H
noncomputable def DB_ (ta:TE)(tr:TA):TA:=fun σ H Q=>ta σ H fun x H1=>tr σ H1 fun xs H2=>Q (x::xs) H2
section
variable {X:Cx} {e:Expr} {es:List Expr} {te:TE} {t:TA} {pos:Pos}
theorem Ae:PA X [] tNil:=fun _ _ _ _ H Q I h=>xT_ ⟨[],H,I,.nil,h⟩
theorem Aa (ha:PE X e te)(hr:PA X es t)(hs:starEach (e::es) X.env=(false,eval e X.env)::starEach es X.env:=by rfl):PA X (e::es) (DB_ te t):=by
 intro pos af s σ H Q I h
 rw[hs]
 show wpAny _ _ (spliced ((false,eval e X.env)::backTo pos (starEach es X.env))) _ _ s
 refine xm_ (thn (ha af s σ H _ I h) fun u s1 ⟨x,H1,I1,r1,q1⟩=>?_)
 exact thn (hr pos af s1 σ H1 _ I1 q1) fun us s2 ⟨xs,H2,I2,r2,q2⟩=>⟨x::xs,H2,I2,.cons r1 r2,q2⟩
noncomputable def tTup (t:TA):TE:=fun σ H Q=>t σ H fun xs H1=>xs.length<=sizeLine/\∀p,H1 p=none->Q (.ref p) (upd H1 p (.tup xs))
noncomputable def tLst (t:TA):TE:=fun σ H Q=>t σ H fun xs H1=>xs.length<=sizeLine/\∀p,H1 p=none->Q (.ref p) (upd H1 p (.lst xs))
theorem Dj {x1}(h:PA X es t):PE X (.Tuple es x1 pos) (tTup t):=by
 intro af s σ H Q I hq
 refine wpAny_Tuple_spliced (thn (h pos af s σ H _ I hq) fun us s1 ⟨xs,H1,I1,r,z,q⟩=>⟨by rw[<-r.length];exact z,?_⟩)
 have hf:H1 s1.heap.objs.size=none:=I1.hok.fresh (jg_ _)
 refine⟨.ref s1.heap.objs.size,upd H1 s1.heap.objs.size (.tup xs),I1.laid (t':=s1.toks) (fun b u e=>jm_ _ e) (jg_ _) ?_,rfl,q _ hf⟩
 exact⟨z,us,r,⟨_,jC_ _ rfl,rfl,_,rfl⟩⟩
theorem Cu (h:PA X es t):PE X (.List es pos) (tLst t):=by
 intro af s σ H Q I hq
 refine wpAny_List_spliced (thn (h pos af s σ H _ I hq) fun us s1 ⟨xs,H1,I1,r,z,q⟩=>⟨by rw[<-r.length];exact z,?_⟩)
 have hf:H1 s1.heap.objs.size=none:=I1.hok.fresh (jg_ _)
 refine⟨.ref s1.heap.objs.size,upd H1 s1.heap.objs.size (.lst xs),I1.laid (t':=s1.toks) (fun b u e=>jm_ _ e) (jg_ _) ?_,rfl,q _ hf⟩
 exact⟨z,us,0,r,jC_ _ rfl⟩
end
noncomputable abbrev Sp:=List V->Hp->VK->XK->Prop
noncomputable abbrev CXT:=List Env->Hp->Shared->XK->Value->Shared->Prop
structure Env0 (P:Program)(w:World)(K:α3)(mg:Str->α5)(base:Heap)(A:Around)(outer:List Env)(s:Shared)(H:Hp):Prop where
 frames:A.frames=some outer
 mod:Mod K mg base
 bs:∀b o,base.get? b=some o->s.heap.get? b=some o/\H b=none
 bsz:base.objs.size<=s.heap.objs.size
 funs:s.heap.FunFrames base outer
 frf:∀b∈frs outer,H b=none
 hok:HOk P w H s.heap
 bare:AllBare s.gens
noncomputable def CE (outer:List Env)(P:Program)(w:World)(H:Hp)(s:Shared)(Q:VK)(u:Value)(s':Shared):Prop:=
 ∃v H',s'.os=s.os/\AllBare s'.gens/\Un (frs outer) [] H H' s.heap s'.heap/\HOk P w H' s'.heap/\RelV v u/\Q v H'
noncomputable def CR (CX:CXT)(outer:List Env)(P:Program)(w:World)(H:Hp)(s:Shared)(Q:VK)(E:XK)(r:Result)(s':Shared):Prop:=
 match r with
 |.ok (.ret u)=>CE outer P w H s Q u s'
 |.ok _=>False
 |.error e=>CX outer H s E e s'
structure FnOk (P:Program)(w:World)(K:α3)(mg:Str->α5)(base:Heap)(CX:CXT)(k:Nat)(f:Addr)(fd:α6)(ps:List Str)(sp:Sp):Prop where
 len:∀vs H Q E,sp vs H Q E->vs.length=ps.length
 run:∀(A:Around) (outer:List Env) (s:Shared) (H:Hp) (args:Args) (us:List Value) (vs:List V) (Q:VK) (E:XK),Room k A->Env0 P w K mg base A outer s H->BindsTo s fd args (ps.zip us)->Vals vs us->sp vs H Q E ->
  codeAny (model P w) A (.call (.ref f) args) (CR CX outer P w H s Q E) s
theorem Env0.in1   {K:α3}       (e:Env0 P w K mg base A outer s H):
  Env0 P w K mg base A.in1 outer s H:=⟨e.frames,e.mod,e.bs,e.bsz,e.funs,e.frf,e.hok,e.bare⟩
section
variable {X:Cx} {af:α7} {σ:St} {H:Hp} {s s':Shared}
theorem Inv.env0 (I:Inv X af σ H s):Env0 X.prog X.w X.K X.mg X.base X.A X.stack s H:=
 ⟨I.ok.frames,I.ok.mod,I.bs,ql_ I.ok.bsz I.sz,I.stack,I.stkFree,I.hok,I.bare⟩
theorem Inv.after   (I:Inv X af σ H s)(h:CE X.stack X.prog X.w H s Q u s'):EP X af σ Q u s':=by
 obtain⟨v,H',os,bare,un,hok,r,q⟩:=h
 obtain⟨hh,g,d,t,os'⟩:=s'
 obtain rfl:os'=s.os:=os
 exact⟨v,H',I.call (h':=hh) (g':=g) (d':=d) (t':=t) (ch:=[]) un hok bare (fun b z=>absurd z (by simp)),r,q⟩
end
noncomputable def DC_ (sp:Sp)(fR:List V)(E:XK)(t:TA):TE:=fun σ H Q=>t σ H fun vs H1=>sp (vs++fR) H1 Q E
noncomputable def A7 (K:α3)(fd:α6)(ps:List Str)(ds:List Value):Prop:=
 ∀(s:Shared) (us:List Value),K.In s.heap->(us++ds).length=ps.length->BindsTo s fd ⟨us,[]⟩ (ps.zip (us++ds))
theorem A7.all {K:α3}   (h:∀us:List Value,us.length=ps.length->bindArgs fd ⟨us,[]⟩=pure (ps.zip us)):A7 K fd ps []:=fun s us _ hl=>by
 rw[qi_]at hl ⊢
 exact .of_eq (h us hl)
noncomputable def Xj (CX:CXT)(X:Cx)(E:XK):Prop:=∀(af:α7) (σ:St) (H:Hp) (s:Shared) (e:Value) (s':Shared),Inv X af σ H s->CX X.stack H s E e s'->X.xe e s'
section
variable {X:Cx} {CX:CXT} {k:Nat} {f C:Addr} {fd:α6} {ps:List Str} {sp:Sp} {fR:List V} {ds:List Value} {E:XK} {x m:Str} {p pos bh:Pos} {e o:Expr} {es:List Expr} {ta:TE} {t:TA}
theorem DD_        (F:FnOk X.prog X.w X.K X.mg X.base CX k f fd ps sp)(hr:Room k X.A)(hb:A7 X.K fd ps ds)(hd:Vals fR ds)(hx:Xj CX X E)
  (I:Inv X af σ H s) (r:Vals vs us) (h:sp (vs++fR) H Q E):wpAny (model X.prog X.w) X.A (call (.ref f) us) (EP X af σ Q) X.xe s:=by
 have r2:Vals (vs++fR) (us++ds):=r.append hd
 have hl:(us++ds).length=ps.length:=by rw[<-r2.length];exact F.len _ _ _ _ h
 refine wpAny_call (codeAny_mono (F.run X.A X.stack s H ⟨us,[]⟩ (us++ds) (vs++fR) Q E hr I.env0 (hb s us I.kIn hl) r2 h) fun r s' hq=>?_)
 cases r with
 |error e=>exact hx af σ H s e s' I hq
 |ok fl=>
  cases fl with
  |ret u=>exact I.after hq
  |next=>exact False.elim hq
  |brk=>exact False.elim hq
  |cont=>exact False.elim hq
theorem Al (F:FnOk X.prog X.w X.K X.mg X.base CX k f fd ps sp)(hr:Room k X.A)(hg:Gl X x)(hm:X.mg x=some (.ref f))(hk:keepIn X.K (.ref f)=true)(hb:A7 X.K fd ps ds)(hd:Vals fR ds)(hx:Xj CX X E)
  (ha:PA X (e::es) t) (kc:(x==("__debug__" : Str))=false:=by decide) (he:starEach (e::es) X.env=(false,eval e X.env)::starEach es X.env:=by rfl) (gW:(backTo pos (starEach es X.env)).any (·.1)=false:=by rfl):
  PE X (.Call (.Name x p) (e::es) [] pos) (DC_ sp fR E t):=by
 intro af s σ H Q I h
 refine xn_ (Cd_ I hg hm ?_ kc)
 refine PySem.W.callWith_K (h₀:=X.base) I.ok.mod.kin hk (thn (ha pos af s σ H _ I h) fun us s1 ⟨vs,H1,I1,r,q⟩=>⟨I1.kIn,?_⟩) he gW
 exact DD_ F hr hb hd hx I1 r q
end
structure FnScope (N P:List Str)(sc:Scope):Prop where
 kind:sc.kind=.function
 co:sc.isCoroutine=false
 gen:sc.isGenerator=false
 nd:N.Nodup
 pre:N.take P.length=P
 par:∀x∈P,sc.names.lookup x=some .local\/sc.names.lookup x=some .cell
 nofree:∀y∈sc.names,y.2 ≠ .free
theorem QW {kindOf:Str->Option NameKind}{x:Str}:∀{binds:List (Str×Value)} {m:Str->α5},(∀v,(x,v)∉binds)->bindL kindOf binds m x=m x
 |[],_,_=>rfl
 | (n,v)::r,m,h=>by
  unfold bindL
  rw[QW fun w hw=>h w (jk_ _ hw)]
  split
  ·have:x≠n:=by rintro rfl;exact h v jn_
   simp[this]
  ·rfl
theorem QX {kindOf:Str->Option NameKind}{x:Str}:∀{binds:List (Str×Value)} {m:Str->α5},(∀v,(x,v)∉binds)->bindC kindOf binds m x=m x
 |[],_,_=>rfl
 | (n,v)::r,m,h=>by
  unfold bindC
  rw[QX fun w hw=>h w (jk_ _ hw)]
  split
  ·rfl
  ·have:x≠n:=by rintro rfl;exact h v jn_
   simp[this]
theorem QY {kindOf:Str->Option NameKind}{x:Str}{v:Value}:∀{P:List Str} {vs:List Value} {i:Nat} {m:Str->α5},P.Nodup->P[i]?=some x->vs[i]?=some v->kindOf x=some .local ->
  bindL kindOf (P.zip vs) m x=some v
 |[],_,_,_,_,h,_,_=>by simp at h
 |_::_,[],_,_,_,_,h,_=>by simp at h
 |p::P,w::vs,0,m,nd,h1,h2,hk=>by
  simp at h1 h2;subst h1;subst h2
  show bindL kindOf ((p,w)::P.zip vs) m p=_
  unfold bindL
  rw[QW fun v hv=>(qA_.mp nd).1 (xw_ hv).1,if_pos hk]
  simp
 |p::P,w::vs,i+1,m,nd,h1,h2,hk=>by
  show bindL kindOf ((p,w)::P.zip vs) m x=_
  unfold bindL
  exact QY (i:=i) (qA_.mp nd).2 (by simpa using h1) (by simpa using h2) hk
theorem QZ {kindOf:Str->Option NameKind}{x:Str}{v:Value}:∀{P:List Str} {vs:List Value} {i:Nat} {m:Str->α5},P.Nodup->P[i]?=some x->vs[i]?=some v->kindOf x≠some .local ->
  bindC kindOf (P.zip vs) m x=some v
 |[],_,_,_,_,h,_,_=>by simp at h
 |_::_,[],_,_,_,_,h,_=>by simp at h
 |p::P,w::vs,0,m,nd,h1,h2,hk=>by
  simp at h1 h2;subst h1;subst h2
  show bindC kindOf ((p,w)::P.zip vs) m p=_
  unfold bindC
  rw[QX fun v hv=>(qA_.mp nd).1 (xw_ hv).1,if_neg hk]
  simp
 |p::P,w::vs,i+1,m,nd,h1,h2,hk=>by
  show bindC kindOf ((p,w)::P.zip vs) m x=_
  unfold bindC
  exact QZ (i:=i) (qA_.mp nd).2 (by simpa using h1) (by simpa using h2) hk
noncomputable def start (N:List Str)(vs:List V):St:=vs.map some++List.replicate (N.length-vs.length) none
noncomputable def cxOf (CX:CXT)(P:Program)(w:World)(K:α3)(mg:Str->α5)(base:Heap)(N:List Str)(qual:Str)(scope:Scope)(f:Addr)(cd:Value)(A:Around)(outer:List Env)(s:Shared)(H:Hp)(E:XK):Cx where
 prog:=P
 w:=w
 K:=K
 mg:=mg
 base:=base
 A:=A.deeper (envOfC qual scope s.heap.objs.size f cd)
 N:=N
 s₀:=s
 H₀:=H
 env:=envOfC qual scope s.heap.objs.size f cd
 outer:=outer
 stack:=envOfC qual scope s.heap.objs.size f cd::outer
 ex:=[]
 calm:=true
 fn:=fun _=>true
 pn:=[]
 xe:=fun e s'=>wpAny (model P w) (A.deeper (envOfC qual scope s.heap.objs.size f cd)) (leaving (envOfC qual scope s.heap.objs.size f cd) e) (fun _ gd=>CX outer H s E e gd) (fun e' gd=>CX outer H s E e' gd) s'
theorem UE {sc:Scope}{n:Nat}{x:Str}(h:sc.names.lookup x=some .cell):∃c,(cellsFrom n sc.names []).lookup x=some c:=by
 have q:=xK_ sc.names n [] (.inl h)
 exact Option.isSome_iff_exists.mp q
theorem Q0    {K:α3}
  (S:FnScope N ps scope) (hd:A.handled=none) (e0:Env0 P w K mg base A outer s H) (hl:vs.length=ps.length) (r:Vals vs us)
  (x:InCallC s s.heap.objs.size (bindL (envOfC qual scope s.heap.objs.size f cd).kindOf (ps.zip us) fun _=>none) (cellsFrom (s.heap.objs.size+1) scope.names []) (bindC (envOfC qual scope s.heap.objs.size f cd).kindOf (ps.zip us) fun _=>none) s1):
  Inv (cxOf CX P w K mg base N qual scope f cd A outer s H E) [] (start N vs) H s1:=by
 have gW:ps.length<=N.length:=by have:=jD_ List.length S.pre;rw[jB_]at this;lia
 obtain⟨h1,tk,rfl,hk⟩:=x.done
 have mE:∀b:Addr,b∉(cxOf CX P w K mg base N qual scope f cd A outer s H E).ex:=fun b z=>absurd (show b∈([]:List Addr) from z) (by simp)
 refine⟨⟨e0.mod,S.kind,rfl,rfl,jg_ _,fun y z c h1 h2=>?_,fun y hy=>?_,fun y c _ h=>?_,fun _=>hd,Around.frames_deeper e0.frames,.inr ⟨rfl,rfl⟩,fun b z=>absurd z (mE b),e0.bs,e0.bsz,fun b _ _=>mE b,fun b z=>absurd z (mE b),e0.funs,e0.frf⟩,
  rfl,e0.bare,Un.kept hk,⟨_,x.toInCall.ns,fun i y v h1 h2 h3=>?_⟩,fun y c h=>⟨_,x.cell y c h⟩,e0.hok.fresh (jg_ _),fun y c h=>?_,fun p hp=>absurd (show p∈([]:α7) from hp) (by simp),e0.hok.kept hk,?_⟩
 ·exact name_of_addr x.apart (qe_ h1) (qe_ h2)
 ·have hy:scope.names.lookup y=some .cell\/scope.names.lookup y=some .free:=hy
  rcases hy with hy|hy
  ·exact UE hy
  ·exact absurd rfl (S.nofree _ (qe_ hy))
 ·exact q1_ (x.above y c (qe_ h))
 ·have hi:i<vs.length:=by
   unfold start at h2
   by_cases hi:i<vs.length
   ·exact hi
   ·rw[jr_ (by simpa using hi)]at h2
    rw[x8_]at h2
    split at h2<;>cases h2
  have ha:vs[i]?=some v:=by
   unfold start at h2
   rw[jj_ (by simpa using hi),jd_]at h2
   cases e:vs[i]? with
   |none=>rw[e]at h2;cases h2
   |some a=>rw[e]at h2;cases h2;rfl
  obtain⟨u,hu,rv⟩:=r.get ha
  have hp:ps[i]?=some y:=by
   rw[<-S.pre,xx_ s!""];exact h1
  have ndP:ps.Nodup:=by rw[<-S.pre];exact S.nd.sublist (List.take_sublist _ _)
  refine⟨u,rv,?_⟩
  rcases S.par y (jc_ hp) with k|k
  ·exact .inl ⟨k,QY ndP hp hu k⟩
  ·obtain⟨c,e⟩:=UE (n:=s.heap.objs.size+1) k
   refine .inr ⟨.inl k,c,e,?_⟩
   have q:=x.cell y c e
   rw[QZ ndP hp hu (by show scope.names.lookup y≠_;rw[k];decide)]at q
   exact q
 ·exact e0.hok.fresh (q1_ (x.above y c (qe_ h)))
 ·unfold start
  show _=N.length
  rw[jo_,ja_,qq_]
  lia
theorem DE_    {K:α3}         {dV kV bA pm ay ct oc:Value}
       (lk:K.lookup f=some ⟨oc,od,.func (fnOf name qual params body scope dV kV bA pm an ay ct),fb⟩) (bE:codeIn K ay qual=true) (S:FnScope N ps scope)
    (len:∀vs H Q E,sp vs H Q E->vs.length=ps.length)
    (cP:∀(A:Around) (outer:List Env) (s:Shared) (H:Hp) (vs:List V) (Q:VK) (E:XK),Room k (A.deeper (envOfC qual scope s.heap.objs.size f ay))->sp vs H Q E ->
      ∃t,PSs (cxOf CX P w K mg base N qual scope f ay A outer s H E) body t/\t {nx:=fun _ H'=>Q .non H',rt:=Q} (start N vs) H):
    FnOk P w K mg base CX (k+1) f (fnOf name qual params body scope dV kV bA pm an ay ct) ps sp:=by
  refine⟨len,fun A outer s H args us vs Q E hr e0 hb r dY=>?_⟩
  have hl:=len _ _ _ _ dY
  have KX:K.In s.heap:=e0.mod.kin.keeps fun b o e=>(e0.bs b o e).1
  have mF:s.heap.NoLimit:=e0.mod.nolimit.keeps fun b o e=>(e0.bs b o e).1
  have fe:∀y∈ps.zip us,scope.names.lookup y.1=some .local\/(scope.names.lookup y.1=some .cell/\((cellsFrom (s.heap.objs.size+1) scope.names []).lookup y.1).isSome=true):=fun ⟨n,v⟩ hy=>by
    rcases S.par n (xw_ hy).1 with q|q
    . exact .inl q
    . exact .inr ⟨q,xK_ _ _ _ (.inl q)⟩
  refine codeAny_call_function hr.depth (KX _ _ lk) rfl S.co S.gen rfl (PySem.W.codeRec_of KX bE) (hb _ _ _ _ ?_)
  refine wpAny_newFunctionEnv_cells S.kind fe fun env he s1 x=>?_
  subst he
  refine⟨mF.keeps x.toInCall.keep,codeAny_func ?_⟩
  obtain⟨t,ht,hq⟩:=cP A outer s H vs Q E (hr.deeper _) dY
  have I:Inv (cxOf CX P w K mg base N qual scope f ay A outer s H E) [] (start N vs) H s1:=Q0 S hr.hd e0 hl r x
  refine qM_ (ht [] s1 (start N vs) H _ I hq) (fun fl s' hs=>?_) fun e s' hs=>hs
  have fin:∀{ag:St} {H':Hp} {v:V} {u:Value},Inv (cxOf CX P w K mg base N qual scope f ay A outer s H E) [] ag H' s'->RelV v u->Q v H'->CE outer P w H s Q u s' :=
    fun {ag H' v u} J rv q=>⟨v,H',J.os,J.bare,J.base,J.hok,rv,q⟩
  cases fl with
  |ret u=>
    obtain⟨v,ag,H',J,rv,q⟩:=hs
    exact fin J rv q
  |next=>
    obtain⟨ag,H',J,q⟩:=hs
    exact fin (v:=V.non) (u:=Value.none) J rfl q
  |brk=>
    obtain⟨_,_,_,q⟩:=hs
    exact False.elim q
  |cont=>
    obtain⟨_,_,_,q⟩:=hs
    exact False.elim q
end L2
namespace L2
open PySem PySem.Spec PyProof.Rows
section
variable {X:Cx} {x:Str} {p pos:Pos} {e:Expr} {es:List Expr} {t:TA} {id T:String} {r:List V->Hp->VK->Prop}
noncomputable def tCB (r:List V->Hp->VK->Prop)(t:TA):TE:=fun σ H Q=>t σ H fun vs H1=>r vs H1 Q
theorem As (hc:DE X (.builtin id) r)(hg:Gl X x)(hm:X.mg x=none)(hv:bootBuiltins x=some (.builtin id))(ha:PA X (e::es) t)(hn:x ≠ "__name__" := by decide)(kc:(x==("__debug__" : Str))=false:=by decide)
  (he:starEach (e::es) X.env=(false,eval e X.env)::starEach es X.env:=by rfl) (gW:(backTo pos (starEach es X.env)).any (·.1)=false:=by rfl):PE X (.Call (.Name x p) (e::es) [] pos) (tCB r t):=by
 intro af s σ H Q I h
 refine xn_ (Gi I hg hm hv ?_ hn kc)
 exact PyProof.Rows.callWith_builtin1 (thn (ha pos af s σ H _ I h) fun us s1 ⟨vs,H1,I1,r1,q1⟩=>hc af s1 σ H1 vs us Q I1 r1 q1) he gW
theorem AO (hc:DE X (.type T) r)(hg:Gl X x)(hm:X.mg x=none)(hv:bootBuiltins x=some (.type T))(ha:PA X (e::es) t)(hn:x ≠ "__name__" := by decide)(kc:(x==("__debug__" : Str))=false:=by decide)
  (he:starEach (e::es) X.env=(false,eval e X.env)::starEach es X.env:=by rfl) (gW:(backTo pos (starEach es X.env)).any (·.1)=false:=by rfl):PE X (.Call (.Name x p) (e::es) [] pos) (tCB r t):=by
 intro af s σ H Q I h
 refine xn_ (Gi I hg hm hv ?_ hn kc)
 exact qd_ (thn (ha pos af s σ H _ I h) fun us s1 ⟨vs,H1,I1,r1,q1⟩=>hc af s1 σ H1 vs us Q I1 r1 q1) he gW
end
end L2
namespace HT
open PySem PyProof.Rows
noncomputable def lexLt:α2->α2->Bool
 |[],[]=>false
 |[],_::_=>true
 |_::_,[]=>false
 |x::xs,y::ys=>if x=y then lexLt xs ys else decide (x<y)
theorem lexLt_cons (x y:Int)(xs ys:α2):lexLt (x::xs) (y::ys)=if x=y then lexLt xs ys else decide (x<y):=rfl
theorem OZ:lexLt [] []=false:=rfl
theorem NU (y:Int)(ys:α2):lexLt [] (y::ys)=true:=rfl
theorem NV (x:Int)(xs:α2):lexLt (x::xs) []=false:=rfl
theorem Zj (A:Around)(s:Shared)(a:Int)(t:Tok)(c:Int)(u:Tok):∃e,SeqAt.EqAt A s (.int a t) (.int c u) e/\(e=true↔a=c):=
 ⟨(a==c),SeqAt.EqAt.int_int a t c u,by simp⟩
theorem Zk (A:Around)(s:Shared)(a:Int)(t:Tok)(c:Int)(u:Tok)(prog:Program)(w:World)(E:Value->Shared->Prop)(Q:Value->Shared->Prop)(h:Q (.bool (decide (a<c))) s):
  wpAny (model prog w) A (richCompare .Lt (.int a t) (.int c u)) Q E s:=
 (PyProof.Rows.lt_int h:wpAny (model prog w) A (compareOp .Lt (.int a t) (.int c u)) Q E s)
section
open PySem.SeqAt
open PySem.AutoSeq1 (wpAny_loadPart')
open PySem.MeetsSeq PySem.MeetsSeq2 PySem.MeetsSeq3
theorem O0 (l b:Addr)(items aO:Array Value)(n n2:Nat)(dd gX:Option Addr)(sl fS:Array (α5))(ns ms:α2)(hi:IntsAre items.toList ns)(hj:IntsAre aO.toList ms):
  Meets (Builtin.«tuple.__lt__» ⟨[.ref l,.ref b],[]⟩)
   (fun _ R s=>s.heap.get? l=some {cls:=.type "tuple",dict:=dd,data:=.seq items n,slots:=sl}/\s.heap.get? b=some {cls:=.type "tuple",dict:=gX,data:=.seq aO n2,slots:=fS} /\
    R (.ok (.ret (.bool (lexLt ns ms)))) s):=
 .of_wp fun prog w A R s h=>by
  obtain⟨hp,g,d,tk,os⟩:=s;obtain⟨hl,hb,h⟩:=h
  have f2:=AutoSeq1.sub_tuple_tuple
  have z1:items.size=ns.length:=by rw[<-hi.length];simp
  have z2:aO.size=ms.length:=by rw[<-hj.length];simp
  wp_walk using qn_ hl,qn_ hb,wpAny_forIn_list _ (fun rest b s'=>b.1=none/\s'=⟨hp,g,d,tk,os⟩/\∃(vs ws:List Value) (jA jB:α2),rest=vs.zip ws /\
   IntsAre vs jA/\IntsAre ws jB/\jA.length+aO.size=jB.length+items.size/\R (.ok (.ret (.bool (lexLt jA jB)))) ⟨hp,g,d,tk,os⟩) _
  case turn=>
   rintro⟨y,x⟩ rest b s' ⟨iy,rfl,vs,ws,jA,jB,hz,eL,bV,ak,hR⟩
   cases eL with
   |nil=>rw[List.zip_nil_left]at hz;cases hz
   |cons a t hvi' =>
    cases bV with
    |nil=>rw[List.zip_nil_right]at hz;cases hz
    |cons c u hwi' =>
     rw[zM_]at hz
     injection hz with ke hrest
     injection ke with hy hx
     subst hy hx
     rw[lexLt_cons]at hR
     simp only[jV_]at ak
     obtain⟨e,he,dZ⟩:=Zj A.in1 ⟨hp,g,d,tk,os⟩ a t c u
     refine je_ (he prog w _ _ ?_)
     cases e with
     |true=>
      rw[if_pos (dZ.mp rfl)]at hR
      wp_walk
      exact⟨rfl,rfl,_,_,_,_,hrest,hvi',hwi',by lia,hR⟩
     |false=>
      rw[if_neg (fun q=>absurd (dZ.mpr q) jt_)]at hR
      have iz:=Zk A.in1 ⟨hp,g,d,tk,os⟩ a t c u prog w
      wp_walk using iz
      exact⟨_,rfl,by simpa using hR⟩
  case fin=>
   rintro⟨b1,b2⟩ s' ⟨iy,rfl,vs,ws,jA,jB,hz,eL,bV,ak,hR⟩
   simp only at iy
   subst iy
   have hv:lexLt jA jB=decide (items.size<aO.size):=by
    cases eL with
    |nil=>
     cases bV with
     |nil=>
      simp only[qt_]at ak
      rw[OZ]
      exact (qc_ s!"").symm
     |cons c u hw=>
      simp only[qt_,jV_]at ak
      rw[NU]
      exact (qg_ s!"").symm
    |cons a t hv=>
     cases bV with
     |nil=>
      simp only[qt_,jV_]at ak
      rw[NV]
      exact (qc_ s!"").symm
     |cons c u hw=>
      rw[zM_]at hz
      cases hz
   rw[hv]at hR
   wp_walk
   exact⟨_,rfl,by simpa [Builtin.Tuple.tupleCompareSizes] using hR⟩
  case h=>
   exact⟨rfl,rfl,items.toList,aO.toList,ns,ms,rfl,hi,hj,by lia,h⟩
end
section
variable {prog:Program} {w:World} {A:Around} {E:Value->Shared->Prop} {s:Shared}
theorem lt_tupInts     (hl:IsTup s.heap l items)(hb:IsTup s.heap b aO)(hi:IntsAre items.toList ns)(hj:IntsAre aO.toList ms)
  (hu:A.units<cLine) (h:Q (.bool (lexLt ns ms)) s):wpAny (model prog w) A (compareOp .Lt (.ref l) (.ref b)) Q E s:=by
 obtain⟨⟨cls,dd,data,sl⟩,ho,hc,n,hd⟩:=id hl
 obtain⟨⟨cls2,gX,data2,fS⟩,fT,bX,n2,ff⟩:=id hb
 simp only at hc hd bX ff
 subst hc hd bX ff
 exact richCompare_meets_room (op:=.Lt) ⟨_,ho,rfl⟩ ⟨_,fT,rfl⟩ PySem.F.slot_tuple_lt PySem.F.entry_tuple_lt (PySem.F.args_tuple_lt_2 _ _) (O0 l b items aO n n2 dd gX sl fS ns ms hi hj)
  ⟨ho,fT,show Value.bool (lexLt ns ms)≠Value.notImplemented/\Q (.bool (lexLt ns ms)) s from ⟨(fun x=>nomatch x),h⟩⟩ hu
theorem cat_tup    (ht:IsTup s.heap t vs.toArray)(hb:IsTup s.heap b ws.toArray)(hv:vs ≠ [])
  (h1:ws=[]->Q (.ref t) s) (h2:ws ≠ []->Q (.ref s.heap.objs.size) {s with heap:=s.heap.push {cls:=.type "tuple",data:=.seq (vs++ws).toArray} })
  (hsz:vs.length+ws.length<=sizeLine):wpAny (model prog w) A (binaryOp .Add (.ref t) (.ref b)) Q E s:=by
 obtain⟨⟨cls,dd,data,sl⟩,ho,hc,n,hd⟩:=id ht
 obtain⟨⟨cls2,gX,data2,fS⟩,fT,bX,n2,ff⟩:=id hb
 simp only at hc hd bX ff
 subst hc hd bX ff
 have e:vs.toArray++ws.toArray=(vs++ws).toArray:=by simp
 by_cases hw:ws=[]
 ·exact concat_meets ⟨_,ho,rfl⟩ ⟨_,fT,rfl⟩ noFill_tuple_add seq_tuple_add zg_ x9_ (x5_ _ _)
   (tuple_addW1 t b vs.toArray ws.toArray n n2 dd gX sl fS (by simpa using hv) (by simp[hw])) ⟨ho,fT,h1 hw⟩
 ·refine concat_meets ⟨_,ho,rfl⟩ ⟨_,fT,rfl⟩ noFill_tuple_add seq_tuple_add zg_ x9_ (x5_ _ _)
   (tuple_addW2 t b vs.toArray ws.toArray n n2 dd gX sl fS (by simpa using hv) (by simpa using hw) (by rw[jl_,jl_];exact hsz)) ⟨ho,fT,?_⟩
  rw[e]
  exact h2 hw
noncomputable def sIx (n d:Nat):Option Int->Nat
 |none=>d
 |some v=>if v<0 then (v+(n:Int)).toNat else min v.toNat n
theorem sIx_none (n d:Nat):sIx n d none=d:=rfl
theorem sIx_nat (n d k:Nat):sIx n d (some (k:Int))=min k n:=by
 show (if (k:Int)<0 then ((k:Int)+(n:Int)).toNat else min (k:Int).toNat n)=min k n
 rw[if_neg s!"",ji_]
theorem DF_ (n d:Nat)(hd:d<=n)(o:Option Int):sIx n d o<=n:=by
 cases o with
 |none=>exact hd
 |some v=>
  show (if v<0 then (v+(n:Int)).toNat else min v.toNat n)<=n
  by_cases hv:v<0
  ·rw[if_pos hv];lia
  ·rw[if_neg hv];exact Nat.min_le_right _ _
theorem Xk (v:Int)(n d:Nat):(if v<0 then max (v+(n:Int)) 0 else min v (n:Int))=((sIx n d (some v):Nat):Int):=by
 show (if v<0 then max (v+(n:Int)) 0 else min v (n:Int))=(((if v<0 then (v+(n:Int)).toNat else min v.toNat n):Nat):Int)
 by_cases hv:v<0
 ·simp only[if_pos hv];lia
 ·simp only[if_neg hv];lia
theorem VE (lo hi:Option Int)(n:Nat):Builtin.Slice.sliceAdjust lo hi 1 (n:Int)=(((sIx n 0 lo:Nat):Int),((sIx n n hi:Nat):Int)):=by
 have h1:¬ ((1:Int)<0):=by lia
 unfold Builtin.Slice.sliceAdjust
 simp only[h1,q3_]
 refine Prod.ext ?_ ?_
 ·cases lo with
  |none=>rfl
  |some v=>exact Xk v n 0
 ·cases hi with
  |none=>rfl
  |some v=>exact Xk v n n
theorem VF (i j:Nat):Builtin.Slice.slicePlaces (i:Int) (j:Int) 1=j-i:=by
 unfold Builtin.Slice.slicePlaces
 have h1:(1:Int) > 0:=by lia
 simp only[h1,xO_,Int.ediv_one]
 split<;>lia
theorem Ot    (p:IsPart v o)(h:Q o s):wpAny (model prog w) A (Builtin.Slice.slicePartIndex v) Q E s:=by
 cases p with
 |none=>exact slicePart_none h
 |int i t=>exact slicePart_int h
theorem Ko {sl:Addr}{vl vu:Value}{lo hi:Option Int}{n:Nat}{Q:Int×Int×Nat->Shared->Prop}(hs:s.heap.IsSliceOf sl vl vu .none)(pl:IsPart vl lo)(pu:IsPart vu hi)
  (h:Q (((sIx n 0 lo:Nat):Int),1,sIx n n hi-sIx n 0 lo) s):wpAny (model prog w) A (Builtin.Slice.sliceApplied (.ref sl) (pure (n:Int))) Q E s:=by
 obtain⟨os,cW,hcs,lC⟩:=id hs
 unfold Builtin.Slice.sliceApplied Builtin.Slice.sliceFields
 refine je_ (je_ (wpAny_field cW lC (x:=vl) rfl (je_ (wpAny_field cW lC (x:=vu) rfl (je_ (wpAny_field cW lC (x:=.none) rfl (ju_ ?_)))))))
 refine je_ (slicePart_none ?_)
 show wpAny _ _ (if ((1:Int)==0)=true then _ else _) _ _ s
 rw[if_neg (by decide)]
 refine je_ (Ot pl (je_ (Ot pu (je_ (ju_ ?_)))))
 show wpAny _ _ (match Builtin.Slice.sliceAdjust lo hi 1 (n:Int) with|(lo,hi)=>pure (lo,(1:Int),Builtin.Slice.slicePlaces lo hi 1)) _ _ s
 rw[VE lo hi n]
 show wpAny _ _ (pure (((sIx n 0 lo:Nat):Int),(1:Int),Builtin.Slice.slicePlaces ((sIx n 0 lo:Nat):Int) ((sIx n n hi:Nat):Int) 1)) _ _ s
 rw[VF]
 exact ju_ h
theorem Zl (xs:Array Value)(i k:Nat):((List.range k).filterMap fun (m:Nat)=>xs[((i:Int)+(m:Int)*1).toNat]?).toArray=((xs.toList.drop i).take k).toArray:=by
 have e:(fun (m:Nat)=>xs[((i:Int)+(m:Int)*1).toNat]?)=fun m=>xs[i+m]?:=by
  funext m
  have:((i:Int)+(m:Int)*1).toNat=i+m:=by lia
  rw[this]
 rw[e]
 have:=pick_run xs i k
 rw[List.filterMap_map]at this
 have e2:((fun x=>xs[x]?) ∘ fun x=>i+x)=fun m=>xs[i+m]?:=rfl
 rw[e2]at this
 rw[this]
theorem getItem_tuple_cut {t sl:Addr}   {lo hi:Option Int}  (ht:IsTup s.heap t items)(hs:s.heap.IsSliceOf sl vl vu .none)(pl:IsPart vl lo)(pu:IsPart vu hi)
  (hw:¬ (sIx items.size 0 lo=0/\sIx items.size items.size hi=items.size))
  (h:Q (.ref s.heap.objs.size) {s with heap:=s.heap.push {cls:=.type "tuple",data:=.seq ((items.toList.drop (sIx items.size 0 lo)).take (sIx items.size items.size hi-sIx items.size 0 lo)).toArray} })
  (hsz:items.size<=sizeLine):wpAny (model prog w) A (getItem (.ref t) (.ref sl)) Q E s:=by
 have dG:sizeOk (.seq ((items.toList.drop (sIx items.size 0 lo)).take (sIx items.size items.size hi-sIx items.size 0 lo)).toArray):=by
  show ((items.toList.drop (sIx items.size 0 lo)).take (sIx items.size items.size hi-sIx items.size 0 lo)).toArray.size<=sizeLine
  rw[jl_,jB_,xa_,j3_]
  lia
 have hj:sIx items.size items.size hi<=items.size:=DF_ _ _ (jg_ _) hi
 obtain⟨os,cW,hcs,lC⟩:=id hs
 have hTs:s.TypeIs (.ref sl) "slice" := ⟨os,cW,hcs⟩
 unfold getItem
 try with_reducible refine qX_ ?_
 first|refine je_ (ju_ ?_)|skip
 refine je_ (wpAny_sequenceKey ht.typeIs (by decide) ?_)
 refine je_ (qH_ (name:=Str.ofString "__getitem__") ht.typeIs xy_
  (xl_ xy_ ht.typeIs entry_tuple_getitem ?_ (args_tuple_getitem _ _)))
 show wpAny _ _ (Builtin.Tuple.tupleItemsOf (.ref t) >>= _) _ _ s
 refine je_ (tupleItemsOf_ ht ?_)
 refine je_ (wpAny_typeOf hTs ?_)
 rw[if_pos (by decide)]
 refine je_ (Ko hs pl pu ?_)
 have cX:¬ ((((sIx items.size 0 lo:Nat):Int)==0&&(1:Int)==1&&(sIx items.size items.size hi-sIx items.size 0 lo)==items.size)=true):=by
  intro q
  rw[qa_,qa_]at q
  have q1:((sIx items.size 0 lo:Nat):Int)=0:=eq_of_beq q.1.1
  have q2:sIx items.size items.size hi-sIx items.size 0 lo=items.size:=eq_of_beq q.2
  exact hw ⟨by lia,by lia⟩
 show wpAny _ _ (if (((sIx items.size 0 lo:Nat):Int)==0&&(1:Int)==1&&(sIx items.size items.size hi-sIx items.size 0 lo)==items.size)=true then _ else _) _ _ s
 rw[if_neg cX,Zl]
 first
  | exact je_ (m:=Builtin.Tuple.tupleExact _) (qS_ (ju_ ⟨_,rfl,ju_ h⟩) dG)
  | exact je_ (m:=Builtin.Tuple.tupleExact _) (qS_ (je_ (ju_ (ju_ ⟨_,rfl,ju_ h⟩))) dG)
  | exact je_ (je_ (m:=Builtin.Tuple.tupleExact _) (qS_ (ju_ (ju_ ⟨_,rfl,ju_ h⟩)) dG))
  | exact je_ (je_ (m:=Builtin.Tuple.tupleExact _) (qS_ (ju_ ⟨_,rfl,ju_ h⟩) dG))
end
end HT
namespace L2
open PySem PySem.Spec PyProof.Rows
noncomputable abbrev TO:=St->Hp->(Option Int->Hp->Prop)->Prop
noncomputable def PO (X:Cx)(e:Option Expr)(t:TO):Prop:=
 ∀(af:α7) (s:Shared) (σ:St) (H:Hp) (Q:Option Int->Hp->Prop),Inv X af σ H s->t σ H Q ->
  wpAny (model X.prog X.w) X.A (evalPart e X.env) (fun u s'=>∃o H',Inv X af σ H' s'/\IsPart u o/\Q o H') X.xe s
noncomputable def Xl:TO:=fun _ H Q=>Q none H
noncomputable def DG_ (t:TE):TO:=fun σ H Q=>t σ H fun x H1=>∃i,x=.int i/\Q (some i) H1
theorem intsAre_of  : ∀{us:List Value},Vals (ns.map V.int) us->IntsAre us ns:=by
 induction ns with
 |nil=>intro us r;rw[xP_]at r;cases r;exact .nil
 |cons n ns ih=>
  intro us r
  rw[j1_]at r
  cases r with
  |cons r1 r2=>
   obtain⟨t,e⟩:=r1
   subst e
   exact .cons n t (ih r2)
section
variable {X:Cx} {e:Expr} {te:TE} {lo hi:Option Expr} {tl th:TO} {pos p2:Pos}
theorem SN:PO X none Xl:=by
 intro af s σ H Q I h
 rw[evalPart_none]
 exact ju_ ⟨none,H,I,.none,h⟩
theorem SR (h:PE X e te):PO X (some e) (DG_ te):=by
 intro af s σ H Q I hw
 rw[evalPart_some]
 refine thn (h af s σ H _ I hw) fun u s1 ⟨x,H1,I1,r1,q1⟩=>?_
 obtain⟨i,rfl,q⟩:=q1
 obtain⟨t,rfl⟩:=r1
 exact⟨some i,H1,I1,.int i t,q⟩
noncomputable def SlR (X:Cx)(r:V->Option Int->Option Int->Hp->VK->Prop):Prop:=
 ∀(af:α7) (s:Shared) (σ:St) (H:Hp) (x:V) (v vl vu:Value) (lo hi:Option Int) (sl:Addr) (Q:VK),Inv X af σ H s->RelV x v->s.heap.IsSliceOf sl vl vu .none->IsPart vl lo->IsPart vu hi->r x lo hi H Q ->
  ∃T id,typeLookup (.type T) "__getitem__"=pure (some (.builtin id))/\s.TypeIs v T/\wpAny (model X.prog X.w) X.A (getItem v (.ref sl)) (EP X af σ Q) X.xe s
noncomputable def tSl (r:V->Option Int->Option Int->Hp->VK->Prop)(te:TE)(tl th:TO):TE:=fun σ H Q=>te σ H fun x H1=>tl σ H1 fun l H2=>th σ H2 fun u H3=>r x l u H3 Q
theorem O1  (hr:SlR X r)(he:PE X e te)(hl:PO X lo tl)(hu:PO X hi th):PE X (.Subscript e (.Slice lo hi none p2) pos) (tSl r te tl th):=by
 intro af s σ H Q I h
 refine Subscript_ (thn (he af s σ H _ I h) fun v s1 ⟨x,H1,I1,r1,q1⟩=>?_)
 refine wpAny_Slice (thn (hl af s1 σ H1 _ I1 q1) fun vl s2 ⟨l,H2,I2,pl,q2⟩=>thn (hu af s2 σ H2 _ I2 q2) fun vu s3 ⟨u,H3,I3,pu,q3⟩=>?_)
 rw[evalPart_none]
 refine ju_ ?_
 have I4:Inv X af σ H3 {s3 with heap:=s3.heap.push {cls:=.type "slice",data:=.fields #[vl,vu,.none]} }:=I3.kept (t':=s3.toks) fun b ob q=>jm_ _ q
 obtain⟨T,id,hT,ht,hg⟩:=hr af {s3 with heap:=s3.heap.push {cls:=.type "slice",data:=.fields #[vl,vu,.none]} } σ H3 x v vl vu l u s3.heap.objs.size Q I4 r1 (Heap.IsSliceOf.new ..) pl pu q3
 show wpAny (model X.prog X.w) X.A (subscriptTail e (.Slice lo hi none p2) v (.ref s3.heap.objs.size)) (EP X af σ Q) X.xe {s3 with heap:=s3.heap.push {cls:=.type "slice",data:=.fields #[vl,vu,.none]} }
 exact tail_any (ops:=[.ref s3.heap.objs.size,v]) ht hT hg (by with_unfolding_all rfl)
noncomputable def cutV (xs:List V)(lo hi:Option Int):List V:=(xs.drop (HT.sIx xs.length 0 lo)).take (HT.sIx xs.length xs.length hi-HT.sIx xs.length 0 lo)
theorem LC (xs:List V)(lo hi:Option Int):(cutV xs lo hi).length<=xs.length:=by
 unfold cutV
 rw[jB_,xa_]
 lia
noncomputable def rSlT (K:α3):V->Option Int->Option Int->Hp->VK->Prop:=fun x lo hi H Q=>∃a xs,x=.ref a/\SqT K H a xs /\
 ¬ (HT.sIx xs.length 0 lo=0/\HT.sIx xs.length xs.length hi=xs.length)/\∀p,H p=none->Q (.ref p) (upd H p (.tup (cutV xs lo hi)))
theorem DH_:SlR X (rSlT X.K):=by
 intro af s σ H x v vl vu lo hi sl Q I rx hs pl pu h
 obtain⟨a,xs,rfl,hx,hw,q⟩:=h
 cases rx
 obtain⟨its,r,ht,hz⟩:=I.tuple hx
 have ak:its.toArray.size=xs.length:=by rw[jl_];exact r.length.symm
 refine⟨"tuple",_,xy_.lookup,ht.typeIs,?_⟩
 refine HT.getItem_tuple_cut ht hs pl pu (by rw[ak];exact hw) ?_ (by rw[ak];exact hz)
 rw[ak]
 refine⟨.ref s.heap.objs.size,_,I.laid (t':=s.toks) (o:=.tup (cutV xs lo hi)) (fun b ob q=>jm_ _ q) (jg_ _) ?_,rfl,q _ (I.hok.fresh (jg_ _))⟩
 exact⟨ql_ (LC xs lo hi) hz,_,(r.drop (HT.sIx xs.length 0 lo)).take (HT.sIx xs.length xs.length hi-HT.sIx xs.length 0 lo),IsTup.new _ _⟩
noncomputable def Fi_ (K:α3):R2:=fun x y H Q=>∃a b xs ys,x=.ref a/\y=.ref b/\SqT K H a xs/\SqT K H b ys/\xs ≠ []/\xs.length+ys.length<=sizeLine /\
 (ys=[]->Q (.ref a) H)/\(ys ≠ []->∀p,H p=none->Q (.ref p) (upd H p (.tup (xs++ys))))
theorem Vals.nil_iff   (r:Vals xs us):us=[]↔xs=[]:=by
 cases r with
 |nil=>simp
 |cons _ _=>simp
theorem Cj_:OpR X (binaryOp .Add) (Fi_ X.K):=by
 intro af s σ H x y v u Q I rx ry h
 obtain⟨a,b,xs,ys,rfl,rfl,ha,hb,hx,hz,q1,q2⟩:=h
 cases rx
 cases ry
 obtain⟨its,r1,p1,_⟩:=I.tuple ha
 obtain⟨aJ,r2,p2,_⟩:=I.tuple hb
 refine HT.cat_tup p1 p2 (fun z=>hx (r1.nil_iff.mp z)) (fun z=>⟨.ref a,H,I,rfl,q1 (r2.nil_iff.mp z)⟩) (fun z=>?_) (by rw[<-r1.length,<-r2.length];exact hz)
 refine⟨.ref s.heap.objs.size,_,I.laid (t':=s.toks) (o:=.tup (xs++ys)) (fun b ob q=>jm_ _ q) (jg_ _) ?_,rfl,q2 (fun w=>z (r2.nil_iff.mpr w)) _ (I.hok.fresh (jg_ _))⟩
 exact⟨by rw[jo_];exact hz,_,r1.append r2,IsTup.new _ _⟩
end
end L2
namespace L2
open PySem PySem.Spec PyProof.Rows
noncomputable def ixN (n:Nat)(i:Int):Option Nat:=if 0<=i then (if i<n then some i.toNat else none) else if -(n:Int)<=i then some (i+n).toNat else none
noncomputable def atI {α:Type}(xs:List α)(i:Int):Option α:=(ixN xs.length i).bind fun j=>xs[j]?
theorem Xm    (h:ixN n i=some j):seqIndex? i n=some j/\j<n /\ -(n:Int)<=i/\i<n:=by
 unfold ixN at h
 by_cases h0:0<=i
 ·rw[if_pos h0]at h
  by_cases h1:i<n
  ·rw[if_pos h1]at h
   have e:i.toNat=j:=jp_ h
   exact⟨by rw[seqIndex_of h0 h1,e],by lia,by lia,h1⟩
  ·rw[if_neg h1]at h;cases h
 ·rw[if_neg h0]at h
  by_cases h1 : -(n:Int)<=i
  ·rw[if_pos h1]at h
   have e:(i+n).toNat=j:=jp_ h
   exact⟨by rw[seqIndex_neg s!"" h1,e],by lia,h1,by lia⟩
  ·rw[if_neg h1]at h;cases h
theorem Xn     (h:atI xs i=some v):∃j,seqIndex? i xs.length=some j/\xs[j]?=some v/\j<xs.length /\ -(xs.length:Int)<=i/\i<xs.length:=by
 unfold atI at h
 cases e:ixN xs.length i with
 |none=>rw[e]at h;cases h
 |some j=>
  rw[e]at h
  obtain⟨h1,h2,h3,h4⟩:=Xm e
  exact⟨j,h1,h,h2,h3,h4⟩
theorem Gm {α:Type}{xs:List α}{j:Nat}{v:α}(h:xs[j]?=some v):atI xs (j:Int)=some v:=by
 have hj:j<xs.length:=(jb_.mp h).1
 have e:ixN xs.length (j:Int)=some j:=by
  unfold ixN
  rw[if_pos s!"",if_pos s!""];simp
 unfold atI;rw[e];exact h
noncomputable def Xo (b:Expr):Prop:=∀o i,subscripted b false o i=operate [o,i] (getItem o i)
noncomputable def IxR (X:Cx)(r:R2):Prop:=
 ∀(value aW:Expr) (af:α7) (s:Shared) (σ:St) (H:Hp) (x y:V) (v u:Value) (Q:VK),Inv X af σ H s->RelV x v->RelV y u->r x y H Q ->
  subscripted aW false v u=operate [v,u] (getItem v u)->wpAny (model X.prog X.w) X.A (subscriptTail value aW v u) (EP X af σ Q) X.xe s
noncomputable def MtR (X:Cx)(id:String)(r:V->List V->Hp->VK->Prop):Prop:=
 ∀(af:α7) (s:Shared) (σ:St) (H:Hp) (x:V) (xs:List V) (v:Value) (us:List Value) (Q:VK),Inv X af σ H s->RelV x v->Vals xs us->r x xs H Q ->
  wpAny (model X.prog X.w) X.A (call (.builtin id) (v::us)) (EP X af σ Q) X.xe s
section
variable {X:Cx} {a b:Expr} {ta tb:TE} {pos:Pos}
theorem IxR.or  (h:IxR X r)(h':IxR X r'):IxR X (fun x y H Q=>r x y H Q\/r' x y H Q):=by
 intro value aW af s σ H x y v u Q I rx ry q hs
 rcases q with q|q
 ·exact h value aW af s σ H x y v u Q I rx ry q hs
 ·exact h' value aW af s σ H x y v u Q I rx ry q hs
theorem DI_  (hr:IxR X r)(ha:PE X a ta)(hb:PE X b tb)(hs:Xo b):PE X (.Subscript a b pos) (tOp r ta tb):=by
 intro af s σ H Q I h
 exact Subscript_ (binT ha hb I h fun v u s2 x y H2 I2 rx ry q=>hr a b af s2 σ H2 x y v u Q I2 rx ry q (hs _ _))
noncomputable def rIxL (K:α3):R2:=fun x y H Q=>∃p xs i v,x=.ref p/\y=.int i/\SqL K H p xs/\atI xs i=some v/\Q v H
noncomputable def rIxT (K:α3):R2:=fun x y H Q=>∃p xs i v,x=.ref p/\y=.int i/\SqT K H p xs/\atI xs i=some v/\Q v H
theorem Bn:IxR X (rIxL X.K):=by
 intro value aW af s σ H x y v u Q I rx ry h hs
 obtain⟨p,xs,i,z,rfl,rfl,hq,he,q⟩:=h
 cases rx
 obtain⟨t,rfl⟩:=ry
 obtain⟨its,r,pl,hz⟩:=I.list hq
 obtain⟨j,h1,h2,h3,h4,h5⟩:=Xn he
 obtain⟨w,ew,d0⟩:=r.get h2
 have hl:=r.length
 have hn:=QV
 have fin:EP X af σ Q w s:=⟨z,H,I,d0,q⟩
 by_cases h0:0<=i
 ·have hj:i.toNat=j:=by
   rw[seqIndex_of h0 h5]at h1
   exact jp_ h1
  exact item_listR pl.isList h0 s!"" (by rw[hj];simpa using ew) fin hs
 ·have hj:(i+(its.toArray.size:Int)).toNat=j:=by
   rw[seqIndex_neg s!"" h4]at h1
   rw[jl_,<-hl]
   exact jp_ h1
  exact subscriptTail_builtinR (x:=w) pl.isList.typeIs slot_list_getitem.lookup
   (wpAny_getItem_list_neg (Q:=fun r s'=>r=w/\EP X af σ Q r s') pl.isList s!"" (by rw[jl_]<;>lia) s!"" (by rw[hj];simpa using ew) ⟨rfl,fin⟩) hs
theorem Ao:IxR X (rIxT X.K):=by
 intro value aW af s σ H x y v u Q I rx ry h hs
 obtain⟨p,xs,i,z,rfl,rfl,hq,he,q⟩:=h
 cases rx
 obtain⟨t,rfl⟩:=ry
 obtain⟨its,r,pl,hz⟩:=I.tuple hq
 obtain⟨j,h1,h2,h3,h4,h5⟩:=Xn he
 obtain⟨w,ew,d0⟩:=r.get h2
 have hl:=r.length
 have hn:=QV
 have fin:EP X af σ Q w s:=⟨z,H,I,d0,q⟩
 exact subscriptTail_builtinR (x:=w) pl.typeIs slot_tuple_getitem.lookup
  (getItem_tuple (j:=j) (Q:=fun r s'=>r=w/\EP X af σ Q r s') pl s!"" s!"" (by rw[jl_,<-hl];exact h1) (by simpa using ew) ⟨rfl,fin⟩) hs
theorem VG (its:List Value)(n j:Nat)(u:Value):Obj.mapSeq (·.setIfInBounds j u) {cls:=.type "list",data:=.seq its.toArray n}={cls:=.type "list",data:=.seq (its.set j u).toArray n}:=by
 simp[Obj.mapSeq]
theorem Inv.lst {af:α7}{σ:St}{H:Hp}{s:Shared}{p:Addr}{xs:List V}(I:Inv X af σ H s)(h:H p=some (.lst xs)):
  ∃(its:List Value) (n:Nat),Vals xs its/\s.heap.get? p=some {cls:=.type "list",data:=.seq its.toArray n}/\xs.length<=sizeLine:=by
 obtain⟨z,its,n,r,e⟩:=I.hok p _ h
 exact⟨its,n,r,e,z⟩
theorem Inv.lstUpd       {its its':List Value}   (I:Inv X af σ H s)(h:H p=some (.lst xs))
  (ho:s.heap.get? p=some {cls:=.type "list",data:=.seq its.toArray n}) (hf:f {cls:=.type "list",data:=.seq its.toArray n}={cls:=.type "list",data:=.seq its'.toArray n' }) (r:Vals ys its') (hz:ys.length<=sizeLine) (t:Nat):
  Inv X af σ (upd H p (.lst ys)) {s with heap:=s.heap.update p f,toks:=t}:=by
 have e:(s.heap.update p f).get? p=some {cls:=.type "list",data:=.seq its'.toArray n' }:=by
  rw[qT_ f ho (by rw[hf]<;>rfl),hf]
 refine I.write (x:=p) (e:=p) (by rw[h];trivial) (.inl rfl) (fun b u hb q=>(j7_ _ _ (qx_ hb)).trans q) ⟨_,e⟩ ?_
 exact⟨hz,its',n',r,e⟩
noncomputable def DJ_:V->V->V->Hp->(Hp->Prop)->Prop:=fun o i v H Q=>∃p xs k j,o=.ref p/\i=.int k/\H p=some (.lst xs)/\ixN xs.length k=some j/\Q (upd H p (.lst (xs.set j v)))
theorem set_list:PSet X DJ_:=by
 intro af s σ H o i v ov iv u Q I ro ri rv h
 obtain⟨p,xs,k,j,rfl,rfl,hp,hj,q⟩:=h
 cases ro
 obtain⟨t,rfl⟩:=ri
 obtain⟨its,n,r,ho,hz⟩:=I.lst hp
 obtain⟨h1,h2,h3,h4⟩:=Xm hj
 have hl:=r.length
 have hn:=QV
 have I':Inv X af σ (upd H p (.lst (xs.set j v))) {s with heap:=s.heap.update p (Obj.mapSeq (·.setIfInBounds j u))}:=
  I.lstUpd hp ho (VG its n j u) (r.set rv j) (by rw[qO_];exact hz) s.toks
 by_cases h0:0<=k
 ·have hk:k.toNat=j:=by
   rw[seqIndex_of h0 h4]at h1
   exact jp_ h1
  exact PySem.W.ki_setAt ho h0 s!"" (by rw[jl_,<-hl];exact h4) (by rw[hk];exact⟨_,I',q⟩)
 ·have hk:(k+(its.toArray.size:Int)).toNat=j:=by
   rw[seqIndex_neg s!"" h3]at h1
   rw[jl_,<-hl]
   exact jp_ h1
  exact PySem.W.ki_setBack ho s!"" (by rw[jl_,<-hl];exact h3) s!"" (by rw[hk];exact⟨_,I',q⟩)
theorem Q1 (lo hi:Option Int)(n:Nat):(sliceBounds lo hi none n).1=((HT.sIx n 0 lo:Nat):Int)/\(sliceBounds lo hi none n).2.1=((HT.sIx n n hi:Nat):Int)/\(sliceBounds lo hi none n).2.2=1:=by
 refine⟨?_,?_,rfl⟩
 ·cases lo with
  |none=>simp[sliceBounds,HT.sIx]
  |some i=>
   simp only[sliceBounds,HT.sIx,Option.getD_none,show (1:Int) > 0 by decide,xO_]
   by_cases h:i<0
   ·simp only[h,xO_]<;>lia
   ·simp only[h,q3_]<;>lia
 ·cases hi with
  |none=>simp[sliceBounds,HT.sIx]
  |some i=>
   simp only[sliceBounds,HT.sIx,Option.getD_none,show (1:Int) > 0 by decide,xO_]
   by_cases h:i<0
   ·simp only[h,xO_]<;>lia
   ·simp only[h,q3_]<;>lia
theorem O2 (its:List Value)(lo hi:Option Int):slicePick its.toArray lo hi none=((its.drop (HT.sIx its.length 0 lo)).take (HT.sIx its.length its.length hi-HT.sIx its.length 0 lo)).toArray:=by
 obtain⟨h1,h2,h3⟩:=Q1 lo hi its.toArray.size
 unfold slicePick
 rw[h1,h2,h3]
 simp only[sliceRange_one,pick_run,jl_]<;>rfl
noncomputable def rSlL (K:α3):V->Option Int->Option Int->Hp->VK->Prop:=fun x lo hi H Q=>∃a xs,x=.ref a/\SqL K H a xs/\∀p,H p=none->Q (.ref p) (upd H p (.lst (cutV xs lo hi)))
theorem Xp:SlR X (rSlL X.K):=by
 intro af s σ H x v vl vu lo hi sl Q I rx hs pl pu h
 obtain⟨a,xs,rfl,hx,q⟩:=h
 cases rx
 obtain⟨its,r,ht,hz⟩:=I.list hx
 have ak:=r.length
 refine⟨"list",_,slot_list_getitem.lookup,ht.isList.typeIs,?_⟩
 refine wpAny_getItem_list_slice ht.isList hs pl pu .none (by simp) ?_ (by rw[jl_]<;>lia)
 rw[O2,<-ak]
 refine⟨.ref s.heap.objs.size,_,I.laid (t':=s.toks) (o:=.lst (cutV xs lo hi)) (fun b ob q=>jm_ _ q) (jg_ _) ?_,rfl,q _ (I.hok.fresh (jg_ _))⟩
 exact⟨ql_ (LC xs lo hi) hz,_,0,(r.drop (HT.sIx xs.length 0 lo)).take (HT.sIx xs.length xs.length hi-HT.sIx xs.length 0 lo),jC_ _ rfl⟩
noncomputable def DZ:V->Bool
 |.non=>true
 |.bl _=>true
 |.int _=>true
 |.str _=>true
 |_=>false
noncomputable def eqV:V->V->Bool
 |.non,.non=>true
 |.bl a,.bl b=>a==b
 |.bl a,.int b=>(if a then 1 else 0)==b
 |.int a,.bl b=>a==(if b then 1 else 0)
 |.int a,.int b=>a==b
 |.str a,.str b=>a==b
 |_,_=>false
theorem Xq     (ry:RelV y u)(rx:RelV x v)(fy:DZ y=true)(fx:DZ x=true):SeqAt.EqAt A s u v (eqV y x):=by
 cases y with
 |non=>
  cases ry
  cases x with
  |non=>cases rx;exact SeqAt.EqAt.same _
  |bl b=>cases rx;exact SeqAt.EqAt.none_bool b
  |int b=>obtain⟨t,rfl⟩:=rx;exact SeqAt.EqAt.none_int b t
  |str b=>obtain⟨t,rfl⟩:=rx;exact SeqAt.EqAt.none_str b t
  |_=>exact absurd (show false=true from fx) jt_
 |bl a=>
  cases ry
  cases x with
  |non=>cases rx;exact SeqAt.EqAt.bool_none a
  |bl b=>cases rx;exact SeqAt.EqAt.bool_bool a b
  |int b=>obtain⟨t,rfl⟩:=rx;exact SeqAt.EqAt.bool_int a b t
  |str b=>obtain⟨t,rfl⟩:=rx;exact SeqAt.EqAt.bool_str a b t
  |_=>exact absurd (show false=true from fx) jt_
 |int a=>
  obtain⟨t',rfl⟩:=ry
  cases x with
  |non=>cases rx;exact SeqAt.EqAt.int_none a t'
  |bl b=>cases rx;exact SeqAt.EqAt.int_bool a t' b
  |int b=>obtain⟨t,rfl⟩:=rx;exact SeqAt.EqAt.int_int a t' b t
  |str b=>obtain⟨t,rfl⟩:=rx;exact SeqAt.EqAt.int_str a t' b t
  |_=>exact absurd (show false=true from fx) jt_
 |str a=>
  obtain⟨t',rfl⟩:=ry
  cases x with
  |non=>cases rx;exact SeqAt.EqAt.str_none a t'
  |bl b=>cases rx;exact SeqAt.EqAt.str_bool a t' b
  |int b=>obtain⟨t,rfl⟩:=rx;exact SeqAt.EqAt.str_int a t' b t
  |str b=>obtain⟨t,rfl⟩:=rx;exact SeqAt.EqAt.str_str a t' b t
  |_=>exact absurd (show false=true from fx) jt_
 |_=>exact absurd (show false=true from fy) jt_
noncomputable def eqU (x:V)(u:Value):Bool:=match u with
 |.none=>eqV .non x
 |.bool b=>eqV (.bl b) x
 |.int i _=>eqV (.int i) x
 |.str z _=>eqV (.str z) x
 |_=>false
theorem AU_   (r:RelV y u)(f:DZ y=true):eqU x u=eqV y x:=by
 cases y with
 |non=>cases r;rfl
 |bl b=>cases r;rfl
 |int i=>obtain⟨t,rfl⟩:=r;rfl
 |str z=>obtain⟨t,rfl⟩:=r;rfl
 |_=>exact absurd (show false=true from f) jt_
theorem O3 {x:V}:∀{xs:List V} {us:List Value},Vals xs us->xs.all DZ=true->us.any (eqU x)=xs.any fun y=>eqV y x
 |_,_,.nil,_=>rfl
 |y::xs,u::us,.cons r t,f=>by
  rw[List.all_cons,qa_]at f
  rw[zA_,zA_,AU_ r f.1,O3 t f.2]
theorem Li {A:Around}{s:Shared}{x:V}{v:Value}(rx:RelV x v)(fx:DZ x=true):∀{xs:List V} {us:List Value},Vals xs us->xs.all DZ=true->∀u∈us,SeqAt.EqAt A s u v (eqU x u)
 |_,_,.nil,_=>fun u hu=>by cases hu
 |y::xs,u::us,.cons r t,f=>fun u' hu=>by
  rw[List.all_cons,qa_]at f
  rcases jL_.mp hu with rfl|hu
  ·rw[AU_ r f.1];exact Xq r rx f.1 fx
  ·exact Li rx fx t f.2 u' hu
noncomputable def inV (x:V)(xs:List V):Bool:=xs.any fun y=>eqV y x
noncomputable def rIn (K:α3)(iA:Bool):R2:=fun x y H Q=>∃p xs,y=.ref p/\(SqL K H p xs\/SqT K H p xs)/\DZ x=true/\xs.all DZ=true/\Q (.bl (if iA then !inV x xs else inV x xs)) H
theorem J8:OpR X (compareOp .NotIn) (rIn X.K true):=by
 intro af s σ H x y v u Q I rx ry h
 obtain⟨p,xs,rfl,hq,fx,fs,q⟩:=h
 cases ry
 rcases hq with hq|hq
 ·obtain⟨its,r,pl,hz⟩:=I.list hq
  refine SeqAt.notIn_listAt (eqU x) pl.isList (fun w hw=>Li rx fx r fs w (by simpa using hw)) ⟨.bl _,H,I,rfl,?_⟩
  rw[show its.toArray.any (eqU x)=its.any (eqU x) by simp,O3 r fs]
  exact q
 ·obtain⟨its,r,pl,hz⟩:=I.tuple hq
  refine SeqAt.notIn_tupleAt (eqU x) pl (fun w hw=>Li rx fx r fs w (by simpa using hw)) ⟨.bl _,H,I,rfl,?_⟩
  rw[show its.toArray.any (eqU x)=its.any (eqU x) by simp,O3 r fs]
  exact q
theorem Ak:DE X (.builtin "len") (fun xs H Q=>∃p ys,xs=[.ref p]/\(SqL X.K H p ys\/SqT X.K H p ys)/\Q (.int ys.length) H):=by
 intro af s σ H xs us Q I r h
 obtain⟨p,ys,rfl,hq,q⟩:=h
 obtain⟨u,rfl,rx⟩:=vals1 r
 cases rx
 have hn:=QV
 rcases hq with hq|hq
 ·obtain⟨its,r',pl,hz⟩:=I.list hq
  have ak:=r'.length
  exact Calls.call_len_list pl.isList (by simp only[jl_]<;>lia) ⟨.int ys.length,H,I.tok _,⟨s.toks+1,by rw[jl_,ak]⟩,q⟩
 ·obtain⟨its,r',pl,hz⟩:=I.tuple hq
  have ak:=r'.length
  exact len_tuple pl (by simp only[jl_]<;>lia) ⟨.int ys.length,H,I.tok _,⟨s.toks+1,by rw[jl_,ak]⟩,q⟩
theorem DE.or   (h:DE X f r)(h':DE X f r'):DE X f (fun xs H Q=>r xs H Q\/r' xs H Q):=by
 intro af s σ H xs us Q I rs q
 rcases q with q|q
 ·exact h af s σ H xs us Q I rs q
 ·exact h' af s σ H xs us Q I rs q
theorem Gn:DE X (.type "list") (fun xs H Q=>∃p ys,xs=[.ref p]/\(SqL X.K H p ys\/SqT X.K H p ys)/\∀l,H l=none->Q (.ref l) (upd H l (.lst ys))):=by
 intro af s σ H xs us Q I r h
 obtain⟨p,ys,rfl,hq,q⟩:=h
 obtain⟨u,rfl,rx⟩:=vals1 r
 cases rx
 have fin:∀(its:List Value),Vals ys its->ys.length<=sizeLine->∀(h':Heap) (c':Nat),(∀b o',s.heap.get? b=some o'->h'.get? b=some o') ->
   h'.get? s.heap.objs.size=some {cls:=.type "list",dict:=none,data:=.seq its.toArray c',slots := #[]}->EP X af σ Q (.ref s.heap.objs.size) {s with heap:=h' }:=fun its r' hz h' c' kp e=>
  ⟨.ref s.heap.objs.size,_,I.laid (t':=s.toks) kp (jg_ _) (show Cc X.prog X.w _ h' _ (.lst ys) from ⟨hz,its,c',r',e⟩),rfl,q _ (I.hok.fresh (jg_ _))⟩
 rcases hq with hq|hq
 ·obtain⟨its,r',pl,hz⟩:=I.list hq
  have ak:=r'.length
  obtain⟨o,ho,hc,n,hd⟩:=pl.isList
  exact call_list_seq p (.inl rfl) ho hc hd (fun h' c' kp e=>fin its r' hz h' c' kp e) (by simp only[jl_]<;>lia)
 ·obtain⟨its,r',pl,hz⟩:=I.tuple hq
  have ak:=r'.length
  obtain⟨o,ho,hc,n,hd⟩:=pl
  exact call_list_seq p (.inr rfl) ho hc hd (fun h' c' kp e=>fin its r' hz h' c' kp e) (by simp only[jl_]<;>lia)
theorem O4:DE X (.type "tuple") (fun xs H Q=>∃p ys,xs=[.ref p]/\((SqL X.K H p ys/\∀l,H l=none->Q (.ref l) (upd H l (.tup ys)))\/(SqT X.K H p ys/\Q (.ref p) H))):=by
 intro af s σ H xs us Q I r h
 obtain⟨p,ys,rfl,h⟩:=h
 obtain⟨u,rfl,rx⟩:=vals1 r
 cases rx
 rcases h with ⟨hq,q⟩|⟨hq,q⟩
 ·obtain⟨its,r',pl,hz⟩:=I.list hq
  have ak:=r'.length
  refine call_tuple_list pl.isList (fun h' kp=>?_) (by simp only[jl_]<;>lia)
  have I1:Inv X af σ H {s with heap:=h' }:=I.kept (t':=s.toks) kp
  have I2:Inv X af σ (upd H h'.objs.size (.tup ys)) {s with heap:=h'.push {cls:=.type "tuple",data:=.seq its.toArray} }:=
   I1.laid (t':=s.toks) (fun b o e=>jm_ _ e) (jg_ _) (show Cc X.prog X.w _ _ _ (.tup ys) from ⟨hz,its,r',IsTup.new _ _⟩)
  exact⟨.ref h'.objs.size,_,I2,rfl,q _ (I1.hok.fresh (jg_ _))⟩
 ·obtain⟨its,r',pl,hz⟩:=I.tuple hq
  exact call_tuple_same pl ⟨.ref p,H,I,rfl,q⟩
noncomputable def tyV (K:α3)(T:String)(x:V)(H:Hp):Prop:=match x with
 |.str _=>T = "str"
 |.int _=>T = "int"
 |.ref p=>(T = "list" /\ ∃xs,SqL K H p xs)\/(T = "tuple" /\ ∃o,K.lookup p=some o/\o.cls=.type "tuple" /\ o.dict=none) \/
   (T = "dict" /\ ((∃kvs,H p=some (.dK kvs)) \/ ∃kvs,H p=some (.dT kvs)))\/(T = "set" /\ ∃S n,H p=some (.set S n))
 |_=>False
theorem DK_        (I:Inv X af σ H s)(r:RelV x v)(ty:tyV X.K T x H):
  s.TypeIs v T/\∀a,v=.ref a->∃ob,s.heap.get? a=some ob/\ob.dict=none:=by
 cases x with
 |str z=>
  obtain⟨t,rfl⟩:=r
  cases (show T = "str" from ty)
  exact⟨typeIs_str s z t,fun _ e=>nomatch e⟩
 |int i=>
  obtain⟨t,rfl⟩:=r
  cases (show T = "int" from ty)
  exact⟨typeIs_int s i t,fun _ e=>nomatch e⟩
 |ref p=>
  cases r
  rcases ty with ⟨rfl,xs,hq⟩|⟨rfl,o,hk,hc,hd⟩|⟨rfl,hk⟩|⟨rfl,S,n,hk⟩
  ·obtain⟨its,_,pl,_⟩:=I.list hq
   refine⟨pl.isList.typeIs,fun a e=>?_⟩
   cases e
   obtain⟨o,n,e,c,hd,_⟩:=pl
   exact⟨o,e,hd⟩
  ·refine⟨⟨o,I.kIn p o hk,hc⟩,fun a e=>?_⟩
   cases e
   exact⟨o,I.kIn _ o hk,hd⟩
  ·have z:∃o,s.heap.get? p=some o/\o.ExactDict:=by
    rcases hk with ⟨kvs,hk⟩|⟨kvs,hk⟩
    ·obtain⟨_,_,_,_,o,_,_,e,ex,_⟩:=I.hok p _ hk
     exact⟨o,e,ex⟩
    ·obtain⟨_,_,_,_,o,_,_,e,ex,_⟩:=I.hok p _ hk
     exact⟨o,e,ex⟩
   obtain⟨o,e,ex⟩:=z
   refine⟨⟨o,e,ex.1⟩,fun a e2=>?_⟩
   cases e2
   exact⟨o,e,ex.2.1⟩
  ·obtain⟨o,_,_,_,e,ex,_⟩:=I.hok p _ hk
   refine⟨⟨o,e,ex.1⟩,fun a e2=>?_⟩
   cases e2
   exact⟨o,e,ex.2.1⟩
 |_=>exact False.elim ty
noncomputable def tBM (K:α3)(T:String)(r:V->List V->Hp->VK->Prop)(to:TE)(t:TA):TE:=fun σ H Q=>to σ H fun x H1=>tyV K T x H1/\t σ H1 fun xs H2=>r x xs H2 Q
variable {o e:Expr} {es:List Expr} {to:TE} {t:TA} {name:Str} {bh aE:Pos} {T id:String} {r:V->List V->Hp->VK->Prop}
theorem FA (pa:PlainAttrs T)(slot:Slot T name id)(mG:typeOf (.builtin id)=pure (.type "method_descriptor"))(hm:MtR X id r)(ho:PE X o to)(ha:PA X (e::es) t)
  (fg:attributeBase o name X.env (eval o X.env)=eval o X.env:=by rfl)
  (gf:((backTo aE (starEach (e::es) X.env)).all (fun x => !x.1)&&(backToKw aE (keywordEach [] X.env)).all (fun x=>x.1.isSome)
   && decide ((e::es).length+([]:List Keyword).length+(if ([]:List Keyword).isEmpty then 0 else 1)<30))=true:=by rfl)
  (fh:(bh.endLine==aE.line)=true:=by rfl) (hs:starEach (e::es) X.env=(false,eval e X.env)::starEach es X.env:=by rfl) (dj:(backTo aE (starEach es X.env)).any (·.1)=false:=by rfl):
  PE X (.Call (.Attribute o name bh) (e::es) [] aE) (tBM X.K T r to t):=by
 intro af s σ H Q I h
 refine wpAny_Call_method_late fg gf fh rfl (thn (ho af s σ H _ I h) fun v s1 ⟨x,H1,I1,r1,ty,q1⟩=>?_)
 obtain⟨h1,h2⟩:=DK_ I1 r1 ty
 refine⟨T,id,pa,slot,mG,h1,h2,?_⟩
 have hA:=ha aE af s1 σ H1 _ I1 q1
 rw[hs]at hA ⊢
 refine zh_ (by show (false||(backTo aE (starEach es X.env)).any (·.1))=false;rw[dj]<;>rfl) (zy_ ?_)
 exact thn hA fun us s2 ⟨vs,H2,I2,r2,q2⟩=>hm af s2 σ H2 x vs v us Q I2 r1 r2 q2
/- xs.append(e),list.index on a module's tuple .. are MtR facts of 06m -/
end
end L2
namespace L2
open PySem PySem.Spec PyProof.Rows
noncomputable def MtM (X:Cx)(id:String)(r:V->List V->Hp->VK->Prop):Prop:=
 ∀(af:α7) (s:Shared) (σ:St) (H:Hp) (x:V) (xs:List V) (v:Value) (us:List Value) (Q:VK),Inv X af σ H s->RelV x v->Vals xs us->r x xs H Q ->
  wpAny (model X.prog X.w) X.A (call (.builtin id) (v::us)) (EP X af σ Q) X.xe s
theorem Vals.one:∀{x:V} {us:List Value},Vals [x] us->∃u,us=[u]/\RelV x u
 |_,_,.cons r .nil=>⟨_,rfl,r⟩
theorem Vals.rep {xs:List V}{us:List Value}(h:Vals xs us):∀k:Nat,Vals (List.replicate k xs).flatten (List.replicate k us).flatten
 |0=>.nil
 |k+1=>by
  rw[qf_,qf_,xz_,xz_]
  exact Vals.append h (Vals.rep h k)
theorem foldl_rep (its:List Value):∀(k:Nat) (ai:List Value),
  List.foldl (fun x1 x2=>x1++x2) ai.toArray (List.replicate k its.toArray)=(ai++(List.replicate k its).flatten).toArray
 |0,ai=>by simp
 |k+1,ai=>by
  have e:ai.toArray++its.toArray=(ai++its).toArray:=by simp
  have e2:(ai++its)++(List.replicate k its).flatten=ai++(List.replicate (k+1) its).flatten:=by
   rw[qf_,xz_,qh_]
  rw[<-e2,<-foldl_rep its k (ai++its),<-e,qf_,q7_]
section
variable {X:Cx} {af:α7} {σ:St} {H:Hp} {s:Shared} {l b:Addr} {xs ys zs:List V}
theorem Inv.lset {its its':List Value}    (I:Inv X af σ H s)(hH:H l=some (.lst xs))
  (e:s.heap.get? l=some {cls:=.type "list",data:=.seq its.toArray n}) (hf:f its.toArray=its'.toArray) (hv:Vals ys its') (hz:ys.length<=sizeLine):
  Inv X af σ (upd H l (.lst ys)) {s with heap:=s.heap.update l (Obj.mapSeq f),toks:=t' }:=by
 have q:=x1_ e f
 rw[hf]at q
 refine I.write (x:=l) (e:=l) (by rw[hH];exact trivial) (.inl rfl) (fun b' u hb hu=>(j7_ s.heap (Obj.mapSeq f) (qx_ hb)).trans hu) ⟨_,q⟩ ?_
 exact⟨hz,its',_,hv,q⟩
theorem Inv.lnew {its:List Value}  (I:Inv X af σ H s)(hv:Vals ys its)(hz:ys.length<=sizeLine):
  Inv X af σ (upd H s.heap.objs.size (.lst ys)) {s with heap:=s.heap.push {cls:=.type "list",data:=.seq its.toArray},toks:=t' }:=
 I.laid (fun _ _ q=>jm_ _ q) (jg_ _) ⟨hz,its,0,hv,jC_ _ rfl⟩
theorem Inv.fresh (I:Inv X af σ H s):H s.heap.objs.size=none:=I.hok.fresh (jg_ _)
theorem Inv.lstM (I:Inv X af σ H s)(hH:H l=some (.lst xs)):xs.length<=sizeLine/\∃(its:List Value) (n:Nat),Vals xs its/\xs.length=its.length/\s.heap.get? l=some {cls:=.type "list",data:=.seq its.toArray n}:=by
 obtain⟨z,its,n,r,e⟩:=I.hok l _ hH
 exact⟨z,its,n,r,r.length,e⟩
theorem UG  (h:n<=sizeLine):Builtin.List.listTooLong n=false:=by
 unfold Builtin.List.listTooLong
 exact qc_ s!""
end
section
variable {X:Cx}
noncomputable def Xr:V->List V->Hp->VK->Prop:=fun x vs H Q=>∃l xs y,x=.ref l/\vs=[y]/\H l=some (.lst xs)/\xs.length<sizeLine/\Q .non (upd H l (.lst (xs++[y])))
theorem Bi:MtM X "list.append" Xr:=by
 intro af s σ H x vs v us Q I rx rv h
 obtain⟨l,xs,y,rfl,rfl,hH,hz,q⟩:=h
 cases rx
 obtain⟨u,rfl,ru⟩:=rv.one
 obtain⟨z,its,n,r,hl,e⟩:=I.lstM hH
 refine xA_ F.slot_list_append ⟨_,e,rfl⟩ F.entry_list_append (zz_ _ _) (zT_ l its.toArray n u (by rw[jl_];lia)) ⟨e,?_⟩
 refine⟨.non,_,I.lset (its':=its++[u]) hH e (by simp) (r.append (.cons ru .nil)) ?_,rfl,q⟩
 rw[jo_,j0_]
 lia
noncomputable def Xs:V->List V->Hp->VK->Prop:=fun x vs H Q=>∃l b xs zs,x=.ref l/\vs=[.ref b]/\H l=some (.lst xs)/\H b=some (.lst zs)/\xs.length+zs.length<=sizeLine/\Q .non (upd H l (.lst (xs++zs)))
theorem Xt:MtM X "list.extend" Xs:=by
 intro af s σ H x vs v us Q I rx rv h
 obtain⟨l,b,xs,zs,rfl,rfl,hH,hB,hz,q⟩:=h
 cases rx
 obtain⟨u,rfl,ru⟩:=rv.one
 cases ru
 obtain⟨z,its,n,r,hl,e⟩:=I.lstM hH
 obtain⟨z2,aJ,n2,r2,bF,e2⟩:=I.lstM hB
 have hsz:its.toArray.size+aJ.toArray.size<=sizeLine:=by rw[jl_,jl_];lia
 have fi:¬ (!its.toArray.isEmpty&&Builtin.List.listTooLong (its.toArray.size+aJ.toArray.size))=true:=by
  rw[UG hsz,Bool.and_false]
  exact jt_
 refine xA_ F.slot_list_extend ⟨_,e,rfl⟩ F.entry_list_extend (F.args_list_extend_2 _ _)
  (AutoSeq1.list_extend_list_list_0 l its.toArray n b aJ.toArray n2 fi (by rw[jl_];lia) s!"") ⟨e,e2,?_⟩
 refine⟨.non,_,I.lset (its':=its++aJ) hH e (by simp) (r.append r2) ?_,rfl,q⟩
 rw[jo_]
 lia
noncomputable def rCat:R2:=fun x y H Q=>∃l b xs zs,x=.ref l/\y=.ref b/\H l=some (.lst xs)/\H b=some (.lst zs)/\xs.length+zs.length<=sizeLine/\∀p,H p=none->Q (.ref p) (upd H p (.lst (xs++zs)))
theorem DL_:OpR X (binaryOp .Add) rCat:=by
 intro af s σ H x y v u Q I rx ry h
 obtain⟨l,b,xs,zs,rfl,rfl,hH,hB,hz,q⟩:=h
 cases rx
 cases ry
 obtain⟨z,its,n,r,hl,e⟩:=I.lstM hH
 obtain⟨z2,aJ,n2,r2,bF,e2⟩:=I.lstM hB
 refine PySem.P.add_list e e2 ?_ (by rw[jl_,jl_];lia)
 have ea:its.toArray++aJ.toArray=(its++aJ).toArray:=by simp
 rw[ea]
 exact⟨.ref _,_,I.lnew (t':=s.toks) (r.append r2) (by rw[jo_];lia),rfl,q _ I.fresh⟩
noncomputable def rRep:R2:=fun x y H Q=>∃l k xs,x=.ref l/\y=.int k/\H l=some (.lst xs) /\ -(2 ^ 63)<=k/\k<2 ^ 63/\xs.length*k.toNat<=sizeLine /\
 ∀p,H p=none->Q (.ref p) (upd H p (.lst (List.replicate k.toNat xs).flatten))
theorem len_rep {α:Type}(xs:List α)(k:Nat):(List.replicate k xs).flatten.length=k*xs.length:=by
 induction k with
 |zero=>simp
 |succ k ih=>rw[qf_,xz_,jo_,ih,Nat.succ_mul,Nat.add_comm]
theorem Xu:OpR X (binaryOp .Mult) rRep:=by
 intro af s σ H x y v u Q I rx ry h
 obtain⟨l,k,xs,rfl,rfl,hH,h1,h2,hz,q⟩:=h
 cases rx
 obtain⟨t,rfl⟩:=ry
 obtain⟨z,its,n,r,hl,e⟩:=I.lstM hH
 have ak:its.toArray.size*k.toNat<=sizeLine:=by rw[jl_,<-hl];exact hz
 have hcap:¬ its.toArray.size*k.toNat > (2 ^ 63-1) / 8:=by
  have:(sizeLine:Nat)<=(2 ^ 63-1) / 8:=by decide
  lia
 have hfit:¬ (!Builtin.List.listFitsIndex k)=true:=by
  rw[fitsIndex_both h1 h2]
  exact jt_
 have fi:¬ Builtin.List.listTooLong (its.toArray.size*k.toNat)=true:=by
  rw[UG ak]
  exact jt_
 have cQ:List.foldl (fun x1 x2=>x1++x2) #[] (List.replicate (if its.toArray.isEmpty=true then 0 else k.toNat) its.toArray)=(List.replicate k.toNat its).flatten.toArray:=by
  have f0:∀m:Nat,List.foldl (fun x1 x2=>x1++x2) #[] (List.replicate m its.toArray)=(List.replicate m its).flatten.toArray:=fun m=>by
   have:=foldl_rep its m []
   rw[xQ_]at this
   exact this
  rw[f0]
  cases its with
  |nil=>simp
  |cons a r'=>rw[if_neg (by simp)]
 refine wpAny_binaryOp_repeat_ref (T := "list") (U := "int") (by decide) ⟨_,e,rfl⟩ (fun s'=>typeIs_int s' k t) noFill_list_mul F.fills_int_mul zG_ repeat_list F.slot_int_index.lookup
  (xA_ zG_ (typeIs_int s k t) F.entry_int_rmul (F.args_int_rmul_2 _ _) (int___rmul___int_list k t l its.toArray n)
   ⟨e,rfl,⟨_,e,rfl⟩,xA_ F.slot_list_mul ⟨_,e,rfl⟩ F.entry_list_mul (F.args_list_mul_2 _ _) (AutoListH.list___mul___list_int_3 l its.toArray n k t hfit hcap fi) ⟨e,?_⟩⟩)
 rw[cQ]
 exact⟨.ref _,_,I.lnew (t':=s.toks) (r.rep k.toNat) (by rw[len_rep,Nat.mul_comm];exact hz),rfl,q _ I.fresh⟩
end
end L2
namespace Att
open PySem PySem.W PySem.Calls PyProof.Rows
theorem LD   : ∀(ns:α2) (vs:List Value),WellAll P h vs (ns.map WData.int)->IntsAre vs ns:=by
 intro ns
 induction ns with
 |nil=>
  intro vs w
  rw[xP_]at w
  cases w
  exact .nil
 |cons n ns ih=>
  intro vs w
  rw[j1_]at w
  cases w with
  |cons a b=>
   cases a
   exact .cons _ _ (ih _ b)
theorem Xv {l:OpenLaw}{n:Nat}(hn:l.most=some n){P:Params}{h:Heap}{args:List WData}{iB:List Value}
  (gg:l.row.toRowW.claim.pre args=true) (cK:WellAll P h iB args):
  ∃a vs ns,iB=[Value.ref a]/\args=[WData.list (ns.map WData.int)]/\h.get? a=some {cls:=.type "list",data:=.seq vs.toArray}/\IntsAre vs ns/\ns.length<=n:=by
 have hsh:WShape.hasAll [] args [.list .int]=true:=(pre_splitW gg).1
 have hc:l.pre.holds [] {args:=args}=true:=(pre_splitW gg).2
 obtain⟨d,r,rfl,h1,h2⟩:=hasAllW_cons hsh
 obtain rfl:=hasAllW_nil h2
 obtain⟨xs,rfl,h3⟩:=hasW_list h1
 obtain⟨ns,rfl⟩:=items_int h3
 have ak:ns.length<=n:=by
  unfold OpenLaw.pre at hc
  have h4:(WTm.not (.lt (.lit (.int (n:Int))) (.len (.arg 0)))).holds [] {args:=[.list (ns.map .int)]}=true:=by
   have h4:=(holds_andW hc).1
   rw[hn]at h4
   exact h4
  have h5:=condW_of h4 (w_not (w_lt w_lit (w_len_list (w_arg rfl))))
  rw[ja_]at h5
  refine Nat.le_of_not_lt fun q=>?_
  have q':(n:Int)<((ns.length:Nat):Int):=by lia
  first
   | (rw[qg_ q']at h5;exact absurd h5 (by decide))
   | (simp at h5;lia)
 cases cK with
 |cons w1 w2=>
  cases w2
  cases w1 with
  |list ho az=>exact⟨_,_,ns,rfl,rfl,ho,LD ns _ az,ak⟩
theorem Xw (l:OpenLaw)(args:List WData):l.row.toRowW.claim.post args (.bool true) args=true:=
 postW_of (r:=l.row.toRowW) (X:=(true==true))
  (show WShape.has [] (.bool true) .bool=true by first|rfl|decide|simp[WShape.has,WShape.arms,WShape.armsAll])
  (show (WTm.eq .res (.lit (.bool true))).value [] {args:=args,res:=some (.bool true),after:=args}=some (.bool (true==true)) from w_eq_bool (w_res rfl) w_lit) rfl
theorem attach_call {l:OpenLaw}{n:Nat}{q:Program}{cb:List Str}{XP:(Str->α5)->Heap->Prop}{YP:World->Heap->Prop}{d:DefRec}
  (hn:l.most=some n) (kf:d.params.defaults=[])
  (call:∀(w:World) (s₀ s₁:Shared) (mg mb:Str->α5) (fa:Addr) (o:Obj) (pm cd bA:Value) (a:Addr) (vs:List Value) (ns:α2),
   Ground q cb [] XP w s₀ mg mb s₁.heap->YP w s₁.heap ->
   s₁.heap.get? fa=some o->o.data=.func (docDef d.name d.params d.body d.scope pm cd bA)->s₁.heap.CodeRec cd d.name->mg d.name=some (.ref fa) ->
   s₁.heap.get? a=some {cls:=.type "list",data:=.seq vs.toArray}->IntsAre vs ns->ns.length<=n->s₁.gens = #[] ->
   codeAny (model l.prog w) callerA (.call (.ref fa) ⟨[.ref a],[]⟩) (fun r s'=>r=.ok (.ret (.bool true))/\OldK s₁.heap s'.heap/\s'.os=s₁.os/\AllBare s'.gens) s₁):
  WalkO q cb XP YP l.row.toRowW d [] (fun f vs=>PySem.call f vs):=by
 intro w s₀ s₁ mg mb G Y fa o pm cd bA dV kV ho hd bE hD hmg hg args iB as gg hlay hrd cK mH
 obtain rfl:dV=.none:=Dflts.none hD kf
 obtain rfl:kV=.none:=Dflts.noKw hD
 obtain⟨a,vs,ns,rfl,rfl,br,fj,ak⟩:=Xv hn gg cK
 refine enter_call (codeAny_mono (call w s₀ s₁ mg mb fa o pm cd bA a vs ns G Y ho (fd_plain hd) bE hmg br fj ak hg) fun r s' hq=>?_)
 obtain⟨rfl,h2,h3,h4⟩:=hq
 exact⟨.inl ⟨.bool true,.bool true,[],rfl,fun _=>rfl,.bool true,Xw l _,fun _=>⟨List.Pairwise.nil,fun _ hm=>(nomatch hm)⟩⟩,h2,h3,h4⟩
end Att
namespace L2
open PySem PySem.Spec PyProof.Rows
theorem Q2:∀{vs:List Value} {ns:α2},IntsAre vs ns->Vals (ns.map V.int) vs
 |_,_,.nil=>.nil
 |_,_,.cons n t h=>.cons ⟨t,rfl⟩ (Q2 h)
noncomputable def Az (s:Stmt):Arguments:=match s with
 |.FunctionDef _ a _ _ _ _ _ _ _ _=>a
 |_=>{posonlyargs:=[],args:=[],vararg:=none,kwonlyargs:=[],kw_defaults:=[],kwarg:=none,defaults:=[]}
noncomputable def Ax (s:Stmt):List Stmt:=match s with
 |.FunctionDef _ _ b _ _ _ _ _ _ _=>b
 |_=>[]
noncomputable def Af (s:Stmt):Scope:=match s with
 |.FunctionDef _ _ _ _ _ _ sc _ _ _=>sc
 |_=>{kind:=.function,names:=[],isGenerator:=false,isCoroutine:=false}
noncomputable abbrev CX0:CXT:=fun _ _ _ _ _ _=>False
noncomputable abbrev E0:XK:=fun _ _ _=>False
theorem A3  : Xj CX0 X E0:=fun _ _ _ _ _ _ _ h=>h.elim
structure Fun (K:α3)(x qual:Str)(st:Stmt)(f:Addr)(fd:α6):Prop where
 ex:∃(oc:Value) (od:Option Addr) (kV bA pm:Value) (an:Option Addr) (ay ct:Value) (fb:Array (α5)),
  fd=fnOf x qual (Az st) (Ax st) (Af st) .none kV bA pm an ay ct/\K.lookup f=some ⟨oc,od,.func fd,fb⟩/\codeIn K ay qual=true
 kp:keepIn K (.ref f)=true
section
variable {P:Program} {w:World} {K:α3} {mg:Str->α5} {base:Heap}
theorem Fun.ok  {st:Stmt}      (F:Fun K x qual st f fd)(S:FnScope N ps (Af st))(len:∀vs H Q E,sp vs H Q E->vs.length=ps.length)
  (cP:∀(ay:Value) (A:Around) (outer:List Env) (s:Shared) (H:Hp) (vs:List V) (Q:VK) (E:XK),Room k (A.deeper (envOfC qual (Af st) s.heap.objs.size f ay))->sp vs H Q E ->
   ∃t,PSs (cxOf CX0 P w K mg base N qual (Af st) f ay A outer s H E).nox (Ax st) t/\t {nx:=fun _ H'=>Q .non H',rt:=Q} (start N vs) H):FnOk P w K mg base CX0 (k+1) f fd ps sp:=by
 obtain⟨oc,od,kV,bA,pm,an,ay,ct,fb,rfl,lk,bE⟩:=F.ex
 refine DE_ lk bE S len fun A outer s H vs Q E hr dY=>?_
 obtain⟨t,h,q⟩:=cP ay A outer s H vs Q E hr dY
 exact⟨t,h.nox,q⟩
theorem Fun.binds  {st:Stmt}    (F:Fun K x qual st f fd)
  (h:∀(kV bA pm:Value) (an:Option Addr) (ay ct:Value) (us:List Value),us.length=ps.length->bindArgs (fnOf x qual (Az st) (Ax st) (Af st) .none kV bA pm an ay ct) ⟨us,[]⟩=pure (ps.zip us)):A7 K fd ps []:=by
 obtain⟨oc,od,kV,bA,pm,an,ay,ct,fb,rfl,lk,bE⟩:=F.ex
 exact .all (h kV bA pm an ay ct)
theorem A8  {st:Stmt}     {kV bA pm ay ct:Value}(l:K.lookup f=some ⟨oc,od,.func (fnOf x qual (Az st) (Ax st) (Af st) .none kV bA pm an ay ct),fb⟩)
  (c:codeIn K ay qual=true) (k:keepIn K (.ref f)=true):Fun K x qual st f (fnOf x qual (Az st) (Ax st) (Af st) .none kV bA pm an ay ct):=⟨⟨oc,od,kV,bA,pm,an,ay,ct,fb,rfl,l,c⟩,k⟩
end
theorem Q3   (hr:Room k A):A.units+1<cLine:=zN_ (Nat.add_le_add_left (by decide:1<=64) _) hr.units
section
variable {X:Cx}
theorem pv (i:Nat)   (hN:X.N[i]?=some x:=by rfl)(hv:Vis X.env.scope x:=by first|exact Or.inl rfl|exact Or.inr (Or.inl rfl)|exact Or.inr (Or.inr rfl))(hd:(x==("__debug__" : Str))=false:=by decide)
  (bE:(x==("__classdict__" : Str))=false:=by decide):PE X (.Name x pos) (tVar i):=Dl_ hN hv hd bE
end
theorem ite2 {c A B:Prop}[Decidable c](h1:c->A)(h2:¬ c->B):if c then A else B:=by
 by_cases h:c
 ·rw[if_pos h]
  exact h1 h
 ·rw[if_neg h]
  exact h2 h
noncomputable def Same (H H':Hp):Prop:=∀b o,H b=some o->H' b=some o
theorem Same.refl (H:Hp):Same H H:=fun _ _ h=>h
theorem Same.trans {H H1 H2:Hp}(a:Same H H1)(b:Same H1 H2):Same H H2:=fun c o h=>b c o (a c o h)
theorem Same.free  (e:Same H H')  (h:H' l=Option.none):H l=Option.none:=by
 cases q:H l with
 |none=>rfl
 |some o=>
  rw[e l o q]at h
  cases h
theorem Same.seq {K:α3}    (e:Same H H')(h:SqL K H a xs):SqL K H' a xs:=by
 rcases h with (h|⟨o,h⟩)|h
 ·exact .inl (.inl (e _ _ h))
 ·exact .inl (.inr ⟨o,e _ _ h⟩)
 ·exact .inr h
end L2
set_option maxHeartbeats 4000000
namespace L2
open PySem PySem.Spec PyProof.Rows
section
variable {κ:Type} [DecidableEq κ]
noncomputable def valV (kvs:List (κ×V))(k:κ):Option V:=(kvs.find? fun kv=>decide (kv.1=k)).map (·.2)
noncomputable def putK (kvs:List (κ×V))(k:κ)(v:V):List (κ×V):=
 if (kvs.any fun kv=>decide (kv.1=k))=true then kvs.map (fun kv=>if kv.1=k then (kv.1,v) else kv) else kvs++[(k,v)]
theorem Lj {p:κ×V}{r:List (κ×V)}{k:κ}(e:p.1=k):valV (p::r) k=some p.2:=by simp[valV,xR_,e]
theorem Lk {p:κ×V}{r:List (κ×V)}{k:κ}(e:¬ p.1=k):valV (p::r) k=valV r k:=by simp[valV,xR_,e]
theorem FC (k:κ):∀kvs:List (κ×V),(kvs.any fun kv=>decide (kv.1=k))=(valV kvs k).isSome
 |[]=>rfl
 |p::r=>by
  rw[zA_]
  by_cases e:p.1=k
  ·simp only[Lj e,qg_ e,Bool.true_or,za_]
  ·rw[Lk e,qc_ e,Bool.false_or];exact FC k r
theorem FD (kvs:List (κ×V))(k:κ)(v:V):(putK kvs k v).length<=kvs.length+1:=by
 unfold putK
 split
 ·rw[ja_];lia
 ·rw[jo_,jV_,qt_];lia
theorem Zm {kvs:List (κ×V)}{k:κ}(v:V)(h:valV kvs k=none):putK kvs k v=kvs++[(k,v)]:=by
 unfold putK
 rw[FC,h]
 exact if_neg (by decide)
theorem RelO.isSome_eq   (r:RelO o u):o.isSome=u.isSome:=by
 cases o with
 |none=>cases u with
  |none=>rfl
  |some _=>exact (show False from r).elim
 |some _=>cases u with
  |none=>exact (show False from r).elim
  |some _=>rfl
theorem RelO.getD     (r:RelO o u)(rd:RelV d d'):RelV (o.getD d) (u.getD d'):=by
 cases o with
 |none=>cases u with
  |none=>exact rd
  |some _=>exact (show False from r).elim
 |some _=>cases u with
  |none=>exact (show False from r).elim
  |some _=>exact r
theorem KV.val   (r:KV kvs vs)(k:κ):RelO (valV kvs k) (valueAt vs k):=by
 unfold KV at r
 induction r with
 |nil=>exact True.intro
 |@cons p q ps qs h t ih=>
  obtain⟨h1,h2⟩:=h
  by_cases e:p.1=k
  ·have e':q.1=k:=h1.symm.trans e
   have b:valueAt (q::qs) k=some q.2:=by simp[valueAt,xR_,e']
   rw[Lj e,b];exact h2
  ·have e':¬ q.1=k:=fun z=>e (h1.trans z)
   have b:valueAt (q::qs) k=valueAt qs k:=by simp[valueAt,xR_,e']
   rw[Lk e,b];exact ih
theorem KV.any   (r:KV kvs vs)(k:κ):(kvs.any fun kv=>decide (kv.1=k))=vs.any fun kv=>decide (kv.1=k):=by
 unfold KV at r
 induction r with
 |nil=>rfl
 |cons h t ih=>rw[zA_,zA_,ih,h.1]
theorem KV.repl   (r:KV kvs vs)(k:κ)   (ry:RelV y u):
  KV (kvs.map fun kv=>if kv.1=k then (kv.1,y) else kv) (vs.map fun kv=>if kv.1=k then (kv.1,u) else kv):=by
 unfold KV at r ⊢
 induction r with
 |nil=>exact .nil
 |@cons p q ps qs h t ih=>
  rw[j1_,j1_]
  refine .cons ?_ ih
  obtain⟨h1,h2⟩:=h
  by_cases e:p.1=k
  ·rw[if_pos e,if_pos (h1.symm.trans e)];exact⟨h1,ry⟩
  ·rw[if_neg e,if_neg (fun z=>e (h1.trans z))];exact⟨h1,h2⟩
theorem KV.put   (r:KV kvs vs)(k:κ)   (ry:RelV y u):KV (putK kvs k y) (stored vs k u):=by
 unfold putK stored
 rw[r.any k]
 by_cases e:(vs.any fun kv=>decide (kv.1=k))=true
 ·rw[if_pos e,if_pos e];exact r.repl k ry
 ·rw[if_neg e,if_neg e];exact Paired.snoc r ⟨rfl,ry⟩
theorem KV.keys {kvs:List (κ×V)}{vs:List (κ×Value)}(r:KV kvs vs):kvs.map (·.1)=vs.map (·.1):=by
 unfold KV at r
 induction r with
 |nil=>rfl
 |cons h t ih=>rw[j1_,j1_,ih,h.1]
theorem KV.length {kvs:List (κ×V)}{vs:List (κ×Value)}(r:KV kvs vs):kvs.length=vs.length:=Paired.length r
end
theorem SS     (r:RelV (kV k) u):(B1 P w).is k u=true:=by
 cases k with
 |inl i=>obtain⟨t,e⟩:=(show ∃t,u=Value.int i t from r);subst e;exact SI P w i t
 |inr x=>obtain⟨t,e⟩:=(show ∃t,u=Value.str x t from r);subst e;exact SJ P w x t
theorem Q4 {P:Program}{w:World}:∀{ks:List Key} {us:List Value},Vals (ks.map kV) us->ItemsAre (B1 P w) ks us
 |[],_,r=>by rw[xP_]at r;cases r;exact .nil
 |k::ks,_,r=>by
  rw[j1_]at r
  cases r with
  |cons h t=>exact .cons (SS h) (Q4 t)
noncomputable abbrev KT (H:Hp):List (List Key×V)->List (List Key×Addr×Value)->Prop:=Paired fun p q=>p.1=q.1/\H q.2.1=some (.tup (p.1.map kV))/\RelV p.2 q.2.2
theorem KT.val    (r:KT H kvs xs)(k:List Key):RelO (valV kvs k) ((atKey xs k).map (·.2)):=by
 induction r with
 |nil=>exact True.intro
 |@cons p q ps qs h t ih=>
  obtain⟨h1,_,h2⟩:=h
  by_cases e:p.1=k
  ·have e':q.1=k:=h1.symm.trans e
   have b:atKey (q::qs) k=some q.2:=by simp[atKey,xR_,e']
   rw[Lj e,b];exact h2
  ·have e':¬ q.1=k:=fun z=>e (h1.trans z)
   have b:atKey (q::qs) k=atKey qs k:=by simp[atKey,xR_,e']
   rw[Lk e,b];exact ih
theorem KT.repl    (r:KT H kvs xs)(k:List Key)   (ry:RelV y u):
  KT H (kvs.map fun kv=>if kv.1=k then (kv.1,y) else kv) (xs.map (putAt k u)):=by
 induction r with
 |nil=>exact .nil
 |@cons p q ps qs h t ih=>
  rw[j1_,j1_]
  refine .cons ?_ ih
  obtain⟨h1,h2,h3⟩:=h
  unfold putAt
  by_cases e:p.1=k
  ·rw[if_pos e,if_pos (h1.symm.trans e)];exact⟨h1,h2,ry⟩
  ·rw[if_neg e,if_neg (fun z=>e (h1.trans z))];exact⟨h1,h2,h3⟩
theorem KT.put    (r:KT H kvs xs)(k:List Key)    (hb:H b=some (.tup (k.map kV)))(ry:RelV y u):
  KT H (putK kvs k y) (storedH xs k b u):=by
 have e:(kvs.any fun kv=>decide (kv.1=k))=(atKey xs k).isSome:=by
  rw[FC,(r.val k).isSome_eq,Option.isSome_map]
 unfold putK storedH
 rw[e]
 by_cases q:(atKey xs k).isSome=true
 ·rw[if_pos q,if_pos q];exact r.repl k ry
 ·rw[if_neg q,if_neg q];exact Paired.snoc r ⟨rfl,hb,ry⟩
theorem KT.keeps    (r:KT H kvs xs)(ht:∀b ys,H b=some (.tup ys)->H' b=some (.tup ys)):KT H' kvs xs:=
 Paired.mapP r fun _ _ z=>⟨z.1,ht _ _ z.2.1,z.2.2⟩
section
variable {P:Program} {w:World} {H:Hp} {h:Heap} {a:Addr}
theorem Ck_  (ok:HOk P w H h)(e:Rd H a u):Cc P w H h a u:=e.ok ok
theorem SU  (ok:HOk P w H h)(e:Rd H a (.dK kvs)):kvs.length<=sizeLine/\(a==sysModules)=false/\∃vs,KV kvs vs/\h.DictOf (B1 P w) a vs:=
 show Cc P w H h a (.dK kvs) from Ck_ ok e
theorem Zn  (ok:HOk P w H h)(e:H a=some (.dK kvs)):kvs.length<=sizeLine/\(a==sysModules)=false/\∃vs,KV kvs vs/\h.DictOf (B1 P w) a vs:=SU ok (.inl e)
theorem Q5  (ok:HOk P w H h)(e:H a=some (.tup (ks.map kV))):(tupleKind (B1 P w)).is h ks a:=by
 obtain⟨_,its,r,o,h1,h2,n,h3⟩:=(show Cc P w H h a (.tup (ks.map kV)) from ok a _ e)
 exact⟨o,its.toArray,n,h1,h2,h3,by simpa using Q4 r⟩
theorem VH  (ok:HOk P w H h)(e:Rd H a (.dT kvs)):kvs.length<=sizeLine/\(a==sysModules)=false /\
  ∃xs,KT H kvs xs/\h.DictOfH (tupleKind (B1 P w)) a xs:=by
 obtain⟨z,y,xs,r,o,es,ep,h1,h2,h3,h4,h5⟩:=(show Cc P w H h a (.dT kvs) from Ck_ ok e)
 refine⟨z,y,xs,r,o,es,ep,h1,h2,h3,h4,fun x hx=>?_,h5⟩
 have all:∀{l:List (List Key×V)} {m:List (List Key×Addr×Value)},KT H l m->∀x∈m,(tupleKind (B1 P w)).is h x.1 x.2.1:=by
  intro l m q
  induction q with
  |nil=>intro x hx;exact nomatch hx
  |@cons p q ps qs hq t ih=>
   intro x hx
   rcases jL_.mp hx with e|hx
   ·subst e
    exact Q5 ok (by rw[<-hq.1];exact hq.2.1)
   ·exact ih x hx
 exact all r x hx
theorem DM_  (ok:HOk P w H h)(e:H a=some (.dT kvs)):kvs.length<=sizeLine/\(a==sysModules)=false /\
  ∃xs,KT H kvs xs/\h.DictOfH (tupleKind (B1 P w)) a xs:=VH ok (.inl e)
end
noncomputable def DGet (H:Hp)(a:Addr)(y:V)(r:Option V):Prop:=
 (∃kvs k,Rd H a (.dK kvs)/\y=kV k/\r=valV kvs k) \/ ∃kvs k b,Rd H a (.dT kvs)/\y=.ref b/\H b=some (.tup (k.map kV))/\r=valV kvs k
noncomputable def DPut (H:Hp)(a:Addr)(y v:V)(H':Hp):Prop:=
 (∃kvs k,H a=some (.dK kvs)/\y=kV k/\kvs.length<sizeLine/\H'=upd H a (.dK (putK kvs k v))) \/
 ∃kvs k b,H a=some (.dT kvs)/\y=.ref b/\H b=some (.tup (k.map kV))/\kvs.length<sizeLine/\H'=upd H a (.dT (putK kvs k v))
theorem DGet.k {H:Hp}{a:Addr}{kvs:List (Key×V)}{k:Key}(e:H a=some (.dK kvs)):DGet H a (kV k) (valV kvs k):=.inl ⟨kvs,k,.inl e,rfl,rfl⟩
theorem DGet.t {H:Hp}{a b:Addr}{kvs:List (List Key×V)}{k:List Key}(e:H a=some (.dT kvs))(eb:H b=some (.tup (k.map kV))):DGet H a (.ref b) (valV kvs k):=.inr ⟨kvs,k,b,.inl e,rfl,eb,rfl⟩
theorem DPut.k {H:Hp}{a:Addr}{kvs:List (Key×V)}{k:Key}{v:V}(e:H a=some (.dK kvs))(hl:kvs.length<sizeLine):DPut H a (kV k) v (upd H a (.dK (putK kvs k v))):=.inl ⟨kvs,k,e,rfl,hl,rfl⟩
theorem DPut.t {H:Hp}{a b:Addr}{kvs:List (List Key×V)}{k:List Key}{v:V}(e:H a=some (.dT kvs))(eb:H b=some (.tup (k.map kV)))(hl:kvs.length<sizeLine):
  DPut H a (.ref b) v (upd H a (.dT (putK kvs k v))):=.inr ⟨kvs,k,b,e,rfl,eb,hl,rfl⟩
section
variable {X:Cx} {af:α7} {σ:St} {H:Hp} {s:Shared} {a:Addr} {y v:V} {u r:Value} {o:Option V} {A:Around} {E:Value->Shared->Prop}
theorem Inv.big (I:Inv X af σ H s):sysModules<s.heap.objs.size:=by
 have h:mainGlobals<s.heap.objs.size:=(I.mod.glob.keeps I.bk).lt
 exact Nat.lt_trans (by decide) h
theorem Xx  (hu:A.units+1<cLine)(I:Inv X af σ H s)(g:DGet H a y (some v))(ry:RelV y u)(h:∀w' s',Inv X af σ H s'->RelV v w'->Q w' s'):
  wpAny (model X.prog X.w) A (getItem (.ref a) u) Q E s:=by
 rcases g with ⟨kvs,k,e,ey,l⟩|⟨kvs,k,b,e,ey,eb,l⟩
 ·subst ey
  obtain⟨z,hd,vs,a8,dd⟩:=SU I.hok e
  obtain⟨w',hw,d0⟩:=RelO.some_of (v:=v) (o:=valueAt vs k) (by rw[l];exact a8.val k)
  exact wpAny_getItem_of (SS ry) dd.mapOf hw (h w' _ (I.tok _) d0)
 ·subst ey
  cases (show u=Value.ref b from ry)
  obtain⟨z,hd,xs,a8,dd⟩:=VH I.hok e
  obtain⟨w',hw,d0⟩:=RelO.some_of (v:=v) (o:=(atKey xs k).map (·.2)) (by rw[l];exact a8.val k)
  obtain⟨p,hp,aU⟩:=Option.map_eq_some_iff.mp hw
  refine wpAny_getItem_heap (zb_ hu) (Q5 I.hok eb) dd hp ?_
  rw[aU]
  exact h w' _ (I.tok _) d0
theorem Cl_  (hu:A.units+1<cLine)(I:Inv X af σ H s)(g:DGet H a y o)(ry:RelV y u)(h:∀s',Inv X af σ H s'->Q (.bool (!o.isSome)) s'):
  wpAny (model X.prog X.w) A (compareOp .NotIn u (.ref a)) Q E s:=by
 rcases g with ⟨kvs,k,e,ey,l⟩|⟨kvs,k,b,e,ey,eb,l⟩
 ·subst ey
  obtain⟨z,hd,vs,a8,dd⟩:=SU I.hok e
  refine wpAny_notIn_of (SS ry) hd dd.mapOf ?_
  rw[<-(a8.val k).isSome_eq,<-l]
  exact h _ (I.tok _)
 ·subst ey
  cases (show u=Value.ref b from ry)
  obtain⟨z,hd,xs,a8,dd⟩:=VH I.hok e
  refine wpAny_notIn_heap (zb_ hu) (Q5 I.hok eb) hd dd ?_
  have q:=(a8.val k).isSome_eq
  rw[Option.isSome_map]at q
  rw[<-q,<-l]
  exact h _ (I.tok _)
theorem O5    (I:Inv X af σ H s)(mu:Mut (H a))(hs:Heap.SameBut a s.heap h')(he:∃q,h'.get? a=some q)(new:Cc X.prog X.w (upd H a ob) h' a ob):
  Inv X af σ (upd H a ob) {s with heap:=h',toks:=t' }:=
 I.write (x:=a) (e:=a) mu (.inl rfl) (fun b q hb z=>(hs.2 b hb).trans z) he new
theorem Xy       (z:kvs.length<=sizeLine)(hd:(a==sysModules)=false)(a8:KV kvs vs)(dd:h'.DictOf (B1 P w) a vs):
  Cc P w H' h' a (.dK kvs):=⟨z,hd,vs,a8,dd⟩
theorem Xz   (hu:A.units+1<cLine)(I:Inv X af σ H s)(g:DPut H a y v H')(ry:RelV y u)(rv:RelV v r)(h:∀s',Inv X af σ H' s'->Q () s'):
  wpAny (model X.prog X.w) A (setItem (.ref a) u r) Q E s:=by
 rcases g with ⟨kvs,k,e,ey,l,eH⟩|⟨kvs,k,b,e,ey,eb,l,eH⟩
 ·subst ey eH
  obtain⟨z,hd,vs,a8,dd⟩:=Zn I.hok e
  have hz:vs.length<=sizeLine:=by rw[<-a8.length];exact z
  have hl:(putK kvs k v).length<=sizeLine:=by have:=FD kvs k v;lia
  refine wpAny_setItem_pairs (hsz:=hz) (SS ry) dd fun h' fU hs=>h _ ?_
  have he:∃q,h'.get? a=some q:=let ⟨q,_,_,hq,_⟩:=fU;⟨q,hq⟩
  exact O5 I (by rw[e];exact True.intro) hs he (Xy hl hd (a8.put k rv) fU)
 ·subst ey eH
  cases (show u=Value.ref b from ry)
  obtain⟨z,hd,xs,a8,dd⟩:=DM_ I.hok e
  have hz:xs.length<=sizeLine:=by rw[<-Paired.length a8];exact z
  have hl:(putK kvs k v).length<=sizeLine:=by have:=FD kvs k v;lia
  refine wpAny_setItem_heap (hsz:=hz) (zb_ hu) (Q5 I.hok eb) dd fun h' fU hs=>h _ ?_
  obtain⟨q,es,ep,hq,h2,h3,h4,_,h5⟩:=fU
  refine O5 I (by rw[e];exact True.intro) hs ⟨q,hq⟩ ⟨hl,hd,_,(a8.put k eb rv).keeps fun c ys ec=>?_,q,es,ep,hq,h2,h3,h4,h5⟩
  rw[Ai (Fg_ ec e (fun z=>nomatch z))]
  exact ec
end
section
variable {X:Cx} {af:α7} {σ:St} {H:Hp} {s:Shared} {a:Addr} {kvs:List (Key×V)} {k:Key} {u:Value} {A:Around} {E:Value->Shared->Prop}
theorem Fj_  (I:Inv X af σ H s)(e:Rd H a (.dK kvs))(h:∀t s',Inv X af σ H s'->Q (.int kvs.length t) s'):wpAny (model X.prog X.w) A (call (.builtin "len") [.ref a]) Q E s:=by
 obtain⟨z,hd,vs,a8,dd⟩:=SU I.hok e
 refine call_len_dict hd dd (by rw[<-a8.length];rw[sizeLine_eq]at z;lia) ?_
 rw[<-a8.length]
 exact h _ _ (I.tok _)
end
noncomputable def NoSl (i:Expr):Prop:=∀ov iv,subscripted i false ov iv=operate [ov,iv] (getItem ov iv)
theorem Cm_         {T id:String}
  (hl:typeLookup (.type T) "__getitem__"=pure (some (.builtin id))) (hs:NoSl aW)
  (h:wpAny (model prog w) A (eval value env) (fun o s₁=>wpAny (model prog w) A (eval aW env) (fun i bg=>bg.TypeIs o T/\wpAny (model prog w) A (getItem o i) Q E bg) E s₁) E s):
  wpAny (model prog w) A (eval (.Subscript value aW pos) env) Q E s:=by
 refine Subscript_ (qM_ h (fun o s₁ h₁=>qM_ h₁ (fun i bg cq=>?_) fun _ _ x=>x) fun _ _ x=>x)
 obtain⟨hT,cq⟩:=cq
 unfold subscriptTail
 refine je_ ?_
 rw[getitemInPython_of_ne hT.not_modules]
 refine je_ (wpAny_specialOf hT hl ?_)
 have fin:wpAny (model prog w) A (subscripted aW false o i) (fun r a7=>wpAny (model prog w) A (letTemporaryGo value o r >>= fun _=>pure r) Q E a7) E bg:=by
  rw[hs o i]
  exact wpAny_operating (qM_ cq (fun r a7 h₃=>je_ (wpAny_letTemporaryGo (ju_ h₃))) fun _ _ x=>x)
 first
  | exact ju_ (je_ fin)
  | exact je_ (ju_ (je_ fin))
  | exact je_ fin
theorem SV         (I:Inv X af σ H s)(g:DGet H a y o):s.TypeIs (.ref a) "dict" := by
 rcases g with ⟨kvs,k,e,_,_⟩|⟨kvs,k,b,e,_,_,_⟩
 ·obtain⟨_,_,vs,_,dd⟩:=SU I.hok e
  exact dd.typeIs
 ·obtain⟨_,_,xs,_,dd⟩:=VH I.hok e
  exact dd.typeIs
noncomputable def DN_ (td ty:TE):TE:=fun σ H Q=>td σ H fun x H1=>ty σ H1 fun y H2=>∃a v,x=.ref a/\DGet H2 a y (some v)/\Q v H2
noncomputable def XA (ty td:TE):TE:=fun σ H Q=>ty σ H fun y H1=>td σ H1 fun x H2=>∃a o,x=.ref a/\DGet H2 a y o/\Q (.bl (!o.isSome)) H2
noncomputable def DO_ (td ty tv:TE):TS:=fun D σ H=>tv σ H fun v H1=>td σ H1 fun x H2=>ty σ H2 fun y H3=>∃a H4,x=.ref a/\DPut H3 a y v H4/\D.nx σ H4
section
variable {X:Cx} {o i e value:Expr} {pos bU iC:Pos} {td ty tv:TE}
theorem XB (hu:X.A.units+1<cLine)(ho:PE X o td)(hi:PE X i ty)(hs:NoSl i):PE X (.Subscript o i pos) (DN_ td ty):=by
 intro af s σ H Q I h
 refine Cm_ PySem.F.slot_dict_getitem.lookup hs (thn (ho af s σ H _ I h) fun u s1 ⟨x,H1,I1,rx,q1⟩=>thn (hi af s1 σ H1 _ I1 q1) fun iv s2 ⟨y,H2,I2,ry,a,v,ex,g,q2⟩=>?_)
 subst ex
 obtain rfl:u=Value.ref a:=rx
 exact⟨SV I2 g,Xx hu I2 g ry fun w' s3 I3 d0=>⟨v,H2,I3,d0,q2⟩⟩
theorem Q6 (hu:X.A.units+1<cLine)(hi:PE X i ty)(ho:PE X o td):PC X .NotIn i o (XA ty td):=by
 intro af s σ H Q I h
 refine thn (hi af s σ H _ I h) fun iv s1 ⟨y,H1,I1,ry,q1⟩=>thn (ho af s1 σ H1 _ I1 q1) fun u s2 ⟨x,H2,I2,rx,a,ov,ex,g,q2⟩=>?_
 subst ex
 obtain rfl:u=Value.ref a:=rx
 exact Cl_ hu I2 g ry fun s3 I3=>⟨.bl (!ov.isSome),H2,I3,rfl,q2⟩
theorem SW (hu:X.A.units+1<cLine)(ho:PE X o td)(hi:PE X i ty)(hv:PE X value tv)(hs:swapsWith value (some (.Subscript o i bU)) pos.line X.env=pure false):
  PS X (.Assign [.Subscript o i bU] value pos) (DO_ td ty tv):=by
 intro af s σ H D I h
 refine wpAny_Assign_Subscript (thn (hv af s σ H _ I h) fun r s1 ⟨v,H1,I1,rv,q1⟩=>thn (ho af s1 σ H1 _ I1 q1) fun u s2 ⟨x,H2,I2,rx,q2⟩=>thn (hi af s2 σ H2 _ I2 q2) fun iv s3 ⟨y,H3,I3,ry,a,H4,ex,g,q3⟩=>?_) hs
 subst ex
 obtain rfl:u=Value.ref a:=rx
 exact Xz hu I3 g ry rv fun s4 I4=>⟨σ,H4,I4,q3⟩
end
theorem UH    (h:Heap)(hb:sysModules<h.objs.size):Cc P w H (h.push {cls:=.type "dict",data:=.dict #[]}) h.objs.size (.dK []):=
 ⟨jX_ _,zC_.mpr (qx_ (jK_ hb)),[],.nil,Heap.DictOf.new h⟩
theorem Zo    (h:Heap)(hb:sysModules<h.objs.size):Cc P w H (h.push {cls:=.type "dict",data:=.dict #[]}) h.objs.size (.dT []):=
 ⟨jX_ _,zC_.mpr (qx_ (jK_ hb)),[],.nil,_,#[],0,jC_ _ rfl,⟨rfl,rfl,rfl⟩,rfl,rfl,List.nodup_nil⟩
noncomputable def XC:TE:=fun _ H Q=>∀p,H p=none->Q (.ref p) (upd H p (.dK []))
noncomputable def XD:TE:=fun _ H Q=>∀p,H p=none->Q (.ref p) (upd H p (.dT []))
section
variable {X:Cx} {pos:Pos}
theorem UI:PE X (.Dict [] [] pos) XC:=fun af s σ H Q I h=>
 wpAny_Dict_empty ⟨.ref s.heap.objs.size,_,I.laid (a:=s.heap.objs.size) (o:=.dK []) (t':=s.toks) (fun _ _ q=>jm_ _ q) (jg_ _) (UH s.heap I.big),rfl,h _ (I.hok.fresh (jg_ _))⟩
theorem UJ:PE X (.Dict [] [] pos) XD:=fun af s σ H Q I h=>
 wpAny_Dict_empty ⟨.ref s.heap.objs.size,_,I.laid (a:=s.heap.objs.size) (o:=.dT []) (t':=s.toks) (fun _ _ q=>jm_ _ q) (jg_ _) (Zo s.heap I.big),rfl,h _ (I.hok.fresh (jg_ _))⟩
end
noncomputable def LF:List (TE×TE)->St->Hp->(List (V×V)->Hp->Prop)->Prop
 |[],_,H,Q=>Q [] H
 | (tk,tv)::r,σ,H,Q=>tk σ H fun x H1=>tv σ H1 fun y H2=>LF r σ H2 fun ps H3=>Q ((x,y)::ps) H3
noncomputable abbrev VV:List (V×V)->List (Value×Value)->Prop:=Paired fun p q=>RelV p.1 q.1/\RelV p.2 q.2
noncomputable def PPs (X:Cx)(pos:Pos)(keys:List (Option Expr))(cu:List Expr)(aB:List (TE×TE)):Prop:=
 ∀(af:α7) (s:Shared) (σ:St) (H:Hp) (Q:List (V×V)->Hp->Prop),Inv X af σ H s->LF aB σ H Q ->
  wpAny (model X.prog X.w) X.A (evalPairs (pairTrees keys cu X.env pos)) (fun vs s'=>∃ps H',Inv X af σ H' s'/\VV ps vs/\Q ps H') X.xe s
theorem Cn_   : PPs X pos [] [] []:=fun af s σ H Q I h=>pairTrees_nil_walk ⟨[],H,I,.nil,h⟩
theorem Zp        (hk:PE X k tk)(hv:PE X v tv)(hr:PPs X pos ks vs aB):
  PPs X pos (some k::ks) (v::vs) ((tk,tv)::aB):=fun af s σ H Q I h=>
 pairTrees_cons_walk (thn (hk af s σ H _ I h) fun u s1 ⟨x,H1,I1,rx,q1⟩=>thn (hv af s1 σ H1 _ I1 q1) fun w2 s2 ⟨y,H2,I2,ry,q2⟩ =>
  thn (hr af s2 σ H2 _ I2 q2) fun ws s3 ⟨ps,H3,I3,a8,q3⟩=>⟨(x,y)::ps,H3,I3,.cons ⟨rx,ry⟩ a8,q3⟩)
noncomputable def J9 (kvs more:List (Key×V)):List (Key×V):=more.foldl (fun ai kv=>putK ai kv.1 kv.2) kvs
theorem KV.merge:∀{more:List (Key×V)} {rs:List (Key×Value)} {kvs:List (Key×V)} {vs:List (Key×Value)},KV more rs->KV kvs vs->KV (J9 kvs more) (merged vs rs):=by
 intro more rs kvs vs r
 unfold KV at r
 induction r generalizing kvs vs with
 |nil=>intro q;exact q
 |@cons p q ps qs h t ih=>
  intro r0
  have e:KV (putK kvs p.1 p.2) (stored vs q.1 q.2):=by
   have:=r0.put p.1 h.2
   rw[<-h.1];exact this
  exact ih e
theorem IH:∀(more kvs:List (Key×V)),(J9 kvs more).length<=kvs.length+more.length
 |[],kvs=>by show kvs.length<=kvs.length+0;lia
 |p::r,kvs=>by
  have h1:=IH r (putK kvs p.1 p.2)
  have h2:=FD kvs p.1 p.2
  show (J9 (putK kvs p.1 p.2) r).length<=_
  rw[jV_];lia
theorem Ou {P:Program}{w:World}:∀{kvs:List (Key×V)} {ws:List (Value×Value)},VV (kvs.map fun kv=>(kV kv.1,kv.2)) ws->∃rs,Carries (B1 P w) ws rs/\KV kvs rs
 |[],_,r=>by rw[xP_]at r;cases r;exact⟨[],True.intro,.nil⟩
 |p::kvs,_,r=>by
  rw[j1_]at r
  cases r with
  |@cons a b as bs h t=>
   obtain⟨rs,c,q⟩:=Ou (P:=P) (w:=w) t
   obtain⟨b1,b2⟩:=b
   exact⟨(p.1,b2)::rs,⟨SS h.1,rfl,c⟩,.cons ⟨rfl,h.2⟩ q⟩
noncomputable def Co_ (aB:List (TE×TE)):TE:=fun σ H Q=>∀p,H p=none->LF aB σ (upd H p (.dK [])) fun ps H2=>H2 p=some (.dK [])/\∃kvs:List (Key×V),ps=kvs.map (fun kv=>(kV kv.1,kv.2))/\kvs.length<=15/\Q (.ref p) (upd H2 p (.dK (J9 [] kvs)))
theorem Cp_      (h:PPs X pos keys cu aB)(az:keys.all (·.isSome)=true)(hl:keys.length=cu.length)(h0:keys ≠ [])
  (h15:keys.length<=15):PE X (.Dict keys cu pos) (Co_ aB):=by
 intro af s σ H Q I q
 have hn:=I.hok.fresh (jg_ s.heap.objs.size)
 have I1:=I.laid (a:=s.heap.objs.size) (o:=.dK []) (h':=s.heap.push {cls:=.type "dict",data:=.dict #[]}) (t':=s.toks) (fun _ _ q=>jm_ _ q) (jg_ _) (UH s.heap I.big)
 refine wpAny_Dict_walk (knd:=B1 X.prog X.w) az hl h0 h15 (thn (h af _ σ _ _ I1 (q _ hn)) fun ws s2 ⟨ps,H2,I2,a8,e,kvs,ep,lk,q2⟩=>?_)
 subst ep
 obtain⟨rs,c,rk⟩:=Ou (P:=X.prog) (w:=X.w) a8
 obtain⟨z,hd,vs0,r0,dd⟩:=Zn I2.hok e
 cases r0
 refine⟨rs,c,dd,fun h' fU hs=>⟨.ref s.heap.objs.size,_,?_,rfl,q2⟩⟩
 have hz:(J9 [] kvs).length<=sizeLine:=by
  have h1:=IH kvs []
  rw[qt_]at h1
  rw[sizeLine_eq];lia
 have he:∃q,h'.get? s.heap.objs.size=some q:=let ⟨q,_,_,hq,_⟩:=fU;⟨q,hq⟩
 exact O5 I2 (by rw[e];exact True.intro) hs he (Xy hz hd (rk.merge .nil) fU)
structure M1 (X:Cx)(o:Expr)(m:Str)(bh:Pos)(e:Expr)(aE:Pos):Prop where
 base:attributeBase o m X.env (eval o X.env)=eval o X.env
 few:((backTo aE (starEach [e] X.env)).all (fun x => !x.1)&&(backToKw aE (keywordEach [] X.env)).all (fun x=>x.1.isSome)
  && decide (([e]:List Expr).length+([]:List Keyword).length+(if ([]:List Keyword).isEmpty then 0 else 1)<30))=true
 line:(bh.endLine==aE.line)=true
 trees:backTo aE (starEach [e] X.env)=[(false,eval e X.env)]
structure M2 (X:Cx)(o:Expr)(m:Str)(bh:Pos)(e f:Expr)(aE:Pos):Prop where
 base:attributeBase o m X.env (eval o X.env)=eval o X.env
 few:((backTo aE (starEach [e,f] X.env)).all (fun x => !x.1)&&(backToKw aE (keywordEach [] X.env)).all (fun x=>x.1.isSome)
  && decide (([e,f]:List Expr).length+([]:List Keyword).length+(if ([]:List Keyword).isEmpty then 0 else 1)<30))=true
 line:(bh.endLine==aE.line)=true
 trees:backTo aE (starEach [e,f] X.env)=[(false,eval e X.env),(false,eval f X.env)]
noncomputable def IsD (H:Hp)(a:Addr):Prop:=(∃kvs,Rd H a (.dK kvs)) \/ ∃kvs,Rd H a (.dT kvs)
theorem AV_       (I:Inv X af σ H s)(d:IsD H a):
  s.TypeIs (.ref a) "dict" /\ (∀b,Value.ref a=.ref b->∃ob,s.heap.get? b=some ob/\ob.dict=none)/\(a==sysModules)=false:=by
 rcases d with ⟨kvs,e⟩|⟨kvs,e⟩
 ·obtain⟨_,hd,vs,_,dd⟩:=SU I.hok e
  refine⟨dd.typeIs,fun b q=>?_,hd⟩
  cases q
  obtain⟨ob,_,_,h1,h2,_⟩:=dd
  exact⟨ob,h1,h2.2.1⟩
 ·obtain⟨_,hd,xs,_,dd⟩:=VH I.hok e
  refine⟨dd.typeIs,fun b q=>?_,hd⟩
  cases q
  obtain⟨ob,_,_,h1,h2,_⟩:=dd
  exact⟨ob,h1,h2.2.1⟩
section
variable {X:Cx} {af:α7} {σ:St} {H:Hp} {s:Shared} {a:Addr} {y d:V} {u r:Value} {o:Option V} {A:Around} {E:Value->Shared->Prop}
theorem DP_  (hu:A.units+1<cLine)(I:Inv X af σ H s)(g:DGet H a y o)(ry:RelV y u)(h:∀w' s',Inv X af σ H s'->RelV (o.getD .non) w'->Q w' s'):
  wpAny (model X.prog X.w) A (call (.builtin "dict.get") [.ref a,u]) Q E s:=by
 rcases g with ⟨kvs,k,e,ey,l⟩|⟨kvs,k,b,e,ey,eb,l⟩
 ·subst ey
  obtain⟨z,hd,vs,a8,dd⟩:=SU I.hok e
  refine call_meetsIn zp_ dd.typeIs PySem.F.entry_dict_get (PySem.F.args_dict_get_2 _ _) (meets_dict_get (B1 X.prog X.w) a (SS ry) hd) ⟨_,dd.mapOf,h _ _ (I.tok _) ?_⟩
  rw[l]
  exact (a8.val k).getD rfl
 ·subst ey
  cases (show u=Value.ref b from ry)
  obtain⟨z,hd,xs,a8,dd⟩:=VH I.hok e
  refine call_meetsIn zp_ dd.typeIs PySem.F.entry_dict_get (PySem.F.args_dict_get_2 _ _) (meetsH_dict_get (tupleKind (B1 X.prog X.w)) a b hd) ⟨zb_ hu,k,xs,Q5 I.hok eb,dd,h _ _ (I.tok _) ?_⟩
  rw[l]
  exact (a8.val k).getD rfl
end
noncomputable def XE (td ty:TE):TE:=fun σ H Q=>td σ H fun x H1=>∃a,x=.ref a/\IsD H1 a/\ty σ H1 fun y H2=>∃o,DGet H2 a y o/\Q (o.getD .non) H2
section
variable {X:Cx} {o e f:Expr} {bh aE:Pos} {td ty tx:TE}
theorem Zq (hu:X.A.units+1<cLine)(ho:PE X o td)(he:PE X e ty)(m:M1 X o "get" bh e aE):PE X (.Call (.Attribute o "get" bh) [e] [] aE) (XE td ty):=by
 intro af s σ H Q I h
 refine wpAny_Call_method m.base m.few m.line PySem.F.plainAttrs_dict zp_ PySem.F.type_dict_get (thn (ho af s σ H _ I h) fun u s1 ⟨x,H1,I1,rx,a,ex,d,q1⟩=>?_)
 subst ex
 obtain rfl:u=Value.ref a:=rx
 obtain⟨t1,t2,_⟩:=AV_ I1 d
 refine⟨t1,t2,?_⟩
 rw[m.trees]
 refine zh_ rfl (zy_ (xm_ (thn (he af s1 σ H1 _ I1 q1) fun iv s2 ⟨y,H2,I2,ry,ov,g,q2⟩=>xT_ ?_)))
 exact DP_ hu I2 g ry fun w' s3 I3 d0=>⟨_,H2,I3,d0,q2⟩
end
end L2
namespace L2
open PySem PySem.Spec PyProof.Rows
noncomputable def clOf (env:Env):List (Str×NameKind)->List (Str×Addr)->List (Str×Addr)
 |[],ai=>ai
 | (n,k)::r,ai=>if (k == .free)=true then clOf env r ((n,(env.cells.lookup n).getD 0)::ai) else clOf env r ai
theorem Jo   (h:∀p∈scope.names,p.2=.free->∃c,env.cells.lookup p.1=some c):closureFor scope env=pure (clOf env scope.names []):=by
 have go:∀(l:List (Str×NameKind)) (ai:List (Str×Addr)),(∀p∈l,p.2=.free->∃c,env.cells.lookup p.1=some c) ->
   (forIn l ai fun (x:Str×NameKind) (cs:List (Str×Addr))=>(if (x.2 == .free)=true then do let c <- cellOf env x.1;pure (ForInStep.yield ((x.1,c)::cs)) else pure (ForInStep.yield cs):Sem (ForInStep (List (Str×Addr)))))=(pure (clOf env l ai):Sem (List (Str×Addr))):=by
  intro l
  induction l with
  |nil=>intro ai _;rfl
  |cons p r ih=>
   intro ai hl
   obtain⟨n,k⟩:=p
   rw[List.forIn_cons]
   by_cases hk:(k == .free)=true
   ·obtain⟨c,hc⟩:=hl (n,k) jn_ (by simpa using hk)
    have e1:cellOf env n=pure c:=by unfold cellOf;rw[hc]
    have mI:=ih ((n,c)::ai) fun q hq=>hl q (jk_ _ hq)
    show ((if (k == .free)=true then do let c <- cellOf env n;pure (ForInStep.yield ((n,c)::ai)) else pure (ForInStep.yield ai):Sem _) >>= _)=_
    rw[if_pos hk,e1]
    show (forIn r ((n,c)::ai) _:Sem _)=_
    rw[clOf,if_pos hk,hc]
    exact mI
   ·have mI:=ih ai fun q hq=>hl q (jk_ _ hq)
    show ((if (k == .free)=true then do let c <- cellOf env n;pure (ForInStep.yield ((n,c)::ai)) else pure (ForInStep.yield ai):Sem _) >>= _)=_
    rw[if_neg hk]
    show (forIn r ai _:Sem _)=_
    rw[clOf,if_neg hk]
    exact mI
 have e:=go scope.names [] h
 unfold closureFor
 show (forIn scope.names [] _ >>= fun cs=>pure cs:Sem _)=_
 have e2:(forIn scope.names [] (fun (x:Str×NameKind) (r:List (Str×Addr))=>(match x with
   | (name,kind)=>if (kind == .free)=true then do let c <- cellOf env name;pure (ForInStep.yield ((name,c)::r)) else do pure PUnit.unit;pure (ForInStep.yield r):Sem (ForInStep (List (Str×Addr))))))=(pure (clOf env scope.names []):Sem (List (Str×Addr))):=e
 exact jD_ (fun z=>z >>= fun cs=>pure cs) e2
theorem Ll {env:Env}:∀(l:List (Str×NameKind)) (ai:List (Str×Addr)),(∀p∈l,p.2=.free->∃c,env.cells.lookup p.1=some c)->(∀q∈ai,env.cells.lookup q.1=some q.2)->∀q∈clOf env l ai,env.cells.lookup q.1=some q.2
 |[],_,_,ha,q,hq=>ha q hq
 | (n,k)::r,ai,hl,ha,q,hq=>by
  unfold clOf at hq
  by_cases hk:(k == .free)=true
  ·rw[if_pos hk]at hq
   obtain⟨c,hc⟩:=hl (n,k) jn_ (by simpa using hk)
   refine Ll r _ (fun p hp=>hl p (jk_ _ hp)) (fun p hp=>?_) q hq
   rcases jL_.mp hp with rfl|hp
   ·show env.cells.lookup n=some ((env.cells.lookup n).getD 0)
    rw[hc];rfl
   ·exact ha p hp
  ·rw[if_neg hk]at hq
   exact Ll r _ (fun p hp=>hl p (jk_ _ hp)) ha q hq
theorem Hd {env:Env}:∀(l:List (Str×NameKind)) (ai:List (Str×Addr)) (x:Str),((x,NameKind.free)∈l \/ ∃c,(x,c)∈ai)->∃c,(x,c)∈clOf env l ai
 |[],_,_,h=>by
  rcases h with h|h
  ·cases h
  ·exact h
 | (n,k)::r,ai,x,h=>by
  unfold clOf
  by_cases hk:(k == .free)=true
  ·rw[if_pos hk]
   refine Hd r _ x ?_
   rcases h with h|⟨c,h⟩
   ·rcases jL_.mp h with h|h
    ·cases h
     exact .inr ⟨_,jn_⟩
    ·exact .inl h
   ·exact .inr ⟨c,jk_ _ h⟩
  ·rw[if_neg hk]
   refine Hd r _ x ?_
   rcases h with h|h
   ·rcases jL_.mp h with h|h
    ·cases h
     exact absurd rfl hk
    ·exact .inl h
   ·exact .inr h
theorem BF {β:Type}:∀{l:List (Str×β)} {x:Str} {c:β},(x,c)∈l->∃c',l.lookup x=some c'
 |[],_,_,h=>by cases h
 | (n,d)::r,x,c,h=>by
  by_cases hx:(x==n)=true
  ·exact⟨d,by rw[j4_,hx]⟩
  ·rcases jL_.mp h with h|h
   ·cases h;exact absurd (beq_self_eq_true _) hx
   ·obtain⟨c',e⟩:=BF h
    exact⟨c',by rw[j4_];simp only[Bool.not_eq_true]at hx;rw[hx];exact e⟩
noncomputable def relF (env:Env):Str×NameKind->Str×NameKind:=fun (n,k)=>if (k==NameKind.free&&env.scope.kind == .function&&env.kindOf n==some .cell) then (n,NameKind.cell) else (n,k)
theorem Lm    (h:(k==NameKind.free&&env.scope.kind == .function&&env.kindOf n==some .cell)=true):relF env (n,k)=(n,.cell):=if_pos h
theorem O6    (h:¬ (k==NameKind.free&&env.scope.kind == .function&&env.kindOf n==some .cell)=true):relF env (n,k)=(n,k):=if_neg h
theorem Gp {env:Env}:∀{names:List (Str×NameKind)} {x:Str} {k:NameKind},(∀y∈names,y.2 ≠ .cell) ->
  (names.map (relF env)).lookup x=some k->(k=.cell\/k=.free)->(x,NameKind.free)∈names
 |[],_,_,_,h,_=>by simp at h
 | (n,k')::r,x,k,hc,h,hk=>by
  have ih := @Gp env r x k (fun y hy=>hc y (jk_ _ hy))
  rw[j1_]at h
  by_cases hb:(k'==NameKind.free&&env.scope.kind == .function&&env.kindOf n==some .cell)=true
  ·rw[Lm hb,j4_]at h
   cases hx:x==n with
   |true=>
    have e:x=n:=by simpa using hx
    subst e
    have e2:k'=.free:=by
     simp only[qa_]at hb
     simpa using hb.1.1
    subst e2
    exact jn_
   |false=>
    rw[hx]at h
    exact jk_ _ (ih h hk)
  ·rw[O6 hb,j4_]at h
   cases hx:x==n with
   |true=>
    rw[hx]at h
    have e:x=n:=by simpa using hx
    subst e
    have e2:k'=k:=jp_ h
    subst e2
    rcases hk with rfl|rfl
    ·exact absurd rfl (hc _ jn_)
    ·exact jn_
   |false=>
    rw[hx]at h
    exact jk_ _ (ih h hk)
theorem Gq {env:Env}:∀{names:List (Str×NameKind)} {x:Str},names.lookup x=some .free ->
  ∃k,(k=NameKind.cell\/k=NameKind.free)/\(names.map (relF env)).lookup x=some k
 |[],_,h=>by simp at h
 | (n,k')::r,x,h=>by
  have ih := @Gq env r x
  rw[j4_]at h
  rw[j1_]
  cases hx:x==n with
  |true=>
   rw[hx]at h
   have e2:k'=.free:=jp_ h
   subst e2
   by_cases hb:((NameKind.free:NameKind)==NameKind.free&&env.scope.kind == .function&&env.kindOf n==some .cell)=true
   ·exact⟨.cell,.inl rfl,by rw[Lm hb,j4_,hx]⟩
   ·exact⟨.free,.inr rfl,by rw[O6 hb,j4_,hx]⟩
  |false=>
   rw[hx]at h
   obtain⟨k,hk,e⟩:=ih h
   refine⟨k,hk,?_⟩
   by_cases hb:(k'==NameKind.free&&env.scope.kind == .function&&env.kindOf n==some .cell)=true
   ·rw[Lm hb,j4_,hx];exact e
   ·rw[O6 hb,j4_,hx];exact e
end L2
namespace L2
open PySem PySem.Spec PyProof.Rows
section
variable {prog:Program} {w:World} {A:Around} {R:Result->Shared->Prop} {s:Shared}
noncomputable abbrev cpW (prog:Program)(w:World)(A:Around)(R:Result->Shared->Prop)(env:Env){α:Type}(m:Sem α)(Q:α->Shared->Prop):Shared->Prop:=wpAny (model prog w) A m Q (notedBy (model prog w) A env fun e t=>R (.error e) t)
theorem Ka {cc bI iter:Expr}    {it ai:Value}  (I:Nat->Shared->Prop)
  (turn:∀n s,I n s->cpW prog w A R env (pyNext it) (fun r s=>match r with
   |none=>R (.ok .next) s
   |some v=>cpW prog w A R env (letOwnedTupleGo bI it v) (fun _=>cpW prog w A R env (assign bI env v) fun _=>cpW prog w A R env (forIn bY true fun c r=>if r=true then do let ok <- isTrue c env (eval c env);pure (ForInStep.yield ok) else pure (ForInStep.yield r)) fun ok s=>
     if ok=true then cpW prog w A R env (eval cc env) (fun x=>cpW prog w A R env (call (.builtin "list.append") [ai,x]) fun _ t=>∃m,m<n/\I m t) s else ∃m,m<n/\I m s) s) s)
  (n:Nat) (h:I n s):codeAny (model prog w) A (.compLoop (.ListComp cc [⟨bI,iter,bY,0⟩] scope pos) 0 it ai env) R s:=by
 have mono:∀{α β:Type} {m:Sem α} {f:α->Sem β} {Q:α->Shared->Prop} {Q':β->Shared->Prop} {s:Shared},cpW prog w A R env m Q s->(∀a t,Q a t->cpW prog w A R env (f a) Q' t)->cpW prog w A R env (m >>= f) Q' s:=fun h k=>je_ (qM_ h k fun _ _ e=>e)
 refine codeAny_loop rfl I (fun n s hI=>wpAny_noted ?_) n h
 rw[compTurn_list]
 refine je_ (wpAny_standAt (mono (turn n s hI) fun r s1 h1=>?_))
 cases r with
 |none=>exact ju_ h1
 |some v=>
  refine mono h1 fun _ _ h2=>mono h2 fun _ _ h3=>mono h3 fun ok s4 h4=>?_
  cases ok with
  |false=>exact ju_ ⟨rfl,h4⟩
  |true=>exact je_ (mono h4 fun _ _ h5=>mono h5 fun _ _ h6=>ju_ (ju_ ⟨rfl,h6⟩))
end
noncomputable abbrev Cx.blk (X:Cx)(N:List Str)(sc:Scope)(C:Addr)(s₀:Shared)(H₀:Hp)(ex:List Addr):Cx:=
 {X with N:=N,env:=compEnvC sc (clOf X.env sc.names []) C X.env,outer:=X.stack,s₀:=s₀,H₀:=H₀,ex:=ex,fn:=fun _=>false,pn:=[],xe:=fun _ _=>False}
structure BlkSc (X:Cx)(sc:Scope):Prop where
 kind:sc.kind=.function
 nocell:∀y∈sc.names,y.2 ≠ .cell
 loc:∀y∈sc.names,y.2=.local->sc.names.lookup y.1=some .local
 free:∀y∈sc.names,y.2=.free->X.env.kindOf y.1=some .cell\/X.env.kindOf y.1=some .free
noncomputable abbrev Caps:=List (Str×Option Nat)
noncomputable def Caps.names (c:Caps):List Str:=c.map (·.1)
noncomputable def Caps.st (c:Caps)(σ:St):St:=c.map fun p=>p.2.bind fun j=>(σ[j]?).join
noncomputable def Ei (N:List Str)(sc:Scope):Caps->Prop
 |[]=>True
 | (_,none)::r=>Ei N sc r
 | (x,some j)::r=>(N[j]?=some x/\sc.names.lookup x=some .free)/\Ei N sc r
theorem Ei.get {N:List Str}{sc:Scope}:∀{c:Caps} {i:Nat} {x:Str} {j:Nat},Ei N sc c->c[i]?=some (x,some j)->N[j]?=some x/\sc.names.lookup x=some .free
 |[],_,_,_,_,h=>by simp at h
 | (y,none)::r,0,x,j,_,h=>by simp at h
 | (y,none)::r,i+1,x,j,ok,h=>Ei.get (c:=r) (i:=i) ok (by simpa using h)
 | (y,some k)::r,0,x,j,ok,h=>by
  simp only[zc_,zk_,Prod.mk.injEq]at h
  obtain⟨rfl,rfl⟩:=h
  exact ok.1
 | (y,some k)::r,i+1,x,j,ok,h=>Ei.get (c:=r) (i:=i) ok.2 (by simpa using h)
section
variable {X:Cx} {af:α7} {σ:St} {H:Hp} {s:Shared} {sc:Scope} {fp:List Addr}
theorem LG (I:Inv X af σ H s)(S:BlkSc X sc):∀p∈sc.names,p.2=.free->∃c,X.env.cells.lookup p.1=some c:=fun p hp e=>I.ok.has p.1 (S.free p hp e)
theorem Dk (I:Inv X af σ H s)(S:BlkSc X sc)   (h:(clOf X.env sc.names []).lookup x=some c):X.env.cells.lookup x=some c:=
 Ll sc.names [] (LG I S) (fun q hq=>by cases hq) (x,c) (qe_ h)
theorem DQ_ {N:List Str}{C:Addr}(I:Inv X af σ H s)(S:BlkSc X sc)(hC:s.heap.objs.size<=C)(hf:∀b∈fp,FpOk X af H b)(ho:∀b∈fp,∃o,s.heap.get? b=some o):(X.blk N sc C s H fp).Ok where
 mod:=I.ok.mod
 kind:=S.kind
 glob:=I.ok.glob
 blt:=I.ok.blt
 above:=hC
 inj:=fun x y c h1 h2=>I.ok.inj x y c (Dk I S h1) (Dk I S h2)
 has:=fun x hx=>by
  have d6:(x,NameKind.free)∈sc.names:=by
   rcases hx with hx|hx
   ·exact Gp (env:=X.env) S.nocell hx (.inl rfl)
   ·exact Gp (env:=X.env) S.nocell hx (.inr rfl)
  obtain⟨c,hc⟩:=Hd (env:=X.env) sc.names [] x (.inl d6)
  exact BF hc
 cab:=fun x c h=>absurd (show false=true from h) jt_
 hd:=I.ok.hd
 frames:=I.ok.frames
 stk:=.inl rfl
 exf:=fun b hb=>by
  obtain⟨o,ho⟩:=ho b hb
  refine⟨jK_ (jx_ (js_ ho) hC),fun x c h=>(hf b hb).2.2.2.2.1 x c (Dk I S h)⟩
 bs:=I.bs
 bsz:=ql_ I.ok.bsz I.sz
 noex:=fun b o e hb=>by
  rcases (hf b hb).2.2.2.1 with z|z
  ·exact I.ok.noex b o e z
  ·exact absurd (jx_ (js_ (I.ok.bs b o e).1) z) (j5_ _)
 exfs:=fun b hb z=>by
  rcases jL_.mp (I.stkSub b z) with e|e
  ·exact (hf b hb).2.1 e
  ·exact (hf b hb).2.2.1 e
 funs:=I.stack
 frf:=I.stkFree
theorem XF {c:Caps}{C:Addr}{s4:Shared}{m:Str->α5}(I:Inv X af σ H s)(S:BlkSc X sc)(hc:Ei X.N sc c)(hC:s.heap.objs.size<=C)(hf:∀b∈fp,FpOk X af H b)(ho:∀b∈fp,∃o,s.heap.get? b=some o)
  (cW:s4.os=s.os) (hb:s4.gens=s.gens) (hk:∀b o,s.heap.get? b=some o->s4.heap.get? b=some o) (hn:s4.heap.Ns C m):Inv (X.blk c.names sc C s H fp) [] (c.st σ) H s4 where
 ok:=DQ_ I S hC hf ho
 os:=cW
 bare:=by rw[hb];exact I.bare
 base:=Un.kept hk
 loc:=by
  refine⟨m,hn,fun i x v h1 h2 hv=>?_⟩
  have fk:(c.map (·.1))[i]?=some x:=h1
  have iE:(c.map fun p=>p.2.bind fun j=>(σ[j]?).join)[i]?=some (some v):=h2
  rw[jd_]at fk iE
  cases e:c[i]? with
  |none=>rw[e]at fk;cases fk
  |some p=>
   obtain⟨y,oj⟩:=p
   rw[e]at fk iE
   have e1:y=x:=jp_ fk
   subst e1
   have e2:(oj.bind fun j=>(σ[j]?).join)=some v:=jp_ iE
   cases oj with
   |none=>cases e2
   |some j=>
    have e3:(σ[j]?).join=some v:=e2
    have e4:σ[j]?=some (some v):=by
     cases q:σ[j]? with
     |none=>rw[q]at e3;cases e3
     |some z=>rw[q]at e3;exact jD_ some e3
    obtain⟨k1,k2⟩:=Ei.get hc e
    have k3:X.env.kindOf y=some .cell\/X.env.kindOf y=some .free:=S.free (y,.free) (qe_ k2) rfl
    have j7:Vis X.env.scope y:=by
     rcases k3 with k|k
     ·exact .inr (.inl k)
     ·exact .inr (.inr k)
    obtain⟨mX,hnX,hl⟩:=I.loc
    obtain⟨u,r,l⟩:=hl j y v k1 e4 j7
    refine⟨u,r,?_⟩
    rcases l with ⟨k,_⟩|⟨_,ca,mJ,z⟩
    ·rcases k3 with k' | k'<;>(rw[k]at k';cases k')
    ·obtain⟨kd,kg,ek⟩:=Gq (env:=X.env) k2
     have fm:(compEnvC sc (clOf X.env sc.names []) C X.env).kindOf y=some kd:=ek
     obtain⟨c',eJ⟩:=Hd (env:=X.env) sc.names [] y (.inl (qe_ k2))
     obtain⟨c2,bX⟩:=BF eJ
     have e5:=Dk I S bX
     rw[mJ]at e5
     have e6:ca=c2:=jp_ e5
     subst e6
     refine .inr ⟨?_,ca,bX,?_⟩
     ·rcases kg with rfl|rfl
      ·exact .inl fm
      ·exact .inr fm
     ·obtain⟨oc,di,hd⟩:=z
      exact⟨oc,hk _ _ di,hd⟩
 cell:=fun x ca h=>by
  obtain⟨v,oc,di,hd⟩:=I.cell x ca (Dk I S h)
  exact⟨v,oc,hk _ _ di,hd⟩
 free:=I.hok.fresh hC
 freeC:=fun x ca h=>I.freeC x ca (Dk I S h)
 pin:=fun p hp=>absurd (show p∈([]:α7) from hp) (by simp)
 hok:=I.hok.kept hk
 len:=by show (c.map _).length=(c.map _).length;rw[ja_,ja_]
theorem HOk.track       (x:HOk P w H h)(hn:H a=none)(new:Cc P w (upd H a o) h a o):HOk P w (upd H a o) h:=fun b u e=>by
 by_cases hb:b=a
 ·subst hb;rw[Ab]at e;cases e;exact new
 ·rw[Ai hb]at e
  exact (x b u e).stay (fun c v _ q=>q) (fun c q=>by rw[Ai (AB q hn)];exact q) fun c xs q=>by rw[Ai (AB q hn)];exact q
theorem Un.track {fs ex:List Addr}{H H':Hp}{h h':Heap}{a:Addr}{o:HO}(u:Un fs ex H H' h h')(ha:h.objs.size<=a)(hn:H' a=none):Un fs ex H (upd H' a o) h h' where
 keep:=u.keep
 slot:=u.slot
 free:=fun b ob q n hx=>by rw[Ai (jK_ (jx_ (js_ q) ha))];exact u.free b ob q n hx
 there:=u.there
 tups:=fun b xs q=>by rw[Ai (AB (u.tups b xs q) hn)];exact u.tups b xs q
 frzs:=fun b ob xs q=>by rw[Ai (AB (u.frzs b ob xs q) hn)];exact u.frzs b ob xs q
 tbls:=fun b ps q=>by
  obtain⟨more,e⟩:=u.tbls b ps q
  exact⟨more,by rw[Ai (AB e hn)];exact e⟩
theorem Cq_ {c:Caps}{C D:Addr}{s':Shared}{ag:St}{H':Hp}{o:HO}(I:Inv X af σ H s)(J:Inv (X.blk c.names sc C s H fp) [] ag H' s')(hf:∀b∈fp,FpOk X af H b)(hD:s.heap.objs.size<=D)(hn:H' D=none)
  (new:Cc X.prog X.w (upd H' D o) s'.heap D o):Inv X af σ (upd H' D o) s':=by
 have u:Un (frs X.stack) fp H H' s.heap s'.heap:=J.base
 exact I.call' J.os (u.track hD hn) (J.hok.track hn new) J.bare fun b hb=>⟨(hf b hb).2.2.2.1,(hf b hb).2.1,(hf b hb).2.2.2.2.1,(hf b hb).2.2.2.2.2⟩
end
noncomputable def PF (X:Cx)(bY:List Expr)(t:TT):Prop:=
 ∀(af:α7) (s:Shared) (σ:St) (H:Hp) (Q:Bool->Hp->Prop),Inv X af σ H s->t σ H Q ->
  wpAny (model X.prog X.w) X.A (forIn bY true fun c r=>if r=true then do let ok <- isTrue c X.env (eval c X.env);pure (ForInStep.yield ok) else pure (ForInStep.yield r)) (TP X af σ Q) X.xe s
noncomputable def VI:TT:=fun _ H Q=>Q true H
theorem Ce  : PF X [] VI:=fun _ _ _ H _ I h=>wpAny_tests_nil ⟨H,I,h⟩
theorem AW_    (h:PT X c t):PF X [c] t:=fun af s σ H Q I hw=>wpAny_tests_one (h af s σ H Q I hw)
noncomputable def Zr (wi:TI)(cp:Caps)(g:TG)(tc:TT)(te:TE):TE:=fun σ H Q=>wi σ H fun J H1=>∃W:Nat->Nat->List V->St->Hp->Prop,(∃m,W 0 m [] (cp.st σ) H1)/\∀i m ys ag H',W i m ys ag H' ->
 ys.length<sizeLine/\((J.stop i H'/\∀D,H' D=none->Q (.ref D) (upd H' D (.lst ys)))\/(J.go i H'/\∃N:List V->St->Hp->Prop,(∀zs aj H2,N zs aj H2->∃m',m'<m/\W (i+1) m' zs aj H2)/\∀x H2,J.yld i H' x H2->g x ag H2 fun aj H3=>tc aj H3 fun b H4=>
  if b=true then te aj H4 fun v H5=>N (ys++[v]) aj H5 else N ys aj H4))
section
variable {X:Cx} {tg iter cc:Expr} {bY:List Expr} {sc:Scope} {pos:Pos} {wi:TI} {cp:Caps} {g:TG} {tc:TT} {te:TE}
theorem Q7 (hc:X.calm=true)(S:BlkSc X sc)(gh:Ei X.N sc cp)
  (hg:∀C s₀ H₀ ex,PG (X.blk cp.names sc C s₀ H₀ ex) tg g) (hf:∀C s₀ H₀ ex,PF (X.blk cp.names sc C s₀ H₀ ex) bY tc) (he:∀C s₀ H₀ ex,PE (X.blk cp.names sc C s₀ H₀ ex) cc te)
  {af:α7} {σ:St} {H:Hp} {s:Shared} {J:It} {it:Addr} {fp:List Addr} {tn:Nat->Heap->Prop} {Q:VK} {RR:Value->Addr->Result->Shared->Prop} {E:Value->Shared->Prop}
  (I:Inv X af σ H s) (T:Turn X.prog X.w X.K tg J fp it tn) (st:tn 0 s.heap) (d7:∀b∈fp,FpOk X af H b)
  (hw:∃W:Nat->Nat->List V->St->Hp->Prop,(∃m,W 0 m [] (cp.st σ) H)/\∀i m ys ag H',W i m ys ag H' ->
   ys.length<sizeLine/\((J.stop i H'/\∀D,H' D=none->Q (.ref D) (upd H' D (.lst ys)))\/(J.go i H'/\∃N:List V->St->Hp->Prop,(∀zs aj H2,N zs aj H2->∃m',m'<m/\W (i+1) m' zs aj H2)/\∀x H2,J.yld i H' x H2->g x ag H2 fun aj H3=>tc aj H3 fun b H4=>
    if b=true then te aj H4 fun v H5=>N (ys++[v]) aj H5 else N ys aj H4)))
  (hR:∀D C s' H' (m:Str->α5),Inv X af σ H' s'->Q (.ref D) H'->s'.heap.Ns C m->H' C=none->C≠X.env.locals->X.s₀.heap.objs.size<=C->(∀x c,X.env.cells.lookup x=some c->c≠C)->(∀p∈X.pn++af,p.1≠C)->RR (.ref D) C (.ok .next) s'):
  wpAny (model X.prog X.w) X.A (newList []) (fun ai a7=>wpAny (model X.prog X.w) X.A (newFunctionEnv sc X.env.globals (clOf X.env sc.names []) [] X.env.qual none .none (some X.env)) (fun fo iF=>
   codeAny (model X.prog X.w) X.A (.compStart (.ListComp cc [⟨tg,iter,bY,0⟩] sc pos) 0 (.ref it) ai {fo with scope:=relabel sc X.env}) (RR ai fo.locals) iF) E a7) E s:=by
 obtain⟨W,⟨m0,w0⟩,turn⟩:=hw
 refine qS_ (wpAny_newFunctionEnv S.nocell (by intro y hy;simp at hy) (fun h₁ bJ cw=>?_) S.kind)
 dsimp only at bJ cw ⊢
 generalize iG:s.heap.push {cls:=.type "list",dict:=none,data:=.seq ([]:List Value).toArray}=H2 at bJ cw ⊢
 have hC:H2.objs.size=s.heap.objs.size+1:=by rw[<-iG,qu_]
 have gY:s.heap.objs.size≠H2.objs.size:=by rw[hC];exact jK_ (zt_ _)
 have bt:s.heap.objs.size<=H2.objs.size:=by rw[hC];exact zX_ _
 have below:∀b,b<s.heap.objs.size->b≠H2.objs.size:=fun b hb=>by rw[hC];exact jK_ (xh_ hb)
 have old:∀b o,s.heap.get? b=some o->h₁.get? b=some o:=fun b o e=>cw.extBut b o (below b (js_ e)) (jm_ _ (iG ▸ jm_ _ e))
 have bK:h₁.get? s.heap.objs.size=some {cls:=.type "list",data:=.seq ([]:List Value).toArray 0}:=cw.extBut _ _ gY (jm_ _ (iG ▸ jC_ _ rfl))
 have bL:tn 0 h₁:=T.keep 0 _ _ st fun b _ o e=>old b o e
 have br:∀b∈fp,∃o,s.heap.get? b=some o:=fun b hb=>let ⟨o,e,_⟩:=T.obj 0 _ st b hb;⟨o,e⟩
 have J0:Inv (X.blk cp.names sc H2.objs.size s H fp) [] (cp.st σ) H {s with heap:=h₁,toks:=s.toks+([]:List (Str×Value)).length}:=XF I S gh bt d7 br rfl rfl old bJ
 have mK:∀b,s.heap.objs.size<=b->b∉frs X.stack:=fun b hb z=>by
  rcases jL_.mp (I.stkSub b z) with e|e
  ·exact absurd (jx_ I.lt (by rw[<-e];exact hb)) (j5_ _)
  ·exact I.nofs hb e
 have cR:∀b,s.heap.objs.size<=b->∀x c,X.env.cells.lookup x=some c->c≠b:=fun b hb x c e z=>by
  obtain⟨v,q⟩:=I.cell x c e
  exact absurd (jx_ q.lt (by rw[z];exact hb)) (j5_ _)
 have kh:∀{aV:α7} {H':Hp},(∀b∈fp,H' b=none)->(∀p∈aV,p.1∉fp)->∀b∈fp,FpOk (X.blk cp.names sc H2.objs.size s H fp) aV H' b:=fun {aV H'} hn hp b hb=>by
  obtain⟨o,e⟩:=br b hb
  refine⟨hn b hb,below b (js_ e),fun z=>?_,.inl hb,fun x c h=>(d7 b hb).2.2.2.2.1 x c (Dk I S h),fun p jC z=>?_⟩
  ·rcases jL_.mp (I.stkSub b z) with e|e
   ·exact (d7 b hb).2.1 e
   ·exact (d7 b hb).2.2.1 e
  ·have iH:p∈aV:=by simpa using jC
   exact hp p iH (by rw[z];exact hb)
 have loop:∀a7:Shared,a7={s with heap:=h₁,toks:=s.toks+([]:List (Str×Value)).length} ->
   codeAny (model X.prog X.w) X.A (.compLoop (.ListComp cc [⟨tg,iter,bY,0⟩] sc pos) 0 (.ref it) (.ref s.heap.objs.size) (compEnvC sc (clOf X.env sc.names []) H2.objs.size X.env))
    (RR (.ref s.heap.objs.size) H2.objs.size) a7:=by
  rintro a7 rfl
  refine Ka (fun n s'=>∃i ag H' ys its k,Inv (X.blk cp.names sc H2.objs.size s H fp) [] ag H' s'/\tn i s'.heap/\(∀b∈fp,H' b=none)/\H' s.heap.objs.size=none /\
   s'.heap.get? s.heap.objs.size=some {cls:=.type "list",data:=.seq its.toArray k}/\Vals ys its/\W i n ys ag H') ?_ m0
   ⟨0,_,H,[],[],0,J0,bL,fun b hb=>(d7 b hb).1,I.hok.fresh (jg_ _),bK,.nil,w0⟩
  rintro n s3 ⟨i,aA,H3,ys,its,k,I3,cV,jz,mL,e3,rv,w3⟩
  obtain⟨hz,tr⟩:=turn i n ys aA H3 w3
  have ak:=rv.length
  -- mD accumulator stands still while anything else runs
  have fq:∀p ∈ [(s.heap.objs.size,({cls:=.type "list",data:=.seq its.toArray k}:Obj))],p.1∉fp:=fun p hp z=>by
   have e:p=_:=jq_.mp hp
   subst e
   obtain⟨o,e⟩:=br _ z
   exact absurd (js_ e) (j5_ _)
  have ki:Inv (X.blk cp.names sc H2.objs.size s H fp) [(s.heap.objs.size,({cls:=.type "list",data:=.seq its.toArray k}:Obj))] aA H3 s3:=I3.pins_of fun p hp=>by
   have e:p=_:=jq_.mp hp
   subst e
   exact⟨e3,mL,gY,mK _ (jg_ _),fun v z=>by cases z⟩
  have cn:∀b∈fp,FpOk (X.blk cp.names sc H2.objs.size s H fp) [(s.heap.objs.size,({cls:=.type "list",data:=.seq its.toArray k}:Obj))] H3 b:=kh jz fq
  rcases tr with ⟨stop,qn⟩|⟨go,N,hN,step⟩
  ·refine thn (T.done (X.blk cp.names sc H2.objs.size s H fp) rfl rfl rfl hc i _ s3 aA H3 _ ki cn cV stop) fun r s4 ⟨hr,I4⟩=>?_
   subst hr
   obtain⟨e4,n4,_⟩:=I4.pin (s.heap.objs.size,({cls:=.type "list",data:=.seq its.toArray k}:Obj)) (by simp)
   have new:Cc X.prog X.w (upd H3 s.heap.objs.size (.lst ys)) s4.heap s.heap.objs.size (.lst ys):=⟨q1_ hz,its,k,rv,e4⟩
   obtain⟨mC,mM,_⟩:=I4.loc
   have mN:Inv (X.blk cp.names sc H2.objs.size s H fp) [] aA H3 s4:=I4.pins_of fun p hp=>by cases hp
   have I5:=Cq_ I mN d7 (jg_ _) n4 new
   refine hR _ _ s4 _ mC I5 (qn _ n4) mM ?_ (qR_ (jx_ I.lt bt)) (ql_ I.sz bt) (cR _ bt) fun p hp z=>?_
   ·rw[Ai (qx_ gY)];exact I4.free
   ·exact absurd (jx_ (js_ (I.pin p hp).1) (by rw[z];exact bt)) (j5_ _)
  ·refine thn (T.item (X.blk cp.names sc H2.objs.size s H fp) rfl rfl rfl hc i _ s3 aA H3 _ ki cn cV go) fun r s4 ⟨u,hr,h4⟩=>?_
   subst hr
   refine thn h4 fun _ s5 ⟨x,H5,I5,r5,y5,aZ,j9⟩=>?_
   have ka:=I5.pinned (kh j9 fq) (T.obj _ _ aZ)
   have fin:∀{cJ:St} {H7:Hp} {s7:Shared},Inv (X.blk cp.names sc H2.objs.size s H fp) ([(s.heap.objs.size,({cls:=.type "list",data:=.seq its.toArray k}:Obj))]++Oq fp s5.heap) cJ H7 s7 ->
     s7.heap.get? s.heap.objs.size=some {cls:=.type "list",data:=.seq its.toArray k}/\H7 s.heap.objs.size=none/\(∀b∈fp,H7 b=none)/\∀b∈fp,∀o,s5.heap.get? b=some o->s7.heap.get? b=some o:=fun {cJ H7 s7} I7=>by
    obtain⟨e7,n7,_⟩:=I7.pin (s.heap.objs.size,({cls:=.type "list",data:=.seq its.toArray k}:Obj)) (by simp)
    refine⟨e7,n7,fun b hb=>?_,fun b hb o e=>?_⟩
    ·obtain⟨o,e,_⟩:=T.obj _ _ aZ b hb
     exact (I7.pin (b,o) (jw_ _ (jw_ _ (D8 hb e)))).2.1
    ·exact (I7.pin (b,o) (jw_ _ (jw_ _ (D8 hb e)))).1
   refine qM_ (hg _ _ _ _ _ s5 aA H5 x u _ ka r5 (step x H5 y5)) (fun _ s6 ⟨cO,H6,I6,q6⟩=>?_) fun _ _ z=>False.elim z
   refine qM_ (hf _ _ _ _ _ s6 cO H6 _ I6 q6) (fun ok s7 ⟨H7,I7,q7⟩=>?_) fun _ _ z=>False.elim z
   cases ok with
   |false=>
    rw[if_neg jt_]
    rw[if_neg jt_]at q7
    obtain⟨m',hm,w7⟩:=hN _ _ _ q7
    obtain⟨e7,n7,mO,k7⟩:=fin I7
    exact⟨m',hm,i+1,cO,H7,ys,its,k,I7.pins_of (fun p hp=>by cases hp),T.keep _ _ _ aZ k7,mO,n7,e7,rv,w7⟩
   |true=>
    rw[if_pos rfl]
    rw[if_pos rfl]at q7
    refine qM_ (he _ _ _ _ _ s7 cO H7 _ I7 q7) (fun v s8 ⟨y,H8,I8,r8,q8⟩=>?_) fun _ _ z=>False.elim z
    obtain⟨m',hm,w8⟩:=hN _ _ _ q8
    obtain⟨e8,n8,mP,k8⟩:=fin I8
    refine xA_ F.slot_list_append ⟨_,e8,rfl⟩ F.entry_list_append (zz_ _ _) (zT_ s.heap.objs.size its.toArray k v (by rw[jl_];lia)) ⟨e8,?_⟩
    obtain⟨k',q⟩:∃k',(s8.heap.update s.heap.objs.size (Obj.mapSeq fun x=>x.push v)).get? s.heap.objs.size=some {cls:=.type "list",data:=.seq (its++[v]).toArray k' }:=⟨_,by
     have q:=x1_ e8 fun x=>x.push v
     have e:(its++[v]).toArray=its.toArray.push v:=by simp
     rw[e]
     exact q⟩
    have I8':Inv (X.blk cp.names sc H2.objs.size s H fp) [] cO H8 s8:=I8.pins_of fun p hp=>by cases hp
    have I9:Inv (X.blk cp.names sc H2.objs.size s H fp) [] cO H8 {s8 with heap:=s8.heap.update s.heap.objs.size (Obj.mapSeq fun x=>x.push v),toks:=s8.toks}:=
     I8'.turned (it:=s.heap.objs.size) (fun b o hb e=>(j7_ _ _ (qx_ hb)).trans e) n8 gY (.inr (jg_ _)) (fun x c e=>cR _ (jg_ _) x c (Dk I S e)) (fun p hp=>by cases hp)
    refine⟨m',hm,i+1,cO,H8,ys++[y],its++[v],k',I9,T.keep (i+1) s5.heap _ aZ (fun b hb o e=>?_),mP,n8,q,rv.append (.cons r8 .nil),w8⟩
    ·refine (j7_ _ _ ?_).trans (k8 b hb o e)
     intro z
     obtain⟨ob,eb⟩:=br b hb
     exact absurd (js_ eb) (by rw[<-z];exact j5_ _)
 exact codeAny_compStart_list (loop _ rfl) (T.self _ 0 _ _ _ bL (loop _ rfl))
theorem B3 (hc:X.calm=true)(S:BlkSc X sc)(gh:Ei X.N sc cp)(hi:PI X tg iter wi)
  (hg:∀C s₀ H₀ ex,PG (X.blk cp.names sc C s₀ H₀ ex) tg g) (hf:∀C s₀ H₀ ex,PF (X.blk cp.names sc C s₀ H₀ ex) bY tc) (he:∀C s₀ H₀ ex,PE (X.blk cp.names sc C s₀ H₀ ex) cc te)
  (hs:∀x,foldedSetIterable iter X.env x=pure x:=by intro _;rfl):PE X (.ListComp cc [⟨tg,iter,bY,0⟩] sc pos) (Zr wi cp g tc te):=by
 intro af s σ H Q I h
 rw[eval_ListComp]
 refine x6_ (use:=none) rfl hs (Jo (LG I S)) S.kind S.loc (thn (hi af s σ H _ I h) fun xv s₁ h₁=>thn h₁ fun j8 bg cq=>?_)
 obtain⟨it,fp,tn,J,H2,e,I2,T,aM,f2,hw⟩:=cq
 subst e
 refine Q7 (RR:=fun ai C=>compPost (model X.prog X.w) X.A X.xe none (EP X af σ Q) ai C) hc S gh hg hf he I2 T aM f2 hw ?_
 intro D C s' H' m I' q hn hC hL hz bw hp
 exact⟨m,hn,fun h' ft=>⟨.ref D,H',I'.turned (t':=s'.toks) (it:=C) (fun b o hb e=>ft.extBut b o hb e) hC hL (.inr hz) bw hp,rfl,q⟩⟩
theorem Ia    (hN:X.N.Nodup)(hi:X.N[i]?=some x)(hx:X.env.scope.names.lookup x=some .local)(hc:X.calm=true)(S:BlkSc X sc)(gh:Ei X.N sc cp)(a6:PI X tg iter wi)
  (hg:∀C s₀ H₀ ex,PG (X.blk cp.names sc C s₀ H₀ ex) tg g) (hf:∀C s₀ H₀ ex,PF (X.blk cp.names sc C s₀ H₀ ex) bY tc) (he:∀C s₀ H₀ ex,PE (X.blk cp.names sc C s₀ H₀ ex) cc te)
  (mQ:swapsWith (.ListComp cc [⟨tg,iter,bY,0⟩] sc pos) (some (.Name x px)) iI.line X.env=pure true:=by rfl)
  (hs:∀x,foldedSetIterable iter X.env x=pure x:=by intro _;rfl):PS X (.Assign [.Name x px] (.ListComp cc [⟨tg,iter,bY,0⟩] sc pos) iI) (tAsg (Zr wi cp g tc te) (Jn i)):=by
 intro af s σ H D I h
 rw[exec_Assign_Name_used _ _ _ _ mQ]
 refine je_ (wpAny_standAt (je_ ?_))
 show wpAny _ X.A (do let _ <- comprehension (.ListComp cc [⟨tg,iter,bY,0⟩] sc pos) sc X.env _ (newList []) false (eval iter X.env) (some (assign (.Name x px) X.env))) _ _ s
 refine je_ (qM_ (x6_ (use:=some (assign (.Name x px) X.env)) (Q:=fun _ s'=>SP X af D .next s') rfl hs (Jo (LG I S)) S.kind S.loc
  (thn (a6 af s σ H _ I h) fun xv s₁ h₁=>thn h₁ fun j8 bg cq=>?_)) (fun _ s' hq=>ju_ (ju_ hq)) fun _ _ e=>e)
 obtain⟨it,fp,tn,J,H2,e,I2,T,aM,f2,hw⟩:=cq
 subst e
 refine Q7 (RR:=fun ai C=>compPost (model X.prog X.w) X.A X.xe (some (assign (.Name x px) X.env)) (fun _ s'=>SP X af D .next s') ai C) (Q:=fun v H1=>Jn i v σ H1 D.nx) hc S gh hg hf he I2 T aM f2 hw ?_
 intro Dl C s' H' m I' q hn hC hL hz bw hp
 show wpAny _ X.A (assign (.Name x px) X.env (.ref Dl)) _ _ _
 refine wpAny_assign_Name (Lz I' hN hi (.inl hx) (v:=.ref Dl) rfl (fun gd mR ⟨a,lD,ha⟩=>?_) (.inr hx))
 have aw:C≠a:=by
  rcases ha with rfl|ha
  ·exact hL
  ·exact fun z=>bw _ _ ha z.symm
 refine⟨m,hn.sameBut lD aw,fun h' ft=>⟨_,H',mR.turned (t':=gd.toks) (it:=C) (fun b o hb e=>ft.extBut b o hb e) hC hL (.inr hz) bw hp,q⟩⟩
end
theorem XG {K:α3}{a:Addr}{xs:List V}{g:TG}{tc:TT}{te:TE}{Q:VK}{σ:St}{H:Hp}(Pv:Nat->List V->St->Hp->Prop)(h0:Pv 0 [] σ H)(hz:xs.length<sizeLine)
  (hl:∀i ys σ H,i<=xs.length->Pv i ys σ H->SqL K H a xs/\ys.length<=i)
  (hs:∀i x ys σ H,xs[i]?=some x->Pv i ys σ H->g x σ H fun aj H2=>tc aj H2 fun b H3=>if b=true then te aj H3 fun v H4=>Pv (i+1) (ys++[v]) aj H4 else Pv (i+1) ys aj H3)
  (hd:∀ys σ H,Pv xs.length ys σ H->∀D,H D=none->Q (.ref D) (upd H D (.lst ys))):
  ∃W:Nat->Nat->List V->St->Hp->Prop,(∃m,W 0 m [] σ H)/\∀i m ys ag H',W i m ys ag H' ->
   ys.length<sizeLine/\(((Itl K a).stop i H'/\∀D,H' D=none->Q (.ref D) (upd H' D (.lst ys)))\/((Itl K a).go i H'/\∃N:List V->St->Hp->Prop,(∀zs aj H2,N zs aj H2->∃m',m'<m/\W (i+1) m' zs aj H2)/\∀x H2,(Itl K a).yld i H' x H2->g x ag H2 fun aj H3=>tc aj H3 fun b H4=>
    if b=true then te aj H4 fun v H5=>N (ys++[v]) aj H5 else N ys aj H4)):=by
 refine⟨fun i m ys σ H=>m=xs.length-i/\i<=xs.length/\Pv i ys σ H,⟨xs.length,by simp,jX_ _,h0⟩,?_⟩
 rintro i m ys σ H ⟨rfl,hi,p⟩
 obtain⟨q,ly⟩:=hl i ys σ H hi p
 refine⟨by lia,?_⟩
 by_cases au:i<xs.length
 ·refine .inr ⟨⟨xs,xs[i],q,by simp[au]⟩,Pv (i+1),fun zs ag H' p'=>⟨xs.length-(i+1),by lia,rfl,au,p'⟩,fun x H' y=>?_⟩
  obtain⟨e,y⟩:=y
  subst e
  exact hs i x ys σ _ (y xs q) p
 ·have e:i=xs.length:=by lia
  subst e
  exact .inl ⟨⟨xs,q,jg_ _⟩,hd ys σ H p⟩
theorem Zs {K:α3}{a:Addr}{xs:List V}{g:TG}{tc:TT}{te:TE}{Q:VK}{σ:St}{H:Hp}(Pv:Nat->List V->St->Hp->Prop)(h0:Pv 0 [] σ H)(hz:xs.length<sizeLine)
  (hl:∀i ys σ H,i<=xs.length->Pv i ys σ H->SqT K H a xs/\ys.length<=i)
  (hs:∀i x ys σ H,xs[i]?=some x->Pv i ys σ H->g x σ H fun aj H2=>tc aj H2 fun b H3=>if b=true then te aj H3 fun v H4=>Pv (i+1) (ys++[v]) aj H4 else Pv (i+1) ys aj H3)
  (hd:∀ys σ H,Pv xs.length ys σ H->∀D,H D=none->Q (.ref D) (upd H D (.lst ys))):
  ∃W:Nat->Nat->List V->St->Hp->Prop,(∃m,W 0 m [] σ H)/\∀i m ys ag H',W i m ys ag H' ->
   ys.length<sizeLine/\(((Itt K a).stop i H'/\∀D,H' D=none->Q (.ref D) (upd H' D (.lst ys)))\/((Itt K a).go i H'/\∃N:List V->St->Hp->Prop,(∀zs aj H2,N zs aj H2->∃m',m'<m/\W (i+1) m' zs aj H2)/\∀x H2,(Itt K a).yld i H' x H2->g x ag H2 fun aj H3=>tc aj H3 fun b H4=>
    if b=true then te aj H4 fun v H5=>N (ys++[v]) aj H5 else N ys aj H4)):=by
 refine⟨fun i m ys σ H=>m=xs.length-i/\i<=xs.length/\Pv i ys σ H,⟨xs.length,by simp,jX_ _,h0⟩,?_⟩
 rintro i m ys σ H ⟨rfl,hi,p⟩
 obtain⟨q,ly⟩:=hl i ys σ H hi p
 refine⟨by lia,?_⟩
 by_cases au:i<xs.length
 ·refine .inr ⟨⟨xs,xs[i],q,by simp[au]⟩,Pv (i+1),fun zs ag H' p'=>⟨xs.length-(i+1),by lia,rfl,au,p'⟩,fun x H' y=>?_⟩
  obtain⟨e,y⟩:=y
  subst e
  exact hs i x ys σ _ (y xs q) p
 ·have e:i=xs.length:=by lia
  subst e
  exact .inl ⟨⟨xs,q,jg_ _⟩,hd ys σ H p⟩
theorem VJ {lo:Int}{n:Nat}{g:TG}{tc:TT}{te:TE}{Q:VK}{σ:St}{H:Hp}(Pv:Nat->List V->St->Hp->Prop)(h0:Pv 0 [] σ H)(hz:n<sizeLine)
  (hl:∀i ys σ H,i<=n->Pv i ys σ H->ys.length<=i)
  (hs:∀i ys σ H,i<n->Pv i ys σ H->g (.int (lo+i)) σ H fun aj H2=>tc aj H2 fun b H3=>if b=true then te aj H3 fun v H4=>Pv (i+1) (ys++[v]) aj H4 else Pv (i+1) ys aj H3)
  (hd:∀ys σ H,Pv n ys σ H->∀D,H D=none->Q (.ref D) (upd H D (.lst ys))):
  ∃W:Nat->Nat->List V->St->Hp->Prop,(∃m,W 0 m [] σ H)/\∀i m ys ag H',W i m ys ag H' ->
   ys.length<sizeLine/\(((Itr lo n).stop i H'/\∀D,H' D=none->Q (.ref D) (upd H' D (.lst ys)))\/((Itr lo n).go i H'/\∃N:List V->St->Hp->Prop,(∀zs aj H2,N zs aj H2->∃m',m'<m/\W (i+1) m' zs aj H2)/\∀x H2,(Itr lo n).yld i H' x H2->g x ag H2 fun aj H3=>tc aj H3 fun b H4=>
    if b=true then te aj H4 fun v H5=>N (ys++[v]) aj H5 else N ys aj H4)):=by
 refine⟨fun i m ys σ H=>m=n-i/\i<=n/\Pv i ys σ H,⟨n,by simp,jX_ _,h0⟩,?_⟩
 rintro i m ys σ H ⟨rfl,hi,p⟩
 have ly:=hl i ys σ H hi p
 refine⟨by lia,?_⟩
 by_cases au:i<n
 ·refine .inr ⟨au,Pv (i+1),fun zs ag H' p'=>⟨n-(i+1),by lia,rfl,au,p'⟩,fun x H' y=>?_⟩
  obtain⟨e,y⟩:=y
  subst e y
  exact hs i ys σ _ au p
 ·have e:i=n:=by lia
  subst e
  exact .inl ⟨jg_ _,hd ys σ H p⟩
end L2
namespace L2
open PySem PySem.Spec PyProof.Rows
section
variable {X:Cx}
theorem O7 {bs:List Bool}{its:List Value}(r:Vals (bs.map V.bl) its){i:Nat}{v:Value}(h:its[i]?=some v):∃b,bs[i]?=some b/\v=.bool b:=by
 have hi:i<its.length:=(jb_.mp h).1
 have hl:=r.length
 rw[ja_]at hl
 obtain⟨u,hu,ru⟩:=r.get (i:=i) (x:=V.bl bs[i]) (by rw[jd_];simp[show i<bs.length by lia])
 rw[h]at hu
 cases hu
 exact⟨bs[i],by simp[show i<bs.length by lia],ru⟩
theorem DR_ (bs:List Bool):(List.range bs.length).map (fun i=>bs.getD i false)=bs:=
 List.ext_getElem (by simp) fun i _ h=>by simp[h]
theorem XH {bs:List Bool}:(List.range bs.length).all (fun i=>bs.getD i false)=bs.all id:=by
 have e:=jD_ (fun l=>l.all id) (DR_ bs)
 rw[List.all_map]at e;exact e
theorem SX {bs:List Bool}{its:List Value}{A:Around}{P:Program}{w:World}(r:Vals (bs.map V.bl) its):TruthOf P w A (fun i v=>its.toArray[i]?=some v) (fun i=>bs.getD i false):=by
 intro i v s Q E hv hq
 obtain⟨b,hb,e⟩:=O7 r (by simpa using hv)
 subst e
 refine xu_ ?_
 have e:bs.getD i false=b:=by rw[jh_,hb];rfl
 have fV:Q (bs.getD i false) s:=hq
 rw[e]at fV
 exact fV
theorem Zt (hc:X.calm=true):DE X (.builtin "all") (fun xs H Q=>∃(p:Addr) (bs:List Bool),xs=[.ref p]/\SqL X.K H p (bs.map V.bl)/\Q (.bl (bs.all id)) H):=by
 intro af s σ H xs us Q I r h
 obtain⟨p,bs,rfl,hq,q⟩:=h
 obtain⟨u,rfl,ru⟩:=vals1 r
 cases ru
 obtain⟨its,rv,pl,hz⟩:=I.list hq
 have ak:=rv.length
 rw[ja_]at ak
 have hh:X.A.in1.handled=none:=I.ok.hd hc
 obtain⟨o,ho,_⟩:=id pl.isList
 have aw:p≠s.heap.objs.size:=jK_ (js_ ho)
 refine call_all_walk (zj_ pl.isList ?_)
 refine⟨s.heap.objs.size,_,_,its.toArray.size,_,_,fun i=>bs.getD i false,rfl,Walks.list hh _ p aw its.toArray,⟨⟨_,jC_ _ rfl,rfl,rfl⟩,pl.isList.at fun o e=>jm_ _ e⟩,SX rv,fun h' tk hk=>?_⟩
 refine⟨.bl (bs.all id),H,I.kept (t':=tk) fun b o e=>hk b o ?_ (jm_ _ e),?_,q⟩
 ·intro hb
  have e':b=s.heap.objs.size:=by simpa using hb
  exact absurd (js_ e) (by rw[e'];exact j5_ _)
 ·rw[jl_,<-ak,XH];rfl
theorem FE:DE X (.builtin "isinstance") (fun xs H Q=>∃x c cv t b,xs=[x,c]/\TyOf X.K H x t/\(∀u,RelV c u->u=cv)/\kitOne X.K t cv=some b/\Q (.bl b) H):=by
 intro af s σ H xs us Q I r h
 obtain⟨x,c,cv,t,b,rfl,ty,hc,hk,q⟩:=h
 obtain⟨u,w',rfl,rx,rc⟩:=vals2 r
 rw[hc _ rc]
 exact Xi I rx ty hk fun tk=>⟨.bl b,H,I.tok tk,rfl,q⟩
noncomputable def EqD (K:α3)(H:Hp):Nat->V->V->Bool->Prop
 |0,x,y,b=>DZ x=true/\DZ y=true/\b=eqV x y
 |n+1,x,y,b=>(DZ x=true/\DZ y=true/\b=eqV x y) \/ ∃a c xs ys,x=.ref a/\y=.ref c/\((SqL K H a xs/\SqL K H c ys)\/(SqT K H a xs/\SqT K H c ys)) /\
   ∃e:Nat->Bool,(∀i x y,xs[i]?=some x->ys[i]?=some y->EqD K H n x y (e i))/\b=(decide (xs.length=ys.length)&&(List.range (min xs.length ys.length)).all e)
theorem in1_units (A:Around):A.in1.units=A.units+1:=rfl
theorem UK  (h:DZ x=true):eqV x x=true:=by
 cases x<;>first|rfl|(simp[eqV];done)|exact absurd (show false=true from h) jt_
theorem EqD.self     (I:Inv X af σ H s):∀(n:Nat) {x:V} {b:Bool},EqD X.K H n x x b->b=true:=by
 intro n
 induction n with
 |zero=>
  rintro x b ⟨fx,_,rfl⟩
  exact UK fx
 |succ n ih=>
  rintro x b (⟨fx,_,rfl⟩|⟨a,c,xs,ys,rfl,e2,hq,e,he,rfl⟩)
  ·exact UK fx
  ·cases e2
   have mS:xs=ys:=by
    rcases hq with ⟨h1,h2⟩|⟨h1,h2⟩
    ·exact I.list_inj h1 h2
    ·exact I.tuple_inj h1 h2
   subst mS
   simp only[decide_true,Bool.true_and,Nat.min_self,qG_,jP_]
   intro i hi
   exact ih (he i xs[i] xs[i] (by simp[hi]) (by simp[hi]))
theorem Cr_   : ((List.range (min n m)).all e&&n==m)=(decide (n=m)&&(List.range (min n m)).all e):=by
 rw[Bool.and_comm]
 congr 1
theorem EqD.at     (I:Inv X af σ H s):∀(n:Nat) (A:Around) {x y:V} {u v:Value} {b:Bool},A.units+n<cLine->RelV x u->RelV y v->EqD X.K H n x y b ->
  SeqAt.EqAt A s u v b/\∀a c,x=.ref a->y=.ref c->SeqAt.RcAt A s u v b:=by
 intro n
 induction n with
 |zero=>
  intro A x y u v b hu rx ry h
  obtain⟨fx,fy,rfl⟩:=h
  refine⟨Xq rx ry fx fy,?_⟩
  rintro a c rfl rfl
  exact absurd (show false=true from fx) jt_
 |succ n ih=>
  intro A x y u v b hu rx ry h
  have hself:=h
  rcases h with ⟨fx,fy,rfl⟩|⟨a,c,xs,ys,rfl,rfl,hq,e,he,rfl⟩
  ·refine⟨Xq rx ry fx fy,?_⟩
   rintro a c rfl rfl
   exact absurd (show false=true from fx) jt_
  ·cases rx
   cases ry
   have key:∀(its aJ:List Value),Vals xs its->Vals ys aJ->∀j (h1:j<its.toArray.size) (h2:j<aJ.toArray.size),SeqAt.EqAt A.in1 s its.toArray[j] aJ.toArray[j] (e j):=fun its aJ r1 r2 j h1 h2=>by
    have l1:=r1.length
    have l2:=r2.length
    rw[jl_]at h1 h2
    obtain⟨u1,g1,q1⟩:=r1.get (i:=j) (x:=xs[j]'s!"") (by simp[show j<xs.length by lia])
    obtain⟨u2,g2,q2⟩:=r2.get (i:=j) (x:=ys[j]'s!"") (by simp[show j<ys.length by lia])
    have k1:its.toArray[j]'(by rw[jl_];exact h1)=u1:=by
     have:=(jb_.mp g1).2
     simpa using this
    have k2:aJ.toArray[j]'(by rw[jl_];exact h2)=u2:=by
     have:=(jb_.mp g2).2
     simpa using this
    rw[k1,k2]
    exact (ih A.in1 (by rw[in1_units];lia) q1 q2 (he j _ _ (by simp[show j<xs.length by lia]) (by simp[show j<ys.length by lia]))).1
   have rc:SeqAt.RcAt A s (.ref a) (.ref c) (decide (xs.length=ys.length)&&(List.range (min xs.length ys.length)).all e):=by
    rcases hq with ⟨h1,h2⟩|⟨h1,h2⟩
    ·obtain⟨its,r1,p1,_⟩:=I.list h1
     obtain⟨aJ,r2,p2,_⟩:=I.list h2
     have l1:=r1.length
     have l2:=r2.length
     by_cases hl:xs.length=ys.length
     ·have:=SeqAt.RcAt.lists (e:=e) p1.isList p2.isList (by rw[jl_,jl_];lia) s!"" (key its aJ r1 r2)
      rw[jl_,<-l1]at this
      rw[qg_ hl,Bool.true_and,<-hl,Nat.min_self]
      exact this
     ·rw[qc_ hl,Bool.false_and]
      exact SeqAt.RcAt.lists_lengths p1.isList p2.isList (by rw[jl_,jl_];simp;lia) s!""
    ·obtain⟨its,r1,p1,_⟩:=I.tuple h1
     obtain⟨aJ,r2,p2,_⟩:=I.tuple h2
     have l1:=r1.length
     have l2:=r2.length
     have:=SeqAt.RcAt.tuples (e:=e) (show s.heap.IsTuple a its.toArray from p1) (show s.heap.IsTuple c aJ.toArray from p2) s!"" (key its aJ r1 r2)
     rw[jl_,jl_,<-l1,<-l2,Cr_]at this
     exact this
   refine⟨?_,fun a' c' _ _=>rc⟩
   by_cases hac:a=c
   ·subst hac
    rw[EqD.self I (n+1) hself]
    exact SeqAt.EqAt.same _
   ·exact SeqAt.EqAt.of_refs hac rc
theorem EqD.flat {K:α3}    (hq:(SqL K H a xs/\SqL K H c ys)\/(SqT K H a xs/\SqT K H c ys))(fx:∀x∈xs,DZ x=true)(fy:∀y∈ys,DZ y=true)(hi:∀x∈xs,∀y∈ys,eqV x y=decide (x=y))(n:Nat):
  EqD K H (n+1) (.ref a) (.ref c) (decide (xs=ys)):=by
 have base:∀m i x y,xs[i]?=some x->ys[i]?=some y->EqD K H m x y (decide (x=y)):=fun m i x y h1 h2=>by
  have m1:=jc_ h1
  have m2:=jc_ h2
  cases m with
  |zero=>exact⟨fx _ m1,fy _ m2,(hi _ m1 _ m2).symm⟩
  |succ m=>exact .inl ⟨fx _ m1,fy _ m2,(hi _ m1 _ m2).symm⟩
 refine .inr ⟨a,c,xs,ys,rfl,rfl,hq,fun i=>match xs[i]?,ys[i]? with|some x,some y=>decide (x=y)|_,_=>true,fun i x y h1 h2=>?_,?_⟩
 ·simp only[h1,h2]
  exact base n i x y h1 h2
 ·rw[qz_]
  simp only[qo_,qa_,qG_,jP_]
  constructor
  ·rintro rfl
   refine⟨rfl,fun i hi=>?_⟩
   have hi:i<xs.length:=by lia
   simp[hi]
  ·rintro⟨hl,h⟩
   refine qI_ fun i=>?_
   by_cases hi:i<xs.length
   ·have:=h i s!""
    simp[hi,show i<ys.length by lia]at this
    simp[hi,show i<ys.length by lia,this]
   ·rw[jQ_ s!"",jQ_ s!""]
end
end L2
namespace L2
open PySem PySem.Spec PyProof.Rows
noncomputable def DS_ (outer:List (Str×NameKind))(sc:Scope):Bool:=
 sc.kind == .function&&sc.names.all (fun y=>y.2 != .cell&&(y.2 != .local||sc.names.lookup y.1==some .local)&&(y.2 != .free||outer.lookup y.1==some .cell||outer.lookup y.1==some .free))
theorem B4   (h:DS_ X.env.scope.names sc=true):BlkSc X sc:=by
 unfold DS_ at h
 rw[qa_,qG_]at h
 obtain⟨h1,h2⟩:=h
 refine⟨by simpa using h1,fun y hy z=>?_,fun y hy z=>?_,fun y hy z=>?_⟩
 ·have:=h2 y hy
  simp only[qa_]at this
  have:=this.1.1
  rw[z]at this
  exact absurd this (by decide)
 ·have:=h2 y hy
  simp only[qa_]at this
  have:=this.1.2
  rw[z]at this
  simpa using this
 ·have:=h2 y hy
  simp only[qa_]at this
  have:=this.2
  rw[z]at this
  have t:(X.env.scope.names.lookup y.1==some .cell||X.env.scope.names.lookup y.1==some .free)=true:=by simpa using this
  rw[Bool.or_eq_true]at t
  rcases t with t|t
  ·exact .inl (by show X.env.scope.names.lookup y.1=some .cell;simpa using t)
  ·exact .inr (by show X.env.scope.names.lookup y.1=some .free;simpa using t)
section
variable {t u:TS} {te ta tb tc':TE} {tt tu:TT} {A B:TA} {D:Ends} {σ:St} {H:Hp} {Q:VK} {R:Bool->Hp->Prop} {S:List V->Hp->Prop} {i:Nat} {v:V} {g:TG} {r r':R2} {K:α3} {wi:TI} {cp:Caps}
theorem DT_:tSeq t u D σ H=t {D with nx:=u D} σ H:=rfl
theorem AX_:Dp_ D σ H=D.nx σ H:=rfl
theorem DU_:tAsg te g D σ H=te σ H fun x H1=>g x σ H1 D.nx:=rfl
theorem XI  : Jn i v σ H N=N (σ.set i (some v)) H:=rfl
theorem DV_:tVar i σ H Q=∃v,σ[i]?=some (some v)/\Q v H:=rfl
theorem r_c:tC v σ H Q=Q v H:=rfl
theorem r_op:tOp r ta tb σ H Q=ta σ H fun x H1=>tb σ H1 fun y H2=>r x y H2 Q:=rfl
theorem r_un  : tUn f ta σ H Q=ta σ H fun x H1=>f x H1 Q:=rfl
theorem r_I    : rI C f x y H Q=∃i j,x=.int i/\y=.int j/\C i j/\Q (f i j) H:=rfl
theorem r_I0   : rI0 f x y H Q=∃i j,x=.int i/\y=.int j/\Q (f i j) H:=rfl
theorem r_U   : rU f x H Q=∃i,x=.int i/\Q (f i) H:=rfl
theorem AY_    : DC_ sp fR E A σ H Q=A σ H fun vs H1=>sp (vs++fR) H1 Q E:=rfl
theorem AZ_:DB_ te A σ H S=te σ H fun x H1=>A σ H1 fun xs H2=>S (x::xs) H2:=rfl
theorem DW_:tNil σ H S=S [] H:=rfl
theorem DX_:tRet te D σ H=te σ H D.rt:=rfl
theorem Ba_:Dq_ te D σ H=te σ H fun _ H1=>D.nx σ H1:=rfl
theorem r_if:tIfS tt t u D σ H=tt σ H fun b H1=>if b=true then t D σ H1 else u D σ H1:=rfl
theorem r_B:tB te σ H R=te σ H fun x H1=>∃c,x=.bl c/\R c H1:=rfl
theorem Bb_:Zh te σ H R=te σ H fun x H1=>∃c,x=.bl c/\R c H1:=rfl
theorem DY_:tAnd tt tu σ H R=tt σ H fun c H1=>if c=true then tu σ H1 R else R false H1:=rfl
theorem r_or:tOr tt tu σ H R=tt σ H fun c H1=>if c=true then R true H1 else tu σ H1 R:=rfl
theorem DZ_:tNot tt σ H R=tt σ H fun c H1=>R (!c) H1:=rfl
theorem Bc_:Dm_ ta tb σ H Q=ta σ H fun x H1=>∃c,x=.bl c/\if c=true then tb σ H1 Q else Q (.bl false) H1:=rfl
theorem XJ:AT_ r r' ta tb tc' σ H Q=ta σ H fun x H1=>tb σ H1 fun y H2=>r x y H2 fun z H3=>∃k,z=.bl k/\(if k=true then tc' σ H3 fun w' H4=>r' y w' H4 Q else Q (.bl false) H3):=rfl
theorem r_CB  : tCB f A σ H Q=A σ H fun vs H1=>f vs H1 Q:=rfl
theorem Ea_:tLst A σ H Q=A σ H fun xs H1=>xs.length<=sizeLine/\∀p,H1 p=none->Q (.ref p) (upd H1 p (.lst xs)):=rfl
theorem Eb_:tTup A σ H Q=A σ H fun xs H1=>xs.length<=sizeLine/\∀p,H1 p=none->Q (.ref p) (upd H1 p (.tup xs)):=rfl
theorem Ec_  : rIxL K x y H Q=∃p xs i v,x=.ref p/\y=.int i/\SqL K H p xs/\atI xs i=some v/\Q v H:=rfl
theorem Ed_  : rIxT K x y H Q=∃p xs i v,x=.ref p/\y=.int i/\SqT K H p xs/\atI xs i=some v/\Q v H:=rfl
theorem r_sl   : tSl f te tl th σ H Q=te σ H fun x H1=>tl σ H1 fun l H2=>th σ H2 fun u H3=>f x l u H3 Q:=rfl
theorem Bd_  : DG_ te σ H U=te σ H fun x H1=>∃i,x=.int i/\U (some i) H1:=rfl
theorem UL  : Xl σ H U=U none H:=rfl
theorem Ee_  {lo hi:Option Int}:rSlL K x lo hi H Q=∃a xs,x=.ref a/\SqL K H a xs/\∀p,H p=none->Q (.ref p) (upd H p (.lst (cutV xs lo hi))):=rfl
theorem r_BM   : tBM K T f te A σ H Q=te σ H fun x H1=>tyV K T x H1/\A σ H1 fun xs H2=>f x xs H2 Q:=rfl
theorem UM   : Xr x vs H Q=∃l xs y,x=.ref l/\vs=[y]/\H l=some (.lst xs)/\xs.length<sizeLine/\Q .non (upd H l (.lst (xs++[y]))):=rfl
theorem Be_    : gSub to ti ts v σ H N=to σ H fun o H1=>ti σ H1 fun i H2=>ts o i v H2 fun H3=>N σ H3:=rfl
theorem Bf_   : DJ_ o k v H N=∃p xs m j,o=.ref p/\k=.int m/\H p=some (.lst xs)/\ixN xs.length m=some j/\N (upd H p (.lst (xs.set j v))):=rfl
theorem r_Eq  : rEq x y H Q=(scal x y=true/\Q (.bl (decide (x=y))) H):=rfl
theorem r_Ne  : rNe x y H Q=(scal x y=true/\Q (.bl (!decide (x=y))) H):=rfl
theorem XM  : Dv_ K te σ H Z=te σ H fun x H1=>∃a,x=.ref a/\(∃xs,SqL K H1 a xs)/\Z (Itl K a) H1:=rfl
theorem Bg_  : iTup K te σ H Z=te σ H fun x H1=>∃a,x=.ref a/\(∃xs,SqT K H1 a xs)/\Z (Itt K a) H1:=rfl
theorem XN  : Dw_ A σ H Z=A σ H fun vs H1=>∃j:Int,vs=[.int j] /\ -(2 ^ 62)<=j/\j<2 ^ 62/\Z (Itr 0 j.toNat) H1:=rfl
theorem Ef_  : tAug i te ti D σ H=∃x,σ[i]?=some (some x)/\te σ H fun y H1=>ti x y H1 fun z H2=>D.nx (σ.set i (some z)) H2:=rfl
theorem r_ip   : ipI f x y H Q=∃i j,x=.int i/\y=.int j/\Q (.int (f i j)) H:=rfl
theorem Bh_:VI σ H R=R true H:=rfl
end
theorem Same.new    (h:H p=none):Same H (upd H p o):=fun b u e=>by rw[Ai (AB e h)];exact e
theorem Same.newT    (s:Same H H')(h:H' p=none):Same H (upd H' p o):=s.trans (Same.new h)
theorem Same.over    (s:Same H H')(h:H p=none):Same H (upd H' p o):=fun b u e=>by rw[Ai (AB e h)];exact s b u e
theorem A4    (h:upd H p o D=none):H D=none/\D≠p:=by
 by_cases e:D=p
 ·subst e;rw[Ab]at h;cases h
 ·rw[Ai e]at h;exact⟨h,e⟩
theorem Same.seqT {K:α3}    (e:Same H H')(h:SqT K H a xs):SqT K H' a xs:=by
 rcases h with (h|⟨o,h⟩)|h
 ·exact .inl (.inl (e _ _ h))
 ·exact .inl (.inr ⟨o,e _ _ h⟩)
 ·exact .inr h
theorem hu9   (hr:Room k A):A.units+8<cLine:=by have:=hr.units;lia
section
variable {K:α3} {wi:TI} {cp:Caps} {g:TG} {tc:TT} {te:TE} {σ:St} {H:Hp} {Q:VK}
theorem Eg_               : (cxOf CX P w K mg base N qual scope f cd A outer s H E).K=K:=rfl
noncomputable def Q8 (J:It)(cp:Caps)(g:TG)(tc:TT)(te:TE)(σ:St)(H1:Hp)(Q:VK):Prop:=∃W:Nat->Nat->List V->St->Hp->Prop,(∃m,W 0 m [] (cp.st σ) H1)/\∀i m ys ag H',W i m ys ag H' ->
 ys.length<sizeLine/\((J.stop i H'/\∀D,H' D=none->Q (.ref D) (upd H' D (.lst ys)))\/(J.go i H'/\∃N:List V->St->Hp->Prop,(∀zs aj H2,N zs aj H2->∃m',m'<m/\W (i+1) m' zs aj H2)/\∀x H2,J.yld i H' x H2->g x ag H2 fun aj H3=>tc aj H3 fun b H4=>
  if b=true then te aj H4 fun v H5=>N (ys++[v]) aj H5 else N ys aj H4))
theorem Bi_:Zr wi cp g tc te σ H Q=wi σ H fun J H1=>Q8 J cp g tc te σ H1 Q:=rfl
noncomputable def ForW (J:It)(g:TG)(tb:TS)(D:Ends)(σ:St)(H1:Hp):Prop:=∃W:Nat->Nat->St->Hp->Prop,(∃m,W 0 m σ H1)/\∀i m σ H,W i m σ H ->
 (J.stop i H/\D.nx σ H)\/(J.go i H/\∃N:St->Hp->Prop,(∀ag H',N ag H'->∃m',m'<m/\W (i+1) m' ag H')/\∀x H',J.yld i H x H'->g x σ H' fun aj H2=>tb {D with nx:=N,ct:=N,bk:=D.nx} aj H2)
theorem Eh_   : tFor wi g tb D σ H=wi σ H fun J H1=>ForW J g tb D σ H1:=rfl
theorem forL        (Pv:Nat->St->Hp->Prop)(h0:Pv 0 σ H)(hl:∀i σ H,i<=xs.length->Pv i σ H->SqL K H a xs)
  (hs:∀i x σ H,xs[i]?=some x->Pv i σ H->g x σ H fun aj H2=>tb {D with nx:=Pv (i+1),ct:=Pv (i+1),bk:=D.nx} aj H2) (hd:∀σ H,Pv xs.length σ H->D.nx σ H):ForW (Itl K a) g tb D σ H:=Zf Pv h0 hl hs hd
theorem forT        (Pv:Nat->St->Hp->Prop)(h0:Pv 0 σ H)(hl:∀i σ H,i<=xs.length->Pv i σ H->SqT K H a xs)
  (hs:∀i x σ H,xs[i]?=some x->Pv i σ H->g x σ H fun aj H2=>tb {D with nx:=Pv (i+1),ct:=Pv (i+1),bk:=D.nx} aj H2) (hd:∀σ H,Pv xs.length σ H->D.nx σ H):ForW (Itt K a) g tb D σ H:=Cg_ Pv h0 hl hs hd
theorem forR {lo:Int}       (Pv:Nat->St->Hp->Prop)(h0:Pv 0 σ H)
  (hs:∀i σ H,i<n->Pv i σ H->g (.int (lo+i)) σ H fun aj H2=>tb {D with nx:=Pv (i+1),ct:=Pv (i+1),bk:=D.nx} aj H2) (hd:∀σ H,Pv n σ H->D.nx σ H):ForW (Itr lo n) g tb D σ H:=Xb Pv h0 hs hd
theorem Q9   (Pv:Nat->List V->St->Hp->Prop)(h0:Pv 0 [] (cp.st σ) H)(hz:xs.length<sizeLine)
  (hl:∀i ys σ H,i<=xs.length->Pv i ys σ H->SqL K H a xs/\ys.length<=i)
  (hs:∀i x ys σ H,xs[i]?=some x->Pv i ys σ H->g x σ H fun aj H2=>tc aj H2 fun b H3=>if b=true then te aj H3 fun v H4=>Pv (i+1) (ys++[v]) aj H4 else Pv (i+1) ys aj H3)
  (hd:∀ys σ H,Pv xs.length ys σ H->∀D,H D=none->Q (.ref D) (upd H D (.lst ys))):Q8 (Itl K a) cp g tc te σ H Q:=XG Pv h0 hz hl hs hd
theorem Zu   (Pv:Nat->List V->St->Hp->Prop)(h0:Pv 0 [] (cp.st σ) H)(hz:xs.length<sizeLine)
  (hl:∀i ys σ H,i<=xs.length->Pv i ys σ H->SqT K H a xs/\ys.length<=i)
  (hs:∀i x ys σ H,xs[i]?=some x->Pv i ys σ H->g x σ H fun aj H2=>tc aj H2 fun b H3=>if b=true then te aj H3 fun v H4=>Pv (i+1) (ys++[v]) aj H4 else Pv (i+1) ys aj H3)
  (hd:∀ys σ H,Pv xs.length ys σ H->∀D,H D=none->Q (.ref D) (upd H D (.lst ys))):Q8 (Itt K a) cp g tc te σ H Q:=Zs Pv h0 hz hl hs hd
theorem Ra {lo:Int}  (Pv:Nat->List V->St->Hp->Prop)(h0:Pv 0 [] (cp.st σ) H)(hz:n<sizeLine)
  (hl:∀i ys σ H,i<=n->Pv i ys σ H->ys.length<=i)
  (hs:∀i ys σ H,i<n->Pv i ys σ H->g (.int (lo+i)) σ H fun aj H2=>tc aj H2 fun b H3=>if b=true then te aj H3 fun v H4=>Pv (i+1) (ys++[v]) aj H4 else Pv (i+1) ys aj H3)
  (hd:∀ys σ H,Pv n ys σ H->∀D,H D=none->Q (.ref D) (upd H D (.lst ys))):Q8 (Itr lo n) cp g tc te σ H Q:=VJ Pv h0 hz hl hs hd
theorem He    (f:V->V)(e:cp.st σ=none::ag)(hl:SqT K H a xs)(hz:xs.length<sizeLine)(hs:∀x∈xs,∀R:VK,R (f x) H->te (some x::ag) H R)(hd:∀D,H D=none->Q (.ref D) (upd H D (.lst (xs.map f)))):
  Q8 (Itt K a) cp (Jn 0) VI te σ H Q:=by
 refine Zu (xs:=xs) (fun i ys aj H2=>H2=H/\ys=(xs.take i).map f/\∃o,aj=o::ag) ⟨rfl,by simp,none,e⟩ hz (fun i ys aj H2 hi h=>?_) (fun i x ys aj H2 hx h=>?_) (fun ys aj H2 h=>?_)
 ·obtain⟨rfl,rfl,_⟩:=h
  exact⟨hl,by rw[ja_,jB_];lia⟩
 ·obtain⟨rfl,rfl,o,rfl⟩:=h
  refine hs x (jc_ hx) _ ⟨rfl,?_,some x,rfl⟩
  rw[jU_,hx];simp
 ·obtain⟨rfl,rfl,_⟩:=h
  rw[jT_]
  exact hd
theorem Ln    (f:V->V)(e:cp.st σ=none::ag)(hl:SqL K H a xs)(hz:xs.length<sizeLine)(hs:∀x∈xs,∀R:VK,R (f x) H->te (some x::ag) H R)(hd:∀D,H D=none->Q (.ref D) (upd H D (.lst (xs.map f)))):
  Q8 (Itl K a) cp (Jn 0) VI te σ H Q:=by
 refine Q9 (xs:=xs) (fun i ys aj H2=>H2=H/\ys=(xs.take i).map f/\∃o,aj=o::ag) ⟨rfl,by simp,none,e⟩ hz (fun i ys aj H2 hi h=>?_) (fun i x ys aj H2 hx h=>?_) (fun ys aj H2 h=>?_)
 ·obtain⟨rfl,rfl,_⟩:=h
  exact⟨hl,by rw[ja_,jB_];lia⟩
 ·obtain⟨rfl,rfl,o,rfl⟩:=h
  refine hs x (jc_ hx) _ ⟨rfl,?_,some x,rfl⟩
  rw[jU_,hx];simp
 ·obtain⟨rfl,rfl,_⟩:=h
  rw[jT_]
  exact hd
end
noncomputable def tCut (t u:TS):TS:=fun D σ H=>∃R:St->Hp->Prop,t {D with nx:=R} σ H/\∀ag H',R ag H'->u D ag H'
theorem C0  {st:Stmt}{rest:List Stmt}  (h1:PS X st t)(h2:PSs X rest u):PSs X (st::rest) (tCut t u):=by
 intro af s σ H D I h
 obtain⟨R,ha,hb⟩:=h
 refine wpAny_execs_cons (thn (h1 af s σ H {D with nx:=R} I ha) fun f s1 q=>?_)
 cases f with
 |next=>
  obtain⟨ag,H',I',q⟩:=q
  exact h2 af s1 ag H' D I' (hb ag H' q)
 |ret v=>exact q
 |brk=>exact q
 |cont=>exact q
theorem AE:1000000<sizeLine:=by rw[sizeLine_eq];decide
theorem EI {ns:α2}{x:V}(h:x∈ns.map V.int):∃n,n∈ns/\x=.int n:=by
 obtain⟨n,hn,e⟩:=jv_.mp h
 exact⟨n,hn,e.symm⟩
theorem Dy {ns:α2}{i:Nat}{x:V}(h:(ns.map V.int)[i]?=some x):∃n,ns[i]?=some n/\x=.int n:=by
 rw[jd_]at h
 cases e:ns[i]? with
 |none=>rw[e]at h;cases h
 |some n=>rw[e]at h;exact⟨n,rfl,(jp_ h).symm⟩
noncomputable def cutI (ns:α2)(lo hi:Option Int):α2:=(ns.drop (HT.sIx ns.length 0 lo)).take (HT.sIx ns.length ns.length hi-HT.sIx ns.length 0 lo)
theorem UN (ns:α2)(lo hi:Option Int):cutV (ns.map V.int) lo hi=(cutI ns lo hi).map V.int:=by
 unfold cutV cutI
 rw[ja_,<-List.map_drop,<-List.map_take]
theorem UO (ns:α2)(j:Nat)(x:Int):(ns.map V.int).set j (.int x)=(ns.set j x).map V.int:=by rw[List.map_set]
theorem Ei_ {n:Nat}{i:Int}(h0:0<=i)(h1:i<n):ixN n i=some i.toNat:=by
 unfold ixN;rw[if_pos h0,if_pos h1]
theorem Ej     (h0:0<=i)(h:xs[i.toNat]?=some v):atI xs i=some v:=by
 have:=Gm h
 rwa [show ((i.toNat:Nat):Int)=i by lia]at this
theorem O8 {K:α3}  : kitOne K t t=some true:=by unfold kitOne;rw[if_pos (by simp)]
theorem Rb {K:α3}:kitOne K (.type "int") (.type "bool")=some false:=by
 first|rfl|decide +kernel|(unfold kitOne;kernel_rfl)
theorem UP  : ∀u,RelV (V.ty n) u->u=.type n:=fun _ h=>h
end L2
namespace L2
open PySem PySem.W PySem.Spec PySem.Calls PyProof.Rows
section
variable {prog:Program} {w:World} {A:Around} {E:Value->Shared->Prop} {s:Shared} {K:Frag} {x D:Addr} {ox:Obj}
structure ExcCls (K:Frag)(D:Addr):Prop where
 ga:findIn K (.ref D) "__getattribute__"=some (some (.builtin "BaseException.__getattribute__"))
 hk:findIn K (.ref D) "__getattr__"=some none
 cl:(clsIn K D).isSome=true
 ca:findIn K (.ref D) "__class__"=some (some (.builtin "object.__class__"))
 gs:specialIn K (.builtin "object.__class__") "__get__"=some (some (.builtin "getset_descriptor.__get__"))
 tk:takesIn K (.builtin "object.__class__")=some true
 mo:mroIn K D (.type "object")=some true
 mb:mroIn K D (.type "BaseException")=some true
noncomputable def O9 (x D:Addr)(h:Heap):Prop:=∃ox,h.get? x=some ox/\ox.cls=.ref D
theorem O9.type   (I:O9 x D h):Looks M h (typeOf (.ref x)) (.ref D):=by
 obtain⟨ox,h1,h2⟩:=I
 exact h2 ▸ (Looks.ld h1).andThen .now
theorem Zv   (X:K.In h)(C:ExcCls K D):Looks M h (Builtin.ObjectAttr.find (.ref x) (.ref D) "__class__") (.bind (.builtin "getset_descriptor.__get__") (.builtin "object.__class__")):=
 (looks_findIn X C.ca).andThen ((show Looks M h (Builtin.ObjectAttr.getOf (some (.builtin "object.__class__"))) _ from looks_specialIn X C.gs).andThen
  ((show Looks M h (Builtin.ObjectAttr.dataDescriptor? (some (.builtin "object.__class__")) (some (.builtin "getset_descriptor.__get__"))) (some (.builtin "getset_descriptor.__get__",.builtin "object.__class__")) from (looks_takesIn X C.tk).andThen .now).andThen (Looks.tag .now)))
open Builtin Builtin.ObjectAttr Builtin.Getset_descriptor in
theorem Cs_ {R:Result->Shared->Prop}{tp:Value}(X:K.In s.heap)(I:O9 x D s.heap)(hm:mroIn K D (.type "object")=some true)(h:R (.ok (.ret (.ref D))) s):codeAny (model prog w) A (.call (.builtin "getset_descriptor.__get__") ⟨[.builtin "object.__class__",.ref x,tp],[]⟩) R s:=by
 have l0:=I.type (M:=model prog w)
 have l1:=looks_mroIn (M:=model prog w) X hm
 obtain⟨_,_,_,_,_⟩:=s
 have sg:=KF.slot_gs
 refine codeAny_call_builtin sg.plain KF.entry_gs (sg.check _ _ _ _ _ _ _ _ KF.type_class (KF.args_gs _ _ _) ?_)
 unfold Builtin.«getset_descriptor.__get__» descrGet
 rw[dga_obj]
 unfold descrGetter descrCheckInstance isInstance descrNameAndClass
 refine je_ (ju_ ?_)
 simp only[KF.owner_class]
 repeat lk
 refine⟨Code.quiet_builtin _ (by decide +kernel),codeAny_builtin KF.entry_class ?_⟩
 unfold Builtin.«object.__class__» shownTypeOf
 repeat lk
 exact h
theorem XO    (X:K.In s.heap)(I:O9 x D s.heap)(C:ExcCls K D)(hq:Q () s):wpAny M A (checkBuiltinCall "BaseException.__getattribute__" ⟨[.ref x,nameV],[]⟩) Q E s:=by
 have a1:=F.args_bexc_ga (.ref x) nameV
 have l0:=I.type (M:=M)
 have l1:=looks_mroIn (M:=M) X C.mb
 obtain⟨_,_,_,_,_⟩:=s
 simp only[checkBuiltinCall,show builtinKind "BaseException.__getattribute__"=some .slot by decide +kernel,show splitId "BaseException.__getattribute__"=some ("BaseException","__getattribute__") by decide +kernel,isInstance]
 repeat (first|lk|wp_step)
 exact hq
theorem XQ   (X:K.In s.heap)(I:O9 x D s.heap)(C:ExcCls K D)(hq:Q (.done (.ret (.ref D))) s):wpAny (model prog w) A (Builtin.«object.__getattribute__» ⟨[.ref x,.str "__class__" tk],[]⟩) Q E s:=by
 obtain⟨hh,g,d,t,os⟩:=s
 have L0:=I.type (M:=model prog w)
 have L1:=Zv (M:=model prog w) (x:=x) X C
 unfold Builtin.«object.__getattribute__»
 refine je_ (ju_ ?_)
 refine je_ (ju_ ?_)
 refine je_ (L0.at ?_)
 refine je_ (L1.at ?_)
 show wpAny _ _ (Builtin.ObjectAttr.bindTo _ _ _ _) _ _ _
 unfold Builtin.ObjectAttr.bindTo
 dsimp only
 refine je_ (qX_ (wpAny_call (Cs_ (K:=K) (s:=⟨hh,g,d,t,os⟩) X I C.mo ?_)))
 exact ju_ hq
theorem XR  (X:K.In s.heap)(I:O9 x D s.heap)(C:ExcCls K D)(h:Q (some (.ref D)) {s with toks:=s.toks+1}):wpAny (model prog w) A (getAttr? (.ref x) "__class__") Q E s:=by
 obtain⟨hh,g,d,t,os⟩:=s
 have L0:=I.type (M:=model prog w)
 have L1:=looks_findIn (M:=model prog w) X C.ga
 have L2:=looks_findIn (M:=model prog w) X C.hk
 unfold getAttr? getAttrBy? getAttrBy
 refine je_ (wpAny_mkText (je_ (xH_ (qX_ (je_ (L0.at (je_ (L1.at ?_))))))))
 show wpAny _ _ (getAttrByItsOwn _ _ _ _ _ _) _ _ _
 unfold getAttrByItsOwn hookBefore
 refine je_ ?_
 rw[if_pos (by rfl)]
 refine L2.at (je_ (xH_ (qX_ ?_)))
 unfold callGetattribute
 rw[if_neg (by decide)]
 unfold boundAndCalled
 have f3:=PySem.F.attr_ValueError.ga.bind (.ref x)
 refine je_ (wpAny_of_eq f3 ?_)
 refine wpAny_call (codeAny_call_builtin PySem.F.attr_ValueError.ga.plain F.entry_bexc_ga (XO (K:=K) (s:=⟨hh,g,d,t+1,os⟩) X I C (XQ (K:=K) (s:=⟨hh,g,d,t+1,os⟩) X I C ?_)))
 exact ju_ (ju_ h)
theorem Zw (C:ExcCls K D):KitX K (.ref x) (.ref D) (O9 x D):=by
 have cl:=C.cl
 unfold clsIn at cl
 refine⟨fun _ _ _ I=>I.type,fun _ _ X _=>?_,fun h tp dd its n sl X htp=>?_,fun X I k=>XR X I C k⟩
 ·split at cl
  ·rename_i ho
   intro A' Q' E' s' k q
   exact je_ (wpAny_loadPart (k _ _ (X _ _ ho)) (ju_ q))
  ·cases cl
 ·split at cl
  ·rename_i ho
   cases hb:(Value.ref D==Value.ref tp) with
   |false=>rfl
   |true=>
    obtain rfl:D=tp:=Value.ref.inj (zU_.mp hb)
    cases (X _ _ ho).symm.trans htp
  ·cases cl
end
end L2
namespace L2
open PySem PySem.Spec PyProof.Rows
noncomputable def excO (ea C:Addr):HO:=.ext (O9 ea C)
theorem Rc  : DE X (.builtin "isinstance") (fun xs H Q=>∃ea C c cv b,xs=[.ref ea,c]/\H ea=some (excO ea C)/\ExcCls X.K C/\(∀u,RelV c u->u=cv)/\kitOne X.K (.ref C) cv=some b/\Q (.bl b) H):=by
 intro af s σ H xs us Q I r h
 obtain⟨ea,C,c,cv,b,rfl,hea,hC,hc,hk,q⟩:=h
 obtain⟨u,w',rfl,rx,rc⟩:=vals2 r
 rw[hc _ rc]
 cases rx
 obtain⟨p,_,_⟩:=(show Cc X.prog X.w H s.heap ea (.ext (O9 ea C)) from I.hok ea _ hea)
 exact qm_ (Zw hC) I.kIn p hk (fun z=>nomatch z) fun tk=>⟨.bl b,H,I.tok tk,rfl,q⟩
end L2
namespace HT
open PySem PySem.Spec PyProof.Rows
open PySem.AutoSeq1 (wpAny_loadPart')
section
open PySem.SeqAt PySem.MeetsSeq PySem.MeetsSeq2 PySem.MeetsSeq3
theorem int_rmul_tup (a:Int)(t:Tok)(l:Addr)(items:Array Value)(n:Nat)(dd:Option Addr)(sl:Array (α5)):
  Meets (Builtin.«int.__rmul__» ⟨[.int a t,.ref l],[]⟩) (fun _ R s=>s.heap.get? l=some {cls:=.type "tuple",dict:=dd,data:=.seq items n,slots:=sl}/\R (.ok (.ret Value.notImplemented)) s):=
 .of_wp fun prog w A R s h=>by obtain⟨hp,g,d,tk,os⟩:=s;obtain⟨hl,h⟩:=h;wp_walk using qn_ hl;exact⟨_,rfl,h⟩
theorem noFill_tuple_mul:fillsNumberSlot (.type "tuple") "mul"=pure false:=by
 first|exact fillsNumberSlot_false (by decide +kernel)|(unfold fillsNumberSlot;kernel_rfl)|kernel_rfl
theorem repeat_tuple:seqRepeat? (.type "tuple")=pure (some (.builtin "tuple.__mul__")):=by
 unfold seqRepeat?
 rw[PySem.seqSlot_of (T := "tuple") (name := "__mul__") (id := "tuple.__mul__") zu_.lookup (by decide +kernel),PySem.seqSlot_of (T := "tuple") (name := "__rmul__") (id := "tuple.__rmul__") F.slot_tuple_rmul.lookup (by decide +kernel)]
 rfl
theorem tup_mul_one (l:Addr)(items:Array Value)(n:Nat)(dd:Option Addr)(sl:Array (α5))(u:Tok):
  Meets (Builtin.«tuple.__mul__» ⟨[.ref l,.int 1 u],[]⟩) (fun _ R s=>s.heap.get? l=some {cls:=.type "tuple",dict:=dd,data:=.seq items n,slots:=sl}/\R (.ok (.ret (Value.ref l))) s):=
 .of_wp fun prog w A R s h=>by
  obtain⟨hp,g,d,tk,os⟩:=s;obtain⟨hl,h⟩:=h
  have f1:=AutoSeq1.idx_int
  unfold Builtin.«tuple.__mul__»
  wp_walk using qn_ hl
  exact⟨_,rfl,h⟩
theorem tup_mul_none (l:Addr)(items:Array Value)(n:Nat)(dd:Option Addr)(sl:Array (α5))(x:Int)(u:Tok)(h0:¬ items.isEmpty=true)(h1:x<=0)(h2 : -(2 ^ 63)<=x):
  Meets (Builtin.«tuple.__mul__» ⟨[.ref l,.int x u],[]⟩) (fun _ R s=>s.heap.get? l=some {cls:=.type "tuple",dict:=dd,data:=.seq items n,slots:=sl}/\R (.ok (.ret (Value.ref s.heap.objs.size))) {s with heap:=s.heap.push {cls:=.type "tuple",data:=.seq #[]} }):=
 .of_wp fun prog w A R s h=>by
  obtain⟨hp,g,d,tk,os⟩:=s;obtain⟨hl,h⟩:=h
  have f1:=AutoSeq1.idx_int
  have c1:(decide (x < -(2 ^ 63:Int))||decide (x >= 2 ^ 63))=false:=by simp;lia
  have c2:(items.isEmpty||x==1)=false:=by simp at h0 ⊢;exact⟨h0,by lia⟩
  have c3:(decide (x<=0)||items.isEmpty)=true:=by simp[h1]
  unfold Builtin.«tuple.__mul__»
  wp_walk using qn_ hl
  rw[if_neg (by rw[c1];exact jt_)]
  wp_walk using qn_ hl
  rw[if_neg (by rw[c2];exact jt_)]
  rw[if_pos c3]
  wp_walk using qn_ hl
  exact⟨_,rfl,h⟩
theorem tup_mul_many (l:Addr)(items:Array Value)(n:Nat)(dd:Option Addr)(sl:Array (α5))(x:Int)(u:Tok)(h0:¬ items.isEmpty=true)(h1:1<x)(h2:x<2 ^ 63)(h3:items.size*x.toNat<=sizeLine):
  Meets (Builtin.«tuple.__mul__» ⟨[.ref l,.int x u],[]⟩) (fun _ R s=>s.heap.get? l=some {cls:=.type "tuple",dict:=dd,data:=.seq items n,slots:=sl}/\R (.ok (.ret (Value.ref s.heap.objs.size))) {s with heap:=s.heap.push {cls:=.type "tuple",data:=.seq ((List.replicate x.toNat items).foldl (· ++ ·) #[])} }):=
 .of_wp fun prog w A R s h=>by
  obtain⟨hp,g,d,tk,os⟩:=s;obtain⟨hl,h⟩:=h
  have f1:=AutoSeq1.idx_int
  have hs:sizeLine=16777216:=sizeLine_eq
  have c1:(decide (x < -(2 ^ 63:Int))||decide (x >= 2 ^ 63))=false:=by simp;lia
  have c2:(items.isEmpty||x==1)=false:=by simp at h0 ⊢;exact⟨h0,by lia⟩
  have c3:(decide (x<=0)||items.isEmpty)=false:=by simp at h0 ⊢;exact⟨by lia,h0⟩
  obtain⟨k,rfl⟩:∃k:Nat,x=(k:Int):=⟨x.toNat,by lia⟩
  have c4:¬ ((items.size:Int)*(k:Int) > (2 ^ 63-1) / 8):=by
   rw[ji_]at h3
   have:((items.size*k:Nat):Int)=(items.size:Int)*(k:Int):=by push_cast;rfl
   lia
  have c5:Builtin.Tuple.tupleTooMany ((items.size:Int)*(k:Int))=false:=by
   unfold Builtin.Tuple.tupleTooMany
   rw[ji_]at h3
   have:((items.size*k:Nat):Int)=(items.size:Int)*(k:Int):=by push_cast;rfl
   simp
   lia
  unfold Builtin.«tuple.__mul__»
  wp_walk using qn_ hl
  rw[if_neg (by rw[c1];exact jt_)]
  wp_walk using qn_ hl
  rw[if_neg (by rw[c2];exact jt_)]
  rw[if_neg (by rw[c3];exact jt_),if_neg c4,if_neg (by rw[c5];exact jt_)]
  wp_walk using qn_ hl
  have hz:¬ (List.foldl (fun x1 x2=>x1++x2) #[] (List.replicate ((k:Int)).toNat items)).size > sizeLine:=by
   have:=L2.foldl_rep items.toList k []
   rw[xQ_]at this
   have e:items.toList.toArray=items:=by simp
   rw[e]at this
   rw[ji_,this,jl_,L2.len_rep]
   rw[ji_]at h3
   rw[j3_,Nat.mul_comm]
   lia
  rw[if_neg hz]
  wp_walk using qn_ hl
  exact⟨_,rfl,h⟩
end
end HT
namespace L2
open PySem PySem.Spec PyProof.Rows
section
variable {X:Cx}
noncomputable def XS (K:α3):R2:=fun x y H Q=>∃l k xs,x=.ref l/\y=.int k/\SqT K H l xs/\xs ≠ [] /\ -(2 ^ 63)<=k/\k<2 ^ 63/\xs.length*k.toNat<=sizeLine /\
 (k=1->Q (.ref l) H)/\(k≠1->∀p,H p=none->Q (.ref p) (upd H p (.tup (List.replicate k.toNat xs).flatten)))
theorem XT:OpR X (binaryOp .Mult) (XS X.K):=by
 intro af s σ H x y v u Q I rx ry h
 obtain⟨l,k,xs,rfl,rfl,hq,aw,h1,h2,hz,q1,q2⟩:=h
 cases rx
 obtain⟨t,rfl⟩:=ry
 obtain⟨its,r,p1,_⟩:=I.tuple hq
 have ak:=r.length
 have eZ:¬ its.toArray.isEmpty=true:=by
  intro z
  have:its=[]:=by simpa using z
  exact aw (r.nil_iff.mp this)
 obtain⟨⟨cls,dd,data,sl⟩,ho,hc,n,hd⟩:=id p1
 simp only at hc hd
 subst hc hd
 refine wpAny_binaryOp_repeat_ref (T := "tuple") (U := "int") (by decide) ⟨_,ho,rfl⟩ (fun s'=>typeIs_int s' k t) HT.noFill_tuple_mul F.fills_int_mul zG_ HT.repeat_tuple F.slot_int_index.lookup
  (xA_ zG_ (typeIs_int s k t) F.entry_int_rmul (F.args_int_rmul_2 _ _) (HT.int_rmul_tup k t l its.toArray n dd sl) ⟨ho,rfl,⟨_,ho,rfl⟩,?_⟩)
 by_cases k1:k=1
 ·subst k1
  exact xA_ zu_ ⟨_,ho,rfl⟩ F.entry_tuple_mul (F.args_tuple_mul_2 _ _) (HT.tup_mul_one l its.toArray n dd sl t) ⟨ho,⟨.ref l,H,I,rfl,q1 rfl⟩⟩
 ·have fin:∀(ys:List Value),Vals (List.replicate k.toNat xs).flatten ys->EP X af σ Q (.ref s.heap.objs.size) {s with heap:=s.heap.push {cls:=.type "tuple",data:=.seq ys.toArray} }:=fun ys rv=>
   ⟨.ref s.heap.objs.size,_,I.laid (t':=s.toks) (o:=.tup (List.replicate k.toNat xs).flatten) (fun b ob q=>jm_ _ q) (jg_ _) ⟨by rw[len_rep,Nat.mul_comm];exact hz,_,rv,IsTup.new _ _⟩,rfl,q2 k1 _ (I.hok.fresh (jg_ _))⟩
  by_cases k0:k<=0
  ·refine xA_ zu_ ⟨_,ho,rfl⟩ F.entry_tuple_mul (F.args_tuple_mul_2 _ _) (HT.tup_mul_none l its.toArray n dd sl k t eZ k0 h1) ⟨ho,?_⟩
   exact fin [] (by rw[show k.toNat=0 by lia];exact .nil)
  ·refine xA_ zu_ ⟨_,ho,rfl⟩ F.entry_tuple_mul (F.args_tuple_mul_2 _ _) (HT.tup_mul_many l its.toArray n dd sl k t eZ s!"" h2 (by rw[jl_,<-ak];exact hz)) ⟨ho,?_⟩
   have e:=foldl_rep its k.toNat []
   rw[xQ_]at e
   have e':List.foldl (fun x1 x2=>x1++x2) #[] (List.replicate k.toNat its.toArray)=(List.replicate k.toNat its).flatten.toArray:=e
   rw[e']
   exact fin _ (r.rep k.toNat)
noncomputable def HR (K:α3):R2:=fun x y H Q=>∃a b xs ys,x=.ref a/\y=.ref b/\SqT K H a xs/\SqT K H b ys/\xs.length+ys.length<=sizeLine /\
 (xs=[]->Q (.ref b) H)/\(xs ≠ []->ys=[]->Q (.ref a) H)/\(xs ≠ []->ys ≠ []->∀p,H p=none->Q (.ref p) (upd H p (.tup (xs++ys))))
theorem Hf:OpR X (binaryOp .Add) (HR X.K):=by
 intro af s σ H x y v u Q I rx ry h
 obtain⟨a,b,xs,ys,rfl,rfl,ha,hb,hz,q0,q1,q2⟩:=h
 by_cases hx:xs=[]
 ·subst hx
  cases rx
  cases ry
  obtain⟨its,r1,p1,_⟩:=I.tuple ha
  obtain⟨aJ,r2,p2,_⟩:=I.tuple hb
  have:its=[]:=r1.nil_iff.mpr rfl
  subst this
  obtain⟨⟨cls,dd,data,sl⟩,ho,hc,n,hd⟩:=id p1
  obtain⟨⟨cls2,gX,data2,fS⟩,fT,bX,n2,ff⟩:=id p2
  simp only at hc hd bX ff
  subst hc hd bX ff
  exact concat_meets ⟨_,ho,rfl⟩ ⟨_,fT,rfl⟩ noFill_tuple_add seq_tuple_add zg_ x9_ (x5_ _ _)
   (PyProof.Rows.tuple_addW0 a b _ _ n n2 dd gX sl fS rfl) ⟨ho,fT,⟨.ref b,H,I,rfl,q0 rfl⟩⟩
 ·exact Cj_ af s σ H _ _ v u Q I rx ry ⟨a,b,xs,ys,rfl,rfl,ha,hb,hx,hz,q1 hx,q2 hx⟩
end
theorem Ov      (Pv:Nat->St->Hp->Prop)(h0:∃m,Pv m σ H)
  (hs:∀m σ H,Pv m σ H->c σ H fun b H1=>if b=true then ∃N:St->Hp->Prop,(∀ag H',N ag H'->∃m',m'<m/\Pv m' ag H')/\tb {D with nx:=N,ct:=N,bk:=D.nx} σ H1 else D.nx σ H1):AQ_ c tb D σ H:=⟨Pv,h0,hs⟩
theorem Ej_ {K:α3}    {lo hi:Option Int}:rSlT K x lo hi H Q=∃a xs,x=.ref a/\SqT K H a xs /\
 ¬ (HT.sIx xs.length 0 lo=0/\HT.sIx xs.length xs.length hi=xs.length)/\∀p,H p=none->Q (.ref p) (upd H p (.tup (cutV xs lo hi))):=rfl
theorem LH {α:Type}(x:α)(k:Nat):(List.replicate k [x]).flatten=List.replicate k x:=by
 induction k with
 |zero=>rfl
 |succ k ih=>rw[qf_,xz_,ih,qf_];rfl
inductive TyW (K:α3)(H:Hp):V->Value->Prop where
 | non:TyW K H .non (.type "NoneType")
 | bl (x:Bool):TyW K H (.bl x) (.type "bool")
 | int (i:Int):TyW K H (.int i) (.type "int")
 | str (x:Str):TyW K H (.str x) (.type "str")
 | lst {a:Addr} {xs:List V} (e:SqL K H a xs):TyW K H (.ref a) (.type "list")
 | tup {a:Addr} {xs:List V} (e:SqT K H a xs):TyW K H (.ref a) (.type "tuple")
 | exc {a C:Addr} (e:H a=some (excO a C)) (c:ExcCls K C):TyW K H (.ref a) (.ref C)
theorem EJ  : DE X (.builtin "isinstance") (fun xs H Q=>∃x c cv t b,xs=[x,c]/\TyW X.K H x t/\(∀u,RelV c u->u=cv)/\kitOne X.K t cv=some b/\Q (.bl b) H):=by
 intro af s σ H xs us Q I r h
 obtain⟨x,c,cv,t,b,rfl,ty,hc,hk,q⟩:=h
 cases ty with
 |non=>exact FE af s σ H _ us Q I r ⟨_,c,cv,_,b,rfl,.non,hc,hk,q⟩
 |bl y=>exact FE af s σ H _ us Q I r ⟨_,c,cv,_,b,rfl,.bl y,hc,hk,q⟩
 |int y=>exact FE af s σ H _ us Q I r ⟨_,c,cv,_,b,rfl,.int y,hc,hk,q⟩
 |str y=>exact FE af s σ H _ us Q I r ⟨_,c,cv,_,b,rfl,.str y,hc,hk,q⟩
 |exc e hC=>exact Rc af s σ H _ us Q I r ⟨_,_,c,cv,b,rfl,e,hC,hc,hk,q⟩
 |@lst a xs e=>
  obtain⟨u,w',rfl,rx,rc⟩:=vals2 r
  rw[hc _ rc]
  cases rx
  obtain⟨its,_,pl,_⟩:=I.list e
  obtain⟨o,ho,bw,_⟩:=pl.isList
  exact qm_ zS_ I.kIn ⟨o,ho,bw⟩ hk (fun z=>nomatch z) fun tk=>⟨.bl b,H,I.tok tk,rfl,q⟩
 |@tup a xs e=>
  obtain⟨u,w',rfl,rx,rc⟩:=vals2 r
  rw[hc _ rc]
  cases rx
  obtain⟨its,_,⟨o,ho,bw,_⟩,_⟩:=I.tuple e
  exact qm_ PySem.W.kitx_tuple I.kIn ⟨o,ho,bw⟩ hk (fun z=>nomatch z) fun tk=>⟨.bl b,H,I.tok tk,rfl,q⟩
end L2
namespace GW
noncomputable def Gr (L:Int):α2->α2
 |[]=>[0]
 |x::r=>if x=L-1 then 0::Gr L r else (x+1)::r
noncomputable def Gs (L:Int)(w:α2):α2:=(Gr L w.reverse).reverse
noncomputable def Bj (L:Int):α2->Int
 |[]=>0
 |x::r=>Bj L r*L+x+1
noncomputable def AZ (L:Int)(w:α2):Int:=Bj L w.reverse
noncomputable def inW (L x:Int):Bool:=decide (0<=x)&&decide (x<L)
noncomputable def isW (L:Int)(ws:α2):Bool:=ws.all (inW L)
theorem Ct_  : inW L x=true↔0<=x/\x<L:=by simp[inW]
theorem AF   : isW L ws=true ↔ ∀x∈ws,0<=x/\x<L:=by simp[isW,Ct_]
theorem Rf (L:Int)(m:Nat)(r:α2):Gr L (List.replicate m (L-1)++r)=List.replicate m 0++Gr L r:=by
 induction m with
 |zero=>rfl
 |succ m ih=>rw[qf_,zv_,Gr,if_pos rfl,ih,qf_,zv_]
theorem XU (L:Int)(a:α2)(x:Int)(m:Nat)(h:x≠L-1):Gs L (a++[x]++List.replicate m (L-1))=a++[x+1]++List.replicate m 0:=by
 unfold Gs
 rw[q4_,zi_,q4_,List.reverse_singleton,Rf]
 show (List.replicate m 0++Gr L (x::a.reverse)).reverse=_
 rw[Gr,if_neg h]
 simp
theorem XW (L:Int)(m:Nat):Gs L (List.replicate m (L-1))=List.replicate (m+1) 0:=by
 unfold Gs
 have:=Rf L m []
 rw[qi_]at this
 rw[zi_,this]
 show (List.replicate m (0:Int)++[0]).reverse=_
 rw[q4_,zi_]
 rfl
theorem SY (L:Int)(l:α2):Bj L (Gr L l)=Bj L l+1:=by
 induction l with
 |nil=>simp[Gr,Bj]
 |cons x r ih=>
  rw[Gr]
  by_cases h:x=L-1
  ·rw[if_pos h,Bj,ih,Bj,h,zY_];lia
  ·rw[if_neg h,Bj,Bj];lia
theorem VL (L:Int)(w:α2):AZ L (Gs L w)=AZ L w+1:=by
 unfold AZ Gs
 rw[qZ_,SY]
theorem S0  (hL:0<L)  (h:∀x∈l,0<=x/\x<L):∀x∈Gr L l,0<=x/\x<L:=by
 induction l with
 |nil=>intro x hx;simp[Gr]at hx;subst hx;exact⟨zl_ _,hL⟩
 |cons y r ih=>
  have hy:=h y jn_
  have hr:∀x∈r,0<=x/\x<L:=fun x hx=>h x (jk_ _ hx)
  intro x hx
  rw[Gr]at hx
  by_cases e:y=L-1
  ·rw[if_pos e]at hx
   rcases jL_.mp hx with rfl|hx
   ·exact⟨zl_ _,hL⟩
   ·exact ih hr x hx
  ·rw[if_neg e]at hx
   rcases jL_.mp hx with rfl|hx
   ·lia
   ·exact hr x hx
theorem S1  (hL:0<L)  (h:isW L w=true):isW L (Gs L w)=true:=by
 rw[AF]at h ⊢
 intro x hx
 unfold Gs at hx
 rw[q2_]at hx
 exact S0 hL (fun y hy=>h y (q2_.mp hy)) x hx
theorem Rg (L:Int)(l:α2):l.length<=(Gr L l).length/\(Gr L l).length<=l.length+1:=by
 induction l with
 |nil=>simp[Gr]
 |cons x r ih=>
  rw[Gr]
  by_cases h:x=L-1
  ·rw[if_pos h];simp;lia
  ·rw[if_neg h];simp
theorem Rh (L:Int)(w:α2):w.length<=(Gs L w).length/\(Gs L w).length<=w.length+1:=by
 have:=Rg L w.reverse
 unfold Gs
 rw[xI_]at this
 rw[xI_]
 exact this
noncomputable def many (L:Int):Nat->Int
 |0=>0
 |k+1=>many L k*L+1
theorem DF {L:Int}(hL:0<L):∀k,0<=many L k
 |0=>zl_ _
 |k+1=>by
  have:=zo_ (DF hL k) (xG_ hL)
  show 0<=many L k*L+1
  lia
theorem D7 {L:Int}(hL:0<L):∀{l:α2},(∀x∈l,0<=x/\x<L)->many L l.length<=Bj L l/\Bj L l<many L (l.length+1)
 |[],_=>by simp[Bj,many]
 |x::r,h=>by
  have hx:=h x jn_
  obtain⟨h1,h2⟩:=D7 hL (l:=r) fun y hy=>h y (jk_ _ hy)
  show many L r.length*L+1<=Bj L r*L+x+1/\Bj L r*L+x+1<many L (r.length+1)*L+1
  have a1:=qr_ h1 (xG_ hL)
  have a2:=qr_ (show Bj L r+1<=many L (r.length+1) by lia) (xG_ hL)
  rw[zY_]at a2
  lia
theorem Kb  (hL:0<L)  (h:isW L w=true):many L w.length<=AZ L w/\AZ L w<many L (w.length+1):=by
 have:=D7 hL (l:=w.reverse) (fun x hx=>AF.mp h x (q2_.mp hx))
 rw[xI_]at this
 exact this
theorem Ri  (hL:0<L)  (h:j<=k):many L j<=many L k:=by
 induction h with
 |refl=>exact zl_ _
 |step _ ih=>
  rename_i m _
  refine Int.le_trans ih ?_
  show many L m<=many L m*L+1
  have:many L m*1<=many L m*L:=Int.mul_le_mul_of_nonneg_left s!"" (DF hL m)
  lia
theorem Hg  (hL:0<L)  (h:isW L w=true)(k:Nat):w.length<=k↔AZ L w<many L (k+1):=by
 obtain⟨h1,h2⟩:=Kb hL h
 constructor
 ·intro hk
  exact Int.lt_of_lt_of_le h2 (Ri hL s!"")
 ·intro hp
  refine Nat.le_of_not_lt fun hk=>?_
  have:=Ri hL (show k+1<=w.length from hk)
  lia
noncomputable def nth (L:Int):Nat->α2
 |0=>[]
 |n+1=>Gs L (nth L n)
theorem Fc {L:Int}(hL:0<L):∀n,isW L (nth L n)=true
 |0=>rfl
 |n+1=>S1 hL (Fc hL n)
theorem Gu (L:Int):∀n:Nat,AZ L (nth L n)=n
 |0=>rfl
 |n+1=>by show AZ L (Gs L (nth L n))=_;rw[VL,Gu L n];push_cast;rfl
theorem VM  (hL:0<L)(n:Nat):(nth L n).length<=n:=by
 induction n with
 |zero=>simp[nth]
 |succ n ih=>have:=(Rh L (nth L n)).2;show (Gs L (nth L n)).length<=n+1;lia
theorem Jp (L:Int)(w:α2)(x:Int):AZ L (w++[x])=AZ L w*L+x+1:=by
 unfold AZ
 rw[q4_];rfl
theorem UQ {L:Int}{w:α2}{k:Nat}(hk:k<=w.length)(h:∀j,k<=j->j<w.length->w[j]?=some (L-1)):w=w.take k++List.replicate (w.length-k) (L-1):=by
 apply qI_
 intro j
 by_cases hj:j<k
 ·rw[jj_ (by rw[jB_];lia),xx_ hj]
 ·by_cases hl:j<w.length
  ·rw[h j s!"" hl,jr_ (by rw[jB_];lia),x8_,if_pos (by rw[jB_];lia)]
  ·rw[jQ_ s!"",jQ_ (by rw[jo_,jB_,qq_];lia)]
theorem Rj     (hk:k<w.length)(h:∀j,k+1<=j->j<w.length->w[j]?=some (L-1))(hx:w[k]?=some x)(aw:x≠L-1):
  Gs L w=w.take k++[x+1]++List.replicate (w.length-(k+1)) 0:=by
 have e:=UQ (show k+1<=w.length from hk) h
 have e2:w.take (k+1)=w.take k++[x]:=by rw[jU_,hx];rfl
 rw[e2]at e
 have:=XU L (w.take k) x (w.length-(k+1)) aw
 rw[<-e]at this
 exact this
theorem S2   (h:∀j,0<=j->j<w.length->w[j]?=some (L-1)):Gs L w=List.replicate (w.length+1) 0:=by
 have e:=UQ (jX_ _) h
 simp at e
 have:=XW L w.length
 rw[<-e]at this
 exact this
end GW
namespace PySem
section
variable {prog:Program} {w:World} {A:Around} {E:Value->Shared->Prop} {s:Shared}
noncomputable abbrev lsO (ai:Array Value)(c:Nat):Obj:={cls:=.type "list",dict:=none,data:=.seq ai c,slots := #[]}
noncomputable def KP (wr:Addr->Prop)(h h':Heap):Prop:=∀b o,¬ wr b->h.get? b=some o->h'.get? b=some o
structure Gat (prog:Program)(w:World)(s:Shared)(r I:Addr)(T:String)(n:Nat)(wr:Addr->Prop)(J:Nat->List Value->Heap->Prop)(Fn:List Value->Heap->Prop):Prop where
 type:s.TypeIs (.ref r) T
 nl:(Value.type T==Value.type "list")=false
 nt:(Value.type T==Value.type "tuple")=false
 le:n<=sizeLine
 hint:∀(A:Around) (t:Shared) (Q:Bool->Shared->Prop) (E:Value->Shared->Prop),(∀b o,s.heap.get? b=some o->t.heap.get? b=some o)->(∀b tk,Q b {t with toks:=tk})->wpAny (model prog w) A (Builtin.List.listLengthHint (.ref r)) Q E t
 iter:∀(A:Around) (h1:Heap) (Q:Value->Shared->Prop) (E:Value->Shared->Prop),(∀b o,s.heap.get? b=some o->h1.get? b=some o)->h1.objs.size=s.heap.objs.size+1->(∀h',J 0 [] h'->(∀b o,h1.get? b=some o->h'.get? b=some o)->Q (.ref I) {s with heap:=h' })->wpAny (model prog w) A (pyIter (.ref r)) Q E {s with heap:=h1}
 next:∀(A:Around) i ai (t:Shared) (Q:α5->Shared->Prop) (E:Value->Shared->Prop),A.handled=none->J i ai t.heap->ai.length=i->i<=n->s.heap.objs.size<t.heap.objs.size ->
  (∀v h' tk,i<n->J (i+1) (ai++[v]) h'->KP wr t.heap h'->Q (some v) {t with heap:=h',toks:=tk})->(∀h' tk,i=n->Fn ai h'->KP wr t.heap h'->Q none {t with heap:=h',toks:=tk})->wpAny (model prog w) A (pyNext (.ref I)) Q E t
 frame:∀i ai h h',J i ai h->(∀b o,b≠s.heap.objs.size->h.get? b=some o->h'.get? b=some o)->J i ai h'
 nw:¬ wr s.heap.objs.size
variable {I r:Addr} {T:String} {n:Nat} {wr:Addr->Prop} {J:Nat->List Value->Heap->Prop} {Fn:List Value->Heap->Prop} {R:Result->Shared->Prop} {res:Value}
theorem Gat.loop (G:Gat prog w s r I T n wr J Fn)(hh:A.handled=none)
  (hR:∀h' tk ai c,Fn ai h'->ai.length=n->h'.get? s.heap.objs.size=some (lsO ai.toArray c)->KP wr s.heap h'->R (.ok (.ret res)) {s with heap:=h',toks:=tk}):
  ∀(k:Nat) (h:Heap) (tk c:Nat) (ai:List Value),n-ai.length=k->ai.length<=n->J ai.length ai h->h.get? s.heap.objs.size=some (lsO ai.toArray c)->KP wr s.heap h->codeAny (model prog w) A (.builtin "list.extend.loop" ⟨[.ref s.heap.objs.size,.ref I,res],[]⟩) R {s with heap:=h,toks:=tk}:=by
 intro k
 induction k with
 |zero=>
  intro h tk c ai hk hi j hS kp
  refine codeAny_builtin F.entry_extend_loop ?_
  rw[Around.under_plainId x3_ _]
  refine je_ (G.next A.in1 _ ai {s with heap:=h,toks:=tk} _ _ hh j rfl hi (js_ hS) (fun v h' tk l=>by lia) fun h' tk e j' kk=>?_)
  exact ju_ (hR h' tk ai c j' s!"" (kk _ _ G.nw hS) fun b o m q=>kk b o m (kp b o m q))
 |succ k ih=>
  intro h tk c ai hk hi j hS kp
  refine codeAny_builtin F.entry_extend_loop ?_
  rw[Around.under_plainId x3_ _]
  refine je_ (G.next A.in1 _ ai {s with heap:=h,toks:=tk} _ _ hh j rfl hi (js_ hS) (fun v h' tk l j' kk=>?_) fun h' tk e=>by lia)
  have kj:=kk _ _ G.nw hS
  have up:∀b o,b≠s.heap.objs.size->h'.get? b=some o->(h'.update s.heap.objs.size (Obj.mapSeq (·.push v))).get? b=some o:=fun b o m q=>(j7_ _ _ (qx_ m)).trans q
  have hl:(ai++[v]).length=ai.length+1:=by simp
  have:=G.le
  obtain⟨c',gZ⟩:∃c',(h'.update s.heap.objs.size (Obj.mapSeq (·.push v))).get? s.heap.objs.size=some (lsO (ai++[v]).toArray c'):=⟨_,by rw[<-List.push_toArray];exact qT_ _ kj rfl⟩
  exact je_ (wpAny_updateSeq kj rfl (ju_ ⟨plainId_quiet x3_ _,ih _ tk c' (ai++[v]) s!"" s!"" (by rw[hl];exact G.frame _ _ _ _ j' up) gZ fun b o m q=>up b o (jK_ (js_ q)) (kk b o m (kp b o m q))⟩) (by simp;lia))
theorem Gat.extend    (G:Gat prog w s r I T n wr J Fn)(hh:A.handled=none)(k1:∀b o,s.heap.get? b=some o->h1.get? b=some o)(hz:h1.objs.size=s.heap.objs.size+1)(hS:h1.get? s.heap.objs.size=some (lsO #[] c₀))
  (hZ:∀c t,c.quiet=true->codeAny (model prog w) A c R t->Z (.again c) t)
  (hR:∀h' tk ai c,Fn ai h'->ai.length=n->h'.get? s.heap.objs.size=some (lsO ai.toArray c)->KP wr s.heap h'->R (.ok (.ret res)) {s with heap:=h',toks:=tk}):
  wpAny (model prog w) A.in1 (Builtin.List.listExtendWith (.ref s.heap.objs.size) (.ref r) res) Z E {s with heap:=h1}:=by
 have hr:r<s.heap.objs.size:=let ⟨_,ho,_⟩:=G.type;js_ ho
 have e1:Builtin.List.listSameRef (.ref s.heap.objs.size) (.ref r)=false:=by simp[Builtin.List.listSameRef,qR_ hr]
 have hT:Shared.TypeIs {s with heap:=h1} (.ref r) T:=let ⟨o,ho,x⟩:=G.type;⟨o,k1 _ _ ho,x⟩
 have jD:∀(h:Heap) f b o,b≠s.heap.objs.size->h.get? b=some o->(h.update s.heap.objs.size f).get? b=some o:=fun h f b o n q=>(j7_ _ _ (qx_ n)).trans q
 have go:∀(h:Heap) c tk,J 0 [] h->h.get? s.heap.objs.size=some (lsO #[] c)->(∀b o,b≠s.heap.objs.size->h1.get? b=some o->h.get? b=some o)->Z (.again (.builtin "list.extend.loop" ⟨[.ref s.heap.objs.size,.ref I,res],[]⟩)) {s with heap:=h,toks:=tk}:=fun h c tk j q k=>
  hZ _ _ (plainId_quiet x3_ _) (G.loop hh hR n h tk c [] rfl (jX_ _) j q fun b o _ x=>k b o (jK_ (js_ x)) (k1 b o x))
 unfold Builtin.List.listExtendWith
 refine je_ (wpAny_typeOf hT ?_)
 simp only[e1,G.nl,G.nt,Bool.or_false,jY_,q3_]
 refine je_ (G.iter A.in1 h1 _ _ k1 hz fun h' j kk=>je_ (qX_ (G.hint A.in1 _ _ _ (fun b o q=>kk b o (k1 b o q)) fun bb tk=>?_)))
 have kj:=kk _ _ hS
 refine wpAny_ite_split (fun _=>?_) fun _=>ju_ (go h' c₀ tk j kj fun b o _ q=>kk b o q)
 wp_walk
 exact go _ _ tk (G.frame _ _ _ _ (G.frame _ _ _ _ j fun b o m q=>jD _ _ b o m q) fun b o m q=>jD _ _ b o m q) (qT_ _ (qT_ _ kj rfl) rfl) fun b o m q=>jD _ _ b o m (jD _ _ b o m (kk b o q))
theorem Gat.list  (G:Gat prog w s r I T n wr J Fn)(hh:A.handled=none)
  (hQ:∀h' tk ai c,Fn ai h'->ai.length=n->h'.get? s.heap.objs.size=some (lsO ai.toArray c)->KP wr s.heap h'->Q (.ref s.heap.objs.size) {s with heap:=h',toks:=tk}):wpAny (model prog w) A (call (.type "list") [.ref r]) Q E s:=by
 have hS:(s.heap.push (lsO #[] 0)).get? s.heap.objs.size=some (lsO #[] 0):=jC_ _ rfl
 refine callType_codes (Q₁:=fun obj s₁=>obj=.ref s.heap.objs.size/\s₁={s with heap:=s.heap.push (lsO #[] 0)}) F.called_list (F.typeCall_list_1 _) F.entry_list_init (code_list_new _ ⟨rfl,rfl⟩) fun obj s₁ h₁=>?_
 obtain⟨rfl,rfl⟩:=h₁
 have jD:∀b o,s.heap.get? b=some o->((s.heap.push (lsO #[] 0)).update s.heap.objs.size (Obj.mapSeq fun _ => #[])).get? b=some o:=fun b o q=>(j7_ _ _ (qR_ (js_ q))).trans (jm_ _ q)
 obtain⟨c2,gZ⟩:∃c,((s.heap.push (lsO #[] 0)).update s.heap.objs.size (Obj.mapSeq fun _ => #[])).get? s.heap.objs.size=some (lsO #[] c):=⟨_,qT_ _ hS rfl⟩
 have hz:((s.heap.push (lsO #[] 0)).update s.heap.objs.size (Obj.mapSeq fun _ => #[])).objs.size=s.heap.objs.size+1:=by rw[Heap.size_after_update,qu_]
 refine⟨⟨_,hS,rfl⟩,F.args_list_init_2 _ _,?_⟩
 wp_walk using Gat.extend (A:=A.in1) (R:=wants (fun r bg=>r=.none/\Q (.ref s.heap.objs.size) bg) E) (c₀:=c2) G hh jD hz gZ
 ·exact fun _ _ a b=>⟨a,b⟩
 exact fun h' tk ai c k1 k2 k3 k4=>⟨rfl,hQ h' tk ai c k1 k2 k3 k4⟩
end
end PySem
namespace L2
open PySem PySem.Spec PyProof.Rows
section
variable {te ta tb:TE} {A:TA} {D:Ends} {σ:St} {H:Hp} {Q:VK} {K:α3} {tbd ts:TS}
theorem UR   : Xs x vs H Q=∃l b xs zs,x=.ref l/\vs=[.ref b]/\H l=some (.lst xs)/\H b=some (.lst zs)/\xs.length+zs.length<=sizeLine/\Q .non (upd H l (.lst (xs++zs))):=rfl
theorem Ek_  : rCat x y H Q=∃l b xs zs,x=.ref l/\y=.ref b/\H l=some (.lst xs)/\H b=some (.lst zs)/\xs.length+zs.length<=sizeLine/\∀p,H p=none->Q (.ref p) (upd H p (.lst (xs++zs))):=rfl
theorem El_  : rRep x y H Q=∃l k xs,x=.ref l/\y=.int k/\H l=some (.lst xs) /\ -(2 ^ 63)<=k/\k<2 ^ 63/\xs.length*k.toNat<=sizeLine/\∀p,H p=none->Q (.ref p) (upd H p (.lst (List.replicate k.toNat xs).flatten)):=rfl
end
end L2
namespace L2
open PySem PySem.Spec PyProof.Rows
theorem iteB {c A B:Prop}[Decidable c](hB:B)(h:c->B->A):if c then A else B:=by
 by_cases hc:c
 ·rw[if_pos hc];exact h hc hB
 ·rw[if_neg hc];exact hB
theorem Cu_ (x y:Int):eqV (.int x) (.int y)=decide (V.int x=V.int y):=by
 by_cases h:x=y
 ·subst h;simp[eqV]
 ·rw[qc_ (fun z=>h (by injection z))];simp[eqV,h]
theorem EqD.ints {K:α3}{H:Hp}{a c:Addr}{xs ys:α2}(hq:(SqL K H a (xs.map V.int)/\SqL K H c (ys.map V.int))\/(SqT K H a (xs.map V.int)/\SqT K H c (ys.map V.int)))(n:Nat):EqD K H (n+1) (.ref a) (.ref c) (decide (xs=ys)):=by
 have:=EqD.flat hq (fun x hx=>by obtain⟨_,_,rfl⟩:=EI hx;rfl) (fun x hx=>by obtain⟨_,_,rfl⟩:=EI hx;rfl) (fun x hx y hy=>by obtain⟨_,_,rfl⟩:=EI hx;obtain⟨_,_,rfl⟩:=EI hy;exact Cu_ _ _) n
 have e:decide (xs.map V.int=ys.map V.int)=decide (xs=ys):=by
  rw[qz_]
  simp only[qo_]
  constructor
  ·intro h
   exact (zO_ (fun a b h=>by injection h)).mp h
  ·intro h;rw[h]
 rw[e]at this
 exact this
end L2
namespace L2
open PySem PySem.Spec PyProof.Rows
noncomputable def iSeq (K:α3)(tl:TE):TI:=fun σ H R=>tl σ H fun x H1=>∃a,x=.ref a/\(((∃xs,SqL K H1 a xs)/\R (Itl K a) H1)\/((∃xs,SqT K H1 a xs)/\R (Itt K a) H1))
theorem Bj_ {K:α3}     : iSeq K te σ H Z=te σ H fun x H1=>∃a,x=.ref a/\(((∃xs,SqL K H1 a xs)/\Z (Itl K a) H1)\/((∃xs,SqT K H1 a xs)/\Z (Itt K a) H1)):=rfl
theorem Bk_    (hl:PE X l tl):PI X tg l (iSeq X.K tl):=by
 intro af s σ H R I h
 refine thn (hl af s σ H _ I h) fun v s1 ⟨x,H1,I1,r1,q1⟩=>?_
 obtain⟨a,e,q⟩:=q1
 subst e
 cases r1
 rcases q with ⟨⟨xs,hq⟩,q⟩|⟨⟨xs,hq⟩,q⟩
 ·obtain⟨its,rv,p,hz⟩:=I1.list hq
  refine zj_ p.isList ?_
  refine⟨s1.heap.objs.size,[s1.heap.objs.size],_,_,H1,rfl,I1.kept (t':=s1.toks) fun b o e=>jm_ _ e,QU a _,⟨_,jC_ _ rfl,rfl,rfl⟩,fun b hb=>?_,q⟩
  have e:b=s1.heap.objs.size:=by simpa using hb
  subst e
  exact I1.fpOk (jg_ _) (I1.hok.fresh (jg_ _))
 ·obtain⟨its,rv,p,hz⟩:=I1.tuple hq
  refine xL_ (show s1.heap.IsTuple a its.toArray from p) ?_
  refine⟨s1.heap.objs.size,[s1.heap.objs.size],_,_,H1,rfl,I1.kept (t':=s1.toks) fun b o e=>jm_ _ e,Oo a _,⟨_,jC_ _ rfl,rfl,rfl⟩,fun b hb=>?_,q⟩
  have e:b=s1.heap.objs.size:=by simpa using hb
  subst e
  exact I1.fpOk (jg_ _) (I1.hok.fresh (jg_ _))
end L2
namespace GW
theorem Rk  (hL:0<L)  (hx:isW L xs=true):0<=AZ L xs:=by
 have:=(Kb hL hx).1
 have:=DF hL xs.length
 lia
theorem XX  (hL:0<L):∀{xs ys:α2},isW L xs=true->isW L ys=true->AZ L xs=AZ L ys->xs=ys:=by
 have key:∀{l m:α2},(∀x∈l,0<=x/\x<L)->(∀x∈m,0<=x/\x<L)->Bj L l=Bj L m->l=m:=by
  intro l
  induction l with
  |nil=>
   intro m _ hm h
   cases m with
   |nil=>rfl
   |cons y s=>
    have hy:=hm y jn_
    have:=(D7 hL (l:=s) fun z hz=>hm z (jk_ _ hz)).1
    have h0:=DF hL s.length
    have hp:=zo_ (show 0<=Bj L s by lia) (xG_ hL)
    have h':(0:Int)=Bj L s*L+y+1:=h
    lia
  |cons x r ih=>
   intro m hl hm h
   have hx:=hl x jn_
   cases m with
   |nil=>
    have:=(D7 hL (l:=r) fun z hz=>hl z (jk_ _ hz)).1
    have h0:=DF hL r.length
    have hp:=zo_ (show 0<=Bj L r by lia) (xG_ hL)
    have h':Bj L r*L+x+1=(0:Int):=h
    lia
   |cons y s=>
    have hy:=hm y jn_
    have h':Bj L r*L+x+1=Bj L s*L+y+1:=h
    have e1:Bj L r=Bj L s:=by
     rcases Int.lt_trichotomy (Bj L r) (Bj L s) with au|he|au
     ·have:=qr_ (show Bj L r+1<=Bj L s by lia) (xG_ hL)
      rw[zY_]at this;lia
     ·exact he
     ·have:=qr_ (show Bj L s+1<=Bj L r by lia) (xG_ hL)
      rw[zY_]at this;lia
    rw[e1]at h'
    rw[ih (fun z hz=>hl z (jk_ _ hz)) (fun z hz=>hm z (jk_ _ hz)) e1,show x=y by lia]
 intro xs ys hx hy h
 have:=key (l:=xs.reverse) (m:=ys.reverse) (fun x h=>AF.mp hx x (q2_.mp h)) (fun x h=>AF.mp hy x (q2_.mp h)) h
 exact List.reverse_inj.mp this
end GW
namespace L2
open PySem PySem.Spec PyProof.Rows
theorem Bl_  {K:α3}{T id:String}        (hK:X.K=K)(pa:PlainAttrs T)(slot:Slot T name id)(mG:typeOf (.builtin id)=pure (.type "method_descriptor"))(hm:MtR X id r)(ho:PE X o to)(ha:PA X (e::es) t)
  (fg:attributeBase o name X.env (eval o X.env)=eval o X.env:=by rfl)
  (gf:((backTo aE (starEach (e::es) X.env)).all (fun x => !x.1)&&(backToKw aE (keywordEach [] X.env)).all (fun x=>x.1.isSome)
   && decide ((e::es).length+([]:List Keyword).length+(if ([]:List Keyword).isEmpty then 0 else 1)<30))=true:=by rfl)
  (fh:(bh.endLine==aE.line)=true:=by rfl) (hs:starEach (e::es) X.env=(false,eval e X.env)::starEach es X.env:=by rfl) (dj:(backTo aE (starEach es X.env)).any (·.1)=false:=by rfl):
  PE X (.Call (.Attribute o name bh) (e::es) [] aE) (tBM K T r to t):=by
 subst hK
 exact FA pa slot mG hm ho ha fg gf fh hs dj
section
variable {X:Cx} {K:α3}
theorem Dz (h:X.K=K):IxR X (rIxT K):=by subst h;exact Ao
theorem Cv (h:X.K=K):IxR X (rIxL K):=by subst h;exact Bn
theorem Pb (h:X.K=K):DE X (.builtin "len") (fun xs H Q=>∃p ys,xs=[.ref p]/\(SqL K H p ys\/SqT K H p ys)/\Q (.int ys.length) H):=by subst h;exact Ak
theorem Pe (h:X.K=K):DE X (.type "list") (fun xs H Q=>∃p ys,xs=[.ref p]/\(SqL K H p ys\/SqT K H p ys)/\∀l,H l=none->Q (.ref l) (upd H l (.lst ys))):=by subst h;exact Gn
end
end L2
namespace GW
noncomputable def Cz (ae:α1)(r x:Int):Int:=(ae.getD r.toNat []).getD x.toNat 0
noncomputable def AM (ae:α1)(ws:α2):Int:=ws.foldl (Cz ae) 0
noncomputable def Ow (ae:α1)(ws:α2):α2:=(List.range (ws.length+1)).map fun j=>AM ae (ws.take j)
structure Wf (L:Int)(aa:α2)(ae:α1):Prop where
 l1:1<=L
 l6:L<=6
 n1:1<=aa.length
 n40:aa.length<=40
 len:ae.length=aa.length
 rows:∀row∈ae,(row.length:Int)=L/\∀x∈row,0<=x/\x<aa.length
 mks:∀m∈aa,0<=m/\m<=1000000000
theorem CO     (h1:ae[r.toNat]?=some row)(h2:row[x.toNat]?=some g):Cz ae r x=g:=by
 unfold Cz
 have e:ae.getD r.toNat []=row:=by rw[jh_,h1];rfl
 rw[e,jh_,h2];rfl
theorem Wf.row {L:Int}{aa:α2}{ae:α1}(wf:Wf L aa ae){r:Int}(h0:0<=r)(h1:r<aa.length):∃row,ae[r.toNat]?=some row/\row∈ae/\(row.length:Int)=L:=by
 have au:r.toNat<ae.length:=by rw[wf.len];lia
 exact⟨ae[r.toNat],by simp[au],j2_ au,(wf.rows _ (j2_ au)).1⟩
theorem Wf.step {L:Int}{aa:α2}{ae:α1}(wf:Wf L aa ae){r x:Int}(h0:0<=r)(h1:r<aa.length)(x0:0<=x)(x1:x<L):∃row g,ae[r.toNat]?=some row/\row[x.toNat]?=some g/\Cz ae r x=g/\0<=g/\g<aa.length:=by
 obtain⟨row,hr,hm,hl⟩:=wf.row h0 h1
 have au:x.toNat<row.length:=by lia
 have hg:row[x.toNat]?=some row[x.toNat]:=by simp[au]
 exact⟨row,row[x.toNat],hr,hg,CO hr hg,(wf.rows row hm).2 _ (j2_ au)⟩
theorem CP (ae:α1)(ws:α2)(x:Int):AM ae (ws++[x])=Cz ae (AM ae ws) x:=by
 unfold AM
 rw[qJ_];rfl
theorem Hh {ae:α1}{ws:α2}{i:Nat}{x:Int}(h:ws[i]?=some x):AM ae (ws.take (i+1))=Cz ae (AM ae (ws.take i)) x:=by
 rw[jU_,h]
 exact CP _ _ _
theorem Wf.walk    (wf:Wf L aa ae)  (hw:isW L ws=true):∀i,0<=AM ae (ws.take i)/\AM ae (ws.take i)<aa.length:=by
 intro i
 induction i with
 |zero=>have:=wf.n1;simp[AM];lia
 |succ i ih=>
  cases e:ws[i]? with
  |none=>
   have aS:=xr_.mp e
   rw[jO_ s!""]
   rw[jO_ aS]at ih
   exact ih
  |some x=>
   rw[Hh e]
   have hx:=AF.mp hw x (jc_ e)
   obtain⟨_,g,_,_,h,h0,h1⟩:=wf.step ih.1 ih.2 hx.1 hx.2
   rw[h];exact⟨h0,h1⟩
theorem Pf (ae:α1)(ws:α2):(Ow ae ws).length=ws.length+1:=by simp[Ow]
theorem VN    (h:i<=ws.length):(Ow ae ws)[i]?=some (AM ae (ws.take i)):=by
 unfold Ow
 rw[jd_,qB_ s!""];rfl
theorem S3 (ae:α1)(ws:α2):(Ow ae ws)[ws.length]?=some (AM ae ws):=by
 rw[VN (jg_ _),jT_]
end GW
namespace L2
open PySem PySem.Spec PyProof.Rows GW
noncomputable def Rows (K:α3)(H:Hp)(w:Addr)(ae:α1):Prop:=∃ts:List Addr,SqT K H w (ts.map V.ref)/\ts.length=ae.length/\∀(i:Nat) (t:Addr) (row:α2),ts[i]?=some t->ae[i]?=some row->SqT K H t (row.map V.int)
noncomputable def BU (K:α3)(H:Hp)(h:Addr)(L:Int)(aa:α2)(ae:α1):Prop:=∃m w:Addr,SqT K H h [.int L,.ref m,.ref w]/\SqT K H m (aa.map V.int)/\Rows K H w ae
theorem Rows.mono {K:α3}    (h:Rows K H w ae)(e:Same H H'):Rows K H' w ae:=by
 obtain⟨ts,h1,h2,h3⟩:=h
 exact⟨ts,e.seqT h1,h2,fun i t r a b=>e.seqT (h3 i t r a b)⟩
theorem BU.mono {K:α3}      (x:BU K H h L aa ae)(e:Same H H'):BU K H' h L aa ae:=by
 obtain⟨m,w,h1,h2,h3⟩:=x
 exact⟨m,w,e.seqT h1,e.seqT h2,h3.mono e⟩
theorem Rows.at {K:α3}{H:Hp}{w:Addr}{ae:α1}(h:Rows K H w ae){i:Nat}{row:α2}(hr:ae[i]?=some row):∃xs t,SqT K H w xs/\atI xs (i:Int)=some (V.ref t)/\SqT K H t (row.map V.int):=by
 obtain⟨ts,h1,h2,h3⟩:=h
 have au:i<ts.length:=by rw[h2];exact (jb_.mp hr).1
 have ht:ts[i]?=some ts[i]:=by simp[au]
 exact⟨_,ts[i],h1,Gm (by rw[jd_,ht];rfl),h3 i _ _ ht hr⟩
theorem Rows.atZ {K:α3}    (h:Rows K H w ae)   (h0:0<=r)(hr:ae[r.toNat]?=some row):∃xs t,SqT K H w xs/\atI xs r=some (V.ref t)/\SqT K H t (row.map V.int):=by
 obtain⟨xs,t,a,b,c⟩:=h.at hr
 exact⟨xs,t,a,by rw[<-b];congr 1;lia,c⟩
theorem XY    (h:xs[xs.length-1]?=some v):atI xs (-1)=some v:=by
 have au:=(jb_.mp h).1
 unfold atI ixN
 rw[if_neg s!"",if_pos s!""]
 show xs[(-1+(xs.length:Int)).toNat]?=some v
 rw[show (-1+(xs.length:Int)).toNat=xs.length-1 by lia]
 exact h
theorem Bx {ns:α2}{i:Int}{v:Int}(h0:0<=i)(h:ns[i.toNat]?=some v):atI (ns.map V.int) i=some (V.int v):=Ej h0 (by rw[jd_,h];rfl)
theorem Pg {K:α3}    (hp:H p=some (.lst zs))(h:SqT K H t xs):SqT K (upd H p (.lst ys)) t xs:=by
 rcases h with (q|⟨o,q⟩)|q
 ·refine .inl (.inl ?_)
  rw[Ai (fun z=>by rw[z,hp]at q;cases q)];exact q
 ·refine .inl (.inr ⟨o,?_⟩)
  rw[Ai (fun z=>by rw[z,hp]at q;cases q)];exact q
 ·exact .inr q
noncomputable def D0 (K:α3)(H:Hp)(l:Addr)(ws:α1):Prop:=∃ts:List Addr,H l=some (.lst (ts.map V.ref))/\ts.length=ws.length/\∀(i:Nat) (t:Addr) (w:α2),ts[i]?=some t->ws[i]?=some w->SqT K H t (w.map V.int)
theorem D0.mono {K:α3}    (h:D0 K H l ws)(e:Same H H'):D0 K H' l ws:=by
 obtain⟨ts,h1,h2,h3⟩:=h
 exact⟨ts,e _ _ h1,h2,fun i t w a b=>e.seqT (h3 i t w a b)⟩
theorem D0.off {K:α3}     (h:D0 K H l ws)(hp:H p=some (.lst zs))(ne:l≠p):D0 K (upd H p (.lst ys)) l ws:=by
 obtain⟨ts,h1,h2,h3⟩:=h
 exact⟨ts,by rw[Ai ne];exact h1,h2,fun i t w a b=>Pg hp (h3 i t w a b)⟩
theorem D0.push {K:α3}     (h:D0 K H l ws)(hw:SqT K H t (w.map V.int)):∃xs,H l=some (.lst xs)/\xs.length=ws.length/\D0 K (upd H l (.lst (xs++[V.ref t]))) l (ws++[w]):=by
 obtain⟨ts,h1,h2,h3⟩:=h
 refine⟨ts.map V.ref,h1,by rw[ja_,h2],ts++[t],by rw[Ab,jS_];rfl,by simp[h2],fun i t' w' a b=>Pg h1 ?_⟩
 by_cases hi:i<ts.length
 ·rw[jj_ hi]at a
  rw[jj_ s!""]at b
  exact h3 i t' w' a b
 ·have ht:=(jb_.mp a).1
  rw[jo_,j0_]at ht
  have e:i=ts.length:=by lia
  subst e
  rw[jr_ (jg_ _),qs_]at a
  rw[jr_ s!"",h2,qs_]at b
  simp at a b
  subst a b
  exact hw
theorem D0.nil {K:α3}   (h:H l=some (.lst [])):D0 K H l []:=⟨[],h,rfl,fun i t w a _=>by simp at a⟩
theorem D0.rows {K:α3}    (h:D0 K H l ws):∃xs,H l=some (.lst xs)/\∀t,H t=none->Rows K (upd H t (.tup xs)) t ws:=by
 obtain⟨ts,h1,h2,h3⟩:=h
 exact⟨_,h1,fun t ht=>⟨ts,SqT.of Ab,h2,fun i t' w a b=>(Same.new ht).seqT (h3 i t' w a b)⟩⟩
end L2
namespace PySem
open Sem (wp)
open AutoSeq1 (wpAny_loadPart')
section
variable {prog:Program} {w:World} {A:Around} {E:Value->Shared->Prop} {s:Shared}
theorem newT   (hl:l.length<=sizeLine)(h:∀h',s.heap.push {cls:=.type "tuple",data:=.seq l.toArray}=h'->Q (.ref s.heap.objs.size) {s with heap:=h' }):wpAny (model prog w) A (newTuple l) Q E s:=wpAny_newTuple (h _ rfl)
theorem psh {h h':Heap}{o:Obj}(q:h.push o=h')(ho:o.isFreed=false):(∀c u,h.get? c=some u->h'.get? c=some u)/\h'.get? h.objs.size=some o/\h'.objs.size=h.objs.size+1:=by
 subst q
 exact⟨fun c u x=>jm_ _ x,jC_ _ ho,qu_ ..⟩
theorem Jq {it l:Addr}    (a6:s.heap.IsTupleIter it l i)(hl:s.heap.IsTuple l items)
  (hQ:∀x h',items[i]?=some x->h'.IsTupleIter it l (i+1)->Heap.SameBut it s.heap h'->Q x {s with heap:=h' })
  (hE:items[i]?=none->A.handled=none/\∀h' e,Heap.ExtBut it s.heap h'->(∃o,h'.get? e=some o/\o.cls=.type "StopIteration")->E (.ref e) {s with heap:=h' }):wpAny (model prog w) A (Builtin.SmallTypes.nextOf (.ref it)) Q E s:=by
 obtain⟨⟨c,dc,da,sl⟩,ho,hc,hd⟩:=id a6
 obtain⟨⟨c',dc',da',sl'⟩,hol,eJ,nl,mT⟩:=hl
 replace hc:c=_:=hc;replace hd:da=_:=hd;replace eJ:c'=_:=eJ;replace mT:da'=_:=mT
 subst hc hd eJ mT
 have e1:=F.slot_tuple_iterator_next
 unfold Builtin.SmallTypes.nextOf
 refine je_ (qH_ a6.typeIs e1 (xl_ e1 a6.typeIs F.entry_tuple_iterator_next ?_ (F.args_tuple_iterator_next_1 _)))
 wp_walk
 cases hx:items[i]? with
 |some x=>
  simp only[ji_,hx]
  wp_walk
  exact⟨x,rfl,ju_ (hQ x _ hx ⟨_,qT_ _ ho (by simp[Obj.mapFields,Obj.isFreed]),rfl,by simp[Obj.mapFields,rawInt]⟩ (x4_ ..))⟩
 |none=>
  obtain⟨hh,hE⟩:=hE hx
  have h1:A.in1.handled=none:=hh
  simp only[ji_,hx]
  wp_walk
  unfold raiseNew
  wp_walk
  exact hE _ _ (((x4_ ..).extBut.push _).push _) ⟨_,jC_ _ rfl,rfl⟩
theorem Draws.tuple (hh:A.handled=none)(it l:Addr)(aw:l≠it)(items:Array Value):
  Draws prog w A it [it,l] items.size (fun i v=>items[i]?=some v) (fun i h=>h.IsTupleIter it l i/\h.IsTuple l items) where
 live:=fun _ _ st=>let ⟨o,e,_⟩:=st.1;⟨o,e⟩
 frame:=fun _ _ _ st k=>⟨st.1.at fun o e=>k it (by simp) o e,let ⟨o,e,r⟩:=st.2;⟨o,k l (by simp) o e,r⟩⟩
 item:=fun i t Q E hi st q=>Jq st.1 st.2 (fun x h' e1 e2 e3=>q x h' t.toks e1 ⟨e2,st.2.extBut e3.extBut aw⟩ e3) fun z=>by rw[Array.getElem?_eq_none_iff]at z;lia
 done:=fun t Q E st q=>Jq st.1 st.2 (fun x h' e1=>by have:=(xW_.mp e1).1;lia) fun _=>⟨hh,q⟩
theorem Hr    (hL:s.heap.IsTuple l items)
  (h:∀h',IsEnum h' (s.heap.objs.size+1) s.heap.objs.size 0 .none->h'.IsTupleIter s.heap.objs.size l 0->h'.objs.size=s.heap.objs.size+2->(∀b o,s.heap.get? b=some o->h'.get? b=some o)->Q (.ref (s.heap.objs.size+1)) {s with heap:=h' }):
  wpAny (model prog w) A (call (.type "enumerate") [.ref l]) Q E s:=by
 have M:Meets (Builtin.«enumerate.__new__» ⟨[.type "enumerate",.ref l],[]⟩) fun _ R t=>t.heap.IsTuple l items/\∀h',IsEnum h' (t.heap.objs.size+1) t.heap.objs.size 0 .none->h'.IsTupleIter t.heap.objs.size l 0->h'.objs.size=t.heap.objs.size+2->(∀b o,t.heap.get? b=some o->h'.get? b=some o)->R (.ok (.ret (.ref (t.heap.objs.size+1)))) {t with heap:=h' }:=.of_wp fun prog w A R t ⟨hl,q⟩=>by
  have cx:=sub_enumerate
  obtain⟨hp,g,d,tk,os⟩:=t
  obtain⟨⟨c,dc,da,sl⟩,e1,hc,n,hd⟩:=id hl
  have fin:∀f,f=Fin.done (.ret (.ref (hp.push {cls:=.type "tuple_iterator",data:=.fields #[.ref l,.int 0 0]}).objs.size))->∃x,f=.done (.ret x)/\R (.ok (.ret x)) ⟨(hp.push {cls:=.type "tuple_iterator",data:=.fields #[.ref l,.int 0 0]}).push {cls:=.type "enumerate",data:=.fields #[.none,.bool false,.ref hp.objs.size,rawInt 0,.none,.none]},g,d,tk,os⟩:=fun f hf=>by
   have z:=qu_ hp {cls:=.type "tuple_iterator",data:=.fields #[.ref l,.int 0 0]}
   rw[z]at hf
   have y:=jC_ (hp.push {cls:=.type "tuple_iterator",data:=.fields #[.ref l,.int 0 0]}) (o:={cls:=.type "enumerate",data:=.fields #[.none,.bool false,.ref hp.objs.size,rawInt 0,.none,.none]}) rfl
   rw[z]at y
   exact⟨_,hf,q _ y ⟨_,jm_ _ (jC_ _ rfl),rfl,rfl⟩ (by rw[qu_,z]) fun b o x=>jm_ _ (jm_ _ x)⟩
  wp_walk using x7_ e1
  refine wpAny_stack_any fun st=>ju_ ?_
  split
  ·rename_i c _ _ _ _ _
   cases (c==Value.type "enumerate")<;>(wp_walk using x7_ e1,xL_ hl;exact fin _ rfl)
  ·wp_walk using x7_ e1,xL_ hl
   exact fin _ rfl
 exact callType_new F.called_enumerate (by decide) (F.typeCall_enumerate_1 _) (F.newCall_enumerate_1 _) (fun obj=>F.args_object_init_2 obj _) F.entry_enumerate_new M ⟨hL,fun h' a b c d=>⟨⟨_,a,rfl⟩,h h' a b c d⟩⟩
end
end PySem
namespace L2
open PySem PySem.Spec PyProof.Rows
section
variable {X:Cx} {af:α7} {σ:St} {H:Hp} {s:Shared}
theorem Inv.un2  {e it:Addr}(I:Inv X af σ H s)(k:∀b o,b≠e->b≠it->s.heap.get? b=some o->h'.get? b=some o)(f1:FpOk X af H e)(f2:FpOk X af H it):Un (frs X.stack) [e,it] H H s.heap h'/\HOk X.prog X.w H h':=by
 have ne:∀b u,H b=some u->b≠e/\b≠it:=fun b u q=>⟨(fun z=>by rw[z,f1.1]at q;cases q),(fun z=>by rw[z,f2.1]at q;cases q)⟩
 have eI:∀{b:Addr},b ∉ [e,it]->b≠e/\b≠it:=fun hb=>by simpa using hb
 refine⟨⟨fun b o q _ _ hb=>k b o (eI hb).1 (eI hb).2 q,fun b o q _ _ hb=>⟨o.slots,k b o (eI hb).1 (eI hb).2 q⟩,fun _ _ _ n _=>n,fun b o q hb=>⟨o,k b o (eI hb).1 (eI hb).2 q⟩,fun _ _ q=>q,fun _ _ _ q=>q,fun b ps q=>⟨#[],by rw[q];simp⟩⟩,fun b u q=>?_⟩
 refine (I.hok b u q).stay (fun c v hc qv=>?_) (fun _ q=>q) fun _ _ q=>q
 have aw:c≠e/\c≠it:=by
  rcases hc with rfl|hc
  ·exact ne _ _ q
  ·exact ne _ _ hc
 exact k c v aw.1 aw.2 qv
theorem FpOk.ch  (f:FpOk X af H b):(b∈X.ex\/X.s₀.heap.objs.size<=b)/\b≠X.env.locals/\(∀x c,X.env.cells.lookup x=some c->c≠b)/\∀p∈X.pn++af,p.1≠b:=⟨f.2.2.2.1,f.2.1,f.2.2.2.2.1,f.2.2.2.2.2⟩
end
noncomputable def Itn (K:α3)(a:Addr)(xs:List V):It:=⟨fun i H=>i<xs.length/\SqT K H a xs,fun i H x H'=>∃t v,H t=none/\xs[i]?=some v/\x=.ref t/\H'=upd H t (.tup [.int i,v]),fun i H=>i=xs.length/\SqT K H a xs⟩
theorem VO {P:Program}{w:World}{K:α3}{elts:List Expr}{x1}{iC:Pos}(a e it:Addr)(kl:e≠it)(km:a≠it)(hae:a≠e)(xs:List V):Turn P w K (.Tuple elts x1 iC) (Itn K a xs) [e,it] e (fun i h=>∃old,IsEnum h e it (i:Nat) old/\h.IsTupleIter it a i) where
 mem:=by simp
 obj:=fun i h st b hb=>by
  obtain⟨old,h1,o,h2,c,d⟩:=st
  rcases jL_.mp hb with rfl|hb
  ·exact⟨_,h1,fun v z=>by cases z⟩
  ·rw[jq_.mp hb]
   exact⟨o,h2,fun v z=>by rw[d]at z;cases z⟩
 keep:=fun i h h' st k=>by
  obtain⟨old,h1,h2⟩:=st
  exact⟨old,k e (by simp) _ h1,h2.at fun o q=>k it (by simp) o q⟩
 item:=by
  intro X hP hw hK hc i af s σ H E I hf st hg
  subst hP hw hK
  obtain⟨hi,hq⟩:=hg
  obtain⟨old,he,a6⟩:=st
  obtain⟨its,rv,p,hz⟩:=I.tuple hq
  have hl:=rv.length
  have pt:s.heap.IsTuple a its.toArray:=p
  have f1:=hf e (by simp)
  have f2:=hf it (by simp)
  have Dw:=Draws.tuple (prog:=X.prog) (w:=X.w) (A:=X.A.in1) (I.ok.hd hc) it a km its.toArray
  refine wpAny_pyNext_enum_itemD Dw he ⟨a6,pt⟩ (by simp;lia) kl (by simp[kl,qx_ hae]) fun u h' tk hu gU hst' hget hsz hk=>?_
  have hT:s.heap.objs.size≠e:=qR_ (js_ he)
  refine⟨_,rfl,wpAny_letOwnedTupleGo_enum gU fun h2 mU eK=>?_⟩
  have fm:∀b o,b≠e->b≠it->s.heap.get? b=some o->h2.get? b=some o:=fun b o h1 h3 q=>(eK.2 b h1).trans (hk b o h1 h3 q)
  obtain⟨un,hok⟩:=I.un2 fm f1 f2
  have hn:H s.heap.objs.size=none:=I.hok.fresh (jg_ _)
  have hv:xs[i]?=some xs[i]:=by simp[hi]
  obtain⟨u',g8,ru⟩:=rv.get hv
  have eu:u'=u:=by
   have hu2:its[i]?=some u:=by simpa using hu
   rw[g8]at hu2
   exact jp_ hu2
  subst eu
  have hget2:h2.get? s.heap.objs.size=some {cls:=.type "tuple",data:=.seq #[.int i tk,u']}:=(eK.2 _ hT).trans hget
  have new:Cc X.prog X.w (upd H s.heap.objs.size (.tup [.int i,xs[i]])) h2 s.heap.objs.size (.tup [.int i,xs[i]]):=⟨by have:=AE;simp;lia,[.int i tk,u'],.cons ⟨tk,rfl⟩ (.cons ru .nil),_,hget2,rfl,_,rfl⟩
  refine⟨.ref s.heap.objs.size,upd H s.heap.objs.size (.tup [.int i,xs[i]]),I.call' (s':={s with heap:=h2,toks:=tk+1}) (ch:=[e,it]) rfl (un.track (jg_ _) hn) (hok.track hn new) I.bare (fun b hb=>?_),rfl,⟨_,_,hn,hv,rfl,rfl⟩,?_,fun b hb=>?_⟩
  ·exact (hf b hb).ch
  ·refine⟨u',by simpa using mU,?_⟩
   exact hst'.1.at fun o q=>(eK.2 it (qx_ kl)).trans q
  ·have iy:=hf b hb
   have:∃o,s.heap.get? b=some o:=by
    rcases jL_.mp hb with rfl|hb
    ·exact⟨_,he⟩
    ·rw[jq_.mp hb]
     obtain⟨o,ho,_⟩:=a6
     exact⟨o,ho⟩
   obtain⟨o,ho⟩:=this
   rw[Ai (jK_ (js_ ho))]
   exact iy.1
 done:=by
  intro X hP hw hK hc i af s σ H E I hf st hg
  subst hP hw hK
  obtain⟨hi,hq⟩:=hg
  subst hi
  obtain⟨old,he,a6⟩:=st
  obtain⟨its,rv,p,hz⟩:=I.tuple hq
  have hl:=rv.length
  have pt:s.heap.IsTuple a its.toArray:=p
  have Dw:=Draws.tuple (prog:=X.prog) (w:=X.w) (A:=X.A.in1) (I.ok.hd hc) it a km its.toArray
  obtain⟨f0,f1,f2,f3,f4,f5⟩:=hf it (by simp)
  refine wpAny_pyNext_enum_endD Dw he ⟨by rw[jl_,<-hl];exact a6,pt⟩ fun h' eb=>⟨rfl,I.turned (t':=s.toks) (fun b o hb e=>eb b o hb e) f0 f1 f3 f4 f5⟩
 self:=fun A i s Q E st h=>by
  obtain⟨old,he,_⟩:=st
  exact wpAny_pyIter_enum he h
noncomputable def Bm_ (K:α3)(tl:TE):TI:=fun σ H R=>tl σ H fun x H1=>∃a xs,x=.ref a/\SqT K H1 a xs/\R (Itn K a xs) H1
theorem US {K:α3}     : Bm_ K te σ H Z=te σ H fun x H1=>∃a xs,x=.ref a/\SqT K H1 a xs/\Z (Itn K a xs) H1:=rfl
theorem Bn_ {K:α3}       : gTup K n t v σ H N=∃a xs,v=.ref a/\SqT K H a xs/\xs.length=n/\t xs σ H N:=rfl
theorem XZ       : Ds_ t u vs σ H N=∃v r,vs=v::r/\t v σ H fun ag H'=>u r ag H' N:=rfl
theorem Bo_     : gNil vs σ H N=(vs=[]/\N σ H):=rfl
theorem Zx   {x1}     (hg:Gl X "enumerate")(hm:X.mg "enumerate"=none)(he:PE X e te)(hs:starEach [e] X.env=[(false,eval e X.env)]:=by rfl):PI X (.Tuple elts x1 iC) (.Call (.Name "enumerate" p) [e] [] pos) (Bm_ X.K te):=by
 intro af s σ H R I h
 refine Call_ (Gi I hg hm boot_enumerate (qd_ (thn (Aa he Ae hs pos af s σ H (fun vs H1=>∃a xs,vs=[.ref a]/\SqT X.K H1 a xs/\R (Itn X.K a xs) H1) I ?_) fun us s1 ⟨vs,H1,I1,r1,q1⟩=>?_) hs rfl))
 ·show te σ H _
  have:(fun x H1=>∃a xs,x=V.ref a/\SqT X.K H1 a xs/\R (Itn X.K a xs) H1)=(fun x H1=>tNil σ H1 fun xs H2=>∃a ys,x::xs=[V.ref a]/\SqT X.K H2 a ys/\R (Itn X.K a ys) H2):=by
   funext x H1
   simp[tNil]
  rw[<-this]
  exact h
 ·obtain⟨a,xs,rfl,hq,q⟩:=q1
  cases r1 with
  |cons r rr=>
   cases rr
   cases r
   obtain⟨its,rv,p,hz⟩:=I1.tuple hq
   have pt:s1.heap.IsTuple a its.toArray:=p
   obtain⟨oa,hoa,_⟩:=id pt
   have ha:=js_ hoa
   refine Hr pt fun h' eM d8 hsz hk=>?_
   refine wpAny_pyIter_enum (s:={s1 with heap:=h' }) eM ?_
   have I2:Inv X af σ H1 {s1 with heap:=h' }:=I1.kept (t':=s1.toks) hk
   refine⟨s1.heap.objs.size+1,[s1.heap.objs.size+1,s1.heap.objs.size],_,_,H1,rfl,I2,VO a (s1.heap.objs.size+1) s1.heap.objs.size (Nat.succ_ne_self _) (jK_ ha) (jK_ (xh_ ha)) xs,⟨_,eM,d8⟩,fun b hb=>?_,q⟩
   have aS:s1.heap.objs.size<=b:=by
    rcases jL_.mp hb with rfl|hb
    ·lia
    ·rw[jq_.mp hb];exact jg_ _
   exact I1.fpOk aS (I1.hok.fresh aS)
theorem forN {K:α3}        (Pv:Nat->St->Hp->Prop)(h0:Pv 0 σ H)(hl:∀i σ H,i<=xs.length->Pv i σ H->SqT K H a xs)
  (hs:∀i v σ H t,xs[i]?=some v->Pv i σ H->H t=none->g (.ref t) σ (upd H t (.tup [.int i,v])) fun aj H2=>tb {D with nx:=Pv (i+1),ct:=Pv (i+1),bk:=D.nx} aj H2) (hd:∀σ H,Pv xs.length σ H->D.nx σ H):ForW (Itn K a xs) g tb D σ H:=by
 refine⟨fun i m σ H=>m=xs.length-i/\i<=xs.length/\Pv i σ H,⟨xs.length,by simp,jX_ _,h0⟩,?_⟩
 rintro i m σ H ⟨rfl,hi,p⟩
 by_cases au:i<xs.length
 ·refine .inr ⟨⟨au,hl i σ H hi p⟩,Pv (i+1),fun ag H' p'=>⟨xs.length-(i+1),by lia,rfl,au,p'⟩,fun x H' y=>?_⟩
  obtain⟨t,v,hn,hv,rfl,rfl⟩:=y
  exact hs i v σ H t hv p hn
 ·have e:i=xs.length:=by lia
  subst e
  exact .inl ⟨⟨rfl,hl _ σ H hi p⟩,hd σ H p⟩
section
variable {td ty tv tx:TE} {D:Ends} {σ:St} {H:Hp} {Q:VK}
theorem Bp_:DN_ td ty σ H Q=td σ H fun x H1=>ty σ H1 fun y H2=>∃a v,x=.ref a/\DGet H2 a y (some v)/\Q v H2:=rfl
theorem UT:XA ty td σ H Q=ty σ H fun y H1=>td σ H1 fun x H2=>∃a o,x=.ref a/\DGet H2 a y o/\Q (.bl (!o.isSome)) H2:=rfl
theorem Bq_:DO_ td ty tv D σ H=tv σ H fun v H1=>td σ H1 fun x H2=>ty σ H2 fun y H3=>∃a H4,x=.ref a/\DPut H3 a y v H4/\D.nx σ H4:=rfl
theorem X0:XE td ty σ H Q=td σ H fun x H1=>∃a,x=.ref a/\IsD H1 a/\ty σ H1 fun y H2=>∃o,DGet H2 a y o/\Q (o.getD .non) H2:=rfl
theorem Br_  : Co_ aB σ H Q=∀p,H p=none->LF aB σ (upd H p (.dK [])) fun ps H2=>H2 p=some (.dK [])/\∃kvs:List (Key×V),ps=kvs.map (fun kv=>(kV kv.1,kv.2))/\kvs.length<=15/\Q (.ref p) (upd H2 p (.dK (J9 [] kvs))):=rfl
theorem UU  : LF [] σ H R=R [] H:=rfl
theorem UW   : LF ((td,tv)::r) σ H R=td σ H fun x H1=>tv σ H1 fun y H2=>LF r σ H2 fun ps H3=>R ((x,y)::ps) H3:=rfl
end
end L2
namespace GW
noncomputable def EK (w:α2):List (Int×α2)->Nat->α2->List (Int×α2)
 |ents,_,[]=>ents
 |ents,x,g::r=>EK w (if g∈ents.map (·.1) then ents else ents++[(g,w++[(x:Int)])]) (x+1) r
noncomputable def bfs (ae:α1):Nat->List (Int×α2)->Nat->List (Int×α2)
 |0,ents,_=>ents
 |f+1,ents,i=>match ents[i]? with
  |none=>ents
  |some e=>bfs ae f (EK e.2 ents 0 (ae.getD e.1.toNat [])) (i+1)
noncomputable def AA (ae:α1):List (Int×α2):=bfs ae (ae.length+1) [(0,[])] 0
theorem Ph {ae:α1}{ents:List (Int×α2)}{i:Nat}(h:ents[i]?=none):∀f,bfs ae f ents i=ents
 |0=>rfl
 |f+1=>by rw[bfs,h]
theorem Pj  {ents:List (Int×α2)}   (h:ents[i]?=some e)(f:Nat):bfs ae (f+1) ents i=bfs ae f (EK e.2 ents 0 (ae.getD e.1.toNat [])) (i+1):=by rw[bfs,h]
theorem LI:∀(n:Nat) {l:α2},l.Nodup->(∀x∈l,0<=x/\x<(n:Int))->l.length<=n
 |0,l,_,h=>by
  cases l with
  |nil=>simp
  |cons x r=>have:=h x jn_;lia
 |n+1,l,hn,h=>by
  by_cases hm:(n:Int)∈l
  ·have e:=qU_ hm
   have:=LI n (l:=l.erase (n:Int)) (hn.erase _) (fun x hx=>by
    have h1:=(hn.mem_erase_iff).mp hx
    have h2:=h x h1.2
    have h3:=h1.1
    lia)
   lia
  ·have:=LI n hn (fun x hx=>by
    have h2:=h x hx
    have:x≠n:=fun z=>hm (z ▸ hx)
    lia)
   lia
structure Bfs (L:Int)(n:Nat)(ae:α1)(ents:List (Int×α2))(i:Nat)(top:Int):Prop where
 hd:ents[0]?=some (0,[])
 il:i<=ents.length
 sh:∀(j:Nat) (e:Int×α2),ents[j]?=some e->e.2.length<=j
 nod:(ents.map (·.1)).Nodup
 rng:∀e∈ents,0<=e.1/\e.1<(n:Int)
 wd:∀e∈ents,isW L e.2=true/\AM ae e.2=e.1
 inc:∀(j k:Nat) (a b:Int×α2),j<k->ents[j]?=some a->ents[k]?=some b->AZ L a.2<AZ L b.2
 bnd:∀e∈ents,AZ L e.2<top
 don:∀j,j<i->∀e,ents[j]?=some e->∀x:Int,0<=x->x<L->∃e'∈ents,e'.1=Cz ae e.1 x/\AZ L e'.2<=AZ L (e.2++[x])
theorem Bfs.len    {ents:List (Int×α2)}   (h:Bfs L n ae ents i top):ents.length<=n:=by
 have:=LI n h.nod (fun x hx=>by
  obtain⟨e,he,rfl⟩:=jv_.mp hx
  exact h.rng e he)
 simpa using this
theorem Bfs.start (L:Int)  (hn:1<=n)(ae:α1):Bfs L n ae [(0,[])] 0 1:=by
 refine⟨rfl,by simp,(fun j e he=>by cases j with|zero=>(simp at he;subst he;simp)|succ j=>simp at he),by simp,fun e he=>?_,fun e he=>?_,fun j k a b h h1 h2=>?_,fun e he=>?_,fun j hj=>absurd hj (xi_ _)⟩
 ·simp at he;subst he;simp;lia
 ·simp at he;subst he;exact⟨rfl,rfl⟩
 ·have:=(jb_.mp h2).1;simp at this;lia
 ·simp at he;subst he;simp[AZ,Bj]
theorem Bfs.add  (hL:0<L)   {ents:List (Int×α2)}   (h:Bfs L n ae ents i top)   (hw:(r,w)∈ents)(hx:0<=x/\x<L)(ht:top<=AZ L w*L+x+1)
  (hg:g=Cz ae r x) (bR:0<=g/\g<(n:Int)) (cX:g∉ents.map (·.1)):Bfs L n ae (ents++[(g,w++[x])]) i (AZ L w*L+x+2):=by
 obtain⟨v1,v2⟩:=h.wd _ hw
 have hp:=Jp L w x
 have ak:0<ents.length:=by have:=(jb_.mp h.hd).1;lia
 refine⟨?_,by have:=h.il;simp;lia,fun j e he=>?_,?_,fun e he=>?_,fun e he=>?_,fun j k a b g9 h1 h2=>?_,fun e he=>?_,fun j hj e he y kn iJ=>?_⟩
 ·rw[jj_ ak];exact h.hd
 ·have hj:=(jb_.mp he).1
  rw[jo_,j0_]at hj
  by_cases d9:j<ents.length
  ·rw[jj_ d9]at he
   exact h.sh j e he
  ·have e1:j=ents.length:=by lia
   subst e1
   rw[jr_ (jg_ _),qs_]at he
   simp at he
   subst he
   obtain⟨j',cg,ej⟩:=jR_ hw
   have:=h.sh j' (r,w) (by rw[jf_ cg,ej])
   have this':w.length<=j':=this
   show (w++[x]).length<=ents.length
   simp;lia
 ·rw[jS_,zm_]
  refine⟨h.nod,by simp,fun a ha b hb=>?_⟩
  simp at hb
  subst hb
  exact fun z=>cX (z ▸ ha)
 ·rcases jA_.mp he with he|he
  ·exact h.rng e he
  ·rw[jq_.mp he];exact bR
 ·rcases jA_.mp he with he|he
  ·exact h.wd e he
  ·rw[jq_.mp he]
   refine⟨?_,?_⟩
   ·rw[AF]at v1 ⊢
    intro z hz
    rcases jA_.mp hz with hz|hz
    ·exact v1 z hz
    ·rw[jq_.mp hz];exact hx
   ·show AM ae (w++[x])=g
    rw[CP]
    have v2':AM ae w=r:=v2
    rw[v2',hg]
 ·have hk:=(jb_.mp h2).1
  rw[jo_,j0_]at hk
  by_cases gi:k<ents.length
  ·rw[jj_ gi]at h2
   rw[jj_ s!""]at h1
   exact h.inc j k a b g9 h1 h2
  ·have hke:k=ents.length:=by lia
   subst hke
   rw[jj_ s!""]at h1
   rw[jr_ (jg_ _),qs_]at h2
   simp at h2
   subst h2
   have:=h.bnd a (jc_ h1)
   show AZ L a.2<AZ L (w++[x])
   rw[hp];lia
 ·rcases jA_.mp he with he|he
  ·have:=h.bnd e he;lia
  ·rw[jq_.mp he]
   show AZ L (w++[x])<_
   rw[hp];lia
 ·have d9:j<ents.length\/j=ents.length:=by
   have:=(jb_.mp he).1
   rw[jo_,j0_]at this
   lia
  rcases d9 with d9|d9
  ·rw[jj_ d9]at he
   obtain⟨e',m,q⟩:=h.don j hj e he y kn iJ
   exact⟨e',j8_ _ m,q⟩
  ·exact absurd d9 (by have:=h.il;lia)
theorem Bfs.up    {ents:List (Int×α2)}   (h:Bfs L n ae ents i top)(ht:top<=fu):Bfs L n ae ents i fu :=
 ⟨h.hd,h.il,h.sh,h.nod,h.rng,h.wd,h.inc,fun e he=>Int.lt_of_lt_of_le (h.bnd e he) ht,h.don⟩
noncomputable def Seen (L:Int)(ae:α1)(ents:List (Int×α2))(r:Int)(w:α2)(x:Nat):Prop:=∀y:Int,0<=y->y<x->∃e'∈ents,e'.1=Cz ae r y/\AZ L e'.2<=AZ L (w++[y])
theorem Bfs.letter {L:Int}(hL:0<L){n:Nat}{ae:α1}{ents:List (Int×α2)}{i x:Nat}{w:α2}{r g:Int}(h:Bfs L n ae ents i (AZ L w*L+x+1))(hs:Seen L ae ents r w x)(hw:(r,w)∈ents)(hx:(x:Int)<L)
  (hg:g=Cz ae r x) (bR:0<=g/\g<(n:Int)):Bfs L n ae (if g∈ents.map (·.1) then ents else ents++[(g,w++[(x:Int)])]) i (AZ L w*L+((x+1:Nat):Int)+1)/\Seen L ae (if g∈ents.map (·.1) then ents else ents++[(g,w++[(x:Int)])]) r w (x+1):=by
 by_cases hm:g∈ents.map (·.1)
 ·rw[if_pos hm]
  refine⟨h.up (by push_cast;lia),fun y kn iJ=>?_⟩
  by_cases ke:y<x
  ·exact hs y kn ke
  ·have e:y=x:=by push_cast at iJ;lia
   subst e
   obtain⟨e',eM,e1⟩:=jv_.mp hm
   refine⟨e',eM,by rw[<-hg];exact e1,?_⟩
   have:=h.bnd e' eM
   rw[Jp];lia
 ·rw[if_neg hm]
  refine⟨(h.add hL hw ⟨by lia,hx⟩ (zl_ _) hg bR hm).up (by push_cast;lia),fun y kn iJ=>?_⟩
  by_cases ke:y<x
  ·obtain⟨e',m,q⟩:=hs y kn ke
   exact⟨e',j8_ _ m,q⟩
  ·have e:y=x:=by push_cast at iJ;lia
   subst e
   exact⟨_,jw_ _ jn_,hg,zl_ _⟩
theorem Bfs.next {L:Int}(hL:0<L){n i m:Nat}{ae:α1}{ents:List (Int×α2)}{w:α2}{r:Int}(h:Bfs L n ae ents i (AZ L w*L+m+1))(hm:(m:Int)=L)(hs:Seen L ae ents r w m)(hw:ents[i]?=some (r,w)):
  Bfs L n ae ents (i+1) (AZ L w*L+L+1)/\∀e,ents[i+1]?=some e->AZ L w*L+L+1<=AZ L e.2*L+1:=by
 have hi:=(jb_.mp hw).1
 rw[hm]at h
 refine⟨⟨h.hd,hi,h.sh,h.nod,h.rng,h.wd,h.inc,h.bnd,fun j hj e he x h0 h1=>?_⟩,fun e he=>?_⟩
 ·by_cases ko:j<i
  ·exact h.don j ko e he x h0 h1
  ·have e1:j=i:=by lia
   subst e1
   rw[hw]at he
   cases he
   exact hs x h0 s!""
 ·have:=h.inc i (i+1) _ _ (zt_ _) hw he
  have h2:=qr_ (show AZ L w+1<=AZ L e.2 from this) (xG_ hL)
  rw[zY_]at h2
  lia
theorem Jr (w:α2)(ents:List (Int×α2))(x:Nat):EK w ents x []=ents:=rfl
theorem Ib (w:α2)(ents:List (Int×α2))(x:Nat)(g:Int)(r:α2):EK w ents x (g::r)=EK w (if g∈ents.map (·.1) then ents else ents++[(g,w++[(x:Int)])]) (x+1) r:=rfl
theorem Ic {ents:List (Int×α2)}{g:Int}{v:α2}{i:Nat}{e:Int×α2}(h:ents[i]?=some e):(if g∈ents.map (·.1) then ents else ents++[(g,v)])[i]?=some e:=by
 split
 ·exact h
 ·rw[jj_ (jb_.mp h).1];exact h
end GW
namespace L2
open PySem PySem.Spec PyProof.Rows
noncomputable def ups (n:Nat):α2:=(List.range n).map fun i:Nat=>(i:Int)
noncomputable def UX (te:TE):TE:=fun σ H Q=>te σ H fun x H1=>∃j:Int,x=.int j/\0<=j/\j<=100000/\∀p,H1 p=none->Q (.ref p) (upd H1 p (.lst ((ups j.toNat).map V.int)))
theorem Rl     : UX te σ H Q=te σ H fun x H1=>∃j:Int,x=.int j/\0<=j/\j<=100000/\∀p,H1 p=none->Q (.ref p) (upd H1 p (.lst ((ups j.toNat).map V.int))):=rfl
theorem X1   (h:ItemsOf (fun i v=>∃t,v=.int ((0:Int)+(i:Nat)*1) t) ai n):Vals ((ups n).map V.int) ai.toList:=by
 have hs:=h.1
 have key:∀(l:List Value) (k:Nat),(∀i v,l[i]?=some v->∃t,v=Value.int ((k+i:Nat):Int) t)->Vals (((List.range l.length).map fun i=>((k+i:Nat):Int)).map V.int) l:=by
  intro l
  induction l with
  |nil=>intro k _;exact .nil
  |cons u r ih=>
   intro k hk
   rw[jV_,List.range_succ_eq_map,j1_,j1_]
   refine .cons ?_ ?_
   ·obtain⟨t,e⟩:=hk 0 u (by simp)
    exact⟨t,by simpa using e⟩
   ·have:=ih (k+1) (fun i v hv=>by
     obtain⟨t,e⟩:=hk (i+1) v (by simpa using hv)
     exact⟨t,by rw[e];congr 1;push_cast;lia⟩)
    have e:((List.map Nat.succ (List.range r.length)).map fun i=>((k+i:Nat):Int))=((List.range r.length).map fun i=>((k+1+i:Nat):Int)):=by
     rw[jW_]
     apply qj_
     intro i _
     show ((k+(i+1):Nat):Int)=_
     congr 1;lia
    rw[e]
    exact this
 have:=key ai.toList 0 (fun i v hv=>by
  obtain⟨t,e⟩:=h.2 i v (by simpa using hv)
  exact⟨t,by rw[e];congr 1;push_cast;lia⟩)
 have hl:ai.toList.length=n:=by simpa using hs
 rw[hl]at this
 have e2:((List.range n).map fun i=>((0+i:Nat):Int))=ups n:=by
  unfold ups
  apply qj_
  intro i _
  congr 1;lia
 rw[e2]at this
 exact this
theorem VP     (hc:X.calm=true)(hg:Gl X "list")(hm:X.mg "list"=none)(iK:Gl X "range")(fW:X.mg "range"=none)(he:PE X e te)
  (hU:starEach [.Call (.Name "range" p2) [e] [] dk] X.env=[(false,eval (.Call (.Name "range" p2) [e] [] dk) X.env)]:=by rfl) (hs:starEach [e] X.env=[(false,eval e X.env)]:=by rfl):
  PE X (.Call (.Name "list" p) [.Call (.Name "range" p2) [e] [] dk] [] pos) (UX te):=by
 intro af s σ H Q I h
 refine xn_ (Gi I hg hm boot_list ?_)
 refine qd_ ?_ hU rfl
 rw[hU]
 refine xm_ ?_
 refine Call_ (Gi I iK fW boot_range (qd_ (thn (Aa he Ae hs dk af s σ H (fun vs H1=>∃j:Int,vs=[.int j]/\0<=j/\j<=100000/\∀p,H1 p=none->Q (.ref p) (upd H1 p (.lst ((ups j.toNat).map V.int)))) I ?_) fun us s1 ⟨vs,H1,I1,r1,q1⟩=>?_) hs rfl))
 ·show te σ H _
  have:(fun x H1=>∃j:Int,x=V.int j/\0<=j/\j<=100000/\∀p,H1 p=none->Q (.ref p) (upd H1 p (.lst ((ups j.toNat).map V.int))))=(fun x H1=>tNil σ H1 fun xs H2=>∃j:Int,x::xs=[V.int j]/\0<=j/\j<=100000/\∀p,H2 p=none->Q (.ref p) (upd H2 p (.lst ((ups j.toNat).map V.int)))):=by
   funext x H1
   simp[tNil]
  rw[<-this]
  exact h
 ·obtain⟨j,rfl,h0,h1,q⟩:=q1
  cases r1 with
  |cons r rr=>
   cases rr
   obtain⟨t,rfl⟩:=r
   refine call_range_1 ?_
   refine xT_ ?_
   refine call_list_range (n:=j.toNat) (I.ok.hd hc) (IsRange.new ..) (small_one s!"" s!"" s!"" s!"") ?_ s!"" fun h' tk dm c' hk hS bK=>?_
   ·rw[rangeSize_one];split<;>lia
   ·have kp:∀b o,s1.heap.get? b=some o->h'.get? b=some o:=fun b o e=>hk b o (jm_ _ e)
    have hz:(ups j.toNat).length=j.toNat:=by simp[ups]
    have hl:=AE
    refine⟨.ref _,_,I1.laid (t':=tk) kp (by rw[qu_];exact zX_ _) (show Cc X.prog X.w _ h' _ (.lst ((ups j.toNat).map V.int)) from ⟨by rw[ja_,hz];lia,dm.toList,c',X1 bK,by simpa using hS⟩),rfl,q _ (I1.hok.fresh (by rw[qu_];exact zX_ _))⟩
noncomputable def X2 (tk tv:TE):TE:=Co_ [(tk,tv)]
theorem Zy     (hk:PE X k tk)(hv:PE X v tv):PE X (.Dict [some k] [v] pos) (X2 tk tv):=Cp_ (Zp hk hv Cn_) rfl rfl (by intro z;cases z) (by show 1<=15;decide)
theorem X3     : X2 tk tv σ H Q=∀p,H p=none->tk σ (upd H p (.dK [])) fun x H1=>tv σ H1 fun y H2=>H2 p=some (.dK [])/\∃kvs:List (Key×V),[(x,y)]=kvs.map (fun kv=>(kV kv.1,kv.2))/\kvs.length<=15/\Q (.ref p) (upd H2 p (.dK (J9 [] kvs))):=rfl
theorem Cv_ {X:Cx}{i:Nat}{x:Str}{k v:Expr}{tk tv:TE}{pos bU dpos:Pos}(hN:X.N.Nodup)(hi:X.N[i]?=some x)(hx:Loc X.env.scope x)(hk:PE X k tk)(hv:PE X v tv)(hs:swapsWith (.Dict [some k] [v] dpos) (some (.Name x bU)) pos.line X.env=pure false)
  (hf:X.fn x=true\/X.env.scope.names.lookup x=some .local):PS X (.Assign [.Name x bU] (.Dict [some k] [v] dpos) pos) (tAsg (X2 tk tv) (Jn i)):=Cd hN hi hx (Zy hk hv) hs hf
end L2
namespace L2
theorem UY (ys:α2)(m:Nat):cutV (ys.map V.int) none (some (m:Int))=(ys.take m).map V.int:=by
 rw[UN]
 unfold cutI
 rw[HT.sIx_nat,HT.sIx_none,List.drop_zero,Nat.sub_zero]
 congr 1
 rw[List.take_eq_take_iff]
 lia
end L2
namespace L2
open PySem GW
noncomputable def mkW (aa:α2)(r:Int):Int:=aa.getD r.toNat 0
theorem Em_   (h0:0<=r)(h1:r<aa.length):mkW aa r∈aa:=by
 have au:r.toNat<aa.length:=by lia
 unfold mkW
 rw[jh_,jf_ au]
 exact j2_ au
theorem X4   (h0:0<=r)(h1:r<aa.length):atI (aa.map V.int) r=some (V.int (mkW aa r)):=by
 have au:r.toNat<aa.length:=by lia
 refine Bx h0 ?_
 unfold mkW
 rw[jh_,jf_ au];rfl
end L2
namespace GW
theorem Bfs.least {L:Int}{n:Nat}{ae:α1}{top:Int}{ents:List (Int×α2)}(h:Bfs L n ae ents ents.length top){ws:α2}(hv:isW L ws=true):∀i,i<=ws.length->∃w',(AM ae (ws.take i),w')∈ents/\AZ L w'<=AZ L (ws.take i)
 |0,_=>⟨[],by simpa [AM] using jc_ h.hd,by simp⟩
 |i+1,hi=>by
  obtain⟨w',m,hp⟩:=Bfs.least h hv i s!""
  have bV:ws[i]?=some ws[i]:=by simp
  have bM:=AF.mp hv ws[i] (j2_ _)
  obtain⟨j,hj,ej⟩:=jR_ m
  obtain⟨e',me,e1,e2⟩:=h.don j hj _ (by rw[jf_ hj,ej]) ws[i] bM.1 bM.2
  obtain⟨g,v⟩:=e'
  have e1:g=Cz ae (AM ae (ws.take i)) ws[i]:=e1
  have e2:AZ L v<=AZ L (w'++[ws[i]]):=e2
  have et:ws.take (i+1)=ws.take i++[ws[i]]:=by rw[jU_,bV];rfl
  have hL:0<=L:=by lia
  refine⟨v,?_,?_⟩
  ·rw[et,CP,<-e1];exact me
  ·rw[et]
   rw[Jp]at e2 ⊢
   have:=qr_ hp hL
   lia
end GW
namespace L2
open PySem PySem.Spec PyProof.Rows
theorem Vals.ofIx:∀{xs:List V} {us:List Value},us.length=xs.length->(∀(i:Nat) (v:Value),us[i]?=some v->∃x,xs[i]?=some x/\RelV x v)->Vals xs us
 |[],[],_,_=>.nil
 |[],_::_,h,_=>by simp at h
 |_::_,[],h,_=>by simp at h
 |x::xs,u::us,h,k=>by
  refine .cons ?_ (Vals.ofIx (by simpa using h) fun i v hv=>?_)
  ·obtain⟨y,e,r⟩:=k 0 u rfl
   cases e
   exact r
  ·obtain⟨y,e,r⟩:=k (i+1) v (by simpa using hv)
   exact⟨y,by simpa using e,r⟩
theorem X5   (h:SH k v=true):RelV (kV k) v:=by
 rcases BR h with ⟨i,t,rfl,e⟩|⟨x,t,rfl,e⟩
 ·exact⟨t,e⟩
 ·exact⟨t,e⟩
theorem NW  (hc:X.calm=true):DE X (.type "list") (fun xs H Q=>∃p kvs,xs=[.ref p]/\H p=some (.dK kvs)/\∀l,H l=none->Q (.ref l) (upd H l (.lst (kvs.map fun kv=>kV kv.1)))):=by
 intro af s σ H xs us Q I r h
 obtain⟨p,kvs,rfl,hp,q⟩:=h
 obtain⟨u,rfl,rx⟩:=vals1 r
 cases rx
 obtain⟨hz,hS,vs,rr,m⟩:=Zn I.hok hp
 obtain⟨ep,kq⟩:=m.dictAt
 have ak:=rr.length
 have hks:=rr.keys
 refine PySem.W.kdl_call (PySem.W.kdl_dict (knd:=B1 X.prog X.w) (kvs:=vs) (ep:=ep) hS) (I.ok.hd hc) kq s!"" fun h' tk dm c' hk hD bK=>?_
 have hv:Vals (kvs.map fun kv=>kV kv.1) dm.toList:=by
  refine Vals.ofIx (by rw[ja_,ak];simpa using bK.1) fun i v hv=>?_
  obtain⟨k,x,hx,bZ⟩:=bK.2 i v (by simpa using hv)
  refine⟨kV k,?_,X5 bZ⟩
  have e1:(kvs.map (·.1))[i]?=some k:=by rw[hks,jd_,hx];rfl
  rw[jd_]at e1 ⊢
  cases hq:kvs[i]? with
  |none=>rw[hq]at e1;cases e1
  |some kv=>rw[hq]at e1;cases e1;rfl
 exact⟨.ref _,_,I.laid (t':=tk) hk (jg_ _) (show Cc X.prog X.w _ h' _ (.lst (kvs.map fun kv=>kV kv.1)) from ⟨by rw[ja_];exact hz,dm.toList,c',hv,by simpa using hD⟩),rfl,q _ (I.hok.fresh (jg_ _))⟩
end L2
namespace L2
theorem r_in {K:α3}     : rIn K iA x y H Q=∃p xs,y=.ref p/\(SqL K H p xs\/SqT K H p xs)/\DZ x=true/\xs.all DZ=true/\Q (.bl (if iA then !inV x xs else inV x xs)) H:=rfl
theorem LJ (ns:α2):(ns.map V.int).all DZ=true:=by
 rw[qG_]
 intro x hx
 obtain⟨n,_,rfl⟩:=jv_.mp hx
 rfl
theorem UZ (g:Int)(ns:α2):inV (.int g) (ns.map V.int)=decide (g∈ns):=by
 unfold inV
 rw[List.any_map,qz_,x2_,qo_]
 constructor
 ·rintro⟨n,hn,e⟩
  have e:decide (n=g)=true:=by simpa [eqV] using e
  rw[<-qv_ e];exact hn
 ·exact fun h=>⟨g,h,by simp[eqV]⟩
end L2
namespace L2
open PySem PySem.Spec PyProof.Rows
noncomputable def rng (i j:Int):α2:=(List.range (j-i).toNat).map fun k:Nat=>i+(k:Int)
end L2
namespace GW
open L2
theorem LK:∀{l m:α2},l.Nodup->(∀x∈l,x∈m)->m.length<=l.length->l.Perm m
 |[],m,_,_,h=>by
  have:m=[]:=List.eq_nil_of_length_eq_zero (by simpa using h)
  subst this;exact .refl _
 |x::l,m,hn,h,hl=>by
  have hx:=h x jn_
  have eZ:=qA_.mp hn
  have p:=LK (l:=l) (m:=m.erase x) eZ.2 (fun y hy=>(xe_ (fun (z:y=x)=>eZ.1 (z ▸ hy))).mpr (h y (jk_ _ hy))) (by rw[qU_ hx];simp at hl;lia)
  exact (p.cons x).trans (List.perm_cons_erase hx).symm
theorem X6 (n:Nat):(ups n).Nodup:=by
 unfold ups
 exact List.Pairwise.map (R:=(· ≠ ·)) _ (fun a b cj z=>cj s!"") zw_
theorem X7   : x∈ups n↔0<=x/\x<(n:Int):=by
 unfold ups
 rw[jv_]
 constructor
 ·rintro⟨r,hr,rfl⟩
  have:=jP_.mp hr
  lia
 ·exact fun h=>⟨x.toNat,jP_.mpr s!"",by lia⟩
theorem X8 (n:Nat):(ups n).length=n:=by simp[ups]
noncomputable def Fd (n:Nat)(o:α2):Prop:=o.Perm (ups n)/\o[0]?=some 0
theorem Fd.len   (h:Fd n o):o.length=n:=by rw[h.1.length_eq,X8]
theorem Fd.nod   (h:Fd n o):o.Nodup:=(h.1.nodup_iff).mpr (X6 n)
theorem Fd.mem   (h:Fd n o)  : x∈o↔0<=x/\x<(n:Int):=by rw[h.1.mem_iff,X7]
noncomputable def ordW (o:α2)(r:Int):Int:=o.getD r.toNat 0
theorem Cw_   (h0:0<=r)(h1:r<o.length):o[r.toNat]?=some (ordW o r):=by
 unfold ordW
 rw[jh_,jf_ s!""];rfl
theorem Fd.at   (h:Fd n o)  (h0:0<=r)(h1:r<(n:Int)):o[r.toNat]?=some (ordW o r)/\0<=ordW o r/\ordW o r<(n:Int):=by
 have:=Cw_ (o:=o) h0 (by rw[h.len];exact h1)
 exact⟨this,h.mem.mp (jc_ this)⟩
theorem Fd.inv   (h:Fd n o)  (h0:0<=x)(h1:x<(n:Int)):∃r:Nat,r<n/\o[r]?=some x:=by
 obtain⟨r,hr,e⟩:=jR_ (h.mem.mpr ⟨h0,h1⟩)
 exact⟨r,by rw[<-h.len];exact hr,by rw[jf_ hr,e]⟩
noncomputable def D5 {α:Type}(o:α2)(f:Nat->α):Nat->List α->List α
 |0,d=>d
 |i+1,d=>(D5 o f i d).set (ordW o i).toNat (f i)
theorem D9 {α:Type}(o:α2)(f:Nat->α):∀(i:Nat) (d:List α),(D5 o f i d).length=d.length
 |0,_=>rfl
 |i+1,d=>by rw[D5,qO_,D9 o f i d]
theorem Fd.inj   (h:Fd n o)  (hr:r<n)(hq:q<n)(e:ordW o r=ordW o q):r=q:=by
 have a:=(h.at (r:=(r:Int)) s!"" s!"").1
 have b:=(h.at (r:=(q:Int)) s!"" s!"").1
 rw[ji_]at a b
 have bG:r<o.length:=by rw[h.len];exact hr
 have fV:q<o.length:=by rw[h.len];exact hq
 refine (xJ_ (h₀:=bG) (h₁:=fV) h.nod).mp ?_
 rw[jf_ bG]at a
 rw[jf_ fV]at b
 rw[jp_ a,jp_ b,e]
theorem LL {α:Type}{n:Nat}{o:α2}(h:Fd n o)(f:Nat->α):∀(i:Nat) (d:List α),i<=n->d.length=n->∀r:Nat,r<i->(D5 o f i d)[(ordW o r).toNat]?=some (f r)
 |0,_,_,_,r,hr=>absurd hr (xi_ _)
 |i+1,d,hi,hd,r,hr=>by
  have b:=(h.at (r:=(r:Int)) s!"" s!"").2
  have c:=(h.at (r:=(i:Int)) s!"" s!"").2
  rw[D5]
  by_cases e:r=i
  ·subst e
   rw[qL_ (by rw[D9,hd];lia)]
  ·have ne:ordW o i≠ordW o r:=fun z=>e (h.inj s!"" s!"" z.symm)
   rw[xd_ s!""]
   exact LL h f i d s!"" hd r s!""
noncomputable def X9 (n:Nat)(o aa:α2):α2:=D5 o (fun r=>aa.getD r 0) n (List.replicate n 0)
noncomputable def Ya (n:Nat)(o:α2)(ae:α1):α1:=D5 o (fun r=>(ae.getD r []).map (ordW o)) n (List.replicate n [])
end GW
namespace L2
open PySem PySem.Spec PyProof.Rows GW
theorem D0.set {K:α3}      (h:D0 K H l ws)(hw:SqT K H t (w.map V.int)):∃xs,H l=some (.lst xs)/\xs.length=ws.length/\D0 K (upd H l (.lst (xs.set j (V.ref t)))) l (ws.set j w):=by
 obtain⟨ts,h1,h2,h3⟩:=h
 refine⟨_,h1,by simpa using h2,ts.set j t,by rw[Ab,List.map_set],by simpa using h2,fun i t' w' a b=>?_⟩
 have key:∀{u:Addr} {v:α2},SqT K H u (v.map V.int)->SqT K (upd H l (.lst ((ts.map V.ref).set j (V.ref t)))) u (v.map V.int):=fun q=>Pg h1 q
 by_cases e:j=i
 ·subst e
  rw[qL_ (by have:=(jb_.mp a).1;simpa using this)]at a
  rw[qL_ (by have:=(jb_.mp b).1;simpa using this)]at b
  cases a;cases b
  exact key hw
 ·rw[xd_ e]at a b
  exact key (h3 i t' w' a b)
end L2
namespace L2
theorem Pk {α:Type}(x:α):∀n:Nat,(List.replicate n [x]).flatten=List.replicate n x
 |0=>rfl
 |n+1=>by rw[qf_,xz_,Pk x n,qf_];rfl
end L2
namespace L2
theorem U0 {n:Nat}{x:Int}(h0:0<=x)(h1:x<(n:Int)):ixN n x=some x.toNat:=by
 unfold ixN
 simp only[h0,h1,and_self,xO_]
end L2
namespace GW
theorem Fe (n:Nat)(o aa:α2):(X9 n o aa).length=n:=by unfold X9;rw[D9,qq_]
theorem Rm (n:Nat)(o:α2)(ae:α1):(Ya n o ae).length=n:=by unfold Ya;rw[D9,qq_]
theorem Zz   (h:Fd n o)(aa:α2)  (hr:r<n):(X9 n o aa)[(ordW o r).toNat]?=some (aa.getD r 0):=LL h _ n _ (jg_ _) (qq_) r hr
theorem ZA   (h:Fd n o)(ae:α1)  (hr:r<n):(Ya n o ae)[(ordW o r).toNat]?=some ((ae.getD r []).map (ordW o)):=LL h _ n _ (jg_ _) (qq_) r hr
end GW
namespace GW
open L2
theorem Fd.nat   (h:Fd n o)  (hj:j<n):∃r:Nat,r<n/\ordW o r=(j:Int):=by
 obtain⟨r,hr,er⟩:=h.inv (x:=(j:Int)) s!"" s!""
 have a:=(h.at (r:=(r:Int)) s!"" s!"").1
 rw[ji_,er]at a
 exact⟨r,hr,(jp_ a).symm⟩
theorem Wf.getW    (wf:Wf L aa ae)  (hr:r<aa.length):ae[r]?=some (ae.getD r [])/\ae.getD r []∈ae:=by
 have au:r<ae.length:=by rw[wf.len];exact hr
 have e:ae.getD r []=ae[r]:=by rw[jh_,jf_ au];rfl
 rw[e]
 exact⟨jf_ au,j2_ au⟩
theorem ZC {L:Int}{aa:α2}{ae:α1}{o:α2}(wf:Wf L aa ae)(h:Fd aa.length o){j:Nat}{row:α2}(hj:(Ya aa.length o ae)[j]?=some row):∃r:Nat,r<aa.length/\ordW o r=(j:Int)/\row=(ae.getD r []).map (ordW o):=by
 have au:=(jb_.mp hj).1
 rw[Rm]at au
 obtain⟨r,hr,er⟩:=h.nat au
 have:=ZA h ae hr
 rw[er,ji_,hj]at this
 exact⟨r,hr,er,jp_ this⟩
theorem Cx_     (wf:Wf L aa ae)(h:Fd aa.length o):Wf L (X9 aa.length o aa) (Ya aa.length o ae):=by
 refine⟨wf.l1,wf.l6,by rw[Fe];exact wf.n1,by rw[Fe];exact wf.n40,by rw[Fe,Rm],fun row hrow=>?_,fun m hm=>?_⟩
 ·rw[Fe]
  obtain⟨j,hj,e⟩:=jR_ hrow
  obtain⟨r,hr,_,rfl⟩:=ZC wf h (j:=j) (row:=row) (by rw[jf_ hj,e])
  have hw:=wf.rows _ (wf.getW hr).2
  refine⟨by rw[ja_];exact hw.1,fun x hx=>?_⟩
  obtain⟨g,hg,rfl⟩:=jv_.mp hx
  have:=hw.2 g hg
  exact (h.at this.1 this.2).2
 ·obtain⟨j,hj,e⟩:=jR_ hm
  have au:=hj
  rw[Fe]at au
  obtain⟨r,hr,er⟩:=h.nat au
  have:=Zz h aa hr
  rw[er,ji_,jf_ hj,e]at this
  have:m=aa.getD r 0:=jp_ this
  rw[this,jh_,jf_ hr]
  exact wf.mks _ (j2_ hr)
end GW
namespace PySem
open Sem (wp)
noncomputable def Heap.DEnt (h:Heap)(d:Addr)(es:Array DictEntry)(ep:Nat):Prop:=∃o,h.get? d=some o/\o.ExactDict/\o.data=.dict es ep
section
variable {prog:Program} {w:World} {A:Around} {E:Value->Shared->Prop} {s:Shared} {d it:Addr} {es:Array DictEntry} {i ep:Nat}
theorem Heap.DEnt.typeIs (h:s.heap.DEnt d es ep):s.TypeIs (.ref d) "dict" := let ⟨o,ho,hc,_⟩:=h;⟨o,ho,hc.1⟩
theorem Heap.DEnt.at {h h':Heap}(x:h.DEnt d es ep)(e:∀o,h.get? d=some o->h'.get? d=some o):h'.DEnt d es ep:=let ⟨o,ho,r⟩:=x;⟨o,e _ ho,r⟩
theorem Heap.DEnt.lt_size {h:Heap}(x:h.DEnt d es ep):d<h.objs.size:=let ⟨_,ho,_⟩:=x;js_ ho
theorem S4  (hd:(d==sysModules)=false)(hm:s.heap.DEnt d es ep)
  (hQ:Q (.ref s.heap.objs.size) {s with heap:=s.heap.push {cls:=.type "dict_keyiterator",data:=.fields #[.ref d,.int 0 0,.int es.size 0,.int ep 0]} }):wpAny (model prog w) A (pyIter (.ref d)) Q E s:=by
 have hT:=hm.typeIs
 obtain⟨o,ho,hc,gj⟩:=id hm
 refine wpAny_pyIter_slot hT F.slot_dict_iter (xl_ F.slot_dict_iter hT F.entry_dict_iter (?_:wpAny _ _ (Builtin.«dict.__iter__» _) _ _ s) (F.args_dict_iter_1 _))
 unfold Builtin.«dict.__iter__»;refine wpAny_bind ?_
 unfold Builtin.Dict.dictSlotNone;refine wpAny_bind (wpAny_notOrdered_dict hT ?_)
 show wpAny _ _ (pure (Value.ref d)) _ _ s;refine ju_ ?_
 show wpAny _ _ (Builtin.Dict.showsAll d >>= _) _ _ s;unfold Builtin.Dict.showsAll
 rw[if_neg (fun z=>by rw[hd]at z;cases z)]
 refine je_ (ju_ (je_ (zn_ ho gj (je_ (wpAny_dictEpoch ho gj ?_)))))
 refine je_ (qS_ (ju_ ⟨_,rfl,"dict_keyiterator",_,⟨_,jC_ _ rfl,rfl⟩,qW_.lookup,?_⟩));simpa [rawInt] using hQ
theorem Kp  (a6:s.heap.IsKeyIter it d i es.size ep)(hm:s.heap.DEnt d es ep)(au:i<es.size)
  (hQ:∀h',h'.IsKeyIter it d (i+1) es.size ep->Heap.SameBut it s.heap h'->Q (some es[i].key) {s with heap:=h' }):wpAny (model prog w) A (pyNext (.ref it)) Q E s:=by
 obtain⟨o,ho,hc,hd⟩:=id a6
 obtain⟨od,kr,bE,ku⟩:=id hm
 have iL:Builtin.Dict_items.ownsTuple "dict_keyiterator"=false:=by decide
 unfold pyNext
 refine je_ (xH_ (qH_ (name:=Str.ofString "__next__") a6.typeIs qW_ (xl_ qW_ a6.typeIs F.entry_dict_keyiterator_next ?_ (F.args_dict_keyiterator_next_1 _))))
 refine je_ (ju_ (je_ (je_ ?_)))
 first|refine je_ (xb_ a6.typeIs (ju_ (je_ (wpAny_fieldsOf ho hd ?_))))|refine je_ (xB_ a6.typeIs (ju_ (je_ (wpAny_fieldsOf ho hd ?_))))
 simp only[iL,jY_,q3_];show wpAny _ _ (if (Value.ref d==Value.none)=true then _ else _) _ _ s
 rw[if_neg (show ¬ ((Value.ref d==Value.none)=true) from fun z=>jt_ z)]
 refine je_ (ju_ (je_ (zn_ kr ku ?_)))
 rw[if_neg (by simp)];refine je_ (ju_ (je_ (wpAny_dictEpoch kr ku ?_)))
 rw[if_neg (by simp)];refine ju_ ?_
 simp only[show ¬ ((i:Int)<0) from by lia,q3_,ji_,qw_ au];refine je_ ?_
 first|refine je_ (xb_ a6.typeIs (ju_ (je_ (zq_ a6.typeIs ?_))))|refine je_ (xB_ a6.typeIs (ju_ (je_ (zq_ a6.typeIs ?_))))
 show wpAny _ _ (setField (.ref it) 1 (rawInt ((i:Int)+1)) >>= _) _ _ s;refine je_ (wpAny_setField ho hd (by simp) ?_)
 have d8:(s.heap.update it (Obj.mapFields (·.setIfInBounds 1 (rawInt ((i:Int)+1))))).IsKeyIter it d (i+1) es.size ep:=⟨_,qT_ _ ho (Obj.isFreed_of_fields (Obj.data_mapFields hd _)),(Obj.cls_mapFields ..).trans hc,by rw[Obj.data_mapFields hd];simp[rawInt]⟩
 refine je_ (qX_ (je_ (zq_ (s:={s with heap:=s.heap.update it (Obj.mapFields (·.setIfInBounds 1 (rawInt ((i:Int)+1))))}) d8.typeIs ?_)))
 show wpAny _ _ (pure es[i].key) _ _ _;exact ju_ (ju_ ⟨_,rfl,ju_ (hQ _ d8 (x4_ ..))⟩)
theorem LM  (hh:A.handled=none)(a6:s.heap.IsKeyIter it d i es.size ep)(hm:s.heap.DEnt d es ep)(bj:es.size<=i)
  (hQ:∀h',Heap.ExtBut it s.heap h'->Q none {s with heap:=h' }):wpAny (model prog w) A (pyNext (.ref it)) Q E s:=by
 obtain⟨o,ho,hc,hd⟩:=id a6
 obtain⟨od,kr,bE,ku⟩:=id hm
 have iL:Builtin.Dict_items.ownsTuple "dict_keyiterator"=false:=by decide
 unfold pyNext
 refine je_ (xH_ (qH_ (name:=Str.ofString "__next__") a6.typeIs qW_ (xl_ qW_ a6.typeIs F.entry_dict_keyiterator_next ?_ (F.args_dict_keyiterator_next_1 _))))
 refine je_ (ju_ (je_ (je_ ?_)))
 first|refine je_ (xb_ a6.typeIs (ju_ (je_ (wpAny_fieldsOf ho hd ?_))))|refine je_ (xB_ a6.typeIs (ju_ (je_ (wpAny_fieldsOf ho hd ?_))))
 simp only[iL,jY_,q3_];show wpAny _ _ (if (Value.ref d==Value.none)=true then _ else _) _ _ s
 rw[if_neg (show ¬ ((Value.ref d==Value.none)=true) from fun z=>jt_ z)]
 refine je_ (ju_ (je_ (zn_ kr ku ?_)))
 rw[if_neg (by simp)];refine je_ (ju_ (je_ (wpAny_dictEpoch kr ku ?_)))
 rw[if_neg (by simp)];refine ju_ ?_
 simp only[show ¬ ((i:Int)<0) from by lia,q3_,ji_,Array.getElem?_eq_none bj];refine je_ ?_
 first|refine je_ (xb_ a6.typeIs (ju_ ?_))|refine je_ (xB_ a6.typeIs (ju_ ?_))
 show wpAny _ _ (setField (.ref it) 0 .none >>= _) _ _ s;refine je_ (wpAny_setField ho hd (by simp) ?_)
 show wpAny _ _ (newExc (.type "StopIteration") [] >>= _) _ _ _;refine je_ ?_
 simp only[newExc,newTuple];refine je_ (qS_ ?_ (by size_fits))
 refine je_ (m:=firstArgMember _ _) (wpAny_of_eq (a:=Value.none) (by first|rfl|(simp only[firstArgMember];rfl)) (qS_ ?_ (by size_fits)))
 simp only[raiseNew];refine je_ (wpAny_handled ?_)
 rw[show A.in1.handled=none from hh];refine je_ (ju_ (wpAny_throw ?_))
 refine je_ (wpAny_isInstance (T := "StopIteration") (b:=true) ⟨_,jC_ _ rfl,rfl⟩ isSubtype_stop (ju_ (hQ _ (((x4_ ..).extBut.push _).push _))))
theorem Walks.dent (hh:A.handled=none)(I:Addr)(aw:d≠I):Walks prog w A I [I,d] [I] es.size (fun i v=>∃e,es[i]?=some e/\v=e.key) (fun i h=>h.IsKeyIter I d i es.size ep/\h.DEnt d es ep) where
 sub:=fun b hb=>by simp at hb;simp[hb]
 frame:=fun _ _ _ st hk=>⟨st.1.at fun o e=>hk I (by simp) o e,st.2.at fun o e=>hk d (by simp) o e⟩
 item:=fun i s Q E hi st hQ=>by
  refine Kp st.1 st.2 hi fun h' d8 ft=>?_
  exact hQ _ h' s.toks ⟨es[i],by simp[hi],rfl⟩ ⟨d8,st.2.at fun o e=>ft.extBut d o aw e⟩ fun b o hb e=>ft.extBut b o (fun z=>hb (by simp[z])) e
 done:=fun s Q E st hQ=>LM hh st.1 st.2 (jg_ _) fun h' eM=>hQ h' s.toks fun b o hb e=>eM b o (fun z=>hb (by simp[z])) e
 self:=fun _ _ _ _ st hQ=>wpAny_pyIter_keyiter st.1 hQ
theorem ZD (lo:(d==sysModules)=false):PySem.W.KdlSrc prog w "dict" d d es.size (fun i v=>∃e,es[i]?=some e/\v=e.key) (fun h=>h.DEnt d es ep) where
 type:=fun _ hm=>hm.typeIs
 there:=fun _ hm=>⟨hm.lt_size,hm.lt_size⟩
 keep:=fun _ _ hm hk=>hm.at fun o e=>hk d (.inl rfl) o e
 notList:=by decide
 notTuple:=by decide
 hint:=fun _ _ _ _ hm hq=>PySem.W.kdl_hint_dict hm.typeIs hq
 iter:=fun _ _ hh hm=>⟨_,_,(fun _ _ hq=>S4 lo hm hq),Walks.dent hh _ (jK_ hm.lt_size),⟨⟨_,jC_ _ rfl,rfl,rfl⟩,hm.at fun o e=>jm_ _ e⟩⟩
end
end PySem
namespace L2
open PySem PySem.Spec PyProof.Rows
theorem Ox {α β:Type}{F:α->β->Prop}:∀{l:List α} {m:List β} {i:Nat} {a:α},Paired F l m->l[i]?=some a->∃b,m[i]?=some b/\F a b
 |_,_,_,_,.nil,e=>by simp at e
 |_,_,0,_,.cons r _,e=>by simp at e;subst e;exact⟨_,rfl,r⟩
 |_,_,i+1,a,.cons _ t,e=>by
  obtain⟨b,h1,h2⟩:=Ox (i:=i) (a:=a) t (by simpa using e)
  exact⟨b,by simpa using h1,h2⟩
theorem Cy_       (ok:HOk P w H h)(e:Rd H a (.dT kvs)):
  ∃o es ep,h.get? a=some o/\o.ExactDict/\o.data=.dict es ep/\es.size=kvs.length/\(a==sysModules)=false/\kvs.length<=sizeLine /\
   ∀(i:Nat) (k:List Key) (v:V),kvs[i]?=some (k,v)->∃b en,es[i]?=some en/\en.key=.ref b/\H b=some (.tup (k.map kV)):=by
 obtain⟨z,y,xs,r,o,es,ep,h1,h2,h3,h4,h5⟩:=(show Cc P w H h a (.dT kvs) from Ck_ ok e)
 have hl:=Paired.length r
 have hs:es.size=kvs.length:=by rw[<-j3_,h4,ja_,hl]
 refine⟨o,es,ep,h1,h2,h3,hs,y,z,fun i k v hk=>?_⟩
 obtain⟨q,hq,e1,e2,_⟩:=Ox r hk
 refine⟨q.2.1,entryOfKey (tupleKind (B1 P w)) q,?_,rfl,e2⟩
 rw[<-xo_,h4,jd_,hq];rfl
theorem LN  (hc:X.calm=true):DE X (.type "list") (fun xs H Q=>∃p kvs,xs=[.ref p]/\Rd H p (.dT kvs)/\∀l rs,H l=none->rs.length=kvs.length ->
  (∀(i:Nat) (k:List Key) (v:V),kvs[i]?=some (k,v)->∃b,rs[i]?=some (V.ref b)/\H b=some (.tup (k.map kV)))->Q (.ref l) (upd H l (.lst rs))):=by
 intro af s σ H xs us Q I r h
 obtain⟨p,kvs,rfl,hp,q⟩:=h
 obtain⟨u,rfl,rx⟩:=vals1 r
 cases rx
 obtain⟨o,es,ep,g1,g2,g3,g4,g5,g6,g7⟩:=Cy_ I.hok hp
 refine PySem.W.kdl_call (ZD (es:=es) (ep:=ep) g5) (I.ok.hd hc) ⟨o,g1,g2,g3⟩ s!"" fun h' tk dm c' hk hD bK=>?_
 let f:DictEntry->V:=fun e=>match e.key with | .ref b=>V.ref b|_=>.non
 have kq:∀(i:Nat) (k:List Key) (v:V),kvs[i]?=some (k,v)->∃b,(es.toList.map f)[i]?=some (V.ref b)/\H b=some (.tup (k.map kV)):=fun i k v iM=>by
  obtain⟨b,en,e1,e2,e3⟩:=g7 i k v iM
  refine⟨b,?_,e3⟩
  rw[jd_,xo_,e1]
  show some (f en)=_
  simp only[f,e2]
 have ak:(es.toList.map f).length=kvs.length:=by rw[ja_,j3_,g4]
 have hv:Vals (es.toList.map f) dm.toList:=by
  refine Vals.ofIx (by rw[ak,<-g4];simpa using bK.1) fun i v hv=>?_
  obtain⟨e,he,rfl⟩:=bK.2 i v (by simpa using hv)
  have hi:i<kvs.length:=by rw[<-g4];exact (xW_.mp he).1
  obtain⟨b,en,e1,e2,e3⟩:=g7 i kvs[i].1 kvs[i].2 (by simp[hi])
  rw[he]at e1
  cases e1
  refine⟨V.ref b,?_,by rw[e2];rfl⟩
  rw[jd_,xo_,he]
  show some (f e)=_
  simp only[f,e2]
 exact⟨.ref _,_,I.laid (t':=tk) hk (jg_ _) (show Cc X.prog X.w _ h' _ (.lst (es.toList.map f)) from ⟨by rw[ak];exact g6,dm.toList,c',hv,by simpa using hD⟩),rfl,q _ _ (I.hok.fresh (jg_ _)) ak kq⟩
end L2
namespace GB
open GW
variable {α:Type} [DecidableEq α]
noncomputable def Fk_ (step:α->Int->α)(a:α)(ws:α2):α:=ws.foldl step a
noncomputable def put (step:α->Int->α)(r:α)(w:α2)(ents:List (α×α2))(x:Nat):List (α×α2):=if step r x∈ents.map (·.1) then ents else ents++[(step r x,w++[(x:Int)])]
structure B (L:Int)(step:α->Int->α)(st:α)(ok:α->Prop)(ents:List (α×α2))(i:Nat)(top:Int):Prop where
 hd:ents[0]?=some (st,[])
 il:i<=ents.length
 sh:∀(j:Nat) (e:α×α2),ents[j]?=some e->e.2.length<=j
 nod:(ents.map (·.1)).Nodup
 rng:∀e∈ents,ok e.1
 wd:∀e∈ents,isW L e.2=true/\Fk_ step st e.2=e.1
 inc:∀(j k:Nat) (a b:α×α2),j<k->ents[j]?=some a->ents[k]?=some b->AZ L a.2<AZ L b.2
 bnd:∀e∈ents,AZ L e.2<top
 don:∀j,j<i->∀e,ents[j]?=some e->∀x:Int,0<=x->x<L->∃e'∈ents,e'.1=step e.1 x/\AZ L e'.2<=AZ L (e.2++[x])
variable {L:Int} {step:α->Int->α} {st:α} {ok:α->Prop} {ents:List (α×α2)} {i:Nat} {top:Int}
noncomputable def C9 (ae:α1)(r:Int)(ws:α2):Int:=ws.foldl (Cz ae) r
theorem CQ (ae:α1)(ws:α2):C9 ae 0 ws=AM ae ws:=rfl
theorem B5 (ae:α1)(r x:Int)(ws:α2):C9 ae r (x::ws)=C9 ae (Cz ae r x) ws:=rfl
theorem VQ (ae:α1)(r x:Int)(ws:α2):C9 ae r (ws++[x])=Cz ae (C9 ae r ws) x:=by
 unfold C9
 rw[qJ_];rfl
theorem VR {ae:α1}{ws:α2}{i:Nat}{x r:Int}(h:ws[i]?=some x):C9 ae r (ws.take (i+1))=Cz ae (C9 ae r (ws.take i)) x:=by
 rw[jU_,h]
 exact VQ _ _ _ _
theorem U1 {L:Int}{aa:α2}{ae:α1}(wf:Wf L aa ae):∀(ws:α2) {r:Int},isW L ws=true->0<=r->r<aa.length->0<=C9 ae r ws/\C9 ae r ws<aa.length
 |[],r,_,h0,h1=>⟨h0,h1⟩
 |x::ws,r,hv,h0,h1=>by
  have hx:=AF.mp hv x jn_
  obtain⟨_,g,_,_,h,g0,g1⟩:=wf.step h0 h1 hx.1 hx.2
  rw[B5,h]
  exact U1 wf ws (AF.mpr fun y hy=>AF.mp hv y (jk_ _ hy)) g0 g1
end GB
namespace L2
open PySem PySem.Spec PyProof.Rows GW GB
noncomputable def TK (H H':Hp):Prop:=∀b xs,H b=some (.tup xs)->H' b=some (.tup xs)
theorem TK.refl (H:Hp):TK H H:=fun _ _ h=>h
theorem TK.of  (s:Same H H'):TK H H':=fun b xs h=>s b _ h
theorem TK.trans  (a:TK H H')(b:TK H' gm):TK H gm:=fun c xs h=>b c xs (a c xs h)
theorem TK.new    (h:H p=none):TK H (upd H p o):=TK.of (Same.new h)
theorem TK.lst {H:Hp}{p:Addr}{o:HO}{xs:List V}(h:H p=some (.lst xs)):TK H (upd H p o):=fun b ys e=>by rw[Ai (fun z=>by rw[z,h]at e;cases e)];exact e
theorem Cz_ {κ:Type}[DecidableEq κ]{kvs:List (κ×V)}{i:Nat}{k:κ}{v:V}(hn:(kvs.map (·.1)).Nodup)(h:kvs[i]?=some (k,v)):valV kvs k=some v:=by
 induction kvs generalizing i with
 |nil=>simp at h
 |cons p r ih=>
  rw[j1_,qA_]at hn
  cases i with
  |zero=>simp at h;subst h;exact Lj rfl
  |succ i=>
   have h':r[i]?=some (k,v):=by simpa using h
   rw[Lk (fun z=>hn.1 (jv_.mpr ⟨(k,v),jc_ h',z.symm⟩))]
   exact ih hn.2 h'
end L2
namespace L2
theorem Yb    : XC σ H Q=∀p,H p=none->Q (.ref p) (upd H p (.dK [])):=rfl
theorem Yc    : XD σ H Q=∀p,H p=none->Q (.ref p) (upd H p (.dT [])):=rfl
end L2
namespace GB
open GW
theorem Pl   : isW L (x::w)=true↔(0<=x/\x<L)/\isW L w=true:=by
 rw[AF,AF]
 simp
theorem Pm   (h:isW L w=true)(j:Nat):isW L (w.take j)=true:=AF.mpr fun x hx=>AF.mp h x (xf_ hx)
theorem Dc   (h:isW L v=true)(g:isW L w=true):isW L (v++w)=true:=AF.mpr fun x hx=>(jA_.mp hx).elim (AF.mp h x) (AF.mp g x)
end GB
namespace L2
open GW
noncomputable def Yd (n:Nat)(num:Int):α2:=0::(List.range (n-1)).map fun j:Nat=>1+((j:Int)+num)%((n:Int)-1)
theorem Ye  (hn:2<=n)(num:Int):Fd n (Yd n num):=by
 have rng:∀j:Nat,0<=((j:Int)+num)%((n:Int)-1)/\((j:Int)+num)%((n:Int)-1)<(n:Int)-1:=fun j=>⟨j6_ _ s!"",jZ_ _ s!""⟩
 refine⟨LK ?_ (fun x hx=>?_) ?_,rfl⟩
 ·unfold Yd
  rw[qA_]
  refine⟨fun h=>?_,?_⟩
  ·obtain⟨j,_,e⟩:=jv_.mp h
   have:=rng j
   lia
  ·refine xC_.mpr (List.Pairwise.imp_of_mem (fun {a b} ha hb cj z=>cj ?_) zw_)
   have ha:=jP_.mp ha
   have hb:=jP_.mp hb
   have z:((a:Int)+num)%((n:Int)-1)=((b:Int)+num)%((n:Int)-1):=by lia
   have key:∀{a b:Nat},b<=a->a<n-1->((a:Int)+num)%((n:Int)-1)=((b:Int)+num)%((n:Int)-1)->a=b:=fun {a b} h1 h2 z=>by
    have:=Int.emod_eq_emod_iff_emod_sub_eq_zero.mp z
    rw[show (a:Int)+num-((b:Int)+num)=(a:Int)-b by lia,Int.emod_eq_of_lt s!"" s!""]at this
    lia
   rcases Nat.le_total b a with h|h
   ·exact key h ha z
   ·exact (key h hb z.symm).symm
 ·rw[X7]
  unfold Yd at hx
  rcases jL_.mp hx with rfl|hx
  ·lia
  ·obtain⟨j,_,rfl⟩:=jv_.mp hx
   have:=rng j
   lia
 ·unfold Yd
  rw[X8];simp;lia
end L2
namespace L2
open PySem PySem.Spec PyProof.Rows GW
noncomputable def LLs (H0 H:Hp)(xs:List V)(ws:α1):Prop:=∃ts:List Addr,xs=ts.map V.ref/\ts.length=ws.length/\ts.Nodup/\(∀(i:Nat) (t:Addr) (w:α2),ts[i]?=some t->ws[i]?=some w->H t=some (.lst (w.map V.int)))/\∀t∈ts,H0 t=none
theorem LLs.nil (H0 H:Hp):LLs H0 H [] []:=⟨[],rfl,rfl,List.nodup_nil,fun i t w h=>by simp at h,fun t h=>by simp at h⟩
theorem LLs.mono    (h:LLs H0 H xs ws)(s:Same H H'):LLs H0 H' xs ws:=by
 obtain⟨ts,a,b,c,d,e⟩:=h
 exact⟨ts,a,b,c,fun i t w h1 h2=>s _ _ (d i t w h1 h2),e⟩
theorem LLs.len    (h:LLs H0 H xs ws):xs.length=ws.length:=by
 obtain⟨ts,a,b,_⟩:=h
 rw[a,ja_,b]
theorem LLs.snoc      (h:LLs H0 H xs ws)(h0:H0 p=none)(hp:H p=none):LLs H0 (upd H p (.lst (w.map V.int))) (xs++[.ref p]) (ws++[w]):=by
 obtain⟨ts,a,b,c,d,e⟩:=h
 have hts:∀t∈ts,t≠p:=fun t ht z=>by
  obtain⟨i,hi,ei⟩:=jR_ ht
  have:=d i t ws[i] (by rw[jf_ hi,ei]) (by simp[show i<ws.length by lia])
  rw[z,hp]at this;cases this
 refine⟨ts++[p],by rw[a];simp,by simp[b],?_,fun i t v h1 h2=>?_,fun t ht=>?_⟩
 ·rw[zm_]
  refine⟨c,by simp,fun x hx y hy=>?_⟩
  simp at hy;subst hy;exact hts x hx
 ·by_cases hi:i<ts.length
  ·rw[jj_ hi]at h1
   rw[jj_ s!""]at h2
   rw[Ai (hts t (jc_ h1))]
   exact d i t v h1 h2
  ·have:=(jb_.mp h1).1
   rw[jo_,j0_]at this
   have ei:i=ts.length:=by lia
   subst ei
   rw[jr_ (jg_ _),qs_]at h1
   rw[b,jr_ (jg_ _),qs_]at h2
   simp at h1 h2
   subst h1 h2
   exact Ab
 ·rcases jA_.mp ht with ht|ht
  ·exact e t ht
  ·rw[jq_.mp ht];exact h0
theorem LLs.at    (h:LLs H0 H xs ws)   (hw:ws[i]?=some w):∃t,xs[i]?=some (.ref t)/\H t=some (.lst (w.map V.int))/\H0 t=none/\∀j x,LLs H0 (upd H t (.lst ((w.set j x).map V.int))) xs (ws.set i (w.set j x)):=by
 obtain⟨ts,a,b,c,d,e⟩:=h
 have hi:i<ts.length:=by rw[b];exact (jb_.mp hw).1
 have ht:ts[i]?=some ts[i]:=by simp[hi]
 refine⟨ts[i],by rw[a,jd_,ht];rfl,d i _ w ht hw,e _ (j2_ hi),fun j x=>⟨ts,a,by rw[qO_];exact b,c,fun k t v h1 h2=>?_,e⟩⟩
 by_cases hk:k=i
 ·subst hk
  rw[ht]at h1;cases h1
  rw[qL_ s!""]at h2;cases h2
  exact Ab
 ·have aw:t≠ts[i]:=fun z=>hk (by
   have dn:=(jb_.mp h1).1
   refine (xJ_ (h₀:=dn) (h₁:=hi) c).mp ?_
   rw[<-z]
   exact (jb_.mp h1).2)
  rw[xd_ (qx_ hk)]at h2
  rw[Ai aw]
  exact d k t v h1 h2
theorem Same.none  (s:Same H H')  (h:H' p=none):H p=none:=by
 cases e:H p with
 |none=>rfl
 |some u=>rw[s _ _ e]at h;cases h
theorem ZE {K:α3}         (hl:SqL K H a xs)(ak:xs.length=ws.length)(e:cp.st σ=Option.none::ag)(hz:xs.length<sizeLine)
  (hs:∀(i:Nat) (x:V) (w:α2) H2,Same H H2->xs[i]?=some x->ws[i]?=some w->∀R:VK,(∀p H3,Same H2 H3->SqT K H3 p (w.map V.int)->R (.ref p) H3)->te (some x::ag) H2 R)
  (hd:∀H2 D ys,Same H H2->H2 D=Option.none->D0 K (upd H2 D (.lst ys)) D ws->Q (.ref D) (upd H2 D (.lst ys))):Q8 (Itl K a) cp (Jn 0) VI te σ H Q:=by
 refine Q9 (xs:=xs) (fun i ys aj H2=>Same H H2/\(∃ts:List Addr,ys=ts.map V.ref/\ts.length=i/\∀(j:Nat) (t:Addr) (w:α2),ts[j]?=some t->ws[j]?=some w->SqT K H2 t (w.map V.int))/\∃o,aj=o::ag) ⟨Same.refl _,⟨[],rfl,rfl,fun j t w h=>by simp at h⟩,Option.none,e⟩ hz (fun i ys aj H2 hi h=>?_) (fun i x ys aj H2 hx h=>?_) (fun ys aj H2 h=>?_)
 ·obtain⟨s,⟨ts,rfl,hm,_⟩,_⟩:=h
  exact⟨s.seq hl,by rw[ja_];lia⟩
 ·obtain⟨s,⟨ts,rfl,hm,ht⟩,o,rfl⟩:=h
  have hi:i<ws.length:=by rw[<-ak];exact (jb_.mp hx).1
  refine hs i x ws[i] H2 s hx (by simp[hi]) _ fun p H3 s3 hp=>⟨s.trans s3,⟨ts++[p],by simp,by simp[hm],fun j t w h1 h2=>?_⟩,some x,rfl⟩
  by_cases hj:j<ts.length
  ·rw[jj_ hj]at h1
   exact s3.seqT (ht j t w h1 h2)
  ·have:=(jb_.mp h1).1
   rw[jo_,j0_]at this
   have ej:j=i:=by lia
   subst ej
   rw[<-hm,jr_ (jg_ _),qs_]at h1
   simp at h1
   subst h1
   rw[jf_ hi]at h2
   cases h2
   exact hp
 ·obtain⟨s,⟨ts,rfl,hm,ht⟩,_⟩:=h
  exact fun D hD=>hd H2 D _ s hD ⟨ts,Ab,by lia,fun j t w h1 h2=>(Same.new hD).seqT (ht j t w h1 h2)⟩
end L2
namespace GW
theorem Wf.setM    (wf:Wf L aa ae)(r:Nat)  (h:0<=m/\m<=1000000000):Wf L (aa.set r m) ae:=by
 refine⟨wf.l1,wf.l6,by rw[qO_];exact wf.n1,by rw[qO_];exact wf.n40,by rw[qO_];exact wf.len,fun row hr=>?_,fun x hx=>?_⟩
 ·rw[qO_];exact wf.rows row hr
 ·rcases x0_ hx with hx|rfl
  ·exact wf.mks x hx
  ·exact h
theorem Wf.setW {L:Int}{aa:α2}{ae:α1}(wf:Wf L aa ae){i:Nat}{row:α2}(hr:ae[i]?=some row)(j:Nat){g:Int}(h:0<=g/\g<aa.length):Wf L aa (ae.set i (row.set j g)):=by
 refine⟨wf.l1,wf.l6,wf.n1,wf.n40,by rw[qO_];exact wf.len,fun x hx=>?_,wf.mks⟩
 rcases x0_ hx with hx|rfl
 ·exact wf.rows x hx
 ·have:=wf.rows row (jc_ hr)
  refine⟨by rw[qO_];exact this.1,fun y hy=>?_⟩
  rcases x0_ hy with hy|rfl
  ·exact this.2 y hy
  ·exact h
end GW
namespace L2
open PySem GW
theorem LLs.off      (h:LLs H0 H xs ws)(hp:H0 p=some u):LLs H0 (upd H p o) xs ws:=by
 obtain⟨ts,a,b,c,d,e⟩:=h
 refine⟨ts,a,b,c,fun i t w h1 h2=>?_,e⟩
 rw[Ai (fun z=>by have:=e t (jc_ h1);rw[z,hp]at this;cases this)]
 exact d i t w h1 h2
end L2
namespace L2
open PySem PySem.Spec PyProof.Rows
theorem S5:∀(names:List (Str×NameKind)) (h:Heap) (ai:List (Str×Addr)) (x:Str) (c:Addr),(cellsFrom h.objs.size names ai).lookup x=some c->((pushCells h names).IsCell c none/\h.objs.size<=c)\/ai.lookup x=some c
 |[],_,_,_,_,e=>.inr e
 | (y,k)::r,h,ai,x,c,e=>by
  unfold cellsFrom at e
  unfold pushCells
  by_cases hk:(k == .cell)=true
  ·rw[if_pos hk]at e ⊢
   have e':(cellsFrom (h.push {cls:=.type "cell",data:=.cell none}).objs.size r ((y,h.objs.size)::ai)).lookup x=some c:=by rw[qu_];exact e
   rcases S5 r _ _ x c e' with ⟨a,b⟩|q
   ·rw[qu_]at b
    exact .inl ⟨a,xD_ b⟩
   ·rw[j4_]at q
    cases hx:x==y with
    |true=>
     rw[hx]at q
     have:h.objs.size=c:=jp_ q
     subst this
     exact .inl ⟨⟨_,pushCells_keeps _ _ _ _ (jC_ _ rfl),rfl⟩,jg_ _⟩
    |false=>rw[hx]at q;exact .inr q
  ·rw[if_neg hk]at e ⊢
   exact S5 r h ai x c e
theorem Lo:∀(names:List (Str×NameKind)) (n:Nat) (ai:List (Str×Addr)) (x:Str) (c:Addr),(cellsFrom n names ai).lookup x=some c->n<=c\/ai.lookup x=some c
 |[],_,_,_,_,e=>.inr e
 | (y,k)::r,n,ai,x,c,e=>by
  unfold cellsFrom at e
  by_cases hk:(k == .cell)=true
  ·rw[if_pos hk]at e
   rcases Lo r _ _ x c e with b|q
   ·exact .inl (xD_ b)
   ·rw[j4_]at q
    cases hx:x==y with
    |true=>rw[hx]at q;have:n=c:=jp_ q;exact .inl (Nat.le_of_eq this)
    |false=>rw[hx]at q;exact .inr q
  ·rw[if_neg hk]at e
   exact Lo r n ai x c e
theorem Yf:∀(names:List (Str×NameKind)) (n:Nat) (ai:List (Str×Addr)),(∀x y c,ai.lookup x=some c->ai.lookup y=some c->x=y)->(∀x c,ai.lookup x=some c->c<n)->∀x y c,(cellsFrom n names ai).lookup x=some c->(cellsFrom n names ai).lookup y=some c->x=y
 |[],_,_,hi,_,x,y,c,e1,e2=>hi x y c e1 e2
 | (z,k)::r,n,ai,hi,hb,x,y,c,e1,e2=>by
  unfold cellsFrom at e1 e2
  by_cases hk:(k == .cell)=true
  ·rw[if_pos hk]at e1 e2
   refine Yf r (n+1) ((z,n)::ai) (fun x y c h1 h2=>?_) (fun x c h=>?_) x y c e1 e2
   ·rw[j4_]at h1 h2
    cases hx:x==z with
    |true=>
     cases hy:y==z with
     |true=>rw[zU_.mp hx,zU_.mp hy]
     |false=>
      rw[hx]at h1;rw[hy]at h2
      have e:n=c:=jp_ h1
      exact absurd (hb y c h2) (by rw[<-e];exact j5_ _)
    |false=>
     cases hy:y==z with
     |true=>
      rw[hx]at h1;rw[hy]at h2
      have e:n=c:=jp_ h2
      exact absurd (hb x c h1) (by rw[<-e];exact j5_ _)
     |false=>rw[hx]at h1;rw[hy]at h2;exact hi x y c h1 h2
   ·rw[j4_]at h
    cases hx:x==z with
    |true=>rw[hx]at h;have e:n=c:=jp_ h;rw[<-e];exact zt_ _
    |false=>rw[hx]at h;exact xh_ (hb x c h)
  ·rw[if_neg hk]at e1 e2
   exact Yf r n ai hi hb x y c e1 e2
theorem S6:∀(names:List (Str×NameKind)) (n:Nat) (ai:List (Str×Addr)) (x:Str),(∀p∈names,p.1=x->p.2 ≠ .cell)->(cellsFrom n names ai).lookup x=ai.lookup x
 |[],_,_,_,_=>rfl
 | (y,k)::r,n,ai,x,h=>by
  unfold cellsFrom
  by_cases hk:(k == .cell)=true
  ·rw[if_pos hk,S6 r _ _ x fun p hp=>h p (jk_ _ hp),j4_]
   cases hx:x==y with
   |true=>exact absurd (zU_.mp hk) (h (y,k) jn_ (zU_.mp hx).symm)
   |false=>rfl
  ·rw[if_neg hk]
   exact S6 r n ai x fun p hp=>h p (jk_ _ hp)
theorem Ro      {globals:Addr}
  (hQ:Q {scope:=sc,locals:=s.heap.objs.size,globals,cells:=cellsFrom (s.heap.objs.size+1) sc.names cl,qual,func:=none,code:=outer.code,frame:=outer.frame,builtins:=outer.builtins} {s with heap:=pushCells (s.heap.push {cls:=.type "dict",data:=.dict #[]}) sc.names}):
  wpAny M A (newFunctionEnv sc globals cl [] qual none .none (some outer)) Q E s:=by
 simp only[newFunctionEnv,za_,xO_]
 refine je_ (wpAny_alloc (je_ (wpAny_layCells _ (fun name kind cells=>by cases iN:kind==NameKind.cell<;>simp[iN]) _ _ _ _ ?_)))
 rw[show ({s with heap:=s.heap.push {cls:=.type "dict",data:=.dict #[]} }:Shared).heap.objs.size=s.heap.objs.size+1 from qu_ ..]
 refine je_ ?_
 rw[List.forIn_nil]
 exact ju_ (ju_ hQ)
noncomputable abbrev ownC (X:Cx)(sc:Scope)(C:Addr):List (Str×Addr):=cellsFrom (C+1) sc.names (clOf X.env sc.names [])
noncomputable abbrev Cx.blkC (X:Cx)(N:List Str)(sc:Scope)(C:Addr)(s₀:Shared)(H₀:Hp)(ex:List Addr):Cx:=
 {X with N:=N,env:=compEnvC sc (ownC X sc C) C X.env,outer:=X.stack,s₀:=s₀,H₀:=H₀,ex:=ex,fn:=fun x=>sc.names.lookup x==some .cell,pn:=[],xe:=fun _ _=>False}
theorem LO {env:Env}:∀(l:List (Str×NameKind)) (ai:List (Str×Addr)) (x:Str) (c:Addr),(x,c)∈clOf env l ai->(x,NameKind.free)∈l\/(x,c)∈ai
 |[],_,_,_,h=>.inr h
 | (n,k)::r,ai,x,c,h=>by
  unfold clOf at h
  by_cases hk:(k == .free)=true
  ·rw[if_pos hk]at h
   rcases LO r _ x c h with q|q
   ·exact .inl (jk_ _ q)
   ·rcases jL_.mp q with q|q
    ·cases q
     rw[zU_.mp hk]
     exact .inl jn_
    ·exact .inr q
  ·rw[if_neg hk]at h
   rcases LO r _ x c h with q|q
   ·exact .inl (jk_ _ q)
   ·exact .inr q
structure BlkScC (X:Cx)(sc:Scope):Prop where
 kind:sc.kind=.function
 one:∀y∈sc.names,∀z∈sc.names,y.1=z.1->y.2=z.2
 loc:∀y∈sc.names,y.2=.local->sc.names.lookup y.1=some .local
 free:∀y∈sc.names,y.2=.free->X.env.kindOf y.1=some .cell\/X.env.kindOf y.1=some .free
section
variable {X:Cx} {af:α7} {σ:St} {H:Hp} {s:Shared} {sc:Scope} {fp:List Addr}
theorem Oy (I:Inv X af σ H s)(S:BlkScC X sc):∀p∈sc.names,p.2=.free->∃c,X.env.cells.lookup p.1=some c:=fun p hp e=>I.ok.has p.1 (S.free p hp e)
theorem FF (I:Inv X af σ H s)(S:BlkScC X sc)   (h:(clOf X.env sc.names []).lookup x=some c):X.env.cells.lookup x=some c:=
 Ll sc.names [] (Oy I S) (fun q hq=>by cases hq) (x,c) (qe_ h)
theorem Js  (I:Inv X af σ H s)(S:BlkScC X sc)   (h:(ownC X sc C).lookup x=some c):C+1<=c\/X.env.cells.lookup x=some c:=by
 rcases Lo _ _ _ _ _ h with q|q
 ·exact .inl q
 ·exact .inr (FF I S q)
theorem FG {env:Env}:∀{names:List (Str×NameKind)} {x:Str} {k:NameKind},(names.map (relF env)).lookup x=some k->(k=.cell\/k=.free)->(x,NameKind.free)∈names\/names.lookup x=some .cell
 |[],_,_,h,_=>by simp at h
 | (n,k')::r,x,k,h,hk=>by
  have ih := @FG env r x k
  rw[j1_]at h
  rw[j4_]
  by_cases hb:(k'==NameKind.free&&env.scope.kind == .function&&env.kindOf n==some .cell)=true
  ·rw[Lm hb,j4_]at h
   cases hx:x==n with
   |true=>
    have e:x=n:=by simpa using hx
    subst e
    have e2:k'=.free:=by
     simp only[qa_]at hb
     simpa using hb.1.1
    subst e2
    exact .inl jn_
   |false=>
    rw[hx]at h
    rcases ih h hk with q|q
    ·exact .inl (jk_ _ q)
    ·exact .inr q
  ·rw[O6 hb,j4_]at h
   cases hx:x==n with
   |true=>
    rw[hx]at h
    have e:x=n:=by simpa using hx
    subst e
    have e2:k'=k:=jp_ h
    subst e2
    rcases hk with rfl|rfl
    ·exact .inr rfl
    ·exact .inl jn_
   |false=>
    rw[hx]at h
    rcases ih h hk with q|q
    ·exact .inl (jk_ _ q)
    ·exact .inr q
theorem CA_ {N:List Str}{C:Addr}(I:Inv X af σ H s)(S:BlkScC X sc)(hC:s.heap.objs.size<=C)(hf:∀b∈fp,FpOk X af H b)(ho:∀b∈fp,∃o,s.heap.get? b=some o):(X.blkC N sc C s H fp).Ok where
 mod:=I.ok.mod
 kind:=S.kind
 glob:=I.ok.glob
 blt:=I.ok.blt
 above:=hC
 inj:=fun x y c h1 h2=>by
  refine Yf sc.names (C+1) (clOf X.env sc.names []) (fun x y c h1 h2=>I.ok.inj x y c (FF I S h1) (FF I S h2)) (fun x c h=>?_) x y c h1 h2
  obtain⟨v,q⟩:=I.cell x c (FF I S h)
  exact xh_ (jx_ q.lt hC)
 has:=fun x hx=>by
  have d6:(x,NameKind.free)∈sc.names\/sc.names.lookup x=some .cell:=by
   rcases hx with hx|hx
   ·exact FG (env:=X.env) hx (.inl rfl)
   ·exact FG (env:=X.env) hx (.inr rfl)
  refine Option.isSome_iff_exists.mp (xK_ sc.names (C+1) (clOf X.env sc.names []) ?_)
  rcases d6 with q|q
  ·obtain⟨c,hc⟩:=Hd (env:=X.env) sc.names [] x (.inl q)
   obtain⟨c',e⟩:=BF hc
   exact .inr (by rw[e];rfl)
  ·exact .inl q
 cab:=fun x c h e=>by
  have hx:sc.names.lookup x=some .cell:=by simpa using h
  rcases Lo _ _ _ _ _ e with q|q
  ·exact ql_ hC (xD_ q)
  ·rcases LO _ _ _ _ (qe_ q) with z|z
   ·have:=S.one _ (qe_ hx) _ z rfl
    cases this
   ·cases z
 hd:=I.ok.hd
 frames:=I.ok.frames
 stk:=.inl rfl
 exf:=fun b hb=>by
  obtain⟨o,ho⟩:=ho b hb
  refine⟨jK_ (jx_ (js_ ho) hC),fun x c h=>?_⟩
  rcases Js I S h with q|q
  ·intro z;rw[z]at q;exact absurd (jx_ (js_ ho) hC) (Nat.not_lt_of_le (xD_ q))
  ·exact (hf b hb).2.2.2.2.1 x c q
 bs:=I.bs
 bsz:=ql_ I.ok.bsz I.sz
 noex:=fun b o e hb=>by
  rcases (hf b hb).2.2.2.1 with z|z
  ·exact I.ok.noex b o e z
  ·exact absurd (jx_ (js_ (I.ok.bs b o e).1) z) (j5_ _)
 exfs:=fun b hb z=>by
  rcases jL_.mp (I.stkSub b z) with e|e
  ·exact (hf b hb).2.1 e
  ·exact (hf b hb).2.2.1 e
 funs:=I.stack
 frf:=I.stkFree
theorem VS {c:Caps}{C:Addr}{s4:Shared}{m:Str->α5}(I:Inv X af σ H s)(S:BlkScC X sc)(hc:Ei X.N sc c)(hC:s.heap.objs.size<=C)(hf:∀b∈fp,FpOk X af H b)(ho:∀b∈fp,∃o,s.heap.get? b=some o)
  (cW:s4.os=s.os) (hb:s4.gens=s.gens) (hk:∀b o,s.heap.get? b=some o->s4.heap.get? b=some o) (hn:s4.heap.Ns C m)
  (bw:∀x c,(ownC X sc C).lookup x=some c->(s4.heap.IsCell c none/\C+1<=c)\/(clOf X.env sc.names []).lookup x=some c):Inv (X.blkC c.names sc C s H fp) [] (c.st σ) H s4 where
 ok:=CA_ I S hC hf ho
 os:=cW
 bare:=by rw[hb];exact I.bare
 base:=Un.kept hk
 loc:=by
  refine⟨m,hn,fun i x v h1 h2 hv=>?_⟩
  have fk:(c.map (·.1))[i]?=some x:=h1
  have iE:(c.map fun p=>p.2.bind fun j=>(σ[j]?).join)[i]?=some (some v):=h2
  rw[jd_]at fk iE
  cases e:c[i]? with
  |none=>rw[e]at fk;cases fk
  |some p=>
   obtain⟨y,oj⟩:=p
   rw[e]at fk iE
   have e1:y=x:=jp_ fk
   subst e1
   have e2:(oj.bind fun j=>(σ[j]?).join)=some v:=jp_ iE
   cases oj with
   |none=>cases e2
   |some j=>
    have e3:(σ[j]?).join=some v:=e2
    have e4:σ[j]?=some (some v):=by
     cases q:σ[j]? with
     |none=>rw[q]at e3;cases e3
     |some z=>rw[q]at e3;exact jD_ some e3
    obtain⟨k1,k2⟩:=Ei.get hc e
    have iO:=qe_ k2
    have k3:X.env.kindOf y=some .cell\/X.env.kindOf y=some .free:=S.free (y,.free) iO rfl
    have j7:Vis X.env.scope y:=by
     rcases k3 with k|k
     ·exact .inr (.inl k)
     ·exact .inr (.inr k)
    obtain⟨mX,hnX,hl⟩:=I.loc
    obtain⟨u,r,l⟩:=hl j y v k1 e4 j7
    refine⟨u,r,?_⟩
    rcases l with ⟨k,_⟩|⟨_,ca,mJ,z⟩
    ·rcases k3 with k' | k'<;>(rw[k]at k';cases k')
    ·obtain⟨kd,kg,ek⟩:=Gq (env:=X.env) k2
     have fm:(compEnvC sc (ownC X sc C) C X.env).kindOf y=some kd:=ek
     obtain⟨c',eJ⟩:=Hd (env:=X.env) sc.names [] y (.inl iO)
     obtain⟨c2,bX⟩:=BF eJ
     have e5:=FF I S bX
     rw[mJ]at e5
     have e6:ca=c2:=jp_ e5
     subst e6
     have e7:(ownC X sc C).lookup y=some ca:=by
      rw[S6 sc.names (C+1) _ y fun p hp ep z=>?_]
      ·exact bX
      ·have:=S.one p hp (y,.free) iO ep
       rw[z]at this;cases this
     refine .inr ⟨?_,ca,e7,?_⟩
     ·rcases kg with rfl|rfl
      ·exact .inl fm
      ·exact .inr fm
     ·obtain⟨oc,di,hd⟩:=z
      exact⟨oc,hk _ _ di,hd⟩
 cell:=fun x ca h=>by
  rcases bw x ca h with ⟨q,_⟩|q
  ·exact⟨_,q⟩
  ·obtain⟨v,oc,di,hd⟩:=I.cell x ca (FF I S q)
   exact⟨v,oc,hk _ _ di,hd⟩
 free:=I.hok.fresh hC
 freeC:=fun x ca h=>by
  rcases bw x ca h with ⟨_,q⟩|q
  ·exact I.hok.fresh (ql_ hC (xD_ q))
  ·exact I.freeC x ca (FF I S q)
 pin:=fun p hp=>absurd (show p∈([]:α7) from hp) (by simp)
 hok:=I.hok.kept hk
 len:=by show (c.map _).length=(c.map _).length;rw[ja_,ja_]
theorem ZF {c:Caps}{C D:Addr}{s':Shared}{ag:St}{H':Hp}{o:HO}(I:Inv X af σ H s)(J:Inv (X.blkC c.names sc C s H fp) [] ag H' s')(hf:∀b∈fp,FpOk X af H b)(hD:s.heap.objs.size<=D)(hn:H' D=none)
  (new:Cc X.prog X.w (upd H' D o) s'.heap D o):Inv X af σ (upd H' D o) s':=by
 have u:Un (frs X.stack) fp H H' s.heap s'.heap:=J.base
 exact I.call' J.os (u.track hD hn) (J.hok.track hn new) J.bare fun b hb=>⟨(hf b hb).2.2.2.1,(hf b hb).2.1,(hf b hb).2.2.2.2.1,(hf b hb).2.2.2.2.2⟩
end
section
variable {X:Cx} {tg iter cc:Expr} {bY:List Expr} {sc:Scope} {pos:Pos} {wi:TI} {cp:Caps} {g:TG} {tc:TT} {te:TE}
theorem VT (hc:X.calm=true)(S:BlkScC X sc)(gh:Ei X.N sc cp)
  (hg:∀C s₀ H₀ ex,PG (X.blkC cp.names sc C s₀ H₀ ex) tg g) (hf:∀C s₀ H₀ ex,PF (X.blkC cp.names sc C s₀ H₀ ex) bY tc) (he:∀C s₀ H₀ ex,PE (X.blkC cp.names sc C s₀ H₀ ex) cc te)
  {af:α7} {σ:St} {H:Hp} {s:Shared} {J:It} {it:Addr} {fp:List Addr} {tn:Nat->Heap->Prop} {Q:VK} {RR:Value->Addr->Result->Shared->Prop} {E:Value->Shared->Prop}
  (I:Inv X af σ H s) (T:Turn X.prog X.w X.K tg J fp it tn) (st:tn 0 s.heap) (d7:∀b∈fp,FpOk X af H b)
  (hw:∃W:Nat->Nat->List V->St->Hp->Prop,(∃m,W 0 m [] (cp.st σ) H)/\∀i m ys ag H',W i m ys ag H' ->
   ys.length<sizeLine/\((J.stop i H'/\∀D,H' D=none->Q (.ref D) (upd H' D (.lst ys)))\/(J.go i H'/\∃N:List V->St->Hp->Prop,(∀zs aj H2,N zs aj H2->∃m',m'<m/\W (i+1) m' zs aj H2)/\∀x H2,J.yld i H' x H2->g x ag H2 fun aj H3=>tc aj H3 fun b H4=>
    if b=true then te aj H4 fun v H5=>N (ys++[v]) aj H5 else N ys aj H4)))
  (hR:∀D C s' H' (m:Str->α5),Inv X af σ H' s'->Q (.ref D) H'->s'.heap.Ns C m->H' C=none->C≠X.env.locals->X.s₀.heap.objs.size<=C->(∀x c,X.env.cells.lookup x=some c->c≠C)->(∀p∈X.pn++af,p.1≠C)->RR (.ref D) C (.ok .next) s'):
  wpAny (model X.prog X.w) X.A (newList []) (fun ai a7=>wpAny (model X.prog X.w) X.A (newFunctionEnv sc X.env.globals (clOf X.env sc.names []) [] X.env.qual none .none (some X.env)) (fun fo iF=>
   codeAny (model X.prog X.w) X.A (.compStart (.ListComp cc [⟨tg,iter,bY,0⟩] sc pos) 0 (.ref it) ai {fo with scope:=relabel sc X.env}) (RR ai fo.locals) iF) E a7) E s:=by
 obtain⟨W,⟨m0,w0⟩,turn⟩:=hw
 refine qS_ (Ro ?_)
 dsimp only
 generalize iG:s.heap.push {cls:=.type "list",dict:=none,data:=.seq ([]:List Value).toArray}=H2
 obtain⟨h₁,dH⟩:∃h₁,h₁=pushCells (H2.push {cls:=.type "dict",data:=.dict #[]}) sc.names:=⟨_,rfl⟩
 rw[<-dH]
 have hcells:∀x c,(ownC X sc H2.objs.size).lookup x=some c->(h₁.IsCell c none/\H2.objs.size+1<=c)\/(clOf X.env sc.names []).lookup x=some c:=fun x c e=>by
  have:=S5 sc.names (H2.push {cls:=.type "dict",data:=.dict #[]}) (clOf X.env sc.names []) x c (by rw[qu_];exact e)
  rw[qu_]at this
  rw[dH];exact this
 have bJ:h₁.Ns H2.objs.size (fun _=>none):=by rw[dH];exact (Heap.Ns.new H2 (.type "dict")).keeps (pushCells_keeps _ _)
 have keep₁:∀b o,H2.get? b=some o->h₁.get? b=some o:=fun b o e=>by rw[dH];exact pushCells_keeps _ _ b o (jm_ _ e)
 have hC:H2.objs.size=s.heap.objs.size+1:=by rw[<-iG,qu_]
 have gY:s.heap.objs.size≠H2.objs.size:=by rw[hC];exact jK_ (zt_ _)
 have bt:s.heap.objs.size<=H2.objs.size:=by rw[hC];exact zX_ _
 have below:∀b,b<s.heap.objs.size->b≠H2.objs.size:=fun b hb=>by rw[hC];exact jK_ (xh_ hb)
 have old:∀b o,s.heap.get? b=some o->h₁.get? b=some o:=fun b o e=>keep₁ b o (iG ▸ jm_ _ e)
 have bK:h₁.get? s.heap.objs.size=some {cls:=.type "list",data:=.seq ([]:List Value).toArray 0}:=keep₁ _ _ (iG ▸ jC_ _ rfl)
 have bL:tn 0 h₁:=T.keep 0 _ _ st fun b _ o e=>old b o e
 have br:∀b∈fp,∃o,s.heap.get? b=some o:=fun b hb=>let ⟨o,e,_⟩:=T.obj 0 _ st b hb;⟨o,e⟩
 have J0:Inv (X.blkC cp.names sc H2.objs.size s H fp) [] (cp.st σ) H {s with heap:=h₁}:=VS I S gh bt d7 br rfl rfl old bJ hcells
 have mK:∀b,s.heap.objs.size<=b->b∉frs X.stack:=fun b hb z=>by
  rcases jL_.mp (I.stkSub b z) with e|e
  ·exact absurd (jx_ I.lt (by rw[<-e];exact hb)) (j5_ _)
  ·exact I.nofs hb e
 have cR:∀b,s.heap.objs.size<=b->∀x c,X.env.cells.lookup x=some c->c≠b:=fun b hb x c e z=>by
  obtain⟨v,q⟩:=I.cell x c e
  exact absurd (jx_ q.lt (by rw[z];exact hb)) (j5_ _)
 have kh:∀{aV:α7} {H':Hp},(∀b∈fp,H' b=none)->(∀p∈aV,p.1∉fp)->∀b∈fp,FpOk (X.blkC cp.names sc H2.objs.size s H fp) aV H' b:=fun {aV H'} hn hp b hb=>by
  obtain⟨o,e⟩:=br b hb
  refine⟨hn b hb,below b (js_ e),fun z=>?_,.inl hb,fun x c h=>(by
   rcases Js I S h with q|q
   ·intro z;rw[z]at q;exact absurd (js_ e) (Nat.not_lt_of_le (ql_ bt (xD_ q)))
   ·exact (d7 b hb).2.2.2.2.1 x c q),fun p jC z=>?_⟩
  ·rcases jL_.mp (I.stkSub b z) with e|e
   ·exact (d7 b hb).2.1 e
   ·exact (d7 b hb).2.2.1 e
  ·have iH:p∈aV:=by simpa using jC
   exact hp p iH (by rw[z];exact hb)
 have loop:∀a7:Shared,a7={s with heap:=h₁} ->
   codeAny (model X.prog X.w) X.A (.compLoop (.ListComp cc [⟨tg,iter,bY,0⟩] sc pos) 0 (.ref it) (.ref s.heap.objs.size) (compEnvC sc (ownC X sc H2.objs.size) H2.objs.size X.env))
    (RR (.ref s.heap.objs.size) H2.objs.size) a7:=by
  rintro a7 rfl
  refine Ka (fun n s'=>∃i ag H' ys its k,Inv (X.blkC cp.names sc H2.objs.size s H fp) [] ag H' s'/\tn i s'.heap/\(∀b∈fp,H' b=none)/\H' s.heap.objs.size=none /\
   s'.heap.get? s.heap.objs.size=some {cls:=.type "list",data:=.seq its.toArray k}/\Vals ys its/\W i n ys ag H') ?_ m0
   ⟨0,_,H,[],[],0,J0,bL,fun b hb=>(d7 b hb).1,I.hok.fresh (jg_ _),bK,.nil,w0⟩
  rintro n s3 ⟨i,aA,H3,ys,its,k,I3,cV,jz,mL,e3,rv,w3⟩
  obtain⟨hz,tr⟩:=turn i n ys aA H3 w3
  have ak:=rv.length
  -- mD accumulator stands still while anything else runs
  have fq:∀p ∈ [(s.heap.objs.size,({cls:=.type "list",data:=.seq its.toArray k}:Obj))],p.1∉fp:=fun p hp z=>by
   have e:p=_:=jq_.mp hp
   subst e
   obtain⟨o,e⟩:=br _ z
   exact absurd (js_ e) (j5_ _)
  have ki:Inv (X.blkC cp.names sc H2.objs.size s H fp) [(s.heap.objs.size,({cls:=.type "list",data:=.seq its.toArray k}:Obj))] aA H3 s3:=I3.pins_of fun p hp=>by
   have e:p=_:=jq_.mp hp
   subst e
   exact⟨e3,mL,gY,mK _ (jg_ _),fun v z=>by cases z⟩
  have cn:∀b∈fp,FpOk (X.blkC cp.names sc H2.objs.size s H fp) [(s.heap.objs.size,({cls:=.type "list",data:=.seq its.toArray k}:Obj))] H3 b:=kh jz fq
  rcases tr with ⟨stop,qn⟩|⟨go,N,hN,step⟩
  ·refine thn (T.done (X.blkC cp.names sc H2.objs.size s H fp) rfl rfl rfl hc i _ s3 aA H3 _ ki cn cV stop) fun r s4 ⟨hr,I4⟩=>?_
   subst hr
   obtain⟨e4,n4,_⟩:=I4.pin (s.heap.objs.size,({cls:=.type "list",data:=.seq its.toArray k}:Obj)) (by simp)
   have new:Cc X.prog X.w (upd H3 s.heap.objs.size (.lst ys)) s4.heap s.heap.objs.size (.lst ys):=⟨q1_ hz,its,k,rv,e4⟩
   obtain⟨mC,mM,_⟩:=I4.loc
   have mN:Inv (X.blkC cp.names sc H2.objs.size s H fp) [] aA H3 s4:=I4.pins_of fun p hp=>by cases hp
   have I5:=ZF I mN d7 (jg_ _) n4 new
   refine hR _ _ s4 _ mC I5 (qn _ n4) mM ?_ (qR_ (jx_ I.lt bt)) (ql_ I.sz bt) (cR _ bt) fun p hp z=>?_
   ·rw[Ai (qx_ gY)];exact I4.free
   ·exact absurd (jx_ (js_ (I.pin p hp).1) (by rw[z];exact bt)) (j5_ _)
  ·refine thn (T.item (X.blkC cp.names sc H2.objs.size s H fp) rfl rfl rfl hc i _ s3 aA H3 _ ki cn cV go) fun r s4 ⟨u,hr,h4⟩=>?_
   subst hr
   refine thn h4 fun _ s5 ⟨x,H5,I5,r5,y5,aZ,j9⟩=>?_
   have ka:=I5.pinned (kh j9 fq) (T.obj _ _ aZ)
   have fin:∀{cJ:St} {H7:Hp} {s7:Shared},Inv (X.blkC cp.names sc H2.objs.size s H fp) ([(s.heap.objs.size,({cls:=.type "list",data:=.seq its.toArray k}:Obj))]++Oq fp s5.heap) cJ H7 s7 ->
     s7.heap.get? s.heap.objs.size=some {cls:=.type "list",data:=.seq its.toArray k}/\H7 s.heap.objs.size=none/\(∀b∈fp,H7 b=none)/\∀b∈fp,∀o,s5.heap.get? b=some o->s7.heap.get? b=some o:=fun {cJ H7 s7} I7=>by
    obtain⟨e7,n7,_⟩:=I7.pin (s.heap.objs.size,({cls:=.type "list",data:=.seq its.toArray k}:Obj)) (by simp)
    refine⟨e7,n7,fun b hb=>?_,fun b hb o e=>?_⟩
    ·obtain⟨o,e,_⟩:=T.obj _ _ aZ b hb
     exact (I7.pin (b,o) (jw_ _ (jw_ _ (D8 hb e)))).2.1
    ·exact (I7.pin (b,o) (jw_ _ (jw_ _ (D8 hb e)))).1
   refine qM_ (hg _ _ _ _ _ s5 aA H5 x u _ ka r5 (step x H5 y5)) (fun _ s6 ⟨cO,H6,I6,q6⟩=>?_) fun _ _ z=>False.elim z
   refine qM_ (hf _ _ _ _ _ s6 cO H6 _ I6 q6) (fun ok s7 ⟨H7,I7,q7⟩=>?_) fun _ _ z=>False.elim z
   cases ok with
   |false=>
    rw[if_neg jt_]
    rw[if_neg jt_]at q7
    obtain⟨m',hm,w7⟩:=hN _ _ _ q7
    obtain⟨e7,n7,mO,k7⟩:=fin I7
    exact⟨m',hm,i+1,cO,H7,ys,its,k,I7.pins_of (fun p hp=>by cases hp),T.keep _ _ _ aZ k7,mO,n7,e7,rv,w7⟩
   |true=>
    rw[if_pos rfl]
    rw[if_pos rfl]at q7
    refine qM_ (he _ _ _ _ _ s7 cO H7 _ I7 q7) (fun v s8 ⟨y,H8,I8,r8,q8⟩=>?_) fun _ _ z=>False.elim z
    obtain⟨m',hm,w8⟩:=hN _ _ _ q8
    obtain⟨e8,n8,mP,k8⟩:=fin I8
    refine xA_ F.slot_list_append ⟨_,e8,rfl⟩ F.entry_list_append (zz_ _ _) (zT_ s.heap.objs.size its.toArray k v (by rw[jl_];lia)) ⟨e8,?_⟩
    obtain⟨k',q⟩:∃k',(s8.heap.update s.heap.objs.size (Obj.mapSeq fun x=>x.push v)).get? s.heap.objs.size=some {cls:=.type "list",data:=.seq (its++[v]).toArray k' }:=⟨_,by
     have q:=x1_ e8 fun x=>x.push v
     have e:(its++[v]).toArray=its.toArray.push v:=by simp
     rw[e]
     exact q⟩
    have I8':Inv (X.blkC cp.names sc H2.objs.size s H fp) [] cO H8 s8:=I8.pins_of fun p hp=>by cases hp
    have I9:Inv (X.blkC cp.names sc H2.objs.size s H fp) [] cO H8 {s8 with heap:=s8.heap.update s.heap.objs.size (Obj.mapSeq fun x=>x.push v),toks:=s8.toks}:=
     I8'.turned (it:=s.heap.objs.size) (fun b o hb e=>(j7_ _ _ (qx_ hb)).trans e) n8 gY (.inr (jg_ _)) (fun x c e=>by
      rcases Js I S e with q|q
      ·intro z;rw[z]at q;exact absurd (ql_ q bt) (Nat.not_succ_le_self _)
      ·exact cR _ (jg_ _) x c q) (fun p hp=>by cases hp)
    refine⟨m',hm,i+1,cO,H8,ys++[y],its++[v],k',I9,T.keep (i+1) s5.heap _ aZ (fun b hb o e=>?_),mP,n8,q,rv.append (.cons r8 .nil),w8⟩
    ·refine (j7_ _ _ ?_).trans (k8 b hb o e)
     intro z
     obtain⟨ob,eb⟩:=br b hb
     exact absurd (js_ eb) (by rw[<-z];exact j5_ _)
 exact codeAny_compStart_list (loop _ rfl) (T.self _ 0 _ _ _ bL (loop _ rfl))
theorem ZG    (hN:X.N.Nodup)(hi:X.N[i]?=some x)(hx:X.env.scope.names.lookup x=some .local)(hc:X.calm=true)(S:BlkScC X sc)(gh:Ei X.N sc cp)(a6:PI X tg iter wi)
  (hg:∀C s₀ H₀ ex,PG (X.blkC cp.names sc C s₀ H₀ ex) tg g) (hf:∀C s₀ H₀ ex,PF (X.blkC cp.names sc C s₀ H₀ ex) bY tc) (he:∀C s₀ H₀ ex,PE (X.blkC cp.names sc C s₀ H₀ ex) cc te)
  (mQ:swapsWith (.ListComp cc [⟨tg,iter,bY,0⟩] sc pos) (some (.Name x px)) iI.line X.env=pure true:=by rfl)
  (hs:∀x,foldedSetIterable iter X.env x=pure x:=by intro _;rfl):PS X (.Assign [.Name x px] (.ListComp cc [⟨tg,iter,bY,0⟩] sc pos) iI) (tAsg (Zr wi cp g tc te) (Jn i)):=by
 intro af s σ H D I h
 rw[exec_Assign_Name_used _ _ _ _ mQ]
 refine je_ (wpAny_standAt (je_ ?_))
 show wpAny _ X.A (do let _ <- comprehension (.ListComp cc [⟨tg,iter,bY,0⟩] sc pos) sc X.env _ (newList []) false (eval iter X.env) (some (assign (.Name x px) X.env))) _ _ s
 refine je_ (qM_ (x6_ (use:=some (assign (.Name x px) X.env)) (Q:=fun _ s'=>SP X af D .next s') rfl hs (Jo (Oy I S)) S.kind S.loc
  (thn (a6 af s σ H _ I h) fun xv s₁ h₁=>thn h₁ fun j8 bg cq=>?_)) (fun _ s' hq=>ju_ (ju_ hq)) fun _ _ e=>e)
 obtain⟨it,fp,tn,J,H2,e,I2,T,aM,f2,hw⟩:=cq
 subst e
 refine VT (RR:=fun ai C=>compPost (model X.prog X.w) X.A X.xe (some (assign (.Name x px) X.env)) (fun _ s'=>SP X af D .next s') ai C) (Q:=fun v H1=>Jn i v σ H1 D.nx) hc S gh hg hf he I2 T aM f2 hw ?_
 intro Dl C s' H' m I' q hn hC hL hz bw hp
 show wpAny _ X.A (assign (.Name x px) X.env (.ref Dl)) _ _ _
 refine wpAny_assign_Name (Lz I' hN hi (.inl hx) (v:=.ref Dl) rfl (fun gd mR ⟨a,lD,ha⟩=>?_) (.inr hx))
 have aw:C≠a:=by
  rcases ha with rfl|ha
  ·exact hL
  ·exact fun z=>bw _ _ ha z.symm
 refine⟨m,hn.sameBut lD aw,fun h' ft=>⟨_,H',mR.turned (t':=gd.toks) (it:=C) (fun b o hb e=>ft.extBut b o hb e) hC hL (.inr hz) bw hp,q⟩⟩
end
noncomputable def Bs_ (outer:List (Str×NameKind))(sc:Scope):Bool:=
 sc.kind == .function&&sc.names.all (fun y=>(y.2 != .local||sc.names.lookup y.1==some .local)&&(y.2 != .free||outer.lookup y.1==some .cell||outer.lookup y.1==some .free)&&sc.names.all fun z=>y.1 != z.1||y.2==z.2)
theorem CB_   (h:Bs_ X.env.scope.names sc=true):BlkScC X sc:=by
 unfold Bs_ at h
 rw[qa_,qG_]at h
 obtain⟨h1,h2⟩:=h
 refine⟨by simpa using h1,fun y hy z hz e=>?_,fun y hy z=>?_,fun y hy z=>?_⟩
 ·have:=h2 y hy
  simp only[qa_,qG_]at this
  have:=this.2 z hz
  rw[e]at this
  simpa using this
 ·have:=h2 y hy
  simp only[qa_]at this
  have:=this.1.1
  rw[z]at this
  simpa using this
 ·have:=h2 y hy
  simp only[qa_]at this
  have:=this.1.2
  rw[z]at this
  have t:(X.env.scope.names.lookup y.1==some .cell||X.env.scope.names.lookup y.1==some .free)=true:=by simpa using this
  rw[Bool.or_eq_true]at t
  rcases t with t|t
  ·exact .inl (by show X.env.scope.names.lookup y.1=some .cell;simpa using t)
  ·exact .inr (by show X.env.scope.names.lookup y.1=some .free;simpa using t)
end L2
namespace L2
open PySem PySem.Spec PyProof.Rows GW
noncomputable def AY (K:α3)(H:Hp)(xs:List V)(ws:α1):Prop:=xs.length=ws.length/\∀(i:Nat) (w:α2),ws[i]?=some w->∃t,xs[i]?=some (.ref t)/\H t=some (.tup (w.map V.int))
theorem AY.nil {K:α3}  : AY K H [] []:=⟨rfl,fun i w h=>by simp at h⟩
theorem AY.mono {K:α3}    (h:AY K H xs ws)(k:TK H H'):AY K H' xs ws:=by
 refine⟨h.1,fun i w hw=>?_⟩
 obtain⟨t,a,b⟩:=h.2 i w hw
 exact⟨t,a,k _ _ b⟩
theorem AY.snoc {K:α3}    (h:AY K H xs ws)   (ht:H t=some (.tup (w.map V.int))):AY K H (xs++[.ref t]) (ws++[w]):=by
 refine⟨by rw[jo_,jo_,h.1];rfl,fun i v hi=>?_⟩
 by_cases dI:i<ws.length
 ·rw[jj_ dI]at hi
  rw[jj_ (by rw[h.1];exact dI)]
  exact h.2 i v hi
 ·have:=(jb_.mp hi).1
  rw[jo_,j0_]at this
  have ei:i=ws.length:=by lia
  subst ei
  rw[jr_ (jg_ _),qs_]at hi
  simp at hi
  subst hi
  refine⟨t,?_,ht⟩
  rw[jr_ (by rw[h.1];exact jg_ _),h.1,qs_];rfl
theorem AY.at {K:α3}{H:Hp}{xs:List V}{ws:α1}(h:AY K H xs ws){i:Nat}{x:V}(hx:xs[i]?=some x):∃t w,ws[i]?=some w/\x=.ref t/\H t=some (.tup (w.map V.int)):=by
 have hi:i<ws.length:=by rw[<-h.1];exact (jb_.mp hx).1
 obtain⟨t,a,b⟩:=h.2 i ws[i] (by simp[hi])
 rw[hx]at a
 exact⟨t,ws[i],by simp[hi],jp_ a,b⟩
theorem HR.ofS {K:α3}     (ha:H a=some (.tup xs))(hb:H b=some (.tup ys))(hz:xs.length+ys.length<=sizeLine)(h:∀p H',Same H H'->H' p=some (.tup (xs++ys))->Q (.ref p) H'):HR K (.ref a) (.ref b) H Q:=by
 refine⟨a,b,xs,ys,rfl,rfl,SqT.of ha,SqT.of hb,hz,fun e=>?_,fun _ e=>?_,fun _ _ p hp=>h p _ (Same.new hp) Ab⟩
 ·subst e;exact h b H (Same.refl _) (by simpa using hb)
 ·subst e;exact h a H (Same.refl _) (by simpa using ha)
end L2
namespace GW
noncomputable def ins (s:α1)(w:α2):α1:=if w∈s then s else s++[w]
theorem CC_ (s:α1)(w:α2):(ins s w).length<=s.length+1:=by
 unfold ins;split
 ·lia
 ·simp
theorem Ea:∀(l s:α1),(l.foldl ins s).length<=s.length+l.length
 |[],s=>by simp
 |w::l,s=>by
  have h1:=Ea l (ins s w)
  have h2:=CC_ s w
  rw[q7_,jV_];lia
end GW
namespace L2
open PySem PySem.Spec PyProof.Rows GW
noncomputable def wkey (w:α2):List Key:=w.map Sum.inl
theorem Po (w:α2):(wkey w).map kV=w.map V.int:=by unfold wkey;rw[jW_];rfl
theorem II  (h:wkey v=wkey w):v=w:=(zO_ (fun x y z=>Sum.inl.inj z)).mp h
noncomputable def Hs (ws:α1)(kvs:List (List Key×V)):Prop:=kvs.map (·.1)=ws.map wkey
theorem Hs.len   (h:Hs ws kvs):kvs.length=ws.length:=by
 have:=jD_ List.length h
 simpa using this
theorem Hs.some_iff   (h:Hs ws kvs)(w:α2):(valV kvs (wkey w)).isSome=decide (w∈ws):=by
 rw[<-FC,qz_,qo_,x2_]
 constructor
 ·rintro⟨kv,iM,e⟩
  have e:=qv_ e
  have:wkey w∈ws.map wkey:=by rw[<-h,<-e];exact jv_.mpr ⟨kv,iM,rfl⟩
  obtain⟨q,hq,e2⟩:=jv_.mp this
  exact II e2 ▸ hq
 ·intro hw
  have:wkey w∈kvs.map (·.1):=by rw[h];exact jv_.mpr ⟨w,hw,rfl⟩
  obtain⟨kv,iM,e⟩:=jv_.mp this
  exact⟨kv,iM,qg_ e⟩
theorem Hs.put   (h:Hs ws kvs)(w:α2)(v:V):Hs (ins ws w) (putK kvs (wkey w) v):=by
 have hs:=h.some_iff w
 unfold putK ins
 rw[FC,hs]
 by_cases hw:w∈ws
 ·rw[if_pos hw,if_pos (show decide (w∈ws)=true from qg_ hw)]
  unfold Hs
  rw[<-h,jW_]
  refine qj_ fun kv _=>?_
  show (if kv.1=wkey w then (kv.1,v) else kv).1=kv.1
  split<;>rfl
 ·rw[if_neg hw,if_neg (show ¬ decide (w∈ws)=true by simp[hw])]
  unfold Hs
  rw[jS_,jS_,h];rfl
theorem Hs.nil:Hs [] []:=rfl
theorem Hs.words {K:α3}     (h:Hs ws kvs)(hl:rs.length=kvs.length)(hr:∀(i:Nat) (k:List Key) (v:V),kvs[i]?=some (k,v)->∃b,rs[i]?=some (V.ref b)/\H b=some (.tup (k.map kV))):AY K H rs ws:=by
 refine⟨by rw[hl,h.len],fun i w hw=>?_⟩
 have hi:i<kvs.length:=by rw[h.len];exact (jb_.mp hw).1
 have e:(kvs.map (·.1))[i]?=some (wkey w):=by rw[h,jd_,hw];rfl
 rw[jd_,jf_ hi]at e
 have e:kvs[i].1=wkey w:=jp_ e
 obtain⟨b,b1,b2⟩:=hr i kvs[i].1 kvs[i].2 (by simp[hi])
 exact⟨b,b1,by rw[b2,e,Po]⟩
end L2
namespace PySem.W
open PySem PySem.Calls PyProof.Rows PyProof.V PySem.Spec
end PySem.W
namespace L2
open PySem PySem.Spec PyProof.Rows
theorem U2 {P:Program}{w:World}{fs:List Addr}{H0:Hp}{h0 h':Heap}:∀(as:List (Addr×List V)),(as.map (·.1)).Nodup ->
  (∀p∈as,h0.objs.size<=p.1/\p.2.length<=sizeLine/\∃its:List Value,Vals p.2 its/\IsTup h' p.1 its.toArray)->∀H,Un fs [] H0 H h0 h'->HOk P w H h'->(∀p∈as,H p.1=none) ->
  ∃H2,Un fs [] H0 H2 h0 h'/\HOk P w H2 h'/\Same H H2/\(∀p∈as,H2 p.1=some (.tup p.2))/\∀b,b∉as.map (·.1)->H2 b=H b
 |[],_,_,H,u,k,_=>⟨H,u,k,Same.refl _,(fun p hp=>by simp at hp),fun b _=>rfl⟩
 |p::r,nd,hp,H,u,k,hn=>by
  rw[j1_,qA_]at nd
  obtain⟨h1,h2,its,h3,h4⟩:=hp p jn_
  have mV:=hn p jn_
  have k2:HOk P w (upd H p.1 (.tup p.2)) h':=k.track mV ⟨h2,its,h3,h4⟩
  obtain⟨H2,e1,e2,e3,e4,e5⟩:=U2 r nd.2 (fun q hq=>hp q (jk_ _ hq)) (upd H p.1 (.tup p.2)) (u.track h1 mV) k2 (fun q hq=>by
   have aw:q.1≠p.1:=fun z=>nd.1 (by rw[<-z];exact q5_ hq)
   rw[Ai aw]
   exact hn q (jk_ _ hq))
  refine⟨H2,e1,e2,(Same.new mV).trans e3,fun q hq=>?_,fun b hb=>?_⟩
  ·rcases jL_.mp hq with rfl|hq
   ·exact e3 _ _ Ab
   ·exact e4 q hq
  ·rw[j1_,jL_,not_or]at hb
   rw[e5 b hb.2,Ai hb.1]
theorem Vals.two'   (h1:RelV x u)(h2:RelV y v):Vals [x,y] [u,v]:=.cons h1 (.cons h2 .nil)
theorem En_:∀as:List Addr,Vals (as.map V.ref) (as.map Value.ref)
 |[]=>.nil
 |_::r=>.cons rfl (En_ r)
noncomputable def DS (K:α3)(H:Hp)(xs:List V)(aB:List (α2×Int)):Prop:=xs.length=aB.length/\∀(i:Nat) (tr:α2×Int),aB[i]?=some tr->∃t wt,xs[i]?=some (.ref t)/\SqT K H t [.ref wt,.int tr.2]/\SqT K H wt (tr.1.map V.int)/\tr.1.length<=600
theorem DS.mono {K:α3}    (h:DS K H xs aB)(s:Same H H'):DS K H' xs aB:=by
 refine⟨h.1,fun i tr aX=>?_⟩
 obtain⟨t,wt,a,b,c,d⟩:=h.2 i tr aX
 exact⟨t,wt,a,s.seqT b,s.seqT c,d⟩
noncomputable def ents (es:List (α2×Int)):List (List Key×V):=es.map fun e=>(wkey e.1,V.int e.2)
noncomputable def Yg:V->List V->Hp->VK->Prop:=fun x vs H Q=>∃l xs y j,x=.ref l/\vs=[y]/\H l=some (.lst xs)/\DZ y=true/\xs.all DZ=true/\j<1000000/\(∃z,xs[j]?=some z/\eqV z y=true)/\(∀m z,m<j->xs[m]?=some z->eqV z y=false)/\Q (.int (j:Nat)) H
theorem U3     : Yg x vs H Q=∃l xs y j,x=.ref l/\vs=[y]/\H l=some (.lst xs)/\DZ y=true/\xs.all DZ=true/\j<1000000/\(∃z,xs[j]?=some z/\eqV z y=true)/\(∀m z,m<j->xs[m]?=some z->eqV z y=false)/\Q (.int (j:Nat)) H:=rfl
theorem CD_   (r:RelV z u)(f:DZ z=true):eqU x u=eqV z x:=by
 have:=O3 (x:=x) (xs:=[z]) (us:=[u]) (.cons r .nil) (by simp[f])
 simpa using this
theorem Yh  : MtM X "list.index" Yg:=by
 intro af s σ H x vs v us Q I rx rv h
 obtain⟨l,xs,y,j,rfl,rfl,hH,fy,fs,hj,⟨z,mW,mY⟩,cX,q⟩:=h
 cases rx
 obtain⟨u,rfl,ry⟩:=vals1 rv
 obtain⟨zz,its,n,r,hl,e⟩:=I.lstM hH
 have get:∀(m:Nat) (hm:m<its.toArray.size) (w:V),xs[m]?=some w->DZ w=true->eqU y its.toArray[m]=eqV w y:=fun m hm w hw fw=>by
  obtain⟨w',e1,e2⟩:=r.get hw
  have e3:its.toArray[m]=w':=by
   have:its[m]?=some its.toArray[m]:=by simp at hm;simp[hm]
   rw[e1]at this
   exact (jp_ this).symm
  rw[e3]
  exact CD_ e2 fw
 have fl:∀(m:Nat) (w:V),xs[m]?=some w->DZ w=true:=fun m w hw=>qG_.mp fs w (jc_ hw)
 have jE:=(jb_.mp mW).1
 have kz:j<its.toArray.size:=by rw[jl_];lia
 refine xA_ F.slot_list_index ⟨_,e,rfl⟩ F.entry_list_index (F.args_list_index_2 _ _) (SeqAt.list_indexAt l its.toArray n none #[] u (eqU y) j kz s!"" ?_ fun m hm hmj=>?_) ⟨e,fun w hw=>Li ry fy r fs w (by simpa using hw),?_⟩
 ·rw[get j kz z mW (fl j z mW)];exact mY
 ·have kA:xs[m]?=some xs[m]:=by simp[show m<xs.length by lia]
  rw[get m hm _ kA (fl m _ kA)]
  exact cX m _ hmj kA
 ·exact⟨.int (j:Nat),H,I.tok _,⟨_,rfl⟩,q⟩
end L2
namespace L2
open PySem PySem.W PySem.Spec PySem.Calls PyProof.Rows
theorem XS.ofS {K:α3}      (hq:H l=some (.tup xs))(aw:xs ≠ [])(h1 : -(2 ^ 63)<=k)(h2:k<2 ^ 63)(hz:xs.length*k.toNat<=sizeLine)(h:∀p H',Same H H'->H' p=some (.tup (List.replicate k.toNat xs).flatten)->Q (.ref p) H'):XS K (.ref l) (.int k) H Q:=by
 refine⟨l,k,xs,rfl,rfl,SqT.of hq,aw,h1,h2,hz,fun e=>?_,fun _ p hp=>h p _ (Same.new hp) Ab⟩
 subst e
 exact h l H (Same.refl _) (by simpa using hq)
end L2
namespace PrimeO
noncomputable def Fl_ (p:Nat):Prop:=∀d,2<=d->d<p->p%d≠0
noncomputable def Pr (p:Int):Prop:=2<=p/\p<1000000000000000000/\Fl_ p.toNat
end PrimeO
namespace L2
open PySem PySem.Spec PyProof.Rows
theorem Yi     : Dx_ A σ H Z=A σ H fun vs H1=>∃i j:Int,vs=[.int i,.int j]/\(-(2 ^ 62)<=i/\i<2 ^ 62 /\ -(2 ^ 62)<=j/\j<2 ^ 62)/\Z (Itr i (j-i).toNat) H1:=rfl
end L2
namespace PySem
open Sem (wp)
open PySem.F
noncomputable def Dd (t:Bool)(h:Heap)(l:Addr)(xs:Array Value):Prop:=match t with|false=>h.IsList l xs|true=>h.IsTuple l xs
noncomputable def CA (t:Bool)(h:Heap)(i l:Addr)(k:Nat):Prop:=match t with|false=>h.IsListIter i l k|true=>h.IsTupleIter i l k
theorem Dd.extBut   {a b items}(x:Dd t h a items)(hs:Heap.ExtBut b h h')(cj:a≠b):Dd t h' a items:=by
 cases t
 ·exact Heap.IsList.extBut x hs cj
 ·exact Heap.IsTuple.extBut x hs cj
theorem Dd.push   {a items}(x:Dd t h a items)(o:Obj):Dd t (h.push o) a items:=by
 cases t
 ·exact Heap.IsList.push x o
 ·exact Heap.IsTuple.push x o
theorem Dd.lt   {a items}(x:Dd t h a items):a<h.objs.size:=by
 cases t
 ·obtain⟨_,e,_⟩:=x;exact js_ e
 ·obtain⟨_,e,_⟩:=x;exact js_ e
theorem CA.extBut   {a b l i}(x:CA t h a l i)(hs:Heap.ExtBut b h h')(cj:a≠b):CA t h' a l i:=by
 cases t
 ·exact Heap.IsListIter.extBut x hs cj
 ·exact Heap.IsTupleIter.extBut x hs cj
theorem CA.at   {a l i}(x:CA t h a l i)(e:∀o,h.get? a=some o->h'.get? a=some o):CA t h' a l i:=by
 cases t
 ·exact Heap.IsListIter.at x e
 ·exact Heap.IsTupleIter.at x e
theorem CA.ob   {a l i}(x:CA t h a l i):∃o,h.get? a=some o/\o.data=.fields #[.ref l,.int i 0]:=by
 cases t
 ·obtain⟨o,e,_,d⟩:=x;exact⟨o,e,d⟩
 ·obtain⟨o,e,_,d⟩:=x;exact⟨o,e,d⟩
theorem CA.lt   {a l i}(x:CA t h a l i):a<h.objs.size:=by
 obtain⟨_,e,_⟩:=x.ob;exact js_ e
section
variable {prog:Program} {w:World} {A:Around} {E:Value->Shared->Prop} {s:Shared}
theorem Jt  {it l:Addr}    (a6:CA t s.heap it l i)(hl:Dd t s.heap l items)
  (hQ:∀x h',items[i]?=some x->CA t h' it l (i+1)->Heap.SameBut it s.heap h'->Q x {s with heap:=h' })
  (hE:items[i]?=none->A.handled=none/\∀h' e,Heap.ExtBut it s.heap h'->(∃o,h'.get? e=some o/\o.cls=.type "StopIteration")->E (.ref e) {s with heap:=h' }):wpAny (model prog w) A (Builtin.SmallTypes.nextOf (.ref it)) Q E s:=by
 cases t
 ·cases hx:items[i]? with
  |some x=>exact wpAny_nextOf_list_item a6 hl hx fun h'=>hQ x h' hx
  |none=>exact wpAny_nextOf_list_end (hE hx).1 a6 hl hx (hE hx).2
 ·exact Jq a6 hl hQ hE
noncomputable def CE_ (t:Bool):Value:=match t with|false=>.type "list_iterator" |true=>.type "tuple_iterator"
theorem CA.mk    (g:h.get? a=some {cls:=CE_ t,data:=.fields #[.ref l,.int 0 0]}):CA t h a l 0:=by
 cases t
 ·exact⟨_,g,rfl,rfl⟩
 ·exact⟨_,g,rfl,rfl⟩
theorem Kq   {items}  (hl:Dd t s.heap l items)
  (hQ:Q (.ref s.heap.objs.size) {s with heap:=s.heap.push {cls:=CE_ t,data:=.fields #[.ref l,.int 0 0]} }):wpAny (model prog w) A (pyIter (.ref l)) Q E s:=by
 cases t
 ·exact zj_ hl hQ
 ·exact xL_ hl hQ
end
section
variable {prog:Program} {w:World} {A:Around} {E:Value->Shared->Prop} {s:Shared}
theorem Yj   {items}  (hl:Dd t s.heap l items)(h:∀h',s.heap.push {cls:=CE_ t,data:=.fields #[.ref l,.int 0 0]}=h'->Q (.ref s.heap.objs.size) {s with heap:=h' }):wpAny (model prog w) A (pyIter (.ref l)) Q E s:=Kq hl (h _ rfl)
theorem zipN  {z TI TO i1 i2 l1 l2:Addr}     (D:ZipApart z TI TO i1 i2 l1 l2)(hz:IsZip s.heap z TI TO .none)(lE:IsPair s.heap TI (.ref i1) (.ref i2))(lF:IsPair s.heap TO a b)
  (h1:CA t1 s.heap i1 l1 k1) (h2:CA t2 s.heap i2 l2 k2) (bp:Dd t1 s.heap l1 xs) (bF:Dd t2 s.heap l2 ys)
  (hQ:∀x y h',xs[k1]?=some x->ys[k2]?=some y->IsZip h' z TI TO (rawInt s.heap.objs.size)->IsPair h' TO x y->CA t1 h' i1 l1 (k1+1)->CA t2 h' i2 l2 (k2+1)->IsPair h' s.heap.objs.size x y->h'.objs.size=s.heap.objs.size+1->(∀c o,c≠z->c≠TO->c≠i1->c≠i2->s.heap.get? c=some o->h'.get? c=some o)->Q (some (.ref s.heap.objs.size)) {s with heap:=h' })
  (hN:xs[k1]?=none\/ys[k2]?=none->A.handled=none/\∀h',(∀c o,c≠z->c≠TO->c≠i1->c≠i2->s.heap.get? c=some o->h'.get? c=some o)->Q none {s with heap:=h' }):wpAny (model prog w) A (pyNext (.ref z)) Q E s:=by
 have hT:s.TypeIs (.ref z) "zip" := ⟨_,hz,rfl⟩
 have e1:=F.slot_zip_next
 unfold pyNext
 refine je_ (xH_ (qH_ hT e1 (xl_ e1 hT F.entry_zip_next ?_ (F.args_zip_next_1 _))))
 wp_walk using xM_ hz
 ·exact xp_ rfl
 intro u0 g0 k0
 replace g0:IsZip u0 z TI TO .ellipsis:=g0
 have m1:CA t1 u0 i1 l1 k1:=h1.extBut k0.extBut D.i1z
 have m2:Dd t1 u0 l1 xs:=bp.extBut k0.extBut D.l1z
 simp only[List.zipIdx_cons,List.zipIdx_nil,List.forIn_cons,List.forIn_nil]
 have stop:∀h' (e:Addr),(∀c o,c≠z->c≠TO->c≠i1->c≠i2->s.heap.get? c=some o->h'.get? c=some o)->IsZip h' z TI TO .ellipsis->(∃o,h'.get? e=some o/\o.cls=.type "StopIteration")->xs[k1]?=none\/ys[k2]?=none ->
   wpAny (model prog w) A.in1 (setField (.ref z) 0 .none) (fun _ gd=>wpAny (model prog w) A (do if <- isInstance (.ref e) (.type "StopIteration") then pure none else throw (.ref e)) Q E gd) (fun e s'=>wpAny (model prog w) A (do if <- isInstance e (.type "StopIteration") then pure none else throw e) Q E s') {s with heap:=h' }:=fun h' e kk hz' he hx=>by
  obtain⟨o,e2,e3⟩:=he
  have n:e≠z:=fun x=>by subst x;rw[hz']at e2;cases e2;simp at e3
  refine xM_ hz' (xp_ rfl) fun h2 _ k2=>je_ (wpAny_isInstance (T := "StopIteration") (b:=true) ⟨o,k2.extBut e o n e2,e3⟩ isSubtype_stop (ju_ ((hN hx).2 h2 fun c o n1 n2 n3 n4 q=>k2.extBut c o n1 (kk c o n1 n2 n3 n4 q))))
 wp_walk using wpAny_onRaise,Jt (A:=A.in1) (s:={s with heap:=u0}) m1 m2
 ·intro x u1 hx m3 k3
  have y0:IsPair u1 TO a b:=k3.extBut TO _ D.TOi1 (k0.extBut TO _ D.TOz lF)
  wp_walk using wpAny_updateSeq_pair y0
  intro u2 y2 k4
  replace y2:IsPair u2 TO x b:=y2
  have kk:∀c o,c≠z->c≠TO->c≠i1->s.heap.get? c=some o->u2.get? c=some o:=fun c o n1 n2 n3 q=>k4.extBut c o n2 (k3.extBut c o n3 (k0.extBut c o n1 q))
  have g2:IsZip u2 z TI TO .ellipsis:=k4.extBut _ _ D.TOz.symm (k3.extBut _ _ D.i1z.symm g0)
  have m4:CA t2 u2 i2 l2 k2:=h2.at fun o q=>kk _ o D.i2z D.TOi2.symm D.i12.symm q
  have m5:Dd t2 u2 l2 ys:=((bF.extBut k0.extBut D.l2z).extBut k3.extBut D.l2i1).extBut k4.extBut D.l2TO
  wp_walk using wpAny_onRaise,Jt (A:=A.in1) (s:={s with heap:=u2}) m4 m5
  ·intro y u3 hy m6 k5
   have y3:IsPair u3 TO x b:=k5.extBut TO _ D.TOi2 y2
   wp_walk using wpAny_updateSeq_pair y3
   intro u4 y4 k6
   replace y4:IsPair u4 TO x y:=y4
   have g4:IsZip u4 z TI TO .ellipsis:=k6.extBut _ _ D.TOz.symm (k5.extBut _ _ D.i2z.symm g2)
   have zz:u4.objs.size=s.heap.objs.size:=k6.1.trans (k5.1.trans (k4.1.trans (k3.1.trans k0.1)))
   wp_walk using newT
   ·exact (show 2<=sizeLine from by decide)
   intro u5 q5
   have kp:∀c o,u4.get? c=some o->u5.get? c=some o:=fun c o q=>by rw[<-q5];exact jm_ _ q
   have g5:=kp z _ g4
   have y5:IsPair u5 u4.objs.size x y:=by rw[<-q5];exact jC_ _ rfl
   have z5:u5.objs.size=u4.objs.size+1:=by rw[<-q5];exact qu_ ..
   wp_walk using xM_ g5
   ·exact xp_ rfl
   intro u6 g6 k7
   replace g6:IsZip u6 z TI TO (rawInt u4.objs.size):=g6
   wp_walk using xM_ g6
   ·exact xp_ rfl
   intro u7 g7 k8
   replace g7:IsZip u7 z TI TO (rawInt u4.objs.size):=g7
   refine ju_ ⟨_,rfl,ju_ ?_⟩
   show Q (some (Value.ref u4.objs.size)) _
   have up:∀c o,c≠z->u4.get? c=some o->u7.get? c=some o:=fun c o n q=>k8.extBut c o n (k7.extBut c o n (kp c o q))
   have nz:u4.objs.size≠z:=qR_ (js_ g4)
   have y7:=k8.extBut _ _ nz (k7.extBut _ _ nz y5)
   rw[zz]at g7 y7 z5 ⊢
   exact hQ x y u7 hx hy g7 (up _ _ D.TOz y4) ((m3.at fun o q=>k6.extBut _ o D.TOi1.symm (k5.extBut _ o D.i12 (k4.extBut _ o D.TOi1.symm q))).at fun o q=>up _ o D.i1z q) ((m6.at fun o q=>k6.extBut _ o D.TOi2.symm q).at fun o q=>up _ o D.i2z q) y7 ((k8.1.trans k7.1).trans z5)
    fun c o n1 n2 n3 n4 q=>up c o n1 (k6.extBut c o n2 (k5.extBut c o n4 (kk c o n1 n2 n3 q)))
  ·refine fun hy=>⟨(hN (.inr hy)).1,fun u3 e k5 he=>?_⟩
   exact stop u3 e (fun c o n1 n2 n3 n4 q=>k5 c o n4 (kk c o n1 n2 n3 q)) (k5 z _ D.i2z.symm g2) he (.inr hy)
 ·refine fun hx=>⟨(hN (.inl hx)).1,fun u1 e k3 he=>?_⟩
  exact stop u1 e (fun c o n1 n2 n3 n4 q=>k3 c o n3 (k0.extBut c o n1 q)) (k3 z _ D.i1z.symm g0) he (.inl hx)
theorem S7     (bp:Dd t1 s.heap l1 xs)(bF:Dd t2 s.heap l2 ys)
  (h:∀h',IsZip h' (s.heap.objs.size+4) (s.heap.objs.size+2) (s.heap.objs.size+3) .none->IsPair h' (s.heap.objs.size+2) (.ref s.heap.objs.size) (.ref (s.heap.objs.size+1))->IsPair h' (s.heap.objs.size+3) .none .none->CA t1 h' s.heap.objs.size l1 0->CA t2 h' (s.heap.objs.size+1) l2 0->h'.objs.size=s.heap.objs.size+5->(∀c o,s.heap.get? c=some o->h'.get? c=some o)->Q (.ref (s.heap.objs.size+4)) {s with heap:=h' }):
  wpAny (model prog w) A (call (.type "zip") [.ref l1,.ref l2]) Q E s:=by
 have M:Meets (Builtin.«zip.__new__» ⟨[.type "zip",.ref l1,.ref l2],[]⟩) fun _ R t=>t=s/\∀h',IsZip h' (s.heap.objs.size+4) (s.heap.objs.size+2) (s.heap.objs.size+3) .none->IsPair h' (s.heap.objs.size+2) (.ref s.heap.objs.size) (.ref (s.heap.objs.size+1))->IsPair h' (s.heap.objs.size+3) .none .none->CA t1 h' s.heap.objs.size l1 0->CA t2 h' (s.heap.objs.size+1) l2 0->h'.objs.size=s.heap.objs.size+5->(∀c o,s.heap.get? c=some o->h'.get? c=some o)->R (.ok (.ret (.ref (s.heap.objs.size+4)))) {s with heap:=h' }:=.of_wp fun prog w A R t ⟨e,q⟩=>by
  subst e
  obtain⟨hp,g,d,tk,os⟩:=t
  have cx:=sub_zip
  wp_walk using Yj bp
  intro u1 q1
  obtain⟨a1,b1,c1⟩:=psh q1 rfl
  have hl2':Dd t2 u1 l2 ys:=by rw[<-q1];exact Dd.push bF _
  wp_walk using Yj (s:=⟨u1,g,d,tk,os⟩) hl2'
  intro u2 q2
  obtain⟨a2,b2,c2⟩:=psh q2 rfl
  wp_walk using newT
  ·exact (show 2<=sizeLine from by decide)
  intro u3 q3
  obtain⟨a3,b3,c3⟩:=psh q3 rfl
  wp_walk using newT
  ·exact (show 2<=sizeLine from by decide)
  intro u4 q4
  obtain⟨a4,b4,c4⟩:=psh q4 rfl
  wp_walk
  refine⟨_,rfl,?_⟩
  have Z1:u1.objs.size=hp.objs.size+1:=c1
  have Z2:u2.objs.size=hp.objs.size+2:=(show u2.objs.size=u1.objs.size+1 from c2).trans (by rw[Z1])
  have Z3:u3.objs.size=hp.objs.size+3:=(show u3.objs.size=u2.objs.size+1 from c3).trans (by rw[Z2])
  have Z4:u4.objs.size=hp.objs.size+4:=(show u4.objs.size=u3.objs.size+1 from c4).trans (by rw[Z3])
  obtain⟨a5,b5,c5⟩:=psh (rfl:u4.push {cls:=.type "zip",data:=.fields #[.none,.bool false,.bool false,.ref u2.objs.size,.ref u3.objs.size]}=_) rfl
  replace b1:u1.get? hp.objs.size=_:=b1
  replace b2:u2.get? u1.objs.size=_:=b2
  replace b3:IsPair u3 u2.objs.size (.ref hp.objs.size) (.ref u1.objs.size):=b3
  replace b4:IsPair u4 u3.objs.size .none .none:=b4
  show R (.ok (.ret (.ref u4.objs.size))) ⟨u4.push {cls:=.type "zip",data:=.fields #[.none,.bool false,.bool false,.ref u2.objs.size,.ref u3.objs.size]},g,d,tk,os⟩
  rw[Z1,Z2]at b3
  rw[Z1]at b2
  rw[Z3]at b4
  rw[Z2,Z3,Z4]at b5
  rw[Z2,Z3]at a5 c5 ⊢
  rw[Z4]at c5 ⊢
  exact q _ b5 (a5 _ _ (a4 _ _ b3)) (a5 _ _ b4) (CA.mk (a5 _ _ (a4 _ _ (a3 _ _ (a2 _ _ b1))))) (CA.mk (a5 _ _ (a4 _ _ (a3 _ _ b2)))) c5 fun c o x=>a5 _ _ (a4 _ _ (a3 _ _ (a2 _ _ (a1 _ _ x))))
 exact callType_new F.called_zip (by decide) (F.typeCall_zip_2 _ _) (F.newCall_zip_2 _ _) (fun obj=>F.args_object_init_3 obj _ _) F.entry_zip_new M ⟨rfl,fun h' a b c d e f g=>⟨⟨_,a,rfl⟩,h h' a b c d e f g⟩⟩
end
end PySem
namespace PySem
section
variable {prog:Program} {w:World} {A:Around} {E:Value->Shared->Prop} {s:Shared}
noncomputable abbrev zpO (T TI TO:Addr)(f:Bool):Obj:={cls:=.type "zip",dict:=none,data:=.fields #[rawInt T,.bool f,.bool false,.ref TI,.ref TO],slots := #[]}
theorem zipH  {z TI TO T i1 i2 l1 l2:Addr}      (D:ZipApart z TI TO i1 i2 l1 l2)(hz:s.heap.get? z=some (zpO T TI TO f))(hTo:s.heap.get? T=some oT)(lE:IsPair s.heap TI (.ref i1) (.ref i2))
  (h1:CA t1 s.heap i1 l1 k1) (h2:CA t2 s.heap i2 l2 k2) (bp:Dd t1 s.heap l1 xs) (bF:Dd t2 s.heap l2 ys)
  (hQ:∀x y h',xs[k1]?=some x->ys[k2]?=some y->h'.get? z=some (zpO T TI TO true)->CA t1 h' i1 l1 (k1+1)->CA t2 h' i2 l2 (k2+1)->IsPair h' s.heap.objs.size x y->h'.objs.size=s.heap.objs.size+1->(∀c o,c≠z->c≠i1->c≠i2->s.heap.get? c=some o->h'.get? c=some o)->Q (some (.ref s.heap.objs.size)) {s with heap:=h' })
  (hN:xs[k1]?=none\/ys[k2]?=none->A.handled=none/\∀h',(∀c o,c≠z->c≠i1->c≠i2->s.heap.get? c=some o->h'.get? c=some o)->Q none {s with heap:=h' }):wpAny (model prog w) A (pyNext (.ref z)) Q E s:=by
 have hT:s.TypeIs (.ref z) "zip" := ⟨_,hz,rfl⟩
 have e1:=F.slot_zip_next
 have e:((T:Int)).toNat=T:=ji_ T
 have lz:=js_ hz
 unfold pyNext
 refine je_ (xH_ (qH_ hT e1 (xl_ e1 hT F.entry_zip_next ?_ (F.args_zip_next_1 _))))
 wp_walk
 simp only[<-Array.forIn_toList,List.forIn_cons,List.forIn_nil]
 refine PySem.W.kdx_alive (a:=(T:Int).toNat) (by rw[e];exact hTo) ?_
 have stop:∀h' (e:Addr),(∀c o,c≠z->c≠i1->c≠i2->s.heap.get? c=some o->h'.get? c=some o)->(∃o,h'.get? e=some o/\o.cls=.type "StopIteration")->xs[k1]?=none\/ys[k2]?=none ->
   wpAny (model prog w) A (do if <- isInstance (.ref e) (.type "StopIteration") then pure none else throw (.ref e)) Q E {s with heap:=h' }:=fun h' e kk ⟨o,e2,e3⟩ hx=>je_ (wpAny_isInstance (T := "StopIteration") (b:=true) ⟨o,e2,e3⟩ isSubtype_stop (ju_ ((hN hx).2 h' kk)))
 cases f
 ·wp_walk using xM_ hz
  ·exact xp_ rfl
  intro u0 g0 k0
  have m1:=h1.extBut k0.extBut D.i1z
  have m2:=bp.extBut k0.extBut D.l1z
  wp_walk using Jt (A:=A.in1) (s:={s with heap:=u0}) m1 m2
  ·intro x u1 hx m3 k3
   have m4:=(h2.extBut k0.extBut D.i2z).extBut k3.extBut D.i12.symm
   have m5:=(bF.extBut k0.extBut D.l2z).extBut k3.extBut D.l2i1
   wp_walk using Jt (A:=A.in1) (s:={s with heap:=u1}) m4 m5
   ·intro y u2 hy m6 k4
    wp_walk using newT
    ·exact (show 2<=sizeLine from by decide)
    intro u3 q3
    obtain⟨a3,b3,c3⟩:=psh q3 rfl
    wp_walk
    have zz:u2.objs.size=s.heap.objs.size:=k4.1.trans (k3.1.trans k0.1)
    have b4:IsPair u3 u2.objs.size x y:=b3
    have c4:u3.objs.size=u2.objs.size+1:=c3
    have kk:∀c o,c≠z->c≠i1->c≠i2->s.heap.get? c=some o->u3.get? c=some o:=fun c o n1 n2 n3 q=>a3 _ _ (k4.extBut c o n3 (k3.extBut c o n2 (k0.extBut c o n1 q)))
    have g3:=a3 _ _ (k4.extBut z _ D.i2z.symm (k3.extBut z _ D.i1z.symm g0))
    refine⟨_,rfl,ju_ ?_⟩
    show Q (some (Value.ref u2.objs.size)) _
    rw[zz]at b4 c4 ⊢
    exact hQ x y u3 hx hy g3 ((m3.extBut k4.extBut D.i12).at fun o q=>a3 _ _ q) (m6.at fun o q=>a3 _ _ q) b4 c4 kk
   ·exact fun hy=>⟨(hN (.inr hy)).1,fun u2 e k4 he=>stop u2 e (fun c o n1 n2 n3 q=>k4 c o n3 (k3.extBut c o n2 (k0.extBut c o n1 q))) he (.inr hy)⟩
  ·exact fun hx=>⟨(hN (.inl hx)).1,fun u1 e k3 he=>stop u1 e (fun c o n1 n2 n3 q=>k3 c o n2 (k0.extBut c o n1 q)) he (.inl hx)⟩
 ·have k0:=Heap.SameBut.refl z s.heap
  have m1:=h1.extBut k0.extBut D.i1z
  have m2:=bp.extBut k0.extBut D.l1z
  wp_walk using Jt (A:=A.in1) (s:={s with heap:=s.heap}) m1 m2
  ·intro x u1 hx m3 k3
   have m4:=(h2.extBut k0.extBut D.i2z).extBut k3.extBut D.i12.symm
   have m5:=(bF.extBut k0.extBut D.l2z).extBut k3.extBut D.l2i1
   wp_walk using Jt (A:=A.in1) (s:={s with heap:=u1}) m4 m5
   ·intro y u2 hy m6 k4
    wp_walk using newT
    ·exact (show 2<=sizeLine from by decide)
    intro u3 q3
    obtain⟨a3,b3,c3⟩:=psh q3 rfl
    wp_walk
    have zz:u2.objs.size=s.heap.objs.size:=k4.1.trans (k3.1.trans k0.1)
    have b4:IsPair u3 u2.objs.size x y:=b3
    have c4:u3.objs.size=u2.objs.size+1:=c3
    have kk:∀c o,c≠z->c≠i1->c≠i2->s.heap.get? c=some o->u3.get? c=some o:=fun c o n1 n2 n3 q=>a3 _ _ (k4.extBut c o n3 (k3.extBut c o n2 (k0.extBut c o n1 q)))
    have g3:=a3 _ _ (k4.extBut z _ D.i2z.symm (k3.extBut z _ D.i1z.symm hz))
    refine⟨_,rfl,ju_ ?_⟩
    show Q (some (Value.ref u2.objs.size)) _
    rw[zz]at b4 c4 ⊢
    exact hQ x y u3 hx hy g3 ((m3.extBut k4.extBut D.i12).at fun o q=>a3 _ _ q) (m6.at fun o q=>a3 _ _ q) b4 c4 kk
   ·exact fun hy=>⟨(hN (.inr hy)).1,fun u2 e k4 he=>stop u2 e (fun c o n1 n2 n3 q=>k4 c o n3 (k3.extBut c o n2 (k0.extBut c o n1 q))) he (.inr hy)⟩
  ·exact fun hx=>⟨(hN (.inl hx)).1,fun u1 e k3 he=>stop u1 e (fun c o n1 n2 n3 q=>k3 c o n2 (k0.extBut c o n1 q)) he (.inl hx)⟩
end
noncomputable def ZTp (xs ys:Array Value)(lo:Addr)(h:Heap)(as:List Addr):Prop:=as.Pairwise (· < ·)/\∀(j:Nat) a,as[j]?=some a->lo<a/\∃x y,xs[j]?=some x/\ys[j]?=some y/\IsPair h a x y
theorem ZTp.keep  {lo:Addr}   (g:ZTp xs ys lo h as)(k:∀b o,lo<b->h.get? b=some o->h'.get? b=some o):ZTp xs ys lo h' as:=⟨g.1,fun j a q=>let ⟨l,x,y,e1,e2,e3⟩:=g.2 j a q;⟨l,x,y,e1,e2,k a _ l e3⟩⟩
theorem ZTp.snoc  {lo b:Addr}    (g:ZTp xs ys lo h as)(hl:lo<b)(hb:∀a o,h.get? a=some o->a∈as->a<b)(e1:xs[as.length]?=some x)(e2:ys[as.length]?=some y)(ht:IsPair h b x y):ZTp xs ys lo h (as++[b]):=by
 refine⟨q0_.mpr ⟨g.1,List.pairwise_singleton _ _,fun a ha c hc=>?_⟩,fun j a q=>?_⟩
 ·obtain⟨j,hj⟩:=jG_.mp ha
  obtain⟨_,_,_,_,_,e⟩:=g.2 j a hj
  rw[jq_.mp hc]
  exact hb a _ e ha
 ·rcases qC_ j as.length with l|l
  ·rw[jj_ l]at q
   exact g.2 j a q
  ·have:=(jb_.mp q).1
   obtain rfl:j=as.length:=by simp at this;lia
   rw[jr_ l,qs_]at q
   obtain rfl:b=a:=by simpa using q
   exact⟨hl,x,y,e1,e2,ht⟩
section
variable {prog:Program} {w:World} {s:Shared}
theorem VU:typeLookup (.type "zip") "__len__"=pure none:=by rw[typeLookup_type,builtinLookup_eq_fast];kernel_rfl
theorem S8:typeLookup (.type "zip") "__length_hint__"=pure none:=by rw[typeLookup_type,builtinLookup_eq_fast];kernel_rfl
theorem CF_  {z TI TO i1 i2 l1 l2:Addr}   (D:ZipApart z TI TO i1 i2 l1 l2)(hn:xs.size<=sizeLine)(hxy:xs.size=ys.size)(hz:IsZip s.heap z TI TO .none)(lE:IsPair s.heap TI (.ref i1) (.ref i2))(lF:IsPair s.heap TO a b)(h1:CA t1 s.heap i1 l1 0)(h2:CA t2 s.heap i2 l2 0)(bp:Dd t1 s.heap l1 xs)(bF:Dd t2 s.heap l2 ys):
  Gat prog w s z z "zip" xs.size (fun b=>b=z\/b=TO\/b=i1\/b=i2) (fun i ai h=>∃as,ai=as.map Value.ref/\as.length=i/\ZTp xs ys s.heap.objs.size h as/\(IsPair h TI (.ref i1) (.ref i2)/\CA t1 h i1 l1 i/\CA t2 h i2 l2 i/\Dd t1 h l1 xs/\Dd t2 h l2 ys)/\((IsZip h z TI TO .none/\∃a b,IsPair h TO a b) \/ ∃T f oT,h.get? z=some (zpO T TI TO f)/\h.get? T=some oT/\s.heap.objs.size<T)) (fun ai h=>∃as,ai=as.map Value.ref/\as.length=xs.size/\ZTp xs ys s.heap.objs.size h as):=by
 have lz:=js_ hz
 have lI:=js_ lE
 have lO:=js_ lF
 have a1:=h1.lt
 have a2:=h2.lt
 have b1:=bp.lt
 have b2:=bF.lt
 have sq:∀{t:Bool} {h h':Heap} {l:Addr} {v:Array Value},Dd t h l v->(∀o,h.get? l=some o->h'.get? l=some o)->Dd t h' l v:=fun {t} {h h' l v} x k=>by
  cases t
  ·obtain⟨o,e,r⟩:=x;exact⟨o,k o e,r⟩
  ·obtain⟨o,e,r⟩:=x;exact⟨o,k o e,r⟩
 refine⟨⟨_,hz,rfl⟩,by decide,by decide,hn,fun A t Q E k q=>?_,fun A u Q E k zz q=>?_,fun A i ai t Q E hh j hl hi lt q1 q2=>?_,fun i ai h h' j k=>?_,?_⟩
 ·have hT:t.TypeIs (.ref z) "zip" := ⟨_,k _ _ hz,rfl⟩
  unfold Builtin.List.listLengthHint
  wp_walk using wpAny_specialOf hT VU,wpAny_specialOf hT S8
  exact q _ t.toks
 ·exact wpAny_pyIter_zip (k _ _ hz) (q u ⟨[],rfl,rfl,⟨.nil,fun j a e=>by simp at e⟩,⟨k _ _ lE,h1.at fun o e=>k _ o e,h2.at fun o e=>k _ o e,sq bp fun o e=>k _ o e,sq bF fun o e=>k _ o e⟩,.inl ⟨k _ _ hz,_,_,k _ _ lF⟩⟩ fun b o e=>e)
 ·obtain⟨as,rfl,e2,e3,⟨e4,e5,e6,e7,e8⟩,e9⟩:=j
  have old:∀{b:Addr},s.heap.objs.size<b->¬ (b=z\/b=TO\/b=i1\/b=i2):=fun {b} l x=>by
   rcases x with rfl|rfl|rfl|rfl
   ·exact absurd lz (xU_.mpr (q1_ l))
   ·exact absurd lO (xU_.mpr (q1_ l))
   ·exact absurd a1 (xU_.mpr (q1_ l))
   ·exact absurd a2 (xU_.mpr (q1_ l))
  have fin:∀h',(xs[i]?=none\/ys[i]?=none)->KP (fun b=>b=z\/b=TO\/b=i1\/b=i2) t.heap h'->Q none {t with heap:=h' }:=fun h' e k=>by
   have:i=xs.size:=by rcases e with e|e<;>rw[Array.getElem?_eq_none_iff]at e<;>lia
   exact q2 h' t.toks this ⟨as,rfl,by lia,e3.keep fun b o l q=>k b o (old l) q⟩ k
  have one:∀x y h',xs[i]?=some x->ys[i]?=some y->CA t1 h' i1 l1 (i+1)->CA t2 h' i2 l2 (i+1)->IsPair h' t.heap.objs.size x y->KP (fun b=>b=z\/b=TO\/b=i1\/b=i2) t.heap h'->(∃T f oT,h'.get? z=some (zpO T TI TO f)/\h'.get? T=some oT/\s.heap.objs.size<T)->Q (some (.ref t.heap.objs.size)) {t with heap:=h' }:=fun x y h' ex ey i1' i2' hp k st=>by
   refine q1 _ h' t.toks (xW_.mp ex).1 ⟨as++[t.heap.objs.size],by simp,by simp[e2],(e3.keep fun b o l q=>k b o (old l) q).snoc lt (fun a o _ m=>?_) (by rw[e2];exact ex) (by rw[e2];exact ey) hp,⟨k _ _ (fun x=>?_) e4,i1',i2',sq e7 fun o q=>k _ o (fun x=>?_) q,sq e8 fun o q=>k _ o (fun x=>?_) q⟩,.inr st⟩ k
   ·obtain⟨j,hj⟩:=jG_.mp m
    obtain⟨_,_,_,_,_,e⟩:=e3.2 j a hj
    exact js_ e
   ·rcases x with x|x|x|x
    ·exact D.TIz x
    ·exact D.TITO x
    ·exact D.TIi1 x
    ·exact D.TIi2 x
   ·rcases x with x|x|x|x
    ·exact D.l1z x
    ·exact D.l1TO x
    ·exact D.l1i1 x
    ·exact D.l1i2 x
   ·rcases x with x|x|x|x
    ·exact D.l2z x
    ·exact D.l2TO x
    ·exact D.l2i1 x
    ·exact D.l2i2 x
  rcases e9 with ⟨c1,c,d,c2⟩|⟨T,f,oT,c1,c2,c3⟩
  ·refine zipN D c1 e4 c2 e5 e6 e7 e8 (fun x y h' ex ey g1 g2 g3 g4 g5 gs gk=>one x y h' ex ey g3 g4 g5 (fun b o n q=>gk b o (fun z=>n (.inl z)) (fun z=>n (.inr (.inl z))) (fun z=>n (.inr (.inr (.inl z)))) (fun z=>n (.inr (.inr (.inr z)))) q) ⟨_,false,_,g1,g5,lt⟩) fun e=>⟨hh,fun h' gk=>fin h' e fun b o n q=>gk b o (fun z=>n (.inl z)) (fun z=>n (.inr (.inl z))) (fun z=>n (.inr (.inr (.inl z)))) (fun z=>n (.inr (.inr (.inr z)))) q⟩
  ·refine zipH D c1 c2 e4 e5 e6 e7 e8 (fun x y h' ex ey g1 g3 g4 g5 gs gk=>one x y h' ex ey g3 g4 g5 (fun b o n q=>gk b o (fun z=>n (.inl z)) (fun z=>n (.inr (.inr (.inl z)))) (fun z=>n (.inr (.inr (.inr z)))) q) ⟨T,true,oT,g1,gk T oT (fun z=>old c3 (.inl z)) (fun z=>old c3 (.inr (.inr (.inl z)))) (fun z=>old c3 (.inr (.inr (.inr z)))) c2,c3⟩) fun e=>⟨hh,fun h' gk=>fin h' e fun b o n q=>gk b o (fun z=>n (.inl z)) (fun z=>n (.inr (.inr (.inl z)))) (fun z=>n (.inr (.inr (.inr z)))) q⟩
 ·obtain⟨as,r1,r2,r3,⟨r4,r5,r6,r7,r8⟩,r9⟩:=j
  refine⟨as,r1,r2,r3.keep fun b o l q=>k b o (qR_ l) q,⟨k _ _ (jK_ lI) r4,r5.at fun o q=>k _ o (jK_ a1) q,r6.at fun o q=>k _ o (jK_ a2) q,sq r7 fun o q=>k _ o (jK_ b1) q,sq r8 fun o q=>k _ o (jK_ b2) q⟩,?_⟩
  rcases r9 with ⟨c1,c,d,c2⟩|⟨T,f,oT,c1,c2,c3⟩
  ·exact .inl ⟨k _ _ (jK_ lz) c1,c,d,k _ _ (jK_ lO) c2⟩
  ·exact .inr ⟨T,f,oT,k _ _ (jK_ lz) c1,k _ _ (qR_ c3) c2,c3⟩
 ·rintro (x|x|x|x)
  ·exact absurd x (qR_ lz)
  ·exact absurd x (qR_ lO)
  ·exact absurd x (qR_ a1)
  ·exact absurd x (qR_ a2)
end
end PySem
namespace Nest
noncomputable def sl (row:α2)(b i:Nat):α2:=(row.take i).drop b
noncomputable def outF (p e:Int)(s:α2×Int)(x:Int):α2×Int:=if x=e then (s.1,s.2-1) else (if s.2=0 then s.1++[x] else s.1,if p<=x then s.2+1 else s.2)
noncomputable def outS (p e:Int)(l:α2):α2×Int:=l.foldl (outF p e) ([],0)
noncomputable def outW (p e:Int)(l:α2):α2:=(outS p e l).1
noncomputable def wd (p e:Int)(row:α2)(i a:Nat):α2:=outW p e (sl row (a+1) i)
end Nest
namespace L2
open PySem PySem.Spec PyProof.Rows GW
theorem Yk  {K:α3}   (hK:X.K=K)(hl:PE X l tl):PI X tg l (iTup K tl):=by subst hK;exact Gk hl
end L2
namespace L2
open PySem PySem.Spec PyProof.Rows
theorem Yl  {K:α3}(h:X.K=K):OpR X (binaryOp .Add) (HR K):=by subst h;exact Hf
end L2
namespace L2
open PySem PySem.W PySem.Spec PySem.Calls PyProof.Rows
theorem VW    [DecidableEq κ](knd:HeapKind prog w κ)  (hd:(d==sysModules)=false):
  MeetsIn prog w (Builtin.«dict.__len__» ⟨[.ref d],[]⟩) (fun _ R s=>∃xs,s.heap.DictOfH knd d xs/\R (.ok (.ret (.int (xs.length:Nat) s.toks))) {s with toks:=s.toks+1}):=
 .of_wp fun A R s ⟨xs,⟨o,es,ep,ho,_,gj,he,_⟩,h⟩=>by
  show wpAny _ _ (dictSize d >>= _) _ _ s
  unfold dictSize
  refine je_ (je_ (zn_ ho gj (ju_ ?_)))
  refine je_ (wpAny_pendingCount_other hd (wpAny_ret_mkInt ?_))
  rw[Nat.add_zero,size_of_entries he]
  exact h
theorem Eo_ {prog:Program}{w:World}{κ:Type}[DecidableEq κ]{knd:HeapKind prog w κ}{A:Around}{E:Value->Shared->Prop}{s:Shared}{d:Addr}{xs:List (κ×Addr×Value)}{Q:Value->Shared->Prop}(hd:(d==sysModules)=false)(hm:s.heap.DictOfH knd d xs)(hfit:(xs.length:Int)<2 ^ 63)
  (h:Q (.int xs.length (s.toks+1)) {s with toks:=s.toks+1+1}):wpAny (model prog w) A (call (.builtin "len") [.ref d]) Q E s:=by
 refine Calls.call_function_entry kind_len plain_len entry_len (args_len1 _) ?_
 unfold Builtin.«len»
 refine je_ (m:=oneArg "len" _) (ju_ (je_ (m:=callSpecial? (.ref d) (Str.ofString "__len__")) (qH_ (name:=Str.ofString "__len__") hm.typeIs F.slot_dict_len (call_meetsIn F.slot_dict_len hm.typeIs F.entry_dict_len (F.args_dict_len_1 _) (VW knd hd) ⟨xs,hm,?_⟩))))
 show wpAny _ _ _ _ _ {s with toks:=s.toks+1}
 refine je_ (qX_ (ju_ (je_ (wpAny_letGo ?_))))
 show wpAny _ _ (if ((xs.length:Nat):Int)<0 then _ else _) _ _ _
 rw[if_neg s!""]
 show wpAny _ _ (if ((xs.length:Nat):Int) >= 2 ^ 63 then _ else _) _ _ _
 rw[if_neg s!""]
 exact je_ (wpAny_mkInt (ju_ ⟨_,rfl,h⟩))
theorem NX  : DE X (.builtin "len") (fun xs H Q=>∃p kvs,xs=[.ref p]/\H p=some (.dT kvs)/\Q (.int kvs.length) H):=by
 intro af s σ H xs us Q I r h
 obtain⟨p,kvs,rfl,e,q⟩:=h
 obtain⟨u,rfl,rx⟩:=vals1 r
 cases rx
 obtain⟨z,hd,xs,a8,dd⟩:=DM_ I.hok e
 have hn:=QV
 have ak:kvs.length=xs.length:=a8.length
 exact Eo_ hd dd s!"" ⟨.int kvs.length,H,I.tok _,⟨_,by rw[ak]⟩,q⟩
noncomputable def U4 (K:α3)(H:Hp)(xs:List V)(ws:α1):Prop:=xs.length=ws.length/\∀(i:Nat) (w:α2),ws[i]?=some w->∃t,xs[i]?=some (.ref t)/\H t=some (.lst (w.map V.int))
theorem U4.at {K:α3}{H:Hp}{xs:List V}{ws:α1}(h:U4 K H xs ws){i:Nat}{x:V}(hx:xs[i]?=some x):∃t w,ws[i]?=some w/\x=.ref t/\H t=some (.lst (w.map V.int)):=by
 have hi:i<ws.length:=by rw[<-h.1];exact (jb_.mp hx).1
 obtain⟨t,a,b⟩:=h.2 i ws[i] (by simp[hi])
 rw[hx]at a
 exact⟨t,ws[i],by simp[hi],jp_ a,b⟩
theorem U5:∀{ws:α1} {m:Nat} {w:α2},ws[m]?=some w->ws.idxOf w<=m
 |[],m,w,h=>by simp at h
 |v::ws,m,w,h=>by
  rw[zH_]
  cases m with
  |zero=>
   have:v=w:=by simpa using h
   simp[this]
  |succ m=>
   have:=U5 (ws:=ws) (m:=m) (w:=w) (by simpa using h)
   cases e:(v==w) with
   |true=>exact jX_ _
   |false=>exact Nat.succ_le_succ this
end L2
set_option maxHeartbeats 1000000
set_option maxHeartbeats 4000000
namespace L2
open PySem PySem.W PySem.Spec PySem.Calls PyProof.Rows
theorem ZH           (I:Inv X af σ H s)(hc:X.calm=true)(rv:Vals xs us)(rw2:Vals ys vs)(pl:Dd t1 s.heap a us.toArray)(kB:Dd t2 s.heap b vs.toArray)(ak:xs.length=ys.length)(hz:xs.length<=sizeLine)
  (q:∀l rs H',Same H H'->H' l=none->rs.length=xs.length->(∀(i:Nat) (x y:V),xs[i]?=some x->ys[i]?=some y->∃t,rs[i]?=some (V.ref t)/\H' t=some (.tup [x,y]))->Q (.ref l) (upd H' l (.lst rs))):
  wpAny (model X.prog X.w) X.A (call (.type "zip") [.ref a,.ref b]) (fun v s2=>wpAny (model X.prog X.w) X.A (call (.type "list") [v]) (EP X af σ Q) X.xe s2) X.xe s:=by
 have l1:=rv.length
 have l2:=rw2.length
 refine S7 pl kB fun h1 z1 z2 z3 z4 z5 z6 z7=>?_
 have sq:∀{t:Bool} {l:Addr} {v:Array Value},Dd t s.heap l v->Dd t h1 l v:=fun {t} {l v} x=>by
  cases t
  ·obtain⟨o,e,r⟩:=x;exact⟨o,z7 _ o e,r⟩
  ·obtain⟨o,e,r⟩:=x;exact⟨o,z7 _ o e,r⟩
 have G:Gat X.prog X.w {s with heap:=h1} (s.heap.objs.size+4) _ "zip" us.toArray.size _ _ _:=CF_ (s:={s with heap:=h1}) (zipApart_new pl.lt kB.lt) (by rw[jl_,<-l1];exact hz) (by simp;lia) z1 z2 z3 z4 z5 (sq pl) (sq kB)
 refine G.list (I.ok.hd hc) fun h' tk ai c ⟨as,f1,f2,f3⟩ _ hS k4=>?_
 have aS:s.heap.objs.size<=h1.objs.size:=by lia
 have hk:∀b o,s.heap.get? b=some o->h'.get? b=some o:=fun b o e=>by
  have:=js_ e
  refine k4 b o (fun x=>?_) (z7 b o e)
  rcases x with x|x|x|x
  ·exact absurd x (jK_ (jx_ this (Nat.le_add_right _ 4)))
  ·exact absurd x (jK_ (jx_ this (Nat.le_add_right _ 3)))
  ·exact absurd x (jK_ this)
  ·exact absurd x (jK_ (jx_ this (Nat.le_add_right _ 1)))
 have iP:as.length=xs.length:=by simp at f2;lia
 let cs:List (List V):=(xs.zip ys).map fun p=>[p.1,p.2]
 have bw:cs.length=xs.length:=by simp[cs,ak]
 have hci:∀(i:Nat) (x y:V),xs[i]?=some x->ys[i]?=some y->cs[i]?=some [x,y]:=fun i x y h1 h2=>by
  simp only[cs]
  rw[jd_,show (xs.zip ys)[i]?=some (x,y) from qP_.mpr ⟨h1,h2⟩];rfl
 have hzz:(as.zip cs).map (·.1)=as:=List.map_fst_zip (by rw[iP,bw];exact jg_ _)
 have aP:∀p∈as.zip cs,∃(i:Nat) (x y:V),as[i]?=some p.1/\xs[i]?=some x/\ys[i]?=some y/\p.2=[x,y]:=fun p hp=>by
  obtain⟨i,hi⟩:=jG_.mp hp
  obtain⟨e1,e2⟩:=qP_.mp hi
  have l:i<xs.length:=by rw[<-iP];exact (jb_.mp e1).1
  have ex:xs[i]?=some xs[i]:=by simp
  have ey:ys[i]?=some (ys[i]'s!""):=by simp
  rw[hci i _ _ ex ey]at e2
  exact⟨i,_,_,e1,ex,ey,(jp_ e2).symm⟩
 have ab:∀x∈as,h1.objs.size<x:=fun x hx=>by
  obtain⟨j,hj⟩:=jG_.mp hx
  exact (f3.2 j x hj).1
 have fr:∀p∈as.zip cs,h1.objs.size<p.1:=fun p hp=>by
  obtain⟨i,_,_,e,_⟩:=aP p hp
  exact ab _ (jc_ e)
 obtain⟨H2,e1,e2,e3,e4,e5⟩:=U2 (as.zip cs) (by rw[hzz];exact f3.1.imp fun a=>jK_ a) (fun p hp=>by
  obtain⟨i,x,y,g1,g2,g3,g4⟩:=aP p hp
  obtain⟨u,hu,ru⟩:=rv.get g2
  obtain⟨v,hv,rv'⟩:=rw2.get g3
  obtain⟨_,x',y',b1,b2,b3⟩:=f3.2 i p.1 g1
  obtain rfl:u=x':=by simpa [hu] using b1
  obtain rfl:v=y':=by simpa [hv] using b2
  refine⟨q1_ (zN_ aS (fr p hp)),by rw[g4];have:=AE;simp;lia,[u,v],?_,⟨_,b3,rfl,0,rfl⟩⟩
  rw[g4]
  exact Vals.two' ru rv') H (Un.kept hk) (I.hok.kept hk) (fun p hp=>I.hok.fresh (q1_ (zN_ aS (fr p hp))))
 have hD:H2 h1.objs.size=none:=by
  rw[e5 _ (by rw[hzz];exact fun z=>absurd (ab _ z) (j5_ _))]
  exact I.hok.fresh aS
 have new:Cc X.prog X.w (upd H2 h1.objs.size (.lst (as.map V.ref))) h' h1.objs.size (.lst (as.map V.ref)):=⟨by rw[ja_,iP];exact hz,as.map Value.ref,c,En_ as,by rw[<-f1];exact hS⟩
 refine⟨.ref h1.objs.size,_,I.un (t':=tk) (e1.track aS hD) (e2.track hD new),rfl,q _ _ H2 e3 hD (by rw[ja_,iP]) fun i x y hx hy=>?_⟩
 have hi:i<as.length:=by rw[iP];exact (jb_.mp hx).1
 have km:as[i]?=some as[i]:=by simp[hi]
 exact⟨as[i],by rw[jd_,km];rfl,e4 (as[i],[x,y]) (jG_.mpr ⟨i,qP_.mpr ⟨km,hci i x y hx hy⟩⟩)⟩
noncomputable def U6 (K:α3)(ta:TA):TE:=fun σ H Q=>ta σ H fun vs H1=>∃a b xs ys,vs=[.ref a,.ref b]/\SqL K H1 a xs/\SqL K H1 b ys/\xs.length=ys.length/\∀l rs H',Same H1 H'->H' l=none->rs.length=xs.length ->
 (∀(i:Nat) (x y:V),xs[i]?=some x->ys[i]?=some y->∃t,rs[i]?=some (V.ref t)/\H' t=some (.tup [x,y]))->Q (.ref l) (upd H' l (.lst rs))
theorem Rp {K:α3}     : U6 K ta σ H Q=ta σ H fun vs H1=>∃a b xs ys,vs=[.ref a,.ref b]/\SqL K H1 a xs/\SqL K H1 b ys/\xs.length=ys.length/\∀l rs H',Same H1 H'->H' l=none->rs.length=xs.length ->
 (∀(i:Nat) (x y:V),xs[i]?=some x->ys[i]?=some y->∃t,rs[i]?=some (V.ref t)/\H' t=some (.tup [x,y]))->Q (.ref l) (upd H' l (.lst rs)):=rfl
theorem VX     (hc:X.calm=true)(hg:Gl X "list")(hm:X.mg "list"=none)(iK:Gl X "zip")(fW:X.mg "zip"=none)(ha:PA X [e,f] ta)
  (hU:starEach [.Call (.Name "zip" p2) [e,f] [] dk] X.env=[(false,eval (.Call (.Name "zip" p2) [e,f] [] dk) X.env)]:=by rfl) (hs:starEach [e,f] X.env=[(false,eval e X.env),(false,eval f X.env)]:=by rfl) (eK:starEach [f] X.env=[(false,eval f X.env)]:=by rfl):
  PE X (.Call (.Name "list" p) [.Call (.Name "zip" p2) [e,f] [] dk] [] pos) (U6 X.K ta):=by
 intro af s σ H Q I h
 refine xn_ (Gi I hg hm boot_list ?_)
 refine qd_ ?_ hU rfl
 rw[hU]
 refine xm_ ?_
 refine Call_ (Gi I iK fW boot_zip (qd_ (thn (ha dk af s σ H _ I h) fun us s1 ⟨vs,H1,I1,r1,q1⟩=>?_) (by rw[hs,eK]) (by rw[eK];rfl)))
 obtain⟨a,b,xs,ys,ev,hq,ed,ak,q⟩:=q1
 subst ev
 cases r1 with
 |cons r rr=>cases rr with
  |cons r' rr=>
   cases rr
   cases r
   cases r'
   obtain⟨its,rv,pl,hV⟩:=I1.list hq
   obtain⟨aJ,rv2,kB,_⟩:=I1.list ed
   exact qM_ (ZH (t1:=false) (t2:=false) I1 hc rv rv2 pl.isList kB.isList ak hV q) (fun v s2 h=>xT_ h) fun _ _ e=>e
theorem Rq  (hc:X.calm=true):DE X (.builtin "max") (fun xs H Q=>∃(p:Addr) (ns:α2) (m:Int),xs=[.ref p]/\SqL X.K H p (ns.map V.int)/\m∈ns/\(∀x∈ns,x<=m)/\Q (.int m) H):=by
 intro af s σ H xs us Q I r h
 obtain⟨p,ns,m,rfl,hq,hm,hmax,q⟩:=h
 obtain⟨u,rfl,rx⟩:=vals1 r
 cases rx
 obtain⟨its,r',pl,_⟩:=I.list hq
 have hi:IntsAre its ns:=by simpa using intsAre_of r'
 obtain⟨zs,e⟩:=hi.allInts.items
 have gn:ns=zs.toList.map (·.1):=by rw[<-hi.numsOf,<-nums_intItems,<-e]
 have aw:0<ns.length:=qN_ hm
 have hsz:0<zs.size:=by rw[gn,ja_,j3_]at aw;exact aw
 have hl:=pl.isList
 rw[e]at hl
 refine max_intList (I.ok.hd hc) hl hsz fun v h' tk hv hk=>?_
 obtain⟨t,rfl⟩:=intItems_at hv
 obtain⟨h1,h2⟩:=argBest_gt (numAt zs) (zs.size-1)
 have g1:numAt zs (argBest (fun i j=>decide (numAt zs i > numAt zs j)) (zs.size-1))∈ns:=by
  rw[gn,numAt_eq];exact getD_mem (by rw[ja_,j3_];lia)
 have g2:m<=numAt zs (argBest (fun i j=>decide (numAt zs i > numAt zs j)) (zs.size-1)):=by
  rw[gn]at hm
  obtain⟨j,hj,rfl⟩:=mem_getD hm
  rw[ja_,j3_]at hj
  rw[<-numAt_eq];exact h2 j s!""
 have g3:=hmax _ g1
 have g4:numAt zs (argBest (fun i j=>decide (numAt zs i > numAt zs j)) (zs.size-1))=m:=by lia
 exact⟨.int m,H,I.kept hk,⟨t,by rw[g4]⟩,q⟩
theorem Rr  : DE X (.builtin "len") (fun xs H Q=>(∃a kvs,xs=[V.ref a]/\H a=some (.dK kvs)/\Q (.int kvs.length) H) \/ ∃p kvs,xs=[.ref p]/\H p=some (.dT kvs)/\Q (.int kvs.length) H):=
 DE.or (by
  intro af s σ H xs us Q I r h
  obtain⟨a,kvs,rfl,ha,q⟩:=h
  obtain⟨u,rfl,ru⟩:=vals1 r
  cases ru
  exact Fj_ I (.inl ha) fun t s' I'=>⟨.int kvs.length,H,I',⟨t,rfl⟩,q⟩) NX
noncomputable def rIxB (K:α3):R2:=fun x y H Q=>rIxL K x y H Q\/rIxT K x y H Q
theorem CG_  {K:α3}(h:X.K=K):IxR X (rIxB K):=IxR.or (Cv h) (Dz h)
theorem Ep_ {K:α3}    : rIxB K x y H Q=((∃p xs i v,x=.ref p/\y=.int i/\SqL K H p xs/\atI xs i=some v/\Q v H) \/ ∃p xs i v,x=.ref p/\y=.int i/\SqT K H p xs/\atI xs i=some v/\Q v H):=rfl
noncomputable def Bt_:TE:=fun σ H Q=>XC σ H Q\/XD σ H Q
theorem Ym    : Bt_ σ H Q=((∀p,H p=none->Q (.ref p) (upd H p (.dK []))) \/ ∀p,H p=none->Q (.ref p) (upd H p (.dT []))):=rfl
theorem ZI   : PE X (.Dict [] [] pos) Bt_:=fun af s σ H Q I h=>h.elim (fun h=>UI af s σ H Q I h) (fun h=>UJ af s σ H Q I h)
end L2
namespace L2
section
variable {α:Type} [DecidableEq α]
noncomputable def ins1 (ai:List α)(x:α):List α:=if x∈ai then ai else ai++[x]
noncomputable def CC (ai row:List α):List α:=row.foldl ins1 ai
noncomputable def AL (row:List α):List α:=CC [] row
theorem Pp {ai:List α}{x y:α}:y∈ins1 ai x↔y∈ai\/y=x:=by
 unfold ins1
 split
 ·rename_i h
  constructor
  ·exact .inl
  ·rintro (h' | rfl)
   ·exact h'
   ·exact h
 ·simp
theorem LP:∀{row ai:List α} {y:α},y∈CC ai row↔y∈ai\/y∈row
 |[],ai,y=>by simp[CC]
 |x::row,ai,y=>by
  show y∈CC (ins1 ai x) row↔_
  rw[LP,Pp,jL_,or_assoc]
theorem A9 {row:List α}{y:α}:y∈AL row↔y∈row:=by
 unfold AL
 rw[LP];simp
theorem VY {ai:List α}{x:α}(h:ai.Nodup):(ins1 ai x).Nodup:=by
 unfold ins1
 split
 ·exact h
 ·rename_i hx
  exact zm_.mpr ⟨h,by simp,fun a ha b hb z=>by simp at hb;subst z hb;exact hx ha⟩
theorem IJ:∀{row ai:List α},ai.Nodup->(CC ai row).Nodup
 |[],ai,h=>h
 |x::row,ai,h=>IJ (row:=row) (VY h)
theorem BG (row:List α):(AL row).Nodup:=IJ List.nodup_nil
theorem S9 (row:List α)(x:α):AL (row++[x])=ins1 (AL row) x:=by
 unfold AL CC
 rw[qJ_];rfl
theorem Yn {l:List α}{x y:α}(hx:x∈l)(hy:y∈l)(h:l.idxOf x=l.idxOf y):x=y:=by
 have h1:=qD_ hx
 have h2:=qD_ hy
 have e1:l[l.idxOf x]=x:=qY_ h1
 have e2:l[l.idxOf y]=y:=qY_ h2
 rw[<-e1,<-e2]
 congr 1
noncomputable def num (row:List α):α2:=row.map fun x=>((AL row).idxOf x:Int)
theorem Ju (row:List α):(num row).length=row.length:=by unfold num;rw[ja_]
theorem FH {β:Type}[DecidableEq β](f:α->β):∀(row ai:List α),(∀x y,x∈ai\/x∈row->y∈ai\/y∈row->f x=f y->x=y)->CC (ai.map f) (row.map f)=(CC ai row).map f
 |[],ai,_=>rfl
 |x::row,ai,h=>by
  show CC (ins1 (ai.map f) (f x)) (row.map f)=(CC (ins1 ai x) row).map f
  have e:ins1 (ai.map f) (f x)=(ins1 ai x).map f:=by
   unfold ins1
   by_cases hx:x∈ai
   ·rw[if_pos hx,if_pos (q5_ hx)]
   ·rw[if_neg hx,if_neg,jS_];rfl
    intro z
    obtain⟨y,hy,e⟩:=jv_.mp z
    have:=h y x (.inl hy) (.inr (jn_ ..)) e
    subst this
    exact hx hy
  rw[e]
  refine FH f row _ fun a b ha hb=>h a b ?_ ?_
  ·rcases ha with ha|ha
   ·rcases Pp.mp ha with ha|rfl
    ·exact .inl ha
    ·exact .inr (jn_ ..)
   ·exact .inr (jk_ _ ha)
  ·rcases hb with hb|hb
   ·rcases Pp.mp hb with hb|rfl
    ·exact .inl hb
    ·exact .inr (jn_ ..)
   ·exact .inr (jk_ _ hb)
noncomputable def ncl (row:List α):Nat:=(AL row).length
theorem Jv (row:List α):ncl (num row)=ncl row:=by
 unfold ncl num AL
 have:=FH (fun x=>((AL row).idxOf x:Int)) row [] (fun x y hx hy e=>by
  simp at hx hy
  exact Yn (A9.mpr hx) (A9.mpr hy) s!"")
 unfold AL at this
 simp only[xP_]at this
 rw[this,ja_]
theorem U7 {row:List α}{i:Nat}{x:α}(h:row[i]?=some x):(num row)[i]?=some ((AL row).idxOf x:Int):=by
 unfold num
 rw[jd_,h];rfl
theorem Ta {row:List α}{i j:Nat}{x y:α}(hx:row[i]?=some x)(hy:row[j]?=some y):(num row)[i]?=(num row)[j]? ↔ x=y:=by
 rw[U7 hx,U7 hy]
 constructor
 ·intro h
  have:=jp_ h
  exact Yn (A9.mpr (jc_ hx)) (A9.mpr (jc_ hy)) s!""
 ·rintro rfl;rfl
theorem U8 {row:List α}{n:Int}(h:n∈num row):0<=n/\n<ncl row:=by
 unfold num at h
 obtain⟨x,hx,rfl⟩:=jv_.mp h
 have:=qD_ (A9.mpr hx)
 exact⟨by lia,by unfold ncl;lia⟩
theorem Pq {row:List α}(h:row ≠ []):((ncl row:Int)-1)∈num row:=by
 have aw:AL row ≠ []:=fun z=>by
  cases row with
  |nil=>exact h rfl
  |cons x row=>
   have:x∈AL (x::row):=A9.mpr (jn_ ..)
   rw[z]at this;cases this
 have iQ:0<(AL row).length:=zI_.mpr aw
 have au:(AL row).length-1<(AL row).length:=by lia
 refine jv_.mpr ⟨(AL row)[(AL row).length-1],A9.mp (j2_ au),?_⟩
 have e:=(BG row).idxOf_getElem _ au
 rw[e]
 unfold ncl
 lia
theorem CH_ {row:List α}(h:row ≠ []):1<=ncl row:=by
 have h1:=Pq h
 have:=U8 h1
 lia
theorem Oz (row:List α):ncl row<=row.length:=by
 unfold ncl
 have:∀(row ai:List α),(CC ai row).length<=ai.length+row.length:=fun row=>by
  induction row with
  |nil=>intro ai;exact jg_ _
  |cons x row ih=>
   intro ai
   have:=ih (ins1 ai x)
   have h2:(ins1 ai x).length<=ai.length+1:=by unfold ins1;split<;>simp
   show (CC (ins1 ai x) row).length<=_
   rw[jV_];lia
 have:=this row []
 simpa [AL] using this
end
theorem U9 {α:Type}[DecidableEq α]:∀{l m:List α},l.Nodup->(∀x∈l,x∈m)->l.length<=m.length
 |[],m,_,_=>jX_ _
 |x::l,m,hn,h=>by
  have hx:=h x (jn_ ..)
  have h1:=qA_.mp hn
  have:=U9 (m:=m.erase x) h1.2 fun y hy=>by
   have aw:y≠x:=fun z=>h1.1 (z ▸ hy)
   exact (xe_ aw).mpr (h y (jk_ _ hy))
  rw[qU_ hx]at this
  have hp:0<m.length:=qN_ hx
  rw[jV_];lia
theorem VZ {α β:Type}[DecidableEq α][DecidableEq β](f:α->β){l:List α}{m:List β}(hl:l.Nodup)(hm:m.Nodup)(hs:∀y∈m,∃x∈l,f x=y)(ak:l.length<=m.length){x y:α}(hx:x∈l)(hy:y∈l)(e:f x=f y):x=y:=by
 refine Decidable.byContradiction fun aw=>?_
 have cx:∀z∈m,z∈(l.erase y).map f:=fun z hz=>by
  obtain⟨u,hu,rfl⟩:=hs z hz
  by_cases huy:u=y
  ·subst huy
   exact jv_.mpr ⟨x,(xe_ aw).mpr hx,e⟩
  ·exact jv_.mpr ⟨u,(xe_ huy).mpr hu,rfl⟩
 have:=U9 hm cx
 rw[ja_,qU_ hy]at this
 have hp:0<l.length:=qN_ hy
 lia
theorem V0 {α β:Type}[DecidableEq α][DecidableEq β]{row:List (α×β)}(h:ncl row<=ncl (row.map (·.1))){x y:α×β}(hx:x∈row)(hy:y∈row)(e:x.1=y.1):x.2=y.2:=by
 have h':(AL row).length<=(AL (row.map fun p:α×β=>p.1)).length:=h
 have:=VZ (fun p:α×β=>p.1) (BG row) (BG (row.map fun p:α×β=>p.1)) (fun z hz=>by
  obtain⟨p,hp,rfl⟩:=jv_.mp (A9.mp hz)
  exact⟨p,A9.mpr hp,rfl⟩) h' (A9.mpr hx) (A9.mpr hy) e
 rw[this]
theorem CI_ {α β:Type}[DecidableEq α][DecidableEq β]{row:List (α×β)}(h:∀x∈row,∀y∈row,x.1=y.1->x=y):ncl (row.map (·.1))=ncl row:=by
 unfold ncl AL
 have:=FH (fun p:α×β=>p.1) row [] (fun x y hx hy e=>by
  simp at hx hy
  exact h x hx y hy e)
 simp only[xP_]at this
 rw[this,ja_]
structure WC (L:Int)(n:Nat)(b:α2->Nat->Int)(words:α1)(c:α2):Prop where
 w0:words[0]?=some []
 ok:∀w∈words,∀x∈w,0<=x/\x<L
 tl:∀(k:Nat) (w:α2),words[k]?=some w->0<k->w.tail∈words.take k
 nd:words.Nodup
 len:c.length=n
 rng:∀v∈c,0<=v/\v<ncl c
 top:((ncl c:Int)-1)∈c
 iff:∀r s,r<n->s<n->(c[r]?=c[s]? ↔ ∀w∈words,b w r=b w s)
 le:words.length<=ncl c
noncomputable def rowB (n:Nat)(b:α2->Nat->Int)(w:α2):α2:=(List.range n).map (b w)
theorem DG     (hr:r<n):(rowB n b w)[r]?=some (b w r):=by
 unfold rowB
 rw[jd_,qB_ hr];rfl
theorem Yo {c m:α2}(h:c.length=m.length):(c.zip m).map (·.1)=c:=by
 rw[List.map_fst_zip s!""]
theorem OA {c m:α2}{r:Nat}{u v:Int}(hu:c[r]?=some u)(hv:m[r]?=some v):(c.zip m)[r]?=some (u,v):=by
 rw[qP_];exact⟨hu,hv⟩
section
variable {L:Int} {n:Nat} {b:α2->Nat->Int} {words:α1} {c:α2} {w:α2} {x:Int}
theorem WC.start (hn:1<=n):WC L n b [[]] (num (rowB n b [])):=by
 have aw:rowB n b [] ≠ []:=fun z=>by
  have:=jD_ List.length z
  unfold rowB at this
  simp at this;lia
 refine⟨rfl,(fun w hw x hx=>by simp at hw;subst hw;cases hx),fun k w hk h0=>?_,by simp,by rw[Ju];unfold rowB;simp,fun v hv=>?_,?_,fun r s hr hs=>?_,?_⟩
 ·cases k with
  |zero=>lia
  |succ k=>simp at hk
 ·rw[Jv];exact U8 hv
 ·rw[Jv];exact Pq aw
 ·rw[Ta (DG hr) (DG hs)]
  simp
 ·rw[Jv]
  exact CH_ aw
theorem WC.at (h:WC L n b words c)  (hr:r<n):∃u,c[r]?=some u:=⟨c[r]'(by rw[h.len];exact hr),by simp[h.len,hr]⟩
theorem FJ:(rowB n b w).length=n:=by unfold rowB;simp
theorem WC.zlen (h:WC L n b words c):c.length=(rowB n b w).length:=by rw[h.len,FJ]
theorem WC.same (h:WC L n b words c)(aS:ncl (c.zip (rowB n b w))<=ncl c)  (hr:r<n)(hs:s<n)(e:c[r]?=c[s]?):b w r=b w s:=by
 obtain⟨u,hu⟩:=h.at hr
 obtain⟨v,hv⟩:=h.at hs
 have huv:u=v:=by rw[hu,hv]at e;exact jp_ e
 have h1:=jc_ (OA hu (DG (b:=b) (w:=w) hr))
 have h2:=jc_ (OA hv (DG (b:=b) (w:=w) hs))
 exact V0 (by rw[Yo (h.zlen)];exact aS) h1 h2 huv
theorem Yp {c m:α2}{p:Int×Int}(hp:p∈c.zip m):∃r:Nat,c[r]?=some p.1/\m[r]?=some p.2:=by
 obtain⟨r,hr⟩:=jG_.mp hp
 have:=qP_.mp (show (c.zip m)[r]?=some (p.1,p.2) from hr)
 exact⟨r,this.1,this.2⟩
theorem WC.told (h:WC L n b words c)(hs:∀r s,r<n->s<n->c[r]?=c[s]?->b w r=b w s):ncl (c.zip (rowB n b w))<=ncl c:=by
 have e:=CI_ (row:=c.zip (rowB n b w)) fun p hp q hq e=>by
  obtain⟨r,p1,p2⟩:=Yp hp
  obtain⟨s,q1,q2⟩:=Yp hq
  have hr:r<n:=by rw[<-h.len];exact (jb_.mp p1).1
  have ft:s<n:=by rw[<-h.len];exact (jb_.mp q1).1
  have:=hs r s hr ft (by rw[p1,q1,e])
  rw[DG hr]at p2
  rw[DG ft]at q2
  have e2:p.2=q.2:=by rw[<-jp_ p2,<-jp_ q2,this]
  exact Prod.ext e e2
 rw[<-e,Yo h.zlen]
 exact jg_ _
theorem WC.more (h:WC L n b words c)(hn:1<=n)(hw:w∈words)(hx:0<=x/\x<L)(jF:ncl c<ncl (c.zip (rowB n b (x::w)))):WC L n b (words++[x::w]) (num (c.zip (rowB n b (x::w)))):=by
 have cQ:x::w∉words:=fun hm=>by
  have:=h.told (w:=x::w) fun r s hr hs e=>((h.iff r s hr hs).mp e) _ hm
  lia
 have hV:(c.zip (rowB n b (x::w))).length=n:=by rw[zJ_,h.len,FJ];lia
 have aw:c.zip (rowB n b (x::w)) ≠ []:=fun z=>by rw[z]at hV;simp at hV;lia
 have iQ:0<words.length:=by
  have:=(jb_.mp h.w0).1
  exact this
 refine⟨by rw[jj_ iQ];exact h.w0,fun v hv y hy=>?_,fun k v hk h0=>?_,?_,by rw[Ju,hV],fun v hv=>?_,?_,fun r s hr hs=>?_,?_⟩
 ·rcases jA_.mp hv with hv|hv
  ·exact h.ok v hv y hy
  ·rw[jq_.mp hv]at hy
   rcases jL_.mp hy with rfl|hy
   ·exact hx
   ·exact h.ok w hw y hy
 ·by_cases gi:k<words.length
  ·rw[jj_ gi]at hk
   rw[List.take_append_of_le_length s!""]
   exact h.tl k v hk h0
  ·have:=(jb_.mp hk).1
   rw[jo_,j0_]at this
   have e:k=words.length:=by lia
   subst e
   rw[jr_ (jg_ _),qs_]at hk
   simp at hk
   subst hk
   rw[List.take_left']
   ·exact hw
   ·rfl
 ·exact zm_.mpr ⟨h.nd,by simp,fun a ha y hy z=>by simp at hy;subst z hy;exact cQ ha⟩
 ·rw[Jv];exact U8 hv
 ·rw[Jv];exact Pq aw
 ·obtain⟨u,hu⟩:=h.at hr
  obtain⟨v,hv⟩:=h.at hs
  rw[Ta (OA hu (DG hr)) (OA hv (DG hs))]
  constructor
  ·intro e y hy
   rcases jA_.mp hy with hy|hy
   ·exact ((h.iff r s hr hs).mp (by rw[hu,hv,(Prod.mk.inj e).1])) y hy
   ·rw[jq_.mp hy];exact (Prod.mk.inj e).2
  ·intro e
   have e1:=(h.iff r s hr hs).mpr fun y hy=>e y (j8_ _ hy)
   rw[hu,hv]at e1
   have e2:=e (x::w) (jw_ _ (jq_.mpr rfl))
   rw[jp_ e1,e2]
 ·rw[jo_,j0_,Jv]
  have:=h.le
  lia
noncomputable def Told (n:Nat)(b:α2->Nat->Int)(c:α2)(w:α2):Prop:=∀r s,r<n->s<n->c[r]?=c[s]?->b w r=b w s
theorem WC.finer (h:WC L n b words c)(hz:c.length=n)  (ht:Told n b c u):Told n b (num (c.zip (rowB n b w))) u:=fun r s hr hs e=>by
 obtain⟨p,hp⟩:=h.at hr
 obtain⟨q,hq⟩:=h.at hs
 have:=(Ta (OA hp (DG (b:=b) (w:=w) hr)) (OA hq (DG (b:=b) (w:=w) hs))).mp e
 exact ht r s hr hs (by rw[hp,hq,(Prod.mk.inj this).1])
theorem WC.mine (h:WC L n b words c)(hw:w∈words):Told n b c w:=fun r s hr hs e=>((h.iff r s hr hs).mp e) w hw
end
theorem Yq {α β:Type}[DecidableEq α][DecidableEq β](f:α->β):∀(l:List α) (x:α),(∀y∈l,f y=f x->y=x)->(l.map f).idxOf (f x)=l.idxOf x
 |[],x,_=>rfl
 |a::l,x,h=>by
  rw[j1_,zH_,zH_,Yq f l x fun y hy=>h y (jk_ _ hy)]
  by_cases e:a=x
  ·subst e;simp
  ·have:¬ f a=f x:=fun z=>e (h a (jn_ ..) z)
   rw[show (a==x)=false by simpa using e,show (f a==f x)=false by simpa using this]
theorem CJ_  [DecidableEq α][DecidableEq β](f:α->β)  (h:∀x∈row,∀y∈row,f x=f y->x=y):num (row.map f)=num row:=by
 have e:AL (row.map f)=(AL row).map f:=by
  unfold AL
  have:=FH f row [] (fun x y hx hy e=>h x (hx.resolve_left (by simp)) y (hy.resolve_left (by simp)) e)
  simpa using this
 unfold num
 rw[jW_,e]
 refine qj_ fun x hx=>?_
 show (((AL row).map f).idxOf (f x):Int)=_
 rw[Yq f _ _ fun y hy e=>h y (A9.mp hy) x hx e]
theorem ZJ {α:Type}[DecidableEq α]{l:List α}{x y:α}(hy:y∈l):(l++[x]).idxOf y=l.idxOf y:=by
 rw[zV_,if_pos hy]
theorem Tc {α:Type}[DecidableEq α]{l:List α}{x:α}(hx:x∉l):(l++[x]).idxOf x=l.length:=by
 rw[zV_,if_neg hx];simp
noncomputable abbrev StC:=α1×α2
noncomputable def NY (n:Nat)(b:α2->Nat->Int)(w:α2)(st:StC)(x:Nat):StC:=if ncl st.2<ncl (st.2.zip (rowB n b ((x:Int)::w))) then (st.1++[(x:Int)::w],num (st.2.zip (rowB n b ((x:Int)::w)))) else st
noncomputable def IK (n:Nat)(b:α2->Nat->Int)(w:α2)(L:Nat)(st:StC):StC:=(List.range L).foldl (NY n b w) st
noncomputable def IL (n:Nat)(b:α2->Nat->Int)(L:Nat):Nat->Nat->StC->StC
 |0,_,st=>st
 |f+1,k,st=>if k<st.1.length then IL n b L f (k+1) (IK n b (st.1.getD k []) L st) else st
section
variable {n L:Nat} {b:α2->Nat->Int} {w:α2} {st:StC}
theorem LQ  : IK n b w (i+1) st=NY n b w (IK n b w i st) i:=by
 unfold IK
 rw[xS_,qJ_];rfl
theorem OB  (h:st.1.length<=k):IL n b L f k st=st:=by
 cases f with
 |zero=>rfl
 |succ f=>unfold IL;rw[if_neg s!""]
theorem Rt   (h:st.1[k]?=some v):IL n b L (f+1) k st=IL n b L f (k+1) (IK n b v L st):=by
 have hk:=(jb_.mp h).1
 rw[IL,if_pos hk,jh_,h];rfl
structure WS (n L:Nat)(b:α2->Nat->Int)(k i:Nat)(st:StC):Prop where
 wc:WC L n b st.1 st.2
 told:∀(j:Nat) (v:α2),st.1[j]?=some v->∀x:Nat,x<L->(j<k\/(j=k/\x<i))->Told n b st.2 ((x:Int)::v)
theorem WS.start (hn:1<=n):WS n L b 0 0 ([[]],num (rowB n b [])):=⟨WC.start hn,fun j v hj x hx h=>by lia⟩
theorem WS.next  (h:WS n L b k L st):WS n L b (k+1) 0 st:=⟨h.wc,fun j v hj x hx hh=>h.told j v hj x hx s!""⟩
theorem WS.step  (hn:1<=n)(hw:st.1[k]?=some w)(hi:i<L)(h:WS n L b k i st):WS n L b k (i+1) (NY n b w st i)/\(NY n b w st i).1[k]?=some w:=by
 have hm:=jc_ hw
 unfold NY
 by_cases hc:ncl st.2<ncl (st.2.zip (rowB n b ((i:Int)::w)))
 ·rw[if_pos hc]
  have hW:=h.wc.more hn hm (show 0<=(i:Int)/\(i:Int)<L by lia) hc
  have hk:=(jb_.mp hw).1
  refine⟨⟨hW,fun j v hj x hx hh=>?_⟩,by rw[jj_ hk];exact hw⟩
  by_cases e:j=k/\x=i
  ·obtain⟨rfl,rfl⟩:=e
   rw[jj_ hk,hw]at hj
   cases hj
   exact hW.mine (jw_ _ (jq_.mpr rfl))
  ·have d9:j<st.1.length:=by lia
   rw[jj_ d9]at hj
   exact h.wc.finer h.wc.len (h.told j v hj x hx s!"")
 ·rw[if_neg hc]
  refine⟨⟨h.wc,fun j v hj x hx hh=>?_⟩,hw⟩
  by_cases e:j=k/\x=i
  ·obtain⟨rfl,rfl⟩:=e
   rw[hw]at hj
   cases hj
   exact fun r s hr hs er=>h.wc.same s!"" hr hs er
  ·exact h.told j v hj x hx s!""
theorem WS.few  (h:WS n L b k i st):st.1.length<=n:=by
 have h1:=h.wc.le
 have h2:=Oz st.2
 rw[h.wc.len]at h2
 lia
noncomputable def wcOf (n L:Nat)(b:α2->Nat->Int):StC:=IL n b L 41 0 ([[]],num (rowB n b []))
structure Fin17 (n L:Nat)(b:α2->Nat->Int)(st:StC):Prop where
 wc:WC L n b st.1 st.2
 told:∀v∈st.1,∀x:Nat,x<L->Told n b st.2 ((x:Int)::v)
theorem WS.fin  (h:WS n L b k 0 st)(hk:st.1.length<=k):Fin17 n L b st:=⟨h.wc,fun v hv x hx=>by
 obtain⟨j,hj⟩:=jG_.mp hv
 have:=(jb_.mp hj).1
 exact h.told j v hj x hx s!""⟩
end
end L2
namespace L2
open PySem PySem.W PySem.Spec PySem.Calls PyProof.Rows
theorem Yr              (I:Inv X af σ H s)(e:H a=some (.dK kvs))(l:kvs.length<sizeLine)(ry:RelV (kV k) u)(rv:RelV v r)
  (h0:∀x,valV kvs k=some x->∀w' s',Inv X af σ H s'->RelV x w'->Q w' s') (h1:valV kvs k=none->∀s',Inv X af σ (upd H a (.dK (putK kvs k v))) s'->Q r s'):
  wpAny (model X.prog X.w) A (call (.builtin "dict.setdefault") [.ref a,u,r]) Q E s:=by
 obtain⟨z,hd,vs,a8,dd⟩:=Zn I.hok e
 have hz:vs.length<=sizeLine:=by rw[<-a8.length];exact z
 refine call_meetsIn PySem.F.slot_dict_setdefault dd.typeIs PySem.F.entry_dict_setdefault (PySem.F.args_dict_setdefault_3 _ _ _) (kt_meets_setdefault (B1 X.prog X.w) a (SS ry) hd r) ⟨vs,dd,hz,fun x hx=>?_,fun hn h' fU hs=>?_⟩
 ·have rk:=a8.val k
  rw[hx]at rk
  cases q:valV kvs k with
  |none=>rw[q]at rk;exact (rk:False).elim
  |some y=>rw[q]at rk;exact h0 y q _ _ (I.tok _) rk
 ·have rk:=a8.val k
  rw[hn]at rk
  cases q:valV kvs k with
  |some y=>rw[q]at rk;exact (rk:False).elim
  |none=>
   refine h1 q _ ?_
   have hl:(putK kvs k v).length<=sizeLine:=by have:=FD kvs k v;lia
   have he:∃q,h'.get? a=some q:=let ⟨q,_,_,hq,_⟩:=fU;⟨q,hq⟩
   exact O5 I (by rw[e];exact True.intro) hs he (Xy hl hd (a8.put k rv) fU)
noncomputable def Va (td ty tx:TE):TE:=fun σ H Q=>td σ H fun x H1=>∃a,x=.ref a/\IsD H1 a/\ty σ H1 fun y H2=>tx σ H2 fun z H3=>∃n kvs,y=.int n/\H3 a=some (.dK kvs)/\kvs.length<sizeLine/\(∀v,valV kvs (Sum.inl n)=some v->Q v H3)/\(valV kvs (Sum.inl n)=none->Q z (upd H3 a (.dK (putK kvs (Sum.inl n) z))))
theorem Ru     : Va td ty tx σ H Q=td σ H fun x H1=>∃a,x=.ref a/\IsD H1 a/\ty σ H1 fun y H2=>tx σ H2 fun z H3=>∃n kvs,y=.int n/\H3 a=some (.dK kvs)/\kvs.length<sizeLine/\(∀v,valV kvs (Sum.inl n)=some v->Q v H3)/\(valV kvs (Sum.inl n)=none->Q z (upd H3 a (.dK (putK kvs (Sum.inl n) z)))):=rfl
theorem V1     (ho:PE X o td)(he:PE X e ty)(hf:PE X f tx)(m:M2 X o "setdefault" bh e f aE):PE X (.Call (.Attribute o "setdefault" bh) [e,f] [] aE) (Va td ty tx):=by
 intro af s σ H Q I h
 refine wpAny_Call_method m.base m.few m.line PySem.F.plainAttrs_dict PySem.F.slot_dict_setdefault PySem.F.type_dict_setdefault (thn (ho af s σ H _ I h) fun u s1 ⟨x,H1,I1,rx,a,ex,d,q1⟩=>?_)
 subst ex
 obtain rfl:u=Value.ref a:=rx
 obtain⟨t1,t2,_⟩:=AV_ I1 d
 refine⟨t1,t2,?_⟩
 rw[m.trees]
 refine zh_ rfl (zy_ (xm_ (thn (he af s1 σ H1 _ I1 q1) fun iv s2 ⟨y,H2,I2,ry,q2⟩ =>
  xm_ (thn (hf af s2 σ H2 _ I2 q2) fun fv s3 ⟨z,H3,I3,rz,n,kvs,ey,ea,l,q3,q4⟩=>xT_ ?_))))
 subst ey
 exact Yr (k:=Sum.inl n) I3 ea l ry rz (fun v hv w' s4 I4 d0=>⟨v,H3,I4,d0,q3 v hv⟩) fun hn s4 I4=>⟨z,_,I4,rz,q4 hn⟩
end L2
namespace L2
open GW GB
theorem Ys {L:Int}(hL:0<L){n i:Nat}{ae:α1}{r:Int}{w:α2}:∀(rest:α2) (x:Nat) (ents:List (Int×α2)),((x+rest.length:Nat):Int)=L->(∀(k:Nat) (g:Int),rest[k]?=some g->g=Cz ae r ((x+k:Nat):Int)/\0<=g/\g<(n:Int))->Bfs L n ae ents i (AZ L w*L+x+1)->Seen L ae ents r w x->ents[i]?=some (r,w) ->
  Bfs L n ae (EK w ents x rest) i (AZ L w*L+L+1)/\Seen L ae (EK w ents x rest) r w L.toNat/\(EK w ents x rest)[i]?=some (r,w)
 |[],x,ents,hx,hg,bf,se,he=>by
  rw[Jr]
  have e:(x:Int)=L:=by simpa using hx
  rw[e]at bf
  exact⟨bf,by rw[show L.toNat=x by lia];exact se,he⟩
 |g::rest,x,ents,hx,hg,bf,se,he=>by
  rw[Ib]
  obtain⟨g1,g2⟩:=hg 0 g rfl
  have bS:(x:Int)<L:=by rw[jV_]at hx;lia
  obtain⟨mZ,se'⟩:=bf.letter hL se (jc_ he) bS g1 g2
  refine Ys hL rest (x+1) _ (by rw[<-hx,jV_];congr 1;lia) (fun k g' hk=>?_) mZ se' (Ic he)
  have:=hg (k+1) g' (by simpa using hk)
  rwa [show x+(k+1)=x+1+k by lia]at this
theorem Yt {L:Int}{aa:α2}{ae:α1}(wf:Wf L aa ae):∀(f:Nat) (ents:List (Int×α2)) (i:Nat) (top:Int),Bfs L aa.length ae ents i top->(∀e,ents[i]?=some e->top<=AZ L e.2*L+1)->aa.length<i+f->∃fu,Bfs L aa.length ae (bfs ae f ents i) (bfs ae f ents i).length fu
 |0,ents,i,top,bf,ht,hf=>absurd bf.il (by have:=bf.len;lia)
 |f+1,ents,i,top,bf,ht,hf=>by
  have hL:0<L:=by have:=wf.l1;lia
  cases he:ents[i]? with
  |none=>
   rw[Ph he]
   have:i=ents.length:=by have:=bf.il;have:=xr_.mp he;lia
   exact⟨top,this ▸ bf⟩
  |some e=>
   obtain⟨r,w⟩:=e
   rw[Pj he]
   have hr:=bf.rng _ (jc_ he)
   obtain⟨row,h1,h2,h3⟩:=wf.row hr.1 hr.2
   have kC:ae.getD r.toNat []=row:=by rw[jh_,h1];rfl
   obtain⟨a,b,c⟩:=Ys (w:=w) (r:=r) hL row 0 ents (by simpa using h3) (fun k g hk=>⟨by rw[zr_];exact (CO h1 (by rw[ji_];exact hk)).symm,(wf.rows row h2).2 g (jc_ hk)⟩) (bf.up (by have h9:top<=AZ L w*L+1:=ht _ he;push_cast;lia)) (fun y h0 h1=>absurd h1 (by push_cast;lia)) he
   obtain⟨mZ,dJ⟩:=Bfs.next hL (m:=L.toNat) (by rw[show ((L.toNat:Nat):Int)=L by lia];exact a) s!"" b c
   show ∃fu,Bfs L aa.length ae (bfs ae f (EK w ents 0 (ae.getD r.toNat [])) (i+1)) _ fu
   rw[kC]
   exact Yt wf f _ (i+1) _ mZ dJ s!""
theorem Bfs.mk    (wf:Wf L aa ae):∃top,Bfs L aa.length ae (AA ae) (AA ae).length top:=by
 unfold AA
 refine Yt wf _ _ 0 1 (Bfs.start L wf.n1 ae) (fun e he=>?_) (by rw[wf.len];lia)
 simp at he;subst he;simp[AZ,Bj]
theorem Rv {n L:Nat}{b:α2->Nat->Int}{st:StC}{k:Nat}{w:α2}(hn:1<=n)(hw:st.1[k]?=some w)(h:WS n L b k 0 st):∀i,i<=L->WS n L b k i (IK n b w i st)/\(IK n b w i st).1[k]?=some w
 |0,_=>⟨h,hw⟩
 |i+1,hi=>by
  obtain⟨a,c⟩:=Rv hn hw h i s!""
  rw[LQ]
  exact a.step hn c s!""
theorem OC {n L:Nat}{b:α2->Nat->Int}(hn:1<=n)(aN:n<=40):∀(f k:Nat) (st:StC),k+f=41->WS n L b k 0 st->Fin17 n L b (IL n b L f k st)
 |0,k,st,hk,h=>h.fin (by have:=h.few;lia)
 |f+1,k,st,hk,h=>by
  cases hw:st.1[k]? with
  |none=>
   have:=xr_.mp hw
   rw[OB this]
   exact h.fin this
  |some w=>
   rw[Rt hw]
   exact OC hn aN f (k+1) _ s!"" (Rv hn hw h L (jg_ _)).1.next
theorem Fin17.mk'   (hn:1<=n)(aN:n<=40):Fin17 n L b (wcOf n L b):=OC hn aN 41 0 _ rfl (WS.start hn)
noncomputable def bW (aa:α2)(ae:α1)(w:α2)(r:Nat):Int:=aa.getD (C9 ae (r:Int) w).toNat 0
theorem Bu_   : rowB aa.length (bW aa ae) []=aa:=by
 refine qI_ fun i=>?_
 by_cases hi:i<aa.length
 ·rw[DG hi]
  unfold bW
  show some (aa.getD ((i:Int)).toNat 0)=_
  rw[ji_,jh_,jf_ hi];rfl
 ·rw[jQ_ (by rw[FJ];lia),jQ_ s!""]
theorem Td   (w:α2)(x:Int)(r:Nat)(h:0<=Cz ae (r:Int) x):bW aa ae (x::w) r=bW aa ae w (Cz ae (r:Int) x).toNat:=by
 unfold bW
 rw[B5,xj_ h]
noncomputable def cf (c:α2)(r:Int):Int:=c.getD r.toNat 0
noncomputable def hm (c R:α2)(r:Int):Int:=(((AL (R.map (cf c))).idxOf (cf c r):Nat):Int)
noncomputable def Cw (c ai:α2)(r:Int):α2:=if cf c r∈ai.map (cf c) then ai else ai++[r]
noncomputable def FR (c R:α2):α2:=R.foldl (Cw c) []
theorem V2 (c ai:α2)(r:Int):(Cw c ai r).map (cf c)=ins1 (ai.map (cf c)) (cf c r):=by
 unfold Cw ins1
 split
 ·rfl
 ·rw[jS_];rfl
theorem Yu (c:α2):∀(R ai:α2),(R.foldl (Cw c) ai).map (cf c)=CC (ai.map (cf c)) (R.map (cf c))
 |[],ai=>rfl
 |r::R,ai=>by
  rw[q7_,Yu c R,V2];rfl
theorem LR (c R:α2):(FR c R).map (cf c)=AL (R.map (cf c)):=Yu c R []
theorem Yv {c R:α2}{i:Nat}{r:Int}(h:R[i]?=some r):FR c (R.take (i+1))=Cw c (FR c (R.take i)) r:=by
 unfold FR
 rw[jU_,h,qK_,qJ_];rfl
theorem CK_ (c R:α2)(r:Int):FR c (R++[r])=Cw c (FR c R) r:=by
 unfold FR
 rw[qJ_];rfl
theorem Yw (c:α2):∀(R ai:α2) (r:Int),r∈R.foldl (Cw c) ai->r∈ai\/r∈R
 |[],ai,r,h=>.inl h
 |q::R,ai,r,h=>by
  rcases Yw c R _ r h with h|h
  ·unfold Cw at h
   split at h
   ·exact .inl h
   ·rcases jA_.mp h with h|h
    ·exact .inl h
    ·exact .inr (by rw[jq_.mp h];exact jn_ ..)
  ·exact .inr (jk_ _ h)
theorem IM   (h:r∈FR c R):r∈R:=(Yw c R [] r h).resolve_left (by simp)
theorem Vb (c R:α2):(FR c R).length<=R.length:=by
 have h:=jD_ List.length (LR c R)
 have h2:=Oz (R.map (cf c))
 unfold ncl at h2
 rw[ja_]at h h2
 lia
noncomputable def mkR (aa:α2)(r:Int):Int:=aa.getD r.toNat 0
noncomputable def hrow (c R:α2)(ae:α1)(r:Int):α2:=(ae.getD r.toNat []).map (hm c R)
theorem hm_F {c R:α2}{j:Nat}{r:Int}(h:(FR c R)[j]?=some r):hm c R r=j:=by
 have h1:(AL (R.map (cf c)))[j]?=some (cf c r):=by rw[<-LR,jd_,h];rfl
 unfold hm
 obtain⟨hj,e⟩:=jb_.mp h1
 rw[<-e,(BG _).idxOf_getElem _ hj]
theorem F_hm   (h:r∈R):∃(j:Nat) (q:Int),j<(FR c R).length/\hm c R r=j/\(FR c R)[j]?=some q/\cf c q=cf c r:=by
 have bH:cf c r∈AL (R.map (cf c)):=A9.mpr (q5_ h)
 have hi:=qD_ bH
 have hl:(FR c R).length=(AL (R.map (cf c))).length:=by rw[<-LR,ja_]
 refine⟨(AL (R.map (cf c))).idxOf (cf c r),(FR c R)[(AL (R.map (cf c))).idxOf (cf c r)]'s!"",by lia,rfl,by simp[hl,hi],?_⟩
 have e:((FR c R).map (cf c))[(AL (R.map (cf c))).idxOf (cf c r)]?=some (cf c r):=by rw[LR,jf_ hi,qY_]
 rw[jd_,jf_ s!""]at e
 exact jp_ e
theorem hm_congr   (h:cf c r=cf c s):hm c R r=hm c R s:=by unfold hm;rw[h]
theorem Rw {c:α2}(p:Int->Int):∀Q:α2,Q.reverse.Pairwise (fun a b=>p a<p b)->(FR c Q.reverse).Pairwise (fun a b=>p a<p b)/\∀r∈Q.reverse,∃f∈FR c Q.reverse,cf c f=cf c r/\p f<=p r
 |[],_=>⟨List.Pairwise.nil,fun r hr=>by simp at hr⟩
 |q::Q,h=>by
  rw[List.reverse_cons]at h ⊢
  obtain⟨h1,_,h3⟩:=q0_.mp h
  obtain⟨i1,i2⟩:=Rw p Q h1
  rw[CK_]
  unfold Cw
  by_cases hc:cf c q∈(FR c Q.reverse).map (cf c)
  ·rw[if_pos hc]
   refine⟨i1,fun r hr=>?_⟩
   rcases jA_.mp hr with hr|hr
   ·exact i2 r hr
   ·rw[jq_.mp hr]
    obtain⟨f,hf,e⟩:=jv_.mp hc
    exact⟨f,hf,e,xG_ (h3 f (IM hf) q (jq_.mpr rfl))⟩
  ·rw[if_neg hc]
   refine⟨q0_.mpr ⟨i1,List.pairwise_singleton _ _,fun a ha b hb=>?_⟩,fun r hr=>?_⟩
   ·exact h3 a (IM ha) b hb
   ·rcases jA_.mp hr with hr|hr
    ·obtain⟨f,hf,e⟩:=i2 r hr
     exact⟨f,j8_ _ hf,e⟩
    ·exact⟨r,jw_ _ hr,rfl,zl_ _⟩
theorem ZK  (p:Int->Int)(h:R.Pairwise (fun a b=>p a<p b)):(FR c R).Pairwise (fun a b=>p a<p b)/\∀r∈R,∃f∈FR c R,cf c f=cf c r/\p f<=p r:=by
 have:=Rw (c:=c) p R.reverse (by rw[qZ_];exact h)
 rwa [qZ_]at this
section
variable {L:Nat} {aa:α2} {ae:α1}
theorem Rx {c:α2}{n:Nat}(hc:c.length=n){r:Int}(h0:0<=r)(h1:r<(n:Int)):c[r.toNat]?=some (cf c r):=by
 unfold cf
 rw[jh_]
 simp[show r.toNat<c.length by lia]
theorem Wf.stp (wf:Wf L aa ae){r x:Int}(h0:0<=r)(h1:r<aa.length)(x0:0<=x)(x1:x<L):0<=Cz ae r x/\Cz ae r x<aa.length:=by
 obtain⟨_,g,_,_,e,a,b⟩:=wf.step h0 h1 x0 x1
 rw[e];exact⟨a,b⟩
theorem Lp (wf:Wf L aa ae){st:StC}(fin:Fin17 aa.length L (bW aa ae) st){r s:Int}(r0:0<=r)(r1:r<aa.length)(s0:0<=s)(s1:s<aa.length)(e:cf st.2 r=cf st.2 s):
  mkR aa r=mkR aa s/\∀x:Nat,x<L->cf st.2 (Cz ae r x)=cf st.2 (Cz ae s x):=by
 have ec:st.2[r.toNat]?=st.2[s.toNat]?:=by rw[Rx fin.wc.len r0 r1,Rx fin.wc.len s0 s1,e]
 have hr:r.toNat<aa.length:=by lia
 have hs:s.toNat<aa.length:=by lia
 have all:=(fin.wc.iff _ _ hr hs).mp ec
 have eR:((r.toNat:Nat):Int)=r:=by lia
 have eS:((s.toNat:Nat):Int)=s:=by lia
 refine⟨?_,fun x hx=>?_⟩
 ·have:=all [] (jc_ fin.wc.w0)
  unfold bW at this
  rw[eR,eS]at this
  exact this
 ·obtain⟨a0,a1⟩:=Wf.stp wf r0 r1 (show (0:Int)<=x by lia) s!""
  obtain⟨b0,b1⟩:=Wf.stp wf s0 s1 (show (0:Int)<=x by lia) s!""
  have:=(fin.wc.iff (Cz ae r x).toNat (Cz ae s x).toNat s!"" s!"").mpr fun w hw=>by
   have:=fin.told w hw x hx r.toNat s.toNat hr hs ec
   rw[Td _ _ _ (by rw[eR];exact a0),Td _ _ _ (by rw[eS];exact b0),eR,eS]at this
   exact this
  rw[Rx fin.wc.len a0 a1,Rx fin.wc.len b0 b1]at this
  exact jp_ this
theorem Te (wf:Wf L aa ae){st:StC}(fin:Fin17 aa.length L (bW aa ae) st):∀(w:α2) {r s:Int},isW L w=true->0<=r->r<aa.length->0<=s->s<aa.length->cf st.2 r=cf st.2 s->mkR aa (C9 ae r w)=mkR aa (C9 ae s w)
 |[],r,s,_,r0,r1,s0,s1,e=>(Lp wf fin r0 r1 s0 s1 e).1
 |x::w,r,s,hw,r0,r1,s0,s1,e=>by
  obtain⟨hx,hw⟩:=Pl.mp hw
  obtain⟨a0,a1⟩:=Wf.stp wf r0 r1 hx.1 hx.2
  obtain⟨b0,b1⟩:=Wf.stp wf s0 s1 hx.1 hx.2
  rw[B5,B5]
  refine Te wf fin w hw a0 a1 b0 b1 ?_
  have:=(Lp wf fin r0 r1 s0 s1 e).2 x.toNat s!""
  rwa [show ((x.toNat:Nat):Int)=x by lia]at this
theorem OD (wf:Wf L aa ae){st:StC}(fin:Fin17 aa.length L (bW aa ae) st){r s:Int}(r0:0<=r)(r1:r<aa.length)(s0:0<=s)(s1:s<aa.length)(h:∀w,isW L w=true->mkR aa (C9 ae r w)=mkR aa (C9 ae s w)):cf st.2 r=cf st.2 s:=by
 have eR:((r.toNat:Nat):Int)=r:=by lia
 have eS:((s.toNat:Nat):Int)=s:=by lia
 have:=(fin.wc.iff r.toNat s.toNat s!"" s!"").mpr fun w hw=>by
  have:=h w (AF.mpr (fin.wc.ok w hw))
  unfold bW
  rw[eR,eS]
  exact this
 rw[Rx fin.wc.len r0 r1,Rx fin.wc.len s0 s1]at this
 exact jp_ this
end
noncomputable def cOf (L:Nat)(aa:α2)(ae:α1):α2:=(wcOf aa.length L (bW aa ae)).2
noncomputable def rOf (ae:α1):α2:=(AA ae).map (·.1)
noncomputable def sF (L:Nat)(aa:α2)(ae:α1):α2:=FR (cOf L aa ae) (rOf ae)
noncomputable def sM (L:Nat)(aa:α2)(ae:α1):α2:=(sF L aa ae).map (mkR aa)
noncomputable def sW (L:Nat)(aa:α2)(ae:α1):α1:=(sF L aa ae).map (hrow (cOf L aa ae) (rOf ae) ae)
noncomputable def hO (L:Nat)(aa:α2)(ae:α1)(r:Int):Int:=hm (cOf L aa ae) (rOf ae) r
section
variable {L:Nat} {aa:α2} {ae:α1}
theorem finO (wf:Wf L aa ae):Fin17 aa.length L (bW aa ae) (wcOf aa.length L (bW aa ae)):=Fin17.mk' wf.n1 wf.n40
theorem Ff (wf:Wf L aa ae)  (h:r∈rOf ae):0<=r/\r<aa.length:=by
 obtain⟨top,bf⟩:=Bfs.mk wf
 obtain⟨e,he,rfl⟩:=jv_.mp h
 exact bf.rng e he
theorem Jw (wf:Wf L aa ae){r x:Int}(h:r∈rOf ae)(x0:0<=x)(x1:x<L):Cz ae r x∈rOf ae:=by
 obtain⟨top,bf⟩:=Bfs.mk wf
 obtain⟨e,he,rfl⟩:=jv_.mp h
 obtain⟨j,hj⟩:=jG_.mp he
 obtain⟨e',h1,h2,_⟩:=bf.don j (jb_.mp hj).1 e hj x x0 x1
 rw[<-h2]
 exact q5_ h1
theorem Yx (wf:Wf L aa ae):(rOf ae)[0]?=some 0:=by
 obtain⟨top,bf⟩:=Bfs.mk wf
 unfold rOf
 rw[jd_,bf.hd];rfl
theorem Yy (wf:Wf L aa ae):(rOf ae).length<=aa.length:=by
 obtain⟨top,bf⟩:=Bfs.mk wf
 unfold rOf
 rw[ja_];exact bf.len
theorem Pt (wf:Wf L aa ae):∀(w:α2) {r:Int},r∈rOf ae->isW L w=true->C9 ae r w∈rOf ae
 |[],r,h,_=>h
 |x::w,r,h,hw=>by
  obtain⟨hx,hw⟩:=Pl.mp hw
  rw[B5]
  exact Pt wf w (Jw wf h hx.1 hx.2) hw
theorem Kc (wf:Wf L aa ae){j:Nat}{r:Int}(h:(sF L aa ae)[j]?=some r):r∈rOf ae/\0<=r/\r<aa.length/\hO L aa ae r=j:=by
 have h1:=IM (jc_ h)
 have:=Ff wf h1
 exact⟨h1,this.1,this.2,hm_F h⟩
theorem Bv_ (wf:Wf L aa ae):(sF L aa ae).length<=aa.length:=ql_ (Vb _ _) (Yy wf)
theorem CL_ (wf:Wf L aa ae)  (h:r∈rOf ae):∃(j:Nat) (q:Int),j<(sF L aa ae).length/\hO L aa ae r=j/\(sF L aa ae)[j]?=some q/\cf (cOf L aa ae) q=cf (cOf L aa ae) r:=F_hm h
theorem Eq_ (wf:Wf L aa ae)  (h:r∈rOf ae):0<=hO L aa ae r/\hO L aa ae r<(sF L aa ae).length:=by
 obtain⟨j,q,h1,h2,_⟩:=CL_ wf h
 lia
theorem LS (wf:Wf L aa ae):(0:Int)∈rOf ae:=jc_ (Yx wf)
theorem Yz (wf:Wf L aa ae):(sF L aa ae)[0]?=some 0:=by
 have h:=Yx wf
 unfold sF
 cases hR:rOf ae with
 |nil=>rw[hR]at h;cases h
 |cons a R=>
  rw[hR]at h
  cases h
  unfold FR
  rw[q7_]
  have e:Cw (cOf L aa ae) [] 0=[0]:=by unfold Cw;simp
  rw[e]
  have:∀(R ai:α2),ai[0]?=some 0->(R.foldl (Cw (cOf L aa ae)) ai)[0]?=some 0:=fun R=>by
   induction R with
   |nil=>intro ai h;exact h
   |cons r R ih=>
    intro ai h
    refine ih _ ?_
    unfold Cw
    split
    ·exact h
    ·rw[jj_ (jb_.mp h).1];exact h
  exact this R [0] rfl
theorem Tf (wf:Wf L aa ae):hO L aa ae 0=0:=by
 have:=(Kc wf (Yz wf)).2.2.2
 simpa using this
theorem Fm_ {j:Nat}{r:Int}(h:(sF L aa ae)[j]?=some r):(sM L aa ae)[j]?=some (mkR aa r):=by
 unfold sM;rw[List.getElem?_map,h];rfl
theorem Er_ {j:Nat}{r:Int}(h:(sF L aa ae)[j]?=some r):(sW L aa ae)[j]?=some (hrow (cOf L aa ae) (rOf ae) ae r):=by
 unfold sW;rw[List.getElem?_map,h];rfl
theorem Kd:(sM L aa ae).length=(sF L aa ae).length:=by unfold sM;rw[ja_]
theorem Bw_:(sW L aa ae).length=(sF L aa ae).length:=by unfold sW;rw[ja_]
theorem Es_    (h:ms[r.toNat]?=some m):mkR ms r=m:=by unfold mkR;rw[jh_,h];rfl
theorem Bx_   (h:r.toNat<ms.length):ms[r.toNat]?=some (mkR ms r):=by unfold mkR;rw[jh_];simp[h]
theorem Tg (wf:Wf L aa ae)  (h:r∈rOf ae):mkR (sM L aa ae) (hO L aa ae r)=mkR aa r:=by
 obtain⟨j,q,h1,h2,h3,h4⟩:=CL_ wf h
 have hq:=Kc wf h3
 have hr:=Ff wf h
 rw[h2]
 rw[Es_ (show (sM L aa ae)[((j:Nat):Int).toNat]?=some (mkR aa q) by rw[ji_];exact Fm_ h3)]
 exact (Lp wf (finO wf) hq.2.1 hq.2.2.1 hr.1 hr.2 h4).1
theorem Et_ (wf:Wf L aa ae)  (h:r∈rOf ae):(sW L aa ae)[(hO L aa ae r).toNat]?=some ((ae.getD r.toNat []).map (hO L aa ae)):=by
 obtain⟨j,q,h1,h2,h3,h4⟩:=CL_ wf h
 have hq:=Kc wf h3
 have hr:=Ff wf h
 rw[h2,ji_,Er_ h3]
 congr 1
 unfold hrow
 obtain⟨row,a1,a2,a3⟩:=wf.row hq.2.1 hq.2.2.1
 obtain⟨dq,b1,b2,b3⟩:=wf.row hr.1 hr.2
 have e1:ae.getD q.toNat []=row:=by rw[jh_,a1];rfl
 have e2:ae.getD r.toNat []=dq:=by rw[jh_,b1];rfl
 rw[e1,e2]
 refine qI_ fun x=>?_
 by_cases hx:x<L
 ·have gp:x<row.length:=by lia
  have hxr':x<dq.length:=by lia
  rw[jd_,jd_,jf_ gp,jf_ hxr']
  show some (hm _ _ row[x])=some (hm _ _ dq[x])
  have c1:Cz ae q (x:Nat)=row[x]:=CO a1 (by rw[ji_];simp[gp])
  have c2:Cz ae r (x:Nat)=dq[x]:=CO b1 (by rw[ji_];simp[hxr'])
  have:=(Lp wf (finO wf) hq.2.1 hq.2.2.1 hr.1 hr.2 h4).2 x hx
  rw[c1,c2]at this
  exact jD_ some (hm_congr this)
 ·rw[jQ_ (by rw[ja_];lia),jQ_ (by rw[ja_];lia)]
theorem CM_ (wf:Wf L aa ae){r x:Int}(h:r∈rOf ae)(x0:0<=x)(x1:x<L):Cz (sW L aa ae) (hO L aa ae r) x=hO L aa ae (Cz ae r x):=by
 have hr:=Ff wf h
 obtain⟨row,b1,b2,b3⟩:=wf.row hr.1 hr.2
 have e2:ae.getD r.toNat []=row:=by rw[jh_,b1];rfl
 have h1:=Et_ wf h
 rw[e2]at h1
 have gp:x.toNat<row.length:=by lia
 rw[CO b1 (show row[x.toNat]?=some row[x.toNat] by simp[gp])]
 exact CO h1 (by rw[jd_,jf_ gp];rfl)
theorem Jx (wf:Wf L aa ae):∀(w:α2) {r:Int},r∈rOf ae->isW L w=true->C9 (sW L aa ae) (hO L aa ae r) w=hO L aa ae (C9 ae r w)
 |[],r,h,_=>rfl
 |x::w,r,h,hw=>by
  obtain⟨hx,hw⟩:=Pl.mp hw
  rw[B5,B5,CM_ wf h hx.1 hx.2]
  exact Jx wf w (Jw wf h hx.1 hx.2) hw
theorem sWf (wf:Wf L aa ae):Wf L (sM L aa ae) (sW L aa ae):=by
 have hz:=Yz wf
 refine⟨wf.l1,wf.l6,?_,?_,by rw[Kd,Bw_],fun row hrow'=>?_,fun m lG=>?_⟩
 ·rw[Kd];have:=(jb_.mp hz).1;lia
 ·rw[Kd];have:=Bv_ wf;have:=wf.n40;lia
 ·obtain⟨j,hj⟩:=jG_.mp hrow'
  have d9:=(jb_.mp hj).1
  rw[Bw_]at d9
  have hq:=Kc wf (show (sF L aa ae)[j]?=some (sF L aa ae)[j] by simp[d9])
  rw[Er_ (show (sF L aa ae)[j]?=some (sF L aa ae)[j] by simp[d9])]at hj
  have hj:=jp_ hj
  obtain⟨dq,b1,b2,b3⟩:=wf.row hq.2.1 hq.2.2.1
  have e2:ae.getD ((sF L aa ae)[j]).toNat []=dq:=by rw[jh_,b1];rfl
  unfold hrow at hj
  rw[e2]at hj
  subst hj
  refine⟨by rw[ja_];exact b3,fun x hx=>?_⟩
  obtain⟨g,hg,rfl⟩:=jv_.mp hx
  rw[Kd]
  refine Eq_ wf ?_
  obtain⟨y,hy⟩:=jG_.mp hg
  have kD:=(jb_.mp hy).1
  have:=Jw wf hq.1 (x:=(y:Nat)) s!"" s!""
  rwa [CO b1 (by rw[ji_];exact hy)]at this
 ·unfold sM at lG
  obtain⟨r,hr,rfl⟩:=jv_.mp lG
  have:=Ff wf (IM hr)
  refine wf.mks _ (jc_ (Bx_ (ms:=aa) (r:=r) s!""))
structure Can (L:Nat)(aa:α2)(ae:α1):Prop where
 wf:Wf L aa ae
 lw:∃u:Nat->α2,(∀j,j<aa.length->isW L (u j)=true/\AM ae (u j)=(j:Int))/\(∀v,isW L v=true->∀j:Nat,AM ae v=(j:Int)->AZ L (u j)<=AZ L v)/\(∀j k,j<k->k<aa.length->AZ L (u j)<AZ L (u k))
 red:∀i j:Nat,i<aa.length->j<aa.length->(∀w,isW L w=true->mkR aa (C9 ae i w)=mkR aa (C9 ae j w))->i=j
noncomputable def wi (ae:α1)(r:Int):α2:=(((AA ae).find? fun e=>decide (e.1=r)).map (·.2)).getD []
theorem ZL {L:Int}{n:Nat}{top:Int}(bf:Bfs L n ae (AA ae) (AA ae).length top){e:Int×α2}(he:e∈AA ae):wi ae e.1=e.2:=by
 unfold wi
 cases hq:(AA ae).find? (fun e'=>decide (e'.1=e.1)) with
 |none=>
  rw[xN_]at hq
  have:=hq _ he
  simp at this
 |some e' =>
  have hk:=zK_ hq
  simp only[qo_]at hk
  obtain⟨i,hi,ei⟩:=jR_ (xs_ hq)
  obtain⟨j,hj,ej⟩:=jR_ he
  have ij:i=j:=(xJ_ (h₀:=by simpa using hi) (h₁:=by simpa using hj) bf.nod).mp (by simp[ei,ej,hk])
  subst ij
  rw[<-ei,ej];rfl
theorem By_ {L:Int}{n:Nat}{top:Int}(bf:Bfs L n ae (AA ae) (AA ae).length top):(rOf ae).Pairwise (fun a b=>AZ L (wi ae a)<AZ L (wi ae b)):=by
 unfold rOf
 rw[xC_,xt_]
 intro i j hi hj aT
 rw[ZL bf (j2_ hi),ZL bf (j2_ hj)]
 exact bf.inc i j _ _ aT (by simp[hi]) (by simp[hj])
theorem Eu_ {α:Type}{R:α->α->Prop}{l:List α}(h:l.Pairwise R){i j:Nat}{a b:α}(aT:i<j)(ha:l[i]?=some a)(hb:l[j]?=some b):R a b:=by
 obtain⟨h1,rfl⟩:=jb_.mp ha
 obtain⟨h2,rfl⟩:=jb_.mp hb
 exact xt_.mp h i j h1 h2 aT
theorem Ev_ (wf:Wf L aa ae)  (h:r∈rOf ae):isW L (wi ae r)=true/\AM ae (wi ae r)=r:=by
 obtain⟨top,bf⟩:=Bfs.mk wf
 obtain⟨e,he,rfl⟩:=jv_.mp h
 rw[ZL bf he]
 exact bf.wd e he
theorem Pu (wf:Wf L aa ae)  (hv:isW L v=true):AM ae v∈rOf ae/\AZ L (wi ae (AM ae v))<=AZ L v:=by
 obtain⟨top,bf⟩:=Bfs.mk wf
 obtain⟨w',h1,h2⟩:=bf.least hv v.length (jg_ _)
 rw[jT_]at h1 h2
 have:=ZL bf h1
 exact⟨jv_.mpr ⟨_,h1,rfl⟩,by rw[show wi ae (AM ae v)=w' from this];exact h2⟩
theorem sCan (wf:Wf L aa ae):Can L (sM L aa ae) (sW L aa ae):=by
 obtain⟨top,bf⟩:=Bfs.mk wf
 obtain⟨f1,f2⟩:=ZK (c:=cOf L aa ae) (fun r=>AZ L (wi ae r)) (By_ bf)
 have kF:∀{j:Nat},j<(sF L aa ae).length->(sF L aa ae)[j]?=some ((sF L aa ae).getD j 0):=fun {j} hj=>by rw[jh_];simp[hj]
 refine⟨sWf wf,⟨fun j=>wi ae ((sF L aa ae).getD j 0),fun j hj=>?_,fun v hv j hj=>?_,fun j k g9 hk=>?_⟩,fun i j hi hj az=>?_⟩
 ·rw[Kd]at hj
  have hq:=Kc wf (kF hj)
  have:=Ev_ wf hq.1
  refine⟨this.1,?_⟩
  have h2:=Jx wf (wi ae ((sF L aa ae).getD j 0)) (LS wf) this.1
  rw[Tf wf,CQ,CQ,this.2,hq.2.2.2]at h2
  exact h2
 ·obtain⟨h1,h2⟩:=Pu wf hv
  have h3:=Jx wf v (LS wf) hv
  rw[Tf wf,CQ,CQ,hj]at h3
  obtain⟨f,hf,hc,hp⟩:=f2 _ h1
  obtain⟨i,hi⟩:=jG_.mp hf
  have hi':=(Kc wf hi).2.2.2
  have e:hO L aa ae f=hO L aa ae (AM ae v):=hm_congr hc
  rw[hi',<-h3]at e
  have e':i=j:=by lia
  subst e'
  show AZ L (wi ae ((sF L aa ae).getD i 0))<=_
  rw[jh_,show (sF L aa ae)[i]?=some f from hi]
  exact Int.le_trans hp h2
 ·rw[Kd]at hk
  exact Eu_ f1 g9 (kF s!"") (kF hk)
 ·rw[Kd]at hi hj
  have qi:=Kc wf (kF hi)
  have qj:=Kc wf (kF hj)
  have:=OD wf (finO wf) qi.2.1 qi.2.2.1 qj.2.1 qj.2.2.1 fun w hw=>by
   have:=az w hw
   rw[<-qi.2.2.2,<-qj.2.2.2,Jx wf w qi.1 hw,Jx wf w qj.1 hw,Tg wf (Pt wf w qi.1 hw),Tg wf (Pt wf w qj.1 hw)]at this
   exact this
  have e:hO L aa ae ((sF L aa ae).getD i 0)=hO L aa ae ((sF L aa ae).getD j 0):=hm_congr this
  rw[qi.2.2.2,qj.2.2.2]at e
  lia
theorem Ew_ (wf:Wf L aa ae)  (hv:isW L v=true):mkR (sM L aa ae) (AM (sW L aa ae) v)=mkR aa (AM ae v):=by
 have h:=Jx wf v (LS wf) hv
 rw[Tf wf,CQ,CQ]at h
 rw[h,Tg wf]
 have:=Pt wf v (LS wf) hv
 rwa [CQ]at this
end
theorem Wf.walk' {L:Nat}{aa:α2}{ae:α1}(wf:Wf L aa ae){w:α2}(hw:isW L w=true):0<=AM ae w/\AM ae w<aa.length:=by
 have:=wf.walk hw w.length
 rwa [jT_]at this
section
variable {L:Nat} {m1 m2:α2} {w1 w2:α1}
theorem Bz_:∀{l m:α2},l.Pairwise (· < ·)->m.Pairwise (· < ·)->(∀x,x∈l↔x∈m)->l=m
 |[],[],_,_,_=>rfl
 |[],y::m,_,_,h=>absurd ((h y).mpr (jn_ ..)) (by simp)
 |x::l,[],_,_,h=>absurd ((h x).mp (jn_ ..)) (by simp)
 |x::l,y::m,hl,hm,h=>by
  obtain⟨l1,l2⟩:=List.pairwise_cons.mp hl
  obtain⟨k1,k2⟩:=List.pairwise_cons.mp hm
  have mS:x=y:=by
   have h1:=(h x).mp (jn_ ..)
   have h2:=(h y).mpr (jn_ ..)
   rcases jL_.mp h1 with h1|h1
   ·exact h1
   ·rcases jL_.mp h2 with h2|h2
    ·exact h2.symm
    ·have:=l1 y h2
     have:=k1 x h1
     lia
  subst mS
  congr 1
  refine Bz_ l2 k2 fun z=>⟨fun hz=>?_,fun hz=>?_⟩
  ·rcases jL_.mp ((h z).mp (jk_ _ hz)) with e|e
   ·have:=l1 z hz;lia
   ·exact e
  ·rcases jL_.mp ((h z).mpr (jk_ _ hz)) with e|e
   ·have:=k1 z hz;lia
   ·exact e
theorem Can.order (c:Can L m1 w1):rOf w1=(List.range m1.length).map fun j:Nat=>(j:Int):=by
 obtain⟨u,p,q,s⟩:=c.lw
 obtain⟨top,bf⟩:=Bfs.mk c.wf
 have hL:(0:Int)<L:=by have:=c.wf.l1;lia
 have pl:∀r∈rOf w1,AZ L (wi w1 r)=AZ L (u r.toNat):=fun r hr=>by
  have bT:=Ff c.wf hr
  obtain⟨a,b⟩:=Ev_ c.wf hr
  have g1:=q _ a r.toNat s!""
  obtain⟨a',b'⟩:=p r.toNat s!""
  obtain⟨_,g2⟩:=Pu c.wf a'
  rw[b',xj_ bT.1]at g2
  lia
 refine Bz_ ?_ ?_ fun x=>⟨fun hx=>?_,fun hx=>?_⟩
 ·have h1:=By_ bf
  refine List.Pairwise.imp_of_mem (fun {a b} ha hb cj=>?_) h1
  have ra:=Ff c.wf ha
  have rb:=Ff c.wf hb
  rw[pl a ha,pl b hb]at cj
  refine Int.lt_of_not_ge fun bj=>?_
  rcases qC_ b.toNat a.toNat with au|hge'
  ·have:=s b.toNat a.toNat au s!""
   lia
  ·have:a.toNat=b.toNat:=by lia
   rw[this]at cj
   lia
 ·rw[xC_]
  exact List.Pairwise.imp (fun h=>by lia) List.pairwise_lt_range
 ·have:=Ff c.wf hx
  exact jv_.mpr ⟨x.toNat,jP_.mpr s!"",by lia⟩
 ·obtain⟨j,hj,rfl⟩:=jv_.mp hx
  obtain⟨a,b⟩:=p j (jP_.mp hj)
  have:=(Pu c.wf a).1
  rwa [b]at this
end
end L2
set_option maxHeartbeats 1000000
namespace L2
open PySem PySem.Spec PyProof.Rows
noncomputable def nt (n:Int):Str:=Str.ofString (toString n)
end L2
set_option maxHeartbeats 4000000
namespace L2
open PySem PySem.Spec PyProof.Rows
theorem AG  : DE X (.type "tuple") (fun xs H Q=>∃p ys,xs=[.ref p]/\((SqL X.K H p ys/\∀l,H l=none->Q (.ref l) (upd H l (.tup ys)))\/False)):=fun af s σ H xs us Q I r h=>by
 obtain⟨p,ys,e,h|h⟩:=h
 ·exact O4 af s σ H xs us Q I r ⟨p,ys,e,.inl h⟩
 ·exact h.elim
theorem FK  {K:α3}(h:X.K=K):DE X (.type "tuple") (fun xs H Q=>∃p ys,xs=[.ref p]/\((SqL K H p ys/\∀l,H l=none->Q (.ref l) (upd H l (.tup ys)))\/False)):=by subst h;exact AG
theorem len1 {α:Type}{us:List α}(h:us.length=1):∃a,us=[a]:=by match us,h with|[a],_=>exact⟨a,rfl⟩
theorem len2 {α:Type}{us:List α}(h:us.length=2):∃a b,us=[a,b]:=by match us,h with|[a,b],_=>exact⟨a,b,rfl⟩
theorem len3 {α:Type}{us:List α}(h:us.length=3):∃a b c,us=[a,b,c]:=by match us,h with|[a,b,c],_=>exact⟨a,b,c,rfl⟩
noncomputable def YA (u:TS)(D:Ends):St->Hp->Prop:=u D
noncomputable def Ex_ (t u:TS):TS:=fun D σ H=>t {D with nx:=YA u D} σ H
theorem BA_     : Ex_ t u D σ H=t {D with nx:=YA u D} σ H:=rfl
theorem ZM     (h:u D σ H):YA u D σ H:=h
theorem ZN  {st:Stmt}{rest:List Stmt}  (h1:PS X st t)(h2:PSs X rest u):PSs X (st::rest) (Ex_ t u):=Ad h1 h2
end L2
set_option maxHeartbeats 1000000
set_option maxHeartbeats 4000000
namespace PySem.W
open PySem PySem.Calls PyProof.Rows PyProof.V PySem.Spec
end PySem.W
namespace L2
open PySem PySem.W PySem.Spec PySem.Calls PyProof.Rows
noncomputable def vD:Option (Option V)->(V->Prop)->Prop
 |some (some v),q=>q v
 |_,_=>False
theorem YB   : vD (some (some v)) q=q v:=rfl
theorem Fn_   (h:vD o q):∃v,o=some (some v)/\q v:=by
 match o,h with
 |some (some v),h=>exact⟨v,rfl,h⟩
noncomputable def V3 (i:Nat):TE:=fun σ H Q=>vD σ[i]? fun v=>Q v H
theorem BB_     : V3 i σ H Q=vD σ[i]? fun v=>Q v H:=rfl
theorem pvD  (i:Nat)   (hN:X.N[i]?=some x:=by rfl)(hv:Vis X.env.scope x:=by first|exact Or.inl rfl|exact Or.inr (Or.inl rfl)|exact Or.inr (Or.inr rfl))(hd:(x==("__debug__" : Str))=false:=by decide)
  (bE:(x==("__classdict__" : Str))=false:=by decide):PE X (.Name x pos) (V3 i):=fun af s σ H Q I h=>pv i hN hv hd bE af s σ H Q I (Fn_ h)
noncomputable def iD:V->V->(Int->Int->Prop)->Prop
 |.int i,.int j,q=>q i j
 |x,y,q=>∃i j,x=.int i/\y=.int j/\q i j
theorem BC_   : iD (.int i) (.int j) q=q i j:=rfl
theorem CN_   : iD x y q=∃i j,x=.int i/\y=.int j/\q i j:=by
 cases x<;>cases y<;>first|rfl|(simp[iD])
noncomputable def rID (C:Int->Int->Prop)(g:Int->Int->V):R2:=fun x y H Q=>iD x y fun i j=>C i j/\Q (g i j) H
noncomputable def rI0D (g:Int->Int->V):R2:=fun x y H Q=>iD x y fun i j=>Q (g i j) H
theorem r_ID      : rID C f x y H Q=iD x y fun i j=>C i j/\Q (f i j) H:=rfl
theorem Ey_     : rI0D f x y H Q=iD x y fun i j=>Q (f i j) H:=rfl
theorem Ez_   : rID C g=rI C g:=by
 funext x y H Q;exact CN_
theorem CO_  : rI0D g=rI0 g:=by
 funext x y H Q;exact CN_
theorem opD     (h:OpR X f (rI C g)):OpR X f (rID C g):=by rw[Ez_];exact h
theorem opD0    (h:OpR X f (rI0 g)):OpR X f (rI0D g):=by rw[CO_];exact h
noncomputable def bD:V->(Bool->Prop)->Prop
 |.bl c,q=>q c
 |x,q=>∃c,x=.bl c/\q c
theorem EA_   : bD (.bl c) q=q c:=rfl
theorem EB_   : bD x q=∃c,x=.bl c/\q c:=by
 cases x<;>first|rfl|(simp[bD])
noncomputable def tBD (t:TE):TT:=fun σ H Q=>t σ H fun x H1=>bD x fun c=>Q c H1
theorem r_BD     : tBD te σ H R=te σ H fun x H1=>bD x fun c=>R c H1:=rfl
theorem BD_  : tBD t=tB t:=by
 funext σ H Q
 show t σ H _=t σ H _
 congr 1
 funext x H1;exact EB_
theorem CP_  : tBD t=Zh t:=BD_
theorem ptB    (h:PT X e (tB t)):PT X e (tBD t):=by rw[BD_];exact h
theorem ptT    (h:PT X e (Zh t)):PT X e (tBD t):=by rw[CP_];exact h
noncomputable def eD:V->V->Prop->Prop
 |.int _,.int _,q=>q
 |.str _,.str _,q=>q
 |.non,.non,q=>q
 |.bl _,.bl _,q=>q
 |x,y,q=>scal x y=true/\q
theorem BE_   : eD (.int i) (.int j) q=q:=rfl
theorem BF_   : eD (.str i) (.str j) q=q:=rfl
theorem BG_  : eD .non .non q=q:=rfl
theorem EC_   : eD (.bl i) (.bl j) q=q:=rfl
theorem CQ_   : eD x y q=(scal x y=true/\q):=by
 cases x<;>cases y<;>first|rfl|(simp[eD,scal])
noncomputable def rEqF:R2:=fun x y H Q=>eD x y (Q (.bl (decide (x=y))) H)
noncomputable def rNeF:R2:=fun x y H Q=>eD x y (Q (.bl (!decide (x=y))) H)
theorem ED_    : rEqF x y H Q=eD x y (Q (.bl (decide (x=y))) H):=rfl
theorem EE_    : rNeF x y H Q=eD x y (Q (.bl (!decide (x=y))) H):=rfl
theorem CR_:rEqF=rEq:=by funext x y H Q;exact CQ_
theorem CS_:rNeF=rNe:=by funext x y H Q;exact CQ_
theorem opE   (h:OpR X f rEq):OpR X f rEqF:=by rw[CR_];exact h
theorem opN   (h:OpR X f rNe):OpR X f rNeF:=by rw[CS_];exact h
noncomputable def aD:V->(Addr->Prop)->Prop
 |.ref a,q=>q a
 |x,q=>∃a,x=.ref a/\q a
theorem BH_   : aD (.ref a) q=q a:=rfl
theorem ZO   : aD x q=∃a,x=.ref a/\q a:=by
 cases x<;>first|rfl|(simp[aD])
noncomputable def nD:V->(Int->Prop)->Prop
 |.int a,q=>q a
 |x,q=>∃a,x=.int a/\q a
theorem BI_   : nD (.int a) q=q a:=rfl
theorem YC   : nD x q=∃a,x=.int a/\q a:=by
 cases x<;>first|rfl|(simp[nD])
noncomputable def CT_ (K:α3):R2:=fun x y H Q=>aD x fun p=>∃xs,nD y fun i=>SqT K H p xs/\∃v,atI xs i=some v/\Q v H
noncomputable def ZP (K:α3):R2:=fun x y H Q=>aD x fun p=>∃xs,nD y fun i=>SqL K H p xs/\∃v,atI xs i=some v/\Q v H
theorem BJ_ {K:α3}    : CT_ K x y H Q=aD x fun p=>∃xs,nD y fun i=>SqT K H p xs/\∃v,atI xs i=some v/\Q v H:=rfl
theorem BK_ {K:α3}    : ZP K x y H Q=aD x fun p=>∃xs,nD y fun i=>SqL K H p xs/\∃v,atI xs i=some v/\Q v H:=rfl
theorem ZQ {K:α3}:CT_ K=rIxT K:=by
 funext x y H Q
 show aD x _=∃p xs i v,_
 rw[ZO]
 refine propext ⟨fun ⟨p,e,h⟩=>?_,fun ⟨p,xs,i,v,e1,e2,e3,e4,e5⟩=>⟨p,e1,?_⟩⟩
 ·obtain⟨xs,h⟩:=h
  rw[YC]at h
  obtain⟨i,e2,e3,v,e4,e5⟩:=h
  exact⟨p,xs,i,v,e,e2,e3,e4,e5⟩
 ·refine⟨xs,?_⟩
  rw[YC]
  exact⟨i,e2,e3,v,e4,e5⟩
theorem ZR {K:α3}:ZP K=rIxL K:=by
 funext x y H Q
 show aD x _=∃p xs i v,_
 rw[ZO]
 refine propext ⟨fun ⟨p,e,h⟩=>?_,fun ⟨p,xs,i,v,e1,e2,e3,e4,e5⟩=>⟨p,e1,?_⟩⟩
 ·obtain⟨xs,h⟩:=h
  rw[YC]at h
  obtain⟨i,e2,e3,v,e4,e5⟩:=h
  exact⟨p,xs,i,v,e,e2,e3,e4,e5⟩
 ·refine⟨xs,?_⟩
  rw[YC]
  exact⟨i,e2,e3,v,e4,e5⟩
theorem ixTD  {K:α3}(h:IxR X (rIxT K)):IxR X (CT_ K):=by rw[ZQ];exact h
theorem ixLD  {K:α3}(h:IxR X (rIxL K)):IxR X (ZP K):=by rw[ZR];exact h
noncomputable def lD1:List V->(V->Prop)->Prop
 |[x],q=>q x
 |xs,q=>∃x,xs=[x]/\q x
theorem YD   : lD1 [x] q=q x:=rfl
theorem EF_   : lD1 xs q=∃x,xs=[x]/\q x:=by
 match xs with
 |[]=>rfl
 |[x]=>simp[lD1]
 |x::y::r=>rfl
noncomputable def CU_ (K:α3):List V->Hp->VK->Prop:=fun xs H Q=>lD1 xs fun x=>aD x fun p=>∃ys,(SqL K H p ys\/SqT K H p ys)/\Q (.int ys.length) H
theorem BL_ {K:α3}    : CU_ K xs H Q=lD1 xs fun x=>aD x fun p=>∃ys,(SqL K H p ys\/SqT K H p ys)/\Q (.int ys.length) H:=rfl
theorem lenD  {K:α3}  (h:DE X f (fun xs H Q=>∃p ys,xs=[.ref p]/\(SqL K H p ys\/SqT K H p ys)/\Q (.int ys.length) H)):DE X f (CU_ K):=by
 have e:CU_ K=fun xs H Q=>∃p ys,xs=[.ref p]/\(SqL K H p ys\/SqT K H p ys)/\Q (.int ys.length) H:=by
  funext xs H Q
  show lD1 xs _=_
  rw[EF_]
  refine propext ⟨fun ⟨x,e,h⟩=>?_,fun ⟨p,ys,e,h1,h2⟩=>⟨_,e,ys,h1,h2⟩⟩
  rw[ZO]at h
  obtain⟨p,rfl,ys,h1,h2⟩:=h
  exact⟨p,ys,e,h1,h2⟩
 rw[e];exact h
theorem Aj       (hN:X.N.Nodup)(he:PE X e te)(hi:X.N[i]?=some x:=by rfl)(hx:Loc X.env.scope x:=by exact Or.inl rfl)(hs:swapsWith e (some (.Name x bU)) pos.line X.env=pure false:=by rfl)(hf:X.fn x=true\/X.env.scope.names.lookup x=some .local:=by first|exact .inl rfl|exact .inr rfl|assumption):PS X (.Assign [.Name x bU] e pos) (tAsg te (Jn i)):=Cd hN hi hx he hs hf
theorem Ah      (hr:IxR X r)(ha:PE X a ta)(hb:PE X b tb)(hs:Xo b:=by exact fun _ _=>rfl):PE X (.Subscript a b pos) (tOp r ta tb):=DI_ hr ha hb hs
end L2
namespace PySem
open Sem (wp)
structure VKind (prog:Program)(w:World)(K:Type)[DecidableEq K] where
 is:Heap->K->Value->Prop
 hash:K->Int
 draws:K->Nat
 room:Around->Prop
 inj:∀{h:Heap} {a:Value} {x y:K},is h x a->is h y a->x=y
 keeps:∀{h h':Heap} {k:K} {a:Value} {d:Addr} {o:Obj} {es ep},is h k a->h.get? d=some o->o.data=.dict es ep->Heap.SameBut d h h'->is h' k a
 pyHash:∀{A:Around} {E:Value->Shared->Prop} {s:Shared} {k:K} {a:Addr} {Q:Int->Shared->Prop},room A->is s.heap k (.ref a)->Q (hash k) {s with toks:=s.toks+draws k}->wpAny (model prog w) A (PySem.pyHash (.ref a)) Q E s
 eqBool:∀{A:Around} {E:Value->Shared->Prop} {s:Shared} {x y:K} {u:Value} {b:Addr} {Q:Bool->Shared->Prop},room A->is s.heap x u->is s.heap y (.ref b)->Q (decide (x=y)) s->wpAny (model prog w) A (PySem.eqBool u (.ref b)) Q E s
 quiet:∀{A:Around} {E:Value->Shared->Prop} {s:Shared} {k:K} {a:Value} {Q:Bool->Shared->Prop},room A->is s.heap k a->Q true s->wpAny (model prog w) A (eqIsQuiet 8 a) Q E s
noncomputable abbrev NI:=Int ⊕ α2
noncomputable abbrev NK:=Option (List NI)
end PySem
namespace L2
open PySem PySem.W PySem.Spec PySem.Calls PyProof.Rows
noncomputable def TSq (K:α3)(H H':Hp):Prop:=∀b ys,SqT K H b ys->SqT K H' b ys
theorem TSq.un {K:α3}    (h1:∀xs,H p≠some (.tup xs))(h2:∀ob xs,H p≠some (.frz ob (.tup xs))):TSq K H (upd H p o):=fun b ys e=>by
 rcases e with (e|⟨ob,e⟩)|e
 ·exact .inl (.inl (by rw[Ai (fun z=>by rw[z]at e;exact h1 _ e)];exact e))
 ·exact .inl (.inr ⟨ob,by rw[Ai (fun z=>by rw[z]at e;exact h2 _ _ e)];exact e⟩)
 ·exact .inr e
end L2
namespace aK
open PySem PyProof.Rows
noncomputable def KE (κ:KeyKind)(x:Keyed):κ.α:=(κ.keyOf x.1).getD κ.dflt
theorem ZS     (h:xs[i]?=some x):KK κ xs i=KE κ x:=by unfold KK KE;rw[h]
structure SB (kd:SortKind)(a₀:Array Keyed)(st:SortSt):Prop where
 perm:(arrOf st).Perm a₀
 kind:kindOf st=kd
 failed:failedOf st=none
theorem SB.size   {st:SortSt}(h:SB kd a₀ st):(arrOf st).size=a₀.size:=h.perm.size_eq
theorem SB.setArr   {st:SortSt}(h:SB kd a₀ st)  (hp:xs.Perm (arrOf st)):SB kd a₀ (PyProof.Rows.setArr st xs):=⟨hp.trans h.perm,h.kind,h.failed⟩
theorem SB.mem   {st:SortSt}(h:SB kd a₀ st)  (hx:x∈(arrOf st).toList):x∈a₀.toList:=(xX_.mp h.perm).mem_iff.mp hx
theorem SB.get   {st:SortSt}(h:SB kd a₀ st)  (hi:i<a₀.size):∃x,(arrOf st)[i]?=some x/\x∈a₀.toList:=by
 have hi':i<(arrOf st).size:=by rw[h.size];exact hi
 exact⟨(arrOf st)[i],getElem?_pos _ i hi',h.mem (by simp)⟩
noncomputable def LtOk (kd:SortKind)(κ:KeyKind)(a₀:Array Keyed)(prog:Program)(w:World)(A:Around)(E:Value->Shared->Prop)(s:Shared):Prop:=
 ∀(x y:Keyed) (st:SortSt) (Q:Option Bool->SortSt->Prop),x∈a₀.toList->y∈a₀.toList->kindOf st=kd->Q (some (κ.blt (KE κ x) (KE κ y))) st->wpS (model prog w) A E s (lt' x y) Q st
noncomputable def SO (κ:KeyKind)(xs:Array Keyed)(lo hi:Nat):Prop:=∀i j,lo<=i->i<=j->j<hi->κ.kle (KK κ xs i) (KK κ xs j)
noncomputable def NI (κ:KeyKind)(xs:Array Keyed)(lo hi:Nat):Prop:=∀i j,lo<=i->i<=j->j<hi->κ.kle (KK κ xs j) (KK κ xs i)
noncomputable def Out (lo hi:Nat)(xs ys:Array Keyed):Prop:=∀i,i<lo\/hi<=i->ys[i]?=xs[i]?
theorem Out.refl (lo hi:Nat)(xs:Array Keyed):Out lo hi xs xs:=fun _ _=>rfl
theorem Out.trans {lo hi:Nat}  (h:Out lo hi xs ys)(g:Out lo hi ys zs):Out lo hi xs zs:=fun i hi=>(g i hi).trans (h i hi)
theorem OE  {lo hi i j:Nat}(hj:j<=xs.size)(h1:lo<=i)(h2:j<=hi):Out lo hi xs (mirror xs i j ((j-i) / 2)):=fun k hk=>by
 rw[getElem?_mirror_all hj,if_neg s!""]
theorem V4  {lo hi kG d:Nat}(hs:kG<xs.size)(hd:d<=kG)(h1:lo<=kG-d)(h2:kG<hi):Out lo hi xs (bubble xs kG d):=fun k hk=>by
 rw[getElem?_bubble hs d hd,if_neg s!"",if_neg s!""]
section
variable {prog:Program} {w:World} {A:Around} {E:Value->Shared->Prop} {s:Shared} {a₀:Array Keyed} {κ:KeyKind} {kd:SortKind}
theorem LU {st:SortSt}   (hO:LtOk kd κ a₀ prog w A E s)(hB:SB kd a₀ st)(hi:i<a₀.size)(hj:j<a₀.size)(h:Q (some (κ.blt (KK κ (arrOf st) i) (KK κ (arrOf st) j))) st):wpS (model prog w) A E s (ltAt' i j) Q st:=by
 obtain⟨x,e1,hx⟩:=hB.get hi
 obtain⟨y,e2,hy⟩:=hB.get hj
 rw[ZS e1,ZS e2]at h
 rw[ltAt'_eq]
 refine jy_ (wpS_get ?_)
 show wpS _ _ _ _ (do let x <- elem' (arrOf st) i;let y <- elem' (arrOf st) j;lt' x y) Q st
 rw[elem'_eq,elem'_eq,e1,e2]
 exact jy_ (jH_ (jy_ (jH_ (hO x y st Q hx hy hB.kind h))))
noncomputable def ascL (lo a ao:Nat):StateT SortSt Sem AscSt:=
 forIn [a:ao] ((none,a):AscSt) fun _ hX=>do
  let __x <- ltAt' (lo+hX.snd) (lo+hX.snd-1)
  match __x with
  |some cy=>if cy=true then pure (ForInStep.done (none,hX.snd)) else pure (ForInStep.yield (none,hX.snd+1))
  |_=>pure (ForInStep.done (some none,hX.snd))
theorem SO.snoc  {lo x:Nat}(h:SO κ xs lo (lo+x))(o:1<=x)(q:κ.blt (KK κ xs (lo+x)) (KK κ xs (lo+x-1))=false):SO κ xs lo (lo+(x+1)):=fun i j a b c=>by
 rcases qC_ j (lo+x) with y|y
 ·exact h i j a b y
 obtain rfl:j=lo+x:=by lia
 rcases Nat.eq_or_lt_of_le b with rfl|z
 ·exact qE_ _
 ·exact xc_ (h i (lo+x-1) a s!"" s!"") q
theorem BM_ {st:SortSt}{lo a ao:Nat}  (hO:LtOk kd κ a₀ prog w A E s)(hn:lo+ao<=a₀.size)(ha:1<=a)(han:a<=ao)(hB:SB kd a₀ st)(hs:SO κ (arrOf st) lo (lo+a))
  (h:∀n,a<=n->n<=ao->SO κ (arrOf st) lo (lo+n)->(n=ao\/κ.klt (KK κ (arrOf st) (lo+n)) (KK κ (arrOf st) (lo+n-1)))->Q (none,n) st):
  wpS (model prog w) A E s (ascL lo a ao) Q st:=by
 unfold ascL
 refine qF_ (fun x c t=>t=st/\c=(none,x)/\x<=ao/\SO κ (arrOf st) lo (lo+x)) (fun x c t y z i=>?_) (fun c t i=>?_) ⟨rfl,rfl,han,hs⟩
 ·obtain⟨rfl,rfl,_,so⟩:=i
  refine jy_ (LU hO hB (by show lo+x<_;lia) (by show lo+x-1<_;lia) ?_)
  dsimp only
  generalize e:κ.blt _ _=b
  cases b
  ·exact jH_ ⟨rfl,rfl,z,so.snoc s!"" e⟩
  ·exact jH_ (h x y (q1_ z) so (.inr e))
 ·obtain⟨rfl,rfl,o,so⟩:=i
  exact h _ s!"" o so (.inl s!"")
noncomputable def Ry (lo n ao:Nat):StateT SortSt Sem (Option Nat):=do
 reverseSlice' lo (lo+n)
 let hX <- ascL lo n ao
 match hX.fst with
 |some r=>pure r
 |none=>pure (some hX.snd)
theorem Hi {st:SortSt}   (h:Q () (setArr st (mirror (arrOf st) i j ((j-i) / 2)))):wpS (model prog w) A E s (reverseSlice' i j) Q st:=by
 rw[reverseSlice'_eq];exact zB_ h
theorem CV_ {st:SortSt}{lo n ao:Nat}  (hO:LtOk kd κ a₀ prog w A E s)(hn:lo+ao<=a₀.size)(h1:1<=n)(eN:n<=ao)(hB:SB kd a₀ st)(hs:NI κ (arrOf st) lo (lo+n))
  (h:∀m ah,SB kd a₀ ah->pendingOf ah=pendingOf st->Out lo (lo+ao) (arrOf st) (arrOf ah)->1<=m->m<=ao->SO κ (arrOf ah) lo (lo+m)->Q (some m) ah):
  wpS (model prog w) A E s (Ry lo n ao) Q st:=by
 unfold Ry
 have hsz:lo+n<=(arrOf st).size:=by rw[hB.size];lia
 refine jy_ (Hi ?_)
 have gq:SB kd a₀ (setArr st (mirror (arrOf st) lo (lo+n) ((lo+n-lo) / 2))):=hB.setArr (mirror_perm _ _ _ _)
 refine jy_ (BM_ hO hn h1 eN gq ?_ fun m h8 fW hsm _=>jH_ (h m _ gq rfl (OE hsz (jg_ _) s!"") s!"" fW hsm))
 intro i j hl aT hj
 show κ.kle (KK κ (mirror (arrOf st) lo (lo+n) ((lo+n-lo) / 2)) i) (KK κ (mirror (arrOf st) lo (lo+n) ((lo+n-lo) / 2)) j)
 rw[KK_mirror hsz,KK_mirror hsz,if_pos s!"",if_pos s!""]
 exact hs _ _ s!"" s!"" s!""
end
end aK
namespace aK
open PySem PyProof.Rows
noncomputable def DA:Bool->Keyed->Array Keyed->Nat->Nat->Nat->StateT SortSt Sem (Option Nat):=sortPriv% PySem.Builtin.gallop
noncomputable def OF (left:Bool)(key:Keyed)(arr:Array Keyed)(base i:Nat):StateT SortSt Sem (Option Bool):=do
 let x <- elem' arr (base+i)
 if left then lt' x key else return ( <- lt' key x).map (!·)
noncomputable def ZT (left:Bool)(key:Keyed)(arr:Array Keyed)(base n lo hi:Nat):StateT SortSt Sem (Option Nat):=do
 let mut lo:=lo
 let mut hi:=hi
 for _ in [0:n] do
  if lo >= hi then break
  let m:=lo+(hi-lo) / 2
  let some more <- OF left key arr base m|return none
  if more then lo:=m+1 else hi:=m
 return some hi
theorem V5 (left:Bool)(key:Keyed)(arr:Array Keyed)(base n hint:Nat):DA left key arr base n hint=(do
 let some right <- OF left key arr base hint|return none
 if right then
  let mut lastofs:=0
  let mut ofs:=1
  for _ in [0:n] do
   if ofs >= n-hint then break
   let some more <- OF left key arr base (hint+ofs)|return none
   if !more then break
   lastofs:=ofs
   ofs:=2*ofs+1
  ZT left key arr base n (hint+lastofs+1) (hint+min ofs (n-hint))
 else
  let mut lastofs:=0
  let mut ofs:=1
  for _ in [0:n] do
   if ofs >= hint+1 then break
   let some found <- OF left key arr base (hint-ofs)|return none
   if found then break
   lastofs:=ofs
   ofs:=2*ofs+1
  ZT left key arr base n (hint+1-min ofs (hint+1)) (hint-lastofs)):=rfl
section
variable {prog:Program} {w:World} {A:Around} {E:Value->Shared->Prop} {s:Shared} {a₀:Array Keyed} {κ:KeyKind} {kd:SortKind}
noncomputable def gB (κ:KeyKind)(left:Bool)(key:Keyed)(arr:Array Keyed)(base i:Nat):Bool:=if left then κ.blt (KK κ arr (base+i)) (KE κ key) else !κ.blt (KE κ key) (KK κ arr (base+i))
noncomputable def InA (a₀ arr:Array Keyed)(base n:Nat):Prop:=∀i,i<n->∃x,arr[base+i]?=some x/\x∈a₀.toList
theorem IP     {st:SortSt}  (hO:LtOk kd κ a₀ prog w A E s)(hk:kindOf st=kd)(bq:key∈a₀.toList)(hA:InA a₀ arr base n)(hi:i<n)(h:Q (some (gB κ left key arr base i)) st):
  wpS (model prog w) A E s (OF left key arr base i) Q st:=by
 obtain⟨x,e,hx⟩:=hA i hi
 unfold OF
 rw[elem'_eq,e]
 refine jy_ (jH_ ?_)
 unfold gB at h
 rw[ZS e]at h
 cases left with
 |true=>exact hO x key st Q hx bq hk h
 |false=>
  refine jy_ (hO key x st _ bq hx hk ?_)
  exact jH_ h
theorem Rz     {st:SortSt}  (hO:LtOk kd κ a₀ prog w A E s)(hk:kindOf st=kd)(bq:key∈a₀.toList)(hA:InA a₀ arr base n)(hh:hint<n)
  (dM:∀i j,i<=j->j<n->gB κ left key arr base j=true->gB κ left key arr base i=true)
  (h:∀k,k<=n->(∀i,i<k->gB κ left key arr base i=true)->(∀i,k<=i->i<n->gB κ left key arr base i=false)->Q (some k) st):
  wpS (model prog w) A E s (DA left key arr base n hint) Q st:=by
 have fz:∀i j,i<=j->j<n->gB κ left key arr base i=false->gB κ left key arr base j=false:=fun i j aT hj hf=>by
  cases e:gB κ left key arr base j with
  |false=>rfl
  |true=>rw[dM i j aT hj e]at hf;cases hf
 have hlast:∀lo hi:Nat,lo<=hi->hi<=n->(∀i,i<lo->gB κ left key arr base i=true)->(∀i,hi<=i->i<n->gB κ left key arr base i=false)->wpS (model prog w) A E s (ZT left key arr base n lo hi) Q st:=by
  intro lo hi hlh hhn mH hhi
  unfold ZT
  refine jy_ (xV_ (qF_ (I:=fun x c ah=>ah=st/\∃lo hi,c=(none,lo,hi)/\lo<=hi/\hi<=n/\hi-lo<=n-x/\(∀i,i<lo->gB κ left key arr base i=true)/\(∀i,hi<=i->i<n->gB κ left key arr base i=false))
   (Q:=fun c ah=>ah=st/\∃k,∃lo,c=(none,lo,k)/\k<=n/\(∀i,i<k->gB κ left key arr base i=true)/\(∀i,k<=i->i<n->gB κ left key arr base i=false)) ?step ?fin ⟨rfl,lo,hi,rfl,hlh,hhn,by lia,mH,hhi⟩) ?post)
  case fin=>
   rintro c ah ⟨rfl,lo,hi,rfl,h1,h2,h3,h4,h5⟩
   have:lo=hi:=by lia
   subst this
   exact⟨rfl,lo,lo,rfl,h2,h4,h5⟩
  case post=>
   rintro c ah ⟨rfl,k,lo,rfl,h1,h2,h3⟩
   exact jH_ (h k h1 h2 h3)
  case step=>
   rintro x c ah _ hx ⟨rfl,lo,hi,rfl,h1,h2,h3,h4,h5⟩
   dsimp only
   by_cases bj:lo >= hi
   ·rw[if_pos bj]
    have:lo=hi:=by lia
    subst this
    exact jH_ ⟨rfl,lo,lo,rfl,h2,h4,h5⟩
   ·rw[if_neg bj]
    refine jy_ (IP hO hk bq hA (n:=n) s!"" ?_)
    cases hg:gB κ left key arr base (lo+(hi-lo) / 2) with
    |true=>
     dsimp only
     rw[if_pos rfl]
     refine jH_ ⟨rfl,lo+(hi-lo) / 2+1,hi,rfl,by lia,h2,by lia,fun i hi'=>?_,h5⟩
     exact dM i (lo+(hi-lo) / 2) s!"" s!"" hg
    |false=>
     dsimp only
     rw[if_neg (by simp)]
     refine jH_ ⟨rfl,lo,lo+(hi-lo) / 2,rfl,by lia,by lia,by lia,h4,fun i hi' hn=>?_⟩
     exact fz (lo+(hi-lo) / 2) i hi' hn hg
 rw[V5]
 refine jy_ (IP hO hk bq hA hh ?_)
 cases hg:gB κ left key arr base hint with
 |true=>
  dsimp only
  rw[if_pos rfl]
  refine jy_ (xV_ (qF_ (I:=fun x c ah=>ah=st/\∃last ofs,c=(none,last,ofs)/\last<ofs/\x<ofs/\hint+last<n/\gB κ left key arr base (hint+last)=true)
   (Q:=fun c ah=>ah=st/\∃last ofs,c=(none,last,ofs)/\last<ofs/\hint+last<n/\gB κ left key arr base (hint+last)=true/\(n-hint<=ofs\/hint+ofs<n/\gB κ left key arr base (hint+ofs)=false)) ?step ?fin ⟨rfl,0,1,rfl,by lia,by lia,by lia,hg⟩) ?post)
  case fin=>
   rintro c ah ⟨rfl,last,ofs,rfl,h1,h2,h3,h4⟩
   exact⟨rfl,last,ofs,rfl,h1,h3,h4,.inl s!""⟩
  case step=>
   rintro x c ah _ hx ⟨rfl,last,ofs,rfl,h1,h2,h3,h4⟩
   dsimp only
   by_cases bj:ofs >= n-hint
   ·rw[if_pos bj]
    exact jH_ ⟨rfl,last,ofs,rfl,h1,h3,h4,.inl bj⟩
   ·rw[if_neg bj]
    refine jy_ (IP hO hk bq hA (n:=n) s!"" ?_)
    cases kH:gB κ left key arr base (hint+ofs) with
    |true=>
     dsimp only
     rw[if_neg (by simp)]
     exact jH_ ⟨rfl,ofs,2*ofs+1,rfl,by lia,by lia,by lia,kH⟩
    |false=>
     dsimp only
     rw[if_pos (by simp)]
     exact jH_ ⟨rfl,last,ofs,rfl,h1,h3,h4,.inr ⟨by lia,kH⟩⟩
  case post=>
   rintro c ah ⟨rfl,last,ofs,rfl,h1,h3,h4,h5⟩
   dsimp only
   refine hlast (hint+last+1) (hint+min ofs (n-hint)) s!"" s!"" (fun i hi=>dM i (hint+last) s!"" h3 h4) (fun i hi hn=>?_)
   rcases h5 with h5|⟨h5,h6⟩
   ·lia
   ·exact fz (hint+ofs) i s!"" hn h6
 |false=>
  dsimp only
  rw[if_neg (by simp)]
  refine jy_ (xV_ (qF_ (I:=fun x c ah=>ah=st/\∃last ofs,c=(none,last,ofs)/\last<ofs/\x<ofs/\last<=hint/\gB κ left key arr base (hint-last)=false)
   (Q:=fun c ah=>ah=st/\∃last ofs,c=(none,last,ofs)/\last<ofs/\last<=hint/\gB κ left key arr base (hint-last)=false/\(hint+1<=ofs\/ofs<=hint/\gB κ left key arr base (hint-ofs)=true)) ?step ?fin ⟨rfl,0,1,rfl,by lia,by lia,by lia,hg⟩) ?post)
  case fin=>
   rintro c ah ⟨rfl,last,ofs,rfl,h1,h2,h3,h4⟩
   exact⟨rfl,last,ofs,rfl,h1,h3,h4,.inl s!""⟩
  case step=>
   rintro x c ah _ hx ⟨rfl,last,ofs,rfl,h1,h2,h3,h4⟩
   dsimp only
   by_cases bj:ofs >= hint+1
   ·rw[if_pos bj]
    exact jH_ ⟨rfl,last,ofs,rfl,h1,h3,h4,.inl bj⟩
   ·rw[if_neg bj]
    refine jy_ (IP hO hk bq hA (n:=n) s!"" ?_)
    cases kH:gB κ left key arr base (hint-ofs) with
    |true=>
     dsimp only
     rw[if_pos rfl]
     exact jH_ ⟨rfl,last,ofs,rfl,h1,h3,h4,.inr ⟨by lia,kH⟩⟩
    |false=>
     dsimp only
     rw[if_neg (by simp)]
     exact jH_ ⟨rfl,ofs,2*ofs+1,rfl,by lia,by lia,by lia,kH⟩
  case post=>
   rintro c ah ⟨rfl,last,ofs,rfl,h1,h3,h4,h5⟩
   dsimp only
   refine hlast (hint+1-min ofs (hint+1)) (hint-last) s!"" s!"" (fun i hi=>?_) (fun i hi hn=>fz (hint-last) i s!"" hn h4)
   rcases h5 with h5|⟨h5,h6⟩
   ·lia
   ·exact dM i (hint-ofs) s!"" s!"" h6
end
end aK
namespace aK
open PySem PyProof.Rows
noncomputable abbrev Gv (st:SortSt)(g:Nat):SortSt:=SortSt.mk' (kindOf st) (arrOf st) (pendingOf st) g (failedOf st)
noncomputable def Bf:Nat->StateT SortSt Sem Unit:=sortPriv% PySem.Builtin.setMinGallop
theorem Kr (g:Nat):Bf g=modify fun s=>Gv s g:=rfl
noncomputable def Lq:Array Keyed->Array Keyed->StateT SortSt Sem (Array Keyed):=sortPriv% PySem.Builtin.mergeLo
noncomputable def FL (a b out:Array Keyed)(ia ib:Nat):Array Keyed:=out++a.extract ia a.size++b.extract ib b.size
noncomputable def LV (a b out:Array Keyed)(ia ib:Nat):Array Keyed:=out++b.extract ib b.size++a.extract ia a.size
theorem Th (a b:Array Keyed):Lq a b=(do
 rule "list.sort.merge-lo"
 let mut out:Array Keyed := #[<-elem' b 0]
 let mut ia:=0
 let mut ib:=1
 if ib==b.size then return FL a b out ia ib
 if ia+1==a.size then return LV a b out ia ib
 let mut minGallop:=gallopOf ( <- get)
 for _ in [0:a.size+b.size] do
  let mut acount:=0
  let mut bcount:=0
  for _ in [0:a.size+b.size] do
   let some fA <- lt' ( <- elem' b ib) ( <- elem' a ia)|return FL a b out ia ib
   if fA then
    out:=out.push ( <- elem' b ib);ib:=ib+1;bcount:=bcount+1;acount:=0
    if ib==b.size then return FL a b out ia ib
    if bcount >= minGallop then break
   else
    out:=out.push ( <- elem' a ia);ia:=ia+1;acount:=acount+1;bcount:=0
    if ia+1==a.size then return LV a b out ia ib
    if acount >= minGallop then break
  rule "list.sort.gallop"
  minGallop:=minGallop+1
  for _ in [0:a.size+b.size] do
   if minGallop > 1 then minGallop:=minGallop-1
   Bf minGallop
   let some k <- DA false ( <- elem' b ib) a ia (a.size-ia) 0|return FL a b out ia ib
   acount:=k
   if k > 0 then
    out:=out++a.extract ia (ia+k);ia:=ia+k
    if ia+1==a.size then return LV a b out ia ib
    if ia==a.size then return FL a b out ia ib
   out:=out.push ( <- elem' b ib);ib:=ib+1
   if ib==b.size then return FL a b out ia ib
   let some k <- DA true ( <- elem' a ia) b ib (b.size-ib) 0|return FL a b out ia ib
   bcount:=k
   if k > 0 then
    out:=out++b.extract ib (ib+k);ib:=ib+k
    if ib==b.size then return FL a b out ia ib
   out:=out.push ( <- elem' a ia);ia:=ia+1
   if ia+1==a.size then return LV a b out ia ib
   if acount<7&&bcount<7 then break
  minGallop:=minGallop+1
  Bf minGallop
 unsupported "internal:list.sort.merge-bound"):=rfl
section
variable {α:Type} {R:α->α->Prop} {A B out:List α} {ia ib:Nat}
structure MI (R:α->α->Prop)(A B out:List α)(ia ib:Nat):Prop where
 ha:ia<=A.length
 hb:ib<=B.length
 pm:out.Perm (A.take ia++B.take ib)
 so:out.Pairwise R
 le:∀x∈out,∀y∈A.drop ia++B.drop ib,R x y
theorem MI.swap (h:MI R A B out ia ib):MI R B A out ib ia:=⟨h.hb,h.ha,h.pm.trans List.perm_append_comm,h.so,fun x hx y hy=>h.le x hx y (by rcases jA_.mp hy with z|z;exact jw_ _ z;exact j8_ _ z)⟩
theorem V6 (A:List α)(i k:Nat):A.drop i=(A.drop i).take k++A.drop (i+k):=by
 rw[<-List.drop_drop,q8_]
theorem MI.ta (h:MI R A B out ia ib)(sA:A.Pairwise R)  (hk:ia+k<=A.length)(hx:∀x∈(A.drop ia).take k,∀y∈B.drop ib,R x y):MI R A B (out++(A.drop ia).take k) (ia+k) ib:=by
 have dY:=V6 A ia k
 have m7:(A.drop ia).Pairwise R:=List.Pairwise.sublist (List.drop_sublist _ _) sA
 refine⟨hk,h.hb,?_,?_,fun x jG y hy=>?_⟩
 ·have e:A.take (ia+k)=A.take ia++(A.drop ia).take k:=List.take_add
  rw[e,qh_]
  refine (List.Perm.append_right _ h.pm).trans ?_
  rw[qh_]
  exact List.Perm.append_left _ List.perm_append_comm
 ·refine q0_.mpr ⟨h.so,List.Pairwise.sublist (List.take_sublist _ _) m7,fun x bN y iJ=>h.le x bN y (j8_ _ (xf_ iJ))⟩
 ·rcases jA_.mp jG with jG|jG
  ·refine h.le x jG y ?_
   rcases jA_.mp hy with hy|hy
   ·exact j8_ _ (by rw[dY];exact jw_ _ hy)
   ·exact jw_ _ hy
  ·rcases jA_.mp hy with hy|hy
   ·rw[dY]at m7
    exact (q0_.mp m7).2.2 x jG y hy
   ·exact hx x jG y hy
theorem MI.tb (h:MI R A B out ia ib)(sB:B.Pairwise R)  (hk:ib+k<=B.length)(hx:∀x∈(B.drop ib).take k,∀y∈A.drop ia,R x y):MI R A B (out++(B.drop ib).take k) ia (ib+k):=(h.swap.ta sB hk hx).swap
theorem MI.start (A B:List α):MI R A B [] 0 0:=⟨jX_ _,jX_ _,by simp,List.Pairwise.nil,fun x hx=>by cases hx⟩
noncomputable def Mgd (R:α->α->Prop)(A B r:List α):Prop:=r.Perm (A++B)/\r.Pairwise R
theorem MI.done (h:MI R A B out ia ib)(sA:A.Pairwise R)(sB:B.Pairwise R)(he:A.length<=ia\/B.length<=ib):Mgd R A B (out++A.drop ia++B.drop ib):=by
 rcases he with he|he
 ·have:=(h.tb sB (k:=B.length-ib) (by have:=h.hb;lia) (fun x _ y hy=>by rw[qy_ he]at hy;cases hy))
  have e:(B.drop ib).take (B.length-ib)=B.drop ib:=jO_ (by rw[xa_];exact jg_ _)
  rw[e]at this
  rw[qy_ he,qi_]
  refine⟨?_,this.so⟩
  have p:=this.pm
  rw[jO_ he,jO_ (by have:=h.hb;lia)]at p
  exact p
 ·have:=(h.ta sA (k:=A.length-ia) (by have:=h.ha;lia) (fun x _ y hy=>by rw[qy_ he]at hy;cases hy))
  have e:(A.drop ia).take (A.length-ia)=A.drop ia:=jO_ (by rw[xa_];exact jg_ _)
  rw[e]at this
  rw[qy_ he,qi_]
  refine⟨?_,this.so⟩
  have p:=this.pm
  rw[jO_ he,jO_ (by have:=h.ha;lia)]at p
  exact p
theorem MI.last (h:MI R A B out ia ib)(sA:A.Pairwise R)(sB:B.Pairwise R)(hl:∀x∈B,∀y∈A.drop ia,R x y):Mgd R A B (out++B.drop ib++A.drop ia):=by
 have h1:=h.tb sB (k:=B.length-ib) (by have:=h.hb;lia) (fun x hx y hy=>hl x (List.mem_of_mem_drop (xf_ hx)) y hy)
 have e:(B.drop ib).take (B.length-ib)=B.drop ib:=jO_ (by rw[xa_];exact jg_ _)
 rw[e]at h1
 have h2:=h1.done sA sB (.inr (by have:=h.hb;lia))
 rw[qy_ (show B.length<=ib+(B.length-ib) by have:=h.hb;lia),qi_]at h2
 exact h2
end
end aK
namespace aK
open PySem PyProof.Rows
noncomputable def LeK (κ:KeyKind)(x y:Keyed):Prop:=κ.kle (KE κ x) (KE κ y)
structure SG (st ah:SortSt):Prop where
 kd:kindOf ah=kindOf st
 arr:arrOf ah=arrOf st
 pe:pendingOf ah=pendingOf st
 fa:failedOf ah=failedOf st
theorem SG.refl (st:SortSt):SG st st:=⟨rfl,rfl,rfl,rfl⟩
theorem SG.set {st ah:SortSt}(h:SG st ah)(g:Nat):SG st (Gv ah g):=⟨h.kd,h.arr,h.pe,h.fa⟩
noncomputable abbrev G5:=Option (Array Keyed)×Array Keyed×Nat×Nat×Nat
noncomputable abbrev G6:=Option (Array Keyed)×Array Keyed×Nat×Nat×Nat×Nat
noncomputable abbrev G7:=Option (Array Keyed)×Array Keyed×Nat×Nat×Nat×Nat×Nat
noncomputable def PC (a b out:Array Keyed)(ia ib mg ac bc:Nat):StateT SortSt Sem (ForInStep G7):=do
 let y <- elem' a ia
 if (ia+1+1==a.size)=true then pure (.done (some (LV a b (out.push y) (ia+1) ib),out.push y,ia+1,ib,mg,ac,bc))
 else if (decide (ac<7)&&decide (bc<7))=true then pure (.done (none,out.push y,ia+1,ib,mg,ac,bc)) else pure (.yield (none,out.push y,ia+1,ib,mg,ac,bc))
noncomputable def PB (a b out:Array Keyed)(ia ib mg ac bc:Nat):StateT SortSt Sem (ForInStep G7):=do
 let y <- elem' b ib
 if (ib+1==b.size)=true then pure (.done (some (FL a b (out.push y) ia (ib+1)),out.push y,ia,ib+1,mg,ac,bc))
 else do
  let z <- elem' a ia
  let x <- DA true z b (ib+1) (b.size-(ib+1)) 0
  match x with
  |some k=>if k > 0 then (if (ib+1+k==b.size)=true then pure (.done (some (FL a b (out.push y++b.extract (ib+1) (ib+1+k)) ia (ib+1+k)),out.push y++b.extract (ib+1) (ib+1+k),ia,ib+1+k,mg,ac,k)) else PC a b (out.push y++b.extract (ib+1) (ib+1+k)) ia (ib+1+k) mg ac k) else PC a b (out.push y) ia (ib+1) mg ac k
  |_=>pure (.done (some (FL a b (out.push y) ia (ib+1)),out.push y,ia,ib+1,mg,ac,bc))
noncomputable def PA (a b out:Array Keyed)(ia ib mg ac bc:Nat):StateT SortSt Sem (ForInStep G7):=do
 Bf mg
 let y <- elem' b ib
 let x <- DA false y a ia (a.size-ia) 0
 match x with
 |some k=>if k > 0 then (if (ia+k+1==a.size)=true then pure (.done (some (LV a b (out++a.extract ia (ia+k)) (ia+k) ib),out++a.extract ia (ia+k),ia+k,ib,mg,k,bc)) else if (ia+k==a.size)=true then pure (.done (some (FL a b (out++a.extract ia (ia+k)) (ia+k) ib),out++a.extract ia (ia+k),ia+k,ib,mg,k,bc)) else PB a b (out++a.extract ia (ia+k)) (ia+k) ib mg k bc) else PB a b out ia ib mg k bc
 |_=>pure (.done (some (FL a b out ia ib),out,ia,ib,mg,ac,bc))
noncomputable def P1 (a b:Array Keyed)(mg:Nat)(c:G6):StateT SortSt Sem (ForInStep G6):=do
 let y <- elem' b c.2.2.2.1
 let z <- elem' a c.2.2.1
 let x <- lt' y z
 match x with
 |some fA=>
  if fA=true then
   elem' b c.2.2.2.1 >>= fun y=>
   if (c.2.2.2.1+1==b.size)=true then pure (.done (some (FL a b (c.2.1.push y) c.2.2.1 (c.2.2.2.1+1)),c.2.1.push y,c.2.2.1,c.2.2.2.1+1,0,c.2.2.2.2.2+1))
   else if c.2.2.2.2.2+1 >= mg then pure (.done (none,c.2.1.push y,c.2.2.1,c.2.2.2.1+1,0,c.2.2.2.2.2+1)) else pure (.yield (none,c.2.1.push y,c.2.2.1,c.2.2.2.1+1,0,c.2.2.2.2.2+1))
  else
   elem' a c.2.2.1 >>= fun y=>
   if (c.2.2.1+1+1==a.size)=true then pure (.done (some (LV a b (c.2.1.push y) (c.2.2.1+1) c.2.2.2.1),c.2.1.push y,c.2.2.1+1,c.2.2.2.1,c.2.2.2.2.1+1,0))
   else if c.2.2.2.2.1+1 >= mg then pure (.done (none,c.2.1.push y,c.2.2.1+1,c.2.2.2.1,c.2.2.2.2.1+1,0)) else pure (.yield (none,c.2.1.push y,c.2.2.1+1,c.2.2.2.1,c.2.2.2.2.1+1,0))
 |_=>pure (.done (some (FL a b c.2.1 c.2.2.1 c.2.2.2.1),c.2.1,c.2.2.1,c.2.2.2.1,c.2.2.2.2.1,c.2.2.2.2.2))
noncomputable def P2 (a b:Array Keyed)(c:G7):StateT SortSt Sem (ForInStep G7):=if c.2.2.2.2.1 > 1 then PA a b c.2.1 c.2.2.1 c.2.2.2.1 (c.2.2.2.2.1-1) c.2.2.2.2.2.1 c.2.2.2.2.2.2 else PA a b c.2.1 c.2.2.1 c.2.2.2.1 c.2.2.2.2.1 c.2.2.2.2.2.1 c.2.2.2.2.2.2
noncomputable def PO (a b:Array Keyed)(c:G5):StateT SortSt Sem (ForInStep G5):=do
 let d <- forIn [0:a.size+b.size] ((none,c.2.1,c.2.2.1,c.2.2.2.1,0,0):G6) fun _ d=>P1 a b c.2.2.2.2 d
 match d.1 with
 |some r=>pure (.done (some r,d.2.1,d.2.2.1,d.2.2.2.1,c.2.2.2.2))
 |none=>do
  liftM (rule "list.sort.gallop")
  let e <- forIn [0:a.size+b.size] ((none,d.2.1,d.2.2.1,d.2.2.2.1,c.2.2.2.2+1,d.2.2.2.2.1,d.2.2.2.2.2):G7) fun _ e=>P2 a b e
  match e.1 with
  |some r=>pure (.done (some r,e.2.1,e.2.2.1,e.2.2.2.1,e.2.2.2.2.1))
  |none=>do
   Bf (e.2.2.2.2.1+1)
   pure (.yield (none,e.2.1,e.2.2.1,e.2.2.2.1,e.2.2.2.2.1+1))
theorem RA (a b:Array Keyed):Lq a b=(do
 liftM (rule "list.sort.merge-lo")
 let y <- elem' b 0
 if (1==b.size)=true then pure (FL a b #[y] 0 1)
 else if (0+1==a.size)=true then pure (LV a b #[y] 0 1)
 else do
  let g <- get
  let c <- forIn [0:a.size+b.size] ((none,#[y],0,1,gallopOf g):G5) fun _ c=>PO a b c
  match c.1 with
  |some r=>pure r
  |none=>unsupported "internal:list.sort.merge-bound"):=by
 rw[Th]
 refine jD_ (bind _) (funext fun _=>jD_ (bind _) (funext fun y=>?_))
 refine jD_ (ite _ _) (jD_ (ite _ _) (jD_ (bind _) (funext fun g=>?_)))
 refine congr (jD_ bind (jD_ (forIn _ _) (funext fun _=>funext fun c=>?_))) (funext fun c=>?_)
 ·unfold PO
  dsimp only
  refine congr (jD_ bind (jD_ (forIn _ _) (funext fun _=>funext fun d=>?_))) (funext fun d=>?_)
  ·unfold P1
   rfl
  ·cases d.1 with
   |some r=>rfl
   |none=>
    dsimp only
    refine jD_ (bind _) (funext fun _=>congr (jD_ bind (jD_ (forIn _ _) (funext fun _=>funext fun e=>?_))) (funext fun e=>?_))
    ·unfold P2 PA PB PC
     rfl
    ·cases e.1 with
     |some r=>rfl
     |none=>rfl
 ·cases c.1 with
  |some r=>rfl
  |none=>rfl
end aK
namespace aK
open PySem PyProof.Rows
section
variable {prog:Program} {w:World} {A:Around} {E:Value->Shared->Prop} {s:Shared} {a₀:Array Keyed} {κ:KeyKind} {kd:SortKind}
theorem B6   {st:SortSt}  (hi:i<arr.size)(h:Q arr[i] st):wpS (model prog w) A E s (elem' arr i) Q st:=by
 rw[elem'_eq,getElem?_pos arr i hi]
 exact jH_ h
theorem Jy  {st:SortSt}  (h:Q () st):wpS (model prog w) A E s (rule n:StateT SortSt Sem Unit) Q st:=wpS_lift (wpAny_rule ⟨rfl,h⟩)
theorem Hj (a:Array Keyed)(i j:Nat):(a.extract i j).toList=(a.toList.drop i).take (j-i):=by simp[List.extract_eq_take_drop]
theorem Px (a:Array Keyed)(i:Nat):(a.extract i a.size).toList=a.toList.drop i:=by
 rw[Hj];exact jO_ (by simp)
theorem V7 (a b out:Array Keyed)(ia ib:Nat):(FL a b out ia ib).toList=out.toList++a.toList.drop ia++b.toList.drop ib:=by
 unfold FL;rw[Array.toList_append,Array.toList_append,Px,Px]
theorem V8 (a b out:Array Keyed)(ia ib:Nat):(LV a b out ia ib).toList=out.toList++b.toList.drop ib++a.toList.drop ia:=by
 unfold LV;rw[Array.toList_append,Array.toList_append,Px,Px]
theorem LeK.refl (x:Keyed):LeK κ x x:=qE_ _
theorem LeK.trans  (h:LeK κ x y)(g:LeK κ y z):LeK κ x z:=xc_ h g
theorem YE {a:Array Keyed}(sA:a.toList.Pairwise (LeK κ)){i j:Nat}(aT:i<=j)(hj:j<a.size):LeK κ a[i] a[j]:=by
 by_cases e:i=j
 ·subst e;exact LeK.refl _
 ·exact xt_.mp sA i j (by simpa using s!"") (by simpa using hj) s!""
theorem EL {a:Array Keyed}{i:Nat}{y:Keyed}(h:y∈a.toList.drop i):∃j,∃hj:j<a.size,i<=j/\y=a[j]:=by
 obtain⟨k,hk,e⟩:=xY_.mp h
 rw[zW_]at e
 rw[xa_]at hk
 exact⟨i+k,by simpa using (by simp at hk;lia),by lia,by rw[<-e];simp⟩
theorem V9 {a:Array Keyed}{i k:Nat}{y:Keyed}(h:y∈(a.toList.drop i).take k):∃j,∃hj:i+j<a.size,j<k/\y=a[i+j]:=by
 obtain⟨j,hj,e⟩:=xY_.mp h
 rw[List.getElem_take,zW_]at e
 rw[jB_,xa_]at hj
 exact⟨j,by simp at hj;lia,by lia,by rw[<-e];simp⟩
theorem Lr {a:Array Keyed}(sA:a.toList.Pairwise (LeK κ)){i:Nat}(hi:i<a.size):∀y∈a.toList.drop i,LeK κ a[i] y:=fun y hy=>by
 obtain⟨j,hj,aT,rfl⟩:=EL hy
 exact YE sA aT hj
theorem CW_ {a:Array Keyed}{i:Nat}(hi:i<a.size):(a.toList.drop i).take 1=[a[i]]:=by
 rw[q6_ (by simpa using hi)];simp
section
variable {a b out:Array Keyed} {ia ib:Nat}
theorem MI.pushA (h:MI (LeK κ) a.toList b.toList out.toList ia ib)(sA:a.toList.Pairwise (LeK κ))(hi:ia<a.size)(hx:∀y∈b.toList.drop ib,LeK κ a[ia] y):MI (LeK κ) a.toList b.toList (out.push a[ia]).toList (ia+1) ib:=by
 have:=h.ta sA (k:=1) (by simp;lia) (by rw[CW_ hi];intro x d6 y hy;rw[jq_.mp d6];exact hx y hy)
 rw[CW_ hi]at this
 rw[Array.toList_push];exact this
theorem MI.pushB (h:MI (LeK κ) a.toList b.toList out.toList ia ib)(sB:b.toList.Pairwise (LeK κ))(hi:ib<b.size)(hx:∀y∈a.toList.drop ia,LeK κ b[ib] y):MI (LeK κ) a.toList b.toList (out.push b[ib]).toList ia (ib+1):=(h.swap.pushA sB hi hx).swap
theorem MI.extA (h:MI (LeK κ) a.toList b.toList out.toList ia ib)(sA:a.toList.Pairwise (LeK κ))  (hk:ia+k<=a.size)(hx:∀j,j<k->∀(hj:ia+j<a.size),∀y∈b.toList.drop ib,LeK κ a[ia+j] y):MI (LeK κ) a.toList b.toList (out++a.extract ia (ia+k)).toList (ia+k) ib:=by
 have:=h.ta sA (k:=k) (by simpa using hk) (fun x d6 y hy=>by
  obtain⟨j,hj,g9,rfl⟩:=V9 d6
  exact hx j g9 hj y hy)
 rw[qQ_,Hj,show ia+k-ia=k by lia];exact this
theorem MI.extB (h:MI (LeK κ) a.toList b.toList out.toList ia ib)(sB:b.toList.Pairwise (LeK κ))  (hk:ib+k<=b.size)(hx:∀j,j<k->∀(hj:ib+j<b.size),∀y∈a.toList.drop ia,LeK κ b[ib+j] y):MI (LeK κ) a.toList b.toList (out++b.extract ib (ib+k)).toList ia (ib+k):=(h.swap.extA sB hk hx).swap
end
theorem Gf   (hi:i<xs.size):KK κ xs i=KE κ xs[i]:=ZS (getElem?_pos xs i hi)
theorem BN_  (hA:∀x∈a.toList,x∈a₀.toList)  (h:i+n<=a.size):InA a₀ a i n:=fun j hj=>⟨a[i+j],getElem?_pos _ _ s!"",hA _ (by simp)⟩
theorem PD    {st:SortSt}  (hO:LtOk kd κ a₀ prog w A E s)(hk:kindOf st=kd)(bq:key∈a₀.toList)(hA:∀x∈a.toList,x∈a₀.toList)(sA:∀i j (hi:i<a.size) (hj:j<a.size),base<=i->i<=j->j<base+n->LeK κ a[i] a[j])(hn:base+n<=a.size)(hh:hint<n)
  (h:∀k,k<=n->(∀i (hi:base+i<a.size),i<k->LeK κ a[base+i] key)->(∀i (hi:base+i<a.size),k<=i->i<n->κ.klt (KE κ key) (KE κ a[base+i]))->Q (some k) st):
  wpS (model prog w) A E s (DA false key a base n hint) Q st:=by
 refine Rz hO hk bq (BN_ hA hn) hh (fun i j aT hj hb=>?_) (fun k jH h1 h2=>h k jH (fun i hi iR=>?_) (fun i hi iR bM=>?_))
 ·simp only[gB,jY_,q3_,Gf (show base+i<a.size by lia),Gf (show base+j<a.size by lia),Bool.not_eq_true']at hb ⊢
  exact xc_ (sA _ _ s!"" s!"" s!"" s!"" s!"") hb
 ·have:=h1 i iR
  simp only[gB,jY_,q3_,Gf hi,Bool.not_eq_true']at this
  exact this
 ·have:=h2 i iR bM
  simp only[gB,jY_,q3_,Gf hi,Bool.not_eq_false']at this
  exact this
theorem PH    {st:SortSt}  (hO:LtOk kd κ a₀ prog w A E s)(hk:kindOf st=kd)(bq:key∈a₀.toList)(hA:∀x∈a.toList,x∈a₀.toList)(sA:∀i j (hi:i<a.size) (hj:j<a.size),base<=i->i<=j->j<base+n->LeK κ a[i] a[j])(hn:base+n<=a.size)(hh:hint<n)
  (h:∀k,k<=n->(∀i (hi:base+i<a.size),i<k->κ.klt (KE κ a[base+i]) (KE κ key))->(∀i (hi:base+i<a.size),k<=i->i<n->LeK κ key a[base+i])->Q (some k) st):
  wpS (model prog w) A E s (DA true key a base n hint) Q st:=by
 refine Rz hO hk bq (BN_ hA hn) hh (fun i j aT hj hb=>?_) (fun k jH h1 h2=>h k jH (fun i hi iR=>?_) (fun i hi iR bM=>?_))
 ·simp only[gB,xO_,Gf (show base+i<a.size by lia),Gf (show base+j<a.size by lia)]at hb ⊢
  exact KeyOrd.klt_of_kle_of_klt (sA _ _ s!"" s!"" s!"" s!"" s!"") hb
 ·have:=h1 i iR
  simp only[gB,xO_,Gf hi]at this
  exact this
 ·have:=h2 i iR bM
  simp only[gB,xO_,Gf hi]at this
  exact this
theorem PJ {a:Array Keyed}(sA:a.toList.Pairwise (LeK κ))(base n:Nat):∀i j (hi:i<a.size) (hj:j<a.size),base<=i->i<=j->j<base+n->LeK κ a[i] a[j]:=fun _ _ _ hj _ aT _=>YE sA aT hj
structure MP (a₀:Array Keyed)(κ:KeyKind)(a b:Array Keyed):Prop where
 hA:∀x∈a.toList,x∈a₀.toList
 hB:∀x∈b.toList,x∈a₀.toList
 sA:a.toList.Pairwise (LeK κ)
 sB:b.toList.Pairwise (LeK κ)
 ha:1<=a.size
 hb:1<=b.size
 hf:∀y∈a.toList,LeK κ b[0] y
 hl:∀x∈b.toList,LeK κ x a[a.size-1]
section
variable {a b:Array Keyed}
theorem MP.done (M:MP a₀ κ a b)   (h:MI (LeK κ) a.toList b.toList out.toList ia ib)(he:a.size<=ia\/b.size<=ib):Mgd (LeK κ) a.toList b.toList (FL a b out ia ib).toList:=by
 rw[V7];exact h.done M.sA M.sB (by simpa using he)
theorem MP.last (M:MP a₀ κ a b)   (h:MI (LeK κ) a.toList b.toList out.toList ia ib)(he:ia+1=a.size):Mgd (LeK κ) a.toList b.toList (LV a b out ia ib).toList:=by
 rw[V8]
 refine h.last M.sA M.sB (fun x hx y hy=>?_)
 obtain⟨j,hj,aT,rfl⟩:=EL hy
 have e:j=a.size-1:=by lia
 subst e
 exact M.hl x hx
noncomputable def MJ (κ:KeyKind)(a b:Array Keyed)(out:Array Keyed)(ia ib p:Nat):Prop:=MI (LeK κ) a.toList b.toList out.toList ia ib/\ia+1<a.size/\ib<b.size/\p<=ia+ib
theorem Fo_ (hO:LtOk kd κ a₀ prog w A E s)(M:MP a₀ κ a b){st:SortSt}(hk:kindOf st=kd)   (h1:c.1=none)(hJ:MJ κ a b c.2.1 c.2.2.1 c.2.2.2.1 p)
  (h:∀d:G6,d.1=none->MJ κ a b d.2.1 d.2.2.1 d.2.2.2.1 (p+1)->Q (.yield d) st/\Q (.done d) st) (hd:∀(d:G6) x,d.1=some x->Mgd (LeK κ) a.toList b.toList x.toList->Q (.done d) st):
  wpS (model prog w) A E s (P1 a b mg c) Q st:=by
 obtain⟨c0,out,ia,ib,ac,bc⟩:=c
 obtain⟨hM,h2,h3,h4⟩:=hJ
 dsimp only at *
 unfold P1
 dsimp only
 refine jy_ (B6 h3 (jy_ (B6 (show ia<a.size by lia) (jy_ (hO _ _ _ _ (M.hB _ (by simp)) (M.hA _ (by simp)) hk ?_)))))
 cases e:κ.blt (KE κ b[ib]) (KE κ a[ia]) with
 |true=>
  dsimp only
  rw[if_pos rfl]
  have bB:=hM.pushB M.sB h3 (fun y hy=>LeK.trans (qp_ e) (Lr M.sA s!"" y hy))
  refine jy_ (B6 h3 ?_)
  by_cases hq:ib+1=b.size
  ·rw[if_pos (by simpa using hq)]
   exact jH_ (hd _ _ rfl (M.done bB (.inr s!"")))
  ·rw[if_neg (by simpa using hq)]
   have hh:=h (none,out.push b[ib],ia,ib+1,0,bc+1) rfl (show MJ κ a b (out.push b[ib]) ia (ib+1) (p+1) from ⟨bB,h2,by lia,by lia⟩)
   split
   ·exact jH_ hh.2
   ·exact jH_ hh.1
 |false=>
  dsimp only
  rw[if_neg (by simp)]
  have bB:=hM.pushA M.sA (show ia<a.size by lia) (fun y hy=>LeK.trans e (Lr M.sB h3 y hy))
  refine jy_ (B6 (show ia<a.size by lia) ?_)
  by_cases hq:ia+1+1=a.size
  ·rw[if_pos (by simpa using hq)]
   exact jH_ (hd _ _ rfl (M.last bB hq))
  ·rw[if_neg (by simpa using hq)]
   have hh:=h (none,out.push a[ia],ia+1,ib,ac+1,0) rfl (show MJ κ a b (out.push a[ia]) (ia+1) ib (p+1) from ⟨bB,by lia,h3,by lia⟩)
   split
   ·exact jH_ hh.2
   ·exact jH_ hh.1
theorem EG_ (M:MP a₀ κ a b){st:SortSt}   (hM:MI (LeK κ) a.toList b.toList out.toList ia ib)(h2:ia+1<a.size)(h3:ib<b.size)(h4:p<=ia+ib)(aS:∀y∈b.toList.drop ib,LeK κ a[ia] y)
  (h:∀d:G7,d.1=none->MJ κ a b d.2.1 d.2.2.1 d.2.2.2.1 p->Q (.yield d) st/\Q (.done d) st) (hd:∀(d:G7) x,d.1=some x->Mgd (LeK κ) a.toList b.toList x.toList->Q (.done d) st):
  wpS (model prog w) A E s (PC a b out ia ib mg ac bc) Q st:=by
 unfold PC
 refine jy_ (B6 (show ia<a.size by lia) ?_)
 have bB:=hM.pushA M.sA (show ia<a.size by lia) aS
 by_cases hq:ia+1+1=a.size
 ·rw[if_pos (by simpa using hq)]
  exact jH_ (hd _ _ rfl (M.last bB hq))
 ·rw[if_neg (by simpa using hq)]
  have hh:=h (none,out.push a[ia],ia+1,ib,mg,ac,bc) rfl (show MJ κ a b (out.push a[ia]) (ia+1) ib p from ⟨bB,by lia,h3,by lia⟩)
  split
  ·exact jH_ hh.2
  ·exact jH_ hh.1
theorem EH_ (hO:LtOk kd κ a₀ prog w A E s)(M:MP a₀ κ a b){st:SortSt}(hk:kindOf st=kd)   (hM:MI (LeK κ) a.toList b.toList out.toList ia ib)(h2:ia+1<a.size)(h3:ib<b.size)(h4:p<=ia+ib)(aS:∀y∈a.toList.drop ia,LeK κ b[ib] y)
  (h:∀d:G7,d.1=none->MJ κ a b d.2.1 d.2.2.1 d.2.2.2.1 p->Q (.yield d) st/\Q (.done d) st) (hd:∀(d:G7) x,d.1=some x->Mgd (LeK κ) a.toList b.toList x.toList->Q (.done d) st):
  wpS (model prog w) A E s (PB a b out ia ib mg ac bc) Q st:=by
 unfold PB
 refine jy_ (B6 h3 ?_)
 have bB:=hM.pushB M.sB h3 aS
 by_cases hq:ib+1=b.size
 ·rw[if_pos (by simpa using hq)]
  exact jH_ (hd _ _ rfl (M.done bB (.inr s!"")))
 ·rw[if_neg (by simpa using hq)]
  refine jy_ (B6 (show ia<a.size by lia) (jy_ (PH hO hk (M.hA _ (by simp)) M.hB (PJ M.sB _ _) s!"" s!"" (fun k jH g1 g2=>?_))))
  dsimp only
  have fB:∀y∈b.toList.drop (ib+1+k),LeK κ a[ia] y:=fun y hy=>by
   obtain⟨j,hj,aT,rfl⟩:=EL hy
   have:=g2 (j-(ib+1)) s!"" s!"" s!""
   have e:ib+1+(j-(ib+1))=j:=by lia
   simp only[e]at this
   exact this
  by_cases cY:k > 0
  ·rw[if_pos cY]
   have ee:=bB.extB M.sB (k:=k) s!"" (fun j hj cg y hy=>LeK.trans (qp_ (g1 j cg hj)) (Lr M.sA s!"" y hy))
   by_cases ed:ib+1+k=b.size
   ·rw[if_pos (by simpa using ed)]
    exact jH_ (hd _ _ rfl (M.done ee (.inr s!"")))
   ·rw[if_neg (by simpa using ed)]
    exact EG_ M ee h2 s!"" s!"" fB h hd
  ·rw[if_neg cY]
   have e:k=0:=by lia
   subst e
   exact EG_ M bB h2 s!"" s!"" fB h hd
theorem SG.trans {st ah aQ:SortSt}(h:SG st ah)(g:SG ah aQ):SG st aQ:=⟨g.kd.trans h.kd,g.arr.trans h.arr,g.pe.trans h.pe,g.fa.trans h.fa⟩
theorem PL  {st:SortSt}  (h:Q () (Gv st g)):wpS (model prog w) A E s (Bf g) Q st:=by
 rw[Kr];exact zB_ h
theorem EI_ (hO:LtOk kd κ a₀ prog w A E s)(M:MP a₀ κ a b){st:SortSt}(hk:kindOf st=kd)   (hJ:MJ κ a b out ia ib p)
  (h:∀(d:G7) ah,SG st ah->d.1=none->MJ κ a b d.2.1 d.2.2.1 d.2.2.2.1 p->Q (.yield d) ah/\Q (.done d) ah) (hd:∀(d:G7) x ah,SG st ah->d.1=some x->Mgd (LeK κ) a.toList b.toList x.toList->Q (.done d) ah):
  wpS (model prog w) A E s (PA a b out ia ib mg ac bc) Q st:=by
 obtain⟨hM,h2,h3,h4⟩:=hJ
 unfold PA
 refine jy_ (PL ?_)
 have hG:SG st (Gv st mg):=(SG.refl st).set mg
 refine jy_ (B6 h3 (jy_ (PD hO (hG.kd.trans hk) (M.hB _ (by simp)) M.hA (PJ M.sA _ _) s!"" s!"" (fun k jH g1 g2=>?_))))
 dsimp only
 have aS:∀y∈a.toList.drop (ia+k),LeK κ b[ib] y:=fun y hy=>by
  obtain⟨j,hj,aT,rfl⟩:=EL hy
  have:=g2 (j-ia) s!"" s!"" s!""
  have e:ia+(j-ia)=j:=by lia
  simp only[e]at this
  exact qp_ this
 by_cases cY:k > 0
 ·rw[if_pos cY]
  have ee:=hM.extA M.sA (k:=k) s!"" (fun j hj cg y hy=>LeK.trans (g1 j cg hj) (Lr M.sB h3 y hy))
  by_cases hq:ia+k+1=a.size
  ·rw[if_pos (by simpa using hq)]
   exact jH_ (hd _ _ _ hG rfl (M.last ee hq))
  ·rw[if_neg (by simpa using hq)]
   by_cases ed:ia+k=a.size
   ·rw[if_pos (by simpa using ed)]
    exact jH_ (hd _ _ _ hG rfl (M.done ee (.inl s!"")))
   ·rw[if_neg (by simpa using ed)]
    exact EH_ hO M (hG.kd.trans hk) ee s!"" h3 s!"" aS (fun d=>h d _ hG) (fun d x=>hd d x _ hG)
 ·rw[if_neg cY]
  have e:k=0:=by lia
  subst e
  exact EH_ hO M (hG.kd.trans hk) hM h2 h3 h4 aS (fun d=>h d _ hG) (fun d x=>hd d x _ hG)
theorem Fp_ (hO:LtOk kd κ a₀ prog w A E s)(M:MP a₀ κ a b){st:SortSt}(hk:kindOf st=kd)   (hJ:MJ κ a b c.2.1 c.2.2.1 c.2.2.2.1 p)
  (h:∀(d:G7) ah,SG st ah->d.1=none->MJ κ a b d.2.1 d.2.2.1 d.2.2.2.1 p->Q (.yield d) ah/\Q (.done d) ah) (hd:∀(d:G7) x ah,SG st ah->d.1=some x->Mgd (LeK κ) a.toList b.toList x.toList->Q (.done d) ah):
  wpS (model prog w) A E s (P2 a b c) Q st:=by
 unfold P2
 split
 ·exact EI_ hO M hk hJ h hd
 ·exact EI_ hO M hk hJ h hd
theorem Fq_ (hO:LtOk kd κ a₀ prog w A E s)(M:MP a₀ κ a b){st:SortSt}(hk:kindOf st=kd)   (hJ:MJ κ a b c.2.1 c.2.2.1 c.2.2.2.1 p)
  (h:∀(d:G5) ah,SG st ah->d.1=none->MJ κ a b d.2.1 d.2.2.1 d.2.2.2.1 (p+1)->Q (.yield d) ah) (hd:∀(d:G5) x ah,SG st ah->d.1=some x->Mgd (LeK κ) a.toList b.toList x.toList->Q (.done d) ah):
  wpS (model prog w) A E s (PO a b c) Q st:=by
 have cj:1<=a.size+b.size:=by have:=M.ha;lia
 unfold PO
 refine jy_ (xV_ (qF_ (I:=fun x d ah=>ah=st/\d.1=none/\MJ κ a b d.2.1 d.2.2.1 d.2.2.2.1 (p+x))
   (Q:=fun d ah=>ah=st/\((d.1=none/\MJ κ a b d.2.1 d.2.2.1 d.2.2.2.1 (p+1)) \/ ∃x,d.1=some x/\Mgd (LeK κ) a.toList b.toList x.toList)) ?step ?fin ⟨rfl,rfl,hJ⟩) ?post)
 case step=>
  rintro x d ah _ hx ⟨rfl,h1,h2⟩
  refine Fo_ hO M hk h1 h2 (fun d' g1 g2=>⟨⟨rfl,g1,g2⟩,rfl,.inl ⟨g1,g2.1,g2.2.1,g2.2.2.1,?_⟩⟩) (fun d' x g1 g2=>⟨rfl,.inr ⟨x,g1,g2⟩⟩)
  have:=g2.2.2.2;lia
 case fin=>
  rintro d ah ⟨rfl,h1,h2⟩
  refine⟨rfl,.inl ⟨h1,h2.1,h2.2.1,h2.2.2.1,?_⟩⟩
  have:=h2.2.2.2;lia
 case post=>
  rintro d ah ⟨rfl,hh⟩
  rcases hh with ⟨h1,h2⟩|⟨x,h1,h2⟩
  ·rw[h1]
   dsimp only
   refine jy_ (Jy ?_)
   refine jy_ (xV_ (qF_ (I:=fun x d aQ=>SG ah aQ/\d.1=none/\MJ κ a b d.2.1 d.2.2.1 d.2.2.2.1 (p+1))
    (Q:=fun d aQ=>SG ah aQ/\((d.1=none/\MJ κ a b d.2.1 d.2.2.1 d.2.2.2.1 (p+1)) \/ ∃x,d.1=some x/\Mgd (LeK κ) a.toList b.toList x.toList)) ?step2 ?fin2 ⟨SG.refl _,rfl,h2⟩) ?post2)
   case step2=>
    rintro x e aQ _ hx ⟨g0,g1,g2⟩
    exact Fp_ hO M (g0.kd.trans hk) g2 (fun d' cV k0 k1 k2=>⟨⟨g0.trans k0,k1,k2⟩,g0.trans k0,.inl ⟨k1,k2⟩⟩) (fun d' x cV k0 k1 k2=>⟨g0.trans k0,.inr ⟨x,k1,k2⟩⟩)
   case fin2=>
    rintro e aQ ⟨g0,g1,g2⟩
    exact⟨g0,.inl ⟨g1,g2⟩⟩
   case post2=>
    rintro e aQ ⟨g0,hh⟩
    rcases hh with ⟨g1,g2⟩|⟨x,g1,g2⟩
    ·rw[g1]
     dsimp only
     refine jy_ (PL (jH_ ?_))
     exact h (none,e.2.1,e.2.2.1,e.2.2.2.1,e.2.2.2.2.1+1) _ (g0.set _) rfl g2
    ·rw[g1]
     dsimp only
     exact jH_ (hd _ x _ g0 rfl g2)
  ·rw[h1]
   dsimp only
   exact jH_ (hd _ x _ (SG.refl _) rfl h2)
theorem Wa {st:SortSt}  (hO:LtOk kd κ a₀ prog w A E s)(M:MP a₀ κ a b)(hk:kindOf st=kd)
  (h:∀r ah,SG st ah->Mgd (LeK κ) a.toList b.toList r.toList->Q r ah):wpS (model prog w) A E s (Lq a b) Q st:=by
 have ha:=M.ha
 have hb:=M.hb
 rw[RA]
 refine jy_ (Jy (jy_ (B6 hb ?_)))
 have hM:MI (LeK κ) a.toList b.toList (#[b[0]]:Array Keyed).toList 0 1:=MI.pushB (out := #[]) (MI.start _ _) M.sB hb (by simpa using M.hf)
 by_cases h1:1=b.size
 ·rw[if_pos (by simpa using h1)]
  exact jH_ (h _ _ (SG.refl _) (M.done hM (.inr s!"")))
 ·rw[if_neg (by simpa using h1)]
  by_cases h2:0+1=a.size
  ·rw[if_pos (by simpa using h2)]
   exact jH_ (h _ _ (SG.refl _) (M.last hM h2))
  ·rw[if_neg (by simpa using h2)]
   refine jy_ (wpS_get ?_)
   refine jy_ (xV_ (qF_ (I:=fun x c ah=>SG st ah/\c.1=none/\MJ κ a b c.2.1 c.2.2.1 c.2.2.2.1 (1+x))
    (Q:=fun c ah=>SG st ah/\∃x,c.1=some x/\Mgd (LeK κ) a.toList b.toList x.toList) ?step ?fin ⟨SG.refl _,rfl,show MJ κ a b #[b[0]] 0 1 (1+0) from ⟨hM,by lia,by lia,by lia⟩⟩) ?post)
   case step=>
    rintro x c ah _ hx ⟨g0,g1,g2⟩
    exact Fq_ hO M (g0.kd.trans hk) g2 (fun d aM k0 k1 k2=>⟨g0.trans k0,k1,k2⟩) (fun d x aM k0 k1 k2=>⟨g0.trans k0,x,k1,k2⟩)
   case fin=>
    rintro c ah ⟨g0,g1,g2⟩
    have:=g2.2.1;have:=g2.2.2.1;have:=g2.2.2.2
    lia
   case post=>
    rintro c ah ⟨g0,x,g1,g2⟩
    rw[g1]
    dsimp only
    exact jH_ (h x ah g0 g2)
end
end
end aK
namespace aK
open PySem PyProof.Rows
noncomputable def Ls:Array Keyed->Array Keyed->StateT SortSt Sem (Array Keyed):=sortPriv% PySem.Builtin.mergeHi
noncomputable def doneH (a b out:Array Keyed)(na nb:Nat):Array Keyed:=a.extract 0 na++b.extract 0 nb++out.reverse
noncomputable def firstB (a b out:Array Keyed)(na nb:Nat):Array Keyed:=b.extract 0 nb++a.extract 0 na++out.reverse
theorem Ti (a b:Array Keyed):Ls a b=(do
 rule "list.sort.merge-hi"
 let mut na:=a.size-1
 let mut nb:=b.size
 let mut out:Array Keyed := #[<-elem' a na]
 if na==0 then return doneH a b out na nb
 if nb==1 then return firstB a b out na nb
 let mut minGallop:=gallopOf ( <- get)
 for _ in [0:a.size+b.size] do
  let mut acount:=0
  let mut bcount:=0
  for _ in [0:a.size+b.size] do
   let some fC <- lt' ( <- elem' b (nb-1)) ( <- elem' a (na-1))|return doneH a b out na nb
   if fC then
    na:=na-1;out:=out.push ( <- elem' a na);acount:=acount+1;bcount:=0
    if na==0 then return doneH a b out na nb
    if acount >= minGallop then break
   else
    nb:=nb-1;out:=out.push ( <- elem' b nb);bcount:=bcount+1;acount:=0
    if nb==1 then return firstB a b out na nb
    if bcount >= minGallop then break
  rule "list.sort.gallop"
  minGallop:=minGallop+1
  for _ in [0:a.size+b.size] do
   if minGallop > 1 then minGallop:=minGallop-1
   Bf minGallop
   let some dN <- DA false ( <- elem' b (nb-1)) a 0 na (na-1)|return doneH a b out na nb
   let k:=na-dN
   acount:=k
   if k > 0 then
    out:=out++(a.extract dN na).reverse;na:=dN
    if na==0 then return doneH a b out na nb
   nb:=nb-1;out:=out.push ( <- elem' b nb)
   if nb==1 then return firstB a b out na nb
   let some dN <- DA true ( <- elem' a (na-1)) b 0 nb (nb-1)|return doneH a b out na nb
   let k:=nb-dN
   bcount:=k
   if k > 0 then
    out:=out++(b.extract dN nb).reverse;nb:=dN
    if nb==1 then return firstB a b out na nb
    if nb==0 then return doneH a b out na nb
   na:=na-1;out:=out.push ( <- elem' a na)
   if na==0 then return doneH a b out na nb
   if acount<7&&bcount<7 then break
  minGallop:=minGallop+1
  Bf minGallop
 unsupported "internal:list.sort.merge-bound"):=rfl
noncomputable abbrev H5:=Option (Array Keyed)×Nat×Nat×Array Keyed×Nat
noncomputable abbrev H6:=Option (Array Keyed)×Nat×Nat×Array Keyed×Nat×Nat
noncomputable abbrev H7:=Option (Array Keyed)×Nat×Nat×Array Keyed×Nat×Nat×Nat
noncomputable def HC (a b out:Array Keyed)(na nb mg ac bc:Nat):StateT SortSt Sem (ForInStep H7):=do
 let y <- elem' a (na-1)
 if (na-1==0)=true then pure (.done (some (doneH a b (out.push y) (na-1) nb),na-1,nb,out.push y,mg,ac,bc))
 else if (decide (ac<7)&&decide (bc<7))=true then pure (.done (none,na-1,nb,out.push y,mg,ac,bc)) else pure (.yield (none,na-1,nb,out.push y,mg,ac,bc))
noncomputable def HB (a b out:Array Keyed)(na nb mg ac bc:Nat):StateT SortSt Sem (ForInStep H7):=do
 let y <- elem' b (nb-1)
 if (nb-1==1)=true then pure (.done (some (firstB a b (out.push y) na (nb-1)),na,nb-1,out.push y,mg,ac,bc))
 else do
  let z <- elem' a (na-1)
  let x <- DA true z b 0 (nb-1) (nb-1-1)
  match x with
  |some t=>if nb-1-t > 0 then (if (t==1)=true then pure (.done (some (firstB a b (out.push y++(b.extract t (nb-1)).reverse) na t),na,t,out.push y++(b.extract t (nb-1)).reverse,mg,ac,nb-1-t)) else if (t==0)=true then pure (.done (some (doneH a b (out.push y++(b.extract t (nb-1)).reverse) na t),na,t,out.push y++(b.extract t (nb-1)).reverse,mg,ac,nb-1-t)) else HC a b (out.push y++(b.extract t (nb-1)).reverse) na t mg ac (nb-1-t)) else HC a b (out.push y) na (nb-1) mg ac (nb-1-t)
  |_=>pure (.done (some (doneH a b (out.push y) na (nb-1)),na,nb-1,out.push y,mg,ac,bc))
noncomputable def HA (a b out:Array Keyed)(na nb mg ac bc:Nat):StateT SortSt Sem (ForInStep H7):=do
 Bf mg
 let y <- elem' b (nb-1)
 let x <- DA false y a 0 na (na-1)
 match x with
 |some t=>if na-t > 0 then (if (t==0)=true then pure (.done (some (doneH a b (out++(a.extract t na).reverse) t nb),t,nb,out++(a.extract t na).reverse,mg,na-t,bc)) else HB a b (out++(a.extract t na).reverse) t nb mg (na-t) bc) else HB a b out na nb mg (na-t) bc
 |_=>pure (.done (some (doneH a b out na nb),na,nb,out,mg,ac,bc))
noncomputable def H1 (a b:Array Keyed)(mg:Nat)(c:H6):StateT SortSt Sem (ForInStep H6):=do
 let y <- elem' b (c.2.2.1-1)
 let z <- elem' a (c.2.1-1)
 let x <- lt' y z
 match x with
 |some fC=>
  if fC=true then
   elem' a (c.2.1-1) >>= fun y=>
   if (c.2.1-1==0)=true then pure (.done (some (doneH a b (c.2.2.2.1.push y) (c.2.1-1) c.2.2.1),c.2.1-1,c.2.2.1,c.2.2.2.1.push y,c.2.2.2.2.1+1,0))
   else if c.2.2.2.2.1+1 >= mg then pure (.done (none,c.2.1-1,c.2.2.1,c.2.2.2.1.push y,c.2.2.2.2.1+1,0)) else pure (.yield (none,c.2.1-1,c.2.2.1,c.2.2.2.1.push y,c.2.2.2.2.1+1,0))
  else
   elem' b (c.2.2.1-1) >>= fun y=>
   if (c.2.2.1-1==1)=true then pure (.done (some (firstB a b (c.2.2.2.1.push y) c.2.1 (c.2.2.1-1)),c.2.1,c.2.2.1-1,c.2.2.2.1.push y,0,c.2.2.2.2.2+1))
   else if c.2.2.2.2.2+1 >= mg then pure (.done (none,c.2.1,c.2.2.1-1,c.2.2.2.1.push y,0,c.2.2.2.2.2+1)) else pure (.yield (none,c.2.1,c.2.2.1-1,c.2.2.2.1.push y,0,c.2.2.2.2.2+1))
 |_=>pure (.done (some (doneH a b c.2.2.2.1 c.2.1 c.2.2.1),c.2.1,c.2.2.1,c.2.2.2.1,c.2.2.2.2.1,c.2.2.2.2.2))
noncomputable def H2 (a b:Array Keyed)(c:H7):StateT SortSt Sem (ForInStep H7):=if c.2.2.2.2.1 > 1 then HA a b c.2.2.2.1 c.2.1 c.2.2.1 (c.2.2.2.2.1-1) c.2.2.2.2.2.1 c.2.2.2.2.2.2 else HA a b c.2.2.2.1 c.2.1 c.2.2.1 c.2.2.2.2.1 c.2.2.2.2.2.1 c.2.2.2.2.2.2
noncomputable def HO (a b:Array Keyed)(c:H5):StateT SortSt Sem (ForInStep H5):=do
 let d <- forIn [0:a.size+b.size] ((none,c.2.1,c.2.2.1,c.2.2.2.1,0,0):H6) fun _ d=>H1 a b c.2.2.2.2 d
 match d.1 with
 |some r=>pure (.done (some r,d.2.1,d.2.2.1,d.2.2.2.1,c.2.2.2.2))
 |none=>do
  liftM (rule "list.sort.gallop")
  let e <- forIn [0:a.size+b.size] ((none,d.2.1,d.2.2.1,d.2.2.2.1,c.2.2.2.2+1,d.2.2.2.2.1,d.2.2.2.2.2):H7) fun _ e=>H2 a b e
  match e.1 with
  |some r=>pure (.done (some r,e.2.1,e.2.2.1,e.2.2.2.1,e.2.2.2.2.1))
  |none=>do
   Bf (e.2.2.2.2.1+1)
   pure (.yield (none,e.2.1,e.2.2.1,e.2.2.2.1,e.2.2.2.2.1+1))
theorem RC (a b:Array Keyed):Ls a b=(do
 liftM (rule "list.sort.merge-hi")
 let y <- elem' a (a.size-1)
 if (a.size-1==0)=true then pure (doneH a b #[y] (a.size-1) b.size)
 else if (b.size==1)=true then pure (firstB a b #[y] (a.size-1) b.size)
 else do
  let g <- get
  let c <- forIn [0:a.size+b.size] ((none,a.size-1,b.size,#[y],gallopOf g):H5) fun _ c=>HO a b c
  match c.1 with
  |some r=>pure r
  |none=>unsupported "internal:list.sort.merge-bound"):=by
 rw[Ti]
 refine jD_ (bind _) (funext fun _=>jD_ (bind _) (funext fun y=>?_))
 refine jD_ (ite _ _) (jD_ (ite _ _) (jD_ (bind _) (funext fun g=>?_)))
 refine congr (jD_ bind (jD_ (forIn _ _) (funext fun _=>funext fun c=>?_))) (funext fun c=>?_)
 ·unfold HO
  dsimp only
  refine congr (jD_ bind (jD_ (forIn _ _) (funext fun _=>funext fun d=>?_))) (funext fun d=>?_)
  ·unfold H1
   rfl
  ·cases d.1 with
   |some r=>rfl
   |none=>
    dsimp only
    refine jD_ (bind _) (funext fun _=>congr (jD_ bind (jD_ (forIn _ _) (funext fun _=>funext fun e=>?_))) (funext fun e=>?_))
    ·unfold H2 HA HB HC
     rfl
    ·cases e.1 with
     |some r=>rfl
     |none=>rfl
 ·cases c.1 with
  |some r=>rfl
  |none=>rfl
section
variable {α:Type} {R:α->α->Prop} {A B:List α}
theorem LW (A:List α)  (h:n<=A.length):A.reverse.drop (A.length-n)=(A.take n).reverse:=by
 rw[List.drop_reverse,show A.length-(A.length-n)=n by lia]
theorem YF (A:List α)  (h:n<=A.length)(ht:t<=n):(A.reverse.drop (A.length-n)).take (n-t)=((A.take n).drop t).reverse:=by
 rw[LW A h,List.take_reverse,jB_,show min n A.length-(n-t)=t by lia]
theorem Mgd.rev  (h:Mgd (fun x y=>R y x) B.reverse A.reverse r.reverse):Mgd R A B r:=by
 refine⟨?_,q9_.mp h.2⟩
 have:=h.1
 rw[<-q4_]at this
 exact ((List.reverse_perm r).symm.trans this).trans (List.reverse_perm _)
end
section
variable {prog:Program} {w:World} {A:Around} {E:Value->Shared->Prop} {s:Shared} {a₀:Array Keyed} {κ:KeyKind} {kd:SortKind} {a b out:Array Keyed} {na nb:Nat}
structure MH (κ:KeyKind)(a b out:Array Keyed)(na nb:Nat):Prop where
 ha:na<=a.size
 hb:nb<=b.size
 mi:MI (fun x y=>LeK κ y x) a.toList.reverse b.toList.reverse out.toList (a.toList.length-na) (b.toList.length-nb)
theorem MH.swap (h:MH κ a b out na nb):MH κ b a out nb na:=⟨h.hb,h.ha,h.mi.swap⟩
theorem YG   (h:x∈(a.toList.take na).drop t):∃j,∃hj:j<a.size,t<=j/\j<na/\x=a[j]:=by
 obtain⟨k,hk,e⟩:=xY_.mp h
 rw[zW_,List.getElem_take]at e
 rw[xa_,jB_]at hk
 exact⟨t+k,by simp at hk;lia,by lia,by lia,by rw[<-e];simp⟩
theorem Vc  (h:x∈a.toList.take na):∃j,∃hj:j<a.size,j<na/\x=a[j]:=by
 obtain⟨j,hj,_,h2,e⟩:=YG (t:=0) (by simpa using h)
 exact⟨j,hj,h2,e⟩
theorem MH.extA (h:MH κ a b out na nb)(sA:a.toList.Pairwise (LeK κ))  (ht:t<=na)(hx:∀j (hj:j<a.size),t<=j->j<na->∀y∈b.toList.take nb,LeK κ y a[j]):MH κ a b (out++(a.extract t na).reverse) t nb:=by
 have hna:=h.ha
 have hl:a.toList.length=a.size:=j3_
 have:=h.mi.ta (q9_.mpr sA) (k:=na-t) (by rw[xI_];lia) (by
  rw[YF _ s!"" ht,LW _ (by have:=h.hb;simpa using this)]
  intro x d6 y hy
  obtain⟨j,hj,h1,h2,rfl⟩:=YG (q2_.mp d6)
  exact hx j hj h1 h2 y (q2_.mp hy))
 rw[YF _ s!"" ht,show a.toList.length-na+(na-t)=a.toList.length-t by lia]at this
 refine⟨by lia,h.hb,?_⟩
 rw[qQ_,xZ_,Hj,show (List.drop t a.toList).take (na-t)=(a.toList.take na).drop t by rw[List.drop_take]]
 exact this
theorem MH.extB (h:MH κ a b out na nb)(sB:b.toList.Pairwise (LeK κ))  (ht:t<=nb)(hx:∀j (hj:j<b.size),t<=j->j<nb->∀y∈a.toList.take na,LeK κ y b[j]):MH κ a b (out++(b.extract t nb).reverse) na t:=(h.swap.extA sB ht hx).swap
theorem MH.pushA (h:MH κ a b out na nb)(sA:a.toList.Pairwise (LeK κ))(h1:1<=na)(hi:na-1<a.size)(hx:∀y∈b.toList.take nb,LeK κ y a[na-1]):MH κ a b (out.push a[na-1]) (na-1) nb:=by
 have hna:=h.ha
 have:=h.extA sA (t:=na-1) s!"" (fun j hj g1 g2 y hy=>by (have e:j=na-1:=by lia);subst e;exact hx y hy)
 have e:(a.extract (na-1) na).reverse = #[a[na-1]]:=by
  apply Array.ext'
  rw[xZ_,Hj,show na-(na-1)=1 by lia,CW_ hi];rfl
 rw[e]at this
 simpa using this
theorem MH.pushB (h:MH κ a b out na nb)(sB:b.toList.Pairwise (LeK κ))(h1:1<=nb)(hi:nb-1<b.size)(hx:∀y∈a.toList.take na,LeK κ y b[nb-1]):MH κ a b (out.push b[nb-1]) na (nb-1):=(h.swap.pushA sB h1 hi hx).swap
theorem EJ_ (a:Array Keyed)(n:Nat):(a.extract 0 n).toList=a.toList.take n:=by rw[Hj];simp
theorem MP.doneH (M:MP a₀ κ a b)(h:MH κ a b out na nb)(he:na=0\/nb=0):Mgd (LeK κ) a.toList b.toList (doneH a b out na nb).toList:=by
 apply Mgd.rev
 have hA:=h.ha
 have hB:=h.hb
 have:=h.mi.swap.done (q9_.mpr M.sB) (q9_.mpr M.sA) (by simp only[xI_];simp only[j3_];lia)
 rw[LW _ (by simpa using hB),LW _ (by simpa using hA)]at this
 have e:(aK.doneH a b out na nb).toList.reverse=out.toList++(b.toList.take nb).reverse++(a.toList.take na).reverse:=by
  unfold aK.doneH
  simp only[qQ_,EJ_,xZ_,q4_,qZ_,qh_]
 rw[e];exact this
theorem MP.firstB (M:MP a₀ κ a b)(h:MH κ a b out na nb)(he:nb=1):Mgd (LeK κ) a.toList b.toList (firstB a b out na nb).toList:=by
 apply Mgd.rev
 have hA:=h.ha
 have hB:=h.hb
 have:=h.mi.swap.last (q9_.mpr M.sB) (q9_.mpr M.sA) (by
  rw[LW _ (by simpa using hB)]
  intro x hx y hy
  obtain⟨j,hj,h2,rfl⟩:=Vc (q2_.mp hy)
  have e:j=0:=by lia
  subst e
  exact M.hf x (q2_.mp hx))
 rw[LW _ (by simpa using hA),LW _ (by simpa using hB)]at this
 have e:(aK.firstB a b out na nb).toList.reverse=out.toList++(a.toList.take na).reverse++(b.toList.take nb).reverse:=by
  unfold aK.firstB
  simp only[qQ_,EJ_,xZ_,q4_,qZ_,qh_]
 rw[e];exact this
theorem Lu (sA:a.toList.Pairwise (LeK κ))(hi:na-1<a.size):∀y∈a.toList.take na,LeK κ y a[na-1]:=fun y hy=>by
 obtain⟨j,hj,h2,rfl⟩:=Vc hy
 exact YE sA s!"" hi
noncomputable def MHJ (κ:KeyKind)(a b out:Array Keyed)(na nb p:Nat):Prop:=MH κ a b out na nb/\1<=na/\2<=nb/\na+nb+p<=a.size+b.size
theorem Fr_ (hO:LtOk kd κ a₀ prog w A E s)(M:MP a₀ κ a b){st:SortSt}(hk:kindOf st=kd)   (h1:c.1=none)(hJ:MHJ κ a b c.2.2.2.1 c.2.1 c.2.2.1 p)
  (h:∀d:H6,d.1=none->MHJ κ a b d.2.2.2.1 d.2.1 d.2.2.1 (p+1)->Q (.yield d) st/\Q (.done d) st) (hd:∀(d:H6) x,d.1=some x->Mgd (LeK κ) a.toList b.toList x.toList->Q (.done d) st):
  wpS (model prog w) A E s (H1 a b mg c) Q st:=by
 obtain⟨c0,na,nb,out,ac,bc⟩:=c
 obtain⟨hM,h2,h3,h4⟩:=hJ
 dsimp only at *
 have hA:=hM.ha
 have hB:=hM.hb
 unfold H1
 dsimp only
 refine jy_ (B6 (show nb-1<b.size by lia) (jy_ (B6 (show na-1<a.size by lia) (jy_ (hO _ _ _ _ (M.hB _ (by simp)) (M.hA _ (by simp)) hk ?_)))))
 cases e:κ.blt (KE κ b[nb-1]) (KE κ a[na-1]) with
 |true=>
  dsimp only
  rw[if_pos rfl]
  have bB:=hM.pushA M.sA h2 s!"" (fun y hy=>LeK.trans (Lu M.sB s!"" y hy) (qp_ e))
  refine jy_ (B6 (show na-1<a.size by lia) ?_)
  by_cases hq:na-1=0
  ·rw[if_pos (by simpa using hq)]
   exact jH_ (hd _ _ rfl (M.doneH bB (.inl hq)))
  ·rw[if_neg (by simpa using hq)]
   have hh:=h (none,na-1,nb,out.push a[na-1],ac+1,0) rfl (show MHJ κ a b (out.push a[na-1]) (na-1) nb (p+1) from ⟨bB,by lia,h3,by lia⟩)
   split
   ·exact jH_ hh.2
   ·exact jH_ hh.1
 |false=>
  dsimp only
  rw[if_neg (by simp)]
  have bB:=hM.pushB M.sB s!"" s!"" (fun y hy=>LeK.trans (Lu M.sA s!"" y hy) e)
  refine jy_ (B6 (show nb-1<b.size by lia) ?_)
  by_cases hq:nb-1=1
  ·rw[if_pos (by simpa using hq)]
   exact jH_ (hd _ _ rfl (M.firstB bB hq))
  ·rw[if_neg (by simpa using hq)]
   have hh:=h (none,na,nb-1,out.push b[nb-1],0,bc+1) rfl (show MHJ κ a b (out.push b[nb-1]) na (nb-1) (p+1) from ⟨bB,h2,by lia,by lia⟩)
   split
   ·exact jH_ hh.2
   ·exact jH_ hh.1
theorem EK_ (M:MP a₀ κ a b){st:SortSt}  (hM:MH κ a b out na nb)(h2:1<=na)(h3:2<=nb)(h4:na+nb+p<=a.size+b.size)(hi:na-1<a.size)(aS:∀y∈b.toList.take nb,LeK κ y a[na-1])
  (h:∀d:H7,d.1=none->MHJ κ a b d.2.2.2.1 d.2.1 d.2.2.1 p->Q (.yield d) st/\Q (.done d) st) (hd:∀(d:H7) x,d.1=some x->Mgd (LeK κ) a.toList b.toList x.toList->Q (.done d) st):
  wpS (model prog w) A E s (HC a b out na nb mg ac bc) Q st:=by
 unfold HC
 refine jy_ (B6 hi ?_)
 have bB:=hM.pushA M.sA h2 hi aS
 by_cases hq:na-1=0
 ·rw[if_pos (by simpa using hq)]
  exact jH_ (hd _ _ rfl (M.doneH bB (.inl hq)))
 ·rw[if_neg (by simpa using hq)]
  have hh:=h (none,na-1,nb,out.push a[na-1],mg,ac,bc) rfl (show MHJ κ a b (out.push a[na-1]) (na-1) nb p from ⟨bB,by lia,h3,by lia⟩)
  split
  ·exact jH_ hh.2
  ·exact jH_ hh.1
theorem EL_ (hO:LtOk kd κ a₀ prog w A E s)(M:MP a₀ κ a b){st:SortSt}(hk:kindOf st=kd)  (hM:MH κ a b out na nb)(h2:1<=na)(h3:2<=nb)(h4:na+nb+p<=a.size+b.size)(hi:nb-1<b.size)(aS:∀y∈a.toList.take na,LeK κ y b[nb-1])
  (h:∀d:H7,d.1=none->MHJ κ a b d.2.2.2.1 d.2.1 d.2.2.1 p->Q (.yield d) st/\Q (.done d) st) (hd:∀(d:H7) x,d.1=some x->Mgd (LeK κ) a.toList b.toList x.toList->Q (.done d) st):
  wpS (model prog w) A E s (HB a b out na nb mg ac bc) Q st:=by
 unfold HB
 have hA:=hM.ha
 have hB:=hM.hb
 refine jy_ (B6 hi ?_)
 have bB:=hM.pushB M.sB s!"" hi aS
 by_cases hq:nb-1=1
 ·rw[if_pos (by simpa using hq)]
  exact jH_ (hd _ _ rfl (M.firstB bB hq))
 ·rw[if_neg (by simpa using hq)]
  refine jy_ (B6 (show na-1<a.size by lia) (jy_ (PH hO hk (M.hA _ (by simp)) M.hB (PJ M.sB _ _) s!"" s!"" (fun t kI g1 g2=>?_))))
  dsimp only
  have fB:∀y∈b.toList.take t,LeK κ y a[na-1]:=fun y hy=>by
   obtain⟨j,hj,aT,rfl⟩:=Vc hy
   have:=g1 j s!"" aT
   simp only[zr_]at this
   exact qp_ this
  by_cases cY:nb-1-t > 0
  ·rw[if_pos cY]
   have ee:=bB.extB M.sB (t:=t) s!"" (fun j hj m8 m9 y hy=>by
    have:=g2 j s!"" m8 m9
    simp only[zr_]at this
    exact LeK.trans (Lu M.sA s!"" y hy) this)
   by_cases ed:t=1
   ·rw[if_pos (by simpa using ed)]
    exact jH_ (hd _ _ rfl (M.firstB ee ed))
   ·rw[if_neg (by simpa using ed)]
    by_cases nc:t=0
    ·rw[if_pos (by simpa using nc)]
     exact jH_ (hd _ _ rfl (M.doneH ee (.inr nc)))
    ·rw[if_neg (by simpa using nc)]
     exact EK_ M ee h2 s!"" s!"" s!"" fB h hd
  ·rw[if_neg cY]
   have e:t=nb-1:=by lia
   subst e
   exact EK_ M bB h2 s!"" s!"" s!"" fB h hd
theorem EM_ (hO:LtOk kd κ a₀ prog w A E s)(M:MP a₀ κ a b){st:SortSt}(hk:kindOf st=kd)  (hJ:MHJ κ a b out na nb p)
  (h:∀(d:H7) ah,SG st ah->d.1=none->MHJ κ a b d.2.2.2.1 d.2.1 d.2.2.1 p->Q (.yield d) ah/\Q (.done d) ah) (hd:∀(d:H7) x ah,SG st ah->d.1=some x->Mgd (LeK κ) a.toList b.toList x.toList->Q (.done d) ah):
  wpS (model prog w) A E s (HA a b out na nb mg ac bc) Q st:=by
 obtain⟨hM,h2,h3,h4⟩:=hJ
 have hA:=hM.ha
 have hB:=hM.hb
 unfold HA
 refine jy_ (PL ?_)
 have hG:SG st (Gv st mg):=(SG.refl st).set mg
 refine jy_ (B6 (show nb-1<b.size by lia) (jy_ (PD hO (hG.kd.trans hk) (M.hB _ (by simp)) M.hA (PJ M.sA _ _) s!"" s!"" (fun t kI g1 g2=>?_))))
 dsimp only
 have aS:∀y∈a.toList.take t,LeK κ y b[nb-1]:=fun y hy=>by
  obtain⟨j,hj,aT,rfl⟩:=Vc hy
  have:=g1 j s!"" aT
  simp only[zr_]at this
  exact this
 by_cases cY:na-t > 0
 ·rw[if_pos cY]
  have ee:=hM.extA M.sA (t:=t) s!"" (fun j hj m8 m9 y hy=>by
   have:=g2 j s!"" m8 m9
   simp only[zr_]at this
   exact LeK.trans (Lu M.sB s!"" y hy) (qp_ this))
  by_cases hq:t=0
  ·rw[if_pos (by simpa using hq)]
   exact jH_ (hd _ _ _ hG rfl (M.doneH ee (.inl hq)))
  ·rw[if_neg (by simpa using hq)]
   exact EL_ hO M (hG.kd.trans hk) ee s!"" h3 s!"" s!"" aS (fun d=>h d _ hG) (fun d x=>hd d x _ hG)
 ·rw[if_neg cY]
  have e:t=na:=by lia
  subst e
  exact EL_ hO M (hG.kd.trans hk) hM h2 h3 h4 s!"" aS (fun d=>h d _ hG) (fun d x=>hd d x _ hG)
theorem Fs_ (hO:LtOk kd κ a₀ prog w A E s)(M:MP a₀ κ a b){st:SortSt}(hk:kindOf st=kd)   (hJ:MHJ κ a b c.2.2.2.1 c.2.1 c.2.2.1 p)
  (h:∀(d:H7) ah,SG st ah->d.1=none->MHJ κ a b d.2.2.2.1 d.2.1 d.2.2.1 p->Q (.yield d) ah/\Q (.done d) ah) (hd:∀(d:H7) x ah,SG st ah->d.1=some x->Mgd (LeK κ) a.toList b.toList x.toList->Q (.done d) ah):
  wpS (model prog w) A E s (H2 a b c) Q st:=by
 unfold H2
 split
 ·exact EM_ hO M hk hJ h hd
 ·exact EM_ hO M hk hJ h hd
theorem Ft_ (hO:LtOk kd κ a₀ prog w A E s)(M:MP a₀ κ a b){st:SortSt}(hk:kindOf st=kd)   (hJ:MHJ κ a b c.2.2.2.1 c.2.1 c.2.2.1 p)
  (h:∀(d:H5) ah,SG st ah->d.1=none->MHJ κ a b d.2.2.2.1 d.2.1 d.2.2.1 (p+1)->Q (.yield d) ah) (hd:∀(d:H5) x ah,SG st ah->d.1=some x->Mgd (LeK κ) a.toList b.toList x.toList->Q (.done d) ah):
  wpS (model prog w) A E s (HO a b c) Q st:=by
 have cj:1<=a.size+b.size:=by have:=M.ha;lia
 unfold HO
 refine jy_ (xV_ (qF_ (I:=fun x d ah=>ah=st/\d.1=none/\MHJ κ a b d.2.2.2.1 d.2.1 d.2.2.1 (p+x))
   (Q:=fun d ah=>ah=st/\((d.1=none/\MHJ κ a b d.2.2.2.1 d.2.1 d.2.2.1 (p+1)) \/ ∃x,d.1=some x/\Mgd (LeK κ) a.toList b.toList x.toList)) ?step ?fin ⟨rfl,rfl,hJ⟩) ?post)
 case step=>
  rintro x d ah _ hx ⟨rfl,h1,h2⟩
  refine Fr_ hO M hk h1 h2 (fun d' g1 g2=>⟨⟨rfl,g1,g2⟩,rfl,.inl ⟨g1,g2.1,g2.2.1,g2.2.2.1,?_⟩⟩) (fun d' x g1 g2=>⟨rfl,.inr ⟨x,g1,g2⟩⟩)
  have:=g2.2.2.2;lia
 case fin=>
  rintro d ah ⟨rfl,h1,h2⟩
  refine⟨rfl,.inl ⟨h1,h2.1,h2.2.1,h2.2.2.1,?_⟩⟩
  have:=h2.2.2.2;lia
 case post=>
  rintro d ah ⟨rfl,hh⟩
  rcases hh with ⟨h1,h2⟩|⟨x,h1,h2⟩
  ·rw[h1]
   dsimp only
   refine jy_ (Jy ?_)
   refine jy_ (xV_ (qF_ (I:=fun x d aQ=>SG ah aQ/\d.1=none/\MHJ κ a b d.2.2.2.1 d.2.1 d.2.2.1 (p+1))
    (Q:=fun d aQ=>SG ah aQ/\((d.1=none/\MHJ κ a b d.2.2.2.1 d.2.1 d.2.2.1 (p+1)) \/ ∃x,d.1=some x/\Mgd (LeK κ) a.toList b.toList x.toList)) ?step2 ?fin2 ⟨SG.refl _,rfl,h2⟩) ?post2)
   case step2=>
    rintro x e aQ _ hx ⟨g0,g1,g2⟩
    exact Fs_ hO M (g0.kd.trans hk) g2 (fun d' cV k0 k1 k2=>⟨⟨g0.trans k0,k1,k2⟩,g0.trans k0,.inl ⟨k1,k2⟩⟩) (fun d' x cV k0 k1 k2=>⟨g0.trans k0,.inr ⟨x,k1,k2⟩⟩)
   case fin2=>
    rintro e aQ ⟨g0,g1,g2⟩
    exact⟨g0,.inl ⟨g1,g2⟩⟩
   case post2=>
    rintro e aQ ⟨g0,hh⟩
    rcases hh with ⟨g1,g2⟩|⟨x,g1,g2⟩
    ·rw[g1]
     dsimp only
     refine jy_ (PL (jH_ ?_))
     exact h (none,e.2.1,e.2.2.1,e.2.2.2.1,e.2.2.2.2.1+1) _ (g0.set _) rfl g2
    ·rw[g1]
     dsimp only
     exact jH_ (hd _ x _ g0 rfl g2)
  ·rw[h1]
   dsimp only
   exact jH_ (hd _ x _ (SG.refl _) rfl h2)
theorem Wb {st:SortSt}  (hO:LtOk kd κ a₀ prog w A E s)(M:MP a₀ κ a b)(hk:kindOf st=kd)
  (h:∀r ah,SG st ah->Mgd (LeK κ) a.toList b.toList r.toList->Q r ah):wpS (model prog w) A E s (Ls a b) Q st:=by
 have ha:=M.ha
 have hb:=M.hb
 rw[RC]
 refine jy_ (Jy (jy_ (B6 (show a.size-1<a.size by lia) ?_)))
 have hM0:MH κ a b #[] a.size b.size:=⟨jg_ _,jg_ _,by simpa using MI.start _ _⟩
 have hM:MH κ a b #[a[a.size-1]] (a.size-1) b.size:=hM0.pushA M.sA ha s!"" (fun y hy=>M.hl y (xf_ hy))
 by_cases h1:a.size-1=0
 ·rw[if_pos (by simpa using h1)]
  exact jH_ (h _ _ (SG.refl _) (M.doneH hM (.inl h1)))
 ·rw[if_neg (by simpa using h1)]
  by_cases h2:b.size=1
  ·rw[if_pos (by simpa using h2)]
   exact jH_ (h _ _ (SG.refl _) (M.firstB hM h2))
  ·rw[if_neg (by simpa using h2)]
   refine jy_ (wpS_get ?_)
   refine jy_ (xV_ (qF_ (I:=fun x c ah=>SG st ah/\c.1=none/\MHJ κ a b c.2.2.2.1 c.2.1 c.2.2.1 (1+x))
    (Q:=fun c ah=>SG st ah/\∃x,c.1=some x/\Mgd (LeK κ) a.toList b.toList x.toList) ?step ?fin ⟨SG.refl _,rfl,show MHJ κ a b #[a[a.size-1]] (a.size-1) b.size (1+0) from ⟨hM,by lia,by lia,by lia⟩⟩) ?post)
   case step=>
    rintro x c ah _ hx ⟨g0,g1,g2⟩
    exact Ft_ hO M (g0.kd.trans hk) g2 (fun d aM k0 k1 k2=>⟨g0.trans k0,k1,k2⟩) (fun d x aM k0 k1 k2=>⟨g0.trans k0,x,k1,k2⟩)
   case fin=>
    rintro c ah ⟨g0,g1,g2⟩
    have:=g2.2.1;have:=g2.2.2.1;have:=g2.2.2.2
    lia
   case post=>
    rintro c ah ⟨g0,x,g1,g2⟩
    rw[g1]
    dsimp only
    exact jH_ (h x ah g0 g2)
end
end aK
namespace aK
open PySem PyProof.Rows
section
variable {prog:Program} {w:World} {A:Around} {E:Value->Shared->Prop} {s:Shared} {a₀:Array Keyed} {κ:KeyKind} {kd:SortKind}
structure SQ (kd:SortKind)(a₀:Array Keyed)(lo hi:Nat)(st ah:SortSt):Prop where
 b:SB kd a₀ ah
 pe:pendingOf ah=pendingOf st
 out:Out lo hi (arrOf st) (arrOf ah)
theorem SQ.refl {lo hi:Nat}{st:SortSt}(h:SB kd a₀ st):SQ kd a₀ lo hi st st:=⟨h,rfl,Out.refl _ _ _⟩
theorem SQ.trans {lo hi:Nat}{st ah aQ:SortSt}(h:SQ kd a₀ lo hi st ah)(g:SQ kd a₀ lo hi ah aQ):SQ kd a₀ lo hi st aQ:=⟨g.b,g.pe.trans h.pe,h.out.trans g.out⟩
theorem SQ.mir {lo hi i j:Nat}{st ah:SortSt}(h:SQ kd a₀ lo hi st ah)(hj:j<=a₀.size)(h1:lo<=i)(h2:j<=hi):SQ kd a₀ lo hi st (setArr ah (mirror (arrOf ah) i j ((j-i) / 2))):=
 ⟨h.b.setArr (mirror_perm _ _ _ _),h.pe,h.out.trans (OE (by rw[h.b.size];exact hj) h1 h2)⟩
theorem SQ.bub {lo hi k l:Nat}{st ah:SortSt}(h:SQ kd a₀ lo hi st ah)(hk:k<a₀.size)(h1:lo<=l)(hl:l<=k)(h2:k<hi):SQ kd a₀ lo hi st (setArr ah (bubble (arrOf ah) k (k-l))):=
 ⟨h.b.setArr (bubble_perm _ _ _),h.pe,h.out.trans (V4 (by rw[h.b.size];exact hk) s!"" s!"" h2)⟩
theorem Vd {st bo:SortSt}{lo n ao:Nat}  (hO:LtOk kd κ a₀ prog w A E s)(hn:lo+ao<=a₀.size)(h1:1<=n)(eN:n<=ao)(hB:SQ kd a₀ lo (lo+ao) bo st)(hs:NI κ (arrOf st) lo (lo+n))
  (h:∀m ah,SQ kd a₀ lo (lo+ao) bo ah->1<=m->m<=ao->SO κ (arrOf ah) lo (lo+m)->Q (some m) ah):
  wpS (model prog w) A E s (Ry lo n ao) Q st:=CV_ hO hn h1 eN hB.b hs (fun m ah g1 g2 g3 g4 g5 g6=>h m ah (hB.trans ⟨g1,g2,g3⟩) g4 g5 g6)
noncomputable def ZU (lo n ao:Nat):StateT SortSt Sem DescSt:=
 forIn [n:ao] ((none,n,0):DescSt) fun _ c=>do
  let x <- ltAt' (lo+c.2.1) (lo+c.2.1-1)
  match x with
  |some cy=>
   if cy=true then
    if c.2.2 > 0 then do
     reverseSlice' (lo+c.2.1-(c.2.2+1)) (lo+c.2.1)
     pure (.yield (none,c.2.1+1,0))
    else pure (.yield (none,c.2.1+1,0))
   else do
    let x <- ltAt' (lo+c.2.1-1) (lo+c.2.1)
    match x with
    |some larger=>if larger=true then pure (.done (none,c.2.1,c.2.2)) else pure (.yield (none,c.2.1+1,c.2.2+1))
    |_=>pure (.done (some none,c.2.1,c.2.2))
  |_=>pure (.done (some none,c.2.1,c.2.2))
noncomputable def YH (lo n ao:Nat):StateT SortSt Sem (Option Nat):=do
 liftM (rule "list.sort.descending-run")
 let c <- ZU lo (n+1) ao
 match c.1 with
 |some r=>pure r
 |none=>
  if c.2.2 > 0 then do
   reverseSlice' (lo+c.2.1-(c.2.2+1)) (lo+c.2.1)
   Ry lo c.2.1 ao
  else Ry lo c.2.1 ao
theorem PM (lo ao:Nat):countRun' lo ao=(do
  let c <- ascL lo 1 ao
  match c.1 with
  |some r=>pure r
  |none=>
   if (c.2==ao)=true then pure (some c.2)
   else if c.2 > 1 then do
    let x <- ltAt' lo (lo+c.2-1)
    match x with
    |some rose=>if rose=true then pure (some c.2) else do
      reverseSlice' lo (lo+c.2)
      YH lo c.2 ao
    |_=>pure none
   else YH lo c.2 ao):=by
 have tl:∀n (f:AscSt->StateT SortSt Sem (Option Nat)),(∀r m,f (some r,m)=pure r)->(∀m,f (none,m)=pure (some m))->(reverseSlice' lo (lo+n) >>= fun _=>ascL lo n ao >>= f)=Ry lo n ao:=fun n f h1 h2=>by
  refine jD_ (bind _) (funext fun _=>jD_ (bind _) (funext fun c=>?_))
  rcases c with ⟨_|r,m⟩
  ·exact h2 m
  ·exact h1 r m
 have pl:∀n (f:DescSt->StateT SortSt Sem (Option Nat)),(∀r m q,f (some r,m,q)=pure r)->(∀m q,f (none,m,q)=if q > 0 then reverseSlice' (lo+m-(q+1)) (lo+m) >>= fun _=>Ry lo m ao else Ry lo m ao) ->
   (liftM (rule "list.sort.descending-run") >>= fun _=>ZU lo (n+1) ao >>= f)=YH lo n ao:=fun n f h1 h2=>by
  refine jD_ (bind _) (funext fun _=>jD_ (bind _) (funext fun c=>?_))
  rcases c with ⟨_|r,m,q⟩
  ·exact h2 m q
  ·exact h1 r m q
 rw[countRun'_eq]
 unfold ascL
 refine jD_ (bind _) (funext fun c=>?_)
 obtain⟨r,n⟩:=c
 cases r with
 |some r=>rfl
 |none=>
  dsimp only
  refine jD_ (ite _ _) ?_
  by_cases hn:n > 1
  ·rw[if_pos hn,if_pos hn]
   refine jD_ (bind _) (funext fun x=>?_)
   cases x with
   |none=>rfl
   |some rose=>
    dsimp only
    refine jD_ (ite _ _) (jD_ (bind _) (funext fun _=>pl n _ (fun _ _ _=>rfl) fun m q=>by
    dsimp only
    by_cases o:q > 0
    ·rw[if_pos o,if_pos o];exact jD_ (bind _) (funext fun _=>tl m _ (fun _ _=>rfl) fun _=>rfl)
    ·rw[if_neg o,if_neg o];exact tl m _ (fun _ _=>rfl) fun _=>rfl))
  ·rw[if_neg hn,if_neg hn]
   exact pl n _ (fun _ _ _=>rfl) fun m q=>by
    dsimp only
    by_cases o:q > 0
    ·rw[if_pos o,if_pos o];exact jD_ (bind _) (funext fun _=>tl m _ (fun _ _=>rfl) fun _=>rfl)
    ·rw[if_neg o,if_neg o];exact tl m _ (fun _ _=>rfl) fun _=>rfl
theorem CX_ {st bo:SortSt}{lo n ao:Nat}  (hO:LtOk kd κ a₀ prog w A E s)(hn:lo+ao<=a₀.size)(h1:1<=n)(eN:n<=ao)(hB:SQ kd a₀ lo (lo+ao) bo st)(hs:NI κ (arrOf st) lo (lo+n))
  (h:∀m dr ah,SQ kd a₀ lo (lo+ao) bo ah->n<=m->m<=ao->NI κ (arrOf ah) lo (lo+m)->dr+1<=m->(∀i,lo+m-(dr+1)<=i->i<lo+m->KK κ (arrOf ah) i=KK κ (arrOf ah) (lo+m-1))->Q (none,m,dr) ah):
  wpS (model prog w) A E s (ZU lo n ao) Q st:=by
 unfold ZU
 refine qF_ (I:=fun x c ah=>∃dr,c=(none,x,dr)/\SQ kd a₀ lo (lo+ao) bo ah/\NI κ (arrOf ah) lo (lo+x)/\dr+1<=x /\
   (∀i,lo+x-(dr+1)<=i->i<lo+x->KK κ (arrOf ah) i=KK κ (arrOf ah) (lo+x-1))) ?step ?fin ⟨0,rfl,hB,hs,by lia,fun i h1 h2=>by congr 1;lia⟩
 case fin=>
  rintro c ah ⟨dr,rfl,g1,g2,g3,g4⟩
  rw[show max n ao=ao by lia]at g2 g3 g4 ⊢
  exact h ao dr ah g1 eN (jg_ _) g2 g3 g4
 case step=>
  rintro x c ah hax hxn ⟨dr,rfl,hQ,hN,hq,he⟩
  dsimp only
  have hsz:lo+x<=(arrOf ah).size:=by rw[hQ.b.size];lia
  refine jy_ (LU hO hQ.b s!"" s!"" ?_)
  cases hless:κ.blt (KK κ (arrOf ah) (lo+x)) (KK κ (arrOf ah) (lo+x-1))
  case true=>
   simp only[xO_]
   have gr:∀xs:Array Keyed,(∀k,KK κ xs k=KK κ (arrOf ah) k)->NI κ xs lo (lo+(x+1)):=by
    intro xs hk i j hl aT hj
    rw[hk,hk]
    rcases qC_ j (lo+x) with jE|jE
    ·exact hN i j hl aT jE
    ·obtain rfl:j=lo+x:=by lia
     rcases qC_ i (lo+x) with hi' | hi'
     ·exact xc_ (qp_ hless) (hN i (lo+x-1) hl s!"" s!"")
     ·obtain rfl:i=lo+x:=by lia
      exact qE_ _
   by_cases fD:dr > 0
   ·rw[if_pos fD]
    exact jy_ (Hi (jH_ ⟨0,rfl,hQ.mir s!"" s!"" s!"",gr _ (zd_ hsz he),by lia,fun i h1 h2=>by congr 1;lia⟩))
   ·rw[if_neg fD]
    exact jH_ ⟨0,rfl,hQ,gr _ (fun _=>rfl),by lia,fun i h1 h2=>by congr 1;lia⟩
  case false=>
   simp only[jY_,q3_]
   refine jy_ (LU hO hQ.b s!"" s!"" ?_)
   cases hlarger:κ.blt (KK κ (arrOf ah) (lo+x-1)) (KK κ (arrOf ah) (lo+x))
   case true=>
    simp only[xO_]
    exact jH_ (h x dr ah hQ hax s!"" hN hq he)
   case false=>
    simp only[jY_,q3_]
    have same:KK κ (arrOf ah) (lo+x)=KK κ (arrOf ah) (lo+x-1):=KeyOrd.kle_antisymm hlarger hless
    refine jH_ ⟨dr+1,rfl,hQ,fun i j hl aT hj=>?_,by lia,fun i h1 h2=>?_⟩
    ·rcases qC_ j (lo+x) with jE|jE
     ·exact hN i j hl aT jE
     ·obtain rfl:j=lo+x:=by lia
      rcases qC_ i (lo+x) with hi' | hi'
      ·rw[same];exact hN i (lo+x-1) hl s!"" s!""
      ·obtain rfl:i=lo+x:=by lia
       exact qE_ _
    ·rw[show lo+(x+1)-1=lo+x by lia]
     by_cases ef:i=lo+x
     ·rw[ef]
     ·rw[same];exact he i s!"" s!""
theorem YI {st bo:SortSt}{lo n ao:Nat}  (hO:LtOk kd κ a₀ prog w A E s)(hn:lo+ao<=a₀.size)(eN:n+1<=ao)(hB:SQ kd a₀ lo (lo+ao) bo st)(hs:NI κ (arrOf st) lo (lo+(n+1)))
  (h:∀m ah,SQ kd a₀ lo (lo+ao) bo ah->1<=m->m<=ao->SO κ (arrOf ah) lo (lo+m)->Q (some m) ah):
  wpS (model prog w) A E s (YH lo n ao) Q st:=by
 unfold YH
 refine jy_ (Jy (jy_ (CX_ hO hn s!"" eN hB hs fun m dr ah g1 g2 g3 g4 g5 g6=>?_)))
 dsimp only
 have hsz:lo+m<=(arrOf ah).size:=by rw[g1.b.size];lia
 by_cases fD:dr > 0
 ·rw[if_pos fD]
  refine jy_ (Hi (Vd hO hn s!"" g3 (g1.mir s!"" s!"" s!"") ?_ h))
  intro i j hl aT hj
  show κ.kle (KK κ (mirror (arrOf ah) _ _ _) j) (KK κ (mirror (arrOf ah) _ _ _) i)
  rw[zd_ hsz g6,zd_ hsz g6]
  exact g4 i j hl aT hj
 ·rw[if_neg fD]
  exact Vd hO hn s!"" g3 g1 g4 h
theorem Tj {st:SortSt}{lo ao:Nat}  (hO:LtOk kd κ a₀ prog w A E s)(hn:lo+ao<=a₀.size)(h1:1<=ao)(hB:SB kd a₀ st)
  (h:∀m ah,SQ kd a₀ lo (lo+ao) st ah->1<=m->m<=ao->SO κ (arrOf ah) lo (lo+m)->Q (some m) ah):
  wpS (model prog w) A E s (countRun' lo ao) Q st:=by
 have hQ:SQ kd a₀ lo (lo+ao) st st:=SQ.refl hB
 rw[PM]
 refine jy_ (BM_ hO hn (jg_ 1) h1 hB (fun i j hl aT hj=>by (obtain rfl:i=j:=by lia);exact qE_ _) fun n b7 fE jI hor=>?_)
 dsimp only
 by_cases eN:n=ao
 ·rw[if_pos (by simpa using eN)]
  exact jH_ (h n st hQ b7 fE jI)
 ·rw[if_neg (by simpa using eN)]
  have au:=hor.resolve_left eN
  by_cases jF:n > 1
  ·rw[if_pos jF]
   refine jy_ (LU hO hB s!"" s!"" ?_)
   cases hrose:κ.blt (KK κ (arrOf st) lo) (KK κ (arrOf st) (lo+n-1))
   case true=>
    simp only[xO_]
    exact jH_ (h n st hQ b7 fE jI)
   case false=>
    simp only[jY_,q3_]
    have hsz:lo+n<=(arrOf st).size:=by rw[hB.size];lia
    have az:∀k,lo<=k->k<lo+n->KK κ (arrOf st) k=KK κ (arrOf st) (lo+n-1):=fun k jJ fm=>
     KeyOrd.kle_antisymm (jI k (lo+n-1) jJ s!"" s!"") (xc_ hrose (jI lo k (jg_ _) jJ fm))
    refine jy_ (Hi (YI hO hn s!"" (hQ.mir s!"" (jg_ _) s!"") ?_ h))
    intro i j hl aT hj
    show κ.kle (KK κ (mirror (arrOf st) _ _ _) j) (KK κ (mirror (arrOf st) _ _ _) i)
    rw[zd_ hsz az,zd_ hsz az]
    rcases qC_ j (lo+n) with hjn|hjn
    ·rw[az i hl s!"",az j s!"" hjn];exact qE_ _
    ·obtain rfl:j=lo+n:=by lia
     rcases qC_ i (lo+n) with hi' | hi'
     ·rw[az i hl hi'];exact qp_ au
     ·obtain rfl:i=lo+n:=by lia
      exact qE_ _
  ·rw[if_neg jF]
   obtain rfl:n=1:=by lia
   refine YI hO hn s!"" hQ ?_ h
   intro i j hl aT hj
   by_cases hi':i=j
   ·subst hi';exact qE_ _
   ·obtain rfl:i=lo:=by lia
    obtain rfl:j=i+1:=by lia
    exact qp_ au
structure Bis (κ:KeyKind)(xs:Array Keyed)(lo k l r:Nat):Prop where
 le:l<=r
 top:r<=k
 low:∀i,lo<=i->i<lo+l->κ.kle (KK κ xs i) (KK κ xs (lo+k))
 high:∀i,lo+r<=i->i<lo+k->κ.klt (KK κ xs (lo+k)) (KK κ xs i)
section
variable {xs:Array Keyed} {lo k l r:Nat}
theorem Bis.start:Bis κ xs lo k 0 k:=⟨jX_ _,jg_ _,fun i a b=>absurd a (Nat.not_le.mpr b),fun i a b=>absurd a (Nat.not_le.mpr b)⟩
theorem Bis.turn (B:Bis κ xs lo k l r)(o:l<r)(hs:SO κ xs lo (lo+k))(b:Bool)(e:κ.blt (KK κ xs (lo+k)) (KK κ xs (lo+(l+r) / 2))=b):
  if b=true then Bis κ xs lo k l ((l+r) / 2) else Bis κ xs lo k ((l+r) / 2+1) r:=by
 have t:=B.top
 cases b
 ·exact⟨by lia,t,fun i a c=>xc_ (hs i (lo+(l+r) / 2) a s!"" s!"") e,B.high⟩
 ·exact⟨by lia,by lia,B.low,fun i a c=>KeyOrd.klt_of_klt_of_kle e (hs _ i s!"" a c)⟩
theorem Bis.put (B:Bis κ xs lo k l l)(hs:SO κ xs lo (lo+k))(hz:lo+k<xs.size):SO κ (bubble xs (lo+k) (lo+k-(lo+l))) lo (lo+(k+1)):=by
 have t:=B.top
 have dN:∀i,KK κ (bubble xs (lo+k) (lo+k-(lo+l))) i=if i=lo+l then KK κ xs (lo+k) else if lo+l<i/\i<=lo+k then KK κ xs (i-1) else KK κ xs i:=fun i=>by
  rw[KK_bubble hz s!"",show lo+k-(lo+k-(lo+l))=lo+l by lia]
 intro i j a b c
 rw[dN i,dN j]
 rcases Nat.lt_trichotomy i (lo+l) with x|x|x<;>rcases Nat.lt_trichotomy j (lo+l) with y|y|y
 ·rw[if_neg s!"",if_neg s!"",if_neg s!"",if_neg s!""];exact hs i j a b s!""
 ·rw[if_neg s!"",if_neg s!"",if_pos y];exact B.low i a x
 ·rw[if_neg s!"",if_neg s!"",if_neg s!"",if_pos s!""];exact hs i (j-1) a s!"" s!""
 ·lia
 ·rw[if_pos x,if_pos y];exact qE_ _
 ·rw[if_pos x,if_neg s!"",if_pos s!""];exact qp_ (B.high (j-1) s!"" s!"")
 ·lia
 ·lia
 ·rw[if_neg s!"",if_pos s!"",if_neg s!"",if_pos s!""];exact hs (i-1) (j-1) s!"" s!"" s!""
end
theorem PN {st:SortSt}{lo n ok:Nat}  (hO:LtOk kd κ a₀ prog w A E s)(hn:lo+n<=a₀.size)(hok:ok<=n)(hB:SB kd a₀ st)(hs:SO κ (arrOf st) lo (lo+ok))
  (h:∀ah,SQ kd a₀ lo (lo+n) st ah->SO κ (arrOf ah) lo (lo+n)->Q true ah):wpS (model prog w) A E s (binarySort' lo n ok) Q st:=by
 rw[binarySort'_eq]
 have one:SO κ (arrOf st) lo (lo+max ok 1):=fun i j a b c=>if q:i=j then q ▸ qE_ _ else hs i j a b s!""
 have fin:∀t,SQ kd a₀ lo (lo+n) st t->SO κ (arrOf t) lo (lo+max (max ok 1) n)->Q true t:=fun t q so=>h t q fun i j a b c=>so i j a b s!""
 refine jy_ (qF_ (fun k c t=>c=(none,())/\SQ kd a₀ lo (lo+n) st t/\SO κ (arrOf t) lo (lo+k)) (fun k c t a b i=>?_) (fun c t i=>?_) ⟨rfl,SQ.refl hB,one⟩)
 ·obtain⟨rfl,q,so⟩:=i
  have put:∀l,Bis κ (arrOf t) lo k l l->wpS (model prog w) A E s (do moveDown' (lo+k) (lo+l);pure (ForInStep.yield ((none:Option Bool),()))) (fun r u=>match r with | .done _=>False | .yield c=>c=(none,())/\SQ kd a₀ lo (lo+n) st u/\SO κ (arrOf u) lo (lo+(k+1))) t:=fun l B=>by
   have tp:=B.top
   rw[moveDown'_eq]
   exact jy_ (zB_ (jH_ ⟨rfl,q.bub s!"" s!"" s!"" s!"",B.put so (by rw[q.b.size];lia)⟩))
  refine jy_ (xV_ (qF_ (fun x d t'=>t'=t/\∃l r,d=(none,l,r)/\r-l<=k-x/\Bis κ (arrOf t) lo k l r) (Q:=fun d t'=>t'=t/\∃l,d=(none,l,l)/\Bis κ (arrOf t) lo k l l) (fun x d t' _ y i=>?_) (fun d t' i=>?_) ⟨rfl,0,k,rfl,jg_ _,.start⟩) fun d t' i=>?_)
  ·obtain⟨rfl,l,r,rfl,z,B⟩:=i
   have tp:=B.top
   by_cases o:l<r
   ·have m:=B.turn o so
    dsimp only
    rw[if_neg (Nat.not_le.mpr o)]
    refine jy_ (LU hO q.b s!"" s!"" ?_)
    generalize e:κ.blt _ _=b
    replace m:=m b e
    cases b
    ·exact jH_ ⟨rfl,_,r,rfl,by lia,m⟩
    ·exact jH_ ⟨rfl,l,_,rfl,by lia,m⟩
   ·cases Nat.le_antisymm B.le (xU_.mp o)
    dsimp only
    rw[if_pos (jg_ _)]
    exact jH_ ⟨rfl,l,rfl,B⟩
  ·obtain⟨rfl,l,r,rfl,z,B⟩:=i
   cases Nat.le_antisymm B.le s!""
   exact⟨rfl,l,rfl,B⟩
  ·obtain⟨rfl,l,rfl,B⟩:=i
   exact xV_ (put l B) fun r u g=>by cases r with|done _=>exact g.elim|yield _=>exact g
 ·obtain⟨rfl,q,so⟩:=i
  exact jH_ (fin t q so)
end
end aK
namespace aK
open PySem PyProof.Rows
noncomputable def wr (a:Array Keyed)(base:Nat)(r:List Keyed)(n:Nat):Array Keyed:=(r.zipIdx n).foldl (fun a (p,j)=>a.setIfInBounds (base+j) p) a
theorem Tn (i:Nat):mergeAt' i=(do
 let s <- get
 let (some (sa,na,power),some (sb,nb,_)):=((pendingOf s)[i]?,(pendingOf s)[i+1]?)|unsupported "internal:list.sort.pending"
 set (setPending s (((pendingOf s).setIfInBounds i (sa,na+nb,power)).eraseIdxIfInBounds (i+1)))
 let some k <- DA false ( <- elem' (arrOf s) sb) (arrOf s) sa na 0|return false
 if na-k==0 then return true
 let some m <- DA true ( <- elem' (arrOf s) (sa+k+(na-k)-1)) (arrOf s) sb nb (nb-1)|return false
 if m==0 then return true
 let merged <- if na-k<=m then Lq ((arrOf s).extract (sa+k) sb) ((arrOf s).extract sb (sb+m)) else Ls ((arrOf s).extract (sa+k) sb) ((arrOf s).extract sb (sb+m))
 modify fun s=>setArr s (wr (arrOf s) (sa+k) merged.toList 0)
 return (failedOf ( <- get)).isNone):=rfl
theorem YJ {base:Nat}:∀(r:List Keyed) (n:Nat) (a:Array Keyed),base+n+r.length<=a.size->(wr a base r n).toList=a.toList.take (base+n)++r++a.toList.drop (base+n+r.length)
 |[],n,a,h=>by simp[wr]
 |x::r,n,a,h=>by
  have ih:=YJ (base:=base) r (n+1) (a.setIfInBounds (base+n) x) (by simp at h ⊢;lia)
  unfold wr at ih ⊢
  rw[List.zipIdx_cons,q7_]
  simp only at ih ⊢
  simp only[jV_]at h
  have hl:base+n<a.toList.length:=by simp;lia
  rw[ih,Array.toList_setIfInBounds,show base+(n+1)=base+n+1 by lia,List.take_set,List.drop_set_of_lt s!"",List.take_succ_eq_append_getElem hl,List.set_append_right _ _ (by simp;lia)]
  simp only[jB_,j3_,jV_]
  rw[show base+n-min (base+n) a.size=0 by lia,ze_,show base+n+1+r.length=base+n+(r.length+1) by lia]
  simp
section
variable {prog:Program} {w:World} {A:Around} {E:Value->Shared->Prop} {s:Shared} {a₀:Array Keyed} {κ:KeyKind} {kd:SortKind}
noncomputable def seg (a:Array Keyed)(lo hi:Nat):List Keyed:=(a.toList.take hi).drop lo
theorem To  {lo hi:Nat}(h:hi<=a.size):(seg a lo hi).length=hi-lo:=by unfold seg;simp;lia
theorem PQ  {lo hi i:Nat}(h:i<(seg a lo hi).length)(hi':lo+i<a.size):(seg a lo hi)[i]=a[lo+i]:=by simp[seg]
theorem OG  {lo hi:Nat}(h:hi<=a.size):SO κ a lo hi↔(seg a lo hi).Pairwise (LeK κ):=by
 rw[xt_]
 constructor
 ·intro g i j hi hj aT
  have hl:=To (lo:=lo) h
  have:=g (lo+i) (lo+j) s!"" s!"" s!""
  rw[Gf s!"",Gf s!""]at this
  rw[PQ hi s!"",PQ hj s!""]
  exact this
 ·intro g i j hl aT hj
  rcases qC_ i j with au|bj
  ·have ak:=To (lo:=lo) h
   have:=g (i-lo) (j-lo) s!"" s!"" s!""
   rw[PQ s!"" s!"",PQ s!"" s!""]at this
   simp only[show lo+(i-lo)=i by lia,show lo+(j-lo)=j by lia]at this
   rw[Gf s!"",Gf s!""]
   exact this
  ·obtain rfl:i=j:=by lia
   exact qE_ _
theorem Ie  {lo hi:Nat}  (h:x∈seg a lo hi):∃j,∃hj:j<a.size,lo<=j/\j<hi/\x=a[j]:=YG h
theorem Jz (a:Array Keyed)  (h1:l<=m)(h2:m<=h):seg a l h=seg a l m++seg a m h:=by
 unfold seg
 have e:a.toList.take h=a.toList.take m++(a.toList.take h).drop m:=by
  have:=q8_ m (a.toList.take h)
  rw[List.take_take,show min m h=m by lia]at this
  exact this.symm
 rw[e]
 rcases Nat.le_total m a.toList.length with hm|hm
 ·rw[List.drop_append_of_le_length (by rw[jB_];lia)]
  congr 1
  rw[<-e]
 ·rw[show (a.toList.take h).drop m=[] from qy_ (by rw[jB_];lia)]
  simp only[qi_]
  rw[show List.drop m (a.toList.take m)=[] from qy_ (by rw[jB_];lia),qi_]
theorem Tp  {lo hi i j:Nat}(h:SO κ a lo hi)(h1:lo<=i)(h2:i<=j)(h3:j<hi)(hi':i<a.size)(hj:j<a.size):LeK κ a[i] a[j]:=by
 have:=h i j h1 h2 h3
 rw[Gf hi',Gf hj]at this
 exact this
theorem Lv  {lo hi:Nat}(e:∀i,lo<=i->i<hi->ys[i]?=xs[i]?)(h:SO κ xs lo hi):SO κ ys lo hi:=fun i j h1 h2 h3=>by
 rw[KK_congr (e i h1 s!""),KK_congr (e j s!"" h3)];exact h i j h1 h2 h3
theorem ZV    (aS:l<=e)(he:e<=a.size)(hp:r.Perm (seg a l e)):
  (wr a l r 0).Perm a/\Out l e a (wr a l r 0)/\seg (wr a l r 0) l e=r:=by
 have hl:r.length=e-l:=by rw[hp.length_eq,To he]
 have hw:=YJ (base:=l) r 0 a s!""
 rw[Nat.add_zero,show l+r.length=e by lia]at hw
 have h0:a.toList=a.toList.take l++seg a l e++a.toList.drop e:=by
  have h1:=q8_ e a.toList
  have h2:=q8_ l (a.toList.take e)
  rw[List.take_take,show min l e=l by lia]at h2
  rw[show seg a l e=(a.toList.take e).drop l from rfl,h2,h1]
 have au:(a.toList.take l).length=l:=by simp;lia
 refine⟨?_,fun i hi=>?_,?_⟩
 ·rw[xX_,hw]
  conv=>rhs;rw[h0]
  exact List.Perm.append_right _ (List.Perm.append_left _ hp)
 ·rw[<-xo_,<-xo_,hw]
  rcases hi with hi|hi
  ·rw[qh_,jj_ s!"",xx_ hi]
  ·rw[jr_ (by rw[jo_];lia),jo_,au,List.getElem?_drop]
   congr 1;lia
 ·unfold seg
  rw[hw,qh_,<-qh_,List.take_append_of_le_length (by rw[jo_];lia),jO_ (by rw[jo_];lia),List.drop_append_of_le_length s!"",qy_ s!"",xQ_]
theorem Gw (a:Array Keyed)(i j:Nat):(a.extract i j).toList=seg a i j:=by rw[Hj,seg,List.drop_take]
theorem EN_ {st ah:SortSt}  (h:Q ⟨⟩ ah):wpS (model prog w) A E s (set ah:StateT SortSt Sem PUnit) Q st:=zB_ (f:=fun _=>ah) h
theorem Wc {st:SortSt}   (hO:LtOk kd κ a₀ prog w A E s)(hB:SB kd a₀ st)(e1:(pendingOf st)[i]?=some (sa,na,pw))(e2:(pendingOf st)[i+1]?=some (sb,nb,q))(lD:sb=sa+na)(hna:1<=na)(hnb:1<=nb)(hz:sb+nb<=a₀.size)
  (s1:SO κ (arrOf st) sa sb) (s2:SO κ (arrOf st) sb (sb+nb))
  (h:∀ah,SB kd a₀ ah->pendingOf ah=((pendingOf st).setIfInBounds i (sa,na+nb,pw)).eraseIdxIfInBounds (i+1)->Out sa (sb+nb) (arrOf st) (arrOf ah)->SO κ (arrOf ah) sa (sb+nb)->Q true ah):
  wpS (model prog w) A E s (mergeAt' i) Q st:=by
 have hsz:=hB.size
 rw[Tn]
 refine jy_ (wpS_get ?_)
 rw[e1,e2]
 dsimp only
 refine jy_ (EN_ ?_)
 have gq:SB kd a₀ (setPending st (((pendingOf st).setIfInBounds i (sa,na+nb,pw)).eraseIdxIfInBounds (i+1))):=⟨hB.perm,hB.kind,hB.failed⟩
 have aP:∀x∈(arrOf st).toList,x∈a₀.toList:=fun x hx=>hB.mem hx
 refine jy_ (B6 (show sb<(arrOf st).size by lia) (jy_ (PD hO gq.kind (aP _ (by simp)) aP (fun i j hi hj g1 g2 g3=>Tp s1 g1 g2 s!"" hi hj) s!"" s!"" (fun k jH g1 g2=>?_))))
 dsimp only
 by_cases cY:na-k=0
 ·rw[if_pos (by simpa using cY)]
  refine jH_ (h _ gq rfl (Out.refl _ _ _) ?_)
  intro i j hl aT hj
  show κ.kle (KK κ (arrOf st) i) (KK κ (arrOf st) j)
  rcases qC_ j sb with c|c
  ·exact s1 i j hl aT c
  ·rcases qC_ i sb with c2|c2
   ·have a1:=g1 (i-sa) s!"" s!""
    simp only[show sa+(i-sa)=i by lia]at a1
    have a2:=s2 sb j (jg_ _) c hj
    rw[Gf (show sb<(arrOf st).size by lia)]at a2
    rw[Gf (show i<(arrOf st).size by lia)]
    exact xc_ a1 a2
   ·exact s2 i j c2 aT hj
 ·rw[if_neg (by simpa using cY)]
  have el:sa+k+(na-k)-1=sb-1:=by lia
  rw[el]
  refine jy_ (B6 (show sb-1<(arrOf st).size by lia) (jy_ (PH hO gq.kind (aP _ (by simp)) aP (fun i j hi hj g1 g2 g3=>Tp s2 g1 g2 s!"" hi hj) s!"" s!"" (fun m hmn g3 g4=>?_))))
  dsimp only
  by_cases cz:m=0
  ·rw[if_pos (by simpa using cz)]
   refine jH_ (h _ gq rfl (Out.refl _ _ _) ?_)
   intro i j hl aT hj
   show κ.kle (KK κ (arrOf st) i) (KK κ (arrOf st) j)
   rcases qC_ j sb with c|c
   ·exact s1 i j hl aT c
   ·rcases qC_ i sb with c2|c2
    ·have a1:=g4 (j-sb) s!"" s!"" s!""
     simp only[show sb+(j-sb)=j by lia]at a1
     have a2:=s1 i (sb-1) hl s!"" s!""
     rw[Gf (show sb-1<(arrOf st).size by lia)]at a2
     rw[Gf (show j<(arrOf st).size by lia)]
     exact xc_ a2 a1
    ·exact s2 i j c2 aT hj
  ·rw[if_neg (by simpa using cz)]
   have z1:((arrOf st).extract (sa+k) sb).size=sb-(sa+k):=by simp;lia
   have z2:((arrOf st).extract sb (sb+m)).size=m:=by simp;lia
   have hM:MP a₀ κ ((arrOf st).extract (sa+k) sb) ((arrOf st).extract sb (sb+m)):=by
    refine {hA:=fun x hx=>?_,hB:=fun x hx=>?_,sA:=?_,sB:=?_,ha:=by lia,hb:=by lia,hf:=fun y hy=>?_,hl:=fun x hx=>?_}
    ·rw[Gw]at hx;obtain⟨j,hj,_,_,rfl⟩:=Ie hx;exact aP _ (by simp)
    ·rw[Gw]at hx;obtain⟨j,hj,_,_,rfl⟩:=Ie hx;exact aP _ (by simp)
    ·rw[Gw];exact (OG s!"").mp (fun i j c1 c2 c3=>s1 i j s!"" c2 c3)
    ·rw[Gw];exact (OG s!"").mp (fun i j c1 c2 c3=>s2 i j c1 c2 s!"")
    ·rw[Gw]at hy;obtain⟨j,hj,c1,c2,rfl⟩:=Ie hy
     have a1:=g2 (j-sa) s!"" s!"" s!""
     simp only[show sa+(j-sa)=j by lia]at a1
     simp only[Array.getElem_extract,Nat.add_zero]
     exact qp_ a1
    ·rw[Gw]at hx;obtain⟨j,hj,c1,c2,rfl⟩:=Ie hx
     have a1:=g3 (j-sb) s!"" s!""
     simp only[show sb+(j-sb)=j by lia]at a1
     simp only[Array.getElem_extract,z1,show sa+k+(sb-(sa+k)-1)=sb-1 by lia]
     exact qp_ a1
   have hend:∀(r:Array Keyed) (ah:SortSt),SG (setPending st (((pendingOf st).setIfInBounds i (sa,na+nb,pw)).eraseIdxIfInBounds (i+1))) ah->Mgd (LeK κ) ((arrOf st).extract (sa+k) sb).toList ((arrOf st).extract sb (sb+m)).toList r.toList ->
     wpS (model prog w) A E s (do
      modify fun s=>setArr s (wr (arrOf s) (sa+k) r.toList 0)
      return (failedOf ( <- get)).isNone:StateT SortSt Sem Bool) Q ah:=by
    intro r ah hG hR
    refine jy_ (zB_ (jy_ (wpS_get (jH_ ?_))))
    have ea:arrOf ah=arrOf st:=hG.arr
    have hf:failedOf (setArr ah (wr (arrOf ah) (sa+k) r.toList 0))=none:=hG.fa.trans hB.failed
    rw[hf]
    rw[Gw,Gw]at hR
    have hp:r.toList.Perm (seg (arrOf st) (sa+k) (sb+m)):=by rw[Jz _ (show sa+k<=sb by lia) (show sb<=sb+m by lia)];exact hR.1
    obtain⟨w1,w2,w3⟩:=ZV s!"" s!"" hp
    have hsz2:(wr (arrOf st) (sa+k) r.toList 0).size=(arrOf st).size:=w1.size_eq
    have iS:arrOf (setArr ah (wr (arrOf ah) (sa+k) r.toList 0))=wr (arrOf st) (sa+k) r.toList 0:=by rw[<-ea]
    refine h _ ⟨?_,hG.kd.trans hB.kind,hf⟩ hG.pe ?_ ?_
    ·rw[iS];exact w1.trans hB.perm
    ·rw[iS];exact fun i hi=>w2 i s!""
    ·rw[iS,OG s!"",Jz _ (show sa<=sa+k by lia) (show sa+k<=sb+nb by lia),Jz _ (show sa+k<=sb+m by lia) (show sb+m<=sb+nb by lia),w3]
     have f1:∀x∈seg (wr (arrOf st) (sa+k) r.toList 0) sa (sa+k),∃j,∃hj:j<(arrOf st).size,sa<=j/\j<sa+k/\x=(arrOf st)[j]:=fun x hx=>by
      obtain⟨j,hj,c1,c2,rfl⟩:=Ie hx
      refine⟨j,by lia,c1,c2,?_⟩
      have:=w2 j s!""
      rw[qw_ hj,qw_ (show j<(arrOf st).size by lia)]at this
      exact jp_ this
     have f3:∀x∈seg (wr (arrOf st) (sa+k) r.toList 0) (sb+m) (sb+nb),∃j,∃hj:j<(arrOf st).size,sb+m<=j/\j<sb+nb/\x=(arrOf st)[j]:=fun x hx=>by
      obtain⟨j,hj,c1,c2,rfl⟩:=Ie hx
      refine⟨j,by lia,c1,c2,?_⟩
      have:=w2 j s!""
      rw[qw_ hj,qw_ (show j<(arrOf st).size by lia)]at this
      exact jp_ this
     have f2:∀x∈r.toList,∃j,∃hj:j<(arrOf st).size,sa+k<=j/\j<sb+m/\x=(arrOf st)[j]:=fun x hx=>by
      obtain⟨j,hj,c1,c2,rfl⟩:=Ie (hp.mem_iff.mp hx)
      exact⟨j,hj,c1,c2,rfl⟩
     have low:∀j (hj:j<(arrOf st).size),sa<=j->j<sa+k->LeK κ (arrOf st)[j] ((arrOf st)[sb]'s!""):=fun j hj c1 c2=>by
      have a1:=g1 (j-sa) s!"" s!""
      simp only[show sa+(j-sa)=j by lia]at a1
      exact a1
     have high:∀j (hj:j<(arrOf st).size),sb+m<=j->j<sb+nb->LeK κ ((arrOf st)[sb-1]'s!"") (arrOf st)[j]:=fun j hj c1 c2=>by
      have a1:=g4 (j-sb) s!"" s!"" s!""
      simp only[show sb+(j-sb)=j by lia]at a1
      exact a1
     refine q0_.mpr ⟨?_,q0_.mpr ⟨hR.2,?_,fun x hx y hy=>?_⟩,fun x hx y hy=>?_⟩
     ·exact (OG s!"").mp (Lv (fun i c1 c2=>w2 i s!"") (fun i j c1 c2 c3=>s1 i j c1 c2 s!""))
     ·exact (OG s!"").mp (Lv (fun i c1 c2=>w2 i s!"") (fun i j c1 c2 c3=>s2 i j s!"" c2 s!""))
     ·obtain⟨j,hj,c1,c2,rfl⟩:=f2 x hx
      obtain⟨l,hl,d1,d2,rfl⟩:=f3 y hy
      rcases qC_ j sb with c|c
      ·exact LeK.trans (Tp s1 s!"" s!"" s!"" hj s!"") (high l hl d1 d2)
      ·exact Tp s2 c s!"" d2 hj hl
     ·obtain⟨j,hj,c1,c2,rfl⟩:=f1 x hx
      rcases jA_.mp hy with hy|hy
      ·obtain⟨l,hl,d1,d2,rfl⟩:=f2 y hy
       rcases qC_ l sb with c|c
       ·exact Tp s1 c1 s!"" c hj hl
       ·exact LeK.trans (low j hj c1 c2) (Tp s2 (jg_ _) c s!"" s!"" hl)
      ·obtain⟨l,hl,d1,d2,rfl⟩:=f3 y hy
       exact LeK.trans (low j hj c1 c2) (Tp s2 (jg_ _) s!"" d2 s!"" hl)
   by_cases hc:na-k<=m
   ·rw[if_pos hc]
    exact jy_ (Wa hO hM gq.kind hend)
   ·rw[if_neg hc]
    exact jy_ (Wb hO hM gq.kind hend)
end
end aK
namespace aK
open PySem PyProof.Rows
noncomputable abbrev Rn:=Nat×Nat×Nat
noncomputable def JP (lo n:Nat):StateT SortSt Sem (ForInStep (Option Unit×Nat)):=do
 modify fun s=>setPending s ((pendingOf s).push (lo,n,0))
 pure (.yield (none,lo+n))
noncomputable def JM (pw:Nat):StateT SortSt Sem (ForInStep (Option Unit×Unit)):=do
 let g <- get
 match if (pendingOf g).size > 1 then (pendingOf g)[(pendingOf g).size-2]? else none with
 |some (_,_,older)=>if older<=pw then pure (.done (none,())) else do
   let b <- mergeAt' ((pendingOf g).size-2)
   if (!b)=true then pure (.done (some (),())) else pure (.yield (none,()))
 |_=>pure (.done (none,()))
noncomputable def JB (size lo n:Nat):StateT SortSt Sem (ForInStep (Option Unit×Nat)):=do
 let g <- get
 match (pendingOf g).back? with
 |some (s1,n1,_)=>do
  let c <- forIn [0:size] ((none,()):Option Unit×Unit) fun _ _=>JM (power' size (2*s1+n1) (2*s1+n1+n1+n) size)
  match c.1 with
  |some r=>pure (.done (some r,lo))
  |none=>do
   modify fun s=>setPending s ((pendingOf s).modify ((pendingOf s).size-1) fun (st,len,_)=>(st,len,power' size (2*s1+n1) (2*s1+n1+n1+n) size))
   JP lo n
 |_=>JP lo n
noncomputable def RN (size bO lo n:Nat):StateT SortSt Sem (ForInStep (Option Unit×Nat)):=
 if n<bO then (do
  liftM (rule "list.sort.binary-insertion")
  let b <- binarySort' lo (min (size-lo) bO) n
  if (!b)=true then pure (.done (some (),lo)) else JB size lo (min (size-lo) bO))
 else JB size lo n
noncomputable def RB (size bO:Nat)(c:Option Unit×Nat):StateT SortSt Sem (ForInStep (Option Unit×Nat)):=
 if c.2 >= size then pure (.done (none,c.2)) else do
  let x <- countRun' c.2 (size-c.2)
  match x with
  |some n=>RN size bO c.2 n
  |_=>pure (.done (some (),c.2))
noncomputable def FI (p:Array Rn):Nat:=if Option.any (fun x=>decide (x<p[p.size-2+1]?.elim 0 fun x=>x.snd.fst)) (if p.size-2 > 0 then Option.map (fun x=>x.snd.fst) p[p.size-2-1]? else none)=true then p.size-2-1 else p.size-2
noncomputable def FB:StateT SortSt Sem (ForInStep (Option Unit×Unit)):=do
 let g <- get
 if (pendingOf g).size<=1 then pure (.done (none,()))
 else do
  let b <- mergeAt' (FI (pendingOf g))
  if (!b)=true then pure (.done (some (),())) else pure (.yield (none,()))
theorem PR:sortRuns'=(do
 let g <- get
 let c <- forIn [0:(arrOf g).size] ((none,0):Option Unit×Nat) fun _ c=>RB (arrOf g).size (minRun' (arrOf g).size (arrOf g).size 0) c
 match c.1 with
 |some r=>pure r
 |none=>do
  let c <- forIn [0:(arrOf g).size] ((none,()):Option Unit×Unit) fun _ _=>FB
  match c.1 with
  |some r=>pure r
  |none=>pure ()):=by
 rw[sortRuns'_eq]
 refine jD_ (bind _) (funext fun g=>?_)
 refine congr (jD_ bind (jD_ (forIn _ _) (funext fun _=>funext fun c=>?_))) (funext fun c=>?_)
 ·unfold RB
  refine jD_ (ite _ _) (jD_ (bind _) (funext fun x=>?_))
  cases x with
  |none=>rfl
  |some n=>
   dsimp only
   unfold RN
   by_cases hn:n<minRun' (arrOf g).size (arrOf g).size 0
   ·rw[if_pos hn,if_pos hn]
    refine jD_ (bind _) (funext fun _=>jD_ (bind _) (funext fun b=>jD_ (ite _ _) ?_))
    unfold JB
    refine jD_ (bind _) (funext fun g'=>?_)
    try dsimp only
    rcases (pendingOf g').back? with _|⟨s1,n1,q⟩
    ·rfl
    ·try dsimp only
     refine congr (jD_ bind (jD_ (forIn _ _) (funext fun _=>funext fun _=>?_))) (funext fun c=>?_)
     ·unfold JM
      refine jD_ (bind _) (funext fun g2=>?_)
      try dsimp only
      rcases (if (pendingOf g2).size > 1 then (pendingOf g2)[(pendingOf g2).size-2]? else none) with _|⟨a,b,c⟩
      ·rfl
      ·rfl
     ·obtain⟨r,u⟩:=c
      cases r<;>rfl
   ·rw[if_neg hn,if_neg hn]
    unfold JB
    refine jD_ (bind _) (funext fun g'=>?_)
    try dsimp only
    rcases (pendingOf g').back? with _|⟨s1,n1,q⟩
    ·rfl
    ·try dsimp only
     refine congr (jD_ bind (jD_ (forIn _ _) (funext fun _=>funext fun _=>?_))) (funext fun c=>?_)
     ·unfold JM
      refine jD_ (bind _) (funext fun g2=>?_)
      try dsimp only
      rcases (if (pendingOf g2).size > 1 then (pendingOf g2)[(pendingOf g2).size-2]? else none) with _|⟨a,b,c⟩
      ·rfl
      ·rfl
     ·obtain⟨r,u⟩:=c
      cases r<;>rfl
 ·obtain⟨r,lo⟩:=c
  cases r with
  |some r=>rfl
  |none=>
   dsimp only
   refine congr (jD_ bind (jD_ (forIn _ _) (funext fun _=>funext fun c=>?_))) (funext fun c=>?_)
   ·rfl
   ·obtain⟨r,u⟩:=c
    cases r<;>rfl
section
variable {prog:Program} {w:World} {A:Around} {E:Value->Shared->Prop} {s:Shared} {a₀:Array Keyed} {κ:KeyKind} {kd:SortKind}
noncomputable def Ch (κ:KeyKind)(xs:Array Keyed):List Rn->Nat->Nat->Prop
 |[],a,b=>a=b
 |p::r,a,b=>p.1=a/\1<=p.2.1/\SO κ xs a (a+p.2.1)/\Ch κ xs r (a+p.2.1) b
theorem Ch.le {xs:Array Keyed}:∀{l:List Rn} {a b:Nat},Ch κ xs l a b->a+l.length<=b
 |[],a,b,h=>Nat.le_of_eq h
 |p::r,a,b,h=>by have:=Ch.le h.2.2.2;have:=h.2.1;simp only[jV_];lia
theorem Ch.append {xs:Array Keyed}:∀{l l':List Rn} {a b:Nat},Ch κ xs (l++l') a b ↔ ∃c,Ch κ xs l a c/\Ch κ xs l' c b
 |[],l',a,b=>⟨fun h=>⟨a,rfl,h⟩,fun ⟨c,e,h⟩=>by cases e;exact h⟩
 |p::r,l',a,b=>⟨fun ⟨h1,h2,h3,h4⟩=>by obtain⟨c,g1,g2⟩:=Ch.append.mp h4;exact⟨c,⟨h1,h2,h3,g1⟩,g2⟩,fun ⟨c,⟨h1,h2,h3,h4⟩,h5⟩=>⟨h1,h2,h3,Ch.append.mpr ⟨c,h4,h5⟩⟩⟩
theorem Ch.congr {xs ys:Array Keyed}:∀{l:List Rn} {a b:Nat},(∀i,a<=i->i<b->ys[i]?=xs[i]?)->Ch κ xs l a b->Ch κ ys l a b
 |[],a,b,_,h=>h
 |p::r,a,b,e,⟨h1,h2,h3,h4⟩=>⟨h1,h2,Lv (fun i g1 g2=>e i g1 (by have:=h4.le;lia)) h3,h4.congr (fun i g1 g2=>e i s!"" g2)⟩
theorem Ch.same {xs:Array Keyed}:∀{l l':List Rn} {a b:Nat},l.map (fun p=>(p.1,p.2.1))=l'.map (fun p=>(p.1,p.2.1))->Ch κ xs l a b->Ch κ xs l' a b
 |[],[],_,_,_,h=>h
 |[],_::_,_,_,e,_=>by cases e
 |_::_,[],_,_,e,_=>by cases e
 |p::r,p'::r',a,b,e,⟨h1,h2,h3,h4⟩=>by
  simp only[j1_,xE_,Prod.mk.injEq]at e
  obtain⟨⟨e1,e2⟩,e3⟩:=e
  refine⟨e1 ▸ h1,e2 ▸ h2,e2 ▸ h3,?_⟩
  rw[<-e2]
  exact h4.same e3
theorem RD {st:SortSt}   (hO:LtOk kd κ a₀ prog w A E s)(hB:SB kd a₀ st)(hC:Ch κ (arrOf st) (pendingOf st).toList 0 m)(hm:m<=a₀.size)(hi:i+1<(pendingOf st).size)
  (h:∀ah,SB kd a₀ ah->Ch κ (arrOf ah) (pendingOf ah).toList 0 m->(pendingOf ah).size+1=(pendingOf st).size->Out 0 m (arrOf st) (arrOf ah)->Q true ah):
  wpS (model prog w) A E s (mergeAt' i) Q st:=by
 have hl:(pendingOf st).toList.length=(pendingOf st).size:=j3_
 have e0:(pendingOf st).toList=(pendingOf st).toList.take i++(pendingOf st)[i]::(pendingOf st)[i+1]::(pendingOf st).toList.drop (i+2):=by
  have h1:=(q8_ i (pendingOf st).toList).symm
  rw[q6_ s!"",q6_ s!""]at h1
  exact h1
 obtain⟨l1,bp⟩:∃l,l=(pendingOf st).toList.take i:=⟨_,rfl⟩
 obtain⟨l2,bF⟩:∃l,l=(pendingOf st).toList.drop (i+2):=⟨_,rfl⟩
 obtain⟨⟨sa,na,pw⟩,hx⟩:∃p,p=(pendingOf st)[i]:=⟨_,rfl⟩
 obtain⟨⟨sb,nb,q⟩,hy⟩:∃p,p=(pendingOf st)[i+1]:=⟨_,rfl⟩
 rw[<-bp,<-bF,<-hx,<-hy]at e0
 have kJ:l1.length=i:=by rw[bp,jB_];lia
 rw[e0]at hC
 obtain⟨c,c1,c2,c3,c4,c5,c6,c7,c8⟩:=Ch.append.mp hC
 dsimp only at c2 c3 c4 c5 c6 c7 c8
 subst c2
 subst c5
 have aS:=c8.le
 have hle1:=c1.le
 refine Wc hO hB (by rw[hx];exact qw_ s!"") (by rw[hy];exact qw_ hi) rfl c3 c6 s!"" c4 c7 (fun ah g1 g2 g3 g4=>?_)
 have e1:(pendingOf ah).toList=l1++(sa,na+nb,pw)::l2:=by
  rw[g2,Array.toList_eraseIdxIfInBounds,Array.toList_setIfInBounds,e0,List.set_append_right _ _ s!"",kJ,qs_,ze_,List.eraseIdx_append_of_length_le s!"",kJ,show i+1-i=1 by lia]
  rfl
 refine h ah g1 ?_ ?_ (fun i hi=>g3 i s!"")
 ·rw[e1]
  refine Ch.append.mpr ⟨sa,c1.congr (fun i _ h2=>g3 i s!""),rfl,?_,?_,?_⟩
  ·show 1<=na+nb
   lia
  ·rw[show sa+(na+nb)=sa+na+nb by lia];exact g4
  ·show Ch κ (arrOf ah) l2 (sa+(na+nb)) m
   rw[show sa+(na+nb)=sa+na+nb by lia]
   exact c8.congr (fun i h1 _=>g3 i s!"")
 ·have l1':(pendingOf ah).toList.length=(l1++(sa,na+nb,pw)::l2).length:=by rw[e1]
  have l2':(pendingOf st).toList.length=(l1++(sa,na,pw)::(sa+na,nb,q)::l2).length:=by rw[e0]
  simp only[jo_,jV_,j3_]at l1' l2'
  lia
theorem EO_ {st:SortSt}{lo n:Nat}  (hB:SB kd a₀ st)(hC:Ch κ (arrOf st) (pendingOf st).toList 0 lo)(hn:1<=n)(hs:SO κ (arrOf st) lo (lo+n))
  (h:∀ah,SB kd a₀ ah->Ch κ (arrOf ah) (pendingOf ah).toList 0 (lo+n)->Q (.yield (none,lo+n)) ah):wpS (model prog w) A E s (JP lo n) Q st:=by
 unfold JP
 refine jy_ (zB_ (jH_ (h _ ⟨hB.perm,hB.kind,hB.failed⟩ ?_)))
 show Ch κ (arrOf st) ((pendingOf st).push (lo,n,0)).toList 0 (lo+n)
 rw[Array.toList_push]
 exact Ch.append.mpr ⟨lo,hC,rfl,hn,hs,rfl⟩
theorem EP_ {st:SortSt}{lo n:Nat}  (hO:LtOk kd κ a₀ prog w A E s)(hB:SB kd a₀ st)(hC:Ch κ (arrOf st) (pendingOf st).toList 0 lo)(hn:1<=n)(hz:lo+n<=a₀.size)(hs:SO κ (arrOf st) lo (lo+n))
  (h:∀ah,SB kd a₀ ah->Ch κ (arrOf ah) (pendingOf ah).toList 0 (lo+n)->Q (.yield (none,lo+n)) ah):wpS (model prog w) A E s (JB a₀.size lo n) Q st:=by
 unfold JB
 refine jy_ (wpS_get ?_)
 rcases (pendingOf st).back? with _|⟨s1,n1,q⟩
 ·exact EO_ hB hC hn hs h
 ·dsimp only
  generalize power' a₀.size (2*s1+n1) (2*s1+n1+n1+n) a₀.size=pw
  refine jy_ (xV_ (qF_ (I:=fun _ c ah=>c=(none,())/\SB kd a₀ ah/\Ch κ (arrOf ah) (pendingOf ah).toList 0 lo/\Out 0 lo (arrOf st) (arrOf ah))
   (Q:=fun c ah=>c=(none,())/\SB kd a₀ ah/\Ch κ (arrOf ah) (pendingOf ah).toList 0 lo/\Out 0 lo (arrOf st) (arrOf ah)) ?step (fun _ _ hh=>hh) ⟨rfl,hB,hC,Out.refl _ _ _⟩) ?post)
  case step=>
   rintro x c ah _ _ ⟨rfl,g1,g2,g3⟩
   unfold JM
   refine jy_ (wpS_get ?_)
   rcases hh:(if (pendingOf ah).size > 1 then (pendingOf ah)[(pendingOf ah).size-2]? else none) with _|⟨a,b,older⟩
   ·exact jH_ ⟨rfl,g1,g2,g3⟩
   ·dsimp only
    have jF:(pendingOf ah).size > 1:=by
     by_cases hq:(pendingOf ah).size > 1
     ·exact hq
     ·rw[if_neg hq]at hh;cases hh
    split
    ·exact jH_ ⟨rfl,g1,g2,g3⟩
    ·refine jy_ (RD hO g1 g2 s!"" s!"" (fun aM k1 k2 k3 k4=>?_))
     rw[if_neg (by simp)]
     exact jH_ ⟨rfl,k1,k2,g3.trans k4⟩
  case post=>
   rintro c ah ⟨rfl,g1,g2,g3⟩
   dsimp only
   refine jy_ (zB_ ?_)
   refine EO_ ⟨g1.perm,g1.kind,g1.failed⟩ ?_ hn ?_ h
   ·refine Ch.same ?_ g2
    show _=((pendingOf ah).modify _ _).toList.map _
    rw[Array.toList_modify]
    apply qI_
    intro i
    rw[jd_,jd_,List.getElem?_modify]
    by_cases hi:(pendingOf ah).size-1=i
    ·simp only[if_pos hi];cases (pendingOf ah).toList[i]?<;>rfl
    ·simp only[if_neg hi];cases (pendingOf ah).toList[i]?<;>rfl
   ·exact Lv (fun i h1 h2=>g3 i s!"") hs
theorem Tq {st:SortSt}  (hO:LtOk kd κ a₀ prog w A E s)(hB:SB kd a₀ st)(hp:pendingOf st = #[])
  (h:∀ah,SB kd a₀ ah->SO κ (arrOf ah) 0 a₀.size->Q () ah):wpS (model prog w) A E s sortRuns' Q st:=by
 rw[PR]
 refine jy_ (wpS_get ?_)
 rw[hB.size]
 generalize minRun' a₀.size a₀.size 0=mr
 refine jy_ (xV_ (qF_ (I:=fun x c ah=>SB kd a₀ ah/\∃lo,c=(none,lo)/\lo<=a₀.size/\(x<=lo\/a₀.size<=lo)/\Ch κ (arrOf ah) (pendingOf ah).toList 0 lo)
  (Q:=fun c ah=>SB kd a₀ ah/\c=(none,a₀.size)/\Ch κ (arrOf ah) (pendingOf ah).toList 0 a₀.size) ?step ?fin ⟨hB,0,rfl,by lia,by lia,by rw[hp];rfl⟩) ?post)
 case fin=>
  rintro c ah ⟨g1,lo,rfl,g2,g3,g4⟩
  obtain rfl:lo=a₀.size:=by lia
  exact⟨g1,rfl,g4⟩
 case step=>
  rintro x c ah _ hx ⟨g1,lo,rfl,g2,g3,g4⟩
  unfold RB
  dsimp only
  by_cases bj:lo >= a₀.size
  ·rw[if_pos bj]
   obtain rfl:lo=a₀.size:=by lia
   exact jH_ ⟨g1,rfl,g4⟩
  ·rw[if_neg bj]
   have aR:∀n,1<=n->lo+n<=a₀.size->∀aM,SB kd a₀ aM->Ch κ (arrOf aM) (pendingOf aM).toList 0 (lo+n)->SB kd a₀ aM/\∃kK,((none,lo+n):Option Unit×Nat)=(none,kK)/\kK<=a₀.size/\(x+1<=kK\/a₀.size<=kK)/\Ch κ (arrOf aM) (pendingOf aM).toList 0 kK :=
    fun n h1 h2 aM k1 k2=>⟨k1,lo+n,rfl,h2,by lia,k2⟩
   refine jy_ (Tj hO s!"" s!"" g1 (fun m aM k1 k2 k3 k4=>?_))
   have k5:Ch κ (arrOf aM) (pendingOf aM).toList 0 lo:=by rw[k1.pe];exact g4.congr (fun i _ h2=>k1.out i (.inl h2))
   dsimp only
   unfold RN
   by_cases hm:m<mr
   ·rw[if_pos hm]
    refine jy_ (Jy (jy_ (PN hO s!"" s!"" k1.b k4 (fun cV q1 q2=>?_))))
    rw[if_neg (by simp)]
    have q3:Ch κ (arrOf cV) (pendingOf cV).toList 0 lo:=by rw[q1.pe];exact k5.congr (fun i _ h2=>q1.out i (.inl h2))
    exact EP_ hO q1.b q3 s!"" s!"" q2 (aR _ s!"" s!"")
   ·rw[if_neg hm]
    exact EP_ hO k1.b k5 k2 s!"" k4 (aR _ k2 s!"")
 case post=>
  rintro c ah ⟨g1,rfl,g4⟩
  dsimp only
  have aS:=g4.le
  refine jy_ (xV_ (qF_ (I:=fun x c aM=>c=(none,())/\SB kd a₀ aM/\Ch κ (arrOf aM) (pendingOf aM).toList 0 a₀.size/\(pendingOf aM).size+x<=a₀.size)
   (Q:=fun c aM=>c=(none,())/\SB kd a₀ aM/\Ch κ (arrOf aM) (pendingOf aM).toList 0 a₀.size/\(pendingOf aM).size<=1) ?step2 ?fin2 ⟨rfl,g1,g4,by simpa using aS⟩) ?post2)
  case fin2=>
   rintro c aM ⟨rfl,k1,k2,k3⟩
   exact⟨rfl,k1,k2,by lia⟩
  case step2=>
   rintro x c aM _ hx ⟨rfl,k1,k2,k3⟩
   unfold FB
   refine jy_ (wpS_get ?_)
   by_cases h1:(pendingOf aM).size<=1
   ·rw[if_pos h1]
    exact jH_ ⟨rfl,k1,k2,h1⟩
   ·rw[if_neg h1]
    have hFI:FI (pendingOf aM)+1<(pendingOf aM).size:=by
     unfold FI
     repeat' split
     all_goals lia
    refine jy_ (RD hO k1 k2 (jg_ _) hFI (fun cV q1 q2 q3 q4=>?_))
    rw[if_neg (by simp)]
    exact jH_ ⟨rfl,q1,q2,by lia⟩
  case post2=>
   rintro c aM ⟨rfl,k1,k2,k3⟩
   refine jH_ (h aM k1 ?_)
   have hl:(pendingOf aM).toList.length<=1:=by simpa using k3
   match aU:(pendingOf aM).toList,hl with
   |[],_=>rw[aU]at k2;intro i j h1 h2 h3;rw[<-show 0=a₀.size from k2]at h3;lia
   |[p],_=>
    rw[aU]at k2
    obtain⟨c1,c2,c3,c4⟩:=k2
    have e:0+p.2.1=a₀.size:=c4
    rw[e]at c3
    exact c3
end
end aK
namespace HT
theorem lexLt_irr2:∀{xs:α2},HT.lexLt xs xs=false
 |[]=>rfl
 |x::xs=>by rw[HT.lexLt_cons,if_pos rfl];exact lexLt_irr2
theorem lexLt_trans:∀{xs ys zs:α2},lexLt xs ys=true->lexLt ys zs=true->lexLt xs zs=true
 |[],[],_,h,_=>by cases h
 |_::_,[],_,h,_=>by cases h
 |_,_::_,[],_,h=>by cases h
 |[],_::_,_::_,_,_=>rfl
 |x::xs,y::ys,z::zs,h,g=>by
  rw[lexLt_cons]at h g ⊢
  by_cases e1:x=y
  ·rw[if_pos e1]at h
   by_cases e2:y=z
   ·rw[if_pos e2]at g;rw[if_pos (e1.trans e2)];exact lexLt_trans h g
   ·rw[if_neg e2]at g;rw[if_neg (e1 ▸ e2),e1];exact g
  ·rw[if_neg e1]at h
   by_cases e2:y=z
   ·rw[if_neg (e2 ▸ e1),<-e2];exact h
   ·rw[if_neg e2]at g
    have:=qv_ h
    have:=qv_ g
    rw[if_neg s!""]
    exact qg_ s!""
theorem lexLt_total:∀{xs ys:α2},lexLt xs ys=false->lexLt ys xs=false->xs=ys
 |[],[],_,_=>rfl
 |[],_::_,h,_=>by cases h
 |_::_,[],_,h=>by cases h
 |x::xs,y::ys,h,g=>by
  rw[lexLt_cons]at h g
  by_cases e:x=y
  ·rw[if_pos e]at h;rw[if_pos e.symm]at g;rw[e,lexLt_total h g]
  ·rw[if_neg e]at h;rw[if_neg (qx_ e)]at g
   have:=xq_ h
   have:=xq_ g
   lia
end HT
namespace aK
open PySem PyProof.Rows L2
noncomputable def pblt (x y:Int×α2):Bool:=if x.1=y.1 then HT.lexLt x.2 y.2 else decide (x.1<y.1)
theorem OH  (h:pblt a b=true)(g:pblt b c=true):pblt a c=true:=by
 unfold pblt at *
 by_cases e1:a.1=b.1
 ·rw[if_pos e1]at h
  by_cases e2:b.1=c.1
  ·rw[if_pos e2]at g;rw[if_pos (e1.trans e2)];exact HT.lexLt_trans h g
  ·rw[if_neg e2]at g;rw[if_neg (e1 ▸ e2),e1];exact g
 ·rw[if_neg e1]at h
  by_cases e2:b.1=c.1
  ·rw[if_neg (e2 ▸ e1),<-e2];exact h
  ·rw[if_neg e2]at g
   have:=qv_ h
   have:=qv_ g
   rw[if_neg s!""]
   exact qg_ s!""
theorem OI  (h:pblt a b=false)(g:pblt b a=false):a=b:=by
 unfold pblt at *
 by_cases e:a.1=b.1
 ·rw[if_pos e]at h;rw[if_pos e.symm]at g
  exact Prod.ext e (HT.lexLt_total h g)
 ·rw[if_neg e]at h;rw[if_neg (qx_ e)]at g
  have:=xq_ h
  have:=xq_ g
  lia
theorem ZW  (h:pblt a c=true):pblt a b=true\/pblt b c=true:=by
 cases e:pblt a b with
 |true=>exact .inl rfl
 |false=>
  cases e2:pblt b a with
  |true=>exact .inr (OH e2 h)
  |false=>have:=OI e e2;subst this;exact .inr h
noncomputable def KeyV (K:α3)(H:Hp)(v:Value)(n:Int)(ns:α2):Prop:=∃t u,v=.ref t/\SqT K H t [.int n,.ref u]/\SqT K H u (ns.map V.int)
open Classical in
noncomputable def kS (K:α3)(H:Hp):PyProof.Rows.KeyKind where
 α:=Int×α2
 blt:=pblt
 irrefl:=fun a=>by unfold pblt;rw[if_pos rfl];exact HT.lexLt_irr2
 trans:=fun _ _ _=>OH
 negTrans:=fun _ _ _=>ZW
 total:=fun _ _=>OI
 keyOf:=fun v=>if h:∃p:Int×α2,KeyV K H v p.1 p.2 then some h.choose else none
 dflt:=(0,[])
section
variable {X:Cx} {af:α7} {σ:L2.St} {H:Hp} {s:Shared}
theorem LX:∀{ns ms:α2},ns.map V.int=ms.map V.int->ns=ms
 |[],[],_=>rfl
 |[],_::_,h=>by cases h
 |_::_,[],h=>by cases h
 |n::ns,m::ms,h=>by
  simp only[j1_,xE_,V.int.injEq]at h
  rw[h.1,LX h.2]
theorem KeyV.inj (I:Inv X af σ H s)    (h:KeyV X.K H v n ns)(g:KeyV X.K H v m ms):n=m/\ns=ms:=by
 obtain⟨t,u,rfl,h1,h2⟩:=h
 obtain⟨t',u',e,g1,g2⟩:=g
 cases e
 have e:=I.tuple_inj h1 g1
 simp only[xE_,V.int.injEq,V.ref.injEq,and_true]at e
 obtain⟨rfl,rfl⟩:=e
 exact⟨rfl,LX (I.tuple_inj h2 g2)⟩
theorem ZX (I:Inv X af σ H s)    (h:KeyV X.K H x.1 n ns):KE (kS X.K H) x=(n,ns):=by
 have hex:∃p:Int×α2,KeyV X.K H x.1 p.1 p.2:=⟨(n,ns),h⟩
 have e:(kS X.K H).keyOf x.1=some hex.choose:=dif_pos hex
 have e2:=KeyV.inj I hex.choose_spec h
 unfold KE
 rw[e]
 exact Prod.ext e2.1 e2.2
theorem CY_ (I:Inv X af σ H s)   (hu:A.units+6<cLine)    (hv:KeyV X.K H v n ns)(hw:KeyV X.K H u m ms)  (h:Q (pblt (n,ns) (m,ms)) s):
  wpAny (model X.prog X.w) A (keyLt' (tuples' true) v u) Q E s:=by
 obtain⟨a,ta,rfl,ha,hta⟩:=hv
 obtain⟨b,tb,rfl,hb,jK⟩:=hw
 obtain⟨its,r1,⟨o1,q1,c1,n1,d1⟩,_⟩:=I.tuple ha
 obtain⟨aJ,r2,⟨o2,q2,c2,n2,d2⟩,_⟩:=I.tuple hb
 obtain⟨jts,k1,p1,_⟩:=I.tuple hta
 obtain⟨jts2,k2,p2,_⟩:=I.tuple jK
 have i1:IntsAre jts.toArray.toList ns:=intsAre_of k1
 have i2:IntsAre jts2.toArray.toList ms:=intsAre_of k2
 have eqT:=fun (bb:Bool) (he:EqD X.K H 2 (.ref ta) (.ref tb) bb)=>(EqD.at (x:=V.ref ta) (y:=V.ref tb) (u:=Value.ref ta) (v:=Value.ref tb) I 2 A s!"" rfl rfl he).1
 have hed:=EqD.ints (K:=X.K) (H:=H) (a:=ta) (c:=tb) (xs:=ns) (ys:=ms) (.inr ⟨hta,jK⟩) 1
 cases r1 with
 |cons e1 r1'=>cases r1' with
  |cons e2 r1''=>cases r1'';cases r2 with
   |cons e3 r2'=>cases r2' with
    |cons e4 r2'' =>
     cases r2''
     obtain⟨t1,rfl⟩:=e1
     obtain⟨t2,rfl⟩:=e3
     cases e2
     cases e4
     refine PySem.W.kat_lt q1 d1 q2 d2 ?_
     simp only[zM_,List.zip_nil_right]
     refine PySem.W.kat_cons (wpAny_eqBool_int (PySem.W.kat_go (fun e=>?_) (fun e=>?_)))
     ·have lH:n=m:=by simpa using e
      refine PySem.W.kat_yes (PySem.W.kat_cons (eqT _ hed _ _ _ _ (PySem.W.kat_go (fun e'=>?_) (fun e'=>?_))))
      ·have gn:ns=ms:=qv_ e'
       refine PySem.W.kat_yes (PySem.W.kat_nil ?_)
       have:pblt (n,ns) (m,ms)=decide (([Value.int n t1,Value.ref ta].toArray).size<([Value.int m t2,Value.ref tb].toArray).size):=by
        subst lH;subst gn
        unfold pblt
        rw[if_pos rfl,HT.lexLt_irr2];rfl
       rw[<-this];exact h
      ·have gn:ns≠ms:=xq_ e'
       refine PySem.W.kat_no (PySem.W.kat_one _ _ ?_)
       have:pblt (n,ns) (m,ms)=HT.lexLt ns ms:=by unfold pblt;rw[if_pos lH]
       rw[this]at h
       exact HT.lt_tupInts p1 p2 i1 i2 s!"" h
     ·have lH:n≠m:=by simpa using e
      refine PySem.W.kat_no ?_
      show wpAny _ _ (oneLt' true _ _) _ _ _
      refine oneLt_int ?_
      have:pblt (n,ns) (m,ms)=decide (n<m):=by unfold pblt;rw[if_neg lH]
      rw[<-this];exact h
theorem ltOk (I:Inv X af σ H s)   (hu:A.units+6<cLine)  (hk:∀x∈a₀.toList,∃n ns,KeyV X.K H x.1 n ns):LtOk (tuples' true) (kS X.K H) a₀ X.prog X.w A E s:=by
 intro x y st Q hx hy kg h
 obtain⟨n,ns,h1⟩:=hk x hx
 obtain⟨m,ms,h2⟩:=hk y hy
 rw[ZX I h1,ZX I h2]at h
 rw[lt'_eq]
 refine jy_ (wpS_get ?_)
 rw[kg]
 refine jy_ (wpS_lift (xH_ (CY_ I hu h1 h2 ⟨rfl,?_⟩)))
 exact jH_ h
end
end aK
namespace aK
open PySem PyProof.Rows L2
theorem Tr {α β:Type}{f:α->β}:∀{k l:List β},k.Perm l->∀m:List α,k=m.map f->∃m':List α,m'.Perm m/\l=m'.map f:=by
 intro k l h
 induction h with
 |nil=>intro m e;cases m with
  |nil=>exact⟨[],.refl _,rfl⟩
  |cons=>cases e
 |cons x _ ih=>intro m e;cases m with
  |nil=>cases e
  |cons y m=>
   simp only[j1_,xE_]at e
   obtain⟨rfl,e⟩:=e
   obtain⟨m',p,rfl⟩:=ih m e
   exact⟨y::m',p.cons y,rfl⟩
 |swap x y l=>intro m e;cases m with
  |nil=>cases e
  |cons a m=>cases m with
   |nil=>cases e
   |cons b m=>
    simp only[j1_,xE_]at e
    obtain⟨rfl,rfl,rfl⟩:=e
    exact⟨b::a::m,.swap a b m,rfl⟩
 |trans _ _ ih1 ih2=>
  intro m e
  obtain⟨m1,p1,e1⟩:=ih1 m e
  obtain⟨m2,p2,e2⟩:=ih2 m1 e1
  exact⟨m2,p2.trans p1,e2⟩
noncomputable abbrev Wd:=Addr×α2
noncomputable def wv (ws:List Wd):List V:=ws.map fun w=>V.ref w.1
noncomputable def wu (ws:List Wd):List Value:=ws.map fun w=>Value.ref w.1
theorem YK:∀ws:List Wd,Vals (wv ws) (wu ws)
 |[]=>.nil
 |_::r=>.cons rfl (YK r)
theorem IQ:∀{ts:List Addr} {us:List Value},Vals (ts.map V.ref) us->us=ts.map Value.ref
 |[],_,h=>by cases h;rfl
 |t::ts,_,h=>by
  cases h with
  |cons e r=>
   have e':_=Value.ref t:=e
   rw[IQ r,e'];rfl
noncomputable def kw (w:Wd):Int×α2:=((w.2.length:Int),w.2)
noncomputable def Srt (os:List Wd):Prop:=os.Pairwise fun p q=>pblt (kw q) (kw p)=false
noncomputable def WsOk (K:α3)(H:Hp)(ws:List Wd):Prop:=∀w∈ws,SqT K H w.1 (w.2.map V.int)
noncomputable def TsOk (K:α3)(H:Hp)(ts:List Addr)(ws:List Wd):Prop:=∀(j:Nat) t w,ts[j]?=some t->ws[j]?=some w->SqT K H t [.int w.2.length,.ref w.1]
section
variable {X:Cx} {af:α7} {σ:L2.St} {H H0:Hp} {s:Shared} {A:Around} {E:Value->Shared->Prop} {ws:List Wd} {ts:List Addr} {a kT:Addr} {e1:Nat} {P:PySem.Fin->Shared->Prop} {f:Value}
noncomputable def Turn (X:Cx)(af:α7)(σ:L2.St)(A:Around)(f:Value)(ws:List Wd)(H0:Hp):Prop:=∀w∈ws,∀(H':Hp) (s':Shared),Inv X af σ H' s'->Same H0 H' ->
 wpAny (model X.prog X.w) A (call f [.ref w.1]) (EP X af σ (fun k gm=>∃t,k=.ref t/\Same H' gm/\SqT X.K gm t [.int w.2.length,.ref w.1])) (fun _ _=>False) s'
noncomputable abbrev Emp (a:Addr)(e1:Nat):L2.HO:=.ext fun h=>h.get? a=some (seqObj "list" #[] e1)
noncomputable def ZY (X:Cx)(af:α7)(σ:L2.St)(H0:Hp)(a:Addr)(ws:List Wd)(P:PySem.Fin->Shared->Prop):Prop:=
 ∀s' H' os,Inv X af σ H' s'->Same H0 H'->H' a=some (.lst (wv os))->os.Perm ws->Srt os->P (.done (.ret .none)) s'
theorem EQ_ {st:SortSt}{os:List Wd}(I:Inv X af σ H s)(ha:H a=some (Emp a e1))(hk:H kT=some (.lst (ts.map V.ref)))(jL:kT≠a)(h0:Same H0 H)(hn:H0 a=none)(jM:H0 kT=none)(hz:os.length<=sizeLine)
  (harr:(arrOf st).map (·.2)=(wu os).toArray) (hf:failedOf st=none) (hp:os.Perm ws) (hs:Srt os) (h:ZY X af σ H0 a ws P):
  wpAny (model X.prog X.w) A (ksk_tail a false e1 (.ref kT) st) P E s:=by
 obtain⟨z,its,n,r,el,e⟩:=I.lstM hk
 have I1:Inv X af σ (upd H kT (.lst [])) {s with heap:=s.heap.update kT (Obj.mapSeq fun _=>(#[]:Array Value)),toks:=s.toks}:=I.lset (its':=[]) (f:=fun _ => #[]) hk e rfl .nil (jX_ _)
 have jN:upd H kT (.lst []) a=some (Emp a e1):=by rw[Ai (qx_ jL)];exact ha
 obtain⟨e2,_,_⟩:=I1.hok a _ jN
 unfold ksk_tail
 refine je_ (listUpdate_at e rfl ?_ (by rw[jl_,<-el];exact z) (jX_ _))
 refine je_ (wpAny_letGo ?_)
 refine je_ (seqEpoch_at e2 rfl ?_)
 simp only[jY_,q3_]
 rw[harr]
 refine je_ (listUpdate_at e2 rfl ?_ (jX_ _) (by rw[jl_];simp only[wu,ja_];lia))
 rw[hf]
 simp only[bne_self_eq_false,jY_,q3_]
 have q:=x1_ (f:=fun _=>(wu os).toArray) e2
 have I2:Inv X af σ (upd (upd H kT (.lst [])) a (.lst (wv os))) {s with heap:=(s.heap.update kT (Obj.mapSeq fun _=>(#[]:Array Value))).update a (Obj.mapSeq fun _=>(wu os).toArray),toks:=s.toks}:=by
  refine I1.write (x:=a) (e:=a) (by rw[jN];exact trivial) (.inl rfl) (fun b' u hb hu=>(j7_ _ _ (qx_ hb)).trans hu) ⟨_,q⟩ ⟨by simp only[wv,ja_];exact hz,wu os,_,YK os,q⟩
 exact ju_ (h _ _ os I2 ((h0.over jM).over hn) Ab hp hs)
theorem OJ (hl:ts.length=ws.length):((ts.map Value.ref).toArray.zip (wu ws).toArray).toList=(ts.zip ws).map fun p=>(Value.ref p.1,Value.ref p.2.1):=by
 rw[ksk_zip,zL_]
 unfold wu
 rw[List.zip_map]
 rfl
theorem YL (hl:ts.length=ws.length)(hT:TsOk X.K H ts ws)  (hp:p∈ts.zip ws):SqT X.K H p.1 [.int p.2.2.length,.ref p.2.1]:=by
 obtain⟨j,hj,e⟩:=xY_.mp hp
 rw[List.getElem_zip]at e
 rw[zJ_]at hj
 subst e
 exact hT j _ _ (jf_ s!"") (jf_ s!"")
theorem YM (I:Inv X af σ H s):∀(ts:List Addr) (ws:List Wd),ts.length=ws.length->(∀p∈ts.zip ws,SqT X.K H p.1 [.int p.2.2.length,.ref p.2.1])->∃fs:List Value,PySem.W.KatTups s.heap (ts.map Value.ref) fs/\fs.length=ts.length/\∀v∈fs,∃n t,v=.int n t
 |[],[],_,_=>⟨[],trivial,rfl,fun v hv=>by cases hv⟩
 |t::ts,w::ws,hl,h=>by
  obtain⟨fs,h1,h2,h3⟩:=YM I ts ws (by simpa using hl) (fun p hp=>h p (jk_ _ hp))
  have h4:SqT X.K H t [.int w.2.length,.ref w.1]:=h (t,w) jn_
  obtain⟨its,r,⟨o,ho,hc,n,hd⟩,_⟩:=I.tuple h4
  cases r with
  |cons e1 r' =>
   obtain⟨tk,rfl⟩:=e1
   refine⟨.int w.2.length tk::fs,PySem.W.KatTups.cons ho hc hd rfl h1,by simp[h2],fun v hv=>?_⟩
   rcases jL_.mp hv with rfl|hv
   ·exact⟨_,_,rfl⟩
   ·exact h3 v hv
theorem Fu_ (I:Inv X af σ H s)(hu:A.units+6<cLine)(ha:H a=some (Emp a e1))(hk:H kT=some (.lst (ts.map V.ref)))(jL:kT≠a)(h0:Same H0 H)(hn:H0 a=none)(jM:H0 kT=none)(hz:ws.length<=sizeLine)
  (hl:ts.length=ws.length) (hW:WsOk X.K H ws) (hT:TsOk X.K H ts ws) (h:ZY X af σ H0 a ws P):
  wpAny (model X.prog X.w) A (ksk_end a false (wu ws).toArray e1 (.ref kT) (ts.map Value.ref).toArray) P E s:=by
 have hsz:(wu ws).toArray.size=ws.length:=by simp[wu]
 have bZ:=fun p hp=>YL (X:=X) (H:=H) hl hT (p:=p) hp
 have fin:∀st:SortSt,(arrOf st).Perm ((ts.map Value.ref).toArray.zip (wu ws).toArray)->failedOf st=none->SO (kS X.K H) (arrOf st) 0 (arrOf st).size->wpAny (model X.prog X.w) A (ksk_tail a false e1 (.ref kT) st) P E s:=by
  intro st hp hf hs
  have jC:=(xX_.mp hp).symm
  rw[OJ hl]at jC
  obtain⟨m',p1,e⟩:=Tr jC _ rfl
  have e2:(arrOf st).map (·.2)=(wu (m'.map (·.2))).toArray:=by
   apply Array.ext'
   rw[Array.toList_map,e,zL_]
   simp[wu]
  have pz:(m'.map (·.2)).Perm ws:=by
   have:=p1.map (·.2)
   rwa [List.map_snd_zip s!""]at this
  refine EQ_ I ha hk jL h0 hn jM (by rw[pz.length_eq];exact hz) e2 hf pz ?_ h
  have eK:=(OG (jg_ _)).mp hs
  have e3:seg (arrOf st) 0 (arrOf st).size=(arrOf st).toList:=by unfold seg;rw[List.drop_zero];exact jO_ (by simp)
  rw[e3,e,xC_]at eK
  unfold Srt
  rw[xC_]
  refine eK.imp_of_mem (fun {x y} hx hy aS=>?_)
  have kx:KeyV X.K H (Value.ref x.1) x.2.2.length x.2.2:=⟨_,_,rfl,bZ x (p1.mem_iff.mp hx),hW _ (xw_ (p1.mem_iff.mp hx)).2⟩
  have ky:KeyV X.K H (Value.ref y.1) y.2.2.length y.2.2:=⟨_,_,rfl,bZ y (p1.mem_iff.mp hy),hW _ (xw_ (p1.mem_iff.mp hy)).2⟩
  unfold LeK at aS
  rw[ZX I (x:=(Value.ref x.1,Value.ref x.2.1)) kx,ZX I (x:=(Value.ref y.1,Value.ref y.2.1)) ky]at aS
  exact aS
 unfold ksk_end
 simp only[jY_,q3_]
 by_cases h2:(wu ws).toArray.size<2
 ·rw[if_pos h2,if_pos h2]
  refine je_ (ju_ ?_)
  rw[StateT.run_pure]
  refine je_ (ju_ ?_)
  refine fin (SortSt.mk' general' ((ts.map Value.ref).toArray.zip (wu ws).toArray) #[] 7 none) (Array.Perm.refl _) rfl ?_
  intro i j g1 g2 g3
  have g4:j<((ts.map Value.ref).toArray.zip (wu ws).toArray).size:=g3
  rw[Array.size_zip,hsz]at g4
  have:i=j:=by lia
  subst this
  exact qE_ _
 ·rw[if_neg h2,if_neg h2]
  obtain⟨fs,f1,f2,f3⟩:=YM I ts ws hl bZ
  refine je_ (PySem.W.kat_kind (T:=.type "int") f1 s!"" (fun v hv=>?_) (by decide) ?_)
  ·obtain⟨n,t,rfl⟩:=f3 v hv
   exact PySem.W.Looks.of_pure rfl
  ·have hz0:((ts.map Value.ref).toArray.zip (wu ws).toArray).size=ws.length:=by simp[wu,hl]
   refine je_ (qM_ (Tq (κ:=kS X.K H) (kd:=tuples' true) (a₀:=(ts.map Value.ref).toArray.zip (wu ws).toArray) (st:=SortSt.mk' (tuples' true) ((ts.map Value.ref).toArray.zip (wu ws).toArray) #[] 7 none)
    (Q:=fun _ ah=>SB (tuples' true) ((ts.map Value.ref).toArray.zip (wu ws).toArray) ah/\SO (kS X.K H) (arrOf ah) 0 ((ts.map Value.ref).toArray.zip (wu ws).toArray).size)
    (ltOk I hu (fun x hx=>?_)) ⟨Array.Perm.refl _,rfl,rfl⟩ rfl fun ah a1 a2=>⟨a1,a2⟩) ?_ fun _ _ e=>e)
   ·rw[OJ hl]at hx
    obtain⟨p,hp,rfl⟩:=jv_.mp hx
    exact⟨p.2.2.length,p.2.2,_,_,rfl,bZ p hp,hW _ (xw_ hp).2⟩
   ·rintro⟨⟨⟩,ah⟩ s' ⟨rfl,hB,hS⟩
    exact fin ah hB.perm hB.failed (by rw[hB.size];exact hS)
theorem WsOk.same {K:α3}  (h:WsOk K H ws)(e:Same H H'):WsOk K H' ws:=fun w hw=>e.seqT (h w hw)
theorem ZZ {K:α3}     (hp:H p=some (.lst zs))(h:SqT K H b xs):SqT K (upd H p o) b xs:=by
 have:TSq K H (upd H p o):=TSq.un (fun xs e=>by rw[hp]at e;cases e) (fun ob xs e=>by rw[hp]at e;cases e)
 exact this b xs h
theorem ER_ (I:Inv X af σ H s)(hu:A.units+6<cLine)(ha:H a=some (Emp a e1))(hk:H kT=some (.lst []))(jL:kT≠a)(h0:Same H0 H)(hn:H0 a=none)(jM:H0 kT=none)(hz:ws.length<sizeLine)
  (hW:WsOk X.K H0 ws) (hT:Turn X af σ A f ws H0) (h:ZY X af σ H0 a ws P):
  wpAny (model X.prog X.w) A (ksk_rest a f false (wu ws).toArray e1 (.ref kT)) P E s:=by
 unfold ksk_rest
 refine je_ (wpAny_rule ?_)
 rw[List.forIn_toArray]
 refine je_ (ksk_fold (fun i s'=>∃(H':Hp) (ts:List Addr),Inv X af σ H' s'/\Same H0 H'/\H' a=some (Emp a e1)/\H' kT=some (.lst (ts.map V.ref))/\ts.length=i/\TsOk X.K H' ts ws) (wu ws) 0 s
  ⟨H,[],I,h0,ha,hk,rfl,fun j t w h1 _=>by simp at h1⟩ ?step ?done)
 case step=>
  rintro j x s' hx ⟨H',ts,I',g0,g1,g2,g3,g4⟩
  simp only[zr_]at g3 ⊢
  unfold wu at hx
  rw[jd_]at hx
  obtain⟨w,hw,rfl⟩:∃w,ws[j]?=some w/\Value.ref w.1=x:=by
   cases e:ws[j]? with
   |none=>rw[e]at hx;cases hx
   |some w=>rw[e]at hx;cases hx;exact⟨w,rfl,rfl⟩
  have hj:j<ws.length:=(jb_.mp hw).1
  refine je_ (xH_ (qM_ (hT w (jc_ hw) H' s' I' g0) (fun k s2 fm=>?_) fun _ _ z=>z.elim))
  obtain⟨v,H2,I2,rv,t,rfl,q1,q2⟩:=fm
  have rk:k=Value.ref t:=rv
  subst rk
  have fX:=q1 _ _ g2
  obtain⟨z,its,n,r,el,e⟩:=I2.lstM fX
  dsimp only
  have hi:=IQ r
  have iT:its.length=j:=by rw[hi,ja_];exact g3
  refine je_ (listUpdate_at e rfl ?_ (by rw[jl_,iT];lia) (by rw[Array.size_push,jl_,iT];lia))
  refine ju_ ⟨rfl,upd H2 kT (.lst ((ts++[t]).map V.ref)),ts++[t],?_,?_,?_,Ab,by simp[g3],?_⟩
  ·have:=I2.lset (its':=its++[Value.ref t]) (ys:=(ts++[t]).map V.ref) (f:=fun a=>a.push (Value.ref t)) (t':=s2.toks) fX e (by simp) (by rw[jS_];exact r.append (.cons rfl .nil)) (by rw[ja_,jo_,g3];simp;lia)
   exact this
  ·exact (g0.trans q1).over jM
  ·rw[Ai (qx_ jL)];exact q1 _ _ g1
  ·intro i t' w' h1 h2
   refine ZZ fX ?_
   by_cases hi:i<ts.length
   ·rw[jj_ hi]at h1
    exact q1.seqT (g4 i t' w' h1 h2)
   ·rw[jr_ s!""]at h1
    have:i-ts.length=0:=by
     by_cases hq:i-ts.length=0
     ·exact hq
     ·rw[jQ_ (by simp;lia)]at h1;cases h1
    rw[this]at h1
    cases h1
    have:i=j:=by lia
    subst this
    rw[hw]at h2;cases h2
    exact q2
 case done=>
  rintro s' ⟨H',ts,I',g0,g1,g2,g3,g4⟩
  obtain⟨z,its,n,r,el,e⟩:=I'.lstM g2
  have hi:=IQ r
  subst hi
  refine je_ (listItems_at e rfl ?_)
  exact Fu_ I' hu g1 g2 jL g0 hn jM s!"" (by rw[g3];simp[wu]) (hW.same g0) g4 h
theorem ES_ {n:Nat}(I:Inv X af σ H s)(hu:A.units+6<cLine)(ha:H a=some (.lst (wv ws)))(h0:Same H0 H)(hn:H0 a=none)(hz:ws.length<sizeLine)(iU:∀b,s.heap.objs.size<=b->H0 b=none)
  (hW:WsOk X.K H0 ws) (hT:Turn X af σ A f ws H0) (h:ZY X af σ H0 a ws P):
  wpAny (model X.prog X.w) A (ksk_tree a f false) P E s:=by
 obtain⟨z,its,n,r,el,e⟩:=I.lstM ha
 have hi:its=wu ws:=by
  have:Vals ((ws.map (·.1)).map V.ref) its:=by rw[jW_];exact r
  rw[IQ this,jW_];rfl
 subst hi
 have q:=x1_ (f:=fun _=>(#[]:Array Value)) e
 obtain⟨e1,jO⟩:∃e1,(s.heap.update a (Obj.mapSeq fun _=>(#[]:Array Value))).get? a=some (seqObj "list" #[] e1):=⟨_,q⟩
 have I1:Inv X af σ (upd H a (Emp a e1)) {s with heap:=s.heap.update a (Obj.mapSeq fun _=>(#[]:Array Value)),toks:=s.toks}:=by
  refine I.write (x:=a) (e:=a) (by rw[ha];exact trivial) (.inl rfl) (fun b' u hb hu=>(j7_ _ _ (qx_ hb)).trans hu) ⟨_,jO⟩ ⟨jO,⟨_,jO⟩,fun h1 h2 g1 g2=>g2 _ g1⟩
 unfold ksk_tree
 refine je_ (listItems_at e rfl ?_)
 refine je_ (listUpdate_at e rfl ?_ (by rw[jl_];simp only[wu,ja_];lia) (jX_ _))
 refine je_ (seqEpoch_at jO rfl ?_)
 refine je_ (wpAny_newTuple ?_ (by rw[zL_];simp only[wu,ja_];lia))
 refine je_ (wpAny_newList ?_ (jX_ _))
 refine qX_ ?_
 have I2:=I1.kept (t':=s.toks) (h':=(s.heap.update a (Obj.mapSeq fun _=>(#[]:Array Value))).push {cls:=.type "tuple",data:=.seq (wu ws).toArray}) (fun _ _ q=>jm_ _ q)
 have I3:=I2.lnew (t':=s.toks) (its:=[]) (ys:=[]) .nil (jX_ _)
 have hk:((s.heap.update a (Obj.mapSeq fun _=>(#[]:Array Value))).push {cls:=.type "tuple",data:=.seq (wu ws).toArray}).objs.size=s.heap.objs.size+1:=by rw[size_push',Heap.size_update]
 have au:=js_ e
 refine ER_ I3 hu ?_ Ab ?_ ?_ hn ?_ hz hW hT h
 ·rw[Ai (by show a≠_;rw[hk];exact jK_ (xh_ au))];exact Ab
 ·show _≠a
  rw[hk];exact qR_ (xh_ au)
 ·refine (h0.over hn).over (iU _ ?_)
  show _<=_
  rw[hk];lia
 ·refine iU _ ?_
  show _<=_
  rw[hk];lia
noncomputable def Fv_ (X:Cx)(af:α7)(σ:L2.St)(H:Hp)(ws:List Wd)(Q:Value->Shared->Prop):Prop:=
 ∀s' H' D os,Inv X af σ H' s'->Same H H'->H D=none->H' D=some (.lst (wv os))->os.Perm ws->Srt os->Q (.ref D) s'
theorem Z0   (I:Inv X af σ H s)(hu:A.units+8<cLine)(hl:SqL X.K H l (wv ws))(hz:ws.length<sizeLine)(hW:WsOk X.K H ws)
  (hT:Turn X af σ A.in1.in1 (.ref q) ws H) (h:Fv_ X af σ H ws Q):
  wpAny (model X.prog X.w) A (call (.builtin "sorted") [.ref l] [(Str.ofString "key",.ref q)]) Q E s:=by
 obtain⟨its,r,pl,_⟩:=I.list hl
 have hi:its=wu ws:=by
  have:Vals ((ws.map (·.1)).map V.ref) its:=by rw[jW_];exact r
  rw[IQ this,jW_];rfl
 subst hi
 have ak:(wu ws).length=ws.length:=by simp[wu]
 refine call_function_entry_kw kind_sorted plain_sorted entry_sorted (ksk_s1 _ _) ?_
 unfold Builtin.«sorted»
 refine je_ (m:=checkCount "sorted" 1 1 _) (ju_ ?_)
 refine je_ (collect_list (vs:=wu ws) ?isl ?_ s!"")
 case isl=>
  exact pl.isList
 refine je_ (wpAny_newList ?_ s!"")
 have hsz:((s.heap.push (seqObj "list" #[] 0)).update s.heap.objs.size (Obj.mapSeq (· ++ (wu ws).toArray))).objs.size=s.heap.objs.size+1:=by
  rw[Heap.size_update,size_push']
 have keep:∀b o,s.heap.get? b=some o->((s.heap.push (seqObj "list" #[] 0)).update s.heap.objs.size (Obj.mapSeq (· ++ (wu ws).toArray))).get? b=some o:=fun b o q=>by
  have au:b<s.heap.objs.size:=js_ q
  rw[Heap.get?_update_ne _ _ _ _ (jK_ au),Heap.get?_push_ne _ _ _ (jK_ au)]
  exact q
 have I1:=I.kept (t':=s.toks) keep
 have I2:=I1.lnew (t':=s.toks) (its:=wu ws) (ys:=wv ws) (YK ws) (by simp only[wv,ja_];lia)
 have hD:H (s.heap.objs.size+1)=none:=I.hok.fresh (zX_ _)
 have mz:(((s.heap.push (seqObj "list" #[] 0)).update s.heap.objs.size (Obj.mapSeq (· ++ (wu ws).toArray))).push (seqObj "list" (wu ws).toArray 0)).get? (s.heap.objs.size+1)=some (seqObj "list" (wu ws).toArray 0):=by
  rw[<-hsz];exact jC_ _ rfl
 show wpAny _ _ _ _ _ {s with heap:=((s.heap.push (seqObj "list" #[] 0)).update s.heap.objs.size (Obj.mapSeq (· ++ (wu ws).toArray))).push (seqObj "list" (wu ws).toArray 0)}
 have I3:Inv X af σ (upd H (s.heap.objs.size+1) (.lst (wv ws))) {s with heap:=((s.heap.push (seqObj "list" #[] 0)).update s.heap.objs.size (Obj.mapSeq (· ++ (wu ws).toArray))).push (seqObj "list" (wu ws).toArray 0)}:=by
  have:=I2
  dsimp only at this
  rw[hsz]at this
  exact this
 rw[hsz]
 refine je_ (qX_ (wpAny_call_entry_kw slot_list_sort ⟨_,mz,rfl⟩ entry_list_sort ?body (ksk_l1 _ _)))
 case body=>
  have dJ:=ksk_t1 q (s.heap.objs.size+1)
  show wpAny (model X.prog X.w) A.in1.in1 (Builtin.«list.sort» ⟨[.ref (s.heap.objs.size+1)],[(Str.ofString "key",.ref q)]⟩) _ _ _
  rw[dJ]
  refine ES_ (n:=0) (H0:=H) I3 (by rw[in1_units,in1_units];lia) Ab (Same.new hD) hD hz (fun b hb=>I.hok.fresh ?_) hW hT fun s' H' os I' g1 g2 g3 g4=>⟨_,rfl,?_⟩
  ·have iy:(((s.heap.push (seqObj "list" #[] 0)).update s.heap.objs.size (Obj.mapSeq (· ++ (wu ws).toArray))).push (seqObj "list" (wu ws).toArray 0)).objs.size<=b:=hb
   rw[size_push',hsz]at iy
   lia
  ·exact ju_ ⟨_,rfl,h s' H' _ os I' g1 hD g2 g3 g4⟩
end
end aK
namespace L2
open PySem PySem.Spec PyProof.Rows
theorem ET_   {K:α3}
               (S:FnScope N ps scope) (hr:Room (k+1) A) (e0:Env0 P w K mg base A outer s H)
    (ho:s.heap.get? f=some (PySem.W.kla_obj name qual params body scope [] pm c' fY)) (bE:s.heap.CodeRec (.ref c') qual) (hb:bindArgs (PySem.W.kla_fn name qual params body scope [] pm (.ref c') fY) args=pure (ps.zip us)) (r:Vals vs us) (hl:vs.length=ps.length)
    (ht:PE (cxOf CX0 P w K mg base N qual scope f (.ref c') A outer s H E).nox body t) (hq:t (start N vs) H Q):codeAny (model P w) A (.call (.ref f) args) (CR CX0 outer P w H s Q E) s:=by
  have mF:s.heap.NoLimit:=e0.mod.nolimit.keeps fun b o e=>(e0.bs b o e).1
  have fe:∀y∈ps.zip us,scope.names.lookup y.1=some .local\/(scope.names.lookup y.1=some .cell/\((cellsFrom (s.heap.objs.size+1) scope.names []).lookup y.1).isSome=true):=fun ⟨n,v⟩ hy=>by
    rcases S.par n (xw_ hy).1 with q|q
    . exact .inl q
    . exact .inr ⟨q,xK_ _ _ _ (.inl q)⟩
  refine PySem.W.kla_callFunE hr.depth ho rfl S.co S.gen rfl bE ?_
  rw[hb]
  refine ju_ ?_
  refine wpAny_newFunctionEnv_cells S.kind fe fun env he s1 x=>?_
  subst he
  refine⟨mF.keeps x.toInCall.keep,PySem.W.kla_codeExpr ?_⟩
  have I:Inv (cxOf CX0 P w K mg base N qual scope f (.ref c') A outer s H E) [] (start N vs) H s1:=Q0 S hr.hd e0 hl r x
  refine qM_ (ht [] s1 (start N vs) H _ (I.wish _) hq) (fun u s' hs=>?_) fun e s' hs=>hs.elim
  obtain⟨v,H',J,rv,q⟩:=hs
  have J':=J.unwish
  exact⟨v,H',J'.os,J'.bare,J'.base,J'.hok,rv,q⟩
noncomputable def BmOk (mg:Str->α5)(base:Heap):Prop:=∃bm ob,mg "__builtins__"=some (.ref bm)/\bm≠builtinsNs/\base.get? bm=some ob/\ob.cls=.type "module" /\ ob.dict=some builtinsNs/\ob.data=.plain
end L2
namespace L2
open PySem PySem.Spec PyProof.Rows aK
noncomputable abbrev lamA (ap:Pos):Arguments:={posonlyargs:=[],args:=[{arg := "word",annotation:=none,pos:=ap}],vararg:=none,kwonlyargs:=[],kw_defaults:=[],kwarg:=none,defaults:=[]}
noncomputable abbrev lamB (p1 p2 p3 p4 p5:Pos):Expr:=.Tuple [.Call (.Name "len" p1) [.Name "word" p2] [] p3,.Name "word" p4] 0 p5
noncomputable abbrev lamS:Scope:={kind:=.function,names:=[(Str.ofString "word",.local),(Str.ofString "len",.globalImplicit)],isGenerator:=false,isCoroutine:=false,more:=[]}
theorem Z5:FnScope ["word"] ["word"] lamS:=⟨rfl,rfl,rfl,by decide,rfl,fun x hx=>.inl (by rw[jq_.mp hx];rfl),fun y hy=>by
 rcases jL_.mp hy with rfl|hy
 ·simp
 ·rw[jq_.mp hy];simp⟩
end L2
namespace L2
open PySem PySem.Spec PyProof.Rows
theorem YN   {K:α3}
  (KX:K.In s₁.heap) (gn:s₁.heap.Ns mainGlobals mg) (hb:s₁.heap.Ns builtinsNs mb) (hbb:∀x:Str,x ≠ "__name__" -> mb x=bootBuiltins x) (hlim:s₁.heap.NoLimit) (hg:s₁.gens = #[]) (ng:BmOk mg s₁.heap)
  (hC:PySem.W.CodeHd s₁.heap c T) (hT:s₁.heap.get? T=some (PySem.W.tabObj #[])) (nh:K.lookup T=none)
  (ha:s₁.heap.get? a=some {cls:=.type "list",data:=.seq vs.toArray}) (hi:IntsAre vs ns) (hl:ns.length<=sizeLine) (hr:Room k callerA)
  (F:∀base:Heap,K.In base->base.Ns mainGlobals mg->PySem.W.CodeHd base c T->BmOk mg base->FnOk P w K mg base CX k fa fd [x] sp) (hbind:∀(s:Shared) (u:Value),BindsTo s fd ⟨[u],[]⟩ [(x,u)])
  (dY:∀H:Hp,H T=some (.tbl #[])->SqL K H a (ns.map V.int)->sp [.ref a] H (fun v _=>v=.bl true) fun _ _ _=>False)
  (ni:∀H e s',CX [] H s₁ (fun _ _ _=>False) e s'->False):
  codeAny (model P w) callerA (.call (.ref fa) ⟨[.ref a],[]⟩) (fun r s'=>r=.ok (.ret (.bool true))/\OldK s₁.heap s'.heap/\s'.os=s₁.os/\AllBare s'.gens) s₁:=by
 have rv:=Q2 hi
 have lenV:=hi.length
 have hTa:T≠a:=fun z=>by subst z;rw[hT]at ha;cases ha
 have core:∀H:Hp,H T=some (.tbl #[])->SqL K H a (ns.map V.int)->HOk P w H s₁.heap->(∀b,H b≠none->b=T\/(b=a/\K.lookup a=none/\∃o xs,H a=some (.frz o (.lst xs)))) ->
   codeAny (model P w) callerA (.call (.ref fa) ⟨[.ref a],[]⟩) (fun r s'=>r=.ok (.ret (.bool true))/\OldK s₁.heap s'.heap/\s'.os=s₁.os/\AllBare s'.gens) s₁:=by
  intro H hHT hS hok hA
  have free:∀{b:Addr} {o:Obj},s₁.heap.get? b=some o->o.cls ≠ .none->o.data ≠ .seq vs.toArray 0->H b=none:=fun {b o} e h1 h2=>by
   cases q:H b with
   |none=>rfl
   |some u=>
    rcases hA b (by rw[q];simp) with rfl|⟨rfl,_⟩
    ·rw[hT]at e;cases e;exact absurd rfl h1
    ·rw[ha]at e;cases e;exact absurd rfl h2
  have lJ:∀{b:Addr} {m:Str->α5},s₁.heap.Ns b m->(hidT s₁.heap H).Ns b m:=fun {b m} ⟨o,es,ep,e,d,r⟩=>⟨o,es,ep,Lh e (by
   cases q:H b with
   |none=>rfl
   |some u=>
    rcases hA b (by rw[q];simp) with rfl|⟨rfl,_⟩
    ·rw[hT]at e;cases e;cases d
    ·rw[ha]at e;cases e;cases d),d,r⟩
  have hKb:K.In (hidT s₁.heap H):=fun b o e=>Lh (KX b o e) (by
   cases q:H b with
   |none=>rfl
   |some u=>
    rcases hA b (by rw[q];simp) with rfl|⟨rfl,z,_⟩
    ·rw[nh]at e;cases e
    ·rw[z]at e;cases e)
  have hM:Mod K mg (hidT s₁.heap H):=⟨hKb,lJ gn,⟨mb,lJ hb,hbb⟩,let ⟨mc,h1,h2⟩:=hlim;⟨mc,lJ h1,h2⟩⟩
  have e0:Env0 P w K mg (hidT s₁.heap H) callerA [] s₁ H:=⟨rfl,hM,fun b o e=>Cb_ e,Nat.le_of_eq (W6 _ _),trivial,fun b hb=>absurd (show b∈([]:List Addr) from hb) (by simp),hok,.of_eq hg⟩
  have hCb:PySem.W.CodeHd (hidT s₁.heap H) c T:=by
   obtain⟨o,ws,file,tf,flags,tg,inF,text,tt,e,hc,hd,r⟩:=id hC
   exact⟨o,ws,file,tf,flags,tg,inF,text,tt,Lh e (free e (by rw[hc];intro z;cases z) (by rw[hd];intro z;cases z)),hc,hd,r⟩
  have hbb2:BmOk mg (hidT s₁.heap H):=by
   obtain⟨bm,ob,b1,b2,b3,b4,b5,b6⟩:=ng
   exact⟨bm,ob,b1,b2,Lh b3 (free b3 (by rw[b4];intro z;cases z) (by rw[b6];intro z;cases z)),b4,b5,b6⟩
  refine codeAny_mono ((F _ hKb (lJ gn) hCb hbb2).run callerA [] s₁ H ⟨[.ref a],[]⟩ [.ref a] [.ref a] _ _ hr e0 (hbind s₁ (.ref a)) (.cons rfl .nil) (dY H hHT hS)) fun r s' h=>?_
  cases r with
  |error e=>exact (ni H e s' h).elim
  |ok fl=>
   cases fl with
   |next=>exact False.elim h
   |brk=>exact False.elim h
   |cont=>exact False.elim h
   |ret u=>
    obtain⟨v,H',os,bare,un,hok',r',q⟩:=h
    have q':v=.bl true:=q
    subst q'
    obtain rfl:u=Value.bool true:=r'
    have noB:∀b:Addr,b∉frs ([]:List Env):=fun b z=>absurd (show b∈([]:List Addr) from z) (by simp)
    have all:∀b o,s₁.heap.get? b=some o->asItWas s₁.heap s'.heap b o:=fun b o e=>by
     cases q:H b with
     |none=>exact .inl (un.keep b o e q (noB b) (by simp))
     |some u=>
      rcases hA b (by rw[q];simp) with rfl|⟨rfl,_,ob,xs,z⟩
      ·obtain⟨more,z2⟩:=un.tbls b _ hHT
       have e2:s'.heap.get? b=some {cls:=.none,data:=.fields (#[]++more)}:=hok' b _ z2
       rw[hT]at e;cases e
       obtain⟨o',ws,_,_,_,_,_,_,_,e3,hc,hd,h11,_⟩:=hC
       exact .inr (.inl ⟨⟨c,o',ws,e3,hc,hd,h11⟩,rfl,#[],more,rfl,e2⟩)
      ·have z2:=un.frzs b ob _ z
       obtain⟨e1,_⟩:=hok b _ z
       obtain⟨e2,_⟩:=hok' b _ z2
       rw[e]at e1;cases e1
       exact .inl e2
    refine⟨rfl,⟨all,fun b o e=>?_⟩,os,bare⟩
    exact un.there b o e (by simp)
 cases hk:K.lookup a with
 |some o=>
  have e:=KX a o hk
  rw[ha]at e
  cases e
  refine core (fun b=>if b=T then some (.tbl #[]) else none) (if_pos rfl) (.inr ⟨_,vs.toArray,_,hk,rfl,rfl,rfl,by rw[jl_,lenV];exact hl,by simpa using rv⟩) (fun b u z=>?_) (fun b z=>?_)
  ·by_cases hb:b=T
   ·have z':=(if_pos hb).symm.trans z
    cases z';subst hb;exact hT
   ·have z':=(if_neg hb).symm.trans z
    cases z'
  ·by_cases hb:b=T
   ·exact .inl hb
   ·exact absurd (if_neg hb) z
 |none=>
  refine core (fun b=>if b=T then some (.tbl #[]) else if b=a then some (.frz {cls:=.type "list",data:=.seq vs.toArray} (.lst (ns.map V.int))) else none) (if_pos rfl) (.inl (.inr ⟨{cls:=.type "list",data:=.seq vs.toArray},by show (if a=T then _ else _)=_;rw[if_neg (qx_ hTa),if_pos rfl]⟩)) (fun b u z=>?_) (fun b z=>?_)
  ·by_cases hb:b=T
   ·have z':=(if_pos hb).symm.trans z
    cases z';subst hb;exact hT
   ·have z1:=(if_neg hb).symm.trans z
    by_cases eg:b=a
    ·have z':=(if_pos eg).symm.trans z1
     cases z'
     subst eg
     exact⟨ha,by rw[ja_];exact hl,vs,_,rv,ha⟩
    ·have z':=(if_neg eg).symm.trans z1
     cases z'
  ·by_cases hb:b=T
   ·exact .inl hb
   ·by_cases eg:b=a
    ·exact .inr ⟨eg,hk,_,_,by show (if a=T then _ else _)=_;rw[if_neg (qx_ hTa),if_pos rfl]⟩
    ·exact absurd (by show (if b=T then _ else _)=_;rw[if_neg hb,if_neg eg]) z
theorem walk_ofT {l:PySem.W.OpenLaw}{n k:Nat}{q:Program}{cb:List Str}{XP:(Str->α5)->Heap->Prop}{YP:World->Heap->Prop}{d:DefRec}{K:Params->α3}{CX:World->CXT}{sp:World->Sp}{x xT:Str}
  (hn:l.most=some n) (fE:n<=sizeLine) (kf:d.params.defaults=[]) (hr:Room k callerA)
  (hY:∀(w:World) (h:Heap),YP w h->(K w.params).In h)
  (F:∀(w:World) (mg:Str->α5) (fa:Addr) (h:Heap),YP w h->(K w.params).In h->h.Ns mainGlobals mg->mg d.name=some (.ref fa) ->
   ∃(fd:α6) (c T:Addr),PySem.W.tabIn (K w.params) xT=some (c,T)/\(K w.params).lookup T=none/\PySem.W.CodeHd h c T/\h.get? T=some (PySem.W.tabObj #[])/\(∀(s:Shared) (u:Value),BindsTo s fd ⟨[u],[]⟩ [(x,u)]) /\
    ∀base:Heap,(K w.params).In base->base.Ns mainGlobals mg->PySem.W.CodeHd base c T->BmOk mg base->FnOk l.prog w (K w.params) mg base (CX w) k fa fd [x] (sp w))
  (dY:∀(w:World) (H:Hp) (a c T:Addr) (ns:α2),ns.length<=n->PySem.W.tabIn (K w.params) xT=some (c,T)->H T=some (.tbl #[])->SqL (K w.params) H a (ns.map V.int)->sp w [.ref a] H (fun v _=>v=.bl true) fun _ _ _=>False)
  (ni:∀(w:World) (H:Hp) (s:Shared) (e:Value) (s':Shared),CX w [] H s (fun _ _ _=>False) e s'->False):
  PySem.W.WalkO q cb XP YP l.row.toRowW d [] (fun f vs=>PySem.call f vs):=by
 refine Att.attach_call hn kf fun w s₀ s₁ mg mb fa o pm cd bA a vs ns G Y ho hd bE hmg br fj ak hg=>?_
 have KX:=hY w _ Y
 obtain⟨fd,c,T,iT,nh,hC,hT,hb,hF⟩:=F w mg fa _ Y KX G.T.g hmg
 exact YN KX G.T.g G.T.b G.T.builtins G.T.nolimit hg (let ⟨bm,ob,b1,b2,b3,b4,b5,b6⟩:=G.T.bmain;⟨bm,ob,b1,b2,b3,b4,b5,b6⟩) hC hT nh br fj (ql_ ak fE) hr hF hb (fun H hO hS=>dY w H a c T ns ak iT hO hS) fun H e s'=>ni w H s₁ e s'
noncomputable def tabC (K:α3)(x:Str):Addr:=((PySem.W.tabIn K x).getD (0,0)).1
noncomputable def tabP (K:α3)(x:Str):Addr:=((PySem.W.tabIn K x).getD (0,0)).2
theorem Ts {K:α3}   (h:PySem.W.tabIn K x=some (c,T)):tabC K x=c:=by unfold tabC;rw[h];rfl
theorem YO {K:α3}   (h:PySem.W.tabIn K x=some (c,T)):tabP K x=T:=by unfold tabP;rw[h];rfl
theorem Z6 {K:α3}      {sl fS:Array (α5)}  (a:nsIn K mainGlobals x=some (some (.ref f)))(l:K.lookup f=some ⟨oc,od,.func fd,sl⟩)(hc:fd.code=.ref c)
  (lc:K.lookup c=some ⟨oc2,od2,.fields vs,fS⟩) (h:vs[11]?=some (.ref T)):PySem.W.tabIn K x=some (c,T):=by
 unfold PySem.W.tabIn
 rw[a]
 dsimp only
 rw[l]
 dsimp only
 rw[hc]
 dsimp only
 rw[lc]
 dsimp only
 rw[h]
structure FunL (K:α3)(mg:Str->α5)(base:Heap)(x qual:Str)(st:Stmt)(f:Addr)(fd:α6):Prop where
 ex:∃(oc:Value) (od:Option Addr) (kV bA pm:Value) (an:Option Addr) (ct:Value) (fb:Array (α5)),
  fd=fnOf x qual (Az st) (Ax st) (Af st) .none kV bA pm an (.ref (tabC K x)) ct/\K.lookup f=some ⟨oc,od,.func fd,fb⟩/\codeIn K (.ref (tabC K x)) qual=true
 C:PySem.W.CodeHd base (tabC K x) (tabP K x)
 B:BmOk mg base
section
variable {P:Program} {w:World} {K:α3} {mg:Str->α5} {base:Heap}
theorem FunL.ok  {st:Stmt}      (F:FunL K mg base x qual st f fd)(S:FnScope N ps (Af st))(len:∀vs H Q E,sp vs H Q E->vs.length=ps.length)
  (cP:∀(ay:Value) (bE:ay=.ref (tabC K x)) (A:Around) (outer:List Env) (s:Shared) (H:Hp) (vs:List V) (Q:VK) (E:XK),Room k (A.deeper (envOfC qual (Af st) s.heap.objs.size f ay))->sp vs H Q E ->
   ∃t,PSs (cxOf CX0 P w K mg base N qual (Af st) f ay A outer s H E).nox (Ax st) t/\t {nx:=fun _ H'=>Q .non H',rt:=Q} (start N vs) H):FnOk P w K mg base CX0 (k+1) f fd ps sp:=by
 obtain⟨oc,od,kV,bA,pm,an,ct,fb,rfl,lk,bE⟩:=F.ex
 refine DE_ lk bE S len fun A outer s H vs Q E hr dY=>?_
 obtain⟨t,h,q⟩:=cP _ rfl A outer s H vs Q E hr dY
 exact⟨t,h.nox,q⟩
theorem CZ_  {st:Stmt}     {kV bA pm ct:Value}(ti:PySem.W.tabIn K x=some (c,T))(l:K.lookup f=some ⟨oc,od,.func (fnOf x qual (Az st) (Ax st) (Af st) .none kV bA pm an (.ref c) ct),fb⟩)
  (hc:codeIn K (.ref c) qual=true) (C:PySem.W.CodeHd base c T) (B:BmOk mg base):FunL K mg base x qual st f (fnOf x qual (Az st) (Ax st) (Af st) .none kV bA pm an (.ref c) ct):=
 ⟨⟨oc,od,kV,bA,pm,an,ct,fb,by rw[Ts ti],l,by rw[Ts ti];exact hc⟩,by rw[Ts ti,YO ti];exact C,B⟩
end
end L2
namespace L2
open PySem PySem.Spec PyProof.Rows aK
noncomputable def DH (T:Addr)(H H':Hp):Prop:=∀b o,b≠T->H b=some o->H' b=some o
noncomputable def LamT (T:Addr)(lp:Pos)(qual:Str)(H:Hp):Prop:=H T=some (.tbl #[]) \/ ∃(c':Addr) (oc:Obj) (vs:Array Value) (t:Tok),H T=some (.tbl #[rawInt lp.line,rawInt lp.col,.ref c'])/\H c'=some (.frz oc (.own 0))/\oc.data=.fields vs/\vs[1]?=some (.str (qual ++ "<lambda>") t)
theorem LamT.is     (h:LamT T lp qual H):∃ps,H T=some (.tbl ps):=by
 rcases h with h|⟨_,_,_,_,h,_⟩
 ·exact⟨_,h⟩
 ·exact⟨_,h⟩
theorem LamT.mono     (h:LamT T lp qual H)(s:Same H H'):LamT T lp qual H':=by
 rcases h with h|⟨c',oc,vs,t,h,h2,h3,h4⟩
 ·exact .inl (s _ _ h)
 ·exact .inr ⟨c',oc,vs,t,s _ _ h,s _ _ h2,h3,h4⟩
theorem DH.of   (s:Same H H'):DH T H H':=fun b o _ e=>s b o e
theorem DH.trans   (s:DH T H H')(s':DH T H' gm):DH T H gm:=fun b o hb e=>s' b o hb (s b o hb e)
theorem DH.ne   (s:DH T H H')   (e:H b=some o)(ho:∀ps,o ≠ .tbl ps)  (hT:H T=some (.tbl ps)):H' b=some o:=s b o (fun z=>by subst z;rw[hT]at e;cases e;exact ho _ rfl) e
theorem DH.tsq {K:α3}   (s:DH T H H')  (hT:H T=some (.tbl ps))   (h:SqT K H b ys):SqT K H' b ys:=by
 rcases h with h|h
 ·left
  rcases h with h|⟨o,h⟩
  ·exact .inl (s.ne h (fun _ z=>by cases z) hT)
  ·exact .inr ⟨o,s.ne h (fun _ z=>by cases z) hT⟩
 ·exact .inr h
theorem DH.lsq {K:α3}   (s:DH T H H')  (hT:H T=some (.tbl ps))   (h:SqL K H b ys):SqL K H' b ys:=by
 rcases h with h|h
 ·left
  rcases h with h|⟨o,h⟩
  ·exact .inl (s.ne h (fun _ z=>by cases z) hT)
  ·exact .inr ⟨o,s.ne h (fun _ z=>by cases z) hT⟩
 ·exact .inr h
theorem DH.none   (s:DH T H H')  (hT:H' T=some (.tbl ps))  (h:H' b=none):H b=none:=by
 cases q:H b with
 |none=>rfl
 |some o=>
  have:=s b o (fun z=>by subst z;rw[hT]at h;cases h) q
  rw[h]at this;cases this
section
variable {X:Cx} {af:α7} {σ:St} {H:Hp} {s:Shared}
theorem Inv.tabK      (I:Inv X af σ H s)(hP:H P=some (.tbl ps))(k:∀b o,b≠P->s.heap.get? b=some o->h'.get? b=some o)(e:h'.get? P=some (PySem.W.tabObj (ps++ps')))
  (hc:s.heap.objs.size<=c') (di:h'.get? c'=some oc):Inv X af σ (upd (upd H P (.tbl (ps++ps'))) c' (.frz oc (.own 0))) {s with heap:=h',toks:=t' }:=by
 have nP:∀b,H b=none->b≠P:=fun b n z=>by subst z;rw[hP]at n;cases n
 have kL:∀b u,H b=some u->(∀qs,u ≠ .tbl qs)->b≠P:=fun b u q hu z=>by subst z;rw[hP]at q;cases q;exact hu _ rfl
 have nC:∀b u,H b=some u->b≠c':=fun b u q z=>by subst z;rw[I.hok.fresh hc]at q;cases q
 have nC2:∀b o,s.heap.get? b=some o->b≠c':=fun b o q z=>by subst z;exact absurd (js_ q) (xU_.mpr hc)
 refine I.un ⟨fun b o q n _ _=>k b o (nP b n) q,fun b o q n _ _=>⟨o.slots,k b o (nP b n) q⟩,fun b o q n _=>by rw[Ai (nC2 b o q),Ai (nP b n)];exact n,fun b o q _=>?_,fun b xs q=>?_,fun b o u q=>?_,fun b qs q=>?_⟩ (fun b u q=>?_)
 ·by_cases hb:b=P
  ·subst hb;exact⟨_,e⟩
  ·exact⟨o,k b o hb q⟩
 ·rw[Ai (nC b _ q),Ai (kL b _ q (fun _ z=>by cases z))];exact q
 ·rw[Ai (nC b _ q),Ai (kL b _ q (fun _ z=>by cases z))];exact q
 ·by_cases hb:b=P
  ·subst hb;rw[hP]at q;cases q;exact⟨ps',by rw[Ai (nC b _ hP)];exact Ab⟩
  ·rw[Ai (nC b _ q),Ai hb];exact⟨#[],by rw[q];simp⟩
 ·by_cases hbc:b=c'
  ·subst hbc;rw[Ab]at q;cases q;exact⟨di,_,di⟩
  rw[Ai hbc]at q
  by_cases hb:b=P
  ·subst hb;rw[Ab]at q;cases q;exact e
  ·rw[Ai hb]at q
   refine (I.hok b u q).stay (fun c v hc r=>k c v ?_ r) (fun c r=>by rw[Ai (nC c _ r),Ai (kL c _ r (fun _ z=>by cases z))];exact r) fun c xs r=>by rw[Ai (nC c _ r),Ai (kL c _ r (fun _ z=>by cases z))];exact r
   rcases hc with rfl|hc
   ·exact hb
   ·exact kL c _ hc (fun _ z=>by cases z)
theorem YQ          (I:Inv X af σ H s)(dO:X.env.code=.ref c)(C:PySem.W.CodeHd X.base c P)(hL:LamT P pos X.env.qual H)
  (hb:BmOk X.mg X.base) (bw:closureFor scope X.env=pure []) (hdef:defaultsOf params X.env=([],[]))
  (h:∀(f c':Addr) (oc:Obj) (vs:Array Value) (t:Tok) (fY:Value) (H':Hp) (s':Shared),Inv X (af++[(f,PySem.W.kla_obj "<lambda>" (X.env.qual ++ "<lambda>") params body scope [] ((X.mg "__name__").getD .none) c' fY)]) σ H' s'->DH P H H'->H' P=some (.tbl #[rawInt pos.line,rawInt pos.col,.ref c'])->H' c'=some (.frz oc (.own 0))->oc.data=.fields vs->vs[1]?=some (.str (X.env.qual ++ "<lambda>") t)->Q (.ref f) s'):
  wpAny M A (eval (.Lambda params body scope pos) X.env) Q E s:=by
 obtain⟨ps,hP⟩:=hL.is
 obtain⟨bm,ob,b1,b2,b3,b4,b5,b6⟩:=hb
 have hg:s.heap.Ns mainGlobals X.mg:=I.mod.glob.keeps I.bk
 have eP:s.heap.get? P=some (PySem.W.tabObj ps):=I.hok P _ hP
 have nb:∀b o,X.base.get? b=some o->b≠P:=fun b o e z=>by subst z;have:=(I.bs b o e).2;rw[hP]at this;cases this
 have hgP:mainGlobals≠P:=by
  obtain⟨o,es,ep,e,_⟩:=I.mod.glob
  exact nb _ _ e
 have hbG:bm≠mainGlobals:=fun q=>by
  obtain⟨o,es,ep,e,hd,_⟩:=I.mod.glob
  rw[q,e]at b3;cases b3;rw[hd]at b6;cases b6
 refine PySem.W.kla_eval hdef ?_
 rcases hL with hL|⟨c',oc,vs,t,h1,h2,h3,h4⟩
 ·have:ps = #[]:=by rw[hL]at hP;cases hP;rfl
  subst this
  refine PySem.W.kla_makeFunction (mg:=X.mg) bw I.ok.glob hg dO (C.keeps I.bk) eP (by trivial) rfl hgP ⟨bm,ob,b1,b2,hbG,nb _ _ b3,I.bk _ _ b3,b4,b5,b6⟩ fun c' fY h' tk hx bj au hrec jK=>?_
  obtain⟨c₂,oc,vs,t,e2,di,hd,hv⟩:=hrec
  cases e2
  have I1:=I.tabK (t':=tk) (h':=h'.push (PySem.W.kla_obj "<lambda>" (X.env.qual ++ "<lambda>") params body scope [] ((X.mg "__name__").getD .none) c' fY)) hP (fun b o hb e=>jm_ _ (hx b o hb e)) (jm_ _ jK) bj (jm_ _ di)
  have hsz:s.heap.objs.size<=h'.objs.size:=ql_ bj (q1_ au)
  have hcP:P≠c':=fun z=>by subst z;exact absurd (js_ eP) (xU_.mpr bj)
  refine h h'.objs.size c' oc vs t fY _ _ (I1.pins_of fun p hp=>?_) (fun b o hb e=>?_) ((Ai hcP).trans Ab) Ab hd hv
  ·rcases jA_.mp hp with hp|hp
   ·exact I1.pin p (jw_ _ hp)
   ·rw[jq_.mp hp]
    refine⟨jC_ _ rfl,?_,fun z=>?_,I.nofs hsz,fun v z=>by cases z⟩
    ·rw[Ai (fun z=>absurd au (by dsimp only at z;rw[z];exact j5_ _)),Ai (fun z=>by dsimp only at z;subst z;exact absurd (js_ eP) (xU_.mpr hsz))]
     exact I.hok.fresh hsz
    ·dsimp only at z
     have:=I.lt
     rw[<-z]at this
     exact absurd this (xU_.mpr hsz)
  ·rw[Ai (fun z=>by subst z;rw[I.hok.fresh bj]at e;cases e),Ai hb];exact e
 ·have:ps = #[rawInt pos.line,rawInt pos.col,.ref c']:=by rw[h1]at hP;cases hP;rfl
  subst this
  refine PySem.W.kla_makeFunctionHit (mg:=X.mg) (cv:=.ref c') bw I.ok.glob hg dO (C.keeps I.bk) eP (by trivial) (by simp[codeAmong,rawInt]) ⟨bm,ob,b1,b2,hbG,nb _ _ b3,I.bk _ _ b3,b4,b5,b6⟩ fun fY h' tk hk hsz=>?_
  have I1:=I.kept (t':=tk) (h':=h'.push (PySem.W.kla_obj "<lambda>" (X.env.qual ++ "<lambda>") params body scope [] ((X.mg "__name__").getD .none) c' fY)) (fun b o e=>jm_ _ (hk b o e))
  refine h h'.objs.size c' oc vs t fY _ _ (I1.pins_of fun p hp=>?_) (fun b o hb e=>e) h1 h2 h3 h4
  rcases jA_.mp hp with hp|hp
  ·exact I1.pin p (jw_ _ hp)
  ·rw[jq_.mp hp]
   refine⟨jC_ _ rfl,I.hok.fresh hsz,fun z=>?_,I.nofs hsz,fun v z=>by cases z⟩
   dsimp only at z
   have:=I.lt
   rw[<-z]at this
   exact absurd this (xU_.mpr hsz)
end
noncomputable def Ve (K:α3)(P:Addr)(lp:Pos)(qual:Str)(t:TA):TE:=fun σ H Q=>t σ H fun vs H1=>∃l ws,vs=[.ref l]/\SqL K H1 l (wv ws)/\WsOk K H1 ws/\ws.length<sizeLine/\LamT P lp qual H1 /\
 ∀H2 D os,DH P H1 H2->LamT P lp qual H2->H1 D=none->H2 D=some (.lst (wv os))->os.Perm ws->Srt os->Q (.ref D) H2
theorem RE {K:α3}        : Ve K P lp qual t σ H Q=t σ H fun vs H1=>∃l ws,vs=[.ref l]/\SqL K H1 l (wv ws)/\WsOk K H1 ws/\ws.length<sizeLine/\LamT P lp qual H1 /\
 ∀H2 D os,DH P H1 H2->LamT P lp qual H2->H1 D=none->H2 D=some (.lst (wv os))->os.Perm ws->Srt os->Q (.ref D) H2:=rfl
theorem We        (hr:Room (k+3) X.A)(hg:Gl X "sorted")(hm:X.mg "sorted"=none)(gu:X.mg "len"=none)(dO:X.env.code=.ref c)(C:PySem.W.CodeHd X.base c P)(ng:BmOk X.mg X.base)
  (ha:PA X [e] ta) (hq:X.env.qual=qual:=by rfl)
  (he:backTo pos (starEach [e] X.env)=(false,eval e X.env)::backTo pos (starEach [] X.env):=by rfl) (gW:(backTo pos (starEach [e] X.env)).any (·.1)=false:=by rfl):
  PE X (.Call (.Name "sorted" p) [e] [⟨some "key",.Lambda (lamA ap) (lamB p1 p2 p3 p4 p5) lamS lp,kp⟩] pos) (Ve X.K P lp qual ta):=by
 intro af s σ H Q I h
 subst hq
 refine xn_ (Gi I hg hm rfl ?_)
 refine callWith_kw ?_ he gW
 refine thn (ha pos af s σ H _ I h) fun us s1 ⟨vs,H1,I1,r1,q1⟩=>?_
 obtain⟨l,ws,rfl,hl,hW,hz,hP,q⟩:=q1
 obtain⟨ps,hP1⟩:=hP.is
 obtain⟨u1,rfl,rx⟩:=vals1 r1
 cases rx
 refine kws_cons (YQ I1 dO C hP ng rfl rfl fun f c' oc vs t fY H2 s2 I2 gZ hT2 bX hd hv=>kws_nil ?_)
 show wpAny (model X.prog X.w) X.A (call (.builtin "sorted") [.ref l] [(Str.ofString "key",.ref f)]) _ _ s2
 have nP:∀b ys,SqT X.K H1 b ys->SqT X.K H2 b ys:=fun b ys=>gZ.tsq hP1
 have bF:SqL X.K H2 l (wv ws):=gZ.lsq hP1 hl
 refine Z0 I2 (by have:=hr.un;lia) bF hz (fun w hw=>nP _ _ (hW w hw)) (fun w hw H' s' I' hS=>?_) (fun s' H' D os I' g1 g2 g3 g4 g5=>?_)
 ·have hf:=(I'.pin _ (jw_ _ (jw_ _ (jn_)))).1
  have eJ:s'.heap.get? c'=some oc:=(I'.hok c' _ (hS _ _ bX)).1
  have kM:s'.heap.CodeRec (.ref c') (X.env.qual ++ "<lambda>"):=⟨c',oc,vs,t,rfl,eJ,hd,hv⟩
  have nj:SqT X.K H' w.1 (w.2.map V.int):=hS.seqT (nP _ _ (hW w hw))
  refine wpAny_call (codeAny_mono (ET_ (k:=k) (N:=["word"]) (ps:=["word"]) (vs:=[.ref w.1]) (us:=[.ref w.1]) (E:=fun _ _ _=>False) (Q:=fun kv gm=>∃t,kv=.ref t/\Same H' gm/\SqT X.K gm t [.int w.2.length,.ref w.1]) Z5 hr.in1.in1 I'.env0.in1.in1 hf kM rfl (.cons rfl .nil) rfl
   (Dj (Aa (As Ak rfl gu rfl (Aa (pv 0) Ae)) (Aa (pv 0) Ae))) ?_) fun r s2 hq=>?_)
  ·refine⟨.ref w.1,rfl,w.1,w.2.map V.int,rfl,.inr nj,.ref w.1,rfl,?_,fun p hp=>?_⟩
   ·show 2<=sizeLine
    decide
   ·rw[ja_]
    exact⟨p,rfl,Same.new hp,.inl (.inl Ab)⟩
  ·cases r with
   |error e=>exact hq.elim
   |ok fl=>
    cases fl with
    |ret u=>exact I'.after hq
    |next=>exact False.elim hq
    |brk=>exact False.elim hq
    |cont=>exact False.elim hq
 ·exact⟨.ref D,H',I'.unpinned,rfl,q H' D os (gZ.trans (DH.of g1)) (.inr ⟨c',oc,vs,t,g1 _ _ hT2,g1 _ _ bX,hd,hv⟩) (gZ.none hT2 g2) g3 g4 g5⟩
end L2
namespace L2
open PySem PySem.Spec PyProof.Rows
noncomputable def EqsD (K:α3)(H:Hp)(n:Nat)(xs:List V)(x:V)(e:Nat->Bool):Prop:=(∀(i:Nat) (v:V),xs[i]?=some v->∃a,v=.ref a/\EqD K H n v x (e i))/\∀(i j:Nat) (v:V),xs[i]?=some v->xs[j]?=some v->e i=e j
noncomputable def evG (xs:List V)(e:Nat->Bool)(y:Value):Bool := @decide (∃(i:Nat) (a:Addr),y=.ref a/\xs[i]?=some (.ref a)/\e i=true) (Classical.propDecidable _)
theorem RG {K:α3}      (h:EqsD K H n xs x e)   (hx:xs[i]?=some (.ref a)):evG xs e (.ref a)=e i:=by
 rw[qz_]
 unfold evG
 rw[@decide_eq_true_iff _ (Classical.propDecidable _)]
 constructor
 ·rintro⟨j,b,hb,nk,kN⟩
  cases hb
  rw[h.2 i j _ hx nk];exact kN
 ·intro he
  exact⟨i,a,rfl,hx,he⟩
noncomputable def rInG (K:α3)(n:Nat)(iA:Bool):R2:=fun x y H Q=>∃p t xs e,y=.ref p/\x=.ref t/\SqL K H p xs/\EqsD K H n xs x e/\Q (.bl (if iA then !((List.range xs.length).any e) else (List.range xs.length).any e)) H
theorem EU_ {K:α3}      : rInG K n iA x y H Q=∃p t xs e,y=.ref p/\x=.ref t/\SqL K H p xs/\EqsD K H n xs x e/\Q (.bl (if iA then !((List.range xs.length).any e) else (List.range xs.length).any e)) H:=rfl
theorem Z7          (hu:X.A.units+n+1<cLine)(I:Inv X af σ H s)(hp:SqL X.K H p xs)(hE:EqsD X.K H n xs (.ref t) e):
  ∃(its:Array Value),s.heap.IsList p its/\(∀y,y∈its->SeqAt.EqAt X.A.in1 s y (.ref t) (evG xs e y))/\its.any (evG xs e)=(List.range xs.length).any e:=by
 obtain⟨its,r,pl,_⟩:=I.list hp
 have hl:=r.length
 refine⟨its.toArray,pl.isList,fun y hy=>?_,?_⟩
 ·have hy':y∈its:=by simpa using hy
  obtain⟨i,hi,ei⟩:=jR_ hy'
  have ef:i<xs.length:=by lia
  obtain⟨u,g8,ru⟩:=r.get (i:=i) (x:=xs[i]) (by simp[ef])
  rw[jf_ hi,ei]at g8
  cases g8
  obtain⟨a,e2,e3⟩:=hE.1 i xs[i] (by simp[ef])
  rw[e2]at ru e3
  cases ru
  rw[RG hE (i:=i) (by rw[jf_ ef,e2])]
  exact (EqD.at (x:=V.ref a) (y:=V.ref t) I n X.A.in1 (by rw[in1_units];lia) rfl rfl e3).1
 ·rw[show its.toArray.any (evG xs e)=its.any (evG xs e) by simp,qz_,x2_,x2_]
  constructor
  ·rintro⟨y,hy,hey⟩
   obtain⟨j,b,_,nk,kN⟩:=(@decide_eq_true_iff _ (Classical.propDecidable _)).mp hey
   exact⟨j,jP_.mpr (jb_.mp nk).1,kN⟩
  ·rintro⟨i,hi,kl⟩
   have hi:=jP_.mp hi
   obtain⟨a,e2,e3⟩:=hE.1 i xs[i] (by simp[hi])
   have hx:xs[i]?=some (.ref a):=by rw[jf_ hi,e2]
   obtain⟨u,g8,ru⟩:=r.get hx
   cases ru
   exact⟨.ref a,jc_ g8,by rw[RG hE hx];exact kl⟩
theorem hu45  (h:u+8<cLine):u+4+1<cLine:=by lia
theorem hu46  (h:u+8<cLine):u+4+2<cLine:=by lia
theorem YR  (n:Nat)(hu:X.A.units+n+1<cLine):OpR X (compareOp .NotIn) (rInG X.K n true):=by
 intro af s σ H x y v u Q I rx ry h
 obtain⟨p,t,xs,e,rfl,rfl,hp,hw,q⟩:=h
 cases ry
 cases rx
 obtain⟨its,h1,h2,h3⟩:=Z7 hu I hp hw
 refine SeqAt.notIn_listAt _ h1 h2 ⟨.bl _,H,I,rfl,?_⟩
 rw[h3]
 exact q
noncomputable def Tt (K:α3)(n:Nat):V->List V->Hp->VK->Prop:=fun x vs H Q=>∃l xs t e m,x=.ref l/\vs=[.ref t]/\H l=some (.lst xs)/\EqsD K H n xs (.ref t) e/\m<xs.length/\e m=true/\(∀j,j<m->e j=false)/\xs.length<1000000/\Q (.int (m:Nat)) H
theorem Vf {K:α3}      : Tt K n x vs H Q=∃l xs t e m,x=.ref l/\vs=[.ref t]/\H l=some (.lst xs)/\EqsD K H n xs (.ref t) e/\m<xs.length/\e m=true/\(∀j,j<m->e j=false)/\xs.length<1000000/\Q (.int (m:Nat)) H:=rfl
theorem YS  (n:Nat)(hu:X.A.units+n+2<cLine):MtM X "list.index" (Tt X.K n):=by
 intro af s σ H x vs v us Q I rx rv h
 obtain⟨l,xs,t,e,m,rfl,rfl,hH,hE,hm,hem,kN,au,q⟩:=h
 cases rx
 obtain⟨u,rfl,ry⟩:=vals1 rv
 cases ry
 obtain⟨zz,its,k,r,hl,eo⟩:=I.lstM hH
 have cZ:xs.length=its.length:=r.length
 have get:∀(j:Nat) (hj:j<its.toArray.size),∃(a:Addr),its.toArray[j]=.ref a/\xs[j]?=some (.ref a)/\EqD X.K H n (.ref a) (.ref t) (e j):=fun j hj=>by
  have cg:j<xs.length:=by rw[jl_]at hj;lia
  obtain⟨a,e2,e3⟩:=hE.1 j xs[j] (by simp[cg])
  rw[e2]at e3
  have hx:xs[j]?=some (.ref a):=by rw[jf_ cg,e2]
  obtain⟨w',f1,f2⟩:=r.get hx
  have e4:its.toArray[j]=w':=by
   have:its[j]?=some its.toArray[j]:=by simp at hj;simp[hj]
   rw[f1]at this
   exact (jp_ this).symm
  cases f2
  exact⟨a,e4,hx,e3⟩
 have kz:m<its.toArray.size:=by rw[jl_];lia
 refine xA_ F.slot_list_index ⟨_,eo,rfl⟩ F.entry_list_index (F.args_list_index_2 _ _) (SeqAt.list_indexAt l its.toArray k none #[] (.ref t) (evG xs e) m kz s!"" ?_ fun j hj hjm=>?_) ⟨eo,fun y hy=>?_,?_⟩
 ·obtain⟨a,e1,e2,e3⟩:=get _ kz
  rw[e1,RG hE e2];exact hem
 ·obtain⟨a,e1,e2,e3⟩:=get j hj
  rw[e1,RG hE e2];exact kN j hjm
 ·obtain⟨j,hj,ej⟩:=jR_ (show y∈its by simpa using hy)
  obtain⟨a,e1,e2,e3⟩:=get j (by rw[jl_];exact hj)
  have:y=.ref a:=by rw[<-ej,<-e1];simp
  rw[this,RG hE e2]
  exact (EqD.at (x:=V.ref a) (y:=V.ref t) I n _ (by rw[in1_units];lia) rfl rfl e3).1
 ·exact⟨.int (m:Nat),H,I.tok _,⟨_,rfl⟩,q⟩
theorem Wg  {K:α3}(h:X.K=K)(n:Nat)(hu:X.A.units+n+2<cLine):MtR X "list.index" (Tt K n):=by subst h;exact YS n hu
noncomputable abbrev HA (K:α3)(x:Str)(f:Addr):Prop:=nsIn K mainGlobals x=some (some (.ref f))
end L2
namespace Mine
open PySem L2 GW GB
local macro_rules | `(tactic| walk_at "rd") => `(tactic| (try dsimp only[↓BB_,YB,↓r_ID,↓Ey_,BC_,↓r_BD,EA_,↓ED_,↓EE_,BE_,BF_,BG_,EC_,↓BJ_,↓BK_,BH_,BI_,↓BL_,YD,↓DT_,↓AX_,↓DU_,↓XI,↓DV_,↓r_c,↓r_op,↓r_un,↓r_I,↓r_I0,↓r_U,↓AY_,↓AZ_,↓DW_,↓DX_,↓Ba_,↓r_if,↓r_B,↓Bb_,↓DY_,↓r_or,↓DZ_,↓Bc_,↓XJ,↓r_CB,↓Ea_,↓Eb_,↓Ec_,↓Ed_,↓r_sl,↓Bd_,↓UL,↓Ee_,↓Ej_,↓r_BM,↓UM,↓Be_,↓Bf_,↓r_Eq,↓r_Ne,↓XM,↓Bg_,↓XN,↓Ef_,↓r_ip,↓Bh_,↓Bi_,↓Eh_,↓UR,↓Ek_,↓El_,↓US,↓X3,↓Rl,↓Bn_,↓XZ,↓Bo_,↓Bp_,↓UT,↓Bq_,↓X0,↓Br_,↓UU,↓UW,↓r_in,↓Bj_,↓Rp,↓Ym,Ep_,↓Ru,RE,EU_,Vf,↓BA_,↓Yb,↓Yc,↓U3,↓Yi,Eg_,L2.start,j1_,xP_,jV_,qt_,zv_,xQ_,List.replicate,zc_,List.getElem?_cons_succ,ze_,List.set_cons_succ,scal])<;>(try simp only[↓BB_,YB,↓r_ID,↓Ey_,BC_,↓r_BD,EA_,↓ED_,↓EE_,BE_,BF_,BG_,EC_,↓BJ_,↓BK_,BH_,BI_,↓BL_,YD,CN_,EB_,CQ_,ZO,YC,↓DT_,↓AX_,↓DU_,↓XI,↓DV_,↓r_c,↓r_op,↓r_un,↓r_I,↓r_I0,↓r_U,↓AY_,↓AZ_,↓DW_,↓DX_,↓Ba_,↓r_if,↓r_B,↓Bb_,↓DY_,↓r_or,↓DZ_,↓Bc_,↓XJ,↓r_CB,↓Ea_,↓Eb_,↓Ec_,↓Ed_,↓r_sl,↓Bd_,↓UL,↓Ee_,↓Ej_,↓r_BM,↓UM,↓Be_,↓Bf_,↓r_Eq,↓r_Ne,↓XM,↓Bg_,↓XN,↓Ef_,↓r_ip,↓Bh_,↓Bi_,↓Eh_,↓UR,↓Ek_,↓El_,↓US,↓X3,↓Rl,↓Bn_,↓XZ,↓Bo_,↓Bp_,↓UT,↓Bq_,↓X0,↓Br_,↓UU,↓UW,↓r_in,↓Bj_,↓Rp,↓Ym,Ep_,↓Ru,RE,EU_,Vf,↓BA_,↓Yb,↓Yc,↓U3,↓Yi,Eg_,L2.start,j1_,xP_,jV_,qt_,zv_,xQ_,qi_,List.replicate,zc_,List.getElem?_cons_succ,ze_,List.set_cons_succ,zk_,V.int.injEq,V.str.injEq,V.ref.injEq,V.bl.injEq,xE_,and_true,true_and,and_assoc,exists_and_left,exists_eq_left',exists_eq_left,exists_eq_right,exists_eq,xO_,q3_,jY_,qo_,scal,Nat.reduceAdd,Nat.reduceSub,reduceCtorEq,zZ_,zQ_]))
local macro_rules | `(tactic| walk_at "sc") => `(tactic| exact⟨rfl,rfl,rfl,by decide +kernel,rfl,by decide +kernel,by decide +kernel⟩)
noncomputable def top (i:Nat):Stmt:=PySem.Challenge.pw_guessroom_k26_whole_suite_is_enough.main.body.getD i (.Pass ⟨0,0,0,0⟩)
noncomputable abbrev Ek:Stmt:=top 4
theorem Wi:FnScope ["letters","word"] ["letters","word"] (Af Ek):=by walk_at "sc"
noncomputable abbrev BH:Stmt:=top 5
theorem PU:FnScope ["letters","word"] ["letters","word"] (Af BH):=by walk_at "sc"
noncomputable abbrev De:Stmt:=top 6
theorem Gx:FnScope ["letters","word","kept"] ["letters","word"] (Af De):=by walk_at "sc"
noncomputable abbrev DI:Stmt:=top 7
theorem FN:FnScope ["letters","most","words","word"] ["letters","most"] (Af DI):=by walk_at "sc"
noncomputable abbrev Ig:Stmt:=top 9
theorem Lw:FnScope ["house","word","ways","rooms","letter"] ["house","word"] (Af Ig):=by walk_at "sc"
noncomputable abbrev BI:Stmt:=top 10
theorem NZ:FnScope ["house","word"] ["house","word"] (Af BI):=by walk_at "sc"
noncomputable abbrev BJ:Stmt:=top 11
theorem N0:FnScope ["house","word"] ["house","word"] (Af BJ):=by walk_at "sc"
noncomputable abbrev Dn:Stmt:=top 13
theorem CD:FnScope ["house","words","rooms","walked","room","letter","goal"] ["house"] (Af Dn):=by walk_at "sc"
noncomputable abbrev El:Stmt:=top 14
theorem OK:FnScope ["house","words"] ["house"] (Af El):=by walk_at "sc"
noncomputable abbrev DT:Stmt:=top 15
theorem Wj:FnScope ["house"] ["house"] (Af DT):=by walk_at "sc"
noncomputable abbrev DJ:Stmt:=top 17
theorem Ih:FnScope ["row","numbers","thing"] ["row"] (Af DJ):=by walk_at "sc"
noncomputable abbrev A0:Stmt:=top 18
theorem AD:FnScope ["house","words","marks_behind","classes","walked","letter","marks","finer"] ["house"] (Af A0):=by walk_at "sc"
noncomputable abbrev Em:Stmt:=top 19
theorem Wk:FnScope ["house"] ["house"] (Af Em):=by walk_at "sc"
noncomputable abbrev CF:Stmt:=top 20
theorem PV:FnScope ["house"] ["house"] (Af CF):=by walk_at "sc"
noncomputable abbrev Ii:Stmt:=top 22
theorem IS:FnScope ["house","classes","numbers","told","room"] ["house"] (Af Ii):=by walk_at "sc"
noncomputable abbrev Ij:Stmt:=top 23
theorem IT:FnScope ["house","home_of","marks","ways","room"] ["house"] (Af Ij):=by walk_at "sc"
noncomputable abbrev Dp:Stmt:=top 25
theorem Ik:FnScope ["words","once","word"] ["words"] (Af Dp):=by walk_at "sc"
noncomputable abbrev CG:Stmt:=top 26
theorem DB:FnScope ["base","more","ends","words","way","middle","first"] ["base","more","ends"] (Af CG):=by walk_at "sc"
noncomputable abbrev Il:Stmt:=top 27
theorem PX:FnScope ["house","more","base","words"] ["house","more"] (Af Il):=by walk_at "sc"
noncomputable abbrev Df:Stmt:=top 28
theorem RH:FnScope ["house","words"] ["house","words"] (Af Df):=by walk_at "sc"
noncomputable abbrev Bt:Stmt:=top 29
theorem Eo:FnScope ["house","some","trial"] ["house","some"] (Af Bt):=by walk_at "sc"
noncomputable abbrev FO:Stmt:=top 30
theorem YT:FnScope ["house","some"] ["house","some"] (Af FO):=by walk_at "sc"
noncomputable abbrev A6:Stmt:=top 32
theorem LY:FnScope ["script","k"] ["script","k"] (Af A6):=by walk_at "sc"
noncomputable abbrev Bk:Stmt:=top 33
theorem FP:FnScope ["number","k","many","turn"] ["number","k","many"] (Af Bk):=by walk_at "sc"
noncomputable abbrev By:Stmt:=top 34
theorem A2:FnScope ["number","rooms","way","top","marks","room","mark"] ["number","rooms"] (Af By):=by walk_at "sc"
noncomputable abbrev BV:Stmt:=top 35
theorem AS:FnScope ["script","letters","rooms","shape","ways","room","row","letter","k","goal"] ["script","letters","rooms"] (Af BV):=by walk_at "sc"
noncomputable abbrev Cf:Stmt:=top 36
theorem Bq:FnScope ["house","number","rooms","small","fold","ways","room","row","letter","goal","twins"] ["house","number","rooms"] (Af Cf):=by walk_at "sc"
noncomputable abbrev Bz:Stmt:=top 37
theorem Ba:FnScope ["script","letters","rooms","marks","house","number"] ["script"] (Af Bz):=by walk_at "sc"
noncomputable abbrev BW:Stmt:=top 38
theorem Gy:FnScope ["script","house","number"] ["script","house"] (Af BW):=by walk_at "sc"
noncomputable abbrev BA:Stmt:=top 39
theorem BD:FnScope ["house","row","at","here","goal"] ["house"] (Af BA):=by walk_at "sc"
noncomputable abbrev BX:Stmt:=top 40
theorem B7:FnScope ["house","number","marks","ways","room","letter","same"] ["house","number"] (Af BX):=by walk_at "sc"
noncomputable abbrev Bo:Stmt:=top 41
theorem Bv:FnScope ["house","number","rooms","order","marks","ways","room"] ["house","number"] (Af Bo):=by walk_at "sc"
noncomputable abbrev BY:Stmt:=top 42
theorem BB:FnScope ["house","row","turn","keys","known","key"] ["house"] (Af BY):=by walk_at "sc"
noncomputable abbrev Dh:Stmt:=top 43
theorem CH:FnScope ["house","row","order","first","room","number","ways"] ["house"] (Af Dh):=by walk_at "sc"
noncomputable abbrev BC:Stmt:=top 44
theorem AU:FnScope ["house","script","many","base","number","way","most","rooms","marks","ways","rival"] ["house","script","many"] (Af BC):=by walk_at "sc"
noncomputable abbrev BZ:Stmt:=top 45
theorem CI:FnScope ["script","letters","word","number","k"] ["script","letters"] (Af BZ):=by walk_at "sc"
noncomputable abbrev B0:Stmt:=top 46
theorem Gz:FnScope ["found","letters","letter"] ["found","letters"] (Af B0):=by walk_at "sc"
noncomputable abbrev Di:Stmt:=top 47
theorem GA:FnScope ["house","room","word","letter"] ["house","room","word"] (Af Di):=by walk_at "sc"
noncomputable abbrev PY:Stmt:=top 48
theorem Fg:FnScope ["script","house","many","rival","some","trial","due","word","one","two","size"] ["script"] (Af PY):=by walk_at "sc"
noncomputable abbrev IU:Pos:=⟨105,34,105,64⟩
noncomputable def LZ:Caps:=[("letter",none),("letters",some 0)]
theorem N1:(Caps.names LZ).Nodup:=by decide +kernel
noncomputable def L3:Caps:=[("room",none),("words",some 1)]
theorem N2:(Caps.names L3).Nodup:=by decide +kernel
noncomputable def Ke:Caps:=[("thing",none),("numbers",some 1)]
theorem L4:(Caps.names Ke).Nodup:=by decide +kernel
noncomputable def DU:Caps:=[("goals",none),("marks_behind",some 2),("walked",some 4),("letter",some 5)]
theorem Fh:(Caps.names DU).Nodup:=by decide +kernel
noncomputable def RI:Caps:=[("goal",none),("home_of",some 1)]
theorem RJ:(Caps.names RI).Nodup:=by decide +kernel
noncomputable def HS:Caps:=[("end",none),("first",some 6)]
theorem JA:(Caps.names HS).Nodup:=by decide +kernel
noncomputable def RK:Caps:=[("mark",none),("words",some 3)]
theorem RL:(Caps.names RK).Nodup:=by decide +kernel
noncomputable def IV:Caps:=[("word",none),("house",some 0)]
theorem Kt:(Caps.names IV).Nodup:=by decide +kernel
noncomputable def HV:Caps:=[("twin",none),("goal",some 9),("fold",some 4)]
theorem JC:(Caps.names HV).Nodup:=by decide +kernel
noncomputable def HW:Caps:=[("room",none),("house",some 0)]
theorem JD:(Caps.names HW).Nodup:=by decide +kernel
noncomputable def FZ:Caps:=[("row",none)]
theorem Im:(Caps.names FZ).Nodup:=by decide +kernel
noncomputable def F0:Caps:=[("goal",none),("marks",some 2),("letter",some 5),("ways",some 3),("room",some 4)]
theorem Io:(Caps.names F0).Nodup:=by decide +kernel
noncomputable def F1:Caps:=[("row",none)]
theorem Ip:(Caps.names F1).Nodup:=by decide +kernel
noncomputable def EM:Caps:=[("room",none),("number",some 1),("rooms",some 2)]
theorem GC:(Caps.names EM).Nodup:=by decide +kernel
noncomputable def EO:Caps:=[("goal",none),("order",some 3)]
theorem GD:(Caps.names EO).Nodup:=by decide +kernel
noncomputable def F2:Caps:=[("room",none),("row",some 1),("house",some 0)]
theorem Iq:(Caps.names F2).Nodup:=by decide +kernel
noncomputable def F3:Caps:=[("goal",none),("row",some 1)]
theorem Ir:(Caps.names F3).Nodup:=by decide +kernel
noncomputable def F4:Caps:=[("key",none),("known",some 4)]
theorem Iu:(Caps.names F4).Nodup:=by decide +kernel
noncomputable def IW:Caps:=[("seen",none),("row",some 1)]
theorem Ku:(Caps.names IW).Nodup:=by decide +kernel
noncomputable def IX:Caps:=[("room",none),("row",some 1)]
theorem Kv:(Caps.names IX).Nodup:=by decide +kernel
noncomputable def IY:Caps:=[("room",none),("number",some 5),("row",some 1),("house",some 0)]
theorem Kw:(Caps.names IY).Nodup:=by decide +kernel
noncomputable def IZ:Caps:=[("goal",none),("number",some 1),("row",some 2)]
theorem Kx:(Caps.names IZ).Nodup:=by decide +kernel
noncomputable def HX:Caps:=[("room",none),("house",some 0)]
theorem JE:(Caps.names HX).Nodup:=by decide +kernel
noncomputable def Fi:Caps:=[("room",none),("house",some 0),("number",some 4)]
theorem Ht:(Caps.names Fi).Nodup:=by decide +kernel
noncomputable def Fj:Caps:=[("room",none),("rooms",some 7),("number",some 4),("house",some 0)]
theorem Hu:(Caps.names Fj).Nodup:=by decide +kernel
noncomputable def Fl:Caps:=[("k",none),("rooms",some 1),("number",some 2),("room",some 0)]
theorem Hv:(Caps.names Fl).Nodup:=by decide +kernel
noncomputable def Fm:Caps:=[("row",none)]
theorem Hw:(Caps.names Fm).Nodup:=by decide +kernel
noncomputable def F5:Caps:=[("cell",none),("letters",some 1)]
theorem Iv:(Caps.names F5).Nodup:=by decide +kernel
structure Txt (mg:Str->α5):Prop where
 all:mg "all"=none
 bool:mg "bool"=none
 enumerate:mg "enumerate"=none
 int:mg "int"=none
 isinstance:mg "isinstance"=none
 len:mg "len"=none
 list:mg "list"=none
 max:mg "max"=none
 min:mg "min"=none
 range:mg "range"=none
 sorted:mg "sorted"=none
 tuple:mg "tuple"=none
 zip:mg "zip"=none
section
variable {P:Program} {w:World} {K:α3} {mg:Str->α5} {base:Heap}
noncomputable def OL (K:α3):Sp:=fun vs H Q _=>∃(L:Int) (a:Addr) (ws:α2),vs=[.int L,.ref a]/\SqT K H a (ws.map V.int)/\ws.length<=1000/\∀H',Same H H'->Q (.bl (isW L ws)) H'
theorem Wl   (F:Fun K "is_word" "is_word" Ek f fd)(T:Txt mg)
  : FnOk P w K mg base CX0 1 f fd ["letters","word"] (OL K):=by
 refine F.ok Wi (fun vs H Q E h=>?_) (fun ay A outer s H vs Q E hr h=>?_)
 ·obtain⟨L,a,ws,rfl,_⟩:=h;rfl
 ·obtain⟨L,a,ws,rfl,hw,hz,k⟩:=h
  have hl:=AE
  refine⟨_,(Ag (AR (As (Zt rfl) rfl T.all PyProof.Rows.boot_all (Aa (B3 rfl (B4 rfl) (cp:=LZ) ⟨⟨rfl,rfl⟩,True.intro⟩ (Gk (pvD 1)) (fun _ _ _ _=>(Au (i:=0) N1 rfl (Or.inl rfl))) (fun _ _ _ _=>Ce) (fun _ _ _ _=>(Zi Dz_ LB Ac (pvD 0) (pvD 1)))) Ae)))),?_⟩
  walk_at "rd"
  refine⟨⟨_,hw⟩,He (ag:=[some (.int L)]) (fun x=>match x with | .int n=>.bl (inW L n)|_=>.non) rfl hw (by rw[ja_];lia) (fun x hx R hR=>?_) (fun D hD=>?_)⟩
  ·obtain⟨n,_,rfl⟩:=EI hx
   walk_at "rd"
   by_cases h0:0<=n
   ·simp only[h0,xO_]
    simpa [inW,h0] using hR
   ·simp only[h0,q3_]
    simpa [inW,h0] using hR
  ·refine⟨D,rfl,ws.map (inW L),.inl (.inl ?_),?_⟩
   ·rw[Ab,jW_,jW_];rfl
   ·have:=k _ (Same.new hD (o:=.lst ((ws.map V.int).map fun x=>match x with | .int n=>.bl (inW L n)|_=>.non)))
    simpa [isW,List.all_map] using this
noncomputable def Lx (K:α3):Sp:=fun vs H Q E=>∃(L:Int) (a:Addr) (ws:α2),vs=[.int L,.ref a]/\SqT K H a (ws.map V.int)/\ws.length<=1000/\(isW L ws=true->∀H',Same H H'->Q .non H')/\(isW L ws=false->False)
theorem PZ   (F:Fun K "check_word" "check_word" BH f fd)(T:Txt mg)
   (L5:FnOk P w K mg base CX0 1 Fo OM ["letters","word"] (OL K)) (GF:Fun K "is_word" "is_word" Ek Fo OM) (L6:A7 K OM ["letters","word"] []) (L7:mg "is_word"=some (.ref Fo))
  : FnOk P w K mg base CX0 2 f fd ["letters","word"] (Lx K):=by
 refine F.ok PU (fun vs H Q E h=>?_) (fun ay A outer s H vs Q E hr h=>?_)
 ·obtain⟨L,a,ws,rfl,_⟩:=h;rfl
 ·obtain⟨L,a,ws,rfl,hw,hz,k,kE⟩:=h
  have hl:=AE
  refine⟨_,(Ag (Cy (Om (ptB (LA (Al L5 (hr.mono (by decide)) rfl L7 GF.kp L6 .nil A3 (Aa (pvD 0) (Aa (pvD 1) Ae))))))
   (Ag Ze)
   AX)),?_⟩
  walk_at "rd"
  refine⟨L,a,ws,rfl,hw,hz,fun H' s'=>?_⟩
  walk_at "rd"
  cases hv:isW L ws with
  |true=>
   simp only[zZ_,jY_,q3_]
   exact k hv H' s'
  |false=>
   simp only[zQ_,xO_]
   exact (kE hv).elim
noncomputable def Vg (K:α3):Sp:=fun vs H Q E=>∃(L:Int) (a:Addr) (ws:α2),vs=[.int L,.ref a]/\SqT K H a (ws.map V.int)/\ws.length<=990/\(isW L ws=true->∀p H',Same H H'->H' p=some (.tup ((Gs L ws).map V.int))->Q (.ref p) H')/\(isW L ws=false->False)
theorem RM   (F:Fun K "next_word" "next_word" De f fd)(T:Txt mg)
   (BK:FnOk P w K mg base CX0 2 Bb BL ["letters","word"] (Lx K)) (Bl:Fun K "check_word" "check_word" BH Bb BL) (BM:A7 K BL ["letters","word"] []) (BN:mg "check_word"=some (.ref Bb))
  : FnOk P w K mg base CX0 3 f fd ["letters","word"] (Vg K):=by
 refine F.ok Gx (fun vs H Q E h=>?_) (fun ay A outer s H vs Q E hr h=>?_)
 ·obtain⟨L,a,ws,rfl,_⟩:=h;rfl
 ·obtain⟨L,a,ws,rfl,hw,hz,k',kE⟩:=h
  have hl:=AE
  refine⟨_,(Ad (BS (Al BK (hr.mono (by decide)) rfl BN Bl.kp BM .nil A3 (Aa (pvD 0) (Aa (pvD 1) Ae))))
   (Ad (Aj (i:=2) Gx.nd (As (lenD Ak) (by rfl) T.len jI_ (Aa (pvD 1) Ae)))
   (Ad (Hb jJ_ (PW.pt (J7 (ptT (Aw (opD0 Ch_) (pvD 2) Ac (AV _))) (Gj (ptT (Aw (opE Dx) (Ah (ixTD Ao) (pvD 1) (An (opD0 EH) (pvD 2) Ac)) (An (opD0 EH) (pvD 0) Ac) (AV _))))))
   (Ag (W8 (i:=2) Gx.nd rfl (Or.inl rfl) Ac Du_)))
   (Ad (Cy (ptT (Aw (opE Dx) (pvD 2) Ac (AV _)))
   (Ag (AR (An XT (Dj (Aa Ac Ae)) (An (opD0 Bm) (As (lenD Ak) (by rfl) T.len jI_ (Aa (pvD 1) Ae)) Ac))))
   AX)
   (Ag (AR (An Hf (An Hf (O1 DH_ (pvD 1) SN (SR (An (opD0 EH) (pvD 2) Ac))) (Dj (Aa (An (opD0 Bm) (Ah (ixTD Ao) (pvD 1) (An (opD0 EH) (pvD 2) Ac)) Ac) Ae))) (An XT (Dj (Aa Ac Ae)) (An (opD0 EH) (As (lenD Ak) (by rfl) T.len jI_ (Aa (pvD 1) Ae)) (pvD 2)))))))))),?_⟩
  walk_at "rd"
  refine⟨L,a,ws,rfl,hw,by lia,fun hv H1 s1=>?_,kE⟩
  have k:=k' hv
  walk_at "rd"
  have cA:=s1.seqT hw
  refine⟨_,.inr cA,?_⟩
  rw[ja_]
  obtain⟨Pv,aq⟩:∃Pv:Nat->St->Hp->Prop,∀m aj H2,Pv m aj H2↔(H2=H1/\∃kept:Nat,m=kept/\kept<=ws.length/\(∀j,kept<=j->j<ws.length->ws[j]?=some (L-1))/\aj=[some (.int L),some (.ref a),some (.int kept)]):=⟨_,fun _ _ _=>qk_⟩
  refine Ov Pv ⟨ws.length,(aq _ _ _).mpr ⟨rfl,ws.length,rfl,jg_ _,fun j h1 h2=>absurd h2 s!"",rfl⟩⟩ ?_
  intro m aj H2 hp
  obtain⟨rfl,kept,em,hk,hj,rfl⟩:=(aq _ _ _).mp hp
  walk_at "rd"
  by_cases h0:0<kept
  ·have au:kept-1<ws.length:=by lia
   have hx:ws[kept-1]?=some (ws[kept-1]'au):=by simp[au]
   have ax:atI (ws.map V.int) ((kept:Int)-1)=some (V.int (ws[kept-1]'au)):=Ej s!"" (by rw[jd_,show ((kept:Int)-1).toNat=kept-1 by lia,hx];rfl)
   rw[if_pos (show (0:Int)<kept by lia)]
   refine⟨_,cA,_,ax,?_⟩
   walk_at "rd"
   refine ite2 (fun he=>?_) (fun aw=>?_)
   ·refine⟨fun ag H'=>H'=H2/\ag=[some (.int L),some (.ref a),some (.int ((kept:Int)-1))],fun ag H' h=>?_,rfl,rfl⟩
    obtain⟨rfl,rfl⟩:=h
    refine⟨kept-1,by lia,(aq _ _ _).mpr ⟨rfl,kept-1,rfl,by lia,fun j h1 h2=>?_,by rw[show ((kept-1:Nat):Int)=(kept:Int)-1 by lia]⟩⟩
    by_cases e:j=kept-1
    ·subst e;rw[hx,he]
    ·exact hj j s!"" h2
   ·-- return aY[:kept-1]+(aY[kept-1]+1,)+(0,) * ..
    rw[if_neg (show ¬ (kept:Int)=0 by lia)]
    have hcut:¬ (HT.sIx (ws.map V.int).length 0 none=0/\HT.sIx (ws.map V.int).length (ws.map V.int).length (some ((kept:Int)-1))=(ws.map V.int).length):=by
     rintro⟨_,h2⟩
     rw[show (kept:Int)-1=((kept-1:Nat):Int) by lia,HT.sIx_nat,ja_]at h2
     lia
    have ecut:cutV (ws.map V.int) none (some ((kept:Int)-1))=(ws.take (kept-1)).map V.int:=by
     rw[UN]
     unfold cutI
     rw[show (kept:Int)-1=((kept-1:Nat):Int) by lia,HT.sIx_nat,HT.sIx_none,List.drop_zero,Nat.sub_zero]
     congr 2
     lia
    refine⟨_,cA,hcut,fun p1 bx=>?_⟩
    rw[ecut]
    have t1:Same H2 (upd H2 p1 (.tup ((ws.take (kept-1)).map V.int))):=Same.new bx
    have q1:(upd H2 p1 (.tup ((ws.take (kept-1)).map V.int))) p1=some (.tup ((ws.take (kept-1)).map V.int)):=Ab
    generalize upd H2 p1 (.tup ((ws.take (kept-1)).map V.int))=H3 at t1 q1 ⊢
    refine⟨_,t1.seqT cA,_,ax,?_⟩
    walk_at "rd"
    refine⟨by lia,fun p2 aU=>?_⟩
    refine HR.ofS ((Same.new aU) _ _ q1) Ab (by simp;lia) fun p3 H4 t4 q3=>?_
    walk_at "rd"
    have t5:Same H2 H4:=(t1.newT aU).trans t4
    refine⟨by lia,fun p4 dP=>?_⟩
    have q3':=(Same.new dP (o:=.tup [V.int 0])) _ _ q3
    have w4:=((t5.newT dP (o:=.tup [V.int 0])).seqT cA)
    have t6:=t5.newT dP (o:=.tup [V.int 0])
    have z4:(upd H4 p4 (.tup [V.int 0])) p4=some (.tup [V.int 0]):=Ab
    generalize upd H4 p4 (.tup [V.int 0])=H5 at q3' w4 t6 z4 ⊢
    refine⟨_,.inr w4,?_⟩
    refine XS.ofS z4 (by simp) s!"" (by rw[ja_];lia) (by simp;lia) fun p5 H6 t7 q5=>?_
    refine HR.ofS (t7 _ _ q3') q5 (by simp[LH];lia) fun p6 H7 t8 q6=>?_
    refine k p6 H7 (s1.trans (t6.trans (t7.trans t8))) ?_
    have e:=Rj (L:=L) (w:=ws) (k:=kept-1) au (fun j h1 h2=>hj j s!"" h2) hx (by intro z;exact aw (by rw[z]))
    rw[e]
    rw[LH]at q6
    have en:(((ws.map V.int).length:Int)-(kept:Int)).toNat=ws.length-(kept-1+1):=by rw[ja_];lia
    rw[en]at q6
    simpa [jS_,zf_] using q6
  ·have h00:kept=0:=by lia
   subst h00
   rw[if_neg s!""]
   walk_at "rd"
   refine⟨by lia,fun p1 bx=>?_⟩
   refine⟨_,.inr ((Same.new bx).seqT cA),?_⟩
   refine XS.ofS Ab (by simp) s!"" (by rw[ja_];lia) (by simp;lia) fun p5 H6 t7 q5=>?_
   refine k p5 H6 (s1.trans ((Same.new bx).trans t7)) ?_
   rw[S2 (L:=L) (w:=ws) hj]
   rw[LH]at q5
   have en:(((ws.map V.int).length:Int)+1).toNat=ws.length+1:=by rw[ja_];lia
   rw[en]at q5
   simpa [zf_] using q5
noncomputable def BO_ (K:α3):Sp:=fun vs H Q _=>∃(L:Int) (m:Nat),vs=[.int L,.int m]/\1<=L/\L<=6/\m<=8/\many L (m+1)<=4000/\∀p xs H',Same H H'->H p=none->H' p=some (.lst xs)->AY K H' xs ((List.range (many L (m+1)).toNat).map (nth L))->Q (.ref p) H'
theorem Tu   (F:Fun K "words_to" "words_to" DI f fd)(T:Txt mg)
   (Iw:FnOk P w K mg base CX0 3 DK Kf ["letters","word"] (Vg K)) (Ep:Fun K "next_word" "next_word" De DK Kf) (Iy:A7 K Kf ["letters","word"] []) (Iz:mg "next_word"=some (.ref DK))
  : FnOk P w K mg base CX0 4 f fd ["letters","most"] (BO_ K):=by
 refine F.ok FN (fun vs H Q E h=>?_) (fun ay A outer s H vs Q E hr h=>?_)
 ·obtain⟨L,m,rfl,_⟩:=h;rfl
 ·obtain⟨L,m,rfl,cB,cC,hm,ck,k⟩:=h
  have hl:=AE
  refine⟨_,(Ad (Aj (i:=2) FN.nd (Cu Ae))
   (Ad (Aj (i:=3) FN.nd (Dj Ae))
   (Ad (Hb jJ_ (ptT (Aw (opD0 Dz_) (As (lenD Ak) (by rfl) T.len jI_ (Aa (pvD 3) Ae)) (pvD 1) (AV _)))
   (Ad (BS (FA jE_ jM_ jN_ Bi (pvD 2) (Aa (pvD 3) Ae)))
   (Ag (Aj (i:=3) FN.nd (Al Iw (hr.mono (by decide)) rfl Iz Ep.kp Iy .nil A3 (Aa (pvD 0) (Aa (pvD 3) Ae)))))))
   (Ag (AR (pvD 2)))))),?_⟩
  walk_at "rd"
  refine⟨by lia,fun p hp=>⟨by lia,fun t ht=>?_⟩⟩
  have gv:p≠t:=fun z=>by rw[<-z,Ab]at ht;cases ht
  obtain⟨Pv,aq⟩:∃Pv:Nat->St->Hp->Prop,∀m' aj H2,Pv m' aj H2↔(∃(n:Nat) (t2:Addr) (xs:List V),m'=((many L (m+1)).toNat-n)/\n<=(many L (m+1)).toNat/\Same H H2/\H2 p=some (.lst xs)/\AY K H2 xs ((List.range n).map (nth L))/\H2 t2=some (.tup ((nth L n).map V.int))/\aj=[some (.int L),some (.int m),some (.ref p),some (.ref t2)]):=⟨_,fun _ _ _=>qk_⟩
  refine Ov Pv ⟨_,(aq _ _ _).mpr ⟨0,t,[],rfl,jX_ _,(Same.new hp).newT ht,by rw[Ai gv,Ab],AY.nil,Ab,rfl⟩⟩ ?_
  intro m' aj H2 dQ
  obtain⟨n,t2,xs,rfl,hn,s2,kO,hW,hT,rfl⟩:=(aq _ _ _).mp dQ
  have hv:=Fc (show 0<L by lia) n
  have dZ:=Hg (show 0<L by lia) hv m
  rw[Gu]at dZ
  have eN:=DF (show 0<L by lia) (m+1)
  have bS:=hW.1
  rw[ja_,qV_]at bS
  walk_at "rd"
  refine⟨_,.inr (SqT.of hT),?_⟩
  rw[ja_]
  refine ite2 (fun aS=>?_) (fun jF=>?_)
  ·have iV:(nth L n).length<=m:=by lia
   have au:=dZ.mp iV
   refine⟨fun ag H'=>∃t3 kP,ag=[some (.int L),some (.int m),some (.ref p),some (.ref t3)]/\Same H H'/\H' p=some (.lst kP)/\AY K H' kP ((List.range (n+1)).map (nth L))/\H' t3=some (.tup ((nth L (n+1)).map V.int)),fun ag H' h=>?_,?_⟩
   ·obtain⟨t3,kP,rfl,s3,ez,hW3,iW⟩:=h
    exact⟨_,by lia,(aq _ _ _).mpr ⟨n+1,t3,kP,rfl,by lia,s3,ez,hW3,iW,rfl⟩⟩
   ·have ak:=VM (show 0<L by lia) n
    have hT':=TK.lst kO (o:=.lst (xs++[V.ref t2])) _ _ hT
    refine⟨.inl ⟨rfl,_,SqL.of kO⟩,_,kO,by lia,L,t2,nth L n,rfl,SqT.of hT',by lia,fun _ t3 H3 s3 iW=>?_,fun hf=>by rw[hv]at hf;cases hf⟩
    refine⟨t3,xs++[V.ref t2],rfl,(s2.over hp).trans s3,s3 _ _ Ab,?_,iW⟩
    rw[xS_,jS_]
    exact ((hW.mono (TK.lst kO)).snoc hT').mono (TK.of s3)
  ·have bj:¬ (nth L n).length<=m:=by lia
   have hnl:¬ ((n:Int)<many L (m+1)):=fun z=>bj (dZ.mpr z)
   have e:n=(many L (m+1)).toNat:=by lia
   subst e
   walk_at "rd"
   exact k p xs H2 s2 hp kO hW
noncomputable def Vh (K:α3):Sp:=fun vs H Q E=>∃(h a:Addr) (L:Int) (aa:α2) (ae:α1) (ws:α2),vs=[.ref h,.ref a]/\BU K H h L aa ae/\Wf L aa ae/\SqT K H a (ws.map V.int)/\ws.length<=600/\(isW L ws=true->∀p H',Same H H'->H p=none->H' p=some (.lst ((Ow ae ws).map V.int))->Q (.ref p) H')/\(isW L ws=false->False)
theorem Z8   (F:Fun K "trail" "trail" Ig f fd)(T:Txt mg)
   (BK:FnOk P w K mg base CX0 2 Bb BL ["letters","word"] (Lx K)) (Bl:Fun K "check_word" "check_word" BH Bb BL) (BM:A7 K BL ["letters","word"] []) (BN:mg "check_word"=some (.ref Bb))
  : FnOk P w K mg base CX0 3 f fd ["house","word"] (Vh K):=by
 refine F.ok Lw (fun vs H Q E h=>?_) (fun ay A outer s H vs Q E hr h=>?_)
 ·obtain⟨h,a,L,aa,ae,ws,rfl,_⟩:=h;rfl
 ·obtain⟨h,a,L,aa,ae,ws,rfl,hh,wf,hw,hz,k,kE⟩:=h
  have hl:=AE
  refine⟨_,(Ad (BS (Al BK (hr.mono (by decide)) rfl BN Bl.kp BM .nil A3 (Aa (Ah (ixTD Ao) (pvD 0) Ac) (Aa (pvD 1) Ae))))
   (Ad (Aj (i:=2) Lw.nd (Ah (ixTD Ao) (pvD 0) Ac))
   (Ad (Aj (i:=3) Lw.nd (Cu (Aa Ac Ae)))
   (Ad (Ci jJ_ rfl (Gk (pvD 1)) (Au (i:=4) Lw.nd rfl (Or.inl rfl))
   (Ag (BS (FA jE_ jM_ jN_ Bi (pvD 3) (Aa (Ah (ixTD Ao) (Ah (ixTD Ao) (pvD 2) (Ah (ixLD Bn) (pvD 3) (Dy_ AR_ Ac))) (pvD 4)) Ae)))))
   (Ag (AR (pvD 3))))))),?_⟩
  walk_at "rd"
  obtain⟨m,wv,h1,h2,h3⟩:=hh
  refine⟨_,h1,_,rfl,L,a,ws,rfl,hw,by lia,fun hv H1 s1=>?_,kE⟩
  walk_at "rd"
  have cA:=s1.seqT hw
  have h3':=h3.mono s1
  refine⟨_,s1.seqT h1,_,rfl,by lia,fun p hp=>?_⟩
  have s2:=Same.new hp (o:=.lst [V.int 0])
  refine⟨⟨_,s2.seqT cA⟩,forT (xs:=ws.map V.int) (fun i aj H2=>Same H1 H2/\H2 p=some (.lst (((List.range (i+1)).map fun j=>AM ae (ws.take j)).map V.int))/\∃o,aj=[some (.ref h),some (.ref a),some (.ref wv),some (.ref p),o]) ⟨s2,by rw[Ab];simp[AM],none,rfl⟩ (fun i aj H2 _ h=>h.1.seqT cA) (fun i x aj H2 hx h=>?_) (fun aj H2 h=>?_)⟩
  ·obtain⟨s3,ez,o,rfl⟩:=h
   obtain⟨n,hn,rfl⟩:=Dy hx
   have hi:=(jb_.mp hn).1
   have hx:=AF.mp hv n (jc_ hn)
   have dR:=wf.walk hv i
   obtain⟨row,g,r1,r2,r3,r4,r5⟩:=wf.step dR.1 dR.2 hx.1 hx.2
   obtain⟨xs,t,q1,q2,q3⟩:=(h3'.mono s3).atZ dR.1 r1
   walk_at "rd"
   refine⟨.inl ⟨rfl,_,SqL.of ez⟩,_,SqL.of ez,_,XY (v:=V.int (AM ae (ws.take i))) (by simp),?_⟩
   walk_at "rd"
   refine⟨_,q1,_,q2,?_⟩
   walk_at "rd"
   refine⟨_,q3,_,Bx hx.1 r2,_,ez,by simp;lia,s3.over hp,?_,_,rfl⟩
   rw[Ab,show List.range (i+1+1)=List.range (i+1)++[i+1] from xS_,jS_,jS_,<-r3,<-Hh hn]
   rfl
  ·obtain⟨s3,ez,o,rfl⟩:=h
   walk_at "rd"
   rw[ja_]at ez
   exact k hv p H2 (s1.trans s3) (s1.free hp) ez
noncomputable def Tv (K:α3):Sp:=fun vs H Q E=>∃(h a:Addr) (L:Int) (aa:α2) (ae:α1) (ws:α2),vs=[.ref h,.ref a]/\BU K H h L aa ae/\Wf L aa ae/\SqT K H a (ws.map V.int)/\ws.length<=600/\(isW L ws=true->∀H',Same H H'->Q (.int (AM ae ws)) H')/\(isW L ws=false->False)
theorem N3   (F:Fun K "room_behind" "room_behind" BI f fd)(T:Txt mg)
   (Tw:FnOk P w K mg base CX0 3 JF Vi ["house","word"] (Vh K)) (L8:Fun K "trail" "trail" Ig JF Vi) (Tx:A7 K Vi ["house","word"] []) (Tz:mg "trail"=some (.ref JF))
  : FnOk P w K mg base CX0 4 f fd ["house","word"] (Tv K):=by
 refine F.ok NZ (fun vs H Q E h=>?_) (fun ay A outer s H vs Q E hr h=>?_)
 ·obtain⟨h,a,L,aa,ae,ws,rfl,_⟩:=h;rfl
 ·obtain⟨h,a,L,aa,ae,ws,rfl,hh,wf,hw,hz,k,kE⟩:=h
  have hl:=AE
  refine⟨_,(Ag (AR (Ah (ixLD Bn) (Al Tw (hr.mono (by decide)) rfl Tz L8.kp Tx .nil A3 (Aa (pvD 0) (Aa (pvD 1) Ae))) (Dy_ AR_ Ac)))),?_⟩
  walk_at "rd"
  refine⟨h,a,L,aa,ae,ws,rfl,hh,wf,hw,hz,fun hv p H1 s1 _ hp=>?_,kE⟩
  walk_at "rd"
  refine⟨_,SqL.of hp,_,XY (v:=V.int (AM ae ws)) ?_,k hv H1 s1⟩
  rw[jd_,ja_,Pf,show ws.length+1-1=ws.length by lia,S3];rfl
noncomputable def JG (aa:α2)(r:Int):Int:=aa.getD r.toNat 0
theorem I0   (h0:0<=r)(h1:r<aa.length):atI (aa.map V.int) r=some (V.int (JG aa r)):=by
 have au:r.toNat<aa.length:=by lia
 refine Bx h0 ?_
 unfold JG
 rw[jh_]
 simp[au]
noncomputable def TB (K:α3):Sp:=fun vs H Q E=>∃(h a:Addr) (L:Int) (aa:α2) (ae:α1) (ws:α2),vs=[.ref h,.ref a]/\BU K H h L aa ae/\Wf L aa ae/\SqT K H a (ws.map V.int)/\ws.length<=600/\(isW L ws=true->∀H',Same H H'->Q (.int (JG aa (AM ae ws))) H')/\(isW L ws=false->False)
theorem N4   (F:Fun K "mark_behind" "mark_behind" BJ f fd)(T:Txt mg)
   (CS:FnOk P w K mg base CX0 4 Br C1 ["house","word"] (Tv K)) (BO:Fun K "room_behind" "room_behind" BI Br C1) (CT:A7 K C1 ["house","word"] []) (CU:mg "room_behind"=some (.ref Br))
  : FnOk P w K mg base CX0 5 f fd ["house","word"] (TB K):=by
 refine F.ok N0 (fun vs H Q E h=>?_) (fun ay A outer s H vs Q E hr h=>?_)
 ·obtain⟨h,a,L,aa,ae,ws,rfl,_⟩:=h;rfl
 ·obtain⟨h,a,L,aa,ae,ws,rfl,hh,wf,hw,hz,k,kE⟩:=h
  have hl:=AE
  refine⟨_,(Ag (AR (Ah (ixTD Ao) (Ah (ixTD Ao) (pvD 0) Ac) (Al CS (hr.mono (by decide)) rfl CU BO.kp CT .nil A3 (Aa (pvD 0) (Aa (pvD 1) Ae)))))),?_⟩
  walk_at "rd"
  have nq:=hh
  obtain⟨m,wv,h1,h2,h3⟩:=hh
  refine⟨_,h1,_,rfl,?_⟩
  walk_at "rd"
  refine⟨h,a,L,aa,ae,ws,rfl,nq,wf,hw,hz,fun hv H1 s1=>?_,kE⟩
  walk_at "rd"
  have dR:=wf.walk hv ws.length
  rw[jT_]at dR
  exact⟨_,s1.seqT h2,_,I0 dR.1 dR.2,k hv H1 s1⟩
noncomputable def GG (K:α3)(H:Hp)(d:Addr)(ents:List (Int×α2)):Prop:=∃kvs:List (Key×V),H d=some (.dK kvs)/\kvs.length=ents.length/\∀(i:Nat) (e:Int×α2),ents[i]?=some e->∃t,kvs[i]?=some (Sum.inl e.1,V.ref t)/\H t=some (.tup (e.2.map V.int))
theorem EV_     (hp:H p=some (.dK kvs))(h:H t=some (.tup xs)):upd H p (.dK dt) t=some (.tup xs):=by
 rw[Ai (fun z=>by rw[z,hp]at h;cases h)];exact h
theorem GG.mono {K:α3}   {ents:List (Int×α2)}(h:GG K H d ents)(s:Same H H'):GG K H' d ents:=by
 obtain⟨kvs,h1,h2,h3⟩:=h
 refine⟨kvs,s _ _ h1,h2,fun i e he=>?_⟩
 obtain⟨t,a,b⟩:=h3 i e he
 exact⟨t,a,s _ _ b⟩
theorem GG.off {K:α3}   {ents:List (Int×α2)}  (h:GG K H d ents)(hp:H p=some (.lst zs)):GG K (upd H p (.lst ys)) d ents:=by
 obtain⟨kvs,h1,h2,h3⟩:=h
 refine⟨kvs,by rw[Ai (fun z=>by rw[z,hp]at h1;cases h1)];exact h1,h2,fun i e he=>?_⟩
 obtain⟨t,a,b⟩:=h3 i e he
 exact⟨t,a,TK.lst hp _ _ b⟩
theorem GG.no {K:α3}   {ents:List (Int×α2)}(h:GG K H d ents)  (hg:g∉ents.map (·.1)):DGet H d (.int g) none:=by
 obtain⟨kvs,h1,h2,h3⟩:=h
 have e:valV kvs (Sum.inl g:Key)=none:=by
  unfold valV
  rw[Option.map_eq_none_iff,xN_]
  intro kv iM
  obtain⟨i,hi,e⟩:=jR_ iM
  obtain⟨t,a,_⟩:=h3 i ents[i] (by simp[show i<ents.length by lia])
  have e2:kvs[i]?=some kv:=by rw[jf_ hi,e]
  rw[e2]at a
  cases a
  simp only[qo_]
  intro z
  injection z with z
  exact hg (jv_.mpr ⟨ents[i],j2_ _,z⟩)
 have:=DGet.k (k:=(Sum.inl g:Key)) h1
 rw[e]at this
 exact this
theorem GG.yes {K:α3}{H:Hp}{d:Addr}{ents:List (Int×α2)}(h:GG K H d ents)(nod:(ents.map (·.1)).Nodup){g:Int}{w:α2}(hg:(g,w)∈ents):∃t,DGet H d (.int g) (some (.ref t))/\H t=some (.tup (w.map V.int)):=by
 obtain⟨kvs,h1,h2,h3⟩:=h
 obtain⟨i,hi,ei⟩:=jR_ hg
 have ei':ents[i]?=some (g,w):=by rw[jf_ hi,ei]
 obtain⟨t,a,b⟩:=h3 i _ ei'
 refine⟨t,?_,b⟩
 have hf:valV kvs (Sum.inl g:Key)=some (.ref t):=by
  unfold valV
  cases hq:kvs.find? (fun kv=>decide (kv.1=(Sum.inl g:Key))) with
  |none=>
   rw[xN_]at hq
   have:=hq _ (jc_ a)
   simp at this
  |some kv=>
   have hk:=zK_ hq
   simp only[qo_]at hk
   obtain⟨j,hj,ej⟩:=jR_ (xs_ hq)
   have cg:j<ents.length:=by lia
   obtain⟨t',a',b'⟩:=h3 j ents[j] (by simp[cg])
   have e2:kvs[j]?=some kv:=by rw[jf_ hj,ej]
   rw[e2]at a'
   have a2:kv=(Sum.inl ents[j].1,V.ref t'):=jp_ a'
   rw[a2]at hk
   have dn:ents[j].1=g:=by injection hk
   have ij:i=j:=by
    refine (xJ_ (h₀:=by simpa using hi) (h₁:=by simpa using cg) nod).mp ?_
    simp[ei,dn]
   subst ij
   rw[e2]at a
   have a3:kv=(Sum.inl g,V.ref t):=jp_ a
   rw[a3];rfl
 have:=DGet.k (k:=(Sum.inl g:Key)) h1
 rw[hf]at this
 exact this
theorem GG.put {K:α3}{H:Hp}{d t:Addr}{ents:List (Int×α2)}{g:Int}{w:α2}(h:GG K H d ents)(hg:g∉ents.map (·.1))(hz:ents.length<1000)(ht:H t=some (.tup (w.map V.int))):∃H',DPut H d (.int g) (.ref t) H'/\(∃kvs dt,H d=some (.dK kvs)/\H'=upd H d (.dK dt))/\GG K H' d (ents++[(g,w)]):=by
 have cX:=h.no hg
 obtain⟨kvs,h1,h2,h3⟩:=h
 have hl:=AE
 have hv:valV kvs (Sum.inl g:Key)=none:=by
  rcases cX with ⟨dt,k,e,ey,er⟩|⟨dt,k,b,e,ey,_⟩
  ·have e1:dt=kvs:=by
    rcases e with e|⟨o,e⟩
    ·rw[h1]at e;cases e;rfl
    ·rw[h1]at e;cases e
   subst e1
   cases k with
   |inl m=>
    have:m=g:=by injection ey with ey;exact ey.symm
    subst this
    exact er.symm
   |inr m=>cases ey
  ·cases ey
 have hp:putK kvs (Sum.inl g:Key) (V.ref t)=kvs++[(Sum.inl g,V.ref t)]:=by
  unfold putK
  rw[FC,hv]
  rfl
 refine⟨_,DPut.k (k:=(Sum.inl g:Key)) h1 s!"",⟨kvs,_,h1,rfl⟩,kvs++[(Sum.inl g,V.ref t)],by rw[Ab,hp],by simp[h2],fun i e he=>?_⟩
 by_cases hi:i<ents.length
 ·rw[jj_ hi]at he
  obtain⟨t',a,b⟩:=h3 i e he
  exact⟨t',by rw[jj_ s!""];exact a,EV_ h1 b⟩
 ·have au:=(jb_.mp he).1
  rw[jo_,j0_]at au
  have e1:i=ents.length:=by lia
  subst e1
  rw[jr_ (jg_ _),qs_]at he
  simp at he
  subst he
  exact⟨t,by rw[jr_ s!"",h2,qs_];rfl,EV_ h1 ht⟩
noncomputable def JH (K:α3):Sp:=fun vs H Q _=>∃(h:Addr) (L:Int) (aa:α2) (ae:α1),vs=[.ref h]/\BU K H h L aa ae/\Wf L aa ae/\∀d top H',Same H H'->H d=none->GG K H' d (AA ae)->Bfs L aa.length ae (AA ae) (AA ae).length top->Q (.ref d) H'
theorem TC   (F:Fun K "words_in" "words_in" Dn f fd)(T:Txt mg)
  : FnOk P w K mg base CX0 1 f fd ["house"] (JH K):=by
 refine F.ok CD (fun vs H Q E h=>?_) (fun ay A outer s H vs Q E hr h=>?_)
 ·obtain⟨h,L,aa,ae,rfl,_⟩:=h;rfl
 ·obtain⟨h,L,aa,ae,rfl,hh,wf,k⟩:=h
  have hl:=AE
  have cB:=wf.l1
  have b7:=wf.n1
  have aN:=wf.n40
  refine⟨_,(@Ad _ _ _ _ _ (@Cv_ _ 1 _ _ _ _ _ _ _ _ CD.nd rfl (Or.inl rfl) Ac (Dj Ae) rfl (Or.inl rfl))
   (Ad (Aj (i:=2) CD.nd (Cu (Aa Ac Ae)))
   (Ad (Aj (i:=3) CD.nd Ac)
   (Ad (Hb jJ_ (ptT (Aw (opD0 LB) (pvD 3) (As (lenD Ak) (by rfl) T.len jI_ (Aa (pvD 2) Ae)) (AV _)))
   (Ad (Aj (i:=4) CD.nd (Ah (ixLD Bn) (pvD 2) (pvD 3)))
   (Ad (Ci jJ_ rfl (Zx rfl T.enumerate (Ah (ixTD Ao) (Ah (ixTD Ao) (pvD 0) Ac) (pvD 4))) (Dt_ rfl (UC (Au (i:=5) CD.nd rfl (Or.inl rfl)) (UC (Au (i:=6) CD.nd rfl (Or.inl rfl)) Ce_)))
   (Ag (Cy (AO_ (Q6 (Q3 hr) (pvD 6) (pvD 1)))
   (Ad (SW (Q3 hr) (pvD 1) (pvD 6) (An Hf (XB (Q3 hr) (pvD 1) (pvD 4) (fun _ _=>rfl)) (Dj (Aa (pvD 5) Ae))) rfl)
   (Ag (BS (FA jE_ jM_ jN_ Bi (pvD 2) (Aa (pvD 6) Ae)))))
   AX)))
   (Ag (W8 (i:=3) CD.nd rfl (Or.inl rfl) Ac AP_)))))
   (Ag (AR (pvD 1))))))),?_⟩
  walk_at "rd"
  intro p hp
  refine⟨by lia,fun p1 bx=>⟨Same.new bx _ _ Ab,[(Sum.inl 0,V.ref p1)],rfl,by simp,by lia,fun p2 aU=>?_⟩⟩
  have h8:J9 [] [((Sum.inl 0:Key),V.ref p1)]=[((Sum.inl 0:Key),V.ref p1)]:=rfl
  rw[h8]at aU ⊢
  have hne1:p1≠p:=(A4 bx).2
  have hne2:p2≠p:=(A4 aU).2
  have s0:Same H (upd (upd (upd (upd H p (.dK [])) p1 (.tup [])) p (.dK [(Sum.inl 0,V.ref p1)])) p2 (.lst [V.int 0])):=(((Same.new hp).newT bx).over hp).newT aU
  have en0:GG K (upd (upd (upd (upd H p (.dK [])) p1 (.tup [])) p (.dK [(Sum.inl 0,V.ref p1)])) p2 (.lst [V.int 0])) p [(0,[])]:=by
   refine⟨[(Sum.inl 0,V.ref p1)],Same.new aU _ _ Ab,rfl,fun i e he=>?_⟩
   cases i with
   |zero=>
    simp at he
    subst he
    refine⟨p1,rfl,?_⟩
    refine Same.new aU _ _ ?_
    rw[Ai hne1];exact Ab
   |succ i=>simp at he
  have du:upd (upd (upd (upd H p (.dK [])) p1 (.tup [])) p (.dK [(Sum.inl 0,V.ref p1)])) p2 (.lst [V.int 0]) p2=some (.lst ((([(0,[])]:List (Int×α2)).map (·.1)).map V.int)):=Ab
  have hp2n:H p2=none:=by
   have h1:=(A4 aU).1
   have h2:=(A4 h1).1
   exact (A4 h2).1
  generalize upd (upd (upd (upd H p (.dK [])) p1 (.tup [])) p (.dK [(Sum.inl 0,V.ref p1)])) p2 (.lst [V.int 0])=H0 at s0 en0 du ⊢
  clear bx aU h8
  obtain⟨Pv,aq⟩:∃Pv:Nat->St->Hp->Prop,∀m aj H2,Pv m aj H2↔(∃(ents:List (Int×α2)) (i:Nat) (top:Int) (o4 o5 o6:Option V),m=aa.length+1-i/\Same H H2/\GG K H2 p ents/\H2 p2=some (.lst ((ents.map (·.1)).map V.int))/\Bfs L aa.length ae ents i top/\(∀e,ents[i]?=some e->top<=AZ L e.2*L+1)/\bfs ae (aa.length+1-i) ents i=AA ae/\aj=[some (.ref h),some (.ref p),some (.ref p2),some (.int i),o4,o5,o6]):=⟨_,fun _ _ _=>qk_⟩
  refine Ov Pv ⟨_,(aq _ _ _).mpr ⟨[(0,[])],0,1,none,none,none,rfl,s0,en0,du,Bfs.start L b7 ae,fun e he=>?_,by unfold AA;rw[wf.len];rfl,rfl⟩⟩ ?_
  ·simp at he;subst he;simp[AZ,Bj]
  intro m aj H2 dQ
  obtain⟨ents,i,top,o4,o5,o6,rfl,s2,en2,eA,bf,iX,cD,rfl⟩:=(aq _ _ _).mp dQ
  have hbl:=bf.len
  walk_at "rd"
  refine⟨_,.inl (SqL.of eA),?_⟩
  rw[ja_,ja_]
  refine ite2 (fun au=>?_) (fun bj=>?_)
  ·have hi:i<ents.length:=by lia
   obtain⟨e,he⟩:∃e,ents[i]?=some e:=⟨ents[i],by simp[hi]⟩
   obtain⟨r,w⟩:=e
   have aP:=jc_ he
   have bG:=bf.rng _ aP
   have htop':top<=AZ L w*L+1:=iX _ he
   obtain⟨row,hrow,eB,cZ⟩:=wf.row bG.1 bG.2
   have kC:ae.getD r.toNat []=row:=by rw[jh_,hrow];rfl
   obtain⟨mm,wv,q1,q2,q3⟩:=id hh
   obtain⟨xs,t,z1,z2,z3⟩:=q3.atZ bG.1 hrow
   refine⟨Pv (aa.length+1-(i+1)),fun ag H' h=>⟨_,by lia,h⟩,?_⟩
   refine⟨_,SqL.of eA,_,Bx (v:=r) s!"" (by rw[ji_,jd_,he];rfl),?_⟩
   walk_at "rd"
   refine⟨_,s2.seqT q1,_,rfl,?_⟩
   walk_at "rd"
   refine⟨_,s2.seqT z1,_,z2,?_⟩
   walk_at "rd"
   refine⟨_,s2.seqT z3,?_⟩
   obtain⟨Pn,cL⟩:∃Pn:Nat->St->Hp->Prop,∀x aA H3,Pn x aA H3↔(∃(av:List (Int×α2)) (o5 o6:Option V),Same H H3/\GG K H3 p av/\H3 p2=some (.lst ((av.map (·.1)).map V.int))/\Bfs L aa.length ae av i (AZ L w*L+(x:Int)+1)/\Seen L ae av r w x/\av[i]?=some (r,w)/\EK w av x (row.drop x)=EK w ents 0 row/\aA=[some (.ref h),some (.ref p),some (.ref p2),some (.int i),some (.int r),o5,o6]):=⟨_,fun _ _ _=>qk_⟩
   refine forN Pn ((cL _ _ _).mpr ⟨ents,o5,o6,s2,en2,eA,bf.up (by push_cast;lia),(fun y h0 h1=>absurd h1 (by push_cast;lia)),he,rfl,rfl⟩) (fun x aA H3 _ h3=>?_) (fun x v aA H3 t' hx h3 dJ=>?_) (fun aA H3 h3=>?_)
   ·obtain⟨av,_,_,s3,_⟩:=(cL _ _ _).mp h3
    exact s3.seqT z3
   ·obtain⟨av,o5,o6,s3,nr,c9,dv,gw,fZ,cE,rfl⟩:=(cL _ _ _).mp h3
    obtain⟨g,hg,rfl⟩:=Dy hx
    have bS:=(jb_.mp hg).1
    have iY:=(wf.rows row eB).2 g (jc_ hg)
    have nu:g=Cz ae r (x:Int):=(CO hrow (by rw[ji_];exact hg)).symm
    have dS:=jc_ fZ
    have fF:row.drop x=g::row.drop (x+1):=by
     rw[q6_ bS]
     congr 1
     exact (jb_.mp hg).2
    obtain⟨eC,gy⟩:=dv.letter s!"" gw dS s!"" nu iY
    have gz:=Ic (g:=g) (v:=w++[(x:Int)]) fZ
    rw[fF,Ib]at cE
    have sT:=s3.newT dJ (o:=.tup [V.int x,V.int g])
    have jP:=nr.mono (Same.new dJ (o:=.tup [V.int x,V.int g]))
    have nv:=Same.new dJ (o:=.tup [V.int x,V.int g]) _ _ c9
    walk_at "rd"
    refine⟨_,SqT.of Ab,rfl,?_⟩
    walk_at "rd"
    generalize upd H3 t' (.tup [V.int x,V.int g])=HT' at sT jP nv ⊢
    by_cases hm:g∈av.map (·.1)
    ·rw[if_pos hm]at eC gy gz cE
     obtain⟨e',eM,e1⟩:=jv_.mp hm
     obtain⟨g',w'⟩:=e'
     have e1:g'=g:=e1
     subst e1
     obtain⟨tt,dg,_⟩:=jP.yes dv.nod eM
     refine⟨_,dg,?_⟩
     rw[if_neg (by simp)]
     exact (cL _ _ _).mpr ⟨av,_,_,sT,jP,nv,eC,gy,gz,cE,rfl⟩
    ·rw[if_neg hm]at eC gy gz cE
     refine⟨_,jP.no hm,?_⟩
     rw[if_pos (by simp)]
     obtain⟨tw,dw,lK⟩:=jP.yes dv.nod dS
     refine⟨_,dw,by lia,fun q5 lL=>?_⟩
     have cK:w.length<=100:=by
      have h1:w.length<=i:=dv.sh i _ fZ
      lia
     refine HR.ofS (Same.new lL _ _ lK) Ab (by simp;lia) fun q6 H6 s6 hq6=>?_
     have sU:=(sT.newT lL).trans s6
     have enU:=(jP.mono (Same.new lL)).mono s6
     have hrU:=s6 _ _ (Same.new lL _ _ nv)
     have hq6':H6 q6=some (.tup ((w++[(x:Int)]).map V.int)):=by simpa using hq6
     obtain⟨H7,dp,⟨kvs,dt,hd,rfl⟩,enV⟩:=enU.put hm (by have:=dv.len;lia) hq6'
     walk_at "rd"
     refine⟨_,dp,?_⟩
     have ny:upd H6 p (.dK dt) p2=some (.lst ((av.map (·.1)).map V.int)):=by rw[Ai hne2];exact hrU
     refine⟨.inl ⟨rfl,_,SqL.of ny⟩,_,ny,by have:=dv.len;simp;lia,(cL _ _ _).mpr ⟨av++[(g,w++[(x:Int)])],_,_,(sU.over hp).over hp2n,enV.off ny,by rw[Ab];simp,eC,gy,gz,cE,rfl⟩⟩
   ·obtain⟨av,o5,o6,s3,nr,c9,dv,gw,fZ,cE,rfl⟩:=(cL _ _ _).mp h3
    rw[ja_]at dv gw cE
    rw[List.drop_length,Jr]at cE
    walk_at "rd"
    obtain⟨eC,fG⟩:=dv.next s!"" cZ gw fZ
    refine (aq _ _ _).mpr ⟨av,i+1,_,_,_,_,rfl,s3,nr,c9,eC,fG,?_,by push_cast;rfl⟩
    rw[show aa.length+1-i=(aa.length+1-(i+1))+1 by lia,Pj he]at cD
    rw[cE,<-kC]
    exact cD
  ·have hi:i=ents.length:=by have:=bf.il;lia
   subst hi
   rw[Ph (by simp)]at cD
   rw[<-cD]at k
   exact k p top H2 s2 hp en2 bf
noncomputable def Fw_ (H:Hp)(d:Addr)(ents:List (Int×α2))(n:Nat):Prop:=∃xs:List V,H d=some (.lst xs)/\xs.length=n/\∀r:Nat,r<n->(∃(w:α2) (t:Addr),((r:Int),w)∈ents/\xs[r]?=some (.ref t)/\H t=some (.tup (w.map V.int)))\/((r:Int)∉ents.map (·.1)/\xs[r]?=some .non)
noncomputable def RO (K:α3):Sp:=fun vs H Q _=>∃(h:Addr) (L:Int) (aa:α2) (ae:α1),vs=[.ref h]/\BU K H h L aa ae/\Wf L aa ae/\∀d top H',Same H H'->H d=none->Fw_ H' d (AA ae) aa.length->Bfs L aa.length ae (AA ae) (AA ae).length top->Q (.ref d) H'
theorem Wm   (F:Fun K "ways_in" "ways_in" El f fd)(T:Txt mg)
   (Eb:FnOk P w K mg base CX0 1 CV Er ["house"] (JH K)) (Dq:Fun K "words_in" "words_in" Dn CV Er) (Ec:A7 K Er ["house"] []) (Ed:mg "words_in"=some (.ref CV))
  : FnOk P w K mg base CX0 2 f fd ["house"] (RO K):=by
 refine F.ok OK (fun vs H Q E h=>?_) (fun ay A outer s H vs Q E hr h=>?_)
 ·obtain⟨h,L,aa,ae,rfl,_⟩:=h;rfl
 ·obtain⟨h,L,aa,ae,rfl,hh,wf,k⟩:=h
  have hl:=AE
  have aN:=wf.n40
  refine⟨_,(Ad (Cd (i:=1) OK.nd rfl (Or.inr rfl) (Al Eb (hr.mono (by decide)) rfl Ed Dq.kp Ec .nil A3 (Aa (pvD 0) Ae)))
   (Ag (AR (B3 rfl (B4 rfl) (cp:=L3) (te:=XE (V3 1) (V3 0)) ⟨⟨rfl,rfl⟩,True.intro⟩ (Bh rfl T.range (Aa (As (lenD Ak) (by rfl) T.len jI_ (Aa (Ah (ixTD Ao) (pvD 0) Ac) Ae)) Ae)) (fun _ _ _ _=>(Au (i:=0) N2 rfl (Or.inl rfl))) (fun _ _ _ _=>Ce) (fun _ _ _ _=>(by exact (Zq (Q3 hr) (pvD 1) (pvD 0) ⟨rfl,rfl,rfl,rfl⟩))))))),?_⟩
  walk_at "rd"
  refine⟨h,L,aa,ae,rfl,hh,wf,fun d top H1 s1 hd en bf=>?_⟩
  obtain⟨mm,wv,q1,q2,q3⟩:=hh.mono s1
  walk_at "rd"
  refine⟨_,q1,_,rfl,?_⟩
  walk_at "rd"
  refine⟨_,.inr q2,?_⟩
  rw[ja_]
  refine⟨by lia,by lia,?_⟩
  rw[ji_]
  obtain⟨Pc,cM⟩:∃Pc:Nat->List V->St->Hp->Prop,∀j ys bu H4,Pc j ys bu H4↔(H4=H1/\ys.length=j/\(∀r:Nat,r<j->(∃(w:α2) (t:Addr),((r:Int),w)∈AA ae/\ys[r]?=some (.ref t)/\H1 t=some (.tup (w.map V.int)))\/((r:Int)∉(AA ae).map (·.1)/\ys[r]?=some .non))/\∃o,bu=[o,some (.ref d)]):=⟨_,fun _ _ _ _=>qk_⟩
  refine Ra Pc ((cM _ _ _ _).mpr ⟨rfl,rfl,(fun r hr=>absurd hr (xi_ _)),none,rfl⟩) s!"" (fun j ys bu H4 _ h4=>?_) (fun j ys bu H4 hj h4=>?_) (fun ys bu H4 h4 D hD=>?_)
  ·obtain⟨_,ak,_⟩:=(cM _ _ _ _).mp h4
   lia
  ·obtain⟨rfl,ak,az,o,rfl⟩:=(cM _ _ _ _).mp h4
   obtain⟨kvs,jJ,_⟩:=id en
   have ext:∀v:V,((∃(w:α2) (t:Addr),((j:Int),w)∈AA ae/\v=.ref t/\H4 t=some (.tup (w.map V.int)))\/((j:Int)∉(AA ae).map (·.1)/\v=.non))->∀o,Pc (j+1) (ys++[v]) [o,some (.ref d)] H4:=fun v hv o=>by
    refine (cM _ _ _ _).mpr ⟨rfl,by simp[ak],fun r hr=>?_,o,rfl⟩
    by_cases kQ:r<j
    ·rw[jj_ s!""]
     exact az r kQ
    ·have e:r=j:=by lia
     subst e
     rw[jr_ s!"",ak,qs_]
     rcases hv with ⟨w,t,a,b,c⟩|⟨a,b⟩
     ·exact .inl ⟨w,t,a,by rw[b];rfl,c⟩
     ·exact .inr ⟨a,by rw[b];rfl⟩
   walk_at "rd"
   refine⟨.inl ⟨kvs,.inl jJ⟩,?_⟩
   have ej:(0:Int)+(j:Nat)=(j:Int):=by lia
   rw[ej]
   by_cases hm:(j:Int)∈(AA ae).map (·.1)
   ·obtain⟨e',eM,e1⟩:=jv_.mp hm
    obtain⟨g',w'⟩:=e'
    have e1:g'=(j:Int):=e1
    subst e1
    obtain⟨tt,dg,hw⟩:=en.yes bf.nod eM
    exact⟨_,dg,ext _ (.inl ⟨w',tt,eM,rfl,hw⟩) _⟩
   ·exact⟨_,en.no hm,ext _ (.inr ⟨hm,rfl⟩) _⟩
  ·obtain⟨rfl,ak,az,o,rfl⟩:=(cM _ _ _ _).mp h4
   refine k D top _ (s1.newT hD) (s1.free hD) ⟨ys,Ab,ak,fun r hr=>?_⟩ bf
   rcases az r hr with ⟨w,t,a,b,c⟩|h
   ·exact .inl ⟨w,t,a,b,Same.new hD _ _ c⟩
   ·exact .inr h
structure RF (L n:Nat)(ae:α1)(R:α2):Prop where
 hd:R[0]?=some 0
 nod:R.Nodup
 rng:∀r∈R,0<=r/\r<(n:Int)
 len:R.length<=n
 cls:∀r∈R,∀x:Nat,x<L->Cz ae r (x:Int)∈R
theorem RF.of {L n:Nat}{ae:α1}{top:Int}(bf:Bfs L n ae (AA ae) (AA ae).length top):RF L n ae ((AA ae).map (·.1)):=by
 refine⟨by rw[jd_,bf.hd];rfl,bf.nod,fun r hr=>?_,by rw[ja_];exact bf.len,fun r hr x hx=>?_⟩
 ·obtain⟨e,he,rfl⟩:=jv_.mp hr
  exact bf.rng e he
 ·obtain⟨e,he,rfl⟩:=jv_.mp hr
  obtain⟨j,hj⟩:=jG_.mp he
  obtain⟨e',h1,h2,_⟩:=bf.don j (jb_.mp hj).1 e hj (x:Int) s!"" s!""
  rw[<-h2]
  exact q5_ h1
noncomputable def JI (K:α3):Sp:=fun vs H Q _=>∃(h:Addr) (L:Nat) (aa:α2) (ae:α1),vs=[.ref h]/\BU K H h L aa ae/\Wf L aa ae/\∀p H',Same H H'->H p=none->H' p=some (.lst (((AA ae).map (·.1)).map V.int))->RF L aa.length ae ((AA ae).map (·.1))->Q (.ref p) H'
theorem Wn   (F:Fun K "reached" "reached" DT f fd)(T:Txt mg)
   (Eb:FnOk P w K mg base CX0 1 CV Er ["house"] (JH K)) (Dq:Fun K "words_in" "words_in" Dn CV Er) (Ec:A7 K Er ["house"] []) (Ed:mg "words_in"=some (.ref CV))
  : FnOk P w K mg base CX0 2 f fd ["house"] (JI K):=by
 refine F.ok Wj (fun vs H Q E h=>?_) (fun ay A outer s H vs Q E hr h=>?_)
 ·obtain⟨h,L,aa,ae,rfl,_⟩:=h;rfl
 ·obtain⟨h,L,aa,ae,rfl,hh,wf,k⟩:=h
  refine⟨_,(Ag (AR (AO (NW rfl) rfl T.list xk_ (Aa (Al Eb (hr.mono (by decide)) rfl Ed Dq.kp Ec .nil A3 (Aa (pvD 0) Ae)) Ae)))),?_⟩
  walk_at "rd"
  refine⟨h,L,aa,ae,rfl,hh,wf,fun d top H1 s1 hd en bf=>?_⟩
  obtain⟨kvs,h1,h2,h3⟩:=en
  refine⟨d,rfl,kvs,h1,fun l hl=>k l _ (s1.newT hl) (s1.free hl) ?_ (RF.of bf)⟩
  rw[Ab]
  congr 2
  refine qI_ fun i=>?_
  rw[jd_,jd_,jd_]
  cases he:(AA ae)[i]? with
  |none=>
   have:kvs[i]?=none:=by rw[xr_]at he ⊢;lia
   rw[this];rfl
  |some e=>
   obtain⟨t,a,_⟩:=h3 i e he
   rw[a];rfl
noncomputable def numD {α κ:Type}[DecidableEq α](k:α->κ)(ks:List α):List (κ×V):=ks.map fun x=>(k x,V.int ((ks.idxOf x:Nat):Int))
theorem FQ {α κ:Type}[DecidableEq α]{k:α->κ}{ks:List α}:(numD k ks).length=ks.length:=by unfold numD;rw[ja_]
theorem Fp {α κ:Type}[DecidableEq α][DecidableEq κ]{k:α->κ}(hk:∀x y,k x=k y->x=y){ks:List α}(nd:ks.Nodup){x:α}(hx:x∈ks):valV (numD k ks) (k x)=some (V.int ((ks.idxOf x:Nat):Int)):=by
 have hi:=qD_ hx
 refine Cz_ (i:=ks.idxOf x) ?_ ?_
 ·unfold numD
  rw[jW_]
  exact List.Pairwise.map _ (fun a b cj z=>cj (hk a b z)) nd
 ·unfold numD
  rw[jd_,jf_ hi,qY_];rfl
theorem Ja {α κ:Type}[DecidableEq α][DecidableEq κ]{k:α->κ}(hk:∀x y,k x=k y->x=y){ks:List α}{x:α}(hx:x∉ks):valV (numD k ks) (k x)=none:=by
 have h1:=FC (k x) (numD k ks)
 have h2:((numD k ks).any fun kv=>decide (kv.1=k x))=false:=by
  rw[List.any_eq_false]
  intro p hp
  unfold numD at hp
  obtain⟨y,hy,rfl⟩:=jv_.mp hp
  simp only[qo_]
  intro z
  exact hx (hk _ _ z ▸ hy)
 rw[h2]at h1
 cases q:valV (numD k ks) (k x) with
 |none=>rfl
 |some v=>rw[q]at h1;cases h1
theorem P0 {α κ:Type}[DecidableEq α][DecidableEq κ]{k:α->κ}(hk:∀x y,k x=k y->x=y){ks:List α}{x:α}(hx:x∉ks):putK (numD k ks) (k x) (V.int ((ks.length:Nat):Int))=numD k (ks++[x]):=by
 rw[Zm _ (Ja hk hx)]
 unfold numD
 rw[jS_,List.map_singleton,Tc hx]
 congr 1
 exact qj_ fun y hy=>by rw[ZJ hy]
theorem FT {α:Type}[DecidableEq α]{row:List α}{i:Nat}{x:α}(h:row[i]?=some x):AL (row.take (i+1))=ins1 (AL (row.take i)) x:=by
 rw[jU_,h];exact S9 _ _
theorem P4  [DecidableEq α](row:List α)(i:Nat):(AL (row.take i)).length<=row.length:=by
 have h1:=Oz (row.take i)
 unfold ncl at h1
 rw[jB_]at h1
 lia
noncomputable def BP_ (K:α3):Sp:=fun vs H Q _=>∃(a:Addr),vs=[.ref a]/\((∃ns:α2,SqT K H a (ns.map V.int)/\ns.length<=100/\∀l H',Same H H'->H l=none->H' l=some (.lst ((num ns).map V.int))->Q (.ref l) H')\/(∃(xs:List V) (ws:α1),SqL K H a xs/\AY K H xs ws/\ws.length<=100/\∀l H',Same H H'->H l=none->H' l=some (.lst ((num ws).map V.int))->Q (.ref l) H'))
theorem TF   (F:Fun K "numbered" "numbered" DJ f fd)(T:Txt mg)
  : FnOk P w K mg base CX0 1 f fd ["row"] (BP_ K):=by
 refine F.ok Ih (fun vs H Q E h=>?_) (fun ay A outer s H vs Q E hr h=>?_)
 ·obtain⟨a,rfl,_⟩:=h;rfl
 ·obtain⟨a,rfl,cj⟩:=h
  have hl:=AE
  refine⟨_,(Ad (Cd (i:=1) Ih.nd rfl (Or.inr rfl) ZI)
   (Ad (Ci jJ_ rfl (Bk_ (pvD 0)) (Au (i:=2) Ih.nd rfl (Or.inl rfl))
   (Ag (Cy (AO_ (Q6 (Q3 hr) (pvD 2) (pvD 1)))
   (Ag (SW (Q3 hr) (pvD 1) (pvD 2) (As Rr (by rfl) T.len jI_ (Aa (pvD 1) Ae)) rfl))
   AX)))
   (Ag (AR (B3 rfl (B4 rfl) (cp:=Ke) ⟨⟨rfl,rfl⟩,True.intro⟩ (Bk_ (pvD 0)) (fun _ _ _ _=>(Au (i:=0) L4 rfl (Or.inl rfl))) (fun _ _ _ _=>Ce) (fun _ _ _ _=>(XB (Q3 hr) (pvD 1) (pvD 0) (fun _ _=>rfl)))))))),?_⟩
  rcases cj with ⟨ns,ha,hz,k⟩|⟨xs,ws,ha,hW,hz,k⟩
  ·walk_at "rd"
   refine .inl fun d hd=>?_
   have sd:=Same.new hd (o:=.dK [])
   have bZ:∀x y:Int,(Sum.inl x:Key)=Sum.inl y->x=y:=fun x y z=>Sum.inl.inj z
   obtain⟨Pv,aq⟩:∃Pv:Nat->St->Hp->Prop,∀i ag H',Pv i ag H'↔(∃o:Option V,Same H H'/\H' d=some (.dK (numD (fun x:Int=>(Sum.inl x:Key)) (AL (ns.take i))))/\ag=[some (.ref a),some (.ref d),o]):=⟨_,fun _ _ _=>qk_⟩
   refine .inr ⟨⟨_,sd.seqT ha⟩,forT (xs:=ns.map V.int) Pv ((aq _ _ _).mpr ⟨none,sd,Ab,rfl⟩) (fun i ag H' _ h'=>by obtain⟨_,s',_⟩:=(aq _ _ _).mp h';exact s'.seqT ha) (fun i x ag H' hx h'=>?_) (fun ag H' h'=>?_)⟩
   ·obtain⟨o,s',cN,rfl⟩:=(aq _ _ _).mp h'
    obtain⟨n,hn,rfl⟩:=Dy hx
    have jQ:=P4 ns i
    have nd:=BG (ns.take i)
    have et:=FT hn
    walk_at "rd"
    refine⟨_,DGet.k (k:=Sum.inl n) cN,?_⟩
    by_cases hm:n∈AL (ns.take i)
    ·rw[Fp bZ nd hm]
     simp only[za_,zZ_,jY_,q3_]
     exact (aq _ _ _).mpr ⟨_,s',by rw[et,ins1,if_pos hm];exact cN,rfl⟩
    ·rw[Ja bZ hm]
     simp only[Option.isSome_none,zQ_,xO_]
     have iZ:=P0 (k:=fun x:Int=>(Sum.inl x:Key)) bZ hm
     refine .inl ⟨_,cN,_,DPut.k (k:=Sum.inl n) cN (by rw[FQ];lia),(aq _ _ _).mpr ⟨_,s'.over hd,?_,rfl⟩⟩
     rw[Ab,et,ins1,if_neg hm,FQ]
     exact jD_ (fun z=>some (HO.dK z)) iZ
   ·obtain⟨o,s',cN,rfl⟩:=(aq _ _ _).mp h'
    rw[ja_,jT_]at cN
    walk_at "rd"
    obtain⟨f,hf⟩:∃f:V->V,∀n:Int,f (V.int n)=.int (((AL ns).idxOf n:Nat):Int):=⟨fun x=>match x with | .int n=>.int (((AL ns).idxOf n:Nat):Int)|_=>.non,fun _=>rfl⟩
    refine .inr ⟨⟨_,s'.seqT ha⟩,He (ag:=[some (.ref d)]) f rfl (s'.seqT ha) (by rw[ja_];lia) (fun x hx R hR=>?_) (fun D hD=>?_)⟩
    ·obtain⟨n,hn,rfl⟩:=EI hx
     rw[hf]at hR
     have e:=Fp (k:=fun x:Int=>(Sum.inl x:Key)) bZ (BG ns) (A9.mpr hn)
     have hg:=DGet.k (k:=Sum.inl n) cN
     rw[e]at hg
     walk_at "rd"
     exact⟨_,hg,hR⟩
    ·have em:(ns.map V.int).map f=(num ns).map V.int:=by
      unfold num
      rw[jW_,jW_]
      exact qj_ fun n _=>hf n
     exact k D _ (s'.newT hD) (s'.none hD) (by rw[Ab,em])
  ·walk_at "rd"
   refine .inr fun d hd=>?_
   have sd:=Same.new hd (o:=.dT [])
   obtain⟨Pv,aq⟩:∃Pv:Nat->St->Hp->Prop,∀i ag H',Pv i ag H'↔(∃o:Option V,Same H H'/\H' d=some (.dT (numD wkey (AL (ws.take i))))/\ag=[some (.ref a),some (.ref d),o]):=⟨_,fun _ _ _=>qk_⟩
   refine .inl ⟨⟨_,sd.seq ha⟩,forL (xs:=xs) Pv ((aq _ _ _).mpr ⟨none,sd,Ab,rfl⟩) (fun i ag H' _ h'=>by obtain⟨_,s',_⟩:=(aq _ _ _).mp h';exact s'.seq ha) (fun i x ag H' hx h'=>?_) (fun ag H' h'=>?_)⟩
   ·obtain⟨o,s',cN,rfl⟩:=(aq _ _ _).mp h'
    obtain⟨t,v,eL,rfl,ht⟩:=hW.at hx
    have jQ:=P4 ws i
    have nd:=BG (ws.take i)
    have et:=FT eL
    have dJ:H' t=some (.tup ((wkey v).map kV)):=by rw[Po];exact s' _ _ ht
    walk_at "rd"
    refine⟨_,DGet.t cN dJ,?_⟩
    by_cases hm:v∈AL (ws.take i)
    ·rw[Fp (fun x y z=>II z) nd hm]
     simp only[za_,zZ_,jY_,q3_]
     exact (aq _ _ _).mpr ⟨_,s',by rw[et,ins1,if_pos hm];exact cN,rfl⟩
    ·rw[Ja (fun x y z=>II z) hm]
     simp only[Option.isSome_none,zQ_,xO_]
     refine .inr ⟨_,cN,_,DPut.t (k:=wkey v) cN dJ (by rw[FQ];lia),(aq _ _ _).mpr ⟨_,s'.over hd,?_,rfl⟩⟩
     rw[Ab,et,ins1,if_neg hm,FQ,P0 (fun x y z=>II z) hm]
   ·obtain⟨o,s',cN,rfl⟩:=(aq _ _ _).mp h'
    rw[hW.1,jT_]at cN
    walk_at "rd"
    refine .inl ⟨⟨_,s'.seq ha⟩,Q9 (xs:=xs) (fun i zs aj H2=>H2=H'/\zs=((num ws).take i).map V.int/\∃o,aj=[o,some (.ref d)]) ⟨rfl,rfl,none,rfl⟩ (by rw[hW.1];lia) (fun i zs aj H2 hi h2=>⟨by rw[h2.1];exact s'.seq ha,by rw[h2.2.1,ja_,jB_];lia⟩) (fun i x zs aj H2 hx h2=>?_) (fun zs aj H2 h2 D hD=>?_)⟩
    ·obtain⟨rfl,rfl,o2,rfl⟩:=h2
     obtain⟨t,v,eL,rfl,ht⟩:=hW.at hx
     have dJ:H2 t=some (.tup ((wkey v).map kV)):=by rw[Po];exact s' _ _ ht
     have e:=Fp (fun x y z=>II z) (BG ws) (A9.mpr (jc_ eL))
     have hg:=DGet.t cN dJ
     rw[e]at hg
     walk_at "rd"
     refine⟨_,hg,?_⟩
     first
      | (refine⟨rfl,?_,_,rfl⟩;rw[jU_,U7 eL,jS_];rfl)
      | (refine⟨?_,_,rfl⟩;rw[jU_,U7 eL,jS_];rfl)
    ·obtain⟨rfl,rfl,o2,rfl⟩:=h2
     rw[hW.1,jO_ (by rw[Ju];exact jg_ _)]
     exact k D _ (s'.newT hD) (s'.none hD) Ab
noncomputable def BehL (H:Hp)(mm pw pb:Addr)(aa:α2)(n:Nat)(b:α2->Nat->Int)(bs:List V)(words:α1):Prop:=bs.length=words.length/\∀(i:Nat) (w:α2),words[i]?=some w->∃t,bs[i]?=some (.ref t)/\((H t=some (.lst ((rowB n b w).map V.int))/\t≠pw/\t≠pb)\/(t=mm/\rowB n b w=aa))
theorem BehL.keep        (h:BehL H mm pw pb aa n b bs words)(s:∀t o,t≠pw->t≠pb->H t=some o->H' t=some o):BehL H' mm pw pb aa n b bs words:=⟨h.1,fun i w hi=>by
 obtain⟨t,e1,e2⟩:=h.2 i w hi
 exact⟨t,e1,e2.imp (fun e=>⟨s _ _ e.2.1 e.2.2 e.1,e.2⟩) id⟩⟩
theorem BehL.snoc {H:Hp}{mm pw pb:Addr}{aa:α2}{n:Nat}{b:α2->Nat->Int}{bs:List V}{words:α1}{t:Addr}{w:α2}(h:BehL H mm pw pb aa n b bs words)(ht:H t=some (.lst ((rowB n b w).map V.int)))(h1:t≠pw)(h2:t≠pb):BehL H mm pw pb aa n b (bs++[.ref t]) (words++[w]):=by
 refine⟨by simp[h.1],fun i r hi=>?_⟩
 by_cases hl:i<words.length
 ·rw[jj_ hl]at hi
  rw[jj_ (by rw[h.1];exact hl)]
  exact h.2 i r hi
 ·have:=(jb_.mp hi).1
  rw[jo_,j0_]at this
  have e:i=words.length:=by lia
  subst e
  rw[jr_ (jg_ _),qs_]at hi
  simp at hi
  subst hi
  exact⟨t,by rw[<-h.1];simp,.inl ⟨ht,h1,h2⟩⟩
theorem WC.short      (h:WC L n b words c):∀(k:Nat) (w:α2),words[k]?=some w->w.length<=k:=by
 intro k
 induction k using Nat.strongRecOn with
 |_ k ih=>
  intro w hw
  cases k with
  |zero=>
   rw[h.w0]at hw
   cases hw
   exact jX_ _
  |succ k=>
   obtain⟨j,hj⟩:=jG_.mp (h.tl (k+1) w hw (Nat.succ_pos _))
   rw[List.getElem?_take]at hj
   split at hj
   ·rename_i au
    have:=ih j au _ hj
    rw[List.length_tail]at this
    lia
   ·cases hj
noncomputable def zipW (c m:α2):α1:=(c.zip m).map fun p=>[p.1,p.2]
theorem Z9 (c m:α2):num (zipW c m)=num (c.zip m):=CJ_ _ fun p _ q _ e=>by
 have h1:=List.cons.inj e
 exact Prod.ext h1.1 (List.cons.inj h1.2).1
noncomputable def Da_ (K:α3):Sp:=fun vs H Q _=>∃(h:Addr) (L:Nat) (aa:α2) (ae:α1),vs=[.ref h]/\BU K H h L aa ae/\Wf L aa ae/\∀t pw pc xs H',Same H H'->H' t=some (.tup [.ref pw,.ref pc])->H pw=none->H' pw=some (.lst xs)->AY K H' xs (wcOf aa.length L (bW aa ae)).1->H' pc=some (.lst ((wcOf aa.length L (bW aa ae)).2.map V.int))->Fin17 aa.length L (bW aa ae) (wcOf aa.length L (bW aa ae))->Q (.ref t) H'
theorem Hx   (F:Fun K "words_and_classes" "words_and_classes" A0 f fd)(T:Txt mg)
   (Hk:FnOk P w K mg base CX0 1 Ee L9 ["row"] (BP_ K)) (Ef:Fun K "numbered" "numbered" DJ Ee L9) (Hl:A7 K L9 ["row"] []) (Hm:mg "numbered"=some (.ref Ee))
  : FnOk P w K mg base CX0 2 f fd ["house"] (Da_ K):=by
 refine F.ok AD (fun vs H Q E h=>?_) (fun ay A outer s H vs Q E hr h=>?_)
 ·obtain⟨h,L,aa,ae,rfl,_⟩:=h;rfl
 ·obtain⟨h,L,aa,ae,rfl,hh,wf,k⟩:=h
  have hl:=AE
  have cB:=wf.l1
  have cC:=wf.l6
  have b7:=wf.n1
  have aN:=wf.n40
  refine⟨_,(Ad (Aj (i:=1) AD.nd (Cu (Aa (Dj Ae) Ae)))
   (Ad (Cd (i:=2) AD.nd rfl (Or.inr rfl) (Cu (Aa (Ah (ixTD Ao) (pvD 0) Ac) Ae)))
   (Ad (Aj (i:=3) AD.nd (Al Hk (hr.mono (by decide)) rfl Hm Ef.kp Hl .nil A3 (Aa (Ah (ixTD Ao) (pvD 0) Ac) Ae)))
   (Ad (Cd (i:=4) AD.nd rfl (Or.inr rfl) Ac)
   (Ad (Hb jJ_ (ptT (Aw (opD0 LB) (pvD 4) (As (lenD Ak) (by rfl) T.len jI_ (Aa (pvD 1) Ae)) (AV _)))
   (Ad (Ci jJ_ rfl (Bh rfl T.range (Aa (Ah (ixTD Ao) (pvD 0) Ac) Ae)) (Au (i:=5) AD.nd rfl (Or.inr rfl))
   (Ad (Ia (i:=6) AD.nd rfl rfl rfl (B4 rfl) (cp:=DU) ⟨⟨rfl,rfl⟩,⟨⟨rfl,rfl⟩,⟨⟨rfl,rfl⟩,True.intro⟩⟩⟩ (Gk (Ah (ixTD Ao) (pvD 0) Ac)) (fun _ _ _ _=>(Au (i:=0) Fh rfl (Or.inl rfl))) (fun _ _ _ _=>Ce) (fun _ _ _ _=>(DI_ (CG_ (K:=K) rfl) (Ah (ixLD (Cv (K:=K) rfl)) (pvD 1) (pvD 2)) (Ah (ixTD (Dz (K:=K) rfl)) (pvD 0) (pvD 3)) (fun _ _=>rfl))))
   (Ad (Aj (i:=7) AD.nd (Al Hk (hr.mono (by decide)) rfl Hm Ef.kp Hl .nil A3 (Aa (VX rfl rfl T.list rfl T.zip (Aa (pvD 3) (Aa (pvD 6) Ae))) Ae)))
   (Ag (Cy (ptT (Aw (opD0 Ch_) (As (Rq rfl) rfl T.max zs_ (Aa (pvD 7) Ae)) (As (Rq rfl) rfl T.max zs_ (Aa (pvD 3) Ae)) (AV _)))
   (Ad (BS (FA jE_ jM_ jN_ Bi (pvD 1) (Aa (An Hf (Dj (Aa (pvD 5) Ae)) (Ah (ixLD Bn) (pvD 1) (pvD 4))) Ae)))
   (Ad (BS (FA jE_ jM_ jN_ Bi (pvD 2) (Aa (pvD 6) Ae)))
   (Ag (Aj (i:=3) AD.nd (pvD 7)))))
   AX)))))
   (Ag (W8 (i:=4) AD.nd rfl (Or.inr rfl) Ac AP_))))
   (Ag (AR (Dj (Aa (pvD 1) (Aa (pvD 3) Ae)))))))))),?_⟩
  obtain⟨mm,wv,q1,q2,ts,q3,q4,q5⟩:=id hh
  walk_at "rd"
  refine⟨jX_ _,fun t0 gA=>⟨by lia,fun pw a9=>?_⟩⟩
  have s1:=(Same.new gA (o:=.tup [])).newT a9 (o:=.lst [V.ref t0])
  have hpwH:H pw=none:=(Same.new gA (o:=.tup [])).none a9
  have cA:upd (upd H t0 (.tup [])) pw (.lst [V.ref t0]) pw=some (.lst [V.ref t0]):=Ab
  have hW1:AY K (upd (upd H t0 (.tup [])) pw (.lst [V.ref t0])) [V.ref t0] [[]]:=⟨rfl,fun i w hi=>by
   match i,hi with
   |0,hi=>cases hi;exact⟨t0,rfl,Same.new a9 _ _ Ab⟩⟩
  generalize upd (upd H t0 (.tup [])) pw (.lst [V.ref t0])=H1 at s1 cA hW1 ⊢
  refine⟨_,s1.seqT q1,_,rfl,by lia,fun pb jR=>?_⟩
  have hpbH:H pb=none:=s1.none jR
  have hpbw:pb≠pw:=fun z=>by rw[z,cA]at jR;cases jR
  have s2:=s1.newT jR (o:=.lst [V.ref mm])
  have eg:upd H1 pb (.lst [V.ref mm]) pb=some (.lst [V.ref mm]):=Ab
  have dy:=Same.new jR (o:=.lst [V.ref mm]) _ _ cA
  have i3:=hW1.mono (TK.new jR (o:=.lst [V.ref mm]))
  generalize upd H1 pb (.lst [V.ref mm])=H2 at s2 eg dy i3 ⊢
  refine⟨_,s2.seqT q1,_,rfl,mm,rfl,.inl ⟨aa,s2.seqT q2,by lia,fun pc H3 s3 gC hpc3=>?_⟩⟩
  have i4:=s2.trans s3
  obtain⟨Pv,aq⟩:∃Pv:Nat->St->Hp->Prop,∀m ag H',Pv m ag H'↔(∃(st:StC) (k:Nat) (xs bs:List V) (pc:Addr) (o5 o6 o7:Option V),m=41-k/\Same H H'/\H' pw=some (.lst xs)/\AY K H' xs st.1/\H' pb=some (.lst bs)/\BehL H' mm pw pb aa aa.length (bW aa ae) bs st.1/\H' pc=some (.lst (st.2.map V.int))/\pc≠pw/\pc≠pb/\WS aa.length L (bW aa ae) k 0 st/\IL aa.length (bW aa ae) L (41-k) k st=wcOf aa.length L (bW aa ae)/\ag=[some (.ref h),some (.ref pw),some (.ref pb),some (.ref pc),some (.int k),o5,o6,o7]):=⟨_,fun _ _ _=>qk_⟩
  have hpcw:pc≠pw:=fun z=>by rw[z,dy]at gC;cases gC
  have hpcb:pc≠pb:=fun z=>by rw[z,eg]at gC;cases gC
  refine Ov Pv ⟨_,(aq _ _ _).mpr ⟨([[]],num (rowB aa.length (bW aa ae) [])),0,[V.ref t0],[V.ref mm],pc,none,none,none,rfl,i4,s3 _ _ dy,i3.mono (TK.of s3),s3 _ _ eg,⟨rfl,fun i w hi=>?_⟩,by rw[Bu_];exact hpc3,hpcw,hpcb,WS.start b7,rfl,rfl⟩⟩ ?_
  ·match i,hi with
   |0,hi=>cases hi;exact⟨mm,rfl,.inr ⟨rfl,Bu_⟩⟩
  intro m bu H4 h4
  obtain⟨st,k0,xs,bs,pc4,o5,o6,o7,rfl,s4,cF,f6,hb4,hB4,nA,hcw4,hcb4,nB,ho4,rfl⟩:=(aq _ _ _).mp h4
  have gf:=nB.few
  walk_at "rd"
  refine⟨_,.inl (SqL.of cF),?_⟩
  rw[f6.1]
  refine ite2 (fun au=>?_) (fun bj=>?_)
  ·have hk:k0<st.1.length:=by lia
   obtain⟨w,dR⟩:∃w,st.1[k0]?=some w:=⟨st.1[k0],by simp[hk]⟩
   refine⟨Pv (41-(k0+1)),fun ag H' h=>⟨_,by lia,h⟩,?_⟩
   walk_at "rd"
   refine⟨_,s4.seqT q1,_,rfl,L,rfl,by lia,by lia,?_⟩
   rw[ji_]
   obtain⟨Pz,kR⟩:∃Pv:Nat->St->Hp->Prop,∀i ag H',Pv i ag H'↔(∃(ah:StC) (xs bs:List V) (pc:Addr) (o5 o6 o7:Option V),ah=IK aa.length (bW aa ae) w i st/\Same H H'/\H' pw=some (.lst xs)/\AY K H' xs ah.1/\H' pb=some (.lst bs)/\BehL H' mm pw pb aa aa.length (bW aa ae) bs ah.1/\H' pc=some (.lst (ah.2.map V.int))/\pc≠pw/\pc≠pb/\WS aa.length L (bW aa ae) k0 i ah/\ah.1[k0]?=some w/\ag=[some (.ref h),some (.ref pw),some (.ref pb),some (.ref pc),some (.int k0),o5,o6,o7]):=⟨_,fun _ _ _=>qk_⟩
   refine forR Pz ((kR _ _ _).mpr ⟨st,xs,bs,pc4,o5,o6,o7,rfl,s4,cF,f6,hb4,hB4,nA,hcw4,hcb4,nB,dR,rfl⟩) (fun i gD H5 hi h5=>?_) (fun gD H5 h5=>?_)
   ·obtain⟨aZ,kU,kW,nE,p5,p6,p7,i5,s5,eO,jS,jT,jU,lM,i6,i7,eQ,eE,rfl⟩:=(kR _ _ _).mp h5
    rw[zP_]
    have hfew5:=eQ.few
    have hisw:=eQ.wc.ok w (jc_ eE)
    obtain⟨tb,jK,htbv⟩:=jU.2 k0 w eE
    walk_at "rd"
    refine⟨_,s5.seqT q1,_,rfl,wv,rfl,⟨_,s5.seqT q3⟩,Zu (xs:=ts.map V.ref) (fun j zs ag H'=>H'=H5/\zs=((rowB aa.length (bW aa ae) ((i:Int)::w)).take j).map V.int/\∃o,ag=[o,some (.ref pb),some (.int k0),some (.int i)]) ⟨rfl,rfl,none,rfl⟩ (by rw[ja_,q4,wf.len];lia) (fun j zs ag H' hj h'=>⟨by rw[h'.1];exact s5.seqT q3,by rw[h'.2.1,ja_,jB_];lia⟩) (fun j x zs ag H' hx h'=>?_) (fun zs ag H' h' D hD=>?_)⟩
    ·obtain⟨rfl,rfl,o,rfl⟩:=h'
     rw[jd_]at hx
     cases lN:ts[j]? with
     |none=>rw[lN]at hx;cases hx
     |some tj=>
      rw[lN]at hx
      cases hx
      have hj:j<aa.length:=by rw[<-wf.len,<-q4];exact (jb_.mp lN).1
      obtain⟨row,g,r1,r2,r3,r4,r5⟩:=wf.step (show (0:Int)<=(j:Nat) by lia) s!"" (show (0:Int)<=(i:Nat) by lia) s!""
      rw[ji_]at r1 r2
      have hrow:=q5 j tj row lN r1
      have gE:(rowB aa.length (bW aa ae) w)[g.toNat]?=some (bW aa ae ((i:Int)::w) j):=by
       rw[DG s!"",Td w (i:Int) j (by rw[r3];exact r4),r3]
      have kQ:(rowB aa.length (bW aa ae) ((i:Int)::w))[j]?=some (bW aa ae ((i:Int)::w) j):=DG hj
      walk_at "rd"
      refine⟨_,SqL.of jT,_,Gm jK,_,s5.seqT hrow,_,Bx s!"" (by rw[ji_];exact r2),?_⟩
      have aR:((rowB aa.length (bW aa ae) ((i:Int)::w)).take j).map V.int++[V.int (bW aa ae ((i:Int)::w) j)]=((rowB aa.length (bW aa ae) ((i:Int)::w)).take (j+1)).map V.int:=by rw[jU_,kQ,jS_];rfl
      rcases htbv with ⟨bp,_,_⟩|⟨gF,ic⟩
      ·exact .inl ⟨tb,rfl,_,g,rfl,SqL.of bp,_,Bx r4 gE,aR,_,rfl⟩
      ·exact .inr ⟨tb,rfl,_,g,rfl,by rw[gF];exact s5.seqT q2,_,Bx r4 (by have hv:=gE;rw[ic]at hv;exact hv),aR,_,rfl⟩
    ·obtain⟨rfl,rfl,o,rfl⟩:=h'
     rw[ja_,q4,wf.len,jO_ (by rw[FJ];exact jg_ _)]
     have aw:aZ.2.zip (rowB aa.length (bW aa ae) ((i:Int)::w)) ≠ []:=fun z=>by
      have:=jD_ List.length z
      rw[zJ_,eQ.wc.len,FJ,Nat.min_self,qt_]at this
      lia
     have hV:(zipW aZ.2 (rowB aa.length (bW aa ae) ((i:Int)::w))).length=aa.length:=by
      unfold zipW
      rw[ja_,zJ_,eQ.wc.len,FJ];lia
     refine⟨D,rfl,_,SqL.of (Same.new hD _ _ lM),_,SqL.of Ab,by rw[ja_,ja_,eQ.wc.len,FJ],fun l rs H6 s6 nF cZ nG=>⟨l,rfl,.inr ⟨rs,zipW aZ.2 (rowB aa.length (bW aa ae) ((i:Int)::w)),SqL.of Ab,⟨?_,fun j v hj=>?_⟩,by lia,fun pf H7 s7 i8 fH=>?_⟩⟩⟩
     ·rw[cZ,hV,ja_,eQ.wc.len]
     ·unfold zipW at hj
      rw[jd_]at hj
      cases hq:(aZ.2.zip (rowB aa.length (bW aa ae) ((i:Int)::w)))[j]? with
      |none=>rw[hq]at hj;cases hj
      |some p=>
       rw[hq]at hj
       cases hj
       obtain⟨u1,u2⟩:=qP_.mp (show (aZ.2.zip (rowB aa.length (bW aa ae) ((i:Int)::w)))[j]?=some (p.1,p.2) from hq)
       obtain⟨t,t1,t2⟩:=nG j (V.int p.1) (V.int p.2) (by rw[jd_,u1];rfl) (by rw[jd_,u2];rfl)
       exact⟨t,t1,Same.new nF _ _ t2⟩
     have sD:Same H' (upd H' D (.lst ((rowB aa.length (bW aa ae) ((i:Int)::w)).map V.int))):=Same.new hD
     have lP:upd H' D (.lst ((rowB aa.length (bW aa ae) ((i:Int)::w)).map V.int)) D=some (.lst ((rowB aa.length (bW aa ae) ((i:Int)::w)).map V.int)):=Ab
     have s67:=(Same.new nF (o:=.lst rs)).trans s7
     have ie:=sD.trans (s6.trans s67)
     have lQ:=(s6.trans s67) _ _ lP
     have lR:=ie _ _ eO
     have hb7:=ie _ _ jT
     have hc7:=ie _ _ lM
     have hDw:D≠pw:=fun z=>by rw[z,eO]at hD;cases hD
     have hDb:D≠pb:=fun z=>by rw[z,jT]at hD;cases hD
     have gG:H' pf=none:=sD.none (s6.none ((Same.new nF (o:=.lst rs)).none i8))
     have hpfw:pf≠pw:=fun z=>by rw[z,eO]at gG;cases gG
     have hpfb:pf≠pb:=fun z=>by rw[z,jT]at gG;cases gG
     have cm:=eQ.step b7 eE hi
     have dU:IK aa.length (bW aa ae) w (i+1) st=NY aa.length (bW aa ae) w aZ i:=by rw[LQ,<-i5]
     rw[Z9]at fH
     refine⟨pf,rfl,_,SqL.of fH,(ncl (aZ.2.zip (rowB aa.length (bW aa ae) ((i:Int)::w))):Int)-1,Pq aw,(fun x hx=>by have:=U8 hx;lia),_,SqL.of hc7,(ncl aZ.2:Int)-1,eQ.wc.top,(fun x hx=>by have:=eQ.wc.rng x hx;lia),?_⟩
     refine ite2 (fun jF=>?_) (fun aS=>?_)
     ·have hgt':ncl aZ.2<ncl (aZ.2.zip (rowB aa.length (bW aa ae) ((i:Int)::w))):=by lia
      have nH:NY aa.length (bW aa ae) w aZ i=(aZ.1++[(i:Int)::w],num (aZ.2.zip (rowB aa.length (bW aa ae) ((i:Int)::w)))):=by unfold NY;rw[if_pos hgt']
      obtain⟨tw,htw1,htw2⟩:=jS.2 k0 w eE
      have hwlen:=WC.short eQ.wc k0 w eE
      refine⟨.inl ⟨rfl,_,SqL.of lR⟩,by lia,fun p1 bx=>⟨_,SqL.of (Same.new bx _ _ lR),_,Gm htw1,HR.ofS Ab (Same.new bx _ _ (ie _ _ htw2)) (by simp;lia) fun q H8 s8 hq=>?_⟩⟩
      have kX:=(Same.new bx (o:=.tup [V.int i])).trans s8
      have hw8:=kX _ _ lR
      have hb8:=kX _ _ hb7
      have bS:=jS.1
      have hbl:=jU.1
      refine⟨_,hw8,by lia,?_⟩
      have nI:upd H8 pw (.lst (kU++[V.ref q])) pb=some (.lst kW):=by rw[Ai hpbw];exact hb8
      have nJ:=ie.trans kX
      rw[nH]at cm dU
      refine⟨.inl ⟨rfl,_,SqL.of nI⟩,_,nI,by lia,(kR _ _ _).mpr ⟨_,kU++[V.ref q],kW++[V.ref D],pf,_,_,_,dU.symm,((s5.trans nJ).over hpwH).over hpbH,by rw[Ai (qx_ hpbw),Ab],(((jS.mono (TK.of nJ)).snoc (w:=(i:Int)::w) hq).mono (TK.lst hw8)).mono (TK.lst nI),Ab,?_,by rw[Ai hpfb,Ai hpfw];exact kX _ _ fH,hpfw,hpfb,cm.1,cm.2,rfl⟩⟩
      exact BehL.snoc (jU.keep (fun t o t1 t2 e=>by rw[Ai t2,Ai t1];exact nJ _ _ e)) (by rw[Ai hDb,Ai hDw];exact kX _ _ lQ) hDw hDb
     ·have iV:¬ ncl aZ.2<ncl (aZ.2.zip (rowB aa.length (bW aa ae) ((i:Int)::w))):=by lia
      have nH:NY aa.length (bW aa ae) w aZ i=aZ:=by unfold NY;rw[if_neg iV]
      rw[nH]at cm dU
      exact (kR _ _ _).mpr ⟨aZ,kU,kW,nE,_,_,_,dU.symm,s5.trans ie,lR,jS.mono (TK.of ie),hb7,jU.keep (fun t o _ _ e=>ie _ _ e),hc7,i6,i7,cm.1,cm.2,rfl⟩
   ·obtain⟨aZ,kU,kW,nE,p5,p6,p7,i5,s5,eO,jS,jT,jU,lM,i6,i7,eQ,eE,rfl⟩:=(kR _ _ _).mp h5
    walk_at "rd"
    have e41:41-k0=(41-(k0+1))+1:=by lia
    refine (aq _ _ _).mpr ⟨aZ,k0+1,kU,kW,nE,_,_,_,rfl,s5,eO,jS,jT,jU,lM,i6,i7,eQ.next,?_,rfl⟩
    rw[i5,<-ho4,e41,Rt dR]
  ·have e:st=wcOf aa.length L (bW aa ae):=by rw[<-ho4,OB s!""]
   have aR:=nB.fin s!""
   rw[e]at f6 nA aR
   exact⟨by lia,fun p hp=>k p pw pc4 xs _ (s4.newT hp) Ab hpwH (Same.new hp _ _ cF) (f6.mono (TK.new hp)) (Same.new hp _ _ nA) aR⟩
noncomputable def BQ_ (K:α3):Sp:=fun vs H Q _=>∃(h:Addr) (L:Nat) (aa:α2) (ae:α1),vs=[.ref h]/\BU K H h L aa ae/\Wf L aa ae/\∀pw xs H',Same H H'->H pw=none->H' pw=some (.lst xs)->AY K H' xs (wcOf aa.length L (bW aa ae)).1->Fin17 aa.length L (bW aa ae) (wcOf aa.length L (bW aa ae))->Q (.ref pw) H'
theorem Wo   (F:Fun K "tellers" "tellers" Em f fd)(T:Txt mg)
   (Bc:FnOk P w K mg base CX0 2 AQ Bp ["house"] (Da_ K)) (A1:Fun K "words_and_classes" "words_and_classes" A0 AQ Bp) (Bd:A7 K Bp ["house"] []) (Be:mg "words_and_classes"=some (.ref AQ))
  : FnOk P w K mg base CX0 3 f fd ["house"] (BQ_ K):=by
 refine F.ok Wk (fun vs H Q E h=>?_) (fun ay A outer s H vs Q E hr h=>?_)
 ·obtain⟨h,L,aa,ae,rfl,_⟩:=h;rfl
 ·obtain⟨h,L,aa,ae,rfl,hh,wf,k⟩:=h
  refine⟨_,(Ag (AR (Ah (ixTD Ao) (Al Bc (hr.mono (by decide)) rfl Be A1.kp Bd .nil A3 (Aa (pvD 0) Ae)) Ac))),?_⟩
  walk_at "rd"
  exact⟨h,L,aa,ae,rfl,hh,wf,fun t pw pc xs H' s' ht hpwN a9 hW kY aR=>⟨t,rfl,_,SqT.of ht,_,rfl,k pw xs H' s' hpwN a9 hW aR⟩⟩
noncomputable def BR_ (K:α3):Sp:=fun vs H Q _=>∃(h:Addr) (L:Nat) (aa:α2) (ae:α1),vs=[.ref h]/\BU K H h L aa ae/\Wf L aa ae/\∀pc H',Same H H'->H' pc=some (.lst ((wcOf aa.length L (bW aa ae)).2.map V.int))->Fin17 aa.length L (bW aa ae) (wcOf aa.length L (bW aa ae))->Q (.ref pc) H'
theorem P5   (F:Fun K "classes_of" "classes_of" CF f fd)(T:Txt mg)
   (Bc:FnOk P w K mg base CX0 2 AQ Bp ["house"] (Da_ K)) (A1:Fun K "words_and_classes" "words_and_classes" A0 AQ Bp) (Bd:A7 K Bp ["house"] []) (Be:mg "words_and_classes"=some (.ref AQ))
  : FnOk P w K mg base CX0 3 f fd ["house"] (BR_ K):=by
 refine F.ok PV (fun vs H Q E h=>?_) (fun ay A outer s H vs Q E hr h=>?_)
 ·obtain⟨h,L,aa,ae,rfl,_⟩:=h;rfl
 ·obtain⟨h,L,aa,ae,rfl,hh,wf,k⟩:=h
  refine⟨_,(Ag (AR (Ah (ixTD Ao) (Al Bc (hr.mono (by decide)) rfl Be A1.kp Bd .nil A3 (Aa (pvD 0) Ae)) Ac))),?_⟩
  walk_at "rd"
  exact⟨h,L,aa,ae,rfl,hh,wf,fun t pw pc xs H' s' ht hpwN a9 hW kY aR=>⟨t,rfl,_,SqT.of ht,_,rfl,k pc H' s' kY aR⟩⟩
theorem Ma {α:Type}[DecidableEq α]:∀(row ai:List α),∃t,CC ai row=ai++t
 |[],ai=>⟨[],by simp[CC]⟩
 |x::row,ai=>by
  obtain⟨t,ht⟩:=Ma row (ins1 ai x)
  show ∃t,CC (ins1 ai x) row=ai++t
  rw[ht]
  unfold ins1
  split
  ·exact⟨t,rfl⟩
  ·exact⟨x::t,by simp⟩
theorem Wq  [DecidableEq α](a b:List α):∃t,AL (a++b)=AL a++t:=by
 unfold AL CC
 rw[qJ_]
 exact Ma b _
theorem P6 {α:Type}[DecidableEq α]{row:List α}{i:Nat}{x:α}(h:x∈AL (row.take i)):(AL row).idxOf x=(AL (row.take i)).idxOf x:=by
 obtain⟨t,ht⟩:=Wq (row.take i) (row.drop i)
 rw[q8_]at ht
 rw[ht,zV_,if_pos h]
noncomputable def Gg (c R:α2)(n i:Nat):List V:=(List.range n).map fun r:Nat=>if (r:Int)∈R.take i then V.int (hm c R r) else V.non
theorem Jb   : (Gg c R n i).length=n:=by unfold Gg;simp
theorem YU {c R:α2}{n i:Nat}{r:Int}(hr:R[i]?=some r)(h0:0<=r)(h1:r<(n:Int)):(Gg c R n i).set r.toNat (V.int (hm c R r))=Gg c R n (i+1):=by
 have et:R.take (i+1)=R.take i++[r]:=by rw[jU_,hr];rfl
 refine qI_ fun j=>?_
 by_cases hj:j<n
 ·have e2:(Gg c R n (i+1))[j]?=some (if (j:Int)∈R.take (i+1) then V.int (hm c R j) else V.non):=by
   unfold Gg
   rw[jd_,qB_ hj];rfl
  have e1:(Gg c R n i)[j]?=some (if (j:Int)∈R.take i then V.int (hm c R j) else V.non):=by
   unfold Gg
   rw[jd_,qB_ hj];rfl
  rw[e2]
  by_cases e:r.toNat=j
  ·have kQ:r=(j:Int):=by lia
   rw[<-e,qL_ (by rw[Jb];lia),e,<-kQ,if_pos (by rw[et];simp)]
  ·rw[xd_ e,e1]
   have aw:¬ (j:Int)=r:=fun z=>e s!""
   by_cases bH:(j:Int)∈R.take i
   ·rw[if_pos bH,if_pos (by rw[et];exact j8_ _ bH)]
   ·rw[if_neg bH,if_neg (by rw[et];intro z;rcases jA_.mp z with z|z;exact bH z;exact aw (jq_.mp z))]
 ·rw[jQ_ (by rw[qO_,Jb];lia),jQ_ (by rw[Jb];lia)]
noncomputable def Vj (K:α3):Sp:=fun vs H Q _=>∃(h:Addr) (L:Nat) (aa:α2) (ae:α1),vs=[.ref h]/\BU K H h L aa ae/\Wf L aa ae/\∀p H',Same H H'->H p=none->H' p=some (.lst (Gg (wcOf aa.length L (bW aa ae)).2 ((AA ae).map (·.1)) aa.length ((AA ae).map (·.1)).length))->Fin17 aa.length L (bW aa ae) (wcOf aa.length L (bW aa ae))->RF L aa.length ae ((AA ae).map (·.1))->Q (.ref p) H'
theorem Aa_   (F:Fun K "homes" "homes" Ii f fd)(T:Txt mg)
   (Fq:FnOk P w K mg base CX0 2 DC Fs ["house"] (JI K)) (DV:Fun K "reached" "reached" DT DC Fs) (Ft:A7 K Fs ["house"] []) (Fu:mg "reached"=some (.ref DC))
   (GH:FnOk P w K mg base CX0 3 Dr Jc ["house"] (BR_ K)) (DW:Fun K "classes_of" "classes_of" CF Dr Jc) (GI:A7 K Jc ["house"] []) (GJ:mg "classes_of"=some (.ref Dr))
  : FnOk P w K mg base CX0 4 f fd ["house"] (Vj K):=by
 refine F.ok IS (fun vs H Q E h=>?_) (fun ay A outer s H vs Q E hr h=>?_)
 ·obtain⟨h,L,aa,ae,rfl,_⟩:=h;rfl
 ·obtain⟨h,L,aa,ae,rfl,hh,wf,k⟩:=h
  have hl:=AE
  have aN:=wf.n40
  obtain⟨mm,wv,q1,q2,q3⟩:=id hh
  refine⟨_,(Ad (Aj (i:=1) IS.nd (Al GH (hr.mono (by decide)) rfl GJ DW.kp GI .nil A3 (Aa (pvD 0) Ae)))
   (Ad (Aj (i:=2) IS.nd UI)
   (Ad (Aj (i:=3) IS.nd (An Xu (Cu (Aa W7 Ae)) (As (lenD Ak) (by rfl) T.len jI_ (Aa (Ah (ixTD Ao) (pvD 0) Ac) Ae))))
   (Ad (Ci jJ_ rfl (B2 (Al Fq (hr.mono (by decide)) rfl Fu DV.kp Ft .nil A3 (Aa (pvD 0) Ae))) (Au (i:=4) IS.nd rfl (Or.inl rfl))
   (Ag (QT (V1 (pvD 2) (Ah (ixLD Bn) (pvD 1) (pvD 4)) (As Rr (by rfl) T.len jI_ (Aa (pvD 2) Ae)) ⟨by rfl,by rfl,by rfl,by rfl⟩) (QS (pvD 3) (pvD 4) set_list))))
   (Ag (AR (pvD 3))))))),?_⟩
  walk_at "rd"
  refine⟨h,L,aa,ae,rfl,hh,wf,fun pc H1 s1 kY aR=>?_⟩
  intro pd jV
  have sd:=s1.newT jV (o:=.dK [])
  refine⟨by lia,fun p1 bx=>⟨_,(sd.newT bx).seqT q1,_,rfl,mm,rfl,_,.inr ((sd.newT bx).seqT q2),_,Ab,by lia,by rw[ja_];lia,by rw[ja_,j0_,ji_];lia,fun pt gv=>?_⟩⟩
  rw[ja_,ji_]
  have sT:=(sd.newT bx (o:=.lst [V.non])).newT gv (o:=.lst (List.replicate aa.length [V.non]).flatten)
  have i9:H pt=none:=(sd.newT bx (o:=.lst [V.non])).none gv
  have hpdN:H pd=none:=s1.none jV
  have ja:upd (upd (upd H1 pd (.dK [])) p1 (.lst [V.non])) pt (.lst (List.replicate aa.length [V.non]).flatten) pd=some (.dK []):=(Same.new gv) _ _ ((Same.new bx) _ _ Ab)
  have jb:upd (upd (upd H1 pd (.dK [])) p1 (.lst [V.non])) pt (.lst (List.replicate aa.length [V.non]).flatten) pt=some (.lst (List.replicate aa.length [V.non]).flatten):=Ab
  have jc:upd (upd (upd H1 pd (.dK [])) p1 (.lst [V.non])) pt (.lst (List.replicate aa.length [V.non]).flatten) pc=some (.lst ((wcOf aa.length L (bW aa ae)).2.map V.int)):=(Same.new gv) _ _ ((Same.new bx) _ _ ((Same.new jV) _ _ kY))
  generalize upd (upd (upd H1 pd (.dK [])) p1 (.lst [V.non])) pt (.lst (List.replicate aa.length [V.non]).flatten)=HT at sT ja jb jc ⊢
  clear sd bx gv jV s1 kY
  refine⟨h,L,aa,ae,rfl,hh.mono sT,wf,fun pR H2 s2 cG jd rf=>⟨pR,rfl,⟨_,SqL.of jd⟩,?_⟩⟩
  generalize hR:(AA ae).map (·.1)=R at jd rf k
  generalize j6:wcOf aa.length L (bW aa ae)=st at jc aR k
  have s02:=sT.trans s2
  have gH:=s2 _ _ ja
  have je:=s2 _ _ jb
  have fI:=s2 _ _ jc
  have nK:pd≠pt:=fun z=>by rw[z,je]at gH;cases gH
  have hRt:pR≠pt:=fun z=>by rw[z,jb]at cG;cases cG
  have hRd:pR≠pd:=fun z=>by rw[z,ja]at cG;cases cG
  have bE:pc≠pd:=fun z=>by rw[z,gH]at fI;cases fI
  have hct:pc≠pt:=fun z=>by
   rw[z,je]at fI
   have bw:=aR.wc.len
   have e:=jp_ fI
   injection e with e
   have b7:=wf.n1
   have e0:=jD_ (fun l:List V=>l[0]?) e
   obtain⟨n,hn⟩:∃n,aa.length=n+1:=⟨aa.length-1,by lia⟩
   cases hc:st.2 with
   |nil=>rw[hc]at bw;simp at bw;lia
   |cons a r=>rw[hc,hn]at e0;simp[qf_]at e0
  have bZ:∀x y:Int,(Sum.inl x:Key)=Sum.inl y->x=y:=fun x y z=>Sum.inl.inj z
  obtain⟨Pv,aq⟩:∃Pv:Nat->St->Hp->Prop,∀i ag H',Pv i ag H'↔(∃o:Option V,Same H H'/\H' pR=some (.lst (R.map V.int))/\H' pc=some (.lst (st.2.map V.int))/\H' pd=some (.dK (numD (fun x:Int=>(Sum.inl x:Key)) (AL ((R.map (cf st.2)).take i))))/\H' pt=some (.lst (Gg st.2 R aa.length i))/\ag=[some (.ref h),some (.ref pc),some (.ref pd),some (.ref pt),o]):=⟨_,fun _ _ _=>qk_⟩
  refine forL (xs:=R.map V.int) Pv ((aq _ _ _).mpr ⟨none,s02,jd,fI,gH,?_,rfl⟩) (fun i ag H' _ h'=>by obtain⟨_,_,h2,_⟩:=(aq _ _ _).mp h';exact SqL.of h2) (fun i x ag H' hx h'=>?_) (fun ag H' h'=>?_)
  ·rw[je]
   congr 2
   unfold Gg
   refine qI_ fun j=>?_
   by_cases hj:j<aa.length
   ·rw[jd_,qB_ hj];simp[hj]
   ·rw[jQ_ (by simp;lia),jQ_ (by simp;lia)]
  ·obtain⟨o,s',dz,gI,fJ,fK,rfl⟩:=(aq _ _ _).mp h'
   obtain⟨r,hr,rfl⟩:=Dy hx
   have eB:=jc_ hr
   have bT:=rf.rng r eB
   have kM:(R.map (cf st.2))[i]?=some (cf st.2 r):=by rw[jd_,hr];rfl
   have bw:=aR.wc.len
   have jQ:=P4 (R.map (cf st.2)) i
   rw[ja_]at jQ
   have nL:=rf.len
   have nd:=BG ((R.map (cf st.2)).take i)
   have et:=FT kM
   have hcat:(st.2)[r.toNat]?=some (cf st.2 r):=by unfold cf;rw[jh_];simp[show r.toNat<st.2.length by lia]
   walk_at "rd"
   have ef:ixN (Gg st.2 R aa.length i).length r=some r.toNat:=by rw[Jb];exact Ei_ bT.1 s!""
   have fL:=YU (c:=st.2) (n:=aa.length) hr bT.1 bT.2
   refine⟨.inl ⟨_,.inl fJ⟩,_,SqL.of gI,_,Bx bT.1 hcat,.inl ⟨_,fJ,_,rfl,_,fJ,by rw[FQ];lia,fun v hv=>?_,fun hn=>?_⟩⟩
   ·by_cases bH:cf st.2 r∈AL ((R.map (cf st.2)).take i)
    ·have e:=Fp (k:=fun x:Int=>(Sum.inl x:Key)) bZ nd bH
     have e2:=hv.symm.trans e
     cases e2
     have eh:hm st.2 R r=(((AL ((R.map (cf st.2)).take i)).idxOf (cf st.2 r):Nat):Int):=by unfold hm;rw[P6 bH]
     refine⟨_,fK,_,ef,(aq _ _ _).mpr ⟨_,s'.over i9,by rw[Ai hRt];exact dz,by rw[Ai hct];exact gI,by rw[Ai nK,et,ins1,if_pos bH];exact fJ,by rw[Ab,<-fL,eh],rfl⟩⟩
    ·have e:=Ja (k:=fun x:Int=>(Sum.inl x:Key)) bZ bH
     have e2:=hv.symm.trans e
     cases e2
   ·have bH:cf st.2 r∉AL ((R.map (cf st.2)).take i):=fun z=>by
     have e:=Fp (k:=fun x:Int=>(Sum.inl x:Key)) bZ nd z
     have e2:=hn.symm.trans e
     cases e2
    have iZ:=P0 (k:=fun x:Int=>(Sum.inl x:Key)) bZ bH
    have eh:hm st.2 R r=((numD (fun x:Int=>(Sum.inl x:Key)) (AL ((R.map (cf st.2)).take i))).length:Int):=by
     unfold hm
     rw[FQ,P6 (i:=i+1) (by rw[et,ins1,if_neg bH];simp),et,ins1,if_neg bH,Tc bH]
    have hpt2':upd H' pd (.dK (putK (numD (fun x:Int=>(Sum.inl x:Key)) (AL ((R.map (cf st.2)).take i))) (Sum.inl (cf st.2 r)) (V.int ((numD (fun x:Int=>(Sum.inl x:Key)) (AL ((R.map (cf st.2)).take i))).length:Int)))) pt=some (.lst (Gg st.2 R aa.length i)):=by rw[Ai (qx_ nK)];exact fK
    refine⟨_,hpt2',_,ef,(aq _ _ _).mpr ⟨_,(s'.over hpdN).over i9,by rw[Ai hRt,Ai hRd];exact dz,by rw[Ai hct,Ai bE];exact gI,?_,by rw[Ab,<-fL,eh],rfl⟩⟩
    rw[Ai nK,Ab,et,ins1,if_neg bH,FQ]
    exact jD_ (fun z=>some (HO.dK z)) iZ
  ·obtain⟨o,s',dz,gI,fJ,fK,rfl⟩:=(aq _ _ _).mp h'
   rw[ja_]at fK
   walk_at "rd"
   exact k pt _ s' i9 fK aR rf
theorem EW_    (h:R[i]?=some r):(hm c R r=((FR c (R.take i)).length:Int))↔cf c r∉(FR c (R.take i)).map (cf c):=by
 have kM:(R.map (cf c))[i]?=some (cf c r):=by rw[jd_,h];rfl
 have ak:(FR c (R.take i)).length=(AL ((R.map (cf c)).take i)).length:=by
  have:=jD_ List.length (LR c (R.take i))
  rw[ja_,List.map_take]at this
  exact this
 rw[LR,List.map_take,ak]
 have et:=FT kM
 unfold hm
 constructor
 ·intro e bH
  rw[P6 bH]at e
  have:=qD_ bH
  lia
 ·intro bH
  rw[P6 (i:=i+1) (by rw[et,ins1,if_neg bH];simp),et,ins1,if_neg bH,Tc bH]
theorem Vk {c R:α2}{n:Nat}{r:Int}(hr:r∈R)(h0:0<=r)(h1:r<(n:Int)):(Gg c R n R.length)[r.toNat]?=some (V.int (hm c R r)):=by
 unfold Gg
 rw[jd_,qB_ s!"",jT_]
 have e:((r.toNat:Nat):Int)=r:=by lia
 show some (if ((r.toNat:Nat):Int)∈R then V.int (hm c R ((r.toNat:Nat):Int)) else V.non)=_
 rw[e,if_pos hr]
theorem AY.toRows {K:α3}{H:Hp}{w:Addr}{zs:List V}{ws:α1}(h:AY K H zs ws)(hw:SqT K H w zs):Rows K H w ws:=by
 refine⟨zs.map (fun v=>match v with | .ref t=>t|_=>0),?_,by rw[ja_];exact h.1,fun i t r hi hr=>?_⟩
 ·have e:(zs.map (fun v=>match v with | .ref t=>t|_=>0)).map V.ref=zs:=by
   rw[jW_]
   refine qI_ fun i=>?_
   rw[jd_]
   by_cases hi:i<ws.length
   ·obtain⟨t,a,_⟩:=h.2 i ws[i] (by simp[hi])
    rw[a];rfl
   ·rw[jQ_ (by rw[h.1];lia)];rfl
  rw[e];exact hw
 ·obtain⟨t',a,b⟩:=h.2 i r hr
  rw[jd_,a]at hi
  cases hi
  exact SqT.of b
noncomputable def Vl (K:α3):Sp:=fun vs H Q _=>∃(h:Addr) (L:Nat) (aa:α2) (ae:α1),vs=[.ref h]/\BU K H h L aa ae/\Wf L aa ae/\∀t H',Same H H'->BU K H' t L (sM L aa ae) (sW L aa ae)->Q (.ref t) H'
theorem Ab_   (F:Fun K "least" "least" Ij f fd)(T:Txt mg)
   (Fq:FnOk P w K mg base CX0 2 DC Fs ["house"] (JI K)) (DV:Fun K "reached" "reached" DT DC Fs) (Ft:A7 K Fs ["house"] []) (Fu:mg "reached"=some (.ref DC))
   (TH:FnOk P w K mg base CX0 4 JJ Vm ["house"] (Vj K)) (Mb:Fun K "homes" "homes" Ii JJ Vm) (TJ:A7 K Vm ["house"] []) (TL:mg "homes"=some (.ref JJ))
  : FnOk P w K mg base CX0 5 f fd ["house"] (Vl K):=by
 refine F.ok IT (fun vs H Q E h=>?_) (fun ay A outer s H vs Q E hr h=>?_)
 ·obtain⟨h,L,aa,ae,rfl,_⟩:=h;rfl
 ·obtain⟨h,L,aa,ae,rfl,hh,wf,k⟩:=h
  have hl:=AE
  have aN:=wf.n40
  have cC:=wf.l6
  obtain⟨mm,wv,q1,q2,q3⟩:=id hh
  refine⟨_,(Ad (Cd (i:=1) IT.nd rfl (Or.inr rfl) (Al TH (hr.mono (by decide)) rfl TL Mb.kp TJ .nil A3 (Aa (pvD 0) Ae)))
   (Ad (Aj (i:=2) IT.nd (Cu Ae))
   (Ad (Aj (i:=3) IT.nd (Cu Ae))
   (Ad (Ci jJ_ rfl (B2 (Al Fq (hr.mono (by decide)) rfl Fu DV.kp Ft .nil A3 (Aa (pvD 0) Ae))) (Au (i:=4) IT.nd rfl (Or.inl rfl))
   (Ag (Cy (ptT (Aw (opE Dx) (Ah (ixLD Bn) (pvD 1) (pvD 4)) (As (lenD Ak) (by rfl) T.len jI_ (Aa (pvD 2) Ae)) (AV _)))
   (Ad (BS (FA jE_ jM_ jN_ Bi (pvD 2) (Aa (Ah (ixTD Ao) (Ah (ixTD Ao) (pvD 0) Ac) (pvD 4)) Ae)))
   (Ag (BS (FA jE_ jM_ jN_ Bi (pvD 3) (Aa (AO AG rfl T.tuple jz_ (Aa (B3 rfl (B4 rfl) (cp:=RI) ⟨⟨rfl,rfl⟩,True.intro⟩ (Gk (Ah (ixTD Ao) (Ah (ixTD Ao) (pvD 0) Ac) (pvD 4))) (fun _ _ _ _=>(Au (i:=0) RJ rfl (Or.inl rfl))) (fun _ _ _ _=>Ce) (fun _ _ _ _=>(Ah (ixLD (Cv (K:=K) rfl)) (pvD 1) (pvD 0)))) Ae)) Ae)))))
   AX)))
   (Ag (AR (Dj (Aa (Ah (ixTD Ao) (pvD 0) Ac) (Aa (AO AG rfl T.tuple jz_ (Aa (pvD 2) Ae)) (Aa (AO AG rfl T.tuple jz_ (Aa (pvD 3) Ae)) Ae)))))))))),?_⟩
  walk_at "rd"
  refine⟨h,L,aa,ae,rfl,hh,wf,fun ph H1 s1 hphN jW aR rf=>?_⟩
  generalize hR:(AA ae).map (·.1)=R at jW rf
  generalize j6:wcOf aa.length L (bW aa ae)=st at jW aR
  refine⟨jX_ _,fun pm bC=>⟨jX_ _,fun pv dQ=>?_⟩⟩
  have hpmN:H pm=none:=s1.none bC
  have s2:=(s1.newT bC (o:=.lst [])).newT dQ (o:=.lst [])
  have hpvN:H pv=none:=(s1.newT bC (o:=.lst [])).none dQ
  have jf:upd (upd H1 pm (.lst [])) pv (.lst []) pm=some (.lst []):=(Same.new dQ) _ _ Ab
  have jg:upd (upd H1 pm (.lst [])) pv (.lst []) pv=some (.lst []):=Ab
  have hph2:upd (upd H1 pm (.lst [])) pv (.lst []) ph=some (.lst (Gg st.2 R aa.length R.length)):=(Same.new dQ) _ _ ((Same.new bC) _ _ jW)
  have hphm:ph≠pm:=fun z=>by rw[z,bC]at jW;cases jW
  have lS:pm≠pv:=fun z=>by rw[<-z,Ab]at dQ;cases dQ
  have hphv:ph≠pv:=fun z=>by rw[<-z,(Same.new bC) _ _ jW]at dQ;cases dQ
  generalize upd (upd H1 pm (.lst [])) pv (.lst [])=H2 at s2 jf jg hph2 ⊢
  refine⟨h,L,aa,ae,rfl,hh.mono s2,wf,fun pR H3 s3 cG jd rf2=>?_⟩
  rw[hR]at jd
  have i4:=s2.trans s3
  have hRm:pR≠pm:=fun z=>by rw[z,jf]at cG;cases cG
  have hRv:pR≠pv:=fun z=>by rw[z,jg]at cG;cases cG
  have hpm3:=s3 _ _ jf
  have hpv3:=s3 _ _ jg
  have hph3:=s3 _ _ hph2
  refine⟨pR,rfl,⟨_,SqL.of jd⟩,?_⟩
  obtain⟨Pv,aq⟩:∃Pv:Nat->St->Hp->Prop,∀i ag H',Pv i ag H'↔(∃(zs:List V) (o:Option V),Same H H'/\H' pR=some (.lst (R.map V.int))/\H' ph=some (.lst (Gg st.2 R aa.length R.length))/\H' pm=some (.lst (((FR st.2 (R.take i)).map (mkR aa)).map V.int))/\H' pv=some (.lst zs)/\AY K H' zs ((FR st.2 (R.take i)).map (hrow st.2 R ae))/\ag=[some (.ref h),some (.ref ph),some (.ref pm),some (.ref pv),o]):=⟨_,fun _ _ _=>qk_⟩
  refine forL (xs:=R.map V.int) Pv ((aq _ _ _).mpr ⟨[],none,i4,jd,hph3,hpm3,hpv3,AY.nil,rfl⟩) (fun i ag H' _ h'=>by obtain⟨_,_,_,h2,_⟩:=(aq _ _ _).mp h';exact SqL.of h2) (fun i x ag H' hx h'=>?_) (fun ag H' h'=>?_)
  ·obtain⟨zs,o,s',dz,gJ,cS,gK,jX,rfl⟩:=(aq _ _ _).mp h'
   obtain⟨r,hr,rfl⟩:=Dy hx
   have eB:=jc_ hr
   have bT:=rf.rng r eB
   have jQ:=Vb st.2 (R.take i)
   have nL:=rf.len
   rw[jB_]at jQ
   have kq:=Vk (c:=st.2) (n:=aa.length) eB bT.1 bT.2
   have cQ:=EW_ (c:=st.2) hr
   have eFR:=Yv (c:=st.2) hr
   obtain⟨row,fM,hrow2,hrow3⟩:=wf.row bT.1 bT.2
   have bP:=wf.rows row hrow2
   have iw:∀g∈row,g∈R:=fun g hg=>by
    obtain⟨x,hx⟩:=jG_.mp hg
    have bS:=(jb_.mp hx).1
    have:=rf.cls r eB x s!""
    rwa [CO fM (by rw[ji_];exact hx)]at this
   have ic:aa[r.toNat]?=some (mkR aa r):=by unfold mkR;rw[jh_];simp[show r.toNat<aa.length by lia]
   have nM:hrow st.2 R ae r=row.map (hm st.2 R):=by unfold hrow;rw[jh_,fM];rfl
   obtain⟨xs1,t1,z1,z2,z3⟩:=q3.atZ bT.1 fM
   walk_at "rd"
   refine⟨_,SqL.of gJ,_,Ej bT.1 kq,_,.inl (SqL.of cS),?_⟩
   rw[ja_,ja_]
   refine⟨rfl,ite2 (fun he=>?_) (fun he=>?_)⟩
   ·have hnot:=cQ.mp (V.int.inj he)
    have fN:FR st.2 (R.take (i+1))=FR st.2 (R.take i)++[r]:=by rw[eFR,Cw,if_neg hnot]
    refine⟨.inl ⟨rfl,_,SqL.of cS⟩,_,s'.seqT q1,_,rfl,mm,rfl,_,s'.seqT q2,_,Bx bT.1 ic,_,cS,by rw[ja_,ja_];lia,?_⟩
    have sM:=s'.over hpmN (o:=.lst (((FR st.2 (R.take i)).map (mkR aa)).map V.int++[V.int (mkR aa r)]))
    have jh:upd H' pm (.lst (((FR st.2 (R.take i)).map (mkR aa)).map V.int++[V.int (mkR aa r)])) pv=some (.lst zs):=by rw[Ai (qx_ lS)];exact gK
    have ji:upd H' pm (.lst (((FR st.2 (R.take i)).map (mkR aa)).map V.int++[V.int (mkR aa r)])) ph=some (.lst (Gg st.2 R aa.length R.length)):=by rw[Ai hphm];exact gJ
    have hpRM:upd H' pm (.lst (((FR st.2 (R.take i)).map (mkR aa)).map V.int++[V.int (mkR aa r)])) pR=some (.lst (R.map V.int)):=by rw[Ai hRm];exact dz
    have hpmM:upd H' pm (.lst (((FR st.2 (R.take i)).map (mkR aa)).map V.int++[V.int (mkR aa r)])) pm=some (.lst (((FR st.2 (R.take i)).map (mkR aa)).map V.int++[V.int (mkR aa r)])):=Ab
    have hZM:=jX.mono (TK.lst cS (o:=.lst (((FR st.2 (R.take i)).map (mkR aa)).map V.int++[V.int (mkR aa r)])))
    generalize upd H' pm (.lst (((FR st.2 (R.take i)).map (mkR aa)).map V.int++[V.int (mkR aa r)]))=HM at sM jh ji hpRM hpmM hZM ⊢
    obtain⟨f,hf⟩:∃f:V->V,∀n:Int,f (V.int n)=.int (hm st.2 R n):=⟨fun x=>match x with | .int n=>.int (hm st.2 R n)|_=>.non,fun _=>rfl⟩
    refine⟨.inl ⟨rfl,_,SqL.of jh⟩,_,sM.seqT q1,_,rfl,wv,rfl,_,sM.seqT z1,_,z2,t1,rfl,⟨_,sM.seqT z3⟩,He (ag:=[some (.ref ph)]) f rfl (sM.seqT z3) (by rw[ja_];lia) (fun x hx R' ig=>?_) (fun D hD=>?_)⟩
    ·obtain⟨g,hg,rfl⟩:=EI hx
     rw[hf]at ig
     have nN:=bP.2 g hg
     walk_at "rd"
     exact⟨_,SqL.of ji,_,Ej nN.1 (Vk (iw g hg) nN.1 nN.2),ig⟩
    ·have em:(row.map V.int).map f=(hrow st.2 R ae r).map V.int:=by
      rw[nM,jW_,jW_]
      exact qj_ fun n _=>hf n
     rw[em]
     refine⟨D,rfl,_,.inl ⟨SqL.of Ab,fun tl nO=>?_⟩⟩
     have sX:=(Same.new hD (o:=.lst ((hrow st.2 R ae r).map V.int))).newT nO (o:=.tup ((hrow st.2 R ae r).map V.int))
     have hpvX:=sX _ _ jh
     have hV:zs.length<=1000:=by rw[jX.1,ja_];lia
     refine⟨_,hpvX,by lia,(aq _ _ _).mpr ⟨zs++[V.ref tl],_,(sM.trans sX).over hpvN,by rw[Ai hRv];exact sX _ _ hpRM,by rw[Ai hphv];exact sX _ _ ji,?_,Ab,?_,rfl⟩⟩
     ·rw[Ai lS,sX _ _ hpmM,fN,jS_,jS_];rfl
     ·rw[fN,jS_]
      exact ((hZM.mono (TK.of sX)).snoc (w:=hrow st.2 R ae r) Ab).mono (TK.lst hpvX)
   ·have bM:cf st.2 r∈(FR st.2 (R.take i)).map (cf st.2):=Decidable.byContradiction fun z=>he (by rw[cQ.mpr z])
    have fN:FR st.2 (R.take (i+1))=FR st.2 (R.take i):=by rw[eFR,Cw,if_pos bM]
    exact (aq _ _ _).mpr ⟨zs,_,s',dz,gJ,by rw[fN];exact cS,gK,by rw[fN];exact jX,rfl⟩
  ·obtain⟨zs,o,s',dz,gJ,cS,gK,jX,rfl⟩:=(aq _ _ _).mp h'
   rw[ja_,jT_]at cS jX
   walk_at "rd"
   refine⟨_,s'.seqT q1,_,rfl,_,.inl ⟨SqL.of cS,fun tm gF=>⟨_,.inl ⟨SqL.of ((Same.new gF) _ _ gK),fun tw htw=>⟨by lia,fun t ht=>?_⟩⟩⟩⟩⟩
   have sE:=((Same.new gF (o:=.tup (((FR st.2 R).map (mkR aa)).map V.int))).newT htw (o:=.tup zs)).newT ht (o:=.tup [V.int L,V.ref tm,V.ref tw])
   subst hR j6
   exact k t _ (s'.trans sE) ⟨tm,tw,SqT.of Ab,SqT.of ((Same.new ht) _ _ ((Same.new htw) _ _ Ab)),AY.toRows (jX.mono (TK.of sE)) (SqT.of ((Same.new ht) _ _ Ab))⟩
noncomputable abbrev LamH (K:α3)(H:Hp):Prop:=LamT (tabP K "in_order") IU (Str.ofString "in_order" ++ ".<locals>.") H
theorem Jd {K:α3}{H:Hp}:∀{us:α1} {xs:List V},AY K H xs us->∃os:List aK.Wd,xs=aK.wv os/\os.map (·.2)=us/\∀w∈os,H w.1=some (.tup (w.2.map V.int))
 |[],xs,h=>⟨[],List.length_eq_zero_iff.mp h.1,rfl,fun w hw=>by cases hw⟩
 |u::us,xs,h=>by
  obtain⟨t,h1,h2⟩:=h.2 0 u rfl
  match xs,h with
  |[],h=>exact absurd h.1 (by simp)
  |x::xs,h=>
   have e:x=V.ref t:=by simpa using h1
   obtain⟨os,e1,e2,e3⟩:=Jd (K:=K) (H:=H) (us:=us) (xs:=xs) ⟨by simpa using h.1,fun i w hw=>h.2 (i+1) w (by simpa using hw)⟩
   refine⟨(t,u)::os,by rw[e,e1];rfl,by simp[e2],fun w hw=>?_⟩
   rcases jL_.mp hw with rfl|hw
   ·exact h2
   ·exact e3 w hw
noncomputable def WsT (H:Hp)(os:List aK.Wd):Prop:=∀w∈os,H w.1=some (.tup (w.2.map V.int))
noncomputable def BS_ (K:α3):Sp:=fun vs H Q _=>∃(a:Addr) (xs:List V) (ws:α1),vs=[.ref a]/\SqL K H a xs/\AY K H xs ws/\ws.length<sizeLine/\LamH K H /\
 ∀D H' os,DH (tabP K "in_order") H H'->LamH K H'->H D=none->H' D=some (.lst (aK.wv os))->WsT H' os->(os.map (·.2)).Perm (ws.foldl ins [])->aK.Srt os->Q (.ref D) H'
theorem TM   (F:FunL K mg base "in_order" "in_order" Dp f fd)(T:Txt mg)
  : FnOk P w K mg base CX0 4 f fd ["words"] (BS_ K):=by
 refine F.ok Ik (fun vs H Q E h=>?_) (fun ay bE A outer s H vs Q E hr h=>?_)
 ·obtain⟨a,xs,ws,rfl,_⟩:=h;rfl
 ·obtain⟨a,xs,ws,rfl,hs,hW,hz,hT,k⟩:=h
  have hl:=AE
  refine⟨_,(Ad (Cd (i:=1) Ik.nd rfl (Or.inl rfl) UJ)
   (Ad (Ci jJ_ rfl (B2 (pvD 0)) (Au (i:=2) Ik.nd rfl (Or.inl rfl))
   (Ag (SW (Q3 hr) (pvD 1) (pvD 2) SK rfl)))
   (Ag (AR (We (k:=0) (c:=tabC K "in_order") (P:=tabP K "in_order") (lp:=IU) (qual:=Str.ofString "in_order" ++ ".<locals>.") hr rfl T.sorted T.len bE F.C F.B (Aa (AO (LN rfl) rfl T.list xk_ (Aa (pvD 1) Ae)) Ae)))))),?_⟩
  walk_at "rd"
  intro p hp
  have sp:=Same.new (o:=.dT []) hp
  refine⟨⟨_,sp.seq hs⟩,?_⟩
  obtain⟨Py,kZ⟩:∃Pv:Nat->St->Hp->Prop,∀j ag H',Pv j ag H'↔(∃(kvs:List (List Key×V)) (o':Option V),Same H H'/\H' p=some (.dT kvs)/\Hs ((ws.take j).foldl ins []) kvs/\ag=[some (.ref a),some (.ref p),o']):=⟨_,fun _ _ _=>qk_⟩
  refine forL (xs:=xs) Py ((kZ _ _ _).mpr ⟨[],_,sp,Ab,by rw[zR_];exact Hs.nil,rfl⟩) (fun j ag H' _ h'=>by obtain⟨_,_,s',_⟩:=(kZ _ _ _).mp h';exact s'.seq hs) (fun j y aA H3 hy h3=>?_) (fun aA H3 h3=>?_)
  ·obtain⟨kvs,o',s3,hd,hk,rfl⟩:=(kZ _ _ _).mp h3
   obtain⟨u,v,eL,rfl,hu⟩:=hW.at hy
   have hj:j<ws.length:=(jb_.mp eL).1
   have ak:kvs.length<sizeLine:=by
    have h1:=Ea (ws.take j) []
    rw[hk.len]
    rw[jB_,qt_]at h1
    lia
   walk_at "rd"
   have fV:H3 u=some (.tup ((wkey v).map kV)):=by rw[Po];exact s3 _ _ hu
   refine⟨_,DPut.t (k:=wkey v) hd fV s!"",(kZ _ _ _).mpr ⟨_,_,s3.over hp,Ab,?_,rfl⟩⟩
   rw[jU_,eL,qK_,qJ_]
   exact hk.put _ _
  ·obtain⟨kvs,o',s3,hd,hk,rfl⟩:=(kZ _ _ _).mp h3
   rw[hW.1,jT_]at hk
   walk_at "rd"
   refine⟨kvs,.inl hd,fun l rs kJ cZ nG=>?_⟩
   have hWr:AY K (upd H3 l (.lst rs)) rs (ws.foldl ins []):=(hk.words (K:=K) cZ nG).mono (TK.new kJ)
   obtain⟨nQ,e1,e2,e3⟩:=Jd hWr
   have s4:Same H (upd H3 l (.lst rs)):=s3.newT kJ
   have nR:=hT.mono s4
   have ak:nQ.length<sizeLine:=by
    have h1:=jD_ List.length e2
    have h2:=Ea ws []
    rw[ja_]at h1
    rw[qt_]at h2
    lia
   have nS:SqL K (upd H3 l (.lst rs)) l (aK.wv nQ):=by rw[<-e1];exact SqL.of Ab
   generalize upd H3 l (.lst rs)=H4 at hWr e3 s4 nR nS ⊢
   refine⟨nQ,nS,fun w hw=>SqT.of (e3 w hw),ak,nR,fun H5 D os s5 hL5 ik hD b8 jj=>?_⟩
   refine k D H5 os (fun b o hb e=>s5 b o hb (s4 b o e)) hL5 (Same.none s4 ik) hD (fun w hw=>?_) ?_ jj
   ·have h1:=e3 w (b8.mem_iff.mp hw)
    obtain⟨_,hT5⟩:=nR.is
    exact s5.ne h1 (fun _ z=>by cases z) hT5
   ·have:=b8.map (·.2)
    rw[e2]at this
    exact this
noncomputable def EX_ (K:α3)(H:Hp)(e:Addr)(n:Nat)(E:Nat->α1):Prop:=∃es:List V,H e=some (.lst es)/\∀r,r<n->∃q ys,es[r]?=some (.ref q)/\H q=some (.lst ys)/\AY K H ys (E r)
noncomputable def wayW (ae:α1)(r:Nat):α2:=(((AA ae).find? fun e=>e.1==(r:Int)).getD (0,[])).2
theorem TN {ae:α1}(nod:((AA ae).map (·.1)).Nodup){r:Nat}{w:α2}(h:((r:Int),w)∈AA ae):wayW ae r=w:=by
 unfold wayW
 cases hf:(AA ae).find? fun e=>e.1==(r:Int) with
 |none=>exact absurd (xN_.mp hf _ h) (by simp)
 |some e=>
  have h1:=zK_ hf
  have h2:=xs_ hf
  have e1:e.1=(r:Int):=by simpa using h1
  obtain⟨i,hi,ei⟩:=jR_ h2
  obtain⟨j,hj,ej⟩:=jR_ h
  have ij:i=j:=(xJ_ (h₀:=by simpa using hi) (h₁:=by simpa using hj) nod).mp (by simp[ei,ej,e1])
  subst ij
  rw[ei]at ej
  rw[Option.getD_some,ej]
noncomputable def oneW (ae:α1)(E:Nat->α1)(r:Nat)(m:α2):α1:=(E (AM ae (wayW ae r++m)).toNat).map ((wayW ae r++m) ++ ·)
noncomputable def allW (ae:α1)(n:Nat)(cH:α1)(E:Nat->α1):α1:=(List.range n).flatMap fun r=>cH.flatMap (oneW ae E r)
noncomputable abbrev FU (L:Int)(m:Nat):α1:=(List.range (many L (m+2)).toNat).map (nth L)
theorem Je {α β:Type}{f:α->List β}{c:Nat}:∀(l:List α),(∀x∈l,(f x).length<=c)->(l.flatMap f).length<=l.length*c
 |[],_=>by simp
 |x::l,h=>by
  have h1:=h x jn_
  have h2:=Je l (fun y hy=>h y (jk_ _ hy))
  rw[List.flatMap_cons,jo_,jV_,Nat.succ_mul]
  lia
theorem Wr {K:α3}    (h:AY K H xs us)(g:AY K H ys vs):AY K H (xs++ys) (us++vs):=by
 refine⟨by rw[jo_,jo_,h.1,g.1],fun i w hw=>?_⟩
 by_cases hi:i<us.length
 ·rw[jj_ hi]at hw
  obtain⟨t,a,b⟩:=h.2 i w hw
  exact⟨t,by rw[jj_ (by rw[h.1];exact hi)];exact a,b⟩
 ·rw[jr_ s!""]at hw
  obtain⟨t,a,b⟩:=g.2 _ w hw
  exact⟨t,by rw[jr_ (by rw[h.1];lia),h.1];exact a,b⟩
noncomputable def YV (K:α3):Sp:=fun vs H Q _=>∃(h e:Addr) (L:Int) (m:Nat) (aa:α2) (ae:α1) (E:Nat->α1),vs=[.ref h,.int m,.ref e]/\BU K H h L aa ae/\Wf L aa ae/\m<=3/\many L (m+2)<=341/\EX_ K H e aa.length E/\(∀r,r<aa.length->(E r).length<=40/\∀w∈E r,w.length<=40)/\(∀r:Nat,r<aa.length->(r:Int)∈(AA ae).map (·.1))/\LamH K H /\
 ∀D H' os,DH (tabP K "in_order") H H'->LamH K H'->H D=none->H' D=some (.lst (aK.wv os))->WsT H' os->(os.map (·.2)).Perm ((allW ae aa.length (FU L m) E).foldl ins [])->aK.Srt os->Q (.ref D) H'
theorem P7   (F:Fun K "words_with" "words_with" CG f fd)(T:Txt mg)
   (JK:FnOk P w K mg base CX0 4 Eg Mc ["letters","most"] (BO_ K)) (Fv:Fun K "words_to" "words_to" DI Eg Mc) (JL:A7 K Mc ["letters","most"] []) (JN:mg "words_to"=some (.ref Eg))
   (CS:FnOk P w K mg base CX0 4 Br C1 ["house","word"] (Tv K)) (BO:Fun K "room_behind" "room_behind" BI Br C1) (CT:A7 K C1 ["house","word"] []) (CU:mg "room_behind"=some (.ref Br))
   (Md:FnOk P w K mg base CX0 2 Fw ON ["house"] (RO K)) (GK:Fun K "ways_in" "ways_in" El Fw ON) (Me:A7 K ON ["house"] []) (Mf:mg "ways_in"=some (.ref Fw))
   (JO:FnOk P w K mg base CX0 4 Eh Mg ["words"] (BS_ K)) (Hn:Fun K "in_order" "in_order" Dp Eh Mg) (JQ:A7 K Mg ["words"] []) (JR:mg "in_order"=some (.ref Eh))
  : FnOk P w K mg base CX0 5 f fd ["base","more","ends"] (YV K):=by
 refine F.ok DB (fun vs H Q E h=>?_) (fun ay A outer s H vs Q E hr h=>?_)
 ·obtain⟨h,e,L,m,aa,ae,E,rfl,_⟩:=h;rfl
 ·obtain⟨h,e,L,m,aa,ae,E,rfl,hh,wf,hm,ck,hE,hEl,az,hT,k⟩:=h
  have hl:=AE
  have cB:=wf.l1
  have cC:=wf.l6
  have aN:=wf.n40
  refine⟨_,(Ad (Aj (i:=3) DB.nd (Cu Ae))
   (Ad (Ci jJ_ rfl (B2 (Al Md (hr.mono (by decide)) rfl Mf GK.kp Me .nil A3 (Aa (pvD 0) Ae))) (Au (i:=4) DB.nd rfl (Or.inl rfl))
   (Ag (Ci jJ_ rfl (B2 (Al JK (hr.mono (by decide)) rfl JN Fv.kp JL .nil A3 (Aa (Ah (ixTD Ao) (pvD 0) Ac) (Aa (An (opD0 Bm) (pvD 1) Ac) Ae)))) (Au (i:=5) DB.nd rfl (Or.inl rfl))
   (Ad (Cd (i:=6) DB.nd rfl (Or.inr rfl) (An Hf (pvD 4) (pvD 5)))
   (Ag (BS (FA jE_ PySem.F.slot_list_extend PySem.F.type_list_extend Xt (pvD 3) (Aa (B3 rfl (B4 rfl) (cp:=HS) ⟨⟨rfl,rfl⟩,True.intro⟩ (B2 (Ah (ixLD Bn) (pvD 2) (Al CS (hr.mono (by decide)) rfl CU BO.kp CT .nil A3 (Aa (pvD 0) (Aa (pvD 6) Ae))))) (fun _ _ _ _=>(Au (i:=0) JA rfl (Or.inl rfl))) (fun _ _ _ _=>Ce) (fun _ _ _ _=>(An (Yl (K:=K) rfl) (pvD 1) (pvD 0)))) Ae))))))))
   (Ag (AR (Al JO (hr.mono (by decide)) rfl JR Hn.kp JQ .nil A3 (Aa (pvD 3) Ae)))))),?_⟩
  walk_at "rd"
  refine⟨by lia,fun p hp=>?_⟩
  have s0:=Same.new (o:=.lst []) hp
  refine⟨h,L,aa,ae,rfl,hh.mono s0,wf,fun d top H1 s1 hdn hWS bf=>?_⟩
  obtain⟨xs,hd,bS,hxs⟩:=hWS
  have s01:=s0.trans s1
  have bx:=s1 _ _ (Ab (H:=H) (a:=p) (o:=.lst []))
  have jV:d≠p:=(A4 hdn).2
  refine⟨d,rfl,⟨_,SqL.of hd⟩,?_⟩
  have hmL:(FU L m).length<=341:=by
   rw[ja_,qV_];lia
  have hone:∀(r:Nat) (v:α2),r<aa.length->isW L (wayW ae r++v)=true->(oneW ae E r v).length<=40:=fun r v hr hv=>by
   have h1:=wf.walk hv (wayW ae r++v).length
   rw[jT_]at h1
   unfold oneW
   rw[ja_]
   exact (hEl _ s!"").1
  have hway:∀r,r<aa.length->∃t,xs[r]?=some (.ref t)/\H1 t=some (.tup ((wayW ae r).map V.int))/\isW L (wayW ae r)=true/\(wayW ae r).length<=40:=fun r hr=>by
   rcases hxs r hr with ⟨w,t,a,b,c⟩|⟨a,_⟩
   ·rw[TN bf.nod a]
    obtain⟨j,hj⟩:=jG_.mp a
    have h1:=bf.sh j _ hj
    have h2:=(jb_.mp hj).1
    have h3:=bf.len
    exact⟨t,b,c,(bf.wd _ a).1,by dsimp only at h1;lia⟩
   ·exact absurd (az r hr) a
  have lS:∀v∈FU L m,isW L v=true:=fun v hv=>by
   obtain⟨k',_,rfl⟩:=jv_.mp hv
   exact Fc (show 0<L by lia) k'
  have happ:∀r,r<aa.length->∀v,isW L v=true->isW L (wayW ae r++v)=true:=fun r hr v hv=>by
   obtain⟨_,_,_,k9,_⟩:=hway r hr
   rw[AF]at k9 hv ⊢
   intro x hx
   rcases jA_.mp hx with hx|hx
   ·exact k9 x hx
   ·exact hv x hx
  have hb1:∀r,r<aa.length->∀j,(((FU L m).take j).flatMap (oneW ae E r)).length<=13640:=fun r hr j=>by
   have h1:=Je (f:=oneW ae E r) (c:=40) ((FU L m).take j) (fun v hv=>hone r v hr (happ r hr v (lS v (xf_ hv))))
   have h2:((FU L m).take j).length<=341:=ql_ (by rw[jB_];lia) hmL
   lia
  have eg:∀i,i<=aa.length->((List.range i).flatMap fun r=>(FU L m).flatMap (oneW ae E r)).length<=545600:=fun i hi=>by
   have h1:=Je (f:=fun r=>(FU L m).flatMap (oneW ae E r)) (c:=13640) (List.range i) (fun r hr=>by
    have:=hb1 r (by have:=jP_.mp hr;lia) (FU L m).length
    rw[jT_]at this
    exact this)
   rw[qV_]at h1
   have h2:i*13640<=40*13640:=Nat.mul_le_mul_right _ s!""
   lia
  obtain⟨Pv,aq⟩:∃Pv:Nat->St->Hp->Prop,∀i ag H',Pv i ag H'↔(∃(ys:List V) (o4 o5 o6:Option V),Same H H'/\TK H1 H'/\H' d=some (.lst xs)/\H' p=some (.lst ys)/\AY K H' ys ((List.range i).flatMap fun r=>(FU L m).flatMap (oneW ae E r))/\ag=[some (.ref h),some (.int m),some (.ref e),some (.ref p),o4,o5,o6]):=⟨_,fun _ _ _=>qk_⟩
  refine forL (xs:=xs) Pv ((aq _ _ _).mpr ⟨[],none,none,none,s01,TK.refl _,hd,bx,AY.nil,rfl⟩) (fun i ag H' _ h'=>by obtain⟨_,_,_,_,_,_,q,_⟩:=(aq _ _ _).mp h';exact SqL.of q) (fun i x aj H2 hx h2=>?_) (fun aj H2 h2=>?_)
  ·obtain⟨ys,o4,o5,o6,s2,nT,ff,aU,i3,rfl⟩:=(aq _ _ _).mp h2
   have hi:i<aa.length:=by rw[<-bS];exact (jb_.mp hx).1
   obtain⟨t,f7,ht,k9,cK⟩:=hway i hi
   rw[hx]at f7
   cases f7
   walk_at "rd"
   obtain⟨mm,wv,q1,q2,q3⟩:=id hh
   refine⟨_,s2.seqT q1,_,rfl,L,m+1,by rw[Int.natCast_add];rfl,cB,cC,by lia,by show many L (m+2)<=4000;lia,fun pm zs H3 s3 hpmn bC hWm=>⟨pm,rfl,⟨_,SqL.of bC⟩,?_⟩⟩
   have hWm':AY K H3 zs (FU L m):=hWm
   have hppm:pm≠p:=fun z=>by rw[z,aU]at hpmn;cases hpmn
   have hpH:H p=none:=hp
   obtain⟨Pw,bQ⟩:∃Pv:Nat->St->Hp->Prop,∀j ag H',Pv j ag H'↔(∃(gL:List V) (o5 o6:Option V),Same H H'/\TK H3 H'/\H' d=some (.lst xs)/\H' pm=some (.lst zs)/\H' p=some (.lst gL)/\AY K H' gL (((List.range i).flatMap fun r=>(FU L m).flatMap (oneW ae E r))++((FU L m).take j).flatMap (oneW ae E i))/\ag=[some (.ref h),some (.int m),some (.ref e),some (.ref p),some (.ref t),o5,o6]):=⟨_,fun _ _ _=>qk_⟩
   refine forL (xs:=zs) Pw ((bQ _ _ _).mpr ⟨ys,o5,o6,s2.trans s3,TK.refl _,s3 _ _ ff,bC,s3 _ _ aU,by rw[zR_,List.flatMap_nil,qi_];exact i3.mono (TK.of s3),rfl⟩) (fun j ag H' _ h'=>by obtain⟨_,_,_,_,_,_,q,_⟩:=(bQ _ _ _).mp h';exact SqL.of q) (fun j y bu H4 hy h4=>?_) (fun bu H4 h4=>?_)
   ·obtain⟨gL,o5,o6,s4,la,nU,hpm4,dP,f6,rfl⟩:=(bQ _ _ _).mp h4
    obtain⟨u,v,hvj,rfl,hu⟩:=hWm'.at hy
    have hvm:isW L v=true/\v.length<=4:=by
     obtain⟨k',dn,rfl⟩:=jv_.mp (jc_ hvj)
     have hv:=Fc (show 0<L by lia) k'
     refine⟨hv,?_⟩
     have h1:=(Hg (show 0<L by lia) hv (m+1)).mpr (by
      rw[Gu]
      have:=jP_.mp dn
      show (k':Int)<many L (m+2)
      lia)
     lia
    have ht4:=la _ _ (TK.of s3 _ _ (nT _ _ ht))
    have hu4:=la _ _ hu
    walk_at "rd"
    refine HR.ofS ht4 hu4 (by simp;lia) fun q H5 s5 hq=>?_
    have lb:isW L (wayW ae i++v)=true:=by
     rw[AF]at k9 ⊢
     intro x hx
     rcases jA_.mp hx with hx|hx
     ·exact k9 x hx
     ·exact AF.mp hvm.1 x hx
    have fV:H5 q=some (.tup ((wayW ae i++v).map V.int)):=by rw[hq,jS_]
    walk_at "rd"
    have b8:=s5 _ _ dP
    refine⟨.inl ⟨rfl,_,SqL.of b8⟩,h,q,L,aa,ae,wayW ae i++v,rfl,hh.mono (s4.trans s5),wf,SqT.of fV,by rw[jo_];lia,fun _ H6 s6=>?_,fun hf=>by rw[lb]at hf;cases hf⟩
    have eT:=wf.walk lb (wayW ae i++v).length
    rw[jT_]at eT
    obtain⟨es,jO,mU⟩:=id hE
    obtain⟨pe,ye,nV,hye,hWe⟩:=mU (AM ae (wayW ae i++v)).toNat s!""
    have hEr:=hEl (AM ae (wayW ae i++v)).toNat s!""
    have nW:=(s4.trans s5).trans s6
    have hye6:=nW _ _ hye
    have hWe6:=hWe.mono (TK.of nW)
    have kD:=hWe.1
    refine⟨es,_,rfl,SqL.of (nW _ _ jO),_,Ej s!"" nV,pe,rfl,⟨_,SqL.of hye6⟩,?_⟩
    refine Q9 (xs:=ye) (fun j' dA ag H'=>Same H6 H'/\AY K H' dA (((E (AM ae (wayW ae i++v)).toNat).take j').map ((wayW ae i++v) ++ ·))/\∃o,ag=[o,some (.ref q)]) ⟨Same.refl _,AY.nil,none,rfl⟩ s!"" (fun j' dA ag H' cg h'=>⟨SqL.of (h'.1 _ _ hye6),by have:=h'.2.1.1;rw[ja_,jB_]at this;lia⟩) (fun j' x' dA ag H' d6 h'=>?_) (fun dA ag H' h' D hD=>?_)
    ·obtain⟨s7,eU,o,rfl⟩:=h'
     obtain⟨u',v',lg,rfl,g8⟩:=hWe6.at d6
     have nX:=hEr.2 v' (jc_ lg)
     walk_at "rd"
     refine HR.ofS (s7 _ _ (s6 _ _ fV)) (s7 _ _ g8) (by simp;lia) fun q2 H8 s8 ed=>⟨s7.trans s8,?_,_,rfl⟩
     rw[jU_,lg,qK_,jS_]
     exact (eU.mono (TK.of s8)).snoc (by rw[ed];simp)
    ·obtain⟨s7,eU,o,_⟩:=h'
     rw[kD,jT_]at eU
     have nY:upd H' D (.lst dA) p=some (.lst gL):=by
      have:=s7 _ _ (s6 _ _ b8)
      rw[Ai (AB this hD)];exact this
     have s7D:Same H6 (upd H' D (.lst dA)):=s7.newT hD
     have lQ:upd H' D (.lst dA) D=some (.lst dA):=Ab
     have jY:AY K (upd H' D (.lst dA)) dA _:=eU.mono (TK.new hD)
     generalize upd H' D (.lst dA)=H9 at nY s7D lQ jY ⊢
     have lh:=(s5.trans s6).trans s7D
     have s49:=s4.trans lh
     have bp:=f6.1
     have bF:=jY.1
     rw[jo_]at bp
     rw[ja_]at bF
     have hb3:=hb1 i hi j
     have hb4:=eg i s!""
     have kT:TK H9 (upd H9 p (.lst (gL++dA))):=TK.lst nY
     refine⟨D,rfl,gL,nY,dA,lQ,by lia,(bQ _ _ _).mpr ⟨gL++dA,_,_,s49.over hpH,(la.trans (TK.of lh)).trans kT,by rw[Ai jV];exact lh _ _ nU,by rw[Ai hppm];exact lh _ _ hpm4,Ab,?_,rfl⟩⟩
     rw[jU_,hvj,qK_,List.flatMap_append,<-qh_]
     refine Wr ((f6.mono (TK.of lh)).mono kT) ?_
     have e1:[v].flatMap (oneW ae E i)=(E (AM ae (wayW ae i++v)).toNat).map ((wayW ae i++v) ++ ·):=by simp[oneW]
     rw[e1]
     exact jY.mono kT
   ·obtain⟨gL,o5,o6,s4,la,nU,hpm4,dP,f6,rfl⟩:=(bQ _ _ _).mp h4
    refine (aq _ _ _).mpr ⟨gL,_,_,_,s4,(nT.trans (TK.of s3)).trans la,nU,dP,?_,rfl⟩
    have:(FU L m).take zs.length=FU L m:=jO_ (by rw[hWm'.1];exact jg_ _)
    rw[this]at f6
    rw[xS_,List.flatMap_append]
    simpa using f6
  ·obtain⟨ys,o4,o5,o6,s2,nT,ff,aU,i3,rfl⟩:=(aq _ _ _).mp h2
   rw[bS]at i3
   walk_at "rd"
   refine⟨p,ys,_,rfl,SqL.of aU,i3,?_,hT.mono s2,fun D H3 os s3 hL3 ik hD cW bC hs=>?_⟩
   ·have:=eg aa.length (jg_ _)
    lia
   ·exact k D H3 os (fun b o hb e=>s3 b o hb (s2 b o e)) hL3 (Same.none s2 ik) hD cW bC hs
theorem BT_      (h:WC L n b words c):∀(k:Nat) (w:α2),words[k]?=some w->w.length<=k:=by
 intro k
 induction k using Nat.strongRecOn with
 |ind k ih=>
  intro w hw
  by_cases hk:k=0
  ·subst hk
   rw[h.w0]at hw
   cases hw
   simp
  ·have ht:=h.tl k w hw s!""
   obtain⟨j,hj⟩:=jG_.mp ht
   have g9:j<k:=by
    have:=(jb_.mp hj).1
    rw[jB_]at this
    lia
   rw[xx_ g9]at hj
   have:=ih j g9 _ hj
   rw[List.length_tail]at this
   lia
noncomputable def Jf (L:Nat)(aa:α2)(ae:α1)(m:Nat):α1:=allW (sW L aa ae) (sM L aa ae).length (FU (L:Int) m) fun _=>(wcOf (sM L aa ae).length L (bW (sM L aa ae) (sW L aa ae))).1
noncomputable def Vn (K:α3):Sp:=fun vs H Q _=>∃(h:Addr) (L m:Nat) (aa:α2) (ae:α1),vs=[.ref h,.int m]/\BU K H h L aa ae/\Wf L aa ae/\m<=3/\many L (m+2)<=341/\LamH K H /\
 ∀D H' os,DH (tabP K "in_order") H H'->LamH K H'->H D=none->H' D=some (.lst (aK.wv os))->WsT H' os->(os.map (·.2)).Perm ((Jf L aa ae m).foldl ins [])->aK.Srt os->Q (.ref D) H'
theorem Ac_   (F:Fun K "suite" "suite" Il f fd)(T:Txt mg)
   (Mh:FnOk P w K mg base CX0 3 Fx OO ["house"] (BQ_ K)) (GL:Fun K "tellers" "tellers" Em Fx OO) (Mi:A7 K OO ["house"] []) (Mj:mg "tellers"=some (.ref Fx))
   (TQ:FnOk P w K mg base CX0 5 JS Vo ["house"] (Vl K)) (Ml:Fun K "least" "least" Ij JS Vo) (TR:A7 K Vo ["house"] []) (TU:mg "least"=some (.ref JS))
   (GN:FnOk P w K mg base CX0 5 Ds Jg ["base","more","ends"] (YV K)) (DX:Fun K "words_with" "words_with" CG Ds Jg) (GO:A7 K Jg ["base","more","ends"] []) (GP:mg "words_with"=some (.ref Ds))
  : FnOk P w K mg base CX0 6 f fd ["house","more"] (Vn K):=by
 refine F.ok PX (fun vs H Q E h=>?_) (fun ay A outer s H vs Q E hr h=>?_)
 ·obtain⟨h,L,m,aa,ae,rfl,_⟩:=h;rfl
 ·obtain⟨h,L,m,aa,ae,rfl,hh,wf,hm,ck,hT,k⟩:=h
  have hl:=AE
  refine⟨_,(Ad (Aj (i:=2) PX.nd (Al TQ (hr.mono (by decide)) rfl TU Ml.kp TR .nil A3 (Aa (pvD 0) Ae)))
   (Ad (Cd (i:=3) PX.nd rfl (Or.inr rfl) (Al Mh (hr.mono (by decide)) rfl Mj GL.kp Mi .nil A3 (Aa (pvD 2) Ae)))
   (Ag (AR (Al GN (hr.mono (by decide)) rfl GP DX.kp GO .nil A3 (Aa (pvD 2) (Aa (pvD 1) (Aa (B3 rfl (B4 rfl) (cp:=RK) ⟨⟨rfl,rfl⟩,True.intro⟩ (Gk (Ah (ixTD Ao) (pvD 2) Ac)) (fun _ _ _ _=>(Au (i:=0) RL rfl (Or.inl rfl))) (fun _ _ _ _=>Ce) (fun _ _ _ _=>(pvD 1))) Ae)))))))),?_⟩
  walk_at "rd"
  have bz:=sWf wf
  have df:=sCan wf
  have jI:=bz.n40
  refine⟨h,L,aa,ae,rfl,hh,wf,fun ps H3 s3 eV=>?_⟩
  unfold Jf at k
  generalize sM L aa ae=ms at bz df eV jI k
  generalize sW L aa ae=vs at bz df eV k
  obtain⟨sm,sv,r1,r2,r3⟩:=id eV
  refine⟨ps,L,ms,vs,rfl,eV,bz,fun pe xs H7 s7 hpeN nV hW fin=>?_⟩
  have s37:=s3.trans s7
  generalize j6:wcOf ms.length L (bW ms vs)=st at hW fin k
  have lb:st.1.length<=40:=by
   have h1:=fin.wc.le
   have h2:=Oz st.2
   rw[fin.wc.len]at h2
   lia
  have cK:=BT_ fin.wc
  walk_at "rd"
  refine⟨_,s7.seqT r1,_,rfl,sm,rfl,⟨_,s7.seqT r2⟩,?_⟩
  refine Zu (xs:=ms.map V.int) (fun i ys ag H'=>H'=H7/\ys=List.replicate i (V.ref pe)/\∃o,ag=[o,some (.ref pe)]) ⟨rfl,rfl,none,rfl⟩ (by rw[ja_];lia) (fun i ys ag H' hi h'=>?_) (fun i x ys ag H' hx h'=>?_) (fun ys ag H' h' D hD=>?_)
  ·obtain⟨rfl,rfl,_⟩:=h'
   exact⟨s7.seqT r2,by rw[qq_];exact jg_ _⟩
  ·obtain⟨rfl,rfl,o,rfl⟩:=h'
   walk_at "rd"
   refine⟨?_,_,rfl⟩
   exact (List.replicate_succ' ..).symm
  ·obtain⟨rfl,rfl,o,rfl⟩:=h'
   rw[ja_]
   have sD:=s37.newT hD (o:=.lst (List.replicate ms.length (V.ref pe)))
   have ip:=Same.new hD (o:=.lst (List.replicate ms.length (V.ref pe)))
   have lP:upd H' D (.lst (List.replicate ms.length (V.ref pe))) D=some (.lst (List.replicate ms.length (V.ref pe))):=Ab
   generalize upd H' D (.lst (List.replicate ms.length (V.ref pe)))=H8 at sD ip lP ⊢
   refine⟨ps,D,L,m,ms,vs,fun _=>st.1,rfl,eV.mono (s7.trans ip),bz,hm,ck,⟨_,lP,fun r hr=>⟨pe,xs,by rw[x8_,if_pos hr],ip _ _ nV,hW.mono (TK.of ip)⟩⟩,fun r hr=>⟨lb,fun w hw=>?_⟩,fun r hr=>?_,hT.mono sD,fun D' H9 os sT hL9 ik hD' cW bC hs=>?_⟩
   ·obtain⟨j,hj⟩:=jG_.mp hw
    have h1:=cK j w hj
    have h2:j<st.1.length:=(jb_.mp hj).1
    lia
   ·have h1:=df.order
    unfold rOf at h1
    rw[h1]
    exact jv_.mpr ⟨r,jP_.mpr hr,rfl⟩
   ·exact k D' H9 os (fun b o hb e=>sT b o hb (sD b o e)) hL9 (Same.none sD ik) hD' cW bC hs
noncomputable def cell (ns:α2)(k:Nat):Int:=ns.getD k 0
noncomputable def JT (K:α3):Sp:=fun vs H Q _=>∃(a:Addr) (ns:α2) (k:Nat),vs=[.ref a,.int k]/\SqL K H a (ns.map V.int)/\Q (.int (cell ns k)) H
theorem Mm   (F:Fun K "_law_cell_at" "_law_cell_at" A6 f fd)(T:Txt mg)
  : FnOk P w K mg base CX0 1 f fd ["script","k"] (JT K):=by
 refine F.ok LY (fun vs H Q E h=>?_) (fun ay A outer s H vs Q E hr h=>?_)
 ·obtain⟨a,ns,k,rfl,_⟩:=h;rfl
 ·obtain⟨a,ns,k,rfl,hs,q⟩:=h
  refine⟨_,(Ad (Cy (ptT (Aw (opD0 LB) (pvD 1) (As (lenD Ak) (by rfl) T.len jI_ (Aa (pvD 0) Ae)) (AV _)))
   (Ag (AR (Ah (ixLD Bn) (pvD 0) (pvD 1))))
   AX)
   (Ag (AR Ac))),?_⟩
  walk_at "rd"
  refine⟨_,.inl hs,?_⟩
  rw[ja_]
  refine ite2 (fun hk=>?_) (fun hk=>?_)
  ·have dn:k<ns.length:=by simpa using hk
   refine⟨_,hs,V.int (cell ns k),?_,q⟩
   refine Gm ?_
   rw[jd_]
   unfold cell
   rw[jh_]
   simp[dn]
  ·have dn:¬ k<ns.length:=by simpa using hk
   have:cell ns k=0:=by
    unfold cell
    rw[jh_,jQ_ s!""];rfl
   rw[<-this]
   exact q
noncomputable def Ho:Sp:=fun vs H Q _=>∃num k m:Int,vs=[.int num,.int k,.int m]/\0<=k/\k<=1000000/\0<m/\∀x,0<=x->x<m->Q (.int x) H
theorem P8   (F:Fun K "_law_mixed" "_law_mixed" Bk f fd)(T:Txt mg)
  : FnOk P w K mg base CX0 1 f fd ["number","k","many"] (Ho):=by
 refine F.ok FP (fun vs H Q E h=>?_) (fun ay A outer s H vs Q E hr h=>?_)
 ·obtain⟨num,k,m,rfl,_⟩:=h;rfl
 ·obtain⟨num,k,m,rfl,cY,jJ,hm,q⟩:=h
  refine⟨_,(Ad (Aj (i:=3) FP.nd (An (opD A5) (An (opD0 Bm) (An (opD0 Bm) (An (opD0 Bm) (An (opD A5) (pvD 0) Ac) (An (opD IG) (An (opD IG) Ac (pvD 1)) (pvD 1))) (An (opD IG) Ac (pvD 1))) Ac) Ac))
   (Ad (Aj (i:=3) FP.nd (An (opD A5) (An (opD IG) (pvD 3) Ac) Ac))
   (Ag (AR (An (opD A5) (An (opD A5) (An (opD IG) (pvD 3) (pvD 3)) Ac) (pvD 2)))))),?_⟩
  walk_at "rd"
  refine⟨by decide,.inl ⟨by decide,by decide⟩,.inr ⟨by lia,by lia⟩,.inl ⟨by decide,by decide⟩,by decide,.inr ⟨by decide,by decide⟩,by decide,?_⟩
  generalize (num%2147483647+69621*k*k+40692*k+1)%2147483647*48271=z
  have m0:=j6_ z (show (2147483647:Int)≠0 by decide)
  have m1:=jZ_ z (show (0:Int)<2147483647 by decide)
  exact⟨.inl ⟨by lia,by lia⟩,by decide,hm,q _ (j6_ _ s!"") (jZ_ _ hm)⟩
noncomputable def OP (K:α3):Sp:=fun vs H Q _=>∃(num:Int) (n:Nat),vs=[.int num,.int n]/\1<=n/\n<=40/\∀(t:Addr) (aa:α2) (H':Hp),Same H H'->SqT K H' t (aa.map V.int)->aa.length=n->(∀m∈aa,0<=m/\m<=1000000000)->Q (.ref t) H'
theorem Ky   (F:Fun K "_law_marks_by" "_law_marks_by" By f fd)(T:Txt mg)
   (AH:FnOk P w K mg base CX0 1 AN AW ["number","k","many"] (Ho)) (Ay:Fun K "_law_mixed" "_law_mixed" Bk AN AW) (AI:A7 K AW ["number","k","many"] []) (AJ:mg "_law_mixed"=some (.ref AN))
  : FnOk P w K mg base CX0 2 f fd ["number","rooms"] (OP K):=by
 refine F.ok A2 (fun vs H Q E h=>?_) (fun ay A outer s H vs Q E hr h=>?_)
 ·obtain⟨num,n,rfl,_⟩:=h;rfl
 ·obtain⟨num,n,rfl,b7,aN,k⟩:=h
  have hl:=AE
  refine⟨_,(Ad (Aj (i:=2) A2.nd (An (opD A5) (An (opD0 Bm) (pvD 0) Ac) Ac))
   (Ad (Aj (i:=3) A2.nd (An (opD A5) (An (opD CB) (pvD 0) Ac) Ac))
   (Ad (Aj (i:=4) A2.nd (Cu Ae))
   (Ad (Ci jJ_ rfl (Bh rfl T.range (Aa (pvD 1) Ae)) (Au (i:=5) A2.nd rfl (Or.inl rfl))
   (Ad (Aj (i:=6) A2.nd (pvD 3))
   (C0 (Cy (PW.pt (J7 (ptT (Aw (opE Dx) (An (opD A5) (pvD 2) Ac) Ac (AV _))) (Gj (ptT (Aw (opE Dx) (Al AH (hr.mono (by decide)) rfl AJ Ay.kp AI .nil A3 (Aa (pvD 0) (Aa (pvD 5) (Aa Ac Ae)))) Ac (AV _))))))
   (Ag (Aj (i:=6) A2.nd (An (opD0 EH) Ac (pvD 3))))
   AX)
   (C0 (Cy (ptT (Aw (opE Dx) (pvD 2) Ac (AV _)))
   (Ag (Aj (i:=6) A2.nd (Al AH (hr.mono (by decide)) rfl AJ Ay.kp AI .nil A3 (Aa (pvD 0) (Aa (pvD 5) (Aa Ac Ae))))))
   AX)
   (C0 (Cy (PW.pt (VC (PW.pt (J7 (ptT (Aw (opE Dx) (pvD 2) Ac (AV _))) (Gj (ptT (Aw (opE Dx) (pvD 5) (An (opD A5) (An (opD CB) (pvD 0) Ac) (pvD 1)) (AV _)))))) (UB (PW.pt (J7 (ptT (Aw (opE Dx) (pvD 2) Ac (AV _))) (Gj (ptT (Aw (opE Dx) (pvD 5) (An (opD0 EH) (pvD 1) Ac) (AV _)))))))))
   (Ag (Aj (i:=6) A2.nd (An (opD A5) (An (opD0 Bm) (pvD 3) Ac) Ac)))
   AX)
   (C0 (Cy (PW.pt (VC (ptT (Aw (opE Dx) (pvD 2) Ac (AV _))) (UB (ptT (Aw (opE Dx) (pvD 2) Ac (AV _))))))
   (Ag (Aj (i:=6) A2.nd (Al AH (hr.mono (by decide)) rfl AJ Ay.kp AI .nil A3 (Aa (pvD 0) (Aa (pvD 5) (Aa Ac Ae))))))
   AX)
   (Ag (BS (FA jE_ jM_ jN_ Bi (pvD 4) (Aa (pvD 6) Ae))))))))))
   (Ag (AR (AO AG rfl T.tuple jz_ (Aa (pvD 4) Ae)))))))),?_⟩
  walk_at "rd"
  refine⟨by decide,⟨by decide,by decide⟩,by decide,by lia,fun p hp=>⟨by lia,by lia,?_⟩⟩
  rw[ji_]
  have gA:=j6_ (num / 8) (show (1000000001:Int)≠0 by decide)
  have lT:=jZ_ (num / 8) (show (0:Int)<1000000001 by decide)
  generalize (num+1)%8=jk
  generalize num / 8%1000000001=top at gA lT ⊢
  obtain⟨Pv,aq⟩:∃Pv:Nat->St->Hp->Prop,∀i aj H2,Pv i aj H2↔(∃(aa:α2) (o1 o2:Option V),Same H H2/\H2 p=some (.lst (aa.map V.int))/\aa.length=i/\(∀m∈aa,0<=m/\m<=1000000000)/\aj=[some (.int num),some (.int n),some (.int jk),some (.int top),some (.ref p),o1,o2]):=⟨_,fun _ _ _=>qk_⟩
  refine forR Pv ((aq _ _ _).mpr ⟨[],none,none,Same.new hp,by rw[Ab];rfl,rfl,(fun m hm=>by cases hm),rfl⟩) (fun i aj H2 hi h2=>?_) (fun aj H2 h2=>?_)
  ·obtain⟨aa,o1,o2,s2,aU,ak,bG,rfl⟩:=(aq _ _ _).mp h2
   generalize hroom:(0:Int)+(i:Nat)=room
   have aL:0<=room:=by lia
   have dB:room<=40:=by lia
   obtain⟨R,hR⟩:∃R:St->Hp->Prop,∀aA H3,R aA H3↔(H3=H2/\∃b9:Int,0<=b9/\b9<=1000000000/\aA=[some (.int num),some (.int n),some (.int jk),some (.int top),some (.ref p),some (.int room),some (.int b9)]):=⟨_,fun _ _=>qk_⟩
   walk_at "rd"
   refine⟨R,?_,fun aA H3 h3=>⟨R,?_,fun bu H4 h4=>⟨R,?_,fun gD H5 h5=>⟨R,?_,fun cO H6 h6=>?_⟩⟩⟩⟩
   ·walk_at "rd"
    refine⟨by decide,iteB ((hR _ _).mpr ⟨rfl,top,gA,by lia,rfl⟩) (fun _ hB=>⟨num,room,2,rfl,aL,by lia,by decide,fun x _ _=>?_⟩)⟩
    walk_at "rd"
    exact ite2 (fun _=>(hR _ _).mpr ⟨rfl,_,by lia,by lia,rfl⟩) (fun _=>hB)
   ·obtain⟨rfl,b9,cz,h8,rfl⟩:=(hR _ _).mp h3
    walk_at "rd"
    refine ite2 (fun _=>⟨num,room,1000000001,rfl,aL,by lia,by decide,fun x cI bN=>?_⟩) (fun _=>h3)
    walk_at "rd"
    exact (hR _ _).mpr ⟨rfl,x,cI,by lia,rfl⟩
   ·obtain⟨rfl,b9,cz,h8,rfl⟩:=(hR _ _).mp h4
    walk_at "rd"
    have hA:R [some (.int num),some (.int n),some (.int jk),some (.int top),some (.ref p),some (.int room),some (.int ((top+1)%1000000001))] H4:=(hR _ _).mpr ⟨rfl,_,j6_ _ (by decide),by have:=jZ_ (top+1) (show (0:Int)<1000000001 by decide);lia,rfl⟩
    have hE:if jk=5 then (if room=(n:Int)-1 then (0:Int)<1000000001/\R [some (.int num),some (.int n),some (.int jk),some (.int top),some (.ref p),some (.int room),some (.int ((top+1)%1000000001))] H4 else R [some (.int num),some (.int n),some (.int jk),some (.int top),some (.ref p),some (.int room),some (.int b9)] H4) else R [some (.int num),some (.int n),some (.int jk),some (.int top),some (.ref p),some (.int room),some (.int b9)] H4:=
     ite2 (fun _=>ite2 (fun _=>⟨by decide,hA⟩) (fun _=>h4)) (fun _=>h4)
    exact ite2 (fun _=>⟨⟨by decide,by decide⟩,by lia,ite2 (fun _=>⟨by decide,hA⟩) (fun _=>hE)⟩) (fun _=>hE)
   ·obtain⟨rfl,b9,cz,h8,rfl⟩:=(hR _ _).mp h5
    walk_at "rd"
    exact ite2 (fun _=>⟨num,room,3,rfl,aL,by lia,by decide,fun x cI bN=>(hR _ _).mpr ⟨rfl,x,cI,by lia,rfl⟩⟩) (fun _=>ite2 (fun _=>⟨num,room,3,rfl,aL,by lia,by decide,fun x cI bN=>(hR _ _).mpr ⟨rfl,x,cI,by lia,rfl⟩⟩) (fun _=>h5))
   ·obtain⟨rfl,b9,cz,h8,rfl⟩:=(hR _ _).mp h6
    walk_at "rd"
    refine⟨.inl ⟨rfl,_,SqL.of aU⟩,_,aU,by rw[ja_];lia,(aq _ _ _).mpr ⟨aa++[b9],_,_,s2.over hp,by rw[Ab];simp,by simp[ak],fun m hm=>?_,rfl⟩⟩
    rcases jA_.mp hm with hm|hm
    ·exact bG m hm
    ·rw[jq_.mp hm];exact⟨cz,h8⟩
  ·obtain⟨aa,o1,o2,s2,aU,ak,bG,rfl⟩:=(aq _ _ _).mp h2
   walk_at "rd"
   refine⟨_,.inl ⟨SqL.of aU,fun t ht=>?_⟩⟩
   exact k t aa _ (s2.newT ht) (SqT.of Ab) ak bG
noncomputable def RP (K:α3):Sp:=fun vs H Q _=>∃(a:Addr) (ns:α2) (L:Int) (n:Nat),vs=[.ref a,.int L,.int n]/\SqL K H a (ns.map V.int)/\1<=L/\L<=6/\1<=n/\n<=40/\∀(t:Addr) (ae:α1) (H':Hp),Same H H'->Rows K H' t ae->ae.length=n->(∀row∈ae,(row.length:Int)=L/\∀x∈row,0<=x/\x<(n:Int))->Q (.ref t) H'
theorem Mn   (F:Fun K "_law_ways_by" "_law_ways_by" BV f fd)(T:Txt mg)
   (Ap:FnOk P w K mg base CX0 1 Av AK ["script","k"] (JT K)) (Am:Fun K "_law_cell_at" "_law_cell_at" A6 Av AK) (Aq:A7 K AK ["script","k"] []) (Ar:mg "_law_cell_at"=some (.ref Av))
   (AH:FnOk P w K mg base CX0 1 AN AW ["number","k","many"] (Ho)) (Ay:Fun K "_law_mixed" "_law_mixed" Bk AN AW) (AI:A7 K AW ["number","k","many"] []) (AJ:mg "_law_mixed"=some (.ref AN))
  : FnOk P w K mg base CX0 2 f fd ["script","letters","rooms"] (RP K):=by
 refine F.ok AS (fun vs H Q E h=>?_) (fun ay A outer s H vs Q E hr h=>?_)
 ·obtain⟨a,ns,L,n,rfl,_⟩:=h;rfl
 ·obtain⟨a,ns,L,n,rfl,hs,cB,cC,b7,aN,k⟩:=h
  have hl:=AE
  refine⟨_,(Ad (Aj (i:=3) AS.nd (Al Ap (hr.mono (by decide)) rfl Ar Am.kp Aq .nil A3 (Aa (pvD 0) (Aa Ac Ae))))
   (Ad (Aj (i:=4) AS.nd (Cu Ae))
   (Ad (Ci jJ_ rfl (Bh rfl T.range (Aa (pvD 2) Ae)) (Au (i:=5) AS.nd rfl (Or.inl rfl))
   (Ad (Aj (i:=6) AS.nd (Cu Ae))
   (Ad (Ci jJ_ rfl (Bh rfl T.range (Aa (pvD 1) Ae)) (Au (i:=7) AS.nd rfl (Or.inl rfl))
   (Ad (Aj (i:=8) AS.nd (An (opD0 Bm) (An (opD0 Bm) Ac (An (opD IG) (pvD 5) (pvD 1))) (pvD 7)))
   (Ad (Aj (i:=9) AS.nd (Al AH (hr.mono (by decide)) rfl AJ Ay.kp AI .nil A3 (Aa (pvD 3) (Aa (pvD 8) (Aa (pvD 2) Ae)))))
   (C0 (Cy (ptT (Aw (opD0 LB) (pvD 8) (As (lenD Ak) (by rfl) T.len jI_ (Aa (pvD 0) Ae)) (AV _)))
   (Ag (Aj (i:=9) AS.nd (An (opD A5) (Ah (ixLD Bn) (pvD 0) (pvD 8)) (pvD 2))))
   AX)
   (C0 (Cy (PW.pt (J7 (ptT (Aw (opE Dx) (An (opD A5) (pvD 3) Ac) Ac (AV _))) (Gj (ptT (Aw (opE Dx) (pvD 7) (An (opD A5) (An (opD CB) (pvD 3) Ac) (pvD 1)) (AV _))))))
   (Ag (Aj (i:=9) AS.nd (An (opD A5) (An (opD0 Bm) (pvD 5) Ac) (pvD 2))))
   AX)
   (C0 (Cy (ptT (Aw (opE Dx) (An (opD A5) (pvD 3) Ac) Ac (AV _)))
   (Ag (Aj (i:=9) AS.nd (pvD 5)))
   AX)
   (C0 (Cy (PW.pt (J7 (ptT (Aw (opE Dx) (An (opD A5) (pvD 3) Ac) Ac (AV _))) (Gj (ptT (Aw (opE Dx) (pvD 7) (An (opD A5) (An (opD CB) (pvD 3) Ac) (pvD 1)) (AV _))))))
   (Ag (Aj (i:=9) AS.nd (As (Xg rfl) rfl T.min PyProof.Rows.boot_min (Aa (An (opD0 Bm) (pvD 5) Ac) (Aa (An (opD0 EH) (pvD 2) Ac) Ae)))))
   AX)
   (Ag (BS (FA jE_ jM_ jN_ Bi (pvD 6) (Aa (pvD 9) Ae)))))))))))
   (Ag (BS (FA jE_ jM_ jN_ Bi (pvD 4) (Aa (AO AG rfl T.tuple jz_ (Aa (pvD 6) Ae)) Ae)))))))
   (Ag (AR (AO AG rfl T.tuple jz_ (Aa (pvD 4) Ae))))))),?_⟩
  walk_at "rd"
  refine⟨a,ns,3,rfl,hs,?_⟩
  walk_at "rd"
  generalize cell ns 3=dW
  refine⟨by lia,fun pw a9=>⟨by lia,by lia,?_⟩⟩
  rw[ji_]
  obtain⟨Pv,aq⟩:∃Pv:Nat->St->Hp->Prop,∀i aj H2,Pv i aj H2↔(∃(ae:α1) (o1 o2 o3 o4 o5:Option V),Same H H2/\D0 K H2 pw ae/\ae.length=i/\(∀row∈ae,(row.length:Int)=L/\∀x∈row,0<=x/\x<(n:Int))/\aj=[some (.ref a),some (.int L),some (.int n),some (.int dW),some (.ref pw),o1,o2,o3,o4,o5]):=⟨_,fun _ _ _=>qk_⟩
  refine forR Pv ((aq _ _ _).mpr ⟨[],none,none,none,none,none,Same.new a9,D0.nil Ab,rfl,(fun m hm=>by cases hm),rfl⟩) (fun i aj H2 hi h2=>?_) (fun aj H2 h2=>?_)
  ·obtain⟨ae,o1,o2,o3,o4,o5,s2,dy,ak,bG,rfl⟩:=(aq _ _ _).mp h2
   generalize hroom:(0:Int)+(i:Nat)=room
   have aL:0<=room:=by lia
   have dB:room<n:=by lia
   walk_at "rd"
   refine⟨by lia,fun pr eX=>⟨by lia,by lia,?_⟩⟩
   have jl:H pr=none:=s2.free eX
   have sA:=s2.newT eX (o:=.lst [])
   have hwA:=dy.mono (Same.new eX (o:=.lst []))
   have hrA:upd H2 pr (.lst []) pr=some (.lst (([]:α2).map V.int)):=Ab
   have aw:pw≠pr:=by
    obtain⟨ts,e,_⟩:=dy
    exact AB e eX
   generalize upd H2 pr (.lst [])=HA at sA hwA hrA ⊢
   obtain⟨Pr,gM⟩:∃Pv:Nat->St->Hp->Prop,∀j aA H3,Pv j aA H3↔(∃(row:α2) (o3 o4 o5:Option V),Same H H3/\D0 K H3 pw ae/\H3 pr=some (.lst (row.map V.int))/\row.length=j/\(∀x∈row,0<=x/\x<(n:Int))/\aA=[some (.ref a),some (.int L),some (.int n),some (.int dW),some (.ref pw),some (.int room),some (.ref pr),o3,o4,o5]):=⟨_,fun _ _ _=>qk_⟩
   refine forR Pr ((gM _ _ _).mpr ⟨[],o3,o4,o5,sA,hwA,hrA,rfl,(fun m hm=>by cases hm),rfl⟩) (fun j aA H3 hj h3=>?_) (fun aA H3 h3=>?_)
   ·obtain⟨row,o3,o4,o5,s3,cT,c9,cZ,bT,rfl⟩:=(gM _ _ _).mp h3
    generalize hlet:(0:Int)+(j:Nat)=letter
    walk_at "rd"
    have cY:0<=room*L:=zo_ aL s!""
    have jJ:room*L<=40*6:=Int.mul_le_mul s!"" s!"" s!"" s!""
    refine⟨.inl ⟨by lia,by lia⟩,?_⟩
    generalize hkk:6+room*L+letter=kk
    refine⟨dW,kk,n,rfl,by lia,by lia,by lia,fun g0 hg00 hg01=>?_⟩
    obtain⟨R,hR⟩:∃R:St->Hp->Prop,∀bu H4,R bu H4↔(H4=H3/\∃g:Int,0<=g/\g<(n:Int)/\bu=[some (.ref a),some (.int L),some (.int n),some (.int dW),some (.ref pw),some (.int room),some (.ref pr),some (.int letter),some (.int kk),some (.int g)]):=⟨_,fun _ _=>qk_⟩
    refine⟨R,?_,fun bu H4 h4=>⟨R,?_,fun gD H5 h5=>⟨R,?_,fun cO H6 h6=>⟨R,?_,fun cJ H7 h7=>?_⟩⟩⟩⟩
    ·walk_at "rd"
     refine⟨_,.inl (s3.seq hs),?_⟩
     rw[ja_]
     refine ite2 (fun au=>?_) (fun _=>(hR _ _).mpr ⟨rfl,g0,hg00,hg01,rfl⟩)
     have dn:kk.toNat<ns.length:=by lia
     refine⟨_,s3.seq hs,_,Bx s!"" (v:=ns[kk.toNat]) (by simp[dn]),?_⟩
     walk_at "rd"
     exact⟨by lia,(hR _ _).mpr ⟨rfl,_,j6_ _ s!"",jZ_ _ s!"",rfl⟩⟩
    ·obtain⟨rfl,g,lU,lV,rfl⟩:=(hR _ _).mp h4
     walk_at "rd"
     exact⟨by decide,ite2 (fun _=>⟨⟨by decide,by decide⟩,by lia,ite2 (fun _=>⟨by lia,(hR _ _).mpr ⟨rfl,_,j6_ _ s!"",jZ_ _ s!"",rfl⟩⟩) (fun _=>h4)⟩) (fun _=>h4)⟩
    ·obtain⟨rfl,g,lU,lV,rfl⟩:=(hR _ _).mp h5
     walk_at "rd"
     exact⟨by decide,ite2 (fun _=>(hR _ _).mpr ⟨rfl,room,aL,dB,rfl⟩) (fun _=>h5)⟩
    ·obtain⟨rfl,g,lU,lV,rfl⟩:=(hR _ _).mp h6
     walk_at "rd"
     exact⟨by decide,ite2 (fun _=>⟨⟨by decide,by decide⟩,by lia,ite2 (fun _=>(hR _ _).mpr ⟨rfl,_,by split<;>lia,by split<;>lia,rfl⟩) (fun _=>h6)⟩) (fun _=>h6)⟩
    ·obtain⟨rfl,g,lU,lV,rfl⟩:=(hR _ _).mp h7
     walk_at "rd"
     refine⟨.inl ⟨rfl,_,SqL.of c9⟩,_,c9,by rw[ja_];lia,(gM _ _ _).mpr ⟨row++[g],_,_,_,s3.over jl,cT.off c9 aw,by rw[Ab];simp,by simp[cZ],fun x hx=>?_,rfl⟩⟩
     rcases jA_.mp hx with hx|hx
     ·exact bT x hx
     ·rw[jq_.mp hx];exact⟨lU,lV⟩
   ·obtain⟨row,o3,o4,o5,s3,cT,c9,cZ,bT,rfl⟩:=(gM _ _ _).mp h3
    walk_at "rd"
    obtain⟨ts,e0,_⟩:=id cT
    refine⟨.inl ⟨rfl,_,SqL.of e0⟩,_,.inl ⟨SqL.of c9,fun t ht=>?_⟩⟩
    obtain⟨xs,e1,e2,cF⟩:=(cT.mono (Same.new ht (o:=.tup (row.map V.int)))).push (w:=row) (SqT.of Ab)
    refine⟨xs,e1,by lia,(aq _ _ _).mpr ⟨ae++[row],_,_,_,_,_,(s3.newT ht).over a9,cF,by simp[ak],fun r hr=>?_,rfl⟩⟩
    rcases jA_.mp hr with hr|hr
    ·exact bG r hr
    ·rw[jq_.mp hr];exact⟨by lia,bT⟩
  ·obtain⟨ae,o1,o2,o3,o4,o5,s2,dy,ak,bG,rfl⟩:=(aq _ _ _).mp h2
   walk_at "rd"
   obtain⟨xs,e1,bP⟩:=dy.rows
   refine⟨_,.inl ⟨SqL.of e1,fun t ht=>?_⟩⟩
   exact k t ae _ (s2.newT ht) (bP t ht) ak bG
noncomputable def Db_ (L:Int)(m1:α2)(w1:α1)(m2:α2)(w2:α1):Prop:=∀w,isW L w=true->mkR m1 (AM w1 w)=mkR m2 (AM w2 w)
noncomputable def P9 (K:α3):Sp:=fun vs H Q _=>∃(h:Addr) (L:Int) (aa:α2) (ae:α1) (num:Int) (n:Nat),vs=[.ref h,.int num,.int n]/\BU K H h L aa ae/\Wf L aa ae/\n<=40/\∀h' ar aC H',Same H H'->BU K H' h' L ar aC->Wf L ar aC->ar.length=max aa.length n->Q (.ref h') H'
theorem Qa   (F:Fun K "_law_blown" "_law_blown" Cf f fd)(T:Txt mg)
   (AH:FnOk P w K mg base CX0 1 AN AW ["number","k","many"] (Ho)) (Ay:Fun K "_law_mixed" "_law_mixed" Bk AN AW) (AI:A7 K AW ["number","k","many"] []) (AJ:mg "_law_mixed"=some (.ref AN))
  : FnOk P w K mg base CX0 2 f fd ["house","number","rooms"] (P9 K):=by
 refine F.ok Bq (fun vs H Q E h=>?_) (fun ay A outer s H vs Q E hr h=>?_)
 ·obtain⟨h,L,aa,ae,num,n,rfl,_⟩:=h;rfl
 ·obtain⟨h,L,aa,ae,num,n,rfl,hh,wf,aN,k⟩:=h
  have hl:=AE
  have cB:=wf.l1
  have cC:=wf.l6
  have hU:=wf.n1
  have hs40:=wf.n40
  refine⟨_,(Ad (Aj (i:=3) Bq.nd (As (lenD Ak) (by rfl) T.len jI_ (Aa (Ah (ixTD Ao) (pvD 0) Ac) Ae)))
   (Ad (Cd (i:=4) Bq.nd rfl (Or.inr rfl) (VP rfl rfl T.list rfl T.range (pvD 3)))
   (Ad (Hb jJ_ (ptT (Aw (opD0 LB) (As (lenD Ak) (by rfl) T.len jI_ (Aa (pvD 4) Ae)) (pvD 2) (AV _)))
   (Ag (BS (FA jE_ jM_ jN_ Bi (pvD 4) (Aa (Al AH (hr.mono (by decide)) rfl AJ Ay.kp AI .nil A3 (Aa (pvD 1) (Aa (As (lenD Ak) (by rfl) T.len jI_ (Aa (pvD 4) Ae)) (Aa (pvD 3) Ae)))) Ae)))))
   (Ad (Aj (i:=5) Bq.nd (Cu Ae))
   (Ad (Ci jJ_ rfl (Bh rfl T.range (Aa (As (lenD Ak) (by rfl) T.len jI_ (Aa (pvD 4) Ae)) Ae)) (Au (i:=6) Bq.nd rfl (Or.inl rfl))
   (Ad (Aj (i:=7) Bq.nd (Cu Ae))
   (Ad (Ci jJ_ rfl (Bh rfl T.range (Aa (Ah (ixTD Ao) (pvD 0) Ac) Ae)) (Au (i:=8) Bq.nd rfl (Or.inl rfl))
   (Ad (Cd (i:=9) Bq.nd rfl (Or.inr rfl) (Ah (ixTD Ao) (Ah (ixTD Ao) (Ah (ixTD Ao) (pvD 0) Ac) (Ah (ixLD Bn) (pvD 4) (pvD 6))) (pvD 8)))
   (Ad (Ia (i:=10) Bq.nd rfl rfl rfl (B4 rfl) (cp:=HV) ⟨⟨rfl,rfl⟩,⟨⟨rfl,rfl⟩,True.intro⟩⟩ (Bh rfl T.range (Aa (As (lenD Ak) (by rfl) T.len jI_ (Aa (pvD 4) Ae)) Ae)) (fun _ _ _ _=>(Au (i:=0) JC rfl (Or.inl rfl))) (fun _ _ _ _=>(AW_ (ptT (Aw (opE Dx) (Ah (ixLD (Cv (K:=K) rfl)) (pvD 2) (pvD 0)) (pvD 1) (AV _))))) (fun _ _ _ _=>(pvD 0)))
   (Ag (BS (FA jE_ jM_ jN_ Bi (pvD 7) (Aa (Ah (ixLD Bn) (pvD 10) (Al AH (hr.mono (by decide)) rfl AJ Ay.kp AI .nil A3 (Aa (An (opD0 Bm) (pvD 1) Ac) (Aa (An (opD0 Bm) (An (opD IG) (pvD 6) (Ah (ixTD Ao) (pvD 0) Ac)) (pvD 8)) (Aa (As (lenD Ak) (by rfl) T.len jI_ (Aa (pvD 10) Ae)) Ae))))) Ae)))))))
   (Ag (BS (FA jE_ jM_ jN_ Bi (pvD 5) (Aa (AO AG rfl T.tuple jz_ (Aa (pvD 7) Ae)) Ae)))))))
   (Ag (AR (Dj (Aa (Ah (ixTD Ao) (pvD 0) Ac) (Aa (AO AG rfl T.tuple jz_ (Aa (B3 rfl (B4 rfl) (cp:=HW) ⟨⟨rfl,rfl⟩,True.intro⟩ (B2 (pvD 4)) (fun _ _ _ _=>(Au (i:=0) JD rfl (Or.inl rfl))) (fun _ _ _ _=>Ce) (fun _ _ _ _=>(Ah (ixTD (Dz (K:=K) rfl)) (Ah (ixTD (Dz (K:=K) rfl)) (pvD 1) Ac) (pvD 0)))) Ae)) (Aa (AO AG rfl T.tuple jz_ (Aa (pvD 5) Ae)) Ae))))))))))),?_⟩
  walk_at "rd"
  obtain⟨tm,tw,q1,q2,q3⟩:=id hh
  refine⟨_,q1,_,rfl,?_⟩
  walk_at "rd"
  refine⟨_,.inr q2,?_⟩
  rw[ja_]
  refine⟨by lia,by lia,fun pf fH=>?_⟩
  rw[ji_]
  obtain⟨Pw,bQ⟩:∃Pv:Nat->St->Hp->Prop,∀m aj H2,Pv m aj H2↔(∃aF:α2,m=41-aF.length/\Same H H2/\H2 pf=some (.lst (aF.map V.int))/\aa.length<=aF.length/\aF.length<=40/\aF.length<=max aa.length n/\(∀x∈aF,0<=x/\x<(aa.length:Int))/\(∀g:Nat,g<aa.length->aF[g]?=some (g:Int))/\aj=[some (.ref h),some (.int num),some (.int n),some (.int aa.length),some (.ref pf),none,none,none,none,none,none]):=⟨_,fun _ _ _=>qk_⟩
  refine Ov Pw ⟨_,(bQ _ _ _).mpr ⟨ups aa.length,rfl,Same.new fH,by rw[Ab],by simp[ups],by simp[ups];lia,by simp[ups];lia,fun x hx=>?_,fun g hg=>?_,rfl⟩⟩ ?_
  ·obtain⟨i,hi,rfl⟩:=jv_.mp hx
   have:=jP_.mp hi
   lia
  ·unfold ups
   rw[jd_,qB_ hg];rfl
  intro m aj H2 a9
  obtain⟨aF,rfl,s2,jm,jQ,hf40,hfm,iU,hfg,rfl⟩:=(bQ _ _ _).mp a9
  walk_at "rd"
  refine⟨_,.inl (SqL.of jm),?_⟩
  rw[ja_]
  refine ite2 (fun au=>?_) (fun bj=>?_)
  ·refine⟨Pw (41-(aF.length+1)),fun ag H' h=>⟨_,by lia,h⟩,?_⟩
   refine⟨.inl ⟨rfl,_,SqL.of jm⟩,_,.inl (SqL.of jm),?_⟩
   rw[ja_]
   refine⟨num,_,aa.length,rfl,by lia,by lia,by lia,fun x cI bN=>?_⟩
   walk_at "rd"
   refine⟨_,jm,by rw[ja_];lia,(bQ _ _ _).mpr ⟨aF++[x],by simp,s2.over fH,by rw[Ab];simp,by simp;lia,by simp;lia,by simp;lia,fun y hy=>?_,fun g hg=>?_,rfl⟩⟩
   ·rcases jA_.mp hy with hy|hy
    ·exact iU y hy
    ·rw[jq_.mp hy];exact⟨cI,bN⟩
   ·rw[jj_ s!""];exact hfg g hg
  ·clear a9 bQ Pw
   refine⟨by lia,fun pw a9=>⟨_,.inl (SqL.of (Same.new a9 _ _ jm)),?_⟩⟩
   rw[ja_]
   refine⟨by lia,by lia,?_⟩
   rw[ji_]
   have hpwn:H pw=none:=s2.free a9
   have hnefw:pf≠pw:=AB jm a9
   have sB:=s2.newT a9 (o:=.lst [])
   have hfB:=Same.new a9 (o:=.lst []) _ _ jm
   have hwB:upd H2 pw (.lst []) pw=some (.lst []):=Ab
   generalize upd H2 pw (.lst [])=HB at sB hfB hwB ⊢
   obtain⟨Pv,aq⟩:∃Pv:Nat->St->Hp->Prop,∀i aA H3,Pv i aA H3↔(∃(ws:α1) (o6 o7 o8 o9 jo:Option V),Same H H3/\H3 pf=some (.lst (aF.map V.int))/\D0 K H3 pw ws/\ws.length=i/\(∀row∈ws,(row.length:Int)=L/\∀x∈row,0<=x/\x<(aF.length:Int))/\aA=[some (.ref h),some (.int num),some (.int n),some (.int aa.length),some (.ref pf),some (.ref pw),o6,o7,o8,o9,jo]):=⟨_,fun _ _ _=>qk_⟩
   refine forR Pv ((aq _ _ _).mpr ⟨[],none,none,none,none,none,sB,hfB,D0.nil hwB,rfl,(fun r hr=>by cases hr),rfl⟩) (fun i aA H3 hi h3=>?_) (fun aA H3 h3=>?_)
   ·obtain⟨ws,o6,o7,o8,o9,jo,s3,lj,cT,cK,eT,rfl⟩:=(aq _ _ _).mp h3
    generalize hroom:(0:Int)+(i:Nat)=room
    have aL:0<=room:=by lia
    have dB:room<aF.length:=by lia
    walk_at "rd"
    refine⟨by lia,fun pr eX=>⟨_,(s3.newT eX).seqT q1,_,rfl,?_⟩⟩
    walk_at "rd"
    refine⟨by lia,by lia,?_⟩
    have jl:H pr=none:=s3.free eX
    have cQ:pw≠pr:=by
     obtain⟨ts,e,_⟩:=id cT
     exact AB e eX
    have hnef:pf≠pr:=AB lj eX
    have sC:=s3.newT eX (o:=.lst [])
    have hfC:=Same.new eX (o:=.lst []) _ _ lj
    have hwC:=cT.mono (Same.new eX (o:=.lst []))
    have hrC:upd H3 pr (.lst []) pr=some (.lst (([]:α2).map V.int)):=Ab
    generalize upd H3 pr (.lst [])=HC at sC hfC hwC hrC ⊢
    obtain⟨Pr,gM⟩:∃Pv:Nat->St->Hp->Prop,∀j bu H4,Pv j bu H4↔(∃(row:α2) (o8 o9 jo:Option V),Same H H4/\H4 pf=some (.lst (aF.map V.int))/\D0 K H4 pw ws/\H4 pr=some (.lst (row.map V.int))/\row.length=j/\(∀x∈row,0<=x/\x<(aF.length:Int))/\bu=[some (.ref h),some (.int num),some (.int n),some (.int aa.length),some (.ref pf),some (.ref pw),some (.int room),some (.ref pr),o8,o9,jo]):=⟨_,fun _ _ _=>qk_⟩
    refine forR Pr ((gM _ _ _).mpr ⟨[],_,_,_,sC,hfC,hwC,hrC,rfl,(fun r hr=>by cases hr),rfl⟩) (fun j bu H4 hj h4=>?_) (fun bu H4 h4=>?_)
    ·obtain⟨row,o8,o9,jo,s4,dh,cF,ll,cZ,bT,rfl⟩:=(gM _ _ _).mp h4
     generalize hlet:(0:Int)+(j:Nat)=letter
     obtain⟨fr,hfr1⟩:∃fr,aF[room.toNat]?=some fr:=⟨aF[room.toNat]'s!"",by simp[show room.toNat<aF.length by lia]⟩
     have jq:=iU fr (jc_ hfr1)
     obtain⟨row0,g,r1,r2,r3,r4,r5⟩:=wf.step (x:=letter) jq.1 jq.2 s!"" s!""
     obtain⟨xs,t,z1,z2,z3⟩:=q3.atZ jq.1 r1
     walk_at "rd"
     refine⟨_,s4.seqT q1,_,rfl,?_⟩
     walk_at "rd"
     refine⟨_,SqL.of dh,_,Bx aL hfr1,?_⟩
     walk_at "rd"
     refine⟨_,s4.seqT z1,_,z2,?_⟩
     walk_at "rd"
     refine⟨_,s4.seqT z3,_,Bx s!"" r2,?_⟩
     walk_at "rd"
     refine⟨_,.inl (SqL.of dh),?_⟩
     rw[ja_]
     refine⟨by lia,by lia,?_⟩
     rw[ji_]
     obtain⟨Pc,cM⟩:∃Pc:Nat->List V->St->Hp->Prop,∀c ys gD H5,Pc c ys gD H5↔(H5=H4/\∃(aI:α2) (o:Option V),ys=aI.map V.int/\aI.length<=c/\(∀x∈aI,0<=x/\x<(aF.length:Int))/\(g.toNat<c->aI ≠ [])/\gD=[o,some (.int g),some (.ref pf)]):=⟨_,fun _ _ _ _=>qk_⟩
     refine Ra Pc ((cM _ _ _ _).mpr ⟨rfl,[],none,rfl,jg_ _,(fun x hx=>by cases hx),(fun z=>absurd z (xi_ _)),rfl⟩) s!"" (fun c ys gD H5 _ h5=>?_) (fun c ys gD H5 hc h5=>?_) (fun ys gD H5 h5 D hD=>?_)
     ·obtain⟨_,aI,o,rfl,ak,_⟩:=(cM _ _ _ _).mp h5
      rw[ja_];exact ak
     ·obtain⟨rfl,aI,o,rfl,ak,aX,kI,rfl⟩:=(cM _ _ _ _).mp h5
      obtain⟨fv,hfv⟩:∃fv,aF[c]?=some fv:=⟨aF[c]'hc,by simp[hc]⟩
      have ec:(0:Int)+(c:Nat)=(c:Int):=by lia
      rw[ec]
      walk_at "rd"
      refine⟨_,SqL.of dh,_,Bx s!"" (by rw[ji_];exact hfv),?_⟩
      walk_at "rd"
      refine ite2 (fun he=>?_) (fun aw=>?_)
      ·refine (cM _ _ _ _).mpr ⟨rfl,aI++[(c:Int)],_,by simp,by simp;lia,fun x hx=>?_,(fun _ z=>by simp at z),rfl⟩
       rcases jA_.mp hx with hx|hx
       ·exact aX x hx
       ·rw[jq_.mp hx];lia
      ·refine (cM _ _ _ _).mpr ⟨rfl,aI,_,rfl,by lia,aX,fun hlt'=>?_,rfl⟩
       by_cases hgc:g.toNat=c
       ·exfalso
        have:=hfg c s!""
        rw[hfv]at this
        have e2:=jp_ this
        apply aw
        lia
       ·exact kI s!""
     ·obtain⟨rfl,aI,o,rfl,ak,aX,kI,rfl⟩:=(cM _ _ _ _).mp h5
      have aw:aI ≠ []:=kI s!""
      have iQ:0<aI.length:=zI_.mpr aw
      have sD:=Same.new hD (o:=.lst (aI.map V.int))
      have hmul0:0<=room*L:=zo_ aL s!""
      have hmul1:room*L<=40*6:=Int.mul_le_mul s!"" s!"" s!"" s!""
      refine⟨.inl ⟨rfl,_,SqL.of (sD _ _ ll)⟩,_,(s4.trans sD).seqT q1,_,rfl,L,rfl,.inl ⟨by lia,by lia⟩,D,rfl,_,.inl (SqL.of Ab),?_⟩
      rw[ja_]
      refine⟨_,_,_,rfl,by lia,by lia,by lia,fun x cI bN=>?_⟩
      have f7:x.toNat<aI.length:=by lia
      refine⟨D,rfl,_,x,rfl,SqL.of Ab,_,Bx cI (v:=aI[x.toNat]) (by simp[f7]),_,sD _ _ ll,by rw[ja_];lia,(gM _ _ _).mpr ⟨row++[aI[x.toNat]],_,_,_,(s4.trans sD).over jl,?_,(cF.mono sD).off (sD _ _ ll) cQ,by rw[Ab];simp,by simp[cZ],fun y hy=>?_,rfl⟩⟩
      ·rw[Ai hnef];exact sD _ _ dh
      ·rcases jA_.mp hy with hy|hy
       ·exact bT y hy
       ·rw[jq_.mp hy];exact aX _ (j2_ f7)
    ·obtain⟨row,o8,o9,jo,s4,dh,cF,ll,cZ,bT,rfl⟩:=(gM _ _ _).mp h4
     walk_at "rd"
     obtain⟨ts,e0,_⟩:=id cF
     refine⟨.inl ⟨rfl,_,SqL.of e0⟩,_,.inl ⟨SqL.of ll,fun t ht=>?_⟩⟩
     obtain⟨xs,e1,e2,eO⟩:=(cF.mono (Same.new ht (o:=.tup (row.map V.int)))).push (w:=row) (SqT.of Ab)
     refine⟨xs,e1,by lia,(aq _ _ _).mpr ⟨ws++[row],_,_,_,_,_,(s4.newT ht).over hpwn,?_,eO,by simp[cK],fun r hr=>?_,rfl⟩⟩
     ·rw[Ai hnefw];exact Same.new ht _ _ dh
     ·rcases jA_.mp hr with hr|hr
      ·exact eT r hr
      ·rw[jq_.mp hr];exact⟨by lia,bT⟩
   ·obtain⟨ws,o6,o7,o8,o9,jo,s3,lj,cT,cK,eT,rfl⟩:=(aq _ _ _).mp h3
    walk_at "rd"
    refine⟨_,s3.seqT q1,_,rfl,⟨_,SqL.of lj⟩,Ln (ag:=[some (.ref h)]) (fun x=>match x with | .int n=>.int (mkW aa n)|_=>.non) rfl (SqL.of lj) (by rw[ja_];lia) (fun x hx R hR=>?_) (fun Dm hDm=>?_)⟩
    ·obtain⟨y,hy,rfl⟩:=EI hx
     have bM:=iU y hy
     walk_at "rd"
     refine⟨_,s3.seqT q1,_,rfl,?_⟩
     walk_at "rd"
     exact⟨_,s3.seqT q2,_,X4 bM.1 bM.2,hR⟩
    have em:(aF.map V.int).map (fun x=>match x with | .int n=>.int (mkW aa n)|_=>.non)=(aF.map (mkW aa)).map V.int:=by rw[jW_,jW_];rfl
    rw[em]
    refine⟨Dm,rfl,_,.inl ⟨SqL.of Ab,fun t1 lT=>?_⟩⟩
    obtain⟨xs,bN,bP⟩:=(cT.mono ((Same.new hDm (o:=.lst ((aF.map (mkW aa)).map V.int))).newT lT (o:=.tup ((aF.map (mkW aa)).map V.int)))).rows
    refine⟨xs,.inl ⟨SqL.of bN,fun t2 nZ=>⟨by lia,fun h9 n0=>?_⟩⟩⟩
    refine k h9 (aF.map (mkW aa)) ws _ ((((s3.newT hDm).newT lT).newT nZ).newT n0) ⟨t1,t2,SqT.of Ab,((Same.new nZ).newT n0).seqT (SqT.of Ab),(bP t2 nZ).mono (Same.new n0)⟩ ⟨cB,cC,by rw[ja_];lia,by rw[ja_];lia,by rw[ja_];lia,fun row hr=>by rw[ja_];exact eT row hr,fun m hm=>?_⟩ (by rw[ja_];lia)
    obtain⟨y,hy,rfl⟩:=jv_.mp hm
    have bM:=iU y hy
    exact wf.mks _ (Em_ bM.1 bM.2)
noncomputable def OQ (K:α3):Sp:=fun vs H Q _=>∃(a:Addr) (ns:α2),vs=[.ref a]/\SqL K H a (ns.map V.int)/\∀h L aa ae H',Same H H'->BU K H' h L aa ae->Wf L aa ae->aa.length<=15->Q (.ref h) H'
theorem Kz   (F:Fun K "_law_house_by" "_law_house_by" Bz f fd)(T:Txt mg)
   (Ap:FnOk P w K mg base CX0 1 Av AK ["script","k"] (JT K)) (Am:Fun K "_law_cell_at" "_law_cell_at" A6 Av AK) (Aq:A7 K AK ["script","k"] []) (Ar:mg "_law_cell_at"=some (.ref Av))
   (Es:FnOk P w K mg base CX0 2 B8 F6 ["number","rooms"] (OP K)) (CJ:Fun K "_law_marks_by" "_law_marks_by" By B8 F6) (Et:A7 K F6 ["number","rooms"] []) (Eu:mg "_law_marks_by"=some (.ref B8))
   (ES:FnOk P w K mg base CX0 2 Ck GQ ["script","letters","rooms"] (RP K)) (C2:Fun K "_law_ways_by" "_law_ways_by" BV Ck GQ) (ET:A7 K GQ ["script","letters","rooms"] []) (EU:mg "_law_ways_by"=some (.ref Ck))
   (Dt:FnOk P w K mg base CX0 2 BP DD ["house","number","rooms"] (P9 K)) (Cg:Fun K "_law_blown" "_law_blown" Cf BP DD) (Du:A7 K DD ["house","number","rooms"] []) (Dv:mg "_law_blown"=some (.ref BP))
  : FnOk P w K mg base CX0 3 f fd ["script"] (OQ K):=by
 refine F.ok Ba (fun vs H Q E h=>?_) (fun ay A outer s H vs Q E hr h=>?_)
 ·obtain⟨a,ns,rfl,_⟩:=h;rfl
 ·obtain⟨a,ns,rfl,hs,k⟩:=h
  have hl:=AE
  refine⟨_,(Ad (Aj (i:=1) Ba.nd (An (opD0 Bm) Ac (An (opD A5) (An (opD0 Bm) (Al Ap (hr.mono (by decide)) rfl Ar Am.kp Aq .nil A3 (Aa (pvD 0) (Aa Ac Ae))) Ac) Ac)))
   (Ad (Aj (i:=2) Ba.nd (An (opD0 Bm) Ac (An (opD A5) (An (opD0 Bm) (Al Ap (hr.mono (by decide)) rfl Ar Am.kp Aq .nil A3 (Aa (pvD 0) (Aa Ac Ae))) Ac) Ac)))
   (C0 (Cy (PW.pt (J7 (ptT (Aw (opE Dx) (An (opD A5) (An (opD CB) (Al Ap (hr.mono (by decide)) rfl Ar Am.kp Aq .nil A3 (Aa (pvD 0) (Aa Ac Ae))) Ac) Ac) Ac (AV _))) (Gj (ptT (Aw (opD0 LB) (pvD 1) Ac (AV _))))))
   (Ag (Aj (i:=2) Ba.nd (An (opD0 Bm) Ac (An (opD A5) (An (opD CB) (Al Ap (hr.mono (by decide)) rfl Ar Am.kp Aq .nil A3 (Aa (pvD 0) (Aa Ac Ae))) Ac) Ac))))
   AX)
   (Ad (Aj (i:=3) Ba.nd (Al Es (hr.mono (by decide)) rfl Eu CJ.kp Et .nil A3 (Aa (Al Ap (hr.mono (by decide)) rfl Ar Am.kp Aq .nil A3 (Aa (pvD 0) (Aa Ac Ae))) (Aa (pvD 2) Ae))))
   (Ad (Aj (i:=4) Ba.nd (Dj (Aa (pvD 1) (Aa (pvD 3) (Aa (Al ES (hr.mono (by decide)) rfl EU C2.kp ET .nil A3 (Aa (pvD 0) (Aa (pvD 1) (Aa (pvD 2) Ae)))) Ae)))))
   (Ad (Aj (i:=5) Ba.nd (Al Ap (hr.mono (by decide)) rfl Ar Am.kp Aq .nil A3 (Aa (pvD 0) (Aa Ac Ae))))
   (C0 (Cy (ptT (Aw (opE Dx) (An (opD A5) (pvD 5) Ac) Ac (AV _)))
   (Ag (Aj (i:=4) Ba.nd (Al Dt (hr.mono (by decide)) rfl Dv Cg.kp Du .nil A3 (Aa (pvD 4) (Aa (pvD 5) (Aa (An (opD0 Bm) (An (opD0 Bm) (pvD 2) Ac) (An (opD A5) (An (opD CB) (pvD 5) Ac) Ac)) Ae))))))
   AX)
   (Ag (AR (pvD 4)))))))))),?_⟩
  walk_at "rd"
  refine⟨a,ns,0,rfl,hs,?_⟩
  walk_at "rd"
  refine⟨by decide,a,ns,1,rfl,hs,?_⟩
  walk_at "rd"
  have cB:1<=1+(cell ns 0+1)%6:=by lia
  have cC:1+(cell ns 0+1)%6<=6:=by lia
  generalize 1+(cell ns 0+1)%6=L at cB cC ⊢
  obtain⟨R,hR⟩:∃R:St->Hp->Prop,∀ag H',R ag H'↔(H'=H/\∃n:Nat,1<=n/\n<=12/\ag=[some (.ref a),some (.int L),some (.int n),none,none,none]):=⟨_,fun _ _=>qk_⟩
  refine⟨by decide,R,?_,?_⟩
  ·walk_at "rd"
   refine⟨a,ns,1,rfl,hs,?_⟩
   walk_at "rd"
   refine⟨⟨by decide,by decide⟩,by decide,?_⟩
   have hb:R [some (V.ref a),some (V.int L),some (V.int (1+(cell ns 1+3)%5)),none,none,none] H:=(hR _ _).mpr ⟨rfl,(1+(cell ns 1+3)%5).toNat,by lia,by lia,by rw[show (((1+(cell ns 1+3)%5).toNat:Nat):Int)=1+(cell ns 1+3)%5 by lia]⟩
   refine ite2 (fun _=>ite2 (fun _=>?_) (fun _=>hb)) (fun _=>hb)
   refine⟨a,ns,1,rfl,hs,_,rfl,⟨by decide,by decide⟩,by decide,(hR _ _).mpr ⟨rfl,(1+cell ns 1 / 80%12).toNat,by lia,by lia,?_⟩⟩
   rw[show (((1+cell ns 1 / 80%12).toNat:Nat):Int)=1+cell ns 1 / 80%12 by lia]
  ·intro ag H' h'
   obtain⟨rfl,n,b7,hn12,rfl⟩:=(hR _ _).mp h'
   have aN:n<=40:=by lia
   walk_at "rd"
   refine⟨a,ns,2,rfl,hs,?_⟩
   walk_at "rd"
   refine⟨_,n,rfl,b7,aN,fun tm aa H1 s1 gF gu hmr=>?_⟩
   walk_at "rd"
   refine⟨a,ns,L,n,rfl,s1.seq hs,cB,cC,b7,aN,fun tw ae H2 s2 bP cK eT=>?_⟩
   walk_at "rd"
   refine⟨by lia,fun h hh=>?_⟩
   have wf:Wf L aa ae:=⟨cB,cC,by lia,by lia,by lia,fun row hr=>by rw[gu];exact eT row hr,hmr⟩
   have eV:=(s1.trans s2).newT hh (o:=.tup [V.int L,V.ref tm,V.ref tw])
   have jr:BU K (upd H2 h (.tup [V.int L,V.ref tm,V.ref tw])) h L aa ae:=⟨tm,tw,SqT.of Ab,(s2.newT hh).seqT gF,bP.mono (Same.new hh)⟩
   generalize upd H2 h (.tup [V.int L,V.ref tm,V.ref tw])=H3 at eV jr ⊢
   refine⟨a,ns,4,rfl,eV.seq hs,?_⟩
   walk_at "rd"
   obtain⟨R2,n5⟩:∃R:St->Hp->Prop,∀bu H4,R bu H4↔(∃(h:Addr) (aa:α2) (ae:α1) (o1 o2 o3:Option V),Same H' H4/\BU K H4 h L aa ae/\Wf L aa ae/\aa.length<=15/\bu=[some (.ref a),some (.int L),o1,o2,some (.ref h),o3]):=⟨_,fun _ _=>qk_⟩
   refine⟨R2,?_,?_⟩
   ·walk_at "rd"
    refine⟨by decide,ite2 (fun _=>⟨⟨by decide,by decide⟩,by decide,?_⟩) (fun _=>(n5 _ _).mpr ⟨h,aa,ae,_,_,_,eV,jr,wf,by lia,rfl⟩)⟩
    have cI:=j6_ (cell ns 4 / 3) (show (3:Int)≠0 by decide)
    have bN:=jZ_ (cell ns 4 / 3) (show (0:Int)<3 by decide)
    obtain⟨m,hm,hm40⟩:∃m:Nat,(n:Int)+1+cell ns 4 / 3%3=(m:Int)/\m<=15:=⟨((n:Int)+1+cell ns 4 / 3%3).toNat,by lia,by lia⟩
    rw[hm]
    refine⟨h,L,aa,ae,_,m,rfl,jr,wf,by lia,fun h' ar aC H4 s4 nq f9 hml'=>?_⟩
    exact (n5 _ _).mpr ⟨h',ar,aC,_,_,_,eV.trans s4,nq,f9,by rw[hml'];lia,rfl⟩
   ·intro bu H4 h4
    obtain⟨h,aa,ae,o1,o2,o3,s4,jZ,n6,js,rfl⟩:=(n5 _ _).mp h4
    walk_at "rd"
    exact k h L aa ae H4 s4 jZ n6 js
noncomputable def Mo (K:α3):Sp:=fun vs H Q _=>∃(h:Addr) (L:Int) (aa:α2) (ae:α1) (num:Int),vs=[.ref h,.int num]/\BU K H h L aa ae/\Wf L aa ae/\∀h' ar aC H',Same H H'->BU K H' h' L ar aC->Wf L ar aC->ar.length=aa.length->Q (.ref h') H'
theorem JU   (F:Fun K "_law_turned_by" "_law_turned_by" Bo f fd)(T:Txt mg)
  : FnOk P w K mg base CX0 1 f fd ["house","number"] (Mo K):=by
 refine F.ok Bv (fun vs H Q E h=>?_) (fun ay A outer s H vs Q E hr h=>?_)
 ·obtain⟨h,L,aa,ae,num,rfl,_⟩:=h;rfl
 ·obtain⟨h,L,aa,ae,num,rfl,hh,wf,k⟩:=h
  have hl:=AE
  have b7:=wf.n1
  have aN:=wf.n40
  obtain⟨tm,tw,q1,q2,q3⟩:=id hh
  refine⟨_,(Ad (Cd (i:=2) Bv.nd rfl (Or.inr rfl) (As (lenD Ak) (by rfl) T.len jI_ (Aa (Ah (ixTD Ao) (pvD 0) Ac) Ae)))
   (Ad (Cy (ptT (Aw (opE Dx) (pvD 2) Ac (AV _)))
   (Ag (AR (pvD 0)))
   AX)
   (C0 (Cd (i:=3) Bv.nd rfl (Or.inr rfl) (An DL_ (Cu (Aa Ac Ae)) (B3 rfl (B4 rfl) (cp:=EM) ⟨⟨rfl,rfl⟩,⟨⟨rfl,rfl⟩,True.intro⟩⟩ (Bh rfl T.range (Aa (An (opD0 EH) (pvD 2) Ac) Ae)) (fun _ _ _ _=>(Au (i:=0) GC rfl (Or.inl rfl))) (fun _ _ _ _=>Ce) (fun _ _ _ _=>(An (opD0 Bm) Ac (An (opD A5) (An (opD0 Bm) (pvD 0) (pvD 1)) (An (opD0 EH) (pvD 2) Ac)))))))
   (Ad (Aj (i:=4) Bv.nd (An Xu (Cu (Aa Ac Ae)) (pvD 2)))
   (Ad (Aj (i:=5) Bv.nd (An Xu (Cu (Aa (Dj Ae) Ae)) (pvD 2)))
   (Ad (Ci jJ_ rfl (Bh rfl T.range (Aa (pvD 2) Ae)) (Au (i:=6) Bv.nd rfl (Or.inl rfl))
   (Ad (QT (Ah (ixTD Ao) (Ah (ixTD Ao) (pvD 0) Ac) (pvD 6)) (QS (pvD 4) (Ah (ixLD Bn) (pvD 3) (pvD 6)) set_list))
   (Ag (QT (AO AG rfl T.tuple jz_ (Aa (B3 rfl (B4 rfl) (cp:=EO) ⟨⟨rfl,rfl⟩,True.intro⟩ (Gk (Ah (ixTD Ao) (Ah (ixTD Ao) (pvD 0) Ac) (pvD 6))) (fun _ _ _ _=>(Au (i:=0) GD rfl (Or.inl rfl))) (fun _ _ _ _=>Ce) (fun _ _ _ _=>(Ah (ixLD (Cv (K:=K) rfl)) (pvD 1) (pvD 0)))) Ae)) (QS (pvD 5) (Ah (ixLD Bn) (pvD 3) (pvD 6)) set_list)))))
   (Ag (AR (Dj (Aa (Ah (ixTD Ao) (pvD 0) Ac) (Aa (AO AG rfl T.tuple jz_ (Aa (pvD 4) Ae)) (Aa (AO AG rfl T.tuple jz_ (Aa (pvD 5) Ae)) Ae)))))))))))),?_⟩
  walk_at "rd"
  refine⟨_,q1,_,rfl,?_⟩
  walk_at "rd"
  refine⟨_,.inr q2,?_⟩
  rw[ja_]
  refine ite2 (fun h1=>k h aa ae H (Same.refl _) hh wf rfl) (fun h1=>?_)
  have h2:2<=aa.length:=by lia
  have ho:=Ye h2 num
  have hol:=ho.len
  generalize hspin:Yd aa.length num=o at ho hol
  refine⟨fun ag H'=>Same H H'/\∃a,H' a=some (.lst (o.map V.int))/\ag=[some (.ref h),some (.int num),some (.int aa.length),some (.ref a),none,none,none],?_,fun gV H1 hR=>?_⟩
  ·walk_at "rd"
   refine⟨by lia,fun p hp=>⟨by lia,by lia,?_⟩⟩
   refine Ra (n:=((aa.length:Int)-1).toNat) (fun i ys aj H2=>H2=upd H p (.lst [V.int 0])/\ys=((List.range i).map fun j:Nat=>1+((j:Int)+num)%((aa.length:Int)-1)).map V.int/\∃o,aj=[o,some (.int num),some (.int aa.length)]) ⟨rfl,rfl,none,rfl⟩ s!"" (fun i ys aj H2 _ h=>by rw[h.2.1];simp) (fun i ys aj H2 hi h=>?_) (fun ys aj H2 h=>?_)
   ·obtain⟨rfl,rfl,o,rfl⟩:=h
    walk_at "rd"
    refine⟨by lia,?_⟩
    rw[xS_,show (0:Int)+(i:Nat)=(i:Int) by lia]
    simp
   ·obtain⟨rfl,rfl,o,rfl⟩:=h
    intro D hD
    have n1:p≠D:=fun z=>by rw[<-z,Ab]at hD;cases hD
    refine⟨D,rfl,_,by rw[Ai n1];exact Ab,_,Ab,by simp;lia,fun q hq=>⟨((Same.new hp).newT hD).newT hq,q,?_,rfl⟩⟩
    rw[Ab,<-hspin,show ((aa.length:Int)-1).toNat=aa.length-1 by lia]
    rfl
  obtain⟨s1,a,ha,rfl⟩:=hR
  have jN:SqL K H1 a (o.map V.int):=SqL.of ha
  walk_at "rd"
  rw[ji_]
  refine⟨by lia,fun p hp=>⟨_,Ab,by lia,by lia,by simp;lia,fun p1 bx=>⟨by lia,fun p2 aU=>⟨by lia,fun p3 ez=>⟨_,Ab,by lia,by lia,by simp;lia,fun p4 dP=>?_⟩⟩⟩⟩⟩
  rw[Pk]at aU ez dP ⊢
  rw[Pk]
  have sA:=(((((Same.new (o:=.lst [V.int 0]) hp).newT (o:=.lst (List.replicate aa.length (V.int 0))) bx).newT (o:=.tup []) aU).newT (o:=.lst [V.ref p2]) ez).newT (o:=.lst (List.replicate aa.length (V.ref p2))) dP)
  have n41:p4≠p1:=(A4 (A4 (A4 dP).1).1).2
  have cz:upd (upd (upd (upd (upd H1 p (.lst [V.int 0])) p1 (.lst (List.replicate aa.length (V.int 0)))) p2 (.tup [])) p3 (.lst [V.ref p2])) p4 (.lst (List.replicate aa.length (V.ref p2))) p1=some (.lst ((List.replicate aa.length (0:Int)).map V.int)):=by
   rw[zf_]
   exact Same.new dP _ _ (Same.new ez _ _ (Same.new aU _ _ Ab))
  have iq:D0 K (upd (upd (upd (upd (upd H1 p (.lst [V.int 0])) p1 (.lst (List.replicate aa.length (V.int 0)))) p2 (.tup [])) p3 (.lst [V.ref p2])) p4 (.lst (List.replicate aa.length (V.ref p2)))) p4 (List.replicate aa.length []):=by
   refine⟨List.replicate aa.length p2,by rw[Ab,zf_],by simp,fun i t w e1 e2=>?_⟩
   have e3:t=p2:=List.eq_of_mem_replicate (jc_ e1)
   have e4:w=[]:=List.eq_of_mem_replicate (jc_ e2)
   subst e3 e4
   exact SqT.of (Same.new dP _ _ (Same.new ez _ _ Ab))
  have hp1n:H1 p1=none:=(A4 bx).1
  have hp4n:H1 p4=none:=(A4 (A4 (A4 (A4 dP).1).1).1).1
  generalize upd (upd (upd (upd (upd H1 p (.lst [V.int 0])) p1 (.lst (List.replicate aa.length (V.int 0)))) p2 (.tup [])) p3 (.lst [V.ref p2])) p4 (.lst (List.replicate aa.length (V.ref p2)))=H2 at sA cz iq ⊢
  refine⟨by lia,by lia,?_⟩
  obtain⟨Pn,cL⟩:∃Pn:Nat->St->Hp->Prop,∀i aA H3,Pn i aA H3↔(∃(o5:Option V),Same H1 H3/\H3 p1=some (.lst ((D5 o (fun r=>aa.getD r 0) i (List.replicate aa.length 0)).map V.int))/\D0 K H3 p4 (D5 o (fun r=>(ae.getD r []).map (ordW o)) i (List.replicate aa.length []))/\aA=[some (.ref h),some (.int num),some (.int aa.length),some (.ref a),some (.ref p1),some (.ref p4),o5]):=⟨_,fun _ _ _=>qk_⟩
  refine forR Pn ((cL _ _ _).mpr ⟨none,sA,cz,iq,rfl⟩) (fun i aA HT hi h3=>?_) (fun aA H3 h3=>?_)
  ·obtain⟨o5,sT,hmT,nj,rfl⟩:=(cL _ _ _).mp h3
   have ei:(0:Int)+(i:Nat)=(i:Int):=by lia
   rw[ei]
   have hxa:=ho.at (r:=(i:Int)) s!"" s!""
   rw[ji_]at hxa
   obtain⟨hxi,cI,bN⟩:=hxa
   obtain⟨tm3,tw3,y1,y2,y3⟩:=hh.mono (s1.trans sT)
   have ic:aa[i]?=some (aa.getD i 0):=by rw[jh_,jf_ hi];rfl
   obtain⟨row,hrow,eB,cZ⟩:=wf.row (r:=(i:Int)) s!"" s!""
   rw[ji_]at hrow
   walk_at "rd"
   refine⟨_,y1,_,rfl,_,rfl,_,y2,_,Gm (by rw[jd_,ic];rfl),_,sT.seq jN,_,Gm (by rw[jd_,hxi];rfl),?_⟩
   refine⟨_,_,rfl,hmT,(ordW o i).toNat,U0 cI (by rw[ja_,D9,qq_];exact bN),?_⟩
   have sU:Same H1 (upd HT p1 (.lst (((D5 o (fun r=>aa.getD r 0) i (List.replicate aa.length 0)).map V.int).set (ordW o i).toNat (V.int (aa.getD i 0))))):=sT.over hp1n
   have hmU:upd HT p1 (.lst (((D5 o (fun r=>aa.getD r 0) i (List.replicate aa.length 0)).map V.int).set (ordW o i).toNat (V.int (aa.getD i 0)))) p1=some (.lst ((D5 o (fun r=>aa.getD r 0) (i+1) (List.replicate aa.length 0)).map V.int)):=by
    rw[Ab,D5,List.map_set]
   have hwU:=nj.off (ys:=((D5 o (fun r=>aa.getD r 0) i (List.replicate aa.length 0)).map V.int).set (ordW o i).toNat (V.int (aa.getD i 0))) hmT n41
   generalize upd HT p1 (.lst (((D5 o (fun r=>aa.getD r 0) i (List.replicate aa.length 0)).map V.int).set (ordW o i).toNat (V.int (aa.getD i 0))))=HU at sU hmU hwU ⊢
   obtain⟨tm4,tw4,z1,z2,z3⟩:=hh.mono (s1.trans sU)
   obtain⟨xs4,t4,c1,c2,c3⟩:=z3.at hrow
   refine⟨_,z1,_,rfl,_,rfl,_,c1,_,c2,_,rfl,⟨_,c3⟩,?_⟩
   obtain⟨f,hf⟩:∃f:V->V,∀g:Int,f (V.int g)=.int (ordW o g):=⟨fun v=>match v with | .int g=>.int (ordW o g)|_=>.non,fun _=>rfl⟩
   refine He (xs:=row.map V.int) (ag:=[some (.ref a)]) f rfl c3 (by rw[ja_];have:=wf.l6;lia) (fun v hv R hR=>?_) (fun D hD=>?_)
   ·obtain⟨g,hg,rfl⟩:=jv_.mp hv
    rw[hf]at hR
    have iK:=(wf.rows row eB).2 g hg
    walk_at "rd"
    exact⟨_,sU.seq jN,_,Bx iK.1 (ho.at iK.1 iK.2).1,hR⟩
   ·have em:(row.map V.int).map f=(row.map (ordW o)).map V.int:=by
     rw[jW_,jW_]
     exact qj_ fun g _=>hf g
    rw[em]
    refine⟨D,rfl,_,.inl ⟨SqL.of Ab,fun l eF=>?_⟩⟩
    have sV:=(Same.new (o:=.lst ((row.map (ordW o)).map V.int)) hD).newT (o:=.tup ((row.map (ordW o)).map V.int)) eF
    obtain⟨xs8,e1,e2,fL⟩:=(hwU.mono sV).set (j:=(ordW o i).toNat) (w:=row.map (ordW o)) (SqT.of Ab)
    refine⟨_,(sU.trans sV).seq jN,_,Gm (by rw[jd_,hxi];rfl),xs8,_,rfl,e1,(ordW o i).toNat,U0 cI (by rw[e2,D9,qq_];exact bN),(cL _ _ _).mpr ⟨_,(sU.trans sV).over hp4n,?_,?_,rfl⟩⟩
    ·rw[Ai n41.symm];exact sV _ _ hmU
    ·rw[D5,jh_,hrow];exact fL
  ·obtain⟨o5,s3,lW,cT,rfl⟩:=(cL _ _ _).mp h3
   walk_at "rd"
   obtain⟨tm3,tw3,y1,y2,y3⟩:=hh.mono (s1.trans s3)
   refine⟨_,y1,_,rfl,_,.inl ⟨SqL.of lW,fun l eF=>?_⟩⟩
   obtain⟨xs,bN,gp⟩:=(cT.mono (Same.new (o:=.tup ((X9 aa.length o aa).map V.int)) eF)).rows
   refine⟨_,.inl ⟨SqL.of bN,fun l1 bp=>⟨by lia,fun p5 b8=>?_⟩⟩⟩
   exact k p5 _ _ _ (((s1.trans s3).newT eF).newT bp |>.newT b8) ⟨l,l1,SqT.of Ab,SqT.of (Same.new b8 _ _ (Same.new bp _ _ Ab)),(gp l1 bp).mono (Same.new b8)⟩ (Cx_ wf ho) (Fe _ _ _)
noncomputable def YW (K:α3):Sp:=fun vs H Q _=>∃(a h:Addr) (ns:α2) (L:Int) (aa:α2) (ae:α1),vs=[.ref a,.ref h]/\SqL K H a (ns.map V.int)/\BU K H h L aa ae/\Wf L aa ae/\∀(m:Nat) H',m<=3->many L (m+2)<=341->Same H H'->Q (.int m) H'
theorem Mp   (F:Fun K "_law_more_by" "_law_more_by" BW f fd)(T:Txt mg)
   (Ap:FnOk P w K mg base CX0 1 Av AK ["script","k"] (JT K)) (Am:Fun K "_law_cell_at" "_law_cell_at" A6 Av AK) (Aq:A7 K AK ["script","k"] []) (Ar:mg "_law_cell_at"=some (.ref Av))
  : FnOk P w K mg base CX0 2 f fd ["script","house"] (YW K):=by
 refine F.ok Gy (fun vs H Q E h=>?_) (fun ay A outer s H vs Q E hr h=>?_)
 ·obtain⟨a,h,ns,L,aa,ae,rfl,_⟩:=h;rfl
 ·obtain⟨a,h,ns,L,aa,ae,rfl,hs,hh,wf,k⟩:=h
  have hl:=AE
  refine⟨_,(Ad (Aj (i:=2) Gy.nd (An (opD CB) (Al Ap (hr.mono (by decide)) rfl Ar Am.kp Aq .nil A3 (Aa (pvD 0) (Aa Ac Ae))) Ac))
   (Ad (Cy (ptT (Aw (opD0 Ch_) (As (lenD Ak) (by rfl) T.len jI_ (Aa (Ah (ixTD Ao) (pvD 1) Ac) Ae)) Ac (AV _)))
   (Ag (AR (An (opD A5) (pvD 2) Ac)))
   AX)
   (Ad (Cy (PW.pt (J7 (ptT (Aw (opD0 LB) (As (lenD Ak) (by rfl) T.len jI_ (Aa (Ah (ixTD Ao) (pvD 1) Ac) Ae)) Ac (AV _))) (Gj (ptT (Aw (opE Dx) (An (opD A5) (pvD 2) Ac) Ac (AV _))))))
   (Ag (AR (Ah (ixLD Bn) (Cu (Aa Ac (Aa Ac (Aa Ac (Aa Ac (Aa Ac (Aa Ac Ae))))))) (An (opD0 EH) (Ah (ixTD Ao) (pvD 1) Ac) Ac))))
   AX)
   (Ad (Cy (ptT (Aw (opE Dx) (An (opD A5) (pvD 2) Ac) Ac (AV _)))
   (Ag (AR (Ah (ixLD Bn) (Cu (Aa Ac (Aa Ac (Aa Ac (Aa Ac (Aa Ac (Aa Ac Ae))))))) (An (opD0 EH) (Ah (ixTD Ao) (pvD 1) Ac) Ac))))
   AX)
   (Ag (AR (An (opD A5) (pvD 2) (Ah (ixLD Bn) (Cu (Aa Ac (Aa Ac (Aa Ac (Aa Ac (Aa Ac (Aa Ac Ae))))))) (An (opD0 EH) (Ah (ixTD Ao) (pvD 1) Ac) Ac))))))))),?_⟩
  walk_at "rd"
  obtain⟨mm,wv,q1,q2,q3⟩:=id hh
  have cB:=wf.l1
  have cC:=wf.l6
  refine⟨a,ns,0,rfl,hs,_,rfl,⟨by decide,by decide⟩,_,q1,_,rfl,mm,rfl,_,.inr q2,?_⟩
  generalize cell ns 0 / 6=c
  rw[ja_]
  have hL:L=1\/L=2\/L=3\/L=4\/L=5\/L=6:=by lia
  have m0:many L (0+2)<=341:=by rcases hL with rfl|rfl|rfl|rfl|rfl|rfl<;>decide
  have m1:many L (1+2)<=341:=by rcases hL with rfl|rfl|rfl|rfl|rfl|rfl<;>decide
  have m2:many L (2+2)<=341:=by rcases hL with rfl|rfl|rfl|rfl|rfl|rfl<;>decide
  have m3:L<=4->many L (3+2)<=341:=fun h=>by
   rcases hL with rfl|rfl|rfl|rfl|rfl|rfl
   all_goals first|decide|lia
  -- each answer
  have n9:∀(c:Int) H',Same H H'->0<=c->c<=3->(c=3->L<=4)->Q (.int c) H':=fun c H' hS h0 h3 hc=>by
   obtain⟨m,rfl⟩:∃m:Nat,c=(m:Int):=⟨c.toNat,by lia⟩
   refine k m H' s!"" ?_ hS
   rcases (show m=0\/m=1\/m=2\/m=3 by lia) with rfl|rfl|rfl|rfl
   ·exact m0
   ·exact m1
   ·exact m2
   ·exact m3 (hc rfl)
  refine ite2 (fun _=>⟨by decide,n9 _ _ (Same.refl _) s!"" s!"" s!""⟩) (fun _=>?_)
  refine⟨_,q1,_,rfl,mm,rfl,_,.inr q2,?_⟩
  rw[ja_]
  refine ite2 (fun h3=>⟨by decide,ite2 (fun _=>⟨by decide,fun p hp=>?_⟩) (fun _=>⟨by decide,ite2 (fun _=>⟨by decide,fun p hp=>?_⟩) (fun _=>⟨by decide,fun p hp=>?_⟩)⟩)⟩) (fun h3=>⟨by decide,ite2 (fun _=>⟨by decide,fun p hp=>?_⟩) (fun _=>⟨by decide,fun p hp=>?_⟩)⟩)
  all_goals
   refine⟨_,(Same.new hp).seqT q1,_,rfl,L,rfl,_,SqL.of Ab,?_⟩
   clear hh wf q1 q2 q3 k m0 m1 m2 m3
   rcases hL with rfl|rfl|rfl|rfl|rfl|rfl
   all_goals first
    | exact⟨_,rfl,n9 _ _ (Same.new hp) (by decide) (by decide) (by decide)⟩
    | exact⟨_,rfl,_,rfl,by decide,n9 _ _ (Same.new hp) s!"" s!"" s!""⟩
noncomputable def BU_ (K:α3):Sp:=fun vs H Q _=>∃(a:Addr) (L:Int) (ws:α2),vs=[.ref a,.int L]/\SqT K H a (ws.map V.int)/\isW L ws=true/\Q (.bl true) H
theorem Mq   (F:Fun K "_law_is_word" "_law_is_word" B0 f fd)(T:Txt mg)
  : FnOk P w K mg base CX0 1 f fd ["found","letters"] (BU_ K):=by
 refine F.ok Gz (fun vs H Q E h=>?_) (fun ay A outer s H vs Q E hr h=>?_)
 ·obtain⟨a,L,ws,rfl,_⟩:=h;rfl
 ·obtain⟨a,L,ws,rfl,ha,hv,k⟩:=h
  refine⟨_,(Ad (Cy (Om (ptB (LA (As EJ rfl T.isinstance xg_ (Aa (pvD 0) (Aa (OY (v:=.ty "tuple") rfl T.tuple jz_ rfl) Ae))))))
   (Ag (AR SK))
   AX)
   (Ad (Ci jJ_ rfl (Gk (pvD 0)) (Au (i:=2) Gz.nd rfl (Or.inl rfl))
   (Ag (Cy (PW.pt (VC (Om (ptB (LA (As EJ rfl T.isinstance xg_ (Aa (pvD 2) (Aa (OY (v:=.ty "int") rfl T.int PyProof.Rows.boot_int rfl) Ae)))))) (VC (ptB (LA (As EJ rfl T.isinstance xg_ (Aa (pvD 2) (Aa (OY (v:=.ty "bool") rfl T.bool PyProof.Rows.boot_bool rfl) Ae))))) (VC (ptT (Aw (opD0 LB) (pvD 2) Ac (AV _))) (UB (ptT (Aw (opD0 Fh_) (pvD 2) (pvD 1) (AV _))))))))
   (Ag (AR SK))
   AX)))
   (Ag (AR SK)))),?_⟩
  walk_at "rd"
  refine⟨_,_,.tup ha,UP,_,O8,?_⟩
  rw[if_neg (by decide)]
  refine⟨⟨_,ha⟩,forT (xs:=ws.map V.int) (fun i aj H2=>H2=H/\∃o,aj=[some (.ref a),some (.int L),o]) ⟨rfl,none,rfl⟩ (fun i aj H2 _ h=>by rw[h.1];exact ha) (fun i x aj H2 hx h=>?_) (fun aj H2 h=>?_)⟩
  ·obtain⟨rfl,o,rfl⟩:=h
   obtain⟨n,hn,rfl⟩:=Dy hx
   have bM:=AF.mp hv n (jc_ hn)
   walk_at "rd"
   refine⟨_,_,.int _,UP,_,O8,?_⟩
   rw[if_neg (by decide)]
   refine⟨_,_,.int _,UP,_,Rb,?_⟩
   rw[if_neg (by decide),if_neg s!"",if_neg s!""]
   exact⟨_,rfl⟩
  ·obtain⟨rfl,o,rfl⟩:=h
   walk_at "rd"
   exact k
theorem DH.tsq2 {K:α3}    (h:DH T H H')(hT:H T=some (.tbl ps)):TSq K H H':=fun b ys q=>h.tsq hT q
theorem BU.monoQ {K:α3}      (x:BU K H h L aa ae)(e:TSq K H H'):BU K H' h L aa ae:=by
 obtain⟨m,w,h1,h2,ts,h3,h4,h5⟩:=x
 exact⟨m,w,e _ _ h1,e _ _ h2,ts,e _ _ h3,h4,fun i t r a b=>e _ _ (h5 i t r a b)⟩
theorem YX:∀(l s:α1) (w:α2),w∈l.foldl ins s->w∈s\/w∈l
 |[],s,w,h=>.inl h
 |v::l,s,w,h=>by
  rw[q7_]at h
  rcases YX l _ w h with h|h
  ·unfold ins at h
   split at h
   ·exact .inl h
   ·rcases jA_.mp h with h|h
    ·exact .inl h
    ·rw[jq_.mp h];exact .inr jn_
  ·exact .inr (jk_ _ h)
theorem YY {K:α3}  {os:List aK.Wd}(h:WsT H os):AY K H (aK.wv os) (os.map (·.2)):=by
 refine⟨by simp[aK.wv],fun i w hw=>?_⟩
 rw[jd_]at hw
 cases e:os[i]? with
 |none=>rw[e]at hw;cases hw
 |some o=>
  rw[e]at hw;cases hw
  exact⟨o.1,by rw[aK.wv,jd_,e];rfl,h o (jc_ e)⟩
theorem YZ:∀(l s:α1) (w:α2),(w∈s\/w∈l)->w∈l.foldl ins s
 |[],s,w,h=>h.resolve_right (by simp)
 |v::l,s,w,h=>by
  rw[q7_]
  refine YZ l _ w ?_
  unfold ins
  rcases h with h|h
  ·left
   split
   ·exact h
   ·exact j8_ _ h
  ·rcases jL_.mp h with rfl|h
   ·left
    split
    ·rename_i hh;exact hh
    ·exact jw_ _ jn_
   ·exact .inr h
theorem Mr {l:α1}{w:α2}:w∈l.foldl ins []↔w∈l:=⟨fun h=>(YX l [] w h).resolve_left (by simp),fun h=>YZ l [] w (.inr h)⟩
theorem Vp {ae:α1}{n:Nat}{cH:α1}{E:Nat->α1}{w:α2}:w∈allW ae n cH E ↔ ∃r,r<n/\∃v∈cH,∃e∈E (AM ae (wayW ae r++v)).toNat,w=wayW ae r++v++e:=by
 unfold allW oneW
 constructor
 ·intro h
  obtain⟨r,hr,h⟩:=zx_.mp h
  obtain⟨v,hv,h⟩:=zx_.mp h
  obtain⟨e,he,rfl⟩:=jv_.mp h
  exact⟨r,jP_.mp hr,v,hv,e,he,rfl⟩
 ·rintro⟨r,hr,v,hv,e,he,rfl⟩
  exact zx_.mpr ⟨r,jP_.mpr hr,zx_.mpr ⟨v,hv,jv_.mpr ⟨e,he,rfl⟩⟩⟩
theorem Vq   (hL:0<L)  : v∈FU L m↔isW L v=true/\v.length<=m+1:=by
 constructor
 ·intro h
  obtain⟨k',dn,rfl⟩:=jv_.mp h
  have hv:=Fc hL k'
  refine⟨hv,?_⟩
  have h1:=(Hg hL hv (m+1)).mpr (by
   rw[Gu]
   have:=jP_.mp dn
   show (k':Int)<many L (m+2)
   lia)
  lia
 ·rintro⟨hv,hl⟩
  have h1:=(Hg hL hv (m+1)).mp s!""
  obtain⟨k',dn⟩:∃k':Nat,AZ L v=(k':Int):=⟨(AZ L v).toNat,by have:=Rk hL hv;lia⟩
  refine jv_.mpr ⟨k',jP_.mpr ?_,?_⟩
  ·have:(k':Int)<many L (m+2):=by rw[<-dn];exact h1
   lia
  ·exact XX hL (Fc hL k') hv (by rw[Gu,dn])
theorem Vr    (df:Can L ms vs)  (hr:r<ms.length):((r:Int),wayW vs r)∈AA vs/\isW L (wayW vs r)=true/\AM vs (wayW vs r)=(r:Int)/\(wayW vs r).length<=40:=by
 obtain⟨top,bf⟩:=Bfs.mk df.wf
 have hord:=df.order
 unfold rOf at hord
 have bM:((r:Int),wayW vs r)∈AA vs:=by
  have:(r:Int)∈(AA vs).map (·.1):=by rw[hord];exact jv_.mpr ⟨r,jP_.mpr hr,rfl⟩
  obtain⟨e,he,e1⟩:=jv_.mp this
  obtain⟨g,w⟩:=e
  have e1:g=(r:Int):=e1
  subst e1
  rw[TN bf.nod he]
  exact he
 have lX:=bf.wd _ bM
 obtain⟨j,hj⟩:=jG_.mp bM
 have h1:=bf.sh j _ hj
 have h2:=(jb_.mp hj).1
 have h3:=bf.len
 have h4:=df.wf.n40
 exact⟨bM,lX.1,lX.2,by dsimp only at h1;lia⟩
theorem RQ {α:Type}{p q:α->Bool}:∀{l:List α},(∀x∈l,p x=true->q x=true)->(∃x∈l,q x=true/\p x=false)->l.countP p<l.countP q
 |[],_,⟨x,hx,_⟩=>by cases hx
 |a::l,h,⟨x,hx,h1,h2⟩=>by
  have hm:l.countP p<=l.countP q:=List.countP_mono_left fun y hy=>h y (jk_ _ hy)
  rw[List.countP_cons,List.countP_cons]
  rcases jL_.mp hx with rfl|hx
  ·rw[h1,h2];simp;lia
  ·have:=RQ (l:=l) (fun y hy=>h y (jk_ _ hy)) ⟨x,hx,h1,h2⟩
   have ha:=h a jn_
   by_cases pa:p a=true
   ·rw[pa,ha pa];simp;lia
   ·have:p a=false:=by simpa using pa
    rw[this]
    have:0<=(if q a=true then 1 else 0):=jX_ _
    simp only[jY_,q3_];lia
theorem Vs {α:Type}[DecidableEq α]:∀{l m:List α},l.Nodup->(∀x∈l,x∈m)->l.length<=m.length
 |[],m,_,_=>jX_ _
 |a::l,m,hn,hs=>by
  have eZ:=qA_.mp hn
  have h1:=Vs (l:=l) (m:=m.erase a) eZ.2 fun x hx=>by
   have:x≠a:=fun z=>eZ.1 (z ▸ hx)
   exact (xe_ this).mpr (hs x (jk_ _ hx))
  have h2:=qU_ (hs a jn_)
  have h3:=qN_ (hs a jn_)
  rw[jV_];lia
theorem Ms {f:Nat->Nat}{n:Nat}(h:∀i j,i<n->j<n->f i=f j->i=j):((List.range n).map f).Nodup:=by
 rw[List.nodup_iff_pairwise_ne,xC_]
 refine (List.nodup_iff_pairwise_ne.mp zw_).imp_of_mem fun {a b} ha hb cj z=>cj (h a b (jP_.mp ha) (jP_.mp hb) z)
theorem Dc   (hu:isW L u=true)(hv:isW L v=true):isW L (u++v)=true:=by
 rw[AF]at hu hv ⊢
 intro x hx
 rcases jA_.mp hx with hx|hx
 ·exact hu x hx
 ·exact hv x hx
section
variable {L n m:Nat} {ms mr:α2} {vs wr:α1} {ai:Nat->α2} {E:Nat->α1}
structure Asked (L n m:Nat)(ms mr:α2)(vs wr:α1)(ai:Nat->α2)(E:Nat->α1):Prop where
 hn:n=ms.length
 w1:Wf L ms vs
 w2:Wf L mr wr
 sz:mr.length<=n+m
 acW:∀r,r<n->isW L (ai r)=true/\AM vs (ai r)=(r:Int)
 ac0:ai 0=[]
 eW:∀r,r<n->∀e∈E r,isW L e=true
 e0:∀r,r<n->[]∈E r
 sep:∀r s,r<n->s<n->r≠s->∃e,e∈E r/\e∈E s/\mkR ms (C9 vs r e)≠mkR ms (C9 vs s e)
 agr:∀r,r<n->∀v,isW L v=true->v.length<=m+1->∀e∈E (AM vs (ai r++v)).toNat,mkR ms (AM vs (ai r++v++e))=mkR mr (AM wr (ai r++v++e))
theorem RS (ae:α1)(u v:α2):AM ae (u++v)=C9 ae (AM ae u) v:=by unfold C9 AM;rw[qJ_]
theorem Asked.fwd (A:Asked L n m ms mr vs wr ai E)   (hr:r<n)(bG:r'<n)(hv:isW L v=true)(lg:isW L v'=true)(l:v.length<=m+1)(l':v'.length<=m+1)(e:AM wr (ai r++v)=AM wr (ai r'++v')):AM vs (ai r++v)=AM vs (ai r'++v'):=by
 refine j9_ fun aw=>?_
 have h1:=L2.Wf.walk' A.w1 (Dc (A.acW r hr).1 hv)
 have h2:=L2.Wf.walk' A.w1 (Dc (A.acW r' bG).1 lg)
 have hn:=A.hn
 obtain⟨x,ha,hb,hd⟩:=A.sep (AM vs (ai r++v)).toNat (AM vs (ai r'++v')).toNat s!"" s!"" s!""
 have g1:=A.agr r hr v hv l x ha
 have g2:=A.agr r' bG v' lg l' x hb
 rw[RS vs,RS wr]at g1 g2
 rw[xj_ h1.1,xj_ h2.1,g1,g2,e]at hd
 exact hd rfl
noncomputable def Gh (L n:Nat)(wr:α1)(ai:Nat->α2)(k q:Nat):Prop:=∃r,r<n/\∃v,isW L v=true/\v.length<=k/\AM wr (ai r++v)=(q:Int)
theorem JV (A:Asked L n m ms mr vs wr ai E){k:Nat}(h:∀q,Gh L n wr ai (k+1) q->Gh L n wr ai k q):∀j q,Gh L n wr ai (k+j) q->Gh L n wr ai k q
 |0,q,g=>g
 |j+1,q,⟨r,hr,v,hv,hl,e⟩=>by
  by_cases au:v.length<=k+j
  ·exact JV A h j q ⟨r,hr,v,hv,au,e⟩
  ·have aw:v ≠ []:=fun z=>by subst z;simp at au
   have ev:=(List.dropLast_concat_getLast aw).symm
   have hvv:=AF.mp hv
   have hd:isW L v.dropLast=true:=AF.mpr fun x hx=>hvv x (List.dropLast_subset _ hx)
   have hx:=hvv _ (List.getLast_mem aw)
   have w1:=L2.Wf.walk' A.w2 (Dc (A.acW r hr).1 hd)
   obtain⟨r2,eA,v2,lY,bF,e2⟩:=JV A h j (AM wr (ai r++v.dropLast)).toNat ⟨r,hr,v.dropLast,hd,by rw[List.length_dropLast];lia,by lia⟩
   refine h q ⟨r2,eA,v2++[v.getLast aw],Dc lY (AF.mpr fun x d6=>by rw[jq_.mp d6];exact hx),by rw[jo_];simpa using bF,?_⟩
   rw[<-e]
   conv=>rhs;rw[ev]
   rw[<-qh_,<-qh_,CP,CP,e2,xj_ w1.1]
open Classical in
theorem RT (A:Asked L n m ms mr vs wr ai E):∀q,Gh L n wr ai (m+1) q->Gh L n wr ai m q:=by
 refine j9_ fun cX=>?_
 have up:∀k q,Gh L n wr ai k q->Gh L n wr ai (k+1) q:=fun k q ⟨r,hr,v,hv,hl,e⟩=>⟨r,hr,v,hv,by lia,e⟩
 have lt:∀k q,Gh L n wr ai k q->q<mr.length:=fun k q ⟨r,hr,v,hv,hl,e⟩=>by
  have:=L2.Wf.walk' A.w2 (Dc (A.acW r hr).1 hv)
  lia
 have gr:∀k,k<=m+1->n+k<=(List.range mr.length).countP (fun q=>decide (Gh L n wr ai k q)):=by
  intro k
  induction k with
  |zero=>
   intro _
   rw[List.countP_eq_length_filter]
   have:=Vs (l:=(List.range n).map fun r=>(AM wr (ai r)).toNat) (m:=(List.range mr.length).filter fun q=>decide (Gh L n wr ai 0 q)) (Ms fun i j hi hj e=>?_) (fun x hx=>?_)
   ·rw[ja_,qV_]at this
    lia
   ·have wi:=L2.Wf.walk' A.w2 (A.acW i hi).1
    have wj:=L2.Wf.walk' A.w2 (A.acW j hj).1
    have:=A.fwd (v:=[]) (v':=[]) hi hj rfl rfl (by simp) (by simp) (by rw[qi_,qi_];lia)
    rw[qi_,qi_,(A.acW i hi).2,(A.acW j hj).2]at this
    lia
   ·obtain⟨r,hr,rfl⟩:=jv_.mp hx
    have hr:=jP_.mp hr
    have wi:=L2.Wf.walk' A.w2 (A.acW r hr).1
    refine zD_.mpr ⟨jP_.mpr s!"",qg_ ⟨r,hr,[],rfl,jg_ _,by rw[qi_];lia⟩⟩
  |succ k ih=>
   intro hk
   have h1:=ih s!""
   have hex:∃q,Gh L n wr ai (k+1) q/\¬ Gh L n wr ai k q:=by
    refine j9_ fun hh=>cX ?_
    have st:∀q,Gh L n wr ai (k+1) q->Gh L n wr ai k q:=fun q g=>j9_ fun z=>hh ⟨q,g,z⟩
    intro q g
    have e:m+1=k+(m+1-k):=by lia
    rw[e]at g
    obtain⟨r,hr,v,hv,hl,e⟩:=JV A st _ q g
    exact⟨r,hr,v,hv,by lia,e⟩
   obtain⟨q,g1,g2⟩:=hex
   have h2:=RQ (l:=List.range mr.length) (p:=fun q=>decide (Gh L n wr ai k q)) (q:=fun q=>decide (Gh L n wr ai (k+1) q)) (fun x _ hx=>qg_ (up k x (qv_ hx))) ⟨q,jP_.mpr (lt _ q g1),qg_ g1,qc_ g2⟩
   lia
 have h1:=gr (m+1) (jg_ _)
 have h2:=List.countP_le_length (l:=List.range mr.length) (p:=fun q=>decide (Gh L n wr ai (m+1) q))
 rw[qV_]at h2
 have:=A.sz
 lia
theorem Asked.all (A:Asked L n m ms mr vs wr ai E):∀w,isW L w=true->mkR ms (AM vs w)=mkR mr (AM wr w):=by
 have hn:=A.hn
 have n1:=A.w1.n1
 have key:∀w:α2,isW L w.reverse=true->∃r,r<n/\∃v,isW L v=true/\v.length<=m/\AM wr w.reverse=AM wr (ai r++v)/\AM vs w.reverse=AM vs (ai r++v):=by
  intro w
  induction w with
  |nil=>exact fun _=>⟨0,by lia,[],rfl,jX_ _,by rw[A.ac0];rfl,by rw[A.ac0];rfl⟩
  |cons x w ih=>
   intro hw
   rw[List.reverse_cons]at hw ⊢
   have cA:isW L w.reverse=true:=AF.mpr fun y hy=>AF.mp hw y (j8_ _ hy)
   have hx:isW L [x]=true:=AF.mpr fun y hy=>AF.mp hw y (jw_ _ hy)
   obtain⟨r,hr,v,hv,hl,e1,e2⟩:=ih cA
   have oe:=Dc hv hx
   have w1:=L2.Wf.walk' A.w2 (Dc (A.acW r hr).1 oe)
   obtain⟨r2,eA,v2,lY,bF,e3⟩:=RT A (AM wr (ai r++(v++[x]))).toNat ⟨r,hr,v++[x],oe,by rw[jo_];simpa using hl,by lia⟩
   have e4:AM wr (ai r++(v++[x]))=AM wr (ai r2++v2):=by rw[e3];lia
   refine⟨r2,eA,v2,lY,bF,?_,?_⟩
   ·rw[<-e4,CP,e1,<-qh_,CP]
   ·rw[<-A.fwd hr eA oe lY (by rw[jo_];simpa using hl) s!"" e4,CP,e2,<-qh_,CP]
 intro w hw
 obtain⟨r,hr,v,hv,hl,e1,e2⟩:=key w.reverse (by rw[qZ_];exact hw)
 rw[qZ_]at e1 e2
 rw[e1,e2]
 have h1:=L2.Wf.walk' A.w1 (Dc (A.acW r hr).1 hv)
 have:=A.agr r hr v hv s!"" [] (A.e0 _ s!"")
 rw[qi_]at this
 exact this
end
theorem YL {kvs:List (List Key×V)}{ws:α1}(h:Hs (ws.foldl ins []) kvs){w:α2}:(valV kvs (wkey w)).isSome=decide (w∈ws):=by
 rw[h.some_iff w]
 exact decide_eq_decide.mpr Mr
theorem EY_    (df:Can L ms vs)  (hr:r<ms.length)(hs:s<ms.length)(aw:r≠s):∃e,(wcOf ms.length L (bW ms vs)).1.find? (fun v=>decide (bW ms vs v s≠bW ms vs v r))=some e/\isW L e=true/\bW ms vs e s≠bW ms vs e r/\e∈(wcOf ms.length L (bW ms vs)).1:=by
 have fin:=Fin17.mk' (b:=bW ms vs) (L:=L) df.wf.n1 df.wf.n40
 cases hf:(wcOf ms.length L (bW ms vs)).1.find? (fun v=>decide (bW ms vs v s≠bW ms vs v r)) with
 |some e=>
  have hm:=xs_ hf
  have hd:=zK_ hf
  exact⟨e,rfl,AF.mpr (fin.wc.ok e hm),qv_ hd,hm⟩
 |none=>
  refine absurd ?_ aw
  have az:=xN_.mp hf
  have hc:=(fin.wc.iff r s hr hs).mpr fun w hw=>by
   have:=az w hw
   exact (j9_ fun z=>this (qg_ (qx_ z)))
  have bX:cf (wcOf ms.length L (bW ms vs)).2 r=cf (wcOf ms.length L (bW ms vs)).2 s:=by
   have e1:=Rx (c:=(wcOf ms.length L (bW ms vs)).2) fin.wc.len (r:=(r:Int)) s!"" s!""
   have e2:=Rx (c:=(wcOf ms.length L (bW ms vs)).2) fin.wc.len (r:=(s:Int)) s!"" s!""
   rw[ji_]at e1 e2
   rw[e1,e2]at hc
   exact jp_ hc
  exact df.red r s hr hs fun w hw=>Te df.wf fin w hw s!"" s!"" s!"" s!"" bX
theorem Ad_     (hn:n<=40)(hm:cH.length<=341)(hE:∀r<n,∀v∈cH,(E (AM ae (wayW ae r++v)).toNat).length<=40):(allW ae n cH E).length<=545600:=by
 unfold allW
 have h1:=Je (f:=fun r=>cH.flatMap (oneW ae E r)) (c:=13640) (List.range n) (fun r hr=>by
  have h2:=Je (f:=oneW ae E r) (c:=40) cH (fun v hv=>by unfold oneW;rw[ja_];exact hE r (jP_.mp hr) v hv)
  lia)
 rw[qV_]at h1
 have h2:n*13640<=40*13640:=Nat.mul_le_mul_right _ s!""
 lia
theorem Ae_   (h:many L (m+2)<=341):(FU L m).length<=341:=by
 rw[ja_,qV_];lia
theorem Ws {L:Nat}{aa:α2}{ae:α1}{m:Nat}(wf:Wf L aa ae)(h:many L (m+2)<=341):(Jf L aa ae m).length<=545600:=by
 have bz:=sWf wf
 have fin:=Fin17.mk' (b:=bW (sM L aa ae) (sW L aa ae)) (L:=L) bz.n1 bz.n40
 unfold Jf
 refine Ad_ bz.n40 (Ae_ h) fun r hr v hv=>?_
 have h1:=fin.wc.le
 have h2:=Oz (wcOf (sM L aa ae).length L (bW (sM L aa ae) (sW L aa ae))).2
 rw[fin.wc.len]at h2
 have:=bz.n40
 lia
noncomputable def OR (K:α3):Sp:=fun vs H Q _=>∃(h:Addr) (L:Int) (aa:α2) (ae:α1),vs=[.ref h]/\BU K H h L aa ae/\Wf L aa ae/\∀p H',Same H H'->H p=none->H' p=some (.lst (((AA ae).map (·.1)).map V.int))->Q (.ref p) H'
theorem KA   (F:Fun K "_law_order_of" "_law_order_of" BA f fd)(T:Txt mg)
  : FnOk P w K mg base CX0 1 f fd ["house"] (OR K):=by
 refine F.ok BD (fun vs H Q E h=>?_) (fun ay A outer s H vs Q E hr h=>?_)
 ·obtain⟨h,L,aa,ae,rfl,_⟩:=h;rfl
 ·obtain⟨h,L,aa,ae,rfl,hh,wf,k⟩:=h
  have hl:=AE
  have cB:=wf.l1
  have b7:=wf.n1
  have aN:=wf.n40
  refine⟨_,(Ad (Aj (i:=1) BD.nd (Cu (Aa Ac Ae)))
   (Ad (Aj (i:=2) BD.nd Ac)
   (Ad (Hb jJ_ (ptT (Aw (opD0 LB) (pvD 2) (As (lenD Ak) (by rfl) T.len jI_ (Aa (pvD 1) Ae)) (AV _)))
   (Ad (Aj (i:=3) BD.nd (Ah (ixTD Ao) (Ah (ixTD Ao) (pvD 0) Ac) (Ah (ixLD Bn) (pvD 1) (pvD 2))))
   (Ad (Ci jJ_ rfl (Gk (pvD 3)) (Au (i:=4) BD.nd rfl (Or.inl rfl))
   (Ag (Cy (ptT (Aw J8 (pvD 4) (pvD 1) rfl))
   (Ag (BS (FA jE_ jM_ jN_ Bi (pvD 1) (Aa (pvD 4) Ae))))
   AX)))
   (Ag (Aj (i:=2) BD.nd (An (opD0 Bm) (pvD 2) Ac))))))
   (Ag (AR (pvD 1)))))),?_⟩
  walk_at "rd"
  refine⟨by lia,fun p2 aU=>?_⟩
  have s0:Same H (upd H p2 (.lst [V.int 0])):=Same.new aU
  have du:upd H p2 (.lst [V.int 0]) p2=some (.lst ((([(0,[])]:List (Int×α2)).map (·.1)).map V.int)):=Ab
  generalize upd H p2 (.lst [V.int 0])=H0 at s0 du ⊢
  obtain⟨Pv,aq⟩:∃Pv:Nat->St->Hp->Prop,∀m aj H2,Pv m aj H2↔(∃(ents:List (Int×α2)) (i:Nat) (top:Int) (o4 o5:Option V),m=aa.length+1-i/\Same H H2/\H2 p2=some (.lst ((ents.map (·.1)).map V.int))/\Bfs L aa.length ae ents i top/\(∀e,ents[i]?=some e->top<=AZ L e.2*L+1)/\bfs ae (aa.length+1-i) ents i=AA ae/\aj=[some (.ref h),some (.ref p2),some (.int i),o4,o5]):=⟨_,fun _ _ _=>qk_⟩
  refine Ov Pv ⟨_,(aq _ _ _).mpr ⟨[(0,[])],0,1,none,none,rfl,s0,du,Bfs.start L b7 ae,fun e he=>?_,by unfold AA;rw[wf.len];rfl,rfl⟩⟩ ?_
  ·simp at he;subst he;simp[AZ,Bj]
  intro m aj H2 dQ
  obtain⟨ents,i,top,o4,o5,rfl,s2,eA,bf,iX,cD,rfl⟩:=(aq _ _ _).mp dQ
  have hbl:=bf.len
  walk_at "rd"
  refine⟨_,.inl (SqL.of eA),?_⟩
  rw[ja_,ja_]
  refine ite2 (fun au=>?_) (fun bj=>?_)
  ·have hi:i<ents.length:=by lia
   obtain⟨e,he⟩:∃e,ents[i]?=some e:=⟨ents[i],by simp[hi]⟩
   obtain⟨r,w⟩:=e
   have aP:=jc_ he
   have bG:=bf.rng _ aP
   have htop':top<=AZ L w*L+1:=iX _ he
   obtain⟨row,hrow,eB,cZ⟩:=wf.row bG.1 bG.2
   have kC:ae.getD r.toNat []=row:=by rw[jh_,hrow];rfl
   obtain⟨mm,wv,q1,q2,q3⟩:=id hh
   obtain⟨xs,t,z1,z2,z3⟩:=q3.atZ bG.1 hrow
   refine⟨Pv (aa.length+1-(i+1)),fun ag H' h=>⟨_,by lia,h⟩,?_⟩
   refine⟨_,s2.seqT q1,_,rfl,_,SqL.of eA,_,Bx (v:=r) s!"" (by rw[ji_,jd_,he];rfl),_,rfl,_,_,rfl,s2.seqT z1,_,z2,_,rfl,⟨_,s2.seqT z3⟩,?_⟩
   obtain⟨Pn,cL⟩:∃Pn:Nat->St->Hp->Prop,∀x aA H3,Pn x aA H3↔(∃(av:List (Int×α2)) (o5:Option V),Same H H3/\H3 p2=some (.lst ((av.map (·.1)).map V.int))/\Bfs L aa.length ae av i (AZ L w*L+(x:Int)+1)/\Seen L ae av r w x/\av[i]?=some (r,w)/\EK w av x (row.drop x)=EK w ents 0 row/\aA=[some (.ref h),some (.ref p2),some (.int i),some (.ref t),o5]):=⟨_,fun _ _ _=>qk_⟩
   refine forT (xs:=row.map V.int) Pn ((cL _ _ _).mpr ⟨ents,o5,s2,eA,bf.up (by push_cast;lia),(fun y h0 h1=>absurd h1 (by push_cast;lia)),he,rfl,rfl⟩) (fun x aA H3 _ h3=>?_) (fun x v aA H3 hx h3=>?_) (fun aA H3 h3=>?_)
   ·obtain⟨av,_,s3,_⟩:=(cL _ _ _).mp h3
    exact s3.seqT z3
   ·obtain⟨av,o5,s3,c9,dv,gw,fZ,cE,rfl⟩:=(cL _ _ _).mp h3
    obtain⟨g,hg,rfl⟩:=Dy hx
    have bS:=(jb_.mp hg).1
    have iY:=(wf.rows row eB).2 g (jc_ hg)
    have nu:g=Cz ae r (x:Int):=(CO hrow (by rw[ji_];exact hg)).symm
    have dS:=jc_ fZ
    have fF:row.drop x=g::row.drop (x+1):=by
     rw[q6_ bS]
     congr 1
     exact (jb_.mp hg).2
    obtain⟨eC,gy⟩:=dv.letter s!"" gw dS s!"" nu iY
    have gz:=Ic (g:=g) (v:=w++[(x:Int)]) fZ
    rw[fF,Ib]at cE
    walk_at "rd"
    refine⟨_,.inl (SqL.of c9),rfl,LJ _,?_⟩
    rw[UZ]
    by_cases hm:g∈av.map (·.1)
    ·rw[if_pos hm]at eC gy gz cE
     rw[qg_ hm,if_neg (by simp)]
     exact (cL _ _ _).mpr ⟨av,_,s3,c9,eC,gy,gz,cE,rfl⟩
    ·rw[if_neg hm]at eC gy gz cE
     rw[qc_ hm,if_pos (by simp)]
     refine⟨.inl ⟨rfl,_,SqL.of c9⟩,_,c9,by have:=dv.len;simp;lia,(cL _ _ _).mpr ⟨av++[(g,w++[(x:Int)])],_,s3.over aU,by rw[Ab];simp,eC,gy,gz,cE,rfl⟩⟩
   ·obtain⟨av,o5,s3,c9,dv,gw,fZ,cE,rfl⟩:=(cL _ _ _).mp h3
    rw[ja_]at dv gw cE
    rw[List.drop_length,Jr]at cE
    walk_at "rd"
    obtain⟨eC,fG⟩:=dv.next s!"" cZ gw fZ
    refine (aq _ _ _).mpr ⟨av,i+1,_,_,_,rfl,s3,c9,eC,fG,?_,by push_cast;rfl⟩
    rw[show aa.length+1-i=(aa.length+1-(i+1))+1 by lia,Pj he]at cD
    rw[cE,<-kC]
    exact cD
  ·have hi:i=ents.length:=by have:=bf.il;lia
   subst hi
   rw[Ph (by simp)]at cD
   walk_at "rd"
   rw[<-cD]at k
   exact k p2 H2 s2 aU eA
theorem Kg {α:Type}[DecidableEq α]{l k:List α}(h:l.Nodup)(hs:∀x∈l,x∈k):l.length<=k.length:=by
 induction l generalizing k with
 |nil=>simp
 |cons a l ih=>
  rw[qA_]at h
  have ha:=hs a jn_
  have h1:∀x∈l,x∈k.erase a:=fun x hx=>by
   refine (xe_ ?_).mpr (hs x (jk_ _ hx))
   intro z;subst z;exact h.1 hx
  have:=ih h.2 h1
  rw[qU_ ha]at this
  have hp:=qN_ ha
  rw[jV_];lia
section
variable {rs:α2} {E:Nat->Int->Int->Prop}
noncomputable def Y0 (rs:α2)(E:Nat->Int->Int->Prop)(k i:Nat):Prop:=∀a,rs[i]?=some a->∀j b,j<i->rs[j]?=some b->¬ E k b a
open Classical in
noncomputable def GR (rs:α2)(E:Nat->Int->Int->Prop)(k:Nat):List Nat:=(List.range rs.length).filter fun i=>decide (Y0 rs E k i)
open Classical in
theorem DY {k i:Nat}:i∈GR rs E k↔i<rs.length/\Y0 rs E k i:=by
 unfold GR
 rw[zD_,jP_,qo_]
theorem Mt (k:Nat):(GR rs E k).Nodup:=zw_.filter _
theorem Vt (rf:∀k a,E k a a)(sy:∀k a b,E k a b->E k b a)(tr:∀k a b c,E k a b->E k b c->E k a c)(k:Nat):∀(n i:Nat) (a:Int),i<=n->rs[i]?=some a->∃j b,rs[j]?=some b/\E k b a/\Y0 rs E k j:=by
 intro n
 induction n with
 |zero=>
  intro i a hi ha
  have:i=0:=by lia
  subst this
  exact⟨0,a,ha,rf k a,fun a' _ j b hj=>absurd hj (xi_ _)⟩
 |succ n ih=>
  intro i a hi ha
  by_cases h:Y0 rs E k i
  ·exact⟨i,a,ha,rf k a,h⟩
  ·unfold Y0 at h
   simp only[Classical.not_forall]at h
   obtain⟨a',e',j,b,hj,hb,hE⟩:=h
   rw[ha]at e'
   cases e'
   have hE:E k b a:=Classical.not_not.mp hE
   obtain⟨j',b',h1,h2,h3⟩:=ih j b s!"" hb
   exact⟨j',b',h1,tr k _ _ _ h2 hE,h3⟩
theorem EZ_ (rf:∀k a,E k a a)(sy:∀k a b,E k a b->E k b a)(tr:∀k a b c,E k a b->E k b c->E k a c)(mo:∀k a b,E (k+1) a b->E k a b)   (ha:a∈rs)(hb:b∈rs)(h:E k a b)(hn:¬ E (k+1) a b):(GR rs E k).length+1<=(GR rs E (k+1)).length:=by
 have sub:∀i∈GR rs E k,i∈GR rs E (k+1):=fun i hi=>by
  obtain⟨h1,h2⟩:=DY.mp hi
  exact DY.mpr ⟨h1,fun a ha j b hj hb hE=>h2 a ha j b hj hb (mo k _ _ hE)⟩
 obtain⟨i,hi,hni⟩:∃i,i∈GR rs E (k+1)/\i∉GR rs E k:=by
  refine j9_ fun hc=>hn ?_
  have az:∀i,i∈GR rs E (k+1)->i∈GR rs E k:=fun i hi=>j9_ fun z=>hc ⟨i,hi,z⟩
  obtain⟨ia,hia⟩:=jG_.mp ha
  obtain⟨ib,hib⟩:=jG_.mp hb
  obtain⟨j1,c1,p1,p2,p3⟩:=Vt (rs:=rs) rf sy tr (k+1) ia ia a (jg_ _) hia
  obtain⟨j2,c2,r1,r2,r3⟩:=Vt (rs:=rs) rf sy tr (k+1) ib ib b (jg_ _) hib
  have g1:=(DY.mp (az j1 (DY.mpr ⟨(jb_.mp p1).1,p3⟩))).2
  have g2:=(DY.mp (az j2 (DY.mpr ⟨(jb_.mp r1).1,r3⟩))).2
  have e12:E k c1 c2:=tr k _ _ _ (mo k _ _ p2) (tr k _ _ _ h (sy k _ _ (mo k _ _ r2)))
  have ej:j1=j2:=by
   refine j9_ fun aw=>?_
   rcases Nat.lt_or_gt_of_ne aw with au|au
   ·exact g2 c2 r1 j1 c1 au p1 e12
   ·exact g1 c1 p1 j2 c2 au r1 (sy k _ _ e12)
  subst ej
  rw[p1]at r1
  cases r1
  exact tr _ _ _ _ (sy _ _ _ p2) r2
 have:=Kg (l:=i::GR rs E k) (k:=GR rs E (k+1)) (by rw[qA_];exact⟨hni,Mt k⟩) fun y hy=>by
  rcases jL_.mp hy with rfl|hy
  ·exact hi
  ·exact sub y hy
 simpa using this
theorem Fa_ (rf:∀k a,E k a a)(sy:∀k a b,E k a b->E k b a)(tr:∀k a b c,E k a b->E k b c->E k a c)(mo:∀k a b,E (k+1) a b->E k a b)(st:∀k,(∀a∈rs,∀b∈rs,E k a b->E (k+1) a b)->∀a∈rs,∀b∈rs,E (k+1) a b->E (k+2) a b)(h0:0<rs.length)  (ha:a∈rs)(hb:b∈rs)(h:E rs.length a b)(j:Nat):E j a b:=by
 have key:∀k,(∃k',k'<k/\∀a∈rs,∀b∈rs,E k' a b->E (k'+1) a b)\/k+1<=(GR rs E k).length:=by
  intro k
  induction k with
  |zero=>
   right
   have:0∈GR rs E 0:=DY.mpr ⟨h0,fun a _ j b hj=>absurd hj (xi_ _)⟩
   exact qN_ this
  |succ k ih=>
   rcases ih with ⟨k',h1,h2⟩|ih
   ·exact .inl ⟨k',by lia,h2⟩
   ·by_cases hs:∀a∈rs,∀b∈rs,E k a b->E (k+1) a b
    ·exact .inl ⟨k,by lia,hs⟩
    ·simp only[Classical.not_forall]at hs
     obtain⟨a,ha,b,hb,h1,h2⟩:=hs
     right
     have:=EZ_ rf sy tr mo ha hb h1 h2
     lia
 have aS:(GR rs E rs.length).length<=rs.length:=by
  have:=Kg (l:=GR rs E rs.length) (k:=List.range rs.length) (Mt _) fun i hi=>jP_.mpr (DY.mp hi).1
  simpa using this
 rcases key rs.length with ⟨k',h1,h2⟩|h1
 ·have up:∀d,∀a∈rs,∀b∈rs,E (k'+d) a b->E (k'+d+1) a b:=by
   intro d
   induction d with
   |zero=>exact h2
   |succ d ih=>exact st _ ih
  have far:∀d,E (rs.length+d) a b:=by
   intro d
   induction d with
   |zero=>exact h
   |succ d ih=>
    have:=up (rs.length+d-k') a ha b hb (by rw[show k'+(rs.length+d-k')=rs.length+d by lia];exact ih)
    rw[show k'+(rs.length+d-k')+1=rs.length+(d+1) by lia]at this
    exact this
  have down:∀d i,E (i+d) a b->E i a b:=by
   intro d
   induction d with
   |zero=>exact fun i h=>h
   |succ d ih=>exact fun i h=>ih i (mo _ _ _ h)
  exact down rs.length j (by rw[Nat.add_comm];exact far j)
 ·lia
end
noncomputable def JW (L:Int)(aa:α2)(ae:α1)(k:Nat)(a b:Int):Prop:=∀v,isW L v=true->v.length<=k->mkW aa (C9 ae a v)=mkW aa (C9 ae b v)
theorem JW.succ      : JW L aa ae (k+1) a b↔JW L aa ae k a b/\∀x:Int,0<=x->x<L->JW L aa ae k (Cz ae a x) (Cz ae b x):=by
 constructor
 ·intro h
  refine⟨fun v hv hl=>h v hv s!"",fun x x0 x1 v hv hl=>?_⟩
  have:=h (x::v) (AF.mpr fun y hy=>by
   rcases jL_.mp hy with rfl|hy
   ·exact⟨x0,x1⟩
   ·exact AF.mp hv y hy) (by rw[jV_];lia)
  rw[B5,B5]at this
  exact this
 ·rintro⟨h1,h2⟩ v hv hl
  cases v with
  |nil=>exact h1 [] hv (by simp)
  |cons x v=>
   have hx:=AF.mp hv x jn_
   rw[B5,B5]
   exact h2 x hx.1 hx.2 v (AF.mpr fun y hy=>AF.mp hv y (jk_ _ hy)) (by rw[jV_]at hl;lia)
theorem JW.all {L:Int}{aa:α2}{ae:α1}{rs:α2}(hz:0∈rs)(cl:∀r∈rs,∀x:Int,0<=x->x<L->Cz ae r x∈rs){a b:Int}(ha:a∈rs)(hb:b∈rs)(h:JW L aa ae rs.length a b):∀v,isW L v=true->mkW aa (C9 ae a v)=mkW aa (C9 ae b v):=fun v hv=>
 Fa_ (rs:=rs) (E:=JW L aa ae) (fun _ _ _ _ _=>rfl) (fun _ _ _ h v hv hl=>(h v hv hl).symm) (fun _ _ _ _ h g v hv hl=>(h v hv hl).trans (g v hv hl)) (fun _ _ _ h=>(JW.succ.mp h).1) (fun k hs a ha b hb h=>by
  obtain⟨h1,h2⟩:=JW.succ.mp h
  exact JW.succ.mpr ⟨h,fun x x0 x1=>hs _ (cl a ha x x0 x1) _ (cl b hb x x0 x1) (h2 x x0 x1)⟩) (qN_ hz) ha hb h v.length v hv (jg_ _)
noncomputable def ln41 (names:α2)(ae:α1)(r:Nat):α2:=names.getD r 0::(ae.getD r []).map fun a=>names.getD a.toNat 0
noncomputable def ER (L:Int)(aa:α2)(ae:α1)(k:Nat)(names:α2):Prop:=names.length=aa.length/\∀a b:Nat,a<aa.length->b<aa.length->(names.getD a 0=names.getD b 0↔JW L aa ae k a b)
theorem ER.more    (wf:Wf L aa ae)   (h:ER L aa ae k names)(hl:dC.length=aa.length)(he:∀a b:Nat,a<aa.length->b<aa.length->(dC.getD a 0=dC.getD b 0↔ln41 names ae a=ln41 names ae b)):ER L aa ae (k+1) dC:=by
 refine⟨hl,fun a b ha hb=>?_⟩
 rw[he a b ha hb,JW.succ]
 obtain⟨ra,lZ,ra2,ra3⟩:=wf.row (r:=(a:Int)) s!"" s!""
 obtain⟨rb,l3,rb2,rb3⟩:=wf.row (r:=(b:Int)) s!"" s!""
 rw[ji_]at lZ l3
 have ga:ae.getD a []=ra:=by rw[jh_,lZ];rfl
 have gb:ae.getD b []=rb:=by rw[jh_,l3];rfl
 have st:∀(c:Nat) (rc:α2),ae[c]?=some rc->rc∈ae->∀x:Nat,(x:Int)<L->∃g:Nat,rc[x]?=some (g:Int)/\g<aa.length/\Cz ae c x=g:=fun c rc h1 h2 x hx=>by
  have h3:=wf.rows rc h2
  have bS:x<rc.length:=by lia
  have h4:=h3.2 rc[x] (j2_ _)
  refine⟨rc[x].toNat,by rw[jf_ bS];congr 1;lia,by lia,?_⟩
  rw[CO (row:=rc) (g:=rc[x]) (by rw[ji_];exact h1) (by rw[ji_];exact jf_ bS)]
  lia
 unfold ln41
 rw[ga,gb,xE_,h.2 a b ha hb]
 refine and_congr qk_ ?_
 constructor
 ·intro e x x0 x1
  obtain⟨xn,rfl⟩:∃xn:Nat,x=(xn:Int):=⟨x.toNat,by lia⟩
  obtain⟨g,g1,g2,g3⟩:=st a ra lZ ra2 xn x1
  obtain⟨f,f1,f2,f3⟩:=st b rb l3 rb2 xn x1
  rw[g3,f3,<-h.2 g f g2 f2]
  have:=jD_ (fun l:α2=>l[xn]?) e
  simp only[jd_,g1,f1,Option.map_some,ji_,zk_]at this
  exact this
 ·intro e
  refine qI_ fun xn=>?_
  by_cases hx:(xn:Int)<L
  ·obtain⟨g,g1,g2,g3⟩:=st a ra lZ ra2 xn hx
   obtain⟨f,f1,f2,f3⟩:=st b rb l3 rb2 xn hx
   have e1:=e (xn:Int) s!"" hx
   rw[g3,f3,<-h.2 g f g2 f2]at e1
   simp only[jd_,g1,f1,Option.map_some,ji_,zk_]
   exact e1
  ·rw[jQ_ (by rw[ja_];lia),jQ_ (by rw[ja_];lia)]
theorem ER.first    : ER L aa ae 0 aa:=⟨rfl,fun a b ha hb=>by
 constructor
 ·intro e v hv hl
  have:v=[]:=List.length_eq_zero_iff.mp s!""
  subst this
  show aa.getD ((a:Int)).toNat 0=aa.getD ((b:Int)).toNat 0
  rw[ji_,ji_];exact e
 ·intro h
  have:=h [] (AF.mpr fun x hx=>(by cases hx)) (jX_ _)
  have:aa.getD ((a:Int)).toNat 0=aa.getD ((b:Int)).toNat 0:=this
  rw[ji_,ji_]at this
  exact this⟩
noncomputable def Hy (H:Hp)(xs:List V)(ks:α1):Prop:=xs.length=ks.length/\∀(i:Nat) (k:α2),ks[i]?=some k->∃(t l:Addr) (c:Int) (w:α2),xs[i]?=some (.ref t)/\k=c::w/\H t=some (.tup [.int c,.ref l])/\H l=some (.lst (w.map V.int))
theorem Hy.nil  : Hy H [] []:=⟨rfl,fun i k h=>by simp at h⟩
theorem Hy.mono    (h:Hy H xs ks)(s:Same H H'):Hy H' xs ks:=⟨h.1,fun i k hk=>let ⟨t,l,c,w,a,b,d,e⟩:=h.2 i k hk;⟨t,l,c,w,a,b,s _ _ d,s _ _ e⟩⟩
theorem Hy.snoc {H:Hp}{xs:List V}{ks:α1}(h:Hy H xs ks){t l:Addr}{c:Int}{w:α2}(ht:H t=some (.tup [.int c,.ref l]))(hl:H l=some (.lst (w.map V.int))):Hy H (xs++[.ref t]) (ks++[c::w]):=by
 refine⟨by rw[jo_,jo_,h.1];rfl,fun i k hk=>?_⟩
 by_cases hi:i<ks.length
 ·rw[jj_ hi]at hk
  obtain⟨t',l',c',w',a,b,d,e⟩:=h.2 i k hk
  exact⟨t',l',c',w',by rw[jj_ (by rw[h.1];exact hi)];exact a,b,d,e⟩
 ·rw[jr_ s!""]at hk
  have h0:i-ks.length=0:=by
   have:=(jb_.mp hk).1
   simpa using this
  rw[h0]at hk
  have hk:c::w=k:=by simpa using hk
  subst hk
  exact⟨t,l,c,w,by rw[jr_ (by rw[h.1];lia),h.1,h0];rfl,rfl,ht,hl⟩
theorem Hy.at {H:Hp}{xs:List V}{ks:α1}(h:Hy H xs ks){i:Nat}{x:V}(hx:xs[i]?=some x):∃(t l:Addr) (c:Int) (w:α2),ks[i]?=some (c::w)/\x=.ref t/\H t=some (.tup [.int c,.ref l])/\H l=some (.lst (w.map V.int)):=by
 have hi:i<ks.length:=by rw[<-h.1];exact (jb_.mp hx).1
 obtain⟨t,l,c,w,a,b,d,e⟩:=h.2 i ks[i] (by simp[hi])
 rw[hx]at a
 exact⟨t,l,c,w,by rw[<-b];simp[hi],jp_ a,d,e⟩
theorem eqP {K:α3}{H:Hp}{t l t' l':Addr}{c c':Int}{w w':α2}(ht:H t=some (.tup [.int c,.ref l]))(hl:H l=some (.lst (w.map V.int)))(dJ:H t'=some (.tup [.int c',.ref l']))(eF:H l'=some (.lst (w'.map V.int))):
  EqD K H 4 (.ref t) (.ref t') (decide (c::w=c'::w')):=by
 refine .inr ⟨t,t',_,_,rfl,rfl,.inr ⟨SqT.of ht,SqT.of dJ⟩,fun i=>if i=0 then decide (c=c') else decide (w=w'),fun i x y hx hy=>?_,?_⟩
 ·match i,hx,hy with
  |0,hx,hy=>
   cases hx;cases hy
   refine .inl ⟨rfl,rfl,?_⟩
   show decide (c=c')=(c==c')
   by_cases h:c=c'<;>simp[h]
  |1,hx,hy=>
   cases hx;cases hy
   have:=EqD.ints (K:=K) (xs:=w) (ys:=w') (.inl ⟨SqL.of hl,SqL.of eF⟩) 2
   exact this
  |i+2,hx,hy=>simp at hx
 ·rw[qz_,qo_]
  simp[xS_]
theorem Hy.eqs {K:α3}{H:Hp}{xs:List V}{ks:α1}(h:Hy H xs ks){t l:Addr}{c:Int}{w:α2}(ht:H t=some (.tup [.int c,.ref l]))(hl:H l=some (.lst (w.map V.int))):EqsD K H 4 xs (.ref t) (fun i=>decide (ks[i]?=some (c::w))):=by
 refine⟨fun i v hv=>?_,fun i j v hi hj=>?_⟩
 ·obtain⟨t',l',c',w',a,rfl,d,e⟩:=h.at hv
  refine⟨t',rfl,?_⟩
  show EqD K H 4 (.ref t') (.ref t) (decide (ks[i]?=some (c::w)))
  rw[show (decide (ks[i]?=some (c::w)))=decide (c'::w'=c::w) by rw[a];simp]
  exact eqP d e ht hl
 ·obtain⟨t1,l1,c1,w1,a1,rfl,d1,e1⟩:=h.at hi
  obtain⟨t2,l2,c2,w2,a2,z,d2,e2⟩:=h.at hj
  cases z
  rw[d1]at d2
  cases d2
  rw[e1]at e2
  have:=jp_ e2
  injection this with this
  have:=(zO_ (fun x y z=>V.int.inj z)).mp this
  show decide (ks[i]?=some (c::w))=decide (ks[j]?=some (c::w))
  rw[a1,a2,this]
theorem Dc_ {ks:α1}{k:α2}:((List.range ks.length).any fun i=>decide (ks[i]?=some k))=decide (k∈ks):=by
 rw[qz_,x2_,qo_]
 constructor
 ·rintro⟨i,_,h⟩
  exact jc_ (qv_ h)
 ·intro h
  obtain⟨i,hi⟩:=jG_.mp h
  exact⟨i,jP_.mpr (jb_.mp hi).1,qg_ hi⟩
noncomputable def DL (names:α2)(ae:α1):α1:=(List.range names.length).map (ln41 names ae)
noncomputable def nx31 (names:α2)(ae:α1):α2:=(DL names ae).map fun k=>((((DL names ae).foldl ins []).idxOf k:Nat):Int)
theorem ER.turn    (wf:Wf L aa ae)   (h:ER L aa ae k names):ER L aa ae (k+1) (nx31 names ae):=by
 have dN:∀a:Nat,a<aa.length->(DL names ae)[a]?=some (ln41 names ae a):=fun a ha=>by
  unfold DL
  rw[jd_,qB_ (by rw[h.1];exact ha)];rfl
 have nat:∀a:Nat,a<aa.length->(nx31 names ae).getD a 0=((((DL names ae).foldl ins []).idxOf (ln41 names ae a):Nat):Int):=fun a ha=>by
  unfold nx31
  rw[jh_,jd_,dN a ha];rfl
 refine ER.more wf h (by unfold nx31 DL;rw[ja_,ja_,qV_,h.1]) fun a b ha hb=>?_
 rw[nat a ha,nat b hb]
 constructor
 ·intro e
  have e:((DL names ae).foldl ins []).idxOf (ln41 names ae a)=((DL names ae).foldl ins []).idxOf (ln41 names ae b):=by lia
  have ma:=Mr.mpr (jc_ (dN a ha))
  have mb:=Mr.mpr (jc_ (dN b hb))
  have ga:=qY_ (xF_.mpr ma)
  have gb:=qY_ (xF_.mpr mb)
  rw[<-ga,<-gb]
  congr 1
 ·intro e;rw[e]
noncomputable def Y1 (K:α3):Sp:=fun vs H Q _=>∃(h:Addr) (L:Int) (aa:α2) (ae:α1),vs=[.ref h]/\BU K H h L aa ae/\Wf L aa ae/\∀(p:Addr) (names:α2) (H':Hp),Same H H'->H p=none->H' p=some (.lst (names.map V.int))->ER L aa ae aa.length names->Q (.ref p) H'
theorem Mu   (F:Fun K "_law_classes" "_law_classes" BY f fd)(T:Txt mg)
  : FnOk P w K mg base CX0 1 f fd ["house"] (Y1 K):=by
 refine F.ok BB (fun vs H Q E h=>?_) (fun ay A outer s H vs Q E hr h=>?_)
 ·obtain⟨h,L,aa,ae,rfl,_⟩:=h;rfl
 ·obtain⟨h,L,aa,ae,rfl,hh,wf,k⟩:=h
  have hl:=AE
  have aN:=wf.n40
  have b7:=wf.n1
  have cB:=wf.l1
  have cC:=wf.l6
  refine⟨_,(Ad (Cd (i:=1) BB.nd rfl (Or.inr rfl) (AO Gn rfl T.list xk_ (Aa (Ah (ixTD Ao) (pvD 0) Ac) Ae)))
   (Ad (Ci jJ_ rfl (Bh rfl T.range (Aa (As (lenD Ak) (by rfl) T.len jI_ (Aa (Ah (ixTD Ao) (pvD 0) Ac) Ae)) Ae)) (Au (i:=2) BB.nd rfl (Or.inl rfl))
   (Ad (Ia (i:=3) BB.nd rfl rfl rfl (B4 rfl) (cp:=F2) ⟨⟨rfl,rfl⟩,⟨⟨rfl,rfl⟩,True.intro⟩⟩ (Bh rfl T.range (Aa (As (lenD Ak) (by rfl) T.len jI_ (Aa (pvD 1) Ae)) Ae)) (fun _ _ _ _=>(Au (i:=0) Iq rfl (Or.inl rfl))) (fun _ _ _ _=>Ce) (fun _ _ _ _=>(Dj (Aa (Ah (ixLD (Cv (K:=K) rfl)) (pvD 1) (pvD 0)) (Aa (B3 rfl (B4 rfl) (cp:=F3) ⟨⟨rfl,rfl⟩,True.intro⟩ (Yk (K:=K) rfl (Ah (ixTD (Dz (K:=K) rfl)) (Ah (ixTD (Dz (K:=K) rfl)) (pvD 2) Ac) (pvD 0))) (fun _ _ _ _=>(Au (i:=0) Ir rfl (Or.inl rfl))) (fun _ _ _ _=>Ce) (fun _ _ _ _=>(Ah (ixLD (Cv (K:=K) rfl)) (pvD 1) (pvD 0)))) Ae)))))
   (Ad (Cd (i:=4) BB.nd rfl (Or.inr rfl) (Cu Ae))
   (Ad (Ci jJ_ rfl (B2 (pvD 3)) (Au (i:=5) BB.nd rfl (Or.inl rfl))
   (Ag (Cy (ptT (Aw (YR 4 (hu45 (hu9 hr))) (pvD 5) (pvD 4) rfl))
   (Ag (BS (FA jE_ jM_ jN_ Bi (pvD 4) (Aa (pvD 5) Ae))))
   AX)))
   (Ag (Cd (i:=1) BB.nd rfl (Or.inr rfl) (B3 rfl (B4 rfl) (cp:=F4) ⟨⟨rfl,rfl⟩,True.intro⟩ (B2 (pvD 3)) (fun _ _ _ _=>(Au (i:=0) Iu rfl (Or.inl rfl))) (fun _ _ _ _=>Ce) (fun _ _ _ _=>(Bl_ (K:=K) rfl jE_ PySem.F.slot_list_index PySem.F.type_list_index (Wg (K:=K) rfl 4 (hu46 (hu9 hr))) (pvD 1) (Aa (pvD 0) Ae))))))))))
   (Ag (AR (pvD 1))))),?_⟩
  obtain⟨tm,tw,q1,q2,q3⟩:=id hh
  walk_at "rd"
  refine⟨_,q1,_,rfl,tm,rfl,_,.inr q2,fun pn l4=>?_⟩
  have s0:=Same.new l4 (o:=.lst (aa.map V.int))
  refine⟨_,s0.seqT q1,_,rfl,tm,rfl,_,.inr (s0.seqT q2),?_⟩
  rw[ja_]
  refine⟨by lia,by lia,?_⟩
  rw[ji_]
  obtain⟨Pv,aq⟩:∃Pv:Nat->St->Hp->Prop,∀i ag H',Pv i ag H'↔(∃(names:α2) (pn:Addr) (o2 o3 o4 o5:Option V),Same H H'/\H pn=none/\H' pn=some (.lst (names.map V.int))/\ER L aa ae i names/\ag=[some (.ref h),some (.ref pn),o2,o3,o4,o5]):=⟨_,fun _ _ _=>qk_⟩
  refine forR Pv ((aq _ _ _).mpr ⟨aa,pn,none,none,none,none,s0,l4,Ab,ER.first,rfl⟩) (fun i aj H2 hi h2=>?_) (fun aj H2 h2=>?_)
  ·obtain⟨names,pn,o2,o3,o4,o5,s2,hnN,fE,nm,rfl⟩:=(aq _ _ _).mp h2
   have hnl:names.length=aa.length:=nm.1
   walk_at "rd"
   refine⟨_,.inl (SqL.of fE),?_⟩
   rw[ja_]
   refine⟨by lia,by lia,?_⟩
   rw[ji_]
   have hlk:(DL names ae).length=names.length:=by unfold DL;rw[ja_,qV_]
   have hlat:∀r,r<names.length->(DL names ae)[r]?=some (ln41 names ae r):=fun r hr=>by unfold DL;rw[jd_,qB_ hr];rfl
   have eG:∀g:Int,0<=g->g<aa.length->(names.map V.int)[g.toNat]?=some (V.int (names.getD g.toNat 0)):=fun g g0 g1=>by rw[jd_,jh_,jf_ s!""];rfl
   refine Ra (fun i' xs ag H'=>Same H2 H'/\Hy H' xs ((DL names ae).take i')/\∃o,ag=[o,some (.ref pn),some (.ref h)]) ⟨Same.refl _,Hy.nil,none,rfl⟩ s!"" (fun i' xs ag H' hi' h'=>by rw[h'.2.1.1,jB_];lia) (fun i' xs ag H' hi' h'=>?_) (fun xs ag Hc h' pk og=>?_)
   ·obtain⟨s3,fX,o,rfl⟩:=h'
    rw[zP_]
    obtain⟨row,w1,w2,w3⟩:=wf.row (r:=(i':Int)) s!"" s!""
    rw[ji_]at w1
    obtain⟨ir,gN,g1,g2,g3⟩:=hh.mono (s2.trans s3)
    obtain⟨zs,t,z1,z2,z3⟩:=g3.at w1
    have hrow:=wf.rows row w2
    walk_at "rd"
    refine⟨_,SqL.of (s3 _ _ fE),_,Ej s!"" (eG _ s!"" s!""),?_⟩
    refine⟨_,g1,_,rfl,gN,rfl,_,z1,_,z2,t,rfl,⟨_,z3⟩,?_⟩
    refine He (ag:=[some (.ref pn)]) (fun x=>match x with | .int g=>.int (names.getD g.toNat 0)|_=>.non) rfl z3 (by rw[ja_];lia) (fun x hx R hR=>?_) (fun D hD=>?_)
    ·obtain⟨g,hg,rfl⟩:=jv_.mp hx
     have bR:=hrow.2 g hg
     walk_at "rd"
     exact⟨_,SqL.of (s3 _ _ fE),_,Ej bR.1 (eG g bR.1 bR.2),hR⟩
    ·refine⟨by lia,fun p hp=>?_⟩
     rw[ji_]
     have sD:=(Same.new hD (o:=.lst ((row.map V.int).map fun x=>match x with | .int g=>.int (names.getD g.toNat 0)|_=>.non))).newT hp (o:=.tup [V.int (names.getD i' 0),V.ref D])
     have e1:=Same.new hp (o:=.tup [V.int (names.getD i' 0),V.ref D]) _ _ (Ab (H:=H') (a:=D) (o:=.lst ((row.map V.int).map fun x=>match x with | .int g=>.int (names.getD g.toNat 0)|_=>.non)))
     have e2:upd (upd H' D (.lst ((row.map V.int).map fun x=>match x with | .int g=>.int (names.getD g.toNat 0)|_=>.non))) p (.tup [V.int (names.getD i' 0),V.ref D]) p=some (.tup [V.int (names.getD i' 0),V.ref D]):=Ab
     generalize upd (upd H' D (.lst ((row.map V.int).map fun x=>match x with | .int g=>.int (names.getD g.toNat 0)|_=>.non))) p (.tup [V.int (names.getD i' 0),V.ref D])=H4 at sD e1 e2 ⊢
     refine⟨s3.trans sD,?_,_,rfl⟩
     rw[jU_,hlat i' hi',qK_]
     have e3:ln41 names ae i'=names.getD i' 0::row.map fun a=>names.getD a.toNat 0:=by
      unfold ln41
      rw[jh_ (l:=ae),w1];rfl
     rw[e3]
     refine (fX.mono sD).snoc e2 ?_
     rw[e1,jW_,jW_]
     rfl
   ·obtain⟨s3,fX,o,rfl⟩:=h'
    rw[<-hlk,jT_]at fX
    walk_at "rd"
    refine⟨by lia,fun p hp=>?_⟩
    have sK:=s3.newT og (o:=.lst xs)
    have sp:=(Same.new og (o:=.lst xs)).newT hp (o:=.lst [])
    have jt:pk≠p:=qx_ (A4 hp).2
    have l5:upd (upd Hc pk (.lst xs)) p (.lst []) pk=some (.lst xs):=by rw[Ai jt];exact Ab
    have ep:upd (upd Hc pk (.lst xs)) p (.lst []) p=some (.lst []):=Ab
    have hpN:H2 p=none:=(s3.newT og (o:=.lst xs)).none hp
    have hk4:=fX.mono sp
    have s4:Same H2 (upd (upd Hc pk (.lst xs)) p (.lst [])):=s3.trans sp
    have ju:=sp
    generalize upd (upd Hc pk (.lst xs)) p (.lst [])=H4 at s4 l5 ep hk4 ju ⊢
    have hpN2:H p=none:=s2.none hpN
    have bS:=hk4.1
    refine⟨⟨_,SqL.of l5⟩,?_⟩
    have j0:=(A4 hp).1
    obtain⟨Pw,bQ⟩:∃Pv:Nat->St->Hp->Prop,∀j ag H',Pv j ag H'↔(∃(ys:List V) (o5:Option V),DH p H4 H'/\H' p=some (.lst ys)/\Hy Hc ys (((DL names ae).take j).foldl ins [])/\ag=[some (.ref h),some (.ref pn),some (.int (0+(i:Int))),some (.ref pk),some (.ref p),o5]):=⟨_,fun _ _ _=>qk_⟩
    refine forL (xs:=xs) Pw ((bQ _ _ _).mpr ⟨[],_,fun _ _ _ e=>e,ep,Hy.nil,rfl⟩) (fun j ag H' _ h'=>by obtain⟨_,_,s',_⟩:=(bQ _ _ _).mp h';exact SqL.of (s' _ _ jt l5)) (fun j x ag H5 hx h'=>?_) (fun ag H5 h'=>?_)
    ·obtain⟨ys,o5,s5,b8,iN,rfl⟩:=(bQ _ _ _).mp h'
     have sc:Same Hc H5:=fun b o e=>s5 b o (AB e j0) (ju _ _ e)
     have j3:=iN.mono sc
     obtain⟨t,l,c,w0,bZ,rfl,ht,dX⟩:=fX.at hx
     have oh:H5 t=some (.tup [.int c,.ref l]):=s5 _ _ (AB ht j0) (ju _ _ ht)
     have oi:H5 l=some (.lst (w0.map V.int)):=s5 _ _ (AB dX j0) (ju _ _ dX)
     have kD:=j3.1
     have dI:=Ea ((DL names ae).take j) []
     rw[jB_,qt_]at dI
     walk_at "rd"
     refine⟨ys,SqL.of b8,_,j3.eqs oh oi,?_⟩
     rw[kD,Dc_]
     have lq:((DL names ae).take (j+1)).foldl ins []=ins (((DL names ae).take j).foldl ins []) (c::w0):=by rw[jU_,bZ,qK_,qJ_];rfl
     refine ite2 (fun hy=>?_) (fun hn=>?_)
     ·have hy:¬ (c::w0∈((DL names ae).take j).foldl ins []):=by simpa using hy
      refine⟨.inl ⟨rfl,_,SqL.of b8⟩,ys,b8,by lia,(bQ _ _ _).mpr ⟨_,_,fun b o hb e=>by rw[Ai hb];exact s5 b o hb e,Ab,?_,rfl⟩⟩
      rw[lq,show ins (((DL names ae).take j).foldl ins []) (c::w0)=((DL names ae).take j).foldl ins []++[c::w0] from if_neg hy]
      exact iN.snoc ht dX
     ·have hn:c::w0∈((DL names ae).take j).foldl ins []:=by simpa using hn
      refine (bQ _ _ _).mpr ⟨ys,_,s5,b8,?_,rfl⟩
      rw[lq,show ins (((DL names ae).take j).foldl ins []) (c::w0)=((DL names ae).take j).foldl ins [] from if_pos hn]
      exact iN
    ·obtain⟨ys,o5,s5,b8,iN,rfl⟩:=(bQ _ _ _).mp h'
     have sc:Same Hc H5:=fun b o e=>s5 b o (AB e j0) (ju _ _ e)
     have j3:=iN.mono sc
     rw[bS,jT_]at j3
     have dI:=Ea (DL names ae) []
     rw[qt_]at dI
     have kD:=j3.1
     have epk5:=s5 _ _ jt l5
     walk_at "rd"
     refine⟨⟨_,SqL.of epk5⟩,?_⟩
     refine Q9 (xs:=xs) (fun i' us ag H'=>H'=H5/\us=(((DL names ae).take i').map fun k=>(((((DL names ae).foldl ins []).idxOf k:Nat):Int))).map V.int/\∃o,ag=[o,some (.ref p)]) ⟨rfl,rfl,none,rfl⟩ s!"" (fun i' us ag H' hi' h'=>by obtain⟨rfl,rfl,_⟩:=h';exact⟨SqL.of epk5,by rw[ja_,ja_,jB_];lia⟩) (fun i' x us ag H' hx h'=>?_) (fun us ag H' h' D hD=>?_)
     ·obtain⟨rfl,rfl,o,rfl⟩:=h'
      obtain⟨t,l,c,w0,bZ,rfl,ht,dX⟩:=fX.at hx
      have oh:H' t=some (.tup [.int c,.ref l]):=s5 _ _ (AB ht j0) (ju _ _ ht)
      have oi:H' l=some (.lst (w0.map V.int)):=s5 _ _ (AB dX j0) (ju _ _ dX)
      have aP:=Mr.mpr (jc_ bZ)
      have gO:=xF_.mpr aP
      walk_at "rd"
      refine⟨.inl ⟨rfl,_,SqL.of b8⟩,ys,b8,_,j3.eqs oh oi,((DL names ae).foldl ins []).idxOf (c::w0),by lia,?_,fun j hj=>?_,by lia,?_,_,rfl⟩
      ·exact qg_ (by rw[jf_ gO,qY_])
      ·refine qc_ fun z=>?_
       have:=U5 z
       lia
      ·rw[jU_,bZ,qK_,jS_,jS_]
       rfl
     ·obtain⟨rfl,rfl,o,rfl⟩:=h'
      rw[bS,jT_]
      have sH:Same H H':=fun b o e=>s5 b o (AB e hpN2) (s4 _ _ (s2 _ _ e))
      exact (aq _ _ _).mpr ⟨nx31 names ae,D,_,_,_,_,sH.newT hD,sH.none hD,Ab,nm.turn wf,rfl⟩
  ·obtain⟨names,pn,o2,o3,o4,o5,s2,hnN,fE,nm,rfl⟩:=(aq _ _ _).mp h2
   walk_at "rd"
   exact k pn names _ s2 hnN fE nm
theorem Y2 {c c':α2}:∀(R ai:α2),(∀r s,(r∈ai\/r∈R)->(s∈ai\/s∈R)->(cf c r=cf c s↔cf c' r=cf c' s))->R.foldl (Cw c) ai=R.foldl (Cw c') ai
 |[],ai,_=>rfl
 |q::R,ai,h=>by
  have e:Cw c ai q=Cw c' ai q:=by
   unfold Cw
   have:cf c q∈ai.map (cf c)↔cf c' q∈ai.map (cf c'):=by
    rw[jv_,jv_]
    constructor
    ·rintro⟨a,ha,e⟩;exact⟨a,ha,(h a q (.inl ha) (.inr jn_)).mp e⟩
    ·rintro⟨a,ha,e⟩;exact⟨a,ha,(h a q (.inl ha) (.inr jn_)).mpr e⟩
   by_cases hq:cf c q∈ai.map (cf c)
   ·rw[if_pos hq,if_pos (this.mp hq)]
   ·rw[if_neg hq,if_neg (fun z=>hq (this.mpr z))]
  rw[q7_,q7_,e]
  have sub:∀r,r∈Cw c' ai q->r∈ai\/r∈q::R:=fun r hr=>by
   unfold Cw at hr
   split at hr
   ·exact .inl hr
   ·rcases jA_.mp hr with hr|hr
    ·exact .inl hr
    ·exact .inr (by rw[jq_.mp hr];exact jn_)
  refine Y2 R _ fun r s hr hs=>h r s ?_ ?_
  ·rcases hr with hr|hr
   ·exact sub r hr
   ·exact .inr (jk_ _ hr)
  ·rcases hs with hs|hs
   ·exact sub s hs
   ·exact .inr (jk_ _ hs)
theorem Dd_  (h:∀r s,r∈R->s∈R->(cf c r=cf c s↔cf c' r=cf c' s)):FR c R=FR c' R/\∀r∈R,hm c R r=hm c' R r:=by
 have e:FR c R=FR c' R:=Y2 R [] fun r s hr hs=>h r s (hr.resolve_left (by simp)) (hs.resolve_left (by simp))
 refine⟨e,fun r hr=>?_⟩
 obtain⟨j,q,hj,e1,e2,e3⟩:=F_hm (c:=c) hr
 have hq:q∈R:=IM (jc_ e2)
 rw[e]at e2
 rw[e1,<-hm_F e2]
 exact L2.hm_congr ((h q r hq hr).mp e3)
theorem Af_ {L:Nat}{aa:α2}{ae:α1}(wf:Wf L aa ae){names:α2}(nm:ER L aa ae aa.length names):∀r s,r∈rOf ae->s∈rOf ae->(cf names r=cf names s↔cf (cOf L aa ae) r=cf (cOf L aa ae) s):=by
 intro r s hr hs
 have r0:=Ff wf hr
 have s0:=Ff wf hs
 have h1:=nm.2 r.toNat s.toNat s!"" s!""
 rw[show ((r.toNat:Nat):Int)=r by lia,show ((s.toNat:Nat):Int)=s by lia]at h1
 show names.getD r.toNat 0=names.getD s.toNat 0↔_
 rw[h1]
 constructor
 ·intro h
  refine OD wf (finO wf) r0.1 r0.2 s0.1 s0.2 fun w hw=>?_
  have aS:=Yy wf
  exact JW.all (rs:=rOf ae) (LS wf) (fun q hq x x0 x1=>Jw wf hq x0 x1) hr hs (fun v hv hl=>h v hv s!"") w hw
 ·intro h v hv _
  exact Te wf (finO wf) v hv r0.1 r0.2 s0.1 s0.2 h
theorem De_ {L:Nat}{aa:α2}{ae:α1}(wf:Wf L aa ae){names:α2}(nm:ER L aa ae aa.length names):FR names (rOf ae)=sF L aa ae/\(sF L aa ae).map (hrow names (rOf ae) ae)=sW L aa ae:=by
 obtain⟨e1,e2⟩:=Dd_ (Af_ wf nm)
 refine⟨e1,?_⟩
 unfold sW
 refine qj_ fun r hr=>?_
 unfold hrow
 refine qj_ fun g hg=>e2 g ?_
 have bG:r∈rOf ae:=IM hr
 have r0:=Ff wf bG
 obtain⟨row,w1,w2,w3⟩:=wf.row r0.1 r0.2
 rw[jh_,w1]at hg
 obtain⟨x,hx,rfl⟩:=jR_ (show g∈row from hg)
 have:=Jw wf bG (x:=(x:Int)) s!"" s!""
 rw[CO w1 (g:=row[x]) (by rw[ji_];exact jf_ hx)]at this
 exact this
theorem RU:∀{ws:α2} {m:Nat} {w:Int},ws[m]?=some w->ws.idxOf w<=m
 |[],m,w,h=>by simp at h
 |v::ws,m,w,h=>by
  rw[zH_]
  cases m with
  |zero=>
   have:v=w:=by simpa using h
   simp[this]
  |succ m=>
   have:=RU (ws:=ws) (m:=m) (w:=w) (by simpa using h)
   cases e:(v==w) with
   |true=>exact jX_ _
   |false=>exact Nat.succ_le_succ this
noncomputable def Vu (K:α3):Sp:=fun vs H Q _=>∃(h:Addr) (L:Nat) (aa:α2) (ae:α1),vs=[.ref h]/\BU K H h L aa ae/\Wf L aa ae/\∀(p:Addr) (H':Hp),Same H H'->BU K H' p L (sM L aa ae) (sW L aa ae)->Q (.ref p) H'
theorem RV   (F:Fun K "_law_base" "_law_base" Dh f fd)(T:Txt mg)
   (Ew:FnOk P w K mg base CX0 1 B9 F7 ["house"] (OR K)) (CK:Fun K "_law_order_of" "_law_order_of" BA B9 F7) (Ex:A7 K F7 ["house"] []) (Ey:mg "_law_order_of"=some (.ref B9))
   (EV:FnOk P w K mg base CX0 1 Cm GS ["house"] (Y1 K)) (C3:Fun K "_law_classes" "_law_classes" BY Cm GS) (EW:A7 K GS ["house"] []) (EX:mg "_law_classes"=some (.ref Cm))
  : FnOk P w K mg base CX0 2 f fd ["house"] (Vu K):=by
 refine F.ok CH (fun vs H Q E h=>?_) (fun ay A outer s H vs Q E hr h=>?_)
 ·obtain⟨h,L,aa,ae,rfl,_⟩:=h;rfl
 ·obtain⟨h,L,aa,ae,rfl,hh,wf,k⟩:=h
  have hl:=AE
  have aN:=wf.n40
  have b7:=wf.n1
  have cB:=wf.l1
  have cC:=wf.l6
  refine⟨_,(Ad (Cd (i:=1) CH.nd rfl (Or.inr rfl) (Al EV (hr.mono (by decide)) rfl EX C3.kp EW .nil A3 (Aa (pvD 0) Ae)))
   (Ad (Aj (i:=2) CH.nd (Al Ew (hr.mono (by decide)) rfl Ey CK.kp Ex .nil A3 (Aa (pvD 0) Ae)))
   (Ad (Aj (i:=3) CH.nd (Cu Ae))
   (Ad (Ci jJ_ rfl (B2 (pvD 2)) (Au (i:=4) CH.nd rfl (Or.inl rfl))
   (Ag (Cy (ptT (Aw J8 (Ah (ixLD Bn) (pvD 1) (pvD 4)) (B3 rfl (B4 rfl) (cp:=IW) ⟨⟨rfl,rfl⟩,True.intro⟩ (B2 (pvD 3)) (fun _ _ _ _=>(Au (i:=0) Ku rfl (Or.inl rfl))) (fun _ _ _ _=>Ce) (fun _ _ _ _=>(Ah (ixLD (Cv (K:=K) rfl)) (pvD 1) (pvD 0)))) rfl))
   (Ag (BS (FA jE_ jM_ jN_ Bi (pvD 3) (Aa (pvD 4) Ae))))
   AX)))
   (Ad (Cd (i:=5) CH.nd rfl (Or.inr rfl) (B3 rfl (B4 rfl) (cp:=IX) ⟨⟨rfl,rfl⟩,True.intro⟩ (B2 (pvD 3)) (fun _ _ _ _=>(Au (i:=0) Kv rfl (Or.inl rfl))) (fun _ _ _ _=>Ce) (fun _ _ _ _=>(Ah (ixLD (Cv (K:=K) rfl)) (pvD 1) (pvD 0)))))
   (Ad (Ia (i:=6) CH.nd rfl rfl rfl (B4 rfl) (cp:=IY) ⟨⟨rfl,rfl⟩,⟨⟨rfl,rfl⟩,⟨⟨rfl,rfl⟩,True.intro⟩⟩⟩ (B2 (pvD 3)) (fun _ _ _ _=>(Au (i:=0) Kw rfl (Or.inl rfl))) (fun _ _ _ _=>Ce) (fun _ _ _ _=>(AO (FK (K:=K) rfl) rfl T.tuple jz_ (Aa (B3 rfl (B4 rfl) (cp:=IZ) ⟨⟨rfl,rfl⟩,⟨⟨rfl,rfl⟩,True.intro⟩⟩ (Yk (K:=K) rfl (Ah (ixTD (Dz (K:=K) rfl)) (Ah (ixTD (Dz (K:=K) rfl)) (pvD 3) Ac) (pvD 0))) (fun _ _ _ _=>(Au (i:=0) Kx rfl (Or.inl rfl))) (fun _ _ _ _=>Ce) (fun _ _ _ _=>(Bl_ (K:=K) rfl jE_ PySem.F.slot_list_index PySem.F.type_list_index Yh (pvD 1) (Aa (Ah (ixLD (Cv (K:=K) rfl)) (pvD 2) (pvD 0)) Ae)))) Ae))))
   (Ag (AR (Dj (Aa (Ah (ixTD Ao) (pvD 0) Ac) (Aa (AO AG rfl T.tuple jz_ (Aa (B3 rfl (B4 rfl) (cp:=HX) ⟨⟨rfl,rfl⟩,True.intro⟩ (B2 (pvD 3)) (fun _ _ _ _=>(Au (i:=0) JE rfl (Or.inl rfl))) (fun _ _ _ _=>Ce) (fun _ _ _ _=>(Ah (ixTD (Dz (K:=K) rfl)) (Ah (ixTD (Dz (K:=K) rfl)) (pvD 1) Ac) (pvD 0)))) Ae)) (Aa (AO AG rfl T.tuple jz_ (Aa (pvD 6) Ae)) Ae)))))))))))),?_⟩
  walk_at "rd"
  refine⟨h,L,aa,ae,rfl,hh,wf,fun pn names H1 s1 hpnN l4 nm=>?_⟩
  refine⟨h,L,aa,ae,rfl,hh.mono s1,wf,fun po H2 s2 hpoN l7=>?_⟩
  refine⟨by lia,fun pf fH=>?_⟩
  obtain⟨hF,hW⟩:=De_ wf nm
  have hR:((AA ae).map (·.1))=rOf ae:=rfl
  rw[hR]at l7
  have nL:=Yy wf
  have j4:=fun {r:Int} (h:r∈rOf ae)=>Ff wf h
  have hRs:=fun {r x:Int} (h:r∈rOf ae) (x0:0<=x) (x1:x<L)=>Jw wf h x0 x1
  have hnl:names.length=aa.length:=nm.1
  have eG:∀g:Int,0<=g->g<aa.length->(names.map V.int)[g.toNat]?=some (V.int (cf names g)):=fun g g0 g1=>by unfold cf;rw[jd_,jh_,jf_ s!""];rfl
  unfold sM at k
  rw[<-hW,<-hF]at k
  generalize rOf ae=R at l7 nL j4 hRs k
  have s12:=s1.trans s2
  have s3:=s12.newT fH (o:=.lst [])
  have i8:H pf=none:=s12.none fH
  have hpn2:=s2 _ _ l4
  have hpfo:pf≠po:=qx_ (AB l7 fH)
  have jv:pf≠pn:=qx_ (AB hpn2 fH)
  have epf:upd H2 pf (.lst []) pf=some (.lst []):=Ab
  have om:upd H2 pf (.lst []) po=some (.lst (R.map V.int)):=by rw[Ai (qx_ hpfo)];exact l7
  have oo:upd H2 pf (.lst []) pn=some (.lst (names.map V.int)):=by rw[Ai (qx_ jv)];exact hpn2
  generalize upd H2 pf (.lst [])=H3 at s3 epf om oo ⊢
  refine⟨po,rfl,⟨_,SqL.of om⟩,?_⟩
  have comp1:∀{H':Hp} {F:α2} {Q':VK} {cp:Caps} {σ:St},H' pn=some (.lst (names.map V.int))->H' pf=some (.lst (F.map V.int))->(∀r∈F,r∈R)->F.length<=40->cp.st σ=[none,some (.ref pn)]->(∀D,H' D=none->Q' (.ref D) (upd H' D (.lst ((F.map (cf names)).map V.int))))->Q8 (Itl K pf) cp (Jn 0) VI (tOp (ZP K) (V3 1) (V3 0)) σ H' Q':=fun {H' F Q' cp σ} h1 h2 cx ak e hd=>by
   refine Ln (ag:=[some (.ref pn)]) (fun x=>match x with | .int g=>.int (cf names g)|_=>.non) e (SqL.of h2) (by rw[ja_];lia) (fun x hx R' ig=>?_) (fun D hD=>?_)
   ·obtain⟨g,hg,rfl⟩:=jv_.mp hx
    have bR:=j4 (cx g hg)
    walk_at "rd"
    exact⟨_,SqL.of h1,_,Ej bR.1 (eG g bR.1 bR.2),ig⟩
   ·have:=hd D hD
    rw[jW_]at this ⊢
    exact this
  obtain⟨Pv,aq⟩:∃Pv:Nat->St->Hp->Prop,∀j ag H',Pv j ag H'↔(∃(o4:Option V),DH pf H3 H'/\Same H H'/\H' pf=some (.lst ((FR names (R.take j)).map V.int))/\ag=[some (.ref h),some (.ref pn),some (.ref po),some (.ref pf),o4,none,none]):=⟨_,fun _ _ _=>qk_⟩
  refine forL (xs:=R.map V.int) Pv ((aq _ _ _).mpr ⟨none,fun _ _ _ e=>e,s3,epf,rfl⟩) (fun j ag H' _ h'=>by obtain⟨_,s',_⟩:=(aq _ _ _).mp h';exact SqL.of (s' _ _ (qx_ hpfo) om)) (fun j x ag H' hx h'=>?_) (fun ag H' h'=>?_)
  ·obtain⟨o4,s4,l8,dh,rfl⟩:=(aq _ _ _).mp h'
   obtain⟨r,iz,rfl⟩:=Dy hx
   have l9:=jc_ iz
   have du:=j4 l9
   have oq:=Vb names (R.take j)
   rw[jB_]at oq
   have fO:=s4 _ _ (qx_ jv) oo
   walk_at "rd"
   refine⟨_,SqL.of fO,_,Ej du.1 (eG r du.1 du.2),⟨_,SqL.of dh⟩,?_⟩
   refine comp1 fO dh (fun q hq=>xf_ (IM hq)) s!"" rfl fun D hD=>?_
   have sD:=Same.new hD (o:=.lst (((FR names (R.take j)).map (cf names)).map V.int))
   have eD:upd H' D (.lst (((FR names (R.take j)).map (cf names)).map V.int)) D=some (.lst (((FR names (R.take j)).map (cf names)).map V.int)):=Ab
   have md:=sD _ _ dh
   generalize upd H' D (.lst (((FR names (R.take j)).map (cf names)).map V.int))=H5 at sD eD md ⊢
   refine⟨D,rfl,_,.inl (SqL.of eD),rfl,LJ _,?_⟩
   rw[UZ]
   have lq:=Yv (c:=names) iz
   refine ite2 (fun hy=>?_) (fun hn=>?_)
   ·have hy:¬ (cf names r∈(FR names (R.take j)).map (cf names)):=by simpa using hy
    refine⟨.inl ⟨rfl,_,SqL.of md⟩,_,md,by rw[ja_];lia,(aq _ _ _).mpr ⟨_,fun b o hb e=>by rw[Ai hb];exact sD _ _ (s4 b o hb e),(l8.trans sD).over i8,?_,rfl⟩⟩
    rw[Ab,lq,show Cw names (FR names (R.take j)) r=FR names (R.take j)++[r] from if_neg hy,jS_]
    rfl
   ·have hn:cf names r∈(FR names (R.take j)).map (cf names):=by simpa using hn
    refine (aq _ _ _).mpr ⟨_,fun b o hb e=>sD _ _ (s4 b o hb e),l8.trans sD,?_,rfl⟩
    rw[md,lq,show Cw names (FR names (R.take j)) r=FR names (R.take j) from if_pos hn]
  ·obtain⟨o4,s4,l8,dh,rfl⟩:=(aq _ _ _).mp h'
   rw[ja_,jT_]at dh
   have fO:=s4 _ _ (qx_ jv) oo
   have oq:=Vb names R
   walk_at "rd"
   refine⟨⟨_,SqL.of dh⟩,?_⟩
   refine comp1 fO dh (fun q hq=>IM hq) s!"" rfl fun pm bC=>?_
   have cx:∀q∈FR names R,q∈R:=fun q hq=>IM hq
   have bw:∀g∈R,cf names g∈(FR names R).map (cf names)/\hm names R g=((((FR names R).map (cf names)).idxOf (cf names g):Nat):Int):=fun g hg=>by
    unfold hm
    rw[LR]
    exact⟨A9.mpr (q5_ hg),rfl⟩
   have mf:=l8.newT bC (o:=.lst (((FR names R).map (cf names)).map V.int))
   have ot:=Same.new bC (o:=.lst (((FR names R).map (cf names)).map V.int))
   have jw:upd H' pm (.lst (((FR names R).map (cf names)).map V.int)) pm=some (.lst (((FR names R).map (cf names)).map V.int)):=Ab
   generalize upd H' pm (.lst (((FR names R).map (cf names)).map V.int))=H5 at mf ot jw ⊢
   have mh:=ot _ _ dh
   have epn5:=ot _ _ fO
   generalize FR names R=F at dh mh oq cx bw k jw
   refine⟨⟨_,SqL.of mh⟩,?_⟩
   have hFz:F.length<sizeLine:=by lia
   refine Q9 (xs:=F.map V.int) (fun i' zs ag H'=>Same H5 H'/\AY K H' zs ((F.take i').map (hrow names R ae))/\∃o,ag=[o,some (.ref pm),some (.ref pn),some (.ref h)]) ⟨Same.refl _,AY.nil,none,rfl⟩ (by rw[ja_];exact hFz) (fun i' zs ag H' hi' h'=>⟨SqL.of (h'.1 _ _ mh),by rw[h'.2.1.1,ja_,jB_];lia⟩) (fun i' x zs ag H6 hx h'=>?_) (fun zs ag H6 h' pw a9=>?_)
   ·obtain⟨s6,mj,o,rfl⟩:=h'
    obtain⟨r,iz,rfl⟩:=Dy hx
    have l9:=cx r (jc_ iz)
    have du:=j4 l9
    obtain⟨row,w1,w2,w3⟩:=wf.row du.1 du.2
    obtain⟨ir,gN,g1,g2,g3⟩:=hh.mono (mf.trans s6)
    obtain⟨ys,t,z1,z2,z3⟩:=g3.atZ du.1 w1
    have hrw:=wf.rows row w2
    have hgR:∀g∈row,g∈R:=fun g hg=>by
     obtain⟨x,hx,rfl⟩:=jR_ hg
     have:=hRs l9 (x:=(x:Int)) s!"" s!""
     rw[CO w1 (g:=row[x]) (by rw[ji_];exact jf_ hx)]at this
     exact this
    walk_at "rd"
    refine⟨_,g1,_,rfl,gN,rfl,_,z1,_,z2,t,rfl,⟨_,z3⟩,?_⟩
    refine He (ag:=[some (.ref pm),some (.ref pn)]) (fun x=>match x with | .int g=>.int (hm names R g)|_=>.non) rfl z3 (by rw[ja_];lia) (fun x hx R' ig=>?_) (fun D hD=>?_)
    ·obtain⟨g,hg,rfl⟩:=jv_.mp hx
     have bR:=j4 (hgR g hg)
     obtain⟨hc1,bX⟩:=bw g (hgR g hg)
     have gO:=xF_.mpr hc1
     rw[ja_]at gO
     walk_at "rd"
     refine⟨.inl ⟨rfl,_,SqL.of (s6 _ _ jw)⟩,_,SqL.of (s6 _ _ epn5),_,Ej bR.1 (eG g bR.1 bR.2),_,s6 _ _ jw,rfl,LJ _,(F.map (cf names)).idxOf (cf names g),by lia,⟨V.int (cf names g),?_,by simp[eqV]⟩,fun m z hm hz=>?_,?_⟩
     ·rw[jd_,jf_ (by rw[ja_];exact gO),qY_];rfl
     ·obtain⟨y,hy,rfl⟩:=Dy hz
      have aw:y≠cf names g:=fun z=>by
       have:=RU (by rw[hy,z])
       lia
      simp[eqV,aw]
     ·rw[<-bX];exact ig
    ·refine⟨D,rfl,_,.inl ⟨SqL.of Ab,fun l dX=>?_⟩⟩
     have sD:=(Same.new hD (o:=.lst ((row.map V.int).map fun x=>match x with | .int g=>.int (hm names R g)|_=>.non))).newT dX (o:=.tup ((row.map V.int).map fun x=>match x with | .int g=>.int (hm names R g)|_=>.non))
     refine⟨s6.trans sD,?_,_,rfl⟩
     rw[jU_,iz,qK_,jS_]
     refine (mj.mono (TK.of sD)).snoc ?_
     rw[Ab,jW_]
     unfold hrow
     rw[jh_,w1,Option.getD_some,jW_]
     rfl
   ·obtain⟨s6,mj,o,rfl⟩:=h'
    rw[ja_,jT_]at mj
    have s7:=s6.newT a9 (o:=.lst zs)
    have j5:upd H6 pw (.lst zs) pw=some (.lst zs):=Ab
    have eU:AY K (upd H6 pw (.lst zs)) zs _:=mj.mono (TK.new a9)
    generalize upd H6 pw (.lst zs)=H7 at s7 j5 eU ⊢
    have sH7:=mf.trans s7
    obtain⟨ir,gN,g1,g2,g3⟩:=hh.mono sH7
    have hf7:=s7 _ _ mh
    refine⟨_,g1,_,rfl,⟨_,SqL.of hf7⟩,?_⟩
    refine Ln (ag:=[some (.ref h)]) (fun x=>match x with | .int g=>.int (mkR aa g)|_=>.non) rfl (SqL.of hf7) (by rw[ja_];exact hFz) (fun x hx R' ig=>?_) (fun D hD=>?_)
    ·obtain⟨g,hg,rfl⟩:=jv_.mp hx
     have bR:=j4 (cx g hg)
     walk_at "rd"
     refine⟨_,g1,_,rfl,ir,rfl,_,g2,_,Ej bR.1 (v:=V.int (mkR aa g)) ?_,ig⟩
     rw[jd_,Bx_ s!""];rfl
    ·have sD:=s7.newT hD (o:=.lst ((F.map V.int).map fun x=>match x with | .int g=>.int (mkR aa g)|_=>.non))
     have eD:upd H7 D (.lst ((F.map V.int).map fun x=>match x with | .int g=>.int (mkR aa g)|_=>.non)) D=some (.lst ((F.map (mkR aa)).map V.int)):=by rw[Ab,jW_,jW_];rfl
     have ip:=Same.new hD (o:=.lst ((F.map V.int).map fun x=>match x with | .int g=>.int (mkR aa g)|_=>.non))
     generalize upd H7 D (.lst ((F.map V.int).map fun x=>match x with | .int g=>.int (mkR aa g)|_=>.non))=H8 at sD eD ip ⊢
     refine⟨D,rfl,_,.inl ⟨SqL.of eD,fun l dX=>?_⟩⟩
     have sl:=Same.new dX (o:=.tup ((F.map (mkR aa)).map V.int))
     have el:upd H8 l (.tup ((F.map (mkR aa)).map V.int)) l=some (.tup ((F.map (mkR aa)).map V.int)):=Ab
     generalize upd H8 l (.tup ((F.map (mkR aa)).map V.int))=H9 at sl el ⊢
     have epw9:=sl _ _ (ip _ _ j5)
     refine⟨pw,rfl,_,.inl ⟨SqL.of epw9,fun l1 bp=>⟨by lia,fun p hp=>?_⟩⟩⟩
     have hz9:=eU.mono (TK.of (ip.trans sl))
     have gP:=(Same.new bp (o:=.tup zs)).newT hp (o:=.tup [V.int L,V.ref l,V.ref l1])
     have e1:=Same.new hp (o:=.tup [V.int L,V.ref l,V.ref l1]) _ _ (Ab (H:=H9) (a:=l1) (o:=.tup zs))
     have e2:upd (upd H9 l1 (.tup zs)) p (.tup [V.int L,V.ref l,V.ref l1]) p=some (.tup [V.int L,V.ref l,V.ref l1]):=Ab
     have fP:=hz9.mono (TK.of gP)
     generalize upd (upd H9 l1 (.tup zs)) p (.tup [V.int L,V.ref l,V.ref l1])=ou at gP e1 e2 fP ⊢
     refine k p ou (((mf.trans sD).trans sl).trans gP) ⟨l,l1,SqT.of e2,SqT.of (gP _ _ el),?_⟩
     obtain⟨os,x1,x2,x3⟩:=Jd fP
     refine⟨os.map (·.1),?_,by rw[<-x2,ja_,ja_],fun i t row hi hrow=>?_⟩
     ·rw[jW_]
      rw[x1]at e1
      exact SqT.of e1
     ·rw[<-x2,jd_]at hrow
      rw[jd_]at hi
      cases ho:os[i]? with
      |none=>rw[ho]at hi;cases hi
      |some o=>
       rw[ho]at hi hrow
       cases hi;cases hrow
       exact SqT.of (x3 o (jc_ ho))
noncomputable def OS (K:α3):Sp:=fun vs H Q _=>∃(h:Addr) (L:Int) (aa:α2) (ae:α1) (num:Int),vs=[.ref h,.int num]/\BU K H h L aa ae/\Wf L aa ae/\∀h' ar aC H',Same H H'->BU K H' h' L ar aC->Wf L ar aC->ar.length=aa.length->Q (.ref h') H'
theorem Mv   (F:Fun K "_law_spoiled" "_law_spoiled" BX f fd)(T:Txt mg)
  : FnOk P w K mg base CX0 1 f fd ["house","number"] (OS K):=by
 refine F.ok B7 (fun vs H Q E h=>?_) (fun ay A outer s H vs Q E hr h=>?_)
 ·obtain⟨h,L,aa,ae,num,rfl,_⟩:=h;rfl
 ·obtain⟨h,L,aa,ae,num,rfl,hh,wf,k⟩:=h
  have hl:=AE
  have cB:=wf.l1
  have cC:=wf.l6
  have b7:=wf.n1
  have aN:=wf.n40
  obtain⟨tm,tw,q1,q2,q3⟩:=id hh
  refine⟨_,(Ad (Cd (i:=2) B7.nd rfl (Or.inr rfl) (AO Gn rfl T.list xk_ (Aa (Ah (ixTD Ao) (pvD 0) Ac) Ae)))
   (C0 (Cd (i:=3) B7.nd rfl (Or.inr rfl) (B3 rfl (B4 rfl) (cp:=FZ) True.intro (Gk (Ah (ixTD Ao) (pvD 0) Ac)) (fun _ _ _ _=>(Au (i:=0) Im rfl (Or.inl rfl))) (fun _ _ _ _=>Ce) (fun _ _ _ _=>(AO (Pe (K:=K) rfl) rfl T.list xk_ (Aa (pvD 0) Ae)))))
   (Ad (Cd (i:=4) B7.nd rfl (Or.inr rfl) (An (opD A5) (An (opD CB) (pvD 1) Ac) (As (lenD Ak) (by rfl) T.len jI_ (Aa (pvD 2) Ae))))
   (C0 (Cy (ptT (Aw (opE Dx) (An (opD A5) (pvD 1) Ac) Ac (AV _)))
   (Ag (QT (An (opD A5) (An (opD0 Bm) (An (opD0 Bm) (Ah (ixLD Bn) (pvD 2) (pvD 4)) Ac) (An (opD A5) (An (opD CB) (pvD 1) Ac) Ac)) Ac) (QS (pvD 2) (pvD 4) set_list)))
   AX)
   (C0 (Cy (ptT (Aw (opE Dx) (An (opD A5) (pvD 1) Ac) Ac (AV _)))
   (Ad (Cd (i:=5) B7.nd rfl (Or.inr rfl) (An (opD A5) (An (opD CB) (pvD 1) Ac) (Ah (ixTD Ao) (pvD 0) Ac)))
   (Ad (Ia (i:=6) B7.nd rfl rfl rfl (B4 rfl) (cp:=F0) ⟨⟨rfl,rfl⟩,⟨⟨rfl,rfl⟩,⟨⟨rfl,rfl⟩,⟨⟨rfl,rfl⟩,True.intro⟩⟩⟩⟩ (Bh rfl T.range (Aa (As (lenD Ak) (by rfl) T.len jI_ (Aa (pvD 2) Ae)) Ae)) (fun _ _ _ _=>(Au (i:=0) Io rfl (Or.inl rfl))) (fun _ _ _ _=>(AW_ (ptT (Aw (opE Dx) (Ah (ixLD (Cv (K:=K) rfl)) (pvD 1) (pvD 0)) (Ah (ixLD (Cv (K:=K) rfl)) (pvD 1) (Ah (ixLD (Cv (K:=K) rfl)) (Ah (ixLD (Cv (K:=K) rfl)) (pvD 3) (pvD 4)) (pvD 2))) (AV _))))) (fun _ _ _ _=>(pvD 0)))
   (Ag (QT (Ah (ixLD Bn) (pvD 6) (An (opD A5) (An (opD CB) (pvD 1) Ac) (As (lenD Ak) (by rfl) T.len jI_ (Aa (pvD 6) Ae)))) (QS (Ah (ixLD Bn) (pvD 3) (pvD 4)) (pvD 5) set_list)))))
   AX)
   (Ag (AR (Dj (Aa (Ah (ixTD Ao) (pvD 0) Ac) (Aa (AO AG rfl T.tuple jz_ (Aa (pvD 2) Ae)) (Aa (AO AG rfl T.tuple jz_ (Aa (B3 rfl (B4 rfl) (cp:=F1) True.intro (B2 (pvD 3)) (fun _ _ _ _=>(Au (i:=0) Ip rfl (Or.inl rfl))) (fun _ _ _ _=>Ce) (fun _ _ _ _=>(AO (FK (K:=K) rfl) rfl T.tuple jz_ (Aa (pvD 0) Ae)))) Ae)) Ae))))))))))),?_⟩
  walk_at "rd"
  refine⟨_,q1,_,rfl,?_⟩
  walk_at "rd"
  refine⟨_,.inr q2,fun pm bC=>?_⟩
  have sm:=Same.new (o:=.lst (aa.map V.int)) bC
  have cz:upd H pm (.lst (aa.map V.int)) pm=some (.lst (aa.map V.int)):=Ab
  generalize upd H pm (.lst (aa.map V.int))=H0 at sm cz ⊢
  obtain⟨R,hR⟩:∃R:St->Hp->Prop,∀ag H',R ag H'↔(∃(pw:Addr) (xs:List V) (ar:α2) (aC:α1) (room:Int) (o5 o6:Option V),Same H H'/\H0 pw=none/\H' pm=some (.lst (ar.map V.int))/\H' pw=some (.lst xs)/\LLs H0 H' xs aC/\pw≠pm/\0<=room/\room<aa.length/\ar.length=aa.length/\Wf L ar aC/\ag=[some (.ref h),some (.int num),some (.ref pm),some (.ref pw),some (.int room),o5,o6]):=⟨_,fun _ _=>qk_⟩
  obtain⟨R1,hR1⟩:∃R:St->Hp->Prop,∀ag H',R ag H'↔(∃(pw:Addr) (xs:List V),Same H0 H'/\H0 pw=none/\H' pw=some (.lst xs)/\LLs H0 H' xs ae/\ag=[some (.ref h),some (.int num),some (.ref pm),some (.ref pw),none,none,none]):=⟨_,fun _ _=>qk_⟩
  refine⟨R1,?_,fun gV H1 h1=>?_⟩
  ·obtain⟨ir,gN,y1,y2,y3⟩:=hh.mono sm
   obtain⟨ts,z1,z2,z3⟩:=id y3
   walk_at "rd"
   refine⟨_,y1,_,rfl,?_⟩
   walk_at "rd"
   refine⟨⟨_,z1⟩,?_⟩
   have ak:=wf.len
   refine Zu (xs:=ts.map V.ref) (fun i ys aj H2=>Same H0 H2/\LLs H0 H2 ys (ae.take i)/\∃o,aj=[o]) ⟨Same.refl _,by rw[zR_];exact LLs.nil _ _,none,rfl⟩ (by rw[ja_];lia) (fun i ys aj H2 _ h=>⟨h.1.seqT z1,by rw[h.2.1.len,jB_];lia⟩) (fun i x ys aj H2 hx h=>?_) (fun ys aj H2 h=>?_)
   ·obtain⟨s2,dD,o,rfl⟩:=h
    have hi:i<ts.length:=by have:=(jb_.mp hx).1;rwa [ja_]at this
    have iT:ts[i]?=some ts[i]:=by simp[hi]
    rw[jd_,iT]at hx
    cases hx
    have bV:ae[i]?=some ae[i]:=by simp[show i<ae.length by lia]
    walk_at "rd"
    refine⟨_,.inr (s2.seqT (z3 i _ _ iT bV)),fun l eF=>⟨s2.newT eF,?_,_,rfl⟩⟩
    rw[jU_,bV]
    exact dD.snoc (Same.none s2 eF) eF
   ·obtain⟨s2,dD,o,rfl⟩:=h
    rw[ja_,z2,jT_]at dD
    intro D hD
    exact (hR1 _ _).mpr ⟨D,ys,s2.newT hD,Same.none s2 hD,Ab,dD.mono (Same.new hD),rfl⟩
  obtain⟨pw,xs,s1,cU,a9,dD,rfl⟩:=(hR1 _ _).mp h1
  have jx:pw≠pm:=fun z=>by rw[z,cz]at cU;cases cU
  have hHpw:H pw=none:=Same.none sm cU
  walk_at "rd"
  refine⟨(show CDiv num 3 from ⟨by lia,by lia⟩),_,.inl (SqL.of (s1 _ _ cz)),?_⟩
  rw[ja_]
  refine⟨by lia,?_⟩
  have r0:=j6_ (num / 3) (show (aa.length:Int)≠0 by lia)
  have r1:=jZ_ (num / 3) (show (0:Int)<aa.length by lia)
  generalize num / 3%(aa.length:Int)=room at r0 r1 ⊢
  refine⟨R,?_,fun aj H2 h2=>?_⟩
  ·walk_at "rd"
   refine⟨by lia,ite2 (fun h3=>?_) (fun h3=>(hR _ _).mpr ⟨pw,xs,aa,ae,room,none,none,sm.trans s1,cU,s1 _ _ cz,a9,dD,jx,r0,r1,rfl,wf,rfl⟩)⟩
   have hi:room.toNat<aa.length:=by lia
   have m0:=j6_ (aa[room.toNat]+1+num / 120%1000000000) (show (1000000001:Int)≠0 by lia)
   have m1:=jZ_ (aa[room.toNat]+1+num / 120%1000000000) (show (0:Int)<1000000001 by lia)
   refine⟨_,SqL.of (s1 _ _ cz),_,Bx r0 (show aa[room.toNat]?=some aa[room.toNat] by simp[hi]),_,rfl,(show CDiv num 120 from ⟨by lia,by lia⟩),by lia,by lia,_,s1 _ _ cz,room.toNat,U0 r0 (by rw[ja_];exact r1),?_⟩
   generalize (aa[room.toNat]+1+num / 120%1000000000)%1000000001=mk at m0 m1 ⊢
   refine (hR _ _).mpr ⟨pw,xs,aa.set room.toNat mk,ae,room,none,none,(sm.trans s1).over bC,cU,by rw[Ab,UO],by rw[Ai jx];exact a9,dD.off cz,jx,r0,r1,by rw[qO_],wf.setM _ ⟨m0,by lia⟩,rfl⟩
  clear dD a9 s1 h1
  obtain⟨pw,xs,ar,aC,room,o5,o6,s2,cU,fW,dy,dD,aw,r0,r1,gu,f9,rfl⟩:=(hR _ _).mp h2
  refine⟨R,?_,fun aA H3 h3=>?_⟩
  ·walk_at "rd"
   refine⟨by lia,ite2 (fun h3=>?_) (fun h3=>h2)⟩
   obtain⟨ir,gN,y1,y2,y3⟩:=hh.mono s2
   have l0:=j6_ (num / 120) (show L≠0 by lia)
   have l1:=jZ_ (num / 120) (show (0:Int)<L by lia)
   refine⟨(show CDiv num 120 from ⟨by lia,by lia⟩),_,y1,_,rfl,_,rfl,by lia,_,.inl (SqL.of fW),by lia,by rw[ja_];lia,?_⟩
   generalize num / 120%L=letter at l0 l1 ⊢
   rw[ja_,ji_]
   have eZ:=f9.n40
   obtain⟨row,hrow,eB,cZ⟩:=f9.row r0 s!""
   obtain⟨t,f7,ht,gA,fL⟩:=dD.at hrow
   have au:letter.toNat<row.length:=by lia
   have hg:row[letter.toNat]?=some row[letter.toNat]:=by simp[au]
   have bR:=(f9.rows row eB).2 row[letter.toNat] (j2_ au)
   generalize row[letter.toNat]=g0 at hg bR
   refine Ra (fun i ys bu H4=>H4=H2/\(∃gs:α2,ys=gs.map V.int/\gs.length<=i/\(∀g∈gs,0<=g/\g<ar.length)/\(g0<i->gs ≠ []))/\∃o,bu=[o,some (.ref pm),some (.int letter),some (.ref pw),some (.int room)]) ⟨rfl,⟨[],rfl,by simp,by simp,fun h=>absurd h (by push_cast;lia)⟩,none,rfl⟩ s!"" (fun i ys bu H4 _ h=>by obtain⟨_,⟨gs,rfl,h,_⟩,_⟩:=h;rw[ja_];exact h) (fun i ys bu H4 hi h=>?_) (fun ys bu H4 h=>?_)
   ·obtain⟨rfl,⟨gs,rfl,hgl,mn,oy⟩,o,rfl⟩:=h
    have ei:(0:Int)+(i:Nat)=(i:Int):=by lia
    rw[ei]
    walk_at "rd"
    refine⟨_,SqL.of fW,_,X4 s!"" s!"",_,SqL.of dy,_,Ej r0 f7,?_⟩
    walk_at "rd"
    refine⟨_,SqL.of ht,_,Bx l0 hg,_,_,rfl,SqL.of fW,_,X4 bR.1 bR.2,rfl,?_⟩
    by_cases he:mkW ar (i:Int)=mkW ar g0
    ·rw[if_pos (jD_ V.int he)]
     refine⟨⟨gs++[(i:Int)],by simp,by simp;lia,fun g hg=>?_,fun _=>by simp⟩,_,rfl⟩
     rcases jA_.mp hg with hg|hg
     ·exact mn g hg
     ·rw[jq_.mp hg];lia
    ·rw[if_neg (fun z=>he (V.int.inj z))]
     refine⟨⟨gs,rfl,by lia,mn,fun h=>oy ?_⟩,_,rfl⟩
     have:g0≠i:=fun z=>he (by rw[z])
     push_cast at h
     lia
   ·obtain⟨rfl,⟨gs,rfl,hgl,mn,oy⟩,o,rfl⟩:=h
    intro D hD
    have hne':gs ≠ []:=oy bR.2
    have hgp:0<gs.length:=zI_.mpr hne'
    have sD:=Same.new (o:=.lst (gs.map V.int)) hD
    have i0:=j6_ (num / 720) (show (gs.length:Int)≠0 by lia)
    have i1:=jZ_ (num / 720) (show (0:Int)<gs.length by lia)
    have ef:(num / 720%(gs.length:Int)).toNat<gs.length:=by lia
    refine⟨(show CDiv num 720 from ⟨by lia,by lia⟩),D,rfl,_,.inl (SqL.of Ab),by rw[ja_];lia,D,rfl,_,SqL.of Ab,V.int gs[(num / 720%(gs.length:Int)).toNat],by rw[ja_];exact Bx i0 (by simp[ef]),_,SqL.of (sD _ _ dy),_,Ej r0 f7,t,rfl,_,sD _ _ ht,letter.toNat,U0 l0 (by rw[ja_];lia),?_⟩
    have hgx:=mn _ (j2_ ef)
    generalize gs[(num / 720%(gs.length:Int)).toNat]=gx at hgx ⊢
    have gv:pm≠t:=fun z=>by rw[<-z,cz]at gA;cases gA
    have hwt:pw≠t:=fun z=>by
     rw[<-z,dy]at ht
     have:=jD_ (fun o=>match o with|some (HO.lst l)=>l[room.toNat]? | _=>none) ht
     simp only[f7]at this
     rw[jd_]at this
     cases e:row[room.toNat]? with
     |none=>rw[e]at this;cases this
     |some v=>rw[e]at this;cases this
    rw[UO]
    have hLs:LLs H0 (upd (upd H4 D (.lst (gs.map V.int))) t (.lst ((row.set letter.toNat gx).map V.int))) xs (aC.set room.toNat (row.set letter.toNat gx)):=by
     obtain⟨t',a1,_,_,a4⟩:=(dD.mono sD).at hrow
     rw[f7]at a1
     cases a1
     exact a4 _ _
    exact (hR _ _).mpr ⟨pw,xs,ar,_,room,_,_,(s2.newT hD).over (Same.none sm gA),cU,by rw[Ai gv];exact sD _ _ fW,by rw[Ai hwt];exact sD _ _ dy,hLs,aw,r0,r1,gu,f9.setW hrow _ hgx,rfl⟩
  obtain⟨pw,xs,ar,aC,room,o5,o6,s3,cU,lW,cT,dD,aw,r0,r1,gu,f9,rfl⟩:=(hR _ _).mp h3
  obtain⟨ir,gN,y1,y2,y3⟩:=hh.mono s3
  walk_at "rd"
  refine⟨_,y1,_,rfl,?_⟩
  walk_at "rd"
  refine⟨_,.inl ⟨SqL.of lW,fun l eF=>⟨⟨_,SqL.of (Same.new eF _ _ cT)⟩,?_⟩⟩⟩
  have sl:=Same.new (o:=.tup (ar.map V.int)) eF
  have wl:=f9.len
  have wn:=f9.n40
  refine ZE (xs:=xs) (ws:=aC) (ag:=[]) (SqL.of (sl _ _ cT)) dD.len rfl (by rw[dD.len];lia) (fun i x w H4 s4 hx hw R hR=>?_) (fun H4 D ys s4 hD hT=>?_)
  ·obtain⟨t,a1,a2,_⟩:=dD.at hw
   rw[hx]at a1
   cases a1
   walk_at "rd"
   refine⟨_,.inl ⟨SqL.of (s4 _ _ (sl _ _ a2)),fun p hp=>hR p _ (Same.new hp) (SqT.of Ab)⟩⟩
  ·obtain⟨kP,bN,gp⟩:=hT.rows
   rw[Ab]at bN
   cases bN
   refine⟨D,rfl,_,.inl ⟨SqL.of Ab,fun l1 bp=>⟨by lia,fun p5 b8=>?_⟩⟩⟩
   have sD:=Same.new (o:=.lst ys) hD
   refine k p5 ar aC _ (((((s3.trans sl).trans s4).newT hD).newT bp).newT b8) ⟨l,l1,SqT.of Ab,?_,(gp l1 bp).mono (Same.new b8)⟩ f9 gu
   exact SqT.of (Same.new b8 _ _ (Same.new bp _ _ (sD _ _ (s4 _ _ Ab))))
noncomputable def Vv (K:α3):Sp:=fun vs H Q _=>∃(h a:Addr) (L r:Int) (aa:α2) (ae:α1) (ws:α2),vs=[.ref h,.int r,.ref a]/\BU K H h L aa ae/\Wf L aa ae/\SqT K H a (ws.map V.int)/\isW L ws=true/\0<=r/\r<aa.length/\Q (.int (C9 ae r ws)) H
theorem RW   (F:Fun K "_law_walk" "_law_walk" Di f fd)(T:Txt mg)
  : FnOk P w K mg base CX0 1 f fd ["house","room","word"] (Vv K):=by
 refine F.ok GA (fun vs H Q E h=>?_) (fun ay A outer s H vs Q E hr h=>?_)
 ·obtain⟨h,a,L,r,aa,ae,ws,rfl,_⟩:=h;rfl
 ·obtain⟨h,a,L,r,aa,ae,ws,rfl,hh,wf,ha,hv,r0,r1,k⟩:=h
  refine⟨_,(Ad (Ci jJ_ rfl (Gk (pvD 2)) (Au (i:=3) GA.nd rfl (Or.inl rfl))
   (Ag (Aj (i:=1) GA.nd (Ah (ixTD Ao) (Ah (ixTD Ao) (Ah (ixTD Ao) (pvD 0) Ac) (pvD 1)) (pvD 3)))))
   (Ag (AR (pvD 1)))),?_⟩
  walk_at "rd"
  refine⟨⟨_,ha⟩,forT (xs:=ws.map V.int) (fun i aj H2=>H2=H/\∃o,aj=[some (.ref h),some (.int (C9 ae r (ws.take i))),some (.ref a),o]) ⟨rfl,none,by simp[C9]⟩ (fun i aj H2 _ h=>by rw[h.1];exact ha) (fun i x aj H2 hx h=>?_) (fun aj H2 h=>?_)⟩
  ·obtain⟨rfl,o,rfl⟩:=h
   obtain⟨n,hn,rfl⟩:=Dy hx
   have bM:=AF.mp hv n (jc_ hn)
   have dR:=U1 wf (ws.take i) (Pm hv i) r0 r1
   obtain⟨row,g,r1,r2,r3,r4,r5⟩:=wf.step dR.1 dR.2 bM.1 bM.2
   obtain⟨m,wv,q1,q2,q3⟩:=id hh
   obtain⟨xs,t,z1,z2,z3⟩:=q3.atZ dR.1 r1
   walk_at "rd"
   refine⟨_,q1,_,rfl,?_⟩
   walk_at "rd"
   refine⟨_,z1,_,z2,?_⟩
   walk_at "rd"
   refine⟨_,z3,_,Bx bM.1 r2,?_⟩
   rw[VR hn,r3]
   exact⟨rfl,_,rfl⟩
  ·obtain⟨rfl,o,rfl⟩:=h
   rw[ja_,jT_]
   walk_at "rd"
   exact k
noncomputable def DS (K:α3)(H:Hp)(xs:List V)(aB:List (α2×Int)):Prop:=xs.length=aB.length/\∀(i:Nat) (tr:α2×Int),aB[i]?=some tr->∃t wt,xs[i]?=some (.ref t)/\SqT K H t [.ref wt,.int tr.2]/\SqT K H wt (tr.1.map V.int)/\tr.1.length<=600
theorem DS.mono {K:α3}    (h:DS K H xs aB)(s:Same H H'):DS K H' xs aB:=by
 refine⟨h.1,fun i tr aX=>?_⟩
 obtain⟨t,wt,a,b,c,d⟩:=h.2 i tr aX
 exact⟨t,wt,a,s.seqT b,s.seqT c,d⟩
theorem DS.nil {K:α3}  : DS K H [] []:=⟨rfl,fun i tr h=>by simp at h⟩
theorem DS.snoc {K:α3}{H:Hp}{xs:List V}{aB:List (α2×Int)}(h:DS K H xs aB){t wt:Addr}{w:α2}{m:Int}(h1:SqT K H t [.ref wt,.int m])(h2:SqT K H wt (w.map V.int))(h3:w.length<=600):DS K H (xs++[.ref t]) (aB++[(w,m)]):=by
 refine⟨by rw[jo_,jo_,h.1];rfl,fun i tr hi=>?_⟩
 by_cases dI:i<aB.length
 ·rw[jj_ dI]at hi
  rw[jj_ (by rw[h.1];exact dI)]
  exact h.2 i tr hi
 ·have:=(jb_.mp hi).1
  rw[jo_,j0_]at this
  have ei:i=aB.length:=by lia
  subst ei
  rw[jr_ (jg_ _),qs_]at hi
  simp at hi
  subst hi
  refine⟨t,wt,?_,h1,h2,h3⟩
  rw[jr_ (by rw[h.1];exact jg_ _),h.1,qs_];rfl
noncomputable def Wds (K:α3)(H:Hp)(xs:List V)(ws:α1):Prop:=xs.length=ws.length/\∀(i:Nat) (w:α2),ws[i]?=some w->∃t,xs[i]?=some (.ref t)/\SqT K H t (w.map V.int)
noncomputable def FV (aa:α2)(ae:α1)(w:α2):α2×Int:=(w,JG aa (AM ae w))
noncomputable def BV_ (K:α3):Sp:=fun vs H Q E=>∃(h a:Addr) (L:Int) (aa:α2) (ae:α1) (xs:List V) (ws:α1),vs=[.ref h,.ref a]/\BU K H h L aa ae/\Wf L aa ae/\SqL K H a xs/\Wds K H xs ws/\(∀w∈ws,w.length<=600)/\xs.length<sizeLine /\
 ((∀w∈ws,isW L w=true)->∀H2 D ys,Same H H2->H2 D=none->DS K H2 ys (ws.map (FV aa ae))->Q (.ref D) (upd H2 D (.lst ys))) /\
 ((∃w∈ws,isW L w=false)->False)
theorem RX   (F:Fun K "trials_of" "trials_of" Df f fd)(T:Txt mg)
   (CW:FnOk P w K mg base CX0 5 Bs C4 ["house","word"] (TB K)) (BQ:Fun K "mark_behind" "mark_behind" BJ Bs C4) (CY:A7 K C4 ["house","word"] []) (CZ:mg "mark_behind"=some (.ref Bs))
  : FnOk P w K mg base CX0 6 f fd ["house","words"] (BV_ K):=by
 refine F.ok RH (fun vs H Q E h=>?_) (fun ay A outer s H vs Q E hr h=>?_)
 ·obtain⟨h,a,L,aa,ae,xs,ws,rfl,_⟩:=h;rfl
 ·obtain⟨h,a,L,aa,ae,xs,ws,rfl,hh,wf,ha,hw,cK,bS,k,kE⟩:=h
  have hl:=AE
  refine⟨_,(Ag (AR (B3 rfl (B4 rfl) (cp:=IV) ⟨⟨rfl,rfl⟩,True.intro⟩ (B2 (pvD 1)) (fun _ _ _ _=>(Au (i:=0) Kt rfl (Or.inl rfl))) (fun _ _ _ _=>Ce) (fun _ _ _ _=>(Dj (Aa (pvD 0) (Aa (Al CW (hr.mono (by decide)) rfl CZ BQ.kp CY .nil A3 (Aa (pvD 1) (Aa (pvD 0) Ae))) Ae))))))),?_⟩
  walk_at "rd"
  refine⟨⟨_,ha⟩,?_⟩
  obtain⟨Pv,aq⟩:∃Pv:Nat->List V->St->Hp->Prop,∀i ys ag H',Pv i ys ag H'↔(Same H H'/\DS K H' ys ((ws.take i).map (FV aa ae))/\(∀w∈ws.take i,isW L w=true)/\i<=ws.length/\∃o,ag=[o,some (.ref h)]):=⟨_,fun _ _ _ _=>qk_⟩
  refine Q9 (xs:=xs) Pv ((aq _ _ _ _).mpr ⟨Same.refl _,by rw[zR_];exact DS.nil,by simp,jX_ _,none,rfl⟩) s!"" (fun i ys aj H2 hi h2=>?_) (fun i x ys aj H2 hx h2=>?_) (fun ys aj H2 h2 D hD=>?_)
  ·obtain⟨s2,t2,_,dI,_⟩:=(aq _ _ _ _).mp h2
   refine⟨s2.seq ha,?_⟩
   rw[t2.1,ja_,jB_]
   lia
  ·obtain⟨s2,t2,az,dI,o,rfl⟩:=(aq _ _ _ _).mp h2
   have hi:i<ws.length:=by rw[<-hw.1];exact (jb_.mp hx).1
   have bV:ws[i]?=some ws[i]:=by simp[hi]
   obtain⟨t,e1,e2⟩:=hw.2 i _ bV
   rw[hx]at e1
   cases e1
   have hsz:=cK _ (jc_ bV)
   have kb:ws.take (i+1)=ws.take i++[ws[i]]:=by rw[List.take_succ,bV];rfl
   walk_at "rd"
   refine⟨h,t,L,aa,ae,ws[i],rfl,hh.mono s2,wf,s2.seqT e2,hsz,fun hv H3 s3=>⟨by lia,fun p hp=>?_⟩,fun hv=>kE ⟨_,jc_ bV,hv⟩⟩
   have sp:=s3.newT (o:=.tup [V.ref t,V.int (JG aa (AM ae ws[i]))]) hp
   refine (aq _ _ _ _).mpr ⟨s2.trans sp,?_,fun w lK=>?_,hi,_,rfl⟩
   ·rw[kb,jS_]
    exact (t2.mono sp).snoc (SqT.of Ab) ((s2.trans sp).seqT e2) hsz
   ·rw[kb]at lK
    rcases jA_.mp lK with z|z
    ·exact az w z
    ·rw[jq_.mp z];exact hv
  ·obtain⟨s2,t2,az,_,o,rfl⟩:=(aq _ _ _ _).mp h2
   rw[jO_ (by rw[hw.1];exact jg_ _)]at t2 az
   exact k az H2 D ys s2 hD t2
noncomputable def GU (aa:α2)(ae:α1)(tr:α2×Int):Bool:=decide (JG aa (AM ae tr.1)≠tr.2)
noncomputable def Df_ (K:α3):Sp:=fun vs H Q E=>∃(h a:Addr) (L:Int) (aa:α2) (ae:α1) (xs:List V) (aB:List (α2×Int)),vs=[.ref h,.ref a]/\BU K H h L aa ae/\Wf L aa ae/\SqL K H a xs/\DS K H xs aB /\
 ((∀tr∈aB,isW L tr.1=true)->∀H',Same H H'->((∀tr∈aB,GU aa ae tr=false)->Q .non H')/\∀(i:Nat) (tr:α2×Int) (x:V),(∀j,j<i->∀tr',aB[j]?=some tr'->GU aa ae tr'=false)->aB[i]?=some tr->xs[i]?=some x->GU aa ae tr=true->Q x H') /\
 ((∃tr∈aB,isW L tr.1=false)->False)
theorem Mw   (F:Fun K "first_failed" "first_failed" Bt f fd)(T:Txt mg)
   (BK:FnOk P w K mg base CX0 2 Bb BL ["letters","word"] (Lx K)) (Bl:Fun K "check_word" "check_word" BH Bb BL) (BM:A7 K BL ["letters","word"] []) (BN:mg "check_word"=some (.ref Bb))
   (CW:FnOk P w K mg base CX0 5 Bs C4 ["house","word"] (TB K)) (BQ:Fun K "mark_behind" "mark_behind" BJ Bs C4) (CY:A7 K C4 ["house","word"] []) (CZ:mg "mark_behind"=some (.ref Bs))
  : FnOk P w K mg base CX0 6 f fd ["house","some"] (Df_ K):=by
 refine F.ok Eo (fun vs H Q E h=>?_) (fun ay A outer s H vs Q E hr h=>?_)
 ·obtain⟨h,a,L,aa,ae,xs,aB,rfl,_⟩:=h;rfl
 ·obtain⟨h,a,L,aa,ae,xs,aB,rfl,hh,wf,ha,ht,k,kE⟩:=h
  have hl:=AE
  refine⟨_,(Ad (Ci jJ_ rfl (B2 (pvD 1)) (Au (i:=2) Eo.nd rfl (Or.inl rfl))
   (Ag (BS (Al BK (hr.mono (by decide)) rfl BN Bl.kp BM .nil A3 (Aa (Ah (ixTD Ao) (pvD 0) Ac) (Aa (Ah (ixTD Ao) (pvD 2) Ac) Ae))))))
   (Ad (Ci jJ_ rfl (B2 (pvD 1)) (Au (i:=2) Eo.nd rfl (Or.inl rfl))
   (Ag (Cy (ptT (Aw (opN Zg) (Al CW (hr.mono (by decide)) rfl CZ BQ.kp CY .nil A3 (Aa (pvD 0) (Aa (Ah (ixTD Ao) (pvD 2) Ac) Ae))) (Ah (ixTD Ao) (pvD 2) Ac) (AV _)))
   (Ag (AR (pvD 2)))
   AX)))
   (Ag (AR W7)))),?_⟩
  walk_at "rd"
  refine⟨⟨_,ha⟩,?_⟩
  obtain⟨Pv,aq⟩:∃Pv:Nat->St->Hp->Prop,∀i ag H',Pv i ag H'↔(Same H H'/\(∀j,j<i->∀tr,aB[j]?=some tr->isW L tr.1=true)/\∃o,ag=[some (.ref h),some (.ref a),o]):=⟨_,fun _ _ _=>qk_⟩
  refine forL (xs:=xs) Pv ((aq _ _ _).mpr ⟨Same.refl _,fun j hj=>absurd hj (xi_ _),none,rfl⟩) (fun i aj H2 _ h2=>((aq _ _ _).mp h2).1.seq ha) (fun i x aj H2 hx h2=>?_) (fun aj H2 h2=>?_)
  ·obtain⟨s2,az,o,rfl⟩:=(aq _ _ _).mp h2
   have hi:i<aB.length:=by rw[<-ht.1];exact (jb_.mp hx).1
   have aX:aB[i]?=some aB[i]:=by simp[hi]
   obtain⟨t,wt,e1,e2,e3,e4⟩:=ht.2 i _ aX
   rw[hx]at e1
   cases e1
   obtain⟨tm,tw,q1,q2,q3⟩:=hh.mono s2
   walk_at "rd"
   refine⟨_,q1,_,rfl,?_⟩
   walk_at "rd"
   refine⟨_,s2.seqT e2,_,rfl,?_⟩
   refine⟨L,wt,aB[i].1,rfl,s2.seqT e3,by lia,fun hv H3 s3=>?_,fun hv=>kE ⟨_,jc_ aX,hv⟩⟩
   refine (aq _ _ _).mpr ⟨s2.trans s3,fun j hj tr cg=>?_,_,rfl⟩
   by_cases ko:j<i
   ·exact az j ko tr cg
   ·have:j=i:=by lia
    subst this
    rw[aX]at cg
    cases cg
    exact hv
  ·obtain⟨s2,az,o,rfl⟩:=(aq _ _ _).mp h2
   have hW:∀tr∈aB,isW L tr.1=true:=fun tr aX=>by
    obtain⟨j,hj,ej⟩:=jR_ aX
    exact az j (by rw[ht.1];exact hj) tr (by rw[jf_ hj,ej])
   walk_at "rd"
   refine⟨⟨_,s2.seq ha⟩,?_⟩
   obtain⟨Pw,bQ⟩:∃Pv:Nat->St->Hp->Prop,∀i ag H',Pv i ag H'↔(Same H H'/\(∀j,j<i->∀tr,aB[j]?=some tr->GU aa ae tr=false)/\∃o,ag=[some (.ref h),some (.ref a),o]):=⟨_,fun _ _ _=>qk_⟩
   refine forL (xs:=xs) Pw ((bQ _ _ _).mpr ⟨s2,fun j hj=>absurd hj (xi_ _),_,rfl⟩) (fun i aA H3 _ h3=>((bQ _ _ _).mp h3).1.seq ha) (fun i x aA H3 hx h3=>?_) (fun aA H3 h3=>?_)
   ·obtain⟨s3,cX,o,rfl⟩:=(bQ _ _ _).mp h3
    have hi:i<aB.length:=by rw[<-ht.1];exact (jb_.mp hx).1
    have aX:aB[i]?=some aB[i]:=by simp[hi]
    obtain⟨t,wt,e1,e2,e3,e4⟩:=ht.2 i _ aX
    rw[hx]at e1
    cases e1
    have hv:=hW _ (jc_ aX)
    walk_at "rd"
    refine⟨_,s3.seqT e2,_,rfl,?_⟩
    refine⟨h,wt,L,aa,ae,aB[i].1,rfl,hh.mono s3,wf,s3.seqT e3,e4,fun _ H4 s4=>?_,fun z=>by rw[hv]at z;cases z⟩
    have oz:=s3.trans s4
    walk_at "rd"
    refine⟨_,oz.seqT e2,_,rfl,rfl,?_⟩
    by_cases he:JG aa (AM ae aB[i].1)=aB[i].2
    ·rw[if_neg (by rw[qg_ (jD_ V.int he)];decide)]
     refine (bQ _ _ _).mpr ⟨oz,fun j hj tr cg=>?_,_,rfl⟩
     by_cases ko:j<i
     ·exact cX j ko tr cg
     ·have:j=i:=by lia
      subst this
      rw[aX]at cg
      cases cg
      exact qc_ (fun z=>z he)
    ·rw[if_pos (by rw[qc_ (fun z=>he (V.int.inj z))];decide)]
     exact (k hW H4 oz).2 i _ _ cX aX hx (qg_ he)
   ·obtain⟨s3,cX,o,rfl⟩:=(bQ _ _ _).mp h3
    walk_at "rd"
    refine (k hW H3 s3).1 fun tr aX=>?_
    obtain⟨j,hj,ej⟩:=jR_ aX
    exact cX j (by rw[ht.1];exact hj) tr (by rw[jf_ hj,ej])
noncomputable def RY (K:α3):Sp:=fun vs H Q E=>∃(h a:Addr) (L:Int) (aa:α2) (ae:α1) (xs:List V) (aB:List (α2×Int)),vs=[.ref h,.ref a]/\BU K H h L aa ae/\Wf L aa ae/\SqL K H a xs/\DS K H xs aB /\
 ((∀tr∈aB,isW L tr.1=true)->∀H',Same H H'->Q (.bl (aB.all fun tr => !GU aa ae tr)) H')/\((∃tr∈aB,isW L tr.1=false)->False)
theorem Y3   (F:Fun K "passes" "passes" FO f fd)(T:Txt mg)
   (Cn:FnOk P w K mg base CX0 6 Bg CL ["house","some"] (Df_ K)) (Bu:Fun K "first_failed" "first_failed" Bt Bg CL) (Co:A7 K CL ["house","some"] []) (Cp:mg "first_failed"=some (.ref Bg))
  : FnOk P w K mg base CX0 7 f fd ["house","some"] (RY K):=by
 refine F.ok YT (fun vs H Q E h=>?_) (fun ay A outer s H vs Q E hr h=>?_)
 ·obtain⟨h,a,L,aa,ae,xs,aB,rfl,_⟩:=h;rfl
 ·obtain⟨h,a,L,aa,ae,xs,aB,rfl,hh,wf,ha,ht,k,kE⟩:=h
  refine⟨_,(Ag (AR (SM DA_ (Al Cn (hr.mono (by decide)) rfl Cp Bu.kp Co .nil A3 (Aa (pvD 0) (Aa (pvD 1) Ae))) W7 (AV _)))),?_⟩
  walk_at "rd"
  refine⟨h,a,L,aa,ae,xs,aB,rfl,hh,wf,ha,ht,fun hW H' s=>⟨fun az=>?_,fun i tr x cX aX hx hf=>?_⟩,kE⟩
  ·walk_at "rd"
   have:=k hW H' s
   rw[show (aB.all fun tr => !GU aa ae tr)=true from qG_.mpr fun tr aX=>by rw[az tr aX];rfl]at this
   exact this
  ·obtain⟨t,wt,e1,_⟩:=ht.2 i tr aX
   rw[hx]at e1
   cases e1
   walk_at "rd"
   have:=k hW H' s
   rw[show (aB.all fun tr => !GU aa ae tr)=false from Bool.eq_false_iff.mpr fun z=>by
    have:=qG_.mp z tr (jc_ aX)
    rw[hf]at this
    cases this]at this
   exact this
theorem TV {K:α3}     (e:SqT K H l zs)(h:AY K H zs ws):Rows K H l ws:=by
 obtain⟨os,x1,x2,x3⟩:=Jd h
 refine⟨os.map (·.1),?_,by rw[<-x2,ja_,ja_],fun i t row hi hrow=>?_⟩
 ·rw[jW_]
  rw[x1]at e
  exact e
 ·rw[<-x2,jd_]at hrow
  rw[jd_]at hi
  cases ho:os[i]? with
  |none=>rw[ho]at hi;cases hi
  |some o=>
   rw[ho]at hi hrow
   cases hi;cases hrow
   exact SqT.of (x3 o (jc_ ho))
noncomputable def Vw (K:α3):Sp:=fun vs H Q _=>∃(h a:Addr) (L m:Nat) (ns:α2) (aa:α2) (ae:α1),vs=[.ref h,.ref a,.int m]/\BU K H h L aa ae/\Wf L aa ae/\aa.length<=15/\m<=3/\SqL K H a (ns.map V.int)/\∀(h':Addr) (mr:α2) (wr:α1) (H':Hp),Same H H'->BU K H' h' L mr wr->Wf L mr wr->mr.length<=(sM L aa ae).length+m->Q (.ref h') H'
theorem KC   (F:Fun K "_law_rival_by" "_law_rival_by" BC f fd)(T:Txt mg)
   (Ap:FnOk P w K mg base CX0 1 Av AK ["script","k"] (JT K)) (Am:Fun K "_law_cell_at" "_law_cell_at" A6 Av AK) (Aq:A7 K AK ["script","k"] []) (Ar:mg "_law_cell_at"=some (.ref Av))
   (AH:FnOk P w K mg base CX0 1 AN AW ["number","k","many"] (Ho)) (Ay:Fun K "_law_mixed" "_law_mixed" Bk AN AW) (AI:A7 K AW ["number","k","many"] []) (AJ:mg "_law_mixed"=some (.ref AN))
   (Dt:FnOk P w K mg base CX0 2 BP DD ["house","number","rooms"] (P9 K)) (Cg:Fun K "_law_blown" "_law_blown" Cf BP DD) (Du:A7 K DD ["house","number","rooms"] []) (Dv:mg "_law_blown"=some (.ref BP))
   (EY:FnOk P w K mg base CX0 1 Cq GV ["house","number"] (OS K)) (C5:Fun K "_law_spoiled" "_law_spoiled" BX Cq GV) (EZ:A7 K GV ["house","number"] []) (E1:mg "_law_spoiled"=some (.ref Cq))
   (D2:FnOk P w K mg base CX0 1 BE Fy ["house","number"] (Mo K)) (Cj:Fun K "_law_turned_by" "_law_turned_by" Bo BE Fy) (D3:A7 K Fy ["house","number"] []) (D4:mg "_law_turned_by"=some (.ref BE))
   (IA:FnOk P w K mg base CX0 2 DM Kh ["house"] (Vu K)) (Ez:Fun K "_law_base" "_law_base" Dh DM Kh) (IB:A7 K Kh ["house"] []) (IC:mg "_law_base"=some (.ref DM))
  : FnOk P w K mg base CX0 3 f fd ["house","script","many"] (Vw K):=by
 refine F.ok AU (fun vs H Q E h=>?_) (fun ay A outer s H vs Q E hr h=>?_)
 ·obtain⟨h,a,L,m,ns,aa,ae,rfl,_⟩:=h;rfl
 ·obtain⟨h,a,L,m,ns,aa,ae,rfl,hh,wf,h15,lW,hs,k⟩:=h
  have hl:=AE
  have cB:=wf.l1
  have cC:=wf.l6
  have b7:=wf.n1
  have hsl:(sM L aa ae).length<=aa.length:=by
   rw[Kd]
   exact Bv_ wf
  have bz:=sWf wf
  have hU:=bz.n1
  refine⟨_,(Ad (Aj (i:=3) AU.nd (Al IA (hr.mono (by decide)) rfl IC Ez.kp IB .nil A3 (Aa (pvD 0) Ae)))
   (Ad (Cd (i:=4) AU.nd rfl (Or.inr rfl) (Al Ap (hr.mono (by decide)) rfl Ar Am.kp Aq .nil A3 (Aa (pvD 1) (Aa Ac Ae))))
   (Ad (Aj (i:=5) AU.nd (Ah (ixLD Bn) (Cu (Aa Ac (Aa Ac (Aa Ac (Aa Ac (Aa Ac (Aa Ac Ae))))))) (An (opD A5) (pvD 4) Ac)))
   (Ad (Cd (i:=4) AU.nd rfl (Or.inr rfl) (An (opD CB) (pvD 4) Ac))
   (ZN (Aj (i:=6) AU.nd (An (opD0 Bm) (As (lenD Ak) (by rfl) T.len jI_ (Aa (Ah (ixTD Ao) (pvD 3) Ac) Ae)) (pvD 2)))
   (Ad (Cy (ptT (Aw (opE Dx) (pvD 5) Ac (AV _)))
   (Ad (Cd (i:=7) AU.nd rfl (Or.inr rfl) (An (opD0 Bm) Ac (An (opD A5) (pvD 4) (pvD 6))))
   (Ad (Ia (i:=8) AU.nd rfl rfl rfl (B4 rfl) (cp:=Fi) ⟨⟨rfl,rfl⟩,⟨⟨rfl,rfl⟩,True.intro⟩⟩ (Bh rfl T.range (Aa (pvD 7) Ae)) (fun _ _ _ _=>(Au (i:=0) Ht rfl (Or.inl rfl))) (fun _ _ _ _=>Ce) (fun _ _ _ _=>(Ah (ixTD (Dz (K:=K) rfl)) (Ah (ixTD (Dz (K:=K) rfl)) (pvD 1) Ac) (Al AH (hr.mono (by decide)) rfl AJ Ay.kp AI .nil A3 (Aa (pvD 2) (Aa (pvD 0) (Aa (As (lenD (Pb (K:=K) rfl)) (by rfl) T.len jI_ (Aa (Ah (ixTD (Dz (K:=K) rfl)) (pvD 1) Ac) Ae)) Ae)))))))
   (Ad (ZG (i:=9) AU.nd rfl rfl rfl (CB_ rfl) (cp:=Fj) ⟨⟨rfl,rfl⟩,⟨⟨rfl,rfl⟩,⟨⟨rfl,rfl⟩,True.intro⟩⟩⟩ (Bh rfl T.range (Aa (pvD 7) Ae)) (fun _ _ _ _=>(Au (i:=0) Hu rfl (Or.inr rfl))) (fun _ _ _ _=>Ce) (fun _ _ _ _=>(B3 rfl (B4 rfl) (cp:=Fl) ⟨⟨rfl,rfl⟩,⟨⟨rfl,rfl⟩,⟨⟨rfl,rfl⟩,True.intro⟩⟩⟩ (Bh rfl T.range (Aa (Ah (ixTD (Dz (K:=K) rfl)) (pvD 3) Ac) Ae)) (fun _ _ _ _=>(Au (i:=0) Hv rfl (Or.inl rfl))) (fun _ _ _ _=>Ce) (fun _ _ _ _=>(Al AH (hr.mono (by decide)) rfl AJ Ay.kp AI .nil A3 (Aa (An (opD0 Bm) (pvD 2) Ac) (Aa (An (opD0 Bm) (An (opD IG) (pvD 3) Ac) (pvD 0)) (Aa (pvD 1) Ae))))))))
   (Ag (AR (Dj (Aa (Ah (ixTD Ao) (pvD 0) Ac) (Aa (AO AG rfl T.tuple jz_ (Aa (pvD 8) Ae)) (Aa (AO AG rfl T.tuple jz_ (Aa (B3 rfl (B4 rfl) (cp:=Fm) True.intro (B2 (pvD 9)) (fun _ _ _ _=>(Au (i:=0) Hw rfl (Or.inl rfl))) (fun _ _ _ _=>Ce) (fun _ _ _ _=>(AO (FK (K:=K) rfl) rfl T.tuple jz_ (Aa (pvD 0) Ae)))) Ae)) Ae)))))))))
   AX)
   (Ad (Aj (i:=10) AU.nd (Al D2 (hr.mono (by decide)) rfl D4 Cj.kp D3 .nil A3 (Aa (Al Dt (hr.mono (by decide)) rfl Dv Cg.kp Du .nil A3 (Aa (pvD 3) (Aa (pvD 4) (Aa (An (opD0 EH) (pvD 6) (An (opD A5) (pvD 4) (An (opD0 Bm) (pvD 2) Ac))) Ae)))) (Aa (An (opD A5) (pvD 4) Ac) Ae))))
   (C0 (Cy (ptT (Aw (opN Zg) (pvD 5) Ac (AV _)))
   (Ag (Aj (i:=10) AU.nd (Al EY (hr.mono (by decide)) rfl E1 C5.kp EZ .nil A3 (Aa (pvD 10) (Aa (An (opD0 Bm) (An (opD IG) (An (opD CB) (pvD 4) Ac) Ac) (pvD 5)) Ae)))))
   AX)
   (Ag (AR (pvD 10))))))))))),?_⟩
  walk_at "rd"
  refine⟨h,L,aa,ae,rfl,hh,wf,fun hb H1 s1 oA=>?_⟩
  generalize sM L aa ae=ms at bz hU hsl oA k
  generalize sW L aa ae=vs at bz oA
  refine⟨a,ns,5,rfl,s1.seq hs,?_⟩
  dsimp only
  generalize cell ns 5=num
  refine⟨by lia,fun p hp=>⟨num,rfl,by decide,?_⟩⟩
  have sp:=s1.newT hp (o:=.lst [V.int 0,V.int 1,V.int 2,V.int 3,V.int 2,V.int 2])
  have sp1:=Same.new hp (o:=.lst [V.int 0,V.int 1,V.int 2,V.int 3,V.int 2,V.int 2])
  have ep:upd H1 p (.lst [V.int 0,V.int 1,V.int 2,V.int 3,V.int 2,V.int 2]) p=some (.lst [V.int 0,V.int 1,V.int 2,V.int 3,V.int 2,V.int 2]):=Ab
  have jy:=oA.mono sp1
  have hh2:=hh.mono sp
  generalize upd H1 p (.lst [V.int 0,V.int 1,V.int 2,V.int 3,V.int 2,V.int 2])=H2 at sp sp1 ep jy hh2 ⊢
  obtain⟨wy,hwy⟩:∃wy:Int,atI [V.int 0,V.int 1,V.int 2,V.int 3,V.int 2,V.int 2] (num%6)=some (V.int wy):=by
   have h0:=j6_ num (show (6:Int)≠0 by decide)
   have h1:=jZ_ num (show (0:Int)<6 by decide)
   rcases (show num%6=0\/num%6=1\/num%6=2\/num%6=3\/num%6=4\/num%6=5 by lia) with e|e|e|e|e|e<;>rw[e]<;>exact⟨_,rfl⟩
  obtain⟨tb,wb,b1,b2,b3⟩:=id jy
  refine⟨_,SqL.of ep,_,hwy,num,rfl,⟨by decide,by decide⟩,hb,rfl,_,b1,_,rfl,tb,rfl,_,.inr b2,?_⟩
  rw[ja_]
  refine ZM ?_
  walk_at "rd"
  refine ite2 (fun h3=>?_) (fun h3=>?_)
  ·have du:=j6_ (num / 6) (show ((ms.length:Int)+m)≠0 by lia)
   have hr1:=jZ_ (num / 6) (show (0:Int)<(ms.length:Int)+m by lia)
   obtain⟨rn,hrn⟩:∃rn:Nat,1+num / 6%((ms.length:Int)+m)=(rn:Int):=⟨(1+num / 6%((ms.length:Int)+m)).toNat,by lia⟩
   rw[hrn]
   have hrn1:1<=rn:=by lia
   have hrnm:rn<=ms.length+m:=by lia
   obtain⟨tm,tw,q1,q2,q3⟩:=id hh2
   refine⟨by lia,by lia,by lia,?_⟩
   rw[ji_]
   obtain⟨Pc,cM⟩:∃Pc:Nat->List V->St->Hp->Prop,∀i ys ag H',Pc i ys ag H'↔(H'=H2/\(∃ks:α2,ys=ks.map V.int/\ks.length=i/\∀x∈ks,x∈aa)/\∃o,ag=[o,some (.ref h),some (.int (num / 6))]):=⟨_,fun _ _ _ _=>qk_⟩
   refine Ra Pc ((cM _ _ _ _).mpr ⟨rfl,⟨[],rfl,rfl,fun x hx=>by cases hx⟩,none,rfl⟩) s!"" (fun i ys ag H' hi h'=>by obtain⟨_,⟨ks,rfl,e,_⟩,_⟩:=(cM _ _ _ _).mp h';rw[ja_,e];exact jg_ _) (fun i ys ag H' hi h'=>?_) (fun ys ag H' h' pm bC=>?_)
   ·obtain⟨rfl,⟨ks,rfl,gi,lr⟩,o,rfl⟩:=(cM _ _ _ _).mp h'
    walk_at "rd"
    refine⟨_,q1,_,rfl,_,q1,_,rfl,tm,rfl,_,.inr q2,?_⟩
    rw[ja_]
    refine⟨_,_,_,rfl,by lia,by lia,by lia,fun x cI bN=>?_⟩
    have bS:x.toNat<aa.length:=by lia
    refine⟨tm,rfl,_,x,rfl,q2,_,Bx cI (v:=aa[x.toNat]) (jf_ bS),(cM _ _ _ _).mpr ⟨rfl,⟨ks++[aa[x.toNat]],by simp,by simp[gi],fun y hy=>?_⟩,_,rfl⟩⟩
    rcases jA_.mp hy with hy|hy
    ·exact lr y hy
    ·rw[jq_.mp hy];exact j2_ bS
   ·obtain⟨rfl,⟨mr,rfl,gu,lG⟩,o,rfl⟩:=(cM _ _ _ _).mp h'
    have s3:=Same.new bC (o:=.lst (mr.map V.int))
    have jw:upd H' pm (.lst (mr.map V.int)) pm=some (.lst (mr.map V.int)):=Ab
    generalize upd H' pm (.lst (mr.map V.int))=H3 at s3 jw ⊢
    refine⟨by lia,by lia,?_⟩
    refine Ra (fun i ys ag H'=>Same H3 H'/\(∃ws:α1,U4 K H' ys ws/\ws.length=i/\∀row∈ws,row.length=L/\∀x∈row,0<=x/\x<(rn:Int))/\∃o,ag=[o,some (.int rn),some (.int (num / 6)),some (.ref h)]) ⟨Same.refl _,⟨[],⟨rfl,fun i w h=>by simp at h⟩,rfl,fun x hx=>by cases hx⟩,none,rfl⟩ s!"" (fun i ys ag H' hi h'=>by obtain⟨_,⟨ws,hw,e,_⟩,_⟩:=h';rw[hw.1,e];exact jg_ _) (fun i ys ag H4 hi h'=>?_) (fun ys ag H4 h' pw a9=>?_)
    ·obtain⟨s4,⟨ws,cF,cK,eT⟩,o,rfl⟩:=h'
     rw[zP_]
     walk_at "rd"
     refine⟨_,(s3.trans s4).seqT q1,_,rfl,_,rfl,by lia,by lia,?_⟩
     rw[ji_]
     obtain⟨Pd,lu⟩:∃Pc:Nat->List V->St->Hp->Prop,∀j zs ag H',Pc j zs ag H'↔(H'=H4/\(∃ks:α2,zs=ks.map V.int/\ks.length=j/\∀x∈ks,0<=x/\x<(rn:Int))/\∃o,ag=[o,some (.int rn),some (.int (num / 6)),some (.int i)]):=⟨_,fun _ _ _ _=>qk_⟩
     refine Ra Pd ((lu _ _ _ _).mpr ⟨rfl,⟨[],rfl,rfl,fun x hx=>by cases hx⟩,none,rfl⟩) s!"" (fun j zs ag H' hj h'=>by obtain⟨_,⟨ks,rfl,e,_⟩,_⟩:=(lu _ _ _ _).mp h';rw[ja_,e];exact jg_ _) (fun j zs ag H' hj h'=>?_) (fun zs ag H' h' D hD=>?_)
     ·obtain⟨rfl,⟨ks,rfl,gi,lr⟩,o,rfl⟩:=(lu _ _ _ _).mp h'
      rw[zP_]
      walk_at "rd"
      refine⟨.inl ⟨by lia,by lia⟩,_,_,_,rfl,by lia,by lia,by lia,fun x cI bN=>(lu _ _ _ _).mpr ⟨rfl,⟨ks++[x],by simp,by simp[gi],fun y hy=>?_⟩,_,rfl⟩⟩
      rcases jA_.mp hy with hy|hy
      ·exact lr y hy
      ·rw[jq_.mp hy];exact⟨cI,bN⟩
     ·obtain⟨rfl,⟨ks,rfl,gi,lr⟩,o,rfl⟩:=(lu _ _ _ _).mp h'
      refine⟨s4.newT hD,⟨ws++[ks],?_,by simp[cK],fun row hr=>?_⟩,_,rfl⟩
      ·have sD:=Same.new hD (o:=.lst (ks.map V.int))
       refine⟨by rw[jo_,jo_,cF.1];rfl,fun i2 w hw=>?_⟩
       by_cases hi2:i2<ws.length
       ·rw[jj_ hi2]at hw
        obtain⟨t,a1,a2⟩:=cF.2 i2 w hw
        exact⟨t,by rw[jj_ (by rw[cF.1];exact hi2)];exact a1,sD _ _ a2⟩
       ·rw[jr_ s!""]at hw
        have h0:i2-ws.length=0:=by
         have:=(jb_.mp hw).1
         simpa using this
        rw[h0]at hw
        have hw:ks=w:=by simpa using hw
        subst hw
        exact⟨D,by rw[jr_ (by rw[cF.1];lia),cF.1,h0];rfl,Ab⟩
      ·rcases jA_.mp hr with hr|hr
       ·exact eT row hr
       ·rw[jq_.mp hr];exact⟨gi,lr⟩
    ·obtain⟨s4,⟨ws,cF,cK,eT⟩,o,rfl⟩:=h'
     have s5:=s4.newT a9 (o:=.lst ys)
     have j5:upd H4 pw (.lst ys) pw=some (.lst ys):=Ab
     have eO:U4 K (upd H4 pw (.lst ys)) ys ws:=⟨cF.1,fun i w h=>let ⟨t,a1,a2⟩:=cF.2 i w h;⟨t,a1,Same.new a9 _ _ a2⟩⟩
     generalize upd H4 pw (.lst ys)=H5 at s5 j5 eO ⊢
     have s35:=s3.trans s5
     refine⟨_,s35.seqT q1,_,rfl,pm,rfl,_,.inl ⟨SqL.of (s5 _ _ jw),fun l dX=>⟨pw,rfl,⟨_,SqL.of (Same.new dX _ _ j5)⟩,?_⟩⟩⟩
     have s6:=s35.newT dX (o:=.tup (mr.map V.int))
     have oB:=Same.new dX (o:=.tup (mr.map V.int))
     have el:upd H5 l (.tup (mr.map V.int)) l=some (.tup (mr.map V.int)):=Ab
     generalize upd H5 l (.tup (mr.map V.int))=H6 at s6 oB el ⊢
     refine Q9 (xs:=ys) (fun i zs ag H'=>Same H6 H'/\AY K H' zs (ws.take i)/\∃o,ag=[o]) ⟨Same.refl _,AY.nil,none,rfl⟩ (by rw[eO.1];lia) (fun i zs ag H' hi h'=>⟨SqL.of (h'.1 _ _ (oB _ _ j5)),by rw[h'.2.1.1,jB_];lia⟩) (fun i x zs ag H' hx h'=>?_) (fun zs ag H7 h' D hD=>?_)
     ·obtain⟨s7,eU,o,rfl⟩:=h'
      obtain⟨t,w0,bV,rfl,ht⟩:=eO.at hx
      walk_at "rd"
      refine⟨_,.inl ⟨SqL.of (s7 _ _ (oB _ _ ht)),fun l2 bF=>⟨s7.newT bF,?_,_,rfl⟩⟩⟩
      rw[jU_,bV,qK_]
      exact (eU.mono (TK.new bF)).snoc Ab
     ·obtain⟨s7,eU,o,rfl⟩:=h'
      rw[eO.1,jT_]at eU
      have jY:AY K (upd H7 D (.lst zs)) zs ws:=eU.mono (TK.new hD)
      have s8:=(s6.trans s7).newT hD (o:=.lst zs)
      have eD:upd H7 D (.lst zs) D=some (.lst zs):=Ab
      have el8:=Same.new hD (o:=.lst zs) _ _ (s7 _ _ el)
      generalize upd H7 D (.lst zs)=H8 at jY s8 eD el8 ⊢
      refine⟨D,rfl,_,.inl ⟨SqL.of eD,fun l1 bp=>⟨by lia,fun p hp=>?_⟩⟩⟩
      have gP:=(Same.new bp (o:=.tup zs)).newT hp (o:=.tup [V.int L,V.ref l,V.ref l1])
      have e1:=Same.new hp (o:=.tup [V.int L,V.ref l,V.ref l1]) _ _ (Ab (H:=H8) (a:=l1) (o:=.tup zs))
      have e2:upd (upd H8 l1 (.tup zs)) p (.tup [V.int L,V.ref l,V.ref l1]) p=some (.tup [V.int L,V.ref l,V.ref l1]):=Ab
      have fP:=jY.mono (TK.of gP)
      generalize upd (upd H8 l1 (.tup zs)) p (.tup [V.int L,V.ref l,V.ref l1])=ou at gP e1 e2 fP ⊢
      refine k p mr ws ou (sp.trans (s8.trans gP)) ⟨l,l1,SqT.of e2,SqT.of (gP _ _ el8),TV (SqT.of e1) fP⟩ ⟨cB,cC,by lia,by lia,by lia,fun row hr=>⟨by rw[(eT row hr).1],fun x hx=>by rw[gu];exact (eT row hr).2 x hx⟩,fun m hm=>wf.mks _ (lG m hm)⟩ s!""
  ·have du:=j6_ (num / 6) (show ((m:Int)+1)≠0 by lia)
   have hr1:=jZ_ (num / 6) (show (0:Int)<(m:Int)+1 by lia)
   obtain⟨nb,hnb⟩:∃nb:Nat,(ms.length:Int)+m-num / 6%((m:Int)+1)=(nb:Int):=⟨((ms.length:Int)+m-num / 6%((m:Int)+1)).toNat,by lia⟩
   rw[hnb]
   refine⟨by lia,hb,L,ms,vs,num / 6,nb,rfl,jy,bz,by lia,fun h4 m4 w4 H4 s4 jZ n6 nS=>⟨by decide,?_⟩⟩
   refine⟨h4,L,m4,w4,_,rfl,jZ,n6,fun ho mo wo H5 s5 hho wfo mH=>?_⟩
   have s05:=(sp.trans s4).trans s5
   obtain⟨R,hR⟩:∃R:St->Hp->Prop,∀ag H',R ag H'↔(∃(hx:Addr) (mx:α2) (wx:α1),Same H H'/\BU K H' hx L mx wx/\Wf L mx wx/\mx.length<=ms.length+m/\ag=[some (V.ref h),some (V.ref a),some (V.int m),some (V.ref hb),some (V.int (num / 6)),some (V.int wy),some (V.int ((ms.length:Int)+m)),none,none,none,some (.ref hx)]):=⟨_,fun _ _=>qk_⟩
   refine⟨R,?_,fun ag H' h'=>?_⟩
   ·walk_at "rd"
    refine ite2 (fun _=>?_) (fun _=>(hR _ _).mpr ⟨ho,mo,wo,s05,hho,wfo,by lia,rfl⟩)
    refine⟨⟨by decide,by decide⟩,.inr ⟨by decide,by decide⟩,ho,L,mo,wo,_,rfl,hho,wfo,fun hx mx wx H6 s6 oC oD hlx=>(hR _ _).mpr ⟨hx,mx,wx,s05.trans s6,oC,oD,by lia,rfl⟩⟩
   ·obtain⟨hx,mx,wx,s6,oC,oD,hlx,rfl⟩:=(hR _ _).mp h'
    walk_at "rd"
    exact k hx mx wx H' s6 oC oD hlx
noncomputable def RZ (K:α3):Sp:=fun vs H Q _=>∃(a:Addr) (L:Int) (ns:α2),vs=[.ref a,.int L]/\SqL K H a (ns.map V.int)/\ns.length<=63/\1<=L/\L<=6/\∀p ws H',Same H H'->isW L ws=true->ws.length<=400->SqL K H' p (ws.map V.int)->Q (.ref p) H'
theorem My   (F:Fun K "_law_word_by" "_law_word_by" BZ f fd)(T:Txt mg)
   (Ap:FnOk P w K mg base CX0 1 Av AK ["script","k"] (JT K)) (Am:Fun K "_law_cell_at" "_law_cell_at" A6 Av AK) (Aq:A7 K AK ["script","k"] []) (Ar:mg "_law_cell_at"=some (.ref Av))
   (AH:FnOk P w K mg base CX0 1 AN AW ["number","k","many"] (Ho)) (Ay:Fun K "_law_mixed" "_law_mixed" Bk AN AW) (AI:A7 K AW ["number","k","many"] []) (AJ:mg "_law_mixed"=some (.ref AN))
  : FnOk P w K mg base CX0 2 f fd ["script","letters"] (RZ K):=by
 refine F.ok CI (fun vs H Q E h=>?_) (fun ay A outer s H vs Q E hr h=>?_)
 ·obtain⟨a,L,ns,rfl,_⟩:=h;rfl
 ·obtain⟨a,L,ns,rfl,hs,hz,hL,cC,k⟩:=h
  have hl:=AE
  refine⟨_,(Ad (Ia (i:=2) CI.nd rfl rfl rfl (B4 rfl) (cp:=F5) ⟨⟨rfl,rfl⟩,True.intro⟩ (B2 (O1 Xp (pvD 0) SN (SR Ac))) (fun _ _ _ _=>(Au (i:=0) Iv rfl (Or.inl rfl))) (fun _ _ _ _=>Ce) (fun _ _ _ _=>(An (opD A5) (An (opD0 Bm) (pvD 0) (An (opD CB) (pvD 0) Ac)) (pvD 1))))
   (Ad (Aj (i:=3) CI.nd (Al Ap (hr.mono (by decide)) rfl Ar Am.kp Aq .nil A3 (Aa (pvD 0) (Aa Ac Ae))))
   (C0 (Cy (ptT (Aw (opE Dx) (An (opD A5) (pvD 3) Ac) Ac (AV _)))
   (Ad (Aj (i:=2) CI.nd (O1 Xp (pvD 2) SN (SR (An (opD A5) (An (opD CB) (pvD 3) Ac) Ac))))
   (Ag (Ci jJ_ rfl (W9 rfl T.range (Aa (As (lenD Ak) (by rfl) T.len jI_ (Aa (pvD 2) Ae)) (Aa (An (opD A5) (An (opD CB) (pvD 3) Ac) Ac) Ae))) (Au (i:=4) CI.nd rfl (Or.inl rfl))
   (Ag (BS (FA jE_ jM_ jN_ Bi (pvD 2) (Aa (Al AH (hr.mono (by decide)) rfl AJ Ay.kp AI .nil A3 (Aa (Al Ap (hr.mono (by decide)) rfl Ar Am.kp Aq .nil A3 (Aa (pvD 0) (Aa (An (opD A5) (pvD 4) (As (Xf rfl) rfl T.max zs_ (Aa Ac (Aa (As (lenD Ak) (by rfl) T.len jI_ (Aa (pvD 0) Ae)) Ae)))) Ae))) (Aa (pvD 4) (Aa (pvD 1) Ae)))) Ae)))))))
   AX)
   (Ag (AR (pvD 2)))))),?_⟩
  walk_at "rd"
  refine⟨_,hs,fun p hp=>?_⟩
  rw[show (400:Int)=((400:Nat):Int) from rfl,UY]
  refine⟨⟨_,SqL.of Ab⟩,?_⟩
  obtain⟨f,hf⟩:∃f:V->V,∀n:Int,f (V.int n)=.int ((n+n / 41)%L):=⟨fun x=>match x with | .int n=>.int ((n+n / 41)%L)|_=>.non,fun _=>rfl⟩
  have hzt:(ns.take 400).length<=63:=by rw[jB_];lia
  refine Ln (xs:=(ns.take 400).map V.int) (ag:=[some (.int L)]) f rfl (SqL.of Ab) (by rw[ja_];lia) (fun x hx R hR=>?_) (fun D hD=>?_)
  ·obtain⟨n,hn,rfl⟩:=jv_.mp hx
   rw[hf]at hR
   walk_at "rd"
   refine⟨?_,?_⟩
   ·first|decide|lia|(unfold CDiv;decide)
   ·exact⟨by lia,hR⟩
  ·have em:((ns.take 400).map V.int).map f=((ns.take 400).map fun n=>(n+n / 41)%L).map V.int:=by
    rw[jW_,jW_]
    exact qj_ fun n _=>hf n
   rw[em]
   have cA:isW L ((ns.take 400).map fun n=>(n+n / 41)%L)=true:=AF.mpr fun z mY=>by
    obtain⟨n,hn,rfl⟩:=jv_.mp mY
    exact⟨j6_ _ s!"",jZ_ _ s!""⟩
   have dy:((ns.take 400).map fun n=>(n+n / 41)%L).length<=63:=by rw[ja_];exact hzt
   have sD:=(Same.new hp (o:=.lst ((ns.take 400).map V.int))).newT hD (o:=.lst (((ns.take 400).map fun n=>(n+n / 41)%L).map V.int))
   have eD:upd (upd H p (.lst ((ns.take 400).map V.int))) D (.lst (((ns.take 400).map fun n=>(n+n / 41)%L).map V.int)) D=some (.lst (((ns.take 400).map fun n=>(n+n / 41)%L).map V.int)):=Ab
   generalize upd (upd H p (.lst ((ns.take 400).map V.int))) D (.lst (((ns.take 400).map fun n=>(n+n / 41)%L).map V.int))=H2 at sD eD ⊢
   generalize (ns.take 400).map (fun n=>(n+n / 41)%L)=ws at cA dy eD
   refine⟨a,ns,1,rfl,sD.seq hs,?_⟩
   dsimp only
   generalize cell ns 1=num
   obtain⟨R,hR⟩:∃R:St->Hp->Prop,∀ag H',R ag H'↔(∃(q:Addr) (us:α2) (o:Option V),Same H H'/\H' q=some (.lst (us.map V.int))/\isW L us=true/\us.length<=400/\ag=[some (.ref a),some (.int L),some (.ref q),some (.int num),o]):=⟨_,fun _ _=>qk_⟩
   refine⟨R,?_,fun ag H' h'=>?_⟩
   ·walk_at "rd"
    refine⟨by decide,ite2 (fun _=>?_) (fun _=>(hR _ _).mpr ⟨D,ws,none,sD,eD,cA,by lia,rfl⟩)⟩
    have h0:=j6_ (num / 4) (show (401:Int)≠0 by decide)
    have h1:=jZ_ (num / 4) (show (0:Int)<401 by decide)
    obtain⟨c,hc⟩:∃c:Nat,num / 4%401=(c:Int):=⟨(num / 4%401).toNat,by lia⟩
    rw[hc]
    refine⟨⟨by decide,by decide⟩,by decide,_,SqL.of eD,fun p2 aU=>?_⟩
    rw[UY]
    have s3:=sD.newT aU (o:=.lst ((ws.take c).map V.int))
    have hp2N:H p2=none:=sD.none aU
    have e3:upd H2 p2 (.lst ((ws.take c).map V.int)) p2=some (.lst ((ws.take c).map V.int)):=Ab
    generalize upd H2 p2 (.lst ((ws.take c).map V.int))=H3 at s3 e3 ⊢
    refine⟨_,.inl (SqL.of e3),?_⟩
    rw[ja_]
    have nO:(ws.take c).length<=c:=by rw[jB_];lia
    have cT:isW L (ws.take c)=true:=Pm cA c
    generalize ws.take c=us at nO cT e3
    refine⟨⟨by decide,by decide⟩,by decide,by lia,by lia,by lia,by lia,?_⟩
    rw[show ((c:Int)-(us.length:Int)).toNat=c-us.length by lia]
    obtain⟨Pv,aq⟩:∃Pv:Nat->St->Hp->Prop,∀i ag H',Pv i ag H'↔(∃(vs:α2) (o:Option V),Same H H'/\H' p2=some (.lst (vs.map V.int))/\isW L vs=true/\vs.length=us.length+i/\ag=[some (.ref a),some (.int L),some (.ref p2),some (.int num),o]):=⟨_,fun _ _ _=>qk_⟩
    refine forR Pv ((aq _ _ _).mpr ⟨us,none,s3,e3,cT,rfl,rfl⟩) (fun i ag H' hi h'=>?_) (fun ag H' h'=>?_)
    ·obtain⟨vs,o,s4,e4,oE,nX,rfl⟩:=(aq _ _ _).mp h'
     walk_at "rd"
     refine⟨.inl ⟨rfl,_,SqL.of e4⟩,_,.inl (s4.seq hs),?_⟩
     rw[ja_]
     have kA:(0:Int)<if (ns.length:Int) > 1 then (ns.length:Int) else 1:=by split<;>lia
     obtain⟨ix,ef⟩:∃ix:Nat,((us.length:Int)+i)%(if (ns.length:Int) > 1 then (ns.length:Int) else 1)=(ix:Int):=⟨_,(xj_ (j6_ _ s!"")).symm⟩
     rw[ef]
     refine⟨kA,a,ns,ix,rfl,s4.seq hs,_,_,_,rfl,by lia,by lia,by lia,fun x cI bN=>?_⟩
     refine⟨_,e4,by rw[ja_];lia,(aq _ _ _).mpr ⟨vs++[x],_,s4.over hp2N,by rw[Ab];simp,?_,by rw[jo_,nX];simp;lia,rfl⟩⟩
     exact Dc oE (AF.mpr fun y hy=>by rw[jq_.mp hy];exact⟨cI,bN⟩)
    ·obtain⟨vs,o,s4,e4,oE,nX,rfl⟩:=(aq _ _ _).mp h'
     exact (hR _ _).mpr ⟨p2,vs,o,s4,e4,oE,by lia,rfl⟩
   ·obtain⟨q,us,o,s3,hq,hu,hul,rfl⟩:=(hR _ _).mp h'
    walk_at "rd"
    exact k q us H' s3 hu hul (SqL.of hq)
theorem Ag_ {L:Nat}{aa mr:α2}{ae wr:α1}{m:Nat}(wf:Wf L aa ae)(eY:Wf L mr wr)(hsz:mr.length<=(sM L aa ae).length+m){E:Nat->α1}
  (eW:∀r,r<(sM L aa ae).length->∀e∈E r,isW L e=true) (e0:∀r,r<(sM L aa ae).length->[]∈E r)
  (sep:∀r s,r<(sM L aa ae).length->s<(sM L aa ae).length->r≠s->∃e,e∈E r/\e∈E s/\bW (sM L aa ae) (sW L aa ae) e r≠bW (sM L aa ae) (sW L aa ae) e s)
  (agr:∀w∈allW (sW L aa ae) (sM L aa ae).length (FU (L:Int) m) E,mkR aa (AM ae w)=mkR mr (AM wr w)):Db_ L aa ae mr wr:=by
 have bz:=sWf wf
 have df:=sCan wf
 have hL:=wf.l1
 have A:Asked L (sM L aa ae).length m (sM L aa ae) mr (sW L aa ae) wr (wayW (sW L aa ae)) E:=by
  refine⟨rfl,bz,eY,hsz,fun r hr=>⟨(Vr df hr).2.1,(Vr df hr).2.2.1⟩,?_,eW,e0,fun r s hr hs aw=>?_,fun r hr v hv hl e he=>?_⟩
  ·obtain⟨top,bf⟩:=Bfs.mk bz
   exact TN bf.nod (r:=0) (jc_ bf.hd)
  ·obtain⟨e,h1,h2,h3⟩:=sep r s hr hs aw
   exact⟨e,h1,h2,h3⟩
  ·have hw:=Vr df hr
   have hww:=L2.Wf.walk' bz (Dc hw.2.1 hv)
   have gE:=Dc (Dc hw.2.1 hv) (eW _ s!"" e he)
   rw[Ew_ wf gE]
   exact agr _ (Vp.mpr ⟨r,hr,v,(Vq s!"").mpr ⟨hv,hl⟩,e,he,rfl⟩)
 intro w hw
 rw[<-Ew_ wf hw]
 exact A.all w hw
theorem R0 {L:Nat}{aa mr:α2}{ae wr:α1}{m:Nat}(wf:Wf L aa ae)(eY:Wf L mr wr)(hsz:mr.length<=(sM L aa ae).length+m)(agr:∀w∈Jf L aa ae m,mkR aa (AM ae w)=mkR mr (AM wr w)):Db_ L aa ae mr wr:=by
 have bz:=sWf wf
 have fin:=Fin17.mk' (b:=bW (sM L aa ae) (sW L aa ae)) (L:=L) bz.n1 bz.n40
 refine Ag_ wf eY hsz (E:=fun _=>(wcOf (sM L aa ae).length L (bW (sM L aa ae) (sW L aa ae))).1) (fun r _ e he=>AF.mpr (fin.wc.ok e he)) (fun r _=>jc_ fin.wc.w0) (fun r s hr hs aw=>?_) agr
 obtain⟨e,_,_,h3,h4⟩:=EY_ (sCan wf) hr hs aw
 exact⟨e,h4,h4,qx_ h3⟩
theorem Mz {L:Nat}{aa:α2}{ae:α1}{m:Nat}(wf:Wf L aa ae){w:α2}(h:w∈Jf L aa ae m):isW L w=true/\w.length<=81+m:=by
 have bz:=sWf wf
 have fin:=Fin17.mk' (b:=bW (sM L aa ae) (sW L aa ae)) (L:=L) bz.n1 bz.n40
 have lb:(wcOf (sM L aa ae).length L (bW (sM L aa ae) (sW L aa ae))).1.length<=40:=by
  have h1:=fin.wc.le
  have h2:=Oz (wcOf (sM L aa ae).length L (bW (sM L aa ae) (sW L aa ae))).2
  rw[fin.wc.len]at h2
  have:=bz.n40
  lia
 have cK:=BT_ fin.wc
 unfold Jf at h
 rw[Vp]at h
 obtain⟨r,hr,v,hv,e,he,rfl⟩:=h
 have hv:=(Vq (by have:=wf.l1;lia)).mp hv
 have hw:=Vr (sCan wf) hr
 obtain⟨j,hj⟩:=jG_.mp he
 have h1:=cK j e hj
 have h2:=(jb_.mp hj).1
 refine⟨Dc (Dc hw.2.1 hv.1) (AF.mpr (fin.wc.ok e he)),?_⟩
 rw[jo_,jo_]
 lia
noncomputable def Ah_ (K:α3):Sp:=fun vs H Q _=>∃(a:Addr) (ns:α2),vs=[.ref a]/\SqL K H a (ns.map V.int)/\ns.length<=63/\H (tabP K "in_order")=some (.tbl #[])/\∀H',Q (.bl true) H'
theorem Fb_   (F:Fun K "law" "law" PY f fd)(T:Txt mg)
   (TX:FnOk P w K mg base CX0 6 JX Vx ["house","more"] (Vn K)) (MA:Fun K "suite" "suite" Il JX Vx) (TY:A7 K Vx ["house","more"] []) (TZ:mg "suite"=some (.ref JX))
   (ID:FnOk P w K mg base CX0 6 DO Ki ["house","words"] (BV_ K)) (EA:Fun K "trials_of" "trials_of" Df DO Ki) (IE:A7 K Ki ["house","words"] []) (IF:mg "trials_of"=some (.ref DO))
   (Cn:FnOk P w K mg base CX0 6 Bg CL ["house","some"] (Df_ K)) (Bu:Fun K "first_failed" "first_failed" Bt Bg CL) (Co:A7 K CL ["house","some"] []) (Cp:mg "first_failed"=some (.ref Bg))
   (Qb:FnOk P w K mg base CX0 7 Hq R3 ["house","some"] (RY K)) (Jh:Fun K "passes" "passes" FO Hq R3) (Qc:A7 K R3 ["house","some"] []) (Qd:mg "passes"=some (.ref Hq))
   (EB:FnOk P w K mg base CX0 3 Ca F8 ["script"] (OQ K)) (CM:Fun K "_law_house_by" "_law_house_by" Bz Ca F8) (EC:A7 K F8 ["script"] []) (ED:mg "_law_house_by"=some (.ref Ca))
   (E2:FnOk P w K mg base CX0 2 Cr GX ["script","house"] (YW K)) (C6:Fun K "_law_more_by" "_law_more_by" BW Cr GX) (E3:A7 K GX ["script","house"] []) (E4:mg "_law_more_by"=some (.ref Cr))
   (EE:FnOk P w K mg base CX0 3 Cb F9 ["house","script","many"] (Vw K)) (CN:Fun K "_law_rival_by" "_law_rival_by" BC Cb F9) (EF:A7 K F9 ["house","script","many"] []) (EG:mg "_law_rival_by"=some (.ref Cb))
   (E5:FnOk P w K mg base CX0 2 Cs GY ["script","letters"] (RZ K)) (C7:Fun K "_law_word_by" "_law_word_by" BZ Cs GY) (E6:A7 K GY ["script","letters"] []) (E7:mg "_law_word_by"=some (.ref Cs))
   (E8:FnOk P w K mg base CX0 1 Ct GZ ["found","letters"] (BU_ K)) (C8:Fun K "_law_is_word" "_law_is_word" B0 Ct GZ) (E9:A7 K GZ ["found","letters"] []) (Fb:mg "_law_is_word"=some (.ref Ct))
   (FW:FnOk P w K mg base CX0 1 DQ Kj ["house","room","word"] (Vv K)) (DR:Fun K "_law_walk" "_law_walk" Di DQ Kj) (FX:A7 K Kj ["house","room","word"] []) (FY:mg "_law_walk"=some (.ref DQ))
  : FnOk P w K mg base CX0 8 f fd ["script"] (Ah_ K):=by
 refine F.ok Fg (fun vs H Q E h=>?_) (fun ay A outer s H vs Q E hr h=>?_)
 ·obtain⟨a,ns,rfl,_⟩:=h;rfl
 ·obtain⟨a,ns,rfl,hs,hz,hT,k⟩:=h
  have hl:=AE
  refine⟨_,(Ad (Aj (i:=1) Fg.nd (Al EB (hr.mono (by decide)) rfl ED CM.kp EC .nil A3 (Aa (pvD 0) Ae)))
   (Ad (Aj (i:=2) Fg.nd (Al E2 (hr.mono (by decide)) rfl E4 C6.kp E3 .nil A3 (Aa (pvD 0) (Aa (pvD 1) Ae))))
   (Ad (Aj (i:=3) Fg.nd (Al EE (hr.mono (by decide)) rfl EG CN.kp EF .nil A3 (Aa (pvD 1) (Aa (pvD 0) (Aa (pvD 2) Ae)))))
   (Ad (Aj (i:=4) Fg.nd (Al ID (hr.mono (by decide)) rfl IF EA.kp IE .nil A3 (Aa (pvD 1) (Aa (Al TX (hr.mono (by decide)) rfl TZ MA.kp TY .nil A3 (Aa (pvD 1) (Aa (pvD 2) Ae))) Ae))))
   (Ad (Cy (Om (ptB (LA (Al Qb (hr.mono (by decide)) rfl Qd Jh.kp Qc .nil A3 (Aa (pvD 3) (Aa (pvD 4) Ae))))))
   (Ad (Aj (i:=5) Fg.nd (Al Cn (hr.mono (by decide)) rfl Cp Bu.kp Co .nil A3 (Aa (pvD 3) (Aa (pvD 4) Ae))))
   (Ad (Cy (PW.pt (VC (Om (ptB (LA (As EJ rfl T.isinstance xg_ (Aa (pvD 5) (Aa (OY (v:=.ty "tuple") rfl T.tuple jz_ rfl) Ae)))))) (UB (Om (ptB (LA (Al E8 (hr.mono (by decide)) rfl Fb C8.kp E9 .nil A3 (Aa (Ah (ixTD Ao) (pvD 5) Ac) (Aa (Ah (ixTD Ao) (pvD 1) Ac) Ae)))))))))
   (Ag (AR SK))
   AX)
   (Ad (Aj (i:=6) Fg.nd (Ah (ixTD Ao) (Ah (ixTD Ao) (pvD 1) Ac) (Al FW (hr.mono (by decide)) rfl FY DR.kp FX .nil A3 (Aa (pvD 1) (Aa Ac (Aa (Ah (ixTD Ao) (pvD 5) Ac) Ae))))))
   (Ag (AR (Do_ (SM (opE Dx) (Ah (ixTD Ao) (pvD 5) Ac) (pvD 6) (AV _)) (Dn_ (SM (opN Zg) (Ah (ixTD Ao) (Ah (ixTD Ao) (pvD 3) Ac) (Al FW (hr.mono (by decide)) rfl FY DR.kp FX .nil A3 (Aa (pvD 3) (Aa Ac (Aa (Ah (ixTD Ao) (pvD 5) Ac) Ae))))) (pvD 6) (AV _)))))))))
   AX)
   (Ad (Aj (i:=7) Fg.nd (Al E5 (hr.mono (by decide)) rfl E7 C7.kp E6 .nil A3 (Aa (pvD 0) (Aa (Ah (ixTD Ao) (pvD 1) Ac) Ae))))
   (Ad (Aj (i:=8) Fg.nd Ac)
   (Ad (Aj (i:=9) Fg.nd Ac)
   (Ad (Ci jJ_ rfl (Bh rfl T.range (Aa (An (opD0 Bm) (As (lenD Ak) (by rfl) T.len jI_ (Aa (pvD 7) Ae)) Ac) Ae)) (Au (i:=10) Fg.nd rfl (Or.inl rfl))
   (Ad (Cy (ptT (Aw (opN Zg) (Ah (ixTD Ao) (Ah (ixTD Ao) (pvD 1) Ac) (pvD 8)) (Ah (ixTD Ao) (Ah (ixTD Ao) (pvD 3) Ac) (pvD 9)) (AV _)))
   (Ag (AR SK))
   AX)
   (Ag (Cy (ptT (Aw (opD0 LB) (pvD 10) (As (lenD Ak) (by rfl) T.len jI_ (Aa (pvD 7) Ae)) (AV _)))
   (Ad (Aj (i:=8) Fg.nd (Ah (ixTD Ao) (Ah (ixTD Ao) (Ah (ixTD Ao) (pvD 1) Ac) (pvD 8)) (Ah (ixLD Bn) (pvD 7) (pvD 10))))
   (Ag (Aj (i:=9) Fg.nd (Ah (ixTD Ao) (Ah (ixTD Ao) (Ah (ixTD Ao) (pvD 3) Ac) (pvD 9)) (Ah (ixLD Bn) (pvD 7) (pvD 10))))))
   AX))))
   (Ag (AR SK))))))))))),?_⟩
  walk_at "rd"
  refine⟨a,ns,rfl,hs,fun h L0 aa ae H1 s1 hh wf js=>?_⟩
  obtain⟨L,rfl⟩:∃L:Nat,L0=(L:Int):=⟨L0.toNat,by have:=wf.l1;lia⟩
  refine⟨a,h,ns,L,aa,ae,rfl,s1.seq hs,hh,wf,fun m H2 hm ck s2=>?_⟩
  refine⟨h,a,L,m,ns,aa,ae,rfl,hh.mono s2,wf,js,hm,(s1.trans s2).seq hs,fun hr mr wr H3 s3 nM eY hsz=>?_⟩
  have i4:=(s1.trans s2).trans s3
  have iW:=i4 _ _ hT
  have hh3:=(hh.mono s2).mono s3
  have eV:=i4.seq hs
  clear s1 s2 s3 hh i4
  refine⟨h,L,m,aa,ae,rfl,hh3,wf,hm,ck,.inl iW,fun D1 H4 os s4 hL4 hDn1 hD1 cW bC jj=>?_⟩
  have t4:TSq K H3 H4:=DH.tsq2 (T:=tabP K "in_order") s4 iW
  have jZ:=BU.monoQ hh3 t4
  have hhr4:=BU.monoQ nM t4
  have hs4:SqL K H4 a (ns.map V.int):=DH.lsq (T:=tabP K "in_order") s4 iW eV
  obtain⟨ws,oF⟩:∃ws,ws=os.map (·.2):=⟨_,rfl⟩
  have aP:∀w,w∈ws↔w∈Jf L aa ae m:=fun w=>by rw[oF,bC.mem_iff,Mr]
  have lX:Wds K H4 (aK.wv os) ws:=by
   have:=YY (K:=K) cW
   rw[<-oF]at this
   exact⟨this.1,fun i w hw=>let ⟨t,a1,a2⟩:=this.2 i w hw;⟨t,a1,SqT.of a2⟩⟩
  have hosl:os.length<=545600:=by
   have h1:=bC.length_eq
   have h2:=Ea (Jf L aa ae m) []
   have h3:=Ws wf ck
   rw[ja_]at h1
   rw[qt_]at h2
   lia
  have hwW:∀w∈ws,isW L w=true:=fun w hw=>(Mz wf ((aP w).mp hw)).1
  have hwL:∀w∈ws,w.length<=84:=fun w hw=>by have:=(Mz wf ((aP w).mp hw)).2;lia
  clear bC jj cW oF hDn1
  refine⟨h,D1,L,aa,ae,_,ws,rfl,jZ,wf,SqL.of hD1,lX,fun w hw=>by have:=hwL w hw;lia,by simp only[aK.wv,ja_];lia,fun _ H5 D ys s5 ik hTr=>?_,fun hf=>?_⟩
  ·have s6:=s5.newT ik (o:=.lst ys)
   have eD:upd H5 D (.lst ys) D=some (.lst ys):=Ab
   have gQ:=hTr.mono (Same.new ik (o:=.lst ys))
   generalize upd H5 D (.lst ys)=H6 at s6 eD gQ ⊢
   have hh6:=jZ.mono s6
   have gR:=hhr4.mono s6
   have hs6:=s6.seq hs4
   have htW:∀tr∈ws.map (FV aa ae),isW L tr.1=true:=fun tr aX=>by
    obtain⟨w,hw,rfl⟩:=jv_.mp aX
    exact hwW w hw
   have htF:¬ ∃tr∈ws.map (FV aa ae),isW L tr.1=false:=fun ⟨tr,aX,hf⟩=>by rw[htW tr aX]at hf;cases hf
   refine⟨hr,D,L,mr,wr,ys,_,rfl,gR,eY,SqL.of eD,gQ,fun _ H7 s7=>?_,fun hf=>absurd hf htF⟩
   refine⟨_,rfl,?_⟩
   refine ite2 (fun hc=>?_) (fun hc=>?_)
   ·have hc:¬ ∀tr∈ws.map (FV aa ae),GU mr wr tr=false:=fun z=>by
     have:(ws.map (FV aa ae)).all (fun tr => !GU mr wr tr)=true:=qG_.mpr fun tr aX=>by rw[z tr aX];rfl
     rw[this]at hc
     exact absurd hc (by decide)
    refine⟨hr,D,L,mr,wr,ys,_,rfl,gR.mono s7,eY,SqL.of (s7 _ _ eD),gQ.mono s7,fun _ H8 s8=>⟨fun z=>absurd z hc,fun i tr x cX aX hx hfail=>?_⟩,fun hf=>absurd hf htF⟩
    obtain⟨t,wt,a1,a2,a3,a4⟩:=gQ.2 i tr aX
    rw[hx]at a1
    cases a1
    have gF:=jc_ aX
    have iq:=htW tr gF
    have mq:=s7.trans s8
    have lx:=mq.seqT a2
    have oG:=mq.seqT a3
    have ic:tr.2=JG aa (AM ae tr.1):=by
     obtain⟨w,hw,rfl⟩:=jv_.mp gF
     rfl
    have aw:JG mr (AM wr tr.1)≠tr.2:=qv_ hfail
    have mv:=hh6.mono mq
    have gS:=gR.mono mq
    obtain⟨tm,tw,q1,q2,q3⟩:=id mv
    obtain⟨rm,rw0,r1,r2,r3⟩:=id gS
    have hwk1:=L2.Wf.walk' wf iq
    have hwk2:=L2.Wf.walk' eY iq
    have b7:=wf.n1
    have fE:=eY.n1
    refine⟨_,_,.tup lx,UP,_,O8,?_⟩
    rw[if_neg (by decide)]
    refine⟨t,rfl,_,lx,_,rfl,h,rfl,_,q1,_,rfl,wt,L,tr.1,rfl,oG,iq,true,rfl,?_⟩
    rw[if_neg (by decide)]
    refine⟨h,rfl,_,q1,_,rfl,t,rfl,_,lx,_,rfl,h,wt,L,0,aa,ae,tr.1,rfl,mv,wf,oG,iq,by lia,by lia,?_⟩
    refine⟨tm,rfl,_,_,rfl,q2,_,I0 hwk1.1 hwk1.2,t,rfl,_,lx,_,rfl,rfl,?_⟩
    rw[if_pos (by rw[ic];rfl)]
    refine⟨hr,rfl,_,r1,_,rfl,t,rfl,_,lx,_,rfl,hr,wt,L,0,mr,wr,tr.1,rfl,gS,eY,oG,iq,by lia,by lia,?_⟩
    refine⟨rm,rfl,_,_,rfl,r2,_,I0 hwk2.1 hwk2.2,rfl,?_⟩
    rw[CQ,CQ,show (!decide (V.int (JG mr (AM wr tr.1))=V.int (JG aa (AM ae tr.1))))=true by rw[<-ic];simp[aw]]
    exact k _
   ·have hc:(ws.map (FV aa ae)).all (fun tr => !GU mr wr tr)=true:=by simpa using hc
    have iP:Db_ L aa ae mr wr:=by
     refine R0 wf eY hsz fun w hw=>?_
     have:=qG_.mp hc (FV aa ae w) (q5_ ((aP w).mpr hw))
     have hf:GU mr wr (FV aa ae w)=false:=by simpa using this
     have:=xq_ hf
     exact (j9_ fun z=>this (fun e=>z e.symm))
    have hh7:=hh6.mono s7
    have hhr7:=gR.mono s7
    obtain⟨tm,tw,q1,q2,q3⟩:=id hh7
    have cB:=wf.l1
    have cC:=wf.l6
    refine⟨h,rfl,_,q1,_,rfl,a,L,ns,rfl,s7.seq hs6,hz,by lia,by lia,fun pw aY H8 s8 gT hwl8 a9=>⟨pw,rfl,_,.inl a9,?_⟩⟩
    rw[ja_]
    refine⟨by lia,by lia,?_⟩
    rw[show ((aY.length:Int)+1).toNat=aY.length+1 by lia]
    have mv:=hh7.mono s8
    have gS:=hhr7.mono s8
    obtain⟨ir,gN,y1,y2,y3⟩:=id mv
    obtain⟨rm,rw0,r1,r2,r3⟩:=id gS
    obtain⟨Pv,aq⟩:∃Pv:Nat->St->Hp->Prop,∀i ag H',Pv i ag H'↔(H'=H8/\∃o,ag=[some (.ref a),some (.ref h),some (.int m),some (.ref hr),some (.ref D),none,none,some (.ref pw),some (.int (AM ae (aY.take i))),some (.int (AM wr (aY.take i))),o]):=⟨_,fun _ _ _=>qk_⟩
    refine forR Pv ((aq _ _ _).mpr ⟨rfl,none,rfl⟩) (fun i ag H' hi h'=>?_) (fun ag H' h'=>?_)
    ·obtain⟨rfl,o,rfl⟩:=(aq _ _ _).mp h'
     have w1:=wf.walk gT i
     have w2:=eY.walk gT i
     have e:=iP (aY.take i) (Pm gT i)
     rw[zP_]
     walk_at "rd"
     refine⟨_,y1,_,rfl,ir,rfl,_,y2,_,I0 w1.1 w1.2,_,r1,_,rfl,rm,rfl,_,r2,_,I0 w2.1 w2.2,rfl,?_⟩
     rw[if_neg (by rw[show JG aa (AM ae (aY.take i))=JG mr (AM wr (aY.take i)) from e];simp)]
     refine⟨_,.inl a9,?_⟩
     rw[ja_]
     refine ite2 (fun au=>?_) (fun bj=>?_)
     ·have dI:i<aY.length:=by lia
      have bV:aY[i]?=some aY[i]:=jf_ dI
      have hx:=AF.mp gT aY[i] (j2_ dI)
      obtain⟨row,g,c1,c2,c3,c4,c5⟩:=wf.step w1.1 w1.2 hx.1 hx.2
      obtain⟨zs,t,z1,z2,z3⟩:=y3.atZ w1.1 c1
      obtain⟨dq,g',d1,d2,d3,d4,d5⟩:=eY.step w2.1 w2.2 hx.1 hx.2
      obtain⟨dA,t',x1,x2,x3⟩:=r3.atZ w2.1 d1
      refine⟨_,y1,_,rfl,gN,rfl,_,z1,_,z2,_,a9,_,Ej s!"" (v:=V.int aY[i]) (by rw[ji_,jd_,bV];rfl),t,rfl,_,_,rfl,z3,_,Bx hx.1 c2,_,r1,_,rfl,rw0,rfl,_,x1,_,x2,_,a9,_,Ej s!"" (v:=V.int aY[i]) (by rw[ji_,jd_,bV];rfl),t',rfl,_,_,rfl,x3,_,Bx hx.1 d2,(aq _ _ _).mpr ⟨rfl,some (.int i),?_⟩⟩
      rw[Hh bV,Hh bV,c3,d3]
     ·refine (aq _ _ _).mpr ⟨rfl,some (.int i),?_⟩
      rw[jO_ (show aY.length<=i by lia),jO_ (show aY.length<=i+1 by lia)]
    ·obtain⟨rfl,o,rfl⟩:=(aq _ _ _).mp h'
     walk_at "rd"
     exact k _
  ·obtain⟨w,hw,hf⟩:=hf
   rw[hwW w hw]at hf
   cases hf
end
theorem all_mk {l:PySem.W.OpenLaw}{w:World}{K:α3}{h:Heap}{mg:Str->α5}{fa Fo Bb DK Eg JF Br Bs CV Fw DC Ee AQ Fx Dr JJ JS Eh Ds JX DO Bg Hq Av AN B8 Ck BP Ca Cr B9 Cq BE Cm DM Cb Cs Ct DQ oH:Addr}(X:K.In h)(G:h.Ns mainGlobals mg)(hfa:mg "law"=some (.ref fa))
  {Wt Wu:Option Addr} {Wv:Array (α5)} {Ww Wx Wy Wz OT WA:Value}
  {Qe Qf:Option Addr} {Qg:Array (α5)} {Qh Qi Qj Qk Ji Ql:Value}
  {R4 R5:Option Addr} {R6:Array (α5)} {R7 R8 R9 Sa Kk Sb:Value}
  {T1 T2:Option Addr} {T3:Array (α5)} {T4 T5 T6 T7 MB T8:Value}
  {Ai_ Aj_:Option Addr} {Ak_:Array (α5)} {Al_ Am_ An_ Ao_ Vy Ap_:Value}
  {N5 N6:Option Addr} {N7:Array (α5)} {N8 N9 Oa Ob HY Oc:Value}
  {Od Oe:Option Addr} {Of:Array (α5)} {Og Oh Oi Oj HZ Ol:Value}
  {T9 Ua:Option Addr} {Ub:Array (α5)} {Uc Ud Ue Ug MC Uh:Value}
  {WB WD:Option Addr} {WE:Array (α5)} {WG WH WI WJ OU WK:Value}
  {WL WM:Option Addr} {WN:Array (α5)} {WO WQ WR WT OV WU:Value}
  {Ui Uj:Option Addr} {Uk:Array (α5)} {Ul Um Uo Uq ME Ur:Value}
  {Hz HD:Option Addr} {HE:Array (α5)} {HH HI HJ HK D6 HN:Value}
  {WV WW:Option Addr} {WX:Array (α5)} {WY WZ W0 W2 OW W3:Value}
  {Qm Qn:Option Addr} {Qo:Array (α5)} {Qp Qq Qr Qs Jj Qt:Value}
  {Aq_ Ar_:Option Addr} {As_:Array (α5)} {At_ Au_ Av_ Aw_ Vz Ax_:Value}
  {Ay_ Az_:Option Addr} {AA_:Array (α5)} {AB_ AC_ AD_ AE_ VA AF_:Value}
  {Us Ut:Option Addr} {Uu:Array (α5)} {Uv Uw Ux Uy Uz:Value}
  {Qu Qv:Option Addr} {Qw:Array (α5)} {Qx Qy Qz QA Jk QB:Value}
  {AG_ AH_:Option Addr} {AI_:Array (α5)} {AJ_ AK_ AL_ AM_ VB AN_:Value}
  {Sd Se:Option Addr} {Sf:Array (α5)} {Sg Sh Si Sj Kl Sk:Value}
  {MF MG:Option Addr} {MK:Array (α5)} {ML MM MN MO G0 MQ:Value}
  {Y4 Y5:Option Addr} {Y6:Array (α5)} {Y7 Y8 Y9 Za Sl Zb:Value}
  {MR MS:Option Addr} {MT:Array (α5)} {MU MV MW MX G1 MY:Value}
  {QC QD:Option Addr} {QE:Array (α5)} {QF QG QH QI Jl QJ:Value}
  {KD KG:Option Addr} {KH:Array (α5)} {KI KJ KL KN Ga KO:Value}
  {MZ M0:Option Addr} {M3:Array (α5)} {M4 M5 M6 M7 G2 M8:Value}
  {QK QL:Option Addr} {QM:Array (α5)} {QN QO QP QQ Jm QR:Value}
  {KQ KR:Option Addr} {KS:Array (α5)} {KU KW KY KZ Gb K0:Value}
  {M9 Na:Option Addr} {Nb:Array (α5)} {Nc Nd Nf Ng G3 Nh:Value}
  {K1 K2:Option Addr} {K3:Array (α5)} {K4 K5 K6 K7 Gd K8:Value}
  {Ni Nj:Option Addr} {Nk:Array (α5)} {Nl Nm Nn Np G4 Nq:Value}
  {JY JZ:Option Addr} {J1:Array (α5)} {J2 J3 J4 J5 Fz J6:Value}
  {Nr Nt:Option Addr} {Nu:Array (α5)} {Nv Nw Nx Ny G8 Nz:Value}
  {Sm Sn:Option Addr} {So:Array (α5)} {Sq Sr Ss Su Km Sv:Value}
  {K9 La:Option Addr} {Lb:Array (α5)} {Lc Ld Le Lf Ge Lg:Value}
  {NA NB:Option Addr} {NC:Array (α5)} {ND NF NG NH G9 NJ:Value}
  {NL NM:Option Addr} {NN:Array (α5)} {NO NQ NR NS Ha NT:Value}
  {Sw Sx:Option Addr} {Sy:Array (α5)} {Sz SA SD SE Kn SF:Value}
  {Fc_ BW_:Option Addr} {Fd_:Array (α5)} {Fe_ BX_ BY_ BZ_ Zc Ca_:Value}
  (a_jt:nsIn K mainGlobals "is_word"=some (some (.ref Fo)))
  (l_jt:K.lookup Fo=some ⟨Ww,Wt,.func (fnOf "is_word" "is_word" (Az Ek) (Ax Ek) (Af Ek) .none Wx Wy Wz Wu OT WA),Wv⟩)
  (c_jt:codeIn K OT "is_word"=true)
  (k_jt:keepIn K (.ref Fo)=true)
  (a_jh:nsIn K mainGlobals "check_word"=some (some (.ref Bb)))
  (l_jh:K.lookup Bb=some ⟨Qh,Qe,.func (fnOf "check_word" "check_word" (Az BH) (Ax BH) (Af BH) .none Qi Qj Qk Qf Ji Ql),Qg⟩)
  (c_jh:codeIn K Ji "check_word"=true)
  (k_jh:keepIn K (.ref Bb)=true)
  (a_jm:nsIn K mainGlobals "next_word"=some (some (.ref DK)))
  (l_jm:K.lookup DK=some ⟨R7,R4,.func (fnOf "next_word" "next_word" (Az De) (Ax De) (Af De) .none R8 R9 Sa R5 Kk Sb),R6⟩)
  (c_jm:codeIn K Kk "next_word"=true)
  (k_jm:keepIn K (.ref DK)=true)
  (a_jq:nsIn K mainGlobals "words_to"=some (some (.ref Eg)))
  (l_jq:K.lookup Eg=some ⟨T4,T1,.func (fnOf "words_to" "words_to" (Az DI) (Ax DI) (Af DI) .none T5 T6 T7 T2 MB T8),T3⟩)
  (c_jq:codeIn K MB "words_to"=true)
  (k_jq:keepIn K (.ref Eg)=true)
  (a_jy:nsIn K mainGlobals "trail"=some (some (.ref JF)))
  (l_jy:K.lookup JF=some ⟨Al_,Ai_,.func (fnOf "trail" "trail" (Az Ig) (Ax Ig) (Af Ig) .none Am_ An_ Ao_ Aj_ Vy Ap_),Ak_⟩)
  (c_jy:codeIn K Vy "trail"=true)
  (k_jy:keepIn K (.ref JF)=true)
  (a_jf:nsIn K mainGlobals "room_behind"=some (some (.ref Br)))
  (l_jf:K.lookup Br=some ⟨N8,N5,.func (fnOf "room_behind" "room_behind" (Az BI) (Ax BI) (Af BI) .none N9 Oa Ob N6 HY Oc),N7⟩)
  (c_jf:codeIn K HY "room_behind"=true)
  (k_jf:keepIn K (.ref Br)=true)
  (a_jg:nsIn K mainGlobals "mark_behind"=some (some (.ref Bs)))
  (l_jg:K.lookup Bs=some ⟨Og,Od,.func (fnOf "mark_behind" "mark_behind" (Az BJ) (Ax BJ) (Af BJ) .none Oh Oi Oj Oe HZ Ol),Of⟩)
  (c_jg:codeIn K HZ "mark_behind"=true)
  (k_jg:keepIn K (.ref Bs)=true)
  (a_jr:nsIn K mainGlobals "words_in"=some (some (.ref CV)))
  (l_jr:K.lookup CV=some ⟨Uc,T9,.func (fnOf "words_in" "words_in" (Az Dn) (Ax Dn) (Af Dn) .none Ud Ue Ug Ua MC Uh),Ub⟩)
  (c_jr:codeIn K MC "words_in"=true)
  (k_jr:keepIn K (.ref CV)=true)
  (a_ju:nsIn K mainGlobals "ways_in"=some (some (.ref Fw)))
  (l_ju:K.lookup Fw=some ⟨WG,WB,.func (fnOf "ways_in" "ways_in" (Az El) (Ax El) (Af El) .none WH WI WJ WD OU WK),WE⟩)
  (c_ju:codeIn K OU "ways_in"=true)
  (k_ju:keepIn K (.ref Fw)=true)
  (a_jv:nsIn K mainGlobals "reached"=some (some (.ref DC)))
  (l_jv:K.lookup DC=some ⟨WO,WL,.func (fnOf "reached" "reached" (Az DT) (Ax DT) (Af DT) .none WQ WR WT WM OV WU),WN⟩)
  (c_jv:codeIn K OV "reached"=true)
  (k_jv:keepIn K (.ref DC)=true)
  (a_js:nsIn K mainGlobals "numbered"=some (some (.ref Ee)))
  (l_js:K.lookup Ee=some ⟨Ul,Ui,.func (fnOf "numbered" "numbered" (Az DJ) (Ax DJ) (Af DJ) .none Um Uo Uq Uj ME Ur),Uk⟩)
  (c_js:codeIn K ME "numbered"=true)
  (k_js:keepIn K (.ref Ee)=true)
  (a_j1:nsIn K mainGlobals "words_and_classes"=some (some (.ref AQ)))
  (l_j1:K.lookup AQ=some ⟨HH,Hz,.func (fnOf "words_and_classes" "words_and_classes" (Az A0) (Ax A0) (Af A0) .none HI HJ HK HD D6 HN),HE⟩)
  (c_j1:codeIn K D6 "words_and_classes"=true)
  (k_j1:keepIn K (.ref AQ)=true)
  (a_jw:nsIn K mainGlobals "tellers"=some (some (.ref Fx)))
  (l_jw:K.lookup Fx=some ⟨WY,WV,.func (fnOf "tellers" "tellers" (Az Em) (Ax Em) (Af Em) .none WZ W0 W2 WW OW W3),WX⟩)
  (c_jw:codeIn K OW "tellers"=true)
  (k_jw:keepIn K (.ref Fx)=true)
  (a_ji:nsIn K mainGlobals "classes_of"=some (some (.ref Dr)))
  (l_ji:K.lookup Dr=some ⟨Qp,Qm,.func (fnOf "classes_of" "classes_of" (Az CF) (Ax CF) (Af CF) .none Qq Qr Qs Qn Jj Qt),Qo⟩)
  (c_ji:codeIn K Jj "classes_of"=true)
  (k_ji:keepIn K (.ref Dr)=true)
  (a_jz:nsIn K mainGlobals "homes"=some (some (.ref JJ)))
  (l_jz:K.lookup JJ=some ⟨At_,Aq_,.func (fnOf "homes" "homes" (Az Ii) (Ax Ii) (Af Ii) .none Au_ Av_ Aw_ Ar_ Vz Ax_),As_⟩)
  (c_jz:codeIn K Vz "homes"=true)
  (k_jz:keepIn K (.ref JJ)=true)
  (a_j10:nsIn K mainGlobals "least"=some (some (.ref JS)))
  (l_j10:K.lookup JS=some ⟨AB_,Ay_,.func (fnOf "least" "least" (Az Ij) (Ax Ij) (Af Ij) .none AC_ AD_ AE_ Az_ VA AF_),AA_⟩)
  (c_j10:codeIn K VA "least"=true)
  (k_j10:keepIn K (.ref JS)=true)
  (a_j0:nsIn K mainGlobals "in_order"=some (some (.ref Eh)))
  {aG:Addr}
  (l_j0:K.lookup Eh=some ⟨Uv,Us,.func (fnOf "in_order" "in_order" (Az Dp) (Ax Dp) (Af Dp) .none Uw Ux Uy Ut (.ref aG) Uz),Uu⟩)
  {aH:Addr} {oC_in_order:Value} {dC_in_order:Option Addr} {sC_in_order:Array (α5)} {vC_in_order:Array Value} (lc_in_order:K.lookup aG=some ⟨oC_in_order,dC_in_order,.fields vC_in_order,sC_in_order⟩) (hx_in_order:vC_in_order[11]?=some (.ref aH)) (kt_in_order:K.lookup aH=none) (ch_in_order:PySem.W.codeHdIn K aG aH=true) (tb_in_order:h.get? aH=some (PySem.W.tabObj #[]))
  (c_j0:codeIn K (.ref aG) "in_order"=true)
  (k_j0:keepIn K (.ref Eh)=true)
  (a_jj:nsIn K mainGlobals "words_with"=some (some (.ref Ds)))
  (l_jj:K.lookup Ds=some ⟨Qx,Qu,.func (fnOf "words_with" "words_with" (Az CG) (Ax CG) (Af CG) .none Qy Qz QA Qv Jk QB),Qw⟩)
  (c_jj:codeIn K Jk "words_with"=true)
  (k_jj:keepIn K (.ref Ds)=true)
  (a_j11:nsIn K mainGlobals "suite"=some (some (.ref JX)))
  (l_j11:K.lookup JX=some ⟨AJ_,AG_,.func (fnOf "suite" "suite" (Az Il) (Ax Il) (Af Il) .none AK_ AL_ AM_ AH_ VB AN_),AI_⟩)
  (c_j11:codeIn K VB "suite"=true)
  (k_j11:keepIn K (.ref JX)=true)
  (a_jn:nsIn K mainGlobals "trials_of"=some (some (.ref DO)))
  (l_jn:K.lookup DO=some ⟨Sg,Sd,.func (fnOf "trials_of" "trials_of" (Az Df) (Ax Df) (Af Df) .none Sh Si Sj Se Kl Sk),Sf⟩)
  (c_jn:codeIn K Kl "trials_of"=true)
  (k_jn:keepIn K (.ref DO)=true)
  (a_j7:nsIn K mainGlobals "first_failed"=some (some (.ref Bg)))
  (l_j7:K.lookup Bg=some ⟨ML,MF,.func (fnOf "first_failed" "first_failed" (Az Bt) (Ax Bt) (Af Bt) .none MM MN MO MG G0 MQ),MK⟩)
  (c_j7:codeIn K G0 "first_failed"=true)
  (k_j7:keepIn K (.ref Bg)=true)
  (a_jx:nsIn K mainGlobals "passes"=some (some (.ref Hq)))
  (l_jx:K.lookup Hq=some ⟨Y7,Y4,.func (fnOf "passes" "passes" (Az FO) (Ax FO) (Af FO) .none Y8 Y9 Za Y5 Sl Zb),Y6⟩)
  (c_jx:codeIn K Sl "passes"=true)
  (k_jx:keepIn K (.ref Hq)=true)
  (a_j8:nsIn K mainGlobals "_law_cell_at"=some (some (.ref Av)))
  (l_j8:K.lookup Av=some ⟨MU,MR,.func (fnOf "_law_cell_at" "_law_cell_at" (Az A6) (Ax A6) (Af A6) .none MV MW MX MS G1 MY),MT⟩)
  (c_j8:codeIn K G1 "_law_cell_at"=true)
  (k_j8:keepIn K (.ref Av)=true)
  (a_jk:nsIn K mainGlobals "_law_mixed"=some (some (.ref AN)))
  (l_jk:K.lookup AN=some ⟨QF,QC,.func (fnOf "_law_mixed" "_law_mixed" (Az Bk) (Ax Bk) (Af Bk) .none QG QH QI QD Jl QJ),QE⟩)
  (c_jk:codeIn K Jl "_law_mixed"=true)
  (k_jk:keepIn K (.ref AN)=true)
  (a_j3:nsIn K mainGlobals "_law_marks_by"=some (some (.ref B8)))
  (l_j3:K.lookup B8=some ⟨KI,KD,.func (fnOf "_law_marks_by" "_law_marks_by" (Az By) (Ax By) (Af By) .none KJ KL KN KG Ga KO),KH⟩)
  (c_j3:codeIn K Ga "_law_marks_by"=true)
  (k_j3:keepIn K (.ref B8)=true)
  (a_j9:nsIn K mainGlobals "_law_ways_by"=some (some (.ref Ck)))
  (l_j9:K.lookup Ck=some ⟨M4,MZ,.func (fnOf "_law_ways_by" "_law_ways_by" (Az BV) (Ax BV) (Af BV) .none M5 M6 M7 M0 G2 M8),M3⟩)
  (c_j9:codeIn K G2 "_law_ways_by"=true)
  (k_j9:keepIn K (.ref Ck)=true)
  (a_jl:nsIn K mainGlobals "_law_blown"=some (some (.ref BP)))
  (l_jl:K.lookup BP=some ⟨QN,QK,.func (fnOf "_law_blown" "_law_blown" (Az Cf) (Ax Cf) (Af Cf) .none QO QP QQ QL Jm QR),QM⟩)
  (c_jl:codeIn K Jm "_law_blown"=true)
  (k_jl:keepIn K (.ref BP)=true)
  (a_j4:nsIn K mainGlobals "_law_house_by"=some (some (.ref Ca)))
  (l_j4:K.lookup Ca=some ⟨KU,KQ,.func (fnOf "_law_house_by" "_law_house_by" (Az Bz) (Ax Bz) (Af Bz) .none KW KY KZ KR Gb K0),KS⟩)
  (c_j4:codeIn K Gb "_law_house_by"=true)
  (k_j4:keepIn K (.ref Ca)=true)
  (a_ja:nsIn K mainGlobals "_law_more_by"=some (some (.ref Cr)))
  (l_ja:K.lookup Cr=some ⟨Nc,M9,.func (fnOf "_law_more_by" "_law_more_by" (Az BW) (Ax BW) (Af BW) .none Nd Nf Ng Na G3 Nh),Nb⟩)
  (c_ja:codeIn K G3 "_law_more_by"=true)
  (k_ja:keepIn K (.ref Cr)=true)
  (a_j5:nsIn K mainGlobals "_law_order_of"=some (some (.ref B9)))
  (l_j5:K.lookup B9=some ⟨K4,K1,.func (fnOf "_law_order_of" "_law_order_of" (Az BA) (Ax BA) (Af BA) .none K5 K6 K7 K2 Gd K8),K3⟩)
  (c_j5:codeIn K Gd "_law_order_of"=true)
  (k_j5:keepIn K (.ref B9)=true)
  (a_jb:nsIn K mainGlobals "_law_spoiled"=some (some (.ref Cq)))
  (l_jb:K.lookup Cq=some ⟨Nl,Ni,.func (fnOf "_law_spoiled" "_law_spoiled" (Az BX) (Ax BX) (Af BX) .none Nm Nn Np Nj G4 Nq),Nk⟩)
  (c_jb:codeIn K G4 "_law_spoiled"=true)
  (k_jb:keepIn K (.ref Cq)=true)
  (a_j2:nsIn K mainGlobals "_law_turned_by"=some (some (.ref BE)))
  (l_j2:K.lookup BE=some ⟨J2,JY,.func (fnOf "_law_turned_by" "_law_turned_by" (Az Bo) (Ax Bo) (Af Bo) .none J3 J4 J5 JZ Fz J6),J1⟩)
  (c_j2:codeIn K Fz "_law_turned_by"=true)
  (k_j2:keepIn K (.ref BE)=true)
  (a_jc:nsIn K mainGlobals "_law_classes"=some (some (.ref Cm)))
  (l_jc:K.lookup Cm=some ⟨Nv,Nr,.func (fnOf "_law_classes" "_law_classes" (Az BY) (Ax BY) (Af BY) .none Nw Nx Ny Nt G8 Nz),Nu⟩)
  (c_jc:codeIn K G8 "_law_classes"=true)
  (k_jc:keepIn K (.ref Cm)=true)
  (a_jo:nsIn K mainGlobals "_law_base"=some (some (.ref DM)))
  (l_jo:K.lookup DM=some ⟨Sq,Sm,.func (fnOf "_law_base" "_law_base" (Az Dh) (Ax Dh) (Af Dh) .none Sr Ss Su Sn Km Sv),So⟩)
  (c_jo:codeIn K Km "_law_base"=true)
  (k_jo:keepIn K (.ref DM)=true)
  (a_j6:nsIn K mainGlobals "_law_rival_by"=some (some (.ref Cb)))
  (l_j6:K.lookup Cb=some ⟨Lc,K9,.func (fnOf "_law_rival_by" "_law_rival_by" (Az BC) (Ax BC) (Af BC) .none Ld Le Lf La Ge Lg),Lb⟩)
  (c_j6:codeIn K Ge "_law_rival_by"=true)
  (k_j6:keepIn K (.ref Cb)=true)
  (a_jd:nsIn K mainGlobals "_law_word_by"=some (some (.ref Cs)))
  (l_jd:K.lookup Cs=some ⟨ND,NA,.func (fnOf "_law_word_by" "_law_word_by" (Az BZ) (Ax BZ) (Af BZ) .none NF NG NH NB G9 NJ),NC⟩)
  (c_jd:codeIn K G9 "_law_word_by"=true)
  (k_jd:keepIn K (.ref Cs)=true)
  (a_je:nsIn K mainGlobals "_law_is_word"=some (some (.ref Ct)))
  (l_je:K.lookup Ct=some ⟨NO,NL,.func (fnOf "_law_is_word" "_law_is_word" (Az B0) (Ax B0) (Af B0) .none NQ NR NS NM Ha NT),NN⟩)
  (c_je:codeIn K Ha "_law_is_word"=true)
  (k_je:keepIn K (.ref Ct)=true)
  (a_jp:nsIn K mainGlobals "_law_walk"=some (some (.ref DQ)))
  (l_jp:K.lookup DQ=some ⟨Sz,Sw,.func (fnOf "_law_walk" "_law_walk" (Az Di) (Ax Di) (Af Di) .none SA SD SE Sx Kn SF),Sy⟩)
  (c_jp:codeIn K Kn "_law_walk"=true)
  (k_jp:keepIn K (.ref DQ)=true)
  (a_j12:nsIn K mainGlobals "law"=some (some (.ref oH)))
  (l_j12:K.lookup oH=some ⟨Fe_,Fc_,.func (fnOf "law" "law" (Az PY) (Ax PY) (Af PY) .none BX_ BY_ BZ_ BW_ Zc Ca_),Fd_⟩)
  (c_j12:codeIn K Zc "law"=true)
  (k_j12:keepIn K (.ref oH)=true)
  (z_all:nsIn K mainGlobals "all"=some none)
  (z_bool:nsIn K mainGlobals "bool"=some none)
  (z_enumerate:nsIn K mainGlobals "enumerate"=some none)
  (z_int:nsIn K mainGlobals "int"=some none)
  (z_isinstance:nsIn K mainGlobals "isinstance"=some none)
  (z_len:nsIn K mainGlobals "len"=some none)
  (z_list:nsIn K mainGlobals "list"=some none)
  (z_max:nsIn K mainGlobals "max"=some none)
  (z_min:nsIn K mainGlobals "min"=some none)
  (z_range:nsIn K mainGlobals "range"=some none)
  (z_sorted:nsIn K mainGlobals "sorted"=some none)
  (z_tuple:nsIn K mainGlobals "tuple"=some none)
  (z_zip:nsIn K mainGlobals "zip"=some none)
  : ∃(fd:α6) (c T:Addr),PySem.W.tabIn K "in_order"=some (c,T)/\K.lookup T=none/\PySem.W.CodeHd h c T/\h.get? T=some (PySem.W.tabObj #[])/\(∀(s:Shared) (v:Value),BindsTo s fd ⟨[v],[]⟩ [("script",v)])/\∀base:Heap,K.In base->base.Ns mainGlobals mg->PySem.W.CodeHd base c T->BmOk mg base->FnOk l.prog w K mg base CX0 8 fa fd ["script"] (Ah_ K):=by
 have e:=hfa.symm.trans (jF_ X G a_j12)
 cases e
 have T:Txt mg:=⟨qb_ X G z_all,qb_ X G z_bool,qb_ X G z_enumerate,qb_ X G z_int,qb_ X G z_isinstance,qb_ X G z_len,qb_ X G z_list,qb_ X G z_max,qb_ X G z_min,qb_ X G z_range,qb_ X G z_sorted,qb_ X G z_tuple,qb_ X G z_zip⟩
 have GF:=A8 (st:=Ek) l_jt c_jt k_jt
 have L6:=GF.binds (ps:=["letters","word"]) fun _ _ _ _ _ _ us hl=>(by obtain⟨y0,y1,rfl⟩:=len2 hl;rfl)
 have L7:=jF_ X G a_jt
 have Bl:=A8 (st:=BH) l_jh c_jh k_jh
 have BM:=Bl.binds (ps:=["letters","word"]) fun _ _ _ _ _ _ us hl=>(by obtain⟨y0,y1,rfl⟩:=len2 hl;rfl)
 have BN:=jF_ X G a_jh
 have Ep:=A8 (st:=De) l_jm c_jm k_jm
 have Iy:=Ep.binds (ps:=["letters","word"]) fun _ _ _ _ _ _ us hl=>(by obtain⟨y0,y1,rfl⟩:=len2 hl;rfl)
 have Iz:=jF_ X G a_jm
 have Fv:=A8 (st:=DI) l_jq c_jq k_jq
 have JL:=Fv.binds (ps:=["letters","most"]) fun _ _ _ _ _ _ us hl=>(by obtain⟨y0,y1,rfl⟩:=len2 hl;rfl)
 have JN:=jF_ X G a_jq
 have L8:=A8 (st:=Ig) l_jy c_jy k_jy
 have Tx:=L8.binds (ps:=["house","word"]) fun _ _ _ _ _ _ us hl=>(by obtain⟨y0,y1,rfl⟩:=len2 hl;rfl)
 have Tz:=jF_ X G a_jy
 have BO:=A8 (st:=BI) l_jf c_jf k_jf
 have CT:=BO.binds (ps:=["house","word"]) fun _ _ _ _ _ _ us hl=>(by obtain⟨y0,y1,rfl⟩:=len2 hl;rfl)
 have CU:=jF_ X G a_jf
 have BQ:=A8 (st:=BJ) l_jg c_jg k_jg
 have CY:=BQ.binds (ps:=["house","word"]) fun _ _ _ _ _ _ us hl=>(by obtain⟨y0,y1,rfl⟩:=len2 hl;rfl)
 have CZ:=jF_ X G a_jg
 have Dq:=A8 (st:=Dn) l_jr c_jr k_jr
 have Ec:=Dq.binds (ps:=["house"]) fun _ _ _ _ _ _ us hl=>(by obtain⟨y0,rfl⟩:=len1 hl;rfl)
 have Ed:=jF_ X G a_jr
 have GK:=A8 (st:=El) l_ju c_ju k_ju
 have Me:=GK.binds (ps:=["house"]) fun _ _ _ _ _ _ us hl=>(by obtain⟨y0,rfl⟩:=len1 hl;rfl)
 have Mf:=jF_ X G a_ju
 have DV:=A8 (st:=DT) l_jv c_jv k_jv
 have Ft:=DV.binds (ps:=["house"]) fun _ _ _ _ _ _ us hl=>(by obtain⟨y0,rfl⟩:=len1 hl;rfl)
 have Fu:=jF_ X G a_jv
 have Ef:=A8 (st:=DJ) l_js c_js k_js
 have Hl:=Ef.binds (ps:=["row"]) fun _ _ _ _ _ _ us hl=>(by obtain⟨y0,rfl⟩:=len1 hl;rfl)
 have Hm:=jF_ X G a_js
 have A1:=A8 (st:=A0) l_j1 c_j1 k_j1
 have Bd:=A1.binds (ps:=["house"]) fun _ _ _ _ _ _ us hl=>(by obtain⟨y0,rfl⟩:=len1 hl;rfl)
 have Be:=jF_ X G a_j1
 have GL:=A8 (st:=Em) l_jw c_jw k_jw
 have Mi:=GL.binds (ps:=["house"]) fun _ _ _ _ _ _ us hl=>(by obtain⟨y0,rfl⟩:=len1 hl;rfl)
 have Mj:=jF_ X G a_jw
 have DW:=A8 (st:=CF) l_ji c_ji k_ji
 have GI:=DW.binds (ps:=["house"]) fun _ _ _ _ _ _ us hl=>(by obtain⟨y0,rfl⟩:=len1 hl;rfl)
 have GJ:=jF_ X G a_ji
 have Mb:=A8 (st:=Ii) l_jz c_jz k_jz
 have TJ:=Mb.binds (ps:=["house"]) fun _ _ _ _ _ _ us hl=>(by obtain⟨y0,rfl⟩:=len1 hl;rfl)
 have TL:=jF_ X G a_jz
 have Ml:=A8 (st:=Ij) l_j10 c_j10 k_j10
 have TR:=Ml.binds (ps:=["house"]) fun _ _ _ _ _ _ us hl=>(by obtain⟨y0,rfl⟩:=len1 hl;rfl)
 have TU:=jF_ X G a_j10
 have Hn:=A8 (st:=Dp) l_j0 c_j0 k_j0
 have JQ:=Hn.binds (ps:=["words"]) fun _ _ _ _ _ _ us hl=>(by obtain⟨y0,rfl⟩:=len1 hl;rfl)
 have JR:=jF_ X G a_j0
 have DX:=A8 (st:=CG) l_jj c_jj k_jj
 have GO:=DX.binds (ps:=["base","more","ends"]) fun _ _ _ _ _ _ us hl=>(by obtain⟨y0,y1,y2,rfl⟩:=len3 hl;rfl)
 have GP:=jF_ X G a_jj
 have MA:=A8 (st:=Il) l_j11 c_j11 k_j11
 have TY:=MA.binds (ps:=["house","more"]) fun _ _ _ _ _ _ us hl=>(by obtain⟨y0,y1,rfl⟩:=len2 hl;rfl)
 have TZ:=jF_ X G a_j11
 have EA:=A8 (st:=Df) l_jn c_jn k_jn
 have IE:=EA.binds (ps:=["house","words"]) fun _ _ _ _ _ _ us hl=>(by obtain⟨y0,y1,rfl⟩:=len2 hl;rfl)
 have IF:=jF_ X G a_jn
 have Bu:=A8 (st:=Bt) l_j7 c_j7 k_j7
 have Co:=Bu.binds (ps:=["house","some"]) fun _ _ _ _ _ _ us hl=>(by obtain⟨y0,y1,rfl⟩:=len2 hl;rfl)
 have Cp:=jF_ X G a_j7
 have Jh:=A8 (st:=FO) l_jx c_jx k_jx
 have Qc:=Jh.binds (ps:=["house","some"]) fun _ _ _ _ _ _ us hl=>(by obtain⟨y0,y1,rfl⟩:=len2 hl;rfl)
 have Qd:=jF_ X G a_jx
 have Am:=A8 (st:=A6) l_j8 c_j8 k_j8
 have Aq:=Am.binds (ps:=["script","k"]) fun _ _ _ _ _ _ us hl=>(by obtain⟨y0,y1,rfl⟩:=len2 hl;rfl)
 have Ar:=jF_ X G a_j8
 have Ay:=A8 (st:=Bk) l_jk c_jk k_jk
 have AI:=Ay.binds (ps:=["number","k","many"]) fun _ _ _ _ _ _ us hl=>(by obtain⟨y0,y1,y2,rfl⟩:=len3 hl;rfl)
 have AJ:=jF_ X G a_jk
 have CJ:=A8 (st:=By) l_j3 c_j3 k_j3
 have Et:=CJ.binds (ps:=["number","rooms"]) fun _ _ _ _ _ _ us hl=>(by obtain⟨y0,y1,rfl⟩:=len2 hl;rfl)
 have Eu:=jF_ X G a_j3
 have C2:=A8 (st:=BV) l_j9 c_j9 k_j9
 have ET:=C2.binds (ps:=["script","letters","rooms"]) fun _ _ _ _ _ _ us hl=>(by obtain⟨y0,y1,y2,rfl⟩:=len3 hl;rfl)
 have EU:=jF_ X G a_j9
 have Cg:=A8 (st:=Cf) l_jl c_jl k_jl
 have Du:=Cg.binds (ps:=["house","number","rooms"]) fun _ _ _ _ _ _ us hl=>(by obtain⟨y0,y1,y2,rfl⟩:=len3 hl;rfl)
 have Dv:=jF_ X G a_jl
 have CM:=A8 (st:=Bz) l_j4 c_j4 k_j4
 have EC:=CM.binds (ps:=["script"]) fun _ _ _ _ _ _ us hl=>(by obtain⟨y0,rfl⟩:=len1 hl;rfl)
 have ED:=jF_ X G a_j4
 have C6:=A8 (st:=BW) l_ja c_ja k_ja
 have E3:=C6.binds (ps:=["script","house"]) fun _ _ _ _ _ _ us hl=>(by obtain⟨y0,y1,rfl⟩:=len2 hl;rfl)
 have E4:=jF_ X G a_ja
 have CK:=A8 (st:=BA) l_j5 c_j5 k_j5
 have Ex:=CK.binds (ps:=["house"]) fun _ _ _ _ _ _ us hl=>(by obtain⟨y0,rfl⟩:=len1 hl;rfl)
 have Ey:=jF_ X G a_j5
 have C5:=A8 (st:=BX) l_jb c_jb k_jb
 have EZ:=C5.binds (ps:=["house","number"]) fun _ _ _ _ _ _ us hl=>(by obtain⟨y0,y1,rfl⟩:=len2 hl;rfl)
 have E1:=jF_ X G a_jb
 have Cj:=A8 (st:=Bo) l_j2 c_j2 k_j2
 have D3:=Cj.binds (ps:=["house","number"]) fun _ _ _ _ _ _ us hl=>(by obtain⟨y0,y1,rfl⟩:=len2 hl;rfl)
 have D4:=jF_ X G a_j2
 have C3:=A8 (st:=BY) l_jc c_jc k_jc
 have EW:=C3.binds (ps:=["house"]) fun _ _ _ _ _ _ us hl=>(by obtain⟨y0,rfl⟩:=len1 hl;rfl)
 have EX:=jF_ X G a_jc
 have Ez:=A8 (st:=Dh) l_jo c_jo k_jo
 have IB:=Ez.binds (ps:=["house"]) fun _ _ _ _ _ _ us hl=>(by obtain⟨y0,rfl⟩:=len1 hl;rfl)
 have IC:=jF_ X G a_jo
 have CN:=A8 (st:=BC) l_j6 c_j6 k_j6
 have EF:=CN.binds (ps:=["house","script","many"]) fun _ _ _ _ _ _ us hl=>(by obtain⟨y0,y1,y2,rfl⟩:=len3 hl;rfl)
 have EG:=jF_ X G a_j6
 have C7:=A8 (st:=BZ) l_jd c_jd k_jd
 have E6:=C7.binds (ps:=["script","letters"]) fun _ _ _ _ _ _ us hl=>(by obtain⟨y0,y1,rfl⟩:=len2 hl;rfl)
 have E7:=jF_ X G a_jd
 have C8:=A8 (st:=B0) l_je c_je k_je
 have E9:=C8.binds (ps:=["found","letters"]) fun _ _ _ _ _ _ us hl=>(by obtain⟨y0,y1,rfl⟩:=len2 hl;rfl)
 have Fb:=jF_ X G a_je
 have DR:=A8 (st:=Di) l_jp c_jp k_jp
 have FX:=DR.binds (ps:=["house","room","word"]) fun _ _ _ _ _ _ us hl=>(by obtain⟨y0,y1,y2,rfl⟩:=len3 hl;rfl)
 have FY:=jF_ X G a_jp
 have Ff_:=A8 (st:=PY) l_j12 c_j12 k_j12
 have Fy_:=Ff_.binds (ps:=["script"]) fun _ _ _ _ _ _ us hl=>(by obtain⟨y0,rfl⟩:=len1 hl;rfl)
 have Fz_:=jF_ X G a_j12
 have ti_in_order:=Z6 a_j0 l_j0 rfl lc_in_order hx_in_order
 refine⟨fnOf "law" "law" (Az PY) (Ax PY) (Af PY) .none BX_ BY_ BZ_ BW_ Zc Ca_,aG,aH,ti_in_order,kt_in_order,PySem.W.codeHd_of_K X ch_in_order,tb_in_order,fun s v=>.of_eq rfl,fun base _ _ hC_ hB_=>?_⟩
 have FL_in_order:=CZ_ (st:=Dp) ti_in_order l_j0 c_j0 hC_ hB_
 have L5:=Wl (P:=l.prog) (w:=w) (base:=base) GF T
 have BK:=PZ (P:=l.prog) (w:=w) (base:=base) Bl T L5 GF L6 L7
 have Iw:=RM (P:=l.prog) (w:=w) (base:=base) Ep T BK Bl BM BN
 have JK:=Tu (P:=l.prog) (w:=w) (base:=base) Fv T Iw Ep Iy Iz
 have Tw:=Z8 (P:=l.prog) (w:=w) (base:=base) L8 T BK Bl BM BN
 have CS:=N3 (P:=l.prog) (w:=w) (base:=base) BO T Tw L8 Tx Tz
 have CW:=N4 (P:=l.prog) (w:=w) (base:=base) BQ T CS BO CT CU
 have Eb:=TC (P:=l.prog) (w:=w) (base:=base) Dq T
 have Md:=Wm (P:=l.prog) (w:=w) (base:=base) GK T Eb Dq Ec Ed
 have Fq:=Wn (P:=l.prog) (w:=w) (base:=base) DV T Eb Dq Ec Ed
 have Hk:=TF (P:=l.prog) (w:=w) (base:=base) Ef T
 have Bc:=Hx (P:=l.prog) (w:=w) (base:=base) A1 T Hk Ef Hl Hm
 have Mh:=Wo (P:=l.prog) (w:=w) (base:=base) GL T Bc A1 Bd Be
 have GH:=P5 (P:=l.prog) (w:=w) (base:=base) DW T Bc A1 Bd Be
 have TH:=Aa_ (P:=l.prog) (w:=w) (base:=base) Mb T Fq DV Ft Fu GH DW GI GJ
 have TQ:=Ab_ (P:=l.prog) (w:=w) (base:=base) Ml T Fq DV Ft Fu TH Mb TJ TL
 have JO:=TM (P:=l.prog) (w:=w) (base:=base) FL_in_order T
 have GN:=P7 (P:=l.prog) (w:=w) (base:=base) DX T JK Fv JL JN CS BO CT CU Md GK Me Mf JO Hn JQ JR
 have TX:=Ac_ (P:=l.prog) (w:=w) (base:=base) MA T Mh GL Mi Mj TQ Ml TR TU GN DX GO GP
 have ID:=RX (P:=l.prog) (w:=w) (base:=base) EA T CW BQ CY CZ
 have Cn:=Mw (P:=l.prog) (w:=w) (base:=base) Bu T BK Bl BM BN CW BQ CY CZ
 have Qb:=Y3 (P:=l.prog) (w:=w) (base:=base) Jh T Cn Bu Co Cp
 have Ap:=Mm (P:=l.prog) (w:=w) (base:=base) Am T
 have AH:=P8 (P:=l.prog) (w:=w) (base:=base) Ay T
 have Es:=Ky (P:=l.prog) (w:=w) (base:=base) CJ T AH Ay AI AJ
 have ES:=Mn (P:=l.prog) (w:=w) (base:=base) C2 T Ap Am Aq Ar AH Ay AI AJ
 have Dt:=Qa (P:=l.prog) (w:=w) (base:=base) Cg T AH Ay AI AJ
 have EB:=Kz (P:=l.prog) (w:=w) (base:=base) CM T Ap Am Aq Ar Es CJ Et Eu ES C2 ET EU Dt Cg Du Dv
 have E2:=Mp (P:=l.prog) (w:=w) (base:=base) C6 T Ap Am Aq Ar
 have Ew:=KA (P:=l.prog) (w:=w) (base:=base) CK T
 have EY:=Mv (P:=l.prog) (w:=w) (base:=base) C5 T
 have D2:=JU (P:=l.prog) (w:=w) (base:=base) Cj T
 have EV:=Mu (P:=l.prog) (w:=w) (base:=base) C3 T
 have IA:=RV (P:=l.prog) (w:=w) (base:=base) Ez T Ew CK Ex Ey EV C3 EW EX
 have EE:=KC (P:=l.prog) (w:=w) (base:=base) CN T Ap Am Aq Ar AH Ay AI AJ Dt Cg Du Dv EY C5 EZ E1 D2 Cj D3 D4 IA Ez IB IC
 have E5:=My (P:=l.prog) (w:=w) (base:=base) C7 T Ap Am Aq Ar AH Ay AI AJ
 have E8:=Mq (P:=l.prog) (w:=w) (base:=base) C8 T
 have FW:=RW (P:=l.prog) (w:=w) (base:=base) DR T
 have Fx_:=Fb_ (P:=l.prog) (w:=w) (base:=base) Ff_ T TX MA TY TZ ID EA IE IF Cn Bu Co Cp Qb Jh Qc Qd EB CM EC ED E2 C6 E3 E4 EE CN EF EG E5 C7 E6 E7 E8 C8 E9 Fb FW DR FX FY
 exact Fx_
theorem walk {l:PySem.W.OpenLaw}{q:Program}{cb:List Str}{XP:(Str->α5)->Heap->Prop}{YP:World->Heap->Prop}{d:DefRec}{K:Params->α3}(hn:l.most=some 63)(kf:d.params.defaults=[])
  (hY:∀(w:World) (h:Heap),YP w h->(K w.params).In h)
  (F:∀(w:World) (mg:Str->α5) (fa:Addr) (h:Heap),YP w h->(K w.params).In h->h.Ns mainGlobals mg->mg d.name=some (.ref fa) ->
   ∃(fd:α6) (c T:Addr),PySem.W.tabIn (K w.params) "in_order"=some (c,T)/\(K w.params).lookup T=none/\PySem.W.CodeHd h c T/\h.get? T=some (PySem.W.tabObj #[])/\(∀(s:Shared) (u:Value),BindsTo s fd ⟨[u],[]⟩ [("script",u)])/\∀base:Heap,(K w.params).In base->base.Ns mainGlobals mg->PySem.W.CodeHd base c T->BmOk mg base->FnOk l.prog w (K w.params) mg base CX0 8 fa fd ["script"] (Ah_ (K w.params))):
  PySem.W.WalkO q cb XP YP l.row.toRowW d [] (fun f vs=>PySem.call f vs):=
 L2.walk_ofT (xT := "in_order") (n:=63) (k:=8) (x := "script") (CX:=fun _=>CX0) (sp:=fun w=>Ah_ (K w.params)) hn (by decide) kf ⟨rfl,by decide,by decide⟩ hY F (fun _ _ a _ _ ns hl ti hT hS=>⟨a,ns,rfl,hS,hl,by rw[YO ti];exact hT,fun _=>rfl⟩) fun _ _ _ _ _ z=>z
end Mine
structure PySem.W.Fast:Prop where (tw1168207097202740887 tw11426973855070890 tw14069229642259002429 tw8436578573585178828 tw6540862290790224123 tw1015592720295171065 tw5891318340812766317 tw12824574804275016744 tw7477014227485504349 tw9067283794869308368 tw3578878474276328557 tw12614515129031266746 tw10959746323268394089 tw10124834900524680153 tw9702037571685592508 tw12204763733649763763 tw6704444020345177071 tw13190695626396293986 tw11264195979009730427 tw12854700717469294667 tw12801423110239279577 tw4715421533323361649 tw12379733982453654360 tw4994674936893510990 tw17749660012547932045 tw8674522646423043112 tw17537317462750558313 tw17771643046535975050 tw3648291412732395853 tw17730718355154162856 tw9819246097998603036 tw15531693547923662608 tw8193991909193887869 tw3011673457226669801 tw4302098417503549485 tw1473224217890457838 tw17353416661827564785 tw1911697678596392387 tw4194389693676340344 tw9006348312218702035 tw8742042597838508580 tw16731014860184006939 tw4591835320257754227 tw16206400818486176000 tw3846298706365768758 tw1326640919892985721 tw1504736125134831153 tw15493860964712117 tw14281740187890936777 tw14379973709936657008 tw525778022838200488 tw14100925110359632078 tw18052039859710489866 tw7508471390070340572 tw31688554777216310 tw1396882134858676217 tw3999943200245840480 tw7999841198880137769 tw374838667903550721 tw6385897632548267708 tw1317168750929428274 tw5765500513520695160 tw2612538649157149220 tw18250109731175502554 tw15692547724743792982 tw8875308011328142400 tw4712071758094211324 tw15064916416127559305 tw3859863393909151149 tw6387034555934993213 tw16015589984300780828 tw12114280012145844897 tw17619365271033303941 tw14504946492589266358 tw5049619023558928928 tw6770380916720388972 tw5753476615531387726 tw10939602641976681736 tw12359693779382341946 tw692652035560168694 tw15384250839470864292 tw15865927404563359500 tw545668673706287329 tw3620602986799142029 tw14979488201204494151 tw3488935753454095764 tw2128139384628885021 tw8978209109402716014 tw3713137332630085903 tw4655461841893210316 tw15976787155848120574 tw1061057661530739933 tw2129384711436690227 tw8724973297532187373 tw8231816169864646409 tw6704628376540455099 tw14973545234410472223 tw16423897886084093464 tw12770464919847122771 tw4535127936479655754 tw4931797847869168769 tw13125962465851253807 tw7959663159861285510 tw176623842952024231 tw12342448187026918592 tw4778568661345764029 tw9998196714576929241 tw6823664326640544264 tw13772838446007568860 tw6293809937290570279 tw4084887606973134792 tw12125911250438452318 tw3858371610479432973 tw10559440083678882281 tw15624235263621043400 tw4329038057113714166 tw11640761383556435008 tw4367520588498943526 tw9482052219495818441 tw8702313737434837495 tw3482583391478895781 tw16696222821287750698 tw17902373092398632164 tw16388961290502127930 tw17478772579242773200 tw7289655744837445114 tw10704194518957778109 tw8470865072930906553 tw8423246295016357243 tw12212242527010200410 tw10723011214317408466 tw627768558332201957 tw594727107656989254 tw13314574361189362807 tw4614911861630903477 tw84834959492670417 tw18144383698873479725 tw7373487689165210805 tw212238136680403208 tw2524483942528719707 tw8483462352238482579 tw2000914995876280118 tw7169941027457291567 tw5667455013286310182 tw12900014380523318600 tw16553912081527034539 tw6231838327722698062 tw11233720931854952952 tw17519729577865255537 tw266090082097434582 tw3867753021039762695 tw8372090012645530418 tw12768080522189426038 tw18116898958345845000 tw17237118716157340143 tw6849731423686353455 tw2315779433560787611 tw15614975162931623735 tw293890302456928026 tw6575067877341281369 tw12843704665808717030 tw4249334553977753136 tw11049313666172428150 tw3757503973824218677 tw14537342202587197061 tw12411056728983082204 tw1973637726838547411 tw4633892792375368152 tw2309492619381101570 tw8861825520866242401 tw6692101905086126730 tw16626433282907554119 tw11984801690474303445 tw11316908772866505851 tw11678921778189619493 tw5240027335179651198 tw16264072738048638927 tw10647638537426111201 tw11128932159046105824 tw9004118665739938066 tw8383087179651396934 tw14171112838147078800 tw10117009089288860651 tw15883177582160427434 tw8220455710134586624 tw4770377021457576834 tw13782053381059985606 tw15617549606057590356 tw17459886028940821116 tw12523953376024261079 tw1972054139187672019 tw1092414858020094521 tw14692318818344140669 tw6332050824138098298 tw15108168304057308949 tw6865475009898916635 tw14927719659323246162 tw10840824073231404094 tw16601972984946921531 tw17280319680072633107 tw194450990792779537 tw13427652507883193114 tw7644701966071924697 tw9624703355032871651 tw10946292342039051761 tw8563660452847682366 tw14804864823516511025 tw7100491700780763409 tw5670522495881477725 tw6582843927254868566 tw7603612870134238767 tw13758523514036821574 tw12707285892934621225 tw9056503969067851515 tw1158660104804294254 tw2236259865200458082 tw9857608895540143191 tw2804950010047374633 tw15138721280367780753 tw18406277236462948171 tw11443679604999703164 tw9483407393454269173 tw3027638077846041818 tw8965301360309746864 tw880212461211182308 tw17239324597562052578 tw8257110663591782491 tw610211828265426907 tw13341644377221745086 tw7826787199552019443 tw14744633537066387966 tw17124925522988711745 tw9103656506781764693 tw9505948922661110101 tw16311948425668595516 tw17616778183989558408 tw10233142356455856072 tw8240874708740030447 tw6804584283681384818 tw1136123027056454472 tw17724683692774674310 tw9135601291540319103 tw6966158559873415811 tw11262469815561905091 tw15381313178345329419 tw4962986290023823691 tw2949687213971418342 tw7227563553700600467 tw3614719533971180840 tw1906226578867620544 tw18327244680604283911 tw12451808419220343006 tw1596419480223075808 tw5218638650436388034 tw17816107046252373755 tw15407679746532061367 tw10926741795974616705 tw16802336966650799135 tw7648720487783787903 tw15770364711839747632 tw7652003796173034806 tw13443431623952989442 tw4161805610475261800 tw7107674987978303016 tw1793533298603327630 tw16631723206851549329 tw2315500475187094361 tw1507194120150823905 tw3498998282665254807 tw15430210385052580284 tw1041457463633714733 tw6705571392864606805 tw5867040829848808290 tw17851669860122384570 tw11239737830982030262 tw15178805451829062439 tw7187322415184661256 tw5120083351872390862 tw4624344696887585803 tw12161791514797373157 tw16728558284576464619 tw2138808391040488036 tw15358833944358504329 tw7349421759245296173 tw25240247752829737 tw586904661103229142 tw12385014739356784936 tw16086465498054992815 tw14215278910984414513 tw5925329291346511783 tw11362090654902633247 tw9845947760221504162 tw8881485832957032229 tw8333245448502366744 tw6402481328457861535 tw11915872420713985484 tw16676634227149185315 tw9305712928352206806 tw1962645697504090840 tw12889056033423229396 tw18165853709723420278 tw8313309351636793072:True)
open PySem PySem.W PyProof.Rows
set_option maxRecDepth 100000 in
set_option maxHeartbeats 0 in
theorem PySem.Challenge.cw_guessroom_k26_whole_suite_is_enough_holds : PySem.Challenge.rw_guessroom_k26_whole_suite_is_enough.Holds := by
  w_on; o_law; k_head; (case hw => w_witness2)
  k_fill
  refine Mine.walk (l := PySem.Challenge.rw_guessroom_k26_whole_suite_is_enough) rfl rfl (fun w h Y => PySem.W.km_in_of Y) ?F
  case F =>
    intro w mg fa h Y KX G hmg
    refine' Mine.all_mk KX G hmg ?a_jt ?l_jt ?c_jt ?k_jt ?a_jh ?l_jh ?c_jh ?k_jh ?a_jm ?l_jm ?c_jm ?k_jm ?a_jq ?l_jq ?c_jq ?k_jq ?a_jy ?l_jy ?c_jy ?k_jy ?a_jf ?l_jf ?c_jf ?k_jf ?a_jg ?l_jg ?c_jg ?k_jg ?a_jr ?l_jr ?c_jr ?k_jr ?a_ju ?l_ju ?c_ju ?k_ju ?a_jv ?l_jv ?c_jv ?k_jv ?a_js ?l_js ?c_js ?k_js ?a_j1 ?l_j1 ?c_j1 ?k_j1 ?a_jw ?l_jw ?c_jw ?k_jw ?a_ji ?l_ji ?c_ji ?k_ji ?a_jz ?l_jz ?c_jz ?k_jz ?a_j10 ?l_j10 ?c_j10 ?k_j10 ?a_j0 ?l_j0 ?lc_in_order ?hx_in_order ?kt_in_order ?ch_in_order ?tb_in_order ?c_j0 ?k_j0 ?a_jj ?l_jj ?c_jj ?k_jj ?a_j11 ?l_j11 ?c_j11 ?k_j11 ?a_jn ?l_jn ?c_jn ?k_jn ?a_j7 ?l_j7 ?c_j7 ?k_j7 ?a_jx ?l_jx ?c_jx ?k_jx ?a_j8 ?l_j8 ?c_j8 ?k_j8 ?a_jk ?l_jk ?c_jk ?k_jk ?a_j3 ?l_j3 ?c_j3 ?k_j3 ?a_j9 ?l_j9 ?c_j9 ?k_j9 ?a_jl ?l_jl ?c_jl ?k_jl ?a_j4 ?l_j4 ?c_j4 ?k_j4 ?a_ja ?l_ja ?c_ja ?k_ja ?a_j5 ?l_j5 ?c_j5 ?k_j5 ?a_jb ?l_jb ?c_jb ?k_jb ?a_j2 ?l_j2 ?c_j2 ?k_j2 ?a_jc ?l_jc ?c_jc ?k_jc ?a_jo ?l_jo ?c_jo ?k_jo ?a_j6 ?l_j6 ?c_j6 ?k_j6 ?a_jd ?l_jd ?c_jd ?k_jd ?a_je ?l_je ?c_je ?k_je ?a_jp ?l_jp ?c_jp ?k_jp ?a_j12 ?l_j12 ?c_j12 ?k_j12 ?z_all ?z_bool ?z_enumerate ?z_int ?z_isinstance ?z_len ?z_list ?z_max ?z_min ?z_range ?z_sorted ?z_tuple ?z_zip
    (case a_jt|l_jt|c_jt|k_jt|a_jh|l_jh|c_jh|k_jh|a_jm|l_jm|c_jm|k_jm|a_jq|l_jq|c_jq|k_jq|a_jy|l_jy|c_jy|k_jy|a_jf|l_jf|c_jf|k_jf|a_jg|l_jg|c_jg|k_jg|a_jr|l_jr|c_jr|k_jr|a_ju|l_ju|c_ju|k_ju|a_jv|l_jv|c_jv|k_jv=>k_is)
    (case a_js|l_js|c_js|k_js|a_j1|l_j1|c_j1|k_j1|a_jw|l_jw|c_jw|k_jw|a_ji|l_ji|c_ji|k_ji|a_jz|l_jz|c_jz|k_jz|a_j10|l_j10|c_j10|k_j10|a_j0|l_j0|lc_in_order|c_j0|k_j0|a_jj|l_jj|c_jj|k_jj|a_j11|l_j11|c_j11|k_j11|a_jn|l_jn|c_jn=>k_is)
    (case k_jn|a_j7|l_j7|c_j7|k_j7|a_jx|l_jx|c_jx|k_jx|a_j8|l_j8|c_j8|k_j8|a_jk|l_jk|c_jk|k_jk|a_j3|l_j3|c_j3|k_j3|a_j9|l_j9|c_j9|k_j9|a_jl|l_jl|c_jl|k_jl|a_j4|l_j4|c_j4|k_j4|a_ja|l_ja|c_ja|k_ja|a_j5|l_j5|c_j5=>k_is)
    (case k_j5|a_jb|l_jb|c_jb|k_jb|a_j2|l_j2|c_j2|k_j2|a_jc|l_jc|c_jc|k_jc|a_jo|l_jo|c_jo|k_jo|a_j6|l_j6|c_j6|k_j6|a_jd|l_jd|c_jd|k_jd|a_je|l_je|c_je|k_je|a_jp|l_jp|c_jp|k_jp|a_j12|l_j12|c_j12|k_j12|z_all|z_bool|z_enumerate=>k_is)
    (case z_int|z_isinstance|z_len|z_list|z_max|z_min|z_range|z_sorted|z_tuple|z_zip=>k_is)
    (case hx_in_order => exact rfl)
    (case kt_in_order => first | k_is | kernel_rfl | exact rfl)
    (case ch_in_order => first | k_is | kernel_rfl)
    (case tb_in_order => exact PySem.W.km_tabs_of Y _ (.head _))
