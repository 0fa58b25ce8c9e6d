import PyProof.Rows.All
import Wide.All
import OpenK.AllK
import Wide.FinOn
import Lean
import PyProof.EqAt
import PyProof.EqKinds
import PyProof.TupleCall
import KE.KRevIter
import PyProof.ListRange
import PyProof.TupleOfGen
import PyProof.Draws
import PyProof.EnumMake
import PyProof.EnumFor
import PyProof.NeKinds
import KE.KDictList
import PyProof.Rows.TupDisplay
import PyProof.ZipIter
import PyProof.Rows.ZipGen
import KE.KItemsList
import PyProof.Rows.SumAny
import PyProof.StrWalks
import PyProof.StrCalls
import PyProof.StrCalls3
import PyProof.StrLawsFirst
import PyProof.StrLawsIn
import PyProof.SliceStr2
import PyProof.StrBlockI
import PyProof.Rows.StrWeight2
import PyProof.ListNew
import PyProof.DictRoadsH
import PyProof.WalkInts
import PyProof.Rows.MinMaxN
import KE.KDictLaws
import PyProof.StrCalls2
import PyProof.StrLawsChain
import KE.KIntText
import KE.KxText
import KE.KMinKey
import KE.KPairComp
import PyProof.MaxThree
import PyProof.DictValues
import OpenK.KCls
import PyProof.Rows.SortShellK
import KE.KSortTup
import KE.KLam
import KE.KNestM
import PySem.Challenge.RW_guessroom_k27_whole_slim_suite_is_enough
set_option compiler.extract_closed false
local macro_rules | `(s!$_) => `(by lia)
namespace Al
noncomputable abbrev ja_:=@List.length_map
noncomputable abbrev jb_:=@List.getElem?_eq_some_iff
noncomputable abbrev jc_:=@List.mem_of_getElem?
noncomputable abbrev jd_:=@List.getElem?_map
noncomputable abbrev je_:=@PySem.wpAny_bind
noncomputable abbrev jf_:=@List.getElem?_eq_getElem
noncomputable abbrev jg_:=@Nat.le_refl
noncomputable abbrev jh_:=@Int.toNat_natCast
noncomputable abbrev ji_:=@List.getElem?_append_left
noncomputable abbrev jj_:=@List.getD_eq_getElem?_getD
noncomputable abbrev jk_:=@List.mem_cons_of_mem
noncomputable abbrev jl_:=@List.mem_cons_self
noncomputable abbrev jm_:=@List.size_toArray
noncomputable abbrev jn_:=@List.length_append
noncomputable abbrev jo_:=@PySem.Heap.get?_push_of_some
noncomputable abbrev jp_:=@List.getElem?_append_right
noncomputable abbrev jq_:=@Option.some.inj
noncomputable abbrev jr_:=@List.mem_singleton
noncomputable abbrev js_:=@PySem.Heap.lt_size
noncomputable abbrev jt_:=@Bool.false_ne_true
noncomputable abbrev ju_:=@PySem.wpAny_pure
noncomputable abbrev jv_:=@List.mem_map
noncomputable abbrev jw_:=@List.length_take
noncomputable abbrev jx_:=@List.mem_append_right
noncomputable abbrev jy_:=@Nat.lt_of_lt_of_le
noncomputable abbrev jz_:=@PyProof.Rows.wpS_bind
noncomputable abbrev jA_:=@List.mem_append
noncomputable abbrev jB_:=@PyProof.Rows.boot_tuple
noncomputable abbrev jC_:=@List.mem_cons
noncomputable abbrev jD_:=@PySem.boot_len
noncomputable abbrev jE_:=@PySem.F.plainAttrs_list
noncomputable abbrev jF_:=@PySem.Heap.get?_push_size
noncomputable abbrev jG_:=@List.mem_range
noncomputable abbrev jH_:=@congrArg
noncomputable abbrev jI_:=@List.mem_iff_getElem?
noncomputable abbrev jJ_:=@PySem.PassesOwn.never
noncomputable abbrev jK_:=@PyProof.Rows.wpS_pure
noncomputable abbrev jL_:=@Nat.ne_of_lt
noncomputable abbrev jM_:=@PySem.F.slot_list_append
noncomputable abbrev jN_:=@PySem.F.type_list_append
noncomputable abbrev jO_:=@List.take_length
noncomputable abbrev jP_:=@List.take_of_length_le
noncomputable abbrev jQ_:=@List.take_add_one
noncomputable abbrev jR_:=@List.map_map
noncomputable abbrev jS_:=@List.length_cons
noncomputable abbrev jT_:=@List.getElem?_eq_none
noncomputable abbrev jU_:=@List.getElem_of_mem
noncomputable abbrev jV_:=@List.map_append
noncomputable abbrev jW_:=@List.length_singleton
noncomputable abbrev jX_:=@Nat.zero_le
noncomputable abbrev jY_:=@Bool.false_eq_true
noncomputable abbrev jZ_:=@Int.emod_lt_of_pos
noncomputable abbrev j0_:=@List.map_cons
noncomputable abbrev j1_:=@Classical.byContradiction
noncomputable abbrev j2_:=@List.getElem_mem
noncomputable abbrev j3_:=@Array.length_toList
noncomputable abbrev j4_:=@List.lookup_cons
noncomputable abbrev j5_:=@Nat.lt_irrefl
noncomputable abbrev j6_:=@PyProof.Rows.callWith_type1
noncomputable abbrev j7_:=@Int.emod_nonneg
noncomputable abbrev j8_:=@decide_eq_true
noncomputable abbrev j9_:=@PySem.Heap.get?_update_other
noncomputable abbrev qa_:=@List.mem_append_left
noncomputable abbrev qb_:=@List.append_assoc
noncomputable abbrev qc_:=@List.length_range
noncomputable abbrev qd_:=@Bool.and_eq_true
noncomputable abbrev qe_:=@PySem.W.mg_none_of
noncomputable abbrev qf_:=@decide_eq_false
noncomputable abbrev qg_:=@List.append_nil
noncomputable abbrev qh_:=@PySem.mem_of_lookup
noncomputable abbrev qi_:=@List.replicate_succ
noncomputable abbrev qj_:=@List.map_congr_left
noncomputable abbrev qk_:=@Nat.le_trans
noncomputable abbrev ql_:=@of_decide_eq_true
noncomputable abbrev qm_:=@List.length_nil
noncomputable abbrev qn_:=@Option.toList_some
noncomputable abbrev qo_:=@Iff.rfl
noncomputable abbrev qp_:=@Ne.symm
noncomputable abbrev qq_:=@PySem.W.kia_one
noncomputable abbrev qr_:=@PySem.wpAny_loadPart'
noncomputable abbrev qs_:=@decide_eq_true_eq
noncomputable abbrev qt_:=@PyProof.Rows.KeyOrd.kle_of_klt
noncomputable abbrev qu_:=@Int.mul_le_mul_of_nonneg_right
noncomputable abbrev qv_:=@Nat.sub_self
noncomputable abbrev qw_:=@PySem.Heap.size_push
noncomputable abbrev qx_:=@List.foldl_append
noncomputable abbrev qy_:=@Array.getElem?_eq_getElem
noncomputable abbrev qz_:=@List.length_pos_of_mem
noncomputable abbrev qA_:=@List.drop_eq_nil_of_le
noncomputable abbrev qB_:=@Bool.eq_iff_iff
noncomputable abbrev qC_:=@List.nodup_cons
noncomputable abbrev qD_:=@List.length_replicate
noncomputable abbrev qE_:=@List.getElem?_range
noncomputable abbrev qF_:=@Nat.lt_or_ge
noncomputable abbrev qG_:=@List.idxOf_lt_length_of_mem
noncomputable abbrev qH_:=@PyProof.Rows.KeyOrd.kle_refl
noncomputable abbrev qI_:=@PyProof.Rows.wpS_forRange
noncomputable abbrev qJ_:=@List.all_eq_true
noncomputable abbrev qK_:=@PySem.wpAny_callSpecial?_slot
noncomputable abbrev qL_:=@List.ext_getElem?
noncomputable abbrev qM_:=@Nat.ne_of_gt
noncomputable abbrev qN_:=@List.getElem?_set_self
noncomputable abbrev qO_:=@PySem.wpAny_mono
noncomputable abbrev qP_:=@List.length_set
noncomputable abbrev qQ_:=@List.getElem?_zip_eq_some
noncomputable abbrev qR_:=@Array.toList_append
noncomputable abbrev qS_:=@PySem.wpAny_newObj_type
noncomputable abbrev qT_:=@PySem.Heap.get?_update_self
noncomputable abbrev qU_:=@List.length_erase_of_mem
noncomputable abbrev qV_:=@PySem.F.slot_dict_keyiterator_next
noncomputable abbrev qW_:=@PySem.wpAny_holding
noncomputable abbrev qX_:=@List.foldl_cons
noncomputable abbrev qY_:=@List.getElem_idxOf
noncomputable abbrev qZ_:=@List.reverse_reverse
noncomputable abbrev q0_:=@List.pairwise_append
noncomputable abbrev q1_:=@Nat.le_of_lt
noncomputable abbrev q2_:=@List.mem_reverse
noncomputable abbrev q3_:=@if_false
noncomputable abbrev q4_:=@Array.getElem?_eq_some_iff
noncomputable abbrev q5_:=@List.reverse_append
noncomputable abbrev q6_:=@List.mem_map_of_mem
noncomputable abbrev q7_:=@List.mem_of_find?_eq_some
noncomputable abbrev q8_:=@List.drop_eq_getElem_cons
noncomputable abbrev q9_:=@Nat.not_lt_zero
noncomputable abbrev xa_:=@List.take_append_drop
noncomputable abbrev xb_:=@List.pairwise_reverse
noncomputable abbrev xc_:=@List.length_drop
noncomputable abbrev xd_:=@PySem.wpAny_typeNameOfWhole_keyiter
noncomputable abbrev xe_:=@PyProof.Rows.KeyOrd.kle_trans
noncomputable abbrev xf_:=@List.getElem?_set_ne
noncomputable abbrev xg_:=@List.mem_erase_of_ne
noncomputable abbrev xh_:=@List.mem_of_mem_take
noncomputable abbrev xi_:=@PyProof.Rows.boot_isinstance
noncomputable abbrev xj_:=@Nat.lt_succ_of_lt
noncomputable abbrev xk_:=@List.mem_filter
noncomputable abbrev xl_:=@List.find?_cons
noncomputable abbrev xm_:=@Int.toNat_of_nonneg
noncomputable abbrev xn_:=@PyProof.Rows.boot_list
noncomputable abbrev xo_:=@PySem.wpAny_call_entry
noncomputable abbrev xp_:=@Nat.le_add_right
noncomputable abbrev xq_:=@PySem.Calls.spliced_cons
noncomputable abbrev xr_:=@PySem.wpAny_Call_Name_kw
noncomputable abbrev xs_:=@Array.getElem?_toList
noncomputable abbrev xt_:=@Nat.lt_of_sub_eq_succ
noncomputable abbrev xu_:=@of_decide_eq_false
noncomputable abbrev xv_:=@List.getElem?_eq_none_iff
noncomputable abbrev xw_:=@List.pairwise_iff_getElem
noncomputable abbrev xx_:=@PySem.wpAny_truthy_bool
noncomputable abbrev xy_:=@PySem.wpAny_passesOwn
noncomputable abbrev xz_:=@List.of_mem_zip
noncomputable abbrev xA_:=@List.getElem?_take_of_lt
noncomputable abbrev xB_:=@PyProof.Rows.slot_tuple_getitem
noncomputable abbrev xC_:=@List.flatten_cons
noncomputable abbrev xD_:=@PySem.call_meets
noncomputable abbrev xE_:=@PySem.wpAny_typeNameOf_keyiter
noncomputable abbrev xF_:=@List.pairwise_map
noncomputable abbrev xG_:=@Nat.le_of_succ_le
noncomputable abbrev xH_:=@List.cons.injEq
noncomputable abbrev xI_:=@List.idxOf_lt_length_iff
noncomputable abbrev xJ_:=@Int.le_of_lt
noncomputable abbrev xK_:=@PySem.wpAny_attempt
noncomputable abbrev xL_:=@List.length_reverse
noncomputable abbrev xM_:=@List.getElem_inj
noncomputable abbrev xN_:=@PySem.W.cellsFrom_some
noncomputable abbrev xO_:=@PySem.wpAny_pyIter_tuple
noncomputable abbrev xP_:=@PySem.wpAny_setField_rec
noncomputable abbrev xQ_:=@List.find?_eq_none
noncomputable abbrev xR_:=@if_true
noncomputable abbrev xS_:=@List.map_nil
noncomputable abbrev xT_:=@List.nil_append
noncomputable abbrev xU_:=@List.range_succ
noncomputable abbrev xV_:=@List.length_filter_le
noncomputable abbrev xW_:=@PySem.Calls.spliced_nil
noncomputable abbrev xX_:=@Nat.not_lt
noncomputable abbrev xY_:=@PyProof.Rows.wpS_mono
noncomputable abbrev xZ_:=@Array.perm_iff_toList_perm
noncomputable abbrev x0_:=@List.mem_iff_getElem
noncomputable abbrev x1_:=@Array.toList_reverse
noncomputable abbrev x2_:=@List.mem_or_eq_of_mem_set
noncomputable abbrev x3_:=@PySem.IsL.update
noncomputable abbrev x4_:=@List.cons_append
noncomputable abbrev x5_:=@List.any_eq_true
noncomputable abbrev x6_:=@List.not_mem_nil
noncomputable abbrev x7_:=@PySem.F.plain_extend_loop
noncomputable abbrev x8_:=@PySem.Heap.SameBut.update
noncomputable abbrev x9_:=@PySem.F.args_tuple_add_2
noncomputable abbrev za_:=@PySem.wpAny_comprehension_free
noncomputable abbrev zb_:=@PySem.AutoSeq1.wpAny_loadPart'
noncomputable abbrev zc_:=@PySem.F.entry_tuple_add
noncomputable abbrev zd_:=@Option.isSome_some
noncomputable abbrev ze_:=@PySem.tupleKind_room_in1
noncomputable abbrev zf_:=@List.getElem?_cons_zero
noncomputable abbrev zg_:=@PyProof.Rows.KK_mirror_equal
noncomputable abbrev zh_:=@List.set_cons_zero
noncomputable abbrev zi_:=@List.map_replicate
noncomputable abbrev zj_:=@List.length_filter_eq_length_iff
noncomputable abbrev zk_:=@PySem.F.slot_tuple_add
noncomputable abbrev zl_:=@PySem.Calls.callWith_builtin
noncomputable abbrev zm_:=@List.reverse_replicate
noncomputable abbrev zn_:=@PySem.wpAny_pyIter_list
noncomputable abbrev zo_:=@Option.some.injEq
noncomputable abbrev zp_:=@Int.le_refl
noncomputable abbrev zq_:=@List.nodup_append
noncomputable abbrev zr_:=@PySem.wpAny_dictEntries
noncomputable abbrev zs_:=@Int.mul_nonneg
noncomputable abbrev zt_:=@PySem.F.slot_dict_get
noncomputable abbrev zu_:=@PySem.wpAny_isOneOf_keyiter
noncomputable abbrev zv_:=@Nat.zero_add
noncomputable abbrev zw_:=@PyProof.Rows.boot_max
noncomputable abbrev zx_:=@Int.zero_add
noncomputable abbrev zy_:=@Nat.lt_succ_self
noncomputable abbrev zz_:=@PySem.F.slot_tuple_mul
noncomputable abbrev zA_:=@List.nodup_range
noncomputable abbrev zB_:=@List.mem_flatMap
noncomputable abbrev zC_:=@PySem.Calls.evalArgs_plain
noncomputable abbrev zD_:=@PySem.F.args_list_append_2
noncomputable abbrev zE_:=@List.any_cons
noncomputable abbrev zF_:=@PyProof.Rows.wpS_modify
noncomputable abbrev zG_:=@beq_eq_false_iff_ne
noncomputable abbrev zH_:=@List.filterMap_cons
noncomputable abbrev zI_:=@PySem.wpAny_execs_nil
noncomputable abbrev zJ_:=@PySem.F.slot_int_rmul
noncomputable abbrev zK_:=@List.idxOf_cons
noncomputable abbrev zL_:=@List.length_pos_iff
noncomputable abbrev zM_:=@List.length_zip
noncomputable abbrev zN_:=@List.find?_some
noncomputable abbrev zO_:=@List.toList_toArray
noncomputable abbrev zP_:=@List.zip_cons_cons
noncomputable abbrev zQ_:=@Nat.lt_of_le_of_lt
noncomputable abbrev zR_:=@List.map_inj_right
noncomputable abbrev zS_:=@Bool.not_false
noncomputable abbrev zT_:=@List.take_zero
noncomputable abbrev zU_:=@PySem.W.kitx_list
noncomputable abbrev zV_:=@PySem.list_append
noncomputable abbrev zW_:=@beq_iff_eq
noncomputable abbrev zX_:=@List.idxOf_append
noncomputable abbrev zY_:=@List.getElem_drop
noncomputable abbrev zZ_:=@Nat.le_succ
noncomputable abbrev z0_:=@Int.add_mul
noncomputable abbrev z1_:=@Bool.not_true
noncomputable abbrev α0:=List (List (List Int))
noncomputable abbrev α1:=List (List Int)
noncomputable abbrev α2:=List Int
noncomputable abbrev α3:=PySem.W.Frag
noncomputable abbrev α5:=Option PySem.Value
noncomputable abbrev α6:=PySem.FuncData
noncomputable abbrev α7:=List (PySem.Addr×PySem.Obj)
end Al
open Al

open PySem.W (nsIn keepIn codeIn fnOf kitOne)
set_option Elab.async false
set_option linter.all false
set_option maxRecDepth 100000
namespace L2
open PySem PySem.Spec PyProof.Rows
noncomputable abbrev Key:=Sum Int Str
noncomputable def L6:Key->Value->Bool
 |.inl k,v=>Value.isInt k v
 |.inr x,v=>Value.isStrOf x v
noncomputable def keyH (w:World):Key->Int
 |.inl k=>hashInt k
 |.inr x=>hashStr w x
def Bg:∀{k:Key} {v:Value},L6 k v=true->(∃i t,k=Sum.inl i/\v=Value.int i t)\/(∃x t,k=Sum.inr x/\v=Value.str x t)
 |.inl i,v,h=>by
  obtain⟨t,e⟩:=Value.isInt_shape (k:=i) (v:=v) h
  exact .inl ⟨i,t,rfl,e⟩
 |.inr x,v,h=>by
  obtain⟨t,e⟩:=Value.isStrOf_shape (x:=x) (v:=v) h
  exact .inr ⟨x,t,rfl,e⟩
def O0 (i:Int)(t:Tok):L6 (.inl i) (.int i t)=true:=by simp[L6,Value.isInt]
def O1 (x:Str)(t:Tok):L6 (.inr x) (.str x t)=true:=by simp[L6,Value.isStrOf]
def Vm (a b:Int):decide ((Sum.inl a:Key)=Sum.inl b)=(a==b):=by
 by_cases e:a=b
 ·subst e;simp
 ·have h:¬ (Sum.inl a:Key)=Sum.inl b:=fun q=>e (Sum.inl.inj q)
  rw[qf_ h]
  exact (zG_.mpr e).symm
def Vn (a b:Str):decide ((Sum.inr a:Key)=Sum.inr b)=decide (a=b):=by
 by_cases e:a=b
 ·subst e;simp
 ·have h:¬ (Sum.inr a:Key)=Sum.inr b:=fun q=>e (Sum.inr.inj q)
  rw[qf_ h,qf_ e]
def Vo (a:Int)(b:Str):decide ((Sum.inl a:Key)=Sum.inr b)=false:=qf_ (fun q=>nomatch q)
def Vp (a:Str)(b:Int):decide ((Sum.inr a:Key)=Sum.inl b)=false:=qf_ (fun q=>nomatch q)
noncomputable def Bj (prog:Program)(w:World):PySem.KeyKind prog w Key where
 is:=L6
 hash:=keyH w
 inj:=fun v a b ha hb=>by
  rcases Bg ha with ⟨i,t,rfl,rfl⟩|⟨x,t,rfl,rfl⟩
  ·rcases Bg hb with ⟨j,u,rfl,e⟩|⟨y,u,rfl,e⟩
   ·injection e with e1 _;rw[e1]
   ·exact nomatch e
  ·rcases Bg hb with ⟨j,u,rfl,e⟩|⟨y,u,rfl,e⟩
   ·exact nomatch e
   ·injection e with e1 _;rw[e1]
 byValue:=fun k v h=>by
  rcases Bg h with ⟨i,t,rfl,rfl⟩|⟨x,t,rfl,rfl⟩<;>rfl
 pyHash:=fun hv h=>by
  rcases Bg hv with ⟨i,t,rfl,rfl⟩|⟨x,t,rfl,rfl⟩
  ·exact wpAny_pyHash_int h
  ·exact wpAny_pyHash_str h
 eqBool:=fun hu hv h=>by
  rcases Bg hu with ⟨i,t,rfl,rfl⟩|⟨x,t,rfl,rfl⟩
  ·rcases Bg hv with ⟨j,u,rfl,rfl⟩|⟨y,u,rfl,rfl⟩
   ·rw[Vm]at h;exact wpAny_eqBool_int h
   ·rw[Vo]at h;exact SeqAt.EqAt.int_str i t y u _ _ _ _ h
  ·rcases Bg hv with ⟨j,u,rfl,rfl⟩|⟨y,u,rfl,rfl⟩
   ·rw[Vp]at h;exact SeqAt.EqAt.str_int x t j u _ _ _ _ h
   ·rw[Vn]at h;exact wpAny_eqBool_str h
 «strs» := fun k x t v h=>by
  rcases Bg h with ⟨i,u,rfl,e⟩|⟨y,u,rfl,e⟩
  ·exact nomatch e
  ·injection e with e1 _
   subst e1
   cases v<;>rfl
def L7 (prog:Program)(w:World)(i:Int)(t:Tok):(Bj prog w).is (.inl i) (.int i t)=true:=O0 i t
def L8 (prog:Program)(w:World)(x:Str)(t:Tok):(Bj prog w).is (.inr x) (.str x t)=true:=O1 x t
inductive V where
 | non|bl (b:Bool)|int (i:Int)|str (x:Str)|byt (b:Array UInt8)|flt (b:UInt64)|ref (a:Addr)|ty (n:String)
 deriving DecidableEq
noncomputable def RelV:V->Value->Prop
 |.non,u=>u=Value.none
 |.bl b,u=>u=Value.bool b
 |.int i,u=>∃t,u=Value.int i t
 |.str x,u=>∃t,u=Value.str x t
 |.byt b,u=>∃t,u=Value.bytes b t
 |.flt b,u=>∃t,u=Value.float b t
 |.ref a,u=>u=Value.ref a
 |.ty n,u=>u=Value.type n
noncomputable abbrev Vals:List V->List Value->Prop:=Paired RelV
def Vals.length   (r:Vals xs us):xs.length=us.length:=Paired.length r
def Vals.get:∀{xs:List V} {us:List Value} {i:Nat} {x:V},Vals xs us->xs[i]?=some x->∃u,us[i]?=some u/\RelV x u
 |_,_,_,_,.nil,e=>by simp at e
 |_,_,0,_,.cons r _,e=>by simp at e;subst e;exact⟨_,rfl,r⟩
 |_,_,i+1,x,.cons _ t,e=>by
  obtain⟨u,h1,h2⟩:=Vals.get (i:=i) (x:=x) t (by simpa using e)
  exact⟨u,by simpa using h1,h2⟩
def Vals.set {x:V}{u:Value}(r:RelV x u):∀{xs:List V} {us:List Value} (i:Nat),Vals xs us->Vals (xs.set i x) (us.set i u)
 |_,_,_,.nil=>.nil
 |_,_,0,.cons _ t=>.cons r t
 |_,_,i+1,.cons q t=>.cons q (Vals.set r i t)
def Vals.append:∀{xs ys:List V} {us ws:List Value},Vals xs us->Vals ys ws->Vals (xs++ys) (us++ws)
 |_,_,_,_,.nil,s=>s
 |_,_,_,_,.cons r t,s=>.cons r (Vals.append t s)
def Vals.take:∀{xs:List V} {us:List Value} (n:Nat),Vals xs us->Vals (xs.take n) (us.take n)
 |_,_,0,_=>.nil
 |_,_,_+1,.nil=>.nil
 |_,_,n+1,.cons r t=>.cons r (Vals.take n t)
def Vals.drop:∀{xs:List V} {us:List Value} (n:Nat),Vals xs us->Vals (xs.drop n) (us.drop n)
 |_,_,0,r=>r
 |_,_,_+1,.nil=>.nil
 |_,_,n+1,.cons _ t=>Vals.drop n t
noncomputable def RelO:Option V->α5->Prop
 |some v,some u=>RelV v u
 |none,none=>True
 |_,_=>False
noncomputable def KV {κ:Type}:List (κ×V)->List (κ×Value)->Prop:=Paired fun (p:κ×V) (q:κ×Value)=>p.1=q.1/\RelV p.2 q.2
noncomputable def kV:Key->V
 |.inl i=>.int i
 |.inr x=>.str x
inductive HO where
 | lst (xs:List V)
 | tup (xs:List V)
 | dK (kvs:List (Key×V))|dT (kvs:List (List Key×V))
 | set (S:Int->Bool) (n:Nat)
 | ins (C dx:Addr) (fs:List (Str×V))
 | own (x:Addr)
 | xd (fs:List (Str×V))
 | met (f x:Addr)
 | rng (lo hi:Int)
 | frz (o:Obj) (u:HO)
 | tbl (ps:Array Value)
 | ext (φ:Heap->Prop)
noncomputable abbrev Hp:=Addr->Option HO
noncomputable def upd (H:Hp)(a:Addr)(o:HO):Hp:=fun b=>if b=a then some o else H b
def Ab    : upd H a o a=some o:=by unfold upd;rw[if_pos rfl]
def Aj    (h:b≠a):upd H a o b=H b:=by unfold upd;rw[if_neg h]
def Vq {H:Hp}{a b:Addr}{o u:HO}(h:H a=some o)(h':H b=some u)(d:o≠u):a≠b:=by
 intro e;subst e;rw[h]at h';exact d (jq_ h')
def Aq {H:Hp}{a b:Addr}{o:HO}(h:H a=some o)(h':H b=none):a≠b:=by
 intro e;subst e;rw[h]at h';cases h'
section
variable (P:Program) (w:World)
noncomputable def Bk (H:Hp)(h:Heap)(a:Addr):HO->Prop
 |.lst xs=>xs.length<=sizeLine/\∃(its:List Value) (n:Nat),Vals xs its/\h.get? a=some {cls:=.type "list",data:=.seq its.toArray n}
 |.tup xs=>xs.length<=sizeLine/\∃its:List Value,Vals xs its/\IsTup h a its.toArray
 |.dK kvs=>kvs.length<=sizeLine/\(a==sysModules)=false/\∃vs,KV kvs vs/\h.DictOf (Bj P w) a vs
 |.dT kvs=>kvs.length<=sizeLine/\(a==sysModules)=false/\∃xs:List (List Key×Addr×Value),
   Paired (fun (p:List Key×V) (q:List Key×Addr×Value)=>p.1=q.1/\H q.2.1=some (.tup (p.1.map kV))/\RelV p.2 q.2.2) kvs xs /\
   ∃o es ep,h.get? a=some o/\o.ExactDict/\o.data=.dict es ep/\es.toList=xs.map (entryOfKey (tupleKind (Bj P w)))/\(xs.map (·.1)).Nodup
 |.set S n=>h.SetOf (intKind P w) a S n
 |.ins C dx fs=>H dx=some (.own a)/\fs.length<=1000/\dx≠a/\h.get? a=some (PySem.W.instObj C dx) /\
   ∃mA,h.Ns1 dx mA/\(∀f,RelO (fs.lookup f) (mA f))/\PySem.Within mA (fs.map (·.1))
 |.own _=>∃o,h.get? a=some o
 |.xd fs=>∃mA,h.Ns1 a mA/\∀f,RelO (fs.lookup f) (mA f)
 |.rng lo hi=>∃t u v,h.get? a=some {cls:=.type "range",data:=.fields #[.int lo t,.int hi u,.int 1 v]}
 |.frz o u=>h.get? a=some o/\Bk H h a u
 |.tbl ps=>h.get? a=some {cls:=.none,data:=.fields ps}
 |.met f x=>h.get? a=some (PySem.W.methodObj (.ref f) (.ref x))
 |.ext φ=>φ h/\(∃o,h.get? a=some o)/\∀h1 h2:Heap,φ h1->(∀o,h1.get? a=some o->h2.get? a=some o)->φ h2
noncomputable def HOk (H:Hp)(h:Heap):Prop:=∀a o,H a=some o->Bk P w H h a o
end
section
variable {P:Program} {w:World} {H H':Hp} {h h':Heap} {a:Addr} {o:HO}
def Bk.lt (x:Bk P w H h a o):a<h.objs.size:=by
 cases o with
 |lst xs=>obtain⟨_,_,_,_,e⟩:=x;exact js_ e
 |tup xs=>obtain⟨_,_,_,p⟩:=x;exact p.lt
 |dK kvs=>obtain⟨_,_,_,_,o,_,_,e,_⟩:=x;exact js_ e
 |dT kvs=>obtain⟨_,_,_,_,o,_,_,e,_⟩:=x;exact js_ e
 |set S n=>obtain⟨o,_,_,_,e,_⟩:=x;exact js_ e
 |ins C dx fs=>obtain⟨_,_,_,e,_⟩:=x;exact js_ e
 |own y=>obtain⟨_,e⟩:=x;exact js_ e
 |xd fs=>obtain⟨_,⟨_,_,_,e,_⟩,_⟩:=x;exact js_ e
 |rng lo hi=>obtain⟨_,_,_,e⟩:=x;exact js_ e
 |frz ob u=>obtain⟨e,_⟩:=x;exact js_ e
 |tbl ps=>exact js_ (show h.get? a=some _ from x)
 |met f y=>exact js_ (show h.get? a=some _ from x)
 |ext φ=>obtain⟨_,⟨_,e⟩,_⟩:=x;exact js_ e
def Paired.mapP {α β:Type}{F G:α->β->Prop}:∀{l₁:List α} {l₂:List β},Paired F l₁ l₂->(∀a b,F a b->G a b)->Paired G l₁ l₂
 |_,_,.nil,_=>.nil
 |_,_,.cons r t,f=>.cons (f _ _ r) (Paired.mapP t f)
def Bk.stay (x:Bk P w H h a o)(k:∀b u,(b=a\/H b=some (.own a))->h.get? b=some u->h'.get? b=some u)
  (ho:∀b,H b=some (.own a)->H' b=some (.own a)) (ht:∀b xs,H b=some (.tup xs)->H' b=some (.tup xs)):Bk P w H' h' a o:=by
 induction o with
 |lst xs=>obtain⟨z,its,n,r,e⟩:=x;exact⟨z,its,n,r,k _ _ (.inl rfl) e⟩
 |tup xs=>obtain⟨z,its,r,ob,e,c⟩:=x;exact⟨z,its,r,ob,k _ _ (.inl rfl) e,c⟩
 |dK kvs=>obtain⟨z,y,vs,r,ob,es,ep,e,c⟩:=x;exact⟨z,y,vs,r,ob,es,ep,k _ _ (.inl rfl) e,c⟩
 |dT kvs=>
  obtain⟨z,y,xs,r,ob,es,ep,e,c⟩:=x
  exact⟨z,y,xs,Paired.mapP r fun p q z=>⟨z.1,ht _ _ z.2.1,z.2.2⟩,ob,es,ep,k _ _ (.inl rfl) e,c⟩
 |set S n=>obtain⟨ob,es,ep,t,e,c⟩:=x;exact⟨ob,es,ep,t,k _ _ (.inl rfl) e,c⟩
 |ins C dx fs=>
  obtain⟨d,z,ne,e,mA,⟨od,es,ep,e2,c⟩,r⟩:=x
  exact⟨ho _ d,z,ne,k _ _ (.inl rfl) e,mA,⟨od,es,ep,k _ _ (.inr d) e2,c⟩,r⟩
 |own y=>obtain⟨ob,e⟩:=x;exact⟨ob,k _ _ (.inl rfl) e⟩
 |xd fs=>obtain⟨mA,⟨od,es,ep,e,c⟩,r⟩:=x;exact⟨mA,⟨od,es,ep,k _ _ (.inl rfl) e,c⟩,r⟩
 |rng lo hi=>obtain⟨t,u,v,e⟩:=x;exact⟨t,u,v,k _ _ (.inl rfl) e⟩
 |frz ob u ih=>obtain⟨e,q⟩:=x;exact⟨k _ _ (.inl rfl) e,ih q⟩
 |tbl ps=>
  have e:h.get? a=some {cls:=.none,data:=.fields ps}:=x
  show h'.get? a=some {cls:=.none,data:=.fields ps}
  exact k a _ (.inl rfl) e
 |met f y=>
  have e:h.get? a=some (PySem.W.methodObj (.ref f) (.ref y)):=x
  show h'.get? a=some (PySem.W.methodObj (.ref f) (.ref y))
  exact k a _ (.inl rfl) e
 |ext φ=>obtain⟨p,⟨o,e⟩,st⟩:=x;exact⟨st _ _ p fun o q=>k _ _ (.inl rfl) q,⟨o,k _ _ (.inl rfl) e⟩,st⟩
def HOk.lt (x:HOk P w H h)(e:H a=some o):a<h.objs.size:=(x a o e).lt
def HOk.fresh (x:HOk P w H h)(e:h.objs.size<=a):H a=none:=by
 cases q:H a with
 |none=>rfl
 |some u=>exact absurd (jy_ (x.lt q) e) (j5_ _)
def HOk.kept (x:HOk P w H h)(k:∀b u,h.get? b=some u->h'.get? b=some u):HOk P w H h':=fun a o e=>
 (x a o e).stay (fun b u _ q=>k b u q) (fun _ q=>q) fun _ _ q=>q
def HOk.laid (x:HOk P w H h)(k:∀b u,h.get? b=some u->h'.get? b=some u)(hp:h.objs.size<=a)(new:Bk P w (upd H a o) h' a o):HOk P w (upd H a o) h':=fun b u e=>by
 have hn:=x.fresh hp
 by_cases hb:b=a
 ·subst hb;rw[Ab]at e;cases e;exact new
 ·rw[Aj hb]at e
  exact (x b u e).stay (fun c v _ q=>k c v q) (fun c q=>by rw[Aj (Aq q hn)];exact q) fun c xs q=>by rw[Aj (Aq q hn)];exact q
end
noncomputable def Rd (H:Hp)(a:Addr)(u:HO):Prop:=H a=some u \/ ∃o,H a=some (.frz o u)
def Rd.ok       (r:Rd H a u)(x:HOk P w H h):Bk P w H h a u:=by
 rcases r with r|⟨o,r⟩
 ·exact x a u r
 ·obtain⟨_,q⟩:=x a _ r
  exact q
noncomputable def Mut:Option HO->Prop
 |some (.lst _)=>True
 |some (.dK _)=>True
 |some (.dT _)=>True
 |some (.set _ _)=>True
 |some (.ins _ _ _)=>True
 |some (.ext _)=>True
 |_=>False
section
variable {P:Program} {w:World} {H:Hp} {h h':Heap} {x e:Addr} {o':HO}
def HOk.write (ok:HOk P w H h)(mu:Mut (H x))(he:e=x\/H e=some (.own x))(k:∀b u,b≠e->h.get? b=some u->h'.get? b=some u)(iI:∃u,h'.get? e=some u)
  (new:Bk P w (upd H x o') h' x o'):HOk P w (upd H x o') h':=fun b u q=>by
 have nown:∀c y,H c=some (.own y)->c≠x:=fun c y r z=>by subst z;rw[r]at mu;exact mu
 have ntup:∀c xs,H c=some (.tup xs)->c≠x:=fun c xs r z=>by subst z;rw[r]at mu;exact mu
 by_cases hb:b=x
 ·subst hb;rw[Ab]at q;cases q;exact new
 ·rw[Aj hb]at q
  by_cases i5:b=e
  ·have q':H b=some (.own x):=by
    rcases he with z|z
    ·exact absurd (i5.trans z) hb
    ·rw[i5];exact z
   rw[q]at q';cases q'
   obtain⟨v,hv⟩:=iI
   exact⟨v,by rw[i5];exact hv⟩
  ·refine (ok b u q).stay (fun c v hc r=>k c v ?_ r) (fun c r=>by rw[Aj (nown c b r)];exact r) fun c xs r=>by rw[Aj (ntup c xs r)];exact r
   rcases hc with rfl|hc
   ·exact i5
   ·rintro rfl
    rcases he with z|z
    ·exact nown c b hc z
    ·rw[hc]at z;cases z;exact hb rfl
end
structure Un (fs ex:List Addr)(H H':Hp)(h h':Heap):Prop where
 keep:∀b o,h.get? b=some o->H b=none->b∉fs->b∉ex->h'.get? b=some o
 slot:∀b o,h.get? b=some o->H b=none->b∈fs->b∉ex->∃sl,h'.get? b=some {o with slots:=sl}
 free:∀b o,h.get? b=some o->H b=none->b∉ex->H' b=none
 there:∀b o,h.get? b=some o->b∉ex->∃o',h'.get? b=some o'
 tups:∀b xs,H b=some (.tup xs)->H' b=some (.tup xs)
 frzs:∀b o u,H b=some (.frz o u)->H' b=some (.frz o u)
 tbls:∀b ps,H b=some (.tbl ps)->∃more,H' b=some (.tbl (ps++more))
section
variable {fs fs' ex ex':List Addr} {H H1 H2:Hp} {h h1 h2 h':Heap} {a x e:Addr} {o:HO}
def Un.any (u:Un fs ex H H1 h h1)   (q:h.get? b=some ob)(n:H b=none)(hx:b∉ex):∃sl,h1.get? b=some {ob with slots:=sl}:=by
 by_cases hb:b∈fs
 ·exact u.slot b ob q n hb hx
 ·exact⟨ob.slots,u.keep b ob q n hb hx⟩
def Un.kept (k:∀b u,h.get? b=some u->h'.get? b=some u):Un fs ex H H h h' :=
 ⟨fun b ob q _ _ _=>k b ob q,fun b ob q _ _ _=>⟨ob.slots,k b ob q⟩,fun _ _ _ n _=>n,fun b ob q _=>⟨ob,k b ob q⟩,fun _ _ q=>q,fun _ _ _ q=>q,fun _ ps q=>⟨#[],by rw[q];simp⟩⟩
def Un.refl:Un fs ex H H h h:=Un.kept fun _ _ q=>q
def Un.laid (k:∀b u,h.get? b=some u->h'.get? b=some u)(hp:h.objs.size<=a)(hn:H a=none):Un fs ex H (upd H a o) h h' where
 keep:=fun b u q _ _ _=>k b u q
 slot:=fun b u q _ _ _=>⟨u.slots,k b u q⟩
 free:=fun b u q n _=>by rw[Aj (jL_ (jy_ (js_ q) hp))];exact n
 there:=fun b u q _=>⟨u,k b u q⟩
 tups:=fun b xs q=>by rw[Aj (Aq q hn)];exact q
 frzs:=fun b u xs q=>by rw[Aj (Aq q hn)];exact q
 tbls:=fun b ps q=>⟨#[],by rw[Aj (Aq q hn),q];simp⟩
def Un.write (mu:Mut (H x))(he:e=x\/H e=some (.own x))(k:∀b u,b≠e->h.get? b=some u->h'.get? b=some u)(iI:∃u,h'.get? e=some u):Un fs ex H (upd H x o) h h':=by
 have hx:∀b,H b=none->b≠x:=fun b n z=>by subst z;rw[n]at mu;exact mu
 have hb:∀b,H b=none->b≠e:=fun b n z=>by
  subst z
  rcases he with r|r
  ·exact hx b n r
  ·rw[n]at r;cases r
 have hm:∀b u,H b=some u->¬ Mut (some u)->b≠x:=fun b u q nm z=>by subst z;rw[q]at mu;exact nm mu
 refine⟨fun b u q n _ _=>k b u (hb b n) q,fun b u q n _ _=>⟨u.slots,k b u (hb b n) q⟩,fun b u q n _=>by rw[Aj (hx b n)];exact n,fun b u q _=>?_,
  fun b xs q=>by rw[Aj (hm b _ q fun z=>z)];exact q,fun b u xs q=>by rw[Aj (hm b _ q fun z=>z)];exact q,fun b ps q=>⟨#[],by rw[Aj (hm b _ q fun z=>z),q];simp⟩⟩
 by_cases i5:b=e
 ·subst i5;exact iI
 ·exact⟨u,k b u i5 q⟩
end
noncomputable def trk (h:Heap)(H:Hp):List Addr:=(List.range h.objs.size).filter fun a=>(H a).isSome
noncomputable def hidT (h:Heap)(H:Hp):Heap:=PySem.W.hideAll h (trk h H)
def O2 (h:Heap)(H:Hp):(hidT h H).objs.size=h.objs.size:=PySem.W.hideAll_size _ _
def Hi     (e:h.get? b=some o)(n:H b=none):(hidT h H).get? b=some o:=
 PySem.W.hideAll_get _ e fun hm=>by
  have q:(H b).isSome=true:=(xk_.mp hm).2
  rw[n]at q;simp at q
def Uh     (e:(hidT h H).get? b=some o):h.get? b=some o/\H b=none:=by
 have e':h.get? b=some o:=PySem.W.of_hideAll (trk h H) e
 refine⟨e',?_⟩
 cases q:H b with
 |none=>rfl
 |some x=>
  have hm:b∈trk h H:=xk_.mpr ⟨jG_.mpr (js_ e'),by simp[q]⟩
  have z:(hidT h H).get? b=none:=PySem.W.hideAll_none (trk h H) hm
  rw[z]at e;cases e
noncomputable def Ui (g h:Heap)(L:Addr):α7:=(List.range h.objs.size).filterMap fun a=>if a=L\/(g.get? a).isSome=true then none else (h.get? a).map fun o=>(a,o)
noncomputable def rest (g h:Heap)(L d:Addr):α7:=(Ui g h L).filter fun p=>decide (p.1≠d)
end L2
namespace L2
open PySem PySem.Spec PyProof.Rows
structure Mod (K:α3)(mg:Str->α5)(base:Heap):Prop where
 kin:K.In base
 glob:base.Ns mainGlobals mg
 blt:∃mb,base.Ns builtinsNs mb/\∀x:Str,x ≠ "__name__" -> mb x=bootBuiltins x
 nolimit:base.NoLimit
structure Cx where
 prog:Program
 w:World
 K:α3
 mg:Str->α5
 base:Heap
 A:Around
 N:List Str
 s₀:Shared
 H₀:Hp
 env:Env
 outer:List Env
 stack:List Env
 ex:List Addr
 fn:Str->Bool
 calm:Bool
 pn:α7
 xe:Value->Shared->Prop
noncomputable def frs (l:List Env):List Addr:=l.filterMap (·.frame)
noncomputable abbrev Cx.fs (X:Cx):List Addr:=frs X.outer
noncomputable def Vis (sc:Scope)(x:Str):Prop:=sc.names.lookup x=some .local\/sc.names.lookup x=some .cell\/sc.names.lookup x=some .free
noncomputable def Loc (sc:Scope)(x:Str):Prop:=sc.names.lookup x=some .local\/sc.names.lookup x=some .cell
noncomputable def Look (env:Env)(h:Heap)(m:Str->α5)(x:Str)(u:Value):Prop:=
 (env.kindOf x=some .local/\m x=some u)\/((env.kindOf x=some .cell\/env.kindOf x=some .free)/\∃c,env.cells.lookup x=some c/\h.IsCell c (some u))
structure Cx.Ok (X:Cx):Prop where
 mod:Mod X.K X.mg X.base
 kind:X.env.scope.kind=.function
 glob:X.env.globals=mainGlobals
 blt:X.env.builtins=builtinsNs
 above:X.s₀.heap.objs.size<=X.env.locals
 inj:∀x y c,X.env.cells.lookup x=some c->X.env.cells.lookup y=some c->x=y
 has:∀x,(X.env.kindOf x=some .cell\/X.env.kindOf x=some .free)->∃c,X.env.cells.lookup x=some c
 cab:∀x c,X.fn x=true->X.env.cells.lookup x=some c->X.s₀.heap.objs.size<=c
 hd:X.calm=true->X.A.handled=none
 frames:X.A.frames=some X.stack
 stk:X.stack=X.outer\/(X.stack=X.env::X.outer/\X.env.frame=some X.env.locals)
 exf:∀b∈X.ex,b≠X.env.locals/\∀x c,X.env.cells.lookup x=some c->c≠b
 bs:∀b o,X.base.get? b=some o->X.s₀.heap.get? b=some o/\X.H₀ b=none
 bsz:X.base.objs.size<=X.s₀.heap.objs.size
 noex:∀b o,X.base.get? b=some o->b∉X.ex
 exfs:∀b∈X.ex,b∉X.fs
 funs:X.s₀.heap.FunFrames X.base X.outer
 frf:∀b∈X.fs,X.H₀ b=none
structure Inv (X:Cx)(af:α7)(σ:List (Option V))(H:Hp)(s:Shared):Prop where
 ok:X.Ok
 os:s.os=X.s₀.os
 bare:AllBare s.gens
 base:Un X.fs X.ex X.H₀ H X.s₀.heap s.heap
 loc:∃m,s.heap.Ns X.env.locals m/\∀(i:Nat) (x:Str) (v:V),X.N[i]?=some x->σ[i]?=some (some v)->Vis X.env.scope x->∃u,RelV v u/\Look X.env s.heap m x u
 cell:∀x c,X.env.cells.lookup x=some c->∃v,s.heap.IsCell c v
 free:H X.env.locals=none
 freeC:∀x c,X.env.cells.lookup x=some c->H c=none
 pin:∀p∈X.pn++af,s.heap.get? p.1=some p.2/\H p.1=none/\p.1≠X.env.locals/\p.1∉X.fs/\∀v,p.2.data ≠ .cell v
 hok:HOk X.prog X.w H s.heap
 len:σ.length=X.N.length
section
variable {X:Cx} {af:α7} {σ:List (Option V)} {H H':Hp} {s:Shared} {h':Heap}
def Cx.Ok.nofr (ok:X.Ok)   (e:X.base.get? b=some o):b∉X.fs:=fun hb=>by
 have:=(ok.funs.mem hb).1
 rw[e]at this;cases this
def Inv.bs (I:Inv X af σ H s):∀b o,X.base.get? b=some o->s.heap.get? b=some o/\H b=none:=fun b o e=>
 ⟨I.base.keep b o (I.ok.bs b o e).1 (I.ok.bs b o e).2 (I.ok.nofr e) (I.ok.noex b o e),I.base.free b o (I.ok.bs b o e).1 (I.ok.bs b o e).2 (I.ok.noex b o e)⟩
def Inv.bk (I:Inv X af σ H s):∀b o,X.base.get? b=some o->s.heap.get? b=some o:=fun b o e=>(I.bs b o e).1
def Inv.mod (I:Inv X af σ H s):Mod X.K X.mg X.base:=I.ok.mod
def Inv.kIn (I:Inv X af σ H s):X.K.In s.heap:=I.ok.mod.kin.keeps I.bk
def Inv.lt (I:Inv X af σ H s):X.env.locals<s.heap.objs.size:=let ⟨_,hn,_⟩:=I.loc;hn.lt
def Inv.sz (I:Inv X af σ H s):X.s₀.heap.objs.size<=s.heap.objs.size:=qk_ I.ok.above (q1_ I.lt)
def Inv.nofs (I:Inv X af σ H s)  (h:s.heap.objs.size<=a):a∉X.fs:=fun hb=>by
 obtain⟨_,o,ho,_⟩:=I.ok.funs.mem hb
 exact absurd (jy_ (js_ ho) (qk_ I.sz h)) (j5_ _)
def Inv.cne (I:Inv X af σ H s):∀x c,X.env.cells.lookup x=some c->c≠X.env.locals:=fun x c e z=>by
 obtain⟨v,o,ho,hd⟩:=I.cell x c e
 obtain⟨m,⟨o',es,ep,gI,cV,_⟩,_⟩:=I.loc
 rw[z,gI]at ho;cases ho;rw[cV]at hd;cases hd
def Inv.funs (I:Inv X af σ H s):s.heap.FunFrames X.base X.outer:=by
 have all:∀(l:List Env),(∀b∈frs l,b∈X.fs)->X.s₀.heap.FunFrames X.base l->s.heap.FunFrames X.base l:=by
  intro l
  induction l with
  |nil=>intro _ _;trivial
  |cons env r ih=>
   intro hs hl
   obtain⟨hk,⟨L,o,hf,hn,ho,hd⟩,hr⟩:=hl
   have hL:L∈X.fs:=hs L (by unfold frs;rw[zH_,hf];exact jl_)
   obtain⟨sl,e⟩:=I.base.slot L o ho (I.ok.frf L hL) hL fun z=>I.ok.exfs L z hL
   exact⟨hk,⟨L,_,hf,hn,e,hd⟩,ih (fun b hb=>hs b (by unfold frs;rw[zH_,hf];exact jk_ _ hb)) hr⟩
 exact all X.outer (fun _ hb=>hb) I.ok.funs
def Inv.stack (I:Inv X af σ H s):s.heap.FunFrames X.base X.stack:=by
 rcases I.ok.stk with e|⟨e,hf⟩
 ·rw[e];exact I.funs
 ·rw[e]
  obtain⟨m,hn,_⟩:=I.loc
  refine .cons (by rw[I.ok.kind];decide) hf hn ?_ I.funs
  exact Heap.get?_none_of_le (qk_ I.ok.bsz I.ok.above)
def Inv.stkSub (I:Inv X af σ H s):∀b∈frs X.stack,b∈X.env.locals::X.fs:=fun b hb=>by
 rcases I.ok.stk with e|⟨e,hf⟩
 ·rw[e]at hb;exact jk_ _ hb
 ·rw[e]at hb
  unfold frs at hb
  rw[zH_,hf]at hb
  exact hb
def Inv.stkFree (I:Inv X af σ H s):∀b∈frs X.stack,H b=none:=fun b hb=>by
 rcases jC_.mp (I.stkSub b hb) with e|hb
 ·rw[e];exact I.free
 ·obtain⟨_,o,ho,_⟩:=I.ok.funs.mem hb
  exact I.base.free b o ho (I.ok.frf b hb) fun z=>I.ok.exfs b z hb
def Inv.step {g':Array GenState}{t':Nat}{d':Drawn}{ch:List Addr}(I:Inv X af σ H s)
  (gq:∀b∈ch,(b∈X.ex\/X.s₀.heap.objs.size<=b)/\b≠X.env.locals/\(∀x c,X.env.cells.lookup x=some c->c≠b)/\∀p∈X.pn++af,p.1≠b)
  (keep:∀b o,b≠X.env.locals->b∉X.fs->b∉ch->s.heap.get? b=some o->H b=none->h'.get? b=some o)
  (slot:∀b o,b≠X.env.locals->b∈X.fs->b∉ch->s.heap.get? b=some o->H b=none->∃sl,h'.get? b=some {o with slots:=sl}) (free:∀b o,b∉ch->s.heap.get? b=some o->H b=none->H' b=none)
  (there:∀b o,b∉ch->s.heap.get? b=some o->∃o',h'.get? b=some o')
  (tups:∀b xs,H b=some (.tup xs)->H' b=some (.tup xs)) (frzs:∀b o u,H b=some (.frz o u)->H' b=some (.frz o u)) (tbls:∀b ps,H b=some (.tbl ps)->∃more,H' b=some (.tbl (ps++more)))
  (ns:∀m,s.heap.Ns X.env.locals m->h'.Ns X.env.locals m) (hok:HOk X.prog X.w H' h') (hg:AllBare g'):
  Inv X af σ H' {s with heap:=h',gens:=g',drawn:=d',toks:=t' }:=by
 have neL:∀b o,X.s₀.heap.get? b=some o->b≠X.env.locals:=fun b o e=>jL_ (jy_ (js_ e) I.ok.above)
 have mV:∀b o,X.s₀.heap.get? b=some o->b∉X.ex->b∉ch:=fun b o e hx hb=>by
  rcases (gq b hb).1 with z|z
  ·exact hx z
  ·exact absurd (jy_ (js_ e) z) (j5_ _)
 have cellK:∀x c,X.env.cells.lookup x=some c->∀v,s.heap.IsCell c v->h'.IsCell c v:=fun x c e v ⟨o,ho,hd⟩=>by
  have fg:c∉ch:=fun z=>(gq c z).2.2.1 x c e rfl
  by_cases hc:c∈X.fs
  ·obtain⟨sl,q⟩:=slot c o (I.cne x c e) hc fg ho (I.freeC x c e)
   exact⟨_,q,hd⟩
  ·exact⟨o,keep c o (I.cne x c e) hc fg ho (I.freeC x c e),hd⟩
 refine⟨I.ok,I.os,hg,⟨fun b o e n hb hx=>?_,fun b o e n hb hx=>?_,fun b o e n hx=>?_,fun b o e hx=>?_,fun b xs e=>tups b xs (I.base.tups b xs e),fun b o xs e=>frzs b o xs (I.base.frzs b o xs e),fun b ps e=>?_⟩,?_,fun x c e=>?_,?_,fun x c e=>?_,fun p hp=>?_,hok,I.len⟩
 ·exact keep b o (neL b o e) hb (mV b o e hx) (I.base.keep b o e n hb hx) (I.base.free b o e n hx)
 ·obtain⟨sl,e1⟩:=I.base.slot b o e n hb hx
  obtain⟨sl',e2⟩:=slot b _ (neL b o e) hb (mV b o e hx) e1 (I.base.free b o e n hx)
  exact⟨sl',e2⟩
 ·obtain⟨o',e1⟩:=I.base.there b o e hx
  exact free b o' (mV b o e hx) e1 (I.base.free b o e n hx)
 ·obtain⟨o',e1⟩:=I.base.there b o e hx
  exact there b o' (mV b o e hx) e1
 ·obtain⟨m1,e1⟩:=I.base.tbls b ps e
  obtain⟨m2,e2⟩:=tbls b _ e1
  exact⟨m1++m2,by rw[e2,Array.append_assoc]⟩
 ·obtain⟨m,hn,hl⟩:=I.loc
  refine⟨m,ns m hn,fun i x v e1 e2 e3=>?_⟩
  obtain⟨u,r,l⟩:=hl i x v e1 e2 e3
  refine⟨u,r,?_⟩
  rcases l with l|⟨k,c,e,z⟩
  ·exact .inl l
  ·exact .inr ⟨k,c,e,cellK x c e _ z⟩
 ·obtain⟨v,z⟩:=I.cell x c e
  exact⟨v,cellK x c e v z⟩
 ·obtain⟨m,⟨o,_,_,ho,_⟩,_⟩:=I.loc
  exact free _ o (fun z=>(gq _ z).2.1 rfl) ho I.free
 ·obtain⟨v,o,ho,hd⟩:=I.cell x c e
  exact free c o (fun z=>(gq c z).2.2.1 x c e rfl) ho (I.freeC x c e)
 ·obtain⟨e,n,ne,nf,d⟩:=I.pin p hp
  have fg:p.1∉ch:=fun z=>(gq p.1 z).2.2.2 p hp rfl
  exact⟨keep p.1 p.2 ne nf fg e n,free p.1 p.2 fg e n,ne,nf,d⟩
def Inv.un  (I:Inv X af σ H s)(u:Un X.fs [] H H' s.heap h')(hok:HOk X.prog X.w H' h'):Inv X af σ H' {s with heap:=h',toks:=t' }:=by
 obtain⟨m,⟨o,es,ep,ho,r⟩,_⟩:=id I.loc
 obtain⟨sl,hL⟩:=u.any ho I.free (by simp)
 exact I.step (g':=s.gens) (d':=s.drawn) (ch:=[]) (fun _ z=>nomatch z) (fun b o _ hb _ e n=>u.keep b o e n hb (by simp)) (fun b o _ hb _ e n=>u.slot b o e n hb (by simp)) (fun b o _ e n=>u.free b o e n (by simp)) (fun b o _ e=>u.there b o e (by simp)) u.tups u.frzs u.tbls (fun m' hm=>by
  obtain⟨o',nW,nX,gI,r'⟩:=hm
  rw[ho]at gI;cases gI
  exact⟨_,nW,nX,hL,r'⟩) hok I.bare
def Inv.call     (I:Inv X af σ H s)(u:Un (frs X.stack) ch H H' s.heap h')(hok:HOk X.prog X.w H' h')(hg:AllBare g')
  (gq:∀b∈ch,(b∈X.ex\/X.s₀.heap.objs.size<=b)/\b≠X.env.locals/\(∀x c,X.env.cells.lookup x=some c->c≠b)/\∀p∈X.pn++af,p.1≠b):
  Inv X af σ H' {s with heap:=h',gens:=g',drawn:=d',toks:=t' }:=by
 obtain⟨m,⟨o,es,ep,ho,r⟩,_⟩:=id I.loc
 obtain⟨sl,hL⟩:=u.any ho I.free fun z=>(gq _ z).2.1 rfl
 exact I.step (ch:=ch) gq (fun b o hL hb hc e n=>u.keep b o e n (fun z=>(jC_.mp (I.stkSub b z)).elim hL hb) hc) (fun b o _ _ hc e n=>u.any e n hc) (fun b o hc e n=>u.free b o e n hc) (fun b o hc e=>u.there b o e hc) u.tups u.frzs u.tbls (fun m' hm=>by
  obtain⟨o',nW,nX,gI,r'⟩:=hm
  rw[ho]at gI;cases gI
  exact⟨_,nW,nX,hL,r'⟩) hok hg
def Inv.turned  {it:Addr}(I:Inv X af σ H s)(k:∀b o,b≠it->s.heap.get? b=some o->h'.get? b=some o)(hn:H it=none)(hL:it≠X.env.locals)
  (h1:it∈X.ex\/X.s₀.heap.objs.size<=it) (h2:∀x c,X.env.cells.lookup x=some c->c≠it) (h3:∀p∈X.pn++af,p.1≠it):Inv X af σ H {s with heap:=h',toks:=t' }:=by
 have nit:∀b u,H b=some u->b≠it:=fun b u e z=>by rw[z,hn]at e;cases e
 refine I.step (g':=s.gens) (d':=s.drawn) (ch:=[it]) (fun b hb=>?_) (fun b o _ _ hc e _=>k b o (fun z=>hc (by simp[z])) e) (fun b o _ _ hc e _=>⟨o.slots,k b o (fun z=>hc (by simp[z])) e⟩) (fun _ _ _ _ n=>n)
  (fun b o hc e=>⟨o,k b o (fun z=>hc (by simp[z])) e⟩) (fun _ _ e=>e) (fun _ _ _ e=>e) (fun b ps e=>⟨#[],by rw[e];simp⟩) (fun m hm=>?_) (fun b u e=>?_) I.bare
 ·have e:b=it:=by simpa using hb
  subst e
  exact⟨h1,hL,h2,h3⟩
 ·obtain⟨o,es,ep,ho,r⟩:=hm
  exact⟨o,es,ep,k _ o (qp_ hL) ho,r⟩
 ·refine (I.hok b u e).stay (fun c v hc q=>k c v ?_ q) (fun _ q=>q) fun _ _ q=>q
  rcases hc with z|z
  ·rw[z];exact nit b u e
  ·exact nit c _ z
def Inv.tok (I:Inv X af σ H s)(t:Nat):Inv X af σ H {s with toks:=t}:=I.un (h':=s.heap) (t':=t) Un.refl I.hok
def Inv.kept  (I:Inv X af σ H s)(k:∀b u,s.heap.get? b=some u->h'.get? b=some u):Inv X af σ H {s with heap:=h',toks:=t' }:=I.un (Un.kept k) (I.hok.kept k)
def Inv.laid    (I:Inv X af σ H s)(k:∀b u,s.heap.get? b=some u->h'.get? b=some u)(hp:s.heap.objs.size<=a)(new:Bk X.prog X.w (upd H a o) h' a o):
  Inv X af σ (upd H a o) {s with heap:=h',toks:=t' }:=I.un (Un.laid k hp (I.hok.fresh hp)) (I.hok.laid k hp new)
def Inv.write    (I:Inv X af σ H s)(mu:Mut (H x))(he:e=x\/H e=some (.own x))(k:∀b u,b≠e->s.heap.get? b=some u->h'.get? b=some u)(iI:∃u,h'.get? e=some u)
  (new:Bk X.prog X.w (upd H x o) h' x o):Inv X af σ (upd H x o) {s with heap:=h',toks:=t' }:=I.un (Un.write mu he k iI) (I.hok.write mu he k iI new)
def Inv.pins_of  (I:Inv X af σ H s)(h:∀p∈aY,s.heap.get? p.1=some p.2/\H p.1=none/\p.1≠X.env.locals/\p.1∉X.fs/\∀v,p.2.data ≠ .cell v):Inv X aY σ H s:=
 ⟨I.ok,I.os,I.bare,I.base,I.loc,I.cell,I.free,I.freeC,fun p hp=>(jA_.mp hp).elim (fun z=>I.pin p (qa_ _ z)) (h p),I.hok,I.len⟩
def M9 {N:List Str}(hN:N.Nodup){i j:Nat}{x:Str}(a:N[i]?=some x)(b:N[j]?=some x):i=j:=by
 obtain⟨h1,e1⟩:=jb_.mp a
 obtain⟨h2,e2⟩:=jb_.mp b
 exact (xM_ hN).mp (e1.trans e2.symm)
def HJ         (I:Inv X af σ H s)(hN:X.N.Nodup)(hi:X.N[i]?=some x)(hx:Loc X.env.scope x)(r:RelV v u)
  (h:∀s',Inv X af (σ.set i (some v)) H s'->(∃a,Heap.SameBut a s.heap s'.heap/\(a=X.env.locals\/X.env.cells.lookup x=some a))->Q () s') (hf:X.fn x=true\/X.env.scope.names.lookup x=some .local:=by first|exact .inl rfl|exact .inr rfl|assumption):wpAny M A (storeName X.env x u) Q E s:=by
 obtain⟨m,hn,hl⟩:=id I.loc
 have i6:(X.env.scope.kind == .class||(X.env.scope.kind == .module&&X.env.locals != X.env.globals))=false:=by rw[I.ok.kind];rfl
 have hiσ:i<σ.length:=by rw[I.len];exact (jb_.mp hi).1
 have cne:=I.cne
 have tracked:∀{a:Addr} {h':Heap},(∃o,s.heap.get? a=some o/\H a=none)->Heap.SameBut a s.heap h'->HOk X.prog X.w H h':=fun {a h'} ha hs b ob e=>by
  obtain⟨_,_,hfree⟩:=ha
  refine (I.hok b ob e).stay (fun c w' hc q=>(hs.2 c ?_).trans q) (fun _ q=>q) fun _ _ q=>q
  rintro rfl
  rcases hc with rfl|hc
  ·rw[hfree]at e;cases e
  ·rw[hfree]at hc;cases hc
 rcases hx with hk|hk
 ·refine wpAny_storeName_local hk hn (fun h' fB hs=>?_) i6
  obtain⟨oL,_,_,nY,_⟩:=id hn
  refine h _ ⟨I.ok,I.os,I.bare,⟨fun b o e n hb hx=>?_,fun b o e n hb hx=>?_,I.base.free,fun b o e hx=>?_,I.base.tups,I.base.frzs,I.base.tbls⟩,⟨_,fB,fun j y v' e1 e2 e3=>?_⟩,fun y c e=>?_,I.free,I.freeC,fun p hp=>?_,tracked ⟨oL,nY,I.free⟩ hs,by simpa using I.len⟩ ⟨_,hs,.inl rfl⟩
  ·exact (hs.2 b (jL_ (jy_ (js_ e) I.ok.above))).trans (I.base.keep b o e n hb hx)
  ·obtain⟨sl,e1⟩:=I.base.slot b o e n hb hx
   exact⟨sl,(hs.2 b (jL_ (jy_ (js_ e) I.ok.above))).trans e1⟩
  ·obtain⟨o',e1⟩:=I.base.there b o e hx
   exact⟨o',(hs.2 b (jL_ (jy_ (js_ e) I.ok.above))).trans e1⟩
  ·by_cases hj:j=i
   ·subst hj
    rw[hi]at e1;cases e1
    rw[qN_ hiσ]at e2
    cases e2
    exact⟨u,r,.inl ⟨hk,by simp⟩⟩
   ·rw[xf_ (qp_ hj)]at e2
    obtain⟨u',r',q⟩:=hl j y v' e1 e2 e3
    refine⟨u',r',?_⟩
    rcases q with ⟨k,e⟩|⟨k,c,e,z⟩
    ·refine .inl ⟨k,?_⟩
     have:y≠x:=fun e=>hj (M9 hN e1 (e ▸ hi))
     simp[this,e]
    ·exact .inr ⟨k,c,e,z.sameBut hs (cne y c e)⟩
  ·obtain⟨w',z⟩:=I.cell y c e
   exact⟨w',z.sameBut hs (cne y c e)⟩
  ·obtain⟨e,n,ne,nf,d⟩:=I.pin p hp
   exact⟨(hs.2 p.1 ne).trans e,n,ne,nf,d⟩
 ·have nZ:X.fn x=true:=by
   rcases hf with z|z
   ·exact z
   ·rw[z]at hk;cases hk
  obtain⟨c,hc⟩:=I.ok.has x (.inl hk)
  obtain⟨w',z⟩:=I.cell x c hc
  refine wpAny_storeName_cell I.ok.kind hk hc z (fun h' fh hs=>?_)
  obtain⟨oc,du,hocd⟩:=id z
  refine h {s with heap:=h' } ⟨I.ok,I.os,I.bare,⟨fun b o e n hb hx=>?_,fun b o e n hb hx=>?_,I.base.free,fun b o e hx=>?_,I.base.tups,I.base.frzs,I.base.tbls⟩,⟨m,hn.sameBut hs (qp_ (cne x c hc)),fun j y v' e1 e2 e3=>?_⟩,fun y c' e=>?_,I.free,I.freeC,fun p hp=>?_,tracked ⟨oc,du,I.freeC x c hc⟩ hs,by simpa using I.len⟩ ⟨c,hs,.inr hc⟩
  ·exact (hs.2 b (jL_ (jy_ (js_ e) (I.ok.cab x c nZ hc)))).trans (I.base.keep b o e n hb hx)
  ·obtain⟨sl,e1⟩:=I.base.slot b o e n hb hx
   exact⟨sl,(hs.2 b (jL_ (jy_ (js_ e) (I.ok.cab x c nZ hc)))).trans e1⟩
  ·obtain⟨o',e1⟩:=I.base.there b o e hx
   exact⟨o',(hs.2 b (jL_ (jy_ (js_ e) (I.ok.cab x c nZ hc)))).trans e1⟩
  ·by_cases hj:j=i
   ·subst hj
    rw[hi]at e1;cases e1
    rw[qN_ hiσ]at e2
    cases e2
    exact⟨u,r,.inr ⟨.inl hk,c,hc,fh⟩⟩
   ·rw[xf_ (qp_ hj)]at e2
    obtain⟨u',r',q⟩:=hl j y v' e1 e2 e3
    refine⟨u',r',?_⟩
    rcases q with q|⟨k,c',e,z'⟩
    ·exact .inl q
    ·refine .inr ⟨k,c',e,z'.sameBut hs ?_⟩
     rintro rfl
     exact hj (M9 hN e1 (I.ok.inj _ _ _ e hc ▸ hi))
  ·by_cases hcc:c'=c
   ·subst hcc;exact⟨_,fh⟩
   ·obtain⟨w2,z2⟩:=I.cell y c' e
    exact⟨w2,z2.sameBut hs hcc⟩
  ·obtain⟨e,n,ne,nf,d⟩:=I.pin p hp
   refine⟨(hs.2 p.1 ?_).trans e,n,ne,nf,d⟩
   intro q
   rw[q,du]at e
   have q':oc=p.2:=jq_ e
   exact d w' (by rw[<-q'];exact hocd)
def JS         (I:Inv X af σ H s)(hN:X.N.Nodup)(hi:X.N[i]?=some x)(hx:Loc X.env.scope x)(r:RelV v u)
  (h:∀s',Inv X af (σ.set i (some v)) H s'->Q () s') (hf:X.fn x=true\/X.env.scope.names.lookup x=some .local:=by first|exact .inl rfl|exact .inr rfl|assumption):wpAny M A (storeName X.env x u) Q E s:=
 HJ I hN hi hx r (fun s' I' _=>h s' I') hf
def Inv.call'   (I:Inv X af σ H s)(ho:s'.os=s.os)(u:Un (frs X.stack) ch H H' s.heap s'.heap)(hok:HOk X.prog X.w H' s'.heap)(hg:AllBare s'.gens)
  (gq:∀b∈ch,(b∈X.ex\/X.s₀.heap.objs.size<=b)/\b≠X.env.locals/\(∀x c,X.env.cells.lookup x=some c->c≠b)/\∀p∈X.pn++af,p.1≠b):Inv X af σ H' s':=by
 obtain⟨h',g',d',t',o'⟩:=s'
 have e:o'=s.os:=ho
 subst e
 exact I.call (g':=g') (t':=t') (d':=d') u hok hg gq
end
noncomputable abbrev XK:=Value->Option Addr->Hp->Prop
noncomputable abbrev St:=List (Option V)
noncomputable abbrev VK:=V->Hp->Prop
noncomputable abbrev TE:=St->Hp->VK->Prop
noncomputable abbrev TT:=St->Hp->(Bool->Hp->Prop)->Prop
noncomputable abbrev TA:=St->Hp->(List V->Hp->Prop)->Prop
structure Ends where
 nx:St->Hp->Prop
 rt:VK
 bk:St->Hp->Prop:=fun _ _=>False
 ct:St->Hp->Prop:=fun _ _=>False
noncomputable abbrev TS:=Ends->St->Hp->Prop
noncomputable def EP (X:Cx)(af:α7)(σ:St)(Q:VK)(u:Value)(s':Shared):Prop:=∃v H',Inv X af σ H' s'/\RelV v u/\Q v H'
noncomputable def TP (X:Cx)(af:α7)(σ:St)(Q:Bool->Hp->Prop)(b:Bool)(s':Shared):Prop:=∃H',Inv X af σ H' s'/\Q b H'
noncomputable def AP (X:Cx)(af:α7)(σ:St)(Q:List V->Hp->Prop)(us:List Value)(s':Shared):Prop:=∃vs H',Inv X af σ H' s'/\Vals vs us/\Q vs H'
noncomputable def SP (X:Cx)(af:α7)(D:Ends)(f:Flow)(s':Shared):Prop:=
 match f with
 |.next=>∃ag H',Inv X af ag H' s'/\D.nx ag H'
 |.brk=>∃ag H',Inv X af ag H' s'/\D.bk ag H'
 |.cont=>∃ag H',Inv X af ag H' s'/\D.ct ag H'
 |.ret u=>∃v ag H',Inv X af ag H' s'/\RelV v u/\D.rt v H'
noncomputable def PE (X:Cx)(e:Expr)(t:TE):Prop:=
 ∀(af:α7) (s:Shared) (σ:St) (H:Hp) (Q:VK),Inv X af σ H s->t σ H Q->wpAny (model X.prog X.w) X.A (eval e X.env) (EP X af σ Q) X.xe s
noncomputable def PT (X:Cx)(e:Expr)(t:TT):Prop:=
 ∀(af:α7) (s:Shared) (σ:St) (H:Hp) (Q:Bool->Hp->Prop),Inv X af σ H s->t σ H Q->wpAny (model X.prog X.w) X.A (isTrue e X.env (eval e X.env)) (TP X af σ Q) X.xe s
noncomputable def PW (X:Cx)(e:Expr)(t:TT):Prop:=
 ∀(dN:Sem Value) (af:α7) (s:Shared) (σ:St) (H:Hp) (Q:Bool->Hp->Prop),Inv X af σ H s->t σ H Q->wpAny (model X.prog X.w) X.A (isTrue e X.env dN) (TP X af σ Q) X.xe s
def PW.pt    (h:PW X e t):PT X e t:=h _
noncomputable def PA (X:Cx)(es:List Expr)(t:TA):Prop:=
 ∀(pos:Pos) (af:α7) (s:Shared) (σ:St) (H:Hp) (Q:List V->Hp->Prop),Inv X af σ H s->t σ H Q->wpAny (model X.prog X.w) X.A (spliced (backTo pos (starEach es X.env))) (AP X af σ Q) X.xe s
noncomputable def PS (X:Cx)(st:Stmt)(t:TS):Prop:=
 ∀(af:α7) (s:Shared) (σ:St) (H:Hp) (D:Ends),Inv X af σ H s->t D σ H->wpAny (model X.prog X.w) X.A (exec st X.env) (SP X af D) X.xe s
noncomputable def PSs (X:Cx)(st:List Stmt)(t:TS):Prop:=
 ∀(af:α7) (s:Shared) (σ:St) (H:Hp) (D:Ends),Inv X af σ H s->t D σ H->wpAny (model X.prog X.w) X.A (execs st X.env) (SP X af D) X.xe s
def thn        (h:wpAny M A t Q E s)(hQ:∀a s,Q a s->Q' a s):wpAny M A t Q' E s:=qO_ h hQ fun _ _ x=>x
end L2
namespace L2
open PySem PySem.Spec PyProof.Rows
section
variable {X:Cx}
noncomputable def tVar (i:Nat):TE:=fun σ H Q=>∃v,σ[i]?=some (some v)/\Q v H
noncomputable def tC (v:V):TE:=fun _ H Q=>Q v H
def Vr    (hN:X.N[i]?=some x)(hv:Vis X.env.scope x)(hd:(x==("__debug__" : Str))=false:=by decide)(bL:(x==("__classdict__" : Str))=false:=by decide):PE X (.Name x pos) (tVar i):=by
 intro af s σ H Q I h
 obtain⟨v,e,h⟩:=h
 obtain⟨m,hn,hl⟩:=I.loc
 obtain⟨u,r,l⟩:=hl i x v hN e hv
 have fin:EP X af σ Q u s:=⟨v,H,I,r,h⟩
 rcases l with ⟨hk,hm⟩|⟨hk,c,hc,dO⟩
 ·exact wpAny_Name (wpAny_loadName_local I.ok.kind hk hn hm fin) hd
 ·rcases hk with hk|hk
  ·exact wpAny_Name (wpAny_loadName_cell I.ok.kind hk hc dO fin) hd
  ·exact wpAny_Name (wpAny_loadName_free I.ok.kind hk hc dO fin bL) hd
def Ad {i j pos}:PE X (.Constant (.int i) j pos) (tC (.int i)):=fun _ _ _ H _ I h=>wpAny_Constant_int ⟨.int i,H,I.tok _,⟨_,rfl⟩,h⟩
def L9 {b j pos}:PE X (.Constant (.bool b) j pos) (tC (.bl b)):=fun _ _ _ H _ I h=>Constant_bool ⟨.bl b,H,I,rfl,h⟩
def O3 {j pos}:PE X (.Constant .none j pos) (tC .non):=fun _ _ _ H _ I h=>Constant_none ⟨.non,H,I,rfl,h⟩
noncomputable def Gl (X:Cx)(x:Str):Prop:=X.env.kindOf x=some .globalImplicit
def Uj          (I:Inv X af σ H s)(hg:Gl X x)(hm:X.mg x=some u)(h:Q u s)
  (hd:(x==("__debug__" : Str))=false:=by decide):wpAny (model X.prog X.w) X.A (eval (.Name x pos) X.env) Q E s:=
 Calls.Name_function_global I.ok.kind hg (Calls.loadGlobal_global (by rw[I.ok.glob];exact I.mod.glob.keeps I.bk) hm h) hd
def DT          (I:Inv X af σ H s)(hg:Gl X x)(hm:X.mg x=none)(hv:bootBuiltins x=some u)(h:Q u s)
  (hn:x ≠ "__name__" := by decide) (hd:(x==("__debug__" : Str))=false:=by decide):wpAny (model X.prog X.w) X.A (eval (.Name x pos) X.env) Q E s:=by
 obtain⟨mb,h1,h2⟩:=I.mod.blt
 exact Calls.Name_function_global I.ok.kind hg (Calls.loadGlobal_builtin (by rw[I.ok.glob];exact I.mod.glob.keeps I.bk) hm (by rw[I.ok.blt];exact h1.keeps I.bk) ((h2 x hn).trans hv) h) hd
def JT     (hg:Gl X x)(hm:X.mg x=none)(hv:bootBuiltins x=some u)(r:RelV v u)(hn:x ≠ "__name__" := by decide)(hd:(x==("__debug__" : Str))=false:=by decide):PE X (.Name x pos) (tC v):=
 fun _ _ _ H _ I h=>DT I hg hm hv ⟨v,H,I,r,h⟩ hn hd
variable {a b:Expr} {ta tb:TE} {pos:Pos}
noncomputable def PC (X:Cx)(op:CmpOp)(a b:Expr)(t:TE):Prop:=
 ∀(af:α7) (s:Shared) (σ:St) (H:Hp) (Q:VK),Inv X af σ H s->t σ H Q ->
  wpAny (model X.prog X.w) X.A (eval a X.env) (fun v s₁=>wpAny (model X.prog X.w) X.A (eval b X.env) (fun u bj=>wpAny (model X.prog X.w) X.A (compareOp op v u) (EP X af σ Q) X.xe bj) X.xe s₁) X.xe s
def RD (b:Expr)  (h:op ≠ .In)(h2:op ≠ .NotIn):behindInMarks op b=false:=by
 have e1:(op==CmpOp.In)=false:=by cases op<;>first|rfl|exact absurd rfl h
 have e2:(op==CmpOp.NotIn)=false:=by cases op<;>first|rfl|exact absurd rfl h2
 cases b<;>simp[behindInMarks,e1,e2]
noncomputable def tB (t:TE):TT:=fun σ H Q=>t σ H fun x H1=>∃c,x=.bl c/\Q c H1
def SU   (h:PC X op a b t)(h1:behindInMarks op b=false:=by first|exact RD _ (by decide) (by decide)|rfl):PT X (.Compare a [op] [b] pos) (tB t):=by
 intro af s σ H Q I hw
 refine wpAny_isTrue_Compare1 (thn (h af s σ H _ I hw) fun v s1 h1=>thn h1 fun u s2 h2=>thn h2 fun c s3 ⟨x,H1,I1,r1,q1⟩=>?_) h1
 obtain⟨d,rfl,q⟩:=q1
 cases r1
 exact xx_ ⟨H1,I1,q⟩
def HK   (h:PE X e t)(he:∀dN,isTrue e X.env dN=(do let v <- dN;standAt e.pos;holding [v] (truthy v)):=by intro _;rfl):PT X e (tB t):=by
 intro af s σ H Q I hw
 refine isTrue_plain (thn (h af s σ H _ I hw) fun v s1 ⟨x,H1,I1,r1,q1⟩=>?_) (he _)
 obtain⟨d,rfl,q⟩:=q1
 cases r1
 exact xx_ ⟨H1,I1,q⟩
variable {tA mW:TT} {rest:List Expr}
noncomputable def tAnd (t u:TT):TT:=fun σ H Q=>t σ H fun c H1=>if c=true then u σ H1 Q else Q false H1
noncomputable def tOr (t u:TT):TT:=fun σ H Q=>t σ H fun c H1=>if c=true then Q true H1 else u σ H1 Q
noncomputable def tNot (t:TT):TT:=fun σ H Q=>t σ H fun c H1=>Q (!c) H1
def Ea (ha:PT X a tA):PW X (.BoolOp .And [a] pos) tA:=by
 intro wh af s σ H Q I h
 refine isTrue_and (thn (ha af s σ H Q I h) fun c s1 e=>?_)
 cases c with
 |true=>exact isTrue_and_nil e
 |false=>exact e
def Na (ha:PT X a tA):PW X (.BoolOp .Or [a] pos) tA:=by
 intro wh af s σ H Q I h
 refine isTrue_or (thn (ha af s σ H Q I h) fun c s1 e=>?_)
 cases c with
 |false=>exact isTrue_or_nil e
 |true=>exact e
def GI (ha:PT X a tA)(hb:PW X (.BoolOp .And (b::rest) pos) mW):PW X (.BoolOp .And (a::b::rest) pos) (tAnd tA mW):=by
 intro wh af s σ H Q I h
 refine isTrue_and (thn (ha af s σ H _ I h) fun c s1 ⟨H1,I1,q1⟩=>?_)
 cases c with
 |true=>exact hb wh af s1 σ H1 Q I1 q1
 |false=>exact⟨H1,I1,q1⟩
def N9 (ha:PT X a tA)(hb:PW X (.BoolOp .Or (b::rest) pos) mW):PW X (.BoolOp .Or (a::b::rest) pos) (tOr tA mW):=by
 intro wh af s σ H Q I h
 refine isTrue_or (thn (ha af s σ H _ I h) fun c s1 ⟨H1,I1,q1⟩=>?_)
 cases c with
 |true=>exact⟨H1,I1,q1⟩
 |false=>exact hb wh af s1 σ H1 Q I1 q1
def Jh (ha:PT X a tA):PT X (.UnaryOp .Not a pos) (tNot tA):=by
 intro af s σ H Q I h
 exact isTrue_not (ha af s σ H (fun c H1=>Q (!c) H1) I h)
noncomputable def Vs (ta tb:TE):TE:=fun σ H Q=>ta σ H fun x H1=>∃c,x=.bl c/\if c=true then tb σ H1 Q else Q (.bl false) H1
def Vt {op}  (h:PE X a t):PE X (.BoolOp op [a] pos) t:=fun af s σ H Q I hw=>BoolOp_one (h af s σ H Q I hw)
def Vu (ha:PE X a ta)(hb:PE X (.BoolOp .And (b::rest) pos) tb):PE X (.BoolOp .And (a::b::rest) pos) (Vs ta tb):=by
 intro af s σ H Q I h
 refine BoolOp_and (thn (ha af s σ H _ I h) fun v s1 ⟨x,H1,I1,r1,q1⟩=>?_)
 obtain⟨c,rfl,q1⟩:=q1
 cases r1
 refine xx_ ?_
 cases c with
 |true=>exact hb af s1 σ H1 Q I1 q1
 |false=>exact⟨.bl false,H1,I1,rfl,q1⟩
end
end L2
namespace L2
open PySem PySem.Spec PyProof.Rows
noncomputable def SqL (K:α3)(H:Hp)(a:Addr)(xs:List V):Prop:=
 Rd H a (.lst xs) \/
  ∃(o:Obj) (its:Array Value) (n:Nat),K.lookup a=some o/\o.cls=.type "list" /\ o.dict=none/\o.data=.seq its n/\its.size<=sizeLine/\Vals xs its.toList
noncomputable def SqT (K:α3)(H:Hp)(a:Addr)(xs:List V):Prop:=
 Rd H a (.tup xs) \/
  ∃(o:Obj) (its:Array Value) (n:Nat),K.lookup a=some o/\o.cls=.type "tuple" /\ o.data=.seq its n/\its.size<=sizeLine/\Vals xs its.toList
noncomputable def absV:Value->Option V
 |.none=>some .non
 |.bool b=>some (.bl b)
 |.int i _=>some (.int i)
 |.str x _=>some (.str x)
 |.bytes b _=>some (.byt b)
 |.float b _=>some (.flt b)
 |.ref a=>some (.ref a)
 |.type n=>some (.ty n)
 |_=>none
def RelV.abs   (r:RelV x u):absV u=some x:=by
 cases x with
 |non=>cases r;rfl
 |bl _=>cases r;rfl
 |int _=>obtain⟨t,rfl⟩:=r;rfl
 |str _=>obtain⟨t,rfl⟩:=r;rfl
 |byt _=>obtain⟨t,rfl⟩:=r;rfl
 |flt _=>obtain⟨t,rfl⟩:=r;rfl
 |ref _=>cases r;rfl
 |ty _=>cases r;rfl
def RelV.inj   (r:RelV x u)(q:RelV y u):x=y:=jq_ (r.abs.symm.trans q.abs)
def Vals.inj:∀{xs ys:List V} {us:List Value},Vals xs us->Vals ys us->xs=ys
 |_,_,_,.nil,.nil=>rfl
 |_,_,_,.cons r t,.cons r' t'=>by rw[r.inj r',Vals.inj t t']
section
variable {X:Cx} {af:α7} {σ:St} {H:Hp} {s:Shared} {a:Addr} {xs ys:List V}
def SqL.of {K:α3}(h:H a=some (.lst xs)):SqL K H a xs:=.inl (.inl h)
def SqT.of {K:α3}(h:H a=some (.tup xs)):SqT K H a xs:=.inl (.inl h)
def Inv.list (I:Inv X af σ H s)(h:SqL X.K H a xs):∃its:List Value,Vals xs its/\PlainL s.heap a its.toArray/\xs.length<=sizeLine:=by
 rcases h with h|⟨o,its,n,hk,hc,hd,hs,hz,r⟩
 ·obtain⟨z,its,n,r,e⟩:=h.ok I.hok
  exact⟨its,r,⟨_,n,e,rfl,rfl,rfl⟩,z⟩
 ·refine⟨its.toList,r,⟨o,n,I.kIn a o hk,hc,hd,by simpa using hs⟩,?_⟩
  have e:=r.length
  simp only[j3_]at e
  lia
def Inv.tuple (I:Inv X af σ H s)(h:SqT X.K H a xs):∃its:List Value,Vals xs its/\IsTup s.heap a its.toArray/\xs.length<=sizeLine:=by
 rcases h with h|⟨o,its,n,hk,hc,hs,hz,r⟩
 ·obtain⟨z,its,r,p⟩:=h.ok I.hok
  exact⟨its,r,p,z⟩
 ·refine⟨its.toList,r,⟨o,I.kIn a o hk,hc,n,by simpa using hs⟩,?_⟩
  have e:=r.length
  simp only[j3_]at e
  lia
def Inv.list_inj (I:Inv X af σ H s)(h:SqL X.K H a xs)(h':SqL X.K H a ys):xs=ys:=by
 obtain⟨its,r,⟨o,n,e,_,_,d⟩,_⟩:=I.list h
 obtain⟨its',r',⟨o',n',e',_,_,d'⟩,_⟩:=I.list h'
 rw[e]at e';cases e'
 rw[d]at d'
 injection d' with d1 _
 have:its=its':=by simpa using jH_ Array.toList d1
 subst this
 exact r.inj r'
def Inv.tuple_inj (I:Inv X af σ H s)(h:SqT X.K H a xs)(h':SqT X.K H a ys):xs=ys:=by
 obtain⟨its,r,⟨o,e,_,n,d⟩,_⟩:=I.tuple h
 obtain⟨its',r',⟨o',e',_,n',d'⟩,_⟩:=I.tuple h'
 rw[e]at e';cases e'
 rw[d]at d'
 injection d' with d1 _
 have:its=its':=by simpa using jH_ Array.toList d1
 subst this
 exact r.inj r'
end
noncomputable abbrev Cx.wish (X:Cx)(E:Value->Shared->Prop):Cx:={X with xe:=E}
noncomputable abbrev Cx.nox (X:Cx):Cx:=X.wish fun _ _=>False
def Cx.Ok.wish {X:Cx}(ok:X.Ok)(E:Value->Shared->Prop):(X.wish E).Ok:=
 ⟨ok.mod,ok.kind,ok.glob,ok.blt,ok.above,ok.inj,ok.has,ok.cab,ok.hd,ok.frames,ok.stk,ok.exf,ok.bs,ok.bsz,ok.noex,ok.exfs,ok.funs,ok.frf⟩
def Cx.Ok.unwish {X:Cx}{E:Value->Shared->Prop}(ok:(X.wish E).Ok):X.Ok:=
 ⟨ok.mod,ok.kind,ok.glob,ok.blt,ok.above,ok.inj,ok.has,ok.cab,ok.hd,ok.frames,ok.stk,ok.exf,ok.bs,ok.bsz,ok.noex,ok.exfs,ok.funs,ok.frf⟩
section
variable {X:Cx} {af:α7} {σ:St} {H:Hp} {s:Shared} {E:Value->Shared->Prop}
def Inv.wish (I:Inv X af σ H s)(E:Value->Shared->Prop):Inv (X.wish E) af σ H s:=⟨I.ok.wish E,I.os,I.bare,I.base,I.loc,I.cell,I.free,I.freeC,I.pin,I.hok,I.len⟩
def Inv.unwish (I:Inv (X.wish E) af σ H s):Inv X af σ H s:=⟨I.ok.unwish,I.os,I.bare,I.base,I.loc,I.cell,I.free,I.freeC,I.pin,I.hok,I.len⟩
def SP.unwish    (h:SP (X.wish E) af D f s'):SP X af D f s':=by
 cases f with
 |next=>obtain⟨ag,H',I,q⟩:=h;exact⟨ag,H',I.unwish,q⟩
 |brk=>obtain⟨ag,H',I,q⟩:=h;exact⟨ag,H',I.unwish,q⟩
 |cont=>obtain⟨ag,H',I,q⟩:=h;exact⟨ag,H',I.unwish,q⟩
 |ret u=>obtain⟨v,ag,H',I,r,q⟩:=h;exact⟨v,ag,H',I.unwish,r,q⟩
def PSs.nox {st:List Stmt}  (h:PSs X.nox st t):PSs X st t:=fun af s σ H D I hw=>
 qO_ (h af s σ H D (I.wish _) hw) (fun _ _ q=>q.unwish) fun _ _ z=>False.elim z
end
section
variable {X:Cx} {st:Stmt} {rest:List Stmt} {t u:TS} {e:Expr} {te:TE} {pos:Pos}
noncomputable def Vv:TS:=fun D σ H=>D.nx σ H
noncomputable def tSeq (t u:TS):TS:=fun D σ H=>t {D with nx:=u D} σ H
def AH:PSs X [] Vv:=fun _ _ σ H _ I h=>zI_ ⟨σ,H,I,h⟩
def Ac (h1:PS X st t)(h2:PSs X rest u):PSs X (st::rest) (tSeq t u):=by
 intro af s σ H D I h
 refine wpAny_execs_cons (thn (h1 af s σ H {D with nx:=u D} I h) fun f s1 q=>?_)
 cases f with
 |next=>
  obtain⟨ag,H',I',q⟩:=q
  exact h2 af s1 ag H' D I' q
 |ret v=>exact q
 |brk=>exact q
 |cont=>exact q
def Af (h1:PS X st t):PSs X [st] t:=by
 intro af s σ H D I h
 refine wpAny_execs_cons (thn (h1 af s σ H D I h) fun f s1 q=>?_)
 cases f with
 |next=>exact zI_ q
 |ret v=>exact q
 |brk=>exact q
 |cont=>exact q
def Inv.quiet     (I:Inv X af σ H s):interactive X.env=false:=by simp[interactive,I.ok.kind]
noncomputable def Vw (te:TE):TS:=fun D σ H=>te σ H fun _ H1=>D.nx σ H1
def A9 (he:PE X e te)(hs:swapsWith e none pos.line X.env=pure false:=by rfl):PS X (.Expr e pos) (Vw te):=by
 intro af s σ H D I h
 exact wpAny_Expr_any (thn (he af s σ H _ I h) fun v s1 ⟨x,H1,I1,r1,q1⟩=>⟨σ,H1,I1,q1⟩) I.quiet hs
noncomputable def tRet (te:TE):TS:=fun D σ H=>te σ H D.rt
def AA (he:PE X e te):PS X (.Return (some e) pos) (tRet te):=by
 intro af s σ H D I h
 exact wpAny_Return_some (thn (he af s σ H _ I h) fun v s1 ⟨x,H1,I1,r1,q1⟩=>⟨x,σ,H1,I1,r1,q1⟩)
noncomputable def tIfS (c:TT)(t u:TS):TS:=fun D σ H=>c σ H fun b H1=>if b=true then t D σ H1 else u D σ H1
def Bz    (hc:PT X c tc)(ha:PSs X a t)(hb:PSs X b u):PS X (.If c a b pos) (tIfS tc t u):=by
 intro af s σ H D I h
 refine wpAny_If (thn (hc af s σ H _ I h) fun d s1 ⟨H1,I1,q1⟩=>?_)
 cases d with
 |true=>exact ha af s1 σ H1 D I1 q1
 |false=>exact hb af s1 σ H1 D I1 q1
noncomputable def Vx:TS:=fun _ _ _=>False
def RE:PS X st Vx:=fun _ _ _ _ _ _ h=>h.elim
end
noncomputable abbrev TG:=V->St->Hp->(St->Hp->Prop)->Prop
noncomputable abbrev TGs:=List V->St->Hp->(St->Hp->Prop)->Prop
noncomputable def PG (X:Cx)(bO:Expr)(t:TG):Prop:=
 ∀(af:α7) (s:Shared) (σ:St) (H:Hp) (v:V) (u:Value) (Q:St->Hp->Prop),Inv X af σ H s->RelV v u->t v σ H Q ->
  wpAny (model X.prog X.w) X.A (assign bO X.env u) (fun _ s'=>∃ag H',Inv X af ag H' s'/\Q ag H') X.xe s
noncomputable def PGs (X:Cx)(ts:List Expr)(t:TGs):Prop:=
 ∀(af:α7) (s:Shared) (σ:St) (H:Hp) (vs:List V) (us:List Value) (Q:St->Hp->Prop),Inv X af σ H s->Vals vs us->t vs σ H Q ->
  wpAny (model X.prog X.w) X.A (assignInOrder ((assignEach ts X.env).map (·.2)) us) (fun _ s'=>∃ag H',Inv X af ag H' s'/\Q ag H') X.xe s
noncomputable abbrev TSet:=V->V->V->Hp->(Hp->Prop)->Prop
noncomputable def PSet (X:Cx)(t:TSet):Prop:=
 ∀(af:α7) (s:Shared) (σ:St) (H:Hp) (o i v:V) (ov iv u:Value) (Q:Hp->Prop),Inv X af σ H s->RelV o ov->RelV i iv->RelV v u->t o i v H Q ->
  wpAny (model X.prog X.w) X.A (setItem ov iv u) (fun _ s'=>∃H',Inv X af σ H' s'/\Q H') X.xe s
noncomputable abbrev TIp:=V->V->Hp->VK->Prop
noncomputable def PIp (X:Cx)(op:Operator)(t:TIp):Prop:=
 ∀(af:α7) (s:Shared) (σ:St) (H:Hp) (x y:V) (v u:Value) (Q:VK),Inv X af σ H s->RelV x v->RelV y u->t x y H Q ->
  wpAny (model X.prog X.w) X.A (inplaceOp op v u) (EP X af σ Q) X.xe s
section
variable {X:Cx} {pos:Pos}
noncomputable def Gb (i:Nat):TG:=fun v σ H Q=>Q (σ.set i (some v)) H
def Ap   (hN:X.N.Nodup)(hi:X.N[i]?=some x)(hx:Loc X.env.scope x)(hf:X.fn x=true\/X.env.scope.names.lookup x=some .local:=by first|exact .inl rfl|exact .inr rfl|assumption):PG X (.Name x pos) (Gb i):=by
 intro af s σ H v u Q I r h
 exact wpAny_assign_Name (JS I hN hi hx r (fun s' I'=>⟨_,H,I',h⟩) hf)
noncomputable def gNil:TGs:=fun vs σ H Q=>vs=[]/\Q σ H
noncomputable def Vy (t:TG)(u:TGs):TGs:=fun vs σ H Q=>∃v r,vs=v::r/\t v σ H fun ag H'=>u r ag H' Q
def O4:PGs X [] gNil:=by
 intro af s σ H vs us Q I r h
 obtain⟨e,h⟩:=h
 subst e
 cases r
 exact assignInOrder_nil ⟨σ,H,I,h⟩
def Hj     (h1:PG X e t)(h2:PGs X es u)
  (hs:(assignEach (e::es) X.env).map (·.2)=assign e X.env::(assignEach es X.env).map (·.2):=by rfl):PGs X (e::es) (Vy t u):=by
 intro af s σ H vs us Q I r h
 obtain⟨v,vr,e1,h⟩:=h
 subst e1
 cases r with
 |cons r rr=>
  rw[hs]
  refine assignInOrder_cons (thn (h1 af s σ H _ _ _ I r h) fun _ s1 ⟨iJ,H1,I1,q1⟩=>?_)
  exact h2 af s1 iJ H1 _ _ Q I1 rr q1
noncomputable def gTup (K:α3)(n:Nat)(t:TGs):TG:=fun v σ H Q=>∃a xs,v=.ref a/\SqT K H a xs/\xs.length=n/\t xs σ H Q
def SV     (hc:X.calm=true)(h:PGs X es t)
  (hn:(assignEach es X.env).length=n:=by rfl) (lH:(assignEach es X.env).findIdx? (·.1)=none:=by rfl):PG X (.Tuple es k pos) (gTup X.K n t):=by
 intro af s σ H v u Q I r hw
 obtain⟨a,xs,e1,hq,hl,hw⟩:=hw
 subst e1
 cases r
 obtain⟨its,rv,ht,hz⟩:=I.tuple hq
 refine assign_Tuple_tuple (I.ok.hd hc) ht (by simp[hn,<-hl,rv.length]) lH fun h' hx=>?_
 have I1:Inv X af σ H {s with heap:=h' }:=I.kept (t':=s.toks) fun b o e=>hx b o (jL_ (js_ e)) e
 exact h af _ σ H xs _ Q I1 (by simpa using rv) hw
noncomputable def gSub (to ti:TE)(t:TSet):TG:=fun v σ H Q=>to σ H fun o H1=>ti σ H1 fun i H2=>t o i v H2 fun H3=>Q σ H3
def KR    (ho:PE X o to)(hi:PE X i ti)(hs:PSet X t)
  (ha:∀v,assign (.Subscript o i pos) X.env v=(do
   let ov <- holding [v] (eval o X.env)
   let iv <- holding [v,ov] (eval i X.env)
   standAt pos
   holding [v,ov,iv] (setItem ov iv v)
   release [v,ov,iv] []):=by intro _;rfl):PG X (.Subscript o i pos) (gSub to ti t):=by
 intro af s σ H v u Q I r h
 rw[ha]
 refine je_ (qW_ (thn (ho af s σ H _ I h) fun ov s1 ⟨x,H1,I1,r1,q1⟩=>?_))
 refine je_ (qW_ (thn (hi af s1 σ H1 _ I1 q1) fun iv s2 ⟨y,H2,I2,r2,q2⟩=>?_))
 refine je_ (wpAny_standAt (je_ (qW_ (thn (hs af s2 σ H2 x y v ov iv u _ I2 r1 r2 r q2) fun _ s3 ⟨H3,I3,q3⟩=>?_))))
 exact wpAny_release ⟨σ,H3,I3,q3⟩
noncomputable def tAsg (te:TE)(g:TG):TS:=fun D σ H=>te σ H fun x H1=>g x σ H1 D.nx
def KS    (he:PE X e te)(hg:PG X tg g)(hs:swapsWithSole [tg] e pos.line X.env=pure false:=by rfl)(hw:swappedStores [tg] e X.env=pure none:=by rfl)
  (h1:(assignEach [tg] X.env).map (·.2)=[assign tg X.env]:=by rfl):PS X (.Assign [tg] e pos) (tAsg te g):=by
 intro af s σ H D I h
 refine wpAny_Assign_stores (thn (he af s σ H _ I h) fun v s1 ⟨x,H1,I1,r1,q1⟩=>?_) hs hw
 rw[h1]
 exact thn (hg af s1 σ H1 x v _ I1 r1 q1) fun _ s2 q=>q
def Bl      (hN:X.N.Nodup)(hi:X.N[i]?=some x)(hx:Loc X.env.scope x)(he:PE X e te)(hs:swapsWith e (some (.Name x b8)) pos.line X.env=pure false:=by rfl)(hf:X.fn x=true\/X.env.scope.names.lookup x=some .local:=by first|exact .inl rfl|exact .inr rfl|assumption):
  PS X (.Assign [.Name x b8] e pos) (tAsg te (Gb i)):=by
 intro af s σ H D I h
 refine wpAny_Assign_Name (thn (he af s σ H _ I h) fun v s1 ⟨y,H1,I1,r1,q1⟩=>?_) hs
 exact JS I1 hN hi hx r1 (fun s2 I2=>⟨_,H1,I2,q1⟩) hf
noncomputable def tAug (i:Nat)(te:TE)(ti:TIp):TS:=fun D σ H=>∃x,σ[i]?=some (some x)/\te σ H fun y H1=>ti x y H1 fun z H2=>D.nx (σ.set i (some z)) H2
def O5        (hN:X.N.Nodup)(hi:X.N[i]?=some x)(hx:Loc X.env.scope x)(he:PE X e te)(ho:PIp X op ti)(hf:X.fn x=true\/X.env.scope.names.lookup x=some .local:=by first|exact .inl rfl|exact .inr rfl|assumption):
  PS X (.AugAssign (.Name x b8) op e pos) (tAug i te ti):=by
 intro af s σ H D I h
 obtain⟨v,e1,h⟩:=h
 obtain⟨m,hn,hl⟩:=I.loc
 have lJ:Vis X.env.scope x:=by rcases hx with k|k;exact .inl k;exact .inr (.inl k)
 obtain⟨u,r,l⟩:=hl i x v hi e1 lJ
 refine wpAny_AugAssign_Name ?_
 have go:wpAny (model X.prog X.w) X.A (eval e X.env) (fun w bj=>wpAny (model X.prog X.w) X.A (inplaceOp op u w) (fun r bg=>wpAny (model X.prog X.w) X.A (storeName X.env x r) (fun _=>SP X af D .next) X.xe bg) X.xe bj) X.xe s:=by
  refine thn (he af s σ H _ I h) fun w s1 ⟨y,H1,I1,r1,q1⟩=>?_
  refine thn (ho af s1 σ H1 v y u w _ I1 r r1 q1) fun z s2 ⟨zv,H2,I2,r2,q2⟩=>?_
  exact JS I2 hN hi hx r2 (fun s3 I3=>⟨_,H2,I3,q2⟩) hf
 rcases l with ⟨hk,hm⟩|⟨hk,c,hc,dO⟩
 ·exact wpAny_loadName_local I.ok.kind hk hn hm go
 ·rcases hk with hk|hk
  ·exact wpAny_loadName_cell I.ok.kind hk hc dO go
  ·rcases hx with k|k
   ·have:X.env.scope.names.lookup x=some .free:=hk
    rw[k]at this;cases this
   ·have:X.env.scope.names.lookup x=some .free:=hk
    rw[k]at this;cases this
noncomputable def ipI (f:Int->Int->Int):TIp:=fun x y H Q=>∃i j,x=.int i/\y=.int j/\Q (.int (f i j)) H
def SW:PIp X .Add (ipI fun i j=>i+j):=by
 intro af s σ H x y v u Q I r1 r2 h
 obtain⟨i,j,e1,e2,q⟩:=h
 subst e1;subst e2
 obtain⟨t,rfl⟩:=r1
 obtain⟨t',rfl⟩:=r2
 exact iadd_int ⟨.int _,H,I.tok _,⟨_,rfl⟩,q⟩
def Vz:PIp X .Sub (ipI fun i j=>i-j):=by
 intro af s σ H x y v u Q I r1 r2 h
 obtain⟨i,j,e1,e2,q⟩:=h
 subst e1;subst e2
 obtain⟨t,rfl⟩:=r1
 obtain⟨t',rfl⟩:=r2
 exact isub_int ⟨.int _,H,I.tok _,⟨_,rfl⟩,q⟩
end
section
variable {X:Cx} {pos:Pos}
noncomputable def SX (c:TT)(tb:TS):TS:=fun D σ H=>∃W:Nat->St->Hp->Prop,(∃m,W m σ H)/\∀m σ H,W m σ H ->
 c σ H fun b H1=>if b=true then ∃N:St->Hp->Prop,(∀ag H',N ag H'->∃m',m'<m/\W m' ag H')/\tb {D with nx:=N,ct:=N,bk:=D.nx} σ H1 else D.nx σ H1
def EK     (hp:PassesOwn (model X.prog X.w) X.A X.env X.xe)(hc:PT X c tc)(hb:PSs X body tb):PS X (.While c body [] pos) (SX tc tb):=by
 intro af s σ H D I h
 obtain⟨W,⟨m0,w0⟩,turn⟩:=h
 refine wpAny_While (codeAny_whileLoop (fun n s'=>∃ag H',Inv X af ag H' s'/\W n ag H') ?_ m0 ⟨σ,H,I,w0⟩)
 rintro n s1 ⟨iJ,H1,I1,w1⟩
 refine xy_ hp (thn (hc af s1 iJ H1 _ I1 (turn n iJ H1 w1)) fun b s2 ⟨H2,I2,q2⟩=>?_)
 cases b with
 |true=>
  obtain⟨N,hN,q2⟩:=q2
  rw[if_pos rfl]
  refine xy_ hp (thn (hb af s2 iJ H2 _ I2 q2) fun f s3 q3=>?_)
  cases f with
  |next=>
   obtain⟨aA,H3,I3,n3⟩:=q3
   obtain⟨m',hm,w3⟩:=hN aA H3 n3
   exact⟨m',hm,aA,H3,I3,w3⟩
  |cont=>
   obtain⟨aA,H3,I3,n3⟩:=q3
   obtain⟨m',hm,w3⟩:=hN aA H3 n3
   exact⟨m',hm,aA,H3,I3,w3⟩
  |brk=>exact q3
  |ret v=>exact q3
 |false=>
  rw[if_neg jt_]
  exact zI_ ⟨iJ,H2,I2,q2⟩
end
structure It where
 go:Nat->Hp->Prop
 yld:Nat->Hp->V->Hp->Prop
 stop:Nat->Hp->Prop
noncomputable def FpOk (X:Cx)(af:α7)(H:Hp)(b:Addr):Prop:=
 H b=none/\b≠X.env.locals/\b∉X.fs/\(b∈X.ex\/X.s₀.heap.objs.size<=b)/\(∀x c,X.env.cells.lookup x=some c->c≠b)/\∀p∈X.pn++af,p.1≠b
def Inv.fpOk       (I:Inv X af σ H s)(hb:s.heap.objs.size<=b)(hn:H' b=none):FpOk X af H' b:=by
 refine⟨hn,qM_ (jy_ I.lt hb),I.nofs hb,.inr (qk_ I.sz hb),fun x c e z=>?_,fun p hp z=>?_⟩
 ·obtain⟨v,q⟩:=I.cell x c e
  exact absurd (jy_ q.lt (by rw[z];exact hb)) (j5_ _)
 ·exact absurd (jy_ (js_ (I.pin p hp).1) (by rw[z];exact hb)) (j5_ _)
structure Turn (P:Program)(w:World)(K:α3)(tg:Expr)(J:It)(fp:List Addr)(it:Addr)(tn:Nat->Heap->Prop):Prop where
 mem:it∈fp
 obj:∀i h,tn i h->∀b∈fp,∃o,h.get? b=some o/\∀v,o.data ≠ .cell v
 keep:∀i h h',tn i h->(∀b∈fp,∀o,h.get? b=some o->h'.get? b=some o)->tn i h'
 item:∀(X:Cx),X.prog=P->X.w=w->X.K=K->X.calm=true->∀(i:Nat) (af:α7) (s:Shared) (σ:St) (H:Hp) (E:Value->Shared->Prop),Inv X af σ H s->(∀b∈fp,FpOk X af H b)->tn i s.heap->J.go i H ->
  wpAny (model P w) X.A (pyNext (.ref it)) (fun r s1=>∃u,r=some u /\
   wpAny (model P w) X.A (letOwnedTupleGo tg (.ref it) u) (fun _ s2=>∃x H',Inv X af σ H' s2/\RelV x u/\J.yld i H x H'/\tn (i+1) s2.heap/\∀b∈fp,H' b=none) E s1) E s
 done:∀(X:Cx),X.prog=P->X.w=w->X.K=K->X.calm=true->∀(i:Nat) (af:α7) (s:Shared) (σ:St) (H:Hp) (E:Value->Shared->Prop),Inv X af σ H s->(∀b∈fp,FpOk X af H b)->tn i s.heap->J.stop i H ->
  wpAny (model P w) X.A (pyNext (.ref it)) (fun r s1=>r=none/\Inv X af σ H s1) E s
 self:∀(A:Around) (i:Nat) (s:Shared) (Q:Value->Shared->Prop) (E:Value->Shared->Prop),tn i s.heap->Q (.ref it) s->wpAny (model P w) A (pyIter (.ref it)) Q E s
noncomputable abbrev TI:=St->Hp->(It->Hp->Prop)->Prop
noncomputable def PIE (X:Cx)(af:α7)(σ:St)(tg:Expr)(R:It->Hp->Prop)(lK:Value)(s2:Shared):Prop:=
 ∃(it:Addr) (fp:List Addr) (tn:Nat->Heap->Prop) (J:It) (H':Hp),lK=.ref it/\Inv X af σ H' s2/\Turn X.prog X.w X.K tg J fp it tn/\tn 0 s2.heap/\(∀b∈fp,FpOk X af H' b)/\R J H'
noncomputable def PI (X:Cx)(tg iter:Expr)(wi:TI):Prop:=
 ∀(af:α7) (s:Shared) (σ:St) (H:Hp) (R:It->Hp->Prop),Inv X af σ H s->wi σ H R ->
  wpAny (model X.prog X.w) X.A (eval iter X.env) (fun v s1=>wpAny (model X.prog X.w) X.A (pyIter v) (PIE X af σ tg R) X.xe s1) X.xe s
def Uk      {it:Addr}      (ho:s.heap.get? it=some o)(hc:o.cls=.type n)(hd:o.data=.fields vs)
    (hn:["enumerate","zip","dict_itemiterator","dict_reverseitemiterator","odict_iterator","itertools.zip_longest","itertools.pairwise"].contains n=false) (hQ:Q () s):wpAny M A (letOwnedTupleGo tg (.ref it) u) Q E s:=by
  unfold letOwnedTupleGo
  cases tg<;>first
    | exact ju_ hQ
    | (cases u<;>first
        | exact ju_ hQ
        | (refine je_ (wpAny_load ho ?_)
           rw[hc,hd]
           show wpAny M A (if (["enumerate","zip","dict_itemiterator","dict_reverseitemiterator","odict_iterator","itertools.zip_longest","itertools.pairwise"].contains n&&vs[0]? == some (rawInt _))=true then _ else _) Q E s
           rw[if_neg (by intro h;rw[hn,Bool.false_and]at h;cases h)]
           exact ju_ hQ))
noncomputable def Itl (K:α3)(a:Addr):It:=
 ⟨fun i H=>∃xs x,SqL K H a xs/\xs[i]?=some x,fun i H x H'=>H'=H/\∀xs,SqL K H a xs->xs[i]?=some x,fun i H=>∃xs,SqL K H a xs/\xs.length<=i⟩
noncomputable def Itt (K:α3)(a:Addr):It:=
 ⟨fun i H=>∃xs x,SqT K H a xs/\xs[i]?=some x,fun i H x H'=>H'=H/\∀xs,SqT K H a xs->xs[i]?=some x,fun i H=>∃xs,SqT K H a xs/\xs.length<=i⟩
noncomputable def Itr (lo:Int)(n:Nat):It:=⟨fun i _=>i<n,fun i H x H'=>H'=H/\x=.int (lo+i),fun i _=>n<=i⟩
def KU {P:Program}{w:World}{K:α3}{tg:Expr}(a it:Addr):Turn P w K tg (Itl K a) [it] it (fun i h=>h.IsListIter it a i) where
 mem:=by simp
 obj:=fun i h st b hb=>by
  have e:b=it:=by simpa using hb
  subst e
  obtain⟨o,e,c,d⟩:=st
  exact⟨o,e,fun v z=>by rw[d]at z;cases z⟩
 keep:=fun i h h' st k=>st.at fun o e=>k it (by simp) o e
 item:=by
  intro X hP hw hK hc i af s σ H E I hf st hg
  subst hP hw hK
  obtain⟨xs,x,hq,hx⟩:=hg
  obtain⟨its,rv,p,hz⟩:=I.list hq
  obtain⟨u,hu,ru⟩:=rv.get hx
  obtain⟨f0,f1,f2,f3,f4,f5⟩:=hf it (by simp)
  refine wpAny_pyNext_list_item st p.isList (x:=u) (by simpa using hu) fun h' ah sb=>?_
  have I1:Inv X af σ H {s with heap:=h' }:=I.turned (t':=s.toks) (fun b o hb e=>(sb.2 b hb).trans e) f0 f1 f3 f4 f5
  obtain⟨o,e,c,d⟩:=id ah
  exact⟨u,rfl,Uk (s:={s with heap:=h' }) e c d (by decide) ⟨x,H,I1,ru,⟨rfl,fun ys hy=>by rw[I.list_inj hy hq];exact hx⟩,ah,fun b hb=>(hf b hb).1⟩⟩
 done:=by
  intro X hP hw hK hc i af s σ H E I hf st hg
  subst hP hw hK
  obtain⟨xs,hq,hx⟩:=hg
  obtain⟨its,rv,p,hz⟩:=I.list hq
  obtain⟨f0,f1,f2,f3,f4,f5⟩:=hf it (by simp)
  have hl:=rv.length
  exact wpAny_pyNext_list_end (I.ok.hd hc) st p.isList (by simp;lia) fun h' eb=>⟨rfl,I.turned (t':=s.toks) (fun b o hb e=>eb b o hb e) f0 f1 f3 f4 f5⟩
 self:=fun _ _ _ _ _ st h=>wpAny_pyIter_listiter st h
def Ji {P:Program}{w:World}{K:α3}{tg:Expr}(a it:Addr):Turn P w K tg (Itt K a) [it] it (fun i h=>h.IsTupleIter it a i) where
 mem:=by simp
 obj:=fun i h st b hb=>by
  have e:b=it:=by simpa using hb
  subst e
  obtain⟨o,e,c,d⟩:=st
  exact⟨o,e,fun v z=>by rw[d]at z;cases z⟩
 keep:=fun i h h' st k=>st.at fun o e=>k it (by simp) o e
 item:=by
  intro X hP hw hK hc i af s σ H E I hf st hg
  subst hP hw hK
  obtain⟨xs,x,hq,hx⟩:=hg
  obtain⟨its,rv,p,hz⟩:=I.tuple hq
  obtain⟨u,hu,ru⟩:=rv.get hx
  obtain⟨f0,f1,f2,f3,f4,f5⟩:=hf it (by simp)
  refine wpAny_pyNext_tuple_item st (show s.heap.IsTuple a its.toArray from p) (x:=u) (by simpa using hu) fun h' ah sb=>?_
  have I1:Inv X af σ H {s with heap:=h' }:=I.turned (t':=s.toks) (fun b o hb e=>(sb.2 b hb).trans e) f0 f1 f3 f4 f5
  obtain⟨o,e,c,d⟩:=id ah
  exact⟨u,rfl,Uk (s:={s with heap:=h' }) e c d (by decide) ⟨x,H,I1,ru,⟨rfl,fun ys hy=>by rw[I.tuple_inj hy hq];exact hx⟩,ah,fun b hb=>(hf b hb).1⟩⟩
 done:=by
  intro X hP hw hK hc i af s σ H E I hf st hg
  subst hP hw hK
  obtain⟨xs,hq,hx⟩:=hg
  obtain⟨its,rv,p,hz⟩:=I.tuple hq
  obtain⟨f0,f1,f2,f3,f4,f5⟩:=hf it (by simp)
  have hl:=rv.length
  exact wpAny_pyNext_tuple_end (I.ok.hd hc) st (show s.heap.IsTuple a its.toArray from p) (by simp;lia) fun h' eb=>⟨rfl,I.turned (t':=s.toks) (fun b o hb e=>eb b o hb e) f0 f1 f3 f4 f5⟩
 self:=fun _ _ _ _ _ st h=>wpAny_pyIter_tupleiter st h
def Oa {P:Program}{w:World}{K:α3}{tg:Expr}(it:Addr)(lo:Int)(n:Nat):Turn P w K tg (Itr lo n) [it] it (fun i h=>IsRangeIter h it (lo+(i:Nat)*1) ((n:Int)-(i:Nat)) 1) where
 mem:=by simp
 obj:=fun i h st b hb=>by
  have e:b=it:=by simpa using hb
  subst e
  exact⟨_,st,fun v z=>by
   have z':Data.fields _=Data.cell v:=z
   cases z'⟩
 keep:=fun i h h' st k=>k it (by simp) _ st
 item:=by
  intro X hP hw hK hc i af s σ H E I hf st hg
  subst hP hw hK
  obtain⟨f0,f1,f2,f3,f4,f5⟩:=hf it (by simp)
  have W:=Walks.range (prog:=X.prog) (w:=X.w) (I.ok.hd hc) it lo 1 n
  refine W.item i s _ _ hg st fun v h' tk hv ah kk=>?_
  obtain⟨t,rfl⟩:=hv
  have I1:Inv X af σ H {s with heap:=h',toks:=tk}:=I.turned (fun b o hb e=>kk b o (by simpa using hb) e) f0 f1 f3 f4 f5
  refine⟨_,rfl,Uk (s:={s with heap:=h',toks:=tk}) (n := "range_iterator") ah rfl rfl (by decide) ⟨.int (lo+i),H,I1,⟨t,?_⟩,⟨rfl,rfl⟩,ah,fun b hb=>(hf b hb).1⟩⟩
  rw[Int.mul_one]
 done:=by
  intro X hP hw hK hc i af s σ H E I hf st hg
  subst hP hw hK
  obtain⟨f0,f1,f2,f3,f4,f5⟩:=hf it (by simp)
  exact wpAny_pyNext_range_end (I.ok.hd hc) st (by have:n<=i:=hg;lia) fun h' eb=>⟨rfl,I.turned (t':=s.toks) (fun b o hb e=>eb b o hb e) f0 f1 f3 f4 f5⟩
 self:=fun _ _ _ _ _ st h=>wpAny_pyIter_rangeiter st h
end L2
namespace L2
open PySem PySem.Spec PyProof.Rows
section
variable {X:Cx} {tg:Expr}
noncomputable def VA (K:α3)(tl:TE):TI:=fun σ H R=>tl σ H fun x H1=>∃a,x=.ref a/\(∃xs,SqL K H1 a xs)/\R (Itl K a) H1
noncomputable def iTup (K:α3)(tl:TE):TI:=fun σ H R=>tl σ H fun x H1=>∃a,x=.ref a/\(∃xs,SqT K H1 a xs)/\R (Itt K a) H1
def AX   (hl:PE X l tl):PI X tg l (VA X.K tl):=by
 intro af s σ H R I h
 refine thn (hl af s σ H _ I h) fun v s1 ⟨x,H1,I1,r1,q1⟩=>?_
 obtain⟨a,e,⟨xs,hq⟩,q⟩:=q1
 subst e
 cases r1
 obtain⟨its,rv,p,hz⟩:=I1.list hq
 refine zn_ p.isList ?_
 refine⟨s1.heap.objs.size,[s1.heap.objs.size],_,_,H1,rfl,I1.kept (t':=s1.toks) fun b o e=>jo_ _ e,KU a _,⟨_,jF_ _ rfl,rfl,rfl⟩,fun b hb=>?_,q⟩
 have e:b=s1.heap.objs.size:=by simpa using hb
 subst e
 exact I1.fpOk (jg_ _) (I1.hok.fresh (jg_ _))
def Eb   (hl:PE X l tl):PI X tg l (iTup X.K tl):=by
 intro af s σ H R I h
 refine thn (hl af s σ H _ I h) fun v s1 ⟨x,H1,I1,r1,q1⟩=>?_
 obtain⟨a,e,⟨xs,hq⟩,q⟩:=q1
 subst e
 cases r1
 obtain⟨its,rv,p,hz⟩:=I1.tuple hq
 refine xO_ (show s1.heap.IsTuple a its.toArray from p) ?_
 refine⟨s1.heap.objs.size,[s1.heap.objs.size],_,_,H1,rfl,I1.kept (t':=s1.toks) fun b o e=>jo_ _ e,Ji a _,⟨_,jF_ _ rfl,rfl,rfl⟩,fun b hb=>?_,q⟩
 have e:b=s1.heap.objs.size:=by simpa using hb
 subst e
 exact I1.fpOk (jg_ _) (I1.hok.fresh (jg_ _))
def Nb       {lo hi:Int}   (I:Inv X af σ H s)(h1 : -(2 ^ 62)<=lo)(h2:lo<2 ^ 62)(h3 : -(2 ^ 62)<=hi)(h4:hi<2 ^ 62)
  (q:R (Itr lo (hi-lo).toNat) H):wpAny (model X.prog X.w) X.A (pyIter (.ref s.heap.objs.size)) (PIE X af σ tg R) E {s with heap:=s.heap.push {cls:=.type "range",data:=.fields #[.int lo t,.int hi u,.int 1 v]},toks:=tk}:=by
 refine wpAny_pyIter_range (IsRange.new ..) (small_one h1 h2 h3 h4) ?_
 have I1:Inv X af σ H {s with heap:=s.heap.push {cls:=.type "range",data:=.fields #[.int lo t,.int hi u,.int 1 v]},toks:=tk}:=I.kept fun b o e=>jo_ _ e
 refine⟨(s.heap.push {cls:=.type "range",data:=.fields #[.int lo t,.int hi u,.int 1 v]}).objs.size,[(s.heap.push {cls:=.type "range",data:=.fields #[.int lo t,.int hi u,.int 1 v]}).objs.size],_,_,H,rfl,
  I1.kept (t':=tk) fun b o e=>jo_ _ e,Oa _ lo (hi-lo).toNat,?_,fun b hb=>?_,q⟩
 ·have e1:lo+((0:Nat):Int)*1=lo:=by simp
  have e2:(((hi-lo).toNat:Nat):Int)-((0:Nat):Int)=Builtin.Range.rangeSize lo hi 1:=by rw[rangeSize_one];split<;>lia
  show IsRangeIter _ _ (lo+((0:Nat):Int)*1) ((((hi-lo).toNat:Nat):Int)-((0:Nat):Int)) 1
  rw[e1,e2]
  exact jF_ _ rfl
 ·have e:b=(s.heap.push {cls:=.type "range",data:=.fields #[.int lo t,.int hi u,.int 1 v]}).objs.size:=by simpa using hb
  subst e
  exact I1.fpOk (jg_ _) (I1.hok.fresh (jg_ _))
noncomputable def VB (ta:TA):TI:=fun σ H R=>ta σ H fun vs H1=>∃j:Int,vs=[.int j] /\ -(2 ^ 62)<=j/\j<2 ^ 62/\R (Itr 0 j.toNat) H1
noncomputable def VC (ta:TA):TI:=fun σ H R=>ta σ H fun vs H1=>∃i j:Int,vs=[.int i,.int j]/\(-(2 ^ 62)<=i/\i<2 ^ 62 /\ -(2 ^ 62)<=j/\j<2 ^ 62)/\R (Itr i (j-i).toNat) H1
def AQ    (hg:Gl X "range")(hm:X.mg "range"=none)(ha:PA X [a] ta)(hs:starEach [a] X.env=[(false,eval a X.env)]:=by rfl):PI X tg (.Call (.Name "range" p) [a] [] pos) (VB ta):=by
 intro af s σ H R I h
 refine Call_ (DT I hg hm boot_range (j6_ (thn (ha pos af s σ H _ I h) fun us s1 ⟨vs,H1,I1,r1,q1⟩=>?_) hs rfl))
 obtain⟨j,e,q1,q2,q⟩:=q1
 subst e
 cases r1 with
 |cons r rr=>
  cases rr
  obtain⟨t,rfl⟩:=r
  exact call_range_1 (Nb I1 s!"" s!"" q1 q2 (by simpa using q))
def O6    (hg:Gl X "range")(hm:X.mg "range"=none)(ha:PA X [a,b] ta)(hs:starEach [a,b] X.env=[(false,eval a X.env),(false,eval b X.env)]:=by rfl)(bY:starEach [b] X.env=[(false,eval b X.env)]:=by rfl):
  PI X tg (.Call (.Name "range" p) [a,b] [] pos) (VC ta):=by
 intro af s σ H R I h
 refine Call_ (DT I hg hm boot_range (j6_ (thn (ha pos af s σ H _ I h) fun us s1 ⟨vs,H1,I1,r1,q1⟩=>?_) (by rw[hs,bY]) (by rw[bY];rfl)))
 obtain⟨i,j,e,⟨q1,q2,q3,q4⟩,q⟩:=q1
 subst e
 cases r1 with
 |cons r rr=>
  cases rr with
  |cons r' rr=>
   cases rr
   obtain⟨t,rfl⟩:=r
   obtain⟨t',rfl⟩:=r'
   exact call_range_2 (Nb I1 q1 q2 q3 q4 q)
noncomputable def tFor (wi:TI)(g:TG)(tb:TS):TS:=fun D σ H=>wi σ H fun J H1=>∃W:Nat->Nat->St->Hp->Prop,(∃m,W 0 m σ H1)/\∀i m σ H,W i m σ H ->
 (J.stop i H/\D.nx σ H)\/(J.go i H/\∃N:St->Hp->Prop,(∀ag H',N ag H'->∃m',m'<m/\W (i+1) m' ag H')/\∀x H',J.yld i H x H'->g x σ H' fun aj H2=>tb {D with nx:=N,ct:=N,bk:=D.nx} aj H2)
noncomputable def Jj (fp:List Addr)(h:Heap):α7:=fp.filterMap fun b=>(h.get? b).map fun o=>(b,o)
def CG     (hb:b∈fp)(e:h.get? b=some o):(b,o)∈Jj fp h:=List.mem_filterMap.mpr ⟨b,hb,by rw[e];rfl⟩
def O7    (hp:p∈Jj fp h):p.1∈fp/\h.get? p.1=some p.2:=by
 obtain⟨b,hb,e⟩:=List.mem_filterMap.mp hp
 cases q:h.get? b with
 |none=>rw[q]at e;cases e
 |some o=>
  rw[q]at e
  have e':(b,o)=p:=jq_ e
  subst e'
  exact⟨hb,q⟩
def Inv.pinned      (I:Inv X af σ H s)(hf:∀b∈fp,FpOk X af H b)(ho:∀b∈fp,∃o,s.heap.get? b=some o/\∀v,o.data ≠ .cell v):Inv X (af++Jj fp s.heap) σ H s:=
 I.pins_of fun p hp=>(jA_.mp hp).elim (fun z=>I.pin p (jx_ _ z)) fun z=>by
  obtain⟨hb,e⟩:=O7 z
  obtain⟨f0,f1,f2,_⟩:=hf p.1 hb
  obtain⟨o,e',d⟩:=ho p.1 hb
  rw[e]at e';cases e'
  exact⟨e,f0,f1,f2,d⟩
def Inv.unpinned     (I:Inv X (af++pl) σ H s):Inv X af σ H s:=I.pins_of fun p hp=>I.pin p (jx_ _ (qa_ _ hp))
def Bm {iter:Expr}  {wi:TI}    (hp:PassesOwn (model X.prog X.w) X.A X.env X.xe)(hc:X.calm=true)(hi:PI X tg iter wi)(hg:PG X tg g)(hb:PSs X body tb)
  (hs:∀x,foldedSetIterable iter X.env x=pure x:=by intro _;rfl):PS X (.For tg iter body [] pos) (tFor wi g tb):=by
 intro af s σ H D I h
 refine wpAny_For (thn (hi af s σ H _ I h) fun v s1 h1=>thn h1 fun lK s2 h2=>?_) hs
 obtain⟨it,fp,tn,J,H2,e,I2,T,aN,f2,W,⟨m0,w0⟩,turn⟩:=h2
 subst e
 -- what stays true of n0 iterator's objects through n0 loop
 have cz:∀{H':Hp},(∀b∈fp,H' b=none)->∀b∈fp,FpOk X af H' b:=fun hn b hb=>⟨hn b hb,(f2 b hb).2⟩
 refine codeAny_forLoop_any (fun n s'=>∃i ag H',Inv X af ag H' s'/\tn i s'.heap/\(∀b∈fp,H' b=none)/\W i n ag H') ?_ m0 ⟨0,σ,H2,I2,aN,fun b hb=>(f2 b hb).1,w0⟩
 rintro n s3 ⟨i,aA,H3,I3,di,kI,w3⟩
 rcases turn i n aA H3 w3 with ⟨stop,qn⟩|⟨go,N,hN,step⟩
 ·refine xy_ hp (thn (T.done X rfl rfl rfl hc i af s3 aA H3 X.xe I3 (cz kI) di stop) fun r s4 ⟨hr,I4⟩=>?_)
  subst hr
  exact zI_ ⟨aA,H3,I4,qn⟩
 ·refine xy_ hp (thn (T.item X rfl rfl rfl hc i af s3 aA H3 X.xe I3 (cz kI) di go) fun r s4 ⟨u,hr,h4⟩=>?_)
  subst hr
  refine xy_ hp (thn h4 fun _ s5 ⟨x,H5,I5,r5,y5,a8,lL⟩=>?_)
  have lM:=I5.pinned (cz lL) (T.obj _ _ a8)
  refine xy_ hp (thn (hg _ s5 aA H5 x u _ lM r5 (step x H5 y5)) fun _ s6 ⟨cW,H6,I6,q6⟩=>?_)
  refine xy_ hp (thn (hb _ s6 cW H6 _ I6 q6) fun f s7 q7=>?_)
  have again:∀{cP:St} {H7:Hp},Inv X (af++Jj fp s5.heap) cP H7 s7->N cP H7->∃m,m<n/\∃i ag H',Inv X af ag H' s7/\tn i s7.heap/\(∀b∈fp,H' b=none)/\W i m ag H':=fun {cP H7} I7 n7=>by
   obtain⟨m',hm,w7⟩:=hN cP H7 n7
   refine⟨m',hm,i+1,cP,H7,I7.unpinned,T.keep _ _ _ a8 fun b hb o e=>(I7.pin (b,o) (jx_ _ (jx_ _ (CG hb e)))).1,fun b hb=>?_,w7⟩
   obtain⟨o,e,d⟩:=T.obj _ _ a8 b hb
   exact (I7.pin (b,o) (jx_ _ (jx_ _ (CG hb e)))).2.1
  cases f with
  |next=>obtain⟨cP,H7,I7,n7⟩:=q7;exact again I7 n7
  |cont=>obtain⟨cP,H7,I7,n7⟩:=q7;exact again I7 n7
  |brk=>obtain⟨cP,H7,I7,q7⟩:=q7;exact⟨cP,H7,I7.unpinned,q7⟩
  |ret v=>obtain⟨x7,cP,H7,I7,r7,q7⟩:=q7;exact⟨x7,cP,H7,I7.unpinned,r7,q7⟩
end
def RG {K:α3}{a:Addr}{xs:List V}{g:TG}{tb:TS}{D:Ends}{σ:St}{H:Hp}(Pv:Nat->St->Hp->Prop)(h0:Pv 0 σ H)(hl:∀i σ H,i<=xs.length->Pv i σ H->SqL K H a xs)
  (hs:∀i x σ H,xs[i]?=some x->Pv i σ H->g x σ H fun aj H2=>tb {D with nx:=Pv (i+1),ct:=Pv (i+1),bk:=D.nx} aj H2) (hd:∀σ H,Pv xs.length σ H->D.nx σ H):
  ∃W:Nat->Nat->St->Hp->Prop,(∃m,W 0 m σ H)/\∀i m σ H,W i m σ H ->
   ((Itl K a).stop i H/\D.nx σ H)\/((Itl K a).go i H/\∃N:St->Hp->Prop,(∀ag H',N ag H'->∃m',m'<m/\W (i+1) m' ag H')/\∀x H',(Itl K a).yld i H x H'->g x σ H' fun aj H2=>tb {D with nx:=N,ct:=N,bk:=D.nx} aj H2):=by
 refine⟨fun i m σ H=>m=xs.length-i/\i<=xs.length/\Pv i σ H,⟨xs.length,by simp,jX_ _,h0⟩,?_⟩
 rintro i m σ H ⟨rfl,hi,p⟩
 have q:=hl i σ H hi p
 by_cases ar:i<xs.length
 ·refine .inr ⟨⟨xs,xs[i],q,by simp[ar]⟩,Pv (i+1),fun ag H' p'=>⟨xs.length-(i+1),by lia,rfl,ar,p'⟩,fun x H' y=>?_⟩
  obtain⟨e,y⟩:=y
  subst e
  exact hs i x σ _ (y xs q) p
 ·have e:i=xs.length:=by lia
  subst e
  exact .inl ⟨⟨xs,q,jg_ _⟩,hd σ H p⟩
def Ul {K:α3}{a:Addr}{xs:List V}{g:TG}{tb:TS}{D:Ends}{σ:St}{H:Hp}(Pv:Nat->St->Hp->Prop)(h0:Pv 0 σ H)(hl:∀i σ H,i<=xs.length->Pv i σ H->SqT K H a xs)
  (hs:∀i x σ H,xs[i]?=some x->Pv i σ H->g x σ H fun aj H2=>tb {D with nx:=Pv (i+1),ct:=Pv (i+1),bk:=D.nx} aj H2) (hd:∀σ H,Pv xs.length σ H->D.nx σ H):
  ∃W:Nat->Nat->St->Hp->Prop,(∃m,W 0 m σ H)/\∀i m σ H,W i m σ H ->
   ((Itt K a).stop i H/\D.nx σ H)\/((Itt K a).go i H/\∃N:St->Hp->Prop,(∀ag H',N ag H'->∃m',m'<m/\W (i+1) m' ag H')/\∀x H',(Itt K a).yld i H x H'->g x σ H' fun aj H2=>tb {D with nx:=N,ct:=N,bk:=D.nx} aj H2):=by
 refine⟨fun i m σ H=>m=xs.length-i/\i<=xs.length/\Pv i σ H,⟨xs.length,by simp,jX_ _,h0⟩,?_⟩
 rintro i m σ H ⟨rfl,hi,p⟩
 have q:=hl i σ H hi p
 by_cases ar:i<xs.length
 ·refine .inr ⟨⟨xs,xs[i],q,by simp[ar]⟩,Pv (i+1),fun ag H' p'=>⟨xs.length-(i+1),by lia,rfl,ar,p'⟩,fun x H' y=>?_⟩
  obtain⟨e,y⟩:=y
  subst e
  exact hs i x σ _ (y xs q) p
 ·have e:i=xs.length:=by lia
  subst e
  exact .inl ⟨⟨xs,q,jg_ _⟩,hd σ H p⟩
def O8 {lo:Int}{n:Nat}{g:TG}{tb:TS}{D:Ends}{σ:St}{H:Hp}(Pv:Nat->St->Hp->Prop)(h0:Pv 0 σ H)
  (hs:∀i σ H,i<n->Pv i σ H->g (.int (lo+i)) σ H fun aj H2=>tb {D with nx:=Pv (i+1),ct:=Pv (i+1),bk:=D.nx} aj H2) (hd:∀σ H,Pv n σ H->D.nx σ H):
  ∃W:Nat->Nat->St->Hp->Prop,(∃m,W 0 m σ H)/\∀i m σ H,W i m σ H ->
   ((Itr lo n).stop i H/\D.nx σ H)\/((Itr lo n).go i H/\∃N:St->Hp->Prop,(∀ag H',N ag H'->∃m',m'<m/\W (i+1) m' ag H')/\∀x H',(Itr lo n).yld i H x H'->g x σ H' fun aj H2=>tb {D with nx:=N,ct:=N,bk:=D.nx} aj H2):=by
 refine⟨fun i m σ H=>m=n-i/\i<=n/\Pv i σ H,⟨n,by simp,jX_ _,h0⟩,?_⟩
 rintro i m σ H ⟨rfl,hi,p⟩
 by_cases ar:i<n
 ·refine .inr ⟨ar,Pv (i+1),fun ag H' p'=>⟨n-(i+1),by lia,rfl,ar,p'⟩,fun x H' y=>?_⟩
  obtain⟨e,y⟩:=y
  subst e y
  exact hs i σ _ ar p
 ·have e:i=n:=by lia
  subst e
  exact .inl ⟨jg_ _,hd σ H p⟩
end L2
namespace L2
open PySem PySem.Spec PyProof.Rows
noncomputable abbrev R2:=V->V->Hp->VK->Prop
noncomputable def OpR (X:Cx)(f:Value->Value->Sem Value)(r:R2):Prop:=
 ∀(af:α7) (s:Shared) (σ:St) (H:Hp) (x y:V) (v u:Value) (Q:VK),Inv X af σ H s->RelV x v->RelV y u->r x y H Q ->
  wpAny (model X.prog X.w) X.A (f v u) (EP X af σ Q) X.xe s
noncomputable def UnR (X:Cx)(f:Value->Sem Value)(r:V->Hp->VK->Prop):Prop:=
 ∀(af:α7) (s:Shared) (σ:St) (H:Hp) (x:V) (v:Value) (Q:VK),Inv X af σ H s->RelV x v->r x H Q ->
  wpAny (model X.prog X.w) X.A (f v) (EP X af σ Q) X.xe s
noncomputable def Cg (X:Cx)(f:Value)(r:List V->Hp->VK->Prop):Prop:=
 ∀(af:α7) (s:Shared) (σ:St) (H:Hp) (xs:List V) (us:List Value) (Q:VK),Inv X af σ H s->Vals xs us->r xs H Q ->
  wpAny (model X.prog X.w) X.A (call f us) (EP X af σ Q) X.xe s
noncomputable def tOp (r:R2)(ta tb:TE):TE:=fun σ H Q=>ta σ H fun x H1=>tb σ H1 fun y H2=>r x y H2 Q
noncomputable def tUn (r:V->Hp->VK->Prop)(ta:TE):TE:=fun σ H Q=>ta σ H fun x H1=>r x H1 Q
noncomputable def rI (C:Int->Int->Prop)(g:Int->Int->V):R2:=fun x y H Q=>∃i j,x=.int i/\y=.int j/\C i j/\Q (g i j) H
noncomputable def rI0 (g:Int->Int->V):R2:=fun x y H Q=>∃i j,x=.int i/\y=.int j/\Q (g i j) H
noncomputable def rU (g:Int->V):V->Hp->VK->Prop:=fun x H Q=>∃i,x=.int i/\Q (g i) H
section
variable {X:Cx} {a b c:Expr} {ta tb tc:TE} {pos:Pos}
def binT (ha:PE X a ta)(hb:PE X b tb){af:α7}{s:Shared}{σ:St}{H:Hp}{R:V->V->Hp->Prop}(I:Inv X af σ H s)
  (h:ta σ H fun x H1=>tb σ H1 fun y H2=>R x y H2) {Q:Value->Shared->Prop} {f:Value->Value->Sem Value}
  (hf:∀v u s2 x y H2,Inv X af σ H2 s2->RelV x v->RelV y u->R x y H2->wpAny (model X.prog X.w) X.A (f v u) Q X.xe s2):
  wpAny (model X.prog X.w) X.A (eval a X.env) (fun v s₁=>wpAny (model X.prog X.w) X.A (eval b X.env) (fun u bj=>wpAny (model X.prog X.w) X.A (f v u) Q X.xe bj) X.xe s₁) X.xe s:=by
 refine thn (ha af s σ H _ I h) fun v s1 ⟨x,H1,I1,r1,q1⟩=>?_
 refine thn (hb af s1 σ H1 _ I1 q1) fun u s2 ⟨y,H2,I2,r2,q2⟩=>?_
 exact hf v u s2 x y H2 I2 r1 r2 q2
def Am   (ho:OpR X (binaryOp op) r)(ha:PE X a ta)(hb:PE X b tb):PE X (.BinOp a op b pos) (tOp r ta tb):=by
 intro af s σ H Q I h
 exact wpAny_BinOp (binT ha hb I h fun v u s2 x y H2 I2 rx ry q=>ho af s2 σ H2 x y v u Q I2 rx ry q)
def VD   (ho:UnR X (unaryOp op) r)(ha:PE X a ta):PE X (.UnaryOp op a pos) (tUn r ta):=by
 intro af s σ H Q I h
 exact UnaryOp_ (thn (ha af s σ H _ I h) fun v s1 ⟨x,H1,I1,r1,q1⟩=>ho af s1 σ H1 x v Q I1 r1 q1)
def opI {f:Value->Value->Sem Value}{C:Int->Int->Prop}{g:Int->Int->Int}
  (rule:∀(i j:Int) (t u:Tok) (s:Shared) (Q:Value->Shared->Prop) (E:Value->Shared->Prop),C i j->Q (.int (g i j) s.toks) {s with toks:=s.toks+1}->wpAny (model X.prog X.w) X.A (f (.int i t) (.int j u)) Q E s):
  OpR X f (rI C fun i j=>.int (g i j)):=by
 intro af s σ H x y v u Q I rx ry h
 obtain⟨i,j,rfl,rfl,hc,q⟩:=h
 obtain⟨t,rfl⟩:=rx
 obtain⟨t',rfl⟩:=ry
 exact rule i j t t' s _ _ hc ⟨.int (g i j),H,I.tok _,⟨_,rfl⟩,q⟩
def opI0 {f:Value->Value->Sem Value}{g:Int->Int->Int}
  (rule:∀(i j:Int) (t u:Tok) (s:Shared) (Q:Value->Shared->Prop) (E:Value->Shared->Prop),Q (.int (g i j) s.toks) {s with toks:=s.toks+1}->wpAny (model X.prog X.w) X.A (f (.int i t) (.int j u)) Q E s):
  OpR X f (rI0 fun i j=>.int (g i j)):=by
 intro af s σ H x y v u Q I rx ry h
 obtain⟨i,j,rfl,rfl,q⟩:=h
 obtain⟨t,rfl⟩:=rx
 obtain⟨t',rfl⟩:=ry
 exact rule i j t t' s _ _ ⟨.int (g i j),H,I.tok _,⟨_,rfl⟩,q⟩
def opB0 {f:Value->Value->Sem Value}{g:Int->Int->Bool}
  (rule:∀(i j:Int) (t u:Tok) (s:Shared) (Q:Value->Shared->Prop) (E:Value->Shared->Prop),Q (.bool (g i j)) s->wpAny (model X.prog X.w) X.A (f (.int i t) (.int j u)) Q E s):
  OpR X f (rI0 fun i j=>.bl (g i j)):=by
 intro af s σ H x y v u Q I rx ry h
 obtain⟨i,j,rfl,rfl,q⟩:=h
 obtain⟨t,rfl⟩:=rx
 obtain⟨t',rfl⟩:=ry
 exact rule i j t t' s _ _ ⟨.bl (g i j),H,I,rfl,q⟩
noncomputable def CDiv (i j:Int):Prop:=0<j/\j<1073741824
noncomputable def CMul (i j:Int):Prop:=(-(2 ^ 64)<i/\i<2 ^ 64)\/(-(2 ^ 64)<j/\j<2 ^ 64)
def CMul.ok  (h:CMul i j):IntMulOk i j:=by
 rcases h with ⟨h1,h2⟩|⟨h1,h2⟩
 ·exact .of_left (intBits_le_64 h1 h2)
 ·exact .of_right (intBits_le_64 h1 h2)
def AW:OpR X (binaryOp .Add) (rI0 fun i j=>.int (i+j)):=opI0 fun _ _ _ _ _ _ _ q=>add_int q
def CQ:OpR X (binaryOp .Sub) (rI0 fun i j=>.int (i-j)):=opI0 fun _ _ _ _ _ _ _ q=>sub_int q
def FD:OpR X (binaryOp .Mult) (rI CMul fun i j=>.int (i*j)):=opI fun _ _ _ _ _ _ _ hc q=>mul_int q hc.ok
def BB:OpR X (binaryOp .FloorDiv) (rI CDiv fun i j=>.int (i / j)):=opI fun i j _ _ _ _ _ hc q=>by
 have h1:(0:Int)<j:=hc.1
 have h2:j<1073741824:=hc.2
 exact floordiv_int s!"" (by rw[Int.fdiv_eq_ediv_of_nonneg i s!""];exact q) (.inl (PyProof.noPylong_small s!""))
def AM:OpR X (binaryOp .Mod) (rI (fun _ j=>0<j) fun i j=>.int (i%j)):=opI fun i j _ _ _ _ _ hc q=>by
 have h1:(0:Int)<j:=hc
 exact mod_int' s!"" (by rw[Int.fmod_eq_emod_of_nonneg i s!""];exact q)
def unI {f:Value->Sem Value}{g:Int->Int}
  (rule:∀(i:Int) (t:Tok) (s:Shared) (Q:Value->Shared->Prop) (E:Value->Shared->Prop),Q (.int (g i) s.toks) {s with toks:=s.toks+1}->wpAny (model X.prog X.w) X.A (f (.int i t)) Q E s):
  UnR X f (rU fun i=>.int (g i)):=by
 intro af s σ H x v Q I rx h
 obtain⟨i,rfl,q⟩:=h
 obtain⟨t,rfl⟩:=rx
 exact rule i t s _ _ ⟨.int (g i),H,I.tok _,⟨_,rfl⟩,q⟩
def SY:UnR X (unaryOp .USub) (rU fun i=>.int (-i)):=unI fun _ _ _ _ _ q=>neg_int q
end
noncomputable def scal:V->V->Bool
 |.non,.non=>true | .non,.int _=>true | .int _,.non=>true | .non,.bl _=>true | .bl _,.non=>true | .non,.str _=>true | .str _,.non=>true
 |.int _,.int _=>true | .bl _,.bl _=>true | .str _,.str _=>true | .byt _,.byt _=>true
 |.int _,.str _=>true | .str _,.int _=>true | .bl _,.str _=>true | .str _,.bl _=>true
 |_,_=>false
noncomputable def rEq:R2:=fun x y H Q=>scal x y=true/\Q (.bl (decide (x=y))) H
noncomputable def rNe:R2:=fun x y H Q=>scal x y=true/\Q (.bl (!decide (x=y))) H
def O9  : decide (V.int i=V.int j)=(i==j):=by
 rw[qB_]
 simp
def S0  : decide (V.bl i=V.bl j)=(i==j):=by
 rw[qB_]
 simp
def Pb  : decide (V.str i=V.str j)=(i==j):=by
 rw[qB_]
 simp
def Pe  : decide (V.byt i=V.byt j)=(i.toList==j.toList):=by
 rw[qB_]
 cases i
 cases j
 simp
section
variable {X:Cx} {a b c:Expr} {ta tb tc:TE} {pos:Pos}
def A3       (I:Inv X af σ H s)(q:Q (.bl k) H)(e:k=k'):EP X af σ Q (.bool k') s:=by
 subst e
 exact⟨.bl k,H,I,rfl,q⟩
def B1:OpR X (compareOp .Eq) rEq:=by
 intro af s σ H x y v u Q I rx ry h
 obtain⟨hs,q⟩:=h
 cases x with
 |non=>
  cases rx
  cases y with
  |non=>cases ry;exact PySem.EqNone.eq_none_none (A3 I q (by simp))
  |bl j=>cases ry;exact PySem.EqNone.eq_none_bool (A3 I q (by simp))
  |int j=>obtain⟨t',rfl⟩:=ry;exact PySem.EqNone.eq_none_int (A3 I q (by simp))
  |str j=>obtain⟨t',rfl⟩:=ry;exact PySem.EqNone.eq_none_str (A3 I q (by simp))
  |_=>exact absurd (show false=true from hs) jt_
 |bl i=>
  cases rx
  cases y with
  |non=>cases ry;exact PySem.EqNone.eq_bool_none (A3 I q (by simp))
  |bl j=>cases ry;exact eq_bool (A3 I q S0)
  |str j=>obtain⟨t',rfl⟩:=ry;exact PySem.EqMixed.eq_bool_str (A3 I q (by simp))
  |_=>exact absurd (show false=true from hs) jt_
 |int i=>
  obtain⟨t,rfl⟩:=rx
  cases y with
  |non=>cases ry;exact PySem.EqNone.eq_int_none (A3 I q (by simp))
  |int j=>obtain⟨t',rfl⟩:=ry;exact eq_int (A3 I q O9)
  |str j=>obtain⟨t',rfl⟩:=ry;exact PySem.EqMixed.eq_int_str (A3 I q (by simp))
  |_=>exact absurd (show false=true from hs) jt_
 |str i=>
  obtain⟨t,rfl⟩:=rx
  cases y with
  |non=>cases ry;exact PySem.EqNone.eq_str_none (A3 I q (by simp))
  |bl j=>cases ry;exact PySem.EqMixed.eq_str_bool (A3 I q (by simp))
  |int j=>obtain⟨t',rfl⟩:=ry;exact PySem.EqMixed.eq_str_int (A3 I q (by simp))
  |str j=>obtain⟨t',rfl⟩:=ry;exact eq_str (A3 I q Pb)
  |_=>exact absurd (show false=true from hs) jt_
 |byt i=>
  obtain⟨t,rfl⟩:=rx
  cases y with
  |byt j=>obtain⟨t',rfl⟩:=ry;exact PySem.W.eq_bytes (A3 I q Pe)
  |_=>exact absurd (show false=true from hs) jt_
 |_=>cases y<;>exact absurd (show false=true from hs) jt_
def RH:OpR X (compareOp .NotEq) rNe:=by
 intro af s σ H x y v u Q I rx ry h
 obtain⟨hs,q⟩:=h
 cases x with
 |non=>
  cases rx
  cases y with
  |non=>cases ry;exact PySem.EqNone.ne_none_none (A3 I q (by simp))
  |bl j=>cases ry;exact PySem.EqNone.ne_none_bool (A3 I q (by simp))
  |int j=>obtain⟨t',rfl⟩:=ry;exact PySem.EqNone.ne_none_int (A3 I q (by simp))
  |str j=>obtain⟨t',rfl⟩:=ry;exact PySem.EqNone.ne_none_str (A3 I q (by simp))
  |_=>exact absurd (show false=true from hs) jt_
 |bl i=>
  cases rx
  cases y with
  |non=>cases ry;exact PySem.EqNone.ne_bool_none (A3 I q (by simp))
  |bl j=>cases ry;exact ne_bool (A3 I q (jH_ not S0))
  |str j=>obtain⟨t',rfl⟩:=ry;exact PySem.EqMixed.ne_bool_str (A3 I q (by simp))
  |_=>exact absurd (show false=true from hs) jt_
 |int i=>
  obtain⟨t,rfl⟩:=rx
  cases y with
  |non=>cases ry;exact PySem.EqNone.ne_int_none (A3 I q (by simp))
  |int j=>obtain⟨t',rfl⟩:=ry;exact ne_int (A3 I q (jH_ not O9))
  |str j=>obtain⟨t',rfl⟩:=ry;exact PySem.EqMixed.ne_int_str (A3 I q (by simp))
  |_=>exact absurd (show false=true from hs) jt_
 |str i=>
  obtain⟨t,rfl⟩:=rx
  cases y with
  |non=>cases ry;exact PySem.EqNone.ne_str_none (A3 I q (by simp))
  |bl j=>cases ry;exact PySem.EqMixed.ne_str_bool (A3 I q (by simp))
  |int j=>obtain⟨t',rfl⟩:=ry;exact PySem.EqMixed.ne_str_int (A3 I q (by simp))
  |str j=>obtain⟨t',rfl⟩:=ry;exact ne_str (A3 I q (jH_ not Pb))
  |_=>exact absurd (show false=true from hs) jt_
 |byt i=>
  obtain⟨t,rfl⟩:=rx
  cases y with
  |byt j=>obtain⟨t',rfl⟩:=ry;exact PySem.W.ne_bytes (A3 I q (jH_ not Pe))
  |_=>exact absurd (show false=true from hs) jt_
 |_=>cases y<;>exact absurd (show false=true from hs) jt_
def G0:OpR X (compareOp .Lt) (rI0 fun i j=>.bl (decide (i<j))):=opB0 fun _ _ _ _ _ _ _ q=>lt_int q
def VE:OpR X (compareOp .LtE) (rI0 fun i j=>.bl (decide (i<=j))):=opB0 fun _ _ _ _ _ _ _ q=>le_int q
def Um:OpR X (compareOp .Gt) (rI0 fun i j=>.bl (decide (j<i))):=opB0 fun _ _ _ _ _ _ _ q=>gt_int q
def W7:OpR X (compareOp .GtE) (rI0 fun i j=>.bl (decide (j<=i))):=opB0 fun _ _ _ _ _ _ _ q=>ge_int q
def VF:OpR X (compareOp .Is) (fun x y H Q=>y=.non/\Q (.bl (decide (x=.non))) H):=by
 intro af s σ H x y v u Q I rx ry h
 obtain⟨rfl,q⟩:=h
 cases ry
 refine is_none_gen (A3 I q ?_)
 cases x<;>first
  | (cases rx;rfl)
  | (obtain⟨t,rfl⟩:=rx;rfl)
def AE (b:Expr)  (h:op ≠ .In:=by decide)(h2:op ≠ .NotIn:=by decide):behindInMarks op b=false:=by
 have e1:(op==CmpOp.In)=false:=by cases op<;>first|rfl|exact absurd rfl h
 have e2:(op==CmpOp.NotIn)=false:=by cases op<;>first|rfl|exact absurd rfl h2
 cases b<;>simp[behindInMarks,e1,e2]
def Ma   (ho:OpR X (compareOp op) r)(ha:PE X a ta)(hb:PE X b tb)(hm:behindInMarks op b=false):PE X (.Compare a [op] [b] pos) (tOp r ta tb):=by
 intro af s σ H Q I h
 exact wpAny_Compare1 (binT ha hb I h fun v u s2 x y H2 I2 rx ry q=>ho af s2 σ H2 x y v u Q I2 rx ry q) hm
noncomputable def RI (t:TE):TT:=fun σ H Q=>t σ H fun x H'=>∃k,x=.bl k/\Q k H'
def Ar   (ho:OpR X (compareOp op) r)(ha:PE X a ta)(hb:PE X b tb)(hm:behindInMarks op b=false):PT X (.Compare a [op] [b] pos) (RI (tOp r ta tb)):=by
 intro af s σ H Q I h
 refine wpAny_isTrue_Compare1 (thn (ha af s σ H _ I h) fun v s1 ⟨x,H1,I1,r1,q1⟩=>thn (hb af s1 σ H1 _ I1 q1) fun u s2 ⟨y,H2,I2,r2,q2⟩ =>
  thn (ho af s2 σ H2 x y v u _ I2 r1 r2 q2) fun c s3 ⟨z,H3,I3,r3,k,e,q3⟩=>?_) hm
 subst e
 cases r3
 exact xx_ ⟨H3,I3,q3⟩
noncomputable def S1 (r r':R2)(ta tb tc:TE):TE:=fun σ H Q=>ta σ H fun x H1=>tb σ H1 fun y H2=>r x y H2 fun z H3=>∃k,z=.bl k /\
 (if k=true then tc σ H3 fun w' H4=>r' y w' H4 Q else Q (.bl false) H3)
def RJ   (ho:OpR X (compareOp op) r)(gI:OpR X (compareOp op') r')(ha:PE X a ta)(hb:PE X b tb)(hc:PE X c tc)
  (hm:lastMarks [op,op'] [b,c]=false:=by with_unfolding_all rfl):PE X (.Compare a [op,op'] [b,c] pos) (S1 r r' ta tb tc):=by
 intro af s σ H Q I h
 refine Compare_chain (thn (ha af s σ H _ I h) fun v s1 ⟨x,H1,I1,r1,q1⟩=>chain_link (thn (hb af s1 σ H1 _ I1 q1) fun u s2 ⟨y,H2,I2,r2,q2⟩ =>
  thn (ho af s2 σ H2 x y v u _ I2 r1 r2 q2) fun d s3 ⟨z,H3,I3,r3,k,e,q3⟩=>?_)) hm
 subst e
 cases r3
 refine xx_ ?_
 cases k with
 |false=>exact ite_ff ⟨.bl false,H3,I3,rfl,q3⟩
 |true=>exact ite_tt (chain_last (thn (hc af s3 σ H3 _ I3 q3) fun w' s4 ⟨z',H4,I4,r4,q4⟩=>gI af s4 σ H4 y z' u w' Q I4 r2 r4 q4))
def KW:(sizeLine:Nat)<2 ^ 63:=by rw[sizeLine_eq];decide
def vals1   (r:Vals [x] us):∃u,us=[u]/\RelV x u:=by
 cases r with
 |cons r1 r2=>cases r2;exact⟨_,rfl,r1⟩
def vals2   (r:Vals [x,y] us):∃u w',us=[u,w']/\RelV x u/\RelV y w':=by
 cases r with
 |cons r1 r2=>
  cases r2 with
  |cons r3 r4=>cases r4;exact⟨_,_,rfl,r1,r3⟩
def Pf (hc:X.calm=true):Cg X (.builtin "max") (fun xs H Q=>∃i j,xs=[.int i,.int j]/\Q (.int (if j > i then j else i)) H):=by
 intro af s σ H xs us Q I r h
 obtain⟨i,j,rfl,q⟩:=h
 obtain⟨u,w',rfl,⟨t,rfl⟩,⟨t',rfl⟩⟩:=vals2 r
 refine max_two_ints (I.ok.hd hc) fun h' tk k=>⟨_,H,I.kept k,?_,q⟩
 by_cases hj:j > i
 ·rw[if_pos hj,if_pos hj];exact⟨_,rfl⟩
 ·rw[if_neg hj,if_neg hj];exact⟨_,rfl⟩
def Pg (hc:X.calm=true):Cg X (.builtin "min") (fun xs H Q=>∃i j,xs=[.int i,.int j]/\Q (.int (if j<i then j else i)) H):=by
 intro af s σ H xs us Q I r h
 obtain⟨i,j,rfl,q⟩:=h
 obtain⟨u,w',rfl,⟨t,rfl⟩,⟨t',rfl⟩⟩:=vals2 r
 refine min_two_ints (I.ok.hd hc) fun h' tk k=>⟨_,H,I.kept k,?_,q⟩
 by_cases hj:j<i
 ·rw[if_pos hj,if_pos hj];exact⟨_,rfl⟩
 ·rw[if_neg hj,if_neg hj];exact⟨_,rfl⟩
end
end L2
namespace L2
open PySem PySem.Spec PyProof.Rows
structure ObjM (h:Heap)(x dx C:Addr)(mA:Str->α5):Prop where
 obj:h.get? x=some (PySem.W.instObj C dx)
 ns:h.Ns1 dx mA
 ne:dx≠x
def Ph {h:Heap}{dx:Addr}{mA:Str->α5}(n:h.Ns1 dx mA):∃od,h.get? dx=some od/\∀name,PySem.W.lookIn name od=some (mA name):=by
 obtain⟨o,es,ep,ho,hd,hk,_,hm⟩:=n
 refine⟨o,ho,fun name=>?_⟩
 have e:=hm name
 unfold nsFind findBy at e
 rw[<-Array.find?_toList]at e
 unfold PySem.W.lookIn
 rw[hd]
 dsimp only
 split
 ·rename_i y q
  rw[q]at e
  exact jH_ some e
 ·rename_i q
  rw[q]at e
  have a:es.toList.any (·.refKey)=false:=by
   rw[List.any_eq_false]
   intro y hy
   obtain⟨z,t,bx⟩:=hk y (Array.mem_toList_iff.mp hy)
   simp[DictEntry.refKey,bx]
  have a':¬ es.toList.any (·.refKey)=true:=by rw[a];exact jt_
  rw[if_neg a']
  exact jH_ some e
def ObjM.look    (I:ObjM h x dx C mA):∃od,PySem.W.InstAt h x (PySem.W.instObj C dx) C (some od)/\∀name,PySem.W.lookIn name od=some (mA name):=
 let ⟨od,ho,hl⟩:=Ph I.ns
 ⟨od,⟨I.obj,rfl,rfl,ho⟩,hl⟩
def RelO.some_of   (r:RelO (some v) o):∃u,o=some u/\RelV v u:=by
 cases o with
 |none=>exact (show False from r).elim
 |some u=>exact⟨u,rfl,r⟩
section
variable {P:Program} {w:World} {H H':Hp} {h h':Heap} {a C dx:Addr} {fs fs':List (Str×V)}
def Uo (hok:HOk P w H h)(e:H a=some (.ins C dx fs)):∃mA,ObjM h a dx C mA/\(∀f,RelO (fs.lookup f) (mA f))/\PySem.Within mA (fs.map (·.1))/\fs.length<=1000/\H dx=some (.own a):=by
 obtain⟨d,z,ne,ob,mA,n,r,q⟩:=(show Bk P w H h a (.ins C dx fs) from hok a _ e)
 exact⟨mA,⟨ob,n,ne⟩,r,q,z,d⟩
end
structure Cls (K:α3)(C:Addr):Prop where
 pg:PySem.W.plainGet K C Str.empty=true
 hd:PySem.W.hasDictIn K C=true
 po:PySem.W.plainOver K C=true
 sa:PySem.W.findIn K (.ref C) "__setattr__"=some (some (.builtin "object.__setattr__"))
def Cls.get {K:α3}  (c:Cls K C)(f:Str):PySem.W.plainGet K C f=true:=c.pg
section
variable {X:Cx} {af:α7} {σ:St} {H:Hp} {s:Shared} {A:Around} {E:Value->Shared->Prop} {Q:Value->Shared->Prop} {c:Value} {b:Bool}
inductive TyOf (K:α3)(H:Hp):V->Value->Prop where
 | non:TyOf K H .non (.type "NoneType")
 | bl (x:Bool):TyOf K H (.bl x) (.type "bool")
 | int (i:Int):TyOf K H (.int i) (.type "int")
 | str (x:Str):TyOf K H (.str x) (.type "str")
 | flt (x:UInt64):TyOf K H (.flt x) (.type "float")
 | lst {a:Addr} {xs:List V} (e:H a=some (.lst xs)):TyOf K H (.ref a) (.type "list")
 | frz {a:Addr} {o:Obj} {xs:List V} (e:H a=some (.frz o (.lst xs))):TyOf K H (.ref a) (.type "list")
 | tup {a:Addr} {xs:List V} (e:H a=some (.tup xs)):TyOf K H (.ref a) (.type "tuple")
 | dK {a:Addr} {kvs:List (Key×V)} (e:H a=some (.dK kvs)):TyOf K H (.ref a) (.type "dict")
 | dT {a:Addr} {kvs:List (List Key×V)} (e:H a=some (.dT kvs)):TyOf K H (.ref a) (.type "dict")
 | ins {a C dx:Addr} {fs:List (Str×V)} (e:H a=some (.ins C dx fs)) (cl:Cls K C) (ha:PySem.W.findIn K (.ref C) "__class__"=some (some (.builtin "object.__class__")))
   (hn:PySem.W.specialIn K (.builtin "object.__class__") "__get__"=some (some (.builtin "getset_descriptor.__get__"))) (gJ:PySem.W.takesIn K (.builtin "object.__class__")=some true)
   (hm:PySem.W.mroIn K C (.type "object")=some true):TyOf K H (.ref a) (.ref C)
def Pj   (I:Inv X af σ H s)(rx:RelV x u)(ty:TyOf X.K H x t)(e:kitOne X.K t c=some b)(h:∀tk,Q (.bool b) {s with toks:=tk}):
  wpAny (model X.prog X.w) A (call (.builtin "isinstance") [u,c]) Q E s:=by
 cases ty with
 |non=>cases (show u=Value.none from rx);exact qq_ PySem.W.kitx_none I.kIn True.intro e (fun z=>nomatch z) h
 |bl y=>cases (show u=Value.bool y from rx);exact qq_ PySem.W.kitx_bool I.kIn True.intro e (fun z=>nomatch z) h
 |int i=>obtain⟨t,q⟩:=(show ∃t,u=Value.int i t from rx);cases q;exact qq_ PySem.W.kitx_int I.kIn True.intro e (fun z=>nomatch z) h
 |str y=>obtain⟨t,q⟩:=(show ∃t,u=Value.str y t from rx);cases q;exact qq_ PySem.W.kitx_str I.kIn True.intro e (fun z=>nomatch z) h
 |flt y=>obtain⟨t,q⟩:=(show ∃t,u=Value.float y t from rx);cases q;exact qq_ PySem.W.kitx_float I.kIn True.intro e (fun z=>nomatch z) h
 |@lst a xs ea=>
  cases (show u=Value.ref a from rx)
  obtain⟨_,_,n,_,h1⟩:=(show Bk X.prog X.w H s.heap a (.lst xs) from I.hok a _ ea)
  exact qq_ zU_ I.kIn ⟨_,h1,rfl⟩ e (fun z=>nomatch z) h
 |@frz a ob xs ea=>
  cases (show u=Value.ref a from rx)
  obtain⟨_,_,_,n,_,h1⟩:=(show Bk X.prog X.w H s.heap a (.frz ob (.lst xs)) from I.hok a _ ea)
  exact qq_ zU_ I.kIn ⟨_,h1,rfl⟩ e (fun z=>nomatch z) h
 |@tup a xs ea=>
  cases (show u=Value.ref a from rx)
  obtain⟨_,_,_,p⟩:=(show Bk X.prog X.w H s.heap a (.tup xs) from I.hok a _ ea)
  obtain⟨o,h1,h2,_⟩:=p
  exact qq_ PySem.W.kitx_tuple I.kIn ⟨o,h1,h2⟩ e (fun z=>nomatch z) h
 |@dK a kvs ea=>
  cases (show u=Value.ref a from rx)
  obtain⟨_,_,vs,_,p⟩:=(show Bk X.prog X.w H s.heap a (.dK kvs) from I.hok a _ ea)
  obtain⟨o,es,ep,h1,h2,_⟩:=p
  exact qq_ PySem.W.kitx_dict I.kIn ⟨o,h1,h2.1⟩ e (fun z=>nomatch z) h
 |@dT a kvs ea=>
  cases (show u=Value.ref a from rx)
  obtain⟨_,_,xs,_,o,es,ep,h1,h2,_⟩:=(show Bk X.prog X.w H s.heap a (.dT kvs) from I.hok a _ ea)
  exact qq_ PySem.W.kitx_dict I.kIn ⟨o,h1,h2.1⟩ e (fun z=>nomatch z) h
 |@ins a C dx fs ea cl ha hn gJ hm=>
  cases (show u=Value.ref a from rx)
  obtain⟨mA,O,_⟩:=Uo I.hok ea
  obtain⟨od,J,_⟩:=O.look
  exact qq_ (PySem.W.kitx_own (cl.get _) cl.hd ha hn gJ hm) I.kIn J e (fun z=>nomatch z) h
end
end L2
namespace L2
open PySem PySem.Spec PyProof.Rows
structure Room (k:Nat)(A:Around):Prop where
 hd:A.handled=none
 dp:A.depth+3*k+5<recursionLimit
 un:A.units+16*k+200<cLine
def Room.mono   (r:Room k A)(h:j<=k):Room j A:=⟨r.hd,by have:=r.dp;lia,by have:=r.un;lia⟩
def Room.deeper   (r:Room (k+1) A)(env:Env):Room k (A.deeper env):=
 ⟨r.hd,by have:=r.dp;show A.depth+1+3*k+5<_;lia,by have:=r.un;show A.units+3+16*k+200<_;lia⟩
def Room.in1   (r:Room (k+1) A):Room k A.in1:=
 ⟨r.hd,by have:=r.dp;show A.depth+3*k+5<_;lia,by have:=r.un;show A.units+1+16*k+200<_;lia⟩
def Room.depth   (r:Room k A):A.depth<recursionLimit:=by have:=r.dp;lia
def Room.units   (r:Room k A):A.units+64<cLine:=by have:=r.un;lia
noncomputable def tNil:TA:=fun _ H Q=>Q [] H
noncomputable def VG (ta:TE)(tr:TA):TA:=fun σ H Q=>ta σ H fun x H1=>tr σ H1 fun xs H2=>Q (x::xs) H2
section
variable {X:Cx} {e:Expr} {es:List Expr} {te:TE} {t:TA} {pos:Pos}
def Ae:PA X [] tNil:=fun _ _ _ _ H Q I h=>xW_ ⟨[],H,I,.nil,h⟩
def Aa (ha:PE X e te)(hr:PA X es t)(hs:starEach (e::es) X.env=(false,eval e X.env)::starEach es X.env:=by rfl):PA X (e::es) (VG te t):=by
 intro pos af s σ H Q I h
 rw[hs]
 show wpAny _ _ (spliced ((false,eval e X.env)::backTo pos (starEach es X.env))) _ _ s
 refine xq_ (thn (ha af s σ H _ I h) fun u s1 ⟨x,H1,I1,r1,q1⟩=>?_)
 exact thn (hr pos af s1 σ H1 _ I1 q1) fun us s2 ⟨xs,H2,I2,r2,q2⟩=>⟨x::xs,H2,I2,.cons r1 r2,q2⟩
noncomputable def tTup (t:TA):TE:=fun σ H Q=>t σ H fun xs H1=>xs.length<=sizeLine/\∀p,H1 p=none->Q (.ref p) (upd H1 p (.tup xs))
noncomputable def tLst (t:TA):TE:=fun σ H Q=>t σ H fun xs H1=>xs.length<=sizeLine/\∀p,H1 p=none->Q (.ref p) (upd H1 p (.lst xs))
def BN {x1}(h:PA X es t):PE X (.Tuple es x1 pos) (tTup t):=by
 intro af s σ H Q I hq
 refine wpAny_Tuple_spliced (thn (h pos af s σ H _ I hq) fun us s1 ⟨xs,H1,I1,r,z,q⟩=>⟨by rw[<-r.length];exact z,?_⟩)
 have hf:H1 s1.heap.objs.size=none:=I1.hok.fresh (jg_ _)
 refine⟨.ref s1.heap.objs.size,upd H1 s1.heap.objs.size (.tup xs),I1.laid (t':=s1.toks) (fun b u e=>jo_ _ e) (jg_ _) ?_,rfl,q _ hf⟩
 exact⟨z,us,r,⟨_,jF_ _ rfl,rfl,_,rfl⟩⟩
def Bu (h:PA X es t):PE X (.List es pos) (tLst t):=by
 intro af s σ H Q I hq
 refine wpAny_List_spliced (thn (h pos af s σ H _ I hq) fun us s1 ⟨xs,H1,I1,r,z,q⟩=>⟨by rw[<-r.length];exact z,?_⟩)
 have hf:H1 s1.heap.objs.size=none:=I1.hok.fresh (jg_ _)
 refine⟨.ref s1.heap.objs.size,upd H1 s1.heap.objs.size (.lst xs),I1.laid (t':=s1.toks) (fun b u e=>jo_ _ e) (jg_ _) ?_,rfl,q _ hf⟩
 exact⟨z,us,0,r,jF_ _ rfl⟩
end
noncomputable abbrev Sp:=List V->Hp->VK->XK->Prop
noncomputable abbrev CXT:=List Env->Hp->Shared->XK->Value->Shared->Prop
structure Env0 (P:Program)(w:World)(K:α3)(mg:Str->α5)(base:Heap)(A:Around)(outer:List Env)(s:Shared)(H:Hp):Prop where
 frames:A.frames=some outer
 mod:Mod K mg base
 bs:∀b o,base.get? b=some o->s.heap.get? b=some o/\H b=none
 bsz:base.objs.size<=s.heap.objs.size
 funs:s.heap.FunFrames base outer
 frf:∀b∈frs outer,H b=none
 hok:HOk P w H s.heap
 bare:AllBare s.gens
noncomputable def CE (outer:List Env)(P:Program)(w:World)(H:Hp)(s:Shared)(Q:VK)(u:Value)(s':Shared):Prop:=
 ∃v H',s'.os=s.os/\AllBare s'.gens/\Un (frs outer) [] H H' s.heap s'.heap/\HOk P w H' s'.heap/\RelV v u/\Q v H'
noncomputable def CR (CX:CXT)(outer:List Env)(P:Program)(w:World)(H:Hp)(s:Shared)(Q:VK)(E:XK)(r:Result)(s':Shared):Prop:=
 match r with
 |.ok (.ret u)=>CE outer P w H s Q u s'
 |.ok _=>False
 |.error e=>CX outer H s E e s'
structure FnOk (P:Program)(w:World)(K:α3)(mg:Str->α5)(base:Heap)(CX:CXT)(k:Nat)(f:Addr)(fd:α6)(ps:List Str)(sp:Sp):Prop where
 len:∀vs H Q E,sp vs H Q E->vs.length=ps.length
 run:∀(A:Around) (outer:List Env) (s:Shared) (H:Hp) (args:Args) (us:List Value) (vs:List V) (Q:VK) (E:XK),Room k A->Env0 P w K mg base A outer s H->BindsTo s fd args (ps.zip us)->Vals vs us->sp vs H Q E ->
  codeAny (model P w) A (.call (.ref f) args) (CR CX outer P w H s Q E) s
def Env0.in1   {K:α3}       (e:Env0 P w K mg base A outer s H):
  Env0 P w K mg base A.in1 outer s H:=⟨e.frames,e.mod,e.bs,e.bsz,e.funs,e.frf,e.hok,e.bare⟩
section
variable {X:Cx} {af:α7} {σ:St} {H:Hp} {s s':Shared}
def Inv.env0 (I:Inv X af σ H s):Env0 X.prog X.w X.K X.mg X.base X.A X.stack s H:=
 ⟨I.ok.frames,I.ok.mod,I.bs,qk_ I.ok.bsz I.sz,I.stack,I.stkFree,I.hok,I.bare⟩
def Inv.after   (I:Inv X af σ H s)(h:CE X.stack X.prog X.w H s Q u s'):EP X af σ Q u s':=by
 obtain⟨v,H',os,bare,un,hok,r,q⟩:=h
 obtain⟨hh,g,d,t,os'⟩:=s'
 obtain rfl:os'=s.os:=os
 exact⟨v,H',I.call (h':=hh) (g':=g) (d':=d) (t':=t) (ch:=[]) un hok bare (fun b z=>absurd z (by simp)),r,q⟩
end
noncomputable def Uq (sp:Sp)(gr:List V)(E:XK)(t:TA):TE:=fun σ H Q=>t σ H fun vs H1=>sp (vs++gr) H1 Q E
noncomputable def Ob (K:α3)(fd:α6)(ps:List Str)(ds:List Value):Prop:=
 ∀(s:Shared) (us:List Value),K.In s.heap->(us++ds).length=ps.length->BindsTo s fd ⟨us,[]⟩ (ps.zip (us++ds))
def Ob.all {K:α3}   (h:∀us:List Value,us.length=ps.length->bindArgs fd ⟨us,[]⟩=pure (ps.zip us)):Ob K fd ps []:=fun s us _ hl=>by
 rw[qg_]at hl ⊢
 exact .of_eq (h us hl)
noncomputable def Nc (CX:CXT)(X:Cx)(E:XK):Prop:=∀(af:α7) (σ:St) (H:Hp) (s:Shared) (e:Value) (s':Shared),Inv X af σ H s->CX X.stack H s E e s'->X.xe e s'
section
variable {X:Cx} {CX:CXT} {k:Nat} {f C:Addr} {fd:α6} {ps:List Str} {sp:Sp} {gr:List V} {ds:List Value} {E:XK} {x m:Str} {p pos bq:Pos} {e o:Expr} {es:List Expr} {ta:TE} {t:TA}
def VH        (F:FnOk X.prog X.w X.K X.mg X.base CX k f fd ps sp)(hr:Room k X.A)(hb:Ob X.K fd ps ds)(hd:Vals gr ds)(hx:Nc CX X E)
  (I:Inv X af σ H s) (r:Vals vs us) (h:sp (vs++gr) H Q E):wpAny (model X.prog X.w) X.A (call (.ref f) us) (EP X af σ Q) X.xe s:=by
 have r2:Vals (vs++gr) (us++ds):=r.append hd
 have hl:(us++ds).length=ps.length:=by rw[<-r2.length];exact F.len _ _ _ _ h
 refine wpAny_call (codeAny_mono (F.run X.A X.stack s H ⟨us,[]⟩ (us++ds) (vs++gr) Q E hr I.env0 (hb s us I.kIn hl) r2 h) fun r s' hq=>?_)
 cases r with
 |error e=>exact hx af σ H s e s' I hq
 |ok fl=>
  cases fl with
  |ret u=>exact I.after hq
  |next=>exact False.elim hq
  |brk=>exact False.elim hq
  |cont=>exact False.elim hq
def Ur (F:FnOk X.prog X.w X.K X.mg X.base CX k f fd ps sp)(hr:Room k X.A)(hg:Gl X x)(hm:X.mg x=some (.ref f))(hk:keepIn X.K (.ref f)=true)(hb:Ob X.K fd ps ds)(hd:Vals gr ds)(hx:Nc CX X E)
  (ha:PA X (e::es) t) (i7:(x==("__debug__" : Str))=false:=by decide) (he:starEach (e::es) X.env=(false,eval e X.env)::starEach es X.env:=by rfl) (gu:(backTo pos (starEach es X.env)).any (·.1)=false:=by rfl):
  PE X (.Call (.Name x p) (e::es) [] pos) (Uq sp gr E t):=by
 intro af s σ H Q I h
 refine xr_ (Uj I hg hm ?_ i7)
 refine PySem.W.callWith_K (h₀:=X.base) I.ok.mod.kin hk (thn (ha pos af s σ H _ I h) fun us s1 ⟨vs,H1,I1,r,q⟩=>⟨I1.kIn,?_⟩) he gu
 exact VH F hr hb hd hx I1 r q
end
structure FnScope (N P:List Str)(sc:Scope):Prop where
 kind:sc.kind=.function
 co:sc.isCoroutine=false
 gen:sc.isGenerator=false
 nd:N.Nodup
 pre:N.take P.length=P
 par:∀x∈P,sc.names.lookup x=some .local\/sc.names.lookup x=some .cell
 nofree:∀y∈sc.names,y.2 ≠ .free
def KY {kindOf:Str->Option NameKind}{x:Str}:∀{binds:List (Str×Value)} {m:Str->α5},(∀v,(x,v)∉binds)->bindL kindOf binds m x=m x
 |[],_,_=>rfl
 | (n,v)::r,m,h=>by
  unfold bindL
  rw[KY fun w hw=>h w (jk_ _ hw)]
  split
  ·have:x≠n:=by rintro rfl;exact h v jl_
   simp[this]
  ·rfl
def KZ {kindOf:Str->Option NameKind}{x:Str}:∀{binds:List (Str×Value)} {m:Str->α5},(∀v,(x,v)∉binds)->bindC kindOf binds m x=m x
 |[],_,_=>rfl
 | (n,v)::r,m,h=>by
  unfold bindC
  rw[KZ fun w hw=>h w (jk_ _ hw)]
  split
  ·rfl
  ·have:x≠n:=by rintro rfl;exact h v jl_
   simp[this]
def K0 {kindOf:Str->Option NameKind}{x:Str}{v:Value}:∀{P:List Str} {vs:List Value} {i:Nat} {m:Str->α5},P.Nodup->P[i]?=some x->vs[i]?=some v->kindOf x=some .local ->
  bindL kindOf (P.zip vs) m x=some v
 |[],_,_,_,_,h,_,_=>by simp at h
 |_::_,[],_,_,_,_,h,_=>by simp at h
 |p::P,w::vs,0,m,nd,h1,h2,hk=>by
  simp at h1 h2;subst h1;subst h2
  show bindL kindOf ((p,w)::P.zip vs) m p=_
  unfold bindL
  rw[KY fun v hv=>(qC_.mp nd).1 (xz_ hv).1,if_pos hk]
  simp
 |p::P,w::vs,i+1,m,nd,h1,h2,hk=>by
  show bindL kindOf ((p,w)::P.zip vs) m x=_
  unfold bindL
  exact K0 (i:=i) (qC_.mp nd).2 (by simpa using h1) (by simpa using h2) hk
def K1 {kindOf:Str->Option NameKind}{x:Str}{v:Value}:∀{P:List Str} {vs:List Value} {i:Nat} {m:Str->α5},P.Nodup->P[i]?=some x->vs[i]?=some v->kindOf x≠some .local ->
  bindC kindOf (P.zip vs) m x=some v
 |[],_,_,_,_,h,_,_=>by simp at h
 |_::_,[],_,_,_,_,h,_=>by simp at h
 |p::P,w::vs,0,m,nd,h1,h2,hk=>by
  simp at h1 h2;subst h1;subst h2
  show bindC kindOf ((p,w)::P.zip vs) m p=_
  unfold bindC
  rw[KZ fun v hv=>(qC_.mp nd).1 (xz_ hv).1,if_neg hk]
  simp
 |p::P,w::vs,i+1,m,nd,h1,h2,hk=>by
  show bindC kindOf ((p,w)::P.zip vs) m x=_
  unfold bindC
  exact K1 (i:=i) (qC_.mp nd).2 (by simpa using h1) (by simpa using h2) hk
noncomputable def start (N:List Str)(vs:List V):St:=vs.map some++List.replicate (N.length-vs.length) none
noncomputable def cxOf (CX:CXT)(P:Program)(w:World)(K:α3)(mg:Str->α5)(base:Heap)(N:List Str)(qual:Str)(scope:Scope)(f:Addr)(cd:Value)(A:Around)(outer:List Env)(s:Shared)(H:Hp)(E:XK):Cx where
 prog:=P
 w:=w
 K:=K
 mg:=mg
 base:=base
 A:=A.deeper (envOfC qual scope s.heap.objs.size f cd)
 N:=N
 s₀:=s
 H₀:=H
 env:=envOfC qual scope s.heap.objs.size f cd
 outer:=outer
 stack:=envOfC qual scope s.heap.objs.size f cd::outer
 ex:=[]
 calm:=true
 fn:=fun _=>true
 pn:=[]
 xe:=fun e s'=>wpAny (model P w) (A.deeper (envOfC qual scope s.heap.objs.size f cd)) (leaving (envOfC qual scope s.heap.objs.size f cd) e) (fun _ gK=>CX outer H s E e gK) (fun e' gK=>CX outer H s E e' gK) s'
def Nd {sc:Scope}{n:Nat}{x:Str}(h:sc.names.lookup x=some .cell):∃c,(cellsFrom n sc.names []).lookup x=some c:=by
 have q:=xN_ sc.names n [] (.inl h)
 exact Option.isSome_iff_exists.mp q
def K2    {K:α3}
  (S:FnScope N ps scope) (hd:A.handled=none) (e0:Env0 P w K mg base A outer s H) (hl:vs.length=ps.length) (r:Vals vs us)
  (x:InCallC s s.heap.objs.size (bindL (envOfC qual scope s.heap.objs.size f cd).kindOf (ps.zip us) fun _=>none) (cellsFrom (s.heap.objs.size+1) scope.names []) (bindC (envOfC qual scope s.heap.objs.size f cd).kindOf (ps.zip us) fun _=>none) s1):
  Inv (cxOf CX P w K mg base N qual scope f cd A outer s H E) [] (start N vs) H s1:=by
 have gu:ps.length<=N.length:=by have:=jH_ List.length S.pre;rw[jw_]at this;lia
 obtain⟨h1,tk,rfl,hk⟩:=x.done
 have n5:∀b:Addr,b∉(cxOf CX P w K mg base N qual scope f cd A outer s H E).ex:=fun b z=>absurd (show b∈([]:List Addr) from z) (by simp)
 refine⟨⟨e0.mod,S.kind,rfl,rfl,jg_ _,fun y z c h1 h2=>?_,fun y hy=>?_,fun y c _ h=>?_,fun _=>hd,Around.frames_deeper e0.frames,.inr ⟨rfl,rfl⟩,fun b z=>absurd z (n5 b),e0.bs,e0.bsz,fun b _ _=>n5 b,fun b z=>absurd z (n5 b),e0.funs,e0.frf⟩,
  rfl,e0.bare,Un.kept hk,⟨_,x.toInCall.ns,fun i y v h1 h2 h3=>?_⟩,fun y c h=>⟨_,x.cell y c h⟩,e0.hok.fresh (jg_ _),fun y c h=>?_,fun p hp=>absurd (show p∈([]:α7) from hp) (by simp),e0.hok.kept hk,?_⟩
 ·exact name_of_addr x.apart (qh_ h1) (qh_ h2)
 ·have hy:scope.names.lookup y=some .cell\/scope.names.lookup y=some .free:=hy
  rcases hy with hy|hy
  ·exact Nd hy
  ·exact absurd rfl (S.nofree _ (qh_ hy))
 ·exact q1_ (x.above y c (qh_ h))
 ·have hi:i<vs.length:=by
   unfold start at h2
   by_cases hi:i<vs.length
   ·exact hi
   ·rw[jp_ (by simpa using hi)]at h2
    rw[List.getElem?_replicate]at h2
    split at h2<;>cases h2
  have ha:vs[i]?=some v:=by
   unfold start at h2
   rw[ji_ (by simpa using hi),jd_]at h2
   cases e:vs[i]? with
   |none=>rw[e]at h2;cases h2
   |some a=>rw[e]at h2;cases h2;rfl
  obtain⟨u,hu,rv⟩:=r.get ha
  have hp:ps[i]?=some y:=by
   rw[<-S.pre,xA_ s!""];exact h1
  have ndP:ps.Nodup:=by rw[<-S.pre];exact S.nd.sublist (List.take_sublist _ _)
  refine⟨u,rv,?_⟩
  rcases S.par y (jc_ hp) with k|k
  ·exact .inl ⟨k,K0 ndP hp hu k⟩
  ·obtain⟨c,e⟩:=Nd (n:=s.heap.objs.size+1) k
   refine .inr ⟨.inl k,c,e,?_⟩
   have q:=x.cell y c e
   rw[K1 ndP hp hu (by show scope.names.lookup y≠_;rw[k];decide)]at q
   exact q
 ·exact e0.hok.fresh (q1_ (x.above y c (qh_ h)))
 ·unfold start
  show _=N.length
  rw[jn_,ja_,qD_]
  lia
def VI    {K:α3}         {dV kV br pm ay ct oc:Value}
       (lk:K.lookup f=some ⟨oc,od,.func (fnOf name qual params body scope dV kV br pm an ay ct),fC⟩) (bL:codeIn K ay qual=true) (S:FnScope N ps scope)
    (len:∀vs H Q E,sp vs H Q E->vs.length=ps.length)
    (cX:∀(A:Around) (outer:List Env) (s:Shared) (H:Hp) (vs:List V) (Q:VK) (E:XK),Room k (A.deeper (envOfC qual scope s.heap.objs.size f ay))->sp vs H Q E ->
      ∃t,PSs (cxOf CX P w K mg base N qual scope f ay A outer s H E) body t/\t {nx:=fun _ H'=>Q .non H',rt:=Q} (start N vs) H):
    FnOk P w K mg base CX (k+1) f (fnOf name qual params body scope dV kV br pm an ay ct) ps sp:=by
  refine⟨len,fun A outer s H args us vs Q E hr e0 hb r ee=>?_⟩
  have hl:=len _ _ _ _ ee
  have KX:K.In s.heap:=e0.mod.kin.keeps fun b o e=>(e0.bs b o e).1
  have n6:s.heap.NoLimit:=e0.mod.nolimit.keeps fun b o e=>(e0.bs b o e).1
  have fD:∀y∈ps.zip us,scope.names.lookup y.1=some .local\/(scope.names.lookup y.1=some .cell/\((cellsFrom (s.heap.objs.size+1) scope.names []).lookup y.1).isSome=true):=fun ⟨n,v⟩ hy=>by
    rcases S.par n (xz_ hy).1 with q|q
    . exact .inl q
    . exact .inr ⟨q,xN_ _ _ _ (.inl q)⟩
  refine codeAny_call_function hr.depth (KX _ _ lk) rfl S.co S.gen rfl (PySem.W.codeRec_of KX bL) (hb _ _ _ _ ?_)
  refine wpAny_newFunctionEnv_cells S.kind fD fun env he s1 x=>?_
  subst he
  refine⟨n6.keeps x.toInCall.keep,codeAny_func ?_⟩
  obtain⟨t,ht,hq⟩:=cX A outer s H vs Q E (hr.deeper _) ee
  have I:Inv (cxOf CX P w K mg base N qual scope f ay A outer s H E) [] (start N vs) H s1:=K2 S hr.hd e0 hl r x
  refine qO_ (ht [] s1 (start N vs) H _ I hq) (fun fl s' hs=>?_) fun e s' hs=>hs
  have fin:∀{ag:St} {H':Hp} {v:V} {u:Value},Inv (cxOf CX P w K mg base N qual scope f ay A outer s H E) [] ag H' s'->RelV v u->Q v H'->CE outer P w H s Q u s' :=
    fun {ag H' v u} J rv q=>⟨v,H',J.os,J.bare,J.base,J.hok,rv,q⟩
  cases fl with
  |ret u=>
    obtain⟨v,ag,H',J,rv,q⟩:=hs
    exact fin J rv q
  |next=>
    obtain⟨ag,H',J,q⟩:=hs
    exact fin (v:=V.non) (u:=Value.none) J rfl q
  |brk=>
    obtain⟨_,_,_,q⟩:=hs
    exact False.elim q
  |cont=>
    obtain⟨_,_,_,q⟩:=hs
    exact False.elim q
end L2
namespace L2
open PySem PySem.Spec PyProof.Rows
section
variable {X:Cx} {x:Str} {p pos:Pos} {e:Expr} {es:List Expr} {t:TA} {id T:String} {r:List V->Hp->VK->Prop}
noncomputable def tCB (r:List V->Hp->VK->Prop)(t:TA):TE:=fun σ H Q=>t σ H fun vs H1=>r vs H1 Q
def Ao (hc:Cg X (.builtin id) r)(hg:Gl X x)(hm:X.mg x=none)(hv:bootBuiltins x=some (.builtin id))(ha:PA X (e::es) t)(hn:x ≠ "__name__" := by decide)(i7:(x==("__debug__" : Str))=false:=by decide)
  (he:starEach (e::es) X.env=(false,eval e X.env)::starEach es X.env:=by rfl) (gu:(backTo pos (starEach es X.env)).any (·.1)=false:=by rfl):PE X (.Call (.Name x p) (e::es) [] pos) (tCB r t):=by
 intro af s σ H Q I h
 refine xr_ (DT I hg hm hv ?_ hn i7)
 exact PyProof.Rows.callWith_builtin1 (thn (ha pos af s σ H _ I h) fun us s1 ⟨vs,H1,I1,r1,q1⟩=>hc af s1 σ H1 vs us Q I1 r1 q1) he gu
def AD (hc:Cg X (.type T) r)(hg:Gl X x)(hm:X.mg x=none)(hv:bootBuiltins x=some (.type T))(ha:PA X (e::es) t)(hn:x ≠ "__name__" := by decide)(i7:(x==("__debug__" : Str))=false:=by decide)
  (he:starEach (e::es) X.env=(false,eval e X.env)::starEach es X.env:=by rfl) (gu:(backTo pos (starEach es X.env)).any (·.1)=false:=by rfl):PE X (.Call (.Name x p) (e::es) [] pos) (tCB r t):=by
 intro af s σ H Q I h
 refine xr_ (DT I hg hm hv ?_ hn i7)
 exact j6_ (thn (ha pos af s σ H _ I h) fun us s1 ⟨vs,H1,I1,r1,q1⟩=>hc af s1 σ H1 vs us Q I1 r1 q1) he gu
end
end L2
namespace HT
open PySem PyProof.Rows
noncomputable def lexLt:α2->α2->Bool
 |[],[]=>false
 |[],_::_=>true
 |_::_,[]=>false
 |x::xs,y::ys=>if x=y then lexLt xs ys else decide (x<y)
def lexLt_cons (x y:Int)(xs ys:α2):lexLt (x::xs) (y::ys)=if x=y then lexLt xs ys else decide (x<y):=rfl
def JU:lexLt [] []=false:=rfl
def IU (y:Int)(ys:α2):lexLt [] (y::ys)=true:=rfl
def IV (x:Int)(xs:α2):lexLt (x::xs) []=false:=rfl
def RK (A:Around)(s:Shared)(a:Int)(t:Tok)(c:Int)(u:Tok):∃e,SeqAt.EqAt A s (.int a t) (.int c u) e/\(e=true↔a=c):=
 ⟨(a==c),SeqAt.EqAt.int_int a t c u,by simp⟩
def RL (A:Around)(s:Shared)(a:Int)(t:Tok)(c:Int)(u:Tok)(prog:Program)(w:World)(E:Value->Shared->Prop)(Q:Value->Shared->Prop)(h:Q (.bool (decide (a<c))) s):
  wpAny (model prog w) A (richCompare .Lt (.int a t) (.int c u)) Q E s:=
 (PyProof.Rows.lt_int h:wpAny (model prog w) A (compareOp .Lt (.int a t) (.int c u)) Q E s)
section
open PySem.SeqAt
open PySem.AutoSeq1 (wpAny_loadPart')
open PySem.MeetsSeq PySem.MeetsSeq2 PySem.MeetsSeq3
def JV (l b:Addr)(items aR:Array Value)(n n2:Nat)(dd iK:Option Addr)(sl gv:Array (α5))(ns ms:α2)(hi:IntsAre items.toList ns)(hj:IntsAre aR.toList ms):
  Meets (Builtin.«tuple.__lt__» ⟨[.ref l,.ref b],[]⟩)
   (fun _ R s=>s.heap.get? l=some {cls:=.type "tuple",dict:=dd,data:=.seq items n,slots:=sl}/\s.heap.get? b=some {cls:=.type "tuple",dict:=iK,data:=.seq aR n2,slots:=gv} /\
    R (.ok (.ret (.bool (lexLt ns ms)))) s):=
 .of_wp fun prog w A R s h=>by
  obtain⟨hp,g,d,tk,os⟩:=s;obtain⟨hl,hb,h⟩:=h
  have f2:=AutoSeq1.sub_tuple_tuple
  have z1:items.size=ns.length:=by rw[<-hi.length];simp
  have z2:aR.size=ms.length:=by rw[<-hj.length];simp
  wp_walk using qr_ hl,qr_ hb,wpAny_forIn_list _ (fun rest b s'=>b.1=none/\s'=⟨hp,g,d,tk,os⟩/\∃(vs ws:List Value) (kJ kK:α2),rest=vs.zip ws /\
   IntsAre vs kJ/\IntsAre ws kK/\kJ.length+aR.size=kK.length+items.size/\R (.ok (.ret (.bool (lexLt kJ kK)))) ⟨hp,g,d,tk,os⟩) _
  case turn=>
   rintro⟨y,x⟩ rest b s' ⟨gL,rfl,vs,ws,kJ,kK,hz,dj,bG,ak,hR⟩
   cases dj with
   |nil=>rw[List.zip_nil_left]at hz;cases hz
   |cons a t hvi' =>
    cases bG with
    |nil=>rw[List.zip_nil_right]at hz;cases hz
    |cons c u hwi' =>
     rw[zP_]at hz
     injection hz with lN hrest
     injection lN with hy hx
     subst hy hx
     rw[lexLt_cons]at hR
     simp only[jS_]at ak
     obtain⟨e,he,ef⟩:=RK A.in1 ⟨hp,g,d,tk,os⟩ a t c u
     refine je_ (he prog w _ _ ?_)
     cases e with
     |true=>
      rw[if_pos (ef.mp rfl)]at hR
      wp_walk
      exact⟨rfl,rfl,_,_,_,_,hrest,hvi',hwi',by lia,hR⟩
     |false=>
      rw[if_neg (fun q=>absurd (ef.mpr q) jt_)]at hR
      have gM:=RL A.in1 ⟨hp,g,d,tk,os⟩ a t c u prog w
      wp_walk using gM
      exact⟨_,rfl,by simpa using hR⟩
  case fin=>
   rintro⟨b1,b2⟩ s' ⟨gL,rfl,vs,ws,kJ,kK,hz,dj,bG,ak,hR⟩
   simp only at gL
   subst gL
   have hv:lexLt kJ kK=decide (items.size<aR.size):=by
    cases dj with
    |nil=>
     cases bG with
     |nil=>
      simp only[qm_]at ak
      rw[JU]
      exact (qf_ s!"").symm
     |cons c u hw=>
      simp only[qm_,jS_]at ak
      rw[IU]
      exact (j8_ s!"").symm
    |cons a t hv=>
     cases bG with
     |nil=>
      simp only[qm_,jS_]at ak
      rw[IV]
      exact (qf_ s!"").symm
     |cons c u hw=>
      rw[zP_]at hz
      cases hz
   rw[hv]at hR
   wp_walk
   exact⟨_,rfl,by simpa [Builtin.Tuple.tupleCompareSizes] using hR⟩
  case h=>
   exact⟨rfl,rfl,items.toList,aR.toList,ns,ms,rfl,hi,hj,by lia,h⟩
end
section
variable {prog:Program} {w:World} {A:Around} {E:Value->Shared->Prop} {s:Shared}
def lt_tupInts     (hl:IsTup s.heap l items)(hb:IsTup s.heap b aR)(hi:IntsAre items.toList ns)(hj:IntsAre aR.toList ms)
  (hu:A.units<cLine) (h:Q (.bool (lexLt ns ms)) s):wpAny (model prog w) A (compareOp .Lt (.ref l) (.ref b)) Q E s:=by
 obtain⟨⟨cls,dd,data,sl⟩,ho,hc,n,hd⟩:=id hl
 obtain⟨⟨cls2,iK,data2,gv⟩,gw,b9,n2,fE⟩:=id hb
 simp only at hc hd b9 fE
 subst hc hd b9 fE
 exact richCompare_meets_room (op:=.Lt) ⟨_,ho,rfl⟩ ⟨_,gw,rfl⟩ PySem.F.slot_tuple_lt PySem.F.entry_tuple_lt (PySem.F.args_tuple_lt_2 _ _) (JV l b items aR n n2 dd iK sl gv ns ms hi hj)
  ⟨ho,gw,show Value.bool (lexLt ns ms)≠Value.notImplemented/\Q (.bool (lexLt ns ms)) s from ⟨(fun x=>nomatch x),h⟩⟩ hu
def cat_tup    (ht:IsTup s.heap t vs.toArray)(hb:IsTup s.heap b ws.toArray)(hv:vs ≠ [])
  (h1:ws=[]->Q (.ref t) s) (h2:ws ≠ []->Q (.ref s.heap.objs.size) {s with heap:=s.heap.push {cls:=.type "tuple",data:=.seq (vs++ws).toArray} })
  (hsz:vs.length+ws.length<=sizeLine):wpAny (model prog w) A (binaryOp .Add (.ref t) (.ref b)) Q E s:=by
 obtain⟨⟨cls,dd,data,sl⟩,ho,hc,n,hd⟩:=id ht
 obtain⟨⟨cls2,iK,data2,gv⟩,gw,b9,n2,fE⟩:=id hb
 simp only at hc hd b9 fE
 subst hc hd b9 fE
 have e:vs.toArray++ws.toArray=(vs++ws).toArray:=by simp
 by_cases hw:ws=[]
 ·exact concat_meets ⟨_,ho,rfl⟩ ⟨_,gw,rfl⟩ noFill_tuple_add seq_tuple_add zk_ zc_ (x9_ _ _)
   (tuple_addW1 t b vs.toArray ws.toArray n n2 dd iK sl gv (by simpa using hv) (by simp[hw])) ⟨ho,gw,h1 hw⟩
 ·refine concat_meets ⟨_,ho,rfl⟩ ⟨_,gw,rfl⟩ noFill_tuple_add seq_tuple_add zk_ zc_ (x9_ _ _)
   (tuple_addW2 t b vs.toArray ws.toArray n n2 dd iK sl gv (by simpa using hv) (by simpa using hw) (by rw[jm_,jm_];exact hsz)) ⟨ho,gw,?_⟩
  rw[e]
  exact h2 hw
noncomputable def sIx (n d:Nat):Option Int->Nat
 |none=>d
 |some v=>if v<0 then (v+(n:Int)).toNat else min v.toNat n
def sIx_none (n d:Nat):sIx n d none=d:=rfl
def sIx_nat (n d k:Nat):sIx n d (some (k:Int))=min k n:=by
 show (if (k:Int)<0 then ((k:Int)+(n:Int)).toNat else min (k:Int).toNat n)=min k n
 rw[if_neg s!"",jh_]
def VJ (n d:Nat)(hd:d<=n)(o:Option Int):sIx n d o<=n:=by
 cases o with
 |none=>exact hd
 |some v=>
  show (if v<0 then (v+(n:Int)).toNat else min v.toNat n)<=n
  by_cases hv:v<0
  ·rw[if_pos hv];lia
  ·rw[if_neg hv];exact Nat.min_le_right _ _
def Pk (v:Int)(n d:Nat):(if v<0 then max (v+(n:Int)) 0 else min v (n:Int))=((sIx n d (some v):Nat):Int):=by
 show (if v<0 then max (v+(n:Int)) 0 else min v (n:Int))=(((if v<0 then (v+(n:Int)).toNat else min v.toNat n):Nat):Int)
 by_cases hv:v<0
 ·simp only[if_pos hv];lia
 ·simp only[if_neg hv];lia
def Oc (lo hi:Option Int)(n:Nat):Builtin.Slice.sliceAdjust lo hi 1 (n:Int)=(((sIx n 0 lo:Nat):Int),((sIx n n hi:Nat):Int)):=by
 have h1:¬ ((1:Int)<0):=by lia
 unfold Builtin.Slice.sliceAdjust
 simp only[h1,q3_]
 refine Prod.ext ?_ ?_
 ·cases lo with
  |none=>rfl
  |some v=>exact Pk v n 0
 ·cases hi with
  |none=>rfl
  |some v=>exact Pk v n n
def Od (i j:Nat):Builtin.Slice.slicePlaces (i:Int) (j:Int) 1=j-i:=by
 unfold Builtin.Slice.slicePlaces
 have h1:(1:Int) > 0:=by lia
 simp only[h1,xR_,Int.ediv_one]
 split<;>lia
def Jk    (p:IsPart v o)(h:Q o s):wpAny (model prog w) A (Builtin.Slice.slicePartIndex v) Q E s:=by
 cases p with
 |none=>exact slicePart_none h
 |int i t=>exact slicePart_int h
def G1 {sl:Addr}{vl vu:Value}{lo hi:Option Int}{n:Nat}{Q:Int×Int×Nat->Shared->Prop}(hs:s.heap.IsSliceOf sl vl vu .none)(pl:IsPart vl lo)(pu:IsPart vu hi)
  (h:Q (((sIx n 0 lo:Nat):Int),1,sIx n n hi-sIx n 0 lo) s):wpAny (model prog w) A (Builtin.Slice.sliceApplied (.ref sl) (pure (n:Int))) Q E s:=by
 obtain⟨os,dk,hcs,mY⟩:=id hs
 unfold Builtin.Slice.sliceApplied Builtin.Slice.sliceFields
 refine je_ (je_ (wpAny_field dk mY (x:=vl) rfl (je_ (wpAny_field dk mY (x:=vu) rfl (je_ (wpAny_field dk mY (x:=.none) rfl (ju_ ?_)))))))
 refine je_ (slicePart_none ?_)
 show wpAny _ _ (if ((1:Int)==0)=true then _ else _) _ _ s
 rw[if_neg (by decide)]
 refine je_ (Jk pl (je_ (Jk pu (je_ (ju_ ?_)))))
 show wpAny _ _ (match Builtin.Slice.sliceAdjust lo hi 1 (n:Int) with|(lo,hi)=>pure (lo,(1:Int),Builtin.Slice.slicePlaces lo hi 1)) _ _ s
 rw[Oc lo hi n]
 show wpAny _ _ (pure (((sIx n 0 lo:Nat):Int),(1:Int),Builtin.Slice.slicePlaces ((sIx n 0 lo:Nat):Int) ((sIx n n hi:Nat):Int) 1)) _ _ s
 rw[Od]
 exact ju_ h
def RM (xs:Array Value)(i k:Nat):((List.range k).filterMap fun (m:Nat)=>xs[((i:Int)+(m:Int)*1).toNat]?).toArray=((xs.toList.drop i).take k).toArray:=by
 have e:(fun (m:Nat)=>xs[((i:Int)+(m:Int)*1).toNat]?)=fun m=>xs[i+m]?:=by
  funext m
  have:((i:Int)+(m:Int)*1).toNat=i+m:=by lia
  rw[this]
 rw[e]
 have:=pick_run xs i k
 rw[List.filterMap_map]at this
 have e2:((fun x=>xs[x]?) ∘ fun x=>i+x)=fun m=>xs[i+m]?:=rfl
 rw[e2]at this
 rw[this]
def getItem_tuple_cut {t sl:Addr}   {lo hi:Option Int}  (ht:IsTup s.heap t items)(hs:s.heap.IsSliceOf sl vl vu .none)(pl:IsPart vl lo)(pu:IsPart vu hi)
  (hw:¬ (sIx items.size 0 lo=0/\sIx items.size items.size hi=items.size))
  (h:Q (.ref s.heap.objs.size) {s with heap:=s.heap.push {cls:=.type "tuple",data:=.seq ((items.toList.drop (sIx items.size 0 lo)).take (sIx items.size items.size hi-sIx items.size 0 lo)).toArray} })
  (hsz:items.size<=sizeLine):wpAny (model prog w) A (getItem (.ref t) (.ref sl)) Q E s:=by
 have dP:sizeOk (.seq ((items.toList.drop (sIx items.size 0 lo)).take (sIx items.size items.size hi-sIx items.size 0 lo)).toArray):=by
  show ((items.toList.drop (sIx items.size 0 lo)).take (sIx items.size items.size hi-sIx items.size 0 lo)).toArray.size<=sizeLine
  rw[jm_,jw_,xc_,j3_]
  lia
 have hj:sIx items.size items.size hi<=items.size:=VJ _ _ (jg_ _) hi
 obtain⟨os,dk,hcs,mY⟩:=id hs
 have hTs:s.TypeIs (.ref sl) "slice" := ⟨os,dk,hcs⟩
 unfold getItem
 try with_reducible refine qW_ ?_
 first|refine je_ (ju_ ?_)|skip
 refine je_ (wpAny_sequenceKey ht.typeIs (by decide) ?_)
 refine je_ (qK_ (name:=Str.ofString "__getitem__") ht.typeIs xB_
  (xo_ xB_ ht.typeIs entry_tuple_getitem ?_ (args_tuple_getitem _ _)))
 show wpAny _ _ (Builtin.Tuple.tupleItemsOf (.ref t) >>= _) _ _ s
 refine je_ (tupleItemsOf_ ht ?_)
 refine je_ (wpAny_typeOf hTs ?_)
 rw[if_pos (by decide)]
 refine je_ (G1 hs pl pu ?_)
 have dm:¬ ((((sIx items.size 0 lo:Nat):Int)==0&&(1:Int)==1&&(sIx items.size items.size hi-sIx items.size 0 lo)==items.size)=true):=by
  intro q
  rw[qd_,qd_]at q
  have q1:((sIx items.size 0 lo:Nat):Int)=0:=eq_of_beq q.1.1
  have q2:sIx items.size items.size hi-sIx items.size 0 lo=items.size:=eq_of_beq q.2
  exact hw ⟨by lia,by lia⟩
 show wpAny _ _ (if (((sIx items.size 0 lo:Nat):Int)==0&&(1:Int)==1&&(sIx items.size items.size hi-sIx items.size 0 lo)==items.size)=true then _ else _) _ _ s
 rw[if_neg dm,RM]
 first
  | exact je_ (m:=Builtin.Tuple.tupleExact _) (qS_ (ju_ ⟨_,rfl,ju_ h⟩) dP)
  | exact je_ (m:=Builtin.Tuple.tupleExact _) (qS_ (je_ (ju_ (ju_ ⟨_,rfl,ju_ h⟩))) dP)
  | exact je_ (je_ (m:=Builtin.Tuple.tupleExact _) (qS_ (ju_ (ju_ ⟨_,rfl,ju_ h⟩)) dP))
  | exact je_ (je_ (m:=Builtin.Tuple.tupleExact _) (qS_ (ju_ ⟨_,rfl,ju_ h⟩) dP))
end
end HT
namespace L2
open PySem PySem.Spec PyProof.Rows
noncomputable abbrev TO:=St->Hp->(Option Int->Hp->Prop)->Prop
noncomputable def PO (X:Cx)(e:Option Expr)(t:TO):Prop:=
 ∀(af:α7) (s:Shared) (σ:St) (H:Hp) (Q:Option Int->Hp->Prop),Inv X af σ H s->t σ H Q ->
  wpAny (model X.prog X.w) X.A (evalPart e X.env) (fun u s'=>∃o H',Inv X af σ H' s'/\IsPart u o/\Q o H') X.xe s
noncomputable def Pl:TO:=fun _ H Q=>Q none H
noncomputable def VL (t:TE):TO:=fun σ H Q=>t σ H fun x H1=>∃i,x=.int i/\Q (some i) H1
def intsAre_of  : ∀{us:List Value},Vals (ns.map V.int) us->IntsAre us ns:=by
 induction ns with
 |nil=>intro us r;rw[xS_]at r;cases r;exact .nil
 |cons n ns ih=>
  intro us r
  rw[j0_]at r
  cases r with
  |cons r1 r2=>
   obtain⟨t,e⟩:=r1
   subst e
   exact .cons n t (ih r2)
section
variable {X:Cx} {e:Expr} {te:TE} {lo hi:Option Expr} {tl th:TO} {pos p2:Pos}
def Mb:PO X none Pl:=by
 intro af s σ H Q I h
 rw[evalPart_none]
 exact ju_ ⟨none,H,I,.none,h⟩
def Mc (h:PE X e te):PO X (some e) (VL te):=by
 intro af s σ H Q I hw
 rw[evalPart_some]
 refine thn (h af s σ H _ I hw) fun u s1 ⟨x,H1,I1,r1,q1⟩=>?_
 obtain⟨i,rfl,q⟩:=q1
 obtain⟨t,rfl⟩:=r1
 exact⟨some i,H1,I1,.int i t,q⟩
noncomputable def SlR (X:Cx)(r:V->Option Int->Option Int->Hp->VK->Prop):Prop:=
 ∀(af:α7) (s:Shared) (σ:St) (H:Hp) (x:V) (v vl vu:Value) (lo hi:Option Int) (sl:Addr) (Q:VK),Inv X af σ H s->RelV x v->s.heap.IsSliceOf sl vl vu .none->IsPart vl lo->IsPart vu hi->r x lo hi H Q ->
  ∃T id,typeLookup (.type T) "__getitem__"=pure (some (.builtin id))/\s.TypeIs v T/\wpAny (model X.prog X.w) X.A (getItem v (.ref sl)) (EP X af σ Q) X.xe s
noncomputable def tSl (r:V->Option Int->Option Int->Hp->VK->Prop)(te:TE)(tl th:TO):TE:=fun σ H Q=>te σ H fun x H1=>tl σ H1 fun l H2=>th σ H2 fun u H3=>r x l u H3 Q
def JW  (hr:SlR X r)(he:PE X e te)(hl:PO X lo tl)(hu:PO X hi th):PE X (.Subscript e (.Slice lo hi none p2) pos) (tSl r te tl th):=by
 intro af s σ H Q I h
 refine Subscript_ (thn (he af s σ H _ I h) fun v s1 ⟨x,H1,I1,r1,q1⟩=>?_)
 refine wpAny_Slice (thn (hl af s1 σ H1 _ I1 q1) fun vl s2 ⟨l,H2,I2,pl,q2⟩=>thn (hu af s2 σ H2 _ I2 q2) fun vu s3 ⟨u,H3,I3,pu,q3⟩=>?_)
 rw[evalPart_none]
 refine ju_ ?_
 have I4:Inv X af σ H3 {s3 with heap:=s3.heap.push {cls:=.type "slice",data:=.fields #[vl,vu,.none]} }:=I3.kept (t':=s3.toks) fun b ob q=>jo_ _ q
 obtain⟨T,id,hT,ht,hg⟩:=hr af {s3 with heap:=s3.heap.push {cls:=.type "slice",data:=.fields #[vl,vu,.none]} } σ H3 x v vl vu l u s3.heap.objs.size Q I4 r1 (Heap.IsSliceOf.new ..) pl pu q3
 show wpAny (model X.prog X.w) X.A (subscriptTail e (.Slice lo hi none p2) v (.ref s3.heap.objs.size)) (EP X af σ Q) X.xe {s3 with heap:=s3.heap.push {cls:=.type "slice",data:=.fields #[vl,vu,.none]} }
 exact tail_any (ops:=[.ref s3.heap.objs.size,v]) ht hT hg (by with_unfolding_all rfl)
noncomputable def cutV (xs:List V)(lo hi:Option Int):List V:=(xs.drop (HT.sIx xs.length 0 lo)).take (HT.sIx xs.length xs.length hi-HT.sIx xs.length 0 lo)
def HN (xs:List V)(lo hi:Option Int):(cutV xs lo hi).length<=xs.length:=by
 unfold cutV
 rw[jw_,xc_]
 lia
noncomputable def rSlT (K:α3):V->Option Int->Option Int->Hp->VK->Prop:=fun x lo hi H Q=>∃a xs,x=.ref a/\SqT K H a xs /\
 ¬ (HT.sIx xs.length 0 lo=0/\HT.sIx xs.length xs.length hi=xs.length)/\∀p,H p=none->Q (.ref p) (upd H p (.tup (cutV xs lo hi)))
def VM:SlR X (rSlT X.K):=by
 intro af s σ H x v vl vu lo hi sl Q I rx hs pl pu h
 obtain⟨a,xs,rfl,hx,hw,q⟩:=h
 cases rx
 obtain⟨its,r,ht,hz⟩:=I.tuple hx
 have ak:its.toArray.size=xs.length:=by rw[jm_];exact r.length.symm
 refine⟨"tuple",_,xB_.lookup,ht.typeIs,?_⟩
 refine HT.getItem_tuple_cut ht hs pl pu (by rw[ak];exact hw) ?_ (by rw[ak];exact hz)
 rw[ak]
 refine⟨.ref s.heap.objs.size,_,I.laid (t':=s.toks) (o:=.tup (cutV xs lo hi)) (fun b ob q=>jo_ _ q) (jg_ _) ?_,rfl,q _ (I.hok.fresh (jg_ _))⟩
 exact⟨qk_ (HN xs lo hi) hz,_,(r.drop (HT.sIx xs.length 0 lo)).take (HT.sIx xs.length xs.length hi-HT.sIx xs.length 0 lo),IsTup.new _ _⟩
noncomputable def W8 (K:α3):R2:=fun x y H Q=>∃a b xs ys,x=.ref a/\y=.ref b/\SqT K H a xs/\SqT K H b ys/\xs ≠ []/\xs.length+ys.length<=sizeLine /\
 (ys=[]->Q (.ref a) H)/\(ys ≠ []->∀p,H p=none->Q (.ref p) (upd H p (.tup (xs++ys))))
def Vals.nil_iff   (r:Vals xs us):us=[]↔xs=[]:=by
 cases r with
 |nil=>simp
 |cons _ _=>simp
def Us:OpR X (binaryOp .Add) (W8 X.K):=by
 intro af s σ H x y v u Q I rx ry h
 obtain⟨a,b,xs,ys,rfl,rfl,ha,hb,hx,hz,q1,q2⟩:=h
 cases rx
 cases ry
 obtain⟨its,r1,p1,_⟩:=I.tuple ha
 obtain⟨aI,r2,p2,_⟩:=I.tuple hb
 refine HT.cat_tup p1 p2 (fun z=>hx (r1.nil_iff.mp z)) (fun z=>⟨.ref a,H,I,rfl,q1 (r2.nil_iff.mp z)⟩) (fun z=>?_) (by rw[<-r1.length,<-r2.length];exact hz)
 refine⟨.ref s.heap.objs.size,_,I.laid (t':=s.toks) (o:=.tup (xs++ys)) (fun b ob q=>jo_ _ q) (jg_ _) ?_,rfl,q2 (fun w=>z (r2.nil_iff.mpr w)) _ (I.hok.fresh (jg_ _))⟩
 exact⟨by rw[jn_];exact hz,_,r1.append r2,IsTup.new _ _⟩
end
end L2
namespace L2
open PySem PySem.Spec PyProof.Rows
noncomputable def ixN (n:Nat)(i:Int):Option Nat:=if 0<=i then (if i<n then some i.toNat else none) else if -(n:Int)<=i then some (i+n).toNat else none
noncomputable def atI {α:Type}(xs:List α)(i:Int):Option α:=(ixN xs.length i).bind fun j=>xs[j]?
def Pm    (h:ixN n i=some j):seqIndex? i n=some j/\j<n /\ -(n:Int)<=i/\i<n:=by
 unfold ixN at h
 by_cases h0:0<=i
 ·rw[if_pos h0]at h
  by_cases h1:i<n
  ·rw[if_pos h1]at h
   have e:i.toNat=j:=jq_ h
   exact⟨by rw[seqIndex_of h0 h1,e],by lia,by lia,h1⟩
  ·rw[if_neg h1]at h;cases h
 ·rw[if_neg h0]at h
  by_cases h1 : -(n:Int)<=i
  ·rw[if_pos h1]at h
   have e:(i+n).toNat=j:=jq_ h
   exact⟨by rw[seqIndex_neg s!"" h1,e],by lia,h1,by lia⟩
  ·rw[if_neg h1]at h;cases h
def Po     (h:atI xs i=some v):∃j,seqIndex? i xs.length=some j/\xs[j]?=some v/\j<xs.length /\ -(xs.length:Int)<=i/\i<xs.length:=by
 unfold atI at h
 cases e:ixN xs.length i with
 |none=>rw[e]at h;cases h
 |some j=>
  rw[e]at h
  obtain⟨h1,h2,h3,h4⟩:=Pm e
  exact⟨j,h1,h,h2,h3,h4⟩
def Ec {α:Type}{xs:List α}{j:Nat}{v:α}(h:xs[j]?=some v):atI xs (j:Int)=some v:=by
 have hj:j<xs.length:=(jb_.mp h).1
 have e:ixN xs.length (j:Int)=some j:=by
  unfold ixN
  rw[if_pos s!"",if_pos s!""];simp
 unfold atI;rw[e];exact h
noncomputable def Pp (b:Expr):Prop:=∀o i,subscripted b false o i=operate [o,i] (getItem o i)
noncomputable def IxR (X:Cx)(r:R2):Prop:=
 ∀(value aZ:Expr) (af:α7) (s:Shared) (σ:St) (H:Hp) (x y:V) (v u:Value) (Q:VK),Inv X af σ H s->RelV x v->RelV y u->r x y H Q ->
  subscripted aZ false v u=operate [v,u] (getItem v u)->wpAny (model X.prog X.w) X.A (subscriptTail value aZ v u) (EP X af σ Q) X.xe s
noncomputable def MtR (X:Cx)(id:String)(r:V->List V->Hp->VK->Prop):Prop:=
 ∀(af:α7) (s:Shared) (σ:St) (H:Hp) (x:V) (xs:List V) (v:Value) (us:List Value) (Q:VK),Inv X af σ H s->RelV x v->Vals xs us->r x xs H Q ->
  wpAny (model X.prog X.w) X.A (call (.builtin id) (v::us)) (EP X af σ Q) X.xe s
section
variable {X:Cx} {a b:Expr} {ta tb:TE} {pos:Pos}
def IxR.or  (h:IxR X r)(h':IxR X r'):IxR X (fun x y H Q=>r x y H Q\/r' x y H Q):=by
 intro value aZ af s σ H x y v u Q I rx ry q hs
 rcases q with q|q
 ·exact h value aZ af s σ H x y v u Q I rx ry q hs
 ·exact h' value aZ af s σ H x y v u Q I rx ry q hs
def VN  (hr:IxR X r)(ha:PE X a ta)(hb:PE X b tb)(hs:Pp b):PE X (.Subscript a b pos) (tOp r ta tb):=by
 intro af s σ H Q I h
 exact Subscript_ (binT ha hb I h fun v u s2 x y H2 I2 rx ry q=>hr a b af s2 σ H2 x y v u Q I2 rx ry q (hs _ _))
noncomputable def rIxL (K:α3):R2:=fun x y H Q=>∃p xs i v,x=.ref p/\y=.int i/\SqL K H p xs/\atI xs i=some v/\Q v H
noncomputable def rIxT (K:α3):R2:=fun x y H Q=>∃p xs i v,x=.ref p/\y=.int i/\SqT K H p xs/\atI xs i=some v/\Q v H
def AU:IxR X (rIxL X.K):=by
 intro value aZ af s σ H x y v u Q I rx ry h hs
 obtain⟨p,xs,i,z,rfl,rfl,hq,he,q⟩:=h
 cases rx
 obtain⟨t,rfl⟩:=ry
 obtain⟨its,r,pl,hz⟩:=I.list hq
 obtain⟨j,h1,h2,h3,h4,h5⟩:=Po he
 obtain⟨w,ew,eg⟩:=r.get h2
 have hl:=r.length
 have hn:=KW
 have fin:EP X af σ Q w s:=⟨z,H,I,eg,q⟩
 by_cases h0:0<=i
 ·have hj:i.toNat=j:=by
   rw[seqIndex_of h0 h5]at h1
   exact jq_ h1
  exact item_listR pl.isList h0 s!"" (by rw[hj];simpa using ew) fin hs
 ·have hj:(i+(its.toArray.size:Int)).toNat=j:=by
   rw[seqIndex_neg s!"" h4]at h1
   rw[jm_,<-hl]
   exact jq_ h1
  exact subscriptTail_builtinR (x:=w) pl.isList.typeIs slot_list_getitem.lookup
   (wpAny_getItem_list_neg (Q:=fun r s'=>r=w/\EP X af σ Q r s') pl.isList s!"" (by rw[jm_]<;>lia) s!"" (by rw[hj];simpa using ew) ⟨rfl,fin⟩) hs
def An:IxR X (rIxT X.K):=by
 intro value aZ af s σ H x y v u Q I rx ry h hs
 obtain⟨p,xs,i,z,rfl,rfl,hq,he,q⟩:=h
 cases rx
 obtain⟨t,rfl⟩:=ry
 obtain⟨its,r,pl,hz⟩:=I.tuple hq
 obtain⟨j,h1,h2,h3,h4,h5⟩:=Po he
 obtain⟨w,ew,eg⟩:=r.get h2
 have hl:=r.length
 have hn:=KW
 have fin:EP X af σ Q w s:=⟨z,H,I,eg,q⟩
 exact subscriptTail_builtinR (x:=w) pl.typeIs slot_tuple_getitem.lookup
  (getItem_tuple (j:=j) (Q:=fun r s'=>r=w/\EP X af σ Q r s') pl s!"" s!"" (by rw[jm_,<-hl];exact h1) (by simpa using ew) ⟨rfl,fin⟩) hs
def Oe (its:List Value)(n j:Nat)(u:Value):Obj.mapSeq (·.setIfInBounds j u) {cls:=.type "list",data:=.seq its.toArray n}={cls:=.type "list",data:=.seq (its.set j u).toArray n}:=by
 simp[Obj.mapSeq]
def Inv.lst {af:α7}{σ:St}{H:Hp}{s:Shared}{p:Addr}{xs:List V}(I:Inv X af σ H s)(h:H p=some (.lst xs)):
  ∃(its:List Value) (n:Nat),Vals xs its/\s.heap.get? p=some {cls:=.type "list",data:=.seq its.toArray n}/\xs.length<=sizeLine:=by
 obtain⟨z,its,n,r,e⟩:=I.hok p _ h
 exact⟨its,n,r,e,z⟩
def Inv.lstUpd       {its its':List Value}   (I:Inv X af σ H s)(h:H p=some (.lst xs))
  (ho:s.heap.get? p=some {cls:=.type "list",data:=.seq its.toArray n}) (hf:f {cls:=.type "list",data:=.seq its.toArray n}={cls:=.type "list",data:=.seq its'.toArray n' }) (r:Vals ys its') (hz:ys.length<=sizeLine) (t:Nat):
  Inv X af σ (upd H p (.lst ys)) {s with heap:=s.heap.update p f,toks:=t}:=by
 have e:(s.heap.update p f).get? p=some {cls:=.type "list",data:=.seq its'.toArray n' }:=by
  rw[qT_ f ho (by rw[hf]<;>rfl),hf]
 refine I.write (x:=p) (e:=p) (by rw[h];trivial) (.inl rfl) (fun b u hb q=>(j9_ _ _ (qp_ hb)).trans q) ⟨_,e⟩ ?_
 exact⟨hz,its',n',r,e⟩
noncomputable def VO:V->V->V->Hp->(Hp->Prop)->Prop:=fun o i v H Q=>∃p xs k j,o=.ref p/\i=.int k/\H p=some (.lst xs)/\ixN xs.length k=some j/\Q (upd H p (.lst (xs.set j v)))
def set_list:PSet X VO:=by
 intro af s σ H o i v ov iv u Q I ro ri rv h
 obtain⟨p,xs,k,j,rfl,rfl,hp,hj,q⟩:=h
 cases ro
 obtain⟨t,rfl⟩:=ri
 obtain⟨its,n,r,ho,hz⟩:=I.lst hp
 obtain⟨h1,h2,h3,h4⟩:=Pm hj
 have hl:=r.length
 have hn:=KW
 have I':Inv X af σ (upd H p (.lst (xs.set j v))) {s with heap:=s.heap.update p (Obj.mapSeq (·.setIfInBounds j u))}:=
  I.lstUpd hp ho (Oe its n j u) (r.set rv j) (by rw[qP_];exact hz) s.toks
 by_cases h0:0<=k
 ·have hk:k.toNat=j:=by
   rw[seqIndex_of h0 h4]at h1
   exact jq_ h1
  exact PySem.W.ki_setAt ho h0 s!"" (by rw[jm_,<-hl];exact h4) (by rw[hk];exact⟨_,I',q⟩)
 ·have hk:(k+(its.toArray.size:Int)).toNat=j:=by
   rw[seqIndex_neg s!"" h3]at h1
   rw[jm_,<-hl]
   exact jq_ h1
  exact PySem.W.ki_setBack ho s!"" (by rw[jm_,<-hl];exact h3) s!"" (by rw[hk];exact⟨_,I',q⟩)
def K3 (lo hi:Option Int)(n:Nat):(sliceBounds lo hi none n).1=((HT.sIx n 0 lo:Nat):Int)/\(sliceBounds lo hi none n).2.1=((HT.sIx n n hi:Nat):Int)/\(sliceBounds lo hi none n).2.2=1:=by
 refine⟨?_,?_,rfl⟩
 ·cases lo with
  |none=>simp[sliceBounds,HT.sIx]
  |some i=>
   simp only[sliceBounds,HT.sIx,Option.getD_none,show (1:Int) > 0 by decide,xR_]
   by_cases h:i<0
   ·simp only[h,xR_]<;>lia
   ·simp only[h,q3_]<;>lia
 ·cases hi with
  |none=>simp[sliceBounds,HT.sIx]
  |some i=>
   simp only[sliceBounds,HT.sIx,Option.getD_none,show (1:Int) > 0 by decide,xR_]
   by_cases h:i<0
   ·simp only[h,xR_]<;>lia
   ·simp only[h,q3_]<;>lia
def JX (its:List Value)(lo hi:Option Int):slicePick its.toArray lo hi none=((its.drop (HT.sIx its.length 0 lo)).take (HT.sIx its.length its.length hi-HT.sIx its.length 0 lo)).toArray:=by
 obtain⟨h1,h2,h3⟩:=K3 lo hi its.toArray.size
 unfold slicePick
 rw[h1,h2,h3]
 simp only[sliceRange_one,pick_run,jm_]<;>rfl
noncomputable def rSlL (K:α3):V->Option Int->Option Int->Hp->VK->Prop:=fun x lo hi H Q=>∃a xs,x=.ref a/\SqL K H a xs/\∀p,H p=none->Q (.ref p) (upd H p (.lst (cutV xs lo hi)))
def Pq:SlR X (rSlL X.K):=by
 intro af s σ H x v vl vu lo hi sl Q I rx hs pl pu h
 obtain⟨a,xs,rfl,hx,q⟩:=h
 cases rx
 obtain⟨its,r,ht,hz⟩:=I.list hx
 have ak:=r.length
 refine⟨"list",_,slot_list_getitem.lookup,ht.isList.typeIs,?_⟩
 refine wpAny_getItem_list_slice ht.isList hs pl pu .none (by simp) ?_ (by rw[jm_]<;>lia)
 rw[JX,<-ak]
 refine⟨.ref s.heap.objs.size,_,I.laid (t':=s.toks) (o:=.lst (cutV xs lo hi)) (fun b ob q=>jo_ _ q) (jg_ _) ?_,rfl,q _ (I.hok.fresh (jg_ _))⟩
 exact⟨qk_ (HN xs lo hi) hz,_,0,(r.drop (HT.sIx xs.length 0 lo)).take (HT.sIx xs.length xs.length hi-HT.sIx xs.length 0 lo),jF_ _ rfl⟩
noncomputable def Cy:V->Bool
 |.non=>true
 |.bl _=>true
 |.int _=>true
 |.str _=>true
 |_=>false
noncomputable def eqV:V->V->Bool
 |.non,.non=>true
 |.bl a,.bl b=>a==b
 |.bl a,.int b=>(if a then 1 else 0)==b
 |.int a,.bl b=>a==(if b then 1 else 0)
 |.int a,.int b=>a==b
 |.str a,.str b=>a==b
 |_,_=>false
def Pt     (ry:RelV y u)(rx:RelV x v)(fy:Cy y=true)(fx:Cy x=true):SeqAt.EqAt A s u v (eqV y x):=by
 cases y with
 |non=>
  cases ry
  cases x with
  |non=>cases rx;exact SeqAt.EqAt.same _
  |bl b=>cases rx;exact SeqAt.EqAt.none_bool b
  |int b=>obtain⟨t,rfl⟩:=rx;exact SeqAt.EqAt.none_int b t
  |str b=>obtain⟨t,rfl⟩:=rx;exact SeqAt.EqAt.none_str b t
  |_=>exact absurd (show false=true from fx) jt_
 |bl a=>
  cases ry
  cases x with
  |non=>cases rx;exact SeqAt.EqAt.bool_none a
  |bl b=>cases rx;exact SeqAt.EqAt.bool_bool a b
  |int b=>obtain⟨t,rfl⟩:=rx;exact SeqAt.EqAt.bool_int a b t
  |str b=>obtain⟨t,rfl⟩:=rx;exact SeqAt.EqAt.bool_str a b t
  |_=>exact absurd (show false=true from fx) jt_
 |int a=>
  obtain⟨t',rfl⟩:=ry
  cases x with
  |non=>cases rx;exact SeqAt.EqAt.int_none a t'
  |bl b=>cases rx;exact SeqAt.EqAt.int_bool a t' b
  |int b=>obtain⟨t,rfl⟩:=rx;exact SeqAt.EqAt.int_int a t' b t
  |str b=>obtain⟨t,rfl⟩:=rx;exact SeqAt.EqAt.int_str a t' b t
  |_=>exact absurd (show false=true from fx) jt_
 |str a=>
  obtain⟨t',rfl⟩:=ry
  cases x with
  |non=>cases rx;exact SeqAt.EqAt.str_none a t'
  |bl b=>cases rx;exact SeqAt.EqAt.str_bool a t' b
  |int b=>obtain⟨t,rfl⟩:=rx;exact SeqAt.EqAt.str_int a t' b t
  |str b=>obtain⟨t,rfl⟩:=rx;exact SeqAt.EqAt.str_str a t' b t
  |_=>exact absurd (show false=true from fx) jt_
 |_=>exact absurd (show false=true from fy) jt_
noncomputable def eqU (x:V)(u:Value):Bool:=match u with
 |.none=>eqV .non x
 |.bool b=>eqV (.bl b) x
 |.int i _=>eqV (.int i) x
 |.str z _=>eqV (.str z) x
 |_=>false
def S2   (r:RelV y u)(f:Cy y=true):eqU x u=eqV y x:=by
 cases y with
 |non=>cases r;rfl
 |bl b=>cases r;rfl
 |int i=>obtain⟨t,rfl⟩:=r;rfl
 |str z=>obtain⟨t,rfl⟩:=r;rfl
 |_=>exact absurd (show false=true from f) jt_
def JY {x:V}:∀{xs:List V} {us:List Value},Vals xs us->xs.all Cy=true->us.any (eqU x)=xs.any fun y=>eqV y x
 |_,_,.nil,_=>rfl
 |y::xs,u::us,.cons r t,f=>by
  rw[List.all_cons,qd_]at f
  rw[zE_,zE_,S2 r f.1,JY t f.2]
def Hk {A:Around}{s:Shared}{x:V}{v:Value}(rx:RelV x v)(fx:Cy x=true):∀{xs:List V} {us:List Value},Vals xs us->xs.all Cy=true->∀u∈us,SeqAt.EqAt A s u v (eqU x u)
 |_,_,.nil,_=>fun u hu=>by cases hu
 |y::xs,u::us,.cons r t,f=>fun u' hu=>by
  rw[List.all_cons,qd_]at f
  rcases jC_.mp hu with rfl|hu
  ·rw[S2 r f.1];exact Pt r rx f.1 fx
  ·exact Hk rx fx t f.2 u' hu
noncomputable def inV (x:V)(xs:List V):Bool:=xs.any fun y=>eqV y x
noncomputable def rIn (K:α3)(i8:Bool):R2:=fun x y H Q=>∃p xs,y=.ref p/\(SqL K H p xs\/SqT K H p xs)/\Cy x=true/\xs.all Cy=true/\Q (.bl (if i8 then !inV x xs else inV x xs)) H
def GJ:OpR X (compareOp .NotIn) (rIn X.K true):=by
 intro af s σ H x y v u Q I rx ry h
 obtain⟨p,xs,rfl,hq,fx,fs,q⟩:=h
 cases ry
 rcases hq with hq|hq
 ·obtain⟨its,r,pl,hz⟩:=I.list hq
  refine SeqAt.notIn_listAt (eqU x) pl.isList (fun w hw=>Hk rx fx r fs w (by simpa using hw)) ⟨.bl _,H,I,rfl,?_⟩
  rw[show its.toArray.any (eqU x)=its.any (eqU x) by simp,JY r fs]
  exact q
 ·obtain⟨its,r,pl,hz⟩:=I.tuple hq
  refine SeqAt.notIn_tupleAt (eqU x) pl (fun w hw=>Hk rx fx r fs w (by simpa using hw)) ⟨.bl _,H,I,rfl,?_⟩
  rw[show its.toArray.any (eqU x)=its.any (eqU x) by simp,JY r fs]
  exact q
def Ai:Cg X (.builtin "len") (fun xs H Q=>∃p ys,xs=[.ref p]/\(SqL X.K H p ys\/SqT X.K H p ys)/\Q (.int ys.length) H):=by
 intro af s σ H xs us Q I r h
 obtain⟨p,ys,rfl,hq,q⟩:=h
 obtain⟨u,rfl,rx⟩:=vals1 r
 cases rx
 have hn:=KW
 rcases hq with hq|hq
 ·obtain⟨its,r',pl,hz⟩:=I.list hq
  have ak:=r'.length
  exact Calls.call_len_list pl.isList (by simp only[jm_]<;>lia) ⟨.int ys.length,H,I.tok _,⟨s.toks+1,by rw[jm_,ak]⟩,q⟩
 ·obtain⟨its,r',pl,hz⟩:=I.tuple hq
  have ak:=r'.length
  exact len_tuple pl (by simp only[jm_]<;>lia) ⟨.int ys.length,H,I.tok _,⟨s.toks+1,by rw[jm_,ak]⟩,q⟩
def Cg.or   (h:Cg X f r)(h':Cg X f r'):Cg X f (fun xs H Q=>r xs H Q\/r' xs H Q):=by
 intro af s σ H xs us Q I rs q
 rcases q with q|q
 ·exact h af s σ H xs us Q I rs q
 ·exact h' af s σ H xs us Q I rs q
def Ed:Cg X (.type "list") (fun xs H Q=>∃p ys,xs=[.ref p]/\(SqL X.K H p ys\/SqT X.K H p ys)/\∀l,H l=none->Q (.ref l) (upd H l (.lst ys))):=by
 intro af s σ H xs us Q I r h
 obtain⟨p,ys,rfl,hq,q⟩:=h
 obtain⟨u,rfl,rx⟩:=vals1 r
 cases rx
 have fin:∀(its:List Value),Vals ys its->ys.length<=sizeLine->∀(h':Heap) (c':Nat),(∀b o',s.heap.get? b=some o'->h'.get? b=some o') ->
   h'.get? s.heap.objs.size=some {cls:=.type "list",dict:=none,data:=.seq its.toArray c',slots := #[]}->EP X af σ Q (.ref s.heap.objs.size) {s with heap:=h' }:=fun its r' hz h' c' kp e=>
  ⟨.ref s.heap.objs.size,_,I.laid (t':=s.toks) kp (jg_ _) (show Bk X.prog X.w _ h' _ (.lst ys) from ⟨hz,its,c',r',e⟩),rfl,q _ (I.hok.fresh (jg_ _))⟩
 rcases hq with hq|hq
 ·obtain⟨its,r',pl,hz⟩:=I.list hq
  have ak:=r'.length
  obtain⟨o,ho,hc,n,hd⟩:=pl.isList
  exact call_list_seq p (.inl rfl) ho hc hd (fun h' c' kp e=>fin its r' hz h' c' kp e) (by simp only[jm_]<;>lia)
 ·obtain⟨its,r',pl,hz⟩:=I.tuple hq
  have ak:=r'.length
  obtain⟨o,ho,hc,n,hd⟩:=pl
  exact call_list_seq p (.inr rfl) ho hc hd (fun h' c' kp e=>fin its r' hz h' c' kp e) (by simp only[jm_]<;>lia)
def JZ:Cg X (.type "tuple") (fun xs H Q=>∃p ys,xs=[.ref p]/\((SqL X.K H p ys/\∀l,H l=none->Q (.ref l) (upd H l (.tup ys)))\/(SqT X.K H p ys/\Q (.ref p) H))):=by
 intro af s σ H xs us Q I r h
 obtain⟨p,ys,rfl,h⟩:=h
 obtain⟨u,rfl,rx⟩:=vals1 r
 cases rx
 rcases h with ⟨hq,q⟩|⟨hq,q⟩
 ·obtain⟨its,r',pl,hz⟩:=I.list hq
  have ak:=r'.length
  refine call_tuple_list pl.isList (fun h' kp=>?_) (by simp only[jm_]<;>lia)
  have I1:Inv X af σ H {s with heap:=h' }:=I.kept (t':=s.toks) kp
  have I2:Inv X af σ (upd H h'.objs.size (.tup ys)) {s with heap:=h'.push {cls:=.type "tuple",data:=.seq its.toArray} }:=
   I1.laid (t':=s.toks) (fun b o e=>jo_ _ e) (jg_ _) (show Bk X.prog X.w _ _ _ (.tup ys) from ⟨hz,its,r',IsTup.new _ _⟩)
  exact⟨.ref h'.objs.size,_,I2,rfl,q _ (I1.hok.fresh (jg_ _))⟩
 ·obtain⟨its,r',pl,hz⟩:=I.tuple hq
  exact call_tuple_same pl ⟨.ref p,H,I,rfl,q⟩
noncomputable def tyV (K:α3)(T:String)(x:V)(H:Hp):Prop:=match x with
 |.str _=>T = "str"
 |.int _=>T = "int"
 |.ref p=>(T = "list" /\ ∃xs,SqL K H p xs)\/(T = "tuple" /\ ∃o,K.lookup p=some o/\o.cls=.type "tuple" /\ o.dict=none) \/
   (T = "dict" /\ ((∃kvs,H p=some (.dK kvs)) \/ ∃kvs,H p=some (.dT kvs)))\/(T = "set" /\ ∃S n,H p=some (.set S n))
 |_=>False
def VP        (I:Inv X af σ H s)(r:RelV x v)(ty:tyV X.K T x H):
  s.TypeIs v T/\∀a,v=.ref a->∃ob,s.heap.get? a=some ob/\ob.dict=none:=by
 cases x with
 |str z=>
  obtain⟨t,rfl⟩:=r
  cases (show T = "str" from ty)
  exact⟨typeIs_str s z t,fun _ e=>nomatch e⟩
 |int i=>
  obtain⟨t,rfl⟩:=r
  cases (show T = "int" from ty)
  exact⟨typeIs_int s i t,fun _ e=>nomatch e⟩
 |ref p=>
  cases r
  rcases ty with ⟨rfl,xs,hq⟩|⟨rfl,o,hk,hc,hd⟩|⟨rfl,hk⟩|⟨rfl,S,n,hk⟩
  ·obtain⟨its,_,pl,_⟩:=I.list hq
   refine⟨pl.isList.typeIs,fun a e=>?_⟩
   cases e
   obtain⟨o,n,e,c,hd,_⟩:=pl
   exact⟨o,e,hd⟩
  ·refine⟨⟨o,I.kIn p o hk,hc⟩,fun a e=>?_⟩
   cases e
   exact⟨o,I.kIn _ o hk,hd⟩
  ·have z:∃o,s.heap.get? p=some o/\o.ExactDict:=by
    rcases hk with ⟨kvs,hk⟩|⟨kvs,hk⟩
    ·obtain⟨_,_,_,_,o,_,_,e,ex,_⟩:=I.hok p _ hk
     exact⟨o,e,ex⟩
    ·obtain⟨_,_,_,_,o,_,_,e,ex,_⟩:=I.hok p _ hk
     exact⟨o,e,ex⟩
   obtain⟨o,e,ex⟩:=z
   refine⟨⟨o,e,ex.1⟩,fun a e2=>?_⟩
   cases e2
   exact⟨o,e,ex.2.1⟩
  ·obtain⟨o,_,_,_,e,ex,_⟩:=I.hok p _ hk
   refine⟨⟨o,e,ex.1⟩,fun a e2=>?_⟩
   cases e2
   exact⟨o,e,ex.2.1⟩
 |_=>exact False.elim ty
noncomputable def tBM (K:α3)(T:String)(r:V->List V->Hp->VK->Prop)(to:TE)(t:TA):TE:=fun σ H Q=>to σ H fun x H1=>tyV K T x H1/\t σ H1 fun xs H2=>r x xs H2 Q
variable {o e:Expr} {es:List Expr} {to:TE} {t:TA} {name:Str} {bq aE:Pos} {T id:String} {r:V->List V->Hp->VK->Prop}
def C7 (pa:PlainAttrs T)(slot:Slot T name id)(n9:typeOf (.builtin id)=pure (.type "method_descriptor"))(hm:MtR X id r)(ho:PE X o to)(ha:PA X (e::es) t)
  (fF:attributeBase o name X.env (eval o X.env)=eval o X.env:=by rfl)
  (gN:((backTo aE (starEach (e::es) X.env)).all (fun x => !x.1)&&(backToKw aE (keywordEach [] X.env)).all (fun x=>x.1.isSome)
   && decide ((e::es).length+([]:List Keyword).length+(if ([]:List Keyword).isEmpty then 0 else 1)<30))=true:=by rfl)
  (fG:(bq.endLine==aE.line)=true:=by rfl) (hs:starEach (e::es) X.env=(false,eval e X.env)::starEach es X.env:=by rfl) (dv:(backTo aE (starEach es X.env)).any (·.1)=false:=by rfl):
  PE X (.Call (.Attribute o name bq) (e::es) [] aE) (tBM X.K T r to t):=by
 intro af s σ H Q I h
 refine wpAny_Call_method_late fF gN fG rfl (thn (ho af s σ H _ I h) fun v s1 ⟨x,H1,I1,r1,ty,q1⟩=>?_)
 obtain⟨h1,h2⟩:=VP I1 r1 ty
 refine⟨T,id,pa,slot,n9,h1,h2,?_⟩
 have hA:=ha aE af s1 σ H1 _ I1 q1
 rw[hs]at hA ⊢
 refine zl_ (by show (false||(backTo aE (starEach es X.env)).any (·.1))=false;rw[dv]<;>rfl) (zC_ ?_)
 exact thn hA fun us s2 ⟨vs,H2,I2,r2,q2⟩=>hm af s2 σ H2 x vs v us Q I2 r1 r2 q2
/- xs.append(e),list.index on a module's tuple .. are MtR facts of 06m -/
end
end L2
namespace L2
open PySem PySem.Spec PyProof.Rows
noncomputable def MtM (X:Cx)(id:String)(r:V->List V->Hp->VK->Prop):Prop:=
 ∀(af:α7) (s:Shared) (σ:St) (H:Hp) (x:V) (xs:List V) (v:Value) (us:List Value) (Q:VK),Inv X af σ H s->RelV x v->Vals xs us->r x xs H Q ->
  wpAny (model X.prog X.w) X.A (call (.builtin id) (v::us)) (EP X af σ Q) X.xe s
def Vals.one:∀{x:V} {us:List Value},Vals [x] us->∃u,us=[u]/\RelV x u
 |_,_,.cons r .nil=>⟨_,rfl,r⟩
def Vals.rep {xs:List V}{us:List Value}(h:Vals xs us):∀k:Nat,Vals (List.replicate k xs).flatten (List.replicate k us).flatten
 |0=>.nil
 |k+1=>by
  rw[qi_,qi_,xC_,xC_]
  exact Vals.append h (Vals.rep h k)
def foldl_rep (its:List Value):∀(k:Nat) (ai:List Value),
  List.foldl (fun x1 x2=>x1++x2) ai.toArray (List.replicate k its.toArray)=(ai++(List.replicate k its).flatten).toArray
 |0,ai=>by simp
 |k+1,ai=>by
  have e:ai.toArray++its.toArray=(ai++its).toArray:=by simp
  have e2:(ai++its)++(List.replicate k its).flatten=ai++(List.replicate (k+1) its).flatten:=by
   rw[qi_,xC_,qb_]
  rw[<-e2,<-foldl_rep its k (ai++its),<-e,qi_,qX_]
section
variable {X:Cx} {af:α7} {σ:St} {H:Hp} {s:Shared} {l b:Addr} {xs ys zs:List V}
def Inv.lset {its its':List Value}    (I:Inv X af σ H s)(hH:H l=some (.lst xs))
  (e:s.heap.get? l=some {cls:=.type "list",data:=.seq its.toArray n}) (hf:f its.toArray=its'.toArray) (hv:Vals ys its') (hz:ys.length<=sizeLine):
  Inv X af σ (upd H l (.lst ys)) {s with heap:=s.heap.update l (Obj.mapSeq f),toks:=t' }:=by
 have q:=x3_ e f
 rw[hf]at q
 refine I.write (x:=l) (e:=l) (by rw[hH];exact trivial) (.inl rfl) (fun b' u hb hu=>(j9_ s.heap (Obj.mapSeq f) (qp_ hb)).trans hu) ⟨_,q⟩ ?_
 exact⟨hz,its',_,hv,q⟩
def Inv.lnew {its:List Value}  (I:Inv X af σ H s)(hv:Vals ys its)(hz:ys.length<=sizeLine):
  Inv X af σ (upd H s.heap.objs.size (.lst ys)) {s with heap:=s.heap.push {cls:=.type "list",data:=.seq its.toArray},toks:=t' }:=
 I.laid (fun _ _ q=>jo_ _ q) (jg_ _) ⟨hz,its,0,hv,jF_ _ rfl⟩
def Inv.fresh (I:Inv X af σ H s):H s.heap.objs.size=none:=I.hok.fresh (jg_ _)
def Inv.lstM (I:Inv X af σ H s)(hH:H l=some (.lst xs)):xs.length<=sizeLine/\∃(its:List Value) (n:Nat),Vals xs its/\xs.length=its.length/\s.heap.get? l=some {cls:=.type "list",data:=.seq its.toArray n}:=by
 obtain⟨z,its,n,r,e⟩:=I.hok l _ hH
 exact⟨z,its,n,r,r.length,e⟩
def Nf  (h:n<=sizeLine):Builtin.List.listTooLong n=false:=by
 unfold Builtin.List.listTooLong
 exact qf_ s!""
end
section
variable {X:Cx}
noncomputable def Pu:V->List V->Hp->VK->Prop:=fun x vs H Q=>∃l xs y,x=.ref l/\vs=[y]/\H l=some (.lst xs)/\xs.length<sizeLine/\Q .non (upd H l (.lst (xs++[y])))
def AR:MtM X "list.append" Pu:=by
 intro af s σ H x vs v us Q I rx rv h
 obtain⟨l,xs,y,rfl,rfl,hH,hz,q⟩:=h
 cases rx
 obtain⟨u,rfl,ru⟩:=rv.one
 obtain⟨z,its,n,r,hl,e⟩:=I.lstM hH
 refine xD_ F.slot_list_append ⟨_,e,rfl⟩ F.entry_list_append (zD_ _ _) (zV_ l its.toArray n u (by rw[jm_];lia)) ⟨e,?_⟩
 refine⟨.non,_,I.lset (its':=its++[u]) hH e (by simp) (r.append (.cons ru .nil)) ?_,rfl,q⟩
 rw[jn_,jW_]
 lia
noncomputable def Px:V->List V->Hp->VK->Prop:=fun x vs H Q=>∃l b xs zs,x=.ref l/\vs=[.ref b]/\H l=some (.lst xs)/\H b=some (.lst zs)/\xs.length+zs.length<=sizeLine/\Q .non (upd H l (.lst (xs++zs)))
def PD:MtM X "list.extend" Px:=by
 intro af s σ H x vs v us Q I rx rv h
 obtain⟨l,b,xs,zs,rfl,rfl,hH,hB,hz,q⟩:=h
 cases rx
 obtain⟨u,rfl,ru⟩:=rv.one
 cases ru
 obtain⟨z,its,n,r,hl,e⟩:=I.lstM hH
 obtain⟨z2,aI,n2,r2,bM,e2⟩:=I.lstM hB
 have hsz:its.toArray.size+aI.toArray.size<=sizeLine:=by rw[jm_,jm_];lia
 have fH:¬ (!its.toArray.isEmpty&&Builtin.List.listTooLong (its.toArray.size+aI.toArray.size))=true:=by
  rw[Nf hsz,Bool.and_false]
  exact jt_
 refine xD_ F.slot_list_extend ⟨_,e,rfl⟩ F.entry_list_extend (F.args_list_extend_2 _ _)
  (AutoSeq1.list_extend_list_list_0 l its.toArray n b aI.toArray n2 fH (by rw[jm_];lia) s!"") ⟨e,e2,?_⟩
 refine⟨.non,_,I.lset (its':=its++aI) hH e (by simp) (r.append r2) ?_,rfl,q⟩
 rw[jn_]
 lia
noncomputable def rCat:R2:=fun x y H Q=>∃l b xs zs,x=.ref l/\y=.ref b/\H l=some (.lst xs)/\H b=some (.lst zs)/\xs.length+zs.length<=sizeLine/\∀p,H p=none->Q (.ref p) (upd H p (.lst (xs++zs)))
def VQ:OpR X (binaryOp .Add) rCat:=by
 intro af s σ H x y v u Q I rx ry h
 obtain⟨l,b,xs,zs,rfl,rfl,hH,hB,hz,q⟩:=h
 cases rx
 cases ry
 obtain⟨z,its,n,r,hl,e⟩:=I.lstM hH
 obtain⟨z2,aI,n2,r2,bM,e2⟩:=I.lstM hB
 refine PySem.P.add_list e e2 ?_ (by rw[jm_,jm_];lia)
 have ea:its.toArray++aI.toArray=(its++aI).toArray:=by simp
 rw[ea]
 exact⟨.ref _,_,I.lnew (t':=s.toks) (r.append r2) (by rw[jn_];lia),rfl,q _ I.fresh⟩
noncomputable def rRep:R2:=fun x y H Q=>∃l k xs,x=.ref l/\y=.int k/\H l=some (.lst xs) /\ -(2 ^ 63)<=k/\k<2 ^ 63/\xs.length*k.toNat<=sizeLine /\
 ∀p,H p=none->Q (.ref p) (upd H p (.lst (List.replicate k.toNat xs).flatten))
def len_rep {α:Type}(xs:List α)(k:Nat):(List.replicate k xs).flatten.length=k*xs.length:=by
 induction k with
 |zero=>simp
 |succ k ih=>rw[qi_,xC_,jn_,ih,Nat.succ_mul,Nat.add_comm]
def PH:OpR X (binaryOp .Mult) rRep:=by
 intro af s σ H x y v u Q I rx ry h
 obtain⟨l,k,xs,rfl,rfl,hH,h1,h2,hz,q⟩:=h
 cases rx
 obtain⟨t,rfl⟩:=ry
 obtain⟨z,its,n,r,hl,e⟩:=I.lstM hH
 have ak:its.toArray.size*k.toNat<=sizeLine:=by rw[jm_,<-hl];exact hz
 have hcap:¬ its.toArray.size*k.toNat > (2 ^ 63-1) / 8:=by
  have:(sizeLine:Nat)<=(2 ^ 63-1) / 8:=by decide
  lia
 have hfit:¬ (!Builtin.List.listFitsIndex k)=true:=by
  rw[fitsIndex_both h1 h2]
  exact jt_
 have fH:¬ Builtin.List.listTooLong (its.toArray.size*k.toNat)=true:=by
  rw[Nf ak]
  exact jt_
 have cY:List.foldl (fun x1 x2=>x1++x2) #[] (List.replicate (if its.toArray.isEmpty=true then 0 else k.toNat) its.toArray)=(List.replicate k.toNat its).flatten.toArray:=by
  have f0:∀m:Nat,List.foldl (fun x1 x2=>x1++x2) #[] (List.replicate m its.toArray)=(List.replicate m its).flatten.toArray:=fun m=>by
   have:=foldl_rep its m []
   rw[xT_]at this
   exact this
  rw[f0]
  cases its with
  |nil=>simp
  |cons a r'=>rw[if_neg (by simp)]
 refine wpAny_binaryOp_repeat_ref (T := "list") (U := "int") (by decide) ⟨_,e,rfl⟩ (fun s'=>typeIs_int s' k t) noFill_list_mul F.fills_int_mul zJ_ repeat_list F.slot_int_index.lookup
  (xD_ zJ_ (typeIs_int s k t) F.entry_int_rmul (F.args_int_rmul_2 _ _) (int___rmul___int_list k t l its.toArray n)
   ⟨e,rfl,⟨_,e,rfl⟩,xD_ F.slot_list_mul ⟨_,e,rfl⟩ F.entry_list_mul (F.args_list_mul_2 _ _) (AutoListH.list___mul___list_int_3 l its.toArray n k t hfit hcap fH) ⟨e,?_⟩⟩)
 rw[cY]
 exact⟨.ref _,_,I.lnew (t':=s.toks) (r.rep k.toNat) (by rw[len_rep,Nat.mul_comm];exact hz),rfl,q _ I.fresh⟩
end
end L2
namespace Att
open PySem PySem.W PySem.Calls PyProof.Rows
def HR   : ∀(ns:α2) (vs:List Value),WellAll P h vs (ns.map WData.int)->IntsAre vs ns:=by
 intro ns
 induction ns with
 |nil=>
  intro vs w
  rw[xS_]at w
  cases w
  exact .nil
 |cons n ns ih=>
  intro vs w
  rw[j0_]at w
  cases w with
  |cons a b=>
   cases a
   exact .cons _ _ (ih _ b)
def PJ {l:OpenLaw}{n:Nat}(hn:l.most=some n){P:Params}{h:Heap}{args:List WData}{i9:List Value}
  (gO:l.row.toRowW.claim.pre args=true) (cQ:WellAll P h i9 args):
  ∃a vs ns,i9=[Value.ref a]/\args=[WData.list (ns.map WData.int)]/\h.get? a=some {cls:=.type "list",data:=.seq vs.toArray}/\IntsAre vs ns/\ns.length<=n:=by
 have hsh:WShape.hasAll [] args [.list .int]=true:=(pre_splitW gO).1
 have hc:l.pre.holds [] {args:=args}=true:=(pre_splitW gO).2
 obtain⟨d,r,rfl,h1,h2⟩:=hasAllW_cons hsh
 obtain rfl:=hasAllW_nil h2
 obtain⟨xs,rfl,h3⟩:=hasW_list h1
 obtain⟨ns,rfl⟩:=items_int h3
 have ak:ns.length<=n:=by
  unfold OpenLaw.pre at hc
  have h4:(WTm.not (.lt (.lit (.int (n:Int))) (.len (.arg 0)))).holds [] {args:=[.list (ns.map .int)]}=true:=by
   have h4:=(holds_andW hc).1
   rw[hn]at h4
   exact h4
  have h5:=condW_of h4 (w_not (w_lt w_lit (w_len_list (w_arg rfl))))
  rw[ja_]at h5
  refine Nat.le_of_not_lt fun q=>?_
  have q':(n:Int)<((ns.length:Nat):Int):=by lia
  first
   | (rw[j8_ q']at h5;exact absurd h5 (by decide))
   | (simp at h5;lia)
 cases cQ with
 |cons w1 w2=>
  cases w2
  cases w1 with
  |list ho az=>exact⟨_,_,ns,rfl,rfl,ho,HR ns _ az,ak⟩
def PL (l:OpenLaw)(args:List WData):l.row.toRowW.claim.post args (.bool true) args=true:=
 postW_of (r:=l.row.toRowW) (X:=(true==true))
  (show WShape.has [] (.bool true) .bool=true by first|rfl|decide|simp[WShape.has,WShape.arms,WShape.armsAll])
  (show (WTm.eq .res (.lit (.bool true))).value [] {args:=args,res:=some (.bool true),after:=args}=some (.bool (true==true)) from w_eq_bool (w_res rfl) w_lit) rfl
def attach_call {l:OpenLaw}{n:Nat}{q:Program}{cm:List Str}{XP:(Str->α5)->Heap->Prop}{YP:World->Heap->Prop}{d:DefRec}
  (hn:l.most=some n) (lP:d.params.defaults=[])
  (call:∀(w:World) (s₀ s₁:Shared) (mg mb:Str->α5) (fa:Addr) (o:Obj) (pm cd br:Value) (a:Addr) (vs:List Value) (ns:α2),
   Ground q cm [] XP w s₀ mg mb s₁.heap->YP w s₁.heap ->
   s₁.heap.get? fa=some o->o.data=.func (docDef d.name d.params d.body d.scope pm cd br)->s₁.heap.CodeRec cd d.name->mg d.name=some (.ref fa) ->
   s₁.heap.get? a=some {cls:=.type "list",data:=.seq vs.toArray}->IntsAre vs ns->ns.length<=n->s₁.gens = #[] ->
   codeAny (model l.prog w) callerA (.call (.ref fa) ⟨[.ref a],[]⟩) (fun r s'=>r=.ok (.ret (.bool true))/\OldK s₁.heap s'.heap/\s'.os=s₁.os/\AllBare s'.gens) s₁):
  WalkO q cm XP YP l.row.toRowW d [] (fun f vs=>PySem.call f vs):=by
 intro w s₀ s₁ mg mb G Y fa o pm cd br dV kV ho hd bL hD hmg hg args i9 as gO hlay hrd cQ oe
 obtain rfl:dV=.none:=Dflts.none hD lP
 obtain rfl:kV=.none:=Dflts.noKw hD
 obtain⟨a,vs,ns,rfl,rfl,bz,fI,ak⟩:=PJ hn gO cQ
 refine enter_call (codeAny_mono (call w s₀ s₁ mg mb fa o pm cd br a vs ns G Y ho (fd_plain hd) bL hmg bz fI ak hg) fun r s' hq=>?_)
 obtain⟨rfl,h2,h3,h4⟩:=hq
 exact⟨.inl ⟨.bool true,.bool true,[],rfl,fun _=>rfl,.bool true,PL l _,fun _=>⟨List.Pairwise.nil,fun _ hm=>(nomatch hm)⟩⟩,h2,h3,h4⟩
end Att
namespace L2
open PySem PySem.Spec PyProof.Rows
def K4:∀{vs:List Value} {ns:α2},IntsAre vs ns->Vals (ns.map V.int) vs
 |_,_,.nil=>.nil
 |_,_,.cons n t h=>.cons ⟨t,rfl⟩ (K4 h)
noncomputable def C3 (s:Stmt):Arguments:=match s with
 |.FunctionDef _ a _ _ _ _ _ _ _ _=>a
 |_=>{posonlyargs:=[],args:=[],vararg:=none,kwonlyargs:=[],kw_defaults:=[],kwarg:=none,defaults:=[]}
noncomputable def Cz (s:Stmt):List Stmt:=match s with
 |.FunctionDef _ _ b _ _ _ _ _ _ _=>b
 |_=>[]
noncomputable def Al (s:Stmt):Scope:=match s with
 |.FunctionDef _ _ _ _ _ _ sc _ _ _=>sc
 |_=>{kind:=.function,names:=[],isGenerator:=false,isCoroutine:=false}
noncomputable abbrev CX0:CXT:=fun _ _ _ _ _ _=>False
noncomputable abbrev E0:XK:=fun _ _ _=>False
def AL  : Nc CX0 X E0:=fun _ _ _ _ _ _ _ h=>h.elim
structure Fun (K:α3)(x qual:Str)(st:Stmt)(f:Addr)(fd:α6):Prop where
 ex:∃(oc:Value) (od:Option Addr) (kV br pm:Value) (an:Option Addr) (ay ct:Value) (fC:Array (α5)),
  fd=fnOf x qual (C3 st) (Cz st) (Al st) .none kV br pm an ay ct/\K.lookup f=some ⟨oc,od,.func fd,fC⟩/\codeIn K ay qual=true
 kp:keepIn K (.ref f)=true
section
variable {P:Program} {w:World} {K:α3} {mg:Str->α5} {base:Heap}
def Fun.ok  {st:Stmt}      (F:Fun K x qual st f fd)(S:FnScope N ps (Al st))(len:∀vs H Q E,sp vs H Q E->vs.length=ps.length)
  (cX:∀(ay:Value) (A:Around) (outer:List Env) (s:Shared) (H:Hp) (vs:List V) (Q:VK) (E:XK),Room k (A.deeper (envOfC qual (Al st) s.heap.objs.size f ay))->sp vs H Q E ->
   ∃t,PSs (cxOf CX0 P w K mg base N qual (Al st) f ay A outer s H E).nox (Cz st) t/\t {nx:=fun _ H'=>Q .non H',rt:=Q} (start N vs) H):FnOk P w K mg base CX0 (k+1) f fd ps sp:=by
 obtain⟨oc,od,kV,br,pm,an,ay,ct,fC,rfl,lk,bL⟩:=F.ex
 refine VI lk bL S len fun A outer s H vs Q E hr ee=>?_
 obtain⟨t,h,q⟩:=cX ay A outer s H vs Q E hr ee
 exact⟨t,h.nox,q⟩
def Fun.binds  {st:Stmt}    (F:Fun K x qual st f fd)
  (h:∀(kV br pm:Value) (an:Option Addr) (ay ct:Value) (us:List Value),us.length=ps.length->bindArgs (fnOf x qual (C3 st) (Cz st) (Al st) .none kV br pm an ay ct) ⟨us,[]⟩=pure (ps.zip us)):Ob K fd ps []:=by
 obtain⟨oc,od,kV,br,pm,an,ay,ct,fC,rfl,lk,bL⟩:=F.ex
 exact .all (h kV br pm an ay ct)
def fun_mk  {st:Stmt}     {kV br pm ay ct:Value}(l:K.lookup f=some ⟨oc,od,.func (fnOf x qual (C3 st) (Cz st) (Al st) .none kV br pm an ay ct),fC⟩)
  (c:codeIn K ay qual=true) (k:keepIn K (.ref f)=true):Fun K x qual st f (fnOf x qual (C3 st) (Cz st) (Al st) .none kV br pm an ay ct):=⟨⟨oc,od,kV,br,pm,an,ay,ct,fC,rfl,l,c⟩,k⟩
end
def K5   (hr:Room k A):A.units+1<cLine:=zQ_ (Nat.add_le_add_left (by decide:1<=64) _) hr.units
section
variable {X:Cx}
def pv (i:Nat)   (hN:X.N[i]?=some x:=by rfl)(hv:Vis X.env.scope x:=by first|exact Or.inl rfl|exact Or.inr (Or.inl rfl)|exact Or.inr (Or.inr rfl))(hd:(x==("__debug__" : Str))=false:=by decide)
  (bL:(x==("__classdict__" : Str))=false:=by decide):PE X (.Name x pos) (tVar i):=Vr hN hv hd bL
end
def ite2 {c A B:Prop}[Decidable c](h1:c->A)(h2:¬ c->B):if c then A else B:=by
 by_cases h:c
 ·rw[if_pos h]
  exact h1 h
 ·rw[if_neg h]
  exact h2 h
noncomputable def Same (H H':Hp):Prop:=∀b o,H b=some o->H' b=some o
def Same.refl (H:Hp):Same H H:=fun _ _ h=>h
def Same.trans {H H1 H2:Hp}(a:Same H H1)(b:Same H1 H2):Same H H2:=fun c o h=>b c o (a c o h)
def Same.free  (e:Same H H')  (h:H' l=Option.none):H l=Option.none:=by
 cases q:H l with
 |none=>rfl
 |some o=>
  rw[e l o q]at h
  cases h
def Same.seq {K:α3}    (e:Same H H')(h:SqL K H a xs):SqL K H' a xs:=by
 rcases h with (h|⟨o,h⟩)|h
 ·exact .inl (.inl (e _ _ h))
 ·exact .inl (.inr ⟨o,e _ _ h⟩)
 ·exact .inr h
end L2
set_option maxHeartbeats 4000000
namespace L2
open PySem PySem.Spec PyProof.Rows
section
variable {κ:Type} [DecidableEq κ]
noncomputable def valV (kvs:List (κ×V))(k:κ):Option V:=(kvs.find? fun kv=>decide (kv.1=k)).map (·.2)
noncomputable def putK (kvs:List (κ×V))(k:κ)(v:V):List (κ×V):=
 if (kvs.any fun kv=>decide (kv.1=k))=true then kvs.map (fun kv=>if kv.1=k then (kv.1,v) else kv) else kvs++[(k,v)]
def Hl {p:κ×V}{r:List (κ×V)}{k:κ}(e:p.1=k):valV (p::r) k=some p.2:=by simp[valV,xl_,e]
def Hm {p:κ×V}{r:List (κ×V)}{k:κ}(e:¬ p.1=k):valV (p::r) k=valV r k:=by simp[valV,xl_,e]
def Ds (k:κ):∀kvs:List (κ×V),(kvs.any fun kv=>decide (kv.1=k))=(valV kvs k).isSome
 |[]=>rfl
 |p::r=>by
  rw[zE_]
  by_cases e:p.1=k
  ·simp only[Hl e,j8_ e,Bool.true_or,zd_]
  ·rw[Hm e,qf_ e,Bool.false_or];exact Ds k r
def Dt (kvs:List (κ×V))(k:κ)(v:V):(putK kvs k v).length<=kvs.length+1:=by
 unfold putK
 split
 ·rw[ja_];lia
 ·rw[jn_,jS_,qm_];lia
def RO {kvs:List (κ×V)}{k:κ}(v:V)(h:valV kvs k=none):putK kvs k v=kvs++[(k,v)]:=by
 unfold putK
 rw[Ds,h]
 exact if_neg (by decide)
def RelO.isSome_eq   (r:RelO o u):o.isSome=u.isSome:=by
 cases o with
 |none=>cases u with
  |none=>rfl
  |some _=>exact (show False from r).elim
 |some _=>cases u with
  |none=>exact (show False from r).elim
  |some _=>rfl
def RelO.getD     (r:RelO o u)(rd:RelV d d'):RelV (o.getD d) (u.getD d'):=by
 cases o with
 |none=>cases u with
  |none=>exact rd
  |some _=>exact (show False from r).elim
 |some _=>cases u with
  |none=>exact (show False from r).elim
  |some _=>exact r
def KV.val   (r:KV kvs vs)(k:κ):RelO (valV kvs k) (valueAt vs k):=by
 unfold KV at r
 induction r with
 |nil=>exact True.intro
 |@cons p q ps qs h t ih=>
  obtain⟨h1,h2⟩:=h
  by_cases e:p.1=k
  ·have e':q.1=k:=h1.symm.trans e
   have b:valueAt (q::qs) k=some q.2:=by simp[valueAt,xl_,e']
   rw[Hl e,b];exact h2
  ·have e':¬ q.1=k:=fun z=>e (h1.trans z)
   have b:valueAt (q::qs) k=valueAt qs k:=by simp[valueAt,xl_,e']
   rw[Hm e,b];exact ih
def KV.any   (r:KV kvs vs)(k:κ):(kvs.any fun kv=>decide (kv.1=k))=vs.any fun kv=>decide (kv.1=k):=by
 unfold KV at r
 induction r with
 |nil=>rfl
 |cons h t ih=>rw[zE_,zE_,ih,h.1]
def KV.repl   (r:KV kvs vs)(k:κ)   (ry:RelV y u):
  KV (kvs.map fun kv=>if kv.1=k then (kv.1,y) else kv) (vs.map fun kv=>if kv.1=k then (kv.1,u) else kv):=by
 unfold KV at r ⊢
 induction r with
 |nil=>exact .nil
 |@cons p q ps qs h t ih=>
  rw[j0_,j0_]
  refine .cons ?_ ih
  obtain⟨h1,h2⟩:=h
  by_cases e:p.1=k
  ·rw[if_pos e,if_pos (h1.symm.trans e)];exact⟨h1,ry⟩
  ·rw[if_neg e,if_neg (fun z=>e (h1.trans z))];exact⟨h1,h2⟩
def KV.put   (r:KV kvs vs)(k:κ)   (ry:RelV y u):KV (putK kvs k y) (stored vs k u):=by
 unfold putK stored
 rw[r.any k]
 by_cases e:(vs.any fun kv=>decide (kv.1=k))=true
 ·rw[if_pos e,if_pos e];exact r.repl k ry
 ·rw[if_neg e,if_neg e];exact Paired.snoc r ⟨rfl,ry⟩
def KV.keys {kvs:List (κ×V)}{vs:List (κ×Value)}(r:KV kvs vs):kvs.map (·.1)=vs.map (·.1):=by
 unfold KV at r
 induction r with
 |nil=>rfl
 |cons h t ih=>rw[j0_,j0_,ih,h.1]
def KV.length {kvs:List (κ×V)}{vs:List (κ×Value)}(r:KV kvs vs):kvs.length=vs.length:=Paired.length r
end
def Md     (r:RelV (kV k) u):(Bj P w).is k u=true:=by
 cases k with
 |inl i=>obtain⟨t,e⟩:=(show ∃t,u=Value.int i t from r);subst e;exact L7 P w i t
 |inr x=>obtain⟨t,e⟩:=(show ∃t,u=Value.str x t from r);subst e;exact L8 P w x t
def K6 {P:Program}{w:World}:∀{ks:List Key} {us:List Value},Vals (ks.map kV) us->ItemsAre (Bj P w) ks us
 |[],_,r=>by rw[xS_]at r;cases r;exact .nil
 |k::ks,_,r=>by
  rw[j0_]at r
  cases r with
  |cons h t=>exact .cons (Md h) (K6 t)
noncomputable abbrev KT (H:Hp):List (List Key×V)->List (List Key×Addr×Value)->Prop:=Paired fun p q=>p.1=q.1/\H q.2.1=some (.tup (p.1.map kV))/\RelV p.2 q.2.2
def KT.val    (r:KT H kvs xs)(k:List Key):RelO (valV kvs k) ((atKey xs k).map (·.2)):=by
 induction r with
 |nil=>exact True.intro
 |@cons p q ps qs h t ih=>
  obtain⟨h1,_,h2⟩:=h
  by_cases e:p.1=k
  ·have e':q.1=k:=h1.symm.trans e
   have b:atKey (q::qs) k=some q.2:=by simp[atKey,xl_,e']
   rw[Hl e,b];exact h2
  ·have e':¬ q.1=k:=fun z=>e (h1.trans z)
   have b:atKey (q::qs) k=atKey qs k:=by simp[atKey,xl_,e']
   rw[Hm e,b];exact ih
def KT.repl    (r:KT H kvs xs)(k:List Key)   (ry:RelV y u):
  KT H (kvs.map fun kv=>if kv.1=k then (kv.1,y) else kv) (xs.map (putAt k u)):=by
 induction r with
 |nil=>exact .nil
 |@cons p q ps qs h t ih=>
  rw[j0_,j0_]
  refine .cons ?_ ih
  obtain⟨h1,h2,h3⟩:=h
  unfold putAt
  by_cases e:p.1=k
  ·rw[if_pos e,if_pos (h1.symm.trans e)];exact⟨h1,h2,ry⟩
  ·rw[if_neg e,if_neg (fun z=>e (h1.trans z))];exact⟨h1,h2,h3⟩
def KT.put    (r:KT H kvs xs)(k:List Key)    (hb:H b=some (.tup (k.map kV)))(ry:RelV y u):
  KT H (putK kvs k y) (storedH xs k b u):=by
 have e:(kvs.any fun kv=>decide (kv.1=k))=(atKey xs k).isSome:=by
  rw[Ds,(r.val k).isSome_eq,Option.isSome_map]
 unfold putK storedH
 rw[e]
 by_cases q:(atKey xs k).isSome=true
 ·rw[if_pos q,if_pos q];exact r.repl k ry
 ·rw[if_neg q,if_neg q];exact Paired.snoc r ⟨rfl,hb,ry⟩
def KT.keeps    (r:KT H kvs xs)(ht:∀b ys,H b=some (.tup ys)->H' b=some (.tup ys)):KT H' kvs xs:=
 Paired.mapP r fun _ _ z=>⟨z.1,ht _ _ z.2.1,z.2.2⟩
section
variable {P:Program} {w:World} {H:Hp} {h:Heap} {a:Addr}
def Ut  (ok:HOk P w H h)(e:Rd H a u):Bk P w H h a u:=e.ok ok
def Me  (ok:HOk P w H h)(e:Rd H a (.dK kvs)):kvs.length<=sizeLine/\(a==sysModules)=false/\∃vs,KV kvs vs/\h.DictOf (Bj P w) a vs:=
 show Bk P w H h a (.dK kvs) from Ut ok e
def RP  (ok:HOk P w H h)(e:H a=some (.dK kvs)):kvs.length<=sizeLine/\(a==sysModules)=false/\∃vs,KV kvs vs/\h.DictOf (Bj P w) a vs:=Me ok (.inl e)
def K7  (ok:HOk P w H h)(e:H a=some (.tup (ks.map kV))):(tupleKind (Bj P w)).is h ks a:=by
 obtain⟨_,its,r,o,h1,h2,n,h3⟩:=(show Bk P w H h a (.tup (ks.map kV)) from ok a _ e)
 exact⟨o,its.toArray,n,h1,h2,h3,by simpa using K6 r⟩
def Of  (ok:HOk P w H h)(e:Rd H a (.dT kvs)):kvs.length<=sizeLine/\(a==sysModules)=false /\
  ∃xs,KT H kvs xs/\h.DictOfH (tupleKind (Bj P w)) a xs:=by
 obtain⟨z,y,xs,r,o,es,ep,h1,h2,h3,h4,h5⟩:=(show Bk P w H h a (.dT kvs) from Ut ok e)
 refine⟨z,y,xs,r,o,es,ep,h1,h2,h3,h4,fun x hx=>?_,h5⟩
 have all:∀{l:List (List Key×V)} {m:List (List Key×Addr×Value)},KT H l m->∀x∈m,(tupleKind (Bj P w)).is h x.1 x.2.1:=by
  intro l m q
  induction q with
  |nil=>intro x hx;exact nomatch hx
  |@cons p q ps qs hq t ih=>
   intro x hx
   rcases jC_.mp hx with e|hx
   ·subst e
    exact K7 ok (by rw[<-hq.1];exact hq.2.1)
   ·exact ih x hx
 exact all r x hx
def VR  (ok:HOk P w H h)(e:H a=some (.dT kvs)):kvs.length<=sizeLine/\(a==sysModules)=false /\
  ∃xs,KT H kvs xs/\h.DictOfH (tupleKind (Bj P w)) a xs:=Of ok (.inl e)
end
noncomputable def DGet (H:Hp)(a:Addr)(y:V)(r:Option V):Prop:=
 (∃kvs k,Rd H a (.dK kvs)/\y=kV k/\r=valV kvs k) \/ ∃kvs k b,Rd H a (.dT kvs)/\y=.ref b/\H b=some (.tup (k.map kV))/\r=valV kvs k
noncomputable def DPut (H:Hp)(a:Addr)(y v:V)(H':Hp):Prop:=
 (∃kvs k,H a=some (.dK kvs)/\y=kV k/\kvs.length<sizeLine/\H'=upd H a (.dK (putK kvs k v))) \/
 ∃kvs k b,H a=some (.dT kvs)/\y=.ref b/\H b=some (.tup (k.map kV))/\kvs.length<sizeLine/\H'=upd H a (.dT (putK kvs k v))
def DGet.k {H:Hp}{a:Addr}{kvs:List (Key×V)}{k:Key}(e:H a=some (.dK kvs)):DGet H a (kV k) (valV kvs k):=.inl ⟨kvs,k,.inl e,rfl,rfl⟩
def DGet.t {H:Hp}{a b:Addr}{kvs:List (List Key×V)}{k:List Key}(e:H a=some (.dT kvs))(eb:H b=some (.tup (k.map kV))):DGet H a (.ref b) (valV kvs k):=.inr ⟨kvs,k,b,.inl e,rfl,eb,rfl⟩
def DPut.k {H:Hp}{a:Addr}{kvs:List (Key×V)}{k:Key}{v:V}(e:H a=some (.dK kvs))(hl:kvs.length<sizeLine):DPut H a (kV k) v (upd H a (.dK (putK kvs k v))):=.inl ⟨kvs,k,e,rfl,hl,rfl⟩
def DPut.t {H:Hp}{a b:Addr}{kvs:List (List Key×V)}{k:List Key}{v:V}(e:H a=some (.dT kvs))(eb:H b=some (.tup (k.map kV)))(hl:kvs.length<sizeLine):
  DPut H a (.ref b) v (upd H a (.dT (putK kvs k v))):=.inr ⟨kvs,k,b,e,rfl,eb,hl,rfl⟩
section
variable {X:Cx} {af:α7} {σ:St} {H:Hp} {s:Shared} {a:Addr} {y v:V} {u r:Value} {o:Option V} {A:Around} {E:Value->Shared->Prop}
def Inv.big (I:Inv X af σ H s):sysModules<s.heap.objs.size:=by
 have h:mainGlobals<s.heap.objs.size:=(I.mod.glob.keeps I.bk).lt
 exact Nat.lt_trans (by decide) h
def PM  (hu:A.units+1<cLine)(I:Inv X af σ H s)(g:DGet H a y (some v))(ry:RelV y u)(h:∀w' s',Inv X af σ H s'->RelV v w'->Q w' s'):
  wpAny (model X.prog X.w) A (getItem (.ref a) u) Q E s:=by
 rcases g with ⟨kvs,k,e,ey,l⟩|⟨kvs,k,b,e,ey,eb,l⟩
 ·subst ey
  obtain⟨z,hd,vs,bh,dd⟩:=Me I.hok e
  obtain⟨w',hw,eg⟩:=RelO.some_of (v:=v) (o:=valueAt vs k) (by rw[l];exact bh.val k)
  exact wpAny_getItem_of (Md ry) dd.mapOf hw (h w' _ (I.tok _) eg)
 ·subst ey
  cases (show u=Value.ref b from ry)
  obtain⟨z,hd,xs,bh,dd⟩:=Of I.hok e
  obtain⟨w',hw,eg⟩:=RelO.some_of (v:=v) (o:=(atKey xs k).map (·.2)) (by rw[l];exact bh.val k)
  obtain⟨p,hp,aO⟩:=Option.map_eq_some_iff.mp hw
  refine wpAny_getItem_heap (ze_ hu) (K7 I.hok eb) dd hp ?_
  rw[aO]
  exact h w' _ (I.tok _) eg
def Uu  (hu:A.units+1<cLine)(I:Inv X af σ H s)(g:DGet H a y o)(ry:RelV y u)(h:∀s',Inv X af σ H s'->Q (.bool (!o.isSome)) s'):
  wpAny (model X.prog X.w) A (compareOp .NotIn u (.ref a)) Q E s:=by
 rcases g with ⟨kvs,k,e,ey,l⟩|⟨kvs,k,b,e,ey,eb,l⟩
 ·subst ey
  obtain⟨z,hd,vs,bh,dd⟩:=Me I.hok e
  refine wpAny_notIn_of (Md ry) hd dd.mapOf ?_
  rw[<-(bh.val k).isSome_eq,<-l]
  exact h _ (I.tok _)
 ·subst ey
  cases (show u=Value.ref b from ry)
  obtain⟨z,hd,xs,bh,dd⟩:=Of I.hok e
  refine wpAny_notIn_heap (ze_ hu) (K7 I.hok eb) hd dd ?_
  have q:=(bh.val k).isSome_eq
  rw[Option.isSome_map]at q
  rw[<-q,<-l]
  exact h _ (I.tok _)
def J1    (I:Inv X af σ H s)(mu:Mut (H a))(hs:Heap.SameBut a s.heap h')(he:∃q,h'.get? a=some q)(new:Bk X.prog X.w (upd H a ob) h' a ob):
  Inv X af σ (upd H a ob) {s with heap:=h',toks:=t' }:=
 I.write (x:=a) (e:=a) mu (.inl rfl) (fun b q hb z=>(hs.2 b hb).trans z) he new
def PN       (z:kvs.length<=sizeLine)(hd:(a==sysModules)=false)(bh:KV kvs vs)(dd:h'.DictOf (Bj P w) a vs):
  Bk P w H' h' a (.dK kvs):=⟨z,hd,vs,bh,dd⟩
def PQ   (hu:A.units+1<cLine)(I:Inv X af σ H s)(g:DPut H a y v H')(ry:RelV y u)(rv:RelV v r)(h:∀s',Inv X af σ H' s'->Q () s'):
  wpAny (model X.prog X.w) A (setItem (.ref a) u r) Q E s:=by
 rcases g with ⟨kvs,k,e,ey,l,eH⟩|⟨kvs,k,b,e,ey,eb,l,eH⟩
 ·subst ey eH
  obtain⟨z,hd,vs,bh,dd⟩:=RP I.hok e
  have hz:vs.length<=sizeLine:=by rw[<-bh.length];exact z
  have hl:(putK kvs k v).length<=sizeLine:=by have:=Dt kvs k v;lia
  refine wpAny_setItem_pairs (hsz:=hz) (Md ry) dd fun h' gy hs=>h _ ?_
  have he:∃q,h'.get? a=some q:=let ⟨q,_,_,hq,_⟩:=gy;⟨q,hq⟩
  exact J1 I (by rw[e];exact True.intro) hs he (PN hl hd (bh.put k rv) gy)
 ·subst ey eH
  cases (show u=Value.ref b from ry)
  obtain⟨z,hd,xs,bh,dd⟩:=VR I.hok e
  have hz:xs.length<=sizeLine:=by rw[<-Paired.length bh];exact z
  have hl:(putK kvs k v).length<=sizeLine:=by have:=Dt kvs k v;lia
  refine wpAny_setItem_heap (hsz:=hz) (ze_ hu) (K7 I.hok eb) dd fun h' gy hs=>h _ ?_
  obtain⟨q,es,ep,hq,h2,h3,h4,_,h5⟩:=gy
  refine J1 I (by rw[e];exact True.intro) hs ⟨q,hq⟩ ⟨hl,hd,_,(bh.put k eb rv).keeps fun c ys ec=>?_,q,es,ep,hq,h2,h3,h4,h5⟩
  rw[Aj (Vq ec e (fun z=>nomatch z))]
  exact ec
end
section
variable {X:Cx} {af:α7} {σ:St} {H:Hp} {s:Shared} {a:Addr} {kvs:List (Key×V)} {k:Key} {u:Value} {A:Around} {E:Value->Shared->Prop}
def W9  (I:Inv X af σ H s)(e:Rd H a (.dK kvs))(h:∀t s',Inv X af σ H s'->Q (.int kvs.length t) s'):wpAny (model X.prog X.w) A (call (.builtin "len") [.ref a]) Q E s:=by
 obtain⟨z,hd,vs,bh,dd⟩:=Me I.hok e
 refine call_len_dict hd dd (by rw[<-bh.length];rw[sizeLine_eq]at z;lia) ?_
 rw[<-bh.length]
 exact h _ _ (I.tok _)
end
noncomputable def NoSl (i:Expr):Prop:=∀ov iv,subscripted i false ov iv=operate [ov,iv] (getItem ov iv)
def Uv         {T id:String}
  (hl:typeLookup (.type T) "__getitem__"=pure (some (.builtin id))) (hs:NoSl aZ)
  (h:wpAny (model prog w) A (eval value env) (fun o s₁=>wpAny (model prog w) A (eval aZ env) (fun i bj=>bj.TypeIs o T/\wpAny (model prog w) A (getItem o i) Q E bj) E s₁) E s):
  wpAny (model prog w) A (eval (.Subscript value aZ pos) env) Q E s:=by
 refine Subscript_ (qO_ h (fun o s₁ h₁=>qO_ h₁ (fun i bj cA=>?_) fun _ _ x=>x) fun _ _ x=>x)
 obtain⟨hT,cA⟩:=cA
 unfold subscriptTail
 refine je_ ?_
 rw[getitemInPython_of_ne hT.not_modules]
 refine je_ (wpAny_specialOf hT hl ?_)
 have fin:wpAny (model prog w) A (subscripted aZ false o i) (fun r bg=>wpAny (model prog w) A (letTemporaryGo value o r >>= fun _=>pure r) Q E bg) E bj:=by
  rw[hs o i]
  exact wpAny_operating (qO_ cA (fun r bg h₃=>je_ (wpAny_letTemporaryGo (ju_ h₃))) fun _ _ x=>x)
 first
  | exact ju_ (je_ fin)
  | exact je_ (ju_ (je_ fin))
  | exact je_ fin
def Mf         (I:Inv X af σ H s)(g:DGet H a y o):s.TypeIs (.ref a) "dict" := by
 rcases g with ⟨kvs,k,e,_,_⟩|⟨kvs,k,b,e,_,_,_⟩
 ·obtain⟨_,_,vs,_,dd⟩:=Me I.hok e
  exact dd.typeIs
 ·obtain⟨_,_,xs,_,dd⟩:=Of I.hok e
  exact dd.typeIs
noncomputable def VS (td ty:TE):TE:=fun σ H Q=>td σ H fun x H1=>ty σ H1 fun y H2=>∃a v,x=.ref a/\DGet H2 a y (some v)/\Q v H2
noncomputable def PR (ty td:TE):TE:=fun σ H Q=>ty σ H fun y H1=>td σ H1 fun x H2=>∃a o,x=.ref a/\DGet H2 a y o/\Q (.bl (!o.isSome)) H2
noncomputable def VT (td ty tv:TE):TS:=fun D σ H=>tv σ H fun v H1=>td σ H1 fun x H2=>ty σ H2 fun y H3=>∃a H4,x=.ref a/\DPut H3 a y v H4/\D.nx σ H4
section
variable {X:Cx} {o i e value:Expr} {pos b8 ez:Pos} {td ty tv:TE}
def PU (hu:X.A.units+1<cLine)(ho:PE X o td)(hi:PE X i ty)(hs:NoSl i):PE X (.Subscript o i pos) (VS td ty):=by
 intro af s σ H Q I h
 refine Uv PySem.F.slot_dict_getitem.lookup hs (thn (ho af s σ H _ I h) fun u s1 ⟨x,H1,I1,rx,q1⟩=>thn (hi af s1 σ H1 _ I1 q1) fun iv s2 ⟨y,H2,I2,ry,a,v,ex,g,q2⟩=>?_)
 subst ex
 obtain rfl:u=Value.ref a:=rx
 exact⟨Mf I2 g,PM hu I2 g ry fun w' s3 I3 eg=>⟨v,H2,I3,eg,q2⟩⟩
def K8 (hu:X.A.units+1<cLine)(hi:PE X i ty)(ho:PE X o td):PC X .NotIn i o (PR ty td):=by
 intro af s σ H Q I h
 refine thn (hi af s σ H _ I h) fun iv s1 ⟨y,H1,I1,ry,q1⟩=>thn (ho af s1 σ H1 _ I1 q1) fun u s2 ⟨x,H2,I2,rx,a,ov,ex,g,q2⟩=>?_
 subst ex
 obtain rfl:u=Value.ref a:=rx
 exact Uu hu I2 g ry fun s3 I3=>⟨.bl (!ov.isSome),H2,I3,rfl,q2⟩
def Mg (hu:X.A.units+1<cLine)(ho:PE X o td)(hi:PE X i ty)(hv:PE X value tv)(hs:swapsWith value (some (.Subscript o i b8)) pos.line X.env=pure false):
  PS X (.Assign [.Subscript o i b8] value pos) (VT td ty tv):=by
 intro af s σ H D I h
 refine wpAny_Assign_Subscript (thn (hv af s σ H _ I h) fun r s1 ⟨v,H1,I1,rv,q1⟩=>thn (ho af s1 σ H1 _ I1 q1) fun u s2 ⟨x,H2,I2,rx,q2⟩=>thn (hi af s2 σ H2 _ I2 q2) fun iv s3 ⟨y,H3,I3,ry,a,H4,ex,g,q3⟩=>?_) hs
 subst ex
 obtain rfl:u=Value.ref a:=rx
 exact PQ hu I3 g ry rv fun s4 I4=>⟨σ,H4,I4,q3⟩
end
def Ng    (h:Heap)(hb:sysModules<h.objs.size):Bk P w H (h.push {cls:=.type "dict",data:=.dict #[]}) h.objs.size (.dK []):=
 ⟨jX_ _,zG_.mpr (qp_ (jL_ hb)),[],.nil,Heap.DictOf.new h⟩
def RQ    (h:Heap)(hb:sysModules<h.objs.size):Bk P w H (h.push {cls:=.type "dict",data:=.dict #[]}) h.objs.size (.dT []):=
 ⟨jX_ _,zG_.mpr (qp_ (jL_ hb)),[],.nil,_,#[],0,jF_ _ rfl,⟨rfl,rfl,rfl⟩,rfl,rfl,List.nodup_nil⟩
noncomputable def PV:TE:=fun _ H Q=>∀p,H p=none->Q (.ref p) (upd H p (.dK []))
noncomputable def PX:TE:=fun _ H Q=>∀p,H p=none->Q (.ref p) (upd H p (.dT []))
section
variable {X:Cx} {pos:Pos}
def Nh:PE X (.Dict [] [] pos) PV:=fun af s σ H Q I h=>
 wpAny_Dict_empty ⟨.ref s.heap.objs.size,_,I.laid (a:=s.heap.objs.size) (o:=.dK []) (t':=s.toks) (fun _ _ q=>jo_ _ q) (jg_ _) (Ng s.heap I.big),rfl,h _ (I.hok.fresh (jg_ _))⟩
def Ni:PE X (.Dict [] [] pos) PX:=fun af s σ H Q I h=>
 wpAny_Dict_empty ⟨.ref s.heap.objs.size,_,I.laid (a:=s.heap.objs.size) (o:=.dT []) (t':=s.toks) (fun _ _ q=>jo_ _ q) (jg_ _) (RQ s.heap I.big),rfl,h _ (I.hok.fresh (jg_ _))⟩
end
noncomputable def HS:List (TE×TE)->St->Hp->(List (V×V)->Hp->Prop)->Prop
 |[],_,H,Q=>Q [] H
 | (tk,tv)::r,σ,H,Q=>tk σ H fun x H1=>tv σ H1 fun y H2=>HS r σ H2 fun ps H3=>Q ((x,y)::ps) H3
noncomputable abbrev VV:List (V×V)->List (Value×Value)->Prop:=Paired fun p q=>RelV p.1 q.1/\RelV p.2 q.2
noncomputable def PPs (X:Cx)(pos:Pos)(keys:List (Option Expr))(cB:List Expr)(aB:List (TE×TE)):Prop:=
 ∀(af:α7) (s:Shared) (σ:St) (H:Hp) (Q:List (V×V)->Hp->Prop),Inv X af σ H s->HS aB σ H Q ->
  wpAny (model X.prog X.w) X.A (evalPairs (pairTrees keys cB X.env pos)) (fun vs s'=>∃ps H',Inv X af σ H' s'/\VV ps vs/\Q ps H') X.xe s
def Uw   : PPs X pos [] [] []:=fun af s σ H Q I h=>pairTrees_nil_walk ⟨[],H,I,.nil,h⟩
def RS        (hk:PE X k tk)(hv:PE X v tv)(hr:PPs X pos ks vs aB):
  PPs X pos (some k::ks) (v::vs) ((tk,tv)::aB):=fun af s σ H Q I h=>
 pairTrees_cons_walk (thn (hk af s σ H _ I h) fun u s1 ⟨x,H1,I1,rx,q1⟩=>thn (hv af s1 σ H1 _ I1 q1) fun w2 s2 ⟨y,H2,I2,ry,q2⟩ =>
  thn (hr af s2 σ H2 _ I2 q2) fun ws s3 ⟨ps,H3,I3,bh,q3⟩=>⟨(x,y)::ps,H3,I3,.cons ⟨rx,ry⟩ bh,q3⟩)
noncomputable def GK (kvs more:List (Key×V)):List (Key×V):=more.foldl (fun ai kv=>putK ai kv.1 kv.2) kvs
def KV.merge:∀{more:List (Key×V)} {rs:List (Key×Value)} {kvs:List (Key×V)} {vs:List (Key×Value)},KV more rs->KV kvs vs->KV (GK kvs more) (merged vs rs):=by
 intro more rs kvs vs r
 unfold KV at r
 induction r generalizing kvs vs with
 |nil=>intro q;exact q
 |@cons p q ps qs h t ih=>
  intro r0
  have e:KV (putK kvs p.1 p.2) (stored vs q.1 q.2):=by
   have:=r0.put p.1 h.2
   rw[<-h.1];exact this
  exact ih e
def FE:∀(more kvs:List (Key×V)),(GK kvs more).length<=kvs.length+more.length
 |[],kvs=>by show kvs.length<=kvs.length+0;lia
 |p::r,kvs=>by
  have h1:=FE r (putK kvs p.1 p.2)
  have h2:=Dt kvs p.1 p.2
  show (GK (putK kvs p.1 p.2) r).length<=_
  rw[jS_];lia
def Jl {P:Program}{w:World}:∀{kvs:List (Key×V)} {ws:List (Value×Value)},VV (kvs.map fun kv=>(kV kv.1,kv.2)) ws->∃rs,Carries (Bj P w) ws rs/\KV kvs rs
 |[],_,r=>by rw[xS_]at r;cases r;exact⟨[],True.intro,.nil⟩
 |p::kvs,_,r=>by
  rw[j0_]at r
  cases r with
  |@cons a b as bs h t=>
   obtain⟨rs,c,q⟩:=Jl (P:=P) (w:=w) t
   obtain⟨b1,b2⟩:=b
   exact⟨(p.1,b2)::rs,⟨Md h.1,rfl,c⟩,.cons ⟨rfl,h.2⟩ q⟩
noncomputable def Ux (aB:List (TE×TE)):TE:=fun σ H Q=>∀p,H p=none->HS aB σ (upd H p (.dK [])) fun ps H2=>H2 p=some (.dK [])/\∃kvs:List (Key×V),ps=kvs.map (fun kv=>(kV kv.1,kv.2))/\kvs.length<=15/\Q (.ref p) (upd H2 p (.dK (GK [] kvs)))
def Uy      (h:PPs X pos keys cB aB)(az:keys.all (·.isSome)=true)(hl:keys.length=cB.length)(h0:keys ≠ [])
  (h15:keys.length<=15):PE X (.Dict keys cB pos) (Ux aB):=by
 intro af s σ H Q I q
 have hn:=I.hok.fresh (jg_ s.heap.objs.size)
 have I1:=I.laid (a:=s.heap.objs.size) (o:=.dK []) (h':=s.heap.push {cls:=.type "dict",data:=.dict #[]}) (t':=s.toks) (fun _ _ q=>jo_ _ q) (jg_ _) (Ng s.heap I.big)
 refine wpAny_Dict_walk (knd:=Bj X.prog X.w) az hl h0 h15 (thn (h af _ σ _ _ I1 (q _ hn)) fun ws s2 ⟨ps,H2,I2,bh,e,kvs,ep,lk,q2⟩=>?_)
 subst ep
 obtain⟨rs,c,rk⟩:=Jl (P:=X.prog) (w:=X.w) bh
 obtain⟨z,hd,vs0,r0,dd⟩:=RP I2.hok e
 cases r0
 refine⟨rs,c,dd,fun h' gy hs=>⟨.ref s.heap.objs.size,_,?_,rfl,q2⟩⟩
 have hz:(GK [] kvs).length<=sizeLine:=by
  have h1:=FE kvs []
  rw[qm_]at h1
  rw[sizeLine_eq];lia
 have he:∃q,h'.get? s.heap.objs.size=some q:=let ⟨q,_,_,hq,_⟩:=gy;⟨q,hq⟩
 exact J1 I2 (by rw[e];exact True.intro) hs he (PN hz hd (rk.merge .nil) gy)
structure M1 (X:Cx)(o:Expr)(m:Str)(bq:Pos)(e:Expr)(aE:Pos):Prop where
 base:attributeBase o m X.env (eval o X.env)=eval o X.env
 few:((backTo aE (starEach [e] X.env)).all (fun x => !x.1)&&(backToKw aE (keywordEach [] X.env)).all (fun x=>x.1.isSome)
  && decide (([e]:List Expr).length+([]:List Keyword).length+(if ([]:List Keyword).isEmpty then 0 else 1)<30))=true
 line:(bq.endLine==aE.line)=true
 trees:backTo aE (starEach [e] X.env)=[(false,eval e X.env)]
structure M2 (X:Cx)(o:Expr)(m:Str)(bq:Pos)(e f:Expr)(aE:Pos):Prop where
 base:attributeBase o m X.env (eval o X.env)=eval o X.env
 few:((backTo aE (starEach [e,f] X.env)).all (fun x => !x.1)&&(backToKw aE (keywordEach [] X.env)).all (fun x=>x.1.isSome)
  && decide (([e,f]:List Expr).length+([]:List Keyword).length+(if ([]:List Keyword).isEmpty then 0 else 1)<30))=true
 line:(bq.endLine==aE.line)=true
 trees:backTo aE (starEach [e,f] X.env)=[(false,eval e X.env),(false,eval f X.env)]
noncomputable def IsD (H:Hp)(a:Addr):Prop:=(∃kvs,Rd H a (.dK kvs)) \/ ∃kvs,Rd H a (.dT kvs)
def S3       (I:Inv X af σ H s)(d:IsD H a):
  s.TypeIs (.ref a) "dict" /\ (∀b,Value.ref a=.ref b->∃ob,s.heap.get? b=some ob/\ob.dict=none)/\(a==sysModules)=false:=by
 rcases d with ⟨kvs,e⟩|⟨kvs,e⟩
 ·obtain⟨_,hd,vs,_,dd⟩:=Me I.hok e
  refine⟨dd.typeIs,fun b q=>?_,hd⟩
  cases q
  obtain⟨ob,_,_,h1,h2,_⟩:=dd
  exact⟨ob,h1,h2.2.1⟩
 ·obtain⟨_,hd,xs,_,dd⟩:=Of I.hok e
  refine⟨dd.typeIs,fun b q=>?_,hd⟩
  cases q
  obtain⟨ob,_,_,h1,h2,_⟩:=dd
  exact⟨ob,h1,h2.2.1⟩
section
variable {X:Cx} {af:α7} {σ:St} {H:Hp} {s:Shared} {a:Addr} {y d:V} {u r:Value} {o:Option V} {A:Around} {E:Value->Shared->Prop}
def VU  (hu:A.units+1<cLine)(I:Inv X af σ H s)(g:DGet H a y o)(ry:RelV y u)(h:∀w' s',Inv X af σ H s'->RelV (o.getD .non) w'->Q w' s'):
  wpAny (model X.prog X.w) A (call (.builtin "dict.get") [.ref a,u]) Q E s:=by
 rcases g with ⟨kvs,k,e,ey,l⟩|⟨kvs,k,b,e,ey,eb,l⟩
 ·subst ey
  obtain⟨z,hd,vs,bh,dd⟩:=Me I.hok e
  refine call_meetsIn zt_ dd.typeIs PySem.F.entry_dict_get (PySem.F.args_dict_get_2 _ _) (meets_dict_get (Bj X.prog X.w) a (Md ry) hd) ⟨_,dd.mapOf,h _ _ (I.tok _) ?_⟩
  rw[l]
  exact (bh.val k).getD rfl
 ·subst ey
  cases (show u=Value.ref b from ry)
  obtain⟨z,hd,xs,bh,dd⟩:=Of I.hok e
  refine call_meetsIn zt_ dd.typeIs PySem.F.entry_dict_get (PySem.F.args_dict_get_2 _ _) (meetsH_dict_get (tupleKind (Bj X.prog X.w)) a b hd) ⟨ze_ hu,k,xs,K7 I.hok eb,dd,h _ _ (I.tok _) ?_⟩
  rw[l]
  exact (bh.val k).getD rfl
end
noncomputable def PY (td ty:TE):TE:=fun σ H Q=>td σ H fun x H1=>∃a,x=.ref a/\IsD H1 a/\ty σ H1 fun y H2=>∃o,DGet H2 a y o/\Q (o.getD .non) H2
section
variable {X:Cx} {o e f:Expr} {bq aE:Pos} {td ty tx:TE}
def RT (hu:X.A.units+1<cLine)(ho:PE X o td)(he:PE X e ty)(m:M1 X o "get" bq e aE):PE X (.Call (.Attribute o "get" bq) [e] [] aE) (PY td ty):=by
 intro af s σ H Q I h
 refine wpAny_Call_method m.base m.few m.line PySem.F.plainAttrs_dict zt_ PySem.F.type_dict_get (thn (ho af s σ H _ I h) fun u s1 ⟨x,H1,I1,rx,a,ex,d,q1⟩=>?_)
 subst ex
 obtain rfl:u=Value.ref a:=rx
 obtain⟨t1,t2,_⟩:=S3 I1 d
 refine⟨t1,t2,?_⟩
 rw[m.trees]
 refine zl_ rfl (zC_ (xq_ (thn (he af s1 σ H1 _ I1 q1) fun iv s2 ⟨y,H2,I2,ry,ov,g,q2⟩=>xW_ ?_)))
 exact VU hu I2 g ry fun w' s3 I3 eg=>⟨_,H2,I3,eg,q2⟩
end
end L2
namespace L2
open PySem PySem.Spec PyProof.Rows
noncomputable def clOf (env:Env):List (Str×NameKind)->List (Str×Addr)->List (Str×Addr)
 |[],ai=>ai
 | (n,k)::r,ai=>if (k == .free)=true then clOf env r ((n,(env.cells.lookup n).getD 0)::ai) else clOf env r ai
def Gd   (h:∀p∈scope.names,p.2=.free->∃c,env.cells.lookup p.1=some c):closureFor scope env=pure (clOf env scope.names []):=by
 have go:∀(l:List (Str×NameKind)) (ai:List (Str×Addr)),(∀p∈l,p.2=.free->∃c,env.cells.lookup p.1=some c) ->
   (forIn l ai fun (x:Str×NameKind) (cs:List (Str×Addr))=>(if (x.2 == .free)=true then do let c <- cellOf env x.1;pure (ForInStep.yield ((x.1,c)::cs)) else pure (ForInStep.yield cs):Sem (ForInStep (List (Str×Addr)))))=(pure (clOf env l ai):Sem (List (Str×Addr))):=by
  intro l
  induction l with
  |nil=>intro ai _;rfl
  |cons p r ih=>
   intro ai hl
   obtain⟨n,k⟩:=p
   rw[List.forIn_cons]
   by_cases hk:(k == .free)=true
   ·obtain⟨c,hc⟩:=hl (n,k) jl_ (by simpa using hk)
    have e1:cellOf env n=pure c:=by unfold cellOf;rw[hc]
    have og:=ih ((n,c)::ai) fun q hq=>hl q (jk_ _ hq)
    show ((if (k == .free)=true then do let c <- cellOf env n;pure (ForInStep.yield ((n,c)::ai)) else pure (ForInStep.yield ai):Sem _) >>= _)=_
    rw[if_pos hk,e1]
    show (forIn r ((n,c)::ai) _:Sem _)=_
    rw[clOf,if_pos hk,hc]
    exact og
   ·have og:=ih ai fun q hq=>hl q (jk_ _ hq)
    show ((if (k == .free)=true then do let c <- cellOf env n;pure (ForInStep.yield ((n,c)::ai)) else pure (ForInStep.yield ai):Sem _) >>= _)=_
    rw[if_neg hk]
    show (forIn r ai _:Sem _)=_
    rw[clOf,if_neg hk]
    exact og
 have e:=go scope.names [] h
 unfold closureFor
 show (forIn scope.names [] _ >>= fun cs=>pure cs:Sem _)=_
 have e2:(forIn scope.names [] (fun (x:Str×NameKind) (r:List (Str×Addr))=>(match x with
   | (name,kind)=>if (kind == .free)=true then do let c <- cellOf env name;pure (ForInStep.yield ((name,c)::r)) else do pure PUnit.unit;pure (ForInStep.yield r):Sem (ForInStep (List (Str×Addr))))))=(pure (clOf env scope.names []):Sem (List (Str×Addr))):=e
 exact jH_ (fun z=>z >>= fun cs=>pure cs) e2
def Hn {env:Env}:∀(l:List (Str×NameKind)) (ai:List (Str×Addr)),(∀p∈l,p.2=.free->∃c,env.cells.lookup p.1=some c)->(∀q∈ai,env.cells.lookup q.1=some q.2)->∀q∈clOf env l ai,env.cells.lookup q.1=some q.2
 |[],_,_,ha,q,hq=>ha q hq
 | (n,k)::r,ai,hl,ha,q,hq=>by
  unfold clOf at hq
  by_cases hk:(k == .free)=true
  ·rw[if_pos hk]at hq
   obtain⟨c,hc⟩:=hl (n,k) jl_ (by simpa using hk)
   refine Hn r _ (fun p hp=>hl p (jk_ _ hp)) (fun p hp=>?_) q hq
   rcases jC_.mp hp with rfl|hp
   ·show env.cells.lookup n=some ((env.cells.lookup n).getD 0)
    rw[hc];rfl
   ·exact ha p hp
  ·rw[if_neg hk]at hq
   exact Hn r _ (fun p hp=>hl p (jk_ _ hp)) ha q hq
def EL {env:Env}:∀(l:List (Str×NameKind)) (ai:List (Str×Addr)) (x:Str),((x,NameKind.free)∈l \/ ∃c,(x,c)∈ai)->∃c,(x,c)∈clOf env l ai
 |[],_,_,h=>by
  rcases h with h|h
  ·cases h
  ·exact h
 | (n,k)::r,ai,x,h=>by
  unfold clOf
  by_cases hk:(k == .free)=true
  ·rw[if_pos hk]
   refine EL r _ x ?_
   rcases h with h|⟨c,h⟩
   ·rcases jC_.mp h with h|h
    ·cases h
     exact .inr ⟨_,jl_⟩
    ·exact .inl h
   ·exact .inr ⟨c,jk_ _ h⟩
  ·rw[if_neg hk]
   refine EL r _ x ?_
   rcases h with h|h
   ·rcases jC_.mp h with h|h
    ·cases h
     exact absurd rfl hk
    ·exact .inl h
   ·exact .inr h
def Bd {β:Type}:∀{l:List (Str×β)} {x:Str} {c:β},(x,c)∈l->∃c',l.lookup x=some c'
 |[],_,_,h=>by cases h
 | (n,d)::r,x,c,h=>by
  by_cases hx:(x==n)=true
  ·exact⟨d,by rw[j4_,hx]⟩
  ·rcases jC_.mp h with h|h
   ·cases h;exact absurd (beq_self_eq_true _) hx
   ·obtain⟨c',e⟩:=Bd h
    exact⟨c',by rw[j4_];simp only[Bool.not_eq_true]at hx;rw[hx];exact e⟩
noncomputable def relF (env:Env):Str×NameKind->Str×NameKind:=fun (n,k)=>if (k==NameKind.free&&env.scope.kind == .function&&env.kindOf n==some .cell) then (n,NameKind.cell) else (n,k)
def Ho    (h:(k==NameKind.free&&env.scope.kind == .function&&env.kindOf n==some .cell)=true):relF env (n,k)=(n,.cell):=if_pos h
def J2    (h:¬ (k==NameKind.free&&env.scope.kind == .function&&env.kindOf n==some .cell)=true):relF env (n,k)=(n,k):=if_neg h
def Ee {env:Env}:∀{names:List (Str×NameKind)} {x:Str} {k:NameKind},(∀y∈names,y.2 ≠ .cell) ->
  (names.map (relF env)).lookup x=some k->(k=.cell\/k=.free)->(x,NameKind.free)∈names
 |[],_,_,_,h,_=>by simp at h
 | (n,k')::r,x,k,hc,h,hk=>by
  have ih := @Ee env r x k (fun y hy=>hc y (jk_ _ hy))
  rw[j0_]at h
  by_cases hb:(k'==NameKind.free&&env.scope.kind == .function&&env.kindOf n==some .cell)=true
  ·rw[Ho hb,j4_]at h
   cases hx:x==n with
   |true=>
    have e:x=n:=by simpa using hx
    subst e
    have e2:k'=.free:=by
     simp only[qd_]at hb
     simpa using hb.1.1
    subst e2
    exact jl_
   |false=>
    rw[hx]at h
    exact jk_ _ (ih h hk)
  ·rw[J2 hb,j4_]at h
   cases hx:x==n with
   |true=>
    rw[hx]at h
    have e:x=n:=by simpa using hx
    subst e
    have e2:k'=k:=jq_ h
    subst e2
    rcases hk with rfl|rfl
    ·exact absurd rfl (hc _ jl_)
    ·exact jl_
   |false=>
    rw[hx]at h
    exact jk_ _ (ih h hk)
def Ef {env:Env}:∀{names:List (Str×NameKind)} {x:Str},names.lookup x=some .free ->
  ∃k,(k=NameKind.cell\/k=NameKind.free)/\(names.map (relF env)).lookup x=some k
 |[],_,h=>by simp at h
 | (n,k')::r,x,h=>by
  have ih := @Ef env r x
  rw[j4_]at h
  rw[j0_]
  cases hx:x==n with
  |true=>
   rw[hx]at h
   have e2:k'=.free:=jq_ h
   subst e2
   by_cases hb:((NameKind.free:NameKind)==NameKind.free&&env.scope.kind == .function&&env.kindOf n==some .cell)=true
   ·exact⟨.cell,.inl rfl,by rw[Ho hb,j4_,hx]⟩
   ·exact⟨.free,.inr rfl,by rw[J2 hb,j4_,hx]⟩
  |false=>
   rw[hx]at h
   obtain⟨k,hk,e⟩:=ih h
   refine⟨k,hk,?_⟩
   by_cases hb:(k'==NameKind.free&&env.scope.kind == .function&&env.kindOf n==some .cell)=true
   ·rw[Ho hb,j4_,hx];exact e
   ·rw[J2 hb,j4_,hx];exact e
end L2
namespace L2
open PySem PySem.Spec PyProof.Rows
section
variable {prog:Program} {w:World} {A:Around} {R:Result->Shared->Prop} {s:Shared}
noncomputable abbrev cpW (prog:Program)(w:World)(A:Around)(R:Result->Shared->Prop)(env:Env){α:Type}(m:Sem α)(Q:α->Shared->Prop):Shared->Prop:=wpAny (model prog w) A m Q (notedBy (model prog w) A env fun e t=>R (.error e) t)
def GL {cn bO iter:Expr}    {it ai:Value}  (I:Nat->Shared->Prop)
  (turn:∀n s,I n s->cpW prog w A R env (pyNext it) (fun r s=>match r with
   |none=>R (.ok .next) s
   |some v=>cpW prog w A R env (letOwnedTupleGo bO it v) (fun _=>cpW prog w A R env (assign bO env v) fun _=>cpW prog w A R env (forIn cb true fun c r=>if r=true then do let ok <- isTrue c env (eval c env);pure (ForInStep.yield ok) else pure (ForInStep.yield r)) fun ok s=>
     if ok=true then cpW prog w A R env (eval cn env) (fun x=>cpW prog w A R env (call (.builtin "list.append") [ai,x]) fun _ t=>∃m,m<n/\I m t) s else ∃m,m<n/\I m s) s) s)
  (n:Nat) (h:I n s):codeAny (model prog w) A (.compLoop (.ListComp cn [⟨bO,iter,cb,0⟩] scope pos) 0 it ai env) R s:=by
 have mono:∀{α β:Type} {m:Sem α} {f:α->Sem β} {Q:α->Shared->Prop} {Q':β->Shared->Prop} {s:Shared},cpW prog w A R env m Q s->(∀a t,Q a t->cpW prog w A R env (f a) Q' t)->cpW prog w A R env (m >>= f) Q' s:=fun h k=>je_ (qO_ h k fun _ _ e=>e)
 refine codeAny_loop rfl I (fun n s hI=>wpAny_noted ?_) n h
 rw[compTurn_list]
 refine je_ (wpAny_standAt (mono (turn n s hI) fun r s1 h1=>?_))
 cases r with
 |none=>exact ju_ h1
 |some v=>
  refine mono h1 fun _ _ h2=>mono h2 fun _ _ h3=>mono h3 fun ok s4 h4=>?_
  cases ok with
  |false=>exact ju_ ⟨rfl,h4⟩
  |true=>exact je_ (mono h4 fun _ _ h5=>mono h5 fun _ _ h6=>ju_ (ju_ ⟨rfl,h6⟩))
end
noncomputable abbrev Cx.blk (X:Cx)(N:List Str)(sc:Scope)(C:Addr)(s₀:Shared)(H₀:Hp)(ex:List Addr):Cx:=
 {X with N:=N,env:=compEnvC sc (clOf X.env sc.names []) C X.env,outer:=X.stack,s₀:=s₀,H₀:=H₀,ex:=ex,fn:=fun _=>false,pn:=[],xe:=fun _ _=>False}
structure BlkSc (X:Cx)(sc:Scope):Prop where
 kind:sc.kind=.function
 nocell:∀y∈sc.names,y.2 ≠ .cell
 loc:∀y∈sc.names,y.2=.local->sc.names.lookup y.1=some .local
 free:∀y∈sc.names,y.2=.free->X.env.kindOf y.1=some .cell\/X.env.kindOf y.1=some .free
noncomputable abbrev Caps:=List (Str×Option Nat)
noncomputable def Caps.names (c:Caps):List Str:=c.map (·.1)
noncomputable def Caps.st (c:Caps)(σ:St):St:=c.map fun p=>p.2.bind fun j=>(σ[j]?).join
noncomputable def CJ (N:List Str)(sc:Scope):Caps->Prop
 |[]=>True
 | (_,none)::r=>CJ N sc r
 | (x,some j)::r=>(N[j]?=some x/\sc.names.lookup x=some .free)/\CJ N sc r
def CJ.get {N:List Str}{sc:Scope}:∀{c:Caps} {i:Nat} {x:Str} {j:Nat},CJ N sc c->c[i]?=some (x,some j)->N[j]?=some x/\sc.names.lookup x=some .free
 |[],_,_,_,_,h=>by simp at h
 | (y,none)::r,0,x,j,_,h=>by simp at h
 | (y,none)::r,i+1,x,j,ok,h=>CJ.get (c:=r) (i:=i) ok (by simpa using h)
 | (y,some k)::r,0,x,j,ok,h=>by
  simp only[zf_,zo_,Prod.mk.injEq]at h
  obtain⟨rfl,rfl⟩:=h
  exact ok.1
 | (y,some k)::r,i+1,x,j,ok,h=>CJ.get (c:=r) (i:=i) ok.2 (by simpa using h)
section
variable {X:Cx} {af:α7} {σ:St} {H:Hp} {s:Shared} {sc:Scope} {fp:List Addr}
def HV (I:Inv X af σ H s)(S:BlkSc X sc):∀p∈sc.names,p.2=.free->∃c,X.env.cells.lookup p.1=some c:=fun p hp e=>I.ok.has p.1 (S.free p hp e)
def BU (I:Inv X af σ H s)(S:BlkSc X sc)   (h:(clOf X.env sc.names []).lookup x=some c):X.env.cells.lookup x=some c:=
 Hn sc.names [] (HV I S) (fun q hq=>by cases hq) (x,c) (qh_ h)
def VW {N:List Str}{C:Addr}(I:Inv X af σ H s)(S:BlkSc X sc)(hC:s.heap.objs.size<=C)(hf:∀b∈fp,FpOk X af H b)(ho:∀b∈fp,∃o,s.heap.get? b=some o):(X.blk N sc C s H fp).Ok where
 mod:=I.ok.mod
 kind:=S.kind
 glob:=I.ok.glob
 blt:=I.ok.blt
 above:=hC
 inj:=fun x y c h1 h2=>I.ok.inj x y c (BU I S h1) (BU I S h2)
 has:=fun x hx=>by
  have eA:(x,NameKind.free)∈sc.names:=by
   rcases hx with hx|hx
   ·exact Ee (env:=X.env) S.nocell hx (.inl rfl)
   ·exact Ee (env:=X.env) S.nocell hx (.inr rfl)
  obtain⟨c,hc⟩:=EL (env:=X.env) sc.names [] x (.inl eA)
  exact Bd hc
 cab:=fun x c h=>absurd (show false=true from h) jt_
 hd:=I.ok.hd
 frames:=I.ok.frames
 stk:=.inl rfl
 exf:=fun b hb=>by
  obtain⟨o,ho⟩:=ho b hb
  refine⟨jL_ (jy_ (js_ ho) hC),fun x c h=>(hf b hb).2.2.2.2.1 x c (BU I S h)⟩
 bs:=I.bs
 bsz:=qk_ I.ok.bsz I.sz
 noex:=fun b o e hb=>by
  rcases (hf b hb).2.2.2.1 with z|z
  ·exact I.ok.noex b o e z
  ·exact absurd (jy_ (js_ (I.ok.bs b o e).1) z) (j5_ _)
 exfs:=fun b hb z=>by
  rcases jC_.mp (I.stkSub b z) with e|e
  ·exact (hf b hb).2.1 e
  ·exact (hf b hb).2.2.1 e
 funs:=I.stack
 frf:=I.stkFree
def PZ {c:Caps}{C:Addr}{s4:Shared}{m:Str->α5}(I:Inv X af σ H s)(S:BlkSc X sc)(hc:CJ X.N sc c)(hC:s.heap.objs.size<=C)(hf:∀b∈fp,FpOk X af H b)(ho:∀b∈fp,∃o,s.heap.get? b=some o)
  (dk:s4.os=s.os) (hb:s4.gens=s.gens) (hk:∀b o,s.heap.get? b=some o->s4.heap.get? b=some o) (hn:s4.heap.Ns C m):Inv (X.blk c.names sc C s H fp) [] (c.st σ) H s4 where
 ok:=VW I S hC hf ho
 os:=dk
 bare:=by rw[hb];exact I.bare
 base:=Un.kept hk
 loc:=by
  refine⟨m,hn,fun i x v h1 h2 hv=>?_⟩
  have fJ:(c.map (·.1))[i]?=some x:=h1
  have fK:(c.map fun p=>p.2.bind fun j=>(σ[j]?).join)[i]?=some (some v):=h2
  rw[jd_]at fJ fK
  cases e:c[i]? with
  |none=>rw[e]at fJ;cases fJ
  |some p=>
   obtain⟨y,oj⟩:=p
   rw[e]at fJ fK
   have e1:y=x:=jq_ fJ
   subst e1
   have e2:(oj.bind fun j=>(σ[j]?).join)=some v:=jq_ fK
   cases oj with
   |none=>cases e2
   |some j=>
    have e3:(σ[j]?).join=some v:=e2
    have e4:σ[j]?=some (some v):=by
     cases q:σ[j]? with
     |none=>rw[q]at e3;cases e3
     |some z=>rw[q]at e3;exact jH_ some e3
    obtain⟨k1,k2⟩:=CJ.get hc e
    have k3:X.env.kindOf y=some .cell\/X.env.kindOf y=some .free:=S.free (y,.free) (qh_ k2) rfl
    have lJ:Vis X.env.scope y:=by
     rcases k3 with k|k
     ·exact .inr (.inl k)
     ·exact .inr (.inr k)
    obtain⟨mX,hnX,hl⟩:=I.loc
    obtain⟨u,r,l⟩:=hl j y v k1 e4 lJ
    refine⟨u,r,?_⟩
    rcases l with ⟨k,_⟩|⟨_,ca,oh,z⟩
    ·rcases k3 with k' | k'<;>(rw[k]at k';cases k')
    ·obtain⟨kd,lQ,ek⟩:=Ef (env:=X.env) k2
     have eB:(compEnvC sc (clOf X.env sc.names []) C X.env).kindOf y=some kd:=ek
     obtain⟨c',fh⟩:=EL (env:=X.env) sc.names [] y (.inl (qh_ k2))
     obtain⟨c2,b9⟩:=Bd fh
     have e5:=BU I S b9
     rw[oh]at e5
     have e6:ca=c2:=jq_ e5
     subst e6
     refine .inr ⟨?_,ca,b9,?_⟩
     ·rcases lQ with rfl|rfl
      ·exact .inl eB
      ·exact .inr eB
     ·obtain⟨oc,du,hd⟩:=z
      exact⟨oc,hk _ _ du,hd⟩
 cell:=fun x ca h=>by
  obtain⟨v,oc,du,hd⟩:=I.cell x ca (BU I S h)
  exact⟨v,oc,hk _ _ du,hd⟩
 free:=I.hok.fresh hC
 freeC:=fun x ca h=>I.freeC x ca (BU I S h)
 pin:=fun p hp=>absurd (show p∈([]:α7) from hp) (by simp)
 hok:=I.hok.kept hk
 len:=by show (c.map _).length=(c.map _).length;rw[ja_,ja_]
def HOk.track       (x:HOk P w H h)(hn:H a=none)(new:Bk P w (upd H a o) h a o):HOk P w (upd H a o) h:=fun b u e=>by
 by_cases hb:b=a
 ·subst hb;rw[Ab]at e;cases e;exact new
 ·rw[Aj hb]at e
  exact (x b u e).stay (fun c v _ q=>q) (fun c q=>by rw[Aj (Aq q hn)];exact q) fun c xs q=>by rw[Aj (Aq q hn)];exact q
def Un.track {fs ex:List Addr}{H H':Hp}{h h':Heap}{a:Addr}{o:HO}(u:Un fs ex H H' h h')(ha:h.objs.size<=a)(hn:H' a=none):Un fs ex H (upd H' a o) h h' where
 keep:=u.keep
 slot:=u.slot
 free:=fun b ob q n hx=>by rw[Aj (jL_ (jy_ (js_ q) ha))];exact u.free b ob q n hx
 there:=u.there
 tups:=fun b xs q=>by rw[Aj (Aq (u.tups b xs q) hn)];exact u.tups b xs q
 frzs:=fun b ob xs q=>by rw[Aj (Aq (u.frzs b ob xs q) hn)];exact u.frzs b ob xs q
 tbls:=fun b ps q=>by
  obtain⟨more,e⟩:=u.tbls b ps q
  exact⟨more,by rw[Aj (Aq e hn)];exact e⟩
def Uz {c:Caps}{C D:Addr}{s':Shared}{ag:St}{H':Hp}{o:HO}(I:Inv X af σ H s)(J:Inv (X.blk c.names sc C s H fp) [] ag H' s')(hf:∀b∈fp,FpOk X af H b)(hD:s.heap.objs.size<=D)(hn:H' D=none)
  (new:Bk X.prog X.w (upd H' D o) s'.heap D o):Inv X af σ (upd H' D o) s':=by
 have u:Un (frs X.stack) fp H H' s.heap s'.heap:=J.base
 exact I.call' J.os (u.track hD hn) (J.hok.track hn new) J.bare fun b hb=>⟨(hf b hb).2.2.2.1,(hf b hb).2.1,(hf b hb).2.2.2.2.1,(hf b hb).2.2.2.2.2⟩
end
noncomputable def PF (X:Cx)(cb:List Expr)(t:TT):Prop:=
 ∀(af:α7) (s:Shared) (σ:St) (H:Hp) (Q:Bool->Hp->Prop),Inv X af σ H s->t σ H Q ->
  wpAny (model X.prog X.w) X.A (forIn cb true fun c r=>if r=true then do let ok <- isTrue c X.env (eval c X.env);pure (ForInStep.yield ok) else pure (ForInStep.yield r)) (TP X af σ Q) X.xe s
noncomputable def Og:TT:=fun _ H Q=>Q true H
def Be  : PF X [] Og:=fun _ _ _ H _ I h=>wpAny_tests_nil ⟨H,I,h⟩
def P0    (h:PT X c t):PF X [c] t:=fun af s σ H Q I hw=>wpAny_tests_one (h af s σ H Q I hw)
noncomputable def RU (wi:TI)(cp:Caps)(g:TG)(tc:TT)(te:TE):TE:=fun σ H Q=>wi σ H fun J H1=>∃W:Nat->Nat->List V->St->Hp->Prop,(∃m,W 0 m [] (cp.st σ) H1)/\∀i m ys ag H',W i m ys ag H' ->
 ys.length<sizeLine/\((J.stop i H'/\∀D,H' D=none->Q (.ref D) (upd H' D (.lst ys)))\/(J.go i H'/\∃N:List V->St->Hp->Prop,(∀zs aj H2,N zs aj H2->∃m',m'<m/\W (i+1) m' zs aj H2)/\∀x H2,J.yld i H' x H2->g x ag H2 fun aj H3=>tc aj H3 fun b H4=>
  if b=true then te aj H4 fun v H5=>N (ys++[v]) aj H5 else N ys aj H4))
section
variable {X:Cx} {tg iter cn:Expr} {cb:List Expr} {sc:Scope} {pos:Pos} {wi:TI} {cp:Caps} {g:TG} {tc:TT} {te:TE}
def K9 (hc:X.calm=true)(S:BlkSc X sc)(gP:CJ X.N sc cp)
  (hg:∀C s₀ H₀ ex,PG (X.blk cp.names sc C s₀ H₀ ex) tg g) (hf:∀C s₀ H₀ ex,PF (X.blk cp.names sc C s₀ H₀ ex) cb tc) (he:∀C s₀ H₀ ex,PE (X.blk cp.names sc C s₀ H₀ ex) cn te)
  {af:α7} {σ:St} {H:Hp} {s:Shared} {J:It} {it:Addr} {fp:List Addr} {tn:Nat->Heap->Prop} {Q:VK} {RR:Value->Addr->Result->Shared->Prop} {E:Value->Shared->Prop}
  (I:Inv X af σ H s) (T:Turn X.prog X.w X.K tg J fp it tn) (st:tn 0 s.heap) (eC:∀b∈fp,FpOk X af H b)
  (hw:∃W:Nat->Nat->List V->St->Hp->Prop,(∃m,W 0 m [] (cp.st σ) H)/\∀i m ys ag H',W i m ys ag H' ->
   ys.length<sizeLine/\((J.stop i H'/\∀D,H' D=none->Q (.ref D) (upd H' D (.lst ys)))\/(J.go i H'/\∃N:List V->St->Hp->Prop,(∀zs aj H2,N zs aj H2->∃m',m'<m/\W (i+1) m' zs aj H2)/\∀x H2,J.yld i H' x H2->g x ag H2 fun aj H3=>tc aj H3 fun b H4=>
    if b=true then te aj H4 fun v H5=>N (ys++[v]) aj H5 else N ys aj H4)))
  (hR:∀D C s' H' (m:Str->α5),Inv X af σ H' s'->Q (.ref D) H'->s'.heap.Ns C m->H' C=none->C≠X.env.locals->X.s₀.heap.objs.size<=C->(∀x c,X.env.cells.lookup x=some c->c≠C)->(∀p∈X.pn++af,p.1≠C)->RR (.ref D) C (.ok .next) s'):
  wpAny (model X.prog X.w) X.A (newList []) (fun ai bg=>wpAny (model X.prog X.w) X.A (newFunctionEnv sc X.env.globals (clOf X.env sc.names []) [] X.env.qual none .none (some X.env)) (fun fL ja=>
   codeAny (model X.prog X.w) X.A (.compStart (.ListComp cn [⟨tg,iter,cb,0⟩] sc pos) 0 (.ref it) ai {fL with scope:=relabel sc X.env}) (RR ai fL.locals) ja) E bg) E s:=by
 obtain⟨W,⟨m0,w0⟩,turn⟩:=hw
 refine qS_ (wpAny_newFunctionEnv S.nocell (by intro y hy;simp at hy) (fun h₁ bP cC=>?_) S.kind)
 dsimp only at bP cC ⊢
 generalize jb:s.heap.push {cls:=.type "list",dict:=none,data:=.seq ([]:List Value).toArray}=H2 at bP cC ⊢
 have hC:H2.objs.size=s.heap.objs.size+1:=by rw[<-jb,qw_]
 have iL:s.heap.objs.size≠H2.objs.size:=by rw[hC];exact jL_ (zy_ _)
 have bA:s.heap.objs.size<=H2.objs.size:=by rw[hC];exact zZ_ _
 have below:∀b,b<s.heap.objs.size->b≠H2.objs.size:=fun b hb=>by rw[hC];exact jL_ (xj_ hb)
 have old:∀b o,s.heap.get? b=some o->h₁.get? b=some o:=fun b o e=>cC.extBut b o (below b (js_ e)) (jo_ _ (jb ▸ jo_ _ e))
 have bQ:h₁.get? s.heap.objs.size=some {cls:=.type "list",data:=.seq ([]:List Value).toArray 0}:=cC.extBut _ _ iL (jo_ _ (jb ▸ jF_ _ rfl))
 have bR:tn 0 h₁:=T.keep 0 _ _ st fun b _ o e=>old b o e
 have bz:∀b∈fp,∃o,s.heap.get? b=some o:=fun b hb=>let ⟨o,e,_⟩:=T.obj 0 _ st b hb;⟨o,e⟩
 have J0:Inv (X.blk cp.names sc H2.objs.size s H fp) [] (cp.st σ) H {s with heap:=h₁,toks:=s.toks+([]:List (Str×Value)).length}:=PZ I S gP bA eC bz rfl rfl old bP
 have oi:∀b,s.heap.objs.size<=b->b∉frs X.stack:=fun b hb z=>by
  rcases jC_.mp (I.stkSub b z) with e|e
  ·exact absurd (jy_ I.lt (by rw[<-e];exact hb)) (j5_ _)
  ·exact I.nofs hb e
 have cZ:∀b,s.heap.objs.size<=b->∀x c,X.env.cells.lookup x=some c->c≠b:=fun b hb x c e z=>by
  obtain⟨v,q⟩:=I.cell x c e
  exact absurd (jy_ q.lt (by rw[z];exact hb)) (j5_ _)
 have lR:∀{aY:α7} {H':Hp},(∀b∈fp,H' b=none)->(∀p∈aY,p.1∉fp)->∀b∈fp,FpOk (X.blk cp.names sc H2.objs.size s H fp) aY H' b:=fun {aY H'} hn hp b hb=>by
  obtain⟨o,e⟩:=bz b hb
  refine⟨hn b hb,below b (js_ e),fun z=>?_,.inl hb,fun x c h=>(eC b hb).2.2.2.2.1 x c (BU I S h),fun p kL z=>?_⟩
  ·rcases jC_.mp (I.stkSub b z) with e|e
   ·exact (eC b hb).2.1 e
   ·exact (eC b hb).2.2.1 e
  ·have jc:p∈aY:=by simpa using kL
   exact hp p jc (by rw[z];exact hb)
 have loop:∀bg:Shared,bg={s with heap:=h₁,toks:=s.toks+([]:List (Str×Value)).length} ->
   codeAny (model X.prog X.w) X.A (.compLoop (.ListComp cn [⟨tg,iter,cb,0⟩] sc pos) 0 (.ref it) (.ref s.heap.objs.size) (compEnvC sc (clOf X.env sc.names []) H2.objs.size X.env))
    (RR (.ref s.heap.objs.size) H2.objs.size) bg:=by
  rintro bg rfl
  refine GL (fun n s'=>∃i ag H' ys its k,Inv (X.blk cp.names sc H2.objs.size s H fp) [] ag H' s'/\tn i s'.heap/\(∀b∈fp,H' b=none)/\H' s.heap.objs.size=none /\
   s'.heap.get? s.heap.objs.size=some {cls:=.type "list",data:=.seq its.toArray k}/\Vals ys its/\W i n ys ag H') ?_ m0
   ⟨0,_,H,[],[],0,J0,bR,fun b hb=>(eC b hb).1,I.hok.fresh (jg_ _),bQ,.nil,w0⟩
  rintro n s3 ⟨i,aA,H3,ys,its,k,I3,di,kI,om,e3,rv,w3⟩
  obtain⟨hz,tr⟩:=turn i n ys aA H3 w3
  have ak:=rv.length
  -- n0 accumulator stands still while anything else runs
  have fM:∀p ∈ [(s.heap.objs.size,({cls:=.type "list",data:=.seq its.toArray k}:Obj))],p.1∉fp:=fun p hp z=>by
   have e:p=_:=jr_.mp hp
   subst e
   obtain⟨o,e⟩:=bz _ z
   exact absurd (js_ e) (j5_ _)
  have lS:Inv (X.blk cp.names sc H2.objs.size s H fp) [(s.heap.objs.size,({cls:=.type "list",data:=.seq its.toArray k}:Obj))] aA H3 s3:=I3.pins_of fun p hp=>by
   have e:p=_:=jr_.mp hp
   subst e
   exact⟨e3,om,iL,oi _ (jg_ _),fun v z=>by cases z⟩
  have cz:∀b∈fp,FpOk (X.blk cp.names sc H2.objs.size s H fp) [(s.heap.objs.size,({cls:=.type "list",data:=.seq its.toArray k}:Obj))] H3 b:=lR kI fM
  rcases tr with ⟨stop,qn⟩|⟨go,N,hN,step⟩
  ·refine thn (T.done (X.blk cp.names sc H2.objs.size s H fp) rfl rfl rfl hc i _ s3 aA H3 _ lS cz di stop) fun r s4 ⟨hr,I4⟩=>?_
   subst hr
   obtain⟨e4,n4,_⟩:=I4.pin (s.heap.objs.size,({cls:=.type "list",data:=.seq its.toArray k}:Obj)) (by simp)
   have new:Bk X.prog X.w (upd H3 s.heap.objs.size (.lst ys)) s4.heap s.heap.objs.size (.lst ys):=⟨q1_ hz,its,k,rv,e4⟩
   obtain⟨mC,oo,_⟩:=I4.loc
   have oq:Inv (X.blk cp.names sc H2.objs.size s H fp) [] aA H3 s4:=I4.pins_of fun p hp=>by cases hp
   have I5:=Uz I oq eC (jg_ _) n4 new
   refine hR _ _ s4 _ mC I5 (qn _ n4) oo ?_ (qM_ (jy_ I.lt bA)) (qk_ I.sz bA) (cZ _ bA) fun p hp z=>?_
   ·rw[Aj (qp_ iL)];exact I4.free
   ·exact absurd (jy_ (js_ (I.pin p hp).1) (by rw[z];exact bA)) (j5_ _)
  ·refine thn (T.item (X.blk cp.names sc H2.objs.size s H fp) rfl rfl rfl hc i _ s3 aA H3 _ lS cz di go) fun r s4 ⟨u,hr,h4⟩=>?_
   subst hr
   refine thn h4 fun _ s5 ⟨x,H5,I5,r5,y5,a8,lL⟩=>?_
   have lM:=I5.pinned (lR lL fM) (T.obj _ _ a8)
   have fin:∀{cP:St} {H7:Hp} {s7:Shared},Inv (X.blk cp.names sc H2.objs.size s H fp) ([(s.heap.objs.size,({cls:=.type "list",data:=.seq its.toArray k}:Obj))]++Jj fp s5.heap) cP H7 s7 ->
     s7.heap.get? s.heap.objs.size=some {cls:=.type "list",data:=.seq its.toArray k}/\H7 s.heap.objs.size=none/\(∀b∈fp,H7 b=none)/\∀b∈fp,∀o,s5.heap.get? b=some o->s7.heap.get? b=some o:=fun {cP H7 s7} I7=>by
    obtain⟨e7,n7,_⟩:=I7.pin (s.heap.objs.size,({cls:=.type "list",data:=.seq its.toArray k}:Obj)) (by simp)
    refine⟨e7,n7,fun b hb=>?_,fun b hb o e=>?_⟩
    ·obtain⟨o,e,_⟩:=T.obj _ _ a8 b hb
     exact (I7.pin (b,o) (jx_ _ (jx_ _ (CG hb e)))).2.1
    ·exact (I7.pin (b,o) (jx_ _ (jx_ _ (CG hb e)))).1
   refine qO_ (hg _ _ _ _ _ s5 aA H5 x u _ lM r5 (step x H5 y5)) (fun _ s6 ⟨cW,H6,I6,q6⟩=>?_) fun _ _ z=>False.elim z
   refine qO_ (hf _ _ _ _ _ s6 cW H6 _ I6 q6) (fun ok s7 ⟨H7,I7,q7⟩=>?_) fun _ _ z=>False.elim z
   cases ok with
   |false=>
    rw[if_neg jt_]
    rw[if_neg jt_]at q7
    obtain⟨m',hm,w7⟩:=hN _ _ _ q7
    obtain⟨e7,n7,ot,k7⟩:=fin I7
    exact⟨m',hm,i+1,cW,H7,ys,its,k,I7.pins_of (fun p hp=>by cases hp),T.keep _ _ _ a8 k7,ot,n7,e7,rv,w7⟩
   |true=>
    rw[if_pos rfl]
    rw[if_pos rfl]at q7
    refine qO_ (he _ _ _ _ _ s7 cW H7 _ I7 q7) (fun v s8 ⟨y,H8,I8,r8,q8⟩=>?_) fun _ _ z=>False.elim z
    obtain⟨m',hm,w8⟩:=hN _ _ _ q8
    obtain⟨e8,n8,ou,k8⟩:=fin I8
    refine xD_ F.slot_list_append ⟨_,e8,rfl⟩ F.entry_list_append (zD_ _ _) (zV_ s.heap.objs.size its.toArray k v (by rw[jm_];lia)) ⟨e8,?_⟩
    obtain⟨k',q⟩:∃k',(s8.heap.update s.heap.objs.size (Obj.mapSeq fun x=>x.push v)).get? s.heap.objs.size=some {cls:=.type "list",data:=.seq (its++[v]).toArray k' }:=⟨_,by
     have q:=x3_ e8 fun x=>x.push v
     have e:(its++[v]).toArray=its.toArray.push v:=by simp
     rw[e]
     exact q⟩
    have I8':Inv (X.blk cp.names sc H2.objs.size s H fp) [] cW H8 s8:=I8.pins_of fun p hp=>by cases hp
    have I9:Inv (X.blk cp.names sc H2.objs.size s H fp) [] cW H8 {s8 with heap:=s8.heap.update s.heap.objs.size (Obj.mapSeq fun x=>x.push v),toks:=s8.toks}:=
     I8'.turned (it:=s.heap.objs.size) (fun b o hb e=>(j9_ _ _ (qp_ hb)).trans e) n8 iL (.inr (jg_ _)) (fun x c e=>cZ _ (jg_ _) x c (BU I S e)) (fun p hp=>by cases hp)
    refine⟨m',hm,i+1,cW,H8,ys++[y],its++[v],k',I9,T.keep (i+1) s5.heap _ a8 (fun b hb o e=>?_),ou,n8,q,rv.append (.cons r8 .nil),w8⟩
    ·refine (j9_ _ _ ?_).trans (k8 b hb o e)
     intro z
     obtain⟨ob,eb⟩:=bz b hb
     exact absurd (js_ eb) (by rw[<-z];exact j5_ _)
 exact codeAny_compStart_list (loop _ rfl) (T.self _ 0 _ _ _ bR (loop _ rfl))
def Ba (hc:X.calm=true)(S:BlkSc X sc)(gP:CJ X.N sc cp)(hi:PI X tg iter wi)
  (hg:∀C s₀ H₀ ex,PG (X.blk cp.names sc C s₀ H₀ ex) tg g) (hf:∀C s₀ H₀ ex,PF (X.blk cp.names sc C s₀ H₀ ex) cb tc) (he:∀C s₀ H₀ ex,PE (X.blk cp.names sc C s₀ H₀ ex) cn te)
  (hs:∀x,foldedSetIterable iter X.env x=pure x:=by intro _;rfl):PE X (.ListComp cn [⟨tg,iter,cb,0⟩] sc pos) (RU wi cp g tc te):=by
 intro af s σ H Q I h
 rw[eval_ListComp]
 refine za_ (use:=none) rfl hs (Gd (HV I S)) S.kind S.loc (thn (hi af s σ H _ I h) fun xv s₁ h₁=>thn h₁ fun lK bj cA=>?_)
 obtain⟨it,fp,tn,J,H2,e,I2,T,aN,f2,hw⟩:=cA
 subst e
 refine K9 (RR:=fun ai C=>compPost (model X.prog X.w) X.A X.xe none (EP X af σ Q) ai C) hc S gP hg hf he I2 T aN f2 hw ?_
 intro D C s' H' m I' q hn hC hL hz bF hp
 exact⟨m,hn,fun h' fN=>⟨.ref D,H',I'.turned (t':=s'.toks) (it:=C) (fun b o hb e=>fN.extBut b o hb e) hC hL (.inr hz) bF hp,rfl,q⟩⟩
def Du    (hN:X.N.Nodup)(hi:X.N[i]?=some x)(hx:X.env.scope.names.lookup x=some .local)(hc:X.calm=true)(S:BlkSc X sc)(gP:CJ X.N sc cp)(a9:PI X tg iter wi)
  (hg:∀C s₀ H₀ ex,PG (X.blk cp.names sc C s₀ H₀ ex) tg g) (hf:∀C s₀ H₀ ex,PF (X.blk cp.names sc C s₀ H₀ ex) cb tc) (he:∀C s₀ H₀ ex,PE (X.blk cp.names sc C s₀ H₀ ex) cn te)
  (oy:swapsWith (.ListComp cn [⟨tg,iter,cb,0⟩] sc pos) (some (.Name x px)) jd.line X.env=pure true:=by rfl)
  (hs:∀x,foldedSetIterable iter X.env x=pure x:=by intro _;rfl):PS X (.Assign [.Name x px] (.ListComp cn [⟨tg,iter,cb,0⟩] sc pos) jd) (tAsg (RU wi cp g tc te) (Gb i)):=by
 intro af s σ H D I h
 rw[exec_Assign_Name_used _ _ _ _ oy]
 refine je_ (wpAny_standAt (je_ ?_))
 show wpAny _ X.A (do let _ <- comprehension (.ListComp cn [⟨tg,iter,cb,0⟩] sc pos) sc X.env _ (newList []) false (eval iter X.env) (some (assign (.Name x px) X.env))) _ _ s
 refine je_ (qO_ (za_ (use:=some (assign (.Name x px) X.env)) (Q:=fun _ s'=>SP X af D .next s') rfl hs (Gd (HV I S)) S.kind S.loc
  (thn (a9 af s σ H _ I h) fun xv s₁ h₁=>thn h₁ fun lK bj cA=>?_)) (fun _ s' hq=>ju_ (ju_ hq)) fun _ _ e=>e)
 obtain⟨it,fp,tn,J,H2,e,I2,T,aN,f2,hw⟩:=cA
 subst e
 refine K9 (RR:=fun ai C=>compPost (model X.prog X.w) X.A X.xe (some (assign (.Name x px) X.env)) (fun _ s'=>SP X af D .next s') ai C) (Q:=fun v H1=>Gb i v σ H1 D.nx) hc S gP hg hf he I2 T aN f2 hw ?_
 intro Dl C s' H' m I' q hn hC hL hz bF hp
 show wpAny _ X.A (assign (.Name x px) X.env (.ref Dl)) _ _ _
 refine wpAny_assign_Name (HJ I' hN hi (.inl hx) (v:=.ref Dl) rfl (fun gK oz ⟨a,mZ,ha⟩=>?_) (.inr hx))
 have aw:C≠a:=by
  rcases ha with rfl|ha
  ·exact hL
  ·exact fun z=>bF _ _ ha z.symm
 refine⟨m,hn.sameBut mZ aw,fun h' fN=>⟨_,H',oz.turned (t':=gK.toks) (it:=C) (fun b o hb e=>fN.extBut b o hb e) hC hL (.inr hz) bF hp,q⟩⟩
end
def P4 {K:α3}{a:Addr}{xs:List V}{g:TG}{tc:TT}{te:TE}{Q:VK}{σ:St}{H:Hp}(Pv:Nat->List V->St->Hp->Prop)(h0:Pv 0 [] σ H)(hz:xs.length<sizeLine)
  (hl:∀i ys σ H,i<=xs.length->Pv i ys σ H->SqL K H a xs/\ys.length<=i)
  (hs:∀i x ys σ H,xs[i]?=some x->Pv i ys σ H->g x σ H fun aj H2=>tc aj H2 fun b H3=>if b=true then te aj H3 fun v H4=>Pv (i+1) (ys++[v]) aj H4 else Pv (i+1) ys aj H3)
  (hd:∀ys σ H,Pv xs.length ys σ H->∀D,H D=none->Q (.ref D) (upd H D (.lst ys))):
  ∃W:Nat->Nat->List V->St->Hp->Prop,(∃m,W 0 m [] σ H)/\∀i m ys ag H',W i m ys ag H' ->
   ys.length<sizeLine/\(((Itl K a).stop i H'/\∀D,H' D=none->Q (.ref D) (upd H' D (.lst ys)))\/((Itl K a).go i H'/\∃N:List V->St->Hp->Prop,(∀zs aj H2,N zs aj H2->∃m',m'<m/\W (i+1) m' zs aj H2)/\∀x H2,(Itl K a).yld i H' x H2->g x ag H2 fun aj H3=>tc aj H3 fun b H4=>
    if b=true then te aj H4 fun v H5=>N (ys++[v]) aj H5 else N ys aj H4)):=by
 refine⟨fun i m ys σ H=>m=xs.length-i/\i<=xs.length/\Pv i ys σ H,⟨xs.length,by simp,jX_ _,h0⟩,?_⟩
 rintro i m ys σ H ⟨rfl,hi,p⟩
 obtain⟨q,ly⟩:=hl i ys σ H hi p
 refine⟨by lia,?_⟩
 by_cases ar:i<xs.length
 ·refine .inr ⟨⟨xs,xs[i],q,by simp[ar]⟩,Pv (i+1),fun zs ag H' p'=>⟨xs.length-(i+1),by lia,rfl,ar,p'⟩,fun x H' y=>?_⟩
  obtain⟨e,y⟩:=y
  subst e
  exact hs i x ys σ _ (y xs q) p
 ·have e:i=xs.length:=by lia
  subst e
  exact .inl ⟨⟨xs,q,jg_ _⟩,hd ys σ H p⟩
def RV {K:α3}{a:Addr}{xs:List V}{g:TG}{tc:TT}{te:TE}{Q:VK}{σ:St}{H:Hp}(Pv:Nat->List V->St->Hp->Prop)(h0:Pv 0 [] σ H)(hz:xs.length<sizeLine)
  (hl:∀i ys σ H,i<=xs.length->Pv i ys σ H->SqT K H a xs/\ys.length<=i)
  (hs:∀i x ys σ H,xs[i]?=some x->Pv i ys σ H->g x σ H fun aj H2=>tc aj H2 fun b H3=>if b=true then te aj H3 fun v H4=>Pv (i+1) (ys++[v]) aj H4 else Pv (i+1) ys aj H3)
  (hd:∀ys σ H,Pv xs.length ys σ H->∀D,H D=none->Q (.ref D) (upd H D (.lst ys))):
  ∃W:Nat->Nat->List V->St->Hp->Prop,(∃m,W 0 m [] σ H)/\∀i m ys ag H',W i m ys ag H' ->
   ys.length<sizeLine/\(((Itt K a).stop i H'/\∀D,H' D=none->Q (.ref D) (upd H' D (.lst ys)))\/((Itt K a).go i H'/\∃N:List V->St->Hp->Prop,(∀zs aj H2,N zs aj H2->∃m',m'<m/\W (i+1) m' zs aj H2)/\∀x H2,(Itt K a).yld i H' x H2->g x ag H2 fun aj H3=>tc aj H3 fun b H4=>
    if b=true then te aj H4 fun v H5=>N (ys++[v]) aj H5 else N ys aj H4)):=by
 refine⟨fun i m ys σ H=>m=xs.length-i/\i<=xs.length/\Pv i ys σ H,⟨xs.length,by simp,jX_ _,h0⟩,?_⟩
 rintro i m ys σ H ⟨rfl,hi,p⟩
 obtain⟨q,ly⟩:=hl i ys σ H hi p
 refine⟨by lia,?_⟩
 by_cases ar:i<xs.length
 ·refine .inr ⟨⟨xs,xs[i],q,by simp[ar]⟩,Pv (i+1),fun zs ag H' p'=>⟨xs.length-(i+1),by lia,rfl,ar,p'⟩,fun x H' y=>?_⟩
  obtain⟨e,y⟩:=y
  subst e
  exact hs i x ys σ _ (y xs q) p
 ·have e:i=xs.length:=by lia
  subst e
  exact .inl ⟨⟨xs,q,jg_ _⟩,hd ys σ H p⟩
def Oh {lo:Int}{n:Nat}{g:TG}{tc:TT}{te:TE}{Q:VK}{σ:St}{H:Hp}(Pv:Nat->List V->St->Hp->Prop)(h0:Pv 0 [] σ H)(hz:n<sizeLine)
  (hl:∀i ys σ H,i<=n->Pv i ys σ H->ys.length<=i)
  (hs:∀i ys σ H,i<n->Pv i ys σ H->g (.int (lo+i)) σ H fun aj H2=>tc aj H2 fun b H3=>if b=true then te aj H3 fun v H4=>Pv (i+1) (ys++[v]) aj H4 else Pv (i+1) ys aj H3)
  (hd:∀ys σ H,Pv n ys σ H->∀D,H D=none->Q (.ref D) (upd H D (.lst ys))):
  ∃W:Nat->Nat->List V->St->Hp->Prop,(∃m,W 0 m [] σ H)/\∀i m ys ag H',W i m ys ag H' ->
   ys.length<sizeLine/\(((Itr lo n).stop i H'/\∀D,H' D=none->Q (.ref D) (upd H' D (.lst ys)))\/((Itr lo n).go i H'/\∃N:List V->St->Hp->Prop,(∀zs aj H2,N zs aj H2->∃m',m'<m/\W (i+1) m' zs aj H2)/\∀x H2,(Itr lo n).yld i H' x H2->g x ag H2 fun aj H3=>tc aj H3 fun b H4=>
    if b=true then te aj H4 fun v H5=>N (ys++[v]) aj H5 else N ys aj H4)):=by
 refine⟨fun i m ys σ H=>m=n-i/\i<=n/\Pv i ys σ H,⟨n,by simp,jX_ _,h0⟩,?_⟩
 rintro i m ys σ H ⟨rfl,hi,p⟩
 have ly:=hl i ys σ H hi p
 refine⟨by lia,?_⟩
 by_cases ar:i<n
 ·refine .inr ⟨ar,Pv (i+1),fun zs ag H' p'=>⟨n-(i+1),by lia,rfl,ar,p'⟩,fun x H' y=>?_⟩
  obtain⟨e,y⟩:=y
  subst e y
  exact hs i ys σ _ ar p
 ·have e:i=n:=by lia
  subst e
  exact .inl ⟨jg_ _,hd ys σ H p⟩
end L2
namespace L2
open PySem PySem.Spec PyProof.Rows
section
variable {X:Cx}
def J3 {bs:List Bool}{its:List Value}(r:Vals (bs.map V.bl) its){i:Nat}{v:Value}(h:its[i]?=some v):∃b,bs[i]?=some b/\v=.bool b:=by
 have hi:i<its.length:=(jb_.mp h).1
 have hl:=r.length
 rw[ja_]at hl
 obtain⟨u,hu,ru⟩:=r.get (i:=i) (x:=V.bl bs[i]) (by rw[jd_];simp[show i<bs.length by lia])
 rw[h]at hu
 cases hu
 exact⟨bs[i],by simp[show i<bs.length by lia],ru⟩
def VX (bs:List Bool):(List.range bs.length).map (fun i=>bs.getD i false)=bs:=
 List.ext_getElem (by simp) fun i _ h=>by simp[h]
def P5 {bs:List Bool}:(List.range bs.length).all (fun i=>bs.getD i false)=bs.all id:=by
 have e:=jH_ (fun l=>l.all id) (VX bs)
 rw[List.all_map]at e;exact e
def Mh {bs:List Bool}{its:List Value}{A:Around}{P:Program}{w:World}(r:Vals (bs.map V.bl) its):TruthOf P w A (fun i v=>its.toArray[i]?=some v) (fun i=>bs.getD i false):=by
 intro i v s Q E hv hq
 obtain⟨b,hb,e⟩:=J3 r (by simpa using hv)
 subst e
 refine xx_ ?_
 have e:bs.getD i false=b:=by rw[jj_,hb];rfl
 have gz:Q (bs.getD i false) s:=hq
 rw[e]at gz
 exact gz
def RW (hc:X.calm=true):Cg X (.builtin "all") (fun xs H Q=>∃(p:Addr) (bs:List Bool),xs=[.ref p]/\SqL X.K H p (bs.map V.bl)/\Q (.bl (bs.all id)) H):=by
 intro af s σ H xs us Q I r h
 obtain⟨p,bs,rfl,hq,q⟩:=h
 obtain⟨u,rfl,ru⟩:=vals1 r
 cases ru
 obtain⟨its,rv,pl,hz⟩:=I.list hq
 have ak:=rv.length
 rw[ja_]at ak
 have hh:X.A.in1.handled=none:=I.ok.hd hc
 obtain⟨o,ho,_⟩:=id pl.isList
 have aw:p≠s.heap.objs.size:=jL_ (js_ ho)
 refine call_all_walk (zn_ pl.isList ?_)
 refine⟨s.heap.objs.size,_,_,its.toArray.size,_,_,fun i=>bs.getD i false,rfl,Walks.list hh _ p aw its.toArray,⟨⟨_,jF_ _ rfl,rfl,rfl⟩,pl.isList.at fun o e=>jo_ _ e⟩,Mh rv,fun h' tk hk=>?_⟩
 refine⟨.bl (bs.all id),H,I.kept (t':=tk) fun b o e=>hk b o ?_ (jo_ _ e),?_,q⟩
 ·intro hb
  have e':b=s.heap.objs.size:=by simpa using hb
  exact absurd (js_ e) (by rw[e'];exact j5_ _)
 ·rw[jm_,<-ak,P5];rfl
def Dv:Cg X (.builtin "isinstance") (fun xs H Q=>∃x c cv t b,xs=[x,c]/\TyOf X.K H x t/\(∀u,RelV c u->u=cv)/\kitOne X.K t cv=some b/\Q (.bl b) H):=by
 intro af s σ H xs us Q I r h
 obtain⟨x,c,cv,t,b,rfl,ty,hc,hk,q⟩:=h
 obtain⟨u,w',rfl,rx,rc⟩:=vals2 r
 rw[hc _ rc]
 exact Pj I rx ty hk fun tk=>⟨.bl b,H,I.tok tk,rfl,q⟩
noncomputable def EqD (K:α3)(H:Hp):Nat->V->V->Bool->Prop
 |0,x,y,b=>Cy x=true/\Cy y=true/\b=eqV x y
 |n+1,x,y,b=>(Cy x=true/\Cy y=true/\b=eqV x y) \/ ∃a c xs ys,x=.ref a/\y=.ref c/\((SqL K H a xs/\SqL K H c ys)\/(SqT K H a xs/\SqT K H c ys)) /\
   ∃e:Nat->Bool,(∀i x y,xs[i]?=some x->ys[i]?=some y->EqD K H n x y (e i))/\b=(decide (xs.length=ys.length)&&(List.range (min xs.length ys.length)).all e)
def in1_units (A:Around):A.in1.units=A.units+1:=rfl
def Nj  (h:Cy x=true):eqV x x=true:=by
 cases x<;>first|rfl|(simp[eqV];done)|exact absurd (show false=true from h) jt_
def EqD.self     (I:Inv X af σ H s):∀(n:Nat) {x:V} {b:Bool},EqD X.K H n x x b->b=true:=by
 intro n
 induction n with
 |zero=>
  rintro x b ⟨fx,_,rfl⟩
  exact Nj fx
 |succ n ih=>
  rintro x b (⟨fx,_,rfl⟩|⟨a,c,xs,ys,rfl,e2,hq,e,he,rfl⟩)
  ·exact Nj fx
  ·cases e2
   have oA:xs=ys:=by
    rcases hq with ⟨h1,h2⟩|⟨h1,h2⟩
    ·exact I.list_inj h1 h2
    ·exact I.tuple_inj h1 h2
   subst oA
   simp only[decide_true,Bool.true_and,Nat.min_self,qJ_,jG_]
   intro i hi
   exact ih (he i xs[i] xs[i] (by simp[hi]) (by simp[hi]))
def UA   : ((List.range (min n m)).all e&&n==m)=(decide (n=m)&&(List.range (min n m)).all e):=by
 rw[Bool.and_comm]
 congr 1
def EqD.at     (I:Inv X af σ H s):∀(n:Nat) (A:Around) {x y:V} {u v:Value} {b:Bool},A.units+n<cLine->RelV x u->RelV y v->EqD X.K H n x y b ->
  SeqAt.EqAt A s u v b/\∀a c,x=.ref a->y=.ref c->SeqAt.RcAt A s u v b:=by
 intro n
 induction n with
 |zero=>
  intro A x y u v b hu rx ry h
  obtain⟨fx,fy,rfl⟩:=h
  refine⟨Pt rx ry fx fy,?_⟩
  rintro a c rfl rfl
  exact absurd (show false=true from fx) jt_
 |succ n ih=>
  intro A x y u v b hu rx ry h
  have hself:=h
  rcases h with ⟨fx,fy,rfl⟩|⟨a,c,xs,ys,rfl,rfl,hq,e,he,rfl⟩
  ·refine⟨Pt rx ry fx fy,?_⟩
   rintro a c rfl rfl
   exact absurd (show false=true from fx) jt_
  ·cases rx
   cases ry
   have key:∀(its aI:List Value),Vals xs its->Vals ys aI->∀j (h1:j<its.toArray.size) (h2:j<aI.toArray.size),SeqAt.EqAt A.in1 s its.toArray[j] aI.toArray[j] (e j):=fun its aI r1 r2 j h1 h2=>by
    have l1:=r1.length
    have l2:=r2.length
    rw[jm_]at h1 h2
    obtain⟨u1,g1,q1⟩:=r1.get (i:=j) (x:=xs[j]'s!"") (by simp[show j<xs.length by lia])
    obtain⟨u2,g2,q2⟩:=r2.get (i:=j) (x:=ys[j]'s!"") (by simp[show j<ys.length by lia])
    have k1:its.toArray[j]'(by rw[jm_];exact h1)=u1:=by
     have:=(jb_.mp g1).2
     simpa using this
    have k2:aI.toArray[j]'(by rw[jm_];exact h2)=u2:=by
     have:=(jb_.mp g2).2
     simpa using this
    rw[k1,k2]
    exact (ih A.in1 (by rw[in1_units];lia) q1 q2 (he j _ _ (by simp[show j<xs.length by lia]) (by simp[show j<ys.length by lia]))).1
   have rc:SeqAt.RcAt A s (.ref a) (.ref c) (decide (xs.length=ys.length)&&(List.range (min xs.length ys.length)).all e):=by
    rcases hq with ⟨h1,h2⟩|⟨h1,h2⟩
    ·obtain⟨its,r1,p1,_⟩:=I.list h1
     obtain⟨aI,r2,p2,_⟩:=I.list h2
     have l1:=r1.length
     have l2:=r2.length
     by_cases hl:xs.length=ys.length
     ·have:=SeqAt.RcAt.lists (e:=e) p1.isList p2.isList (by rw[jm_,jm_];lia) s!"" (key its aI r1 r2)
      rw[jm_,<-l1]at this
      rw[j8_ hl,Bool.true_and,<-hl,Nat.min_self]
      exact this
     ·rw[qf_ hl,Bool.false_and]
      exact SeqAt.RcAt.lists_lengths p1.isList p2.isList (by rw[jm_,jm_];simp;lia) s!""
    ·obtain⟨its,r1,p1,_⟩:=I.tuple h1
     obtain⟨aI,r2,p2,_⟩:=I.tuple h2
     have l1:=r1.length
     have l2:=r2.length
     have:=SeqAt.RcAt.tuples (e:=e) (show s.heap.IsTuple a its.toArray from p1) (show s.heap.IsTuple c aI.toArray from p2) s!"" (key its aI r1 r2)
     rw[jm_,jm_,<-l1,<-l2,UA]at this
     exact this
   refine⟨?_,fun a' c' _ _=>rc⟩
   by_cases hac:a=c
   ·subst hac
    rw[EqD.self I (n+1) hself]
    exact SeqAt.EqAt.same _
   ·exact SeqAt.EqAt.of_refs hac rc
def EqD.flat {K:α3}    (hq:(SqL K H a xs/\SqL K H c ys)\/(SqT K H a xs/\SqT K H c ys))(fx:∀x∈xs,Cy x=true)(fy:∀y∈ys,Cy y=true)(hi:∀x∈xs,∀y∈ys,eqV x y=decide (x=y))(n:Nat):
  EqD K H (n+1) (.ref a) (.ref c) (decide (xs=ys)):=by
 have base:∀m i x y,xs[i]?=some x->ys[i]?=some y->EqD K H m x y (decide (x=y)):=fun m i x y h1 h2=>by
  have m1:=jc_ h1
  have m2:=jc_ h2
  cases m with
  |zero=>exact⟨fx _ m1,fy _ m2,(hi _ m1 _ m2).symm⟩
  |succ m=>exact .inl ⟨fx _ m1,fy _ m2,(hi _ m1 _ m2).symm⟩
 refine .inr ⟨a,c,xs,ys,rfl,rfl,hq,fun i=>match xs[i]?,ys[i]? with|some x,some y=>decide (x=y)|_,_=>true,fun i x y h1 h2=>?_,?_⟩
 ·simp only[h1,h2]
  exact base n i x y h1 h2
 ·rw[qB_]
  simp only[qs_,qd_,qJ_,jG_]
  constructor
  ·rintro rfl
   refine⟨rfl,fun i hi=>?_⟩
   have hi:i<xs.length:=by lia
   simp[hi]
  ·rintro⟨hl,h⟩
   refine qL_ fun i=>?_
   by_cases hi:i<xs.length
   ·have:=h i s!""
    simp[hi,show i<ys.length by lia]at this
    simp[hi,show i<ys.length by lia,this]
   ·rw[jT_ s!"",jT_ s!""]
end
end L2
namespace L2
open PySem PySem.Spec PyProof.Rows
noncomputable def VY (outer:List (Str×NameKind))(sc:Scope):Bool:=
 sc.kind == .function&&sc.names.all (fun y=>y.2 != .cell&&(y.2 != .local||sc.names.lookup y.1==some .local)&&(y.2 != .free||outer.lookup y.1==some .cell||outer.lookup y.1==some .free))
def A4   (h:VY X.env.scope.names sc=true):BlkSc X sc:=by
 unfold VY at h
 rw[qd_,qJ_]at h
 obtain⟨h1,h2⟩:=h
 refine⟨by simpa using h1,fun y hy z=>?_,fun y hy z=>?_,fun y hy z=>?_⟩
 ·have:=h2 y hy
  simp only[qd_]at this
  have:=this.1.1
  rw[z]at this
  exact absurd this (by decide)
 ·have:=h2 y hy
  simp only[qd_]at this
  have:=this.1.2
  rw[z]at this
  simpa using this
 ·have:=h2 y hy
  simp only[qd_]at this
  have:=this.2
  rw[z]at this
  have t:(X.env.scope.names.lookup y.1==some .cell||X.env.scope.names.lookup y.1==some .free)=true:=by simpa using this
  rw[Bool.or_eq_true]at t
  rcases t with t|t
  ·exact .inl (by show X.env.scope.names.lookup y.1=some .cell;simpa using t)
  ·exact .inr (by show X.env.scope.names.lookup y.1=some .free;simpa using t)
section
variable {t u:TS} {te ta tb tc':TE} {tt tu:TT} {A B:TA} {D:Ends} {σ:St} {H:Hp} {Q:VK} {R:Bool->Hp->Prop} {S:List V->Hp->Prop} {i:Nat} {v:V} {g:TG} {r r':R2} {K:α3} {wi:TI} {cp:Caps}
theorem VZ:tSeq t u D σ H=t {D with nx:=u D} σ H:=rfl
theorem S4:Vv D σ H=D.nx σ H:=rfl
theorem V0:tAsg te g D σ H=te σ H fun x H1=>g x σ H1 D.nx:=rfl
theorem P6  : Gb i v σ H N=N (σ.set i (some v)) H:=rfl
theorem V1:tVar i σ H Q=∃v,σ[i]?=some (some v)/\Q v H:=rfl
theorem r_c:tC v σ H Q=Q v H:=rfl
theorem r_op:tOp r ta tb σ H Q=ta σ H fun x H1=>tb σ H1 fun y H2=>r x y H2 Q:=rfl
theorem r_un  : tUn f ta σ H Q=ta σ H fun x H1=>f x H1 Q:=rfl
theorem r_I    : rI C f x y H Q=∃i j,x=.int i/\y=.int j/\C i j/\Q (f i j) H:=rfl
theorem r_I0   : rI0 f x y H Q=∃i j,x=.int i/\y=.int j/\Q (f i j) H:=rfl
theorem r_U   : rU f x H Q=∃i,x=.int i/\Q (f i) H:=rfl
theorem S5    : Uq sp gr E A σ H Q=A σ H fun vs H1=>sp (vs++gr) H1 Q E:=rfl
theorem S6:VG te A σ H S=te σ H fun x H1=>A σ H1 fun xs H2=>S (x::xs) H2:=rfl
theorem V2:tNil σ H S=S [] H:=rfl
theorem V3:tRet te D σ H=te σ H D.rt:=rfl
theorem S7:Vw te D σ H=te σ H fun _ H1=>D.nx σ H1:=rfl
theorem r_if:tIfS tt t u D σ H=tt σ H fun b H1=>if b=true then t D σ H1 else u D σ H1:=rfl
theorem r_B:tB te σ H R=te σ H fun x H1=>∃c,x=.bl c/\R c H1:=rfl
theorem S8:RI te σ H R=te σ H fun x H1=>∃c,x=.bl c/\R c H1:=rfl
theorem V4:tAnd tt tu σ H R=tt σ H fun c H1=>if c=true then tu σ H1 R else R false H1:=rfl
theorem r_or:tOr tt tu σ H R=tt σ H fun c H1=>if c=true then R true H1 else tu σ H1 R:=rfl
theorem V5:tNot tt σ H R=tt σ H fun c H1=>R (!c) H1:=rfl
theorem S9:Vs ta tb σ H Q=ta σ H fun x H1=>∃c,x=.bl c/\if c=true then tb σ H1 Q else Q (.bl false) H1:=rfl
theorem P7:S1 r r' ta tb tc' σ H Q=ta σ H fun x H1=>tb σ H1 fun y H2=>r x y H2 fun z H3=>∃k,z=.bl k/\(if k=true then tc' σ H3 fun w' H4=>r' y w' H4 Q else Q (.bl false) H3):=rfl
theorem r_CB  : tCB f A σ H Q=A σ H fun vs H1=>f vs H1 Q:=rfl
theorem V6:tLst A σ H Q=A σ H fun xs H1=>xs.length<=sizeLine/\∀p,H1 p=none->Q (.ref p) (upd H1 p (.lst xs)):=rfl
theorem V7:tTup A σ H Q=A σ H fun xs H1=>xs.length<=sizeLine/\∀p,H1 p=none->Q (.ref p) (upd H1 p (.tup xs)):=rfl
theorem V8  : rIxL K x y H Q=∃p xs i v,x=.ref p/\y=.int i/\SqL K H p xs/\atI xs i=some v/\Q v H:=rfl
theorem V9  : rIxT K x y H Q=∃p xs i v,x=.ref p/\y=.int i/\SqT K H p xs/\atI xs i=some v/\Q v H:=rfl
theorem r_sl   : tSl f te tl th σ H Q=te σ H fun x H1=>tl σ H1 fun l H2=>th σ H2 fun u H3=>f x l u H3 Q:=rfl
theorem Ta  : VL te σ H U=te σ H fun x H1=>∃i,x=.int i/\U (some i) H1:=rfl
theorem Nk  : Pl σ H U=U none H:=rfl
theorem Wa  {lo hi:Option Int}:rSlL K x lo hi H Q=∃a xs,x=.ref a/\SqL K H a xs/\∀p,H p=none->Q (.ref p) (upd H p (.lst (cutV xs lo hi))):=rfl
theorem r_BM   : tBM K T f te A σ H Q=te σ H fun x H1=>tyV K T x H1/\A σ H1 fun xs H2=>f x xs H2 Q:=rfl
theorem Nl   : Pu x vs H Q=∃l xs y,x=.ref l/\vs=[y]/\H l=some (.lst xs)/\xs.length<sizeLine/\Q .non (upd H l (.lst (xs++[y]))):=rfl
theorem Tc    : gSub to ti ts v σ H N=to σ H fun o H1=>ti σ H1 fun i H2=>ts o i v H2 fun H3=>N σ H3:=rfl
theorem Td   : VO o k v H N=∃p xs m j,o=.ref p/\k=.int m/\H p=some (.lst xs)/\ixN xs.length m=some j/\N (upd H p (.lst (xs.set j v))):=rfl
theorem r_Eq  : rEq x y H Q=(scal x y=true/\Q (.bl (decide (x=y))) H):=rfl
theorem r_Ne  : rNe x y H Q=(scal x y=true/\Q (.bl (!decide (x=y))) H):=rfl
theorem P8  : VA K te σ H Z=te σ H fun x H1=>∃a,x=.ref a/\(∃xs,SqL K H1 a xs)/\Z (Itl K a) H1:=rfl
theorem Te  : iTup K te σ H Z=te σ H fun x H1=>∃a,x=.ref a/\(∃xs,SqT K H1 a xs)/\Z (Itt K a) H1:=rfl
theorem P9  : VB A σ H Z=A σ H fun vs H1=>∃j:Int,vs=[.int j] /\ -(2 ^ 62)<=j/\j<2 ^ 62/\Z (Itr 0 j.toNat) H1:=rfl
theorem Wb  : tAug i te ti D σ H=∃x,σ[i]?=some (some x)/\te σ H fun y H1=>ti x y H1 fun z H2=>D.nx (σ.set i (some z)) H2:=rfl
theorem r_ip   : ipI f x y H Q=∃i j,x=.int i/\y=.int j/\Q (.int (f i j)) H:=rfl
theorem Tf:Og σ H R=R true H:=rfl
end
def Same.new    (h:H p=none):Same H (upd H p o):=fun b u e=>by rw[Aj (Aq e h)];exact e
def Same.newT    (s:Same H H')(h:H' p=none):Same H (upd H' p o):=s.trans (Same.new h)
def Same.over    (s:Same H H')(h:H p=none):Same H (upd H' p o):=fun b u e=>by rw[Aj (Aq e h)];exact s b u e
def AI    (h:upd H p o D=none):H D=none/\D≠p:=by
 by_cases e:D=p
 ·subst e;rw[Ab]at h;cases h
 ·rw[Aj e]at h;exact⟨h,e⟩
def Same.seqT {K:α3}    (e:Same H H')(h:SqT K H a xs):SqT K H' a xs:=by
 rcases h with (h|⟨o,h⟩)|h
 ·exact .inl (.inl (e _ _ h))
 ·exact .inl (.inr ⟨o,e _ _ h⟩)
 ·exact .inr h
def hu9   (hr:Room k A):A.units+8<cLine:=by have:=hr.units;lia
section
variable {K:α3} {wi:TI} {cp:Caps} {g:TG} {tc:TT} {te:TE} {σ:St} {H:Hp} {Q:VK}
theorem Wc               : (cxOf CX P w K mg base N qual scope f cd A outer s H E).K=K:=rfl
noncomputable def La (J:It)(cp:Caps)(g:TG)(tc:TT)(te:TE)(σ:St)(H1:Hp)(Q:VK):Prop:=∃W:Nat->Nat->List V->St->Hp->Prop,(∃m,W 0 m [] (cp.st σ) H1)/\∀i m ys ag H',W i m ys ag H' ->
 ys.length<sizeLine/\((J.stop i H'/\∀D,H' D=none->Q (.ref D) (upd H' D (.lst ys)))\/(J.go i H'/\∃N:List V->St->Hp->Prop,(∀zs aj H2,N zs aj H2->∃m',m'<m/\W (i+1) m' zs aj H2)/\∀x H2,J.yld i H' x H2->g x ag H2 fun aj H3=>tc aj H3 fun b H4=>
  if b=true then te aj H4 fun v H5=>N (ys++[v]) aj H5 else N ys aj H4))
theorem Tg:RU wi cp g tc te σ H Q=wi σ H fun J H1=>La J cp g tc te σ H1 Q:=rfl
noncomputable def ForW (J:It)(g:TG)(tb:TS)(D:Ends)(σ:St)(H1:Hp):Prop:=∃W:Nat->Nat->St->Hp->Prop,(∃m,W 0 m σ H1)/\∀i m σ H,W i m σ H ->
 (J.stop i H/\D.nx σ H)\/(J.go i H/\∃N:St->Hp->Prop,(∀ag H',N ag H'->∃m',m'<m/\W (i+1) m' ag H')/\∀x H',J.yld i H x H'->g x σ H' fun aj H2=>tb {D with nx:=N,ct:=N,bk:=D.nx} aj H2)
theorem We   : tFor wi g tb D σ H=wi σ H fun J H1=>ForW J g tb D σ H1:=rfl
def forL        (Pv:Nat->St->Hp->Prop)(h0:Pv 0 σ H)(hl:∀i σ H,i<=xs.length->Pv i σ H->SqL K H a xs)
  (hs:∀i x σ H,xs[i]?=some x->Pv i σ H->g x σ H fun aj H2=>tb {D with nx:=Pv (i+1),ct:=Pv (i+1),bk:=D.nx} aj H2) (hd:∀σ H,Pv xs.length σ H->D.nx σ H):ForW (Itl K a) g tb D σ H:=RG Pv h0 hl hs hd
def forT        (Pv:Nat->St->Hp->Prop)(h0:Pv 0 σ H)(hl:∀i σ H,i<=xs.length->Pv i σ H->SqT K H a xs)
  (hs:∀i x σ H,xs[i]?=some x->Pv i σ H->g x σ H fun aj H2=>tb {D with nx:=Pv (i+1),ct:=Pv (i+1),bk:=D.nx} aj H2) (hd:∀σ H,Pv xs.length σ H->D.nx σ H):ForW (Itt K a) g tb D σ H:=Ul Pv h0 hl hs hd
def forR {lo:Int}       (Pv:Nat->St->Hp->Prop)(h0:Pv 0 σ H)
  (hs:∀i σ H,i<n->Pv i σ H->g (.int (lo+i)) σ H fun aj H2=>tb {D with nx:=Pv (i+1),ct:=Pv (i+1),bk:=D.nx} aj H2) (hd:∀σ H,Pv n σ H->D.nx σ H):ForW (Itr lo n) g tb D σ H:=O8 Pv h0 hs hd
def IW   (Pv:Nat->List V->St->Hp->Prop)(h0:Pv 0 [] (cp.st σ) H)(hz:xs.length<sizeLine)
  (hl:∀i ys σ H,i<=xs.length->Pv i ys σ H->SqL K H a xs/\ys.length<=i)
  (hs:∀i x ys σ H,xs[i]?=some x->Pv i ys σ H->g x σ H fun aj H2=>tc aj H2 fun b H3=>if b=true then te aj H3 fun v H4=>Pv (i+1) (ys++[v]) aj H4 else Pv (i+1) ys aj H3)
  (hd:∀ys σ H,Pv xs.length ys σ H->∀D,H D=none->Q (.ref D) (upd H D (.lst ys))):La (Itl K a) cp g tc te σ H Q:=P4 Pv h0 hz hl hs hd
def UB   (Pv:Nat->List V->St->Hp->Prop)(h0:Pv 0 [] (cp.st σ) H)(hz:xs.length<sizeLine)
  (hl:∀i ys σ H,i<=xs.length->Pv i ys σ H->SqT K H a xs/\ys.length<=i)
  (hs:∀i x ys σ H,xs[i]?=some x->Pv i ys σ H->g x σ H fun aj H2=>tc aj H2 fun b H3=>if b=true then te aj H3 fun v H4=>Pv (i+1) (ys++[v]) aj H4 else Pv (i+1) ys aj H3)
  (hd:∀ys σ H,Pv xs.length ys σ H->∀D,H D=none->Q (.ref D) (upd H D (.lst ys))):La (Itt K a) cp g tc te σ H Q:=RV Pv h0 hz hl hs hd
def J4 {lo:Int}  (Pv:Nat->List V->St->Hp->Prop)(h0:Pv 0 [] (cp.st σ) H)(hz:n<sizeLine)
  (hl:∀i ys σ H,i<=n->Pv i ys σ H->ys.length<=i)
  (hs:∀i ys σ H,i<n->Pv i ys σ H->g (.int (lo+i)) σ H fun aj H2=>tc aj H2 fun b H3=>if b=true then te aj H3 fun v H4=>Pv (i+1) (ys++[v]) aj H4 else Pv (i+1) ys aj H3)
  (hd:∀ys σ H,Pv n ys σ H->∀D,H D=none->Q (.ref D) (upd H D (.lst ys))):La (Itr lo n) cp g tc te σ H Q:=Oh Pv h0 hz hl hs hd
def EM    (f:V->V)(e:cp.st σ=none::ag)(hl:SqT K H a xs)(hz:xs.length<sizeLine)(hs:∀x∈xs,∀R:VK,R (f x) H->te (some x::ag) H R)(hd:∀D,H D=none->Q (.ref D) (upd H D (.lst (xs.map f)))):
  La (Itt K a) cp (Gb 0) Og te σ H Q:=by
 refine UB (xs:=xs) (fun i ys aj H2=>H2=H/\ys=(xs.take i).map f/\∃o,aj=o::ag) ⟨rfl,by simp,none,e⟩ hz (fun i ys aj H2 hi h=>?_) (fun i x ys aj H2 hx h=>?_) (fun ys aj H2 h=>?_)
 ·obtain⟨rfl,rfl,_⟩:=h
  exact⟨hl,by rw[ja_,jw_];lia⟩
 ·obtain⟨rfl,rfl,o,rfl⟩:=h
  refine hs x (jc_ hx) _ ⟨rfl,?_,some x,rfl⟩
  rw[jQ_,hx];simp
 ·obtain⟨rfl,rfl,_⟩:=h
  rw[jO_]
  exact hd
def EO    (f:V->V)(e:cp.st σ=none::ag)(hl:SqL K H a xs)(hz:xs.length<sizeLine)(hs:∀x∈xs,∀R:VK,R (f x) H->te (some x::ag) H R)(hd:∀D,H D=none->Q (.ref D) (upd H D (.lst (xs.map f)))):
  La (Itl K a) cp (Gb 0) Og te σ H Q:=by
 refine IW (xs:=xs) (fun i ys aj H2=>H2=H/\ys=(xs.take i).map f/\∃o,aj=o::ag) ⟨rfl,by simp,none,e⟩ hz (fun i ys aj H2 hi h=>?_) (fun i x ys aj H2 hx h=>?_) (fun ys aj H2 h=>?_)
 ·obtain⟨rfl,rfl,_⟩:=h
  exact⟨hl,by rw[ja_,jw_];lia⟩
 ·obtain⟨rfl,rfl,o,rfl⟩:=h
  refine hs x (jc_ hx) _ ⟨rfl,?_,some x,rfl⟩
  rw[jQ_,hx];simp
 ·obtain⟨rfl,rfl,_⟩:=h
  rw[jO_]
  exact hd
end
noncomputable def tCut (t u:TS):TS:=fun D σ H=>∃R:St->Hp->Prop,t {D with nx:=R} σ H/\∀ag H',R ag H'->u D ag H'
def BC  {st:Stmt}{rest:List Stmt}  (h1:PS X st t)(h2:PSs X rest u):PSs X (st::rest) (tCut t u):=by
 intro af s σ H D I h
 obtain⟨R,ha,hb⟩:=h
 refine wpAny_execs_cons (thn (h1 af s σ H {D with nx:=R} I ha) fun f s1 q=>?_)
 cases f with
 |next=>
  obtain⟨ag,H',I',q⟩:=q
  exact h2 af s1 ag H' D I' (hb ag H' q)
 |ret v=>exact q
 |brk=>exact q
 |cont=>exact q
def As:1000000<sizeLine:=by rw[sizeLine_eq];decide
def CS {ns:α2}{x:V}(h:x∈ns.map V.int):∃n,n∈ns/\x=.int n:=by
 obtain⟨n,hn,e⟩:=jv_.mp h
 exact⟨n,hn,e.symm⟩
def BQ {ns:α2}{i:Nat}{x:V}(h:(ns.map V.int)[i]?=some x):∃n,ns[i]?=some n/\x=.int n:=by
 rw[jd_]at h
 cases e:ns[i]? with
 |none=>rw[e]at h;cases h
 |some n=>rw[e]at h;exact⟨n,rfl,(jq_ h).symm⟩
noncomputable def cutI (ns:α2)(lo hi:Option Int):α2:=(ns.drop (HT.sIx ns.length 0 lo)).take (HT.sIx ns.length ns.length hi-HT.sIx ns.length 0 lo)
def Nm (ns:α2)(lo hi:Option Int):cutV (ns.map V.int) lo hi=(cutI ns lo hi).map V.int:=by
 unfold cutV cutI
 rw[ja_,<-List.map_drop,<-List.map_take]
def Nn (ns:α2)(j:Nat)(x:Int):(ns.map V.int).set j (.int x)=(ns.set j x).map V.int:=by rw[List.map_set]
def Wg {n:Nat}{i:Int}(h0:0<=i)(h1:i<n):ixN n i=some i.toNat:=by
 unfold ixN;rw[if_pos h0,if_pos h1]
def B2     (h0:0<=i)(h:xs[i.toNat]?=some v):atI xs i=some v:=by
 have:=Ec h
 rwa [show ((i.toNat:Nat):Int)=i by lia]at this
def J5 {K:α3}  : kitOne K t t=some true:=by unfold kitOne;rw[if_pos (by simp)]
def Lb {K:α3}:kitOne K (.type "int") (.type "bool")=some false:=by
 first|rfl|decide +kernel|(unfold kitOne;kernel_rfl)
def Np  : ∀u,RelV (V.ty n) u->u=.type n:=fun _ h=>h
end L2
namespace L2
open PySem PySem.W PySem.Spec PySem.Calls PyProof.Rows
section
variable {prog:Program} {w:World} {A:Around} {E:Value->Shared->Prop} {s:Shared} {K:Frag} {x D:Addr} {ox:Obj}
structure ExcCls (K:Frag)(D:Addr):Prop where
 ga:findIn K (.ref D) "__getattribute__"=some (some (.builtin "BaseException.__getattribute__"))
 hk:findIn K (.ref D) "__getattr__"=some none
 cl:(clsIn K D).isSome=true
 ca:findIn K (.ref D) "__class__"=some (some (.builtin "object.__class__"))
 gs:specialIn K (.builtin "object.__class__") "__get__"=some (some (.builtin "getset_descriptor.__get__"))
 tk:takesIn K (.builtin "object.__class__")=some true
 mo:mroIn K D (.type "object")=some true
 mb:mroIn K D (.type "BaseException")=some true
noncomputable def J6 (x D:Addr)(h:Heap):Prop:=∃ox,h.get? x=some ox/\ox.cls=.ref D
def J6.type   (I:J6 x D h):Looks M h (typeOf (.ref x)) (.ref D):=by
 obtain⟨ox,h1,h2⟩:=I
 exact h2 ▸ (Looks.ld h1).andThen .now
def RX   (X:K.In h)(C:ExcCls K D):Looks M h (Builtin.ObjectAttr.find (.ref x) (.ref D) "__class__") (.bind (.builtin "getset_descriptor.__get__") (.builtin "object.__class__")):=
 (looks_findIn X C.ca).andThen ((show Looks M h (Builtin.ObjectAttr.getOf (some (.builtin "object.__class__"))) _ from looks_specialIn X C.gs).andThen
  ((show Looks M h (Builtin.ObjectAttr.dataDescriptor? (some (.builtin "object.__class__")) (some (.builtin "getset_descriptor.__get__"))) (some (.builtin "getset_descriptor.__get__",.builtin "object.__class__")) from (looks_takesIn X C.tk).andThen .now).andThen (Looks.tag .now)))
open Builtin Builtin.ObjectAttr Builtin.Getset_descriptor in
def UC {R:Result->Shared->Prop}{tp:Value}(X:K.In s.heap)(I:J6 x D s.heap)(hm:mroIn K D (.type "object")=some true)(h:R (.ok (.ret (.ref D))) s):codeAny (model prog w) A (.call (.builtin "getset_descriptor.__get__") ⟨[.builtin "object.__class__",.ref x,tp],[]⟩) R s:=by
 have l0:=I.type (M:=model prog w)
 have l1:=looks_mroIn (M:=model prog w) X hm
 obtain⟨_,_,_,_,_⟩:=s
 have sg:=KF.slot_gs
 refine codeAny_call_builtin sg.plain KF.entry_gs (sg.check _ _ _ _ _ _ _ _ KF.type_class (KF.args_gs _ _ _) ?_)
 unfold Builtin.«getset_descriptor.__get__» descrGet
 rw[dga_obj]
 unfold descrGetter descrCheckInstance isInstance descrNameAndClass
 refine je_ (ju_ ?_)
 simp only[KF.owner_class]
 repeat lk
 refine⟨Code.quiet_builtin _ (by decide +kernel),codeAny_builtin KF.entry_class ?_⟩
 unfold Builtin.«object.__class__» shownTypeOf
 repeat lk
 exact h
def Qa    (X:K.In s.heap)(I:J6 x D s.heap)(C:ExcCls K D)(hq:Q () s):wpAny M A (checkBuiltinCall "BaseException.__getattribute__" ⟨[.ref x,nameV],[]⟩) Q E s:=by
 have a1:=F.args_bexc_ga (.ref x) nameV
 have l0:=I.type (M:=M)
 have l1:=looks_mroIn (M:=M) X C.mb
 obtain⟨_,_,_,_,_⟩:=s
 simp only[checkBuiltinCall,show builtinKind "BaseException.__getattribute__"=some .slot by decide +kernel,show splitId "BaseException.__getattribute__"=some ("BaseException","__getattribute__") by decide +kernel,isInstance]
 repeat (first|lk|wp_step)
 exact hq
def Qb   (X:K.In s.heap)(I:J6 x D s.heap)(C:ExcCls K D)(hq:Q (.done (.ret (.ref D))) s):wpAny (model prog w) A (Builtin.«object.__getattribute__» ⟨[.ref x,.str "__class__" tk],[]⟩) Q E s:=by
 obtain⟨hh,g,d,t,os⟩:=s
 have L0:=I.type (M:=model prog w)
 have L1:=RX (M:=model prog w) (x:=x) X C
 unfold Builtin.«object.__getattribute__»
 refine je_ (ju_ ?_)
 refine je_ (ju_ ?_)
 refine je_ (L0.at ?_)
 refine je_ (L1.at ?_)
 show wpAny _ _ (Builtin.ObjectAttr.bindTo _ _ _ _) _ _ _
 unfold Builtin.ObjectAttr.bindTo
 dsimp only
 refine je_ (qW_ (wpAny_call (UC (K:=K) (s:=⟨hh,g,d,t,os⟩) X I C.mo ?_)))
 exact ju_ hq
def Qc  (X:K.In s.heap)(I:J6 x D s.heap)(C:ExcCls K D)(h:Q (some (.ref D)) {s with toks:=s.toks+1}):wpAny (model prog w) A (getAttr? (.ref x) "__class__") Q E s:=by
 obtain⟨hh,g,d,t,os⟩:=s
 have L0:=I.type (M:=model prog w)
 have L1:=looks_findIn (M:=model prog w) X C.ga
 have L2:=looks_findIn (M:=model prog w) X C.hk
 unfold getAttr? getAttrBy? getAttrBy
 refine je_ (wpAny_mkText (je_ (xK_ (qW_ (je_ (L0.at (je_ (L1.at ?_))))))))
 show wpAny _ _ (getAttrByItsOwn _ _ _ _ _ _) _ _ _
 unfold getAttrByItsOwn hookBefore
 refine je_ ?_
 rw[if_pos (by rfl)]
 refine L2.at (je_ (xK_ (qW_ ?_)))
 unfold callGetattribute
 rw[if_neg (by decide)]
 unfold boundAndCalled
 have f3:=PySem.F.attr_ValueError.ga.bind (.ref x)
 refine je_ (wpAny_of_eq f3 ?_)
 refine wpAny_call (codeAny_call_builtin PySem.F.attr_ValueError.ga.plain F.entry_bexc_ga (Qa (K:=K) (s:=⟨hh,g,d,t+1,os⟩) X I C (Qb (K:=K) (s:=⟨hh,g,d,t+1,os⟩) X I C ?_)))
 exact ju_ (ju_ h)
def RY (C:ExcCls K D):KitX K (.ref x) (.ref D) (J6 x D):=by
 have cl:=C.cl
 unfold clsIn at cl
 refine⟨fun _ _ _ I=>I.type,fun _ _ X _=>?_,fun h tp dd its n sl X htp=>?_,fun X I k=>Qc X I C k⟩
 ·split at cl
  ·rename_i ho
   intro A' Q' E' s' k q
   exact je_ (wpAny_loadPart (k _ _ (X _ _ ho)) (ju_ q))
  ·cases cl
 ·split at cl
  ·rename_i ho
   cases hb:(Value.ref D==Value.ref tp) with
   |false=>rfl
   |true=>
    obtain rfl:D=tp:=Value.ref.inj (zW_.mp hb)
    cases (X _ _ ho).symm.trans htp
  ·cases cl
end
end L2
namespace L2
open PySem PySem.Spec PyProof.Rows
noncomputable def excO (ea C:Addr):HO:=.ext (J6 ea C)
def Lc  : Cg X (.builtin "isinstance") (fun xs H Q=>∃ea C c cv b,xs=[.ref ea,c]/\H ea=some (excO ea C)/\ExcCls X.K C/\(∀u,RelV c u->u=cv)/\kitOne X.K (.ref C) cv=some b/\Q (.bl b) H):=by
 intro af s σ H xs us Q I r h
 obtain⟨ea,C,c,cv,b,rfl,hea,hC,hc,hk,q⟩:=h
 obtain⟨u,w',rfl,rx,rc⟩:=vals2 r
 rw[hc _ rc]
 cases rx
 obtain⟨p,_,_⟩:=(show Bk X.prog X.w H s.heap ea (.ext (J6 ea C)) from I.hok ea _ hea)
 exact qq_ (RY hC) I.kIn p hk (fun z=>nomatch z) fun tk=>⟨.bl b,H,I.tok tk,rfl,q⟩
end L2
namespace HT
open PySem PySem.Spec PyProof.Rows
open PySem.AutoSeq1 (wpAny_loadPart')
section
open PySem.SeqAt PySem.MeetsSeq PySem.MeetsSeq2 PySem.MeetsSeq3
def int_rmul_tup (a:Int)(t:Tok)(l:Addr)(items:Array Value)(n:Nat)(dd:Option Addr)(sl:Array (α5)):
  Meets (Builtin.«int.__rmul__» ⟨[.int a t,.ref l],[]⟩) (fun _ R s=>s.heap.get? l=some {cls:=.type "tuple",dict:=dd,data:=.seq items n,slots:=sl}/\R (.ok (.ret Value.notImplemented)) s):=
 .of_wp fun prog w A R s h=>by obtain⟨hp,g,d,tk,os⟩:=s;obtain⟨hl,h⟩:=h;wp_walk using qr_ hl;exact⟨_,rfl,h⟩
def noFill_tuple_mul:fillsNumberSlot (.type "tuple") "mul"=pure false:=by
 first|exact fillsNumberSlot_false (by decide +kernel)|(unfold fillsNumberSlot;kernel_rfl)|kernel_rfl
def repeat_tuple:seqRepeat? (.type "tuple")=pure (some (.builtin "tuple.__mul__")):=by
 unfold seqRepeat?
 rw[PySem.seqSlot_of (T := "tuple") (name := "__mul__") (id := "tuple.__mul__") zz_.lookup (by decide +kernel),PySem.seqSlot_of (T := "tuple") (name := "__rmul__") (id := "tuple.__rmul__") F.slot_tuple_rmul.lookup (by decide +kernel)]
 rfl
def tup_mul_one (l:Addr)(items:Array Value)(n:Nat)(dd:Option Addr)(sl:Array (α5))(u:Tok):
  Meets (Builtin.«tuple.__mul__» ⟨[.ref l,.int 1 u],[]⟩) (fun _ R s=>s.heap.get? l=some {cls:=.type "tuple",dict:=dd,data:=.seq items n,slots:=sl}/\R (.ok (.ret (Value.ref l))) s):=
 .of_wp fun prog w A R s h=>by
  obtain⟨hp,g,d,tk,os⟩:=s;obtain⟨hl,h⟩:=h
  have f1:=AutoSeq1.idx_int
  unfold Builtin.«tuple.__mul__»
  wp_walk using qr_ hl
  exact⟨_,rfl,h⟩
def tup_mul_none (l:Addr)(items:Array Value)(n:Nat)(dd:Option Addr)(sl:Array (α5))(x:Int)(u:Tok)(h0:¬ items.isEmpty=true)(h1:x<=0)(h2 : -(2 ^ 63)<=x):
  Meets (Builtin.«tuple.__mul__» ⟨[.ref l,.int x u],[]⟩) (fun _ R s=>s.heap.get? l=some {cls:=.type "tuple",dict:=dd,data:=.seq items n,slots:=sl}/\R (.ok (.ret (Value.ref s.heap.objs.size))) {s with heap:=s.heap.push {cls:=.type "tuple",data:=.seq #[]} }):=
 .of_wp fun prog w A R s h=>by
  obtain⟨hp,g,d,tk,os⟩:=s;obtain⟨hl,h⟩:=h
  have f1:=AutoSeq1.idx_int
  have c1:(decide (x < -(2 ^ 63:Int))||decide (x >= 2 ^ 63))=false:=by simp;lia
  have c2:(items.isEmpty||x==1)=false:=by simp at h0 ⊢;exact⟨h0,by lia⟩
  have c3:(decide (x<=0)||items.isEmpty)=true:=by simp[h1]
  unfold Builtin.«tuple.__mul__»
  wp_walk using qr_ hl
  rw[if_neg (by rw[c1];exact jt_)]
  wp_walk using qr_ hl
  rw[if_neg (by rw[c2];exact jt_)]
  rw[if_pos c3]
  wp_walk using qr_ hl
  exact⟨_,rfl,h⟩
def tup_mul_many (l:Addr)(items:Array Value)(n:Nat)(dd:Option Addr)(sl:Array (α5))(x:Int)(u:Tok)(h0:¬ items.isEmpty=true)(h1:1<x)(h2:x<2 ^ 63)(h3:items.size*x.toNat<=sizeLine):
  Meets (Builtin.«tuple.__mul__» ⟨[.ref l,.int x u],[]⟩) (fun _ R s=>s.heap.get? l=some {cls:=.type "tuple",dict:=dd,data:=.seq items n,slots:=sl}/\R (.ok (.ret (Value.ref s.heap.objs.size))) {s with heap:=s.heap.push {cls:=.type "tuple",data:=.seq ((List.replicate x.toNat items).foldl (· ++ ·) #[])} }):=
 .of_wp fun prog w A R s h=>by
  obtain⟨hp,g,d,tk,os⟩:=s;obtain⟨hl,h⟩:=h
  have f1:=AutoSeq1.idx_int
  have hs:sizeLine=16777216:=sizeLine_eq
  have c1:(decide (x < -(2 ^ 63:Int))||decide (x >= 2 ^ 63))=false:=by simp;lia
  have c2:(items.isEmpty||x==1)=false:=by simp at h0 ⊢;exact⟨h0,by lia⟩
  have c3:(decide (x<=0)||items.isEmpty)=false:=by simp at h0 ⊢;exact⟨by lia,h0⟩
  obtain⟨k,rfl⟩:∃k:Nat,x=(k:Int):=⟨x.toNat,by lia⟩
  have c4:¬ ((items.size:Int)*(k:Int) > (2 ^ 63-1) / 8):=by
   rw[jh_]at h3
   have:((items.size*k:Nat):Int)=(items.size:Int)*(k:Int):=by push_cast;rfl
   lia
  have c5:Builtin.Tuple.tupleTooMany ((items.size:Int)*(k:Int))=false:=by
   unfold Builtin.Tuple.tupleTooMany
   rw[jh_]at h3
   have:((items.size*k:Nat):Int)=(items.size:Int)*(k:Int):=by push_cast;rfl
   simp
   lia
  unfold Builtin.«tuple.__mul__»
  wp_walk using qr_ hl
  rw[if_neg (by rw[c1];exact jt_)]
  wp_walk using qr_ hl
  rw[if_neg (by rw[c2];exact jt_)]
  rw[if_neg (by rw[c3];exact jt_),if_neg c4,if_neg (by rw[c5];exact jt_)]
  wp_walk using qr_ hl
  have hz:¬ (List.foldl (fun x1 x2=>x1++x2) #[] (List.replicate ((k:Int)).toNat items)).size > sizeLine:=by
   have:=L2.foldl_rep items.toList k []
   rw[xT_]at this
   have e:items.toList.toArray=items:=by simp
   rw[e]at this
   rw[jh_,this,jm_,L2.len_rep]
   rw[jh_]at h3
   rw[j3_,Nat.mul_comm]
   lia
  rw[if_neg hz]
  wp_walk using qr_ hl
  exact⟨_,rfl,h⟩
end
end HT
namespace L2
open PySem PySem.Spec PyProof.Rows
section
variable {X:Cx}
noncomputable def Qd (K:α3):R2:=fun x y H Q=>∃l k xs,x=.ref l/\y=.int k/\SqT K H l xs/\xs ≠ [] /\ -(2 ^ 63)<=k/\k<2 ^ 63/\xs.length*k.toNat<=sizeLine /\
 (k=1->Q (.ref l) H)/\(k≠1->∀p,H p=none->Q (.ref p) (upd H p (.tup (List.replicate k.toNat xs).flatten)))
def Qe:OpR X (binaryOp .Mult) (Qd X.K):=by
 intro af s σ H x y v u Q I rx ry h
 obtain⟨l,k,xs,rfl,rfl,hq,aw,h1,h2,hz,q1,q2⟩:=h
 cases rx
 obtain⟨t,rfl⟩:=ry
 obtain⟨its,r,p1,_⟩:=I.tuple hq
 have ak:=r.length
 have fB:¬ its.toArray.isEmpty=true:=by
  intro z
  have:its=[]:=by simpa using z
  exact aw (r.nil_iff.mp this)
 obtain⟨⟨cls,dd,data,sl⟩,ho,hc,n,hd⟩:=id p1
 simp only at hc hd
 subst hc hd
 refine wpAny_binaryOp_repeat_ref (T := "tuple") (U := "int") (by decide) ⟨_,ho,rfl⟩ (fun s'=>typeIs_int s' k t) HT.noFill_tuple_mul F.fills_int_mul zJ_ HT.repeat_tuple F.slot_int_index.lookup
  (xD_ zJ_ (typeIs_int s k t) F.entry_int_rmul (F.args_int_rmul_2 _ _) (HT.int_rmul_tup k t l its.toArray n dd sl) ⟨ho,rfl,⟨_,ho,rfl⟩,?_⟩)
 by_cases k1:k=1
 ·subst k1
  exact xD_ zz_ ⟨_,ho,rfl⟩ F.entry_tuple_mul (F.args_tuple_mul_2 _ _) (HT.tup_mul_one l its.toArray n dd sl t) ⟨ho,⟨.ref l,H,I,rfl,q1 rfl⟩⟩
 ·have fin:∀(ys:List Value),Vals (List.replicate k.toNat xs).flatten ys->EP X af σ Q (.ref s.heap.objs.size) {s with heap:=s.heap.push {cls:=.type "tuple",data:=.seq ys.toArray} }:=fun ys rv=>
   ⟨.ref s.heap.objs.size,_,I.laid (t':=s.toks) (o:=.tup (List.replicate k.toNat xs).flatten) (fun b ob q=>jo_ _ q) (jg_ _) ⟨by rw[len_rep,Nat.mul_comm];exact hz,_,rv,IsTup.new _ _⟩,rfl,q2 k1 _ (I.hok.fresh (jg_ _))⟩
  by_cases k0:k<=0
  ·refine xD_ zz_ ⟨_,ho,rfl⟩ F.entry_tuple_mul (F.args_tuple_mul_2 _ _) (HT.tup_mul_none l its.toArray n dd sl k t fB k0 h1) ⟨ho,?_⟩
   exact fin [] (by rw[show k.toNat=0 by lia];exact .nil)
  ·refine xD_ zz_ ⟨_,ho,rfl⟩ F.entry_tuple_mul (F.args_tuple_mul_2 _ _) (HT.tup_mul_many l its.toArray n dd sl k t fB s!"" h2 (by rw[jm_,<-ak];exact hz)) ⟨ho,?_⟩
   have e:=foldl_rep its k.toNat []
   rw[xT_]at e
   have e':List.foldl (fun x1 x2=>x1++x2) #[] (List.replicate k.toNat its.toArray)=(List.replicate k.toNat its).flatten.toArray:=e
   rw[e']
   exact fin _ (r.rep k.toNat)
noncomputable def E9 (K:α3):R2:=fun x y H Q=>∃a b xs ys,x=.ref a/\y=.ref b/\SqT K H a xs/\SqT K H b ys/\xs.length+ys.length<=sizeLine /\
 (xs=[]->Q (.ref b) H)/\(xs ≠ []->ys=[]->Q (.ref a) H)/\(xs ≠ []->ys ≠ []->∀p,H p=none->Q (.ref p) (upd H p (.tup (xs++ys))))
def ER:OpR X (binaryOp .Add) (E9 X.K):=by
 intro af s σ H x y v u Q I rx ry h
 obtain⟨a,b,xs,ys,rfl,rfl,ha,hb,hz,q0,q1,q2⟩:=h
 by_cases hx:xs=[]
 ·subst hx
  cases rx
  cases ry
  obtain⟨its,r1,p1,_⟩:=I.tuple ha
  obtain⟨aI,r2,p2,_⟩:=I.tuple hb
  have:its=[]:=r1.nil_iff.mpr rfl
  subst this
  obtain⟨⟨cls,dd,data,sl⟩,ho,hc,n,hd⟩:=id p1
  obtain⟨⟨cls2,iK,data2,gv⟩,gw,b9,n2,fE⟩:=id p2
  simp only at hc hd b9 fE
  subst hc hd b9 fE
  exact concat_meets ⟨_,ho,rfl⟩ ⟨_,gw,rfl⟩ noFill_tuple_add seq_tuple_add zk_ zc_ (x9_ _ _)
   (PyProof.Rows.tuple_addW0 a b _ _ n n2 dd iK sl gv rfl) ⟨ho,gw,⟨.ref b,H,I,rfl,q0 rfl⟩⟩
 ·exact Us af s σ H _ _ v u Q I rx ry ⟨a,b,xs,ys,rfl,rfl,ha,hb,hx,hz,q1 hx,q2 hx⟩
end
def Jm      (Pv:Nat->St->Hp->Prop)(h0:∃m,Pv m σ H)
  (hs:∀m σ H,Pv m σ H->c σ H fun b H1=>if b=true then ∃N:St->Hp->Prop,(∀ag H',N ag H'->∃m',m'<m/\Pv m' ag H')/\tb {D with nx:=N,ct:=N,bk:=D.nx} σ H1 else D.nx σ H1):SX c tb D σ H:=⟨Pv,h0,hs⟩
theorem Wi {K:α3}    {lo hi:Option Int}:rSlT K x lo hi H Q=∃a xs,x=.ref a/\SqT K H a xs /\
 ¬ (HT.sIx xs.length 0 lo=0/\HT.sIx xs.length xs.length hi=xs.length)/\∀p,H p=none->Q (.ref p) (upd H p (.tup (cutV xs lo hi))):=rfl
def HW {α:Type}(x:α)(k:Nat):(List.replicate k [x]).flatten=List.replicate k x:=by
 induction k with
 |zero=>rfl
 |succ k ih=>rw[qi_,xC_,ih,qi_];rfl
inductive TyW (K:α3)(H:Hp):V->Value->Prop where
 | non:TyW K H .non (.type "NoneType")
 | bl (x:Bool):TyW K H (.bl x) (.type "bool")
 | int (i:Int):TyW K H (.int i) (.type "int")
 | str (x:Str):TyW K H (.str x) (.type "str")
 | lst {a:Addr} {xs:List V} (e:SqL K H a xs):TyW K H (.ref a) (.type "list")
 | tup {a:Addr} {xs:List V} (e:SqT K H a xs):TyW K H (.ref a) (.type "tuple")
 | exc {a C:Addr} (e:H a=some (excO a C)) (c:ExcCls K C):TyW K H (.ref a) (.ref C)
def CT  : Cg X (.builtin "isinstance") (fun xs H Q=>∃x c cv t b,xs=[x,c]/\TyW X.K H x t/\(∀u,RelV c u->u=cv)/\kitOne X.K t cv=some b/\Q (.bl b) H):=by
 intro af s σ H xs us Q I r h
 obtain⟨x,c,cv,t,b,rfl,ty,hc,hk,q⟩:=h
 cases ty with
 |non=>exact Dv af s σ H _ us Q I r ⟨_,c,cv,_,b,rfl,.non,hc,hk,q⟩
 |bl y=>exact Dv af s σ H _ us Q I r ⟨_,c,cv,_,b,rfl,.bl y,hc,hk,q⟩
 |int y=>exact Dv af s σ H _ us Q I r ⟨_,c,cv,_,b,rfl,.int y,hc,hk,q⟩
 |str y=>exact Dv af s σ H _ us Q I r ⟨_,c,cv,_,b,rfl,.str y,hc,hk,q⟩
 |exc e hC=>exact Lc af s σ H _ us Q I r ⟨_,_,c,cv,b,rfl,e,hC,hc,hk,q⟩
 |@lst a xs e=>
  obtain⟨u,w',rfl,rx,rc⟩:=vals2 r
  rw[hc _ rc]
  cases rx
  obtain⟨its,_,pl,_⟩:=I.list e
  obtain⟨o,ho,bF,_⟩:=pl.isList
  exact qq_ zU_ I.kIn ⟨o,ho,bF⟩ hk (fun z=>nomatch z) fun tk=>⟨.bl b,H,I.tok tk,rfl,q⟩
 |@tup a xs e=>
  obtain⟨u,w',rfl,rx,rc⟩:=vals2 r
  rw[hc _ rc]
  cases rx
  obtain⟨its,_,⟨o,ho,bF,_⟩,_⟩:=I.tuple e
  exact qq_ PySem.W.kitx_tuple I.kIn ⟨o,ho,bF⟩ hk (fun z=>nomatch z) fun tk=>⟨.bl b,H,I.tok tk,rfl,q⟩
end L2
namespace GW
noncomputable def Eg (L:Int):α2->α2
 |[]=>[0]
 |x::r=>if x=L-1 then 0::Eg L r else (x+1)::r
noncomputable def Eh (L:Int)(w:α2):α2:=(Eg L w.reverse).reverse
noncomputable def AV (L:Int):α2->Int
 |[]=>0
 |x::r=>AV L r*L+x+1
noncomputable def AJ (L:Int)(w:α2):Int:=AV L w.reverse
noncomputable def inW (L x:Int):Bool:=decide (0<=x)&&decide (x<L)
noncomputable def isW (L:Int)(ws:α2):Bool:=ws.all (inW L)
def UD  : inW L x=true↔0<=x/\x<L:=by simp[inW]
def Av   : isW L ws=true ↔ ∀x∈ws,0<=x/\x<L:=by simp[isW,UD]
def Ld (L:Int)(m:Nat)(r:α2):Eg L (List.replicate m (L-1)++r)=List.replicate m 0++Eg L r:=by
 induction m with
 |zero=>rfl
 |succ m ih=>rw[qi_,x4_,Eg,if_pos rfl,ih,qi_,x4_]
def Qf (L:Int)(a:α2)(x:Int)(m:Nat)(h:x≠L-1):Eh L (a++[x]++List.replicate m (L-1))=a++[x+1]++List.replicate m 0:=by
 unfold Eh
 rw[q5_,zm_,q5_,List.reverse_singleton,Ld]
 show (List.replicate m 0++Eg L (x::a.reverse)).reverse=_
 rw[Eg,if_neg h]
 simp
def Qg (L:Int)(m:Nat):Eh L (List.replicate m (L-1))=List.replicate (m+1) 0:=by
 unfold Eh
 have:=Ld L m []
 rw[qg_]at this
 rw[zm_,this]
 show (List.replicate m (0:Int)++[0]).reverse=_
 rw[q5_,zm_]
 rfl
def Mi (L:Int)(l:α2):AV L (Eg L l)=AV L l+1:=by
 induction l with
 |nil=>simp[Eg,AV]
 |cons x r ih=>
  rw[Eg]
  by_cases h:x=L-1
  ·rw[if_pos h,AV,ih,AV,h,z0_];lia
  ·rw[if_neg h,AV,AV];lia
def Oi (L:Int)(w:α2):AJ L (Eh L w)=AJ L w+1:=by
 unfold AJ Eh
 rw[qZ_,Mi]
def Mj  (hL:0<L)  (h:∀x∈l,0<=x/\x<L):∀x∈Eg L l,0<=x/\x<L:=by
 induction l with
 |nil=>intro x hx;simp[Eg]at hx;subst hx;exact⟨zp_ _,hL⟩
 |cons y r ih=>
  have hy:=h y jl_
  have hr:∀x∈r,0<=x/\x<L:=fun x hx=>h x (jk_ _ hx)
  intro x hx
  rw[Eg]at hx
  by_cases e:y=L-1
  ·rw[if_pos e]at hx
   rcases jC_.mp hx with rfl|hx
   ·exact⟨zp_ _,hL⟩
   ·exact ih hr x hx
  ·rw[if_neg e]at hx
   rcases jC_.mp hx with rfl|hx
   ·lia
   ·exact hr x hx
def Ml  (hL:0<L)  (h:isW L w=true):isW L (Eh L w)=true:=by
 rw[Av]at h ⊢
 intro x hx
 unfold Eh at hx
 rw[q2_]at hx
 exact Mj hL (fun y hy=>h y (q2_.mp hy)) x hx
def Le (L:Int)(l:α2):l.length<=(Eg L l).length/\(Eg L l).length<=l.length+1:=by
 induction l with
 |nil=>simp[Eg]
 |cons x r ih=>
  rw[Eg]
  by_cases h:x=L-1
  ·rw[if_pos h];simp;lia
  ·rw[if_neg h];simp
def Lf (L:Int)(w:α2):w.length<=(Eh L w).length/\(Eh L w).length<=w.length+1:=by
 have:=Le L w.reverse
 unfold Eh
 rw[xL_]at this
 rw[xL_]
 exact this
noncomputable def many (L:Int):Nat->Int
 |0=>0
 |k+1=>many L k*L+1
def Ci {L:Int}(hL:0<L):∀k,0<=many L k
 |0=>zp_ _
 |k+1=>by
  have:=zs_ (Ci hL k) (xJ_ hL)
  show 0<=many L k*L+1
  lia
def CC {L:Int}(hL:0<L):∀{l:α2},(∀x∈l,0<=x/\x<L)->many L l.length<=AV L l/\AV L l<many L (l.length+1)
 |[],_=>by simp[AV,many]
 |x::r,h=>by
  have hx:=h x jl_
  obtain⟨h1,h2⟩:=CC hL (l:=r) fun y hy=>h y (jk_ _ hy)
  show many L r.length*L+1<=AV L r*L+x+1/\AV L r*L+x+1<many L (r.length+1)*L+1
  have a1:=qu_ h1 (xJ_ hL)
  have a2:=qu_ (show AV L r+1<=many L (r.length+1) by lia) (xJ_ hL)
  rw[z0_]at a2
  lia
def GN  (hL:0<L)  (h:isW L w=true):many L w.length<=AJ L w/\AJ L w<many L (w.length+1):=by
 have:=CC hL (l:=w.reverse) (fun x hx=>Av.mp h x (q2_.mp hx))
 rw[xL_]at this
 exact this
def Lg  (hL:0<L)  (h:j<=k):many L j<=many L k:=by
 induction h with
 |refl=>exact zp_ _
 |step _ ih=>
  rename_i m _
  refine Int.le_trans ih ?_
  show many L m<=many L m*L+1
  have:many L m*1<=many L m*L:=Int.mul_le_mul_of_nonneg_left s!"" (Ci hL m)
  lia
def ES  (hL:0<L)  (h:isW L w=true)(k:Nat):w.length<=k↔AJ L w<many L (k+1):=by
 obtain⟨h1,h2⟩:=GN hL h
 constructor
 ·intro hk
  exact Int.lt_of_lt_of_le h2 (Lg hL s!"")
 ·intro hp
  refine Nat.le_of_not_lt fun hk=>?_
  have:=Lg hL (show k+1<=w.length from hk)
  lia
noncomputable def nth (L:Int):Nat->α2
 |0=>[]
 |n+1=>Eh L (nth L n)
def C8 {L:Int}(hL:0<L):∀n,isW L (nth L n)=true
 |0=>rfl
 |n+1=>Ml hL (C8 hL n)
def Ei (L:Int):∀n:Nat,AJ L (nth L n)=n
 |0=>rfl
 |n+1=>by show AJ L (Eh L (nth L n))=_;rw[Oi,Ei L n];push_cast;rfl
def Oj  (hL:0<L)(n:Nat):(nth L n).length<=n:=by
 induction n with
 |zero=>simp[nth]
 |succ n ih=>have:=(Lf L (nth L n)).2;show (Eh L (nth L n)).length<=n+1;lia
def Ge (L:Int)(w:α2)(x:Int):AJ L (w++[x])=AJ L w*L+x+1:=by
 unfold AJ
 rw[q5_];rfl
def Nq {L:Int}{w:α2}{k:Nat}(hk:k<=w.length)(h:∀j,k<=j->j<w.length->w[j]?=some (L-1)):w=w.take k++List.replicate (w.length-k) (L-1):=by
 apply qL_
 intro j
 by_cases hj:j<k
 ·rw[ji_ (by rw[jw_];lia),xA_ hj]
 ·by_cases hl:j<w.length
  ·rw[h j s!"" hl,jp_ (by rw[jw_];lia),List.getElem?_replicate,if_pos (by rw[jw_];lia)]
  ·rw[jT_ s!"",jT_ (by rw[jn_,jw_,qD_];lia)]
def Lh     (hk:k<w.length)(h:∀j,k+1<=j->j<w.length->w[j]?=some (L-1))(hx:w[k]?=some x)(aw:x≠L-1):
  Eh L w=w.take k++[x+1]++List.replicate (w.length-(k+1)) 0:=by
 have e:=Nq (show k+1<=w.length from hk) h
 have e2:w.take (k+1)=w.take k++[x]:=by rw[jQ_,hx];rfl
 rw[e2]at e
 have:=Qf L (w.take k) x (w.length-(k+1)) aw
 rw[<-e]at this
 exact this
def Mm   (h:∀j,0<=j->j<w.length->w[j]?=some (L-1)):Eh L w=List.replicate (w.length+1) 0:=by
 have e:=Nq (jX_ _) h
 simp at e
 have:=Qg L w.length
 rw[<-e]at this
 exact this
end GW
namespace PySem
section
variable {prog:Program} {w:World} {A:Around} {E:Value->Shared->Prop} {s:Shared}
noncomputable abbrev lsO (ai:Array Value)(c:Nat):Obj:={cls:=.type "list",dict:=none,data:=.seq ai c,slots := #[]}
noncomputable def KP (wr:Addr->Prop)(h h':Heap):Prop:=∀b o,¬ wr b->h.get? b=some o->h'.get? b=some o
structure Gat (prog:Program)(w:World)(s:Shared)(r I:Addr)(T:String)(n:Nat)(wr:Addr->Prop)(J:Nat->List Value->Heap->Prop)(Fn:List Value->Heap->Prop):Prop where
 type:s.TypeIs (.ref r) T
 nl:(Value.type T==Value.type "list")=false
 nt:(Value.type T==Value.type "tuple")=false
 le:n<=sizeLine
 hint:∀(A:Around) (t:Shared) (Q:Bool->Shared->Prop) (E:Value->Shared->Prop),(∀b o,s.heap.get? b=some o->t.heap.get? b=some o)->(∀b tk,Q b {t with toks:=tk})->wpAny (model prog w) A (Builtin.List.listLengthHint (.ref r)) Q E t
 iter:∀(A:Around) (h1:Heap) (Q:Value->Shared->Prop) (E:Value->Shared->Prop),(∀b o,s.heap.get? b=some o->h1.get? b=some o)->h1.objs.size=s.heap.objs.size+1->(∀h',J 0 [] h'->(∀b o,h1.get? b=some o->h'.get? b=some o)->Q (.ref I) {s with heap:=h' })->wpAny (model prog w) A (pyIter (.ref r)) Q E {s with heap:=h1}
 next:∀(A:Around) i ai (t:Shared) (Q:α5->Shared->Prop) (E:Value->Shared->Prop),A.handled=none->J i ai t.heap->ai.length=i->i<=n->s.heap.objs.size<t.heap.objs.size ->
  (∀v h' tk,i<n->J (i+1) (ai++[v]) h'->KP wr t.heap h'->Q (some v) {t with heap:=h',toks:=tk})->(∀h' tk,i=n->Fn ai h'->KP wr t.heap h'->Q none {t with heap:=h',toks:=tk})->wpAny (model prog w) A (pyNext (.ref I)) Q E t
 frame:∀i ai h h',J i ai h->(∀b o,b≠s.heap.objs.size->h.get? b=some o->h'.get? b=some o)->J i ai h'
 nw:¬ wr s.heap.objs.size
variable {I r:Addr} {T:String} {n:Nat} {wr:Addr->Prop} {J:Nat->List Value->Heap->Prop} {Fn:List Value->Heap->Prop} {R:Result->Shared->Prop} {res:Value}
def Gat.loop (G:Gat prog w s r I T n wr J Fn)(hh:A.handled=none)
  (hR:∀h' tk ai c,Fn ai h'->ai.length=n->h'.get? s.heap.objs.size=some (lsO ai.toArray c)->KP wr s.heap h'->R (.ok (.ret res)) {s with heap:=h',toks:=tk}):
  ∀(k:Nat) (h:Heap) (tk c:Nat) (ai:List Value),n-ai.length=k->ai.length<=n->J ai.length ai h->h.get? s.heap.objs.size=some (lsO ai.toArray c)->KP wr s.heap h->codeAny (model prog w) A (.builtin "list.extend.loop" ⟨[.ref s.heap.objs.size,.ref I,res],[]⟩) R {s with heap:=h,toks:=tk}:=by
 intro k
 induction k with
 |zero=>
  intro h tk c ai hk hi j hS kp
  refine codeAny_builtin F.entry_extend_loop ?_
  rw[Around.under_plainId x7_ _]
  refine je_ (G.next A.in1 _ ai {s with heap:=h,toks:=tk} _ _ hh j rfl hi (js_ hS) (fun v h' tk l=>by lia) fun h' tk e j' kk=>?_)
  exact ju_ (hR h' tk ai c j' s!"" (kk _ _ G.nw hS) fun b o m q=>kk b o m (kp b o m q))
 |succ k ih=>
  intro h tk c ai hk hi j hS kp
  refine codeAny_builtin F.entry_extend_loop ?_
  rw[Around.under_plainId x7_ _]
  refine je_ (G.next A.in1 _ ai {s with heap:=h,toks:=tk} _ _ hh j rfl hi (js_ hS) (fun v h' tk l j' kk=>?_) fun h' tk e=>by lia)
  have lT:=kk _ _ G.nw hS
  have up:∀b o,b≠s.heap.objs.size->h'.get? b=some o->(h'.update s.heap.objs.size (Obj.mapSeq (·.push v))).get? b=some o:=fun b o m q=>(j9_ _ _ (qp_ m)).trans q
  have hl:(ai++[v]).length=ai.length+1:=by simp
  have:=G.le
  obtain⟨c',iM⟩:∃c',(h'.update s.heap.objs.size (Obj.mapSeq (·.push v))).get? s.heap.objs.size=some (lsO (ai++[v]).toArray c'):=⟨_,by rw[<-List.push_toArray];exact qT_ _ lT rfl⟩
  exact je_ (wpAny_updateSeq lT rfl (ju_ ⟨plainId_quiet x7_ _,ih _ tk c' (ai++[v]) s!"" s!"" (by rw[hl];exact G.frame _ _ _ _ j' up) iM fun b o m q=>up b o (jL_ (js_ q)) (kk b o m (kp b o m q))⟩) (by simp;lia))
def Gat.extend    (G:Gat prog w s r I T n wr J Fn)(hh:A.handled=none)(k1:∀b o,s.heap.get? b=some o->h1.get? b=some o)(hz:h1.objs.size=s.heap.objs.size+1)(hS:h1.get? s.heap.objs.size=some (lsO #[] c₀))
  (hZ:∀c t,c.quiet=true->codeAny (model prog w) A c R t->Z (.again c) t)
  (hR:∀h' tk ai c,Fn ai h'->ai.length=n->h'.get? s.heap.objs.size=some (lsO ai.toArray c)->KP wr s.heap h'->R (.ok (.ret res)) {s with heap:=h',toks:=tk}):
  wpAny (model prog w) A.in1 (Builtin.List.listExtendWith (.ref s.heap.objs.size) (.ref r) res) Z E {s with heap:=h1}:=by
 have hr:r<s.heap.objs.size:=let ⟨_,ho,_⟩:=G.type;js_ ho
 have e1:Builtin.List.listSameRef (.ref s.heap.objs.size) (.ref r)=false:=by simp[Builtin.List.listSameRef,qM_ hr]
 have hT:Shared.TypeIs {s with heap:=h1} (.ref r) T:=let ⟨o,ho,x⟩:=G.type;⟨o,k1 _ _ ho,x⟩
 have kM:∀(h:Heap) f b o,b≠s.heap.objs.size->h.get? b=some o->(h.update s.heap.objs.size f).get? b=some o:=fun h f b o n q=>(j9_ _ _ (qp_ n)).trans q
 have go:∀(h:Heap) c tk,J 0 [] h->h.get? s.heap.objs.size=some (lsO #[] c)->(∀b o,b≠s.heap.objs.size->h1.get? b=some o->h.get? b=some o)->Z (.again (.builtin "list.extend.loop" ⟨[.ref s.heap.objs.size,.ref I,res],[]⟩)) {s with heap:=h,toks:=tk}:=fun h c tk j q k=>
  hZ _ _ (plainId_quiet x7_ _) (G.loop hh hR n h tk c [] rfl (jX_ _) j q fun b o _ x=>k b o (jL_ (js_ x)) (k1 b o x))
 unfold Builtin.List.listExtendWith
 refine je_ (wpAny_typeOf hT ?_)
 simp only[e1,G.nl,G.nt,Bool.or_false,jY_,q3_]
 refine je_ (G.iter A.in1 h1 _ _ k1 hz fun h' j kk=>je_ (qW_ (G.hint A.in1 _ _ _ (fun b o q=>kk b o (k1 b o q)) fun bb tk=>?_)))
 have lT:=kk _ _ hS
 refine wpAny_ite_split (fun _=>?_) fun _=>ju_ (go h' c₀ tk j lT fun b o _ q=>kk b o q)
 wp_walk
 exact go _ _ tk (G.frame _ _ _ _ (G.frame _ _ _ _ j fun b o m q=>kM _ _ b o m q) fun b o m q=>kM _ _ b o m q) (qT_ _ (qT_ _ lT rfl) rfl) fun b o m q=>kM _ _ b o m (kM _ _ b o m (kk b o q))
def Gat.list  (G:Gat prog w s r I T n wr J Fn)(hh:A.handled=none)
  (hQ:∀h' tk ai c,Fn ai h'->ai.length=n->h'.get? s.heap.objs.size=some (lsO ai.toArray c)->KP wr s.heap h'->Q (.ref s.heap.objs.size) {s with heap:=h',toks:=tk}):wpAny (model prog w) A (call (.type "list") [.ref r]) Q E s:=by
 have hS:(s.heap.push (lsO #[] 0)).get? s.heap.objs.size=some (lsO #[] 0):=jF_ _ rfl
 refine callType_codes (Q₁:=fun obj s₁=>obj=.ref s.heap.objs.size/\s₁={s with heap:=s.heap.push (lsO #[] 0)}) F.called_list (F.typeCall_list_1 _) F.entry_list_init (code_list_new _ ⟨rfl,rfl⟩) fun obj s₁ h₁=>?_
 obtain⟨rfl,rfl⟩:=h₁
 have kM:∀b o,s.heap.get? b=some o->((s.heap.push (lsO #[] 0)).update s.heap.objs.size (Obj.mapSeq fun _ => #[])).get? b=some o:=fun b o q=>(j9_ _ _ (qM_ (js_ q))).trans (jo_ _ q)
 obtain⟨c2,iM⟩:∃c,((s.heap.push (lsO #[] 0)).update s.heap.objs.size (Obj.mapSeq fun _ => #[])).get? s.heap.objs.size=some (lsO #[] c):=⟨_,qT_ _ hS rfl⟩
 have hz:((s.heap.push (lsO #[] 0)).update s.heap.objs.size (Obj.mapSeq fun _ => #[])).objs.size=s.heap.objs.size+1:=by rw[Heap.size_after_update,qw_]
 refine⟨⟨_,hS,rfl⟩,F.args_list_init_2 _ _,?_⟩
 wp_walk using Gat.extend (A:=A.in1) (R:=wants (fun r bj=>r=.none/\Q (.ref s.heap.objs.size) bj) E) (c₀:=c2) G hh kM hz iM
 ·exact fun _ _ a b=>⟨a,b⟩
 exact fun h' tk ai c k1 k2 k3 k4=>⟨rfl,hQ h' tk ai c k1 k2 k3 k4⟩
end
end PySem
namespace L2
open PySem PySem.Spec PyProof.Rows
section
variable {te ta tb:TE} {A:TA} {D:Ends} {σ:St} {H:Hp} {Q:VK} {K:α3} {tbd ts:TS}
theorem Nr   : Px x vs H Q=∃l b xs zs,x=.ref l/\vs=[.ref b]/\H l=some (.lst xs)/\H b=some (.lst zs)/\xs.length+zs.length<=sizeLine/\Q .non (upd H l (.lst (xs++zs))):=rfl
theorem Wj  : rCat x y H Q=∃l b xs zs,x=.ref l/\y=.ref b/\H l=some (.lst xs)/\H b=some (.lst zs)/\xs.length+zs.length<=sizeLine/\∀p,H p=none->Q (.ref p) (upd H p (.lst (xs++zs))):=rfl
theorem Wk  : rRep x y H Q=∃l k xs,x=.ref l/\y=.int k/\H l=some (.lst xs) /\ -(2 ^ 63)<=k/\k<2 ^ 63/\xs.length*k.toNat<=sizeLine/\∀p,H p=none->Q (.ref p) (upd H p (.lst (List.replicate k.toNat xs).flatten)):=rfl
end
end L2
namespace L2
open PySem PySem.Spec PyProof.Rows
def iteB {c A B:Prop}[Decidable c](hB:B)(h:c->B->A):if c then A else B:=by
 by_cases hc:c
 ·rw[if_pos hc];exact h hc hB
 ·rw[if_neg hc];exact hB
def UE (x y:Int):eqV (.int x) (.int y)=decide (V.int x=V.int y):=by
 by_cases h:x=y
 ·subst h;simp[eqV]
 ·rw[qf_ (fun z=>h (by injection z))];simp[eqV,h]
def EqD.ints {K:α3}{H:Hp}{a c:Addr}{xs ys:α2}(hq:(SqL K H a (xs.map V.int)/\SqL K H c (ys.map V.int))\/(SqT K H a (xs.map V.int)/\SqT K H c (ys.map V.int)))(n:Nat):EqD K H (n+1) (.ref a) (.ref c) (decide (xs=ys)):=by
 have:=EqD.flat hq (fun x hx=>by obtain⟨_,_,rfl⟩:=CS hx;rfl) (fun x hx=>by obtain⟨_,_,rfl⟩:=CS hx;rfl) (fun x hx y hy=>by obtain⟨_,_,rfl⟩:=CS hx;obtain⟨_,_,rfl⟩:=CS hy;exact UE _ _) n
 have e:decide (xs.map V.int=ys.map V.int)=decide (xs=ys):=by
  rw[qB_]
  simp only[qs_]
  constructor
  ·intro h
   exact (zR_ (fun a b h=>by injection h)).mp h
  ·intro h;rw[h]
 rw[e]at this
 exact this
end L2
namespace L2
open PySem PySem.Spec PyProof.Rows
noncomputable def iSeq (K:α3)(tl:TE):TI:=fun σ H R=>tl σ H fun x H1=>∃a,x=.ref a/\(((∃xs,SqL K H1 a xs)/\R (Itl K a) H1)\/((∃xs,SqT K H1 a xs)/\R (Itt K a) H1))
theorem Th {K:α3}     : iSeq K te σ H Z=te σ H fun x H1=>∃a,x=.ref a/\(((∃xs,SqL K H1 a xs)/\Z (Itl K a) H1)\/((∃xs,SqT K H1 a xs)/\Z (Itt K a) H1)):=rfl
def Ti    (hl:PE X l tl):PI X tg l (iSeq X.K tl):=by
 intro af s σ H R I h
 refine thn (hl af s σ H _ I h) fun v s1 ⟨x,H1,I1,r1,q1⟩=>?_
 obtain⟨a,e,q⟩:=q1
 subst e
 cases r1
 rcases q with ⟨⟨xs,hq⟩,q⟩|⟨⟨xs,hq⟩,q⟩
 ·obtain⟨its,rv,p,hz⟩:=I1.list hq
  refine zn_ p.isList ?_
  refine⟨s1.heap.objs.size,[s1.heap.objs.size],_,_,H1,rfl,I1.kept (t':=s1.toks) fun b o e=>jo_ _ e,KU a _,⟨_,jF_ _ rfl,rfl,rfl⟩,fun b hb=>?_,q⟩
  have e:b=s1.heap.objs.size:=by simpa using hb
  subst e
  exact I1.fpOk (jg_ _) (I1.hok.fresh (jg_ _))
 ·obtain⟨its,rv,p,hz⟩:=I1.tuple hq
  refine xO_ (show s1.heap.IsTuple a its.toArray from p) ?_
  refine⟨s1.heap.objs.size,[s1.heap.objs.size],_,_,H1,rfl,I1.kept (t':=s1.toks) fun b o e=>jo_ _ e,Ji a _,⟨_,jF_ _ rfl,rfl,rfl⟩,fun b hb=>?_,q⟩
  have e:b=s1.heap.objs.size:=by simpa using hb
  subst e
  exact I1.fpOk (jg_ _) (I1.hok.fresh (jg_ _))
end L2
namespace GW
def Li  (hL:0<L)  (hx:isW L xs=true):0<=AJ L xs:=by
 have:=(GN hL hx).1
 have:=Ci hL xs.length
 lia
def Qh  (hL:0<L):∀{xs ys:α2},isW L xs=true->isW L ys=true->AJ L xs=AJ L ys->xs=ys:=by
 have key:∀{l m:α2},(∀x∈l,0<=x/\x<L)->(∀x∈m,0<=x/\x<L)->AV L l=AV L m->l=m:=by
  intro l
  induction l with
  |nil=>
   intro m _ hm h
   cases m with
   |nil=>rfl
   |cons y s=>
    have hy:=hm y jl_
    have:=(CC hL (l:=s) fun z hz=>hm z (jk_ _ hz)).1
    have h0:=Ci hL s.length
    have hp:=zs_ (show 0<=AV L s by lia) (xJ_ hL)
    have h':(0:Int)=AV L s*L+y+1:=h
    lia
  |cons x r ih=>
   intro m hl hm h
   have hx:=hl x jl_
   cases m with
   |nil=>
    have:=(CC hL (l:=r) fun z hz=>hl z (jk_ _ hz)).1
    have h0:=Ci hL r.length
    have hp:=zs_ (show 0<=AV L r by lia) (xJ_ hL)
    have h':AV L r*L+x+1=(0:Int):=h
    lia
   |cons y s=>
    have hy:=hm y jl_
    have h':AV L r*L+x+1=AV L s*L+y+1:=h
    have e1:AV L r=AV L s:=by
     rcases Int.lt_trichotomy (AV L r) (AV L s) with ar|he|ar
     ·have:=qu_ (show AV L r+1<=AV L s by lia) (xJ_ hL)
      rw[z0_]at this;lia
     ·exact he
     ·have:=qu_ (show AV L s+1<=AV L r by lia) (xJ_ hL)
      rw[z0_]at this;lia
    rw[e1]at h'
    rw[ih (fun z hz=>hl z (jk_ _ hz)) (fun z hz=>hm z (jk_ _ hz)) e1,show x=y by lia]
 intro xs ys hx hy h
 have:=key (l:=xs.reverse) (m:=ys.reverse) (fun x h=>Av.mp hx x (q2_.mp h)) (fun x h=>Av.mp hy x (q2_.mp h)) h
 exact List.reverse_inj.mp this
end GW
namespace L2
open PySem PySem.Spec PyProof.Rows
def Tj  {K:α3}{T id:String}        (hK:X.K=K)(pa:PlainAttrs T)(slot:Slot T name id)(n9:typeOf (.builtin id)=pure (.type "method_descriptor"))(hm:MtR X id r)(ho:PE X o to)(ha:PA X (e::es) t)
  (fF:attributeBase o name X.env (eval o X.env)=eval o X.env:=by rfl)
  (gN:((backTo aE (starEach (e::es) X.env)).all (fun x => !x.1)&&(backToKw aE (keywordEach [] X.env)).all (fun x=>x.1.isSome)
   && decide ((e::es).length+([]:List Keyword).length+(if ([]:List Keyword).isEmpty then 0 else 1)<30))=true:=by rfl)
  (fG:(bq.endLine==aE.line)=true:=by rfl) (hs:starEach (e::es) X.env=(false,eval e X.env)::starEach es X.env:=by rfl) (dv:(backTo aE (starEach es X.env)).any (·.1)=false:=by rfl):
  PE X (.Call (.Attribute o name bq) (e::es) [] aE) (tBM K T r to t):=by
 subst hK
 exact C7 pa slot n9 hm ho ha fF gN fG hs dv
section
variable {X:Cx} {K:α3}
def Bs (h:X.K=K):IxR X (rIxT K):=by subst h;exact An
def Bi (h:X.K=K):IxR X (rIxL K):=by subst h;exact AU
def J7 (h:X.K=K):Cg X (.builtin "len") (fun xs H Q=>∃p ys,xs=[.ref p]/\(SqL K H p ys\/SqT K H p ys)/\Q (.int ys.length) H):=by subst h;exact Ai
def J8 (h:X.K=K):Cg X (.type "list") (fun xs H Q=>∃p ys,xs=[.ref p]/\(SqL K H p ys\/SqT K H p ys)/\∀l,H l=none->Q (.ref l) (upd H l (.lst ys))):=by subst h;exact Ed
end
end L2
namespace GW
noncomputable def Bv (ae:α1)(r x:Int):Int:=(ae.getD r.toNat []).getD x.toNat 0
noncomputable def Az (ae:α1)(ws:α2):Int:=ws.foldl (Bv ae) 0
noncomputable def Jn (ae:α1)(ws:α2):α2:=(List.range (ws.length+1)).map fun j=>Az ae (ws.take j)
structure Wf (L:Int)(aa:α2)(ae:α1):Prop where
 l1:1<=L
 l6:L<=6
 n1:1<=aa.length
 n40:aa.length<=40
 len:ae.length=aa.length
 rows:∀row∈ae,(row.length:Int)=L/\∀x∈row,0<=x/\x<aa.length
 mks:∀m∈aa,0<=m/\m<=1000000000
def BH     (h1:ae[r.toNat]?=some row)(h2:row[x.toNat]?=some g):Bv ae r x=g:=by
 unfold Bv
 have e:ae.getD r.toNat []=row:=by rw[jj_,h1];rfl
 rw[e,jj_,h2];rfl
def Wf.row {L:Int}{aa:α2}{ae:α1}(wf:Wf L aa ae){r:Int}(h0:0<=r)(h1:r<aa.length):∃row,ae[r.toNat]?=some row/\row∈ae/\(row.length:Int)=L:=by
 have ar:r.toNat<ae.length:=by rw[wf.len];lia
 exact⟨ae[r.toNat],by simp[ar],j2_ ar,(wf.rows _ (j2_ ar)).1⟩
def Wf.step {L:Int}{aa:α2}{ae:α1}(wf:Wf L aa ae){r x:Int}(h0:0<=r)(h1:r<aa.length)(x0:0<=x)(x1:x<L):∃row g,ae[r.toNat]?=some row/\row[x.toNat]?=some g/\Bv ae r x=g/\0<=g/\g<aa.length:=by
 obtain⟨row,hr,hm,hl⟩:=wf.row h0 h1
 have ar:x.toNat<row.length:=by lia
 have hg:row[x.toNat]?=some row[x.toNat]:=by simp[ar]
 exact⟨row,row[x.toNat],hr,hg,BH hr hg,(wf.rows row hm).2 _ (j2_ ar)⟩
def BI (ae:α1)(ws:α2)(x:Int):Az ae (ws++[x])=Bv ae (Az ae ws) x:=by
 unfold Az
 rw[qx_];rfl
def ET {ae:α1}{ws:α2}{i:Nat}{x:Int}(h:ws[i]?=some x):Az ae (ws.take (i+1))=Bv ae (Az ae (ws.take i)) x:=by
 rw[jQ_,h]
 exact BI _ _ _
def Wf.walk    (wf:Wf L aa ae)  (hw:isW L ws=true):∀i,0<=Az ae (ws.take i)/\Az ae (ws.take i)<aa.length:=by
 intro i
 induction i with
 |zero=>have:=wf.n1;simp[Az];lia
 |succ i ih=>
  cases e:ws[i]? with
  |none=>
   have aQ:=xv_.mp e
   rw[jP_ s!""]
   rw[jP_ aQ]at ih
   exact ih
  |some x=>
   rw[ET e]
   have hx:=Av.mp hw x (jc_ e)
   obtain⟨_,g,_,_,h,h0,h1⟩:=wf.step ih.1 ih.2 hx.1 hx.2
   rw[h];exact⟨h0,h1⟩
def J9 (ae:α1)(ws:α2):(Jn ae ws).length=ws.length+1:=by simp[Jn]
def Ol    (h:i<=ws.length):(Jn ae ws)[i]?=some (Az ae (ws.take i)):=by
 unfold Jn
 rw[jd_,qE_ s!""];rfl
def Mn (ae:α1)(ws:α2):(Jn ae ws)[ws.length]?=some (Az ae ws):=by
 rw[Ol (jg_ _),jO_]
end GW
namespace L2
open PySem PySem.Spec PyProof.Rows GW
noncomputable def Rows (K:α3)(H:Hp)(w:Addr)(ae:α1):Prop:=∃ts:List Addr,SqT K H w (ts.map V.ref)/\ts.length=ae.length/\∀(i:Nat) (t:Addr) (row:α2),ts[i]?=some t->ae[i]?=some row->SqT K H t (row.map V.int)
noncomputable def Bb (K:α3)(H:Hp)(h:Addr)(L:Int)(aa:α2)(ae:α1):Prop:=∃m w:Addr,SqT K H h [.int L,.ref m,.ref w]/\SqT K H m (aa.map V.int)/\Rows K H w ae
def Rows.mono {K:α3}    (h:Rows K H w ae)(e:Same H H'):Rows K H' w ae:=by
 obtain⟨ts,h1,h2,h3⟩:=h
 exact⟨ts,e.seqT h1,h2,fun i t r a b=>e.seqT (h3 i t r a b)⟩
def Bb.mono {K:α3}      (x:Bb K H h L aa ae)(e:Same H H'):Bb K H' h L aa ae:=by
 obtain⟨m,w,h1,h2,h3⟩:=x
 exact⟨m,w,e.seqT h1,e.seqT h2,h3.mono e⟩
def Rows.at {K:α3}{H:Hp}{w:Addr}{ae:α1}(h:Rows K H w ae){i:Nat}{row:α2}(hr:ae[i]?=some row):∃xs t,SqT K H w xs/\atI xs (i:Int)=some (V.ref t)/\SqT K H t (row.map V.int):=by
 obtain⟨ts,h1,h2,h3⟩:=h
 have ar:i<ts.length:=by rw[h2];exact (jb_.mp hr).1
 have ht:ts[i]?=some ts[i]:=by simp[ar]
 exact⟨_,ts[i],h1,Ec (by rw[jd_,ht];rfl),h3 i _ _ ht hr⟩
def Rows.atZ {K:α3}    (h:Rows K H w ae)   (h0:0<=r)(hr:ae[r.toNat]?=some row):∃xs t,SqT K H w xs/\atI xs r=some (V.ref t)/\SqT K H t (row.map V.int):=by
 obtain⟨xs,t,a,b,c⟩:=h.at hr
 exact⟨xs,t,a,by rw[<-b];congr 1;lia,c⟩
def Qi    (h:xs[xs.length-1]?=some v):atI xs (-1)=some v:=by
 have ar:=(jb_.mp h).1
 unfold atI ixN
 rw[if_neg s!"",if_pos s!""]
 show xs[(-1+(xs.length:Int)).toNat]?=some v
 rw[show (-1+(xs.length:Int)).toNat=xs.length-1 by lia]
 exact h
def AY {ns:α2}{i:Int}{v:Int}(h0:0<=i)(h:ns[i.toNat]?=some v):atI (ns.map V.int) i=some (V.int v):=B2 h0 (by rw[jd_,h];rfl)
def Ka {K:α3}    (hp:H p=some (.lst zs))(h:SqT K H t xs):SqT K (upd H p (.lst ys)) t xs:=by
 rcases h with (q|⟨o,q⟩)|q
 ·refine .inl (.inl ?_)
  rw[Aj (fun z=>by rw[z,hp]at q;cases q)];exact q
 ·refine .inl (.inr ⟨o,?_⟩)
  rw[Aj (fun z=>by rw[z,hp]at q;cases q)];exact q
 ·exact .inr q
noncomputable def CA (K:α3)(H:Hp)(l:Addr)(ws:α1):Prop:=∃ts:List Addr,H l=some (.lst (ts.map V.ref))/\ts.length=ws.length/\∀(i:Nat) (t:Addr) (w:α2),ts[i]?=some t->ws[i]?=some w->SqT K H t (w.map V.int)
def CA.mono {K:α3}    (h:CA K H l ws)(e:Same H H'):CA K H' l ws:=by
 obtain⟨ts,h1,h2,h3⟩:=h
 exact⟨ts,e _ _ h1,h2,fun i t w a b=>e.seqT (h3 i t w a b)⟩
def CA.off {K:α3}     (h:CA K H l ws)(hp:H p=some (.lst zs))(ne:l≠p):CA K (upd H p (.lst ys)) l ws:=by
 obtain⟨ts,h1,h2,h3⟩:=h
 exact⟨ts,by rw[Aj ne];exact h1,h2,fun i t w a b=>Ka hp (h3 i t w a b)⟩
def CA.push {K:α3}     (h:CA K H l ws)(hw:SqT K H t (w.map V.int)):∃xs,H l=some (.lst xs)/\xs.length=ws.length/\CA K (upd H l (.lst (xs++[V.ref t]))) l (ws++[w]):=by
 obtain⟨ts,h1,h2,h3⟩:=h
 refine⟨ts.map V.ref,h1,by rw[ja_,h2],ts++[t],by rw[Ab,jV_];rfl,by simp[h2],fun i t' w' a b=>Ka h1 ?_⟩
 by_cases hi:i<ts.length
 ·rw[ji_ hi]at a
  rw[ji_ s!""]at b
  exact h3 i t' w' a b
 ·have ht:=(jb_.mp a).1
  rw[jn_,jW_]at ht
  have e:i=ts.length:=by lia
  subst e
  rw[jp_ (jg_ _),qv_]at a
  rw[jp_ s!"",h2,qv_]at b
  simp at a b
  subst a b
  exact hw
def CA.nil {K:α3}   (h:H l=some (.lst [])):CA K H l []:=⟨[],h,rfl,fun i t w a _=>by simp at a⟩
def CA.rows {K:α3}    (h:CA K H l ws):∃xs,H l=some (.lst xs)/\∀t,H t=none->Rows K (upd H t (.tup xs)) t ws:=by
 obtain⟨ts,h1,h2,h3⟩:=h
 exact⟨_,h1,fun t ht=>⟨ts,SqT.of Ab,h2,fun i t' w a b=>(Same.new ht).seqT (h3 i t' w a b)⟩⟩
end L2
namespace PySem
open Sem (wp)
open AutoSeq1 (wpAny_loadPart')
section
variable {prog:Program} {w:World} {A:Around} {E:Value->Shared->Prop} {s:Shared}
def newT   (hl:l.length<=sizeLine)(h:∀h',s.heap.push {cls:=.type "tuple",data:=.seq l.toArray}=h'->Q (.ref s.heap.objs.size) {s with heap:=h' }):wpAny (model prog w) A (newTuple l) Q E s:=wpAny_newTuple (h _ rfl)
def psh {h h':Heap}{o:Obj}(q:h.push o=h')(ho:o.isFreed=false):(∀c u,h.get? c=some u->h'.get? c=some u)/\h'.get? h.objs.size=some o/\h'.objs.size=h.objs.size+1:=by
 subst q
 exact⟨fun c u x=>jo_ _ x,jF_ _ ho,qw_ ..⟩
def Gf {it l:Addr}    (a9:s.heap.IsTupleIter it l i)(hl:s.heap.IsTuple l items)
  (hQ:∀x h',items[i]?=some x->h'.IsTupleIter it l (i+1)->Heap.SameBut it s.heap h'->Q x {s with heap:=h' })
  (hE:items[i]?=none->A.handled=none/\∀h' e,Heap.ExtBut it s.heap h'->(∃o,h'.get? e=some o/\o.cls=.type "StopIteration")->E (.ref e) {s with heap:=h' }):wpAny (model prog w) A (Builtin.SmallTypes.nextOf (.ref it)) Q E s:=by
 obtain⟨⟨c,dc,da,sl⟩,ho,hc,hd⟩:=id a9
 obtain⟨⟨c',dc',da',sl'⟩,m7,fh,nl,oB⟩:=hl
 replace hc:c=_:=hc;replace hd:da=_:=hd;replace fh:c'=_:=fh;replace oB:da'=_:=oB
 subst hc hd fh oB
 have e1:=F.slot_tuple_iterator_next
 unfold Builtin.SmallTypes.nextOf
 refine je_ (qK_ a9.typeIs e1 (xo_ e1 a9.typeIs F.entry_tuple_iterator_next ?_ (F.args_tuple_iterator_next_1 _)))
 wp_walk
 cases hx:items[i]? with
 |some x=>
  simp only[jh_,hx]
  wp_walk
  exact⟨x,rfl,ju_ (hQ x _ hx ⟨_,qT_ _ ho (by simp[Obj.mapFields,Obj.isFreed]),rfl,by simp[Obj.mapFields,rawInt]⟩ (x8_ ..))⟩
 |none=>
  obtain⟨hh,hE⟩:=hE hx
  have h1:A.in1.handled=none:=hh
  simp only[jh_,hx]
  wp_walk
  unfold raiseNew
  wp_walk
  exact hE _ _ (((x8_ ..).extBut.push _).push _) ⟨_,jF_ _ rfl,rfl⟩
def Draws.tuple (hh:A.handled=none)(it l:Addr)(aw:l≠it)(items:Array Value):
  Draws prog w A it [it,l] items.size (fun i v=>items[i]?=some v) (fun i h=>h.IsTupleIter it l i/\h.IsTuple l items) where
 live:=fun _ _ st=>let ⟨o,e,_⟩:=st.1;⟨o,e⟩
 frame:=fun _ _ _ st k=>⟨st.1.at fun o e=>k it (by simp) o e,let ⟨o,e,r⟩:=st.2;⟨o,k l (by simp) o e,r⟩⟩
 item:=fun i t Q E hi st q=>Gf st.1 st.2 (fun x h' e1 e2 e3=>q x h' t.toks e1 ⟨e2,st.2.extBut e3.extBut aw⟩ e3) fun z=>by rw[Array.getElem?_eq_none_iff]at z;lia
 done:=fun t Q E st q=>Gf st.1 st.2 (fun x h' e1=>by have:=(q4_.mp e1).1;lia) fun _=>⟨hh,q⟩
def E1    (hL:s.heap.IsTuple l items)
  (h:∀h',IsEnum h' (s.heap.objs.size+1) s.heap.objs.size 0 .none->h'.IsTupleIter s.heap.objs.size l 0->h'.objs.size=s.heap.objs.size+2->(∀b o,s.heap.get? b=some o->h'.get? b=some o)->Q (.ref (s.heap.objs.size+1)) {s with heap:=h' }):
  wpAny (model prog w) A (call (.type "enumerate") [.ref l]) Q E s:=by
 have M:Meets (Builtin.«enumerate.__new__» ⟨[.type "enumerate",.ref l],[]⟩) fun _ R t=>t.heap.IsTuple l items/\∀h',IsEnum h' (t.heap.objs.size+1) t.heap.objs.size 0 .none->h'.IsTupleIter t.heap.objs.size l 0->h'.objs.size=t.heap.objs.size+2->(∀b o,t.heap.get? b=some o->h'.get? b=some o)->R (.ok (.ret (.ref (t.heap.objs.size+1)))) {t with heap:=h' }:=.of_wp fun prog w A R t ⟨hl,q⟩=>by
  have cD:=sub_enumerate
  obtain⟨hp,g,d,tk,os⟩:=t
  obtain⟨⟨c,dc,da,sl⟩,e1,hc,n,hd⟩:=id hl
  have fin:∀f,f=Fin.done (.ret (.ref (hp.push {cls:=.type "tuple_iterator",data:=.fields #[.ref l,.int 0 0]}).objs.size))->∃x,f=.done (.ret x)/\R (.ok (.ret x)) ⟨(hp.push {cls:=.type "tuple_iterator",data:=.fields #[.ref l,.int 0 0]}).push {cls:=.type "enumerate",data:=.fields #[.none,.bool false,.ref hp.objs.size,rawInt 0,.none,.none]},g,d,tk,os⟩:=fun f hf=>by
   have z:=qw_ hp {cls:=.type "tuple_iterator",data:=.fields #[.ref l,.int 0 0]}
   rw[z]at hf
   have y:=jF_ (hp.push {cls:=.type "tuple_iterator",data:=.fields #[.ref l,.int 0 0]}) (o:={cls:=.type "enumerate",data:=.fields #[.none,.bool false,.ref hp.objs.size,rawInt 0,.none,.none]}) rfl
   rw[z]at y
   exact⟨_,hf,q _ y ⟨_,jo_ _ (jF_ _ rfl),rfl,rfl⟩ (by rw[qw_,z]) fun b o x=>jo_ _ (jo_ _ x)⟩
  wp_walk using zb_ e1
  refine wpAny_stack_any fun st=>ju_ ?_
  split
  ·rename_i c _ _ _ _ _
   cases (c==Value.type "enumerate")<;>(wp_walk using zb_ e1,xO_ hl;exact fin _ rfl)
  ·wp_walk using zb_ e1,xO_ hl
   exact fin _ rfl
 exact callType_new F.called_enumerate (by decide) (F.typeCall_enumerate_1 _) (F.newCall_enumerate_1 _) (fun obj=>F.args_object_init_2 obj _) F.entry_enumerate_new M ⟨hL,fun h' a b c d=>⟨⟨_,a,rfl⟩,h h' a b c d⟩⟩
end
end PySem
namespace L2
open PySem PySem.Spec PyProof.Rows
section
variable {X:Cx} {af:α7} {σ:St} {H:Hp} {s:Shared}
def Inv.un2  {e it:Addr}(I:Inv X af σ H s)(k:∀b o,b≠e->b≠it->s.heap.get? b=some o->h'.get? b=some o)(f1:FpOk X af H e)(f2:FpOk X af H it):Un (frs X.stack) [e,it] H H s.heap h'/\HOk X.prog X.w H h':=by
 have ne:∀b u,H b=some u->b≠e/\b≠it:=fun b u q=>⟨(fun z=>by rw[z,f1.1]at q;cases q),(fun z=>by rw[z,f2.1]at q;cases q)⟩
 have fg:∀{b:Addr},b ∉ [e,it]->b≠e/\b≠it:=fun hb=>by simpa using hb
 refine⟨⟨fun b o q _ _ hb=>k b o (fg hb).1 (fg hb).2 q,fun b o q _ _ hb=>⟨o.slots,k b o (fg hb).1 (fg hb).2 q⟩,fun _ _ _ n _=>n,fun b o q hb=>⟨o,k b o (fg hb).1 (fg hb).2 q⟩,fun _ _ q=>q,fun _ _ _ q=>q,fun b ps q=>⟨#[],by rw[q];simp⟩⟩,fun b u q=>?_⟩
 refine (I.hok b u q).stay (fun c v hc qv=>?_) (fun _ q=>q) fun _ _ q=>q
 have aw:c≠e/\c≠it:=by
  rcases hc with rfl|hc
  ·exact ne _ _ q
  ·exact ne _ _ hc
 exact k c v aw.1 aw.2 qv
def FpOk.ch  (f:FpOk X af H b):(b∈X.ex\/X.s₀.heap.objs.size<=b)/\b≠X.env.locals/\(∀x c,X.env.cells.lookup x=some c->c≠b)/\∀p∈X.pn++af,p.1≠b:=⟨f.2.2.2.1,f.2.1,f.2.2.2.2.1,f.2.2.2.2.2⟩
end
noncomputable def Itn (K:α3)(a:Addr)(xs:List V):It:=⟨fun i H=>i<xs.length/\SqT K H a xs,fun i H x H'=>∃t v,H t=none/\xs[i]?=some v/\x=.ref t/\H'=upd H t (.tup [.int i,v]),fun i H=>i=xs.length/\SqT K H a xs⟩
def Om {P:Program}{w:World}{K:α3}{fO:List Expr}{x1}{ez:Pos}(a e it:Addr)(lU:e≠it)(lV:a≠it)(hae:a≠e)(xs:List V):Turn P w K (.Tuple fO x1 ez) (Itn K a xs) [e,it] e (fun i h=>∃old,IsEnum h e it (i:Nat) old/\h.IsTupleIter it a i) where
 mem:=by simp
 obj:=fun i h st b hb=>by
  obtain⟨old,h1,o,h2,c,d⟩:=st
  rcases jC_.mp hb with rfl|hb
  ·exact⟨_,h1,fun v z=>by cases z⟩
  ·rw[jr_.mp hb]
   exact⟨o,h2,fun v z=>by rw[d]at z;cases z⟩
 keep:=fun i h h' st k=>by
  obtain⟨old,h1,h2⟩:=st
  exact⟨old,k e (by simp) _ h1,h2.at fun o q=>k it (by simp) o q⟩
 item:=by
  intro X hP hw hK hc i af s σ H E I hf st hg
  subst hP hw hK
  obtain⟨hi,hq⟩:=hg
  obtain⟨old,he,a9⟩:=st
  obtain⟨its,rv,p,hz⟩:=I.tuple hq
  have hl:=rv.length
  have pt:s.heap.IsTuple a its.toArray:=p
  have f1:=hf e (by simp)
  have f2:=hf it (by simp)
  have Dw:=Draws.tuple (prog:=X.prog) (w:=X.w) (A:=X.A.in1) (I.ok.hd hc) it a lV its.toArray
  refine wpAny_pyNext_enum_itemD Dw he ⟨a9,pt⟩ (by simp;lia) lU (by simp[lU,qp_ hae]) fun u h' tk hu iI hst' hget hsz hk=>?_
  have hT:s.heap.objs.size≠e:=qM_ (js_ he)
  refine⟨_,rfl,wpAny_letOwnedTupleGo_enum iI fun h2 oC bY=>?_⟩
  have eB:∀b o,b≠e->b≠it->s.heap.get? b=some o->h2.get? b=some o:=fun b o h1 h3 q=>(bY.2 b h1).trans (hk b o h1 h3 q)
  obtain⟨un,hok⟩:=I.un2 eB f1 f2
  have hn:H s.heap.objs.size=none:=I.hok.fresh (jg_ _)
  have hv:xs[i]?=some xs[i]:=by simp[hi]
  obtain⟨u',iN,ru⟩:=rv.get hv
  have eu:u'=u:=by
   have hu2:its[i]?=some u:=by simpa using hu
   rw[iN]at hu2
   exact jq_ hu2
  subst eu
  have hget2:h2.get? s.heap.objs.size=some {cls:=.type "tuple",data:=.seq #[.int i tk,u']}:=(bY.2 _ hT).trans hget
  have new:Bk X.prog X.w (upd H s.heap.objs.size (.tup [.int i,xs[i]])) h2 s.heap.objs.size (.tup [.int i,xs[i]]):=⟨by have:=As;simp;lia,[.int i tk,u'],.cons ⟨tk,rfl⟩ (.cons ru .nil),_,hget2,rfl,_,rfl⟩
  refine⟨.ref s.heap.objs.size,upd H s.heap.objs.size (.tup [.int i,xs[i]]),I.call' (s':={s with heap:=h2,toks:=tk+1}) (ch:=[e,it]) rfl (un.track (jg_ _) hn) (hok.track hn new) I.bare (fun b hb=>?_),rfl,⟨_,_,hn,hv,rfl,rfl⟩,?_,fun b hb=>?_⟩
  ·exact (hf b hb).ch
  ·refine⟨u',by simpa using oC,?_⟩
   exact hst'.1.at fun o q=>(bY.2 it (qp_ lU)).trans q
  ·have gL:=hf b hb
   have:∃o,s.heap.get? b=some o:=by
    rcases jC_.mp hb with rfl|hb
    ·exact⟨_,he⟩
    ·rw[jr_.mp hb]
     obtain⟨o,ho,_⟩:=a9
     exact⟨o,ho⟩
   obtain⟨o,ho⟩:=this
   rw[Aj (jL_ (js_ ho))]
   exact gL.1
 done:=by
  intro X hP hw hK hc i af s σ H E I hf st hg
  subst hP hw hK
  obtain⟨hi,hq⟩:=hg
  subst hi
  obtain⟨old,he,a9⟩:=st
  obtain⟨its,rv,p,hz⟩:=I.tuple hq
  have hl:=rv.length
  have pt:s.heap.IsTuple a its.toArray:=p
  have Dw:=Draws.tuple (prog:=X.prog) (w:=X.w) (A:=X.A.in1) (I.ok.hd hc) it a lV its.toArray
  obtain⟨f0,f1,f2,f3,f4,f5⟩:=hf it (by simp)
  refine wpAny_pyNext_enum_endD Dw he ⟨by rw[jm_,<-hl];exact a9,pt⟩ fun h' eb=>⟨rfl,I.turned (t':=s.toks) (fun b o hb e=>eb b o hb e) f0 f1 f3 f4 f5⟩
 self:=fun A i s Q E st h=>by
  obtain⟨old,he,_⟩:=st
  exact wpAny_pyIter_enum he h
noncomputable def Tn (K:α3)(tl:TE):TI:=fun σ H R=>tl σ H fun x H1=>∃a xs,x=.ref a/\SqT K H1 a xs/\R (Itn K a xs) H1
theorem Nt {K:α3}     : Tn K te σ H Z=te σ H fun x H1=>∃a xs,x=.ref a/\SqT K H1 a xs/\Z (Itn K a xs) H1:=rfl
theorem To {K:α3}       : gTup K n t v σ H N=∃a xs,v=.ref a/\SqT K H a xs/\xs.length=n/\t xs σ H N:=rfl
theorem Qj       : Vy t u vs σ H N=∃v r,vs=v::r/\t v σ H fun ag H'=>u r ag H' N:=rfl
theorem Tp     : gNil vs σ H N=(vs=[]/\N σ H):=rfl
def RZ   {x1}     (hg:Gl X "enumerate")(hm:X.mg "enumerate"=none)(he:PE X e te)(hs:starEach [e] X.env=[(false,eval e X.env)]:=by rfl):PI X (.Tuple fO x1 ez) (.Call (.Name "enumerate" p) [e] [] pos) (Tn X.K te):=by
 intro af s σ H R I h
 refine Call_ (DT I hg hm boot_enumerate (j6_ (thn (Aa he Ae hs pos af s σ H (fun vs H1=>∃a xs,vs=[.ref a]/\SqT X.K H1 a xs/\R (Itn X.K a xs) H1) I ?_) fun us s1 ⟨vs,H1,I1,r1,q1⟩=>?_) hs rfl))
 ·show te σ H _
  have:(fun x H1=>∃a xs,x=V.ref a/\SqT X.K H1 a xs/\R (Itn X.K a xs) H1)=(fun x H1=>tNil σ H1 fun xs H2=>∃a ys,x::xs=[V.ref a]/\SqT X.K H2 a ys/\R (Itn X.K a ys) H2):=by
   funext x H1
   simp[tNil]
  rw[<-this]
  exact h
 ·obtain⟨a,xs,rfl,hq,q⟩:=q1
  cases r1 with
  |cons r rr=>
   cases rr
   cases r
   obtain⟨its,rv,p,hz⟩:=I1.tuple hq
   have pt:s1.heap.IsTuple a its.toArray:=p
   obtain⟨oa,hoa,_⟩:=id pt
   have ha:=js_ hoa
   refine E1 pt fun h' fi eE hsz hk=>?_
   refine wpAny_pyIter_enum (s:={s1 with heap:=h' }) fi ?_
   have I2:Inv X af σ H1 {s1 with heap:=h' }:=I1.kept (t':=s1.toks) hk
   refine⟨s1.heap.objs.size+1,[s1.heap.objs.size+1,s1.heap.objs.size],_,_,H1,rfl,I2,Om a (s1.heap.objs.size+1) s1.heap.objs.size (Nat.succ_ne_self _) (jL_ ha) (jL_ (xj_ ha)) xs,⟨_,fi,eE⟩,fun b hb=>?_,q⟩
   have aQ:s1.heap.objs.size<=b:=by
    rcases jC_.mp hb with rfl|hb
    ·lia
    ·rw[jr_.mp hb];exact jg_ _
   exact I1.fpOk aQ (I1.hok.fresh aQ)
def forN {K:α3}        (Pv:Nat->St->Hp->Prop)(h0:Pv 0 σ H)(hl:∀i σ H,i<=xs.length->Pv i σ H->SqT K H a xs)
  (hs:∀i v σ H t,xs[i]?=some v->Pv i σ H->H t=none->g (.ref t) σ (upd H t (.tup [.int i,v])) fun aj H2=>tb {D with nx:=Pv (i+1),ct:=Pv (i+1),bk:=D.nx} aj H2) (hd:∀σ H,Pv xs.length σ H->D.nx σ H):ForW (Itn K a xs) g tb D σ H:=by
 refine⟨fun i m σ H=>m=xs.length-i/\i<=xs.length/\Pv i σ H,⟨xs.length,by simp,jX_ _,h0⟩,?_⟩
 rintro i m σ H ⟨rfl,hi,p⟩
 by_cases ar:i<xs.length
 ·refine .inr ⟨⟨ar,hl i σ H hi p⟩,Pv (i+1),fun ag H' p'=>⟨xs.length-(i+1),by lia,rfl,ar,p'⟩,fun x H' y=>?_⟩
  obtain⟨t,v,hn,hv,rfl,rfl⟩:=y
  exact hs i v σ H t hv p hn
 ·have e:i=xs.length:=by lia
  subst e
  exact .inl ⟨⟨rfl,hl _ σ H hi p⟩,hd σ H p⟩
section
variable {td ty tv tx:TE} {D:Ends} {σ:St} {H:Hp} {Q:VK}
theorem Tq:VS td ty σ H Q=td σ H fun x H1=>ty σ H1 fun y H2=>∃a v,x=.ref a/\DGet H2 a y (some v)/\Q v H2:=rfl
theorem Nu:PR ty td σ H Q=ty σ H fun y H1=>td σ H1 fun x H2=>∃a o,x=.ref a/\DGet H2 a y o/\Q (.bl (!o.isSome)) H2:=rfl
theorem Tr:VT td ty tv D σ H=tv σ H fun v H1=>td σ H1 fun x H2=>ty σ H2 fun y H3=>∃a H4,x=.ref a/\DPut H3 a y v H4/\D.nx σ H4:=rfl
theorem Qk:PY td ty σ H Q=td σ H fun x H1=>∃a,x=.ref a/\IsD H1 a/\ty σ H1 fun y H2=>∃o,DGet H2 a y o/\Q (o.getD .non) H2:=rfl
theorem Ts  : Ux aB σ H Q=∀p,H p=none->HS aB σ (upd H p (.dK [])) fun ps H2=>H2 p=some (.dK [])/\∃kvs:List (Key×V),ps=kvs.map (fun kv=>(kV kv.1,kv.2))/\kvs.length<=15/\Q (.ref p) (upd H2 p (.dK (GK [] kvs))):=rfl
theorem Nv  : HS [] σ H R=R [] H:=rfl
theorem Nw   : HS ((td,tv)::r) σ H R=td σ H fun x H1=>tv σ H1 fun y H2=>HS r σ H2 fun ps H3=>R ((x,y)::ps) H3:=rfl
end
end L2
namespace GW
noncomputable def CU (w:α2):List (Int×α2)->Nat->α2->List (Int×α2)
 |ents,_,[]=>ents
 |ents,x,g::r=>CU w (if g∈ents.map (·.1) then ents else ents++[(g,w++[(x:Int)])]) (x+1) r
noncomputable def bfs (ae:α1):Nat->List (Int×α2)->Nat->List (Int×α2)
 |0,ents,_=>ents
 |f+1,ents,i=>match ents[i]? with
  |none=>ents
  |some e=>bfs ae f (CU e.2 ents 0 (ae.getD e.1.toNat [])) (i+1)
noncomputable def Au (ae:α1):List (Int×α2):=bfs ae (ae.length+1) [(0,[])] 0
def Kb {ae:α1}{ents:List (Int×α2)}{i:Nat}(h:ents[i]?=none):∀f,bfs ae f ents i=ents
 |0=>rfl
 |f+1=>by rw[bfs,h]
def Kc  {ents:List (Int×α2)}   (h:ents[i]?=some e)(f:Nat):bfs ae (f+1) ents i=bfs ae f (CU e.2 ents 0 (ae.getD e.1.toNat [])) (i+1):=by rw[bfs,h]
def HX:∀(n:Nat) {l:α2},l.Nodup->(∀x∈l,0<=x/\x<(n:Int))->l.length<=n
 |0,l,_,h=>by
  cases l with
  |nil=>simp
  |cons x r=>have:=h x jl_;lia
 |n+1,l,hn,h=>by
  by_cases hm:(n:Int)∈l
  ·have e:=qU_ hm
   have:=HX n (l:=l.erase (n:Int)) (hn.erase _) (fun x hx=>by
    have h1:=(hn.mem_erase_iff).mp hx
    have h2:=h x h1.2
    have h3:=h1.1
    lia)
   lia
  ·have:=HX n hn (fun x hx=>by
    have h2:=h x hx
    have:x≠n:=fun z=>hm (z ▸ hx)
    lia)
   lia
structure Bfs (L:Int)(n:Nat)(ae:α1)(ents:List (Int×α2))(i:Nat)(top:Int):Prop where
 hd:ents[0]?=some (0,[])
 il:i<=ents.length
 sh:∀(j:Nat) (e:Int×α2),ents[j]?=some e->e.2.length<=j
 nod:(ents.map (·.1)).Nodup
 rng:∀e∈ents,0<=e.1/\e.1<(n:Int)
 wd:∀e∈ents,isW L e.2=true/\Az ae e.2=e.1
 inc:∀(j k:Nat) (a b:Int×α2),j<k->ents[j]?=some a->ents[k]?=some b->AJ L a.2<AJ L b.2
 bnd:∀e∈ents,AJ L e.2<top
 don:∀j,j<i->∀e,ents[j]?=some e->∀x:Int,0<=x->x<L->∃e'∈ents,e'.1=Bv ae e.1 x/\AJ L e'.2<=AJ L (e.2++[x])
def Bfs.len    {ents:List (Int×α2)}   (h:Bfs L n ae ents i top):ents.length<=n:=by
 have:=HX n h.nod (fun x hx=>by
  obtain⟨e,he,rfl⟩:=jv_.mp hx
  exact h.rng e he)
 simpa using this
def Bfs.start (L:Int)  (hn:1<=n)(ae:α1):Bfs L n ae [(0,[])] 0 1:=by
 refine⟨rfl,by simp,(fun j e he=>by cases j with|zero=>(simp at he;subst he;simp)|succ j=>simp at he),by simp,fun e he=>?_,fun e he=>?_,fun j k a b h h1 h2=>?_,fun e he=>?_,fun j hj=>absurd hj (q9_ _)⟩
 ·simp at he;subst he;simp;lia
 ·simp at he;subst he;exact⟨rfl,rfl⟩
 ·have:=(jb_.mp h2).1;simp at this;lia
 ·simp at he;subst he;simp[AJ,AV]
def Bfs.add  (hL:0<L)   {ents:List (Int×α2)}   (h:Bfs L n ae ents i top)   (hw:(r,w)∈ents)(hx:0<=x/\x<L)(ht:top<=AJ L w*L+x+1)
  (hg:g=Bv ae r x) (bZ:0<=g/\g<(n:Int)) (dm:g∉ents.map (·.1)):Bfs L n ae (ents++[(g,w++[x])]) i (AJ L w*L+x+2):=by
 obtain⟨v1,v2⟩:=h.wd _ hw
 have hp:=Ge L w x
 have ak:0<ents.length:=by have:=(jb_.mp h.hd).1;lia
 refine⟨?_,by have:=h.il;simp;lia,fun j e he=>?_,?_,fun e he=>?_,fun e he=>?_,fun j k a b iO h1 h2=>?_,fun e he=>?_,fun j hj e he y lW je=>?_⟩
 ·rw[ji_ ak];exact h.hd
 ·have hj:=(jb_.mp he).1
  rw[jn_,jW_]at hj
  by_cases eF:j<ents.length
  ·rw[ji_ eF]at he
   exact h.sh j e he
  ·have e1:j=ents.length:=by lia
   subst e1
   rw[jp_ (jg_ _),qv_]at he
   simp at he
   subst he
   obtain⟨j',cq,ej⟩:=jU_ hw
   have:=h.sh j' (r,w) (by rw[jf_ cq,ej])
   have this':w.length<=j':=this
   show (w++[x]).length<=ents.length
   simp;lia
 ·rw[jV_,zq_]
  refine⟨h.nod,by simp,fun a ha b hb=>?_⟩
  simp at hb
  subst hb
  exact fun z=>dm (z ▸ ha)
 ·rcases jA_.mp he with he|he
  ·exact h.rng e he
  ·rw[jr_.mp he];exact bZ
 ·rcases jA_.mp he with he|he
  ·exact h.wd e he
  ·rw[jr_.mp he]
   refine⟨?_,?_⟩
   ·rw[Av]at v1 ⊢
    intro z hz
    rcases jA_.mp hz with hz|hz
    ·exact v1 z hz
    ·rw[jr_.mp hz];exact hx
   ·show Az ae (w++[x])=g
    rw[BI]
    have v2':Az ae w=r:=v2
    rw[v2',hg]
 ·have hk:=(jb_.mp h2).1
  rw[jn_,jW_]at hk
  by_cases gQ:k<ents.length
  ·rw[ji_ gQ]at h2
   rw[ji_ s!""]at h1
   exact h.inc j k a b iO h1 h2
  ·have hke:k=ents.length:=by lia
   subst hke
   rw[ji_ s!""]at h1
   rw[jp_ (jg_ _),qv_]at h2
   simp at h2
   subst h2
   have:=h.bnd a (jc_ h1)
   show AJ L a.2<AJ L (w++[x])
   rw[hp];lia
 ·rcases jA_.mp he with he|he
  ·have:=h.bnd e he;lia
  ·rw[jr_.mp he]
   show AJ L (w++[x])<_
   rw[hp];lia
 ·have eF:j<ents.length\/j=ents.length:=by
   have:=(jb_.mp he).1
   rw[jn_,jW_]at this
   lia
  rcases eF with eF|eF
  ·rw[ji_ eF]at he
   obtain⟨e',m,q⟩:=h.don j hj e he y lW je
   exact⟨e',qa_ _ m,q⟩
  ·exact absurd eF (by have:=h.il;lia)
def Bfs.up    {ents:List (Int×α2)}   (h:Bfs L n ae ents i top)(ht:top<=fP):Bfs L n ae ents i fP :=
 ⟨h.hd,h.il,h.sh,h.nod,h.rng,h.wd,h.inc,fun e he=>Int.lt_of_lt_of_le (h.bnd e he) ht,h.don⟩
noncomputable def Seen (L:Int)(ae:α1)(ents:List (Int×α2))(r:Int)(w:α2)(x:Nat):Prop:=∀y:Int,0<=y->y<x->∃e'∈ents,e'.1=Bv ae r y/\AJ L e'.2<=AJ L (w++[y])
def Bfs.letter {L:Int}(hL:0<L){n:Nat}{ae:α1}{ents:List (Int×α2)}{i x:Nat}{w:α2}{r g:Int}(h:Bfs L n ae ents i (AJ L w*L+x+1))(hs:Seen L ae ents r w x)(hw:(r,w)∈ents)(hx:(x:Int)<L)
  (hg:g=Bv ae r x) (bZ:0<=g/\g<(n:Int)):Bfs L n ae (if g∈ents.map (·.1) then ents else ents++[(g,w++[(x:Int)])]) i (AJ L w*L+((x+1:Nat):Int)+1)/\Seen L ae (if g∈ents.map (·.1) then ents else ents++[(g,w++[(x:Int)])]) r w (x+1):=by
 by_cases hm:g∈ents.map (·.1)
 ·rw[if_pos hm]
  refine⟨h.up (by push_cast;lia),fun y lW je=>?_⟩
  by_cases lN:y<x
  ·exact hs y lW lN
  ·have e:y=x:=by push_cast at je;lia
   subst e
   obtain⟨e',fi,e1⟩:=jv_.mp hm
   refine⟨e',fi,by rw[<-hg];exact e1,?_⟩
   have:=h.bnd e' fi
   rw[Ge];lia
 ·rw[if_neg hm]
  refine⟨(h.add hL hw ⟨by lia,hx⟩ (zp_ _) hg bZ hm).up (by push_cast;lia),fun y lW je=>?_⟩
  by_cases lN:y<x
  ·obtain⟨e',m,q⟩:=hs y lW lN
   exact⟨e',qa_ _ m,q⟩
  ·have e:y=x:=by push_cast at je;lia
   subst e
   exact⟨_,jx_ _ jl_,hg,zp_ _⟩
def Bfs.next {L:Int}(hL:0<L){n i m:Nat}{ae:α1}{ents:List (Int×α2)}{w:α2}{r:Int}(h:Bfs L n ae ents i (AJ L w*L+m+1))(hm:(m:Int)=L)(hs:Seen L ae ents r w m)(hw:ents[i]?=some (r,w)):
  Bfs L n ae ents (i+1) (AJ L w*L+L+1)/\∀e,ents[i+1]?=some e->AJ L w*L+L+1<=AJ L e.2*L+1:=by
 have hi:=(jb_.mp hw).1
 rw[hm]at h
 refine⟨⟨h.hd,hi,h.sh,h.nod,h.rng,h.wd,h.inc,h.bnd,fun j hj e he x h0 h1=>?_⟩,fun e he=>?_⟩
 ·by_cases lX:j<i
  ·exact h.don j lX e he x h0 h1
  ·have e1:j=i:=by lia
   subst e1
   rw[hw]at he
   cases he
   exact hs x h0 s!""
 ·have:=h.inc i (i+1) _ _ (zy_ _) hw he
  have h2:=qu_ (show AJ L w+1<=AJ L e.2 from this) (xJ_ hL)
  rw[z0_]at h2
  lia
def Gg (w:α2)(ents:List (Int×α2))(x:Nat):CU w ents x []=ents:=rfl
def Fo (w:α2)(ents:List (Int×α2))(x:Nat)(g:Int)(r:α2):CU w ents x (g::r)=CU w (if g∈ents.map (·.1) then ents else ents++[(g,w++[(x:Int)])]) (x+1) r:=rfl
def Fp {ents:List (Int×α2)}{g:Int}{v:α2}{i:Nat}{e:Int×α2}(h:ents[i]?=some e):(if g∈ents.map (·.1) then ents else ents++[(g,v)])[i]?=some e:=by
 split
 ·exact h
 ·rw[ji_ (jb_.mp h).1];exact h
end GW
namespace L2
open PySem PySem.Spec PyProof.Rows
noncomputable def ups (n:Nat):α2:=(List.range n).map fun i:Nat=>(i:Int)
noncomputable def Nx (te:TE):TE:=fun σ H Q=>te σ H fun x H1=>∃j:Int,x=.int j/\0<=j/\j<=100000/\∀p,H1 p=none->Q (.ref p) (upd H1 p (.lst ((ups j.toNat).map V.int)))
theorem Lj     : Nx te σ H Q=te σ H fun x H1=>∃j:Int,x=.int j/\0<=j/\j<=100000/\∀p,H1 p=none->Q (.ref p) (upd H1 p (.lst ((ups j.toNat).map V.int))):=rfl
def Ql   (h:ItemsOf (fun i v=>∃t,v=.int ((0:Int)+(i:Nat)*1) t) ai n):Vals ((ups n).map V.int) ai.toList:=by
 have hs:=h.1
 have key:∀(l:List Value) (k:Nat),(∀i v,l[i]?=some v->∃t,v=Value.int ((k+i:Nat):Int) t)->Vals (((List.range l.length).map fun i=>((k+i:Nat):Int)).map V.int) l:=by
  intro l
  induction l with
  |nil=>intro k _;exact .nil
  |cons u r ih=>
   intro k hk
   rw[jS_,List.range_succ_eq_map,j0_,j0_]
   refine .cons ?_ ?_
   ·obtain⟨t,e⟩:=hk 0 u (by simp)
    exact⟨t,by simpa using e⟩
   ·have:=ih (k+1) (fun i v hv=>by
     obtain⟨t,e⟩:=hk (i+1) v (by simpa using hv)
     exact⟨t,by rw[e];congr 1;push_cast;lia⟩)
    have e:((List.map Nat.succ (List.range r.length)).map fun i=>((k+i:Nat):Int))=((List.range r.length).map fun i=>((k+1+i:Nat):Int)):=by
     rw[jR_]
     apply qj_
     intro i _
     show ((k+(i+1):Nat):Int)=_
     congr 1;lia
    rw[e]
    exact this
 have:=key ai.toList 0 (fun i v hv=>by
  obtain⟨t,e⟩:=h.2 i v (by simpa using hv)
  exact⟨t,by rw[e];congr 1;push_cast;lia⟩)
 have hl:ai.toList.length=n:=by simpa using hs
 rw[hl]at this
 have e2:((List.range n).map fun i=>((0+i:Nat):Int))=ups n:=by
  unfold ups
  apply qj_
  intro i _
  congr 1;lia
 rw[e2]at this
 exact this
def Gh     (hc:X.calm=true)(hg:Gl X "list")(hm:X.mg "list"=none)(jf:Gl X "range")(gA:X.mg "range"=none)(he:PE X e te)
  (iP:starEach [.Call (.Name "range" p2) [e] [] dy] X.env=[(false,eval (.Call (.Name "range" p2) [e] [] dy) X.env)]:=by rfl) (hs:starEach [e] X.env=[(false,eval e X.env)]:=by rfl):
  PE X (.Call (.Name "list" p) [.Call (.Name "range" p2) [e] [] dy] [] pos) (Nx te):=by
 intro af s σ H Q I h
 refine xr_ (DT I hg hm boot_list ?_)
 refine j6_ ?_ iP rfl
 rw[iP]
 refine xq_ ?_
 refine Call_ (DT I jf gA boot_range (j6_ (thn (Aa he Ae hs dy af s σ H (fun vs H1=>∃j:Int,vs=[.int j]/\0<=j/\j<=100000/\∀p,H1 p=none->Q (.ref p) (upd H1 p (.lst ((ups j.toNat).map V.int)))) I ?_) fun us s1 ⟨vs,H1,I1,r1,q1⟩=>?_) hs rfl))
 ·show te σ H _
  have:(fun x H1=>∃j:Int,x=V.int j/\0<=j/\j<=100000/\∀p,H1 p=none->Q (.ref p) (upd H1 p (.lst ((ups j.toNat).map V.int))))=(fun x H1=>tNil σ H1 fun xs H2=>∃j:Int,x::xs=[V.int j]/\0<=j/\j<=100000/\∀p,H2 p=none->Q (.ref p) (upd H2 p (.lst ((ups j.toNat).map V.int)))):=by
   funext x H1
   simp[tNil]
  rw[<-this]
  exact h
 ·obtain⟨j,rfl,h0,h1,q⟩:=q1
  cases r1 with
  |cons r rr=>
   cases rr
   obtain⟨t,rfl⟩:=r
   refine call_range_1 ?_
   refine xW_ ?_
   refine call_list_range (n:=j.toNat) (I.ok.hd hc) (IsRange.new ..) (small_one s!"" s!"" s!"" s!"") ?_ s!"" fun h' tk dz c' hk hS bQ=>?_
   ·rw[rangeSize_one];split<;>lia
   ·have kp:∀b o,s1.heap.get? b=some o->h'.get? b=some o:=fun b o e=>hk b o (jo_ _ e)
    have hz:(ups j.toNat).length=j.toNat:=by simp[ups]
    have hl:=As
    refine⟨.ref _,_,I1.laid (t':=tk) kp (by rw[qw_];exact zZ_ _) (show Bk X.prog X.w _ h' _ (.lst ((ups j.toNat).map V.int)) from ⟨by rw[ja_,hz];lia,dz.toList,c',Ql bQ,by simpa using hS⟩),rfl,q _ (I1.hok.fresh (by rw[qw_];exact zZ_ _))⟩
noncomputable def Qm (tk tv:TE):TE:=Ux [(tk,tv)]
def R0     (hk:PE X k tk)(hv:PE X v tv):PE X (.Dict [some k] [v] pos) (Qm tk tv):=Uy (RS hk hv Uw) rfl rfl (by intro z;cases z) (by show 1<=15;decide)
theorem Qn     : Qm tk tv σ H Q=∀p,H p=none->tk σ (upd H p (.dK [])) fun x H1=>tv σ H1 fun y H2=>H2 p=some (.dK [])/\∃kvs:List (Key×V),[(x,y)]=kvs.map (fun kv=>(kV kv.1,kv.2))/\kvs.length<=15/\Q (.ref p) (upd H2 p (.dK (GK [] kvs))):=rfl
def UG {X:Cx}{i:Nat}{x:Str}{k v:Expr}{tk tv:TE}{pos b8 dpos:Pos}(hN:X.N.Nodup)(hi:X.N[i]?=some x)(hx:Loc X.env.scope x)(hk:PE X k tk)(hv:PE X v tv)(hs:swapsWith (.Dict [some k] [v] dpos) (some (.Name x b8)) pos.line X.env=pure false)
  (hf:X.fn x=true\/X.env.scope.names.lookup x=some .local):PS X (.Assign [.Name x b8] (.Dict [some k] [v] dpos) pos) (tAsg (Qm tk tv) (Gb i)):=Bl hN hi hx (R0 hk hv) hs hf
end L2
namespace L2
def Ny (ys:α2)(m:Nat):cutV (ys.map V.int) none (some (m:Int))=(ys.take m).map V.int:=by
 rw[Nm]
 unfold cutI
 rw[HT.sIx_nat,HT.sIx_none,List.drop_zero,Nat.sub_zero]
 congr 1
 rw[List.take_eq_take_iff]
 lia
end L2
namespace L2
open PySem GW
noncomputable def mkW (aa:α2)(r:Int):Int:=aa.getD r.toNat 0
def Wl   (h0:0<=r)(h1:r<aa.length):mkW aa r∈aa:=by
 have ar:r.toNat<aa.length:=by lia
 unfold mkW
 rw[jj_,jf_ ar]
 exact j2_ ar
def Qo   (h0:0<=r)(h1:r<aa.length):atI (aa.map V.int) r=some (V.int (mkW aa r)):=by
 have ar:r.toNat<aa.length:=by lia
 refine AY h0 ?_
 unfold mkW
 rw[jj_,jf_ ar];rfl
end L2
namespace GW
def Bfs.least {L:Int}{n:Nat}{ae:α1}{top:Int}{ents:List (Int×α2)}(h:Bfs L n ae ents ents.length top){ws:α2}(hv:isW L ws=true):∀i,i<=ws.length->∃w',(Az ae (ws.take i),w')∈ents/\AJ L w'<=AJ L (ws.take i)
 |0,_=>⟨[],by simpa [Az] using jc_ h.hd,by simp⟩
 |i+1,hi=>by
  obtain⟨w',m,hp⟩:=Bfs.least h hv i s!""
  have bG:ws[i]?=some ws[i]:=by simp
  have bB:=Av.mp hv ws[i] (j2_ _)
  obtain⟨j,hj,ej⟩:=jU_ m
  obtain⟨e',me,e1,e2⟩:=h.don j hj _ (by rw[jf_ hj,ej]) ws[i] bB.1 bB.2
  obtain⟨g,v⟩:=e'
  have e1:g=Bv ae (Az ae (ws.take i)) ws[i]:=e1
  have e2:AJ L v<=AJ L (w'++[ws[i]]):=e2
  have et:ws.take (i+1)=ws.take i++[ws[i]]:=by rw[jQ_,bG];rfl
  have hL:0<=L:=by lia
  refine⟨v,?_,?_⟩
  ·rw[et,BI,<-e1];exact me
  ·rw[et]
   rw[Ge]at e2 ⊢
   have:=qu_ hp hL
   lia
end GW
namespace L2
open PySem PySem.Spec PyProof.Rows
def Vals.ofIx:∀{xs:List V} {us:List Value},us.length=xs.length->(∀(i:Nat) (v:Value),us[i]?=some v->∃x,xs[i]?=some x/\RelV x v)->Vals xs us
 |[],[],_,_=>.nil
 |[],_::_,h,_=>by simp at h
 |_::_,[],h,_=>by simp at h
 |x::xs,u::us,h,k=>by
  refine .cons ?_ (Vals.ofIx (by simpa using h) fun i v hv=>?_)
  ·obtain⟨y,e,r⟩:=k 0 u rfl
   cases e
   exact r
  ·obtain⟨y,e,r⟩:=k (i+1) v (by simpa using hv)
   exact⟨y,by simpa using e,r⟩
def Qp   (h:L6 k v=true):RelV (kV k) v:=by
 rcases Bg h with ⟨i,t,rfl,e⟩|⟨x,t,rfl,e⟩
 ·exact⟨t,e⟩
 ·exact⟨t,e⟩
def IX  (hc:X.calm=true):Cg X (.type "list") (fun xs H Q=>∃p kvs,xs=[.ref p]/\H p=some (.dK kvs)/\∀l,H l=none->Q (.ref l) (upd H l (.lst (kvs.map fun kv=>kV kv.1)))):=by
 intro af s σ H xs us Q I r h
 obtain⟨p,kvs,rfl,hp,q⟩:=h
 obtain⟨u,rfl,rx⟩:=vals1 r
 cases rx
 obtain⟨hz,hS,vs,rr,m⟩:=RP I.hok hp
 obtain⟨ep,lY⟩:=m.dictAt
 have ak:=rr.length
 have hks:=rr.keys
 refine PySem.W.kdl_call (PySem.W.kdl_dict (knd:=Bj X.prog X.w) (kvs:=vs) (ep:=ep) hS) (I.ok.hd hc) lY s!"" fun h' tk dz c' hk hD bQ=>?_
 have hv:Vals (kvs.map fun kv=>kV kv.1) dz.toList:=by
  refine Vals.ofIx (by rw[ja_,ak];simpa using bQ.1) fun i v hv=>?_
  obtain⟨k,x,hx,cc⟩:=bQ.2 i v (by simpa using hv)
  refine⟨kV k,?_,Qp cc⟩
  have e1:(kvs.map (·.1))[i]?=some k:=by rw[hks,jd_,hx];rfl
  rw[jd_]at e1 ⊢
  cases hq:kvs[i]? with
  |none=>rw[hq]at e1;cases e1
  |some kv=>rw[hq]at e1;cases e1;rfl
 exact⟨.ref _,_,I.laid (t':=tk) hk (jg_ _) (show Bk X.prog X.w _ h' _ (.lst (kvs.map fun kv=>kV kv.1)) from ⟨by rw[ja_];exact hz,dz.toList,c',hv,by simpa using hD⟩),rfl,q _ (I.hok.fresh (jg_ _))⟩
end L2
namespace L2
theorem r_in {K:α3}     : rIn K i8 x y H Q=∃p xs,y=.ref p/\(SqL K H p xs\/SqT K H p xs)/\Cy x=true/\xs.all Cy=true/\Q (.bl (if i8 then !inV x xs else inV x xs)) H:=rfl
def HY (ns:α2):(ns.map V.int).all Cy=true:=by
 rw[qJ_]
 intro x hx
 obtain⟨n,_,rfl⟩:=jv_.mp hx
 rfl
def Nz (g:Int)(ns:α2):inV (.int g) (ns.map V.int)=decide (g∈ns):=by
 unfold inV
 rw[List.any_map,qB_,x5_,qs_]
 constructor
 ·rintro⟨n,hn,e⟩
  have e:decide (n=g)=true:=by simpa [eqV] using e
  rw[<-ql_ e];exact hn
 ·exact fun h=>⟨g,h,by simp[eqV]⟩
end L2
namespace L2
open PySem PySem.Spec PyProof.Rows
noncomputable def rng (i j:Int):α2:=(List.range (j-i).toNat).map fun k:Nat=>i+(k:Int)
end L2
namespace GW
open L2
def HZ:∀{l m:α2},l.Nodup->(∀x∈l,x∈m)->m.length<=l.length->l.Perm m
 |[],m,_,_,h=>by
  have:m=[]:=List.eq_nil_of_length_eq_zero (by simpa using h)
  subst this;exact .refl _
 |x::l,m,hn,h,hl=>by
  have hx:=h x jl_
  have fB:=qC_.mp hn
  have p:=HZ (l:=l) (m:=m.erase x) fB.2 (fun y hy=>(xg_ (fun (z:y=x)=>fB.1 (z ▸ hy))).mpr (h y (jk_ _ hy))) (by rw[qU_ hx];simp at hl;lia)
  exact (p.cons x).trans (List.perm_cons_erase hx).symm
def Qq (n:Nat):(ups n).Nodup:=by
 unfold ups
 exact List.Pairwise.map (R:=(· ≠ ·)) _ (fun a b cu z=>cu s!"") zA_
def Qr   : x∈ups n↔0<=x/\x<(n:Int):=by
 unfold ups
 rw[jv_]
 constructor
 ·rintro⟨r,hr,rfl⟩
  have:=jG_.mp hr
  lia
 ·exact fun h=>⟨x.toNat,jG_.mpr s!"",by lia⟩
def Qs (n:Nat):(ups n).length=n:=by simp[ups]
noncomputable def C9 (n:Nat)(o:α2):Prop:=o.Perm (ups n)/\o[0]?=some 0
def C9.len   (h:C9 n o):o.length=n:=by rw[h.1.length_eq,Qs]
def C9.nod   (h:C9 n o):o.Nodup:=(h.1.nodup_iff).mpr (Qq n)
def C9.mem   (h:C9 n o)  : x∈o↔0<=x/\x<(n:Int):=by rw[h.1.mem_iff,Qr]
noncomputable def ordW (o:α2)(r:Int):Int:=o.getD r.toNat 0
def UH   (h0:0<=r)(h1:r<o.length):o[r.toNat]?=some (ordW o r):=by
 unfold ordW
 rw[jj_,jf_ s!""];rfl
def C9.at   (h:C9 n o)  (h0:0<=r)(h1:r<(n:Int)):o[r.toNat]?=some (ordW o r)/\0<=ordW o r/\ordW o r<(n:Int):=by
 have:=UH (o:=o) h0 (by rw[h.len];exact h1)
 exact⟨this,h.mem.mp (jc_ this)⟩
def C9.inv   (h:C9 n o)  (h0:0<=x)(h1:x<(n:Int)):∃r:Nat,r<n/\o[r]?=some x:=by
 obtain⟨r,hr,e⟩:=jU_ (h.mem.mpr ⟨h0,h1⟩)
 exact⟨r,by rw[<-h.len];exact hr,by rw[jf_ hr,e]⟩
noncomputable def CB {α:Type}(o:α2)(f:Nat->α):Nat->List α->List α
 |0,d=>d
 |i+1,d=>(CB o f i d).set (ordW o i).toNat (f i)
def CH {α:Type}(o:α2)(f:Nat->α):∀(i:Nat) (d:List α),(CB o f i d).length=d.length
 |0,_=>rfl
 |i+1,d=>by rw[CB,qP_,CH o f i d]
def C9.inj   (h:C9 n o)  (hr:r<n)(hq:q<n)(e:ordW o r=ordW o q):r=q:=by
 have a:=(h.at (r:=(r:Int)) s!"" s!"").1
 have b:=(h.at (r:=(q:Int)) s!"" s!"").1
 rw[jh_]at a b
 have bC:r<o.length:=by rw[h.len];exact hr
 have gz:q<o.length:=by rw[h.len];exact hq
 refine (xM_ (h₀:=bC) (h₁:=gz) h.nod).mp ?_
 rw[jf_ bC]at a
 rw[jf_ gz]at b
 rw[jq_ a,jq_ b,e]
def Ia {α:Type}{n:Nat}{o:α2}(h:C9 n o)(f:Nat->α):∀(i:Nat) (d:List α),i<=n->d.length=n->∀r:Nat,r<i->(CB o f i d)[(ordW o r).toNat]?=some (f r)
 |0,_,_,_,r,hr=>absurd hr (q9_ _)
 |i+1,d,hi,hd,r,hr=>by
  have b:=(h.at (r:=(r:Int)) s!"" s!"").2
  have c:=(h.at (r:=(i:Int)) s!"" s!"").2
  rw[CB]
  by_cases e:r=i
  ·subst e
   rw[qN_ (by rw[CH,hd];lia)]
  ·have ne:ordW o i≠ordW o r:=fun z=>e (h.inj s!"" s!"" z.symm)
   rw[xf_ s!""]
   exact Ia h f i d s!"" hd r s!""
noncomputable def Qt (n:Nat)(o aa:α2):α2:=CB o (fun r=>aa.getD r 0) n (List.replicate n 0)
noncomputable def Qu (n:Nat)(o:α2)(ae:α1):α1:=CB o (fun r=>(ae.getD r []).map (ordW o)) n (List.replicate n [])
end GW
namespace L2
open PySem PySem.Spec PyProof.Rows GW
def CA.set {K:α3}      (h:CA K H l ws)(hw:SqT K H t (w.map V.int)):∃xs,H l=some (.lst xs)/\xs.length=ws.length/\CA K (upd H l (.lst (xs.set j (V.ref t)))) l (ws.set j w):=by
 obtain⟨ts,h1,h2,h3⟩:=h
 refine⟨_,h1,by simpa using h2,ts.set j t,by rw[Ab,List.map_set],by simpa using h2,fun i t' w' a b=>?_⟩
 have key:∀{u:Addr} {v:α2},SqT K H u (v.map V.int)->SqT K (upd H l (.lst ((ts.map V.ref).set j (V.ref t)))) u (v.map V.int):=fun q=>Ka h1 q
 by_cases e:j=i
 ·subst e
  rw[qN_ (by have:=(jb_.mp a).1;simpa using this)]at a
  rw[qN_ (by have:=(jb_.mp b).1;simpa using this)]at b
  cases a;cases b
  exact key hw
 ·rw[xf_ e]at a b
  exact key (h3 i t' w' a b)
end L2
namespace L2
def Kd {α:Type}(x:α):∀n:Nat,(List.replicate n [x]).flatten=List.replicate n x
 |0=>rfl
 |n+1=>by rw[qi_,xC_,Kd x n,qi_];rfl
end L2
namespace L2
def NA {n:Nat}{x:Int}(h0:0<=x)(h1:x<(n:Int)):ixN n x=some x.toNat:=by
 unfold ixN
 simp only[h0,h1,and_self,xR_]
end L2
namespace GW
def Dc (n:Nat)(o aa:α2):(Qt n o aa).length=n:=by unfold Qt;rw[CH,qD_]
def Lk (n:Nat)(o:α2)(ae:α1):(Qu n o ae).length=n:=by unfold Qu;rw[CH,qD_]
def R3   (h:C9 n o)(aa:α2)  (hr:r<n):(Qt n o aa)[(ordW o r).toNat]?=some (aa.getD r 0):=Ia h _ n _ (jg_ _) (qD_) r hr
def R4   (h:C9 n o)(ae:α1)  (hr:r<n):(Qu n o ae)[(ordW o r).toNat]?=some ((ae.getD r []).map (ordW o)):=Ia h _ n _ (jg_ _) (qD_) r hr
end GW
namespace GW
open L2
def C9.nat   (h:C9 n o)  (hj:j<n):∃r:Nat,r<n/\ordW o r=(j:Int):=by
 obtain⟨r,hr,er⟩:=h.inv (x:=(j:Int)) s!"" s!""
 have a:=(h.at (r:=(r:Int)) s!"" s!"").1
 rw[jh_,er]at a
 exact⟨r,hr,(jq_ a).symm⟩
def Wf.getW    (wf:Wf L aa ae)  (hr:r<aa.length):ae[r]?=some (ae.getD r [])/\ae.getD r []∈ae:=by
 have ar:r<ae.length:=by rw[wf.len];exact hr
 have e:ae.getD r []=ae[r]:=by rw[jj_,jf_ ar];rfl
 rw[e]
 exact⟨jf_ ar,j2_ ar⟩
def R5 {L:Int}{aa:α2}{ae:α1}{o:α2}(wf:Wf L aa ae)(h:C9 aa.length o){j:Nat}{row:α2}(hj:(Qu aa.length o ae)[j]?=some row):∃r:Nat,r<aa.length/\ordW o r=(j:Int)/\row=(ae.getD r []).map (ordW o):=by
 have ar:=(jb_.mp hj).1
 rw[Lk]at ar
 obtain⟨r,hr,er⟩:=h.nat ar
 have:=R4 h ae hr
 rw[er,jh_,hj]at this
 exact⟨r,hr,er,jq_ this⟩
def UI     (wf:Wf L aa ae)(h:C9 aa.length o):Wf L (Qt aa.length o aa) (Qu aa.length o ae):=by
 refine⟨wf.l1,wf.l6,by rw[Dc];exact wf.n1,by rw[Dc];exact wf.n40,by rw[Dc,Lk],fun row hrow=>?_,fun m hm=>?_⟩
 ·rw[Dc]
  obtain⟨j,hj,e⟩:=jU_ hrow
  obtain⟨r,hr,_,rfl⟩:=R5 wf h (j:=j) (row:=row) (by rw[jf_ hj,e])
  have hw:=wf.rows _ (wf.getW hr).2
  refine⟨by rw[ja_];exact hw.1,fun x hx=>?_⟩
  obtain⟨g,hg,rfl⟩:=jv_.mp hx
  have:=hw.2 g hg
  exact (h.at this.1 this.2).2
 ·obtain⟨j,hj,e⟩:=jU_ hm
  have ar:=hj
  rw[Dc]at ar
  obtain⟨r,hr,er⟩:=h.nat ar
  have:=R3 h aa hr
  rw[er,jh_,jf_ hj,e]at this
  have:m=aa.getD r 0:=jq_ this
  rw[this,jj_,jf_ hr]
  exact wf.mks _ (j2_ hr)
end GW
namespace PySem
open Sem (wp)
noncomputable def Heap.DEnt (h:Heap)(d:Addr)(es:Array DictEntry)(ep:Nat):Prop:=∃o,h.get? d=some o/\o.ExactDict/\o.data=.dict es ep
section
variable {prog:Program} {w:World} {A:Around} {E:Value->Shared->Prop} {s:Shared} {d it:Addr} {es:Array DictEntry} {i ep:Nat}
def Heap.DEnt.typeIs (h:s.heap.DEnt d es ep):s.TypeIs (.ref d) "dict" := let ⟨o,ho,hc,_⟩:=h;⟨o,ho,hc.1⟩
def Heap.DEnt.at {h h':Heap}(x:h.DEnt d es ep)(e:∀o,h.get? d=some o->h'.get? d=some o):h'.DEnt d es ep:=let ⟨o,ho,r⟩:=x;⟨o,e _ ho,r⟩
def Heap.DEnt.lt_size {h:Heap}(x:h.DEnt d es ep):d<h.objs.size:=let ⟨_,ho,_⟩:=x;js_ ho
def Mo  (hd:(d==sysModules)=false)(hm:s.heap.DEnt d es ep)
  (hQ:Q (.ref s.heap.objs.size) {s with heap:=s.heap.push {cls:=.type "dict_keyiterator",data:=.fields #[.ref d,.int 0 0,.int es.size 0,.int ep 0]} }):wpAny (model prog w) A (pyIter (.ref d)) Q E s:=by
 have hT:=hm.typeIs
 obtain⟨o,ho,hc,gR⟩:=id hm
 refine wpAny_pyIter_slot hT F.slot_dict_iter (xo_ F.slot_dict_iter hT F.entry_dict_iter (?_:wpAny _ _ (Builtin.«dict.__iter__» _) _ _ s) (F.args_dict_iter_1 _))
 unfold Builtin.«dict.__iter__»;refine wpAny_bind ?_
 unfold Builtin.Dict.dictSlotNone;refine wpAny_bind (wpAny_notOrdered_dict hT ?_)
 show wpAny _ _ (pure (Value.ref d)) _ _ s;refine ju_ ?_
 show wpAny _ _ (Builtin.Dict.showsAll d >>= _) _ _ s;unfold Builtin.Dict.showsAll
 rw[if_neg (fun z=>by rw[hd]at z;cases z)]
 refine je_ (ju_ (je_ (zr_ ho gR (je_ (wpAny_dictEpoch ho gR ?_)))))
 refine je_ (qS_ (ju_ ⟨_,rfl,"dict_keyiterator",_,⟨_,jF_ _ rfl,rfl⟩,qV_.lookup,?_⟩));simpa [rawInt] using hQ
def G2  (a9:s.heap.IsKeyIter it d i es.size ep)(hm:s.heap.DEnt d es ep)(ar:i<es.size)
  (hQ:∀h',h'.IsKeyIter it d (i+1) es.size ep->Heap.SameBut it s.heap h'->Q (some es[i].key) {s with heap:=h' }):wpAny (model prog w) A (pyNext (.ref it)) Q E s:=by
 obtain⟨o,ho,hc,hd⟩:=id a9
 obtain⟨od,lZ,bL,l3⟩:=id hm
 have jg:Builtin.Dict_items.ownsTuple "dict_keyiterator"=false:=by decide
 unfold pyNext
 refine je_ (xK_ (qK_ (name:=Str.ofString "__next__") a9.typeIs qV_ (xo_ qV_ a9.typeIs F.entry_dict_keyiterator_next ?_ (F.args_dict_keyiterator_next_1 _))))
 refine je_ (ju_ (je_ (je_ ?_)))
 first|refine je_ (xd_ a9.typeIs (ju_ (je_ (wpAny_fieldsOf ho hd ?_))))|refine je_ (xE_ a9.typeIs (ju_ (je_ (wpAny_fieldsOf ho hd ?_))))
 simp only[jg,jY_,q3_];show wpAny _ _ (if (Value.ref d==Value.none)=true then _ else _) _ _ s
 rw[if_neg (show ¬ ((Value.ref d==Value.none)=true) from fun z=>jt_ z)]
 refine je_ (ju_ (je_ (zr_ lZ l3 ?_)))
 rw[if_neg (by simp)];refine je_ (ju_ (je_ (wpAny_dictEpoch lZ l3 ?_)))
 rw[if_neg (by simp)];refine ju_ ?_
 simp only[show ¬ ((i:Int)<0) from by lia,q3_,jh_,qy_ ar];refine je_ ?_
 first|refine je_ (xd_ a9.typeIs (ju_ (je_ (zu_ a9.typeIs ?_))))|refine je_ (xE_ a9.typeIs (ju_ (je_ (zu_ a9.typeIs ?_))))
 show wpAny _ _ (setField (.ref it) 1 (rawInt ((i:Int)+1)) >>= _) _ _ s;refine je_ (wpAny_setField ho hd (by simp) ?_)
 have eE:(s.heap.update it (Obj.mapFields (·.setIfInBounds 1 (rawInt ((i:Int)+1))))).IsKeyIter it d (i+1) es.size ep:=⟨_,qT_ _ ho (Obj.isFreed_of_fields (Obj.data_mapFields hd _)),(Obj.cls_mapFields ..).trans hc,by rw[Obj.data_mapFields hd];simp[rawInt]⟩
 refine je_ (qW_ (je_ (zu_ (s:={s with heap:=s.heap.update it (Obj.mapFields (·.setIfInBounds 1 (rawInt ((i:Int)+1))))}) eE.typeIs ?_)))
 show wpAny _ _ (pure es[i].key) _ _ _;exact ju_ (ju_ ⟨_,rfl,ju_ (hQ _ eE (x8_ ..))⟩)
def Ib  (hh:A.handled=none)(a9:s.heap.IsKeyIter it d i es.size ep)(hm:s.heap.DEnt d es ep)(bo:es.size<=i)
  (hQ:∀h',Heap.ExtBut it s.heap h'->Q none {s with heap:=h' }):wpAny (model prog w) A (pyNext (.ref it)) Q E s:=by
 obtain⟨o,ho,hc,hd⟩:=id a9
 obtain⟨od,lZ,bL,l3⟩:=id hm
 have jg:Builtin.Dict_items.ownsTuple "dict_keyiterator"=false:=by decide
 unfold pyNext
 refine je_ (xK_ (qK_ (name:=Str.ofString "__next__") a9.typeIs qV_ (xo_ qV_ a9.typeIs F.entry_dict_keyiterator_next ?_ (F.args_dict_keyiterator_next_1 _))))
 refine je_ (ju_ (je_ (je_ ?_)))
 first|refine je_ (xd_ a9.typeIs (ju_ (je_ (wpAny_fieldsOf ho hd ?_))))|refine je_ (xE_ a9.typeIs (ju_ (je_ (wpAny_fieldsOf ho hd ?_))))
 simp only[jg,jY_,q3_];show wpAny _ _ (if (Value.ref d==Value.none)=true then _ else _) _ _ s
 rw[if_neg (show ¬ ((Value.ref d==Value.none)=true) from fun z=>jt_ z)]
 refine je_ (ju_ (je_ (zr_ lZ l3 ?_)))
 rw[if_neg (by simp)];refine je_ (ju_ (je_ (wpAny_dictEpoch lZ l3 ?_)))
 rw[if_neg (by simp)];refine ju_ ?_
 simp only[show ¬ ((i:Int)<0) from by lia,q3_,jh_,Array.getElem?_eq_none bo];refine je_ ?_
 first|refine je_ (xd_ a9.typeIs (ju_ ?_))|refine je_ (xE_ a9.typeIs (ju_ ?_))
 show wpAny _ _ (setField (.ref it) 0 .none >>= _) _ _ s;refine je_ (wpAny_setField ho hd (by simp) ?_)
 show wpAny _ _ (newExc (.type "StopIteration") [] >>= _) _ _ _;refine je_ ?_
 simp only[newExc,newTuple];refine je_ (qS_ ?_ (by size_fits))
 refine je_ (m:=firstArgMember _ _) (wpAny_of_eq (a:=Value.none) (by first|rfl|(simp only[firstArgMember];rfl)) (qS_ ?_ (by size_fits)))
 simp only[raiseNew];refine je_ (wpAny_handled ?_)
 rw[show A.in1.handled=none from hh];refine je_ (ju_ (wpAny_throw ?_))
 refine je_ (wpAny_isInstance (T := "StopIteration") (b:=true) ⟨_,jF_ _ rfl,rfl⟩ isSubtype_stop (ju_ (hQ _ (((x8_ ..).extBut.push _).push _))))
def Walks.dent (hh:A.handled=none)(I:Addr)(aw:d≠I):Walks prog w A I [I,d] [I] es.size (fun i v=>∃e,es[i]?=some e/\v=e.key) (fun i h=>h.IsKeyIter I d i es.size ep/\h.DEnt d es ep) where
 sub:=fun b hb=>by simp at hb;simp[hb]
 frame:=fun _ _ _ st hk=>⟨st.1.at fun o e=>hk I (by simp) o e,st.2.at fun o e=>hk d (by simp) o e⟩
 item:=fun i s Q E hi st hQ=>by
  refine G2 st.1 st.2 hi fun h' eE fN=>?_
  exact hQ _ h' s.toks ⟨es[i],by simp[hi],rfl⟩ ⟨eE,st.2.at fun o e=>fN.extBut d o aw e⟩ fun b o hb e=>fN.extBut b o (fun z=>hb (by simp[z])) e
 done:=fun s Q E st hQ=>Ib hh st.1 st.2 (jg_ _) fun h' fi=>hQ h' s.toks fun b o hb e=>fi b o (fun z=>hb (by simp[z])) e
 self:=fun _ _ _ _ st hQ=>wpAny_pyIter_keyiter st.1 hQ
def R6 (lo:(d==sysModules)=false):PySem.W.KdlSrc prog w "dict" d d es.size (fun i v=>∃e,es[i]?=some e/\v=e.key) (fun h=>h.DEnt d es ep) where
 type:=fun _ hm=>hm.typeIs
 there:=fun _ hm=>⟨hm.lt_size,hm.lt_size⟩
 keep:=fun _ _ hm hk=>hm.at fun o e=>hk d (.inl rfl) o e
 notList:=by decide
 notTuple:=by decide
 hint:=fun _ _ _ _ hm hq=>PySem.W.kdl_hint_dict hm.typeIs hq
 iter:=fun _ _ hh hm=>⟨_,_,(fun _ _ hq=>Mo lo hm hq),Walks.dent hh _ (jL_ hm.lt_size),⟨⟨_,jF_ _ rfl,rfl,rfl⟩,hm.at fun o e=>jo_ _ e⟩⟩
end
end PySem
namespace L2
open PySem PySem.Spec PyProof.Rows
def Jo {α β:Type}{F:α->β->Prop}:∀{l:List α} {m:List β} {i:Nat} {a:α},Paired F l m->l[i]?=some a->∃b,m[i]?=some b/\F a b
 |_,_,_,_,.nil,e=>by simp at e
 |_,_,0,_,.cons r _,e=>by simp at e;subst e;exact⟨_,rfl,r⟩
 |_,_,i+1,a,.cons _ t,e=>by
  obtain⟨b,h1,h2⟩:=Jo (i:=i) (a:=a) t (by simpa using e)
  exact⟨b,by simpa using h1,h2⟩
def UJ       (ok:HOk P w H h)(e:Rd H a (.dT kvs)):
  ∃o es ep,h.get? a=some o/\o.ExactDict/\o.data=.dict es ep/\es.size=kvs.length/\(a==sysModules)=false/\kvs.length<=sizeLine /\
   ∀(i:Nat) (k:List Key) (v:V),kvs[i]?=some (k,v)->∃b en,es[i]?=some en/\en.key=.ref b/\H b=some (.tup (k.map kV)):=by
 obtain⟨z,y,xs,r,o,es,ep,h1,h2,h3,h4,h5⟩:=(show Bk P w H h a (.dT kvs) from Ut ok e)
 have hl:=Paired.length r
 have hs:es.size=kvs.length:=by rw[<-j3_,h4,ja_,hl]
 refine⟨o,es,ep,h1,h2,h3,hs,y,z,fun i k v hk=>?_⟩
 obtain⟨q,hq,e1,e2,_⟩:=Jo r hk
 refine⟨q.2.1,entryOfKey (tupleKind (Bj P w)) q,?_,rfl,e2⟩
 rw[<-xs_,h4,jd_,hq];rfl
def Ic  (hc:X.calm=true):Cg X (.type "list") (fun xs H Q=>∃p kvs,xs=[.ref p]/\Rd H p (.dT kvs)/\∀l rs,H l=none->rs.length=kvs.length ->
  (∀(i:Nat) (k:List Key) (v:V),kvs[i]?=some (k,v)->∃b,rs[i]?=some (V.ref b)/\H b=some (.tup (k.map kV)))->Q (.ref l) (upd H l (.lst rs))):=by
 intro af s σ H xs us Q I r h
 obtain⟨p,kvs,rfl,hp,q⟩:=h
 obtain⟨u,rfl,rx⟩:=vals1 r
 cases rx
 obtain⟨o,es,ep,g1,g2,g3,g4,g5,g6,g7⟩:=UJ I.hok hp
 refine PySem.W.kdl_call (R6 (es:=es) (ep:=ep) g5) (I.ok.hd hc) ⟨o,g1,g2,g3⟩ s!"" fun h' tk dz c' hk hD bQ=>?_
 let f:DictEntry->V:=fun e=>match e.key with | .ref b=>V.ref b|_=>.non
 have lY:∀(i:Nat) (k:List Key) (v:V),kvs[i]?=some (k,v)->∃b,(es.toList.map f)[i]?=some (V.ref b)/\H b=some (.tup (k.map kV)):=fun i k v jh=>by
  obtain⟨b,en,e1,e2,e3⟩:=g7 i k v jh
  refine⟨b,?_,e3⟩
  rw[jd_,xs_,e1]
  show some (f en)=_
  simp only[f,e2]
 have ak:(es.toList.map f).length=kvs.length:=by rw[ja_,j3_,g4]
 have hv:Vals (es.toList.map f) dz.toList:=by
  refine Vals.ofIx (by rw[ak,<-g4];simpa using bQ.1) fun i v hv=>?_
  obtain⟨e,he,rfl⟩:=bQ.2 i v (by simpa using hv)
  have hi:i<kvs.length:=by rw[<-g4];exact (q4_.mp he).1
  obtain⟨b,en,e1,e2,e3⟩:=g7 i kvs[i].1 kvs[i].2 (by simp[hi])
  rw[he]at e1
  cases e1
  refine⟨V.ref b,?_,by rw[e2];rfl⟩
  rw[jd_,xs_,he]
  show some (f e)=_
  simp only[f,e2]
 exact⟨.ref _,_,I.laid (t':=tk) hk (jg_ _) (show Bk X.prog X.w _ h' _ (.lst (es.toList.map f)) from ⟨by rw[ak];exact g6,dz.toList,c',hv,by simpa using hD⟩),rfl,q _ _ (I.hok.fresh (jg_ _)) ak lY⟩
end L2
namespace GB
open GW
variable {α:Type} [DecidableEq α]
noncomputable def Xa (step:α->Int->α)(a:α)(ws:α2):α:=ws.foldl step a
noncomputable def put (step:α->Int->α)(r:α)(w:α2)(ents:List (α×α2))(x:Nat):List (α×α2):=if step r x∈ents.map (·.1) then ents else ents++[(step r x,w++[(x:Int)])]
structure B (L:Int)(step:α->Int->α)(st:α)(ok:α->Prop)(ents:List (α×α2))(i:Nat)(top:Int):Prop where
 hd:ents[0]?=some (st,[])
 il:i<=ents.length
 sh:∀(j:Nat) (e:α×α2),ents[j]?=some e->e.2.length<=j
 nod:(ents.map (·.1)).Nodup
 rng:∀e∈ents,ok e.1
 wd:∀e∈ents,isW L e.2=true/\Xa step st e.2=e.1
 inc:∀(j k:Nat) (a b:α×α2),j<k->ents[j]?=some a->ents[k]?=some b->AJ L a.2<AJ L b.2
 bnd:∀e∈ents,AJ L e.2<top
 don:∀j,j<i->∀e,ents[j]?=some e->∀x:Int,0<=x->x<L->∃e'∈ents,e'.1=step e.1 x/\AJ L e'.2<=AJ L (e.2++[x])
variable {L:Int} {step:α->Int->α} {st:α} {ok:α->Prop} {ents:List (α×α2)} {i:Nat} {top:Int}
noncomputable def Bw (ae:α1)(r:Int)(ws:α2):Int:=ws.foldl (Bv ae) r
def BJ (ae:α1)(ws:α2):Bw ae 0 ws=Az ae ws:=rfl
def Bn (ae:α1)(r x:Int)(ws:α2):Bw ae r (x::ws)=Bw ae (Bv ae r x) ws:=rfl
def Oo (ae:α1)(r x:Int)(ws:α2):Bw ae r (ws++[x])=Bv ae (Bw ae r ws) x:=by
 unfold Bw
 rw[qx_];rfl
def Jp {ae:α1}{ws:α2}{i:Nat}{x r:Int}(h:ws[i]?=some x):Bw ae r (ws.take (i+1))=Bv ae (Bw ae r (ws.take i)) x:=by
 rw[jQ_,h]
 exact Oo _ _ _ _
def Hq {L:Int}{aa:α2}{ae:α1}(wf:Wf L aa ae):∀(ws:α2) {r:Int},isW L ws=true->0<=r->r<aa.length->0<=Bw ae r ws/\Bw ae r ws<aa.length
 |[],r,_,h0,h1=>⟨h0,h1⟩
 |x::ws,r,hv,h0,h1=>by
  have hx:=Av.mp hv x jl_
  obtain⟨_,g,_,_,h,g0,g1⟩:=wf.step h0 h1 hx.1 hx.2
  rw[Bn,h]
  exact Hq wf ws (Av.mpr fun y hy=>Av.mp hv y (jk_ _ hy)) g0 g1
end GB
namespace L2
open PySem PySem.Spec PyProof.Rows GW GB
noncomputable def TK (H H':Hp):Prop:=∀b xs,H b=some (.tup xs)->H' b=some (.tup xs)
def TK.refl (H:Hp):TK H H:=fun _ _ h=>h
def TK.of  (s:Same H H'):TK H H':=fun b xs h=>s b _ h
def TK.trans  (a:TK H H')(b:TK H' gS):TK H gS:=fun c xs h=>b c xs (a c xs h)
def TK.new    (h:H p=none):TK H (upd H p o):=TK.of (Same.new h)
def TK.lst {H:Hp}{p:Addr}{o:HO}{xs:List V}(h:H p=some (.lst xs)):TK H (upd H p o):=fun b ys e=>by rw[Aj (fun z=>by rw[z,h]at e;cases e)];exact e
def UK {κ:Type}[DecidableEq κ]{kvs:List (κ×V)}{i:Nat}{k:κ}{v:V}(hn:(kvs.map (·.1)).Nodup)(h:kvs[i]?=some (k,v)):valV kvs k=some v:=by
 induction kvs generalizing i with
 |nil=>simp at h
 |cons p r ih=>
  rw[j0_,qC_]at hn
  cases i with
  |zero=>simp at h;subst h;exact Hl rfl
  |succ i=>
   have h':r[i]?=some (k,v):=by simpa using h
   rw[Hm (fun z=>hn.1 (jv_.mpr ⟨(k,v),jc_ h',z.symm⟩))]
   exact ih hn.2 h'
end L2
namespace L2
theorem Qv    : PV σ H Q=∀p,H p=none->Q (.ref p) (upd H p (.dK [])):=rfl
theorem Qw    : PX σ H Q=∀p,H p=none->Q (.ref p) (upd H p (.dT [])):=rfl
end L2
namespace GB
open GW
def Ke   : isW L (x::w)=true↔(0<=x/\x<L)/\isW L w=true:=by
 rw[Av,Av]
 simp
def Hr   (h:isW L w=true)(j:Nat):isW L (w.take j)=true:=Av.mpr fun x hx=>Av.mp h x (xh_ hx)
def BL   (h:isW L v=true)(g:isW L w=true):isW L (v++w)=true:=Av.mpr fun x hx=>(jA_.mp hx).elim (Av.mp h x) (Av.mp g x)
end GB
namespace L2
open GW
noncomputable def Qx (n:Nat)(num:Int):α2:=0::(List.range (n-1)).map fun j:Nat=>1+((j:Int)+num)%((n:Int)-1)
def Qy  (hn:2<=n)(num:Int):C9 n (Qx n num):=by
 have rng:∀j:Nat,0<=((j:Int)+num)%((n:Int)-1)/\((j:Int)+num)%((n:Int)-1)<(n:Int)-1:=fun j=>⟨j7_ _ s!"",jZ_ _ s!""⟩
 refine⟨HZ ?_ (fun x hx=>?_) ?_,rfl⟩
 ·unfold Qx
  rw[qC_]
  refine⟨fun h=>?_,?_⟩
  ·obtain⟨j,_,e⟩:=jv_.mp h
   have:=rng j
   lia
  ·refine xF_.mpr (List.Pairwise.imp_of_mem (fun {a b} ha hb cu z=>cu ?_) zA_)
   have ha:=jG_.mp ha
   have hb:=jG_.mp hb
   have z:((a:Int)+num)%((n:Int)-1)=((b:Int)+num)%((n:Int)-1):=by lia
   have key:∀{a b:Nat},b<=a->a<n-1->((a:Int)+num)%((n:Int)-1)=((b:Int)+num)%((n:Int)-1)->a=b:=fun {a b} h1 h2 z=>by
    have:=Int.emod_eq_emod_iff_emod_sub_eq_zero.mp z
    rw[show (a:Int)+num-((b:Int)+num)=(a:Int)-b by lia,Int.emod_eq_of_lt s!"" s!""]at this
    lia
   rcases Nat.le_total b a with h|h
   ·exact key h ha z
   ·exact (key h hb z.symm).symm
 ·rw[Qr]
  unfold Qx at hx
  rcases jC_.mp hx with rfl|hx
  ·lia
  ·obtain⟨j,_,rfl⟩:=jv_.mp hx
   have:=rng j
   lia
 ·unfold Qx
  rw[Qs];simp;lia
end L2
namespace L2
open PySem PySem.Spec PyProof.Rows GW
noncomputable def LLs (H0 H:Hp)(xs:List V)(ws:α1):Prop:=∃ts:List Addr,xs=ts.map V.ref/\ts.length=ws.length/\ts.Nodup/\(∀(i:Nat) (t:Addr) (w:α2),ts[i]?=some t->ws[i]?=some w->H t=some (.lst (w.map V.int)))/\∀t∈ts,H0 t=none
def LLs.nil (H0 H:Hp):LLs H0 H [] []:=⟨[],rfl,rfl,List.nodup_nil,fun i t w h=>by simp at h,fun t h=>by simp at h⟩
def LLs.mono    (h:LLs H0 H xs ws)(s:Same H H'):LLs H0 H' xs ws:=by
 obtain⟨ts,a,b,c,d,e⟩:=h
 exact⟨ts,a,b,c,fun i t w h1 h2=>s _ _ (d i t w h1 h2),e⟩
def LLs.len    (h:LLs H0 H xs ws):xs.length=ws.length:=by
 obtain⟨ts,a,b,_⟩:=h
 rw[a,ja_,b]
def LLs.snoc      (h:LLs H0 H xs ws)(h0:H0 p=none)(hp:H p=none):LLs H0 (upd H p (.lst (w.map V.int))) (xs++[.ref p]) (ws++[w]):=by
 obtain⟨ts,a,b,c,d,e⟩:=h
 have hts:∀t∈ts,t≠p:=fun t ht z=>by
  obtain⟨i,hi,ei⟩:=jU_ ht
  have:=d i t ws[i] (by rw[jf_ hi,ei]) (by simp[show i<ws.length by lia])
  rw[z,hp]at this;cases this
 refine⟨ts++[p],by rw[a];simp,by simp[b],?_,fun i t v h1 h2=>?_,fun t ht=>?_⟩
 ·rw[zq_]
  refine⟨c,by simp,fun x hx y hy=>?_⟩
  simp at hy;subst hy;exact hts x hx
 ·by_cases hi:i<ts.length
  ·rw[ji_ hi]at h1
   rw[ji_ s!""]at h2
   rw[Aj (hts t (jc_ h1))]
   exact d i t v h1 h2
  ·have:=(jb_.mp h1).1
   rw[jn_,jW_]at this
   have ei:i=ts.length:=by lia
   subst ei
   rw[jp_ (jg_ _),qv_]at h1
   rw[b,jp_ (jg_ _),qv_]at h2
   simp at h1 h2
   subst h1 h2
   exact Ab
 ·rcases jA_.mp ht with ht|ht
  ·exact e t ht
  ·rw[jr_.mp ht];exact h0
def LLs.at    (h:LLs H0 H xs ws)   (hw:ws[i]?=some w):∃t,xs[i]?=some (.ref t)/\H t=some (.lst (w.map V.int))/\H0 t=none/\∀j x,LLs H0 (upd H t (.lst ((w.set j x).map V.int))) xs (ws.set i (w.set j x)):=by
 obtain⟨ts,a,b,c,d,e⟩:=h
 have hi:i<ts.length:=by rw[b];exact (jb_.mp hw).1
 have ht:ts[i]?=some ts[i]:=by simp[hi]
 refine⟨ts[i],by rw[a,jd_,ht];rfl,d i _ w ht hw,e _ (j2_ hi),fun j x=>⟨ts,a,by rw[qP_];exact b,c,fun k t v h1 h2=>?_,e⟩⟩
 by_cases hk:k=i
 ·subst hk
  rw[ht]at h1;cases h1
  rw[qN_ s!""]at h2;cases h2
  exact Ab
 ·have aw:t≠ts[i]:=fun z=>hk (by
   have dA:=(jb_.mp h1).1
   refine (xM_ (h₀:=dA) (h₁:=hi) c).mp ?_
   rw[<-z]
   exact (jb_.mp h1).2)
  rw[xf_ (qp_ hk)]at h2
  rw[Aj aw]
  exact d k t v h1 h2
def Same.none  (s:Same H H')  (h:H' p=none):H p=none:=by
 cases e:H p with
 |none=>rfl
 |some u=>rw[s _ _ e]at h;cases h
def R7 {K:α3}         (hl:SqL K H a xs)(ak:xs.length=ws.length)(e:cp.st σ=Option.none::ag)(hz:xs.length<sizeLine)
  (hs:∀(i:Nat) (x:V) (w:α2) H2,Same H H2->xs[i]?=some x->ws[i]?=some w->∀R:VK,(∀p H3,Same H2 H3->SqT K H3 p (w.map V.int)->R (.ref p) H3)->te (some x::ag) H2 R)
  (hd:∀H2 D ys,Same H H2->H2 D=Option.none->CA K (upd H2 D (.lst ys)) D ws->Q (.ref D) (upd H2 D (.lst ys))):La (Itl K a) cp (Gb 0) Og te σ H Q:=by
 refine IW (xs:=xs) (fun i ys aj H2=>Same H H2/\(∃ts:List Addr,ys=ts.map V.ref/\ts.length=i/\∀(j:Nat) (t:Addr) (w:α2),ts[j]?=some t->ws[j]?=some w->SqT K H2 t (w.map V.int))/\∃o,aj=o::ag) ⟨Same.refl _,⟨[],rfl,rfl,fun j t w h=>by simp at h⟩,Option.none,e⟩ hz (fun i ys aj H2 hi h=>?_) (fun i x ys aj H2 hx h=>?_) (fun ys aj H2 h=>?_)
 ·obtain⟨s,⟨ts,rfl,hm,_⟩,_⟩:=h
  exact⟨s.seq hl,by rw[ja_];lia⟩
 ·obtain⟨s,⟨ts,rfl,hm,ht⟩,o,rfl⟩:=h
  have hi:i<ws.length:=by rw[<-ak];exact (jb_.mp hx).1
  refine hs i x ws[i] H2 s hx (by simp[hi]) _ fun p H3 s3 hp=>⟨s.trans s3,⟨ts++[p],by simp,by simp[hm],fun j t w h1 h2=>?_⟩,some x,rfl⟩
  by_cases hj:j<ts.length
  ·rw[ji_ hj]at h1
   exact s3.seqT (ht j t w h1 h2)
  ·have:=(jb_.mp h1).1
   rw[jn_,jW_]at this
   have ej:j=i:=by lia
   subst ej
   rw[<-hm,jp_ (jg_ _),qv_]at h1
   simp at h1
   subst h1
   rw[jf_ hi]at h2
   cases h2
   exact hp
 ·obtain⟨s,⟨ts,rfl,hm,ht⟩,_⟩:=h
  exact fun D hD=>hd H2 D _ s hD ⟨ts,Ab,by lia,fun j t w h1 h2=>(Same.new hD).seqT (ht j t w h1 h2)⟩
end L2
namespace GW
def Wf.setM    (wf:Wf L aa ae)(r:Nat)  (h:0<=m/\m<=1000000000):Wf L (aa.set r m) ae:=by
 refine⟨wf.l1,wf.l6,by rw[qP_];exact wf.n1,by rw[qP_];exact wf.n40,by rw[qP_];exact wf.len,fun row hr=>?_,fun x hx=>?_⟩
 ·rw[qP_];exact wf.rows row hr
 ·rcases x2_ hx with hx|rfl
  ·exact wf.mks x hx
  ·exact h
def Wf.setW {L:Int}{aa:α2}{ae:α1}(wf:Wf L aa ae){i:Nat}{row:α2}(hr:ae[i]?=some row)(j:Nat){g:Int}(h:0<=g/\g<aa.length):Wf L aa (ae.set i (row.set j g)):=by
 refine⟨wf.l1,wf.l6,wf.n1,wf.n40,by rw[qP_];exact wf.len,fun x hx=>?_,wf.mks⟩
 rcases x2_ hx with hx|rfl
 ·exact wf.rows x hx
 ·have:=wf.rows row (jc_ hr)
  refine⟨by rw[qP_];exact this.1,fun y hy=>?_⟩
  rcases x2_ hy with hy|rfl
  ·exact this.2 y hy
  ·exact h
end GW
namespace L2
open PySem GW
def LLs.off      (h:LLs H0 H xs ws)(hp:H0 p=some u):LLs H0 (upd H p o) xs ws:=by
 obtain⟨ts,a,b,c,d,e⟩:=h
 refine⟨ts,a,b,c,fun i t w h1 h2=>?_,e⟩
 rw[Aj (fun z=>by have:=e t (jc_ h1);rw[z,hp]at this;cases this)]
 exact d i t w h1 h2
end L2
namespace L2
open PySem PySem.Spec PyProof.Rows
def Mp:∀(names:List (Str×NameKind)) (h:Heap) (ai:List (Str×Addr)) (x:Str) (c:Addr),(cellsFrom h.objs.size names ai).lookup x=some c->((pushCells h names).IsCell c none/\h.objs.size<=c)\/ai.lookup x=some c
 |[],_,_,_,_,e=>.inr e
 | (y,k)::r,h,ai,x,c,e=>by
  unfold cellsFrom at e
  unfold pushCells
  by_cases hk:(k == .cell)=true
  ·rw[if_pos hk]at e ⊢
   have e':(cellsFrom (h.push {cls:=.type "cell",data:=.cell none}).objs.size r ((y,h.objs.size)::ai)).lookup x=some c:=by rw[qw_];exact e
   rcases Mp r _ _ x c e' with ⟨a,b⟩|q
   ·rw[qw_]at b
    exact .inl ⟨a,xG_ b⟩
   ·rw[j4_]at q
    cases hx:x==y with
    |true=>
     rw[hx]at q
     have:h.objs.size=c:=jq_ q
     subst this
     exact .inl ⟨⟨_,pushCells_keeps _ _ _ _ (jF_ _ rfl),rfl⟩,jg_ _⟩
    |false=>rw[hx]at q;exact .inr q
  ·rw[if_neg hk]at e ⊢
   exact Mp r h ai x c e
def Hs:∀(names:List (Str×NameKind)) (n:Nat) (ai:List (Str×Addr)) (x:Str) (c:Addr),(cellsFrom n names ai).lookup x=some c->n<=c\/ai.lookup x=some c
 |[],_,_,_,_,e=>.inr e
 | (y,k)::r,n,ai,x,c,e=>by
  unfold cellsFrom at e
  by_cases hk:(k == .cell)=true
  ·rw[if_pos hk]at e
   rcases Hs r _ _ x c e with b|q
   ·exact .inl (xG_ b)
   ·rw[j4_]at q
    cases hx:x==y with
    |true=>rw[hx]at q;have:n=c:=jq_ q;exact .inl (Nat.le_of_eq this)
    |false=>rw[hx]at q;exact .inr q
  ·rw[if_neg hk]at e
   exact Hs r n ai x c e
def Qz:∀(names:List (Str×NameKind)) (n:Nat) (ai:List (Str×Addr)),(∀x y c,ai.lookup x=some c->ai.lookup y=some c->x=y)->(∀x c,ai.lookup x=some c->c<n)->∀x y c,(cellsFrom n names ai).lookup x=some c->(cellsFrom n names ai).lookup y=some c->x=y
 |[],_,_,hi,_,x,y,c,e1,e2=>hi x y c e1 e2
 | (z,k)::r,n,ai,hi,hb,x,y,c,e1,e2=>by
  unfold cellsFrom at e1 e2
  by_cases hk:(k == .cell)=true
  ·rw[if_pos hk]at e1 e2
   refine Qz r (n+1) ((z,n)::ai) (fun x y c h1 h2=>?_) (fun x c h=>?_) x y c e1 e2
   ·rw[j4_]at h1 h2
    cases hx:x==z with
    |true=>
     cases hy:y==z with
     |true=>rw[zW_.mp hx,zW_.mp hy]
     |false=>
      rw[hx]at h1;rw[hy]at h2
      have e:n=c:=jq_ h1
      exact absurd (hb y c h2) (by rw[<-e];exact j5_ _)
    |false=>
     cases hy:y==z with
     |true=>
      rw[hx]at h1;rw[hy]at h2
      have e:n=c:=jq_ h2
      exact absurd (hb x c h1) (by rw[<-e];exact j5_ _)
     |false=>rw[hx]at h1;rw[hy]at h2;exact hi x y c h1 h2
   ·rw[j4_]at h
    cases hx:x==z with
    |true=>rw[hx]at h;have e:n=c:=jq_ h;rw[<-e];exact zy_ _
    |false=>rw[hx]at h;exact xj_ (hb x c h)
  ·rw[if_neg hk]at e1 e2
   exact Qz r n ai hi hb x y c e1 e2
def Mq:∀(names:List (Str×NameKind)) (n:Nat) (ai:List (Str×Addr)) (x:Str),(∀p∈names,p.1=x->p.2 ≠ .cell)->(cellsFrom n names ai).lookup x=ai.lookup x
 |[],_,_,_,_=>rfl
 | (y,k)::r,n,ai,x,h=>by
  unfold cellsFrom
  by_cases hk:(k == .cell)=true
  ·rw[if_pos hk,Mq r _ _ x fun p hp=>h p (jk_ _ hp),j4_]
   cases hx:x==y with
   |true=>exact absurd (zW_.mp hk) (h (y,k) jl_ (zW_.mp hx).symm)
   |false=>rfl
  ·rw[if_neg hk]
   exact Mq r n ai x fun p hp=>h p (jk_ _ hp)
def Ll      {globals:Addr}
  (hQ:Q {scope:=sc,locals:=s.heap.objs.size,globals,cells:=cellsFrom (s.heap.objs.size+1) sc.names cl,qual,func:=none,code:=outer.code,frame:=outer.frame,builtins:=outer.builtins} {s with heap:=pushCells (s.heap.push {cls:=.type "dict",data:=.dict #[]}) sc.names}):
  wpAny M A (newFunctionEnv sc globals cl [] qual none .none (some outer)) Q E s:=by
 simp only[newFunctionEnv,zd_,xR_]
 refine je_ (wpAny_alloc (je_ (wpAny_layCells _ (fun name kind cells=>by cases ji:kind==NameKind.cell<;>simp[ji]) _ _ _ _ ?_)))
 rw[show ({s with heap:=s.heap.push {cls:=.type "dict",data:=.dict #[]} }:Shared).heap.objs.size=s.heap.objs.size+1 from qw_ ..]
 refine je_ ?_
 rw[List.forIn_nil]
 exact ju_ (ju_ hQ)
noncomputable abbrev ownC (X:Cx)(sc:Scope)(C:Addr):List (Str×Addr):=cellsFrom (C+1) sc.names (clOf X.env sc.names [])
noncomputable abbrev Cx.blkC (X:Cx)(N:List Str)(sc:Scope)(C:Addr)(s₀:Shared)(H₀:Hp)(ex:List Addr):Cx:=
 {X with N:=N,env:=compEnvC sc (ownC X sc C) C X.env,outer:=X.stack,s₀:=s₀,H₀:=H₀,ex:=ex,fn:=fun x=>sc.names.lookup x==some .cell,pn:=[],xe:=fun _ _=>False}
def Ie {env:Env}:∀(l:List (Str×NameKind)) (ai:List (Str×Addr)) (x:Str) (c:Addr),(x,c)∈clOf env l ai->(x,NameKind.free)∈l\/(x,c)∈ai
 |[],_,_,_,h=>.inr h
 | (n,k)::r,ai,x,c,h=>by
  unfold clOf at h
  by_cases hk:(k == .free)=true
  ·rw[if_pos hk]at h
   rcases Ie r _ x c h with q|q
   ·exact .inl (jk_ _ q)
   ·rcases jC_.mp q with q|q
    ·cases q
     rw[zW_.mp hk]
     exact .inl jl_
    ·exact .inr q
  ·rw[if_neg hk]at h
   rcases Ie r _ x c h with q|q
   ·exact .inl (jk_ _ q)
   ·exact .inr q
structure BlkScC (X:Cx)(sc:Scope):Prop where
 kind:sc.kind=.function
 one:∀y∈sc.names,∀z∈sc.names,y.1=z.1->y.2=z.2
 loc:∀y∈sc.names,y.2=.local->sc.names.lookup y.1=some .local
 free:∀y∈sc.names,y.2=.free->X.env.kindOf y.1=some .cell\/X.env.kindOf y.1=some .free
section
variable {X:Cx} {af:α7} {σ:St} {H:Hp} {s:Shared} {sc:Scope} {fp:List Addr}
def Jq (I:Inv X af σ H s)(S:BlkScC X sc):∀p∈sc.names,p.2=.free->∃c,X.env.cells.lookup p.1=some c:=fun p hp e=>I.ok.has p.1 (S.free p hp e)
def Dx (I:Inv X af σ H s)(S:BlkScC X sc)   (h:(clOf X.env sc.names []).lookup x=some c):X.env.cells.lookup x=some c:=
 Hn sc.names [] (Jq I S) (fun q hq=>by cases hq) (x,c) (qh_ h)
def Gi  (I:Inv X af σ H s)(S:BlkScC X sc)   (h:(ownC X sc C).lookup x=some c):C+1<=c\/X.env.cells.lookup x=some c:=by
 rcases Hs _ _ _ _ _ h with q|q
 ·exact .inl q
 ·exact .inr (Dx I S q)
def Dy {env:Env}:∀{names:List (Str×NameKind)} {x:Str} {k:NameKind},(names.map (relF env)).lookup x=some k->(k=.cell\/k=.free)->(x,NameKind.free)∈names\/names.lookup x=some .cell
 |[],_,_,h,_=>by simp at h
 | (n,k')::r,x,k,h,hk=>by
  have ih := @Dy env r x k
  rw[j0_]at h
  rw[j4_]
  by_cases hb:(k'==NameKind.free&&env.scope.kind == .function&&env.kindOf n==some .cell)=true
  ·rw[Ho hb,j4_]at h
   cases hx:x==n with
   |true=>
    have e:x=n:=by simpa using hx
    subst e
    have e2:k'=.free:=by
     simp only[qd_]at hb
     simpa using hb.1.1
    subst e2
    exact .inl jl_
   |false=>
    rw[hx]at h
    rcases ih h hk with q|q
    ·exact .inl (jk_ _ q)
    ·exact .inr q
  ·rw[J2 hb,j4_]at h
   cases hx:x==n with
   |true=>
    rw[hx]at h
    have e:x=n:=by simpa using hx
    subst e
    have e2:k'=k:=jq_ h
    subst e2
    rcases hk with rfl|rfl
    ·exact .inr rfl
    ·exact .inl jl_
   |false=>
    rw[hx]at h
    rcases ih h hk with q|q
    ·exact .inl (jk_ _ q)
    ·exact .inr q
def UL {N:List Str}{C:Addr}(I:Inv X af σ H s)(S:BlkScC X sc)(hC:s.heap.objs.size<=C)(hf:∀b∈fp,FpOk X af H b)(ho:∀b∈fp,∃o,s.heap.get? b=some o):(X.blkC N sc C s H fp).Ok where
 mod:=I.ok.mod
 kind:=S.kind
 glob:=I.ok.glob
 blt:=I.ok.blt
 above:=hC
 inj:=fun x y c h1 h2=>by
  refine Qz sc.names (C+1) (clOf X.env sc.names []) (fun x y c h1 h2=>I.ok.inj x y c (Dx I S h1) (Dx I S h2)) (fun x c h=>?_) x y c h1 h2
  obtain⟨v,q⟩:=I.cell x c (Dx I S h)
  exact xj_ (jy_ q.lt hC)
 has:=fun x hx=>by
  have eA:(x,NameKind.free)∈sc.names\/sc.names.lookup x=some .cell:=by
   rcases hx with hx|hx
   ·exact Dy (env:=X.env) hx (.inl rfl)
   ·exact Dy (env:=X.env) hx (.inr rfl)
  refine Option.isSome_iff_exists.mp (xN_ sc.names (C+1) (clOf X.env sc.names []) ?_)
  rcases eA with q|q
  ·obtain⟨c,hc⟩:=EL (env:=X.env) sc.names [] x (.inl q)
   obtain⟨c',e⟩:=Bd hc
   exact .inr (by rw[e];rfl)
  ·exact .inl q
 cab:=fun x c h e=>by
  have hx:sc.names.lookup x=some .cell:=by simpa using h
  rcases Hs _ _ _ _ _ e with q|q
  ·exact qk_ hC (xG_ q)
  ·rcases Ie _ _ _ _ (qh_ q) with z|z
   ·have:=S.one _ (qh_ hx) _ z rfl
    cases this
   ·cases z
 hd:=I.ok.hd
 frames:=I.ok.frames
 stk:=.inl rfl
 exf:=fun b hb=>by
  obtain⟨o,ho⟩:=ho b hb
  refine⟨jL_ (jy_ (js_ ho) hC),fun x c h=>?_⟩
  rcases Gi I S h with q|q
  ·intro z;rw[z]at q;exact absurd (jy_ (js_ ho) hC) (Nat.not_lt_of_le (xG_ q))
  ·exact (hf b hb).2.2.2.2.1 x c q
 bs:=I.bs
 bsz:=qk_ I.ok.bsz I.sz
 noex:=fun b o e hb=>by
  rcases (hf b hb).2.2.2.1 with z|z
  ·exact I.ok.noex b o e z
  ·exact absurd (jy_ (js_ (I.ok.bs b o e).1) z) (j5_ _)
 exfs:=fun b hb z=>by
  rcases jC_.mp (I.stkSub b z) with e|e
  ·exact (hf b hb).2.1 e
  ·exact (hf b hb).2.2.1 e
 funs:=I.stack
 frf:=I.stkFree
def Oq {c:Caps}{C:Addr}{s4:Shared}{m:Str->α5}(I:Inv X af σ H s)(S:BlkScC X sc)(hc:CJ X.N sc c)(hC:s.heap.objs.size<=C)(hf:∀b∈fp,FpOk X af H b)(ho:∀b∈fp,∃o,s.heap.get? b=some o)
  (dk:s4.os=s.os) (hb:s4.gens=s.gens) (hk:∀b o,s.heap.get? b=some o->s4.heap.get? b=some o) (hn:s4.heap.Ns C m)
  (bF:∀x c,(ownC X sc C).lookup x=some c->(s4.heap.IsCell c none/\C+1<=c)\/(clOf X.env sc.names []).lookup x=some c):Inv (X.blkC c.names sc C s H fp) [] (c.st σ) H s4 where
 ok:=UL I S hC hf ho
 os:=dk
 bare:=by rw[hb];exact I.bare
 base:=Un.kept hk
 loc:=by
  refine⟨m,hn,fun i x v h1 h2 hv=>?_⟩
  have fJ:(c.map (·.1))[i]?=some x:=h1
  have fK:(c.map fun p=>p.2.bind fun j=>(σ[j]?).join)[i]?=some (some v):=h2
  rw[jd_]at fJ fK
  cases e:c[i]? with
  |none=>rw[e]at fJ;cases fJ
  |some p=>
   obtain⟨y,oj⟩:=p
   rw[e]at fJ fK
   have e1:y=x:=jq_ fJ
   subst e1
   have e2:(oj.bind fun j=>(σ[j]?).join)=some v:=jq_ fK
   cases oj with
   |none=>cases e2
   |some j=>
    have e3:(σ[j]?).join=some v:=e2
    have e4:σ[j]?=some (some v):=by
     cases q:σ[j]? with
     |none=>rw[q]at e3;cases e3
     |some z=>rw[q]at e3;exact jH_ some e3
    obtain⟨k1,k2⟩:=CJ.get hc e
    have jj:=qh_ k2
    have k3:X.env.kindOf y=some .cell\/X.env.kindOf y=some .free:=S.free (y,.free) jj rfl
    have lJ:Vis X.env.scope y:=by
     rcases k3 with k|k
     ·exact .inr (.inl k)
     ·exact .inr (.inr k)
    obtain⟨mX,hnX,hl⟩:=I.loc
    obtain⟨u,r,l⟩:=hl j y v k1 e4 lJ
    refine⟨u,r,?_⟩
    rcases l with ⟨k,_⟩|⟨_,ca,oh,z⟩
    ·rcases k3 with k' | k'<;>(rw[k]at k';cases k')
    ·obtain⟨kd,lQ,ek⟩:=Ef (env:=X.env) k2
     have eB:(compEnvC sc (ownC X sc C) C X.env).kindOf y=some kd:=ek
     obtain⟨c',fh⟩:=EL (env:=X.env) sc.names [] y (.inl jj)
     obtain⟨c2,b9⟩:=Bd fh
     have e5:=Dx I S b9
     rw[oh]at e5
     have e6:ca=c2:=jq_ e5
     subst e6
     have e7:(ownC X sc C).lookup y=some ca:=by
      rw[Mq sc.names (C+1) _ y fun p hp ep z=>?_]
      ·exact b9
      ·have:=S.one p hp (y,.free) jj ep
       rw[z]at this;cases this
     refine .inr ⟨?_,ca,e7,?_⟩
     ·rcases lQ with rfl|rfl
      ·exact .inl eB
      ·exact .inr eB
     ·obtain⟨oc,du,hd⟩:=z
      exact⟨oc,hk _ _ du,hd⟩
 cell:=fun x ca h=>by
  rcases bF x ca h with ⟨q,_⟩|q
  ·exact⟨_,q⟩
  ·obtain⟨v,oc,du,hd⟩:=I.cell x ca (Dx I S q)
   exact⟨v,oc,hk _ _ du,hd⟩
 free:=I.hok.fresh hC
 freeC:=fun x ca h=>by
  rcases bF x ca h with ⟨_,q⟩|q
  ·exact I.hok.fresh (qk_ hC (xG_ q))
  ·exact I.freeC x ca (Dx I S q)
 pin:=fun p hp=>absurd (show p∈([]:α7) from hp) (by simp)
 hok:=I.hok.kept hk
 len:=by show (c.map _).length=(c.map _).length;rw[ja_,ja_]
def R8 {c:Caps}{C D:Addr}{s':Shared}{ag:St}{H':Hp}{o:HO}(I:Inv X af σ H s)(J:Inv (X.blkC c.names sc C s H fp) [] ag H' s')(hf:∀b∈fp,FpOk X af H b)(hD:s.heap.objs.size<=D)(hn:H' D=none)
  (new:Bk X.prog X.w (upd H' D o) s'.heap D o):Inv X af σ (upd H' D o) s':=by
 have u:Un (frs X.stack) fp H H' s.heap s'.heap:=J.base
 exact I.call' J.os (u.track hD hn) (J.hok.track hn new) J.bare fun b hb=>⟨(hf b hb).2.2.2.1,(hf b hb).2.1,(hf b hb).2.2.2.2.1,(hf b hb).2.2.2.2.2⟩
end
section
variable {X:Cx} {tg iter cn:Expr} {cb:List Expr} {sc:Scope} {pos:Pos} {wi:TI} {cp:Caps} {g:TG} {tc:TT} {te:TE}
def Ot (hc:X.calm=true)(S:BlkScC X sc)(gP:CJ X.N sc cp)
  (hg:∀C s₀ H₀ ex,PG (X.blkC cp.names sc C s₀ H₀ ex) tg g) (hf:∀C s₀ H₀ ex,PF (X.blkC cp.names sc C s₀ H₀ ex) cb tc) (he:∀C s₀ H₀ ex,PE (X.blkC cp.names sc C s₀ H₀ ex) cn te)
  {af:α7} {σ:St} {H:Hp} {s:Shared} {J:It} {it:Addr} {fp:List Addr} {tn:Nat->Heap->Prop} {Q:VK} {RR:Value->Addr->Result->Shared->Prop} {E:Value->Shared->Prop}
  (I:Inv X af σ H s) (T:Turn X.prog X.w X.K tg J fp it tn) (st:tn 0 s.heap) (eC:∀b∈fp,FpOk X af H b)
  (hw:∃W:Nat->Nat->List V->St->Hp->Prop,(∃m,W 0 m [] (cp.st σ) H)/\∀i m ys ag H',W i m ys ag H' ->
   ys.length<sizeLine/\((J.stop i H'/\∀D,H' D=none->Q (.ref D) (upd H' D (.lst ys)))\/(J.go i H'/\∃N:List V->St->Hp->Prop,(∀zs aj H2,N zs aj H2->∃m',m'<m/\W (i+1) m' zs aj H2)/\∀x H2,J.yld i H' x H2->g x ag H2 fun aj H3=>tc aj H3 fun b H4=>
    if b=true then te aj H4 fun v H5=>N (ys++[v]) aj H5 else N ys aj H4)))
  (hR:∀D C s' H' (m:Str->α5),Inv X af σ H' s'->Q (.ref D) H'->s'.heap.Ns C m->H' C=none->C≠X.env.locals->X.s₀.heap.objs.size<=C->(∀x c,X.env.cells.lookup x=some c->c≠C)->(∀p∈X.pn++af,p.1≠C)->RR (.ref D) C (.ok .next) s'):
  wpAny (model X.prog X.w) X.A (newList []) (fun ai bg=>wpAny (model X.prog X.w) X.A (newFunctionEnv sc X.env.globals (clOf X.env sc.names []) [] X.env.qual none .none (some X.env)) (fun fL ja=>
   codeAny (model X.prog X.w) X.A (.compStart (.ListComp cn [⟨tg,iter,cb,0⟩] sc pos) 0 (.ref it) ai {fL with scope:=relabel sc X.env}) (RR ai fL.locals) ja) E bg) E s:=by
 obtain⟨W,⟨m0,w0⟩,turn⟩:=hw
 refine qS_ (Ll ?_)
 dsimp only
 generalize jb:s.heap.push {cls:=.type "list",dict:=none,data:=.seq ([]:List Value).toArray}=H2
 obtain⟨h₁,dQ⟩:∃h₁,h₁=pushCells (H2.push {cls:=.type "dict",data:=.dict #[]}) sc.names:=⟨_,rfl⟩
 rw[<-dQ]
 have hcells:∀x c,(ownC X sc H2.objs.size).lookup x=some c->(h₁.IsCell c none/\H2.objs.size+1<=c)\/(clOf X.env sc.names []).lookup x=some c:=fun x c e=>by
  have:=Mp sc.names (H2.push {cls:=.type "dict",data:=.dict #[]}) (clOf X.env sc.names []) x c (by rw[qw_];exact e)
  rw[qw_]at this
  rw[dQ];exact this
 have bP:h₁.Ns H2.objs.size (fun _=>none):=by rw[dQ];exact (Heap.Ns.new H2 (.type "dict")).keeps (pushCells_keeps _ _)
 have keep₁:∀b o,H2.get? b=some o->h₁.get? b=some o:=fun b o e=>by rw[dQ];exact pushCells_keeps _ _ b o (jo_ _ e)
 have hC:H2.objs.size=s.heap.objs.size+1:=by rw[<-jb,qw_]
 have iL:s.heap.objs.size≠H2.objs.size:=by rw[hC];exact jL_ (zy_ _)
 have bA:s.heap.objs.size<=H2.objs.size:=by rw[hC];exact zZ_ _
 have below:∀b,b<s.heap.objs.size->b≠H2.objs.size:=fun b hb=>by rw[hC];exact jL_ (xj_ hb)
 have old:∀b o,s.heap.get? b=some o->h₁.get? b=some o:=fun b o e=>keep₁ b o (jb ▸ jo_ _ e)
 have bQ:h₁.get? s.heap.objs.size=some {cls:=.type "list",data:=.seq ([]:List Value).toArray 0}:=keep₁ _ _ (jb ▸ jF_ _ rfl)
 have bR:tn 0 h₁:=T.keep 0 _ _ st fun b _ o e=>old b o e
 have bz:∀b∈fp,∃o,s.heap.get? b=some o:=fun b hb=>let ⟨o,e,_⟩:=T.obj 0 _ st b hb;⟨o,e⟩
 have J0:Inv (X.blkC cp.names sc H2.objs.size s H fp) [] (cp.st σ) H {s with heap:=h₁}:=Oq I S gP bA eC bz rfl rfl old bP hcells
 have oi:∀b,s.heap.objs.size<=b->b∉frs X.stack:=fun b hb z=>by
  rcases jC_.mp (I.stkSub b z) with e|e
  ·exact absurd (jy_ I.lt (by rw[<-e];exact hb)) (j5_ _)
  ·exact I.nofs hb e
 have cZ:∀b,s.heap.objs.size<=b->∀x c,X.env.cells.lookup x=some c->c≠b:=fun b hb x c e z=>by
  obtain⟨v,q⟩:=I.cell x c e
  exact absurd (jy_ q.lt (by rw[z];exact hb)) (j5_ _)
 have lR:∀{aY:α7} {H':Hp},(∀b∈fp,H' b=none)->(∀p∈aY,p.1∉fp)->∀b∈fp,FpOk (X.blkC cp.names sc H2.objs.size s H fp) aY H' b:=fun {aY H'} hn hp b hb=>by
  obtain⟨o,e⟩:=bz b hb
  refine⟨hn b hb,below b (js_ e),fun z=>?_,.inl hb,fun x c h=>(by
   rcases Gi I S h with q|q
   ·intro z;rw[z]at q;exact absurd (js_ e) (Nat.not_lt_of_le (qk_ bA (xG_ q)))
   ·exact (eC b hb).2.2.2.2.1 x c q),fun p kL z=>?_⟩
  ·rcases jC_.mp (I.stkSub b z) with e|e
   ·exact (eC b hb).2.1 e
   ·exact (eC b hb).2.2.1 e
  ·have jc:p∈aY:=by simpa using kL
   exact hp p jc (by rw[z];exact hb)
 have loop:∀bg:Shared,bg={s with heap:=h₁} ->
   codeAny (model X.prog X.w) X.A (.compLoop (.ListComp cn [⟨tg,iter,cb,0⟩] sc pos) 0 (.ref it) (.ref s.heap.objs.size) (compEnvC sc (ownC X sc H2.objs.size) H2.objs.size X.env))
    (RR (.ref s.heap.objs.size) H2.objs.size) bg:=by
  rintro bg rfl
  refine GL (fun n s'=>∃i ag H' ys its k,Inv (X.blkC cp.names sc H2.objs.size s H fp) [] ag H' s'/\tn i s'.heap/\(∀b∈fp,H' b=none)/\H' s.heap.objs.size=none /\
   s'.heap.get? s.heap.objs.size=some {cls:=.type "list",data:=.seq its.toArray k}/\Vals ys its/\W i n ys ag H') ?_ m0
   ⟨0,_,H,[],[],0,J0,bR,fun b hb=>(eC b hb).1,I.hok.fresh (jg_ _),bQ,.nil,w0⟩
  rintro n s3 ⟨i,aA,H3,ys,its,k,I3,di,kI,om,e3,rv,w3⟩
  obtain⟨hz,tr⟩:=turn i n ys aA H3 w3
  have ak:=rv.length
  -- n0 accumulator stands still while anything else runs
  have fM:∀p ∈ [(s.heap.objs.size,({cls:=.type "list",data:=.seq its.toArray k}:Obj))],p.1∉fp:=fun p hp z=>by
   have e:p=_:=jr_.mp hp
   subst e
   obtain⟨o,e⟩:=bz _ z
   exact absurd (js_ e) (j5_ _)
  have lS:Inv (X.blkC cp.names sc H2.objs.size s H fp) [(s.heap.objs.size,({cls:=.type "list",data:=.seq its.toArray k}:Obj))] aA H3 s3:=I3.pins_of fun p hp=>by
   have e:p=_:=jr_.mp hp
   subst e
   exact⟨e3,om,iL,oi _ (jg_ _),fun v z=>by cases z⟩
  have cz:∀b∈fp,FpOk (X.blkC cp.names sc H2.objs.size s H fp) [(s.heap.objs.size,({cls:=.type "list",data:=.seq its.toArray k}:Obj))] H3 b:=lR kI fM
  rcases tr with ⟨stop,qn⟩|⟨go,N,hN,step⟩
  ·refine thn (T.done (X.blkC cp.names sc H2.objs.size s H fp) rfl rfl rfl hc i _ s3 aA H3 _ lS cz di stop) fun r s4 ⟨hr,I4⟩=>?_
   subst hr
   obtain⟨e4,n4,_⟩:=I4.pin (s.heap.objs.size,({cls:=.type "list",data:=.seq its.toArray k}:Obj)) (by simp)
   have new:Bk X.prog X.w (upd H3 s.heap.objs.size (.lst ys)) s4.heap s.heap.objs.size (.lst ys):=⟨q1_ hz,its,k,rv,e4⟩
   obtain⟨mC,oo,_⟩:=I4.loc
   have oq:Inv (X.blkC cp.names sc H2.objs.size s H fp) [] aA H3 s4:=I4.pins_of fun p hp=>by cases hp
   have I5:=R8 I oq eC (jg_ _) n4 new
   refine hR _ _ s4 _ mC I5 (qn _ n4) oo ?_ (qM_ (jy_ I.lt bA)) (qk_ I.sz bA) (cZ _ bA) fun p hp z=>?_
   ·rw[Aj (qp_ iL)];exact I4.free
   ·exact absurd (jy_ (js_ (I.pin p hp).1) (by rw[z];exact bA)) (j5_ _)
  ·refine thn (T.item (X.blkC cp.names sc H2.objs.size s H fp) rfl rfl rfl hc i _ s3 aA H3 _ lS cz di go) fun r s4 ⟨u,hr,h4⟩=>?_
   subst hr
   refine thn h4 fun _ s5 ⟨x,H5,I5,r5,y5,a8,lL⟩=>?_
   have lM:=I5.pinned (lR lL fM) (T.obj _ _ a8)
   have fin:∀{cP:St} {H7:Hp} {s7:Shared},Inv (X.blkC cp.names sc H2.objs.size s H fp) ([(s.heap.objs.size,({cls:=.type "list",data:=.seq its.toArray k}:Obj))]++Jj fp s5.heap) cP H7 s7 ->
     s7.heap.get? s.heap.objs.size=some {cls:=.type "list",data:=.seq its.toArray k}/\H7 s.heap.objs.size=none/\(∀b∈fp,H7 b=none)/\∀b∈fp,∀o,s5.heap.get? b=some o->s7.heap.get? b=some o:=fun {cP H7 s7} I7=>by
    obtain⟨e7,n7,_⟩:=I7.pin (s.heap.objs.size,({cls:=.type "list",data:=.seq its.toArray k}:Obj)) (by simp)
    refine⟨e7,n7,fun b hb=>?_,fun b hb o e=>?_⟩
    ·obtain⟨o,e,_⟩:=T.obj _ _ a8 b hb
     exact (I7.pin (b,o) (jx_ _ (jx_ _ (CG hb e)))).2.1
    ·exact (I7.pin (b,o) (jx_ _ (jx_ _ (CG hb e)))).1
   refine qO_ (hg _ _ _ _ _ s5 aA H5 x u _ lM r5 (step x H5 y5)) (fun _ s6 ⟨cW,H6,I6,q6⟩=>?_) fun _ _ z=>False.elim z
   refine qO_ (hf _ _ _ _ _ s6 cW H6 _ I6 q6) (fun ok s7 ⟨H7,I7,q7⟩=>?_) fun _ _ z=>False.elim z
   cases ok with
   |false=>
    rw[if_neg jt_]
    rw[if_neg jt_]at q7
    obtain⟨m',hm,w7⟩:=hN _ _ _ q7
    obtain⟨e7,n7,ot,k7⟩:=fin I7
    exact⟨m',hm,i+1,cW,H7,ys,its,k,I7.pins_of (fun p hp=>by cases hp),T.keep _ _ _ a8 k7,ot,n7,e7,rv,w7⟩
   |true=>
    rw[if_pos rfl]
    rw[if_pos rfl]at q7
    refine qO_ (he _ _ _ _ _ s7 cW H7 _ I7 q7) (fun v s8 ⟨y,H8,I8,r8,q8⟩=>?_) fun _ _ z=>False.elim z
    obtain⟨m',hm,w8⟩:=hN _ _ _ q8
    obtain⟨e8,n8,ou,k8⟩:=fin I8
    refine xD_ F.slot_list_append ⟨_,e8,rfl⟩ F.entry_list_append (zD_ _ _) (zV_ s.heap.objs.size its.toArray k v (by rw[jm_];lia)) ⟨e8,?_⟩
    obtain⟨k',q⟩:∃k',(s8.heap.update s.heap.objs.size (Obj.mapSeq fun x=>x.push v)).get? s.heap.objs.size=some {cls:=.type "list",data:=.seq (its++[v]).toArray k' }:=⟨_,by
     have q:=x3_ e8 fun x=>x.push v
     have e:(its++[v]).toArray=its.toArray.push v:=by simp
     rw[e]
     exact q⟩
    have I8':Inv (X.blkC cp.names sc H2.objs.size s H fp) [] cW H8 s8:=I8.pins_of fun p hp=>by cases hp
    have I9:Inv (X.blkC cp.names sc H2.objs.size s H fp) [] cW H8 {s8 with heap:=s8.heap.update s.heap.objs.size (Obj.mapSeq fun x=>x.push v),toks:=s8.toks}:=
     I8'.turned (it:=s.heap.objs.size) (fun b o hb e=>(j9_ _ _ (qp_ hb)).trans e) n8 iL (.inr (jg_ _)) (fun x c e=>by
      rcases Gi I S e with q|q
      ·intro z;rw[z]at q;exact absurd (qk_ q bA) (Nat.not_succ_le_self _)
      ·exact cZ _ (jg_ _) x c q) (fun p hp=>by cases hp)
    refine⟨m',hm,i+1,cW,H8,ys++[y],its++[v],k',I9,T.keep (i+1) s5.heap _ a8 (fun b hb o e=>?_),ou,n8,q,rv.append (.cons r8 .nil),w8⟩
    ·refine (j9_ _ _ ?_).trans (k8 b hb o e)
     intro z
     obtain⟨ob,eb⟩:=bz b hb
     exact absurd (js_ eb) (by rw[<-z];exact j5_ _)
 exact codeAny_compStart_list (loop _ rfl) (T.self _ 0 _ _ _ bR (loop _ rfl))
def R9    (hN:X.N.Nodup)(hi:X.N[i]?=some x)(hx:X.env.scope.names.lookup x=some .local)(hc:X.calm=true)(S:BlkScC X sc)(gP:CJ X.N sc cp)(a9:PI X tg iter wi)
  (hg:∀C s₀ H₀ ex,PG (X.blkC cp.names sc C s₀ H₀ ex) tg g) (hf:∀C s₀ H₀ ex,PF (X.blkC cp.names sc C s₀ H₀ ex) cb tc) (he:∀C s₀ H₀ ex,PE (X.blkC cp.names sc C s₀ H₀ ex) cn te)
  (oy:swapsWith (.ListComp cn [⟨tg,iter,cb,0⟩] sc pos) (some (.Name x px)) jd.line X.env=pure true:=by rfl)
  (hs:∀x,foldedSetIterable iter X.env x=pure x:=by intro _;rfl):PS X (.Assign [.Name x px] (.ListComp cn [⟨tg,iter,cb,0⟩] sc pos) jd) (tAsg (RU wi cp g tc te) (Gb i)):=by
 intro af s σ H D I h
 rw[exec_Assign_Name_used _ _ _ _ oy]
 refine je_ (wpAny_standAt (je_ ?_))
 show wpAny _ X.A (do let _ <- comprehension (.ListComp cn [⟨tg,iter,cb,0⟩] sc pos) sc X.env _ (newList []) false (eval iter X.env) (some (assign (.Name x px) X.env))) _ _ s
 refine je_ (qO_ (za_ (use:=some (assign (.Name x px) X.env)) (Q:=fun _ s'=>SP X af D .next s') rfl hs (Gd (Jq I S)) S.kind S.loc
  (thn (a9 af s σ H _ I h) fun xv s₁ h₁=>thn h₁ fun lK bj cA=>?_)) (fun _ s' hq=>ju_ (ju_ hq)) fun _ _ e=>e)
 obtain⟨it,fp,tn,J,H2,e,I2,T,aN,f2,hw⟩:=cA
 subst e
 refine Ot (RR:=fun ai C=>compPost (model X.prog X.w) X.A X.xe (some (assign (.Name x px) X.env)) (fun _ s'=>SP X af D .next s') ai C) (Q:=fun v H1=>Gb i v σ H1 D.nx) hc S gP hg hf he I2 T aN f2 hw ?_
 intro Dl C s' H' m I' q hn hC hL hz bF hp
 show wpAny _ X.A (assign (.Name x px) X.env (.ref Dl)) _ _ _
 refine wpAny_assign_Name (HJ I' hN hi (.inl hx) (v:=.ref Dl) rfl (fun gK oz ⟨a,mZ,ha⟩=>?_) (.inr hx))
 have aw:C≠a:=by
  rcases ha with rfl|ha
  ·exact hL
  ·exact fun z=>bF _ _ ha z.symm
 refine⟨m,hn.sameBut mZ aw,fun h' fN=>⟨_,H',oz.turned (t':=gK.toks) (it:=C) (fun b o hb e=>fN.extBut b o hb e) hC hL (.inr hz) bF hp,q⟩⟩
end
noncomputable def Tt (outer:List (Str×NameKind))(sc:Scope):Bool:=
 sc.kind == .function&&sc.names.all (fun y=>(y.2 != .local||sc.names.lookup y.1==some .local)&&(y.2 != .free||outer.lookup y.1==some .cell||outer.lookup y.1==some .free)&&sc.names.all fun z=>y.1 != z.1||y.2==z.2)
def UM   (h:Tt X.env.scope.names sc=true):BlkScC X sc:=by
 unfold Tt at h
 rw[qd_,qJ_]at h
 obtain⟨h1,h2⟩:=h
 refine⟨by simpa using h1,fun y hy z hz e=>?_,fun y hy z=>?_,fun y hy z=>?_⟩
 ·have:=h2 y hy
  simp only[qd_,qJ_]at this
  have:=this.2 z hz
  rw[e]at this
  simpa using this
 ·have:=h2 y hy
  simp only[qd_]at this
  have:=this.1.1
  rw[z]at this
  simpa using this
 ·have:=h2 y hy
  simp only[qd_]at this
  have:=this.1.2
  rw[z]at this
  have t:(X.env.scope.names.lookup y.1==some .cell||X.env.scope.names.lookup y.1==some .free)=true:=by simpa using this
  rw[Bool.or_eq_true]at t
  rcases t with t|t
  ·exact .inl (by show X.env.scope.names.lookup y.1=some .cell;simpa using t)
  ·exact .inr (by show X.env.scope.names.lookup y.1=some .free;simpa using t)
end L2
namespace L2
open PySem PySem.Spec PyProof.Rows GW
noncomputable def AB (K:α3)(H:Hp)(xs:List V)(ws:α1):Prop:=xs.length=ws.length/\∀(i:Nat) (w:α2),ws[i]?=some w->∃t,xs[i]?=some (.ref t)/\H t=some (.tup (w.map V.int))
def AB.nil {K:α3}  : AB K H [] []:=⟨rfl,fun i w h=>by simp at h⟩
def AB.mono {K:α3}    (h:AB K H xs ws)(k:TK H H'):AB K H' xs ws:=by
 refine⟨h.1,fun i w hw=>?_⟩
 obtain⟨t,a,b⟩:=h.2 i w hw
 exact⟨t,a,k _ _ b⟩
def AB.snoc {K:α3}    (h:AB K H xs ws)   (ht:H t=some (.tup (w.map V.int))):AB K H (xs++[.ref t]) (ws++[w]):=by
 refine⟨by rw[jn_,jn_,h.1];rfl,fun i v hi=>?_⟩
 by_cases dR:i<ws.length
 ·rw[ji_ dR]at hi
  rw[ji_ (by rw[h.1];exact dR)]
  exact h.2 i v hi
 ·have:=(jb_.mp hi).1
  rw[jn_,jW_]at this
  have ei:i=ws.length:=by lia
  subst ei
  rw[jp_ (jg_ _),qv_]at hi
  simp at hi
  subst hi
  refine⟨t,?_,ht⟩
  rw[jp_ (by rw[h.1];exact jg_ _),h.1,qv_];rfl
def AB.at {K:α3}{H:Hp}{xs:List V}{ws:α1}(h:AB K H xs ws){i:Nat}{x:V}(hx:xs[i]?=some x):∃t w,ws[i]?=some w/\x=.ref t/\H t=some (.tup (w.map V.int)):=by
 have hi:i<ws.length:=by rw[<-h.1];exact (jb_.mp hx).1
 obtain⟨t,a,b⟩:=h.2 i ws[i] (by simp[hi])
 rw[hx]at a
 exact⟨t,ws[i],by simp[hi],jq_ a,b⟩
def E9.ofS {K:α3}     (ha:H a=some (.tup xs))(hb:H b=some (.tup ys))(hz:xs.length+ys.length<=sizeLine)(h:∀p H',Same H H'->H' p=some (.tup (xs++ys))->Q (.ref p) H'):E9 K (.ref a) (.ref b) H Q:=by
 refine⟨a,b,xs,ys,rfl,rfl,SqT.of ha,SqT.of hb,hz,fun e=>?_,fun _ e=>?_,fun _ _ p hp=>h p _ (Same.new hp) Ab⟩
 ·subst e;exact h b H (Same.refl _) (by simpa using hb)
 ·subst e;exact h a H (Same.refl _) (by simpa using ha)
def Inv.unL        (I:Inv X af σ H s)(k:∀b o,b∉fp->s.heap.get? b=some o->h'.get? b=some o)(f:∀b∈fp,FpOk X af H b):Un (frs X.stack) fp H H s.heap h'/\HOk X.prog X.w H h':=by
 have ne:∀b u,H b=some u->b∉fp:=fun b u q hb=>by rw[(f b hb).1]at q;cases q
 refine⟨⟨fun b o q _ _ hb=>k b o hb q,fun b o q _ _ hb=>⟨o.slots,k b o hb q⟩,fun _ _ _ n _=>n,fun b o q hb=>⟨o,k b o hb q⟩,fun _ _ q=>q,fun _ _ _ q=>q,fun b ps q=>⟨#[],by rw[q];simp⟩⟩,fun b u q=>?_⟩
 refine (I.hok b u q).stay (fun c v hc qv=>?_) (fun _ q=>q) fun _ _ q=>q
 have aw:c∉fp:=by
  rcases hc with rfl|hc
  ·exact ne _ _ q
  ·exact ne _ _ hc
 exact k c v aw qv
end L2
namespace GW
noncomputable def ins (s:α1)(w:α2):α1:=if w∈s then s else s++[w]
def UN (s:α1)(w:α2):(ins s w).length<=s.length+1:=by
 unfold ins;split
 ·lia
 ·simp
def CI:∀(l s:α1),(l.foldl ins s).length<=s.length+l.length
 |[],s=>by simp
 |w::l,s=>by
  have h1:=CI l (ins s w)
  have h2:=UN s w
  rw[qX_,jS_];lia
end GW
namespace L2
open PySem PySem.Spec PyProof.Rows GW
noncomputable def wkey (w:α2):List Key:=w.map Sum.inl
def Kf (w:α2):(wkey w).map kV=w.map V.int:=by unfold wkey;rw[jR_];rfl
def FF  (h:wkey v=wkey w):v=w:=(zR_ (fun x y z=>Sum.inl.inj z)).mp h
noncomputable def E2 (ws:α1)(kvs:List (List Key×V)):Prop:=kvs.map (·.1)=ws.map wkey
def E2.len   (h:E2 ws kvs):kvs.length=ws.length:=by
 have:=jH_ List.length h
 simpa using this
def E2.some_iff   (h:E2 ws kvs)(w:α2):(valV kvs (wkey w)).isSome=decide (w∈ws):=by
 rw[<-Ds,qB_,qs_,x5_]
 constructor
 ·rintro⟨kv,jh,e⟩
  have e:=ql_ e
  have:wkey w∈ws.map wkey:=by rw[<-h,<-e];exact jv_.mpr ⟨kv,jh,rfl⟩
  obtain⟨q,hq,e2⟩:=jv_.mp this
  exact FF e2 ▸ hq
 ·intro hw
  have:wkey w∈kvs.map (·.1):=by rw[h];exact jv_.mpr ⟨w,hw,rfl⟩
  obtain⟨kv,jh,e⟩:=jv_.mp this
  exact⟨kv,jh,j8_ e⟩
def E2.put   (h:E2 ws kvs)(w:α2)(v:V):E2 (ins ws w) (putK kvs (wkey w) v):=by
 have hs:=h.some_iff w
 unfold putK ins
 rw[Ds,hs]
 by_cases hw:w∈ws
 ·rw[if_pos hw,if_pos (show decide (w∈ws)=true from j8_ hw)]
  unfold E2
  rw[<-h,jR_]
  refine qj_ fun kv _=>?_
  show (if kv.1=wkey w then (kv.1,v) else kv).1=kv.1
  split<;>rfl
 ·rw[if_neg hw,if_neg (show ¬ decide (w∈ws)=true by simp[hw])]
  unfold E2
  rw[jV_,jV_,h];rfl
def E2.nil:E2 [] []:=rfl
def E2.words {K:α3}     (h:E2 ws kvs)(hl:rs.length=kvs.length)(hr:∀(i:Nat) (k:List Key) (v:V),kvs[i]?=some (k,v)->∃b,rs[i]?=some (V.ref b)/\H b=some (.tup (k.map kV))):AB K H rs ws:=by
 refine⟨by rw[hl,h.len],fun i w hw=>?_⟩
 have hi:i<kvs.length:=by rw[h.len];exact (jb_.mp hw).1
 have e:(kvs.map (·.1))[i]?=some (wkey w):=by rw[h,jd_,hw];rfl
 rw[jd_,jf_ hi]at e
 have e:kvs[i].1=wkey w:=jq_ e
 obtain⟨b,b1,b2⟩:=hr i kvs[i].1 kvs[i].2 (by simp[hi])
 exact⟨b,b1,by rw[b2,e,Kf]⟩
end L2
namespace PySem.W
open PySem PySem.Calls PyProof.Rows PyProof.V PySem.Spec
end PySem.W
namespace L2
open PySem PySem.Spec PyProof.Rows
def NB {P:Program}{w:World}{fs:List Addr}{H0:Hp}{h0 h':Heap}:∀(as:List (Addr×List V)),(as.map (·.1)).Nodup ->
  (∀p∈as,h0.objs.size<=p.1/\p.2.length<=sizeLine/\∃its:List Value,Vals p.2 its/\IsTup h' p.1 its.toArray)->∀H,Un fs [] H0 H h0 h'->HOk P w H h'->(∀p∈as,H p.1=none) ->
  ∃H2,Un fs [] H0 H2 h0 h'/\HOk P w H2 h'/\Same H H2/\(∀p∈as,H2 p.1=some (.tup p.2))/\∀b,b∉as.map (·.1)->H2 b=H b
 |[],_,_,H,u,k,_=>⟨H,u,k,Same.refl _,(fun p hp=>by simp at hp),fun b _=>rfl⟩
 |p::r,nd,hp,H,u,k,hn=>by
  rw[j0_,qC_]at nd
  obtain⟨h1,h2,its,h3,h4⟩:=hp p jl_
  have oD:=hn p jl_
  have k2:HOk P w (upd H p.1 (.tup p.2)) h':=k.track oD ⟨h2,its,h3,h4⟩
  obtain⟨H2,e1,e2,e3,e4,e5⟩:=NB r nd.2 (fun q hq=>hp q (jk_ _ hq)) (upd H p.1 (.tup p.2)) (u.track h1 oD) k2 (fun q hq=>by
   have aw:q.1≠p.1:=fun z=>nd.1 (by rw[<-z];exact q6_ hq)
   rw[Aj aw]
   exact hn q (jk_ _ hq))
  refine⟨H2,e1,e2,(Same.new oD).trans e3,fun q hq=>?_,fun b hb=>?_⟩
  ·rcases jC_.mp hq with rfl|hq
   ·exact e3 _ _ Ab
   ·exact e4 q hq
  ·rw[j0_,jC_,not_or]at hb
   rw[e5 b hb.2,Aj hb.1]
def Vals.two'   (h1:RelV x u)(h2:RelV y v):Vals [x,y] [u,v]:=.cons h1 (.cons h2 .nil)
def Wm:∀as:List Addr,Vals (as.map V.ref) (as.map Value.ref)
 |[]=>.nil
 |_::r=>.cons rfl (Wm r)
noncomputable def Ct (K:α3)(H:Hp)(xs:List V)(aB:List (α2×Int)):Prop:=xs.length=aB.length/\∀(i:Nat) (tr:α2×Int),aB[i]?=some tr->∃t wt,xs[i]?=some (.ref t)/\SqT K H t [.ref wt,.int tr.2]/\SqT K H wt (tr.1.map V.int)/\tr.1.length<=600
def Ct.mono {K:α3}    (h:Ct K H xs aB)(s:Same H H'):Ct K H' xs aB:=by
 refine⟨h.1,fun i tr a6=>?_⟩
 obtain⟨t,wt,a,b,c,d⟩:=h.2 i tr a6
 exact⟨t,wt,a,s.seqT b,s.seqT c,d⟩
noncomputable def ents (es:List (α2×Int)):List (List Key×V):=es.map fun e=>(wkey e.1,V.int e.2)
noncomputable def QA:V->List V->Hp->VK->Prop:=fun x vs H Q=>∃l xs y j,x=.ref l/\vs=[y]/\H l=some (.lst xs)/\Cy y=true/\xs.all Cy=true/\j<1000000/\(∃z,xs[j]?=some z/\eqV z y=true)/\(∀m z,m<j->xs[m]?=some z->eqV z y=false)/\Q (.int (j:Nat)) H
theorem NC     : QA x vs H Q=∃l xs y j,x=.ref l/\vs=[y]/\H l=some (.lst xs)/\Cy y=true/\xs.all Cy=true/\j<1000000/\(∃z,xs[j]?=some z/\eqV z y=true)/\(∀m z,m<j->xs[m]?=some z->eqV z y=false)/\Q (.int (j:Nat)) H:=rfl
def UO   (r:RelV z u)(f:Cy z=true):eqU x u=eqV z x:=by
 have:=JY (x:=x) (xs:=[z]) (us:=[u]) (.cons r .nil) (by simp[f])
 simpa using this
def QB  : MtM X "list.index" QA:=by
 intro af s σ H x vs v us Q I rx rv h
 obtain⟨l,xs,y,j,rfl,rfl,hH,fy,fs,hj,⟨z,oE,oF⟩,dm,q⟩:=h
 cases rx
 obtain⟨u,rfl,ry⟩:=vals1 rv
 obtain⟨zz,its,n,r,hl,e⟩:=I.lstM hH
 have get:∀(m:Nat) (hm:m<its.toArray.size) (w:V),xs[m]?=some w->Cy w=true->eqU y its.toArray[m]=eqV w y:=fun m hm w hw fw=>by
  obtain⟨w',e1,e2⟩:=r.get hw
  have e3:its.toArray[m]=w':=by
   have:its[m]?=some its.toArray[m]:=by simp at hm;simp[hm]
   rw[e1]at this
   exact (jq_ this).symm
  rw[e3]
  exact UO e2 fw
 have fl:∀(m:Nat) (w:V),xs[m]?=some w->Cy w=true:=fun m w hw=>qJ_.mp fs w (jc_ hw)
 have kN:=(jb_.mp oE).1
 have l4:j<its.toArray.size:=by rw[jm_];lia
 refine xD_ F.slot_list_index ⟨_,e,rfl⟩ F.entry_list_index (F.args_list_index_2 _ _) (SeqAt.list_indexAt l its.toArray n none #[] u (eqU y) j l4 s!"" ?_ fun m hm hmj=>?_) ⟨e,fun w hw=>Hk ry fy r fs w (by simpa using hw),?_⟩
 ·rw[get j l4 z oE (fl j z oE)];exact oF
 ·have l5:xs[m]?=some xs[m]:=by simp[show m<xs.length by lia]
  rw[get m hm _ l5 (fl m _ l5)]
  exact dm m _ hmj l5
 ·exact⟨.int (j:Nat),H,I.tok _,⟨_,rfl⟩,q⟩
end L2
namespace L2
open PySem PySem.W PySem.Spec PySem.Calls PyProof.Rows
def Qd.ofS {K:α3}      (hq:H l=some (.tup xs))(aw:xs ≠ [])(h1 : -(2 ^ 63)<=k)(h2:k<2 ^ 63)(hz:xs.length*k.toNat<=sizeLine)(h:∀p H',Same H H'->H' p=some (.tup (List.replicate k.toNat xs).flatten)->Q (.ref p) H'):Qd K (.ref l) (.int k) H Q:=by
 refine⟨l,k,xs,rfl,rfl,SqT.of hq,aw,h1,h2,hz,fun e=>?_,fun _ p hp=>h p _ (Same.new hp) Ab⟩
 subst e
 exact h l H (Same.refl _) (by simpa using hq)
end L2
namespace PrimeO
noncomputable def Xb (p:Nat):Prop:=∀d,2<=d->d<p->p%d≠0
noncomputable def Pr (p:Int):Prop:=2<=p/\p<1000000000000000000/\Xb p.toNat
end PrimeO
namespace L2
open PySem PySem.Spec PyProof.Rows
theorem QC     : VC A σ H Z=A σ H fun vs H1=>∃i j:Int,vs=[.int i,.int j]/\(-(2 ^ 62)<=i/\i<2 ^ 62 /\ -(2 ^ 62)<=j/\j<2 ^ 62)/\Z (Itr i (j-i).toNat) H1:=rfl
end L2
namespace PySem
open Sem (wp)
open PySem.F
noncomputable def BO (t:Bool)(h:Heap)(l:Addr)(xs:Array Value):Prop:=match t with|false=>h.IsList l xs|true=>h.IsTuple l xs
noncomputable def Bx (t:Bool)(h:Heap)(i l:Addr)(k:Nat):Prop:=match t with|false=>h.IsListIter i l k|true=>h.IsTupleIter i l k
def BO.extBut   {a b items}(x:BO t h a items)(hs:Heap.ExtBut b h h')(cu:a≠b):BO t h' a items:=by
 cases t
 ·exact Heap.IsList.extBut x hs cu
 ·exact Heap.IsTuple.extBut x hs cu
def BO.push   {a items}(x:BO t h a items)(o:Obj):BO t (h.push o) a items:=by
 cases t
 ·exact Heap.IsList.push x o
 ·exact Heap.IsTuple.push x o
def BO.lt   {a items}(x:BO t h a items):a<h.objs.size:=by
 cases t
 ·obtain⟨_,e,_⟩:=x;exact js_ e
 ·obtain⟨_,e,_⟩:=x;exact js_ e
def Bx.extBut   {a b l i}(x:Bx t h a l i)(hs:Heap.ExtBut b h h')(cu:a≠b):Bx t h' a l i:=by
 cases t
 ·exact Heap.IsListIter.extBut x hs cu
 ·exact Heap.IsTupleIter.extBut x hs cu
def Bx.at   {a l i}(x:Bx t h a l i)(e:∀o,h.get? a=some o->h'.get? a=some o):Bx t h' a l i:=by
 cases t
 ·exact Heap.IsListIter.at x e
 ·exact Heap.IsTupleIter.at x e
def Bx.ob   {a l i}(x:Bx t h a l i):∃o,h.get? a=some o/\o.data=.fields #[.ref l,.int i 0]:=by
 cases t
 ·obtain⟨o,e,_,d⟩:=x;exact⟨o,e,d⟩
 ·obtain⟨o,e,_,d⟩:=x;exact⟨o,e,d⟩
def Bx.lt   {a l i}(x:Bx t h a l i):a<h.objs.size:=by
 obtain⟨_,e,_⟩:=x.ob;exact js_ e
section
variable {prog:Program} {w:World} {A:Around} {E:Value->Shared->Prop} {s:Shared}
def Gj  {it l:Addr}    (a9:Bx t s.heap it l i)(hl:BO t s.heap l items)
  (hQ:∀x h',items[i]?=some x->Bx t h' it l (i+1)->Heap.SameBut it s.heap h'->Q x {s with heap:=h' })
  (hE:items[i]?=none->A.handled=none/\∀h' e,Heap.ExtBut it s.heap h'->(∃o,h'.get? e=some o/\o.cls=.type "StopIteration")->E (.ref e) {s with heap:=h' }):wpAny (model prog w) A (Builtin.SmallTypes.nextOf (.ref it)) Q E s:=by
 cases t
 ·cases hx:items[i]? with
  |some x=>exact wpAny_nextOf_list_item a9 hl hx fun h'=>hQ x h' hx
  |none=>exact wpAny_nextOf_list_end (hE hx).1 a9 hl hx (hE hx).2
 ·exact Gf a9 hl hQ hE
noncomputable def UP (t:Bool):Value:=match t with|false=>.type "list_iterator" |true=>.type "tuple_iterator"
def Bx.mk    (g:h.get? a=some {cls:=UP t,data:=.fields #[.ref l,.int 0 0]}):Bx t h a l 0:=by
 cases t
 ·exact⟨_,g,rfl,rfl⟩
 ·exact⟨_,g,rfl,rfl⟩
def G3   {items}  (hl:BO t s.heap l items)
  (hQ:Q (.ref s.heap.objs.size) {s with heap:=s.heap.push {cls:=UP t,data:=.fields #[.ref l,.int 0 0]} }):wpAny (model prog w) A (pyIter (.ref l)) Q E s:=by
 cases t
 ·exact zn_ hl hQ
 ·exact xO_ hl hQ
end
section
variable {prog:Program} {w:World} {A:Around} {E:Value->Shared->Prop} {s:Shared}
def QD   {items}  (hl:BO t s.heap l items)(h:∀h',s.heap.push {cls:=UP t,data:=.fields #[.ref l,.int 0 0]}=h'->Q (.ref s.heap.objs.size) {s with heap:=h' }):wpAny (model prog w) A (pyIter (.ref l)) Q E s:=G3 hl (h _ rfl)
def zipN  {z TI TO i1 i2 l1 l2:Addr}     (D:ZipApart z TI TO i1 i2 l1 l2)(hz:IsZip s.heap z TI TO .none)(fj:IsPair s.heap TI (.ref i1) (.ref i2))(fQ:IsPair s.heap TO a b)
  (h1:Bx t1 s.heap i1 l1 k1) (h2:Bx t2 s.heap i2 l2 k2) (bw:BO t1 s.heap l1 xs) (bM:BO t2 s.heap l2 ys)
  (hQ:∀x y h',xs[k1]?=some x->ys[k2]?=some y->IsZip h' z TI TO (rawInt s.heap.objs.size)->IsPair h' TO x y->Bx t1 h' i1 l1 (k1+1)->Bx t2 h' i2 l2 (k2+1)->IsPair h' s.heap.objs.size x y->h'.objs.size=s.heap.objs.size+1->(∀c o,c≠z->c≠TO->c≠i1->c≠i2->s.heap.get? c=some o->h'.get? c=some o)->Q (some (.ref s.heap.objs.size)) {s with heap:=h' })
  (hN:xs[k1]?=none\/ys[k2]?=none->A.handled=none/\∀h',(∀c o,c≠z->c≠TO->c≠i1->c≠i2->s.heap.get? c=some o->h'.get? c=some o)->Q none {s with heap:=h' }):wpAny (model prog w) A (pyNext (.ref z)) Q E s:=by
 have hT:s.TypeIs (.ref z) "zip" := ⟨_,hz,rfl⟩
 have e1:=F.slot_zip_next
 unfold pyNext
 refine je_ (xK_ (qK_ hT e1 (xo_ e1 hT F.entry_zip_next ?_ (F.args_zip_next_1 _))))
 wp_walk using xP_ hz
 ·exact xt_ rfl
 intro u0 g0 k0
 replace g0:IsZip u0 z TI TO .ellipsis:=g0
 have m1:Bx t1 u0 i1 l1 k1:=h1.extBut k0.extBut D.i1z
 have m2:BO t1 u0 l1 xs:=bw.extBut k0.extBut D.l1z
 simp only[List.zipIdx_cons,List.zipIdx_nil,List.forIn_cons,List.forIn_nil]
 have stop:∀h' (e:Addr),(∀c o,c≠z->c≠TO->c≠i1->c≠i2->s.heap.get? c=some o->h'.get? c=some o)->IsZip h' z TI TO .ellipsis->(∃o,h'.get? e=some o/\o.cls=.type "StopIteration")->xs[k1]?=none\/ys[k2]?=none ->
   wpAny (model prog w) A.in1 (setField (.ref z) 0 .none) (fun _ gK=>wpAny (model prog w) A (do if <- isInstance (.ref e) (.type "StopIteration") then pure none else throw (.ref e)) Q E gK) (fun e s'=>wpAny (model prog w) A (do if <- isInstance e (.type "StopIteration") then pure none else throw e) Q E s') {s with heap:=h' }:=fun h' e kk hz' he hx=>by
  obtain⟨o,e2,e3⟩:=he
  have n:e≠z:=fun x=>by subst x;rw[hz']at e2;cases e2;simp at e3
  refine xP_ hz' (xt_ rfl) fun h2 _ k2=>je_ (wpAny_isInstance (T := "StopIteration") (b:=true) ⟨o,k2.extBut e o n e2,e3⟩ isSubtype_stop (ju_ ((hN hx).2 h2 fun c o n1 n2 n3 n4 q=>k2.extBut c o n1 (kk c o n1 n2 n3 n4 q))))
 wp_walk using wpAny_onRaise,Gj (A:=A.in1) (s:={s with heap:=u0}) m1 m2
 ·intro x u1 hx m3 k3
  have y0:IsPair u1 TO a b:=k3.extBut TO _ D.TOi1 (k0.extBut TO _ D.TOz fQ)
  wp_walk using wpAny_updateSeq_pair y0
  intro u2 y2 k4
  replace y2:IsPair u2 TO x b:=y2
  have kk:∀c o,c≠z->c≠TO->c≠i1->s.heap.get? c=some o->u2.get? c=some o:=fun c o n1 n2 n3 q=>k4.extBut c o n2 (k3.extBut c o n3 (k0.extBut c o n1 q))
  have g2:IsZip u2 z TI TO .ellipsis:=k4.extBut _ _ D.TOz.symm (k3.extBut _ _ D.i1z.symm g0)
  have m4:Bx t2 u2 i2 l2 k2:=h2.at fun o q=>kk _ o D.i2z D.TOi2.symm D.i12.symm q
  have m5:BO t2 u2 l2 ys:=((bM.extBut k0.extBut D.l2z).extBut k3.extBut D.l2i1).extBut k4.extBut D.l2TO
  wp_walk using wpAny_onRaise,Gj (A:=A.in1) (s:={s with heap:=u2}) m4 m5
  ·intro y u3 hy m6 k5
   have y3:IsPair u3 TO x b:=k5.extBut TO _ D.TOi2 y2
   wp_walk using wpAny_updateSeq_pair y3
   intro u4 y4 k6
   replace y4:IsPair u4 TO x y:=y4
   have g4:IsZip u4 z TI TO .ellipsis:=k6.extBut _ _ D.TOz.symm (k5.extBut _ _ D.i2z.symm g2)
   have zz:u4.objs.size=s.heap.objs.size:=k6.1.trans (k5.1.trans (k4.1.trans (k3.1.trans k0.1)))
   wp_walk using newT
   ·exact (show 2<=sizeLine from by decide)
   intro u5 q5
   have kp:∀c o,u4.get? c=some o->u5.get? c=some o:=fun c o q=>by rw[<-q5];exact jo_ _ q
   have g5:=kp z _ g4
   have y5:IsPair u5 u4.objs.size x y:=by rw[<-q5];exact jF_ _ rfl
   have z5:u5.objs.size=u4.objs.size+1:=by rw[<-q5];exact qw_ ..
   wp_walk using xP_ g5
   ·exact xt_ rfl
   intro u6 g6 k7
   replace g6:IsZip u6 z TI TO (rawInt u4.objs.size):=g6
   wp_walk using xP_ g6
   ·exact xt_ rfl
   intro u7 g7 k8
   replace g7:IsZip u7 z TI TO (rawInt u4.objs.size):=g7
   refine ju_ ⟨_,rfl,ju_ ?_⟩
   show Q (some (Value.ref u4.objs.size)) _
   have up:∀c o,c≠z->u4.get? c=some o->u7.get? c=some o:=fun c o n q=>k8.extBut c o n (k7.extBut c o n (kp c o q))
   have nz:u4.objs.size≠z:=qM_ (js_ g4)
   have y7:=k8.extBut _ _ nz (k7.extBut _ _ nz y5)
   rw[zz]at g7 y7 z5 ⊢
   exact hQ x y u7 hx hy g7 (up _ _ D.TOz y4) ((m3.at fun o q=>k6.extBut _ o D.TOi1.symm (k5.extBut _ o D.i12 (k4.extBut _ o D.TOi1.symm q))).at fun o q=>up _ o D.i1z q) ((m6.at fun o q=>k6.extBut _ o D.TOi2.symm q).at fun o q=>up _ o D.i2z q) y7 ((k8.1.trans k7.1).trans z5)
    fun c o n1 n2 n3 n4 q=>up c o n1 (k6.extBut c o n2 (k5.extBut c o n4 (kk c o n1 n2 n3 q)))
  ·refine fun hy=>⟨(hN (.inr hy)).1,fun u3 e k5 he=>?_⟩
   exact stop u3 e (fun c o n1 n2 n3 n4 q=>k5 c o n4 (kk c o n1 n2 n3 q)) (k5 z _ D.i2z.symm g2) he (.inr hy)
 ·refine fun hx=>⟨(hN (.inl hx)).1,fun u1 e k3 he=>?_⟩
  exact stop u1 e (fun c o n1 n2 n3 n4 q=>k3 c o n3 (k0.extBut c o n1 q)) (k3 z _ D.i1z.symm g0) he (.inl hx)
def Ig     (bw:BO t1 s.heap l1 xs)(bM:BO t2 s.heap l2 ys)
  (h:∀h',IsZip h' (s.heap.objs.size+4) (s.heap.objs.size+2) (s.heap.objs.size+3) .none->IsPair h' (s.heap.objs.size+2) (.ref s.heap.objs.size) (.ref (s.heap.objs.size+1))->IsPair h' (s.heap.objs.size+3) .none .none->Bx t1 h' s.heap.objs.size l1 0->Bx t2 h' (s.heap.objs.size+1) l2 0->h'.objs.size=s.heap.objs.size+5->(∀c o,s.heap.get? c=some o->h'.get? c=some o)->Q (.ref (s.heap.objs.size+4)) {s with heap:=h' }):
  wpAny (model prog w) A (call (.type "zip") [.ref l1,.ref l2]) Q E s:=by
 have M:Meets (Builtin.«zip.__new__» ⟨[.type "zip",.ref l1,.ref l2],[]⟩) fun _ R t=>t=s/\∀h',IsZip h' (s.heap.objs.size+4) (s.heap.objs.size+2) (s.heap.objs.size+3) .none->IsPair h' (s.heap.objs.size+2) (.ref s.heap.objs.size) (.ref (s.heap.objs.size+1))->IsPair h' (s.heap.objs.size+3) .none .none->Bx t1 h' s.heap.objs.size l1 0->Bx t2 h' (s.heap.objs.size+1) l2 0->h'.objs.size=s.heap.objs.size+5->(∀c o,s.heap.get? c=some o->h'.get? c=some o)->R (.ok (.ret (.ref (s.heap.objs.size+4)))) {s with heap:=h' }:=.of_wp fun prog w A R t ⟨e,q⟩=>by
  subst e
  obtain⟨hp,g,d,tk,os⟩:=t
  have cD:=sub_zip
  wp_walk using QD bw
  intro u1 q1
  obtain⟨a1,b1,c1⟩:=psh q1 rfl
  have hl2':BO t2 u1 l2 ys:=by rw[<-q1];exact BO.push bM _
  wp_walk using QD (s:=⟨u1,g,d,tk,os⟩) hl2'
  intro u2 q2
  obtain⟨a2,b2,c2⟩:=psh q2 rfl
  wp_walk using newT
  ·exact (show 2<=sizeLine from by decide)
  intro u3 q3
  obtain⟨a3,b3,c3⟩:=psh q3 rfl
  wp_walk using newT
  ·exact (show 2<=sizeLine from by decide)
  intro u4 q4
  obtain⟨a4,b4,c4⟩:=psh q4 rfl
  wp_walk
  refine⟨_,rfl,?_⟩
  have Z1:u1.objs.size=hp.objs.size+1:=c1
  have Z2:u2.objs.size=hp.objs.size+2:=(show u2.objs.size=u1.objs.size+1 from c2).trans (by rw[Z1])
  have Z3:u3.objs.size=hp.objs.size+3:=(show u3.objs.size=u2.objs.size+1 from c3).trans (by rw[Z2])
  have Z4:u4.objs.size=hp.objs.size+4:=(show u4.objs.size=u3.objs.size+1 from c4).trans (by rw[Z3])
  obtain⟨a5,b5,c5⟩:=psh (rfl:u4.push {cls:=.type "zip",data:=.fields #[.none,.bool false,.bool false,.ref u2.objs.size,.ref u3.objs.size]}=_) rfl
  replace b1:u1.get? hp.objs.size=_:=b1
  replace b2:u2.get? u1.objs.size=_:=b2
  replace b3:IsPair u3 u2.objs.size (.ref hp.objs.size) (.ref u1.objs.size):=b3
  replace b4:IsPair u4 u3.objs.size .none .none:=b4
  show R (.ok (.ret (.ref u4.objs.size))) ⟨u4.push {cls:=.type "zip",data:=.fields #[.none,.bool false,.bool false,.ref u2.objs.size,.ref u3.objs.size]},g,d,tk,os⟩
  rw[Z1,Z2]at b3
  rw[Z1]at b2
  rw[Z3]at b4
  rw[Z2,Z3,Z4]at b5
  rw[Z2,Z3]at a5 c5 ⊢
  rw[Z4]at c5 ⊢
  exact q _ b5 (a5 _ _ (a4 _ _ b3)) (a5 _ _ b4) (Bx.mk (a5 _ _ (a4 _ _ (a3 _ _ (a2 _ _ b1))))) (Bx.mk (a5 _ _ (a4 _ _ (a3 _ _ b2)))) c5 fun c o x=>a5 _ _ (a4 _ _ (a3 _ _ (a2 _ _ (a1 _ _ x))))
 exact callType_new F.called_zip (by decide) (F.typeCall_zip_2 _ _) (F.newCall_zip_2 _ _) (fun obj=>F.args_object_init_3 obj _ _) F.entry_zip_new M ⟨rfl,fun h' a b c d e f g=>⟨⟨_,a,rfl⟩,h h' a b c d e f g⟩⟩
end
end PySem
namespace PySem
section
variable {prog:Program} {w:World} {A:Around} {E:Value->Shared->Prop} {s:Shared}
noncomputable abbrev zpO (T TI TO:Addr)(f:Bool):Obj:={cls:=.type "zip",dict:=none,data:=.fields #[rawInt T,.bool f,.bool false,.ref TI,.ref TO],slots := #[]}
def zipH  {z TI TO T i1 i2 l1 l2:Addr}      (D:ZipApart z TI TO i1 i2 l1 l2)(hz:s.heap.get? z=some (zpO T TI TO f))(hTo:s.heap.get? T=some oT)(fj:IsPair s.heap TI (.ref i1) (.ref i2))
  (h1:Bx t1 s.heap i1 l1 k1) (h2:Bx t2 s.heap i2 l2 k2) (bw:BO t1 s.heap l1 xs) (bM:BO t2 s.heap l2 ys)
  (hQ:∀x y h',xs[k1]?=some x->ys[k2]?=some y->h'.get? z=some (zpO T TI TO true)->Bx t1 h' i1 l1 (k1+1)->Bx t2 h' i2 l2 (k2+1)->IsPair h' s.heap.objs.size x y->h'.objs.size=s.heap.objs.size+1->(∀c o,c≠z->c≠i1->c≠i2->s.heap.get? c=some o->h'.get? c=some o)->Q (some (.ref s.heap.objs.size)) {s with heap:=h' })
  (hN:xs[k1]?=none\/ys[k2]?=none->A.handled=none/\∀h',(∀c o,c≠z->c≠i1->c≠i2->s.heap.get? c=some o->h'.get? c=some o)->Q none {s with heap:=h' }):wpAny (model prog w) A (pyNext (.ref z)) Q E s:=by
 have hT:s.TypeIs (.ref z) "zip" := ⟨_,hz,rfl⟩
 have e1:=F.slot_zip_next
 have e:((T:Int)).toNat=T:=jh_ T
 have lz:=js_ hz
 unfold pyNext
 refine je_ (xK_ (qK_ hT e1 (xo_ e1 hT F.entry_zip_next ?_ (F.args_zip_next_1 _))))
 wp_walk
 simp only[<-Array.forIn_toList,List.forIn_cons,List.forIn_nil]
 refine PySem.W.kdx_alive (a:=(T:Int).toNat) (by rw[e];exact hTo) ?_
 have stop:∀h' (e:Addr),(∀c o,c≠z->c≠i1->c≠i2->s.heap.get? c=some o->h'.get? c=some o)->(∃o,h'.get? e=some o/\o.cls=.type "StopIteration")->xs[k1]?=none\/ys[k2]?=none ->
   wpAny (model prog w) A (do if <- isInstance (.ref e) (.type "StopIteration") then pure none else throw (.ref e)) Q E {s with heap:=h' }:=fun h' e kk ⟨o,e2,e3⟩ hx=>je_ (wpAny_isInstance (T := "StopIteration") (b:=true) ⟨o,e2,e3⟩ isSubtype_stop (ju_ ((hN hx).2 h' kk)))
 cases f
 ·wp_walk using xP_ hz
  ·exact xt_ rfl
  intro u0 g0 k0
  have m1:=h1.extBut k0.extBut D.i1z
  have m2:=bw.extBut k0.extBut D.l1z
  wp_walk using Gj (A:=A.in1) (s:={s with heap:=u0}) m1 m2
  ·intro x u1 hx m3 k3
   have m4:=(h2.extBut k0.extBut D.i2z).extBut k3.extBut D.i12.symm
   have m5:=(bM.extBut k0.extBut D.l2z).extBut k3.extBut D.l2i1
   wp_walk using Gj (A:=A.in1) (s:={s with heap:=u1}) m4 m5
   ·intro y u2 hy m6 k4
    wp_walk using newT
    ·exact (show 2<=sizeLine from by decide)
    intro u3 q3
    obtain⟨a3,b3,c3⟩:=psh q3 rfl
    wp_walk
    have zz:u2.objs.size=s.heap.objs.size:=k4.1.trans (k3.1.trans k0.1)
    have b4:IsPair u3 u2.objs.size x y:=b3
    have c4:u3.objs.size=u2.objs.size+1:=c3
    have kk:∀c o,c≠z->c≠i1->c≠i2->s.heap.get? c=some o->u3.get? c=some o:=fun c o n1 n2 n3 q=>a3 _ _ (k4.extBut c o n3 (k3.extBut c o n2 (k0.extBut c o n1 q)))
    have g3:=a3 _ _ (k4.extBut z _ D.i2z.symm (k3.extBut z _ D.i1z.symm g0))
    refine⟨_,rfl,ju_ ?_⟩
    show Q (some (Value.ref u2.objs.size)) _
    rw[zz]at b4 c4 ⊢
    exact hQ x y u3 hx hy g3 ((m3.extBut k4.extBut D.i12).at fun o q=>a3 _ _ q) (m6.at fun o q=>a3 _ _ q) b4 c4 kk
   ·exact fun hy=>⟨(hN (.inr hy)).1,fun u2 e k4 he=>stop u2 e (fun c o n1 n2 n3 q=>k4 c o n3 (k3.extBut c o n2 (k0.extBut c o n1 q))) he (.inr hy)⟩
  ·exact fun hx=>⟨(hN (.inl hx)).1,fun u1 e k3 he=>stop u1 e (fun c o n1 n2 n3 q=>k3 c o n2 (k0.extBut c o n1 q)) he (.inl hx)⟩
 ·have k0:=Heap.SameBut.refl z s.heap
  have m1:=h1.extBut k0.extBut D.i1z
  have m2:=bw.extBut k0.extBut D.l1z
  wp_walk using Gj (A:=A.in1) (s:={s with heap:=s.heap}) m1 m2
  ·intro x u1 hx m3 k3
   have m4:=(h2.extBut k0.extBut D.i2z).extBut k3.extBut D.i12.symm
   have m5:=(bM.extBut k0.extBut D.l2z).extBut k3.extBut D.l2i1
   wp_walk using Gj (A:=A.in1) (s:={s with heap:=u1}) m4 m5
   ·intro y u2 hy m6 k4
    wp_walk using newT
    ·exact (show 2<=sizeLine from by decide)
    intro u3 q3
    obtain⟨a3,b3,c3⟩:=psh q3 rfl
    wp_walk
    have zz:u2.objs.size=s.heap.objs.size:=k4.1.trans (k3.1.trans k0.1)
    have b4:IsPair u3 u2.objs.size x y:=b3
    have c4:u3.objs.size=u2.objs.size+1:=c3
    have kk:∀c o,c≠z->c≠i1->c≠i2->s.heap.get? c=some o->u3.get? c=some o:=fun c o n1 n2 n3 q=>a3 _ _ (k4.extBut c o n3 (k3.extBut c o n2 (k0.extBut c o n1 q)))
    have g3:=a3 _ _ (k4.extBut z _ D.i2z.symm (k3.extBut z _ D.i1z.symm hz))
    refine⟨_,rfl,ju_ ?_⟩
    show Q (some (Value.ref u2.objs.size)) _
    rw[zz]at b4 c4 ⊢
    exact hQ x y u3 hx hy g3 ((m3.extBut k4.extBut D.i12).at fun o q=>a3 _ _ q) (m6.at fun o q=>a3 _ _ q) b4 c4 kk
   ·exact fun hy=>⟨(hN (.inr hy)).1,fun u2 e k4 he=>stop u2 e (fun c o n1 n2 n3 q=>k4 c o n3 (k3.extBut c o n2 (k0.extBut c o n1 q))) he (.inr hy)⟩
  ·exact fun hx=>⟨(hN (.inl hx)).1,fun u1 e k3 he=>stop u1 e (fun c o n1 n2 n3 q=>k3 c o n2 (k0.extBut c o n1 q)) he (.inl hx)⟩
end
noncomputable def ZTp (xs ys:Array Value)(lo:Addr)(h:Heap)(as:List Addr):Prop:=as.Pairwise (· < ·)/\∀(j:Nat) a,as[j]?=some a->lo<a/\∃x y,xs[j]?=some x/\ys[j]?=some y/\IsPair h a x y
def ZTp.keep  {lo:Addr}   (g:ZTp xs ys lo h as)(k:∀b o,lo<b->h.get? b=some o->h'.get? b=some o):ZTp xs ys lo h' as:=⟨g.1,fun j a q=>let ⟨l,x,y,e1,e2,e3⟩:=g.2 j a q;⟨l,x,y,e1,e2,k a _ l e3⟩⟩
def ZTp.snoc  {lo b:Addr}    (g:ZTp xs ys lo h as)(hl:lo<b)(hb:∀a o,h.get? a=some o->a∈as->a<b)(e1:xs[as.length]?=some x)(e2:ys[as.length]?=some y)(ht:IsPair h b x y):ZTp xs ys lo h (as++[b]):=by
 refine⟨q0_.mpr ⟨g.1,List.pairwise_singleton _ _,fun a ha c hc=>?_⟩,fun j a q=>?_⟩
 ·obtain⟨j,hj⟩:=jI_.mp ha
  obtain⟨_,_,_,_,_,e⟩:=g.2 j a hj
  rw[jr_.mp hc]
  exact hb a _ e ha
 ·rcases qF_ j as.length with l|l
  ·rw[ji_ l]at q
   exact g.2 j a q
  ·have:=(jb_.mp q).1
   obtain rfl:j=as.length:=by simp at this;lia
   rw[jp_ l,qv_]at q
   obtain rfl:b=a:=by simpa using q
   exact⟨hl,x,y,e1,e2,ht⟩
section
variable {prog:Program} {w:World} {s:Shared}
def Ou:typeLookup (.type "zip") "__len__"=pure none:=by rw[typeLookup_type,builtinLookup_eq_fast];kernel_rfl
def Mr:typeLookup (.type "zip") "__length_hint__"=pure none:=by rw[typeLookup_type,builtinLookup_eq_fast];kernel_rfl
def UQ  {z TI TO i1 i2 l1 l2:Addr}   (D:ZipApart z TI TO i1 i2 l1 l2)(hn:xs.size<=sizeLine)(hxy:xs.size=ys.size)(hz:IsZip s.heap z TI TO .none)(fj:IsPair s.heap TI (.ref i1) (.ref i2))(fQ:IsPair s.heap TO a b)(h1:Bx t1 s.heap i1 l1 0)(h2:Bx t2 s.heap i2 l2 0)(bw:BO t1 s.heap l1 xs)(bM:BO t2 s.heap l2 ys):
  Gat prog w s z z "zip" xs.size (fun b=>b=z\/b=TO\/b=i1\/b=i2) (fun i ai h=>∃as,ai=as.map Value.ref/\as.length=i/\ZTp xs ys s.heap.objs.size h as/\(IsPair h TI (.ref i1) (.ref i2)/\Bx t1 h i1 l1 i/\Bx t2 h i2 l2 i/\BO t1 h l1 xs/\BO t2 h l2 ys)/\((IsZip h z TI TO .none/\∃a b,IsPair h TO a b) \/ ∃T f oT,h.get? z=some (zpO T TI TO f)/\h.get? T=some oT/\s.heap.objs.size<T)) (fun ai h=>∃as,ai=as.map Value.ref/\as.length=xs.size/\ZTp xs ys s.heap.objs.size h as):=by
 have lz:=js_ hz
 have lI:=js_ fj
 have lO:=js_ fQ
 have a1:=h1.lt
 have a2:=h2.lt
 have b1:=bw.lt
 have b2:=bM.lt
 have sq:∀{t:Bool} {h h':Heap} {l:Addr} {v:Array Value},BO t h l v->(∀o,h.get? l=some o->h'.get? l=some o)->BO t h' l v:=fun {t} {h h' l v} x k=>by
  cases t
  ·obtain⟨o,e,r⟩:=x;exact⟨o,k o e,r⟩
  ·obtain⟨o,e,r⟩:=x;exact⟨o,k o e,r⟩
 refine⟨⟨_,hz,rfl⟩,by decide,by decide,hn,fun A t Q E k q=>?_,fun A u Q E k zz q=>?_,fun A i ai t Q E hh j hl hi lt q1 q2=>?_,fun i ai h h' j k=>?_,?_⟩
 ·have hT:t.TypeIs (.ref z) "zip" := ⟨_,k _ _ hz,rfl⟩
  unfold Builtin.List.listLengthHint
  wp_walk using wpAny_specialOf hT Ou,wpAny_specialOf hT Mr
  exact q _ t.toks
 ·exact wpAny_pyIter_zip (k _ _ hz) (q u ⟨[],rfl,rfl,⟨.nil,fun j a e=>by simp at e⟩,⟨k _ _ fj,h1.at fun o e=>k _ o e,h2.at fun o e=>k _ o e,sq bw fun o e=>k _ o e,sq bM fun o e=>k _ o e⟩,.inl ⟨k _ _ hz,_,_,k _ _ fQ⟩⟩ fun b o e=>e)
 ·obtain⟨as,rfl,e2,e3,⟨e4,e5,e6,e7,e8⟩,e9⟩:=j
  have old:∀{b:Addr},s.heap.objs.size<b->¬ (b=z\/b=TO\/b=i1\/b=i2):=fun {b} l x=>by
   rcases x with rfl|rfl|rfl|rfl
   ·exact absurd lz (xX_.mpr (q1_ l))
   ·exact absurd lO (xX_.mpr (q1_ l))
   ·exact absurd a1 (xX_.mpr (q1_ l))
   ·exact absurd a2 (xX_.mpr (q1_ l))
  have fin:∀h',(xs[i]?=none\/ys[i]?=none)->KP (fun b=>b=z\/b=TO\/b=i1\/b=i2) t.heap h'->Q none {t with heap:=h' }:=fun h' e k=>by
   have:i=xs.size:=by rcases e with e|e<;>rw[Array.getElem?_eq_none_iff]at e<;>lia
   exact q2 h' t.toks this ⟨as,rfl,by lia,e3.keep fun b o l q=>k b o (old l) q⟩ k
  have one:∀x y h',xs[i]?=some x->ys[i]?=some y->Bx t1 h' i1 l1 (i+1)->Bx t2 h' i2 l2 (i+1)->IsPair h' t.heap.objs.size x y->KP (fun b=>b=z\/b=TO\/b=i1\/b=i2) t.heap h'->(∃T f oT,h'.get? z=some (zpO T TI TO f)/\h'.get? T=some oT/\s.heap.objs.size<T)->Q (some (.ref t.heap.objs.size)) {t with heap:=h' }:=fun x y h' ex ey i1' i2' hp k st=>by
   refine q1 _ h' t.toks (q4_.mp ex).1 ⟨as++[t.heap.objs.size],by simp,by simp[e2],(e3.keep fun b o l q=>k b o (old l) q).snoc lt (fun a o _ m=>?_) (by rw[e2];exact ex) (by rw[e2];exact ey) hp,⟨k _ _ (fun x=>?_) e4,i1',i2',sq e7 fun o q=>k _ o (fun x=>?_) q,sq e8 fun o q=>k _ o (fun x=>?_) q⟩,.inr st⟩ k
   ·obtain⟨j,hj⟩:=jI_.mp m
    obtain⟨_,_,_,_,_,e⟩:=e3.2 j a hj
    exact js_ e
   ·rcases x with x|x|x|x
    ·exact D.TIz x
    ·exact D.TITO x
    ·exact D.TIi1 x
    ·exact D.TIi2 x
   ·rcases x with x|x|x|x
    ·exact D.l1z x
    ·exact D.l1TO x
    ·exact D.l1i1 x
    ·exact D.l1i2 x
   ·rcases x with x|x|x|x
    ·exact D.l2z x
    ·exact D.l2TO x
    ·exact D.l2i1 x
    ·exact D.l2i2 x
  rcases e9 with ⟨c1,c,d,c2⟩|⟨T,f,oT,c1,c2,c3⟩
  ·refine zipN D c1 e4 c2 e5 e6 e7 e8 (fun x y h' ex ey g1 g2 g3 g4 g5 gs gk=>one x y h' ex ey g3 g4 g5 (fun b o n q=>gk b o (fun z=>n (.inl z)) (fun z=>n (.inr (.inl z))) (fun z=>n (.inr (.inr (.inl z)))) (fun z=>n (.inr (.inr (.inr z)))) q) ⟨_,false,_,g1,g5,lt⟩) fun e=>⟨hh,fun h' gk=>fin h' e fun b o n q=>gk b o (fun z=>n (.inl z)) (fun z=>n (.inr (.inl z))) (fun z=>n (.inr (.inr (.inl z)))) (fun z=>n (.inr (.inr (.inr z)))) q⟩
  ·refine zipH D c1 c2 e4 e5 e6 e7 e8 (fun x y h' ex ey g1 g3 g4 g5 gs gk=>one x y h' ex ey g3 g4 g5 (fun b o n q=>gk b o (fun z=>n (.inl z)) (fun z=>n (.inr (.inr (.inl z)))) (fun z=>n (.inr (.inr (.inr z)))) q) ⟨T,true,oT,g1,gk T oT (fun z=>old c3 (.inl z)) (fun z=>old c3 (.inr (.inr (.inl z)))) (fun z=>old c3 (.inr (.inr (.inr z)))) c2,c3⟩) fun e=>⟨hh,fun h' gk=>fin h' e fun b o n q=>gk b o (fun z=>n (.inl z)) (fun z=>n (.inr (.inr (.inl z)))) (fun z=>n (.inr (.inr (.inr z)))) q⟩
 ·obtain⟨as,r1,r2,r3,⟨r4,r5,r6,r7,r8⟩,r9⟩:=j
  refine⟨as,r1,r2,r3.keep fun b o l q=>k b o (qM_ l) q,⟨k _ _ (jL_ lI) r4,r5.at fun o q=>k _ o (jL_ a1) q,r6.at fun o q=>k _ o (jL_ a2) q,sq r7 fun o q=>k _ o (jL_ b1) q,sq r8 fun o q=>k _ o (jL_ b2) q⟩,?_⟩
  rcases r9 with ⟨c1,c,d,c2⟩|⟨T,f,oT,c1,c2,c3⟩
  ·exact .inl ⟨k _ _ (jL_ lz) c1,c,d,k _ _ (jL_ lO) c2⟩
  ·exact .inr ⟨T,f,oT,k _ _ (jL_ lz) c1,k _ _ (qM_ c3) c2,c3⟩
 ·rintro (x|x|x|x)
  ·exact absurd x (qM_ lz)
  ·exact absurd x (qM_ lO)
  ·exact absurd x (qM_ a1)
  ·exact absurd x (qM_ a2)
end
end PySem
namespace L2
open PySem PySem.Spec PyProof.Rows GW
noncomputable def SqB (K:α3)(H:Hp)(t:Bool)(a:Addr)(xs:List V):Prop:=match t with|false=>SqL K H a xs|true=>SqT K H a xs
def Inv.seqB         (I:Inv X af σ H s)(h:SqB X.K H t a xs):∃its:List Value,Vals xs its/\BO t s.heap a its.toArray:=by
 cases t
 ·obtain⟨its,r,p,_⟩:=I.list h
  exact⟨its,r,p.isList⟩
 ·obtain⟨its,r,p,_⟩:=I.tuple h
  exact⟨its,r,p⟩
noncomputable def Itz2 (K:α3)(t1 t2:Bool)(a b:Addr)(xs ys:List V):It:=⟨fun i H=>i<xs.length/\i<ys.length/\SqB K H t1 a xs/\SqB K H t2 b ys,fun i H x H'=>∃t u v,H t=none/\xs[i]?=some u/\ys[i]?=some v/\x=.ref t/\H'=upd H t (.tup [u,v]),fun i H=>(xs.length<=i\/ys.length<=i)/\SqB K H t1 a xs/\SqB K H t2 b ys⟩
def QE {P:Program}{w:World}{K:α3}{fO:List Expr}{x1}{ez:Pos}{t1 t2:Bool}{a b z TI TO i1 i2:Addr}(D:ZipApart z TI TO i1 i2 a b)(xs ys:List V):Turn P w K (.Tuple fO x1 ez) (Itz2 K t1 t2 a b xs ys) [z,TI,TO,i1,i2] z
  (fun i h=>IsZip h z TI TO .none/\IsPair h TI (.ref i1) (.ref i2)/\(∃c d,IsPair h TO c d)/\Bx t1 h i1 a i/\Bx t2 h i2 b i) where
 mem:=by simp
 obj:=fun i h st c hc=>by
  obtain⟨h1,h2,⟨u,v,h3⟩,h4',h5'⟩:=st
  obtain⟨o4,h4,d4⟩:=h4'.ob
  obtain⟨o5,h5,d5⟩:=h5'.ob
  simp only[jC_,x6_,or_false]at hc
  rcases hc with rfl|rfl|rfl|rfl|rfl
  ·exact⟨_,h1,fun v z=>by cases z⟩
  ·exact⟨_,h2,fun v z=>by cases z⟩
  ·exact⟨_,h3,fun v z=>by cases z⟩
  ·exact⟨o4,h4,fun v z=>by rw[d4]at z;cases z⟩
  ·exact⟨o5,h5,fun v z=>by rw[d5]at z;cases z⟩
 keep:=fun i h h' st k=>by
  obtain⟨h1,h2,⟨u,v,h3⟩,h4,h5⟩:=st
  exact⟨k z (by simp) _ h1,k TI (by simp) _ h2,⟨u,v,k TO (by simp) _ h3⟩,h4.at fun o q=>k i1 (by simp) o q,h5.at fun o q=>k i2 (by simp) o q⟩
 item:=by
  intro X hP hw hK hc i af s σ H E I hf st hg
  subst hP hw hK
  obtain⟨hi,hj,hq,cE⟩:=hg
  obtain⟨hz,fj,⟨c,d,fQ⟩,h1,h2⟩:=st
  obtain⟨its,rv,p⟩:=I.seqB hq
  obtain⟨aI,jk,p2⟩:=I.seqB cE
  obtain⟨u,hu,ru⟩:=rv.get (i:=i) (x:=xs[i]) (by simp[hi])
  obtain⟨v,hv,oG⟩:=jk.get (i:=i) (x:=ys[i]) (by simp[hj])
  have l1:=rv.length
  have l2:=jk.length
  refine zipN D hz fj fQ h1 h2 p p2 (fun u' v' h' eu ev g1 g2 g3 g4 g5 gs gk=>?_) fun y=>by simp at y;lia
  obtain rfl:u=u':=by simpa [hu] using eu
  obtain rfl:v=v':=by simpa [hv] using ev
  have hTz:s.heap.objs.size≠z:=qM_ (js_ hz)
  refine⟨_,rfl,wpAny_letOwnedTupleGo_zip g1 fun fK e1 bY=>?_⟩
  have eB:∀b o,b ∉ [z,TI,TO,i1,i2]->s.heap.get? b=some o->fK.get? b=some o:=fun b o hb q=>by
   simp only[jC_,x6_,or_false,not_or]at hb
   exact (bY.2 b hb.1).trans (gk b o hb.1 hb.2.2.1 hb.2.2.2.1 hb.2.2.2.2 q)
  obtain⟨un,hok⟩:=I.unL eB hf
  have hn:H s.heap.objs.size=none:=I.hok.fresh (jg_ _)
  have new:Bk X.prog X.w (upd H s.heap.objs.size (.tup [xs[i],ys[i]])) fK s.heap.objs.size (.tup [xs[i],ys[i]]):=⟨by have:=As;simp;lia,[u,v],.cons ru (.cons oG .nil),_,(bY.2 _ hTz).trans g5,rfl,_,rfl⟩
  refine⟨.ref s.heap.objs.size,upd H s.heap.objs.size (.tup [xs[i],ys[i]]),I.call' (s':={s with heap:=fK }) (ch:=[z,TI,TO,i1,i2]) rfl (un.track (jg_ _) hn) (hok.track hn new) I.bare (fun b hb=>?_),rfl,⟨_,_,_,hn,by simp[hi],by simp[hj],rfl,rfl⟩,?_,fun b hb=>?_⟩
  ·exact (hf b hb).ch
  ·refine⟨e1,(bY.2 TI D.TIz).trans (gk TI _ D.TIz D.TITO D.TIi1 D.TIi2 fj),⟨u,v,(bY.2 TO D.TOz).trans g2⟩,g3.at fun o q=>(bY.2 i1 D.i1z).trans q,g4.at fun o q=>(bY.2 i2 D.i2z).trans q⟩
  ·have gL:=hf b hb
   have:∃o,s.heap.get? b=some o:=by
    simp only[jC_,x6_,or_false]at hb
    rcases hb with rfl|rfl|rfl|rfl|rfl
    ·exact⟨_,hz⟩
    ·exact⟨_,fj⟩
    ·exact⟨_,fQ⟩
    ·obtain⟨o,ho,_⟩:=h1.ob;exact⟨o,ho⟩
    ·obtain⟨o,ho,_⟩:=h2.ob;exact⟨o,ho⟩
   obtain⟨o,ho⟩:=this
   rw[Aj (jL_ (js_ ho))]
   exact gL.1
 done:=by
  intro X hP hw hK hc i af s σ H E I hf st hg
  subst hP hw hK
  obtain⟨hi,hq,cE⟩:=hg
  obtain⟨hz,fj,⟨c,d,fQ⟩,h1,h2⟩:=st
  obtain⟨its,rv,p⟩:=I.seqB hq
  obtain⟨aI,jk,p2⟩:=I.seqB cE
  have l1:=rv.length
  have l2:=jk.length
  refine zipN D hz fj fQ h1 h2 p p2 (fun u v h' eu ev=>by have a:=(q4_.mp eu).1;have b:=(q4_.mp ev).1;simp at a b;lia) fun _=>⟨I.ok.hd hc,fun h' gk=>⟨rfl,?_⟩⟩
  obtain⟨un,hok⟩:=I.unL (h':=h') (fun b o hb q=>by
   simp only[jC_,x6_,or_false,not_or]at hb
   exact gk b o hb.1 hb.2.2.1 hb.2.2.2.1 hb.2.2.2.2 q) hf
  exact I.call' (s':={s with heap:=h' }) (ch:=[z,TI,TO,i1,i2]) rfl un hok I.bare fun b hb=>(hf b hb).ch
 self:=fun A i s Q E st h=>wpAny_pyIter_zip st.1 h
noncomputable def Wn (K:α3)(ta:TA):TI:=fun σ H R=>ta σ H fun vs H1=>∃a b xs ys t1 t2,vs=[.ref a,.ref b]/\SqB K H1 t1 a xs/\SqB K H1 t2 b ys/\R (Itz2 K t1 t2 a b xs ys) H1
theorem QF {K:α3}     : Wn K ta σ H Z=ta σ H fun vs H1=>∃a b xs ys t1 t2,vs=[.ref a,.ref b]/\SqB K H1 t1 a xs/\SqB K H1 t2 b ys/\Z (Itz2 K t1 t2 a b xs ys) H1:=rfl
def UR   {x1}     (hg:Gl X "zip")(hm:X.mg "zip"=none)(ha:PA X [e,f] ta)(hs:starEach [e,f] X.env=[(false,eval e X.env),(false,eval f X.env)]:=by rfl)(bY:starEach [f] X.env=[(false,eval f X.env)]:=by rfl):PI X (.Tuple fO x1 ez) (.Call (.Name "zip" p) [e,f] [] pos) (Wn X.K ta):=by
 intro af s σ H R I h
 refine Call_ (DT I hg hm boot_zip (j6_ (thn (ha pos af s σ H _ I h) fun us s1 ⟨vs,H1,I1,r1,q1⟩=>?_) (by rw[hs,bY]) (by rw[bY];rfl)))
 obtain⟨a,b,xs,ys,t1,t2,ev,hq,cE,q⟩:=q1
 subst ev
 cases r1 with
 |cons r rr=>cases rr with
  |cons r' rr=>
   cases rr
   cases r
   cases r'
   obtain⟨its,rv,pl⟩:=I1.seqB hq
   obtain⟨aI,jk,iQ⟩:=I1.seqB cE
   refine Ig pl iQ fun h' hz fj fQ hi1 m8 hsz hk=>?_
   refine wpAny_pyIter_zip (s:={s1 with heap:=h' }) hz ?_
   have I2:Inv X af σ H1 {s1 with heap:=h' }:=I1.kept (t':=s1.toks) hk
   refine⟨_,_,_,_,H1,rfl,I2,QE (zipApart_new pl.lt iQ.lt) xs ys,⟨hz,fj,⟨_,_,fQ⟩,hi1,m8⟩,fun c hc=>?_,q⟩
   have aQ:s1.heap.objs.size<=c:=by
    simp only[jC_,x6_,or_false]at hc
    rcases hc with rfl|rfl|rfl|rfl|rfl
    ·exact xp_ _ 4
    ·exact xp_ _ 2
    ·exact xp_ _ 3
    ·exact jg_ _
    ·exact xp_ _ 1
   exact I1.fpOk aQ (I1.hok.fresh aQ)
def Xc {K:α3}         (n:Nat)(bS:n<=xs.length)(fk:n<=ys.length)(hn3:xs.length=n\/ys.length=n)(Pv:Nat->St->Hp->Prop)(h0:Pv 0 σ H)(hl:∀i σ H,i<=n->Pv i σ H->SqB K H t1 a xs/\SqB K H t2 b ys)
  (hs:∀i u v σ H t,i<n->xs[i]?=some u->ys[i]?=some v->Pv i σ H->H t=none->g (.ref t) σ (upd H t (.tup [u,v])) fun aj H2=>tb {D with nx:=Pv (i+1),ct:=Pv (i+1),bk:=D.nx} aj H2) (hd:∀σ H,Pv n σ H->D.nx σ H):ForW (Itz2 K t1 t2 a b xs ys) g tb D σ H:=by
 refine⟨fun i m σ H=>m+i=n/\Pv i σ H,⟨n,by lia,h0⟩,fun i m σ H ⟨hm,hp⟩=>?_⟩
 obtain⟨q1,q2⟩:=hl i σ H s!"" hp
 by_cases hi:i<n
 ·refine .inr ⟨⟨by lia,by lia,q1,q2⟩,Pv (i+1),fun ag H' h=>⟨m-1,by lia,by lia,h⟩,fun x H' hy=>?_⟩
  obtain⟨t,u,v,e1,e2,e3,rfl,rfl⟩:=hy
  exact hs i u v σ H t hi e2 e3 hp e1
 ·have e:i=n:=by lia
  subst e
  exact .inl ⟨⟨by lia,q1,q2⟩,hd σ H hp⟩
end L2
namespace Nest
noncomputable def sl (row:α2)(b i:Nat):α2:=(row.take i).drop b
noncomputable def outF (p e:Int)(s:α2×Int)(x:Int):α2×Int:=if x=e then (s.1,s.2-1) else (if s.2=0 then s.1++[x] else s.1,if p<=x then s.2+1 else s.2)
noncomputable def outS (p e:Int)(l:α2):α2×Int:=l.foldl (outF p e) ([],0)
noncomputable def outW (p e:Int)(l:α2):α2:=(outS p e l).1
noncomputable def wd (p e:Int)(row:α2)(i a:Nat):α2:=outW p e (sl row (a+1) i)
end Nest
namespace L2
open PySem PySem.Spec PyProof.Rows GW
def QG  {K:α3}   (hK:X.K=K)(hl:PE X l tl):PI X tg l (iTup K tl):=by subst hK;exact Eb hl
end L2
namespace L2
open PySem PySem.Spec PyProof.Rows
def QH  {K:α3}(h:X.K=K):OpR X (binaryOp .Add) (E9 K):=by subst h;exact ER
end L2
namespace L2
open PySem PySem.W PySem.Spec PySem.Calls PyProof.Rows
def Ov    [DecidableEq κ](knd:HeapKind prog w κ)  (hd:(d==sysModules)=false):
  MeetsIn prog w (Builtin.«dict.__len__» ⟨[.ref d],[]⟩) (fun _ R s=>∃xs,s.heap.DictOfH knd d xs/\R (.ok (.ret (.int (xs.length:Nat) s.toks))) {s with toks:=s.toks+1}):=
 .of_wp fun A R s ⟨xs,⟨o,es,ep,ho,_,gR,he,_⟩,h⟩=>by
  show wpAny _ _ (dictSize d >>= _) _ _ s
  unfold dictSize
  refine je_ (je_ (zr_ ho gR (ju_ ?_)))
  refine je_ (wpAny_pendingCount_other hd (wpAny_ret_mkInt ?_))
  rw[Nat.add_zero,size_of_entries he]
  exact h
def Wo {prog:Program}{w:World}{κ:Type}[DecidableEq κ]{knd:HeapKind prog w κ}{A:Around}{E:Value->Shared->Prop}{s:Shared}{d:Addr}{xs:List (κ×Addr×Value)}{Q:Value->Shared->Prop}(hd:(d==sysModules)=false)(hm:s.heap.DictOfH knd d xs)(hfit:(xs.length:Int)<2 ^ 63)
  (h:Q (.int xs.length (s.toks+1)) {s with toks:=s.toks+1+1}):wpAny (model prog w) A (call (.builtin "len") [.ref d]) Q E s:=by
 refine Calls.call_function_entry kind_len plain_len entry_len (args_len1 _) ?_
 unfold Builtin.«len»
 refine je_ (m:=oneArg "len" _) (ju_ (je_ (m:=callSpecial? (.ref d) (Str.ofString "__len__")) (qK_ (name:=Str.ofString "__len__") hm.typeIs F.slot_dict_len (call_meetsIn F.slot_dict_len hm.typeIs F.entry_dict_len (F.args_dict_len_1 _) (Ov knd hd) ⟨xs,hm,?_⟩))))
 show wpAny _ _ _ _ _ {s with toks:=s.toks+1}
 refine je_ (qW_ (ju_ (je_ (wpAny_letGo ?_))))
 show wpAny _ _ (if ((xs.length:Nat):Int)<0 then _ else _) _ _ _
 rw[if_neg s!""]
 show wpAny _ _ (if ((xs.length:Nat):Int) >= 2 ^ 63 then _ else _) _ _ _
 rw[if_neg s!""]
 exact je_ (wpAny_mkInt (ju_ ⟨_,rfl,h⟩))
def IY  : Cg X (.builtin "len") (fun xs H Q=>∃p kvs,xs=[.ref p]/\H p=some (.dT kvs)/\Q (.int kvs.length) H):=by
 intro af s σ H xs us Q I r h
 obtain⟨p,kvs,rfl,e,q⟩:=h
 obtain⟨u,rfl,rx⟩:=vals1 r
 cases rx
 obtain⟨z,hd,xs,bh,dd⟩:=VR I.hok e
 have hn:=KW
 have ak:kvs.length=xs.length:=bh.length
 exact Wo hd dd s!"" ⟨.int kvs.length,H,I.tok _,⟨_,by rw[ak]⟩,q⟩
noncomputable def ND (K:α3)(H:Hp)(xs:List V)(ws:α1):Prop:=xs.length=ws.length/\∀(i:Nat) (w:α2),ws[i]?=some w->∃t,xs[i]?=some (.ref t)/\H t=some (.lst (w.map V.int))
def ND.at {K:α3}{H:Hp}{xs:List V}{ws:α1}(h:ND K H xs ws){i:Nat}{x:V}(hx:xs[i]?=some x):∃t w,ws[i]?=some w/\x=.ref t/\H t=some (.lst (w.map V.int)):=by
 have hi:i<ws.length:=by rw[<-h.1];exact (jb_.mp hx).1
 obtain⟨t,a,b⟩:=h.2 i ws[i] (by simp[hi])
 rw[hx]at a
 exact⟨t,ws[i],by simp[hi],jq_ a,b⟩
def NF:∀{ws:α1} {m:Nat} {w:α2},ws[m]?=some w->ws.idxOf w<=m
 |[],m,w,h=>by simp at h
 |v::ws,m,w,h=>by
  rw[zK_]
  cases m with
  |zero=>
   have:v=w:=by simpa using h
   simp[this]
  |succ m=>
   have:=NF (ws:=ws) (m:=m) (w:=w) (by simpa using h)
   cases e:(v==w) with
   |true=>exact jX_ _
   |false=>exact Nat.succ_le_succ this
end L2
set_option maxHeartbeats 1000000
set_option maxHeartbeats 4000000
namespace L2
open PySem PySem.W PySem.Spec PySem.Calls PyProof.Rows
def Sa           (I:Inv X af σ H s)(hc:X.calm=true)(rv:Vals xs us)(rw2:Vals ys vs)(pl:BO t1 s.heap a us.toArray)(iQ:BO t2 s.heap b vs.toArray)(ak:xs.length=ys.length)(hz:xs.length<=sizeLine)
  (q:∀l rs H',Same H H'->H' l=none->rs.length=xs.length->(∀(i:Nat) (x y:V),xs[i]?=some x->ys[i]?=some y->∃t,rs[i]?=some (V.ref t)/\H' t=some (.tup [x,y]))->Q (.ref l) (upd H' l (.lst rs))):
  wpAny (model X.prog X.w) X.A (call (.type "zip") [.ref a,.ref b]) (fun v s2=>wpAny (model X.prog X.w) X.A (call (.type "list") [v]) (EP X af σ Q) X.xe s2) X.xe s:=by
 have l1:=rv.length
 have l2:=rw2.length
 refine Ig pl iQ fun h1 z1 z2 z3 z4 z5 z6 z7=>?_
 have sq:∀{t:Bool} {l:Addr} {v:Array Value},BO t s.heap l v->BO t h1 l v:=fun {t} {l v} x=>by
  cases t
  ·obtain⟨o,e,r⟩:=x;exact⟨o,z7 _ o e,r⟩
  ·obtain⟨o,e,r⟩:=x;exact⟨o,z7 _ o e,r⟩
 have G:Gat X.prog X.w {s with heap:=h1} (s.heap.objs.size+4) _ "zip" us.toArray.size _ _ _:=UQ (s:={s with heap:=h1}) (zipApart_new pl.lt iQ.lt) (by rw[jm_,<-l1];exact hz) (by simp;lia) z1 z2 z3 z4 z5 (sq pl) (sq iQ)
 refine G.list (I.ok.hd hc) fun h' tk ai c ⟨as,f1,f2,f3⟩ _ hS k4=>?_
 have aQ:s.heap.objs.size<=h1.objs.size:=by lia
 have hk:∀b o,s.heap.get? b=some o->h'.get? b=some o:=fun b o e=>by
  have:=js_ e
  refine k4 b o (fun x=>?_) (z7 b o e)
  rcases x with x|x|x|x
  ·exact absurd x (jL_ (jy_ this (xp_ _ 4)))
  ·exact absurd x (jL_ (jy_ this (xp_ _ 3)))
  ·exact absurd x (jL_ this)
  ·exact absurd x (jL_ (jy_ this (xp_ _ 1)))
 have jl:as.length=xs.length:=by simp at f2;lia
 let cs:List (List V):=(xs.zip ys).map fun p=>[p.1,p.2]
 have bF:cs.length=xs.length:=by simp[cs,ak]
 have hci:∀(i:Nat) (x y:V),xs[i]?=some x->ys[i]?=some y->cs[i]?=some [x,y]:=fun i x y h1 h2=>by
  simp only[cs]
  rw[jd_,show (xs.zip ys)[i]?=some (x,y) from qQ_.mpr ⟨h1,h2⟩];rfl
 have hzz:(as.zip cs).map (·.1)=as:=List.map_fst_zip (by rw[jl,bF];exact jg_ _)
 have aS:∀p∈as.zip cs,∃(i:Nat) (x y:V),as[i]?=some p.1/\xs[i]?=some x/\ys[i]?=some y/\p.2=[x,y]:=fun p hp=>by
  obtain⟨i,hi⟩:=jI_.mp hp
  obtain⟨e1,e2⟩:=qQ_.mp hi
  have l:i<xs.length:=by rw[<-jl];exact (jb_.mp e1).1
  have ex:xs[i]?=some xs[i]:=by simp
  have ey:ys[i]?=some (ys[i]'s!""):=by simp
  rw[hci i _ _ ex ey]at e2
  exact⟨i,_,_,e1,ex,ey,(jq_ e2).symm⟩
 have ab:∀x∈as,h1.objs.size<x:=fun x hx=>by
  obtain⟨j,hj⟩:=jI_.mp hx
  exact (f3.2 j x hj).1
 have fr:∀p∈as.zip cs,h1.objs.size<p.1:=fun p hp=>by
  obtain⟨i,_,_,e,_⟩:=aS p hp
  exact ab _ (jc_ e)
 obtain⟨H2,e1,e2,e3,e4,e5⟩:=NB (as.zip cs) (by rw[hzz];exact f3.1.imp fun a=>jL_ a) (fun p hp=>by
  obtain⟨i,x,y,g1,g2,g3,g4⟩:=aS p hp
  obtain⟨u,hu,ru⟩:=rv.get g2
  obtain⟨v,hv,oG⟩:=rw2.get g3
  obtain⟨_,x',y',b1,b2,b3⟩:=f3.2 i p.1 g1
  obtain rfl:u=x':=by simpa [hu] using b1
  obtain rfl:v=y':=by simpa [hv] using b2
  refine⟨q1_ (zQ_ aQ (fr p hp)),by rw[g4];have:=As;simp;lia,[u,v],?_,⟨_,b3,rfl,0,rfl⟩⟩
  rw[g4]
  exact Vals.two' ru oG) H (Un.kept hk) (I.hok.kept hk) (fun p hp=>I.hok.fresh (q1_ (zQ_ aQ (fr p hp))))
 have hD:H2 h1.objs.size=none:=by
  rw[e5 _ (by rw[hzz];exact fun z=>absurd (ab _ z) (j5_ _))]
  exact I.hok.fresh aQ
 have new:Bk X.prog X.w (upd H2 h1.objs.size (.lst (as.map V.ref))) h' h1.objs.size (.lst (as.map V.ref)):=⟨by rw[ja_,jl];exact hz,as.map Value.ref,c,Wm as,by rw[<-f1];exact hS⟩
 refine⟨.ref h1.objs.size,_,I.un (t':=tk) (e1.track aQ hD) (e2.track hD new),rfl,q _ _ H2 e3 hD (by rw[ja_,jl]) fun i x y hx hy=>?_⟩
 have hi:i<as.length:=by rw[jl];exact (jb_.mp hx).1
 have lV:as[i]?=some as[i]:=by simp[hi]
 exact⟨as[i],by rw[jd_,lV];rfl,e4 (as[i],[x,y]) (jI_.mpr ⟨i,qQ_.mpr ⟨lV,hci i x y hx hy⟩⟩)⟩
noncomputable def NG (K:α3)(ta:TA):TE:=fun σ H Q=>ta σ H fun vs H1=>∃a b xs ys,vs=[.ref a,.ref b]/\SqL K H1 a xs/\SqL K H1 b ys/\xs.length=ys.length/\∀l rs H',Same H1 H'->H' l=none->rs.length=xs.length ->
 (∀(i:Nat) (x y:V),xs[i]?=some x->ys[i]?=some y->∃t,rs[i]?=some (V.ref t)/\H' t=some (.tup [x,y]))->Q (.ref l) (upd H' l (.lst rs))
theorem Lm {K:α3}     : NG K ta σ H Q=ta σ H fun vs H1=>∃a b xs ys,vs=[.ref a,.ref b]/\SqL K H1 a xs/\SqL K H1 b ys/\xs.length=ys.length/\∀l rs H',Same H1 H'->H' l=none->rs.length=xs.length ->
 (∀(i:Nat) (x y:V),xs[i]?=some x->ys[i]?=some y->∃t,rs[i]?=some (V.ref t)/\H' t=some (.tup [x,y]))->Q (.ref l) (upd H' l (.lst rs)):=rfl
def Ow     (hc:X.calm=true)(hg:Gl X "list")(hm:X.mg "list"=none)(jf:Gl X "zip")(gA:X.mg "zip"=none)(ha:PA X [e,f] ta)
  (iP:starEach [.Call (.Name "zip" p2) [e,f] [] dy] X.env=[(false,eval (.Call (.Name "zip" p2) [e,f] [] dy) X.env)]:=by rfl) (hs:starEach [e,f] X.env=[(false,eval e X.env),(false,eval f X.env)]:=by rfl) (bY:starEach [f] X.env=[(false,eval f X.env)]:=by rfl):
  PE X (.Call (.Name "list" p) [.Call (.Name "zip" p2) [e,f] [] dy] [] pos) (NG X.K ta):=by
 intro af s σ H Q I h
 refine xr_ (DT I hg hm boot_list ?_)
 refine j6_ ?_ iP rfl
 rw[iP]
 refine xq_ ?_
 refine Call_ (DT I jf gA boot_zip (j6_ (thn (ha dy af s σ H _ I h) fun us s1 ⟨vs,H1,I1,r1,q1⟩=>?_) (by rw[hs,bY]) (by rw[bY];rfl)))
 obtain⟨a,b,xs,ys,ev,hq,cE,ak,q⟩:=q1
 subst ev
 cases r1 with
 |cons r rr=>cases rr with
  |cons r' rr=>
   cases rr
   cases r
   cases r'
   obtain⟨its,rv,pl,eG⟩:=I1.list hq
   obtain⟨aI,jk,iQ,_⟩:=I1.list cE
   exact qO_ (Sa (t1:=false) (t2:=false) I1 hc rv jk pl.isList iQ.isList ak eG q) (fun v s2 h=>xW_ h) fun _ _ e=>e
def Ln  (hc:X.calm=true):Cg X (.builtin "max") (fun xs H Q=>∃(p:Addr) (ns:α2) (m:Int),xs=[.ref p]/\SqL X.K H p (ns.map V.int)/\m∈ns/\(∀x∈ns,x<=m)/\Q (.int m) H):=by
 intro af s σ H xs us Q I r h
 obtain⟨p,ns,m,rfl,hq,hm,hmax,q⟩:=h
 obtain⟨u,rfl,rx⟩:=vals1 r
 cases rx
 obtain⟨its,r',pl,_⟩:=I.list hq
 have hi:IntsAre its ns:=by simpa using intsAre_of r'
 obtain⟨zs,e⟩:=hi.allInts.items
 have gT:ns=zs.toList.map (·.1):=by rw[<-hi.numsOf,<-nums_intItems,<-e]
 have aw:0<ns.length:=qz_ hm
 have hsz:0<zs.size:=by rw[gT,ja_,j3_]at aw;exact aw
 have hl:=pl.isList
 rw[e]at hl
 refine max_intList (I.ok.hd hc) hl hsz fun v h' tk hv hk=>?_
 obtain⟨t,rfl⟩:=intItems_at hv
 obtain⟨h1,h2⟩:=argBest_gt (numAt zs) (zs.size-1)
 have g1:numAt zs (argBest (fun i j=>decide (numAt zs i > numAt zs j)) (zs.size-1))∈ns:=by
  rw[gT,numAt_eq];exact getD_mem (by rw[ja_,j3_];lia)
 have g2:m<=numAt zs (argBest (fun i j=>decide (numAt zs i > numAt zs j)) (zs.size-1)):=by
  rw[gT]at hm
  obtain⟨j,hj,rfl⟩:=mem_getD hm
  rw[ja_,j3_]at hj
  rw[<-numAt_eq];exact h2 j s!""
 have g3:=hmax _ g1
 have g4:numAt zs (argBest (fun i j=>decide (numAt zs i > numAt zs j)) (zs.size-1))=m:=by lia
 exact⟨.int m,H,I.kept hk,⟨t,by rw[g4]⟩,q⟩
def Lo  : Cg X (.builtin "len") (fun xs H Q=>(∃a kvs,xs=[V.ref a]/\H a=some (.dK kvs)/\Q (.int kvs.length) H) \/ ∃p kvs,xs=[.ref p]/\H p=some (.dT kvs)/\Q (.int kvs.length) H):=
 Cg.or (by
  intro af s σ H xs us Q I r h
  obtain⟨a,kvs,rfl,ha,q⟩:=h
  obtain⟨u,rfl,ru⟩:=vals1 r
  cases ru
  exact W9 I (.inl ha) fun t s' I'=>⟨.int kvs.length,H,I',⟨t,rfl⟩,q⟩) IY
noncomputable def rIxB (K:α3):R2:=fun x y H Q=>rIxL K x y H Q\/rIxT K x y H Q
def US  {K:α3}(h:X.K=K):IxR X (rIxB K):=IxR.or (Bi h) (Bs h)
theorem Wq {K:α3}    : rIxB K x y H Q=((∃p xs i v,x=.ref p/\y=.int i/\SqL K H p xs/\atI xs i=some v/\Q v H) \/ ∃p xs i v,x=.ref p/\y=.int i/\SqT K H p xs/\atI xs i=some v/\Q v H):=rfl
noncomputable def Tu:TE:=fun σ H Q=>PV σ H Q\/PX σ H Q
theorem QI    : Tu σ H Q=((∀p,H p=none->Q (.ref p) (upd H p (.dK []))) \/ ∀p,H p=none->Q (.ref p) (upd H p (.dT []))):=rfl
def Sb   : PE X (.Dict [] [] pos) Tu:=fun af s σ H Q I h=>h.elim (fun h=>Nh af s σ H Q I h) (fun h=>Ni af s σ H Q I h)
end L2
namespace L2
section
variable {α:Type} [DecidableEq α]
noncomputable def ins1 (ai:List α)(x:α):List α:=if x∈ai then ai else ai++[x]
noncomputable def BD (ai row:List α):List α:=row.foldl ins1 ai
noncomputable def Ay (row:List α):List α:=BD [] row
def Kg {ai:List α}{x y:α}:y∈ins1 ai x↔y∈ai\/y=x:=by
 unfold ins1
 split
 ·rename_i h
  constructor
  ·exact .inl
  ·rintro (h' | rfl)
   ·exact h'
   ·exact h
 ·simp
def Ih:∀{row ai:List α} {y:α},y∈BD ai row↔y∈ai\/y∈row
 |[],ai,y=>by simp[BD]
 |x::row,ai,y=>by
  show y∈BD (ins1 ai x) row↔_
  rw[Ih,Kg,jC_,or_assoc]
def AN {row:List α}{y:α}:y∈Ay row↔y∈row:=by
 unfold Ay
 rw[Ih];simp
def Ox {ai:List α}{x:α}(h:ai.Nodup):(ins1 ai x).Nodup:=by
 unfold ins1
 split
 ·exact h
 ·rename_i hx
  exact zq_.mpr ⟨h,by simp,fun a ha b hb z=>by simp at hb;subst z hb;exact hx ha⟩
def FG:∀{row ai:List α},ai.Nodup->(BD ai row).Nodup
 |[],ai,h=>h
 |x::row,ai,h=>FG (row:=row) (Ox h)
def Bf (row:List α):(Ay row).Nodup:=FG List.nodup_nil
def Ms (row:List α)(x:α):Ay (row++[x])=ins1 (Ay row) x:=by
 unfold Ay BD
 rw[qx_];rfl
def QJ {l:List α}{x y:α}(hx:x∈l)(hy:y∈l)(h:l.idxOf x=l.idxOf y):x=y:=by
 have h1:=qG_ hx
 have h2:=qG_ hy
 have e1:l[l.idxOf x]=x:=qY_ h1
 have e2:l[l.idxOf y]=y:=qY_ h2
 rw[<-e1,<-e2]
 congr 1
noncomputable def num (row:List α):α2:=row.map fun x=>((Ay row).idxOf x:Int)
def Gk (row:List α):(num row).length=row.length:=by unfold num;rw[ja_]
def Dz {β:Type}[DecidableEq β](f:α->β):∀(row ai:List α),(∀x y,x∈ai\/x∈row->y∈ai\/y∈row->f x=f y->x=y)->BD (ai.map f) (row.map f)=(BD ai row).map f
 |[],ai,_=>rfl
 |x::row,ai,h=>by
  show BD (ins1 (ai.map f) (f x)) (row.map f)=(BD (ins1 ai x) row).map f
  have e:ins1 (ai.map f) (f x)=(ins1 ai x).map f:=by
   unfold ins1
   by_cases hx:x∈ai
   ·rw[if_pos hx,if_pos (q6_ hx)]
   ·rw[if_neg hx,if_neg,jV_];rfl
    intro z
    obtain⟨y,hy,e⟩:=jv_.mp z
    have:=h y x (.inl hy) (.inr (jl_ ..)) e
    subst this
    exact hx hy
  rw[e]
  refine Dz f row _ fun a b ha hb=>h a b ?_ ?_
  ·rcases ha with ha|ha
   ·rcases Kg.mp ha with ha|rfl
    ·exact .inl ha
    ·exact .inr (jl_ ..)
   ·exact .inr (jk_ _ ha)
  ·rcases hb with hb|hb
   ·rcases Kg.mp hb with hb|rfl
    ·exact .inl hb
    ·exact .inr (jl_ ..)
   ·exact .inr (jk_ _ hb)
noncomputable def ncl (row:List α):Nat:=(Ay row).length
def Gm (row:List α):ncl (num row)=ncl row:=by
 unfold ncl num Ay
 have:=Dz (fun x=>((Ay row).idxOf x:Int)) row [] (fun x y hx hy e=>by
  simp at hx hy
  exact QJ (AN.mpr hx) (AN.mpr hy) s!"")
 unfold Ay at this
 simp only[xS_]at this
 rw[this,ja_]
def NH {row:List α}{i:Nat}{x:α}(h:row[i]?=some x):(num row)[i]?=some ((Ay row).idxOf x:Int):=by
 unfold num
 rw[jd_,h];rfl
def Mt {row:List α}{i j:Nat}{x y:α}(hx:row[i]?=some x)(hy:row[j]?=some y):(num row)[i]?=(num row)[j]? ↔ x=y:=by
 rw[NH hx,NH hy]
 constructor
 ·intro h
  have:=jq_ h
  exact QJ (AN.mpr (jc_ hx)) (AN.mpr (jc_ hy)) s!""
 ·rintro rfl;rfl
def NJ {row:List α}{n:Int}(h:n∈num row):0<=n/\n<ncl row:=by
 unfold num at h
 obtain⟨x,hx,rfl⟩:=jv_.mp h
 have:=qG_ (AN.mpr hx)
 exact⟨by lia,by unfold ncl;lia⟩
def Kh {row:List α}(h:row ≠ []):((ncl row:Int)-1)∈num row:=by
 have aw:Ay row ≠ []:=fun z=>by
  cases row with
  |nil=>exact h rfl
  |cons x row=>
   have:x∈Ay (x::row):=AN.mpr (jl_ ..)
   rw[z]at this;cases this
 have jm:0<(Ay row).length:=zL_.mpr aw
 have ar:(Ay row).length-1<(Ay row).length:=by lia
 refine jv_.mpr ⟨(Ay row)[(Ay row).length-1],AN.mp (j2_ ar),?_⟩
 have e:=(Bf row).idxOf_getElem _ ar
 rw[e]
 unfold ncl
 lia
def UT {row:List α}(h:row ≠ []):1<=ncl row:=by
 have h1:=Kh h
 have:=NJ h1
 lia
def Jr (row:List α):ncl row<=row.length:=by
 unfold ncl
 have:∀(row ai:List α),(BD ai row).length<=ai.length+row.length:=fun row=>by
  induction row with
  |nil=>intro ai;exact jg_ _
  |cons x row ih=>
   intro ai
   have:=ih (ins1 ai x)
   have h2:(ins1 ai x).length<=ai.length+1:=by unfold ins1;split<;>simp
   show (BD (ins1 ai x) row).length<=_
   rw[jS_];lia
 have:=this row []
 simpa [Ay] using this
end
def NL {α:Type}[DecidableEq α]:∀{l m:List α},l.Nodup->(∀x∈l,x∈m)->l.length<=m.length
 |[],m,_,_=>jX_ _
 |x::l,m,hn,h=>by
  have hx:=h x (jl_ ..)
  have h1:=qC_.mp hn
  have:=NL (m:=m.erase x) h1.2 fun y hy=>by
   have aw:y≠x:=fun z=>h1.1 (z ▸ hy)
   exact (xg_ aw).mpr (h y (jk_ _ hy))
  rw[qU_ hx]at this
  have hp:0<m.length:=qz_ hx
  rw[jS_];lia
def Oy {α β:Type}[DecidableEq α][DecidableEq β](f:α->β){l:List α}{m:List β}(hl:l.Nodup)(hm:m.Nodup)(hs:∀y∈m,∃x∈l,f x=y)(ak:l.length<=m.length){x y:α}(hx:x∈l)(hy:y∈l)(e:f x=f y):x=y:=by
 refine Decidable.byContradiction fun aw=>?_
 have cD:∀z∈m,z∈(l.erase y).map f:=fun z hz=>by
  obtain⟨u,hu,rfl⟩:=hs z hz
  by_cases huy:u=y
  ·subst huy
   exact jv_.mpr ⟨x,(xg_ aw).mpr hx,e⟩
  ·exact jv_.mpr ⟨u,(xg_ huy).mpr hu,rfl⟩
 have:=NL hm cD
 rw[ja_,qU_ hy]at this
 have hp:0<l.length:=qz_ hy
 lia
def Oz {α β:Type}[DecidableEq α][DecidableEq β]{row:List (α×β)}(h:ncl row<=ncl (row.map (·.1))){x y:α×β}(hx:x∈row)(hy:y∈row)(e:x.1=y.1):x.2=y.2:=by
 have h':(Ay row).length<=(Ay (row.map fun p:α×β=>p.1)).length:=h
 have:=Oy (fun p:α×β=>p.1) (Bf row) (Bf (row.map fun p:α×β=>p.1)) (fun z hz=>by
  obtain⟨p,hp,rfl⟩:=jv_.mp (AN.mp hz)
  exact⟨p,AN.mpr hp,rfl⟩) h' (AN.mpr hx) (AN.mpr hy) e
 rw[this]
def UU {α β:Type}[DecidableEq α][DecidableEq β]{row:List (α×β)}(h:∀x∈row,∀y∈row,x.1=y.1->x=y):ncl (row.map (·.1))=ncl row:=by
 unfold ncl Ay
 have:=Dz (fun p:α×β=>p.1) row [] (fun x y hx hy e=>by
  simp at hx hy
  exact h x hx y hy e)
 simp only[xS_]at this
 rw[this,ja_]
structure WC (L:Int)(n:Nat)(b:α2->Nat->Int)(words:α1)(c:α2):Prop where
 w0:words[0]?=some []
 ok:∀w∈words,∀x∈w,0<=x/\x<L
 tl:∀(k:Nat) (w:α2),words[k]?=some w->0<k->w.tail∈words.take k
 nd:words.Nodup
 len:c.length=n
 rng:∀v∈c,0<=v/\v<ncl c
 top:((ncl c:Int)-1)∈c
 iff:∀r s,r<n->s<n->(c[r]?=c[s]? ↔ ∀w∈words,b w r=b w s)
 le:words.length<=ncl c
noncomputable def rowB (n:Nat)(b:α2->Nat->Int)(w:α2):α2:=(List.range n).map (b w)
def B3     (hr:r<n):(rowB n b w)[r]?=some (b w r):=by
 unfold rowB
 rw[jd_,qE_ hr];rfl
def QK {c m:α2}(h:c.length=m.length):(c.zip m).map (·.1)=c:=by
 rw[List.map_fst_zip s!""]
def Js {c m:α2}{r:Nat}{u v:Int}(hu:c[r]?=some u)(hv:m[r]?=some v):(c.zip m)[r]?=some (u,v):=by
 rw[qQ_];exact⟨hu,hv⟩
section
variable {L:Int} {n:Nat} {b:α2->Nat->Int} {words:α1} {c:α2} {w:α2} {x:Int}
def WC.start (hn:1<=n):WC L n b [[]] (num (rowB n b [])):=by
 have aw:rowB n b [] ≠ []:=fun z=>by
  have:=jH_ List.length z
  unfold rowB at this
  simp at this;lia
 refine⟨rfl,(fun w hw x hx=>by simp at hw;subst hw;cases hx),fun k w hk h0=>?_,by simp,by rw[Gk];unfold rowB;simp,fun v hv=>?_,?_,fun r s hr hs=>?_,?_⟩
 ·cases k with
  |zero=>lia
  |succ k=>simp at hk
 ·rw[Gm];exact NJ hv
 ·rw[Gm];exact Kh aw
 ·rw[Mt (B3 hr) (B3 hs)]
  simp
 ·rw[Gm]
  exact UT aw
def WC.at (h:WC L n b words c)  (hr:r<n):∃u,c[r]?=some u:=⟨c[r]'(by rw[h.len];exact hr),by simp[h.len,hr]⟩
def DA:(rowB n b w).length=n:=by unfold rowB;simp
def WC.zlen (h:WC L n b words c):c.length=(rowB n b w).length:=by rw[h.len,DA]
def WC.same (h:WC L n b words c)(aQ:ncl (c.zip (rowB n b w))<=ncl c)  (hr:r<n)(hs:s<n)(e:c[r]?=c[s]?):b w r=b w s:=by
 obtain⟨u,hu⟩:=h.at hr
 obtain⟨v,hv⟩:=h.at hs
 have huv:u=v:=by rw[hu,hv]at e;exact jq_ e
 have h1:=jc_ (Js hu (B3 (b:=b) (w:=w) hr))
 have h2:=jc_ (Js hv (B3 (b:=b) (w:=w) hs))
 exact Oz (by rw[QK (h.zlen)];exact aQ) h1 h2 huv
def QL {c m:α2}{p:Int×Int}(hp:p∈c.zip m):∃r:Nat,c[r]?=some p.1/\m[r]?=some p.2:=by
 obtain⟨r,hr⟩:=jI_.mp hp
 have:=qQ_.mp (show (c.zip m)[r]?=some (p.1,p.2) from hr)
 exact⟨r,this.1,this.2⟩
def WC.told (h:WC L n b words c)(hs:∀r s,r<n->s<n->c[r]?=c[s]?->b w r=b w s):ncl (c.zip (rowB n b w))<=ncl c:=by
 have e:=UU (row:=c.zip (rowB n b w)) fun p hp q hq e=>by
  obtain⟨r,p1,p2⟩:=QL hp
  obtain⟨s,q1,q2⟩:=QL hq
  have hr:r<n:=by rw[<-h.len];exact (jb_.mp p1).1
  have fN:s<n:=by rw[<-h.len];exact (jb_.mp q1).1
  have:=hs r s hr fN (by rw[p1,q1,e])
  rw[B3 hr]at p2
  rw[B3 fN]at q2
  have e2:p.2=q.2:=by rw[<-jq_ p2,<-jq_ q2,this]
  exact Prod.ext e e2
 rw[<-e,QK h.zlen]
 exact jg_ _
def WC.more (h:WC L n b words c)(hn:1<=n)(hw:w∈words)(hx:0<=x/\x<L)(kO:ncl c<ncl (c.zip (rowB n b (x::w)))):WC L n b (words++[x::w]) (num (c.zip (rowB n b (x::w)))):=by
 have cY:x::w∉words:=fun hm=>by
  have:=h.told (w:=x::w) fun r s hr hs e=>((h.iff r s hr hs).mp e) _ hm
  lia
 have eG:(c.zip (rowB n b (x::w))).length=n:=by rw[zM_,h.len,DA];lia
 have aw:c.zip (rowB n b (x::w)) ≠ []:=fun z=>by rw[z]at eG;simp at eG;lia
 have jm:0<words.length:=by
  have:=(jb_.mp h.w0).1
  exact this
 refine⟨by rw[ji_ jm];exact h.w0,fun v hv y hy=>?_,fun k v hk h0=>?_,?_,by rw[Gk,eG],fun v hv=>?_,?_,fun r s hr hs=>?_,?_⟩
 ·rcases jA_.mp hv with hv|hv
  ·exact h.ok v hv y hy
  ·rw[jr_.mp hv]at hy
   rcases jC_.mp hy with rfl|hy
   ·exact hx
   ·exact h.ok w hw y hy
 ·by_cases gQ:k<words.length
  ·rw[ji_ gQ]at hk
   rw[List.take_append_of_le_length s!""]
   exact h.tl k v hk h0
  ·have:=(jb_.mp hk).1
   rw[jn_,jW_]at this
   have e:k=words.length:=by lia
   subst e
   rw[jp_ (jg_ _),qv_]at hk
   simp at hk
   subst hk
   rw[List.take_left']
   ·exact hw
   ·rfl
 ·exact zq_.mpr ⟨h.nd,by simp,fun a ha y hy z=>by simp at hy;subst z hy;exact cY ha⟩
 ·rw[Gm];exact NJ hv
 ·rw[Gm];exact Kh aw
 ·obtain⟨u,hu⟩:=h.at hr
  obtain⟨v,hv⟩:=h.at hs
  rw[Mt (Js hu (B3 hr)) (Js hv (B3 hs))]
  constructor
  ·intro e y hy
   rcases jA_.mp hy with hy|hy
   ·exact ((h.iff r s hr hs).mp (by rw[hu,hv,(Prod.mk.inj e).1])) y hy
   ·rw[jr_.mp hy];exact (Prod.mk.inj e).2
  ·intro e
   have e1:=(h.iff r s hr hs).mpr fun y hy=>e y (qa_ _ hy)
   rw[hu,hv]at e1
   have e2:=e (x::w) (jx_ _ (jr_.mpr rfl))
   rw[jq_ e1,e2]
 ·rw[jn_,jW_,Gm]
  have:=h.le
  lia
noncomputable def Told (n:Nat)(b:α2->Nat->Int)(c:α2)(w:α2):Prop:=∀r s,r<n->s<n->c[r]?=c[s]?->b w r=b w s
def WC.finer (h:WC L n b words c)(hz:c.length=n)  (ht:Told n b c u):Told n b (num (c.zip (rowB n b w))) u:=fun r s hr hs e=>by
 obtain⟨p,hp⟩:=h.at hr
 obtain⟨q,hq⟩:=h.at hs
 have:=(Mt (Js hp (B3 (b:=b) (w:=w) hr)) (Js hq (B3 (b:=b) (w:=w) hs))).mp e
 exact ht r s hr hs (by rw[hp,hq,(Prod.mk.inj this).1])
def WC.mine (h:WC L n b words c)(hw:w∈words):Told n b c w:=fun r s hr hs e=>((h.iff r s hr hs).mp e) w hw
end
def QM {α β:Type}[DecidableEq α][DecidableEq β](f:α->β):∀(l:List α) (x:α),(∀y∈l,f y=f x->y=x)->(l.map f).idxOf (f x)=l.idxOf x
 |[],x,_=>rfl
 |a::l,x,h=>by
  rw[j0_,zK_,zK_,QM f l x fun y hy=>h y (jk_ _ hy)]
  by_cases e:a=x
  ·subst e;simp
  ·have:¬ f a=f x:=fun z=>e (h a (jl_ ..) z)
   rw[show (a==x)=false by simpa using e,show (f a==f x)=false by simpa using this]
def UW  [DecidableEq α][DecidableEq β](f:α->β)  (h:∀x∈row,∀y∈row,f x=f y->x=y):num (row.map f)=num row:=by
 have e:Ay (row.map f)=(Ay row).map f:=by
  unfold Ay
  have:=Dz f row [] (fun x y hx hy e=>h x (hx.resolve_left (by simp)) y (hy.resolve_left (by simp)) e)
  simpa using this
 unfold num
 rw[jR_,e]
 refine qj_ fun x hx=>?_
 show (((Ay row).map f).idxOf (f x):Int)=_
 rw[QM f _ _ fun y hy e=>h y (AN.mp hy) x hx e]
def Sd {α:Type}[DecidableEq α]{l:List α}{x y:α}(hy:y∈l):(l++[x]).idxOf y=l.idxOf y:=by
 rw[zX_,if_pos hy]
def Mu {α:Type}[DecidableEq α]{l:List α}{x:α}(hx:x∉l):(l++[x]).idxOf x=l.length:=by
 rw[zX_,if_neg hx];simp
noncomputable abbrev StC:=α1×α2
noncomputable def IZ (n:Nat)(b:α2->Nat->Int)(w:α2)(st:StC)(x:Nat):StC:=if ncl st.2<ncl (st.2.zip (rowB n b ((x:Int)::w))) then (st.1++[(x:Int)::w],num (st.2.zip (rowB n b ((x:Int)::w)))) else st
noncomputable def FH (n:Nat)(b:α2->Nat->Int)(w:α2)(L:Nat)(st:StC):StC:=(List.range L).foldl (IZ n b w) st
noncomputable def FJ (n:Nat)(b:α2->Nat->Int)(L:Nat):Nat->Nat->StC->StC
 |0,_,st=>st
 |f+1,k,st=>if k<st.1.length then FJ n b L f (k+1) (FH n b (st.1.getD k []) L st) else st
section
variable {n L:Nat} {b:α2->Nat->Int} {w:α2} {st:StC}
def Ii  : FH n b w (i+1) st=IZ n b w (FH n b w i st) i:=by
 unfold FH
 rw[xU_,qx_];rfl
def Jt  (h:st.1.length<=k):FJ n b L f k st=st:=by
 cases f with
 |zero=>rfl
 |succ f=>unfold FJ;rw[if_neg s!""]
def Lp   (h:st.1[k]?=some v):FJ n b L (f+1) k st=FJ n b L f (k+1) (FH n b v L st):=by
 have hk:=(jb_.mp h).1
 rw[FJ,if_pos hk,jj_,h];rfl
structure WS (n L:Nat)(b:α2->Nat->Int)(k i:Nat)(st:StC):Prop where
 wc:WC L n b st.1 st.2
 told:∀(j:Nat) (v:α2),st.1[j]?=some v->∀x:Nat,x<L->(j<k\/(j=k/\x<i))->Told n b st.2 ((x:Int)::v)
def WS.start (hn:1<=n):WS n L b 0 0 ([[]],num (rowB n b [])):=⟨WC.start hn,fun j v hj x hx h=>by lia⟩
def WS.next  (h:WS n L b k L st):WS n L b (k+1) 0 st:=⟨h.wc,fun j v hj x hx hh=>h.told j v hj x hx s!""⟩
def WS.step  (hn:1<=n)(hw:st.1[k]?=some w)(hi:i<L)(h:WS n L b k i st):WS n L b k (i+1) (IZ n b w st i)/\(IZ n b w st i).1[k]?=some w:=by
 have hm:=jc_ hw
 unfold IZ
 by_cases hc:ncl st.2<ncl (st.2.zip (rowB n b ((i:Int)::w)))
 ·rw[if_pos hc]
  have hW:=h.wc.more hn hm (show 0<=(i:Int)/\(i:Int)<L by lia) hc
  have hk:=(jb_.mp hw).1
  refine⟨⟨hW,fun j v hj x hx hh=>?_⟩,by rw[ji_ hk];exact hw⟩
  by_cases e:j=k/\x=i
  ·obtain⟨rfl,rfl⟩:=e
   rw[ji_ hk,hw]at hj
   cases hj
   exact hW.mine (jx_ _ (jr_.mpr rfl))
  ·have eF:j<st.1.length:=by lia
   rw[ji_ eF]at hj
   exact h.wc.finer h.wc.len (h.told j v hj x hx s!"")
 ·rw[if_neg hc]
  refine⟨⟨h.wc,fun j v hj x hx hh=>?_⟩,hw⟩
  by_cases e:j=k/\x=i
  ·obtain⟨rfl,rfl⟩:=e
   rw[hw]at hj
   cases hj
   exact fun r s hr hs er=>h.wc.same s!"" hr hs er
  ·exact h.told j v hj x hx s!""
def WS.few  (h:WS n L b k i st):st.1.length<=n:=by
 have h1:=h.wc.le
 have h2:=Jr st.2
 rw[h.wc.len]at h2
 lia
noncomputable def wcOf (n L:Nat)(b:α2->Nat->Int):StC:=FJ n b L 41 0 ([[]],num (rowB n b []))
structure Fin17 (n L:Nat)(b:α2->Nat->Int)(st:StC):Prop where
 wc:WC L n b st.1 st.2
 told:∀v∈st.1,∀x:Nat,x<L->Told n b st.2 ((x:Int)::v)
def WS.fin  (h:WS n L b k 0 st)(hk:st.1.length<=k):Fin17 n L b st:=⟨h.wc,fun v hv x hx=>by
 obtain⟨j,hj⟩:=jI_.mp hv
 have:=(jb_.mp hj).1
 exact h.told j v hj x hx s!""⟩
end
end L2
namespace L2
open PySem PySem.W PySem.Spec PySem.Calls PyProof.Rows
def QN              (I:Inv X af σ H s)(e:H a=some (.dK kvs))(l:kvs.length<sizeLine)(ry:RelV (kV k) u)(rv:RelV v r)
  (h0:∀x,valV kvs k=some x->∀w' s',Inv X af σ H s'->RelV x w'->Q w' s') (h1:valV kvs k=none->∀s',Inv X af σ (upd H a (.dK (putK kvs k v))) s'->Q r s'):
  wpAny (model X.prog X.w) A (call (.builtin "dict.setdefault") [.ref a,u,r]) Q E s:=by
 obtain⟨z,hd,vs,bh,dd⟩:=RP I.hok e
 have hz:vs.length<=sizeLine:=by rw[<-bh.length];exact z
 refine call_meetsIn PySem.F.slot_dict_setdefault dd.typeIs PySem.F.entry_dict_setdefault (PySem.F.args_dict_setdefault_3 _ _ _) (kt_meets_setdefault (Bj X.prog X.w) a (Md ry) hd r) ⟨vs,dd,hz,fun x hx=>?_,fun hn h' gy hs=>?_⟩
 ·have rk:=bh.val k
  rw[hx]at rk
  cases q:valV kvs k with
  |none=>rw[q]at rk;exact (rk:False).elim
  |some y=>rw[q]at rk;exact h0 y q _ _ (I.tok _) rk
 ·have rk:=bh.val k
  rw[hn]at rk
  cases q:valV kvs k with
  |some y=>rw[q]at rk;exact (rk:False).elim
  |none=>
   refine h1 q _ ?_
   have hl:(putK kvs k v).length<=sizeLine:=by have:=Dt kvs k v;lia
   have he:∃q,h'.get? a=some q:=let ⟨q,_,_,hq,_⟩:=gy;⟨q,hq⟩
   exact J1 I (by rw[e];exact True.intro) hs he (PN hl hd (bh.put k rv) gy)
noncomputable def NM (td ty tx:TE):TE:=fun σ H Q=>td σ H fun x H1=>∃a,x=.ref a/\IsD H1 a/\ty σ H1 fun y H2=>tx σ H2 fun z H3=>∃n kvs,y=.int n/\H3 a=some (.dK kvs)/\kvs.length<sizeLine/\(∀v,valV kvs (Sum.inl n)=some v->Q v H3)/\(valV kvs (Sum.inl n)=none->Q z (upd H3 a (.dK (putK kvs (Sum.inl n) z))))
theorem Lq     : NM td ty tx σ H Q=td σ H fun x H1=>∃a,x=.ref a/\IsD H1 a/\ty σ H1 fun y H2=>tx σ H2 fun z H3=>∃n kvs,y=.int n/\H3 a=some (.dK kvs)/\kvs.length<sizeLine/\(∀v,valV kvs (Sum.inl n)=some v->Q v H3)/\(valV kvs (Sum.inl n)=none->Q z (upd H3 a (.dK (putK kvs (Sum.inl n) z)))):=rfl
def OA     (ho:PE X o td)(he:PE X e ty)(hf:PE X f tx)(m:M2 X o "setdefault" bq e f aE):PE X (.Call (.Attribute o "setdefault" bq) [e,f] [] aE) (NM td ty tx):=by
 intro af s σ H Q I h
 refine wpAny_Call_method m.base m.few m.line PySem.F.plainAttrs_dict PySem.F.slot_dict_setdefault PySem.F.type_dict_setdefault (thn (ho af s σ H _ I h) fun u s1 ⟨x,H1,I1,rx,a,ex,d,q1⟩=>?_)
 subst ex
 obtain rfl:u=Value.ref a:=rx
 obtain⟨t1,t2,_⟩:=S3 I1 d
 refine⟨t1,t2,?_⟩
 rw[m.trees]
 refine zl_ rfl (zC_ (xq_ (thn (he af s1 σ H1 _ I1 q1) fun iv s2 ⟨y,H2,I2,ry,q2⟩ =>
  xq_ (thn (hf af s2 σ H2 _ I2 q2) fun fv s3 ⟨z,H3,I3,rz,n,kvs,ey,ea,l,q3,q4⟩=>xW_ ?_))))
 subst ey
 exact QN (k:=Sum.inl n) I3 ea l ry rz (fun v hv w' s4 I4 eg=>⟨v,H3,I4,eg,q3 v hv⟩) fun hn s4 I4=>⟨z,_,I4,rz,q4 hn⟩
end L2
namespace L2
open GW GB
def QO {L:Int}(hL:0<L){n i:Nat}{ae:α1}{r:Int}{w:α2}:∀(rest:α2) (x:Nat) (ents:List (Int×α2)),((x+rest.length:Nat):Int)=L->(∀(k:Nat) (g:Int),rest[k]?=some g->g=Bv ae r ((x+k:Nat):Int)/\0<=g/\g<(n:Int))->Bfs L n ae ents i (AJ L w*L+x+1)->Seen L ae ents r w x->ents[i]?=some (r,w) ->
  Bfs L n ae (CU w ents x rest) i (AJ L w*L+L+1)/\Seen L ae (CU w ents x rest) r w L.toNat/\(CU w ents x rest)[i]?=some (r,w)
 |[],x,ents,hx,hg,bf,se,he=>by
  rw[Gg]
  have e:(x:Int)=L:=by simpa using hx
  rw[e]at bf
  exact⟨bf,by rw[show L.toNat=x by lia];exact se,he⟩
 |g::rest,x,ents,hx,hg,bf,se,he=>by
  rw[Fo]
  obtain⟨g1,g2⟩:=hg 0 g rfl
  have bH:(x:Int)<L:=by rw[jS_]at hx;lia
  obtain⟨oH,se'⟩:=bf.letter hL se (jc_ he) bH g1 g2
  refine QO hL rest (x+1) _ (by rw[<-hx,jS_];congr 1;lia) (fun k g' hk=>?_) oH se' (Fp he)
  have:=hg (k+1) g' (by simpa using hk)
  rwa [show x+(k+1)=x+1+k by lia]at this
def QP {L:Int}{aa:α2}{ae:α1}(wf:Wf L aa ae):∀(f:Nat) (ents:List (Int×α2)) (i:Nat) (top:Int),Bfs L aa.length ae ents i top->(∀e,ents[i]?=some e->top<=AJ L e.2*L+1)->aa.length<i+f->∃fP,Bfs L aa.length ae (bfs ae f ents i) (bfs ae f ents i).length fP
 |0,ents,i,top,bf,ht,hf=>absurd bf.il (by have:=bf.len;lia)
 |f+1,ents,i,top,bf,ht,hf=>by
  have hL:0<L:=by have:=wf.l1;lia
  cases he:ents[i]? with
  |none=>
   rw[Kb he]
   have:i=ents.length:=by have:=bf.il;have:=xv_.mp he;lia
   exact⟨top,this ▸ bf⟩
  |some e=>
   obtain⟨r,w⟩:=e
   rw[Kc he]
   have hr:=bf.rng _ (jc_ he)
   obtain⟨row,h1,h2,h3⟩:=wf.row hr.1 hr.2
   have l7:ae.getD r.toNat []=row:=by rw[jj_,h1];rfl
   obtain⟨a,b,c⟩:=QO (w:=w) (r:=r) hL row 0 ents (by simpa using h3) (fun k g hk=>⟨by rw[zv_];exact (BH h1 (by rw[jh_];exact hk)).symm,(wf.rows row h2).2 g (jc_ hk)⟩) (bf.up (by have h9:top<=AJ L w*L+1:=ht _ he;push_cast;lia)) (fun y h0 h1=>absurd h1 (by push_cast;lia)) he
   obtain⟨oH,dS⟩:=Bfs.next hL (m:=L.toNat) (by rw[show ((L.toNat:Nat):Int)=L by lia];exact a) s!"" b c
   show ∃fP,Bfs L aa.length ae (bfs ae f (CU w ents 0 (ae.getD r.toNat [])) (i+1)) _ fP
   rw[l7]
   exact QP wf f _ (i+1) _ oH dS s!""
def Bfs.mk    (wf:Wf L aa ae):∃top,Bfs L aa.length ae (Au ae) (Au ae).length top:=by
 unfold Au
 refine QP wf _ _ 0 1 (Bfs.start L wf.n1 ae) (fun e he=>?_) (by rw[wf.len];lia)
 simp at he;subst he;simp[AJ,AV]
def Lr {n L:Nat}{b:α2->Nat->Int}{st:StC}{k:Nat}{w:α2}(hn:1<=n)(hw:st.1[k]?=some w)(h:WS n L b k 0 st):∀i,i<=L->WS n L b k i (FH n b w i st)/\(FH n b w i st).1[k]?=some w
 |0,_=>⟨h,hw⟩
 |i+1,hi=>by
  obtain⟨a,c⟩:=Lr hn hw h i s!""
  rw[Ii]
  exact a.step hn c s!""
def Ju {n L:Nat}{b:α2->Nat->Int}(hn:1<=n)(aP:n<=40):∀(f k:Nat) (st:StC),k+f=41->WS n L b k 0 st->Fin17 n L b (FJ n b L f k st)
 |0,k,st,hk,h=>h.fin (by have:=h.few;lia)
 |f+1,k,st,hk,h=>by
  cases hw:st.1[k]? with
  |none=>
   have:=xv_.mp hw
   rw[Jt this]
   exact h.fin this
  |some w=>
   rw[Lp hw]
   exact Ju hn aP f (k+1) _ s!"" (Lr hn hw h L (jg_ _)).1.next
def Fin17.mk'   (hn:1<=n)(aP:n<=40):Fin17 n L b (wcOf n L b):=Ju hn aP 41 0 _ rfl (WS.start hn)
noncomputable def bW (aa:α2)(ae:α1)(w:α2)(r:Nat):Int:=aa.getD (Bw ae (r:Int) w).toNat 0
def Tv   : rowB aa.length (bW aa ae) []=aa:=by
 refine qL_ fun i=>?_
 by_cases hi:i<aa.length
 ·rw[B3 hi]
  unfold bW
  show some (aa.getD ((i:Int)).toNat 0)=_
  rw[jh_,jj_,jf_ hi];rfl
 ·rw[jT_ (by rw[DA];lia),jT_ s!""]
def Mv   (w:α2)(x:Int)(r:Nat)(h:0<=Bv ae (r:Int) x):bW aa ae (x::w) r=bW aa ae w (Bv ae (r:Int) x).toNat:=by
 unfold bW
 rw[Bn,xm_ h]
noncomputable def cf (c:α2)(r:Int):Int:=c.getD r.toNat 0
noncomputable def hm (c R:α2)(r:Int):Int:=(((Ay (R.map (cf c))).idxOf (cf c r):Nat):Int)
noncomputable def BA (c ai:α2)(r:Int):α2:=if cf c r∈ai.map (cf c) then ai else ai++[r]
noncomputable def FR (c R:α2):α2:=R.foldl (BA c) []
def OB (c ai:α2)(r:Int):(BA c ai r).map (cf c)=ins1 (ai.map (cf c)) (cf c r):=by
 unfold BA ins1
 split
 ·rfl
 ·rw[jV_];rfl
def QQ (c:α2):∀(R ai:α2),(R.foldl (BA c) ai).map (cf c)=BD (ai.map (cf c)) (R.map (cf c))
 |[],ai=>rfl
 |r::R,ai=>by
  rw[qX_,QQ c R,OB];rfl
def Ij (c R:α2):(FR c R).map (cf c)=Ay (R.map (cf c)):=QQ c R []
def QR {c R:α2}{i:Nat}{r:Int}(h:R[i]?=some r):FR c (R.take (i+1))=BA c (FR c (R.take i)) r:=by
 unfold FR
 rw[jQ_,h,qn_,qx_];rfl
def UX (c R:α2)(r:Int):FR c (R++[r])=BA c (FR c R) r:=by
 unfold FR
 rw[qx_];rfl
def QS (c:α2):∀(R ai:α2) (r:Int),r∈R.foldl (BA c) ai->r∈ai\/r∈R
 |[],ai,r,h=>.inl h
 |q::R,ai,r,h=>by
  rcases QS c R _ r h with h|h
  ·unfold BA at h
   split at h
   ·exact .inl h
   ·rcases jA_.mp h with h|h
    ·exact .inl h
    ·exact .inr (by rw[jr_.mp h];exact jl_ ..)
  ·exact .inr (jk_ _ h)
def FK   (h:r∈FR c R):r∈R:=(QS c R [] r h).resolve_left (by simp)
def NN (c R:α2):(FR c R).length<=R.length:=by
 have h:=jH_ List.length (Ij c R)
 have h2:=Jr (R.map (cf c))
 unfold ncl at h2
 rw[ja_]at h h2
 lia
noncomputable def mkR (aa:α2)(r:Int):Int:=aa.getD r.toNat 0
noncomputable def hrow (c R:α2)(ae:α1)(r:Int):α2:=(ae.getD r.toNat []).map (hm c R)
def hm_F {c R:α2}{j:Nat}{r:Int}(h:(FR c R)[j]?=some r):hm c R r=j:=by
 have h1:(Ay (R.map (cf c)))[j]?=some (cf c r):=by rw[<-Ij,jd_,h];rfl
 unfold hm
 obtain⟨hj,e⟩:=jb_.mp h1
 rw[<-e,(Bf _).idxOf_getElem _ hj]
def F_hm   (h:r∈R):∃(j:Nat) (q:Int),j<(FR c R).length/\hm c R r=j/\(FR c R)[j]?=some q/\cf c q=cf c r:=by
 have bN:cf c r∈Ay (R.map (cf c)):=AN.mpr (q6_ h)
 have hi:=qG_ bN
 have hl:(FR c R).length=(Ay (R.map (cf c))).length:=by rw[<-Ij,ja_]
 refine⟨(Ay (R.map (cf c))).idxOf (cf c r),(FR c R)[(Ay (R.map (cf c))).idxOf (cf c r)]'s!"",by lia,rfl,by simp[hl,hi],?_⟩
 have e:((FR c R).map (cf c))[(Ay (R.map (cf c))).idxOf (cf c r)]?=some (cf c r):=by rw[Ij,jf_ hi,qY_]
 rw[jd_,jf_ s!""]at e
 exact jq_ e
def hm_congr   (h:cf c r=cf c s):hm c R r=hm c R s:=by unfold hm;rw[h]
def Ls {c:α2}(p:Int->Int):∀Q:α2,Q.reverse.Pairwise (fun a b=>p a<p b)->(FR c Q.reverse).Pairwise (fun a b=>p a<p b)/\∀r∈Q.reverse,∃f∈FR c Q.reverse,cf c f=cf c r/\p f<=p r
 |[],_=>⟨List.Pairwise.nil,fun r hr=>by simp at hr⟩
 |q::Q,h=>by
  rw[List.reverse_cons]at h ⊢
  obtain⟨h1,_,h3⟩:=q0_.mp h
  obtain⟨i1,i2⟩:=Ls p Q h1
  rw[UX]
  unfold BA
  by_cases hc:cf c q∈(FR c Q.reverse).map (cf c)
  ·rw[if_pos hc]
   refine⟨i1,fun r hr=>?_⟩
   rcases jA_.mp hr with hr|hr
   ·exact i2 r hr
   ·rw[jr_.mp hr]
    obtain⟨f,hf,e⟩:=jv_.mp hc
    exact⟨f,hf,e,xJ_ (h3 f (FK hf) q (jr_.mpr rfl))⟩
  ·rw[if_neg hc]
   refine⟨q0_.mpr ⟨i1,List.pairwise_singleton _ _,fun a ha b hb=>?_⟩,fun r hr=>?_⟩
   ·exact h3 a (FK ha) b hb
   ·rcases jA_.mp hr with hr|hr
    ·obtain⟨f,hf,e⟩:=i2 r hr
     exact⟨f,qa_ _ hf,e⟩
    ·exact⟨r,jx_ _ hr,rfl,zp_ _⟩
def Se  (p:Int->Int)(h:R.Pairwise (fun a b=>p a<p b)):(FR c R).Pairwise (fun a b=>p a<p b)/\∀r∈R,∃f∈FR c R,cf c f=cf c r/\p f<=p r:=by
 have:=Ls (c:=c) p R.reverse (by rw[qZ_];exact h)
 rwa [qZ_]at this
section
variable {L:Nat} {aa:α2} {ae:α1}
def Lu {c:α2}{n:Nat}(hc:c.length=n){r:Int}(h0:0<=r)(h1:r<(n:Int)):c[r.toNat]?=some (cf c r):=by
 unfold cf
 rw[jj_]
 simp[show r.toNat<c.length by lia]
def Wf.stp (wf:Wf L aa ae){r x:Int}(h0:0<=r)(h1:r<aa.length)(x0:0<=x)(x1:x<L):0<=Bv ae r x/\Bv ae r x<aa.length:=by
 obtain⟨_,g,_,_,e,a,b⟩:=wf.step h0 h1 x0 x1
 rw[e];exact⟨a,b⟩
def Ht (wf:Wf L aa ae){st:StC}(fin:Fin17 aa.length L (bW aa ae) st){r s:Int}(r0:0<=r)(r1:r<aa.length)(s0:0<=s)(s1:s<aa.length)(e:cf st.2 r=cf st.2 s):
  mkR aa r=mkR aa s/\∀x:Nat,x<L->cf st.2 (Bv ae r x)=cf st.2 (Bv ae s x):=by
 have ec:st.2[r.toNat]?=st.2[s.toNat]?:=by rw[Lu fin.wc.len r0 r1,Lu fin.wc.len s0 s1,e]
 have hr:r.toNat<aa.length:=by lia
 have hs:s.toNat<aa.length:=by lia
 have all:=(fin.wc.iff _ _ hr hs).mp ec
 have eR:((r.toNat:Nat):Int)=r:=by lia
 have eS:((s.toNat:Nat):Int)=s:=by lia
 refine⟨?_,fun x hx=>?_⟩
 ·have:=all [] (jc_ fin.wc.w0)
  unfold bW at this
  rw[eR,eS]at this
  exact this
 ·obtain⟨a0,a1⟩:=Wf.stp wf r0 r1 (show (0:Int)<=x by lia) s!""
  obtain⟨b0,b1⟩:=Wf.stp wf s0 s1 (show (0:Int)<=x by lia) s!""
  have:=(fin.wc.iff (Bv ae r x).toNat (Bv ae s x).toNat s!"" s!"").mpr fun w hw=>by
   have:=fin.told w hw x hx r.toNat s.toNat hr hs ec
   rw[Mv _ _ _ (by rw[eR];exact a0),Mv _ _ _ (by rw[eS];exact b0),eR,eS]at this
   exact this
  rw[Lu fin.wc.len a0 a1,Lu fin.wc.len b0 b1]at this
  exact jq_ this
def Mw (wf:Wf L aa ae){st:StC}(fin:Fin17 aa.length L (bW aa ae) st):∀(w:α2) {r s:Int},isW L w=true->0<=r->r<aa.length->0<=s->s<aa.length->cf st.2 r=cf st.2 s->mkR aa (Bw ae r w)=mkR aa (Bw ae s w)
 |[],r,s,_,r0,r1,s0,s1,e=>(Ht wf fin r0 r1 s0 s1 e).1
 |x::w,r,s,hw,r0,r1,s0,s1,e=>by
  obtain⟨hx,hw⟩:=Ke.mp hw
  obtain⟨a0,a1⟩:=Wf.stp wf r0 r1 hx.1 hx.2
  obtain⟨b0,b1⟩:=Wf.stp wf s0 s1 hx.1 hx.2
  rw[Bn,Bn]
  refine Mw wf fin w hw a0 a1 b0 b1 ?_
  have:=(Ht wf fin r0 r1 s0 s1 e).2 x.toNat s!""
  rwa [show ((x.toNat:Nat):Int)=x by lia]at this
def Jv (wf:Wf L aa ae){st:StC}(fin:Fin17 aa.length L (bW aa ae) st){r s:Int}(r0:0<=r)(r1:r<aa.length)(s0:0<=s)(s1:s<aa.length)(h:∀w,isW L w=true->mkR aa (Bw ae r w)=mkR aa (Bw ae s w)):cf st.2 r=cf st.2 s:=by
 have eR:((r.toNat:Nat):Int)=r:=by lia
 have eS:((s.toNat:Nat):Int)=s:=by lia
 have:=(fin.wc.iff r.toNat s.toNat s!"" s!"").mpr fun w hw=>by
  have:=h w (Av.mpr (fin.wc.ok w hw))
  unfold bW
  rw[eR,eS]
  exact this
 rw[Lu fin.wc.len r0 r1,Lu fin.wc.len s0 s1]at this
 exact jq_ this
end
noncomputable def cOf (L:Nat)(aa:α2)(ae:α1):α2:=(wcOf aa.length L (bW aa ae)).2
noncomputable def rOf (ae:α1):α2:=(Au ae).map (·.1)
noncomputable def sF (L:Nat)(aa:α2)(ae:α1):α2:=FR (cOf L aa ae) (rOf ae)
noncomputable def sM (L:Nat)(aa:α2)(ae:α1):α2:=(sF L aa ae).map (mkR aa)
noncomputable def sW (L:Nat)(aa:α2)(ae:α1):α1:=(sF L aa ae).map (hrow (cOf L aa ae) (rOf ae) ae)
noncomputable def hO (L:Nat)(aa:α2)(ae:α1)(r:Int):Int:=hm (cOf L aa ae) (rOf ae) r
section
variable {L:Nat} {aa:α2} {ae:α1}
def finO (wf:Wf L aa ae):Fin17 aa.length L (bW aa ae) (wcOf aa.length L (bW aa ae)):=Fin17.mk' wf.n1 wf.n40
def Dd (wf:Wf L aa ae)  (h:r∈rOf ae):0<=r/\r<aa.length:=by
 obtain⟨top,bf⟩:=Bfs.mk wf
 obtain⟨e,he,rfl⟩:=jv_.mp h
 exact bf.rng e he
def Gn (wf:Wf L aa ae){r x:Int}(h:r∈rOf ae)(x0:0<=x)(x1:x<L):Bv ae r x∈rOf ae:=by
 obtain⟨top,bf⟩:=Bfs.mk wf
 obtain⟨e,he,rfl⟩:=jv_.mp h
 obtain⟨j,hj⟩:=jI_.mp he
 obtain⟨e',h1,h2,_⟩:=bf.don j (jb_.mp hj).1 e hj x x0 x1
 rw[<-h2]
 exact q6_ h1
def QT (wf:Wf L aa ae):(rOf ae)[0]?=some 0:=by
 obtain⟨top,bf⟩:=Bfs.mk wf
 unfold rOf
 rw[jd_,bf.hd];rfl
def QU (wf:Wf L aa ae):(rOf ae).length<=aa.length:=by
 obtain⟨top,bf⟩:=Bfs.mk wf
 unfold rOf
 rw[ja_];exact bf.len
def Ki (wf:Wf L aa ae):∀(w:α2) {r:Int},r∈rOf ae->isW L w=true->Bw ae r w∈rOf ae
 |[],r,h,_=>h
 |x::w,r,h,hw=>by
  obtain⟨hx,hw⟩:=Ke.mp hw
  rw[Bn]
  exact Ki wf w (Gn wf h hx.1 hx.2) hw
def GO (wf:Wf L aa ae){j:Nat}{r:Int}(h:(sF L aa ae)[j]?=some r):r∈rOf ae/\0<=r/\r<aa.length/\hO L aa ae r=j:=by
 have h1:=FK (jc_ h)
 have:=Dd wf h1
 exact⟨h1,this.1,this.2,hm_F h⟩
def Tw (wf:Wf L aa ae):(sF L aa ae).length<=aa.length:=qk_ (NN _ _) (QU wf)
def UY (wf:Wf L aa ae)  (h:r∈rOf ae):∃(j:Nat) (q:Int),j<(sF L aa ae).length/\hO L aa ae r=j/\(sF L aa ae)[j]?=some q/\cf (cOf L aa ae) q=cf (cOf L aa ae) r:=F_hm h
def Wr (wf:Wf L aa ae)  (h:r∈rOf ae):0<=hO L aa ae r/\hO L aa ae r<(sF L aa ae).length:=by
 obtain⟨j,q,h1,h2,_⟩:=UY wf h
 lia
def Ik (wf:Wf L aa ae):(0:Int)∈rOf ae:=jc_ (QT wf)
def QV (wf:Wf L aa ae):(sF L aa ae)[0]?=some 0:=by
 have h:=QT wf
 unfold sF
 cases hR:rOf ae with
 |nil=>rw[hR]at h;cases h
 |cons a R=>
  rw[hR]at h
  cases h
  unfold FR
  rw[qX_]
  have e:BA (cOf L aa ae) [] 0=[0]:=by unfold BA;simp
  rw[e]
  have:∀(R ai:α2),ai[0]?=some 0->(R.foldl (BA (cOf L aa ae)) ai)[0]?=some 0:=fun R=>by
   induction R with
   |nil=>intro ai h;exact h
   |cons r R ih=>
    intro ai h
    refine ih _ ?_
    unfold BA
    split
    ·exact h
    ·rw[ji_ (jb_.mp h).1];exact h
  exact this R [0] rfl
def My (wf:Wf L aa ae):hO L aa ae 0=0:=by
 have:=(GO wf (QV wf)).2.2.2
 simpa using this
def Xd {j:Nat}{r:Int}(h:(sF L aa ae)[j]?=some r):(sM L aa ae)[j]?=some (mkR aa r):=by
 unfold sM;rw[List.getElem?_map,h];rfl
def Ws {j:Nat}{r:Int}(h:(sF L aa ae)[j]?=some r):(sW L aa ae)[j]?=some (hrow (cOf L aa ae) (rOf ae) ae r):=by
 unfold sW;rw[List.getElem?_map,h];rfl
def GP:(sM L aa ae).length=(sF L aa ae).length:=by unfold sM;rw[ja_]
def Tx:(sW L aa ae).length=(sF L aa ae).length:=by unfold sW;rw[ja_]
def Wt    (h:ms[r.toNat]?=some m):mkR ms r=m:=by unfold mkR;rw[jj_,h];rfl
def Tz   (h:r.toNat<ms.length):ms[r.toNat]?=some (mkR ms r):=by unfold mkR;rw[jj_];simp[h]
def Mz (wf:Wf L aa ae)  (h:r∈rOf ae):mkR (sM L aa ae) (hO L aa ae r)=mkR aa r:=by
 obtain⟨j,q,h1,h2,h3,h4⟩:=UY wf h
 have hq:=GO wf h3
 have hr:=Dd wf h
 rw[h2]
 rw[Wt (show (sM L aa ae)[((j:Nat):Int).toNat]?=some (mkR aa q) by rw[jh_];exact Xd h3)]
 exact (Ht wf (finO wf) hq.2.1 hq.2.2.1 hr.1 hr.2 h4).1
def Wu (wf:Wf L aa ae)  (h:r∈rOf ae):(sW L aa ae)[(hO L aa ae r).toNat]?=some ((ae.getD r.toNat []).map (hO L aa ae)):=by
 obtain⟨j,q,h1,h2,h3,h4⟩:=UY wf h
 have hq:=GO wf h3
 have hr:=Dd wf h
 rw[h2,jh_,Ws h3]
 congr 1
 unfold hrow
 obtain⟨row,a1,a2,a3⟩:=wf.row hq.2.1 hq.2.2.1
 obtain⟨dB,b1,b2,b3⟩:=wf.row hr.1 hr.2
 have e1:ae.getD q.toNat []=row:=by rw[jj_,a1];rfl
 have e2:ae.getD r.toNat []=dB:=by rw[jj_,b1];rfl
 rw[e1,e2]
 refine qL_ fun x=>?_
 by_cases hx:x<L
 ·have gU:x<row.length:=by lia
  have hxr':x<dB.length:=by lia
  rw[jd_,jd_,jf_ gU,jf_ hxr']
  show some (hm _ _ row[x])=some (hm _ _ dB[x])
  have c1:Bv ae q (x:Nat)=row[x]:=BH a1 (by rw[jh_];simp[gU])
  have c2:Bv ae r (x:Nat)=dB[x]:=BH b1 (by rw[jh_];simp[hxr'])
  have:=(Ht wf (finO wf) hq.2.1 hq.2.2.1 hr.1 hr.2 h4).2 x hx
  rw[c1,c2]at this
  exact jH_ some (hm_congr this)
 ·rw[jT_ (by rw[ja_];lia),jT_ (by rw[ja_];lia)]
def UZ (wf:Wf L aa ae){r x:Int}(h:r∈rOf ae)(x0:0<=x)(x1:x<L):Bv (sW L aa ae) (hO L aa ae r) x=hO L aa ae (Bv ae r x):=by
 have hr:=Dd wf h
 obtain⟨row,b1,b2,b3⟩:=wf.row hr.1 hr.2
 have e2:ae.getD r.toNat []=row:=by rw[jj_,b1];rfl
 have h1:=Wu wf h
 rw[e2]at h1
 have gU:x.toNat<row.length:=by lia
 rw[BH b1 (show row[x.toNat]?=some row[x.toNat] by simp[gU])]
 exact BH h1 (by rw[jd_,jf_ gU];rfl)
def Gp (wf:Wf L aa ae):∀(w:α2) {r:Int},r∈rOf ae->isW L w=true->Bw (sW L aa ae) (hO L aa ae r) w=hO L aa ae (Bw ae r w)
 |[],r,h,_=>rfl
 |x::w,r,h,hw=>by
  obtain⟨hx,hw⟩:=Ke.mp hw
  rw[Bn,Bn,UZ wf h hx.1 hx.2]
  exact Gp wf w (Gn wf h hx.1 hx.2) hw
def sWf (wf:Wf L aa ae):Wf L (sM L aa ae) (sW L aa ae):=by
 have hz:=QV wf
 refine⟨wf.l1,wf.l6,?_,?_,by rw[GP,Tx],fun row hrow'=>?_,fun m kP=>?_⟩
 ·rw[GP];have:=(jb_.mp hz).1;lia
 ·rw[GP];have:=Tw wf;have:=wf.n40;lia
 ·obtain⟨j,hj⟩:=jI_.mp hrow'
  have eF:=(jb_.mp hj).1
  rw[Tx]at eF
  have hq:=GO wf (show (sF L aa ae)[j]?=some (sF L aa ae)[j] by simp[eF])
  rw[Ws (show (sF L aa ae)[j]?=some (sF L aa ae)[j] by simp[eF])]at hj
  have hj:=jq_ hj
  obtain⟨dB,b1,b2,b3⟩:=wf.row hq.2.1 hq.2.2.1
  have e2:ae.getD ((sF L aa ae)[j]).toNat []=dB:=by rw[jj_,b1];rfl
  unfold hrow at hj
  rw[e2]at hj
  subst hj
  refine⟨by rw[ja_];exact b3,fun x hx=>?_⟩
  obtain⟨g,hg,rfl⟩:=jv_.mp hx
  rw[GP]
  refine Wr wf ?_
  obtain⟨y,hy⟩:=jI_.mp hg
  have gV:=(jb_.mp hy).1
  have:=Gn wf hq.1 (x:=(y:Nat)) s!"" s!""
  rwa [BH b1 (by rw[jh_];exact hy)]at this
 ·unfold sM at kP
  obtain⟨r,hr,rfl⟩:=jv_.mp kP
  have:=Dd wf (FK hr)
  refine wf.mks _ (jc_ (Tz (ms:=aa) (r:=r) s!""))
structure Can (L:Nat)(aa:α2)(ae:α1):Prop where
 wf:Wf L aa ae
 lw:∃u:Nat->α2,(∀j,j<aa.length->isW L (u j)=true/\Az ae (u j)=(j:Int))/\(∀v,isW L v=true->∀j:Nat,Az ae v=(j:Int)->AJ L (u j)<=AJ L v)/\(∀j k,j<k->k<aa.length->AJ L (u j)<AJ L (u k))
 red:∀i j:Nat,i<aa.length->j<aa.length->(∀w,isW L w=true->mkR aa (Bw ae i w)=mkR aa (Bw ae j w))->i=j
noncomputable def wi (ae:α1)(r:Int):α2:=(((Au ae).find? fun e=>decide (e.1=r)).map (·.2)).getD []
def Sf {L:Int}{n:Nat}{top:Int}(bf:Bfs L n ae (Au ae) (Au ae).length top){e:Int×α2}(he:e∈Au ae):wi ae e.1=e.2:=by
 unfold wi
 cases hq:(Au ae).find? (fun e'=>decide (e'.1=e.1)) with
 |none=>
  rw[xQ_]at hq
  have:=hq _ he
  simp at this
 |some e' =>
  have hk:=zN_ hq
  simp only[qs_]at hk
  obtain⟨i,hi,ei⟩:=jU_ (q7_ hq)
  obtain⟨j,hj,ej⟩:=jU_ he
  have ij:i=j:=(xM_ (h₀:=by simpa using hi) (h₁:=by simpa using hj) bf.nod).mp (by simp[ei,ej,hk])
  subst ij
  rw[<-ei,ej];rfl
def TB {L:Int}{n:Nat}{top:Int}(bf:Bfs L n ae (Au ae) (Au ae).length top):(rOf ae).Pairwise (fun a b=>AJ L (wi ae a)<AJ L (wi ae b)):=by
 unfold rOf
 rw[xF_,xw_]
 intro i j hi hj aW
 rw[Sf bf (j2_ hi),Sf bf (j2_ hj)]
 exact bf.inc i j _ _ aW (by simp[hi]) (by simp[hj])
def Wv {α:Type}{R:α->α->Prop}{l:List α}(h:l.Pairwise R){i j:Nat}{a b:α}(aW:i<j)(ha:l[i]?=some a)(hb:l[j]?=some b):R a b:=by
 obtain⟨h1,rfl⟩:=jb_.mp ha
 obtain⟨h2,rfl⟩:=jb_.mp hb
 exact xw_.mp h i j h1 h2 aW
def Ww (wf:Wf L aa ae)  (h:r∈rOf ae):isW L (wi ae r)=true/\Az ae (wi ae r)=r:=by
 obtain⟨top,bf⟩:=Bfs.mk wf
 obtain⟨e,he,rfl⟩:=jv_.mp h
 rw[Sf bf he]
 exact bf.wd e he
def Kj (wf:Wf L aa ae)  (hv:isW L v=true):Az ae v∈rOf ae/\AJ L (wi ae (Az ae v))<=AJ L v:=by
 obtain⟨top,bf⟩:=Bfs.mk wf
 obtain⟨w',h1,h2⟩:=bf.least hv v.length (jg_ _)
 rw[jO_]at h1 h2
 have:=Sf bf h1
 exact⟨jv_.mpr ⟨_,h1,rfl⟩,by rw[show wi ae (Az ae v)=w' from this];exact h2⟩
def sCan (wf:Wf L aa ae):Can L (sM L aa ae) (sW L aa ae):=by
 obtain⟨top,bf⟩:=Bfs.mk wf
 obtain⟨f1,f2⟩:=Se (c:=cOf L aa ae) (fun r=>AJ L (wi ae r)) (TB bf)
 have l8:∀{j:Nat},j<(sF L aa ae).length->(sF L aa ae)[j]?=some ((sF L aa ae).getD j 0):=fun {j} hj=>by rw[jj_];simp[hj]
 refine⟨sWf wf,⟨fun j=>wi ae ((sF L aa ae).getD j 0),fun j hj=>?_,fun v hv j hj=>?_,fun j k iO hk=>?_⟩,fun i j hi hj az=>?_⟩
 ·rw[GP]at hj
  have hq:=GO wf (l8 hj)
  have:=Ww wf hq.1
  refine⟨this.1,?_⟩
  have h2:=Gp wf (wi ae ((sF L aa ae).getD j 0)) (Ik wf) this.1
  rw[My wf,BJ,BJ,this.2,hq.2.2.2]at h2
  exact h2
 ·obtain⟨h1,h2⟩:=Kj wf hv
  have h3:=Gp wf v (Ik wf) hv
  rw[My wf,BJ,BJ,hj]at h3
  obtain⟨f,hf,hc,hp⟩:=f2 _ h1
  obtain⟨i,hi⟩:=jI_.mp hf
  have hi':=(GO wf hi).2.2.2
  have e:hO L aa ae f=hO L aa ae (Az ae v):=hm_congr hc
  rw[hi',<-h3]at e
  have e':i=j:=by lia
  subst e'
  show AJ L (wi ae ((sF L aa ae).getD i 0))<=_
  rw[jj_,show (sF L aa ae)[i]?=some f from hi]
  exact Int.le_trans hp h2
 ·rw[GP]at hk
  exact Wv f1 iO (l8 s!"") (l8 hk)
 ·rw[GP]at hi hj
  have qi:=GO wf (l8 hi)
  have qj:=GO wf (l8 hj)
  have:=Jv wf (finO wf) qi.2.1 qi.2.2.1 qj.2.1 qj.2.2.1 fun w hw=>by
   have:=az w hw
   rw[<-qi.2.2.2,<-qj.2.2.2,Gp wf w qi.1 hw,Gp wf w qj.1 hw,Mz wf (Ki wf w qi.1 hw),Mz wf (Ki wf w qj.1 hw)]at this
   exact this
  have e:hO L aa ae ((sF L aa ae).getD i 0)=hO L aa ae ((sF L aa ae).getD j 0):=hm_congr this
  rw[qi.2.2.2,qj.2.2.2]at e
  lia
def Wx (wf:Wf L aa ae)  (hv:isW L v=true):mkR (sM L aa ae) (Az (sW L aa ae) v)=mkR aa (Az ae v):=by
 have h:=Gp wf v (Ik wf) hv
 rw[My wf,BJ,BJ]at h
 rw[h,Mz wf]
 have:=Ki wf v (Ik wf) hv
 rwa [BJ]at this
end
def Wf.walk' {L:Nat}{aa:α2}{ae:α1}(wf:Wf L aa ae){w:α2}(hw:isW L w=true):0<=Az ae w/\Az ae w<aa.length:=by
 have:=wf.walk hw w.length
 rwa [jO_]at this
section
variable {L:Nat} {m1 m2:α2} {w1 w2:α1}
def TC:∀{l m:α2},l.Pairwise (· < ·)->m.Pairwise (· < ·)->(∀x,x∈l↔x∈m)->l=m
 |[],[],_,_,_=>rfl
 |[],y::m,_,_,h=>absurd ((h y).mpr (jl_ ..)) (by simp)
 |x::l,[],_,_,h=>absurd ((h x).mp (jl_ ..)) (by simp)
 |x::l,y::m,hl,hm,h=>by
  obtain⟨l1,l2⟩:=List.pairwise_cons.mp hl
  obtain⟨k1,k2⟩:=List.pairwise_cons.mp hm
  have oA:x=y:=by
   have h1:=(h x).mp (jl_ ..)
   have h2:=(h y).mpr (jl_ ..)
   rcases jC_.mp h1 with h1|h1
   ·exact h1
   ·rcases jC_.mp h2 with h2|h2
    ·exact h2.symm
    ·have:=l1 y h2
     have:=k1 x h1
     lia
  subst oA
  congr 1
  refine TC l2 k2 fun z=>⟨fun hz=>?_,fun hz=>?_⟩
  ·rcases jC_.mp ((h z).mp (jk_ _ hz)) with e|e
   ·have:=l1 z hz;lia
   ·exact e
  ·rcases jC_.mp ((h z).mpr (jk_ _ hz)) with e|e
   ·have:=k1 z hz;lia
   ·exact e
def Can.order (c:Can L m1 w1):rOf w1=(List.range m1.length).map fun j:Nat=>(j:Int):=by
 obtain⟨u,p,q,s⟩:=c.lw
 obtain⟨top,bf⟩:=Bfs.mk c.wf
 have hL:(0:Int)<L:=by have:=c.wf.l1;lia
 have pl:∀r∈rOf w1,AJ L (wi w1 r)=AJ L (u r.toNat):=fun r hr=>by
  have b7:=Dd c.wf hr
  obtain⟨a,b⟩:=Ww c.wf hr
  have g1:=q _ a r.toNat s!""
  obtain⟨a',b'⟩:=p r.toNat s!""
  obtain⟨_,g2⟩:=Kj c.wf a'
  rw[b',xm_ b7.1]at g2
  lia
 refine TC ?_ ?_ fun x=>⟨fun hx=>?_,fun hx=>?_⟩
 ·have h1:=TB bf
  refine List.Pairwise.imp_of_mem (fun {a b} ha hb cu=>?_) h1
  have ra:=Dd c.wf ha
  have rb:=Dd c.wf hb
  rw[pl a ha,pl b hb]at cu
  refine Int.lt_of_not_ge fun bo=>?_
  rcases qF_ b.toNat a.toNat with ar|hge'
  ·have:=s b.toNat a.toNat ar s!""
   lia
  ·have:a.toNat=b.toNat:=by lia
   rw[this]at cu
   lia
 ·rw[xF_]
  exact List.Pairwise.imp (fun h=>by lia) List.pairwise_lt_range
 ·have:=Dd c.wf hx
  exact jv_.mpr ⟨x.toNat,jG_.mpr s!"",by lia⟩
 ·obtain⟨j,hj,rfl⟩:=jv_.mp hx
  obtain⟨a,b⟩:=p j (jG_.mp hj)
  have:=(Kj c.wf a).1
  rwa [b]at this
end
end L2
set_option maxHeartbeats 1000000
namespace L2
open PySem PySem.Spec PyProof.Rows
noncomputable def nt (n:Int):Str:=Str.ofString (toString n)
end L2
set_option maxHeartbeats 4000000
namespace L2
open PySem PySem.Spec PyProof.Rows
def Ax  : Cg X (.type "tuple") (fun xs H Q=>∃p ys,xs=[.ref p]/\((SqL X.K H p ys/\∀l,H l=none->Q (.ref l) (upd H l (.tup ys)))\/False)):=fun af s σ H xs us Q I r h=>by
 obtain⟨p,ys,e,h|h⟩:=h
 ·exact JZ af s σ H xs us Q I r ⟨p,ys,e,.inl h⟩
 ·exact h.elim
def DB  {K:α3}(h:X.K=K):Cg X (.type "tuple") (fun xs H Q=>∃p ys,xs=[.ref p]/\((SqL K H p ys/\∀l,H l=none->Q (.ref l) (upd H l (.tup ys)))\/False)):=by subst h;exact Ax
def len1 {α:Type}{us:List α}(h:us.length=1):∃a,us=[a]:=by match us,h with|[a],_=>exact⟨a,rfl⟩
def len2 {α:Type}{us:List α}(h:us.length=2):∃a b,us=[a,b]:=by match us,h with|[a,b],_=>exact⟨a,b,rfl⟩
def len3 {α:Type}{us:List α}(h:us.length=3):∃a b c,us=[a,b,c]:=by match us,h with|[a,b,c],_=>exact⟨a,b,c,rfl⟩
noncomputable def QW (u:TS)(D:Ends):St->Hp->Prop:=u D
noncomputable def Wy (t u:TS):TS:=fun D σ H=>t {D with nx:=QW u D} σ H
theorem TF     : Wy t u D σ H=t {D with nx:=QW u D} σ H:=rfl
def Sg     (h:u D σ H):QW u D σ H:=h
def Sh  {st:Stmt}{rest:List Stmt}  (h1:PS X st t)(h2:PSs X rest u):PSs X (st::rest) (Wy t u):=Ac h1 h2
end L2
set_option maxHeartbeats 1000000
set_option maxHeartbeats 4000000
namespace PySem.W
open PySem PySem.Calls PyProof.Rows PyProof.V PySem.Spec
end PySem.W
namespace L2
open PySem PySem.W PySem.Spec PySem.Calls PyProof.Rows
noncomputable def vD:Option (Option V)->(V->Prop)->Prop
 |some (some v),q=>q v
 |_,_=>False
theorem QX   : vD (some (some v)) q=q v:=rfl
def Xe   (h:vD o q):∃v,o=some (some v)/\q v:=by
 match o,h with
 |some (some v),h=>exact⟨v,rfl,h⟩
noncomputable def OC (i:Nat):TE:=fun σ H Q=>vD σ[i]? fun v=>Q v H
theorem TH     : OC i σ H Q=vD σ[i]? fun v=>Q v H:=rfl
def pvD  (i:Nat)   (hN:X.N[i]?=some x:=by rfl)(hv:Vis X.env.scope x:=by first|exact Or.inl rfl|exact Or.inr (Or.inl rfl)|exact Or.inr (Or.inr rfl))(hd:(x==("__debug__" : Str))=false:=by decide)
  (bL:(x==("__classdict__" : Str))=false:=by decide):PE X (.Name x pos) (OC i):=fun af s σ H Q I h=>pv i hN hv hd bL af s σ H Q I (Xe h)
noncomputable def iD:V->V->(Int->Int->Prop)->Prop
 |.int i,.int j,q=>q i j
 |x,y,q=>∃i j,x=.int i/\y=.int j/\q i j
theorem TJ   : iD (.int i) (.int j) q=q i j:=rfl
def U0   : iD x y q=∃i j,x=.int i/\y=.int j/\q i j:=by
 cases x<;>cases y<;>first|rfl|(simp[iD])
noncomputable def rID (C:Int->Int->Prop)(g:Int->Int->V):R2:=fun x y H Q=>iD x y fun i j=>C i j/\Q (g i j) H
noncomputable def rI0D (g:Int->Int->V):R2:=fun x y H Q=>iD x y fun i j=>Q (g i j) H
theorem r_ID      : rID C f x y H Q=iD x y fun i j=>C i j/\Q (f i j) H:=rfl
theorem Wz     : rI0D f x y H Q=iD x y fun i j=>Q (f i j) H:=rfl
def WA   : rID C g=rI C g:=by
 funext x y H Q;exact U0
def U1  : rI0D g=rI0 g:=by
 funext x y H Q;exact U0
def opD     (h:OpR X f (rI C g)):OpR X f (rID C g):=by rw[WA];exact h
def opD0    (h:OpR X f (rI0 g)):OpR X f (rI0D g):=by rw[U1];exact h
noncomputable def bD:V->(Bool->Prop)->Prop
 |.bl c,q=>q c
 |x,q=>∃c,x=.bl c/\q c
theorem WB   : bD (.bl c) q=q c:=rfl
def WD   : bD x q=∃c,x=.bl c/\q c:=by
 cases x<;>first|rfl|(simp[bD])
noncomputable def tBD (t:TE):TT:=fun σ H Q=>t σ H fun x H1=>bD x fun c=>Q c H1
theorem r_BD     : tBD te σ H R=te σ H fun x H1=>bD x fun c=>R c H1:=rfl
def TL  : tBD t=tB t:=by
 funext σ H Q
 show t σ H _=t σ H _
 congr 1
 funext x H1;exact WD
def U2  : tBD t=RI t:=TL
def ptB    (h:PT X e (tB t)):PT X e (tBD t):=by rw[TL];exact h
def ptT    (h:PT X e (RI t)):PT X e (tBD t):=by rw[U2];exact h
noncomputable def eD:V->V->Prop->Prop
 |.int _,.int _,q=>q
 |.str _,.str _,q=>q
 |.non,.non,q=>q
 |.bl _,.bl _,q=>q
 |x,y,q=>scal x y=true/\q
theorem TM   : eD (.int i) (.int j) q=q:=rfl
theorem TN   : eD (.str i) (.str j) q=q:=rfl
theorem TQ  : eD .non .non q=q:=rfl
theorem WE   : eD (.bl i) (.bl j) q=q:=rfl
def U3   : eD x y q=(scal x y=true/\q):=by
 cases x<;>cases y<;>first|rfl|(simp[eD,scal])
noncomputable def rEqF:R2:=fun x y H Q=>eD x y (Q (.bl (decide (x=y))) H)
noncomputable def rNeF:R2:=fun x y H Q=>eD x y (Q (.bl (!decide (x=y))) H)
theorem WG    : rEqF x y H Q=eD x y (Q (.bl (decide (x=y))) H):=rfl
theorem WH    : rNeF x y H Q=eD x y (Q (.bl (!decide (x=y))) H):=rfl
def U4:rEqF=rEq:=by funext x y H Q;exact U3
def U5:rNeF=rNe:=by funext x y H Q;exact U3
def opE   (h:OpR X f rEq):OpR X f rEqF:=by rw[U4];exact h
def opN   (h:OpR X f rNe):OpR X f rNeF:=by rw[U5];exact h
noncomputable def aD:V->(Addr->Prop)->Prop
 |.ref a,q=>q a
 |x,q=>∃a,x=.ref a/\q a
theorem TR   : aD (.ref a) q=q a:=rfl
def Si   : aD x q=∃a,x=.ref a/\q a:=by
 cases x<;>first|rfl|(simp[aD])
noncomputable def nD:V->(Int->Prop)->Prop
 |.int a,q=>q a
 |x,q=>∃a,x=.int a/\q a
theorem TU   : nD (.int a) q=q a:=rfl
def QY   : nD x q=∃a,x=.int a/\q a:=by
 cases x<;>first|rfl|(simp[nD])
noncomputable def U6 (K:α3):R2:=fun x y H Q=>aD x fun p=>∃xs,nD y fun i=>SqT K H p xs/\∃v,atI xs i=some v/\Q v H
noncomputable def Sj (K:α3):R2:=fun x y H Q=>aD x fun p=>∃xs,nD y fun i=>SqL K H p xs/\∃v,atI xs i=some v/\Q v H
theorem TV {K:α3}    : U6 K x y H Q=aD x fun p=>∃xs,nD y fun i=>SqT K H p xs/\∃v,atI xs i=some v/\Q v H:=rfl
theorem TX {K:α3}    : Sj K x y H Q=aD x fun p=>∃xs,nD y fun i=>SqL K H p xs/\∃v,atI xs i=some v/\Q v H:=rfl
def Sk {K:α3}:U6 K=rIxT K:=by
 funext x y H Q
 show aD x _=∃p xs i v,_
 rw[Si]
 refine propext ⟨fun ⟨p,e,h⟩=>?_,fun ⟨p,xs,i,v,e1,e2,e3,e4,e5⟩=>⟨p,e1,?_⟩⟩
 ·obtain⟨xs,h⟩:=h
  rw[QY]at h
  obtain⟨i,e2,e3,v,e4,e5⟩:=h
  exact⟨p,xs,i,v,e,e2,e3,e4,e5⟩
 ·refine⟨xs,?_⟩
  rw[QY]
  exact⟨i,e2,e3,v,e4,e5⟩
def Sl {K:α3}:Sj K=rIxL K:=by
 funext x y H Q
 show aD x _=∃p xs i v,_
 rw[Si]
 refine propext ⟨fun ⟨p,e,h⟩=>?_,fun ⟨p,xs,i,v,e1,e2,e3,e4,e5⟩=>⟨p,e1,?_⟩⟩
 ·obtain⟨xs,h⟩:=h
  rw[QY]at h
  obtain⟨i,e2,e3,v,e4,e5⟩:=h
  exact⟨p,xs,i,v,e,e2,e3,e4,e5⟩
 ·refine⟨xs,?_⟩
  rw[QY]
  exact⟨i,e2,e3,v,e4,e5⟩
def ixTD  {K:α3}(h:IxR X (rIxT K)):IxR X (U6 K):=by rw[Sk];exact h
def ixLD  {K:α3}(h:IxR X (rIxL K)):IxR X (Sj K):=by rw[Sl];exact h
noncomputable def lD1:List V->(V->Prop)->Prop
 |[x],q=>q x
 |xs,q=>∃x,xs=[x]/\q x
theorem QZ   : lD1 [x] q=q x:=rfl
def WI   : lD1 xs q=∃x,xs=[x]/\q x:=by
 match xs with
 |[]=>rfl
 |[x]=>simp[lD1]
 |x::y::r=>rfl
noncomputable def U7 (K:α3):List V->Hp->VK->Prop:=fun xs H Q=>lD1 xs fun x=>aD x fun p=>∃ys,(SqL K H p ys\/SqT K H p ys)/\Q (.int ys.length) H
theorem TY {K:α3}    : U7 K xs H Q=lD1 xs fun x=>aD x fun p=>∃ys,(SqL K H p ys\/SqT K H p ys)/\Q (.int ys.length) H:=rfl
def lenD  {K:α3}  (h:Cg X f (fun xs H Q=>∃p ys,xs=[.ref p]/\(SqL K H p ys\/SqT K H p ys)/\Q (.int ys.length) H)):Cg X f (U7 K):=by
 have e:U7 K=fun xs H Q=>∃p ys,xs=[.ref p]/\(SqL K H p ys\/SqT K H p ys)/\Q (.int ys.length) H:=by
  funext xs H Q
  show lD1 xs _=_
  rw[WI]
  refine propext ⟨fun ⟨x,e,h⟩=>?_,fun ⟨p,ys,e,h1,h2⟩=>⟨_,e,ys,h1,h2⟩⟩
  rw[Si]at h
  obtain⟨p,rfl,ys,h1,h2⟩:=h
  exact⟨p,ys,e,h1,h2⟩
 rw[e];exact h
def Ak       (hN:X.N.Nodup)(he:PE X e te)(hi:X.N[i]?=some x:=by rfl)(hx:Loc X.env.scope x:=by exact Or.inl rfl)(hs:swapsWith e (some (.Name x b8)) pos.line X.env=pure false:=by rfl)(hf:X.fn x=true\/X.env.scope.names.lookup x=some .local:=by first|exact .inl rfl|exact .inr rfl|assumption):PS X (.Assign [.Name x b8] e pos) (tAsg te (Gb i)):=Bl hN hi hx he hs hf
def Ag      (hr:IxR X r)(ha:PE X a ta)(hb:PE X b tb)(hs:Pp b:=by exact fun _ _=>rfl):PE X (.Subscript a b pos) (tOp r ta tb):=VN hr ha hb hs
end L2
namespace PySem
open Sem (wp)
structure VKind (prog:Program)(w:World)(K:Type)[DecidableEq K] where
 is:Heap->K->Value->Prop
 hash:K->Int
 draws:K->Nat
 room:Around->Prop
 inj:∀{h:Heap} {a:Value} {x y:K},is h x a->is h y a->x=y
 keeps:∀{h h':Heap} {k:K} {a:Value} {d:Addr} {o:Obj} {es ep},is h k a->h.get? d=some o->o.data=.dict es ep->Heap.SameBut d h h'->is h' k a
 pyHash:∀{A:Around} {E:Value->Shared->Prop} {s:Shared} {k:K} {a:Addr} {Q:Int->Shared->Prop},room A->is s.heap k (.ref a)->Q (hash k) {s with toks:=s.toks+draws k}->wpAny (model prog w) A (PySem.pyHash (.ref a)) Q E s
 eqBool:∀{A:Around} {E:Value->Shared->Prop} {s:Shared} {x y:K} {u:Value} {b:Addr} {Q:Bool->Shared->Prop},room A->is s.heap x u->is s.heap y (.ref b)->Q (decide (x=y)) s->wpAny (model prog w) A (PySem.eqBool u (.ref b)) Q E s
 quiet:∀{A:Around} {E:Value->Shared->Prop} {s:Shared} {k:K} {a:Value} {Q:Bool->Shared->Prop},room A->is s.heap k a->Q true s->wpAny (model prog w) A (eqIsQuiet 8 a) Q E s
noncomputable abbrev NI:=Int ⊕ α2
noncomputable abbrev NK:=Option (List NI)
end PySem
namespace L2
open PySem PySem.W PySem.Spec PySem.Calls PyProof.Rows
noncomputable def TSq (K:α3)(H H':Hp):Prop:=∀b ys,SqT K H b ys->SqT K H' b ys
def TSq.un {K:α3}    (h1:∀xs,H p≠some (.tup xs))(h2:∀ob xs,H p≠some (.frz ob (.tup xs))):TSq K H (upd H p o):=fun b ys e=>by
 rcases e with (e|⟨ob,e⟩)|e
 ·exact .inl (.inl (by rw[Aj (fun z=>by rw[z]at e;exact h1 _ e)];exact e))
 ·exact .inl (.inr ⟨ob,by rw[Aj (fun z=>by rw[z]at e;exact h2 _ _ e)];exact e⟩)
 ·exact .inr e
end L2
namespace aK
open PySem PyProof.Rows
noncomputable def KE (κ:KeyKind)(x:Keyed):κ.α:=(κ.keyOf x.1).getD κ.dflt
def Sm     (h:xs[i]?=some x):KK κ xs i=KE κ x:=by unfold KK KE;rw[h]
structure SB (kd:SortKind)(a₀:Array Keyed)(st:SortSt):Prop where
 perm:(arrOf st).Perm a₀
 kind:kindOf st=kd
 failed:failedOf st=none
def SB.size   {st:SortSt}(h:SB kd a₀ st):(arrOf st).size=a₀.size:=h.perm.size_eq
def SB.setArr   {st:SortSt}(h:SB kd a₀ st)  (hp:xs.Perm (arrOf st)):SB kd a₀ (PyProof.Rows.setArr st xs):=⟨hp.trans h.perm,h.kind,h.failed⟩
def SB.mem   {st:SortSt}(h:SB kd a₀ st)  (hx:x∈(arrOf st).toList):x∈a₀.toList:=(xZ_.mp h.perm).mem_iff.mp hx
def SB.get   {st:SortSt}(h:SB kd a₀ st)  (hi:i<a₀.size):∃x,(arrOf st)[i]?=some x/\x∈a₀.toList:=by
 have hi':i<(arrOf st).size:=by rw[h.size];exact hi
 exact⟨(arrOf st)[i],getElem?_pos _ i hi',h.mem (by simp)⟩
noncomputable def LtOk (kd:SortKind)(κ:KeyKind)(a₀:Array Keyed)(prog:Program)(w:World)(A:Around)(E:Value->Shared->Prop)(s:Shared):Prop:=
 ∀(x y:Keyed) (st:SortSt) (Q:Option Bool->SortSt->Prop),x∈a₀.toList->y∈a₀.toList->kindOf st=kd->Q (some (κ.blt (KE κ x) (KE κ y))) st->wpS (model prog w) A E s (lt' x y) Q st
noncomputable def SO (κ:KeyKind)(xs:Array Keyed)(lo hi:Nat):Prop:=∀i j,lo<=i->i<=j->j<hi->κ.kle (KK κ xs i) (KK κ xs j)
noncomputable def NI (κ:KeyKind)(xs:Array Keyed)(lo hi:Nat):Prop:=∀i j,lo<=i->i<=j->j<hi->κ.kle (KK κ xs j) (KK κ xs i)
noncomputable def Out (lo hi:Nat)(xs ys:Array Keyed):Prop:=∀i,i<lo\/hi<=i->ys[i]?=xs[i]?
def Out.refl (lo hi:Nat)(xs:Array Keyed):Out lo hi xs xs:=fun _ _=>rfl
def Out.trans {lo hi:Nat}  (h:Out lo hi xs ys)(g:Out lo hi ys zs):Out lo hi xs zs:=fun i hi=>(g i hi).trans (h i hi)
def Jw  {lo hi i j:Nat}(hj:j<=xs.size)(h1:lo<=i)(h2:j<=hi):Out lo hi xs (mirror xs i j ((j-i) / 2)):=fun k hk=>by
 rw[getElem?_mirror_all hj,if_neg s!""]
def OD  {lo hi l9 d:Nat}(hs:l9<xs.size)(hd:d<=l9)(h1:lo<=l9-d)(h2:l9<hi):Out lo hi xs (bubble xs l9 d):=fun k hk=>by
 rw[getElem?_bubble hs d hd,if_neg s!"",if_neg s!""]
section
variable {prog:Program} {w:World} {A:Around} {E:Value->Shared->Prop} {s:Shared} {a₀:Array Keyed} {κ:KeyKind} {kd:SortKind}
def Il {st:SortSt}   (hO:LtOk kd κ a₀ prog w A E s)(hB:SB kd a₀ st)(hi:i<a₀.size)(hj:j<a₀.size)(h:Q (some (κ.blt (KK κ (arrOf st) i) (KK κ (arrOf st) j))) st):wpS (model prog w) A E s (ltAt' i j) Q st:=by
 obtain⟨x,e1,hx⟩:=hB.get hi
 obtain⟨y,e2,hy⟩:=hB.get hj
 rw[Sm e1,Sm e2]at h
 rw[ltAt'_eq]
 refine jz_ (wpS_get ?_)
 show wpS _ _ _ _ (do let x <- elem' (arrOf st) i;let y <- elem' (arrOf st) j;lt' x y) Q st
 rw[elem'_eq,elem'_eq,e1,e2]
 exact jz_ (jK_ (jz_ (jK_ (hO x y st Q hx hy hB.kind h))))
noncomputable def ascL (lo a ao:Nat):StateT SortSt Sem AscSt:=
 forIn [a:ao] ((none,a):AscSt) fun _ iR=>do
  let __x <- ltAt' (lo+iR.snd) (lo+iR.snd-1)
  match __x with
  |some cF=>if cF=true then pure (ForInStep.done (none,iR.snd)) else pure (ForInStep.yield (none,iR.snd+1))
  |_=>pure (ForInStep.done (some none,iR.snd))
def SO.snoc  {lo x:Nat}(h:SO κ xs lo (lo+x))(o:1<=x)(q:κ.blt (KK κ xs (lo+x)) (KK κ xs (lo+x-1))=false):SO κ xs lo (lo+(x+1)):=fun i j a b c=>by
 rcases qF_ j (lo+x) with y|y
 ·exact h i j a b y
 obtain rfl:j=lo+x:=by lia
 rcases Nat.eq_or_lt_of_le b with rfl|z
 ·exact qH_ _
 ·exact xe_ (h i (lo+x-1) a s!"" s!"") q
def TZ {st:SortSt}{lo a ao:Nat}  (hO:LtOk kd κ a₀ prog w A E s)(hn:lo+ao<=a₀.size)(ha:1<=a)(han:a<=ao)(hB:SB kd a₀ st)(hs:SO κ (arrOf st) lo (lo+a))
  (h:∀n,a<=n->n<=ao->SO κ (arrOf st) lo (lo+n)->(n=ao\/κ.klt (KK κ (arrOf st) (lo+n)) (KK κ (arrOf st) (lo+n-1)))->Q (none,n) st):
  wpS (model prog w) A E s (ascL lo a ao) Q st:=by
 unfold ascL
 refine qI_ (fun x c t=>t=st/\c=(none,x)/\x<=ao/\SO κ (arrOf st) lo (lo+x)) (fun x c t y z i=>?_) (fun c t i=>?_) ⟨rfl,rfl,han,hs⟩
 ·obtain⟨rfl,rfl,_,so⟩:=i
  refine jz_ (Il hO hB (by show lo+x<_;lia) (by show lo+x-1<_;lia) ?_)
  dsimp only
  generalize e:κ.blt _ _=b
  cases b
  ·exact jK_ ⟨rfl,rfl,z,so.snoc s!"" e⟩
  ·exact jK_ (h x y (q1_ z) so (.inr e))
 ·obtain⟨rfl,rfl,o,so⟩:=i
  exact h _ s!"" o so (.inl s!"")
noncomputable def Lv (lo n ao:Nat):StateT SortSt Sem (Option Nat):=do
 reverseSlice' lo (lo+n)
 let iR <- ascL lo n ao
 match iR.fst with
 |some r=>pure r
 |none=>pure (some iR.snd)
def EU {st:SortSt}   (h:Q () (setArr st (mirror (arrOf st) i j ((j-i) / 2)))):wpS (model prog w) A E s (reverseSlice' i j) Q st:=by
 rw[reverseSlice'_eq];exact zF_ h
def U8 {st:SortSt}{lo n ao:Nat}  (hO:LtOk kd κ a₀ prog w A E s)(hn:lo+ao<=a₀.size)(h1:1<=n)(fm:n<=ao)(hB:SB kd a₀ st)(hs:NI κ (arrOf st) lo (lo+n))
  (h:∀m ah,SB kd a₀ ah->pendingOf ah=pendingOf st->Out lo (lo+ao) (arrOf st) (arrOf ah)->1<=m->m<=ao->SO κ (arrOf ah) lo (lo+m)->Q (some m) ah):
  wpS (model prog w) A E s (Lv lo n ao) Q st:=by
 unfold Lv
 have hsz:lo+n<=(arrOf st).size:=by rw[hB.size];lia
 refine jz_ (EU ?_)
 have gW:SB kd a₀ (setArr st (mirror (arrOf st) lo (lo+n) ((lo+n-lo) / 2))):=hB.setArr (mirror_perm _ _ _ _)
 refine jz_ (TZ hO hn h1 fm gW ?_ fun m iS gA hsm _=>jK_ (h m _ gW rfl (Jw hsz (jg_ _) s!"") s!"" gA hsm))
 intro i j hl aW hj
 show κ.kle (KK κ (mirror (arrOf st) lo (lo+n) ((lo+n-lo) / 2)) i) (KK κ (mirror (arrOf st) lo (lo+n) ((lo+n-lo) / 2)) j)
 rw[KK_mirror hsz,KK_mirror hsz,if_pos s!"",if_pos s!""]
 exact hs _ _ s!"" s!"" s!""
end
end aK
namespace aK
open PySem PyProof.Rows
noncomputable def B4:Bool->Keyed->Array Keyed->Nat->Nat->Nat->StateT SortSt Sem (Option Nat):=sortPriv% PySem.Builtin.gallop
noncomputable def Jx (left:Bool)(key:Keyed)(arr:Array Keyed)(base i:Nat):StateT SortSt Sem (Option Bool):=do
 let x <- elem' arr (base+i)
 if left then lt' x key else return ( <- lt' key x).map (!·)
noncomputable def Sn (left:Bool)(key:Keyed)(arr:Array Keyed)(base n lo hi:Nat):StateT SortSt Sem (Option Nat):=do
 let mut lo:=lo
 let mut hi:=hi
 for _ in [0:n] do
  if lo >= hi then break
  let m:=lo+(hi-lo) / 2
  let some more <- Jx left key arr base m|return none
  if more then lo:=m+1 else hi:=m
 return some hi
def OE (left:Bool)(key:Keyed)(arr:Array Keyed)(base n hint:Nat):B4 left key arr base n hint=(do
 let some right <- Jx left key arr base hint|return none
 if right then
  let mut lastofs:=0
  let mut ofs:=1
  for _ in [0:n] do
   if ofs >= n-hint then break
   let some more <- Jx left key arr base (hint+ofs)|return none
   if !more then break
   lastofs:=ofs
   ofs:=2*ofs+1
  Sn left key arr base n (hint+lastofs+1) (hint+min ofs (n-hint))
 else
  let mut lastofs:=0
  let mut ofs:=1
  for _ in [0:n] do
   if ofs >= hint+1 then break
   let some found <- Jx left key arr base (hint-ofs)|return none
   if found then break
   lastofs:=ofs
   ofs:=2*ofs+1
  Sn left key arr base n (hint+1-min ofs (hint+1)) (hint-lastofs)):=rfl
section
variable {prog:Program} {w:World} {A:Around} {E:Value->Shared->Prop} {s:Shared} {a₀:Array Keyed} {κ:KeyKind} {kd:SortKind}
noncomputable def gB (κ:KeyKind)(left:Bool)(key:Keyed)(arr:Array Keyed)(base i:Nat):Bool:=if left then κ.blt (KK κ arr (base+i)) (KE κ key) else !κ.blt (KE κ key) (KK κ arr (base+i))
noncomputable def InA (a₀ arr:Array Keyed)(base n:Nat):Prop:=∀i,i<n->∃x,arr[base+i]?=some x/\x∈a₀.toList
def FL     {st:SortSt}  (hO:LtOk kd κ a₀ prog w A E s)(hk:kindOf st=kd)(bx:key∈a₀.toList)(hA:InA a₀ arr base n)(hi:i<n)(h:Q (some (gB κ left key arr base i)) st):
  wpS (model prog w) A E s (Jx left key arr base i) Q st:=by
 obtain⟨x,e,hx⟩:=hA i hi
 unfold Jx
 rw[elem'_eq,e]
 refine jz_ (jK_ ?_)
 unfold gB at h
 rw[Sm e]at h
 cases left with
 |true=>exact hO x key st Q hx bx hk h
 |false=>
  refine jz_ (hO key x st _ bx hx hk ?_)
  exact jK_ h
def Lw     {st:SortSt}  (hO:LtOk kd κ a₀ prog w A E s)(hk:kindOf st=kd)(bx:key∈a₀.toList)(hA:InA a₀ arr base n)(hh:hint<n)
  (dU:∀i j,i<=j->j<n->gB κ left key arr base j=true->gB κ left key arr base i=true)
  (h:∀k,k<=n->(∀i,i<k->gB κ left key arr base i=true)->(∀i,k<=i->i<n->gB κ left key arr base i=false)->Q (some k) st):
  wpS (model prog w) A E s (B4 left key arr base n hint) Q st:=by
 have fR:∀i j,i<=j->j<n->gB κ left key arr base i=false->gB κ left key arr base j=false:=fun i j aW hj hf=>by
  cases e:gB κ left key arr base j with
  |false=>rfl
  |true=>rw[dU i j aW hj e]at hf;cases hf
 have hlast:∀lo hi:Nat,lo<=hi->hi<=n->(∀i,i<lo->gB κ left key arr base i=true)->(∀i,hi<=i->i<n->gB κ left key arr base i=false)->wpS (model prog w) A E s (Sn left key arr base n lo hi) Q st:=by
  intro lo hi hlh hhn oe hhi
  unfold Sn
  refine jz_ (xY_ (qI_ (I:=fun x c ah=>ah=st/\∃lo hi,c=(none,lo,hi)/\lo<=hi/\hi<=n/\hi-lo<=n-x/\(∀i,i<lo->gB κ left key arr base i=true)/\(∀i,hi<=i->i<n->gB κ left key arr base i=false))
   (Q:=fun c ah=>ah=st/\∃k,∃lo,c=(none,lo,k)/\k<=n/\(∀i,i<k->gB κ left key arr base i=true)/\(∀i,k<=i->i<n->gB κ left key arr base i=false)) ?step ?fin ⟨rfl,lo,hi,rfl,hlh,hhn,by lia,oe,hhi⟩) ?post)
  case fin=>
   rintro c ah ⟨rfl,lo,hi,rfl,h1,h2,h3,h4,h5⟩
   have:lo=hi:=by lia
   subst this
   exact⟨rfl,lo,lo,rfl,h2,h4,h5⟩
  case post=>
   rintro c ah ⟨rfl,k,lo,rfl,h1,h2,h3⟩
   exact jK_ (h k h1 h2 h3)
  case step=>
   rintro x c ah _ hx ⟨rfl,lo,hi,rfl,h1,h2,h3,h4,h5⟩
   dsimp only
   by_cases bo:lo >= hi
   ·rw[if_pos bo]
    have:lo=hi:=by lia
    subst this
    exact jK_ ⟨rfl,lo,lo,rfl,h2,h4,h5⟩
   ·rw[if_neg bo]
    refine jz_ (FL hO hk bx hA (n:=n) s!"" ?_)
    cases hg:gB κ left key arr base (lo+(hi-lo) / 2) with
    |true=>
     dsimp only
     rw[if_pos rfl]
     refine jK_ ⟨rfl,lo+(hi-lo) / 2+1,hi,rfl,by lia,h2,by lia,fun i hi'=>?_,h5⟩
     exact dU i (lo+(hi-lo) / 2) s!"" s!"" hg
    |false=>
     dsimp only
     rw[if_neg (by simp)]
     refine jK_ ⟨rfl,lo,lo+(hi-lo) / 2,rfl,by lia,by lia,by lia,h4,fun i hi' hn=>?_⟩
     exact fR (lo+(hi-lo) / 2) i hi' hn hg
 rw[OE]
 refine jz_ (FL hO hk bx hA hh ?_)
 cases hg:gB κ left key arr base hint with
 |true=>
  dsimp only
  rw[if_pos rfl]
  refine jz_ (xY_ (qI_ (I:=fun x c ah=>ah=st/\∃last ofs,c=(none,last,ofs)/\last<ofs/\x<ofs/\hint+last<n/\gB κ left key arr base (hint+last)=true)
   (Q:=fun c ah=>ah=st/\∃last ofs,c=(none,last,ofs)/\last<ofs/\hint+last<n/\gB κ left key arr base (hint+last)=true/\(n-hint<=ofs\/hint+ofs<n/\gB κ left key arr base (hint+ofs)=false)) ?step ?fin ⟨rfl,0,1,rfl,by lia,by lia,by lia,hg⟩) ?post)
  case fin=>
   rintro c ah ⟨rfl,last,ofs,rfl,h1,h2,h3,h4⟩
   exact⟨rfl,last,ofs,rfl,h1,h3,h4,.inl s!""⟩
  case step=>
   rintro x c ah _ hx ⟨rfl,last,ofs,rfl,h1,h2,h3,h4⟩
   dsimp only
   by_cases bo:ofs >= n-hint
   ·rw[if_pos bo]
    exact jK_ ⟨rfl,last,ofs,rfl,h1,h3,h4,.inl bo⟩
   ·rw[if_neg bo]
    refine jz_ (FL hO hk bx hA (n:=n) s!"" ?_)
    cases md:gB κ left key arr base (hint+ofs) with
    |true=>
     dsimp only
     rw[if_neg (by simp)]
     exact jK_ ⟨rfl,ofs,2*ofs+1,rfl,by lia,by lia,by lia,md⟩
    |false=>
     dsimp only
     rw[if_pos (by simp)]
     exact jK_ ⟨rfl,last,ofs,rfl,h1,h3,h4,.inr ⟨by lia,md⟩⟩
  case post=>
   rintro c ah ⟨rfl,last,ofs,rfl,h1,h3,h4,h5⟩
   dsimp only
   refine hlast (hint+last+1) (hint+min ofs (n-hint)) s!"" s!"" (fun i hi=>dU i (hint+last) s!"" h3 h4) (fun i hi hn=>?_)
   rcases h5 with h5|⟨h5,h6⟩
   ·lia
   ·exact fR (hint+ofs) i s!"" hn h6
 |false=>
  dsimp only
  rw[if_neg (by simp)]
  refine jz_ (xY_ (qI_ (I:=fun x c ah=>ah=st/\∃last ofs,c=(none,last,ofs)/\last<ofs/\x<ofs/\last<=hint/\gB κ left key arr base (hint-last)=false)
   (Q:=fun c ah=>ah=st/\∃last ofs,c=(none,last,ofs)/\last<ofs/\last<=hint/\gB κ left key arr base (hint-last)=false/\(hint+1<=ofs\/ofs<=hint/\gB κ left key arr base (hint-ofs)=true)) ?step ?fin ⟨rfl,0,1,rfl,by lia,by lia,by lia,hg⟩) ?post)
  case fin=>
   rintro c ah ⟨rfl,last,ofs,rfl,h1,h2,h3,h4⟩
   exact⟨rfl,last,ofs,rfl,h1,h3,h4,.inl s!""⟩
  case step=>
   rintro x c ah _ hx ⟨rfl,last,ofs,rfl,h1,h2,h3,h4⟩
   dsimp only
   by_cases bo:ofs >= hint+1
   ·rw[if_pos bo]
    exact jK_ ⟨rfl,last,ofs,rfl,h1,h3,h4,.inl bo⟩
   ·rw[if_neg bo]
    refine jz_ (FL hO hk bx hA (n:=n) s!"" ?_)
    cases md:gB κ left key arr base (hint-ofs) with
    |true=>
     dsimp only
     rw[if_pos rfl]
     exact jK_ ⟨rfl,last,ofs,rfl,h1,h3,h4,.inr ⟨by lia,md⟩⟩
    |false=>
     dsimp only
     rw[if_neg (by simp)]
     exact jK_ ⟨rfl,ofs,2*ofs+1,rfl,by lia,by lia,by lia,md⟩
  case post=>
   rintro c ah ⟨rfl,last,ofs,rfl,h1,h3,h4,h5⟩
   dsimp only
   refine hlast (hint+1-min ofs (hint+1)) (hint-last) s!"" s!"" (fun i hi=>?_) (fun i hi hn=>fR (hint-last) i s!"" hn h4)
   rcases h5 with h5|⟨h5,h6⟩
   ·lia
   ·exact dU i (hint-ofs) s!"" s!"" h6
end
end aK
namespace aK
open PySem PyProof.Rows
noncomputable abbrev Ej (st:SortSt)(g:Nat):SortSt:=SortSt.mk' (kindOf st) (arrOf st) (pendingOf st) g (failedOf st)
noncomputable def AS:Nat->StateT SortSt Sem Unit:=sortPriv% PySem.Builtin.setMinGallop
def G4 (g:Nat):AS g=modify fun s=>Ej s g:=rfl
noncomputable def Hu:Array Keyed->Array Keyed->StateT SortSt Sem (Array Keyed):=sortPriv% PySem.Builtin.mergeLo
noncomputable def DC (a b out:Array Keyed)(ia ib:Nat):Array Keyed:=out++a.extract ia a.size++b.extract ib b.size
noncomputable def Im (a b out:Array Keyed)(ia ib:Nat):Array Keyed:=out++b.extract ib b.size++a.extract ia a.size
def MA (a b:Array Keyed):Hu a b=(do
 rule "list.sort.merge-lo"
 let mut out:Array Keyed := #[<-elem' b 0]
 let mut ia:=0
 let mut ib:=1
 if ib==b.size then return DC a b out ia ib
 if ia+1==a.size then return Im a b out ia ib
 let mut minGallop:=gallopOf ( <- get)
 for _ in [0:a.size+b.size] do
  let mut acount:=0
  let mut bcount:=0
  for _ in [0:a.size+b.size] do
   let some fS <- lt' ( <- elem' b ib) ( <- elem' a ia)|return DC a b out ia ib
   if fS then
    out:=out.push ( <- elem' b ib);ib:=ib+1;bcount:=bcount+1;acount:=0
    if ib==b.size then return DC a b out ia ib
    if bcount >= minGallop then break
   else
    out:=out.push ( <- elem' a ia);ia:=ia+1;acount:=acount+1;bcount:=0
    if ia+1==a.size then return Im a b out ia ib
    if acount >= minGallop then break
  rule "list.sort.gallop"
  minGallop:=minGallop+1
  for _ in [0:a.size+b.size] do
   if minGallop > 1 then minGallop:=minGallop-1
   AS minGallop
   let some k <- B4 false ( <- elem' b ib) a ia (a.size-ia) 0|return DC a b out ia ib
   acount:=k
   if k > 0 then
    out:=out++a.extract ia (ia+k);ia:=ia+k
    if ia+1==a.size then return Im a b out ia ib
    if ia==a.size then return DC a b out ia ib
   out:=out.push ( <- elem' b ib);ib:=ib+1
   if ib==b.size then return DC a b out ia ib
   let some k <- B4 true ( <- elem' a ia) b ib (b.size-ib) 0|return DC a b out ia ib
   bcount:=k
   if k > 0 then
    out:=out++b.extract ib (ib+k);ib:=ib+k
    if ib==b.size then return DC a b out ia ib
   out:=out.push ( <- elem' a ia);ia:=ia+1
   if ia+1==a.size then return Im a b out ia ib
   if acount<7&&bcount<7 then break
  minGallop:=minGallop+1
  AS minGallop
 unsupported "internal:list.sort.merge-bound"):=rfl
section
variable {α:Type} {R:α->α->Prop} {A B out:List α} {ia ib:Nat}
structure MI (R:α->α->Prop)(A B out:List α)(ia ib:Nat):Prop where
 ha:ia<=A.length
 hb:ib<=B.length
 pm:out.Perm (A.take ia++B.take ib)
 so:out.Pairwise R
 le:∀x∈out,∀y∈A.drop ia++B.drop ib,R x y
def MI.swap (h:MI R A B out ia ib):MI R B A out ib ia:=⟨h.hb,h.ha,h.pm.trans List.perm_append_comm,h.so,fun x hx y hy=>h.le x hx y (by rcases jA_.mp hy with z|z;exact jx_ _ z;exact qa_ _ z)⟩
def OF (A:List α)(i k:Nat):A.drop i=(A.drop i).take k++A.drop (i+k):=by
 rw[<-List.drop_drop,xa_]
def MI.ta (h:MI R A B out ia ib)(sA:A.Pairwise R)  (hk:ia+k<=A.length)(hx:∀x∈(A.drop ia).take k,∀y∈B.drop ib,R x y):MI R A B (out++(A.drop ia).take k) (ia+k) ib:=by
 have ee:=OF A ia k
 have oI:(A.drop ia).Pairwise R:=List.Pairwise.sublist (List.drop_sublist _ _) sA
 refine⟨hk,h.hb,?_,?_,fun x kQ y hy=>?_⟩
 ·have e:A.take (ia+k)=A.take ia++(A.drop ia).take k:=List.take_add
  rw[e,qb_]
  refine (List.Perm.append_right _ h.pm).trans ?_
  rw[qb_]
  exact List.Perm.append_left _ List.perm_append_comm
 ·refine q0_.mpr ⟨h.so,List.Pairwise.sublist (List.take_sublist _ _) oI,fun x bT y je=>h.le x bT y (qa_ _ (xh_ je))⟩
 ·rcases jA_.mp kQ with kQ|kQ
  ·refine h.le x kQ y ?_
   rcases jA_.mp hy with hy|hy
   ·exact qa_ _ (by rw[ee];exact jx_ _ hy)
   ·exact jx_ _ hy
  ·rcases jA_.mp hy with hy|hy
   ·rw[ee]at oI
    exact (q0_.mp oI).2.2 x kQ y hy
   ·exact hx x kQ y hy
def MI.tb (h:MI R A B out ia ib)(sB:B.Pairwise R)  (hk:ib+k<=B.length)(hx:∀x∈(B.drop ib).take k,∀y∈A.drop ia,R x y):MI R A B (out++(B.drop ib).take k) ia (ib+k):=(h.swap.ta sB hk hx).swap
def MI.start (A B:List α):MI R A B [] 0 0:=⟨jX_ _,jX_ _,by simp,List.Pairwise.nil,fun x hx=>by cases hx⟩
noncomputable def Mgd (R:α->α->Prop)(A B r:List α):Prop:=r.Perm (A++B)/\r.Pairwise R
def MI.done (h:MI R A B out ia ib)(sA:A.Pairwise R)(sB:B.Pairwise R)(he:A.length<=ia\/B.length<=ib):Mgd R A B (out++A.drop ia++B.drop ib):=by
 rcases he with he|he
 ·have:=(h.tb sB (k:=B.length-ib) (by have:=h.hb;lia) (fun x _ y hy=>by rw[qA_ he]at hy;cases hy))
  have e:(B.drop ib).take (B.length-ib)=B.drop ib:=jP_ (by rw[xc_];exact jg_ _)
  rw[e]at this
  rw[qA_ he,qg_]
  refine⟨?_,this.so⟩
  have p:=this.pm
  rw[jP_ he,jP_ (by have:=h.hb;lia)]at p
  exact p
 ·have:=(h.ta sA (k:=A.length-ia) (by have:=h.ha;lia) (fun x _ y hy=>by rw[qA_ he]at hy;cases hy))
  have e:(A.drop ia).take (A.length-ia)=A.drop ia:=jP_ (by rw[xc_];exact jg_ _)
  rw[e]at this
  rw[qA_ he,qg_]
  refine⟨?_,this.so⟩
  have p:=this.pm
  rw[jP_ he,jP_ (by have:=h.ha;lia)]at p
  exact p
def MI.last (h:MI R A B out ia ib)(sA:A.Pairwise R)(sB:B.Pairwise R)(hl:∀x∈B,∀y∈A.drop ia,R x y):Mgd R A B (out++B.drop ib++A.drop ia):=by
 have h1:=h.tb sB (k:=B.length-ib) (by have:=h.hb;lia) (fun x hx y hy=>hl x (List.mem_of_mem_drop (xh_ hx)) y hy)
 have e:(B.drop ib).take (B.length-ib)=B.drop ib:=jP_ (by rw[xc_];exact jg_ _)
 rw[e]at h1
 have h2:=h1.done sA sB (.inr (by have:=h.hb;lia))
 rw[qA_ (show B.length<=ib+(B.length-ib) by have:=h.hb;lia),qg_]at h2
 exact h2
end
end aK
namespace aK
open PySem PyProof.Rows
noncomputable def LeK (κ:KeyKind)(x y:Keyed):Prop:=κ.kle (KE κ x) (KE κ y)
structure SG (st ah:SortSt):Prop where
 kd:kindOf ah=kindOf st
 arr:arrOf ah=arrOf st
 pe:pendingOf ah=pendingOf st
 fa:failedOf ah=failedOf st
def SG.refl (st:SortSt):SG st st:=⟨rfl,rfl,rfl,rfl⟩
def SG.set {st ah:SortSt}(h:SG st ah)(g:Nat):SG st (Ej ah g):=⟨h.kd,h.arr,h.pe,h.fa⟩
noncomputable abbrev G5:=Option (Array Keyed)×Array Keyed×Nat×Nat×Nat
noncomputable abbrev G6:=Option (Array Keyed)×Array Keyed×Nat×Nat×Nat×Nat
noncomputable abbrev G7:=Option (Array Keyed)×Array Keyed×Nat×Nat×Nat×Nat×Nat
noncomputable def PC (a b out:Array Keyed)(ia ib mg ac bc:Nat):StateT SortSt Sem (ForInStep G7):=do
 let y <- elem' a ia
 if (ia+1+1==a.size)=true then pure (.done (some (Im a b (out.push y) (ia+1) ib),out.push y,ia+1,ib,mg,ac,bc))
 else if (decide (ac<7)&&decide (bc<7))=true then pure (.done (none,out.push y,ia+1,ib,mg,ac,bc)) else pure (.yield (none,out.push y,ia+1,ib,mg,ac,bc))
noncomputable def PB (a b out:Array Keyed)(ia ib mg ac bc:Nat):StateT SortSt Sem (ForInStep G7):=do
 let y <- elem' b ib
 if (ib+1==b.size)=true then pure (.done (some (DC a b (out.push y) ia (ib+1)),out.push y,ia,ib+1,mg,ac,bc))
 else do
  let z <- elem' a ia
  let x <- B4 true z b (ib+1) (b.size-(ib+1)) 0
  match x with
  |some k=>if k > 0 then (if (ib+1+k==b.size)=true then pure (.done (some (DC a b (out.push y++b.extract (ib+1) (ib+1+k)) ia (ib+1+k)),out.push y++b.extract (ib+1) (ib+1+k),ia,ib+1+k,mg,ac,k)) else PC a b (out.push y++b.extract (ib+1) (ib+1+k)) ia (ib+1+k) mg ac k) else PC a b (out.push y) ia (ib+1) mg ac k
  |_=>pure (.done (some (DC a b (out.push y) ia (ib+1)),out.push y,ia,ib+1,mg,ac,bc))
noncomputable def PA (a b out:Array Keyed)(ia ib mg ac bc:Nat):StateT SortSt Sem (ForInStep G7):=do
 AS mg
 let y <- elem' b ib
 let x <- B4 false y a ia (a.size-ia) 0
 match x with
 |some k=>if k > 0 then (if (ia+k+1==a.size)=true then pure (.done (some (Im a b (out++a.extract ia (ia+k)) (ia+k) ib),out++a.extract ia (ia+k),ia+k,ib,mg,k,bc)) else if (ia+k==a.size)=true then pure (.done (some (DC a b (out++a.extract ia (ia+k)) (ia+k) ib),out++a.extract ia (ia+k),ia+k,ib,mg,k,bc)) else PB a b (out++a.extract ia (ia+k)) (ia+k) ib mg k bc) else PB a b out ia ib mg k bc
 |_=>pure (.done (some (DC a b out ia ib),out,ia,ib,mg,ac,bc))
noncomputable def P1 (a b:Array Keyed)(mg:Nat)(c:G6):StateT SortSt Sem (ForInStep G6):=do
 let y <- elem' b c.2.2.2.1
 let z <- elem' a c.2.2.1
 let x <- lt' y z
 match x with
 |some fS=>
  if fS=true then
   elem' b c.2.2.2.1 >>= fun y=>
   if (c.2.2.2.1+1==b.size)=true then pure (.done (some (DC a b (c.2.1.push y) c.2.2.1 (c.2.2.2.1+1)),c.2.1.push y,c.2.2.1,c.2.2.2.1+1,0,c.2.2.2.2.2+1))
   else if c.2.2.2.2.2+1 >= mg then pure (.done (none,c.2.1.push y,c.2.2.1,c.2.2.2.1+1,0,c.2.2.2.2.2+1)) else pure (.yield (none,c.2.1.push y,c.2.2.1,c.2.2.2.1+1,0,c.2.2.2.2.2+1))
  else
   elem' a c.2.2.1 >>= fun y=>
   if (c.2.2.1+1+1==a.size)=true then pure (.done (some (Im a b (c.2.1.push y) (c.2.2.1+1) c.2.2.2.1),c.2.1.push y,c.2.2.1+1,c.2.2.2.1,c.2.2.2.2.1+1,0))
   else if c.2.2.2.2.1+1 >= mg then pure (.done (none,c.2.1.push y,c.2.2.1+1,c.2.2.2.1,c.2.2.2.2.1+1,0)) else pure (.yield (none,c.2.1.push y,c.2.2.1+1,c.2.2.2.1,c.2.2.2.2.1+1,0))
 |_=>pure (.done (some (DC a b c.2.1 c.2.2.1 c.2.2.2.1),c.2.1,c.2.2.1,c.2.2.2.1,c.2.2.2.2.1,c.2.2.2.2.2))
noncomputable def P2 (a b:Array Keyed)(c:G7):StateT SortSt Sem (ForInStep G7):=if c.2.2.2.2.1 > 1 then PA a b c.2.1 c.2.2.1 c.2.2.2.1 (c.2.2.2.2.1-1) c.2.2.2.2.2.1 c.2.2.2.2.2.2 else PA a b c.2.1 c.2.2.1 c.2.2.2.1 c.2.2.2.2.1 c.2.2.2.2.2.1 c.2.2.2.2.2.2
noncomputable def PO (a b:Array Keyed)(c:G5):StateT SortSt Sem (ForInStep G5):=do
 let d <- forIn [0:a.size+b.size] ((none,c.2.1,c.2.2.1,c.2.2.2.1,0,0):G6) fun _ d=>P1 a b c.2.2.2.2 d
 match d.1 with
 |some r=>pure (.done (some r,d.2.1,d.2.2.1,d.2.2.2.1,c.2.2.2.2))
 |none=>do
  liftM (rule "list.sort.gallop")
  let e <- forIn [0:a.size+b.size] ((none,d.2.1,d.2.2.1,d.2.2.2.1,c.2.2.2.2+1,d.2.2.2.2.1,d.2.2.2.2.2):G7) fun _ e=>P2 a b e
  match e.1 with
  |some r=>pure (.done (some r,e.2.1,e.2.2.1,e.2.2.2.1,e.2.2.2.2.1))
  |none=>do
   AS (e.2.2.2.2.1+1)
   pure (.yield (none,e.2.1,e.2.2.1,e.2.2.2.1,e.2.2.2.2.1+1))
def Lx (a b:Array Keyed):Hu a b=(do
 liftM (rule "list.sort.merge-lo")
 let y <- elem' b 0
 if (1==b.size)=true then pure (DC a b #[y] 0 1)
 else if (0+1==a.size)=true then pure (Im a b #[y] 0 1)
 else do
  let g <- get
  let c <- forIn [0:a.size+b.size] ((none,#[y],0,1,gallopOf g):G5) fun _ c=>PO a b c
  match c.1 with
  |some r=>pure r
  |none=>unsupported "internal:list.sort.merge-bound"):=by
 rw[MA]
 refine jH_ (bind _) (funext fun _=>jH_ (bind _) (funext fun y=>?_))
 refine jH_ (ite _ _) (jH_ (ite _ _) (jH_ (bind _) (funext fun g=>?_)))
 refine congr (jH_ bind (jH_ (forIn _ _) (funext fun _=>funext fun c=>?_))) (funext fun c=>?_)
 ·unfold PO
  dsimp only
  refine congr (jH_ bind (jH_ (forIn _ _) (funext fun _=>funext fun d=>?_))) (funext fun d=>?_)
  ·unfold P1
   rfl
  ·cases d.1 with
   |some r=>rfl
   |none=>
    dsimp only
    refine jH_ (bind _) (funext fun _=>congr (jH_ bind (jH_ (forIn _ _) (funext fun _=>funext fun e=>?_))) (funext fun e=>?_))
    ·unfold P2 PA PB PC
     rfl
    ·cases e.1 with
     |some r=>rfl
     |none=>rfl
 ·cases c.1 with
  |some r=>rfl
  |none=>rfl
end aK
namespace aK
open PySem PyProof.Rows
section
variable {prog:Program} {w:World} {A:Around} {E:Value->Shared->Prop} {s:Shared} {a₀:Array Keyed} {κ:KeyKind} {kd:SortKind}
def Bo   {st:SortSt}  (hi:i<arr.size)(h:Q arr[i] st):wpS (model prog w) A E s (elem' arr i) Q st:=by
 rw[elem'_eq,getElem?_pos arr i hi]
 exact jK_ h
def Gq  {st:SortSt}  (h:Q () st):wpS (model prog w) A E s (rule n:StateT SortSt Sem Unit) Q st:=wpS_lift (wpAny_rule ⟨rfl,h⟩)
def EV (a:Array Keyed)(i j:Nat):(a.extract i j).toList=(a.toList.drop i).take (j-i):=by simp[List.extract_eq_take_drop]
def Kk (a:Array Keyed)(i:Nat):(a.extract i a.size).toList=a.toList.drop i:=by
 rw[EV];exact jP_ (by simp)
def OG (a b out:Array Keyed)(ia ib:Nat):(DC a b out ia ib).toList=out.toList++a.toList.drop ia++b.toList.drop ib:=by
 unfold DC;rw[Array.toList_append,Array.toList_append,Kk,Kk]
def OH (a b out:Array Keyed)(ia ib:Nat):(Im a b out ia ib).toList=out.toList++b.toList.drop ib++a.toList.drop ia:=by
 unfold Im;rw[Array.toList_append,Array.toList_append,Kk,Kk]
def LeK.refl (x:Keyed):LeK κ x x:=qH_ _
def LeK.trans  (h:LeK κ x y)(g:LeK κ y z):LeK κ x z:=xe_ h g
def Q0 {a:Array Keyed}(sA:a.toList.Pairwise (LeK κ)){i j:Nat}(aW:i<=j)(hj:j<a.size):LeK κ a[i] a[j]:=by
 by_cases e:i=j
 ·subst e;exact LeK.refl _
 ·exact xw_.mp sA i j (by simpa using s!"") (by simpa using hj) s!""
def CV {a:Array Keyed}{i:Nat}{y:Keyed}(h:y∈a.toList.drop i):∃j,∃hj:j<a.size,i<=j/\y=a[j]:=by
 obtain⟨k,hk,e⟩:=x0_.mp h
 rw[zY_]at e
 rw[xc_]at hk
 exact⟨i+k,by simpa using (by simp at hk;lia),by lia,by rw[<-e];simp⟩
def OI {a:Array Keyed}{i k:Nat}{y:Keyed}(h:y∈(a.toList.drop i).take k):∃j,∃hj:i+j<a.size,j<k/\y=a[i+j]:=by
 obtain⟨j,hj,e⟩:=x0_.mp h
 rw[List.getElem_take,zY_]at e
 rw[jw_,xc_]at hj
 exact⟨j,by simp at hj;lia,by lia,by rw[<-e];simp⟩
def Hv {a:Array Keyed}(sA:a.toList.Pairwise (LeK κ)){i:Nat}(hi:i<a.size):∀y∈a.toList.drop i,LeK κ a[i] y:=fun y hy=>by
 obtain⟨j,hj,aW,rfl⟩:=CV hy
 exact Q0 sA aW hj
def U9 {a:Array Keyed}{i:Nat}(hi:i<a.size):(a.toList.drop i).take 1=[a[i]]:=by
 rw[q8_ (by simpa using hi)];simp
section
variable {a b out:Array Keyed} {ia ib:Nat}
def MI.pushA (h:MI (LeK κ) a.toList b.toList out.toList ia ib)(sA:a.toList.Pairwise (LeK κ))(hi:ia<a.size)(hx:∀y∈b.toList.drop ib,LeK κ a[ia] y):MI (LeK κ) a.toList b.toList (out.push a[ia]).toList (ia+1) ib:=by
 have:=h.ta sA (k:=1) (by simp;lia) (by rw[U9 hi];intro x eA y hy;rw[jr_.mp eA];exact hx y hy)
 rw[U9 hi]at this
 rw[Array.toList_push];exact this
def MI.pushB (h:MI (LeK κ) a.toList b.toList out.toList ia ib)(sB:b.toList.Pairwise (LeK κ))(hi:ib<b.size)(hx:∀y∈a.toList.drop ia,LeK κ b[ib] y):MI (LeK κ) a.toList b.toList (out.push b[ib]).toList ia (ib+1):=(h.swap.pushA sB hi hx).swap
def MI.extA (h:MI (LeK κ) a.toList b.toList out.toList ia ib)(sA:a.toList.Pairwise (LeK κ))  (hk:ia+k<=a.size)(hx:∀j,j<k->∀(hj:ia+j<a.size),∀y∈b.toList.drop ib,LeK κ a[ia+j] y):MI (LeK κ) a.toList b.toList (out++a.extract ia (ia+k)).toList (ia+k) ib:=by
 have:=h.ta sA (k:=k) (by simpa using hk) (fun x eA y hy=>by
  obtain⟨j,hj,iO,rfl⟩:=OI eA
  exact hx j iO hj y hy)
 rw[qR_,EV,show ia+k-ia=k by lia];exact this
def MI.extB (h:MI (LeK κ) a.toList b.toList out.toList ia ib)(sB:b.toList.Pairwise (LeK κ))  (hk:ib+k<=b.size)(hx:∀j,j<k->∀(hj:ib+j<b.size),∀y∈a.toList.drop ia,LeK κ b[ib+j] y):MI (LeK κ) a.toList b.toList (out++b.extract ib (ib+k)).toList ia (ib+k):=(h.swap.extA sB hk hx).swap
end
def D7   (hi:i<xs.size):KK κ xs i=KE κ xs[i]:=Sm (getElem?_pos xs i hi)
def T1  (hA:∀x∈a.toList,x∈a₀.toList)  (h:i+n<=a.size):InA a₀ a i n:=fun j hj=>⟨a[i+j],getElem?_pos _ _ s!"",hA _ (by simp)⟩
def Kl    {st:SortSt}  (hO:LtOk kd κ a₀ prog w A E s)(hk:kindOf st=kd)(bx:key∈a₀.toList)(hA:∀x∈a.toList,x∈a₀.toList)(sA:∀i j (hi:i<a.size) (hj:j<a.size),base<=i->i<=j->j<base+n->LeK κ a[i] a[j])(hn:base+n<=a.size)(hh:hint<n)
  (h:∀k,k<=n->(∀i (hi:base+i<a.size),i<k->LeK κ a[base+i] key)->(∀i (hi:base+i<a.size),k<=i->i<n->κ.klt (KE κ key) (KE κ a[base+i]))->Q (some k) st):
  wpS (model prog w) A E s (B4 false key a base n hint) Q st:=by
 refine Lw hO hk bx (T1 hA hn) hh (fun i j aW hj hb=>?_) (fun k kR h1 h2=>h k kR (fun i hi jo=>?_) (fun i hi jo bB=>?_))
 ·simp only[gB,jY_,q3_,D7 (show base+i<a.size by lia),D7 (show base+j<a.size by lia),Bool.not_eq_true']at hb ⊢
  exact xe_ (sA _ _ s!"" s!"" s!"" s!"" s!"") hb
 ·have:=h1 i jo
  simp only[gB,jY_,q3_,D7 hi,Bool.not_eq_true']at this
  exact this
 ·have:=h2 i jo bB
  simp only[gB,jY_,q3_,D7 hi,Bool.not_eq_false']at this
  exact this
def Km    {st:SortSt}  (hO:LtOk kd κ a₀ prog w A E s)(hk:kindOf st=kd)(bx:key∈a₀.toList)(hA:∀x∈a.toList,x∈a₀.toList)(sA:∀i j (hi:i<a.size) (hj:j<a.size),base<=i->i<=j->j<base+n->LeK κ a[i] a[j])(hn:base+n<=a.size)(hh:hint<n)
  (h:∀k,k<=n->(∀i (hi:base+i<a.size),i<k->κ.klt (KE κ a[base+i]) (KE κ key))->(∀i (hi:base+i<a.size),k<=i->i<n->LeK κ key a[base+i])->Q (some k) st):
  wpS (model prog w) A E s (B4 true key a base n hint) Q st:=by
 refine Lw hO hk bx (T1 hA hn) hh (fun i j aW hj hb=>?_) (fun k kR h1 h2=>h k kR (fun i hi jo=>?_) (fun i hi jo bB=>?_))
 ·simp only[gB,xR_,D7 (show base+i<a.size by lia),D7 (show base+j<a.size by lia)]at hb ⊢
  exact KeyOrd.klt_of_kle_of_klt (sA _ _ s!"" s!"" s!"" s!"" s!"") hb
 ·have:=h1 i jo
  simp only[gB,xR_,D7 hi]at this
  exact this
 ·have:=h2 i jo bB
  simp only[gB,xR_,D7 hi]at this
  exact this
def Kn {a:Array Keyed}(sA:a.toList.Pairwise (LeK κ))(base n:Nat):∀i j (hi:i<a.size) (hj:j<a.size),base<=i->i<=j->j<base+n->LeK κ a[i] a[j]:=fun _ _ _ hj _ aW _=>Q0 sA aW hj
structure MP (a₀:Array Keyed)(κ:KeyKind)(a b:Array Keyed):Prop where
 hA:∀x∈a.toList,x∈a₀.toList
 hB:∀x∈b.toList,x∈a₀.toList
 sA:a.toList.Pairwise (LeK κ)
 sB:b.toList.Pairwise (LeK κ)
 ha:1<=a.size
 hb:1<=b.size
 hf:∀y∈a.toList,LeK κ b[0] y
 hl:∀x∈b.toList,LeK κ x a[a.size-1]
section
variable {a b:Array Keyed}
def MP.done (M:MP a₀ κ a b)   (h:MI (LeK κ) a.toList b.toList out.toList ia ib)(he:a.size<=ia\/b.size<=ib):Mgd (LeK κ) a.toList b.toList (DC a b out ia ib).toList:=by
 rw[OG];exact h.done M.sA M.sB (by simpa using he)
def MP.last (M:MP a₀ κ a b)   (h:MI (LeK κ) a.toList b.toList out.toList ia ib)(he:ia+1=a.size):Mgd (LeK κ) a.toList b.toList (Im a b out ia ib).toList:=by
 rw[OH]
 refine h.last M.sA M.sB (fun x hx y hy=>?_)
 obtain⟨j,hj,aW,rfl⟩:=CV hy
 have e:j=a.size-1:=by lia
 subst e
 exact M.hl x hx
noncomputable def MJ (κ:KeyKind)(a b:Array Keyed)(out:Array Keyed)(ia ib p:Nat):Prop:=MI (LeK κ) a.toList b.toList out.toList ia ib/\ia+1<a.size/\ib<b.size/\p<=ia+ib
def Xf (hO:LtOk kd κ a₀ prog w A E s)(M:MP a₀ κ a b){st:SortSt}(hk:kindOf st=kd)   (h1:c.1=none)(hJ:MJ κ a b c.2.1 c.2.2.1 c.2.2.2.1 p)
  (h:∀d:G6,d.1=none->MJ κ a b d.2.1 d.2.2.1 d.2.2.2.1 (p+1)->Q (.yield d) st/\Q (.done d) st) (hd:∀(d:G6) x,d.1=some x->Mgd (LeK κ) a.toList b.toList x.toList->Q (.done d) st):
  wpS (model prog w) A E s (P1 a b mg c) Q st:=by
 obtain⟨c0,out,ia,ib,ac,bc⟩:=c
 obtain⟨hM,h2,h3,h4⟩:=hJ
 dsimp only at *
 unfold P1
 dsimp only
 refine jz_ (Bo h3 (jz_ (Bo (show ia<a.size by lia) (jz_ (hO _ _ _ _ (M.hB _ (by simp)) (M.hA _ (by simp)) hk ?_)))))
 cases e:κ.blt (KE κ b[ib]) (KE κ a[ia]) with
 |true=>
  dsimp only
  rw[if_pos rfl]
  have bI:=hM.pushB M.sB h3 (fun y hy=>LeK.trans (qt_ e) (Hv M.sA s!"" y hy))
  refine jz_ (Bo h3 ?_)
  by_cases hq:ib+1=b.size
  ·rw[if_pos (by simpa using hq)]
   exact jK_ (hd _ _ rfl (M.done bI (.inr s!"")))
  ·rw[if_neg (by simpa using hq)]
   have hh:=h (none,out.push b[ib],ia,ib+1,0,bc+1) rfl (show MJ κ a b (out.push b[ib]) ia (ib+1) (p+1) from ⟨bI,h2,by lia,by lia⟩)
   split
   ·exact jK_ hh.2
   ·exact jK_ hh.1
 |false=>
  dsimp only
  rw[if_neg (by simp)]
  have bI:=hM.pushA M.sA (show ia<a.size by lia) (fun y hy=>LeK.trans e (Hv M.sB h3 y hy))
  refine jz_ (Bo (show ia<a.size by lia) ?_)
  by_cases hq:ia+1+1=a.size
  ·rw[if_pos (by simpa using hq)]
   exact jK_ (hd _ _ rfl (M.last bI hq))
  ·rw[if_neg (by simpa using hq)]
   have hh:=h (none,out.push a[ia],ia+1,ib,ac+1,0) rfl (show MJ κ a b (out.push a[ia]) (ia+1) ib (p+1) from ⟨bI,by lia,h3,by lia⟩)
   split
   ·exact jK_ hh.2
   ·exact jK_ hh.1
def WJ (M:MP a₀ κ a b){st:SortSt}   (hM:MI (LeK κ) a.toList b.toList out.toList ia ib)(h2:ia+1<a.size)(h3:ib<b.size)(h4:p<=ia+ib)(aQ:∀y∈b.toList.drop ib,LeK κ a[ia] y)
  (h:∀d:G7,d.1=none->MJ κ a b d.2.1 d.2.2.1 d.2.2.2.1 p->Q (.yield d) st/\Q (.done d) st) (hd:∀(d:G7) x,d.1=some x->Mgd (LeK κ) a.toList b.toList x.toList->Q (.done d) st):
  wpS (model prog w) A E s (PC a b out ia ib mg ac bc) Q st:=by
 unfold PC
 refine jz_ (Bo (show ia<a.size by lia) ?_)
 have bI:=hM.pushA M.sA (show ia<a.size by lia) aQ
 by_cases hq:ia+1+1=a.size
 ·rw[if_pos (by simpa using hq)]
  exact jK_ (hd _ _ rfl (M.last bI hq))
 ·rw[if_neg (by simpa using hq)]
  have hh:=h (none,out.push a[ia],ia+1,ib,mg,ac,bc) rfl (show MJ κ a b (out.push a[ia]) (ia+1) ib p from ⟨bI,by lia,h3,by lia⟩)
  split
  ·exact jK_ hh.2
  ·exact jK_ hh.1
def WK (hO:LtOk kd κ a₀ prog w A E s)(M:MP a₀ κ a b){st:SortSt}(hk:kindOf st=kd)   (hM:MI (LeK κ) a.toList b.toList out.toList ia ib)(h2:ia+1<a.size)(h3:ib<b.size)(h4:p<=ia+ib)(aQ:∀y∈a.toList.drop ia,LeK κ b[ib] y)
  (h:∀d:G7,d.1=none->MJ κ a b d.2.1 d.2.2.1 d.2.2.2.1 p->Q (.yield d) st/\Q (.done d) st) (hd:∀(d:G7) x,d.1=some x->Mgd (LeK κ) a.toList b.toList x.toList->Q (.done d) st):
  wpS (model prog w) A E s (PB a b out ia ib mg ac bc) Q st:=by
 unfold PB
 refine jz_ (Bo h3 ?_)
 have bI:=hM.pushB M.sB h3 aQ
 by_cases hq:ib+1=b.size
 ·rw[if_pos (by simpa using hq)]
  exact jK_ (hd _ _ rfl (M.done bI (.inr s!"")))
 ·rw[if_neg (by simpa using hq)]
  refine jz_ (Bo (show ia<a.size by lia) (jz_ (Km hO hk (M.hA _ (by simp)) M.hB (Kn M.sB _ _) s!"" s!"" (fun k kR g1 g2=>?_))))
  dsimp only
  have fT:∀y∈b.toList.drop (ib+1+k),LeK κ a[ia] y:=fun y hy=>by
   obtain⟨j,hj,aW,rfl⟩:=CV hy
   have:=g2 (j-(ib+1)) s!"" s!"" s!""
   have e:ib+1+(j-(ib+1))=j:=by lia
   simp only[e]at this
   exact this
  by_cases dn:k > 0
  ·rw[if_pos dn]
   have dq:=bI.extB M.sB (k:=k) s!"" (fun j hj cq y hy=>LeK.trans (qt_ (g1 j cq hj)) (Hv M.sA s!"" y hy))
   by_cases cE:ib+1+k=b.size
   ·rw[if_pos (by simpa using cE)]
    exact jK_ (hd _ _ rfl (M.done dq (.inr s!"")))
   ·rw[if_neg (by simpa using cE)]
    exact WJ M dq h2 s!"" s!"" fT h hd
  ·rw[if_neg dn]
   have e:k=0:=by lia
   subst e
   exact WJ M bI h2 s!"" s!"" fT h hd
def SG.trans {st ah aT:SortSt}(h:SG st ah)(g:SG ah aT):SG st aT:=⟨g.kd.trans h.kd,g.arr.trans h.arr,g.pe.trans h.pe,g.fa.trans h.fa⟩
def Ko  {st:SortSt}  (h:Q () (Ej st g)):wpS (model prog w) A E s (AS g) Q st:=by
 rw[G4];exact zF_ h
def WL (hO:LtOk kd κ a₀ prog w A E s)(M:MP a₀ κ a b){st:SortSt}(hk:kindOf st=kd)   (hJ:MJ κ a b out ia ib p)
  (h:∀(d:G7) ah,SG st ah->d.1=none->MJ κ a b d.2.1 d.2.2.1 d.2.2.2.1 p->Q (.yield d) ah/\Q (.done d) ah) (hd:∀(d:G7) x ah,SG st ah->d.1=some x->Mgd (LeK κ) a.toList b.toList x.toList->Q (.done d) ah):
  wpS (model prog w) A E s (PA a b out ia ib mg ac bc) Q st:=by
 obtain⟨hM,h2,h3,h4⟩:=hJ
 unfold PA
 refine jz_ (Ko ?_)
 have hG:SG st (Ej st mg):=(SG.refl st).set mg
 refine jz_ (Bo h3 (jz_ (Kl hO (hG.kd.trans hk) (M.hB _ (by simp)) M.hA (Kn M.sA _ _) s!"" s!"" (fun k kR g1 g2=>?_))))
 dsimp only
 have aQ:∀y∈a.toList.drop (ia+k),LeK κ b[ib] y:=fun y hy=>by
  obtain⟨j,hj,aW,rfl⟩:=CV hy
  have:=g2 (j-ia) s!"" s!"" s!""
  have e:ia+(j-ia)=j:=by lia
  simp only[e]at this
  exact qt_ this
 by_cases dn:k > 0
 ·rw[if_pos dn]
  have dq:=hM.extA M.sA (k:=k) s!"" (fun j hj cq y hy=>LeK.trans (g1 j cq hj) (Hv M.sB h3 y hy))
  by_cases hq:ia+k+1=a.size
  ·rw[if_pos (by simpa using hq)]
   exact jK_ (hd _ _ _ hG rfl (M.last dq hq))
  ·rw[if_neg (by simpa using hq)]
   by_cases cE:ia+k=a.size
   ·rw[if_pos (by simpa using cE)]
    exact jK_ (hd _ _ _ hG rfl (M.done dq (.inl s!"")))
   ·rw[if_neg (by simpa using cE)]
    exact WK hO M (hG.kd.trans hk) dq s!"" h3 s!"" aQ (fun d=>h d _ hG) (fun d x=>hd d x _ hG)
 ·rw[if_neg dn]
  have e:k=0:=by lia
  subst e
  exact WK hO M (hG.kd.trans hk) hM h2 h3 h4 aQ (fun d=>h d _ hG) (fun d x=>hd d x _ hG)
def Xg (hO:LtOk kd κ a₀ prog w A E s)(M:MP a₀ κ a b){st:SortSt}(hk:kindOf st=kd)   (hJ:MJ κ a b c.2.1 c.2.2.1 c.2.2.2.1 p)
  (h:∀(d:G7) ah,SG st ah->d.1=none->MJ κ a b d.2.1 d.2.2.1 d.2.2.2.1 p->Q (.yield d) ah/\Q (.done d) ah) (hd:∀(d:G7) x ah,SG st ah->d.1=some x->Mgd (LeK κ) a.toList b.toList x.toList->Q (.done d) ah):
  wpS (model prog w) A E s (P2 a b c) Q st:=by
 unfold P2
 split
 ·exact WL hO M hk hJ h hd
 ·exact WL hO M hk hJ h hd
def Xh (hO:LtOk kd κ a₀ prog w A E s)(M:MP a₀ κ a b){st:SortSt}(hk:kindOf st=kd)   (hJ:MJ κ a b c.2.1 c.2.2.1 c.2.2.2.1 p)
  (h:∀(d:G5) ah,SG st ah->d.1=none->MJ κ a b d.2.1 d.2.2.1 d.2.2.2.1 (p+1)->Q (.yield d) ah) (hd:∀(d:G5) x ah,SG st ah->d.1=some x->Mgd (LeK κ) a.toList b.toList x.toList->Q (.done d) ah):
  wpS (model prog w) A E s (PO a b c) Q st:=by
 have cu:1<=a.size+b.size:=by have:=M.ha;lia
 unfold PO
 refine jz_ (xY_ (qI_ (I:=fun x d ah=>ah=st/\d.1=none/\MJ κ a b d.2.1 d.2.2.1 d.2.2.2.1 (p+x))
   (Q:=fun d ah=>ah=st/\((d.1=none/\MJ κ a b d.2.1 d.2.2.1 d.2.2.2.1 (p+1)) \/ ∃x,d.1=some x/\Mgd (LeK κ) a.toList b.toList x.toList)) ?step ?fin ⟨rfl,rfl,hJ⟩) ?post)
 case step=>
  rintro x d ah _ hx ⟨rfl,h1,h2⟩
  refine Xf hO M hk h1 h2 (fun d' g1 g2=>⟨⟨rfl,g1,g2⟩,rfl,.inl ⟨g1,g2.1,g2.2.1,g2.2.2.1,?_⟩⟩) (fun d' x g1 g2=>⟨rfl,.inr ⟨x,g1,g2⟩⟩)
  have:=g2.2.2.2;lia
 case fin=>
  rintro d ah ⟨rfl,h1,h2⟩
  refine⟨rfl,.inl ⟨h1,h2.1,h2.2.1,h2.2.2.1,?_⟩⟩
  have:=h2.2.2.2;lia
 case post=>
  rintro d ah ⟨rfl,hh⟩
  rcases hh with ⟨h1,h2⟩|⟨x,h1,h2⟩
  ·rw[h1]
   dsimp only
   refine jz_ (Gq ?_)
   refine jz_ (xY_ (qI_ (I:=fun x d aT=>SG ah aT/\d.1=none/\MJ κ a b d.2.1 d.2.2.1 d.2.2.2.1 (p+1))
    (Q:=fun d aT=>SG ah aT/\((d.1=none/\MJ κ a b d.2.1 d.2.2.1 d.2.2.2.1 (p+1)) \/ ∃x,d.1=some x/\Mgd (LeK κ) a.toList b.toList x.toList)) ?step2 ?fin2 ⟨SG.refl _,rfl,h2⟩) ?post2)
   case step2=>
    rintro x e aT _ hx ⟨g0,g1,g2⟩
    exact Xg hO M (g0.kd.trans hk) g2 (fun d' di k0 k1 k2=>⟨⟨g0.trans k0,k1,k2⟩,g0.trans k0,.inl ⟨k1,k2⟩⟩) (fun d' x di k0 k1 k2=>⟨g0.trans k0,.inr ⟨x,k1,k2⟩⟩)
   case fin2=>
    rintro e aT ⟨g0,g1,g2⟩
    exact⟨g0,.inl ⟨g1,g2⟩⟩
   case post2=>
    rintro e aT ⟨g0,hh⟩
    rcases hh with ⟨g1,g2⟩|⟨x,g1,g2⟩
    ·rw[g1]
     dsimp only
     refine jz_ (Ko (jK_ ?_))
     exact h (none,e.2.1,e.2.2.1,e.2.2.2.1,e.2.2.2.2.1+1) _ (g0.set _) rfl g2
    ·rw[g1]
     dsimp only
     exact jK_ (hd _ x _ g0 rfl g2)
  ·rw[h1]
   dsimp only
   exact jK_ (hd _ x _ (SG.refl _) rfl h2)
def OJ {st:SortSt}  (hO:LtOk kd κ a₀ prog w A E s)(M:MP a₀ κ a b)(hk:kindOf st=kd)
  (h:∀r ah,SG st ah->Mgd (LeK κ) a.toList b.toList r.toList->Q r ah):wpS (model prog w) A E s (Hu a b) Q st:=by
 have ha:=M.ha
 have hb:=M.hb
 rw[Lx]
 refine jz_ (Gq (jz_ (Bo hb ?_)))
 have hM:MI (LeK κ) a.toList b.toList (#[b[0]]:Array Keyed).toList 0 1:=MI.pushB (out := #[]) (MI.start _ _) M.sB hb (by simpa using M.hf)
 by_cases h1:1=b.size
 ·rw[if_pos (by simpa using h1)]
  exact jK_ (h _ _ (SG.refl _) (M.done hM (.inr s!"")))
 ·rw[if_neg (by simpa using h1)]
  by_cases h2:0+1=a.size
  ·rw[if_pos (by simpa using h2)]
   exact jK_ (h _ _ (SG.refl _) (M.last hM h2))
  ·rw[if_neg (by simpa using h2)]
   refine jz_ (wpS_get ?_)
   refine jz_ (xY_ (qI_ (I:=fun x c ah=>SG st ah/\c.1=none/\MJ κ a b c.2.1 c.2.2.1 c.2.2.2.1 (1+x))
    (Q:=fun c ah=>SG st ah/\∃x,c.1=some x/\Mgd (LeK κ) a.toList b.toList x.toList) ?step ?fin ⟨SG.refl _,rfl,show MJ κ a b #[b[0]] 0 1 (1+0) from ⟨hM,by lia,by lia,by lia⟩⟩) ?post)
   case step=>
    rintro x c ah _ hx ⟨g0,g1,g2⟩
    exact Xh hO M (g0.kd.trans hk) g2 (fun d aN k0 k1 k2=>⟨g0.trans k0,k1,k2⟩) (fun d x aN k0 k1 k2=>⟨g0.trans k0,x,k1,k2⟩)
   case fin=>
    rintro c ah ⟨g0,g1,g2⟩
    have:=g2.2.1;have:=g2.2.2.1;have:=g2.2.2.2
    lia
   case post=>
    rintro c ah ⟨g0,x,g1,g2⟩
    rw[g1]
    dsimp only
    exact jK_ (h x ah g0 g2)
end
end
end aK
namespace aK
open PySem PyProof.Rows
noncomputable def Hw:Array Keyed->Array Keyed->StateT SortSt Sem (Array Keyed):=sortPriv% PySem.Builtin.mergeHi
noncomputable def doneH (a b out:Array Keyed)(na nb:Nat):Array Keyed:=a.extract 0 na++b.extract 0 nb++out.reverse
noncomputable def firstB (a b out:Array Keyed)(na nb:Nat):Array Keyed:=b.extract 0 nb++a.extract 0 na++out.reverse
def MB (a b:Array Keyed):Hw a b=(do
 rule "list.sort.merge-hi"
 let mut na:=a.size-1
 let mut nb:=b.size
 let mut out:Array Keyed := #[<-elem' a na]
 if na==0 then return doneH a b out na nb
 if nb==1 then return firstB a b out na nb
 let mut minGallop:=gallopOf ( <- get)
 for _ in [0:a.size+b.size] do
  let mut acount:=0
  let mut bcount:=0
  for _ in [0:a.size+b.size] do
   let some fU <- lt' ( <- elem' b (nb-1)) ( <- elem' a (na-1))|return doneH a b out na nb
   if fU then
    na:=na-1;out:=out.push ( <- elem' a na);acount:=acount+1;bcount:=0
    if na==0 then return doneH a b out na nb
    if acount >= minGallop then break
   else
    nb:=nb-1;out:=out.push ( <- elem' b nb);bcount:=bcount+1;acount:=0
    if nb==1 then return firstB a b out na nb
    if bcount >= minGallop then break
  rule "list.sort.gallop"
  minGallop:=minGallop+1
  for _ in [0:a.size+b.size] do
   if minGallop > 1 then minGallop:=minGallop-1
   AS minGallop
   let some dW <- B4 false ( <- elem' b (nb-1)) a 0 na (na-1)|return doneH a b out na nb
   let k:=na-dW
   acount:=k
   if k > 0 then
    out:=out++(a.extract dW na).reverse;na:=dW
    if na==0 then return doneH a b out na nb
   nb:=nb-1;out:=out.push ( <- elem' b nb)
   if nb==1 then return firstB a b out na nb
   let some dW <- B4 true ( <- elem' a (na-1)) b 0 nb (nb-1)|return doneH a b out na nb
   let k:=nb-dW
   bcount:=k
   if k > 0 then
    out:=out++(b.extract dW nb).reverse;nb:=dW
    if nb==1 then return firstB a b out na nb
    if nb==0 then return doneH a b out na nb
   na:=na-1;out:=out.push ( <- elem' a na)
   if na==0 then return doneH a b out na nb
   if acount<7&&bcount<7 then break
  minGallop:=minGallop+1
  AS minGallop
 unsupported "internal:list.sort.merge-bound"):=rfl
noncomputable abbrev H5:=Option (Array Keyed)×Nat×Nat×Array Keyed×Nat
noncomputable abbrev H6:=Option (Array Keyed)×Nat×Nat×Array Keyed×Nat×Nat
noncomputable abbrev H7:=Option (Array Keyed)×Nat×Nat×Array Keyed×Nat×Nat×Nat
noncomputable def HC (a b out:Array Keyed)(na nb mg ac bc:Nat):StateT SortSt Sem (ForInStep H7):=do
 let y <- elem' a (na-1)
 if (na-1==0)=true then pure (.done (some (doneH a b (out.push y) (na-1) nb),na-1,nb,out.push y,mg,ac,bc))
 else if (decide (ac<7)&&decide (bc<7))=true then pure (.done (none,na-1,nb,out.push y,mg,ac,bc)) else pure (.yield (none,na-1,nb,out.push y,mg,ac,bc))
noncomputable def HB (a b out:Array Keyed)(na nb mg ac bc:Nat):StateT SortSt Sem (ForInStep H7):=do
 let y <- elem' b (nb-1)
 if (nb-1==1)=true then pure (.done (some (firstB a b (out.push y) na (nb-1)),na,nb-1,out.push y,mg,ac,bc))
 else do
  let z <- elem' a (na-1)
  let x <- B4 true z b 0 (nb-1) (nb-1-1)
  match x with
  |some t=>if nb-1-t > 0 then (if (t==1)=true then pure (.done (some (firstB a b (out.push y++(b.extract t (nb-1)).reverse) na t),na,t,out.push y++(b.extract t (nb-1)).reverse,mg,ac,nb-1-t)) else if (t==0)=true then pure (.done (some (doneH a b (out.push y++(b.extract t (nb-1)).reverse) na t),na,t,out.push y++(b.extract t (nb-1)).reverse,mg,ac,nb-1-t)) else HC a b (out.push y++(b.extract t (nb-1)).reverse) na t mg ac (nb-1-t)) else HC a b (out.push y) na (nb-1) mg ac (nb-1-t)
  |_=>pure (.done (some (doneH a b (out.push y) na (nb-1)),na,nb-1,out.push y,mg,ac,bc))
noncomputable def HA (a b out:Array Keyed)(na nb mg ac bc:Nat):StateT SortSt Sem (ForInStep H7):=do
 AS mg
 let y <- elem' b (nb-1)
 let x <- B4 false y a 0 na (na-1)
 match x with
 |some t=>if na-t > 0 then (if (t==0)=true then pure (.done (some (doneH a b (out++(a.extract t na).reverse) t nb),t,nb,out++(a.extract t na).reverse,mg,na-t,bc)) else HB a b (out++(a.extract t na).reverse) t nb mg (na-t) bc) else HB a b out na nb mg (na-t) bc
 |_=>pure (.done (some (doneH a b out na nb),na,nb,out,mg,ac,bc))
noncomputable def H1 (a b:Array Keyed)(mg:Nat)(c:H6):StateT SortSt Sem (ForInStep H6):=do
 let y <- elem' b (c.2.2.1-1)
 let z <- elem' a (c.2.1-1)
 let x <- lt' y z
 match x with
 |some fU=>
  if fU=true then
   elem' a (c.2.1-1) >>= fun y=>
   if (c.2.1-1==0)=true then pure (.done (some (doneH a b (c.2.2.2.1.push y) (c.2.1-1) c.2.2.1),c.2.1-1,c.2.2.1,c.2.2.2.1.push y,c.2.2.2.2.1+1,0))
   else if c.2.2.2.2.1+1 >= mg then pure (.done (none,c.2.1-1,c.2.2.1,c.2.2.2.1.push y,c.2.2.2.2.1+1,0)) else pure (.yield (none,c.2.1-1,c.2.2.1,c.2.2.2.1.push y,c.2.2.2.2.1+1,0))
  else
   elem' b (c.2.2.1-1) >>= fun y=>
   if (c.2.2.1-1==1)=true then pure (.done (some (firstB a b (c.2.2.2.1.push y) c.2.1 (c.2.2.1-1)),c.2.1,c.2.2.1-1,c.2.2.2.1.push y,0,c.2.2.2.2.2+1))
   else if c.2.2.2.2.2+1 >= mg then pure (.done (none,c.2.1,c.2.2.1-1,c.2.2.2.1.push y,0,c.2.2.2.2.2+1)) else pure (.yield (none,c.2.1,c.2.2.1-1,c.2.2.2.1.push y,0,c.2.2.2.2.2+1))
 |_=>pure (.done (some (doneH a b c.2.2.2.1 c.2.1 c.2.2.1),c.2.1,c.2.2.1,c.2.2.2.1,c.2.2.2.2.1,c.2.2.2.2.2))
noncomputable def H2 (a b:Array Keyed)(c:H7):StateT SortSt Sem (ForInStep H7):=if c.2.2.2.2.1 > 1 then HA a b c.2.2.2.1 c.2.1 c.2.2.1 (c.2.2.2.2.1-1) c.2.2.2.2.2.1 c.2.2.2.2.2.2 else HA a b c.2.2.2.1 c.2.1 c.2.2.1 c.2.2.2.2.1 c.2.2.2.2.2.1 c.2.2.2.2.2.2
noncomputable def HO (a b:Array Keyed)(c:H5):StateT SortSt Sem (ForInStep H5):=do
 let d <- forIn [0:a.size+b.size] ((none,c.2.1,c.2.2.1,c.2.2.2.1,0,0):H6) fun _ d=>H1 a b c.2.2.2.2 d
 match d.1 with
 |some r=>pure (.done (some r,d.2.1,d.2.2.1,d.2.2.2.1,c.2.2.2.2))
 |none=>do
  liftM (rule "list.sort.gallop")
  let e <- forIn [0:a.size+b.size] ((none,d.2.1,d.2.2.1,d.2.2.2.1,c.2.2.2.2+1,d.2.2.2.2.1,d.2.2.2.2.2):H7) fun _ e=>H2 a b e
  match e.1 with
  |some r=>pure (.done (some r,e.2.1,e.2.2.1,e.2.2.2.1,e.2.2.2.2.1))
  |none=>do
   AS (e.2.2.2.2.1+1)
   pure (.yield (none,e.2.1,e.2.2.1,e.2.2.2.1,e.2.2.2.2.1+1))
def Lz (a b:Array Keyed):Hw a b=(do
 liftM (rule "list.sort.merge-hi")
 let y <- elem' a (a.size-1)
 if (a.size-1==0)=true then pure (doneH a b #[y] (a.size-1) b.size)
 else if (b.size==1)=true then pure (firstB a b #[y] (a.size-1) b.size)
 else do
  let g <- get
  let c <- forIn [0:a.size+b.size] ((none,a.size-1,b.size,#[y],gallopOf g):H5) fun _ c=>HO a b c
  match c.1 with
  |some r=>pure r
  |none=>unsupported "internal:list.sort.merge-bound"):=by
 rw[MB]
 refine jH_ (bind _) (funext fun _=>jH_ (bind _) (funext fun y=>?_))
 refine jH_ (ite _ _) (jH_ (ite _ _) (jH_ (bind _) (funext fun g=>?_)))
 refine congr (jH_ bind (jH_ (forIn _ _) (funext fun _=>funext fun c=>?_))) (funext fun c=>?_)
 ·unfold HO
  dsimp only
  refine congr (jH_ bind (jH_ (forIn _ _) (funext fun _=>funext fun d=>?_))) (funext fun d=>?_)
  ·unfold H1
   rfl
  ·cases d.1 with
   |some r=>rfl
   |none=>
    dsimp only
    refine jH_ (bind _) (funext fun _=>congr (jH_ bind (jH_ (forIn _ _) (funext fun _=>funext fun e=>?_))) (funext fun e=>?_))
    ·unfold H2 HA HB HC
     rfl
    ·cases e.1 with
     |some r=>rfl
     |none=>rfl
 ·cases c.1 with
  |some r=>rfl
  |none=>rfl
section
variable {α:Type} {R:α->α->Prop} {A B:List α}
def Io (A:List α)  (h:n<=A.length):A.reverse.drop (A.length-n)=(A.take n).reverse:=by
 rw[List.drop_reverse,show A.length-(A.length-n)=n by lia]
def Q1 (A:List α)  (h:n<=A.length)(ht:t<=n):(A.reverse.drop (A.length-n)).take (n-t)=((A.take n).drop t).reverse:=by
 rw[Io A h,List.take_reverse,jw_,show min n A.length-(n-t)=t by lia]
def Mgd.rev  (h:Mgd (fun x y=>R y x) B.reverse A.reverse r.reverse):Mgd R A B r:=by
 refine⟨?_,xb_.mp h.2⟩
 have:=h.1
 rw[<-q5_]at this
 exact ((List.reverse_perm r).symm.trans this).trans (List.reverse_perm _)
end
section
variable {prog:Program} {w:World} {A:Around} {E:Value->Shared->Prop} {s:Shared} {a₀:Array Keyed} {κ:KeyKind} {kd:SortKind} {a b out:Array Keyed} {na nb:Nat}
structure MH (κ:KeyKind)(a b out:Array Keyed)(na nb:Nat):Prop where
 ha:na<=a.size
 hb:nb<=b.size
 mi:MI (fun x y=>LeK κ y x) a.toList.reverse b.toList.reverse out.toList (a.toList.length-na) (b.toList.length-nb)
def MH.swap (h:MH κ a b out na nb):MH κ b a out nb na:=⟨h.hb,h.ha,h.mi.swap⟩
def Q2   (h:x∈(a.toList.take na).drop t):∃j,∃hj:j<a.size,t<=j/\j<na/\x=a[j]:=by
 obtain⟨k,hk,e⟩:=x0_.mp h
 rw[zY_,List.getElem_take]at e
 rw[xc_,jw_]at hk
 exact⟨t+k,by simp at hk;lia,by lia,by lia,by rw[<-e];simp⟩
def NO  (h:x∈a.toList.take na):∃j,∃hj:j<a.size,j<na/\x=a[j]:=by
 obtain⟨j,hj,_,h2,e⟩:=Q2 (t:=0) (by simpa using h)
 exact⟨j,hj,h2,e⟩
def MH.extA (h:MH κ a b out na nb)(sA:a.toList.Pairwise (LeK κ))  (ht:t<=na)(hx:∀j (hj:j<a.size),t<=j->j<na->∀y∈b.toList.take nb,LeK κ y a[j]):MH κ a b (out++(a.extract t na).reverse) t nb:=by
 have hna:=h.ha
 have hl:a.toList.length=a.size:=j3_
 have:=h.mi.ta (xb_.mpr sA) (k:=na-t) (by rw[xL_];lia) (by
  rw[Q1 _ s!"" ht,Io _ (by have:=h.hb;simpa using this)]
  intro x eA y hy
  obtain⟨j,hj,h1,h2,rfl⟩:=Q2 (q2_.mp eA)
  exact hx j hj h1 h2 y (q2_.mp hy))
 rw[Q1 _ s!"" ht,show a.toList.length-na+(na-t)=a.toList.length-t by lia]at this
 refine⟨by lia,h.hb,?_⟩
 rw[qR_,x1_,EV,show (List.drop t a.toList).take (na-t)=(a.toList.take na).drop t by rw[List.drop_take]]
 exact this
def MH.extB (h:MH κ a b out na nb)(sB:b.toList.Pairwise (LeK κ))  (ht:t<=nb)(hx:∀j (hj:j<b.size),t<=j->j<nb->∀y∈a.toList.take na,LeK κ y b[j]):MH κ a b (out++(b.extract t nb).reverse) na t:=(h.swap.extA sB ht hx).swap
def MH.pushA (h:MH κ a b out na nb)(sA:a.toList.Pairwise (LeK κ))(h1:1<=na)(hi:na-1<a.size)(hx:∀y∈b.toList.take nb,LeK κ y a[na-1]):MH κ a b (out.push a[na-1]) (na-1) nb:=by
 have hna:=h.ha
 have:=h.extA sA (t:=na-1) s!"" (fun j hj g1 g2 y hy=>by (have e:j=na-1:=by lia);subst e;exact hx y hy)
 have e:(a.extract (na-1) na).reverse = #[a[na-1]]:=by
  apply Array.ext'
  rw[x1_,EV,show na-(na-1)=1 by lia,U9 hi];rfl
 rw[e]at this
 simpa using this
def MH.pushB (h:MH κ a b out na nb)(sB:b.toList.Pairwise (LeK κ))(h1:1<=nb)(hi:nb-1<b.size)(hx:∀y∈a.toList.take na,LeK κ y b[nb-1]):MH κ a b (out.push b[nb-1]) na (nb-1):=(h.swap.pushA sB h1 hi hx).swap
def WM (a:Array Keyed)(n:Nat):(a.extract 0 n).toList=a.toList.take n:=by rw[EV];simp
def MP.doneH (M:MP a₀ κ a b)(h:MH κ a b out na nb)(he:na=0\/nb=0):Mgd (LeK κ) a.toList b.toList (doneH a b out na nb).toList:=by
 apply Mgd.rev
 have hA:=h.ha
 have hB:=h.hb
 have:=h.mi.swap.done (xb_.mpr M.sB) (xb_.mpr M.sA) (by simp only[xL_];simp only[j3_];lia)
 rw[Io _ (by simpa using hB),Io _ (by simpa using hA)]at this
 have e:(aK.doneH a b out na nb).toList.reverse=out.toList++(b.toList.take nb).reverse++(a.toList.take na).reverse:=by
  unfold aK.doneH
  simp only[qR_,WM,x1_,q5_,qZ_,qb_]
 rw[e];exact this
def MP.firstB (M:MP a₀ κ a b)(h:MH κ a b out na nb)(he:nb=1):Mgd (LeK κ) a.toList b.toList (firstB a b out na nb).toList:=by
 apply Mgd.rev
 have hA:=h.ha
 have hB:=h.hb
 have:=h.mi.swap.last (xb_.mpr M.sB) (xb_.mpr M.sA) (by
  rw[Io _ (by simpa using hB)]
  intro x hx y hy
  obtain⟨j,hj,h2,rfl⟩:=NO (q2_.mp hy)
  have e:j=0:=by lia
  subst e
  exact M.hf x (q2_.mp hx))
 rw[Io _ (by simpa using hA),Io _ (by simpa using hB)]at this
 have e:(aK.firstB a b out na nb).toList.reverse=out.toList++(a.toList.take na).reverse++(b.toList.take nb).reverse:=by
  unfold aK.firstB
  simp only[qR_,WM,x1_,q5_,qZ_,qb_]
 rw[e];exact this
def Hx (sA:a.toList.Pairwise (LeK κ))(hi:na-1<a.size):∀y∈a.toList.take na,LeK κ y a[na-1]:=fun y hy=>by
 obtain⟨j,hj,h2,rfl⟩:=NO hy
 exact Q0 sA s!"" hi
noncomputable def MHJ (κ:KeyKind)(a b out:Array Keyed)(na nb p:Nat):Prop:=MH κ a b out na nb/\1<=na/\2<=nb/\na+nb+p<=a.size+b.size
def Xi (hO:LtOk kd κ a₀ prog w A E s)(M:MP a₀ κ a b){st:SortSt}(hk:kindOf st=kd)   (h1:c.1=none)(hJ:MHJ κ a b c.2.2.2.1 c.2.1 c.2.2.1 p)
  (h:∀d:H6,d.1=none->MHJ κ a b d.2.2.2.1 d.2.1 d.2.2.1 (p+1)->Q (.yield d) st/\Q (.done d) st) (hd:∀(d:H6) x,d.1=some x->Mgd (LeK κ) a.toList b.toList x.toList->Q (.done d) st):
  wpS (model prog w) A E s (H1 a b mg c) Q st:=by
 obtain⟨c0,na,nb,out,ac,bc⟩:=c
 obtain⟨hM,h2,h3,h4⟩:=hJ
 dsimp only at *
 have hA:=hM.ha
 have hB:=hM.hb
 unfold H1
 dsimp only
 refine jz_ (Bo (show nb-1<b.size by lia) (jz_ (Bo (show na-1<a.size by lia) (jz_ (hO _ _ _ _ (M.hB _ (by simp)) (M.hA _ (by simp)) hk ?_)))))
 cases e:κ.blt (KE κ b[nb-1]) (KE κ a[na-1]) with
 |true=>
  dsimp only
  rw[if_pos rfl]
  have bI:=hM.pushA M.sA h2 s!"" (fun y hy=>LeK.trans (Hx M.sB s!"" y hy) (qt_ e))
  refine jz_ (Bo (show na-1<a.size by lia) ?_)
  by_cases hq:na-1=0
  ·rw[if_pos (by simpa using hq)]
   exact jK_ (hd _ _ rfl (M.doneH bI (.inl hq)))
  ·rw[if_neg (by simpa using hq)]
   have hh:=h (none,na-1,nb,out.push a[na-1],ac+1,0) rfl (show MHJ κ a b (out.push a[na-1]) (na-1) nb (p+1) from ⟨bI,by lia,h3,by lia⟩)
   split
   ·exact jK_ hh.2
   ·exact jK_ hh.1
 |false=>
  dsimp only
  rw[if_neg (by simp)]
  have bI:=hM.pushB M.sB s!"" s!"" (fun y hy=>LeK.trans (Hx M.sA s!"" y hy) e)
  refine jz_ (Bo (show nb-1<b.size by lia) ?_)
  by_cases hq:nb-1=1
  ·rw[if_pos (by simpa using hq)]
   exact jK_ (hd _ _ rfl (M.firstB bI hq))
  ·rw[if_neg (by simpa using hq)]
   have hh:=h (none,na,nb-1,out.push b[nb-1],0,bc+1) rfl (show MHJ κ a b (out.push b[nb-1]) na (nb-1) (p+1) from ⟨bI,h2,by lia,by lia⟩)
   split
   ·exact jK_ hh.2
   ·exact jK_ hh.1
def WN (M:MP a₀ κ a b){st:SortSt}  (hM:MH κ a b out na nb)(h2:1<=na)(h3:2<=nb)(h4:na+nb+p<=a.size+b.size)(hi:na-1<a.size)(aQ:∀y∈b.toList.take nb,LeK κ y a[na-1])
  (h:∀d:H7,d.1=none->MHJ κ a b d.2.2.2.1 d.2.1 d.2.2.1 p->Q (.yield d) st/\Q (.done d) st) (hd:∀(d:H7) x,d.1=some x->Mgd (LeK κ) a.toList b.toList x.toList->Q (.done d) st):
  wpS (model prog w) A E s (HC a b out na nb mg ac bc) Q st:=by
 unfold HC
 refine jz_ (Bo hi ?_)
 have bI:=hM.pushA M.sA h2 hi aQ
 by_cases hq:na-1=0
 ·rw[if_pos (by simpa using hq)]
  exact jK_ (hd _ _ rfl (M.doneH bI (.inl hq)))
 ·rw[if_neg (by simpa using hq)]
  have hh:=h (none,na-1,nb,out.push a[na-1],mg,ac,bc) rfl (show MHJ κ a b (out.push a[na-1]) (na-1) nb p from ⟨bI,by lia,h3,by lia⟩)
  split
  ·exact jK_ hh.2
  ·exact jK_ hh.1
def WO (hO:LtOk kd κ a₀ prog w A E s)(M:MP a₀ κ a b){st:SortSt}(hk:kindOf st=kd)  (hM:MH κ a b out na nb)(h2:1<=na)(h3:2<=nb)(h4:na+nb+p<=a.size+b.size)(hi:nb-1<b.size)(aQ:∀y∈a.toList.take na,LeK κ y b[nb-1])
  (h:∀d:H7,d.1=none->MHJ κ a b d.2.2.2.1 d.2.1 d.2.2.1 p->Q (.yield d) st/\Q (.done d) st) (hd:∀(d:H7) x,d.1=some x->Mgd (LeK κ) a.toList b.toList x.toList->Q (.done d) st):
  wpS (model prog w) A E s (HB a b out na nb mg ac bc) Q st:=by
 unfold HB
 have hA:=hM.ha
 have hB:=hM.hb
 refine jz_ (Bo hi ?_)
 have bI:=hM.pushB M.sB s!"" hi aQ
 by_cases hq:nb-1=1
 ·rw[if_pos (by simpa using hq)]
  exact jK_ (hd _ _ rfl (M.firstB bI hq))
 ·rw[if_neg (by simpa using hq)]
  refine jz_ (Bo (show na-1<a.size by lia) (jz_ (Km hO hk (M.hA _ (by simp)) M.hB (Kn M.sB _ _) s!"" s!"" (fun t mf g1 g2=>?_))))
  dsimp only
  have fT:∀y∈b.toList.take t,LeK κ y a[na-1]:=fun y hy=>by
   obtain⟨j,hj,aW,rfl⟩:=NO hy
   have:=g1 j s!"" aW
   simp only[zv_]at this
   exact qt_ this
  by_cases dn:nb-1-t > 0
  ·rw[if_pos dn]
   have dq:=bI.extB M.sB (t:=t) s!"" (fun j hj oJ oM y hy=>by
    have:=g2 j s!"" oJ oM
    simp only[zv_]at this
    exact LeK.trans (Hx M.sA s!"" y hy) this)
   by_cases cE:t=1
   ·rw[if_pos (by simpa using cE)]
    exact jK_ (hd _ _ rfl (M.firstB dq cE))
   ·rw[if_neg (by simpa using cE)]
    by_cases iT:t=0
    ·rw[if_pos (by simpa using iT)]
     exact jK_ (hd _ _ rfl (M.doneH dq (.inr iT)))
    ·rw[if_neg (by simpa using iT)]
     exact WN M dq h2 s!"" s!"" s!"" fT h hd
  ·rw[if_neg dn]
   have e:t=nb-1:=by lia
   subst e
   exact WN M bI h2 s!"" s!"" s!"" fT h hd
def WQ (hO:LtOk kd κ a₀ prog w A E s)(M:MP a₀ κ a b){st:SortSt}(hk:kindOf st=kd)  (hJ:MHJ κ a b out na nb p)
  (h:∀(d:H7) ah,SG st ah->d.1=none->MHJ κ a b d.2.2.2.1 d.2.1 d.2.2.1 p->Q (.yield d) ah/\Q (.done d) ah) (hd:∀(d:H7) x ah,SG st ah->d.1=some x->Mgd (LeK κ) a.toList b.toList x.toList->Q (.done d) ah):
  wpS (model prog w) A E s (HA a b out na nb mg ac bc) Q st:=by
 obtain⟨hM,h2,h3,h4⟩:=hJ
 have hA:=hM.ha
 have hB:=hM.hb
 unfold HA
 refine jz_ (Ko ?_)
 have hG:SG st (Ej st mg):=(SG.refl st).set mg
 refine jz_ (Bo (show nb-1<b.size by lia) (jz_ (Kl hO (hG.kd.trans hk) (M.hB _ (by simp)) M.hA (Kn M.sA _ _) s!"" s!"" (fun t mf g1 g2=>?_))))
 dsimp only
 have aQ:∀y∈a.toList.take t,LeK κ y b[nb-1]:=fun y hy=>by
  obtain⟨j,hj,aW,rfl⟩:=NO hy
  have:=g1 j s!"" aW
  simp only[zv_]at this
  exact this
 by_cases dn:na-t > 0
 ·rw[if_pos dn]
  have dq:=hM.extA M.sA (t:=t) s!"" (fun j hj oJ oM y hy=>by
   have:=g2 j s!"" oJ oM
   simp only[zv_]at this
   exact LeK.trans (Hx M.sB s!"" y hy) (qt_ this))
  by_cases hq:t=0
  ·rw[if_pos (by simpa using hq)]
   exact jK_ (hd _ _ _ hG rfl (M.doneH dq (.inl hq)))
  ·rw[if_neg (by simpa using hq)]
   exact WO hO M (hG.kd.trans hk) dq s!"" h3 s!"" s!"" aQ (fun d=>h d _ hG) (fun d x=>hd d x _ hG)
 ·rw[if_neg dn]
  have e:t=na:=by lia
  subst e
  exact WO hO M (hG.kd.trans hk) hM h2 h3 h4 s!"" aQ (fun d=>h d _ hG) (fun d x=>hd d x _ hG)
def Xj (hO:LtOk kd κ a₀ prog w A E s)(M:MP a₀ κ a b){st:SortSt}(hk:kindOf st=kd)   (hJ:MHJ κ a b c.2.2.2.1 c.2.1 c.2.2.1 p)
  (h:∀(d:H7) ah,SG st ah->d.1=none->MHJ κ a b d.2.2.2.1 d.2.1 d.2.2.1 p->Q (.yield d) ah/\Q (.done d) ah) (hd:∀(d:H7) x ah,SG st ah->d.1=some x->Mgd (LeK κ) a.toList b.toList x.toList->Q (.done d) ah):
  wpS (model prog w) A E s (H2 a b c) Q st:=by
 unfold H2
 split
 ·exact WQ hO M hk hJ h hd
 ·exact WQ hO M hk hJ h hd
def Xk (hO:LtOk kd κ a₀ prog w A E s)(M:MP a₀ κ a b){st:SortSt}(hk:kindOf st=kd)   (hJ:MHJ κ a b c.2.2.2.1 c.2.1 c.2.2.1 p)
  (h:∀(d:H5) ah,SG st ah->d.1=none->MHJ κ a b d.2.2.2.1 d.2.1 d.2.2.1 (p+1)->Q (.yield d) ah) (hd:∀(d:H5) x ah,SG st ah->d.1=some x->Mgd (LeK κ) a.toList b.toList x.toList->Q (.done d) ah):
  wpS (model prog w) A E s (HO a b c) Q st:=by
 have cu:1<=a.size+b.size:=by have:=M.ha;lia
 unfold HO
 refine jz_ (xY_ (qI_ (I:=fun x d ah=>ah=st/\d.1=none/\MHJ κ a b d.2.2.2.1 d.2.1 d.2.2.1 (p+x))
   (Q:=fun d ah=>ah=st/\((d.1=none/\MHJ κ a b d.2.2.2.1 d.2.1 d.2.2.1 (p+1)) \/ ∃x,d.1=some x/\Mgd (LeK κ) a.toList b.toList x.toList)) ?step ?fin ⟨rfl,rfl,hJ⟩) ?post)
 case step=>
  rintro x d ah _ hx ⟨rfl,h1,h2⟩
  refine Xi hO M hk h1 h2 (fun d' g1 g2=>⟨⟨rfl,g1,g2⟩,rfl,.inl ⟨g1,g2.1,g2.2.1,g2.2.2.1,?_⟩⟩) (fun d' x g1 g2=>⟨rfl,.inr ⟨x,g1,g2⟩⟩)
  have:=g2.2.2.2;lia
 case fin=>
  rintro d ah ⟨rfl,h1,h2⟩
  refine⟨rfl,.inl ⟨h1,h2.1,h2.2.1,h2.2.2.1,?_⟩⟩
  have:=h2.2.2.2;lia
 case post=>
  rintro d ah ⟨rfl,hh⟩
  rcases hh with ⟨h1,h2⟩|⟨x,h1,h2⟩
  ·rw[h1]
   dsimp only
   refine jz_ (Gq ?_)
   refine jz_ (xY_ (qI_ (I:=fun x d aT=>SG ah aT/\d.1=none/\MHJ κ a b d.2.2.2.1 d.2.1 d.2.2.1 (p+1))
    (Q:=fun d aT=>SG ah aT/\((d.1=none/\MHJ κ a b d.2.2.2.1 d.2.1 d.2.2.1 (p+1)) \/ ∃x,d.1=some x/\Mgd (LeK κ) a.toList b.toList x.toList)) ?step2 ?fin2 ⟨SG.refl _,rfl,h2⟩) ?post2)
   case step2=>
    rintro x e aT _ hx ⟨g0,g1,g2⟩
    exact Xj hO M (g0.kd.trans hk) g2 (fun d' di k0 k1 k2=>⟨⟨g0.trans k0,k1,k2⟩,g0.trans k0,.inl ⟨k1,k2⟩⟩) (fun d' x di k0 k1 k2=>⟨g0.trans k0,.inr ⟨x,k1,k2⟩⟩)
   case fin2=>
    rintro e aT ⟨g0,g1,g2⟩
    exact⟨g0,.inl ⟨g1,g2⟩⟩
   case post2=>
    rintro e aT ⟨g0,hh⟩
    rcases hh with ⟨g1,g2⟩|⟨x,g1,g2⟩
    ·rw[g1]
     dsimp only
     refine jz_ (Ko (jK_ ?_))
     exact h (none,e.2.1,e.2.2.1,e.2.2.2.1,e.2.2.2.2.1+1) _ (g0.set _) rfl g2
    ·rw[g1]
     dsimp only
     exact jK_ (hd _ x _ g0 rfl g2)
  ·rw[h1]
   dsimp only
   exact jK_ (hd _ x _ (SG.refl _) rfl h2)
def OK {st:SortSt}  (hO:LtOk kd κ a₀ prog w A E s)(M:MP a₀ κ a b)(hk:kindOf st=kd)
  (h:∀r ah,SG st ah->Mgd (LeK κ) a.toList b.toList r.toList->Q r ah):wpS (model prog w) A E s (Hw a b) Q st:=by
 have ha:=M.ha
 have hb:=M.hb
 rw[Lz]
 refine jz_ (Gq (jz_ (Bo (show a.size-1<a.size by lia) ?_)))
 have hM0:MH κ a b #[] a.size b.size:=⟨jg_ _,jg_ _,by simpa using MI.start _ _⟩
 have hM:MH κ a b #[a[a.size-1]] (a.size-1) b.size:=hM0.pushA M.sA ha s!"" (fun y hy=>M.hl y (xh_ hy))
 by_cases h1:a.size-1=0
 ·rw[if_pos (by simpa using h1)]
  exact jK_ (h _ _ (SG.refl _) (M.doneH hM (.inl h1)))
 ·rw[if_neg (by simpa using h1)]
  by_cases h2:b.size=1
  ·rw[if_pos (by simpa using h2)]
   exact jK_ (h _ _ (SG.refl _) (M.firstB hM h2))
  ·rw[if_neg (by simpa using h2)]
   refine jz_ (wpS_get ?_)
   refine jz_ (xY_ (qI_ (I:=fun x c ah=>SG st ah/\c.1=none/\MHJ κ a b c.2.2.2.1 c.2.1 c.2.2.1 (1+x))
    (Q:=fun c ah=>SG st ah/\∃x,c.1=some x/\Mgd (LeK κ) a.toList b.toList x.toList) ?step ?fin ⟨SG.refl _,rfl,show MHJ κ a b #[a[a.size-1]] (a.size-1) b.size (1+0) from ⟨hM,by lia,by lia,by lia⟩⟩) ?post)
   case step=>
    rintro x c ah _ hx ⟨g0,g1,g2⟩
    exact Xk hO M (g0.kd.trans hk) g2 (fun d aN k0 k1 k2=>⟨g0.trans k0,k1,k2⟩) (fun d x aN k0 k1 k2=>⟨g0.trans k0,x,k1,k2⟩)
   case fin=>
    rintro c ah ⟨g0,g1,g2⟩
    have:=g2.2.1;have:=g2.2.2.1;have:=g2.2.2.2
    lia
   case post=>
    rintro c ah ⟨g0,x,g1,g2⟩
    rw[g1]
    dsimp only
    exact jK_ (h x ah g0 g2)
end
end aK
namespace aK
open PySem PyProof.Rows
section
variable {prog:Program} {w:World} {A:Around} {E:Value->Shared->Prop} {s:Shared} {a₀:Array Keyed} {κ:KeyKind} {kd:SortKind}
structure SQ (kd:SortKind)(a₀:Array Keyed)(lo hi:Nat)(st ah:SortSt):Prop where
 b:SB kd a₀ ah
 pe:pendingOf ah=pendingOf st
 out:Out lo hi (arrOf st) (arrOf ah)
def SQ.refl {lo hi:Nat}{st:SortSt}(h:SB kd a₀ st):SQ kd a₀ lo hi st st:=⟨h,rfl,Out.refl _ _ _⟩
def SQ.trans {lo hi:Nat}{st ah aT:SortSt}(h:SQ kd a₀ lo hi st ah)(g:SQ kd a₀ lo hi ah aT):SQ kd a₀ lo hi st aT:=⟨g.b,g.pe.trans h.pe,h.out.trans g.out⟩
def SQ.mir {lo hi i j:Nat}{st ah:SortSt}(h:SQ kd a₀ lo hi st ah)(hj:j<=a₀.size)(h1:lo<=i)(h2:j<=hi):SQ kd a₀ lo hi st (setArr ah (mirror (arrOf ah) i j ((j-i) / 2))):=
 ⟨h.b.setArr (mirror_perm _ _ _ _),h.pe,h.out.trans (Jw (by rw[h.b.size];exact hj) h1 h2)⟩
def SQ.bub {lo hi k l:Nat}{st ah:SortSt}(h:SQ kd a₀ lo hi st ah)(hk:k<a₀.size)(h1:lo<=l)(hl:l<=k)(h2:k<hi):SQ kd a₀ lo hi st (setArr ah (bubble (arrOf ah) k (k-l))):=
 ⟨h.b.setArr (bubble_perm _ _ _),h.pe,h.out.trans (OD (by rw[h.b.size];exact hk) s!"" s!"" h2)⟩
def NQ {st bt:SortSt}{lo n ao:Nat}  (hO:LtOk kd κ a₀ prog w A E s)(hn:lo+ao<=a₀.size)(h1:1<=n)(fm:n<=ao)(hB:SQ kd a₀ lo (lo+ao) bt st)(hs:NI κ (arrOf st) lo (lo+n))
  (h:∀m ah,SQ kd a₀ lo (lo+ao) bt ah->1<=m->m<=ao->SO κ (arrOf ah) lo (lo+m)->Q (some m) ah):
  wpS (model prog w) A E s (Lv lo n ao) Q st:=U8 hO hn h1 fm hB.b hs (fun m ah g1 g2 g3 g4 g5 g6=>h m ah (hB.trans ⟨g1,g2,g3⟩) g4 g5 g6)
noncomputable def So (lo n ao:Nat):StateT SortSt Sem DescSt:=
 forIn [n:ao] ((none,n,0):DescSt) fun _ c=>do
  let x <- ltAt' (lo+c.2.1) (lo+c.2.1-1)
  match x with
  |some cF=>
   if cF=true then
    if c.2.2 > 0 then do
     reverseSlice' (lo+c.2.1-(c.2.2+1)) (lo+c.2.1)
     pure (.yield (none,c.2.1+1,0))
    else pure (.yield (none,c.2.1+1,0))
   else do
    let x <- ltAt' (lo+c.2.1-1) (lo+c.2.1)
    match x with
    |some larger=>if larger=true then pure (.done (none,c.2.1,c.2.2)) else pure (.yield (none,c.2.1+1,c.2.2+1))
    |_=>pure (.done (some none,c.2.1,c.2.2))
  |_=>pure (.done (some none,c.2.1,c.2.2))
noncomputable def Q3 (lo n ao:Nat):StateT SortSt Sem (Option Nat):=do
 liftM (rule "list.sort.descending-run")
 let c <- So lo (n+1) ao
 match c.1 with
 |some r=>pure r
 |none=>
  if c.2.2 > 0 then do
   reverseSlice' (lo+c.2.1-(c.2.2+1)) (lo+c.2.1)
   Lv lo c.2.1 ao
  else Lv lo c.2.1 ao
def Kp (lo ao:Nat):countRun' lo ao=(do
  let c <- ascL lo 1 ao
  match c.1 with
  |some r=>pure r
  |none=>
   if (c.2==ao)=true then pure (some c.2)
   else if c.2 > 1 then do
    let x <- ltAt' lo (lo+c.2-1)
    match x with
    |some rose=>if rose=true then pure (some c.2) else do
      reverseSlice' lo (lo+c.2)
      Q3 lo c.2 ao
    |_=>pure none
   else Q3 lo c.2 ao):=by
 have tl:∀n (f:AscSt->StateT SortSt Sem (Option Nat)),(∀r m,f (some r,m)=pure r)->(∀m,f (none,m)=pure (some m))->(reverseSlice' lo (lo+n) >>= fun _=>ascL lo n ao >>= f)=Lv lo n ao:=fun n f h1 h2=>by
  refine jH_ (bind _) (funext fun _=>jH_ (bind _) (funext fun c=>?_))
  rcases c with ⟨_|r,m⟩
  ·exact h2 m
  ·exact h1 r m
 have pl:∀n (f:DescSt->StateT SortSt Sem (Option Nat)),(∀r m q,f (some r,m,q)=pure r)->(∀m q,f (none,m,q)=if q > 0 then reverseSlice' (lo+m-(q+1)) (lo+m) >>= fun _=>Lv lo m ao else Lv lo m ao) ->
   (liftM (rule "list.sort.descending-run") >>= fun _=>So lo (n+1) ao >>= f)=Q3 lo n ao:=fun n f h1 h2=>by
  refine jH_ (bind _) (funext fun _=>jH_ (bind _) (funext fun c=>?_))
  rcases c with ⟨_|r,m,q⟩
  ·exact h2 m q
  ·exact h1 r m q
 rw[countRun'_eq]
 unfold ascL
 refine jH_ (bind _) (funext fun c=>?_)
 obtain⟨r,n⟩:=c
 cases r with
 |some r=>rfl
 |none=>
  dsimp only
  refine jH_ (ite _ _) ?_
  by_cases hn:n > 1
  ·rw[if_pos hn,if_pos hn]
   refine jH_ (bind _) (funext fun x=>?_)
   cases x with
   |none=>rfl
   |some rose=>
    dsimp only
    refine jH_ (ite _ _) (jH_ (bind _) (funext fun _=>pl n _ (fun _ _ _=>rfl) fun m q=>by
    dsimp only
    by_cases o:q > 0
    ·rw[if_pos o,if_pos o];exact jH_ (bind _) (funext fun _=>tl m _ (fun _ _=>rfl) fun _=>rfl)
    ·rw[if_neg o,if_neg o];exact tl m _ (fun _ _=>rfl) fun _=>rfl))
  ·rw[if_neg hn,if_neg hn]
   exact pl n _ (fun _ _ _=>rfl) fun m q=>by
    dsimp only
    by_cases o:q > 0
    ·rw[if_pos o,if_pos o];exact jH_ (bind _) (funext fun _=>tl m _ (fun _ _=>rfl) fun _=>rfl)
    ·rw[if_neg o,if_neg o];exact tl m _ (fun _ _=>rfl) fun _=>rfl
def Va {st bt:SortSt}{lo n ao:Nat}  (hO:LtOk kd κ a₀ prog w A E s)(hn:lo+ao<=a₀.size)(h1:1<=n)(fm:n<=ao)(hB:SQ kd a₀ lo (lo+ao) bt st)(hs:NI κ (arrOf st) lo (lo+n))
  (h:∀m dC ah,SQ kd a₀ lo (lo+ao) bt ah->n<=m->m<=ao->NI κ (arrOf ah) lo (lo+m)->dC+1<=m->(∀i,lo+m-(dC+1)<=i->i<lo+m->KK κ (arrOf ah) i=KK κ (arrOf ah) (lo+m-1))->Q (none,m,dC) ah):
  wpS (model prog w) A E s (So lo n ao) Q st:=by
 unfold So
 refine qI_ (I:=fun x c ah=>∃dC,c=(none,x,dC)/\SQ kd a₀ lo (lo+ao) bt ah/\NI κ (arrOf ah) lo (lo+x)/\dC+1<=x /\
   (∀i,lo+x-(dC+1)<=i->i<lo+x->KK κ (arrOf ah) i=KK κ (arrOf ah) (lo+x-1))) ?step ?fin ⟨0,rfl,hB,hs,by lia,fun i h1 h2=>by congr 1;lia⟩
 case fin=>
  rintro c ah ⟨dC,rfl,g1,g2,g3,g4⟩
  rw[show max n ao=ao by lia]at g2 g3 g4 ⊢
  exact h ao dC ah g1 fm (jg_ _) g2 g3 g4
 case step=>
  rintro x c ah hax hxn ⟨dC,rfl,hQ,hN,hq,he⟩
  dsimp only
  have hsz:lo+x<=(arrOf ah).size:=by rw[hQ.b.size];lia
  refine jz_ (Il hO hQ.b s!"" s!"" ?_)
  cases hless:κ.blt (KK κ (arrOf ah) (lo+x)) (KK κ (arrOf ah) (lo+x-1))
  case true=>
   simp only[xR_]
   have gX:∀xs:Array Keyed,(∀k,KK κ xs k=KK κ (arrOf ah) k)->NI κ xs lo (lo+(x+1)):=by
    intro xs hk i j hl aW hj
    rw[hk,hk]
    rcases qF_ j (lo+x) with kN|kN
    ·exact hN i j hl aW kN
    ·obtain rfl:j=lo+x:=by lia
     rcases qF_ i (lo+x) with hi' | hi'
     ·exact xe_ (qt_ hless) (hN i (lo+x-1) hl s!"" s!"")
     ·obtain rfl:i=lo+x:=by lia
      exact qH_ _
   by_cases fV:dC > 0
   ·rw[if_pos fV]
    exact jz_ (EU (jK_ ⟨0,rfl,hQ.mir s!"" s!"" s!"",gX _ (zg_ hsz he),by lia,fun i h1 h2=>by congr 1;lia⟩))
   ·rw[if_neg fV]
    exact jK_ ⟨0,rfl,hQ,gX _ (fun _=>rfl),by lia,fun i h1 h2=>by congr 1;lia⟩
  case false=>
   simp only[jY_,q3_]
   refine jz_ (Il hO hQ.b s!"" s!"" ?_)
   cases hlarger:κ.blt (KK κ (arrOf ah) (lo+x-1)) (KK κ (arrOf ah) (lo+x))
   case true=>
    simp only[xR_]
    exact jK_ (h x dC ah hQ hax s!"" hN hq he)
   case false=>
    simp only[jY_,q3_]
    have same:KK κ (arrOf ah) (lo+x)=KK κ (arrOf ah) (lo+x-1):=KeyOrd.kle_antisymm hlarger hless
    refine jK_ ⟨dC+1,rfl,hQ,fun i j hl aW hj=>?_,by lia,fun i h1 h2=>?_⟩
    ·rcases qF_ j (lo+x) with kN|kN
     ·exact hN i j hl aW kN
     ·obtain rfl:j=lo+x:=by lia
      rcases qF_ i (lo+x) with hi' | hi'
      ·rw[same];exact hN i (lo+x-1) hl s!"" s!""
      ·obtain rfl:i=lo+x:=by lia
       exact qH_ _
    ·rw[show lo+(x+1)-1=lo+x by lia]
     by_cases eI:i=lo+x
     ·rw[eI]
     ·rw[same];exact he i s!"" s!""
def Q4 {st bt:SortSt}{lo n ao:Nat}  (hO:LtOk kd κ a₀ prog w A E s)(hn:lo+ao<=a₀.size)(fm:n+1<=ao)(hB:SQ kd a₀ lo (lo+ao) bt st)(hs:NI κ (arrOf st) lo (lo+(n+1)))
  (h:∀m ah,SQ kd a₀ lo (lo+ao) bt ah->1<=m->m<=ao->SO κ (arrOf ah) lo (lo+m)->Q (some m) ah):
  wpS (model prog w) A E s (Q3 lo n ao) Q st:=by
 unfold Q3
 refine jz_ (Gq (jz_ (Va hO hn s!"" fm hB hs fun m dC ah g1 g2 g3 g4 g5 g6=>?_)))
 dsimp only
 have hsz:lo+m<=(arrOf ah).size:=by rw[g1.b.size];lia
 by_cases fV:dC > 0
 ·rw[if_pos fV]
  refine jz_ (EU (NQ hO hn s!"" g3 (g1.mir s!"" s!"" s!"") ?_ h))
  intro i j hl aW hj
  show κ.kle (KK κ (mirror (arrOf ah) _ _ _) j) (KK κ (mirror (arrOf ah) _ _ _) i)
  rw[zg_ hsz g6,zg_ hsz g6]
  exact g4 i j hl aW hj
 ·rw[if_neg fV]
  exact NQ hO hn s!"" g3 g1 g4 h
def MC {st:SortSt}{lo ao:Nat}  (hO:LtOk kd κ a₀ prog w A E s)(hn:lo+ao<=a₀.size)(h1:1<=ao)(hB:SB kd a₀ st)
  (h:∀m ah,SQ kd a₀ lo (lo+ao) st ah->1<=m->m<=ao->SO κ (arrOf ah) lo (lo+m)->Q (some m) ah):
  wpS (model prog w) A E s (countRun' lo ao) Q st:=by
 have hQ:SQ kd a₀ lo (lo+ao) st st:=SQ.refl hB
 rw[Kp]
 refine jz_ (TZ hO hn (jg_ 1) h1 hB (fun i j hl aW hj=>by (obtain rfl:i=j:=by lia);exact qH_ _) fun n bS fk jq hor=>?_)
 dsimp only
 by_cases fm:n=ao
 ·rw[if_pos (by simpa using fm)]
  exact jK_ (h n st hQ bS fk jq)
 ·rw[if_neg (by simpa using fm)]
  have ar:=hor.resolve_left fm
  by_cases kO:n > 1
  ·rw[if_pos kO]
   refine jz_ (Il hO hB s!"" s!"" ?_)
   cases hrose:κ.blt (KK κ (arrOf st) lo) (KK κ (arrOf st) (lo+n-1))
   case true=>
    simp only[xR_]
    exact jK_ (h n st hQ bS fk jq)
   case false=>
    simp only[jY_,q3_]
    have hsz:lo+n<=(arrOf st).size:=by rw[hB.size];lia
    have az:∀k,lo<=k->k<lo+n->KK κ (arrOf st) k=KK κ (arrOf st) (lo+n-1):=fun k kU eB=>
     KeyOrd.kle_antisymm (jq k (lo+n-1) kU s!"" s!"") (xe_ hrose (jq lo k (jg_ _) kU eB))
    refine jz_ (EU (Q4 hO hn s!"" (hQ.mir s!"" (jg_ _) s!"") ?_ h))
    intro i j hl aW hj
    show κ.kle (KK κ (mirror (arrOf st) _ _ _) j) (KK κ (mirror (arrOf st) _ _ _) i)
    rw[zg_ hsz az,zg_ hsz az]
    rcases qF_ j (lo+n) with hjn|hjn
    ·rw[az i hl s!"",az j s!"" hjn];exact qH_ _
    ·obtain rfl:j=lo+n:=by lia
     rcases qF_ i (lo+n) with hi' | hi'
     ·rw[az i hl hi'];exact qt_ ar
     ·obtain rfl:i=lo+n:=by lia
      exact qH_ _
  ·rw[if_neg kO]
   obtain rfl:n=1:=by lia
   refine Q4 hO hn s!"" hQ ?_ h
   intro i j hl aW hj
   by_cases hi':i=j
   ·subst hi';exact qH_ _
   ·obtain rfl:i=lo:=by lia
    obtain rfl:j=i+1:=by lia
    exact qt_ ar
structure Bis (κ:KeyKind)(xs:Array Keyed)(lo k l r:Nat):Prop where
 le:l<=r
 top:r<=k
 low:∀i,lo<=i->i<lo+l->κ.kle (KK κ xs i) (KK κ xs (lo+k))
 high:∀i,lo+r<=i->i<lo+k->κ.klt (KK κ xs (lo+k)) (KK κ xs i)
section
variable {xs:Array Keyed} {lo k l r:Nat}
def Bis.start:Bis κ xs lo k 0 k:=⟨jX_ _,jg_ _,fun i a b=>absurd a (Nat.not_le.mpr b),fun i a b=>absurd a (Nat.not_le.mpr b)⟩
def Bis.turn (B:Bis κ xs lo k l r)(o:l<r)(hs:SO κ xs lo (lo+k))(b:Bool)(e:κ.blt (KK κ xs (lo+k)) (KK κ xs (lo+(l+r) / 2))=b):
  if b=true then Bis κ xs lo k l ((l+r) / 2) else Bis κ xs lo k ((l+r) / 2+1) r:=by
 have t:=B.top
 cases b
 ·exact⟨by lia,t,fun i a c=>xe_ (hs i (lo+(l+r) / 2) a s!"" s!"") e,B.high⟩
 ·exact⟨by lia,by lia,B.low,fun i a c=>KeyOrd.klt_of_klt_of_kle e (hs _ i s!"" a c)⟩
def Bis.put (B:Bis κ xs lo k l l)(hs:SO κ xs lo (lo+k))(hz:lo+k<xs.size):SO κ (bubble xs (lo+k) (lo+k-(lo+l))) lo (lo+(k+1)):=by
 have t:=B.top
 have dW:∀i,KK κ (bubble xs (lo+k) (lo+k-(lo+l))) i=if i=lo+l then KK κ xs (lo+k) else if lo+l<i/\i<=lo+k then KK κ xs (i-1) else KK κ xs i:=fun i=>by
  rw[KK_bubble hz s!"",show lo+k-(lo+k-(lo+l))=lo+l by lia]
 intro i j a b c
 rw[dW i,dW j]
 rcases Nat.lt_trichotomy i (lo+l) with x|x|x<;>rcases Nat.lt_trichotomy j (lo+l) with y|y|y
 ·rw[if_neg s!"",if_neg s!"",if_neg s!"",if_neg s!""];exact hs i j a b s!""
 ·rw[if_neg s!"",if_neg s!"",if_pos y];exact B.low i a x
 ·rw[if_neg s!"",if_neg s!"",if_neg s!"",if_pos s!""];exact hs i (j-1) a s!"" s!""
 ·lia
 ·rw[if_pos x,if_pos y];exact qH_ _
 ·rw[if_pos x,if_neg s!"",if_pos s!""];exact qt_ (B.high (j-1) s!"" s!"")
 ·lia
 ·lia
 ·rw[if_neg s!"",if_pos s!"",if_neg s!"",if_pos s!""];exact hs (i-1) (j-1) s!"" s!"" s!""
end
def Kq {st:SortSt}{lo n ok:Nat}  (hO:LtOk kd κ a₀ prog w A E s)(hn:lo+n<=a₀.size)(hok:ok<=n)(hB:SB kd a₀ st)(hs:SO κ (arrOf st) lo (lo+ok))
  (h:∀ah,SQ kd a₀ lo (lo+n) st ah->SO κ (arrOf ah) lo (lo+n)->Q true ah):wpS (model prog w) A E s (binarySort' lo n ok) Q st:=by
 rw[binarySort'_eq]
 have one:SO κ (arrOf st) lo (lo+max ok 1):=fun i j a b c=>if q:i=j then q ▸ qH_ _ else hs i j a b s!""
 have fin:∀t,SQ kd a₀ lo (lo+n) st t->SO κ (arrOf t) lo (lo+max (max ok 1) n)->Q true t:=fun t q so=>h t q fun i j a b c=>so i j a b s!""
 refine jz_ (qI_ (fun k c t=>c=(none,())/\SQ kd a₀ lo (lo+n) st t/\SO κ (arrOf t) lo (lo+k)) (fun k c t a b i=>?_) (fun c t i=>?_) ⟨rfl,SQ.refl hB,one⟩)
 ·obtain⟨rfl,q,so⟩:=i
  have put:∀l,Bis κ (arrOf t) lo k l l->wpS (model prog w) A E s (do moveDown' (lo+k) (lo+l);pure (ForInStep.yield ((none:Option Bool),()))) (fun r u=>match r with | .done _=>False | .yield c=>c=(none,())/\SQ kd a₀ lo (lo+n) st u/\SO κ (arrOf u) lo (lo+(k+1))) t:=fun l B=>by
   have tp:=B.top
   rw[moveDown'_eq]
   exact jz_ (zF_ (jK_ ⟨rfl,q.bub s!"" s!"" s!"" s!"",B.put so (by rw[q.b.size];lia)⟩))
  refine jz_ (xY_ (qI_ (fun x d t'=>t'=t/\∃l r,d=(none,l,r)/\r-l<=k-x/\Bis κ (arrOf t) lo k l r) (Q:=fun d t'=>t'=t/\∃l,d=(none,l,l)/\Bis κ (arrOf t) lo k l l) (fun x d t' _ y i=>?_) (fun d t' i=>?_) ⟨rfl,0,k,rfl,jg_ _,.start⟩) fun d t' i=>?_)
  ·obtain⟨rfl,l,r,rfl,z,B⟩:=i
   have tp:=B.top
   by_cases o:l<r
   ·have m:=B.turn o so
    dsimp only
    rw[if_neg (Nat.not_le.mpr o)]
    refine jz_ (Il hO q.b s!"" s!"" ?_)
    generalize e:κ.blt _ _=b
    replace m:=m b e
    cases b
    ·exact jK_ ⟨rfl,_,r,rfl,by lia,m⟩
    ·exact jK_ ⟨rfl,l,_,rfl,by lia,m⟩
   ·cases Nat.le_antisymm B.le (xX_.mp o)
    dsimp only
    rw[if_pos (jg_ _)]
    exact jK_ ⟨rfl,l,rfl,B⟩
  ·obtain⟨rfl,l,r,rfl,z,B⟩:=i
   cases Nat.le_antisymm B.le s!""
   exact⟨rfl,l,rfl,B⟩
  ·obtain⟨rfl,l,rfl,B⟩:=i
   exact xY_ (put l B) fun r u g=>by cases r with|done _=>exact g.elim|yield _=>exact g
 ·obtain⟨rfl,q,so⟩:=i
  exact jK_ (fin t q so)
end
end aK
namespace aK
open PySem PyProof.Rows
noncomputable def wr (a:Array Keyed)(base:Nat)(r:List Keyed)(n:Nat):Array Keyed:=(r.zipIdx n).foldl (fun a (p,j)=>a.setIfInBounds (base+j) p) a
def ME (i:Nat):mergeAt' i=(do
 let s <- get
 let (some (sa,na,power),some (sb,nb,_)):=((pendingOf s)[i]?,(pendingOf s)[i+1]?)|unsupported "internal:list.sort.pending"
 set (setPending s (((pendingOf s).setIfInBounds i (sa,na+nb,power)).eraseIdxIfInBounds (i+1)))
 let some k <- B4 false ( <- elem' (arrOf s) sb) (arrOf s) sa na 0|return false
 if na-k==0 then return true
 let some m <- B4 true ( <- elem' (arrOf s) (sa+k+(na-k)-1)) (arrOf s) sb nb (nb-1)|return false
 if m==0 then return true
 let merged <- if na-k<=m then Hu ((arrOf s).extract (sa+k) sb) ((arrOf s).extract sb (sb+m)) else Hw ((arrOf s).extract (sa+k) sb) ((arrOf s).extract sb (sb+m))
 modify fun s=>setArr s (wr (arrOf s) (sa+k) merged.toList 0)
 return (failedOf ( <- get)).isNone):=rfl
def Q5 {base:Nat}:∀(r:List Keyed) (n:Nat) (a:Array Keyed),base+n+r.length<=a.size->(wr a base r n).toList=a.toList.take (base+n)++r++a.toList.drop (base+n+r.length)
 |[],n,a,h=>by simp[wr]
 |x::r,n,a,h=>by
  have ih:=Q5 (base:=base) r (n+1) (a.setIfInBounds (base+n) x) (by simp at h ⊢;lia)
  unfold wr at ih ⊢
  rw[List.zipIdx_cons,qX_]
  simp only at ih ⊢
  simp only[jS_]at h
  have hl:base+n<a.toList.length:=by simp;lia
  rw[ih,Array.toList_setIfInBounds,show base+(n+1)=base+n+1 by lia,List.take_set,List.drop_set_of_lt s!"",List.take_succ_eq_append_getElem hl,List.set_append_right _ _ (by simp;lia)]
  simp only[jw_,j3_,jS_]
  rw[show base+n-min (base+n) a.size=0 by lia,zh_,show base+n+1+r.length=base+n+(r.length+1) by lia]
  simp
section
variable {prog:Program} {w:World} {A:Around} {E:Value->Shared->Prop} {s:Shared} {a₀:Array Keyed} {κ:KeyKind} {kd:SortKind}
noncomputable def seg (a:Array Keyed)(lo hi:Nat):List Keyed:=(a.toList.take hi).drop lo
def MF  {lo hi:Nat}(h:hi<=a.size):(seg a lo hi).length=hi-lo:=by unfold seg;simp;lia
def Kr  {lo hi i:Nat}(h:i<(seg a lo hi).length)(hi':lo+i<a.size):(seg a lo hi)[i]=a[lo+i]:=by simp[seg]
def Jy  {lo hi:Nat}(h:hi<=a.size):SO κ a lo hi↔(seg a lo hi).Pairwise (LeK κ):=by
 rw[xw_]
 constructor
 ·intro g i j hi hj aW
  have hl:=MF (lo:=lo) h
  have:=g (lo+i) (lo+j) s!"" s!"" s!""
  rw[D7 s!"",D7 s!""]at this
  rw[Kr hi s!"",Kr hj s!""]
  exact this
 ·intro g i j hl aW hj
  rcases qF_ i j with ar|bo
  ·have ak:=MF (lo:=lo) h
   have:=g (i-lo) (j-lo) s!"" s!"" s!""
   rw[Kr s!"" s!"",Kr s!"" s!""]at this
   simp only[show lo+(i-lo)=i by lia,show lo+(j-lo)=j by lia]at this
   rw[D7 s!"",D7 s!""]
   exact this
  ·obtain rfl:i=j:=by lia
   exact qH_ _
def Fq  {lo hi:Nat}  (h:x∈seg a lo hi):∃j,∃hj:j<a.size,lo<=j/\j<hi/\x=a[j]:=Q2 h
def Gr (a:Array Keyed)  (h1:l<=m)(h2:m<=h):seg a l h=seg a l m++seg a m h:=by
 unfold seg
 have e:a.toList.take h=a.toList.take m++(a.toList.take h).drop m:=by
  have:=xa_ m (a.toList.take h)
  rw[List.take_take,show min m h=m by lia]at this
  exact this.symm
 rw[e]
 rcases Nat.le_total m a.toList.length with hm|hm
 ·rw[List.drop_append_of_le_length (by rw[jw_];lia)]
  congr 1
  rw[<-e]
 ·rw[show (a.toList.take h).drop m=[] from qA_ (by rw[jw_];lia)]
  simp only[qg_]
  rw[show List.drop m (a.toList.take m)=[] from qA_ (by rw[jw_];lia),qg_]
def MG  {lo hi i j:Nat}(h:SO κ a lo hi)(h1:lo<=i)(h2:i<=j)(h3:j<hi)(hi':i<a.size)(hj:j<a.size):LeK κ a[i] a[j]:=by
 have:=h i j h1 h2 h3
 rw[D7 hi',D7 hj]at this
 exact this
def Hy  {lo hi:Nat}(e:∀i,lo<=i->i<hi->ys[i]?=xs[i]?)(h:SO κ xs lo hi):SO κ ys lo hi:=fun i j h1 h2 h3=>by
 rw[KK_congr (e i h1 s!""),KK_congr (e j s!"" h3)];exact h i j h1 h2 h3
def Sq    (aQ:l<=e)(he:e<=a.size)(hp:r.Perm (seg a l e)):
  (wr a l r 0).Perm a/\Out l e a (wr a l r 0)/\seg (wr a l r 0) l e=r:=by
 have hl:r.length=e-l:=by rw[hp.length_eq,MF he]
 have hw:=Q5 (base:=l) r 0 a s!""
 rw[Nat.add_zero,show l+r.length=e by lia]at hw
 have h0:a.toList=a.toList.take l++seg a l e++a.toList.drop e:=by
  have h1:=xa_ e a.toList
  have h2:=xa_ l (a.toList.take e)
  rw[List.take_take,show min l e=l by lia]at h2
  rw[show seg a l e=(a.toList.take e).drop l from rfl,h2,h1]
 have ar:(a.toList.take l).length=l:=by simp;lia
 refine⟨?_,fun i hi=>?_,?_⟩
 ·rw[xZ_,hw]
  conv=>rhs;rw[h0]
  exact List.Perm.append_right _ (List.Perm.append_left _ hp)
 ·rw[<-xs_,<-xs_,hw]
  rcases hi with hi|hi
  ·rw[qb_,ji_ s!"",xA_ hi]
  ·rw[jp_ (by rw[jn_];lia),jn_,ar,List.getElem?_drop]
   congr 1;lia
 ·unfold seg
  rw[hw,qb_,<-qb_,List.take_append_of_le_length (by rw[jn_];lia),jP_ (by rw[jn_];lia),List.drop_append_of_le_length s!"",qA_ s!"",xT_]
def Ek (a:Array Keyed)(i j:Nat):(a.extract i j).toList=seg a i j:=by rw[EV,seg,List.drop_take]
def WR {st ah:SortSt}  (h:Q ⟨⟩ ah):wpS (model prog w) A E s (set ah:StateT SortSt Sem PUnit) Q st:=zF_ (f:=fun _=>ah) h
def OL {st:SortSt}   (hO:LtOk kd κ a₀ prog w A E s)(hB:SB kd a₀ st)(e1:(pendingOf st)[i]?=some (sa,na,pw))(e2:(pendingOf st)[i+1]?=some (sb,nb,q))(mZ:sb=sa+na)(hna:1<=na)(hnb:1<=nb)(hz:sb+nb<=a₀.size)
  (s1:SO κ (arrOf st) sa sb) (s2:SO κ (arrOf st) sb (sb+nb))
  (h:∀ah,SB kd a₀ ah->pendingOf ah=((pendingOf st).setIfInBounds i (sa,na+nb,pw)).eraseIdxIfInBounds (i+1)->Out sa (sb+nb) (arrOf st) (arrOf ah)->SO κ (arrOf ah) sa (sb+nb)->Q true ah):
  wpS (model prog w) A E s (mergeAt' i) Q st:=by
 have hsz:=hB.size
 rw[ME]
 refine jz_ (wpS_get ?_)
 rw[e1,e2]
 dsimp only
 refine jz_ (WR ?_)
 have gW:SB kd a₀ (setPending st (((pendingOf st).setIfInBounds i (sa,na+nb,pw)).eraseIdxIfInBounds (i+1))):=⟨hB.perm,hB.kind,hB.failed⟩
 have aS:∀x∈(arrOf st).toList,x∈a₀.toList:=fun x hx=>hB.mem hx
 refine jz_ (Bo (show sb<(arrOf st).size by lia) (jz_ (Kl hO gW.kind (aS _ (by simp)) aS (fun i j hi hj g1 g2 g3=>MG s1 g1 g2 s!"" hi hj) s!"" s!"" (fun k kR g1 g2=>?_))))
 dsimp only
 by_cases dn:na-k=0
 ·rw[if_pos (by simpa using dn)]
  refine jK_ (h _ gW rfl (Out.refl _ _ _) ?_)
  intro i j hl aW hj
  show κ.kle (KK κ (arrOf st) i) (KK κ (arrOf st) j)
  rcases qF_ j sb with c|c
  ·exact s1 i j hl aW c
  ·rcases qF_ i sb with c2|c2
   ·have a1:=g1 (i-sa) s!"" s!""
    simp only[show sa+(i-sa)=i by lia]at a1
    have a2:=s2 sb j (jg_ _) c hj
    rw[D7 (show sb<(arrOf st).size by lia)]at a2
    rw[D7 (show i<(arrOf st).size by lia)]
    exact xe_ a1 a2
   ·exact s2 i j c2 aW hj
 ·rw[if_neg (by simpa using dn)]
  have el:sa+k+(na-k)-1=sb-1:=by lia
  rw[el]
  refine jz_ (Bo (show sb-1<(arrOf st).size by lia) (jz_ (Km hO gW.kind (aS _ (by simp)) aS (fun i j hi hj g1 g2 g3=>MG s2 g1 g2 s!"" hi hj) s!"" s!"" (fun m hmn g3 g4=>?_))))
  dsimp only
  by_cases cg:m=0
  ·rw[if_pos (by simpa using cg)]
   refine jK_ (h _ gW rfl (Out.refl _ _ _) ?_)
   intro i j hl aW hj
   show κ.kle (KK κ (arrOf st) i) (KK κ (arrOf st) j)
   rcases qF_ j sb with c|c
   ·exact s1 i j hl aW c
   ·rcases qF_ i sb with c2|c2
    ·have a1:=g4 (j-sb) s!"" s!"" s!""
     simp only[show sb+(j-sb)=j by lia]at a1
     have a2:=s1 i (sb-1) hl s!"" s!""
     rw[D7 (show sb-1<(arrOf st).size by lia)]at a2
     rw[D7 (show j<(arrOf st).size by lia)]
     exact xe_ a2 a1
    ·exact s2 i j c2 aW hj
  ·rw[if_neg (by simpa using cg)]
   have z1:((arrOf st).extract (sa+k) sb).size=sb-(sa+k):=by simp;lia
   have z2:((arrOf st).extract sb (sb+m)).size=m:=by simp;lia
   have hM:MP a₀ κ ((arrOf st).extract (sa+k) sb) ((arrOf st).extract sb (sb+m)):=by
    refine {hA:=fun x hx=>?_,hB:=fun x hx=>?_,sA:=?_,sB:=?_,ha:=by lia,hb:=by lia,hf:=fun y hy=>?_,hl:=fun x hx=>?_}
    ·rw[Ek]at hx;obtain⟨j,hj,_,_,rfl⟩:=Fq hx;exact aS _ (by simp)
    ·rw[Ek]at hx;obtain⟨j,hj,_,_,rfl⟩:=Fq hx;exact aS _ (by simp)
    ·rw[Ek];exact (Jy s!"").mp (fun i j c1 c2 c3=>s1 i j s!"" c2 c3)
    ·rw[Ek];exact (Jy s!"").mp (fun i j c1 c2 c3=>s2 i j c1 c2 s!"")
    ·rw[Ek]at hy;obtain⟨j,hj,c1,c2,rfl⟩:=Fq hy
     have a1:=g2 (j-sa) s!"" s!"" s!""
     simp only[show sa+(j-sa)=j by lia]at a1
     simp only[Array.getElem_extract,Nat.add_zero]
     exact qt_ a1
    ·rw[Ek]at hx;obtain⟨j,hj,c1,c2,rfl⟩:=Fq hx
     have a1:=g3 (j-sb) s!"" s!""
     simp only[show sb+(j-sb)=j by lia]at a1
     simp only[Array.getElem_extract,z1,show sa+k+(sb-(sa+k)-1)=sb-1 by lia]
     exact qt_ a1
   have hend:∀(r:Array Keyed) (ah:SortSt),SG (setPending st (((pendingOf st).setIfInBounds i (sa,na+nb,pw)).eraseIdxIfInBounds (i+1))) ah->Mgd (LeK κ) ((arrOf st).extract (sa+k) sb).toList ((arrOf st).extract sb (sb+m)).toList r.toList ->
     wpS (model prog w) A E s (do
      modify fun s=>setArr s (wr (arrOf s) (sa+k) r.toList 0)
      return (failedOf ( <- get)).isNone:StateT SortSt Sem Bool) Q ah:=by
    intro r ah hG hR
    refine jz_ (zF_ (jz_ (wpS_get (jK_ ?_))))
    have ea:arrOf ah=arrOf st:=hG.arr
    have hf:failedOf (setArr ah (wr (arrOf ah) (sa+k) r.toList 0))=none:=hG.fa.trans hB.failed
    rw[hf]
    rw[Ek,Ek]at hR
    have hp:r.toList.Perm (seg (arrOf st) (sa+k) (sb+m)):=by rw[Gr _ (show sa+k<=sb by lia) (show sb<=sb+m by lia)];exact hR.1
    obtain⟨w1,w2,w3⟩:=Sq s!"" s!"" hp
    have hsz2:(wr (arrOf st) (sa+k) r.toList 0).size=(arrOf st).size:=w1.size_eq
    have jr:arrOf (setArr ah (wr (arrOf ah) (sa+k) r.toList 0))=wr (arrOf st) (sa+k) r.toList 0:=by rw[<-ea]
    refine h _ ⟨?_,hG.kd.trans hB.kind,hf⟩ hG.pe ?_ ?_
    ·rw[jr];exact w1.trans hB.perm
    ·rw[jr];exact fun i hi=>w2 i s!""
    ·rw[jr,Jy s!"",Gr _ (show sa<=sa+k by lia) (show sa+k<=sb+nb by lia),Gr _ (show sa+k<=sb+m by lia) (show sb+m<=sb+nb by lia),w3]
     have f1:∀x∈seg (wr (arrOf st) (sa+k) r.toList 0) sa (sa+k),∃j,∃hj:j<(arrOf st).size,sa<=j/\j<sa+k/\x=(arrOf st)[j]:=fun x hx=>by
      obtain⟨j,hj,c1,c2,rfl⟩:=Fq hx
      refine⟨j,by lia,c1,c2,?_⟩
      have:=w2 j s!""
      rw[qy_ hj,qy_ (show j<(arrOf st).size by lia)]at this
      exact jq_ this
     have f3:∀x∈seg (wr (arrOf st) (sa+k) r.toList 0) (sb+m) (sb+nb),∃j,∃hj:j<(arrOf st).size,sb+m<=j/\j<sb+nb/\x=(arrOf st)[j]:=fun x hx=>by
      obtain⟨j,hj,c1,c2,rfl⟩:=Fq hx
      refine⟨j,by lia,c1,c2,?_⟩
      have:=w2 j s!""
      rw[qy_ hj,qy_ (show j<(arrOf st).size by lia)]at this
      exact jq_ this
     have f2:∀x∈r.toList,∃j,∃hj:j<(arrOf st).size,sa+k<=j/\j<sb+m/\x=(arrOf st)[j]:=fun x hx=>by
      obtain⟨j,hj,c1,c2,rfl⟩:=Fq (hp.mem_iff.mp hx)
      exact⟨j,hj,c1,c2,rfl⟩
     have low:∀j (hj:j<(arrOf st).size),sa<=j->j<sa+k->LeK κ (arrOf st)[j] ((arrOf st)[sb]'s!""):=fun j hj c1 c2=>by
      have a1:=g1 (j-sa) s!"" s!""
      simp only[show sa+(j-sa)=j by lia]at a1
      exact a1
     have high:∀j (hj:j<(arrOf st).size),sb+m<=j->j<sb+nb->LeK κ ((arrOf st)[sb-1]'s!"") (arrOf st)[j]:=fun j hj c1 c2=>by
      have a1:=g4 (j-sb) s!"" s!"" s!""
      simp only[show sb+(j-sb)=j by lia]at a1
      exact a1
     refine q0_.mpr ⟨?_,q0_.mpr ⟨hR.2,?_,fun x hx y hy=>?_⟩,fun x hx y hy=>?_⟩
     ·exact (Jy s!"").mp (Hy (fun i c1 c2=>w2 i s!"") (fun i j c1 c2 c3=>s1 i j c1 c2 s!""))
     ·exact (Jy s!"").mp (Hy (fun i c1 c2=>w2 i s!"") (fun i j c1 c2 c3=>s2 i j s!"" c2 s!""))
     ·obtain⟨j,hj,c1,c2,rfl⟩:=f2 x hx
      obtain⟨l,hl,d1,d2,rfl⟩:=f3 y hy
      rcases qF_ j sb with c|c
      ·exact LeK.trans (MG s1 s!"" s!"" s!"" hj s!"") (high l hl d1 d2)
      ·exact MG s2 c s!"" d2 hj hl
     ·obtain⟨j,hj,c1,c2,rfl⟩:=f1 x hx
      rcases jA_.mp hy with hy|hy
      ·obtain⟨l,hl,d1,d2,rfl⟩:=f2 y hy
       rcases qF_ l sb with c|c
       ·exact MG s1 c1 s!"" c hj hl
       ·exact LeK.trans (low j hj c1 c2) (MG s2 (jg_ _) c s!"" s!"" hl)
      ·obtain⟨l,hl,d1,d2,rfl⟩:=f3 y hy
       exact LeK.trans (low j hj c1 c2) (MG s2 (jg_ _) s!"" d2 s!"" hl)
   by_cases hc:na-k<=m
   ·rw[if_pos hc]
    exact jz_ (OJ hO hM gW.kind hend)
   ·rw[if_neg hc]
    exact jz_ (OK hO hM gW.kind hend)
end
end aK
namespace aK
open PySem PyProof.Rows
noncomputable abbrev Rn:=Nat×Nat×Nat
noncomputable def JP (lo n:Nat):StateT SortSt Sem (ForInStep (Option Unit×Nat)):=do
 modify fun s=>setPending s ((pendingOf s).push (lo,n,0))
 pure (.yield (none,lo+n))
noncomputable def JM (pw:Nat):StateT SortSt Sem (ForInStep (Option Unit×Unit)):=do
 let g <- get
 match if (pendingOf g).size > 1 then (pendingOf g)[(pendingOf g).size-2]? else none with
 |some (_,_,older)=>if older<=pw then pure (.done (none,())) else do
   let b <- mergeAt' ((pendingOf g).size-2)
   if (!b)=true then pure (.done (some (),())) else pure (.yield (none,()))
 |_=>pure (.done (none,()))
noncomputable def JB (size lo n:Nat):StateT SortSt Sem (ForInStep (Option Unit×Nat)):=do
 let g <- get
 match (pendingOf g).back? with
 |some (s1,n1,_)=>do
  let c <- forIn [0:size] ((none,()):Option Unit×Unit) fun _ _=>JM (power' size (2*s1+n1) (2*s1+n1+n1+n) size)
  match c.1 with
  |some r=>pure (.done (some r,lo))
  |none=>do
   modify fun s=>setPending s ((pendingOf s).modify ((pendingOf s).size-1) fun (st,len,_)=>(st,len,power' size (2*s1+n1) (2*s1+n1+n1+n) size))
   JP lo n
 |_=>JP lo n
noncomputable def RN (size bU lo n:Nat):StateT SortSt Sem (ForInStep (Option Unit×Nat)):=
 if n<bU then (do
  liftM (rule "list.sort.binary-insertion")
  let b <- binarySort' lo (min (size-lo) bU) n
  if (!b)=true then pure (.done (some (),lo)) else JB size lo (min (size-lo) bU))
 else JB size lo n
noncomputable def RB (size bU:Nat)(c:Option Unit×Nat):StateT SortSt Sem (ForInStep (Option Unit×Nat)):=
 if c.2 >= size then pure (.done (none,c.2)) else do
  let x <- countRun' c.2 (size-c.2)
  match x with
  |some n=>RN size bU c.2 n
  |_=>pure (.done (some (),c.2))
noncomputable def FI (p:Array Rn):Nat:=if Option.any (fun x=>decide (x<p[p.size-2+1]?.elim 0 fun x=>x.snd.fst)) (if p.size-2 > 0 then Option.map (fun x=>x.snd.fst) p[p.size-2-1]? else none)=true then p.size-2-1 else p.size-2
noncomputable def FB:StateT SortSt Sem (ForInStep (Option Unit×Unit)):=do
 let g <- get
 if (pendingOf g).size<=1 then pure (.done (none,()))
 else do
  let b <- mergeAt' (FI (pendingOf g))
  if (!b)=true then pure (.done (some (),())) else pure (.yield (none,()))
def Kt:sortRuns'=(do
 let g <- get
 let c <- forIn [0:(arrOf g).size] ((none,0):Option Unit×Nat) fun _ c=>RB (arrOf g).size (minRun' (arrOf g).size (arrOf g).size 0) c
 match c.1 with
 |some r=>pure r
 |none=>do
  let c <- forIn [0:(arrOf g).size] ((none,()):Option Unit×Unit) fun _ _=>FB
  match c.1 with
  |some r=>pure r
  |none=>pure ()):=by
 rw[sortRuns'_eq]
 refine jH_ (bind _) (funext fun g=>?_)
 refine congr (jH_ bind (jH_ (forIn _ _) (funext fun _=>funext fun c=>?_))) (funext fun c=>?_)
 ·unfold RB
  refine jH_ (ite _ _) (jH_ (bind _) (funext fun x=>?_))
  cases x with
  |none=>rfl
  |some n=>
   dsimp only
   unfold RN
   by_cases hn:n<minRun' (arrOf g).size (arrOf g).size 0
   ·rw[if_pos hn,if_pos hn]
    refine jH_ (bind _) (funext fun _=>jH_ (bind _) (funext fun b=>jH_ (ite _ _) ?_))
    unfold JB
    refine jH_ (bind _) (funext fun g'=>?_)
    try dsimp only
    rcases (pendingOf g').back? with _|⟨s1,n1,q⟩
    ·rfl
    ·try dsimp only
     refine congr (jH_ bind (jH_ (forIn _ _) (funext fun _=>funext fun _=>?_))) (funext fun c=>?_)
     ·unfold JM
      refine jH_ (bind _) (funext fun g2=>?_)
      try dsimp only
      rcases (if (pendingOf g2).size > 1 then (pendingOf g2)[(pendingOf g2).size-2]? else none) with _|⟨a,b,c⟩
      ·rfl
      ·rfl
     ·obtain⟨r,u⟩:=c
      cases r<;>rfl
   ·rw[if_neg hn,if_neg hn]
    unfold JB
    refine jH_ (bind _) (funext fun g'=>?_)
    try dsimp only
    rcases (pendingOf g').back? with _|⟨s1,n1,q⟩
    ·rfl
    ·try dsimp only
     refine congr (jH_ bind (jH_ (forIn _ _) (funext fun _=>funext fun _=>?_))) (funext fun c=>?_)
     ·unfold JM
      refine jH_ (bind _) (funext fun g2=>?_)
      try dsimp only
      rcases (if (pendingOf g2).size > 1 then (pendingOf g2)[(pendingOf g2).size-2]? else none) with _|⟨a,b,c⟩
      ·rfl
      ·rfl
     ·obtain⟨r,u⟩:=c
      cases r<;>rfl
 ·obtain⟨r,lo⟩:=c
  cases r with
  |some r=>rfl
  |none=>
   dsimp only
   refine congr (jH_ bind (jH_ (forIn _ _) (funext fun _=>funext fun c=>?_))) (funext fun c=>?_)
   ·rfl
   ·obtain⟨r,u⟩:=c
    cases r<;>rfl
section
variable {prog:Program} {w:World} {A:Around} {E:Value->Shared->Prop} {s:Shared} {a₀:Array Keyed} {κ:KeyKind} {kd:SortKind}
noncomputable def Ch (κ:KeyKind)(xs:Array Keyed):List Rn->Nat->Nat->Prop
 |[],a,b=>a=b
 |p::r,a,b=>p.1=a/\1<=p.2.1/\SO κ xs a (a+p.2.1)/\Ch κ xs r (a+p.2.1) b
def Ch.le {xs:Array Keyed}:∀{l:List Rn} {a b:Nat},Ch κ xs l a b->a+l.length<=b
 |[],a,b,h=>Nat.le_of_eq h
 |p::r,a,b,h=>by have:=Ch.le h.2.2.2;have:=h.2.1;simp only[jS_];lia
def Ch.append {xs:Array Keyed}:∀{l l':List Rn} {a b:Nat},Ch κ xs (l++l') a b ↔ ∃c,Ch κ xs l a c/\Ch κ xs l' c b
 |[],l',a,b=>⟨fun h=>⟨a,rfl,h⟩,fun ⟨c,e,h⟩=>by cases e;exact h⟩
 |p::r,l',a,b=>⟨fun ⟨h1,h2,h3,h4⟩=>by obtain⟨c,g1,g2⟩:=Ch.append.mp h4;exact⟨c,⟨h1,h2,h3,g1⟩,g2⟩,fun ⟨c,⟨h1,h2,h3,h4⟩,h5⟩=>⟨h1,h2,h3,Ch.append.mpr ⟨c,h4,h5⟩⟩⟩
def Ch.congr {xs ys:Array Keyed}:∀{l:List Rn} {a b:Nat},(∀i,a<=i->i<b->ys[i]?=xs[i]?)->Ch κ xs l a b->Ch κ ys l a b
 |[],a,b,_,h=>h
 |p::r,a,b,e,⟨h1,h2,h3,h4⟩=>⟨h1,h2,Hy (fun i g1 g2=>e i g1 (by have:=h4.le;lia)) h3,h4.congr (fun i g1 g2=>e i s!"" g2)⟩
def Ch.same {xs:Array Keyed}:∀{l l':List Rn} {a b:Nat},l.map (fun p=>(p.1,p.2.1))=l'.map (fun p=>(p.1,p.2.1))->Ch κ xs l a b->Ch κ xs l' a b
 |[],[],_,_,_,h=>h
 |[],_::_,_,_,e,_=>by cases e
 |_::_,[],_,_,e,_=>by cases e
 |p::r,p'::r',a,b,e,⟨h1,h2,h3,h4⟩=>by
  simp only[j0_,xH_,Prod.mk.injEq]at e
  obtain⟨⟨e1,e2⟩,e3⟩:=e
  refine⟨e1 ▸ h1,e2 ▸ h2,e2 ▸ h3,?_⟩
  rw[<-e2]
  exact h4.same e3
def LA {st:SortSt}   (hO:LtOk kd κ a₀ prog w A E s)(hB:SB kd a₀ st)(hC:Ch κ (arrOf st) (pendingOf st).toList 0 m)(hm:m<=a₀.size)(hi:i+1<(pendingOf st).size)
  (h:∀ah,SB kd a₀ ah->Ch κ (arrOf ah) (pendingOf ah).toList 0 m->(pendingOf ah).size+1=(pendingOf st).size->Out 0 m (arrOf st) (arrOf ah)->Q true ah):
  wpS (model prog w) A E s (mergeAt' i) Q st:=by
 have hl:(pendingOf st).toList.length=(pendingOf st).size:=j3_
 have e0:(pendingOf st).toList=(pendingOf st).toList.take i++(pendingOf st)[i]::(pendingOf st)[i+1]::(pendingOf st).toList.drop (i+2):=by
  have h1:=(xa_ i (pendingOf st).toList).symm
  rw[q8_ s!"",q8_ s!""]at h1
  exact h1
 obtain⟨l1,bw⟩:∃l,l=(pendingOf st).toList.take i:=⟨_,rfl⟩
 obtain⟨l2,bM⟩:∃l,l=(pendingOf st).toList.drop (i+2):=⟨_,rfl⟩
 obtain⟨⟨sa,na,pw⟩,hx⟩:∃p,p=(pendingOf st)[i]:=⟨_,rfl⟩
 obtain⟨⟨sb,nb,q⟩,hy⟩:∃p,p=(pendingOf st)[i+1]:=⟨_,rfl⟩
 rw[<-bw,<-bM,<-hx,<-hy]at e0
 have mh:l1.length=i:=by rw[bw,jw_];lia
 rw[e0]at hC
 obtain⟨c,c1,c2,c3,c4,c5,c6,c7,c8⟩:=Ch.append.mp hC
 dsimp only at c2 c3 c4 c5 c6 c7 c8
 subst c2
 subst c5
 have aQ:=c8.le
 have hle1:=c1.le
 refine OL hO hB (by rw[hx];exact qy_ s!"") (by rw[hy];exact qy_ hi) rfl c3 c6 s!"" c4 c7 (fun ah g1 g2 g3 g4=>?_)
 have e1:(pendingOf ah).toList=l1++(sa,na+nb,pw)::l2:=by
  rw[g2,Array.toList_eraseIdxIfInBounds,Array.toList_setIfInBounds,e0,List.set_append_right _ _ s!"",mh,qv_,zh_,List.eraseIdx_append_of_length_le s!"",mh,show i+1-i=1 by lia]
  rfl
 refine h ah g1 ?_ ?_ (fun i hi=>g3 i s!"")
 ·rw[e1]
  refine Ch.append.mpr ⟨sa,c1.congr (fun i _ h2=>g3 i s!""),rfl,?_,?_,?_⟩
  ·show 1<=na+nb
   lia
  ·rw[show sa+(na+nb)=sa+na+nb by lia];exact g4
  ·show Ch κ (arrOf ah) l2 (sa+(na+nb)) m
   rw[show sa+(na+nb)=sa+na+nb by lia]
   exact c8.congr (fun i h1 _=>g3 i s!"")
 ·have l1':(pendingOf ah).toList.length=(l1++(sa,na+nb,pw)::l2).length:=by rw[e1]
  have l2':(pendingOf st).toList.length=(l1++(sa,na,pw)::(sa+na,nb,q)::l2).length:=by rw[e0]
  simp only[jn_,jS_,j3_]at l1' l2'
  lia
def WT {st:SortSt}{lo n:Nat}  (hB:SB kd a₀ st)(hC:Ch κ (arrOf st) (pendingOf st).toList 0 lo)(hn:1<=n)(hs:SO κ (arrOf st) lo (lo+n))
  (h:∀ah,SB kd a₀ ah->Ch κ (arrOf ah) (pendingOf ah).toList 0 (lo+n)->Q (.yield (none,lo+n)) ah):wpS (model prog w) A E s (JP lo n) Q st:=by
 unfold JP
 refine jz_ (zF_ (jK_ (h _ ⟨hB.perm,hB.kind,hB.failed⟩ ?_)))
 show Ch κ (arrOf st) ((pendingOf st).push (lo,n,0)).toList 0 (lo+n)
 rw[Array.toList_push]
 exact Ch.append.mpr ⟨lo,hC,rfl,hn,hs,rfl⟩
def WU {st:SortSt}{lo n:Nat}  (hO:LtOk kd κ a₀ prog w A E s)(hB:SB kd a₀ st)(hC:Ch κ (arrOf st) (pendingOf st).toList 0 lo)(hn:1<=n)(hz:lo+n<=a₀.size)(hs:SO κ (arrOf st) lo (lo+n))
  (h:∀ah,SB kd a₀ ah->Ch κ (arrOf ah) (pendingOf ah).toList 0 (lo+n)->Q (.yield (none,lo+n)) ah):wpS (model prog w) A E s (JB a₀.size lo n) Q st:=by
 unfold JB
 refine jz_ (wpS_get ?_)
 rcases (pendingOf st).back? with _|⟨s1,n1,q⟩
 ·exact WT hB hC hn hs h
 ·dsimp only
  generalize power' a₀.size (2*s1+n1) (2*s1+n1+n1+n) a₀.size=pw
  refine jz_ (xY_ (qI_ (I:=fun _ c ah=>c=(none,())/\SB kd a₀ ah/\Ch κ (arrOf ah) (pendingOf ah).toList 0 lo/\Out 0 lo (arrOf st) (arrOf ah))
   (Q:=fun c ah=>c=(none,())/\SB kd a₀ ah/\Ch κ (arrOf ah) (pendingOf ah).toList 0 lo/\Out 0 lo (arrOf st) (arrOf ah)) ?step (fun _ _ hh=>hh) ⟨rfl,hB,hC,Out.refl _ _ _⟩) ?post)
  case step=>
   rintro x c ah _ _ ⟨rfl,g1,g2,g3⟩
   unfold JM
   refine jz_ (wpS_get ?_)
   rcases hh:(if (pendingOf ah).size > 1 then (pendingOf ah)[(pendingOf ah).size-2]? else none) with _|⟨a,b,older⟩
   ·exact jK_ ⟨rfl,g1,g2,g3⟩
   ·dsimp only
    have kO:(pendingOf ah).size > 1:=by
     by_cases hq:(pendingOf ah).size > 1
     ·exact hq
     ·rw[if_neg hq]at hh;cases hh
    split
    ·exact jK_ ⟨rfl,g1,g2,g3⟩
    ·refine jz_ (LA hO g1 g2 s!"" s!"" (fun aN k1 k2 k3 k4=>?_))
     rw[if_neg (by simp)]
     exact jK_ ⟨rfl,k1,k2,g3.trans k4⟩
  case post=>
   rintro c ah ⟨rfl,g1,g2,g3⟩
   dsimp only
   refine jz_ (zF_ ?_)
   refine WT ⟨g1.perm,g1.kind,g1.failed⟩ ?_ hn ?_ h
   ·refine Ch.same ?_ g2
    show _=((pendingOf ah).modify _ _).toList.map _
    rw[Array.toList_modify]
    apply qL_
    intro i
    rw[jd_,jd_,List.getElem?_modify]
    by_cases hi:(pendingOf ah).size-1=i
    ·simp only[if_pos hi];cases (pendingOf ah).toList[i]?<;>rfl
    ·simp only[if_neg hi];cases (pendingOf ah).toList[i]?<;>rfl
   ·exact Hy (fun i h1 h2=>g3 i s!"") hs
def MK {st:SortSt}  (hO:LtOk kd κ a₀ prog w A E s)(hB:SB kd a₀ st)(hp:pendingOf st = #[])
  (h:∀ah,SB kd a₀ ah->SO κ (arrOf ah) 0 a₀.size->Q () ah):wpS (model prog w) A E s sortRuns' Q st:=by
 rw[Kt]
 refine jz_ (wpS_get ?_)
 rw[hB.size]
 generalize minRun' a₀.size a₀.size 0=mr
 refine jz_ (xY_ (qI_ (I:=fun x c ah=>SB kd a₀ ah/\∃lo,c=(none,lo)/\lo<=a₀.size/\(x<=lo\/a₀.size<=lo)/\Ch κ (arrOf ah) (pendingOf ah).toList 0 lo)
  (Q:=fun c ah=>SB kd a₀ ah/\c=(none,a₀.size)/\Ch κ (arrOf ah) (pendingOf ah).toList 0 a₀.size) ?step ?fin ⟨hB,0,rfl,by lia,by lia,by rw[hp];rfl⟩) ?post)
 case fin=>
  rintro c ah ⟨g1,lo,rfl,g2,g3,g4⟩
  obtain rfl:lo=a₀.size:=by lia
  exact⟨g1,rfl,g4⟩
 case step=>
  rintro x c ah _ hx ⟨g1,lo,rfl,g2,g3,g4⟩
  unfold RB
  dsimp only
  by_cases bo:lo >= a₀.size
  ·rw[if_pos bo]
   obtain rfl:lo=a₀.size:=by lia
   exact jK_ ⟨g1,rfl,g4⟩
  ·rw[if_neg bo]
   have aU:∀n,1<=n->lo+n<=a₀.size->∀aN,SB kd a₀ aN->Ch κ (arrOf aN) (pendingOf aN).toList 0 (lo+n)->SB kd a₀ aN/\∃mj,((none,lo+n):Option Unit×Nat)=(none,mj)/\mj<=a₀.size/\(x+1<=mj\/a₀.size<=mj)/\Ch κ (arrOf aN) (pendingOf aN).toList 0 mj :=
    fun n h1 h2 aN k1 k2=>⟨k1,lo+n,rfl,h2,by lia,k2⟩
   refine jz_ (MC hO s!"" s!"" g1 (fun m aN k1 k2 k3 k4=>?_))
   have k5:Ch κ (arrOf aN) (pendingOf aN).toList 0 lo:=by rw[k1.pe];exact g4.congr (fun i _ h2=>k1.out i (.inl h2))
   dsimp only
   unfold RN
   by_cases hm:m<mr
   ·rw[if_pos hm]
    refine jz_ (Gq (jz_ (Kq hO s!"" s!"" k1.b k4 (fun di q1 q2=>?_))))
    rw[if_neg (by simp)]
    have q3:Ch κ (arrOf di) (pendingOf di).toList 0 lo:=by rw[q1.pe];exact k5.congr (fun i _ h2=>q1.out i (.inl h2))
    exact WU hO q1.b q3 s!"" s!"" q2 (aU _ s!"" s!"")
   ·rw[if_neg hm]
    exact WU hO k1.b k5 k2 s!"" k4 (aU _ k2 s!"")
 case post=>
  rintro c ah ⟨g1,rfl,g4⟩
  dsimp only
  have aQ:=g4.le
  refine jz_ (xY_ (qI_ (I:=fun x c aN=>c=(none,())/\SB kd a₀ aN/\Ch κ (arrOf aN) (pendingOf aN).toList 0 a₀.size/\(pendingOf aN).size+x<=a₀.size)
   (Q:=fun c aN=>c=(none,())/\SB kd a₀ aN/\Ch κ (arrOf aN) (pendingOf aN).toList 0 a₀.size/\(pendingOf aN).size<=1) ?step2 ?fin2 ⟨rfl,g1,g4,by simpa using aQ⟩) ?post2)
  case fin2=>
   rintro c aN ⟨rfl,k1,k2,k3⟩
   exact⟨rfl,k1,k2,by lia⟩
  case step2=>
   rintro x c aN _ hx ⟨rfl,k1,k2,k3⟩
   unfold FB
   refine jz_ (wpS_get ?_)
   by_cases h1:(pendingOf aN).size<=1
   ·rw[if_pos h1]
    exact jK_ ⟨rfl,k1,k2,h1⟩
   ·rw[if_neg h1]
    have hFI:FI (pendingOf aN)+1<(pendingOf aN).size:=by
     unfold FI
     repeat' split
     all_goals lia
    refine jz_ (LA hO k1 k2 (jg_ _) hFI (fun di q1 q2 q3 q4=>?_))
    rw[if_neg (by simp)]
    exact jK_ ⟨rfl,q1,q2,by lia⟩
  case post2=>
   rintro c aN ⟨rfl,k1,k2,k3⟩
   refine jK_ (h aN k1 ?_)
   have hl:(pendingOf aN).toList.length<=1:=by simpa using k3
   match aO:(pendingOf aN).toList,hl with
   |[],_=>rw[aO]at k2;intro i j h1 h2 h3;rw[<-show 0=a₀.size from k2]at h3;lia
   |[p],_=>
    rw[aO]at k2
    obtain⟨c1,c2,c3,c4⟩:=k2
    have e:0+p.2.1=a₀.size:=c4
    rw[e]at c3
    exact c3
end
end aK
namespace HT
def lexLt_irr2:∀{xs:α2},HT.lexLt xs xs=false
 |[]=>rfl
 |x::xs=>by rw[HT.lexLt_cons,if_pos rfl];exact lexLt_irr2
def lexLt_trans:∀{xs ys zs:α2},lexLt xs ys=true->lexLt ys zs=true->lexLt xs zs=true
 |[],[],_,h,_=>by cases h
 |_::_,[],_,h,_=>by cases h
 |_,_::_,[],_,h=>by cases h
 |[],_::_,_::_,_,_=>rfl
 |x::xs,y::ys,z::zs,h,g=>by
  rw[lexLt_cons]at h g ⊢
  by_cases e1:x=y
  ·rw[if_pos e1]at h
   by_cases e2:y=z
   ·rw[if_pos e2]at g;rw[if_pos (e1.trans e2)];exact lexLt_trans h g
   ·rw[if_neg e2]at g;rw[if_neg (e1 ▸ e2),e1];exact g
  ·rw[if_neg e1]at h
   by_cases e2:y=z
   ·rw[if_neg (e2 ▸ e1),<-e2];exact h
   ·rw[if_neg e2]at g
    have:=ql_ h
    have:=ql_ g
    rw[if_neg s!""]
    exact j8_ s!""
def lexLt_total:∀{xs ys:α2},lexLt xs ys=false->lexLt ys xs=false->xs=ys
 |[],[],_,_=>rfl
 |[],_::_,h,_=>by cases h
 |_::_,[],_,h=>by cases h
 |x::xs,y::ys,h,g=>by
  rw[lexLt_cons]at h g
  by_cases e:x=y
  ·rw[if_pos e]at h;rw[if_pos e.symm]at g;rw[e,lexLt_total h g]
  ·rw[if_neg e]at h;rw[if_neg (qp_ e)]at g
   have:=xu_ h
   have:=xu_ g
   lia
end HT
namespace aK
open PySem PyProof.Rows L2
noncomputable def pblt (x y:Int×α2):Bool:=if x.1=y.1 then HT.lexLt x.2 y.2 else decide (x.1<y.1)
def Jz  (h:pblt a b=true)(g:pblt b c=true):pblt a c=true:=by
 unfold pblt at *
 by_cases e1:a.1=b.1
 ·rw[if_pos e1]at h
  by_cases e2:b.1=c.1
  ·rw[if_pos e2]at g;rw[if_pos (e1.trans e2)];exact HT.lexLt_trans h g
  ·rw[if_neg e2]at g;rw[if_neg (e1 ▸ e2),e1];exact g
 ·rw[if_neg e1]at h
  by_cases e2:b.1=c.1
  ·rw[if_neg (e2 ▸ e1),<-e2];exact h
  ·rw[if_neg e2]at g
   have:=ql_ h
   have:=ql_ g
   rw[if_neg s!""]
   exact j8_ s!""
def JA  (h:pblt a b=false)(g:pblt b a=false):a=b:=by
 unfold pblt at *
 by_cases e:a.1=b.1
 ·rw[if_pos e]at h;rw[if_pos e.symm]at g
  exact Prod.ext e (HT.lexLt_total h g)
 ·rw[if_neg e]at h;rw[if_neg (qp_ e)]at g
  have:=xu_ h
  have:=xu_ g
  lia
def Sr  (h:pblt a c=true):pblt a b=true\/pblt b c=true:=by
 cases e:pblt a b with
 |true=>exact .inl rfl
 |false=>
  cases e2:pblt b a with
  |true=>exact .inr (Jz e2 h)
  |false=>have:=JA e e2;subst this;exact .inr h
noncomputable def KeyV (K:α3)(H:Hp)(v:Value)(n:Int)(ns:α2):Prop:=∃t u,v=.ref t/\SqT K H t [.int n,.ref u]/\SqT K H u (ns.map V.int)
open Classical in
noncomputable def kS (K:α3)(H:Hp):PyProof.Rows.KeyKind where
 α:=Int×α2
 blt:=pblt
 irrefl:=fun a=>by unfold pblt;rw[if_pos rfl];exact HT.lexLt_irr2
 trans:=fun _ _ _=>Jz
 negTrans:=fun _ _ _=>Sr
 total:=fun _ _=>JA
 keyOf:=fun v=>if h:∃p:Int×α2,KeyV K H v p.1 p.2 then some h.choose else none
 dflt:=(0,[])
section
variable {X:Cx} {af:α7} {σ:L2.St} {H:Hp} {s:Shared}
def Ip:∀{ns ms:α2},ns.map V.int=ms.map V.int->ns=ms
 |[],[],_=>rfl
 |[],_::_,h=>by cases h
 |_::_,[],h=>by cases h
 |n::ns,m::ms,h=>by
  simp only[j0_,xH_,V.int.injEq]at h
  rw[h.1,Ip h.2]
def KeyV.inj (I:Inv X af σ H s)    (h:KeyV X.K H v n ns)(g:KeyV X.K H v m ms):n=m/\ns=ms:=by
 obtain⟨t,u,rfl,h1,h2⟩:=h
 obtain⟨t',u',e,g1,g2⟩:=g
 cases e
 have e:=I.tuple_inj h1 g1
 simp only[xH_,V.int.injEq,V.ref.injEq,and_true]at e
 obtain⟨rfl,rfl⟩:=e
 exact⟨rfl,Ip (I.tuple_inj h2 g2)⟩
def Ss (I:Inv X af σ H s)    (h:KeyV X.K H x.1 n ns):KE (kS X.K H) x=(n,ns):=by
 have hex:∃p:Int×α2,KeyV X.K H x.1 p.1 p.2:=⟨(n,ns),h⟩
 have e:(kS X.K H).keyOf x.1=some hex.choose:=dif_pos hex
 have e2:=KeyV.inj I hex.choose_spec h
 unfold KE
 rw[e]
 exact Prod.ext e2.1 e2.2
def Vb (I:Inv X af σ H s)   (hu:A.units+6<cLine)    (hv:KeyV X.K H v n ns)(hw:KeyV X.K H u m ms)  (h:Q (pblt (n,ns) (m,ms)) s):
  wpAny (model X.prog X.w) A (keyLt' (tuples' true) v u) Q E s:=by
 obtain⟨a,ta,rfl,ha,hta⟩:=hv
 obtain⟨b,tb,rfl,hb,kW⟩:=hw
 obtain⟨its,r1,⟨o1,q1,c1,n1,d1⟩,_⟩:=I.tuple ha
 obtain⟨aI,r2,⟨o2,q2,c2,n2,d2⟩,_⟩:=I.tuple hb
 obtain⟨jts,k1,p1,_⟩:=I.tuple hta
 obtain⟨jts2,k2,p2,_⟩:=I.tuple kW
 have i1:IntsAre jts.toArray.toList ns:=intsAre_of k1
 have i2:IntsAre jts2.toArray.toList ms:=intsAre_of k2
 have eqT:=fun (bb:Bool) (he:EqD X.K H 2 (.ref ta) (.ref tb) bb)=>(EqD.at (x:=V.ref ta) (y:=V.ref tb) (u:=Value.ref ta) (v:=Value.ref tb) I 2 A s!"" rfl rfl he).1
 have hed:=EqD.ints (K:=X.K) (H:=H) (a:=ta) (c:=tb) (xs:=ns) (ys:=ms) (.inr ⟨hta,kW⟩) 1
 cases r1 with
 |cons e1 r1'=>cases r1' with
  |cons e2 r1''=>cases r1'';cases r2 with
   |cons e3 r2'=>cases r2' with
    |cons e4 r2'' =>
     cases r2''
     obtain⟨t1,rfl⟩:=e1
     obtain⟨t2,rfl⟩:=e3
     cases e2
     cases e4
     refine PySem.W.kat_lt q1 d1 q2 d2 ?_
     simp only[zP_,List.zip_nil_right]
     refine PySem.W.kat_cons (wpAny_eqBool_int (PySem.W.kat_go (fun e=>?_) (fun e=>?_)))
     ·have m9:n=m:=by simpa using e
      refine PySem.W.kat_yes (PySem.W.kat_cons (eqT _ hed _ _ _ _ (PySem.W.kat_go (fun e'=>?_) (fun e'=>?_))))
      ·have gT:ns=ms:=ql_ e'
       refine PySem.W.kat_yes (PySem.W.kat_nil ?_)
       have:pblt (n,ns) (m,ms)=decide (([Value.int n t1,Value.ref ta].toArray).size<([Value.int m t2,Value.ref tb].toArray).size):=by
        subst m9;subst gT
        unfold pblt
        rw[if_pos rfl,HT.lexLt_irr2];rfl
       rw[<-this];exact h
      ·have gT:ns≠ms:=xu_ e'
       refine PySem.W.kat_no (PySem.W.kat_one _ _ ?_)
       have:pblt (n,ns) (m,ms)=HT.lexLt ns ms:=by unfold pblt;rw[if_pos m9]
       rw[this]at h
       exact HT.lt_tupInts p1 p2 i1 i2 s!"" h
     ·have m9:n≠m:=by simpa using e
      refine PySem.W.kat_no ?_
      show wpAny _ _ (oneLt' true _ _) _ _ _
      refine oneLt_int ?_
      have:pblt (n,ns) (m,ms)=decide (n<m):=by unfold pblt;rw[if_neg m9]
      rw[<-this];exact h
def ltOk (I:Inv X af σ H s)   (hu:A.units+6<cLine)  (hk:∀x∈a₀.toList,∃n ns,KeyV X.K H x.1 n ns):LtOk (tuples' true) (kS X.K H) a₀ X.prog X.w A E s:=by
 intro x y st Q hx hy lQ h
 obtain⟨n,ns,h1⟩:=hk x hx
 obtain⟨m,ms,h2⟩:=hk y hy
 rw[Ss I h1,Ss I h2]at h
 rw[lt'_eq]
 refine jz_ (wpS_get ?_)
 rw[lQ]
 refine jz_ (wpS_lift (xK_ (Vb I hu h1 h2 ⟨rfl,?_⟩)))
 exact jK_ h
end
end aK
namespace aK
open PySem PyProof.Rows L2
def ML {α β:Type}{f:α->β}:∀{k l:List β},k.Perm l->∀m:List α,k=m.map f->∃m':List α,m'.Perm m/\l=m'.map f:=by
 intro k l h
 induction h with
 |nil=>intro m e;cases m with
  |nil=>exact⟨[],.refl _,rfl⟩
  |cons=>cases e
 |cons x _ ih=>intro m e;cases m with
  |nil=>cases e
  |cons y m=>
   simp only[j0_,xH_]at e
   obtain⟨rfl,e⟩:=e
   obtain⟨m',p,rfl⟩:=ih m e
   exact⟨y::m',p.cons y,rfl⟩
 |swap x y l=>intro m e;cases m with
  |nil=>cases e
  |cons a m=>cases m with
   |nil=>cases e
   |cons b m=>
    simp only[j0_,xH_]at e
    obtain⟨rfl,rfl,rfl⟩:=e
    exact⟨b::a::m,.swap a b m,rfl⟩
 |trans _ _ ih1 ih2=>
  intro m e
  obtain⟨m1,p1,e1⟩:=ih1 m e
  obtain⟨m2,p2,e2⟩:=ih2 m1 e1
  exact⟨m2,p2.trans p1,e2⟩
noncomputable abbrev Wd:=Addr×α2
noncomputable def wv (ws:List Wd):List V:=ws.map fun w=>V.ref w.1
noncomputable def wu (ws:List Wd):List Value:=ws.map fun w=>Value.ref w.1
def Q6:∀ws:List Wd,Vals (wv ws) (wu ws)
 |[]=>.nil
 |_::r=>.cons rfl (Q6 r)
def FN:∀{ts:List Addr} {us:List Value},Vals (ts.map V.ref) us->us=ts.map Value.ref
 |[],_,h=>by cases h;rfl
 |t::ts,_,h=>by
  cases h with
  |cons e r=>
   have e':_=Value.ref t:=e
   rw[FN r,e'];rfl
noncomputable def kw (w:Wd):Int×α2:=((w.2.length:Int),w.2)
noncomputable def Srt (os:List Wd):Prop:=os.Pairwise fun p q=>pblt (kw q) (kw p)=false
noncomputable def WsOk (K:α3)(H:Hp)(ws:List Wd):Prop:=∀w∈ws,SqT K H w.1 (w.2.map V.int)
noncomputable def TsOk (K:α3)(H:Hp)(ts:List Addr)(ws:List Wd):Prop:=∀(j:Nat) t w,ts[j]?=some t->ws[j]?=some w->SqT K H t [.int w.2.length,.ref w.1]
section
variable {X:Cx} {af:α7} {σ:L2.St} {H H0:Hp} {s:Shared} {A:Around} {E:Value->Shared->Prop} {ws:List Wd} {ts:List Addr} {a kT:Addr} {e1:Nat} {P:PySem.Fin->Shared->Prop} {f:Value}
noncomputable def Turn (X:Cx)(af:α7)(σ:L2.St)(A:Around)(f:Value)(ws:List Wd)(H0:Hp):Prop:=∀w∈ws,∀(H':Hp) (s':Shared),Inv X af σ H' s'->Same H0 H' ->
 wpAny (model X.prog X.w) A (call f [.ref w.1]) (EP X af σ (fun k gS=>∃t,k=.ref t/\Same H' gS/\SqT X.K gS t [.int w.2.length,.ref w.1])) (fun _ _=>False) s'
noncomputable abbrev Emp (a:Addr)(e1:Nat):L2.HO:=.ext fun h=>h.get? a=some (seqObj "list" #[] e1)
noncomputable def Su (X:Cx)(af:α7)(σ:L2.St)(H0:Hp)(a:Addr)(ws:List Wd)(P:PySem.Fin->Shared->Prop):Prop:=
 ∀s' H' os,Inv X af σ H' s'->Same H0 H'->H' a=some (.lst (wv os))->os.Perm ws->Srt os->P (.done (.ret .none)) s'
def WV {st:SortSt}{os:List Wd}(I:Inv X af σ H s)(ha:H a=some (Emp a e1))(hk:H kT=some (.lst (ts.map V.ref)))(kX:kT≠a)(h0:Same H0 H)(hn:H0 a=none)(kY:H0 kT=none)(hz:os.length<=sizeLine)
  (harr:(arrOf st).map (·.2)=(wu os).toArray) (hf:failedOf st=none) (hp:os.Perm ws) (hs:Srt os) (h:Su X af σ H0 a ws P):
  wpAny (model X.prog X.w) A (ksk_tail a false e1 (.ref kT) st) P E s:=by
 obtain⟨z,its,n,r,el,e⟩:=I.lstM hk
 have I1:Inv X af σ (upd H kT (.lst [])) {s with heap:=s.heap.update kT (Obj.mapSeq fun _=>(#[]:Array Value)),toks:=s.toks}:=I.lset (its':=[]) (f:=fun _ => #[]) hk e rfl .nil (jX_ _)
 have kZ:upd H kT (.lst []) a=some (Emp a e1):=by rw[Aj (qp_ kX)];exact ha
 obtain⟨e2,_,_⟩:=I1.hok a _ kZ
 unfold ksk_tail
 refine je_ (listUpdate_at e rfl ?_ (by rw[jm_,<-el];exact z) (jX_ _))
 refine je_ (wpAny_letGo ?_)
 refine je_ (seqEpoch_at e2 rfl ?_)
 simp only[jY_,q3_]
 rw[harr]
 refine je_ (listUpdate_at e2 rfl ?_ (jX_ _) (by rw[jm_];simp only[wu,ja_];lia))
 rw[hf]
 simp only[bne_self_eq_false,jY_,q3_]
 have q:=x3_ (f:=fun _=>(wu os).toArray) e2
 have I2:Inv X af σ (upd (upd H kT (.lst [])) a (.lst (wv os))) {s with heap:=(s.heap.update kT (Obj.mapSeq fun _=>(#[]:Array Value))).update a (Obj.mapSeq fun _=>(wu os).toArray),toks:=s.toks}:=by
  refine I1.write (x:=a) (e:=a) (by rw[kZ];exact trivial) (.inl rfl) (fun b' u hb hu=>(j9_ _ _ (qp_ hb)).trans hu) ⟨_,q⟩ ⟨by simp only[wv,ja_];exact hz,wu os,_,Q6 os,q⟩
 exact ju_ (h _ _ os I2 ((h0.over kY).over hn) Ab hp hs)
def JC (hl:ts.length=ws.length):((ts.map Value.ref).toArray.zip (wu ws).toArray).toList=(ts.zip ws).map fun p=>(Value.ref p.1,Value.ref p.2.1):=by
 rw[ksk_zip,zO_]
 unfold wu
 rw[List.zip_map]
 rfl
def Q7 (hl:ts.length=ws.length)(hT:TsOk X.K H ts ws)  (hp:p∈ts.zip ws):SqT X.K H p.1 [.int p.2.2.length,.ref p.2.1]:=by
 obtain⟨j,hj,e⟩:=x0_.mp hp
 rw[List.getElem_zip]at e
 rw[zM_]at hj
 subst e
 exact hT j _ _ (jf_ s!"") (jf_ s!"")
def Q8 (I:Inv X af σ H s):∀(ts:List Addr) (ws:List Wd),ts.length=ws.length->(∀p∈ts.zip ws,SqT X.K H p.1 [.int p.2.2.length,.ref p.2.1])->∃fs:List Value,PySem.W.KatTups s.heap (ts.map Value.ref) fs/\fs.length=ts.length/\∀v∈fs,∃n t,v=.int n t
 |[],[],_,_=>⟨[],trivial,rfl,fun v hv=>by cases hv⟩
 |t::ts,w::ws,hl,h=>by
  obtain⟨fs,h1,h2,h3⟩:=Q8 I ts ws (by simpa using hl) (fun p hp=>h p (jk_ _ hp))
  have h4:SqT X.K H t [.int w.2.length,.ref w.1]:=h (t,w) jl_
  obtain⟨its,r,⟨o,ho,hc,n,hd⟩,_⟩:=I.tuple h4
  cases r with
  |cons e1 r' =>
   obtain⟨tk,rfl⟩:=e1
   refine⟨.int w.2.length tk::fs,PySem.W.KatTups.cons ho hc hd rfl h1,by simp[h2],fun v hv=>?_⟩
   rcases jC_.mp hv with rfl|hv
   ·exact⟨_,_,rfl⟩
   ·exact h3 v hv
def Xl (I:Inv X af σ H s)(hu:A.units+6<cLine)(ha:H a=some (Emp a e1))(hk:H kT=some (.lst (ts.map V.ref)))(kX:kT≠a)(h0:Same H0 H)(hn:H0 a=none)(kY:H0 kT=none)(hz:ws.length<=sizeLine)
  (hl:ts.length=ws.length) (hW:WsOk X.K H ws) (hT:TsOk X.K H ts ws) (h:Su X af σ H0 a ws P):
  wpAny (model X.prog X.w) A (ksk_end a false (wu ws).toArray e1 (.ref kT) (ts.map Value.ref).toArray) P E s:=by
 have hsz:(wu ws).toArray.size=ws.length:=by simp[wu]
 have cc:=fun p hp=>Q7 (X:=X) (H:=H) hl hT (p:=p) hp
 have fin:∀st:SortSt,(arrOf st).Perm ((ts.map Value.ref).toArray.zip (wu ws).toArray)->failedOf st=none->SO (kS X.K H) (arrOf st) 0 (arrOf st).size->wpAny (model X.prog X.w) A (ksk_tail a false e1 (.ref kT) st) P E s:=by
  intro st hp hf hs
  have kL:=(xZ_.mp hp).symm
  rw[JC hl]at kL
  obtain⟨m',p1,e⟩:=ML kL _ rfl
  have e2:(arrOf st).map (·.2)=(wu (m'.map (·.2))).toArray:=by
   apply Array.ext'
   rw[Array.toList_map,e,zO_]
   simp[wu]
  have pz:(m'.map (·.2)).Perm ws:=by
   have:=p1.map (·.2)
   rwa [List.map_snd_zip s!""]at this
  refine WV I ha hk kX h0 hn kY (by rw[pz.length_eq];exact hz) e2 hf pz ?_ h
  have bY:=(Jy (jg_ _)).mp hs
  have e3:seg (arrOf st) 0 (arrOf st).size=(arrOf st).toList:=by unfold seg;rw[List.drop_zero];exact jP_ (by simp)
  rw[e3,e,xF_]at bY
  unfold Srt
  rw[xF_]
  refine bY.imp_of_mem (fun {x y} hx hy aQ=>?_)
  have kx:KeyV X.K H (Value.ref x.1) x.2.2.length x.2.2:=⟨_,_,rfl,cc x (p1.mem_iff.mp hx),hW _ (xz_ (p1.mem_iff.mp hx)).2⟩
  have ky:KeyV X.K H (Value.ref y.1) y.2.2.length y.2.2:=⟨_,_,rfl,cc y (p1.mem_iff.mp hy),hW _ (xz_ (p1.mem_iff.mp hy)).2⟩
  unfold LeK at aQ
  rw[Ss I (x:=(Value.ref x.1,Value.ref x.2.1)) kx,Ss I (x:=(Value.ref y.1,Value.ref y.2.1)) ky]at aQ
  exact aQ
 unfold ksk_end
 simp only[jY_,q3_]
 by_cases h2:(wu ws).toArray.size<2
 ·rw[if_pos h2,if_pos h2]
  refine je_ (ju_ ?_)
  rw[StateT.run_pure]
  refine je_ (ju_ ?_)
  refine fin (SortSt.mk' general' ((ts.map Value.ref).toArray.zip (wu ws).toArray) #[] 7 none) (Array.Perm.refl _) rfl ?_
  intro i j g1 g2 g3
  have g4:j<((ts.map Value.ref).toArray.zip (wu ws).toArray).size:=g3
  rw[Array.size_zip,hsz]at g4
  have:i=j:=by lia
  subst this
  exact qH_ _
 ·rw[if_neg h2,if_neg h2]
  obtain⟨fs,f1,f2,f3⟩:=Q8 I ts ws hl cc
  refine je_ (PySem.W.kat_kind (T:=.type "int") f1 s!"" (fun v hv=>?_) (by decide) ?_)
  ·obtain⟨n,t,rfl⟩:=f3 v hv
   exact PySem.W.Looks.of_pure rfl
  ·have hz0:((ts.map Value.ref).toArray.zip (wu ws).toArray).size=ws.length:=by simp[wu,hl]
   refine je_ (qO_ (MK (κ:=kS X.K H) (kd:=tuples' true) (a₀:=(ts.map Value.ref).toArray.zip (wu ws).toArray) (st:=SortSt.mk' (tuples' true) ((ts.map Value.ref).toArray.zip (wu ws).toArray) #[] 7 none)
    (Q:=fun _ ah=>SB (tuples' true) ((ts.map Value.ref).toArray.zip (wu ws).toArray) ah/\SO (kS X.K H) (arrOf ah) 0 ((ts.map Value.ref).toArray.zip (wu ws).toArray).size)
    (ltOk I hu (fun x hx=>?_)) ⟨Array.Perm.refl _,rfl,rfl⟩ rfl fun ah a1 a2=>⟨a1,a2⟩) ?_ fun _ _ e=>e)
   ·rw[JC hl]at hx
    obtain⟨p,hp,rfl⟩:=jv_.mp hx
    exact⟨p.2.2.length,p.2.2,_,_,rfl,cc p hp,hW _ (xz_ hp).2⟩
   ·rintro⟨⟨⟩,ah⟩ s' ⟨rfl,hB,hS⟩
    exact fin ah hB.perm hB.failed (by rw[hB.size];exact hS)
def WsOk.same {K:α3}  (h:WsOk K H ws)(e:Same H H'):WsOk K H' ws:=fun w hw=>e.seqT (h w hw)
def Sv {K:α3}     (hp:H p=some (.lst zs))(h:SqT K H b xs):SqT K (upd H p o) b xs:=by
 have:TSq K H (upd H p o):=TSq.un (fun xs e=>by rw[hp]at e;cases e) (fun ob xs e=>by rw[hp]at e;cases e)
 exact this b xs h
def WW (I:Inv X af σ H s)(hu:A.units+6<cLine)(ha:H a=some (Emp a e1))(hk:H kT=some (.lst []))(kX:kT≠a)(h0:Same H0 H)(hn:H0 a=none)(kY:H0 kT=none)(hz:ws.length<sizeLine)
  (hW:WsOk X.K H0 ws) (hT:Turn X af σ A f ws H0) (h:Su X af σ H0 a ws P):
  wpAny (model X.prog X.w) A (ksk_rest a f false (wu ws).toArray e1 (.ref kT)) P E s:=by
 unfold ksk_rest
 refine je_ (wpAny_rule ?_)
 rw[List.forIn_toArray]
 refine je_ (ksk_fold (fun i s'=>∃(H':Hp) (ts:List Addr),Inv X af σ H' s'/\Same H0 H'/\H' a=some (Emp a e1)/\H' kT=some (.lst (ts.map V.ref))/\ts.length=i/\TsOk X.K H' ts ws) (wu ws) 0 s
  ⟨H,[],I,h0,ha,hk,rfl,fun j t w h1 _=>by simp at h1⟩ ?step ?done)
 case step=>
  rintro j x s' hx ⟨H',ts,I',g0,g1,g2,g3,g4⟩
  simp only[zv_]at g3 ⊢
  unfold wu at hx
  rw[jd_]at hx
  obtain⟨w,hw,rfl⟩:∃w,ws[j]?=some w/\Value.ref w.1=x:=by
   cases e:ws[j]? with
   |none=>rw[e]at hx;cases hx
   |some w=>rw[e]at hx;cases hx;exact⟨w,rfl,rfl⟩
  have hj:j<ws.length:=(jb_.mp hw).1
  refine je_ (xK_ (qO_ (hT w (jc_ hw) H' s' I' g0) (fun k s2 eB=>?_) fun _ _ z=>z.elim))
  obtain⟨v,H2,I2,rv,t,rfl,q1,q2⟩:=eB
  have rk:k=Value.ref t:=rv
  subst rk
  have gC:=q1 _ _ g2
  obtain⟨z,its,n,r,el,e⟩:=I2.lstM gC
  dsimp only
  have hi:=FN r
  have js:its.length=j:=by rw[hi,ja_];exact g3
  refine je_ (listUpdate_at e rfl ?_ (by rw[jm_,js];lia) (by rw[Array.size_push,jm_,js];lia))
  refine ju_ ⟨rfl,upd H2 kT (.lst ((ts++[t]).map V.ref)),ts++[t],?_,?_,?_,Ab,by simp[g3],?_⟩
  ·have:=I2.lset (its':=its++[Value.ref t]) (ys:=(ts++[t]).map V.ref) (f:=fun a=>a.push (Value.ref t)) (t':=s2.toks) gC e (by simp) (by rw[jV_];exact r.append (.cons rfl .nil)) (by rw[ja_,jn_,g3];simp;lia)
   exact this
  ·exact (g0.trans q1).over kY
  ·rw[Aj (qp_ kX)];exact q1 _ _ g1
  ·intro i t' w' h1 h2
   refine Sv gC ?_
   by_cases hi:i<ts.length
   ·rw[ji_ hi]at h1
    exact q1.seqT (g4 i t' w' h1 h2)
   ·rw[jp_ s!""]at h1
    have:i-ts.length=0:=by
     by_cases hq:i-ts.length=0
     ·exact hq
     ·rw[jT_ (by simp;lia)]at h1;cases h1
    rw[this]at h1
    cases h1
    have:i=j:=by lia
    subst this
    rw[hw]at h2;cases h2
    exact q2
 case done=>
  rintro s' ⟨H',ts,I',g0,g1,g2,g3,g4⟩
  obtain⟨z,its,n,r,el,e⟩:=I'.lstM g2
  have hi:=FN r
  subst hi
  refine je_ (listItems_at e rfl ?_)
  exact Xl I' hu g1 g2 kX g0 hn kY s!"" (by rw[g3];simp[wu]) (hW.same g0) g4 h
def WX {n:Nat}(I:Inv X af σ H s)(hu:A.units+6<cLine)(ha:H a=some (.lst (wv ws)))(h0:Same H0 H)(hn:H0 a=none)(hz:ws.length<sizeLine)(jt:∀b,s.heap.objs.size<=b->H0 b=none)
  (hW:WsOk X.K H0 ws) (hT:Turn X af σ A f ws H0) (h:Su X af σ H0 a ws P):
  wpAny (model X.prog X.w) A (ksk_tree a f false) P E s:=by
 obtain⟨z,its,n,r,el,e⟩:=I.lstM ha
 have hi:its=wu ws:=by
  have:Vals ((ws.map (·.1)).map V.ref) its:=by rw[jR_];exact r
  rw[FN this,jR_];rfl
 subst hi
 have q:=x3_ (f:=fun _=>(#[]:Array Value)) e
 obtain⟨e1,k9⟩:∃e1,(s.heap.update a (Obj.mapSeq fun _=>(#[]:Array Value))).get? a=some (seqObj "list" #[] e1):=⟨_,q⟩
 have I1:Inv X af σ (upd H a (Emp a e1)) {s with heap:=s.heap.update a (Obj.mapSeq fun _=>(#[]:Array Value)),toks:=s.toks}:=by
  refine I.write (x:=a) (e:=a) (by rw[ha];exact trivial) (.inl rfl) (fun b' u hb hu=>(j9_ _ _ (qp_ hb)).trans hu) ⟨_,k9⟩ ⟨k9,⟨_,k9⟩,fun h1 h2 g1 g2=>g2 _ g1⟩
 unfold ksk_tree
 refine je_ (listItems_at e rfl ?_)
 refine je_ (listUpdate_at e rfl ?_ (by rw[jm_];simp only[wu,ja_];lia) (jX_ _))
 refine je_ (seqEpoch_at k9 rfl ?_)
 refine je_ (wpAny_newTuple ?_ (by rw[zO_];simp only[wu,ja_];lia))
 refine je_ (wpAny_newList ?_ (jX_ _))
 refine qW_ ?_
 have I2:=I1.kept (t':=s.toks) (h':=(s.heap.update a (Obj.mapSeq fun _=>(#[]:Array Value))).push {cls:=.type "tuple",data:=.seq (wu ws).toArray}) (fun _ _ q=>jo_ _ q)
 have I3:=I2.lnew (t':=s.toks) (its:=[]) (ys:=[]) .nil (jX_ _)
 have hk:((s.heap.update a (Obj.mapSeq fun _=>(#[]:Array Value))).push {cls:=.type "tuple",data:=.seq (wu ws).toArray}).objs.size=s.heap.objs.size+1:=by rw[size_push',Heap.size_update]
 have ar:=js_ e
 refine WW I3 hu ?_ Ab ?_ ?_ hn ?_ hz hW hT h
 ·rw[Aj (by show a≠_;rw[hk];exact jL_ (xj_ ar))];exact Ab
 ·show _≠a
  rw[hk];exact qM_ (xj_ ar)
 ·refine (h0.over hn).over (jt _ ?_)
  show _<=_
  rw[hk];lia
 ·refine jt _ ?_
  show _<=_
  rw[hk];lia
noncomputable def Xm (X:Cx)(af:α7)(σ:L2.St)(H:Hp)(ws:List Wd)(Q:Value->Shared->Prop):Prop:=
 ∀s' H' D os,Inv X af σ H' s'->Same H H'->H D=none->H' D=some (.lst (wv os))->os.Perm ws->Srt os->Q (.ref D) s'
def Sw   (I:Inv X af σ H s)(hu:A.units+8<cLine)(hl:SqL X.K H l (wv ws))(hz:ws.length<sizeLine)(hW:WsOk X.K H ws)
  (hT:Turn X af σ A.in1.in1 (.ref q) ws H) (h:Xm X af σ H ws Q):
  wpAny (model X.prog X.w) A (call (.builtin "sorted") [.ref l] [(Str.ofString "key",.ref q)]) Q E s:=by
 obtain⟨its,r,pl,_⟩:=I.list hl
 have hi:its=wu ws:=by
  have:Vals ((ws.map (·.1)).map V.ref) its:=by rw[jR_];exact r
  rw[FN this,jR_];rfl
 subst hi
 have ak:(wu ws).length=ws.length:=by simp[wu]
 refine call_function_entry_kw kind_sorted plain_sorted entry_sorted (ksk_s1 _ _) ?_
 unfold Builtin.«sorted»
 refine je_ (m:=checkCount "sorted" 1 1 _) (ju_ ?_)
 refine je_ (collect_list (vs:=wu ws) ?isl ?_ s!"")
 case isl=>
  exact pl.isList
 refine je_ (wpAny_newList ?_ s!"")
 have hsz:((s.heap.push (seqObj "list" #[] 0)).update s.heap.objs.size (Obj.mapSeq (· ++ (wu ws).toArray))).objs.size=s.heap.objs.size+1:=by
  rw[Heap.size_update,size_push']
 have keep:∀b o,s.heap.get? b=some o->((s.heap.push (seqObj "list" #[] 0)).update s.heap.objs.size (Obj.mapSeq (· ++ (wu ws).toArray))).get? b=some o:=fun b o q=>by
  have ar:b<s.heap.objs.size:=js_ q
  rw[Heap.get?_update_ne _ _ _ _ (jL_ ar),Heap.get?_push_ne _ _ _ (jL_ ar)]
  exact q
 have I1:=I.kept (t':=s.toks) keep
 have I2:=I1.lnew (t':=s.toks) (its:=wu ws) (ys:=wv ws) (Q6 ws) (by simp only[wv,ja_];lia)
 have hD:H (s.heap.objs.size+1)=none:=I.hok.fresh (zZ_ _)
 have nY:(((s.heap.push (seqObj "list" #[] 0)).update s.heap.objs.size (Obj.mapSeq (· ++ (wu ws).toArray))).push (seqObj "list" (wu ws).toArray 0)).get? (s.heap.objs.size+1)=some (seqObj "list" (wu ws).toArray 0):=by
  rw[<-hsz];exact jF_ _ rfl
 show wpAny _ _ _ _ _ {s with heap:=((s.heap.push (seqObj "list" #[] 0)).update s.heap.objs.size (Obj.mapSeq (· ++ (wu ws).toArray))).push (seqObj "list" (wu ws).toArray 0)}
 have I3:Inv X af σ (upd H (s.heap.objs.size+1) (.lst (wv ws))) {s with heap:=((s.heap.push (seqObj "list" #[] 0)).update s.heap.objs.size (Obj.mapSeq (· ++ (wu ws).toArray))).push (seqObj "list" (wu ws).toArray 0)}:=by
  have:=I2
  dsimp only at this
  rw[hsz]at this
  exact this
 rw[hsz]
 refine je_ (qW_ (wpAny_call_entry_kw slot_list_sort ⟨_,nY,rfl⟩ entry_list_sort ?body (ksk_l1 _ _)))
 case body=>
  have dS:=ksk_t1 q (s.heap.objs.size+1)
  show wpAny (model X.prog X.w) A.in1.in1 (Builtin.«list.sort» ⟨[.ref (s.heap.objs.size+1)],[(Str.ofString "key",.ref q)]⟩) _ _ _
  rw[dS]
  refine WX (n:=0) (H0:=H) I3 (by rw[in1_units,in1_units];lia) Ab (Same.new hD) hD hz (fun b hb=>I.hok.fresh ?_) hW hT fun s' H' os I' g1 g2 g3 g4=>⟨_,rfl,?_⟩
  ·have gL:(((s.heap.push (seqObj "list" #[] 0)).update s.heap.objs.size (Obj.mapSeq (· ++ (wu ws).toArray))).push (seqObj "list" (wu ws).toArray 0)).objs.size<=b:=hb
   rw[size_push',hsz]at gL
   lia
  ·exact ju_ ⟨_,rfl,h s' H' _ os I' g1 hD g2 g3 g4⟩
end
end aK
namespace L2
open PySem PySem.Spec PyProof.Rows
def WY   {K:α3}
               (S:FnScope N ps scope) (hr:Room (k+1) A) (e0:Env0 P w K mg base A outer s H)
    (ho:s.heap.get? f=some (PySem.W.kla_obj name qual params body scope [] pm c' gD)) (bL:s.heap.CodeRec (.ref c') qual) (hb:bindArgs (PySem.W.kla_fn name qual params body scope [] pm (.ref c') gD) args=pure (ps.zip us)) (r:Vals vs us) (hl:vs.length=ps.length)
    (ht:PE (cxOf CX0 P w K mg base N qual scope f (.ref c') A outer s H E).nox body t) (hq:t (start N vs) H Q):codeAny (model P w) A (.call (.ref f) args) (CR CX0 outer P w H s Q E) s:=by
  have n6:s.heap.NoLimit:=e0.mod.nolimit.keeps fun b o e=>(e0.bs b o e).1
  have fD:∀y∈ps.zip us,scope.names.lookup y.1=some .local\/(scope.names.lookup y.1=some .cell/\((cellsFrom (s.heap.objs.size+1) scope.names []).lookup y.1).isSome=true):=fun ⟨n,v⟩ hy=>by
    rcases S.par n (xz_ hy).1 with q|q
    . exact .inl q
    . exact .inr ⟨q,xN_ _ _ _ (.inl q)⟩
  refine PySem.W.kla_callFunE hr.depth ho rfl S.co S.gen rfl bL ?_
  rw[hb]
  refine ju_ ?_
  refine wpAny_newFunctionEnv_cells S.kind fD fun env he s1 x=>?_
  subst he
  refine⟨n6.keeps x.toInCall.keep,PySem.W.kla_codeExpr ?_⟩
  have I:Inv (cxOf CX0 P w K mg base N qual scope f (.ref c') A outer s H E) [] (start N vs) H s1:=K2 S hr.hd e0 hl r x
  refine qO_ (ht [] s1 (start N vs) H _ (I.wish _) hq) (fun u s' hs=>?_) fun e s' hs=>hs.elim
  obtain⟨v,H',J,rv,q⟩:=hs
  have J':=J.unwish
  exact⟨v,H',J'.os,J'.bare,J'.base,J'.hok,rv,q⟩
noncomputable def BmOk (mg:Str->α5)(base:Heap):Prop:=∃bm ob,mg "__builtins__"=some (.ref bm)/\bm≠builtinsNs/\base.get? bm=some ob/\ob.cls=.type "module" /\ ob.dict=some builtinsNs/\ob.data=.plain
end L2
namespace L2
open PySem PySem.Spec PyProof.Rows aK
noncomputable abbrev lamA (ap:Pos):Arguments:={posonlyargs:=[],args:=[{arg := "word",annotation:=none,pos:=ap}],vararg:=none,kwonlyargs:=[],kw_defaults:=[],kwarg:=none,defaults:=[]}
noncomputable abbrev lamB (p1 p2 p3 p4 p5:Pos):Expr:=.Tuple [.Call (.Name "len" p1) [.Name "word" p2] [] p3,.Name "word" p4] 0 p5
noncomputable abbrev lamS:Scope:={kind:=.function,names:=[(Str.ofString "word",.local),(Str.ofString "len",.globalImplicit)],isGenerator:=false,isCoroutine:=false,more:=[]}
def Sx:FnScope ["word"] ["word"] lamS:=⟨rfl,rfl,rfl,by decide,rfl,fun x hx=>.inl (by rw[jr_.mp hx];rfl),fun y hy=>by
 rcases jC_.mp hy with rfl|hy
 ·simp
 ·rw[jr_.mp hy];simp⟩
end L2
namespace L2
open PySem PySem.Spec PyProof.Rows
def Q9   {K:α3}
  (KX:K.In s₁.heap) (gT:s₁.heap.Ns mainGlobals mg) (hb:s₁.heap.Ns builtinsNs mb) (hbb:∀x:Str,x ≠ "__name__" -> mb x=bootBuiltins x) (hlim:s₁.heap.NoLimit) (hg:s₁.gens = #[]) (oN:BmOk mg s₁.heap)
  (hC:PySem.W.CodeHd s₁.heap c T) (hT:s₁.heap.get? T=some (PySem.W.tabObj #[])) (oO:K.lookup T=none)
  (ha:s₁.heap.get? a=some {cls:=.type "list",data:=.seq vs.toArray}) (hi:IntsAre vs ns) (hl:ns.length<=sizeLine) (hr:Room k callerA)
  (F:∀base:Heap,K.In base->base.Ns mainGlobals mg->PySem.W.CodeHd base c T->BmOk mg base->FnOk P w K mg base CX k fa fd [x] sp) (hbind:∀(s:Shared) (u:Value),BindsTo s fd ⟨[u],[]⟩ [(x,u)])
  (ee:∀H:Hp,H T=some (.tbl #[])->SqL K H a (ns.map V.int)->sp [.ref a] H (fun v _=>v=.bl true) fun _ _ _=>False)
  (oP:∀H e s',CX [] H s₁ (fun _ _ _=>False) e s'->False):
  codeAny (model P w) callerA (.call (.ref fa) ⟨[.ref a],[]⟩) (fun r s'=>r=.ok (.ret (.bool true))/\OldK s₁.heap s'.heap/\s'.os=s₁.os/\AllBare s'.gens) s₁:=by
 have rv:=K4 hi
 have lenV:=hi.length
 have hTa:T≠a:=fun z=>by subst z;rw[hT]at ha;cases ha
 have core:∀H:Hp,H T=some (.tbl #[])->SqL K H a (ns.map V.int)->HOk P w H s₁.heap->(∀b,H b≠none->b=T\/(b=a/\K.lookup a=none/\∃o xs,H a=some (.frz o (.lst xs)))) ->
   codeAny (model P w) callerA (.call (.ref fa) ⟨[.ref a],[]⟩) (fun r s'=>r=.ok (.ret (.bool true))/\OldK s₁.heap s'.heap/\s'.os=s₁.os/\AllBare s'.gens) s₁:=by
  intro H hHT hS hok hA
  have free:∀{b:Addr} {o:Obj},s₁.heap.get? b=some o->o.cls ≠ .none->o.data ≠ .seq vs.toArray 0->H b=none:=fun {b o} e h1 h2=>by
   cases q:H b with
   |none=>rfl
   |some u=>
    rcases hA b (by rw[q];simp) with rfl|⟨rfl,_⟩
    ·rw[hT]at e;cases e;exact absurd rfl h1
    ·rw[ha]at e;cases e;exact absurd rfl h2
  have nc:∀{b:Addr} {m:Str->α5},s₁.heap.Ns b m->(hidT s₁.heap H).Ns b m:=fun {b m} ⟨o,es,ep,e,d,r⟩=>⟨o,es,ep,Hi e (by
   cases q:H b with
   |none=>rfl
   |some u=>
    rcases hA b (by rw[q];simp) with rfl|⟨rfl,_⟩
    ·rw[hT]at e;cases e;cases d
    ·rw[ha]at e;cases e;cases d),d,r⟩
  have hKb:K.In (hidT s₁.heap H):=fun b o e=>Hi (KX b o e) (by
   cases q:H b with
   |none=>rfl
   |some u=>
    rcases hA b (by rw[q];simp) with rfl|⟨rfl,z,_⟩
    ·rw[oO]at e;cases e
    ·rw[z]at e;cases e)
  have hM:Mod K mg (hidT s₁.heap H):=⟨hKb,nc gT,⟨mb,nc hb,hbb⟩,let ⟨mc,h1,h2⟩:=hlim;⟨mc,nc h1,h2⟩⟩
  have e0:Env0 P w K mg (hidT s₁.heap H) callerA [] s₁ H:=⟨rfl,hM,fun b o e=>Uh e,Nat.le_of_eq (O2 _ _),trivial,fun b hb=>absurd (show b∈([]:List Addr) from hb) (by simp),hok,.of_eq hg⟩
  have hCb:PySem.W.CodeHd (hidT s₁.heap H) c T:=by
   obtain⟨o,ws,file,tf,flags,tg,inF,text,tt,e,hc,hd,r⟩:=id hC
   exact⟨o,ws,file,tf,flags,tg,inF,text,tt,Hi e (free e (by rw[hc];intro z;cases z) (by rw[hd];intro z;cases z)),hc,hd,r⟩
  have hbb2:BmOk mg (hidT s₁.heap H):=by
   obtain⟨bm,ob,b1,b2,b3,b4,b5,b6⟩:=oN
   exact⟨bm,ob,b1,b2,Hi b3 (free b3 (by rw[b4];intro z;cases z) (by rw[b6];intro z;cases z)),b4,b5,b6⟩
  refine codeAny_mono ((F _ hKb (nc gT) hCb hbb2).run callerA [] s₁ H ⟨[.ref a],[]⟩ [.ref a] [.ref a] _ _ hr e0 (hbind s₁ (.ref a)) (.cons rfl .nil) (ee H hHT hS)) fun r s' h=>?_
  cases r with
  |error e=>exact (oP H e s' h).elim
  |ok fl=>
   cases fl with
   |next=>exact False.elim h
   |brk=>exact False.elim h
   |cont=>exact False.elim h
   |ret u=>
    obtain⟨v,H',os,bare,un,hok',r',q⟩:=h
    have q':v=.bl true:=q
    subst q'
    obtain rfl:u=Value.bool true:=r'
    have noB:∀b:Addr,b∉frs ([]:List Env):=fun b z=>absurd (show b∈([]:List Addr) from z) (by simp)
    have all:∀b o,s₁.heap.get? b=some o->asItWas s₁.heap s'.heap b o:=fun b o e=>by
     cases q:H b with
     |none=>exact .inl (un.keep b o e q (noB b) (by simp))
     |some u=>
      rcases hA b (by rw[q];simp) with rfl|⟨rfl,_,ob,xs,z⟩
      ·obtain⟨more,z2⟩:=un.tbls b _ hHT
       have e2:s'.heap.get? b=some {cls:=.none,data:=.fields (#[]++more)}:=hok' b _ z2
       rw[hT]at e;cases e
       obtain⟨o',ws,_,_,_,_,_,_,_,e3,hc,hd,h11,_⟩:=hC
       exact .inr (.inl ⟨⟨c,o',ws,e3,hc,hd,h11⟩,rfl,#[],more,rfl,e2⟩)
      ·have z2:=un.frzs b ob _ z
       obtain⟨e1,_⟩:=hok b _ z
       obtain⟨e2,_⟩:=hok' b _ z2
       rw[e]at e1;cases e1
       exact .inl e2
    refine⟨rfl,⟨all,fun b o e=>?_⟩,os,bare⟩
    exact un.there b o e (by simp)
 cases hk:K.lookup a with
 |some o=>
  have e:=KX a o hk
  rw[ha]at e
  cases e
  refine core (fun b=>if b=T then some (.tbl #[]) else none) (if_pos rfl) (.inr ⟨_,vs.toArray,_,hk,rfl,rfl,rfl,by rw[jm_,lenV];exact hl,by simpa using rv⟩) (fun b u z=>?_) (fun b z=>?_)
  ·by_cases hb:b=T
   ·have z':=(if_pos hb).symm.trans z
    cases z';subst hb;exact hT
   ·have z':=(if_neg hb).symm.trans z
    cases z'
  ·by_cases hb:b=T
   ·exact .inl hb
   ·exact absurd (if_neg hb) z
 |none=>
  refine core (fun b=>if b=T then some (.tbl #[]) else if b=a then some (.frz {cls:=.type "list",data:=.seq vs.toArray} (.lst (ns.map V.int))) else none) (if_pos rfl) (.inl (.inr ⟨{cls:=.type "list",data:=.seq vs.toArray},by show (if a=T then _ else _)=_;rw[if_neg (qp_ hTa),if_pos rfl]⟩)) (fun b u z=>?_) (fun b z=>?_)
  ·by_cases hb:b=T
   ·have z':=(if_pos hb).symm.trans z
    cases z';subst hb;exact hT
   ·have z1:=(if_neg hb).symm.trans z
    by_cases eJ:b=a
    ·have z':=(if_pos eJ).symm.trans z1
     cases z'
     subst eJ
     exact⟨ha,by rw[ja_];exact hl,vs,_,rv,ha⟩
    ·have z':=(if_neg eJ).symm.trans z1
     cases z'
  ·by_cases hb:b=T
   ·exact .inl hb
   ·by_cases eJ:b=a
    ·exact .inr ⟨eJ,hk,_,_,by show (if a=T then _ else _)=_;rw[if_neg (qp_ hTa),if_pos rfl]⟩
    ·exact absurd (by show (if b=T then _ else _)=_;rw[if_neg hb,if_neg eJ]) z
def walk_ofT {l:PySem.W.OpenLaw}{n k:Nat}{q:Program}{cm:List Str}{XP:(Str->α5)->Heap->Prop}{YP:World->Heap->Prop}{d:DefRec}{K:Params->α3}{CX:World->CXT}{sp:World->Sp}{x xT:Str}
  (hn:l.most=some n) (fk:n<=sizeLine) (lP:d.params.defaults=[]) (hr:Room k callerA)
  (hY:∀(w:World) (h:Heap),YP w h->(K w.params).In h)
  (F:∀(w:World) (mg:Str->α5) (fa:Addr) (h:Heap),YP w h->(K w.params).In h->h.Ns mainGlobals mg->mg d.name=some (.ref fa) ->
   ∃(fd:α6) (c T:Addr),PySem.W.tabIn (K w.params) xT=some (c,T)/\(K w.params).lookup T=none/\PySem.W.CodeHd h c T/\h.get? T=some (PySem.W.tabObj #[])/\(∀(s:Shared) (u:Value),BindsTo s fd ⟨[u],[]⟩ [(x,u)]) /\
    ∀base:Heap,(K w.params).In base->base.Ns mainGlobals mg->PySem.W.CodeHd base c T->BmOk mg base->FnOk l.prog w (K w.params) mg base (CX w) k fa fd [x] (sp w))
  (ee:∀(w:World) (H:Hp) (a c T:Addr) (ns:α2),ns.length<=n->PySem.W.tabIn (K w.params) xT=some (c,T)->H T=some (.tbl #[])->SqL (K w.params) H a (ns.map V.int)->sp w [.ref a] H (fun v _=>v=.bl true) fun _ _ _=>False)
  (oP:∀(w:World) (H:Hp) (s:Shared) (e:Value) (s':Shared),CX w [] H s (fun _ _ _=>False) e s'->False):
  PySem.W.WalkO q cm XP YP l.row.toRowW d [] (fun f vs=>PySem.call f vs):=by
 refine Att.attach_call hn lP fun w s₀ s₁ mg mb fa o pm cd br a vs ns G Y ho hd bL hmg bz fI ak hg=>?_
 have KX:=hY w _ Y
 obtain⟨fd,c,T,js,oO,hC,hT,hb,hF⟩:=F w mg fa _ Y KX G.T.g hmg
 exact Q9 KX G.T.g G.T.b G.T.builtins G.T.nolimit hg (let ⟨bm,ob,b1,b2,b3,b4,b5,b6⟩:=G.T.bmain;⟨bm,ob,b1,b2,b3,b4,b5,b6⟩) hC hT oO bz fI (qk_ ak fk) hr hF hb (fun H hO hS=>ee w H a c T ns ak js hO hS) fun H e s'=>oP w H s₁ e s'
noncomputable def tabC (K:α3)(x:Str):Addr:=((PySem.W.tabIn K x).getD (0,0)).1
noncomputable def tabP (K:α3)(x:Str):Addr:=((PySem.W.tabIn K x).getD (0,0)).2
def MM {K:α3}   (h:PySem.W.tabIn K x=some (c,T)):tabC K x=c:=by unfold tabC;rw[h];rfl
def Ra {K:α3}   (h:PySem.W.tabIn K x=some (c,T)):tabP K x=T:=by unfold tabP;rw[h];rfl
def Sy {K:α3}      {sl gv:Array (α5)}  (a:nsIn K mainGlobals x=some (some (.ref f)))(l:K.lookup f=some ⟨oc,od,.func fd,sl⟩)(hc:fd.code=.ref c)
  (lc:K.lookup c=some ⟨oc2,od2,.fields vs,gv⟩) (h:vs[11]?=some (.ref T)):PySem.W.tabIn K x=some (c,T):=by
 unfold PySem.W.tabIn
 rw[a]
 dsimp only
 rw[l]
 dsimp only
 rw[hc]
 dsimp only
 rw[lc]
 dsimp only
 rw[h]
structure FunL (K:α3)(mg:Str->α5)(base:Heap)(x qual:Str)(st:Stmt)(f:Addr)(fd:α6):Prop where
 ex:∃(oc:Value) (od:Option Addr) (kV br pm:Value) (an:Option Addr) (ct:Value) (fC:Array (α5)),
  fd=fnOf x qual (C3 st) (Cz st) (Al st) .none kV br pm an (.ref (tabC K x)) ct/\K.lookup f=some ⟨oc,od,.func fd,fC⟩/\codeIn K (.ref (tabC K x)) qual=true
 C:PySem.W.CodeHd base (tabC K x) (tabP K x)
 B:BmOk mg base
section
variable {P:Program} {w:World} {K:α3} {mg:Str->α5} {base:Heap}
def FunL.ok  {st:Stmt}      (F:FunL K mg base x qual st f fd)(S:FnScope N ps (Al st))(len:∀vs H Q E,sp vs H Q E->vs.length=ps.length)
  (cX:∀(ay:Value) (bL:ay=.ref (tabC K x)) (A:Around) (outer:List Env) (s:Shared) (H:Hp) (vs:List V) (Q:VK) (E:XK),Room k (A.deeper (envOfC qual (Al st) s.heap.objs.size f ay))->sp vs H Q E ->
   ∃t,PSs (cxOf CX0 P w K mg base N qual (Al st) f ay A outer s H E).nox (Cz st) t/\t {nx:=fun _ H'=>Q .non H',rt:=Q} (start N vs) H):FnOk P w K mg base CX0 (k+1) f fd ps sp:=by
 obtain⟨oc,od,kV,br,pm,an,ct,fC,rfl,lk,bL⟩:=F.ex
 refine VI lk bL S len fun A outer s H vs Q E hr ee=>?_
 obtain⟨t,h,q⟩:=cX _ rfl A outer s H vs Q E hr ee
 exact⟨t,h.nox,q⟩
def Vc  {st:Stmt}     {kV br pm ct:Value}(ti:PySem.W.tabIn K x=some (c,T))(l:K.lookup f=some ⟨oc,od,.func (fnOf x qual (C3 st) (Cz st) (Al st) .none kV br pm an (.ref c) ct),fC⟩)
  (hc:codeIn K (.ref c) qual=true) (C:PySem.W.CodeHd base c T) (B:BmOk mg base):FunL K mg base x qual st f (fnOf x qual (C3 st) (Cz st) (Al st) .none kV br pm an (.ref c) ct):=
 ⟨⟨oc,od,kV,br,pm,an,ct,fC,by rw[MM ti],l,by rw[MM ti];exact hc⟩,by rw[MM ti,Ra ti];exact C,B⟩
end
end L2
namespace L2
open PySem PySem.Spec PyProof.Rows aK
noncomputable def Cj (T:Addr)(H H':Hp):Prop:=∀b o,b≠T->H b=some o->H' b=some o
noncomputable def LamT (T:Addr)(lp:Pos)(qual:Str)(H:Hp):Prop:=H T=some (.tbl #[]) \/ ∃(c':Addr) (oc:Obj) (vs:Array Value) (t:Tok),H T=some (.tbl #[rawInt lp.line,rawInt lp.col,.ref c'])/\H c'=some (.frz oc (.own 0))/\oc.data=.fields vs/\vs[1]?=some (.str (qual ++ "<lambda>") t)
def LamT.is     (h:LamT T lp qual H):∃ps,H T=some (.tbl ps):=by
 rcases h with h|⟨_,_,_,_,h,_⟩
 ·exact⟨_,h⟩
 ·exact⟨_,h⟩
def LamT.mono     (h:LamT T lp qual H)(s:Same H H'):LamT T lp qual H':=by
 rcases h with h|⟨c',oc,vs,t,h,h2,h3,h4⟩
 ·exact .inl (s _ _ h)
 ·exact .inr ⟨c',oc,vs,t,s _ _ h,s _ _ h2,h3,h4⟩
def Cj.of   (s:Same H H'):Cj T H H':=fun b o _ e=>s b o e
def Cj.trans   (s:Cj T H H')(s':Cj T H' gS):Cj T H gS:=fun b o hb e=>s' b o hb (s b o hb e)
def Cj.ne   (s:Cj T H H')   (e:H b=some o)(ho:∀ps,o ≠ .tbl ps)  (hT:H T=some (.tbl ps)):H' b=some o:=s b o (fun z=>by subst z;rw[hT]at e;cases e;exact ho _ rfl) e
def Cj.tsq {K:α3}   (s:Cj T H H')  (hT:H T=some (.tbl ps))   (h:SqT K H b ys):SqT K H' b ys:=by
 rcases h with h|h
 ·left
  rcases h with h|⟨o,h⟩
  ·exact .inl (s.ne h (fun _ z=>by cases z) hT)
  ·exact .inr ⟨o,s.ne h (fun _ z=>by cases z) hT⟩
 ·exact .inr h
def Cj.lsq {K:α3}   (s:Cj T H H')  (hT:H T=some (.tbl ps))   (h:SqL K H b ys):SqL K H' b ys:=by
 rcases h with h|h
 ·left
  rcases h with h|⟨o,h⟩
  ·exact .inl (s.ne h (fun _ z=>by cases z) hT)
  ·exact .inr ⟨o,s.ne h (fun _ z=>by cases z) hT⟩
 ·exact .inr h
def Cj.none   (s:Cj T H H')  (hT:H' T=some (.tbl ps))  (h:H' b=none):H b=none:=by
 cases q:H b with
 |none=>rfl
 |some o=>
  have:=s b o (fun z=>by subst z;rw[hT]at h;cases h) q
  rw[h]at this;cases this
section
variable {X:Cx} {af:α7} {σ:St} {H:Hp} {s:Shared}
def Inv.tabK      (I:Inv X af σ H s)(hP:H P=some (.tbl ps))(k:∀b o,b≠P->s.heap.get? b=some o->h'.get? b=some o)(e:h'.get? P=some (PySem.W.tabObj (ps++ps')))
  (hc:s.heap.objs.size<=c') (du:h'.get? c'=some oc):Inv X af σ (upd (upd H P (.tbl (ps++ps'))) c' (.frz oc (.own 0))) {s with heap:=h',toks:=t' }:=by
 have nP:∀b,H b=none->b≠P:=fun b n z=>by subst z;rw[hP]at n;cases n
 have mn:∀b u,H b=some u->(∀qs,u ≠ .tbl qs)->b≠P:=fun b u q hu z=>by subst z;rw[hP]at q;cases q;exact hu _ rfl
 have nC:∀b u,H b=some u->b≠c':=fun b u q z=>by subst z;rw[I.hok.fresh hc]at q;cases q
 have nC2:∀b o,s.heap.get? b=some o->b≠c':=fun b o q z=>by subst z;exact absurd (js_ q) (xX_.mpr hc)
 refine I.un ⟨fun b o q n _ _=>k b o (nP b n) q,fun b o q n _ _=>⟨o.slots,k b o (nP b n) q⟩,fun b o q n _=>by rw[Aj (nC2 b o q),Aj (nP b n)];exact n,fun b o q _=>?_,fun b xs q=>?_,fun b o u q=>?_,fun b qs q=>?_⟩ (fun b u q=>?_)
 ·by_cases hb:b=P
  ·subst hb;exact⟨_,e⟩
  ·exact⟨o,k b o hb q⟩
 ·rw[Aj (nC b _ q),Aj (mn b _ q (fun _ z=>by cases z))];exact q
 ·rw[Aj (nC b _ q),Aj (mn b _ q (fun _ z=>by cases z))];exact q
 ·by_cases hb:b=P
  ·subst hb;rw[hP]at q;cases q;exact⟨ps',by rw[Aj (nC b _ hP)];exact Ab⟩
  ·rw[Aj (nC b _ q),Aj hb];exact⟨#[],by rw[q];simp⟩
 ·by_cases hbc:b=c'
  ·subst hbc;rw[Ab]at q;cases q;exact⟨du,_,du⟩
  rw[Aj hbc]at q
  by_cases hb:b=P
  ·subst hb;rw[Ab]at q;cases q;exact e
  ·rw[Aj hb]at q
   refine (I.hok b u q).stay (fun c v hc r=>k c v ?_ r) (fun c r=>by rw[Aj (nC c _ r),Aj (mn c _ r (fun _ z=>by cases z))];exact r) fun c xs r=>by rw[Aj (nC c _ r),Aj (mn c _ r (fun _ z=>by cases z))];exact r
   rcases hc with rfl|hc
   ·exact hb
   ·exact mn c _ hc (fun _ z=>by cases z)
def Rb          (I:Inv X af σ H s)(dX:X.env.code=.ref c)(C:PySem.W.CodeHd X.base c P)(hL:LamT P pos X.env.qual H)
  (hb:BmOk X.mg X.base) (bF:closureFor scope X.env=pure []) (hdef:defaultsOf params X.env=([],[]))
  (h:∀(f c':Addr) (oc:Obj) (vs:Array Value) (t:Tok) (gD:Value) (H':Hp) (s':Shared),Inv X (af++[(f,PySem.W.kla_obj "<lambda>" (X.env.qual ++ "<lambda>") params body scope [] ((X.mg "__name__").getD .none) c' gD)]) σ H' s'->Cj P H H'->H' P=some (.tbl #[rawInt pos.line,rawInt pos.col,.ref c'])->H' c'=some (.frz oc (.own 0))->oc.data=.fields vs->vs[1]?=some (.str (X.env.qual ++ "<lambda>") t)->Q (.ref f) s'):
  wpAny M A (eval (.Lambda params body scope pos) X.env) Q E s:=by
 obtain⟨ps,hP⟩:=hL.is
 obtain⟨bm,ob,b1,b2,b3,b4,b5,b6⟩:=hb
 have hg:s.heap.Ns mainGlobals X.mg:=I.mod.glob.keeps I.bk
 have eP:s.heap.get? P=some (PySem.W.tabObj ps):=I.hok P _ hP
 have nb:∀b o,X.base.get? b=some o->b≠P:=fun b o e z=>by subst z;have:=(I.bs b o e).2;rw[hP]at this;cases this
 have hgP:mainGlobals≠P:=by
  obtain⟨o,es,ep,e,_⟩:=I.mod.glob
  exact nb _ _ e
 have hbG:bm≠mainGlobals:=fun q=>by
  obtain⟨o,es,ep,e,hd,_⟩:=I.mod.glob
  rw[q,e]at b3;cases b3;rw[hd]at b6;cases b6
 refine PySem.W.kla_eval hdef ?_
 rcases hL with hL|⟨c',oc,vs,t,h1,h2,h3,h4⟩
 ·have:ps = #[]:=by rw[hL]at hP;cases hP;rfl
  subst this
  refine PySem.W.kla_makeFunction (mg:=X.mg) bF I.ok.glob hg dX (C.keeps I.bk) eP (by trivial) rfl hgP ⟨bm,ob,b1,b2,hbG,nb _ _ b3,I.bk _ _ b3,b4,b5,b6⟩ fun c' gD h' tk hx bo ar hrec kW=>?_
  obtain⟨c₂,oc,vs,t,e2,du,hd,hv⟩:=hrec
  cases e2
  have I1:=I.tabK (t':=tk) (h':=h'.push (PySem.W.kla_obj "<lambda>" (X.env.qual ++ "<lambda>") params body scope [] ((X.mg "__name__").getD .none) c' gD)) hP (fun b o hb e=>jo_ _ (hx b o hb e)) (jo_ _ kW) bo (jo_ _ du)
  have hsz:s.heap.objs.size<=h'.objs.size:=qk_ bo (q1_ ar)
  have hcP:P≠c':=fun z=>by subst z;exact absurd (js_ eP) (xX_.mpr bo)
  refine h h'.objs.size c' oc vs t gD _ _ (I1.pins_of fun p hp=>?_) (fun b o hb e=>?_) ((Aj hcP).trans Ab) Ab hd hv
  ·rcases jA_.mp hp with hp|hp
   ·exact I1.pin p (jx_ _ hp)
   ·rw[jr_.mp hp]
    refine⟨jF_ _ rfl,?_,fun z=>?_,I.nofs hsz,fun v z=>by cases z⟩
    ·rw[Aj (fun z=>absurd ar (by dsimp only at z;rw[z];exact j5_ _)),Aj (fun z=>by dsimp only at z;subst z;exact absurd (js_ eP) (xX_.mpr hsz))]
     exact I.hok.fresh hsz
    ·dsimp only at z
     have:=I.lt
     rw[<-z]at this
     exact absurd this (xX_.mpr hsz)
  ·rw[Aj (fun z=>by subst z;rw[I.hok.fresh bo]at e;cases e),Aj hb];exact e
 ·have:ps = #[rawInt pos.line,rawInt pos.col,.ref c']:=by rw[h1]at hP;cases hP;rfl
  subst this
  refine PySem.W.kla_makeFunctionHit (mg:=X.mg) (cv:=.ref c') bF I.ok.glob hg dX (C.keeps I.bk) eP (by trivial) (by simp[codeAmong,rawInt]) ⟨bm,ob,b1,b2,hbG,nb _ _ b3,I.bk _ _ b3,b4,b5,b6⟩ fun gD h' tk hk hsz=>?_
  have I1:=I.kept (t':=tk) (h':=h'.push (PySem.W.kla_obj "<lambda>" (X.env.qual ++ "<lambda>") params body scope [] ((X.mg "__name__").getD .none) c' gD)) (fun b o e=>jo_ _ (hk b o e))
  refine h h'.objs.size c' oc vs t gD _ _ (I1.pins_of fun p hp=>?_) (fun b o hb e=>e) h1 h2 h3 h4
  rcases jA_.mp hp with hp|hp
  ·exact I1.pin p (jx_ _ hp)
  ·rw[jr_.mp hp]
   refine⟨jF_ _ rfl,I.hok.fresh hsz,fun z=>?_,I.nofs hsz,fun v z=>by cases z⟩
   dsimp only at z
   have:=I.lt
   rw[<-z]at this
   exact absurd this (xX_.mpr hsz)
end
noncomputable def NR (K:α3)(P:Addr)(lp:Pos)(qual:Str)(t:TA):TE:=fun σ H Q=>t σ H fun vs H1=>∃l ws,vs=[.ref l]/\SqL K H1 l (wv ws)/\WsOk K H1 ws/\ws.length<sizeLine/\LamT P lp qual H1 /\
 ∀H2 D os,Cj P H1 H2->LamT P lp qual H2->H1 D=none->H2 D=some (.lst (wv os))->os.Perm ws->Srt os->Q (.ref D) H2
theorem LB {K:α3}        : NR K P lp qual t σ H Q=t σ H fun vs H1=>∃l ws,vs=[.ref l]/\SqL K H1 l (wv ws)/\WsOk K H1 ws/\ws.length<sizeLine/\LamT P lp qual H1 /\
 ∀H2 D os,Cj P H1 H2->LamT P lp qual H2->H1 D=none->H2 D=some (.lst (wv os))->os.Perm ws->Srt os->Q (.ref D) H2:=rfl
def OM        (hr:Room (k+3) X.A)(hg:Gl X "sorted")(hm:X.mg "sorted"=none)(gY:X.mg "len"=none)(dX:X.env.code=.ref c)(C:PySem.W.CodeHd X.base c P)(oN:BmOk X.mg X.base)
  (ha:PA X [e] ta) (hq:X.env.qual=qual:=by rfl)
  (he:backTo pos (starEach [e] X.env)=(false,eval e X.env)::backTo pos (starEach [] X.env):=by rfl) (gu:(backTo pos (starEach [e] X.env)).any (·.1)=false:=by rfl):
  PE X (.Call (.Name "sorted" p) [e] [⟨some "key",.Lambda (lamA ap) (lamB p1 p2 p3 p4 p5) lamS lp,kp⟩] pos) (NR X.K P lp qual ta):=by
 intro af s σ H Q I h
 subst hq
 refine xr_ (DT I hg hm rfl ?_)
 refine callWith_kw ?_ he gu
 refine thn (ha pos af s σ H _ I h) fun us s1 ⟨vs,H1,I1,r1,q1⟩=>?_
 obtain⟨l,ws,rfl,hl,hW,hz,hP,q⟩:=q1
 obtain⟨ps,hP1⟩:=hP.is
 obtain⟨u1,rfl,rx⟩:=vals1 r1
 cases rx
 refine kws_cons (Rb I1 dX C hP oN rfl rfl fun f c' oc vs t gD H2 s2 I2 iM hT2 b9 hd hv=>kws_nil ?_)
 show wpAny (model X.prog X.w) X.A (call (.builtin "sorted") [.ref l] [(Str.ofString "key",.ref f)]) _ _ s2
 have nP:∀b ys,SqT X.K H1 b ys->SqT X.K H2 b ys:=fun b ys=>iM.tsq hP1
 have bM:SqL X.K H2 l (wv ws):=iM.lsq hP1 hl
 refine Sw I2 (by have:=hr.un;lia) bM hz (fun w hw=>nP _ _ (hW w hw)) (fun w hw H' s' I' hS=>?_) (fun s' H' D os I' g1 g2 g3 g4 g5=>?_)
 ·have hf:=(I'.pin _ (jx_ _ (jx_ _ (jl_)))).1
  have fh:s'.heap.get? c'=some oc:=(I'.hok c' _ (hS _ _ b9)).1
  have mq:s'.heap.CodeRec (.ref c') (X.env.qual ++ "<lambda>"):=⟨c',oc,vs,t,rfl,fh,hd,hv⟩
  have oQ:SqT X.K H' w.1 (w.2.map V.int):=hS.seqT (nP _ _ (hW w hw))
  refine wpAny_call (codeAny_mono (WY (k:=k) (N:=["word"]) (ps:=["word"]) (vs:=[.ref w.1]) (us:=[.ref w.1]) (E:=fun _ _ _=>False) (Q:=fun kv gS=>∃t,kv=.ref t/\Same H' gS/\SqT X.K gS t [.int w.2.length,.ref w.1]) Sx hr.in1.in1 I'.env0.in1.in1 hf mq rfl (.cons rfl .nil) rfl
   (BN (Aa (Ao Ai rfl gY rfl (Aa (pv 0) Ae)) (Aa (pv 0) Ae))) ?_) fun r s2 hq=>?_)
  ·refine⟨.ref w.1,rfl,w.1,w.2.map V.int,rfl,.inr oQ,.ref w.1,rfl,?_,fun p hp=>?_⟩
   ·show 2<=sizeLine
    decide
   ·rw[ja_]
    exact⟨p,rfl,Same.new hp,.inl (.inl Ab)⟩
  ·cases r with
   |error e=>exact hq.elim
   |ok fl=>
    cases fl with
    |ret u=>exact I'.after hq
    |next=>exact False.elim hq
    |brk=>exact False.elim hq
    |cont=>exact False.elim hq
 ·exact⟨.ref D,H',I'.unpinned,rfl,q H' D os (iM.trans (Cj.of g1)) (.inr ⟨c',oc,vs,t,g1 _ _ hT2,g1 _ _ b9,hd,hv⟩) (iM.none hT2 g2) g3 g4 g5⟩
end L2
namespace L2
open PySem PySem.Spec PyProof.Rows
noncomputable def EqsD (K:α3)(H:Hp)(n:Nat)(xs:List V)(x:V)(e:Nat->Bool):Prop:=(∀(i:Nat) (v:V),xs[i]?=some v->∃a,v=.ref a/\EqD K H n v x (e i))/\∀(i j:Nat) (v:V),xs[i]?=some v->xs[j]?=some v->e i=e j
noncomputable def evG (xs:List V)(e:Nat->Bool)(y:Value):Bool := @decide (∃(i:Nat) (a:Addr),y=.ref a/\xs[i]?=some (.ref a)/\e i=true) (Classical.propDecidable _)
def LC {K:α3}      (h:EqsD K H n xs x e)   (hx:xs[i]?=some (.ref a)):evG xs e (.ref a)=e i:=by
 rw[qB_]
 unfold evG
 rw[@decide_eq_true_iff _ (Classical.propDecidable _)]
 constructor
 ·rintro⟨j,b,hb,oR,mv⟩
  cases hb
  rw[h.2 i j _ hx oR];exact mv
 ·intro he
  exact⟨i,a,rfl,hx,he⟩
noncomputable def rInG (K:α3)(n:Nat)(i8:Bool):R2:=fun x y H Q=>∃p t xs e,y=.ref p/\x=.ref t/\SqL K H p xs/\EqsD K H n xs x e/\Q (.bl (if i8 then !((List.range xs.length).any e) else (List.range xs.length).any e)) H
theorem WZ {K:α3}      : rInG K n i8 x y H Q=∃p t xs e,y=.ref p/\x=.ref t/\SqL K H p xs/\EqsD K H n xs x e/\Q (.bl (if i8 then !((List.range xs.length).any e) else (List.range xs.length).any e)) H:=rfl
def Sz          (hu:X.A.units+n+1<cLine)(I:Inv X af σ H s)(hp:SqL X.K H p xs)(hE:EqsD X.K H n xs (.ref t) e):
  ∃(its:Array Value),s.heap.IsList p its/\(∀y,y∈its->SeqAt.EqAt X.A.in1 s y (.ref t) (evG xs e y))/\its.any (evG xs e)=(List.range xs.length).any e:=by
 obtain⟨its,r,pl,_⟩:=I.list hp
 have hl:=r.length
 refine⟨its.toArray,pl.isList,fun y hy=>?_,?_⟩
 ·have hy':y∈its:=by simpa using hy
  obtain⟨i,hi,ei⟩:=jU_ hy'
  have eI:i<xs.length:=by lia
  obtain⟨u,iN,ru⟩:=r.get (i:=i) (x:=xs[i]) (by simp[eI])
  rw[jf_ hi,ei]at iN
  cases iN
  obtain⟨a,e2,e3⟩:=hE.1 i xs[i] (by simp[eI])
  rw[e2]at ru e3
  cases ru
  rw[LC hE (i:=i) (by rw[jf_ eI,e2])]
  exact (EqD.at (x:=V.ref a) (y:=V.ref t) I n X.A.in1 (by rw[in1_units];lia) rfl rfl e3).1
 ·rw[show its.toArray.any (evG xs e)=its.any (evG xs e) by simp,qB_,x5_,x5_]
  constructor
  ·rintro⟨y,hy,hey⟩
   obtain⟨j,b,_,oR,mv⟩:=(@decide_eq_true_iff _ (Classical.propDecidable _)).mp hey
   exact⟨j,jG_.mpr (jb_.mp oR).1,mv⟩
  ·rintro⟨i,hi,lU⟩
   have hi:=jG_.mp hi
   obtain⟨a,e2,e3⟩:=hE.1 i xs[i] (by simp[hi])
   have hx:xs[i]?=some (.ref a):=by rw[jf_ hi,e2]
   obtain⟨u,iN,ru⟩:=r.get hx
   cases ru
   exact⟨.ref a,jc_ iN,by rw[LC hE hx];exact lU⟩
def hu45  (h:u+8<cLine):u+4+1<cLine:=by lia
def hu46  (h:u+8<cLine):u+4+2<cLine:=by lia
def Rc  (n:Nat)(hu:X.A.units+n+1<cLine):OpR X (compareOp .NotIn) (rInG X.K n true):=by
 intro af s σ H x y v u Q I rx ry h
 obtain⟨p,t,xs,e,rfl,rfl,hp,hw,q⟩:=h
 cases ry
 cases rx
 obtain⟨its,h1,h2,h3⟩:=Sz hu I hp hw
 refine SeqAt.notIn_listAt _ h1 h2 ⟨.bl _,H,I,rfl,?_⟩
 rw[h3]
 exact q
noncomputable def MN (K:α3)(n:Nat):V->List V->Hp->VK->Prop:=fun x vs H Q=>∃l xs t e m,x=.ref l/\vs=[.ref t]/\H l=some (.lst xs)/\EqsD K H n xs (.ref t) e/\m<xs.length/\e m=true/\(∀j,j<m->e j=false)/\xs.length<1000000/\Q (.int (m:Nat)) H
theorem NS {K:α3}      : MN K n x vs H Q=∃l xs t e m,x=.ref l/\vs=[.ref t]/\H l=some (.lst xs)/\EqsD K H n xs (.ref t) e/\m<xs.length/\e m=true/\(∀j,j<m->e j=false)/\xs.length<1000000/\Q (.int (m:Nat)) H:=rfl
def Rf  (n:Nat)(hu:X.A.units+n+2<cLine):MtM X "list.index" (MN X.K n):=by
 intro af s σ H x vs v us Q I rx rv h
 obtain⟨l,xs,t,e,m,rfl,rfl,hH,hE,hm,hem,mv,ar,q⟩:=h
 cases rx
 obtain⟨u,rfl,ry⟩:=vals1 rv
 cases ry
 obtain⟨zz,its,k,r,hl,eo⟩:=I.lstM hH
 have cR:xs.length=its.length:=r.length
 have get:∀(j:Nat) (hj:j<its.toArray.size),∃(a:Addr),its.toArray[j]=.ref a/\xs[j]?=some (.ref a)/\EqD X.K H n (.ref a) (.ref t) (e j):=fun j hj=>by
  have cq:j<xs.length:=by rw[jm_]at hj;lia
  obtain⟨a,e2,e3⟩:=hE.1 j xs[j] (by simp[cq])
  rw[e2]at e3
  have hx:xs[j]?=some (.ref a):=by rw[jf_ cq,e2]
  obtain⟨w',f1,f2⟩:=r.get hx
  have e4:its.toArray[j]=w':=by
   have:its[j]?=some its.toArray[j]:=by simp at hj;simp[hj]
   rw[f1]at this
   exact (jq_ this).symm
  cases f2
  exact⟨a,e4,hx,e3⟩
 have l4:m<its.toArray.size:=by rw[jm_];lia
 refine xD_ F.slot_list_index ⟨_,eo,rfl⟩ F.entry_list_index (F.args_list_index_2 _ _) (SeqAt.list_indexAt l its.toArray k none #[] (.ref t) (evG xs e) m l4 s!"" ?_ fun j hj hjm=>?_) ⟨eo,fun y hy=>?_,?_⟩
 ·obtain⟨a,e1,e2,e3⟩:=get _ l4
  rw[e1,LC hE e2];exact hem
 ·obtain⟨a,e1,e2,e3⟩:=get j hj
  rw[e1,LC hE e2];exact mv j hjm
 ·obtain⟨j,hj,ej⟩:=jU_ (show y∈its by simpa using hy)
  obtain⟨a,e1,e2,e3⟩:=get j (by rw[jm_];exact hj)
  have:y=.ref a:=by rw[<-ej,<-e1];simp
  rw[this,LC hE e2]
  exact (EqD.at (x:=V.ref a) (y:=V.ref t) I n _ (by rw[in1_units];lia) rfl rfl e3).1
 ·exact⟨.int (m:Nat),H,I.tok _,⟨_,rfl⟩,q⟩
def ON  {K:α3}(h:X.K=K)(n:Nat)(hu:X.A.units+n+2<cLine):MtR X "list.index" (MN K n):=by subst h;exact Rf n hu
structure Cal (P:Program)(w:World)(K:α3)(mg:Str->α5)(base:Heap)(CX:CXT)(k:Nat)(x:Str)(st:Stmt)(ps:List Str)(sp:Sp)(f:Addr)(fd:α6):Prop where
 g:FnOk P w K mg base CX k f fd ps sp
 F:Fun K x x st f fd
 b:Ob K fd ps []
 m:mg x=some (.ref f)
def Room.d   (r:Room k A)(h:j<=k:=by decide):Room j A:=r.mono h
def Ah          {st:Stmt}     (q:Cal X.prog X.w X.K X.mg X.base CX k x st ps sp f fd)(hr:Room k X.A)(hx:Nc CX X E)
  (ha:PA X (e::es) t) (hg:Gl X x:=by rfl) (i7:(x==("__debug__" : Str))=false:=by decide) (he:starEach (e::es) X.env=(false,eval e X.env)::starEach es X.env:=by rfl) (gu:(backTo pos (starEach es X.env)).any (·.1)=false:=by rfl):
  PE X (.Call (.Name x p) (e::es) [] pos) (Uq sp [] E t):=Ur q.g hr hg q.m q.F.kp q.b .nil hx ha i7 he gu
noncomputable abbrev HA (K:α3)(x:Str)(f:Addr):Prop:=nsIn K mainGlobals x=some (some (.ref f))
noncomputable abbrev HL (K:α3)(x:Str)(st:Stmt)(f:Addr)(oc:Value)(od:Option Addr)(kV dc pm:Value)(an:Option Addr)(cd ct:Value)(sl:Array (α5)):Prop:=K.lookup f=some ⟨oc,od,.func (fnOf x x (C3 st) (Cz st) (Al st) .none kV dc pm an cd ct),sl⟩
structure HF (K:α3)(x:Str)(st:Stmt)(f:Addr)(fd:α6):Prop where
 a:nsIn K mainGlobals x=some (some (.ref f))
 F:Fun K x x st f fd
structure Wh (P:Program)(w:World)(K:α3)(mg:Str->α5)(base:Heap):Prop where
 m:∀(x:Str) (f:Addr),nsIn K mainGlobals x=some (some (.ref f))->mg x=some (.ref f)
def HF.c   {K:α3}      {st:Stmt}     (h:HF K x st f fd)(Z:Wh P w K mg base)(g:FnOk P w K mg base CX k f fd ps sp)
  (e:∀(kV br pm:Value) (an:Option Addr) (ay ct:Value) (us:List Value),us.length=ps.length->bindArgs (fnOf x x (C3 st) (Cz st) (Al st) .none kV br pm an ay ct) ⟨us,[]⟩=pure (ps.zip us):=by
   intro _ _ _ _ _ _ us hl;first|(obtain⟨_,rfl⟩:=len1 hl;rfl)|(obtain⟨_,_,rfl⟩:=len2 hl;rfl)|(obtain⟨_,_,_,rfl⟩:=len3 hl;rfl)|(obtain⟨_,_,_,_,rfl⟩:=len4 hl;rfl)):Cal P w K mg base CX k x st ps sp f fd:=⟨g,h.F,h.F.binds e,Z.m _ _ h.a⟩
def HF.b {K:α3}  {st:Stmt}   (h:HF K x st f fd)(e:∀(kV br pm:Value) (an:Option Addr) (ay ct v:Value),bindArgs (fnOf x x (C3 st) (Cz st) (Al st) .none kV br pm an ay ct) ⟨[v],[]⟩=pure [(p,v)])(s:Shared)(v:Value):BindsTo s fd ⟨[v],[]⟩ [(p,v)]:=by
 obtain⟨_,_,_,_,_,_,_,_,_,rfl,_,_⟩:=h.F.ex
 exact .of_eq (e _ _ _ _ _ _ _)
end L2
namespace Mine
open PySem L2 GW GB
local macro_rules | `(tactic| walk_at "rd") => `(tactic| (try dsimp only[↓TH,QX,↓r_ID,↓Wz,TJ,↓r_BD,WB,↓WG,↓WH,TM,TN,TQ,WE,↓TV,↓TX,TR,TU,↓TY,QZ,↓VZ,↓S4,↓V0,↓P6,↓V1,↓r_c,↓r_op,↓r_un,↓r_I,↓r_I0,↓r_U,↓S5,↓S6,↓V2,↓V3,↓S7,↓r_if,↓r_B,↓S8,↓V4,↓r_or,↓V5,↓S9,↓P7,↓r_CB,↓V6,↓V7,↓V8,↓V9,↓r_sl,↓Ta,↓Nk,↓Wa,↓Wi,↓r_BM,↓Nl,↓Tc,↓Td,↓r_Eq,↓r_Ne,↓P8,↓Te,↓P9,↓Wb,↓r_ip,↓Tf,↓Tg,↓We,↓Nr,↓Wj,↓Wk,↓Nt,↓Qn,↓Lj,↓To,↓Qj,↓Tp,↓Tq,↓Nu,↓Tr,↓Qk,↓Ts,↓Nv,↓Nw,↓r_in,↓Th,↓Lm,↓QI,Wq,↓Lq,LB,WZ,NS,↓TF,↓Qv,↓Qw,↓NC,↓QC,↓QF,Wc,L2.start,j0_,xS_,jS_,qm_,x4_,xT_,List.replicate,zf_,List.getElem?_cons_succ,zh_,List.set_cons_succ,scal])<;>(try simp only[↓TH,QX,↓r_ID,↓Wz,TJ,↓r_BD,WB,↓WG,↓WH,TM,TN,TQ,WE,↓TV,↓TX,TR,TU,↓TY,QZ,U0,WD,U3,Si,QY,↓VZ,↓S4,↓V0,↓P6,↓V1,↓r_c,↓r_op,↓r_un,↓r_I,↓r_I0,↓r_U,↓S5,↓S6,↓V2,↓V3,↓S7,↓r_if,↓r_B,↓S8,↓V4,↓r_or,↓V5,↓S9,↓P7,↓r_CB,↓V6,↓V7,↓V8,↓V9,↓r_sl,↓Ta,↓Nk,↓Wa,↓Wi,↓r_BM,↓Nl,↓Tc,↓Td,↓r_Eq,↓r_Ne,↓P8,↓Te,↓P9,↓Wb,↓r_ip,↓Tf,↓Tg,↓We,↓Nr,↓Wj,↓Wk,↓Nt,↓Qn,↓Lj,↓To,↓Qj,↓Tp,↓Tq,↓Nu,↓Tr,↓Qk,↓Ts,↓Nv,↓Nw,↓r_in,↓Th,↓Lm,↓QI,Wq,↓Lq,LB,WZ,NS,↓TF,↓Qv,↓Qw,↓NC,↓QC,↓QF,Wc,L2.start,j0_,xS_,jS_,qm_,x4_,xT_,qg_,List.replicate,zf_,List.getElem?_cons_succ,zh_,List.set_cons_succ,zo_,V.int.injEq,V.str.injEq,V.ref.injEq,V.bl.injEq,xH_,and_true,true_and,and_assoc,exists_and_left,exists_eq_left',exists_eq_left,exists_eq_right,exists_eq,xR_,q3_,jY_,qs_,scal,Nat.reduceAdd,Nat.reduceSub,reduceCtorEq,z1_,zS_]))
local macro_rules|`(tactic|nofun)=>`(tactic|walk_at "rd")
set_option hygiene false in
local macro_rules|`(tactic|delta $x:ident)=>`(tactic|refine F.ok $x (fun vs H Q E h=>?_) (fun ay A outer s H vs Q E hr h=>?_))
set_option hygiene false in
local macro_rules|`(nofun)=>`(FnOk P w K mg base CX0)
set_option hygiene false in
local macro_rules|`(⋯)=>`(Cal P w K mg base CX0)
local macro_rules | `(tactic| walk_at "sc") => `(tactic| exact⟨rfl,rfl,rfl,by decide +kernel,rfl,by decide +kernel,by decide +kernel⟩)
noncomputable def top (i:Nat):Stmt:=PySem.Challenge.pw_guessroom_k27_whole_slim_suite_is_enough.main.body.getD i (.Pass ⟨0,0,0,0⟩)
noncomputable abbrev FO:Stmt:=top 4
def OO:FnScope ["letters","word"] ["letters","word"] (Al FO):=by walk_at "sc"
noncomputable abbrev BV:Stmt:=top 5
def Ku:FnScope ["letters","word"] ["letters","word"] (Al BV):=by walk_at "sc"
noncomputable abbrev DD:Stmt:=top 6
def El:FnScope ["letters","word","kept"] ["letters","word"] (Al DD):=by walk_at "sc"
noncomputable abbrev EW:Stmt:=top 7
def DE:FnScope ["letters","most","words","word"] ["letters","most"] (Al EW):=by walk_at "sc"
noncomputable abbrev Kv:Stmt:=top 9
def Hz:FnScope ["house","word","ways","rooms","letter"] ["house","word"] (Al Kv):=by walk_at "sc"
noncomputable abbrev B5:Stmt:=top 10
def I0:FnScope ["house","word"] ["house","word"] (Al B5):=by walk_at "sc"
noncomputable abbrev B6:Stmt:=top 11
def Ja:FnScope ["house","word"] ["house","word"] (Al B6):=by walk_at "sc"
noncomputable abbrev De:Stmt:=top 13
def BE:FnScope ["house","words","rooms","walked","room","letter","goal"] ["house"] (Al De):=by walk_at "sc"
noncomputable abbrev FP:Stmt:=top 14
def JD:FnScope ["house","words"] ["house"] (Al FP):=by walk_at "sc"
noncomputable abbrev Em:Stmt:=top 15
def OP:FnScope ["house"] ["house"] (Al Em):=by walk_at "sc"
noncomputable abbrev EX:Stmt:=top 17
def Fs:FnScope ["row","numbers","thing"] ["row"] (Al EX):=by walk_at "sc"
noncomputable abbrev A5:Stmt:=top 18
def Aw:FnScope ["house","words","marks_behind","classes","walked","letter","marks","finer"] ["house"] (Al A5):=by walk_at "sc"
noncomputable abbrev FQ:Stmt:=top 19
def OQ:FnScope ["house"] ["house"] (Al FQ):=by walk_at "sc"
noncomputable abbrev CW:Stmt:=top 20
def Kw:FnScope ["house"] ["house"] (Al CW):=by walk_at "sc"
noncomputable abbrev Kx:Stmt:=top 22
def FT:FnScope ["house","classes","numbers","told","room"] ["house"] (Al Kx):=by walk_at "sc"
noncomputable abbrev Ky:Stmt:=top 23
def FU:FnScope ["house","home_of","marks","ways","room"] ["house"] (Al Ky):=by walk_at "sc"
noncomputable abbrev Ck:Stmt:=top 25
def Ft:FnScope ["words","once","word"] ["words"] (Al Ck):=by walk_at "sc"
noncomputable abbrev A7:Stmt:=top 26
def AZ:FnScope ["house","word","rooms","letter"] ["house","word"] (Al A7):=by walk_at "sc"
noncomputable abbrev CD:Stmt:=top 27
def Bh:FnScope ["words","marks_behind","room","own","left","word","marks","still"] ["words","marks_behind","room"] (Al CD):=by walk_at "sc"
noncomputable abbrev A8:Stmt:=top 28
def Bt:FnScope ["house","words","marks_behind"] ["house"] (Al A8):=by walk_at "sc"
noncomputable abbrev CY:Stmt:=top 29
def B7:FnScope ["base","more","ends","words","way","middle","first"] ["base","more","ends"] (Al CY):=by walk_at "sc"
noncomputable abbrev NT:Stmt:=top 30
def Rg:FnScope ["house","more","base"] ["house","more"] (Al NT):=by walk_at "sc"
noncomputable abbrev DF:Stmt:=top 31
def LD:FnScope ["house","words"] ["house","words"] (Al DF):=by walk_at "sc"
noncomputable abbrev BP:Stmt:=top 32
def CK:FnScope ["house","some","trial"] ["house","some"] (Al BP):=by walk_at "sc"
noncomputable abbrev HD:Stmt:=top 33
def Rh:FnScope ["house","some"] ["house","some"] (Al HD):=by walk_at "sc"
noncomputable abbrev A1:Stmt:=top 35
def Iq:FnScope ["script","k"] ["script","k"] (Al A1):=by walk_at "sc"
noncomputable abbrev Br:Stmt:=top 36
def DG:FnScope ["number","k","many","turn"] ["number","k","many"] (Al Br):=by walk_at "sc"
noncomputable abbrev B8:Stmt:=top 37
def AK:FnScope ["number","rooms","way","top","marks","room","mark"] ["number","rooms"] (Al B8):=by walk_at "sc"
noncomputable abbrev Cn:Stmt:=top 38
def AF:FnScope ["script","letters","rooms","shape","ways","room","row","letter","k","goal"] ["script","letters","rooms"] (Al Cn):=by walk_at "sc"
noncomputable abbrev Cu:Stmt:=top 39
def A0:FnScope ["house","number","rooms","small","fold","ways","room","row","letter","goal","twins"] ["house","number","rooms"] (Al Cu):=by walk_at "sc"
noncomputable abbrev B9:Stmt:=top 40
def AO:FnScope ["script","letters","rooms","marks","house","number"] ["script"] (Al B9):=by walk_at "sc"
noncomputable abbrev Co:Stmt:=top 41
def Eo:FnScope ["script","house","number"] ["script","house"] (Al Co):=by walk_at "sc"
noncomputable abbrev Ca:Stmt:=top 42
def Bc:FnScope ["house","row","at","here","goal"] ["house"] (Al Ca):=by walk_at "sc"
noncomputable abbrev Cp:Stmt:=top 43
def Bp:FnScope ["house","number","marks","ways","room","letter","same"] ["house","number"] (Al Cp):=by walk_at "sc"
noncomputable abbrev BR:Stmt:=top 44
def A2:FnScope ["house","number","rooms","order","marks","ways","room"] ["house","number"] (Al BR):=by walk_at "sc"
noncomputable abbrev Cq:Stmt:=top 45
def A6:FnScope ["house","row","turn","keys","known","key"] ["house"] (Al Cq):=by walk_at "sc"
noncomputable abbrev DH:Stmt:=top 46
def BF:FnScope ["house","row","order","first","room","number","ways"] ["house"] (Al DH):=by walk_at "sc"
noncomputable abbrev Cb:Stmt:=top 47
def AG:FnScope ["house","script","many","base","number","way","most","rooms","marks","ways","rival"] ["house","script","many"] (Al Cb):=by walk_at "sc"
noncomputable abbrev Cr:Stmt:=top 48
def BG:FnScope ["script","letters","word","number","k"] ["script","letters"] (Al Cr):=by walk_at "sc"
noncomputable abbrev Cs:Stmt:=top 49
def Ep:FnScope ["found","letters","letter"] ["found","letters"] (Al Cs):=by walk_at "sc"
noncomputable abbrev DI:Stmt:=top 50
def Er:FnScope ["house","room","word","letter"] ["house","room","word"] (Al DI):=by walk_at "sc"
noncomputable abbrev Vd:Stmt:=top 51
def Df:FnScope ["script","house","many","rival","some","trial","due","word","one","two","size"] ["script"] (Al Vd):=by walk_at "sc"
noncomputable abbrev FV:Pos:=⟨105,34,105,64⟩
noncomputable def Ir:Caps:=[("letter",none),("letters",some 0)]
def Jb:(Caps.names Ir).Nodup:=by decide +kernel
noncomputable def Iu:Caps:=[("room",none),("words",some 1)]
def Jc:(Caps.names Iu).Nodup:=by decide +kernel
noncomputable def GQ:Caps:=[("thing",none),("numbers",some 1)]
def Iv:(Caps.names GQ).Nodup:=by decide +kernel
noncomputable def Cv:Caps:=[("goals",none),("marks_behind",some 2),("walked",some 4),("letter",some 5)]
def Dh:(Caps.names Cv).Nodup:=by decide +kernel
noncomputable def LF:Caps:=[("goal",none),("home_of",some 1)]
def LG:(Caps.names LF).Nodup:=by decide +kernel
noncomputable def BW:Caps:=[("room",none),("letter",some 3),("house",some 0)]
def CL:(Caps.names BW).Nodup:=by decide +kernel
noncomputable def BX:Caps:=[("room",none),("house",some 0)]
def CM:(Caps.names BX).Nodup:=by decide +kernel
noncomputable def Es:Caps:=[("other",none),("marks",some 6),("room",some 2)]
def FW:(Caps.names Es).Nodup:=by decide +kernel
noncomputable def BY:Caps:=[("word",none),("house",some 0)]
def CN:(Caps.names BY).Nodup:=by decide +kernel
noncomputable def BZ:Caps:=[("room",none),("words",some 1),("marks_behind",some 2)]
def CO:(Caps.names BZ).Nodup:=by decide +kernel
noncomputable def Fb:Caps:=[("end",none),("first",some 6)]
def Gs:(Caps.names Fb).Nodup:=by decide +kernel
noncomputable def FX:Caps:=[("word",none),("house",some 0)]
def G8:(Caps.names FX).Nodup:=by decide +kernel
noncomputable def Fc:Caps:=[("twin",none),("goal",some 9),("fold",some 4)]
def Gu:(Caps.names Fc).Nodup:=by decide +kernel
noncomputable def Fd:Caps:=[("room",none),("house",some 0)]
def Gv:(Caps.names Fd).Nodup:=by decide +kernel
noncomputable def DU:Caps:=[("row",none)]
def Fu:(Caps.names DU).Nodup:=by decide +kernel
noncomputable def DV:Caps:=[("goal",none),("marks",some 2),("letter",some 5),("ways",some 3),("room",some 4)]
def Fv:(Caps.names DV).Nodup:=by decide +kernel
noncomputable def DW:Caps:=[("row",none)]
def Fw:(Caps.names DW).Nodup:=by decide +kernel
noncomputable def CZ:Caps:=[("room",none),("number",some 1),("rooms",some 2)]
def Et:(Caps.names CZ).Nodup:=by decide +kernel
noncomputable def C0:Caps:=[("goal",none),("order",some 3)]
def Eu:(Caps.names C0).Nodup:=by decide +kernel
noncomputable def DX:Caps:=[("room",none),("row",some 1),("house",some 0)]
def Fx:(Caps.names DX).Nodup:=by decide +kernel
noncomputable def DY:Caps:=[("goal",none),("row",some 1)]
def Fy:(Caps.names DY).Nodup:=by decide +kernel
noncomputable def DZ:Caps:=[("key",none),("known",some 4)]
def Fz:(Caps.names DZ).Nodup:=by decide +kernel
noncomputable def FY:Caps:=[("seen",none),("row",some 1)]
def G9:(Caps.names FY).Nodup:=by decide +kernel
noncomputable def FZ:Caps:=[("room",none),("row",some 1)]
def Ha:(Caps.names FZ).Nodup:=by decide +kernel
noncomputable def F0:Caps:=[("room",none),("number",some 5),("row",some 1),("house",some 0)]
def Hb:(Caps.names F0).Nodup:=by decide +kernel
noncomputable def F1:Caps:=[("goal",none),("number",some 1),("row",some 2)]
def Hd:(Caps.names F1).Nodup:=by decide +kernel
noncomputable def Fe:Caps:=[("room",none),("house",some 0)]
def Gw:(Caps.names Fe).Nodup:=by decide +kernel
noncomputable def Di:Caps:=[("room",none),("house",some 0),("number",some 4)]
def E3:(Caps.names Di).Nodup:=by decide +kernel
noncomputable def Dj:Caps:=[("room",none),("rooms",some 7),("number",some 4),("house",some 0)]
def E4:(Caps.names Dj).Nodup:=by decide +kernel
noncomputable def Dk:Caps:=[("k",none),("rooms",some 1),("number",some 2),("room",some 0)]
def E5:(Caps.names Dk).Nodup:=by decide +kernel
noncomputable def Dn:Caps:=[("row",none)]
def E6:(Caps.names Dn).Nodup:=by decide +kernel
noncomputable def D0:Caps:=[("cell",none),("letters",some 1)]
def FA:(Caps.names D0).Nodup:=by decide +kernel
structure Txt (mg:Str->α5):Prop where
 all:mg "all"=none
 bool:mg "bool"=none
 enumerate:mg "enumerate"=none
 int:mg "int"=none
 isinstance:mg "isinstance"=none
 len:mg "len"=none
 list:mg "list"=none
 max:mg "max"=none
 min:mg "min"=none
 range:mg "range"=none
 sorted:mg "sorted"=none
 tuple:mg "tuple"=none
 zip:mg "zip"=none
section
variable {P:Program} {w:World} {K:α3} {mg:Str->α5} {base:Heap}
noncomputable def JE (K:α3):Sp:=fun vs H Q _=>∃(L:Int) (a:Addr) (ws:α2),vs=[.int L,.ref a]/\SqT K H a (ws.map V.int)/\ws.length<=1000/\∀H',Same H H'->Q (.bl (isW L ws)) H'
def OR   (F:Fun K "is_word" "is_word" FO f fd)(T:Txt mg)
  : nofun 1 f fd ["letters","word"] (JE K):=by
 delta OO
 ·obtain⟨L,a,ws,rfl,_⟩:=h;rfl
 ·obtain⟨L,a,ws,rfl,hw,hz,k⟩:=h
  have hl:=As
  refine⟨_,(Af (AA (Ao (RW rfl) rfl T.all PyProof.Rows.boot_all (Aa (Ba rfl (A4 rfl) (cp:=Ir) ⟨⟨rfl,rfl⟩,True.intro⟩ (Eb (pvD 1)) (fun _ _ _ _=>(Ap (i:=0) Jb rfl (Or.inl rfl))) (fun _ _ _ _=>Be) (fun _ _ _ _=>(RJ VE G0 Ad (pvD 0) (pvD 1)))) Ae)))),?_⟩
  nofun
  refine⟨⟨_,hw⟩,EM (ag:=[some (.int L)]) (fun x=>match x with | .int n=>.bl (inW L n)|_=>.non) rfl hw (by rw[ja_];lia) (fun x hx R hR=>?_) (fun D hD=>?_)⟩
  ·obtain⟨n,_,rfl⟩:=CS hx
   nofun
   by_cases h0:0<=n
   ·simp only[h0,xR_]
    simpa [inW,h0] using hR
   ·simp only[h0,q3_]
    simpa [inW,h0] using hR
  ·refine⟨D,rfl,ws.map (inW L),.inl (.inl ?_),?_⟩
   ·rw[Ab,jR_,jR_];rfl
   ·have:=k _ (Same.new hD (o:=.lst ((ws.map V.int).map fun x=>match x with | .int n=>.bl (inW L n)|_=>.non)))
    simpa [isW,List.all_map] using this
noncomputable def HE (K:α3):Sp:=fun vs H Q E=>∃(L:Int) (a:Addr) (ws:α2),vs=[.int L,.ref a]/\SqT K H a (ws.map V.int)/\ws.length<=1000/\(isW L ws=true->∀H',Same H H'->Q .non H')/\(isW L ws=false->False)
def Kz   (F:Fun K "check_word" "check_word" BV f fd)(T:Txt mg)
   (ju:⋯ 1 "is_word" FO ["letters","word"] (JE K) LH JF)
  : nofun 2 f fd ["letters","word"] (HE K):=by
 delta Ku
 ·obtain⟨L,a,ws,rfl,_⟩:=h;rfl
 ·obtain⟨L,a,ws,rfl,hw,hz,k,kE⟩:=h
  have hl:=As
  refine⟨_,(Af (Bz (Jh (ptB (HK (Ah ju hr.d AL (Aa (pvD 0) (Aa (pvD 1) Ae))))))
   (Af RE)
   AH)),?_⟩
  nofun
  refine⟨L,a,ws,rfl,hw,hz,fun H' s'=>?_⟩
  nofun
  cases hv:isW L ws with
  |true=>
   simp only[z1_,jY_,q3_]
   exact k hv H' s'
  |false=>
   simp only[zS_,xR_]
   exact (kE hv).elim
noncomputable def NU (K:α3):Sp:=fun vs H Q E=>∃(L:Int) (a:Addr) (ws:α2),vs=[.int L,.ref a]/\SqT K H a (ws.map V.int)/\ws.length<=990/\(isW L ws=true->∀p H',Same H H'->H' p=some (.tup ((Eh L ws).map V.int))->Q (.ref p) H')/\(isW L ws=false->False)
def LI   (F:Fun K "next_word" "next_word" DD f fd)(T:Txt mg)
   (cG:⋯ 2 "check_word" BV ["letters","word"] (HE K) C1 CF)
  : nofun 3 f fd ["letters","word"] (NU K):=by
 delta El
 ·obtain⟨L,a,ws,rfl,_⟩:=h;rfl
 ·obtain⟨L,a,ws,rfl,hw,hz,k',kE⟩:=h
  have hl:=As
  refine⟨_,(Ac (A9 (Ah cG hr.d AL (Aa (pvD 0) (Aa (pvD 1) Ae))))
   (Ac (Ak (i:=2) El.nd (Ao (lenD Ai) (by rfl) T.len jD_ (Aa (pvD 1) Ae)))
   (Ac (EK jJ_ (PW.pt (GI (ptT (Ar (opD0 Um) (pvD 2) Ad (AE _))) (Ea (ptT (Ar (opE B1) (Ag (ixTD An) (pvD 1) (Am (opD0 CQ) (pvD 2) Ad)) (Am (opD0 CQ) (pvD 0) Ad) (AE _))))))
   (Af (O5 (i:=2) El.nd rfl (Or.inl rfl) Ad Vz)))
   (Ac (Bz (ptT (Ar (opE B1) (pvD 2) Ad (AE _)))
   (Af (AA (Am Qe (BN (Aa Ad Ae)) (Am (opD0 AW) (Ao (lenD Ai) (by rfl) T.len jD_ (Aa (pvD 1) Ae)) Ad))))
   AH)
   (Af (AA (Am ER (Am ER (JW VM (pvD 1) Mb (Mc (Am (opD0 CQ) (pvD 2) Ad))) (BN (Aa (Am (opD0 AW) (Ag (ixTD An) (pvD 1) (Am (opD0 CQ) (pvD 2) Ad)) Ad) Ae))) (Am Qe (BN (Aa Ad Ae)) (Am (opD0 CQ) (Ao (lenD Ai) (by rfl) T.len jD_ (Aa (pvD 1) Ae)) (pvD 2)))))))))),?_⟩
  nofun
  refine⟨L,a,ws,rfl,hw,by lia,fun hv H1 s1=>?_,kE⟩
  have k:=k' hv
  nofun
  have cw:=s1.seqT hw
  refine⟨_,.inr cw,?_⟩
  rw[ja_]
  obtain⟨Pv,aq⟩:∃Pv:Nat->St->Hp->Prop,∀m aj H2,Pv m aj H2↔(H2=H1/\∃kept:Nat,m=kept/\kept<=ws.length/\(∀j,kept<=j->j<ws.length->ws[j]?=some (L-1))/\aj=[some (.int L),some (.ref a),some (.int kept)]):=⟨_,fun _ _ _=>qo_⟩
  refine Jm Pv ⟨ws.length,(aq _ _ _).mpr ⟨rfl,ws.length,rfl,jg_ _,fun j h1 h2=>absurd h2 s!"",rfl⟩⟩ ?_
  intro m aj H2 hp
  obtain⟨rfl,kept,em,hk,hj,rfl⟩:=(aq _ _ _).mp hp
  nofun
  by_cases h0:0<kept
  ·have ar:kept-1<ws.length:=by lia
   have hx:ws[kept-1]?=some (ws[kept-1]'ar):=by simp[ar]
   have ax:atI (ws.map V.int) ((kept:Int)-1)=some (V.int (ws[kept-1]'ar)):=B2 s!"" (by rw[jd_,show ((kept:Int)-1).toNat=kept-1 by lia,hx];rfl)
   rw[if_pos (show (0:Int)<kept by lia)]
   refine⟨_,cw,_,ax,?_⟩
   nofun
   refine ite2 (fun he=>?_) (fun aw=>?_)
   ·refine⟨fun ag H'=>H'=H2/\ag=[some (.int L),some (.ref a),some (.int ((kept:Int)-1))],fun ag H' h=>?_,rfl,rfl⟩
    obtain⟨rfl,rfl⟩:=h
    refine⟨kept-1,by lia,(aq _ _ _).mpr ⟨rfl,kept-1,rfl,by lia,fun j h1 h2=>?_,by rw[show ((kept-1:Nat):Int)=(kept:Int)-1 by lia]⟩⟩
    by_cases e:j=kept-1
    ·subst e;rw[hx,he]
    ·exact hj j s!"" h2
   ·-- return a7[:kept-1]+(a7[kept-1]+1,)+(0,) * ..
    rw[if_neg (show ¬ (kept:Int)=0 by lia)]
    have hcut:¬ (HT.sIx (ws.map V.int).length 0 none=0/\HT.sIx (ws.map V.int).length (ws.map V.int).length (some ((kept:Int)-1))=(ws.map V.int).length):=by
     rintro⟨_,h2⟩
     rw[show (kept:Int)-1=((kept-1:Nat):Int) by lia,HT.sIx_nat,ja_]at h2
     lia
    have ecut:cutV (ws.map V.int) none (some ((kept:Int)-1))=(ws.take (kept-1)).map V.int:=by
     rw[Nm]
     unfold cutI
     rw[show (kept:Int)-1=((kept-1:Nat):Int) by lia,HT.sIx_nat,HT.sIx_none,List.drop_zero,Nat.sub_zero]
     congr 2
     lia
    refine⟨_,cw,hcut,fun p1 bp=>?_⟩
    rw[ecut]
    have t1:Same H2 (upd H2 p1 (.tup ((ws.take (kept-1)).map V.int))):=Same.new bp
    have q1:(upd H2 p1 (.tup ((ws.take (kept-1)).map V.int))) p1=some (.tup ((ws.take (kept-1)).map V.int)):=Ab
    generalize upd H2 p1 (.tup ((ws.take (kept-1)).map V.int))=H3 at t1 q1 ⊢
    refine⟨_,t1.seqT cw,_,ax,?_⟩
    nofun
    refine⟨by lia,fun p2 aO=>?_⟩
    refine E9.ofS ((Same.new aO) _ _ q1) Ab (by simp;lia) fun p3 H4 t4 q3=>?_
    nofun
    have t5:Same H2 H4:=(t1.newT aO).trans t4
    refine⟨by lia,fun p4 dY=>?_⟩
    have q3':=(Same.new dY (o:=.tup [V.int 0])) _ _ q3
    have w4:=((t5.newT dY (o:=.tup [V.int 0])).seqT cw)
    have t6:=t5.newT dY (o:=.tup [V.int 0])
    have z4:(upd H4 p4 (.tup [V.int 0])) p4=some (.tup [V.int 0]):=Ab
    generalize upd H4 p4 (.tup [V.int 0])=H5 at q3' w4 t6 z4 ⊢
    refine⟨_,.inr w4,?_⟩
    refine Qd.ofS z4 (by simp) s!"" (by rw[ja_];lia) (by simp;lia) fun p5 H6 t7 q5=>?_
    refine E9.ofS (t7 _ _ q3') q5 (by simp[HW];lia) fun p6 H7 t8 q6=>?_
    refine k p6 H7 (s1.trans (t6.trans (t7.trans t8))) ?_
    have e:=Lh (L:=L) (w:=ws) (k:=kept-1) ar (fun j h1 h2=>hj j s!"" h2) hx (by intro z;exact aw (by rw[z]))
    rw[e]
    rw[HW]at q6
    have en:(((ws.map V.int).length:Int)-(kept:Int)).toNat=ws.length-(kept-1+1):=by rw[ja_];lia
    rw[en]at q6
    simpa [jV_,zi_] using q6
  ·have h00:kept=0:=by lia
   subst h00
   rw[if_neg s!""]
   nofun
   refine⟨by lia,fun p1 bp=>?_⟩
   refine⟨_,.inr ((Same.new bp).seqT cw),?_⟩
   refine Qd.ofS Ab (by simp) s!"" (by rw[ja_];lia) (by simp;lia) fun p5 H6 t7 q5=>?_
   refine k p5 H6 (s1.trans ((Same.new bp).trans t7)) ?_
   rw[Mm (L:=L) (w:=ws) hj]
   rw[HW]at q5
   have en:(((ws.map V.int).length:Int)+1).toNat=ws.length+1:=by rw[ja_];lia
   rw[en]at q5
   simpa [zi_] using q5
noncomputable def T2 (K:α3):Sp:=fun vs H Q _=>∃(L:Int) (m:Nat),vs=[.int L,.int m]/\1<=L/\L<=6/\m<=8/\many L (m+1)<=4000/\∀p xs H',Same H H'->H p=none->H' p=some (.lst xs)->AB K H' xs ((List.range (many L (m+1)).toNat).map (nth L))->Q (.ref p) H'
def MO   (F:Fun K "words_to" "words_to" EW f fd)(T:Txt mg)
   (jv:⋯ 3 "next_word" DD ["letters","word"] (NU K) Iw GR)
  : nofun 4 f fd ["letters","most"] (T2 K):=by
 delta DE
 ·obtain⟨L,m,rfl,_⟩:=h;rfl
 ·obtain⟨L,m,rfl,cH,cI,hm,cx,k⟩:=h
  have hl:=As
  refine⟨_,(Ac (Ak (i:=2) DE.nd (Bu Ae))
   (Ac (Ak (i:=3) DE.nd (BN Ae))
   (Ac (EK jJ_ (ptT (Ar (opD0 VE) (Ao (lenD Ai) (by rfl) T.len jD_ (Aa (pvD 3) Ae)) (pvD 1) (AE _)))
   (Ac (A9 (C7 jE_ jM_ jN_ AR (pvD 2) (Aa (pvD 3) Ae)))
   (Af (Ak (i:=3) DE.nd (Ah jv hr.d AL (Aa (pvD 0) (Aa (pvD 3) Ae)))))))
   (Af (AA (pvD 2)))))),?_⟩
  nofun
  refine⟨by lia,fun p hp=>⟨by lia,fun t ht=>?_⟩⟩
  have gZ:p≠t:=fun z=>by rw[<-z,Ab]at ht;cases ht
  obtain⟨Pv,aq⟩:∃Pv:Nat->St->Hp->Prop,∀m' aj H2,Pv m' aj H2↔(∃(n:Nat) (t2:Addr) (xs:List V),m'=((many L (m+1)).toNat-n)/\n<=(many L (m+1)).toNat/\Same H H2/\H2 p=some (.lst xs)/\AB K H2 xs ((List.range n).map (nth L))/\H2 t2=some (.tup ((nth L n).map V.int))/\aj=[some (.int L),some (.int m),some (.ref p),some (.ref t2)]):=⟨_,fun _ _ _=>qo_⟩
  refine Jm Pv ⟨_,(aq _ _ _).mpr ⟨0,t,[],rfl,jX_ _,(Same.new hp).newT ht,by rw[Aj gZ,Ab],AB.nil,Ab,rfl⟩⟩ ?_
  intro m' aj H2 dZ
  obtain⟨n,t2,xs,rfl,hn,s2,mw,hW,hT,rfl⟩:=(aq _ _ _).mp dZ
  have hv:=C8 (show 0<L by lia) n
  have ef:=ES (show 0<L by lia) hv m
  rw[Ei]at ef
  have fm:=Ci (show 0<L by lia) (m+1)
  have bH:=hW.1
  rw[ja_,qc_]at bH
  nofun
  refine⟨_,.inr (SqT.of hT),?_⟩
  rw[ja_]
  refine ite2 (fun aQ=>?_) (fun kO=>?_)
  ·have jw:(nth L n).length<=m:=by lia
   have ar:=ef.mp jw
   refine⟨fun ag H'=>∃t3 my,ag=[some (.int L),some (.int m),some (.ref p),some (.ref t3)]/\Same H H'/\H' p=some (.lst my)/\AB K H' my ((List.range (n+1)).map (nth L))/\H' t3=some (.tup ((nth L (n+1)).map V.int)),fun ag H' h=>?_,?_⟩
   ·obtain⟨t3,my,rfl,s3,eK,oS,jx⟩:=h
    exact⟨_,by lia,(aq _ _ _).mpr ⟨n+1,t3,my,rfl,by lia,s3,eK,oS,jx,rfl⟩⟩
   ·have ak:=Oj (show 0<L by lia) n
    have hT':=TK.lst mw (o:=.lst (xs++[V.ref t2])) _ _ hT
    refine⟨.inl ⟨rfl,_,SqL.of mw⟩,_,mw,by lia,L,t2,nth L n,rfl,SqT.of hT',by lia,fun _ t3 H3 s3 jx=>?_,fun hf=>by rw[hv]at hf;cases hf⟩
    refine⟨t3,xs++[V.ref t2],rfl,(s2.over hp).trans s3,s3 _ _ Ab,?_,jx⟩
    rw[xU_,jV_]
    exact ((hW.mono (TK.lst mw)).snoc hT').mono (TK.of s3)
  ·have bo:¬ (nth L n).length<=m:=by lia
   have hnl:¬ ((n:Int)<many L (m+1)):=fun z=>bo (ef.mpr z)
   have e:n=(many L (m+1)).toNat:=by lia
   subst e
   nofun
   exact k p xs H2 s2 hp mw hW
noncomputable def NV (K:α3):Sp:=fun vs H Q E=>∃(h a:Addr) (L:Int) (aa:α2) (ae:α1) (ws:α2),vs=[.ref h,.ref a]/\Bb K H h L aa ae/\Wf L aa ae/\SqT K H a (ws.map V.int)/\ws.length<=600/\(isW L ws=true->∀p H',Same H H'->H p=none->H' p=some (.lst ((Jn ae ws).map V.int))->Q (.ref p) H')/\(isW L ws=false->False)
def SA   (F:Fun K "trail" "trail" Kv f fd)(T:Txt mg)
   (cG:⋯ 2 "check_word" BV ["letters","word"] (HE K) C1 CF)
  : nofun 3 f fd ["house","word"] (NV K):=by
 delta Hz
 ·obtain⟨h,a,L,aa,ae,ws,rfl,_⟩:=h;rfl
 ·obtain⟨h,a,L,aa,ae,ws,rfl,hh,wf,hw,hz,k,kE⟩:=h
  have hl:=As
  refine⟨_,(Ac (A9 (Ah cG hr.d AL (Aa (Ag (ixTD An) (pvD 0) Ad) (Aa (pvD 1) Ae))))
   (Ac (Ak (i:=2) Hz.nd (Ag (ixTD An) (pvD 0) Ad))
   (Ac (Ak (i:=3) Hz.nd (Bu (Aa Ad Ae)))
   (Ac (Bm jJ_ rfl (Eb (pvD 1)) (Ap (i:=4) Hz.nd rfl (Or.inl rfl))
   (Af (A9 (C7 jE_ jM_ jN_ AR (pvD 3) (Aa (Ag (ixTD An) (Ag (ixTD An) (pvD 2) (Ag (ixLD AU) (pvD 3) (VD SY Ad))) (pvD 4)) Ae)))))
   (Af (AA (pvD 3))))))),?_⟩
  nofun
  obtain⟨m,wv,h1,h2,h3⟩:=hh
  refine⟨_,h1,_,rfl,L,a,ws,rfl,hw,by lia,fun hv H1 s1=>?_,kE⟩
  nofun
  have cw:=s1.seqT hw
  have h3':=h3.mono s1
  refine⟨_,s1.seqT h1,_,rfl,by lia,fun p hp=>?_⟩
  have s2:=Same.new hp (o:=.lst [V.int 0])
  refine⟨⟨_,s2.seqT cw⟩,forT (xs:=ws.map V.int) (fun i aj H2=>Same H1 H2/\H2 p=some (.lst (((List.range (i+1)).map fun j=>Az ae (ws.take j)).map V.int))/\∃o,aj=[some (.ref h),some (.ref a),some (.ref wv),some (.ref p),o]) ⟨s2,by rw[Ab];simp[Az],none,rfl⟩ (fun i aj H2 _ h=>h.1.seqT cw) (fun i x aj H2 hx h=>?_) (fun aj H2 h=>?_)⟩
  ·obtain⟨s3,eK,o,rfl⟩:=h
   obtain⟨n,hn,rfl⟩:=BQ hx
   have hi:=(jb_.mp hn).1
   have hx:=Av.mp hv n (jc_ hn)
   have d0:=wf.walk hv i
   obtain⟨row,g,r1,r2,r3,r4,r5⟩:=wf.step d0.1 d0.2 hx.1 hx.2
   obtain⟨xs,t,q1,q2,q3⟩:=(h3'.mono s3).atZ d0.1 r1
   nofun
   refine⟨.inl ⟨rfl,_,SqL.of eK⟩,_,SqL.of eK,_,Qi (v:=V.int (Az ae (ws.take i))) (by simp),?_⟩
   nofun
   refine⟨_,q1,_,q2,?_⟩
   nofun
   refine⟨_,q3,_,AY hx.1 r2,_,eK,by simp;lia,s3.over hp,?_,_,rfl⟩
   rw[Ab,show List.range (i+1+1)=List.range (i+1)++[i+1] from xU_,jV_,jV_,<-r3,<-ET hn]
   rfl
  ·obtain⟨s3,eK,o,rfl⟩:=h
   nofun
   rw[ja_]at eK
   exact k hv p H2 (s1.trans s3) (s1.free hp) eK
noncomputable def MQ (K:α3):Sp:=fun vs H Q E=>∃(h a:Addr) (L:Int) (aa:α2) (ae:α1) (ws:α2),vs=[.ref h,.ref a]/\Bb K H h L aa ae/\Wf L aa ae/\SqT K H a (ws.map V.int)/\ws.length<=600/\(isW L ws=true->∀H',Same H H'->Q (.int (Az ae ws)) H')/\(isW L ws=false->False)
def Jd   (F:Fun K "room_behind" "room_behind" B5 f fd)(T:Txt mg)
   (fW:⋯ 3 "trail" Kv ["house","word"] (NV K) Ri NW)
  : nofun 4 f fd ["house","word"] (MQ K):=by
 delta I0
 ·obtain⟨h,a,L,aa,ae,ws,rfl,_⟩:=h;rfl
 ·obtain⟨h,a,L,aa,ae,ws,rfl,hh,wf,hw,hz,k,kE⟩:=h
  have hl:=As
  refine⟨_,(Af (AA (Ag (ixLD AU) (Ah fW hr.d AL (Aa (pvD 0) (Aa (pvD 1) Ae))) (VD SY Ad)))),?_⟩
  nofun
  refine⟨h,a,L,aa,ae,ws,rfl,hh,wf,hw,hz,fun hv p H1 s1 _ hp=>?_,kE⟩
  nofun
  refine⟨_,SqL.of hp,_,Qi (v:=V.int (Az ae ws)) ?_,k hv H1 s1⟩
  rw[jd_,ja_,J9,show ws.length+1-1=ws.length by lia,Mn];rfl
noncomputable def Gx (aa:α2)(r:Int):Int:=aa.getD r.toNat 0
def F2   (h0:0<=r)(h1:r<aa.length):atI (aa.map V.int) r=some (V.int (Gx aa r)):=by
 have ar:r.toNat<aa.length:=by lia
 refine AY h0 ?_
 unfold Gx
 rw[jj_]
 simp[ar]
noncomputable def MR (K:α3):Sp:=fun vs H Q E=>∃(h a:Addr) (L:Int) (aa:α2) (ae:α1) (ws:α2),vs=[.ref h,.ref a]/\Bb K H h L aa ae/\Wf L aa ae/\SqT K H a (ws.map V.int)/\ws.length<=600/\(isW L ws=true->∀H',Same H H'->Q (.int (Gx aa (Az ae ws))) H')/\(isW L ws=false->False)
def Je   (F:Fun K "mark_behind" "mark_behind" B6 f fd)(T:Txt mg)
   (eL:⋯ 4 "room_behind" B5 ["house","word"] (MQ K) DJ C4)
  : nofun 5 f fd ["house","word"] (MR K):=by
 delta Ja
 ·obtain⟨h,a,L,aa,ae,ws,rfl,_⟩:=h;rfl
 ·obtain⟨h,a,L,aa,ae,ws,rfl,hh,wf,hw,hz,k,kE⟩:=h
  have hl:=As
  refine⟨_,(Af (AA (Ag (ixTD An) (Ag (ixTD An) (pvD 0) Ad) (Ah eL hr.d AL (Aa (pvD 0) (Aa (pvD 1) Ae)))))),?_⟩
  nofun
  have oU:=hh
  obtain⟨m,wv,h1,h2,h3⟩:=hh
  refine⟨_,h1,_,rfl,?_⟩
  nofun
  refine⟨h,a,L,aa,ae,ws,rfl,oU,wf,hw,hz,fun hv H1 s1=>?_,kE⟩
  nofun
  have d0:=wf.walk hv ws.length
  rw[jO_]at d0
  exact⟨_,s1.seqT h2,_,F2 d0.1 d0.2,k hv H1 s1⟩
noncomputable def Ew (K:α3)(H:Hp)(d:Addr)(ents:List (Int×α2)):Prop:=∃kvs:List (Key×V),H d=some (.dK kvs)/\kvs.length=ents.length/\∀(i:Nat) (e:Int×α2),ents[i]?=some e->∃t,kvs[i]?=some (Sum.inl e.1,V.ref t)/\H t=some (.tup (e.2.map V.int))
def W0     (hp:H p=some (.dK kvs))(h:H t=some (.tup xs)):upd H p (.dK dD) t=some (.tup xs):=by
 rw[Aj (fun z=>by rw[z,hp]at h;cases h)];exact h
def Ew.mono {K:α3}   {ents:List (Int×α2)}(h:Ew K H d ents)(s:Same H H'):Ew K H' d ents:=by
 obtain⟨kvs,h1,h2,h3⟩:=h
 refine⟨kvs,s _ _ h1,h2,fun i e he=>?_⟩
 obtain⟨t,a,b⟩:=h3 i e he
 exact⟨t,a,s _ _ b⟩
def Ew.off {K:α3}   {ents:List (Int×α2)}  (h:Ew K H d ents)(hp:H p=some (.lst zs)):Ew K (upd H p (.lst ys)) d ents:=by
 obtain⟨kvs,h1,h2,h3⟩:=h
 refine⟨kvs,by rw[Aj (fun z=>by rw[z,hp]at h1;cases h1)];exact h1,h2,fun i e he=>?_⟩
 obtain⟨t,a,b⟩:=h3 i e he
 exact⟨t,a,TK.lst hp _ _ b⟩
def Ew.no {K:α3}   {ents:List (Int×α2)}(h:Ew K H d ents)  (hg:g∉ents.map (·.1)):DGet H d (.int g) none:=by
 obtain⟨kvs,h1,h2,h3⟩:=h
 have e:valV kvs (Sum.inl g:Key)=none:=by
  unfold valV
  rw[Option.map_eq_none_iff,xQ_]
  intro kv jh
  obtain⟨i,hi,e⟩:=jU_ jh
  obtain⟨t,a,_⟩:=h3 i ents[i] (by simp[show i<ents.length by lia])
  have e2:kvs[i]?=some kv:=by rw[jf_ hi,e]
  rw[e2]at a
  cases a
  simp only[qs_]
  intro z
  injection z with z
  exact hg (jv_.mpr ⟨ents[i],j2_ _,z⟩)
 have:=DGet.k (k:=(Sum.inl g:Key)) h1
 rw[e]at this
 exact this
def Ew.yes {K:α3}{H:Hp}{d:Addr}{ents:List (Int×α2)}(h:Ew K H d ents)(nod:(ents.map (·.1)).Nodup){g:Int}{w:α2}(hg:(g,w)∈ents):∃t,DGet H d (.int g) (some (.ref t))/\H t=some (.tup (w.map V.int)):=by
 obtain⟨kvs,h1,h2,h3⟩:=h
 obtain⟨i,hi,ei⟩:=jU_ hg
 have ei':ents[i]?=some (g,w):=by rw[jf_ hi,ei]
 obtain⟨t,a,b⟩:=h3 i _ ei'
 refine⟨t,?_,b⟩
 have hf:valV kvs (Sum.inl g:Key)=some (.ref t):=by
  unfold valV
  cases hq:kvs.find? (fun kv=>decide (kv.1=(Sum.inl g:Key))) with
  |none=>
   rw[xQ_]at hq
   have:=hq _ (jc_ a)
   simp at this
  |some kv=>
   have hk:=zN_ hq
   simp only[qs_]at hk
   obtain⟨j,hj,ej⟩:=jU_ (q7_ hq)
   have cq:j<ents.length:=by lia
   obtain⟨t',a',b'⟩:=h3 j ents[j] (by simp[cq])
   have e2:kvs[j]?=some kv:=by rw[jf_ hj,ej]
   rw[e2]at a'
   have a2:kv=(Sum.inl ents[j].1,V.ref t'):=jq_ a'
   rw[a2]at hk
   have dA:ents[j].1=g:=by injection hk
   have ij:i=j:=by
    refine (xM_ (h₀:=by simpa using hi) (h₁:=by simpa using cq) nod).mp ?_
    simp[ei,dA]
   subst ij
   rw[e2]at a
   have a3:kv=(Sum.inl g,V.ref t):=jq_ a
   rw[a3];rfl
 have:=DGet.k (k:=(Sum.inl g:Key)) h1
 rw[hf]at this
 exact this
def Ew.put {K:α3}{H:Hp}{d t:Addr}{ents:List (Int×α2)}{g:Int}{w:α2}(h:Ew K H d ents)(hg:g∉ents.map (·.1))(hz:ents.length<1000)(ht:H t=some (.tup (w.map V.int))):∃H',DPut H d (.int g) (.ref t) H'/\(∃kvs dD,H d=some (.dK kvs)/\H'=upd H d (.dK dD))/\Ew K H' d (ents++[(g,w)]):=by
 have dm:=h.no hg
 obtain⟨kvs,h1,h2,h3⟩:=h
 have hl:=As
 have hv:valV kvs (Sum.inl g:Key)=none:=by
  rcases dm with ⟨dD,k,e,ey,er⟩|⟨dD,k,b,e,ey,_⟩
  ·have e1:dD=kvs:=by
    rcases e with e|⟨o,e⟩
    ·rw[h1]at e;cases e;rfl
    ·rw[h1]at e;cases e
   subst e1
   cases k with
   |inl m=>
    have:m=g:=by injection ey with ey;exact ey.symm
    subst this
    exact er.symm
   |inr m=>cases ey
  ·cases ey
 have hp:putK kvs (Sum.inl g:Key) (V.ref t)=kvs++[(Sum.inl g,V.ref t)]:=by
  unfold putK
  rw[Ds,hv]
  rfl
 refine⟨_,DPut.k (k:=(Sum.inl g:Key)) h1 s!"",⟨kvs,_,h1,rfl⟩,kvs++[(Sum.inl g,V.ref t)],by rw[Ab,hp],by simp[h2],fun i e he=>?_⟩
 by_cases hi:i<ents.length
 ·rw[ji_ hi]at he
  obtain⟨t',a,b⟩:=h3 i e he
  exact⟨t',by rw[ji_ s!""];exact a,W0 h1 b⟩
 ·have ar:=(jb_.mp he).1
  rw[jn_,jW_]at ar
  have e1:i=ents.length:=by lia
  subst e1
  rw[jp_ (jg_ _),qv_]at he
  simp at he
  subst he
  exact⟨t,by rw[jp_ s!"",h2,qv_];rfl,W0 h1 ht⟩
noncomputable def Gy (K:α3):Sp:=fun vs H Q _=>∃(h:Addr) (L:Int) (aa:α2) (ae:α1),vs=[.ref h]/\Bb K H h L aa ae/\Wf L aa ae/\∀d top H',Same H H'->H d=none->Ew K H' d (Au ae)->Bfs L aa.length ae (Au ae) (Au ae).length top->Q (.ref d) H'
def MS   (F:Fun K "words_in" "words_in" De f fd)(T:Txt mg)
  : nofun 1 f fd ["house"] (Gy K):=by
 delta BE
 ·obtain⟨h,L,aa,ae,rfl,_⟩:=h;rfl
 ·obtain⟨h,L,aa,ae,rfl,hh,wf,k⟩:=h
  have hl:=As
  have cH:=wf.l1
  have bS:=wf.n1
  have aP:=wf.n40
  refine⟨_,(@Ac _ _ _ _ _ (@UG _ 1 _ _ _ _ _ _ _ _ BE.nd rfl (Or.inl rfl) Ad (BN Ae) rfl (Or.inl rfl))
   (Ac (Ak (i:=2) BE.nd (Bu (Aa Ad Ae)))
   (Ac (Ak (i:=3) BE.nd Ad)
   (Ac (EK jJ_ (ptT (Ar (opD0 G0) (pvD 3) (Ao (lenD Ai) (by rfl) T.len jD_ (Aa (pvD 2) Ae)) (AE _)))
   (Ac (Ak (i:=4) BE.nd (Ag (ixLD AU) (pvD 2) (pvD 3)))
   (Ac (Bm jJ_ rfl (RZ rfl T.enumerate (Ag (ixTD An) (Ag (ixTD An) (pvD 0) Ad) (pvD 4))) (SV rfl (Hj (Ap (i:=5) BE.nd rfl (Or.inl rfl)) (Hj (Ap (i:=6) BE.nd rfl (Or.inl rfl)) O4)))
   (Af (Bz (SU (K8 (K5 hr) (pvD 6) (pvD 1)))
   (Ac (Mg (K5 hr) (pvD 1) (pvD 6) (Am ER (PU (K5 hr) (pvD 1) (pvD 4) (fun _ _=>rfl)) (BN (Aa (pvD 5) Ae))) rfl)
   (Af (A9 (C7 jE_ jM_ jN_ AR (pvD 2) (Aa (pvD 6) Ae)))))
   AH)))
   (Af (O5 (i:=3) BE.nd rfl (Or.inl rfl) Ad SW)))))
   (Af (AA (pvD 1))))))),?_⟩
  nofun
  intro p hp
  refine⟨by lia,fun p1 bp=>⟨Same.new bp _ _ Ab,[(Sum.inl 0,V.ref p1)],rfl,by simp,by lia,fun p2 aO=>?_⟩⟩
  have iS:GK [] [((Sum.inl 0:Key),V.ref p1)]=[((Sum.inl 0:Key),V.ref p1)]:=rfl
  rw[iS]at aO ⊢
  have hne1:p1≠p:=(AI bp).2
  have hne2:p2≠p:=(AI aO).2
  have s0:Same H (upd (upd (upd (upd H p (.dK [])) p1 (.tup [])) p (.dK [(Sum.inl 0,V.ref p1)])) p2 (.lst [V.int 0])):=(((Same.new hp).newT bp).over hp).newT aO
  have en0:Ew K (upd (upd (upd (upd H p (.dK [])) p1 (.tup [])) p (.dK [(Sum.inl 0,V.ref p1)])) p2 (.lst [V.int 0])) p [(0,[])]:=by
   refine⟨[(Sum.inl 0,V.ref p1)],Same.new aO _ _ Ab,rfl,fun i e he=>?_⟩
   cases i with
   |zero=>
    simp at he
    subst he
    refine⟨p1,rfl,?_⟩
    refine Same.new aO _ _ ?_
    rw[Aj hne1];exact Ab
   |succ i=>simp at he
  have dE:upd (upd (upd (upd H p (.dK [])) p1 (.tup [])) p (.dK [(Sum.inl 0,V.ref p1)])) p2 (.lst [V.int 0]) p2=some (.lst ((([(0,[])]:List (Int×α2)).map (·.1)).map V.int)):=Ab
  have hp2n:H p2=none:=by
   have h1:=(AI aO).1
   have h2:=(AI h1).1
   exact (AI h2).1
  generalize upd (upd (upd (upd H p (.dK [])) p1 (.tup [])) p (.dK [(Sum.inl 0,V.ref p1)])) p2 (.lst [V.int 0])=H0 at s0 en0 dE ⊢
  clear bp aO iS
  obtain⟨Pv,aq⟩:∃Pv:Nat->St->Hp->Prop,∀m aj H2,Pv m aj H2↔(∃(ents:List (Int×α2)) (i:Nat) (top:Int) (o4 o5 o6:Option V),m=aa.length+1-i/\Same H H2/\Ew K H2 p ents/\H2 p2=some (.lst ((ents.map (·.1)).map V.int))/\Bfs L aa.length ae ents i top/\(∀e,ents[i]?=some e->top<=AJ L e.2*L+1)/\bfs ae (aa.length+1-i) ents i=Au ae/\aj=[some (.ref h),some (.ref p),some (.ref p2),some (.int i),o4,o5,o6]):=⟨_,fun _ _ _=>qo_⟩
  refine Jm Pv ⟨_,(aq _ _ _).mpr ⟨[(0,[])],0,1,none,none,none,rfl,s0,en0,dE,Bfs.start L bS ae,fun e he=>?_,by unfold Au;rw[wf.len];rfl,rfl⟩⟩ ?_
  ·simp at he;subst he;simp[AJ,AV]
  intro m aj H2 dZ
  obtain⟨ents,i,top,o4,o5,o6,rfl,s2,en2,eM,bf,jy,cJ,rfl⟩:=(aq _ _ _).mp dZ
  have hbl:=bf.len
  nofun
  refine⟨_,.inl (SqL.of eM),?_⟩
  rw[ja_,ja_]
  refine ite2 (fun ar=>?_) (fun bo=>?_)
  ·have hi:i<ents.length:=by lia
   obtain⟨e,he⟩:∃e,ents[i]?=some e:=⟨ents[i],by simp[hi]⟩
   obtain⟨r,w⟩:=e
   have aS:=jc_ he
   have bC:=bf.rng _ aS
   have htop':top<=AJ L w*L+1:=jy _ he
   obtain⟨row,hrow,eN,cR⟩:=wf.row bC.1 bC.2
   have l7:ae.getD r.toNat []=row:=by rw[jj_,hrow];rfl
   obtain⟨mm,wv,q1,q2,q3⟩:=id hh
   obtain⟨xs,t,z1,z2,z3⟩:=q3.atZ bC.1 hrow
   refine⟨Pv (aa.length+1-(i+1)),fun ag H' h=>⟨_,by lia,h⟩,?_⟩
   refine⟨_,SqL.of eM,_,AY (v:=r) s!"" (by rw[jh_,jd_,he];rfl),?_⟩
   nofun
   refine⟨_,s2.seqT q1,_,rfl,?_⟩
   nofun
   refine⟨_,s2.seqT z1,_,z2,?_⟩
   nofun
   refine⟨_,s2.seqT z3,?_⟩
   obtain⟨Pn,cS⟩:∃Pn:Nat->St->Hp->Prop,∀x aA H3,Pn x aA H3↔(∃(av:List (Int×α2)) (o5 o6:Option V),Same H H3/\Ew K H3 p av/\H3 p2=some (.lst ((av.map (·.1)).map V.int))/\Bfs L aa.length ae av i (AJ L w*L+(x:Int)+1)/\Seen L ae av r w x/\av[i]?=some (r,w)/\CU w av x (row.drop x)=CU w ents 0 row/\aA=[some (.ref h),some (.ref p),some (.ref p2),some (.int i),some (.int r),o5,o6]):=⟨_,fun _ _ _=>qo_⟩
   refine forN Pn ((cS _ _ _).mpr ⟨ents,o5,o6,s2,en2,eM,bf.up (by push_cast;lia),(fun y h0 h1=>absurd h1 (by push_cast;lia)),he,rfl,rfl⟩) (fun x aA H3 _ h3=>?_) (fun x v aA H3 t' hx h3 dS=>?_) (fun aA H3 h3=>?_)
   ·obtain⟨av,_,_,s3,_⟩:=(cS _ _ _).mp h3
    exact s3.seqT z3
   ·obtain⟨av,o5,o6,s3,oV,dr,dF,g8,gE,cK,rfl⟩:=(cS _ _ _).mp h3
    obtain⟨g,hg,rfl⟩:=BQ hx
    have bH:=(jb_.mp hg).1
    have jz:=(wf.rows row eN).2 g (jc_ hg)
    have oW:g=Bv ae r (x:Int):=(BH hrow (by rw[jh_];exact hg)).symm
    have d6:=jc_ gE
    have fX:row.drop x=g::row.drop (x+1):=by
     rw[q8_ bH]
     congr 1
     exact (jb_.mp hg).2
    obtain⟨eO,g9⟩:=dF.letter s!"" g8 d6 s!"" oW jz
    have hU:=Fp (g:=g) (v:=w++[(x:Int)]) gE
    rw[fX,Fo]at cK
    have sT:=s3.newT dS (o:=.tup [V.int x,V.int g])
    have la:=oV.mono (Same.new dS (o:=.tup [V.int x,V.int g]))
    have oX:=Same.new dS (o:=.tup [V.int x,V.int g]) _ _ dr
    nofun
    refine⟨_,SqT.of Ab,rfl,?_⟩
    nofun
    generalize upd H3 t' (.tup [V.int x,V.int g])=HT' at sT la oX ⊢
    by_cases hm:g∈av.map (·.1)
    ·rw[if_pos hm]at eO g9 hU cK
     obtain⟨e',fi,e1⟩:=jv_.mp hm
     obtain⟨g',w'⟩:=e'
     have e1:g'=g:=e1
     subst e1
     obtain⟨tt,dg,_⟩:=la.yes dF.nod fi
     refine⟨_,dg,?_⟩
     rw[if_neg (by simp)]
     exact (cS _ _ _).mpr ⟨av,_,_,sT,la,oX,eO,g9,hU,cK,rfl⟩
    ·rw[if_neg hm]at eO g9 hU cK
     refine⟨_,la.no hm,?_⟩
     rw[if_pos (by simp)]
     obtain⟨tw,dw,ng⟩:=la.yes dF.nod d6
     refine⟨_,dw,by lia,fun q5 nh=>?_⟩
     have cQ:w.length<=100:=by
      have h1:w.length<=i:=dF.sh i _ gE
      lia
     refine E9.ofS (Same.new nh _ _ ng) Ab (by simp;lia) fun q6 H6 s6 hq6=>?_
     have sU:=(sT.newT nh).trans s6
     have enU:=(la.mono (Same.new nh)).mono s6
     have hrU:=s6 _ _ (Same.new nh _ _ oX)
     have hq6':H6 q6=some (.tup ((w++[(x:Int)]).map V.int)):=by simpa using hq6
     obtain⟨H7,dp,⟨kvs,dD,hd,rfl⟩,enV⟩:=enU.put hm (by have:=dF.len;lia) hq6'
     nofun
     refine⟨_,dp,?_⟩
     have oY:upd H6 p (.dK dD) p2=some (.lst ((av.map (·.1)).map V.int)):=by rw[Aj hne2];exact hrU
     refine⟨.inl ⟨rfl,_,SqL.of oY⟩,_,oY,by have:=dF.len;simp;lia,(cS _ _ _).mpr ⟨av++[(g,w++[(x:Int)])],_,_,(sU.over hp).over hp2n,enV.off oY,by rw[Ab];simp,eO,g9,hU,cK,rfl⟩⟩
   ·obtain⟨av,o5,o6,s3,oV,dr,dF,g8,gE,cK,rfl⟩:=(cS _ _ _).mp h3
    rw[ja_]at dF g8 cK
    rw[List.drop_length,Gg]at cK
    nofun
    obtain⟨eO,fY⟩:=dF.next s!"" cR g8 gE
    refine (aq _ _ _).mpr ⟨av,i+1,_,_,_,_,rfl,s3,oV,dr,eO,fY,?_,by push_cast;rfl⟩
    rw[show aa.length+1-i=(aa.length+1-(i+1))+1 by lia,Kc he]at cJ
    rw[cK,<-l7]
    exact cJ
  ·have hi:i=ents.length:=by have:=bf.il;lia
   subst hi
   rw[Kb (by simp)]at cJ
   rw[<-cJ]at k
   exact k p top H2 s2 hp en2 bf
noncomputable def Xn (H:Hp)(d:Addr)(ents:List (Int×α2))(n:Nat):Prop:=∃xs:List V,H d=some (.lst xs)/\xs.length=n/\∀r:Nat,r<n->(∃(w:α2) (t:Addr),((r:Int),w)∈ents/\xs[r]?=some (.ref t)/\H t=some (.tup (w.map V.int)))\/((r:Int)∉ents.map (·.1)/\xs[r]?=some .non)
noncomputable def LJ (K:α3):Sp:=fun vs H Q _=>∃(h:Addr) (L:Int) (aa:α2) (ae:α1),vs=[.ref h]/\Bb K H h L aa ae/\Wf L aa ae/\∀d top H',Same H H'->H d=none->Xn H' d (Au ae) aa.length->Bfs L aa.length ae (Au ae) (Au ae).length top->Q (.ref d) H'
def OS   (F:Fun K "ways_in" "ways_in" FP f fd)(T:Txt mg)
   (eQ:⋯ 1 "words_in" De ["house"] (Gy K) Gz FC)
  : nofun 2 f fd ["house"] (LJ K):=by
 delta JD
 ·obtain⟨h,L,aa,ae,rfl,_⟩:=h;rfl
 ·obtain⟨h,L,aa,ae,rfl,hh,wf,k⟩:=h
  have hl:=As
  have aP:=wf.n40
  refine⟨_,(Ac (Bl (i:=1) JD.nd rfl (Or.inr rfl) (Ah eQ hr.d AL (Aa (pvD 0) Ae)))
   (Af (AA (Ba rfl (A4 rfl) (cp:=Iu) (te:=PY (OC 1) (OC 0)) ⟨⟨rfl,rfl⟩,True.intro⟩ (AQ rfl T.range (Aa (Ao (lenD Ai) (by rfl) T.len jD_ (Aa (Ag (ixTD An) (pvD 0) Ad) Ae)) Ae)) (fun _ _ _ _=>(Ap (i:=0) Jc rfl (Or.inl rfl))) (fun _ _ _ _=>Be) (fun _ _ _ _=>(by exact (RT (K5 hr) (pvD 1) (pvD 0) ⟨rfl,rfl,rfl,rfl⟩))))))),?_⟩
  nofun
  refine⟨h,L,aa,ae,rfl,hh,wf,fun d top H1 s1 hd en bf=>?_⟩
  obtain⟨mm,wv,q1,q2,q3⟩:=hh.mono s1
  nofun
  refine⟨_,q1,_,rfl,?_⟩
  nofun
  refine⟨_,.inr q2,?_⟩
  rw[ja_]
  refine⟨by lia,by lia,?_⟩
  rw[jh_]
  obtain⟨Pc,cT⟩:∃Pc:Nat->List V->St->Hp->Prop,∀j ys bE H4,Pc j ys bE H4↔(H4=H1/\ys.length=j/\(∀r:Nat,r<j->(∃(w:α2) (t:Addr),((r:Int),w)∈Au ae/\ys[r]?=some (.ref t)/\H1 t=some (.tup (w.map V.int)))\/((r:Int)∉(Au ae).map (·.1)/\ys[r]?=some .non))/\∃o,bE=[o,some (.ref d)]):=⟨_,fun _ _ _ _=>qo_⟩
  refine J4 Pc ((cT _ _ _ _).mpr ⟨rfl,rfl,(fun r hr=>absurd hr (q9_ _)),none,rfl⟩) s!"" (fun j ys bE H4 _ h4=>?_) (fun j ys bE H4 hj h4=>?_) (fun ys bE H4 h4 D hD=>?_)
  ·obtain⟨_,ak,_⟩:=(cT _ _ _ _).mp h4
   lia
  ·obtain⟨rfl,ak,az,o,rfl⟩:=(cT _ _ _ _).mp h4
   obtain⟨kvs,kU,_⟩:=id en
   have ext:∀v:V,((∃(w:α2) (t:Addr),((j:Int),w)∈Au ae/\v=.ref t/\H4 t=some (.tup (w.map V.int)))\/((j:Int)∉(Au ae).map (·.1)/\v=.non))->∀o,Pc (j+1) (ys++[v]) [o,some (.ref d)] H4:=fun v hv o=>by
    refine (cT _ _ _ _).mpr ⟨rfl,by simp[ak],fun r hr=>?_,o,rfl⟩
    by_cases mz:r<j
    ·rw[ji_ s!""]
     exact az r mz
    ·have e:r=j:=by lia
     subst e
     rw[jp_ s!"",ak,qv_]
     rcases hv with ⟨w,t,a,b,c⟩|⟨a,b⟩
     ·exact .inl ⟨w,t,a,by rw[b];rfl,c⟩
     ·exact .inr ⟨a,by rw[b];rfl⟩
   nofun
   refine⟨.inl ⟨kvs,.inl kU⟩,?_⟩
   have ej:(0:Int)+(j:Nat)=(j:Int):=by lia
   rw[ej]
   by_cases hm:(j:Int)∈(Au ae).map (·.1)
   ·obtain⟨e',fi,e1⟩:=jv_.mp hm
    obtain⟨g',w'⟩:=e'
    have e1:g'=(j:Int):=e1
    subst e1
    obtain⟨tt,dg,hw⟩:=en.yes bf.nod fi
    exact⟨_,dg,ext _ (.inl ⟨w',tt,fi,rfl,hw⟩) _⟩
   ·exact⟨_,en.no hm,ext _ (.inr ⟨hm,rfl⟩) _⟩
  ·obtain⟨rfl,ak,az,o,rfl⟩:=(cT _ _ _ _).mp h4
   refine k D top _ (s1.newT hD) (s1.free hD) ⟨ys,Ab,ak,fun r hr=>?_⟩ bf
   rcases az r hr with ⟨w,t,a,b,c⟩|h
   ·exact .inl ⟨w,t,a,b,Same.new hD _ _ c⟩
   ·exact .inr h
structure RF (L n:Nat)(ae:α1)(R:α2):Prop where
 hd:R[0]?=some 0
 nod:R.Nodup
 rng:∀r∈R,0<=r/\r<(n:Int)
 len:R.length<=n
 cls:∀r∈R,∀x:Nat,x<L->Bv ae r (x:Int)∈R
def RF.of {L n:Nat}{ae:α1}{top:Int}(bf:Bfs L n ae (Au ae) (Au ae).length top):RF L n ae ((Au ae).map (·.1)):=by
 refine⟨by rw[jd_,bf.hd];rfl,bf.nod,fun r hr=>?_,by rw[ja_];exact bf.len,fun r hr x hx=>?_⟩
 ·obtain⟨e,he,rfl⟩:=jv_.mp hr
  exact bf.rng e he
 ·obtain⟨e,he,rfl⟩:=jv_.mp hr
  obtain⟨j,hj⟩:=jI_.mp he
  obtain⟨e',h1,h2,_⟩:=bf.don j (jb_.mp hj).1 e hj (x:Int) s!"" s!""
  rw[<-h2]
  exact q6_ h1
noncomputable def GA (K:α3):Sp:=fun vs H Q _=>∃(h:Addr) (L:Nat) (aa:α2) (ae:α1),vs=[.ref h]/\Bb K H h L aa ae/\Wf L aa ae/\∀p H',Same H H'->H p=none->H' p=some (.lst (((Au ae).map (·.1)).map V.int))->RF L aa.length ae ((Au ae).map (·.1))->Q (.ref p) H'
def OT   (F:Fun K "reached" "reached" Em f fd)(T:Txt mg)
   (eQ:⋯ 1 "words_in" De ["house"] (Gy K) Gz FC)
  : nofun 2 f fd ["house"] (GA K):=by
 delta OP
 ·obtain⟨h,L,aa,ae,rfl,_⟩:=h;rfl
 ·obtain⟨h,L,aa,ae,rfl,hh,wf,k⟩:=h
  refine⟨_,(Af (AA (AD (IX rfl) rfl T.list xn_ (Aa (Ah eQ hr.d AL (Aa (pvD 0) Ae)) Ae)))),?_⟩
  nofun
  refine⟨h,L,aa,ae,rfl,hh,wf,fun d top H1 s1 hd en bf=>?_⟩
  obtain⟨kvs,h1,h2,h3⟩:=en
  refine⟨d,rfl,kvs,h1,fun l hl=>k l _ (s1.newT hl) (s1.free hl) ?_ (RF.of bf)⟩
  rw[Ab]
  congr 2
  refine qL_ fun i=>?_
  rw[jd_,jd_,jd_]
  cases he:(Au ae)[i]? with
  |none=>
   have:kvs[i]?=none:=by rw[xv_]at he ⊢;lia
   rw[this];rfl
  |some e=>
   obtain⟨t,a,_⟩:=h3 i e he
   rw[a];rfl
noncomputable def numD {α κ:Type}[DecidableEq α](k:α->κ)(ks:List α):List (κ×V):=ks.map fun x=>(k x,V.int ((ks.idxOf x:Nat):Int))
def DK {α κ:Type}[DecidableEq α]{k:α->κ}{ks:List α}:(numD k ks).length=ks.length:=by unfold numD;rw[ja_]
def Dp {α κ:Type}[DecidableEq α][DecidableEq κ]{k:α->κ}(hk:∀x y,k x=k y->x=y){ks:List α}(nd:ks.Nodup){x:α}(hx:x∈ks):valV (numD k ks) (k x)=some (V.int ((ks.idxOf x:Nat):Int)):=by
 have hi:=qG_ hx
 refine UK (i:=ks.idxOf x) ?_ ?_
 ·unfold numD
  rw[jR_]
  exact List.Pairwise.map _ (fun a b cu z=>cu (hk a b z)) nd
 ·unfold numD
  rw[jd_,jf_ hi,qY_];rfl
def F3 {α κ:Type}[DecidableEq α][DecidableEq κ]{k:α->κ}(hk:∀x y,k x=k y->x=y){ks:List α}{x:α}(hx:x∉ks):valV (numD k ks) (k x)=none:=by
 have h1:=Ds (k x) (numD k ks)
 have h2:((numD k ks).any fun kv=>decide (kv.1=k x))=false:=by
  rw[List.any_eq_false]
  intro p hp
  unfold numD at hp
  obtain⟨y,hy,rfl⟩:=jv_.mp hp
  simp only[qs_]
  intro z
  exact hx (hk _ _ z ▸ hy)
 rw[h2]at h1
 cases q:valV (numD k ks) (k x) with
 |none=>rfl
 |some v=>rw[q]at h1;cases h1
def KA {α κ:Type}[DecidableEq α][DecidableEq κ]{k:α->κ}(hk:∀x y,k x=k y->x=y){ks:List α}{x:α}(hx:x∉ks):putK (numD k ks) (k x) (V.int ((ks.length:Nat):Int))=numD k (ks++[x]):=by
 rw[RO _ (F3 hk hx)]
 unfold numD
 rw[jV_,List.map_singleton,Mu hx]
 congr 1
 exact qj_ fun y hy=>by rw[Sd hy]
def DL {α:Type}[DecidableEq α]{row:List α}{i:Nat}{x:α}(h:row[i]?=some x):Ay (row.take (i+1))=ins1 (Ay (row.take i)) x:=by
 rw[jQ_,h];exact Ms _ _
def KC  [DecidableEq α](row:List α)(i:Nat):(Ay (row.take i)).length<=row.length:=by
 have h1:=Jr (row.take i)
 unfold ncl at h1
 rw[jw_]at h1
 lia
noncomputable def T3 (K:α3):Sp:=fun vs H Q _=>∃(a:Addr),vs=[.ref a]/\((∃ns:α2,SqT K H a (ns.map V.int)/\ns.length<=100/\∀l H',Same H H'->H l=none->H' l=some (.lst ((num ns).map V.int))->Q (.ref l) H')\/(∃(xs:List V) (ws:α1),SqL K H a xs/\AB K H xs ws/\ws.length<=100/\∀l H',Same H H'->H l=none->H' l=some (.lst ((num ws).map V.int))->Q (.ref l) H'))
def MT   (F:Fun K "numbered" "numbered" EX f fd)(T:Txt mg)
  : nofun 1 f fd ["row"] (T3 K):=by
 delta Fs
 ·obtain⟨a,rfl,_⟩:=h;rfl
 ·obtain⟨a,rfl,cu⟩:=h
  have hl:=As
  refine⟨_,(Ac (Bl (i:=1) Fs.nd rfl (Or.inr rfl) Sb)
   (Ac (Bm jJ_ rfl (Ti (pvD 0)) (Ap (i:=2) Fs.nd rfl (Or.inl rfl))
   (Af (Bz (SU (K8 (K5 hr) (pvD 2) (pvD 1)))
   (Af (Mg (K5 hr) (pvD 1) (pvD 2) (Ao Lo (by rfl) T.len jD_ (Aa (pvD 1) Ae)) rfl))
   AH)))
   (Af (AA (Ba rfl (A4 rfl) (cp:=GQ) ⟨⟨rfl,rfl⟩,True.intro⟩ (Ti (pvD 0)) (fun _ _ _ _=>(Ap (i:=0) Iv rfl (Or.inl rfl))) (fun _ _ _ _=>Be) (fun _ _ _ _=>(PU (K5 hr) (pvD 1) (pvD 0) (fun _ _=>rfl)))))))),?_⟩
  rcases cu with ⟨ns,ha,hz,k⟩|⟨xs,ws,ha,hW,hz,k⟩
  ·nofun
   refine .inl fun d hd=>?_
   have sd:=Same.new hd (o:=.dK [])
   have cc:∀x y:Int,(Sum.inl x:Key)=Sum.inl y->x=y:=fun x y z=>Sum.inl.inj z
   obtain⟨Pv,aq⟩:∃Pv:Nat->St->Hp->Prop,∀i ag H',Pv i ag H'↔(∃o:Option V,Same H H'/\H' d=some (.dK (numD (fun x:Int=>(Sum.inl x:Key)) (Ay (ns.take i))))/\ag=[some (.ref a),some (.ref d),o]):=⟨_,fun _ _ _=>qo_⟩
   refine .inr ⟨⟨_,sd.seqT ha⟩,forT (xs:=ns.map V.int) Pv ((aq _ _ _).mpr ⟨none,sd,Ab,rfl⟩) (fun i ag H' _ h'=>by obtain⟨_,s',_⟩:=(aq _ _ _).mp h';exact s'.seqT ha) (fun i x ag H' hx h'=>?_) (fun ag H' h'=>?_)⟩
   ·obtain⟨o,s',cV,rfl⟩:=(aq _ _ _).mp h'
    obtain⟨n,hn,rfl⟩:=BQ hx
    have lb:=KC ns i
    have nd:=Bf (ns.take i)
    have et:=DL hn
    nofun
    refine⟨_,DGet.k (k:=Sum.inl n) cV,?_⟩
    by_cases hm:n∈Ay (ns.take i)
    ·rw[Dp cc nd hm]
     simp only[zd_,z1_,jY_,q3_]
     exact (aq _ _ _).mpr ⟨_,s',by rw[et,ins1,if_pos hm];exact cV,rfl⟩
    ·rw[F3 cc hm]
     simp only[Option.isSome_none,zS_,xR_]
     have jA:=KA (k:=fun x:Int=>(Sum.inl x:Key)) cc hm
     refine .inl ⟨_,cV,_,DPut.k (k:=Sum.inl n) cV (by rw[DK];lia),(aq _ _ _).mpr ⟨_,s'.over hd,?_,rfl⟩⟩
     rw[Ab,et,ins1,if_neg hm,DK]
     exact jH_ (fun z=>some (HO.dK z)) jA
   ·obtain⟨o,s',cV,rfl⟩:=(aq _ _ _).mp h'
    rw[ja_,jO_]at cV
    nofun
    obtain⟨f,hf⟩:∃f:V->V,∀n:Int,f (V.int n)=.int (((Ay ns).idxOf n:Nat):Int):=⟨fun x=>match x with | .int n=>.int (((Ay ns).idxOf n:Nat):Int)|_=>.non,fun _=>rfl⟩
    refine .inr ⟨⟨_,s'.seqT ha⟩,EM (ag:=[some (.ref d)]) f rfl (s'.seqT ha) (by rw[ja_];lia) (fun x hx R hR=>?_) (fun D hD=>?_)⟩
    ·obtain⟨n,hn,rfl⟩:=CS hx
     rw[hf]at hR
     have e:=Dp (k:=fun x:Int=>(Sum.inl x:Key)) cc (Bf ns) (AN.mpr hn)
     have hg:=DGet.k (k:=Sum.inl n) cV
     rw[e]at hg
     nofun
     exact⟨_,hg,hR⟩
    ·have em:(ns.map V.int).map f=(num ns).map V.int:=by
      unfold num
      rw[jR_,jR_]
      exact qj_ fun n _=>hf n
     exact k D _ (s'.newT hD) (s'.none hD) (by rw[Ab,em])
  ·nofun
   refine .inr fun d hd=>?_
   have sd:=Same.new hd (o:=.dT [])
   obtain⟨Pv,aq⟩:∃Pv:Nat->St->Hp->Prop,∀i ag H',Pv i ag H'↔(∃o:Option V,Same H H'/\H' d=some (.dT (numD wkey (Ay (ws.take i))))/\ag=[some (.ref a),some (.ref d),o]):=⟨_,fun _ _ _=>qo_⟩
   refine .inl ⟨⟨_,sd.seq ha⟩,forL (xs:=xs) Pv ((aq _ _ _).mpr ⟨none,sd,Ab,rfl⟩) (fun i ag H' _ h'=>by obtain⟨_,s',_⟩:=(aq _ _ _).mp h';exact s'.seq ha) (fun i x ag H' hx h'=>?_) (fun ag H' h'=>?_)⟩
   ·obtain⟨o,s',cV,rfl⟩:=(aq _ _ _).mp h'
    obtain⟨t,v,dj,rfl,ht⟩:=hW.at hx
    have lb:=KC ws i
    have nd:=Bf (ws.take i)
    have et:=DL dj
    have dS:H' t=some (.tup ((wkey v).map kV)):=by rw[Kf];exact s' _ _ ht
    nofun
    refine⟨_,DGet.t cV dS,?_⟩
    by_cases hm:v∈Ay (ws.take i)
    ·rw[Dp (fun x y z=>FF z) nd hm]
     simp only[zd_,z1_,jY_,q3_]
     exact (aq _ _ _).mpr ⟨_,s',by rw[et,ins1,if_pos hm];exact cV,rfl⟩
    ·rw[F3 (fun x y z=>FF z) hm]
     simp only[Option.isSome_none,zS_,xR_]
     refine .inr ⟨_,cV,_,DPut.t (k:=wkey v) cV dS (by rw[DK];lia),(aq _ _ _).mpr ⟨_,s'.over hd,?_,rfl⟩⟩
     rw[Ab,et,ins1,if_neg hm,DK,KA (fun x y z=>FF z) hm]
   ·obtain⟨o,s',cV,rfl⟩:=(aq _ _ _).mp h'
    rw[hW.1,jO_]at cV
    nofun
    refine .inl ⟨⟨_,s'.seq ha⟩,IW (xs:=xs) (fun i zs aj H2=>H2=H'/\zs=((num ws).take i).map V.int/\∃o,aj=[o,some (.ref d)]) ⟨rfl,rfl,none,rfl⟩ (by rw[hW.1];lia) (fun i zs aj H2 hi h2=>⟨by rw[h2.1];exact s'.seq ha,by rw[h2.2.1,ja_,jw_];lia⟩) (fun i x zs aj H2 hx h2=>?_) (fun zs aj H2 h2 D hD=>?_)⟩
    ·obtain⟨rfl,rfl,o2,rfl⟩:=h2
     obtain⟨t,v,dj,rfl,ht⟩:=hW.at hx
     have dS:H2 t=some (.tup ((wkey v).map kV)):=by rw[Kf];exact s' _ _ ht
     have e:=Dp (fun x y z=>FF z) (Bf ws) (AN.mpr (jc_ dj))
     have hg:=DGet.t cV dS
     rw[e]at hg
     nofun
     refine⟨_,hg,?_⟩
     first
      | (refine⟨rfl,?_,_,rfl⟩;rw[jQ_,NH dj,jV_];rfl)
      | (refine⟨?_,_,rfl⟩;rw[jQ_,NH dj,jV_];rfl)
    ·obtain⟨rfl,rfl,o2,rfl⟩:=h2
     rw[hW.1,jP_ (by rw[Gk];exact jg_ _)]
     exact k D _ (s'.newT hD) (s'.none hD) Ab
noncomputable def BehL (H:Hp)(mm pw pb:Addr)(aa:α2)(n:Nat)(b:α2->Nat->Int)(bs:List V)(words:α1):Prop:=bs.length=words.length/\∀(i:Nat) (w:α2),words[i]?=some w->∃t,bs[i]?=some (.ref t)/\((H t=some (.lst ((rowB n b w).map V.int))/\t≠pw/\t≠pb)\/(t=mm/\rowB n b w=aa))
def BehL.keep        (h:BehL H mm pw pb aa n b bs words)(s:∀t o,t≠pw->t≠pb->H t=some o->H' t=some o):BehL H' mm pw pb aa n b bs words:=⟨h.1,fun i w hi=>by
 obtain⟨t,e1,e2⟩:=h.2 i w hi
 exact⟨t,e1,e2.imp (fun e=>⟨s _ _ e.2.1 e.2.2 e.1,e.2⟩) id⟩⟩
def BehL.snoc {H:Hp}{mm pw pb:Addr}{aa:α2}{n:Nat}{b:α2->Nat->Int}{bs:List V}{words:α1}{t:Addr}{w:α2}(h:BehL H mm pw pb aa n b bs words)(ht:H t=some (.lst ((rowB n b w).map V.int)))(h1:t≠pw)(h2:t≠pb):BehL H mm pw pb aa n b (bs++[.ref t]) (words++[w]):=by
 refine⟨by simp[h.1],fun i r hi=>?_⟩
 by_cases hl:i<words.length
 ·rw[ji_ hl]at hi
  rw[ji_ (by rw[h.1];exact hl)]
  exact h.2 i r hi
 ·have:=(jb_.mp hi).1
  rw[jn_,jW_]at this
  have e:i=words.length:=by lia
  subst e
  rw[jp_ (jg_ _),qv_]at hi
  simp at hi
  subst hi
  exact⟨t,by rw[<-h.1];simp,.inl ⟨ht,h1,h2⟩⟩
def WC.short      (h:WC L n b words c):∀(k:Nat) (w:α2),words[k]?=some w->w.length<=k:=by
 intro k
 induction k using Nat.strongRecOn with
 |_ k ih=>
  intro w hw
  cases k with
  |zero=>
   rw[h.w0]at hw
   cases hw
   exact jX_ _
  |succ k=>
   obtain⟨j,hj⟩:=jI_.mp (h.tl (k+1) w hw (Nat.succ_pos _))
   rw[List.getElem?_take]at hj
   split at hj
   ·rename_i ar
    have:=ih j ar _ hj
    rw[List.length_tail]at this
    lia
   ·cases hj
noncomputable def zipW (c m:α2):α1:=(c.zip m).map fun p=>[p.1,p.2]
def SD (c m:α2):num (zipW c m)=num (c.zip m):=UW _ fun p _ q _ e=>by
 have h1:=List.cons.inj e
 exact Prod.ext h1.1 (List.cons.inj h1.2).1
noncomputable def Ve (K:α3):Sp:=fun vs H Q _=>∃(h:Addr) (L:Nat) (aa:α2) (ae:α1),vs=[.ref h]/\Bb K H h L aa ae/\Wf L aa ae/\∀t pw pc xs H',Same H H'->H' t=some (.tup [.ref pw,.ref pc])->H pw=none->H' pw=some (.lst xs)->AB K H' xs (wcOf aa.length L (bW aa ae)).1->H' pc=some (.lst ((wcOf aa.length L (bW aa ae)).2.map V.int))->Fin17 aa.length L (bW aa ae) (wcOf aa.length L (bW aa ae))->Q (.ref t) H'
def E7   (F:Fun K "words_and_classes" "words_and_classes" A5 f fd)(T:Txt mg)
   (hV:⋯ 1 "numbered" EX ["row"] (T3 K) JG Iy)
  : nofun 2 f fd ["house"] (Ve K):=by
 delta Aw
 ·obtain⟨h,L,aa,ae,rfl,_⟩:=h;rfl
 ·obtain⟨h,L,aa,ae,rfl,hh,wf,k⟩:=h
  have hl:=As
  have cH:=wf.l1
  have cI:=wf.l6
  have bS:=wf.n1
  have aP:=wf.n40
  refine⟨_,(Ac (Ak (i:=1) Aw.nd (Bu (Aa (BN Ae) Ae)))
   (Ac (Bl (i:=2) Aw.nd rfl (Or.inr rfl) (Bu (Aa (Ag (ixTD An) (pvD 0) Ad) Ae)))
   (Ac (Ak (i:=3) Aw.nd (Ah hV hr.d AL (Aa (Ag (ixTD An) (pvD 0) Ad) Ae)))
   (Ac (Bl (i:=4) Aw.nd rfl (Or.inr rfl) Ad)
   (Ac (EK jJ_ (ptT (Ar (opD0 G0) (pvD 4) (Ao (lenD Ai) (by rfl) T.len jD_ (Aa (pvD 1) Ae)) (AE _)))
   (Ac (Bm jJ_ rfl (AQ rfl T.range (Aa (Ag (ixTD An) (pvD 0) Ad) Ae)) (Ap (i:=5) Aw.nd rfl (Or.inr rfl))
   (Ac (Du (i:=6) Aw.nd rfl rfl rfl (A4 rfl) (cp:=Cv) ⟨⟨rfl,rfl⟩,⟨⟨rfl,rfl⟩,⟨⟨rfl,rfl⟩,True.intro⟩⟩⟩ (Eb (Ag (ixTD An) (pvD 0) Ad)) (fun _ _ _ _=>(Ap (i:=0) Dh rfl (Or.inl rfl))) (fun _ _ _ _=>Be) (fun _ _ _ _=>(VN (US (K:=K) rfl) (Ag (ixLD (Bi (K:=K) rfl)) (pvD 1) (pvD 2)) (Ag (ixTD (Bs (K:=K) rfl)) (pvD 0) (pvD 3)) (fun _ _=>rfl))))
   (Ac (Ak (i:=7) Aw.nd (Ah hV hr.d AL (Aa (Ow rfl rfl T.list rfl T.zip (Aa (pvD 3) (Aa (pvD 6) Ae))) Ae)))
   (Af (Bz (ptT (Ar (opD0 Um) (Ao (Ln rfl) rfl T.max zw_ (Aa (pvD 7) Ae)) (Ao (Ln rfl) rfl T.max zw_ (Aa (pvD 3) Ae)) (AE _)))
   (Ac (A9 (C7 jE_ jM_ jN_ AR (pvD 1) (Aa (Am ER (BN (Aa (pvD 5) Ae)) (Ag (ixLD AU) (pvD 1) (pvD 4))) Ae)))
   (Ac (A9 (C7 jE_ jM_ jN_ AR (pvD 2) (Aa (pvD 6) Ae)))
   (Af (Ak (i:=3) Aw.nd (pvD 7)))))
   AH)))))
   (Af (O5 (i:=4) Aw.nd rfl (Or.inr rfl) Ad SW))))
   (Af (AA (BN (Aa (pvD 1) (Aa (pvD 3) Ae)))))))))),?_⟩
  obtain⟨mm,wv,q1,q2,ts,q3,q4,q5⟩:=id hh
  nofun
  refine⟨jX_ _,fun t0 hX=>⟨by lia,fun pw aX=>?_⟩⟩
  have s1:=(Same.new hX (o:=.tup [])).newT aX (o:=.lst [V.ref t0])
  have hpwH:H pw=none:=(Same.new hX (o:=.tup [])).none aX
  have cw:upd (upd H t0 (.tup [])) pw (.lst [V.ref t0]) pw=some (.lst [V.ref t0]):=Ab
  have hW1:AB K (upd (upd H t0 (.tup [])) pw (.lst [V.ref t0])) [V.ref t0] [[]]:=⟨rfl,fun i w hi=>by
   match i,hi with
   |0,hi=>cases hi;exact⟨t0,rfl,Same.new aX _ _ Ab⟩⟩
  generalize upd (upd H t0 (.tup [])) pw (.lst [V.ref t0])=H1 at s1 cw hW1 ⊢
  refine⟨_,s1.seqT q1,_,rfl,by lia,fun pb lg=>?_⟩
  have hpbH:H pb=none:=s1.none lg
  have hpbw:pb≠pw:=fun z=>by rw[z,cw]at lg;cases lg
  have s2:=s1.newT lg (o:=.lst [V.ref mm])
  have eJ:upd H1 pb (.lst [V.ref mm]) pb=some (.lst [V.ref mm]):=Ab
  have dG:=Same.new lg (o:=.lst [V.ref mm]) _ _ cw
  have jB:=hW1.mono (TK.new lg (o:=.lst [V.ref mm]))
  generalize upd H1 pb (.lst [V.ref mm])=H2 at s2 eJ dG jB ⊢
  refine⟨_,s2.seqT q1,_,rfl,mm,rfl,.inl ⟨aa,s2.seqT q2,by lia,fun pc H3 s3 h8 hpc3=>?_⟩⟩
  have jC:=s2.trans s3
  obtain⟨Pv,aq⟩:∃Pv:Nat->St->Hp->Prop,∀m ag H',Pv m ag H'↔(∃(st:StC) (k:Nat) (xs bs:List V) (pc:Addr) (o5 o6 o7:Option V),m=41-k/\Same H H'/\H' pw=some (.lst xs)/\AB K H' xs st.1/\H' pb=some (.lst bs)/\BehL H' mm pw pb aa aa.length (bW aa ae) bs st.1/\H' pc=some (.lst (st.2.map V.int))/\pc≠pw/\pc≠pb/\WS aa.length L (bW aa ae) k 0 st/\FJ aa.length (bW aa ae) L (41-k) k st=wcOf aa.length L (bW aa ae)/\ag=[some (.ref h),some (.ref pw),some (.ref pb),some (.ref pc),some (.int k),o5,o6,o7]):=⟨_,fun _ _ _=>qo_⟩
  have hpcw:pc≠pw:=fun z=>by rw[z,dG]at h8;cases h8
  have hpcb:pc≠pb:=fun z=>by rw[z,eJ]at h8;cases h8
  refine Jm Pv ⟨_,(aq _ _ _).mpr ⟨([[]],num (rowB aa.length (bW aa ae) [])),0,[V.ref t0],[V.ref mm],pc,none,none,none,rfl,jC,s3 _ _ dG,jB.mono (TK.of s3),s3 _ _ eJ,⟨rfl,fun i w hi=>?_⟩,by rw[Tv];exact hpc3,hpcw,hpcb,WS.start bS,rfl,rfl⟩⟩ ?_
  ·match i,hi with
   |0,hi=>cases hi;exact⟨mm,rfl,.inr ⟨rfl,Tv⟩⟩
  intro m bE H4 h4
  obtain⟨st,k0,xs,bs,pc4,o5,o6,o7,rfl,s4,cL,gF,hb4,hB4,oZ,hcw4,hcb4,pj,ho4,rfl⟩:=(aq _ _ _).mp h4
  have gN:=pj.few
  nofun
  refine⟨_,.inl (SqL.of cL),?_⟩
  rw[gF.1]
  refine ite2 (fun ar=>?_) (fun bo=>?_)
  ·have hk:k0<st.1.length:=by lia
   obtain⟨w,d0⟩:∃w,st.1[k0]?=some w:=⟨st.1[k0],by simp[hk]⟩
   refine⟨Pv (41-(k0+1)),fun ag H' h=>⟨_,by lia,h⟩,?_⟩
   nofun
   refine⟨_,s4.seqT q1,_,rfl,L,rfl,by lia,by lia,?_⟩
   rw[jh_]
   obtain⟨Pz,mB⟩:∃Pv:Nat->St->Hp->Prop,∀i ag H',Pv i ag H'↔(∃(ah:StC) (xs bs:List V) (pc:Addr) (o5 o6 o7:Option V),ah=FH aa.length (bW aa ae) w i st/\Same H H'/\H' pw=some (.lst xs)/\AB K H' xs ah.1/\H' pb=some (.lst bs)/\BehL H' mm pw pb aa aa.length (bW aa ae) bs ah.1/\H' pc=some (.lst (ah.2.map V.int))/\pc≠pw/\pc≠pb/\WS aa.length L (bW aa ae) k0 i ah/\ah.1[k0]?=some w/\ag=[some (.ref h),some (.ref pw),some (.ref pb),some (.ref pc),some (.int k0),o5,o6,o7]):=⟨_,fun _ _ _=>qo_⟩
   refine forR Pz ((mB _ _ _).mpr ⟨st,xs,bs,pc4,o5,o6,o7,rfl,s4,cL,gF,hb4,hB4,oZ,hcw4,hcb4,pj,d0,rfl⟩) (fun i ic H5 hi h5=>?_) (fun ic H5 h5=>?_)
   ·obtain⟨a8,mD,mE,pq,p5,p6,p7,jD,s5,fo,iU,lh,lj,ni,jE,jF,fq,eT,rfl⟩:=(mB _ _ _).mp h5
    rw[zx_]
    have hfew5:=fq.few
    have hisw:=fq.wc.ok w (jc_ eT)
    obtain⟨tb,kW,htbv⟩:=lj.2 k0 w eT
    nofun
    refine⟨_,s5.seqT q1,_,rfl,wv,rfl,⟨_,s5.seqT q3⟩,UB (xs:=ts.map V.ref) (fun j zs ag H'=>H'=H5/\zs=((rowB aa.length (bW aa ae) ((i:Int)::w)).take j).map V.int/\∃o,ag=[o,some (.ref pb),some (.int k0),some (.int i)]) ⟨rfl,rfl,none,rfl⟩ (by rw[ja_,q4,wf.len];lia) (fun j zs ag H' hj h'=>⟨by rw[h'.1];exact s5.seqT q3,by rw[h'.2.1,ja_,jw_];lia⟩) (fun j x zs ag H' hx h'=>?_) (fun zs ag H' h' D hD=>?_)⟩
    ·obtain⟨rfl,rfl,o,rfl⟩:=h'
     rw[jd_]at hx
     cases nj:ts[j]? with
     |none=>rw[nj]at hx;cases hx
     |some tj=>
      rw[nj]at hx
      cases hx
      have hj:j<aa.length:=by rw[<-wf.len,<-q4];exact (jb_.mp nj).1
      obtain⟨row,g,r1,r2,r3,r4,r5⟩:=wf.step (show (0:Int)<=(j:Nat) by lia) s!"" (show (0:Int)<=(i:Nat) by lia) s!""
      rw[jh_]at r1 r2
      have hrow:=q5 j tj row nj r1
      have ie:(rowB aa.length (bW aa ae) w)[g.toNat]?=some (bW aa ae ((i:Int)::w) j):=by
       rw[B3 s!"",Mv w (i:Int) j (by rw[r3];exact r4),r3]
      have mz:(rowB aa.length (bW aa ae) ((i:Int)::w))[j]?=some (bW aa ae ((i:Int)::w) j):=B3 hj
      nofun
      refine⟨_,SqL.of lh,_,Ec kW,_,s5.seqT hrow,_,AY s!"" (by rw[jh_];exact r2),?_⟩
      have aU:((rowB aa.length (bW aa ae) ((i:Int)::w)).take j).map V.int++[V.int (bW aa ae ((i:Int)::w) j)]=((rowB aa.length (bW aa ae) ((i:Int)::w)).take (j+1)).map V.int:=by rw[jQ_,mz,jV_];rfl
      rcases htbv with ⟨bw,_,_⟩|⟨ig,iV⟩
      ·exact .inl ⟨tb,rfl,_,g,rfl,SqL.of bw,_,AY r4 ie,aU,_,rfl⟩
      ·exact .inr ⟨tb,rfl,_,g,rfl,by rw[ig];exact s5.seqT q2,_,AY r4 (by have hv:=ie;rw[iV]at hv;exact hv),aU,_,rfl⟩
    ·obtain⟨rfl,rfl,o,rfl⟩:=h'
     rw[ja_,q4,wf.len,jP_ (by rw[DA];exact jg_ _)]
     have aw:a8.2.zip (rowB aa.length (bW aa ae) ((i:Int)::w)) ≠ []:=fun z=>by
      have:=jH_ List.length z
      rw[zM_,fq.wc.len,DA,Nat.min_self,qm_]at this
      lia
     have eG:(zipW a8.2 (rowB aa.length (bW aa ae) ((i:Int)::w))).length=aa.length:=by
      unfold zipW
      rw[ja_,zM_,fq.wc.len,DA];lia
     refine⟨D,rfl,_,SqL.of (Same.new hD _ _ ni),_,SqL.of Ab,by rw[ja_,ja_,fq.wc.len,DA],fun l rs H6 s6 pA cR pB=>⟨l,rfl,.inr ⟨rs,zipW a8.2 (rowB aa.length (bW aa ae) ((i:Int)::w)),SqL.of Ab,⟨?_,fun j v hj=>?_⟩,by lia,fun pf H7 s7 jG fZ=>?_⟩⟩⟩
     ·rw[cR,eG,ja_,fq.wc.len]
     ·unfold zipW at hj
      rw[jd_]at hj
      cases hq:(a8.2.zip (rowB aa.length (bW aa ae) ((i:Int)::w)))[j]? with
      |none=>rw[hq]at hj;cases hj
      |some p=>
       rw[hq]at hj
       cases hj
       obtain⟨u1,u2⟩:=qQ_.mp (show (a8.2.zip (rowB aa.length (bW aa ae) ((i:Int)::w)))[j]?=some (p.1,p.2) from hq)
       obtain⟨t,t1,t2⟩:=pB j (V.int p.1) (V.int p.2) (by rw[jd_,u1];rfl) (by rw[jd_,u2];rfl)
       exact⟨t,t1,Same.new pA _ _ t2⟩
     have sD:Same H' (upd H' D (.lst ((rowB aa.length (bW aa ae) ((i:Int)::w)).map V.int))):=Same.new hD
     have ik:upd H' D (.lst ((rowB aa.length (bW aa ae) ((i:Int)::w)).map V.int)) D=some (.lst ((rowB aa.length (bW aa ae) ((i:Int)::w)).map V.int)):=Ab
     have s67:=(Same.new pA (o:=.lst rs)).trans s7
     have iW:=sD.trans (s6.trans s67)
     have nk:=(s6.trans s67) _ _ ik
     have nq:=iW _ _ fo
     have hb7:=iW _ _ lh
     have hc7:=iW _ _ ni
     have hDw:D≠pw:=fun z=>by rw[z,fo]at hD;cases hD
     have hDb:D≠pb:=fun z=>by rw[z,lh]at hD;cases hD
     have ip:H' pf=none:=sD.none (s6.none ((Same.new pA (o:=.lst rs)).none jG))
     have hpfw:pf≠pw:=fun z=>by rw[z,fo]at ip;cases ip
     have hpfb:pf≠pb:=fun z=>by rw[z,lh]at ip;cases ip
     have cy:=fq.step bS eT hi
     have d7:FH aa.length (bW aa ae) w (i+1) st=IZ aa.length (bW aa ae) w a8 i:=by rw[Ii,<-jD]
     rw[SD]at fZ
     refine⟨pf,rfl,_,SqL.of fZ,(ncl (a8.2.zip (rowB aa.length (bW aa ae) ((i:Int)::w))):Int)-1,Kh aw,(fun x hx=>by have:=NJ hx;lia),_,SqL.of hc7,(ncl a8.2:Int)-1,fq.wc.top,(fun x hx=>by have:=fq.wc.rng x hx;lia),?_⟩
     refine ite2 (fun kO=>?_) (fun aQ=>?_)
     ·have hgt':ncl a8.2<ncl (a8.2.zip (rowB aa.length (bW aa ae) ((i:Int)::w))):=by lia
      have pC:IZ aa.length (bW aa ae) w a8 i=(a8.1++[(i:Int)::w],num (a8.2.zip (rowB aa.length (bW aa ae) ((i:Int)::w)))):=by unfold IZ;rw[if_pos hgt']
      obtain⟨tw,htw1,htw2⟩:=iU.2 k0 w eT
      have hwlen:=WC.short fq.wc k0 w eT
      refine⟨.inl ⟨rfl,_,SqL.of nq⟩,by lia,fun p1 bp=>⟨_,SqL.of (Same.new bp _ _ nq),_,Ec htw1,E9.ofS Ab (Same.new bp _ _ (iW _ _ htw2)) (by simp;lia) fun q H8 s8 hq=>?_⟩⟩
      have mF:=(Same.new bp (o:=.tup [V.int i])).trans s8
      have hw8:=mF _ _ nq
      have hb8:=mF _ _ hb7
      have bH:=iU.1
      have hbl:=lj.1
      refine⟨_,hw8,by lia,?_⟩
      have pD:upd H8 pw (.lst (mD++[V.ref q])) pb=some (.lst mE):=by rw[Aj hpbw];exact hb8
      have pE:=iW.trans mF
      rw[pC]at cy d7
      refine⟨.inl ⟨rfl,_,SqL.of pD⟩,_,pD,by lia,(mB _ _ _).mpr ⟨_,mD++[V.ref q],mE++[V.ref D],pf,_,_,_,d7.symm,((s5.trans pE).over hpwH).over hpbH,by rw[Aj (qp_ hpbw),Ab],(((iU.mono (TK.of pE)).snoc (w:=(i:Int)::w) hq).mono (TK.lst hw8)).mono (TK.lst pD),Ab,?_,by rw[Aj hpfb,Aj hpfw];exact mF _ _ fZ,hpfw,hpfb,cy.1,cy.2,rfl⟩⟩
      exact BehL.snoc (lj.keep (fun t o t1 t2 e=>by rw[Aj t2,Aj t1];exact pE _ _ e)) (by rw[Aj hDb,Aj hDw];exact mF _ _ nk) hDw hDb
     ·have jw:¬ ncl a8.2<ncl (a8.2.zip (rowB aa.length (bW aa ae) ((i:Int)::w))):=by lia
      have pC:IZ aa.length (bW aa ae) w a8 i=a8:=by unfold IZ;rw[if_neg jw]
      rw[pC]at cy d7
      exact (mB _ _ _).mpr ⟨a8,mD,mE,pq,_,_,_,d7.symm,s5.trans iW,nq,iU.mono (TK.of iW),hb7,lj.keep (fun t o _ _ e=>iW _ _ e),hc7,jE,jF,cy.1,cy.2,rfl⟩
   ·obtain⟨a8,mD,mE,pq,p5,p6,p7,jD,s5,fo,iU,lh,lj,ni,jE,jF,fq,eT,rfl⟩:=(mB _ _ _).mp h5
    nofun
    have e41:41-k0=(41-(k0+1))+1:=by lia
    refine (aq _ _ _).mpr ⟨a8,k0+1,mD,mE,pq,_,_,_,rfl,s5,fo,iU,lh,lj,ni,jE,jF,fq.next,?_,rfl⟩
    rw[jD,<-ho4,e41,Lp d0]
  ·have e:st=wcOf aa.length L (bW aa ae):=by rw[<-ho4,Jt s!""]
   have aU:=pj.fin s!""
   rw[e]at gF oZ aU
   exact⟨by lia,fun p hp=>k p pw pc4 xs _ (s4.newT hp) Ab hpwH (Same.new hp _ _ cL) (gF.mono (TK.new hp)) (Same.new hp _ _ oZ) aU⟩
noncomputable def T4 (K:α3):Sp:=fun vs H Q _=>∃(h:Addr) (L:Nat) (aa:α2) (ae:α1),vs=[.ref h]/\Bb K H h L aa ae/\Wf L aa ae/\∀pw xs H',Same H H'->H pw=none->H' pw=some (.lst xs)->AB K H' xs (wcOf aa.length L (bW aa ae)).1->Fin17 aa.length L (bW aa ae) (wcOf aa.length L (bW aa ae))->Q (.ref pw) H'
def OU   (F:Fun K "tellers" "tellers" FQ f fd)(T:Txt mg)
   (eU:⋯ 2 "words_and_classes" A5 ["house"] (Ve K) BS BM)
  : nofun 3 f fd ["house"] (T4 K):=by
 delta OQ
 ·obtain⟨h,L,aa,ae,rfl,_⟩:=h;rfl
 ·obtain⟨h,L,aa,ae,rfl,hh,wf,k⟩:=h
  refine⟨_,(Af (AA (Ag (ixTD An) (Ah eU hr.d AL (Aa (pvD 0) Ae)) Ad))),?_⟩
  nofun
  exact⟨h,L,aa,ae,rfl,hh,wf,fun t pw pc xs H' s' ht jH aX hW mG aU=>⟨t,rfl,_,SqT.of ht,_,rfl,k pw xs H' s' jH aX hW aU⟩⟩
noncomputable def T5 (K:α3):Sp:=fun vs H Q _=>∃(h:Addr) (L:Nat) (aa:α2) (ae:α1),vs=[.ref h]/\Bb K H h L aa ae/\Wf L aa ae/\∀pc H',Same H H'->H' pc=some (.lst ((wcOf aa.length L (bW aa ae)).2.map V.int))->Fin17 aa.length L (bW aa ae) (wcOf aa.length L (bW aa ae))->Q (.ref pc) H'
def KD   (F:Fun K "classes_of" "classes_of" CW f fd)(T:Txt mg)
   (eU:⋯ 2 "words_and_classes" A5 ["house"] (Ve K) BS BM)
  : nofun 3 f fd ["house"] (T5 K):=by
 delta Kw
 ·obtain⟨h,L,aa,ae,rfl,_⟩:=h;rfl
 ·obtain⟨h,L,aa,ae,rfl,hh,wf,k⟩:=h
  refine⟨_,(Af (AA (Ag (ixTD An) (Ah eU hr.d AL (Aa (pvD 0) Ae)) Ad))),?_⟩
  nofun
  exact⟨h,L,aa,ae,rfl,hh,wf,fun t pw pc xs H' s' ht jH aX hW mG aU=>⟨t,rfl,_,SqT.of ht,_,rfl,k pc H' s' mG aU⟩⟩
def Iz {α:Type}[DecidableEq α]:∀(row ai:List α),∃t,BD ai row=ai++t
 |[],ai=>⟨[],by simp[BD]⟩
 |x::row,ai=>by
  obtain⟨t,ht⟩:=Iz row (ins1 ai x)
  show ∃t,BD (ins1 ai x) row=ai++t
  rw[ht]
  unfold ins1
  split
  ·exact⟨t,rfl⟩
  ·exact⟨x::t,by simp⟩
def OV  [DecidableEq α](a b:List α):∃t,Ay (a++b)=Ay a++t:=by
 unfold Ay BD
 rw[qx_]
 exact Iz b _
def KG {α:Type}[DecidableEq α]{row:List α}{i:Nat}{x:α}(h:x∈Ay (row.take i)):(Ay row).idxOf x=(Ay (row.take i)).idxOf x:=by
 obtain⟨t,ht⟩:=OV (row.take i) (row.drop i)
 rw[xa_]at ht
 rw[ht,zX_,if_pos h]
noncomputable def D8 (c R:α2)(n i:Nat):List V:=(List.range n).map fun r:Nat=>if (r:Int)∈R.take i then V.int (hm c R r) else V.non
def F4   : (D8 c R n i).length=n:=by unfold D8;simp
def Rj {c R:α2}{n i:Nat}{r:Int}(hr:R[i]?=some r)(h0:0<=r)(h1:r<(n:Int)):(D8 c R n i).set r.toNat (V.int (hm c R r))=D8 c R n (i+1):=by
 have et:R.take (i+1)=R.take i++[r]:=by rw[jQ_,hr];rfl
 refine qL_ fun j=>?_
 by_cases hj:j<n
 ·have e2:(D8 c R n (i+1))[j]?=some (if (j:Int)∈R.take (i+1) then V.int (hm c R j) else V.non):=by
   unfold D8
   rw[jd_,qE_ hj];rfl
  have e1:(D8 c R n i)[j]?=some (if (j:Int)∈R.take i then V.int (hm c R j) else V.non):=by
   unfold D8
   rw[jd_,qE_ hj];rfl
  rw[e2]
  by_cases e:r.toNat=j
  ·have mz:r=(j:Int):=by lia
   rw[<-e,qN_ (by rw[F4];lia),e,<-mz,if_pos (by rw[et];simp)]
  ·rw[xf_ e,e1]
   have aw:¬ (j:Int)=r:=fun z=>e s!""
   by_cases bN:(j:Int)∈R.take i
   ·rw[if_pos bN,if_pos (by rw[et];exact qa_ _ bN)]
   ·rw[if_neg bN,if_neg (by rw[et];intro z;rcases jA_.mp z with z|z;exact bN z;exact aw (jr_.mp z))]
 ·rw[jT_ (by rw[qP_,F4];lia),jT_ (by rw[F4];lia)]
noncomputable def NX (K:α3):Sp:=fun vs H Q _=>∃(h:Addr) (L:Nat) (aa:α2) (ae:α1),vs=[.ref h]/\Bb K H h L aa ae/\Wf L aa ae/\∀p H',Same H H'->H p=none->H' p=some (.lst (D8 (wcOf aa.length L (bW aa ae)).2 ((Au ae).map (·.1)) aa.length ((Au ae).map (·.1)).length))->Fin17 aa.length L (bW aa ae) (wcOf aa.length L (bW aa ae))->RF L aa.length ae ((Au ae).map (·.1))->Q (.ref p) H'
def SE   (F:Fun K "homes" "homes" Kx f fd)(T:Txt mg)
   (eV:⋯ 2 "reached" Em ["house"] (GA K) IA GC)
   (jI:⋯ 3 "classes_of" CW ["house"] (T5 K) GS F5)
  : nofun 4 f fd ["house"] (NX K):=by
 delta FT
 ·obtain⟨h,L,aa,ae,rfl,_⟩:=h;rfl
 ·obtain⟨h,L,aa,ae,rfl,hh,wf,k⟩:=h
  have hl:=As
  have aP:=wf.n40
  obtain⟨mm,wv,q1,q2,q3⟩:=id hh
  refine⟨_,(Ac (Ak (i:=1) FT.nd (Ah jI hr.d AL (Aa (pvD 0) Ae)))
   (Ac (Ak (i:=2) FT.nd Nh)
   (Ac (Ak (i:=3) FT.nd (Am PH (Bu (Aa O3 Ae)) (Ao (lenD Ai) (by rfl) T.len jD_ (Aa (Ag (ixTD An) (pvD 0) Ad) Ae))))
   (Ac (Bm jJ_ rfl (AX (Ah eV hr.d AL (Aa (pvD 0) Ae))) (Ap (i:=4) FT.nd rfl (Or.inl rfl))
   (Af (KS (OA (pvD 2) (Ag (ixLD AU) (pvD 1) (pvD 4)) (Ao Lo (by rfl) T.len jD_ (Aa (pvD 2) Ae)) ⟨by rfl,by rfl,by rfl,by rfl⟩) (KR (pvD 3) (pvD 4) set_list))))
   (Af (AA (pvD 3))))))),?_⟩
  nofun
  refine⟨h,L,aa,ae,rfl,hh,wf,fun pc H1 s1 mG aU=>?_⟩
  intro pd ll
  have sd:=s1.newT ll (o:=.dK [])
  refine⟨by lia,fun p1 bp=>⟨_,(sd.newT bp).seqT q1,_,rfl,mm,rfl,_,.inr ((sd.newT bp).seqT q2),_,Ab,by lia,by rw[ja_];lia,by rw[ja_,jW_,jh_];lia,fun pt gZ=>?_⟩⟩
  rw[ja_,jh_]
  have sT:=(sd.newT bp (o:=.lst [V.non])).newT gZ (o:=.lst (List.replicate aa.length [V.non]).flatten)
  have jJ:H pt=none:=(sd.newT bp (o:=.lst [V.non])).none gZ
  have hpdN:H pd=none:=s1.none ll
  have jK:upd (upd (upd H1 pd (.dK [])) p1 (.lst [V.non])) pt (.lst (List.replicate aa.length [V.non]).flatten) pd=some (.dK []):=(Same.new gZ) _ _ ((Same.new bp) _ _ Ab)
  have jL:upd (upd (upd H1 pd (.dK [])) p1 (.lst [V.non])) pt (.lst (List.replicate aa.length [V.non]).flatten) pt=some (.lst (List.replicate aa.length [V.non]).flatten):=Ab
  have jM:upd (upd (upd H1 pd (.dK [])) p1 (.lst [V.non])) pt (.lst (List.replicate aa.length [V.non]).flatten) pc=some (.lst ((wcOf aa.length L (bW aa ae)).2.map V.int)):=(Same.new gZ) _ _ ((Same.new bp) _ _ ((Same.new ll) _ _ mG))
  generalize upd (upd (upd H1 pd (.dK [])) p1 (.lst [V.non])) pt (.lst (List.replicate aa.length [V.non]).flatten)=HT at sT jK jL jM ⊢
  clear sd bp gZ ll s1 mG
  refine⟨h,L,aa,ae,rfl,hh.mono sT,wf,fun pR H2 s2 cM jN rf=>⟨pR,rfl,⟨_,SqL.of jN⟩,?_⟩⟩
  generalize hR:(Au ae).map (·.1)=R at jN rf k
  generalize lH:wcOf aa.length L (bW aa ae)=st at jM aU k
  have s02:=sT.trans s2
  have iq:=s2 _ _ jK
  have jO:=s2 _ _ jL
  have f6:=s2 _ _ jM
  have pF:pd≠pt:=fun z=>by rw[z,jO]at iq;cases iq
  have hRt:pR≠pt:=fun z=>by rw[z,jL]at cM;cases cM
  have hRd:pR≠pd:=fun z=>by rw[z,jK]at cM;cases cM
  have bL:pc≠pd:=fun z=>by rw[z,iq]at f6;cases f6
  have hct:pc≠pt:=fun z=>by
   rw[z,jO]at f6
   have bF:=aU.wc.len
   have e:=jq_ f6
   injection e with e
   have bS:=wf.n1
   have e0:=jH_ (fun l:List V=>l[0]?) e
   obtain⟨n,hn⟩:∃n,aa.length=n+1:=⟨aa.length-1,by lia⟩
   cases hc:st.2 with
   |nil=>rw[hc]at bF;simp at bF;lia
   |cons a r=>rw[hc,hn]at e0;simp[qi_]at e0
  have cc:∀x y:Int,(Sum.inl x:Key)=Sum.inl y->x=y:=fun x y z=>Sum.inl.inj z
  obtain⟨Pv,aq⟩:∃Pv:Nat->St->Hp->Prop,∀i ag H',Pv i ag H'↔(∃o:Option V,Same H H'/\H' pR=some (.lst (R.map V.int))/\H' pc=some (.lst (st.2.map V.int))/\H' pd=some (.dK (numD (fun x:Int=>(Sum.inl x:Key)) (Ay ((R.map (cf st.2)).take i))))/\H' pt=some (.lst (D8 st.2 R aa.length i))/\ag=[some (.ref h),some (.ref pc),some (.ref pd),some (.ref pt),o]):=⟨_,fun _ _ _=>qo_⟩
  refine forL (xs:=R.map V.int) Pv ((aq _ _ _).mpr ⟨none,s02,jN,f6,iq,?_,rfl⟩) (fun i ag H' _ h'=>by obtain⟨_,_,h2,_⟩:=(aq _ _ _).mp h';exact SqL.of h2) (fun i x ag H' hx h'=>?_) (fun ag H' h'=>?_)
  ·rw[jO]
   congr 2
   unfold D8
   refine qL_ fun j=>?_
   by_cases hj:j<aa.length
   ·rw[jd_,qE_ hj];simp[hj]
   ·rw[jT_ (by simp;lia),jT_ (by simp;lia)]
  ·obtain⟨o,s',dH,ir,f7,f9,rfl⟩:=(aq _ _ _).mp h'
   obtain⟨r,hr,rfl⟩:=BQ hx
   have eN:=jc_ hr
   have b7:=rf.rng r eN
   have mq:(R.map (cf st.2))[i]?=some (cf st.2 r):=by rw[jd_,hr];rfl
   have bF:=aU.wc.len
   have lb:=KC (R.map (cf st.2)) i
   rw[ja_]at lb
   have pG:=rf.len
   have nd:=Bf ((R.map (cf st.2)).take i)
   have et:=DL mq
   have hcat:(st.2)[r.toNat]?=some (cf st.2 r):=by unfold cf;rw[jj_];simp[show r.toNat<st.2.length by lia]
   nofun
   have eI:ixN (D8 st.2 R aa.length i).length r=some r.toNat:=by rw[F4];exact Wg b7.1 s!""
   have gc:=Rj (c:=st.2) (n:=aa.length) hr b7.1 b7.2
   refine⟨.inl ⟨_,.inl f7⟩,_,SqL.of ir,_,AY b7.1 hcat,.inl ⟨_,f7,_,rfl,_,f7,by rw[DK];lia,fun v hv=>?_,fun hn=>?_⟩⟩
   ·by_cases bN:cf st.2 r∈Ay ((R.map (cf st.2)).take i)
    ·have e:=Dp (k:=fun x:Int=>(Sum.inl x:Key)) cc nd bN
     have e2:=hv.symm.trans e
     cases e2
     have eh:hm st.2 R r=(((Ay ((R.map (cf st.2)).take i)).idxOf (cf st.2 r):Nat):Int):=by unfold hm;rw[KG bN]
     refine⟨_,f9,_,eI,(aq _ _ _).mpr ⟨_,s'.over jJ,by rw[Aj hRt];exact dH,by rw[Aj hct];exact ir,by rw[Aj pF,et,ins1,if_pos bN];exact f7,by rw[Ab,<-gc,eh],rfl⟩⟩
    ·have e:=F3 (k:=fun x:Int=>(Sum.inl x:Key)) cc bN
     have e2:=hv.symm.trans e
     cases e2
   ·have bN:cf st.2 r∉Ay ((R.map (cf st.2)).take i):=fun z=>by
     have e:=Dp (k:=fun x:Int=>(Sum.inl x:Key)) cc nd z
     have e2:=hn.symm.trans e
     cases e2
    have jA:=KA (k:=fun x:Int=>(Sum.inl x:Key)) cc bN
    have eh:hm st.2 R r=((numD (fun x:Int=>(Sum.inl x:Key)) (Ay ((R.map (cf st.2)).take i))).length:Int):=by
     unfold hm
     rw[DK,KG (i:=i+1) (by rw[et,ins1,if_neg bN];simp),et,ins1,if_neg bN,Mu bN]
    have hpt2':upd H' pd (.dK (putK (numD (fun x:Int=>(Sum.inl x:Key)) (Ay ((R.map (cf st.2)).take i))) (Sum.inl (cf st.2 r)) (V.int ((numD (fun x:Int=>(Sum.inl x:Key)) (Ay ((R.map (cf st.2)).take i))).length:Int)))) pt=some (.lst (D8 st.2 R aa.length i)):=by rw[Aj (qp_ pF)];exact f9
    refine⟨_,hpt2',_,eI,(aq _ _ _).mpr ⟨_,(s'.over hpdN).over jJ,by rw[Aj hRt,Aj hRd];exact dH,by rw[Aj hct,Aj bL];exact ir,?_,by rw[Ab,<-gc,eh],rfl⟩⟩
    rw[Aj pF,Ab,et,ins1,if_neg bN,DK]
    exact jH_ (fun z=>some (HO.dK z)) jA
  ·obtain⟨o,s',dH,ir,f7,f9,rfl⟩:=(aq _ _ _).mp h'
   rw[ja_]at f9
   nofun
   exact k pt _ s' jJ f9 aU rf
def W2    (h:R[i]?=some r):(hm c R r=((FR c (R.take i)).length:Int))↔cf c r∉(FR c (R.take i)).map (cf c):=by
 have mq:(R.map (cf c))[i]?=some (cf c r):=by rw[jd_,h];rfl
 have ak:(FR c (R.take i)).length=(Ay ((R.map (cf c)).take i)).length:=by
  have:=jH_ List.length (Ij c (R.take i))
  rw[ja_,List.map_take]at this
  exact this
 rw[Ij,List.map_take,ak]
 have et:=DL mq
 unfold hm
 constructor
 ·intro e bN
  rw[KG bN]at e
  have:=qG_ bN
  lia
 ·intro bN
  rw[KG (i:=i+1) (by rw[et,ins1,if_neg bN];simp),et,ins1,if_neg bN,Mu bN]
def NY {c R:α2}{n:Nat}{r:Int}(hr:r∈R)(h0:0<=r)(h1:r<(n:Int)):(D8 c R n R.length)[r.toNat]?=some (V.int (hm c R r)):=by
 unfold D8
 rw[jd_,qE_ s!"",jO_]
 have e:((r.toNat:Nat):Int)=r:=by lia
 show some (if ((r.toNat:Nat):Int)∈R then V.int (hm c R ((r.toNat:Nat):Int)) else V.non)=_
 rw[e,if_pos hr]
def AB.toRows {K:α3}{H:Hp}{w:Addr}{zs:List V}{ws:α1}(h:AB K H zs ws)(hw:SqT K H w zs):Rows K H w ws:=by
 refine⟨zs.map (fun v=>match v with | .ref t=>t|_=>0),?_,by rw[ja_];exact h.1,fun i t r hi hr=>?_⟩
 ·have e:(zs.map (fun v=>match v with | .ref t=>t|_=>0)).map V.ref=zs:=by
   rw[jR_]
   refine qL_ fun i=>?_
   rw[jd_]
   by_cases hi:i<ws.length
   ·obtain⟨t,a,_⟩:=h.2 i ws[i] (by simp[hi])
    rw[a];rfl
   ·rw[jT_ (by rw[h.1];lia)];rfl
  rw[e];exact hw
 ·obtain⟨t',a,b⟩:=h.2 i r hr
  rw[jd_,a]at hi
  cases hi
  exact SqT.of b
noncomputable def NZ (K:α3):Sp:=fun vs H Q _=>∃(h:Addr) (L:Nat) (aa:α2) (ae:α1),vs=[.ref h]/\Bb K H h L aa ae/\Wf L aa ae/\∀t H',Same H H'->Bb K H' t L (sM L aa ae) (sW L aa ae)->Q (.ref t) H'
def SF   (F:Fun K "least" "least" Ky f fd)(T:Txt mg)
   (eV:⋯ 2 "reached" Em ["house"] (GA K) IA GC)
   (gd:⋯ 4 "homes" Kx ["house"] (NX K) Rk N0)
  : nofun 5 f fd ["house"] (NZ K):=by
 delta FU
 ·obtain⟨h,L,aa,ae,rfl,_⟩:=h;rfl
 ·obtain⟨h,L,aa,ae,rfl,hh,wf,k⟩:=h
  have hl:=As
  have aP:=wf.n40
  have cI:=wf.l6
  obtain⟨mm,wv,q1,q2,q3⟩:=id hh
  refine⟨_,(Ac (Bl (i:=1) FU.nd rfl (Or.inr rfl) (Ah gd hr.d AL (Aa (pvD 0) Ae)))
   (Ac (Ak (i:=2) FU.nd (Bu Ae))
   (Ac (Ak (i:=3) FU.nd (Bu Ae))
   (Ac (Bm jJ_ rfl (AX (Ah eV hr.d AL (Aa (pvD 0) Ae))) (Ap (i:=4) FU.nd rfl (Or.inl rfl))
   (Af (Bz (ptT (Ar (opE B1) (Ag (ixLD AU) (pvD 1) (pvD 4)) (Ao (lenD Ai) (by rfl) T.len jD_ (Aa (pvD 2) Ae)) (AE _)))
   (Ac (A9 (C7 jE_ jM_ jN_ AR (pvD 2) (Aa (Ag (ixTD An) (Ag (ixTD An) (pvD 0) Ad) (pvD 4)) Ae)))
   (Af (A9 (C7 jE_ jM_ jN_ AR (pvD 3) (Aa (AD Ax rfl T.tuple jB_ (Aa (Ba rfl (A4 rfl) (cp:=LF) ⟨⟨rfl,rfl⟩,True.intro⟩ (Eb (Ag (ixTD An) (Ag (ixTD An) (pvD 0) Ad) (pvD 4))) (fun _ _ _ _=>(Ap (i:=0) LG rfl (Or.inl rfl))) (fun _ _ _ _=>Be) (fun _ _ _ _=>(Ag (ixLD (Bi (K:=K) rfl)) (pvD 1) (pvD 0)))) Ae)) Ae)))))
   AH)))
   (Af (AA (BN (Aa (Ag (ixTD An) (pvD 0) Ad) (Aa (AD Ax rfl T.tuple jB_ (Aa (pvD 2) Ae)) (Aa (AD Ax rfl T.tuple jB_ (Aa (pvD 3) Ae)) Ae)))))))))),?_⟩
  nofun
  refine⟨h,L,aa,ae,rfl,hh,wf,fun ph H1 s1 hphN lq aU rf=>?_⟩
  generalize hR:(Au ae).map (·.1)=R at lq rf
  generalize lH:wcOf aa.length L (bW aa ae)=st at lq aU
  refine⟨jX_ _,fun pm bJ=>⟨jX_ _,fun pv dZ=>?_⟩⟩
  have hpmN:H pm=none:=s1.none bJ
  have s2:=(s1.newT bJ (o:=.lst [])).newT dZ (o:=.lst [])
  have hpvN:H pv=none:=(s1.newT bJ (o:=.lst [])).none dZ
  have jP:upd (upd H1 pm (.lst [])) pv (.lst []) pm=some (.lst []):=(Same.new dZ) _ _ Ab
  have jQ:upd (upd H1 pm (.lst [])) pv (.lst []) pv=some (.lst []):=Ab
  have hph2:upd (upd H1 pm (.lst [])) pv (.lst []) ph=some (.lst (D8 st.2 R aa.length R.length)):=(Same.new dZ) _ _ ((Same.new bJ) _ _ lq)
  have hphm:ph≠pm:=fun z=>by rw[z,bJ]at lq;cases lq
  have nr:pm≠pv:=fun z=>by rw[<-z,Ab]at dZ;cases dZ
  have hphv:ph≠pv:=fun z=>by rw[<-z,(Same.new bJ) _ _ lq]at dZ;cases dZ
  generalize upd (upd H1 pm (.lst [])) pv (.lst [])=H2 at s2 jP jQ hph2 ⊢
  refine⟨h,L,aa,ae,rfl,hh.mono s2,wf,fun pR H3 s3 cM jN rf2=>?_⟩
  rw[hR]at jN
  have jC:=s2.trans s3
  have hRm:pR≠pm:=fun z=>by rw[z,jP]at cM;cases cM
  have hRv:pR≠pv:=fun z=>by rw[z,jQ]at cM;cases cM
  have hpm3:=s3 _ _ jP
  have hpv3:=s3 _ _ jQ
  have hph3:=s3 _ _ hph2
  refine⟨pR,rfl,⟨_,SqL.of jN⟩,?_⟩
  obtain⟨Pv,aq⟩:∃Pv:Nat->St->Hp->Prop,∀i ag H',Pv i ag H'↔(∃(zs:List V) (o:Option V),Same H H'/\H' pR=some (.lst (R.map V.int))/\H' ph=some (.lst (D8 st.2 R aa.length R.length))/\H' pm=some (.lst (((FR st.2 (R.take i)).map (mkR aa)).map V.int))/\H' pv=some (.lst zs)/\AB K H' zs ((FR st.2 (R.take i)).map (hrow st.2 R ae))/\ag=[some (.ref h),some (.ref ph),some (.ref pm),some (.ref pv),o]):=⟨_,fun _ _ _=>qo_⟩
  refine forL (xs:=R.map V.int) Pv ((aq _ _ _).mpr ⟨[],none,jC,jN,hph3,hpm3,hpv3,AB.nil,rfl⟩) (fun i ag H' _ h'=>by obtain⟨_,_,_,h2,_⟩:=(aq _ _ _).mp h';exact SqL.of h2) (fun i x ag H' hx h'=>?_) (fun ag H' h'=>?_)
  ·obtain⟨zs,o,s',dH,iu,c9,iw,lr,rfl⟩:=(aq _ _ _).mp h'
   obtain⟨r,hr,rfl⟩:=BQ hx
   have eN:=jc_ hr
   have b7:=rf.rng r eN
   have lb:=NN st.2 (R.take i)
   have pG:=rf.len
   rw[jw_]at lb
   have lY:=NY (c:=st.2) (n:=aa.length) eN b7.1 b7.2
   have cY:=W2 (c:=st.2) hr
   have eFR:=QR (c:=st.2) hr
   obtain⟨row,gf,hrow2,hrow3⟩:=wf.row b7.1 b7.2
   have bV:=wf.rows row hrow2
   have i6:∀g∈row,g∈R:=fun g hg=>by
    obtain⟨x,hx⟩:=jI_.mp hg
    have bH:=(jb_.mp hx).1
    have:=rf.cls r eN x s!""
    rwa [BH gf (by rw[jh_];exact hx)]at this
   have iV:aa[r.toNat]?=some (mkR aa r):=by unfold mkR;rw[jj_];simp[show r.toNat<aa.length by lia]
   have pH:hrow st.2 R ae r=row.map (hm st.2 R):=by unfold hrow;rw[jj_,gf];rfl
   obtain⟨xs1,t1,z1,z2,z3⟩:=q3.atZ b7.1 gf
   nofun
   refine⟨_,SqL.of iu,_,B2 b7.1 lY,_,.inl (SqL.of c9),?_⟩
   rw[ja_,ja_]
   refine⟨rfl,ite2 (fun he=>?_) (fun he=>?_)⟩
   ·have hnot:=cY.mp (V.int.inj he)
    have gg:FR st.2 (R.take (i+1))=FR st.2 (R.take i)++[r]:=by rw[eFR,BA,if_neg hnot]
    refine⟨.inl ⟨rfl,_,SqL.of c9⟩,_,s'.seqT q1,_,rfl,mm,rfl,_,s'.seqT q2,_,AY b7.1 iV,_,c9,by rw[ja_,ja_];lia,?_⟩
    have sM:=s'.over hpmN (o:=.lst (((FR st.2 (R.take i)).map (mkR aa)).map V.int++[V.int (mkR aa r)]))
    have jR:upd H' pm (.lst (((FR st.2 (R.take i)).map (mkR aa)).map V.int++[V.int (mkR aa r)])) pv=some (.lst zs):=by rw[Aj (qp_ nr)];exact iw
    have jS:upd H' pm (.lst (((FR st.2 (R.take i)).map (mkR aa)).map V.int++[V.int (mkR aa r)])) ph=some (.lst (D8 st.2 R aa.length R.length)):=by rw[Aj hphm];exact iu
    have hpRM:upd H' pm (.lst (((FR st.2 (R.take i)).map (mkR aa)).map V.int++[V.int (mkR aa r)])) pR=some (.lst (R.map V.int)):=by rw[Aj hRm];exact dH
    have hpmM:upd H' pm (.lst (((FR st.2 (R.take i)).map (mkR aa)).map V.int++[V.int (mkR aa r)])) pm=some (.lst (((FR st.2 (R.take i)).map (mkR aa)).map V.int++[V.int (mkR aa r)])):=Ab
    have hZM:=lr.mono (TK.lst c9 (o:=.lst (((FR st.2 (R.take i)).map (mkR aa)).map V.int++[V.int (mkR aa r)])))
    generalize upd H' pm (.lst (((FR st.2 (R.take i)).map (mkR aa)).map V.int++[V.int (mkR aa r)]))=HM at sM jR jS hpRM hpmM hZM ⊢
    obtain⟨f,hf⟩:∃f:V->V,∀n:Int,f (V.int n)=.int (hm st.2 R n):=⟨fun x=>match x with | .int n=>.int (hm st.2 R n)|_=>.non,fun _=>rfl⟩
    refine⟨.inl ⟨rfl,_,SqL.of jR⟩,_,sM.seqT q1,_,rfl,wv,rfl,_,sM.seqT z1,_,z2,t1,rfl,⟨_,sM.seqT z3⟩,EM (ag:=[some (.ref ph)]) f rfl (sM.seqT z3) (by rw[ja_];lia) (fun x hx R' iX=>?_) (fun D hD=>?_)⟩
    ·obtain⟨g,hg,rfl⟩:=CS hx
     rw[hf]at iX
     have pI:=bV.2 g hg
     nofun
     exact⟨_,SqL.of jS,_,B2 pI.1 (NY (i6 g hg) pI.1 pI.2),iX⟩
    ·have em:(row.map V.int).map f=(hrow st.2 R ae r).map V.int:=by
      rw[pH,jR_,jR_]
      exact qj_ fun n _=>hf n
     rw[em]
     refine⟨D,rfl,_,.inl ⟨SqL.of Ab,fun tl pJ=>?_⟩⟩
     have sX:=(Same.new hD (o:=.lst ((hrow st.2 R ae r).map V.int))).newT pJ (o:=.tup ((hrow st.2 R ae r).map V.int))
     have hpvX:=sX _ _ jR
     have eG:zs.length<=1000:=by rw[lr.1,ja_];lia
     refine⟨_,hpvX,by lia,(aq _ _ _).mpr ⟨zs++[V.ref tl],_,(sM.trans sX).over hpvN,by rw[Aj hRv];exact sX _ _ hpRM,by rw[Aj hphv];exact sX _ _ jS,?_,Ab,?_,rfl⟩⟩
     ·rw[Aj nr,sX _ _ hpmM,gg,jV_,jV_];rfl
     ·rw[gg,jV_]
      exact ((hZM.mono (TK.of sX)).snoc (w:=hrow st.2 R ae r) Ab).mono (TK.lst hpvX)
   ·have bB:cf st.2 r∈(FR st.2 (R.take i)).map (cf st.2):=Decidable.byContradiction fun z=>he (by rw[cY.mpr z])
    have gg:FR st.2 (R.take (i+1))=FR st.2 (R.take i):=by rw[eFR,BA,if_pos bB]
    exact (aq _ _ _).mpr ⟨zs,_,s',dH,iu,by rw[gg];exact c9,iw,by rw[gg];exact lr,rfl⟩
  ·obtain⟨zs,o,s',dH,iu,c9,iw,lr,rfl⟩:=(aq _ _ _).mp h'
   rw[ja_,jO_]at c9 lr
   nofun
   refine⟨_,s'.seqT q1,_,rfl,_,.inl ⟨SqL.of c9,fun tm ig=>⟨_,.inl ⟨SqL.of ((Same.new ig) _ _ iw),fun tw mH=>⟨by lia,fun t ht=>?_⟩⟩⟩⟩⟩
   have sE:=((Same.new ig (o:=.tup (((FR st.2 R).map (mkR aa)).map V.int))).newT mH (o:=.tup zs)).newT ht (o:=.tup [V.int L,V.ref tm,V.ref tw])
   subst hR lH
   exact k t _ (s'.trans sE) ⟨tm,tw,SqT.of Ab,SqT.of ((Same.new ht) _ _ ((Same.new mH) _ _ Ab)),AB.toRows (lr.mono (TK.of sE)) (SqT.of ((Same.new ht) _ _ Ab))⟩
noncomputable abbrev LamH (K:α3)(H:Hp):Prop:=LamT (tabP K "in_order") FV (Str.ofString "in_order" ++ ".<locals>.") H
def F6 {K:α3}{H:Hp}:∀{us:α1} {xs:List V},AB K H xs us->∃os:List aK.Wd,xs=aK.wv os/\os.map (·.2)=us/\∀w∈os,H w.1=some (.tup (w.2.map V.int))
 |[],xs,h=>⟨[],List.length_eq_zero_iff.mp h.1,rfl,fun w hw=>by cases hw⟩
 |u::us,xs,h=>by
  obtain⟨t,h1,h2⟩:=h.2 0 u rfl
  match xs,h with
  |[],h=>exact absurd h.1 (by simp)
  |x::xs,h=>
   have e:x=V.ref t:=by simpa using h1
   obtain⟨os,e1,e2,e3⟩:=F6 (K:=K) (H:=H) (us:=us) (xs:=xs) ⟨by simpa using h.1,fun i w hw=>h.2 (i+1) w (by simpa using hw)⟩
   refine⟨(t,u)::os,by rw[e,e1];rfl,by simp[e2],fun w hw=>?_⟩
   rcases jC_.mp hw with rfl|hw
   ·exact h2
   ·exact e3 w hw
noncomputable def WsT (H:Hp)(os:List aK.Wd):Prop:=∀w∈os,H w.1=some (.tup (w.2.map V.int))
noncomputable def T6 (K:α3):Sp:=fun vs H Q _=>∃(a:Addr) (xs:List V) (ws:α1),vs=[.ref a]/\SqL K H a xs/\AB K H xs ws/\ws.length<sizeLine/\LamH K H /\
 ∀D H' os,Cj (tabP K "in_order") H H'->LamH K H'->H D=none->H' D=some (.lst (aK.wv os))->WsT H' os->(os.map (·.2)).Perm (ws.foldl ins [])->aK.Srt os->Q (.ref D) H'
def MU   (F:FunL K mg base "in_order" "in_order" Ck f fd)(T:Txt mg)
  : nofun 4 f fd ["words"] (T6 K):=by
 refine F.ok Ft (fun vs H Q E h=>?_) (fun ay bL A outer s H vs Q E hr h=>?_)
 ·obtain⟨a,xs,ws,rfl,_⟩:=h;rfl
 ·obtain⟨a,xs,ws,rfl,hs,hW,hz,hT,k⟩:=h
  have hl:=As
  refine⟨_,(Ac (Bl (i:=1) Ft.nd rfl (Or.inl rfl) Ni)
   (Ac (Bm jJ_ rfl (AX (pvD 0)) (Ap (i:=2) Ft.nd rfl (Or.inl rfl))
   (Af (Mg (K5 hr) (pvD 1) (pvD 2) L9 rfl)))
   (Af (AA (OM (k:=0) (c:=tabC K "in_order") (P:=tabP K "in_order") (lp:=FV) (qual:=Str.ofString "in_order" ++ ".<locals>.") hr rfl T.sorted T.len bL F.C F.B (Aa (AD (Ic rfl) rfl T.list xn_ (Aa (pvD 1) Ae)) Ae)))))),?_⟩
  nofun
  intro p hp
  have sp:=Same.new (o:=.dT []) hp
  refine⟨⟨_,sp.seq hs⟩,?_⟩
  obtain⟨Py,mI⟩:∃Pv:Nat->St->Hp->Prop,∀j ag H',Pv j ag H'↔(∃(kvs:List (List Key×V)) (o':Option V),Same H H'/\H' p=some (.dT kvs)/\E2 ((ws.take j).foldl ins []) kvs/\ag=[some (.ref a),some (.ref p),o']):=⟨_,fun _ _ _=>qo_⟩
  refine forL (xs:=xs) Py ((mI _ _ _).mpr ⟨[],_,sp,Ab,by rw[zT_];exact E2.nil,rfl⟩) (fun j ag H' _ h'=>by obtain⟨_,_,s',_⟩:=(mI _ _ _).mp h';exact s'.seq hs) (fun j y aA H3 hy h3=>?_) (fun aA H3 h3=>?_)
  ·obtain⟨kvs,o',s3,hd,hk,rfl⟩:=(mI _ _ _).mp h3
   obtain⟨u,v,dj,rfl,hu⟩:=hW.at hy
   have hj:j<ws.length:=(jb_.mp dj).1
   have ak:kvs.length<sizeLine:=by
    have h1:=CI (ws.take j) []
    rw[hk.len]
    rw[jw_,qm_]at h1
    lia
   nofun
   have gz:H3 u=some (.tup ((wkey v).map kV)):=by rw[Kf];exact s3 _ _ hu
   refine⟨_,DPut.t (k:=wkey v) hd gz s!"",(mI _ _ _).mpr ⟨_,_,s3.over hp,Ab,?_,rfl⟩⟩
   rw[jQ_,dj,qn_,qx_]
   exact hk.put _ _
  ·obtain⟨kvs,o',s3,hd,hk,rfl⟩:=(mI _ _ _).mp h3
   rw[hW.1,jO_]at hk
   nofun
   refine⟨kvs,.inl hd,fun l rs mh cR pB=>?_⟩
   have hWr:AB K (upd H3 l (.lst rs)) rs (ws.foldl ins []):=(hk.words (K:=K) cR pB).mono (TK.new mh)
   obtain⟨pK,e1,e2,e3⟩:=F6 hWr
   have s4:Same H (upd H3 l (.lst rs)):=s3.newT mh
   have pL:=hT.mono s4
   have ak:pK.length<sizeLine:=by
    have h1:=jH_ List.length e2
    have h2:=CI ws []
    rw[ja_]at h1
    rw[qm_]at h2
    lia
   have pM:SqL K (upd H3 l (.lst rs)) l (aK.wv pK):=by rw[<-e1];exact SqL.of Ab
   generalize upd H3 l (.lst rs)=H4 at hWr e3 s4 pL pM ⊢
   refine⟨pK,pM,fun w hw=>SqT.of (e3 w hw),ak,pL,fun H5 D os s5 hL5 iY hD cj jT=>?_⟩
   refine k D H5 os (fun b o hb e=>s5 b o hb (s4 b o e)) hL5 (Same.none s4 iY) hD (fun w hw=>?_) ?_ jT
   ·have h1:=e3 w (cj.mem_iff.mp hw)
    obtain⟨_,hT5⟩:=pL.is
    exact s5.ne h1 (fun _ z=>by cases z) hT5
   ·have:=cj.map (·.2)
    rw[e2]at this
    exact this
noncomputable def T7 (K:α3)(H:Hp)(e:Addr)(n:Nat)(E:Nat->α1):Prop:=∃es:List V,H e=some (.lst es)/\∀r,r<n->∃q ys,es[r]?=some (.ref q)/\H q=some (.lst ys)/\AB K H ys (E r)
noncomputable def wayW (ae:α1)(r:Nat):α2:=(((Au ae).find? fun e=>e.1==(r:Int)).getD (0,[])).2
def MV {ae:α1}(nod:((Au ae).map (·.1)).Nodup){r:Nat}{w:α2}(h:((r:Int),w)∈Au ae):wayW ae r=w:=by
 unfold wayW
 cases hf:(Au ae).find? fun e=>e.1==(r:Int) with
 |none=>exact absurd (xQ_.mp hf _ h) (by simp)
 |some e=>
  have h1:=zN_ hf
  have h2:=q7_ hf
  have e1:e.1=(r:Int):=by simpa using h1
  obtain⟨i,hi,ei⟩:=jU_ h2
  obtain⟨j,hj,ej⟩:=jU_ h
  have ij:i=j:=(xM_ (h₀:=by simpa using hi) (h₁:=by simpa using hj) nod).mp (by simp[ei,ej,e1])
  subst ij
  rw[ei]at ej
  rw[Option.getD_some,ej]
noncomputable def oneW (ae:α1)(E:Nat->α1)(r:Nat)(m:α2):α1:=(E (Az ae (wayW ae r++m)).toNat).map ((wayW ae r++m) ++ ·)
noncomputable def allW (ae:α1)(n:Nat)(cN:α1)(E:Nat->α1):α1:=(List.range n).flatMap fun r=>cN.flatMap (oneW ae E r)
noncomputable abbrev Dq (L:Int)(m:Nat):α1:=(List.range (many L (m+2)).toNat).map (nth L)
def F7 {α β:Type}{f:α->List β}{c:Nat}:∀(l:List α),(∀x∈l,(f x).length<=c)->(l.flatMap f).length<=l.length*c
 |[],_=>by simp
 |x::l,h=>by
  have h1:=h x jl_
  have h2:=F7 l (fun y hy=>h y (jk_ _ hy))
  rw[List.flatMap_cons,jn_,jS_,Nat.succ_mul]
  lia
def OW {K:α3}    (h:AB K H xs us)(g:AB K H ys vs):AB K H (xs++ys) (us++vs):=by
 refine⟨by rw[jn_,jn_,h.1,g.1],fun i w hw=>?_⟩
 by_cases hi:i<us.length
 ·rw[ji_ hi]at hw
  obtain⟨t,a,b⟩:=h.2 i w hw
  exact⟨t,by rw[ji_ (by rw[h.1];exact hi)];exact a,b⟩
 ·rw[jp_ s!""]at hw
  obtain⟨t,a,b⟩:=g.2 _ w hw
  exact⟨t,by rw[jp_ (by rw[h.1];lia),h.1];exact a,b⟩
noncomputable def Rl (K:α3):Sp:=fun vs H Q _=>∃(h e:Addr) (L:Int) (m:Nat) (aa:α2) (ae:α1) (E:Nat->α1),vs=[.ref h,.int m,.ref e]/\Bb K H h L aa ae/\Wf L aa ae/\m<=3/\many L (m+2)<=341/\T7 K H e aa.length E/\(∀r,r<aa.length->(E r).length<=40/\∀w∈E r,w.length<=40)/\(∀r:Nat,r<aa.length->(r:Int)∈(Au ae).map (·.1))/\LamH K H /\
 ∀D H' os,Cj (tabP K "in_order") H H'->LamH K H'->H D=none->H' D=some (.lst (aK.wv os))->WsT H' os->(os.map (·.2)).Perm ((allW ae aa.length (Dq L m) E).foldl ins [])->aK.Srt os->Q (.ref D) H'
def KH   (F:Fun K "words_with" "words_with" CY f fd)(T:Txt mg)
   (jU:⋯ 4 "words_to" EW ["letters","most"] (T2 K) JH IB)
   (eL:⋯ 4 "room_behind" B5 ["house","word"] (MQ K) DJ C4)
   (jV:⋯ 2 "ways_in" FP ["house"] (LJ K) LK JI)
   (jW:⋯ 4 "in_order" Ck ["words"] (T6 K) EY Vf)
  : nofun 5 f fd ["base","more","ends"] (Rl K):=by
 delta B7
 ·obtain⟨h,e,L,m,aa,ae,E,rfl,_⟩:=h;rfl
 ·obtain⟨h,e,L,m,aa,ae,E,rfl,hh,wf,hm,cx,hE,hEl,az,hT,k⟩:=h
  have hl:=As
  have cH:=wf.l1
  have cI:=wf.l6
  have aP:=wf.n40
  refine⟨_,(Ac (Ak (i:=3) B7.nd (Bu Ae))
   (Ac (Bm jJ_ rfl (AX (Ah jV hr.d AL (Aa (pvD 0) Ae))) (Ap (i:=4) B7.nd rfl (Or.inl rfl))
   (Af (Bm jJ_ rfl (AX (Ah jU hr.d AL (Aa (Ag (ixTD An) (pvD 0) Ad) (Aa (Am (opD0 AW) (pvD 1) Ad) Ae)))) (Ap (i:=5) B7.nd rfl (Or.inl rfl))
   (Ac (Bl (i:=6) B7.nd rfl (Or.inr rfl) (Am ER (pvD 4) (pvD 5)))
   (Af (A9 (C7 jE_ PySem.F.slot_list_extend PySem.F.type_list_extend PD (pvD 3) (Aa (Ba rfl (A4 rfl) (cp:=Fb) ⟨⟨rfl,rfl⟩,True.intro⟩ (AX (Ag (ixLD AU) (pvD 2) (Ah eL hr.d AL (Aa (pvD 0) (Aa (pvD 6) Ae))))) (fun _ _ _ _=>(Ap (i:=0) Gs rfl (Or.inl rfl))) (fun _ _ _ _=>Be) (fun _ _ _ _=>(Am (QH (K:=K) rfl) (pvD 1) (pvD 0)))) Ae))))))))
   (Af (AA (Ah jW hr.d AL (Aa (pvD 3) Ae)))))),?_⟩
  nofun
  refine⟨by lia,fun p hp=>?_⟩
  have s0:=Same.new (o:=.lst []) hp
  refine⟨h,L,aa,ae,rfl,hh.mono s0,wf,fun d top H1 s1 hdn hWS bf=>?_⟩
  obtain⟨xs,hd,bH,hxs⟩:=hWS
  have s01:=s0.trans s1
  have bp:=s1 _ _ (Ab (H:=H) (a:=p) (o:=.lst []))
  have ll:d≠p:=(AI hdn).2
  refine⟨d,rfl,⟨_,SqL.of hd⟩,?_⟩
  have hmL:(Dq L m).length<=341:=by
   rw[ja_,qc_];lia
  have hone:∀(r:Nat) (v:α2),r<aa.length->isW L (wayW ae r++v)=true->(oneW ae E r v).length<=40:=fun r v hr hv=>by
   have h1:=wf.walk hv (wayW ae r++v).length
   rw[jO_]at h1
   unfold oneW
   rw[ja_]
   exact (hEl _ s!"").1
  have hway:∀r,r<aa.length->∃t,xs[r]?=some (.ref t)/\H1 t=some (.tup ((wayW ae r).map V.int))/\isW L (wayW ae r)=true/\(wayW ae r).length<=40:=fun r hr=>by
   rcases hxs r hr with ⟨w,t,a,b,c⟩|⟨a,_⟩
   ·rw[MV bf.nod a]
    obtain⟨j,hj⟩:=jI_.mp a
    have h1:=bf.sh j _ hj
    have h2:=(jb_.mp hj).1
    have h3:=bf.len
    exact⟨t,b,c,(bf.wd _ a).1,by dsimp only at h1;lia⟩
   ·exact absurd (az r hr) a
  have nr:∀v∈Dq L m,isW L v=true:=fun v hv=>by
   obtain⟨k',_,rfl⟩:=jv_.mp hv
   exact C8 (show 0<L by lia) k'
  have happ:∀r,r<aa.length->∀v,isW L v=true->isW L (wayW ae r++v)=true:=fun r hr v hv=>by
   obtain⟨_,_,_,mJ,_⟩:=hway r hr
   rw[Av]at mJ hv ⊢
   intro x hx
   rcases jA_.mp hx with hx|hx
   ·exact mJ x hx
   ·exact hv x hx
  have hb1:∀r,r<aa.length->∀j,(((Dq L m).take j).flatMap (oneW ae E r)).length<=13640:=fun r hr j=>by
   have h1:=F7 (f:=oneW ae E r) (c:=40) ((Dq L m).take j) (fun v hv=>hone r v hr (happ r hr v (nr v (xh_ hv))))
   have h2:((Dq L m).take j).length<=341:=qk_ (by rw[jw_];lia) hmL
   lia
  have eJ:∀i,i<=aa.length->((List.range i).flatMap fun r=>(Dq L m).flatMap (oneW ae E r)).length<=545600:=fun i hi=>by
   have h1:=F7 (f:=fun r=>(Dq L m).flatMap (oneW ae E r)) (c:=13640) (List.range i) (fun r hr=>by
    have:=hb1 r (by have:=jG_.mp hr;lia) (Dq L m).length
    rw[jO_]at this
    exact this)
   rw[qc_]at h1
   have h2:i*13640<=40*13640:=Nat.mul_le_mul_right _ s!""
   lia
  obtain⟨Pv,aq⟩:∃Pv:Nat->St->Hp->Prop,∀i ag H',Pv i ag H'↔(∃(ys:List V) (o4 o5 o6:Option V),Same H H'/\TK H1 H'/\H' d=some (.lst xs)/\H' p=some (.lst ys)/\AB K H' ys ((List.range i).flatMap fun r=>(Dq L m).flatMap (oneW ae E r))/\ag=[some (.ref h),some (.int m),some (.ref e),some (.ref p),o4,o5,o6]):=⟨_,fun _ _ _=>qo_⟩
  refine forL (xs:=xs) Pv ((aq _ _ _).mpr ⟨[],none,none,none,s01,TK.refl _,hd,bp,AB.nil,rfl⟩) (fun i ag H' _ h'=>by obtain⟨_,_,_,_,_,_,q,_⟩:=(aq _ _ _).mp h';exact SqL.of q) (fun i x aj H2 hx h2=>?_) (fun aj H2 h2=>?_)
  ·obtain⟨ys,o4,o5,o6,s2,pN,fE,aO,jB,rfl⟩:=(aq _ _ _).mp h2
   have hi:i<aa.length:=by rw[<-bH];exact (jb_.mp hx).1
   obtain⟨t,gG,ht,mJ,cQ⟩:=hway i hi
   rw[hx]at gG
   cases gG
   nofun
   obtain⟨mm,wv,q1,q2,q3⟩:=id hh
   refine⟨_,s2.seqT q1,_,rfl,L,m+1,by rw[Int.natCast_add];rfl,cH,cI,by lia,by show many L (m+2)<=4000;lia,fun pm zs H3 s3 hpmn bJ hWm=>⟨pm,rfl,⟨_,SqL.of bJ⟩,?_⟩⟩
   have hWm':AB K H3 zs (Dq L m):=hWm
   have hppm:pm≠p:=fun z=>by rw[z,aO]at hpmn;cases hpmn
   have hpH:H p=none:=hp
   obtain⟨Pw,bX⟩:∃Pv:Nat->St->Hp->Prop,∀j ag H',Pv j ag H'↔(∃(eX:List V) (o5 o6:Option V),Same H H'/\TK H3 H'/\H' d=some (.lst xs)/\H' pm=some (.lst zs)/\H' p=some (.lst eX)/\AB K H' eX (((List.range i).flatMap fun r=>(Dq L m).flatMap (oneW ae E r))++((Dq L m).take j).flatMap (oneW ae E i))/\ag=[some (.ref h),some (.int m),some (.ref e),some (.ref p),some (.ref t),o5,o6]):=⟨_,fun _ _ _=>qo_⟩
   refine forL (xs:=zs) Pw ((bX _ _ _).mpr ⟨ys,o5,o6,s2.trans s3,TK.refl _,s3 _ _ fE,bJ,s3 _ _ aO,by rw[zT_,List.flatMap_nil,qg_];exact jB.mono (TK.of s3),rfl⟩) (fun j ag H' _ h'=>by obtain⟨_,_,_,_,_,_,q,_⟩:=(bX _ _ _).mp h';exact SqL.of q) (fun j y bE H4 hy h4=>?_) (fun bE H4 h4=>?_)
   ·obtain⟨eX,o5,o6,s4,mK,pO,hpm4,dY,gF,rfl⟩:=(bX _ _ _).mp h4
    obtain⟨u,v,hvj,rfl,hu⟩:=hWm'.at hy
    have hvm:isW L v=true/\v.length<=4:=by
     obtain⟨k',dA,rfl⟩:=jv_.mp (jc_ hvj)
     have hv:=C8 (show 0<L by lia) k'
     refine⟨hv,?_⟩
     have h1:=(ES (show 0<L by lia) hv (m+1)).mpr (by
      rw[Ei]
      have:=jG_.mp dA
      show (k':Int)<many L (m+2)
      lia)
     lia
    have ht4:=mK _ _ (TK.of s3 _ _ (pN _ _ ht))
    have hu4:=mK _ _ hu
    nofun
    refine E9.ofS ht4 hu4 (by simp;lia) fun q H5 s5 hq=>?_
    have lu:isW L (wayW ae i++v)=true:=by
     rw[Av]at mJ ⊢
     intro x hx
     rcases jA_.mp hx with hx|hx
     ·exact mJ x hx
     ·exact Av.mp hvm.1 x hx
    have gz:H5 q=some (.tup ((wayW ae i++v).map V.int)):=by rw[hq,jV_]
    nofun
    have cj:=s5 _ _ dY
    refine⟨.inl ⟨rfl,_,SqL.of cj⟩,h,q,L,aa,ae,wayW ae i++v,rfl,hh.mono (s4.trans s5),wf,SqT.of gz,by rw[jn_];lia,fun _ H6 s6=>?_,fun hf=>by rw[lu]at hf;cases hf⟩
    have ft:=wf.walk lu (wayW ae i++v).length
    rw[jO_]at ft
    obtain⟨es,k9,oC⟩:=id hE
    obtain⟨pe,ye,hpe,hye,hWe⟩:=oC (Az ae (wayW ae i++v)).toNat s!""
    have hEr:=hEl (Az ae (wayW ae i++v)).toNat s!""
    have pP:=(s4.trans s5).trans s6
    have hye6:=pP _ _ hye
    have hWe6:=hWe.mono (TK.of pP)
    have gV:=hWe.1
    refine⟨es,_,rfl,SqL.of (pP _ _ k9),_,B2 s!"" hpe,pe,rfl,⟨_,SqL.of hye6⟩,?_⟩
    refine IW (xs:=ye) (fun j' bK ag H'=>Same H6 H'/\AB K H' bK (((E (Az ae (wayW ae i++v)).toNat).take j').map ((wayW ae i++v) ++ ·))/\∃o,ag=[o,some (.ref q)]) ⟨Same.refl _,AB.nil,none,rfl⟩ s!"" (fun j' bK ag H' cq h'=>⟨SqL.of (h'.1 _ _ hye6),by have:=h'.2.1.1;rw[ja_,jw_]at this;lia⟩) (fun j' x' bK ag H' eA h'=>?_) (fun bK ag H' h' D hD=>?_)
    ·obtain⟨s7,fu,o,rfl⟩:=h'
     obtain⟨u',v',mL,rfl,iN⟩:=hWe6.at eA
     have pQ:=hEr.2 v' (jc_ mL)
     nofun
     refine E9.ofS (s7 _ _ (s6 _ _ gz)) (s7 _ _ iN) (by simp;lia) fun q2 H8 s8 cE=>⟨s7.trans s8,?_,_,rfl⟩
     rw[jQ_,mL,qn_,jV_]
     exact (fu.mono (TK.of s8)).snoc (by rw[cE];simp)
    ·obtain⟨s7,fu,o,_⟩:=h'
     rw[gV,jO_]at fu
     have pS:upd H' D (.lst bK) p=some (.lst eX):=by
      have:=s7 _ _ (s6 _ _ cj)
      rw[Aj (Aq this hD)];exact this
     have s7D:Same H6 (upd H' D (.lst bK)):=s7.newT hD
     have nk:upd H' D (.lst bK) D=some (.lst bK):=Ab
     have lx:AB K (upd H' D (.lst bK)) bK _:=fu.mono (TK.new hD)
     generalize upd H' D (.lst bK)=H9 at pS s7D nk lx ⊢
     have mM:=(s5.trans s6).trans s7D
     have s49:=s4.trans mM
     have bw:=gF.1
     have bM:=lx.1
     rw[jn_]at bw
     rw[ja_]at bM
     have hb3:=hb1 i hi j
     have hb4:=eJ i s!""
     have kT:TK H9 (upd H9 p (.lst (eX++bK))):=TK.lst pS
     refine⟨D,rfl,eX,pS,bK,nk,by lia,(bX _ _ _).mpr ⟨eX++bK,_,_,s49.over hpH,(mK.trans (TK.of mM)).trans kT,by rw[Aj ll];exact mM _ _ pO,by rw[Aj hppm];exact mM _ _ hpm4,Ab,?_,rfl⟩⟩
     rw[jQ_,hvj,qn_,List.flatMap_append,<-qb_]
     refine OW ((gF.mono (TK.of mM)).mono kT) ?_
     have e1:[v].flatMap (oneW ae E i)=(E (Az ae (wayW ae i++v)).toNat).map ((wayW ae i++v) ++ ·):=by simp[oneW]
     rw[e1]
     exact lx.mono kT
   ·obtain⟨eX,o5,o6,s4,mK,pO,hpm4,dY,gF,rfl⟩:=(bX _ _ _).mp h4
    refine (aq _ _ _).mpr ⟨eX,_,_,_,s4,(pN.trans (TK.of s3)).trans mK,pO,dY,?_,rfl⟩
    have:(Dq L m).take zs.length=Dq L m:=jP_ (by rw[hWm'.1];exact jg_ _)
    rw[this]at gF
    rw[xU_,List.flatMap_append]
    simpa using gF
  ·obtain⟨ys,o4,o5,o6,s2,pN,fE,aO,jB,rfl⟩:=(aq _ _ _).mp h2
   rw[bH]at jB
   nofun
   refine⟨p,ys,_,rfl,SqL.of aO,jB,?_,hT.mono s2,fun D H3 os s3 hL3 iY hD dk bJ hs=>?_⟩
   ·have:=eJ aa.length (jg_ _)
    lia
   ·exact k D H3 os (fun b o hb e=>s3 b o hb (s2 b o e)) hL3 (Same.none s2 iY) hD dk bJ hs
def T8      (h:WC L n b words c):∀(k:Nat) (w:α2),words[k]?=some w->w.length<=k:=by
 intro k
 induction k using Nat.strongRecOn with
 |ind k ih=>
  intro w hw
  by_cases hk:k=0
  ·subst hk
   rw[h.w0]at hw
   cases hw
   simp
  ·have ht:=h.tl k w hw s!""
   obtain⟨j,hj⟩:=jI_.mp ht
   have iO:j<k:=by
    have:=(jb_.mp hj).1
    rw[jw_]at this
    lia
   rw[xA_ iO]at hj
   have:=ih j iO _ hj
   rw[List.length_tail]at this
   lia
noncomputable def N1 (L:Nat)(aa:α2)(ae:α1)(m:Nat):α1:=allW (sW L aa ae) (sM L aa ae).length (Dq (L:Int) m) fun _=>(wcOf (sM L aa ae).length L (bW (sM L aa ae) (sW L aa ae))).1
noncomputable def ownF (b:α2->Nat->Int)(r:Nat):α1->List Nat->α1
 |[],_=>[]
 |v::ws,left=>(if (left.filter fun o=>decide (b v o=b v r)).length<left.length then [v] else [])++ownF b r ws (left.filter fun o=>decide (b v o=b v r))
noncomputable def F8 (b:α2->Nat->Int)(r n:Nat)(ws:α1):List Nat:=ws.foldl (fun left v=>left.filter fun o=>decide (b v o=b v r)) (List.range n)
noncomputable def ownW (n:Nat)(b:α2->Nat->Int)(ws:α1)(r:Nat):α1:=[]::ownF b r ws (List.range n)
def Rm {b:α2->Nat->Int}{r:Nat}{v:α2}(left:List Nat):(left.filter fun o=>decide (b v o=b v r)).length<left.length ↔ ∃o∈left,b v o≠b v r:=by
 constructor
 ·intro h
  refine j1_ fun z=>?_
  have:=(zj_ (p:=fun o=>decide (b v o=b v r)) (l:=left)).mpr fun o ho=>j8_ (j1_ fun y=>z ⟨o,ho,y⟩)
  lia
 ·rintro⟨o,ho,aw⟩
  refine Nat.lt_of_not_le fun h=>?_
  have:=zj_.mp (Nat.le_antisymm (xV_ _ _) h) o ho
  exact aw (ql_ this)
def HH {b:α2->Nat->Int}{r:Nat}{w:α2}:∀(ws:α1) (left:List Nat),w∈ownF b r ws left ↔ ∃o∈left,ws.find? (fun v=>decide (b v o≠b v r))=some w
 |[],left=>by simp[ownF]
 |v::ws,left=>by
  unfold ownF
  rw[jA_,HH ws]
  constructor
  ·rintro (h|⟨o,ho,h⟩)
   ·split at h
    ·rename_i ar
     obtain⟨o,ho,aw⟩:=(Rm left).mp ar
     rw[jr_.mp h]
     exact⟨o,ho,by simp[xl_,aw]⟩
    ·cases h
   ·obtain⟨ho,he⟩:=xk_.mp ho
    have he:=ql_ he
    exact⟨o,ho,by rw[List.find?_cons_of_neg (by simp[he])];exact h⟩
  ·rintro⟨o,ho,h⟩
   by_cases aw:b v o=b v r
   ·rw[List.find?_cons_of_neg (by simp[aw])]at h
    exact .inr ⟨o,xk_.mpr ⟨ho,j8_ aw⟩,h⟩
   ·have h:v=w:=by simpa [xl_,aw] using h
    subst h
    left
    rw[if_pos ((Rm left).mpr ⟨o,ho,aw⟩)]
    exact jl_
def HI {b:α2->Nat->Int}{r:Nat}:∀(ws:α1) (left:List Nat),r∈left->(ownF b r ws left).length+1<=left.length
 |[],left,h=>by
  have:=qz_ h
  simp only[ownF,qm_];lia
 |v::ws,left,h=>by
  have h2:=HI (b:=b) (r:=r) ws (left.filter fun o=>decide (b v o=b v r)) (xk_.mpr ⟨h,by simp⟩)
  unfold ownF
  rw[jn_]
  split
  ·simp only[jW_];lia
  ·rename_i hh
   have:=xV_ (fun o=>decide (b v o=b v r)) left
   simp only[qm_];lia
def KI {b:α2->Nat->Int}{r:Nat}{w:α2}{ws:α1}{left:List Nat}(h:w∈ownF b r ws left):w∈ws:=by
 obtain⟨o,_,h⟩:=(HH ws left).mp h
 exact q7_ h
def LL {b:α2->Nat->Int}{r:Nat}{v:α2}:∀(ws:α1) (left:List Nat) (i:Nat),ws[i]?=some v->ownF b r (ws.take (i+1)) left=ownF b r (ws.take i) left++(if (((ws.take i).foldl (fun left v=>left.filter fun o=>decide (b v o=b v r)) left).filter fun o=>decide (b v o=b v r)).length<((ws.take i).foldl (fun left v=>left.filter fun o=>decide (b v o=b v r)) left).length then [v] else [])
 |[],left,i,h=>by simp at h
 |u::ws,left,0,h=>by
  have h:u=v:=by simpa using h
  subst h
  simp[ownF]
 |u::ws,left,i+1,h=>by
  rw[List.take_succ_cons,List.take_succ_cons,ownF,ownF,qX_,LL ws _ i (by simpa using h),qb_]
def LM {b:α2->Nat->Int}{r:Nat}:∀(ws:α1) (left:List Nat) (o:Nat),o∈ws.foldl (fun left v=>left.filter fun o=>decide (b v o=b v r)) left->o∈left
 |[],left,o,h=>h
 |v::ws,left,o,h=>(xk_.mp (LM ws _ o h)).1
def LN {b:α2->Nat->Int}{r:Nat}:∀(ws:α1) (left:List Nat),(ws.foldl (fun left v=>left.filter fun o=>decide (b v o=b v r)) left).length<=left.length
 |[],left=>jg_ _
 |v::ws,left=>qk_ (LN ws _) (xV_ _ _)
def SH   (ws:α1):∀o∈F8 b r n ws,o<n:=fun o h=>jG_.mp (LM ws _ o h)
def Ro   (ws:α1):(F8 b r n ws).length<=n:=by
 have:=LN (b:=b) (r:=r) ws (List.range n)
 rw[qc_]at this
 exact this
noncomputable def LO (H:Hp)(n:Nat)(b:α2->Nat->Int)(ws:α1)(ys:List V):Prop:=ys.length=ws.length/\∀(i:Nat) (v:α2),ws[i]?=some v->∃q,ys[i]?=some (.ref q)/\H q=some (.lst ((rowB n b v).map V.int))
def LO.mono      (h:LO H n b ws ys)(s:Same H H'):LO H' n b ws ys:=
 ⟨h.1,fun i v hv=>let ⟨q,a,c⟩:=h.2 i v hv;⟨q,a,s _ _ c⟩⟩
noncomputable def T9 (K:α3):Sp:=fun vs H Q _=>∃(h a:Addr) (L:Nat) (aa:α2) (ae:α1) (ws:α2),vs=[.ref h,.ref a]/\Bb K H h L aa ae/\Wf L aa ae/\SqT K H a (ws.map V.int)/\isW L ws=true /\
 ∀p H',Same H H'->H p=none->H' p=some (.lst ((rowB aa.length (bW aa ae) ws).map V.int))->Q (.ref p) H'
def DM   (F:Fun K "marks_from_each_room" "marks_from_each_room" A7 f fd)(T:Txt mg)
  : nofun 1 f fd ["house","word"] (T9 K):=by
 delta AZ
 ·obtain⟨h,a,L,aa,ae,ws,rfl,_⟩:=h;rfl
 ·obtain⟨h,a,L,aa,ae,ws,rfl,hh,wf,ha,hv,k⟩:=h
  have hl:=As
  have hn:=wf.n40
  obtain⟨m,wv,q1,q2,q3⟩:=id hh
  refine⟨_,(Ac (Ak (i:=2) AZ.nd (Gh rfl rfl T.list rfl T.range (Ao (lenD Ai) (by rfl) T.len jD_ (Aa (Ag (ixTD An) (pvD 0) Ad) Ae))))
   (Ac (Bm jJ_ rfl (Eb (pvD 1)) (Ap (i:=3) AZ.nd rfl (Or.inr rfl))
   (Af (Du (i:=2) AZ.nd rfl rfl rfl (A4 rfl) (cp:=BW) ⟨⟨rfl,rfl⟩,⟨⟨rfl,rfl⟩,True.intro⟩⟩ (AX (pvD 2)) (fun _ _ _ _=>(Ap (i:=0) CL rfl (Or.inl rfl))) (fun _ _ _ _=>Be) (fun _ _ _ _=>(Ag (ixTD (Bs (K:=K) rfl)) (Ag (ixTD (Bs (K:=K) rfl)) (Ag (ixTD (Bs (K:=K) rfl)) (pvD 2) Ad) (pvD 0)) (pvD 1))))))
   (Af (AA (Ba rfl (A4 rfl) (cp:=BX) ⟨⟨rfl,rfl⟩,True.intro⟩ (AX (pvD 2)) (fun _ _ _ _=>(Ap (i:=0) CM rfl (Or.inl rfl))) (fun _ _ _ _=>Be) (fun _ _ _ _=>(Ag (ixTD (Bs (K:=K) rfl)) (Ag (ixTD (Bs (K:=K) rfl)) (pvD 1) Ad) (pvD 0)))))))),?_⟩
  nofun
  refine⟨_,q1,_,rfl,m,rfl,_,.inr q2,?_⟩
  rw[ja_]
  refine⟨by lia,by lia,fun p hp=>?_⟩
  rw[jh_]
  have s0:=Same.new hp (o:=.lst ((ups aa.length).map V.int))
  refine⟨⟨_,s0.seqT ha⟩,?_⟩
  have d8:∀(i r:Nat),r<aa.length->0<=Bw ae r (ws.take i)/\Bw ae r (ws.take i)<aa.length:=fun i r hr=>Hq wf (ws.take i) (Hr hv i) s!"" s!""
  obtain⟨Pv,aq⟩:∃Pv:Nat->St->Hp->Prop,∀i ag H',Pv i ag H'↔(∃(q:Addr) (o:Option V),Same H H'/\H' q=some (.lst (((List.range aa.length).map fun r:Nat=>Bw ae r (ws.take i)).map V.int))/\ag=[some (.ref h),some (.ref a),some (.ref q),o]):=⟨_,fun _ _ _=>qo_⟩
  refine forT (xs:=ws.map V.int) Pv ((aq _ _ _).mpr ⟨p,none,s0,Ab,rfl⟩) (fun i ag H' _ h'=>by obtain⟨_,_,s',_⟩:=(aq _ _ _).mp h';exact s'.seqT ha) (fun i x ag H' hx h'=>?_) (fun ag H' h'=>?_)
  ·obtain⟨q,o,s1,hq,rfl⟩:=(aq _ _ _).mp h'
   obtain⟨l,jX,rfl⟩:=BQ hx
   have bB:=Av.mp hv l (jc_ jX)
   nofun
   refine⟨⟨_,SqL.of hq⟩,?_⟩
   obtain⟨m',wv',g1,g2,g3⟩:=hh.mono s1
   refine EO (ag:=[some (.int l),some (.ref h)]) (fun x=>match x with | .int r=>.int (Bv ae r l)|_=>.non) rfl (SqL.of hq) (by simp;lia) (fun x hx R hR=>?_) (fun D hD=>?_)
   ·obtain⟨y,hy,rfl⟩:=jv_.mp hx
    obtain⟨r,hr,rfl⟩:=jv_.mp hy
    have hr:=jG_.mp hr
    have hw:=d8 i r hr
    generalize Bw ae r (ws.take i)=y at hw hR
    obtain⟨row,g,r1,r2,r3,r4,r5⟩:=wf.step hw.1 hw.2 bB.1 bB.2
    obtain⟨xs,t,z1,z2,z3⟩:=g3.atZ hw.1 r1
    nofun
    refine⟨_,g1,_,rfl,wv',rfl,_,z1,_,z2,_,rfl,_,z3,_,AY bB.1 r2,?_⟩
    rw[<-r3]
    exact hR
   ·refine (aq _ _ _).mpr ⟨D,_,s1.newT hD,?_,rfl⟩
    rw[Ab,jR_,jR_,jR_]
    congr 2
    refine qj_ fun r hr=>?_
    show V.int (Bv ae (Bw ae r (ws.take i)) l)=V.int (Bw ae r (ws.take (i+1)))
    rw[Jp jX]
  ·obtain⟨q,o,s1,hq,rfl⟩:=(aq _ _ _).mp h'
   rw[ja_,jO_]at hq
   nofun
   refine⟨⟨_,SqL.of hq⟩,?_⟩
   obtain⟨m',wv',g1,g2,g3⟩:=hh.mono s1
   refine EO (ag:=[some (.ref h)]) (fun x=>match x with | .int r=>.int (aa.getD r.toNat 0)|_=>.non) rfl (SqL.of hq) (by simp;lia) (fun x hx R hR=>?_) (fun D hD=>?_)
   ·obtain⟨y,hy,rfl⟩:=jv_.mp hx
    obtain⟨r,hr,rfl⟩:=jv_.mp hy
    have hr:=jG_.mp hr
    have hw:=Hq wf ws hv (show (0:Int)<=r by lia) s!""
    generalize Bw ae r ws=y at hw hR
    nofun
    refine⟨_,g1,_,rfl,m',rfl,_,g2,_,?_,hR⟩
    rw[B2 hw.1 (v:=V.int (aa.getD y.toNat 0)) (by rw[jd_,jj_];simp[show y.toNat<aa.length by lia])]
   ·refine k D _ (s1.newT hD) (Same.none s1 hD) ?_
    rw[Ab,jR_,jR_]
    unfold rowB
    rw[jR_]
    rfl
noncomputable def Ua (K:α3):Sp:=fun vs H Q _=>∃(a c:Addr) (n r:Nat) (b:α2->Nat->Int) (ws:α1) (xs ys:List V),vs=[.ref a,.ref c,.int r]/\SqL K H a xs/\AB K H xs ws/\SqL K H c ys/\LO H n b ws ys/\1<=ws.length/\ws.length<=40/\n<=40/\r<n /\
 ∀p zs H',Same H H'->H p=none->H' p=some (.lst zs)->AB K H' zs (ownW n b ws r)->Q (.ref p) H'
def Jf   (F:Fun K "own_tellers" "own_tellers" CD f fd)(T:Txt mg)
  : nofun 1 f fd ["words","marks_behind","room"] (Ua K):=by
 delta Bh
 ·obtain⟨a,c,n,r,b,ws,xs,ys,rfl,_⟩:=h;rfl
 ·obtain⟨a,c,n,r,b,ws,xs,ys,rfl,ha,hW,hc,hM,cw,hw40,hn,bC,k⟩:=h
  have hl:=As
  refine⟨_,(Ac (Ak (i:=3) Bh.nd (Bu (Aa (BN Ae) Ae)))
   (Ac (Ak (i:=4) Bh.nd (Gh rfl rfl T.list rfl T.range (Ao (lenD Ai) (by rfl) T.len jD_ (Aa (Ag (ixLD AU) (pvD 1) Ad) Ae))))
   (Ac (Bm jJ_ rfl (UR rfl T.zip (Aa (pvD 0) (Aa (pvD 1) Ae))) (SV rfl (Hj (Ap (i:=5) Bh.nd rfl (Or.inl rfl)) (Hj (Ap (i:=6) Bh.nd rfl (Or.inr rfl)) O4)))
   (Ac (Du (i:=7) Bh.nd rfl rfl rfl (A4 rfl) (cp:=Es) ⟨⟨rfl,rfl⟩,⟨⟨rfl,rfl⟩,True.intro⟩⟩ (AX (pvD 4)) (fun _ _ _ _=>(Ap (i:=0) FW rfl (Or.inl rfl))) (fun _ _ _ _=>(P0 (ptT (Ar (opE B1) (Ag (ixLD (Bi (K:=K) rfl)) (pvD 1) (pvD 0)) (Ag (ixLD (Bi (K:=K) rfl)) (pvD 1) (pvD 2)) (AE _))))) (fun _ _ _ _=>(pvD 0)))
   (BC (Bz (ptT (Ar (opD0 G0) (Ao (lenD Ai) (by rfl) T.len jD_ (Aa (pvD 7) Ae)) (Ao (lenD Ai) (by rfl) T.len jD_ (Aa (pvD 4) Ae)) (AE _)))
   (Af (A9 (C7 jE_ jM_ jN_ AR (pvD 3) (Aa (pvD 5) Ae))))
   AH)
   (Af (Ak (i:=4) Bh.nd (pvD 7))))))
   (Af (AA (pvD 3)))))),?_⟩
  nofun
  refine⟨by lia,fun p hp=>⟨by lia,fun p1 bp=>?_⟩⟩
  have s1:Same H (upd (upd H p (.tup [])) p1 (.lst [V.ref p])):=(Same.new hp).newT bp
  have hp1N:H p1=none:=(Same.new hp).none bp
  have hpp:p1≠p:=(AI bp).2
  have e1:upd (upd H p (.tup [])) p1 (.lst [V.ref p]) p1=some (.lst [V.ref p]):=Ab
  have e0:upd (upd H p (.tup [])) p1 (.lst [V.ref p]) p=some (.tup []):=by rw[Aj (qp_ hpp)];exact Ab
  generalize upd (upd H p (.tup [])) p1 (.lst [V.ref p])=H1 at s1 e1 e0 ⊢
  obtain⟨v0,hv0⟩:∃v,ws[0]?=some v:=⟨_,jf_ s!""⟩
  obtain⟨q0,hq0,cg⟩:=hM.2 0 v0 hv0
  have cR:∀v,(rowB n b v).length=n:=fun v=>by unfold rowB;rw[ja_,qc_]
  refine⟨_,s1.seq hc,_,B2 (by decide) hq0,q0,rfl,_,.inl (SqL.of (s1 _ _ cg)),?_⟩
  rw[ja_,cR]
  refine⟨by lia,by lia,fun p2 aO=>?_⟩
  rw[jh_]
  have jY:H p2=none:=s1.none aO
  have hp12:p1≠p2:=Aq e1 aO
  have s2:=s1.newT aO (o:=.lst ((ups n).map V.int))
  have mN:upd H1 p2 (.lst ((ups n).map V.int)) p1=some (.lst [V.ref p]):=by rw[Aj hp12];exact e1
  have e02:upd H1 p2 (.lst ((ups n).map V.int)) p=some (.tup []):=by rw[Aj (Aq e0 aO)];exact e0
  have e22:upd H1 p2 (.lst ((ups n).map V.int)) p2=some (.lst ((ups n).map V.int)):=Ab
  generalize upd H1 p2 (.lst ((ups n).map V.int))=H2 at s2 mN e02 e22 ⊢
  refine⟨xs,ys,false,s2.seq ha,false,s2.seq hc,?_⟩
  obtain⟨Pv,aq⟩:∃Pv:Nat->St->Hp->Prop,∀i ag H',Pv i ag H'↔(∃(zs:List V) (q:Addr) (o5 o6 o7:Option V),Same H H'/\H' p1=some (.lst zs)/\AB K H' zs ([]::ownF b r (ws.take i) (List.range n))/\H q=none/\q≠p1/\H' q=some (.lst (((F8 b r n (ws.take i)).map fun o:Nat=>(o:Int)).map V.int))/\ag=[some (.ref a),some (.ref c),some (.int r),some (.ref p1),some (.ref q),o5,o6,o7]):=⟨_,fun _ _ _=>qo_⟩
  have bH:=hW.1
  have gV:=hM.1
  refine Xc ws.length s!"" s!"" (.inl s!"") Pv ((aq _ _ _).mpr ⟨_,p2,none,none,none,s2,mN,AB.nil.snoc (w:=[]) e02,jY,qp_ hp12,e22,rfl⟩) (fun i ag H' _ h'=>?_) (fun i u v ag H' t hi hu hv h' ht=>?_) (fun ag H' h'=>?_)
  ·obtain⟨_,_,_,_,_,s',_⟩:=(aq _ _ _).mp h'
   exact⟨s'.seq ha,s'.seq hc⟩
  ·obtain⟨zs,q,o5,o6,o7,s',hz,nu,hqN,hqp,hq,rfl⟩:=(aq _ _ _).mp h'
   obtain⟨tw,w0,bG,rfl,mH⟩:=hW.at hu
   obtain⟨qm,hqm,kP⟩:=hM.2 i w0 bG
   rw[hv]at hqm
   cases hqm
   have sT:=s'.newT ht (o:=.tup [V.ref tw,V.ref qm])
   have nv:=Same.new ht (o:=.tup [V.ref tw,V.ref qm])
   have hT:upd H' t (.tup [V.ref tw,V.ref qm]) t=some (.tup [V.ref tw,V.ref qm]):=Ab
   generalize upd H' t (.tup [V.ref tw,V.ref qm])=H3 at sT nv hT ⊢
   have hz3:=nv _ _ hz
   have iT:=nv _ _ hq
   have hWz3:=nu.mono (TK.of nv)
   have hmm3:=sT _ _ kP
   nofun
   refine⟨_,SqT.of hT,rfl,?_⟩
   nofun
   refine⟨⟨_,SqL.of iT⟩,?_⟩
   have ar:=SH (b:=b) (r:=r) (n:=n) (ws.take i)
   have gJ:F8 b r n (ws.take (i+1))=(F8 b r n (ws.take i)).filter fun o=>decide (b w0 o=b w0 r):=by
    unfold F8
    rw[jQ_,bG,qn_,qx_]
    rfl
   have pT:=LL (b:=b) (r:=r) ws (List.range n) i bG
   rw[show (ws.take i).foldl (fun left v=>left.filter fun o=>decide (b v o=b v r)) (List.range n)=F8 b r n (ws.take i) from rfl,<-gJ]at pT
   have hll:=Ro (b:=b) (r:=r) (n:=n) (ws.take i)
   generalize F8 b r n (ws.take i)=left at iT ar gJ pT hll
   have hrow:∀o:Nat,o<n->((rowB n b w0).map V.int)[o]?=some (V.int (b w0 o)):=fun o ho=>by rw[jd_,B3 ho];rfl
   refine IW (xs:=(left.map fun o:Nat=>(o:Int)).map V.int) (fun i' bK aj lA=>lA=H3/\bK=(((left.take i').filter fun o=>decide (b w0 o=b w0 r)).map fun o:Nat=>(o:Int)).map V.int/\∃o,aj=[o,some (.ref qm),some (.int r)]) ⟨rfl,rfl,none,rfl⟩ (by simp only[ja_];lia) (fun i' bK aj lA hi' h2=>?_) (fun i' x bK aj lA hx h2=>?_) (fun bK aj lA h2 D hD=>?_)
   ·obtain⟨rfl,rfl,_⟩:=h2
    refine⟨SqL.of iT,?_⟩
    rw[ja_,ja_]
    exact qk_ (xV_ _ _) (by rw[jw_];lia)
   ·obtain⟨rfl,rfl,o,rfl⟩:=h2
    rw[jd_,jd_]at hx
    cases jX:left[i']? with
    |none=>rw[jX]at hx;cases hx
    |some o1=>
     rw[jX]at hx
     cases hx
     have ho1:=ar o1 (jc_ jX)
     nofun
     refine⟨_,SqL.of hmm3,_,B2 s!"" (by rw[jh_];exact hrow o1 ho1),_,SqL.of hmm3,_,B2 s!"" (by rw[jh_];exact hrow r bC),?_⟩
     refine⟨rfl,?_⟩
     rw[jQ_,jX,qn_,List.filter_append]
     by_cases he:b w0 o1=b w0 r
     ·rw[if_pos (by rw[he]),List.filter_cons_of_pos (by simp[he])]
      exact⟨by simp,_,rfl⟩
     ·rw[if_neg (fun z=>he (V.int.inj z)),List.filter_cons_of_neg (by simp[he])]
      exact⟨by simp,_,rfl⟩
   ·obtain⟨rfl,rfl,o,rfl⟩:=h2
    rw[ja_,ja_,jO_,<-gJ]
    have sD:=sT.newT hD (o:=.lst (((F8 b r n (ws.take (i+1))).map fun o:Nat=>(o:Int)).map V.int))
    have iZ:=Same.new hD (o:=.lst (((F8 b r n (ws.take (i+1))).map fun o:Nat=>(o:Int)).map V.int))
    have ik:upd lA D (.lst (((F8 b r n (ws.take (i+1))).map fun o:Nat=>(o:Int)).map V.int)) D=some (.lst (((F8 b r n (ws.take (i+1))).map fun o:Nat=>(o:Int)).map V.int)):=Ab
    have hDN:H D=none:=sT.none hD
    have hDp:D≠p1:=qp_ (Aq hz3 hD)
    generalize upd lA D (.lst (((F8 b r n (ws.take (i+1))).map fun o:Nat=>(o:Int)).map V.int))=H4 at sD iZ ik ⊢
    have mO:=iZ _ _ hz3
    have hq4:=iZ _ _ iT
    have jZ:=hWz3.mono (TK.of iZ)
    have eG:=jZ.1
    have m7:=HI (b:=b) (r:=r) (ws.take i) (List.range n) (jG_.mpr bC)
    rw[qc_]at m7
    rw[jS_]at eG
    refine⟨fun ag H'=>∃bK,Same H H'/\H' p1=some (.lst bK)/\AB K H' bK ([]::ownF b r (ws.take (i+1)) (List.range n))/\H' D=some (.lst (((F8 b r n (ws.take (i+1))).map fun o:Nat=>(o:Int)).map V.int))/\ag=[some (.ref a),some (.ref c),some (.int r),some (.ref p1),some (.ref q),some (.ref tw),some (.ref qm),some (.ref D)],?_,fun ag H' hR=>?_⟩
    ·nofun
     refine⟨_,.inl (SqL.of ik),_,.inl (SqL.of hq4),?_⟩
     rw[pT]
     simp only[ja_]
     refine ite2 (fun hlt2=>?_) (fun bo=>?_)
     ·rw[if_pos s!""]
      refine⟨.inl ⟨rfl,_,SqL.of mO⟩,zs,mO,by lia,sD.over hp1N,_,Ab,?_,?_⟩
      ·rw[<-x4_]
       exact (jZ.mono (TK.lst mO)).snoc (by rw[Aj (Vq mO (sD _ _ mH) (by intro z;cases z)).symm];exact sD _ _ mH)
      ·rw[Aj hDp];exact ik
     ·rw[if_neg s!"",qg_]
      exact⟨sD,zs,mO,jZ,ik⟩
    ·obtain⟨bK,s5,hz5,iU,hD5,rfl⟩:=hR
     nofun
     exact (aq _ _ _).mpr ⟨bK,D,_,_,_,s5,hz5,iU,hDN,hDp,hD5,rfl⟩
  ·obtain⟨zs,q,o5,o6,o7,s',hz,nu,hqN,hqp,hq,rfl⟩:=(aq _ _ _).mp h'
   rw[jO_]at nu
   nofun
   exact k p1 zs _ s' hp1N hz nu
noncomputable def Ub (K:α3):Sp:=fun vs H Q _=>∃(h:Addr) (L:Nat) (aa:α2) (ae:α1),vs=[.ref h]/\Bb K H h L aa ae/\Wf L aa ae /\
 ∀e H',Same H H'->H e=none->T7 K H' e aa.length (ownW aa.length (bW aa ae) (wcOf aa.length L (bW aa ae)).1)->Q (.ref e) H'
def DO   (F:Fun K "tellers_of_each_room" "tellers_of_each_room" A8 f fd)(T:Txt mg)
   (j0:⋯ 3 "tellers" FQ ["house"] (T4 K) LP JJ)
   (j3:⋯ 1 "marks_from_each_room" A7 ["house","word"] (T9 K) Ce Cc)
   (j4:⋯ 1 "own_tellers" CD ["words","marks_behind","room"] (Ua K) F9 Ff)
  : nofun 4 f fd ["house"] (Ub K):=by
 delta Bt
 ·obtain⟨h,L,aa,ae,rfl,_⟩:=h;rfl
 ·obtain⟨h,L,aa,ae,rfl,hh,wf,k⟩:=h
  have hl:=As
  have hn:=wf.n40
  have bS:=wf.n1
  refine⟨_,(Ac (Bl (i:=1) Bt.nd rfl (Or.inr rfl) (Ah j0 hr.d AL (Aa (pvD 0) Ae)))
   (Ac (Bl (i:=2) Bt.nd rfl (Or.inr rfl) (Ba rfl (A4 rfl) (cp:=BY) ⟨⟨rfl,rfl⟩,True.intro⟩ (AX (pvD 1)) (fun _ _ _ _=>(Ap (i:=0) CN rfl (Or.inl rfl))) (fun _ _ _ _=>Be) (fun _ _ _ _=>(Ah j3 hr.d AL (Aa (pvD 1) (Aa (pvD 0) Ae))))))
   (Af (AA (Ba rfl (A4 rfl) (cp:=BZ) ⟨⟨rfl,rfl⟩,⟨⟨rfl,rfl⟩,True.intro⟩⟩ (AQ rfl T.range (Aa (Ao (lenD Ai) (by rfl) T.len jD_ (Aa (Ag (ixTD An) (pvD 0) Ad) Ae)) Ae)) (fun _ _ _ _=>(Ap (i:=0) CO rfl (Or.inl rfl))) (fun _ _ _ _=>Be) (fun _ _ _ _=>(Ah j4 hr.d AL (Aa (pvD 1) (Aa (pvD 2) (Aa (pvD 0) Ae)))))))))),?_⟩
  nofun
  refine⟨h,L,aa,ae,rfl,hh,wf,fun pw xs H1 s1 jH aX hW fin=>?_⟩
  generalize lH:wcOf aa.length L (bW aa ae)=st at hW fin k
  have lu:st.1.length<=40:=by
   have h1:=fin.wc.le
   have h2:=Jr st.2
   rw[fin.wc.len]at h2
   lia
  have hf1:1<=st.1.length:=by
   have:=(jb_.mp fin.wc.w0).1
   lia
  nofun
  refine⟨⟨_,SqL.of aX⟩,?_⟩
  have bH:=hW.1
  refine IW (xs:=xs) (fun i ys ag H'=>Same H1 H'/\LO H' aa.length (bW aa ae) (st.1.take i) ys/\∃o,ag=[o,some (.ref h)]) ⟨Same.refl _,⟨rfl,fun i v hv=>by simp at hv⟩,none,rfl⟩ s!"" (fun i ys ag H' hi h'=>⟨SqL.of (h'.1 _ _ aX),by rw[h'.2.1.1,jw_];lia⟩) (fun i x ys ag H' hx h'=>?_) (fun ys ag H' h' D hD=>?_)
  ·obtain⟨s2,hM,o,rfl⟩:=h'
   obtain⟨t,v,dj,rfl,ht⟩:=hW.at hx
   nofun
   refine⟨h,t,L,aa,ae,v,rfl,hh.mono (s1.trans s2),wf,SqT.of (s2 _ _ ht),Av.mpr (fin.wc.ok v (jc_ dj)),fun p H3 s3 pU hp=>⟨s2.trans s3,?_,_,rfl⟩⟩
   have hM3:=hM.mono s3
   have gV:=hM.1
   rw[jQ_,dj,qn_]
   refine⟨by rw[jn_,jn_,gV];rfl,fun j w hw=>?_⟩
   rw[jw_]at gV
   have hiL:=(jb_.mp dj).1
   by_cases hj:j<ys.length
   ·rw[ji_ (by rw[jw_];lia)]at hw
    obtain⟨q,a1,a2⟩:=hM3.2 j w hw
    exact⟨q,by rw[ji_ hj];exact a1,a2⟩
   ·rw[jp_ (by rw[jw_];lia)]at hw
    have:j-(st.1.take i).length=0:=by
     have:=(jb_.mp hw).1
     simpa using this
    rw[this]at hw
    have hw:v=w:=by simpa using hw
    subst hw
    rw[jw_]at this
    exact⟨p,by rw[jp_ s!"",show j-ys.length=0 by lia];rfl,hp⟩
  ·obtain⟨s2,hM,o,rfl⟩:=h'
   rw[bH,jO_]at hM
   have sD:=(s1.trans s2).newT hD (o:=.lst ys)
   have iZ:=s2.newT hD (o:=.lst ys)
   have ik:upd H' D (.lst ys) D=some (.lst ys):=Ab
   have dq:=hM.mono (Same.new hD (o:=.lst ys))
   generalize upd H' D (.lst ys)=H3 at sD iZ ik dq ⊢
   obtain⟨m,wv,q1,q2,q3⟩:=hh.mono sD
   nofun
   refine⟨_,q1,_,rfl,m,rfl,_,.inr q2,?_⟩
   rw[ja_,jh_]
   refine⟨by lia,by lia,?_⟩
   have hpw3:=iZ _ _ aX
   have oS:=hW.mono (TK.of iZ)
   refine J4 (fun i zs ag H'=>Same H3 H'/\zs.length=i/\(∀r,r<i->∃q ys,zs[r]?=some (.ref q)/\H' q=some (.lst ys)/\AB K H' ys (ownW aa.length (bW aa ae) st.1 r))/\∃o,ag=[o,some (.ref pw),some (.ref D)]) ⟨Same.refl _,rfl,fun r hr=>absurd hr (q9_ _),none,rfl⟩ s!"" (fun i zs ag H' hi h'=>Nat.le_of_eq h'.2.1) (fun i zs ag H' hi h'=>?_) (fun zs ag H' h' D' lB=>?_)
   ·obtain⟨s4,eG,hz,o,rfl⟩:=h'
    nofun
    refine⟨pw,D,aa.length,i,bW aa ae,st.1,xs,ys,by rw[zx_],SqL.of (s4 _ _ hpw3),oS.mono (TK.of s4),SqL.of (s4 _ _ ik),dq.mono s4,hf1,lu,hn,hi,fun p us H5 s5 pU hp hWu=>⟨s4.trans s5,by rw[jn_,eG];rfl,fun r hr=>?_,_,rfl⟩⟩
    by_cases gM:r<i
    ·obtain⟨q,eX,b1,b2,b3⟩:=hz r gM
     exact⟨q,by rw[ji_ s!""];exact b1,eX,s5 _ _ b2,b3.mono (TK.of s5)⟩
    ·obtain rfl:r=i:=by lia
     exact⟨p,by rw[jp_ s!"",show r-zs.length=0 by lia];rfl,us,hp,hWu⟩
   ·obtain⟨s4,eG,hz,o,rfl⟩:=h'
    refine k D' _ ((sD.trans s4).newT lB) ((sD.trans s4).none lB) ⟨zs,Ab,fun r hr=>?_⟩
    obtain⟨q,eX,b1,b2,b3⟩:=hz r hr
    exact⟨q,eX,b1,by rw[Aj (Aq b2 lB)];exact b2,b3.mono (TK.new lB)⟩
noncomputable def Jg (L:Nat)(aa:α2)(ae:α1)(m:Nat):α1:=allW (sW L aa ae) (sM L aa ae).length (Dq (L:Int) m) (ownW (sM L aa ae).length (bW (sM L aa ae) (sW L aa ae)) (wcOf (sM L aa ae).length L (bW (sM L aa ae) (sW L aa ae))).1)
noncomputable def Rp (K:α3):Sp:=fun vs H Q _=>∃(h:Addr) (L m:Nat) (aa:α2) (ae:α1),vs=[.ref h,.int m]/\Bb K H h L aa ae/\Wf L aa ae/\m<=3/\many L (m+2)<=341/\LamH K H /\
 ∀D H' os,Cj (tabP K "in_order") H H'->LamH K H'->H D=none->H' D=some (.lst (aK.wv os))->WsT H' os->(os.map (·.2)).Perm ((Jg L aa ae m).foldl ins [])->aK.Srt os->Q (.ref D) H'
def Vg   (F:Fun K "slim" "slim" NT f fd)(T:Txt mg)
   (gh:⋯ 5 "least" Ky ["house"] (NZ K) Rq N2)
   (j5:⋯ 4 "tellers_of_each_room" A8 ["house"] (Ub K) Cf Cd)
   (j6:⋯ 5 "words_with" CY ["base","more","ends"] (Rl K) GU Ga)
  : nofun 6 f fd ["house","more"] (Rp K):=by
 delta Rg
 ·obtain⟨h,L,m,aa,ae,rfl,_⟩:=h;rfl
 ·obtain⟨h,L,m,aa,ae,rfl,hh,wf,hm,cx,hT,k⟩:=h
  have hl:=As
  refine⟨_,(Ac (Ak (i:=2) Rg.nd (Ah gh hr.d AL (Aa (pvD 0) Ae)))
   (Af (AA (Ah j6 hr.d AL (Aa (pvD 2) (Aa (pvD 1) (Aa (Ah j5 hr.d AL (Aa (pvD 2) Ae)) Ae))))))),?_⟩
  nofun
  have bu:=sWf wf
  have cU:=sCan wf
  have jq:=bu.n40
  refine⟨h,L,aa,ae,rfl,hh,wf,fun ps H3 s3 gi=>?_⟩
  unfold Jg at k
  generalize sM L aa ae=ms at bu cU gi jq k
  generalize sW L aa ae=vs at bu cU gi k
  have fin:Fin17 ms.length L (bW ms vs) (wcOf ms.length L (bW ms vs)):=Fin17.mk' bu.n1 jq
  refine⟨ps,L,ms,vs,rfl,gi,bu,fun e H4 s4 heN hE=>?_⟩
  have j7:=s3.trans s4
  have cQ:=T8 fin.wc
  have lu:(wcOf ms.length L (bW ms vs)).1.length<=40:=by
   have h1:=fin.wc.le
   have h2:=Jr (wcOf ms.length L (bW ms vs)).2
   rw[fin.wc.len]at h2
   lia
  refine⟨ps,e,L,m,ms,vs,_,rfl,gi.mono s4,bu,hm,cx,hE,fun r hr=>⟨?_,fun w hw=>?_⟩,fun r hr=>?_,hT.mono j7,fun D' H9 os sT hL9 iY lB dk bJ hs=>?_⟩
  ·have:=HI (b:=bW ms vs) (r:=r) (wcOf ms.length L (bW ms vs)).1 (List.range ms.length) (jG_.mpr hr)
   rw[qc_]at this
   unfold ownW
   rw[jS_]
   lia
  ·unfold ownW at hw
   rcases jC_.mp hw with rfl|hw
   ·simp
   ·obtain⟨j,hj⟩:=jI_.mp (KI hw)
    have h1:=cQ j w hj
    have h2:=(jb_.mp hj).1
    lia
  ·have h1:=cU.order
   unfold rOf at h1
   rw[h1]
   exact jv_.mpr ⟨r,jG_.mpr hr,rfl⟩
  ·exact k D' H9 os (fun b o hb e=>sT b o hb (j7 b o e)) hL9 (Same.none j7 iY) lB dk bJ hs
noncomputable def cell (ns:α2)(k:Nat):Int:=ns.getD k 0
noncomputable def GD (K:α3):Sp:=fun vs H Q _=>∃(a:Addr) (ns:α2) (k:Nat),vs=[.ref a,.int k]/\SqL K H a (ns.map V.int)/\Q (.int (cell ns k)) H
def IC   (F:Fun K "_law_cell_at" "_law_cell_at" A1 f fd)(T:Txt mg)
  : nofun 1 f fd ["script","k"] (GD K):=by
 delta Iq
 ·obtain⟨a,ns,k,rfl,_⟩:=h;rfl
 ·obtain⟨a,ns,k,rfl,hs,q⟩:=h
  refine⟨_,(Ac (Bz (ptT (Ar (opD0 G0) (pvD 1) (Ao (lenD Ai) (by rfl) T.len jD_ (Aa (pvD 0) Ae)) (AE _)))
   (Af (AA (Ag (ixLD AU) (pvD 0) (pvD 1))))
   AH)
   (Af (AA Ad))),?_⟩
  nofun
  refine⟨_,.inl hs,?_⟩
  rw[ja_]
  refine ite2 (fun hk=>?_) (fun hk=>?_)
  ·have dA:k<ns.length:=by simpa using hk
   refine⟨_,hs,V.int (cell ns k),?_,q⟩
   refine Ec ?_
   rw[jd_]
   unfold cell
   rw[jj_]
   simp[dA]
  ·have dA:¬ k<ns.length:=by simpa using hk
   have:cell ns k=0:=by
    unfold cell
    rw[jj_,jT_ s!""];rfl
   rw[<-this]
   exact q
noncomputable def EZ:Sp:=fun vs H Q _=>∃num k m:Int,vs=[.int num,.int k,.int m]/\0<=k/\k<=1000000/\0<m/\∀x,0<=x->x<m->Q (.int x) H
def KJ   (F:Fun K "_law_mixed" "_law_mixed" Br f fd)(T:Txt mg)
  : nofun 1 f fd ["number","k","many"] (EZ):=by
 delta DG
 ·obtain⟨num,k,m,rfl,_⟩:=h;rfl
 ·obtain⟨num,k,m,rfl,dn,kU,hm,q⟩:=h
  refine⟨_,(Ac (Ak (i:=3) DG.nd (Am (opD AM) (Am (opD0 AW) (Am (opD0 AW) (Am (opD0 AW) (Am (opD AM) (pvD 0) Ad) (Am (opD FD) (Am (opD FD) Ad (pvD 1)) (pvD 1))) (Am (opD FD) Ad (pvD 1))) Ad) Ad))
   (Ac (Ak (i:=3) DG.nd (Am (opD AM) (Am (opD FD) (pvD 3) Ad) Ad))
   (Af (AA (Am (opD AM) (Am (opD AM) (Am (opD FD) (pvD 3) (pvD 3)) Ad) (pvD 2)))))),?_⟩
  nofun
  refine⟨by decide,.inl ⟨by decide,by decide⟩,.inr ⟨by lia,by lia⟩,.inl ⟨by decide,by decide⟩,by decide,.inr ⟨by decide,by decide⟩,by decide,?_⟩
  generalize (num%2147483647+69621*k*k+40692*k+1)%2147483647*48271=z
  have m0:=j7_ z (show (2147483647:Int)≠0 by decide)
  have m1:=jZ_ z (show (0:Int)<2147483647 by decide)
  exact⟨.inl ⟨by lia,by lia⟩,by decide,hm,q _ (j7_ _ s!"") (jZ_ _ hm)⟩
noncomputable def JK (K:α3):Sp:=fun vs H Q _=>∃(num:Int) (n:Nat),vs=[.int num,.int n]/\1<=n/\n<=40/\∀(t:Addr) (aa:α2) (H':Hp),Same H H'->SqT K H' t (aa.map V.int)->aa.length=n->(∀m∈aa,0<=m/\m<=1000000000)->Q (.ref t) H'
def He   (F:Fun K "_law_marks_by" "_law_marks_by" B8 f fd)(T:Txt mg)
   (aV:⋯ 1 "_law_mixed" Br ["number","k","many"] (EZ) B0 BK)
  : nofun 2 f fd ["number","rooms"] (JK K):=by
 delta AK
 ·obtain⟨num,n,rfl,_⟩:=h;rfl
 ·obtain⟨num,n,rfl,bS,aP,k⟩:=h
  have hl:=As
  refine⟨_,(Ac (Ak (i:=2) AK.nd (Am (opD AM) (Am (opD0 AW) (pvD 0) Ad) Ad))
   (Ac (Ak (i:=3) AK.nd (Am (opD AM) (Am (opD BB) (pvD 0) Ad) Ad))
   (Ac (Ak (i:=4) AK.nd (Bu Ae))
   (Ac (Bm jJ_ rfl (AQ rfl T.range (Aa (pvD 1) Ae)) (Ap (i:=5) AK.nd rfl (Or.inl rfl))
   (Ac (Ak (i:=6) AK.nd (pvD 3))
   (BC (Bz (PW.pt (GI (ptT (Ar (opE B1) (Am (opD AM) (pvD 2) Ad) Ad (AE _))) (Ea (ptT (Ar (opE B1) (Ah aV hr.d AL (Aa (pvD 0) (Aa (pvD 5) (Aa Ad Ae)))) Ad (AE _))))))
   (Af (Ak (i:=6) AK.nd (Am (opD0 CQ) Ad (pvD 3))))
   AH)
   (BC (Bz (ptT (Ar (opE B1) (pvD 2) Ad (AE _)))
   (Af (Ak (i:=6) AK.nd (Ah aV hr.d AL (Aa (pvD 0) (Aa (pvD 5) (Aa Ad Ae))))))
   AH)
   (BC (Bz (PW.pt (N9 (PW.pt (GI (ptT (Ar (opE B1) (pvD 2) Ad (AE _))) (Ea (ptT (Ar (opE B1) (pvD 5) (Am (opD AM) (Am (opD BB) (pvD 0) Ad) (pvD 1)) (AE _)))))) (Na (PW.pt (GI (ptT (Ar (opE B1) (pvD 2) Ad (AE _))) (Ea (ptT (Ar (opE B1) (pvD 5) (Am (opD0 CQ) (pvD 1) Ad) (AE _)))))))))
   (Af (Ak (i:=6) AK.nd (Am (opD AM) (Am (opD0 AW) (pvD 3) Ad) Ad)))
   AH)
   (BC (Bz (PW.pt (N9 (ptT (Ar (opE B1) (pvD 2) Ad (AE _))) (Na (ptT (Ar (opE B1) (pvD 2) Ad (AE _))))))
   (Af (Ak (i:=6) AK.nd (Ah aV hr.d AL (Aa (pvD 0) (Aa (pvD 5) (Aa Ad Ae))))))
   AH)
   (Af (A9 (C7 jE_ jM_ jN_ AR (pvD 4) (Aa (pvD 6) Ae))))))))))
   (Af (AA (AD Ax rfl T.tuple jB_ (Aa (pvD 4) Ae)))))))),?_⟩
  nofun
  refine⟨by decide,⟨by decide,by decide⟩,by decide,by lia,fun p hp=>⟨by lia,by lia,?_⟩⟩
  rw[jh_]
  have hX:=j7_ (num / 8) (show (1000000001:Int)≠0 by decide)
  have ny:=jZ_ (num / 8) (show (0:Int)<1000000001 by decide)
  generalize (num+1)%8=j8
  generalize num / 8%1000000001=top at hX ny ⊢
  obtain⟨Pv,aq⟩:∃Pv:Nat->St->Hp->Prop,∀i aj H2,Pv i aj H2↔(∃(aa:α2) (o1 o2:Option V),Same H H2/\H2 p=some (.lst (aa.map V.int))/\aa.length=i/\(∀m∈aa,0<=m/\m<=1000000000)/\aj=[some (.int num),some (.int n),some (.int j8),some (.int top),some (.ref p),o1,o2]):=⟨_,fun _ _ _=>qo_⟩
  refine forR Pv ((aq _ _ _).mpr ⟨[],none,none,Same.new hp,by rw[Ab];rfl,rfl,(fun m hm=>by cases hm),rfl⟩) (fun i aj H2 hi h2=>?_) (fun aj H2 h2=>?_)
  ·obtain⟨aa,o1,o2,s2,aO,ak,bC,rfl⟩:=(aq _ _ _).mp h2
   generalize d8:(0:Int)+(i:Nat)=room
   have aL:0<=room:=by lia
   have dI:room<=40:=by lia
   obtain⟨R,hR⟩:∃R:St->Hp->Prop,∀aA H3,R aA H3↔(H3=H2/\∃ck:Int,0<=ck/\ck<=1000000000/\aA=[some (.int num),some (.int n),some (.int j8),some (.int top),some (.ref p),some (.int room),some (.int ck)]):=⟨_,fun _ _=>qo_⟩
   nofun
   refine⟨R,?_,fun aA H3 h3=>⟨R,?_,fun bE H4 h4=>⟨R,?_,fun ic H5 h5=>⟨R,?_,fun cW H6 h6=>?_⟩⟩⟩⟩
   ·nofun
    refine⟨by decide,iteB ((hR _ _).mpr ⟨rfl,top,hX,by lia,rfl⟩) (fun _ hB=>⟨num,room,2,rfl,aL,by lia,by decide,fun x _ _=>?_⟩)⟩
    nofun
    exact ite2 (fun _=>(hR _ _).mpr ⟨rfl,_,by lia,by lia,rfl⟩) (fun _=>hB)
   ·obtain⟨rfl,ck,cg,iS,rfl⟩:=(hR _ _).mp h3
    nofun
    refine ite2 (fun _=>⟨num,room,1000000001,rfl,aL,by lia,by decide,fun x cO bT=>?_⟩) (fun _=>h3)
    nofun
    exact (hR _ _).mpr ⟨rfl,x,cO,by lia,rfl⟩
   ·obtain⟨rfl,ck,cg,iS,rfl⟩:=(hR _ _).mp h4
    nofun
    have hA:R [some (.int num),some (.int n),some (.int j8),some (.int top),some (.ref p),some (.int room),some (.int ((top+1)%1000000001))] H4:=(hR _ _).mpr ⟨rfl,_,j7_ _ (by decide),by have:=jZ_ (top+1) (show (0:Int)<1000000001 by decide);lia,rfl⟩
    have hE:if j8=5 then (if room=(n:Int)-1 then (0:Int)<1000000001/\R [some (.int num),some (.int n),some (.int j8),some (.int top),some (.ref p),some (.int room),some (.int ((top+1)%1000000001))] H4 else R [some (.int num),some (.int n),some (.int j8),some (.int top),some (.ref p),some (.int room),some (.int ck)] H4) else R [some (.int num),some (.int n),some (.int j8),some (.int top),some (.ref p),some (.int room),some (.int ck)] H4:=
     ite2 (fun _=>ite2 (fun _=>⟨by decide,hA⟩) (fun _=>h4)) (fun _=>h4)
    exact ite2 (fun _=>⟨⟨by decide,by decide⟩,by lia,ite2 (fun _=>⟨by decide,hA⟩) (fun _=>hE)⟩) (fun _=>hE)
   ·obtain⟨rfl,ck,cg,iS,rfl⟩:=(hR _ _).mp h5
    nofun
    exact ite2 (fun _=>⟨num,room,3,rfl,aL,by lia,by decide,fun x cO bT=>(hR _ _).mpr ⟨rfl,x,cO,by lia,rfl⟩⟩) (fun _=>ite2 (fun _=>⟨num,room,3,rfl,aL,by lia,by decide,fun x cO bT=>(hR _ _).mpr ⟨rfl,x,cO,by lia,rfl⟩⟩) (fun _=>h5))
   ·obtain⟨rfl,ck,cg,iS,rfl⟩:=(hR _ _).mp h6
    nofun
    refine⟨.inl ⟨rfl,_,SqL.of aO⟩,_,aO,by rw[ja_];lia,(aq _ _ _).mpr ⟨aa++[ck],_,_,s2.over hp,by rw[Ab];simp,by simp[ak],fun m hm=>?_,rfl⟩⟩
    rcases jA_.mp hm with hm|hm
    ·exact bC m hm
    ·rw[jr_.mp hm];exact⟨cg,iS⟩
  ·obtain⟨aa,o1,o2,s2,aO,ak,bC,rfl⟩:=(aq _ _ _).mp h2
   nofun
   refine⟨_,.inl ⟨SqL.of aO,fun t ht=>?_⟩⟩
   exact k t aa _ (s2.newT ht) (SqT.of Ab) ak bC
noncomputable def LQ (K:α3):Sp:=fun vs H Q _=>∃(a:Addr) (ns:α2) (L:Int) (n:Nat),vs=[.ref a,.int L,.int n]/\SqL K H a (ns.map V.int)/\1<=L/\L<=6/\1<=n/\n<=40/\∀(t:Addr) (ae:α1) (H':Hp),Same H H'->Rows K H' t ae->ae.length=n->(∀row∈ae,(row.length:Int)=L/\∀x∈row,0<=x/\x<(n:Int))->Q (.ref t) H'
def ID   (F:Fun K "_law_ways_by" "_law_ways_by" Cn f fd)(T:Txt mg)
   (aM:⋯ 1 "_law_cell_at" A1 ["script","k"] (GD K) By Bq)
   (aV:⋯ 1 "_law_mixed" Br ["number","k","many"] (EZ) B0 BK)
  : nofun 2 f fd ["script","letters","rooms"] (LQ K):=by
 delta AF
 ·obtain⟨a,ns,L,n,rfl,_⟩:=h;rfl
 ·obtain⟨a,ns,L,n,rfl,hs,cH,cI,bS,aP,k⟩:=h
  have hl:=As
  refine⟨_,(Ac (Ak (i:=3) AF.nd (Ah aM hr.d AL (Aa (pvD 0) (Aa Ad Ae))))
   (Ac (Ak (i:=4) AF.nd (Bu Ae))
   (Ac (Bm jJ_ rfl (AQ rfl T.range (Aa (pvD 2) Ae)) (Ap (i:=5) AF.nd rfl (Or.inl rfl))
   (Ac (Ak (i:=6) AF.nd (Bu Ae))
   (Ac (Bm jJ_ rfl (AQ rfl T.range (Aa (pvD 1) Ae)) (Ap (i:=7) AF.nd rfl (Or.inl rfl))
   (Ac (Ak (i:=8) AF.nd (Am (opD0 AW) (Am (opD0 AW) Ad (Am (opD FD) (pvD 5) (pvD 1))) (pvD 7)))
   (Ac (Ak (i:=9) AF.nd (Ah aV hr.d AL (Aa (pvD 3) (Aa (pvD 8) (Aa (pvD 2) Ae)))))
   (BC (Bz (ptT (Ar (opD0 G0) (pvD 8) (Ao (lenD Ai) (by rfl) T.len jD_ (Aa (pvD 0) Ae)) (AE _)))
   (Af (Ak (i:=9) AF.nd (Am (opD AM) (Ag (ixLD AU) (pvD 0) (pvD 8)) (pvD 2))))
   AH)
   (BC (Bz (PW.pt (GI (ptT (Ar (opE B1) (Am (opD AM) (pvD 3) Ad) Ad (AE _))) (Ea (ptT (Ar (opE B1) (pvD 7) (Am (opD AM) (Am (opD BB) (pvD 3) Ad) (pvD 1)) (AE _))))))
   (Af (Ak (i:=9) AF.nd (Am (opD AM) (Am (opD0 AW) (pvD 5) Ad) (pvD 2))))
   AH)
   (BC (Bz (ptT (Ar (opE B1) (Am (opD AM) (pvD 3) Ad) Ad (AE _)))
   (Af (Ak (i:=9) AF.nd (pvD 5)))
   AH)
   (BC (Bz (PW.pt (GI (ptT (Ar (opE B1) (Am (opD AM) (pvD 3) Ad) Ad (AE _))) (Ea (ptT (Ar (opE B1) (pvD 7) (Am (opD AM) (Am (opD BB) (pvD 3) Ad) (pvD 1)) (AE _))))))
   (Af (Ak (i:=9) AF.nd (Ao (Pg rfl) rfl T.min PyProof.Rows.boot_min (Aa (Am (opD0 AW) (pvD 5) Ad) (Aa (Am (opD0 CQ) (pvD 2) Ad) Ae)))))
   AH)
   (Af (A9 (C7 jE_ jM_ jN_ AR (pvD 6) (Aa (pvD 9) Ae)))))))))))
   (Af (A9 (C7 jE_ jM_ jN_ AR (pvD 4) (Aa (AD Ax rfl T.tuple jB_ (Aa (pvD 6) Ae)) Ae)))))))
   (Af (AA (AD Ax rfl T.tuple jB_ (Aa (pvD 4) Ae))))))),?_⟩
  nofun
  refine⟨a,ns,3,rfl,hs,?_⟩
  nofun
  generalize cell ns 3=d9
  refine⟨by lia,fun pw aX=>⟨by lia,by lia,?_⟩⟩
  rw[jh_]
  obtain⟨Pv,aq⟩:∃Pv:Nat->St->Hp->Prop,∀i aj H2,Pv i aj H2↔(∃(ae:α1) (o1 o2 o3 o4 o5:Option V),Same H H2/\CA K H2 pw ae/\ae.length=i/\(∀row∈ae,(row.length:Int)=L/\∀x∈row,0<=x/\x<(n:Int))/\aj=[some (.ref a),some (.int L),some (.int n),some (.int d9),some (.ref pw),o1,o2,o3,o4,o5]):=⟨_,fun _ _ _=>qo_⟩
  refine forR Pv ((aq _ _ _).mpr ⟨[],none,none,none,none,none,Same.new aX,CA.nil Ab,rfl,(fun m hm=>by cases hm),rfl⟩) (fun i aj H2 hi h2=>?_) (fun aj H2 h2=>?_)
  ·obtain⟨ae,o1,o2,o3,o4,o5,s2,dG,ak,bC,rfl⟩:=(aq _ _ _).mp h2
   generalize d8:(0:Int)+(i:Nat)=room
   have aL:0<=room:=by lia
   have dI:room<n:=by lia
   nofun
   refine⟨by lia,fun pr fz=>⟨by lia,by lia,?_⟩⟩
   have j9:H pr=none:=s2.free fz
   have sA:=s2.newT fz (o:=.lst [])
   have hwA:=dG.mono (Same.new fz (o:=.lst []))
   have hrA:upd H2 pr (.lst []) pr=some (.lst (([]:α2).map V.int)):=Ab
   have aw:pw≠pr:=by
    obtain⟨ts,e,_⟩:=dG
    exact Aq e fz
   generalize upd H2 pr (.lst [])=HA at sA hwA hrA ⊢
   obtain⟨Pr,iy⟩:∃Pv:Nat->St->Hp->Prop,∀j aA H3,Pv j aA H3↔(∃(row:α2) (o3 o4 o5:Option V),Same H H3/\CA K H3 pw ae/\H3 pr=some (.lst (row.map V.int))/\row.length=j/\(∀x∈row,0<=x/\x<(n:Int))/\aA=[some (.ref a),some (.int L),some (.int n),some (.int d9),some (.ref pw),some (.int room),some (.ref pr),o3,o4,o5]):=⟨_,fun _ _ _=>qo_⟩
   refine forR Pr ((iy _ _ _).mpr ⟨[],o3,o4,o5,sA,hwA,hrA,rfl,(fun m hm=>by cases hm),rfl⟩) (fun j aA H3 hj h3=>?_) (fun aA H3 h3=>?_)
   ·obtain⟨row,o3,o4,o5,s3,df,dr,cR,b7,rfl⟩:=(iy _ _ _).mp h3
    generalize hlet:(0:Int)+(j:Nat)=letter
    nofun
    have dn:0<=room*L:=zs_ aL s!""
    have kU:room*L<=40*6:=Int.mul_le_mul s!"" s!"" s!"" s!""
    refine⟨.inl ⟨by lia,by lia⟩,?_⟩
    generalize hkk:6+room*L+letter=kk
    refine⟨d9,kk,n,rfl,by lia,by lia,by lia,fun g0 hg00 hg01=>?_⟩
    obtain⟨R,hR⟩:∃R:St->Hp->Prop,∀bE H4,R bE H4↔(H4=H3/\∃g:Int,0<=g/\g<(n:Int)/\bE=[some (.ref a),some (.int L),some (.int n),some (.int d9),some (.ref pw),some (.int room),some (.ref pr),some (.int letter),some (.int kk),some (.int g)]):=⟨_,fun _ _=>qo_⟩
    refine⟨R,?_,fun bE H4 h4=>⟨R,?_,fun ic H5 h5=>⟨R,?_,fun cW H6 h6=>⟨R,?_,fun cP H7 h7=>?_⟩⟩⟩⟩
    ·nofun
     refine⟨_,.inl (s3.seq hs),?_⟩
     rw[ja_]
     refine ite2 (fun ar=>?_) (fun _=>(hR _ _).mpr ⟨rfl,g0,hg00,hg01,rfl⟩)
     have dA:kk.toNat<ns.length:=by lia
     refine⟨_,s3.seq hs,_,AY s!"" (v:=ns[kk.toNat]) (by simp[dA]),?_⟩
     nofun
     exact⟨by lia,(hR _ _).mpr ⟨rfl,_,j7_ _ s!"",jZ_ _ s!"",rfl⟩⟩
    ·obtain⟨rfl,g,nA,nB,rfl⟩:=(hR _ _).mp h4
     nofun
     exact⟨by decide,ite2 (fun _=>⟨⟨by decide,by decide⟩,by lia,ite2 (fun _=>⟨by lia,(hR _ _).mpr ⟨rfl,_,j7_ _ s!"",jZ_ _ s!"",rfl⟩⟩) (fun _=>h4)⟩) (fun _=>h4)⟩
    ·obtain⟨rfl,g,nA,nB,rfl⟩:=(hR _ _).mp h5
     nofun
     exact⟨by decide,ite2 (fun _=>(hR _ _).mpr ⟨rfl,room,aL,dI,rfl⟩) (fun _=>h5)⟩
    ·obtain⟨rfl,g,nA,nB,rfl⟩:=(hR _ _).mp h6
     nofun
     exact⟨by decide,ite2 (fun _=>⟨⟨by decide,by decide⟩,by lia,ite2 (fun _=>(hR _ _).mpr ⟨rfl,_,by split<;>lia,by split<;>lia,rfl⟩) (fun _=>h6)⟩) (fun _=>h6)⟩
    ·obtain⟨rfl,g,nA,nB,rfl⟩:=(hR _ _).mp h7
     nofun
     refine⟨.inl ⟨rfl,_,SqL.of dr⟩,_,dr,by rw[ja_];lia,(iy _ _ _).mpr ⟨row++[g],_,_,_,s3.over j9,df.off dr aw,by rw[Ab];simp,by simp[cR],fun x hx=>?_,rfl⟩⟩
     rcases jA_.mp hx with hx|hx
     ·exact b7 x hx
     ·rw[jr_.mp hx];exact⟨nA,nB⟩
   ·obtain⟨row,o3,o4,o5,s3,df,dr,cR,b7,rfl⟩:=(iy _ _ _).mp h3
    nofun
    obtain⟨ts,e0,_⟩:=id df
    refine⟨.inl ⟨rfl,_,SqL.of e0⟩,_,.inl ⟨SqL.of dr,fun t ht=>?_⟩⟩
    obtain⟨xs,e1,e2,cL⟩:=(df.mono (Same.new ht (o:=.tup (row.map V.int)))).push (w:=row) (SqT.of Ab)
    refine⟨xs,e1,by lia,(aq _ _ _).mpr ⟨ae++[row],_,_,_,_,_,(s3.newT ht).over aX,cL,by simp[ak],fun r hr=>?_,rfl⟩⟩
    rcases jA_.mp hr with hr|hr
    ·exact bC r hr
    ·rw[jr_.mp hr];exact⟨by lia,b7⟩
  ·obtain⟨ae,o1,o2,o3,o4,o5,s2,dG,ak,bC,rfl⟩:=(aq _ _ _).mp h2
   nofun
   obtain⟨xs,e1,bV⟩:=dG.rows
   refine⟨_,.inl ⟨SqL.of e1,fun t ht=>?_⟩⟩
   exact k t ae _ (s2.newT ht) (bV t ht) ak bC
noncomputable def Vh (L:Int)(m1:α2)(w1:α1)(m2:α2)(w2:α1):Prop:=∀w,isW L w=true->mkR m1 (Az w1 w)=mkR m2 (Az w2 w)
noncomputable def KL (K:α3):Sp:=fun vs H Q _=>∃(h:Addr) (L:Int) (aa:α2) (ae:α1) (num:Int) (n:Nat),vs=[.ref h,.int num,.int n]/\Bb K H h L aa ae/\Wf L aa ae/\n<=40/\∀h' au aC H',Same H H'->Bb K H' h' L au aC->Wf L au aC->au.length=max aa.length n->Q (.ref h') H'
def KN   (F:Fun K "_law_blown" "_law_blown" Cu f fd)(T:Txt mg)
   (aV:⋯ 1 "_law_mixed" Br ["number","k","many"] (EZ) B0 BK)
  : nofun 2 f fd ["house","number","rooms"] (KL K):=by
 delta A0
 ·obtain⟨h,L,aa,ae,num,n,rfl,_⟩:=h;rfl
 ·obtain⟨h,L,aa,ae,num,n,rfl,hh,wf,aP,k⟩:=h
  have hl:=As
  have cH:=wf.l1
  have cI:=wf.l6
  have iP:=wf.n1
  have hs40:=wf.n40
  refine⟨_,(Ac (Ak (i:=3) A0.nd (Ao (lenD Ai) (by rfl) T.len jD_ (Aa (Ag (ixTD An) (pvD 0) Ad) Ae)))
   (Ac (Bl (i:=4) A0.nd rfl (Or.inr rfl) (Gh rfl rfl T.list rfl T.range (pvD 3)))
   (Ac (EK jJ_ (ptT (Ar (opD0 G0) (Ao (lenD Ai) (by rfl) T.len jD_ (Aa (pvD 4) Ae)) (pvD 2) (AE _)))
   (Af (A9 (C7 jE_ jM_ jN_ AR (pvD 4) (Aa (Ah aV hr.d AL (Aa (pvD 1) (Aa (Ao (lenD Ai) (by rfl) T.len jD_ (Aa (pvD 4) Ae)) (Aa (pvD 3) Ae)))) Ae)))))
   (Ac (Ak (i:=5) A0.nd (Bu Ae))
   (Ac (Bm jJ_ rfl (AQ rfl T.range (Aa (Ao (lenD Ai) (by rfl) T.len jD_ (Aa (pvD 4) Ae)) Ae)) (Ap (i:=6) A0.nd rfl (Or.inl rfl))
   (Ac (Ak (i:=7) A0.nd (Bu Ae))
   (Ac (Bm jJ_ rfl (AQ rfl T.range (Aa (Ag (ixTD An) (pvD 0) Ad) Ae)) (Ap (i:=8) A0.nd rfl (Or.inl rfl))
   (Ac (Bl (i:=9) A0.nd rfl (Or.inr rfl) (Ag (ixTD An) (Ag (ixTD An) (Ag (ixTD An) (pvD 0) Ad) (Ag (ixLD AU) (pvD 4) (pvD 6))) (pvD 8)))
   (Ac (Du (i:=10) A0.nd rfl rfl rfl (A4 rfl) (cp:=Fc) ⟨⟨rfl,rfl⟩,⟨⟨rfl,rfl⟩,True.intro⟩⟩ (AQ rfl T.range (Aa (Ao (lenD Ai) (by rfl) T.len jD_ (Aa (pvD 4) Ae)) Ae)) (fun _ _ _ _=>(Ap (i:=0) Gu rfl (Or.inl rfl))) (fun _ _ _ _=>(P0 (ptT (Ar (opE B1) (Ag (ixLD (Bi (K:=K) rfl)) (pvD 2) (pvD 0)) (pvD 1) (AE _))))) (fun _ _ _ _=>(pvD 0)))
   (Af (A9 (C7 jE_ jM_ jN_ AR (pvD 7) (Aa (Ag (ixLD AU) (pvD 10) (Ah aV hr.d AL (Aa (Am (opD0 AW) (pvD 1) Ad) (Aa (Am (opD0 AW) (Am (opD FD) (pvD 6) (Ag (ixTD An) (pvD 0) Ad)) (pvD 8)) (Aa (Ao (lenD Ai) (by rfl) T.len jD_ (Aa (pvD 10) Ae)) Ae))))) Ae)))))))
   (Af (A9 (C7 jE_ jM_ jN_ AR (pvD 5) (Aa (AD Ax rfl T.tuple jB_ (Aa (pvD 7) Ae)) Ae)))))))
   (Af (AA (BN (Aa (Ag (ixTD An) (pvD 0) Ad) (Aa (AD Ax rfl T.tuple jB_ (Aa (Ba rfl (A4 rfl) (cp:=Fd) ⟨⟨rfl,rfl⟩,True.intro⟩ (AX (pvD 4)) (fun _ _ _ _=>(Ap (i:=0) Gv rfl (Or.inl rfl))) (fun _ _ _ _=>Be) (fun _ _ _ _=>(Ag (ixTD (Bs (K:=K) rfl)) (Ag (ixTD (Bs (K:=K) rfl)) (pvD 1) Ad) (pvD 0)))) Ae)) (Aa (AD Ax rfl T.tuple jB_ (Aa (pvD 5) Ae)) Ae))))))))))),?_⟩
  nofun
  obtain⟨tm,tw,q1,q2,q3⟩:=id hh
  refine⟨_,q1,_,rfl,?_⟩
  nofun
  refine⟨_,.inr q2,?_⟩
  rw[ja_]
  refine⟨by lia,by lia,fun pf fZ=>?_⟩
  rw[jh_]
  obtain⟨Pw,bX⟩:∃Pv:Nat->St->Hp->Prop,∀m aj H2,Pv m aj H2↔(∃aF:α2,m=41-aF.length/\Same H H2/\H2 pf=some (.lst (aF.map V.int))/\aa.length<=aF.length/\aF.length<=40/\aF.length<=max aa.length n/\(∀x∈aF,0<=x/\x<(aa.length:Int))/\(∀g:Nat,g<aa.length->aF[g]?=some (g:Int))/\aj=[some (.ref h),some (.int num),some (.int n),some (.int aa.length),some (.ref pf),none,none,none,none,none,none]):=⟨_,fun _ _ _=>qo_⟩
  refine Jm Pw ⟨_,(bX _ _ _).mpr ⟨ups aa.length,rfl,Same.new fZ,by rw[Ab],by simp[ups],by simp[ups];lia,by simp[ups];lia,fun x hx=>?_,fun g hg=>?_,rfl⟩⟩ ?_
  ·obtain⟨i,hi,rfl⟩:=jv_.mp hx
   have:=jG_.mp hi
   lia
  ·unfold ups
   rw[jd_,qE_ hg];rfl
  intro m aj H2 aX
  obtain⟨aF,rfl,s2,ka,lb,hf40,hfm,jt,hfg,rfl⟩:=(bX _ _ _).mp aX
  nofun
  refine⟨_,.inl (SqL.of ka),?_⟩
  rw[ja_]
  refine ite2 (fun ar=>?_) (fun bo=>?_)
  ·refine⟨Pw (41-(aF.length+1)),fun ag H' h=>⟨_,by lia,h⟩,?_⟩
   refine⟨.inl ⟨rfl,_,SqL.of ka⟩,_,.inl (SqL.of ka),?_⟩
   rw[ja_]
   refine⟨num,_,aa.length,rfl,by lia,by lia,by lia,fun x cO bT=>?_⟩
   nofun
   refine⟨_,ka,by rw[ja_];lia,(bX _ _ _).mpr ⟨aF++[x],by simp,s2.over fZ,by rw[Ab];simp,by simp;lia,by simp;lia,by simp;lia,fun y hy=>?_,fun g hg=>?_,rfl⟩⟩
   ·rcases jA_.mp hy with hy|hy
    ·exact jt y hy
    ·rw[jr_.mp hy];exact⟨cO,bT⟩
   ·rw[ji_ s!""];exact hfg g hg
  ·clear aX bX Pw
   refine⟨by lia,fun pw aX=>⟨_,.inl (SqL.of (Same.new aX _ _ ka)),?_⟩⟩
   rw[ja_]
   refine⟨by lia,by lia,?_⟩
   rw[jh_]
   have hpwn:H pw=none:=s2.free aX
   have hnefw:pf≠pw:=Aq ka aX
   have sB:=s2.newT aX (o:=.lst [])
   have hfB:=Same.new aX (o:=.lst []) _ _ ka
   have hwB:upd H2 pw (.lst []) pw=some (.lst []):=Ab
   generalize upd H2 pw (.lst [])=HB at sB hfB hwB ⊢
   obtain⟨Pv,aq⟩:∃Pv:Nat->St->Hp->Prop,∀i aA H3,Pv i aA H3↔(∃(ws:α1) (o6 o7 o8 o9 kb:Option V),Same H H3/\H3 pf=some (.lst (aF.map V.int))/\CA K H3 pw ws/\ws.length=i/\(∀row∈ws,(row.length:Int)=L/\∀x∈row,0<=x/\x<(aF.length:Int))/\aA=[some (.ref h),some (.int num),some (.int n),some (.int aa.length),some (.ref pf),some (.ref pw),o6,o7,o8,o9,kb]):=⟨_,fun _ _ _=>qo_⟩
   refine forR Pv ((aq _ _ _).mpr ⟨[],none,none,none,none,none,sB,hfB,CA.nil hwB,rfl,(fun r hr=>by cases hr),rfl⟩) (fun i aA H3 hi h3=>?_) (fun aA H3 h3=>?_)
   ·obtain⟨ws,o6,o7,o8,o9,kb,s3,mP,df,cQ,ft,rfl⟩:=(aq _ _ _).mp h3
    generalize d8:(0:Int)+(i:Nat)=room
    have aL:0<=room:=by lia
    have dI:room<aF.length:=by lia
    nofun
    refine⟨by lia,fun pr fz=>⟨_,(s3.newT fz).seqT q1,_,rfl,?_⟩⟩
    nofun
    refine⟨by lia,by lia,?_⟩
    have j9:H pr=none:=s3.free fz
    have cY:pw≠pr:=by
     obtain⟨ts,e,_⟩:=id df
     exact Aq e fz
    have hnef:pf≠pr:=Aq mP fz
    have sC:=s3.newT fz (o:=.lst [])
    have hfC:=Same.new fz (o:=.lst []) _ _ mP
    have hwC:=df.mono (Same.new fz (o:=.lst []))
    have hrC:upd H3 pr (.lst []) pr=some (.lst (([]:α2).map V.int)):=Ab
    generalize upd H3 pr (.lst [])=HC at sC hfC hwC hrC ⊢
    obtain⟨Pr,iy⟩:∃Pv:Nat->St->Hp->Prop,∀j bE H4,Pv j bE H4↔(∃(row:α2) (o8 o9 kb:Option V),Same H H4/\H4 pf=some (.lst (aF.map V.int))/\CA K H4 pw ws/\H4 pr=some (.lst (row.map V.int))/\row.length=j/\(∀x∈row,0<=x/\x<(aF.length:Int))/\bE=[some (.ref h),some (.int num),some (.int n),some (.int aa.length),some (.ref pf),some (.ref pw),some (.int room),some (.ref pr),o8,o9,kb]):=⟨_,fun _ _ _=>qo_⟩
    refine forR Pr ((iy _ _ _).mpr ⟨[],_,_,_,sC,hfC,hwC,hrC,rfl,(fun r hr=>by cases hr),rfl⟩) (fun j bE H4 hj h4=>?_) (fun bE H4 h4=>?_)
    ·obtain⟨row,o8,o9,kb,s4,dt,cL,mQ,cR,b7,rfl⟩:=(iy _ _ _).mp h4
     generalize hlet:(0:Int)+(j:Nat)=letter
     obtain⟨fr,hfr1⟩:∃fr,aF[room.toNat]?=some fr:=⟨aF[room.toNat]'s!"",by simp[show room.toNat<aF.length by lia]⟩
     have kc:=jt fr (jc_ hfr1)
     obtain⟨row0,g,r1,r2,r3,r4,r5⟩:=wf.step (x:=letter) kc.1 kc.2 s!"" s!""
     obtain⟨xs,t,z1,z2,z3⟩:=q3.atZ kc.1 r1
     nofun
     refine⟨_,s4.seqT q1,_,rfl,?_⟩
     nofun
     refine⟨_,SqL.of dt,_,AY aL hfr1,?_⟩
     nofun
     refine⟨_,s4.seqT z1,_,z2,?_⟩
     nofun
     refine⟨_,s4.seqT z3,_,AY s!"" r2,?_⟩
     nofun
     refine⟨_,.inl (SqL.of dt),?_⟩
     rw[ja_]
     refine⟨by lia,by lia,?_⟩
     rw[jh_]
     obtain⟨Pc,cT⟩:∃Pc:Nat->List V->St->Hp->Prop,∀c ys ic H5,Pc c ys ic H5↔(H5=H4/\∃(aJ:α2) (o:Option V),ys=aJ.map V.int/\aJ.length<=c/\(∀x∈aJ,0<=x/\x<(aF.length:Int))/\(g.toNat<c->aJ ≠ [])/\ic=[o,some (.int g),some (.ref pf)]):=⟨_,fun _ _ _ _=>qo_⟩
     refine J4 Pc ((cT _ _ _ _).mpr ⟨rfl,[],none,rfl,jg_ _,(fun x hx=>by cases hx),(fun z=>absurd z (q9_ _)),rfl⟩) s!"" (fun c ys ic H5 _ h5=>?_) (fun c ys ic H5 hc h5=>?_) (fun ys ic H5 h5 D hD=>?_)
     ·obtain⟨_,aJ,o,rfl,ak,_⟩:=(cT _ _ _ _).mp h5
      rw[ja_];exact ak
     ·obtain⟨rfl,aJ,o,rfl,ak,a6,mf,rfl⟩:=(cT _ _ _ _).mp h5
      obtain⟨fv,hfv⟩:∃fv,aF[c]?=some fv:=⟨aF[c]'hc,by simp[hc]⟩
      have ec:(0:Int)+(c:Nat)=(c:Int):=by lia
      rw[ec]
      nofun
      refine⟨_,SqL.of dt,_,AY s!"" (by rw[jh_];exact hfv),?_⟩
      nofun
      refine ite2 (fun he=>?_) (fun aw=>?_)
      ·refine (cT _ _ _ _).mpr ⟨rfl,aJ++[(c:Int)],_,by simp,by simp;lia,fun x hx=>?_,(fun _ z=>by simp at z),rfl⟩
       rcases jA_.mp hx with hx|hx
       ·exact a6 x hx
       ·rw[jr_.mp hx];lia
      ·refine (cT _ _ _ _).mpr ⟨rfl,aJ,_,rfl,by lia,a6,fun hlt'=>?_,rfl⟩
       by_cases hgc:g.toNat=c
       ·exfalso
        have:=hfg c s!""
        rw[hfv]at this
        have e2:=jq_ this
        apply aw
        lia
       ·exact mf s!""
     ·obtain⟨rfl,aJ,o,rfl,ak,a6,mf,rfl⟩:=(cT _ _ _ _).mp h5
      have aw:aJ ≠ []:=mf s!""
      have jm:0<aJ.length:=zL_.mpr aw
      have sD:=Same.new hD (o:=.lst (aJ.map V.int))
      have hmul0:0<=room*L:=zs_ aL s!""
      have hmul1:room*L<=40*6:=Int.mul_le_mul s!"" s!"" s!"" s!""
      refine⟨.inl ⟨rfl,_,SqL.of (sD _ _ mQ)⟩,_,(s4.trans sD).seqT q1,_,rfl,L,rfl,.inl ⟨by lia,by lia⟩,D,rfl,_,.inl (SqL.of Ab),?_⟩
      rw[ja_]
      refine⟨_,_,_,rfl,by lia,by lia,by lia,fun x cO bT=>?_⟩
      have gG:x.toNat<aJ.length:=by lia
      refine⟨D,rfl,_,x,rfl,SqL.of Ab,_,AY cO (v:=aJ[x.toNat]) (by simp[gG]),_,sD _ _ mQ,by rw[ja_];lia,(iy _ _ _).mpr ⟨row++[aJ[x.toNat]],_,_,_,(s4.trans sD).over j9,?_,(cL.mono sD).off (sD _ _ mQ) cY,by rw[Ab];simp,by simp[cR],fun y hy=>?_,rfl⟩⟩
      ·rw[Aj hnef];exact sD _ _ dt
      ·rcases jA_.mp hy with hy|hy
       ·exact b7 y hy
       ·rw[jr_.mp hy];exact a6 _ (j2_ gG)
    ·obtain⟨row,o8,o9,kb,s4,dt,cL,mQ,cR,b7,rfl⟩:=(iy _ _ _).mp h4
     nofun
     obtain⟨ts,e0,_⟩:=id cL
     refine⟨.inl ⟨rfl,_,SqL.of e0⟩,_,.inl ⟨SqL.of mQ,fun t ht=>?_⟩⟩
     obtain⟨xs,e1,e2,fo⟩:=(cL.mono (Same.new ht (o:=.tup (row.map V.int)))).push (w:=row) (SqT.of Ab)
     refine⟨xs,e1,by lia,(aq _ _ _).mpr ⟨ws++[row],_,_,_,_,_,(s4.newT ht).over hpwn,?_,fo,by simp[cQ],fun r hr=>?_,rfl⟩⟩
     ·rw[Aj hnefw];exact Same.new ht _ _ dt
     ·rcases jA_.mp hr with hr|hr
      ·exact ft r hr
      ·rw[jr_.mp hr];exact⟨by lia,b7⟩
   ·obtain⟨ws,o6,o7,o8,o9,kb,s3,mP,df,cQ,ft,rfl⟩:=(aq _ _ _).mp h3
    nofun
    refine⟨_,s3.seqT q1,_,rfl,⟨_,SqL.of mP⟩,EO (ag:=[some (.ref h)]) (fun x=>match x with | .int n=>.int (mkW aa n)|_=>.non) rfl (SqL.of mP) (by rw[ja_];lia) (fun x hx R hR=>?_) (fun Dm hDm=>?_)⟩
    ·obtain⟨y,hy,rfl⟩:=CS hx
     have bB:=jt y hy
     nofun
     refine⟨_,s3.seqT q1,_,rfl,?_⟩
     nofun
     exact⟨_,s3.seqT q2,_,Qo bB.1 bB.2,hR⟩
    have em:(aF.map V.int).map (fun x=>match x with | .int n=>.int (mkW aa n)|_=>.non)=(aF.map (mkW aa)).map V.int:=by rw[jR_,jR_];rfl
    rw[em]
    refine⟨Dm,rfl,_,.inl ⟨SqL.of Ab,fun t1 ny=>?_⟩⟩
    obtain⟨xs,bT,bV⟩:=(df.mono ((Same.new hDm (o:=.lst ((aF.map (mkW aa)).map V.int))).newT ny (o:=.tup ((aF.map (mkW aa)).map V.int)))).rows
    refine⟨xs,.inl ⟨SqL.of bT,fun t2 pV=>⟨by lia,fun h9 pW=>?_⟩⟩⟩
    refine k h9 (aF.map (mkW aa)) ws _ ((((s3.newT hDm).newT ny).newT pV).newT pW) ⟨t1,t2,SqT.of Ab,((Same.new pV).newT pW).seqT (SqT.of Ab),(bV t2 pV).mono (Same.new pW)⟩ ⟨cH,cI,by rw[ja_];lia,by rw[ja_];lia,by rw[ja_];lia,fun row hr=>by rw[ja_];exact ft row hr,fun m hm=>?_⟩ (by rw[ja_];lia)
    obtain⟨y,hy,rfl⟩:=jv_.mp hm
    have bB:=jt y hy
    exact wf.mks _ (Wl bB.1 bB.2)
noncomputable def JL (K:α3):Sp:=fun vs H Q _=>∃(a:Addr) (ns:α2),vs=[.ref a]/\SqL K H a (ns.map V.int)/\∀h L aa ae H',Same H H'->Bb K H' h L aa ae->Wf L aa ae->aa.length<=15->Q (.ref h) H'
def Hf   (F:Fun K "_law_house_by" "_law_house_by" B9 f fd)(T:Txt mg)
   (aM:⋯ 1 "_law_cell_at" A1 ["script","k"] (GD K) By Bq)
   (ke:⋯ 2 "_law_marks_by" B8 ["number","rooms"] (JK K) Ex D2)
   (kf:⋯ 2 "_law_ways_by" Cn ["script","letters","rooms"] (LQ K) Fg Ey)
   (eY:⋯ 2 "_law_blown" Cu ["house","number","rooms"] (KL K) Ez DQ)
  : nofun 3 f fd ["script"] (JL K):=by
 delta AO
 ·obtain⟨a,ns,rfl,_⟩:=h;rfl
 ·obtain⟨a,ns,rfl,hs,k⟩:=h
  have hl:=As
  refine⟨_,(Ac (Ak (i:=1) AO.nd (Am (opD0 AW) Ad (Am (opD AM) (Am (opD0 AW) (Ah aM hr.d AL (Aa (pvD 0) (Aa Ad Ae))) Ad) Ad)))
   (Ac (Ak (i:=2) AO.nd (Am (opD0 AW) Ad (Am (opD AM) (Am (opD0 AW) (Ah aM hr.d AL (Aa (pvD 0) (Aa Ad Ae))) Ad) Ad)))
   (BC (Bz (PW.pt (GI (ptT (Ar (opE B1) (Am (opD AM) (Am (opD BB) (Ah aM hr.d AL (Aa (pvD 0) (Aa Ad Ae))) Ad) Ad) Ad (AE _))) (Ea (ptT (Ar (opD0 G0) (pvD 1) Ad (AE _))))))
   (Af (Ak (i:=2) AO.nd (Am (opD0 AW) Ad (Am (opD AM) (Am (opD BB) (Ah aM hr.d AL (Aa (pvD 0) (Aa Ad Ae))) Ad) Ad))))
   AH)
   (Ac (Ak (i:=3) AO.nd (Ah ke hr.d AL (Aa (Ah aM hr.d AL (Aa (pvD 0) (Aa Ad Ae))) (Aa (pvD 2) Ae))))
   (Ac (Ak (i:=4) AO.nd (BN (Aa (pvD 1) (Aa (pvD 3) (Aa (Ah kf hr.d AL (Aa (pvD 0) (Aa (pvD 1) (Aa (pvD 2) Ae)))) Ae)))))
   (Ac (Ak (i:=5) AO.nd (Ah aM hr.d AL (Aa (pvD 0) (Aa Ad Ae))))
   (BC (Bz (ptT (Ar (opE B1) (Am (opD AM) (pvD 5) Ad) Ad (AE _)))
   (Af (Ak (i:=4) AO.nd (Ah eY hr.d AL (Aa (pvD 4) (Aa (pvD 5) (Aa (Am (opD0 AW) (Am (opD0 AW) (pvD 2) Ad) (Am (opD AM) (Am (opD BB) (pvD 5) Ad) Ad)) Ae))))))
   AH)
   (Af (AA (pvD 4)))))))))),?_⟩
  nofun
  refine⟨a,ns,0,rfl,hs,?_⟩
  nofun
  refine⟨by decide,a,ns,1,rfl,hs,?_⟩
  nofun
  have cH:1<=1+(cell ns 0+1)%6:=by lia
  have cI:1+(cell ns 0+1)%6<=6:=by lia
  generalize 1+(cell ns 0+1)%6=L at cH cI ⊢
  obtain⟨R,hR⟩:∃R:St->Hp->Prop,∀ag H',R ag H'↔(H'=H/\∃n:Nat,1<=n/\n<=12/\ag=[some (.ref a),some (.int L),some (.int n),none,none,none]):=⟨_,fun _ _=>qo_⟩
  refine⟨by decide,R,?_,?_⟩
  ·nofun
   refine⟨a,ns,1,rfl,hs,?_⟩
   nofun
   refine⟨⟨by decide,by decide⟩,by decide,?_⟩
   have hb:R [some (V.ref a),some (V.int L),some (V.int (1+(cell ns 1+3)%5)),none,none,none] H:=(hR _ _).mpr ⟨rfl,(1+(cell ns 1+3)%5).toNat,by lia,by lia,by rw[show (((1+(cell ns 1+3)%5).toNat:Nat):Int)=1+(cell ns 1+3)%5 by lia]⟩
   refine ite2 (fun _=>ite2 (fun _=>?_) (fun _=>hb)) (fun _=>hb)
   refine⟨a,ns,1,rfl,hs,_,rfl,⟨by decide,by decide⟩,by decide,(hR _ _).mpr ⟨rfl,(1+cell ns 1 / 80%12).toNat,by lia,by lia,?_⟩⟩
   rw[show (((1+cell ns 1 / 80%12).toNat:Nat):Int)=1+cell ns 1 / 80%12 by lia]
  ·intro ag H' h'
   obtain⟨rfl,n,bS,hn12,rfl⟩:=(hR _ _).mp h'
   have aP:n<=40:=by lia
   nofun
   refine⟨a,ns,2,rfl,hs,?_⟩
   nofun
   refine⟨_,n,rfl,bS,aP,fun tm aa H1 s1 ig gY hmr=>?_⟩
   nofun
   refine⟨a,ns,L,n,rfl,s1.seq hs,cH,cI,bS,aP,fun tw ae H2 s2 bV cQ ft=>?_⟩
   nofun
   refine⟨by lia,fun h hh=>?_⟩
   have wf:Wf L aa ae:=⟨cH,cI,by lia,by lia,by lia,fun row hr=>by rw[gY];exact ft row hr,hmr⟩
   have gi:=(s1.trans s2).newT hh (o:=.tup [V.int L,V.ref tm,V.ref tw])
   have kg:Bb K (upd H2 h (.tup [V.int L,V.ref tm,V.ref tw])) h L aa ae:=⟨tm,tw,SqT.of Ab,(s2.newT hh).seqT ig,bV.mono (Same.new hh)⟩
   generalize upd H2 h (.tup [V.int L,V.ref tm,V.ref tw])=H3 at gi kg ⊢
   refine⟨a,ns,4,rfl,gi.seq hs,?_⟩
   nofun
   obtain⟨R2,pX⟩:∃R:St->Hp->Prop,∀bE H4,R bE H4↔(∃(h:Addr) (aa:α2) (ae:α1) (o1 o2 o3:Option V),Same H' H4/\Bb K H4 h L aa ae/\Wf L aa ae/\aa.length<=15/\bE=[some (.ref a),some (.int L),o1,o2,some (.ref h),o3]):=⟨_,fun _ _=>qo_⟩
   refine⟨R2,?_,?_⟩
   ·nofun
    refine⟨by decide,ite2 (fun _=>⟨⟨by decide,by decide⟩,by decide,?_⟩) (fun _=>(pX _ _).mpr ⟨h,aa,ae,_,_,_,gi,kg,wf,by lia,rfl⟩)⟩
    have cO:=j7_ (cell ns 4 / 3) (show (3:Int)≠0 by decide)
    have bT:=jZ_ (cell ns 4 / 3) (show (0:Int)<3 by decide)
    obtain⟨m,hm,hm40⟩:∃m:Nat,(n:Int)+1+cell ns 4 / 3%3=(m:Int)/\m<=15:=⟨((n:Int)+1+cell ns 4 / 3%3).toNat,by lia,by lia⟩
    rw[hm]
    refine⟨h,L,aa,ae,_,m,rfl,kg,wf,by lia,fun h' au aC H4 s4 oU gH hml'=>?_⟩
    exact (pX _ _).mpr ⟨h',au,aC,_,_,_,gi.trans s4,oU,gH,by rw[hml'];lia,rfl⟩
   ·intro bE H4 h4
    obtain⟨h,aa,ae,o1,o2,o3,s4,lC,pY,kh,rfl⟩:=(pX _ _).mp h4
    nofun
    exact k h L aa ae H4 s4 lC pY kh
noncomputable def IE (K:α3):Sp:=fun vs H Q _=>∃(h:Addr) (L:Int) (aa:α2) (ae:α1) (num:Int),vs=[.ref h,.int num]/\Bb K H h L aa ae/\Wf L aa ae/\∀h' au aC H',Same H H'->Bb K H' h' L au aC->Wf L au aC->au.length=aa.length->Q (.ref h') H'
def GF   (F:Fun K "_law_turned_by" "_law_turned_by" BR f fd)(T:Txt mg)
  : nofun 1 f fd ["house","number"] (IE K):=by
 delta A2
 ·obtain⟨h,L,aa,ae,num,rfl,_⟩:=h;rfl
 ·obtain⟨h,L,aa,ae,num,rfl,hh,wf,k⟩:=h
  have hl:=As
  have bS:=wf.n1
  have aP:=wf.n40
  obtain⟨tm,tw,q1,q2,q3⟩:=id hh
  refine⟨_,(Ac (Bl (i:=2) A2.nd rfl (Or.inr rfl) (Ao (lenD Ai) (by rfl) T.len jD_ (Aa (Ag (ixTD An) (pvD 0) Ad) Ae)))
   (Ac (Bz (ptT (Ar (opE B1) (pvD 2) Ad (AE _)))
   (Af (AA (pvD 0)))
   AH)
   (BC (Bl (i:=3) A2.nd rfl (Or.inr rfl) (Am VQ (Bu (Aa Ad Ae)) (Ba rfl (A4 rfl) (cp:=CZ) ⟨⟨rfl,rfl⟩,⟨⟨rfl,rfl⟩,True.intro⟩⟩ (AQ rfl T.range (Aa (Am (opD0 CQ) (pvD 2) Ad) Ae)) (fun _ _ _ _=>(Ap (i:=0) Et rfl (Or.inl rfl))) (fun _ _ _ _=>Be) (fun _ _ _ _=>(Am (opD0 AW) Ad (Am (opD AM) (Am (opD0 AW) (pvD 0) (pvD 1)) (Am (opD0 CQ) (pvD 2) Ad)))))))
   (Ac (Ak (i:=4) A2.nd (Am PH (Bu (Aa Ad Ae)) (pvD 2)))
   (Ac (Ak (i:=5) A2.nd (Am PH (Bu (Aa (BN Ae) Ae)) (pvD 2)))
   (Ac (Bm jJ_ rfl (AQ rfl T.range (Aa (pvD 2) Ae)) (Ap (i:=6) A2.nd rfl (Or.inl rfl))
   (Ac (KS (Ag (ixTD An) (Ag (ixTD An) (pvD 0) Ad) (pvD 6)) (KR (pvD 4) (Ag (ixLD AU) (pvD 3) (pvD 6)) set_list))
   (Af (KS (AD Ax rfl T.tuple jB_ (Aa (Ba rfl (A4 rfl) (cp:=C0) ⟨⟨rfl,rfl⟩,True.intro⟩ (Eb (Ag (ixTD An) (Ag (ixTD An) (pvD 0) Ad) (pvD 6))) (fun _ _ _ _=>(Ap (i:=0) Eu rfl (Or.inl rfl))) (fun _ _ _ _=>Be) (fun _ _ _ _=>(Ag (ixLD (Bi (K:=K) rfl)) (pvD 1) (pvD 0)))) Ae)) (KR (pvD 5) (Ag (ixLD AU) (pvD 3) (pvD 6)) set_list)))))
   (Af (AA (BN (Aa (Ag (ixTD An) (pvD 0) Ad) (Aa (AD Ax rfl T.tuple jB_ (Aa (pvD 4) Ae)) (Aa (AD Ax rfl T.tuple jB_ (Aa (pvD 5) Ae)) Ae)))))))))))),?_⟩
  nofun
  refine⟨_,q1,_,rfl,?_⟩
  nofun
  refine⟨_,.inr q2,?_⟩
  rw[ja_]
  refine ite2 (fun h1=>k h aa ae H (Same.refl _) hh wf rfl) (fun h1=>?_)
  have h2:2<=aa.length:=by lia
  have ho:=Qy h2 num
  have m7:=ho.len
  generalize hspin:Qx aa.length num=o at ho m7
  refine⟨fun ag H'=>Same H H'/\∃a,H' a=some (.lst (o.map V.int))/\ag=[some (.ref h),some (.int num),some (.int aa.length),some (.ref a),none,none,none],?_,fun iJ H1 hR=>?_⟩
  ·nofun
   refine⟨by lia,fun p hp=>⟨by lia,by lia,?_⟩⟩
   refine J4 (n:=((aa.length:Int)-1).toNat) (fun i ys aj H2=>H2=upd H p (.lst [V.int 0])/\ys=((List.range i).map fun j:Nat=>1+((j:Int)+num)%((aa.length:Int)-1)).map V.int/\∃o,aj=[o,some (.int num),some (.int aa.length)]) ⟨rfl,rfl,none,rfl⟩ s!"" (fun i ys aj H2 _ h=>by rw[h.2.1];simp) (fun i ys aj H2 hi h=>?_) (fun ys aj H2 h=>?_)
   ·obtain⟨rfl,rfl,o,rfl⟩:=h
    nofun
    refine⟨by lia,?_⟩
    rw[xU_,show (0:Int)+(i:Nat)=(i:Int) by lia]
    simp
   ·obtain⟨rfl,rfl,o,rfl⟩:=h
    intro D hD
    have n1:p≠D:=fun z=>by rw[<-z,Ab]at hD;cases hD
    refine⟨D,rfl,_,by rw[Aj n1];exact Ab,_,Ab,by simp;lia,fun q hq=>⟨((Same.new hp).newT hD).newT hq,q,?_,rfl⟩⟩
    rw[Ab,<-hspin,show ((aa.length:Int)-1).toNat=aa.length-1 by lia]
    rfl
  obtain⟨s1,a,ha,rfl⟩:=hR
  have kZ:SqL K H1 a (o.map V.int):=SqL.of ha
  nofun
  rw[jh_]
  refine⟨by lia,fun p hp=>⟨_,Ab,by lia,by lia,by simp;lia,fun p1 bp=>⟨by lia,fun p2 aO=>⟨by lia,fun p3 eK=>⟨_,Ab,by lia,by lia,by simp;lia,fun p4 dY=>?_⟩⟩⟩⟩⟩
  rw[Kd]at aO eK dY ⊢
  rw[Kd]
  have sA:=(((((Same.new (o:=.lst [V.int 0]) hp).newT (o:=.lst (List.replicate aa.length (V.int 0))) bp).newT (o:=.tup []) aO).newT (o:=.lst [V.ref p2]) eK).newT (o:=.lst (List.replicate aa.length (V.ref p2))) dY)
  have n41:p4≠p1:=(AI (AI (AI dY).1).1).2
  have cg:upd (upd (upd (upd (upd H1 p (.lst [V.int 0])) p1 (.lst (List.replicate aa.length (V.int 0)))) p2 (.tup [])) p3 (.lst [V.ref p2])) p4 (.lst (List.replicate aa.length (V.ref p2))) p1=some (.lst ((List.replicate aa.length (0:Int)).map V.int)):=by
   rw[zi_]
   exact Same.new dY _ _ (Same.new eK _ _ (Same.new aO _ _ Ab))
  have i3:CA K (upd (upd (upd (upd (upd H1 p (.lst [V.int 0])) p1 (.lst (List.replicate aa.length (V.int 0)))) p2 (.tup [])) p3 (.lst [V.ref p2])) p4 (.lst (List.replicate aa.length (V.ref p2)))) p4 (List.replicate aa.length []):=by
   refine⟨List.replicate aa.length p2,by rw[Ab,zi_],by simp,fun i t w e1 e2=>?_⟩
   have e3:t=p2:=List.eq_of_mem_replicate (jc_ e1)
   have e4:w=[]:=List.eq_of_mem_replicate (jc_ e2)
   subst e3 e4
   exact SqT.of (Same.new dY _ _ (Same.new eK _ _ Ab))
  have hp1n:H1 p1=none:=(AI bp).1
  have hp4n:H1 p4=none:=(AI (AI (AI (AI dY).1).1).1).1
  generalize upd (upd (upd (upd (upd H1 p (.lst [V.int 0])) p1 (.lst (List.replicate aa.length (V.int 0)))) p2 (.tup [])) p3 (.lst [V.ref p2])) p4 (.lst (List.replicate aa.length (V.ref p2)))=H2 at sA cg i3 ⊢
  refine⟨by lia,by lia,?_⟩
  obtain⟨Pn,cS⟩:∃Pn:Nat->St->Hp->Prop,∀i aA H3,Pn i aA H3↔(∃(o5:Option V),Same H1 H3/\H3 p1=some (.lst ((CB o (fun r=>aa.getD r 0) i (List.replicate aa.length 0)).map V.int))/\CA K H3 p4 (CB o (fun r=>(ae.getD r []).map (ordW o)) i (List.replicate aa.length []))/\aA=[some (.ref h),some (.int num),some (.int aa.length),some (.ref a),some (.ref p1),some (.ref p4),o5]):=⟨_,fun _ _ _=>qo_⟩
  refine forR Pn ((cS _ _ _).mpr ⟨none,sA,cg,i3,rfl⟩) (fun i aA HT hi h3=>?_) (fun aA H3 h3=>?_)
  ·obtain⟨o5,sT,hmT,oQ,rfl⟩:=(cS _ _ _).mp h3
   have ei:(0:Int)+(i:Nat)=(i:Int):=by lia
   rw[ei]
   have hxa:=ho.at (r:=(i:Int)) s!"" s!""
   rw[jh_]at hxa
   obtain⟨hxi,cO,bT⟩:=hxa
   obtain⟨tm3,tw3,y1,y2,y3⟩:=hh.mono (s1.trans sT)
   have iV:aa[i]?=some (aa.getD i 0):=by rw[jj_,jf_ hi];rfl
   obtain⟨row,hrow,eN,cR⟩:=wf.row (r:=(i:Int)) s!"" s!""
   rw[jh_]at hrow
   nofun
   refine⟨_,y1,_,rfl,_,rfl,_,y2,_,Ec (by rw[jd_,iV];rfl),_,sT.seq kZ,_,Ec (by rw[jd_,hxi];rfl),?_⟩
   refine⟨_,_,rfl,hmT,(ordW o i).toNat,NA cO (by rw[ja_,CH,qD_];exact bT),?_⟩
   have sU:Same H1 (upd HT p1 (.lst (((CB o (fun r=>aa.getD r 0) i (List.replicate aa.length 0)).map V.int).set (ordW o i).toNat (V.int (aa.getD i 0))))):=sT.over hp1n
   have hmU:upd HT p1 (.lst (((CB o (fun r=>aa.getD r 0) i (List.replicate aa.length 0)).map V.int).set (ordW o i).toNat (V.int (aa.getD i 0)))) p1=some (.lst ((CB o (fun r=>aa.getD r 0) (i+1) (List.replicate aa.length 0)).map V.int)):=by
    rw[Ab,CB,List.map_set]
   have hwU:=oQ.off (ys:=((CB o (fun r=>aa.getD r 0) i (List.replicate aa.length 0)).map V.int).set (ordW o i).toNat (V.int (aa.getD i 0))) hmT n41
   generalize upd HT p1 (.lst (((CB o (fun r=>aa.getD r 0) i (List.replicate aa.length 0)).map V.int).set (ordW o i).toNat (V.int (aa.getD i 0))))=HU at sU hmU hwU ⊢
   obtain⟨tm4,tw4,z1,z2,z3⟩:=hh.mono (s1.trans sU)
   obtain⟨xs4,t4,c1,c2,c3⟩:=z3.at hrow
   refine⟨_,z1,_,rfl,_,rfl,_,c1,_,c2,_,rfl,⟨_,c3⟩,?_⟩
   obtain⟨f,hf⟩:∃f:V->V,∀g:Int,f (V.int g)=.int (ordW o g):=⟨fun v=>match v with | .int g=>.int (ordW o g)|_=>.non,fun _=>rfl⟩
   refine EM (xs:=row.map V.int) (ag:=[some (.ref a)]) f rfl c3 (by rw[ja_];have:=wf.l6;lia) (fun v hv R hR=>?_) (fun D hD=>?_)
   ·obtain⟨g,hg,rfl⟩:=jv_.mp hv
    rw[hf]at hR
    have jf:=(wf.rows row eN).2 g hg
    nofun
    exact⟨_,sU.seq kZ,_,AY jf.1 (ho.at jf.1 jf.2).1,hR⟩
   ·have em:(row.map V.int).map f=(row.map (ordW o)).map V.int:=by
     rw[jR_,jR_]
     exact qj_ fun g _=>hf g
    rw[em]
    refine⟨D,rfl,_,.inl ⟨SqL.of Ab,fun l eZ=>?_⟩⟩
    have sV:=(Same.new (o:=.lst ((row.map (ordW o)).map V.int)) hD).newT (o:=.tup ((row.map (ordW o)).map V.int)) eZ
    obtain⟨xs8,e1,e2,gc⟩:=(hwU.mono sV).set (j:=(ordW o i).toNat) (w:=row.map (ordW o)) (SqT.of Ab)
    refine⟨_,(sU.trans sV).seq kZ,_,Ec (by rw[jd_,hxi];rfl),xs8,_,rfl,e1,(ordW o i).toNat,NA cO (by rw[e2,CH,qD_];exact bT),(cS _ _ _).mpr ⟨_,(sU.trans sV).over hp4n,?_,?_,rfl⟩⟩
    ·rw[Aj n41.symm];exact sV _ _ hmU
    ·rw[CB,jj_,hrow];exact gc
  ·obtain⟨o5,s3,nE,df,rfl⟩:=(cS _ _ _).mp h3
   nofun
   obtain⟨tm3,tw3,y1,y2,y3⟩:=hh.mono (s1.trans s3)
   refine⟨_,y1,_,rfl,_,.inl ⟨SqL.of nE,fun l eZ=>?_⟩⟩
   obtain⟨xs,bT,gU⟩:=(df.mono (Same.new (o:=.tup ((Qt aa.length o aa).map V.int)) eZ)).rows
   refine⟨_,.inl ⟨SqL.of bT,fun l1 bw=>⟨by lia,fun p5 cj=>?_⟩⟩⟩
   exact k p5 _ _ _ (((s1.trans s3).newT eZ).newT bw |>.newT cj) ⟨l,l1,SqT.of Ab,SqT.of (Same.new cj _ _ (Same.new bw _ _ Ab)),(gU l1 bw).mono (Same.new cj)⟩ (UI wf ho) (Dc _ _ _)
noncomputable def Rr (K:α3):Sp:=fun vs H Q _=>∃(a h:Addr) (ns:α2) (L:Int) (aa:α2) (ae:α1),vs=[.ref a,.ref h]/\SqL K H a (ns.map V.int)/\Bb K H h L aa ae/\Wf L aa ae/\∀(m:Nat) H',m<=3->many L (m+2)<=341->Same H H'->Q (.int m) H'
def IF   (F:Fun K "_law_more_by" "_law_more_by" Co f fd)(T:Txt mg)
   (aM:⋯ 1 "_law_cell_at" A1 ["script","k"] (GD K) By Bq)
  : nofun 2 f fd ["script","house"] (Rr K):=by
 delta Eo
 ·obtain⟨a,h,ns,L,aa,ae,rfl,_⟩:=h;rfl
 ·obtain⟨a,h,ns,L,aa,ae,rfl,hs,hh,wf,k⟩:=h
  have hl:=As
  refine⟨_,(Ac (Ak (i:=2) Eo.nd (Am (opD BB) (Ah aM hr.d AL (Aa (pvD 0) (Aa Ad Ae))) Ad))
   (Ac (Bz (ptT (Ar (opD0 Um) (Ao (lenD Ai) (by rfl) T.len jD_ (Aa (Ag (ixTD An) (pvD 1) Ad) Ae)) Ad (AE _)))
   (Af (AA (Am (opD AM) (pvD 2) Ad)))
   AH)
   (Ac (Bz (PW.pt (GI (ptT (Ar (opD0 G0) (Ao (lenD Ai) (by rfl) T.len jD_ (Aa (Ag (ixTD An) (pvD 1) Ad) Ae)) Ad (AE _))) (Ea (ptT (Ar (opE B1) (Am (opD AM) (pvD 2) Ad) Ad (AE _))))))
   (Af (AA (Ag (ixLD AU) (Bu (Aa Ad (Aa Ad (Aa Ad (Aa Ad (Aa Ad (Aa Ad Ae))))))) (Am (opD0 CQ) (Ag (ixTD An) (pvD 1) Ad) Ad))))
   AH)
   (Ac (Bz (ptT (Ar (opE B1) (Am (opD AM) (pvD 2) Ad) Ad (AE _)))
   (Af (AA (Ag (ixLD AU) (Bu (Aa Ad (Aa Ad (Aa Ad (Aa Ad (Aa Ad (Aa Ad Ae))))))) (Am (opD0 CQ) (Ag (ixTD An) (pvD 1) Ad) Ad))))
   AH)
   (Af (AA (Am (opD AM) (pvD 2) (Ag (ixLD AU) (Bu (Aa Ad (Aa Ad (Aa Ad (Aa Ad (Aa Ad (Aa Ad Ae))))))) (Am (opD0 CQ) (Ag (ixTD An) (pvD 1) Ad) Ad))))))))),?_⟩
  nofun
  obtain⟨mm,wv,q1,q2,q3⟩:=id hh
  have cH:=wf.l1
  have cI:=wf.l6
  refine⟨a,ns,0,rfl,hs,_,rfl,⟨by decide,by decide⟩,_,q1,_,rfl,mm,rfl,_,.inr q2,?_⟩
  generalize cell ns 0 / 6=c
  rw[ja_]
  have hL:L=1\/L=2\/L=3\/L=4\/L=5\/L=6:=by lia
  have m0:many L (0+2)<=341:=by rcases hL with rfl|rfl|rfl|rfl|rfl|rfl<;>decide
  have m1:many L (1+2)<=341:=by rcases hL with rfl|rfl|rfl|rfl|rfl|rfl<;>decide
  have m2:many L (2+2)<=341:=by rcases hL with rfl|rfl|rfl|rfl|rfl|rfl<;>decide
  have m3:L<=4->many L (3+2)<=341:=fun h=>by
   rcases hL with rfl|rfl|rfl|rfl|rfl|rfl
   all_goals first|decide|lia
  -- each answer
  have pZ:∀(c:Int) H',Same H H'->0<=c->c<=3->(c=3->L<=4)->Q (.int c) H':=fun c H' hS h0 h3 hc=>by
   obtain⟨m,rfl⟩:∃m:Nat,c=(m:Int):=⟨c.toNat,by lia⟩
   refine k m H' s!"" ?_ hS
   rcases (show m=0\/m=1\/m=2\/m=3 by lia) with rfl|rfl|rfl|rfl
   ·exact m0
   ·exact m1
   ·exact m2
   ·exact m3 (hc rfl)
  refine ite2 (fun _=>⟨by decide,pZ _ _ (Same.refl _) s!"" s!"" s!""⟩) (fun _=>?_)
  refine⟨_,q1,_,rfl,mm,rfl,_,.inr q2,?_⟩
  rw[ja_]
  refine ite2 (fun h3=>⟨by decide,ite2 (fun _=>⟨by decide,fun p hp=>?_⟩) (fun _=>⟨by decide,ite2 (fun _=>⟨by decide,fun p hp=>?_⟩) (fun _=>⟨by decide,fun p hp=>?_⟩)⟩)⟩) (fun h3=>⟨by decide,ite2 (fun _=>⟨by decide,fun p hp=>?_⟩) (fun _=>⟨by decide,fun p hp=>?_⟩)⟩)
  all_goals
   refine⟨_,(Same.new hp).seqT q1,_,rfl,L,rfl,_,SqL.of Ab,?_⟩
   clear hh wf q1 q2 q3 k m0 m1 m2 m3
   rcases hL with rfl|rfl|rfl|rfl|rfl|rfl
   all_goals first
    | exact⟨_,rfl,pZ _ _ (Same.new hp) (by decide) (by decide) (by decide)⟩
    | exact⟨_,rfl,_,rfl,by decide,pZ _ _ (Same.new hp) s!"" s!"" s!""⟩
noncomputable def Uc (K:α3):Sp:=fun vs H Q _=>∃(a:Addr) (L:Int) (ws:α2),vs=[.ref a,.int L]/\SqT K H a (ws.map V.int)/\isW L ws=true/\Q (.bl true) H
def IG   (F:Fun K "_law_is_word" "_law_is_word" Cs f fd)(T:Txt mg)
  : nofun 1 f fd ["found","letters"] (Uc K):=by
 delta Ep
 ·obtain⟨a,L,ws,rfl,_⟩:=h;rfl
 ·obtain⟨a,L,ws,rfl,ha,hv,k⟩:=h
  refine⟨_,(Ac (Bz (Jh (ptB (HK (Ao CT rfl T.isinstance xi_ (Aa (pvD 0) (Aa (JT (v:=.ty "tuple") rfl T.tuple jB_ rfl) Ae))))))
   (Af (AA L9))
   AH)
   (Ac (Bm jJ_ rfl (Eb (pvD 0)) (Ap (i:=2) Ep.nd rfl (Or.inl rfl))
   (Af (Bz (PW.pt (N9 (Jh (ptB (HK (Ao CT rfl T.isinstance xi_ (Aa (pvD 2) (Aa (JT (v:=.ty "int") rfl T.int PyProof.Rows.boot_int rfl) Ae)))))) (N9 (ptB (HK (Ao CT rfl T.isinstance xi_ (Aa (pvD 2) (Aa (JT (v:=.ty "bool") rfl T.bool PyProof.Rows.boot_bool rfl) Ae))))) (N9 (ptT (Ar (opD0 G0) (pvD 2) Ad (AE _))) (Na (ptT (Ar (opD0 W7) (pvD 2) (pvD 1) (AE _))))))))
   (Af (AA L9))
   AH)))
   (Af (AA L9)))),?_⟩
  nofun
  refine⟨_,_,.tup ha,Np,_,J5,?_⟩
  rw[if_neg (by decide)]
  refine⟨⟨_,ha⟩,forT (xs:=ws.map V.int) (fun i aj H2=>H2=H/\∃o,aj=[some (.ref a),some (.int L),o]) ⟨rfl,none,rfl⟩ (fun i aj H2 _ h=>by rw[h.1];exact ha) (fun i x aj H2 hx h=>?_) (fun aj H2 h=>?_)⟩
  ·obtain⟨rfl,o,rfl⟩:=h
   obtain⟨n,hn,rfl⟩:=BQ hx
   have bB:=Av.mp hv n (jc_ hn)
   nofun
   refine⟨_,_,.int _,Np,_,J5,?_⟩
   rw[if_neg (by decide)]
   refine⟨_,_,.int _,Np,_,Lb,?_⟩
   rw[if_neg (by decide),if_neg s!"",if_neg s!""]
   exact⟨_,rfl⟩
  ·obtain⟨rfl,o,rfl⟩:=h
   nofun
   exact k
def Cj.tsq2 {K:α3}    (h:Cj T H H')(hT:H T=some (.tbl ps)):TSq K H H':=fun b ys q=>h.tsq hT q
def Bb.monoQ {K:α3}      (x:Bb K H h L aa ae)(e:TSq K H H'):Bb K H' h L aa ae:=by
 obtain⟨m,w,h1,h2,ts,h3,h4,h5⟩:=x
 exact⟨m,w,e _ _ h1,e _ _ h2,ts,e _ _ h3,h4,fun i t r a b=>e _ _ (h5 i t r a b)⟩
def Rt:∀(l s:α1) (w:α2),w∈l.foldl ins s->w∈s\/w∈l
 |[],s,w,h=>.inl h
 |v::l,s,w,h=>by
  rw[qX_]at h
  rcases Rt l _ w h with h|h
  ·unfold ins at h
   split at h
   ·exact .inl h
   ·rcases jA_.mp h with h|h
    ·exact .inl h
    ·rw[jr_.mp h];exact .inr jl_
  ·exact .inr (jk_ _ h)
def Ru {K:α3}  {os:List aK.Wd}(h:WsT H os):AB K H (aK.wv os) (os.map (·.2)):=by
 refine⟨by simp[aK.wv],fun i w hw=>?_⟩
 rw[jd_]at hw
 cases e:os[i]? with
 |none=>rw[e]at hw;cases hw
 |some o=>
  rw[e]at hw;cases hw
  exact⟨o.1,by rw[aK.wv,jd_,e];rfl,h o (jc_ e)⟩
def Rv:∀(l s:α1) (w:α2),(w∈s\/w∈l)->w∈l.foldl ins s
 |[],s,w,h=>h.resolve_right (by simp)
 |v::l,s,w,h=>by
  rw[qX_]
  refine Rv l _ w ?_
  unfold ins
  rcases h with h|h
  ·left
   split
   ·exact h
   ·exact qa_ _ h
  ·rcases jC_.mp h with rfl|h
   ·left
    split
    ·rename_i hh;exact hh
    ·exact jx_ _ jl_
   ·exact .inr h
def IH {l:α1}{w:α2}:w∈l.foldl ins []↔w∈l:=⟨fun h=>(Rt l [] w h).resolve_left (by simp),fun h=>Rv l [] w (.inr h)⟩
def KO {ae:α1}{n:Nat}{cN:α1}{E:Nat->α1}{w:α2}:w∈allW ae n cN E ↔ ∃r,r<n/\∃v∈cN,∃e∈E (Az ae (wayW ae r++v)).toNat,w=wayW ae r++v++e:=by
 unfold allW oneW
 constructor
 ·intro h
  obtain⟨r,hr,h⟩:=zB_.mp h
  obtain⟨v,hv,h⟩:=zB_.mp h
  obtain⟨e,he,rfl⟩:=jv_.mp h
  exact⟨r,jG_.mp hr,v,hv,e,he,rfl⟩
 ·rintro⟨r,hr,v,hv,e,he,rfl⟩
  exact zB_.mpr ⟨r,jG_.mpr hr,zB_.mpr ⟨v,hv,jv_.mpr ⟨e,he,rfl⟩⟩⟩
def KQ   (hL:0<L)  : v∈Dq L m↔isW L v=true/\v.length<=m+1:=by
 constructor
 ·intro h
  obtain⟨k',dA,rfl⟩:=jv_.mp h
  have hv:=C8 hL k'
  refine⟨hv,?_⟩
  have h1:=(ES hL hv (m+1)).mpr (by
   rw[Ei]
   have:=jG_.mp dA
   show (k':Int)<many L (m+2)
   lia)
  lia
 ·rintro⟨hv,hl⟩
  have h1:=(ES hL hv (m+1)).mp s!""
  obtain⟨k',dA⟩:∃k':Nat,AJ L v=(k':Int):=⟨(AJ L v).toNat,by have:=Li hL hv;lia⟩
  refine jv_.mpr ⟨k',jG_.mpr ?_,?_⟩
  ·have:(k':Int)<many L (m+2):=by rw[<-dA];exact h1
   lia
  ·exact Qh hL (C8 hL k') hv (by rw[Ei,dA])
def LR    (cU:Can L ms vs)  (hr:r<ms.length):((r:Int),wayW vs r)∈Au vs/\isW L (wayW vs r)=true/\Az vs (wayW vs r)=(r:Int)/\(wayW vs r).length<=40:=by
 obtain⟨top,bf⟩:=Bfs.mk cU.wf
 have hord:=cU.order
 unfold rOf at hord
 have bB:((r:Int),wayW vs r)∈Au vs:=by
  have:(r:Int)∈(Au vs).map (·.1):=by rw[hord];exact jv_.mpr ⟨r,jG_.mpr hr,rfl⟩
  obtain⟨e,he,e1⟩:=jv_.mp this
  obtain⟨g,w⟩:=e
  have e1:g=(r:Int):=e1
  subst e1
  rw[MV bf.nod he]
  exact he
 have nF:=bf.wd _ bB
 obtain⟨j,hj⟩:=jI_.mp bB
 have h1:=bf.sh j _ hj
 have h2:=(jb_.mp hj).1
 have h3:=bf.len
 have h4:=cU.wf.n40
 exact⟨bB,nF.1,nF.2,by dsimp only at h1;lia⟩
def LS {α:Type}{p q:α->Bool}:∀{l:List α},(∀x∈l,p x=true->q x=true)->(∃x∈l,q x=true/\p x=false)->l.countP p<l.countP q
 |[],_,⟨x,hx,_⟩=>by cases hx
 |a::l,h,⟨x,hx,h1,h2⟩=>by
  have hm:l.countP p<=l.countP q:=List.countP_mono_left fun y hy=>h y (jk_ _ hy)
  rw[List.countP_cons,List.countP_cons]
  rcases jC_.mp hx with rfl|hx
  ·rw[h1,h2];simp;lia
  ·have:=LS (l:=l) (fun y hy=>h y (jk_ _ hy)) ⟨x,hx,h1,h2⟩
   have ha:=h a jl_
   by_cases pa:p a=true
   ·rw[pa,ha pa];simp;lia
   ·have:p a=false:=by simpa using pa
    rw[this]
    have:0<=(if q a=true then 1 else 0):=jX_ _
    simp only[jY_,q3_];lia
def N3 {α:Type}[DecidableEq α]:∀{l m:List α},l.Nodup->(∀x∈l,x∈m)->l.length<=m.length
 |[],m,_,_=>jX_ _
 |a::l,m,hn,hs=>by
  have fB:=qC_.mp hn
  have h1:=N3 (l:=l) (m:=m.erase a) fB.2 fun x hx=>by
   have:x≠a:=fun z=>fB.1 (z ▸ hx)
   exact (xg_ this).mpr (hs x (jk_ _ hx))
  have h2:=qU_ (hs a jl_)
  have h3:=qz_ (hs a jl_)
  rw[jS_];lia
def II {f:Nat->Nat}{n:Nat}(h:∀i j,i<n->j<n->f i=f j->i=j):((List.range n).map f).Nodup:=by
 rw[List.nodup_iff_pairwise_ne,xF_]
 refine (List.nodup_iff_pairwise_ne.mp zA_).imp_of_mem fun {a b} ha hb cu z=>cu (h a b (jG_.mp ha) (jG_.mp hb) z)
def BL   (hu:isW L u=true)(hv:isW L v=true):isW L (u++v)=true:=by
 rw[Av]at hu hv ⊢
 intro x hx
 rcases jA_.mp hx with hx|hx
 ·exact hu x hx
 ·exact hv x hx
section
variable {L n m:Nat} {ms mr:α2} {vs wr:α1} {ai:Nat->α2} {E:Nat->α1}
structure Asked (L n m:Nat)(ms mr:α2)(vs wr:α1)(ai:Nat->α2)(E:Nat->α1):Prop where
 hn:n=ms.length
 w1:Wf L ms vs
 w2:Wf L mr wr
 sz:mr.length<=n+m
 acW:∀r,r<n->isW L (ai r)=true/\Az vs (ai r)=(r:Int)
 ac0:ai 0=[]
 eW:∀r,r<n->∀e∈E r,isW L e=true
 e0:∀r,r<n->[]∈E r
 sep:∀r s,r<n->s<n->r≠s->∃e,e∈E r/\e∈E s/\mkR ms (Bw vs r e)≠mkR ms (Bw vs s e)
 agr:∀r,r<n->∀v,isW L v=true->v.length<=m+1->∀e∈E (Az vs (ai r++v)).toNat,mkR ms (Az vs (ai r++v++e))=mkR mr (Az wr (ai r++v++e))
def LU (ae:α1)(u v:α2):Az ae (u++v)=Bw ae (Az ae u) v:=by unfold Bw Az;rw[qx_]
def Asked.fwd (A:Asked L n m ms mr vs wr ai E)   (hr:r<n)(bC:r'<n)(hv:isW L v=true)(mL:isW L v'=true)(l:v.length<=m+1)(l':v'.length<=m+1)(e:Az wr (ai r++v)=Az wr (ai r'++v')):Az vs (ai r++v)=Az vs (ai r'++v'):=by
 refine j1_ fun aw=>?_
 have h1:=L2.Wf.walk' A.w1 (BL (A.acW r hr).1 hv)
 have h2:=L2.Wf.walk' A.w1 (BL (A.acW r' bC).1 mL)
 have hn:=A.hn
 obtain⟨x,ha,hb,hd⟩:=A.sep (Az vs (ai r++v)).toNat (Az vs (ai r'++v')).toNat s!"" s!"" s!""
 have g1:=A.agr r hr v hv l x ha
 have g2:=A.agr r' bC v' mL l' x hb
 rw[LU vs,LU wr]at g1 g2
 rw[xm_ h1.1,xm_ h2.1,g1,g2,e]at hd
 exact hd rfl
noncomputable def D9 (L n:Nat)(wr:α1)(ai:Nat->α2)(k q:Nat):Prop:=∃r,r<n/\∃v,isW L v=true/\v.length<=k/\Az wr (ai r++v)=(q:Int)
def GG (A:Asked L n m ms mr vs wr ai E){k:Nat}(h:∀q,D9 L n wr ai (k+1) q->D9 L n wr ai k q):∀j q,D9 L n wr ai (k+j) q->D9 L n wr ai k q
 |0,q,g=>g
 |j+1,q,⟨r,hr,v,hv,hl,e⟩=>by
  by_cases ar:v.length<=k+j
  ·exact GG A h j q ⟨r,hr,v,hv,ar,e⟩
  ·have aw:v ≠ []:=fun z=>by subst z;simp at ar
   have ev:=(List.dropLast_concat_getLast aw).symm
   have hvv:=Av.mp hv
   have hd:isW L v.dropLast=true:=Av.mpr fun x hx=>hvv x (List.dropLast_subset _ hx)
   have hx:=hvv _ (List.getLast_mem aw)
   have w1:=L2.Wf.walk' A.w2 (BL (A.acW r hr).1 hd)
   obtain⟨r2,eM,v2,nG,bM,e2⟩:=GG A h j (Az wr (ai r++v.dropLast)).toNat ⟨r,hr,v.dropLast,hd,by rw[List.length_dropLast];lia,by lia⟩
   refine h q ⟨r2,eM,v2++[v.getLast aw],BL nG (Av.mpr fun x eA=>by rw[jr_.mp eA];exact hx),by rw[jn_];simpa using bM,?_⟩
   rw[<-e]
   conv=>rhs;rw[ev]
   rw[<-qb_,<-qb_,BI,BI,e2,xm_ w1.1]
open Classical in
def LV (A:Asked L n m ms mr vs wr ai E):∀q,D9 L n wr ai (m+1) q->D9 L n wr ai m q:=by
 refine j1_ fun dm=>?_
 have up:∀k q,D9 L n wr ai k q->D9 L n wr ai (k+1) q:=fun k q ⟨r,hr,v,hv,hl,e⟩=>⟨r,hr,v,hv,by lia,e⟩
 have lt:∀k q,D9 L n wr ai k q->q<mr.length:=fun k q ⟨r,hr,v,hv,hl,e⟩=>by
  have:=L2.Wf.walk' A.w2 (BL (A.acW r hr).1 hv)
  lia
 have gX:∀k,k<=m+1->n+k<=(List.range mr.length).countP (fun q=>decide (D9 L n wr ai k q)):=by
  intro k
  induction k with
  |zero=>
   intro _
   rw[List.countP_eq_length_filter]
   have:=N3 (l:=(List.range n).map fun r=>(Az wr (ai r)).toNat) (m:=(List.range mr.length).filter fun q=>decide (D9 L n wr ai 0 q)) (II fun i j hi hj e=>?_) (fun x hx=>?_)
   ·rw[ja_,qc_]at this
    lia
   ·have wi:=L2.Wf.walk' A.w2 (A.acW i hi).1
    have wj:=L2.Wf.walk' A.w2 (A.acW j hj).1
    have:=A.fwd (v:=[]) (v':=[]) hi hj rfl rfl (by simp) (by simp) (by rw[qg_,qg_];lia)
    rw[qg_,qg_,(A.acW i hi).2,(A.acW j hj).2]at this
    lia
   ·obtain⟨r,hr,rfl⟩:=jv_.mp hx
    have hr:=jG_.mp hr
    have wi:=L2.Wf.walk' A.w2 (A.acW r hr).1
    refine xk_.mpr ⟨jG_.mpr s!"",j8_ ⟨r,hr,[],rfl,jg_ _,by rw[qg_];lia⟩⟩
  |succ k ih=>
   intro hk
   have h1:=ih s!""
   have hex:∃q,D9 L n wr ai (k+1) q/\¬ D9 L n wr ai k q:=by
    refine j1_ fun hh=>dm ?_
    have st:∀q,D9 L n wr ai (k+1) q->D9 L n wr ai k q:=fun q g=>j1_ fun z=>hh ⟨q,g,z⟩
    intro q g
    have e:m+1=k+(m+1-k):=by lia
    rw[e]at g
    obtain⟨r,hr,v,hv,hl,e⟩:=GG A st _ q g
    exact⟨r,hr,v,hv,by lia,e⟩
   obtain⟨q,g1,g2⟩:=hex
   have h2:=LS (l:=List.range mr.length) (p:=fun q=>decide (D9 L n wr ai k q)) (q:=fun q=>decide (D9 L n wr ai (k+1) q)) (fun x _ hx=>j8_ (up k x (ql_ hx))) ⟨q,jG_.mpr (lt _ q g1),j8_ g1,qf_ g2⟩
   lia
 have h1:=gX (m+1) (jg_ _)
 have h2:=List.countP_le_length (l:=List.range mr.length) (p:=fun q=>decide (D9 L n wr ai (m+1) q))
 rw[qc_]at h2
 have:=A.sz
 lia
def Asked.all (A:Asked L n m ms mr vs wr ai E):∀w,isW L w=true->mkR ms (Az vs w)=mkR mr (Az wr w):=by
 have hn:=A.hn
 have n1:=A.w1.n1
 have key:∀w:α2,isW L w.reverse=true->∃r,r<n/\∃v,isW L v=true/\v.length<=m/\Az wr w.reverse=Az wr (ai r++v)/\Az vs w.reverse=Az vs (ai r++v):=by
  intro w
  induction w with
  |nil=>exact fun _=>⟨0,by lia,[],rfl,jX_ _,by rw[A.ac0];rfl,by rw[A.ac0];rfl⟩
  |cons x w ih=>
   intro hw
   rw[List.reverse_cons]at hw ⊢
   have cw:isW L w.reverse=true:=Av.mpr fun y hy=>Av.mp hw y (qa_ _ hy)
   have hx:isW L [x]=true:=Av.mpr fun y hy=>Av.mp hw y (jx_ _ hy)
   obtain⟨r,hr,v,hv,hl,e1,e2⟩:=ih cw
   have p0:=BL hv hx
   have w1:=L2.Wf.walk' A.w2 (BL (A.acW r hr).1 p0)
   obtain⟨r2,eM,v2,nG,bM,e3⟩:=LV A (Az wr (ai r++(v++[x]))).toNat ⟨r,hr,v++[x],p0,by rw[jn_];simpa using hl,by lia⟩
   have e4:Az wr (ai r++(v++[x]))=Az wr (ai r2++v2):=by rw[e3];lia
   refine⟨r2,eM,v2,nG,bM,?_,?_⟩
   ·rw[<-e4,BI,e1,<-qb_,BI]
   ·rw[<-A.fwd hr eM p0 nG (by rw[jn_];simpa using hl) s!"" e4,BI,e2,<-qb_,BI]
 intro w hw
 obtain⟨r,hr,v,hv,hl,e1,e2⟩:=key w.reverse (by rw[qZ_];exact hw)
 rw[qZ_]at e1 e2
 rw[e1,e2]
 have h1:=L2.Wf.walk' A.w1 (BL (A.acW r hr).1 hv)
 have:=A.agr r hr v hv s!"" [] (A.e0 _ s!"")
 rw[qg_]at this
 exact this
end
def Q7 {kvs:List (List Key×V)}{ws:α1}(h:E2 (ws.foldl ins []) kvs){w:α2}:(valV kvs (wkey w)).isSome=decide (w∈ws):=by
 rw[h.some_iff w]
 exact decide_eq_decide.mpr IH
def SI {L:Nat}{aa:α2}{ae:α1}{m:Nat}(wf:Wf L aa ae){w:α2}(h:w∈Jg L aa ae m):w∈N1 L aa ae m:=by
 have bu:=sWf wf
 have fin:=Fin17.mk' (b:=bW (sM L aa ae) (sW L aa ae)) (L:=L) bu.n1 bu.n40
 unfold Jg at h
 unfold N1
 rw[KO]at h ⊢
 obtain⟨r,hr,v,hv,e,he,rfl⟩:=h
 refine⟨r,hr,v,hv,e,?_,rfl⟩
 unfold ownW at he
 rcases jC_.mp he with rfl|he
 ·exact jc_ fin.wc.w0
 ·exact KI he
def SJ     (hr:r<n)(hs:s<n)  (he:ws.find? (fun v=>decide (b v s≠b v r))=some e):e∈ownW n b ws r/\e∈ownW n b ws s:=by
 unfold ownW
 refine⟨jk_ _ ((HH ws _).mpr ⟨s,jG_.mpr hs,he⟩),jk_ _ ((HH ws _).mpr ⟨r,jG_.mpr hr,?_⟩)⟩
 rw[<-he]
 congr 1
 exact funext fun v=>decide_eq_decide.mpr ⟨qp_,qp_⟩
def W3    (cU:Can L ms vs)  (hr:r<ms.length)(hs:s<ms.length)(aw:r≠s):∃e,(wcOf ms.length L (bW ms vs)).1.find? (fun v=>decide (bW ms vs v s≠bW ms vs v r))=some e/\isW L e=true/\bW ms vs e s≠bW ms vs e r/\e∈(wcOf ms.length L (bW ms vs)).1:=by
 have fin:=Fin17.mk' (b:=bW ms vs) (L:=L) cU.wf.n1 cU.wf.n40
 cases hf:(wcOf ms.length L (bW ms vs)).1.find? (fun v=>decide (bW ms vs v s≠bW ms vs v r)) with
 |some e=>
  have hm:=q7_ hf
  have hd:=zN_ hf
  exact⟨e,rfl,Av.mpr (fin.wc.ok e hm),ql_ hd,hm⟩
 |none=>
  refine absurd ?_ aw
  have az:=xQ_.mp hf
  have hc:=(fin.wc.iff r s hr hs).mpr fun w hw=>by
   have:=az w hw
   exact (j1_ fun z=>this (j8_ (qp_ z)))
  have b9:cf (wcOf ms.length L (bW ms vs)).2 r=cf (wcOf ms.length L (bW ms vs)).2 s:=by
   have e1:=Lu (c:=(wcOf ms.length L (bW ms vs)).2) fin.wc.len (r:=(r:Int)) s!"" s!""
   have e2:=Lu (c:=(wcOf ms.length L (bW ms vs)).2) fin.wc.len (r:=(s:Int)) s!"" s!""
   rw[jh_]at e1 e2
   rw[e1,e2]at hc
   exact jq_ hc
  exact cU.red r s hr hs fun w hw=>Mw cU.wf fin w hw s!"" s!"" s!"" s!"" b9
def SK     (hn:n<=40)(hm:cN.length<=341)(hE:∀r<n,∀v∈cN,(E (Az ae (wayW ae r++v)).toNat).length<=40):(allW ae n cN E).length<=545600:=by
 unfold allW
 have h1:=F7 (f:=fun r=>cN.flatMap (oneW ae E r)) (c:=13640) (List.range n) (fun r hr=>by
  have h2:=F7 (f:=oneW ae E r) (c:=40) cN (fun v hv=>by unfold oneW;rw[ja_];exact hE r (jG_.mp hr) v hv)
  lia)
 rw[qc_]at h1
 have h2:n*13640<=40*13640:=Nat.mul_le_mul_right _ s!""
 lia
def SM   (h:many L (m+2)<=341):(Dq L m).length<=341:=by
 rw[ja_,qc_];lia
def Rw {L:Nat}{aa:α2}{ae:α1}{m:Nat}(wf:Wf L aa ae)(h:many L (m+2)<=341):(Jg L aa ae m).length<=545600:=by
 have bu:=sWf wf
 have cU:=sCan wf
 unfold Jg
 refine SK bu.n40 (SM h) fun r hr v hv=>?_
 have hv:=(KQ (by have:=wf.l1;lia)).mp hv
 have hw:=L2.Wf.walk' bu (BL (LR cU hr).2.1 hv.1)
 have h3:=HI (b:=bW (sM L aa ae) (sW L aa ae)) (r:=(Az (sW L aa ae) (wayW (sW L aa ae) r++v)).toNat) (wcOf (sM L aa ae).length L (bW (sM L aa ae) (sW L aa ae))).1 (List.range (sM L aa ae).length) (jG_.mpr s!"")
 rw[qc_]at h3
 unfold ownW
 rw[jS_]
 have:=bu.n40
 lia
noncomputable def JN (K:α3):Sp:=fun vs H Q _=>∃(h:Addr) (L:Int) (aa:α2) (ae:α1),vs=[.ref h]/\Bb K H h L aa ae/\Wf L aa ae/\∀p H',Same H H'->H p=none->H' p=some (.lst (((Au ae).map (·.1)).map V.int))->Q (.ref p) H'
def Hg   (F:Fun K "_law_order_of" "_law_order_of" Ca f fd)(T:Txt mg)
  : nofun 1 f fd ["house"] (JN K):=by
 delta Bc
 ·obtain⟨h,L,aa,ae,rfl,_⟩:=h;rfl
 ·obtain⟨h,L,aa,ae,rfl,hh,wf,k⟩:=h
  have hl:=As
  have cH:=wf.l1
  have bS:=wf.n1
  have aP:=wf.n40
  refine⟨_,(Ac (Ak (i:=1) Bc.nd (Bu (Aa Ad Ae)))
   (Ac (Ak (i:=2) Bc.nd Ad)
   (Ac (EK jJ_ (ptT (Ar (opD0 G0) (pvD 2) (Ao (lenD Ai) (by rfl) T.len jD_ (Aa (pvD 1) Ae)) (AE _)))
   (Ac (Ak (i:=3) Bc.nd (Ag (ixTD An) (Ag (ixTD An) (pvD 0) Ad) (Ag (ixLD AU) (pvD 1) (pvD 2))))
   (Ac (Bm jJ_ rfl (Eb (pvD 3)) (Ap (i:=4) Bc.nd rfl (Or.inl rfl))
   (Af (Bz (ptT (Ar GJ (pvD 4) (pvD 1) rfl))
   (Af (A9 (C7 jE_ jM_ jN_ AR (pvD 1) (Aa (pvD 4) Ae))))
   AH)))
   (Af (Ak (i:=2) Bc.nd (Am (opD0 AW) (pvD 2) Ad))))))
   (Af (AA (pvD 1)))))),?_⟩
  nofun
  refine⟨by lia,fun p2 aO=>?_⟩
  have s0:Same H (upd H p2 (.lst [V.int 0])):=Same.new aO
  have dE:upd H p2 (.lst [V.int 0]) p2=some (.lst ((([(0,[])]:List (Int×α2)).map (·.1)).map V.int)):=Ab
  generalize upd H p2 (.lst [V.int 0])=H0 at s0 dE ⊢
  obtain⟨Pv,aq⟩:∃Pv:Nat->St->Hp->Prop,∀m aj H2,Pv m aj H2↔(∃(ents:List (Int×α2)) (i:Nat) (top:Int) (o4 o5:Option V),m=aa.length+1-i/\Same H H2/\H2 p2=some (.lst ((ents.map (·.1)).map V.int))/\Bfs L aa.length ae ents i top/\(∀e,ents[i]?=some e->top<=AJ L e.2*L+1)/\bfs ae (aa.length+1-i) ents i=Au ae/\aj=[some (.ref h),some (.ref p2),some (.int i),o4,o5]):=⟨_,fun _ _ _=>qo_⟩
  refine Jm Pv ⟨_,(aq _ _ _).mpr ⟨[(0,[])],0,1,none,none,rfl,s0,dE,Bfs.start L bS ae,fun e he=>?_,by unfold Au;rw[wf.len];rfl,rfl⟩⟩ ?_
  ·simp at he;subst he;simp[AJ,AV]
  intro m aj H2 dZ
  obtain⟨ents,i,top,o4,o5,rfl,s2,eM,bf,jy,cJ,rfl⟩:=(aq _ _ _).mp dZ
  have hbl:=bf.len
  nofun
  refine⟨_,.inl (SqL.of eM),?_⟩
  rw[ja_,ja_]
  refine ite2 (fun ar=>?_) (fun bo=>?_)
  ·have hi:i<ents.length:=by lia
   obtain⟨e,he⟩:∃e,ents[i]?=some e:=⟨ents[i],by simp[hi]⟩
   obtain⟨r,w⟩:=e
   have aS:=jc_ he
   have bC:=bf.rng _ aS
   have htop':top<=AJ L w*L+1:=jy _ he
   obtain⟨row,hrow,eN,cR⟩:=wf.row bC.1 bC.2
   have l7:ae.getD r.toNat []=row:=by rw[jj_,hrow];rfl
   obtain⟨mm,wv,q1,q2,q3⟩:=id hh
   obtain⟨xs,t,z1,z2,z3⟩:=q3.atZ bC.1 hrow
   refine⟨Pv (aa.length+1-(i+1)),fun ag H' h=>⟨_,by lia,h⟩,?_⟩
   refine⟨_,s2.seqT q1,_,rfl,_,SqL.of eM,_,AY (v:=r) s!"" (by rw[jh_,jd_,he];rfl),_,rfl,_,_,rfl,s2.seqT z1,_,z2,_,rfl,⟨_,s2.seqT z3⟩,?_⟩
   obtain⟨Pn,cS⟩:∃Pn:Nat->St->Hp->Prop,∀x aA H3,Pn x aA H3↔(∃(av:List (Int×α2)) (o5:Option V),Same H H3/\H3 p2=some (.lst ((av.map (·.1)).map V.int))/\Bfs L aa.length ae av i (AJ L w*L+(x:Int)+1)/\Seen L ae av r w x/\av[i]?=some (r,w)/\CU w av x (row.drop x)=CU w ents 0 row/\aA=[some (.ref h),some (.ref p2),some (.int i),some (.ref t),o5]):=⟨_,fun _ _ _=>qo_⟩
   refine forT (xs:=row.map V.int) Pn ((cS _ _ _).mpr ⟨ents,o5,s2,eM,bf.up (by push_cast;lia),(fun y h0 h1=>absurd h1 (by push_cast;lia)),he,rfl,rfl⟩) (fun x aA H3 _ h3=>?_) (fun x v aA H3 hx h3=>?_) (fun aA H3 h3=>?_)
   ·obtain⟨av,_,s3,_⟩:=(cS _ _ _).mp h3
    exact s3.seqT z3
   ·obtain⟨av,o5,s3,dr,dF,g8,gE,cK,rfl⟩:=(cS _ _ _).mp h3
    obtain⟨g,hg,rfl⟩:=BQ hx
    have bH:=(jb_.mp hg).1
    have jz:=(wf.rows row eN).2 g (jc_ hg)
    have oW:g=Bv ae r (x:Int):=(BH hrow (by rw[jh_];exact hg)).symm
    have d6:=jc_ gE
    have fX:row.drop x=g::row.drop (x+1):=by
     rw[q8_ bH]
     congr 1
     exact (jb_.mp hg).2
    obtain⟨eO,g9⟩:=dF.letter s!"" g8 d6 s!"" oW jz
    have hU:=Fp (g:=g) (v:=w++[(x:Int)]) gE
    rw[fX,Fo]at cK
    nofun
    refine⟨_,.inl (SqL.of dr),rfl,HY _,?_⟩
    rw[Nz]
    by_cases hm:g∈av.map (·.1)
    ·rw[if_pos hm]at eO g9 hU cK
     rw[j8_ hm,if_neg (by simp)]
     exact (cS _ _ _).mpr ⟨av,_,s3,dr,eO,g9,hU,cK,rfl⟩
    ·rw[if_neg hm]at eO g9 hU cK
     rw[qf_ hm,if_pos (by simp)]
     refine⟨.inl ⟨rfl,_,SqL.of dr⟩,_,dr,by have:=dF.len;simp;lia,(cS _ _ _).mpr ⟨av++[(g,w++[(x:Int)])],_,s3.over aO,by rw[Ab];simp,eO,g9,hU,cK,rfl⟩⟩
   ·obtain⟨av,o5,s3,dr,dF,g8,gE,cK,rfl⟩:=(cS _ _ _).mp h3
    rw[ja_]at dF g8 cK
    rw[List.drop_length,Gg]at cK
    nofun
    obtain⟨eO,fY⟩:=dF.next s!"" cR g8 gE
    refine (aq _ _ _).mpr ⟨av,i+1,_,_,_,rfl,s3,dr,eO,fY,?_,by push_cast;rfl⟩
    rw[show aa.length+1-i=(aa.length+1-(i+1))+1 by lia,Kc he]at cJ
    rw[cK,<-l7]
    exact cJ
  ·have hi:i=ents.length:=by have:=bf.il;lia
   subst hi
   rw[Kb (by simp)]at cJ
   nofun
   rw[<-cJ]at k
   exact k p2 H2 s2 aO eM
def GV {α:Type}[DecidableEq α]{l k:List α}(h:l.Nodup)(hs:∀x∈l,x∈k):l.length<=k.length:=by
 induction l generalizing k with
 |nil=>simp
 |cons a l ih=>
  rw[qC_]at h
  have ha:=hs a jl_
  have h1:∀x∈l,x∈k.erase a:=fun x hx=>by
   refine (xg_ ?_).mpr (hs x (jk_ _ hx))
   intro z;subst z;exact h.1 hx
  have:=ih h.2 h1
  rw[qU_ ha]at this
  have hp:=qz_ ha
  rw[jS_];lia
section
variable {rs:α2} {E:Nat->Int->Int->Prop}
noncomputable def Rx (rs:α2)(E:Nat->Int->Int->Prop)(k i:Nat):Prop:=∀a,rs[i]?=some a->∀j b,j<i->rs[j]?=some b->¬ E k b a
open Classical in
noncomputable def EA (rs:α2)(E:Nat->Int->Int->Prop)(k:Nat):List Nat:=(List.range rs.length).filter fun i=>decide (Rx rs E k i)
open Classical in
def Cw {k i:Nat}:i∈EA rs E k↔i<rs.length/\Rx rs E k i:=by
 unfold EA
 rw[xk_,jG_,qs_]
def IJ (k:Nat):(EA rs E k).Nodup:=zA_.filter _
def N4 (rf:∀k a,E k a a)(sy:∀k a b,E k a b->E k b a)(tr:∀k a b c,E k a b->E k b c->E k a c)(k:Nat):∀(n i:Nat) (a:Int),i<=n->rs[i]?=some a->∃j b,rs[j]?=some b/\E k b a/\Rx rs E k j:=by
 intro n
 induction n with
 |zero=>
  intro i a hi ha
  have:i=0:=by lia
  subst this
  exact⟨0,a,ha,rf k a,fun a' _ j b hj=>absurd hj (q9_ _)⟩
 |succ n ih=>
  intro i a hi ha
  by_cases h:Rx rs E k i
  ·exact⟨i,a,ha,rf k a,h⟩
  ·unfold Rx at h
   simp only[Classical.not_forall]at h
   obtain⟨a',e',j,b,hj,hb,hE⟩:=h
   rw[ha]at e'
   cases e'
   have hE:E k b a:=Classical.not_not.mp hE
   obtain⟨j',b',h1,h2,h3⟩:=ih j b s!"" hb
   exact⟨j',b',h1,tr k _ _ _ h2 hE,h3⟩
def W4 (rf:∀k a,E k a a)(sy:∀k a b,E k a b->E k b a)(tr:∀k a b c,E k a b->E k b c->E k a c)(mo:∀k a b,E (k+1) a b->E k a b)   (ha:a∈rs)(hb:b∈rs)(h:E k a b)(hn:¬ E (k+1) a b):(EA rs E k).length+1<=(EA rs E (k+1)).length:=by
 have sub:∀i∈EA rs E k,i∈EA rs E (k+1):=fun i hi=>by
  obtain⟨h1,h2⟩:=Cw.mp hi
  exact Cw.mpr ⟨h1,fun a ha j b hj hb hE=>h2 a ha j b hj hb (mo k _ _ hE)⟩
 obtain⟨i,hi,hni⟩:∃i,i∈EA rs E (k+1)/\i∉EA rs E k:=by
  refine j1_ fun hc=>hn ?_
  have az:∀i,i∈EA rs E (k+1)->i∈EA rs E k:=fun i hi=>j1_ fun z=>hc ⟨i,hi,z⟩
  obtain⟨ia,hia⟩:=jI_.mp ha
  obtain⟨ib,hib⟩:=jI_.mp hb
  obtain⟨j1,c1,p1,p2,p3⟩:=N4 (rs:=rs) rf sy tr (k+1) ia ia a (jg_ _) hia
  obtain⟨j2,c2,r1,r2,r3⟩:=N4 (rs:=rs) rf sy tr (k+1) ib ib b (jg_ _) hib
  have g1:=(Cw.mp (az j1 (Cw.mpr ⟨(jb_.mp p1).1,p3⟩))).2
  have g2:=(Cw.mp (az j2 (Cw.mpr ⟨(jb_.mp r1).1,r3⟩))).2
  have mN:E k c1 c2:=tr k _ _ _ (mo k _ _ p2) (tr k _ _ _ h (sy k _ _ (mo k _ _ r2)))
  have ej:j1=j2:=by
   refine j1_ fun aw=>?_
   rcases Nat.lt_or_gt_of_ne aw with ar|ar
   ·exact g2 c2 r1 j1 c1 ar p1 mN
   ·exact g1 c1 p1 j2 c2 ar r1 (sy k _ _ mN)
  subst ej
  rw[p1]at r1
  cases r1
  exact tr _ _ _ _ (sy _ _ _ p2) r2
 have:=GV (l:=i::EA rs E k) (k:=EA rs E (k+1)) (by rw[qC_];exact⟨hni,IJ k⟩) fun y hy=>by
  rcases jC_.mp hy with rfl|hy
  ·exact hi
  ·exact sub y hy
 simpa using this
def W5 (rf:∀k a,E k a a)(sy:∀k a b,E k a b->E k b a)(tr:∀k a b c,E k a b->E k b c->E k a c)(mo:∀k a b,E (k+1) a b->E k a b)(st:∀k,(∀a∈rs,∀b∈rs,E k a b->E (k+1) a b)->∀a∈rs,∀b∈rs,E (k+1) a b->E (k+2) a b)(h0:0<rs.length)  (ha:a∈rs)(hb:b∈rs)(h:E rs.length a b)(j:Nat):E j a b:=by
 have key:∀k,(∃k',k'<k/\∀a∈rs,∀b∈rs,E k' a b->E (k'+1) a b)\/k+1<=(EA rs E k).length:=by
  intro k
  induction k with
  |zero=>
   right
   have:0∈EA rs E 0:=Cw.mpr ⟨h0,fun a _ j b hj=>absurd hj (q9_ _)⟩
   exact qz_ this
  |succ k ih=>
   rcases ih with ⟨k',h1,h2⟩|ih
   ·exact .inl ⟨k',by lia,h2⟩
   ·by_cases hs:∀a∈rs,∀b∈rs,E k a b->E (k+1) a b
    ·exact .inl ⟨k,by lia,hs⟩
    ·simp only[Classical.not_forall]at hs
     obtain⟨a,ha,b,hb,h1,h2⟩:=hs
     right
     have:=W4 rf sy tr mo ha hb h1 h2
     lia
 have aQ:(EA rs E rs.length).length<=rs.length:=by
  have:=GV (l:=EA rs E rs.length) (k:=List.range rs.length) (IJ _) fun i hi=>jG_.mpr (Cw.mp hi).1
  simpa using this
 rcases key rs.length with ⟨k',h1,h2⟩|h1
 ·have up:∀d,∀a∈rs,∀b∈rs,E (k'+d) a b->E (k'+d+1) a b:=by
   intro d
   induction d with
   |zero=>exact h2
   |succ d ih=>exact st _ ih
  have far:∀d,E (rs.length+d) a b:=by
   intro d
   induction d with
   |zero=>exact h
   |succ d ih=>
    have:=up (rs.length+d-k') a ha b hb (by rw[show k'+(rs.length+d-k')=rs.length+d by lia];exact ih)
    rw[show k'+(rs.length+d-k')+1=rs.length+(d+1) by lia]at this
    exact this
  have down:∀d i,E (i+d) a b->E i a b:=by
   intro d
   induction d with
   |zero=>exact fun i h=>h
   |succ d ih=>exact fun i h=>ih i (mo _ _ _ h)
  exact down rs.length j (by rw[Nat.add_comm];exact far j)
 ·lia
end
noncomputable def GH (L:Int)(aa:α2)(ae:α1)(k:Nat)(a b:Int):Prop:=∀v,isW L v=true->v.length<=k->mkW aa (Bw ae a v)=mkW aa (Bw ae b v)
def GH.succ      : GH L aa ae (k+1) a b↔GH L aa ae k a b/\∀x:Int,0<=x->x<L->GH L aa ae k (Bv ae a x) (Bv ae b x):=by
 constructor
 ·intro h
  refine⟨fun v hv hl=>h v hv s!"",fun x x0 x1 v hv hl=>?_⟩
  have:=h (x::v) (Av.mpr fun y hy=>by
   rcases jC_.mp hy with rfl|hy
   ·exact⟨x0,x1⟩
   ·exact Av.mp hv y hy) (by rw[jS_];lia)
  rw[Bn,Bn]at this
  exact this
 ·rintro⟨h1,h2⟩ v hv hl
  cases v with
  |nil=>exact h1 [] hv (by simp)
  |cons x v=>
   have hx:=Av.mp hv x jl_
   rw[Bn,Bn]
   exact h2 x hx.1 hx.2 v (Av.mpr fun y hy=>Av.mp hv y (jk_ _ hy)) (by rw[jS_]at hl;lia)
def GH.all {L:Int}{aa:α2}{ae:α1}{rs:α2}(hz:0∈rs)(cl:∀r∈rs,∀x:Int,0<=x->x<L->Bv ae r x∈rs){a b:Int}(ha:a∈rs)(hb:b∈rs)(h:GH L aa ae rs.length a b):∀v,isW L v=true->mkW aa (Bw ae a v)=mkW aa (Bw ae b v):=fun v hv=>
 W5 (rs:=rs) (E:=GH L aa ae) (fun _ _ _ _ _=>rfl) (fun _ _ _ h v hv hl=>(h v hv hl).symm) (fun _ _ _ _ h g v hv hl=>(h v hv hl).trans (g v hv hl)) (fun _ _ _ h=>(GH.succ.mp h).1) (fun k hs a ha b hb h=>by
  obtain⟨h1,h2⟩:=GH.succ.mp h
  exact GH.succ.mpr ⟨h,fun x x0 x1=>hs _ (cl a ha x x0 x1) _ (cl b hb x x0 x1) (h2 x x0 x1)⟩) (qz_ hz) ha hb h v.length v hv (jg_ _)
noncomputable def ln41 (names:α2)(ae:α1)(r:Nat):α2:=names.getD r 0::(ae.getD r []).map fun a=>names.getD a.toNat 0
noncomputable def C2 (L:Int)(aa:α2)(ae:α1)(k:Nat)(names:α2):Prop:=names.length=aa.length/\∀a b:Nat,a<aa.length->b<aa.length->(names.getD a 0=names.getD b 0↔GH L aa ae k a b)
def C2.more    (wf:Wf L aa ae)   (h:C2 L aa ae k names)(hl:dJ.length=aa.length)(he:∀a b:Nat,a<aa.length->b<aa.length->(dJ.getD a 0=dJ.getD b 0↔ln41 names ae a=ln41 names ae b)):C2 L aa ae (k+1) dJ:=by
 refine⟨hl,fun a b ha hb=>?_⟩
 rw[he a b ha hb,GH.succ]
 obtain⟨ra,nH,ra2,ra3⟩:=wf.row (r:=(a:Int)) s!"" s!""
 obtain⟨rb,nI,rb2,rb3⟩:=wf.row (r:=(b:Int)) s!"" s!""
 rw[jh_]at nH nI
 have ga:ae.getD a []=ra:=by rw[jj_,nH];rfl
 have gb:ae.getD b []=rb:=by rw[jj_,nI];rfl
 have st:∀(c:Nat) (rc:α2),ae[c]?=some rc->rc∈ae->∀x:Nat,(x:Int)<L->∃g:Nat,rc[x]?=some (g:Int)/\g<aa.length/\Bv ae c x=g:=fun c rc h1 h2 x hx=>by
  have h3:=wf.rows rc h2
  have bH:x<rc.length:=by lia
  have h4:=h3.2 rc[x] (j2_ _)
  refine⟨rc[x].toNat,by rw[jf_ bH];congr 1;lia,by lia,?_⟩
  rw[BH (row:=rc) (g:=rc[x]) (by rw[jh_];exact h1) (by rw[jh_];exact jf_ bH)]
  lia
 unfold ln41
 rw[ga,gb,xH_,h.2 a b ha hb]
 refine and_congr qo_ ?_
 constructor
 ·intro e x x0 x1
  obtain⟨xn,rfl⟩:∃xn:Nat,x=(xn:Int):=⟨x.toNat,by lia⟩
  obtain⟨g,g1,g2,g3⟩:=st a ra nH ra2 xn x1
  obtain⟨f,f1,f2,f3⟩:=st b rb nI rb2 xn x1
  rw[g3,f3,<-h.2 g f g2 f2]
  have:=jH_ (fun l:α2=>l[xn]?) e
  simp only[jd_,g1,f1,Option.map_some,jh_,zo_]at this
  exact this
 ·intro e
  refine qL_ fun xn=>?_
  by_cases hx:(xn:Int)<L
  ·obtain⟨g,g1,g2,g3⟩:=st a ra nH ra2 xn hx
   obtain⟨f,f1,f2,f3⟩:=st b rb nI rb2 xn hx
   have e1:=e (xn:Int) s!"" hx
   rw[g3,f3,<-h.2 g f g2 f2]at e1
   simp only[jd_,g1,f1,Option.map_some,jh_,zo_]
   exact e1
  ·rw[jT_ (by rw[ja_];lia),jT_ (by rw[ja_];lia)]
def C2.first    : C2 L aa ae 0 aa:=⟨rfl,fun a b ha hb=>by
 constructor
 ·intro e v hv hl
  have:v=[]:=List.length_eq_zero_iff.mp s!""
  subst this
  show aa.getD ((a:Int)).toNat 0=aa.getD ((b:Int)).toNat 0
  rw[jh_,jh_];exact e
 ·intro h
  have:=h [] (Av.mpr fun x hx=>(by cases hx)) (jX_ _)
  have:aa.getD ((a:Int)).toNat 0=aa.getD ((b:Int)).toNat 0:=this
  rw[jh_,jh_]at this
  exact this⟩
noncomputable def E8 (H:Hp)(xs:List V)(ks:α1):Prop:=xs.length=ks.length/\∀(i:Nat) (k:α2),ks[i]?=some k->∃(t l:Addr) (c:Int) (w:α2),xs[i]?=some (.ref t)/\k=c::w/\H t=some (.tup [.int c,.ref l])/\H l=some (.lst (w.map V.int))
def E8.nil  : E8 H [] []:=⟨rfl,fun i k h=>by simp at h⟩
def E8.mono    (h:E8 H xs ks)(s:Same H H'):E8 H' xs ks:=⟨h.1,fun i k hk=>let ⟨t,l,c,w,a,b,d,e⟩:=h.2 i k hk;⟨t,l,c,w,a,b,s _ _ d,s _ _ e⟩⟩
def E8.snoc {H:Hp}{xs:List V}{ks:α1}(h:E8 H xs ks){t l:Addr}{c:Int}{w:α2}(ht:H t=some (.tup [.int c,.ref l]))(hl:H l=some (.lst (w.map V.int))):E8 H (xs++[.ref t]) (ks++[c::w]):=by
 refine⟨by rw[jn_,jn_,h.1];rfl,fun i k hk=>?_⟩
 by_cases hi:i<ks.length
 ·rw[ji_ hi]at hk
  obtain⟨t',l',c',w',a,b,d,e⟩:=h.2 i k hk
  exact⟨t',l',c',w',by rw[ji_ (by rw[h.1];exact hi)];exact a,b,d,e⟩
 ·rw[jp_ s!""]at hk
  have h0:i-ks.length=0:=by
   have:=(jb_.mp hk).1
   simpa using this
  rw[h0]at hk
  have hk:c::w=k:=by simpa using hk
  subst hk
  exact⟨t,l,c,w,by rw[jp_ (by rw[h.1];lia),h.1,h0];rfl,rfl,ht,hl⟩
def E8.at {H:Hp}{xs:List V}{ks:α1}(h:E8 H xs ks){i:Nat}{x:V}(hx:xs[i]?=some x):∃(t l:Addr) (c:Int) (w:α2),ks[i]?=some (c::w)/\x=.ref t/\H t=some (.tup [.int c,.ref l])/\H l=some (.lst (w.map V.int)):=by
 have hi:i<ks.length:=by rw[<-h.1];exact (jb_.mp hx).1
 obtain⟨t,l,c,w,a,b,d,e⟩:=h.2 i ks[i] (by simp[hi])
 rw[hx]at a
 exact⟨t,l,c,w,by rw[<-b];simp[hi],jq_ a,d,e⟩
def eqP {K:α3}{H:Hp}{t l t' l':Addr}{c c':Int}{w w':α2}(ht:H t=some (.tup [.int c,.ref l]))(hl:H l=some (.lst (w.map V.int)))(dS:H t'=some (.tup [.int c',.ref l']))(eZ:H l'=some (.lst (w'.map V.int))):
  EqD K H 4 (.ref t) (.ref t') (decide (c::w=c'::w')):=by
 refine .inr ⟨t,t',_,_,rfl,rfl,.inr ⟨SqT.of ht,SqT.of dS⟩,fun i=>if i=0 then decide (c=c') else decide (w=w'),fun i x y hx hy=>?_,?_⟩
 ·match i,hx,hy with
  |0,hx,hy=>
   cases hx;cases hy
   refine .inl ⟨rfl,rfl,?_⟩
   show decide (c=c')=(c==c')
   by_cases h:c=c'<;>simp[h]
  |1,hx,hy=>
   cases hx;cases hy
   have:=EqD.ints (K:=K) (xs:=w) (ys:=w') (.inl ⟨SqL.of hl,SqL.of eZ⟩) 2
   exact this
  |i+2,hx,hy=>simp at hx
 ·rw[qB_,qs_]
  simp[xU_]
def E8.eqs {K:α3}{H:Hp}{xs:List V}{ks:α1}(h:E8 H xs ks){t l:Addr}{c:Int}{w:α2}(ht:H t=some (.tup [.int c,.ref l]))(hl:H l=some (.lst (w.map V.int))):EqsD K H 4 xs (.ref t) (fun i=>decide (ks[i]?=some (c::w))):=by
 refine⟨fun i v hv=>?_,fun i j v hi hj=>?_⟩
 ·obtain⟨t',l',c',w',a,rfl,d,e⟩:=h.at hv
  refine⟨t',rfl,?_⟩
  show EqD K H 4 (.ref t') (.ref t) (decide (ks[i]?=some (c::w)))
  rw[show (decide (ks[i]?=some (c::w)))=decide (c'::w'=c::w) by rw[a];simp]
  exact eqP d e ht hl
 ·obtain⟨t1,l1,c1,w1,a1,rfl,d1,e1⟩:=h.at hi
  obtain⟨t2,l2,c2,w2,a2,z,d2,e2⟩:=h.at hj
  cases z
  rw[d1]at d2
  cases d2
  rw[e1]at e2
  have:=jq_ e2
  injection this with this
  have:=(zR_ (fun x y z=>V.int.inj z)).mp this
  show decide (ks[i]?=some (c::w))=decide (ks[j]?=some (c::w))
  rw[a1,a2,this]
def Vi {ks:α1}{k:α2}:((List.range ks.length).any fun i=>decide (ks[i]?=some k))=decide (k∈ks):=by
 rw[qB_,x5_,qs_]
 constructor
 ·rintro⟨i,_,h⟩
  exact jc_ (ql_ h)
 ·intro h
  obtain⟨i,hi⟩:=jI_.mp h
  exact⟨i,jG_.mpr (jb_.mp hi).1,j8_ hi⟩
noncomputable def Cm (names:α2)(ae:α1):α1:=(List.range names.length).map (ln41 names ae)
noncomputable def nx31 (names:α2)(ae:α1):α2:=(Cm names ae).map fun k=>((((Cm names ae).foldl ins []).idxOf k:Nat):Int)
def C2.turn    (wf:Wf L aa ae)   (h:C2 L aa ae k names):C2 L aa ae (k+1) (nx31 names ae):=by
 have dW:∀a:Nat,a<aa.length->(Cm names ae)[a]?=some (ln41 names ae a):=fun a ha=>by
  unfold Cm
  rw[jd_,qE_ (by rw[h.1];exact ha)];rfl
 have nat:∀a:Nat,a<aa.length->(nx31 names ae).getD a 0=((((Cm names ae).foldl ins []).idxOf (ln41 names ae a):Nat):Int):=fun a ha=>by
  unfold nx31
  rw[jj_,jd_,dW a ha];rfl
 refine C2.more wf h (by unfold nx31 Cm;rw[ja_,ja_,qc_,h.1]) fun a b ha hb=>?_
 rw[nat a ha,nat b hb]
 constructor
 ·intro e
  have e:((Cm names ae).foldl ins []).idxOf (ln41 names ae a)=((Cm names ae).foldl ins []).idxOf (ln41 names ae b):=by lia
  have ma:=IH.mpr (jc_ (dW a ha))
  have mb:=IH.mpr (jc_ (dW b hb))
  have ga:=qY_ (xI_.mpr ma)
  have gb:=qY_ (xI_.mpr mb)
  rw[<-ga,<-gb]
  congr 1
 ·intro e;rw[e]
noncomputable def Ry (K:α3):Sp:=fun vs H Q _=>∃(h:Addr) (L:Int) (aa:α2) (ae:α1),vs=[.ref h]/\Bb K H h L aa ae/\Wf L aa ae/\∀(p:Addr) (names:α2) (H':Hp),Same H H'->H p=none->H' p=some (.lst (names.map V.int))->C2 L aa ae aa.length names->Q (.ref p) H'
def IK   (F:Fun K "_law_classes" "_law_classes" Cq f fd)(T:Txt mg)
  : nofun 1 f fd ["house"] (Ry K):=by
 delta A6
 ·obtain⟨h,L,aa,ae,rfl,_⟩:=h;rfl
 ·obtain⟨h,L,aa,ae,rfl,hh,wf,k⟩:=h
  have hl:=As
  have aP:=wf.n40
  have bS:=wf.n1
  have cH:=wf.l1
  have cI:=wf.l6
  refine⟨_,(Ac (Bl (i:=1) A6.nd rfl (Or.inr rfl) (AD Ed rfl T.list xn_ (Aa (Ag (ixTD An) (pvD 0) Ad) Ae)))
   (Ac (Bm jJ_ rfl (AQ rfl T.range (Aa (Ao (lenD Ai) (by rfl) T.len jD_ (Aa (Ag (ixTD An) (pvD 0) Ad) Ae)) Ae)) (Ap (i:=2) A6.nd rfl (Or.inl rfl))
   (Ac (Du (i:=3) A6.nd rfl rfl rfl (A4 rfl) (cp:=DX) ⟨⟨rfl,rfl⟩,⟨⟨rfl,rfl⟩,True.intro⟩⟩ (AQ rfl T.range (Aa (Ao (lenD Ai) (by rfl) T.len jD_ (Aa (pvD 1) Ae)) Ae)) (fun _ _ _ _=>(Ap (i:=0) Fx rfl (Or.inl rfl))) (fun _ _ _ _=>Be) (fun _ _ _ _=>(BN (Aa (Ag (ixLD (Bi (K:=K) rfl)) (pvD 1) (pvD 0)) (Aa (Ba rfl (A4 rfl) (cp:=DY) ⟨⟨rfl,rfl⟩,True.intro⟩ (QG (K:=K) rfl (Ag (ixTD (Bs (K:=K) rfl)) (Ag (ixTD (Bs (K:=K) rfl)) (pvD 2) Ad) (pvD 0))) (fun _ _ _ _=>(Ap (i:=0) Fy rfl (Or.inl rfl))) (fun _ _ _ _=>Be) (fun _ _ _ _=>(Ag (ixLD (Bi (K:=K) rfl)) (pvD 1) (pvD 0)))) Ae)))))
   (Ac (Bl (i:=4) A6.nd rfl (Or.inr rfl) (Bu Ae))
   (Ac (Bm jJ_ rfl (AX (pvD 3)) (Ap (i:=5) A6.nd rfl (Or.inl rfl))
   (Af (Bz (ptT (Ar (Rc 4 (hu45 (hu9 hr))) (pvD 5) (pvD 4) rfl))
   (Af (A9 (C7 jE_ jM_ jN_ AR (pvD 4) (Aa (pvD 5) Ae))))
   AH)))
   (Af (Bl (i:=1) A6.nd rfl (Or.inr rfl) (Ba rfl (A4 rfl) (cp:=DZ) ⟨⟨rfl,rfl⟩,True.intro⟩ (AX (pvD 3)) (fun _ _ _ _=>(Ap (i:=0) Fz rfl (Or.inl rfl))) (fun _ _ _ _=>Be) (fun _ _ _ _=>(Tj (K:=K) rfl jE_ PySem.F.slot_list_index PySem.F.type_list_index (ON (K:=K) rfl 4 (hu46 (hu9 hr))) (pvD 1) (Aa (pvD 0) Ae))))))))))
   (Af (AA (pvD 1))))),?_⟩
  obtain⟨tm,tw,q1,q2,q3⟩:=id hh
  nofun
  refine⟨_,q1,_,rfl,tm,rfl,_,.inr q2,fun pn nJ=>?_⟩
  have s0:=Same.new nJ (o:=.lst (aa.map V.int))
  refine⟨_,s0.seqT q1,_,rfl,tm,rfl,_,.inr (s0.seqT q2),?_⟩
  rw[ja_]
  refine⟨by lia,by lia,?_⟩
  rw[jh_]
  obtain⟨Pv,aq⟩:∃Pv:Nat->St->Hp->Prop,∀i ag H',Pv i ag H'↔(∃(names:α2) (pn:Addr) (o2 o3 o4 o5:Option V),Same H H'/\H pn=none/\H' pn=some (.lst (names.map V.int))/\C2 L aa ae i names/\ag=[some (.ref h),some (.ref pn),o2,o3,o4,o5]):=⟨_,fun _ _ _=>qo_⟩
  refine forR Pv ((aq _ _ _).mpr ⟨aa,pn,none,none,none,none,s0,nJ,Ab,C2.first,rfl⟩) (fun i aj H2 hi h2=>?_) (fun aj H2 h2=>?_)
  ·obtain⟨names,pn,o2,o3,o4,o5,s2,hnN,fk,nm,rfl⟩:=(aq _ _ _).mp h2
   have hnl:names.length=aa.length:=nm.1
   nofun
   refine⟨_,.inl (SqL.of fk),?_⟩
   rw[ja_]
   refine⟨by lia,by lia,?_⟩
   rw[jh_]
   have hlk:(Cm names ae).length=names.length:=by unfold Cm;rw[ja_,qc_]
   have hlat:∀r,r<names.length->(Cm names ae)[r]?=some (ln41 names ae r):=fun r hr=>by unfold Cm;rw[jd_,qE_ hr];rfl
   have fb:∀g:Int,0<=g->g<aa.length->(names.map V.int)[g.toNat]?=some (V.int (names.getD g.toNat 0)):=fun g g0 g1=>by rw[jd_,jj_,jf_ s!""];rfl
   refine J4 (fun i' xs ag H'=>Same H2 H'/\E8 H' xs ((Cm names ae).take i')/\∃o,ag=[o,some (.ref pn),some (.ref h)]) ⟨Same.refl _,E8.nil,none,rfl⟩ s!"" (fun i' xs ag H' hi' h'=>by rw[h'.2.1.1,jw_];lia) (fun i' xs ag H' hi' h'=>?_) (fun xs ag Hc h' pk p8=>?_)
   ·obtain⟨s3,gC,o,rfl⟩:=h'
    rw[zx_]
    obtain⟨row,w1,w2,w3⟩:=wf.row (r:=(i':Int)) s!"" s!""
    rw[jh_]at w1
    obtain⟨i4,iz,g1,g2,g3⟩:=hh.mono (s2.trans s3)
    obtain⟨zs,t,z1,z2,z3⟩:=g3.at w1
    have hrow:=wf.rows row w2
    nofun
    refine⟨_,SqL.of (s3 _ _ fk),_,B2 s!"" (fb _ s!"" s!""),?_⟩
    refine⟨_,g1,_,rfl,iz,rfl,_,z1,_,z2,t,rfl,⟨_,z3⟩,?_⟩
    refine EM (ag:=[some (.ref pn)]) (fun x=>match x with | .int g=>.int (names.getD g.toNat 0)|_=>.non) rfl z3 (by rw[ja_];lia) (fun x hx R hR=>?_) (fun D hD=>?_)
    ·obtain⟨g,hg,rfl⟩:=jv_.mp hx
     have bZ:=hrow.2 g hg
     nofun
     exact⟨_,SqL.of (s3 _ _ fk),_,B2 bZ.1 (fb g bZ.1 bZ.2),hR⟩
    ·refine⟨by lia,fun p hp=>?_⟩
     rw[jh_]
     have sD:=(Same.new hD (o:=.lst ((row.map V.int).map fun x=>match x with | .int g=>.int (names.getD g.toNat 0)|_=>.non))).newT hp (o:=.tup [V.int (names.getD i' 0),V.ref D])
     have e1:=Same.new hp (o:=.tup [V.int (names.getD i' 0),V.ref D]) _ _ (Ab (H:=H') (a:=D) (o:=.lst ((row.map V.int).map fun x=>match x with | .int g=>.int (names.getD g.toNat 0)|_=>.non)))
     have e2:upd (upd H' D (.lst ((row.map V.int).map fun x=>match x with | .int g=>.int (names.getD g.toNat 0)|_=>.non))) p (.tup [V.int (names.getD i' 0),V.ref D]) p=some (.tup [V.int (names.getD i' 0),V.ref D]):=Ab
     generalize upd (upd H' D (.lst ((row.map V.int).map fun x=>match x with | .int g=>.int (names.getD g.toNat 0)|_=>.non))) p (.tup [V.int (names.getD i' 0),V.ref D])=H4 at sD e1 e2 ⊢
     refine⟨s3.trans sD,?_,_,rfl⟩
     rw[jQ_,hlat i' hi',qn_]
     have e3:ln41 names ae i'=names.getD i' 0::row.map fun a=>names.getD a.toNat 0:=by
      unfold ln41
      rw[jj_ (l:=ae),w1];rfl
     rw[e3]
     refine (gC.mono sD).snoc e2 ?_
     rw[e1,jR_,jR_]
     rfl
   ·obtain⟨s3,gC,o,rfl⟩:=h'
    rw[<-hlk,jO_]at gC
    nofun
    refine⟨by lia,fun p hp=>?_⟩
    have sK:=s3.newT p8 (o:=.lst xs)
    have sp:=(Same.new p8 (o:=.lst xs)).newT hp (o:=.lst [])
    have ki:pk≠p:=qp_ (AI hp).2
    have nK:upd (upd Hc pk (.lst xs)) p (.lst []) pk=some (.lst xs):=by rw[Aj ki];exact Ab
    have ep:upd (upd Hc pk (.lst xs)) p (.lst []) p=some (.lst []):=Ab
    have pU:H2 p=none:=(s3.newT p8 (o:=.lst xs)).none hp
    have hk4:=gC.mono sp
    have s4:Same H2 (upd (upd Hc pk (.lst xs)) p (.lst [])):=s3.trans sp
    have kj:=sp
    generalize upd (upd Hc pk (.lst xs)) p (.lst [])=H4 at s4 nK ep hk4 kj ⊢
    have hpN2:H p=none:=s2.none pU
    have bH:=hk4.1
    refine⟨⟨_,SqL.of nK⟩,?_⟩
    have lD:=(AI hp).1
    obtain⟨Pw,bX⟩:∃Pv:Nat->St->Hp->Prop,∀j ag H',Pv j ag H'↔(∃(ys:List V) (o5:Option V),Cj p H4 H'/\H' p=some (.lst ys)/\E8 Hc ys (((Cm names ae).take j).foldl ins [])/\ag=[some (.ref h),some (.ref pn),some (.int (0+(i:Int))),some (.ref pk),some (.ref p),o5]):=⟨_,fun _ _ _=>qo_⟩
    refine forL (xs:=xs) Pw ((bX _ _ _).mpr ⟨[],_,fun _ _ _ e=>e,ep,E8.nil,rfl⟩) (fun j ag H' _ h'=>by obtain⟨_,_,s',_⟩:=(bX _ _ _).mp h';exact SqL.of (s' _ _ ki nK)) (fun j x ag H5 hx h'=>?_) (fun ag H5 h'=>?_)
    ·obtain⟨ys,o5,s5,cj,ji,rfl⟩:=(bX _ _ _).mp h'
     have sc:Same Hc H5:=fun b o e=>s5 b o (Aq e lD) (kj _ _ e)
     have lE:=ji.mono sc
     obtain⟨t,l,c,w0,cc,rfl,ht,ed⟩:=gC.at hx
     have p9:H5 t=some (.tup [.int c,.ref l]):=s5 _ _ (Aq ht lD) (kj _ _ ht)
     have qa:H5 l=some (.lst (w0.map V.int)):=s5 _ _ (Aq ed lD) (kj _ _ ed)
     have gV:=lE.1
     have dR:=CI ((Cm names ae).take j) []
     rw[jw_,qm_]at dR
     nofun
     refine⟨ys,SqL.of cj,_,lE.eqs p9 qa,?_⟩
     rw[gV,Vi]
     have mR:((Cm names ae).take (j+1)).foldl ins []=ins (((Cm names ae).take j).foldl ins []) (c::w0):=by rw[jQ_,cc,qn_,qx_];rfl
     refine ite2 (fun hy=>?_) (fun hn=>?_)
     ·have hy:¬ (c::w0∈((Cm names ae).take j).foldl ins []):=by simpa using hy
      refine⟨.inl ⟨rfl,_,SqL.of cj⟩,ys,cj,by lia,(bX _ _ _).mpr ⟨_,_,fun b o hb e=>by rw[Aj hb];exact s5 b o hb e,Ab,?_,rfl⟩⟩
      rw[mR,show ins (((Cm names ae).take j).foldl ins []) (c::w0)=((Cm names ae).take j).foldl ins []++[c::w0] from if_neg hy]
      exact ji.snoc ht ed
     ·have hn:c::w0∈((Cm names ae).take j).foldl ins []:=by simpa using hn
      refine (bX _ _ _).mpr ⟨ys,_,s5,cj,?_,rfl⟩
      rw[mR,show ins (((Cm names ae).take j).foldl ins []) (c::w0)=((Cm names ae).take j).foldl ins [] from if_pos hn]
      exact ji
    ·obtain⟨ys,o5,s5,cj,ji,rfl⟩:=(bX _ _ _).mp h'
     have sc:Same Hc H5:=fun b o e=>s5 b o (Aq e lD) (kj _ _ e)
     have lE:=ji.mono sc
     rw[bH,jO_]at lE
     have dR:=CI (Cm names ae) []
     rw[qm_]at dR
     have gV:=lE.1
     have epk5:=s5 _ _ ki nK
     nofun
     refine⟨⟨_,SqL.of epk5⟩,?_⟩
     refine IW (xs:=xs) (fun i' us ag H'=>H'=H5/\us=(((Cm names ae).take i').map fun k=>(((((Cm names ae).foldl ins []).idxOf k:Nat):Int))).map V.int/\∃o,ag=[o,some (.ref p)]) ⟨rfl,rfl,none,rfl⟩ s!"" (fun i' us ag H' hi' h'=>by obtain⟨rfl,rfl,_⟩:=h';exact⟨SqL.of epk5,by rw[ja_,ja_,jw_];lia⟩) (fun i' x us ag H' hx h'=>?_) (fun us ag H' h' D hD=>?_)
     ·obtain⟨rfl,rfl,o,rfl⟩:=h'
      obtain⟨t,l,c,w0,cc,rfl,ht,ed⟩:=gC.at hx
      have p9:H' t=some (.tup [.int c,.ref l]):=s5 _ _ (Aq ht lD) (kj _ _ ht)
      have qa:H' l=some (.lst (w0.map V.int)):=s5 _ _ (Aq ed lD) (kj _ _ ed)
      have aS:=IH.mpr (jc_ cc)
      have iA:=xI_.mpr aS
      nofun
      refine⟨.inl ⟨rfl,_,SqL.of cj⟩,ys,cj,_,lE.eqs p9 qa,((Cm names ae).foldl ins []).idxOf (c::w0),by lia,?_,fun j hj=>?_,by lia,?_,_,rfl⟩
      ·exact j8_ (by rw[jf_ iA,qY_])
      ·refine qf_ fun z=>?_
       have:=NF z
       lia
      ·rw[jQ_,cc,qn_,jV_,jV_]
       rfl
     ·obtain⟨rfl,rfl,o,rfl⟩:=h'
      rw[bH,jO_]
      have sH:Same H H':=fun b o e=>s5 b o (Aq e hpN2) (s4 _ _ (s2 _ _ e))
      exact (aq _ _ _).mpr ⟨nx31 names ae,D,_,_,_,_,sH.newT hD,sH.none hD,Ab,nm.turn wf,rfl⟩
  ·obtain⟨names,pn,o2,o3,o4,o5,s2,hnN,fk,nm,rfl⟩:=(aq _ _ _).mp h2
   nofun
   exact k pn names _ s2 hnN fk nm
def Rz {c c':α2}:∀(R ai:α2),(∀r s,(r∈ai\/r∈R)->(s∈ai\/s∈R)->(cf c r=cf c s↔cf c' r=cf c' s))->R.foldl (BA c) ai=R.foldl (BA c') ai
 |[],ai,_=>rfl
 |q::R,ai,h=>by
  have e:BA c ai q=BA c' ai q:=by
   unfold BA
   have:cf c q∈ai.map (cf c)↔cf c' q∈ai.map (cf c'):=by
    rw[jv_,jv_]
    constructor
    ·rintro⟨a,ha,e⟩;exact⟨a,ha,(h a q (.inl ha) (.inr jl_)).mp e⟩
    ·rintro⟨a,ha,e⟩;exact⟨a,ha,(h a q (.inl ha) (.inr jl_)).mpr e⟩
   by_cases hq:cf c q∈ai.map (cf c)
   ·rw[if_pos hq,if_pos (this.mp hq)]
   ·rw[if_neg hq,if_neg (fun z=>hq (this.mpr z))]
  rw[qX_,qX_,e]
  have sub:∀r,r∈BA c' ai q->r∈ai\/r∈q::R:=fun r hr=>by
   unfold BA at hr
   split at hr
   ·exact .inl hr
   ·rcases jA_.mp hr with hr|hr
    ·exact .inl hr
    ·exact .inr (by rw[jr_.mp hr];exact jl_)
  refine Rz R _ fun r s hr hs=>h r s ?_ ?_
  ·rcases hr with hr|hr
   ·exact sub r hr
   ·exact .inr (jk_ _ hr)
  ·rcases hs with hs|hs
   ·exact sub s hs
   ·exact .inr (jk_ _ hs)
def Vj  (h:∀r s,r∈R->s∈R->(cf c r=cf c s↔cf c' r=cf c' s)):FR c R=FR c' R/\∀r∈R,hm c R r=hm c' R r:=by
 have e:FR c R=FR c' R:=Rz R [] fun r s hr hs=>h r s (hr.resolve_left (by simp)) (hs.resolve_left (by simp))
 refine⟨e,fun r hr=>?_⟩
 obtain⟨j,q,hj,e1,e2,e3⟩:=F_hm (c:=c) hr
 have hq:q∈R:=FK (jc_ e2)
 rw[e]at e2
 rw[e1,<-hm_F e2]
 exact L2.hm_congr ((h q r hq hr).mp e3)
def SN {L:Nat}{aa:α2}{ae:α1}(wf:Wf L aa ae){names:α2}(nm:C2 L aa ae aa.length names):∀r s,r∈rOf ae->s∈rOf ae->(cf names r=cf names s↔cf (cOf L aa ae) r=cf (cOf L aa ae) s):=by
 intro r s hr hs
 have r0:=Dd wf hr
 have s0:=Dd wf hs
 have h1:=nm.2 r.toNat s.toNat s!"" s!""
 rw[show ((r.toNat:Nat):Int)=r by lia,show ((s.toNat:Nat):Int)=s by lia]at h1
 show names.getD r.toNat 0=names.getD s.toNat 0↔_
 rw[h1]
 constructor
 ·intro h
  refine Jv wf (finO wf) r0.1 r0.2 s0.1 s0.2 fun w hw=>?_
  have aQ:=QU wf
  exact GH.all (rs:=rOf ae) (Ik wf) (fun q hq x x0 x1=>Gn wf hq x0 x1) hr hs (fun v hv hl=>h v hv s!"") w hw
 ·intro h v hv _
  exact Mw wf (finO wf) v hv r0.1 r0.2 s0.1 s0.2 h
def Vk {L:Nat}{aa:α2}{ae:α1}(wf:Wf L aa ae){names:α2}(nm:C2 L aa ae aa.length names):FR names (rOf ae)=sF L aa ae/\(sF L aa ae).map (hrow names (rOf ae) ae)=sW L aa ae:=by
 obtain⟨e1,e2⟩:=Vj (SN wf nm)
 refine⟨e1,?_⟩
 unfold sW
 refine qj_ fun r hr=>?_
 unfold hrow
 refine qj_ fun g hg=>e2 g ?_
 have bC:r∈rOf ae:=FK hr
 have r0:=Dd wf bC
 obtain⟨row,w1,w2,w3⟩:=wf.row r0.1 r0.2
 rw[jj_,w1]at hg
 obtain⟨x,hx,rfl⟩:=jU_ (show g∈row from hg)
 have:=Gn wf bC (x:=(x:Int)) s!"" s!""
 rw[BH w1 (g:=row[x]) (by rw[jh_];exact jf_ hx)]at this
 exact this
def LW:∀{ws:α2} {m:Nat} {w:Int},ws[m]?=some w->ws.idxOf w<=m
 |[],m,w,h=>by simp at h
 |v::ws,m,w,h=>by
  rw[zK_]
  cases m with
  |zero=>
   have:v=w:=by simpa using h
   simp[this]
  |succ m=>
   have:=LW (ws:=ws) (m:=m) (w:=w) (by simpa using h)
   cases e:(v==w) with
   |true=>exact jX_ _
   |false=>exact Nat.succ_le_succ this
noncomputable def N5 (K:α3):Sp:=fun vs H Q _=>∃(h:Addr) (L:Nat) (aa:α2) (ae:α1),vs=[.ref h]/\Bb K H h L aa ae/\Wf L aa ae/\∀(p:Addr) (H':Hp),Same H H'->Bb K H' p L (sM L aa ae) (sW L aa ae)->Q (.ref p) H'
def LX   (F:Fun K "_law_base" "_law_base" DH f fd)(T:Txt mg)
   (kl:⋯ 1 "_law_order_of" Ca ["house"] (JN K) EB D3)
   (km:⋯ 1 "_law_classes" Cq ["house"] (Ry K) Fh EC)
  : nofun 2 f fd ["house"] (N5 K):=by
 delta BF
 ·obtain⟨h,L,aa,ae,rfl,_⟩:=h;rfl
 ·obtain⟨h,L,aa,ae,rfl,hh,wf,k⟩:=h
  have hl:=As
  have aP:=wf.n40
  have bS:=wf.n1
  have cH:=wf.l1
  have cI:=wf.l6
  refine⟨_,(Ac (Bl (i:=1) BF.nd rfl (Or.inr rfl) (Ah km hr.d AL (Aa (pvD 0) Ae)))
   (Ac (Ak (i:=2) BF.nd (Ah kl hr.d AL (Aa (pvD 0) Ae)))
   (Ac (Ak (i:=3) BF.nd (Bu Ae))
   (Ac (Bm jJ_ rfl (AX (pvD 2)) (Ap (i:=4) BF.nd rfl (Or.inl rfl))
   (Af (Bz (ptT (Ar GJ (Ag (ixLD AU) (pvD 1) (pvD 4)) (Ba rfl (A4 rfl) (cp:=FY) ⟨⟨rfl,rfl⟩,True.intro⟩ (AX (pvD 3)) (fun _ _ _ _=>(Ap (i:=0) G9 rfl (Or.inl rfl))) (fun _ _ _ _=>Be) (fun _ _ _ _=>(Ag (ixLD (Bi (K:=K) rfl)) (pvD 1) (pvD 0)))) rfl))
   (Af (A9 (C7 jE_ jM_ jN_ AR (pvD 3) (Aa (pvD 4) Ae))))
   AH)))
   (Ac (Bl (i:=5) BF.nd rfl (Or.inr rfl) (Ba rfl (A4 rfl) (cp:=FZ) ⟨⟨rfl,rfl⟩,True.intro⟩ (AX (pvD 3)) (fun _ _ _ _=>(Ap (i:=0) Ha rfl (Or.inl rfl))) (fun _ _ _ _=>Be) (fun _ _ _ _=>(Ag (ixLD (Bi (K:=K) rfl)) (pvD 1) (pvD 0)))))
   (Ac (Du (i:=6) BF.nd rfl rfl rfl (A4 rfl) (cp:=F0) ⟨⟨rfl,rfl⟩,⟨⟨rfl,rfl⟩,⟨⟨rfl,rfl⟩,True.intro⟩⟩⟩ (AX (pvD 3)) (fun _ _ _ _=>(Ap (i:=0) Hb rfl (Or.inl rfl))) (fun _ _ _ _=>Be) (fun _ _ _ _=>(AD (DB (K:=K) rfl) rfl T.tuple jB_ (Aa (Ba rfl (A4 rfl) (cp:=F1) ⟨⟨rfl,rfl⟩,⟨⟨rfl,rfl⟩,True.intro⟩⟩ (QG (K:=K) rfl (Ag (ixTD (Bs (K:=K) rfl)) (Ag (ixTD (Bs (K:=K) rfl)) (pvD 3) Ad) (pvD 0))) (fun _ _ _ _=>(Ap (i:=0) Hd rfl (Or.inl rfl))) (fun _ _ _ _=>Be) (fun _ _ _ _=>(Tj (K:=K) rfl jE_ PySem.F.slot_list_index PySem.F.type_list_index QB (pvD 1) (Aa (Ag (ixLD (Bi (K:=K) rfl)) (pvD 2) (pvD 0)) Ae)))) Ae))))
   (Af (AA (BN (Aa (Ag (ixTD An) (pvD 0) Ad) (Aa (AD Ax rfl T.tuple jB_ (Aa (Ba rfl (A4 rfl) (cp:=Fe) ⟨⟨rfl,rfl⟩,True.intro⟩ (AX (pvD 3)) (fun _ _ _ _=>(Ap (i:=0) Gw rfl (Or.inl rfl))) (fun _ _ _ _=>Be) (fun _ _ _ _=>(Ag (ixTD (Bs (K:=K) rfl)) (Ag (ixTD (Bs (K:=K) rfl)) (pvD 1) Ad) (pvD 0)))) Ae)) (Aa (AD Ax rfl T.tuple jB_ (Aa (pvD 6) Ae)) Ae)))))))))))),?_⟩
  nofun
  refine⟨h,L,aa,ae,rfl,hh,wf,fun pn names H1 s1 hpnN nJ nm=>?_⟩
  refine⟨h,L,aa,ae,rfl,hh.mono s1,wf,fun po H2 s2 hpoN nL=>?_⟩
  refine⟨by lia,fun pf fZ=>?_⟩
  obtain⟨hF,hW⟩:=Vk wf nm
  have hR:((Au ae).map (·.1))=rOf ae:=rfl
  rw[hR]at nL
  have pG:=QU wf
  have lF:=fun {r:Int} (h:r∈rOf ae)=>Dd wf h
  have hRs:=fun {r x:Int} (h:r∈rOf ae) (x0:0<=x) (x1:x<L)=>Gn wf h x0 x1
  have hnl:names.length=aa.length:=nm.1
  have fb:∀g:Int,0<=g->g<aa.length->(names.map V.int)[g.toNat]?=some (V.int (cf names g)):=fun g g0 g1=>by unfold cf;rw[jd_,jj_,jf_ s!""];rfl
  unfold sM at k
  rw[<-hW,<-hF]at k
  generalize rOf ae=R at nL pG lF hRs k
  have s12:=s1.trans s2
  have s3:=s12.newT fZ (o:=.lst [])
  have jG:H pf=none:=s12.none fZ
  have hpn2:=s2 _ _ nJ
  have hpfo:pf≠po:=qp_ (Aq nL fZ)
  have kn:pf≠pn:=qp_ (Aq hpn2 fZ)
  have epf:upd H2 pf (.lst []) pf=some (.lst []):=Ab
  have qb:upd H2 pf (.lst []) po=some (.lst (R.map V.int)):=by rw[Aj (qp_ hpfo)];exact nL
  have qc:upd H2 pf (.lst []) pn=some (.lst (names.map V.int)):=by rw[Aj (qp_ kn)];exact hpn2
  generalize upd H2 pf (.lst [])=H3 at s3 epf qb qc ⊢
  refine⟨po,rfl,⟨_,SqL.of qb⟩,?_⟩
  have comp1:∀{H':Hp} {F:α2} {Q':VK} {cp:Caps} {σ:St},H' pn=some (.lst (names.map V.int))->H' pf=some (.lst (F.map V.int))->(∀r∈F,r∈R)->F.length<=40->cp.st σ=[none,some (.ref pn)]->(∀D,H' D=none->Q' (.ref D) (upd H' D (.lst ((F.map (cf names)).map V.int))))->La (Itl K pf) cp (Gb 0) Og (tOp (Sj K) (OC 1) (OC 0)) σ H' Q':=fun {H' F Q' cp σ} h1 h2 cD ak e hd=>by
   refine EO (ag:=[some (.ref pn)]) (fun x=>match x with | .int g=>.int (cf names g)|_=>.non) e (SqL.of h2) (by rw[ja_];lia) (fun x hx R' iX=>?_) (fun D hD=>?_)
   ·obtain⟨g,hg,rfl⟩:=jv_.mp hx
    have bZ:=lF (cD g hg)
    nofun
    exact⟨_,SqL.of h1,_,B2 bZ.1 (fb g bZ.1 bZ.2),iX⟩
   ·have:=hd D hD
    rw[jR_]at this ⊢
    exact this
  obtain⟨Pv,aq⟩:∃Pv:Nat->St->Hp->Prop,∀j ag H',Pv j ag H'↔(∃(o4:Option V),Cj pf H3 H'/\Same H H'/\H' pf=some (.lst ((FR names (R.take j)).map V.int))/\ag=[some (.ref h),some (.ref pn),some (.ref po),some (.ref pf),o4,none,none]):=⟨_,fun _ _ _=>qo_⟩
  refine forL (xs:=R.map V.int) Pv ((aq _ _ _).mpr ⟨none,fun _ _ _ e=>e,s3,epf,rfl⟩) (fun j ag H' _ h'=>by obtain⟨_,s',_⟩:=(aq _ _ _).mp h';exact SqL.of (s' _ _ (qp_ hpfo) qb)) (fun j x ag H' hx h'=>?_) (fun ag H' h'=>?_)
  ·obtain⟨o4,s4,nM,dt,rfl⟩:=(aq _ _ _).mp h'
   obtain⟨r,gM,rfl⟩:=BQ hx
   have nN:=jc_ gM
   have dE:=lF nN
   have qd:=NN names (R.take j)
   rw[jw_]at qd
   have gj:=s4 _ _ (qp_ kn) qc
   nofun
   refine⟨_,SqL.of gj,_,B2 dE.1 (fb r dE.1 dE.2),⟨_,SqL.of dt⟩,?_⟩
   refine comp1 gj dt (fun q hq=>xh_ (FK hq)) s!"" rfl fun D hD=>?_
   have sD:=Same.new hD (o:=.lst (((FR names (R.take j)).map (cf names)).map V.int))
   have eD:upd H' D (.lst (((FR names (R.take j)).map (cf names)).map V.int)) D=some (.lst (((FR names (R.take j)).map (cf names)).map V.int)):=Ab
   have nO:=sD _ _ dt
   generalize upd H' D (.lst (((FR names (R.take j)).map (cf names)).map V.int))=H5 at sD eD nO ⊢
   refine⟨D,rfl,_,.inl (SqL.of eD),rfl,HY _,?_⟩
   rw[Nz]
   have mR:=QR (c:=names) gM
   refine ite2 (fun hy=>?_) (fun hn=>?_)
   ·have hy:¬ (cf names r∈(FR names (R.take j)).map (cf names)):=by simpa using hy
    refine⟨.inl ⟨rfl,_,SqL.of nO⟩,_,nO,by rw[ja_];lia,(aq _ _ _).mpr ⟨_,fun b o hb e=>by rw[Aj hb];exact sD _ _ (s4 b o hb e),(nM.trans sD).over jG,?_,rfl⟩⟩
    rw[Ab,mR,show BA names (FR names (R.take j)) r=FR names (R.take j)++[r] from if_neg hy,jV_]
    rfl
   ·have hn:cf names r∈(FR names (R.take j)).map (cf names):=by simpa using hn
    refine (aq _ _ _).mpr ⟨_,fun b o hb e=>sD _ _ (s4 b o hb e),nM.trans sD,?_,rfl⟩
    rw[nO,mR,show BA names (FR names (R.take j)) r=FR names (R.take j) from if_pos hn]
  ·obtain⟨o4,s4,nM,dt,rfl⟩:=(aq _ _ _).mp h'
   rw[ja_,jO_]at dt
   have gj:=s4 _ _ (qp_ kn) qc
   have qd:=NN names R
   nofun
   refine⟨⟨_,SqL.of dt⟩,?_⟩
   refine comp1 gj dt (fun q hq=>FK hq) s!"" rfl fun pm bJ=>?_
   have cD:∀q∈FR names R,q∈R:=fun q hq=>FK hq
   have bF:∀g∈R,cf names g∈(FR names R).map (cf names)/\hm names R g=((((FR names R).map (cf names)).idxOf (cf names g):Nat):Int):=fun g hg=>by
    unfold hm
    rw[Ij]
    exact⟨AN.mpr (q6_ hg),rfl⟩
   have nQ:=nM.newT bJ (o:=.lst (((FR names R).map (cf names)).map V.int))
   have qe:=Same.new bJ (o:=.lst (((FR names R).map (cf names)).map V.int))
   have ko:upd H' pm (.lst (((FR names R).map (cf names)).map V.int)) pm=some (.lst (((FR names R).map (cf names)).map V.int)):=Ab
   generalize upd H' pm (.lst (((FR names R).map (cf names)).map V.int))=H5 at nQ qe ko ⊢
   have nR:=qe _ _ dt
   have epn5:=qe _ _ gj
   generalize FR names R=F at dt nR qd cD bF k ko
   refine⟨⟨_,SqL.of nR⟩,?_⟩
   have hFz:F.length<sizeLine:=by lia
   refine IW (xs:=F.map V.int) (fun i' zs ag H'=>Same H5 H'/\AB K H' zs ((F.take i').map (hrow names R ae))/\∃o,ag=[o,some (.ref pm),some (.ref pn),some (.ref h)]) ⟨Same.refl _,AB.nil,none,rfl⟩ (by rw[ja_];exact hFz) (fun i' zs ag H' hi' h'=>⟨SqL.of (h'.1 _ _ nR),by rw[h'.2.1.1,ja_,jw_];lia⟩) (fun i' x zs ag H6 hx h'=>?_) (fun zs ag H6 h' pw aX=>?_)
   ·obtain⟨s6,nS,o,rfl⟩:=h'
    obtain⟨r,gM,rfl⟩:=BQ hx
    have nN:=cD r (jc_ gM)
    have dE:=lF nN
    obtain⟨row,w1,w2,w3⟩:=wf.row dE.1 dE.2
    obtain⟨i4,iz,g1,g2,g3⟩:=hh.mono (nQ.trans s6)
    obtain⟨ys,t,z1,z2,z3⟩:=g3.atZ dE.1 w1
    have hrw:=wf.rows row w2
    have hgR:∀g∈row,g∈R:=fun g hg=>by
     obtain⟨x,hx,rfl⟩:=jU_ hg
     have:=hRs nN (x:=(x:Int)) s!"" s!""
     rw[BH w1 (g:=row[x]) (by rw[jh_];exact jf_ hx)]at this
     exact this
    nofun
    refine⟨_,g1,_,rfl,iz,rfl,_,z1,_,z2,t,rfl,⟨_,z3⟩,?_⟩
    refine EM (ag:=[some (.ref pm),some (.ref pn)]) (fun x=>match x with | .int g=>.int (hm names R g)|_=>.non) rfl z3 (by rw[ja_];lia) (fun x hx R' iX=>?_) (fun D hD=>?_)
    ·obtain⟨g,hg,rfl⟩:=jv_.mp hx
     have bZ:=lF (hgR g hg)
     obtain⟨hc1,b9⟩:=bF g (hgR g hg)
     have iA:=xI_.mpr hc1
     rw[ja_]at iA
     nofun
     refine⟨.inl ⟨rfl,_,SqL.of (s6 _ _ ko)⟩,_,SqL.of (s6 _ _ epn5),_,B2 bZ.1 (fb g bZ.1 bZ.2),_,s6 _ _ ko,rfl,HY _,(F.map (cf names)).idxOf (cf names g),by lia,⟨V.int (cf names g),?_,by simp[eqV]⟩,fun m z hm hz=>?_,?_⟩
     ·rw[jd_,jf_ (by rw[ja_];exact iA),qY_];rfl
     ·obtain⟨y,hy,rfl⟩:=BQ hz
      have aw:y≠cf names g:=fun z=>by
       have:=LW (by rw[hy,z])
       lia
      simp[eqV,aw]
     ·rw[<-b9];exact iX
    ·refine⟨D,rfl,_,.inl ⟨SqL.of Ab,fun l ed=>?_⟩⟩
     have sD:=(Same.new hD (o:=.lst ((row.map V.int).map fun x=>match x with | .int g=>.int (hm names R g)|_=>.non))).newT ed (o:=.tup ((row.map V.int).map fun x=>match x with | .int g=>.int (hm names R g)|_=>.non))
     refine⟨s6.trans sD,?_,_,rfl⟩
     rw[jQ_,gM,qn_,jV_]
     refine (nS.mono (TK.of sD)).snoc ?_
     rw[Ab,jR_]
     unfold hrow
     rw[jj_,w1,Option.getD_some,jR_]
     rfl
   ·obtain⟨s6,nS,o,rfl⟩:=h'
    rw[ja_,jO_]at nS
    have s7:=s6.newT aX (o:=.lst zs)
    have lG:upd H6 pw (.lst zs) pw=some (.lst zs):=Ab
    have fu:AB K (upd H6 pw (.lst zs)) zs _:=nS.mono (TK.new aX)
    generalize upd H6 pw (.lst zs)=H7 at s7 lG fu ⊢
    have sH7:=nQ.trans s7
    obtain⟨i4,iz,g1,g2,g3⟩:=hh.mono sH7
    have hf7:=s7 _ _ nR
    refine⟨_,g1,_,rfl,⟨_,SqL.of hf7⟩,?_⟩
    refine EO (ag:=[some (.ref h)]) (fun x=>match x with | .int g=>.int (mkR aa g)|_=>.non) rfl (SqL.of hf7) (by rw[ja_];exact hFz) (fun x hx R' iX=>?_) (fun D hD=>?_)
    ·obtain⟨g,hg,rfl⟩:=jv_.mp hx
     have bZ:=lF (cD g hg)
     nofun
     refine⟨_,g1,_,rfl,i4,rfl,_,g2,_,B2 bZ.1 (v:=V.int (mkR aa g)) ?_,iX⟩
     rw[jd_,Tz s!""];rfl
    ·have sD:=s7.newT hD (o:=.lst ((F.map V.int).map fun x=>match x with | .int g=>.int (mkR aa g)|_=>.non))
     have eD:upd H7 D (.lst ((F.map V.int).map fun x=>match x with | .int g=>.int (mkR aa g)|_=>.non)) D=some (.lst ((F.map (mkR aa)).map V.int)):=by rw[Ab,jR_,jR_];rfl
     have qf:=Same.new hD (o:=.lst ((F.map V.int).map fun x=>match x with | .int g=>.int (mkR aa g)|_=>.non))
     generalize upd H7 D (.lst ((F.map V.int).map fun x=>match x with | .int g=>.int (mkR aa g)|_=>.non))=H8 at sD eD qf ⊢
     refine⟨D,rfl,_,.inl ⟨SqL.of eD,fun l ed=>?_⟩⟩
     have sl:=Same.new ed (o:=.tup ((F.map (mkR aa)).map V.int))
     have el:upd H8 l (.tup ((F.map (mkR aa)).map V.int)) l=some (.tup ((F.map (mkR aa)).map V.int)):=Ab
     generalize upd H8 l (.tup ((F.map (mkR aa)).map V.int))=H9 at sl el ⊢
     have epw9:=sl _ _ (qf _ _ lG)
     refine⟨pw,rfl,_,.inl ⟨SqL.of epw9,fun l1 bw=>⟨by lia,fun p hp=>?_⟩⟩⟩
     have hz9:=fu.mono (TK.of (qf.trans sl))
     have iB:=(Same.new bw (o:=.tup zs)).newT hp (o:=.tup [V.int L,V.ref l,V.ref l1])
     have e1:=Same.new hp (o:=.tup [V.int L,V.ref l,V.ref l1]) _ _ (Ab (H:=H9) (a:=l1) (o:=.tup zs))
     have e2:upd (upd H9 l1 (.tup zs)) p (.tup [V.int L,V.ref l,V.ref l1]) p=some (.tup [V.int L,V.ref l,V.ref l1]):=Ab
     have gm:=hz9.mono (TK.of iB)
     generalize upd (upd H9 l1 (.tup zs)) p (.tup [V.int L,V.ref l,V.ref l1])=qg at iB e1 e2 gm ⊢
     refine k p qg (((nQ.trans sD).trans sl).trans iB) ⟨l,l1,SqT.of e2,SqT.of (iB _ _ el),?_⟩
     obtain⟨os,x1,x2,x3⟩:=F6 gm
     refine⟨os.map (·.1),?_,by rw[<-x2,ja_,ja_],fun i t row hi hrow=>?_⟩
     ·rw[jR_]
      rw[x1]at e1
      exact SqT.of e1
     ·rw[<-x2,jd_]at hrow
      rw[jd_]at hi
      cases ho:os[i]? with
      |none=>rw[ho]at hi;cases hi
      |some o=>
       rw[ho]at hi hrow
       cases hi;cases hrow
       exact SqT.of (x3 o (jc_ ho))
noncomputable def JO (K:α3):Sp:=fun vs H Q _=>∃(h:Addr) (L:Int) (aa:α2) (ae:α1) (num:Int),vs=[.ref h,.int num]/\Bb K H h L aa ae/\Wf L aa ae/\∀h' au aC H',Same H H'->Bb K H' h' L au aC->Wf L au aC->au.length=aa.length->Q (.ref h') H'
def IL   (F:Fun K "_law_spoiled" "_law_spoiled" Cp f fd)(T:Txt mg)
  : nofun 1 f fd ["house","number"] (JO K):=by
 delta Bp
 ·obtain⟨h,L,aa,ae,num,rfl,_⟩:=h;rfl
 ·obtain⟨h,L,aa,ae,num,rfl,hh,wf,k⟩:=h
  have hl:=As
  have cH:=wf.l1
  have cI:=wf.l6
  have bS:=wf.n1
  have aP:=wf.n40
  obtain⟨tm,tw,q1,q2,q3⟩:=id hh
  refine⟨_,(Ac (Bl (i:=2) Bp.nd rfl (Or.inr rfl) (AD Ed rfl T.list xn_ (Aa (Ag (ixTD An) (pvD 0) Ad) Ae)))
   (BC (Bl (i:=3) Bp.nd rfl (Or.inr rfl) (Ba rfl (A4 rfl) (cp:=DU) True.intro (Eb (Ag (ixTD An) (pvD 0) Ad)) (fun _ _ _ _=>(Ap (i:=0) Fu rfl (Or.inl rfl))) (fun _ _ _ _=>Be) (fun _ _ _ _=>(AD (J8 (K:=K) rfl) rfl T.list xn_ (Aa (pvD 0) Ae)))))
   (Ac (Bl (i:=4) Bp.nd rfl (Or.inr rfl) (Am (opD AM) (Am (opD BB) (pvD 1) Ad) (Ao (lenD Ai) (by rfl) T.len jD_ (Aa (pvD 2) Ae))))
   (BC (Bz (ptT (Ar (opE B1) (Am (opD AM) (pvD 1) Ad) Ad (AE _)))
   (Af (KS (Am (opD AM) (Am (opD0 AW) (Am (opD0 AW) (Ag (ixLD AU) (pvD 2) (pvD 4)) Ad) (Am (opD AM) (Am (opD BB) (pvD 1) Ad) Ad)) Ad) (KR (pvD 2) (pvD 4) set_list)))
   AH)
   (BC (Bz (ptT (Ar (opE B1) (Am (opD AM) (pvD 1) Ad) Ad (AE _)))
   (Ac (Bl (i:=5) Bp.nd rfl (Or.inr rfl) (Am (opD AM) (Am (opD BB) (pvD 1) Ad) (Ag (ixTD An) (pvD 0) Ad)))
   (Ac (Du (i:=6) Bp.nd rfl rfl rfl (A4 rfl) (cp:=DV) ⟨⟨rfl,rfl⟩,⟨⟨rfl,rfl⟩,⟨⟨rfl,rfl⟩,⟨⟨rfl,rfl⟩,True.intro⟩⟩⟩⟩ (AQ rfl T.range (Aa (Ao (lenD Ai) (by rfl) T.len jD_ (Aa (pvD 2) Ae)) Ae)) (fun _ _ _ _=>(Ap (i:=0) Fv rfl (Or.inl rfl))) (fun _ _ _ _=>(P0 (ptT (Ar (opE B1) (Ag (ixLD (Bi (K:=K) rfl)) (pvD 1) (pvD 0)) (Ag (ixLD (Bi (K:=K) rfl)) (pvD 1) (Ag (ixLD (Bi (K:=K) rfl)) (Ag (ixLD (Bi (K:=K) rfl)) (pvD 3) (pvD 4)) (pvD 2))) (AE _))))) (fun _ _ _ _=>(pvD 0)))
   (Af (KS (Ag (ixLD AU) (pvD 6) (Am (opD AM) (Am (opD BB) (pvD 1) Ad) (Ao (lenD Ai) (by rfl) T.len jD_ (Aa (pvD 6) Ae)))) (KR (Ag (ixLD AU) (pvD 3) (pvD 4)) (pvD 5) set_list)))))
   AH)
   (Af (AA (BN (Aa (Ag (ixTD An) (pvD 0) Ad) (Aa (AD Ax rfl T.tuple jB_ (Aa (pvD 2) Ae)) (Aa (AD Ax rfl T.tuple jB_ (Aa (Ba rfl (A4 rfl) (cp:=DW) True.intro (AX (pvD 3)) (fun _ _ _ _=>(Ap (i:=0) Fw rfl (Or.inl rfl))) (fun _ _ _ _=>Be) (fun _ _ _ _=>(AD (DB (K:=K) rfl) rfl T.tuple jB_ (Aa (pvD 0) Ae)))) Ae)) Ae))))))))))),?_⟩
  nofun
  refine⟨_,q1,_,rfl,?_⟩
  nofun
  refine⟨_,.inr q2,fun pm bJ=>?_⟩
  have sm:=Same.new (o:=.lst (aa.map V.int)) bJ
  have cg:upd H pm (.lst (aa.map V.int)) pm=some (.lst (aa.map V.int)):=Ab
  generalize upd H pm (.lst (aa.map V.int))=H0 at sm cg ⊢
  obtain⟨R,hR⟩:∃R:St->Hp->Prop,∀ag H',R ag H'↔(∃(pw:Addr) (xs:List V) (au:α2) (aC:α1) (room:Int) (o5 o6:Option V),Same H H'/\H0 pw=none/\H' pm=some (.lst (au.map V.int))/\H' pw=some (.lst xs)/\LLs H0 H' xs aC/\pw≠pm/\0<=room/\room<aa.length/\au.length=aa.length/\Wf L au aC/\ag=[some (.ref h),some (.int num),some (.ref pm),some (.ref pw),some (.int room),o5,o6]):=⟨_,fun _ _=>qo_⟩
  obtain⟨R1,hR1⟩:∃R:St->Hp->Prop,∀ag H',R ag H'↔(∃(pw:Addr) (xs:List V),Same H0 H'/\H0 pw=none/\H' pw=some (.lst xs)/\LLs H0 H' xs ae/\ag=[some (.ref h),some (.int num),some (.ref pm),some (.ref pw),none,none,none]):=⟨_,fun _ _=>qo_⟩
  refine⟨R1,?_,fun iJ H1 h1=>?_⟩
  ·obtain⟨i4,iz,y1,y2,y3⟩:=hh.mono sm
   obtain⟨ts,z1,z2,z3⟩:=id y3
   nofun
   refine⟨_,y1,_,rfl,?_⟩
   nofun
   refine⟨⟨_,z1⟩,?_⟩
   have ak:=wf.len
   refine UB (xs:=ts.map V.ref) (fun i ys aj H2=>Same H0 H2/\LLs H0 H2 ys (ae.take i)/\∃o,aj=[o]) ⟨Same.refl _,by rw[zT_];exact LLs.nil _ _,none,rfl⟩ (by rw[ja_];lia) (fun i ys aj H2 _ h=>⟨h.1.seqT z1,by rw[h.2.1.len,jw_];lia⟩) (fun i x ys aj H2 hx h=>?_) (fun ys aj H2 h=>?_)
   ·obtain⟨s2,dM,o,rfl⟩:=h
    have hi:i<ts.length:=by have:=(jb_.mp hx).1;rwa [ja_]at this
    have js:ts[i]?=some ts[i]:=by simp[hi]
    rw[jd_,js]at hx
    cases hx
    have bG:ae[i]?=some ae[i]:=by simp[show i<ae.length by lia]
    nofun
    refine⟨_,.inr (s2.seqT (z3 i _ _ js bG)),fun l eZ=>⟨s2.newT eZ,?_,_,rfl⟩⟩
    rw[jQ_,bG]
    exact dM.snoc (Same.none s2 eZ) eZ
   ·obtain⟨s2,dM,o,rfl⟩:=h
    rw[ja_,z2,jO_]at dM
    intro D hD
    exact (hR1 _ _).mpr ⟨D,ys,s2.newT hD,Same.none s2 hD,Ab,dM.mono (Same.new hD),rfl⟩
  obtain⟨pw,xs,s1,dh,aX,dM,rfl⟩:=(hR1 _ _).mp h1
  have kq:pw≠pm:=fun z=>by rw[z,cg]at dh;cases dh
  have hHpw:H pw=none:=Same.none sm dh
  nofun
  refine⟨(show CDiv num 3 from ⟨by lia,by lia⟩),_,.inl (SqL.of (s1 _ _ cg)),?_⟩
  rw[ja_]
  refine⟨by lia,?_⟩
  have r0:=j7_ (num / 3) (show (aa.length:Int)≠0 by lia)
  have r1:=jZ_ (num / 3) (show (0:Int)<aa.length by lia)
  generalize num / 3%(aa.length:Int)=room at r0 r1 ⊢
  refine⟨R,?_,fun aj H2 h2=>?_⟩
  ·nofun
   refine⟨by lia,ite2 (fun h3=>?_) (fun h3=>(hR _ _).mpr ⟨pw,xs,aa,ae,room,none,none,sm.trans s1,dh,s1 _ _ cg,aX,dM,kq,r0,r1,rfl,wf,rfl⟩)⟩
   have hi:room.toNat<aa.length:=by lia
   have m0:=j7_ (aa[room.toNat]+1+num / 120%1000000000) (show (1000000001:Int)≠0 by lia)
   have m1:=jZ_ (aa[room.toNat]+1+num / 120%1000000000) (show (0:Int)<1000000001 by lia)
   refine⟨_,SqL.of (s1 _ _ cg),_,AY r0 (show aa[room.toNat]?=some aa[room.toNat] by simp[hi]),_,rfl,(show CDiv num 120 from ⟨by lia,by lia⟩),by lia,by lia,_,s1 _ _ cg,room.toNat,NA r0 (by rw[ja_];exact r1),?_⟩
   generalize (aa[room.toNat]+1+num / 120%1000000000)%1000000001=mk at m0 m1 ⊢
   refine (hR _ _).mpr ⟨pw,xs,aa.set room.toNat mk,ae,room,none,none,(sm.trans s1).over bJ,dh,by rw[Ab,Nn],by rw[Aj kq];exact aX,dM.off cg,kq,r0,r1,by rw[qP_],wf.setM _ ⟨m0,by lia⟩,rfl⟩
  clear dM aX s1 h1
  obtain⟨pw,xs,au,aC,room,o5,o6,s2,dh,gA,dG,dM,aw,r0,r1,gY,gH,rfl⟩:=(hR _ _).mp h2
  refine⟨R,?_,fun aA H3 h3=>?_⟩
  ·nofun
   refine⟨by lia,ite2 (fun h3=>?_) (fun h3=>h2)⟩
   obtain⟨i4,iz,y1,y2,y3⟩:=hh.mono s2
   have l0:=j7_ (num / 120) (show L≠0 by lia)
   have l1:=jZ_ (num / 120) (show (0:Int)<L by lia)
   refine⟨(show CDiv num 120 from ⟨by lia,by lia⟩),_,y1,_,rfl,_,rfl,by lia,_,.inl (SqL.of gA),by lia,by rw[ja_];lia,?_⟩
   generalize num / 120%L=letter at l0 l1 ⊢
   rw[ja_,jh_]
   have fB:=gH.n40
   obtain⟨row,hrow,eN,cR⟩:=gH.row r0 s!""
   obtain⟨t,gG,ht,hX,gc⟩:=dM.at hrow
   have ar:letter.toNat<row.length:=by lia
   have hg:row[letter.toNat]?=some row[letter.toNat]:=by simp[ar]
   have bZ:=(gH.rows row eN).2 row[letter.toNat] (j2_ ar)
   generalize row[letter.toNat]=g0 at hg bZ
   refine J4 (fun i ys bE H4=>H4=H2/\(∃gs:α2,ys=gs.map V.int/\gs.length<=i/\(∀g∈gs,0<=g/\g<au.length)/\(g0<i->gs ≠ []))/\∃o,bE=[o,some (.ref pm),some (.int letter),some (.ref pw),some (.int room)]) ⟨rfl,⟨[],rfl,by simp,by simp,fun h=>absurd h (by push_cast;lia)⟩,none,rfl⟩ s!"" (fun i ys bE H4 _ h=>by obtain⟨_,⟨gs,rfl,h,_⟩,_⟩:=h;rw[ja_];exact h) (fun i ys bE H4 hi h=>?_) (fun ys bE H4 h=>?_)
   ·obtain⟨rfl,⟨gs,rfl,hgl,nT,qh⟩,o,rfl⟩:=h
    have ei:(0:Int)+(i:Nat)=(i:Int):=by lia
    rw[ei]
    nofun
    refine⟨_,SqL.of gA,_,Qo s!"" s!"",_,SqL.of dG,_,B2 r0 gG,?_⟩
    nofun
    refine⟨_,SqL.of ht,_,AY l0 hg,_,_,rfl,SqL.of gA,_,Qo bZ.1 bZ.2,rfl,?_⟩
    by_cases he:mkW au (i:Int)=mkW au g0
    ·rw[if_pos (jH_ V.int he)]
     refine⟨⟨gs++[(i:Int)],by simp,by simp;lia,fun g hg=>?_,fun _=>by simp⟩,_,rfl⟩
     rcases jA_.mp hg with hg|hg
     ·exact nT g hg
     ·rw[jr_.mp hg];lia
    ·rw[if_neg (fun z=>he (V.int.inj z))]
     refine⟨⟨gs,rfl,by lia,nT,fun h=>qh ?_⟩,_,rfl⟩
     have:g0≠i:=fun z=>he (by rw[z])
     push_cast at h
     lia
   ·obtain⟨rfl,⟨gs,rfl,hgl,nT,qh⟩,o,rfl⟩:=h
    intro D hD
    have hne':gs ≠ []:=qh bZ.2
    have hgp:0<gs.length:=zL_.mpr hne'
    have sD:=Same.new (o:=.lst (gs.map V.int)) hD
    have i0:=j7_ (num / 720) (show (gs.length:Int)≠0 by lia)
    have i1:=jZ_ (num / 720) (show (0:Int)<gs.length by lia)
    have eI:(num / 720%(gs.length:Int)).toNat<gs.length:=by lia
    refine⟨(show CDiv num 720 from ⟨by lia,by lia⟩),D,rfl,_,.inl (SqL.of Ab),by rw[ja_];lia,D,rfl,_,SqL.of Ab,V.int gs[(num / 720%(gs.length:Int)).toNat],by rw[ja_];exact AY i0 (by simp[eI]),_,SqL.of (sD _ _ dG),_,B2 r0 gG,t,rfl,_,sD _ _ ht,letter.toNat,NA l0 (by rw[ja_];lia),?_⟩
    have hgx:=nT _ (j2_ eI)
    generalize gs[(num / 720%(gs.length:Int)).toNat]=gx at hgx ⊢
    have gZ:pm≠t:=fun z=>by rw[<-z,cg]at hX;cases hX
    have hwt:pw≠t:=fun z=>by
     rw[<-z,dG]at ht
     have:=jH_ (fun o=>match o with|some (HO.lst l)=>l[room.toNat]? | _=>none) ht
     simp only[gG]at this
     rw[jd_]at this
     cases e:row[room.toNat]? with
     |none=>rw[e]at this;cases this
     |some v=>rw[e]at this;cases this
    rw[Nn]
    have hLs:LLs H0 (upd (upd H4 D (.lst (gs.map V.int))) t (.lst ((row.set letter.toNat gx).map V.int))) xs (aC.set room.toNat (row.set letter.toNat gx)):=by
     obtain⟨t',a1,_,_,a4⟩:=(dM.mono sD).at hrow
     rw[gG]at a1
     cases a1
     exact a4 _ _
    exact (hR _ _).mpr ⟨pw,xs,au,_,room,_,_,(s2.newT hD).over (Same.none sm hX),dh,by rw[Aj gZ];exact sD _ _ gA,by rw[Aj hwt];exact sD _ _ dG,hLs,aw,r0,r1,gY,gH.setW hrow _ hgx,rfl⟩
  obtain⟨pw,xs,au,aC,room,o5,o6,s3,dh,nE,df,dM,aw,r0,r1,gY,gH,rfl⟩:=(hR _ _).mp h3
  obtain⟨i4,iz,y1,y2,y3⟩:=hh.mono s3
  nofun
  refine⟨_,y1,_,rfl,?_⟩
  nofun
  refine⟨_,.inl ⟨SqL.of nE,fun l eZ=>⟨⟨_,SqL.of (Same.new eZ _ _ df)⟩,?_⟩⟩⟩
  have sl:=Same.new (o:=.tup (au.map V.int)) eZ
  have wl:=gH.len
  have wn:=gH.n40
  refine R7 (xs:=xs) (ws:=aC) (ag:=[]) (SqL.of (sl _ _ df)) dM.len rfl (by rw[dM.len];lia) (fun i x w H4 s4 hx hw R hR=>?_) (fun H4 D ys s4 hD hT=>?_)
  ·obtain⟨t,a1,a2,_⟩:=dM.at hw
   rw[hx]at a1
   cases a1
   nofun
   refine⟨_,.inl ⟨SqL.of (s4 _ _ (sl _ _ a2)),fun p hp=>hR p _ (Same.new hp) (SqT.of Ab)⟩⟩
  ·obtain⟨my,bT,gU⟩:=hT.rows
   rw[Ab]at bT
   cases bT
   refine⟨D,rfl,_,.inl ⟨SqL.of Ab,fun l1 bw=>⟨by lia,fun p5 cj=>?_⟩⟩⟩
   have sD:=Same.new (o:=.lst ys) hD
   refine k p5 au aC _ (((((s3.trans sl).trans s4).newT hD).newT bw).newT cj) ⟨l,l1,SqT.of Ab,?_,(gU l1 bw).mono (Same.new cj)⟩ gH gY
   exact SqT.of (Same.new cj _ _ (Same.new bw _ _ (sD _ _ (s4 _ _ Ab))))
noncomputable def N6 (K:α3):Sp:=fun vs H Q _=>∃(h a:Addr) (L r:Int) (aa:α2) (ae:α1) (ws:α2),vs=[.ref h,.int r,.ref a]/\Bb K H h L aa ae/\Wf L aa ae/\SqT K H a (ws.map V.int)/\isW L ws=true/\0<=r/\r<aa.length/\Q (.int (Bw ae r ws)) H
def LY   (F:Fun K "_law_walk" "_law_walk" DI f fd)(T:Txt mg)
  : nofun 1 f fd ["house","room","word"] (N6 K):=by
 delta Er
 ·obtain⟨h,a,L,r,aa,ae,ws,rfl,_⟩:=h;rfl
 ·obtain⟨h,a,L,r,aa,ae,ws,rfl,hh,wf,ha,hv,r0,r1,k⟩:=h
  refine⟨_,(Ac (Bm jJ_ rfl (Eb (pvD 2)) (Ap (i:=3) Er.nd rfl (Or.inl rfl))
   (Af (Ak (i:=1) Er.nd (Ag (ixTD An) (Ag (ixTD An) (Ag (ixTD An) (pvD 0) Ad) (pvD 1)) (pvD 3)))))
   (Af (AA (pvD 1)))),?_⟩
  nofun
  refine⟨⟨_,ha⟩,forT (xs:=ws.map V.int) (fun i aj H2=>H2=H/\∃o,aj=[some (.ref h),some (.int (Bw ae r (ws.take i))),some (.ref a),o]) ⟨rfl,none,by simp[Bw]⟩ (fun i aj H2 _ h=>by rw[h.1];exact ha) (fun i x aj H2 hx h=>?_) (fun aj H2 h=>?_)⟩
  ·obtain⟨rfl,o,rfl⟩:=h
   obtain⟨n,hn,rfl⟩:=BQ hx
   have bB:=Av.mp hv n (jc_ hn)
   have d0:=Hq wf (ws.take i) (Hr hv i) r0 r1
   obtain⟨row,g,r1,r2,r3,r4,r5⟩:=wf.step d0.1 d0.2 bB.1 bB.2
   obtain⟨m,wv,q1,q2,q3⟩:=id hh
   obtain⟨xs,t,z1,z2,z3⟩:=q3.atZ d0.1 r1
   nofun
   refine⟨_,q1,_,rfl,?_⟩
   nofun
   refine⟨_,z1,_,z2,?_⟩
   nofun
   refine⟨_,z3,_,AY bB.1 r2,?_⟩
   rw[Jp hn,r3]
   exact⟨rfl,_,rfl⟩
  ·obtain⟨rfl,o,rfl⟩:=h
   rw[ja_,jO_]
   nofun
   exact k
noncomputable def Ct (K:α3)(H:Hp)(xs:List V)(aB:List (α2×Int)):Prop:=xs.length=aB.length/\∀(i:Nat) (tr:α2×Int),aB[i]?=some tr->∃t wt,xs[i]?=some (.ref t)/\SqT K H t [.ref wt,.int tr.2]/\SqT K H wt (tr.1.map V.int)/\tr.1.length<=600
def Ct.mono {K:α3}    (h:Ct K H xs aB)(s:Same H H'):Ct K H' xs aB:=by
 refine⟨h.1,fun i tr a6=>?_⟩
 obtain⟨t,wt,a,b,c,d⟩:=h.2 i tr a6
 exact⟨t,wt,a,s.seqT b,s.seqT c,d⟩
def Ct.nil {K:α3}  : Ct K H [] []:=⟨rfl,fun i tr h=>by simp at h⟩
def Ct.snoc {K:α3}{H:Hp}{xs:List V}{aB:List (α2×Int)}(h:Ct K H xs aB){t wt:Addr}{w:α2}{m:Int}(h1:SqT K H t [.ref wt,.int m])(h2:SqT K H wt (w.map V.int))(h3:w.length<=600):Ct K H (xs++[.ref t]) (aB++[(w,m)]):=by
 refine⟨by rw[jn_,jn_,h.1];rfl,fun i tr hi=>?_⟩
 by_cases dR:i<aB.length
 ·rw[ji_ dR]at hi
  rw[ji_ (by rw[h.1];exact dR)]
  exact h.2 i tr hi
 ·have:=(jb_.mp hi).1
  rw[jn_,jW_]at this
  have ei:i=aB.length:=by lia
  subst ei
  rw[jp_ (jg_ _),qv_]at hi
  simp at hi
  subst hi
  refine⟨t,wt,?_,h1,h2,h3⟩
  rw[jp_ (by rw[h.1];exact jg_ _),h.1,qv_];rfl
noncomputable def Wds (K:α3)(H:Hp)(xs:List V)(ws:α1):Prop:=xs.length=ws.length/\∀(i:Nat) (w:α2),ws[i]?=some w->∃t,xs[i]?=some (.ref t)/\SqT K H t (w.map V.int)
noncomputable def DR (aa:α2)(ae:α1)(w:α2):α2×Int:=(w,Gx aa (Az ae w))
noncomputable def Ud (K:α3):Sp:=fun vs H Q E=>∃(h a:Addr) (L:Int) (aa:α2) (ae:α1) (xs:List V) (ws:α1),vs=[.ref h,.ref a]/\Bb K H h L aa ae/\Wf L aa ae/\SqL K H a xs/\Wds K H xs ws/\(∀w∈ws,w.length<=600)/\xs.length<sizeLine /\
 ((∀w∈ws,isW L w=true)->∀H2 D ys,Same H H2->H2 D=none->Ct K H2 ys (ws.map (DR aa ae))->Q (.ref D) (upd H2 D (.lst ys))) /\
 ((∃w∈ws,isW L w=false)->False)
def LZ   (F:Fun K "trials_of" "trials_of" DF f fd)(T:Txt mg)
   (fe:⋯ 5 "mark_behind" B6 ["house","word"] (MR K) DS C5)
  : nofun 6 f fd ["house","words"] (Ud K):=by
 delta LD
 ·obtain⟨h,a,L,aa,ae,xs,ws,rfl,_⟩:=h;rfl
 ·obtain⟨h,a,L,aa,ae,xs,ws,rfl,hh,wf,ha,hw,cQ,bH,k,kE⟩:=h
  have hl:=As
  refine⟨_,(Af (AA (Ba rfl (A4 rfl) (cp:=FX) ⟨⟨rfl,rfl⟩,True.intro⟩ (AX (pvD 1)) (fun _ _ _ _=>(Ap (i:=0) G8 rfl (Or.inl rfl))) (fun _ _ _ _=>Be) (fun _ _ _ _=>(BN (Aa (pvD 0) (Aa (Ah fe hr.d AL (Aa (pvD 1) (Aa (pvD 0) Ae))) Ae))))))),?_⟩
  nofun
  refine⟨⟨_,ha⟩,?_⟩
  obtain⟨Pv,aq⟩:∃Pv:Nat->List V->St->Hp->Prop,∀i ys ag H',Pv i ys ag H'↔(Same H H'/\Ct K H' ys ((ws.take i).map (DR aa ae))/\(∀w∈ws.take i,isW L w=true)/\i<=ws.length/\∃o,ag=[o,some (.ref h)]):=⟨_,fun _ _ _ _=>qo_⟩
  refine IW (xs:=xs) Pv ((aq _ _ _ _).mpr ⟨Same.refl _,by rw[zT_];exact Ct.nil,by simp,jX_ _,none,rfl⟩) s!"" (fun i ys aj H2 hi h2=>?_) (fun i x ys aj H2 hx h2=>?_) (fun ys aj H2 h2 D hD=>?_)
  ·obtain⟨s2,t2,_,dR,_⟩:=(aq _ _ _ _).mp h2
   refine⟨s2.seq ha,?_⟩
   rw[t2.1,ja_,jw_]
   lia
  ·obtain⟨s2,t2,az,dR,o,rfl⟩:=(aq _ _ _ _).mp h2
   have hi:i<ws.length:=by rw[<-hw.1];exact (jb_.mp hx).1
   have bG:ws[i]?=some ws[i]:=by simp[hi]
   obtain⟨t,e1,e2⟩:=hw.2 i _ bG
   rw[hx]at e1
   cases e1
   have hsz:=cQ _ (jc_ bG)
   have gJ:ws.take (i+1)=ws.take i++[ws[i]]:=by rw[List.take_succ,bG];rfl
   nofun
   refine⟨h,t,L,aa,ae,ws[i],rfl,hh.mono s2,wf,s2.seqT e2,hsz,fun hv H3 s3=>⟨by lia,fun p hp=>?_⟩,fun hv=>kE ⟨_,jc_ bG,hv⟩⟩
   have sp:=s3.newT (o:=.tup [V.ref t,V.int (Gx aa (Az ae ws[i]))]) hp
   refine (aq _ _ _ _).mpr ⟨s2.trans sp,?_,fun w ng=>?_,hi,_,rfl⟩
   ·rw[gJ,jV_]
    exact (t2.mono sp).snoc (SqT.of Ab) ((s2.trans sp).seqT e2) hsz
   ·rw[gJ]at ng
    rcases jA_.mp ng with z|z
    ·exact az w z
    ·rw[jr_.mp z];exact hv
  ·obtain⟨s2,t2,az,_,o,rfl⟩:=(aq _ _ _ _).mp h2
   rw[jP_ (by rw[hw.1];exact jg_ _)]at t2 az
   exact k az H2 D ys s2 hD t2
noncomputable def ED (aa:α2)(ae:α1)(tr:α2×Int):Bool:=decide (Gx aa (Az ae tr.1)≠tr.2)
noncomputable def Vl (K:α3):Sp:=fun vs H Q E=>∃(h a:Addr) (L:Int) (aa:α2) (ae:α1) (xs:List V) (aB:List (α2×Int)),vs=[.ref h,.ref a]/\Bb K H h L aa ae/\Wf L aa ae/\SqL K H a xs/\Ct K H xs aB /\
 ((∀tr∈aB,isW L tr.1=true)->∀H',Same H H'->((∀tr∈aB,ED aa ae tr=false)->Q .non H')/\∀(i:Nat) (tr:α2×Int) (x:V),(∀j,j<i->∀tr',aB[j]?=some tr'->ED aa ae tr'=false)->aB[i]?=some tr->xs[i]?=some x->ED aa ae tr=true->Q x H') /\
 ((∃tr∈aB,isW L tr.1=false)->False)
def IM   (F:Fun K "first_failed" "first_failed" BP f fd)(T:Txt mg)
   (cG:⋯ 2 "check_word" BV ["letters","word"] (HE K) C1 CF)
   (fe:⋯ 5 "mark_behind" B6 ["house","word"] (MR K) DS C5)
  : nofun 6 f fd ["house","some"] (Vl K):=by
 delta CK
 ·obtain⟨h,a,L,aa,ae,xs,aB,rfl,_⟩:=h;rfl
 ·obtain⟨h,a,L,aa,ae,xs,aB,rfl,hh,wf,ha,ht,k,kE⟩:=h
  have hl:=As
  refine⟨_,(Ac (Bm jJ_ rfl (AX (pvD 1)) (Ap (i:=2) CK.nd rfl (Or.inl rfl))
   (Af (A9 (Ah cG hr.d AL (Aa (Ag (ixTD An) (pvD 0) Ad) (Aa (Ag (ixTD An) (pvD 2) Ad) Ae))))))
   (Ac (Bm jJ_ rfl (AX (pvD 1)) (Ap (i:=2) CK.nd rfl (Or.inl rfl))
   (Af (Bz (ptT (Ar (opN RH) (Ah fe hr.d AL (Aa (pvD 0) (Aa (Ag (ixTD An) (pvD 2) Ad) Ae))) (Ag (ixTD An) (pvD 2) Ad) (AE _)))
   (Af (AA (pvD 2)))
   AH)))
   (Af (AA O3)))),?_⟩
  nofun
  refine⟨⟨_,ha⟩,?_⟩
  obtain⟨Pv,aq⟩:∃Pv:Nat->St->Hp->Prop,∀i ag H',Pv i ag H'↔(Same H H'/\(∀j,j<i->∀tr,aB[j]?=some tr->isW L tr.1=true)/\∃o,ag=[some (.ref h),some (.ref a),o]):=⟨_,fun _ _ _=>qo_⟩
  refine forL (xs:=xs) Pv ((aq _ _ _).mpr ⟨Same.refl _,fun j hj=>absurd hj (q9_ _),none,rfl⟩) (fun i aj H2 _ h2=>((aq _ _ _).mp h2).1.seq ha) (fun i x aj H2 hx h2=>?_) (fun aj H2 h2=>?_)
  ·obtain⟨s2,az,o,rfl⟩:=(aq _ _ _).mp h2
   have hi:i<aB.length:=by rw[<-ht.1];exact (jb_.mp hx).1
   have a6:aB[i]?=some aB[i]:=by simp[hi]
   obtain⟨t,wt,e1,e2,e3,e4⟩:=ht.2 i _ a6
   rw[hx]at e1
   cases e1
   obtain⟨tm,tw,q1,q2,q3⟩:=hh.mono s2
   nofun
   refine⟨_,q1,_,rfl,?_⟩
   nofun
   refine⟨_,s2.seqT e2,_,rfl,?_⟩
   refine⟨L,wt,aB[i].1,rfl,s2.seqT e3,by lia,fun hv H3 s3=>?_,fun hv=>kE ⟨_,jc_ a6,hv⟩⟩
   refine (aq _ _ _).mpr ⟨s2.trans s3,fun j hj tr cq=>?_,_,rfl⟩
   by_cases lX:j<i
   ·exact az j lX tr cq
   ·have:j=i:=by lia
    subst this
    rw[a6]at cq
    cases cq
    exact hv
  ·obtain⟨s2,az,o,rfl⟩:=(aq _ _ _).mp h2
   have hW:∀tr∈aB,isW L tr.1=true:=fun tr a6=>by
    obtain⟨j,hj,ej⟩:=jU_ a6
    exact az j (by rw[ht.1];exact hj) tr (by rw[jf_ hj,ej])
   nofun
   refine⟨⟨_,s2.seq ha⟩,?_⟩
   obtain⟨Pw,bX⟩:∃Pv:Nat->St->Hp->Prop,∀i ag H',Pv i ag H'↔(Same H H'/\(∀j,j<i->∀tr,aB[j]?=some tr->ED aa ae tr=false)/\∃o,ag=[some (.ref h),some (.ref a),o]):=⟨_,fun _ _ _=>qo_⟩
   refine forL (xs:=xs) Pw ((bX _ _ _).mpr ⟨s2,fun j hj=>absurd hj (q9_ _),_,rfl⟩) (fun i aA H3 _ h3=>((bX _ _ _).mp h3).1.seq ha) (fun i x aA H3 hx h3=>?_) (fun aA H3 h3=>?_)
   ·obtain⟨s3,dm,o,rfl⟩:=(bX _ _ _).mp h3
    have hi:i<aB.length:=by rw[<-ht.1];exact (jb_.mp hx).1
    have a6:aB[i]?=some aB[i]:=by simp[hi]
    obtain⟨t,wt,e1,e2,e3,e4⟩:=ht.2 i _ a6
    rw[hx]at e1
    cases e1
    have hv:=hW _ (jc_ a6)
    nofun
    refine⟨_,s3.seqT e2,_,rfl,?_⟩
    refine⟨h,wt,L,aa,ae,aB[i].1,rfl,hh.mono s3,wf,s3.seqT e3,e4,fun _ H4 s4=>?_,fun z=>by rw[hv]at z;cases z⟩
    have j7:=s3.trans s4
    nofun
    refine⟨_,j7.seqT e2,_,rfl,rfl,?_⟩
    by_cases he:Gx aa (Az ae aB[i].1)=aB[i].2
    ·rw[if_neg (by rw[j8_ (jH_ V.int he)];decide)]
     refine (bX _ _ _).mpr ⟨j7,fun j hj tr cq=>?_,_,rfl⟩
     by_cases lX:j<i
     ·exact dm j lX tr cq
     ·have:j=i:=by lia
      subst this
      rw[a6]at cq
      cases cq
      exact qf_ (fun z=>z he)
    ·rw[if_pos (by rw[qf_ (fun z=>he (V.int.inj z))];decide)]
     exact (k hW H4 j7).2 i _ _ dm a6 hx (j8_ he)
   ·obtain⟨s3,dm,o,rfl⟩:=(bX _ _ _).mp h3
    nofun
    refine (k hW H3 s3).1 fun tr a6=>?_
    obtain⟨j,hj,ej⟩:=jU_ a6
    exact dm j (by rw[ht.1];exact hj) tr (by rw[jf_ hj,ej])
noncomputable def L3 (K:α3):Sp:=fun vs H Q E=>∃(h a:Addr) (L:Int) (aa:α2) (ae:α1) (xs:List V) (aB:List (α2×Int)),vs=[.ref h,.ref a]/\Bb K H h L aa ae/\Wf L aa ae/\SqL K H a xs/\Ct K H xs aB /\
 ((∀tr∈aB,isW L tr.1=true)->∀H',Same H H'->Q (.bl (aB.all fun tr => !ED aa ae tr)) H')/\((∃tr∈aB,isW L tr.1=false)->False)
def RA   (F:Fun K "passes" "passes" HD f fd)(T:Txt mg)
   (ff:⋯ 6 "first_failed" BP ["house","some"] (Vl K) C6 CP)
  : nofun 7 f fd ["house","some"] (L3 K):=by
 delta Rh
 ·obtain⟨h,a,L,aa,ae,xs,aB,rfl,_⟩:=h;rfl
 ·obtain⟨h,a,L,aa,ae,xs,aB,rfl,hh,wf,ha,ht,k,kE⟩:=h
  refine⟨_,(Af (AA (Ma VF (Ah ff hr.d AL (Aa (pvD 0) (Aa (pvD 1) Ae))) O3 (AE _)))),?_⟩
  nofun
  refine⟨h,a,L,aa,ae,xs,aB,rfl,hh,wf,ha,ht,fun hW H' s=>⟨fun az=>?_,fun i tr x dm a6 hx hf=>?_⟩,kE⟩
  ·nofun
   have:=k hW H' s
   rw[show (aB.all fun tr => !ED aa ae tr)=true from qJ_.mpr fun tr a6=>by rw[az tr a6];rfl]at this
   exact this
  ·obtain⟨t,wt,e1,_⟩:=ht.2 i tr a6
   rw[hx]at e1
   cases e1
   nofun
   have:=k hW H' s
   rw[show (aB.all fun tr => !ED aa ae tr)=false from Bool.eq_false_iff.mpr fun z=>by
    have:=qJ_.mp z tr (jc_ a6)
    rw[hf]at this
    cases this]at this
   exact this
def MW {K:α3}     (e:SqT K H l zs)(h:AB K H zs ws):Rows K H l ws:=by
 obtain⟨os,x1,x2,x3⟩:=F6 h
 refine⟨os.map (·.1),?_,by rw[<-x2,ja_,ja_],fun i t row hi hrow=>?_⟩
 ·rw[jR_]
  rw[x1]at e
  exact e
 ·rw[<-x2,jd_]at hrow
  rw[jd_]at hi
  cases ho:os[i]? with
  |none=>rw[ho]at hi;cases hi
  |some o=>
   rw[ho]at hi hrow
   cases hi;cases hrow
   exact SqT.of (x3 o (jc_ ho))
noncomputable def N7 (K:α3):Sp:=fun vs H Q _=>∃(h a:Addr) (L m:Nat) (ns:α2) (aa:α2) (ae:α1),vs=[.ref h,.ref a,.int m]/\Bb K H h L aa ae/\Wf L aa ae/\aa.length<=15/\m<=3/\SqL K H a (ns.map V.int)/\∀(h':Addr) (mr:α2) (wr:α1) (H':Hp),Same H H'->Bb K H' h' L mr wr->Wf L mr wr->mr.length<=(sM L aa ae).length+m->Q (.ref h') H'
def Hh   (F:Fun K "_law_rival_by" "_law_rival_by" Cb f fd)(T:Txt mg)
   (aM:⋯ 1 "_law_cell_at" A1 ["script","k"] (GD K) By Bq)
   (aV:⋯ 1 "_law_mixed" Br ["number","k","many"] (EZ) B0 BK)
   (eY:⋯ 2 "_law_blown" Cu ["house","number","rooms"] (KL K) Ez DQ)
   (kr:⋯ 1 "_law_spoiled" Cp ["house","number"] (JO K) Fi EE)
   (ku:⋯ 1 "_law_turned_by" BR ["house","number"] (IE K) D4 Dr)
   (kz:⋯ 2 "_law_base" DH ["house"] (N5 K) IP GX)
  : nofun 3 f fd ["house","script","many"] (N7 K):=by
 delta AG
 ·obtain⟨h,a,L,m,ns,aa,ae,rfl,_⟩:=h;rfl
 ·obtain⟨h,a,L,m,ns,aa,ae,rfl,hh,wf,h15,nE,hs,k⟩:=h
  have hl:=As
  have cH:=wf.l1
  have cI:=wf.l6
  have bS:=wf.n1
  have hsl:(sM L aa ae).length<=aa.length:=by
   rw[GP]
   exact Tw wf
  have bu:=sWf wf
  have iP:=bu.n1
  refine⟨_,(Ac (Ak (i:=3) AG.nd (Ah kz hr.d AL (Aa (pvD 0) Ae)))
   (Ac (Bl (i:=4) AG.nd rfl (Or.inr rfl) (Ah aM hr.d AL (Aa (pvD 1) (Aa Ad Ae))))
   (Ac (Ak (i:=5) AG.nd (Ag (ixLD AU) (Bu (Aa Ad (Aa Ad (Aa Ad (Aa Ad (Aa Ad (Aa Ad Ae))))))) (Am (opD AM) (pvD 4) Ad)))
   (Ac (Bl (i:=4) AG.nd rfl (Or.inr rfl) (Am (opD BB) (pvD 4) Ad))
   (Sh (Ak (i:=6) AG.nd (Am (opD0 AW) (Ao (lenD Ai) (by rfl) T.len jD_ (Aa (Ag (ixTD An) (pvD 3) Ad) Ae)) (pvD 2)))
   (Ac (Bz (ptT (Ar (opE B1) (pvD 5) Ad (AE _)))
   (Ac (Bl (i:=7) AG.nd rfl (Or.inr rfl) (Am (opD0 AW) Ad (Am (opD AM) (pvD 4) (pvD 6))))
   (Ac (Du (i:=8) AG.nd rfl rfl rfl (A4 rfl) (cp:=Di) ⟨⟨rfl,rfl⟩,⟨⟨rfl,rfl⟩,True.intro⟩⟩ (AQ rfl T.range (Aa (pvD 7) Ae)) (fun _ _ _ _=>(Ap (i:=0) E3 rfl (Or.inl rfl))) (fun _ _ _ _=>Be) (fun _ _ _ _=>(Ag (ixTD (Bs (K:=K) rfl)) (Ag (ixTD (Bs (K:=K) rfl)) (pvD 1) Ad) (Ah aV hr.d AL (Aa (pvD 2) (Aa (pvD 0) (Aa (Ao (lenD (J7 (K:=K) rfl)) (by rfl) T.len jD_ (Aa (Ag (ixTD (Bs (K:=K) rfl)) (pvD 1) Ad) Ae)) Ae)))))))
   (Ac (R9 (i:=9) AG.nd rfl rfl rfl (UM rfl) (cp:=Dj) ⟨⟨rfl,rfl⟩,⟨⟨rfl,rfl⟩,⟨⟨rfl,rfl⟩,True.intro⟩⟩⟩ (AQ rfl T.range (Aa (pvD 7) Ae)) (fun _ _ _ _=>(Ap (i:=0) E4 rfl (Or.inr rfl))) (fun _ _ _ _=>Be) (fun _ _ _ _=>(Ba rfl (A4 rfl) (cp:=Dk) ⟨⟨rfl,rfl⟩,⟨⟨rfl,rfl⟩,⟨⟨rfl,rfl⟩,True.intro⟩⟩⟩ (AQ rfl T.range (Aa (Ag (ixTD (Bs (K:=K) rfl)) (pvD 3) Ad) Ae)) (fun _ _ _ _=>(Ap (i:=0) E5 rfl (Or.inl rfl))) (fun _ _ _ _=>Be) (fun _ _ _ _=>(Ah aV hr.d AL (Aa (Am (opD0 AW) (pvD 2) Ad) (Aa (Am (opD0 AW) (Am (opD FD) (pvD 3) Ad) (pvD 0)) (Aa (pvD 1) Ae))))))))
   (Af (AA (BN (Aa (Ag (ixTD An) (pvD 0) Ad) (Aa (AD Ax rfl T.tuple jB_ (Aa (pvD 8) Ae)) (Aa (AD Ax rfl T.tuple jB_ (Aa (Ba rfl (A4 rfl) (cp:=Dn) True.intro (AX (pvD 9)) (fun _ _ _ _=>(Ap (i:=0) E6 rfl (Or.inl rfl))) (fun _ _ _ _=>Be) (fun _ _ _ _=>(AD (DB (K:=K) rfl) rfl T.tuple jB_ (Aa (pvD 0) Ae)))) Ae)) Ae)))))))))
   AH)
   (Ac (Ak (i:=10) AG.nd (Ah ku hr.d AL (Aa (Ah eY hr.d AL (Aa (pvD 3) (Aa (pvD 4) (Aa (Am (opD0 CQ) (pvD 6) (Am (opD AM) (pvD 4) (Am (opD0 AW) (pvD 2) Ad))) Ae)))) (Aa (Am (opD AM) (pvD 4) Ad) Ae))))
   (BC (Bz (ptT (Ar (opN RH) (pvD 5) Ad (AE _)))
   (Af (Ak (i:=10) AG.nd (Ah kr hr.d AL (Aa (pvD 10) (Aa (Am (opD0 AW) (Am (opD FD) (Am (opD BB) (pvD 4) Ad) Ad) (pvD 5)) Ae)))))
   AH)
   (Af (AA (pvD 10))))))))))),?_⟩
  nofun
  refine⟨h,L,aa,ae,rfl,hh,wf,fun hb H1 s1 qk=>?_⟩
  generalize sM L aa ae=ms at bu iP hsl qk k
  generalize sW L aa ae=vs at bu qk
  refine⟨a,ns,5,rfl,s1.seq hs,?_⟩
  dsimp only
  generalize cell ns 5=num
  refine⟨by lia,fun p hp=>⟨num,rfl,by decide,?_⟩⟩
  have sp:=s1.newT hp (o:=.lst [V.int 0,V.int 1,V.int 2,V.int 3,V.int 2,V.int 2])
  have sp1:=Same.new hp (o:=.lst [V.int 0,V.int 1,V.int 2,V.int 3,V.int 2,V.int 2])
  have ep:upd H1 p (.lst [V.int 0,V.int 1,V.int 2,V.int 3,V.int 2,V.int 2]) p=some (.lst [V.int 0,V.int 1,V.int 2,V.int 3,V.int 2,V.int 2]):=Ab
  have kA:=qk.mono sp1
  have hh2:=hh.mono sp
  generalize upd H1 p (.lst [V.int 0,V.int 1,V.int 2,V.int 3,V.int 2,V.int 2])=H2 at sp sp1 ep kA hh2 ⊢
  obtain⟨wy,hwy⟩:∃wy:Int,atI [V.int 0,V.int 1,V.int 2,V.int 3,V.int 2,V.int 2] (num%6)=some (V.int wy):=by
   have h0:=j7_ num (show (6:Int)≠0 by decide)
   have h1:=jZ_ num (show (0:Int)<6 by decide)
   rcases (show num%6=0\/num%6=1\/num%6=2\/num%6=3\/num%6=4\/num%6=5 by lia) with e|e|e|e|e|e<;>rw[e]<;>exact⟨_,rfl⟩
  obtain⟨tb,wb,b1,b2,b3⟩:=id kA
  refine⟨_,SqL.of ep,_,hwy,num,rfl,⟨by decide,by decide⟩,hb,rfl,_,b1,_,rfl,tb,rfl,_,.inr b2,?_⟩
  rw[ja_]
  refine Sg ?_
  nofun
  refine ite2 (fun h3=>?_) (fun h3=>?_)
  ·have dE:=j7_ (num / 6) (show ((ms.length:Int)+m)≠0 by lia)
   have hr1:=jZ_ (num / 6) (show (0:Int)<(ms.length:Int)+m by lia)
   obtain⟨rn,hrn⟩:∃rn:Nat,1+num / 6%((ms.length:Int)+m)=(rn:Int):=⟨(1+num / 6%((ms.length:Int)+m)).toNat,by lia⟩
   rw[hrn]
   have hrn1:1<=rn:=by lia
   have hrnm:rn<=ms.length+m:=by lia
   obtain⟨tm,tw,q1,q2,q3⟩:=id hh2
   refine⟨by lia,by lia,by lia,?_⟩
   rw[jh_]
   obtain⟨Pc,cT⟩:∃Pc:Nat->List V->St->Hp->Prop,∀i ys ag H',Pc i ys ag H'↔(H'=H2/\(∃ks:α2,ys=ks.map V.int/\ks.length=i/\∀x∈ks,x∈aa)/\∃o,ag=[o,some (.ref h),some (.int (num / 6))]):=⟨_,fun _ _ _ _=>qo_⟩
   refine J4 Pc ((cT _ _ _ _).mpr ⟨rfl,⟨[],rfl,rfl,fun x hx=>by cases hx⟩,none,rfl⟩) s!"" (fun i ys ag H' hi h'=>by obtain⟨_,⟨ks,rfl,e,_⟩,_⟩:=(cT _ _ _ _).mp h';rw[ja_,e];exact jg_ _) (fun i ys ag H' hi h'=>?_) (fun ys ag H' h' pm bJ=>?_)
   ·obtain⟨rfl,⟨ks,rfl,gQ,mS⟩,o,rfl⟩:=(cT _ _ _ _).mp h'
    nofun
    refine⟨_,q1,_,rfl,_,q1,_,rfl,tm,rfl,_,.inr q2,?_⟩
    rw[ja_]
    refine⟨_,_,_,rfl,by lia,by lia,by lia,fun x cO bT=>?_⟩
    have bH:x.toNat<aa.length:=by lia
    refine⟨tm,rfl,_,x,rfl,q2,_,AY cO (v:=aa[x.toNat]) (jf_ bH),(cT _ _ _ _).mpr ⟨rfl,⟨ks++[aa[x.toNat]],by simp,by simp[gQ],fun y hy=>?_⟩,_,rfl⟩⟩
    rcases jA_.mp hy with hy|hy
    ·exact mS y hy
    ·rw[jr_.mp hy];exact j2_ bH
   ·obtain⟨rfl,⟨mr,rfl,gY,kP⟩,o,rfl⟩:=(cT _ _ _ _).mp h'
    have s3:=Same.new bJ (o:=.lst (mr.map V.int))
    have ko:upd H' pm (.lst (mr.map V.int)) pm=some (.lst (mr.map V.int)):=Ab
    generalize upd H' pm (.lst (mr.map V.int))=H3 at s3 ko ⊢
    refine⟨by lia,by lia,?_⟩
    refine J4 (fun i ys ag H'=>Same H3 H'/\(∃ws:α1,ND K H' ys ws/\ws.length=i/\∀row∈ws,row.length=L/\∀x∈row,0<=x/\x<(rn:Int))/\∃o,ag=[o,some (.int rn),some (.int (num / 6)),some (.ref h)]) ⟨Same.refl _,⟨[],⟨rfl,fun i w h=>by simp at h⟩,rfl,fun x hx=>by cases hx⟩,none,rfl⟩ s!"" (fun i ys ag H' hi h'=>by obtain⟨_,⟨ws,hw,e,_⟩,_⟩:=h';rw[hw.1,e];exact jg_ _) (fun i ys ag H4 hi h'=>?_) (fun ys ag H4 h' pw aX=>?_)
    ·obtain⟨s4,⟨ws,cL,cQ,ft⟩,o,rfl⟩:=h'
     rw[zx_]
     nofun
     refine⟨_,(s3.trans s4).seqT q1,_,rfl,_,rfl,by lia,by lia,?_⟩
     rw[jh_]
     obtain⟨Pd,mT⟩:∃Pc:Nat->List V->St->Hp->Prop,∀j zs ag H',Pc j zs ag H'↔(H'=H4/\(∃ks:α2,zs=ks.map V.int/\ks.length=j/\∀x∈ks,0<=x/\x<(rn:Int))/\∃o,ag=[o,some (.int rn),some (.int (num / 6)),some (.int i)]):=⟨_,fun _ _ _ _=>qo_⟩
     refine J4 Pd ((mT _ _ _ _).mpr ⟨rfl,⟨[],rfl,rfl,fun x hx=>by cases hx⟩,none,rfl⟩) s!"" (fun j zs ag H' hj h'=>by obtain⟨_,⟨ks,rfl,e,_⟩,_⟩:=(mT _ _ _ _).mp h';rw[ja_,e];exact jg_ _) (fun j zs ag H' hj h'=>?_) (fun zs ag H' h' D hD=>?_)
     ·obtain⟨rfl,⟨ks,rfl,gQ,mS⟩,o,rfl⟩:=(mT _ _ _ _).mp h'
      rw[zx_]
      nofun
      refine⟨.inl ⟨by lia,by lia⟩,_,_,_,rfl,by lia,by lia,by lia,fun x cO bT=>(mT _ _ _ _).mpr ⟨rfl,⟨ks++[x],by simp,by simp[gQ],fun y hy=>?_⟩,_,rfl⟩⟩
      rcases jA_.mp hy with hy|hy
      ·exact mS y hy
      ·rw[jr_.mp hy];exact⟨cO,bT⟩
     ·obtain⟨rfl,⟨ks,rfl,gQ,mS⟩,o,rfl⟩:=(mT _ _ _ _).mp h'
      refine⟨s4.newT hD,⟨ws++[ks],?_,by simp[cQ],fun row hr=>?_⟩,_,rfl⟩
      ·have sD:=Same.new hD (o:=.lst (ks.map V.int))
       refine⟨by rw[jn_,jn_,cL.1];rfl,fun i2 w hw=>?_⟩
       by_cases m8:i2<ws.length
       ·rw[ji_ m8]at hw
        obtain⟨t,a1,a2⟩:=cL.2 i2 w hw
        exact⟨t,by rw[ji_ (by rw[cL.1];exact m8)];exact a1,sD _ _ a2⟩
       ·rw[jp_ s!""]at hw
        have h0:i2-ws.length=0:=by
         have:=(jb_.mp hw).1
         simpa using this
        rw[h0]at hw
        have hw:ks=w:=by simpa using hw
        subst hw
        exact⟨D,by rw[jp_ (by rw[cL.1];lia),cL.1,h0];rfl,Ab⟩
      ·rcases jA_.mp hr with hr|hr
       ·exact ft row hr
       ·rw[jr_.mp hr];exact⟨gQ,mS⟩
    ·obtain⟨s4,⟨ws,cL,cQ,ft⟩,o,rfl⟩:=h'
     have s5:=s4.newT aX (o:=.lst ys)
     have lG:upd H4 pw (.lst ys) pw=some (.lst ys):=Ab
     have fo:ND K (upd H4 pw (.lst ys)) ys ws:=⟨cL.1,fun i w h=>let ⟨t,a1,a2⟩:=cL.2 i w h;⟨t,a1,Same.new aX _ _ a2⟩⟩
     generalize upd H4 pw (.lst ys)=H5 at s5 lG fo ⊢
     have s35:=s3.trans s5
     refine⟨_,s35.seqT q1,_,rfl,pm,rfl,_,.inl ⟨SqL.of (s5 _ _ ko),fun l ed=>⟨pw,rfl,⟨_,SqL.of (Same.new ed _ _ lG)⟩,?_⟩⟩⟩
     have s6:=s35.newT ed (o:=.tup (mr.map V.int))
     have ql:=Same.new ed (o:=.tup (mr.map V.int))
     have el:upd H5 l (.tup (mr.map V.int)) l=some (.tup (mr.map V.int)):=Ab
     generalize upd H5 l (.tup (mr.map V.int))=H6 at s6 ql el ⊢
     refine IW (xs:=ys) (fun i zs ag H'=>Same H6 H'/\AB K H' zs (ws.take i)/\∃o,ag=[o]) ⟨Same.refl _,AB.nil,none,rfl⟩ (by rw[fo.1];lia) (fun i zs ag H' hi h'=>⟨SqL.of (h'.1 _ _ (ql _ _ lG)),by rw[h'.2.1.1,jw_];lia⟩) (fun i x zs ag H' hx h'=>?_) (fun zs ag H7 h' D hD=>?_)
     ·obtain⟨s7,fu,o,rfl⟩:=h'
      obtain⟨t,w0,bG,rfl,ht⟩:=fo.at hx
      nofun
      refine⟨_,.inl ⟨SqL.of (s7 _ _ (ql _ _ ht)),fun l2 bM=>⟨s7.newT bM,?_,_,rfl⟩⟩⟩
      rw[jQ_,bG,qn_]
      exact (fu.mono (TK.new bM)).snoc Ab
     ·obtain⟨s7,fu,o,rfl⟩:=h'
      rw[fo.1,jO_]at fu
      have lx:AB K (upd H7 D (.lst zs)) zs ws:=fu.mono (TK.new hD)
      have s8:=(s6.trans s7).newT hD (o:=.lst zs)
      have eD:upd H7 D (.lst zs) D=some (.lst zs):=Ab
      have el8:=Same.new hD (o:=.lst zs) _ _ (s7 _ _ el)
      generalize upd H7 D (.lst zs)=H8 at lx s8 eD el8 ⊢
      refine⟨D,rfl,_,.inl ⟨SqL.of eD,fun l1 bw=>⟨by lia,fun p hp=>?_⟩⟩⟩
      have iB:=(Same.new bw (o:=.tup zs)).newT hp (o:=.tup [V.int L,V.ref l,V.ref l1])
      have e1:=Same.new hp (o:=.tup [V.int L,V.ref l,V.ref l1]) _ _ (Ab (H:=H8) (a:=l1) (o:=.tup zs))
      have e2:upd (upd H8 l1 (.tup zs)) p (.tup [V.int L,V.ref l,V.ref l1]) p=some (.tup [V.int L,V.ref l,V.ref l1]):=Ab
      have gm:=lx.mono (TK.of iB)
      generalize upd (upd H8 l1 (.tup zs)) p (.tup [V.int L,V.ref l,V.ref l1])=qg at iB e1 e2 gm ⊢
      refine k p mr ws qg (sp.trans (s8.trans iB)) ⟨l,l1,SqT.of e2,SqT.of (iB _ _ el8),MW (SqT.of e1) gm⟩ ⟨cH,cI,by lia,by lia,by lia,fun row hr=>⟨by rw[(ft row hr).1],fun x hx=>by rw[gY];exact (ft row hr).2 x hx⟩,fun m hm=>wf.mks _ (kP m hm)⟩ s!""
  ·have dE:=j7_ (num / 6) (show ((m:Int)+1)≠0 by lia)
   have hr1:=jZ_ (num / 6) (show (0:Int)<(m:Int)+1 by lia)
   obtain⟨nb,hnb⟩:∃nb:Nat,(ms.length:Int)+m-num / 6%((m:Int)+1)=(nb:Int):=⟨((ms.length:Int)+m-num / 6%((m:Int)+1)).toNat,by lia⟩
   rw[hnb]
   refine⟨by lia,hb,L,ms,vs,num / 6,nb,rfl,kA,bu,by lia,fun h4 m4 w4 H4 s4 lC pY pM=>⟨by decide,?_⟩⟩
   refine⟨h4,L,m4,w4,_,rfl,lC,pY,fun ho mo wo H5 s5 hho wfo oe=>?_⟩
   have s05:=(sp.trans s4).trans s5
   obtain⟨R,hR⟩:∃R:St->Hp->Prop,∀ag H',R ag H'↔(∃(hx:Addr) (mx:α2) (wx:α1),Same H H'/\Bb K H' hx L mx wx/\Wf L mx wx/\mx.length<=ms.length+m/\ag=[some (V.ref h),some (V.ref a),some (V.int m),some (V.ref hb),some (V.int (num / 6)),some (V.int wy),some (V.int ((ms.length:Int)+m)),none,none,none,some (.ref hx)]):=⟨_,fun _ _=>qo_⟩
   refine⟨R,?_,fun ag H' h'=>?_⟩
   ·nofun
    refine ite2 (fun _=>?_) (fun _=>(hR _ _).mpr ⟨ho,mo,wo,s05,hho,wfo,by lia,rfl⟩)
    refine⟨⟨by decide,by decide⟩,.inr ⟨by decide,by decide⟩,ho,L,mo,wo,_,rfl,hho,wfo,fun hx mx wx H6 s6 qo qp hlx=>(hR _ _).mpr ⟨hx,mx,wx,s05.trans s6,qo,qp,by lia,rfl⟩⟩
   ·obtain⟨hx,mx,wx,s6,qo,qp,hlx,rfl⟩:=(hR _ _).mp h'
    nofun
    exact k hx mx wx H' s6 qo qp hlx
noncomputable def L4 (K:α3):Sp:=fun vs H Q _=>∃(a:Addr) (L:Int) (ns:α2),vs=[.ref a,.int L]/\SqL K H a (ns.map V.int)/\ns.length<=63/\1<=L/\L<=6/\∀p ws H',Same H H'->isW L ws=true->ws.length<=400->SqL K H' p (ws.map V.int)->Q (.ref p) H'
def IQ   (F:Fun K "_law_word_by" "_law_word_by" Cr f fd)(T:Txt mg)
   (aM:⋯ 1 "_law_cell_at" A1 ["script","k"] (GD K) By Bq)
   (aV:⋯ 1 "_law_mixed" Br ["number","k","many"] (EZ) B0 BK)
  : nofun 2 f fd ["script","letters"] (L4 K):=by
 delta BG
 ·obtain⟨a,L,ns,rfl,_⟩:=h;rfl
 ·obtain⟨a,L,ns,rfl,hs,hz,hL,cI,k⟩:=h
  have hl:=As
  refine⟨_,(Ac (Du (i:=2) BG.nd rfl rfl rfl (A4 rfl) (cp:=D0) ⟨⟨rfl,rfl⟩,True.intro⟩ (AX (JW Pq (pvD 0) Mb (Mc Ad))) (fun _ _ _ _=>(Ap (i:=0) FA rfl (Or.inl rfl))) (fun _ _ _ _=>Be) (fun _ _ _ _=>(Am (opD AM) (Am (opD0 AW) (pvD 0) (Am (opD BB) (pvD 0) Ad)) (pvD 1))))
   (Ac (Ak (i:=3) BG.nd (Ah aM hr.d AL (Aa (pvD 0) (Aa Ad Ae))))
   (BC (Bz (ptT (Ar (opE B1) (Am (opD AM) (pvD 3) Ad) Ad (AE _)))
   (Ac (Ak (i:=2) BG.nd (JW Pq (pvD 2) Mb (Mc (Am (opD AM) (Am (opD BB) (pvD 3) Ad) Ad))))
   (Af (Bm jJ_ rfl (O6 rfl T.range (Aa (Ao (lenD Ai) (by rfl) T.len jD_ (Aa (pvD 2) Ae)) (Aa (Am (opD AM) (Am (opD BB) (pvD 3) Ad) Ad) Ae))) (Ap (i:=4) BG.nd rfl (Or.inl rfl))
   (Af (A9 (C7 jE_ jM_ jN_ AR (pvD 2) (Aa (Ah aV hr.d AL (Aa (Ah aM hr.d AL (Aa (pvD 0) (Aa (Am (opD AM) (pvD 4) (Ao (Pf rfl) rfl T.max zw_ (Aa Ad (Aa (Ao (lenD Ai) (by rfl) T.len jD_ (Aa (pvD 0) Ae)) Ae)))) Ae))) (Aa (pvD 4) (Aa (pvD 1) Ae)))) Ae)))))))
   AH)
   (Af (AA (pvD 2)))))),?_⟩
  nofun
  refine⟨_,hs,fun p hp=>?_⟩
  rw[show (400:Int)=((400:Nat):Int) from rfl,Ny]
  refine⟨⟨_,SqL.of Ab⟩,?_⟩
  obtain⟨f,hf⟩:∃f:V->V,∀n:Int,f (V.int n)=.int ((n+n / 41)%L):=⟨fun x=>match x with | .int n=>.int ((n+n / 41)%L)|_=>.non,fun _=>rfl⟩
  have hzt:(ns.take 400).length<=63:=by rw[jw_];lia
  refine EO (xs:=(ns.take 400).map V.int) (ag:=[some (.int L)]) f rfl (SqL.of Ab) (by rw[ja_];lia) (fun x hx R hR=>?_) (fun D hD=>?_)
  ·obtain⟨n,hn,rfl⟩:=jv_.mp hx
   rw[hf]at hR
   nofun
   refine⟨?_,?_⟩
   ·first|decide|lia|(unfold CDiv;decide)
   ·exact⟨by lia,hR⟩
  ·have em:((ns.take 400).map V.int).map f=((ns.take 400).map fun n=>(n+n / 41)%L).map V.int:=by
    rw[jR_,jR_]
    exact qj_ fun n _=>hf n
   rw[em]
   have cw:isW L ((ns.take 400).map fun n=>(n+n / 41)%L)=true:=Av.mpr fun z oF=>by
    obtain⟨n,hn,rfl⟩:=jv_.mp oF
    exact⟨j7_ _ s!"",jZ_ _ s!""⟩
   have dG:((ns.take 400).map fun n=>(n+n / 41)%L).length<=63:=by rw[ja_];exact hzt
   have sD:=(Same.new hp (o:=.lst ((ns.take 400).map V.int))).newT hD (o:=.lst (((ns.take 400).map fun n=>(n+n / 41)%L).map V.int))
   have eD:upd (upd H p (.lst ((ns.take 400).map V.int))) D (.lst (((ns.take 400).map fun n=>(n+n / 41)%L).map V.int)) D=some (.lst (((ns.take 400).map fun n=>(n+n / 41)%L).map V.int)):=Ab
   generalize upd (upd H p (.lst ((ns.take 400).map V.int))) D (.lst (((ns.take 400).map fun n=>(n+n / 41)%L).map V.int))=H2 at sD eD ⊢
   generalize (ns.take 400).map (fun n=>(n+n / 41)%L)=ws at cw dG eD
   refine⟨a,ns,1,rfl,sD.seq hs,?_⟩
   dsimp only
   generalize cell ns 1=num
   obtain⟨R,hR⟩:∃R:St->Hp->Prop,∀ag H',R ag H'↔(∃(q:Addr) (us:α2) (o:Option V),Same H H'/\H' q=some (.lst (us.map V.int))/\isW L us=true/\us.length<=400/\ag=[some (.ref a),some (.int L),some (.ref q),some (.int num),o]):=⟨_,fun _ _=>qo_⟩
   refine⟨R,?_,fun ag H' h'=>?_⟩
   ·nofun
    refine⟨by decide,ite2 (fun _=>?_) (fun _=>(hR _ _).mpr ⟨D,ws,none,sD,eD,cw,by lia,rfl⟩)⟩
    have h0:=j7_ (num / 4) (show (401:Int)≠0 by decide)
    have h1:=jZ_ (num / 4) (show (0:Int)<401 by decide)
    obtain⟨c,hc⟩:∃c:Nat,num / 4%401=(c:Int):=⟨(num / 4%401).toNat,by lia⟩
    rw[hc]
    refine⟨⟨by decide,by decide⟩,by decide,_,SqL.of eD,fun p2 aO=>?_⟩
    rw[Ny]
    have s3:=sD.newT aO (o:=.lst ((ws.take c).map V.int))
    have jY:H p2=none:=sD.none aO
    have e3:upd H2 p2 (.lst ((ws.take c).map V.int)) p2=some (.lst ((ws.take c).map V.int)):=Ab
    generalize upd H2 p2 (.lst ((ws.take c).map V.int))=H3 at s3 e3 ⊢
    refine⟨_,.inl (SqL.of e3),?_⟩
    rw[ja_]
    have pJ:(ws.take c).length<=c:=by rw[jw_];lia
    have df:isW L (ws.take c)=true:=Hr cw c
    generalize ws.take c=us at pJ df e3
    refine⟨⟨by decide,by decide⟩,by decide,by lia,by lia,by lia,by lia,?_⟩
    rw[show ((c:Int)-(us.length:Int)).toNat=c-us.length by lia]
    obtain⟨Pv,aq⟩:∃Pv:Nat->St->Hp->Prop,∀i ag H',Pv i ag H'↔(∃(vs:α2) (o:Option V),Same H H'/\H' p2=some (.lst (vs.map V.int))/\isW L vs=true/\vs.length=us.length+i/\ag=[some (.ref a),some (.int L),some (.ref p2),some (.int num),o]):=⟨_,fun _ _ _=>qo_⟩
    refine forR Pv ((aq _ _ _).mpr ⟨us,none,s3,e3,df,rfl,rfl⟩) (fun i ag H' hi h'=>?_) (fun ag H' h'=>?_)
    ·obtain⟨vs,o,s4,e4,qq,pQ,rfl⟩:=(aq _ _ _).mp h'
     nofun
     refine⟨.inl ⟨rfl,_,SqL.of e4⟩,_,.inl (s4.seq hs),?_⟩
     rw[ja_]
     have l5:(0:Int)<if (ns.length:Int) > 1 then (ns.length:Int) else 1:=by split<;>lia
     obtain⟨ix,eI⟩:∃ix:Nat,((us.length:Int)+i)%(if (ns.length:Int) > 1 then (ns.length:Int) else 1)=(ix:Int):=⟨_,(xm_ (j7_ _ s!"")).symm⟩
     rw[eI]
     refine⟨l5,a,ns,ix,rfl,s4.seq hs,_,_,_,rfl,by lia,by lia,by lia,fun x cO bT=>?_⟩
     refine⟨_,e4,by rw[ja_];lia,(aq _ _ _).mpr ⟨vs++[x],_,s4.over jY,by rw[Ab];simp,?_,by rw[jn_,pQ];simp;lia,rfl⟩⟩
     exact BL qq (Av.mpr fun y hy=>by rw[jr_.mp hy];exact⟨cO,bT⟩)
    ·obtain⟨vs,o,s4,e4,qq,pQ,rfl⟩:=(aq _ _ _).mp h'
     exact (hR _ _).mpr ⟨p2,vs,o,s4,e4,qq,by lia,rfl⟩
   ·obtain⟨q,us,o,s3,hq,hu,hul,rfl⟩:=(hR _ _).mp h'
    nofun
    exact k q us H' s3 hu hul (SqL.of hq)
def SR {L:Nat}{aa mr:α2}{ae wr:α1}{m:Nat}(wf:Wf L aa ae)(fA:Wf L mr wr)(hsz:mr.length<=(sM L aa ae).length+m){E:Nat->α1}
  (eW:∀r,r<(sM L aa ae).length->∀e∈E r,isW L e=true) (e0:∀r,r<(sM L aa ae).length->[]∈E r)
  (sep:∀r s,r<(sM L aa ae).length->s<(sM L aa ae).length->r≠s->∃e,e∈E r/\e∈E s/\bW (sM L aa ae) (sW L aa ae) e r≠bW (sM L aa ae) (sW L aa ae) e s)
  (agr:∀w∈allW (sW L aa ae) (sM L aa ae).length (Dq (L:Int) m) E,mkR aa (Az ae w)=mkR mr (Az wr w)):Vh L aa ae mr wr:=by
 have bu:=sWf wf
 have cU:=sCan wf
 have hL:=wf.l1
 have A:Asked L (sM L aa ae).length m (sM L aa ae) mr (sW L aa ae) wr (wayW (sW L aa ae)) E:=by
  refine⟨rfl,bu,fA,hsz,fun r hr=>⟨(LR cU hr).2.1,(LR cU hr).2.2.1⟩,?_,eW,e0,fun r s hr hs aw=>?_,fun r hr v hv hl e he=>?_⟩
  ·obtain⟨top,bf⟩:=Bfs.mk bu
   exact MV bf.nod (r:=0) (jc_ bf.hd)
  ·obtain⟨e,h1,h2,h3⟩:=sep r s hr hs aw
   exact⟨e,h1,h2,h3⟩
  ·have hw:=LR cU hr
   have hww:=L2.Wf.walk' bu (BL hw.2.1 hv)
   have ie:=BL (BL hw.2.1 hv) (eW _ s!"" e he)
   rw[Wx wf ie]
   exact agr _ (KO.mpr ⟨r,hr,v,(KQ s!"").mpr ⟨hv,hl⟩,e,he,rfl⟩)
 intro w hw
 rw[<-Wx wf hw]
 exact A.all w hw
def MX {L:Nat}{aa mr:α2}{ae wr:α1}{m:Nat}(wf:Wf L aa ae)(fA:Wf L mr wr)(hsz:mr.length<=(sM L aa ae).length+m)(agr:∀w∈Jg L aa ae m,mkR aa (Az ae w)=mkR mr (Az wr w)):Vh L aa ae mr wr:=by
 have bu:=sWf wf
 have fin:=Fin17.mk' (b:=bW (sM L aa ae) (sW L aa ae)) (L:=L) bu.n1 bu.n40
 refine SR wf fA hsz (E:=ownW (sM L aa ae).length (bW (sM L aa ae) (sW L aa ae)) (wcOf (sM L aa ae).length L (bW (sM L aa ae) (sW L aa ae))).1) (fun r _ e he=>?_) (fun r _=>jl_) (fun r s hr hs aw=>?_) agr
 ·unfold ownW at he
  rcases jC_.mp he with rfl|he
  ·rfl
  ·exact Av.mpr (fin.wc.ok e (KI he))
 ·obtain⟨e,h1,_,h3,h4⟩:=W3 (sCan wf) hr hs aw
  have:=SJ hr hs h1
  exact⟨e,this.1,this.2,qp_ h3⟩
def MY {L:Nat}{aa:α2}{ae:α1}{m:Nat}(wf:Wf L aa ae){w:α2}(h:w∈N1 L aa ae m):isW L w=true/\w.length<=81+m:=by
 have bu:=sWf wf
 have fin:=Fin17.mk' (b:=bW (sM L aa ae) (sW L aa ae)) (L:=L) bu.n1 bu.n40
 have lu:(wcOf (sM L aa ae).length L (bW (sM L aa ae) (sW L aa ae))).1.length<=40:=by
  have h1:=fin.wc.le
  have h2:=Jr (wcOf (sM L aa ae).length L (bW (sM L aa ae) (sW L aa ae))).2
  rw[fin.wc.len]at h2
  have:=bu.n40
  lia
 have cQ:=T8 fin.wc
 unfold N1 at h
 rw[KO]at h
 obtain⟨r,hr,v,hv,e,he,rfl⟩:=h
 have hv:=(KQ (by have:=wf.l1;lia)).mp hv
 have hw:=LR (sCan wf) hr
 obtain⟨j,hj⟩:=jI_.mp he
 have h1:=cQ j e hj
 have h2:=(jb_.mp hj).1
 refine⟨BL (BL hw.2.1 hv.1) (Av.mpr (fin.wc.ok e he)),?_⟩
 rw[jn_,jn_]
 lia
def JQ {L:Nat}{aa:α2}{ae:α1}{m:Nat}(wf:Wf L aa ae){w:α2}(h:w∈Jg L aa ae m):isW L w=true/\w.length<=81+m:=MY wf (SI wf h)
noncomputable def SS (K:α3):Sp:=fun vs H Q _=>∃(a:Addr) (ns:α2),vs=[.ref a]/\SqL K H a (ns.map V.int)/\ns.length<=63/\H (tabP K "in_order")=some (.tbl #[])/\∀H',Q (.bl true) H'
def W6   (F:Fun K "law" "law" Vd f fd)(T:Txt mg)
   (gn:⋯ 6 "slim" NT ["house","more"] (Rp K) Ue RC)
   (kB:⋯ 6 "trials_of" DF ["house","words"] (Ud K) IS GY)
   (ff:⋯ 6 "first_failed" BP ["house","some"] (Vl K) C6 CP)
   (gp:⋯ 7 "passes" HD ["house","some"] (L3 K) N8 L5)
   (kC:⋯ 3 "_law_house_by" B9 ["script"] (JL K) EF D5)
   (kD:⋯ 2 "_law_more_by" Co ["script","house"] (Rr K) Fj EG)
   (kF:⋯ 3 "_law_rival_by" Cb ["house","script","many"] (N7 K) EH D6)
   (kG:⋯ 2 "_law_word_by" Cr ["script","letters"] (L4 K) Fl EI)
   (kH:⋯ 1 "_law_is_word" Cs ["found","letters"] (Uc K) Fm EJ)
   (iC:⋯ 1 "_law_walk" DI ["house","room","word"] (N6 K) IT GZ)
  : nofun 8 f fd ["script"] (SS K):=by
 delta Df
 ·obtain⟨a,ns,rfl,_⟩:=h;rfl
 ·obtain⟨a,ns,rfl,hs,hz,hT,k⟩:=h
  have hl:=As
  refine⟨_,(Ac (Ak (i:=1) Df.nd (Ah kC hr.d AL (Aa (pvD 0) Ae)))
   (Ac (Ak (i:=2) Df.nd (Ah kD hr.d AL (Aa (pvD 0) (Aa (pvD 1) Ae))))
   (Ac (Ak (i:=3) Df.nd (Ah kF hr.d AL (Aa (pvD 1) (Aa (pvD 0) (Aa (pvD 2) Ae)))))
   (Ac (Ak (i:=4) Df.nd (Ah kB hr.d AL (Aa (pvD 1) (Aa (Ah gn hr.d AL (Aa (pvD 1) (Aa (pvD 2) Ae))) Ae))))
   (Ac (Bz (Jh (ptB (HK (Ah gp hr.d AL (Aa (pvD 3) (Aa (pvD 4) Ae))))))
   (Ac (Ak (i:=5) Df.nd (Ah ff hr.d AL (Aa (pvD 3) (Aa (pvD 4) Ae))))
   (Ac (Bz (PW.pt (N9 (Jh (ptB (HK (Ao CT rfl T.isinstance xi_ (Aa (pvD 5) (Aa (JT (v:=.ty "tuple") rfl T.tuple jB_ rfl) Ae)))))) (Na (Jh (ptB (HK (Ah kH hr.d AL (Aa (Ag (ixTD An) (pvD 5) Ad) (Aa (Ag (ixTD An) (pvD 1) Ad) Ae)))))))))
   (Af (AA L9))
   AH)
   (Ac (Ak (i:=6) Df.nd (Ag (ixTD An) (Ag (ixTD An) (pvD 1) Ad) (Ah iC hr.d AL (Aa (pvD 1) (Aa Ad (Aa (Ag (ixTD An) (pvD 5) Ad) Ae))))))
   (Af (AA (Vu (Ma (opE B1) (Ag (ixTD An) (pvD 5) Ad) (pvD 6) (AE _)) (Vt (Ma (opN RH) (Ag (ixTD An) (Ag (ixTD An) (pvD 3) Ad) (Ah iC hr.d AL (Aa (pvD 3) (Aa Ad (Aa (Ag (ixTD An) (pvD 5) Ad) Ae))))) (pvD 6) (AE _)))))))))
   AH)
   (Ac (Ak (i:=7) Df.nd (Ah kG hr.d AL (Aa (pvD 0) (Aa (Ag (ixTD An) (pvD 1) Ad) Ae))))
   (Ac (Ak (i:=8) Df.nd Ad)
   (Ac (Ak (i:=9) Df.nd Ad)
   (Ac (Bm jJ_ rfl (AQ rfl T.range (Aa (Am (opD0 AW) (Ao (lenD Ai) (by rfl) T.len jD_ (Aa (pvD 7) Ae)) Ad) Ae)) (Ap (i:=10) Df.nd rfl (Or.inl rfl))
   (Ac (Bz (ptT (Ar (opN RH) (Ag (ixTD An) (Ag (ixTD An) (pvD 1) Ad) (pvD 8)) (Ag (ixTD An) (Ag (ixTD An) (pvD 3) Ad) (pvD 9)) (AE _)))
   (Af (AA L9))
   AH)
   (Af (Bz (ptT (Ar (opD0 G0) (pvD 10) (Ao (lenD Ai) (by rfl) T.len jD_ (Aa (pvD 7) Ae)) (AE _)))
   (Ac (Ak (i:=8) Df.nd (Ag (ixTD An) (Ag (ixTD An) (Ag (ixTD An) (pvD 1) Ad) (pvD 8)) (Ag (ixLD AU) (pvD 7) (pvD 10))))
   (Af (Ak (i:=9) Df.nd (Ag (ixTD An) (Ag (ixTD An) (Ag (ixTD An) (pvD 3) Ad) (pvD 9)) (Ag (ixLD AU) (pvD 7) (pvD 10))))))
   AH))))
   (Af (AA L9))))))))))),?_⟩
  nofun
  refine⟨a,ns,rfl,hs,fun h L0 aa ae H1 s1 hh wf kh=>?_⟩
  obtain⟨L,rfl⟩:∃L:Nat,L0=(L:Int):=⟨L0.toNat,by have:=wf.l1;lia⟩
  refine⟨a,h,ns,L,aa,ae,rfl,s1.seq hs,hh,wf,fun m H2 hm cx s2=>?_⟩
  refine⟨h,a,L,m,ns,aa,ae,rfl,hh.mono s2,wf,kh,hm,(s1.trans s2).seq hs,fun hr mr wr H3 s3 pH fA hsz=>?_⟩
  have jC:=(s1.trans s2).trans s3
  have jx:=jC _ _ hT
  have hh3:=(hh.mono s2).mono s3
  have gi:=jC.seq hs
  clear s1 s2 s3 hh jC
  refine⟨h,L,m,aa,ae,rfl,hh3,wf,hm,cx,.inl jx,fun D1 H4 os s4 hL4 hDn1 hD1 dk bJ jT=>?_⟩
  have t4:TSq K H3 H4:=Cj.tsq2 (T:=tabP K "in_order") s4 jx
  have lC:=Bb.monoQ hh3 t4
  have hhr4:=Bb.monoQ pH t4
  have hs4:SqL K H4 a (ns.map V.int):=Cj.lsq (T:=tabP K "in_order") s4 jx gi
  obtain⟨ws,qr⟩:∃ws,ws=os.map (·.2):=⟨_,rfl⟩
  have aS:∀w,w∈ws↔w∈Jg L aa ae m:=fun w=>by rw[qr,bJ.mem_iff,IH]
  have nF:Wds K H4 (aK.wv os) ws:=by
   have:=Ru (K:=K) dk
   rw[<-qr]at this
   exact⟨this.1,fun i w hw=>let ⟨t,a1,a2⟩:=this.2 i w hw;⟨t,a1,SqT.of a2⟩⟩
  have hosl:os.length<=545600:=by
   have h1:=bJ.length_eq
   have h2:=CI (Jg L aa ae m) []
   have h3:=Rw wf cx
   rw[ja_]at h1
   rw[qm_]at h2
   lia
  have hwW:∀w∈ws,isW L w=true:=fun w hw=>(JQ wf ((aS w).mp hw)).1
  have hwL:∀w∈ws,w.length<=84:=fun w hw=>by have:=(JQ wf ((aS w).mp hw)).2;lia
  clear bJ jT dk qr hDn1
  refine⟨h,D1,L,aa,ae,_,ws,rfl,lC,wf,SqL.of hD1,nF,fun w hw=>by have:=hwL w hw;lia,by simp only[aK.wv,ja_];lia,fun _ H5 D ys s5 iY hTr=>?_,fun hf=>?_⟩
  ·have s6:=s5.newT iY (o:=.lst ys)
   have eD:upd H5 D (.lst ys) D=some (.lst ys):=Ab
   have iE:=hTr.mono (Same.new iY (o:=.lst ys))
   generalize upd H5 D (.lst ys)=H6 at s6 eD iE ⊢
   have hh6:=lC.mono s6
   have iF:=hhr4.mono s6
   have hs6:=s6.seq hs4
   have htW:∀tr∈ws.map (DR aa ae),isW L tr.1=true:=fun tr a6=>by
    obtain⟨w,hw,rfl⟩:=jv_.mp a6
    exact hwW w hw
   have htF:¬ ∃tr∈ws.map (DR aa ae),isW L tr.1=false:=fun ⟨tr,a6,hf⟩=>by rw[htW tr a6]at hf;cases hf
   refine⟨hr,D,L,mr,wr,ys,_,rfl,iF,fA,SqL.of eD,iE,fun _ H7 s7=>?_,fun hf=>absurd hf htF⟩
   refine⟨_,rfl,?_⟩
   refine ite2 (fun hc=>?_) (fun hc=>?_)
   ·have hc:¬ ∀tr∈ws.map (DR aa ae),ED mr wr tr=false:=fun z=>by
     have:(ws.map (DR aa ae)).all (fun tr => !ED mr wr tr)=true:=qJ_.mpr fun tr a6=>by rw[z tr a6];rfl
     rw[this]at hc
     exact absurd hc (by decide)
    refine⟨hr,D,L,mr,wr,ys,_,rfl,iF.mono s7,fA,SqL.of (s7 _ _ eD),iE.mono s7,fun _ H8 s8=>⟨fun z=>absurd z hc,fun i tr x dm a6 hx hfail=>?_⟩,fun hf=>absurd hf htF⟩
    obtain⟨t,wt,a1,a2,a3,a4⟩:=iE.2 i tr a6
    rw[hx]at a1
    cases a1
    have ig:=jc_ a6
    have i3:=htW tr ig
    have nU:=s7.trans s8
    have mU:=nU.seqT a2
    have qt:=nU.seqT a3
    have iV:tr.2=Gx aa (Az ae tr.1):=by
     obtain⟨w,hw,rfl⟩:=jv_.mp ig
     rfl
    have aw:Gx mr (Az wr tr.1)≠tr.2:=ql_ hfail
    have nV:=hh6.mono nU
    have iG:=iF.mono nU
    obtain⟨tm,tw,q1,q2,q3⟩:=id nV
    obtain⟨rm,rw0,r1,r2,r3⟩:=id iG
    have hwk1:=L2.Wf.walk' wf i3
    have hwk2:=L2.Wf.walk' fA i3
    have bS:=wf.n1
    have fk:=fA.n1
    refine⟨_,_,.tup mU,Np,_,J5,?_⟩
    rw[if_neg (by decide)]
    refine⟨t,rfl,_,mU,_,rfl,h,rfl,_,q1,_,rfl,wt,L,tr.1,rfl,qt,i3,true,rfl,?_⟩
    rw[if_neg (by decide)]
    refine⟨h,rfl,_,q1,_,rfl,t,rfl,_,mU,_,rfl,h,wt,L,0,aa,ae,tr.1,rfl,nV,wf,qt,i3,by lia,by lia,?_⟩
    refine⟨tm,rfl,_,_,rfl,q2,_,F2 hwk1.1 hwk1.2,t,rfl,_,mU,_,rfl,rfl,?_⟩
    rw[if_pos (by rw[iV];rfl)]
    refine⟨hr,rfl,_,r1,_,rfl,t,rfl,_,mU,_,rfl,hr,wt,L,0,mr,wr,tr.1,rfl,iG,fA,qt,i3,by lia,by lia,?_⟩
    refine⟨rm,rfl,_,_,rfl,r2,_,F2 hwk2.1 hwk2.2,rfl,?_⟩
    rw[BJ,BJ,show (!decide (V.int (Gx mr (Az wr tr.1))=V.int (Gx aa (Az ae tr.1))))=true by rw[<-iV];simp[aw]]
    exact k _
   ·have hc:(ws.map (DR aa ae)).all (fun tr => !ED mr wr tr)=true:=by simpa using hc
    have jl:Vh L aa ae mr wr:=by
     refine MX wf fA hsz fun w hw=>?_
     have:=qJ_.mp hc (DR aa ae w) (q6_ ((aS w).mpr hw))
     have hf:ED mr wr (DR aa ae w)=false:=by simpa using this
     have:=xu_ hf
     exact (j1_ fun z=>this (fun e=>z e.symm))
    have hh7:=hh6.mono s7
    have hhr7:=iF.mono s7
    obtain⟨tm,tw,q1,q2,q3⟩:=id hh7
    have cH:=wf.l1
    have cI:=wf.l6
    refine⟨h,rfl,_,q1,_,rfl,a,L,ns,rfl,s7.seq hs6,hz,by lia,by lia,fun pw a7 H8 s8 iH hwl8 aX=>⟨pw,rfl,_,.inl aX,?_⟩⟩
    rw[ja_]
    refine⟨by lia,by lia,?_⟩
    rw[show ((a7.length:Int)+1).toNat=a7.length+1 by lia]
    have nV:=hh7.mono s8
    have iG:=hhr7.mono s8
    obtain⟨i4,iz,y1,y2,y3⟩:=id nV
    obtain⟨rm,rw0,r1,r2,r3⟩:=id iG
    obtain⟨Pv,aq⟩:∃Pv:Nat->St->Hp->Prop,∀i ag H',Pv i ag H'↔(H'=H8/\∃o,ag=[some (.ref a),some (.ref h),some (.int m),some (.ref hr),some (.ref D),none,none,some (.ref pw),some (.int (Az ae (a7.take i))),some (.int (Az wr (a7.take i))),o]):=⟨_,fun _ _ _=>qo_⟩
    refine forR Pv ((aq _ _ _).mpr ⟨rfl,none,rfl⟩) (fun i ag H' hi h'=>?_) (fun ag H' h'=>?_)
    ·obtain⟨rfl,o,rfl⟩:=(aq _ _ _).mp h'
     have w1:=wf.walk iH i
     have w2:=fA.walk iH i
     have e:=jl (a7.take i) (Hr iH i)
     rw[zx_]
     nofun
     refine⟨_,y1,_,rfl,i4,rfl,_,y2,_,F2 w1.1 w1.2,_,r1,_,rfl,rm,rfl,_,r2,_,F2 w2.1 w2.2,rfl,?_⟩
     rw[if_neg (by rw[show Gx aa (Az ae (a7.take i))=Gx mr (Az wr (a7.take i)) from e];simp)]
     refine⟨_,.inl aX,?_⟩
     rw[ja_]
     refine ite2 (fun ar=>?_) (fun bo=>?_)
     ·have dR:i<a7.length:=by lia
      have bG:a7[i]?=some a7[i]:=jf_ dR
      have hx:=Av.mp iH a7[i] (j2_ dR)
      obtain⟨row,g,c1,c2,c3,c4,c5⟩:=wf.step w1.1 w1.2 hx.1 hx.2
      obtain⟨zs,t,z1,z2,z3⟩:=y3.atZ w1.1 c1
      obtain⟨dB,g',d1,d2,d3,d4,d5⟩:=fA.step w2.1 w2.2 hx.1 hx.2
      obtain⟨bK,t',x1,x2,x3⟩:=r3.atZ w2.1 d1
      refine⟨_,y1,_,rfl,iz,rfl,_,z1,_,z2,_,aX,_,B2 s!"" (v:=V.int a7[i]) (by rw[jh_,jd_,bG];rfl),t,rfl,_,_,rfl,z3,_,AY hx.1 c2,_,r1,_,rfl,rw0,rfl,_,x1,_,x2,_,aX,_,B2 s!"" (v:=V.int a7[i]) (by rw[jh_,jd_,bG];rfl),t',rfl,_,_,rfl,x3,_,AY hx.1 d2,(aq _ _ _).mpr ⟨rfl,some (.int i),?_⟩⟩
      rw[ET bG,ET bG,c3,d3]
     ·refine (aq _ _ _).mpr ⟨rfl,some (.int i),?_⟩
      rw[jP_ (show a7.length<=i by lia),jP_ (show a7.length<=i+1 by lia)]
    ·obtain⟨rfl,o,rfl⟩:=(aq _ _ _).mp h'
     nofun
     exact k _
  ·obtain⟨w,hw,hf⟩:=hf
   rw[hwW w hw]at hf
   cases hf
end
def all_mk {l:PySem.W.OpenLaw}{w:World}{K:α3}{h:Heap}{mg:Str->α5}{fa LH C1 Iw JH Ri DJ DS Gz LK IA JG BS LP GS Rk Rq EY Ce F9 Cf GU Ue IS C6 N8 By B0 Ex Fg Ez EF Fj EB Fi D4 Fh IP EH Fl Fm IT Xo:Addr}(X:K.In h)(G:h.Ns mainGlobals mg)(hfa:mg "law"=some (.ref fa))
  {JF CF GR IB NW C4 C5 FC JI GC Iy BM JJ F5 N0 N2 Cc Ff Cd Ga RC GY CP L5 Bq BK D2 Ey DQ D5 EG D3 EE Dr EC GX D6 EI EJ GZ Ug:α6}
  {MZ M0:Option Addr} {M3:Array (α5)} {M4 M5 M6 M7 M8:Value}
  (j_is_word:HF K "is_word" FO LH JF)
  (j_check_word:HF K "check_word" BV C1 CF)
  (j_next_word:HF K "next_word" DD Iw GR)
  (j_words_to:HF K "words_to" EW JH IB)
  (j_trail:HF K "trail" Kv Ri NW)
  (j_room_behind:HF K "room_behind" B5 DJ C4)
  (j_mark_behind:HF K "mark_behind" B6 DS C5)
  (j_words_in:HF K "words_in" De Gz FC)
  (j_ways_in:HF K "ways_in" FP LK JI)
  (j_reached:HF K "reached" Em IA GC)
  (j_numbered:HF K "numbered" EX JG Iy)
  (j_words_and_classes:HF K "words_and_classes" A5 BS BM)
  (j_tellers:HF K "tellers" FQ LP JJ)
  (j_classes_of:HF K "classes_of" CW GS F5)
  (j_homes:HF K "homes" Kx Rk N0)
  (j_least:HF K "least" Ky Rq N2)
  (a_j0:HA K "in_order" EY)
  {aG:Addr}
  (l_j0:HL K "in_order" Ck EY M4 MZ M5 M6 M7 M0 (.ref aG) M8 M3)
  {aH:Addr} {oC_in_order:Value} {dC_in_order:Option Addr} {sC_in_order:Array (α5)} {vC_in_order:Array Value} (lc_in_order:K.lookup aG=some ⟨oC_in_order,dC_in_order,.fields vC_in_order,sC_in_order⟩) (hx_in_order:vC_in_order[11]?=some (.ref aH)) (kt_in_order:K.lookup aH=none) (ch_in_order:PySem.W.codeHdIn K aG aH=true) (tb_in_order:h.get? aH=some (PySem.W.tabObj #[]))
  (c_j0:codeIn K (.ref aG) "in_order"=true)
  (k_j0:keepIn K (.ref EY)=true)
  (j_marks_from_each_room:HF K "marks_from_each_room" A7 Ce Cc)
  (j_own_tellers:HF K "own_tellers" CD F9 Ff)
  (j_tellers_of_each_room:HF K "tellers_of_each_room" A8 Cf Cd)
  (j_words_with:HF K "words_with" CY GU Ga)
  (j_slim:HF K "slim" NT Ue RC)
  (j_trials_of:HF K "trials_of" DF IS GY)
  (j_first_failed:HF K "first_failed" BP C6 CP)
  (j_passes:HF K "passes" HD N8 L5)
  (j__law_cell_at:HF K "_law_cell_at" A1 By Bq)
  (j__law_mixed:HF K "_law_mixed" Br B0 BK)
  (j__law_marks_by:HF K "_law_marks_by" B8 Ex D2)
  (j__law_ways_by:HF K "_law_ways_by" Cn Fg Ey)
  (j__law_blown:HF K "_law_blown" Cu Ez DQ)
  (j__law_house_by:HF K "_law_house_by" B9 EF D5)
  (j__law_more_by:HF K "_law_more_by" Co Fj EG)
  (j__law_order_of:HF K "_law_order_of" Ca EB D3)
  (j__law_spoiled:HF K "_law_spoiled" Cp Fi EE)
  (j__law_turned_by:HF K "_law_turned_by" BR D4 Dr)
  (j__law_classes:HF K "_law_classes" Cq Fh EC)
  (j__law_base:HF K "_law_base" DH IP GX)
  (j__law_rival_by:HF K "_law_rival_by" Cb EH D6)
  (j__law_word_by:HF K "_law_word_by" Cr Fl EI)
  (j__law_is_word:HF K "_law_is_word" Cs Fm EJ)
  (j__law_walk:HF K "_law_walk" DI IT GZ)
  (j_law:HF K "law" Vd Xo Ug)
  (z_all:nsIn K mainGlobals "all"=some none)
  (z_bool:nsIn K mainGlobals "bool"=some none)
  (z_enumerate:nsIn K mainGlobals "enumerate"=some none)
  (z_int:nsIn K mainGlobals "int"=some none)
  (z_isinstance:nsIn K mainGlobals "isinstance"=some none)
  (z_len:nsIn K mainGlobals "len"=some none)
  (z_list:nsIn K mainGlobals "list"=some none)
  (z_max:nsIn K mainGlobals "max"=some none)
  (z_min:nsIn K mainGlobals "min"=some none)
  (z_range:nsIn K mainGlobals "range"=some none)
  (z_sorted:nsIn K mainGlobals "sorted"=some none)
  (z_tuple:nsIn K mainGlobals "tuple"=some none)
  (z_zip:nsIn K mainGlobals "zip"=some none)
  : ∃(fd:α6) (c T:Addr),PySem.W.tabIn K "in_order"=some (c,T)/\K.lookup T=none/\PySem.W.CodeHd h c T/\h.get? T=some (PySem.W.tabObj #[])/\(∀(s:Shared) (v:Value),BindsTo s fd ⟨[v],[]⟩ [("script",v)])/\∀base:Heap,K.In base->base.Ns mainGlobals mg->PySem.W.CodeHd base c T->BmOk mg base->FnOk l.prog w K mg base CX0 8 fa fd ["script"] (SS K):=by
 have e:=hfa.symm.trans (PySem.W.mg_of X G j_law.a)
 cases e
 have T:Txt mg:=⟨qe_ X G z_all,qe_ X G z_bool,qe_ X G z_enumerate,qe_ X G z_int,qe_ X G z_isinstance,qe_ X G z_len,qe_ X G z_list,qe_ X G z_max,qe_ X G z_min,qe_ X G z_range,qe_ X G z_sorted,qe_ X G z_tuple,qe_ X G z_zip⟩
 have JR:=fun_mk (st:=Ck) l_j0 c_j0 k_j0
 have OX:=JR.binds (ps:=["words"]) fun _ _ _ _ _ _ us hl=>(by obtain⟨y0,rfl⟩:=len1 hl;rfl)
 have OY:=PySem.W.mg_of X G a_j0
 have ti_in_order:=Sy a_j0 l_j0 rfl lc_in_order hx_in_order
 refine⟨Ug,aG,aH,ti_in_order,kt_in_order,PySem.W.codeHd_of_K X ch_in_order,tb_in_order,j_law.b fun _ _ _ _ _ _ _=>rfl,fun base _ _ hC_ hB_=>?_⟩
 have FL_in_order:=Vc (st:=Ck) ti_in_order l_j0 c_j0 hC_ hB_
 have Z_:Wh l.prog w K mg base:=⟨fun _ _ a=>PySem.W.mg_of X G a⟩
 have ju:=j_is_word.c Z_ (OR j_is_word.F T )
 have cG:=j_check_word.c Z_ (Kz j_check_word.F T ju)
 have jv:=j_next_word.c Z_ (LI j_next_word.F T cG)
 have jU:=j_words_to.c Z_ (MO j_words_to.F T jv)
 have fW:=j_trail.c Z_ (SA j_trail.F T cG)
 have eL:=j_room_behind.c Z_ (Jd j_room_behind.F T fW)
 have fe:=j_mark_behind.c Z_ (Je j_mark_behind.F T eL)
 have eQ:=j_words_in.c Z_ (MS j_words_in.F T )
 have jV:=j_ways_in.c Z_ (OS j_ways_in.F T eQ)
 have eV:=j_reached.c Z_ (OT j_reached.F T eQ)
 have hV:=j_numbered.c Z_ (MT j_numbered.F T )
 have eU:=j_words_and_classes.c Z_ (E7 j_words_and_classes.F T hV)
 have j0:=j_tellers.c Z_ (OU j_tellers.F T eU)
 have jI:=j_classes_of.c Z_ (KD j_classes_of.F T eU)
 have gd:=j_homes.c Z_ (SE j_homes.F T eV jI)
 have gh:=j_least.c Z_ (SF j_least.F T eV gd)
 have OZ:=MU (P:=l.prog) (w:=w) (base:=base) FL_in_order T
 have jW:=Cal.mk (x := "in_order") (st:=Ck) OZ JR OX OY
 have j3:=j_marks_from_each_room.c Z_ (DM j_marks_from_each_room.F T )
 have j4:=j_own_tellers.c Z_ (Jf j_own_tellers.F T )
 have j5:=j_tellers_of_each_room.c Z_ (DO j_tellers_of_each_room.F T j0 j3 j4)
 have j6:=j_words_with.c Z_ (KH j_words_with.F T jU eL jV jW)
 have gn:=j_slim.c Z_ (Vg j_slim.F T gh j5 j6)
 have kB:=j_trials_of.c Z_ (LZ j_trials_of.F T fe)
 have ff:=j_first_failed.c Z_ (IM j_first_failed.F T cG fe)
 have gp:=j_passes.c Z_ (RA j_passes.F T ff)
 have aM:=j__law_cell_at.c Z_ (IC j__law_cell_at.F T )
 have aV:=j__law_mixed.c Z_ (KJ j__law_mixed.F T )
 have ke:=j__law_marks_by.c Z_ (He j__law_marks_by.F T aV)
 have kf:=j__law_ways_by.c Z_ (ID j__law_ways_by.F T aM aV)
 have eY:=j__law_blown.c Z_ (KN j__law_blown.F T aV)
 have kC:=j__law_house_by.c Z_ (Hf j__law_house_by.F T aM ke kf eY)
 have kD:=j__law_more_by.c Z_ (IF j__law_more_by.F T aM)
 have kl:=j__law_order_of.c Z_ (Hg j__law_order_of.F T )
 have kr:=j__law_spoiled.c Z_ (IL j__law_spoiled.F T )
 have ku:=j__law_turned_by.c Z_ (GF j__law_turned_by.F T )
 have km:=j__law_classes.c Z_ (IK j__law_classes.F T )
 have kz:=j__law_base.c Z_ (LX j__law_base.F T kl km)
 have kF:=j__law_rival_by.c Z_ (Hh j__law_rival_by.F T aM aV eY kr ku kz)
 have kG:=j__law_word_by.c Z_ (IQ j__law_word_by.F T aM aV)
 have kH:=j__law_is_word.c Z_ (IG j__law_is_word.F T )
 have iC:=j__law_walk.c Z_ (LY j__law_walk.F T )
 exact W6 j_law.F T gn kB ff gp kC kD kF kG kH iC
def walk {l:PySem.W.OpenLaw}{q:Program}{cm:List Str}{XP:(Str->α5)->Heap->Prop}{YP:World->Heap->Prop}{d:DefRec}{K:Params->α3}(hn:l.most=some 63)(lP:d.params.defaults=[])
  (hY:∀(w:World) (h:Heap),YP w h->(K w.params).In h)
  (F:∀(w:World) (mg:Str->α5) (fa:Addr) (h:Heap),YP w h->(K w.params).In h->h.Ns mainGlobals mg->mg d.name=some (.ref fa) ->
   ∃(fd:α6) (c T:Addr),PySem.W.tabIn (K w.params) "in_order"=some (c,T)/\(K w.params).lookup T=none/\PySem.W.CodeHd h c T/\h.get? T=some (PySem.W.tabObj #[])/\(∀(s:Shared) (u:Value),BindsTo s fd ⟨[u],[]⟩ [("script",u)])/\∀base:Heap,(K w.params).In base->base.Ns mainGlobals mg->PySem.W.CodeHd base c T->BmOk mg base->FnOk l.prog w (K w.params) mg base CX0 8 fa fd ["script"] (SS (K w.params))):
  PySem.W.WalkO q cm XP YP l.row.toRowW d [] (fun f vs=>PySem.call f vs):=
 L2.walk_ofT (xT := "in_order") (n:=63) (k:=8) (x := "script") (CX:=fun _=>CX0) (sp:=fun w=>SS (K w.params)) hn (by decide) lP ⟨rfl,by decide,by decide⟩ hY F (fun _ _ a _ _ ns hl ti hT hS=>⟨a,ns,rfl,hS,hl,by rw[Ra ti];exact hT,fun _=>rfl⟩) fun _ _ _ _ _ z=>z
end Mine
structure PySem.W.Fast:Prop where (tw1168240181310334250 tw14235150983761732618 tw6082432969654809323 tw9584982404351829085 tw10688591099359677754 tw16258902813619563746 tw5129943052969303029 tw2740341009766871877 tw12838036710104712633 tw1825958788842090883 tw4778171229621549477 tw4010961666199724725 tw11195736443042737595 tw16532902975489295285 tw8871734065438311907 tw6291122716472336752 tw14252148890961604370 tw4072032476383695347 tw9695631613450868458 tw15023975153211221883 tw7572404939989419065 tw225408704837873139 tw8968385671140427378 tw9968180443109607291 tw5281139482287621394 tw125849593153275339 tw16372485063909843374 tw15844792744278509928 tw5737327030928116306 tw11536828834112942710 tw18397989931928398892 tw15505545156035412513 tw10531239200248194515 tw15938305448199675053 tw12658986644078540717 tw16262823829403342182 tw15163589643512704192 tw7090029235720479444 tw16316964830696395423 tw17526475588514612063 tw12333537458834800570 tw7440226793216009674 tw14894536989147446480 tw10670760640025517066 tw15396191513350451247 tw4648783216706421515 tw10833391798390669084 tw9850754011042553956 tw7230532711785154146 tw1020761649878356537 tw2330460740316015737 tw2803484037543749146 tw568371629504974412 tw3882237316833993869 tw16975719028088904100 tw16469387706136346291 tw13966063056116641806 tw17463934445727247931 tw1896800905915785658 tw8315534277178283555 tw4897894453972688484 tw15199000546657069318 tw3119745379665201611 tw17608139164931866363 tw5765500513520695160 tw15990160360172371553 tw9187500155078000120 tw13684141608387122464 tw13745004740665613184 tw8824254128967740445 tw6915818720204301847 tw482778617552095898 tw15852545587722600859 tw11167625398697190173 tw585137537725537390 tw9252434224227790727 tw14150583596498097511 tw13160339360165244976 tw652567011812380882 tw12870878860905516440 tw15497200617550477116 tw318716319536364909 tw9525207424646736670 tw1853325901599273558 tw18175205712002806105 tw4764738086087218587 tw3809063697966978770 tw6964188197435033237 tw13796999315297398451 tw9762612561321770235 tw15464529518315760713 tw12162567678145498989 tw16641800540779234784 tw15147154247128800598 tw8946531539298297371 tw10909787922135958835 tw4285546465386926359 tw6443716281076603451 tw4940178814695075482 tw4257401119071970004 tw11649726142595570109 tw14074880796020370266 tw12685786854434773404 tw6641781269761447442 tw4368780245419483105 tw14579827626355639559 tw3791348887256658445 tw16250502863966536561 tw6507484981409233799 tw17379179315747890182 tw11876067981886555862 tw17229542881724332273 tw10890989675965155958 tw8343984302352875245 tw11876684515191766568 tw13642812573949670918 tw10967473446990954594 tw4167949065837213086 tw4568321879104310255 tw14910831875581556776 tw6536017952351725058 tw2424308937797960686 tw1256415243147958747 tw11813198118888910187 tw3157747220248869549 tw6268655255514601641 tw5722462455253492493 tw18429148240867302085 tw15013241323148773885 tw10143123907874502935 tw17881822797509498824 tw5438154648246143678 tw537330098960003946 tw7135566818310562110 tw11791838910408047653 tw16893561269527779656 tw12021975575802920217 tw12006577502195000951 tw10881964782141012038 tw11879909667652771817 tw10593005372823640266 tw4971459223689612831 tw16574764593848921342 tw2917134141687801610 tw14134856635907492324 tw8738977232320331625 tw8850177047039276091 tw6769586581997382859 tw3775133082917392818 tw15614181031425098523 tw11203752072449811146 tw1587332699764212638 tw13576820429808663877 tw13300426927870435956 tw11174612238147033223 tw9292266136906367281 tw4073853307302359579 tw2964584505731108014 tw2902988995583355795 tw5379406972406514451 tw12880126624825842720 tw13273007089333332689 tw6603882783206703225 tw2886660908566345434 tw11243479587940572871 tw16449805748794125138 tw7492833347411390765 tw12953621696071447432 tw16652432666743352427 tw11156616599198482235 tw954589297985420400 tw16608073239597261766 tw5763914976383527164 tw7036989893782177557 tw15637340237696492352 tw10440800222439320776 tw9975583423462162190 tw17991180884414642498 tw13585931821495993708 tw16786256595683288908 tw8668092079165938895 tw14065856410795360601 tw12251569692726457608 tw18424169862215078125 tw16506194226543479043 tw12499874323704133180 tw15202045013526876487 tw16467069205155259574 tw16723044184678214845 tw6312625228364121639 tw1132496504942817589 tw10011228248476386927 tw8037592137594046197 tw13657151305800462809 tw5049108232474721432 tw16368866070264818482 tw6717591949260004225 tw9278687038737829577 tw4354537783813958829 tw17356056902581901317 tw14178261142797430154 tw2234653109498462116 tw2004054996074823998 tw10362660611300099188 tw17682920174363731774 tw16789984365534412812 tw9913207865636612790 tw8062518942305600325 tw6865449779261830182 tw9747742802774739784 tw2014911689800891062 tw4894359904740969063 tw280509150939073277 tw15517445402086474660 tw99518795440956345 tw2896612856873236079 tw21863492215404440 tw17681943470536550842 tw13312344858088220930 tw3043285155200959283 tw8497746697363655080 tw17652963265730312131 tw5681020534157980728 tw3189260949822798046 tw13652195870217756335 tw2872906670181245580 tw8595584995532323974 tw784580156827502134 tw1808884321243969074 tw7050363284928692243 tw37336259916353865 tw17540040221459455696 tw6764283171649411268 tw14332940507244673978 tw10315370462303268791 tw5902589815767670627 tw6191383446298260580 tw18010346251034520522 tw7578949450134920345 tw4901512028565383878 tw15593113252904203245 tw14277930707318557852 tw14821124014951861222 tw5583324385950128449 tw16792999898423172073 tw14758714750224501955 tw2067135326600758116 tw5800957820725245615 tw1747136779090614296 tw3778054230504176642 tw6388131839760149098 tw7124299478137525371 tw12363113692119198438 tw9256706498934759267 tw1833909302151381901 tw6515448618276203393 tw8849678288210021905 tw778423184550759809 tw10347920119962829256 tw5981048822767991016 tw1547404441974478153 tw14706627582395693740 tw1586722173669649132 tw5849699310242166382 tw6187086885808816616 tw10454599452925948082 tw2853330033382560796 tw5745905691727022474 tw6064242280444466393 tw11337818569692812842 tw13519969374115338275 tw6940803186388511128 tw8009367654485289995 tw7072856213834875720 tw17980201349146906578 tw11038733794693263510 tw5054188869645643517 tw5742111879154188397 tw9743364624143276760 tw697375709977578628 tw13611450158596644002 tw820835933696095907 tw16790093353268992103 tw8997046897051549063 tw15519455189217709861 tw13432310046405325140 tw6962498047681235969 tw14492508978237456054 tw7835131318388005927 tw2017977608281435912 tw9522244127089949893 tw6539321144621775712 tw12818765044876527632 tw4694518465071093810 tw17280676012817492497 tw1036479134948433722 tw4051278023120546173 tw4414239635548652438 tw11830752406950430599 tw12030008580478175704 tw8311797126990720032 tw18046585449914795579 tw3930501043106559337 tw16370793035030098733 tw4621174295611520283 tw4584539898792360075 tw10250976264829855990 tw1955312212145155028 tw13808108080589403488 tw1390854785343435489 tw11998789175951596602 tw4681250160556061911 tw4858217649071592184 tw8861098797034330758 tw1186676617139758791 tw9442636955322791344 tw14879369851694646176 tw6535480128391208704 tw4661838657969384731:True)
open PySem PySem.W PyProof.Rows
set_option maxRecDepth 100000 in
set_option maxHeartbeats 0 in
theorem PySem.Challenge.cw_guessroom_k27_whole_slim_suite_is_enough_holds : PySem.Challenge.rw_guessroom_k27_whole_slim_suite_is_enough.Holds := by
  w_on; o_law; k_head; (case hw => w_witness2)
  k_fill
  refine Mine.walk (l := PySem.Challenge.rw_guessroom_k27_whole_slim_suite_is_enough) rfl rfl (fun w h Y => PySem.W.km_in_of Y) ?F
  case F =>
    intro w mg fa h Y KX G hmg
    refine' Mine.all_mk KX G hmg ?j_is_word ?j_check_word ?j_next_word ?j_words_to ?j_trail ?j_room_behind ?j_mark_behind ?j_words_in ?j_ways_in ?j_reached ?j_numbered ?j_words_and_classes ?j_tellers ?j_classes_of ?j_homes ?j_least ?a_j0 ?l_j0 ?lc_in_order ?hx_in_order ?kt_in_order ?ch_in_order ?tb_in_order ?c_j0 ?k_j0 ?j_marks_from_each_room ?j_own_tellers ?j_tellers_of_each_room ?j_words_with ?j_slim ?j_trials_of ?j_first_failed ?j_passes ?j__law_cell_at ?j__law_mixed ?j__law_marks_by ?j__law_ways_by ?j__law_blown ?j__law_house_by ?j__law_more_by ?j__law_order_of ?j__law_spoiled ?j__law_turned_by ?j__law_classes ?j__law_base ?j__law_rival_by ?j__law_word_by ?j__law_is_word ?j__law_walk ?j_law ?z_all ?z_bool ?z_enumerate ?z_int ?z_isinstance ?z_len ?z_list ?z_max ?z_min ?z_range ?z_sorted ?z_tuple ?z_zip
    all_goals try unfold L2.HA
    all_goals try unfold L2.HL
    (case j_is_word|j_check_word|j_next_word|j_words_to|j_trail|j_room_behind|j_mark_behind|j_words_in|j_ways_in|j_reached|j_numbered|j_words_and_classes|j_tellers|j_classes_of|j_homes|j_least|j_marks_from_each_room|j_own_tellers|j_tellers_of_each_room|j_words_with|j_slim|j_trials_of|j_first_failed|j_passes|j__law_cell_at|j__law_mixed|j__law_marks_by|j__law_ways_by|j__law_blown|j__law_house_by => constructor; k_is; apply L2.fun_mk <;> k_is)
    (case j__law_more_by|j__law_order_of|j__law_spoiled|j__law_turned_by|j__law_classes|j__law_base|j__law_rival_by|j__law_word_by|j__law_is_word|j__law_walk|j_law => constructor; k_is; apply L2.fun_mk <;> k_is)
    (case a_j0|l_j0|lc_in_order|c_j0|k_j0|z_all|z_bool|z_enumerate|z_int|z_isinstance|z_len|z_list|z_max|z_min|z_range|z_sorted|z_tuple|z_zip=>k_is)
    (case hx_in_order => exact rfl)
    (case kt_in_order => first | k_is | kernel_rfl | exact rfl)
    (case ch_in_order => first | k_is | kernel_rfl)
    (case tb_in_order => exact PySem.W.km_tabs_of Y _ (.head _))
