import PyProof.Rows.All
import Wide.All
import OpenK.AllK
import Wide.FinOn
import Lean
import PyProof.EqAt
import PyProof.EqKinds
import PyProof.TupleCall
import KE.KRevIter
import PyProof.ListRange
import PyProof.TupleOfGen
import PyProof.Draws
import PyProof.EnumMake
import PyProof.EnumFor
import PyProof.NeKinds
import KE.KDictList
import PyProof.Rows.TupDisplay
import PyProof.ZipIter
import PyProof.Rows.ZipGen
import KE.KItemsList
import PyProof.Rows.SumAny
import PyProof.StrWalks
import PyProof.StrCalls
import PyProof.StrCalls3
import PyProof.StrLawsFirst
import PyProof.StrLawsIn
import PyProof.SliceStr2
import PyProof.StrBlockI
import PyProof.Rows.StrWeight2
import PyProof.ListNew
import PyProof.DictRoadsH
import PyProof.WalkInts
import PyProof.Rows.MinMaxN
import KE.KDictLaws
import PyProof.StrCalls2
import PyProof.StrLawsChain
import KE.KIntText
import KE.KxText
import KE.KMinKey
import KE.KPairComp
import PyProof.MaxThree
import PyProof.DictWalks
import OpenK.KCls
import PyProof.Rows.SortShellK
import KE.KSortTup
import KE.KLam
import KE.KNestM
import PyProof.AttrMissHeap
import KE.KDictOf
import PyProof.TupleKey
import PyProof.SetKind
import PyProof.IsRules
import PyProof.Rows.SetFrom
import PySem.Challenge.RW_guessroom_k59_whole_any_say_teacher
set_option compiler.extract_closed false
local macro_rules | `(s!$_) => `(by lia)
namespace Al
noncomputable abbrev ja_:=@PySem.wpAny_bind
noncomputable abbrev jb_:=@List.length_map
noncomputable abbrev jc_:=@List.getElem?_eq_some_iff
noncomputable abbrev jd_:=@PySem.Heap.get?_push_of_some
noncomputable abbrev je_:=@PySem.wpAny_pure
noncomputable abbrev jf_:=@List.mem_of_getElem?
noncomputable abbrev jg_:=@List.size_toArray
noncomputable abbrev jh_:=@List.getElem?_eq_getElem
noncomputable abbrev ji_:=@List.getElem?_map
noncomputable abbrev jj_:=@List.length_append
noncomputable abbrev jk_:=@PySem.Heap.lt_size
noncomputable abbrev jl_:=@Nat.le_refl
noncomputable abbrev jm_:=@Bool.false_ne_true
noncomputable abbrev jn_:=@List.map_append
noncomputable abbrev jo_:=@PySem.Heap.get?_push_size
noncomputable abbrev jp_:=@List.length_singleton
noncomputable abbrev jq_:=@List.getD_eq_getElem?_getD
noncomputable abbrev jr_:=@PySem.W.mg_of
noncomputable abbrev js_:=@List.mem_singleton
noncomputable abbrev jt_:=@Option.some.inj
noncomputable abbrev ju_:=@List.mem_cons_of_mem
noncomputable abbrev jv_:=@PySem.boot_len
noncomputable abbrev jw_:=@List.getElem?_append_left
noncomputable abbrev jx_:=@List.length_take
noncomputable abbrev jy_:=@Nat.lt_of_lt_of_le
noncomputable abbrev jz_:=@PySem.PassesOwn.never
noncomputable abbrev jA_:=@List.mem_cons
noncomputable abbrev jB_:=@Int.toNat_natCast
noncomputable abbrev jC_:=@PySem.F.slot_dict_itemiterator_next
noncomputable abbrev jD_:=@List.take_add_one
noncomputable abbrev jE_:=@PyProof.Rows.boot_tuple
noncomputable abbrev jF_:=@Nat.ne_of_lt
noncomputable abbrev jG_:=@List.mem_cons_self
noncomputable abbrev jH_:=@List.mem_map
noncomputable abbrev jI_:=@PySem.F.plainAttrs_list
noncomputable abbrev jJ_:=@List.getElem?_append_right
noncomputable abbrev jK_:=@List.mem_append
noncomputable abbrev jL_:=@List.length_cons
noncomputable abbrev jM_:=@PySem.wpAny_callSpecial?_slot
noncomputable abbrev jN_:=@PySem.wpAny_newObj_type
noncomputable abbrev jO_:=@List.take_length
noncomputable abbrev jP_:=@PySem.wpAny_typeNameOfWhole_itemiter
noncomputable abbrev jQ_:=@List.map_cons
noncomputable abbrev jR_:=@decide_eq_true
noncomputable abbrev jS_:=@PySem.wpAny_call_entry
noncomputable abbrev jT_:=@PyProof.Rows.boot_isinstance
noncomputable abbrev jU_:=@List.mem_append_right
noncomputable abbrev jV_:=@List.getElem?_eq_none
noncomputable abbrev jW_:=@List.mem_iff_getElem?
noncomputable abbrev jX_:=@PySem.wpAny_setField_rec
noncomputable abbrev jY_:=@decide_eq_false
noncomputable abbrev jZ_:=@List.map_congr_left
noncomputable abbrev j0_:=@PyProof.Rows.boot_list
noncomputable abbrev j1_:=@Nat.ne_of_gt
noncomputable abbrev j2_:=@PySem.F.slot_list_append
noncomputable abbrev j3_:=@PySem.F.type_list_append
noncomputable abbrev j4_:=@List.length_range
noncomputable abbrev j5_:=@Bool.false_eq_true
noncomputable abbrev j6_:=@List.getElem_of_mem
noncomputable abbrev j7_:=@PySem.wpAny_typeNameOf_itemiter
noncomputable abbrev j8_:=@Nat.mul_le_mul
noncomputable abbrev j9_:=@List.mem_append_left
noncomputable abbrev qa_:=@PySem.W.kia_one
noncomputable abbrev qb_:=@PySem.wpAny_field
noncomputable abbrev qc_:=@PyProof.Rows.slot_tuple_getitem
noncomputable abbrev qd_:=@PySem.W.mg_none_of
noncomputable abbrev qe_:=@List.nodup_iff_pairwise_ne
noncomputable abbrev qf_:=@Nat.lt_irrefl
noncomputable abbrev qg_:=@Array.length_toList
noncomputable abbrev qh_:=@Bool.eq_iff_iff
noncomputable abbrev qi_:=@Nat.le_trans
noncomputable abbrev qj_:=@Ne.symm
noncomputable abbrev qk_:=@PySem.Heap.get?_update_other
noncomputable abbrev ql_:=@List.getElem?_take
noncomputable abbrev qm_:=@List.length_replicate
noncomputable abbrev qn_:=@Array.getElem?_toList
noncomputable abbrev qo_:=@decide_eq_true_eq
noncomputable abbrev qp_:=@Nat.zero_le
noncomputable abbrev qq_:=@PySem.F.args_dict_itemiterator_next_1
noncomputable abbrev qr_:=@List.map_singleton
noncomputable abbrev qs_:=@List.find?_eq_none
noncomputable abbrev qt_:=@List.mem_range
noncomputable abbrev qu_:=@PySem.Heap.size_push
noncomputable abbrev qv_:=@PySem.F.entry_dict_itemiterator_next
noncomputable abbrev qw_:=@List.getElem_mem
noncomputable abbrev qx_:=@PySem.mem_of_lookup
noncomputable abbrev qy_:=@List.getElem?_range
noncomputable abbrev qz_:=@PySem.Heap.get?_update_self
noncomputable abbrev qA_:=@List.nodup_append
noncomputable abbrev qB_:=@PySem.F.slot_dict_keyiterator_next
noncomputable abbrev qC_:=@PySem.wpAny_holding
noncomputable abbrev qD_:=@PyProof.Rows.callWith_type1
noncomputable abbrev qE_:=@List.nodup_cons
noncomputable abbrev qF_:=@List.range_succ
noncomputable abbrev qG_:=@Iff.rfl
noncomputable abbrev qH_:=@PySem.wpAny_mono
noncomputable abbrev qI_:=@List.length_drop
noncomputable abbrev qJ_:=@Bool.and_eq_true
noncomputable abbrev qK_:=@List.lookup_cons
noncomputable abbrev qL_:=@PySem.F.slot_tuple_iterator_next
noncomputable abbrev qM_:=@if_false
noncomputable abbrev qN_:=@PySem.Calls.callWith_builtin
noncomputable abbrev qO_:=@PySem.wpAny_isOneOf_itemiter
noncomputable abbrev qP_:=@PySem.wpAny_truthy_bool
noncomputable abbrev qQ_:=@PySem.wpAny_dictEntries
noncomputable abbrev qR_:=@PySem.F.plain_extend_loop
noncomputable abbrev qS_:=@List.find?_cons
noncomputable abbrev qT_:=@PySem.F.slot_dict_get
noncomputable abbrev qU_:=@congrArg
noncomputable abbrev qV_:=@PySem.wpAny_typeNameOfWhole_keyiter
noncomputable abbrev qW_:=@PySem.wpAny_attempt
noncomputable abbrev qX_:=@PySem.wpAny_seqItems
noncomputable abbrev qY_:=@PySem.wpAny_dictEpoch
noncomputable abbrev qZ_:=@PySem.Heap.SameBut.update
noncomputable abbrev q0_:=@List.mem_map_of_mem
noncomputable abbrev q1_:=@List.length_flatMap
noncomputable abbrev q2_:=@List.take_of_length_le
noncomputable abbrev q3_:=@List.not_mem_nil
noncomputable abbrev q4_:=@Option.isSome_some
noncomputable abbrev q5_:=@List.map_map
noncomputable abbrev q6_:=@Int.zero_add
noncomputable abbrev q7_:=@if_true
noncomputable abbrev q8_:=@PySem.wpAny_fieldsOf
noncomputable abbrev q9_:=@Array.getElem?_eq_getElem
noncomputable abbrev xa_:=@List.mem_of_find?_eq_some
noncomputable abbrev xb_:=@List.mem_filter
noncomputable abbrev xc_:=@PySem.wpAny_passesOwn
noncomputable abbrev xd_:=@List.length_nil
noncomputable abbrev xe_:=@List.foldl_append
noncomputable abbrev xf_:=@PySem.wpAny_typeNameOf_keyiter
noncomputable abbrev xg_:=@of_decide_eq_true
noncomputable abbrev xh_:=@beq_eq_false_iff_ne
noncomputable abbrev xi_:=@PySem.F.plainAttrs_dict
noncomputable abbrev xj_:=@PySem.F.slot_dict_items
noncomputable abbrev xk_:=@List.length_pos_iff
noncomputable abbrev xl_:=@List.mem_flatMap
noncomputable abbrev xm_:=@List.take_zero
noncomputable abbrev xn_:=@PySem.F.entry_dict_get
noncomputable abbrev xo_:=@PySem.wpAny_Call_Name_kw
noncomputable abbrev xp_:=@PySem.W.callWith_K
noncomputable abbrev xq_:=@PySem.tupleKind_room_in1
noncomputable abbrev xr_:=@List.map_inj_right
noncomputable abbrev xs_:=@List.foldl_cons
noncomputable abbrev xt_:=@PySem.F.slot_zip_next
noncomputable abbrev xu_:=@PySem.F.excBase_ValueError
noncomputable abbrev xv_:=@PySem.Calls.evalArgs_plain
noncomputable abbrev xw_:=@List.nodup_nil
noncomputable abbrev xx_:=@PySem.wpAny_setField
noncomputable abbrev xy_:=@List.getElem?_zip_eq_some
noncomputable abbrev xz_:=@Classical.byContradiction
noncomputable abbrev xA_:=@List.pairwise_iff_getElem
noncomputable abbrev xB_:=@List.drop_eq_getElem_cons
noncomputable abbrev xC_:=@List.all_eq_true
noncomputable abbrev xD_:=@List.prefix_refl
noncomputable abbrev xE_:=@Nat.le_of_lt
noncomputable abbrev xF_:=@Option.isSome_iff_exists
noncomputable abbrev xG_:=@PySem.F.args_tuple_add_2
noncomputable abbrev xH_:=@PySem.F.args_tuple_iterator_next_1
noncomputable abbrev xI_:=@PySem.Calls.spliced_cons
noncomputable abbrev xJ_:=@PySem.F.entry_tuple_add
noncomputable abbrev xK_:=@PySem.wpAny_Call_method0_late
noncomputable abbrev xL_:=@List.getElem?_cons_zero
noncomputable abbrev xM_:=@PySem.Obj.data_mapFields
noncomputable abbrev xN_:=@PySem.F.entry_tuple_iterator_next
noncomputable abbrev xO_:=@Option.toList_some
noncomputable abbrev xP_:=@List.find?_some
noncomputable abbrev xQ_:=@Option.isSome_none
noncomputable abbrev xR_:=@Int.emod_nonneg
noncomputable abbrev xS_:=@Int.emod_lt_of_pos
noncomputable abbrev xT_:=@PySem.F.slot_tuple_add
noncomputable abbrev xU_:=@Array.getElem?_eq_none
noncomputable abbrev xV_:=@List.sum_replicate_nat
noncomputable abbrev xW_:=@Option.map_eq_none_iff
noncomputable abbrev xX_:=@List.ext_getElem?
noncomputable abbrev xY_:=@List.append_assoc
noncomputable abbrev xZ_:=@List.drop_zero
noncomputable abbrev x0_:=@PySem.W.methodCall_KW
noncomputable abbrev x1_:=@PySem.wpAny_notOrdered_dict
noncomputable abbrev x2_:=@PySem.wpAny_isOneOf_keyiter
noncomputable abbrev x3_:=@List.getElem_inj
noncomputable abbrev x4_:=@PySem.wpAny_isInstance
noncomputable abbrev x5_:=@Nat.le_add_right
noncomputable abbrev x6_:=@List.getElem_map
noncomputable abbrev x7_:=@PySem.wpAny_updateSeq_pair
noncomputable abbrev x8_:=@List.mem_of_mem_drop
noncomputable abbrev x9_:=@PySem.Paired.length
noncomputable abbrev za_:=@beq_iff_eq
noncomputable abbrev zb_:=@List.filterMap_cons
noncomputable abbrev zc_:=@PySem.wpAny_execs_nil
noncomputable abbrev zd_:=@PySem.W.plainGet_of
noncomputable abbrev ze_:=@PySem.evalArgs_none
noncomputable abbrev zf_:=@PySem.wpAny_updateSeq
noncomputable abbrev zg_:=@Nat.mul_le_mul_left
noncomputable abbrev zh_:=@List.mem_filterMap
noncomputable abbrev zi_:=@List.map_nil
noncomputable abbrev zj_:=@Nat.sub_zero
noncomputable abbrev zk_:=@List.getElem_idxOf
noncomputable abbrev zl_:=@PySem.W.kitx_list
noncomputable abbrev zm_:=@Option.some.injEq
noncomputable abbrev zn_:=@List.getElem_take
noncomputable abbrev zo_:=@List.pairwise_map
noncomputable abbrev α0:=List (List (List Int))
noncomputable abbrev α1:=List (List Int)
noncomputable abbrev α2:=List Int
noncomputable abbrev α3:=PySem.W.Frag
noncomputable abbrev α5:=Option PySem.Value
noncomputable abbrev α6:=PySem.FuncData
noncomputable abbrev α7:=List (PySem.Addr×PySem.Obj)
end Al
open Al
open PySem.W (nsIn keepIn codeIn fnOf kitOne exmOne)
set_option Elab.async false
set_option linter.all false
set_option maxRecDepth 100000
namespace L2
open PySem PySem.Spec PyProof.Rows
noncomputable abbrev Key:=Sum Int Str
noncomputable def Fj_:Key->Value->Bool
 |.inl k,v=>Value.isInt k v
 |.inr x,v=>Value.isStrOf x v
noncomputable def keyH (w:World):Key->Int
 |.inl k=>hashInt k
 |.inr x=>hashStr w x
theorem EC:∀{k:Key} {v:Value},Fj_ k v=true->(∃i t,k=Sum.inl i/\v=Value.int i t)\/(∃x t,k=Sum.inr x/\v=Value.str x t)
 |.inl i,v,h=>by
  obtain⟨t,e⟩:=Value.isInt_shape (k:=i) (v:=v) h
  exact .inl ⟨i,t,rfl,e⟩
 |.inr x,v,h=>by
  obtain⟨t,e⟩:=Value.isStrOf_shape (x:=x) (v:=v) h
  exact .inr ⟨x,t,rfl,e⟩
theorem Gj_ (i:Int)(t:Tok):Fj_ (.inl i) (.int i t)=true:=by simp[Fj_,Value.isInt]
theorem Gk_ (x:Str)(t:Tok):Fj_ (.inr x) (.str x t)=true:=by simp[Fj_,Value.isStrOf]
theorem LK_ (a b:Int):decide ((Sum.inl a:Key)=Sum.inl b)=(a==b):=by
 by_cases e:a=b
 ·subst e;simp
 ·have h:¬ (Sum.inl a:Key)=Sum.inl b:=fun q=>e (Sum.inl.inj q)
  rw[jY_ h]
  exact (xh_.mpr e).symm
theorem LL_ (a b:Str):decide ((Sum.inr a:Key)=Sum.inr b)=decide (a=b):=by
 by_cases e:a=b
 ·subst e;simp
 ·have h:¬ (Sum.inr a:Key)=Sum.inr b:=fun q=>e (Sum.inr.inj q)
  rw[jY_ h,jY_ e]
theorem LM_ (a:Int)(b:Str):decide ((Sum.inl a:Key)=Sum.inr b)=false:=jY_ (fun q=>nomatch q)
theorem LN_ (a:Str)(b:Int):decide ((Sum.inr a:Key)=Sum.inl b)=false:=jY_ (fun q=>nomatch q)
noncomputable def ED (prog:Program)(w:World):PySem.KeyKind prog w Key where
 is:=Fj_
 hash:=keyH w
 inj:=fun v a b ha hb=>by
  rcases EC ha with ⟨i,t,rfl,rfl⟩|⟨x,t,rfl,rfl⟩
  ·rcases EC hb with ⟨j,u,rfl,e⟩|⟨y,u,rfl,e⟩
   ·injection e with e1 _;rw[e1]
   ·exact nomatch e
  ·rcases EC hb with ⟨j,u,rfl,e⟩|⟨y,u,rfl,e⟩
   ·exact nomatch e
   ·injection e with e1 _;rw[e1]
 byValue:=fun k v h=>by
  rcases EC h with ⟨i,t,rfl,rfl⟩|⟨x,t,rfl,rfl⟩<;>rfl
 pyHash:=fun hv h=>by
  rcases EC hv with ⟨i,t,rfl,rfl⟩|⟨x,t,rfl,rfl⟩
  ·exact wpAny_pyHash_int h
  ·exact wpAny_pyHash_str h
 eqBool:=fun hu hv h=>by
  rcases EC hu with ⟨i,t,rfl,rfl⟩|⟨x,t,rfl,rfl⟩
  ·rcases EC hv with ⟨j,u,rfl,rfl⟩|⟨y,u,rfl,rfl⟩
   ·rw[LK_]at h;exact wpAny_eqBool_int h
   ·rw[LM_]at h;exact SeqAt.EqAt.int_str i t y u _ _ _ _ h
  ·rcases EC hv with ⟨j,u,rfl,rfl⟩|⟨y,u,rfl,rfl⟩
   ·rw[LN_]at h;exact SeqAt.EqAt.str_int x t j u _ _ _ _ h
   ·rw[LL_]at h;exact wpAny_eqBool_str h
 «strs» := fun k x t v h=>by
  rcases EC h with ⟨i,u,rfl,e⟩|⟨y,u,rfl,e⟩
  ·exact nomatch e
  ·injection e with e1 _
   subst e1
   cases v<;>rfl
theorem CU_ (prog:Program)(w:World)(i:Int)(t:Tok):(ED prog w).is (.inl i) (.int i t)=true:=Gj_ i t
theorem CV_ (prog:Program)(w:World)(x:Str)(t:Tok):(ED prog w).is (.inr x) (.str x t)=true:=Gk_ x t
inductive V where
 | non|bl (b:Bool)|int (i:Int)|str (x:Str)|byt (b:Array UInt8)|flt (b:UInt64)|ref (a:Addr)|ty (n:String)
 deriving DecidableEq
noncomputable def RelV:V->Value->Prop
 |.non,u=>u=Value.none
 |.bl b,u=>u=Value.bool b
 |.int i,u=>∃t,u=Value.int i t
 |.str x,u=>∃t,u=Value.str x t
 |.byt b,u=>∃t,u=Value.bytes b t
 |.flt b,u=>∃t,u=Value.float b t
 |.ref a,u=>u=Value.ref a
 |.ty n,u=>u=Value.type n
noncomputable abbrev Vals:List V->List Value->Prop:=Paired RelV
theorem Vals.length   (r:Vals xs us):xs.length=us.length:=x9_ r
theorem Vals.get:∀{xs:List V} {us:List Value} {i:Nat} {x:V},Vals xs us->xs[i]?=some x->∃u,us[i]?=some u/\RelV x u
 |_,_,_,_,.nil,e=>by simp at e
 |_,_,0,_,.cons r _,e=>by simp at e;subst e;exact⟨_,rfl,r⟩
 |_,_,i+1,x,.cons _ t,e=>by
  obtain⟨u,h1,h2⟩:=Vals.get (i:=i) (x:=x) t (by simpa using e)
  exact⟨u,by simpa using h1,h2⟩
theorem Vals.set {x:V}{u:Value}(r:RelV x u):∀{xs:List V} {us:List Value} (i:Nat),Vals xs us->Vals (xs.set i x) (us.set i u)
 |_,_,_,.nil=>.nil
 |_,_,0,.cons _ t=>.cons r t
 |_,_,i+1,.cons q t=>.cons q (Vals.set r i t)
theorem Vals.append:∀{xs ys:List V} {us ws:List Value},Vals xs us->Vals ys ws->Vals (xs++ys) (us++ws)
 |_,_,_,_,.nil,s=>s
 |_,_,_,_,.cons r t,s=>.cons r (Vals.append t s)
theorem Vals.take:∀{xs:List V} {us:List Value} (n:Nat),Vals xs us->Vals (xs.take n) (us.take n)
 |_,_,0,_=>.nil
 |_,_,_+1,.nil=>.nil
 |_,_,n+1,.cons r t=>.cons r (Vals.take n t)
theorem Vals.drop:∀{xs:List V} {us:List Value} (n:Nat),Vals xs us->Vals (xs.drop n) (us.drop n)
 |_,_,0,r=>r
 |_,_,_+1,.nil=>.nil
 |_,_,n+1,.cons _ t=>Vals.drop n t
noncomputable def RelO:Option V->α5->Prop
 |some v,some u=>RelV v u
 |none,none=>True
 |_,_=>False
noncomputable def KV {κ:Type}:List (κ×V)->List (κ×Value)->Prop:=Paired fun (p:κ×V) (q:κ×Value)=>p.1=q.1/\RelV p.2 q.2
noncomputable def kV:Key->V
 |.inl i=>.int i
 |.inr x=>.str x
inductive HO where
 | lst (xs:List V)
 | tup (xs:List V)
 | dK (kvs:List (Key×V))|dT (kvs:List (List Key×V))
 | set (S:Int->Bool) (n:Nat)
 | ins (C dx:Addr) (fs:List (Str×V))
 | own (x:Addr)
 | xd (fs:List (Str×V))
 | met (f x:Addr)
 | rng (lo hi:Int)
 | frz (o:Obj) (u:HO)
 | tbl (ps:Array Value)
 | ext (φ:Heap->Prop)
noncomputable abbrev Hp:=Addr->Option HO
noncomputable def upd (H:Hp)(a:Addr)(o:HO):Hp:=fun b=>if b=a then some o else H b
theorem Ab    : upd H a o a=some o:=by unfold upd;rw[if_pos rfl]
theorem Ag    (h:b≠a):upd H a o b=H b:=by unfold upd;rw[if_neg h]
theorem Nm_ {H:Hp}{a b:Addr}{o u:HO}(h:H a=some o)(h':H b=some u)(d:o≠u):a≠b:=by
 intro e;subst e;rw[h]at h';exact d (jt_ h')
theorem C2 {H:Hp}{a b:Addr}{o:HO}(h:H a=some o)(h':H b=none):a≠b:=by
 intro e;subst e;rw[h]at h';cases h'
section
variable (P:Program) (w:World)
noncomputable def C3 (H:Hp)(h:Heap)(a:Addr):HO->Prop
 |.lst xs=>xs.length<=sizeLine/\∃(its:List Value) (n:Nat),Vals xs its/\h.get? a=some {cls:=.type "list",data:=.seq its.toArray n}
 |.tup xs=>xs.length<=sizeLine/\∃its:List Value,Vals xs its/\IsTup h a its.toArray
 |.dK kvs=>kvs.length<=sizeLine/\(a==sysModules)=false/\∃vs,KV kvs vs/\h.DictOf (ED P w) a vs
 |.dT kvs=>kvs.length<=sizeLine/\(a==sysModules)=false/\∃xs:List (List Key×Addr×Value),
   Paired (fun (p:List Key×V) (q:List Key×Addr×Value)=>p.1=q.1/\H q.2.1=some (.tup (p.1.map kV))/\RelV p.2 q.2.2) kvs xs /\
   ∃o es ep,h.get? a=some o/\o.ExactDict/\o.data=.dict es ep/\es.toList=xs.map (entryOfKey (tupleKind (ED P w)))/\(xs.map (·.1)).Nodup
 |.set S n=>h.SetOf (intKind P w) a S n
 |.ins C dx fs=>H dx=some (.own a)/\fs.length<=1000/\dx≠a/\h.get? a=some (PySem.W.instObj C dx) /\
   ∃mA,h.Ns1 dx mA/\(∀f,RelO (fs.lookup f) (mA f))/\PySem.Within mA (fs.map (·.1))
 |.own _=>∃o,h.get? a=some o
 |.xd fs=>∃mA,h.Ns1 a mA/\∀f,RelO (fs.lookup f) (mA f)
 |.rng lo hi=>∃t u v,h.get? a=some {cls:=.type "range",data:=.fields #[.int lo t,.int hi u,.int 1 v]}
 |.frz o u=>h.get? a=some o/\C3 H h a u
 |.tbl ps=>h.get? a=some {cls:=.none,data:=.fields ps}
 |.met f x=>h.get? a=some (PySem.W.methodObj (.ref f) (.ref x))
 |.ext φ=>φ h/\(∃o,h.get? a=some o)/\∀h1 h2:Heap,φ h1->(∀o,h1.get? a=some o->h2.get? a=some o)->φ h2
noncomputable def HOk (H:Hp)(h:Heap):Prop:=∀a o,H a=some o->C3 P w H h a o
end
section
variable {P:Program} {w:World} {H H':Hp} {h h':Heap} {a:Addr} {o:HO}
theorem C3.lt (x:C3 P w H h a o):a<h.objs.size:=by
 cases o with
 |lst xs=>obtain⟨_,_,_,_,e⟩:=x;exact jk_ e
 |tup xs=>obtain⟨_,_,_,p⟩:=x;exact p.lt
 |dK kvs=>obtain⟨_,_,_,_,o,_,_,e,_⟩:=x;exact jk_ e
 |dT kvs=>obtain⟨_,_,_,_,o,_,_,e,_⟩:=x;exact jk_ e
 |set S n=>obtain⟨o,_,_,_,e,_⟩:=x;exact jk_ e
 |ins C dx fs=>obtain⟨_,_,_,e,_⟩:=x;exact jk_ e
 |own y=>obtain⟨_,e⟩:=x;exact jk_ e
 |xd fs=>obtain⟨_,⟨_,_,_,e,_⟩,_⟩:=x;exact jk_ e
 |rng lo hi=>obtain⟨_,_,_,e⟩:=x;exact jk_ e
 |frz ob u=>obtain⟨e,_⟩:=x;exact jk_ e
 |tbl ps=>exact jk_ (show h.get? a=some _ from x)
 |met f y=>exact jk_ (show h.get? a=some _ from x)
 |ext φ=>obtain⟨_,⟨_,e⟩,_⟩:=x;exact jk_ e
theorem Paired.mapP {α β:Type}{F G:α->β->Prop}:∀{l₁:List α} {l₂:List β},Paired F l₁ l₂->(∀a b,F a b->G a b)->Paired G l₁ l₂
 |_,_,.nil,_=>.nil
 |_,_,.cons r t,f=>.cons (f _ _ r) (Paired.mapP t f)
theorem C3.stay (x:C3 P w H h a o)(k:∀b u,(b=a\/H b=some (.own a))->h.get? b=some u->h'.get? b=some u)
  (ho:∀b,H b=some (.own a)->H' b=some (.own a)) (ht:∀b xs,H b=some (.tup xs)->H' b=some (.tup xs)):C3 P w H' h' a o:=by
 induction o with
 |lst xs=>obtain⟨z,its,n,r,e⟩:=x;exact⟨z,its,n,r,k _ _ (.inl rfl) e⟩
 |tup xs=>obtain⟨z,its,r,ob,e,c⟩:=x;exact⟨z,its,r,ob,k _ _ (.inl rfl) e,c⟩
 |dK kvs=>obtain⟨z,y,vs,r,ob,es,ep,e,c⟩:=x;exact⟨z,y,vs,r,ob,es,ep,k _ _ (.inl rfl) e,c⟩
 |dT kvs=>
  obtain⟨z,y,xs,r,ob,es,ep,e,c⟩:=x
  exact⟨z,y,xs,Paired.mapP r fun p q z=>⟨z.1,ht _ _ z.2.1,z.2.2⟩,ob,es,ep,k _ _ (.inl rfl) e,c⟩
 |set S n=>obtain⟨ob,es,ep,t,e,c⟩:=x;exact⟨ob,es,ep,t,k _ _ (.inl rfl) e,c⟩
 |ins C dx fs=>
  obtain⟨d,z,ne,e,mA,⟨od,es,ep,e2,c⟩,r⟩:=x
  exact⟨ho _ d,z,ne,k _ _ (.inl rfl) e,mA,⟨od,es,ep,k _ _ (.inr d) e2,c⟩,r⟩
 |own y=>obtain⟨ob,e⟩:=x;exact⟨ob,k _ _ (.inl rfl) e⟩
 |xd fs=>obtain⟨mA,⟨od,es,ep,e,c⟩,r⟩:=x;exact⟨mA,⟨od,es,ep,k _ _ (.inl rfl) e,c⟩,r⟩
 |rng lo hi=>obtain⟨t,u,v,e⟩:=x;exact⟨t,u,v,k _ _ (.inl rfl) e⟩
 |frz ob u ih=>obtain⟨e,q⟩:=x;exact⟨k _ _ (.inl rfl) e,ih q⟩
 |tbl ps=>
  have e:h.get? a=some {cls:=.none,data:=.fields ps}:=x
  show h'.get? a=some {cls:=.none,data:=.fields ps}
  exact k a _ (.inl rfl) e
 |met f y=>
  have e:h.get? a=some (PySem.W.methodObj (.ref f) (.ref y)):=x
  show h'.get? a=some (PySem.W.methodObj (.ref f) (.ref y))
  exact k a _ (.inl rfl) e
 |ext φ=>obtain⟨p,⟨o,e⟩,st⟩:=x;exact⟨st _ _ p fun o q=>k _ _ (.inl rfl) q,⟨o,k _ _ (.inl rfl) e⟩,st⟩
theorem HOk.lt (x:HOk P w H h)(e:H a=some o):a<h.objs.size:=(x a o e).lt
theorem HOk.fresh (x:HOk P w H h)(e:h.objs.size<=a):H a=none:=by
 cases q:H a with
 |none=>rfl
 |some u=>exact absurd (jy_ (x.lt q) e) (qf_ _)
theorem HOk.kept (x:HOk P w H h)(k:∀b u,h.get? b=some u->h'.get? b=some u):HOk P w H h':=fun a o e=>
 (x a o e).stay (fun b u _ q=>k b u q) (fun _ q=>q) fun _ _ q=>q
theorem HOk.laid (x:HOk P w H h)(k:∀b u,h.get? b=some u->h'.get? b=some u)(hp:h.objs.size<=a)(new:C3 P w (upd H a o) h' a o):HOk P w (upd H a o) h':=fun b u e=>by
 have hn:=x.fresh hp
 by_cases hb:b=a
 ·subst hb;rw[Ab]at e;cases e;exact new
 ·rw[Ag hb]at e
  exact (x b u e).stay (fun c v _ q=>k c v q) (fun c q=>by rw[Ag (C2 q hn)];exact q) fun c xs q=>by rw[Ag (C2 q hn)];exact q
end
noncomputable def Rd (H:Hp)(a:Addr)(u:HO):Prop:=H a=some u \/ ∃o,H a=some (.frz o u)
theorem Rd.ok       (r:Rd H a u)(x:HOk P w H h):C3 P w H h a u:=by
 rcases r with r|⟨o,r⟩
 ·exact x a u r
 ·obtain⟨_,q⟩:=x a _ r
  exact q
noncomputable def Mut:Option HO->Prop
 |some (.lst _)=>True
 |some (.dK _)=>True
 |some (.dT _)=>True
 |some (.set _ _)=>True
 |some (.ins _ _ _)=>True
 |some (.ext _)=>True
 |_=>False
section
variable {P:Program} {w:World} {H:Hp} {h h':Heap} {x e:Addr} {o':HO}
theorem HOk.write (ok:HOk P w H h)(mu:Mut (H x))(he:e=x\/H e=some (.own x))(k:∀b u,b≠e->h.get? b=some u->h'.get? b=some u)(heo:∃u,h'.get? e=some u)
  (new:C3 P w (upd H x o') h' x o'):HOk P w (upd H x o') h':=fun b u q=>by
 have nown:∀c y,H c=some (.own y)->c≠x:=fun c y r z=>by subst z;rw[r]at mu;exact mu
 have ntup:∀c xs,H c=some (.tup xs)->c≠x:=fun c xs r z=>by subst z;rw[r]at mu;exact mu
 by_cases hb:b=x
 ·subst hb;rw[Ab]at q;cases q;exact new
 ·rw[Ag hb]at q
  by_cases hbe:b=e
  ·have q':H b=some (.own x):=by
    rcases he with z|z
    ·exact absurd (hbe.trans z) hb
    ·rw[hbe];exact z
   rw[q]at q';cases q'
   obtain⟨v,hv⟩:=heo
   exact⟨v,by rw[hbe];exact hv⟩
  ·refine (ok b u q).stay (fun c v hc r=>k c v ?_ r) (fun c r=>by rw[Ag (nown c b r)];exact r) fun c xs r=>by rw[Ag (ntup c xs r)];exact r
   rcases hc with rfl|hc
   ·exact hbe
   ·rintro rfl
    rcases he with z|z
    ·exact nown c b hc z
    ·rw[hc]at z;cases z;exact hb rfl
end
structure Un (fs ex:List Addr)(H H':Hp)(h h':Heap):Prop where
 keep:∀b o,h.get? b=some o->H b=none->b∉fs->b∉ex->h'.get? b=some o
 slot:∀b o,h.get? b=some o->H b=none->b∈fs->b∉ex->∃sl,h'.get? b=some {o with slots:=sl}
 free:∀b o,h.get? b=some o->H b=none->b∉ex->H' b=none
 there:∀b o,h.get? b=some o->b∉ex->∃o',h'.get? b=some o'
 tups:∀b xs,H b=some (.tup xs)->H' b=some (.tup xs)
 frzs:∀b o u,H b=some (.frz o u)->H' b=some (.frz o u)
 tbls:∀b ps,H b=some (.tbl ps)->∃more,H' b=some (.tbl (ps++more))
section
variable {fs fs' ex ex':List Addr} {H H1 H2:Hp} {h h1 h2 h':Heap} {a x e:Addr} {o:HO}
theorem Un.any (u:Un fs ex H H1 h h1)   (q:h.get? b=some ob)(n:H b=none)(hx:b∉ex):∃sl,h1.get? b=some {ob with slots:=sl}:=by
 by_cases hb:b∈fs
 ·exact u.slot b ob q n hb hx
 ·exact⟨ob.slots,u.keep b ob q n hb hx⟩
theorem Un.kept (k:∀b u,h.get? b=some u->h'.get? b=some u):Un fs ex H H h h' :=
 ⟨fun b ob q _ _ _=>k b ob q,fun b ob q _ _ _=>⟨ob.slots,k b ob q⟩,fun _ _ _ n _=>n,fun b ob q _=>⟨ob,k b ob q⟩,fun _ _ q=>q,fun _ _ _ q=>q,fun _ ps q=>⟨#[],by rw[q];simp⟩⟩
theorem Un.refl:Un fs ex H H h h:=Un.kept fun _ _ q=>q
theorem Un.laid (k:∀b u,h.get? b=some u->h'.get? b=some u)(hp:h.objs.size<=a)(hn:H a=none):Un fs ex H (upd H a o) h h' where
 keep:=fun b u q _ _ _=>k b u q
 slot:=fun b u q _ _ _=>⟨u.slots,k b u q⟩
 free:=fun b u q n _=>by rw[Ag (jF_ (jy_ (jk_ q) hp))];exact n
 there:=fun b u q _=>⟨u,k b u q⟩
 tups:=fun b xs q=>by rw[Ag (C2 q hn)];exact q
 frzs:=fun b u xs q=>by rw[Ag (C2 q hn)];exact q
 tbls:=fun b ps q=>⟨#[],by rw[Ag (C2 q hn),q];simp⟩
theorem Un.write (mu:Mut (H x))(he:e=x\/H e=some (.own x))(k:∀b u,b≠e->h.get? b=some u->h'.get? b=some u)(heo:∃u,h'.get? e=some u):Un fs ex H (upd H x o) h h':=by
 have hx:∀b,H b=none->b≠x:=fun b n z=>by subst z;rw[n]at mu;exact mu
 have hb:∀b,H b=none->b≠e:=fun b n z=>by
  subst z
  rcases he with r|r
  ·exact hx b n r
  ·rw[n]at r;cases r
 have hm:∀b u,H b=some u->¬ Mut (some u)->b≠x:=fun b u q nm z=>by subst z;rw[q]at mu;exact nm mu
 refine⟨fun b u q n _ _=>k b u (hb b n) q,fun b u q n _ _=>⟨u.slots,k b u (hb b n) q⟩,fun b u q n _=>by rw[Ag (hx b n)];exact n,fun b u q _=>?_,
  fun b xs q=>by rw[Ag (hm b _ q fun z=>z)];exact q,fun b u xs q=>by rw[Ag (hm b _ q fun z=>z)];exact q,fun b ps q=>⟨#[],by rw[Ag (hm b _ q fun z=>z),q];simp⟩⟩
 by_cases hbe:b=e
 ·subst hbe;exact heo
 ·exact⟨u,k b u hbe q⟩
end
noncomputable def trk (h:Heap)(H:Hp):List Addr:=(List.range h.objs.size).filter fun a=>(H a).isSome
noncomputable def hidT (h:Heap)(H:Hp):Heap:=PySem.W.hideAll h (trk h H)
theorem Gl_ (h:Heap)(H:Hp):(hidT h H).objs.size=h.objs.size:=PySem.W.hideAll_size _ _
theorem Iq_     (e:h.get? b=some o)(n:H b=none):(hidT h H).get? b=some o:=
 PySem.W.hideAll_get _ e fun hm=>by
  have q:(H b).isSome=true:=(xb_.mp hm).2
  rw[n]at q;simp at q
theorem KM_     (e:(hidT h H).get? b=some o):h.get? b=some o/\H b=none:=by
 have e':h.get? b=some o:=PySem.W.of_hideAll (trk h H) e
 refine⟨e',?_⟩
 cases q:H b with
 |none=>rfl
 |some x=>
  have hm:b∈trk h H:=xb_.mpr ⟨qt_.mpr (jk_ e'),by simp[q]⟩
  have z:(hidT h H).get? b=none:=PySem.W.hideAll_none (trk h H) hm
  rw[z]at e;cases e
noncomputable def KN_ (g h:Heap)(L:Addr):α7:=(List.range h.objs.size).filterMap fun a=>if a=L\/(g.get? a).isSome=true then none else (h.get? a).map fun o=>(a,o)
noncomputable def rest (g h:Heap)(L d:Addr):α7:=(KN_ g h L).filter fun p=>decide (p.1≠d)
end L2
namespace L2
open PySem PySem.Spec PyProof.Rows
structure Mod (K:α3)(mg:Str->α5)(base:Heap):Prop where
 kin:K.In base
 glob:base.Ns mainGlobals mg
 blt:∃mb,base.Ns builtinsNs mb/\∀x:Str,x ≠ "__name__" -> mb x=bootBuiltins x
 nolimit:base.NoLimit
structure Cx where
 prog:Program
 w:World
 K:α3
 mg:Str->α5
 base:Heap
 A:Around
 N:List Str
 s₀:Shared
 H₀:Hp
 env:Env
 outer:List Env
 stack:List Env
 ex:List Addr
 fn:Str->Bool
 calm:Bool
 pn:α7
 xe:Value->Shared->Prop
noncomputable def frs (l:List Env):List Addr:=l.filterMap (·.frame)
noncomputable abbrev Cx.fs (X:Cx):List Addr:=frs X.outer
noncomputable def Vis (sc:Scope)(x:Str):Prop:=sc.names.lookup x=some .local\/sc.names.lookup x=some .cell\/sc.names.lookup x=some .free
noncomputable def Loc (sc:Scope)(x:Str):Prop:=sc.names.lookup x=some .local\/sc.names.lookup x=some .cell
noncomputable def Look (env:Env)(h:Heap)(m:Str->α5)(x:Str)(u:Value):Prop:=
 (env.kindOf x=some .local/\m x=some u)\/((env.kindOf x=some .cell\/env.kindOf x=some .free)/\∃c,env.cells.lookup x=some c/\h.IsCell c (some u))
structure Cx.Ok (X:Cx):Prop where
 mod:Mod X.K X.mg X.base
 kind:X.env.scope.kind=.function
 glob:X.env.globals=mainGlobals
 blt:X.env.builtins=builtinsNs
 above:X.s₀.heap.objs.size<=X.env.locals
 inj:∀x y c,X.env.cells.lookup x=some c->X.env.cells.lookup y=some c->x=y
 has:∀x,(X.env.kindOf x=some .cell\/X.env.kindOf x=some .free)->∃c,X.env.cells.lookup x=some c
 cab:∀x c,X.fn x=true->X.env.cells.lookup x=some c->X.s₀.heap.objs.size<=c
 hd:X.calm=true->X.A.handled=none
 frames:X.A.frames=some X.stack
 stk:X.stack=X.outer\/(X.stack=X.env::X.outer/\X.env.frame=some X.env.locals)
 exf:∀b∈X.ex,b≠X.env.locals/\∀x c,X.env.cells.lookup x=some c->c≠b
 bs:∀b o,X.base.get? b=some o->X.s₀.heap.get? b=some o/\X.H₀ b=none
 bsz:X.base.objs.size<=X.s₀.heap.objs.size
 noex:∀b o,X.base.get? b=some o->b∉X.ex
 exfs:∀b∈X.ex,b∉X.fs
 funs:X.s₀.heap.FunFrames X.base X.outer
 frf:∀b∈X.fs,X.H₀ b=none
structure Inv (X:Cx)(pins:α7)(σ:List (Option V))(H:Hp)(s:Shared):Prop where
 ok:X.Ok
 os:s.os=X.s₀.os
 bare:AllBare s.gens
 base:Un X.fs X.ex X.H₀ H X.s₀.heap s.heap
 loc:∃m,s.heap.Ns X.env.locals m/\∀(i:Nat) (x:Str) (v:V),X.N[i]?=some x->σ[i]?=some (some v)->Vis X.env.scope x->∃u,RelV v u/\Look X.env s.heap m x u
 cell:∀x c,X.env.cells.lookup x=some c->∃v,s.heap.IsCell c v
 free:H X.env.locals=none
 freeC:∀x c,X.env.cells.lookup x=some c->H c=none
 pin:∀p∈X.pn++pins,s.heap.get? p.1=some p.2/\H p.1=none/\p.1≠X.env.locals/\p.1∉X.fs/\∀v,p.2.data ≠ .cell v
 hok:HOk X.prog X.w H s.heap
 len:σ.length=X.N.length
section
variable {X:Cx} {pins:α7} {σ:List (Option V)} {H H':Hp} {s:Shared} {h':Heap}
theorem Cx.Ok.nofr (ok:X.Ok)   (e:X.base.get? b=some o):b∉X.fs:=fun hb=>by
 have:=(ok.funs.mem hb).1
 rw[e]at this;cases this
theorem Inv.bs (I:Inv X pins σ H s):∀b o,X.base.get? b=some o->s.heap.get? b=some o/\H b=none:=fun b o e=>
 ⟨I.base.keep b o (I.ok.bs b o e).1 (I.ok.bs b o e).2 (I.ok.nofr e) (I.ok.noex b o e),I.base.free b o (I.ok.bs b o e).1 (I.ok.bs b o e).2 (I.ok.noex b o e)⟩
theorem Inv.bk (I:Inv X pins σ H s):∀b o,X.base.get? b=some o->s.heap.get? b=some o:=fun b o e=>(I.bs b o e).1
theorem Inv.mod (I:Inv X pins σ H s):Mod X.K X.mg X.base:=I.ok.mod
theorem Inv.kIn (I:Inv X pins σ H s):X.K.In s.heap:=I.ok.mod.kin.keeps I.bk
theorem Inv.lt (I:Inv X pins σ H s):X.env.locals<s.heap.objs.size:=let ⟨_,hn,_⟩:=I.loc;hn.lt
theorem Inv.sz (I:Inv X pins σ H s):X.s₀.heap.objs.size<=s.heap.objs.size:=qi_ I.ok.above (xE_ I.lt)
theorem Inv.nofs (I:Inv X pins σ H s)  (h:s.heap.objs.size<=a):a∉X.fs:=fun hb=>by
 obtain⟨_,o,ho,_⟩:=I.ok.funs.mem hb
 exact absurd (jy_ (jk_ ho) (qi_ I.sz h)) (qf_ _)
theorem Inv.cne (I:Inv X pins σ H s):∀x c,X.env.cells.lookup x=some c->c≠X.env.locals:=fun x c e z=>by
 obtain⟨v,o,ho,hd⟩:=I.cell x c e
 obtain⟨m,⟨o',es,ep,ho',hd',_⟩,_⟩:=I.loc
 rw[z,ho']at ho;cases ho;rw[hd']at hd;cases hd
theorem Inv.funs (I:Inv X pins σ H s):s.heap.FunFrames X.base X.outer:=by
 have all:∀(l:List Env),(∀b∈frs l,b∈X.fs)->X.s₀.heap.FunFrames X.base l->s.heap.FunFrames X.base l:=by
  intro l
  induction l with
  |nil=>intro _ _;trivial
  |cons env r ih=>
   intro hs hl
   obtain⟨hk,⟨L,o,hf,hn,ho,hd⟩,hr⟩:=hl
   have hL:L∈X.fs:=hs L (by unfold frs;rw[zb_,hf];exact jG_)
   obtain⟨sl,e⟩:=I.base.slot L o ho (I.ok.frf L hL) hL fun z=>I.ok.exfs L z hL
   exact⟨hk,⟨L,_,hf,hn,e,hd⟩,ih (fun b hb=>hs b (by unfold frs;rw[zb_,hf];exact ju_ _ hb)) hr⟩
 exact all X.outer (fun _ hb=>hb) I.ok.funs
theorem Inv.stack (I:Inv X pins σ H s):s.heap.FunFrames X.base X.stack:=by
 rcases I.ok.stk with e|⟨e,hf⟩
 ·rw[e];exact I.funs
 ·rw[e]
  obtain⟨m,hn,_⟩:=I.loc
  refine .cons (by rw[I.ok.kind];decide) hf hn ?_ I.funs
  exact Heap.get?_none_of_le (qi_ I.ok.bsz I.ok.above)
theorem Inv.stkSub (I:Inv X pins σ H s):∀b∈frs X.stack,b∈X.env.locals::X.fs:=fun b hb=>by
 rcases I.ok.stk with e|⟨e,hf⟩
 ·rw[e]at hb;exact ju_ _ hb
 ·rw[e]at hb
  unfold frs at hb
  rw[zb_,hf]at hb
  exact hb
theorem Inv.stkFree (I:Inv X pins σ H s):∀b∈frs X.stack,H b=none:=fun b hb=>by
 rcases jA_.mp (I.stkSub b hb) with e|hb
 ·rw[e];exact I.free
 ·obtain⟨_,o,ho,_⟩:=I.ok.funs.mem hb
  exact I.base.free b o ho (I.ok.frf b hb) fun z=>I.ok.exfs b z hb
theorem Inv.step {g':Array GenState}{t':Nat}{d':Drawn}{ch:List Addr}(I:Inv X pins σ H s)
  (hch:∀b∈ch,(b∈X.ex\/X.s₀.heap.objs.size<=b)/\b≠X.env.locals/\(∀x c,X.env.cells.lookup x=some c->c≠b)/\∀p∈X.pn++pins,p.1≠b)
  (keep:∀b o,b≠X.env.locals->b∉X.fs->b∉ch->s.heap.get? b=some o->H b=none->h'.get? b=some o)
  (slot:∀b o,b≠X.env.locals->b∈X.fs->b∉ch->s.heap.get? b=some o->H b=none->∃sl,h'.get? b=some {o with slots:=sl}) (free:∀b o,b∉ch->s.heap.get? b=some o->H b=none->H' b=none)
  (there:∀b o,b∉ch->s.heap.get? b=some o->∃o',h'.get? b=some o')
  (tups:∀b xs,H b=some (.tup xs)->H' b=some (.tup xs)) (frzs:∀b o u,H b=some (.frz o u)->H' b=some (.frz o u)) (tbls:∀b ps,H b=some (.tbl ps)->∃more,H' b=some (.tbl (ps++more)))
  (ns:∀m,s.heap.Ns X.env.locals m->h'.Ns X.env.locals m) (hok:HOk X.prog X.w H' h') (hg:AllBare g'):
  Inv X pins σ H' {s with heap:=h',gens:=g',drawn:=d',toks:=t' }:=by
 have neL:∀b o,X.s₀.heap.get? b=some o->b≠X.env.locals:=fun b o e=>jF_ (jy_ (jk_ e) I.ok.above)
 have neC:∀b o,X.s₀.heap.get? b=some o->b∉X.ex->b∉ch:=fun b o e hx hb=>by
  rcases (hch b hb).1 with z|z
  ·exact hx z
  ·exact absurd (jy_ (jk_ e) z) (qf_ _)
 have cellK:∀x c,X.env.cells.lookup x=some c->∀v,s.heap.IsCell c v->h'.IsCell c v:=fun x c e v ⟨o,ho,hd⟩=>by
  have nch:c∉ch:=fun z=>(hch c z).2.2.1 x c e rfl
  by_cases hc:c∈X.fs
  ·obtain⟨sl,q⟩:=slot c o (I.cne x c e) hc nch ho (I.freeC x c e)
   exact⟨_,q,hd⟩
  ·exact⟨o,keep c o (I.cne x c e) hc nch ho (I.freeC x c e),hd⟩
 refine⟨I.ok,I.os,hg,⟨fun b o e n hb hx=>?_,fun b o e n hb hx=>?_,fun b o e n hx=>?_,fun b o e hx=>?_,fun b xs e=>tups b xs (I.base.tups b xs e),fun b o xs e=>frzs b o xs (I.base.frzs b o xs e),fun b ps e=>?_⟩,?_,fun x c e=>?_,?_,fun x c e=>?_,fun p hp=>?_,hok,I.len⟩
 ·exact keep b o (neL b o e) hb (neC b o e hx) (I.base.keep b o e n hb hx) (I.base.free b o e n hx)
 ·obtain⟨sl,e1⟩:=I.base.slot b o e n hb hx
  obtain⟨sl',e2⟩:=slot b _ (neL b o e) hb (neC b o e hx) e1 (I.base.free b o e n hx)
  exact⟨sl',e2⟩
 ·obtain⟨o',e1⟩:=I.base.there b o e hx
  exact free b o' (neC b o e hx) e1 (I.base.free b o e n hx)
 ·obtain⟨o',e1⟩:=I.base.there b o e hx
  exact there b o' (neC b o e hx) e1
 ·obtain⟨m1,e1⟩:=I.base.tbls b ps e
  obtain⟨m2,e2⟩:=tbls b _ e1
  exact⟨m1++m2,by rw[e2,Array.append_assoc]⟩
 ·obtain⟨m,hn,hl⟩:=I.loc
  refine⟨m,ns m hn,fun i x v e1 e2 e3=>?_⟩
  obtain⟨u,r,l⟩:=hl i x v e1 e2 e3
  refine⟨u,r,?_⟩
  rcases l with l|⟨k,c,e,z⟩
  ·exact .inl l
  ·exact .inr ⟨k,c,e,cellK x c e _ z⟩
 ·obtain⟨v,z⟩:=I.cell x c e
  exact⟨v,cellK x c e v z⟩
 ·obtain⟨m,⟨o,_,_,ho,_⟩,_⟩:=I.loc
  exact free _ o (fun z=>(hch _ z).2.1 rfl) ho I.free
 ·obtain⟨v,o,ho,hd⟩:=I.cell x c e
  exact free c o (fun z=>(hch c z).2.2.1 x c e rfl) ho (I.freeC x c e)
 ·obtain⟨e,n,ne,nf,d⟩:=I.pin p hp
  have nch:p.1∉ch:=fun z=>(hch p.1 z).2.2.2 p hp rfl
  exact⟨keep p.1 p.2 ne nf nch e n,free p.1 p.2 nch e n,ne,nf,d⟩
theorem Inv.un  (I:Inv X pins σ H s)(u:Un X.fs [] H H' s.heap h')(hok:HOk X.prog X.w H' h'):Inv X pins σ H' {s with heap:=h',toks:=t' }:=by
 obtain⟨m,⟨o,es,ep,ho,r⟩,_⟩:=id I.loc
 obtain⟨sl,hL⟩:=u.any ho I.free (by simp)
 exact I.step (g':=s.gens) (d':=s.drawn) (ch:=[]) (fun _ z=>nomatch z) (fun b o _ hb _ e n=>u.keep b o e n hb (by simp)) (fun b o _ hb _ e n=>u.slot b o e n hb (by simp)) (fun b o _ e n=>u.free b o e n (by simp)) (fun b o _ e=>u.there b o e (by simp)) u.tups u.frzs u.tbls (fun m' hm=>by
  obtain⟨o',es',ep',ho',r'⟩:=hm
  rw[ho]at ho';cases ho'
  exact⟨_,es',ep',hL,r'⟩) hok I.bare
theorem Inv.call     (I:Inv X pins σ H s)(u:Un (frs X.stack) ch H H' s.heap h')(hok:HOk X.prog X.w H' h')(hg:AllBare g')
  (hch:∀b∈ch,(b∈X.ex\/X.s₀.heap.objs.size<=b)/\b≠X.env.locals/\(∀x c,X.env.cells.lookup x=some c->c≠b)/\∀p∈X.pn++pins,p.1≠b):
  Inv X pins σ H' {s with heap:=h',gens:=g',drawn:=d',toks:=t' }:=by
 obtain⟨m,⟨o,es,ep,ho,r⟩,_⟩:=id I.loc
 obtain⟨sl,hL⟩:=u.any ho I.free fun z=>(hch _ z).2.1 rfl
 exact I.step (ch:=ch) hch (fun b o hL hb hc e n=>u.keep b o e n (fun z=>(jA_.mp (I.stkSub b z)).elim hL hb) hc) (fun b o _ _ hc e n=>u.any e n hc) (fun b o hc e n=>u.free b o e n hc) (fun b o hc e=>u.there b o e hc) u.tups u.frzs u.tbls (fun m' hm=>by
  obtain⟨o',es',ep',ho',r'⟩:=hm
  rw[ho]at ho';cases ho'
  exact⟨_,es',ep',hL,r'⟩) hok hg
theorem Inv.turned  {it:Addr}(I:Inv X pins σ H s)(k:∀b o,b≠it->s.heap.get? b=some o->h'.get? b=some o)(hn:H it=none)(hL:it≠X.env.locals)
  (h1:it∈X.ex\/X.s₀.heap.objs.size<=it) (h2:∀x c,X.env.cells.lookup x=some c->c≠it) (h3:∀p∈X.pn++pins,p.1≠it):Inv X pins σ H {s with heap:=h',toks:=t' }:=by
 have nit:∀b u,H b=some u->b≠it:=fun b u e z=>by rw[z,hn]at e;cases e
 refine I.step (g':=s.gens) (d':=s.drawn) (ch:=[it]) (fun b hb=>?_) (fun b o _ _ hc e _=>k b o (fun z=>hc (by simp[z])) e) (fun b o _ _ hc e _=>⟨o.slots,k b o (fun z=>hc (by simp[z])) e⟩) (fun _ _ _ _ n=>n)
  (fun b o hc e=>⟨o,k b o (fun z=>hc (by simp[z])) e⟩) (fun _ _ e=>e) (fun _ _ _ e=>e) (fun b ps e=>⟨#[],by rw[e];simp⟩) (fun m hm=>?_) (fun b u e=>?_) I.bare
 ·have e:b=it:=by simpa using hb
  subst e
  exact⟨h1,hL,h2,h3⟩
 ·obtain⟨o,es,ep,ho,r⟩:=hm
  exact⟨o,es,ep,k _ o (qj_ hL) ho,r⟩
 ·refine (I.hok b u e).stay (fun c v hc q=>k c v ?_ q) (fun _ q=>q) fun _ _ q=>q
  rcases hc with z|z
  ·rw[z];exact nit b u e
  ·exact nit c _ z
theorem Inv.tok (I:Inv X pins σ H s)(t:Nat):Inv X pins σ H {s with toks:=t}:=I.un (h':=s.heap) (t':=t) Un.refl I.hok
theorem Inv.kept  (I:Inv X pins σ H s)(k:∀b u,s.heap.get? b=some u->h'.get? b=some u):Inv X pins σ H {s with heap:=h',toks:=t' }:=I.un (Un.kept k) (I.hok.kept k)
theorem Inv.laid    (I:Inv X pins σ H s)(k:∀b u,s.heap.get? b=some u->h'.get? b=some u)(hp:s.heap.objs.size<=a)(new:C3 X.prog X.w (upd H a o) h' a o):
  Inv X pins σ (upd H a o) {s with heap:=h',toks:=t' }:=I.un (Un.laid k hp (I.hok.fresh hp)) (I.hok.laid k hp new)
theorem Inv.write    (I:Inv X pins σ H s)(mu:Mut (H x))(he:e=x\/H e=some (.own x))(k:∀b u,b≠e->s.heap.get? b=some u->h'.get? b=some u)(heo:∃u,h'.get? e=some u)
  (new:C3 X.prog X.w (upd H x o) h' x o):Inv X pins σ (upd H x o) {s with heap:=h',toks:=t' }:=I.un (Un.write mu he k heo) (I.hok.write mu he k heo new)
theorem Inv.pins_of  (I:Inv X pins σ H s)(h:∀p∈pins',s.heap.get? p.1=some p.2/\H p.1=none/\p.1≠X.env.locals/\p.1∉X.fs/\∀v,p.2.data ≠ .cell v):Inv X pins' σ H s:=
 ⟨I.ok,I.os,I.bare,I.base,I.loc,I.cell,I.free,I.freeC,fun p hp=>(jK_.mp hp).elim (fun z=>I.pin p (j9_ _ z)) (h p),I.hok,I.len⟩
theorem En_ {N:List Str}(hN:N.Nodup){i j:Nat}{x:Str}(a:N[i]?=some x)(b:N[j]?=some x):i=j:=by
 obtain⟨h1,e1⟩:=jc_.mp a
 obtain⟨h2,e2⟩:=jc_.mp b
 exact (x3_ hN).mp (e1.trans e2.symm)
theorem AJ_         (I:Inv X pins σ H s)(hN:X.N.Nodup)(hi:X.N[i]?=some x)(hx:Loc X.env.scope x)(r:RelV v u)
  (h:∀s',Inv X pins (σ.set i (some v)) H s'->(∃a,Heap.SameBut a s.heap s'.heap/\(a=X.env.locals\/X.env.cells.lookup x=some a))->Q () s') (hf:X.fn x=true\/X.env.scope.names.lookup x=some .local:=by first|exact .inl rfl|exact .inr rfl|assumption):wpAny M A (storeName X.env x u) Q E s:=by
 obtain⟨m,hn,hl⟩:=id I.loc
 have hcls:(X.env.scope.kind == .class||(X.env.scope.kind == .module&&X.env.locals != X.env.globals))=false:=by rw[I.ok.kind];rfl
 have hiσ:i<σ.length:=by rw[I.len];exact (jc_.mp hi).1
 have cne:=I.cne
 have tracked:∀{a:Addr} {h':Heap},(∃o,s.heap.get? a=some o/\H a=none)->Heap.SameBut a s.heap h'->HOk X.prog X.w H h':=fun {a h'} ha hs b ob e=>by
  obtain⟨_,_,hfree⟩:=ha
  refine (I.hok b ob e).stay (fun c w' hc q=>(hs.2 c ?_).trans q) (fun _ q=>q) fun _ _ q=>q
  rintro rfl
  rcases hc with rfl|hc
  ·rw[hfree]at e;cases e
  ·rw[hfree]at hc;cases hc
 rcases hx with hk|hk
 ·refine wpAny_storeName_local hk hn (fun h' hn' hs=>?_) hcls
  obtain⟨oL,_,_,hoL,_⟩:=id hn
  refine h _ ⟨I.ok,I.os,I.bare,⟨fun b o e n hb hx=>?_,fun b o e n hb hx=>?_,I.base.free,fun b o e hx=>?_,I.base.tups,I.base.frzs,I.base.tbls⟩,⟨_,hn',fun j y v' e1 e2 e3=>?_⟩,fun y c e=>?_,I.free,I.freeC,fun p hp=>?_,tracked ⟨oL,hoL,I.free⟩ hs,by simpa using I.len⟩ ⟨_,hs,.inl rfl⟩
  ·exact (hs.2 b (jF_ (jy_ (jk_ e) I.ok.above))).trans (I.base.keep b o e n hb hx)
  ·obtain⟨sl,e1⟩:=I.base.slot b o e n hb hx
   exact⟨sl,(hs.2 b (jF_ (jy_ (jk_ e) I.ok.above))).trans e1⟩
  ·obtain⟨o',e1⟩:=I.base.there b o e hx
   exact⟨o',(hs.2 b (jF_ (jy_ (jk_ e) I.ok.above))).trans e1⟩
  ·by_cases hj:j=i
   ·subst hj
    rw[hi]at e1;cases e1
    rw[List.getElem?_set_self hiσ]at e2
    cases e2
    exact⟨u,r,.inl ⟨hk,by simp⟩⟩
   ·rw[List.getElem?_set_ne (qj_ hj)]at e2
    obtain⟨u',r',q⟩:=hl j y v' e1 e2 e3
    refine⟨u',r',?_⟩
    rcases q with ⟨k,e⟩|⟨k,c,e,z⟩
    ·refine .inl ⟨k,?_⟩
     have:y≠x:=fun e=>hj (En_ hN e1 (e ▸ hi))
     simp[this,e]
    ·exact .inr ⟨k,c,e,z.sameBut hs (cne y c e)⟩
  ·obtain⟨w',z⟩:=I.cell y c e
   exact⟨w',z.sameBut hs (cne y c e)⟩
  ·obtain⟨e,n,ne,nf,d⟩:=I.pin p hp
   exact⟨(hs.2 p.1 ne).trans e,n,ne,nf,d⟩
 ·have hfn:X.fn x=true:=by
   rcases hf with z|z
   ·exact z
   ·rw[z]at hk;cases hk
  obtain⟨c,hc⟩:=I.ok.has x (.inl hk)
  obtain⟨w',z⟩:=I.cell x c hc
  refine wpAny_storeName_cell I.ok.kind hk hc z (fun h' hc' hs=>?_)
  obtain⟨oc,hoc,hocd⟩:=id z
  refine h {s with heap:=h' } ⟨I.ok,I.os,I.bare,⟨fun b o e n hb hx=>?_,fun b o e n hb hx=>?_,I.base.free,fun b o e hx=>?_,I.base.tups,I.base.frzs,I.base.tbls⟩,⟨m,hn.sameBut hs (qj_ (cne x c hc)),fun j y v' e1 e2 e3=>?_⟩,fun y c' e=>?_,I.free,I.freeC,fun p hp=>?_,tracked ⟨oc,hoc,I.freeC x c hc⟩ hs,by simpa using I.len⟩ ⟨c,hs,.inr hc⟩
  ·exact (hs.2 b (jF_ (jy_ (jk_ e) (I.ok.cab x c hfn hc)))).trans (I.base.keep b o e n hb hx)
  ·obtain⟨sl,e1⟩:=I.base.slot b o e n hb hx
   exact⟨sl,(hs.2 b (jF_ (jy_ (jk_ e) (I.ok.cab x c hfn hc)))).trans e1⟩
  ·obtain⟨o',e1⟩:=I.base.there b o e hx
   exact⟨o',(hs.2 b (jF_ (jy_ (jk_ e) (I.ok.cab x c hfn hc)))).trans e1⟩
  ·by_cases hj:j=i
   ·subst hj
    rw[hi]at e1;cases e1
    rw[List.getElem?_set_self hiσ]at e2
    cases e2
    exact⟨u,r,.inr ⟨.inl hk,c,hc,hc'⟩⟩
   ·rw[List.getElem?_set_ne (qj_ hj)]at e2
    obtain⟨u',r',q⟩:=hl j y v' e1 e2 e3
    refine⟨u',r',?_⟩
    rcases q with q|⟨k,c',e,z'⟩
    ·exact .inl q
    ·refine .inr ⟨k,c',e,z'.sameBut hs ?_⟩
     rintro rfl
     exact hj (En_ hN e1 (I.ok.inj _ _ _ e hc ▸ hi))
  ·by_cases hcc:c'=c
   ·subst hcc;exact⟨_,hc'⟩
   ·obtain⟨w2,z2⟩:=I.cell y c' e
    exact⟨w2,z2.sameBut hs hcc⟩
  ·obtain⟨e,n,ne,nf,d⟩:=I.pin p hp
   refine⟨(hs.2 p.1 ?_).trans e,n,ne,nf,d⟩
   intro q
   rw[q,hoc]at e
   have q':oc=p.2:=jt_ e
   exact d w' (by rw[<-q'];exact hocd)
theorem Eo_         (I:Inv X pins σ H s)(hN:X.N.Nodup)(hi:X.N[i]?=some x)(hx:Loc X.env.scope x)(r:RelV v u)
  (h:∀s',Inv X pins (σ.set i (some v)) H s'->Q () s') (hf:X.fn x=true\/X.env.scope.names.lookup x=some .local:=by first|exact .inl rfl|exact .inr rfl|assumption):wpAny M A (storeName X.env x u) Q E s:=
 AJ_ I hN hi hx r (fun s' I' _=>h s' I') hf
theorem Inv.call'   (I:Inv X pins σ H s)(ho:s'.os=s.os)(u:Un (frs X.stack) ch H H' s.heap s'.heap)(hok:HOk X.prog X.w H' s'.heap)(hg:AllBare s'.gens)
  (hch:∀b∈ch,(b∈X.ex\/X.s₀.heap.objs.size<=b)/\b≠X.env.locals/\(∀x c,X.env.cells.lookup x=some c->c≠b)/\∀p∈X.pn++pins,p.1≠b):Inv X pins σ H' s':=by
 obtain⟨h',g',d',t',o'⟩:=s'
 have e:o'=s.os:=ho
 subst e
 exact I.call (g':=g') (t':=t') (d':=d') u hok hg hch
end
noncomputable abbrev XK:=Value->Option Addr->Hp->Prop
noncomputable abbrev St:=List (Option V)
noncomputable abbrev VK:=V->Hp->Prop
noncomputable abbrev TE:=St->Hp->VK->Prop
noncomputable abbrev TT:=St->Hp->(Bool->Hp->Prop)->Prop
noncomputable abbrev TA:=St->Hp->(List V->Hp->Prop)->Prop
structure Ends where
 nx:St->Hp->Prop
 rt:VK
 bk:St->Hp->Prop:=fun _ _=>False
 ct:St->Hp->Prop:=fun _ _=>False
noncomputable abbrev TS:=Ends->St->Hp->Prop
noncomputable def EP (X:Cx)(pins:α7)(σ:St)(Q:VK)(u:Value)(s':Shared):Prop:=∃v H',Inv X pins σ H' s'/\RelV v u/\Q v H'
noncomputable def TP (X:Cx)(pins:α7)(σ:St)(Q:Bool->Hp->Prop)(b:Bool)(s':Shared):Prop:=∃H',Inv X pins σ H' s'/\Q b H'
noncomputable def AP (X:Cx)(pins:α7)(σ:St)(Q:List V->Hp->Prop)(us:List Value)(s':Shared):Prop:=∃vs H',Inv X pins σ H' s'/\Vals vs us/\Q vs H'
noncomputable def SP (X:Cx)(pins:α7)(D:Ends)(f:Flow)(s':Shared):Prop:=
 match f with
 |.next=>∃σ' H',Inv X pins σ' H' s'/\D.nx σ' H'
 |.brk=>∃σ' H',Inv X pins σ' H' s'/\D.bk σ' H'
 |.cont=>∃σ' H',Inv X pins σ' H' s'/\D.ct σ' H'
 |.ret u=>∃v σ' H',Inv X pins σ' H' s'/\RelV v u/\D.rt v H'
noncomputable def PE (X:Cx)(e:Expr)(t:TE):Prop:=
 ∀(pins:α7) (s:Shared) (σ:St) (H:Hp) (Q:VK),Inv X pins σ H s->t σ H Q->wpAny (model X.prog X.w) X.A (eval e X.env) (EP X pins σ Q) X.xe s
noncomputable def PT (X:Cx)(e:Expr)(t:TT):Prop:=
 ∀(pins:α7) (s:Shared) (σ:St) (H:Hp) (Q:Bool->Hp->Prop),Inv X pins σ H s->t σ H Q->wpAny (model X.prog X.w) X.A (isTrue e X.env (eval e X.env)) (TP X pins σ Q) X.xe s
noncomputable def PW (X:Cx)(e:Expr)(t:TT):Prop:=
 ∀(whole:Sem Value) (pins:α7) (s:Shared) (σ:St) (H:Hp) (Q:Bool->Hp->Prop),Inv X pins σ H s->t σ H Q->wpAny (model X.prog X.w) X.A (isTrue e X.env whole) (TP X pins σ Q) X.xe s
theorem PW.pt    (h:PW X e t):PT X e t:=h _
noncomputable def PA (X:Cx)(es:List Expr)(t:TA):Prop:=
 ∀(pos:Pos) (pins:α7) (s:Shared) (σ:St) (H:Hp) (Q:List V->Hp->Prop),Inv X pins σ H s->t σ H Q->wpAny (model X.prog X.w) X.A (spliced (backTo pos (starEach es X.env))) (AP X pins σ Q) X.xe s
noncomputable def PS (X:Cx)(st:Stmt)(t:TS):Prop:=
 ∀(pins:α7) (s:Shared) (σ:St) (H:Hp) (D:Ends),Inv X pins σ H s->t D σ H->wpAny (model X.prog X.w) X.A (exec st X.env) (SP X pins D) X.xe s
noncomputable def PSs (X:Cx)(st:List Stmt)(t:TS):Prop:=
 ∀(pins:α7) (s:Shared) (σ:St) (H:Hp) (D:Ends),Inv X pins σ H s->t D σ H->wpAny (model X.prog X.w) X.A (execs st X.env) (SP X pins D) X.xe s
theorem thn        (h:wpAny M A t Q E s)(hQ:∀a s,Q a s->Q' a s):wpAny M A t Q' E s:=qH_ h hQ fun _ _ x=>x
end L2
namespace L2
open PySem PySem.Spec PyProof.Rows
section
variable {X:Cx}
noncomputable def tVar (i:Nat):TE:=fun σ H Q=>∃v,σ[i]?=some (some v)/\Q v H
noncomputable def tC (v:V):TE:=fun _ H Q=>Q v H
theorem LO_    (hN:X.N[i]?=some x)(hv:Vis X.env.scope x)(hd:(x==("__debug__" : Str))=false:=by decide)(hcd:(x==("__classdict__" : Str))=false:=by decide):PE X (.Name x pos) (tVar i):=by
 intro pins s σ H Q I h
 obtain⟨v,e,h⟩:=h
 obtain⟨m,hn,hl⟩:=I.loc
 obtain⟨u,r,l⟩:=hl i x v hN e hv
 have fin:EP X pins σ Q u s:=⟨v,H,I,r,h⟩
 rcases l with ⟨hk,hm⟩|⟨hk,c,hc,hcell⟩
 ·exact wpAny_Name (wpAny_loadName_local I.ok.kind hk hn hm fin) hd
 ·rcases hk with hk|hk
  ·exact wpAny_Name (wpAny_loadName_cell I.ok.kind hk hc hcell fin) hd
  ·exact wpAny_Name (wpAny_loadName_free I.ok.kind hk hc hcell fin hcd) hd
theorem Ah {i j pos}:PE X (.Constant (.int i) j pos) (tC (.int i)):=fun _ _ _ H _ I h=>wpAny_Constant_int ⟨.int i,H,I.tok _,⟨_,rfl⟩,h⟩
theorem Ej {b j pos}:PE X (.Constant (.bool b) j pos) (tC (.bl b)):=fun _ _ _ H _ I h=>Constant_bool ⟨.bl b,H,I,rfl,h⟩
theorem Gk {j pos}:PE X (.Constant .none j pos) (tC .non):=fun _ _ _ H _ I h=>Constant_none ⟨.non,H,I,rfl,h⟩
theorem Ek {x j pos}:PE X (.Constant (.str x) j pos) (tC (.str x)):=fun _ _ _ H _ I h=>Calls.Constant_str ⟨.str x,H,I.tok _,⟨_,rfl⟩,h⟩
noncomputable def Gl (X:Cx)(x:Str):Prop:=X.env.kindOf x=some .globalImplicit
theorem UY          (I:Inv X pins σ H s)(hg:Gl X x)(hm:X.mg x=some u)(h:Q u s)
  (hd:(x==("__debug__" : Str))=false:=by decide):wpAny (model X.prog X.w) X.A (eval (.Name x pos) X.env) Q E s:=
 Calls.Name_function_global I.ok.kind hg (Calls.loadGlobal_global (by rw[I.ok.glob];exact I.mod.glob.keeps I.bk) hm h) hd
theorem UZ          (I:Inv X pins σ H s)(hg:Gl X x)(hm:X.mg x=none)(hv:bootBuiltins x=some u)(h:Q u s)
  (hn:x ≠ "__name__" := by decide) (hd:(x==("__debug__" : Str))=false:=by decide):wpAny (model X.prog X.w) X.A (eval (.Name x pos) X.env) Q E s:=by
 obtain⟨mb,h1,h2⟩:=I.mod.blt
 exact Calls.Name_function_global I.ok.kind hg (Calls.loadGlobal_builtin (by rw[I.ok.glob];exact I.mod.glob.keeps I.bk) hm (by rw[I.ok.blt];exact h1.keeps I.bk) ((h2 x hn).trans hv) h) hd
theorem Gm_     (hg:Gl X x)(hm:X.mg x=some u)(r:RelV v u)(hd:(x==("__debug__" : Str))=false:=by decide):PE X (.Name x pos) (tC v):=
 fun _ _ _ H _ I h=>UY I hg hm ⟨v,H,I,r,h⟩ hd
theorem Mj     (hg:Gl X x)(hm:X.mg x=none)(hv:bootBuiltins x=some u)(r:RelV v u)(hn:x ≠ "__name__" := by decide)(hd:(x==("__debug__" : Str))=false:=by decide):PE X (.Name x pos) (tC v):=
 fun _ _ _ H _ I h=>UZ I hg hm hv ⟨v,H,I,r,h⟩ hn hd
variable {a b:Expr} {ta tb:TE} {pos:Pos}
noncomputable def PC (X:Cx)(op:CmpOp)(a b:Expr)(t:TE):Prop:=
 ∀(pins:α7) (s:Shared) (σ:St) (H:Hp) (Q:VK),Inv X pins σ H s->t σ H Q ->
  wpAny (model X.prog X.w) X.A (eval a X.env) (fun v s₁=>wpAny (model X.prog X.w) X.A (eval b X.env) (fun u s₂=>wpAny (model X.prog X.w) X.A (compareOp op v u) (EP X pins σ Q) X.xe s₂) X.xe s₁) X.xe s
theorem Ir_ (b:Expr)  (h:op ≠ .In)(h2:op ≠ .NotIn):behindInMarks op b=false:=by
 have e1:(op==CmpOp.In)=false:=by cases op<;>first|rfl|exact absurd rfl h
 have e2:(op==CmpOp.NotIn)=false:=by cases op<;>first|rfl|exact absurd rfl h2
 cases b<;>simp[behindInMarks,e1,e2]
noncomputable def tB (t:TE):TT:=fun σ H Q=>t σ H fun x H1=>∃c,x=.bl c/\Q c H1
theorem Gn_   (h:PC X op a b t)(h1:behindInMarks op b=false:=by first|exact Ir_ _ (by decide) (by decide)|rfl):PT X (.Compare a [op] [b] pos) (tB t):=by
 intro pins s σ H Q I hw
 refine wpAny_isTrue_Compare1 (thn (h pins s σ H _ I hw) fun v s1 h1=>thn h1 fun u s2 h2=>thn h2 fun c s3 ⟨x,H1,I1,r1,q1⟩=>?_) h1
 obtain⟨d,rfl,q⟩:=q1
 cases r1
 exact qP_ ⟨H1,I1,q⟩
theorem ES   (h:PE X e t)(he:∀whole,isTrue e X.env whole=(do let v <- whole;standAt e.pos;holding [v] (truthy v)):=by intro _;rfl):PT X e (tB t):=by
 intro pins s σ H Q I hw
 refine isTrue_plain (thn (h pins s σ H _ I hw) fun v s1 ⟨x,H1,I1,r1,q1⟩=>?_) (he _)
 obtain⟨d,rfl,q⟩:=q1
 cases r1
 exact qP_ ⟨H1,I1,q⟩
variable {tA tB':TT} {rest:List Expr}
noncomputable def tAnd (t u:TT):TT:=fun σ H Q=>t σ H fun c H1=>if c=true then u σ H1 Q else Q false H1
noncomputable def tOr (t u:TT):TT:=fun σ H Q=>t σ H fun c H1=>if c=true then Q true H1 else u σ H1 Q
noncomputable def tNot (t:TT):TT:=fun σ H Q=>t σ H fun c H1=>Q (!c) H1
theorem Go_ (ha:PT X a tA):PW X (.BoolOp .And [a] pos) tA:=by
 intro wh pins s σ H Q I h
 refine isTrue_and (thn (ha pins s σ H Q I h) fun c s1 e=>?_)
 cases c with
 |true=>exact isTrue_and_nil e
 |false=>exact e
theorem GN (ha:PT X a tA):PW X (.BoolOp .Or [a] pos) tA:=by
 intro wh pins s σ H Q I h
 refine isTrue_or (thn (ha pins s σ H Q I h) fun c s1 e=>?_)
 cases c with
 |false=>exact isTrue_or_nil e
 |true=>exact e
theorem Jz_ (ha:PT X a tA)(hb:PW X (.BoolOp .And (b::rest) pos) tB'):PW X (.BoolOp .And (a::b::rest) pos) (tAnd tA tB'):=by
 intro wh pins s σ H Q I h
 refine isTrue_and (thn (ha pins s σ H _ I h) fun c s1 ⟨H1,I1,q1⟩=>?_)
 cases c with
 |true=>exact hb wh pins s1 σ H1 Q I1 q1
 |false=>exact⟨H1,I1,q1⟩
theorem Jz (ha:PT X a tA)(hb:PW X (.BoolOp .Or (b::rest) pos) tB'):PW X (.BoolOp .Or (a::b::rest) pos) (tOr tA tB'):=by
 intro wh pins s σ H Q I h
 refine isTrue_or (thn (ha pins s σ H _ I h) fun c s1 ⟨H1,I1,q1⟩=>?_)
 cases c with
 |true=>exact⟨H1,I1,q1⟩
 |false=>exact hb wh pins s1 σ H1 Q I1 q1
theorem ET (ha:PT X a tA):PT X (.UnaryOp .Not a pos) (tNot tA):=by
 intro pins s σ H Q I h
 exact isTrue_not (ha pins s σ H (fun c H1=>Q (!c) H1) I h)
noncomputable def LP_ (ta tb:TE):TE:=fun σ H Q=>ta σ H fun x H1=>∃c,x=.bl c/\if c=true then tb σ H1 Q else Q (.bl false) H1
noncomputable def tOrV (ta tb:TE):TE:=fun σ H Q=>ta σ H fun x H1=>∃c,x=.bl c/\if c=true then Q (.bl true) H1 else tb σ H1 Q
noncomputable def LQ_ (ta:TE):TE:=fun σ H Q=>ta σ H fun x H1=>∃c,x=.bl c/\Q (.bl (!c)) H1
theorem XB {op}  (h:PE X a t):PE X (.BoolOp op [a] pos) t:=fun pins s σ H Q I hw=>BoolOp_one (h pins s σ H Q I hw)
theorem Ep_ (ha:PE X a ta)(hb:PE X (.BoolOp .And (b::rest) pos) tb):PE X (.BoolOp .And (a::b::rest) pos) (LP_ ta tb):=by
 intro pins s σ H Q I h
 refine BoolOp_and (thn (ha pins s σ H _ I h) fun v s1 ⟨x,H1,I1,r1,q1⟩=>?_)
 obtain⟨c,rfl,q1⟩:=q1
 cases r1
 refine qP_ ?_
 cases c with
 |true=>exact hb pins s1 σ H1 Q I1 q1
 |false=>exact⟨.bl false,H1,I1,rfl,q1⟩
theorem LR_ (ha:PE X a ta)(hb:PE X (.BoolOp .Or (b::rest) pos) tb):PE X (.BoolOp .Or (a::b::rest) pos) (tOrV ta tb):=by
 intro pins s σ H Q I h
 refine BoolOp_or (thn (ha pins s σ H _ I h) fun v s1 ⟨x,H1,I1,r1,q1⟩=>?_)
 obtain⟨c,rfl,q1⟩:=q1
 cases r1
 refine qP_ ?_
 cases c with
 |false=>exact hb pins s1 σ H1 Q I1 q1
 |true=>exact⟨.bl true,H1,I1,rfl,q1⟩
theorem JA_ (ha:PE X a ta):PE X (.UnaryOp .Not a pos) (LQ_ ta):=by
 intro pins s σ H Q I h
 refine UnaryOp_ (thn (ha pins s σ H _ I h) fun v s1 ⟨x,H1,I1,r1,q1⟩=>?_)
 obtain⟨c,rfl,q1⟩:=q1
 cases r1
 exact not_of (qP_ ⟨.bl (!c),H1,I1,rfl,q1⟩)
end
end L2
namespace L2
open PySem PySem.Spec PyProof.Rows
noncomputable def SqL (K:α3)(H:Hp)(a:Addr)(xs:List V):Prop:=
 Rd H a (.lst xs) \/
  ∃(o:Obj) (its:Array Value) (n:Nat),K.lookup a=some o/\o.cls=.type "list" /\ o.dict=none/\o.data=.seq its n/\its.size<=sizeLine/\Vals xs its.toList
noncomputable def SqT (K:α3)(H:Hp)(a:Addr)(xs:List V):Prop:=
 Rd H a (.tup xs) \/
  ∃(o:Obj) (its:Array Value) (n:Nat),K.lookup a=some o/\o.cls=.type "tuple" /\ o.data=.seq its n/\its.size<=sizeLine/\Vals xs its.toList
noncomputable def absV:Value->Option V
 |.none=>some .non
 |.bool b=>some (.bl b)
 |.int i _=>some (.int i)
 |.str x _=>some (.str x)
 |.bytes b _=>some (.byt b)
 |.float b _=>some (.flt b)
 |.ref a=>some (.ref a)
 |.type n=>some (.ty n)
 |_=>none
theorem RelV.abs   (r:RelV x u):absV u=some x:=by
 cases x with
 |non=>cases r;rfl
 |bl _=>cases r;rfl
 |int _=>obtain⟨t,rfl⟩:=r;rfl
 |str _=>obtain⟨t,rfl⟩:=r;rfl
 |byt _=>obtain⟨t,rfl⟩:=r;rfl
 |flt _=>obtain⟨t,rfl⟩:=r;rfl
 |ref _=>cases r;rfl
 |ty _=>cases r;rfl
theorem RelV.inj   (r:RelV x u)(q:RelV y u):x=y:=jt_ (r.abs.symm.trans q.abs)
theorem Vals.inj:∀{xs ys:List V} {us:List Value},Vals xs us->Vals ys us->xs=ys
 |_,_,_,.nil,.nil=>rfl
 |_,_,_,.cons r t,.cons r' t'=>by rw[r.inj r',Vals.inj t t']
section
variable {X:Cx} {pins:α7} {σ:St} {H:Hp} {s:Shared} {a:Addr} {xs ys:List V}
theorem SqL.of {K:α3}(h:H a=some (.lst xs)):SqL K H a xs:=.inl (.inl h)
theorem SqT.of {K:α3}(h:H a=some (.tup xs)):SqT K H a xs:=.inl (.inl h)
theorem Inv.list (I:Inv X pins σ H s)(h:SqL X.K H a xs):∃its:List Value,Vals xs its/\PlainL s.heap a its.toArray/\xs.length<=sizeLine:=by
 rcases h with h|⟨o,its,n,hk,hc,hd,hs,hz,r⟩
 ·obtain⟨z,its,n,r,e⟩:=h.ok I.hok
  exact⟨its,r,⟨_,n,e,rfl,rfl,rfl⟩,z⟩
 ·refine⟨its.toList,r,⟨o,n,I.kIn a o hk,hc,hd,by simpa using hs⟩,?_⟩
  have e:=r.length
  simp only[qg_]at e
  lia
theorem Inv.tuple (I:Inv X pins σ H s)(h:SqT X.K H a xs):∃its:List Value,Vals xs its/\IsTup s.heap a its.toArray/\xs.length<=sizeLine:=by
 rcases h with h|⟨o,its,n,hk,hc,hs,hz,r⟩
 ·obtain⟨z,its,r,p⟩:=h.ok I.hok
  exact⟨its,r,p,z⟩
 ·refine⟨its.toList,r,⟨o,I.kIn a o hk,hc,n,by simpa using hs⟩,?_⟩
  have e:=r.length
  simp only[qg_]at e
  lia
theorem Inv.list_inj (I:Inv X pins σ H s)(h:SqL X.K H a xs)(h':SqL X.K H a ys):xs=ys:=by
 obtain⟨its,r,⟨o,n,e,_,_,d⟩,_⟩:=I.list h
 obtain⟨its',r',⟨o',n',e',_,_,d'⟩,_⟩:=I.list h'
 rw[e]at e';cases e'
 rw[d]at d'
 injection d' with d1 _
 have:its=its':=by simpa using qU_ Array.toList d1
 subst this
 exact r.inj r'
theorem Inv.tuple_inj (I:Inv X pins σ H s)(h:SqT X.K H a xs)(h':SqT X.K H a ys):xs=ys:=by
 obtain⟨its,r,⟨o,e,_,n,d⟩,_⟩:=I.tuple h
 obtain⟨its',r',⟨o',e',_,n',d'⟩,_⟩:=I.tuple h'
 rw[e]at e';cases e'
 rw[d]at d'
 injection d' with d1 _
 have:its=its':=by simpa using qU_ Array.toList d1
 subst this
 exact r.inj r'
end
noncomputable abbrev Cx.wish (X:Cx)(E:Value->Shared->Prop):Cx:={X with xe:=E}
noncomputable abbrev Cx.nox (X:Cx):Cx:=X.wish fun _ _=>False
theorem Cx.Ok.wish {X:Cx}(ok:X.Ok)(E:Value->Shared->Prop):(X.wish E).Ok:=
 ⟨ok.mod,ok.kind,ok.glob,ok.blt,ok.above,ok.inj,ok.has,ok.cab,ok.hd,ok.frames,ok.stk,ok.exf,ok.bs,ok.bsz,ok.noex,ok.exfs,ok.funs,ok.frf⟩
theorem Cx.Ok.unwish {X:Cx}{E:Value->Shared->Prop}(ok:(X.wish E).Ok):X.Ok:=
 ⟨ok.mod,ok.kind,ok.glob,ok.blt,ok.above,ok.inj,ok.has,ok.cab,ok.hd,ok.frames,ok.stk,ok.exf,ok.bs,ok.bsz,ok.noex,ok.exfs,ok.funs,ok.frf⟩
section
variable {X:Cx} {pins:α7} {σ:St} {H:Hp} {s:Shared} {E:Value->Shared->Prop}
theorem Inv.wish (I:Inv X pins σ H s)(E:Value->Shared->Prop):Inv (X.wish E) pins σ H s:=⟨I.ok.wish E,I.os,I.bare,I.base,I.loc,I.cell,I.free,I.freeC,I.pin,I.hok,I.len⟩
theorem Inv.unwish (I:Inv (X.wish E) pins σ H s):Inv X pins σ H s:=⟨I.ok.unwish,I.os,I.bare,I.base,I.loc,I.cell,I.free,I.freeC,I.pin,I.hok,I.len⟩
theorem SP.unwish    (h:SP (X.wish E) pins D f s'):SP X pins D f s':=by
 cases f with
 |next=>obtain⟨σ',H',I,q⟩:=h;exact⟨σ',H',I.unwish,q⟩
 |brk=>obtain⟨σ',H',I,q⟩:=h;exact⟨σ',H',I.unwish,q⟩
 |cont=>obtain⟨σ',H',I,q⟩:=h;exact⟨σ',H',I.unwish,q⟩
 |ret u=>obtain⟨v,σ',H',I,r,q⟩:=h;exact⟨v,σ',H',I.unwish,r,q⟩
theorem PSs.nox {st:List Stmt}  (h:PSs X.nox st t):PSs X st t:=fun pins s σ H D I hw=>
 qH_ (h pins s σ H D (I.wish _) hw) (fun _ _ q=>q.unwish) fun _ _ z=>False.elim z
end
section
variable {X:Cx} {st:Stmt} {rest:List Stmt} {t u:TS} {e:Expr} {te:TE} {pos:Pos}
noncomputable def LS_:TS:=fun D σ H=>D.nx σ H
noncomputable def tSeq (t u:TS):TS:=fun D σ H=>t {D with nx:=u D} σ H
theorem AK:PSs X [] LS_:=fun _ _ σ H _ I h=>zc_ ⟨σ,H,I,h⟩
theorem Ac (h1:PS X st t)(h2:PSs X rest u):PSs X (st::rest) (tSeq t u):=by
 intro pins s σ H D I h
 refine wpAny_execs_cons (thn (h1 pins s σ H {D with nx:=u D} I h) fun f s1 q=>?_)
 cases f with
 |next=>
  obtain⟨σ',H',I',q⟩:=q
  exact h2 pins s1 σ' H' D I' q
 |ret v=>exact q
 |brk=>exact q
 |cont=>exact q
theorem Af (h1:PS X st t):PSs X [st] t:=by
 intro pins s σ H D I h
 refine wpAny_execs_cons (thn (h1 pins s σ H D I h) fun f s1 q=>?_)
 cases f with
 |next=>exact zc_ q
 |ret v=>exact q
 |brk=>exact q
 |cont=>exact q
theorem Inv.quiet     (I:Inv X pins σ H s):interactive X.env=false:=by simp[interactive,I.ok.kind]
noncomputable def LT_ (te:TE):TS:=fun D σ H=>te σ H fun _ H1=>D.nx σ H1
theorem Bb (he:PE X e te)(hs:swapsWith e none pos.line X.env=pure false:=by rfl):PS X (.Expr e pos) (LT_ te):=by
 intro pins s σ H D I h
 exact wpAny_Expr_any (thn (he pins s σ H _ I h) fun v s1 ⟨x,H1,I1,r1,q1⟩=>⟨σ,H1,I1,q1⟩) I.quiet hs
noncomputable def tRet (te:TE):TS:=fun D σ H=>te σ H D.rt
theorem An (he:PE X e te):PS X (.Return (some e) pos) (tRet te):=by
 intro pins s σ H D I h
 exact wpAny_Return_some (thn (he pins s σ H _ I h) fun v s1 ⟨x,H1,I1,r1,q1⟩=>⟨x,σ,H1,I1,r1,q1⟩)
noncomputable def tIfS (c:TT)(t u:TS):TS:=fun D σ H=>c σ H fun b H1=>if b=true then t D σ H1 else u D σ H1
theorem B6    (hc:PT X c tc)(ha:PSs X a t)(hb:PSs X b u):PS X (.If c a b pos) (tIfS tc t u):=by
 intro pins s σ H D I h
 refine wpAny_If (thn (hc pins s σ H _ I h) fun d s1 ⟨H1,I1,q1⟩=>?_)
 cases d with
 |true=>exact ha pins s1 σ H1 D I1 q1
 |false=>exact hb pins s1 σ H1 D I1 q1
end
noncomputable abbrev TG:=V->St->Hp->(St->Hp->Prop)->Prop
noncomputable abbrev TGs:=List V->St->Hp->(St->Hp->Prop)->Prop
noncomputable def PG (X:Cx)(target:Expr)(t:TG):Prop:=
 ∀(pins:α7) (s:Shared) (σ:St) (H:Hp) (v:V) (u:Value) (Q:St->Hp->Prop),Inv X pins σ H s->RelV v u->t v σ H Q ->
  wpAny (model X.prog X.w) X.A (assign target X.env u) (fun _ s'=>∃σ' H',Inv X pins σ' H' s'/\Q σ' H') X.xe s
noncomputable def PGs (X:Cx)(ts:List Expr)(t:TGs):Prop:=
 ∀(pins:α7) (s:Shared) (σ:St) (H:Hp) (vs:List V) (us:List Value) (Q:St->Hp->Prop),Inv X pins σ H s->Vals vs us->t vs σ H Q ->
  wpAny (model X.prog X.w) X.A (assignInOrder ((assignEach ts X.env).map (·.2)) us) (fun _ s'=>∃σ' H',Inv X pins σ' H' s'/\Q σ' H') X.xe s
noncomputable abbrev TSet:=V->V->V->Hp->(Hp->Prop)->Prop
noncomputable def PSet (X:Cx)(t:TSet):Prop:=
 ∀(pins:α7) (s:Shared) (σ:St) (H:Hp) (o i v:V) (ov iv u:Value) (Q:Hp->Prop),Inv X pins σ H s->RelV o ov->RelV i iv->RelV v u->t o i v H Q ->
  wpAny (model X.prog X.w) X.A (setItem ov iv u) (fun _ s'=>∃H',Inv X pins σ H' s'/\Q H') X.xe s
section
variable {X:Cx} {pos:Pos}
noncomputable def CW_ (i:Nat):TG:=fun v σ H Q=>Q (σ.set i (some v)) H
theorem Bl   (hN:X.N.Nodup)(hi:X.N[i]?=some x)(hx:Loc X.env.scope x)(hf:X.fn x=true\/X.env.scope.names.lookup x=some .local:=by first|exact .inl rfl|exact .inr rfl|assumption):PG X (.Name x pos) (CW_ i):=by
 intro pins s σ H v u Q I r h
 exact wpAny_assign_Name (Eo_ I hN hi hx r (fun s' I'=>⟨_,H,I',h⟩) hf)
noncomputable def gNil:TGs:=fun vs σ H Q=>vs=[]/\Q σ H
noncomputable def LU_ (t:TG)(u:TGs):TGs:=fun vs σ H Q=>∃v r,vs=v::r/\t v σ H fun σ' H'=>u r σ' H' Q
theorem X1:PGs X [] gNil:=by
 intro pins s σ H vs us Q I r h
 obtain⟨e,h⟩:=h
 subst e
 cases r
 exact assignInOrder_nil ⟨σ,H,I,h⟩
theorem JC     (h1:PG X e t)(h2:PGs X es u)
  (hs:(assignEach (e::es) X.env).map (·.2)=assign e X.env::(assignEach es X.env).map (·.2):=by rfl):PGs X (e::es) (LU_ t u):=by
 intro pins s σ H vs us Q I r h
 obtain⟨v,vr,e1,h⟩:=h
 subst e1
 cases r with
 |cons r rr=>
  rw[hs]
  refine assignInOrder_cons (thn (h1 pins s σ H _ _ _ I r h) fun _ s1 ⟨σ1,H1,I1,q1⟩=>?_)
  exact h2 pins s1 σ1 H1 _ _ Q I1 rr q1
noncomputable def gTup (K:α3)(n:Nat)(t:TGs):TG:=fun v σ H Q=>∃a xs,v=.ref a/\SqT K H a xs/\xs.length=n/\t xs σ H Q
theorem Eq_     (hc:X.calm=true)(h:PGs X es t)
  (hn:(assignEach es X.env).length=n:=by rfl) (hst:(assignEach es X.env).findIdx? (·.1)=none:=by rfl):PG X (.Tuple es k pos) (gTup X.K n t):=by
 intro pins s σ H v u Q I r hw
 obtain⟨a,xs,e1,hq,hl,hw⟩:=hw
 subst e1
 cases r
 obtain⟨its,rv,ht,hz⟩:=I.tuple hq
 refine assign_Tuple_tuple (I.ok.hd hc) ht (by simp[hn,<-hl,rv.length]) hst fun h' hx=>?_
 have I1:Inv X pins σ H {s with heap:=h' }:=I.kept (t':=s.toks) fun b o e=>hx b o (jF_ (jk_ e)) e
 exact h pins _ σ H xs _ Q I1 (by simpa using rv) hw
noncomputable def gSub (to ti:TE)(t:TSet):TG:=fun v σ H Q=>to σ H fun o H1=>ti σ H1 fun i H2=>t o i v H2 fun H3=>Q σ H3
theorem Gp_    (ho:PE X o to)(hi:PE X i ti)(hs:PSet X t)
  (ha:∀v,assign (.Subscript o i pos) X.env v=(do
   let ov <- holding [v] (eval o X.env)
   let iv <- holding [v,ov] (eval i X.env)
   standAt pos
   holding [v,ov,iv] (setItem ov iv v)
   release [v,ov,iv] []):=by intro _;rfl):PG X (.Subscript o i pos) (gSub to ti t):=by
 intro pins s σ H v u Q I r h
 rw[ha]
 refine ja_ (qC_ (thn (ho pins s σ H _ I h) fun ov s1 ⟨x,H1,I1,r1,q1⟩=>?_))
 refine ja_ (qC_ (thn (hi pins s1 σ H1 _ I1 q1) fun iv s2 ⟨y,H2,I2,r2,q2⟩=>?_))
 refine ja_ (wpAny_standAt (ja_ (qC_ (thn (hs pins s2 σ H2 x y v ov iv u _ I2 r1 r2 r q2) fun _ s3 ⟨H3,I3,q3⟩=>?_))))
 exact wpAny_release ⟨σ,H3,I3,q3⟩
noncomputable def tAsg (te:TE)(g:TG):TS:=fun D σ H=>te σ H fun x H1=>g x σ H1 D.nx
theorem Gq_    (he:PE X e te)(hg:PG X tg g)(hs:swapsWithSole [tg] e pos.line X.env=pure false:=by rfl)(hw:swappedStores [tg] e X.env=pure none:=by rfl)
  (h1:(assignEach [tg] X.env).map (·.2)=[assign tg X.env]:=by rfl):PS X (.Assign [tg] e pos) (tAsg te g):=by
 intro pins s σ H D I h
 refine wpAny_Assign_stores (thn (he pins s σ H _ I h) fun v s1 ⟨x,H1,I1,r1,q1⟩=>?_) hs hw
 rw[h1]
 exact thn (hg pins s1 σ H1 x v _ I1 r1 q1) fun _ s2 q=>q
theorem Kh      (hN:X.N.Nodup)(hi:X.N[i]?=some x)(hx:Loc X.env.scope x)(he:PE X e te)(hs:swapsWith e (some (.Name x pos')) pos.line X.env=pure false:=by rfl)(hf:X.fn x=true\/X.env.scope.names.lookup x=some .local:=by first|exact .inl rfl|exact .inr rfl|assumption):
  PS X (.Assign [.Name x pos'] e pos) (tAsg te (CW_ i)):=by
 intro pins s σ H D I h
 refine wpAny_Assign_Name (thn (he pins s σ H _ I h) fun v s1 ⟨y,H1,I1,r1,q1⟩=>?_) hs
 exact Eo_ I1 hN hi hx r1 (fun s2 I2=>⟨_,H1,I2,q1⟩) hf
end
section
variable {X:Cx} {pos:Pos}
noncomputable def JB_ (c:TT)(tb:TS):TS:=fun D σ H=>∃W:Nat->St->Hp->Prop,(∃m,W m σ H)/\∀m σ H,W m σ H ->
 c σ H fun b H1=>if b=true then ∃N:St->Hp->Prop,(∀σ' H',N σ' H'->∃m',m'<m/\W m' σ' H')/\tb {D with nx:=N,ct:=N,bk:=D.nx} σ H1 else D.nx σ H1
theorem X2     (hp:PassesOwn (model X.prog X.w) X.A X.env X.xe)(hc:PT X c tc)(hb:PSs X body tb):PS X (.While c body [] pos) (JB_ tc tb):=by
 intro pins s σ H D I h
 obtain⟨W,⟨m0,w0⟩,turn⟩:=h
 refine wpAny_While (codeAny_whileLoop (fun n s'=>∃σ' H',Inv X pins σ' H' s'/\W n σ' H') ?_ m0 ⟨σ,H,I,w0⟩)
 rintro n s1 ⟨σ1,H1,I1,w1⟩
 refine xc_ hp (thn (hc pins s1 σ1 H1 _ I1 (turn n σ1 H1 w1)) fun b s2 ⟨H2,I2,q2⟩=>?_)
 cases b with
 |true=>
  obtain⟨N,hN,q2⟩:=q2
  rw[if_pos rfl]
  refine xc_ hp (thn (hb pins s2 σ1 H2 _ I2 q2) fun f s3 q3=>?_)
  cases f with
  |next=>
   obtain⟨σ3,H3,I3,n3⟩:=q3
   obtain⟨m',hm,w3⟩:=hN σ3 H3 n3
   exact⟨m',hm,σ3,H3,I3,w3⟩
  |cont=>
   obtain⟨σ3,H3,I3,n3⟩:=q3
   obtain⟨m',hm,w3⟩:=hN σ3 H3 n3
   exact⟨m',hm,σ3,H3,I3,w3⟩
  |brk=>exact q3
  |ret v=>exact q3
 |false=>
  rw[if_neg jm_]
  exact zc_ ⟨σ1,H2,I2,q2⟩
end
structure It where
 go:Nat->Hp->Prop
 yld:Nat->Hp->V->Hp->Prop
 stop:Nat->Hp->Prop
noncomputable def FpOk (X:Cx)(pins:α7)(H:Hp)(b:Addr):Prop:=
 H b=none/\b≠X.env.locals/\b∉X.fs/\(b∈X.ex\/X.s₀.heap.objs.size<=b)/\(∀x c,X.env.cells.lookup x=some c->c≠b)/\∀p∈X.pn++pins,p.1≠b
theorem Inv.fpOk       (I:Inv X pins σ H s)(hb:s.heap.objs.size<=b)(hn:H' b=none):FpOk X pins H' b:=by
 refine⟨hn,j1_ (jy_ I.lt hb),I.nofs hb,.inr (qi_ I.sz hb),fun x c e z=>?_,fun p hp z=>?_⟩
 ·obtain⟨v,q⟩:=I.cell x c e
  exact absurd (jy_ q.lt (by rw[z];exact hb)) (qf_ _)
 ·exact absurd (jy_ (jk_ (I.pin p hp).1) (by rw[z];exact hb)) (qf_ _)
structure Turn (P:Program)(w:World)(K:α3)(tg:Expr)(J:It)(fp:List Addr)(it:Addr)(tn:Nat->Heap->Prop):Prop where
 mem:it∈fp
 obj:∀i h,tn i h->∀b∈fp,∃o,h.get? b=some o/\∀v,o.data ≠ .cell v
 keep:∀i h h',tn i h->(∀b∈fp,∀o,h.get? b=some o->h'.get? b=some o)->tn i h'
 item:∀(X:Cx),X.prog=P->X.w=w->X.K=K->X.calm=true->∀(i:Nat) (pins:α7) (s:Shared) (σ:St) (H:Hp) (E:Value->Shared->Prop),Inv X pins σ H s->(∀b∈fp,FpOk X pins H b)->tn i s.heap->J.go i H ->
  wpAny (model P w) X.A (pyNext (.ref it)) (fun r s1=>∃u,r=some u /\
   wpAny (model P w) X.A (letOwnedTupleGo tg (.ref it) u) (fun _ s2=>∃x H',Inv X pins σ H' s2/\RelV x u/\J.yld i H x H'/\tn (i+1) s2.heap/\∀b∈fp,H' b=none) E s1) E s
 done:∀(X:Cx),X.prog=P->X.w=w->X.K=K->X.calm=true->∀(i:Nat) (pins:α7) (s:Shared) (σ:St) (H:Hp) (E:Value->Shared->Prop),Inv X pins σ H s->(∀b∈fp,FpOk X pins H b)->tn i s.heap->J.stop i H ->
  wpAny (model P w) X.A (pyNext (.ref it)) (fun r s1=>r=none/\Inv X pins σ H s1) E s
 self:∀(A:Around) (i:Nat) (s:Shared) (Q:Value->Shared->Prop) (E:Value->Shared->Prop),tn i s.heap->Q (.ref it) s->wpAny (model P w) A (pyIter (.ref it)) Q E s
noncomputable abbrev TI:=St->Hp->(It->Hp->Prop)->Prop
noncomputable def PIE (X:Cx)(pins:α7)(σ:St)(tg:Expr)(R:It->Hp->Prop)(itv:Value)(s2:Shared):Prop:=
 ∃(it:Addr) (fp:List Addr) (tn:Nat->Heap->Prop) (J:It) (H':Hp),itv=.ref it/\Inv X pins σ H' s2/\Turn X.prog X.w X.K tg J fp it tn/\tn 0 s2.heap/\(∀b∈fp,FpOk X pins H' b)/\R J H'
noncomputable def PI (X:Cx)(tg iter:Expr)(wi:TI):Prop:=
 ∀(pins:α7) (s:Shared) (σ:St) (H:Hp) (R:It->Hp->Prop),Inv X pins σ H s->wi σ H R ->
  wpAny (model X.prog X.w) X.A (eval iter X.env) (fun v s1=>wpAny (model X.prog X.w) X.A (pyIter v) (PIE X pins σ tg R) X.xe s1) X.xe s
theorem Is_      {it:Addr}      (ho:s.heap.get? it=some o)(hc:o.cls=.type n)(hd:o.data=.fields vs)
    (hn:["enumerate","zip","dict_itemiterator","dict_reverseitemiterator","odict_iterator","itertools.zip_longest","itertools.pairwise"].contains n=false) (hQ:Q () s):wpAny M A (letOwnedTupleGo tg (.ref it) u) Q E s:=by
  unfold letOwnedTupleGo
  cases tg<;>first
    | exact je_ hQ
    | (cases u<;>first
        | exact je_ hQ
        | (refine ja_ (wpAny_load ho ?_)
           rw[hc,hd]
           show wpAny M A (if (["enumerate","zip","dict_itemiterator","dict_reverseitemiterator","odict_iterator","itertools.zip_longest","itertools.pairwise"].contains n&&vs[0]? == some (rawInt _))=true then _ else _) Q E s
           rw[if_neg (by intro h;rw[hn,Bool.false_and]at h;cases h)]
           exact je_ hQ))
noncomputable def Itl (K:α3)(a:Addr):It:=
 ⟨fun i H=>∃xs x,SqL K H a xs/\xs[i]?=some x,fun i H x H'=>H'=H/\∀xs,SqL K H a xs->xs[i]?=some x,fun i H=>∃xs,SqL K H a xs/\xs.length<=i⟩
noncomputable def Itt (K:α3)(a:Addr):It:=
 ⟨fun i H=>∃xs x,SqT K H a xs/\xs[i]?=some x,fun i H x H'=>H'=H/\∀xs,SqT K H a xs->xs[i]?=some x,fun i H=>∃xs,SqT K H a xs/\xs.length<=i⟩
noncomputable def Itr (lo:Int)(n:Nat):It:=⟨fun i _=>i<n,fun i H x H'=>H'=H/\x=.int (lo+i),fun i _=>n<=i⟩
theorem Gr_ {P:Program}{w:World}{K:α3}{tg:Expr}(a it:Addr):Turn P w K tg (Itl K a) [it] it (fun i h=>h.IsListIter it a i) where
 mem:=by simp
 obj:=fun i h st b hb=>by
  have e:b=it:=by simpa using hb
  subst e
  obtain⟨o,e,c,d⟩:=st
  exact⟨o,e,fun v z=>by rw[d]at z;cases z⟩
 keep:=fun i h h' st k=>st.at fun o e=>k it (by simp) o e
 item:=by
  intro X hP hw hK hc i pins s σ H E I hf st hg
  subst hP hw hK
  obtain⟨xs,x,hq,hx⟩:=hg
  obtain⟨its,rv,p,hz⟩:=I.list hq
  obtain⟨u,hu,ru⟩:=rv.get hx
  obtain⟨f0,f1,f2,f3,f4,f5⟩:=hf it (by simp)
  refine wpAny_pyNext_list_item st p.isList (x:=u) (by simpa using hu) fun h' st' sb=>?_
  have I1:Inv X pins σ H {s with heap:=h' }:=I.turned (t':=s.toks) (fun b o hb e=>(sb.2 b hb).trans e) f0 f1 f3 f4 f5
  obtain⟨o,e,c,d⟩:=id st'
  exact⟨u,rfl,Is_ (s:={s with heap:=h' }) e c d (by decide) ⟨x,H,I1,ru,⟨rfl,fun ys hy=>by rw[I.list_inj hy hq];exact hx⟩,st',fun b hb=>(hf b hb).1⟩⟩
 done:=by
  intro X hP hw hK hc i pins s σ H E I hf st hg
  subst hP hw hK
  obtain⟨xs,hq,hx⟩:=hg
  obtain⟨its,rv,p,hz⟩:=I.list hq
  obtain⟨f0,f1,f2,f3,f4,f5⟩:=hf it (by simp)
  have hl:=rv.length
  exact wpAny_pyNext_list_end (I.ok.hd hc) st p.isList (by simp;lia) fun h' eb=>⟨rfl,I.turned (t':=s.toks) (fun b o hb e=>eb b o hb e) f0 f1 f3 f4 f5⟩
 self:=fun _ _ _ _ _ st h=>wpAny_pyIter_listiter st h
theorem Fk_ {P:Program}{w:World}{K:α3}{tg:Expr}(a it:Addr):Turn P w K tg (Itt K a) [it] it (fun i h=>h.IsTupleIter it a i) where
 mem:=by simp
 obj:=fun i h st b hb=>by
  have e:b=it:=by simpa using hb
  subst e
  obtain⟨o,e,c,d⟩:=st
  exact⟨o,e,fun v z=>by rw[d]at z;cases z⟩
 keep:=fun i h h' st k=>st.at fun o e=>k it (by simp) o e
 item:=by
  intro X hP hw hK hc i pins s σ H E I hf st hg
  subst hP hw hK
  obtain⟨xs,x,hq,hx⟩:=hg
  obtain⟨its,rv,p,hz⟩:=I.tuple hq
  obtain⟨u,hu,ru⟩:=rv.get hx
  obtain⟨f0,f1,f2,f3,f4,f5⟩:=hf it (by simp)
  refine wpAny_pyNext_tuple_item st (show s.heap.IsTuple a its.toArray from p) (x:=u) (by simpa using hu) fun h' st' sb=>?_
  have I1:Inv X pins σ H {s with heap:=h' }:=I.turned (t':=s.toks) (fun b o hb e=>(sb.2 b hb).trans e) f0 f1 f3 f4 f5
  obtain⟨o,e,c,d⟩:=id st'
  exact⟨u,rfl,Is_ (s:={s with heap:=h' }) e c d (by decide) ⟨x,H,I1,ru,⟨rfl,fun ys hy=>by rw[I.tuple_inj hy hq];exact hx⟩,st',fun b hb=>(hf b hb).1⟩⟩
 done:=by
  intro X hP hw hK hc i pins s σ H E I hf st hg
  subst hP hw hK
  obtain⟨xs,hq,hx⟩:=hg
  obtain⟨its,rv,p,hz⟩:=I.tuple hq
  obtain⟨f0,f1,f2,f3,f4,f5⟩:=hf it (by simp)
  have hl:=rv.length
  exact wpAny_pyNext_tuple_end (I.ok.hd hc) st (show s.heap.IsTuple a its.toArray from p) (by simp;lia) fun h' eb=>⟨rfl,I.turned (t':=s.toks) (fun b o hb e=>eb b o hb e) f0 f1 f3 f4 f5⟩
 self:=fun _ _ _ _ _ st h=>wpAny_pyIter_tupleiter st h
theorem Fl_ {P:Program}{w:World}{K:α3}{tg:Expr}(it:Addr)(lo:Int)(n:Nat):Turn P w K tg (Itr lo n) [it] it (fun i h=>IsRangeIter h it (lo+(i:Nat)*1) ((n:Int)-(i:Nat)) 1) where
 mem:=by simp
 obj:=fun i h st b hb=>by
  have e:b=it:=by simpa using hb
  subst e
  exact⟨_,st,fun v z=>by
   have z':Data.fields _=Data.cell v:=z
   cases z'⟩
 keep:=fun i h h' st k=>k it (by simp) _ st
 item:=by
  intro X hP hw hK hc i pins s σ H E I hf st hg
  subst hP hw hK
  obtain⟨f0,f1,f2,f3,f4,f5⟩:=hf it (by simp)
  have W:=Walks.range (prog:=X.prog) (w:=X.w) (I.ok.hd hc) it lo 1 n
  refine W.item i s _ _ hg st fun v h' tk hv st' kk=>?_
  obtain⟨t,rfl⟩:=hv
  have I1:Inv X pins σ H {s with heap:=h',toks:=tk}:=I.turned (fun b o hb e=>kk b o (by simpa using hb) e) f0 f1 f3 f4 f5
  refine⟨_,rfl,Is_ (s:={s with heap:=h',toks:=tk}) (n := "range_iterator") st' rfl rfl (by decide) ⟨.int (lo+i),H,I1,⟨t,?_⟩,⟨rfl,rfl⟩,st',fun b hb=>(hf b hb).1⟩⟩
  rw[Int.mul_one]
 done:=by
  intro X hP hw hK hc i pins s σ H E I hf st hg
  subst hP hw hK
  obtain⟨f0,f1,f2,f3,f4,f5⟩:=hf it (by simp)
  exact wpAny_pyNext_range_end (I.ok.hd hc) st (by have:n<=i:=hg;lia) fun h' eb=>⟨rfl,I.turned (t':=s.toks) (fun b o hb e=>eb b o hb e) f0 f1 f3 f4 f5⟩
 self:=fun _ _ _ _ _ st h=>wpAny_pyIter_rangeiter st h
end L2
namespace L2
open PySem PySem.Spec PyProof.Rows
section
variable {X:Cx} {tg:Expr}
noncomputable def LV_ (K:α3)(tl:TE):TI:=fun σ H R=>tl σ H fun x H1=>∃a,x=.ref a/\(∃xs,SqL K H1 a xs)/\R (Itl K a) H1
noncomputable def iTup (K:α3)(tl:TE):TI:=fun σ H R=>tl σ H fun x H1=>∃a,x=.ref a/\(∃xs,SqT K H1 a xs)/\R (Itt K a) H1
theorem Ge   (hl:PE X l tl):PI X tg l (LV_ X.K tl):=by
 intro pins s σ H R I h
 refine thn (hl pins s σ H _ I h) fun v s1 ⟨x,H1,I1,r1,q1⟩=>?_
 obtain⟨a,e,⟨xs,hq⟩,q⟩:=q1
 subst e
 cases r1
 obtain⟨its,rv,p,hz⟩:=I1.list hq
 refine wpAny_pyIter_list p.isList ?_
 refine⟨s1.heap.objs.size,[s1.heap.objs.size],_,_,H1,rfl,I1.kept (t':=s1.toks) fun b o e=>jd_ _ e,Gr_ a _,⟨_,jo_ _ rfl,rfl,rfl⟩,fun b hb=>?_,q⟩
 have e:b=s1.heap.objs.size:=by simpa using hb
 subst e
 exact I1.fpOk (jl_ _) (I1.hok.fresh (jl_ _))
theorem Er_   (hl:PE X l tl):PI X tg l (iTup X.K tl):=by
 intro pins s σ H R I h
 refine thn (hl pins s σ H _ I h) fun v s1 ⟨x,H1,I1,r1,q1⟩=>?_
 obtain⟨a,e,⟨xs,hq⟩,q⟩:=q1
 subst e
 cases r1
 obtain⟨its,rv,p,hz⟩:=I1.tuple hq
 refine wpAny_pyIter_tuple (show s1.heap.IsTuple a its.toArray from p) ?_
 refine⟨s1.heap.objs.size,[s1.heap.objs.size],_,_,H1,rfl,I1.kept (t':=s1.toks) fun b o e=>jd_ _ e,Fk_ a _,⟨_,jo_ _ rfl,rfl,rfl⟩,fun b hb=>?_,q⟩
 have e:b=s1.heap.objs.size:=by simpa using hb
 subst e
 exact I1.fpOk (jl_ _) (I1.hok.fresh (jl_ _))
theorem Es_       {lo hi:Int}   (I:Inv X pins σ H s)(h1 : -(2 ^ 62)<=lo)(h2:lo<2 ^ 62)(h3 : -(2 ^ 62)<=hi)(h4:hi<2 ^ 62)
  (q:R (Itr lo (hi-lo).toNat) H):wpAny (model X.prog X.w) X.A (pyIter (.ref s.heap.objs.size)) (PIE X pins σ tg R) E {s with heap:=s.heap.push {cls:=.type "range",data:=.fields #[.int lo t,.int hi u,.int 1 v]},toks:=tk}:=by
 refine wpAny_pyIter_range (IsRange.new ..) (small_one h1 h2 h3 h4) ?_
 have I1:Inv X pins σ H {s with heap:=s.heap.push {cls:=.type "range",data:=.fields #[.int lo t,.int hi u,.int 1 v]},toks:=tk}:=I.kept fun b o e=>jd_ _ e
 refine⟨(s.heap.push {cls:=.type "range",data:=.fields #[.int lo t,.int hi u,.int 1 v]}).objs.size,[(s.heap.push {cls:=.type "range",data:=.fields #[.int lo t,.int hi u,.int 1 v]}).objs.size],_,_,H,rfl,
  I1.kept (t':=tk) fun b o e=>jd_ _ e,Fl_ _ lo (hi-lo).toNat,?_,fun b hb=>?_,q⟩
 ·have e1:lo+((0:Nat):Int)*1=lo:=by simp
  have e2:(((hi-lo).toNat:Nat):Int)-((0:Nat):Int)=Builtin.Range.rangeSize lo hi 1:=by rw[rangeSize_one];split<;>lia
  show IsRangeIter _ _ (lo+((0:Nat):Int)*1) ((((hi-lo).toNat:Nat):Int)-((0:Nat):Int)) 1
  rw[e1,e2]
  exact jo_ _ rfl
 ·have e:b=(s.heap.push {cls:=.type "range",data:=.fields #[.int lo t,.int hi u,.int 1 v]}).objs.size:=by simpa using hb
  subst e
  exact I1.fpOk (jl_ _) (I1.hok.fresh (jl_ _))
noncomputable def LW_ (ta:TA):TI:=fun σ H R=>ta σ H fun vs H1=>∃j:Int,vs=[.int j] /\ -(2 ^ 62)<=j/\j<2 ^ 62/\R (Itr 0 j.toNat) H1
noncomputable def LX_ (ta:TA):TI:=fun σ H R=>ta σ H fun vs H1=>∃i j:Int,vs=[.int i,.int j]/\(-(2 ^ 62)<=i/\i<2 ^ 62 /\ -(2 ^ 62)<=j/\j<2 ^ 62)/\R (Itr i (j-i).toNat) H1
theorem EU    (hg:Gl X "range")(hm:X.mg "range"=none)(ha:PA X [a] ta)(hs:starEach [a] X.env=[(false,eval a X.env)]:=by rfl):PI X tg (.Call (.Name "range" p) [a] [] pos) (LW_ ta):=by
 intro pins s σ H R I h
 refine Call_ (UZ I hg hm boot_range (qD_ (thn (ha pos pins s σ H _ I h) fun us s1 ⟨vs,H1,I1,r1,q1⟩=>?_) hs rfl))
 obtain⟨j,e,q1,q2,q⟩:=q1
 subst e
 cases r1 with
 |cons r rr=>
  cases rr
  obtain⟨t,rfl⟩:=r
  exact call_range_1 (Es_ I1 s!"" s!"" q1 q2 (by simpa using q))
theorem Gs_    (hg:Gl X "range")(hm:X.mg "range"=none)(ha:PA X [a,b] ta)(hs:starEach [a,b] X.env=[(false,eval a X.env),(false,eval b X.env)]:=by rfl)(hs2:starEach [b] X.env=[(false,eval b X.env)]:=by rfl):
  PI X tg (.Call (.Name "range" p) [a,b] [] pos) (LX_ ta):=by
 intro pins s σ H R I h
 refine Call_ (UZ I hg hm boot_range (qD_ (thn (ha pos pins s σ H _ I h) fun us s1 ⟨vs,H1,I1,r1,q1⟩=>?_) (by rw[hs,hs2]) (by rw[hs2];rfl)))
 obtain⟨i,j,e,⟨q1,q2,q3,q4⟩,q⟩:=q1
 subst e
 cases r1 with
 |cons r rr=>
  cases rr with
  |cons r' rr=>
   cases rr
   obtain⟨t,rfl⟩:=r
   obtain⟨t',rfl⟩:=r'
   exact call_range_2 (Es_ I1 q1 q2 q3 q4 q)
noncomputable def tFor (wi:TI)(g:TG)(tb:TS):TS:=fun D σ H=>wi σ H fun J H1=>∃W:Nat->Nat->St->Hp->Prop,(∃m,W 0 m σ H1)/\∀i m σ H,W i m σ H ->
 (J.stop i H/\D.nx σ H)\/(J.go i H/\∃N:St->Hp->Prop,(∀σ' H',N σ' H'->∃m',m'<m/\W (i+1) m' σ' H')/\∀x H',J.yld i H x H'->g x σ H' fun σ2 H2=>tb {D with nx:=N,ct:=N,bk:=D.nx} σ2 H2)
noncomputable def AK_ (fp:List Addr)(h:Heap):α7:=fp.filterMap fun b=>(h.get? b).map fun o=>(b,o)
theorem Ob     (hb:b∈fp)(e:h.get? b=some o):(b,o)∈AK_ fp h:=zh_.mpr ⟨b,hb,by rw[e];rfl⟩
theorem Gt_    (hp:p∈AK_ fp h):p.1∈fp/\h.get? p.1=some p.2:=by
 obtain⟨b,hb,e⟩:=zh_.mp hp
 cases q:h.get? b with
 |none=>rw[q]at e;cases e
 |some o=>
  rw[q]at e
  have e':(b,o)=p:=jt_ e
  subst e'
  exact⟨hb,q⟩
theorem Inv.pinned      (I:Inv X pins σ H s)(hf:∀b∈fp,FpOk X pins H b)(ho:∀b∈fp,∃o,s.heap.get? b=some o/\∀v,o.data ≠ .cell v):Inv X (pins++AK_ fp s.heap) σ H s:=
 I.pins_of fun p hp=>(jK_.mp hp).elim (fun z=>I.pin p (jU_ _ z)) fun z=>by
  obtain⟨hb,e⟩:=Gt_ z
  obtain⟨f0,f1,f2,_⟩:=hf p.1 hb
  obtain⟨o,e',d⟩:=ho p.1 hb
  rw[e]at e';cases e'
  exact⟨e,f0,f1,f2,d⟩
theorem Inv.unpinned     (I:Inv X (pins++pl) σ H s):Inv X pins σ H s:=I.pins_of fun p hp=>I.pin p (jU_ _ (j9_ _ hp))
theorem E6 {iter:Expr}  {wi:TI}    (hp:PassesOwn (model X.prog X.w) X.A X.env X.xe)(hc:X.calm=true)(hi:PI X tg iter wi)(hg:PG X tg g)(hb:PSs X body tb)
  (hs:∀x,foldedSetIterable iter X.env x=pure x:=by intro _;rfl):PS X (.For tg iter body [] pos) (tFor wi g tb):=by
 intro pins s σ H D I h
 refine wpAny_For (thn (hi pins s σ H _ I h) fun v s1 h1=>thn h1 fun itv s2 h2=>?_) hs
 obtain⟨it,fp,tn,J,H2,e,I2,T,st2,f2,W,⟨m0,w0⟩,turn⟩:=h2
 subst e
 -- what stays true of the iterator's objects through the loop
 have stat:∀{H':Hp},(∀b∈fp,H' b=none)->∀b∈fp,FpOk X pins H' b:=fun hn b hb=>⟨hn b hb,(f2 b hb).2⟩
 refine codeAny_forLoop_any (fun n s'=>∃i σ' H',Inv X pins σ' H' s'/\tn i s'.heap/\(∀b∈fp,H' b=none)/\W i n σ' H') ?_ m0 ⟨0,σ,H2,I2,st2,fun b hb=>(f2 b hb).1,w0⟩
 rintro n s3 ⟨i,σ3,H3,I3,st3,fr3,w3⟩
 rcases turn i n σ3 H3 w3 with ⟨stop,qn⟩|⟨go,N,hN,step⟩
 ·refine xc_ hp (thn (T.done X rfl rfl rfl hc i pins s3 σ3 H3 X.xe I3 (stat fr3) st3 stop) fun r s4 ⟨hr,I4⟩=>?_)
  subst hr
  exact zc_ ⟨σ3,H3,I4,qn⟩
 ·refine xc_ hp (thn (T.item X rfl rfl rfl hc i pins s3 σ3 H3 X.xe I3 (stat fr3) st3 go) fun r s4 ⟨u,hr,h4⟩=>?_)
  subst hr
  refine xc_ hp (thn h4 fun _ s5 ⟨x,H5,I5,r5,y5,st5,fr5⟩=>?_)
  have I5':=I5.pinned (stat fr5) (T.obj _ _ st5)
  refine xc_ hp (thn (hg _ s5 σ3 H5 x u _ I5' r5 (step x H5 y5)) fun _ s6 ⟨σ6,H6,I6,q6⟩=>?_)
  refine xc_ hp (thn (hb _ s6 σ6 H6 _ I6 q6) fun f s7 q7=>?_)
  have again:∀{σ7:St} {H7:Hp},Inv X (pins++AK_ fp s5.heap) σ7 H7 s7->N σ7 H7->∃m,m<n/\∃i σ' H',Inv X pins σ' H' s7/\tn i s7.heap/\(∀b∈fp,H' b=none)/\W i m σ' H':=fun {σ7 H7} I7 n7=>by
   obtain⟨m',hm,w7⟩:=hN σ7 H7 n7
   refine⟨m',hm,i+1,σ7,H7,I7.unpinned,T.keep _ _ _ st5 fun b hb o e=>(I7.pin (b,o) (jU_ _ (jU_ _ (Ob hb e)))).1,fun b hb=>?_,w7⟩
   obtain⟨o,e,d⟩:=T.obj _ _ st5 b hb
   exact (I7.pin (b,o) (jU_ _ (jU_ _ (Ob hb e)))).2.1
  cases f with
  |next=>obtain⟨σ7,H7,I7,n7⟩:=q7;exact again I7 n7
  |cont=>obtain⟨σ7,H7,I7,n7⟩:=q7;exact again I7 n7
  |brk=>obtain⟨σ7,H7,I7,q7⟩:=q7;exact⟨σ7,H7,I7.unpinned,q7⟩
  |ret v=>obtain⟨x7,σ7,H7,I7,r7,q7⟩:=q7;exact⟨x7,σ7,H7,I7.unpinned,r7,q7⟩
end
theorem It_ {K:α3}{a:Addr}{xs:List V}{g:TG}{tb:TS}{D:Ends}{σ:St}{H:Hp}(Pv:Nat->St->Hp->Prop)(h0:Pv 0 σ H)(hl:∀i σ H,i<=xs.length->Pv i σ H->SqL K H a xs)
  (hs:∀i x σ H,xs[i]?=some x->Pv i σ H->g x σ H fun σ2 H2=>tb {D with nx:=Pv (i+1),ct:=Pv (i+1),bk:=D.nx} σ2 H2) (hd:∀σ H,Pv xs.length σ H->D.nx σ H):
  ∃W:Nat->Nat->St->Hp->Prop,(∃m,W 0 m σ H)/\∀i m σ H,W i m σ H ->
   ((Itl K a).stop i H/\D.nx σ H)\/((Itl K a).go i H/\∃N:St->Hp->Prop,(∀σ' H',N σ' H'->∃m',m'<m/\W (i+1) m' σ' H')/\∀x H',(Itl K a).yld i H x H'->g x σ H' fun σ2 H2=>tb {D with nx:=N,ct:=N,bk:=D.nx} σ2 H2):=by
 refine⟨fun i m σ H=>m=xs.length-i/\i<=xs.length/\Pv i σ H,⟨xs.length,by simp,qp_ _,h0⟩,?_⟩
 rintro i m σ H ⟨rfl,hi,p⟩
 have q:=hl i σ H hi p
 by_cases hlt:i<xs.length
 ·refine .inr ⟨⟨xs,xs[i],q,by simp[hlt]⟩,Pv (i+1),fun σ' H' p'=>⟨xs.length-(i+1),by lia,rfl,hlt,p'⟩,fun x H' y=>?_⟩
  obtain⟨e,y⟩:=y
  subst e
  exact hs i x σ _ (y xs q) p
 ·have e:i=xs.length:=by lia
  subst e
  exact .inl ⟨⟨xs,q,jl_ _⟩,hd σ H p⟩
theorem KO_ {K:α3}{a:Addr}{xs:List V}{g:TG}{tb:TS}{D:Ends}{σ:St}{H:Hp}(Pv:Nat->St->Hp->Prop)(h0:Pv 0 σ H)(hl:∀i σ H,i<=xs.length->Pv i σ H->SqT K H a xs)
  (hs:∀i x σ H,xs[i]?=some x->Pv i σ H->g x σ H fun σ2 H2=>tb {D with nx:=Pv (i+1),ct:=Pv (i+1),bk:=D.nx} σ2 H2) (hd:∀σ H,Pv xs.length σ H->D.nx σ H):
  ∃W:Nat->Nat->St->Hp->Prop,(∃m,W 0 m σ H)/\∀i m σ H,W i m σ H ->
   ((Itt K a).stop i H/\D.nx σ H)\/((Itt K a).go i H/\∃N:St->Hp->Prop,(∀σ' H',N σ' H'->∃m',m'<m/\W (i+1) m' σ' H')/\∀x H',(Itt K a).yld i H x H'->g x σ H' fun σ2 H2=>tb {D with nx:=N,ct:=N,bk:=D.nx} σ2 H2):=by
 refine⟨fun i m σ H=>m=xs.length-i/\i<=xs.length/\Pv i σ H,⟨xs.length,by simp,qp_ _,h0⟩,?_⟩
 rintro i m σ H ⟨rfl,hi,p⟩
 have q:=hl i σ H hi p
 by_cases hlt:i<xs.length
 ·refine .inr ⟨⟨xs,xs[i],q,by simp[hlt]⟩,Pv (i+1),fun σ' H' p'=>⟨xs.length-(i+1),by lia,rfl,hlt,p'⟩,fun x H' y=>?_⟩
  obtain⟨e,y⟩:=y
  subst e
  exact hs i x σ _ (y xs q) p
 ·have e:i=xs.length:=by lia
  subst e
  exact .inl ⟨⟨xs,q,jl_ _⟩,hd σ H p⟩
theorem Gu_ {lo:Int}{n:Nat}{g:TG}{tb:TS}{D:Ends}{σ:St}{H:Hp}(Pv:Nat->St->Hp->Prop)(h0:Pv 0 σ H)
  (hs:∀i σ H,i<n->Pv i σ H->g (.int (lo+i)) σ H fun σ2 H2=>tb {D with nx:=Pv (i+1),ct:=Pv (i+1),bk:=D.nx} σ2 H2) (hd:∀σ H,Pv n σ H->D.nx σ H):
  ∃W:Nat->Nat->St->Hp->Prop,(∃m,W 0 m σ H)/\∀i m σ H,W i m σ H ->
   ((Itr lo n).stop i H/\D.nx σ H)\/((Itr lo n).go i H/\∃N:St->Hp->Prop,(∀σ' H',N σ' H'->∃m',m'<m/\W (i+1) m' σ' H')/\∀x H',(Itr lo n).yld i H x H'->g x σ H' fun σ2 H2=>tb {D with nx:=N,ct:=N,bk:=D.nx} σ2 H2):=by
 refine⟨fun i m σ H=>m=n-i/\i<=n/\Pv i σ H,⟨n,by simp,qp_ _,h0⟩,?_⟩
 rintro i m σ H ⟨rfl,hi,p⟩
 by_cases hlt:i<n
 ·refine .inr ⟨hlt,Pv (i+1),fun σ' H' p'=>⟨n-(i+1),by lia,rfl,hlt,p'⟩,fun x H' y=>?_⟩
  obtain⟨e,y⟩:=y
  subst e y
  exact hs i σ _ hlt p
 ·have e:i=n:=by lia
  subst e
  exact .inl ⟨jl_ _,hd σ H p⟩
end L2
namespace L2
open PySem PySem.Spec PyProof.Rows
noncomputable abbrev R2:=V->V->Hp->VK->Prop
noncomputable def OpR (X:Cx)(f:Value->Value->Sem Value)(r:R2):Prop:=
 ∀(pins:α7) (s:Shared) (σ:St) (H:Hp) (x y:V) (v u:Value) (Q:VK),Inv X pins σ H s->RelV x v->RelV y u->r x y H Q ->
  wpAny (model X.prog X.w) X.A (f v u) (EP X pins σ Q) X.xe s
noncomputable def UnR (X:Cx)(f:Value->Sem Value)(r:V->Hp->VK->Prop):Prop:=
 ∀(pins:α7) (s:Shared) (σ:St) (H:Hp) (x:V) (v:Value) (Q:VK),Inv X pins σ H s->RelV x v->r x H Q ->
  wpAny (model X.prog X.w) X.A (f v) (EP X pins σ Q) X.xe s
noncomputable def Oi (X:Cx)(f:Value)(r:List V->Hp->VK->Prop):Prop:=
 ∀(pins:α7) (s:Shared) (σ:St) (H:Hp) (xs:List V) (us:List Value) (Q:VK),Inv X pins σ H s->Vals xs us->r xs H Q ->
  wpAny (model X.prog X.w) X.A (call f us) (EP X pins σ Q) X.xe s
noncomputable def tOp (r:R2)(ta tb:TE):TE:=fun σ H Q=>ta σ H fun x H1=>tb σ H1 fun y H2=>r x y H2 Q
noncomputable def tUn (r:V->Hp->VK->Prop)(ta:TE):TE:=fun σ H Q=>ta σ H fun x H1=>r x H1 Q
noncomputable def rI (C:Int->Int->Prop)(g:Int->Int->V):R2:=fun x y H Q=>∃i j,x=.int i/\y=.int j/\C i j/\Q (g i j) H
noncomputable def rI0 (g:Int->Int->V):R2:=fun x y H Q=>∃i j,x=.int i/\y=.int j/\Q (g i j) H
noncomputable def rU (g:Int->V):V->Hp->VK->Prop:=fun x H Q=>∃i,x=.int i/\Q (g i) H
section
variable {X:Cx} {a b c:Expr} {ta tb tc:TE} {pos:Pos}
theorem binT (ha:PE X a ta)(hb:PE X b tb){pins:α7}{s:Shared}{σ:St}{H:Hp}{R:V->V->Hp->Prop}(I:Inv X pins σ H s)
  (h:ta σ H fun x H1=>tb σ H1 fun y H2=>R x y H2) {Q:Value->Shared->Prop} {f:Value->Value->Sem Value}
  (hf:∀v u s2 x y H2,Inv X pins σ H2 s2->RelV x v->RelV y u->R x y H2->wpAny (model X.prog X.w) X.A (f v u) Q X.xe s2):
  wpAny (model X.prog X.w) X.A (eval a X.env) (fun v s₁=>wpAny (model X.prog X.w) X.A (eval b X.env) (fun u s₂=>wpAny (model X.prog X.w) X.A (f v u) Q X.xe s₂) X.xe s₁) X.xe s:=by
 refine thn (ha pins s σ H _ I h) fun v s1 ⟨x,H1,I1,r1,q1⟩=>?_
 refine thn (hb pins s1 σ H1 _ I1 q1) fun u s2 ⟨y,H2,I2,r2,q2⟩=>?_
 exact hf v u s2 x y H2 I2 r1 r2 q2
theorem BS   (ho:OpR X (binaryOp op) r)(ha:PE X a ta)(hb:PE X b tb):PE X (.BinOp a op b pos) (tOp r ta tb):=by
 intro pins s σ H Q I h
 exact wpAny_BinOp (binT ha hb I h fun v u s2 x y H2 I2 rx ry q=>ho pins s2 σ H2 x y v u Q I2 rx ry q)
theorem Fm_   (ho:UnR X (unaryOp op) r)(ha:PE X a ta):PE X (.UnaryOp op a pos) (tUn r ta):=by
 intro pins s σ H Q I h
 exact UnaryOp_ (thn (ha pins s σ H _ I h) fun v s1 ⟨x,H1,I1,r1,q1⟩=>ho pins s1 σ H1 x v Q I1 r1 q1)
theorem opI {f:Value->Value->Sem Value}{C:Int->Int->Prop}{g:Int->Int->Int}
  (rule:∀(i j:Int) (t u:Tok) (s:Shared) (Q:Value->Shared->Prop) (E:Value->Shared->Prop),C i j->Q (.int (g i j) s.toks) {s with toks:=s.toks+1}->wpAny (model X.prog X.w) X.A (f (.int i t) (.int j u)) Q E s):
  OpR X f (rI C fun i j=>.int (g i j)):=by
 intro pins s σ H x y v u Q I rx ry h
 obtain⟨i,j,rfl,rfl,hc,q⟩:=h
 obtain⟨t,rfl⟩:=rx
 obtain⟨t',rfl⟩:=ry
 exact rule i j t t' s _ _ hc ⟨.int (g i j),H,I.tok _,⟨_,rfl⟩,q⟩
theorem opI0 {f:Value->Value->Sem Value}{g:Int->Int->Int}
  (rule:∀(i j:Int) (t u:Tok) (s:Shared) (Q:Value->Shared->Prop) (E:Value->Shared->Prop),Q (.int (g i j) s.toks) {s with toks:=s.toks+1}->wpAny (model X.prog X.w) X.A (f (.int i t) (.int j u)) Q E s):
  OpR X f (rI0 fun i j=>.int (g i j)):=by
 intro pins s σ H x y v u Q I rx ry h
 obtain⟨i,j,rfl,rfl,q⟩:=h
 obtain⟨t,rfl⟩:=rx
 obtain⟨t',rfl⟩:=ry
 exact rule i j t t' s _ _ ⟨.int (g i j),H,I.tok _,⟨_,rfl⟩,q⟩
theorem opB0 {f:Value->Value->Sem Value}{g:Int->Int->Bool}
  (rule:∀(i j:Int) (t u:Tok) (s:Shared) (Q:Value->Shared->Prop) (E:Value->Shared->Prop),Q (.bool (g i j)) s->wpAny (model X.prog X.w) X.A (f (.int i t) (.int j u)) Q E s):
  OpR X f (rI0 fun i j=>.bl (g i j)):=by
 intro pins s σ H x y v u Q I rx ry h
 obtain⟨i,j,rfl,rfl,q⟩:=h
 obtain⟨t,rfl⟩:=rx
 obtain⟨t',rfl⟩:=ry
 exact rule i j t t' s _ _ ⟨.bl (g i j),H,I,rfl,q⟩
noncomputable def CDiv (i j:Int):Prop:=0<j/\j<1073741824
noncomputable def CMul (i j:Int):Prop:=(-(2 ^ 64)<i/\i<2 ^ 64)\/(-(2 ^ 64)<j/\j<2 ^ 64)
theorem CMul.ok  (h:CMul i j):IntMulOk i j:=by
 rcases h with ⟨h1,h2⟩|⟨h1,h2⟩
 ·exact .of_left (intBits_le_64 h1 h2)
 ·exact .of_right (intBits_le_64 h1 h2)
theorem Hb:OpR X (binaryOp .Add) (rI0 fun i j=>.int (i+j)):=opI0 fun _ _ _ _ _ _ _ q=>add_int q
theorem AL_:OpR X (binaryOp .Sub) (rI0 fun i j=>.int (i-j)):=opI0 fun _ _ _ _ _ _ _ q=>sub_int q
theorem OA:OpR X (binaryOp .Mult) (rI CMul fun i j=>.int (i*j)):=opI fun _ _ _ _ _ _ _ hc q=>mul_int q hc.ok
theorem OK:OpR X (binaryOp .FloorDiv) (rI CDiv fun i j=>.int (i / j)):=opI fun i j _ _ _ _ _ hc q=>by
 have h1:(0:Int)<j:=hc.1
 have h2:j<1073741824:=hc.2
 exact floordiv_int s!"" (by rw[Int.fdiv_eq_ediv_of_nonneg i s!""];exact q) (.inl (PyProof.noPylong_small s!""))
theorem IT:OpR X (binaryOp .Mod) (rI (fun _ j=>0<j) fun i j=>.int (i%j)):=opI fun i j _ _ _ _ _ hc q=>by
 have h1:(0:Int)<j:=hc
 exact mod_int' s!"" (by rw[Int.fmod_eq_emod_of_nonneg i s!""];exact q)
theorem unI {f:Value->Sem Value}{g:Int->Int}
  (rule:∀(i:Int) (t:Tok) (s:Shared) (Q:Value->Shared->Prop) (E:Value->Shared->Prop),Q (.int (g i) s.toks) {s with toks:=s.toks+1}->wpAny (model X.prog X.w) X.A (f (.int i t)) Q E s):
  UnR X f (rU fun i=>.int (g i)):=by
 intro pins s σ H x v Q I rx h
 obtain⟨i,rfl,q⟩:=h
 obtain⟨t,rfl⟩:=rx
 exact rule i t s _ _ ⟨.int (g i),H,I.tok _,⟨_,rfl⟩,q⟩
theorem XC:UnR X (unaryOp .USub) (rU fun i=>.int (-i)):=unI fun _ _ _ _ _ q=>neg_int q
end
noncomputable def scal:V->V->Bool
 |.non,.non=>true | .non,.int _=>true | .int _,.non=>true | .non,.bl _=>true | .bl _,.non=>true | .non,.str _=>true | .str _,.non=>true
 |.int _,.int _=>true | .bl _,.bl _=>true | .str _,.str _=>true | .byt _,.byt _=>true
 |.int _,.str _=>true | .str _,.int _=>true | .bl _,.str _=>true | .str _,.bl _=>true
 |_,_=>false
noncomputable def rEq:R2:=fun x y H Q=>scal x y=true/\Q (.bl (decide (x=y))) H
noncomputable def rNe:R2:=fun x y H Q=>scal x y=true/\Q (.bl (!decide (x=y))) H
theorem Gv_  : decide (V.int i=V.int j)=(i==j):=by
 rw[qh_]
 simp
theorem JC_  : decide (V.bl i=V.bl j)=(i==j):=by
 rw[qh_]
 simp
theorem Gw_  : decide (V.str i=V.str j)=(i==j):=by
 rw[qh_]
 simp
theorem Gx_  : decide (V.byt i=V.byt j)=(i.toList==j.toList):=by
 rw[qh_]
 cases i
 cases j
 simp
section
variable {X:Cx} {a b c:Expr} {ta tb tc:TE} {pos:Pos}
theorem CT       (I:Inv X pins σ H s)(q:Q (.bl k) H)(e:k=k'):EP X pins σ Q (.bool k') s:=by
 subst e
 exact⟨.bl k,H,I,rfl,q⟩
theorem KQ:OpR X (compareOp .Eq) rEq:=by
 intro pins s σ H x y v u Q I rx ry h
 obtain⟨hs,q⟩:=h
 cases x with
 |non=>
  cases rx
  cases y with
  |non=>cases ry;exact PySem.EqNone.eq_none_none (CT I q (by simp))
  |bl j=>cases ry;exact PySem.EqNone.eq_none_bool (CT I q (by simp))
  |int j=>obtain⟨t',rfl⟩:=ry;exact PySem.EqNone.eq_none_int (CT I q (by simp))
  |str j=>obtain⟨t',rfl⟩:=ry;exact PySem.EqNone.eq_none_str (CT I q (by simp))
  |_=>exact absurd (show false=true from hs) jm_
 |bl i=>
  cases rx
  cases y with
  |non=>cases ry;exact PySem.EqNone.eq_bool_none (CT I q (by simp))
  |bl j=>cases ry;exact eq_bool (CT I q JC_)
  |str j=>obtain⟨t',rfl⟩:=ry;exact PySem.EqMixed.eq_bool_str (CT I q (by simp))
  |_=>exact absurd (show false=true from hs) jm_
 |int i=>
  obtain⟨t,rfl⟩:=rx
  cases y with
  |non=>cases ry;exact PySem.EqNone.eq_int_none (CT I q (by simp))
  |int j=>obtain⟨t',rfl⟩:=ry;exact eq_int (CT I q Gv_)
  |str j=>obtain⟨t',rfl⟩:=ry;exact PySem.EqMixed.eq_int_str (CT I q (by simp))
  |_=>exact absurd (show false=true from hs) jm_
 |str i=>
  obtain⟨t,rfl⟩:=rx
  cases y with
  |non=>cases ry;exact PySem.EqNone.eq_str_none (CT I q (by simp))
  |bl j=>cases ry;exact PySem.EqMixed.eq_str_bool (CT I q (by simp))
  |int j=>obtain⟨t',rfl⟩:=ry;exact PySem.EqMixed.eq_str_int (CT I q (by simp))
  |str j=>obtain⟨t',rfl⟩:=ry;exact eq_str (CT I q Gw_)
  |_=>exact absurd (show false=true from hs) jm_
 |byt i=>
  obtain⟨t,rfl⟩:=rx
  cases y with
  |byt j=>obtain⟨t',rfl⟩:=ry;exact PySem.W.eq_bytes (CT I q Gx_)
  |_=>exact absurd (show false=true from hs) jm_
 |_=>cases y<;>exact absurd (show false=true from hs) jm_
theorem Ra:OpR X (compareOp .NotEq) rNe:=by
 intro pins s σ H x y v u Q I rx ry h
 obtain⟨hs,q⟩:=h
 cases x with
 |non=>
  cases rx
  cases y with
  |non=>cases ry;exact PySem.EqNone.ne_none_none (CT I q (by simp))
  |bl j=>cases ry;exact PySem.EqNone.ne_none_bool (CT I q (by simp))
  |int j=>obtain⟨t',rfl⟩:=ry;exact PySem.EqNone.ne_none_int (CT I q (by simp))
  |str j=>obtain⟨t',rfl⟩:=ry;exact PySem.EqNone.ne_none_str (CT I q (by simp))
  |_=>exact absurd (show false=true from hs) jm_
 |bl i=>
  cases rx
  cases y with
  |non=>cases ry;exact PySem.EqNone.ne_bool_none (CT I q (by simp))
  |bl j=>cases ry;exact ne_bool (CT I q (qU_ not JC_))
  |str j=>obtain⟨t',rfl⟩:=ry;exact PySem.EqMixed.ne_bool_str (CT I q (by simp))
  |_=>exact absurd (show false=true from hs) jm_
 |int i=>
  obtain⟨t,rfl⟩:=rx
  cases y with
  |non=>cases ry;exact PySem.EqNone.ne_int_none (CT I q (by simp))
  |int j=>obtain⟨t',rfl⟩:=ry;exact ne_int (CT I q (qU_ not Gv_))
  |str j=>obtain⟨t',rfl⟩:=ry;exact PySem.EqMixed.ne_int_str (CT I q (by simp))
  |_=>exact absurd (show false=true from hs) jm_
 |str i=>
  obtain⟨t,rfl⟩:=rx
  cases y with
  |non=>cases ry;exact PySem.EqNone.ne_str_none (CT I q (by simp))
  |bl j=>cases ry;exact PySem.EqMixed.ne_str_bool (CT I q (by simp))
  |int j=>obtain⟨t',rfl⟩:=ry;exact PySem.EqMixed.ne_str_int (CT I q (by simp))
  |str j=>obtain⟨t',rfl⟩:=ry;exact ne_str (CT I q (qU_ not Gw_))
  |_=>exact absurd (show false=true from hs) jm_
 |byt i=>
  obtain⟨t,rfl⟩:=rx
  cases y with
  |byt j=>obtain⟨t',rfl⟩:=ry;exact PySem.W.ne_bytes (CT I q (qU_ not Gx_))
  |_=>exact absurd (show false=true from hs) jm_
 |_=>cases y<;>exact absurd (show false=true from hs) jm_
theorem Gy_:OpR X (compareOp .Lt) (rI0 fun i j=>.bl (decide (i<j))):=opB0 fun _ _ _ _ _ _ _ q=>lt_int q
theorem Iu_:OpR X (compareOp .LtE) (rI0 fun i j=>.bl (decide (i<=j))):=opB0 fun _ _ _ _ _ _ _ q=>le_int q
theorem Gz_:OpR X (compareOp .Gt) (rI0 fun i j=>.bl (decide (j<i))):=opB0 fun _ _ _ _ _ _ _ q=>gt_int q
theorem Nn_:OpR X (compareOp .GtE) (rI0 fun i j=>.bl (decide (j<=i))):=opB0 fun _ _ _ _ _ _ _ q=>ge_int q
theorem XD:OpR X (compareOp .Is) (fun x y H Q=>y=.non/\Q (.bl (decide (x=.non))) H):=by
 intro pins s σ H x y v u Q I rx ry h
 obtain⟨rfl,q⟩:=h
 cases ry
 refine is_none_gen (CT I q ?_)
 cases x<;>first
  | (cases rx;rfl)
  | (obtain⟨t,rfl⟩:=rx;rfl)
theorem GA_:OpR X (compareOp .IsNot) (fun x y H Q=>y=.non/\Q (.bl (!decide (x=.non))) H):=by
 intro pins s σ H x y v u Q I rx ry h
 obtain⟨rfl,q⟩:=h
 cases ry
 refine isnot_none_gen (CT I q ?_)
 cases x<;>first
  | (cases rx;rfl)
  | (obtain⟨t,rfl⟩:=rx;rfl)
theorem AZ (b:Expr)  (h:op ≠ .In:=by decide)(h2:op ≠ .NotIn:=by decide):behindInMarks op b=false:=by
 have e1:(op==CmpOp.In)=false:=by cases op<;>first|rfl|exact absurd rfl h
 have e2:(op==CmpOp.NotIn)=false:=by cases op<;>first|rfl|exact absurd rfl h2
 cases b<;>simp[behindInMarks,e1,e2]
theorem JX   (ho:OpR X (compareOp op) r)(ha:PE X a ta)(hb:PE X b tb)(hm:behindInMarks op b=false):PE X (.Compare a [op] [b] pos) (tOp r ta tb):=by
 intro pins s σ H Q I h
 exact wpAny_Compare1 (binT ha hb I h fun v u s2 x y H2 I2 rx ry q=>ho pins s2 σ H2 x y v u Q I2 rx ry q) hm
noncomputable def Iv_ (t:TE):TT:=fun σ H Q=>t σ H fun x H'=>∃k,x=.bl k/\Q k H'
theorem AE   (ho:OpR X (compareOp op) r)(ha:PE X a ta)(hb:PE X b tb)(hm:behindInMarks op b=false):PT X (.Compare a [op] [b] pos) (Iv_ (tOp r ta tb)):=by
 intro pins s σ H Q I h
 refine wpAny_isTrue_Compare1 (thn (ha pins s σ H _ I h) fun v s1 ⟨x,H1,I1,r1,q1⟩=>thn (hb pins s1 σ H1 _ I1 q1) fun u s2 ⟨y,H2,I2,r2,q2⟩ =>
  thn (ho pins s2 σ H2 x y v u _ I2 r1 r2 q2) fun c s3 ⟨z,H3,I3,r3,k,e,q3⟩=>?_) hm
 subst e
 cases r3
 exact qP_ ⟨H3,I3,q3⟩
noncomputable def JD_ (r r':R2)(ta tb tc:TE):TE:=fun σ H Q=>ta σ H fun x H1=>tb σ H1 fun y H2=>r x y H2 fun z H3=>∃k,z=.bl k /\
 (if k=true then tc σ H3 fun w' H4=>r' y w' H4 Q else Q (.bl false) H3)
theorem Et_   (ho:OpR X (compareOp op) r)(ho':OpR X (compareOp op') r')(ha:PE X a ta)(hb:PE X b tb)(hc:PE X c tc)
  (hm:lastMarks [op,op'] [b,c]=false:=by with_unfolding_all rfl):PE X (.Compare a [op,op'] [b,c] pos) (JD_ r r' ta tb tc):=by
 intro pins s σ H Q I h
 refine Compare_chain (thn (ha pins s σ H _ I h) fun v s1 ⟨x,H1,I1,r1,q1⟩=>chain_link (thn (hb pins s1 σ H1 _ I1 q1) fun u s2 ⟨y,H2,I2,r2,q2⟩ =>
  thn (ho pins s2 σ H2 x y v u _ I2 r1 r2 q2) fun d s3 ⟨z,H3,I3,r3,k,e,q3⟩=>?_)) hm
 subst e
 cases r3
 refine qP_ ?_
 cases k with
 |false=>exact ite_ff ⟨.bl false,H3,I3,rfl,q3⟩
 |true=>exact ite_tt (chain_last (thn (hc pins s3 σ H3 _ I3 q3) fun w' s4 ⟨z',H4,I4,r4,q4⟩=>ho' pins s4 σ H4 y z' u w' Q I4 r2 r4 q4))
theorem Eu_:(sizeLine:Nat)<2 ^ 63:=by rw[sizeLine_eq];decide
theorem vals1   (r:Vals [x] us):∃u,us=[u]/\RelV x u:=by
 cases r with
 |cons r1 r2=>cases r2;exact⟨_,rfl,r1⟩
theorem vals2   (r:Vals [x,y] us):∃u w',us=[u,w']/\RelV x u/\RelV y w':=by
 cases r with
 |cons r1 r2=>
  cases r2 with
  |cons r3 r4=>cases r4;exact⟨_,_,rfl,r1,r3⟩
theorem AM_ (hc:X.calm=true):Oi X (.builtin "max") (fun xs H Q=>∃i j,xs=[.int i,.int j]/\Q (.int (if j > i then j else i)) H):=by
 intro pins s σ H xs us Q I r h
 obtain⟨i,j,rfl,q⟩:=h
 obtain⟨u,w',rfl,⟨t,rfl⟩,⟨t',rfl⟩⟩:=vals2 r
 refine max_two_ints (I.ok.hd hc) fun h' tk k=>⟨_,H,I.kept k,?_,q⟩
 by_cases hj:j > i
 ·rw[if_pos hj,if_pos hj];exact⟨_,rfl⟩
 ·rw[if_neg hj,if_neg hj];exact⟨_,rfl⟩
end
end L2
namespace L2
open PySem PySem.Spec PyProof.Rows
structure ObjM (h:Heap)(x dx C:Addr)(mA:Str->α5):Prop where
 obj:h.get? x=some (PySem.W.instObj C dx)
 ns:h.Ns1 dx mA
 ne:dx≠x
theorem GB_ {h:Heap}{dx:Addr}{mA:Str->α5}(n:h.Ns1 dx mA):∃od,h.get? dx=some od/\∀name,PySem.W.lookIn name od=some (mA name):=by
 obtain⟨o,es,ep,ho,hd,hk,_,hm⟩:=n
 refine⟨o,ho,fun name=>?_⟩
 have e:=hm name
 unfold nsFind findBy at e
 rw[<-Array.find?_toList]at e
 unfold PySem.W.lookIn
 rw[hd]
 dsimp only
 split
 ·rename_i y q
  rw[q]at e
  exact qU_ some e
 ·rename_i q
  rw[q]at e
  have a:es.toList.any (·.refKey)=false:=by
   rw[List.any_eq_false]
   intro y hy
   obtain⟨z,t,hkey⟩:=hk y (Array.mem_toList_iff.mp hy)
   simp[DictEntry.refKey,hkey]
  have a':¬ es.toList.any (·.refKey)=true:=by rw[a];exact jm_
  rw[if_neg a']
  exact qU_ some e
theorem ObjM.look    (I:ObjM h x dx C mA):∃od,PySem.W.InstAt h x (PySem.W.instObj C dx) C (some od)/\∀name,PySem.W.lookIn name od=some (mA name):=
 let ⟨od,ho,hl⟩:=GB_ I.ns
 ⟨od,⟨I.obj,rfl,rfl,ho⟩,hl⟩
section
variable {prog:Program} {w:World} {A:Around} {E:Value->Shared->Prop} {s:Shared} {K:α3} {x dx C f:Addr} {mA:Str->α5} {name:Str} {v:Value}
theorem KP_   (X:K.In s.heap)(I:ObjM s.heap x dx C mA)(hg:PySem.W.plainGet K C name=true)(hh:PySem.W.hasDictIn K C=true)
  (ha:PySem.W.findIn K (.ref C) name=some none) (hv:mA name=some v) (hv':PySem.W.handedIn v=true) (h:Q v {s with toks:=s.toks+1}):
  wpAny (model prog w) A (getAttr (.ref x) name expr) Q E s:=by
 obtain⟨od,J,hl⟩:=I.look
 exact PySem.W.get_value X J (zd_ hg).1 (PySem.W.findObj_own hh ha rfl (by rw[hl,hv])) hv' h
theorem Iw_   (X:K.In s.heap)(I:ObjM s.heap x dx C mA)(hg:PySem.W.plainGet K C name=true)
  (hf:PySem.W.findIn K (.ref C) name=some (some (.ref f))) (ht:PySem.W.isFn K (.ref f)=true) (hv:mA name=none) (h:Q (.ref f,[.ref x]) s):
  wpAny (model prog w) A (getMethod (.ref x) name pl) Q E s:=by
 obtain⟨od,J,hl⟩:=I.look
 exact PySem.W.method_fn X J (zd_ hg).1 (zd_ hg).2 hf (za_.mp ht) (by show (PySem.W.lookIn name od).map (·.isSome)=some false;rw[hl,hv];rfl) h
theorem KQ_   (X:K.In s.heap)(I:ObjM s.heap x dx C mA)
  (hs:PySem.W.findIn K (.ref C) "__setattr__"=some (some (.builtin "object.__setattr__"))) (hp:PySem.W.plainOver K C=true) (ht:PySem.W.takerIn K C name=some none) (hh:PySem.W.hasDictIn K C=true)
  (hw:PySem.Within mA ns) (hsz:ns.length<=sizeLine)
  (h:∀h',ObjM h' x dx C (fun y=>if y=name then some v else mA y)->Heap.SameBut dx s.heap h'->Q () {s with heap:=h',toks:=s.toks+2}):
  wpAny (model prog w) A (setAttr (.ref x) name v) Q E s:=by
 obtain⟨od,J,hl⟩:=I.look
 refine PySem.W.set_plain X J hs (PySem.W.osa_open (s:={s with toks:=s.toks+1}) (r:=none) X J hp ht fun b=>?_)
 obtain⟨cd,hc,hd'⟩:=PySem.W.any_some hh
 have hx:s.heap.get? x=some ⟨.ref C,some dx,.plain,#[]⟩:=I.obj
 refine ja_ (je_ (ja_ (ja_ (wpAny_loadPart hx (ja_ (PySem.W.Looks.here (s:={s with toks:=s.toks+1}) (PySem.W.looks_clsIn X hc) ?_))))))
 rw[hd']
 refine je_ (a:=some dx) (ja_ (je_ (ja_ ?_)))
 refine wpAny_nsSet1 (s:={s with toks:=s.toks+1}) I.ns fun h' hn2 hs2=>?_
 obtain⟨oD,esD,epD,hoD,hdD,hcD⟩:=hn2.count (PySem.Within.cons name v hw)
 refine ja_ (wpAny_lookBehind hoD (by rw[hdD];exact pastItsLine_dict (qi_ hcD (by rw[jL_];lia))) ?_)
 exact je_ (h _ ⟨(hs2.2 _ (qj_ I.ne)).trans I.obj,hn2,I.ne⟩ hs2)
theorem Ix_   {kw:List (Str×Value)}(X:K.In s.heap)(hm:PySem.W.makesIn K C=true)
  (hi:PySem.W.findIn K (.ref C) "__init__"=some (some (.ref f))) (hf:PySem.W.typeIn K (.ref f)=some (.type "function"))
  (h:codeAny (model prog w) (A.under (.builtin "type.__call__" ⟨.ref C::vs,kw⟩)) (.call (.ref f) ⟨.ref (s.heap.objs.size+1)::vs,kw⟩) (PySem.W.InitBack (s.heap.objs.size+1) R)
   {s with heap:=(s.heap.push PySem.W.emptyDict).push (PySem.W.instObj C s.heap.objs.size)}):
  codeAny (model prog w) A (.call (.ref C) ⟨vs,kw⟩) R s:=by
 obtain⟨hh,g,d,t,os⟩:=s
 exact PySem.W.make_core (PySem.W.makes_of X hm) (PySem.W.looks_findIn X hi) (fun self=>PySem.W.bind_fn X self hf) (.inl rfl) h
end
noncomputable def putF (f:Str)(v:V):List (Str×V)->List (Str×V)
 |[]=>[(f,v)]
 | (g,x)::r=>if g=f then (g,v)::r else (g,x)::putF f v r
theorem Gf (f g:Str)(v:V):∀fs:List (Str×V),(putF f v fs).lookup g=if g=f then some v else fs.lookup g
 |[]=>by
  show List.lookup g [(f,v)]=_
  by_cases h:g=f
  ·have hb:(g==f)=true:=za_.mpr h
   simp only[List.lookup,hb,if_pos h]
  ·have hb:(g==f)=false:=xh_.mpr h
   simp only[List.lookup,hb,if_neg h]
 | (k,x)::r=>by
  have ih:=Gf f g v r
  rw[show putF f v ((k,x)::r)=(if k=f then (k,v)::r else (k,x)::putF f v r) from rfl]
  by_cases hk:k=f
  ·rw[if_pos hk]
   by_cases h:g=k
   ·have hb:(g==k)=true:=za_.mpr h
    simp only[List.lookup,hb,if_pos (h.trans hk)]
   ·have hb:(g==k)=false:=xh_.mpr h
    simp only[List.lookup,hb,if_neg (fun e:g=f=>h (e.trans hk.symm))]
  ·rw[if_neg hk]
   by_cases h:g=k
   ·have hb:(g==k)=true:=za_.mpr h
    simp only[List.lookup,hb,if_neg (fun e:g=f=>hk (h.symm.trans e))]
   ·have hb:(g==k)=false:=xh_.mpr h
    simp only[List.lookup,hb]
    exact ih
theorem U0 (f:Str)(v:V):∀fs:List (Str×V),f∈(putF f v fs).map (·.1)/\∀g,g∈fs.map (·.1)->g∈(putF f v fs).map (·.1)
 |[]=>⟨by simp[putF],fun g h=>by simp at h⟩
 | (k,x)::r=>by
  obtain⟨i1,i2⟩:=U0 f v r
  rw[show putF f v ((k,x)::r)=(if k=f then (k,v)::r else (k,x)::putF f v r) from rfl]
  by_cases hk:k=f
  ·rw[if_pos hk]
   subst hk
   exact⟨by simp,fun g h=>by simpa using h⟩
  ·rw[if_neg hk]
   refine⟨?_,fun g h=>?_⟩
   ·rw[jQ_]
    exact ju_ _ i1
   ·rw[jQ_]at h ⊢
    rcases jA_.mp h with e|e
    ·exact jA_.mpr (.inl e)
    ·exact ju_ _ (i2 g e)
theorem U1 (f:Str)(v:V):∀fs:List (Str×V),(putF f v fs).length<=fs.length+1
 |[]=>by simp[putF]
 | (k,x)::r=>by
  have ih:=U1 f v r
  rw[show putF f v ((k,x)::r)=(if k=f then (k,v)::r else (k,x)::putF f v r) from rfl]
  by_cases hk:k=f
  ·rw[if_pos hk,jL_,jL_];lia
  ·rw[if_neg hk,jL_,jL_];lia
theorem RelO.some_of   (r:RelO (some v) o):∃u,o=some u/\RelV v u:=by
 cases o with
 |none=>exact (show False from r).elim
 |some u=>exact⟨u,rfl,r⟩
theorem RelO.none_of  (r:RelO none o):o=none:=by
 cases o with
 |none=>rfl
 |some u=>exact (show False from r).elim
theorem GC_   (r:RelV v u):PySem.W.handedIn u=true:=by
 cases v with
 |non=>cases (show u=Value.none from r);rfl
 |bl b=>cases (show u=Value.bool b from r);rfl
 |int i=>obtain⟨t,e⟩:=(show ∃t,u=Value.int i t from r);cases e;rfl
 |str x=>obtain⟨t,e⟩:=(show ∃t,u=Value.str x t from r);cases e;rfl
 |byt b=>obtain⟨t,e⟩:=(show ∃t,u=Value.bytes b t from r);cases e;rfl
 |flt b=>obtain⟨t,e⟩:=(show ∃t,u=Value.float b t from r);cases e;rfl
 |ref a=>cases (show u=Value.ref a from r);rfl
 |ty n=>cases (show u=Value.type n from r);rfl
section
variable {P:Program} {w:World} {H H':Hp} {h h':Heap} {a C dx:Addr} {fs fs':List (Str×V)}
theorem X3 (hok:HOk P w H h)(e:H a=some (.ins C dx fs)):∃mA,ObjM h a dx C mA/\(∀f,RelO (fs.lookup f) (mA f))/\PySem.Within mA (fs.map (·.1))/\fs.length<=1000/\H dx=some (.own a):=by
 obtain⟨d,z,ne,ob,mA,n,r,q⟩:=(show C3 P w H h a (.ins C dx fs) from hok a _ e)
 exact⟨mA,⟨ob,n,ne⟩,r,q,z,d⟩
end
structure Cls (K:α3)(C:Addr):Prop where
 pg:PySem.W.plainGet K C Str.empty=true
 hd:PySem.W.hasDictIn K C=true
 po:PySem.W.plainOver K C=true
 sa:PySem.W.findIn K (.ref C) "__setattr__"=some (some (.builtin "object.__setattr__"))
theorem Cls.get {K:α3}  (c:Cls K C)(f:Str):PySem.W.plainGet K C f=true:=c.pg
noncomputable def FN (K:α3)(C:Addr)(f:Str):Prop:=PySem.W.findIn K (.ref C) f=some none
theorem FN.taker {K:α3}   (n:FN K C f):PySem.W.takerIn K C f=some none:=by
 unfold PySem.W.takerIn
 rw[show PySem.W.findIn K (.ref C) f=some none from n]
 rfl
structure Meth (K:α3)(C:Addr)(m:Str)(f:Addr):Prop where
 at_:PySem.W.findIn K (.ref C) m=some (some (.ref f))
 fn:PySem.W.isFn K (.ref f)=true
 kp:keepIn K (.ref f)=true
section
variable {X:Cx} {pins:α7} {σ:St} {H:Hp} {s:Shared} {a C dx:Addr} {fs:List (Str×V)} {f:Str} {v:V} {A:Around} {E:Value->Shared->Prop}
theorem Fn_   (I:Inv X pins σ H s)(e:H a=some (.ins C dx fs))(c:Cls X.K C)(n:FN X.K C f)(l:fs.lookup f=some v)
  (h:∀u s',Inv X pins σ H s'->RelV v u->Q u s'):wpAny (model X.prog X.w) A (getAttr (.ref a) f b) Q E s:=by
 obtain⟨mA,O,r,_,_,_⟩:=X3 I.hok e
 obtain⟨u,hu,ru⟩:=RelO.some_of (v:=v) (o:=mA f) (by rw[<-l];exact r f)
 exact KP_ I.kIn O (c.get f) c.hd n hu (GC_ ru) (h u _ (I.tok _) ru)
theorem XE     (I:Inv X pins σ H s)(e:H a=some (.ins C dx fs))(c:Cls X.K C)(k:Meth X.K C m g)(l:fs.lookup m=none)
  (h:Q (.ref g,[.ref a]) s):wpAny (model X.prog X.w) A (getMethod (.ref a) m pl) Q E s:=by
 obtain⟨mA,O,r,_,_,_⟩:=X3 I.hok e
 have hn:mA m=none:=RelO.none_of (by rw[<-l];exact r m)
 exact Iw_ I.kIn O (c.get m) k.at_ k.fn hn h
theorem Fo_    (I:Inv X pins σ H s)(e:H a=some (.ins C dx fs))(c:Cls X.K C)(n:FN X.K C f)(hl:fs.length<1000)(ry:RelV y u)
  (h:∀s',Inv X pins σ (upd H a (.ins C dx (putF f y fs))) s'->Q () s'):wpAny (model X.prog X.w) A (setAttr (.ref a) f u) Q E s:=by
 obtain⟨mA,O,r,wi,_,ho⟩:=X3 I.hok e
 have hz:(fs.map (·.1)).length<=sizeLine:=by rw[jb_,sizeLine_eq];lia
 refine KQ_ I.kIn O c.sa c.po n.taker c.hd wi hz fun h' O' sb=>h _ ?_
 have hd:∃o,h'.get? dx=some o:=let ⟨o,_,_,e',_⟩:=O'.ns;⟨o,e'⟩
 refine I.write (x:=a) (e:=dx) (by rw[e];exact True.intro) (.inr ho) (fun b q hb z=>(sb.2 b hb).trans z) hd ?_
 refine⟨by rw[Ag O.ne];exact ho,?_,O.ne,O'.obj,_,O'.ns,fun g=>?_,fun g hg=>?_⟩
 ·have:=U1 f y fs;lia
 ·show RelO ((putF f y fs).lookup g) (if g=f then some u else mA g)
  rw[Gf]
  by_cases q:g=f
  ·rw[if_pos q,if_pos q];exact ry
  ·rw[if_neg q,if_neg q];exact r g
 ·by_cases q:g=f
  ·rw[q];exact (U0 f y fs).1
  ·refine (U0 f y fs).2 g (wi g fun z=>hg ?_)
   show (if g=f then some u else mA g)=none
   rw[if_neg q];exact z
theorem Inv.made (I:Inv X pins σ H s):Inv X pins σ (upd (upd H s.heap.objs.size (.own (s.heap.objs.size+1))) (s.heap.objs.size+1) (.ins C s.heap.objs.size []))
  {s with heap:=(s.heap.push PySem.W.emptyDict).push (PySem.W.instObj C s.heap.objs.size)}:=by
 have e1:(s.heap.push PySem.W.emptyDict).get? s.heap.objs.size=some PySem.W.emptyDict:=jo_ s.heap rfl
 have e2:((s.heap.push PySem.W.emptyDict).push (PySem.W.instObj C s.heap.objs.size)).get? (s.heap.objs.size+1)=some (PySem.W.instObj C s.heap.objs.size):=by
  have:=jo_ (s.heap.push PySem.W.emptyDict) (o:=PySem.W.instObj C s.heap.objs.size) rfl
  rwa [qu_]at this
 have e3:(s.heap.push PySem.W.emptyDict).Ns s.heap.objs.size (fun _=>none):=⟨PySem.W.emptyDict,#[],_,e1,rfl,(fun e he=>absurd he (by simp)),fun _=>rfl⟩
 have I1:=I.laid (a:=s.heap.objs.size) (o:=.own (s.heap.objs.size+1)) (h':=s.heap.push PySem.W.emptyDict) (t':=s.toks) (fun b u q=>jd_ _ q) (jl_ _) ⟨_,e1⟩
 refine I1.laid (a:=s.heap.objs.size+1) (o:=.ins C s.heap.objs.size []) (t':=s.toks) (fun b u q=>jd_ _ q) (Nat.le_of_eq (qu_ _ _)) ?_
 have ne:s.heap.objs.size≠s.heap.objs.size+1:=jF_ (Nat.lt_succ_self _)
 refine⟨by rw[Ag ne,Ab],qp_ _,ne,e2,fun _=>none,(Heap.Ns1.of_empty e3).at fun o q=>jd_ _ q,fun _=>True.intro,fun y hy=>absurd rfl hy⟩
theorem KR_         (hb:attributeBase e f env (eval e env)=eval e env)
  (h:wpAny (model prog w) A (eval e env) (fun o s₁=>wpAny (model prog w) A (getAttr o f true) Q E s₁) E s):wpAny (model prog w) A (eval (.Attribute e f pos) env) Q E s:=
 Attribute_any_ h (by rw[arm_eval_Attribute,hb])
end
noncomputable def tFld (K:α3)(ta:TE)(f:Str):TE:=fun σ H Q=>ta σ H fun x H1=>∃a C dx fs v,x=.ref a/\H1 a=some (.ins C dx fs)/\Cls K C/\FN K C f/\fs.lookup f=some v/\Q v H1
noncomputable def sFld (K:α3)(ta tv:TE)(f:Str):TS:=fun D σ H=>tv σ H fun y H1=>ta σ H1 fun x H2=>∃a C dx fs,x=.ref a/\H2 a=some (.ins C dx fs)/\Cls K C/\FN K C f/\fs.length<1000 /\
 D.nx σ (upd H2 a (.ins C dx (putF f y fs)))
section
variable {X:Cx} {o e value:Expr} {f:Str} {pos pos' tpos:Pos} {ta tv:TE}
theorem AX (he:PE X e ta)(hb:attributeBase e f X.env (eval e X.env)=eval e X.env):PE X (.Attribute e f pos) (tFld X.K ta f):=by
 intro pins s σ H Q I h
 refine KR_ hb (thn (he pins s σ H _ I h) fun u s1 ⟨x,H1,I1,rx,a,C,dx,fs,v,ex,ea,c,n,l,q⟩=>?_)
 subst ex
 obtain rfl:u=Value.ref a:=rx
 exact Fn_ I1 ea c n l fun u' s2 I2 ru=>⟨v,H1,I2,ru,q⟩
theorem Gm (ha:PE X o ta)(hv:PE X value tv)(hs:swapsWith value (some (.Attribute o f pos')) pos.line X.env=pure false):PS X (.Assign [.Attribute o f pos'] value pos) (sFld X.K ta tv f):=by
 intro pins s σ H D I h
 refine plainObj_wpAny_Assign_Attribute (thn (hv pins s σ H _ I h) fun u s1 ⟨y,H1,I1,ry,q⟩=>thn (ha pins s1 σ H1 _ I1 q) fun ov s2 ⟨x,H2,I2,rx,a,C,dx,fs,ex,ea,c,n,l,q2⟩=>?_) hs
 subst ex
 obtain rfl:ov=Value.ref a:=rx
 exact Fo_ I2 ea c n l ry fun s3 I3=>⟨σ,_,I3,q2⟩
end
section
variable {X:Cx} {pins:α7} {σ:St} {H:Hp} {s:Shared} {A:Around} {E:Value->Shared->Prop} {Q:Value->Shared->Prop} {c:Value} {b:Bool}
inductive TyOf (K:α3)(H:Hp):V->Value->Prop where
 | non:TyOf K H .non (.type "NoneType")
 | bl (x:Bool):TyOf K H (.bl x) (.type "bool")
 | int (i:Int):TyOf K H (.int i) (.type "int")
 | str (x:Str):TyOf K H (.str x) (.type "str")
 | flt (x:UInt64):TyOf K H (.flt x) (.type "float")
 | lst {a:Addr} {xs:List V} (e:H a=some (.lst xs)):TyOf K H (.ref a) (.type "list")
 | frz {a:Addr} {o:Obj} {xs:List V} (e:H a=some (.frz o (.lst xs))):TyOf K H (.ref a) (.type "list")
 | tup {a:Addr} {xs:List V} (e:H a=some (.tup xs)):TyOf K H (.ref a) (.type "tuple")
 | dK {a:Addr} {kvs:List (Key×V)} (e:H a=some (.dK kvs)):TyOf K H (.ref a) (.type "dict")
 | dT {a:Addr} {kvs:List (List Key×V)} (e:H a=some (.dT kvs)):TyOf K H (.ref a) (.type "dict")
 | ins {a C dx:Addr} {fs:List (Str×V)} (e:H a=some (.ins C dx fs)) (cl:Cls K C) (ha:PySem.W.findIn K (.ref C) "__class__"=some (some (.builtin "object.__class__")))
   (hn:PySem.W.specialIn K (.builtin "object.__class__") "__get__"=some (some (.builtin "getset_descriptor.__get__"))) (htk:PySem.W.takesIn K (.builtin "object.__class__")=some true)
   (hm:PySem.W.mroIn K C (.type "object")=some true):TyOf K H (.ref a) (.ref C)
theorem GD_   (I:Inv X pins σ H s)(rx:RelV x u)(ty:TyOf X.K H x t)(e:kitOne X.K t c=some b)(h:∀tk,Q (.bool b) {s with toks:=tk}):
  wpAny (model X.prog X.w) A (call (.builtin "isinstance") [u,c]) Q E s:=by
 cases ty with
 |non=>cases (show u=Value.none from rx);exact qa_ PySem.W.kitx_none I.kIn True.intro e (fun z=>nomatch z) h
 |bl y=>cases (show u=Value.bool y from rx);exact qa_ PySem.W.kitx_bool I.kIn True.intro e (fun z=>nomatch z) h
 |int i=>obtain⟨t,q⟩:=(show ∃t,u=Value.int i t from rx);cases q;exact qa_ PySem.W.kitx_int I.kIn True.intro e (fun z=>nomatch z) h
 |str y=>obtain⟨t,q⟩:=(show ∃t,u=Value.str y t from rx);cases q;exact qa_ PySem.W.kitx_str I.kIn True.intro e (fun z=>nomatch z) h
 |flt y=>obtain⟨t,q⟩:=(show ∃t,u=Value.float y t from rx);cases q;exact qa_ PySem.W.kitx_float I.kIn True.intro e (fun z=>nomatch z) h
 |@lst a xs ea=>
  cases (show u=Value.ref a from rx)
  obtain⟨_,_,n,_,h1⟩:=(show C3 X.prog X.w H s.heap a (.lst xs) from I.hok a _ ea)
  exact qa_ zl_ I.kIn ⟨_,h1,rfl⟩ e (fun z=>nomatch z) h
 |@frz a ob xs ea=>
  cases (show u=Value.ref a from rx)
  obtain⟨_,_,_,n,_,h1⟩:=(show C3 X.prog X.w H s.heap a (.frz ob (.lst xs)) from I.hok a _ ea)
  exact qa_ zl_ I.kIn ⟨_,h1,rfl⟩ e (fun z=>nomatch z) h
 |@tup a xs ea=>
  cases (show u=Value.ref a from rx)
  obtain⟨_,_,_,p⟩:=(show C3 X.prog X.w H s.heap a (.tup xs) from I.hok a _ ea)
  obtain⟨o,h1,h2,_⟩:=p
  exact qa_ PySem.W.kitx_tuple I.kIn ⟨o,h1,h2⟩ e (fun z=>nomatch z) h
 |@dK a kvs ea=>
  cases (show u=Value.ref a from rx)
  obtain⟨_,_,vs,_,p⟩:=(show C3 X.prog X.w H s.heap a (.dK kvs) from I.hok a _ ea)
  obtain⟨o,es,ep,h1,h2,_⟩:=p
  exact qa_ PySem.W.kitx_dict I.kIn ⟨o,h1,h2.1⟩ e (fun z=>nomatch z) h
 |@dT a kvs ea=>
  cases (show u=Value.ref a from rx)
  obtain⟨_,_,xs,_,o,es,ep,h1,h2,_⟩:=(show C3 X.prog X.w H s.heap a (.dT kvs) from I.hok a _ ea)
  exact qa_ PySem.W.kitx_dict I.kIn ⟨o,h1,h2.1⟩ e (fun z=>nomatch z) h
 |@ins a C dx fs ea cl ha hn htk hm=>
  cases (show u=Value.ref a from rx)
  obtain⟨mA,O,_⟩:=X3 I.hok ea
  obtain⟨od,J,_⟩:=O.look
  exact qa_ (PySem.W.kitx_own (cl.get _) cl.hd ha hn htk hm) I.kIn J e (fun z=>nomatch z) h
end
end L2
namespace L2
open PySem PySem.Spec PyProof.Rows
structure Room (k:Nat)(A:Around):Prop where
 hd:A.handled=none
 dp:A.depth+3*k+5<recursionLimit
 un:A.units+16*k+200<cLine
theorem Room.mono   (r:Room k A)(h:j<=k):Room j A:=⟨r.hd,by have:=r.dp;lia,by have:=r.un;lia⟩
theorem Room.deeper   (r:Room (k+1) A)(env:Env):Room k (A.deeper env):=
 ⟨r.hd,by have:=r.dp;show A.depth+1+3*k+5<_;lia,by have:=r.un;show A.units+3+16*k+200<_;lia⟩
theorem Fp_ {A:Around}{C:Addr}{us:List Value}{kw:List (Str×Value)}:(A.under (.builtin "type.__call__" ⟨.ref C::us,kw⟩)).depth=A.depth+1:=by
 first|rfl|simp[Around.under,Code.weight,Code.isCreation,Code.isGuard,Code.isCaller,Code.frames,Code.isFrame,guardIds]
theorem Fq_ {A:Around}{C:Addr}{us:List Value}{kw:List (Str×Value)}:(A.under (.builtin "type.__call__" ⟨.ref C::us,kw⟩)).units=A.units+1:=by
 first|rfl|simp[Around.under,Code.cUnits,Code.frames,Code.isFrame]
theorem Room.make   (r:Room (k+1) A)(C:Addr)(us:List Value)(kw:List (Str×Value)):Room k (A.under (.builtin "type.__call__" ⟨.ref C::us,kw⟩)):=
 ⟨r.hd,by have:=r.dp;rw[Fp_];lia,by have:=r.un;rw[Fq_];lia⟩
theorem Room.depth   (r:Room k A):A.depth<recursionLimit:=by have:=r.dp;lia
theorem Room.units   (r:Room k A):A.units+64<cLine:=by have:=r.un;lia
noncomputable def tNil:TA:=fun _ H Q=>Q [] H
noncomputable def LY_ (ta:TE)(tr:TA):TA:=fun σ H Q=>ta σ H fun x H1=>tr σ H1 fun xs H2=>Q (x::xs) H2
section
variable {X:Cx} {e:Expr} {es:List Expr} {te:TE} {t:TA} {pos:Pos}
theorem Ae:PA X [] tNil:=fun _ _ _ _ H Q I h=>Calls.spliced_nil ⟨[],H,I,.nil,h⟩
theorem Aa (ha:PE X e te)(hr:PA X es t)(hs:starEach (e::es) X.env=(false,eval e X.env)::starEach es X.env:=by rfl):PA X (e::es) (LY_ te t):=by
 intro pos pins s σ H Q I h
 rw[hs]
 show wpAny _ _ (spliced ((false,eval e X.env)::backTo pos (starEach es X.env))) _ _ s
 refine xI_ (thn (ha pins s σ H _ I h) fun u s1 ⟨x,H1,I1,r1,q1⟩=>?_)
 exact thn (hr pos pins s1 σ H1 _ I1 q1) fun us s2 ⟨xs,H2,I2,r2,q2⟩=>⟨x::xs,H2,I2,.cons r1 r2,q2⟩
noncomputable def tTup (t:TA):TE:=fun σ H Q=>t σ H fun xs H1=>xs.length<=sizeLine/\∀p,H1 p=none->Q (.ref p) (upd H1 p (.tup xs))
noncomputable def tLst (t:TA):TE:=fun σ H Q=>t σ H fun xs H1=>xs.length<=sizeLine/\∀p,H1 p=none->Q (.ref p) (upd H1 p (.lst xs))
theorem F3 {x1}(h:PA X es t):PE X (.Tuple es x1 pos) (tTup t):=by
 intro pins s σ H Q I hq
 refine wpAny_Tuple_spliced (thn (h pos pins s σ H _ I hq) fun us s1 ⟨xs,H1,I1,r,z,q⟩=>⟨by rw[<-r.length];exact z,?_⟩)
 have hf:H1 s1.heap.objs.size=none:=I1.hok.fresh (jl_ _)
 refine⟨.ref s1.heap.objs.size,upd H1 s1.heap.objs.size (.tup xs),I1.laid (t':=s1.toks) (fun b u e=>jd_ _ e) (jl_ _) ?_,rfl,q _ hf⟩
 exact⟨z,us,r,⟨_,jo_ _ rfl,rfl,_,rfl⟩⟩
theorem JD (h:PA X es t):PE X (.List es pos) (tLst t):=by
 intro pins s σ H Q I hq
 refine wpAny_List_spliced (thn (h pos pins s σ H _ I hq) fun us s1 ⟨xs,H1,I1,r,z,q⟩=>⟨by rw[<-r.length];exact z,?_⟩)
 have hf:H1 s1.heap.objs.size=none:=I1.hok.fresh (jl_ _)
 refine⟨.ref s1.heap.objs.size,upd H1 s1.heap.objs.size (.lst xs),I1.laid (t':=s1.toks) (fun b u e=>jd_ _ e) (jl_ _) ?_,rfl,q _ hf⟩
 exact⟨z,us,0,r,jo_ _ rfl⟩
end
noncomputable abbrev Sp:=List V->Hp->VK->XK->Prop
noncomputable abbrev CXT:=List Env->Hp->Shared->XK->Value->Shared->Prop
structure Env0 (P:Program)(w:World)(K:α3)(mg:Str->α5)(base:Heap)(A:Around)(outer:List Env)(s:Shared)(H:Hp):Prop where
 frames:A.frames=some outer
 mod:Mod K mg base
 bs:∀b o,base.get? b=some o->s.heap.get? b=some o/\H b=none
 bsz:base.objs.size<=s.heap.objs.size
 funs:s.heap.FunFrames base outer
 frf:∀b∈frs outer,H b=none
 hok:HOk P w H s.heap
 bare:AllBare s.gens
noncomputable def CE (outer:List Env)(P:Program)(w:World)(H:Hp)(s:Shared)(Q:VK)(u:Value)(s':Shared):Prop:=
 ∃v H',s'.os=s.os/\AllBare s'.gens/\Un (frs outer) [] H H' s.heap s'.heap/\HOk P w H' s'.heap/\RelV v u/\Q v H'
noncomputable def CR (CX:CXT)(outer:List Env)(P:Program)(w:World)(H:Hp)(s:Shared)(Q:VK)(E:XK)(r:Result)(s':Shared):Prop:=
 match r with
 |.ok (.ret u)=>CE outer P w H s Q u s'
 |.ok _=>False
 |.error e=>CX outer H s E e s'
structure FnOk (P:Program)(w:World)(K:α3)(mg:Str->α5)(base:Heap)(CX:CXT)(k:Nat)(f:Addr)(fd:α6)(ps:List Str)(sp:Sp):Prop where
 len:∀vs H Q E,sp vs H Q E->vs.length=ps.length
 run:∀(A:Around) (outer:List Env) (s:Shared) (H:Hp) (args:Args) (us:List Value) (vs:List V) (Q:VK) (E:XK),Room k A->Env0 P w K mg base A outer s H->BindsTo s fd args (ps.zip us)->Vals vs us->sp vs H Q E ->
  codeAny (model P w) A (.call (.ref f) args) (CR CX outer P w H s Q E) s
theorem Env0.make   {K:α3}       (e:Env0 P w K mg base A outer s H)(C:Addr)(us:List Value)(kw:List (Str×Value)):
  Env0 P w K mg base (A.under (.builtin "type.__call__" ⟨.ref C::us,kw⟩)) outer s H:=⟨by first|exact e.frames|(simpa [Around.under,Code.envs,Code.isFrame,pushEnvs] using e.frames),e.mod,e.bs,e.bsz,e.funs,e.frf,e.hok,e.bare⟩
section
variable {X:Cx} {pins:α7} {σ:St} {H:Hp} {s s':Shared}
theorem Inv.env0 (I:Inv X pins σ H s):Env0 X.prog X.w X.K X.mg X.base X.A X.stack s H:=
 ⟨I.ok.frames,I.ok.mod,I.bs,qi_ I.ok.bsz I.sz,I.stack,I.stkFree,I.hok,I.bare⟩
theorem Inv.after   (I:Inv X pins σ H s)(h:CE X.stack X.prog X.w H s Q u s'):EP X pins σ Q u s':=by
 obtain⟨v,H',os,bare,un,hok,r,q⟩:=h
 obtain⟨hh,g,d,t,os'⟩:=s'
 obtain rfl:os'=s.os:=os
 exact⟨v,H',I.call (h':=hh) (g':=g) (d':=d) (t':=t) (ch:=[]) un hok bare (fun b z=>absurd z (by simp)),r,q⟩
end
noncomputable def KS_ (sp:Sp)(dvs:List V)(E:XK)(t:TA):TE:=fun σ H Q=>t σ H fun vs H1=>sp (vs++dvs) H1 Q E
noncomputable def KT_ (C:Addr)(m:Str)(sp:Sp)(dvs:List V)(E:XK)(ta:TE)(t:TA):TE:=fun σ H Q=>ta σ H fun x H1=>∃a dx fs,x=.ref a/\H1 a=some (.ins C dx fs)/\fs.lookup m=none /\
 t σ H1 fun vs H2=>sp (x::(vs++dvs)) H2 Q E
noncomputable def LZ_ (C:Addr)(sp:Sp)(dvs:List V)(E:XK)(t:TA):TE:=fun σ H Q=>t σ H fun vs H1=>∀x dx,H1 x=none->H1 dx=none->dx≠x ->
 sp (.ref x::(vs++dvs)) (upd (upd H1 dx (.own x)) x (.ins C dx [])) (fun v H2=>v=.non/\Q (.ref x) H2) E
noncomputable def Binds (K:α3)(fd:α6)(ps:List Str)(ds:List Value):Prop:=
 ∀(s:Shared) (us:List Value),K.In s.heap->(us++ds).length=ps.length->BindsTo s fd ⟨us,[]⟩ (ps.zip (us++ds))
theorem Binds.all {K:α3}   (h:∀us:List Value,us.length=ps.length->bindArgs fd ⟨us,[]⟩=pure (ps.zip us)):Binds K fd ps []:=fun s us _ hl=>by
 rw[List.append_nil]at hl ⊢
 exact .of_eq (h us hl)
noncomputable def Ml (CX:CXT)(X:Cx)(E:XK):Prop:=∀(pins:α7) (σ:St) (H:Hp) (s:Shared) (e:Value) (s':Shared),Inv X pins σ H s->CX X.stack H s E e s'->X.xe e s'
section
variable {X:Cx} {CX:CXT} {k:Nat} {f C:Addr} {fd:α6} {ps:List Str} {sp:Sp} {dvs:List V} {ds:List Value} {E:XK} {x m:Str} {p pos apos:Pos} {e o:Expr} {es:List Expr} {ta:TE} {t:TA}
theorem AN_        (F:FnOk X.prog X.w X.K X.mg X.base CX k f fd ps sp)(hr:Room k X.A)(hb:Binds X.K fd ps ds)(hd:Vals dvs ds)(hx:Ml CX X E)
  (I:Inv X pins σ H s) (r:Vals vs us) (h:sp (vs++dvs) H Q E):wpAny (model X.prog X.w) X.A (call (.ref f) us) (EP X pins σ Q) X.xe s:=by
 have r2:Vals (vs++dvs) (us++ds):=r.append hd
 have hl:(us++ds).length=ps.length:=by rw[<-r2.length];exact F.len _ _ _ _ h
 refine wpAny_call (codeAny_mono (F.run X.A X.stack s H ⟨us,[]⟩ (us++ds) (vs++dvs) Q E hr I.env0 (hb s us I.kIn hl) r2 h) fun r s' hq=>?_)
 cases r with
 |error e=>exact hx pins σ H s e s' I hq
 |ok fl=>
  cases fl with
  |ret u=>exact I.after hq
  |next=>exact False.elim hq
  |brk=>exact False.elim hq
  |cont=>exact False.elim hq
theorem Ax (F:FnOk X.prog X.w X.K X.mg X.base CX k f fd ps sp)(hr:Room k X.A)(hg:Gl X x)(hm:X.mg x=some (.ref f))(hk:keepIn X.K (.ref f)=true)(hb:Binds X.K fd ps ds)(hd:Vals dvs ds)(hx:Ml CX X E)
  (ha:PA X (e::es) t) (hdb:(x==("__debug__" : Str))=false:=by decide) (he:starEach (e::es) X.env=(false,eval e X.env)::starEach es X.env:=by rfl) (hpl:(backTo pos (starEach es X.env)).any (·.1)=false:=by rfl):
  PE X (.Call (.Name x p) (e::es) [] pos) (KS_ sp dvs E t):=by
 intro pins s σ H Q I h
 refine xo_ (UY I hg hm ?_ hdb)
 refine xp_ (h₀:=X.base) I.ok.mod.kin hk (thn (ha pos pins s σ H _ I h) fun us s1 ⟨vs,H1,I1,r,q⟩=>⟨I1.kIn,?_⟩) he hpl
 exact AN_ F hr hb hd hx I1 r q
theorem DU  (he:PE X o ta)(c:Cls X.K C)(hm:Meth X.K C m f)(F:FnOk X.prog X.w X.K X.mg X.base CX k f fd ps sp)(hr:Room k X.A)(hb:Binds X.K fd ps ds)(hd:Vals dvs ds)(hx:Ml CX X E)(ha:PA X (e::es) t)
  (hst:starEach (e::es) X.env=(false,eval e X.env)::starEach es X.env:=by rfl) (hpl:(backTo pos (starEach es X.env)).any (·.1)=false:=by rfl)
  (ht:eval (.Call (.Attribute o m apos) (e::es) [] pos) X.env=(do
   let ov <- eval o X.env
   standAt apos.atName
   let (f,first) <- holding [ov] (getMethod ov m pl)
   callWith pos f first (backTo pos (starEach (e::es) X.env)) (backToKw pos (keywordEach [] X.env))):=by rfl):
  PE X (.Call (.Attribute o m apos) (e::es) [] pos) (KT_ C m sp dvs E ta t):=by
 intro pins s σ H Q I h
 refine x0_ (pl:=pl) (thn (he pins s σ H _ I h) fun u s1 ⟨x,H1,I1,rx,a,dx,fs,ex,ea,l,q⟩=>?_) ht
 subst ex
 obtain rfl:u=Value.ref a:=rx
 refine XE I1 ea c hm l ?_
 refine xp_ (first:=[.ref a]) (h₀:=X.base) I.ok.mod.kin hm.kp (thn (ha pos pins s1 σ H1 _ I1 q) fun us s2 ⟨vs,H2,I2,r,q2⟩=>⟨I2.kIn,?_⟩) hst hpl
 exact AN_ (us:=.ref a::us) (vs:=.ref a::vs) F hr hb hd hx I2 (.cons rfl r) q2
theorem AL  (he:PE X o ta)(c:Cls X.K C)(hm:Meth X.K C m f)(F:FnOk X.prog X.w X.K X.mg X.base CX k f fd ps sp)(hr:Room k X.A)(hb:Binds X.K fd ps ds)(hd:Vals dvs ds)(hx:Ml CX X E)
  (ht:eval (.Call (.Attribute o m apos) [] [] pos) X.env=(do
   let ov <- eval o X.env
   standAt apos.atName
   let (f,first) <- holding [ov] (getMethod ov m pl)
   callWith pos f first (backTo pos (starEach [] X.env)) (backToKw pos (keywordEach [] X.env))):=by rfl):
  PE X (.Call (.Attribute o m apos) [] [] pos) (KT_ C m sp dvs E ta tNil):=by
 intro pins s σ H Q I h
 refine x0_ (pl:=pl) (thn (he pins s σ H _ I h) fun u s1 ⟨x,H1,I1,rx,a,dx,fs,ex,ea,l,q⟩=>?_) ht
 subst ex
 obtain rfl:u=Value.ref a:=rx
 refine XE I1 ea c hm l ?_
 exact PySem.W.callWith_K0 (first:=[.ref a]) I1.kIn hm.kp (AN_ (us:=[.ref a]) (vs:=[.ref a]) F hr hb hd hx I1 (.cons rfl .nil) q)
structure Mk (K:α3)(C f:Addr):Prop where
 makes:PySem.W.makesIn K C=true
 init:PySem.W.findIn K (.ref C) "__init__"=some (some (.ref f))
 fn:PySem.W.isFn K (.ref f)=true
 kp:keepIn K (.ref C)=true
theorem Iy_        (M:Mk X.K C f)(F:FnOk X.prog X.w X.K X.mg X.base CX k f fd ps sp)(hr:Room (k+1) X.A)(hb:Binds X.K fd ps ds)(hd:Vals dvs ds)
  (hx:Ml CX X E) (I:Inv X pins σ H s) (r:Vals vs us)
  (h:∀x dx,H x=none->H dx=none->dx≠x->sp (.ref x::(vs++dvs)) (upd (upd H dx (.own x)) x (.ins C dx [])) (fun v H2=>v=.non/\Q (.ref x) H2) E):
  wpAny (model X.prog X.w) X.A (call (.ref C) us) (EP X pins σ Q) X.xe s:=by
 have hq:=h (s.heap.objs.size+1) s.heap.objs.size (I.hok.fresh (Nat.le_succ _)) (I.hok.fresh (jl_ _)) (jF_ (Nat.lt_succ_self _))
 have I2:=Inv.made (C:=C) I
 have r2:Vals (V.ref (s.heap.objs.size+1)::(vs++dvs)) (Value.ref (s.heap.objs.size+1)::(us++ds)):=.cons rfl (r.append hd)
 have hl:(Value.ref (s.heap.objs.size+1)::us++ds).length=ps.length:=by
  have e:=r2.length
  rw[F.len _ _ _ _ hq]at e
  exact e.symm
 refine wpAny_call (Ix_ (f:=f) I.kIn M.makes M.init (za_.mp M.fn) (codeAny_mono (F.run _ X.stack _ _ ⟨Value.ref (s.heap.objs.size+1)::us,[]⟩ (Value.ref (s.heap.objs.size+1)::(us++ds)) _ _ E (hr.make C us [])
  (I2.env0.make C us []) (hb _ (Value.ref (s.heap.objs.size+1)::us) I2.kIn hl) r2 hq) fun r s' hq'=>?_))
 cases r with
 |error e=>exact hx pins σ _ _ e s' I2 hq'
 |ok fl=>
  cases fl with
  |ret u=>
   obtain⟨v,H',I3,rv,ev,q3⟩:=I2.after hq'
   subst ev
   exact⟨rv,⟨V.ref (s.heap.objs.size+1),H',I3,rfl,q3⟩⟩
  |next=>exact False.elim hq'
  |brk=>exact False.elim hq'
  |cont=>exact False.elim hq'
theorem CX_ (M:Mk X.K C f)(F:FnOk X.prog X.w X.K X.mg X.base CX k f fd ps sp)(hr:Room (k+1) X.A)(hg:Gl X x)(hm:X.mg x=some (.ref C))(hb:Binds X.K fd ps ds)(hd:Vals dvs ds)(hx:Ml CX X E)
  (ha:PA X (e::es) t) (hdb:(x==("__debug__" : Str))=false:=by decide) (he:starEach (e::es) X.env=(false,eval e X.env)::starEach es X.env:=by rfl) (hpl:(backTo pos (starEach es X.env)).any (·.1)=false:=by rfl):
  PE X (.Call (.Name x p) (e::es) [] pos) (LZ_ C sp dvs E t):=by
 intro pins s σ H Q I h
 refine xo_ (UY I hg hm ?_ hdb)
 refine xp_ (h₀:=X.base) I.ok.mod.kin M.kp (thn (ha pos pins s σ H _ I h) fun us s1 ⟨vs,H1,I1,r,q⟩=>⟨I1.kIn,?_⟩) he hpl
 exact Iy_ M F hr hb hd hx I1 r q
end
structure FnScope (N P:List Str)(sc:Scope):Prop where
 kind:sc.kind=.function
 co:sc.isCoroutine=false
 gen:sc.isGenerator=false
 nd:N.Nodup
 pre:N.take P.length=P
 par:∀x∈P,sc.names.lookup x=some .local\/sc.names.lookup x=some .cell
 nofree:∀y∈sc.names,y.2 ≠ .free
theorem AO_ {kindOf:Str->Option NameKind}{x:Str}:∀{binds:List (Str×Value)} {m:Str->α5},(∀v,(x,v)∉binds)->bindL kindOf binds m x=m x
 |[],_,_=>rfl
 | (n,v)::r,m,h=>by
  unfold bindL
  rw[AO_ fun w hw=>h w (ju_ _ hw)]
  split
  ·have:x≠n:=by rintro rfl;exact h v jG_
   simp[this]
  ·rfl
theorem AP_ {kindOf:Str->Option NameKind}{x:Str}:∀{binds:List (Str×Value)} {m:Str->α5},(∀v,(x,v)∉binds)->bindC kindOf binds m x=m x
 |[],_,_=>rfl
 | (n,v)::r,m,h=>by
  unfold bindC
  rw[AP_ fun w hw=>h w (ju_ _ hw)]
  split
  ·rfl
  ·have:x≠n:=by rintro rfl;exact h v jG_
   simp[this]
theorem AQ_ {kindOf:Str->Option NameKind}{x:Str}{v:Value}:∀{P:List Str} {vs:List Value} {i:Nat} {m:Str->α5},P.Nodup->P[i]?=some x->vs[i]?=some v->kindOf x=some .local ->
  bindL kindOf (P.zip vs) m x=some v
 |[],_,_,_,_,h,_,_=>by simp at h
 |_::_,[],_,_,_,_,h,_=>by simp at h
 |p::P,w::vs,0,m,nd,h1,h2,hk=>by
  simp at h1 h2;subst h1;subst h2
  show bindL kindOf ((p,w)::P.zip vs) m p=_
  unfold bindL
  rw[AO_ fun v hv=>(qE_.mp nd).1 (List.of_mem_zip hv).1,if_pos hk]
  simp
 |p::P,w::vs,i+1,m,nd,h1,h2,hk=>by
  show bindL kindOf ((p,w)::P.zip vs) m x=_
  unfold bindL
  exact AQ_ (i:=i) (qE_.mp nd).2 (by simpa using h1) (by simpa using h2) hk
theorem AR_ {kindOf:Str->Option NameKind}{x:Str}{v:Value}:∀{P:List Str} {vs:List Value} {i:Nat} {m:Str->α5},P.Nodup->P[i]?=some x->vs[i]?=some v->kindOf x≠some .local ->
  bindC kindOf (P.zip vs) m x=some v
 |[],_,_,_,_,h,_,_=>by simp at h
 |_::_,[],_,_,_,_,h,_=>by simp at h
 |p::P,w::vs,0,m,nd,h1,h2,hk=>by
  simp at h1 h2;subst h1;subst h2
  show bindC kindOf ((p,w)::P.zip vs) m p=_
  unfold bindC
  rw[AP_ fun v hv=>(qE_.mp nd).1 (List.of_mem_zip hv).1,if_neg hk]
  simp
 |p::P,w::vs,i+1,m,nd,h1,h2,hk=>by
  show bindC kindOf ((p,w)::P.zip vs) m x=_
  unfold bindC
  exact AR_ (i:=i) (qE_.mp nd).2 (by simpa using h1) (by simpa using h2) hk
noncomputable def start (N:List Str)(vs:List V):St:=vs.map some++List.replicate (N.length-vs.length) none
noncomputable def cxOf (CX:CXT)(P:Program)(w:World)(K:α3)(mg:Str->α5)(base:Heap)(N:List Str)(qual:Str)(scope:Scope)(f:Addr)(cd:Value)(A:Around)(outer:List Env)(s:Shared)(H:Hp)(E:XK):Cx where
 prog:=P
 w:=w
 K:=K
 mg:=mg
 base:=base
 A:=A.deeper (envOfC qual scope s.heap.objs.size f cd)
 N:=N
 s₀:=s
 H₀:=H
 env:=envOfC qual scope s.heap.objs.size f cd
 outer:=outer
 stack:=envOfC qual scope s.heap.objs.size f cd::outer
 ex:=[]
 calm:=true
 fn:=fun _=>true
 pn:=[]
 xe:=fun e s'=>wpAny (model P w) (A.deeper (envOfC qual scope s.heap.objs.size f cd)) (leaving (envOfC qual scope s.heap.objs.size f cd) e) (fun _ s''=>CX outer H s E e s'') (fun e' s''=>CX outer H s E e' s'') s'
theorem Ev_ {sc:Scope}{n:Nat}{x:Str}(h:sc.names.lookup x=some .cell):∃c,(cellsFrom n sc.names []).lookup x=some c:=by
 have q:=PySem.W.cellsFrom_some sc.names n [] (.inl h)
 exact xF_.mp q
theorem GE_    {K:α3}
  (S:FnScope N ps scope) (hd:A.handled=none) (e0:Env0 P w K mg base A outer s H) (hl:vs.length=ps.length) (r:Vals vs us)
  (x:InCallC s s.heap.objs.size (bindL (envOfC qual scope s.heap.objs.size f cd).kindOf (ps.zip us) fun _=>none) (cellsFrom (s.heap.objs.size+1) scope.names []) (bindC (envOfC qual scope s.heap.objs.size f cd).kindOf (ps.zip us) fun _=>none) s1):
  Inv (cxOf CX P w K mg base N qual scope f cd A outer s H E) [] (start N vs) H s1:=by
 have hpl:ps.length<=N.length:=by have:=qU_ List.length S.pre;rw[jx_]at this;lia
 obtain⟨h1,tk,rfl,hk⟩:=x.done
 have noA:∀b:Addr,b∉(cxOf CX P w K mg base N qual scope f cd A outer s H E).ex:=fun b z=>absurd (show b∈([]:List Addr) from z) (by simp)
 refine⟨⟨e0.mod,S.kind,rfl,rfl,jl_ _,fun y z c h1 h2=>?_,fun y hy=>?_,fun y c _ h=>?_,fun _=>hd,Around.frames_deeper e0.frames,.inr ⟨rfl,rfl⟩,fun b z=>absurd z (noA b),e0.bs,e0.bsz,fun b _ _=>noA b,fun b z=>absurd z (noA b),e0.funs,e0.frf⟩,
  rfl,e0.bare,Un.kept hk,⟨_,x.toInCall.ns,fun i y v h1 h2 h3=>?_⟩,fun y c h=>⟨_,x.cell y c h⟩,e0.hok.fresh (jl_ _),fun y c h=>?_,fun p hp=>absurd (show p∈([]:α7) from hp) (by simp),e0.hok.kept hk,?_⟩
 ·exact name_of_addr x.apart (qx_ h1) (qx_ h2)
 ·have hy:scope.names.lookup y=some .cell\/scope.names.lookup y=some .free:=hy
  rcases hy with hy|hy
  ·exact Ev_ hy
  ·exact absurd rfl (S.nofree _ (qx_ hy))
 ·exact xE_ (x.above y c (qx_ h))
 ·have hi:i<vs.length:=by
   unfold start at h2
   by_cases hi:i<vs.length
   ·exact hi
   ·rw[jJ_ (by simpa using hi)]at h2
    rw[List.getElem?_replicate]at h2
    split at h2<;>cases h2
  have ha:vs[i]?=some v:=by
   unfold start at h2
   rw[jw_ (by simpa using hi),ji_]at h2
   cases e:vs[i]? with
   |none=>rw[e]at h2;cases h2
   |some a=>rw[e]at h2;cases h2;rfl
  obtain⟨u,hu,rv⟩:=r.get ha
  have hp:ps[i]?=some y:=by
   rw[<-S.pre,List.getElem?_take_of_lt s!""];exact h1
  have ndP:ps.Nodup:=by rw[<-S.pre];exact S.nd.sublist (List.take_sublist _ _)
  refine⟨u,rv,?_⟩
  rcases S.par y (jf_ hp) with k|k
  ·exact .inl ⟨k,AQ_ ndP hp hu k⟩
  ·obtain⟨c,e⟩:=Ev_ (n:=s.heap.objs.size+1) k
   refine .inr ⟨.inl k,c,e,?_⟩
   have q:=x.cell y c e
   rw[AR_ ndP hp hu (by show scope.names.lookup y≠_;rw[k];decide)]at q
   exact q
 ·exact e0.hok.fresh (xE_ (x.above y c (qx_ h)))
 ·unfold start
  show _=N.length
  rw[jj_,jb_,qm_]
  lia
theorem Ma_    {K:α3}         {dV kV doc pm cdv ct oc:Value}
       (lk:K.lookup f=some ⟨oc,od,.func (fnOf name qual params body scope dV kV doc pm an cdv ct),osl⟩) (hcd:codeIn K cdv qual=true) (S:FnScope N ps scope)
    (len:∀vs H Q E,sp vs H Q E->vs.length=ps.length)
    (hbody:∀(A:Around) (outer:List Env) (s:Shared) (H:Hp) (vs:List V) (Q:VK) (E:XK),Room k (A.deeper (envOfC qual scope s.heap.objs.size f cdv))->sp vs H Q E ->
      ∃t,PSs (cxOf CX P w K mg base N qual scope f cdv A outer s H E) body t/\t {nx:=fun _ H'=>Q .non H',rt:=Q} (start N vs) H):
    FnOk P w K mg base CX (k+1) f (fnOf name qual params body scope dV kV doc pm an cdv ct) ps sp:=by
  refine⟨len,fun A outer s H args us vs Q E hr e0 hb r hsp=>?_⟩
  have hl:=len _ _ _ _ hsp
  have KX:K.In s.heap:=e0.mod.kin.keeps fun b o e=>(e0.bs b o e).1
  have lim:s.heap.NoLimit:=e0.mod.nolimit.keeps fun b o e=>(e0.bs b o e).1
  have hkind:∀y∈ps.zip us,scope.names.lookup y.1=some .local\/(scope.names.lookup y.1=some .cell/\((cellsFrom (s.heap.objs.size+1) scope.names []).lookup y.1).isSome=true):=fun ⟨n,v⟩ hy=>by
    rcases S.par n (List.of_mem_zip hy).1 with q|q
    . exact .inl q
    . exact .inr ⟨q,PySem.W.cellsFrom_some _ _ _ (.inl q)⟩
  refine codeAny_call_function hr.depth (KX _ _ lk) rfl S.co S.gen rfl (PySem.W.codeRec_of KX hcd) (hb _ _ _ _ ?_)
  refine wpAny_newFunctionEnv_cells S.kind hkind fun env he s1 x=>?_
  subst he
  refine⟨lim.keeps x.toInCall.keep,codeAny_func ?_⟩
  obtain⟨t,ht,hq⟩:=hbody A outer s H vs Q E (hr.deeper _) hsp
  have I:Inv (cxOf CX P w K mg base N qual scope f cdv A outer s H E) [] (start N vs) H s1:=GE_ S hr.hd e0 hl r x
  refine qH_ (ht [] s1 (start N vs) H _ I hq) (fun fl s' hs=>?_) fun e s' hs=>hs
  have fin:∀{σ':St} {H':Hp} {v:V} {u:Value},Inv (cxOf CX P w K mg base N qual scope f cdv A outer s H E) [] σ' H' s'->RelV v u->Q v H'->CE outer P w H s Q u s' :=
    fun {σ' H' v u} J rv q=>⟨v,H',J.os,J.bare,J.base,J.hok,rv,q⟩
  cases fl with
  |ret u=>
    obtain⟨v,σ',H',J,rv,q⟩:=hs
    exact fin J rv q
  |next=>
    obtain⟨σ',H',J,q⟩:=hs
    exact fin (v:=V.non) (u:=Value.none) J rfl q
  |brk=>
    obtain⟨_,_,_,q⟩:=hs
    exact False.elim q
  |cont=>
    obtain⟨_,_,_,q⟩:=hs
    exact False.elim q
end L2
namespace L2
open PySem PySem.Spec PyProof.Rows
section
variable {X:Cx} {x:Str} {p pos:Pos} {e:Expr} {es:List Expr} {t:TA} {id T:String} {r:List V->Hp->VK->Prop}
noncomputable def tCB (r:List V->Hp->VK->Prop)(t:TA):TE:=fun σ H Q=>t σ H fun vs H1=>r vs H1 Q
theorem AF (hc:Oi X (.builtin id) r)(hg:Gl X x)(hm:X.mg x=none)(hv:bootBuiltins x=some (.builtin id))(ha:PA X (e::es) t)(hn:x ≠ "__name__" := by decide)(hdb:(x==("__debug__" : Str))=false:=by decide)
  (he:starEach (e::es) X.env=(false,eval e X.env)::starEach es X.env:=by rfl) (hpl:(backTo pos (starEach es X.env)).any (·.1)=false:=by rfl):PE X (.Call (.Name x p) (e::es) [] pos) (tCB r t):=by
 intro pins s σ H Q I h
 refine xo_ (UZ I hg hm hv ?_ hn hdb)
 exact PyProof.Rows.callWith_builtin1 (thn (ha pos pins s σ H _ I h) fun us s1 ⟨vs,H1,I1,r1,q1⟩=>hc pins s1 σ H1 vs us Q I1 r1 q1) he hpl
theorem Cg (hc:Oi X (.type T) r)(hg:Gl X x)(hm:X.mg x=none)(hv:bootBuiltins x=some (.type T))(ha:PA X (e::es) t)(hn:x ≠ "__name__" := by decide)(hdb:(x==("__debug__" : Str))=false:=by decide)
  (he:starEach (e::es) X.env=(false,eval e X.env)::starEach es X.env:=by rfl) (hpl:(backTo pos (starEach es X.env)).any (·.1)=false:=by rfl):PE X (.Call (.Name x p) (e::es) [] pos) (tCB r t):=by
 intro pins s σ H Q I h
 refine xo_ (UZ I hg hm hv ?_ hn hdb)
 exact qD_ (thn (ha pos pins s σ H _ I h) fun us s1 ⟨vs,H1,I1,r1,q1⟩=>hc pins s1 σ H1 vs us Q I1 r1 q1) he hpl
end
end L2
namespace HT
open PySem PyProof.Rows
section
variable {prog:Program} {w:World} {A:Around} {E:Value->Shared->Prop} {s:Shared}
theorem cat_tup    (ht:IsTup s.heap t vs.toArray)(hb:IsTup s.heap b ws.toArray)(hv:vs ≠ [])
  (h1:ws=[]->Q (.ref t) s) (h2:ws ≠ []->Q (.ref s.heap.objs.size) {s with heap:=s.heap.push {cls:=.type "tuple",data:=.seq (vs++ws).toArray} })
  (hsz:vs.length+ws.length<=sizeLine):wpAny (model prog w) A (binaryOp .Add (.ref t) (.ref b)) Q E s:=by
 obtain⟨⟨cls,dd,data,sl⟩,ho,hc,n,hd⟩:=id ht
 obtain⟨⟨cls2,dd2,data2,sl2⟩,ho2,hc2,n2,hd2⟩:=id hb
 simp only at hc hd hc2 hd2
 subst hc hd hc2 hd2
 have e:vs.toArray++ws.toArray=(vs++ws).toArray:=by simp
 by_cases hw:ws=[]
 ·exact concat_meets ⟨_,ho,rfl⟩ ⟨_,ho2,rfl⟩ noFill_tuple_add seq_tuple_add xT_ xJ_ (xG_ _ _)
   (tuple_addW1 t b vs.toArray ws.toArray n n2 dd dd2 sl sl2 (by simpa using hv) (by simp[hw])) ⟨ho,ho2,h1 hw⟩
 ·refine concat_meets ⟨_,ho,rfl⟩ ⟨_,ho2,rfl⟩ noFill_tuple_add seq_tuple_add xT_ xJ_ (xG_ _ _)
   (tuple_addW2 t b vs.toArray ws.toArray n n2 dd dd2 sl sl2 (by simpa using hv) (by simpa using hw) (by rw[jg_,jg_];exact hsz)) ⟨ho,ho2,?_⟩
  rw[e]
  exact h2 hw
noncomputable def sIx (n d:Nat):Option Int->Nat
 |none=>d
 |some v=>if v<0 then (v+(n:Int)).toNat else min v.toNat n
theorem sIx_none (n d:Nat):sIx n d none=d:=rfl
theorem sIx_nat (n d k:Nat):sIx n d (some (k:Int))=min k n:=by
 show (if (k:Int)<0 then ((k:Int)+(n:Int)).toNat else min (k:Int).toNat n)=min k n
 rw[if_neg s!"",jB_]
theorem Mb_ (n d:Nat)(hd:d<=n)(o:Option Int):sIx n d o<=n:=by
 cases o with
 |none=>exact hd
 |some v=>
  show (if v<0 then (v+(n:Int)).toNat else min v.toNat n)<=n
  by_cases hv:v<0
  ·rw[if_pos hv];lia
  ·rw[if_neg hv];exact Nat.min_le_right _ _
theorem GF_ (v:Int)(n d:Nat):(if v<0 then max (v+(n:Int)) 0 else min v (n:Int))=((sIx n d (some v):Nat):Int):=by
 show (if v<0 then max (v+(n:Int)) 0 else min v (n:Int))=(((if v<0 then (v+(n:Int)).toNat else min v.toNat n):Nat):Int)
 by_cases hv:v<0
 ·simp only[if_pos hv];lia
 ·simp only[if_neg hv];lia
theorem Fr_ (lo hi:Option Int)(n:Nat):Builtin.Slice.sliceAdjust lo hi 1 (n:Int)=(((sIx n 0 lo:Nat):Int),((sIx n n hi:Nat):Int)):=by
 have h1:¬ ((1:Int)<0):=by lia
 unfold Builtin.Slice.sliceAdjust
 simp only[h1,qM_]
 refine Prod.ext ?_ ?_
 ·cases lo with
  |none=>rfl
  |some v=>exact GF_ v n 0
 ·cases hi with
  |none=>rfl
  |some v=>exact GF_ v n n
theorem Fs_ (i j:Nat):Builtin.Slice.slicePlaces (i:Int) (j:Int) 1=j-i:=by
 unfold Builtin.Slice.slicePlaces
 have h1:(1:Int) > 0:=by lia
 simp only[h1,q7_,Int.ediv_one]
 split<;>lia
theorem XF    (p:IsPart v o)(h:Q o s):wpAny (model prog w) A (Builtin.Slice.slicePartIndex v) Q E s:=by
 cases p with
 |none=>exact slicePart_none h
 |int i t=>exact slicePart_int h
theorem Lm {sl:Addr}{vl vu:Value}{lo hi:Option Int}{n:Nat}{Q:Int×Int×Nat->Shared->Prop}(hs:s.heap.IsSliceOf sl vl vu .none)(pl:IsPart vl lo)(pu:IsPart vu hi)
  (h:Q (((sIx n 0 lo:Nat):Int),1,sIx n n hi-sIx n 0 lo) s):wpAny (model prog w) A (Builtin.Slice.sliceApplied (.ref sl) (pure (n:Int))) Q E s:=by
 obtain⟨os,hos,hcs,hds⟩:=id hs
 unfold Builtin.Slice.sliceApplied Builtin.Slice.sliceFields
 refine ja_ (ja_ (qb_ hos hds (x:=vl) rfl (ja_ (qb_ hos hds (x:=vu) rfl (ja_ (qb_ hos hds (x:=.none) rfl (je_ ?_)))))))
 refine ja_ (slicePart_none ?_)
 show wpAny _ _ (if ((1:Int)==0)=true then _ else _) _ _ s
 rw[if_neg (by decide)]
 refine ja_ (XF pl (ja_ (XF pu (ja_ (je_ ?_)))))
 show wpAny _ _ (match Builtin.Slice.sliceAdjust lo hi 1 (n:Int) with|(lo,hi)=>pure (lo,(1:Int),Builtin.Slice.slicePlaces lo hi 1)) _ _ s
 rw[Fr_ lo hi n]
 show wpAny _ _ (pure (((sIx n 0 lo:Nat):Int),(1:Int),Builtin.Slice.slicePlaces ((sIx n 0 lo:Nat):Int) ((sIx n n hi:Nat):Int) 1)) _ _ s
 rw[Fs_]
 exact je_ h
theorem Iz_ (xs:Array Value)(i k:Nat):((List.range k).filterMap fun (m:Nat)=>xs[((i:Int)+(m:Int)*1).toNat]?).toArray=((xs.toList.drop i).take k).toArray:=by
 have e:(fun (m:Nat)=>xs[((i:Int)+(m:Int)*1).toNat]?)=fun m=>xs[i+m]?:=by
  funext m
  have:((i:Int)+(m:Int)*1).toNat=i+m:=by lia
  rw[this]
 rw[e]
 have:=pick_run xs i k
 rw[List.filterMap_map]at this
 have e2:((fun x=>xs[x]?) ∘ fun x=>i+x)=fun m=>xs[i+m]?:=rfl
 rw[e2]at this
 rw[this]
theorem getItem_tuple_cut {t sl:Addr}   {lo hi:Option Int}  (ht:IsTup s.heap t items)(hs:s.heap.IsSliceOf sl vl vu .none)(pl:IsPart vl lo)(pu:IsPart vu hi)
  (hw:¬ (sIx items.size 0 lo=0/\sIx items.size items.size hi=items.size))
  (h:Q (.ref s.heap.objs.size) {s with heap:=s.heap.push {cls:=.type "tuple",data:=.seq ((items.toList.drop (sIx items.size 0 lo)).take (sIx items.size items.size hi-sIx items.size 0 lo)).toArray} })
  (hsz:items.size<=sizeLine):wpAny (model prog w) A (getItem (.ref t) (.ref sl)) Q E s:=by
 have htake:sizeOk (.seq ((items.toList.drop (sIx items.size 0 lo)).take (sIx items.size items.size hi-sIx items.size 0 lo)).toArray):=by
  show ((items.toList.drop (sIx items.size 0 lo)).take (sIx items.size items.size hi-sIx items.size 0 lo)).toArray.size<=sizeLine
  rw[jg_,jx_,qI_,qg_]
  lia
 have hj:sIx items.size items.size hi<=items.size:=Mb_ _ _ (jl_ _) hi
 obtain⟨os,hos,hcs,hds⟩:=id hs
 have hTs:s.TypeIs (.ref sl) "slice" := ⟨os,hos,hcs⟩
 unfold getItem
 try with_reducible refine qC_ ?_
 first|refine ja_ (je_ ?_)|skip
 refine ja_ (wpAny_sequenceKey ht.typeIs (by decide) ?_)
 refine ja_ (jM_ (name:=Str.ofString "__getitem__") ht.typeIs qc_
  (jS_ qc_ ht.typeIs entry_tuple_getitem ?_ (args_tuple_getitem _ _)))
 show wpAny _ _ (Builtin.Tuple.tupleItemsOf (.ref t) >>= _) _ _ s
 refine ja_ (tupleItemsOf_ ht ?_)
 refine ja_ (wpAny_typeOf hTs ?_)
 rw[if_pos (by decide)]
 refine ja_ (Lm hs pl pu ?_)
 have hno:¬ ((((sIx items.size 0 lo:Nat):Int)==0&&(1:Int)==1&&(sIx items.size items.size hi-sIx items.size 0 lo)==items.size)=true):=by
  intro q
  rw[qJ_,qJ_]at q
  have q1:((sIx items.size 0 lo:Nat):Int)=0:=eq_of_beq q.1.1
  have q2:sIx items.size items.size hi-sIx items.size 0 lo=items.size:=eq_of_beq q.2
  exact hw ⟨by lia,by lia⟩
 show wpAny _ _ (if (((sIx items.size 0 lo:Nat):Int)==0&&(1:Int)==1&&(sIx items.size items.size hi-sIx items.size 0 lo)==items.size)=true then _ else _) _ _ s
 rw[if_neg hno,Iz_]
 first
  | exact ja_ (m:=Builtin.Tuple.tupleExact _) (jN_ (je_ ⟨_,rfl,je_ h⟩) htake)
  | exact ja_ (m:=Builtin.Tuple.tupleExact _) (jN_ (ja_ (je_ (je_ ⟨_,rfl,je_ h⟩))) htake)
  | exact ja_ (ja_ (m:=Builtin.Tuple.tupleExact _) (jN_ (je_ (je_ ⟨_,rfl,je_ h⟩)) htake))
  | exact ja_ (ja_ (m:=Builtin.Tuple.tupleExact _) (jN_ (je_ ⟨_,rfl,je_ h⟩) htake))
end
end HT
namespace L2
open PySem PySem.Spec PyProof.Rows
noncomputable abbrev TO:=St->Hp->(Option Int->Hp->Prop)->Prop
noncomputable def PO (X:Cx)(e:Option Expr)(t:TO):Prop:=
 ∀(pins:α7) (s:Shared) (σ:St) (H:Hp) (Q:Option Int->Hp->Prop),Inv X pins σ H s->t σ H Q ->
  wpAny (model X.prog X.w) X.A (evalPart e X.env) (fun u s'=>∃o H',Inv X pins σ H' s'/\IsPart u o/\Q o H') X.xe s
noncomputable def GG_:TO:=fun _ H Q=>Q none H
noncomputable def Mc_ (t:TE):TO:=fun σ H Q=>t σ H fun x H1=>∃i,x=.int i/\Q (some i) H1
section
variable {X:Cx} {e:Expr} {te:TE} {lo hi:Option Expr} {tl th:TO} {pos p2:Pos}
theorem Hk:PO X none GG_:=by
 intro pins s σ H Q I h
 rw[evalPart_none]
 exact je_ ⟨none,H,I,.none,h⟩
theorem Hl (h:PE X e te):PO X (some e) (Mc_ te):=by
 intro pins s σ H Q I hw
 rw[evalPart_some]
 refine thn (h pins s σ H _ I hw) fun u s1 ⟨x,H1,I1,r1,q1⟩=>?_
 obtain⟨i,rfl,q⟩:=q1
 obtain⟨t,rfl⟩:=r1
 exact⟨some i,H1,I1,.int i t,q⟩
noncomputable def SlR (X:Cx)(r:V->Option Int->Option Int->Hp->VK->Prop):Prop:=
 ∀(pins:α7) (s:Shared) (σ:St) (H:Hp) (x:V) (v vl vu:Value) (lo hi:Option Int) (sl:Addr) (Q:VK),Inv X pins σ H s->RelV x v->s.heap.IsSliceOf sl vl vu .none->IsPart vl lo->IsPart vu hi->r x lo hi H Q ->
  ∃T id,typeLookup (.type T) "__getitem__"=pure (some (.builtin id))/\s.TypeIs v T/\wpAny (model X.prog X.w) X.A (getItem v (.ref sl)) (EP X pins σ Q) X.xe s
noncomputable def tSl (r:V->Option Int->Option Int->Hp->VK->Prop)(te:TE)(tl th:TO):TE:=fun σ H Q=>te σ H fun x H1=>tl σ H1 fun l H2=>th σ H2 fun u H3=>r x l u H3 Q
theorem FK  (hr:SlR X r)(he:PE X e te)(hl:PO X lo tl)(hu:PO X hi th):PE X (.Subscript e (.Slice lo hi none p2) pos) (tSl r te tl th):=by
 intro pins s σ H Q I h
 refine Subscript_ (thn (he pins s σ H _ I h) fun v s1 ⟨x,H1,I1,r1,q1⟩=>?_)
 refine wpAny_Slice (thn (hl pins s1 σ H1 _ I1 q1) fun vl s2 ⟨l,H2,I2,pl,q2⟩=>thn (hu pins s2 σ H2 _ I2 q2) fun vu s3 ⟨u,H3,I3,pu,q3⟩=>?_)
 rw[evalPart_none]
 refine je_ ?_
 have I4:Inv X pins σ H3 {s3 with heap:=s3.heap.push {cls:=.type "slice",data:=.fields #[vl,vu,.none]} }:=I3.kept (t':=s3.toks) fun b ob q=>jd_ _ q
 obtain⟨T,id,hT,ht,hg⟩:=hr pins {s3 with heap:=s3.heap.push {cls:=.type "slice",data:=.fields #[vl,vu,.none]} } σ H3 x v vl vu l u s3.heap.objs.size Q I4 r1 (Heap.IsSliceOf.new ..) pl pu q3
 show wpAny (model X.prog X.w) X.A (subscriptTail e (.Slice lo hi none p2) v (.ref s3.heap.objs.size)) (EP X pins σ Q) X.xe {s3 with heap:=s3.heap.push {cls:=.type "slice",data:=.fields #[vl,vu,.none]} }
 exact tail_any (ops:=[.ref s3.heap.objs.size,v]) ht hT hg (by with_unfolding_all rfl)
noncomputable def cutV (xs:List V)(lo hi:Option Int):List V:=(xs.drop (HT.sIx xs.length 0 lo)).take (HT.sIx xs.length xs.length hi-HT.sIx xs.length 0 lo)
theorem U2 (xs:List V)(lo hi:Option Int):(cutV xs lo hi).length<=xs.length:=by
 unfold cutV
 rw[jx_,qI_]
 lia
noncomputable def rSlT (K:α3):V->Option Int->Option Int->Hp->VK->Prop:=fun x lo hi H Q=>∃a xs,x=.ref a/\SqT K H a xs /\
 ¬ (HT.sIx xs.length 0 lo=0/\HT.sIx xs.length xs.length hi=xs.length)/\∀p,H p=none->Q (.ref p) (upd H p (.tup (cutV xs lo hi)))
theorem GH_:SlR X (rSlT X.K):=by
 intro pins s σ H x v vl vu lo hi sl Q I rx hs pl pu h
 obtain⟨a,xs,rfl,hx,hw,q⟩:=h
 cases rx
 obtain⟨its,r,ht,hz⟩:=I.tuple hx
 have hlen:its.toArray.size=xs.length:=by rw[jg_];exact r.length.symm
 refine⟨"tuple",_,qc_.lookup,ht.typeIs,?_⟩
 refine HT.getItem_tuple_cut ht hs pl pu (by rw[hlen];exact hw) ?_ (by rw[hlen];exact hz)
 rw[hlen]
 refine⟨.ref s.heap.objs.size,_,I.laid (t':=s.toks) (o:=.tup (cutV xs lo hi)) (fun b ob q=>jd_ _ q) (jl_ _) ?_,rfl,q _ (I.hok.fresh (jl_ _))⟩
 exact⟨qi_ (U2 xs lo hi) hz,_,(r.drop (HT.sIx xs.length 0 lo)).take (HT.sIx xs.length xs.length hi-HT.sIx xs.length 0 lo),IsTup.new _ _⟩
noncomputable def No_ (K:α3):R2:=fun x y H Q=>∃a b xs ys,x=.ref a/\y=.ref b/\SqT K H a xs/\SqT K H b ys/\xs ≠ []/\xs.length+ys.length<=sizeLine /\
 (ys=[]->Q (.ref a) H)/\(ys ≠ []->∀p,H p=none->Q (.ref p) (upd H p (.tup (xs++ys))))
theorem Vals.nil_iff   (r:Vals xs us):us=[]↔xs=[]:=by
 cases r with
 |nil=>simp
 |cons _ _=>simp
theorem KU_:OpR X (binaryOp .Add) (No_ X.K):=by
 intro pins s σ H x y v u Q I rx ry h
 obtain⟨a,b,xs,ys,rfl,rfl,ha,hb,hx,hz,q1,q2⟩:=h
 cases rx
 cases ry
 obtain⟨its,r1,p1,_⟩:=I.tuple ha
 obtain⟨its2,r2,p2,_⟩:=I.tuple hb
 refine HT.cat_tup p1 p2 (fun z=>hx (r1.nil_iff.mp z)) (fun z=>⟨.ref a,H,I,rfl,q1 (r2.nil_iff.mp z)⟩) (fun z=>?_) (by rw[<-r1.length,<-r2.length];exact hz)
 refine⟨.ref s.heap.objs.size,_,I.laid (t':=s.toks) (o:=.tup (xs++ys)) (fun b ob q=>jd_ _ q) (jl_ _) ?_,rfl,q2 (fun w=>z (r2.nil_iff.mpr w)) _ (I.hok.fresh (jl_ _))⟩
 exact⟨by rw[jj_];exact hz,_,r1.append r2,IsTup.new _ _⟩
end
end L2
namespace L2
open PySem PySem.Spec PyProof.Rows
noncomputable def ixN (n:Nat)(i:Int):Option Nat:=if 0<=i then (if i<n then some i.toNat else none) else if -(n:Int)<=i then some (i+n).toNat else none
noncomputable def atI {α:Type}(xs:List α)(i:Int):Option α:=(ixN xs.length i).bind fun j=>xs[j]?
theorem GI_    (h:ixN n i=some j):seqIndex? i n=some j/\j<n /\ -(n:Int)<=i/\i<n:=by
 unfold ixN at h
 by_cases h0:0<=i
 ·rw[if_pos h0]at h
  by_cases h1:i<n
  ·rw[if_pos h1]at h
   have e:i.toNat=j:=jt_ h
   exact⟨by rw[seqIndex_of h0 h1,e],by lia,by lia,h1⟩
  ·rw[if_neg h1]at h;cases h
 ·rw[if_neg h0]at h
  by_cases h1 : -(n:Int)<=i
  ·rw[if_pos h1]at h
   have e:(i+n).toNat=j:=jt_ h
   exact⟨by rw[seqIndex_neg s!"" h1,e],by lia,h1,by lia⟩
  ·rw[if_neg h1]at h;cases h
theorem GJ_     (h:atI xs i=some v):∃j,seqIndex? i xs.length=some j/\xs[j]?=some v/\j<xs.length /\ -(xs.length:Int)<=i/\i<xs.length:=by
 unfold atI at h
 cases e:ixN xs.length i with
 |none=>rw[e]at h;cases h
 |some j=>
  rw[e]at h
  obtain⟨h1,h2,h3,h4⟩:=GI_ e
  exact⟨j,h1,h,h2,h3,h4⟩
theorem Cq {α:Type}{xs:List α}{j:Nat}{v:α}(h:xs[j]?=some v):atI xs (j:Int)=some v:=by
 have hj:j<xs.length:=(jc_.mp h).1
 have e:ixN xs.length (j:Int)=some j:=by
  unfold ixN
  rw[if_pos s!"",if_pos s!""];simp
 unfold atI;rw[e];exact h
noncomputable def GK_ (b:Expr):Prop:=∀o i,subscripted b false o i=operate [o,i] (getItem o i)
noncomputable def IxR (X:Cx)(r:R2):Prop:=
 ∀(value slice:Expr) (pins:α7) (s:Shared) (σ:St) (H:Hp) (x y:V) (v u:Value) (Q:VK),Inv X pins σ H s->RelV x v->RelV y u->r x y H Q ->
  subscripted slice false v u=operate [v,u] (getItem v u)->wpAny (model X.prog X.w) X.A (subscriptTail value slice v u) (EP X pins σ Q) X.xe s
noncomputable def MtR (X:Cx)(id:String)(r:V->List V->Hp->VK->Prop):Prop:=
 ∀(pins:α7) (s:Shared) (σ:St) (H:Hp) (x:V) (xs:List V) (v:Value) (us:List Value) (Q:VK),Inv X pins σ H s->RelV x v->Vals xs us->r x xs H Q ->
  wpAny (model X.prog X.w) X.A (call (.builtin id) (v::us)) (EP X pins σ Q) X.xe s
section
variable {X:Cx} {a b:Expr} {ta tb:TE} {pos:Pos}
theorem Np_  (hr:IxR X r)(ha:PE X a ta)(hb:PE X b tb)(hs:GK_ b):PE X (.Subscript a b pos) (tOp r ta tb):=by
 intro pins s σ H Q I h
 exact Subscript_ (binT ha hb I h fun v u s2 x y H2 I2 rx ry q=>hr a b pins s2 σ H2 x y v u Q I2 rx ry q (hs _ _))
noncomputable def rIxL (K:α3):R2:=fun x y H Q=>∃p xs i v,x=.ref p/\y=.int i/\SqL K H p xs/\atI xs i=some v/\Q v H
noncomputable def rIxT (K:α3):R2:=fun x y H Q=>∃p xs i v,x=.ref p/\y=.int i/\SqT K H p xs/\atI xs i=some v/\Q v H
theorem Ci:IxR X (rIxL X.K):=by
 intro value slice pins s σ H x y v u Q I rx ry h hs
 obtain⟨p,xs,i,z,rfl,rfl,hq,he,q⟩:=h
 cases rx
 obtain⟨t,rfl⟩:=ry
 obtain⟨its,r,pl,hz⟩:=I.list hq
 obtain⟨j,h1,h2,h3,h4,h5⟩:=GJ_ he
 obtain⟨w,ew,rw'⟩:=r.get h2
 have hl:=r.length
 have hn:=Eu_
 have fin:EP X pins σ Q w s:=⟨z,H,I,rw',q⟩
 by_cases h0:0<=i
 ·have hj:i.toNat=j:=by
   rw[seqIndex_of h0 h5]at h1
   exact jt_ h1
  exact item_listR pl.isList h0 s!"" (by rw[hj];simpa using ew) fin hs
 ·have hj:(i+(its.toArray.size:Int)).toNat=j:=by
   rw[seqIndex_neg s!"" h4]at h1
   rw[jg_,<-hl]
   exact jt_ h1
  exact subscriptTail_builtinR (x:=w) pl.isList.typeIs slot_list_getitem.lookup
   (wpAny_getItem_list_neg (Q:=fun r s'=>r=w/\EP X pins σ Q r s') pl.isList s!"" (by rw[jg_]<;>lia) s!"" (by rw[hj];simpa using ew) ⟨rfl,fin⟩) hs
theorem AY:IxR X (rIxT X.K):=by
 intro value slice pins s σ H x y v u Q I rx ry h hs
 obtain⟨p,xs,i,z,rfl,rfl,hq,he,q⟩:=h
 cases rx
 obtain⟨t,rfl⟩:=ry
 obtain⟨its,r,pl,hz⟩:=I.tuple hq
 obtain⟨j,h1,h2,h3,h4,h5⟩:=GJ_ he
 obtain⟨w,ew,rw'⟩:=r.get h2
 have hl:=r.length
 have hn:=Eu_
 have fin:EP X pins σ Q w s:=⟨z,H,I,rw',q⟩
 exact subscriptTail_builtinR (x:=w) pl.typeIs slot_tuple_getitem.lookup
  (getItem_tuple (j:=j) (Q:=fun r s'=>r=w/\EP X pins σ Q r s') pl s!"" s!"" (by rw[jg_,<-hl];exact h1) (by simpa using ew) ⟨rfl,fin⟩) hs
theorem Ft_ (its:List Value)(n j:Nat)(u:Value):Obj.mapSeq (·.setIfInBounds j u) {cls:=.type "list",data:=.seq its.toArray n}={cls:=.type "list",data:=.seq (its.set j u).toArray n}:=by
 simp[Obj.mapSeq]
theorem Inv.lst {pins:α7}{σ:St}{H:Hp}{s:Shared}{p:Addr}{xs:List V}(I:Inv X pins σ H s)(h:H p=some (.lst xs)):
  ∃(its:List Value) (n:Nat),Vals xs its/\s.heap.get? p=some {cls:=.type "list",data:=.seq its.toArray n}/\xs.length<=sizeLine:=by
 obtain⟨z,its,n,r,e⟩:=I.hok p _ h
 exact⟨its,n,r,e,z⟩
theorem Inv.lstUpd {pins:α7}{σ:St}{H:Hp}{s:Shared}{p:Addr}{xs ys:List V}{its its':List Value}{n n':Nat}{f:Obj->Obj}(I:Inv X pins σ H s)(h:H p=some (.lst xs))
  (ho:s.heap.get? p=some {cls:=.type "list",data:=.seq its.toArray n}) (hf:f {cls:=.type "list",data:=.seq its.toArray n}={cls:=.type "list",data:=.seq its'.toArray n' }) (r:Vals ys its') (hz:ys.length<=sizeLine) (t:Nat):
  Inv X pins σ (upd H p (.lst ys)) {s with heap:=s.heap.update p f,toks:=t}:=by
 have e:(s.heap.update p f).get? p=some {cls:=.type "list",data:=.seq its'.toArray n' }:=by
  rw[qz_ f ho (by rw[hf]<;>rfl),hf]
 refine I.write (x:=p) (e:=p) (by rw[h];trivial) (.inl rfl) (fun b u hb q=>(qk_ _ _ (qj_ hb)).trans q) ⟨_,e⟩ ?_
 exact⟨hz,its',n',r,e⟩
noncomputable def Md_:V->V->V->Hp->(Hp->Prop)->Prop:=fun o i v H Q=>∃p xs k j,o=.ref p/\i=.int k/\H p=some (.lst xs)/\ixN xs.length k=some j/\Q (upd H p (.lst (xs.set j v)))
theorem set_list:PSet X Md_:=by
 intro pins s σ H o i v ov iv u Q I ro ri rv h
 obtain⟨p,xs,k,j,rfl,rfl,hp,hj,q⟩:=h
 cases ro
 obtain⟨t,rfl⟩:=ri
 obtain⟨its,n,r,ho,hz⟩:=I.lst hp
 obtain⟨h1,h2,h3,h4⟩:=GI_ hj
 have hl:=r.length
 have hn:=Eu_
 have I':Inv X pins σ (upd H p (.lst (xs.set j v))) {s with heap:=s.heap.update p (Obj.mapSeq (·.setIfInBounds j u))}:=
  I.lstUpd hp ho (Ft_ its n j u) (r.set rv j) (by rw[List.length_set];exact hz) s.toks
 by_cases h0:0<=k
 ·have hk:k.toNat=j:=by
   rw[seqIndex_of h0 h4]at h1
   exact jt_ h1
  exact PySem.W.ki_setAt ho h0 s!"" (by rw[jg_,<-hl];exact h4) (by rw[hk];exact⟨_,I',q⟩)
 ·have hk:(k+(its.toArray.size:Int)).toNat=j:=by
   rw[seqIndex_neg s!"" h3]at h1
   rw[jg_,<-hl]
   exact jt_ h1
  exact PySem.W.ki_setBack ho s!"" (by rw[jg_,<-hl];exact h3) s!"" (by rw[hk];exact⟨_,I',q⟩)
theorem AS_ (lo hi:Option Int)(n:Nat):(sliceBounds lo hi none n).1=((HT.sIx n 0 lo:Nat):Int)/\(sliceBounds lo hi none n).2.1=((HT.sIx n n hi:Nat):Int)/\(sliceBounds lo hi none n).2.2=1:=by
 refine⟨?_,?_,rfl⟩
 ·cases lo with
  |none=>simp[sliceBounds,HT.sIx]
  |some i=>
   simp only[sliceBounds,HT.sIx,Option.getD_none,show (1:Int) > 0 by decide,q7_]
   by_cases h:i<0
   ·simp only[h,q7_]<;>lia
   ·simp only[h,qM_]<;>lia
 ·cases hi with
  |none=>simp[sliceBounds,HT.sIx]
  |some i=>
   simp only[sliceBounds,HT.sIx,Option.getD_none,show (1:Int) > 0 by decide,q7_]
   by_cases h:i<0
   ·simp only[h,q7_]<;>lia
   ·simp only[h,qM_]<;>lia
theorem X4 (its:List Value)(lo hi:Option Int):slicePick its.toArray lo hi none=((its.drop (HT.sIx its.length 0 lo)).take (HT.sIx its.length its.length hi-HT.sIx its.length 0 lo)).toArray:=by
 obtain⟨h1,h2,h3⟩:=AS_ lo hi its.toArray.size
 unfold slicePick
 rw[h1,h2,h3]
 simp only[sliceRange_one,pick_run,jg_]<;>rfl
noncomputable def rSlL (K:α3):V->Option Int->Option Int->Hp->VK->Prop:=fun x lo hi H Q=>∃a xs,x=.ref a/\SqL K H a xs/\∀p,H p=none->Q (.ref p) (upd H p (.lst (cutV xs lo hi)))
theorem Mm:SlR X (rSlL X.K):=by
 intro pins s σ H x v vl vu lo hi sl Q I rx hs pl pu h
 obtain⟨a,xs,rfl,hx,q⟩:=h
 cases rx
 obtain⟨its,r,ht,hz⟩:=I.list hx
 have hlen:=r.length
 refine⟨"list",_,slot_list_getitem.lookup,ht.isList.typeIs,?_⟩
 refine wpAny_getItem_list_slice ht.isList hs pl pu .none (by simp) ?_ (by rw[jg_]<;>lia)
 rw[X4,<-hlen]
 refine⟨.ref s.heap.objs.size,_,I.laid (t':=s.toks) (o:=.lst (cutV xs lo hi)) (fun b ob q=>jd_ _ q) (jl_ _) ?_,rfl,q _ (I.hok.fresh (jl_ _))⟩
 exact⟨qi_ (U2 xs lo hi) hz,_,0,(r.drop (HT.sIx xs.length 0 lo)).take (HT.sIx xs.length xs.length hi-HT.sIx xs.length 0 lo),jo_ _ rfl⟩
noncomputable def X5:V->Bool
 |.non=>true
 |.bl _=>true
 |.int _=>true
 |.str _=>true
 |_=>false
noncomputable def eqV:V->V->Bool
 |.non,.non=>true
 |.bl a,.bl b=>a==b
 |.bl a,.int b=>(if a then 1 else 0)==b
 |.int a,.bl b=>a==(if b then 1 else 0)
 |.int a,.int b=>a==b
 |.str a,.str b=>a==b
 |_,_=>false
theorem JE_     (ry:RelV y u)(rx:RelV x v)(fy:X5 y=true)(fx:X5 x=true):SeqAt.EqAt A s u v (eqV y x):=by
 cases y with
 |non=>
  cases ry
  cases x with
  |non=>cases rx;exact SeqAt.EqAt.same _
  |bl b=>cases rx;exact SeqAt.EqAt.none_bool b
  |int b=>obtain⟨t,rfl⟩:=rx;exact SeqAt.EqAt.none_int b t
  |str b=>obtain⟨t,rfl⟩:=rx;exact SeqAt.EqAt.none_str b t
  |_=>exact absurd (show false=true from fx) jm_
 |bl a=>
  cases ry
  cases x with
  |non=>cases rx;exact SeqAt.EqAt.bool_none a
  |bl b=>cases rx;exact SeqAt.EqAt.bool_bool a b
  |int b=>obtain⟨t,rfl⟩:=rx;exact SeqAt.EqAt.bool_int a b t
  |str b=>obtain⟨t,rfl⟩:=rx;exact SeqAt.EqAt.bool_str a b t
  |_=>exact absurd (show false=true from fx) jm_
 |int a=>
  obtain⟨t',rfl⟩:=ry
  cases x with
  |non=>cases rx;exact SeqAt.EqAt.int_none a t'
  |bl b=>cases rx;exact SeqAt.EqAt.int_bool a t' b
  |int b=>obtain⟨t,rfl⟩:=rx;exact SeqAt.EqAt.int_int a t' b t
  |str b=>obtain⟨t,rfl⟩:=rx;exact SeqAt.EqAt.int_str a t' b t
  |_=>exact absurd (show false=true from fx) jm_
 |str a=>
  obtain⟨t',rfl⟩:=ry
  cases x with
  |non=>cases rx;exact SeqAt.EqAt.str_none a t'
  |bl b=>cases rx;exact SeqAt.EqAt.str_bool a t' b
  |int b=>obtain⟨t,rfl⟩:=rx;exact SeqAt.EqAt.str_int a t' b t
  |str b=>obtain⟨t,rfl⟩:=rx;exact SeqAt.EqAt.str_str a t' b t
  |_=>exact absurd (show false=true from fx) jm_
 |_=>exact absurd (show false=true from fy) jm_
theorem Aj:Oi X (.builtin "len") (fun xs H Q=>∃p ys,xs=[.ref p]/\(SqL X.K H p ys\/SqT X.K H p ys)/\Q (.int ys.length) H):=by
 intro pins s σ H xs us Q I r h
 obtain⟨p,ys,rfl,hq,q⟩:=h
 obtain⟨u,rfl,rx⟩:=vals1 r
 cases rx
 have hn:=Eu_
 rcases hq with hq|hq
 ·obtain⟨its,r',pl,hz⟩:=I.list hq
  have hlen:=r'.length
  exact Calls.call_len_list pl.isList (by simp only[jg_]<;>lia) ⟨.int ys.length,H,I.tok _,⟨s.toks+1,by rw[jg_,hlen]⟩,q⟩
 ·obtain⟨its,r',pl,hz⟩:=I.tuple hq
  have hlen:=r'.length
  exact len_tuple pl (by simp only[jg_]<;>lia) ⟨.int ys.length,H,I.tok _,⟨s.toks+1,by rw[jg_,hlen]⟩,q⟩
theorem Mn:Oi X (.type "list") (fun xs H Q=>∃p ys,xs=[.ref p]/\(SqL X.K H p ys\/SqT X.K H p ys)/\∀l,H l=none->Q (.ref l) (upd H l (.lst ys))):=by
 intro pins s σ H xs us Q I r h
 obtain⟨p,ys,rfl,hq,q⟩:=h
 obtain⟨u,rfl,rx⟩:=vals1 r
 cases rx
 have fin:∀(its:List Value),Vals ys its->ys.length<=sizeLine->∀(h':Heap) (c':Nat),(∀b o',s.heap.get? b=some o'->h'.get? b=some o') ->
   h'.get? s.heap.objs.size=some {cls:=.type "list",dict:=none,data:=.seq its.toArray c',slots := #[]}->EP X pins σ Q (.ref s.heap.objs.size) {s with heap:=h' }:=fun its r' hz h' c' kp e=>
  ⟨.ref s.heap.objs.size,_,I.laid (t':=s.toks) kp (jl_ _) (show C3 X.prog X.w _ h' _ (.lst ys) from ⟨hz,its,c',r',e⟩),rfl,q _ (I.hok.fresh (jl_ _))⟩
 rcases hq with hq|hq
 ·obtain⟨its,r',pl,hz⟩:=I.list hq
  have hlen:=r'.length
  obtain⟨o,ho,hc,n,hd⟩:=pl.isList
  exact call_list_seq p (.inl rfl) ho hc hd (fun h' c' kp e=>fin its r' hz h' c' kp e) (by simp only[jg_]<;>lia)
 ·obtain⟨its,r',pl,hz⟩:=I.tuple hq
  have hlen:=r'.length
  obtain⟨o,ho,hc,n,hd⟩:=pl
  exact call_list_seq p (.inr rfl) ho hc hd (fun h' c' kp e=>fin its r' hz h' c' kp e) (by simp only[jg_]<;>lia)
theorem X6:Oi X (.type "tuple") (fun xs H Q=>∃p ys,xs=[.ref p]/\((SqL X.K H p ys/\∀l,H l=none->Q (.ref l) (upd H l (.tup ys)))\/(SqT X.K H p ys/\Q (.ref p) H))):=by
 intro pins s σ H xs us Q I r h
 obtain⟨p,ys,rfl,h⟩:=h
 obtain⟨u,rfl,rx⟩:=vals1 r
 cases rx
 rcases h with ⟨hq,q⟩|⟨hq,q⟩
 ·obtain⟨its,r',pl,hz⟩:=I.list hq
  have hlen:=r'.length
  refine call_tuple_list pl.isList (fun h' kp=>?_) (by simp only[jg_]<;>lia)
  have I1:Inv X pins σ H {s with heap:=h' }:=I.kept (t':=s.toks) kp
  have I2:Inv X pins σ (upd H h'.objs.size (.tup ys)) {s with heap:=h'.push {cls:=.type "tuple",data:=.seq its.toArray} }:=
   I1.laid (t':=s.toks) (fun b o e=>jd_ _ e) (jl_ _) (show C3 X.prog X.w _ _ _ (.tup ys) from ⟨hz,its,r',IsTup.new _ _⟩)
  exact⟨.ref h'.objs.size,_,I2,rfl,q _ (I1.hok.fresh (jl_ _))⟩
 ·obtain⟨its,r',pl,hz⟩:=I.tuple hq
  exact call_tuple_same pl ⟨.ref p,H,I,rfl,q⟩
noncomputable def tyV (K:α3)(T:String)(x:V)(H:Hp):Prop:=match x with
 |.str _=>T = "str"
 |.int _=>T = "int"
 |.ref p=>(T = "list" /\ ∃xs,SqL K H p xs)\/(T = "tuple" /\ ∃o,K.lookup p=some o/\o.cls=.type "tuple" /\ o.dict=none) \/
   (T = "dict" /\ ((∃kvs,H p=some (.dK kvs)) \/ ∃kvs,H p=some (.dT kvs)))\/(T = "set" /\ ∃S n,H p=some (.set S n))
 |_=>False
theorem JF_        (I:Inv X pins σ H s)(r:RelV x v)(ty:tyV X.K T x H):
  s.TypeIs v T/\∀a,v=.ref a->∃ob,s.heap.get? a=some ob/\ob.dict=none:=by
 cases x with
 |str z=>
  obtain⟨t,rfl⟩:=r
  cases (show T = "str" from ty)
  exact⟨typeIs_str s z t,fun _ e=>nomatch e⟩
 |int i=>
  obtain⟨t,rfl⟩:=r
  cases (show T = "int" from ty)
  exact⟨typeIs_int s i t,fun _ e=>nomatch e⟩
 |ref p=>
  cases r
  rcases ty with ⟨rfl,xs,hq⟩|⟨rfl,o,hk,hc,hd⟩|⟨rfl,hk⟩|⟨rfl,S,n,hk⟩
  ·obtain⟨its,_,pl,_⟩:=I.list hq
   refine⟨pl.isList.typeIs,fun a e=>?_⟩
   cases e
   obtain⟨o,n,e,c,hd,_⟩:=pl
   exact⟨o,e,hd⟩
  ·refine⟨⟨o,I.kIn p o hk,hc⟩,fun a e=>?_⟩
   cases e
   exact⟨o,I.kIn _ o hk,hd⟩
  ·have z:∃o,s.heap.get? p=some o/\o.ExactDict:=by
    rcases hk with ⟨kvs,hk⟩|⟨kvs,hk⟩
    ·obtain⟨_,_,_,_,o,_,_,e,ex,_⟩:=I.hok p _ hk
     exact⟨o,e,ex⟩
    ·obtain⟨_,_,_,_,o,_,_,e,ex,_⟩:=I.hok p _ hk
     exact⟨o,e,ex⟩
   obtain⟨o,e,ex⟩:=z
   refine⟨⟨o,e,ex.1⟩,fun a e2=>?_⟩
   cases e2
   exact⟨o,e,ex.2.1⟩
  ·obtain⟨o,_,_,_,e,ex,_⟩:=I.hok p _ hk
   refine⟨⟨o,e,ex.1⟩,fun a e2=>?_⟩
   cases e2
   exact⟨o,e,ex.2.1⟩
 |_=>exact False.elim ty
noncomputable def tBM0 (K:α3)(T:String)(r:V->List V->Hp->VK->Prop)(to:TE):TE:=fun σ H Q=>to σ H fun x H1=>tyV K T x H1/\r x [] H1 Q
noncomputable def tBM (K:α3)(T:String)(r:V->List V->Hp->VK->Prop)(to:TE)(t:TA):TE:=fun σ H Q=>to σ H fun x H1=>tyV K T x H1/\t σ H1 fun xs H2=>r x xs H2 Q
variable {o e:Expr} {es:List Expr} {to:TE} {t:TA} {name:Str} {apos cpos:Pos} {T id:String} {r:V->List V->Hp->VK->Prop}
theorem JG_ (pa:PlainAttrs T)(slot:Slot T name id)(hty:typeOf (.builtin id)=pure (.type "method_descriptor"))(hm:MtR X id r)(ho:PE X o to)
  (hbase:attributeBase o name X.env (eval o X.env)=eval o X.env:=by rfl) (hline:(apos.endLine==cpos.line)=true:=by rfl):PE X (.Call (.Attribute o name apos) [] [] cpos) (tBM0 X.K T r to):=by
 intro pins s σ H Q I h
 refine xK_ hbase hline (thn (ho pins s σ H _ I h) fun v s1 ⟨x,H1,I1,r1,ty,q1⟩=>?_)
 obtain⟨h1,h2⟩:=JF_ I1 r1 ty
 exact⟨T,id,pa,slot,hty,h1,h2,qN_ rfl (ze_ (hm pins s1 σ H1 x [] v [] Q I1 r1 .nil q1))⟩
theorem U3 (pa:PlainAttrs T)(slot:Slot T name id)(hty:typeOf (.builtin id)=pure (.type "method_descriptor"))(hm:MtR X id r)(ho:PE X o to)(ha:PA X (e::es) t)
  (hbase:attributeBase o name X.env (eval o X.env)=eval o X.env:=by rfl)
  (hfew:((backTo cpos (starEach (e::es) X.env)).all (fun x => !x.1)&&(backToKw cpos (keywordEach [] X.env)).all (fun x=>x.1.isSome)
   && decide ((e::es).length+([]:List Keyword).length+(if ([]:List Keyword).isEmpty then 0 else 1)<30))=true:=by rfl)
  (hline:(apos.endLine==cpos.line)=true:=by rfl) (hs:starEach (e::es) X.env=(false,eval e X.env)::starEach es X.env:=by rfl) (hplain:(backTo cpos (starEach es X.env)).any (·.1)=false:=by rfl):
  PE X (.Call (.Attribute o name apos) (e::es) [] cpos) (tBM X.K T r to t):=by
 intro pins s σ H Q I h
 refine wpAny_Call_method_late hbase hfew hline rfl (thn (ho pins s σ H _ I h) fun v s1 ⟨x,H1,I1,r1,ty,q1⟩=>?_)
 obtain⟨h1,h2⟩:=JF_ I1 r1 ty
 refine⟨T,id,pa,slot,hty,h1,h2,?_⟩
 have hA:=ha cpos pins s1 σ H1 _ I1 q1
 rw[hs]at hA ⊢
 refine qN_ (by show (false||(backTo cpos (starEach es X.env)).any (·.1))=false;rw[hplain]<;>rfl) (xv_ ?_)
 exact thn hA fun us s2 ⟨vs,H2,I2,r2,q2⟩=>hm pins s2 σ H2 x vs v us Q I2 r1 r2 q2
/- xs.append(e),list.index on a module's tuple .. are MtR facts of 06m -/
end
end L2
namespace L2
open PySem PySem.Spec PyProof.Rows
noncomputable def MtM (X:Cx)(id:String)(r:V->List V->Hp->VK->Prop):Prop:=
 ∀(pins:α7) (s:Shared) (σ:St) (H:Hp) (x:V) (xs:List V) (v:Value) (us:List Value) (Q:VK),Inv X pins σ H s->RelV x v->Vals xs us->r x xs H Q ->
  wpAny (model X.prog X.w) X.A (call (.builtin id) (v::us)) (EP X pins σ Q) X.xe s
theorem Vals.one:∀{x:V} {us:List Value},Vals [x] us->∃u,us=[u]/\RelV x u
 |_,_,.cons r .nil=>⟨_,rfl,r⟩
theorem Vals.zero:∀{us:List Value},Vals [] us->us=[]
 |_,.nil=>rfl
theorem Vals.eraseIdx:∀{xs:List V} {us:List Value} (i:Nat),Vals xs us->Vals (xs.eraseIdx i) (us.eraseIdx i)
 |_,_,_,.nil=>.nil
 |_,_,0,.cons _ t=>t
 |_,_,i+1,.cons r t=>.cons r (Vals.eraseIdx i t)
theorem AT_ {α:Type}:∀(l:List α) (i:Nat),(l.eraseIdx i).length<=l.length
 |[],_=>jl_ _
 |_::_,0=>Nat.le_succ _
 |_::r,i+1=>Nat.succ_le_succ (AT_ r i)
section
variable {X:Cx} {pins:α7} {σ:St} {H:Hp} {s:Shared} {l b:Addr} {xs ys zs:List V}
theorem Inv.lset {its its':List Value}{n:Nat}{f:Array Value->Array Value}{t':Nat}(I:Inv X pins σ H s)(hH:H l=some (.lst xs))
  (e:s.heap.get? l=some {cls:=.type "list",data:=.seq its.toArray n}) (hf:f its.toArray=its'.toArray) (hv:Vals ys its') (hz:ys.length<=sizeLine):
  Inv X pins σ (upd H l (.lst ys)) {s with heap:=s.heap.update l (Obj.mapSeq f),toks:=t' }:=by
 have q:=PySem.IsL.update e f
 rw[hf]at q
 refine I.write (x:=l) (e:=l) (by rw[hH];exact trivial) (.inl rfl) (fun b' u hb hu=>(qk_ s.heap (Obj.mapSeq f) (qj_ hb)).trans hu) ⟨_,q⟩ ?_
 exact⟨hz,its',_,hv,q⟩
theorem Inv.lnew   (I:Inv X pins σ H s)(hv:Vals ys its)(hz:ys.length<=sizeLine):
  Inv X pins σ (upd H s.heap.objs.size (.lst ys)) {s with heap:=s.heap.push {cls:=.type "list",data:=.seq its.toArray},toks:=t' }:=
 I.laid (fun _ _ q=>jd_ _ q) (jl_ _) ⟨hz,its,0,hv,jo_ _ rfl⟩
theorem Inv.fresh (I:Inv X pins σ H s):H s.heap.objs.size=none:=I.hok.fresh (jl_ _)
theorem Inv.lstM (I:Inv X pins σ H s)(hH:H l=some (.lst xs)):xs.length<=sizeLine/\∃(its:List Value) (n:Nat),Vals xs its/\xs.length=its.length/\s.heap.get? l=some {cls:=.type "list",data:=.seq its.toArray n}:=by
 obtain⟨z,its,n,r,e⟩:=I.hok l _ hH
 exact⟨z,its,n,r,r.length,e⟩
end
section
variable {X:Cx}
noncomputable def GL_:V->List V->Hp->VK->Prop:=fun x vs H Q=>∃l xs y,x=.ref l/\vs=[y]/\H l=some (.lst xs)/\xs.length<sizeLine/\Q .non (upd H l (.lst (xs++[y])))
theorem GO:MtM X "list.append" GL_:=by
 intro pins s σ H x vs v us Q I rx rv h
 obtain⟨l,xs,y,rfl,rfl,hH,hz,q⟩:=h
 cases rx
 obtain⟨u,rfl,ru⟩:=rv.one
 obtain⟨z,its,n,r,hl,e⟩:=I.lstM hH
 refine call_meets F.slot_list_append ⟨_,e,rfl⟩ F.entry_list_append (F.args_list_append_2 _ _) (PySem.list_append l its.toArray n u (by rw[jg_];lia)) ⟨e,?_⟩
 refine⟨.non,_,I.lset (its':=its++[u]) hH e (by simp) (r.append (.cons ru .nil)) ?_,rfl,q⟩
 rw[jj_,jp_]
 lia
noncomputable def JH_:V->List V->Hp->VK->Prop:=fun x vs H Q=>∃l xs i k y,x=.ref l/\vs=[.int i]/\H l=some (.lst xs) /\ -(2 ^ 63)<=i/\i<2 ^ 63/\seqIndex? i xs.length=some k/\xs[k]?=some y/\Q y (upd H l (.lst (xs.eraseIdx k)))
theorem IA_:MtM X "list.pop" JH_:=by
 intro pins s σ H x vs v us Q I rx rv h
 obtain⟨l,xs,i,k,y,rfl,rfl,hH,h1,h2,hk,hy,q⟩:=h
 cases rx
 obtain⟨u,rfl,ru⟩:=rv.one
 obtain⟨t,rfl⟩:=ru
 obtain⟨z,its,n,r,hl,e⟩:=I.lstM hH
 obtain⟨w,hw,rw'⟩:=r.get hy
 refine call_meets F.slot_list_pop ⟨_,e,rfl⟩ F.entry_list_pop (F.args_list_pop_2 _ _)
  (MeetsSeq.list_pop_at l its.toArray n i t k w (fitsIndex_both h1 h2) (by rw[jg_,<-hl];exact hk) (by rw[<-qn_];exact hw) (by rw[jg_];lia)) ⟨e,?_⟩
 refine⟨y,_,I.lset (its':=its.eraseIdx k) hH e ?_ (r.eraseIdx k) ?_,rw',q⟩
 ·show its.toArray.eraseIdxIfInBounds k=(its.eraseIdx k).toArray
  rw[List.eraseIdxIfInBounds_toArray]
 ·have:=AT_ xs k
  lia
noncomputable def JI_:V->List V->Hp->VK->Prop:=fun x vs H Q=>∃l xs,x=.ref l/\vs=[]/\H l=some (.lst xs)/\Q .non (upd H l (.lst []))
theorem Ew_:MtM X "list.clear" JI_:=by
 intro pins s σ H x vs v us Q I rx rv h
 obtain⟨l,xs,rfl,rfl,hH,q⟩:=h
 cases rx
 have hus:=rv.zero
 subst hus
 obtain⟨z,its,n,r,hl,e⟩:=I.lstM hH
 refine call_meets F.slot_list_clear ⟨_,e,rfl⟩ F.entry_list_clear (F.args_list_clear_1 _) (AutoSeq1.list_clear_list_0 l its.toArray n (by rw[jg_];lia)) ⟨e,?_⟩
 exact⟨.non,_,I.lset (its':=[]) (ys:=[]) hH e rfl .nil (qp_ _),rfl,q⟩
noncomputable def rCat:R2:=fun x y H Q=>∃l b xs zs,x=.ref l/\y=.ref b/\H l=some (.lst xs)/\H b=some (.lst zs)/\xs.length+zs.length<=sizeLine/\∀p,H p=none->Q (.ref p) (upd H p (.lst (xs++zs)))
theorem Me_:OpR X (binaryOp .Add) rCat:=by
 intro pins s σ H x y v u Q I rx ry h
 obtain⟨l,b,xs,zs,rfl,rfl,hH,hB,hz,q⟩:=h
 cases rx
 cases ry
 obtain⟨z,its,n,r,hl,e⟩:=I.lstM hH
 obtain⟨z2,its2,n2,r2,hl2,e2⟩:=I.lstM hB
 refine PySem.P.add_list e e2 ?_ (by rw[jg_,jg_];lia)
 have ea:its.toArray++its2.toArray=(its++its2).toArray:=by simp
 rw[ea]
 exact⟨.ref _,_,I.lnew (t':=s.toks) (r.append r2) (by rw[jj_];lia),rfl,q _ I.fresh⟩
end
end L2
namespace Att
open PySem PySem.W PySem.Calls PyProof.Rows
theorem U4   : ∀(ns:α2) (vs:List Value),WellAll P h vs (ns.map WData.int)->IntsAre vs ns:=by
 intro ns
 induction ns with
 |nil=>
  intro vs w
  rw[zi_]at w
  cases w
  exact .nil
 |cons n ns ih=>
  intro vs w
  rw[jQ_]at w
  cases w with
  |cons a b=>
   cases a
   exact .cons _ _ (ih _ b)
theorem GM_ {l:OpenLaw}{n:Nat}(hn:l.most=some n){P:Params}{h:Heap}{args:List WData}{vals:List Value}
  (hpre:l.row.toRowW.claim.pre args=true) (hwl:WellAll P h vals args):
  ∃a vs ns,vals=[Value.ref a]/\args=[WData.list (ns.map WData.int)]/\h.get? a=some {cls:=.type "list",data:=.seq vs.toArray}/\IntsAre vs ns/\ns.length<=n:=by
 have hsh:WShape.hasAll [] args [.list .int]=true:=(pre_splitW hpre).1
 have hc:l.pre.holds [] {args:=args}=true:=(pre_splitW hpre).2
 obtain⟨d,r,rfl,h1,h2⟩:=hasAllW_cons hsh
 obtain rfl:=hasAllW_nil h2
 obtain⟨xs,rfl,h3⟩:=hasW_list h1
 obtain⟨ns,rfl⟩:=items_int h3
 have hlen:ns.length<=n:=by
  unfold OpenLaw.pre at hc
  have h4:(WTm.not (.lt (.lit (.int (n:Int))) (.len (.arg 0)))).holds [] {args:=[.list (ns.map .int)]}=true:=by
   have h4:=(holds_andW hc).1
   rw[hn]at h4
   exact h4
  have h5:=condW_of h4 (w_not (w_lt w_lit (w_len_list (w_arg rfl))))
  rw[jb_]at h5
  refine Nat.le_of_not_lt fun q=>?_
  have q':(n:Int)<((ns.length:Nat):Int):=by lia
  first
   | (rw[jR_ q']at h5;exact absurd h5 (by decide))
   | (simp at h5;lia)
 cases hwl with
 |cons w1 w2=>
  cases w2
  cases w1 with
  |list ho hall=>exact⟨_,_,ns,rfl,rfl,ho,U4 ns _ hall,hlen⟩
theorem GN_ (l:OpenLaw)(args:List WData):l.row.toRowW.claim.post args (.bool true) args=true:=
 postW_of (r:=l.row.toRowW) (X:=(true==true))
  (show WShape.has [] (.bool true) .bool=true by first|rfl|decide|simp[WShape.has,WShape.arms,WShape.armsAll])
  (show (WTm.eq .res (.lit (.bool true))).value [] {args:=args,res:=some (.bool true),after:=args}=some (.bool (true==true)) from w_eq_bool (w_res rfl) w_lit) rfl
theorem attach_call {l:OpenLaw}{n:Nat}{q:Program}{loose:List Str}{XP:(Str->α5)->Heap->Prop}{YP:World->Heap->Prop}{d:DefRec}
  (hn:l.most=some n) (hdf:d.params.defaults=[])
  (call:∀(w:World) (s₀ s₁:Shared) (mg mb:Str->α5) (fa:Addr) (o:Obj) (pm cd doc:Value) (a:Addr) (vs:List Value) (ns:α2),
   Ground q loose [] XP w s₀ mg mb s₁.heap->YP w s₁.heap ->
   s₁.heap.get? fa=some o->o.data=.func (docDef d.name d.params d.body d.scope pm cd doc)->s₁.heap.CodeRec cd d.name->mg d.name=some (.ref fa) ->
   s₁.heap.get? a=some {cls:=.type "list",data:=.seq vs.toArray}->IntsAre vs ns->ns.length<=n->s₁.gens = #[] ->
   codeAny (model l.prog w) callerA (.call (.ref fa) ⟨[.ref a],[]⟩) (fun r s'=>r=.ok (.ret (.bool true))/\OldK s₁.heap s'.heap/\s'.os=s₁.os/\AllBare s'.gens) s₁):
  WalkO q loose XP YP l.row.toRowW d [] (fun f vs=>PySem.call f vs):=by
 intro w s₀ s₁ mg mb G Y fa o pm cd doc dV kV ho hd hcd hD hmg hg args vals as hpre hlay hrd hwl hlo
 obtain rfl:dV=.none:=Dflts.none hD hdf
 obtain rfl:kV=.none:=Dflts.noKw hD
 obtain⟨a,vs,ns,rfl,rfl,hobj,hints,hlen⟩:=GM_ hn hpre hwl
 refine enter_call (codeAny_mono (call w s₀ s₁ mg mb fa o pm cd doc a vs ns G Y ho (fd_plain hd) hcd hmg hobj hints hlen hg) fun r s' hq=>?_)
 obtain⟨rfl,h2,h3,h4⟩:=hq
 exact⟨.inl ⟨.bool true,.bool true,[],rfl,fun _=>rfl,.bool true,GN_ l _,fun _=>⟨List.Pairwise.nil,fun _ hm=>(nomatch hm)⟩⟩,h2,h3,h4⟩
end Att
namespace L2
open PySem PySem.Spec PyProof.Rows
theorem AU_:∀{vs:List Value} {ns:α2},IntsAre vs ns->Vals (ns.map V.int) vs
 |_,_,.nil=>.nil
 |_,_,.cons n t h=>.cons ⟨t,rfl⟩ (AU_ h)
noncomputable def Only (H:Hp):Prop:=∀b,H b=none \/ ∃o xs,H b=some (.frz o (.lst xs))
theorem IB_   {K:α3}
  (KX:K.In s₁.heap) (hns:s₁.heap.Ns mainGlobals mg) (hb:s₁.heap.Ns builtinsNs mb) (hbb:∀x:Str,x ≠ "__name__" -> mb x=bootBuiltins x) (hlim:s₁.heap.NoLimit) (hg:s₁.gens = #[])
  (ha:s₁.heap.get? a=some {cls:=.type "list",data:=.seq vs.toArray}) (hi:IntsAre vs ns) (hl:ns.length<=sizeLine) (hr:Room k callerA)
  (F:∀base:Heap,K.In base->base.Ns mainGlobals mg->FnOk P w K mg base CX k fa fd [x] sp) (hbind:∀(s:Shared) (u:Value),BindsTo s fd ⟨[u],[]⟩ [(x,u)])
  (hsp:∀H:Hp,Only H->SqL K H a (ns.map V.int)->sp [.ref a] H (fun v _=>v=.bl true) fun _ _ _=>False)
  (hCX:∀H e s',CX [] H s₁ (fun _ _ _=>False) e s'->False):
  codeAny (model P w) callerA (.call (.ref fa) ⟨[.ref a],[]⟩) (fun r s'=>r=.ok (.ret (.bool true))/\OldK s₁.heap s'.heap/\s'.os=s₁.os/\AllBare s'.gens) s₁:=by
 have rv:=AU_ hi
 have lenV:=hi.length
 -- from an abstract heap in which nothing but the script may be tracked
 have core:∀H:Hp,Only H->SqL K H a (ns.map V.int)->HOk P w H s₁.heap->(∀b,H b≠none->b=a)->(H a≠none->K.lookup a=none) ->
   codeAny (model P w) callerA (.call (.ref fa) ⟨[.ref a],[]⟩) (fun r s'=>r=.ok (.ret (.bool true))/\OldK s₁.heap s'.heap/\s'.os=s₁.os/\AllBare s'.gens) s₁:=by
  intro H hO hS hok hA hK
  have base_of:∀{b:Addr} {o:Obj},s₁.heap.get? b=some o->H b=none->(hidT s₁.heap H).get? b=some o:=fun e n=>Iq_ e n
  have noA:∀{b:Addr} {o:Obj} {es:Array DictEntry} {ep:Nat},s₁.heap.get? b=some o->o.data=.dict es ep->H b=none:=fun {b o es ep} e d=>by
   cases q:H b with
   |none=>rfl
   |some u=>
    have e':b=a:=hA b (by rw[q];simp)
    subst e'
    rw[ha]at e;cases e
    have d':Data.seq vs.toArray _=Data.dict es ep:=d
    cases d'
  have nsK:∀{b:Addr} {m:Str->α5},s₁.heap.Ns b m->(hidT s₁.heap H).Ns b m:=fun {b m} ⟨o,es,ep,e,d,r⟩=>⟨o,es,ep,base_of e (noA e d),d,r⟩
  have hKb:K.In (hidT s₁.heap H):=fun b o e=>base_of (KX b o e) (by
   cases q:H b with
   |none=>rfl
   |some u=>
    have e':b=a:=hA b (by rw[q];simp)
    subst e'
    rw[hK (by rw[q];simp)]at e;cases e)
  have hM:Mod K mg (hidT s₁.heap H):=⟨hKb,nsK hns,⟨mb,nsK hb,hbb⟩,let ⟨mc,h1,h2⟩:=hlim;⟨mc,nsK h1,h2⟩⟩
  have e0:Env0 P w K mg (hidT s₁.heap H) callerA [] s₁ H:=⟨rfl,hM,fun b o e=>KM_ e,Nat.le_of_eq (Gl_ _ _),trivial,fun b hb=>absurd (show b∈([]:List Addr) from hb) (by simp),hok,.of_eq hg⟩
  refine codeAny_mono ((F _ hKb (nsK hns)).run callerA [] s₁ H ⟨[.ref a],[]⟩ [.ref a] [.ref a] _ _ hr e0 (hbind s₁ (.ref a)) (.cons rfl .nil) (hsp H hO hS)) fun r s' h=>?_
  cases r with
  |error e=>exact (hCX H e s' h).elim
  |ok fl=>
   cases fl with
   |next=>exact False.elim h
   |brk=>exact False.elim h
   |cont=>exact False.elim h
   |ret u=>
    obtain⟨v,H',os,bare,un,hok',r',q⟩:=h
    have q':v=.bl true:=q
    subst q'
    obtain rfl:u=Value.bool true:=r'
    refine⟨rfl,OldK.of_keep fun b o e=>?_,os,bare⟩
    cases q:H b with
    |none=>exact un.keep b o e q (by intro z;exact absurd (show b∈([]:List Addr) from z) (by simp)) (by simp)
    |some u=>
     rcases hO b with z|⟨ob,xs,z⟩
     ·rw[q]at z;cases z
     ·have z2:=un.frzs b ob _ z
      obtain⟨e1,_⟩:=hok b _ z
      obtain⟨e2,_⟩:=hok' b _ z2
      rw[e]at e1;cases e1
      exact e2
 cases hk:K.lookup a with
 |some o=>
  -- the script is one of the module's own objects
  have e:=KX a o hk
  rw[ha]at e
  cases e
  refine core (fun _=>none) (fun _=>.inl rfl) (.inr ⟨_,vs.toArray,_,hk,rfl,rfl,rfl,by rw[jg_,lenV];exact hl,by simpa using rv⟩) (fun b u z=>by have z':(none:Option HO)=some u:=z;cases z') (fun b z=>absurd rfl z) fun z=>absurd rfl z
 |none=>
  refine core (fun b=>if b=a then some (.frz {cls:=.type "list",data:=.seq vs.toArray} (.lst (ns.map V.int))) else none) (fun b=>?_) (.inl (.inr ⟨{cls:=.type "list",data:=.seq vs.toArray},if_pos rfl⟩)) (fun b u z=>?_) (fun b z=>?_) fun _=>hk
  ·by_cases hb:b=a
   ·exact .inr ⟨_,_,if_pos hb⟩
   ·exact .inl (if_neg hb)
  ·by_cases hb:b=a
   ·have z':=(if_pos hb).symm.trans z
    cases z'
    subst hb
    exact⟨ha,by rw[jb_];exact hl,vs,_,rv,ha⟩
   ·have z':=(if_neg hb).symm.trans z
    cases z'
  ·by_cases hb:b=a
   ·exact hb
   ·exact absurd (if_neg hb) z
theorem walk_of {l:PySem.W.OpenLaw}{n k:Nat}{q:Program}{loose:List Str}{XP:(Str->α5)->Heap->Prop}{YP:World->Heap->Prop}{d:DefRec}{K:Params->α3}{CX:World->CXT}{sp:World->Sp}{x:Str}
  (hn:l.most=some n) (hn2:n<=sizeLine) (hdf:d.params.defaults=[]) (hr:Room k callerA)
  (hY:∀(w:World) (h:Heap),YP w h->(K w.params).In h)
  (F:∀(w:World) (mg:Str->α5) (fa:Addr) (h:Heap),(K w.params).In h->h.Ns mainGlobals mg->mg d.name=some (.ref fa) ->
   ∃fd:α6,(∀(s:Shared) (u:Value),BindsTo s fd ⟨[u],[]⟩ [(x,u)]) /\
    ∀base:Heap,(K w.params).In base->base.Ns mainGlobals mg->FnOk l.prog w (K w.params) mg base (CX w) k fa fd [x] (sp w))
  (hsp:∀(w:World) (H:Hp) (a:Addr) (ns:α2),ns.length<=n->Only H->SqL (K w.params) H a (ns.map V.int)->sp w [.ref a] H (fun v _=>v=.bl true) fun _ _ _=>False)
  (hCX:∀(w:World) (H:Hp) (s:Shared) (e:Value) (s':Shared),CX w [] H s (fun _ _ _=>False) e s'->False):
  PySem.W.WalkO q loose XP YP l.row.toRowW d [] (fun f vs=>PySem.call f vs):=by
 refine Att.attach_call hn hdf fun w s₀ s₁ mg mb fa o pm cd doc a vs ns G Y ho hd hcd hmg hobj hints hlen hg=>?_
 have KX:=hY w _ Y
 obtain⟨fd,hb,hF⟩:=F w mg fa _ KX G.T.g hmg
 exact IB_ KX G.T.g G.T.b G.T.builtins G.T.nolimit hg hobj hints (qi_ hlen hn2) hr hF hb (fun H hO hS=>hsp w H a ns hlen hO hS) fun H e s'=>hCX w H s₁ e s'
noncomputable def Bu (s:Stmt)(j:Nat):Stmt:=match s with
 |.ClassDef _ _ _ body _ _ _ _ _ _ _=>body.getD j (.Pass ⟨0,0,0,0⟩)
 |_=>.Pass ⟨0,0,0,0⟩
noncomputable def Ak (s:Stmt):Arguments:=match s with
 |.FunctionDef _ a _ _ _ _ _ _ _ _=>a
 |_=>{posonlyargs:=[],args:=[],vararg:=none,kwonlyargs:=[],kw_defaults:=[],kwarg:=none,defaults:=[]}
noncomputable def Ai (s:Stmt):List Stmt:=match s with
 |.FunctionDef _ _ b _ _ _ _ _ _ _=>b
 |_=>[]
noncomputable def Ad (s:Stmt):Scope:=match s with
 |.FunctionDef _ _ _ _ _ _ sc _ _ _=>sc
 |_=>{kind:=.function,names:=[],isGenerator:=false,isCoroutine:=false}
noncomputable abbrev CX0:CXT:=fun _ _ _ _ _ _=>False
noncomputable abbrev E0:XK:=fun _ _ _=>False
theorem AM  : Ml CX0 X E0:=fun _ _ _ _ _ _ _ h=>h.elim
structure Fun (K:α3)(x qual:Str)(st:Stmt)(f:Addr)(fd:α6):Prop where
 ex:∃(oc:Value) (od:Option Addr) (kV doc pm:Value) (an:Option Addr) (cdv ct:Value) (osl:Array (α5)),
  fd=fnOf x qual (Ak st) (Ai st) (Ad st) .none kV doc pm an cdv ct/\K.lookup f=some ⟨oc,od,.func fd,osl⟩/\codeIn K cdv qual=true
 kp:keepIn K (.ref f)=true
section
variable {P:Program} {w:World} {K:α3} {mg:Str->α5} {base:Heap}
theorem Fun.ok  {st:Stmt}      (F:Fun K x qual st f fd)(S:FnScope N ps (Ad st))(len:∀vs H Q E,sp vs H Q E->vs.length=ps.length)
  (hbody:∀(cdv:Value) (A:Around) (outer:List Env) (s:Shared) (H:Hp) (vs:List V) (Q:VK) (E:XK),Room k (A.deeper (envOfC qual (Ad st) s.heap.objs.size f cdv))->sp vs H Q E ->
   ∃t,PSs (cxOf CX0 P w K mg base N qual (Ad st) f cdv A outer s H E).nox (Ai st) t/\t {nx:=fun _ H'=>Q .non H',rt:=Q} (start N vs) H):FnOk P w K mg base CX0 (k+1) f fd ps sp:=by
 obtain⟨oc,od,kV,doc,pm,an,cdv,ct,osl,rfl,lk,hcd⟩:=F.ex
 refine Ma_ lk hcd S len fun A outer s H vs Q E hr hsp=>?_
 obtain⟨t,h,q⟩:=hbody cdv A outer s H vs Q E hr hsp
 exact⟨t,h.nox,q⟩
theorem Fun.binds  {st:Stmt}    (F:Fun K x qual st f fd)
  (h:∀(kV doc pm:Value) (an:Option Addr) (cdv ct:Value) (us:List Value),us.length=ps.length->bindArgs (fnOf x qual (Ak st) (Ai st) (Ad st) .none kV doc pm an cdv ct) ⟨us,[]⟩=pure (ps.zip us)):Binds K fd ps []:=by
 obtain⟨oc,od,kV,doc,pm,an,cdv,ct,osl,rfl,lk,hcd⟩:=F.ex
 exact .all (h kV doc pm an cdv ct)
theorem AI  {st:Stmt}     {kV doc pm cdv ct:Value}(l:K.lookup f=some ⟨oc,od,.func (fnOf x qual (Ak st) (Ai st) (Ad st) .none kV doc pm an cdv ct),osl⟩)
  (c:codeIn K cdv qual=true) (k:keepIn K (.ref f)=true):Fun K x qual st f (fnOf x qual (Ak st) (Ai st) (Ad st) .none kV doc pm an cdv ct):=⟨⟨oc,od,kV,doc,pm,an,cdv,ct,osl,rfl,l,c⟩,k⟩
end
theorem IU   (hr:Room k A):A.units+1<cLine:=Nat.lt_of_le_of_lt (Nat.add_le_add_left (by decide:1<=64) _) hr.units
section
variable {X:Cx}
theorem pv (i:Nat)   (hN:X.N[i]?=some x:=by rfl)(hv:Vis X.env.scope x:=by first|exact Or.inl rfl|exact Or.inr (Or.inl rfl)|exact Or.inr (Or.inr rfl))(hd:(x==("__debug__" : Str))=false:=by decide)
  (hcd:(x==("__classdict__" : Str))=false:=by decide):PE X (.Name x pos) (tVar i):=LO_ hN hv hd hcd
end
theorem ite2 {c A B:Prop}[Decidable c](h1:c->A)(h2:¬ c->B):if c then A else B:=by
 by_cases h:c
 ·rw[if_pos h]
  exact h1 h
 ·rw[if_neg h]
  exact h2 h
noncomputable def Same (H H':Hp):Prop:=∀b o,H b=some o->H' b=some o
theorem Same.refl (H:Hp):Same H H:=fun _ _ h=>h
theorem Same.trans {H H1 H2:Hp}(a:Same H H1)(b:Same H1 H2):Same H H2:=fun c o h=>b c o (a c o h)
theorem Same.free  (e:Same H H')  (h:H' l=Option.none):H l=Option.none:=by
 cases q:H l with
 |none=>rfl
 |some o=>
  rw[e l o q]at h
  cases h
theorem Same.seq {K:α3}    (e:Same H H')(h:SqL K H a xs):SqL K H' a xs:=by
 rcases h with (h|⟨o,h⟩)|h
 ·exact .inl (.inl (e _ _ h))
 ·exact .inl (.inr ⟨o,e _ _ h⟩)
 ·exact .inr h
end L2
set_option maxHeartbeats 4000000
namespace L2
open PySem PySem.Spec PyProof.Rows
section
variable {κ:Type} [DecidableEq κ]
noncomputable def valV (kvs:List (κ×V))(k:κ):Option V:=(kvs.find? fun kv=>decide (kv.1=k)).map (·.2)
noncomputable def putK (kvs:List (κ×V))(k:κ)(v:V):List (κ×V):=
 if (kvs.any fun kv=>decide (kv.1=k))=true then kvs.map (fun kv=>if kv.1=k then (kv.1,v) else kv) else kvs++[(k,v)]
theorem X7 {p:κ×V}{r:List (κ×V)}{k:κ}(e:p.1=k):valV (p::r) k=some p.2:=by simp[valV,qS_,e]
theorem X8 {p:κ×V}{r:List (κ×V)}{k:κ}(e:¬ p.1=k):valV (p::r) k=valV r k:=by simp[valV,qS_,e]
theorem KR (k:κ):∀kvs:List (κ×V),(kvs.any fun kv=>decide (kv.1=k))=(valV kvs k).isSome
 |[]=>rfl
 |p::r=>by
  rw[List.any_cons]
  by_cases e:p.1=k
  ·simp only[X7 e,jR_ e,Bool.true_or,q4_]
  ·rw[X8 e,jY_ e,Bool.false_or];exact KR k r
theorem U5 (kvs:List (κ×V))(k:κ)(v:V):(putK kvs k v).length<=kvs.length+1:=by
 unfold putK
 split
 ·rw[jb_];lia
 ·rw[jj_,jL_,xd_];lia
theorem IC_ {kvs:List (κ×V)}{k:κ}(v:V)(h:valV kvs k=none):putK kvs k v=kvs++[(k,v)]:=by
 unfold putK
 rw[KR,h]
 exact if_neg (by decide)
theorem RelO.isSome_eq   (r:RelO o u):o.isSome=u.isSome:=by
 cases o with
 |none=>cases u with
  |none=>rfl
  |some _=>exact (show False from r).elim
 |some _=>cases u with
  |none=>exact (show False from r).elim
  |some _=>rfl
theorem RelO.getD     (r:RelO o u)(rd:RelV d d'):RelV (o.getD d) (u.getD d'):=by
 cases o with
 |none=>cases u with
  |none=>exact rd
  |some _=>exact (show False from r).elim
 |some _=>cases u with
  |none=>exact (show False from r).elim
  |some _=>exact r
theorem KV.val   (r:KV kvs vs)(k:κ):RelO (valV kvs k) (valueAt vs k):=by
 unfold KV at r
 induction r with
 |nil=>exact True.intro
 |@cons p q ps qs h t ih=>
  obtain⟨h1,h2⟩:=h
  by_cases e:p.1=k
  ·have e':q.1=k:=h1.symm.trans e
   have b:valueAt (q::qs) k=some q.2:=by simp[valueAt,qS_,e']
   rw[X7 e,b];exact h2
  ·have e':¬ q.1=k:=fun z=>e (h1.trans z)
   have b:valueAt (q::qs) k=valueAt qs k:=by simp[valueAt,qS_,e']
   rw[X8 e,b];exact ih
theorem KV.any   (r:KV kvs vs)(k:κ):(kvs.any fun kv=>decide (kv.1=k))=vs.any fun kv=>decide (kv.1=k):=by
 unfold KV at r
 induction r with
 |nil=>rfl
 |cons h t ih=>rw[List.any_cons,List.any_cons,ih,h.1]
theorem KV.repl   (r:KV kvs vs)(k:κ)   (ry:RelV y u):
  KV (kvs.map fun kv=>if kv.1=k then (kv.1,y) else kv) (vs.map fun kv=>if kv.1=k then (kv.1,u) else kv):=by
 unfold KV at r ⊢
 induction r with
 |nil=>exact .nil
 |@cons p q ps qs h t ih=>
  rw[jQ_,jQ_]
  refine .cons ?_ ih
  obtain⟨h1,h2⟩:=h
  by_cases e:p.1=k
  ·rw[if_pos e,if_pos (h1.symm.trans e)];exact⟨h1,ry⟩
  ·rw[if_neg e,if_neg (fun z=>e (h1.trans z))];exact⟨h1,h2⟩
theorem KV.put   (r:KV kvs vs)(k:κ)   (ry:RelV y u):KV (putK kvs k y) (stored vs k u):=by
 unfold putK stored
 rw[r.any k]
 by_cases e:(vs.any fun kv=>decide (kv.1=k))=true
 ·rw[if_pos e,if_pos e];exact r.repl k ry
 ·rw[if_neg e,if_neg e];exact Paired.snoc r ⟨rfl,ry⟩
theorem KV.length {kvs:List (κ×V)}{vs:List (κ×Value)}(r:KV kvs vs):kvs.length=vs.length:=x9_ r
end
theorem Fu_     (r:RelV (kV k) u):(ED P w).is k u=true:=by
 cases k with
 |inl i=>obtain⟨t,e⟩:=(show ∃t,u=Value.int i t from r);subst e;exact CU_ P w i t
 |inr x=>obtain⟨t,e⟩:=(show ∃t,u=Value.str x t from r);subst e;exact CV_ P w x t
theorem AV_ {P:Program}{w:World}:∀{ks:List Key} {us:List Value},Vals (ks.map kV) us->ItemsAre (ED P w) ks us
 |[],_,r=>by rw[zi_]at r;cases r;exact .nil
 |k::ks,_,r=>by
  rw[jQ_]at r
  cases r with
  |cons h t=>exact .cons (Fu_ h) (AV_ t)
noncomputable abbrev KT (H:Hp):List (List Key×V)->List (List Key×Addr×Value)->Prop:=Paired fun p q=>p.1=q.1/\H q.2.1=some (.tup (p.1.map kV))/\RelV p.2 q.2.2
theorem KT.val    (r:KT H kvs xs)(k:List Key):RelO (valV kvs k) ((atKey xs k).map (·.2)):=by
 induction r with
 |nil=>exact True.intro
 |@cons p q ps qs h t ih=>
  obtain⟨h1,_,h2⟩:=h
  by_cases e:p.1=k
  ·have e':q.1=k:=h1.symm.trans e
   have b:atKey (q::qs) k=some q.2:=by simp[atKey,qS_,e']
   rw[X7 e,b];exact h2
  ·have e':¬ q.1=k:=fun z=>e (h1.trans z)
   have b:atKey (q::qs) k=atKey qs k:=by simp[atKey,qS_,e']
   rw[X8 e,b];exact ih
theorem KT.repl    (r:KT H kvs xs)(k:List Key)   (ry:RelV y u):
  KT H (kvs.map fun kv=>if kv.1=k then (kv.1,y) else kv) (xs.map (putAt k u)):=by
 induction r with
 |nil=>exact .nil
 |@cons p q ps qs h t ih=>
  rw[jQ_,jQ_]
  refine .cons ?_ ih
  obtain⟨h1,h2,h3⟩:=h
  unfold putAt
  by_cases e:p.1=k
  ·rw[if_pos e,if_pos (h1.symm.trans e)];exact⟨h1,h2,ry⟩
  ·rw[if_neg e,if_neg (fun z=>e (h1.trans z))];exact⟨h1,h2,h3⟩
theorem KT.put    (r:KT H kvs xs)(k:List Key)    (hb:H b=some (.tup (k.map kV)))(ry:RelV y u):
  KT H (putK kvs k y) (storedH xs k b u):=by
 have e:(kvs.any fun kv=>decide (kv.1=k))=(atKey xs k).isSome:=by
  rw[KR,(r.val k).isSome_eq,Option.isSome_map]
 unfold putK storedH
 rw[e]
 by_cases q:(atKey xs k).isSome=true
 ·rw[if_pos q,if_pos q];exact r.repl k ry
 ·rw[if_neg q,if_neg q];exact Paired.snoc r ⟨rfl,hb,ry⟩
theorem KT.keeps    (r:KT H kvs xs)(ht:∀b ys,H b=some (.tup ys)->H' b=some (.tup ys)):KT H' kvs xs:=
 Paired.mapP r fun _ _ z=>⟨z.1,ht _ _ z.2.1,z.2.2⟩
section
variable {P:Program} {w:World} {H:Hp} {h:Heap} {a:Addr}
theorem ID_  (ok:HOk P w H h)(e:Rd H a u):C3 P w H h a u:=e.ok ok
theorem CY_  (ok:HOk P w H h)(e:Rd H a (.dK kvs)):kvs.length<=sizeLine/\(a==sysModules)=false/\∃vs,KV kvs vs/\h.DictOf (ED P w) a vs:=
 show C3 P w H h a (.dK kvs) from ID_ ok e
theorem Nq_  (ok:HOk P w H h)(e:H a=some (.dK kvs)):kvs.length<=sizeLine/\(a==sysModules)=false/\∃vs,KV kvs vs/\h.DictOf (ED P w) a vs:=CY_ ok (.inl e)
theorem XG  (ok:HOk P w H h)(e:H a=some (.tup (ks.map kV))):(tupleKind (ED P w)).is h ks a:=by
 obtain⟨_,its,r,o,h1,h2,n,h3⟩:=(show C3 P w H h a (.tup (ks.map kV)) from ok a _ e)
 exact⟨o,its.toArray,n,h1,h2,h3,by simpa using AV_ r⟩
theorem CZ_  (ok:HOk P w H h)(e:Rd H a (.dT kvs)):kvs.length<=sizeLine/\(a==sysModules)=false /\
  ∃xs,KT H kvs xs/\h.DictOfH (tupleKind (ED P w)) a xs:=by
 obtain⟨z,y,xs,r,o,es,ep,h1,h2,h3,h4,h5⟩:=(show C3 P w H h a (.dT kvs) from ID_ ok e)
 refine⟨z,y,xs,r,o,es,ep,h1,h2,h3,h4,fun x hx=>?_,h5⟩
 have all:∀{l:List (List Key×V)} {m:List (List Key×Addr×Value)},KT H l m->∀x∈m,(tupleKind (ED P w)).is h x.1 x.2.1:=by
  intro l m q
  induction q with
  |nil=>intro x hx;exact nomatch hx
  |@cons p q ps qs hq t ih=>
   intro x hx
   rcases jA_.mp hx with e|hx
   ·subst e
    exact XG ok (by rw[<-hq.1];exact hq.2.1)
   ·exact ih x hx
 exact all r x hx
theorem Nr_  (ok:HOk P w H h)(e:H a=some (.dT kvs)):kvs.length<=sizeLine/\(a==sysModules)=false /\
  ∃xs,KT H kvs xs/\h.DictOfH (tupleKind (ED P w)) a xs:=CZ_ ok (.inl e)
end
noncomputable def DGet (H:Hp)(a:Addr)(y:V)(r:Option V):Prop:=
 (∃kvs k,Rd H a (.dK kvs)/\y=kV k/\r=valV kvs k) \/ ∃kvs k b,Rd H a (.dT kvs)/\y=.ref b/\H b=some (.tup (k.map kV))/\r=valV kvs k
noncomputable def DPut (H:Hp)(a:Addr)(y v:V)(H':Hp):Prop:=
 (∃kvs k,H a=some (.dK kvs)/\y=kV k/\kvs.length<sizeLine/\H'=upd H a (.dK (putK kvs k v))) \/
 ∃kvs k b,H a=some (.dT kvs)/\y=.ref b/\H b=some (.tup (k.map kV))/\kvs.length<sizeLine/\H'=upd H a (.dT (putK kvs k v))
theorem DGet.t     (e:H a=some (.dT kvs))(eb:H b=some (.tup (k.map kV))):DGet H a (.ref b) (valV kvs k):=.inr ⟨kvs,k,b,.inl e,rfl,eb,rfl⟩
theorem DPut.t      (e:H a=some (.dT kvs))(eb:H b=some (.tup (k.map kV)))(hl:kvs.length<sizeLine):
  DPut H a (.ref b) v (upd H a (.dT (putK kvs k v))):=.inr ⟨kvs,k,b,e,rfl,eb,hl,rfl⟩
section
variable {X:Cx} {pins:α7} {σ:St} {H:Hp} {s:Shared} {a:Addr} {y v:V} {u r:Value} {o:Option V} {A:Around} {E:Value->Shared->Prop}
theorem Inv.big (I:Inv X pins σ H s):sysModules<s.heap.objs.size:=by
 have h:mainGlobals<s.heap.objs.size:=(I.mod.glob.keeps I.bk).lt
 exact Nat.lt_trans (by decide) h
theorem GO_  (hu:A.units+1<cLine)(I:Inv X pins σ H s)(g:DGet H a y (some v))(ry:RelV y u)(h:∀w' s',Inv X pins σ H s'->RelV v w'->Q w' s'):
  wpAny (model X.prog X.w) A (getItem (.ref a) u) Q E s:=by
 rcases g with ⟨kvs,k,e,ey,l⟩|⟨kvs,k,b,e,ey,eb,l⟩
 ·subst ey
  obtain⟨z,hd,vs,rel,dd⟩:=CY_ I.hok e
  obtain⟨w',hw,rw'⟩:=RelO.some_of (v:=v) (o:=valueAt vs k) (by rw[l];exact rel.val k)
  exact wpAny_getItem_of (Fu_ ry) dd.mapOf hw (h w' _ (I.tok _) rw')
 ·subst ey
  cases (show u=Value.ref b from ry)
  obtain⟨z,hd,xs,rel,dd⟩:=CZ_ I.hok e
  obtain⟨w',hw,rw'⟩:=RelO.some_of (v:=v) (o:=(atKey xs k).map (·.2)) (by rw[l];exact rel.val k)
  obtain⟨p,hp,hp2⟩:=Option.map_eq_some_iff.mp hw
  refine wpAny_getItem_heap (xq_ hu) (XG I.hok eb) dd hp ?_
  rw[hp2]
  exact h w' _ (I.tok _) rw'
theorem d_in  (hu:A.units+1<cLine)(I:Inv X pins σ H s)(g:DGet H a y o)(ry:RelV y u)(h:∀s',Inv X pins σ H s'->Q (.bool o.isSome) s'):
  wpAny (model X.prog X.w) A (compareOp .In u (.ref a)) Q E s:=by
 rcases g with ⟨kvs,k,e,ey,l⟩|⟨kvs,k,b,e,ey,eb,l⟩
 ·subst ey
  obtain⟨z,hd,vs,rel,dd⟩:=CY_ I.hok e
  refine wpAny_in_of (Fu_ ry) hd dd.mapOf ?_
  rw[<-(rel.val k).isSome_eq,<-l]
  exact h _ (I.tok _)
 ·subst ey
  cases (show u=Value.ref b from ry)
  obtain⟨z,hd,xs,rel,dd⟩:=CZ_ I.hok e
  refine wpAny_in_heap (xq_ hu) (XG I.hok eb) hd dd ?_
  have q:=(rel.val k).isSome_eq
  rw[Option.isSome_map]at q
  rw[<-q,<-l]
  exact h _ (I.tok _)
theorem Da_    (I:Inv X pins σ H s)(mu:Mut (H a))(hs:Heap.SameBut a s.heap h')(he:∃q,h'.get? a=some q)(new:C3 X.prog X.w (upd H a ob) h' a ob):
  Inv X pins σ (upd H a ob) {s with heap:=h',toks:=t' }:=
 I.write (x:=a) (e:=a) mu (.inl rfl) (fun b q hb z=>(hs.2 b hb).trans z) he new
theorem Mf_       (z:kvs.length<=sizeLine)(hd:(a==sysModules)=false)(rel:KV kvs vs)(dd:h'.DictOf (ED P w) a vs):
  C3 P w H' h' a (.dK kvs):=⟨z,hd,vs,rel,dd⟩
theorem GP_   (hu:A.units+1<cLine)(I:Inv X pins σ H s)(g:DPut H a y v H')(ry:RelV y u)(rv:RelV v r)(h:∀s',Inv X pins σ H' s'->Q () s'):
  wpAny (model X.prog X.w) A (setItem (.ref a) u r) Q E s:=by
 rcases g with ⟨kvs,k,e,ey,l,eH⟩|⟨kvs,k,b,e,ey,eb,l,eH⟩
 ·subst ey eH
  obtain⟨z,hd,vs,rel,dd⟩:=Nq_ I.hok e
  have hz:vs.length<=sizeLine:=by rw[<-rel.length];exact z
  have hl:(putK kvs k v).length<=sizeLine:=by have:=U5 kvs k v;lia
  refine wpAny_setItem_pairs (hsz:=hz) (Fu_ ry) dd fun h' dd' hs=>h _ ?_
  have he:∃q,h'.get? a=some q:=let ⟨q,_,_,hq,_⟩:=dd';⟨q,hq⟩
  exact Da_ I (by rw[e];exact True.intro) hs he (Mf_ hl hd (rel.put k rv) dd')
 ·subst ey eH
  cases (show u=Value.ref b from ry)
  obtain⟨z,hd,xs,rel,dd⟩:=Nr_ I.hok e
  have hz:xs.length<=sizeLine:=by rw[<-x9_ rel];exact z
  have hl:(putK kvs k v).length<=sizeLine:=by have:=U5 kvs k v;lia
  refine wpAny_setItem_heap (hsz:=hz) (xq_ hu) (XG I.hok eb) dd fun h' dd' hs=>h _ ?_
  obtain⟨q,es,ep,hq,h2,h3,h4,_,h5⟩:=dd'
  refine Da_ I (by rw[e];exact True.intro) hs ⟨q,hq⟩ ⟨hl,hd,_,(rel.put k eb rv).keeps fun c ys ec=>?_,q,es,ep,hq,h2,h3,h4,h5⟩
  rw[Ag (Nm_ ec e (fun z=>nomatch z))]
  exact ec
end
noncomputable def NoSl (i:Expr):Prop:=∀ov iv,subscripted i false ov iv=operate [ov,iv] (getItem ov iv)
theorem KV_         {T id:String}
  (hl:typeLookup (.type T) "__getitem__"=pure (some (.builtin id))) (hs:NoSl slice)
  (h:wpAny (model prog w) A (eval value env) (fun o s₁=>wpAny (model prog w) A (eval slice env) (fun i s₂=>s₂.TypeIs o T/\wpAny (model prog w) A (getItem o i) Q E s₂) E s₁) E s):
  wpAny (model prog w) A (eval (.Subscript value slice pos) env) Q E s:=by
 refine Subscript_ (qH_ h (fun o s₁ h₁=>qH_ h₁ (fun i s₂ h₂=>?_) fun _ _ x=>x) fun _ _ x=>x)
 obtain⟨hT,h₂⟩:=h₂
 unfold subscriptTail
 refine ja_ ?_
 rw[getitemInPython_of_ne hT.not_modules]
 refine ja_ (wpAny_specialOf hT hl ?_)
 have fin:wpAny (model prog w) A (subscripted slice false o i) (fun r s₃=>wpAny (model prog w) A (letTemporaryGo value o r >>= fun _=>pure r) Q E s₃) E s₂:=by
  rw[hs o i]
  exact wpAny_operating (qH_ h₂ (fun r s₃ h₃=>ja_ (wpAny_letTemporaryGo (je_ h₃))) fun _ _ x=>x)
 first
  | exact je_ (ja_ fin)
  | exact ja_ (je_ (ja_ fin))
  | exact ja_ fin
theorem Db_         (I:Inv X pins σ H s)(g:DGet H a y o):s.TypeIs (.ref a) "dict" := by
 rcases g with ⟨kvs,k,e,_,_⟩|⟨kvs,k,b,e,_,_,_⟩
 ·obtain⟨_,_,vs,_,dd⟩:=CY_ I.hok e
  exact dd.typeIs
 ·obtain⟨_,_,xs,_,dd⟩:=CZ_ I.hok e
  exact dd.typeIs
noncomputable def Mg_ (td ty:TE):TE:=fun σ H Q=>td σ H fun x H1=>ty σ H1 fun y H2=>∃a v,x=.ref a/\DGet H2 a y (some v)/\Q v H2
noncomputable def tDIn (ty td:TE):TE:=fun σ H Q=>ty σ H fun y H1=>td σ H1 fun x H2=>∃a o,x=.ref a/\DGet H2 a y o/\Q (.bl o.isSome) H2
noncomputable def Mh_ (td ty tv:TE):TS:=fun D σ H=>tv σ H fun v H1=>td σ H1 fun x H2=>ty σ H2 fun y H3=>∃a H4,x=.ref a/\DPut H3 a y v H4/\D.nx σ H4
section
variable {X:Cx} {o i e value:Expr} {pos pos' tpos:Pos} {td ty tv:TE}
theorem Mo (hu:X.A.units+1<cLine)(ho:PE X o td)(hi:PE X i ty)(hs:NoSl i):PE X (.Subscript o i pos) (Mg_ td ty):=by
 intro pins s σ H Q I h
 refine KV_ PySem.F.slot_dict_getitem.lookup hs (thn (ho pins s σ H _ I h) fun u s1 ⟨x,H1,I1,rx,q1⟩=>thn (hi pins s1 σ H1 _ I1 q1) fun iv s2 ⟨y,H2,I2,ry,a,v,ex,g,q2⟩=>?_)
 subst ex
 obtain rfl:u=Value.ref a:=rx
 exact⟨Db_ I2 g,GO_ hu I2 g ry fun w' s3 I3 rw'=>⟨v,H2,I3,rw',q2⟩⟩
theorem GQ_ (hu:X.A.units+1<cLine)(hi:PE X i ty)(ho:PE X o td):PC X .In i o (tDIn ty td):=by
 intro pins s σ H Q I h
 refine thn (hi pins s σ H _ I h) fun iv s1 ⟨y,H1,I1,ry,q1⟩=>thn (ho pins s1 σ H1 _ I1 q1) fun u s2 ⟨x,H2,I2,rx,a,ov,ex,g,q2⟩=>?_
 subst ex
 obtain rfl:u=Value.ref a:=rx
 exact d_in hu I2 g ry fun s3 I3=>⟨.bl ov.isSome,H2,I3,rfl,q2⟩
theorem KS (hu:X.A.units+1<cLine)(ho:PE X o td)(hi:PE X i ty)(hv:PE X value tv)(hs:swapsWith value (some (.Subscript o i pos')) pos.line X.env=pure false):
  PS X (.Assign [.Subscript o i pos'] value pos) (Mh_ td ty tv):=by
 intro pins s σ H D I h
 refine wpAny_Assign_Subscript (thn (hv pins s σ H _ I h) fun r s1 ⟨v,H1,I1,rv,q1⟩=>thn (ho pins s1 σ H1 _ I1 q1) fun u s2 ⟨x,H2,I2,rx,q2⟩=>thn (hi pins s2 σ H2 _ I2 q2) fun iv s3 ⟨y,H3,I3,ry,a,H4,ex,g,q3⟩=>?_) hs
 subst ex
 obtain rfl:u=Value.ref a:=rx
 exact GP_ hu I3 g ry rv fun s4 I4=>⟨σ,H4,I4,q3⟩
end
theorem IE_    (h:Heap)(hb:sysModules<h.objs.size):C3 P w H (h.push {cls:=.type "dict",data:=.dict #[]}) h.objs.size (.dT []):=
 ⟨qp_ _,xh_.mpr (qj_ (jF_ hb)),[],.nil,_,#[],0,jo_ _ rfl,⟨rfl,rfl,rfl⟩,rfl,rfl,xw_⟩
noncomputable def JJ_:TE:=fun _ H Q=>∀p,H p=none->Q (.ref p) (upd H p (.dT []))
section
variable {X:Cx} {pos:Pos}
theorem KU:PE X (.Dict [] [] pos) JJ_:=fun pins s σ H Q I h=>
 wpAny_Dict_empty ⟨.ref s.heap.objs.size,_,I.laid (a:=s.heap.objs.size) (o:=.dT []) (t':=s.toks) (fun _ _ q=>jd_ _ q) (jl_ _) (IE_ s.heap I.big),rfl,h _ (I.hok.fresh (jl_ _))⟩
end
structure M1 (X:Cx)(o:Expr)(m:Str)(apos:Pos)(e:Expr)(cpos:Pos):Prop where
 base:attributeBase o m X.env (eval o X.env)=eval o X.env
 few:((backTo cpos (starEach [e] X.env)).all (fun x => !x.1)&&(backToKw cpos (keywordEach [] X.env)).all (fun x=>x.1.isSome)
  && decide (([e]:List Expr).length+([]:List Keyword).length+(if ([]:List Keyword).isEmpty then 0 else 1)<30))=true
 line:(apos.endLine==cpos.line)=true
 trees:backTo cpos (starEach [e] X.env)=[(false,eval e X.env)]
structure M2 (X:Cx)(o:Expr)(m:Str)(apos:Pos)(e f:Expr)(cpos:Pos):Prop where
 base:attributeBase o m X.env (eval o X.env)=eval o X.env
 few:((backTo cpos (starEach [e,f] X.env)).all (fun x => !x.1)&&(backToKw cpos (keywordEach [] X.env)).all (fun x=>x.1.isSome)
  && decide (([e,f]:List Expr).length+([]:List Keyword).length+(if ([]:List Keyword).isEmpty then 0 else 1)<30))=true
 line:(apos.endLine==cpos.line)=true
 trees:backTo cpos (starEach [e,f] X.env)=[(false,eval e X.env),(false,eval f X.env)]
noncomputable def IsD (H:Hp)(a:Addr):Prop:=(∃kvs,Rd H a (.dK kvs)) \/ ∃kvs,Rd H a (.dT kvs)
theorem JK_       (I:Inv X pins σ H s)(d:IsD H a):
  s.TypeIs (.ref a) "dict" /\ (∀b,Value.ref a=.ref b->∃ob,s.heap.get? b=some ob/\ob.dict=none)/\(a==sysModules)=false:=by
 rcases d with ⟨kvs,e⟩|⟨kvs,e⟩
 ·obtain⟨_,hd,vs,_,dd⟩:=CY_ I.hok e
  refine⟨dd.typeIs,fun b q=>?_,hd⟩
  cases q
  obtain⟨ob,_,_,h1,h2,_⟩:=dd
  exact⟨ob,h1,h2.2.1⟩
 ·obtain⟨_,hd,xs,_,dd⟩:=CZ_ I.hok e
  refine⟨dd.typeIs,fun b q=>?_,hd⟩
  cases q
  obtain⟨ob,_,_,h1,h2,_⟩:=dd
  exact⟨ob,h1,h2.2.1⟩
section
variable {X:Cx} {pins:α7} {σ:St} {H:Hp} {s:Shared} {a:Addr} {y d:V} {u r:Value} {o:Option V} {A:Around} {E:Value->Shared->Prop}
theorem Mi_  (hu:A.units+1<cLine)(I:Inv X pins σ H s)(g:DGet H a y o)(ry:RelV y u)(h:∀w' s',Inv X pins σ H s'->RelV (o.getD .non) w'->Q w' s'):
  wpAny (model X.prog X.w) A (call (.builtin "dict.get") [.ref a,u]) Q E s:=by
 rcases g with ⟨kvs,k,e,ey,l⟩|⟨kvs,k,b,e,ey,eb,l⟩
 ·subst ey
  obtain⟨z,hd,vs,rel,dd⟩:=CY_ I.hok e
  refine call_meetsIn qT_ dd.typeIs xn_ (PySem.F.args_dict_get_2 _ _) (meets_dict_get (ED X.prog X.w) a (Fu_ ry) hd) ⟨_,dd.mapOf,h _ _ (I.tok _) ?_⟩
  rw[l]
  exact (rel.val k).getD rfl
 ·subst ey
  cases (show u=Value.ref b from ry)
  obtain⟨z,hd,xs,rel,dd⟩:=CZ_ I.hok e
  refine call_meetsIn qT_ dd.typeIs xn_ (PySem.F.args_dict_get_2 _ _) (meetsH_dict_get (tupleKind (ED X.prog X.w)) a b hd) ⟨xq_ hu,k,xs,XG I.hok eb,dd,h _ _ (I.tok _) ?_⟩
  rw[l]
  exact (rel.val k).getD rfl
theorem Mj_  (hu:A.units+1<cLine)(I:Inv X pins σ H s)(g:DGet H a y o)(ry:RelV y u)(rd:RelV d r)(h:∀w' s',Inv X pins σ H s'->RelV (o.getD d) w'->Q w' s'):
  wpAny (model X.prog X.w) A (call (.builtin "dict.get") [.ref a,u,r]) Q E s:=by
 rcases g with ⟨kvs,k,e,ey,l⟩|⟨kvs,k,b,e,ey,eb,l⟩
 ·subst ey
  obtain⟨z,hd,vs,rel,dd⟩:=CY_ I.hok e
  refine call_meetsIn qT_ dd.typeIs xn_ (PySem.F.args_dict_get_3 _ _ _) (meets_dict_get_default (ED X.prog X.w) a (Fu_ ry) hd r) ⟨_,dd.mapOf,h _ _ (I.tok _) ?_⟩
  rw[l]
  exact (rel.val k).getD rd
 ·subst ey
  cases (show u=Value.ref b from ry)
  obtain⟨z,hd,xs,rel,dd⟩:=CZ_ I.hok e
  refine call_meetsIn qT_ dd.typeIs xn_ (PySem.F.args_dict_get_3 _ _ _) (meetsH_dict_get_default (tupleKind (ED X.prog X.w)) a b hd r) ⟨xq_ hu,k,xs,XG I.hok eb,dd,h _ _ (I.tok _) ?_⟩
  rw[l]
  exact (rel.val k).getD rd
end
noncomputable def JL_ (td ty:TE):TE:=fun σ H Q=>td σ H fun x H1=>∃a,x=.ref a/\IsD H1 a/\ty σ H1 fun y H2=>∃o,DGet H2 a y o/\Q (o.getD .non) H2
noncomputable def JM_ (td ty tx:TE):TE:=fun σ H Q=>td σ H fun x H1=>∃a,x=.ref a/\IsD H1 a/\ty σ H1 fun y H2=>tx σ H2 fun z H3=>∃o,DGet H3 a y o/\Q (o.getD z) H3
section
variable {X:Cx} {o e f:Expr} {apos cpos:Pos} {td ty tx:TE}
theorem Ex_ (hu:X.A.units+1<cLine)(ho:PE X o td)(he:PE X e ty)(m:M1 X o "get" apos e cpos):PE X (.Call (.Attribute o "get" apos) [e] [] cpos) (JL_ td ty):=by
 intro pins s σ H Q I h
 refine wpAny_Call_method m.base m.few m.line xi_ qT_ PySem.F.type_dict_get (thn (ho pins s σ H _ I h) fun u s1 ⟨x,H1,I1,rx,a,ex,d,q1⟩=>?_)
 subst ex
 obtain rfl:u=Value.ref a:=rx
 obtain⟨t1,t2,_⟩:=JK_ I1 d
 refine⟨t1,t2,?_⟩
 rw[m.trees]
 refine qN_ rfl (xv_ (xI_ (thn (he pins s1 σ H1 _ I1 q1) fun iv s2 ⟨y,H2,I2,ry,ov,g,q2⟩=>Calls.spliced_nil ?_)))
 exact Mi_ hu I2 g ry fun w' s3 I3 rw'=>⟨_,H2,I3,rw',q2⟩
theorem IF_ (hu:X.A.units+1<cLine)(ho:PE X o td)(he:PE X e ty)(hf:PE X f tx)(m:M2 X o "get" apos e f cpos):PE X (.Call (.Attribute o "get" apos) [e,f] [] cpos) (JM_ td ty tx):=by
 intro pins s σ H Q I h
 refine wpAny_Call_method m.base m.few m.line xi_ qT_ PySem.F.type_dict_get (thn (ho pins s σ H _ I h) fun u s1 ⟨x,H1,I1,rx,a,ex,d,q1⟩=>?_)
 subst ex
 obtain rfl:u=Value.ref a:=rx
 obtain⟨t1,t2,_⟩:=JK_ I1 d
 refine⟨t1,t2,?_⟩
 rw[m.trees]
 refine qN_ rfl (xv_ (xI_ (thn (he pins s1 σ H1 _ I1 q1) fun iv s2 ⟨y,H2,I2,ry,q2⟩ =>
  xI_ (thn (hf pins s2 σ H2 _ I2 q2) fun fv s3 ⟨z,H3,I3,rz,ov,g,q3⟩=>Calls.spliced_nil ?_))))
 exact Mj_ hu I3 g ry rz fun w' s4 I4 rw'=>⟨_,H3,I4,rw',q3⟩
end
end L2
namespace L2
open PySem PySem.Spec PyProof.Rows
noncomputable def clOf (env:Env):List (Str×NameKind)->List (Str×Addr)->List (Str×Addr)
 |[],acc=>acc
 | (n,k)::r,acc=>if (k == .free)=true then clOf env r ((n,(env.cells.lookup n).getD 0)::acc) else clOf env r acc
theorem XH   (h:∀p∈scope.names,p.2=.free->∃c,env.cells.lookup p.1=some c):closureFor scope env=pure (clOf env scope.names []):=by
 have go:∀(l:List (Str×NameKind)) (acc:List (Str×Addr)),(∀p∈l,p.2=.free->∃c,env.cells.lookup p.1=some c) ->
   (forIn l acc fun (x:Str×NameKind) (cs:List (Str×Addr))=>(if (x.2 == .free)=true then do let c <- cellOf env x.1;pure (ForInStep.yield ((x.1,c)::cs)) else pure (ForInStep.yield cs):Sem (ForInStep (List (Str×Addr)))))=(pure (clOf env l acc):Sem (List (Str×Addr))):=by
  intro l
  induction l with
  |nil=>intro acc _;rfl
  |cons p r ih=>
   intro acc hl
   obtain⟨n,k⟩:=p
   rw[List.forIn_cons]
   by_cases hk:(k == .free)=true
   ·obtain⟨c,hc⟩:=hl (n,k) jG_ (by simpa using hk)
    have e1:cellOf env n=pure c:=by unfold cellOf;rw[hc]
    have ih':=ih ((n,c)::acc) fun q hq=>hl q (ju_ _ hq)
    show ((if (k == .free)=true then do let c <- cellOf env n;pure (ForInStep.yield ((n,c)::acc)) else pure (ForInStep.yield acc):Sem _) >>= _)=_
    rw[if_pos hk,e1]
    show (forIn r ((n,c)::acc) _:Sem _)=_
    rw[clOf,if_pos hk,hc]
    exact ih'
   ·have ih':=ih acc fun q hq=>hl q (ju_ _ hq)
    show ((if (k == .free)=true then do let c <- cellOf env n;pure (ForInStep.yield ((n,c)::acc)) else pure (ForInStep.yield acc):Sem _) >>= _)=_
    rw[if_neg hk]
    show (forIn r acc _:Sem _)=_
    rw[clOf,if_neg hk]
    exact ih'
 have e:=go scope.names [] h
 unfold closureFor
 show (forIn scope.names [] _ >>= fun cs=>pure cs:Sem _)=_
 have e2:(forIn scope.names [] (fun (x:Str×NameKind) (r:List (Str×Addr))=>(match x with
   | (name,kind)=>if (kind == .free)=true then do let c <- cellOf env name;pure (ForInStep.yield ((name,c)::r)) else do pure PUnit.unit;pure (ForInStep.yield r):Sem (ForInStep (List (Str×Addr))))))=(pure (clOf env scope.names []):Sem (List (Str×Addr))):=e
 exact qU_ (fun z=>z >>= fun cs=>pure cs) e2
theorem X9 {env:Env}:∀(l:List (Str×NameKind)) (acc:List (Str×Addr)),(∀p∈l,p.2=.free->∃c,env.cells.lookup p.1=some c)->(∀q∈acc,env.cells.lookup q.1=some q.2)->∀q∈clOf env l acc,env.cells.lookup q.1=some q.2
 |[],_,_,ha,q,hq=>ha q hq
 | (n,k)::r,acc,hl,ha,q,hq=>by
  unfold clOf at hq
  by_cases hk:(k == .free)=true
  ·rw[if_pos hk]at hq
   obtain⟨c,hc⟩:=hl (n,k) jG_ (by simpa using hk)
   refine X9 r _ (fun p hp=>hl p (ju_ _ hp)) (fun p hp=>?_) q hq
   rcases jA_.mp hp with rfl|hp
   ·show env.cells.lookup n=some ((env.cells.lookup n).getD 0)
    rw[hc];rfl
   ·exact ha p hp
  ·rw[if_neg hk]at hq
   exact X9 r _ (fun p hp=>hl p (ju_ _ hp)) ha q hq
theorem UM {env:Env}:∀(l:List (Str×NameKind)) (acc:List (Str×Addr)) (x:Str),((x,NameKind.free)∈l \/ ∃c,(x,c)∈acc)->∃c,(x,c)∈clOf env l acc
 |[],_,_,h=>by
  rcases h with h|h
  ·cases h
  ·exact h
 | (n,k)::r,acc,x,h=>by
  unfold clOf
  by_cases hk:(k == .free)=true
  ·rw[if_pos hk]
   refine UM r _ x ?_
   rcases h with h|⟨c,h⟩
   ·rcases jA_.mp h with h|h
    ·cases h
     exact .inr ⟨_,jG_⟩
    ·exact .inl h
   ·exact .inr ⟨c,ju_ _ h⟩
  ·rw[if_neg hk]
   refine UM r _ x ?_
   rcases h with h|h
   ·rcases jA_.mp h with h|h
    ·cases h
     exact absurd rfl hk
    ·exact .inl h
   ·exact .inr h
theorem GP {β:Type}:∀{l:List (Str×β)} {x:Str} {c:β},(x,c)∈l->∃c',l.lookup x=some c'
 |[],_,_,h=>by cases h
 | (n,d)::r,x,c,h=>by
  by_cases hx:(x==n)=true
  ·exact⟨d,by rw[qK_,hx]⟩
  ·rcases jA_.mp h with h|h
   ·cases h;exact absurd (beq_self_eq_true _) hx
   ·obtain⟨c',e⟩:=GP h
    exact⟨c',by rw[qK_];simp only[Bool.not_eq_true]at hx;rw[hx];exact e⟩
noncomputable def relF (env:Env):Str×NameKind->Str×NameKind:=fun (n,k)=>if (k==NameKind.free&&env.scope.kind == .function&&env.kindOf n==some .cell) then (n,NameKind.cell) else (n,k)
theorem Ya    (h:(k==NameKind.free&&env.scope.kind == .function&&env.kindOf n==some .cell)=true):relF env (n,k)=(n,.cell):=if_pos h
theorem Dc_    (h:¬ (k==NameKind.free&&env.scope.kind == .function&&env.kindOf n==some .cell)=true):relF env (n,k)=(n,k):=if_neg h
theorem Mp {env:Env}:∀{names:List (Str×NameKind)} {x:Str} {k:NameKind},(∀y∈names,y.2 ≠ .cell) ->
  (names.map (relF env)).lookup x=some k->(k=.cell\/k=.free)->(x,NameKind.free)∈names
 |[],_,_,_,h,_=>by simp at h
 | (n,k')::r,x,k,hc,h,hk=>by
  have ih := @Mp env r x k (fun y hy=>hc y (ju_ _ hy))
  rw[jQ_]at h
  by_cases hb:(k'==NameKind.free&&env.scope.kind == .function&&env.kindOf n==some .cell)=true
  ·rw[Ya hb,qK_]at h
   cases hx:x==n with
   |true=>
    have e:x=n:=by simpa using hx
    subst e
    have e2:k'=.free:=by
     simp only[qJ_]at hb
     simpa using hb.1.1
    subst e2
    exact jG_
   |false=>
    rw[hx]at h
    exact ju_ _ (ih h hk)
  ·rw[Dc_ hb,qK_]at h
   cases hx:x==n with
   |true=>
    rw[hx]at h
    have e:x=n:=by simpa using hx
    subst e
    have e2:k'=k:=jt_ h
    subst e2
    rcases hk with rfl|rfl
    ·exact absurd rfl (hc _ jG_)
    ·exact jG_
   |false=>
    rw[hx]at h
    exact ju_ _ (ih h hk)
theorem Tf {env:Env}:∀{names:List (Str×NameKind)} {x:Str},names.lookup x=some .free ->
  ∃k,(k=NameKind.cell\/k=NameKind.free)/\(names.map (relF env)).lookup x=some k
 |[],_,h=>by simp at h
 | (n,k')::r,x,h=>by
  have ih := @Tf env r x
  rw[qK_]at h
  rw[jQ_]
  cases hx:x==n with
  |true=>
   rw[hx]at h
   have e2:k'=.free:=jt_ h
   subst e2
   by_cases hb:((NameKind.free:NameKind)==NameKind.free&&env.scope.kind == .function&&env.kindOf n==some .cell)=true
   ·exact⟨.cell,.inl rfl,by rw[Ya hb,qK_,hx]⟩
   ·exact⟨.free,.inr rfl,by rw[Dc_ hb,qK_,hx]⟩
  |false=>
   rw[hx]at h
   obtain⟨k,hk,e⟩:=ih h
   refine⟨k,hk,?_⟩
   by_cases hb:(k'==NameKind.free&&env.scope.kind == .function&&env.kindOf n==some .cell)=true
   ·rw[Ya hb,qK_,hx];exact e
   ·rw[Dc_ hb,qK_,hx];exact e
end L2
namespace L2
open PySem PySem.Spec PyProof.Rows
section
variable {prog:Program} {w:World} {A:Around} {R:Result->Shared->Prop} {s:Shared}
theorem AW_ {elt target iter:Expr}    {it acc:Value}  (I:Nat->Shared->Prop)
  (turn:∀n s,I n s->wpAny (model prog w) A (pyNext it) (fun r s₁=>match r with
   |none=>R (.ok .next) s₁
   |some v=>wpAny (model prog w) A (letOwnedTupleGo target it v) (fun _ s₁'=>wpAny (model prog w) A (assign target env v) (fun _ s₂=>
     wpAny (model prog w) A (forIn ifs true fun c r=>if r=true then do let ok <- isTrue c env (eval c env);pure (ForInStep.yield ok) else pure (ForInStep.yield r)) (fun ok s₃=>
      if ok=true then wpAny (model prog w) A (eval elt env) (fun x s₄=>
       wpAny (model prog w) A (call (.builtin "list.append") [acc,x]) (fun _ s₅=>∃m,m<n/\I m s₅) (notedBy (model prog w) A env fun e s'=>R (.error e) s') s₄) (notedBy (model prog w) A env fun e s'=>R (.error e) s') s₃
      else ∃m,m<n/\I m s₃) (notedBy (model prog w) A env fun e s'=>R (.error e) s') s₂) (notedBy (model prog w) A env fun e s'=>R (.error e) s') s₁') (notedBy (model prog w) A env fun e s'=>R (.error e) s') s₁) (notedBy (model prog w) A env fun e s'=>R (.error e) s') s)
  (n:Nat) (h:I n s):
  codeAny (model prog w) A (.compLoop (.ListComp elt [⟨target,iter,ifs,0⟩] scope pos) 0 it acc env) R s:=by
 refine codeAny_loop rfl I (fun n s hI=>?_) n h
 show wpAny _ A ((compTurn (.ListComp elt [⟨target,iter,ifs,0⟩] scope pos) 0 it acc env).onRaise (fun x=>do noteFrame x env;theTreesLotGoes x)) _ _ s
 refine wpAny_noted ?_
 rw[compTurn_list]
 refine ja_ (wpAny_standAt (ja_ (qH_ (turn n s hI) (fun r s₁ h₁=>?_) fun _ _ h'=>h')))
 cases r with
 |none=>exact je_ h₁
 |some v=>
  refine ja_ (qH_ h₁ (fun _ s₁' h₁'=>?_) fun _ _ h'=>h')
  refine ja_ (qH_ h₁' (fun _ s₂ h₂=>ja_ (qH_ h₂ (fun ok s₃ h₃=>?_) fun _ _ h'=>h')) fun _ _ h'=>h')
  cases ok with
  |false=>exact je_ ⟨rfl,h₃⟩
  |true=>
   exact ja_ (ja_ (qH_ h₃ (fun x s₄ h₄=>ja_ (qH_ h₄ (fun _ s₅ h₅=>je_ (je_ ⟨rfl,h₅⟩)) fun _ _ h'=>h')) fun _ _ h'=>h'))
end
noncomputable abbrev Cx.blk (X:Cx)(N:List Str)(sc:Scope)(C:Addr)(s₀:Shared)(H₀:Hp)(ex:List Addr):Cx:=
 {X with N:=N,env:=compEnvC sc (clOf X.env sc.names []) C X.env,outer:=X.stack,s₀:=s₀,H₀:=H₀,ex:=ex,fn:=fun _=>false,pn:=[],xe:=fun _ _=>False}
structure BlkSc (X:Cx)(sc:Scope):Prop where
 kind:sc.kind=.function
 nocell:∀y∈sc.names,y.2 ≠ .cell
 loc:∀y∈sc.names,y.2=.local->sc.names.lookup y.1=some .local
 free:∀y∈sc.names,y.2=.free->X.env.kindOf y.1=some .cell\/X.env.kindOf y.1=some .free
noncomputable abbrev Caps:=List (Str×Option Nat)
noncomputable def Caps.names (c:Caps):List Str:=c.map (·.1)
noncomputable def Caps.st (c:Caps)(σ:St):St:=c.map fun p=>p.2.bind fun j=>(σ[j]?).join
noncomputable def Mq (N:List Str)(sc:Scope):Caps->Prop
 |[]=>True
 | (_,none)::r=>Mq N sc r
 | (x,some j)::r=>(N[j]?=some x/\sc.names.lookup x=some .free)/\Mq N sc r
theorem Mq.get {N:List Str}{sc:Scope}:∀{c:Caps} {i:Nat} {x:Str} {j:Nat},Mq N sc c->c[i]?=some (x,some j)->N[j]?=some x/\sc.names.lookup x=some .free
 |[],_,_,_,_,h=>by simp at h
 | (y,none)::r,0,x,j,_,h=>by simp at h
 | (y,none)::r,i+1,x,j,ok,h=>Mq.get (c:=r) (i:=i) ok (by simpa using h)
 | (y,some k)::r,0,x,j,ok,h=>by
  simp only[xL_,zm_,Prod.mk.injEq]at h
  obtain⟨rfl,rfl⟩:=h
  exact ok.1
 | (y,some k)::r,i+1,x,j,ok,h=>Mq.get (c:=r) (i:=i) ok.2 (by simpa using h)
section
variable {X:Cx} {pins:α7} {σ:St} {H:Hp} {s:Shared} {sc:Scope} {fp:List Addr}
theorem U6 (I:Inv X pins σ H s)(S:BlkSc X sc):∀p∈sc.names,p.2=.free->∃c,X.env.cells.lookup p.1=some c:=fun p hp e=>I.ok.has p.1 (S.free p hp e)
theorem Gn (I:Inv X pins σ H s)(S:BlkSc X sc)   (h:(clOf X.env sc.names []).lookup x=some c):X.env.cells.lookup x=some c:=
 X9 sc.names [] (U6 I S) (fun q hq=>by cases hq) (x,c) (qx_ h)
theorem Mk_ {N:List Str}{C:Addr}(I:Inv X pins σ H s)(S:BlkSc X sc)(hC:s.heap.objs.size<=C)(hf:∀b∈fp,FpOk X pins H b)(ho:∀b∈fp,∃o,s.heap.get? b=some o):(X.blk N sc C s H fp).Ok where
 mod:=I.ok.mod
 kind:=S.kind
 glob:=I.ok.glob
 blt:=I.ok.blt
 above:=hC
 inj:=fun x y c h1 h2=>I.ok.inj x y c (Gn I S h1) (Gn I S h2)
 has:=fun x hx=>by
  have hx':(x,NameKind.free)∈sc.names:=by
   rcases hx with hx|hx
   ·exact Mp (env:=X.env) S.nocell hx (.inl rfl)
   ·exact Mp (env:=X.env) S.nocell hx (.inr rfl)
  obtain⟨c,hc⟩:=UM (env:=X.env) sc.names [] x (.inl hx')
  exact GP hc
 cab:=fun x c h=>absurd (show false=true from h) jm_
 hd:=I.ok.hd
 frames:=I.ok.frames
 stk:=.inl rfl
 exf:=fun b hb=>by
  obtain⟨o,ho⟩:=ho b hb
  refine⟨jF_ (jy_ (jk_ ho) hC),fun x c h=>(hf b hb).2.2.2.2.1 x c (Gn I S h)⟩
 bs:=I.bs
 bsz:=qi_ I.ok.bsz I.sz
 noex:=fun b o e hb=>by
  rcases (hf b hb).2.2.2.1 with z|z
  ·exact I.ok.noex b o e z
  ·exact absurd (jy_ (jk_ (I.ok.bs b o e).1) z) (qf_ _)
 exfs:=fun b hb z=>by
  rcases jA_.mp (I.stkSub b z) with e|e
  ·exact (hf b hb).2.1 e
  ·exact (hf b hb).2.2.1 e
 funs:=I.stack
 frf:=I.stkFree
theorem GR_ {c:Caps}{C:Addr}{s4:Shared}{m:Str->α5}(I:Inv X pins σ H s)(S:BlkSc X sc)(hc:Mq X.N sc c)(hC:s.heap.objs.size<=C)(hf:∀b∈fp,FpOk X pins H b)(ho:∀b∈fp,∃o,s.heap.get? b=some o)
  (hos:s4.os=s.os) (hb:s4.gens=s.gens) (hk:∀b o,s.heap.get? b=some o->s4.heap.get? b=some o) (hn:s4.heap.Ns C m):Inv (X.blk c.names sc C s H fp) [] (c.st σ) H s4 where
 ok:=Mk_ I S hC hf ho
 os:=hos
 bare:=by rw[hb];exact I.bare
 base:=Un.kept hk
 loc:=by
  refine⟨m,hn,fun i x v h1 h2 hv=>?_⟩
  have h1':(c.map (·.1))[i]?=some x:=h1
  have h2':(c.map fun p=>p.2.bind fun j=>(σ[j]?).join)[i]?=some (some v):=h2
  rw[ji_]at h1' h2'
  cases e:c[i]? with
  |none=>rw[e]at h1';cases h1'
  |some p=>
   obtain⟨y,oj⟩:=p
   rw[e]at h1' h2'
   have e1:y=x:=jt_ h1'
   subst e1
   have e2:(oj.bind fun j=>(σ[j]?).join)=some v:=jt_ h2'
   cases oj with
   |none=>cases e2
   |some j=>
    have e3:(σ[j]?).join=some v:=e2
    have e4:σ[j]?=some (some v):=by
     cases q:σ[j]? with
     |none=>rw[q]at e3;cases e3
     |some z=>rw[q]at e3;exact qU_ some e3
    obtain⟨k1,k2⟩:=Mq.get hc e
    have k3:X.env.kindOf y=some .cell\/X.env.kindOf y=some .free:=S.free (y,.free) (qx_ k2) rfl
    have vis:Vis X.env.scope y:=by
     rcases k3 with k|k
     ·exact .inr (.inl k)
     ·exact .inr (.inr k)
    obtain⟨mX,hnX,hl⟩:=I.loc
    obtain⟨u,r,l⟩:=hl j y v k1 e4 vis
    refine⟨u,r,?_⟩
    rcases l with ⟨k,_⟩|⟨_,ca,hca,z⟩
    ·rcases k3 with k' | k'<;>(rw[k]at k';cases k')
    ·obtain⟨kd,hkd,ek⟩:=Tf (env:=X.env) k2
     have hk2:(compEnvC sc (clOf X.env sc.names []) C X.env).kindOf y=some kd:=ek
     obtain⟨c',hc'⟩:=UM (env:=X.env) sc.names [] y (.inl (qx_ k2))
     obtain⟨c2,hc2⟩:=GP hc'
     have e5:=Gn I S hc2
     rw[hca]at e5
     have e6:ca=c2:=jt_ e5
     subst e6
     refine .inr ⟨?_,ca,hc2,?_⟩
     ·rcases hkd with rfl|rfl
      ·exact .inl hk2
      ·exact .inr hk2
     ·obtain⟨oc,hoc,hd⟩:=z
      exact⟨oc,hk _ _ hoc,hd⟩
 cell:=fun x ca h=>by
  obtain⟨v,oc,hoc,hd⟩:=I.cell x ca (Gn I S h)
  exact⟨v,oc,hk _ _ hoc,hd⟩
 free:=I.hok.fresh hC
 freeC:=fun x ca h=>I.freeC x ca (Gn I S h)
 pin:=fun p hp=>absurd (show p∈([]:α7) from hp) (by simp)
 hok:=I.hok.kept hk
 len:=by show (c.map _).length=(c.map _).length;rw[jb_,jb_]
theorem HOk.track       (x:HOk P w H h)(hn:H a=none)(new:C3 P w (upd H a o) h a o):HOk P w (upd H a o) h:=fun b u e=>by
 by_cases hb:b=a
 ·subst hb;rw[Ab]at e;cases e;exact new
 ·rw[Ag hb]at e
  exact (x b u e).stay (fun c v _ q=>q) (fun c q=>by rw[Ag (C2 q hn)];exact q) fun c xs q=>by rw[Ag (C2 q hn)];exact q
theorem Un.track {fs ex:List Addr}{H H':Hp}{h h':Heap}{a:Addr}{o:HO}(u:Un fs ex H H' h h')(ha:h.objs.size<=a)(hn:H' a=none):Un fs ex H (upd H' a o) h h' where
 keep:=u.keep
 slot:=u.slot
 free:=fun b ob q n hx=>by rw[Ag (jF_ (jy_ (jk_ q) ha))];exact u.free b ob q n hx
 there:=u.there
 tups:=fun b xs q=>by rw[Ag (C2 (u.tups b xs q) hn)];exact u.tups b xs q
 frzs:=fun b ob xs q=>by rw[Ag (C2 (u.frzs b ob xs q) hn)];exact u.frzs b ob xs q
 tbls:=fun b ps q=>by
  obtain⟨more,e⟩:=u.tbls b ps q
  exact⟨more,by rw[Ag (C2 e hn)];exact e⟩
theorem KW_ {c:Caps}{C D:Addr}{s':Shared}{σ':St}{H':Hp}{o:HO}(I:Inv X pins σ H s)(J:Inv (X.blk c.names sc C s H fp) [] σ' H' s')(hf:∀b∈fp,FpOk X pins H b)(hD:s.heap.objs.size<=D)(hn:H' D=none)
  (new:C3 X.prog X.w (upd H' D o) s'.heap D o):Inv X pins σ (upd H' D o) s':=by
 have u:Un (frs X.stack) fp H H' s.heap s'.heap:=J.base
 exact I.call' J.os (u.track hD hn) (J.hok.track hn new) J.bare fun b hb=>⟨(hf b hb).2.2.2.1,(hf b hb).2.1,(hf b hb).2.2.2.2.1,(hf b hb).2.2.2.2.2⟩
end
noncomputable def PF (X:Cx)(ifs:List Expr)(t:TT):Prop:=
 ∀(pins:α7) (s:Shared) (σ:St) (H:Hp) (Q:Bool->Hp->Prop),Inv X pins σ H s->t σ H Q ->
  wpAny (model X.prog X.w) X.A (forIn ifs true fun c r=>if r=true then do let ok <- isTrue c X.env (eval c X.env);pure (ForInStep.yield ok) else pure (ForInStep.yield r)) (TP X pins σ Q) X.xe s
noncomputable def KX_:TT:=fun _ H Q=>Q true H
theorem Ln  : PF X [] KX_:=fun _ _ _ H _ I h=>wpAny_tests_nil ⟨H,I,h⟩
theorem Ml_    (h:PT X c t):PF X [c] t:=fun pins s σ H Q I hw=>wpAny_tests_one (h pins s σ H Q I hw)
noncomputable def KY_ (wi:TI)(cp:Caps)(g:TG)(tc:TT)(te:TE):TE:=fun σ H Q=>wi σ H fun J H1=>∃W:Nat->Nat->List V->St->Hp->Prop,(∃m,W 0 m [] (cp.st σ) H1)/\∀i m ys σ' H',W i m ys σ' H' ->
 ys.length<sizeLine/\((J.stop i H'/\∀D,H' D=none->Q (.ref D) (upd H' D (.lst ys)))\/(J.go i H'/\∃N:List V->St->Hp->Prop,(∀zs σ2 H2,N zs σ2 H2->∃m',m'<m/\W (i+1) m' zs σ2 H2)/\∀x H2,J.yld i H' x H2->g x σ' H2 fun σ2 H3=>tc σ2 H3 fun b H4=>
  if b=true then te σ2 H4 fun v H5=>N (ys++[v]) σ2 H5 else N ys σ2 H4))
section
variable {X:Cx} {tg iter elt:Expr} {ifs:List Expr} {sc:Scope} {pos:Pos} {wi:TI} {cp:Caps} {g:TG} {tc:TT} {te:TE}
theorem AX_ (hc:X.calm=true)(S:BlkSc X sc)(hcp:Mq X.N sc cp)
  (hg:∀C s₀ H₀ ex,PG (X.blk cp.names sc C s₀ H₀ ex) tg g) (hf:∀C s₀ H₀ ex,PF (X.blk cp.names sc C s₀ H₀ ex) ifs tc) (he:∀C s₀ H₀ ex,PE (X.blk cp.names sc C s₀ H₀ ex) elt te)
  {pins:α7} {σ:St} {H:Hp} {s:Shared} {J:It} {it:Addr} {fp:List Addr} {tn:Nat->Heap->Prop} {Q:VK} {RR:Value->Addr->Result->Shared->Prop} {E:Value->Shared->Prop}
  (I:Inv X pins σ H s) (T:Turn X.prog X.w X.K tg J fp it tn) (st:tn 0 s.heap) (fpo:∀b∈fp,FpOk X pins H b)
  (hw:∃W:Nat->Nat->List V->St->Hp->Prop,(∃m,W 0 m [] (cp.st σ) H)/\∀i m ys σ' H',W i m ys σ' H' ->
   ys.length<sizeLine/\((J.stop i H'/\∀D,H' D=none->Q (.ref D) (upd H' D (.lst ys)))\/(J.go i H'/\∃N:List V->St->Hp->Prop,(∀zs σ2 H2,N zs σ2 H2->∃m',m'<m/\W (i+1) m' zs σ2 H2)/\∀x H2,J.yld i H' x H2->g x σ' H2 fun σ2 H3=>tc σ2 H3 fun b H4=>
    if b=true then te σ2 H4 fun v H5=>N (ys++[v]) σ2 H5 else N ys σ2 H4)))
  (hR:∀D C s' H' (m:Str->α5),Inv X pins σ H' s'->Q (.ref D) H'->s'.heap.Ns C m->H' C=none->C≠X.env.locals->X.s₀.heap.objs.size<=C->(∀x c,X.env.cells.lookup x=some c->c≠C)->(∀p∈X.pn++pins,p.1≠C)->RR (.ref D) C (.ok .next) s'):
  wpAny (model X.prog X.w) X.A (newList []) (fun acc s₃=>wpAny (model X.prog X.w) X.A (newFunctionEnv sc X.env.globals (clOf X.env sc.names []) [] X.env.qual none .none (some X.env)) (fun cenv s₄=>
   codeAny (model X.prog X.w) X.A (.compStart (.ListComp elt [⟨tg,iter,ifs,0⟩] sc pos) 0 (.ref it) acc {cenv with scope:=relabel sc X.env}) (RR acc cenv.locals) s₄) E s₃) E s:=by
 obtain⟨W,⟨m0,w0⟩,turn⟩:=hw
 refine jN_ (wpAny_newFunctionEnv S.nocell (by intro y hy;simp at hy) (fun h₁ hns₁ hsb₁=>?_) S.kind)
 dsimp only at hns₁ hsb₁ ⊢
 generalize hH2:s.heap.push {cls:=.type "list",dict:=none,data:=.seq ([]:List Value).toArray}=H2 at hns₁ hsb₁ ⊢
 have hC:H2.objs.size=s.heap.objs.size+1:=by rw[<-hH2,qu_]
 have hDC:s.heap.objs.size≠H2.objs.size:=by rw[hC];exact jF_ (Nat.lt_succ_self _)
 have hCle:s.heap.objs.size<=H2.objs.size:=by rw[hC];exact Nat.le_succ _
 have below:∀b,b<s.heap.objs.size->b≠H2.objs.size:=fun b hb=>by rw[hC];exact jF_ (Nat.lt_succ_of_lt hb)
 have old:∀b o,s.heap.get? b=some o->h₁.get? b=some o:=fun b o e=>hsb₁.extBut b o (below b (jk_ e)) (jd_ _ (hH2 ▸ jd_ _ e))
 have hacc:h₁.get? s.heap.objs.size=some {cls:=.type "list",data:=.seq ([]:List Value).toArray 0}:=hsb₁.extBut _ _ hDC (jd_ _ (hH2 ▸ jo_ _ rfl))
 have hst₁:tn 0 h₁:=T.keep 0 _ _ st fun b _ o e=>old b o e
 have hobj:∀b∈fp,∃o,s.heap.get? b=some o:=fun b hb=>let ⟨o,e,_⟩:=T.obj 0 _ st b hb;⟨o,e⟩
 have J0:Inv (X.blk cp.names sc H2.objs.size s H fp) [] (cp.st σ) H {s with heap:=h₁,toks:=s.toks+([]:List (Str×Value)).length}:=GR_ I S hcp hCle fpo hobj rfl rfl old hns₁
 have nfs:∀b,s.heap.objs.size<=b->b∉frs X.stack:=fun b hb z=>by
  rcases jA_.mp (I.stkSub b z) with e|e
  ·exact absurd (jy_ I.lt (by rw[<-e];exact hb)) (qf_ _)
  ·exact I.nofs hb e
 have ncell:∀b,s.heap.objs.size<=b->∀x c,X.env.cells.lookup x=some c->c≠b:=fun b hb x c e z=>by
  obtain⟨v,q⟩:=I.cell x c e
  exact absurd (jy_ q.lt (by rw[z];exact hb)) (qf_ _)
 have fpb:∀{pins':α7} {H':Hp},(∀b∈fp,H' b=none)->(∀p∈pins',p.1∉fp)->∀b∈fp,FpOk (X.blk cp.names sc H2.objs.size s H fp) pins' H' b:=fun {pins' H'} hn hp b hb=>by
  obtain⟨o,e⟩:=hobj b hb
  refine⟨hn b hb,below b (jk_ e),fun z=>?_,.inl hb,fun x c h=>(fpo b hb).2.2.2.2.1 x c (Gn I S h),fun p hp' z=>?_⟩
  ·rcases jA_.mp (I.stkSub b z) with e|e
   ·exact (fpo b hb).2.1 e
   ·exact (fpo b hb).2.2.1 e
  ·have hp'':p∈pins':=by simpa using hp'
   exact hp p hp'' (by rw[z];exact hb)
 have loop:∀s₃:Shared,s₃={s with heap:=h₁,toks:=s.toks+([]:List (Str×Value)).length} ->
   codeAny (model X.prog X.w) X.A (.compLoop (.ListComp elt [⟨tg,iter,ifs,0⟩] sc pos) 0 (.ref it) (.ref s.heap.objs.size) (compEnvC sc (clOf X.env sc.names []) H2.objs.size X.env))
    (RR (.ref s.heap.objs.size) H2.objs.size) s₃:=by
  rintro s₃ rfl
  refine AW_ (fun n s'=>∃i σ' H' ys its k,Inv (X.blk cp.names sc H2.objs.size s H fp) [] σ' H' s'/\tn i s'.heap/\(∀b∈fp,H' b=none)/\H' s.heap.objs.size=none /\
   s'.heap.get? s.heap.objs.size=some {cls:=.type "list",data:=.seq its.toArray k}/\Vals ys its/\W i n ys σ' H') ?_ m0
   ⟨0,_,H,[],[],0,J0,hst₁,fun b hb=>(fpo b hb).1,I.hok.fresh (jl_ _),hacc,.nil,w0⟩
  rintro n s3 ⟨i,σ3,H3,ys,its,k,I3,st3,fr3,hD3,e3,rv,w3⟩
  obtain⟨hz,tr⟩:=turn i n ys σ3 H3 w3
  have hlen:=rv.length
  -- the accumulator stands still while anything else runs
  have dpin:∀p ∈ [(s.heap.objs.size,({cls:=.type "list",data:=.seq its.toArray k}:Obj))],p.1∉fp:=fun p hp z=>by
   have e:p=_:=js_.mp hp
   subst e
   obtain⟨o,e⟩:=hobj _ z
   exact absurd (jk_ e) (qf_ _)
  have I3':Inv (X.blk cp.names sc H2.objs.size s H fp) [(s.heap.objs.size,({cls:=.type "list",data:=.seq its.toArray k}:Obj))] σ3 H3 s3:=I3.pins_of fun p hp=>by
   have e:p=_:=js_.mp hp
   subst e
   exact⟨e3,hD3,hDC,nfs _ (jl_ _),fun v z=>by cases z⟩
  have stat:∀b∈fp,FpOk (X.blk cp.names sc H2.objs.size s H fp) [(s.heap.objs.size,({cls:=.type "list",data:=.seq its.toArray k}:Obj))] H3 b:=fpb fr3 dpin
  rcases tr with ⟨stop,qn⟩|⟨go,N,hN,step⟩
  ·refine thn (T.done (X.blk cp.names sc H2.objs.size s H fp) rfl rfl rfl hc i _ s3 σ3 H3 _ I3' stat st3 stop) fun r s4 ⟨hr,I4⟩=>?_
   subst hr
   obtain⟨e4,n4,_⟩:=I4.pin (s.heap.objs.size,({cls:=.type "list",data:=.seq its.toArray k}:Obj)) (by simp)
   have new:C3 X.prog X.w (upd H3 s.heap.objs.size (.lst ys)) s4.heap s.heap.objs.size (.lst ys):=⟨xE_ hz,its,k,rv,e4⟩
   obtain⟨mC,hnC,_⟩:=I4.loc
   have I4':Inv (X.blk cp.names sc H2.objs.size s H fp) [] σ3 H3 s4:=I4.pins_of fun p hp=>by cases hp
   have I5:=KW_ I I4' fpo (jl_ _) n4 new
   refine hR _ _ s4 _ mC I5 (qn _ n4) hnC ?_ (j1_ (jy_ I.lt hCle)) (qi_ I.sz hCle) (ncell _ hCle) fun p hp z=>?_
   ·rw[Ag (qj_ hDC)];exact I4.free
   ·exact absurd (jy_ (jk_ (I.pin p hp).1) (by rw[z];exact hCle)) (qf_ _)
  ·refine thn (T.item (X.blk cp.names sc H2.objs.size s H fp) rfl rfl rfl hc i _ s3 σ3 H3 _ I3' stat st3 go) fun r s4 ⟨u,hr,h4⟩=>?_
   subst hr
   refine thn h4 fun _ s5 ⟨x,H5,I5,r5,y5,st5,fr5⟩=>?_
   have I5':=I5.pinned (fpb fr5 dpin) (T.obj _ _ st5)
   have fin:∀{σ7:St} {H7:Hp} {s7:Shared},Inv (X.blk cp.names sc H2.objs.size s H fp) ([(s.heap.objs.size,({cls:=.type "list",data:=.seq its.toArray k}:Obj))]++AK_ fp s5.heap) σ7 H7 s7 ->
     s7.heap.get? s.heap.objs.size=some {cls:=.type "list",data:=.seq its.toArray k}/\H7 s.heap.objs.size=none/\(∀b∈fp,H7 b=none)/\∀b∈fp,∀o,s5.heap.get? b=some o->s7.heap.get? b=some o:=fun {σ7 H7 s7} I7=>by
    obtain⟨e7,n7,_⟩:=I7.pin (s.heap.objs.size,({cls:=.type "list",data:=.seq its.toArray k}:Obj)) (by simp)
    refine⟨e7,n7,fun b hb=>?_,fun b hb o e=>?_⟩
    ·obtain⟨o,e,_⟩:=T.obj _ _ st5 b hb
     exact (I7.pin (b,o) (jU_ _ (jU_ _ (Ob hb e)))).2.1
    ·exact (I7.pin (b,o) (jU_ _ (jU_ _ (Ob hb e)))).1
   refine qH_ (hg _ _ _ _ _ s5 σ3 H5 x u _ I5' r5 (step x H5 y5)) (fun _ s6 ⟨σ6,H6,I6,q6⟩=>?_) fun _ _ z=>False.elim z
   refine qH_ (hf _ _ _ _ _ s6 σ6 H6 _ I6 q6) (fun ok s7 ⟨H7,I7,q7⟩=>?_) fun _ _ z=>False.elim z
   cases ok with
   |false=>
    rw[if_neg jm_]
    rw[if_neg jm_]at q7
    obtain⟨m',hm,w7⟩:=hN _ _ _ q7
    obtain⟨e7,n7,fr7,k7⟩:=fin I7
    exact⟨m',hm,i+1,σ6,H7,ys,its,k,I7.pins_of (fun p hp=>by cases hp),T.keep _ _ _ st5 k7,fr7,n7,e7,rv,w7⟩
   |true=>
    rw[if_pos rfl]
    rw[if_pos rfl]at q7
    refine qH_ (he _ _ _ _ _ s7 σ6 H7 _ I7 q7) (fun v s8 ⟨y,H8,I8,r8,q8⟩=>?_) fun _ _ z=>False.elim z
    obtain⟨m',hm,w8⟩:=hN _ _ _ q8
    obtain⟨e8,n8,fr8,k8⟩:=fin I8
    refine call_meets F.slot_list_append ⟨_,e8,rfl⟩ F.entry_list_append (F.args_list_append_2 _ _) (PySem.list_append s.heap.objs.size its.toArray k v (by rw[jg_];lia)) ⟨e8,?_⟩
    obtain⟨k',q⟩:∃k',(s8.heap.update s.heap.objs.size (Obj.mapSeq fun x=>x.push v)).get? s.heap.objs.size=some {cls:=.type "list",data:=.seq (its++[v]).toArray k' }:=⟨_,by
     have q:=PySem.IsL.update e8 fun x=>x.push v
     have e:(its++[v]).toArray=its.toArray.push v:=by simp
     rw[e]
     exact q⟩
    have I8':Inv (X.blk cp.names sc H2.objs.size s H fp) [] σ6 H8 s8:=I8.pins_of fun p hp=>by cases hp
    have I9:Inv (X.blk cp.names sc H2.objs.size s H fp) [] σ6 H8 {s8 with heap:=s8.heap.update s.heap.objs.size (Obj.mapSeq fun x=>x.push v),toks:=s8.toks}:=
     I8'.turned (it:=s.heap.objs.size) (fun b o hb e=>(qk_ _ _ (qj_ hb)).trans e) n8 hDC (.inr (jl_ _)) (fun x c e=>ncell _ (jl_ _) x c (Gn I S e)) (fun p hp=>by cases hp)
    refine⟨m',hm,i+1,σ6,H8,ys++[y],its++[v],k',I9,T.keep (i+1) s5.heap _ st5 (fun b hb o e=>?_),fr8,n8,q,rv.append (.cons r8 .nil),w8⟩
    ·refine (qk_ _ _ ?_).trans (k8 b hb o e)
     intro z
     obtain⟨ob,eb⟩:=hobj b hb
     exact absurd (jk_ eb) (by rw[<-z];exact qf_ _)
 exact codeAny_compStart_list (loop _ rfl) (T.self _ 0 _ _ _ hst₁ (loop _ rfl))
theorem KW (hc:X.calm=true)(S:BlkSc X sc)(hcp:Mq X.N sc cp)(hi:PI X tg iter wi)
  (hg:∀C s₀ H₀ ex,PG (X.blk cp.names sc C s₀ H₀ ex) tg g) (hf:∀C s₀ H₀ ex,PF (X.blk cp.names sc C s₀ H₀ ex) ifs tc) (he:∀C s₀ H₀ ex,PE (X.blk cp.names sc C s₀ H₀ ex) elt te)
  (hs:∀x,foldedSetIterable iter X.env x=pure x:=by intro _;rfl):PE X (.ListComp elt [⟨tg,iter,ifs,0⟩] sc pos) (KY_ wi cp g tc te):=by
 intro pins s σ H Q I h
 rw[eval_ListComp]
 refine wpAny_comprehension_free (use:=none) rfl hs (XH (U6 I S)) S.kind S.loc (thn (hi pins s σ H _ I h) fun xv s₁ h₁=>thn h₁ fun itv s₂ h₂=>?_)
 obtain⟨it,fp,tn,J,H2,e,I2,T,st2,f2,hw⟩:=h₂
 subst e
 refine AX_ (RR:=fun acc C=>compPost (model X.prog X.w) X.A X.xe none (EP X pins σ Q) acc C) hc S hcp hg hf he I2 T st2 f2 hw ?_
 intro D C s' H' m I' q hn hC hL hz hcl hp
 exact⟨m,hn,fun h' hs'=>⟨.ref D,H',I'.turned (t':=s'.toks) (it:=C) (fun b o hb e=>hs'.extBut b o hb e) hC hL (.inr hz) hcl hp,rfl,q⟩⟩
theorem Yb    (hN:X.N.Nodup)(hi:X.N[i]?=some x)(hx:X.env.scope.names.lookup x=some .local)(hc:X.calm=true)(S:BlkSc X sc)(hcp:Mq X.N sc cp)(hit:PI X tg iter wi)
  (hg:∀C s₀ H₀ ex,PG (X.blk cp.names sc C s₀ H₀ ex) tg g) (hf:∀C s₀ H₀ ex,PF (X.blk cp.names sc C s₀ H₀ ex) ifs tc) (he:∀C s₀ H₀ ex,PE (X.blk cp.names sc C s₀ H₀ ex) elt te)
  (hsw:swapsWith (.ListComp elt [⟨tg,iter,ifs,0⟩] sc pos) (some (.Name x px)) spos.line X.env=pure true:=by rfl)
  (hs:∀x,foldedSetIterable iter X.env x=pure x:=by intro _;rfl):PS X (.Assign [.Name x px] (.ListComp elt [⟨tg,iter,ifs,0⟩] sc pos) spos) (tAsg (KY_ wi cp g tc te) (CW_ i)):=by
 intro pins s σ H D I h
 rw[exec_Assign_Name_used _ _ _ _ hsw]
 refine ja_ (wpAny_standAt (ja_ ?_))
 show wpAny _ X.A (do let _ <- comprehension (.ListComp elt [⟨tg,iter,ifs,0⟩] sc pos) sc X.env _ (newList []) false (eval iter X.env) (some (assign (.Name x px) X.env))) _ _ s
 refine ja_ (qH_ (wpAny_comprehension_free (use:=some (assign (.Name x px) X.env)) (Q:=fun _ s'=>SP X pins D .next s') rfl hs (XH (U6 I S)) S.kind S.loc
  (thn (hit pins s σ H _ I h) fun xv s₁ h₁=>thn h₁ fun itv s₂ h₂=>?_)) (fun _ s' hq=>je_ (je_ hq)) fun _ _ e=>e)
 obtain⟨it,fp,tn,J,H2,e,I2,T,st2,f2,hw⟩:=h₂
 subst e
 refine AX_ (RR:=fun acc C=>compPost (model X.prog X.w) X.A X.xe (some (assign (.Name x px) X.env)) (fun _ s'=>SP X pins D .next s') acc C) (Q:=fun v H1=>CW_ i v σ H1 D.nx) hc S hcp hg hf he I2 T st2 f2 hw ?_
 intro Dl C s' H' m I' q hn hC hL hz hcl hp
 show wpAny _ X.A (assign (.Name x px) X.env (.ref Dl)) _ _ _
 refine wpAny_assign_Name (AJ_ I' hN hi (.inl hx) (v:=.ref Dl) rfl (fun s'' I'' ⟨a,hsb,ha⟩=>?_) (.inr hx))
 have hne:C≠a:=by
  rcases ha with rfl|ha
  ·exact hL
  ·exact fun z=>hcl _ _ ha z.symm
 refine⟨m,hn.sameBut hsb hne,fun h' hs'=>⟨_,H',I''.turned (t':=s''.toks) (it:=C) (fun b o hb e=>hs'.extBut b o hb e) hC hL (.inr hz) hcl hp,q⟩⟩
end
theorem GS_ {K:α3}{a:Addr}{xs:List V}{g:TG}{tc:TT}{te:TE}{Q:VK}{σ:St}{H:Hp}(Pv:Nat->List V->St->Hp->Prop)(h0:Pv 0 [] σ H)(hz:xs.length<sizeLine)
  (hl:∀i ys σ H,i<=xs.length->Pv i ys σ H->SqL K H a xs/\ys.length<=i)
  (hs:∀i x ys σ H,xs[i]?=some x->Pv i ys σ H->g x σ H fun σ2 H2=>tc σ2 H2 fun b H3=>if b=true then te σ2 H3 fun v H4=>Pv (i+1) (ys++[v]) σ2 H4 else Pv (i+1) ys σ2 H3)
  (hd:∀ys σ H,Pv xs.length ys σ H->∀D,H D=none->Q (.ref D) (upd H D (.lst ys))):
  ∃W:Nat->Nat->List V->St->Hp->Prop,(∃m,W 0 m [] σ H)/\∀i m ys σ' H',W i m ys σ' H' ->
   ys.length<sizeLine/\(((Itl K a).stop i H'/\∀D,H' D=none->Q (.ref D) (upd H' D (.lst ys)))\/((Itl K a).go i H'/\∃N:List V->St->Hp->Prop,(∀zs σ2 H2,N zs σ2 H2->∃m',m'<m/\W (i+1) m' zs σ2 H2)/\∀x H2,(Itl K a).yld i H' x H2->g x σ' H2 fun σ2 H3=>tc σ2 H3 fun b H4=>
    if b=true then te σ2 H4 fun v H5=>N (ys++[v]) σ2 H5 else N ys σ2 H4)):=by
 refine⟨fun i m ys σ H=>m=xs.length-i/\i<=xs.length/\Pv i ys σ H,⟨xs.length,by simp,qp_ _,h0⟩,?_⟩
 rintro i m ys σ H ⟨rfl,hi,p⟩
 obtain⟨q,ly⟩:=hl i ys σ H hi p
 refine⟨by lia,?_⟩
 by_cases hlt:i<xs.length
 ·refine .inr ⟨⟨xs,xs[i],q,by simp[hlt]⟩,Pv (i+1),fun zs σ' H' p'=>⟨xs.length-(i+1),by lia,rfl,hlt,p'⟩,fun x H' y=>?_⟩
  obtain⟨e,y⟩:=y
  subst e
  exact hs i x ys σ _ (y xs q) p
 ·have e:i=xs.length:=by lia
  subst e
  exact .inl ⟨⟨xs,q,jl_ _⟩,hd ys σ H p⟩
theorem IG_ {K:α3}{a:Addr}{xs:List V}{g:TG}{tc:TT}{te:TE}{Q:VK}{σ:St}{H:Hp}(Pv:Nat->List V->St->Hp->Prop)(h0:Pv 0 [] σ H)(hz:xs.length<sizeLine)
  (hl:∀i ys σ H,i<=xs.length->Pv i ys σ H->SqT K H a xs/\ys.length<=i)
  (hs:∀i x ys σ H,xs[i]?=some x->Pv i ys σ H->g x σ H fun σ2 H2=>tc σ2 H2 fun b H3=>if b=true then te σ2 H3 fun v H4=>Pv (i+1) (ys++[v]) σ2 H4 else Pv (i+1) ys σ2 H3)
  (hd:∀ys σ H,Pv xs.length ys σ H->∀D,H D=none->Q (.ref D) (upd H D (.lst ys))):
  ∃W:Nat->Nat->List V->St->Hp->Prop,(∃m,W 0 m [] σ H)/\∀i m ys σ' H',W i m ys σ' H' ->
   ys.length<sizeLine/\(((Itt K a).stop i H'/\∀D,H' D=none->Q (.ref D) (upd H' D (.lst ys)))\/((Itt K a).go i H'/\∃N:List V->St->Hp->Prop,(∀zs σ2 H2,N zs σ2 H2->∃m',m'<m/\W (i+1) m' zs σ2 H2)/\∀x H2,(Itt K a).yld i H' x H2->g x σ' H2 fun σ2 H3=>tc σ2 H3 fun b H4=>
    if b=true then te σ2 H4 fun v H5=>N (ys++[v]) σ2 H5 else N ys σ2 H4)):=by
 refine⟨fun i m ys σ H=>m=xs.length-i/\i<=xs.length/\Pv i ys σ H,⟨xs.length,by simp,qp_ _,h0⟩,?_⟩
 rintro i m ys σ H ⟨rfl,hi,p⟩
 obtain⟨q,ly⟩:=hl i ys σ H hi p
 refine⟨by lia,?_⟩
 by_cases hlt:i<xs.length
 ·refine .inr ⟨⟨xs,xs[i],q,by simp[hlt]⟩,Pv (i+1),fun zs σ' H' p'=>⟨xs.length-(i+1),by lia,rfl,hlt,p'⟩,fun x H' y=>?_⟩
  obtain⟨e,y⟩:=y
  subst e
  exact hs i x ys σ _ (y xs q) p
 ·have e:i=xs.length:=by lia
  subst e
  exact .inl ⟨⟨xs,q,jl_ _⟩,hd ys σ H p⟩
theorem Fv_ {lo:Int}{n:Nat}{g:TG}{tc:TT}{te:TE}{Q:VK}{σ:St}{H:Hp}(Pv:Nat->List V->St->Hp->Prop)(h0:Pv 0 [] σ H)(hz:n<sizeLine)
  (hl:∀i ys σ H,i<=n->Pv i ys σ H->ys.length<=i)
  (hs:∀i ys σ H,i<n->Pv i ys σ H->g (.int (lo+i)) σ H fun σ2 H2=>tc σ2 H2 fun b H3=>if b=true then te σ2 H3 fun v H4=>Pv (i+1) (ys++[v]) σ2 H4 else Pv (i+1) ys σ2 H3)
  (hd:∀ys σ H,Pv n ys σ H->∀D,H D=none->Q (.ref D) (upd H D (.lst ys))):
  ∃W:Nat->Nat->List V->St->Hp->Prop,(∃m,W 0 m [] σ H)/\∀i m ys σ' H',W i m ys σ' H' ->
   ys.length<sizeLine/\(((Itr lo n).stop i H'/\∀D,H' D=none->Q (.ref D) (upd H' D (.lst ys)))\/((Itr lo n).go i H'/\∃N:List V->St->Hp->Prop,(∀zs σ2 H2,N zs σ2 H2->∃m',m'<m/\W (i+1) m' zs σ2 H2)/\∀x H2,(Itr lo n).yld i H' x H2->g x σ' H2 fun σ2 H3=>tc σ2 H3 fun b H4=>
    if b=true then te σ2 H4 fun v H5=>N (ys++[v]) σ2 H5 else N ys σ2 H4)):=by
 refine⟨fun i m ys σ H=>m=n-i/\i<=n/\Pv i ys σ H,⟨n,by simp,qp_ _,h0⟩,?_⟩
 rintro i m ys σ H ⟨rfl,hi,p⟩
 have ly:=hl i ys σ H hi p
 refine⟨by lia,?_⟩
 by_cases hlt:i<n
 ·refine .inr ⟨hlt,Pv (i+1),fun zs σ' H' p'=>⟨n-(i+1),by lia,rfl,hlt,p'⟩,fun x H' y=>?_⟩
  obtain⟨e,y⟩:=y
  subst e y
  exact hs i ys σ _ hlt p
 ·have e:i=n:=by lia
  subst e
  exact .inl ⟨jl_ _,hd ys σ H p⟩
end L2
namespace L2
open PySem PySem.Spec PyProof.Rows
section
variable {X:Cx}
theorem Yc {bs:List Bool}{its:List Value}(r:Vals (bs.map V.bl) its){i:Nat}{v:Value}(h:its[i]?=some v):∃b,bs[i]?=some b/\v=.bool b:=by
 have hi:i<its.length:=(jc_.mp h).1
 have hl:=r.length
 rw[jb_]at hl
 obtain⟨u,hu,ru⟩:=r.get (i:=i) (x:=V.bl bs[i]) (by rw[ji_];simp[show i<bs.length by lia])
 rw[h]at hu
 cases hu
 exact⟨bs[i],by simp[show i<bs.length by lia],ru⟩
theorem range_all {bs:List Bool}:(List.range bs.length).all (fun i=>bs.getD i false)=bs.all id:=by
 rw[qh_,xC_,xC_]
 constructor
 ·intro h x hx
  obtain⟨i,hi,e⟩:=j6_ hx
  have:=h i (qt_.mpr hi)
  rw[jq_]at this
  simp[hi]at this
  rw[e]at this
  exact this
 ·intro h i hi
  have hi:=qt_.mp hi
  rw[jq_]
  simp[hi]
  exact h _ (qw_ hi)
theorem Dd_ {bs:List Bool}{its:List Value}{A:Around}{P:Program}{w:World}(r:Vals (bs.map V.bl) its):TruthOf P w A (fun i v=>its.toArray[i]?=some v) (fun i=>bs.getD i false):=by
 intro i v s Q E hv hq
 obtain⟨b,hb,e⟩:=Yc r (by simpa using hv)
 subst e
 refine qP_ ?_
 have e:bs.getD i false=b:=by rw[jq_,hb];rfl
 have hq':Q (bs.getD i false) s:=hq
 rw[e]at hq'
 exact hq'
theorem IH_ (hc:X.calm=true):Oi X (.builtin "all") (fun xs H Q=>∃(p:Addr) (bs:List Bool),xs=[.ref p]/\SqL X.K H p (bs.map V.bl)/\Q (.bl (bs.all id)) H):=by
 intro pins s σ H xs us Q I r h
 obtain⟨p,bs,rfl,hq,q⟩:=h
 obtain⟨u,rfl,ru⟩:=vals1 r
 cases ru
 obtain⟨its,rv,pl,hz⟩:=I.list hq
 have hlen:=rv.length
 rw[jb_]at hlen
 have hh:X.A.in1.handled=none:=I.ok.hd hc
 obtain⟨o,ho,_⟩:=id pl.isList
 have hne:p≠s.heap.objs.size:=jF_ (jk_ ho)
 refine call_all_walk (wpAny_pyIter_list pl.isList ?_)
 refine⟨s.heap.objs.size,_,_,its.toArray.size,_,_,fun i=>bs.getD i false,rfl,Walks.list hh _ p hne its.toArray,⟨⟨_,jo_ _ rfl,rfl,rfl⟩,pl.isList.at fun o e=>jd_ _ e⟩,Dd_ rv,fun h' tk hk=>?_⟩
 refine⟨.bl (bs.all id),H,I.kept (t':=tk) fun b o e=>hk b o ?_ (jd_ _ e),?_,q⟩
 ·intro hb
  have e':b=s.heap.objs.size:=by simpa using hb
  exact absurd (jk_ e) (by rw[e'];exact qf_ _)
 ·rw[jg_,<-hlen,range_all];rfl
theorem KY:Oi X (.builtin "isinstance") (fun xs H Q=>∃x c cv t b,xs=[x,c]/\TyOf X.K H x t/\(∀u,RelV c u->u=cv)/\kitOne X.K t cv=some b/\Q (.bl b) H):=by
 intro pins s σ H xs us Q I r h
 obtain⟨x,c,cv,t,b,rfl,ty,hc,hk,q⟩:=h
 obtain⟨u,w',rfl,rx,rc⟩:=vals2 r
 rw[hc _ rc]
 exact GD_ I rx ty hk fun tk=>⟨.bl b,H,I.tok tk,rfl,q⟩
noncomputable def EqD (K:α3)(H:Hp):Nat->V->V->Bool->Prop
 |0,x,y,b=>X5 x=true/\X5 y=true/\b=eqV x y
 |n+1,x,y,b=>(X5 x=true/\X5 y=true/\b=eqV x y) \/ ∃a c xs ys,x=.ref a/\y=.ref c/\((SqL K H a xs/\SqL K H c ys)\/(SqT K H a xs/\SqT K H c ys)) /\
   ∃e:Nat->Bool,(∀i x y,xs[i]?=some x->ys[i]?=some y->EqD K H n x y (e i))/\b=(decide (xs.length=ys.length)&&(List.range (min xs.length ys.length)).all e)
theorem in1_units (A:Around):A.in1.units=A.units+1:=rfl
theorem Ey_  (h:X5 x=true):eqV x x=true:=by
 cases x<;>first|rfl|(simp[eqV];done)|exact absurd (show false=true from h) jm_
theorem EqD.self     (I:Inv X pins σ H s):∀(n:Nat) {x:V} {b:Bool},EqD X.K H n x x b->b=true:=by
 intro n
 induction n with
 |zero=>
  rintro x b ⟨fx,_,rfl⟩
  exact Ey_ fx
 |succ n ih=>
  rintro x b (⟨fx,_,rfl⟩|⟨a,c,xs,ys,rfl,e2,hq,e,he,rfl⟩)
  ·exact Ey_ fx
  ·cases e2
   have exy:xs=ys:=by
    rcases hq with ⟨h1,h2⟩|⟨h1,h2⟩
    ·exact I.list_inj h1 h2
    ·exact I.tuple_inj h1 h2
   subst exy
   simp only[decide_true,Bool.true_and,Nat.min_self,xC_,qt_]
   intro i hi
   exact ih (he i xs[i] xs[i] (by simp[hi]) (by simp[hi]))
theorem GT_   : ((List.range (min n m)).all e&&n==m)=(decide (n=m)&&(List.range (min n m)).all e):=by
 rw[Bool.and_comm]
 congr 1
theorem EqD.at     (I:Inv X pins σ H s):∀(n:Nat) (A:Around) {x y:V} {u v:Value} {b:Bool},A.units+n<cLine->RelV x u->RelV y v->EqD X.K H n x y b ->
  SeqAt.EqAt A s u v b/\∀a c,x=.ref a->y=.ref c->SeqAt.RcAt A s u v b:=by
 intro n
 induction n with
 |zero=>
  intro A x y u v b hu rx ry h
  obtain⟨fx,fy,rfl⟩:=h
  refine⟨JE_ rx ry fx fy,?_⟩
  rintro a c rfl rfl
  exact absurd (show false=true from fx) jm_
 |succ n ih=>
  intro A x y u v b hu rx ry h
  have hself:=h
  rcases h with ⟨fx,fy,rfl⟩|⟨a,c,xs,ys,rfl,rfl,hq,e,he,rfl⟩
  ·refine⟨JE_ rx ry fx fy,?_⟩
   rintro a c rfl rfl
   exact absurd (show false=true from fx) jm_
  ·cases rx
   cases ry
   have key:∀(its its2:List Value),Vals xs its->Vals ys its2->∀j (h1:j<its.toArray.size) (h2:j<its2.toArray.size),SeqAt.EqAt A.in1 s its.toArray[j] its2.toArray[j] (e j):=fun its its2 r1 r2 j h1 h2=>by
    have l1:=r1.length
    have l2:=r2.length
    rw[jg_]at h1 h2
    obtain⟨u1,g1,q1⟩:=r1.get (i:=j) (x:=xs[j]'s!"") (by simp[show j<xs.length by lia])
    obtain⟨u2,g2,q2⟩:=r2.get (i:=j) (x:=ys[j]'s!"") (by simp[show j<ys.length by lia])
    have k1:its.toArray[j]'(by rw[jg_];exact h1)=u1:=by
     have:=(jc_.mp g1).2
     simpa using this
    have k2:its2.toArray[j]'(by rw[jg_];exact h2)=u2:=by
     have:=(jc_.mp g2).2
     simpa using this
    rw[k1,k2]
    exact (ih A.in1 (by rw[in1_units];lia) q1 q2 (he j _ _ (by simp[show j<xs.length by lia]) (by simp[show j<ys.length by lia]))).1
   have rc:SeqAt.RcAt A s (.ref a) (.ref c) (decide (xs.length=ys.length)&&(List.range (min xs.length ys.length)).all e):=by
    rcases hq with ⟨h1,h2⟩|⟨h1,h2⟩
    ·obtain⟨its,r1,p1,_⟩:=I.list h1
     obtain⟨its2,r2,p2,_⟩:=I.list h2
     have l1:=r1.length
     have l2:=r2.length
     by_cases hl:xs.length=ys.length
     ·have:=SeqAt.RcAt.lists (e:=e) p1.isList p2.isList (by rw[jg_,jg_];lia) s!"" (key its its2 r1 r2)
      rw[jg_,<-l1]at this
      rw[jR_ hl,Bool.true_and,<-hl,Nat.min_self]
      exact this
     ·rw[jY_ hl,Bool.false_and]
      exact SeqAt.RcAt.lists_lengths p1.isList p2.isList (by rw[jg_,jg_];simp;lia) s!""
    ·obtain⟨its,r1,p1,_⟩:=I.tuple h1
     obtain⟨its2,r2,p2,_⟩:=I.tuple h2
     have l1:=r1.length
     have l2:=r2.length
     have:=SeqAt.RcAt.tuples (e:=e) (show s.heap.IsTuple a its.toArray from p1) (show s.heap.IsTuple c its2.toArray from p2) s!"" (key its its2 r1 r2)
     rw[jg_,jg_,<-l1,<-l2,GT_]at this
     exact this
   refine⟨?_,fun a' c' _ _=>rc⟩
   by_cases hac:a=c
   ·subst hac
    rw[EqD.self I (n+1) hself]
    exact SeqAt.EqAt.same _
   ·exact SeqAt.EqAt.of_refs hac rc
noncomputable def rEqD (K:α3)(n:Nat):R2:=fun x y H Q=>∃a c b,x=.ref a/\y=.ref c/\EqD K H n x y b/\Q (.bl b) H
theorem Ez_ (n:Nat)(hu:X.A.units+n<cLine):OpR X (compareOp .Eq) (rEqD X.K n):=by
 intro pins s σ H x y v u Q I rx ry h
 obtain⟨a,c,b,ex,ey,h,q⟩:=h
 exact (EqD.at I n X.A hu rx ry h).2 a c ex ey _ _ _ _ ⟨.bl b,H,I,rfl,q⟩
theorem EqD.flat {K:α3}    (hq:(SqL K H a xs/\SqL K H c ys)\/(SqT K H a xs/\SqT K H c ys))(fx:∀x∈xs,X5 x=true)(fy:∀y∈ys,X5 y=true)(hi:∀x∈xs,∀y∈ys,eqV x y=decide (x=y))(n:Nat):
  EqD K H (n+1) (.ref a) (.ref c) (decide (xs=ys)):=by
 have base:∀m i x y,xs[i]?=some x->ys[i]?=some y->EqD K H m x y (decide (x=y)):=fun m i x y h1 h2=>by
  have m1:=jf_ h1
  have m2:=jf_ h2
  cases m with
  |zero=>exact⟨fx _ m1,fy _ m2,(hi _ m1 _ m2).symm⟩
  |succ m=>exact .inl ⟨fx _ m1,fy _ m2,(hi _ m1 _ m2).symm⟩
 refine .inr ⟨a,c,xs,ys,rfl,rfl,hq,fun i=>match xs[i]?,ys[i]? with|some x,some y=>decide (x=y)|_,_=>true,fun i x y h1 h2=>?_,?_⟩
 ·simp only[h1,h2]
  exact base n i x y h1 h2
 ·rw[qh_]
  simp only[qo_,qJ_,xC_,qt_]
  constructor
  ·rintro rfl
   refine⟨rfl,fun i hi=>?_⟩
   have hi:i<xs.length:=by lia
   simp[hi]
  ·rintro⟨hl,h⟩
   refine xX_ fun i=>?_
   by_cases hi:i<xs.length
   ·have:=h i s!""
    simp[hi,show i<ys.length by lia]at this
    simp[hi,show i<ys.length by lia,this]
   ·rw[jV_ s!"",jV_ s!""]
end
end L2
namespace L2
open PySem PySem.Spec PyProof.Rows
noncomputable def Mm_ (outer:List (Str×NameKind))(sc:Scope):Bool:=
 sc.kind == .function&&sc.names.all (fun y=>y.2 != .cell&&(y.2 != .local||sc.names.lookup y.1==some .local)&&(y.2 != .free||outer.lookup y.1==some .cell||outer.lookup y.1==some .free))
theorem Ki   (h:Mm_ X.env.scope.names sc=true):BlkSc X sc:=by
 unfold Mm_ at h
 rw[qJ_,xC_]at h
 obtain⟨h1,h2⟩:=h
 refine⟨by simpa using h1,fun y hy z=>?_,fun y hy z=>?_,fun y hy z=>?_⟩
 ·have:=h2 y hy
  simp only[qJ_]at this
  have:=this.1.1
  rw[z]at this
  exact absurd this (by decide)
 ·have:=h2 y hy
  simp only[qJ_]at this
  have:=this.1.2
  rw[z]at this
  simpa using this
 ·have:=h2 y hy
  simp only[qJ_]at this
  have:=this.2
  rw[z]at this
  have t:(X.env.scope.names.lookup y.1==some .cell||X.env.scope.names.lookup y.1==some .free)=true:=by simpa using this
  rw[Bool.or_eq_true]at t
  rcases t with t|t
  ·exact .inl (by show X.env.scope.names.lookup y.1=some .cell;simpa using t)
  ·exact .inr (by show X.env.scope.names.lookup y.1=some .free;simpa using t)
section
variable {t u:TS} {te ta tb tc':TE} {tt tu:TT} {A B:TA} {D:Ends} {σ:St} {H:Hp} {Q:VK} {R:Bool->Hp->Prop} {S:List V->Hp->Prop} {i:Nat} {v:V} {g:TG} {r r':R2} {K:α3} {wi:TI} {cp:Caps}
theorem Mn_:tSeq t u D σ H=t {D with nx:=u D} σ H:=rfl
theorem JN_:LS_ D σ H=D.nx σ H:=rfl
theorem Mo_:tAsg te g D σ H=te σ H fun x H1=>g x σ H1 D.nx:=rfl
theorem GU_  : CW_ i v σ H N=N (σ.set i (some v)) H:=rfl
theorem Mp_:tVar i σ H Q=∃v,σ[i]?=some (some v)/\Q v H:=rfl
theorem r_c:tC v σ H Q=Q v H:=rfl
theorem r_op:tOp r ta tb σ H Q=ta σ H fun x H1=>tb σ H1 fun y H2=>r x y H2 Q:=rfl
theorem r_un  : tUn f ta σ H Q=ta σ H fun x H1=>f x H1 Q:=rfl
theorem r_I    : rI C f x y H Q=∃i j,x=.int i/\y=.int j/\C i j/\Q (f i j) H:=rfl
theorem r_I0   : rI0 f x y H Q=∃i j,x=.int i/\y=.int j/\Q (f i j) H:=rfl
theorem r_U   : rU f x H Q=∃i,x=.int i/\Q (f i) H:=rfl
theorem JO_    : KS_ sp dvs E A σ H Q=A σ H fun vs H1=>sp (vs++dvs) H1 Q E:=rfl
theorem JP_:LY_ te A σ H S=te σ H fun x H1=>A σ H1 fun xs H2=>S (x::xs) H2:=rfl
theorem Mq_:tNil σ H S=S [] H:=rfl
theorem Mr_:tRet te D σ H=te σ H D.rt:=rfl
theorem JQ_:LT_ te D σ H=te σ H fun _ H1=>D.nx σ H1:=rfl
theorem r_if:tIfS tt t u D σ H=tt σ H fun b H1=>if b=true then t D σ H1 else u D σ H1:=rfl
theorem r_B:tB te σ H R=te σ H fun x H1=>∃c,x=.bl c/\R c H1:=rfl
theorem JR_:Iv_ te σ H R=te σ H fun x H1=>∃c,x=.bl c/\R c H1:=rfl
theorem Ms_:tAnd tt tu σ H R=tt σ H fun c H1=>if c=true then tu σ H1 R else R false H1:=rfl
theorem r_or:tOr tt tu σ H R=tt σ H fun c H1=>if c=true then R true H1 else tu σ H1 R:=rfl
theorem Mt_:tNot tt σ H R=tt σ H fun c H1=>R (!c) H1:=rfl
theorem JS_:LP_ ta tb σ H Q=ta σ H fun x H1=>∃c,x=.bl c/\if c=true then tb σ H1 Q else Q (.bl false) H1:=rfl
theorem Mu_:tOrV ta tb σ H Q=ta σ H fun x H1=>∃c,x=.bl c/\if c=true then Q (.bl true) H1 else tb σ H1 Q:=rfl
theorem JT_:LQ_ ta σ H Q=ta σ H fun x H1=>∃c,x=.bl c/\Q (.bl (!c)) H1:=rfl
theorem GV_:JD_ r r' ta tb tc' σ H Q=ta σ H fun x H1=>tb σ H1 fun y H2=>r x y H2 fun z H3=>∃k,z=.bl k/\(if k=true then tc' σ H3 fun w' H4=>r' y w' H4 Q else Q (.bl false) H3):=rfl
theorem r_CB  : tCB f A σ H Q=A σ H fun vs H1=>f vs H1 Q:=rfl
theorem Mv_:tLst A σ H Q=A σ H fun xs H1=>xs.length<=sizeLine/\∀p,H1 p=none->Q (.ref p) (upd H1 p (.lst xs)):=rfl
theorem Mw_:tTup A σ H Q=A σ H fun xs H1=>xs.length<=sizeLine/\∀p,H1 p=none->Q (.ref p) (upd H1 p (.tup xs)):=rfl
theorem Mx_  : rIxL K x y H Q=∃p xs i v,x=.ref p/\y=.int i/\SqL K H p xs/\atI xs i=some v/\Q v H:=rfl
theorem My_  : rIxT K x y H Q=∃p xs i v,x=.ref p/\y=.int i/\SqT K H p xs/\atI xs i=some v/\Q v H:=rfl
theorem r_sl   : tSl f te tl th σ H Q=te σ H fun x H1=>tl σ H1 fun l H2=>th σ H2 fun u H3=>f x l u H3 Q:=rfl
theorem JU_  : Mc_ te σ H U=te σ H fun x H1=>∃i,x=.int i/\U (some i) H1:=rfl
theorem EA_  : GG_ σ H U=U none H:=rfl
theorem Mz_  {lo hi:Option Int}:rSlL K x lo hi H Q=∃a xs,x=.ref a/\SqL K H a xs/\∀p,H p=none->Q (.ref p) (upd H p (.lst (cutV xs lo hi))):=rfl
theorem r_BM   : tBM K T f te A σ H Q=te σ H fun x H1=>tyV K T x H1/\A σ H1 fun xs H2=>f x xs H2 Q:=rfl
theorem MA_   : tBM0 K T f te σ H Q=te σ H fun x H1=>tyV K T x H1/\f x [] H1 Q:=rfl
theorem EB_   : GL_ x vs H Q=∃l xs y,x=.ref l/\vs=[y]/\H l=some (.lst xs)/\xs.length<sizeLine/\Q .non (upd H l (.lst (xs++[y]))):=rfl
theorem JV_    : gSub to ti ts v σ H N=to σ H fun o H1=>ti σ H1 fun i H2=>ts o i v H2 fun H3=>N σ H3:=rfl
theorem JW_   : Md_ o k v H N=∃p xs m j,o=.ref p/\k=.int m/\H p=some (.lst xs)/\ixN xs.length m=some j/\N (upd H p (.lst (xs.set j v))):=rfl
theorem r_Eq  : rEq x y H Q=(scal x y=true/\Q (.bl (decide (x=y))) H):=rfl
theorem r_Ne  : rNe x y H Q=(scal x y=true/\Q (.bl (!decide (x=y))) H):=rfl
theorem MB_   : rEqD K n x y H Q=∃a c b,x=.ref a/\y=.ref c/\EqD K H n x y b/\Q (.bl b) H:=rfl
theorem GW_  : LV_ K te σ H Z=te σ H fun x H1=>∃a,x=.ref a/\(∃xs,SqL K H1 a xs)/\Z (Itl K a) H1:=rfl
theorem JX_  : iTup K te σ H Z=te σ H fun x H1=>∃a,x=.ref a/\(∃xs,SqT K H1 a xs)/\Z (Itt K a) H1:=rfl
theorem GX_  : LW_ A σ H Z=A σ H fun vs H1=>∃j:Int,vs=[.int j] /\ -(2 ^ 62)<=j/\j<2 ^ 62/\Z (Itr 0 j.toNat) H1:=rfl
theorem JY_:KX_ σ H R=R true H:=rfl
end
theorem Same.new    (h:H p=none):Same H (upd H p o):=fun b u e=>by rw[Ag (C2 e h)];exact e
theorem Same.newT    (s:Same H H')(h:H' p=none):Same H (upd H' p o):=s.trans (Same.new h)
theorem Same.over    (s:Same H H')(h:H p=none):Same H (upd H' p o):=fun b u e=>by rw[Ag (C2 e h)];exact s b u e
theorem De_    (h:upd H p o D=none):H D=none/\D≠p:=by
 by_cases e:D=p
 ·subst e;rw[Ab]at h;cases h
 ·rw[Ag e]at h;exact⟨h,e⟩
theorem Same.seqT {K:α3}    (e:Same H H')(h:SqT K H a xs):SqT K H' a xs:=by
 rcases h with (h|⟨o,h⟩)|h
 ·exact .inl (.inl (e _ _ h))
 ·exact .inl (.inr ⟨o,e _ _ h⟩)
 ·exact .inr h
theorem hu9   (hr:Room k A):A.units+8<cLine:=by have:=hr.units;lia
section
variable {K:α3} {wi:TI} {cp:Caps} {g:TG} {tc:TT} {te:TE} {σ:St} {H:Hp} {Q:VK}
theorem MC_               : (cxOf CX P w K mg base N qual scope f cd A outer s H E).K=K:=rfl
noncomputable def Fw_ (J:It)(cp:Caps)(g:TG)(tc:TT)(te:TE)(σ:St)(H1:Hp)(Q:VK):Prop:=∃W:Nat->Nat->List V->St->Hp->Prop,(∃m,W 0 m [] (cp.st σ) H1)/\∀i m ys σ' H',W i m ys σ' H' ->
 ys.length<sizeLine/\((J.stop i H'/\∀D,H' D=none->Q (.ref D) (upd H' D (.lst ys)))\/(J.go i H'/\∃N:List V->St->Hp->Prop,(∀zs σ2 H2,N zs σ2 H2->∃m',m'<m/\W (i+1) m' zs σ2 H2)/\∀x H2,J.yld i H' x H2->g x σ' H2 fun σ2 H3=>tc σ2 H3 fun b H4=>
  if b=true then te σ2 H4 fun v H5=>N (ys++[v]) σ2 H5 else N ys σ2 H4))
theorem JZ_:KY_ wi cp g tc te σ H Q=wi σ H fun J H1=>Fw_ J cp g tc te σ H1 Q:=rfl
noncomputable def ForW (J:It)(g:TG)(tb:TS)(D:Ends)(σ:St)(H1:Hp):Prop:=∃W:Nat->Nat->St->Hp->Prop,(∃m,W 0 m σ H1)/\∀i m σ H,W i m σ H ->
 (J.stop i H/\D.nx σ H)\/(J.go i H/\∃N:St->Hp->Prop,(∀σ' H',N σ' H'->∃m',m'<m/\W (i+1) m' σ' H')/\∀x H',J.yld i H x H'->g x σ H' fun σ2 H2=>tb {D with nx:=N,ct:=N,bk:=D.nx} σ2 H2)
theorem MD_   : tFor wi g tb D σ H=wi σ H fun J H1=>ForW J g tb D σ H1:=rfl
theorem forL        (Pv:Nat->St->Hp->Prop)(h0:Pv 0 σ H)(hl:∀i σ H,i<=xs.length->Pv i σ H->SqL K H a xs)
  (hs:∀i x σ H,xs[i]?=some x->Pv i σ H->g x σ H fun σ2 H2=>tb {D with nx:=Pv (i+1),ct:=Pv (i+1),bk:=D.nx} σ2 H2) (hd:∀σ H,Pv xs.length σ H->D.nx σ H):ForW (Itl K a) g tb D σ H:=It_ Pv h0 hl hs hd
theorem forT        (Pv:Nat->St->Hp->Prop)(h0:Pv 0 σ H)(hl:∀i σ H,i<=xs.length->Pv i σ H->SqT K H a xs)
  (hs:∀i x σ H,xs[i]?=some x->Pv i σ H->g x σ H fun σ2 H2=>tb {D with nx:=Pv (i+1),ct:=Pv (i+1),bk:=D.nx} σ2 H2) (hd:∀σ H,Pv xs.length σ H->D.nx σ H):ForW (Itt K a) g tb D σ H:=KO_ Pv h0 hl hs hd
theorem forR {lo:Int}       (Pv:Nat->St->Hp->Prop)(h0:Pv 0 σ H)
  (hs:∀i σ H,i<n->Pv i σ H->g (.int (lo+i)) σ H fun σ2 H2=>tb {D with nx:=Pv (i+1),ct:=Pv (i+1),bk:=D.nx} σ2 H2) (hd:∀σ H,Pv n σ H->D.nx σ H):ForW (Itr lo n) g tb D σ H:=Gu_ Pv h0 hs hd
theorem Df_   (Pv:Nat->List V->St->Hp->Prop)(h0:Pv 0 [] (cp.st σ) H)(hz:xs.length<sizeLine)
  (hl:∀i ys σ H,i<=xs.length->Pv i ys σ H->SqL K H a xs/\ys.length<=i)
  (hs:∀i x ys σ H,xs[i]?=some x->Pv i ys σ H->g x σ H fun σ2 H2=>tc σ2 H2 fun b H3=>if b=true then te σ2 H3 fun v H4=>Pv (i+1) (ys++[v]) σ2 H4 else Pv (i+1) ys σ2 H3)
  (hd:∀ys σ H,Pv xs.length ys σ H->∀D,H D=none->Q (.ref D) (upd H D (.lst ys))):Fw_ (Itl K a) cp g tc te σ H Q:=GS_ Pv h0 hz hl hs hd
theorem Ns_   (Pv:Nat->List V->St->Hp->Prop)(h0:Pv 0 [] (cp.st σ) H)(hz:xs.length<sizeLine)
  (hl:∀i ys σ H,i<=xs.length->Pv i ys σ H->SqT K H a xs/\ys.length<=i)
  (hs:∀i x ys σ H,xs[i]?=some x->Pv i ys σ H->g x σ H fun σ2 H2=>tc σ2 H2 fun b H3=>if b=true then te σ2 H3 fun v H4=>Pv (i+1) (ys++[v]) σ2 H4 else Pv (i+1) ys σ2 H3)
  (hd:∀ys σ H,Pv xs.length ys σ H->∀D,H D=none->Q (.ref D) (upd H D (.lst ys))):Fw_ (Itt K a) cp g tc te σ H Q:=IG_ Pv h0 hz hl hs hd
theorem II_ {lo:Int}  (Pv:Nat->List V->St->Hp->Prop)(h0:Pv 0 [] (cp.st σ) H)(hz:n<sizeLine)
  (hl:∀i ys σ H,i<=n->Pv i ys σ H->ys.length<=i)
  (hs:∀i ys σ H,i<n->Pv i ys σ H->g (.int (lo+i)) σ H fun σ2 H2=>tc σ2 H2 fun b H3=>if b=true then te σ2 H3 fun v H4=>Pv (i+1) (ys++[v]) σ2 H4 else Pv (i+1) ys σ2 H3)
  (hd:∀ys σ H,Pv n ys σ H->∀D,H D=none->Q (.ref D) (upd H D (.lst ys))):Fw_ (Itr lo n) cp g tc te σ H Q:=Fv_ Pv h0 hz hl hs hd
theorem IJ_    (f:V->V)(e:cp.st σ=none::σ')(hl:SqT K H a xs)(hz:xs.length<sizeLine)(hs:∀x∈xs,∀R:VK,R (f x) H->te (some x::σ') H R)(hd:∀D,H D=none->Q (.ref D) (upd H D (.lst (xs.map f)))):
  Fw_ (Itt K a) cp (CW_ 0) KX_ te σ H Q:=by
 refine Ns_ (xs:=xs) (fun i ys σ2 H2=>H2=H/\ys=(xs.take i).map f/\∃o,σ2=o::σ') ⟨rfl,by simp,none,e⟩ hz (fun i ys σ2 H2 hi h=>?_) (fun i x ys σ2 H2 hx h=>?_) (fun ys σ2 H2 h=>?_)
 ·obtain⟨rfl,rfl,_⟩:=h
  exact⟨hl,by rw[jb_,jx_];lia⟩
 ·obtain⟨rfl,rfl,o,rfl⟩:=h
  refine hs x (jf_ hx) _ ⟨rfl,?_,some x,rfl⟩
  rw[jD_,hx];simp
 ·obtain⟨rfl,rfl,_⟩:=h
  rw[jO_]
  exact hd
end
noncomputable def tCut (t u:TS):TS:=fun D σ H=>∃R:St->Hp->Prop,t {D with nx:=R} σ H/\∀σ' H',R σ' H'->u D σ' H'
theorem GY_  {st:Stmt}{rest:List Stmt}  (h1:PS X st t)(h2:PSs X rest u):PSs X (st::rest) (tCut t u):=by
 intro pins s σ H D I h
 obtain⟨R,ha,hb⟩:=h
 refine wpAny_execs_cons (thn (h1 pins s σ H {D with nx:=R} I ha) fun f s1 q=>?_)
 cases f with
 |next=>
  obtain⟨σ',H',I',q⟩:=q
  exact h2 pins s1 σ' H' D I' (hb σ' H' q)
 |ret v=>exact q
 |brk=>exact q
 |cont=>exact q
theorem Aq:1000000<sizeLine:=by rw[sizeLine_eq];decide
theorem PN {ns:α2}{x:V}(h:x∈ns.map V.int):∃n,n∈ns/\x=.int n:=by
 obtain⟨n,hn,e⟩:=jH_.mp h
 exact⟨n,hn,e.symm⟩
theorem PQ {ns:α2}{i:Nat}{x:V}(h:(ns.map V.int)[i]?=some x):∃n,ns[i]?=some n/\x=.int n:=by
 rw[ji_]at h
 cases e:ns[i]? with
 |none=>rw[e]at h;cases h
 |some n=>rw[e]at h;exact⟨n,rfl,(jt_ h).symm⟩
noncomputable def cutI (ns:α2)(lo hi:Option Int):α2:=(ns.drop (HT.sIx ns.length 0 lo)).take (HT.sIx ns.length ns.length hi-HT.sIx ns.length 0 lo)
theorem EC_ (ns:α2)(lo hi:Option Int):cutV (ns.map V.int) lo hi=(cutI ns lo hi).map V.int:=by
 unfold cutV cutI
 rw[jb_,<-List.map_drop,<-List.map_take]
theorem ME_     (h0:0<=i)(h:xs[i.toNat]?=some v):atI xs i=some v:=by
 have:=Cq h
 rwa [show ((i.toNat:Nat):Int)=i by lia]at this
theorem KZ {K:α3}  : kitOne K t t=some true:=by unfold kitOne;rw[if_pos (by simp)]
theorem AY_ {K:α3}:kitOne K (.type "int") (.type "bool")=some false:=by
 first|rfl|decide +kernel|(unfold kitOne;kernel_rfl)
theorem Tg  : ∀u,RelV (V.ty n) u->u=.type n:=fun _ h=>h
end L2
namespace L2
open PySem PySem.W PySem.Spec PySem.Calls PyProof.Rows
section
variable {prog:Program} {w:World} {A:Around} {E:Value->Shared->Prop} {s:Shared} {K:Frag} {x D:Addr} {ox:Obj}
structure ExcCls (K:Frag)(D:Addr):Prop where
 ga:findIn K (.ref D) "__getattribute__"=some (some (.builtin "BaseException.__getattribute__"))
 hk:findIn K (.ref D) "__getattr__"=some none
 cl:(clsIn K D).isSome=true
 ca:findIn K (.ref D) "__class__"=some (some (.builtin "object.__class__"))
 gs:specialIn K (.builtin "object.__class__") "__get__"=some (some (.builtin "getset_descriptor.__get__"))
 tk:takesIn K (.builtin "object.__class__")=some true
 mo:mroIn K D (.type "object")=some true
 mb:mroIn K D (.type "BaseException")=some true
noncomputable def ExcAt (x D:Addr)(h:Heap):Prop:=∃ox,h.get? x=some ox/\ox.cls=.ref D
theorem ExcAt.type   (I:ExcAt x D h):Looks M h (typeOf (.ref x)) (.ref D):=by
 obtain⟨ox,h1,h2⟩:=I
 exact h2 ▸ (Looks.ld h1).andThen .now
theorem IK_   (X:K.In h)(C:ExcCls K D):Looks M h (Builtin.ObjectAttr.find (.ref x) (.ref D) "__class__") (.bind (.builtin "getset_descriptor.__get__") (.builtin "object.__class__")):=
 (looks_findIn X C.ca).andThen ((show Looks M h (Builtin.ObjectAttr.getOf (some (.builtin "object.__class__"))) _ from looks_specialIn X C.gs).andThen
  ((show Looks M h (Builtin.ObjectAttr.dataDescriptor? (some (.builtin "object.__class__")) (some (.builtin "getset_descriptor.__get__"))) (some (.builtin "getset_descriptor.__get__",.builtin "object.__class__")) from (looks_takesIn X C.tk).andThen .now).andThen (Looks.tag .now)))
open Builtin Builtin.ObjectAttr Builtin.Getset_descriptor in
theorem KZ_ {R:Result->Shared->Prop}{tp:Value}(X:K.In s.heap)(I:ExcAt x D s.heap)(hm:mroIn K D (.type "object")=some true)
  (h:R (.ok (.ret (.ref D))) s):codeAny (model prog w) A (.call (.builtin "getset_descriptor.__get__") ⟨[.builtin "object.__class__",.ref x,tp],[]⟩) R s:=by
 obtain⟨hh,g,dr,t,os⟩:=s
 have L0:=I.type (M:=model prog w)
 have L1:=looks_mroIn (M:=model prog w) X hm
 refine codeAny_call_builtin KF.slot_gs.plain KF.entry_gs (KF.slot_gs.check _ _ _ _ _ _ _ _ KF.type_class (KF.args_gs _ _ _) ?_)
 unfold Builtin.«getset_descriptor.__get__» descrGet
 rw[dga_obj]
 refine ja_ (je_ ?_)
 unfold descrGetter descrCheckInstance descrNameAndClass isInstance
 simp only[KF.owner_class]
 repeat lk
 refine⟨Code.quiet_builtin _ (by decide +kernel),codeAny_builtin KF.entry_class ?_⟩
 unfold Builtin.«object.__class__» shownTypeOf
 repeat lk
 exact h
theorem GZ_    (X:K.In s.heap)(I:ExcAt x D s.heap)(C:ExcCls K D)(hq:Q () s):wpAny M A (checkBuiltinCall "BaseException.__getattribute__" ⟨[.ref x,nameV],[]⟩) Q E s:=by
 obtain⟨hh,g,d,t,os⟩:=s
 have hk:builtinKind "BaseException.__getattribute__"=some .slot:=by decide +kernel
 have hsplit:splitId "BaseException.__getattribute__"=some ("BaseException","__getattribute__"):=by decide +kernel
 have ha:=F.args_bexc_ga (.ref x) nameV
 have L0:=I.type (M:=M)
 have L1:=looks_mroIn (M:=M) X C.mb
 simp only[checkBuiltinCall,hk,hsplit]
 refine ja_ ?_
 unfold isInstance
 repeat (first|lk|wp_step)
 exact hq
theorem Ha_   (X:K.In s.heap)(I:ExcAt x D s.heap)(C:ExcCls K D)(hq:Q (.done (.ret (.ref D))) s):wpAny (model prog w) A (Builtin.«object.__getattribute__» ⟨[.ref x,.str "__class__" tk],[]⟩) Q E s:=by
 obtain⟨hh,g,d,t,os⟩:=s
 have L0:=I.type (M:=model prog w)
 have L1:=IK_ (M:=model prog w) (x:=x) X C
 unfold Builtin.«object.__getattribute__»
 refine ja_ (je_ ?_)
 refine ja_ (je_ ?_)
 refine ja_ (L0.at ?_)
 refine ja_ (L1.at ?_)
 show wpAny _ _ (Builtin.ObjectAttr.bindTo _ _ _ _) _ _ _
 unfold Builtin.ObjectAttr.bindTo
 dsimp only
 refine ja_ (qC_ (wpAny_call (KZ_ (K:=K) (s:=⟨hh,g,d,t,os⟩) X I C.mo ?_)))
 exact je_ hq
theorem Hb_  (X:K.In s.heap)(I:ExcAt x D s.heap)(C:ExcCls K D)(h:Q (some (.ref D)) {s with toks:=s.toks+1}):wpAny (model prog w) A (getAttr? (.ref x) "__class__") Q E s:=by
 obtain⟨hh,g,d,t,os⟩:=s
 have L0:=I.type (M:=model prog w)
 have L1:=looks_findIn (M:=model prog w) X C.ga
 have L2:=looks_findIn (M:=model prog w) X C.hk
 unfold getAttr? getAttrBy? getAttrBy
 refine ja_ (wpAny_mkText (ja_ (qW_ (qC_ (ja_ (L0.at (ja_ (L1.at ?_))))))))
 show wpAny _ _ (getAttrByItsOwn _ _ _ _ _ _) _ _ _
 unfold getAttrByItsOwn hookBefore
 refine ja_ ?_
 rw[if_pos (by rfl)]
 refine L2.at (ja_ (qW_ (qC_ ?_)))
 unfold callGetattribute
 rw[if_neg (by decide)]
 unfold boundAndCalled
 have f3:=PySem.F.attr_ValueError.ga.bind (.ref x)
 refine ja_ (wpAny_of_eq f3 ?_)
 refine wpAny_call (codeAny_call_builtin PySem.F.attr_ValueError.ga.plain F.entry_bexc_ga (GZ_ (K:=K) (s:=⟨hh,g,d,t+1,os⟩) X I C (Ha_ (K:=K) (s:=⟨hh,g,d,t+1,os⟩) X I C ?_)))
 exact je_ (je_ h)
theorem IL_ (C:ExcCls K D):KitX K (.ref x) (.ref D) (ExcAt x D) where
 ty:=fun _ _ _ I=>I.type
 it:=fun _ _ X _=>by
  obtain⟨cdD,hcD⟩:=xF_.mp C.cl
  unfold clsIn at hcD
  split at hcD
  ·rename_i c' d' cd' sl' ho
   intro A' Q' E' s' k q
   unfold isType loadHead
   exact ja_ (wpAny_loadPart (k _ _ (X _ _ ho)) (je_ q))
  ·cases hcD
 ne:=fun h tp dd its n sl X htp=>by
  obtain⟨cdD,hcD⟩:=xF_.mp C.cl
  refine Bool.eq_false_iff.mpr fun q=>?_
  have e:D=tp:=Value.ref.inj (za_.mp q)
  subst e
  unfold clsIn at hcD
  split at hcD
  ·rename_i c' d' cd' sl' ho
   have z:=(X _ _ ho).symm.trans htp
   cases z
  ·cases hcD
 ca:=fun X I k=>Hb_ X I C k
end
section
variable {P:Program} {w:World}
theorem C3.there     (x:C3 P w H h a o):∃ob,h.get? a=some ob:=by
 induction o with
 |lst xs=>obtain⟨_,_,_,_,e⟩:=x;exact⟨_,e⟩
 |tup xs=>obtain⟨_,_,_,ob,e,_⟩:=x;exact⟨_,e⟩
 |dK kvs=>obtain⟨_,_,_,_,o,_,_,e,_⟩:=x;exact⟨_,e⟩
 |dT kvs=>obtain⟨_,_,_,_,o,_,_,e,_⟩:=x;exact⟨_,e⟩
 |set S n=>obtain⟨o,_,_,_,e,_⟩:=x;exact⟨_,e⟩
 |ins C dx fs=>obtain⟨_,_,_,e,_⟩:=x;exact⟨_,e⟩
 |own y=>obtain⟨_,e⟩:=x;exact⟨_,e⟩
 |xd fs=>obtain⟨_,⟨_,_,_,e,_⟩,_⟩:=x;exact⟨_,e⟩
 |rng lo hi=>obtain⟨_,_,_,e⟩:=x;exact⟨_,e⟩
 |frz ob u ih=>obtain⟨e,_⟩:=x;exact⟨_,e⟩
 |tbl ps=>exact⟨_,(show h.get? a=some _ from x)⟩
 |met f y=>exact⟨_,(show h.get? a=some _ from x)⟩
 |ext φ=>obtain⟨_,⟨_,e⟩,_⟩:=x;exact⟨_,e⟩
structure Fly (P:Program)(w:World)(fs:List Addr)(H1 H':Hp)(h1 g B:Heap):Prop where
 un:Un fs [] H1 H' h1 g
 hok:HOk P w H' g
 cov:∀b o,g.get? b=some o->(H' b≠none \/ ∃o',h1.get? b=some o')->b∉fs->B.get? b=some o
theorem Fly.move  {H1 H':Hp}{h1 g B h2:Heap}(x:Fly P w fs H1 H' h1 g B)(frees:∀b∈fs,H' b=none)(st:B.StaysIn h2)(up:∀b∈fs,∀o,g.get? b=some o->∃sl,h2.get? b=some {o with slots:=sl}):Fly P w fs H1 H' h1 h2 B:=by
 have keep:∀b o,g.get? b=some o->(H' b≠none \/ ∃o',h1.get? b=some o')->b∉fs->h2.get? b=some o:=fun b o e h n=>st b o (x.cov b o e h n)
 have nfs:∀b u,H' b=some u->b∉fs:=fun b u e z=>by rw[frees b z]at e;cases e
 refine⟨⟨fun b o e n hb hx=>?_,fun b o e n hb hx=>?_,fun b o e n hx=>x.un.free b o e n hx,fun b o e hx=>?_,x.un.tups,x.un.frzs,x.un.tbls⟩,fun b u e=>?_,fun b o e h n=>?_⟩
 ·exact keep b o (x.un.keep b o e n hb hx) (.inr ⟨o,e⟩) hb
 ·obtain⟨sl,e1⟩:=x.un.slot b o e n hb hx
  obtain⟨sl',e2⟩:=up b hb _ e1
  exact⟨sl',e2⟩
 ·obtain⟨o',e1⟩:=x.un.there b o e hx
  by_cases hb:b∈fs
  ·obtain⟨sl',e2⟩:=up b hb _ e1
   exact⟨_,e2⟩
  ·exact⟨o',keep b o' e1 (.inr ⟨o,e⟩) hb⟩
 ·refine (x.hok b u e).stay (fun c v hc q=>?_) (fun _ q=>q) fun _ _ q=>q
  rcases hc with rfl|hc
  ·exact keep c v q (.inl (by rw[e];simp)) (nfs c u e)
  ·exact keep c v q (.inl (by rw[hc];simp)) (nfs c _ hc)
 ·-- B has it still
  have ⟨o1,e1⟩:∃o1,g.get? b=some o1:=by
   rcases h with h|⟨o',h⟩
   ·cases q:H' b with
    |none=>exact absurd q h
    |some u=>exact (x.hok b u q).there
   ·exact x.un.there b o' h (by simp)
  have e2:=x.cov b o1 e1 h n
  have e3:=st b o1 e2
  rw[e]at e3
  cases e3
  exact e2
noncomputable def CXe (P:Program)(w:World):CXT:=fun outer H s E e s'=>∃(ea:Addr) (cls a0:Value) (H':Hp) (B:Heap),e=.ref ea/\s'.os=s.os/\AllBare s'.gens/\Fly P w (frs outer) H H' s.heap s'.heap B/\Heap.FlyingW B outer ea cls a0 s'.heap/\E cls none H'
theorem AZ_    {H1 H':Hp}  {g B:Heap}(I:Inv X pins σ H1 s1)(x:Fly P w (frs X.stack) H1 H' s1.heap g B):∀b∈frs X.stack,H' b=none:=fun b hb=>by
 obtain⟨_,o,ho,_⟩:=I.stack.mem hb
 exact x.un.free b o ho (I.stkFree b hb) (by simp)
theorem Kj {K:α3}             (hE:∀c d H',E' c d H'->E c d H'):
  Ml (CXe P w) (cxOf (CXe P w) P w K mg base N qual scope f cd A outer s H E) E':=by
 intro pins σ H1 s1 e s' I hc
 obtain⟨ea,cls,a0,H',B,rfl,os,bare,fl,fw,q⟩:=hc
 have fr:(cxOf (CXe P w) P w K mg base N qual scope f cd A outer s H E).A.frames=some (envOfC qual scope s.heap.objs.size f cd::outer):=I.ok.frames
 refine wpAny_leaves_onW fr rfl fw fun h' fw' ups=>?_
 have fl2:=fl.move (AZ_ I fl) fw'.1 (fun b hb o e=>by
  obtain⟨_,o',ho',nf⟩:=fw.2.2.1.mem hb
  rw[e]at ho';cases ho'
  exact ups b o e nf)
 have I2:Inv (cxOf (CXe P w) P w K mg base N qual scope f cd A outer s H E) pins σ H' {s' with heap:=h' }:=I.call' (s':={s' with heap:=h' }) os fl2.un fl2.hok bare (fun b hb=>by cases hb)
 refine⟨ea,cls,a0,H',B,rfl,I2.os,I2.bare,⟨I2.base,I2.hok,fun b o e h n=>fl2.cov b o e ?_ (fun z=>?_)⟩,fw',hE _ _ _ q⟩
 ·rcases h with h|⟨o',h⟩
  ·exact .inl h
  ·obtain⟨o2,e2⟩:=I.base.there b o' h (by show b∉([]:List Addr);simp)
   exact .inr ⟨o2,e2⟩
 ·rcases jA_.mp (I.stkSub b z) with e' | e'
  ·rcases h with h|⟨o',h⟩
   ·exact h (by rw[e'];exact I2.free)
   ·have:=jk_ h
    rw[e']at this
    exact absurd (jy_ this I.ok.above) (qf_ _)
  ·exact n e'
theorem MF_ {K:α3}
   {H1:Hp}
  (I:Inv (cxOf (CXe P w) P w K mg base N qual scope f cd A outer s H E) pins σ H1 s1) (hx:Heap.MadeExcOf s1.heap h' ea cls vs) (q:E cls none H1):
  (cxOf (CXe P w) P w K mg base N qual scope f cd A outer s H E).xe (.ref ea) {s1 with heap:=h' }:=by
 have fr:(cxOf (CXe P w) P w K mg base N qual scope f cd A outer s H E).A.frames=some (envOfC qual scope s.heap.objs.size f cd::outer):=I.ok.frames
 have hin:∀env∈(envOfC qual scope s.heap.objs.size f cd::outer),∀b,env.frame=some b->b∈frs (envOfC qual scope s.heap.objs.size f cd::outer):=fun env he b hb=>zh_.mpr ⟨env,he,hb⟩
 have stk:=I.stack
 have fl:Fly P w (frs (envOfC qual scope s.heap.objs.size f cd::outer)) H1 H1 s1.heap s1.heap (PySem.W.hideAll s1.heap (frs (envOfC qual scope s.heap.objs.size f cd::outer))):=⟨Un.refl,I.hok,fun b o e _ n=>PySem.W.hideAll_get _ e n⟩
 refine wpAny_leaves_madeW (base:=PySem.W.hideAll s1.heap (frs (envOfC qual scope s.heap.objs.size f cd::outer))) (h:=s1.heap) fr rfl (fun b o q=>PySem.W.of_hideAll _ q) ?_ hx fun h'' t fw' ht hnt ups=>?_
 ·exact PySem.W.funFrames_hide stk hin
 ·have fl2:=fl.move (AZ_ (X:=cxOf (CXe P w) P w K mg base N qual scope f cd A outer s H E) I fl) fw'.1 (fun b hb o e=>by
   obtain⟨_,o',ho',nf⟩:=stk.mem hb
   rw[e]at ho';cases ho'
   exact ups b o (hx.keeps b o e) nf)
  have I2:Inv (cxOf (CXe P w) P w K mg base N qual scope f cd A outer s H E) pins σ H1 {s1 with heap:=h'' }:=I.call' (s':={s1 with heap:=h'' }) rfl fl2.un fl2.hok I.bare (fun b hb=>by cases hb)
  refine⟨ea,cls,.ref t,H1,_,rfl,I2.os,I2.bare,⟨I2.base,I2.hok,fun b o e h n=>fl2.cov b o e ?_ (fun z=>?_)⟩,fw',q⟩
  ·rcases h with h|⟨o',h⟩
   ·exact .inl h
   ·obtain⟨o2,e2⟩:=I.base.there b o' h (by show b∉([]:List Addr);simp)
    exact .inr ⟨o2,e2⟩
  ·rcases jA_.mp (I.stkSub b z) with e' | e'
   ·rcases h with h|⟨o',h⟩
    ·exact h (by rw[e'];exact I2.free)
    ·have:=jk_ h
     rw[e']at this
     exact absurd (jy_ this I.ok.above) (qf_ _)
   ·exact n e'
end
theorem La_ {K:Frag}     (X:K.In h)(q:excIn K C bmB newId=true):
  ∃bm N nm q bs hdct sn sub ab col dd k0 k1 k2 k3 k5 mN,h.get? C=some (excClassObj nm q C N bs bm hdct sn sub ab col dd k0 k1 k2 k3 k5 newId)/\h.Ns N mN/\mN "__init__"=none/\OwnTail h bmB bm:=by
 unfold excIn at q
 split at q
 ·rename_i dd cd sl ho
  split at q
  ·rename_i C' bm k0 k1 k2 k3 n k5 hm hs
   simp only[qJ_,za_,Bool.not_eq_true']at q
   obtain⟨⟨⟨⟨⟨rfl,rfl⟩,hdel⟩,ht⟩,hok⟩,hni⟩:=q
   obtain⟨nm,bs,mro,ns,qn,hd,sn,sub,ab,col,del⟩:=cd
   dsimp only at hm hdel hok hni
   subst hm hdel
   have hsl:sl = #[k0,k1,k2,k3,some (.builtin n),k5]:=by
    obtain⟨l⟩:=sl
    simp only at hs
    rw[hs]
   subst hsl
   exact⟨bm,ns,nm,qn,bs,hd,sn,sub,ab,col,dd,k0,k1,k2,k3,k5,_,X _ _ ho,.of_isNs (isNs_of_in X hok),nsMap_none_of_in X hok hni,tail_of_in X ht⟩
  ·cases q
 ·cases q
def bmV:List Value:=[.type "ValueError",.type "Exception",.type "BaseException",.type "object"]
section
variable {P:Program} {w:World} {K:α3} {mg:Str->α5} {base:Heap} {N:List Str} {qual:Str} {scope:Scope} {f:Addr} {cd:Value} {A:Around} {outer:List Env} {s:Shared} {H:Hp} {E:XK}
noncomputable def Ka_ (C:Addr)(E:XK)(ta:TA):TS:=fun _ σ H=>ta σ H fun vs H1=>vs.length<=sizeLine/\E (.ref C) none H1
theorem Oc      {rest:List Expr}  (hm:mg x=some (.ref C))(hx:excIn K C bmV newId=true)(hg:Gl (cxOf (CXe P w) P w K mg base N qual scope f cd A outer s H E) x)
  (hn:newId = "ValueError.__new__") (ha:PA (cxOf (CXe P w) P w K mg base N qual scope f cd A outer s H E) (e₀::rest) ta)
  (he:starEach (e₀::rest) (cxOf (CXe P w) P w K mg base N qual scope f cd A outer s H E).env=(false,eval e₀ (cxOf (CXe P w) P w K mg base N qual scope f cd A outer s H E).env)::starEach rest (cxOf (CXe P w) P w K mg base N qual scope f cd A outer s H E).env:=by rfl)
  (hplain:(backTo cpos (starEach rest (cxOf (CXe P w) P w K mg base N qual scope f cd A outer s H E).env)).any (·.1)=false:=by rfl) (hd:(x==("__debug__" : Str))=false:=by decide):
  PS (cxOf (CXe P w) P w K mg base N qual scope f cd A outer s H E) (.Raise (some (.Call (.Name x np) (e₀::rest) [] cpos)) none pos) (Ka_ C E ta):=by
 intro pins s1 σ H1 D I h
 subst hn
 obtain⟨bm,Nc,nm,q,bs,hdct,sn,sub,ab,col,dd,k0,k1,k2,k3,k5,mN,hC,hN,hni,T⟩:=La_ I.mod.kin hx
 refine wpAny_Raise_call_subU (C:=C) (nm:=nm) (q:=q) (N:=Nc) (bs:=bs) (bm:=bm) (hdct:=hdct) (sn:=sn) (sub:=sub) (ab:=ab) (col:=col) (dd:=dd) (k0:=k0) (k1:=k1) (k2:=k2) (k3:=k3) (k5:=k5)
  xu_ (bmB:=bmV) (by decide +kernel) xu_ (mN:=mN) (T.hasType xu_.hasBase) (I.ok.hd rfl) (by rw[he];show (false||(backTo cpos (starEach rest _)).any (·.1))=false;rw[hplain];rfl) hni (UY I hg hm ⟨rfl,?_⟩ hd)
 have hA:=ha cpos pins s1 σ H1 _ I h
 rw[he]at hA ⊢
 refine xv_ (thn hA fun us s2 ⟨vs,H2,I2,r2,hz,q2⟩=>⟨rfl,by rw[<-r2.length];exact hz,I2.bk _ _ hC,hN.keeps I2.bk,T.keeps I2.bk,fun h' e hm=>MF_ I2 hm q2⟩)
end
end L2
namespace L2
open PySem PySem.Spec PyProof.Rows
noncomputable def excO (ea C:Addr):HO:=.ext (ExcAt ea C)
theorem Ba_  : Oi X (.builtin "isinstance") (fun xs H Q=>∃ea C c cv b,xs=[.ref ea,c]/\H ea=some (excO ea C)/\ExcCls X.K C/\(∀u,RelV c u->u=cv)/\kitOne X.K (.ref C) cv=some b/\Q (.bl b) H):=by
 intro pins s σ H xs us Q I r h
 obtain⟨ea,C,c,cv,b,rfl,hea,hC,hc,hk,q⟩:=h
 obtain⟨u,w',rfl,rx,rc⟩:=vals2 r
 rw[hc _ rc]
 cases rx
 obtain⟨p,_,_⟩:=(show C3 X.prog X.w H s.heap ea (.ext (ExcAt ea C)) from I.hok ea _ hea)
 exact qa_ (IL_ hC) I.kIn p hk (fun z=>nomatch z) fun tk=>⟨.bl b,H,I.tok tk,rfl,q⟩
end L2
namespace HT
open PySem PySem.Spec PyProof.Rows
open PySem.AutoSeq1 (wpAny_loadPart')
section
open PySem.SeqAt PySem.MeetsSeq PySem.MeetsSeq2 PySem.MeetsSeq3
theorem tuple_addW0 (l b:Addr)(items items2:Array Value)(n n2:Nat)(dd dd2:Option Addr)(sl sl2:Array (α5))(hc0:items.isEmpty=true):
  Meets (Builtin.«tuple.__add__» ⟨[.ref l,.ref b],[]⟩) (fun _ R s=>s.heap.get? l=some {cls:=.type "tuple",dict:=dd,data:=.seq items n,slots:=sl}/\s.heap.get? b=some {cls:=.type "tuple",dict:=dd2,data:=.seq items2 n2,slots:=sl2}/\R (.ok (.ret (Value.ref b))) {s with heap:=s.heap,toks:=s.toks}):=
 .of_wp fun prog w A R s h=>by obtain⟨hp,g,d,tk,os⟩:=s;obtain⟨hl,hb,h⟩:=h;have f1:=AutoSeq1.idx_int;have f2:=AutoSeq1.sub_tuple_tuple;have f3:=AutoSeq1.sub_list_list;have f4:=AutoSeq1.sub_tuple_list;have f5:=AutoSeq1.sub_list_tuple;wp_walk using wpAny_loadPart' hl,wpAny_loadPart' hb;exact⟨_,rfl,h⟩
end
end HT
namespace L2
open PySem PySem.Spec PyProof.Rows
section
variable {X:Cx}
noncomputable def Kk (K:α3):R2:=fun x y H Q=>∃a b xs ys,x=.ref a/\y=.ref b/\SqT K H a xs/\SqT K H b ys/\xs.length+ys.length<=sizeLine /\
 (xs=[]->Q (.ref b) H)/\(xs ≠ []->ys=[]->Q (.ref a) H)/\(xs ≠ []->ys ≠ []->∀p,H p=none->Q (.ref p) (upd H p (.tup (xs++ys))))
theorem Od:OpR X (binaryOp .Add) (Kk X.K):=by
 intro pins s σ H x y v u Q I rx ry h
 obtain⟨a,b,xs,ys,rfl,rfl,ha,hb,hz,q0,q1,q2⟩:=h
 by_cases hx:xs=[]
 ·subst hx
  cases rx
  cases ry
  obtain⟨its,r1,p1,_⟩:=I.tuple ha
  obtain⟨its2,r2,p2,_⟩:=I.tuple hb
  have:its=[]:=r1.nil_iff.mpr rfl
  subst this
  obtain⟨⟨cls,dd,data,sl⟩,ho,hc,n,hd⟩:=id p1
  obtain⟨⟨cls2,dd2,data2,sl2⟩,ho2,hc2,n2,hd2⟩:=id p2
  simp only at hc hd hc2 hd2
  subst hc hd hc2 hd2
  exact concat_meets ⟨_,ho,rfl⟩ ⟨_,ho2,rfl⟩ noFill_tuple_add seq_tuple_add xT_ xJ_ (xG_ _ _)
   (HT.tuple_addW0 a b _ _ n n2 dd dd2 sl sl2 rfl) ⟨ho,ho2,⟨.ref b,H,I,rfl,q0 rfl⟩⟩
 ·exact KU_ pins s σ H _ _ v u Q I rx ry ⟨a,b,xs,ys,rfl,rfl,ha,hb,hx,hz,q1 hx,q2 hx⟩
end
theorem Hc_      (Pv:Nat->St->Hp->Prop)(h0:∃m,Pv m σ H)
  (hs:∀m σ H,Pv m σ H->c σ H fun b H1=>if b=true then ∃N:St->Hp->Prop,(∀σ' H',N σ' H'->∃m',m'<m/\Pv m' σ' H')/\tb {D with nx:=N,ct:=N,bk:=D.nx} σ H1 else D.nx σ H1):JB_ c tb D σ H:=⟨Pv,h0,hs⟩
theorem MG_ {K:α3}    {lo hi:Option Int}:rSlT K x lo hi H Q=∃a xs,x=.ref a/\SqT K H a xs /\
 ¬ (HT.sIx xs.length 0 lo=0/\HT.sIx xs.length xs.length hi=xs.length)/\∀p,H p=none->Q (.ref p) (upd H p (.tup (cutV xs lo hi))):=rfl
inductive TyW (K:α3)(H:Hp):V->Value->Prop where
 | non:TyW K H .non (.type "NoneType")
 | bl (x:Bool):TyW K H (.bl x) (.type "bool")
 | int (i:Int):TyW K H (.int i) (.type "int")
 | str (x:Str):TyW K H (.str x) (.type "str")
 | lst {a:Addr} {xs:List V} (e:SqL K H a xs):TyW K H (.ref a) (.type "list")
 | tup {a:Addr} {xs:List V} (e:SqT K H a xs):TyW K H (.ref a) (.type "tuple")
 | exc {a C:Addr} (e:H a=some (excO a C)) (c:ExcCls K C):TyW K H (.ref a) (.ref C)
theorem El  : Oi X (.builtin "isinstance") (fun xs H Q=>∃x c cv t b,xs=[x,c]/\TyW X.K H x t/\(∀u,RelV c u->u=cv)/\kitOne X.K t cv=some b/\Q (.bl b) H):=by
 intro pins s σ H xs us Q I r h
 obtain⟨x,c,cv,t,b,rfl,ty,hc,hk,q⟩:=h
 cases ty with
 |non=>exact KY pins s σ H _ us Q I r ⟨_,c,cv,_,b,rfl,.non,hc,hk,q⟩
 |bl y=>exact KY pins s σ H _ us Q I r ⟨_,c,cv,_,b,rfl,.bl y,hc,hk,q⟩
 |int y=>exact KY pins s σ H _ us Q I r ⟨_,c,cv,_,b,rfl,.int y,hc,hk,q⟩
 |str y=>exact KY pins s σ H _ us Q I r ⟨_,c,cv,_,b,rfl,.str y,hc,hk,q⟩
 |exc e hC=>exact Ba_ pins s σ H _ us Q I r ⟨_,_,c,cv,b,rfl,e,hC,hc,hk,q⟩
 |@lst a xs e=>
  obtain⟨u,w',rfl,rx,rc⟩:=vals2 r
  rw[hc _ rc]
  cases rx
  obtain⟨its,_,pl,_⟩:=I.list e
  obtain⟨o,ho,hcl,_⟩:=pl.isList
  exact qa_ zl_ I.kIn ⟨o,ho,hcl⟩ hk (fun z=>nomatch z) fun tk=>⟨.bl b,H,I.tok tk,rfl,q⟩
 |@tup a xs e=>
  obtain⟨u,w',rfl,rx,rc⟩:=vals2 r
  rw[hc _ rc]
  cases rx
  obtain⟨its,_,⟨o,ho,hcl,_⟩,_⟩:=I.tuple e
  exact qa_ PySem.W.kitx_tuple I.kIn ⟨o,ho,hcl⟩ hk (fun z=>nomatch z) fun tk=>⟨.bl b,H,I.tok tk,rfl,q⟩
end L2
namespace GW
noncomputable def MH_ (L:Int):α2->α2
 |[]=>[0]
 |x::r=>if x=L-1 then 0::MH_ L r else (x+1)::r
noncomputable def EV (L:Int)(w:α2):α2:=(MH_ L w.reverse).reverse
noncomputable def Kb_ (L:Int):α2->Int
 |[]=>0
 |x::r=>Kb_ L r*L+x+1
noncomputable def place (L:Int)(w:α2):Int:=Kb_ L w.reverse
noncomputable def inW (L x:Int):Bool:=decide (0<=x)&&decide (x<L)
noncomputable def isW (L:Int)(ws:α2):Bool:=ws.all (inW L)
theorem Lb_  : inW L x=true↔0<=x/\x<L:=by simp[inW]
theorem CG   : isW L ws=true ↔ ∀x∈ws,0<=x/\x<L:=by simp[isW,Lb_]
noncomputable def many (L:Int):Nat->Int
 |0=>0
 |k+1=>many L k*L+1
noncomputable def val (L:Int):α2->Int
 |[]=>0
 |x::r=>val L r*L+x
end GW
namespace L2
open PySem PySem.Spec PyProof.Rows
section
variable {P:Program} {w:World} {K:α3} {mg:Str->α5} {base:Heap}
theorem Fun.okE  {st:Stmt}      (F:Fun K x qual st f fd)(S:FnScope N ps (Ad st))(len:∀vs H Q E,sp vs H Q E->vs.length=ps.length)
  (hbody:∀(cdv:Value) (A:Around) (outer:List Env) (s:Shared) (H:Hp) (vs:List V) (Q:VK) (E:XK),Room k (A.deeper (envOfC qual (Ad st) s.heap.objs.size f cdv))->sp vs H Q E ->
   ∃t,PSs (cxOf (CXe P w) P w K mg base N qual (Ad st) f cdv A outer s H E) (Ai st) t/\t {nx:=fun _ H'=>Q .non H',rt:=Q} (start N vs) H):FnOk P w K mg base (CXe P w) (k+1) f fd ps sp:=by
 obtain⟨oc,od,kV,doc,pm,an,cdv,ct,osl,rfl,lk,hcd⟩:=F.ex
 exact Ma_ lk hcd S len fun A outer s H vs Q E hr hsp=>hbody cdv A outer s H vs Q E hr hsp
theorem Rb  : Ml (CXe P w) X E0:=fun _ _ _ _ _ _ _ h=>by
 obtain⟨_,_,_,_,_,_,_,_,_,_,q⟩:=h
 exact q.elim
end
section
variable {te ta tb:TE} {A:TA} {D:Ends} {σ:St} {H:Hp} {Q:VK} {K:α3} {tbd ts:TS}
theorem Hd_   : JI_ x vs H Q=∃l xs,x=.ref l/\vs=[]/\H l=some (.lst xs)/\Q .non (upd H l (.lst [])):=rfl
theorem MI_  : rCat x y H Q=∃l b xs zs,x=.ref l/\y=.ref b/\H l=some (.lst xs)/\H b=some (.lst zs)/\xs.length+zs.length<=sizeLine/\∀p,H p=none->Q (.ref p) (upd H p (.lst (xs++zs))):=rfl
theorem He_   : Ka_ C E A D σ H=A σ H fun vs H1=>vs.length<=sizeLine/\E (.ref C) none H1:=rfl
end
end L2
namespace L2
open PySem PySem.Spec PyProof.Rows
theorem Lc_ (x y:Int):eqV (.int x) (.int y)=decide (V.int x=V.int y):=by
 by_cases h:x=y
 ·subst h;simp[eqV]
 ·rw[jY_ (fun z=>h (by injection z))];simp[eqV,h]
theorem EqD.ints {K:α3}{H:Hp}{a c:Addr}{xs ys:α2}(hq:(SqL K H a (xs.map V.int)/\SqL K H c (ys.map V.int))\/(SqT K H a (xs.map V.int)/\SqT K H c (ys.map V.int)))(n:Nat):EqD K H (n+1) (.ref a) (.ref c) (decide (xs=ys)):=by
 have:=EqD.flat hq (fun x hx=>by obtain⟨_,_,rfl⟩:=PN hx;rfl) (fun x hx=>by obtain⟨_,_,rfl⟩:=PN hx;rfl) (fun x hx y hy=>by obtain⟨_,_,rfl⟩:=PN hx;obtain⟨_,_,rfl⟩:=PN hy;exact Lc_ _ _) n
 have e:decide (xs.map V.int=ys.map V.int)=decide (xs=ys):=by
  rw[qh_]
  simp only[qo_]
  constructor
  ·intro h
   exact (xr_ (fun a b h=>by injection h)).mp h
  ·intro h;rw[h]
 rw[e]at this
 exact this
end L2
namespace L2
open PySem PySem.Spec PyProof.Rows
section
variable {X:Cx} {K:α3}
theorem Yd (h:X.K=K):IxR X (rIxT K):=by subst h;exact AY
theorem Ye (h:X.K=K):Oi X (.type "list") (fun xs H Q=>∃p ys,xs=[.ref p]/\(SqL K H p ys\/SqT K H p ys)/\∀l,H l=none->Q (.ref l) (upd H l (.lst ys))):=by subst h;exact Mn
end
end L2
namespace GW
noncomputable def LH (ways:α1)(r x:Int):Int:=(ways.getD r.toNat []).getD x.toNat 0
noncomputable def FO (ways:α1)(ws:α2):Int:=ws.foldl (LH ways) 0
noncomputable def U7 (ways:α1)(ws:α2):α2:=(List.range (ws.length+1)).map fun j=>FO ways (ws.take j)
structure Wf (L:Int)(marks:α2)(ways:α1):Prop where
 l1:1<=L
 l6:L<=6
 n1:1<=marks.length
 n40:marks.length<=40
 len:ways.length=marks.length
 rows:∀row∈ways,(row.length:Int)=L/\∀x∈row,0<=x/\x<marks.length
 mks:∀m∈marks,0<=m/\m<=1000000000
theorem UN     (h1:ways[r.toNat]?=some row)(h2:row[x.toNat]?=some g):LH ways r x=g:=by
 unfold LH
 have e:ways.getD r.toNat []=row:=by rw[jq_,h1];rfl
 rw[e,jq_,h2];rfl
theorem Wf.row {L:Int}{marks:α2}{ways:α1}(wf:Wf L marks ways){r:Int}(h0:0<=r)(h1:r<marks.length):∃row,ways[r.toNat]?=some row/\row∈ways/\(row.length:Int)=L:=by
 have hlt:r.toNat<ways.length:=by rw[wf.len];lia
 exact⟨ways[r.toNat],by simp[hlt],qw_ hlt,(wf.rows _ (qw_ hlt)).1⟩
theorem Wf.step {L:Int}{marks:α2}{ways:α1}(wf:Wf L marks ways){r x:Int}(h0:0<=r)(h1:r<marks.length)(x0:0<=x)(x1:x<L):∃row g,ways[r.toNat]?=some row/\row[x.toNat]?=some g/\LH ways r x=g/\0<=g/\g<marks.length:=by
 obtain⟨row,hr,hm,hl⟩:=wf.row h0 h1
 have hlt:x.toNat<row.length:=by lia
 have hg:row[x.toNat]?=some row[x.toNat]:=by simp[hlt]
 exact⟨row,row[x.toNat],hr,hg,UN hr hg,(wf.rows row hm).2 _ (qw_ hlt)⟩
theorem Fx_ (ways:α1)(ws:α2)(x:Int):FO ways (ws++[x])=LH ways (FO ways ws) x:=by
 unfold FO
 rw[xe_];rfl
theorem Oe {ways:α1}{ws:α2}{i:Nat}{x:Int}(h:ws[i]?=some x):FO ways (ws.take (i+1))=LH ways (FO ways (ws.take i)) x:=by
 rw[jD_,h]
 exact Fx_ _ _ _
theorem Wf.walk    (wf:Wf L marks ways)  (hw:isW L ws=true):∀i,0<=FO ways (ws.take i)/\FO ways (ws.take i)<marks.length:=by
 intro i
 induction i with
 |zero=>have:=wf.n1;simp[FO];lia
 |succ i ih=>
  cases e:ws[i]? with
  |none=>
   have hle:=List.getElem?_eq_none_iff.mp e
   rw[q2_ s!""]
   rw[q2_ hle]at ih
   exact ih
  |some x=>
   rw[Oe e]
   have hx:=CG.mp hw x (jf_ e)
   obtain⟨_,g,_,_,h,h0,h1⟩:=wf.step ih.1 ih.2 hx.1 hx.2
   rw[h];exact⟨h0,h1⟩
theorem Yf (ways:α1)(ws:α2):(U7 ways ws).length=ws.length+1:=by simp[U7]
end GW
namespace L2
open PySem PySem.Spec PyProof.Rows GW
noncomputable def Rows (K:α3)(H:Hp)(w:Addr)(ways:α1):Prop:=∃ts:List Addr,SqT K H w (ts.map V.ref)/\ts.length=ways.length/\∀(i:Nat) (t:Addr) (row:α2),ts[i]?=some t->ways[i]?=some row->SqT K H t (row.map V.int)
theorem Rows.mono {K:α3}    (h:Rows K H w ways)(e:Same H H'):Rows K H' w ways:=by
 obtain⟨ts,h1,h2,h3⟩:=h
 exact⟨ts,e.seqT h1,h2,fun i t r a b=>e.seqT (h3 i t r a b)⟩
theorem Rows.at {K:α3}{H:Hp}{w:Addr}{ways:α1}(h:Rows K H w ways){i:Nat}{row:α2}(hr:ways[i]?=some row):∃xs t,SqT K H w xs/\atI xs (i:Int)=some (V.ref t)/\SqT K H t (row.map V.int):=by
 obtain⟨ts,h1,h2,h3⟩:=h
 have hlt:i<ts.length:=by rw[h2];exact (jc_.mp hr).1
 have ht:ts[i]?=some ts[i]:=by simp[hlt]
 exact⟨_,ts[i],h1,Cq (by rw[ji_,ht];rfl),h3 i _ _ ht hr⟩
theorem Rows.atZ {K:α3}    (h:Rows K H w ways)   (h0:0<=r)(hr:ways[r.toNat]?=some row):∃xs t,SqT K H w xs/\atI xs r=some (V.ref t)/\SqT K H t (row.map V.int):=by
 obtain⟨xs,t,a,b,c⟩:=h.at hr
 exact⟨xs,t,a,by rw[<-b];congr 1;lia,c⟩
theorem Dg_    (h:xs[xs.length-1]?=some v):atI xs (-1)=some v:=by
 have hlt:=(jc_.mp h).1
 unfold atI ixN
 rw[if_neg s!"",if_pos s!""]
 show xs[(-1+(xs.length:Int)).toNat]?=some v
 rw[show (-1+(xs.length:Int)).toNat=xs.length-1 by lia]
 exact h
theorem U8 {ns:α2}{i:Int}{v:Int}(h0:0<=i)(h:ns[i.toNat]?=some v):atI (ns.map V.int) i=some (V.int v):=ME_ h0 (by rw[ji_,h];rfl)
end L2
namespace L2
open PySem PySem.Spec PyProof.Rows
section
variable {X:Cx} {pins:α7} {σ:St} {H:Hp} {s:Shared}
theorem Inv.un2  {e it:Addr}(I:Inv X pins σ H s)(k:∀b o,b≠e->b≠it->s.heap.get? b=some o->h'.get? b=some o)(f1:FpOk X pins H e)(f2:FpOk X pins H it):Un (frs X.stack) [e,it] H H s.heap h'/\HOk X.prog X.w H h':=by
 have ne:∀b u,H b=some u->b≠e/\b≠it:=fun b u q=>⟨(fun z=>by rw[z,f1.1]at q;cases q),(fun z=>by rw[z,f2.1]at q;cases q)⟩
 have nch:∀{b:Addr},b ∉ [e,it]->b≠e/\b≠it:=fun hb=>by simpa using hb
 refine⟨⟨fun b o q _ _ hb=>k b o (nch hb).1 (nch hb).2 q,fun b o q _ _ hb=>⟨o.slots,k b o (nch hb).1 (nch hb).2 q⟩,fun _ _ _ n _=>n,fun b o q hb=>⟨o,k b o (nch hb).1 (nch hb).2 q⟩,fun _ _ q=>q,fun _ _ _ q=>q,fun b ps q=>⟨#[],by rw[q];simp⟩⟩,fun b u q=>?_⟩
 refine (I.hok b u q).stay (fun c v hc qv=>?_) (fun _ q=>q) fun _ _ q=>q
 have hne:c≠e/\c≠it:=by
  rcases hc with rfl|hc
  ·exact ne _ _ q
  ·exact ne _ _ hc
 exact k c v hne.1 hne.2 qv
theorem FpOk.ch  (f:FpOk X pins H b):(b∈X.ex\/X.s₀.heap.objs.size<=b)/\b≠X.env.locals/\(∀x c,X.env.cells.lookup x=some c->c≠b)/\∀p∈X.pn++pins,p.1≠b:=⟨f.2.2.2.1,f.2.1,f.2.2.2.2.1,f.2.2.2.2.2⟩
end
theorem Kc_ {K:α3}       : gTup K n t v σ H N=∃a xs,v=.ref a/\SqT K H a xs/\xs.length=n/\t xs σ H N:=rfl
theorem Hf_       : LU_ t u vs σ H N=∃v r,vs=v::r/\t v σ H fun σ' H'=>u r σ' H' N:=rfl
theorem Kd_     : gNil vs σ H N=(vs=[]/\N σ H):=rfl
section
variable {td ty tv tx:TE} {D:Ends} {σ:St} {H:Hp} {Q:VK}
theorem Ke_:Mg_ td ty σ H Q=td σ H fun x H1=>ty σ H1 fun y H2=>∃a v,x=.ref a/\DGet H2 a y (some v)/\Q v H2:=rfl
theorem MJ_:tDIn ty td σ H Q=ty σ H fun y H1=>td σ H1 fun x H2=>∃a o,x=.ref a/\DGet H2 a y o/\Q (.bl o.isSome) H2:=rfl
theorem Kf_:Mh_ td ty tv D σ H=tv σ H fun v H1=>td σ H1 fun x H2=>ty σ H2 fun y H3=>∃a H4,x=.ref a/\DPut H3 a y v H4/\D.nx σ H4:=rfl
theorem Hg_:JL_ td ty σ H Q=td σ H fun x H1=>∃a,x=.ref a/\IsD H1 a/\ty σ H1 fun y H2=>∃o,DGet H2 a y o/\Q (o.getD .non) H2:=rfl
end
end L2
namespace GW
noncomputable def Kg_ (w:α2):List (Int×α2)->Nat->α2->List (Int×α2)
 |ents,_,[]=>ents
 |ents,x,g::r=>Kg_ w (if g∈ents.map (·.1) then ents else ents++[(g,w++[(x:Int)])]) (x+1) r
noncomputable def bfs (ways:α1):Nat->List (Int×α2)->Nat->List (Int×α2)
 |0,ents,_=>ents
 |f+1,ents,i=>match ents[i]? with
  |none=>ents
  |some e=>bfs ways f (Kg_ e.2 ents 0 (ways.getD e.1.toNat [])) (i+1)
noncomputable def Hh_ (ways:α1):List (Int×α2):=bfs ways (ways.length+1) [(0,[])] 0
end GW
namespace L2
open PySem PySem.Spec PyProof.Rows
noncomputable def ups (n:Nat):α2:=(List.range n).map fun i:Nat=>(i:Int)
noncomputable def rNeD (K:α3)(n:Nat):R2:=fun x y H Q=>∃a c b,x=.ref a/\y=.ref c/\EqD K H n x y b/\Q (.bl (!b)) H
theorem MK_ {K:α3}     : rNeD K n x y H Q=∃a c b,x=.ref a/\y=.ref c/\EqD K H n x y b/\Q (.bl (!b)) H:=rfl
theorem Bb_  (n:Nat)(hu:X.A.units+n<cLine):OpR X (compareOp .NotEq) (rNeD X.K n):=by
 intro pins s σ H x y v u Q I rx ry h
 obtain⟨a,c,b,rfl,rfl,h,q⟩:=h
 cases rx
 cases ry
 cases n with
 |zero=>exact absurd (show false=true from h.1) jm_
 |succ n=>
  rcases h with ⟨fx,_⟩|⟨a',c',xs,ys,e1,e2,hq,e,he,rfl⟩
  ·exact absurd (show false=true from fx) jm_
  ·cases e1
   cases e2
   have key:∀(its its2:List Value),Vals xs its->Vals ys its2->∀j (h1:j<its.toArray.size) (h2:j<its2.toArray.size),SeqAt.EqAt X.A.in1 s its.toArray[j] its2.toArray[j] (e j):=fun its its2 r1 r2 j h1 h2=>by
    have l1:=r1.length
    have l2:=r2.length
    rw[jg_]at h1 h2
    obtain⟨u1,g1,q1⟩:=r1.get (i:=j) (x:=xs[j]'s!"") (by simp[show j<xs.length by lia])
    obtain⟨u2,g2,q2⟩:=r2.get (i:=j) (x:=ys[j]'s!"") (by simp[show j<ys.length by lia])
    have k1:its.toArray[j]'(by rw[jg_];exact h1)=u1:=by
     have:=(jc_.mp g1).2
     simpa using this
    have k2:its2.toArray[j]'(by rw[jg_];exact h2)=u2:=by
     have:=(jc_.mp g2).2
     simpa using this
    rw[k1,k2]
    exact (EqD.at I n X.A.in1 (by rw[in1_units];lia) q1 q2 (he j _ _ (by simp[show j<xs.length by lia]) (by simp[show j<ys.length by lia]))).1
   have fin:EP X pins σ Q (.bool (!(decide (xs.length=ys.length)&&(List.range (min xs.length ys.length)).all e))) s:=⟨.bl _,H,I,rfl,q⟩
   rcases hq with ⟨h1,h2⟩|⟨h1,h2⟩
   ·obtain⟨its,r1,p1,_⟩:=I.list h1
    obtain⟨its2,r2,p2,_⟩:=I.list h2
    have l1:=r1.length
    have l2:=r2.length
    by_cases hl:xs.length=ys.length
    ·have:=SeqAt.RcNeAt.lists (e:=e) p1.isList p2.isList (by rw[jg_,jg_];lia) s!"" (key its its2 r1 r2)
     rw[jg_,<-l1]at this
     rw[jR_ hl,Bool.true_and,<-hl,Nat.min_self]at fin
     exact this _ _ _ _ fin
    ·have:=SeqAt.RcNeAt.lists_lengths (A:=X.A) p1.isList p2.isList (by rw[jg_,jg_];simp;lia) s!""
     rw[jY_ hl,Bool.false_and]at fin
     exact this _ _ _ _ fin
   ·obtain⟨its,r1,p1,_⟩:=I.tuple h1
    obtain⟨its2,r2,p2,_⟩:=I.tuple h2
    have l1:=r1.length
    have l2:=r2.length
    have:=SeqAt.RcNeAt.tuples (e:=e) (show s.heap.IsTuple a its.toArray from p1) (show s.heap.IsTuple c its2.toArray from p2) s!"" (key its its2 r1 r2)
    rw[jg_,jg_,<-l1,<-l2,GT_]at this
    exact this _ _ _ _ fin
theorem Vals.ofIx:∀{xs:List V} {us:List Value},us.length=xs.length->(∀(i:Nat) (v:Value),us[i]?=some v->∃x,xs[i]?=some x/\RelV x v)->Vals xs us
 |[],[],_,_=>.nil
 |[],_::_,h,_=>by simp at h
 |_::_,[],h,_=>by simp at h
 |x::xs,u::us,h,k=>by
  refine .cons ?_ (Vals.ofIx (by simpa using h) fun i v hv=>?_)
  ·obtain⟨y,e,r⟩:=k 0 u rfl
   cases e
   exact r
  ·obtain⟨y,e,r⟩:=k (i+1) v (by simpa using hv)
   exact⟨y,by simpa using e,r⟩
noncomputable def Itm (K:α3)(a:Addr)(xs:List V):It:=⟨fun i H=>i<xs.length/\SqL K H a xs,fun i H x H'=>∃t v,H t=none/\xs[i]?=some v/\x=.ref t/\H'=upd H t (.tup [.int i,v]),fun i H=>i=xs.length/\SqL K H a xs⟩
theorem Fy_ {P:Program}{w:World}{K:α3}{elts:List Expr}{x1}{tpos:Pos}(a e it:Addr)(hei:e≠it)(hai:a≠it)(hae:a≠e)(xs:List V):Turn P w K (.Tuple elts x1 tpos) (Itm K a xs) [e,it] e (fun i h=>∃old,IsEnum h e it (i:Nat) old/\h.IsListIter it a i) where
 mem:=by simp
 obj:=fun i h st b hb=>by
  obtain⟨old,h1,o,h2,c,d⟩:=st
  rcases jA_.mp hb with rfl|hb
  ·exact⟨_,h1,fun v z=>by cases z⟩
  ·rw[js_.mp hb]
   exact⟨o,h2,fun v z=>by rw[d]at z;cases z⟩
 keep:=fun i h h' st k=>by
  obtain⟨old,h1,h2⟩:=st
  exact⟨old,k e (by simp) _ h1,h2.at fun o q=>k it (by simp) o q⟩
 item:=by
  intro X hP hw hK hc i pins s σ H E I hf st hg
  subst hP hw hK
  obtain⟨hi,hq⟩:=hg
  obtain⟨old,he,hit⟩:=st
  obtain⟨its,rv,p,hz⟩:=I.list hq
  have hl:=rv.length
  have pt:s.heap.IsList a its.toArray:=p.isList
  have f1:=hf e (by simp)
  have f2:=hf it (by simp)
  have Dw:=Draws.list (prog:=X.prog) (w:=X.w) (A:=X.A.in1) (I.ok.hd hc) it a hai its.toArray
  refine wpAny_pyNext_enum_itemD Dw he ⟨hit,pt⟩ (by simp;lia) hei (by simp[hei,qj_ hae]) fun u h' tk hu heo hst' hget hsz hk=>?_
  have hT:s.heap.objs.size≠e:=j1_ (jk_ he)
  refine⟨_,rfl,wpAny_letOwnedTupleGo_enum heo fun h2 he2 hs2=>?_⟩
  have hk2:∀b o,b≠e->b≠it->s.heap.get? b=some o->h2.get? b=some o:=fun b o h1 h3 q=>(hs2.2 b h1).trans (hk b o h1 h3 q)
  obtain⟨un,hok⟩:=I.un2 hk2 f1 f2
  have hn:H s.heap.objs.size=none:=I.hok.fresh (jl_ _)
  have hv:xs[i]?=some xs[i]:=by simp[hi]
  obtain⟨u',hu',ru⟩:=rv.get hv
  have eu:u'=u:=by
   have hu2:its[i]?=some u:=by simpa using hu
   rw[hu']at hu2
   exact jt_ hu2
  subst eu
  have hget2:h2.get? s.heap.objs.size=some {cls:=.type "tuple",data:=.seq #[.int i tk,u']}:=(hs2.2 _ hT).trans hget
  have new:C3 X.prog X.w (upd H s.heap.objs.size (.tup [.int i,xs[i]])) h2 s.heap.objs.size (.tup [.int i,xs[i]]):=⟨by have:=Aq;simp;lia,[.int i tk,u'],.cons ⟨tk,rfl⟩ (.cons ru .nil),_,hget2,rfl,_,rfl⟩
  refine⟨.ref s.heap.objs.size,upd H s.heap.objs.size (.tup [.int i,xs[i]]),I.call' (s':={s with heap:=h2,toks:=tk+1}) (ch:=[e,it]) rfl (un.track (jl_ _) hn) (hok.track hn new) I.bare (fun b hb=>?_),rfl,⟨_,_,hn,hv,rfl,rfl⟩,?_,fun b hb=>?_⟩
  ·exact (hf b hb).ch
  ·refine⟨u',by simpa using he2,?_⟩
   exact hst'.1.at fun o q=>(hs2.2 it (qj_ hei)).trans q
  ·have hb':=hf b hb
   have:∃o,s.heap.get? b=some o:=by
    rcases jA_.mp hb with rfl|hb
    ·exact⟨_,he⟩
    ·rw[js_.mp hb]
     obtain⟨o,ho,_⟩:=hit
     exact⟨o,ho⟩
   obtain⟨o,ho⟩:=this
   rw[Ag (jF_ (jk_ ho))]
   exact hb'.1
 done:=by
  intro X hP hw hK hc i pins s σ H E I hf st hg
  subst hP hw hK
  obtain⟨hi,hq⟩:=hg
  subst hi
  obtain⟨old,he,hit⟩:=st
  obtain⟨its,rv,p,hz⟩:=I.list hq
  have hl:=rv.length
  have pt:s.heap.IsList a its.toArray:=p.isList
  have Dw:=Draws.list (prog:=X.prog) (w:=X.w) (A:=X.A.in1) (I.ok.hd hc) it a hai its.toArray
  obtain⟨f0,f1,f2,f3,f4,f5⟩:=hf it (by simp)
  refine wpAny_pyNext_enum_endD Dw he ⟨by rw[jg_,<-hl];exact hit,pt⟩ fun h' eb=>⟨rfl,I.turned (t':=s.toks) (fun b o hb e=>eb b o hb e) f0 f1 f3 f4 f5⟩
 self:=fun A i s Q E st h=>by
  obtain⟨old,he,_⟩:=st
  exact wpAny_pyIter_enum he h
noncomputable def Kh_ (K:α3)(tl:TE):TI:=fun σ H R=>tl σ H fun x H1=>∃a xs,x=.ref a/\SqL K H1 a xs/\R (Itm K a xs) H1
theorem ED_ {K:α3}     : Kh_ K te σ H Z=te σ H fun x H1=>∃a xs,x=.ref a/\SqL K H1 a xs/\Z (Itm K a xs) H1:=rfl
theorem IM_   {x1}     (hg:Gl X "enumerate")(hm:X.mg "enumerate"=none)(he:PE X e te)(hs:starEach [e] X.env=[(false,eval e X.env)]:=by rfl):PI X (.Tuple elts x1 tpos) (.Call (.Name "enumerate" p) [e] [] pos) (Kh_ X.K te):=by
 intro pins s σ H R I h
 refine Call_ (UZ I hg hm boot_enumerate (qD_ (thn (Aa he Ae hs pos pins s σ H (fun vs H1=>∃a xs,vs=[.ref a]/\SqL X.K H1 a xs/\R (Itm X.K a xs) H1) I ?_) fun us s1 ⟨vs,H1,I1,r1,q1⟩=>?_) hs rfl))
 ·show te σ H _
  have:(fun x H1=>∃a xs,x=V.ref a/\SqL X.K H1 a xs/\R (Itm X.K a xs) H1)=(fun x H1=>tNil σ H1 fun xs H2=>∃a ys,x::xs=[V.ref a]/\SqL X.K H2 a ys/\R (Itm X.K a ys) H2):=by
   funext x H1
   simp[tNil]
  rw[<-this]
  exact h
 ·obtain⟨a,xs,rfl,hq,q⟩:=q1
  cases r1 with
  |cons r rr=>
   cases rr
   cases r
   obtain⟨its,rv,p,hz⟩:=I1.list hq
   have pt:s1.heap.IsList a its.toArray:=p.isList
   obtain⟨oa,hoa,_⟩:=id pt
   have ha:=jk_ hoa
   refine call_enumerate_list pt fun h' he' hit' hsz hk=>?_
   refine wpAny_pyIter_enum (s:={s1 with heap:=h' }) he' ?_
   have I2:Inv X pins σ H1 {s1 with heap:=h' }:=I1.kept (t':=s1.toks) hk
   refine⟨s1.heap.objs.size+1,[s1.heap.objs.size+1,s1.heap.objs.size],_,_,H1,rfl,I2,Fy_ a (s1.heap.objs.size+1) s1.heap.objs.size (Nat.succ_ne_self _) (jF_ ha) (jF_ (Nat.lt_succ_of_lt ha)) xs,⟨_,he',hit'⟩,fun b hb=>?_,q⟩
   have hle:s1.heap.objs.size<=b:=by
    rcases jA_.mp hb with rfl|hb
    ·lia
    ·rw[js_.mp hb];exact jl_ _
   exact I1.fpOk hle (I1.hok.fresh hle)
theorem forM {K:α3}        (Pv:Nat->St->Hp->Prop)(h0:Pv 0 σ H)(hl:∀i σ H,i<=xs.length->Pv i σ H->SqL K H a xs)
  (hs:∀i v σ H t,xs[i]?=some v->Pv i σ H->H t=none->g (.ref t) σ (upd H t (.tup [.int i,v])) fun σ2 H2=>tb {D with nx:=Pv (i+1),ct:=Pv (i+1),bk:=D.nx} σ2 H2) (hd:∀σ H,Pv xs.length σ H->D.nx σ H):ForW (Itm K a xs) g tb D σ H:=by
 refine⟨fun i m σ H=>m=xs.length-i/\i<=xs.length/\Pv i σ H,⟨xs.length,by simp,qp_ _,h0⟩,?_⟩
 rintro i m σ H ⟨rfl,hi,p⟩
 by_cases hlt:i<xs.length
 ·refine .inr ⟨⟨hlt,hl i σ H hi p⟩,Pv (i+1),fun σ' H' p'=>⟨xs.length-(i+1),by lia,rfl,hlt,p'⟩,fun x H' y=>?_⟩
  obtain⟨t,v,hn,hv,rfl,rfl⟩:=y
  exact hs i v σ H t hv p hn
 ·have e:i=xs.length:=by lia
  subst e
  exact .inl ⟨⟨rfl,hl _ σ H hi p⟩,hd σ H p⟩
theorem Hi_     : JH_ x vs H Q=∃l xs i k y,x=.ref l/\vs=[.int i]/\H l=some (.lst xs) /\ -(2 ^ 63)<=i/\i<2 ^ 63/\seqIndex? i xs.length=some k/\xs[k]?=some y/\Q y (upd H l (.lst (xs.eraseIdx k))):=rfl
noncomputable def rng (i j:Int):α2:=(List.range (j-i).toNat).map fun k:Nat=>i+(k:Int)
end L2
namespace PySem
open Sem (wp)
noncomputable def Heap.DEnt (h:Heap)(d:Addr)(es:Array DictEntry)(ep:Nat):Prop:=∃o,h.get? d=some o/\o.ExactDict/\o.data=.dict es ep
section
variable {prog:Program} {w:World} {A:Around} {E:Value->Shared->Prop} {s:Shared} {d it:Addr} {es:Array DictEntry} {i ep:Nat}
theorem Heap.DEnt.typeIs (h:s.heap.DEnt d es ep):s.TypeIs (.ref d) "dict" := let ⟨o,ho,hc,_⟩:=h;⟨o,ho,hc.1⟩
theorem Heap.DEnt.at {h h':Heap}(x:h.DEnt d es ep)(e:∀o,h.get? d=some o->h'.get? d=some o):h'.DEnt d es ep:=let ⟨o,ho,r⟩:=x;⟨o,e _ ho,r⟩
theorem Heap.DEnt.lt_size {h:Heap}(x:h.DEnt d es ep):d<h.objs.size:=let ⟨_,ho,_⟩:=x;jk_ ho
theorem U9  (hd:(d==sysModules)=false)(hm:s.heap.DEnt d es ep)
  (hQ:Q (.ref s.heap.objs.size) {s with heap:=s.heap.push {cls:=.type "dict_keyiterator",data:=.fields #[.ref d,.int 0 0,.int es.size 0,.int ep 0]} }):wpAny (model prog w) A (pyIter (.ref d)) Q E s:=by
 have hT:=hm.typeIs
 obtain⟨o,ho,hc,hdat⟩:=id hm
 refine wpAny_pyIter_slot hT F.slot_dict_iter (jS_ F.slot_dict_iter hT F.entry_dict_iter (?_:wpAny _ _ (Builtin.«dict.__iter__» _) _ _ s) (F.args_dict_iter_1 _))
 unfold Builtin.«dict.__iter__»;refine wpAny_bind ?_
 unfold Builtin.Dict.dictSlotNone;refine wpAny_bind (wpAny_notOrdered_dict hT ?_)
 show wpAny _ _ (pure (Value.ref d)) _ _ s;refine je_ ?_
 show wpAny _ _ (Builtin.Dict.showsAll d >>= _) _ _ s;unfold Builtin.Dict.showsAll
 rw[if_neg (fun z=>by rw[hd]at z;cases z)]
 refine ja_ (je_ (ja_ (qQ_ ho hdat (ja_ (qY_ ho hdat ?_)))))
 refine ja_ (jN_ (je_ ⟨_,rfl,"dict_keyiterator",_,⟨_,jo_ _ rfl,rfl⟩,qB_.lookup,?_⟩));simpa [rawInt] using hQ
theorem Lo  (hit:s.heap.IsKeyIter it d i es.size ep)(hm:s.heap.DEnt d es ep)(hlt:i<es.size)
  (hQ:∀h',h'.IsKeyIter it d (i+1) es.size ep->Heap.SameBut it s.heap h'->Q (some es[i].key) {s with heap:=h' }):wpAny (model prog w) A (pyNext (.ref it)) Q E s:=by
 obtain⟨o,ho,hc,hd⟩:=id hit
 obtain⟨od,hod,hcd,hdd⟩:=id hm
 have hown:Builtin.Dict_items.ownsTuple "dict_keyiterator"=false:=by decide
 unfold pyNext
 refine ja_ (qW_ (jM_ (name:=Str.ofString "__next__") hit.typeIs qB_ (jS_ qB_ hit.typeIs F.entry_dict_keyiterator_next ?_ (F.args_dict_keyiterator_next_1 _))))
 refine ja_ (je_ (ja_ (ja_ ?_)))
 first|refine ja_ (qV_ hit.typeIs (je_ (ja_ (q8_ ho hd ?_))))|refine ja_ (xf_ hit.typeIs (je_ (ja_ (q8_ ho hd ?_))))
 simp only[hown,j5_,qM_];show wpAny _ _ (if (Value.ref d==Value.none)=true then _ else _) _ _ s
 rw[if_neg (show ¬ ((Value.ref d==Value.none)=true) from fun z=>jm_ z)]
 refine ja_ (je_ (ja_ (qQ_ hod hdd ?_)))
 rw[if_neg (by simp)];refine ja_ (je_ (ja_ (qY_ hod hdd ?_)))
 rw[if_neg (by simp)];refine je_ ?_
 simp only[show ¬ ((i:Int)<0) from by lia,qM_,jB_,q9_ hlt];refine ja_ ?_
 first|refine ja_ (qV_ hit.typeIs (je_ (ja_ (x2_ hit.typeIs ?_))))|refine ja_ (xf_ hit.typeIs (je_ (ja_ (x2_ hit.typeIs ?_))))
 show wpAny _ _ (setField (.ref it) 1 (rawInt ((i:Int)+1)) >>= _) _ _ s;refine ja_ (xx_ ho hd (by simp) ?_)
 have hit':(s.heap.update it (Obj.mapFields (·.setIfInBounds 1 (rawInt ((i:Int)+1))))).IsKeyIter it d (i+1) es.size ep:=⟨_,qz_ _ ho (Obj.isFreed_of_fields (xM_ hd _)),(Obj.cls_mapFields ..).trans hc,by rw[xM_ hd];simp[rawInt]⟩
 refine ja_ (qC_ (ja_ (x2_ (s:={s with heap:=s.heap.update it (Obj.mapFields (·.setIfInBounds 1 (rawInt ((i:Int)+1))))}) hit'.typeIs ?_)))
 show wpAny _ _ (pure es[i].key) _ _ _;exact je_ (je_ ⟨_,rfl,je_ (hQ _ hit' (qZ_ ..))⟩)
theorem Mr  (hh:A.handled=none)(hit:s.heap.IsKeyIter it d i es.size ep)(hm:s.heap.DEnt d es ep)(hge:es.size<=i)
  (hQ:∀h',Heap.ExtBut it s.heap h'->Q none {s with heap:=h' }):wpAny (model prog w) A (pyNext (.ref it)) Q E s:=by
 obtain⟨o,ho,hc,hd⟩:=id hit
 obtain⟨od,hod,hcd,hdd⟩:=id hm
 have hown:Builtin.Dict_items.ownsTuple "dict_keyiterator"=false:=by decide
 unfold pyNext
 refine ja_ (qW_ (jM_ (name:=Str.ofString "__next__") hit.typeIs qB_ (jS_ qB_ hit.typeIs F.entry_dict_keyiterator_next ?_ (F.args_dict_keyiterator_next_1 _))))
 refine ja_ (je_ (ja_ (ja_ ?_)))
 first|refine ja_ (qV_ hit.typeIs (je_ (ja_ (q8_ ho hd ?_))))|refine ja_ (xf_ hit.typeIs (je_ (ja_ (q8_ ho hd ?_))))
 simp only[hown,j5_,qM_];show wpAny _ _ (if (Value.ref d==Value.none)=true then _ else _) _ _ s
 rw[if_neg (show ¬ ((Value.ref d==Value.none)=true) from fun z=>jm_ z)]
 refine ja_ (je_ (ja_ (qQ_ hod hdd ?_)))
 rw[if_neg (by simp)];refine ja_ (je_ (ja_ (qY_ hod hdd ?_)))
 rw[if_neg (by simp)];refine je_ ?_
 simp only[show ¬ ((i:Int)<0) from by lia,qM_,jB_,xU_ hge];refine ja_ ?_
 first|refine ja_ (qV_ hit.typeIs (je_ ?_))|refine ja_ (xf_ hit.typeIs (je_ ?_))
 show wpAny _ _ (setField (.ref it) 0 .none >>= _) _ _ s;refine ja_ (xx_ ho hd (by simp) ?_)
 show wpAny _ _ (newExc (.type "StopIteration") [] >>= _) _ _ _;refine ja_ ?_
 simp only[newExc,newTuple];refine ja_ (jN_ ?_ (by size_fits))
 refine ja_ (m:=firstArgMember _ _) (wpAny_of_eq (a:=Value.none) (by first|rfl|(simp only[firstArgMember];rfl)) (jN_ ?_ (by size_fits)))
 simp only[raiseNew];refine ja_ (wpAny_handled ?_)
 rw[show A.in1.handled=none from hh];refine ja_ (je_ (wpAny_throw ?_))
 refine ja_ (x4_ (T := "StopIteration") (b:=true) ⟨_,jo_ _ rfl,rfl⟩ isSubtype_stop (je_ (hQ _ (((qZ_ ..).extBut.push _).push _))))
theorem Walks.dent (hh:A.handled=none)(I:Addr)(hne:d≠I):Walks prog w A I [I,d] [I] es.size (fun i v=>∃e,es[i]?=some e/\v=e.key) (fun i h=>h.IsKeyIter I d i es.size ep/\h.DEnt d es ep) where
 sub:=fun b hb=>by simp at hb;simp[hb]
 frame:=fun _ _ _ st hk=>⟨st.1.at fun o e=>hk I (by simp) o e,st.2.at fun o e=>hk d (by simp) o e⟩
 item:=fun i s Q E hi st hQ=>by
  refine Lo st.1 st.2 hi fun h' hit' hs'=>?_
  exact hQ _ h' s.toks ⟨es[i],by simp[hi],rfl⟩ ⟨hit',st.2.at fun o e=>hs'.extBut d o hne e⟩ fun b o hb e=>hs'.extBut b o (fun z=>hb (by simp[z])) e
 done:=fun s Q E st hQ=>Mr hh st.1 st.2 (jl_ _) fun h' he'=>hQ h' s.toks fun b o hb e=>he' b o (fun z=>hb (by simp[z])) e
 self:=fun _ _ _ _ st hQ=>wpAny_pyIter_keyiter st.1 hQ
theorem IN_ (lo:(d==sysModules)=false):PySem.W.KdlSrc prog w "dict" d d es.size (fun i v=>∃e,es[i]?=some e/\v=e.key) (fun h=>h.DEnt d es ep) where
 type:=fun _ hm=>hm.typeIs
 there:=fun _ hm=>⟨hm.lt_size,hm.lt_size⟩
 keep:=fun _ _ hm hk=>hm.at fun o e=>hk d (.inl rfl) o e
 notList:=by decide
 notTuple:=by decide
 hint:=fun _ _ _ _ hm hq=>PySem.W.kdl_hint_dict hm.typeIs hq
 iter:=fun _ _ hh hm=>⟨_,_,(fun _ _ hq=>U9 lo hm hq),Walks.dent hh _ (jF_ hm.lt_size),⟨⟨_,jo_ _ rfl,rfl,rfl⟩,hm.at fun o e=>jd_ _ e⟩⟩
end
end PySem
namespace L2
open PySem PySem.Spec PyProof.Rows
theorem Rc {α β:Type}{F:α->β->Prop}:∀{l:List α} {m:List β} {i:Nat} {a:α},Paired F l m->l[i]?=some a->∃b,m[i]?=some b/\F a b
 |_,_,_,_,.nil,e=>by simp at e
 |_,_,0,_,.cons r _,e=>by simp at e;subst e;exact⟨_,rfl,r⟩
 |_,_,i+1,a,.cons _ t,e=>by
  obtain⟨b,h1,h2⟩:=Rc (i:=i) (a:=a) t (by simpa using e)
  exact⟨b,by simpa using h1,h2⟩
theorem Dh_       (ok:HOk P w H h)(e:Rd H a (.dT kvs)):
  ∃o es ep,h.get? a=some o/\o.ExactDict/\o.data=.dict es ep/\es.size=kvs.length/\(a==sysModules)=false/\kvs.length<=sizeLine /\
   ∀(i:Nat) (k:List Key) (v:V),kvs[i]?=some (k,v)->∃b en,es[i]?=some en/\en.key=.ref b/\H b=some (.tup (k.map kV)):=by
 obtain⟨z,y,xs,r,o,es,ep,h1,h2,h3,h4,h5⟩:=(show C3 P w H h a (.dT kvs) from ID_ ok e)
 have hl:=x9_ r
 have hs:es.size=kvs.length:=by rw[<-qg_,h4,jb_,hl]
 refine⟨o,es,ep,h1,h2,h3,hs,y,z,fun i k v hk=>?_⟩
 obtain⟨q,hq,e1,e2,_⟩:=Rc r hk
 refine⟨q.2.1,entryOfKey (tupleKind (ED P w)) q,?_,rfl,e2⟩
 rw[<-qn_,h4,ji_,hq];rfl
section
variable {X:Cx} {pins:α7} {σ:St} {H:Hp} {s:Shared} {a:Addr}
theorem Inv.freeze   (I:Inv X pins σ H s)(e:H a=some (.dT kvs))(ho:s.heap.get? a=some o):Inv X pins σ (upd H a (.frz o (.dT kvs))) s:=by
 refine Da_ (h':=s.heap) (t':=s.toks) I (by rw[e];exact True.intro) ⟨rfl,fun _ _=>rfl⟩ ⟨o,ho⟩ ?_
 obtain⟨z,y,xs,r,q⟩:=(show C3 X.prog X.w H s.heap a (.dT kvs) from I.hok a _ e)
 refine⟨ho,z,y,xs,Paired.mapP r fun p x hx=>⟨hx.1,?_,hx.2.2⟩,q⟩
 rw[Ag (fun z=>by have h1:=hx.2.1;rw[z,e]at h1;cases h1)]
 exact hx.2.1
end
noncomputable def Itd (o:Obj)(a:Addr)(kvs:List (List Key×V)):It:=⟨fun i H=>i<kvs.length/\H a=some (.frz o (.dT kvs)),fun i H x H'=>H'=H/\∃b k v,kvs[i]?=some (k,v)/\x=.ref b/\H b=some (.tup (k.map kV)),fun i H=>kvs.length<=i/\H a=some (.frz o (.dT kvs))⟩
theorem Fz_ {P:Program}{w:World}{K:α3}{tg:Expr}{o:Obj}{a it:Addr}{kvs:List (List Key×V)}{es:Array DictEntry}{ep:Nat}(hai:a≠it)(hc:o.ExactDict)(hd:o.data=.dict es ep)(hs:es.size=kvs.length):
  Turn P w K tg (Itd o a kvs) [it] it (fun i h=>h.IsKeyIter it a i es.size ep) where
 mem:=by simp
 obj:=fun i h st b hb=>by
  have e:b=it:=by simpa using hb
  subst e
  obtain⟨o,e,c,d⟩:=st
  exact⟨o,e,fun v z=>by rw[d]at z;cases z⟩
 keep:=fun i h h' st k=>st.at fun o e=>k it (by simp) o e
 item:=by
  intro X hP hw hK hcm i pins s σ H E I hf st hg
  subst hP hw hK
  obtain⟨hi,hq⟩:=hg
  obtain⟨hko,_⟩:=(show C3 X.prog X.w H s.heap a (.frz o (.dT kvs)) from I.hok a _ hq)
  obtain⟨o',es',ep',g1,g2,g3,g4,g5,g6,g7⟩:=Dh_ I.hok (.inr ⟨o,hq⟩)
  rw[hko]at g1
  cases g1
  rw[hd]at g3
  cases g3
  obtain⟨kv,hkv⟩:∃kv,kvs[i]?=some kv:=⟨kvs[i],by simp[hi]⟩
  obtain⟨k,v⟩:=kv
  obtain⟨b,en,e1,e2,e3⟩:=g7 i k v hkv
  obtain⟨f0,f1,f2,f3,f4,f5⟩:=hf it (by simp)
  have hlt:i<es.size:=by lia
  have ee:es[i]=en:=by rw[q9_ hlt]at e1;exact jt_ e1
  refine Lo st ⟨o,hko,hc,hd⟩ hlt fun h' st' sb=>?_
  have I1:Inv X pins σ H {s with heap:=h' }:=I.turned (t':=s.toks) (fun b o hb e=>(sb.2 b hb).trans e) f0 f1 f3 f4 f5
  obtain⟨io,e,c,d⟩:=id st'
  exact⟨_,rfl,Is_ (s:={s with heap:=h' }) e c d (by decide) ⟨.ref b,H,I1,(by rw[ee,e2];rfl),⟨rfl,b,k,v,hkv,rfl,e3⟩,st',fun b hb=>(hf b hb).1⟩⟩
 done:=by
  intro X hP hw hK hcm i pins s σ H E I hf st hg
  subst hP hw hK
  obtain⟨hi,hq⟩:=hg
  obtain⟨hko,_⟩:=(show C3 X.prog X.w H s.heap a (.frz o (.dT kvs)) from I.hok a _ hq)
  obtain⟨f0,f1,f2,f3,f4,f5⟩:=hf it (by simp)
  exact Mr (I.ok.hd hcm) st ⟨o,hko,hc,hd⟩ s!"" fun h' eb=>⟨rfl,I.turned (t':=s.toks) (fun b o hb e=>eb b o hb e) f0 f1 f3 f4 f5⟩
 self:=fun _ _ _ _ _ st h=>wpAny_pyIter_keyiter st h
noncomputable def Ki_ (td:TE):TI:=fun σ H R=>td σ H fun x H1=>∃a kvs,x=.ref a/\H1 a=some (.dT kvs)/\∀o,R (Itd o a kvs) (upd H1 a (.frz o (.dT kvs)))
theorem EE_     : Ki_ te σ H Z=te σ H fun x H1=>∃a kvs,x=.ref a/\H1 a=some (.dT kvs)/\∀o,Z (Itd o a kvs) (upd H1 a (.frz o (.dT kvs))):=rfl
theorem IO_     (hl:PE X l tl):PI X tg l (Ki_ tl):=by
 intro pins s σ H R I h
 refine thn (hl pins s σ H _ I h) fun v s1 ⟨x,H1,I1,r1,q1⟩=>?_
 obtain⟨a,kvs,e,hq,q⟩:=q1
 subst e
 cases r1
 obtain⟨o,es,ep,g1,g2,g3,g4,g5,g6,g7⟩:=Dh_ I1.hok (.inl hq)
 have I2:=I1.freeze hq g1
 refine U9 g5 ⟨o,g1,g2,g3⟩ ?_
 refine⟨s1.heap.objs.size,[s1.heap.objs.size],_,_,_,rfl,I2.kept (t':=s1.toks) fun b o e=>jd_ _ e,Fz_ (o:=o) (kvs:=kvs) (jF_ (jk_ g1)) g2 g3 g4,⟨_,jo_ _ rfl,rfl,rfl⟩,fun b hb=>?_,q o⟩
 have e:b=s1.heap.objs.size:=by simpa using hb
 subst e
 exact I2.fpOk (jl_ _) (I2.hok.fresh (jl_ _))
theorem forD         (Pv:Nat->St->Hp->Prop)(h0:Pv 0 σ H)(hl:∀i σ H,i<=kvs.length->Pv i σ H->H a=some (.frz o (.dT kvs)))
  (hs:∀i k v b σ H,kvs[i]?=some (k,v)->Pv i σ H->H b=some (.tup (k.map kV))->g (.ref b) σ H fun σ2 H2=>tb {D with nx:=Pv (i+1),ct:=Pv (i+1),bk:=D.nx} σ2 H2) (hd:∀σ H,Pv kvs.length σ H->D.nx σ H):ForW (Itd o a kvs) g tb D σ H:=by
 refine⟨fun i m σ H=>m+i=kvs.length/\Pv i σ H,⟨kvs.length,by lia,h0⟩,fun i m σ H ⟨hm,hp⟩=>?_⟩
 have hq:=hl i σ H s!"" hp
 by_cases hi:i<kvs.length
 ·refine .inr ⟨⟨hi,hq⟩,Pv (i+1),fun σ' H' h=>⟨m-1,by lia,by lia,h⟩,fun x H' hy=>?_⟩
  obtain⟨rfl,b,k,v,hk,rfl,hb⟩:=hy
  exact hs i k v b σ _ hk hp hb
 ·have e:i=kvs.length:=by lia
  subst e
  exact .inl ⟨⟨jl_ _,hq⟩,hd σ H hp⟩
theorem IV  (hc:X.calm=true):Oi X (.type "list") (fun xs H Q=>∃p kvs,xs=[.ref p]/\Rd H p (.dT kvs)/\∀l rs,H l=none->rs.length=kvs.length ->
  (∀(i:Nat) (k:List Key) (v:V),kvs[i]?=some (k,v)->∃b,rs[i]?=some (V.ref b)/\H b=some (.tup (k.map kV)))->Q (.ref l) (upd H l (.lst rs))):=by
 intro pins s σ H xs us Q I r h
 obtain⟨p,kvs,rfl,hp,q⟩:=h
 obtain⟨u,rfl,rx⟩:=vals1 r
 cases rx
 obtain⟨o,es,ep,g1,g2,g3,g4,g5,g6,g7⟩:=Dh_ I.hok hp
 refine PySem.W.kdl_call (IN_ (es:=es) (ep:=ep) g5) (I.ok.hd hc) ⟨o,g1,g2,g3⟩ s!"" fun h' tk acc' c' hk hD hacc=>?_
 let f:DictEntry->V:=fun e=>match e.key with | .ref b=>V.ref b|_=>.non
 have hat:∀(i:Nat) (k:List Key) (v:V),kvs[i]?=some (k,v)->∃b,(es.toList.map f)[i]?=some (V.ref b)/\H b=some (.tup (k.map kV)):=fun i k v hkv=>by
  obtain⟨b,en,e1,e2,e3⟩:=g7 i k v hkv
  refine⟨b,?_,e3⟩
  rw[ji_,qn_,e1]
  show some (f en)=_
  simp only[f,e2]
 have hlen:(es.toList.map f).length=kvs.length:=by rw[jb_,qg_,g4]
 have hv:Vals (es.toList.map f) acc'.toList:=by
  refine Vals.ofIx (by rw[hlen,<-g4];simpa using hacc.1) fun i v hv=>?_
  obtain⟨e,he,rfl⟩:=hacc.2 i v (by simpa using hv)
  have hi:i<kvs.length:=by rw[<-g4];exact (Array.getElem?_eq_some_iff.mp he).1
  obtain⟨b,en,e1,e2,e3⟩:=g7 i kvs[i].1 kvs[i].2 (by simp[hi])
  rw[he]at e1
  cases e1
  refine⟨V.ref b,?_,by rw[e2];rfl⟩
  rw[ji_,qn_,he]
  show some (f e)=_
  simp only[f,e2]
 exact⟨.ref _,_,I.laid (t':=tk) hk (jl_ _) (show C3 X.prog X.w _ h' _ (.lst (es.toList.map f)) from ⟨by rw[hlen];exact g6,acc'.toList,c',hv,by simpa using hD⟩),rfl,q _ _ (I.hok.fresh (jl_ _)) hlen hat⟩
end L2
namespace GB
open GW
variable {α:Type} [DecidableEq α]
noncomputable def Nt_ (step:α->Int->α)(a:α)(ws:α2):α:=ws.foldl step a
noncomputable def put (step:α->Int->α)(r:α)(w:α2)(ents:List (α×α2))(x:Nat):List (α×α2):=if step r x∈ents.map (·.1) then ents else ents++[(step r x,w++[(x:Int)])]
structure B (L:Int)(step:α->Int->α)(st:α)(ok:α->Prop)(ents:List (α×α2))(i:Nat)(top:Int):Prop where
 hd:ents[0]?=some (st,[])
 il:i<=ents.length
 sh:∀(j:Nat) (e:α×α2),ents[j]?=some e->e.2.length<=j
 nod:(ents.map (·.1)).Nodup
 rng:∀e∈ents,ok e.1
 wd:∀e∈ents,isW L e.2=true/\Nt_ step st e.2=e.1
 inc:∀(j k:Nat) (a b:α×α2),j<k->ents[j]?=some a->ents[k]?=some b->place L a.2<place L b.2
 bnd:∀e∈ents,place L e.2<top
 don:∀j,j<i->∀e,ents[j]?=some e->∀x:Int,0<=x->x<L->∃e'∈ents,e'.1=step e.1 x/\place L e'.2<=place L (e.2++[x])
variable {L:Int} {step:α->Int->α} {st:α} {ok:α->Prop} {ents:List (α×α2)} {i:Nat} {top:Int}
noncomputable def Nu_ (ways:α1)(r:Int)(ws:α2):Int:=ws.foldl (LH ways) r
end GB
namespace L2
open PySem PySem.Spec PyProof.Rows GW GB
noncomputable def TK (H H':Hp):Prop:=∀b xs,H b=some (.tup xs)->H' b=some (.tup xs)
theorem TK.refl (H:Hp):TK H H:=fun _ _ h=>h
theorem TK.of  (s:Same H H'):TK H H':=fun b xs h=>s b _ h
theorem TK.trans  (a:TK H H')(b:TK H' H''):TK H H'':=fun c xs h=>b c xs (a c xs h)
theorem TK.new    (h:H p=none):TK H (upd H p o):=TK.of (Same.new h)
theorem TK.lst {H:Hp}{p:Addr}{o:HO}{xs:List V}(h:H p=some (.lst xs)):TK H (upd H p o):=fun b ys e=>by rw[Ag (fun z=>by rw[z,h]at e;cases e)];exact e
theorem TK.dT {H:Hp}{p:Addr}{o:HO}{kvs:List (List Key×V)}(h:H p=some (.dT kvs)):TK H (upd H p o):=fun b ys e=>by rw[Ag (fun z=>by rw[z,h]at e;cases e)];exact e
end L2
namespace L2
theorem Hj_    : JJ_ σ H Q=∀p,H p=none->Q (.ref p) (upd H p (.dT [])):=rfl
end L2
namespace L2
open PySem PySem.Spec PyProof.Rows GW
theorem Same.none  (s:Same H H')  (h:H' p=none):H p=none:=by
 cases e:H p with
 |none=>rfl
 |some u=>rw[s _ _ e]at h;cases h
noncomputable def Am (K:α3)(H:Hp)(xs:List V)(ws:α1):Prop:=xs.length=ws.length/\∀(i:Nat) (w:α2),ws[i]?=some w->∃t,xs[i]?=some (.ref t)/\H t=some (.tup (w.map V.int))
theorem Am.nil {K:α3}  : Am K H [] []:=⟨rfl,fun i w h=>by simp at h⟩
theorem Am.mono {K:α3}    (h:Am K H xs ws)(k:TK H H'):Am K H' xs ws:=by
 refine⟨h.1,fun i w hw=>?_⟩
 obtain⟨t,a,b⟩:=h.2 i w hw
 exact⟨t,a,k _ _ b⟩
theorem Am.snoc {K:α3}    (h:Am K H xs ws)   (ht:H t=some (.tup (w.map V.int))):Am K H (xs++[.ref t]) (ws++[w]):=by
 refine⟨by rw[jj_,jj_,h.1];rfl,fun i v hi=>?_⟩
 by_cases hil:i<ws.length
 ·rw[jw_ hil]at hi
  rw[jw_ (by rw[h.1];exact hil)]
  exact h.2 i v hi
 ·have:=(jc_.mp hi).1
  rw[jj_,jp_]at this
  have ei:i=ws.length:=by lia
  subst ei
  rw[jJ_ (jl_ _),Nat.sub_self]at hi
  simp at hi
  subst hi
  refine⟨t,?_,ht⟩
  rw[jJ_ (by rw[h.1];exact jl_ _),h.1,Nat.sub_self];rfl
theorem Am.at {K:α3}{H:Hp}{xs:List V}{ws:α1}(h:Am K H xs ws){i:Nat}{x:V}(hx:xs[i]?=some x):∃t w,ws[i]?=some w/\x=.ref t/\H t=some (.tup (w.map V.int)):=by
 have hi:i<ws.length:=by rw[<-h.1];exact (jc_.mp hx).1
 obtain⟨t,a,b⟩:=h.2 i ws[i] (by simp[hi])
 rw[hx]at a
 exact⟨t,ws[i],by simp[hi],jt_ a,b⟩
noncomputable def rInW (K:α3)(neg:Bool):R2:=fun x y H Q=>∃p t xs w ws,y=.ref p/\x=.ref t/\SqL K H p xs/\Am K H xs ws/\SqT K H t (w.map V.int)/\Q (.bl (if neg then !decide (w∈ws) else decide (w∈ws))) H
theorem ML_ {K:α3}     : rInW K neg x y H Q=∃p t xs w ws,y=.ref p/\x=.ref t/\SqL K H p xs/\Am K H xs ws/\SqT K H t (w.map V.int)/\Q (.bl (if neg then !decide (w∈ws) else decide (w∈ws))) H:=rfl
theorem EF_          (hu:X.A.units+8<cLine)(I:Inv X pins σ H s)(hp:SqL X.K H p xs)(hw:Am X.K H xs ws)(ht:SqT X.K H t (w.map V.int)):
  ∃(its:Array Value) (e:Value->Bool),s.heap.IsList p its/\(∀y,y∈its->SeqAt.EqAt X.A.in1 s y (.ref t) (e y))/\its.any e=decide (w∈ws):=by
 obtain⟨its,r,pl,_⟩:=I.list hp
 have hl:=r.length
 let e:Value->Bool:=fun y => @decide (∃(i:Nat) (a:Addr),y=.ref a/\xs[i]?=some (.ref a)/\ws[i]?=some w) (Classical.propDecidable _)
 have ee:∀(i:Nat) (a:Addr) (v:α2),xs[i]?=some (.ref a)->ws[i]?=some v->e (.ref a)=decide (v=w):=fun i a v hx hv=>by
  obtain⟨a',a1,a2⟩:=hw.2 i v hv
  rw[hx]at a1
  cases a1
  rw[qh_]
  show @decide _ (Classical.propDecidable _)=true↔_
  rw[@decide_eq_true_iff _ (Classical.propDecidable _),qo_]
  constructor
  ·rintro⟨j,b,hb,hxj,hwj⟩
   cases hb
   obtain⟨b',b1,b2⟩:=hw.2 j w hwj
   rw[hxj]at b1
   cases b1
   rw[a2]at b2
   have:=jt_ b2
   injection this with this
   exact (xr_ (fun x y z=>V.int.inj z)).mp this
  ·rintro rfl
   exact⟨i,a,rfl,hx,hv⟩
 refine⟨its.toArray,e,pl.isList,fun y hy=>?_,?_⟩
 ·have hy':y∈its:=by simpa using hy
  obtain⟨i,hi,ei⟩:=j6_ hy'
  have hix:i<xs.length:=by lia
  obtain⟨u,hu',ru⟩:=r.get (i:=i) (x:=xs[i]) (by simp[hix])
  rw[jh_ hi,ei]at hu'
  cases hu'
  obtain⟨a,v,e1,e2,e3⟩:=hw.at (i:=i) (x:=xs[i]) (by simp[hix])
  rw[e2]at ru
  cases ru
  rw[ee i a v (by rw[jh_ hix,e2]) e1]
  exact (EqD.at (x:=V.ref a) (y:=V.ref t) I 2 X.A.in1 (by rw[in1_units];lia) rfl rfl (EqD.ints (xs:=v) (ys:=w) (.inr ⟨SqT.of e3,ht⟩) 1)).1
 ·rw[qh_,qo_]
  rw[show its.toArray.any e=its.any e by simp,List.any_eq_true]
  constructor
  ·rintro⟨y,hy,hey⟩
   obtain⟨j,b,_,_,hwj⟩:=(@decide_eq_true_iff _ (Classical.propDecidable _)).mp hey
   exact jf_ hwj
  ·intro hm
   obtain⟨i,hi,ei⟩:=j6_ hm
   obtain⟨a,a1,a2⟩:=hw.2 i w (by rw[jh_ hi,ei])
   obtain⟨u,hu',ru⟩:=r.get a1
   cases ru
   refine⟨.ref a,jf_ hu',?_⟩
   rw[ee i a w a1 (by rw[jh_ hi,ei])]
   simp
theorem Kj_  (hu:X.A.units+8<cLine):OpR X (compareOp .In) (rInW X.K false):=by
 intro pins s σ H x y v u Q I rx ry h
 obtain⟨p,t,xs,w,ws,rfl,rfl,hp,hw,ht,q⟩:=h
 cases ry
 cases rx
 obtain⟨its,e,h1,h2,h3⟩:=EF_ hu I hp hw ht
 refine SeqAt.in_listAt e h1 h2 ⟨.bl _,H,I,rfl,?_⟩
 rw[h3]
 exact q
theorem Va  (hu:X.A.units+8<cLine):OpR X (compareOp .NotIn) (rInW X.K true):=by
 intro pins s σ H x y v u Q I rx ry h
 obtain⟨p,t,xs,w,ws,rfl,rfl,hp,hw,ht,q⟩:=h
 cases ry
 cases rx
 obtain⟨its,e,h1,h2,h3⟩:=EF_ hu I hp hw ht
 refine SeqAt.notIn_listAt e h1 h2 ⟨.bl _,H,I,rfl,?_⟩
 rw[h3]
 exact q
theorem Kk.ofS {K:α3}     (ha:H a=some (.tup xs))(hb:H b=some (.tup ys))(hz:xs.length+ys.length<=sizeLine)(h:∀p H',Same H H'->H' p=some (.tup (xs++ys))->Q (.ref p) H'):Kk K (.ref a) (.ref b) H Q:=by
 refine⟨a,b,xs,ys,rfl,rfl,SqT.of ha,SqT.of hb,hz,fun e=>?_,fun _ e=>?_,fun _ _ p hp=>h p _ (Same.new hp) Ab⟩
 ·subst e;exact h b H (Same.refl _) (by simpa using hb)
 ·subst e;exact h a H (Same.refl _) (by simpa using ha)
theorem Inv.unL        (I:Inv X pins σ H s)(k:∀b o,b∉fp->s.heap.get? b=some o->h'.get? b=some o)(f:∀b∈fp,FpOk X pins H b):Un (frs X.stack) fp H H s.heap h'/\HOk X.prog X.w H h':=by
 have ne:∀b u,H b=some u->b∉fp:=fun b u q hb=>by rw[(f b hb).1]at q;cases q
 refine⟨⟨fun b o q _ _ hb=>k b o hb q,fun b o q _ _ hb=>⟨o.slots,k b o hb q⟩,fun _ _ _ n _=>n,fun b o q hb=>⟨o,k b o hb q⟩,fun _ _ q=>q,fun _ _ _ q=>q,fun b ps q=>⟨#[],by rw[q];simp⟩⟩,fun b u q=>?_⟩
 refine (I.hok b u q).stay (fun c v hc qv=>?_) (fun _ q=>q) fun _ _ q=>q
 have hne:c∉fp:=by
  rcases hc with rfl|hc
  ·exact ne _ _ q
  ·exact ne _ _ hc
 exact k c v hne qv
end L2
namespace GW
noncomputable def ins (s:α1)(w:α2):α1:=if w∈s then s else s++[w]
theorem Ld_ (s:α1)(w:α2):(ins s w).length<=s.length+1:=by
 unfold ins;split
 ·lia
 ·simp
theorem C4:∀(l s:α1),(l.foldl ins s).length<=s.length+l.length
 |[],s=>by simp
 |w::l,s=>by
  have h1:=C4 l (ins s w)
  have h2:=Ld_ s w
  rw[xs_,jL_];lia
noncomputable def extW (n:Nat)(w:α2):α1:=(List.range n).map fun x:Nat=>w++[(x:Int)]
noncomputable def B7 (n:Nat)(acc:α1):α1:=(acc.flatMap (extW n)).foldl ins (acc.foldl ins [])
noncomputable def IA (rows ends:α1):α1:=(rows.flatMap fun r=>ends.map (r ++ ·)).foldl ins []
end GW
namespace L2
open PySem PySem.Spec PyProof.Rows GW
noncomputable def wkey (w:α2):List Key:=w.map Sum.inl
theorem Cj (w:α2):(wkey w).map kV=w.map V.int:=by unfold wkey;rw[q5_];rfl
theorem UO  (h:wkey v=wkey w):v=w:=(xr_ (fun x y z=>Sum.inl.inj z)).mp h
noncomputable def Ik (ws:α1)(kvs:List (List Key×V)):Prop:=kvs.map (·.1)=ws.map wkey
theorem Ik.len   (h:Ik ws kvs):kvs.length=ws.length:=by
 have:=qU_ List.length h
 simpa using this
theorem Ik.some_iff   (h:Ik ws kvs)(w:α2):(valV kvs (wkey w)).isSome=decide (w∈ws):=by
 rw[<-KR,qh_,qo_,List.any_eq_true]
 constructor
 ·rintro⟨kv,hkv,e⟩
  have e:=xg_ e
  have:wkey w∈ws.map wkey:=by rw[<-h,<-e];exact jH_.mpr ⟨kv,hkv,rfl⟩
  obtain⟨q,hq,e2⟩:=jH_.mp this
  exact UO e2 ▸ hq
 ·intro hw
  have:wkey w∈kvs.map (·.1):=by rw[h];exact jH_.mpr ⟨w,hw,rfl⟩
  obtain⟨kv,hkv,e⟩:=jH_.mp this
  exact⟨kv,hkv,jR_ e⟩
theorem Ik.put   (h:Ik ws kvs)(w:α2)(v:V):Ik (ins ws w) (putK kvs (wkey w) v):=by
 have hs:=h.some_iff w
 unfold putK ins
 rw[KR,hs]
 by_cases hw:w∈ws
 ·rw[if_pos hw,if_pos (show decide (w∈ws)=true from jR_ hw)]
  unfold Ik
  rw[<-h,q5_]
  refine jZ_ fun kv _=>?_
  show (if kv.1=wkey w then (kv.1,v) else kv).1=kv.1
  split<;>rfl
 ·rw[if_neg hw,if_neg (show ¬ decide (w∈ws)=true by simp[hw])]
  unfold Ik
  rw[jn_,jn_,h];rfl
theorem Ik.nil:Ik [] []:=rfl
theorem Ik.words {K:α3}     (h:Ik ws kvs)(hl:rs.length=kvs.length)(hr:∀(i:Nat) (k:List Key) (v:V),kvs[i]?=some (k,v)->∃b,rs[i]?=some (V.ref b)/\H b=some (.tup (k.map kV))):Am K H rs ws:=by
 refine⟨by rw[hl,h.len],fun i w hw=>?_⟩
 have hi:i<kvs.length:=by rw[h.len];exact (jc_.mp hw).1
 have e:(kvs.map (·.1))[i]?=some (wkey w):=by rw[h,ji_,hw];rfl
 rw[ji_,jh_ hi]at e
 have e:kvs[i].1=wkey w:=jt_ e
 obtain⟨b,b1,b2⟩:=hr i kvs[i].1 kvs[i].2 (by simp[hi])
 exact⟨b,b1,by rw[b2,e,Cj]⟩
end L2
namespace PySem.W
open PySem PySem.Calls PyProof.Rows PyProof.V PySem.Spec
noncomputable def PairsV (es:List DictEntry)(kvs:List (Value×Value)):Prop:=es.map (fun e=>(e.key,e.val))=kvs
theorem PairsV.length   (h:PairsV es kvs):es.length=kvs.length:=by rw[<-h,jb_]
theorem PairsV.get? {es:List DictEntry}{kvs:List (Value×Value)}(h:PairsV es kvs){i:Nat}{e:DictEntry}{k v:Value}(h1:es[i]?=some e)(h2:kvs[i]?=some (k,v)):k=e.key/\e.val=v:=by
 rw[<-h,ji_,h1]at h2
 simp at h2
 exact⟨h2.1.symm,h2.2⟩
end PySem.W
namespace PySem
noncomputable def Heap.DictV (h:Heap)(a:Addr)(kvs:List (Value×Value))(ep:Nat):Prop:=∃o es,h.get? a=some o/\o.ExactDict/\o.data=.dict es ep/\True/\W.PairsV es.toList kvs/\True
theorem Heap.DictV.at' {h h':Heap}{a kvs ep}(x:h.DictV a kvs ep)(e:∀o,h.get? a=some o->h'.get? a=some o):h'.DictV a kvs ep:=let ⟨o,es,ho,r⟩:=x;⟨o,es,e _ ho,r⟩
theorem Heap.DictV.lt_size {h:Heap}{a kvs ep}(x:h.DictV a kvs ep):a<h.objs.size:=let ⟨_,_,ho,_⟩:=x;jk_ ho
theorem Heap.DictV.push {h:Heap}{a kvs ep}(x:h.DictV a kvs ep)(o:Obj):(h.push o).DictV a kvs ep:=let ⟨o',es,ho,r⟩:=x;⟨o',es,jd_ o ho,r⟩
end PySem
namespace PySem.W
open PySem PySem.Calls PyProof.Rows PyProof.V PySem.Spec
section
variable {prog:Program} {w:World} {A:Around} {E:Value->Shared->Prop} {s:Shared}
theorem wpAny_pyIter_itemsV     (hv:s.heap.IsItemsView v d)(hm:s.heap.DictV d kvs ep)
  (hQ:Q (.ref s.heap.objs.size) {s with heap:=s.heap.push {cls:=.type "dict_itemiterator",data:=.fields #[.none,.bool false,.ref d,.int 0 0,.int kvs.length 0,.int ep 0,.none,.none]} }):
  wpAny (model prog w) A (pyIter (.ref v)) Q E s:=by
 obtain⟨ov,hov,hcv,hdv⟩:=id hv
 obtain⟨o,es,ho,hc,hdat,hk,hp,hn⟩:=id hm
 refine wpAny_pyIter_slot hv.typeIs PySem.F.slot_dict_items_iter (jS_ PySem.F.slot_dict_items_iter hv.typeIs PySem.F.entry_dict_items_iter ?_ (PySem.F.args_dict_items_iter_1 _))
 unfold Builtin.«dict_items.__iter__»
 refine ja_ (je_ ?_)
 refine ja_ ?_
 unfold Builtin.Dict_items.dictOf
 refine ja_ (qb_ hov hdv (x:=.ref d) rfl (je_ ?_))
 refine ja_ ?_
 unfold Builtin.Dict_items.newIterator
 refine ja_ (qQ_ ho hdat ?_)
 refine ja_ (qY_ ho hdat ?_)
 have hsz:es.size=kvs.length:=by rw[<-hp.length];simp
 have hown:Builtin.Dict_items.ownsTuple "dict_itemiterator"=true:=by decide
 simp only[hown,q7_]
 refine jN_ (je_ ⟨_,rfl,"dict_itemiterator",_,⟨_,jo_ _ rfl,rfl⟩,jC_.lookup,?_⟩)
  (by simp only[sizeOk,Builtin.Dict_items.ownedTupleFields,jg_,jj_,jL_,xd_,sizeLine_eq];lia)
 simpa [rawInt,hsz,Builtin.Dict_items.ownedTupleFields] using hQ
theorem wpAny_pyNext_items_itemV {it d:Addr}      (hit:IsItemIter s.heap it d i kvs.length ep ok ov)
  (hm:s.heap.DictV d kvs ep) (hx:kvs[i]?=some (k,v))
  (hQ:∀key h',k=key->IsItemIterOut h' it d (i+1) kvs.length ep key v s.heap.objs.size ->
   h'.get? s.heap.objs.size=some {cls:=.type "tuple",data:=.seq #[key,v]}->h'.objs.size=s.heap.objs.size+1 ->
   (∀b o,b≠it->s.heap.get? b=some o->h'.get? b=some o)->Q (some (.ref s.heap.objs.size)) {s with heap:=h' }):
  wpAny (model prog w) A (pyNext (.ref it)) Q E s:=by
 obtain⟨hp,g,dr,tk,os⟩:=s
 obtain⟨od,es,hod,hcd,hdd,hk,hpr,hn⟩:=id hm
 have hT:Shared.TypeIs ⟨hp,g,dr,tk,os⟩ (.ref it) "dict_itemiterator" := ⟨_,hit,rfl⟩
 unfold pyNext
 refine ja_ (qW_ (jM_ (name:=Str.ofString "__next__") hT jC_
  (jS_ jC_ hT qv_ ?_ (qq_ _))))
 refine ja_ (je_ ?_)
 refine ja_ ?_
 refine ja_ ?_
 first|refine ja_ (jP_ hT (je_ ?_))|refine ja_ (j7_ hT (je_ ?_))
 refine ja_ (q8_ hit rfl ?_)
 have hown:Builtin.Dict_items.ownsTuple "dict_itemiterator"=true:=by decide
 simp only[hown,q7_]
 show wpAny _ _ (if (Value.ref d==Value.none)=true then _ else _) _ _ _
 rw[if_neg (show ¬ ((Value.ref d==Value.none)=true) from jm_)]
 refine ja_ (je_ ?_)
 refine ja_ (qQ_ hod hdd ?_)
 have hsz:es.size=kvs.length:=by rw[<-hpr.length];simp
 rw[if_neg (by rw[hsz];simp)]
 refine ja_ (je_ ?_)
 refine ja_ (qY_ hod hdd ?_)
 rw[if_neg (by simp)]
 refine je_ ?_
 have hlt:i<kvs.length:=by
  rcases Nat.lt_or_ge i kvs.length with h|h
  ·exact h
  ·simp[jV_ h]at hx
 have hlt':i<es.size:=by rw[hsz];exact hlt
 obtain⟨hkey,hval⟩:=hpr.get? (e:=es[i]) (by simp[hlt']) hx
 simp only[show ¬ ((i:Int)<0) from by lia,qM_,jB_,q9_ hlt']
 refine ja_ ?_
 first|refine ja_ (jP_ hT (je_ ?_))|refine ja_ (j7_ hT (je_ ?_))
 refine ja_ (qO_ hT ?_)
 show wpAny _ _ (setField (.ref it) 3 (rawInt ((i:Int)+1)) >>= _) _ _ ⟨hp,g,dr,tk,os⟩
 refine ja_ (jX_ hit (by simp) fun h₁ he₁ hs₁=>?_)
 replace hs₁:Heap.SameBut it hp h₁:=hs₁
 replace he₁:IsItemIter h₁ it d (i+1) kvs.length ep ok ov:=by
  have e:((i+1:Nat):Int)=(i:Int)+1:=by lia
  unfold IsItemIter;rw[e];simpa [rawInt] using he₁
 have hT₁:Shared.TypeIs ⟨h₁,g,dr,tk,os⟩ (.ref it) "dict_itemiterator" := ⟨_,he₁,rfl⟩
 refine ja_ (qC_ ?_)
 refine ja_ (qO_ hT₁ ?_)
 refine ja_ (qO_ hT₁ ?_)
 show wpAny _ _ (Builtin.Dict_items.pairFromOwner (.ref it) 6 es[i].key es[i].val) _ _ ⟨h₁,g,dr,tk,os⟩
 unfold Builtin.Dict_items.pairFromOwner
 refine ja_ (wpAny_newTuple ?_)
 have he₂:IsItemIter (h₁.push {cls:=.type "tuple",data:=.seq #[es[i].key,es[i].val]}) it d (i+1) kvs.length ep ok ov:=jd_ _ he₁
 generalize hh₂:h₁.push {cls:=.type "tuple",data:=.seq #[es[i].key,es[i].val]}=h₂ at he₂
 have hz₁:h₁.objs.size=hp.objs.size:=hs₁.1
 have hil:it<hp.objs.size:=jk_ hit
 have ht₂:h₂.get? hp.objs.size=some {cls:=.type "tuple",data:=.seq #[es[i].key,es[i].val]}:=by rw[<-hh₂,<-hz₁];exact jo_ _ rfl
 have hz₂:h₂.objs.size=hp.objs.size+1:=by rw[<-hh₂,qu_,hz₁]
 have hk₂:∀b o,b≠it->hp.get? b=some o->h₂.get? b=some o:=fun b o hb e=>by rw[<-hh₂];exact jd_ _ (hs₁.extBut b o hb e)
 show wpAny _ _ (Builtin.Dict_items.ownedTupleIsFree (.ref it) >>= _) _ _ ⟨h₂,g,dr,tk,os⟩
 rw[hz₁]
 clear hh₂ he₁ hs₁ hT₁ hz₁ h₁
 refine ja_ ?_
 unfold Builtin.Dict_items.ownedTupleIsFree
 refine ja_ (qb_ he₂ rfl (x:=.none) rfl (je_ ?_))
 simp only[q7_]
 refine ja_ (qb_ he₂ rfl (x:=ok) rfl ?_)
 refine ja_ (qb_ he₂ rfl (x:=ov) rfl ?_)
 refine ja_ (jX_ he₂ (by simp) fun h₃ he₃ hs₃=>?_)
 replace hs₃:Heap.SameBut it h₂ h₃:=hs₃
 replace he₃:IsItemIter h₃ it d (i+1) kvs.length ep es[i].key ov:=he₃
 refine ja_ (jX_ he₃ (by simp) fun h₄ he₄ hs₄=>?_)
 replace hs₄:Heap.SameBut it h₃ h₄:=hs₄
 replace he₄:IsItemIter h₄ it d (i+1) kvs.length ep es[i].key es[i].val:=he₄
 refine ja_ (jX_ he₄ (by simp) fun h₅ he₅ hs₅=>?_)
 replace hs₅:Heap.SameBut it h₄ h₅:=hs₅
 replace he₅:IsItemIterOut h₅ it d (i+1) kvs.length ep es[i].key es[i].val hp.objs.size:=he₅
 refine ja_ (jX_ he₅ (by simp) fun h₆ he₆ hs₆=>?_)
 replace hs₆:Heap.SameBut it h₅ h₆:=hs₆
 replace he₆:IsItemIterOut h₆ it d (i+1) kvs.length ep es[i].key es[i].val hp.objs.size:=he₆
 refine ja_ (wpAny_letGo (je_ (je_ ⟨_,rfl,je_ (hQ es[i].key h₆ hkey (hval ▸ he₆) ?_ ?_ ?_)⟩)))
 ·rw[<-hval];exact hs₆.extBut _ _ (j1_ hil) (hs₅.extBut _ _ (j1_ hil) (hs₄.extBut _ _ (j1_ hil) (hs₃.extBut _ _ (j1_ hil) ht₂)))
 ·show h₆.objs.size=hp.objs.size+1
  rw[hs₆.1,hs₅.1,hs₄.1,hs₃.1,hz₂]
 ·exact fun b o hb e=>hs₆.extBut b o hb (hs₅.extBut b o hb (hs₄.extBut b o hb (hs₃.extBut b o hb (hk₂ b o hb e))))
theorem wpAny_pyNext_items_endV {it d:Addr}     (hh:A.handled=none)(hit:IsItemIter s.heap it d i kvs.length ep ok ov)
  (hm:s.heap.DictV d kvs ep) (hx:kvs[i]?=none)
  (hQ:∀h',Heap.ExtBut it s.heap h'->Q none {s with heap:=h' }):wpAny (model prog w) A (pyNext (.ref it)) Q E s:=by
 obtain⟨od,es,hod,hcd,hdd,hk,hpr,hn⟩:=id hm
 have hT:s.TypeIs (.ref it) "dict_itemiterator" := ⟨_,hit,rfl⟩
 unfold pyNext
 refine ja_ (qW_ (jM_ (name:=Str.ofString "__next__") hT jC_
  (jS_ jC_ hT qv_ ?_ (qq_ _))))
 refine ja_ (je_ ?_)
 refine ja_ ?_
 refine ja_ ?_
 first|refine ja_ (jP_ hT (je_ ?_))|refine ja_ (j7_ hT (je_ ?_))
 refine ja_ (q8_ hit rfl ?_)
 have hown:Builtin.Dict_items.ownsTuple "dict_itemiterator"=true:=by decide
 simp only[hown,q7_]
 show wpAny _ _ (if (Value.ref d==Value.none)=true then _ else _) _ _ s
 rw[if_neg (show ¬ ((Value.ref d==Value.none)=true) from jm_)]
 refine ja_ (je_ ?_)
 refine ja_ (qQ_ hod hdd ?_)
 have hsz:es.size=kvs.length:=by rw[<-hpr.length];simp
 rw[if_neg (by rw[hsz];simp)]
 refine ja_ (je_ ?_)
 refine ja_ (qY_ hod hdd ?_)
 rw[if_neg (by simp)]
 refine je_ ?_
 have hge:es.size<=i:=by rw[hsz];simpa using hx
 simp only[show ¬ ((i:Int)<0) from by lia,qM_,jB_,xU_ hge]
 refine ja_ ?_
 first|refine ja_ (jP_ hT (je_ ?_))|refine ja_ (j7_ hT (je_ ?_))
 show wpAny _ _ (setField (.ref it) 2 .none >>= _) _ _ s
 refine ja_ (xx_ hit rfl (by simp) ?_)
 show wpAny _ _ (newExc (.type "StopIteration") [] >>= _) _ _ _
 refine ja_ ?_
 simp only[newExc,newTuple]
 refine ja_ (jN_ ?_ (by size_fits))
 refine ja_ (m:=firstArgMember _ _) (wpAny_of_eq (a:=Value.none) (by first|rfl|(simp only[firstArgMember];rfl)) ?_)
 refine jN_ ?_ (by size_fits)
 simp only[raiseNew]
 refine ja_ (wpAny_handled ?_)
 rw[show A.in1.handled=none from hh]
 refine ja_ (je_ (wpAny_throw ?_))
 refine ja_ (x4_ (T := "StopIteration") (b:=true) ⟨_,jo_ _ rfl,rfl⟩ isSubtype_stop ?_)
 exact je_ (hQ _ (((qZ_ ..).extBut.push _).push _))
theorem Yg {it d a:Addr}        (hit:KdxIt s.heap it d i kvs.length ep ok ov a f)(ha:s.heap.get? a=some oa)(hai:a≠it)
  (hm:s.heap.DictV d kvs ep) (hx:kvs[i]?=some (k,v))
  (hQ:∀key h',k=key->KdxIt h' it d (i+1) kvs.length ep ok ov a true ->
   h'.get? s.heap.objs.size=some {cls:=.type "tuple",data:=.seq #[key,v]}->h'.objs.size=s.heap.objs.size+1 ->
   (∀b o,b≠it->s.heap.get? b=some o->h'.get? b=some o)->Q (some (.ref s.heap.objs.size)) {s with heap:=h' }):
  wpAny (model prog w) A (pyNext (.ref it)) Q E s:=by
 obtain⟨hp,g,dr,tk,os⟩:=s
 obtain⟨od,es,hod,hcd,hdd,hk,hpr,hn⟩:=id hm
 have hT:Shared.TypeIs ⟨hp,g,dr,tk,os⟩ (.ref it) "dict_itemiterator" := ⟨_,hit,rfl⟩
 unfold pyNext
 refine ja_ (qW_ (jM_ (name:=Str.ofString "__next__") hT jC_
  (jS_ jC_ hT qv_ ?_ (qq_ _))))
 refine ja_ (je_ ?_)
 refine ja_ ?_
 refine ja_ ?_
 first|refine ja_ (jP_ hT (je_ ?_))|refine ja_ (j7_ hT (je_ ?_))
 refine ja_ (q8_ hit rfl ?_)
 have hown:Builtin.Dict_items.ownsTuple "dict_itemiterator"=true:=by decide
 simp only[hown,q7_]
 show wpAny _ _ (if (Value.ref d==Value.none)=true then _ else _) _ _ _
 rw[if_neg (show ¬ ((Value.ref d==Value.none)=true) from jm_)]
 refine ja_ (je_ ?_)
 refine ja_ (qQ_ hod hdd ?_)
 have hsz:es.size=kvs.length:=by rw[<-hpr.length];simp
 rw[if_neg (by rw[hsz];simp)]
 refine ja_ (je_ ?_)
 refine ja_ (qY_ hod hdd ?_)
 rw[if_neg (by simp)]
 refine je_ ?_
 have hlt:i<kvs.length:=by
  rcases Nat.lt_or_ge i kvs.length with h|h
  ·exact h
  ·simp[jV_ h]at hx
 have hlt':i<es.size:=by rw[hsz];exact hlt
 obtain⟨hkey,hval⟩:=hpr.get? (e:=es[i]) (by simp[hlt']) hx
 simp only[show ¬ ((i:Int)<0) from by lia,qM_,jB_,q9_ hlt']
 refine ja_ ?_
 first|refine ja_ (jP_ hT (je_ ?_))|refine ja_ (j7_ hT (je_ ?_))
 refine ja_ (qO_ hT ?_)
 show wpAny _ _ (setField (.ref it) 3 (rawInt ((i:Int)+1)) >>= _) _ _ ⟨hp,g,dr,tk,os⟩
 refine ja_ (jX_ hit (by simp) fun h₁ he₁ hs₁=>?_)
 replace hs₁:Heap.SameBut it hp h₁:=hs₁
 replace he₁:KdxIt h₁ it d (i+1) kvs.length ep ok ov a f:=by
  have e:((i+1:Nat):Int)=(i:Int)+1:=by lia
  unfold KdxIt;rw[e];simpa [rawInt] using he₁
 have hT₁:Shared.TypeIs ⟨h₁,g,dr,tk,os⟩ (.ref it) "dict_itemiterator" := ⟨_,he₁,rfl⟩
 refine ja_ (qC_ ?_)
 refine ja_ (qO_ hT₁ ?_)
 refine ja_ (qO_ hT₁ ?_)
 show wpAny _ _ (Builtin.Dict_items.pairFromOwner (.ref it) 6 es[i].key es[i].val) _ _ ⟨h₁,g,dr,tk,os⟩
 unfold Builtin.Dict_items.pairFromOwner
 refine ja_ (wpAny_newTuple ?_)
 have he₂:KdxIt (h₁.push {cls:=.type "tuple",data:=.seq #[es[i].key,es[i].val]}) it d (i+1) kvs.length ep ok ov a f:=jd_ _ he₁
 generalize hh₂:h₁.push {cls:=.type "tuple",data:=.seq #[es[i].key,es[i].val]}=h₂ at he₂
 have hz₁:h₁.objs.size=hp.objs.size:=hs₁.1
 have hil:it<hp.objs.size:=jk_ hit
 have ht₂:h₂.get? hp.objs.size=some {cls:=.type "tuple",data:=.seq #[es[i].key,es[i].val]}:=by rw[<-hh₂,<-hz₁];exact jo_ _ rfl
 have hz₂:h₂.objs.size=hp.objs.size+1:=by rw[<-hh₂,qu_,hz₁]
 have hk₂:∀b o,b≠it->hp.get? b=some o->h₂.get? b=some o:=fun b o hb e=>by rw[<-hh₂];exact jd_ _ (hs₁.extBut b o hb e)
 show wpAny _ _ (Builtin.Dict_items.ownedTupleIsFree (.ref it) >>= _) _ _ ⟨h₂,g,dr,tk,os⟩
 rw[hz₁]
 clear hh₂ he₁ hs₁ hT₁ hz₁ h₁
 have ha₂:h₂.get? a=some oa:=hk₂ a oa hai ha
 refine ja_ ?_
 unfold Builtin.Dict_items.ownedTupleIsFree
 refine ja_ (qb_ he₂ rfl (x:=rawInt a) rfl ?_)
 show wpAny _ _ (loadIfAlive ((a:Int).toNat) >>= _) _ _ _
 rw[jB_]
 refine ja_ (kdx_alive ha₂ ?_)
 simp only[Option.isNone_some,j5_,qM_]
 refine ja_ (qb_ he₂ rfl (x:=.bool f) rfl ?_)
 have fin:∀h₃:Heap,KdxIt h₃ it d (i+1) kvs.length ep ok ov a true->Heap.SameBut it h₂ h₃->Q (some (.ref hp.objs.size)) ⟨h₃,g,dr,tk,os⟩:=fun h₃ he₃ hs₃=>
  hQ es[i].key h₃ hkey he₃ (by rw[<-hval];exact hs₃.extBut _ _ (j1_ hil) ht₂) (by show h₃.objs.size=hp.objs.size+1;rw[hs₃.1,hz₂]) fun b o hb e=>hs₃.extBut b o hb (hk₂ b o hb e)
 cases f with
 |true=>
  rw[if_neg (show ¬ ((Value.bool true != Value.bool true)=true) from jm_)]
  refine je_ ?_
  simp only[j5_,qM_]
  exact je_ (je_ ⟨_,rfl,je_ (fin h₂ he₂ (Heap.SameBut.refl _ _))⟩)
 |false=>
  rw[if_pos (show (Value.bool false != Value.bool true)=true from rfl)]
  refine ja_ (jX_ he₂ (by simp) fun h₃ he₃ hs₃=>?_)
  replace hs₃:Heap.SameBut it h₂ h₃:=hs₃
  replace he₃:KdxIt h₃ it d (i+1) kvs.length ep ok ov a true:=he₃
  refine je_ ?_
  simp only[j5_,qM_]
  exact je_ (je_ ⟨_,rfl,je_ (fin h₃ he₃ hs₃)⟩)
theorem Bc_ {it d a:Addr}      (hh:A.handled=none)(hit:KdxIt s.heap it d i kvs.length ep ok ov a f)
  (hm:s.heap.DictV d kvs ep) (hx:kvs[i]?=none)
  (hQ:∀h',Heap.ExtBut it s.heap h'->Q none {s with heap:=h' }):wpAny (model prog w) A (pyNext (.ref it)) Q E s:=by
 obtain⟨od,es,hod,hcd,hdd,hk,hpr,hn⟩:=id hm
 have hT:s.TypeIs (.ref it) "dict_itemiterator" := ⟨_,hit,rfl⟩
 unfold pyNext
 refine ja_ (qW_ (jM_ (name:=Str.ofString "__next__") hT jC_
  (jS_ jC_ hT qv_ ?_ (qq_ _))))
 refine ja_ (je_ ?_)
 refine ja_ ?_
 refine ja_ ?_
 first|refine ja_ (jP_ hT (je_ ?_))|refine ja_ (j7_ hT (je_ ?_))
 refine ja_ (q8_ hit rfl ?_)
 have hown:Builtin.Dict_items.ownsTuple "dict_itemiterator"=true:=by decide
 simp only[hown,q7_]
 show wpAny _ _ (if (Value.ref d==Value.none)=true then _ else _) _ _ s
 rw[if_neg (show ¬ ((Value.ref d==Value.none)=true) from jm_)]
 refine ja_ (je_ ?_)
 refine ja_ (qQ_ hod hdd ?_)
 have hsz:es.size=kvs.length:=by rw[<-hpr.length];simp
 rw[if_neg (by rw[hsz];simp)]
 refine ja_ (je_ ?_)
 refine ja_ (qY_ hod hdd ?_)
 rw[if_neg (by simp)]
 refine je_ ?_
 have hge:es.size<=i:=by rw[hsz];simpa using hx
 simp only[show ¬ ((i:Int)<0) from by lia,qM_,jB_,xU_ hge]
 refine ja_ ?_
 first|refine ja_ (jP_ hT (je_ ?_))|refine ja_ (j7_ hT (je_ ?_))
 show wpAny _ _ (setField (.ref it) 2 .none >>= _) _ _ s
 refine ja_ (xx_ hit rfl (by simp) ?_)
 show wpAny _ _ (newExc (.type "StopIteration") [] >>= _) _ _ _
 refine ja_ ?_
 simp only[newExc,newTuple]
 refine ja_ (jN_ ?_ (by size_fits))
 refine ja_ (m:=firstArgMember _ _) (wpAny_of_eq (a:=Value.none) (by first|rfl|(simp only[firstArgMember];rfl)) ?_)
 refine jN_ ?_ (by size_fits)
 simp only[raiseNew]
 refine ja_ (wpAny_handled ?_)
 rw[show A.in1.handled=none from hh]
 refine ja_ (je_ (wpAny_throw ?_))
 refine ja_ (x4_ (T := "StopIteration") (b:=true) ⟨_,jo_ _ rfl,rfl⟩ isSubtype_stop ?_)
 exact je_ (hQ _ (((qZ_ ..).extBut.push _).push _))
theorem Hk_ {it d S:Addr}      (hst:KdxSt s.heap it d S i kvs.length ep)(hS:S<s.heap.objs.size)
  (hm:s.heap.DictV d kvs ep) (hx:kvs[i]?=some (k,v))
  (hQ:∀key h',k=key->KdxSt h' it d S (i+1) kvs.length ep->h'.get? s.heap.objs.size=some {cls:=.type "tuple",data:=.seq #[key,v]}->h'.objs.size=s.heap.objs.size+1 ->
   (∀b o,b≠it->s.heap.get? b=some o->h'.get? b=some o)->Q (some (.ref s.heap.objs.size)) {s with heap:=h' }):
  wpAny (model prog w) A (pyNext (.ref it)) Q E s:=by
 rcases hst with ⟨rfl,ok,ov,hit⟩|⟨ok,ov,a,f,oa,hit,ha,hai,haS⟩
 ·exact wpAny_pyNext_items_itemV hit hm hx fun key h' hk hit' ht hz hkeep=>hQ key h' hk (.inr ⟨key,v,_,false,_,hit',ht,j1_ (jk_ hit),j1_ hS⟩) ht hz hkeep
 ·exact Yg hit ha hai hm hx fun key h' hk hit' ht hz hkeep=>hQ key h' hk (.inr ⟨ok,ov,a,true,oa,hit',hkeep a oa hai ha,hai,haS⟩) ht hz hkeep
theorem Hl_ {it d S:Addr}    (hh:A.handled=none)(hst:KdxSt s.heap it d S i kvs.length ep)(hm:s.heap.DictV d kvs ep)(hx:kvs[i]?=none)
  (hQ:∀h',Heap.ExtBut it s.heap h'->Q none {s with heap:=h' }):wpAny (model prog w) A (pyNext (.ref it)) Q E s:=by
 rcases hst with ⟨rfl,ok,ov,hit⟩|⟨ok,ov,a,f,oa,hit,_,_,_⟩
 ·exact wpAny_pyNext_items_endV hh hit hm hx hQ
 ·exact Bc_ hh hit hm hx hQ
structure KdxGV (kvs:List (Value×Value))(lo:Addr)(h:Heap)(as:List Addr):Prop where
 rise:as.Pairwise (· < ·)
 above:∀a∈as,lo<a
 pairs:∀(j:Nat) (a:Addr),as[j]?=some a->∃key k x,kvs[j]?=some (k,x)/\k=key/\h.get? a=some {cls:=.type "tuple",data:=.seq #[key,x]}
theorem KdxGV.there  {lo:Addr}   (g:KdxGV kvs lo h as)  (ha:a∈as):a<h.objs.size:=by
 obtain⟨j,hj⟩:=jW_.mp ha
 obtain⟨_,_,_,_,_,e⟩:=g.pairs j a hj
 exact jk_ e
end
section
variable {prog:Program} {w:World} {A:Around} {s:Shared} {R:Result->Shared->Prop} {kvs:List (Value×Value)} {ep:Nat}
theorem Hm_ {S I d:Addr}(hh:A.handled=none)(hSI:S<I)(hSd:d≠S)(hId:d≠I)(hn:kvs.length<=sizeLine)(res:Value){h₁:Heap}
  (hR:∀h' tk acc c as,(∀b o,b≠S->b≠I->h₁.get? b=some o->h'.get? b=some o)->h'.get? S=some {cls:=.type "list",dict:=none,data:=.seq acc c,slots := #[]}->as.length=kvs.length->KdxGV kvs I h' as ->
   acc.toList=as.map Value.ref->R (.ok (.ret res)) {s with heap:=h',toks:=tk}):
  ∀(k i:Nat) (h:Heap) (tk c:Nat) (acc:Array Value) (as:List Addr),kvs.length-i=k->i<=kvs.length->KdxSt h I d S i kvs.length ep->h.DictV d kvs ep->(∀b o,b≠S->b≠I->h₁.get? b=some o->h.get? b=some o) ->
   h.get? S=some {cls:=.type "list",dict:=none,data:=.seq acc c,slots := #[]}->acc.toList=as.map Value.ref->as.length=i->KdxGV kvs I h as->I<h.objs.size ->
   codeAny (model prog w) A (.builtin "list.extend.loop" ⟨[.ref S,.ref I,res],[]⟩) R {s with heap:=h,toks:=tk}:=by
 have hne:S≠I:=jF_ hSI
 intro k
 induction k with
 |zero=>
  intro i h tk c acc as hk hi hst hD hkeep hS hacc hal hG hIs
  have hin:i=kvs.length:=by lia
  refine codeAny_builtin PySem.F.entry_extend_loop ?_
  rw[Around.under_plainId qR_ _]
  show wpAny _ A.in1 (pyNext (.ref I) >>= _) _ _ _
  refine ja_ (Hl_ (s:={s with heap:=h,toks:=tk}) (A:=A.in1) hh hst hD (jV_ s!"") fun h' he=>?_)
  refine je_ (hR h' tk acc c as (fun b o h1 h2 e=>he b o h2 (hkeep b o h1 h2 e)) (he S _ hne hS) s!"" ⟨hG.rise,hG.above,fun j a hj=>?_⟩ hacc)
  obtain⟨key,kk,x,e1,e2,e3⟩:=hG.pairs j a hj
  exact⟨key,kk,x,e1,e2,he a _ (j1_ (hG.above a (jf_ hj))) e3⟩
 |succ k ih=>
  intro i h tk c acc as hk hi hst hD hkeep hS hacc hal hG hIs
  have hlt:i<kvs.length:=by lia
  obtain⟨⟨kk,x⟩,hx⟩:∃p,kvs[i]?=some p:=⟨kvs[i],jh_ hlt⟩
  have hsz:acc.size=i:=by rw[<-qg_,hacc,jb_,hal]
  refine codeAny_builtin PySem.F.entry_extend_loop ?_
  rw[Around.under_plainId qR_ _]
  show wpAny _ A.in1 (pyNext (.ref I) >>= _) _ _ _
  refine ja_ (Hk_ (s:={s with heap:=h,toks:=tk}) (S:=S) hst (jk_ hS) hD hx fun key h' hkey hst' ht hz hkp=>?_)
  dsimp only at ht hz hkp ⊢
  have hS':=hkp S _ hne hS
  have up:∀b o,b≠S->h'.get? b=some o->(h'.update S (Obj.mapSeq (·.push (Value.ref h.objs.size)))).get? b=some o:=fun b o hb e=>(qk_ _ _ (qj_ hb)).trans e
  have hSl:S<h.objs.size:=jk_ hS
  show wpAny _ A.in1 (updateSeq S (·.push (Value.ref h.objs.size)) >>= _) _ _ _
  refine ja_ ?_
  refine zf_ hS' rfl (je_ ⟨plainId_quiet qR_ _,ih (i+1) _ tk _ (acc.push (Value.ref h.objs.size)) (as++[h.objs.size]) s!"" hlt (hst'.keep up (qj_ hne)) (hD.at' fun o e=>up d o hSd (hkp d o hId e))
   (fun b o h1 h2 e=>up b o h1 (hkp b o h2 (hkeep b o h1 h2 e))) (qz_ _ hS' rfl) (by rw[Array.toList_push,hacc,jn_];rfl) (by rw[jj_,hal];rfl) ⟨?_,?_,?_⟩ ?_⟩) (by rw[hsz];lia) (by show (acc.push (Value.ref h.objs.size)).size<=sizeLine+1;rw[Array.size_push,hsz];lia)
  ·refine List.pairwise_append.mpr ⟨hG.rise,List.pairwise_singleton _ _,fun a ha b hb=>?_⟩
   rw[js_.mp hb]
   exact hG.there ha
  ·intro a ha
   rcases jK_.mp ha with ha|ha
   ·exact hG.above a ha
   ·rw[js_.mp ha];exact hIs
  ·intro j b hj
   rcases Nat.lt_trichotomy j as.length with h1|h1|h1
   ·rw[jw_ h1]at hj
    obtain⟨key',k',x',e1,e2,e3⟩:=hG.pairs j b hj
    have hb:=hG.above b (jf_ hj)
    exact⟨key',k',x',e1,e2,up b _ (j1_ (Nat.lt_trans hSI hb)) (hkp b _ (j1_ hb) e3)⟩
   ·subst h1
    have hb:h.objs.size=b:=by simpa using hj
    subst hb
    exact⟨key,kk,x,by rw[hal];exact hx,hkey,up _ _ (j1_ hSl) ht⟩
   ·have hnone:(as++[h.objs.size])[j]?=none:=jV_ (by rw[jj_,jp_];lia)
    rw[hnone]at hj;cases hj
  ·have e:(h'.update S (Obj.mapSeq (·.push (Value.ref h.objs.size)))).get? h.objs.size=_:=up _ _ (j1_ hSl) ht
   exact Nat.lt_trans hIs (jk_ e)
end
section
variable {prog:Program} {w:World} {A:Around} {E:Value->Shared->Prop} {s:Shared} {r d:Addr} {kvs:List (Value×Value)} {ep:Nat}
theorem Di_  (hh:A.handled=none)(hv:s.heap.IsItemsView r d)(hm:s.heap.DictV d kvs ep)(S:Addr)(hSr:S≠r)(hSd:d≠S)(res:Value)(c₀:Nat)(hS:s.heap.get? S=some {cls:=.type "list",data:=.seq #[] c₀})
  (hR:∀h' tk acc c as,(∀b o,b≠S->s.heap.get? b=some o->h'.get? b=some o)->h'.get? S=some {cls:=.type "list",dict:=none,data:=.seq acc c,slots := #[]}->as.length=kvs.length->KdxGV kvs s.heap.objs.size h' as ->
   acc.toList=as.map Value.ref->R (.ok (.ret res)) {s with heap:=h',toks:=tk}) (hn:kvs.length<=sizeLine):
  wpAny (model prog w) A.in1 (Builtin.List.listExtendWith (.ref S) (.ref r) res)
   (fun fin s'=>match fin with | .done f=>R (.ok f) s' | .again c'=>c'.quiet=true/\codeAny (model prog w) A c' R s') (fun e s'=>R (.error e) s') s:=by
 have hSI:S<s.heap.objs.size:=jk_ hS
 have hdI:d<s.heap.objs.size:=hm.lt_size
 have key:∀(h:Heap) (c₁ tk:Nat),(∀b o,b≠S->(s.heap.push {cls:=.type "dict_itemiterator",data:=.fields #[.none,.bool false,.ref d,.int 0 0,.int kvs.length 0,.int ep 0,.none,.none]}).get? b=some o->h.get? b=some o) ->
   h.get? S=some {cls:=.type "list",data:=.seq #[] c₁}->codeAny (model prog w) A (.builtin "list.extend.loop" ⟨[.ref S,.ref s.heap.objs.size,res],[]⟩) R {s with heap:=h,toks:=tk}:=by
  intro h c₁ tk hk hS₁
  have hI:=hk s.heap.objs.size _ (j1_ hSI) (jo_ _ rfl)
  refine Hm_ (kvs:=kvs) (ep:=ep) (s:=s) (h₁:=s.heap) hh hSI hSd (jF_ hdI) hn res (fun h' tk' acc c as hk' hS' hl hG hacc=>hR h' tk' acc c as (fun b o hb e=>hk' b o hb (jF_ (jk_ e)) e) hS' hl hG hacc)
   kvs.length 0 h tk c₁ #[] [] (zj_ _) (qp_ _) (.inl ⟨rfl,.none,.none,hI⟩) (hm.at' fun o e=>hk d o hSd (jd_ _ e)) (fun b o hb _ e=>hk b o hb (jd_ _ e)) hS₁ rfl rfl
   ⟨List.Pairwise.nil,(fun _ ha=>nomatch ha),(fun j a hj=>by simp at hj)⟩ (jk_ hI)
 unfold Builtin.List.listExtendWith
 refine ja_ (wpAny_typeOf (T := "dict_items") hv.typeIs ?_)
 have h1:Builtin.List.listSameRef (.ref S) (.ref r)=false:=by simp[Builtin.List.listSameRef,hSr]
 have h2:(Value.type "dict_items" == Value.type "list")=false:=by decide
 have h3:(Value.type "dict_items" == Value.type "tuple")=false:=by decide
 simp only[h1,h2,h3,Bool.or_false,j5_,qM_]
 refine ja_ (wpAny_pyIter_itemsV hv hm ?_)
 have hS₁:=jd_ {cls:=.type "dict_itemiterator",data:=.fields #[.none,.bool false,.ref d,.int 0 0,.int kvs.length 0,.int ep 0,.none,.none]} hS
 refine ja_ (qC_ (kdx_hint (let ⟨o,ho,hc,_⟩:=hv;⟨o,jd_ _ ho,hc⟩) ?_))
 refine wpAny_ite_split (fun _=>?_) (fun _=>je_ ⟨plainId_quiet qR_ _,key _ c₀ _ (fun b o _ e=>e) hS₁⟩)
 refine ja_ (wpAny_rule ?_)
 refine ja_ ?_
 show wpAny _ _ (updateSeq S (·.push .none) >>= fun _=>updateSeq S (·.pop)) _ _ _
 refine ja_ (zf_ hS₁ rfl ?_)
 have hS₂:=qz_ (Obj.mapSeq (·.push Value.none)) hS₁ rfl
 refine zf_ (hz:=by seq_fits) hS₂ rfl ?_
 have hS₃:=qz_ (Obj.mapSeq (·.pop)) hS₂ rfl
 refine je_ ⟨plainId_quiet qR_ _,key _ _ _ (fun b o hb e=>?_) hS₃⟩
 exact (qk_ _ _ (qj_ hb)).trans ((qk_ _ _ (qj_ hb)).trans e)
theorem KdxGV.low  {lo lo':Addr}   (g:KdxGV kvs lo h as)(hl:lo'<=lo):KdxGV kvs lo' h as:=⟨g.rise,fun a ha=>Nat.lt_of_le_of_lt hl (g.above a ha),g.pairs⟩
theorem Hn_  (hh:A.handled=none)(hv:s.heap.IsItemsView r d)(hm:s.heap.DictV d kvs ep)(S:Addr)(hSr:S≠r)(hSd:d≠S)(hS:s.heap.get? S=some {cls:=.type "list",data:=.seq #[]})
  (hR:∀h' tk acc c as,(∀b o,b≠S->s.heap.get? b=some o->h'.get? b=some o)->h'.get? S=some {cls:=.type "list",dict:=none,data:=.seq acc c,slots := #[]}->as.length=kvs.length->KdxGV kvs S h' as ->
   acc.toList=as.map Value.ref->R (.ok (.ret .none)) {s with heap:=h',toks:=tk}) (hn:kvs.length<=sizeLine):
  wpAny (model prog w) A.in1 (Builtin.«list.__init__» ⟨[.ref S,.ref r],[]⟩)
   (fun fin s'=>match fin with | .done f=>R (.ok f) s' | .again c'=>c'.quiet=true/\codeAny (model prog w) A c' R s') (fun e s'=>R (.error e) s') s:=by
 show wpAny _ _ (do let old <- Builtin.List.listItems (.ref S);Builtin.List.listUpdate (.ref S) (fun _ => #[]);letGo old.toList.reverse;Builtin.List.listExtendWith (.ref S) (.ref r) .none) _ _ s
 refine ja_ ?_
 unfold Builtin.List.listItems
 refine ja_ (qX_ hS rfl (je_ ?_))
 show wpAny _ _ (updateSeq S (fun _ => #[]) >>= fun _=>letGo (#[]:Array Value).toList.reverse >>= fun _=>Builtin.List.listExtendWith (.ref S) (.ref r) .none) _ _ s
 refine ja_ (zf_ hS rfl ?_)
 have hS₂:=qz_ (Obj.mapSeq (fun _=>(#[]:Array Value))) hS rfl
 have oth:∀b o,b≠S->s.heap.get? b=some o->(s.heap.update S (Obj.mapSeq (fun _=>(#[]:Array Value)))).get? b=some o:=
  fun b o hb e=>(qk_ _ _ (qj_ hb)).trans e
 refine ja_ (wpAny_letGo ?_)
 refine Di_ (kvs:=kvs) (ep:=ep) hh (let ⟨o,ho,x⟩:=hv;⟨o,oth r o hSr.symm ho,x⟩) (hm.at' fun o e=>oth d o hSd e) S hSr hSd .none _ hS₂ (fun h' tk acc c as hk hS' hl hG hacc=>?_) hn
 exact hR h' tk acc c as (fun b o hb e=>hk b o hb (oth b o hb e)) hS' hl (hG.low (xE_ (jk_ hS₂))) hacc
theorem kdx_callV  (hh:A.handled=none)(hv:s.heap.IsItemsView r d)(hm:s.heap.DictV d kvs ep)(hn:kvs.length<=sizeLine)
  (hQ:∀h' tk acc c as,(∀b o,s.heap.get? b=some o->h'.get? b=some o)->h'.get? s.heap.objs.size=some {cls:=.type "list",dict:=none,data:=.seq acc c,slots := #[]}->as.length=kvs.length->KdxGV kvs s.heap.objs.size h' as ->
   acc.toList=as.map Value.ref->Q (.ref s.heap.objs.size) {s with heap:=h',toks:=tk}):
  wpAny (model prog w) A (call (.type "list") [.ref r]) Q E s:=by
 refine callType_codes (Q₁:=fun obj s₁=>obj=.ref s.heap.objs.size/\s₁={s with heap:=s.heap.push {cls:=.type "list",data:=.seq #[]} }) PySem.F.called_list (PySem.F.typeCall_list_1 _) PySem.F.entry_list_init
  (code_list_new _ ⟨rfl,rfl⟩) fun obj s₁ h₁=>?_
 obtain⟨rfl,rfl⟩:=h₁
 have hS:(s.heap.push {cls:=.type "list",data:=.seq #[]}).get? s.heap.objs.size=some {cls:=.type "list",data:=.seq #[]}:=jo_ _ rfl
 have hr:r<s.heap.objs.size:=let ⟨_,ho,_⟩:=hv;jk_ ho
 have hd:d<s.heap.objs.size:=hm.lt_size
 refine⟨⟨_,hS,rfl⟩,PySem.F.args_list_init_2 _ _,Hn_ (kvs:=kvs) (ep:=ep) (A:=A.in1) hh (let ⟨o,ho,x⟩:=hv;⟨o,jd_ _ ho,x⟩) (hm.push _) _ (j1_ hr) (jF_ hd) hS (fun h' tk acc c as hk hS' hl hG hacc=>?_) hn⟩
 exact⟨rfl,hQ h' tk acc c as (fun b o e=>hk b o (jF_ (jk_ e)) (jd_ _ e)) hS' hl hG hacc⟩
end
end PySem.W
namespace L2
open PySem PySem.Spec PyProof.Rows
theorem Yh       (ok:HOk P w H h)(e:Rd H a (.dT kvs)):
  ∃o es ep,h.get? a=some o/\o.ExactDict/\o.data=.dict es ep/\es.size=kvs.length/\(a==sysModules)=false/\kvs.length<=sizeLine /\
   ∀(i:Nat) (k:List Key) (v:V),kvs[i]?=some (k,v)->∃b en,es[i]?=some en/\en.key=.ref b/\H b=some (.tup (k.map kV))/\RelV v en.val:=by
 obtain⟨z,y,xs,r,o,es,ep,h1,h2,h3,h4,h5⟩:=(show C3 P w H h a (.dT kvs) from ID_ ok e)
 have hl:=x9_ r
 have hs:es.size=kvs.length:=by rw[<-qg_,h4,jb_,hl]
 refine⟨o,es,ep,h1,h2,h3,hs,y,z,fun i k v hk=>?_⟩
 obtain⟨q,hq,e1,e2,e3⟩:=Rc r hk
 refine⟨q.2.1,entryOfKey (tupleKind (ED P w)) q,?_,rfl,e2,e3⟩
 rw[<-qn_,h4,ji_,hq];rfl
noncomputable def Yi (v d:Addr):HO:=.ext (fun h=>h.IsItemsView v d)
noncomputable def Kk_ (td:TE):TE:=fun σ H Q=>td σ H fun x H1=>∃d kvs,x=.ref d/\Rd H1 d (.dT kvs)/\∀v,H1 v=none->Q (.ref v) (upd H1 v (Yi v d))
theorem Ho_     : Kk_ td σ H Q=td σ H fun x H1=>∃d kvs,x=.ref d/\Rd H1 d (.dT kvs)/\∀v,H1 v=none->Q (.ref v) (upd H1 v (Yi v d)):=rfl
theorem Yj     (ho:PE X o td)(hbase:attributeBase o "items" X.env (eval o X.env)=eval o X.env:=by rfl)(hline:(apos.endLine==cpos.line)=true:=by rfl):PE X (.Call (.Attribute o "items" apos) [] [] cpos) (Kk_ td):=by
 intro pins s σ H Q I h
 refine xK_ hbase hline (thn (ho pins s σ H _ I h) fun v s1 ⟨x,H1,I1,r1,d,kvs,ex,hd,q⟩=>?_)
 subst ex
 obtain rfl:v=Value.ref d:=r1
 obtain⟨od,es,ep,g1,g2,g3,g4,g5,g6,g7⟩:=Yh I1.hok hd
 have hT:s1.TypeIs (.ref d) "dict" := ⟨od,g1,g2.1⟩
 refine⟨"dict","dict.items",xi_,xj_,PySem.F.type_dict_items,hT,fun b e=>?_,qN_ rfl (ze_ ?_)⟩
 ·cases e
  exact⟨od,g1,g2.2.1⟩
 refine jS_ xj_ hT PySem.F.entry_dict_items (?_:wpAny _ _ (Builtin.«dict.items» _) _ _ s1) (PySem.F.args_dict_items_1 _)
 unfold Builtin.«dict.items»
 refine ja_ ?_
 unfold Builtin.Dict.noArgs
 refine ja_ (x1_ hT ?_)
 show wpAny _ _ (pure d) _ _ s1
 refine je_ ?_
 show wpAny _ _ (Builtin.Dict.showsAll d >>= _) _ _ s1
 unfold Builtin.Dict.showsAll
 rw[if_neg (by rw[g5];exact jm_)]
 refine ja_ (je_ ?_)
 refine ja_ (jN_ (je_ ⟨_,rfl,?_⟩))
 have new:C3 X.prog X.w (upd H1 s1.heap.objs.size (Yi s1.heap.objs.size d)) (s1.heap.push {cls:=.type "dict_items",data:=.fields #[.ref d]}) s1.heap.objs.size (Yi s1.heap.objs.size d):=
  ⟨⟨_,jo_ _ rfl,rfl,rfl⟩,⟨_,jo_ _ rfl⟩,fun h1 h2 ⟨o,e,r⟩ k=>⟨o,k o e,r⟩⟩
 exact⟨.ref _,_,I1.laid (t':=s1.toks) (fun b u e=>jd_ _ e) (jl_ _) new,rfl,q _ (I1.hok.fresh (jl_ _))⟩
theorem EG_ {P:Program}{w:World}{fs:List Addr}{H0:Hp}{h0 h':Heap}:∀(as:List (Addr×List V)),(as.map (·.1)).Nodup ->
  (∀p∈as,h0.objs.size<=p.1/\p.2.length<=sizeLine/\∃its:List Value,Vals p.2 its/\IsTup h' p.1 its.toArray)->∀H,Un fs [] H0 H h0 h'->HOk P w H h'->(∀p∈as,H p.1=none) ->
  ∃H2,Un fs [] H0 H2 h0 h'/\HOk P w H2 h'/\Same H H2/\(∀p∈as,H2 p.1=some (.tup p.2))/\∀b,b∉as.map (·.1)->H2 b=H b
 |[],_,_,H,u,k,_=>⟨H,u,k,Same.refl _,(fun p hp=>by simp at hp),fun b _=>rfl⟩
 |p::r,nd,hp,H,u,k,hn=>by
  rw[jQ_,qE_]at nd
  obtain⟨h1,h2,its,h3,h4⟩:=hp p jG_
  have hnp:=hn p jG_
  have k2:HOk P w (upd H p.1 (.tup p.2)) h':=k.track hnp ⟨h2,its,h3,h4⟩
  obtain⟨H2,e1,e2,e3,e4,e5⟩:=EG_ r nd.2 (fun q hq=>hp q (ju_ _ hq)) (upd H p.1 (.tup p.2)) (u.track h1 hnp) k2 (fun q hq=>by
   have hne:q.1≠p.1:=fun z=>nd.1 (by rw[<-z];exact q0_ hq)
   rw[Ag hne]
   exact hn q (ju_ _ hq))
  refine⟨H2,e1,e2,(Same.new hnp).trans e3,fun q hq=>?_,fun b hb=>?_⟩
  ·rcases jA_.mp hq with rfl|hq
   ·exact e3 _ _ Ab
   ·exact e4 q hq
  ·rw[jQ_,jA_,not_or]at hb
   rw[e5 b hb.2,Ag hb.1]
theorem Vals.two'   (h1:RelV x u)(h2:RelV y v):Vals [x,y] [u,v]:=.cons h1 (.cons h2 .nil)
theorem IW  (hc:X.calm=true):Oi X (.type "list") (fun xs H Q=>∃v d kvs,xs=[.ref v]/\H v=some (Yi v d)/\Rd H d (.dT kvs)/\∀l rs H',Same H H'->H' l=none->rs.length=kvs.length ->
  (∀(i:Nat) (k:List Key) (x:V),kvs[i]?=some (k,x)->∃t b,rs[i]?=some (V.ref t)/\H' t=some (.tup [.ref b,x])/\H b=some (.tup (k.map kV)))->Q (.ref l) (upd H' l (.lst rs))):=by
 intro pins s σ H xs us Q I r h
 obtain⟨p,d,kvs,rfl,hv,hp,q⟩:=h
 obtain⟨u,rfl,rx⟩:=vals1 r
 cases rx
 obtain⟨o,es,ep,g1,g2,g3,g4,g5,g6,g7⟩:=Yh I.hok hp
 obtain⟨hview,_⟩:=(show C3 X.prog X.w H s.heap p (Yi p d) from I.hok p _ hv)
 refine PySem.W.kdx_callV (ep:=ep) (kvs:=es.toList.map fun e:DictEntry=>(e.key,e.val)) (I.ok.hd hc) hview ⟨o,es,g1,g2,g3,True.intro,show PySem.W.PairsV es.toList (es.toList.map fun e=>(e.key,e.val)) from rfl,True.intro⟩ (by rw[jb_,qg_,g4];exact g6) fun h' tk acc c as hk hS hl hG hacc=>?_
 have hal:as.length=kvs.length:=by rw[hl,jb_,qg_,g4]
 let f:DictEntry->V:=fun e=>match e.key with | .ref b=>V.ref b|_=>.non
 let cs:List (List V):=(es.toList.zip kvs).map fun q=>[f q.1,q.2.2]
 have hcl:cs.length=kvs.length:=by simp[cs,g4]
 have hci:∀(i:Nat) (k:List Key) (v:V) (b:Addr) (en:DictEntry),kvs[i]?=some (k,v)->es[i]?=some en->en.key=.ref b->cs[i]?=some [V.ref b,v]:=fun i k v b en h1 h2 h3=>by
  simp only[cs]
  rw[ji_,show (es.toList.zip kvs)[i]?=some (en,(k,v)) from xy_.mpr ⟨by rw[qn_];exact h2,h1⟩]
  show some [f en,v]=_
  simp only[f,h3]
 have hz:(as.zip cs).map (·.1)=as:=by rw[List.map_fst_zip];rw[hal,hcl];exact jl_ _
 have u0:Un X.fs [] H H s.heap h':=Un.kept hk
 have k0:HOk X.prog X.w H h':=I.hok.kept hk
 have hmem:∀p∈as.zip cs,∃i:Nat,as[i]?=some p.1/\cs[i]?=some p.2:=fun p hp=>by
  obtain⟨i,hi⟩:=jW_.mp hp
  exact⟨i,xy_.mp hi⟩
 obtain⟨H2,e1,e2,e3,e4,e5⟩:=EG_ (as.zip cs) (by rw[hz];exact hG.rise.imp fun a=>jF_ a) (fun p hp=>by
  obtain⟨i,h1,h2⟩:=hmem p hp
  have hi:i<kvs.length:=by rw[<-hal];exact (jc_.mp h1).1
  obtain⟨b,en,a1,a2,a3,a4⟩:=g7 i kvs[i].1 kvs[i].2 (by simp[hi])
  have hc:=hci i _ _ b en (show kvs[i]?=some (kvs[i].1,kvs[i].2) by simp[hi]) a1 a2
  rw[hc]at h2
  have h2':=jt_ h2
  obtain⟨key,k,x,b1,b2,b3⟩:=hG.pairs i p.1 h1
  rw[ji_,qn_,a1]at b1
  simp only[Option.map_some,zm_,Prod.mk.injEq]at b1
  obtain⟨b1,b1'⟩:=b1
  refine⟨xE_ (hG.above _ (jf_ h1)),by rw[<-h2'];have:=Aq;simp;lia,[key,x],?_,⟨_,b3,rfl,0,rfl⟩⟩
  rw[<-h2',<-b2,<-b1,<-b1',a2]
  exact Vals.two' rfl a4) H u0 k0 (fun p hp=>by
  obtain⟨i,h1,h2⟩:=hmem p hp
  exact I.hok.fresh (xE_ (hG.above _ (jf_ h1))))
 have hD:H2 s.heap.objs.size=none:=by
  rw[e5 _ (by rw[hz];exact fun z=>absurd (hG.above _ z) (qf_ _))]
  exact I.hok.fresh (jl_ _)
 have hv:Vals (as.map V.ref) acc.toList:=by
  rw[hacc]
  clear hS hl hG hacc hal hz hmem e4 e5
  induction as with
  |nil=>exact .nil
  |cons a r ih=>exact .cons rfl ih
 have new:C3 X.prog X.w (upd H2 s.heap.objs.size (.lst (as.map V.ref))) h' s.heap.objs.size (.lst (as.map V.ref)):=⟨by rw[jb_,hal];exact g6,acc.toList,c,hv,by simpa using hS⟩
 refine⟨.ref _,_,I.un (t':=tk) (e1.track (jl_ _) hD) (e2.track hD new),rfl,q _ _ H2 e3 hD (by rw[jb_,hal]) fun i k x hkx=>?_⟩
 obtain⟨b,en,a1,a2,a3,a4⟩:=g7 i k x hkx
 have hi:i<as.length:=by rw[hal];exact (jc_.mp hkx).1
 have hai:as[i]?=some as[i]:=by simp[hi]
 refine⟨as[i],b,by rw[ji_,hai];rfl,?_,a3⟩
 exact e4 (as[i],[V.ref b,x]) (jW_.mpr ⟨i,xy_.mpr ⟨hai,hci i k x b en hkx a1 a2⟩⟩)
theorem Nv_     (hg:Gl X x)(hm:∃t,X.mg x=some (.int n t))(hd:(x==("__debug__" : Str))=false:=by decide):PE X (.Name x pos) (tC (.int n)):=by
 obtain⟨t,hm⟩:=hm
 exact Gm_ hg hm ⟨_,rfl⟩ hd
section
variable {K:α3} {ta tv td ty tx:TE} {t:TA} {f m:Str} {σ:St} {H:Hp} {Q:VK} {D:Ends} {C:Addr} {sp:Sp} {dvs:List V} {E:XK}
theorem MM_:tFld K ta f σ H Q=ta σ H fun x H1=>∃a C dx fs v,x=.ref a/\H1 a=some (.ins C dx fs)/\Cls K C/\FN K C f/\fs.lookup f=some v/\Q v H1:=rfl
theorem Kl_:sFld K ta tv f D σ H=tv σ H fun y H1=>ta σ H1 fun x H2=>∃a C dx fs,x=.ref a/\H2 a=some (.ins C dx fs)/\Cls K C/\FN K C f/\fs.length<1000/\D.nx σ (upd H2 a (.ins C dx (putF f y fs))):=rfl
theorem Km_:KT_ C m sp dvs E ta t σ H Q=ta σ H fun x H1=>∃a dx fs,x=.ref a/\H1 a=some (.ins C dx fs)/\fs.lookup m=none/\t σ H1 fun vs H2=>sp (x::(vs++dvs)) H2 Q E:=rfl
theorem Kn_:LZ_ C sp dvs E t σ H Q=t σ H fun vs H1=>∀x dx,H1 x=none->H1 dx=none->dx≠x->sp (.ref x::(vs++dvs)) (upd (upd H1 dx (.own x)) x (.ins C dx [])) (fun v H2=>v=.non/\Q (.ref x) H2) E:=rfl
theorem Hp_:JM_ td ty tx σ H Q=td σ H fun x H1=>∃a,x=.ref a/\IsD H1 a/\ty σ H1 fun y H2=>tx σ H2 fun z H3=>∃o,DGet H3 a y o/\Q (o.getD z) H3:=rfl
end
noncomputable def ents (es:List (α2×Int)):List (List Key×V):=es.map fun e=>(wkey e.1,V.int e.2)
theorem Hq_ (es:List (α2×Int)):Ik (es.map (·.1)) (ents es):=by unfold Ik ents;rw[q5_,q5_];rfl
theorem Ms   (h:w∉es.map (·.1)):valV (ents es) (wkey w)=none:=by
 have:=(Hq_ es).some_iff w
 rw[jY_ h]at this
 cases q:valV (ents es) (wkey w) with
 |none=>rfl
 |some v=>rw[q]at this;cases this
theorem F6:∀{es:List (α2×Int)} {w:α2} {m:Int},(es.map (·.1)).Nodup->(w,m)∈es->valV (ents es) (wkey w)=some (.int m)
 |[],_,_,_,h=>by cases h
 |e::r,w,m,nd,h=>by
  rw[jQ_,qE_]at nd
  unfold valV ents
  rw[jQ_,qS_]
  by_cases hw:e.1=w
  ·have hem:e.2=m:=by
    rcases jA_.mp h with q|q
    ·rw[<-q]
    ·exact absurd (jH_.mpr ⟨_,q,hw.symm⟩) nd.1
   rw[show decide ((wkey e.1,V.int e.2).1=wkey w)=true from jR_ (by rw[hw]),<-hem];rfl
  ·rw[show decide ((wkey e.1,V.int e.2).1=wkey w)=false from jY_ fun z=>hw (UO z)]
   rcases jA_.mp h with q|q
   ·exact absurd (by rw[<-q]) hw
   ·exact F6 nd.2 q
theorem UP    (h:w∉es.map (·.1)):putK (ents es) (wkey w) (.int m)=ents (es++[(w,m)]):=by
 unfold putK
 rw[KR,Ms h,if_neg (by simp)]
 unfold ents
 rw[jn_];rfl
theorem FA_:¬ (("letters" : Str) = "marks"):=by decide +kernel
noncomputable def Dj_ (L:Int)(d:Addr):List (Str×V):=putF "marks" (.ref d) (putF "letters" (.int L) [])
theorem Yk (L:Int)(d:Addr):(Dj_ L d).lookup ("letters" : Str)=some (.int L):=by
 unfold Dj_
 rw[Gf,if_neg FA_,Gf,if_pos rfl]
theorem Hm (L:Int)(d:Addr):(Dj_ L d).lookup ("marks" : Str)=some (.ref d):=by
 unfold Dj_
 rw[Gf,if_pos rfl]
theorem HK (L:Int)(d:Addr){m:Str}(h1:¬ m = "marks")(h2:¬ m = "letters"):(Dj_ L d).lookup m=none:=by
 unfold Dj_
 rw[Gf,if_neg h1,Gf,if_neg h2]
 rfl
structure BookAt (C:Addr)(H:Hp)(p d:Addr)(L:Int)(es:List (α2×Int)):Prop where
 ob:∃dx,H p=some (.ins C dx (Dj_ L d))
 dc:H d=some (.dT (ents es))
 nd:(es.map (·.1)).Nodup
theorem BookAt.mono      (h:BookAt C H p d L es)(s:Same H H'):BookAt C H' p d L es:=by
 obtain⟨⟨dx,a⟩,b,c⟩:=h
 exact⟨⟨dx,s _ _ a⟩,s _ _ b,c⟩
end L2
namespace L2
open PySem PySem.Spec PyProof.Rows
noncomputable def Ko_ (i:Nat)(f:Addr)(sp:Sp)(dvs:List V)(E:XK)(t:TA):TE:=fun σ H Q=>tVar i σ H fun v H1=>v=.ref f/\t σ H1 fun vs H2=>sp (vs++dvs) H2 Q E
theorem Hr_          : Ko_ i f sp dvs E t σ H Q=tVar i σ H fun v H1=>v=.ref f/\t σ H1 fun vs H2=>sp (vs++dvs) H2 Q E:=rfl
theorem Hs_     : LX_ A σ H Z=A σ H fun vs H1=>∃i j:Int,vs=[.int i,.int j]/\(-(2 ^ 62)<=i/\i<2 ^ 62 /\ -(2 ^ 62)<=j/\j<2 ^ 62)/\Z (Itr i (j-i).toNat) H1:=rfl
section
variable {X:Cx} {CX CX':CXT} {k k':Nat} {f f':Addr} {fd fd':α6} {ps ps':List Str} {sp sp':Sp} {dvs dvs':List V} {ds ds':List Value} {x:Str} {p pos:Pos} {e:Expr} {es:List Expr} {t:TA}
theorem IP_  (i:Nat)(F:FnOk X.prog X.w X.K X.mg X.base CX k f fd ps sp)(hr:Room k X.A)(hk:keepIn X.K (.ref f)=true)(hb:Binds X.K fd ps ds)(hd:Vals dvs ds)(hx:Ml CX X E)(ha:PA X (e::es) t)
  (hN:X.N[i]?=some x:=by rfl) (hv:Vis X.env.scope x:=by first|exact Or.inl rfl|exact Or.inr (Or.inl rfl)|exact Or.inr (Or.inr rfl)) (hdb:(x==("__debug__" : Str))=false:=by decide) (hcd:(x==("__classdict__" : Str))=false:=by decide)
  (he:starEach (e::es) X.env=(false,eval e X.env)::starEach es X.env:=by rfl) (hpl:(backTo pos (starEach es X.env)).any (·.1)=false:=by rfl):
  PE X (.Call (.Name x p) (e::es) [] pos) (Ko_ i f sp dvs E t):=by
 intro pins s σ H Q I h
 refine xo_ (thn (pv i hN hv hdb hcd pins s σ H _ I h) fun u s1 ⟨v,H1,I1,rv,ev,q⟩=>?_)
 subst ev
 obtain rfl:u=Value.ref f:=rv
 refine xp_ (h₀:=X.base) I.ok.mod.kin hk (thn (ha pos pins s1 σ H1 _ I1 q) fun us s2 ⟨vs,H2,I2,r,q2⟩=>⟨I2.kIn,?_⟩) he hpl
 exact AN_ F hr hb hd hx I2 r q2
end
end L2
namespace PySem
open Sem (wp)
open PySem.F
section
variable {prog:Program} {w:World} {A:Around} {E:Value->Shared->Prop} {s:Shared}
theorem LI {it l:Addr}  {items}   (hit:s.heap.IsTupleIter it l i)
  (hl:s.heap.IsTuple l items) (hx:items[i]?=some x)
  (hQ:∀h',h'.IsTupleIter it l (i+1)->Heap.SameBut it s.heap h'->Q x {s with heap:=h' }):
  wpAny (model prog w) A (Builtin.SmallTypes.nextOf (.ref it)) Q E s:=by
 obtain⟨o,ho,hc,hd⟩:=id hit
 obtain⟨ol,hol,_,nl,hdl⟩:=hl
 unfold Builtin.SmallTypes.nextOf
 refine ja_ (jM_ (name:=Str.ofString "__next__") hit.typeIs qL_
  (jS_ qL_ hit.typeIs xN_ ?_ (xH_ _)))
 show wpAny _ _ (field (.ref it) 0 >>= _) _ _ s
 refine ja_ (qb_ ho hd (x:=.ref l) rfl ?_)
 show wpAny _ _ (if (Value.ref l==Value.none)=true then _ else _) _ _ s
 rw[if_neg (show ¬ ((Value.ref l==Value.none)=true) from jm_)]
 show wpAny _ _ (field (.ref it) 1 >>= _) _ _ s
 refine ja_ (qb_ ho hd (x:=.int i 0) rfl ?_)
 show wpAny _ _ (seqItems? (.ref l) >>= _) _ _ s
 refine ja_ (qX_ hol hdl ?_)
 simp only[jB_,hx]
 refine ja_ (xx_ ho hd (by simp) (je_ ⟨x,rfl,je_ (hQ _ ?_ (qZ_ ..))⟩))
 exact⟨_,qz_ _ ho (Obj.isFreed_of_fields (xM_ hd _)),(Obj.cls_mapFields ..).trans hc,by
  rw[xM_ hd];simp[rawInt]⟩
theorem Mt {it l:Addr}  {items}  (hh:A.handled=none)
  (hit:s.heap.IsTupleIter it l i) (hl:s.heap.IsTuple l items) (hx:items[i]?=none)
  (hE:∀h' e,Heap.ExtBut it s.heap h'->(∃o,h'.get? e=some o/\o.cls=.type "StopIteration")->E (.ref e) {s with heap:=h' }):
  wpAny (model prog w) A (Builtin.SmallTypes.nextOf (.ref it)) Q E s:=by
 obtain⟨o,ho,hc,hd⟩:=id hit
 obtain⟨ol,hol,_,nl,hdl⟩:=hl
 unfold Builtin.SmallTypes.nextOf
 refine ja_ (jM_ (name:=Str.ofString "__next__") hit.typeIs qL_
  (jS_ qL_ hit.typeIs xN_ ?_ (xH_ _)))
 show wpAny _ _ (field (.ref it) 0 >>= _) _ _ s
 refine ja_ (qb_ ho hd (x:=.ref l) rfl ?_)
 show wpAny _ _ (if (Value.ref l==Value.none)=true then _ else _) _ _ s
 rw[if_neg (show ¬ ((Value.ref l==Value.none)=true) from jm_)]
 show wpAny _ _ (field (.ref it) 1 >>= _) _ _ s
 refine ja_ (qb_ ho hd (x:=.int i 0) rfl ?_)
 show wpAny _ _ (seqItems? (.ref l) >>= _) _ _ s
 refine ja_ (qX_ hol hdl ?_)
 simp only[jB_,hx]
 refine ja_ (wpAny_rule (ja_ (xx_ ho hd (by simp) ?_)))
 show wpAny _ _ (newExc (.type "StopIteration") [] >>= _) _ _ _
 refine ja_ ?_
 simp only[newExc,newTuple]
 refine ja_ (jN_ ?_ (by size_fits))
 refine ja_ (m:=firstArgMember _ _) (wpAny_of_eq (a:=Value.none) (by first|rfl|(simp only[firstArgMember];rfl)) ?_)
 refine jN_ ?_ (by size_fits)
 simp only[raiseNew]
 refine ja_ (wpAny_handled ?_)
 first|rw[show A.in1.handled=none from hh]|rw[hh]
 refine ja_ (je_ (wpAny_throw ?_))
 exact hE _ _ (((qZ_ ..).extBut.push _).push _) ⟨_,jo_ _ rfl,rfl⟩
end
noncomputable def Hn (t:Bool)(h:Heap)(l:Addr)(xs:Array Value):Prop:=match t with|false=>h.IsList l xs|true=>h.IsTuple l xs
noncomputable def E7 (t:Bool)(h:Heap)(i l:Addr)(k:Nat):Prop:=match t with|false=>h.IsListIter i l k|true=>h.IsTupleIter i l k
theorem Hn.extBut   {a b items}(x:Hn t h a items)(hs:Heap.ExtBut b h h')(hab:a≠b):Hn t h' a items:=by
 cases t
 ·exact Heap.IsList.extBut x hs hab
 ·exact Heap.IsTuple.extBut x hs hab
theorem Hn.push   {a items}(x:Hn t h a items)(o:Obj):Hn t (h.push o) a items:=by
 cases t
 ·exact Heap.IsList.push x o
 ·exact Heap.IsTuple.push x o
theorem Hn.lt   {a items}(x:Hn t h a items):a<h.objs.size:=by
 cases t
 ·obtain⟨_,e,_⟩:=x;exact jk_ e
 ·obtain⟨_,e,_⟩:=x;exact jk_ e
theorem E7.extBut   {a b l i}(x:E7 t h a l i)(hs:Heap.ExtBut b h h')(hab:a≠b):E7 t h' a l i:=by
 cases t
 ·exact Heap.IsListIter.extBut x hs hab
 ·exact Heap.IsTupleIter.extBut x hs hab
theorem E7.at   {a l i}(x:E7 t h a l i)(e:∀o,h.get? a=some o->h'.get? a=some o):E7 t h' a l i:=by
 cases t
 ·exact Heap.IsListIter.at x e
 ·exact Heap.IsTupleIter.at x e
theorem E7.ob   {a l i}(x:E7 t h a l i):∃o,h.get? a=some o/\o.data=.fields #[.ref l,.int i 0]:=by
 cases t
 ·obtain⟨o,e,_,d⟩:=x;exact⟨o,e,d⟩
 ·obtain⟨o,e,_,d⟩:=x;exact⟨o,e,d⟩
theorem E7.lt   {a l i}(x:E7 t h a l i):a<h.objs.size:=by
 obtain⟨_,e,_⟩:=x.ob;exact jk_ e
section
variable {prog:Program} {w:World} {A:Around} {E:Value->Shared->Prop} {s:Shared}
theorem E8  {it l:Addr}  {items}   (hit:E7 t s.heap it l i)(hl:Hn t s.heap l items)(hx:items[i]?=some x)
  (hQ:∀h',E7 t h' it l (i+1)->Heap.SameBut it s.heap h'->Q x {s with heap:=h' }):wpAny (model prog w) A (Builtin.SmallTypes.nextOf (.ref it)) Q E s:=by
 cases t
 ·exact wpAny_nextOf_list_item hit hl hx hQ
 ·exact LI hit hl hx hQ
theorem IB  {it l:Addr}  {items}  (hh:A.handled=none)(hit:E7 t s.heap it l i)(hl:Hn t s.heap l items)(hx:items[i]?=none)
  (hE:∀h' e,Heap.ExtBut it s.heap h'->(∃o,h'.get? e=some o/\o.cls=.type "StopIteration")->E (.ref e) {s with heap:=h' }):wpAny (model prog w) A (Builtin.SmallTypes.nextOf (.ref it)) Q E s:=by
 cases t
 ·exact wpAny_nextOf_list_end hh hit hl hx hE
 ·exact Mt hh hit hl hx hE
noncomputable def Ht_ (t:Bool):Value:=match t with|false=>.type "list_iterator" |true=>.type "tuple_iterator"
theorem E7.mk    (g:h.get? a=some {cls:=Ht_ t,data:=.fields #[.ref l,.int 0 0]}):E7 t h a l 0:=by
 cases t
 ·exact⟨_,g,rfl,rfl⟩
 ·exact⟨_,g,rfl,rfl⟩
theorem Lp   {items}  (hl:Hn t s.heap l items)
  (hQ:Q (.ref s.heap.objs.size) {s with heap:=s.heap.push {cls:=Ht_ t,data:=.fields #[.ref l,.int 0 0]} }):wpAny (model prog w) A (pyIter (.ref l)) Q E s:=by
 cases t
 ·exact wpAny_pyIter_list hl hQ
 ·exact wpAny_pyIter_tuple hl hQ
end
section
variable {prog:Program} {w:World} {A:Around} {E:Value->Shared->Prop} {s:Shared}
theorem WT {t1 t2:Bool}{z TI TO i1 i2 l1 l2:Addr}{k1 k2:Nat}{xs ys:Array Value}{x y a b:Value}{Q:Value->Shared->Prop}(D:ZipApart z TI TO i1 i2 l1 l2)
  (hz:IsZip s.heap z TI TO .none) (hTI:IsPair s.heap TI (.ref i1) (.ref i2)) (hTO:IsPair s.heap TO a b)
  (h1:E7 t1 s.heap i1 l1 k1) (h2:E7 t2 s.heap i2 l2 k2) (hl1:Hn t1 s.heap l1 xs) (hl2:Hn t2 s.heap l2 ys) (hx:xs[k1]?=some x) (hy:ys[k2]?=some y)
  (hQ:∀h',IsZip h' z TI TO (rawInt s.heap.objs.size)->IsPair h' TO x y->E7 t1 h' i1 l1 (k1+1)->E7 t2 h' i2 l2 (k2+1)->IsPair h' s.heap.objs.size x y->h'.objs.size=s.heap.objs.size+1 ->
   (∀c o,c≠z->c≠TO->c≠i1->c≠i2->s.heap.get? c=some o->h'.get? c=some o)->Q (.ref s.heap.objs.size) {s with heap:=h' }):
  wpAny (model prog w) A (Builtin.«zip.__next__» ⟨[.ref z],[]⟩) (fun fin s'=>∃v,fin=.done (.ret v)/\Q v s') E s:=by
 show wpAny _ _ (field (.ref z) 2 >>= _) _ _ _
 refine ja_ (qb_ hz rfl (x:=.bool false) rfl ?_)
 show wpAny _ _ (field (.ref z) 3 >>= _) _ _ _
 refine ja_ (qb_ hz rfl (x:=.ref TI) rfl ?_)
 refine ja_ (qX_ hTI rfl ?_)
 show wpAny _ _ (Builtin.SmallTypes.ownedTupleIsFree (.ref z) >>= _) _ _ _
 refine ja_ ?_
 unfold Builtin.SmallTypes.ownedTupleIsFree
 refine ja_ (qb_ hz rfl (x:=.none) rfl (je_ ?_))
 simp only[q7_]
 refine ja_ (wpAny_rule ?_)
 refine ja_ (qb_ hz rfl (x:=.ref TO) rfl ?_)
 refine ja_ (jX_ hz (by simp) fun h₁ hz₁ hs₁=>?_)
 replace hz₁:IsZip h₁ z TI TO .ellipsis:=hz₁
 refine ja_ ?_
 simp only[List.zipIdx_cons,List.zipIdx_nil,List.forIn_cons,List.forIn_nil]
 refine ja_ (ja_ (wpAny_onRaise ?_))
 show wpAny _ _ (Builtin.SmallTypes.nextOf (.ref i1) >>= _) _ _ _
 refine ja_ (E8 (h1.extBut hs₁.extBut D.i1z) (hl1.extBut hs₁.extBut D.l1z) hx fun h₂ h1₂ hs₂=>je_ ?_)
 have hTO₂:IsPair h₂ TO a b:=hs₂.extBut _ _ D.TOi1 (hs₁.extBut _ _ D.TOz hTO)
 refine ja_ (qX_ hTO₂ rfl ?_)
 refine ja_ (x7_ hTO₂ fun h₃ hTO₃ hs₃=>?_)
 replace hTO₃:IsPair h₃ TO x b:=hTO₃
 refine ja_ (wpAny_letGo (je_ ?_))
 refine ja_ (ja_ (wpAny_onRaise ?_))
 show wpAny _ _ (Builtin.SmallTypes.nextOf (.ref i2) >>= _) _ _ _
 refine ja_ (E8 (((h2.extBut hs₁.extBut D.i2z).extBut hs₂.extBut D.i12.symm).extBut hs₃.extBut D.TOi2.symm)
  (((hl2.extBut hs₁.extBut D.l2z).extBut hs₂.extBut D.l2i1).extBut hs₃.extBut D.l2TO) hy fun h₄ h2₄ hs₄=>je_ ?_)
 have hTO₄:IsPair h₄ TO x b:=hs₄.extBut _ _ D.TOi2 hTO₃
 refine ja_ (qX_ hTO₄ rfl ?_)
 refine ja_ (x7_ hTO₄ fun h₅ hTO₅ hs₅=>?_)
 replace hTO₅:IsPair h₅ TO x y:=hTO₅
 refine ja_ (wpAny_letGo (je_ (je_ ?_)))
 refine ja_ (qX_ hTO₅ rfl ?_)
 refine ja_ (wpAny_newTuple ?_)
 have hsz:h₅.objs.size=s.heap.objs.size:=by rw[hs₅.1,hs₄.1,hs₃.1,hs₂.1,hs₁.1]
 have hz₅:IsZip h₅ z TI TO .ellipsis:=hs₅.extBut _ _ D.TOz.symm (hs₄.extBut _ _ D.i2z.symm (hs₃.extBut _ _ D.TOz.symm (hs₂.extBut _ _ D.i1z.symm hz₁)))
 have hk₅:∀c o,c≠z->c≠TO->c≠i1->c≠i2->s.heap.get? c=some o->h₅.get? c=some o:=fun c o c1 c2 c3 c4 e=>
  hs₅.extBut _ _ c2 (hs₄.extBut _ _ c4 (hs₃.extBut _ _ c2 (hs₂.extBut _ _ c3 (hs₁.extBut _ _ c1 e))))
 have h1₅:E7 t1 h₅ i1 l1 (k1+1):=((h1₂.extBut hs₃.extBut D.TOi1.symm).extBut hs₄.extBut D.i12).extBut hs₅.extBut D.TOi1.symm
 have h2₅:E7 t2 h₅ i2 l2 (k2+1):=h2₄.extBut hs₅.extBut D.TOi2.symm
 have hzlt:z<h₅.objs.size:=jk_ hz₅
 have hTOlt:TO<h₅.objs.size:=jk_ hTO₅
 have hi1lt:i1<h₅.objs.size:=h1₅.lt
 have hi2lt:i2<h₅.objs.size:=h2₅.lt
 show wpAny _ _ (Builtin.SmallTypes.ownedTupleHandOut (.ref z) (.ref h₅.objs.size) >>= _) _ _ _
 refine ja_ ?_
 unfold Builtin.SmallTypes.ownedTupleHandOut
 have hz₆:IsZip (h₅.push {cls:=.type "tuple",data:=.seq #[x,y]}) z TI TO .ellipsis:=jd_ _ hz₅
 refine ja_ (jX_ hz₆ (by simp) fun h₇ hz₇ hs₇=>?_)
 replace hz₇:IsZip h₇ z TI TO (rawInt h₅.objs.size):=hz₇
 refine jX_ hz₇ (by simp) fun h₈ hz₈ hs₈=>?_
 replace hz₈:IsZip h₈ z TI TO (rawInt h₅.objs.size):=hz₈
 have up:∀c o,c≠z->h₅.get? c=some o->h₈.get? c=some o:=fun c o c1 e=>hs₈.extBut _ _ c1 (hs₇.extBut _ _ c1 (jd_ _ e))
 have hT₈:IsPair h₈ h₅.objs.size x y:=hs₈.extBut _ _ (j1_ hzlt) (hs₇.extBut _ _ (j1_ hzlt) (jo_ _ rfl))
 have hz8:h₈.objs.size=h₅.objs.size+1:=by rw[hs₈.1,hs₇.1,qu_]
 rw[hsz]at hz₈ hT₈ hz8
 refine je_ ⟨_,rfl,?_⟩
 show Q (.ref h₅.objs.size) _
 rw[hsz]
 exact hQ h₈ hz₈ (up _ _ D.TOz hTO₅) (h1₅.at fun o e=>up _ o D.i1z e) (h2₅.at fun o e=>up _ o D.i2z e) hT₈ hz8 fun c o c1 c2 c3 c4 e=>up c o c1 (hk₅ c o c1 c2 c3 c4 e)
theorem Yl  {z TI TO i1 i2 l1 l2:Addr}     (hh:A.handled=none)(D:ZipApart z TI TO i1 i2 l1 l2)
  (hz:IsZip s.heap z TI TO .none) (hTI:IsPair s.heap TI (.ref i1) (.ref i2)) (hTO:IsPair s.heap TO a b)
  (h1:E7 t1 s.heap i1 l1 k1) (h2:E7 t2 s.heap i2 l2 k2) (hl1:Hn t1 s.heap l1 xs) (hl2:Hn t2 s.heap l2 ys) (hend:xs[k1]?=none\/ys[k2]?=none)
  (hE:∀h' e,(∀c o,c≠z->c≠TO->c≠i1->c≠i2->s.heap.get? c=some o->h'.get? c=some o)->(∃o,h'.get? e=some o/\o.cls=.type "StopIteration")->E (.ref e) {s with heap:=h' }):
  wpAny (model prog w) A (Builtin.«zip.__next__» ⟨[.ref z],[]⟩) Q E s:=by
 show wpAny _ _ (field (.ref z) 2 >>= _) _ _ _
 refine ja_ (qb_ hz rfl (x:=.bool false) rfl ?_)
 show wpAny _ _ (field (.ref z) 3 >>= _) _ _ _
 refine ja_ (qb_ hz rfl (x:=.ref TI) rfl ?_)
 refine ja_ (qX_ hTI rfl ?_)
 show wpAny _ _ (Builtin.SmallTypes.ownedTupleIsFree (.ref z) >>= _) _ _ _
 refine ja_ ?_
 unfold Builtin.SmallTypes.ownedTupleIsFree
 refine ja_ (qb_ hz rfl (x:=.none) rfl (je_ ?_))
 simp only[q7_]
 refine ja_ (wpAny_rule ?_)
 refine ja_ (qb_ hz rfl (x:=.ref TO) rfl ?_)
 refine ja_ (jX_ hz (by simp) fun h₁ hz₁ hs₁=>?_)
 replace hz₁:IsZip h₁ z TI TO .ellipsis:=hz₁
 refine ja_ ?_
 simp only[List.zipIdx_cons,List.zipIdx_nil,List.forIn_cons,List.forIn_nil]
 refine ja_ (ja_ (wpAny_onRaise ?_))
 show wpAny _ _ (Builtin.SmallTypes.nextOf (.ref i1) >>= _) _ _ _
 cases hx:xs[k1]? with
 |none=>
  refine ja_ (IB hh (h1.extBut hs₁.extBut D.i1z) (hl1.extBut hs₁.extBut D.l1z) hx fun h₂ e hs₂ he=>?_)
  obtain⟨oe,hoe,hce⟩:=he
  have hz₂:IsZip h₂ z TI TO .ellipsis:=hs₂ _ _ D.i1z.symm hz₁
  have hez:e≠z:=fun x=>by subst x;rw[hz₂]at hoe;cases hoe;simp at hce
  refine jX_ hz₂ (by simp) fun h₃ _ hs₃=>hE h₃ e (fun c o c1 _ c3 _ x=>hs₃.extBut _ _ c1 (hs₂ _ _ c3 (hs₁.extBut _ _ c1 x))) ⟨oe,hs₃.extBut _ _ hez hoe,hce⟩
 |some x=>
  have hy:ys[k2]?=none:=by rcases hend with h|h;rw[hx]at h;cases h;exact h
  refine ja_ (E8 (h1.extBut hs₁.extBut D.i1z) (hl1.extBut hs₁.extBut D.l1z) hx fun h₂ h1₂ hs₂=>je_ ?_)
  have hTO₂:IsPair h₂ TO a b:=hs₂.extBut _ _ D.TOi1 (hs₁.extBut _ _ D.TOz hTO)
  refine ja_ (qX_ hTO₂ rfl ?_)
  refine ja_ (x7_ hTO₂ fun h₃ hTO₃ hs₃=>?_)
  refine ja_ (wpAny_letGo (je_ ?_))
  refine ja_ (ja_ (wpAny_onRaise ?_))
  show wpAny _ _ (Builtin.SmallTypes.nextOf (.ref i2) >>= _) _ _ _
  refine ja_ (IB hh (((h2.extBut hs₁.extBut D.i2z).extBut hs₂.extBut D.i12.symm).extBut hs₃.extBut D.TOi2.symm)
   (((hl2.extBut hs₁.extBut D.l2z).extBut hs₂.extBut D.l2i1).extBut hs₃.extBut D.l2TO) hy fun h₄ e hs₄ he=>?_)
  obtain⟨oe,hoe,hce⟩:=he
  have hz₄:IsZip h₄ z TI TO .ellipsis:=hs₄ _ _ D.i2z.symm (hs₃.extBut _ _ D.TOz.symm (hs₂.extBut _ _ D.i1z.symm hz₁))
  have hez:e≠z:=fun x=>by subst x;rw[hz₄]at hoe;cases hoe;simp at hce
  refine jX_ hz₄ (by simp) fun h₅ _ hs₅=>hE h₅ e (fun c o c1 c2 c3 c4 x=>hs₅.extBut _ _ c1 (hs₄ _ _ c4 (hs₃.extBut _ _ c2 (hs₂.extBut _ _ c3 (hs₁.extBut _ _ c1 x))))) ⟨oe,hs₅.extBut _ _ hez hoe,hce⟩
theorem LJ  {z TI TO i1 i2 l1 l2:Addr}     (D:ZipApart z TI TO i1 i2 l1 l2)
  (hz:IsZip s.heap z TI TO .none) (hTI:IsPair s.heap TI (.ref i1) (.ref i2)) (hTO:IsPair s.heap TO a b)
  (h1:E7 t1 s.heap i1 l1 k1) (h2:E7 t2 s.heap i2 l2 k2) (hl1:Hn t1 s.heap l1 xs) (hl2:Hn t2 s.heap l2 ys) (hx:xs[k1]?=some x) (hy:ys[k2]?=some y)
  (hQ:∀h',IsZip h' z TI TO (rawInt s.heap.objs.size)->IsPair h' TO x y->E7 t1 h' i1 l1 (k1+1)->E7 t2 h' i2 l2 (k2+1)->IsPair h' s.heap.objs.size x y->h'.objs.size=s.heap.objs.size+1 ->
   (∀c o,c≠z->c≠TO->c≠i1->c≠i2->s.heap.get? c=some o->h'.get? c=some o)->Q (some (.ref s.heap.objs.size)) {s with heap:=h' }):
  wpAny (model prog w) A (pyNext (.ref z)) Q E s:=by
 have hT:s.TypeIs (.ref z) "zip" := ⟨_,hz,rfl⟩
 unfold pyNext
 exact ja_ (qW_ (jM_ (name:=Str.ofString "__next__") hT xt_
  (jS_ xt_ hT PySem.F.entry_zip_next
   (WT D hz hTI hTO h1 h2 hl1 hl2 hx hy fun h' a1 a2 a3 a4 a5 a6 a7=>je_ (hQ h' a1 a2 a3 a4 a5 a6 a7)) (PySem.F.args_zip_next_1 _))))
theorem Mu  {z TI TO i1 i2 l1 l2:Addr}     (hh:A.handled=none)(D:ZipApart z TI TO i1 i2 l1 l2)
  (hz:IsZip s.heap z TI TO .none) (hTI:IsPair s.heap TI (.ref i1) (.ref i2)) (hTO:IsPair s.heap TO a b)
  (h1:E7 t1 s.heap i1 l1 k1) (h2:E7 t2 s.heap i2 l2 k2) (hl1:Hn t1 s.heap l1 xs) (hl2:Hn t2 s.heap l2 ys) (hend:xs[k1]?=none\/ys[k2]?=none)
  (hQ:∀h',(∀c o,c≠z->c≠TO->c≠i1->c≠i2->s.heap.get? c=some o->h'.get? c=some o)->Q none {s with heap:=h' }):wpAny (model prog w) A (pyNext (.ref z)) Q E s:=by
 have hT:s.TypeIs (.ref z) "zip" := ⟨_,hz,rfl⟩
 unfold pyNext
 refine ja_ (qW_ (jM_ (name:=Str.ofString "__next__") hT xt_
  (jS_ xt_ hT PySem.F.entry_zip_next (Yl hh D hz hTI hTO h1 h2 hl1 hl2 hend fun h' e hk he=>?_) (PySem.F.args_zip_next_1 _))))
 obtain⟨o,ho,hc⟩:=he
 refine ja_ (x4_ (T := "StopIteration") (b:=true) ⟨o,ho,hc⟩ isSubtype_stop ?_)
 exact je_ (hQ _ hk)
end
noncomputable abbrev IQ_ (t1 t2:Bool)(h:Heap)(l1:Addr):Heap:=h.push {cls:=Ht_ t1,data:=.fields #[.ref l1,.int 0 0]}
noncomputable abbrev IR_ (t1 t2:Bool)(h:Heap)(l1 l2:Addr):Heap:=(IQ_ t1 t2 h l1).push {cls:=Ht_ t2,data:=.fields #[.ref l2,.int 0 0]}
noncomputable abbrev IS_ (t1 t2:Bool)(h:Heap)(l1 l2:Addr):Heap:=(IR_ t1 t2 h l1 l2).push {cls:=.type "tuple",data:=.seq #[.ref h.objs.size,.ref (IQ_ t1 t2 h l1).objs.size]}
noncomputable abbrev IT_ (t1 t2:Bool)(h:Heap)(l1 l2:Addr):Heap:=(IS_ t1 t2 h l1 l2).push {cls:=.type "tuple",data:=.seq #[.none,.none]}
noncomputable abbrev Dk_ (t1 t2:Bool)(h:Heap)(l1 l2:Addr):Heap:=(IT_ t1 t2 h l1 l2).push {cls:=.type "zip",data:=.fields #[.none,.bool false,.bool false,.ref (IR_ t1 t2 h l1 l2).objs.size,.ref (IS_ t1 t2 h l1 l2).objs.size]}
theorem WU (t1 t2:Bool)(l1 l2:Addr)(xs ys:Array Value):
  Meets (Builtin.«zip.__new__» ⟨[.type "zip",.ref l1,.ref l2],[]⟩) (fun _ R s=>Hn t1 s.heap l1 xs/\Hn t2 s.heap l2 ys /\
   R (.ok (.ret (.ref (IT_ t1 t2 s.heap l1 l2).objs.size))) {s with heap:=Dk_ t1 t2 s.heap l1 l2}):=
 .of_wp fun prog w A R s h=>by
  obtain⟨hp,g,d,tk,os⟩:=s;obtain⟨hl1,hl2,h⟩:=h
  have hsub:=sub_zip
  have hL1:Hn t1 (Shared.heap ⟨hp,g,d,tk,os⟩) l1 xs:=hl1
  have hL2:Hn t2 (Shared.heap ⟨hp.push {cls:=Ht_ t1,data:=.fields #[.ref l1,.int 0 0]},g,d,tk,os⟩) l2 ys:=Hn.push hl2 _
  wp_walk using Lp hL1,Lp hL2
  exact⟨_,rfl,h⟩
section
variable {prog:Program} {w:World} {A:Around} {E:Value->Shared->Prop} {s:Shared}
theorem Dl_     (hl1:Hn t1 s.heap l1 xs)(hl2:Hn t2 s.heap l2 ys)
  (h:∀h',IsZip h' (s.heap.objs.size+4) (s.heap.objs.size+2) (s.heap.objs.size+3) .none->IsPair h' (s.heap.objs.size+2) (.ref s.heap.objs.size) (.ref (s.heap.objs.size+1)) ->
   IsPair h' (s.heap.objs.size+3) .none .none->E7 t1 h' s.heap.objs.size l1 0->E7 t2 h' (s.heap.objs.size+1) l2 0->h'.objs.size=s.heap.objs.size+5 ->
   (∀c o,s.heap.get? c=some o->h'.get? c=some o)->Q (.ref (s.heap.objs.size+4)) {s with heap:=h' }):
  wpAny (model prog w) A (call (.type "zip") [.ref l1,.ref l2]) Q E s:=by
 refine callType_new PySem.F.called_zip (by decide) (PySem.F.typeCall_zip_2 _ _) (PySem.F.newCall_zip_2 _ _) (fun obj=>PySem.F.args_object_init_3 obj _ _) PySem.F.entry_zip_new
  (WU t1 t2 l1 l2 xs ys) ⟨hl1,hl2,?_⟩
 have z1:(IQ_ t1 t2 s.heap l1).objs.size=s.heap.objs.size+1:=qu_ ..
 have z2:(IR_ t1 t2 s.heap l1 l2).objs.size=s.heap.objs.size+2:=by rw[qu_,z1]
 have z3:(IS_ t1 t2 s.heap l1 l2).objs.size=s.heap.objs.size+3:=by rw[qu_,z2]
 have z4:(IT_ t1 t2 s.heap l1 l2).objs.size=s.heap.objs.size+4:=by rw[qu_,z3]
 have z5:(Dk_ t1 t2 s.heap l1 l2).objs.size=s.heap.objs.size+5:=by rw[qu_,z4]
 have g5:(Dk_ t1 t2 s.heap l1 l2).get? (IT_ t1 t2 s.heap l1 l2).objs.size=some _:=jo_ _ rfl
 have g4:(Dk_ t1 t2 s.heap l1 l2).get? (IS_ t1 t2 s.heap l1 l2).objs.size=some _:=jd_ _ (jo_ _ rfl)
 have g3:(Dk_ t1 t2 s.heap l1 l2).get? (IR_ t1 t2 s.heap l1 l2).objs.size=some _:=jd_ _ (jd_ _ (jo_ _ rfl))
 have g2:(Dk_ t1 t2 s.heap l1 l2).get? (IQ_ t1 t2 s.heap l1).objs.size=some _:=jd_ _ (jd_ _ (jd_ _ (jo_ _ rfl)))
 have g1:(Dk_ t1 t2 s.heap l1 l2).get? s.heap.objs.size=some _:=jd_ _ (jd_ _ (jd_ _ (jd_ _ (jo_ _ rfl))))
 show _/\_
 rw[z2,z3,z4]at g5
 rw[z1,z2]at g3
 rw[z3]at g4
 rw[z1]at g2
 rw[z4]
 exact⟨⟨_,g5,rfl⟩,h _ g5 g3 g4 (E7.mk g1) (E7.mk g2) z5 fun c o x=>
  jd_ _ (jd_ _ (jd_ _ (jd_ _ (jd_ _ x))))⟩
end
end PySem
namespace L2
open PySem PySem.Spec PyProof.Rows GW
noncomputable def SqB (K:α3)(H:Hp)(t:Bool)(a:Addr)(xs:List V):Prop:=match t with|false=>SqL K H a xs|true=>SqT K H a xs
theorem Inv.seqB         (I:Inv X pins σ H s)(h:SqB X.K H t a xs):∃its:List Value,Vals xs its/\Hn t s.heap a its.toArray:=by
 cases t
 ·obtain⟨its,r,p,_⟩:=I.list h
  exact⟨its,r,p.isList⟩
 ·obtain⟨its,r,p,_⟩:=I.tuple h
  exact⟨its,r,p⟩
noncomputable def Itz2 (K:α3)(t1 t2:Bool)(a b:Addr)(xs ys:List V):It:=⟨fun i H=>i<xs.length/\i<ys.length/\SqB K H t1 a xs/\SqB K H t2 b ys,fun i H x H'=>∃t u v,H t=none/\xs[i]?=some u/\ys[i]?=some v/\x=.ref t/\H'=upd H t (.tup [u,v]),fun i H=>(xs.length<=i\/ys.length<=i)/\SqB K H t1 a xs/\SqB K H t2 b ys⟩
theorem Hu_ {P:Program}{w:World}{K:α3}{elts:List Expr}{x1}{tpos:Pos}{t1 t2:Bool}{a b z TI TO i1 i2:Addr}(D:ZipApart z TI TO i1 i2 a b)(xs ys:List V):Turn P w K (.Tuple elts x1 tpos) (Itz2 K t1 t2 a b xs ys) [z,TI,TO,i1,i2] z
  (fun i h=>IsZip h z TI TO .none/\IsPair h TI (.ref i1) (.ref i2)/\(∃c d,IsPair h TO c d)/\E7 t1 h i1 a i/\E7 t2 h i2 b i) where
 mem:=by simp
 obj:=fun i h st c hc=>by
  obtain⟨h1,h2,⟨u,v,h3⟩,h4',h5'⟩:=st
  obtain⟨o4,h4,d4⟩:=h4'.ob
  obtain⟨o5,h5,d5⟩:=h5'.ob
  simp only[jA_,q3_,or_false]at hc
  rcases hc with rfl|rfl|rfl|rfl|rfl
  ·exact⟨_,h1,fun v z=>by cases z⟩
  ·exact⟨_,h2,fun v z=>by cases z⟩
  ·exact⟨_,h3,fun v z=>by cases z⟩
  ·exact⟨o4,h4,fun v z=>by rw[d4]at z;cases z⟩
  ·exact⟨o5,h5,fun v z=>by rw[d5]at z;cases z⟩
 keep:=fun i h h' st k=>by
  obtain⟨h1,h2,⟨u,v,h3⟩,h4,h5⟩:=st
  exact⟨k z (by simp) _ h1,k TI (by simp) _ h2,⟨u,v,k TO (by simp) _ h3⟩,h4.at fun o q=>k i1 (by simp) o q,h5.at fun o q=>k i2 (by simp) o q⟩
 item:=by
  intro X hP hw hK hc i pins s σ H E I hf st hg
  subst hP hw hK
  obtain⟨hi,hj,hq,hq2⟩:=hg
  obtain⟨hz,hTI,⟨c,d,hTO⟩,h1,h2⟩:=st
  obtain⟨its,rv,p⟩:=I.seqB hq
  obtain⟨its2,rv2,p2⟩:=I.seqB hq2
  obtain⟨u,hu,ru⟩:=rv.get (i:=i) (x:=xs[i]) (by simp[hi])
  obtain⟨v,hv,rv'⟩:=rv2.get (i:=i) (x:=ys[i]) (by simp[hj])
  refine LJ D hz hTI hTO h1 h2 p p2 (x:=u) (y:=v) (by simpa using hu) (by simpa using hv) fun h' g1 g2 g3 g4 g5 gs gk=>?_
  have hTz:s.heap.objs.size≠z:=j1_ (jk_ hz)
  refine⟨_,rfl,wpAny_letOwnedTupleGo_zip g1 fun h2' e1 hs2=>?_⟩
  have hk2:∀b o,b ∉ [z,TI,TO,i1,i2]->s.heap.get? b=some o->h2'.get? b=some o:=fun b o hb q=>by
   simp only[jA_,q3_,or_false,not_or]at hb
   exact (hs2.2 b hb.1).trans (gk b o hb.1 hb.2.2.1 hb.2.2.2.1 hb.2.2.2.2 q)
  obtain⟨un,hok⟩:=I.unL hk2 hf
  have hn:H s.heap.objs.size=none:=I.hok.fresh (jl_ _)
  have new:C3 X.prog X.w (upd H s.heap.objs.size (.tup [xs[i],ys[i]])) h2' s.heap.objs.size (.tup [xs[i],ys[i]]):=⟨by have:=Aq;simp;lia,[u,v],.cons ru (.cons rv' .nil),_,(hs2.2 _ hTz).trans g5,rfl,_,rfl⟩
  refine⟨.ref s.heap.objs.size,upd H s.heap.objs.size (.tup [xs[i],ys[i]]),I.call' (s':={s with heap:=h2' }) (ch:=[z,TI,TO,i1,i2]) rfl (un.track (jl_ _) hn) (hok.track hn new) I.bare (fun b hb=>?_),rfl,⟨_,_,_,hn,by simp[hi],by simp[hj],rfl,rfl⟩,?_,fun b hb=>?_⟩
  ·exact (hf b hb).ch
  ·refine⟨e1,(hs2.2 TI D.TIz).trans (gk TI _ D.TIz D.TITO D.TIi1 D.TIi2 hTI),⟨u,v,(hs2.2 TO D.TOz).trans g2⟩,g3.at fun o q=>(hs2.2 i1 D.i1z).trans q,g4.at fun o q=>(hs2.2 i2 D.i2z).trans q⟩
  ·have hb':=hf b hb
   have:∃o,s.heap.get? b=some o:=by
    simp only[jA_,q3_,or_false]at hb
    rcases hb with rfl|rfl|rfl|rfl|rfl
    ·exact⟨_,hz⟩
    ·exact⟨_,hTI⟩
    ·exact⟨_,hTO⟩
    ·obtain⟨o,ho,_⟩:=h1.ob;exact⟨o,ho⟩
    ·obtain⟨o,ho,_⟩:=h2.ob;exact⟨o,ho⟩
   obtain⟨o,ho⟩:=this
   rw[Ag (jF_ (jk_ ho))]
   exact hb'.1
 done:=by
  intro X hP hw hK hc i pins s σ H E I hf st hg
  subst hP hw hK
  obtain⟨hi,hq,hq2⟩:=hg
  obtain⟨hz,hTI,⟨c,d,hTO⟩,h1,h2⟩:=st
  obtain⟨its,rv,p⟩:=I.seqB hq
  obtain⟨its2,rv2,p2⟩:=I.seqB hq2
  have l1:=rv.length
  have l2:=rv2.length
  refine Mu (I.ok.hd hc) D hz hTI hTO h1 h2 p p2 (by simp;lia) fun h' gk=>⟨rfl,?_⟩
  obtain⟨un,hok⟩:=I.unL (h':=h') (fun b o hb q=>by
   simp only[jA_,q3_,or_false,not_or]at hb
   exact gk b o hb.1 hb.2.2.1 hb.2.2.2.1 hb.2.2.2.2 q) hf
  exact I.call' (s':={s with heap:=h' }) (ch:=[z,TI,TO,i1,i2]) rfl un hok I.bare fun b hb=>(hf b hb).ch
 self:=fun A i s Q E st h=>wpAny_pyIter_zip st.1 h
noncomputable def MN_ (K:α3)(ta:TA):TI:=fun σ H R=>ta σ H fun vs H1=>∃a b xs ys t1 t2,vs=[.ref a,.ref b]/\SqB K H1 t1 a xs/\SqB K H1 t2 b ys/\R (Itz2 K t1 t2 a b xs ys) H1
theorem Hv_ {K:α3}     : MN_ K ta σ H Z=ta σ H fun vs H1=>∃a b xs ys t1 t2,vs=[.ref a,.ref b]/\SqB K H1 t1 a xs/\SqB K H1 t2 b ys/\Z (Itz2 K t1 t2 a b xs ys) H1:=rfl
theorem Le_   {x1}     (hg:Gl X "zip")(hm:X.mg "zip"=none)(ha:PA X [e,f] ta)(hs:starEach [e,f] X.env=[(false,eval e X.env),(false,eval f X.env)]:=by rfl)(hs2:starEach [f] X.env=[(false,eval f X.env)]:=by rfl):PI X (.Tuple elts x1 tpos) (.Call (.Name "zip" p) [e,f] [] pos) (MN_ X.K ta):=by
 intro pins s σ H R I h
 refine Call_ (UZ I hg hm boot_zip (qD_ (thn (ha pos pins s σ H _ I h) fun us s1 ⟨vs,H1,I1,r1,q1⟩=>?_) (by rw[hs,hs2]) (by rw[hs2];rfl)))
 obtain⟨a,b,xs,ys,t1,t2,ev,hq,hq2,q⟩:=q1
 subst ev
 cases r1 with
 |cons r rr=>cases rr with
  |cons r' rr=>
   cases rr
   cases r
   cases r'
   obtain⟨its,rv,pl⟩:=I1.seqB hq
   obtain⟨its2,rv2,pl2⟩:=I1.seqB hq2
   refine Dl_ pl pl2 fun h' hz hTI hTO hi1 hi2 hsz hk=>?_
   refine wpAny_pyIter_zip (s:={s1 with heap:=h' }) hz ?_
   have I2:Inv X pins σ H1 {s1 with heap:=h' }:=I1.kept (t':=s1.toks) hk
   refine⟨_,_,_,_,H1,rfl,I2,Hu_ (zipApart_new pl.lt pl2.lt) xs ys,⟨hz,hTI,⟨_,_,hTO⟩,hi1,hi2⟩,fun c hc=>?_,q⟩
   have hle:s1.heap.objs.size<=c:=by
    simp only[jA_,q3_,or_false]at hc
    rcases hc with rfl|rfl|rfl|rfl|rfl
    ·exact x5_ _ 4
    ·exact x5_ _ 2
    ·exact x5_ _ 3
    ·exact jl_ _
    ·exact x5_ _ 1
   exact I1.fpOk hle (I1.hok.fresh hle)
theorem MO_ {K:α3}           (n:Nat)(hn1:n<=xs.length)(hn2:n<=ys.length)(hn3:xs.length=n\/ys.length=n)(Pv:Nat->List V->St->Hp->Prop)(h0:Pv 0 [] (cp.st σ) H)(hz:n<sizeLine)
  (hl:∀i zs σ H,i<=n->Pv i zs σ H->SqB K H t1 a xs/\SqB K H t2 b ys/\zs.length<=i)
  (hs:∀i u v zs σ H t,i<n->xs[i]?=some u->ys[i]?=some v->Pv i zs σ H->H t=none->g (.ref t) σ (upd H t (.tup [u,v])) fun σ2 H2=>tc σ2 H2 fun b H3=>if b=true then te σ2 H3 fun v H4=>Pv (i+1) (zs++[v]) σ2 H4 else Pv (i+1) zs σ2 H3)
  (hd:∀zs σ H,Pv n zs σ H->∀D,H D=none->Q (.ref D) (upd H D (.lst zs))):Fw_ (Itz2 K t1 t2 a b xs ys) cp g tc te σ H Q:=by
 refine⟨fun i m zs σ H=>m=n-i/\i<=n/\Pv i zs σ H,⟨n,by simp,qp_ _,h0⟩,?_⟩
 rintro i m zs σ H ⟨rfl,hi,p⟩
 obtain⟨q1,q2,ly⟩:=hl i zs σ H hi p
 refine⟨by lia,?_⟩
 by_cases hlt:i<n
 ·refine .inr ⟨⟨by lia,by lia,q1,q2⟩,Pv (i+1),fun zs' σ' H' p'=>⟨n-(i+1),by lia,rfl,hlt,p'⟩,fun x H' y=>?_⟩
  obtain⟨t,u,v,e1,e2,e3,rfl,rfl⟩:=y
  exact hs i u v zs σ H t hlt e2 e3 p e1
 ·have e:i=n:=by lia
  subst e
  exact .inl ⟨⟨by lia,q1,q2⟩,hd zs σ H p⟩
end L2
namespace Nest
noncomputable def sl (row:α2)(b i:Nat):α2:=(row.take i).drop b
noncomputable def outF (p e:Int)(s:α2×Int)(x:Int):α2×Int:=if x=e then (s.1,s.2-1) else (if s.2=0 then s.1++[x] else s.1,if p<=x then s.2+1 else s.2)
noncomputable def outS (p e:Int)(l:α2):α2×Int:=l.foldl (outF p e) ([],0)
noncomputable def outW (p e:Int)(l:α2):α2:=(outS p e l).1
noncomputable def wd (p e:Int)(row:α2)(i a:Nat):α2:=outW p e (sl row (a+1) i)
end Nest
namespace L2
open PySem PySem.Spec PyProof.Rows GW
theorem Lf_  {K:α3}      (hK:X.K=K)(hc:X.calm=true)(h:PGs X es t)
  (hn:(assignEach es X.env).length=n:=by rfl) (hst:(assignEach es X.env).findIdx? (·.1)=none:=by rfl):PG X (.Tuple es k pos) (gTup K n t):=by
 subst hK
 exact Eq_ hc h hn hst
end L2
namespace HT
open PySem PySem.Spec PyProof.Rows L2
section
variable {prog:Program} {w:World} {A:Around} {E:Value->Shared->Prop} {s:Shared}
theorem getItem_tuple_whole {t sl:Addr}   {lo hi:Option Int}  (ht:IsTup s.heap t items)(hs:s.heap.IsSliceOf sl vl vu .none)(pl:IsPart vl lo)(pu:IsPart vu hi)
  (hw:sIx items.size 0 lo=0/\sIx items.size items.size hi=items.size) (h:Q (.ref t) s):wpAny (model prog w) A (getItem (.ref t) (.ref sl)) Q E s:=by
 obtain⟨os,hos,hcs,hds⟩:=id hs
 have hTs:s.TypeIs (.ref sl) "slice" := ⟨os,hos,hcs⟩
 unfold getItem
 try with_reducible refine qC_ ?_
 first|refine ja_ (je_ ?_)|skip
 refine ja_ (wpAny_sequenceKey ht.typeIs (by decide) ?_)
 refine ja_ (jM_ (name:=Str.ofString "__getitem__") ht.typeIs qc_
  (jS_ qc_ ht.typeIs entry_tuple_getitem ?_ (args_tuple_getitem _ _)))
 show wpAny _ _ (Builtin.Tuple.tupleItemsOf (.ref t) >>= _) _ _ s
 refine ja_ (tupleItemsOf_ ht ?_)
 refine ja_ (wpAny_typeOf hTs ?_)
 rw[if_pos (by decide)]
 refine ja_ (Lm hs pl pu ?_)
 rw[hw.1,hw.2]
 show wpAny _ _ (if ((((0:Nat):Int)==0&&(1:Int)==1&&(items.size-0)==items.size)=true) then _ else _) _ _ s
 rw[if_pos (by simp)]
 refine ja_ ?_
 unfold Builtin.Tuple.tupleIsExact
 refine ja_ (wpAny_typeOf ht.typeIs (je_ ?_))
 rw[if_pos (by decide)]
 refine ja_ (wpAny_rule ?_)
 exact je_ ⟨_,rfl,je_ h⟩
end
end HT
namespace L2
open PySem PySem.Spec PyProof.Rows
theorem PR  {K:α3}(h:X.K=K):OpR X (binaryOp .Add) (Kk K):=by subst h;exact Od
end L2
namespace L2
open PySem PySem.W PySem.Spec PySem.Calls PyProof.Rows
noncomputable def Dz (K:α3)(H:Hp)(xs:List V)(ws:α1):Prop:=xs.length=ws.length/\∀(i:Nat) (w:α2),ws[i]?=some w->∃t,xs[i]?=some (.ref t)/\H t=some (.lst (w.map V.int))
theorem Dz.at {K:α3}{H:Hp}{xs:List V}{ws:α1}(h:Dz K H xs ws){i:Nat}{x:V}(hx:xs[i]?=some x):∃t w,ws[i]?=some w/\x=.ref t/\H t=some (.lst (w.map V.int)):=by
 have hi:i<ws.length:=by rw[<-h.1];exact (jc_.mp hx).1
 obtain⟨t,a,b⟩:=h.2 i ws[i] (by simp[hi])
 rw[hx]at a
 exact⟨t,ws[i],by simp[hi],jt_ a,b⟩
noncomputable def rInL (K:α3)(neg:Bool):R2:=fun x y H Q=>∃p t xs w ws,y=.ref p/\x=.ref t/\SqL K H p xs/\Dz K H xs ws/\SqL K H t (w.map V.int)/\Q (.bl (if neg then !decide (w∈ws) else decide (w∈ws))) H
theorem MP_ {K:α3}     : rInL K neg x y H Q=∃p t xs w ws,y=.ref p/\x=.ref t/\SqL K H p xs/\Dz K H xs ws/\SqL K H t (w.map V.int)/\Q (.bl (if neg then !decide (w∈ws) else decide (w∈ws))) H:=rfl
theorem EH_          (hu:X.A.units+8<cLine)(I:Inv X pins σ H s)(hp:SqL X.K H p xs)(hw:Dz X.K H xs ws)(ht:SqL X.K H t (w.map V.int)):
  ∃(its:Array Value) (e:Value->Bool),s.heap.IsList p its/\(∀y,y∈its->SeqAt.EqAt X.A.in1 s y (.ref t) (e y))/\its.any e=decide (w∈ws):=by
 obtain⟨its,r,pl,_⟩:=I.list hp
 have hl:=r.length
 let e:Value->Bool:=fun y => @decide (∃(i:Nat) (a:Addr),y=.ref a/\xs[i]?=some (.ref a)/\ws[i]?=some w) (Classical.propDecidable _)
 have ee:∀(i:Nat) (a:Addr) (v:α2),xs[i]?=some (.ref a)->ws[i]?=some v->e (.ref a)=decide (v=w):=fun i a v hx hv=>by
  obtain⟨a',a1,a2⟩:=hw.2 i v hv
  rw[hx]at a1
  cases a1
  rw[qh_]
  show @decide _ (Classical.propDecidable _)=true↔_
  rw[@decide_eq_true_iff _ (Classical.propDecidable _),qo_]
  constructor
  ·rintro⟨j,b,hb,hxj,hwj⟩
   cases hb
   obtain⟨b',b1,b2⟩:=hw.2 j w hwj
   rw[hxj]at b1
   cases b1
   rw[a2]at b2
   have:=jt_ b2
   injection this with this
   exact (xr_ (fun x y z=>V.int.inj z)).mp this
  ·rintro rfl
   exact⟨i,a,rfl,hx,hv⟩
 refine⟨its.toArray,e,pl.isList,fun y hy=>?_,?_⟩
 ·have hy':y∈its:=by simpa using hy
  obtain⟨i,hi,ei⟩:=j6_ hy'
  have hix:i<xs.length:=by lia
  obtain⟨u,hu',ru⟩:=r.get (i:=i) (x:=xs[i]) (by simp[hix])
  rw[jh_ hi,ei]at hu'
  cases hu'
  obtain⟨a,v,e1,e2,e3⟩:=hw.at (i:=i) (x:=xs[i]) (by simp[hix])
  rw[e2]at ru
  cases ru
  rw[ee i a v (by rw[jh_ hix,e2]) e1]
  exact (EqD.at (x:=V.ref a) (y:=V.ref t) I 2 X.A.in1 (by rw[in1_units];lia) rfl rfl (EqD.ints (xs:=v) (ys:=w) (.inl ⟨SqL.of e3,ht⟩) 1)).1
 ·rw[qh_,qo_]
  rw[show its.toArray.any e=its.any e by simp,List.any_eq_true]
  constructor
  ·rintro⟨y,hy,hey⟩
   obtain⟨j,b,_,_,hwj⟩:=(@decide_eq_true_iff _ (Classical.propDecidable _)).mp hey
   exact jf_ hwj
  ·intro hm
   obtain⟨i,hi,ei⟩:=j6_ hm
   obtain⟨a,a1,a2⟩:=hw.2 i w (by rw[jh_ hi,ei])
   obtain⟨u,hu',ru⟩:=r.get a1
   cases ru
   refine⟨.ref a,jf_ hu',?_⟩
   rw[ee i a w a1 (by rw[jh_ hi,ei])]
   simp
theorem Kp_  (hu:X.A.units+8<cLine):OpR X (compareOp .In) (rInL X.K false):=by
 intro pins s σ H x y v u Q I rx ry h
 obtain⟨p,t,xs,w,ws,rfl,rfl,hp,hw,ht,q⟩:=h
 cases ry
 cases rx
 obtain⟨its,e,h1,h2,h3⟩:=EH_ hu I hp hw ht
 refine SeqAt.in_listAt e h1 h2 ⟨.bl _,H,I,rfl,?_⟩
 rw[h3]
 exact q
theorem Hw_  (hu:X.A.units+8<cLine):OpR X (compareOp .NotIn) (rInL X.K true):=by
 intro pins s σ H x y v u Q I rx ry h
 obtain⟨p,t,xs,w,ws,rfl,rfl,hp,hw,ht,q⟩:=h
 cases ry
 cases rx
 obtain⟨its,e,h1,h2,h3⟩:=EH_ hu I hp hw ht
 refine SeqAt.notIn_listAt e h1 h2 ⟨.bl _,H,I,rfl,?_⟩
 rw[h3]
 exact q
noncomputable def EI_ (K:α3):V->List V->Hp->VK->Prop:=fun x vs H Q=>∃l xs t w ws,x=.ref l/\vs=[.ref t]/\H l=some (.lst xs)/\Dz K H xs ws/\SqL K H t (w.map V.int)/\w∈ws/\xs.length<1000000/\Q (.int (ws.idxOf w:Nat)) H
theorem Bd_ {K:α3}     : EI_ K x vs H Q=∃l xs t w ws,x=.ref l/\vs=[.ref t]/\H l=some (.lst xs)/\Dz K H xs ws/\SqL K H t (w.map V.int)/\w∈ws/\xs.length<1000000/\Q (.int (ws.idxOf w:Nat)) H:=rfl
theorem EJ_:∀{ws:α1} {m:Nat} {w:α2},ws[m]?=some w->ws.idxOf w<=m
 |[],m,w,h=>by simp at h
 |v::ws,m,w,h=>by
  rw[List.idxOf_cons]
  cases m with
  |zero=>
   have:v=w:=by simpa using h
   simp[this]
  |succ m=>
   have:=EJ_ (ws:=ws) (m:=m) (w:=w) (by simpa using h)
   cases e:(v==w) with
   |true=>exact qp_ _
   |false=>exact Nat.succ_le_succ this
theorem FB_  (hu:X.A.units+8<cLine):MtM X "list.index" (EI_ X.K):=by
 intro pins s σ H x vs v us Q I rx rv h
 obtain⟨l,xs,t,w,ws,rfl,rfl,hH,hw,ht,hmem,hlt,q⟩:=h
 cases rx
 obtain⟨u,rfl,ry⟩:=vals1 rv
 cases ry
 obtain⟨zz,its,n,r,hl,e⟩:=I.lstM hH
 let ev:Value->Bool:=fun y => @decide (∃(i:Nat) (a:Addr),y=.ref a/\xs[i]?=some (.ref a)/\ws[i]?=some w) (Classical.propDecidable _)
 have ee:∀(i:Nat) (a:Addr) (v:α2),xs[i]?=some (.ref a)->ws[i]?=some v->ev (.ref a)=decide (v=w):=fun i a v hx hv=>by
  obtain⟨a',a1,a2⟩:=hw.2 i v hv
  rw[hx]at a1
  cases a1
  rw[qh_]
  show @decide _ (Classical.propDecidable _)=true↔_
  rw[@decide_eq_true_iff _ (Classical.propDecidable _),qo_]
  constructor
  ·rintro⟨j,b,hb,hxj,hwj⟩
   cases hb
   obtain⟨b',b1,b2⟩:=hw.2 j w hwj
   rw[hxj]at b1
   cases b1
   rw[a2]at b2
   have:=jt_ b2
   injection this with this
   exact (xr_ (fun x y z=>V.int.inj z)).mp this
  ·rintro rfl
   exact⟨i,a,rfl,hx,hv⟩
 have hlen:xs.length=ws.length:=hw.1
 have hrl:xs.length=its.length:=r.length
 have get:∀(m:Nat) (hm:m<its.toArray.size),∃(a:Addr) (v:α2),its.toArray[m]=.ref a/\xs[m]?=some (.ref a)/\ws[m]?=some v/\H a=some (.lst (v.map V.int)):=fun m hm=>by
  have hm':m<xs.length:=by rw[jg_]at hm;lia
  obtain⟨a,v,e1,e2,e3⟩:=hw.at (i:=m) (x:=xs[m]) (by simp[hm'])
  have hx:xs[m]?=some (.ref a):=by rw[jh_ hm',e2]
  obtain⟨w',f1,f2⟩:=r.get hx
  have e4:its.toArray[m]=w':=by
   have:its[m]?=some its.toArray[m]:=by simp at hm;simp[hm]
   rw[f1]at this
   exact (jt_ this).symm
  cases f2
  exact⟨a,v,e4,hx,e1,e3⟩
 have hj:ws.idxOf w<ws.length:=List.idxOf_lt_length_of_mem hmem
 have hjs:ws.idxOf w<its.toArray.size:=by rw[jg_];lia
 refine call_meets F.slot_list_index ⟨_,e,rfl⟩ F.entry_list_index (F.args_list_index_2 _ _) (SeqAt.list_indexAt l its.toArray n none #[] (.ref t) ev (ws.idxOf w) hjs s!"" ?_ fun m hm hmj=>?_) ⟨e,fun y hy=>?_,?_⟩
 ·obtain⟨a,v,e1,e2,e3,e4⟩:=get _ hjs
  rw[e1,ee _ a v e2 e3]
  have:ws[ws.idxOf w]?=some w:=by rw[jh_ hj,zk_]
  rw[this]at e3
  cases e3
  simp
 ·obtain⟨a,v,e1,e2,e3,e4⟩:=get m hm
  rw[e1,ee _ a v e2 e3,decide_eq_false_iff_not]
  intro z
  have hm':m<ws.length:=by lia
  have:ws[m]=w:=by rw[jh_ hm']at e3;rw[jt_ e3];exact z
  have h2:=EJ_ (ws:=ws) (m:=m) (w:=w) (by rw[jh_ hm',this])
  lia
 ·obtain⟨m,hm,em⟩:=j6_ (show y∈its by simpa using hy)
  obtain⟨a,v,e1,e2,e3,e4⟩:=get m (by rw[jg_];exact hm)
  have:y=.ref a:=by rw[<-em,<-e1];simp
  rw[this,ee m a v e2 e3]
  exact (EqD.at (x:=V.ref a) (y:=V.ref t) I 2 _ (by rw[in1_units];lia) rfl rfl (EqD.ints (xs:=v) (ys:=w) (.inl ⟨SqL.of e4,ht⟩) 1)).1
 ·exact⟨.int (ws.idxOf w:Nat),H,I.tok _,⟨_,rfl⟩,q⟩
end L2
set_option maxHeartbeats 1000000
set_option maxHeartbeats 4000000
namespace L2
section
variable {α:Type} [DecidableEq α]
noncomputable def ins1 (acc:List α)(x:α):List α:=if x∈acc then acc else acc++[x]
noncomputable def Lg_ (acc row:List α):List α:=row.foldl ins1 acc
noncomputable def Hx_ (row:List α):List α:=Lg_ [] row
noncomputable def num (row:List α):α2:=row.map fun x=>((Hx_ row).idxOf x:Int)
noncomputable def ncl (row:List α):Nat:=(Hx_ row).length
end
noncomputable def rowB (n:Nat)(b:α2->Nat->Int)(w:α2):α2:=(List.range n).map (b w)
noncomputable abbrev StC:=α1×α2
noncomputable def Nw_ (n:Nat)(b:α2->Nat->Int)(w:α2)(st:StC)(x:Nat):StC:=if ncl st.2<ncl (st.2.zip (rowB n b ((x:Int)::w))) then (st.1++[(x:Int)::w],num (st.2.zip (rowB n b ((x:Int)::w)))) else st
noncomputable def MQ_ (n:Nat)(b:α2->Nat->Int)(w:α2)(L:Nat)(st:StC):StC:=(List.range L).foldl (Nw_ n b w) st
noncomputable def Kq_ (n:Nat)(b:α2->Nat->Int)(L:Nat):Nat->Nat->StC->StC
 |0,_,st=>st
 |f+1,k,st=>if k<st.1.length then Kq_ n b L f (k+1) (MQ_ n b (st.1.getD k []) L st) else st
section
variable {n L:Nat} {b:α2->Nat->Int} {w:α2} {st:StC}
noncomputable def wcOf (n L:Nat)(b:α2->Nat->Int):StC:=Kq_ n b L 41 0 ([[]],num (rowB n b []))
end
end L2
namespace L2
open GW GB
noncomputable def bW (marks:α2)(ways:α1)(w:α2)(r:Nat):Int:=marks.getD (Nu_ ways (r:Int) w).toNat 0
noncomputable def cf (c:α2)(r:Int):Int:=c.getD r.toNat 0
noncomputable def hm (c R:α2)(r:Int):Int:=(((Hx_ (R.map (cf c))).idxOf (cf c r):Nat):Int)
noncomputable def MR_ (c acc:α2)(r:Int):α2:=if cf c r∈acc.map (cf c) then acc else acc++[r]
noncomputable def FR (c R:α2):α2:=R.foldl (MR_ c) []
noncomputable def hrow (c R:α2)(ways:α1)(r:Int):α2:=(ways.getD r.toNat []).map (hm c R)
noncomputable def cOf (L:Nat)(marks:α2)(ways:α1):α2:=(wcOf marks.length L (bW marks ways)).2
noncomputable def rOf (ways:α1):α2:=(Hh_ ways).map (·.1)
noncomputable def sF (L:Nat)(marks:α2)(ways:α1):α2:=FR (cOf L marks ways) (rOf ways)
noncomputable def hO (L:Nat)(marks:α2)(ways:α1)(r:Int):Int:=hm (cOf L marks ways) (rOf ways) r
section
variable {L:Nat} {marks:α2} {ways:α1}
noncomputable def wi (ways:α1)(r:Int):α2:=(((Hh_ ways).find? fun e=>decide (e.1=r)).map (·.2)).getD []
end
end L2
set_option maxHeartbeats 1000000
set_option maxHeartbeats 4000000
namespace L2
open PySem PySem.Spec PyProof.Rows
theorem DA  : Oi X (.type "tuple") (fun xs H Q=>∃p ys,xs=[.ref p]/\((SqL X.K H p ys/\∀l,H l=none->Q (.ref l) (upd H l (.tup ys)))\/False)):=fun pins s σ H xs us Q I r h=>by
 obtain⟨p,ys,e,h|h⟩:=h
 ·exact X6 pins s σ H xs us Q I r ⟨p,ys,e,.inl h⟩
 ·exact h.elim
theorem len1 {α:Type}{us:List α}(h:us.length=1):∃a,us=[a]:=by match us,h with|[a],_=>exact⟨a,rfl⟩
theorem len2 {α:Type}{us:List α}(h:us.length=2):∃a b,us=[a,b]:=by match us,h with|[a,b],_=>exact⟨a,b,rfl⟩
theorem len3 {α:Type}{us:List α}(h:us.length=3):∃a b c,us=[a,b,c]:=by match us,h with|[a,b,c],_=>exact⟨a,b,c,rfl⟩
theorem len4 {α:Type}{us:List α}(h:us.length=4):∃a b c d,us=[a,b,c,d]:=by match us,h with|[a,b,c,d],_=>exact⟨a,b,c,d,rfl⟩
theorem len5 {α:Type}{us:List α}(h:us.length=5):∃a b c d e,us=[a,b,c,d,e]:=by match us,h with|[a,b,c,d,e],_=>exact⟨a,b,c,d,e,rfl⟩
theorem len6 {α:Type}{us:List α}(h:us.length=6):∃a b c d e f,us=[a,b,c,d,e,f]:=by match us,h with|[a,b,c,d,e,f],_=>exact⟨a,b,c,d,e,f,rfl⟩
end L2
set_option maxHeartbeats 1000000
set_option maxHeartbeats 4000000
namespace L2
open PySem PySem.W PySem.Spec PySem.Calls PyProof.Rows
structure CMeth (K:α3)(C:Addr)(m:Str)(f:Addr):Prop where
 sg:PySem.W.specialIn K (.ref C) "__getattribute__"=some (some (.builtin "type.__getattribute__"))
 rd:PySem.W.readsIn K C (.type "type")=true
 fc:PySem.W.findCls K (.ref C) (.type "type") m=some (.val (.ref f))
 kp:keepIn K (.ref f)=true
section
variable {X:Cx} {CX:CXT} {k:Nat} {f C:Addr} {fd:α6} {ps:List Str} {sp:Sp} {dvs:List V} {ds:List Value} {E:XK} {x m:Str} {np apos pos:Pos} {e:Expr} {es:List Expr} {t:TA}
theorem MS_  (hg:Gl X x)(hmx:X.mg x=some (.ref C))(hm:CMeth X.K C m f)(F:FnOk X.prog X.w X.K X.mg X.base CX k f fd ps sp)(hr:Room k X.A)(hb:Binds X.K fd ps ds)(hd:Vals dvs ds)(hx:Ml CX X E)(ha:PA X (e::es) t)
  (hdb:(x==("__debug__" : Str))=false:=by decide) (hst:starEach (e::es) X.env=(false,eval e X.env)::starEach es X.env:=by rfl) (hpl:(backTo pos (starEach es X.env)).any (·.1)=false:=by rfl)
  (ht:eval (.Call (.Attribute (.Name x np) m apos) (e::es) [] pos) X.env=(do
   let ov <- eval (.Name x np) X.env
   standAt apos.atName
   let (f,first) <- holding [ov] (getMethod ov m pl)
   callWith pos f first (backTo pos (starEach (e::es) X.env)) (backToKw pos (keywordEach [] X.env))):=by rfl):
  PE X (.Call (.Attribute (.Name x np) m apos) (e::es) [] pos) (KS_ sp dvs E t):=by
 intro pins s σ H Q I h
 refine x0_ (pl:=pl) (UY I hg hmx ?_ hdb) ht
 refine PySem.W.method_cls I.kIn hm.sg (PySem.W.cls_value I.kIn hm.rd hm.fc rfl ?_)
 refine xp_ (first:=[]) (h₀:=X.base) I.ok.mod.kin hm.kp (thn (ha pos pins _ σ H _ (I.tok _) h) fun us s2 ⟨vs,H2,I2,r,q2⟩=>⟨I2.kIn,?_⟩) hst hpl
 exact AN_ F hr hb hd hx I2 r q2
end
end L2
namespace L2
open PySem PySem.W PySem.Spec PySem.Calls PyProof.Rows
noncomputable def vD:Option (Option V)->(V->Prop)->Prop
 |some (some v),q=>q v
 |_,_=>False
theorem Hy_   : vD (some (some v)) q=q v:=rfl
theorem Nx_   (h:vD o q):∃v,o=some (some v)/\q v:=by
 match o,h with
 |some (some v),h=>exact⟨v,rfl,h⟩
noncomputable def MT_ (i:Nat):TE:=fun σ H Q=>vD σ[i]? fun v=>Q v H
theorem Kr_     : MT_ i σ H Q=vD σ[i]? fun v=>Q v H:=rfl
theorem pvD  (i:Nat)   (hN:X.N[i]?=some x:=by rfl)(hv:Vis X.env.scope x:=by first|exact Or.inl rfl|exact Or.inr (Or.inl rfl)|exact Or.inr (Or.inr rfl))(hd:(x==("__debug__" : Str))=false:=by decide)
  (hcd:(x==("__classdict__" : Str))=false:=by decide):PE X (.Name x pos) (MT_ i):=fun pins s σ H Q I h=>pv i hN hv hd hcd pins s σ H Q I (Nx_ h)
noncomputable def iD:V->V->(Int->Int->Prop)->Prop
 |.int i,.int j,q=>q i j
 |x,y,q=>∃i j,x=.int i/\y=.int j/\q i j
theorem Ks_   : iD (.int i) (.int j) q=q i j:=rfl
theorem Lh_   : iD x y q=∃i j,x=.int i/\y=.int j/\q i j:=by
 cases x<;>cases y<;>first|rfl|(simp[iD])
noncomputable def rID (C:Int->Int->Prop)(g:Int->Int->V):R2:=fun x y H Q=>iD x y fun i j=>C i j/\Q (g i j) H
noncomputable def rI0D (g:Int->Int->V):R2:=fun x y H Q=>iD x y fun i j=>Q (g i j) H
theorem r_ID      : rID C f x y H Q=iD x y fun i j=>C i j/\Q (f i j) H:=rfl
theorem MU_     : rI0D f x y H Q=iD x y fun i j=>Q (f i j) H:=rfl
theorem MV_   : rID C g=rI C g:=by
 funext x y H Q;exact Lh_
theorem Li_  : rI0D g=rI0 g:=by
 funext x y H Q;exact Lh_
theorem opD     (h:OpR X f (rI C g)):OpR X f (rID C g):=by rw[MV_];exact h
theorem opD0    (h:OpR X f (rI0 g)):OpR X f (rI0D g):=by rw[Li_];exact h
noncomputable def bD:V->(Bool->Prop)->Prop
 |.bl c,q=>q c
 |x,q=>∃c,x=.bl c/\q c
theorem MW_   : bD (.bl c) q=q c:=rfl
theorem MX_   : bD x q=∃c,x=.bl c/\q c:=by
 cases x<;>first|rfl|(simp[bD])
noncomputable def tBD (t:TE):TT:=fun σ H Q=>t σ H fun x H1=>bD x fun c=>Q c H1
theorem r_BD     : tBD te σ H R=te σ H fun x H1=>bD x fun c=>R c H1:=rfl
theorem Kt_  : tBD t=tB t:=by
 funext σ H Q
 show t σ H _=t σ H _
 congr 1
 funext x H1;exact MX_
theorem Lj_  : tBD t=Iv_ t:=Kt_
theorem ptB    (h:PT X e (tB t)):PT X e (tBD t):=by rw[Kt_];exact h
theorem ptT    (h:PT X e (Iv_ t)):PT X e (tBD t):=by rw[Lj_];exact h
noncomputable def eD:V->V->Prop->Prop
 |.int _,.int _,q=>q
 |.str _,.str _,q=>q
 |.non,.non,q=>q
 |.bl _,.bl _,q=>q
 |x,y,q=>scal x y=true/\q
theorem Ku_   : eD (.int i) (.int j) q=q:=rfl
theorem Kv_   : eD (.str i) (.str j) q=q:=rfl
theorem Kw_  : eD .non .non q=q:=rfl
theorem MY_   : eD (.bl i) (.bl j) q=q:=rfl
theorem Lk_   : eD x y q=(scal x y=true/\q):=by
 cases x<;>cases y<;>first|rfl|(simp[eD,scal])
noncomputable def rEqF:R2:=fun x y H Q=>eD x y (Q (.bl (decide (x=y))) H)
noncomputable def rNeF:R2:=fun x y H Q=>eD x y (Q (.bl (!decide (x=y))) H)
theorem MZ_    : rEqF x y H Q=eD x y (Q (.bl (decide (x=y))) H):=rfl
theorem Na_    : rNeF x y H Q=eD x y (Q (.bl (!decide (x=y))) H):=rfl
theorem Ll_:rEqF=rEq:=by funext x y H Q;exact Lk_
theorem Lm_:rNeF=rNe:=by funext x y H Q;exact Lk_
theorem opE   (h:OpR X f rEq):OpR X f rEqF:=by rw[Ll_];exact h
theorem opN   (h:OpR X f rNe):OpR X f rNeF:=by rw[Lm_];exact h
noncomputable def aD:V->(Addr->Prop)->Prop
 |.ref a,q=>q a
 |x,q=>∃a,x=.ref a/\q a
theorem Kx_   : aD (.ref a) q=q a:=rfl
theorem IU_   : aD x q=∃a,x=.ref a/\q a:=by
 cases x<;>first|rfl|(simp[aD])
noncomputable def nD:V->(Int->Prop)->Prop
 |.int a,q=>q a
 |x,q=>∃a,x=.int a/\q a
theorem Ky_   : nD (.int a) q=q a:=rfl
theorem Hz_   : nD x q=∃a,x=.int a/\q a:=by
 cases x<;>first|rfl|(simp[nD])
noncomputable def Ln_ (K:α3):R2:=fun x y H Q=>aD x fun p=>∃xs,nD y fun i=>SqT K H p xs/\∃v,atI xs i=some v/\Q v H
noncomputable def Lo_ (K:α3):R2:=fun x y H Q=>aD x fun p=>∃xs,nD y fun i=>SqL K H p xs/\∃v,atI xs i=some v/\Q v H
theorem Kz_ {K:α3}    : Ln_ K x y H Q=aD x fun p=>∃xs,nD y fun i=>SqT K H p xs/\∃v,atI xs i=some v/\Q v H:=rfl
theorem KA_ {K:α3}    : Lo_ K x y H Q=aD x fun p=>∃xs,nD y fun i=>SqL K H p xs/\∃v,atI xs i=some v/\Q v H:=rfl
theorem IV_ {K:α3}:Ln_ K=rIxT K:=by
 funext x y H Q
 show aD x _=∃p xs i v,_
 rw[IU_]
 refine propext ⟨fun ⟨p,e,h⟩=>?_,fun ⟨p,xs,i,v,e1,e2,e3,e4,e5⟩=>⟨p,e1,?_⟩⟩
 ·obtain⟨xs,h⟩:=h
  rw[Hz_]at h
  obtain⟨i,e2,e3,v,e4,e5⟩:=h
  exact⟨p,xs,i,v,e,e2,e3,e4,e5⟩
 ·refine⟨xs,?_⟩
  rw[Hz_]
  exact⟨i,e2,e3,v,e4,e5⟩
theorem IW_ {K:α3}:Lo_ K=rIxL K:=by
 funext x y H Q
 show aD x _=∃p xs i v,_
 rw[IU_]
 refine propext ⟨fun ⟨p,e,h⟩=>?_,fun ⟨p,xs,i,v,e1,e2,e3,e4,e5⟩=>⟨p,e1,?_⟩⟩
 ·obtain⟨xs,h⟩:=h
  rw[Hz_]at h
  obtain⟨i,e2,e3,v,e4,e5⟩:=h
  exact⟨p,xs,i,v,e,e2,e3,e4,e5⟩
 ·refine⟨xs,?_⟩
  rw[Hz_]
  exact⟨i,e2,e3,v,e4,e5⟩
theorem ixTD  {K:α3}(h:IxR X (rIxT K)):IxR X (Ln_ K):=by rw[IV_];exact h
theorem ixLD  {K:α3}(h:IxR X (rIxL K)):IxR X (Lo_ K):=by rw[IW_];exact h
noncomputable def lD1:List V->(V->Prop)->Prop
 |[x],q=>q x
 |xs,q=>∃x,xs=[x]/\q x
theorem HA_   : lD1 [x] q=q x:=rfl
theorem Nb_   : lD1 xs q=∃x,xs=[x]/\q x:=by
 match xs with
 |[]=>rfl
 |[x]=>simp[lD1]
 |x::y::r=>rfl
noncomputable def Lp_ (K:α3):List V->Hp->VK->Prop:=fun xs H Q=>lD1 xs fun x=>aD x fun p=>∃ys,(SqL K H p ys\/SqT K H p ys)/\Q (.int ys.length) H
theorem KB_ {K:α3}    : Lp_ K xs H Q=lD1 xs fun x=>aD x fun p=>∃ys,(SqL K H p ys\/SqT K H p ys)/\Q (.int ys.length) H:=rfl
theorem lenD  {K:α3}  (h:Oi X f (fun xs H Q=>∃p ys,xs=[.ref p]/\(SqL K H p ys\/SqT K H p ys)/\Q (.int ys.length) H)):Oi X f (Lp_ K):=by
 have e:Lp_ K=fun xs H Q=>∃p ys,xs=[.ref p]/\(SqL K H p ys\/SqT K H p ys)/\Q (.int ys.length) H:=by
  funext xs H Q
  show lD1 xs _=_
  rw[Nb_]
  refine propext ⟨fun ⟨x,e,h⟩=>?_,fun ⟨p,ys,e,h1,h2⟩=>⟨_,e,ys,h1,h2⟩⟩
  rw[IU_]at h
  obtain⟨p,rfl,ys,h1,h2⟩:=h
  exact⟨p,ys,e,h1,h2⟩
 rw[e];exact h
theorem AW       (hN:X.N.Nodup)(he:PE X e te)(hi:X.N[i]?=some x:=by rfl)(hx:Loc X.env.scope x:=by exact Or.inl rfl)(hs:swapsWith e (some (.Name x pos')) pos.line X.env=pure false:=by rfl)(hf:X.fn x=true\/X.env.scope.names.lookup x=some .local:=by first|exact .inl rfl|exact .inr rfl|assumption):PS X (.Assign [.Name x pos'] e pos) (tAsg te (CW_ i)):=Kh hN hi hx he hs hf
theorem Ar      (hr:IxR X r)(ha:PE X a ta)(hb:PE X b tb)(hs:GK_ b:=by exact fun _ _=>rfl):PE X (.Subscript a b pos) (tOp r ta tb):=Np_ hr ha hb hs
end L2
namespace PySem
open Sem (wp)
structure VKind (prog:Program)(w:World)(K:Type)[DecidableEq K] where
 is:Heap->K->Value->Prop
 hash:K->Int
 draws:K->Nat
 room:Around->Prop
 inj:∀{h:Heap} {a:Value} {x y:K},is h x a->is h y a->x=y
 keeps:∀{h h':Heap} {k:K} {a:Value} {d:Addr} {o:Obj} {es ep},is h k a->h.get? d=some o->o.data=.dict es ep->Heap.SameBut d h h'->is h' k a
 pyHash:∀{A:Around} {E:Value->Shared->Prop} {s:Shared} {k:K} {a:Addr} {Q:Int->Shared->Prop},room A->is s.heap k (.ref a)->Q (hash k) {s with toks:=s.toks+draws k}->wpAny (model prog w) A (PySem.pyHash (.ref a)) Q E s
 eqBool:∀{A:Around} {E:Value->Shared->Prop} {s:Shared} {x y:K} {u:Value} {b:Addr} {Q:Bool->Shared->Prop},room A->is s.heap x u->is s.heap y (.ref b)->Q (decide (x=y)) s->wpAny (model prog w) A (PySem.eqBool u (.ref b)) Q E s
 quiet:∀{A:Around} {E:Value->Shared->Prop} {s:Shared} {k:K} {a:Value} {Q:Bool->Shared->Prop},room A->is s.heap k a->Q true s->wpAny (model prog w) A (eqIsQuiet 8 a) Q E s
noncomputable abbrev NI:=Int ⊕ α2
noncomputable abbrev NK:=Option (List NI)
end PySem
namespace S64
open PySem PyProof.Rows
noncomputable def KE (κ:KeyKind)(x:Keyed):κ.α:=(κ.keyOf x.1).getD κ.dflt
noncomputable def NI (κ:KeyKind)(xs:Array Keyed)(lo hi:Nat):Prop:=∀i j,lo<=i->i<=j->j<hi->κ.kle (KK κ xs j) (KK κ xs i)
noncomputable def Ym:Bool->Keyed->Array Keyed->Nat->Nat->Nat->StateT SortSt Sem (Option Nat):=sortPriv% PySem.Builtin.gallop
noncomputable def IE:Nat->StateT SortSt Sem Unit:=sortPriv% PySem.Builtin.setMinGallop
noncomputable def Dm_ (a b out:Array Keyed)(ia ib:Nat):Array Keyed:=out++a.extract ia a.size++b.extract ib b.size
noncomputable def Lq_ (a b out:Array Keyed)(ia ib:Nat):Array Keyed:=out++b.extract ib b.size++a.extract ia a.size
noncomputable abbrev G5:=Option (Array Keyed)×Array Keyed×Nat×Nat×Nat
noncomputable abbrev G6:=Option (Array Keyed)×Array Keyed×Nat×Nat×Nat×Nat
noncomputable abbrev G7:=Option (Array Keyed)×Array Keyed×Nat×Nat×Nat×Nat×Nat
noncomputable def PC (a b out:Array Keyed)(ia ib mg ac bc:Nat):StateT SortSt Sem (ForInStep G7):=do
 let y <- elem' a ia
 if (ia+1+1==a.size)=true then pure (.done (some (Lq_ a b (out.push y) (ia+1) ib),out.push y,ia+1,ib,mg,ac,bc))
 else if (decide (ac<7)&&decide (bc<7))=true then pure (.done (none,out.push y,ia+1,ib,mg,ac,bc)) else pure (.yield (none,out.push y,ia+1,ib,mg,ac,bc))
noncomputable def PB (a b out:Array Keyed)(ia ib mg ac bc:Nat):StateT SortSt Sem (ForInStep G7):=do
 let y <- elem' b ib
 if (ib+1==b.size)=true then pure (.done (some (Dm_ a b (out.push y) ia (ib+1)),out.push y,ia,ib+1,mg,ac,bc))
 else do
  let z <- elem' a ia
  let x <- Ym true z b (ib+1) (b.size-(ib+1)) 0
  match x with
  |some k=>if k > 0 then (if (ib+1+k==b.size)=true then pure (.done (some (Dm_ a b (out.push y++b.extract (ib+1) (ib+1+k)) ia (ib+1+k)),out.push y++b.extract (ib+1) (ib+1+k),ia,ib+1+k,mg,ac,k)) else PC a b (out.push y++b.extract (ib+1) (ib+1+k)) ia (ib+1+k) mg ac k) else PC a b (out.push y) ia (ib+1) mg ac k
  |_=>pure (.done (some (Dm_ a b (out.push y) ia (ib+1)),out.push y,ia,ib+1,mg,ac,bc))
noncomputable def PA (a b out:Array Keyed)(ia ib mg ac bc:Nat):StateT SortSt Sem (ForInStep G7):=do
 IE mg
 let y <- elem' b ib
 let x <- Ym false y a ia (a.size-ia) 0
 match x with
 |some k=>if k > 0 then (if (ia+k+1==a.size)=true then pure (.done (some (Lq_ a b (out++a.extract ia (ia+k)) (ia+k) ib),out++a.extract ia (ia+k),ia+k,ib,mg,k,bc)) else if (ia+k==a.size)=true then pure (.done (some (Dm_ a b (out++a.extract ia (ia+k)) (ia+k) ib),out++a.extract ia (ia+k),ia+k,ib,mg,k,bc)) else PB a b (out++a.extract ia (ia+k)) (ia+k) ib mg k bc) else PB a b out ia ib mg k bc
 |_=>pure (.done (some (Dm_ a b out ia ib),out,ia,ib,mg,ac,bc))
noncomputable def P1 (a b:Array Keyed)(mg:Nat)(c:G6):StateT SortSt Sem (ForInStep G6):=do
 let y <- elem' b c.2.2.2.1
 let z <- elem' a c.2.2.1
 let x <- lt' y z
 match x with
 |some bWins=>
  if bWins=true then
   elem' b c.2.2.2.1 >>= fun y=>
   if (c.2.2.2.1+1==b.size)=true then pure (.done (some (Dm_ a b (c.2.1.push y) c.2.2.1 (c.2.2.2.1+1)),c.2.1.push y,c.2.2.1,c.2.2.2.1+1,0,c.2.2.2.2.2+1))
   else if c.2.2.2.2.2+1 >= mg then pure (.done (none,c.2.1.push y,c.2.2.1,c.2.2.2.1+1,0,c.2.2.2.2.2+1)) else pure (.yield (none,c.2.1.push y,c.2.2.1,c.2.2.2.1+1,0,c.2.2.2.2.2+1))
  else
   elem' a c.2.2.1 >>= fun y=>
   if (c.2.2.1+1+1==a.size)=true then pure (.done (some (Lq_ a b (c.2.1.push y) (c.2.2.1+1) c.2.2.2.1),c.2.1.push y,c.2.2.1+1,c.2.2.2.1,c.2.2.2.2.1+1,0))
   else if c.2.2.2.2.1+1 >= mg then pure (.done (none,c.2.1.push y,c.2.2.1+1,c.2.2.2.1,c.2.2.2.2.1+1,0)) else pure (.yield (none,c.2.1.push y,c.2.2.1+1,c.2.2.2.1,c.2.2.2.2.1+1,0))
 |_=>pure (.done (some (Dm_ a b c.2.1 c.2.2.1 c.2.2.2.1),c.2.1,c.2.2.1,c.2.2.2.1,c.2.2.2.2.1,c.2.2.2.2.2))
noncomputable def P2 (a b:Array Keyed)(c:G7):StateT SortSt Sem (ForInStep G7):=if c.2.2.2.2.1 > 1 then PA a b c.2.1 c.2.2.1 c.2.2.2.1 (c.2.2.2.2.1-1) c.2.2.2.2.2.1 c.2.2.2.2.2.2 else PA a b c.2.1 c.2.2.1 c.2.2.2.1 c.2.2.2.2.1 c.2.2.2.2.2.1 c.2.2.2.2.2.2
noncomputable def PO (a b:Array Keyed)(c:G5):StateT SortSt Sem (ForInStep G5):=do
 let d <- forIn [0:a.size+b.size] ((none,c.2.1,c.2.2.1,c.2.2.2.1,0,0):G6) fun _ d=>P1 a b c.2.2.2.2 d
 match d.1 with
 |some r=>pure (.done (some r,d.2.1,d.2.2.1,d.2.2.2.1,c.2.2.2.2))
 |none=>do
  liftM (rule "list.sort.gallop")
  let e <- forIn [0:a.size+b.size] ((none,d.2.1,d.2.2.1,d.2.2.2.1,c.2.2.2.2+1,d.2.2.2.2.1,d.2.2.2.2.2):G7) fun _ e=>P2 a b e
  match e.1 with
  |some r=>pure (.done (some r,e.2.1,e.2.2.1,e.2.2.2.1,e.2.2.2.2.1))
  |none=>do
   IE (e.2.2.2.2.1+1)
   pure (.yield (none,e.2.1,e.2.2.1,e.2.2.2.1,e.2.2.2.2.1+1))
noncomputable def Dn_ (a b out:Array Keyed)(na nb:Nat):Array Keyed:=a.extract 0 na++b.extract 0 nb++out.reverse
noncomputable def HB_ (a b out:Array Keyed)(na nb:Nat):Array Keyed:=b.extract 0 nb++a.extract 0 na++out.reverse
noncomputable abbrev H5:=Option (Array Keyed)×Nat×Nat×Array Keyed×Nat
noncomputable abbrev H6:=Option (Array Keyed)×Nat×Nat×Array Keyed×Nat×Nat
noncomputable abbrev H7:=Option (Array Keyed)×Nat×Nat×Array Keyed×Nat×Nat×Nat
noncomputable def HC (a b out:Array Keyed)(na nb mg ac bc:Nat):StateT SortSt Sem (ForInStep H7):=do
 let y <- elem' a (na-1)
 if (na-1==0)=true then pure (.done (some (Dn_ a b (out.push y) (na-1) nb),na-1,nb,out.push y,mg,ac,bc))
 else if (decide (ac<7)&&decide (bc<7))=true then pure (.done (none,na-1,nb,out.push y,mg,ac,bc)) else pure (.yield (none,na-1,nb,out.push y,mg,ac,bc))
noncomputable def HB (a b out:Array Keyed)(na nb mg ac bc:Nat):StateT SortSt Sem (ForInStep H7):=do
 let y <- elem' b (nb-1)
 if (nb-1==1)=true then pure (.done (some (HB_ a b (out.push y) na (nb-1)),na,nb-1,out.push y,mg,ac,bc))
 else do
  let z <- elem' a (na-1)
  let x <- Ym true z b 0 (nb-1) (nb-1-1)
  match x with
  |some t=>if nb-1-t > 0 then (if (t==1)=true then pure (.done (some (HB_ a b (out.push y++(b.extract t (nb-1)).reverse) na t),na,t,out.push y++(b.extract t (nb-1)).reverse,mg,ac,nb-1-t)) else if (t==0)=true then pure (.done (some (Dn_ a b (out.push y++(b.extract t (nb-1)).reverse) na t),na,t,out.push y++(b.extract t (nb-1)).reverse,mg,ac,nb-1-t)) else HC a b (out.push y++(b.extract t (nb-1)).reverse) na t mg ac (nb-1-t)) else HC a b (out.push y) na (nb-1) mg ac (nb-1-t)
  |_=>pure (.done (some (Dn_ a b (out.push y) na (nb-1)),na,nb-1,out.push y,mg,ac,bc))
noncomputable def HA (a b out:Array Keyed)(na nb mg ac bc:Nat):StateT SortSt Sem (ForInStep H7):=do
 IE mg
 let y <- elem' b (nb-1)
 let x <- Ym false y a 0 na (na-1)
 match x with
 |some t=>if na-t > 0 then (if (t==0)=true then pure (.done (some (Dn_ a b (out++(a.extract t na).reverse) t nb),t,nb,out++(a.extract t na).reverse,mg,na-t,bc)) else HB a b (out++(a.extract t na).reverse) t nb mg (na-t) bc) else HB a b out na nb mg (na-t) bc
 |_=>pure (.done (some (Dn_ a b out na nb),na,nb,out,mg,ac,bc))
noncomputable def H1 (a b:Array Keyed)(mg:Nat)(c:H6):StateT SortSt Sem (ForInStep H6):=do
 let y <- elem' b (c.2.2.1-1)
 let z <- elem' a (c.2.1-1)
 let x <- lt' y z
 match x with
 |some aWins=>
  if aWins=true then
   elem' a (c.2.1-1) >>= fun y=>
   if (c.2.1-1==0)=true then pure (.done (some (Dn_ a b (c.2.2.2.1.push y) (c.2.1-1) c.2.2.1),c.2.1-1,c.2.2.1,c.2.2.2.1.push y,c.2.2.2.2.1+1,0))
   else if c.2.2.2.2.1+1 >= mg then pure (.done (none,c.2.1-1,c.2.2.1,c.2.2.2.1.push y,c.2.2.2.2.1+1,0)) else pure (.yield (none,c.2.1-1,c.2.2.1,c.2.2.2.1.push y,c.2.2.2.2.1+1,0))
  else
   elem' b (c.2.2.1-1) >>= fun y=>
   if (c.2.2.1-1==1)=true then pure (.done (some (HB_ a b (c.2.2.2.1.push y) c.2.1 (c.2.2.1-1)),c.2.1,c.2.2.1-1,c.2.2.2.1.push y,0,c.2.2.2.2.2+1))
   else if c.2.2.2.2.2+1 >= mg then pure (.done (none,c.2.1,c.2.2.1-1,c.2.2.2.1.push y,0,c.2.2.2.2.2+1)) else pure (.yield (none,c.2.1,c.2.2.1-1,c.2.2.2.1.push y,0,c.2.2.2.2.2+1))
 |_=>pure (.done (some (Dn_ a b c.2.2.2.1 c.2.1 c.2.2.1),c.2.1,c.2.2.1,c.2.2.2.1,c.2.2.2.2.1,c.2.2.2.2.2))
noncomputable def H2 (a b:Array Keyed)(c:H7):StateT SortSt Sem (ForInStep H7):=if c.2.2.2.2.1 > 1 then HA a b c.2.2.2.1 c.2.1 c.2.2.1 (c.2.2.2.2.1-1) c.2.2.2.2.2.1 c.2.2.2.2.2.2 else HA a b c.2.2.2.1 c.2.1 c.2.2.1 c.2.2.2.2.1 c.2.2.2.2.2.1 c.2.2.2.2.2.2
noncomputable def HO (a b:Array Keyed)(c:H5):StateT SortSt Sem (ForInStep H5):=do
 let d <- forIn [0:a.size+b.size] ((none,c.2.1,c.2.2.1,c.2.2.2.1,0,0):H6) fun _ d=>H1 a b c.2.2.2.2 d
 match d.1 with
 |some r=>pure (.done (some r,d.2.1,d.2.2.1,d.2.2.2.1,c.2.2.2.2))
 |none=>do
  liftM (rule "list.sort.gallop")
  let e <- forIn [0:a.size+b.size] ((none,d.2.1,d.2.2.1,d.2.2.2.1,c.2.2.2.2+1,d.2.2.2.2.1,d.2.2.2.2.2):H7) fun _ e=>H2 a b e
  match e.1 with
  |some r=>pure (.done (some r,e.2.1,e.2.2.1,e.2.2.2.1,e.2.2.2.2.1))
  |none=>do
   IE (e.2.2.2.2.1+1)
   pure (.yield (none,e.2.1,e.2.2.1,e.2.2.2.1,e.2.2.2.2.1+1))
noncomputable def wr (a:Array Keyed)(base:Nat)(r:List Keyed)(n:Nat):Array Keyed:=(r.zipIdx n).foldl (fun a (p,j)=>a.setIfInBounds (base+j) p) a
end S64
namespace S64
open PySem PyProof.Rows L2
noncomputable abbrev Wd:=Addr×α2
noncomputable def wv (ws:List Wd):List V:=ws.map fun w=>V.ref w.1
noncomputable def wu (ws:List Wd):List Value:=ws.map fun w=>Value.ref w.1
noncomputable def kw (w:Wd):Int×α2:=((w.2.length:Int),w.2)
section
variable {X:Cx} {pins:α7} {σ:L2.St} {H H0:Hp} {s:Shared} {A:Around} {E:Value->Shared->Prop} {ws:List Wd} {ts:List Addr} {a kT:Addr} {e1:Nat} {P:PySem.Fin->Shared->Prop} {f:Value}
noncomputable def Turn (X:Cx)(pins:α7)(σ:L2.St)(A:Around)(f:Value)(ws:List Wd)(H0:Hp):Prop:=∀w∈ws,∀(H':Hp) (s':Shared),Inv X pins σ H' s'->Same H0 H' ->
 wpAny (model X.prog X.w) A (call f [.ref w.1]) (EP X pins σ (fun k H''=>∃t,k=.ref t/\Same H' H''/\SqT X.K H'' t [.int w.2.length,.ref w.1])) (fun _ _=>False) s'
end
end S64
namespace L2
open PySem PySem.Spec PyProof.Rows
noncomputable abbrev HA (K:α3)(x:Str)(f:Addr):Prop:=nsIn K mainGlobals x=some (some (.ref f))
structure HF (K:α3)(x:Str)(st:Stmt)(f:Addr)(fd:α6):Prop where
 a:nsIn K mainGlobals x=some (some (.ref f))
 F:Fun K x x st f fd
theorem Lr_       (ok:HOk P w H h)(e:Rd H a (.dT kvs)):
  ∃o es ep,h.get? a=some o/\o.ExactDict/\o.data=.dict es ep/\(a==sysModules)=false/\(es.toList.map fun e:DictEntry=>(e.key,e.val)).length=kvs.length/\h.DictV a (es.toList.map fun e:DictEntry=>(e.key,e.val)) ep /\
   ∀(i:Nat) (k:List Key) (v:V),kvs[i]?=some (k,v)->∃b u,(es.toList.map fun e:DictEntry=>(e.key,e.val))[i]?=some (.ref b,u)/\H b=some (.tup (k.map kV))/\RelV v u:=by
 obtain⟨o,es,ep,g1,g2,g3,g4,g5,g6,g7⟩:=Yh ok e
 refine⟨o,es,ep,g1,g2,g3,g5,by rw[jb_,qg_,g4],⟨o,es,g1,g2,g3,True.intro,rfl,True.intro⟩,fun i k v hk=>?_⟩
 obtain⟨b,en,e1,e2,e3,e4⟩:=g7 i k v hk
 exact⟨b,en.val,by rw[ji_,qn_,e1,Option.map_some,e2],e3,e4⟩
noncomputable def ItiT (o:Obj)(a:Addr)(kvs:List (List Key×V)):It:=⟨fun i H=>i<kvs.length/\H a=some (.frz o (.dT kvs)),fun i H x H'=>∃t b k v,H t=none/\kvs[i]?=some (k,v)/\H b=some (.tup (k.map kV))/\x=.ref t/\H'=upd H t (.tup [.ref b,v]),fun i H=>kvs.length<=i/\H a=some (.frz o (.dT kvs))⟩
theorem Do_ {P:Program}{w:World}{K:α3}{elts:List Expr}{x1}{tpos:Pos}{o:Obj}{a it:Addr}{kvs:List (List Key×V)}{es:Array DictEntry}{ep:Nat}(hai:a≠it)(hd:o.data=.dict es ep):
  Turn P w K (.Tuple elts x1 tpos) (ItiT o a kvs) [it] it (fun i h=>∃ok ov,IsItemIter h it a i kvs.length ep ok ov) where
 mem:=by simp
 obj:=fun i h st b hb=>by
  have e:b=it:=by simpa using hb
  subst e
  obtain⟨ok,ov,e⟩:=st
  exact⟨_,e,fun v z=>by cases z⟩
 keep:=fun i h h' st k=>by
  obtain⟨ok,ov,e⟩:=st
  exact⟨ok,ov,k it (by simp) _ e⟩
 item:=by
  intro X hP hw hK hcm i pins s σ H E I hf st hg
  subst hP hw hK
  obtain⟨hi,hq⟩:=hg
  obtain⟨ok,ov,st⟩:=st
  obtain⟨o',es',ep',g1,g2,g3,g5,hl,hat,g7⟩:=Lr_ I.hok (.inr ⟨o,hq⟩)
  obtain⟨hko,_⟩:=(show C3 X.prog X.w H s.heap a (.frz o (.dT kvs)) from I.hok a _ hq)
  rw[hko]at g1
  cases g1
  rw[hd]at g3
  cases g3
  obtain⟨kv,hkv⟩:∃kv,kvs[i]?=some kv:=⟨kvs[i],by simp[hi]⟩
  obtain⟨k,v⟩:=kv
  obtain⟨b,u,hu,hb3,ru⟩:=g7 i k v hkv
  refine PySem.W.wpAny_pyNext_items_itemV (by rw[hl];exact st) hat hu fun key h' hk g1 g5 gsz gk=>?_
  subst hk
  rw[hl]at g1
  have hTz:s.heap.objs.size≠it:=j1_ (jk_ st)
  refine⟨_,rfl,wpAny_letOwnedTupleGo_items g1 fun h2' e1 hs2=>?_⟩
  have hk2:∀b o,b ∉ [it]->s.heap.get? b=some o->h2'.get? b=some o:=fun b o hb q=>by
   simp only[js_]at hb
   exact (hs2.2 b hb).trans (gk b o hb q)
  obtain⟨un,hok⟩:=I.unL hk2 hf
  have hn:H s.heap.objs.size=none:=I.hok.fresh (jl_ _)
  have new:C3 X.prog X.w (upd H s.heap.objs.size (.tup [.ref b,v])) h2' s.heap.objs.size (.tup [.ref b,v]):=⟨by have:=Aq;simp;lia,[.ref b,u],.cons rfl (.cons ru .nil),_,(hs2.2 _ hTz).trans g5,rfl,_,rfl⟩
  refine⟨.ref s.heap.objs.size,upd H s.heap.objs.size (.tup [.ref b,v]),I.call' (s':={s with heap:=h2' }) (ch:=[it]) rfl (un.track (jl_ _) hn) (hok.track hn new) I.bare (fun b hb=>(hf b hb).ch),rfl,⟨_,b,k,v,hn,hkv,hb3,rfl,rfl⟩,⟨_,_,e1⟩,fun b hb=>?_⟩
  have hb':=hf b hb
  have e:b=it:=by simpa using hb
  subst e
  rw[Ag (jF_ (jk_ st))]
  exact hb'.1
 done:=by
  intro X hP hw hK hcm i pins s σ H E I hf st hg
  subst hP hw hK
  obtain⟨hi,hq⟩:=hg
  obtain⟨ok,ov,st⟩:=st
  obtain⟨o',es',ep',g1,g2,g3,g5,hl,hat,g7⟩:=Lr_ I.hok (.inr ⟨o,hq⟩)
  obtain⟨hko,_⟩:=(show C3 X.prog X.w H s.heap a (.frz o (.dT kvs)) from I.hok a _ hq)
  rw[hko]at g1
  cases g1
  rw[hd]at g3
  cases g3
  refine PySem.W.wpAny_pyNext_items_endV (I.ok.hd hcm) (by rw[hl];exact st) hat (jV_ s!"") fun h' eb=>⟨rfl,?_⟩
  obtain⟨f0,f1,f2,f3,f4,f5⟩:=hf it (by simp)
  exact I.turned (t':=s.toks) (fun b o hb e=>eb b o hb e) f0 f1 f3 f4 f5
 self:=fun A i s Q E st h=>by
  obtain⟨ok,ov,st⟩:=st
  exact PySem.W.kcp_self st h
noncomputable def HC_ (td:TE):TI:=fun σ H R=>td σ H fun x H1=>∃a kvs,x=.ref a/\H1 a=some (.dT kvs)/\∀o,R (ItiT o a kvs) (upd H1 a (.frz o (.dT kvs)))
theorem Be_     : HC_ te σ H Z=te σ H fun x H1=>∃a kvs,x=.ref a/\H1 a=some (.dT kvs)/\∀o,Z (ItiT o a kvs) (upd H1 a (.frz o (.dT kvs))):=rfl
theorem HD_   {x1}     (ho:PE X o td)(hbase:attributeBase o "items" X.env (eval o X.env)=eval o X.env:=by rfl)(hline:(apos.endLine==cpos.line)=true:=by rfl):PI X (.Tuple elts x1 tpos) (.Call (.Attribute o "items" apos) [] [] cpos) (HC_ td):=by
 intro pins s σ H R I h
 refine xK_ hbase hline (thn (ho pins s σ H _ I h) fun v s1 ⟨x,H1,I1,r1,q1⟩=>?_)
 obtain⟨a,kvs,e,hq,q⟩:=q1
 subst e
 obtain rfl:v=Value.ref a:=r1
 obtain⟨od,es,ep,g1,g2,g3,g5,hlen,hat,g7⟩:=Lr_ I1.hok (.inl hq)
 have I2:=I1.freeze hq g1
 have hT:s1.TypeIs (.ref a) "dict" := ⟨od,g1,g2.1⟩
 refine⟨"dict","dict.items",xi_,xj_,PySem.F.type_dict_items,hT,fun b e=>?_,qN_ rfl (ze_ ?_)⟩
 ·cases e
  exact⟨od,g1,g2.2.1⟩
 refine jS_ xj_ hT PySem.F.entry_dict_items (?_:wpAny _ _ (Builtin.«dict.items» _) _ _ s1) (PySem.F.args_dict_items_1 _)
 unfold Builtin.«dict.items»
 refine ja_ ?_
 unfold Builtin.Dict.noArgs
 refine ja_ (x1_ hT ?_)
 show wpAny _ _ (pure a) _ _ s1
 refine je_ ?_
 show wpAny _ _ (Builtin.Dict.showsAll a >>= _) _ _ s1
 unfold Builtin.Dict.showsAll
 rw[if_neg (by rw[g5];exact jm_)]
 refine ja_ (je_ ?_)
 refine ja_ (jN_ (je_ ⟨_,rfl,?_⟩))
 have hk1:∀b u,s1.heap.get? b=some u->(s1.heap.push {cls:=.type "dict_items",data:=.fields #[.ref a]}).get? b=some u:=fun b u e=>jd_ _ e
 refine PySem.W.wpAny_pyIter_itemsV (s:={s1 with heap:=s1.heap.push {cls:=.type "dict_items",data:=.fields #[.ref a]} }) ⟨_,jo_ _ rfl,rfl,rfl⟩ (hat.at' fun o e=>hk1 a o e) ?_
 have hle:s1.heap.objs.size<=(s1.heap.push {cls:=.type "dict_items",data:=.fields #[.ref a]}).objs.size:=by rw[qu_];exact Nat.le_succ _
 refine⟨_,[(s1.heap.push {cls:=.type "dict_items",data:=.fields #[.ref a]}).objs.size],_,_,_,rfl,I2.kept (t':=s1.toks) fun b u e=>jd_ _ (hk1 b u e),Do_ (o:=od) (kvs:=kvs) (jF_ (jy_ (jk_ g1) hle)) g3,⟨.none,.none,?_⟩,fun b hb=>?_,q od⟩
 ·rw[<-hlen];exact jo_ _ rfl
 ·have e:b=(s1.heap.push {cls:=.type "dict_items",data:=.fields #[.ref a]}).objs.size:=by simpa using hb
  subst e
  exact I2.fpOk hle (I2.hok.fresh hle)
end L2
namespace N80
open Nest L2 GW
noncomputable def val (b:Nat)(v:α2):Nat:=v.foldl (fun a x=>a*b+x.toNat) 0
noncomputable def cod (b:Nat)(v:α2):Nat:=b ^ v.length+val b v
structure Turn {R:Type}(A:Int->α2->Prop)(p e:Int)(b:Nat)(fin:R->Prop)(best:R->Option (α2))(res:Option (α2)):Prop where
 s:∀t,res=some t->∃r,best r=some t/\fin r
 l:∀r t,best r=some t->fin r->∃t',res=some t'/\cod b t'<=cod b t
end N80
namespace HT
open PySem PyProof.Rows
inductive LtE (A:Around)(s:Shared)(f:Bool):List Value->List Value->Bool->Prop
 | endL {ws:List Value}:LtE A s f [] ws f
 | endR {vs:List Value}:LtE A s f vs [] f
 | eq {v w:Value} {vs ws:List Value} {b:Bool}:SeqAt.EqAt A s v w true->LtE A s f vs ws b->LtE A s f (v::vs) (w::ws) b
 | ne {v w:Value} {vs ws:List Value} {b:Bool}:SeqAt.EqAt A s v w false->(∀(prog:Program) (wd:World) (E:Value->Shared->Prop) (Q:Value->Shared->Prop),Q (.bool b) s->wpAny (model prog wd) A (richCompare .Lt v w) Q E s)->LtE A s f (v::vs) (w::ws) b
end HT
namespace L2
open PySem PySem.W PySem.Spec PySem.Calls PyProof.Rows
theorem Inv.thaw2         (I:Inv X pins σ H s)(e:H a=some (.frz o (.dT kvs)))(h0:X.H₀ a=some (.dT kv0)):Inv X pins σ (upd H a (.dT kvs)) s:=by
 have hO:=(show C3 X.prog X.w H s.heap a (.frz o (.dT kvs)) from I.hok a _ e)
 have ok2:HOk X.prog X.w (upd H a (.dT kvs)) s.heap:=fun b u hb=>by
  by_cases hba:b=a
  ·subst hba
   rw[Ab]at hb
   cases hb
   obtain⟨_,z,y,xs,r,q⟩:=hO
   refine⟨z,y,xs,Paired.mapP r fun p x hx=>⟨hx.1,?_,hx.2.2⟩,q⟩
   rw[Ag (fun z=>by have h1:=hx.2.1;rw[z,e]at h1;cases h1)]
   exact hx.2.1
  ·rw[Ag hba]at hb
   exact (I.hok b u hb).stay (fun c v _ q=>q) (fun c q=>by rw[Ag (fun z=>by rw[z,e]at q;cases q)];exact q) fun c xs q=>by rw[Ag (fun z=>by rw[z,e]at q;cases q)];exact q
 have ne:∀b,H b=none->upd H a (.dT kvs) b=none:=fun b hb=>by rw[Ag (fun z=>by rw[z,e]at hb;cases hb)];exact hb
 refine⟨I.ok,I.os,I.bare,⟨I.base.keep,I.base.slot,fun b o' q n hx=>ne b (I.base.free b o' q n hx),I.base.there,fun b xs q=>?_,fun b ob xs q=>?_,fun b ps q=>?_⟩,I.loc,I.cell,ne _ I.free,fun x c hc=>ne _ (I.freeC x c hc),fun p hp=>?_,ok2,I.len⟩
 ·have:=I.base.tups b xs q
  rw[Ag (fun z=>by rw[z,e]at this;cases this)];exact this
 ·have:=I.base.frzs b ob xs q
  rw[Ag (fun z=>by rw[z,h0]at q;cases q)];exact this
 ·obtain⟨more,q'⟩:=I.base.tbls b ps q
  exact⟨more,by rw[Ag (fun z=>by rw[z,h0]at q;cases q)];exact q'⟩
 ·obtain⟨q,n,r⟩:=I.pin p hp
  exact⟨q,ne _ n,r⟩
noncomputable def HE_ (H₀:Hp)(t:TS):TS:=fun D σ H=>t {D with nx:=fun σ1 H1=>D.nx σ1 H1 \/ ∃a o kvs kv0,H1 a=some (.frz o (.dT kvs))/\H₀ a=some (.dT kv0)/\D.nx σ1 (upd H1 a (.dT kvs))} σ H
theorem EK_      : HE_ H₀ t D σ H=t {D with nx:=fun σ1 H1=>D.nx σ1 H1 \/ ∃a o kvs kv0,H1 a=some (.frz o (.dT kvs))/\H₀ a=some (.dT kv0)/\D.nx σ1 (upd H1 a (.dT kvs))} σ H:=rfl
theorem IX_    (h:PS X x t):PS X x (HE_ X.H₀ t):=by
 intro pins s σ H D I hq
 refine qH_ (h pins s σ H _ I hq) (fun f s1 q=>?_) fun _ _ z=>z
 cases f with
 |next=>
  obtain⟨σ1,H1,I1,q1⟩:=q
  rcases q1 with q1|⟨a,o,kvs,kv0,e,h0,q1⟩
  ·exact⟨σ1,H1,I1,q1⟩
  ·exact⟨σ1,_,I1.thaw2 e h0,q1⟩
 |brk=>exact q
 |cont=>exact q
 |ret v=>exact q
theorem Ny_         (Pv:Nat->St->Hp->Prop)(h0:Pv 0 σ H)(hl:∀i σ H,i<=kvs.length->Pv i σ H->H a=some (.frz o (.dT kvs)))
  (hs:∀i k v t b σ H,kvs[i]?=some (k,v)->Pv i σ H->H t=none->H b=some (.tup (k.map kV))->g (.ref t) σ (upd H t (.tup [.ref b,v])) fun σ2 H2=>tb {D with nx:=Pv (i+1),ct:=Pv (i+1),bk:=D.nx} σ2 H2) (hd:∀σ H,Pv kvs.length σ H->D.nx σ H):ForW (ItiT o a kvs) g tb D σ H:=by
 refine⟨fun i m σ H=>m+i=kvs.length/\Pv i σ H,⟨kvs.length,by lia,h0⟩,fun i m σ H ⟨hm,hp⟩=>?_⟩
 have hq:=hl i σ H s!"" hp
 by_cases hi:i<kvs.length
 ·refine .inr ⟨⟨hi,hq⟩,Pv (i+1),fun σ' H' h=>⟨m-1,by lia,by lia,h⟩,fun x H' hy=>?_⟩
  obtain⟨t,b,k,v,ht,hk,hb,rfl,rfl⟩:=hy
  exact hs i k v t b σ _ hk hp ht hb
 ·have e:i=kvs.length:=by lia
  subst e
  exact .inl ⟨⟨jl_ _,hq⟩,hd σ H hp⟩
end L2
namespace Mine
open PySem L2 GW GB
local macro_rules | `(tactic| walk_at "rd") => `(tactic| (try dsimp only[↓Kr_,Hy_,↓r_ID,↓MU_,Ks_,↓r_BD,MW_,↓MZ_,↓Na_,Ku_,Kv_,Kw_,MY_,↓Kz_,↓KA_,Kx_,Ky_,↓KB_,HA_,↓Mn_,↓JN_,↓Mo_,↓GU_,↓Mp_,↓r_c,↓r_op,↓r_un,↓r_I,↓r_I0,↓r_U,↓JO_,↓JP_,↓Mq_,↓Mr_,↓JQ_,↓r_if,↓r_B,↓JR_,↓Ms_,↓r_or,↓Mt_,↓JS_,↓Mu_,↓JT_,↓GV_,↓r_CB,↓Mv_,↓Mw_,↓Mx_,↓My_,↓r_sl,↓JU_,↓EA_,↓Mz_,↓MG_,↓r_BM,↓MA_,↓EB_,↓JV_,↓JW_,↓r_Eq,↓r_Ne,↓MB_,↓GW_,↓JX_,↓GX_,↓JY_,↓JZ_,↓MD_,↓Hd_,↓MI_,↓He_,↓MK_,↓Kc_,↓Hf_,↓Kd_,↓Ke_,↓MJ_,↓Kf_,↓Hg_,↓Hi_,↓ED_,↓Be_,↓EE_,↓Hj_,↓ML_,MP_,Bd_,↓MM_,↓Kl_,↓Km_,↓Kn_,↓Hp_,↓Ho_,↓EK_,↓Hs_,↓Hv_,↓Hr_,MC_,L2.start,jQ_,zi_,jL_,xd_,List.cons_append,List.nil_append,List.replicate,xL_,List.getElem?_cons_succ,List.set_cons_zero,List.set_cons_succ,scal])<;>(try simp only[↓Kr_,Hy_,↓r_ID,↓MU_,Ks_,↓r_BD,MW_,↓MZ_,↓Na_,Ku_,Kv_,Kw_,MY_,↓Kz_,↓KA_,Kx_,Ky_,↓KB_,HA_,Lh_,MX_,Lk_,IU_,Hz_,↓Mn_,↓JN_,↓Mo_,↓GU_,↓Mp_,↓r_c,↓r_op,↓r_un,↓r_I,↓r_I0,↓r_U,↓JO_,↓JP_,↓Mq_,↓Mr_,↓JQ_,↓r_if,↓r_B,↓JR_,↓Ms_,↓r_or,↓Mt_,↓JS_,↓Mu_,↓JT_,↓GV_,↓r_CB,↓Mv_,↓Mw_,↓Mx_,↓My_,↓r_sl,↓JU_,↓EA_,↓Mz_,↓MG_,↓r_BM,↓MA_,↓EB_,↓JV_,↓JW_,↓r_Eq,↓r_Ne,↓MB_,↓GW_,↓JX_,↓GX_,↓JY_,↓JZ_,↓MD_,↓Hd_,↓MI_,↓He_,↓MK_,↓Kc_,↓Hf_,↓Kd_,↓Ke_,↓MJ_,↓Kf_,↓Hg_,↓Hi_,↓ED_,↓Be_,↓EE_,↓Hj_,↓ML_,MP_,Bd_,↓MM_,↓Kl_,↓Km_,↓Kn_,↓Hp_,↓Ho_,↓EK_,↓Hs_,↓Hv_,↓Hr_,MC_,L2.start,jQ_,zi_,jL_,xd_,List.cons_append,List.nil_append,List.append_nil,List.replicate,xL_,List.getElem?_cons_succ,List.set_cons_zero,List.set_cons_succ,zm_,V.int.injEq,V.str.injEq,V.ref.injEq,V.bl.injEq,List.cons.injEq,and_true,true_and,and_assoc,exists_and_left,exists_eq_left',exists_eq_left,exists_eq_right,exists_eq,q7_,qM_,j5_,qo_,scal,Nat.reduceAdd,Nat.reduceSub,reduceCtorEq,Bool.not_true,Bool.not_false]))
local macro_rules | `(tactic| walk_at "sc") => `(tactic| exact⟨rfl,rfl,rfl,by decide +kernel,rfl,by decide +kernel,by decide +kernel⟩)
noncomputable def top (i:Nat):Stmt:=PySem.Challenge.pw_guessroom_k59_whole_any_say_teacher.main.body.getD i (.Pass ⟨0,0,0,0⟩)
noncomputable abbrev Gg:Stmt:=Bu (top 18) 0
theorem Bf_:FnScope ["self","letters"] ["self","letters"] (Ad Gg):=by walk_at "sc"
noncomputable abbrev IX:Stmt:=top 8
theorem FC_:FnScope ["letters","word"] ["letters","word"] (Ad IX):=by walk_at "sc"
noncomputable abbrev Em:Stmt:=top 9
theorem Yn:FnScope ["letters","word"] ["letters","word"] (Ad Em):=by walk_at "sc"
noncomputable abbrev Mv:Stmt:=top 13
theorem UQ:FnScope ["house","word","ways","rooms","letter"] ["house","word"] (Ad Mv):=by walk_at "sc"
noncomputable abbrev EE:Stmt:=Bu (top 18) 3
theorem Bg_:FnScope ["self","word"] ["self","word"] (Ad EE):=by walk_at "sc"
noncomputable abbrev K0:Stmt:=top 33
theorem GQ:FnScope ["book","access","guess","word","mark","last","rooms","low","high","middle","asked","told"] ["book","access","guess","word","mark","last"] (Ad K0):=by walk_at "sc"
noncomputable abbrev DV:Stmt:=Bu (top 21) 8
theorem IY:FnScope ["self","words","left","word"] ["self","words"] (Ad DV):=by walk_at "sc"
noncomputable abbrev HS:Stmt:=top 23
theorem Kl:FnScope ["letters","access","rows","word","letter"] ["letters","access"] (Ad HS):=by walk_at "sc"
noncomputable abbrev OL:Stmt:=top 24
theorem UR:FnScope ["letters","access","ends","words","row","end"] ["letters","access","ends"] (Ad OL):=by walk_at "sc"
noncomputable abbrev A4:Stmt:=Bu (top 34) 3
theorem LK:FnScope ["self"] ["self"] (Ad A4):=by walk_at "sc"
noncomputable abbrev BX:Stmt:=top 36
theorem PU:FnScope ["word"] ["word"] (Ad BX):=by walk_at "sc"
noncomputable abbrev Vb:Stmt:=top 37
theorem Ls_:FnScope ["house","word"] ["house","word"] (Ad Vb):=by walk_at "sc"
noncomputable abbrev EF:Stmt:=top 38
theorem Bh_:FnScope ["house","word"] ["house","word"] (Ad EF):=by walk_at "sc"
noncomputable abbrev B8:Stmt:=Bu (top 40) 1
theorem Rf:FnScope ["self","house","word"] ["self","house","word"] (Ad B8):=by walk_at "sc"
noncomputable abbrev EG:Stmt:=Bu (top 34) 4
theorem HM:FnScope ["self","mark","last","found"] ["self"] (Ad EG):=by walk_at "sc"
noncomputable abbrev Ho:Stmt:=top 25
theorem Dp_:FnScope ["book","word","ends"] ["book","word","ends"] (Ad Ho):=by walk_at "sc"
noncomputable abbrev CU:Stmt:=top 26
theorem IZ:FnScope ["book","letters","access","ends","marks","row"] ["book","letters","access","ends"] (Ad CU):=by walk_at "sc"
noncomputable abbrev De:Stmt:=top 28
theorem Dn:FnScope ["letters","access","marks","rooms","room","word","ways"] ["letters","access","marks"] (Ad De):=by walk_at "sc"
noncomputable abbrev BG:Stmt:=Bu (top 40) 2
theorem E9:FnScope ["self","marks","says"] ["self"] (Ad BG):=by walk_at "sc"
noncomputable abbrev Eo:Stmt:=Bu (top 18) 4
theorem Yo:FnScope ["self"] ["self"] (Ad Eo):=by walk_at "sc"
noncomputable abbrev DW:Stmt:=top 30
theorem I0:FnScope ["heard","answer","house","word","told"] ["heard","answer","house"] (Ad DW):=by walk_at "sc"
noncomputable abbrev BH:Stmt:=Bu (top 40) 3
theorem Mw:FnScope ["self"] ["self"] (Ad BH):=by walk_at "sc"
noncomputable abbrev BI:Stmt:=Bu (top 21) 9
theorem Mx:FnScope ["self"] ["self"] (Ad BI):=by walk_at "sc"
noncomputable abbrev Hq:Stmt:=top 27
theorem K1:FnScope ["book","letters","access","ends","marks","known","row"] ["book","letters","access","ends"] (Ad Hq):=by walk_at "sc"
noncomputable abbrev By:Stmt:=Bu (top 34) 5
theorem Hc:FnScope ["self","row"] ["self"] (Ad By):=by walk_at "sc"
noncomputable abbrev CH:Stmt:=Bu (top 21) 7
theorem Rg:FnScope ["self"] ["self"] (Ad CH):=by walk_at "sc"
noncomputable abbrev CM:Stmt:=Bu (top 20) 3
theorem WV:FnScope ["self"] ["self"] (Ad CM):=by walk_at "sc"
noncomputable abbrev Fb:Stmt:=Bu (top 20) 0
theorem Yp:FnScope ["self"] ["self"] (Ad Fb):=by walk_at "sc"
noncomputable abbrev Gh:Stmt:=Bu (top 21) 0
theorem Bi_:FnScope ["self","letters","most","book","ways","ends"] ["self","letters","most","book","ways","ends"] (Ad Gh):=by walk_at "sc"
noncomputable abbrev BJ:Stmt:=Bu (top 40) 0
theorem My:FnScope ["self","letters"] ["self","letters"] (Ad BJ):=by walk_at "sc"
noncomputable abbrev Fc:Stmt:=Bu (top 34) 0
theorem Yq:FnScope ["self","letters","most"] ["self","letters","most"] (Ad Fc):=by walk_at "sc"
noncomputable abbrev Df:Stmt:=Bu (top 41) 0
theorem Tz:FnScope ["self","letters","most"] ["self","letters","most"] (Ad Df):=by walk_at "sc"
noncomputable abbrev EH:Stmt:=Bu (top 21) 4
theorem WW:FnScope ["self"] ["self"] (Ad EH):=by walk_at "sc"
noncomputable abbrev Bh:Stmt:=Bu (top 41) 5
theorem PV:FnScope ["self"] ["self"] (Ad Bh):=by walk_at "sc"
noncomputable abbrev DX:Stmt:=Bu (top 21) 5
theorem Vc:FnScope ["self"] ["self"] (Ad DX):=by walk_at "sc"
noncomputable abbrev A5:Stmt:=Bu (top 41) 6
theorem OM:FnScope ["self"] ["self"] (Ad A5):=by walk_at "sc"
noncomputable abbrev Fd:Stmt:=Bu (top 21) 6
theorem Yr:FnScope ["self"] ["self"] (Ad Fd):=by walk_at "sc"
noncomputable abbrev BA:Stmt:=Bu (top 41) 7
theorem Rh:FnScope ["self"] ["self"] (Ad BA):=by walk_at "sc"
noncomputable abbrev DY:Stmt:=top 43
theorem Bj_:FnScope ["script","k"] ["script","k"] (Ad DY):=by walk_at "sc"
noncomputable abbrev EI:Stmt:=Bu (top 20) 1
theorem WX:FnScope ["self"] ["self"] (Ad EI):=by walk_at "sc"
noncomputable abbrev BB:Stmt:=Bu (top 41) 1
theorem Ri:FnScope ["self"] ["self"] (Ad BB):=by walk_at "sc"
noncomputable abbrev Ja:Stmt:=top 12
theorem FD_:FnScope ["number"] ["number"] (Ad Ja):=by walk_at "sc"
noncomputable abbrev Fe:Stmt:=top 17
theorem Ys:FnScope ["mark"] ["mark"] (Ad Fe):=by walk_at "sc"
noncomputable abbrev Ep:Stmt:=Bu (top 18) 1
theorem Yt:FnScope ["self","word","mark"] ["self","word","mark"] (Ad Ep):=by walk_at "sc"
noncomputable abbrev Gp:Stmt:=Bu (top 18) 2
theorem Dq_:FnScope ["self","word","mark"] ["self","word","mark"] (Ad Gp):=by walk_at "sc"
noncomputable abbrev A9:Stmt:=Bu (top 20) 2
theorem Oj:FnScope ["self","deed"] ["self","deed"] (Ad A9):=by walk_at "sc"
noncomputable abbrev B3:Stmt:=Bu (top 21) 1
theorem ON:FnScope ["self","number"] ["self","number"] (Ad B3):=by walk_at "sc"
noncomputable abbrev Ff:Stmt:=Bu (top 34) 1
theorem Yu:FnScope ["self","mark"] ["self","mark"] (Ad Ff):=by walk_at "sc"
noncomputable abbrev Dh:Stmt:=Bu (top 41) 2
theorem TB:FnScope ["self","mark"] ["self","mark"] (Ad Dh):=by walk_at "sc"
noncomputable abbrev Hr:Stmt:=top 45
theorem Vd:FnScope ["script","k","many"] ["script","k"] (Ad Hr):=by walk_at "sc"
noncomputable abbrev Fg:Stmt:=top 46
theorem Bk_:FnScope ["cell"] ["cell"] (Ad Fg):=by walk_at "sc"
noncomputable abbrev Er:Stmt:=top 57
theorem K2:FnScope ["kept","asker","strictly","access","ends"] ["kept","asker","strictly"] (Ad Er):=by walk_at "sc"
noncomputable abbrev DB:Stmt:=top 44
theorem Yv:FnScope ["found"] ["found"] (Ad DB):=by walk_at "sc"
noncomputable abbrev CV:Stmt:=top 50
theorem Mz:FnScope ["found","letters","letter"] ["found","letters"] (Ad CV):=by walk_at "sc"
noncomputable abbrev CI:Stmt:=top 58
theorem Rj:FnScope ["wish","letters","told"] ["wish","letters","told"] (Ad CI):=by walk_at "sc"
noncomputable abbrev BY:Stmt:=top 51
theorem JE:FnScope ["words","letters","k"] ["words","letters"] (Ad BY):=by walk_at "sc"
noncomputable abbrev BP:Stmt:=top 52
theorem Jb:FnScope ["access","letters","k"] ["access","letters"] (Ad BP):=by walk_at "sc"
noncomputable abbrev B9:Stmt:=top 53
theorem Rk:FnScope ["ends","letters"] ["ends","letters"] (Ad B9):=by walk_at "sc"
noncomputable abbrev Es:Stmt:=top 54
theorem Yw:FnScope ["told","word","ends"] ["told","word","ends"] (Ad Es):=by walk_at "sc"
noncomputable abbrev Di:Stmt:=top 59
theorem Ca:FnScope ["asker","letters","most","asked","told","access","ends","wish","rows","k","many"] ["asker","letters","most","asked","told"] (Ad Di):=by walk_at "sc"
noncomputable abbrev Fh:Stmt:=Bu (top 21) 2
theorem Yx:FnScope ["self"] ["self"] (Ad Fh):=by walk_at "sc"
noncomputable abbrev CJ:Stmt:=Bu (top 41) 3
theorem Rl:FnScope ["self"] ["self"] (Ad CJ):=by walk_at "sc"
noncomputable abbrev Dj:Stmt:=top 47
theorem Il:FnScope ["found","due","k","c"] ["found","due"] (Ad Dj):=by walk_at "sc"
noncomputable abbrev Dk:Stmt:=top 48
theorem TC:FnScope ["found","due"] ["found","due"] (Ad Dk):=by walk_at "sc"
noncomputable abbrev Fi:Stmt:=top 49
theorem HU:FnScope ["house","word","room","told","letter"] ["house","word"] (Ad Fi):=by walk_at "sc"
noncomputable abbrev CK:Stmt:=top 55
theorem BZ:FnScope ["letters","access","ends","told","rows","says","ways","k","row","letter","marks"] ["letters","access","ends","told"] (Ad CK):=by walk_at "sc"
noncomputable abbrev Ck:Stmt:=top 56
theorem Cz:FnScope ["house","letters","asker","told","access","ends","due","word","mark"] ["house","letters","asker","told"] (Ad Ck):=by walk_at "sc"
noncomputable abbrev Bz:Stmt:=Bu (top 21) 3
theorem LL:FnScope ["self","word","number"] ["self","word","number"] (Ad Bz):=by walk_at "sc"
noncomputable abbrev DZ:Stmt:=Bu (top 34) 2
theorem Ve:FnScope ["self","word","mark"] ["self","word","mark"] (Ad DZ):=by walk_at "sc"
noncomputable abbrev Cm:Stmt:=Bu (top 41) 4
theorem PX:FnScope ["self","word","mark"] ["self","word","mark"] (Ad Cm):=by walk_at "sc"
noncomputable abbrev D0:Stmt:=top 60
theorem Cr:FnScope ["asker","script","at","told","house","cell","step","word","there","far"] ["asker","script","at","told"] (Ad D0):=by walk_at "sc"
noncomputable abbrev Fj:Stmt:=top 61
theorem K3:FnScope ["asker","letters","script","state","told","house","at"] ["asker","letters","script","state","told"] (Ad Fj):=by walk_at "sc"
noncomputable abbrev Gi:Stmt:=top 62
theorem Gq:FnScope ["asker","letters","most","script","state","told","asked","turn","wish"] ["asker","letters","most","script","state"] (Ad Gi):=by walk_at "sc"
noncomputable abbrev Yy:Stmt:=top 63
theorem XI:FnScope ["script","letters","most","asker","held","kept"] ["script"] (Ad Yy):=by walk_at "sc"
noncomputable def Vf:Caps:=[("letter",none),("letters",some 0)]
theorem WY:(Caps.names Vf).Nodup:=by decide +kernel
noncomputable def EL_:Caps:=[("room",none),("letter",none),("house",some 0)]
theorem Vg:(Caps.names EL_).Nodup:=by decide +kernel
noncomputable def Th:Caps:=[("end",none),("book",some 0),("word",some 1)]
theorem Vh:(Caps.names Th).Nodup:=by decide +kernel
noncomputable def Km:Caps:=[("letter",none),("rooms",some 3),("marks",some 2),("word",some 5)]
theorem Ol:(Caps.names Km).Nodup:=by decide +kernel
noncomputable def Hd:Caps:=[("word",none),("marks",some 1),("self",some 0)]
theorem JY:(Caps.names Hd).Nodup:=by decide +kernel
noncomputable def Ti:Caps:=[("word",none),("marks",some 4)]
theorem Vi:(Caps.names Ti).Nodup:=by decide +kernel
noncomputable def He:Caps:=[("letter",none)]
theorem JZ:(Caps.names He).Nodup:=by decide +kernel
noncomputable def JF:Caps:=[("letter",none)]
theorem MA:(Caps.names JF).Nodup:=by decide +kernel
noncomputable def OB:Caps:=[("end",none),("told",some 0),("word",some 1)]
theorem Rm:(Caps.names OB).Nodup:=by decide +kernel
noncomputable def Kn:Caps:=[("word",none),("told",some 4),("ends",some 6)]
theorem Om:(Caps.names Kn).Nodup:=by decide +kernel
noncomputable def JG:Caps:=[("word",none),("told",some 3),("ends",some 2)]
theorem MB:(Caps.names JG).Nodup:=by decide +kernel
noncomputable def Lq:Caps:=[("k",none),("house",some 4),("cell",some 5),("step",some 6)]
theorem OO:(Caps.names Lq).Nodup:=by decide +kernel
noncomputable def HF_:Caps:=[("row",none)]
theorem FE_:(Caps.names HF_).Nodup:=by decide +kernel
structure Txt (mg:Str->α5):Prop where
 all:mg "all"=none
 bool:mg "bool"=none
 enumerate:mg "enumerate"=none
 int:mg "int"=none
 isinstance:mg "isinstance"=none
 len:mg "len"=none
 list:mg "list"=none
 max:mg "max"=none
 range:mg "range"=none
 tuple:mg "tuple"=none
 zip:mg "zip"=none
structure Own (K:α3)(mg:Str->α5)(C_j7 C_j9 C_ji C_ja C_j1 C_j4:Addr):Prop where
 m_j7:mg "Book"=some (.ref C_j7)
 cl_j7:Cls K C_j7
 n_Book_letters:FN K C_j7 "letters"
 n_Book_marks:FN K C_j7 "marks"
 m_j9:mg "Turns"=some (.ref C_j9)
 m_ji:mg "Hunt"=some (.ref C_ji)
 m_ja:mg "Asker"=some (.ref C_ja)
 m_j1:mg "SayHunt"=some (.ref C_j1)
 cl_j1:Cls K C_j1
 n_SayHunt_book:FN K C_j1 "book"
 n_SayHunt_ends:FN K C_j1 "ends"
 n_SayHunt_gaps:FN K C_j1 "gaps"
 n_SayHunt_guess:FN K C_j1 "guess"
 n_SayHunt_letters:FN K C_j1 "letters"
 n_SayHunt_most:FN K C_j1 "most"
 n_SayHunt_ways:FN K C_j1 "ways"
 n_SayHunt_wish:FN K C_j1 "wish"
 n_SayHunt_wrong:FN K C_j1 "wrong"
 m_j4:mg "SayAsker"=some (.ref C_j4)
 cl_j4:Cls K C_j4
 n_SayAsker_hunt:FN K C_j4 "hunt"
 n_SayAsker_letters:FN K C_j4 "letters"
 q_j2d:∃t,mg "MOST_MARK"=some (.int 1000000000 t)
structure Exs (K:α3)(mg:Str->α5)(C_j8 C_j5 C_j6 C_j3 C_j2 C_j0:Addr):Prop where
 m_j8:mg "AskError"=some (.ref C_j8)
 m_j5:mg "BadWord"=some (.ref C_j5)
 m_j6:mg "BadMark"=some (.ref C_j6)
 m_j3:mg "OutOfTurn"=some (.ref C_j3)
 m_j2:mg "NoDifference"=some (.ref C_j2)
 m_j0:mg "Contradiction"=some (.ref C_j0)
 x_j5:PySem.W.excIn K C_j5 bmV "ValueError.__new__"=true
 c_j5:ExcCls K C_j5
 e_j5:exmOne K (.ref C_j5) (.ref C_j8)=some true
 v_j5:kitOne K (.ref C_j5) (.type "ValueError")=some true
 ee_j5:exmOne K (.ref C_j5) (.ref C_j5)=some true
 k_j5_j8:kitOne K (.ref C_j5) (.ref C_j8)=some true
 k_j5_j5:kitOne K (.ref C_j5) (.ref C_j5)=some true
 k_j5_j6:kitOne K (.ref C_j5) (.ref C_j6)=some false
 k_j5_j3:kitOne K (.ref C_j5) (.ref C_j3)=some false
 k_j5_j2:kitOne K (.ref C_j5) (.ref C_j2)=some false
 k_j5_j0:kitOne K (.ref C_j5) (.ref C_j0)=some false
 x_j6:PySem.W.excIn K C_j6 bmV "ValueError.__new__"=true
 c_j6:ExcCls K C_j6
 e_j6:exmOne K (.ref C_j6) (.ref C_j8)=some true
 v_j6:kitOne K (.ref C_j6) (.type "ValueError")=some true
 ee_j6:exmOne K (.ref C_j6) (.ref C_j6)=some true
 k_j6_j8:kitOne K (.ref C_j6) (.ref C_j8)=some true
 k_j6_j5:kitOne K (.ref C_j6) (.ref C_j5)=some false
 k_j6_j6:kitOne K (.ref C_j6) (.ref C_j6)=some true
 k_j6_j3:kitOne K (.ref C_j6) (.ref C_j3)=some false
 k_j6_j2:kitOne K (.ref C_j6) (.ref C_j2)=some false
 k_j6_j0:kitOne K (.ref C_j6) (.ref C_j0)=some false
 x_j3:PySem.W.excIn K C_j3 bmV "ValueError.__new__"=true
 c_j3:ExcCls K C_j3
 e_j3:exmOne K (.ref C_j3) (.ref C_j8)=some true
 v_j3:kitOne K (.ref C_j3) (.type "ValueError")=some true
 ee_j3:exmOne K (.ref C_j3) (.ref C_j3)=some true
 k_j3_j8:kitOne K (.ref C_j3) (.ref C_j8)=some true
 k_j3_j5:kitOne K (.ref C_j3) (.ref C_j5)=some false
 k_j3_j6:kitOne K (.ref C_j3) (.ref C_j6)=some false
 k_j3_j3:kitOne K (.ref C_j3) (.ref C_j3)=some true
 k_j3_j2:kitOne K (.ref C_j3) (.ref C_j2)=some false
 k_j3_j0:kitOne K (.ref C_j3) (.ref C_j0)=some false
 x_j2:PySem.W.excIn K C_j2 bmV "ValueError.__new__"=true
 c_j2:ExcCls K C_j2
 e_j2:exmOne K (.ref C_j2) (.ref C_j8)=some true
 v_j2:kitOne K (.ref C_j2) (.type "ValueError")=some true
 ee_j2:exmOne K (.ref C_j2) (.ref C_j2)=some true
 k_j2_j8:kitOne K (.ref C_j2) (.ref C_j8)=some true
 k_j2_j5:kitOne K (.ref C_j2) (.ref C_j5)=some false
 k_j2_j6:kitOne K (.ref C_j2) (.ref C_j6)=some false
 k_j2_j3:kitOne K (.ref C_j2) (.ref C_j3)=some false
 k_j2_j2:kitOne K (.ref C_j2) (.ref C_j2)=some true
 k_j2_j0:kitOne K (.ref C_j2) (.ref C_j0)=some false
 x_j0:PySem.W.excIn K C_j0 bmV "ValueError.__new__"=true
 c_j0:ExcCls K C_j0
 e_j0:exmOne K (.ref C_j0) (.ref C_j8)=some true
 v_j0:kitOne K (.ref C_j0) (.type "ValueError")=some true
 ee_j0:exmOne K (.ref C_j0) (.ref C_j0)=some true
 k_j0_j8:kitOne K (.ref C_j0) (.ref C_j8)=some true
 k_j0_j5:kitOne K (.ref C_j0) (.ref C_j5)=some false
 k_j0_j6:kitOne K (.ref C_j0) (.ref C_j6)=some false
 k_j0_j3:kitOne K (.ref C_j0) (.ref C_j3)=some false
 k_j0_j2:kitOne K (.ref C_j0) (.ref C_j2)=some false
 k_j0_j0:kitOne K (.ref C_j0) (.ref C_j0)=some true
section
variable {P:Program} {w:World} {K:α3} {mg:Str->α5} {base:Heap}
variable {C_j8 C_j5 C_j6 C_j3 C_j2 C_j0 C_j7 C_j9 C_ji C_ja C_j1 C_j4:Addr}
noncomputable def XJ (K:α3):Sp:=fun vs H Q _=>∃(L:Int) (a:Addr) (ws:α2),vs=[.int L,.ref a]/\SqT K H a (ws.map V.int)/\ws.length<=1000/\∀H',Same H H'->Q (.bl (isW L ws)) H'
theorem FF_   (F:Fun K "is_word" "is_word" IX f fd)(T:Txt mg)
  (W:Own K mg C_j7 C_j9 C_ji C_ja C_j1 C_j4)
  (Z:Exs K mg C_j8 C_j5 C_j6 C_j3 C_j2 C_j0)
  : FnOk P w K mg base CX0 1 f fd ["letters","word"] (XJ K):=by
 refine F.ok FC_ (fun vs H Q E h=>?_) (fun cdv A outer s H vs Q E hr h=>?_)
 ·obtain⟨L,a,ws,rfl,_⟩:=h;rfl
 ·obtain⟨L,a,ws,rfl,hw,hz,k⟩:=h
  have hl:=Aq
  refine⟨_,(Af (An (AF (IH_ rfl) rfl T.all PyProof.Rows.boot_all (Aa (KW rfl (Ki rfl) (cp:=Vf) ⟨⟨rfl,rfl⟩,True.intro⟩ (Er_ (pvD 1)) (fun _ _ _ _=>(Bl (i:=0) WY rfl (Or.inl rfl))) (fun _ _ _ _=>Ln) (fun _ _ _ _=>(Et_ Iu_ Gy_ Ah (pvD 0) (pvD 1)))) Ae)))),?_⟩
  walk_at "rd"
  refine⟨⟨_,hw⟩,IJ_ (σ':=[some (.int L)]) (fun x=>match x with | .int n=>.bl (inW L n)|_=>.non) rfl hw (by rw[jb_];lia) (fun x hx R hR=>?_) (fun D hD=>?_)⟩
  ·obtain⟨n,_,rfl⟩:=PN hx
   walk_at "rd"
   by_cases h0:0<=n
   ·simp only[h0,q7_]
    simpa [inW,h0] using hR
   ·simp only[h0,qM_]
    simpa [inW,h0] using hR
  ·refine⟨D,rfl,ws.map (inW L),.inl (.inl ?_),?_⟩
   ·rw[Ab,q5_,q5_];rfl
   ·have:=k _ (Same.new hD (o:=.lst ((ws.map V.int).map fun x=>match x with | .int n=>.bl (inW L n)|_=>.non)))
    simpa [isW,List.all_map] using this
noncomputable def Yz (K:α3)(BW:Addr):Sp:=fun vs H Q E=>∃(L:Int) (a:Addr) (ws:α2),vs=[.int L,.ref a]/\SqT K H a (ws.map V.int)/\ws.length<=1000/\(isW L ws=true->∀H',Same H H'->Q .non H')/\(isW L ws=false->∀H',Same H H'->E (.ref BW) none H')
theorem YA   (F:Fun K "check_word" "check_word" Em f fd)(T:Txt mg)
  (W:Own K mg C_j7 C_j9 C_ji C_ja C_j1 C_j4)
  (Z:Exs K mg C_j8 C_j5 C_j6 C_j3 C_j2 C_j0)
   (Vj:FnOk P w K mg base CX0 1 Ko XM ["letters","word"] (XJ K)) (MC:Fun K "is_word" "is_word" IX Ko XM) (Vk:Binds K XM ["letters","word"] []) (Vl:mg "is_word"=some (.ref Ko))
  : FnOk P w K mg base (CXe P w) 2 f fd ["letters","word"] (Yz K C_j5):=by
 refine F.okE Yn (fun vs H Q E h=>?_) (fun cdv A outer s H vs Q E hr h=>?_)
 ·obtain⟨L,a,ws,rfl,_⟩:=h;rfl
 ·obtain⟨L,a,ws,rfl,hw,hz,k,kE⟩:=h
  have hl:=Aq
  refine⟨_,(Af (B6 (ET (ptB (ES (Ax Vj (hr.mono (by decide)) rfl Vl MC.kp Vk .nil AM (Aa (pvD 0) (Aa (pvD 1) Ae))))))
   (Af (Oc Z.m_j5 Z.x_j5 rfl rfl (Aa Ek Ae)))
   AK)),?_⟩
  walk_at "rd"
  refine⟨L,a,ws,rfl,hw,hz,fun H' s'=>?_⟩
  walk_at "rd"
  cases hv:isW L ws with
  |true=>
   simp only[Bool.not_true,j5_,qM_]
   exact k hv H' s'
  |false=>
   simp only[Bool.not_false,q7_]
   exact⟨by lia,kE hv H' s'⟩
noncomputable def XN:Sp:=fun vs H Q _=>∃n:Int,vs=[.int n]/\Q (.bl (decide (0<=n)&&decide (n<=1000000000))) H
theorem FG_   (F:Fun K "is_mark" "is_mark" Ja f fd)(T:Txt mg)
  (W:Own K mg C_j7 C_j9 C_ji C_ja C_j1 C_j4)
  (Z:Exs K mg C_j8 C_j5 C_j6 C_j3 C_j2 C_j0)
  : FnOk P w K mg base CX0 1 f fd ["number"] (XN):=by
 refine F.ok FD_ (fun vs H Q E h=>?_) (fun cdv A outer s H vs Q E hr h=>?_)
 ·obtain⟨n,rfl,_⟩:=h;rfl
 ·obtain⟨n,rfl,k⟩:=h
  refine⟨_,(Af (An (Et_ Iu_ Iu_ Ah (pvD 0) (Nv_ rfl W.q_j2d)))),?_⟩
  walk_at "rd"
  by_cases h0:0<=n
  ·simp only[h0,q7_]
   simpa [h0] using k
  ·simp only[h0,qM_]
   simpa [h0] using k
noncomputable def OC (BM:Addr):Sp:=fun vs H Q E=>∃n:Int,vs=[.int n]/\(0<=n->n<=1000000000->Q .non H)/\(¬ (0<=n/\n<=1000000000)->E (.ref BM) none H)
theorem YB   (F:Fun K "check_mark" "check_mark" Fe f fd)(T:Txt mg)
  (W:Own K mg C_j7 C_j9 C_ji C_ja C_j1 C_j4)
  (Z:Exs K mg C_j8 C_j5 C_j6 C_j3 C_j2 C_j0)
   (Vm:FnOk P w K mg base CX0 1 Kp XO ["number"] (XN)) (ME:Fun K "is_mark" "is_mark" Ja Kp XO) (Vn:Binds K XO ["number"] []) (Vo:mg "is_mark"=some (.ref Kp))
  : FnOk P w K mg base (CXe P w) 2 f fd ["mark"] (OC C_j6):=by
 refine F.okE Ys (fun vs H Q E h=>?_) (fun cdv A outer s H vs Q E hr h=>?_)
 ·obtain⟨n,rfl,_⟩:=h;rfl
 ·obtain⟨n,rfl,k,kE⟩:=h
  refine⟨_,(Af (B6 (ET (ptB (ES (Ax Vm (hr.mono (by decide)) rfl Vo ME.kp Vn .nil AM (Aa (pvD 0) Ae)))))
   (Af (Oc Z.m_j6 Z.x_j6 rfl rfl (Aa Ek Ae)))
   AK)),?_⟩
  walk_at "rd"
  refine⟨n,rfl,?_⟩
  walk_at "rd"
  by_cases h0:0<=n/\n<=1000000000
  ·rw[if_neg (by simp[h0.1,h0.2])]
   exact k h0.1 h0.2
  ·rw[if_pos (by simp only[Bool.not_eq_true',Bool.and_eq_false_iff,decide_eq_false_iff_not];lia)]
   exact⟨by have:=Aq;lia,kE h0⟩
noncomputable def Vp (K:α3)(BW:Addr):Sp:=fun vs H Q E=>∃(h a m wv:Addr) (L:Int) (marks:α2) (ways:α1) (ws:α2),vs=[.ref h,.ref a]/\SqT K H h [.int L,.ref m,.ref wv]/\Rows K H wv ways/\Wf L marks ways/\SqT K H a (ws.map V.int)/\ws.length<=600/\(isW L ws=true->∀p H',Same H H'->H p=none->H' p=some (.lst ((U7 ways ws).map V.int))->Q (.ref p) H')/\(isW L ws=false->∀H',Same H H'->E (.ref BW) none H')
theorem IY_   (F:Fun K "trail" "trail" Mv f fd)(T:Txt mg)
  (W:Own K mg C_j7 C_j9 C_ji C_ja C_j1 C_j4)
  (Z:Exs K mg C_j8 C_j5 C_j6 C_j3 C_j2 C_j0)
   (Gr:FnOk P w K mg base (CXe P w) 2 DC GR ["letters","word"] (Yz K C_j5)) (Et:Fun K "check_word" "check_word" Em DC GR) (Gs:Binds K GR ["letters","word"] []) (Gu:mg "check_word"=some (.ref DC))
  : FnOk P w K mg base (CXe P w) 3 f fd ["house","word"] (Vp K C_j5):=by
 refine F.okE UQ (fun vs H Q E h=>?_) (fun cdv A outer s H vs Q E hr h=>?_)
 ·obtain⟨h,a,m,wv,L,marks,ways,ws,rfl,_⟩:=h;rfl
 ·obtain⟨h,a,m,wv,L,marks,ways,ws,rfl,h1,h3,wf,hw,hz,k,kE⟩:=h
  have hl:=Aq
  refine⟨_,(Ac (Bb (Ax Gr (hr.mono (by decide)) rfl Gu Et.kp Gs .nil (Kj fun _ _ _ h=>h) (Aa (Ar (ixTD AY) (pvD 0) Ah) (Aa (pvD 1) Ae))))
   (PSs.nox (Ac (AW (i:=2) UQ.nd (Ar (ixTD AY) (pvD 0) Ah))
   (Ac (AW (i:=3) UQ.nd (JD (Aa Ah Ae)))
   (Ac (E6 jz_ rfl (Er_ (pvD 1)) (Bl (i:=4) UQ.nd rfl (Or.inl rfl))
   (Af (Bb (U3 jI_ j2_ j3_ GO (pvD 3) (Aa (Ar (ixTD AY) (Ar (ixTD AY) (pvD 2) (Ar (ixLD Ci) (pvD 3) (Fm_ XC Ah))) (pvD 4)) Ae)))))
   (Af (An (pvD 3)))))))),?_⟩
  walk_at "rd"
  refine⟨_,h1,_,rfl,L,a,ws,rfl,hw,by lia,fun hv H1 s1=>?_,kE⟩
  walk_at "rd"
  have hw1:=s1.seqT hw
  have h3':=h3.mono s1
  refine⟨_,s1.seqT h1,_,rfl,by lia,fun p hp=>?_⟩
  have s2:=Same.new hp (o:=.lst [V.int 0])
  refine⟨⟨_,s2.seqT hw1⟩,forT (xs:=ws.map V.int) (fun i σ2 H2=>Same H1 H2/\H2 p=some (.lst (((List.range (i+1)).map fun j=>FO ways (ws.take j)).map V.int))/\∃o,σ2=[some (.ref h),some (.ref a),some (.ref wv),some (.ref p),o]) ⟨s2,by rw[Ab];simp[FO],none,rfl⟩ (fun i σ2 H2 _ h=>h.1.seqT hw1) (fun i x σ2 H2 hx h=>?_) (fun σ2 H2 h=>?_)⟩
  ·obtain⟨s3,hp3,o,rfl⟩:=h
   obtain⟨n,hn,rfl⟩:=PQ hx
   have hi:=(jc_.mp hn).1
   have hx:=CG.mp hv n (jf_ hn)
   have hwk:=wf.walk hv i
   obtain⟨row,g,r1,r2,r3,r4,r5⟩:=wf.step hwk.1 hwk.2 hx.1 hx.2
   obtain⟨xs,t,q1,q2,q3⟩:=(h3'.mono s3).atZ hwk.1 r1
   walk_at "rd"
   refine⟨.inl ⟨rfl,_,SqL.of hp3⟩,_,SqL.of hp3,_,Dg_ (v:=V.int (FO ways (ws.take i))) (by simp),?_⟩
   walk_at "rd"
   refine⟨_,q1,_,q2,?_⟩
   walk_at "rd"
   refine⟨_,q3,_,U8 hx.1 r2,_,hp3,by simp;lia,s3.over hp,?_,_,rfl⟩
   rw[Ab,show List.range (i+1+1)=List.range (i+1)++[i+1] from qF_,jn_,jn_,<-r3,<-Oe hn]
   rfl
  ·obtain⟨s3,hp3,o,rfl⟩:=h
   walk_at "rd"
   rw[jb_]at hp3
   exact k hv p H2 (s1.trans s3) (s1.free hp) hp3
noncomputable def TF (K:α3)(H:Hp)(h:Addr)(L:Int)(says ways:α1):Prop:=∃m wv:Addr,SqT K H h [.int L,.ref m,.ref wv]/\Rows K H m says/\Rows K H wv ways
theorem TF.mono {K:α3}     (x:TF K H h L says ways)(e:Same H H'):TF K H' h L says ways:=by
 obtain⟨m,wv,h1,h2,h3⟩:=x
 exact⟨m,wv,e.seqT h1,h2.mono e,h3.mono e⟩
structure WfS (L:Int)(says ways:α1):Prop where
 wf:Wf L (List.replicate says.length 0) ways
 sr:∀row∈says,(row.length:Int)=L
noncomputable def sayW (says ways:α1)(ws:α2):α2:=(List.range ws.length).map fun j=>LH says (FO ways (ws.take j)) (ws.getD j 0)
theorem Jc (says ways:α1)(ws:α2):(sayW says ways ws).length=ws.length:=by unfold sayW;rw[jb_,j4_]
theorem WfS.at {L:Int}{says ways:α1}(h:WfS L says ways){r x:Int}(r0:0<=r)(r1:r<says.length)(x0:0<=x)(x1:x<L):∃row,says[r.toNat]?=some row/\row[x.toNat]?=some (LH says r x):=by
 have hr:r.toNat<says.length:=by lia
 refine⟨says[r.toNat],by simp[hr],?_⟩
 have hl:=h.sr _ (qw_ hr)
 have hx:x.toNat<(says[r.toNat]).length:=by lia
 have e:says.getD r.toNat []=says[r.toNat]:=by rw[jq_,jh_ hr];rfl
 unfold LH
 rw[e,jq_,jh_ hx];rfl
theorem WfS.walk   (h:WfS L says ways)  (hw:isW L ws=true)(i:Nat):0<=FO ways (ws.take i)/\FO ways (ws.take i)<says.length:=by
 have:=h.wf.walk hw i
 rw[qm_]at this
 exact this
noncomputable def HG_ (K:α3)(BW:Addr):Sp:=fun vs H Q E=>∃(h a:Addr) (L:Int) (says ways:α1) (ws:α2),vs=[.ref h,.ref a]/\TF K H h L says ways/\WfS L says ways/\SqT K H a (ws.map V.int)/\ws.length<=600/\(isW L ws=true->∀p H',Same H H'->H' p=some (.lst ((sayW says ways ws).map V.int))->Q (.ref p) H')/\(isW L ws=false->∀H',Same H H'->E (.ref BW) none H')
theorem Lt_   (F:Fun K "said" "said" Vb f fd)(T:Txt mg)
  (W:Own K mg C_j7 C_j9 C_ji C_ja C_j1 C_j4)
  (Z:Exs K mg C_j8 C_j5 C_j6 C_j3 C_j2 C_j0)
   (Ro:FnOk P w K mg base (CXe P w) 3 K4 PY ["house","word"] (Vp K C_j5)) (MF:Fun K "trail" "trail" Mv K4 PY) (Rp:Binds K PY ["house","word"] []) (Rq:mg "trail"=some (.ref K4))
  : FnOk P w K mg base (CXe P w) 4 f fd ["house","word"] (HG_ K C_j5):=by
 refine F.okE Ls_ (fun vs H Q E h=>?_) (fun cdv A outer s H vs Q E hr h=>?_)
 ·obtain⟨h,a,L,says,ways,ws,rfl,_⟩:=h;rfl
 ·obtain⟨h,a,L,says,ways,ws,rfl,hh,wf,hw,hz,k,kE⟩:=h
  have hl:=Aq
  refine⟨_,(Af (An (KW rfl (Ki rfl) (cp:=EL_) ⟨⟨rfl,rfl⟩,True.intro⟩ (Le_ rfl T.zip (Aa (Ax Ro (hr.mono (by decide)) rfl Rq MF.kp Rp .nil (Kj fun _ _ _ h=>h) (Aa (pvD 0) (Aa (pvD 1) Ae))) (Aa (pvD 1) Ae))) (fun _ _ _ _=>(Lf_ (K:=K) (n:=2) rfl rfl (JC (Bl (i:=0) Vg rfl (Or.inl rfl)) (JC (Bl (i:=1) Vg rfl (Or.inl rfl)) X1)))) (fun _ _ _ _=>Ln) (fun _ _ _ _=>(Ar (ixTD (Yd (K:=K) rfl)) (Ar (ixTD (Yd (K:=K) rfl)) (Ar (ixTD (Yd (K:=K) rfl)) (pvD 2) Ah) (pvD 0)) (pvD 1)))))),?_⟩
  walk_at "rd"
  obtain⟨m,wv,h1,h2,h3⟩:=id hh
  refine⟨h,a,m,wv,L,_,ways,ws,rfl,h1,h3,wf.wf,hw,hz,fun hv p H1 s1 hp hp1=>?_,kE⟩
  refine⟨p,rfl,_,_,false,SqL.of hp1,true,s1.seqT hw,?_⟩
  have htl:(U7 ways ws).length=ws.length+1:=Yf ways ws
  obtain⟨Pv,hPv⟩:∃Pv:Nat->List V->St->Hp->Prop,∀i zs σ2 H2,Pv i zs σ2 H2↔(Same H1 H2/\zs=((List.range i).map fun j=>LH says (FO ways (ws.take j)) (ws.getD j 0)).map V.int/\∃o1 o2,σ2=[o1,o2,some (.ref h)]):=⟨_,fun _ _ _ _=>qG_⟩
  refine MO_ ws.length (by rw[jb_];lia) (by rw[jb_];lia) (by rw[jb_,jb_];exact .inr rfl) Pv ((hPv _ _ _ _).mpr ⟨Same.refl _,rfl,none,none,rfl⟩) s!"" (fun i zs σ2 H2 hi h2=>?_) (fun i u v zs σ2 H2 t hi hu hv' h2 ht=>?_) (fun zs σ2 H2 h2 D hD=>?_)
  ·obtain⟨s2,rfl,_⟩:=(hPv _ _ _ _).mp h2
   exact⟨SqL.of (s2 _ _ hp1),(s1.trans s2).seqT hw,by rw[jb_,jb_,j4_];exact jl_ _⟩
  ·obtain⟨s2,rfl,o1,o2,rfl⟩:=(hPv _ _ _ _).mp h2
   obtain⟨rm,hrm,rfl⟩:=PQ hu
   obtain⟨n,hn,rfl⟩:=PQ hv'
   have erm:rm=FO ways (ws.take i):=by
    unfold U7 at hrm
    rw[ji_,qy_ s!""]at hrm
    exact (jt_ hrm).symm
   subst erm
   have hx:=CG.mp hv n (jf_ hn)
   have hwk:=wf.walk hv i
   obtain⟨srow,r1,r2⟩:=wf.at hwk.1 hwk.2 hx.1 hx.2
   have st:=s2.newT ht (o:=.tup [V.int (FO ways (ws.take i)),V.int n])
   obtain⟨m',wv',k1,k2,k3⟩:=hh.mono (s1.trans st)
   obtain⟨xs,t',q1,q2,q3⟩:=k2.atZ hwk.1 r1
   walk_at "rd"
   refine⟨_,SqT.of Ab,rfl,_,_,rfl,_,_,rfl,rfl,_,k1,_,rfl,?_⟩
   walk_at "rd"
   refine⟨_,q1,_,q2,t',rfl,_,q3,_,U8 hx.1 r2,(hPv _ _ _ _).mpr ⟨st,?_,_,_,rfl⟩⟩
   rw[qF_,jn_,jn_,qr_,qr_,show ws.getD i 0=n from by rw[jq_,hn];rfl]
  ·obtain⟨s2,rfl,_⟩:=(hPv _ _ _ _).mp h2
   exact k hv D _ ((s1.trans s2).newT hD) Ab
noncomputable def MG (K:α3)(BW:Addr):Sp:=fun vs H Q E=>∃(a:Addr) (ws:α2),vs=[.ref a]/\SqT K H a (ws.map V.int)/\(ws ≠ []->Q .non H)/\(ws=[]->E (.ref BW) none H)
theorem PZ   (F:Fun K "check_not_empty" "check_not_empty" BX f fd)(T:Txt mg)
  (W:Own K mg C_j7 C_j9 C_ji C_ja C_j1 C_j4)
  (Z:Exs K mg C_j8 C_j5 C_j6 C_j3 C_j2 C_j0)
  : FnOk P w K mg base (CXe P w) 1 f fd ["word"] (MG K C_j5):=by
 refine F.okE PU (fun vs H Q E h=>?_) (fun cdv A outer s H vs Q E hr h=>?_)
 ·obtain⟨a,ws,rfl,_⟩:=h;rfl
 ·obtain⟨a,ws,rfl,hw,k,kE⟩:=h
  have hl:=Aq
  refine⟨_,(Af (B6 (ptT (AE (opE KQ) (AF (lenD Aj) (by rfl) T.len jv_ (Aa (pvD 0) Ae)) Ah (AZ _)))
   (Af (Oc Z.m_j5 Z.x_j5 rfl rfl (Aa Ek Ae)))
   AK)),?_⟩
  walk_at "rd"
  refine⟨_,.inr hw,?_⟩
  rw[jb_]
  refine ite2 (fun e=>⟨by lia,kE (List.eq_nil_of_length_eq_zero (by simpa using e))⟩) (fun e=>k fun z=>e (by rw[z];rfl))
noncomputable def JH (K:α3)(BW:Addr):Sp:=fun vs H Q E=>∃(h a:Addr) (L:Int) (says ways:α1) (ws:α2),vs=[.ref h,.ref a]/\TF K H h L says ways/\WfS L says ways/\SqT K H a (ws.map V.int)/\ws.length<=600/\(isW L ws=true->ws ≠ []->∀H' x,Same H H'->(sayW says ways ws)[ws.length-1]?=some x->Q (.int x) H')/\(isW L ws=false\/ws=[]->∀H',Same H H'->E (.ref BW) none H')
theorem Bl_   (F:Fun K "last_said" "last_said" EF f fd)(T:Txt mg)
  (W:Own K mg C_j7 C_j9 C_ji C_ja C_j1 C_j4)
  (Z:Exs K mg C_j8 C_j5 C_j6 C_j3 C_j2 C_j0)
   (C5:FnOk P w K mg base (CXe P w) 1 BE DD ["word"] (MG K C_j5)) (B0:Fun K "check_not_empty" "check_not_empty" BX BE DD) (C6:Binds K DD ["word"] []) (C7:mg "check_not_empty"=some (.ref BE))
   (HH_:FnOk P w K mg base (CXe P w) 4 XQ HI_ ["house","word"] (HG_ K C_j5)) (Bm_:Fun K "said" "said" Vb XQ HI_) (HJ_:Binds K HI_ ["house","word"] []) (HK_:mg "said"=some (.ref XQ))
  : FnOk P w K mg base (CXe P w) 5 f fd ["house","word"] (JH K C_j5):=by
 refine F.okE Bh_ (fun vs H Q E h=>?_) (fun cdv A outer s H vs Q E hr h=>?_)
 ·obtain⟨h,a,L,says,ways,ws,rfl,_⟩:=h;rfl
 ·obtain⟨h,a,L,says,ways,ws,rfl,hh,wf,hw,hz,k,kE⟩:=h
  refine⟨_,(Ac (Bb (Ax C5 (hr.mono (by decide)) rfl C7 B0.kp C6 .nil (Kj fun _ _ _ h=>h) (Aa (pvD 1) Ae)))
   (Af (An (Ar (ixLD Ci) (Ax HH_ (hr.mono (by decide)) rfl HK_ Bm_.kp HJ_ .nil (Kj fun _ _ _ h=>h) (Aa (pvD 0) (Aa (pvD 1) Ae))) (Fm_ XC Ah))))),?_⟩
  walk_at "rd"
  refine⟨a,ws,rfl,hw,fun hne=>?_,fun e=>kE (.inr e) _ (Same.refl _)⟩
  walk_at "rd"
  refine⟨h,a,L,says,ways,ws,rfl,hh,wf,hw,hz,fun hv p H1 s1 hp1=>?_,fun hv H1 s1=>kE (.inl hv) _ s1⟩
  walk_at "rd"
  have hlt:ws.length-1<(sayW says ways ws).length:=by
   rw[Jc]
   have:=xk_.mpr hne
   lia
  have hx:(sayW says ways ws)[ws.length-1]?=some ((sayW says ways ws)[ws.length-1]):=by simp[hlt]
  refine⟨_,SqL.of hp1,_,Dg_ (v:=V.int ((sayW says ways ws)[ws.length-1])) ?_,k hv hne _ _ s1 hx⟩
  rw[jb_,Jc,ji_,hx];rfl
noncomputable def Tj (C:Addr):Sp:=fun vs H Q _=>∃(p dx:Addr) (L:Int),vs=[.ref p,.int L]/\H p=some (.ins C dx [])/\∀(d:Addr) (H':Hp),H d=none->BookAt C H' p d L []->(∀b o,H b=some o->b≠p->H' b=some o)->Q .non H'
theorem Bn_   (F:Fun K "__init__" "Book.__init__" Gg f fd)(T:Txt mg)
  (W:Own K mg C_j7 C_j9 C_ji C_ja C_j1 C_j4)
  (Z:Exs K mg C_j8 C_j5 C_j6 C_j3 C_j2 C_j0)
  : FnOk P w K mg base CX0 1 f fd ["self","letters"] (Tj C_j7):=by
 refine F.ok Bf_ (fun vs H Q E h=>?_) (fun cdv A outer s H vs Q E hr h=>?_)
 ·obtain⟨p,dx,L,rfl,_⟩:=h;rfl
 ·obtain⟨p,dx,L,rfl,hp,k⟩:=h
  refine⟨_,(Ac (Gm (pvD 0) (pvD 1) rfl)
   (Af (Gm (pvD 0) KU rfl))),?_⟩
  walk_at "rd"
  refine⟨_,_,_,hp,W.cl_j7,W.n_Book_letters,by decide,fun d hd=>?_⟩
  have hdp:d≠p:=fun z=>by rw[z,Ab]at hd;cases hd
  rw[Ag hdp]at hd
  refine⟨_,_,_,by rw[Ag (qj_ hdp)];exact Ab,W.cl_j7,W.n_Book_marks,by simp[putF],?_⟩
  refine k d _ hd ⟨⟨_,Ab⟩,by rw[Ag hdp];exact Ab,by simp⟩ fun b o hb hbp=>?_
  rw[Ag hbp,Ag (C2 hb hd),Ag hbp]
  exact hb
noncomputable def J1 (C BW BM:Addr):Sp:=fun vs H Q E=>∃(p d t:Addr) (L m:Int) (w:α2) (es:List (α2×Int)),vs=[.ref p,.ref t,.int m]/\BookAt C H p d L es/\H t=some (.tup (w.map V.int))/\w.length<=900 /\
 (isW L w=false->∀H',Same H H'->E (.ref BW) none H') /\
 (isW L w=true->¬ (0<=m/\m<=1000000000)->∀H',Same H H'->E (.ref BM) none H') /\
 (isW L w=true->0<=m->m<=1000000000->∀H',Same H H'->Q .non H')
theorem YC   (F:Fun K "check" "Book.check" Ep f fd)(T:Txt mg)
  (W:Own K mg C_j7 C_j9 C_ji C_ja C_j1 C_j4)
  (Z:Exs K mg C_j8 C_j5 C_j6 C_j3 C_j2 C_j0)
   (Gr:FnOk P w K mg base (CXe P w) 2 DC GR ["letters","word"] (Yz K C_j5)) (Et:Fun K "check_word" "check_word" Em DC GR) (Gs:Binds K GR ["letters","word"] []) (Gu:mg "check_word"=some (.ref DC))
   (MK:FnOk P w K mg base (CXe P w) 2 Gv P0 ["mark"] (OC C_j6)) (HV:Fun K "check_mark" "check_mark" Fe Gv P0) (ML:Binds K P0 ["mark"] []) (MM:mg "check_mark"=some (.ref Gv))
  : FnOk P w K mg base (CXe P w) 3 f fd ["self","word","mark"] (J1 C_j7 C_j5 C_j6):=by
 refine F.okE Yt (fun vs H Q E h=>?_) (fun cdv A outer s H vs Q E hr h=>?_)
 ·obtain⟨p,d,t,L,m,wd,es,rfl,_⟩:=h;rfl
 ·obtain⟨p,d,t,L,m,wd,es,rfl,B,ht,hwl,kW,kM,k⟩:=h
  have hln:=Aq
  refine⟨_,(Ac (Bb (Ax Gr (hr.mono (by decide)) rfl Gu Et.kp Gs .nil (Kj fun _ _ _ h=>h) (Aa (AX (pvD 0) rfl) (Aa (pvD 1) Ae))))
   (Af (Bb (Ax MK (hr.mono (by decide)) rfl MM HV.kp ML .nil (Kj fun _ _ _ h=>h) (Aa (pvD 2) Ae))))),?_⟩
  obtain⟨⟨dx,hp⟩,hd,nd⟩:=id B
  walk_at "rd"
  refine⟨_,_,_,hp,W.cl_j7,W.n_Book_letters,_,Yk _ _,?_⟩
  refine⟨L,t,wd,rfl,SqT.of ht,by lia,fun hw H1 s1=>?_,fun hw H1 s1=>kW hw H1 s1⟩
  walk_at "rd"
  exact⟨m,rfl,fun h0 h1=>k hw h0 h1 _ s1,fun hm=>kM hw hm H1 s1⟩
noncomputable def putE (es:List (α2×Int))(v:α2)(m:Int):List (α2×Int):=if v∈es.map (·.1) then es else es++[(v,m)]
theorem FH_    (nd:(es.map (·.1)).Nodup)(h:(v,m)∈es):putK (ents es) (wkey v) (.int m)=ents es:=by
 unfold putK
 rw[KR,F6 nd h,if_pos (by simp)]
 unfold ents
 rw[q5_]
 refine jZ_ fun e he=>?_
 show (if wkey e.1=wkey v then (wkey e.1,V.int m) else (wkey e.1,V.int e.2))=(wkey e.1,V.int e.2)
 split
 ·rename_i z
  have e1:e.1=v:=UO z
  have h1:=F6 nd (show (e.1,e.2)∈es from he)
  rw[e1,F6 nd h]at h1
  rw[jt_ h1]
 ·rfl
noncomputable def MN (C BW BM CO:Addr):Sp:=fun vs H Q E=>∃(p d t:Addr) (L m:Int) (w:α2) (es:List (α2×Int)),vs=[.ref p,.ref t,.int m]/\BookAt C H p d L es/\H t=some (.tup (w.map V.int))/\w.length<=900/\es.length<=100000 /\
 (isW L w=false->∀H',Same H H'->E (.ref BW) none H') /\
 (isW L w=true->¬ (0<=m/\m<=1000000000)->∀H',Same H H'->E (.ref BM) none H') /\
 (isW L w=true->0<=m->m<=1000000000->∀n,(w,n)∈es->n≠m->∀H',Same H H'->E (.ref CO) none H') /\
 (isW L w=true->0<=m->m<=1000000000->(∀n,(w,n)∈es->n=m)->∀H',BookAt C H' p d L (putE es w m)->(∀b o,H b=some o->b≠d->H' b=some o)->Q .non H')
theorem Dr_   (F:Fun K "put" "Book.put" Gp f fd)(T:Txt mg)
  (W:Own K mg C_j7 C_j9 C_ji C_ja C_j1 C_j4)
  (Z:Exs K mg C_j8 C_j5 C_j6 C_j3 C_j2 C_j0)
   (Gw:FnOk P w K mg base (CXe P w) 3 Cs GS ["self","word","mark"] (J1 C_j7 C_j5 C_j6)) (Gx:Fun K "check" "Book.check" Ep Cs GS) (Gy:Binds K GS ["self","word","mark"] []) (Gz:Meth K C_j7 "check" Cs)
  : FnOk P w K mg base (CXe P w) 4 f fd ["self","word","mark"] (MN C_j7 C_j5 C_j6 C_j0):=by
 refine F.okE Dq_ (fun vs H Q E h=>?_) (fun cdv A outer s H vs Q E hr h=>?_)
 ·obtain⟨p,d,t,L,m,w,es,rfl,_⟩:=h;rfl
 ·obtain⟨p,d,t,L,m,wd,es,rfl,B,ht,hwl,hl,kW,kM,kC,k⟩:=h
  have hln:=Aq
  refine⟨_,(Ac (Bb (DU (pvD 0) W.cl_j7 Gz Gw (hr.mono (by decide)) Gy .nil (Kj fun _ _ _ h=>h) (Aa (pvD 1) (Aa (pvD 2) Ae))))
   (Ac (B6 (ptT (AE (opN Ra) (IF_ (IU hr) (AX (pvD 0) rfl) (pvD 1) (pvD 2) ⟨by rfl,by rfl,by rfl,by rfl⟩) (pvD 2) (AZ _)))
   (Af (Oc Z.m_j0 Z.x_j0 rfl rfl (Aa Ek Ae)))
   AK)
   (Af (KS (IU hr) (AX (pvD 0) rfl) (pvD 1) (pvD 2) rfl)))),?_⟩
  obtain⟨⟨dx,hp⟩,hd,nd⟩:=id B
  walk_at "rd"
  refine⟨_,_,hp,HK _ _ (by decide +kernel) (by decide +kernel),p,d,t,L,m,wd,es,rfl,B,ht,hwl,fun hw H1 s1=>kW hw H1 s1,fun hw hm H1 s1=>kM hw hm H1 s1,fun hw h0 h1 H1 s1=>?_⟩
  have hp1:=s1 _ _ hp
  have hd1:=s1 _ _ hd
  have ht1:H1 t=some (.tup ((wkey wd).map kV)):=by rw[Cj];exact s1 _ _ ht
  have hel:(ents es).length=es.length:=by unfold ents;rw[jb_]
  have hpd:p≠d:=fun z=>by rw[z,hd1]at hp1;cases hp1
  have hg:=DGet.t hd1 ht1
  walk_at "rd"
  by_cases hn:wd∈es.map (·.1)
  ·obtain⟨e,he,rfl⟩:=jH_.mp hn
   have hv:=F6 nd (show (e.1,e.2)∈es from he)
   rw[hv]at hg
   refine⟨_,_,_,hp1,W.cl_j7,W.n_Book_marks,_,Hm _ _,d,rfl,.inr ⟨_,.inl hd1⟩,_,hg,rfl,?_⟩
   by_cases hm:e.2=m
   ·rw[if_neg (by simp[hm])]
    refine⟨_,_,_,hp1,W.cl_j7,W.n_Book_marks,_,Hm _ _,d,rfl,_,DPut.t hd1 ht1 s!"",?_⟩
    rw[FH_ nd (show (e.1,m)∈es from hm ▸ he)]
    refine k hw h0 h1 (fun n hn'=>?_) _ ⟨⟨dx,by rw[Ag hpd];exact hp1⟩,by unfold putE;rw[if_pos hn];exact Ab,by unfold putE;rw[if_pos hn];exact nd⟩ fun b o hb hbd=>by rw[Ag hbd];exact s1 _ _ hb
    have h2:=F6 nd hn'
    rw[hv]at h2
    have h3:=jt_ h2
    simp at h3
    lia
   ·rw[if_pos (by simp[hm])]
    exact⟨by lia,kC hw h0 h1 e.2 he hm H1 s1⟩
  ·rw[Ms hn]at hg
   refine⟨_,_,_,hp1,W.cl_j7,W.n_Book_marks,_,Hm _ _,d,rfl,.inr ⟨_,.inl hd1⟩,_,hg,rfl,?_⟩
   rw[if_neg (by simp)]
   refine⟨_,_,_,hp1,W.cl_j7,W.n_Book_marks,_,Hm _ _,d,rfl,_,DPut.t hd1 ht1 s!"",?_⟩
   rw[UP hn]
   refine k hw h0 h1 (fun n hn'=>absurd (jH_.mpr ⟨_,hn',rfl⟩) hn) _ ⟨⟨dx,by rw[Ag hpd];exact hp1⟩,by unfold putE;rw[if_neg hn];exact Ab,?_⟩ fun b o hb hbd=>by rw[Ag hbd];exact s1 _ _ hb
   unfold putE
   rw[if_neg hn,jn_,qA_]
   refine⟨nd,by simp,fun a ha b hb z=>?_⟩
   rw[qr_,js_]at hb
   exact hn (by have e:a=wd:=z.trans hb;rw[<-e];exact ha)
noncomputable def JI (C:Addr):Sp:=fun vs H Q _=>∃(p d t:Addr) (L:Int) (w:α2) (es:List (α2×Int)),vs=[.ref p,.ref t]/\BookAt C H p d L es/\H t=some (.tup (w.map V.int))/\(w∉es.map (·.1)->Q .non H)/\∀m,(w,m)∈es->Q (.int m) H
theorem Bo_   (F:Fun K "told" "Book.told" EE f fd)(T:Txt mg)
  (W:Own K mg C_j7 C_j9 C_ji C_ja C_j1 C_j4)
  (Z:Exs K mg C_j8 C_j5 C_j6 C_j3 C_j2 C_j0)
  : FnOk P w K mg base CX0 1 f fd ["self","word"] (JI C_j7):=by
 refine F.ok Bg_ (fun vs H Q E h=>?_) (fun cdv A outer s H vs Q E hr h=>?_)
 ·obtain⟨p,d,t,L,wd,es,rfl,_⟩:=h;rfl
 ·obtain⟨p,d,t,L,wd,es,rfl,B,ht,kn,ks⟩:=h
  refine⟨_,(Af (An (Ex_ (IU hr) (AX (pvD 0) rfl) (pvD 1) ⟨by rfl,by rfl,by rfl,by rfl⟩))),?_⟩
  obtain⟨⟨dx,hp⟩,hd,nd⟩:=id B
  have ht1:H t=some (.tup ((wkey wd).map kV)):=by rw[Cj];exact ht
  walk_at "rd"
  refine⟨_,_,_,hp,W.cl_j7,W.n_Book_marks,_,Hm _ _,d,rfl,.inr ⟨_,.inl hd⟩,_,DGet.t hd ht1,?_⟩
  by_cases hm:wd∈es.map (·.1)
  ·obtain⟨e,he,rfl⟩:=jH_.mp hm
   rw[F6 nd (show (e.1,e.2)∈es from he)]
   exact ks e.2 he
  ·rw[Ms hm]
   exact kn hm
noncomputable def Hs (H:Hp)(rs:List V)(es:List (α2×Int)):Prop:=rs.length=es.length/\∀(i:Nat) (tr:α2×Int),es[i]?=some tr->∃t b,rs[i]?=some (V.ref t)/\H t=some (.tup [.ref b,.int tr.2])/\H b=some (.tup (tr.1.map V.int))
theorem Hs.mono    (h:Hs H rs es)(k:∀b xs,H b=some (.tup xs)->H' b=some (.tup xs)):Hs H' rs es:=⟨h.1,fun i tr hi=>by
 obtain⟨t,b,e1,e2,e3⟩:=h.2 i tr hi
 exact⟨t,b,e1,k _ _ e2,k _ _ e3⟩⟩
noncomputable def K5 (K:α3)(C:Addr):Sp:=fun vs H Q _=>∃(p d:Addr) (L:Int) (es:List (α2×Int)),vs=[.ref p]/\BookAt C H p d L es/\∀l rs H',Same H H'->H l=none->H' l=some (.lst rs)->Hs H' rs es->Q (.ref l) H'
theorem YD   (F:Fun K "heard" "Book.heard" Eo f fd)(T:Txt mg)
  (W:Own K mg C_j7 C_j9 C_ji C_ja C_j1 C_j4)
  (Z:Exs K mg C_j8 C_j5 C_j6 C_j3 C_j2 C_j0)
  : FnOk P w K mg base CX0 1 f fd ["self"] (K5 K C_j7):=by
 refine F.ok Yo (fun vs H Q E h=>?_) (fun cdv A outer s H vs Q E hr h=>?_)
 ·obtain⟨p,d,L,es,rfl,_⟩:=h;rfl
 ·obtain⟨p,d,L,es,rfl,B,k⟩:=h
  refine⟨_,(Af (An (Cg (IW rfl) rfl T.list j0_ (Aa (Yj (AX (pvD 0) rfl)) Ae)))),?_⟩
  obtain⟨⟨dx,hp⟩,hd,nd⟩:=id B
  walk_at "rd"
  refine⟨_,_,_,hp,W.cl_j7,W.n_Book_marks,_,Hm _ _,d,rfl,_,.inl hd,fun v hv=>?_⟩
  have sv:=Same.new (o:=Yi v d) hv
  refine⟨d,Ab,_,.inl (sv _ _ hd),fun l rs H2 s2 hl2 hlen hr=>?_⟩
  have s3:=sv.trans (s2.newT (o:=.lst rs) hl2)
  refine k l rs _ s3 (Same.none (sv.trans s2) hl2) Ab ⟨by rw[hlen];unfold ents;rw[jb_],fun i tr hi=>?_⟩
  obtain⟨t,e1,b,e2,e3⟩:=hr i (wkey tr.1) (.int tr.2) (by unfold ents;rw[ji_,hi];rfl)
  rw[Cj]at e3
  exact⟨t,b,e1,(Same.new hl2) _ _ e2,(s2.newT hl2) _ _ e3⟩
noncomputable def Vq (K:α3):Sp:=fun vs H Q _=>∃(L:Nat) (a:Addr) (xs:List V) (acc:α1),vs=[.int L,.ref a]/\L<=6/\SqL K H a xs/\Am K H xs acc/\acc.length<=100/\(∀w∈acc,w.length<=100)/\∀l rs H',Same H H'->H l=none->H' l=some (.lst rs)->Am K H' rs (B7 L acc)->Q (.ref l) H'
theorem FI_   (F:Fun K "rows_of" "rows_of" HS f fd)(T:Txt mg)
  (W:Own K mg C_j7 C_j9 C_ji C_ja C_j1 C_j4)
  (Z:Exs K mg C_j8 C_j5 C_j6 C_j3 C_j2 C_j0)
  : FnOk P w K mg base CX0 1 f fd ["letters","access"] (Vq K):=by
 refine F.ok Kl (fun vs H Q E h=>?_) (fun cdv A outer s H vs Q E hr h=>?_)
 ·obtain⟨L,a,xs,acc,rfl,_⟩:=h;rfl
 ·obtain⟨L,a,xs,acc,rfl,hL,ha,hw,hal,hwl,k⟩:=h
  have hl:=Aq
  refine⟨_,(Ac (Kh (i:=2) Kl.nd rfl (Or.inl rfl) KU)
   (Ac (E6 jz_ rfl (Ge (pvD 1)) (Bl (i:=3) Kl.nd rfl (Or.inl rfl))
   (Af (KS (IU hr) (pvD 2) (pvD 3) Ej rfl)))
   (Ac (E6 jz_ rfl (Ge (pvD 1)) (Bl (i:=3) Kl.nd rfl (Or.inl rfl))
   (Af (E6 jz_ rfl (EU rfl T.range (Aa (pvD 0) Ae)) (Bl (i:=4) Kl.nd rfl (Or.inl rfl))
   (Af (KS (IU hr) (pvD 2) (BS Od (pvD 3) (F3 (Aa (pvD 4) Ae))) Ej rfl)))))
   (Af (An (Cg (IV rfl) rfl T.list j0_ (Aa (pvD 2) Ae))))))),?_⟩
  walk_at "rd"
  intro p hp
  have sp:=Same.new (o:=.dT []) hp
  refine⟨⟨_,sp.seq ha⟩,?_⟩
  obtain⟨Pv,hPv⟩:∃Pv:Nat->St->Hp->Prop,∀i σ' H',Pv i σ' H'↔(∃(kvs:List (List Key×V)) (o:Option V),Same H H'/\H' p=some (.dT kvs)/\Ik ((acc.take i).foldl ins []) kvs/\σ'=[some (.int L),some (.ref a),some (.ref p),o,none]):=⟨_,fun _ _ _=>qG_⟩
  refine forL (xs:=xs) Pv ((hPv _ _ _).mpr ⟨[],none,sp,Ab,by rw[xm_];exact Ik.nil,rfl⟩) (fun i σ' H' _ h'=>by obtain⟨_,_,s',_⟩:=(hPv _ _ _).mp h';exact s'.seq ha) (fun i x σ' H' hx h'=>?_) (fun σ' H' h'=>?_)
  ·obtain⟨kvs,o,s',hd,hk,rfl⟩:=(hPv _ _ _).mp h'
   obtain⟨t,w,hwi,rfl,ht⟩:=hw.at hx
   have hlen:kvs.length<=100:=by
    have:=C4 (acc.take i) []
    rw[hk.len];simp at this ⊢;lia
   walk_at "rd"
   refine⟨_,DPut.t (k:=wkey w) hd (by rw[Cj];exact s' _ _ ht) s!"",(hPv _ _ _).mpr ⟨_,_,s'.over hp,Ab,?_,rfl⟩⟩
   rw[jD_,hwi,xO_,xe_]
   exact hk.put w _
  ·obtain⟨kvs,o,s',hd,hk,rfl⟩:=(hPv _ _ _).mp h'
   rw[hw.1,jO_]at hk
   walk_at "rd"
   refine⟨⟨_,s'.seq ha⟩,?_⟩
   obtain⟨Pw,hPw⟩:∃Pv:Nat->St->Hp->Prop,∀i σ' H',Pv i σ' H'↔(∃(kvs:List (List Key×V)) (o o':Option V),Same H H'/\H' p=some (.dT kvs)/\Ik (((acc.take i).flatMap (extW L)).foldl ins (acc.foldl ins [])) kvs/\σ'=[some (.int L),some (.ref a),some (.ref p),o,o']):=⟨_,fun _ _ _=>qG_⟩
   refine forL (xs:=xs) Pw ((hPw _ _ _).mpr ⟨kvs,_,_,s',hd,by rw[xm_];exact hk,rfl⟩) (fun i σ' H' _ h'=>by obtain⟨_,_,_,s',_⟩:=(hPw _ _ _).mp h';exact s'.seq ha) (fun i x σ2 H2 hx h2=>?_) (fun σ2 H2 h2=>?_)
   ·obtain⟨kvs,o,o',s2,hd,hk,rfl⟩:=(hPw _ _ _).mp h2
    obtain⟨t,w,hwi,rfl,ht⟩:=hw.at hx
    have hwlen:=hwl w (jf_ hwi)
    have ht2:=s2 _ _ ht
    walk_at "rd"
    refine⟨by lia,by lia,?_⟩
    rw[jB_]
    obtain⟨Py,hPy⟩:∃Pv:Nat->St->Hp->Prop,∀j σ' H',Pv j σ' H'↔(∃(kvs:List (List Key×V)) (o':Option V),Same H H'/\H' p=some (.dT kvs)/\Ik (((List.range j).map fun x:Nat=>w++[(x:Int)]).foldl ins (((acc.take i).flatMap (extW L)).foldl ins (acc.foldl ins []))) kvs/\σ'=[some (.int L),some (.ref a),some (.ref p),some (.ref t),o']):=⟨_,fun _ _ _=>qG_⟩
    refine forR Py ((hPy _ _ _).mpr ⟨kvs,_,s2,hd,hk,rfl⟩) (fun j σ3 H3 hj h3=>?_) (fun σ3 H3 h3=>?_)
    ·obtain⟨kvs,o',s3,hd,hk,rfl⟩:=(hPy _ _ _).mp h3
     have ej:(0:Int)+(j:Nat)=(j:Int):=by lia
     rw[ej]
     have ht3:=s3 _ _ ht
     have hlen:kvs.length<=10000:=by
      have h1:=C4 ((List.range j).map fun x:Nat=>w++[(x:Int)]) (((acc.take i).flatMap (extW L)).foldl ins (acc.foldl ins []))
      have h2:=C4 ((acc.take i).flatMap (extW L)) (acc.foldl ins [])
      have h3:=C4 acc []
      have h4:((acc.take i).flatMap (extW L)).length<=600:=by
       rw[q1_]
       have:(acc.take i).map (fun a=>(extW L a).length)=(acc.take i).map (fun _=>L):=jZ_ fun a _=>by simp[extW]
       rw[this,List.map_const',xV_]
       have:(acc.take i).length<=100:=by rw[jx_];lia
       exact qi_ (j8_ this hL) s!""
      rw[hk.len]
      simp at h1 h3
      lia
     walk_at "rd"
     refine⟨by lia,fun p1 hp1=>?_⟩
     refine Kk.ofS (Same.new hp1 _ _ ht3) Ab (by simp;lia) fun q H4 s4 hq=>?_
     have s34:=(Same.new (o:=.tup [V.int (j:Int)]) hp1).trans s4
     have hq':H4 q=some (.tup ((wkey (w++[(j:Int)])).map kV)):=by rw[Cj,hq];simp
     refine⟨_,DPut.t (k:=wkey (w++[(j:Int)])) (s34 _ _ hd) hq' s!"",(hPy _ _ _).mpr ⟨_,_,(s3.trans s34).over hp,Ab,?_,rfl⟩⟩
     rw[qF_,jn_,xe_]
     exact hk.put _ _
    ·obtain⟨kvs,o',s3,hd,hk,rfl⟩:=(hPy _ _ _).mp h3
     refine (hPw _ _ _).mpr ⟨kvs,_,_,s3,hd,?_,rfl⟩
     rw[jD_,hwi,xO_,List.flatMap_append,xe_]
     simpa [extW] using hk
   ·obtain⟨kvs,o,o',s2,hd,hk,rfl⟩:=(hPw _ _ _).mp h2
    rw[hw.1,jO_]at hk
    walk_at "rd"
    refine⟨kvs,.inl hd,fun l rs hln hrl hrs=>?_⟩
    exact k l rs _ (s2.newT hln) (Same.none s2 hln) Ab ((hk.words (K:=K) hrl hrs).mono (TK.new hln))
noncomputable def EM_ (K:α3):Sp:=fun vs H Q _=>∃(L:Nat) (a e:Addr) (xs ys:List V) (acc ends:α1),vs=[.int L,.ref a,.ref e]/\L<=6/\SqL K H a xs/\Am K H xs acc/\acc.length<=100/\(∀w∈acc,w.length<=100)/\SqL K H e ys/\Am K H ys ends/\ends.length<=100/\(∀w∈ends,w.length<=500)/\∀l rs H',Same H H'->H l=none->H' l=some (.lst rs)->Am K H' rs (IA (B7 L acc) ends)->Q (.ref l) H'
theorem Ds_   (hL:L<=6)(hal:acc.length<=100)(hwl:∀w∈acc,w.length<=100):(B7 L acc).length<=700/\∀w∈B7 L acc,w.length<=101:=by
 have mem:∀(l s:α1) (w:α2),w∈l.foldl ins s->w∈s\/w∈l:=by
  intro l
  induction l with
  |nil=>intro s w h;exact .inl h
  |cons v l ih=>
   intro s w h
   rw[xs_]at h
   rcases ih _ _ h with h|h
   ·unfold ins at h
    split at h
    ·exact .inl h
    ·rcases jK_.mp h with h|h
     ·exact .inl h
     ·rw[js_.mp h];exact .inr jG_
   ·exact .inr (ju_ _ h)
 refine⟨?_,fun w hw=>?_⟩
 ·have h2:=C4 (acc.flatMap (extW L)) (acc.foldl ins [])
  have h3:=C4 acc []
  have h4:(acc.flatMap (extW L)).length<=600:=by
   rw[q1_]
   have:acc.map (fun a=>(extW L a).length)=acc.map (fun _=>L):=jZ_ fun a _=>by simp[extW]
   rw[this,List.map_const',xV_]
   exact qi_ (j8_ hal hL) s!""
  unfold B7
  simp at h3
  lia
 ·unfold B7 at hw
  rcases mem _ _ _ hw with h|h
  ·rcases mem _ _ _ h with h|h
   ·simp at h
   ·have:=hwl w h;lia
  ·obtain⟨v,hv,h⟩:=xl_.mp h
   obtain⟨x,_,rfl⟩:=jH_.mp h
   have:=hwl v hv
   simp;lia
theorem IZ_   (F:Fun K "cells" "cells" OL f fd)(T:Txt mg)
  (W:Own K mg C_j7 C_j9 C_ji C_ja C_j1 C_j4)
  (Z:Exs K mg C_j8 C_j5 C_j6 C_j3 C_j2 C_j0)
   (Kq:FnOk P w K mg base CX0 1 GU Kr ["letters","access"] (Vq K)) (HW:Fun K "rows_of" "rows_of" HS GU Kr) (Kt:Binds K Kr ["letters","access"] []) (Ku:mg "rows_of"=some (.ref GU))
  : FnOk P w K mg base CX0 2 f fd ["letters","access","ends"] (EM_ K):=by
 refine F.ok UR (fun vs H Q E h=>?_) (fun cdv A outer s H vs Q E hr h=>?_)
 ·obtain⟨L,a,e,xs,ys,acc,ends,rfl,_⟩:=h;rfl
 ·obtain⟨L,a,e,xs,ys,acc,ends,rfl,hL,ha,hw,hal,hwl,he,hwe,hel,hewl,k⟩:=h
  have hl:=Aq
  obtain⟨hrl,hrw⟩:=Ds_ hL hal hwl
  refine⟨_,(Ac (Kh (i:=3) UR.nd rfl (Or.inl rfl) KU)
   (Ac (E6 jz_ rfl (Ge (Ax Kq (hr.mono (by decide)) rfl Ku HW.kp Kt .nil AM (Aa (pvD 0) (Aa (pvD 1) Ae)))) (Bl (i:=4) UR.nd rfl (Or.inl rfl))
   (Af (E6 jz_ rfl (Ge (pvD 2)) (Bl (i:=5) UR.nd rfl (Or.inl rfl))
   (Af (KS (IU hr) (pvD 3) (BS Od (pvD 4) (pvD 5)) Ej rfl)))))
   (Af (An (Cg (IV rfl) rfl T.list j0_ (Aa (pvD 3) Ae)))))),?_⟩
  walk_at "rd"
  intro p hp
  have sp:=Same.new (o:=.dT []) hp
  refine⟨L,a,xs,acc,rfl,hL,sp.seq ha,hw.mono (TK.of sp),hal,hwl,fun r rs H1 s1 hrn hr hrs=>?_⟩
  generalize B7 L acc=rows at hrl hrw hrs k
  have s01:=sp.trans s1
  have hrH:H r=none:=Same.none sp hrn
  have hp1:=s1 _ _ (Ab (H:=H) (a:=p) (o:=.dT []))
  walk_at "rd"
  refine⟨⟨_,SqL.of hr⟩,?_⟩
  have hpr:r≠p:=(De_ hrn).2
  obtain⟨Pw,hPw⟩:∃Pv:Nat->St->Hp->Prop,∀i σ' H',Pv i σ' H'↔(∃(kvs:List (List Key×V)) (o o':Option V),Same H H'/\H' r=some (.lst rs)/\Am K H' rs rows/\H' p=some (.dT kvs)/\Ik (((rows.take i).flatMap fun r=>ends.map (r ++ ·)).foldl ins []) kvs/\σ'=[some (.int L),some (.ref a),some (.ref e),some (.ref p),o,o']):=⟨_,fun _ _ _=>qG_⟩
  refine forL (xs:=rs) Pw ((hPw _ _ _).mpr ⟨[],_,_,s01,hr,hrs,hp1,by rw[xm_];exact Ik.nil,rfl⟩) (fun i σ' H' _ h'=>by obtain⟨_,_,_,_,q,_⟩:=(hPw _ _ _).mp h';exact SqL.of q) (fun i x σ2 H2 hx h2=>?_) (fun σ2 H2 h2=>?_)
  ·obtain⟨kvs,o,o',s2,hr2,hrs2,hd,hk,rfl⟩:=(hPw _ _ _).mp h2
   obtain⟨t,w,hwi,rfl,ht⟩:=hrs2.at hx
   have hwlen:=hrw w (jf_ hwi)
   walk_at "rd"
   refine⟨⟨_,s2.seq he⟩,?_⟩
   obtain⟨Py,hPy⟩:∃Pv:Nat->St->Hp->Prop,∀j σ' H',Pv j σ' H'↔(∃(kvs:List (List Key×V)) (o':Option V),Same H H'/\H' r=some (.lst rs)/\Am K H' rs rows/\H' t=some (.tup (w.map V.int))/\H' p=some (.dT kvs)/\Ik (((ends.take j).map (w ++ ·)).foldl ins (((rows.take i).flatMap fun r=>ends.map (r ++ ·)).foldl ins [])) kvs/\σ'=[some (.int L),some (.ref a),some (.ref e),some (.ref p),some (.ref t),o']):=⟨_,fun _ _ _=>qG_⟩
   refine forL (xs:=ys) Py ((hPy _ _ _).mpr ⟨kvs,_,s2,hr2,hrs2,ht,hd,by rw[xm_];exact hk,rfl⟩) (fun j σ' H' _ h'=>by obtain⟨_,_,s',_⟩:=(hPy _ _ _).mp h';exact s'.seq he) (fun j y σ3 H3 hy h3=>?_) (fun σ3 H3 h3=>?_)
   ·obtain⟨kvs,o',s3,hr3,hrs3,ht3,hd,hk,rfl⟩:=(hPy _ _ _).mp h3
    obtain⟨u,v,hvi,rfl,hu⟩:=hwe.at hy
    have hvlen:=hewl v (jf_ hvi)
    have hlen:kvs.length<=100000:=by
     have h1:=C4 ((ends.take j).map (w ++ ·)) (((rows.take i).flatMap fun r=>ends.map (r ++ ·)).foldl ins [])
     have h2:=C4 ((rows.take i).flatMap fun r=>ends.map (r ++ ·)) []
     have h4:((rows.take i).flatMap fun r=>ends.map (r ++ ·)).length<=70000:=by
      rw[q1_]
      have:(rows.take i).map (fun a=>(ends.map (a ++ ·)).length)=(rows.take i).map (fun _=>ends.length):=jZ_ fun a _=>by simp
      rw[this,List.map_const',xV_]
      have:(rows.take i).length<=700:=by rw[jx_];lia
      exact qi_ (j8_ this hel) s!""
     rw[hk.len]
     rw[jb_,jx_]at h1
     rw[xd_,Nat.zero_add]at h2
     lia
    walk_at "rd"
    refine Kk.ofS ht3 (s3 _ _ hu) (by simp;lia) fun q H4 s4 hq=>?_
    have hq':H4 q=some (.tup ((wkey (w++v)).map kV)):=by rw[Cj,hq];simp
    have hd4:=s4 _ _ hd
    have kD:TK H4 (upd H4 p (.dT (putK kvs (wkey (w++v)) (V.bl true)))):=TK.dT hd4
    refine⟨_,DPut.t (k:=wkey (w++v)) hd4 hq' s!"",(hPy _ _ _).mpr ⟨_,_,(s3.trans s4).over hp,by rw[Ag hpr];exact s4 _ _ hr3,(hrs3.mono (TK.of s4)).mono kD,kD _ _ (s4 _ _ ht3),Ab,?_,rfl⟩⟩
    rw[jD_,hvi,xO_,jn_,xe_]
    exact hk.put _ _
   ·obtain⟨kvs,o',s3,hr3,hrs3,ht3,hd,hk,rfl⟩:=(hPy _ _ _).mp h3
    rw[hwe.1,jO_]at hk
    refine (hPw _ _ _).mpr ⟨kvs,_,_,s3,hr3,hrs3,hd,?_,rfl⟩
    rw[jD_,hwi,xO_,List.flatMap_append,xe_]
    simpa using hk
  ·obtain⟨kvs,o,o',s2,hr2,hrs2,hd,hk,rfl⟩:=(hPw _ _ _).mp h2
   rw[hrs.1,jO_]at hk
   walk_at "rd"
   refine⟨kvs,.inl hd,fun l rs' hln hrl' hrs'=>?_⟩
   exact k l rs' _ (s2.newT hln) (Same.none s2 hln) Ab ((hk.words (K:=K) hrl' hrs').mono (TK.new hln))
noncomputable def mkO (es:List (α2×Int))(w:α2):Option Int:=(es.find? fun e=>decide (e.1=w)).map (·.2)
noncomputable def oV:Option Int->V
 |some m=>.int m
 |none=>.non
theorem K6:∀{es:List (α2×Int)} {w:α2} {m:Int},(es.map (·.1)).Nodup->(w,m)∈es->mkO es w=some m
 |[],_,_,_,h=>by cases h
 |e::es,w,m,nd,h=>by
  rw[jQ_,qE_]at nd
  unfold mkO
  rw[qS_]
  rcases jA_.mp h with h|h
  ·subst h
   simp
  ·have hne:e.1≠w:=fun z=>nd.1 (by rw[z];exact q0_ (f:=(·.1)) h)
   rw[jY_ hne]
   exact K6 nd.2 h
theorem US {es:List (α2×Int)}{w:α2}(h:w∉es.map (·.1)):mkO es w=none:=by
 unfold mkO
 rw[qs_.mpr fun e he z=>h (by have:=xg_ z;rw[<-this];exact q0_ (f:=(·.1)) he)]
 rfl
noncomputable def XR (K:α3)(C:Addr):Sp:=fun vs H Q _=>∃(p d t a:Addr) (L:Int) (w:α2) (es:List (α2×Int)) (xs:List V) (ends:α1),vs=[.ref p,.ref t,.ref a]/\BookAt C H p d L es/\H t=some (.tup (w.map V.int))/\w.length<=100/\SqL K H a xs/\Am K H xs ends/\ends.length<=100/\(∀e∈ends,e.length<=500)/\∀l H',Same H H'->H' l=some (.lst (ends.map fun e=>oV (mkO es (w++e))))->Q (.ref l) H'
theorem Dt_   (F:Fun K "marks_of" "marks_of" Ho f fd)(T:Txt mg)
  (W:Own K mg C_j7 C_j9 C_ji C_ja C_j1 C_j4)
  (Z:Exs K mg C_j8 C_j5 C_j6 C_j3 C_j2 C_j0)
   (EJ:FnOk P w K mg base CX0 1 B4 Eu ["self","word"] (JI C_j7)) (Fl:Fun K "told" "Book.told" EE B4 Eu) (EK:Binds K Eu ["self","word"] []) (EL:Meth K C_j7 "told" B4)
  : FnOk P w K mg base CX0 2 f fd ["book","word","ends"] (XR K C_j7):=by
 refine F.ok Dp_ (fun vs H Q E h=>?_) (fun cdv A outer s H vs Q E hr h=>?_)
 ·obtain⟨p,d,t,a,L,wd,es,xs,ends,rfl,_⟩:=h;rfl
 ·obtain⟨p,d,t,a,L,wd,es,xs,ends,rfl,B,ht,hwl,ha,hE,hel,hew,k⟩:=h
  have hl:=Aq
  refine⟨_,(Af (An (KW rfl (Ki rfl) (cp:=Th) ⟨⟨rfl,rfl⟩,⟨⟨rfl,rfl⟩,True.intro⟩⟩ (Ge (pvD 2)) (fun _ _ _ _=>(Bl (i:=0) Vh rfl (Or.inl rfl))) (fun _ _ _ _=>Ln) (fun _ _ _ _=>(DU (pvD 1) W.cl_j7 EL EJ (hr.mono (by decide)) EK .nil AM (Aa (BS (PR (K:=K) rfl) (pvD 2) (pvD 0)) Ae)))))),?_⟩
  walk_at "rd"
  obtain⟨⟨dx,hp⟩,hd,nd⟩:=id B
  refine⟨⟨_,ha⟩,Df_ (xs:=xs) (fun i ys σ' H'=>Same H H'/\ys=(ends.take i).map (fun e=>oV (mkO es (wd++e)))/\∃o,σ'=[o,some (.ref p),some (.ref t)]) ⟨Same.refl _,rfl,none,rfl⟩ (by rw[hE.1];lia) (fun i ys σ' H' hi h'=>⟨h'.1.seq ha,by rw[h'.2.1,jb_,jx_];lia⟩) (fun i x ys σ' H' hx h'=>?_) (fun ys σ' H' h' D hD=>?_)⟩
  ·obtain⟨s1,rfl,o,rfl⟩:=h'
   obtain⟨te,e,hei,rfl,hte⟩:=hE.at hx
   have hel':=hew e (jf_ hei)
   have et:ends.take (i+1)=ends.take i++[e]:=by rw[jD_,hei];rfl
   walk_at "rd"
   refine⟨_,_,s1 _ _ hp,HK _ _ (by decide +kernel) (by decide +kernel),Kk.ofS (s1 _ _ ht) (s1 _ _ hte) (by simp;lia) fun q H2 s2 hq=>?_⟩
   have s12:=s1.trans s2
   refine⟨p,d,q,L,wd++e,es,rfl,B.mono s12,by rw[jn_];exact hq,fun hm=>⟨s12,?_,_,rfl⟩,fun m hm=>⟨s12,?_,_,rfl⟩⟩
   ·rw[et,jn_,qr_,US hm];rfl
   ·rw[et,jn_,qr_,K6 nd hm];rfl
  ·obtain⟨s1,rfl,o,rfl⟩:=h'
   rw[hE.1,jO_]
   exact k D _ (s1.newT hD) Ab
noncomputable def IC (H:Hp)(f:α2->List V)(ks:α1)(kvs:List (List Key×V)):Prop:=kvs.length=ks.length/\∀(i:Nat) (w:α2),ks[i]?=some w->∃t,kvs[i]?=some (wkey w,.ref t)/\H t=some (.tup (f w))
theorem IC.nil   : IC H f [] []:=⟨rfl,fun i w h=>by simp at h⟩
theorem IC.mono     (h:IC H f ks kvs)(s:∀t ys,H t=some (.tup ys)->H' t=some (.tup ys)):IC H' f ks kvs:=⟨h.1,fun i w hi=>by
 obtain⟨t,a,b⟩:=h.2 i w hi
 exact⟨t,a,s _ _ b⟩⟩
theorem IC.snoc {H:Hp}{f:α2->List V}{ks:α1}{kvs:List (List Key×V)}{w:α2}{t:Addr}(h:IC H f ks kvs)(ht:H t=some (.tup (f w))):IC H f (ks++[w]) (kvs++[(wkey w,.ref t)]):=by
 refine⟨by simp[h.1],fun i r hi=>?_⟩
 by_cases hl:i<ks.length
 ·rw[jw_ hl]at hi
  rw[jw_ (by rw[h.1];exact hl)]
  exact h.2 i r hi
 ·have:=(jc_.mp hi).1
  rw[jj_,jp_]at this
  have e:i=ks.length:=by lia
  subst e
  rw[jJ_ (jl_ _),Nat.sub_self]at hi
  simp at hi
  subst hi
  exact⟨t,by rw[<-h.1];simp,ht⟩
theorem IC.keys     (h:IC H f ks kvs):Ik ks kvs:=by
 refine xX_ fun i=>?_
 rw[ji_,ji_]
 cases e:ks[i]? with
 |none=>
  have:kvs[i]?=none:=jV_ (by rw[h.1];exact List.getElem?_eq_none_iff.mp e)
  rw[this];rfl
 |some w=>
  obtain⟨t,a,_⟩:=h.2 i w e
  rw[a];rfl
theorem HL_ {s:α1}{w:α2}(h:s.Nodup):(ins s w).Nodup:=by
 unfold ins
 split
 ·exact h
 ·rename_i hw
  rw[qA_]
  refine⟨h,by simp,fun a ha b hb z=>?_⟩
  rw[js_.mp hb]at z
  exact hw (z ▸ ha)
theorem GA:∀{l s:α1},s.Nodup->(l.foldl ins s).Nodup
 |[],_,h=>h
 |w::l,s,h=>by rw[xs_];exact GA (HL_ h)
theorem Du_ (n:Nat)(acc:α1):(B7 n acc).Nodup:=GA (GA xw_)
theorem HM_ (n:Nat):∀(acc:α1),(acc.flatMap (extW n)).length<=acc.length*n
 |[]=>by simp
 |w::acc=>by
  rw[List.flatMap_cons,jj_,jL_,Nat.succ_mul]
  have h1:=HM_ n acc
  have h2:(extW n w).length=n:=by unfold extW;simp
  lia
theorem Bp_ (n:Nat)(acc:α1):(B7 n acc).length<=acc.length+acc.length*n:=by
 unfold B7
 have h1:=C4 (acc.flatMap (extW n)) (acc.foldl ins [])
 have h2:=C4 acc []
 have h3:=HM_ n acc
 simp at h2
 lia
theorem Ja_ {s:α1}{w:α2}{m:Nat}(h:∀v∈s,v.length<=m)(hw:w.length<=m):∀v∈ins s w,v.length<=m:=fun v hv=>by
 unfold ins at hv
 split at hv
 ·exact h v hv
 ·rcases jK_.mp hv with hv|hv
  ·exact h v hv
  ·rw[js_.mp hv];exact hw
theorem OP {m:Nat}:∀{l s:α1},(∀v∈s,v.length<=m)->(∀v∈l,v.length<=m)->∀v∈l.foldl ins s,v.length<=m
 |[],_,h,_=>h
 |w::l,s,h,hl=>by rw[xs_];exact OP (Ja_ h (hl w (by simp))) (fun v hv=>hl v (by simp[hv]))
theorem FJ_   (h:∀w∈acc,w.length<=m):∀w∈B7 n acc,w.length<=m+1:=by
 unfold B7
 refine OP (OP (by simp) fun v hv=>by have:=h v hv;lia) fun v hv=>?_
 obtain⟨u,hu,hv⟩:=xl_.mp hv
 unfold extW at hv
 obtain⟨x,_,rfl⟩:=jH_.mp hv
 have:=h u hu
 rw[jj_,jp_]
 lia
noncomputable def HN_ (K:α3)(C:Addr):Sp:=fun vs H Q _=>∃(p d a b:Addr) (L:Int) (N:Nat) (es:List (α2×Int)) (xs ys:List V) (acc ends:α1),vs=[.ref p,.int N,.ref a,.ref b]/\BookAt C H p d L es/\N<=6/\SqL K H a xs/\Am K H xs acc/\acc.length<=64/\(∀w∈acc,w.length<=64)/\SqL K H b ys/\Am K H ys ends/\ends.length<=50/\(∀e∈ends,e.length<=500)/\∀l kvs H',Same H H'->H l=none->H' l=some (.dT kvs)->IC H' (fun w=>ends.map fun e=>oV (mkO es (w++e))) (B7 N acc) kvs->Q (.ref l) H'
theorem Vr   (F:Fun K "marks_by_row" "marks_by_row" CU f fd)(T:Txt mg)
  (W:Own K mg C_j7 C_j9 C_ji C_ja C_j1 C_j4)
  (Z:Exs K mg C_j8 C_j5 C_j6 C_j3 C_j2 C_j0)
   (Kq:FnOk P w K mg base CX0 1 GU Kr ["letters","access"] (Vq K)) (HW:Fun K "rows_of" "rows_of" HS GU Kr) (Kt:Binds K Kr ["letters","access"] []) (Ku:mg "rows_of"=some (.ref GU))
   (Rr:FnOk P w K mg base CX0 2 II Vs ["book","word","ends"] (XR K C_j7)) (Kv:Fun K "marks_of" "marks_of" Ho II Vs) (Rt:Binds K Vs ["book","word","ends"] []) (Ru:mg "marks_of"=some (.ref II))
  : FnOk P w K mg base CX0 3 f fd ["book","letters","access","ends"] (HN_ K C_j7):=by
 refine F.ok IZ (fun vs H Q E h=>?_) (fun cdv A outer s H vs Q E hr h=>?_)
 ·obtain⟨p,d,a,b,L,N,es,xs,ys,acc,ends,rfl,_⟩:=h;rfl
 ·obtain⟨p,d,a,b,L,N,es,xs,ys,acc,ends,rfl,B,hN,ha,hA,hal,haw,hb,hE,hel,hew,k⟩:=h
  have hl:=Aq
  refine⟨_,(Ac (Kh (i:=4) IZ.nd rfl (Or.inl rfl) KU)
   (Ac (E6 jz_ rfl (Ge (Ax Kq (hr.mono (by decide)) rfl Ku HW.kp Kt .nil AM (Aa (pvD 1) (Aa (pvD 2) Ae)))) (Bl (i:=5) IZ.nd rfl (Or.inl rfl))
   (Af (KS (IU hr) (pvD 4) (pvD 5) (Cg DA rfl T.tuple jE_ (Aa (Ax Rr (hr.mono (by decide)) rfl Ru Kv.kp Rt .nil AM (Aa (pvD 0) (Aa (pvD 5) (Aa (pvD 3) Ae)))) Ae)) rfl)))
   (Af (An (pvD 4))))),?_⟩
  walk_at "rd"
  intro m hm
  have s0:=Same.new hm (o:=.dT [])
  refine⟨N,a,xs,acc,rfl,hN,s0.seq ha,hA.mono (fun _ _ z=>s0 _ _ z),by lia,fun w hw=>by have:=haw w hw;lia,fun r rs H1 s1 hr0 hr1 hW=>⟨r,rfl,⟨_,SqL.of hr1⟩,?_⟩⟩
  have hm1:=s1 _ _ (show upd H m (.dT []) m=some (.dT []) from Ab)
  have s01:=s0.trans s1
  have hrlen:=Bp_ N acc
  have hrw:=FJ_ (n:=N) haw
  have hnd:=Du_ N acc
  have hrl:(B7 N acc).length<=500:=by
   have:acc.length*N<=64*6:=j8_ hal hN
   lia
  have kk:=k
  generalize B7 N acc=rw' at hW hrl hrw hnd kk
  clear k hrlen
  obtain⟨Pv,hPv⟩:∃Pv:Nat->St->Hp->Prop,∀i σ' H',Pv i σ' H'↔(∃(kvs:List (List Key×V)) (o:Option V),Same H H'/\H' r=some (.lst rs)/\TK H1 H'/\H' m=some (.dT kvs)/\IC H' (fun w=>ends.map fun e=>oV (mkO es (w++e))) (rw'.take i) kvs/\σ'=[some (.ref p),some (.int N),some (.ref a),some (.ref b),some (.ref m),o]):=⟨_,fun _ _ _=>qG_⟩
  refine forL (xs:=rs) Pv ((hPv _ _ _).mpr ⟨[],none,s01,hr1,TK.refl _,hm1,by rw[xm_];exact IC.nil,rfl⟩) (fun i σ' H' _ h'=>by obtain⟨_,_,_,h2,_⟩:=(hPv _ _ _).mp h';exact SqL.of h2) (fun i x σ' H' hx h'=>?_) (fun σ' H' h'=>?_)
  ·obtain⟨kvs,o,s',hr',tk,hm',hM,rfl⟩:=(hPv _ _ _).mp h'
   obtain⟨t,w,hwi,rfl,ht⟩:=hW.at hx
   have hi:=(jc_.mp hwi).1
   have hwl:=hrw w (jf_ hwi)
   have et:rw'.take (i+1)=rw'.take i++[w]:=by rw[jD_,hwi];rfl
   have hno:w∉rw'.take i:=fun z=>by
    obtain⟨j,hj,ej⟩:=j6_ z
    rw[jx_]at hj
    rw[zn_]at ej
    have:=(x3_ (h₀:=(show j<rw'.length by lia)) (h₁:=hi) hnd).mp (by rw[ej];exact ((jc_.mp hwi).2).symm)
    lia
   have hv:valV kvs (wkey w)=none:=by
    have:=hM.keys.some_iff w
    rw[jY_ hno]at this
    cases e:valV kvs (wkey w) with
    |none=>rfl
    |some v=>rw[e]at this;cases this
   have hkl:kvs.length<=500:=by rw[hM.1,jx_];lia
   walk_at "rd"
   refine⟨p,d,t,b,L,w,es,ys,ends,rfl,B.mono s',tk _ _ ht,by lia,s'.seq hb,hE.mono (fun _ _ z=>s' _ _ z),by lia,fun e he=>by have:=hew e he;lia,fun l H2 s2 hl2=>⟨l,rfl,_,.inl ⟨SqL.of hl2,fun t2 ht2=>?_⟩⟩⟩
   have s3:=s2.newT ht2 (o:=.tup (ends.map fun e=>oV (mkO es (w++e))))
   refine⟨_,DPut.t (k:=wkey w) (s3 _ _ hm') (by rw[Cj];exact s3 _ _ (tk _ _ ht)) s!"",(hPv _ _ _).mpr ⟨_,_,(s'.trans s3).over hm,?_,fun c zs z=>?_,Ab,?_,rfl⟩⟩
   ·rw[Ag (fun z=>by rw[z,hm']at hr';cases hr')];exact s3 _ _ hr'
   ·rw[Ag (fun e=>by have:=tk _ _ z;rw[e,hm']at this;cases this)];exact s3 _ _ (tk _ _ z)
   ·rw[IC_ _ hv,et]
    exact ((hM.mono fun c zs z=>s3 _ _ z).snoc (t:=t2) Ab).mono fun c zs z=>by
     rw[Ag (fun e=>by rw[e,s3 _ _ hm']at z;cases z)];exact z
  ·obtain⟨kvs,o,s',hr',tk,hm',hM,rfl⟩:=(hPv _ _ _).mp h'
   rw[hW.1,jO_]at hM
   walk_at "rd"
   exact kk m kvs _ s' hm hm' hM
theorem IC.get {H:Hp}{f:α2->List V}{ks:α1}{kvs:List (List Key×V)}(h:IC H f ks kvs){w:α2}(hw:w∈ks):∃t,valV kvs (wkey w)=some (.ref t)/\H t=some (.tup (f w)):=by
 have hs:=h.keys.some_iff w
 rw[jR_ hw]at hs
 unfold valV at hs ⊢
 cases e:kvs.find? (fun kv=>decide (kv.1=wkey w)) with
 |none=>rw[e]at hs;cases hs
 |some kv=>
  have h1:kv.1=wkey w:=by have:=xP_ e;simpa using this
  obtain⟨i,hi,ei⟩:=j6_ (xa_ e)
  have hi':i<ks.length:=by rw[<-h.1];exact hi
  obtain⟨t,a,b⟩:=h.2 i ks[i] (by simp[hi'])
  rw[jh_ hi,ei]at a
  have ea:=jt_ a
  rw[ea]at h1
  have:ks[i]=w:=UO h1
  rw[this]at b
  exact⟨t,by rw[ea];rfl,b⟩
theorem Jb_ {s:α1}{w v:α2}:v∈ins s w↔v∈s\/v=w:=by
 unfold ins
 split
 ·rename_i h
  exact⟨.inl,fun z=>z.elim id fun e=>e ▸ h⟩
 ·simp
theorem K7:∀{l s:α1} {v:α2},v∈l.foldl ins s↔v∈s\/v∈l
 |[],s,v=>by simp
 |w::l,s,v=>by
  rw[xs_,K7,Jb_,jA_,or_assoc]
theorem K8 {n:Nat}{acc:α1}{w:α2}(h:w∈acc):w∈B7 n acc:=by
 unfold B7
 exact K7.mpr (.inl (K7.mpr (.inr h)))
noncomputable def XS (K:α3)(C:Addr):Sp:=fun vs H Q _=>∃(p d a b:Addr) (L:Int) (N:Nat) (es:List (α2×Int)) (xs ys:List V) (acc ends:α1) (g:α2->α2),vs=[.ref p,.int N,.ref a,.ref b]/\BookAt C H p d L es/\N<=6/\SqL K H a xs/\Am K H xs acc/\acc.length<=64/\(∀w∈acc,w.length<=64)/\SqL K H b ys/\Am K H ys ends/\ends.length<=50/\(∀e∈ends,e.length<=500)/\(∀w∈B7 N acc,(ends.map fun e=>oV (mkO es (w++e)))=(g w).map V.int)/\(∀w t H',(B7 N acc).find? (fun w=>decide (g w∉acc.map g))=some w->Same H H'->H' t=some (.tup (w.map V.int))->Q (.ref t) H')/\∀H',(B7 N acc).find? (fun w=>decide (g w∉acc.map g))=none->Same H H'->Q .non H'
theorem Dv_   (F:Fun K "stranger" "stranger" Hq f fd)(T:Txt mg)
  (W:Own K mg C_j7 C_j9 C_ji C_ja C_j1 C_j4)
  (Z:Exs K mg C_j8 C_j5 C_j6 C_j3 C_j2 C_j0)
   (EY:FnOk P w K mg base CX0 3 Cn Fm ["book","letters","access","ends"] (HN_ K C_j7)) (CW:Fun K "marks_by_row" "marks_by_row" CU Cn Fm) (EZ:Binds K Fm ["book","letters","access","ends"] []) (E1:mg "marks_by_row"=some (.ref Cn))
  : FnOk P w K mg base CX0 4 f fd ["book","letters","access","ends"] (XS K C_j7):=by
 refine F.ok K1 (fun vs H Q E h=>?_) (fun cdv A outer s H vs Q E hr h=>?_)
 ·obtain⟨p,d,a,b,L,N,es,xs,ys,acc,ends,g,rfl,_⟩:=h;rfl
 ·obtain⟨p,d,a,b,L,N,es,xs,ys,acc,ends,g,rfl,B,hN,ha,hA,hal,haw,hb,hE,hel,hew,hg,k,kn⟩:=h
  have hl:=Aq
  refine⟨_,(Ac (Kh (i:=4) K1.nd rfl (Or.inr rfl) (Ax EY (hr.mono (by decide)) rfl E1 CW.kp EZ .nil AM (Aa (pvD 0) (Aa (pvD 1) (Aa (pvD 2) (Aa (pvD 3) Ae))))))
   (Ac (Yb (i:=5) K1.nd rfl rfl rfl (Ki rfl) (cp:=Ti) ⟨⟨rfl,rfl⟩,True.intro⟩ (Ge (pvD 2)) (fun _ _ _ _=>(Bl (i:=0) Vi rfl (Or.inl rfl))) (fun _ _ _ _=>Ln) (fun _ _ _ _=>(Mo (IU hr) (pvD 1) (pvD 0) (fun _ _=>rfl))))
   (Ac (E6 jz_ rfl (IO_ (pvD 4)) (Bl (i:=6) K1.nd rfl (Or.inl rfl))
   (Af (B6 (ptT (AE (Va (hu9 hr)) (Mo (IU hr) (pvD 4) (pvD 6) (fun _ _=>rfl)) (pvD 5) rfl))
   (Af (An (pvD 6)))
   AK)))
   (Af (An Gk))))),?_⟩
  walk_at "rd"
  refine⟨p,d,a,b,L,N,es,xs,ys,acc,ends,rfl,B,hN,ha,hA,hal,haw,hb,hE,hel,hew,fun m kvs H1 s1 hm0 hm hM=>?_⟩
  walk_at "rd"
  have kk:=k
  have kkn:=kn
  have hin:∀w∈acc,w∈B7 N acc:=fun w h=>K8 h
  generalize B7 N acc=rw' at hM hg kk kkn hin
  clear k kn
  have ha1:=s1.seq ha
  have hA1:Am K H1 xs acc:=hA.mono (TK.of s1)
  refine⟨⟨_,ha1⟩,Df_ (xs:=xs) (fun i ys σ' H'=>H'=H1/\Am K H1 ys ((acc.take i).map g)/\∃o,σ'=[o,some (.ref m)]) ⟨rfl,Am.nil,none,rfl⟩ (by rw[hA.1];lia) (fun i ys σ' H' hi h'=>⟨by rw[h'.1];exact ha1,by rw[h'.2.1.1,jb_,jx_];lia⟩) (fun i x ys σ' H' hx h'=>?_) (fun ys σ' H' h' D hD=>?_)⟩
  ·obtain⟨rfl,hY,o,rfl⟩:=h'
   obtain⟨t,w,hwi,rfl,ht⟩:=hA1.at hx
   have hwm:=jf_ hwi
   obtain⟨u,hu1,hu2⟩:=hM.get (hin w hwm)
   have et:acc.take (i+1)=acc.take i++[w]:=by rw[jD_,hwi];rfl
   rw[hg w (hin w hwm)]at hu2
   walk_at "rd"
   have hdg:DGet H' m (.ref t) (some (.ref u)):=by rw[<-hu1];exact DGet.t (k:=wkey w) hm (by rw[Cj];exact ht)
   refine⟨_,hdg,?_,_,rfl⟩
   rw[et,jn_]
   exact hY.snoc hu2
  ·obtain⟨rfl,hY,o,rfl⟩:=h'
   rw[hA.1,jO_]at hY
   have sD:=Same.new hD (o:=.lst ys)
   have hm2:=sD _ _ hm
   refine⟨kvs,hm2,fun oo=>?_⟩
   have hDm:D≠m:=fun z=>by rw[z,hm]at hD;cases hD
   obtain⟨HF,hHF⟩:∃HF:Hp,HF=upd (upd H' D (.lst ys)) m (.frz oo (.dT kvs)):=⟨_,rfl⟩
   rw[<-hHF]
   have hmF:HF m=some (.frz oo (.dT kvs)):=by rw[hHF];exact Ab
   have tkF:TK H' HF:=fun c zs z=>by rw[hHF,Ag (fun e=>by rw[e,hm]at z;cases z)];exact sD _ _ z
   have hDF:HF D=some (.lst ys):=by rw[hHF,Ag hDm];exact Ab
   have sF:Same H HF:=by rw[hHF];exact (s1.trans sD).over hm0
   obtain⟨Pv,hPv⟩:∃Pv:Nat->St->Hp->Prop,∀i σ' H',Pv i σ' H'↔(H'=HF/\(∀w∈rw'.take i,g w∈acc.map g)/\∃o,σ'=[some (.ref p),some (.int N),some (.ref a),some (.ref b),some (.ref m),some (.ref D),o]):=⟨_,fun _ _ _=>qG_⟩
   refine forD Pv ((hPv _ _ _).mpr ⟨rfl,(fun w hw=>by rw[xm_]at hw;cases hw),none,rfl⟩) (fun i σ2 H2 _ h2=>by rw[((hPv _ _ _).mp h2).1];exact hmF) (fun i k0 v0 bb σ2 H2 hkv h2 hbb=>?_) (fun σ2 H2 h2=>?_)
   ·obtain⟨rfl,hall,o2,rfl⟩:=(hPv _ _ _).mp h2
    have hi:i<rw'.length:=by rw[<-hM.1];exact (jc_.mp hkv).1
    have hwi:rw'[i]?=some rw'[i]:=by simp[hi]
    obtain⟨t,e1,e2⟩:=hM.2 i _ hwi
    have hwm:=jf_ hwi
    rw[hkv]at e1
    cases e1
    replace e2:H' t=some (.tup ((g rw'[i]).map V.int)):=by rw[<-hg _ hwm];exact e2
    rw[Cj]at hbb
    have et:rw'.take (i+1)=rw'.take i++[rw'[i]]:=by rw[jD_,hwi];rfl
    walk_at "rd"
    obtain⟨t',hv1,hv2⟩:=hM.get hwm
    replace hv2:H' t'=some (.tup ((g rw'[i]).map V.int)):=by rw[<-hg _ hwm];exact hv2
    refine⟨V.ref t',.inr ⟨kvs,wkey rw'[i],bb,.inr ⟨oo,hmF⟩,rfl,by rw[Cj];exact hbb,hv1.symm⟩,t',rfl,_,SqL.of hDF,g rw'[i],acc.map g,hY.mono tkF,SqT.of (tkF _ _ hv2),?_⟩
    by_cases hmem:g rw'[i]∈acc.map g
    ·rw[if_neg (by rw[jR_ hmem];decide)]
     refine (hPv _ _ _).mpr ⟨rfl,fun w hw=>?_,_,rfl⟩
     rw[et]at hw
     rcases jK_.mp hw with hw|hw
     ·exact hall w hw
     ·rw[js_.mp hw];exact hmem
    ·rw[if_pos (by rw[jY_ hmem];rfl)]
     refine kk rw'[i] bb _ (List.find?_eq_some_iff_getElem.mpr ⟨jR_ hmem,i,hi,rfl,fun j hj=>?_⟩) sF hbb
     have:=hall rw'[j] (jW_.mpr ⟨j,by rw[ql_,if_pos hj];simp[show j<rw'.length by lia]⟩)
     rw[jY_ (not_not_intro this)]
     rfl
   ·obtain⟨rfl,hall,o2,rfl⟩:=(hPv _ _ _).mp h2
    rw[hM.1,jO_]at hall
    walk_at "rd"
    refine kkn _ (qs_.mpr fun w hw=>?_) sF
    simp[hall w hw]
noncomputable def eI (g:α2->α2)(acc:α1)(i:Nat):List (α2×Int):=(List.range i).map fun j=>(g (acc.getD j []),(j:Int))
theorem Lu_ (g:α2->α2)(acc:α1)(i:Nat):eI g acc (i+1)=eI g acc i++[(g (acc.getD i []),(i:Int))]:=by unfold eI;rw[qF_,jn_];rfl
theorem HO_ (g:α2->α2)(acc:α1)  (hi:i<=acc.length):(eI g acc i).map (·.1)=(acc.map g).take i:=by
 refine xX_ fun j=>?_
 unfold eI
 rw[q5_,ji_,ql_,ji_]
 by_cases hj:j<i
 ·rw[if_pos hj,qy_ hj]
  have hj':j<acc.length:=by lia
  simp[jq_,hj']
 ·rw[if_neg hj,jV_ (by simp;lia)];rfl
theorem Nc_    (hx:x∈acc.map g):(x,(((acc.map g).idxOf x:Nat):Int))∈eI g acc acc.length:=by
 unfold eI
 have hlt:(acc.map g).idxOf x<(acc.map g).length:=List.idxOf_lt_length_of_mem hx
 rw[jb_]at hlt
 refine jH_.mpr ⟨(acc.map g).idxOf x,qt_.mpr hlt,?_⟩
 have h1:(acc.map g)[(acc.map g).idxOf x]'(by rw[jb_];exact hlt)=x:=zk_ _
 rw[x6_]at h1
 rw[jq_,jh_ hlt]
 show (g _,_)=_
 rw[Option.getD_some,h1]
theorem Dw_ {n:Nat}{acc:α1}{w:α2}{x:Nat}(h:w∈acc)(hx:x<n):w++[(x:Int)]∈B7 n acc:=by
 unfold B7
 refine K7.mpr (.inr (xl_.mpr ⟨w,h,?_⟩))
 unfold extW
 exact jH_.mpr ⟨x,qt_.mpr hx,rfl⟩
theorem Bq_ {l:α1}{i:Nat}(hi:i<l.length)(nd:l.Nodup):l[i]∉l.take i:=fun z=>by
 obtain⟨j,hj,ej⟩:=j6_ z
 rw[jx_]at hj
 rw[zn_]at ej
 have:=(x3_ (h₀:=(show j<l.length by lia)) (h₁:=hi) nd).mp ej
 lia
noncomputable def EN_ (K:α3):Sp:=fun vs H Q _=>∃(N:Nat) (a m:Addr) (xs:List V) (acc:α1) (kvs:List (List Key×V)) (g:α2->α2),vs=[.int N,.ref a,.ref m]/\N<=6/\SqL K H a xs/\Am K H xs acc/\acc.length<=64/\(∀w∈acc,w.length<=64)/\H m=some (.dT kvs)/\IC H (fun w=>(g w).map V.int) (B7 N acc) kvs/\(acc.map g).Nodup/\(∀w∈acc,∀x:Nat,x<N->g (w++[(x:Int)])∈acc.map g)/\∀t ys H',Same H H'->H' t=some (.tup ys)->Am K H' ys (acc.map fun w=>(List.range N).map fun x:Nat=>(((acc.map g).idxOf (g (w++[(x:Int)])):Nat):Int))->Q (.ref t) H'
theorem TH   (F:Fun K "ways_by_marks" "ways_by_marks" De f fd)(T:Txt mg)
  (W:Own K mg C_j7 C_j9 C_ji C_ja C_j1 C_j4)
  (Z:Exs K mg C_j8 C_j5 C_j6 C_j3 C_j2 C_j0)
  : FnOk P w K mg base CX0 1 f fd ["letters","access","marks"] (EN_ K):=by
 refine F.ok Dn (fun vs H Q E h=>?_) (fun cdv A outer s H vs Q E hr h=>?_)
 ·obtain⟨N,a,m,xs,acc,kvs,g,rfl,_⟩:=h;rfl
 ·obtain⟨N,a,m,xs,acc,kvs,g,rfl,hN,ha,hA,hal,haw,hm,hM,hnd,hin,k⟩:=h
  have hl:=Aq
  refine⟨_,(Ac (Kh (i:=3) Dn.nd rfl (Or.inr rfl) KU)
   (Ac (E6 jz_ rfl (IM_ rfl T.enumerate (pvD 1)) (Eq_ rfl (JC (Bl (i:=4) Dn.nd rfl (Or.inl rfl)) (JC (Bl (i:=5) Dn.nd rfl (Or.inr rfl)) X1)))
   (Af (KS (IU hr) (pvD 3) (Mo (IU hr) (pvD 2) (pvD 5) (fun _ _=>rfl)) (pvD 4) rfl)))
   (Ac (AW (i:=6) Dn.nd (JD Ae))
   (Ac (E6 jz_ rfl (Ge (pvD 1)) (Bl (i:=5) Dn.nd rfl (Or.inr rfl))
   (Af (Bb (U3 jI_ j2_ j3_ GO (pvD 6) (Aa (Cg DA rfl T.tuple jE_ (Aa (KW rfl (Ki rfl) (cp:=Km) ⟨⟨rfl,rfl⟩,⟨⟨rfl,rfl⟩,⟨⟨rfl,rfl⟩,True.intro⟩⟩⟩ (EU rfl T.range (Aa (pvD 0) Ae)) (fun _ _ _ _=>(Bl (i:=0) Ol rfl (Or.inl rfl))) (fun _ _ _ _=>Ln) (fun _ _ _ _=>(Ex_ (IU hr) (pvD 1) (Mo (IU hr) (pvD 2) (BS (PR (K:=K) rfl) (pvD 3) (F3 (Aa (pvD 0) Ae))) (fun _ _=>rfl)) ⟨by rfl,by rfl,by rfl,by rfl⟩))) Ae)) Ae)))))
   (Af (An (Cg DA rfl T.tuple jE_ (Aa (pvD 6) Ae)))))))),?_⟩
  walk_at "rd"
  intro p hp
  have s0:=Same.new hp (o:=.dT [])
  have hkn:∀i,i<=acc.length->((eI g acc i).map (·.1)).Nodup:=fun i hi=>by rw[HO_ g acc hi];exact hnd.sublist (List.take_sublist _ _)
  refine⟨_,s0.seq ha,?_⟩
  obtain⟨Pv,hPv⟩:∃Pv:Nat->St->Hp->Prop,∀i σ' H',Pv i σ' H'↔(∃o1 o2:Option V,Same H H'/\H' p=some (.dT (ents (eI g acc i)))/\σ'=[some (.int N),some (.ref a),some (.ref m),some (.ref p),o1,o2,none]):=⟨_,fun _ _ _=>qG_⟩
  have hpm:p≠m:=fun z=>by rw[z,hm]at hp;cases hp
  refine forM Pv ((hPv _ _ _).mpr ⟨none,none,s0,Ab,rfl⟩) (fun i σ' H' _ h'=>by obtain⟨_,_,s',_⟩:=(hPv _ _ _).mp h';exact s'.seq ha) (fun i v σ' H' t hv h' ht=>?_) (fun σ' H' h'=>?_)
  ·obtain⟨o1,o2,s',hp',rfl⟩:=(hPv _ _ _).mp h'
   obtain⟨tw,w,hwi,rfl,htw⟩:=hA.at hv
   have hwm:=jf_ hwi
   have hi:=(jc_.mp hwi).1
   have sT:=s'.newT ht (o:=.tup [.int i,.ref tw])
   obtain⟨u,hu1,hu2⟩:=hM.get (K8 (n:=N) hwm)
   have hgd:acc.getD i []=w:=by rw[jq_,hwi];rfl
   have hno:g w∉(eI g acc i).map (·.1):=by
    rw[HO_ g acc s!""]
    have:=Bq_ (l:=acc.map g) (i:=i) (by rw[jb_];exact hi) hnd
    rw[x6_,(jc_.mp hwi).2]at this
    exact this
   walk_at "rd"
   have hdg:DGet (upd H' t (.tup [V.int i,V.ref tw])) m (.ref tw) (some (.ref u)):=by rw[<-hu1];exact DGet.t (k:=wkey w) (sT _ _ hm) (by rw[Cj];exact sT _ _ htw)
   have hle:(ents (eI g acc i)).length=i:=by unfold ents eI;rw[jb_,jb_,j4_]
   refine⟨_,SqT.of Ab,rfl,V.int i,_,rfl,V.ref tw,_,rfl,rfl,V.ref u,hdg,_,DPut.t (k:=wkey (g w)) (Same.new ht _ _ hp') (by rw[Cj];exact sT _ _ hu2) s!"",(hPv _ _ _).mpr ⟨_,_,sT.over hp,by rw[Ab,UP hno,Lu_,hgd],rfl⟩⟩
  ·obtain⟨o1,o2,s',hp',rfl⟩:=(hPv _ _ _).mp h'
   rw[hA.1]at hp'
   walk_at "rd"
   refine⟨by lia,fun q hq=>⟨⟨_,(s'.newT hq).seq ha⟩,?_⟩⟩
   have sq:=s'.newT hq (o:=.lst [])
   have hqH:H q=none:=s'.none hq
   have hpq:p≠q:=fun z=>by rw[z,hq]at hp';cases hp'
   obtain⟨Pw,hPw⟩:∃Pv:Nat->St->Hp->Prop,∀i σ2 H2,Pv i σ2 H2↔(∃(ys:List V) (o:Option V),Same H H2/\H2 p=some (.dT (ents (eI g acc acc.length)))/\H2 q=some (.lst ys)/\Am K H2 ys ((acc.take i).map fun w=>(List.range N).map fun x:Nat=>(((acc.map g).idxOf (g (w++[(x:Int)])):Nat):Int))/\σ2=[some (.int N),some (.ref a),some (.ref m),some (.ref p),o1,o,some (.ref q)]):=⟨_,fun _ _ _=>qG_⟩
   refine forL (xs:=xs) Pw ((hPw _ _ _).mpr ⟨[],_,sq,Same.new hq _ _ hp',Ab,Am.nil,rfl⟩) (fun i σ2 H2 _ h2=>by obtain⟨_,_,s2,_⟩:=(hPw _ _ _).mp h2;exact s2.seq ha) (fun i x σ2 H2 hx h2=>?_) (fun σ2 H2 h2=>?_)
   ·obtain⟨ys,o,s2,hp2,hq2,hY,rfl⟩:=(hPw _ _ _).mp h2
    obtain⟨tw,w,hwi,rfl,htw⟩:=hA.at hx
    have hwm:=jf_ hwi
    have hwl:=haw w hwm
    have et:acc.take (i+1)=acc.take i++[w]:=by rw[jD_,hwi];rfl
    have hyl:ys.length<=64:=by rw[hY.1,jb_,jx_];lia
    walk_at "rd"
    refine⟨.inl ⟨rfl,_,SqL.of hq2⟩,by lia,by lia,?_⟩
    rw[jB_]
    obtain⟨Pc,hPc⟩:∃Pc:Nat->List V->St->Hp->Prop,∀j us σ4 H4,Pc j us σ4 H4↔(Same H2 H4/\us=((List.range j).map fun x:Nat=>(((acc.map g).idxOf (g (w++[(x:Int)])):Nat):Int)).map V.int/\∃o,σ4=[o,some (.ref p),some (.ref m),some (.ref tw)]):=⟨_,fun _ _ _ _=>qG_⟩
    refine II_ Pc ((hPc _ _ _ _).mpr ⟨Same.refl _,rfl,none,rfl⟩) s!"" (fun j us σ4 H4 _ h4=>?_) (fun j us σ4 H4 hj h4=>?_) (fun us σ4 H4 h4 D hD=>?_)
    ·obtain⟨_,rfl,_⟩:=(hPc _ _ _ _).mp h4
     rw[jb_,jb_,j4_];lia
    ·obtain⟨s4,rfl,o4,rfl⟩:=(hPc _ _ _ _).mp h4
     rw[q6_]
     have s24:=s2.trans s4
     obtain⟨u,hu1,hu2⟩:=hM.get (Dw_ (n:=N) hwm hj)
     have hmem:=Nc_ (hin w hwm j hj)
     walk_at "rd"
     refine⟨.inr ⟨_,.inl (s4 _ _ hp2)⟩,by lia,fun p1 hp1=>Kk.ofS (Same.new hp1 _ _ (s24 _ _ htw)) Ab (by simp;lia) fun q3 H5 s5 hq5=>?_⟩
     have s45:=(Same.new hp1 (o:=.tup [V.int j])).trans s5
     have s25:=s24.trans s45
     have hdg:DGet H5 m (.ref q3) (some (.ref u)):=by rw[<-hu1];exact DGet.t (k:=wkey (w++[(j:Int)])) (s25 _ _ hm) (by rw[Cj,jn_];exact hq5)
     refine⟨_,hdg,_,DGet.t (k:=wkey (g (w++[(j:Int)]))) ((s4.trans s45) _ _ hp2) (by rw[Cj];exact s25 _ _ hu2),(hPc _ _ _ _).mpr ⟨s4.trans s45,?_,_,rfl⟩⟩
     rw[F6 (hkn _ (jl_ _)) hmem,qF_,jn_,jn_]
     rfl
    ·obtain⟨s4,rfl,o4,rfl⟩:=(hPc _ _ _ _).mp h4
     refine⟨D,rfl,_,.inl ⟨SqL.of Ab,fun t ht=>?_⟩⟩
     have sDt:=(s4.newT hD).newT ht (o:=.tup (((List.range N).map fun x:Nat=>(((acc.map g).idxOf (g (w++[(x:Int)])):Nat):Int)).map V.int))
     have hq5:=sDt _ _ hq2
     refine⟨_,hq5,by lia,(hPw _ _ _).mpr ⟨ys++[.ref t],_,(s2.trans sDt).over hqH,by rw[Ag hpq];exact sDt _ _ hp2,Ab,?_,rfl⟩⟩
     rw[et,jn_]
     exact ((hY.mono (TK.of sDt)).snoc Ab).mono (TK.lst hq5)
   ·obtain⟨ys,o,s2,hp2,hq2,hY,rfl⟩:=(hPw _ _ _).mp h2
    rw[hA.1,jO_]at hY
    walk_at "rd"
    exact⟨_,.inl ⟨SqL.of hq2,fun t ht=>k t ys _ (s2.newT ht) Ab (hY.mono (TK.of (Same.new ht)))⟩⟩
theorem YE (l:α1):∀(s:α1) (v:α2),v∈l.foldl ins s↔v∈s\/v∈l:=by
 induction l with
 |nil=>intro s v;simp
 |cons a l ih=>
  intro s v
  rw[xs_,ih]
  unfold ins
  split
  ·rename_i h
   constructor
   ·rintro (h1|h1)
    ·exact .inl h1
    ·exact .inr (ju_ _ h1)
   ·rintro (h1|h1)
    ·exact .inl h1
    ·rcases jA_.mp h1 with rfl|h1
     ·exact .inl h
     ·exact .inr h1
  ·constructor
   ·rintro (h1|h1)
    ·rcases jK_.mp h1 with h1|h1
     ·exact .inl h1
     ·rw[js_.mp h1];exact .inr (jG_ ..)
    ·exact .inr (ju_ _ h1)
   ·rintro (h1|h1)
    ·exact .inl (j9_ _ h1)
    ·rcases jA_.mp h1 with rfl|h1
     ·exact .inl (by simp)
     ·exact .inr h1
theorem AV    : v∈B7 L W↔v∈W \/ ∃a∈W,∃x:Nat,x<L/\v=a++[(x:Int)]:=by
 unfold B7
 rw[YE,YE]
 simp only[q3_,false_or,xl_,extW,jH_,qt_]
 constructor
 ·rintro (h|⟨a,ha,x,hx,rfl⟩)
  ·exact .inl h
  ·exact .inr ⟨a,ha,x,hx,rfl⟩
 ·rintro (h|⟨a,ha,x,hx,rfl⟩)
  ·exact .inl h
  ·exact .inr ⟨a,ha,x,hx,rfl⟩
theorem B5   : c∈IA R E ↔ ∃r∈R,∃e∈E,c=r++e:=by
 unfold IA
 rw[YE]
 simp only[q3_,false_or,xl_,jH_]
 constructor
 ·rintro⟨r,hr,e,he,rfl⟩;exact⟨r,hr,e,he,rfl⟩
 ·rintro⟨r,hr,e,he,rfl⟩;exact⟨r,hr,e,he,rfl⟩
noncomputable abbrev Bk:=List (α2×Int)
noncomputable def Grow (es es':Bk):Prop:=∀v m,mkO es v=some m->mkO es' v=some m
theorem Grow.refl (es:Bk):Grow es es:=fun _ _ h=>h
theorem Grow.snoc (es:Bk)(v:α2)(m:Int):Grow es (es++[(v,m)]):=fun u n h=>by
 unfold mkO at h ⊢
 rw[List.find?_append]
 cases hf:es.find? (fun e=>decide (e.1=u)) with
 |none=>rw[hf]at h;cases h
 |some e=>rw[hf]at h;exact h
theorem YF    (h:mkO es v=some m):(v,m)∈es:=by
 unfold mkO at h
 cases hf:es.find? (fun e=>decide (e.1=v)) with
 |none=>rw[hf]at h;cases h
 |some e=>
  rw[hf]at h
  have h1:=xa_ hf
  have h2:=xP_ hf
  simp at h h2
  subst h h2
  exact h1
theorem Vt   : v∈es.map (·.1) ↔ ∃m,mkO es v=some m:=by
 constructor
 ·intro h
  cases hm:mkO es v with
  |some m=>exact⟨m,rfl⟩
  |none=>
   obtain⟨e,he,rfl⟩:=jH_.mp h
   unfold mkO at hm
   rw[xW_,qs_]at hm
   exact absurd (jR_ rfl) (hm e he)
 ·rintro⟨m,hm⟩
  exact jH_.mpr ⟨_,YF hm,rfl⟩
noncomputable def TJ (E:α1)(es:Bk)(v u:α2):Prop:=∃e∈E,∃m n,mkO es (v++e)=some m/\mkO es (u++e)=some n/\m≠n
theorem TJ.symm    (h:TJ E es v u):TJ E es u v:=by
 obtain⟨e,he,m,n,a,b,c⟩:=h
 exact⟨e,he,n,m,b,a,qj_ c⟩
theorem TJ.mono    (h:TJ E es v u)(hE:∀e∈E,e∈E')(g:Grow es es'):TJ E' es' v u:=by
 obtain⟨e,he,m,n,a,b,c⟩:=h
 exact⟨e,hE e he,m,n,g _ _ a,g _ _ b,c⟩
noncomputable def Pend (L:Nat)(W E:α1)(es:Bk):Prop:=∃a∈W,∃x:Nat,x<L/\∀u∈W,TJ E es (a++[(x:Int)]) u
theorem Pend.mono    (h:Pend L W E es)(g:Grow es es'):Pend L W E es':=by
 obtain⟨a,ha,x,hx,k⟩:=h
 exact⟨a,ha,x,hx,fun u hu=>(k u hu).mono (fun _ z=>z) g⟩
structure Tb (L most:Nat)(W E:α1)(es:Bk):Prop where
 l1:1<=L
 l6:L<=6
 m12:most<=12
 w0:W[0]?=some []
 wW:∀v∈W,isW L v=true/\v.length<W.length
 wn:W.length<=most
 e0:E.take L=(List.range L).map fun x:Nat=>[(x:Int)]
 eW:∀e∈E,isW L e=true/\e ≠ []
 nd:(es.map (·.1)).Nodup
 bW:∀p∈es,isW L p.1=true/\0<=p.2/\p.2<=1000000000
 dist:∀(i j:Nat) (v u:α2),W[i]?=some v->W[j]?=some u->i≠j->TJ E es v u
 jj:E.length+1<=W.length+L\/(E.length=W.length+L/\Pend L W E es)
theorem Tb.en    (t:Tb L most W E es):E.length<=most+L:=by
 have:=t.wn
 rcases t.jj with h|h
 ·lia
 ·lia
theorem Tb.put {L most:Nat}{W E:α1}{es:Bk}(t:Tb L most W E es){v:α2}{m:Int}(hn:v∉es.map (·.1))(hv:isW L v=true)(h0:0<=m)(h9:m<=1000000000):Tb L most W E (es++[(v,m)]) where
 l1:=t.l1
 l6:=t.l6
 m12:=t.m12
 w0:=t.w0
 wW:=t.wW
 wn:=t.wn
 e0:=t.e0
 eW:=t.eW
 nd:=by
  rw[jn_,qA_]
  exact⟨t.nd,by simp,fun a ha b hb=>by rw[js_.mp hb];intro z;subst z;exact hn ha⟩
 bW:=fun p hp=>by
  rcases jK_.mp hp with hp|hp
  ·exact t.bW p hp
  ·rw[js_.mp hp];exact⟨hv,h0,h9⟩
 dist:=fun i j v' u h1 h2 h3=>(t.dist i j v' u h1 h2 h3).mono (fun _ z=>z) (Grow.snoc es v m)
 jj:=by
  rcases t.jj with h|h
  ·exact .inl h
  ·exact .inr ⟨h.1,h.2.mono (Grow.snoc es v m)⟩
noncomputable def Full (L:Nat)(W E:α1)(es:Bk):Prop:=∀c∈IA (B7 L W) E,∃m,mkO es c=some m
noncomputable def gOf (E:α1)(es:Bk)(v:α2):α2:=E.map fun e=>(mkO es (v++e)).getD 0
theorem HP_    (f:Full L W E es)  (hv:v∈B7 L W):(E.map fun e=>oV (mkO es (v++e)))=(gOf E es v).map V.int:=by
 unfold gOf
 rw[q5_]
 refine jZ_ fun e he=>?_
 obtain⟨m,hm⟩:=f (v++e) (B5.mpr ⟨v,hv,e,he,rfl⟩)
 show oV (mkO es (v++e))=V.int ((mkO es (v++e)).getD 0)
 rw[hm];rfl
theorem MO    (f:Full L W E es)  (hv:v∈B7 L W)(hu:u∈B7 L W):gOf E es v≠gOf E es u↔TJ E es v u:=by
 constructor
 ·intro h
  refine xz_ fun hno=>h ?_
  unfold gOf
  refine jZ_ fun e he=>?_
  obtain⟨m,hm⟩:=f (v++e) (B5.mpr ⟨v,hv,e,he,rfl⟩)
  obtain⟨n,hn⟩:=f (u++e) (B5.mpr ⟨u,hu,e,he,rfl⟩)
  rw[hm,hn]
  exact xz_ fun hne=>hno ⟨e,he,m,n,hm,hn,hne⟩
 ·rintro⟨e,he,m,n,hm,hn,hne⟩ heq
  unfold gOf at heq
  have:=List.map_inj_left.mp heq e he
  rw[hm,hn]at this
  exact hne this
theorem Tb.nodup    (t:Tb L most W E es)(f:Full L W E es):(W.map (gOf E es)).Nodup:=by
 rw[qe_,zo_,xA_]
 intro i j hi hj hij
 exact (MO f (AV.mpr (.inl (qw_ hi))) (AV.mpr (.inl (qw_ hj)))).mpr (t.dist i j _ _ (jh_ hi) (jh_ hj) s!"")
theorem Tb.more    (t:Tb L most W E es)(f:Full L W E es)  (h:(B7 L W).find? (fun v=>decide (gOf E es v∉W.map (gOf E es)))=some v):(v∈B7 L W/\v∉W/\isW L v=true/\v.length<=W.length)/\(W.length<most->Tb L most (W++[v]) E es):=by
 have h1:=xa_ h
 have h2:=xP_ h
 have h2:gOf E es v∉W.map (gOf E es):=xg_ h2
 have hnW:v∉W:=fun z=>h2 (q0_ z)
 have hap:∀u∈W,TJ E es v u:=fun u hu=>(MO f h1 (AV.mpr (.inl hu))).mp fun z=>h2 (by rw[z];exact q0_ hu)
 have hv:isW L v=true/\v.length<=W.length:=by
  rcases AV.mp h1 with h|⟨a,ha,x,hx,rfl⟩
  ·exact absurd h hnW
  ·have:=t.wW a ha
   exact⟨CG.mpr fun y hy=>by
    rcases jK_.mp hy with hy|hy
    ·exact CG.mp this.1 y hy
    ·rw[js_.mp hy];lia,by rw[jj_,jp_];lia⟩
 refine⟨⟨h1,hnW,hv.1,hv.2⟩,fun hm=>⟨t.l1,t.l6,t.m12,?_,fun u hu=>?_,by simp;lia,t.e0,t.eW,t.nd,t.bW,fun i j a b hi hj hij=>?_,?_⟩⟩
 ·have:=(jc_.mp t.w0).1
  rw[jw_ this];exact t.w0
 ·rw[jj_,jp_]
  rcases jK_.mp hu with hu|hu
  ·have:=t.wW u hu;exact⟨this.1,by lia⟩
  ·rw[js_.mp hu];exact⟨hv.1,by lia⟩
 ·have hi':=(jc_.mp hi).1
  have hj':=(jc_.mp hj).1
  rw[jj_,jp_]at hi' hj'
  by_cases hil:i<W.length
  ·rw[jw_ hil]at hi
   by_cases hjl:j<W.length
   ·rw[jw_ hjl]at hj
    exact t.dist i j a b hi hj hij
   ·rw[jJ_ s!"",show j-W.length=0 by lia]at hj
    cases hj
    exact (hap a (jf_ hi)).symm
  ·rw[jJ_ s!"",show i-W.length=0 by lia]at hi
   cases hi
   rw[jw_ s!""]at hj
   exact hap b (jf_ hj)
 ·rw[jj_,jp_]
  rcases t.jj with h|h
  ·exact .inl s!""
  ·exact .inl s!""
theorem Tb.none    (t:Tb L most W E es)(f:Full L W E es)(h:(B7 L W).find? (fun v=>decide (gOf E es v∉W.map (gOf E es)))=none):¬ Pend L W E es/\(∀a∈W,∀x:Nat,x<L->gOf E es (a++[(x:Int)])∈W.map (gOf E es)):=by
 have hall:∀v∈B7 L W,gOf E es v∈W.map (gOf E es):=fun v hv=>by
  have:=qs_.mp h v hv
  simpa using this
 refine⟨fun ⟨a,ha,x,hx,k⟩=>?_,fun a ha x hx=>hall _ (AV.mpr (.inr ⟨a,ha,x,hx,rfl⟩))⟩
 have hr:=AV.mpr (.inr ⟨a,ha,x,hx,rfl⟩)
 obtain⟨u,hu,e⟩:=jH_.mp (hall _ hr)
 exact (MO f hr (AV.mpr (.inl hu))).mpr (k u hu) e.symm
theorem Tb.end    (t:Tb L most W E es)  (hx:x<L):E[x]?=some [(x:Int)]:=by
 have h:=qU_ (fun l=>l[x]?) t.e0
 rw[ql_,if_pos hx,ji_,qy_ hx]at h
 exact h
theorem Tb.endl    (t:Tb L most W E es):L<=E.length:=by
 have h:=qU_ List.length t.e0
 rw[jx_,jb_,j4_]at h
 lia
structure GuessOk (L:Nat)(W E:α1)(es:Bk)(marks ways:α1):Prop where
 ml:marks.length=W.length
 sl:∀row∈marks,row.length=L
 m:∀(i:Nat) (v:α2) (x:Nat),W[i]?=some v->x<L->∃row y,marks[i]?=some row/\row[x]?=some y/\mkO es (v++[(x:Int)])=some y
 wl:ways.length=W.length
 rl:∀row∈ways,row.length=L
 go:∀(i:Nat) (v:α2) (x:Nat),W[i]?=some v->x<L->∃(row:α2) (k:Nat) (u:α2),ways[i]?=some row/\row[x]?=some (k:Int)/\W[k]?=some u/\∀e∈E,∃y,mkO es (v++[(x:Int)]++e)=some y/\mkO es (u++e)=some y
theorem GuessOk.mono      (g:GuessOk L W E es marks ways)(h:Grow es es'):GuessOk L W E es' marks ways:=by
 refine⟨g.ml,g.sl,fun i v x hv hx=>?_,g.wl,g.rl,fun i v x hv hx=>?_⟩
 ·obtain⟨row,y,a,b,c⟩:=g.m i v x hv hx
  exact⟨row,y,a,b,h _ _ c⟩
 ·obtain⟨row,k,u,a,b,c,d⟩:=g.go i v x hv hx
  refine⟨row,k,u,a,b,c,fun e he=>?_⟩
  obtain⟨y,y1,y2⟩:=d e he
  exact⟨y,h _ _ y1,h _ _ y2⟩
theorem Nd_ {α:Type}[BEq α][LawfulBEq α]{l:List α}{a:α}(h:a∈l):l[l.idxOf a]?=some a/\l.idxOf a<l.length:=by
 have h1:=List.idxOf_lt_length_iff.mpr h
 exact⟨by rw[jh_ h1,zk_],h1⟩
theorem Tb.guess    (t:Tb L most W E es)(f:Full L W E es)(h:∀a∈W,∀x:Nat,x<L->gOf E es (a++[(x:Int)])∈W.map (gOf E es)):GuessOk L W E es (W.map fun v=>(gOf E es v).take L) (W.map fun v=>(List.range L).map fun x:Nat=>(((W.map (gOf E es)).idxOf (gOf E es (v++[(x:Int)])):Nat):Int)):=by
 refine⟨by rw[jb_],fun row hr=>?_,fun i v x hv hx=>?_,by rw[jb_],fun row hr=>?_,fun i v x hv hx=>?_⟩
 ·obtain⟨v,_,rfl⟩:=jH_.mp hr
  have:=t.endl
  unfold gOf
  rw[jx_,jb_];lia
 ·have he:=t.end hx
  obtain⟨m,hm⟩:=f (v++[(x:Int)]) (B5.mpr ⟨v,AV.mpr (.inl (jf_ hv)),[(x:Int)],jf_ he,rfl⟩)
  refine⟨_,m,by rw[ji_,hv];rfl,?_,hm⟩
  rw[ql_,if_pos hx]
  unfold gOf
  rw[ji_,he]
  show some ((mkO es (v++[(x:Int)])).getD 0)=_
  rw[hm];rfl
 ·obtain⟨v,_,rfl⟩:=jH_.mp hr
  rw[jb_,j4_]
 ·have hvW:=jf_ hv
  have hg:=h v hvW x hx
  obtain⟨q1,q2⟩:=Nd_ hg
  obtain⟨k,hk⟩:∃k,k=(W.map (gOf E es)).idxOf (gOf E es (v++[(x:Int)])):=⟨_,rfl⟩
  rw[<-hk]at q1 q2
  rw[jb_]at q2
  rw[ji_,jh_ q2]at q1
  have q3:gOf E es W[k]=gOf E es (v++[(x:Int)]):=jt_ q1
  refine⟨_,k,W[k],by rw[ji_,hv];rfl,by rw[ji_,qy_ hx,hk];rfl,jh_ q2,fun e he=>?_⟩
  obtain⟨y,hy⟩:=f (v++[(x:Int)]++e) (B5.mpr ⟨_,AV.mpr (.inr ⟨v,hvW,x,hx,rfl⟩),e,he,rfl⟩)
  obtain⟨z,hz⟩:=f (W[k]++e) (B5.mpr ⟨_,AV.mpr (.inl (qw_ q2)),e,he,rfl⟩)
  have:=List.map_inj_left.mp q3 e he
  rw[hy,hz]at this
  have e2:z=y:=this
  exact⟨y,hy,by rw[hz,e2]⟩
theorem Tb.wf    (t:Tb L most W E es)   (g:GuessOk L W E es marks ways):WfS L marks ways:=by
 have h0:=(jc_.mp t.w0).1
 have:=t.wn
 have:=t.m12
 have:=t.l1
 have:=t.l6
 have hml:=g.ml
 refine⟨⟨by lia,by lia,by rw[qm_];lia,by rw[qm_];lia,by rw[qm_,g.wl,g.ml],fun row hr=>?_,fun m hm=>by rw[(List.mem_replicate.mp hm).2];lia⟩,fun row hr=>by rw[g.sl row hr]⟩
 refine⟨by rw[g.rl row hr],fun y hy=>?_⟩
 obtain⟨i,hi⟩:=jW_.mp hr
 have hil:=(jc_.mp hi).1
 rw[g.wl]at hil
 obtain⟨x,hx⟩:=jW_.mp hy
 have hxl:=(jc_.mp hx).1
 rw[g.rl row hr]at hxl
 obtain⟨row',k,u,a,b,c,_⟩:=g.go i _ x (jh_ hil) hxl
 rw[hi]at a
 cases a
 rw[hx]at b
 cases b
 have:=(jc_.mp c).1
 rw[qm_];lia
theorem GuessOk.room    (t:Tb L most W E es)   (g:GuessOk L W E es marks ways)  (hv:isW L v=true):∀i:Nat,∃(k:Nat) (u:α2),FO ways (v.take i)=(k:Int)/\W[k]?=some u:=fun i=>by
 have wf:=t.wf g
 obtain⟨h0,h1⟩:=wf.walk hv i
 rw[g.ml]at h1
 obtain⟨k,hk⟩:=Int.eq_ofNat_of_zero_le h0
 rw[hk]at h1
 exact⟨k,W[k]'s!"",hk,jh_ s!""⟩
theorem GuessOk.step {L most:Nat}{W E:α1}{es:Bk}(t:Tb L most W E es){marks:α1}{ways:α1}(g:GuessOk L W E es marks ways){v:α2}(hv:isW L v=true){i k:Nat}{a:α2}{y:Int}(hy:v[i]?=some y)(hk:FO ways (v.take i)=(k:Int))(ha:W[k]?=some a):∃(x k':Nat) (u:α2),y=(x:Int)/\x<L/\FO ways (v.take (i+1))=(k':Int)/\W[k']?=some u/\∀e∈E,∃m,mkO es (a++[(x:Int)]++e)=some m/\mkO es (u++e)=some m:=by
 have hb:=CG.mp hv y (jf_ hy)
 obtain⟨x,rfl⟩:=Int.eq_ofNat_of_zero_le hb.1
 obtain⟨row,k',u,q1,q2,q3,q4⟩:=g.go k a x ha s!""
 refine⟨x,k',u,rfl,by lia,?_,q3,q4⟩
 rw[Oe hy,hk]
 exact UN (by rw[show ((k:Int)).toNat=k by lia];exact q1) (by rw[show ((x:Int)).toNat=x by lia];exact q2)
theorem Tb.halved {L most:Nat}{W E:α1}{es:Bk}(t:Tb L most W E es)(hE:E.length+1<=W.length+L){marks:α1}{ways:α1}(g:GuessOk L W E es marks ways){v:α2}(hv:isW L v=true){i k k':Nat}(hi':i+1<v.length){a u:α2}{mk b:Int}(hk:FO ways (v.take i)=(k:Int))(ha:W[k]?=some a)(h1:mkO es (a++v.drop i)=some b)(hne:b≠mk)(hk':FO ways (v.take (i+1))=(k':Int))(hu:W[k']?=some u)(h2:mkO es (u++v.drop (i+1))=some mk):Tb L most W (E++[v.drop (i+1)]) es/\Pend L W (E++[v.drop (i+1)]) es:=by
 have hi:i<v.length:=by lia
 obtain⟨y,hy⟩:∃y,v[i]?=some y:=⟨v[i],by simp⟩
 obtain⟨x,k2,u2,rfl,hx,q1,q2,q3⟩:=g.step t hv hy hk ha
 have ek:k2=k':=by rw[hk']at q1;exact (Int.ofNat.inj q1).symm
 subst ek
 rw[hu]at q2
 cases q2
 have hdr:v.drop i=(x:Int)::v.drop (i+1):=by
  have:=(jc_.mp hy)
  rw[xB_ hi,this.2]
 have hpend:Pend L W (E++[v.drop (i+1)]) es:=by
  refine⟨a,jf_ ha,x,hx,fun w' hw'=>?_⟩
  obtain⟨j,hj⟩:=jW_.mp hw'
  by_cases hjk:j=k2
  ·subst hjk
   rw[hu]at hj
   cases hj
   refine⟨v.drop (i+1),by simp,b,mk,?_,h2,hne⟩
   rw[hdr]at h1
   rw[xY_];exact h1
  ·obtain⟨e,he,m,n,z1,z2,z3⟩:=t.dist j k2 _ _ hj hu hjk
   obtain⟨y2,y3,y4⟩:=q3 e he
   rw[z2]at y4
   cases y4
   exact⟨e,j9_ _ he,n,m,y3,z1,qj_ z3⟩
 refine⟨⟨t.l1,t.l6,t.m12,t.w0,t.wW,t.wn,?_,fun e he=>?_,t.nd,t.bW,fun i j v u h1 h2 h3=>(t.dist i j v u h1 h2 h3).mono (fun e he=>j9_ _ he) (Grow.refl _),?_⟩,hpend⟩
 ·rw[List.take_append_of_le_length t.endl];exact t.e0
 ·rcases jK_.mp he with he|he
  ·exact t.eW e he
  ·rw[js_.mp he]
   exact⟨CG.mpr fun y hy=>CG.mp hv y (x8_ hy),fun z=>by have:=qU_ List.length z;rw[qI_]at this;simp at this;lia⟩
 ·rw[jj_,jp_]
  by_cases hlt:E.length+1<W.length+L
  ·exact .inl s!""
  ·exact .inr ⟨by lia,hpend⟩
structure AS where
 L:Nat
 most:Nat
 W:α1
 E:α1
 G:α1
 gs:Option (α1×α1)
 wr:Option (α2)
 es:Bk
inductive Wish where
 | ask (c:α2)
 | shown (m ws:α1)
 | done (m ws:α1)
 | spent (c:α2)
inductive HR where
 | ask (c:α2)
 | fin (hi:Nat)
noncomputable def Lr (L:Nat)(W E:α1)(es:Bk):α1:=(IA (B7 L W) E).filter fun c=>(mkO es c).isNone
noncomputable def Cb (L:Nat)(W E:α1)(es:Bk):α1:=W.map fun v=>(gOf E es v).take L
noncomputable def lsay (m ws:α1)(v:α2):Int:=(sayW m ws v).getD (v.length-1) 0
noncomputable def EM (L:Nat)(W E:α1)(es:Bk):α1:=W.map fun v=>(List.range L).map fun x:Nat=>(((W.map (gOf E es)).idxOf (gOf E es (v++[(x:Int)])):Nat):Int)
noncomputable def D9 (es:Bk)(m ws:α1):Option (α2):=(es.find? fun e=>decide (lsay m ws e.1≠e.2)).map (·.1)
noncomputable def JA (W ws:α1)(v:α2)(i:Nat):α2:=W.getD (FO ws (v.take i)).toNat []
noncomputable def Kw (es:Bk)(W ws:α1)(v:α2)(mk:Int):Nat->Nat->Nat->HR
 |0,_,hi=>.fin hi
 |f+1,lo,hi=>if hi-lo > 1 then (match mkO es (JA W ws v ((lo+hi) / 2)++v.drop ((lo+hi) / 2)) with
   |none=>.ask (JA W ws v ((lo+hi) / 2)++v.drop ((lo+hi) / 2))
   |some t=>if t=mk then Kw es W ws v mk f lo ((lo+hi) / 2) else Kw es W ws v mk f ((lo+hi) / 2) hi) else .fin hi
noncomputable def E4 (L:Nat)(W E:α1)(es:Bk):Option (α2):=(B7 L W).find? fun v=>decide (gOf E es v∉W.map (gOf E es))
noncomputable def Jd (s:AS):AS×Option Wish:=match E4 s.L s.W s.E s.es with
 |some r=>if s.W.length=s.most then (s,some (.spent r)) else ({s with W:=s.W++[r],G:=Lr s.L (s.W++[r]) s.E s.es},none)
 |none=>match D9 s.es (Cb s.L s.W s.E s.es) (EM s.L s.W s.E s.es) with
  |none=>({s with gs:=some (Cb s.L s.W s.E s.es,EM s.L s.W s.E s.es),wr:=none},some (.shown (Cb s.L s.W s.E s.es) (EM s.L s.W s.E s.es)))
  |some v=>({s with gs:=some (Cb s.L s.W s.E s.es,EM s.L s.W s.E s.es),wr:=some v},none)
noncomputable def P4 (s:AS)(v:α2)(m ws:α1):AS×Option Wish:=match Kw s.es s.W ws v (lsay m ws v) v.length 0 (v.length-1) with
 |.ask c=>(s,some (.ask c))
 |.fin hi=>({s with wr:=none,E:=s.E++[v.drop hi],G:=Lr s.L s.W (s.E++[v.drop hi]) s.es},none)
noncomputable def EV (s:AS):AS×Option Wish:=match s.G with
 |c::r=>({s with G:=r},some (.ask c))
 |[]=>match s.wr with
  |some v=>match s.gs with
   |some (m,ws)=>P4 s v m ws
   |none=>(s,none)
  |none=>Jd s
structure OkX (x:Option (α2))(B:Nat)(s:AS):Prop where
 tb:Tb s.L s.most s.W s.E s.es
 cov:∀c∈IA (B7 s.L s.W) s.E,(∃m,mkO s.es c=some m)\/c∈s.G\/x=some c
 gn:s.G.Nodup
 gW:∀c∈s.G,(isW s.L c=true/\c ≠ [])/\mkO s.es c=none/\c.length<=B+(s.most+1)*s.E.length
 le:∀e∈s.E,e.length+(s.most+1)<=B+(s.most+1)*s.E.length
 lb:∀p∈s.es,p.1.length<=B+(s.most+1)*s.E.length+(if s.wr.isSome then s.most else 0)
 ne:∀p∈s.es,p.1 ≠ []
 wr:∀v,s.wr=some v->s.G=[]/\s.E.length+1<=s.W.length+s.L/\isW s.L v=true/\v.length<=B+(s.most+1)*s.E.length/\∃m ws t,s.gs=some (m,ws)/\GuessOk s.L s.W s.E s.es m ws/\mkO s.es v=some t/\t≠lsay m ws v
theorem OkX.full {B:Nat}  (o:OkX none B s)(h:s.G=[]):Full s.L s.W s.E s.es:=fun c hc=>by
 rcases o.cov c hc with z|z|z
 ·exact z
 ·rw[h]at z;cases z
 ·cases z
theorem OkX.lens  {B:Nat}  (o:OkX x B s):(s.most+1)*s.E.length<=(s.most+1)*(s.most+s.L):=zg_ _ o.tb.en
theorem OkX.cell {x:Option (α2)}{B:Nat}{s:AS}{W:α1}{E:α1}(hW:∀v∈W,isW s.L v=true/\v.length<W.length)(hn:W.length<=s.most)(hE:∀e∈E,(isW s.L e=true/\e ≠ [])/\e.length+(s.most+1)<=B+(s.most+1)*E.length){c:α2}(hc:c∈IA (B7 s.L W) E):(isW s.L c=true/\c ≠ [])/\c.length<=B+(s.most+1)*E.length:=by
 obtain⟨r,hr,e,he,rfl⟩:=B5.mp hc
 have h2:=hE e he
 have h1:isW s.L r=true/\r.length<=W.length:=by
  rcases AV.mp hr with h|⟨a,ha,y,hy,rfl⟩
  ·have:=hW r h;exact⟨this.1,by lia⟩
  ·have:=hW a ha
   exact⟨CG.mpr fun z hz=>by
    rcases jK_.mp hz with hz|hz
    ·exact CG.mp this.1 z hz
    ·rw[js_.mp hz];lia,by rw[jj_,jp_];lia⟩
 refine⟨⟨CG.mpr fun z hz=>?_,fun z=>h2.1.2 (List.append_eq_nil_iff.mp z).2⟩,by rw[jj_];lia⟩
 rcases jK_.mp hz with hz|hz
 ·exact CG.mp h1.1 z hz
 ·exact CG.mp h2.1.1 z hz
theorem Vu (R E:α1):(IA R E).Nodup:=GA xw_
theorem Dx_ {B:Nat}{s:AS}{W E:α1}(hW:∀v∈W,isW s.L v=true/\v.length<W.length)(hn:W.length<=s.most)(hE:∀e∈E,(isW s.L e=true/\e ≠ [])/\e.length+(s.most+1)<=B+(s.most+1)*E.length):(∀c∈IA (B7 s.L W) E,(∃m,mkO s.es c=some m)\/c∈Lr s.L W E s.es\/(none:Option (α2))=some c)/\(Lr s.L W E s.es).Nodup/\∀c∈Lr s.L W E s.es,(isW s.L c=true/\c ≠ [])/\mkO s.es c=none/\c.length<=B+(s.most+1)*E.length:=by
 refine⟨fun c hc=>?_,(Vu _ _).filter _,fun c hc=>?_⟩
 ·cases hm:mkO s.es c with
  |some m=>exact .inl ⟨m,rfl⟩
  |none=>exact .inr (.inl (xb_.mpr ⟨hc,by rw[hm];rfl⟩))
 ·obtain⟨h1,h2⟩:=xb_.mp hc
  have:=OkX.cell (x:=none) (s:=s) hW hn hE h1
  exact⟨this.1,by simpa using h2,this.2⟩
theorem YG {L most:Nat}{W E:α1}{es:Bk}(t:Tb L most W E es){m ws:α1}(g:GuessOk L W E es m ws){v:α2}(hv:isW L v=true){mk:Int}:∀(f lo hi:Nat),hi-lo<=f+1->lo<hi->hi<=v.length-1->(∃b,mkO es (JA W ws v lo++v.drop lo)=some b/\b≠mk)->mkO es (JA W ws v hi++v.drop hi)=some mk->match Kw es W ws v mk f lo hi with
   |.ask c=>mkO es c=none/\∃i,i<v.length-1/\c=JA W ws v i++v.drop i
   |.fin h=>0<h/\h<=v.length-1/\(∃b,mkO es (JA W ws v (h-1)++v.drop (h-1))=some b/\b≠mk)/\mkO es (JA W ws v h++v.drop h)=some mk
 |0,lo,hi,h1,h2,h3,h4,h5=>by
  have:lo=hi-1:=by lia
  subst this
  exact⟨by lia,h3,h4,h5⟩
 |f+1,lo,hi,h1,h2,h3,h4,h5=>by
  unfold Kw
  by_cases hg:hi-lo > 1
  ·rw[if_pos hg]
   cases hm:mkO es (JA W ws v ((lo+hi) / 2)++v.drop ((lo+hi) / 2)) with
   |none=>exact⟨hm,(lo+hi) / 2,by lia,rfl⟩
   |some b=>
    dsimp only
    by_cases hb:b=mk
    ·rw[if_pos hb]
     subst hb
     exact YG t g hv f lo ((lo+hi) / 2) s!"" s!"" s!"" h4 hm
    ·rw[if_neg hb]
     exact YG t g hv f ((lo+hi) / 2) hi s!"" s!"" h3 ⟨b,hm,hb⟩ h5
  ·rw[if_neg hg]
   have:lo=hi-1:=by lia
   subst this
   exact⟨by lia,h3,h4,h5⟩
theorem P5    (t:Tb L most W E es)  (g:GuessOk L W E es m ws)  (hv:isW L v=true)(i:Nat):∃k:Nat,FO ws (v.take i)=(k:Int)/\W[k]?=some (JA W ws v i):=by
 obtain⟨k,u,h1,h2⟩:=g.room t hv i
 refine⟨k,h1,?_⟩
 unfold JA
 rw[h1,show ((k:Int)).toNat=k by lia,jq_,h2];rfl
open Classical in
noncomputable def mu (s:AS):Nat:=4*(s.most-s.W.length)+(if s.wr.isSome then 2 else if Pend s.L s.W s.E s.es then 1 else 3)
noncomputable def WOk (B:Nat)(s:AS):Wish->Prop
 |.ask c=>OkX (some c) B s/\mkO s.es c=none/\(isW s.L c=true/\c ≠ [])/\c.length<=B+(s.most+1)*s.E.length+(if s.wr.isSome then s.most else 0)/\c∉s.G
 |.shown m ws=>OkX none B s/\s.G=[]/\s.wr=none/\s.gs=some (m,ws)/\GuessOk s.L s.W s.E s.es m ws/\∀p∈s.es,lsay m ws p.1=p.2
 |.done m ws=>OkX none B s/\s.G=[]/\s.wr=none/\s.gs=some (m,ws)/\GuessOk s.L s.W s.E s.es m ws/\∀p∈s.es,lsay m ws p.1=p.2
 |.spent r=>OkX none B s/\s.G=[]/\s.wr=none/\s.W.length=s.most/\r∈B7 s.L s.W/\r∉s.W/\isW s.L r=true/\r.length<=s.W.length/\∀u∈s.W,TJ s.E s.es r u
structure Kept (s s':AS):Prop where
 l:s'.L=s.L
 m:s'.most=s.most
 e:s'.es=s.es
theorem Vv {B:Nat}  (o:OkX none B s)    (g:GuessOk s.L s.W s.E s.es m ws)(hvW:isW s.L v=true)(ht:mkO s.es v=some t)(hne:t≠lsay m ws v):v ≠ []/\JA s.W ws v 0=[]/\mkO s.es (JA s.W ws v (v.length-1)++v.drop (v.length-1))=some (lsay m ws v)/\0<v.length-1:=by
 have tb:=o.tb
 have hw0:=tb.w0
 have hvn:v ≠ []:=o.ne (v,t) (YF ht)
 have hv0:0<v.length:=xk_.mpr hvn
 have a0:JA s.W ws v 0=[]:=by
  obtain⟨k,k1,k2⟩:=P5 tb g hvW 0
  have:(k:Int)=0:=by rw[<-k1];rfl
  have:k=0:=by lia
  subst this
  rw[hw0]at k2
  exact (jt_ k2).symm
 have aL:mkO s.es (JA s.W ws v (v.length-1)++v.drop (v.length-1))=some (lsay m ws v):=by
  obtain⟨k,k1,k2⟩:=P5 tb g hvW (v.length-1)
  have hlt:v.length-1<v.length:=by lia
  have hx:=CG.mp hvW _ (qw_ hlt)
  obtain⟨x,hxe⟩:∃x:Nat,v[v.length-1]=(x:Int):=⟨(v[v.length-1]).toNat,by lia⟩
  obtain⟨row,y,y1,y2,y3⟩:=g.m k _ x k2 s!""
  have hd:v.drop (v.length-1)=[(x:Int)]:=by
   rw[xB_ hlt,hxe,show v.length-1+1=v.length by lia,List.drop_length]
  rw[hd,y3]
  have e:lsay m ws v=LH m (FO ws (v.take (v.length-1))) (v.getD (v.length-1) 0):=by
   unfold lsay sayW
   rw[jq_,ji_,qy_ hlt];rfl
  rw[e,k1,jq_,jh_ hlt]
  show some y=some (LH m (k:Int) v[v.length-1])
  rw[hxe,UN (by rw[show ((k:Int)).toNat=k by lia];exact y1) (by rw[show ((x:Int)).toNat=x by lia];exact y2)]
 have hv1:0<v.length-1:=by
  refine Nat.pos_of_ne_zero fun z=>?_
  rw[z,a0]at aL
  rw[xZ_,List.nil_append,ht]at aL
  exact hne (jt_ aL)
 exact⟨hvn,a0,aL,hv1⟩
theorem Jc_ {B:Nat}  (o:OkX none B s)   (hv:s.wr=some v)(hg:s.gs=some (m,ws)):(∀s',P4 s v m ws=(s',none)->OkX none B s'/\Kept s s'/\mu s'<mu s)/\∀s' x,P4 s v m ws=(s',some x)->WOk B s' x/\Kept s s':=by
 obtain⟨hG,hE,hvW,hvl,m',ws',t,e1,g,ht,hne⟩:=o.wr v hv
 rw[hg]at e1
 cases e1
 have tb:=o.tb
 have hw0:=tb.w0
 obtain⟨hvn,a0,aL,hv1⟩:=Vv o g hvW ht hne
 have hv0:0<v.length:=by lia
 have key:=YG tb g hvW (mk:=lsay m ws v) v.length 0 (v.length-1) s!"" hv1 s!"" ⟨t,by rw[a0];exact ht,hne⟩ aL
 unfold P4
 cases hh:Kw s.es s.W ws v (lsay m ws v) v.length 0 (v.length-1) with
 |ask c=>
  rw[hh]at key
  obtain⟨k1,i,hi,rfl⟩:=key
  refine⟨fun s' z=>(by cases z),fun s' x z=>?_⟩
  cases z
  obtain⟨k,q1,q2⟩:=P5 tb g hvW i
  have q3:=tb.wW _ (jf_ q2)
  have q4:=tb.wn
  refine⟨⟨⟨tb,fun c hc=>?_,o.gn,o.gW,o.le,o.lb,o.ne,o.wr⟩,k1,⟨CG.mpr fun y hy=>?_,fun z=>?_⟩,?_,by rw[hG];simp⟩,⟨rfl,rfl,rfl⟩⟩
  ·rcases o.cov c hc with z|z|z
   ·exact .inl z
   ·exact .inr (.inl z)
   ·cases z
  ·rcases jK_.mp hy with hy|hy
   ·exact CG.mp q3.1 y hy
   ·exact CG.mp hvW y (x8_ hy)
  ·have:=qU_ List.length (List.append_eq_nil_iff.mp z).2
   rw[qI_]at this
   simp at this
   lia
  ·rw[hv,jj_,qI_]
   simp only[q4_,q7_]
   lia
 |fin hi=>
  rw[hh]at key
  obtain⟨h0,h1,⟨b,b1,b2⟩,h3⟩:=key
  refine⟨fun s' z=>?_,fun s' x z=>(by cases z)⟩
  cases z
  obtain⟨k,q1,q2⟩:=P5 tb g hvW (hi-1)
  obtain⟨k',q1',q2'⟩:=P5 tb g hvW hi
  have e1:hi-1+1=hi:=by lia
  obtain⟨tb',pend⟩:=tb.halved hE g hvW (i:=hi-1) s!"" q1 q2 b1 b2 (by rw[e1];exact q1') q2' (by rw[e1];exact h3)
  rw[e1]at tb' pend
  have hle:∀e∈s.E++[v.drop hi],(isW s.L e=true/\e ≠ [])/\e.length+(s.most+1)<=B+(s.most+1)*(s.E++[v.drop hi]).length:=fun e he=>by
   rw[jj_,jp_,Nat.mul_succ]
   rcases jK_.mp he with he|he
   ·have:=o.le e he;exact⟨tb.eW e he,by lia⟩
   ·rw[js_.mp he,qI_]
    exact⟨⟨CG.mpr fun y hy=>CG.mp hvW y (x8_ hy),fun z=>by have:=qU_ List.length z;rw[qI_]at this;simp at this;lia⟩,by lia⟩
  obtain⟨c1,c2,c3⟩:=Dx_ (B:=B) (s:=s) (W:=s.W) (E:=s.E++[v.drop hi]) tb.wW tb.wn hle
  refine⟨⟨tb',c1,c2,c3,fun e he=>(hle e he).2,fun p hp=>?_,o.ne,fun v' z=>(by cases z)⟩,⟨rfl,rfl,rfl⟩,?_⟩
  ·have:=o.lb p hp
   rw[hv]at this
   simp only[q4_,q7_]at this
   show p.1.length<=B+(s.most+1)*(s.E++[v.drop hi]).length+0
   rw[jj_,jp_,Nat.mul_succ]
   lia
  ·unfold mu
   rw[hv]
   simp only[q4_,q7_,xQ_,j5_,qM_]
   rw[if_pos pend]
   lia
theorem HQ_ {B:Nat}  (o:OkX none B s)(hG:s.G=[])(hw:s.wr=none):(∀s',Jd s=(s',none)->OkX none B s'/\Kept s s'/\mu s'<mu s)/\∀s' x,Jd s=(s',some x)->WOk B s' x/\Kept s s':=by
 have tb:=o.tb
 have full:=o.full hG
 have hlb:∀p∈s.es,p.1.length<=B+(s.most+1)*s.E.length:=fun p hp=>by
  have:=o.lb p hp
  rw[hw]at this
  exact this
 unfold Jd
 cases hst:E4 s.L s.W s.E s.es with
 |some r=>
  obtain⟨⟨r1,r2,r3,r4⟩,more⟩:=tb.more full hst
  have rap:∀u∈s.W,TJ s.E s.es r u:=fun u hu=>by
   have h2:=xP_ hst
   have h2:gOf s.E s.es r∉s.W.map (gOf s.E s.es):=xg_ h2
   exact (MO full r1 (AV.mpr (.inl hu))).mp fun z=>h2 (by rw[z];exact q0_ hu)
  dsimp only
  by_cases hm:s.W.length=s.most
  ·rw[if_pos hm]
   refine⟨fun s' z=>(by cases z),fun s' x z=>?_⟩
   cases z
   exact⟨⟨o,hG,hw,hm,r1,r2,r3,r4,rap⟩,⟨rfl,rfl,rfl⟩⟩
  ·rw[if_neg hm]
   refine⟨fun s' z=>?_,fun s' x z=>(by cases z)⟩
   cases z
   have hlt:s.W.length<s.most:=by have:=tb.wn;lia
   have tb':=more hlt
   obtain⟨c1,c2,c3⟩:=Dx_ (B:=B) (s:=s) (W:=s.W++[r]) (E:=s.E) tb'.wW tb'.wn (fun e he=>⟨tb.eW e he,o.le e he⟩)
   refine⟨⟨tb',c1,c2,c3,o.le,o.lb,o.ne,fun v z=>?_⟩,⟨rfl,rfl,rfl⟩,?_⟩
   ·rw[show s.wr=some v from z]at hw;cases hw
   ·unfold mu
    show 4*(s.most-(s.W++[r]).length)+(if s.wr.isSome then 2 else _)<_
    rw[jj_,jp_,hw]
    simp only[xQ_,j5_,qM_]
    split<;>split<;>lia
 |none=>
  obtain⟨np,cl⟩:=tb.none full hst
  have g:GuessOk s.L s.W s.E s.es (Cb s.L s.W s.E s.es) (EM s.L s.W s.E s.es):=tb.guess full cl
  have hEW:s.E.length+1<=s.W.length+s.L:=by
   rcases tb.jj with h|h
   ·exact h
   ·exact absurd h.2 np
  dsimp only
  cases hf:D9 s.es (Cb s.L s.W s.E s.es) (EM s.L s.W s.E s.es) with
  |none=>
   refine⟨fun s' z=>(by cases z),fun s' x z=>?_⟩
   cases z
   refine⟨⟨⟨tb,o.cov,o.gn,o.gW,o.le,fun p hp=>by have:=hlb p hp;exact this,o.ne,fun v z=>(by cases z)⟩,hG,rfl,rfl,g,fun p hp=>?_⟩,⟨rfl,rfl,rfl⟩⟩
   unfold D9 at hf
   rw[xW_,qs_]at hf
   have:=hf p hp
   simpa using this
  |some v=>
   refine⟨fun s' z=>?_,fun s' x z=>(by cases z)⟩
   cases z
   unfold D9 at hf
   cases hfd:s.es.find? (fun e=>decide (lsay (Cb s.L s.W s.E s.es) (EM s.L s.W s.E s.es) e.1≠e.2)) with
   |none=>rw[hfd]at hf;cases hf
   |some e=>
    rw[hfd]at hf
    cases hf
    have h1:=xa_ hfd
    have h2:=xP_ hfd
    have h2:lsay (Cb s.L s.W s.E s.es) (EM s.L s.W s.E s.es) e.1≠e.2:=xg_ h2
    refine⟨⟨tb,o.cov,o.gn,o.gW,o.le,fun p hp=>by have:=hlb p hp;show p.1.length<=B+(s.most+1)*s.E.length+s.most;lia,o.ne,fun v z=>?_⟩,⟨rfl,rfl,rfl⟩,?_⟩
    ·cases z
     exact⟨hG,hEW,(tb.bW e h1).1,hlb e h1,_,_,e.2,rfl,g,K6 tb.nd h1,qj_ h2⟩
    ·unfold mu
     rw[hw]
     simp only[q4_,q7_,xQ_,j5_,qM_]
     rw[if_neg np]
     lia
theorem OQ {B:Nat}  (o:OkX none B s):(∀s',EV s=(s',none)->OkX none B s'/\Kept s s'/\mu s'<mu s)/\∀s' x,EV s=(s',some x)->WOk B s' x/\Kept s s':=by
 unfold EV
 cases hG:s.G with
 |cons c r=>
  refine⟨fun s' z=>(by cases z),fun s' x z=>?_⟩
  cases z
  have hwr:s.wr=none:=by
   cases h:s.wr with
   |none=>rfl
   |some v=>have:=(o.wr v h).1;rw[hG]at this;cases this
  have gn:=o.gn
  rw[hG,qE_]at gn
  have hc:=o.gW c (by rw[hG];exact jG_ ..)
  refine⟨⟨⟨o.tb,fun b hb=>?_,gn.2,fun b hb=>o.gW b (by rw[hG];exact ju_ _ hb),o.le,o.lb,o.ne,fun v z=>?_⟩,hc.2.1,hc.1,by have:=hc.2.2;show c.length<=B+(s.most+1)*s.E.length+(if s.wr.isSome=true then s.most else 0);lia,gn.1⟩,⟨rfl,rfl,rfl⟩⟩
  ·rcases o.cov b hb with z|z|z
   ·exact .inl z
   ·rw[hG]at z
    rcases jA_.mp z with rfl|z
    ·exact .inr (.inr rfl)
    ·exact .inr (.inl z)
   ·cases z
  ·rw[show s.wr=some v from z]at hwr;cases hwr
 |nil=>
  cases hw:s.wr with
  |none=>exact HQ_ o hG hw
  |some v=>
   obtain⟨_,_,_,_,m,ws,t,e1,_⟩:=o.wr v hw
   rw[e1]
   exact Jc_ o hw e1
noncomputable def afl (wv:V)(L most:Int)(b pw pe pg:Addr)(gv rv:V):List (Str×V):=[("wish",wv),("letters",.int L),("most",.int most),("book",.ref b),("ways",.ref pw),("ends",.ref pe),("gaps",.ref pg),("guess",gv),("wrong",rv)]
section
variable (wv:V) (L most:Int) (b pw pe pg:Addr) (gv rv y:V)
theorem OR:(afl wv L most b pw pe pg gv rv).lookup ("wish" : Str)=some wv:=by kernel_rfl
theorem IJ:(afl wv L most b pw pe pg gv rv).lookup ("letters" : Str)=some (.int L):=by kernel_rfl
theorem Lv_:(afl wv L most b pw pe pg gv rv).lookup ("most" : Str)=some (.int most):=by kernel_rfl
theorem K9:(afl wv L most b pw pe pg gv rv).lookup ("book" : Str)=some (.ref b):=by kernel_rfl
theorem La:(afl wv L most b pw pe pg gv rv).lookup ("ways" : Str)=some (.ref pw):=by kernel_rfl
theorem Rv:(afl wv L most b pw pe pg gv rv).lookup ("ends" : Str)=some (.ref pe):=by kernel_rfl
theorem HR_:(afl wv L most b pw pe pg gv rv).lookup ("gaps" : Str)=some (.ref pg):=by kernel_rfl
theorem UT:(afl wv L most b pw pe pg gv rv).lookup ("guess" : Str)=some gv:=by kernel_rfl
theorem Of:(afl wv L most b pw pe pg gv rv).lookup ("wrong" : Str)=some rv:=by kernel_rfl
theorem EO_:putF "wish" y (afl wv L most b pw pe pg gv rv)=afl y L most b pw pe pg gv rv:=by kernel_rfl
theorem Jd_ (q:Addr):putF "gaps" (.ref q) (afl wv L most b pw pe pg gv rv)=afl wv L most b pw pe q gv rv:=by kernel_rfl
theorem HS_:putF "guess" y (afl wv L most b pw pe pg gv rv)=afl wv L most b pw pe pg y rv:=by kernel_rfl
theorem Vw:putF "wrong" y (afl wv L most b pw pe pg gv rv)=afl wv L most b pw pe pg gv y:=by kernel_rfl
theorem Je_:putF "wrong" .non (putF "guess" .non (putF "gaps" (.ref pg) (putF "ends" (.ref pe) (putF "ways" (.ref pw) (putF "book" (.ref b) (putF "most" (.int most) (putF "letters" (.int L) (putF "wish" .non []))))))))=afl .non L most b pw pe pg .non .non:=by kernel_rfl
end
structure AD where
 dx:Addr
 b:Addr
 d:Addr
 pw:Addr
 pe:Addr
 pg:Addr
noncomputable def HouT (K:α3)(H:Hp)(h:Addr)(L:Int)(m:α1)(ws:α1):Prop:=∃tm tw us zs,H h=some (.tup [.int L,.ref tm,.ref tw])/\H tm=some (.tup us)/\Am K H us m/\H tw=some (.tup zs)/\Am K H zs ws
theorem HouT.mono {K:α3}      (x:HouT K H h L m ws)(k:TK H H'):HouT K H' h L m ws:=by
 obtain⟨tm,tw,us,zs,a,b,c,d,e⟩:=x
 exact⟨tm,tw,us,zs,k _ _ a,k _ _ b,c.mono k,k _ _ d,e.mono k⟩
theorem Am.rows39 {K:α3}     (h:Am K H zs ws)(hw:SqT K H t zs):Rows K H t ws:=by
 refine⟨zs.map (fun v=>match v with | .ref t=>t|_=>0),?_,by rw[jb_];exact h.1,fun i t r hi hr=>?_⟩
 ·have e:(zs.map (fun v=>match v with | .ref t=>t|_=>0)).map V.ref=zs:=by
   rw[q5_]
   refine xX_ fun i=>?_
   rw[ji_]
   by_cases hi:i<ws.length
   ·obtain⟨t,a,_⟩:=h.2 i ws[i] (by simp[hi])
    rw[a];rfl
   ·rw[jV_ (by rw[h.1];lia)];rfl
  rw[e];exact hw
 ·obtain⟨t',a,b⟩:=h.2 i r hr
  rw[ji_,a]at hi
  cases hi
  exact SqT.of b
theorem HouT.house {K:α3}      (x:HouT K H h L m ws):TF K H h L m ws:=by
 obtain⟨tm,tw,us,zs,a,b,c,d,e⟩:=x
 exact⟨tm,tw,SqT.of a,Am.rows39 c (SqT.of b),Am.rows39 e (SqT.of d)⟩
noncomputable def GV (K:α3)(H:Hp)(L:Int)(gv:V):Option (α1×α1)->Prop
 |none=>gv=.non
 |some (m,ws)=>∃h,gv=.ref h/\HouT K H h L m ws
noncomputable def RV (H:Hp)(rv:V):Option (α2)->Prop
 |none=>rv=.non
 |some v=>∃t,rv=.ref t/\H t=some (.tup (v.map V.int))
theorem GV.mono {K:α3}     (x:GV K H L gv o)(k:TK H H'):GV K H' L gv o:=by
 match o,x with
 |none,x=>exact x
 |some (m,ws),⟨h,a,b⟩=>exact⟨h,a,b.mono k⟩
theorem RV.mono    (x:RV H rv o)(k:TK H H'):RV H' rv o:=by
 match o,x with
 |none,x=>exact x
 |some v,⟨t,a,b⟩=>exact⟨t,a,k _ _ b⟩
noncomputable def Wish.tag:Wish->Str
 |.ask _ => "ask"
 |.shown _ _ => "show"
 |.done _ _ => "done"
 |.spent _ => "spent"
noncomputable def Nz_ (K:α3)(H:Hp)(L:Int)(u:Addr):Wish->Prop
 |.ask c=>H u=some (.tup (c.map V.int))
 |.shown m ws=>HouT K H u L m ws
 |.done m ws=>HouT K H u L m ws
 |.spent c=>H u=some (.tup (c.map V.int))
noncomputable def CL (K:α3)(H:Hp)(L:Int)(wv:V)(x:Wish):Prop:=∃t u,wv=.ref t/\H t=some (.tup [.str x.tag,.ref u])/\Nz_ K H L u x
theorem CL.mono {K:α3}   {wv:V}  (h:CL K H L wv x)(k:TK H H'):CL K H' L wv x:=by
 obtain⟨t,u,a,b,c⟩:=h
 refine⟨t,u,a,k _ _ b,?_⟩
 cases x with
 |ask c'=>exact k _ _ c
 |spent c'=>exact k _ _ c
 |shown m ws=>exact HouT.mono c k
 |done m ws=>exact HouT.mono c k
structure AskAt (K:α3)(CA CB:Addr)(H:Hp)(a:Addr)(ad:AD)(s:AS)(wv gv rv:V)(zs ys us:List V):Prop where
 ob:H a=some (.ins CA ad.dx (afl wv s.L s.most ad.b ad.pw ad.pe ad.pg gv rv))
 bk:BookAt CB H ad.b ad.d s.L s.es
 w:H ad.pw=some (.lst zs)
 wW:Am K H zs s.W
 e:H ad.pe=some (.lst ys)
 eW:Am K H ys s.E
 g:H ad.pg=some (.lst us)
 gW:Am K H us s.G
 we:ad.pw≠ad.pe
 wg:ad.pw≠ad.pg
 eg:ad.pe≠ad.pg
 gv:GV K H s.L gv s.gs
 rv:RV H rv s.wr
noncomputable def Asks (K:α3)(CA CB:Addr)(H:Hp)(a:Addr)(ad:AD)(s:AS)(wv:V):Prop:=∃gv rv zs ys us,AskAt K CA CB H a ad s wv gv rv zs ys us
theorem BookAt.tk      (h:BookAt C H p d L es)(hp:∀o,H p=some o->H' p=some o)(hd:∀o,H d=some o->H' d=some o):BookAt C H' p d L es:=by
 obtain⟨⟨dx,a⟩,b,c⟩:=h
 exact⟨⟨dx,hp _ a⟩,hd _ b,c⟩
noncomputable def Frm (H H':Hp)(a:Addr)(ad:AD):Prop:=(∀x o,H x=some o->x≠a->x≠ad.d->x≠ad.pw->x≠ad.pe->x≠ad.pg->H' x=some o)/\∀x,H' x=none->H x=none
noncomputable def AdOk (H:Hp)(ad ad':AD):Prop:=ad'.dx=ad.dx/\ad'.b=ad.b/\ad'.d=ad.d/\ad'.pw=ad.pw/\ad'.pe=ad.pe/\(ad'.pg=ad.pg\/H ad'.pg=none)
theorem AdOk.refl (H:Hp)(ad:AD):AdOk H ad ad:=⟨rfl,rfl,rfl,rfl,rfl,.inl rfl⟩
theorem Frm.of  (s:Same H H')(a:Addr)(ad:AD):Frm H H' a ad:=⟨fun x o h _ _ _ _ _=>s _ _ h,fun x h=>s.none h⟩
theorem Frm.trans {H H1 H2:Hp}  {ad ad1:AD}(f:Frm H H1 a ad)(k:AdOk H ad ad1)(g:Frm H1 H2 a ad1):Frm H H2 a ad:=by
 obtain⟨k1,k2,k3,k4,k5,k6⟩:=k
 refine⟨fun x o h n1 n2 n3 n4 n5=>g.1 x o (f.1 x o h n1 n2 n3 n4 n5) n1 (by rw[k3];exact n2) (by rw[k4];exact n3) (by rw[k5];exact n4) (fun z=>?_),fun x h=>f.2 x (g.2 x h)⟩
 rcases k6 with k6|k6
 ·exact n5 (z.trans k6)
 ·rw[z,k6]at h;cases h
theorem AdOk.trans {H H1:Hp}  {ad ad1 ad2:AD}(f:Frm H H1 a ad)(k:AdOk H ad ad1)(g:AdOk H1 ad1 ad2):AdOk H ad ad2:=by
 obtain⟨k1,k2,k3,k4,k5,k6⟩:=k
 obtain⟨g1,g2,g3,g4,g5,g6⟩:=g
 refine⟨g1.trans k1,g2.trans k2,g3.trans k3,g4.trans k4,g5.trans k5,?_⟩
 rcases g6 with g6|g6
 ·rw[g6];exact k6
 ·exact .inr (f.2 _ g6)
section
variable {K:α3} {CA CB:Addr} {H H':Hp} {a:Addr} {ad:AD} {s:AS} {wv gv rv:V} {zs ys us:List V}
theorem AskAt.same (x:AskAt K CA CB H a ad s wv gv rv zs ys us)(k:Same H H'):AskAt K CA CB H' a ad s wv gv rv zs ys us:=
 ⟨k _ _ x.ob,x.bk.mono k,k _ _ x.w,x.wW.mono (TK.of k),k _ _ x.e,x.eW.mono (TK.of k),k _ _ x.g,x.gW.mono (TK.of k),x.we,x.wg,x.eg,x.gv.mono (TK.of k),x.rv.mono (TK.of k)⟩
theorem AskAt.tkob (x:AskAt K CA CB H a ad s wv gv rv zs ys us)(o:HO):TK H (upd H a o):=fun t ts h=>by rw[Ag (fun z=>by rw[z,x.ob]at h;cases h)];exact h
theorem AskAt.na (x:AskAt K CA CB H a ad s wv gv rv zs ys us):ad.pw≠a/\ad.pe≠a/\ad.pg≠a/\ad.d≠a/\ad.b≠ad.d/\ad.pw≠ad.d/\ad.pe≠ad.d/\ad.pg≠ad.d/\ad.b≠ad.pw/\ad.b≠ad.pe/\ad.b≠ad.pg:=by
 obtain⟨dx,hb⟩:=x.bk.ob
 refine⟨fun z=>?_,fun z=>?_,fun z=>?_,fun z=>?_,fun z=>?_,fun z=>?_,fun z=>?_,fun z=>?_,fun z=>?_,fun z=>?_,fun z=>?_⟩
 ·have:=x.w;rw[z,x.ob]at this;cases this
 ·have:=x.e;rw[z,x.ob]at this;cases this
 ·have:=x.g;rw[z,x.ob]at this;cases this
 ·have:=x.bk.dc;rw[z,x.ob]at this;cases this
 ·rw[z,x.bk.dc]at hb;cases hb
 ·have:=x.w;rw[z,x.bk.dc]at this;cases this
 ·have:=x.e;rw[z,x.bk.dc]at this;cases this
 ·have:=x.g;rw[z,x.bk.dc]at this;cases this
 ·rw[z,x.w]at hb;cases hb
 ·rw[z,x.e]at hb;cases hb
 ·rw[z,x.g]at hb;cases hb
theorem AskAt.nb (x:AskAt K CA CB H a ad s wv gv rv zs ys us):ad.b≠a:=fun z=>by
 obtain⟨dx,hb⟩:=x.bk.ob
 rw[z,x.ob]at hb
 injection hb with hb
 injection hb with _ _ hb
 have h1:=qU_ (fun l=>List.lookup ("wish" : Str) l) hb
 rw[OR,HK _ _ (by decide +kernel) (by decide +kernel)]at h1
 cases h1
theorem AskAt.put (x:AskAt K CA CB H a ad s wv gv rv zs ys us)   (hL:s'.L=s.L)(hm:s'.most=s.most)(hW:s'.W=s.W)(hE:s'.E=s.E)(hG:s'.G=s.G)(hes:s'.es=s.es)(g':GV K H s'.L gv' s'.gs)(r':RV H rv' s'.wr):AskAt K CA CB (upd H a (.ins CA ad.dx (afl wv' s.L s.most ad.b ad.pw ad.pe ad.pg gv' rv'))) a ad s' wv' gv' rv' zs ys us:=by
 obtain⟨n1,n2,n3,n4,n5,n6,n7,n8,n9,n10,n11⟩:=x.na
 have tk:=x.tkob (.ins CA ad.dx (afl wv' s.L s.most ad.b ad.pw ad.pe ad.pg gv' rv'))
 exact⟨by rw[Ab,hL,hm],by rw[hL,hes];exact BookAt.tk x.bk (fun o h=>by rw[Ag x.nb];exact h) (fun o h=>by rw[Ag n4];exact h),by rw[Ag n1];exact x.w,by rw[hW];exact x.wW.mono tk,by rw[Ag n2];exact x.e,by rw[hE];exact x.eW.mono tk,by rw[Ag n3];exact x.g,by rw[hG];exact x.gW.mono tk,x.we,x.wg,x.eg,g'.mono tk,r'.mono tk⟩
theorem AskAt.putF (x:AskAt K CA CB H a ad s wv gv rv zs ys us)(o:HO):Frm H (upd H a o) a ad:=⟨fun y o' h n _ _ _ _=>by rw[Ag n];exact h,fun y h=>by
 by_cases z:y=a
 ·rw[z,Ab]at h;cases h
 ·rwa [Ag z]at h⟩
end
inductive Goes:AS->AS->Wish->Prop where
 | stop {s s':AS} {x:Wish}:EV s=(s',some x)->Goes s s' x
 | more {s s1 s':AS} {x:Wish}:EV s=(s1,none)->Goes s1 s' x->Goes s s' x
theorem Goes.ok {B:Nat}   (g:Goes s s' x)(o:OkX none B s):WOk B s' x/\Kept s s':=by
 induction g with
 |stop h=>exact (OQ o).2 _ _ h
 |more h _ ih=>
  obtain⟨o1,k1,_⟩:=(OQ o).1 _ h
  obtain⟨o2,k2⟩:=ih o1
  exact⟨o2,⟨k2.l.trans k1.l,k2.m.trans k1.m,k2.e.trans k1.e⟩⟩
structure Sz (s:AS):Prop where
 l6:s.L<=6
 w:s.W.length<=13/\∀v∈s.W,v.length<=50
 e:s.E.length<=20/\∀v∈s.E,v.length<=500
 b:∀p∈s.es,p.1.length<=600
theorem XT (ys:α2)(m:Nat):cutV (ys.map V.int) (some (m:Int)) none=(ys.drop m).map V.int:=by
 rw[EC_]
 unfold cutI
 rw[HT.sIx_nat,HT.sIx_none]
 congr 1
 by_cases h:m<=ys.length
 ·rw[Nat.min_eq_left h,q2_ (by rw[qI_];lia)]
 ·rw[Nat.min_eq_right s!"",List.drop_length,List.drop_of_length_le s!"",List.take_nil]
theorem HT_ (ws:α1)(v:α2)  (hi:i<=v.length):((U7 ws v).map V.int)[i]?=some (V.int (FO ws (v.take i))):=by
 unfold U7
 rw[ji_,ji_,qy_ s!""];rfl
theorem Frm.seq {H H1 H2:Hp}  {ad:AD}(f:Frm H H1 a ad)(g:Frm H1 H2 a ad):Frm H H2 a ad:=f.trans (AdOk.refl H ad) g
noncomputable def Bd (B:Nat)(s:AS):Prop:=B+(s.most+1)*(s.most+s.L)+s.most<=500
theorem OkX.sz  {B:Nat}  (o:OkX y B s)(h:Bd B s):Sz s:=by
 have tb:=o.tb
 have h1:=tb.wn
 have h2:=tb.m12
 have h3:=tb.en
 have h4:=o.lens
 have h5:=tb.l6
 unfold Bd at h
 refine⟨tb.l6,⟨by lia,fun v hv=>by have:=(tb.wW v hv).2;lia⟩,⟨by lia,fun v hv=>by have:=o.le v hv;lia⟩,fun p hp=>?_⟩
 have:=o.lb p hp
 split at this<;>lia
theorem Rw (wv:V)(L most:Int)(b pw pe pg:Addr)(gv rv:V):(afl wv L most b pw pe pg gv rv).length<1000:=by unfold afl;simp
section
variable {K:α3} {CA CB:Addr} {H H':Hp} {a:Addr} {ad:AD} {s:AS} {wv gv rv:V} {zs ys us:List V}
theorem AskAt.putW (x:AskAt K CA CB H a ad s wv gv rv zs ys us)   (h:Am K H zs' W'):AskAt K CA CB (upd H ad.pw (.lst zs')) a ad {s with W:=W' } wv gv rv zs' ys us:=by
 obtain⟨n1,n2,n3,n4,n5,n6,n7,n8,n9,n10,n11⟩:=x.na
 have tk:=TK.lst x.w (o:=.lst zs')
 exact⟨by rw[Ag (qj_ n1)];exact x.ob,BookAt.tk x.bk (fun o h=>by rw[Ag n9];exact h) (fun o h=>by rw[Ag (qj_ n6)];exact h),Ab,h.mono tk,by rw[Ag (qj_ x.we)];exact x.e,x.eW.mono tk,by rw[Ag (qj_ x.wg)];exact x.g,x.gW.mono tk,x.we,x.wg,x.eg,x.gv.mono tk,x.rv.mono tk⟩
theorem AskAt.putE (x:AskAt K CA CB H a ad s wv gv rv zs ys us)   (h:Am K H ys' E'):AskAt K CA CB (upd H ad.pe (.lst ys')) a ad {s with E:=E' } wv gv rv zs ys' us:=by
 obtain⟨n1,n2,n3,n4,n5,n6,n7,n8,n9,n10,n11⟩:=x.na
 have tk:=TK.lst x.e (o:=.lst ys')
 exact⟨by rw[Ag (qj_ n2)];exact x.ob,BookAt.tk x.bk (fun o h=>by rw[Ag n10];exact h) (fun o h=>by rw[Ag (qj_ n7)];exact h),by rw[Ag x.we];exact x.w,x.wW.mono tk,Ab,h.mono tk,by rw[Ag (qj_ x.eg)];exact x.g,x.gW.mono tk,x.we,x.wg,x.eg,x.gv.mono tk,x.rv.mono tk⟩
theorem AskAt.putG (x:AskAt K CA CB H a ad s wv gv rv zs ys us)   (h:Am K H us' G'):AskAt K CA CB (upd H ad.pg (.lst us')) a ad {s with G:=G' } wv gv rv zs ys us':=by
 obtain⟨n1,n2,n3,n4,n5,n6,n7,n8,n9,n10,n11⟩:=x.na
 have tk:=TK.lst x.g (o:=.lst us')
 exact⟨by rw[Ag (qj_ n3)];exact x.ob,BookAt.tk x.bk (fun o h=>by rw[Ag n11];exact h) (fun o h=>by rw[Ag (qj_ n8)];exact h),by rw[Ag x.wg];exact x.w,x.wW.mono tk,by rw[Ag x.eg];exact x.e,x.eW.mono tk,Ab,h.mono tk,x.we,x.wg,x.eg,x.gv.mono tk,x.rv.mono tk⟩
theorem Frm.put   (h:q=ad.pw\/q=ad.pe\/q=ad.pg\/q=ad.d)(hq:∃o,H q=some o):Frm H (upd H q o) a ad:=by
 refine⟨fun y o' hy n1 n2 n3 n4 n5=>?_,fun y hy=>?_⟩
 ·rw[Ag (fun z=>by rcases h with h|h|h|h<;>subst h<;>contradiction)];exact hy
 ·by_cases z:y=q
  ·rw[z,Ab]at hy;cases hy
  ·rwa [Ag z]at hy
end
theorem Ne_ {i n:Nat}(h:i<n):seqIndex? (i:Int) n=some i:=by
 unfold seqIndex?
 simp[show ¬ (i:Int)<0 by lia,h]
theorem Am.tail39 {K:α3}     (h:Am K H us (c::r)):Am K H (us.eraseIdx 0) r:=by
 cases us with
 |nil=>have:=h.1;cases this
 |cons u us=>
  refine⟨?_,fun i w hi=>?_⟩
  ·have:=h.1
   simpa using this
  ·exact h.2 (i+1) w (by simpa using hi)
theorem FK_    (h:mkO es b=none)(hb:b≠c):mkO (es++[(c,m)]) b=none:=by
 refine US fun z=>?_
 rw[jn_]at z
 rcases jK_.mp z with z|z
 ·obtain⟨n,hn⟩:=Vt.mp z
  rw[h]at hn;cases hn
 ·exact hb (js_.mp z)
theorem OkX.told  {B:Nat}  (o:OkX y B s)   (hy:∀b,y=some b->b=c)(hn:c∉s.es.map (·.1))(hc:isW s.L c=true/\c ≠ [])(h0:0<=m)(h9:m<=1000000000)(hl:c.length<=B+(s.most+1)*s.E.length+(if s.wr.isSome then s.most else 0))(hg:c∉s.G):OkX none B {s with es:=s.es++[(c,m)]}:=by
 have gr:=Grow.snoc s.es c m
 refine⟨o.tb.put hn hc.1 h0 h9,fun b hb=>?_,o.gn,fun b hb=>?_,o.le,fun p hp=>?_,fun p hp=>?_,fun v hv=>?_⟩
 ·rcases o.cov b hb with ⟨z,hz⟩|z|z
  ·exact .inl ⟨z,gr _ _ hz⟩
  ·exact .inr (.inl z)
  ·have:=hy b z
   subst this
   exact .inl ⟨m,K6 (o.tb.put hn hc.1 h0 h9).nd (by simp)⟩
 ·obtain⟨h1,h2,h3⟩:=o.gW b hb
  exact⟨h1,FK_ h2 (fun z=>hg (z ▸ hb)),h3⟩
 ·rcases jK_.mp hp with hp|hp
  ·exact o.lb p hp
  ·rw[js_.mp hp];exact hl
 ·rcases jK_.mp hp with hp|hp
  ·exact o.ne p hp
  ·rw[js_.mp hp];exact hc.2
 ·obtain⟨h1,h2,h3,h4,mm,ws,t,h5,h6,h7,h8⟩:=o.wr v hv
  exact⟨h1,h2,h3,h4,mm,ws,t,h5,h6.mono gr,gr _ _ h7,h8⟩
section
variable {K:α3} {CA CB:Addr} {H H':Hp} {a:Addr} {ad:AD} {s:AS} {wv gv rv:V} {zs ys us:List V}
theorem AskAt.putB (x:AskAt K CA CB H a ad s wv gv rv zs ys us)  (hb:BookAt CB H' ad.b ad.d s.L es')(hf:∀b o,H b=some o->b≠ad.d->H' b=some o):AskAt K CA CB H' a ad {s with es:=es' } wv gv rv zs ys us/\Frm H H' a ad/\TK H H':=by
 obtain⟨n1,n2,n3,n4,n5,n6,n7,n8,n9,n10,n11⟩:=x.na
 have tk:TK H H':=fun t ts h=>hf t _ h (fun z=>by rw[z,x.bk.dc]at h;cases h)
 refine⟨⟨hf _ _ x.ob (qj_ n4),hb,hf _ _ x.w n6,x.wW.mono tk,hf _ _ x.e n7,x.eW.mono tk,hf _ _ x.g n8,x.gW.mono tk,x.we,x.wg,x.eg,x.gv.mono tk,x.rv.mono tk⟩,⟨fun y o h _ n _ _ _=>hf _ _ h n,fun y h=>?_⟩,tk⟩
 cases hy:H y with
 |none=>rfl
 |some o=>
  by_cases z:y=ad.d
  ·rw[z,hb.dc]at h;cases h
  ·rw[hf _ _ hy z]at h;cases h
end
noncomputable def fE57 (L:Nat):α1:=(List.range L).map fun x:Nat=>[(x:Int)]
noncomputable def s039 (L most:Nat):AS:={L:=L,most:=most,W:=[[]],E:=fE57 L,G:=Lr L [[]] (fE57 L) [],gs:=none,wr:=none,es:=[]}
theorem HU_  (B:Nat)(b1:1<=B)(l1:1<=L)(l6:L<=6)(m1:1<=most)(m12:most<=12):OkX none B (s039 L most):=by
 have hw:∀v ∈ [([]:α2)],isW (L:Int) v=true/\v.length < [([]:α2)].length:=fun v hv=>by
  rw[js_.mp hv];exact⟨CG.mpr fun x hx=>(by cases hx),by simp⟩
 have hEl:(fE57 L).length=L:=by unfold fE57;rw[jb_,j4_]
 have hE:∀e∈fE57 L,(isW (L:Int) e=true/\e ≠ [])/\e.length+(most+1)<=B+(most+1)*(fE57 L).length:=fun v hv=>by
  obtain⟨x,hx,rfl⟩:=jH_.mp hv
  have hx:=qt_.mp hx
  have hm:(most+1)*1<=(most+1)*(fE57 L).length:=zg_ _ s!""
  refine⟨⟨CG.mpr fun y hy=>?_,by simp⟩,?_⟩
  ·rw[js_.mp hy];lia
  ·rw[jp_];lia
 obtain⟨c1,c2,c3⟩:=Dx_ (B:=B) (s:=s039 L most) (W:=[[]]) (E:=fE57 L) hw (by show 1<=most;lia) hE
 refine⟨⟨l1,l6,m12,rfl,hw,by show 1<=most;lia,q2_ (by show (fE57 L).length<=L;lia),fun e he=>(hE e he).1,xw_,fun p hp=>(by cases hp),fun i j v u h1 h2 h3=>?_,.inl (by show (fE57 L).length+1<=1+L;lia)⟩,c1,c2,c3,fun e he=>(hE e he).2,fun p hp=>(by cases hp),fun p hp=>(by cases hp),fun v hv=>(by cases hv)⟩
 have h1:=(jc_.mp h1).1
 have h2:=(jc_.mp h2).1
 have h1:i<1:=h1
 have h2:j<1:=h2
 lia
theorem OS {l k:α1}(h:l.Nodup)(hs:∀x∈l,x∈k):l.length<=k.length:=by
 induction l generalizing k with
 |nil=>simp
 |cons a l ih=>
  rw[qE_]at h
  have ha:=hs a jG_
  have h1:∀x∈l,x∈k.erase a:=fun x hx=>by
   refine (List.mem_erase_of_ne ?_).mpr (hs x (ju_ _ hx))
   intro z;subst z;exact h.1 hx
  have:=ih h.2 h1
  rw[List.length_erase_of_mem ha]at this
  have hp:=List.length_pos_of_mem ha
  rw[jL_];lia
noncomputable def bq:Nat->Nat->Nat
 |0,_=>0
 |f+1,n=>if n<=1 then 0 else bq f ((n+1) / 2)+1
theorem Lw_:∀f n,bq f n<=f
 |0,_=>jl_ _
 |f+1,n=>by
  unfold bq
  have:=Lw_ f ((n+1) / 2)
  split<;>lia
theorem YH:∀(f:Nat) {k n:Nat},k<=n->bq f k<=bq f n
 |0,_,_,_=>jl_ _
 |f+1,k,n,h=>by
  unfold bq
  have:=YH f (show (k+1) / 2<=(n+1) / 2 by lia)
  split<;>split<;>lia
theorem Rx (f n:Nat):bq (f+1) n=if n<=1 then 0 else bq f ((n+1) / 2)+1:=rfl
theorem HV_:∀(f:Nat) {n:Nat},n<=2 ^ f->bq (f+1) n=bq f n
 |0,n,h=>by
  have h:n<=1:=h
  rw[Rx,if_pos h]
  rfl
 |f+1,n,h=>by
  rw[Nat.pow_succ]at h
  by_cases h1:n<=1
  ·rw[Rx (f+1),if_pos h1,Rx f,if_pos h1]
  ·rw[Rx (f+1),if_neg h1,HV_ f s!"",Rx f n,if_neg h1]
theorem HW_  (h1:1<n)(h2:n<=1024)(hk:k<=(n+1) / 2):bq 10 k+1<=bq 10 n:=by
 have a:=YH 10 hk
 have b:bq 10 ((n+1) / 2)=bq 9 ((n+1) / 2):=HV_ 9 (show (n+1) / 2<=512 by lia)
 have c:bq 10 n=bq 9 ((n+1) / 2)+1:=by rw[Rx,if_neg s!""]
 lia
noncomputable def Vx (es:Bk)(W ws:α1)(v:α2)(mk:Int):Nat->Nat->Nat->Nat
 |0,_,_=>0
 |f+1,lo,hi=>if hi-lo > 1 then (match mkO es (JA W ws v ((lo+hi) / 2)++v.drop ((lo+hi) / 2)) with
   |none=>bq 10 (hi-lo)
   |some t=>if t=mk then Vx es W ws v mk f lo ((lo+hi) / 2) else Vx es W ws v mk f ((lo+hi) / 2) hi) else 0
theorem Og (es:Bk)(W ws:α1)(v:α2)(mk:Int):∀f lo hi,Vx es W ws v mk f lo hi<=bq 10 (hi-lo)
 |0,lo,hi=>qp_ _
 |f+1,lo,hi=>by
  unfold Vx
  by_cases hg:hi-lo > 1
  ·rw[if_pos hg]
   cases hm:mkO es (JA W ws v ((lo+hi) / 2)++v.drop ((lo+hi) / 2)) with
   |none=>exact jl_ _
   |some t=>
    dsimp only
    split
    ·exact qi_ (Og es W ws v mk f _ _) (YH 10 s!"")
    ·exact qi_ (Og es W ws v mk f _ _) (YH 10 s!"")
  ·rw[if_neg hg];exact qp_ _
theorem Ry {es:Bk}{W ws:α1}{v:α2}{mk:Int}{c:α2}{m:Int}(nd:((es++[(c,m)]).map (·.1)).Nodup):∀f lo hi,hi-lo<=1024->Kw es W ws v mk f lo hi=.ask c->Vx (es++[(c,m)]) W ws v mk f lo hi+1<=Vx es W ws v mk f lo hi
 |0,lo,hi,_,h=>by cases h
 |f+1,lo,hi,hz,h=>by
  unfold Kw at h
  unfold Vx
  by_cases hg:hi-lo > 1
  ·rw[if_pos hg]at h ⊢
   rw[if_pos hg]
   cases hm:mkO es (JA W ws v ((lo+hi) / 2)++v.drop ((lo+hi) / 2)) with
   |none=>
    rw[hm]at h
    have e:JA W ws v ((lo+hi) / 2)++v.drop ((lo+hi) / 2)=c:=by injection h
    rw[e,K6 nd (show (c,m)∈es++[(c,m)] by simp)]
    dsimp only
    split
    ·have h1:=Og (es++[(c,m)]) W ws v mk f lo ((lo+hi) / 2)
     have h2:=HW_ (n:=hi-lo) (k:=(lo+hi) / 2-lo) hg hz s!""
     lia
    ·have h1:=Og (es++[(c,m)]) W ws v mk f ((lo+hi) / 2) hi
     have h2:=HW_ (n:=hi-lo) (k:=hi-(lo+hi) / 2) hg hz s!""
     lia
   |some t=>
    rw[hm]at h
    dsimp only at h
    rw[Grow.snoc es c m _ _ hm]
    dsimp only
    by_cases ht:t=mk
    ·rw[if_pos ht]at h ⊢
     rw[if_pos ht]
     exact Ry nd f _ _ s!"" h
    ·rw[if_neg ht]at h ⊢
     rw[if_neg ht]
     exact Ry nd f _ _ s!"" h
  ·rw[if_neg hg]at h;cases h
noncomputable def Im (s:AS):α1:=IA (B7 s.L s.W) s.E
noncomputable def nonA (A:α1)(s:AS):Nat:=A.countP fun c=>decide (c∉Im s)
structure J59 (A W0 E0:α1)(st:Prop)(s:AS):Prop where
 gc:∀c∈s.G,c∈Im s
 n0:s.wr=none->nonA A s+10*s.L<=10*s.E.length
 n1:∀v m ws,s.wr=some v->s.gs=some (m,ws)->nonA A s+10*s.L+Vx s.es s.W ws v (lsay m ws v) v.length 0 (v.length-1)<=10*s.E.length+10
 ac:∀(k:Nat) (v:α2),s.W[k]?=some v->0<k->∃(j:Nat) (u:α2) (x:Nat),j<k/\s.W[j]?=some u/\x<s.L/\v=u++[(x:Int)]
 en:s.E.Nodup
 gw:W0 <+: s.W
 ge:E0 <+: s.E
 gs:st->W0.length<s.W.length\/s.wr.isSome=true\/Pend s.L s.W s.E s.es
noncomputable def JX59 (s:AS):Wish->Prop
 |.ask c=>(s.wr=none->c∈Im s)/\∀v m ws,s.wr=some v->s.gs=some (m,ws)->Kw s.es s.W ws v (lsay m ws v) v.length 0 (v.length-1)=.ask c
 |.shown m ws=>E4 s.L s.W s.E s.es=none/\m=Cb s.L s.W s.E s.es/\ws=EM s.L s.W s.E s.es
 |.done _ _=>E4 s.L s.W s.E s.es=none
 |.spent _=>True
theorem Br_   (hc:∀c∈Im s,c∈Im s'):nonA A s'<=nonA A s:=by
 unfold nonA
 refine List.countP_mono_left fun p _ h=>?_
 simp only[qo_]at h ⊢
 exact fun z=>h (hc _ z)
theorem Rz     (h:c∈Lr L W E es):c∈IA (B7 L W) E:=(xb_.mp h).1
theorem Dy_     (h:v∈B7 L W):v∈B7 L (W++[r]):=by
 rcases AV.mp h with h|⟨a,ha,y,hy,e⟩
 ·exact AV.mpr (.inl (j9_ _ h))
 ·exact AV.mpr (.inr ⟨a,j9_ _ ha,y,hy,e⟩)
theorem Jf_ {B:Nat}{A W0 E0:α1}{st:Prop}  (o:OkX none B s)(j:J59 A W0 E0 st s)(hG:s.G=[])(hw:s.wr=none):(∀s',Jd s=(s',none)->J59 A W0 E0 st s')/\∀s' x,Jd s=(s',some x)->J59 A W0 E0 st s'/\JX59 s' x:=by
 have tb:=o.tb
 have full:=o.full hG
 unfold Jd
 cases hst:E4 s.L s.W s.E s.es with
 |some r=>
  obtain⟨⟨r1,r2,r3,r4⟩,_⟩:=tb.more full hst
  dsimp only
  by_cases hm:s.W.length=s.most
  ·rw[if_pos hm]
   exact⟨fun s' z=>(by cases z),fun s' x z=>(by cases z;exact⟨j,trivial⟩)⟩
  ·rw[if_neg hm]
   refine⟨fun s' z=>?_,fun s' x z=>(by cases z)⟩
   cases z
   refine⟨fun c hc=>Rz hc,fun _=>?_,fun v m ws hv=>?_,fun k v hk k0=>?_,j.en,j.gw.trans (List.prefix_append _ _),j.ge,fun _=>.inl ?_⟩
   ·have h1:=Br_ (A:=A) (s:=s) (s':={s with W:=s.W++[r],G:=Lr s.L (s.W++[r]) s.E s.es}) (fun c hc=>by
     obtain⟨q,hq,e,he,rfl⟩:=B5.mp hc
     exact B5.mpr ⟨q,Dy_ hq,e,he,rfl⟩)
    have:=j.n0 hw
    show nonA A _+10*s.L<=10*s.E.length
    lia
   ·rw[show s.wr=some v from hv]at hw;cases hw
   ·have hk:(s.W++[r])[k]?=some v:=hk
    show ∃(j:Nat) (u:α2) (x:Nat),j<k/\(s.W++[r])[j]?=some u/\x<s.L/\v=u++[(x:Int)]
    have hkl:=(jc_.mp hk).1
    rw[jj_,jp_]at hkl
    by_cases hkk:k<s.W.length
    ·rw[jw_ hkk]at hk
     obtain⟨i,u,x,q1,q2,q3,q4⟩:=j.ac k v hk k0
     exact⟨i,u,x,q1,by rw[jw_ s!""];exact q2,q3,q4⟩
    ·rw[jJ_ s!"",show k-s.W.length=0 by lia]at hk
     cases hk
     rcases AV.mp r1 with h|⟨a,ha,x,hx,rfl⟩
     ·exact absurd h r2
     ·obtain⟨i,hi⟩:=jW_.mp ha
      have hil:=(jc_.mp hi).1
      exact⟨i,a,x,by lia,by rw[jw_ hil];exact hi,hx,rfl⟩
   ·have:=j.gw.length_le
    show W0.length<(s.W++[r]).length
    rw[jj_,jp_];lia
 |none=>
  obtain⟨np,cl⟩:=tb.none full hst
  dsimp only
  cases hf:D9 s.es (Cb s.L s.W s.E s.es) (EM s.L s.W s.E s.es) with
  |none=>
   refine⟨fun s' z=>(by cases z),fun s' x z=>?_⟩
   cases z
   refine⟨⟨j.gc,fun _=>j.n0 hw,fun v m ws hv=>(by cases hv),j.ac,j.en,j.gw,j.ge,fun z=>?_⟩,hst,rfl,rfl⟩
   rcases j.gs z with h|h|h
   ·exact .inl h
   ·rw[hw]at h;cases h
   ·exact absurd h np
  |some v=>
   refine⟨fun s' z=>?_,fun s' x z=>(by cases z)⟩
   cases z
   refine⟨j.gc,fun z=>(by cases z),fun v' m ws hv hg=>?_,j.ac,j.en,j.gw,j.ge,fun _=>.inr (.inl rfl)⟩
   have h1:=Og s.es s.W ws v' (lsay m ws v') v'.length 0 (v'.length-1)
   have h2:=Lw_ 10 (v'.length-1-0)
   have h3:=j.n0 hw
   have h4:nonA A s+10*s.L+Vx s.es s.W ws v' (lsay m ws v') v'.length 0 (v'.length-1)<=10*s.E.length+10:=by lia
   exact h4
theorem Lx_    (t:Tb L most W E es)  (g:GuessOk L W E es m ws)  (hv:isW L v=true)  {mk b:Int}(h0:0<hi)(h1:hi<=v.length-1)(b1:mkO es (JA W ws v (hi-1)++v.drop (hi-1))=some b)(b2:b≠mk)(h3:mkO es (JA W ws v hi++v.drop hi)=some mk):v.drop hi∉E:=fun z=>by
 obtain⟨k,q1,q2⟩:=P5 t g hv (hi-1)
 obtain⟨k',q1',q2'⟩:=P5 t g hv hi
 have e1:hi-1+1=hi:=by lia
 have hlt:hi-1<v.length:=by lia
 obtain⟨x,k2,u2,ex,hx,p1,p2,p3⟩:=g.step t hv (jh_ hlt) q1 q2
 rw[e1,q1']at p1
 have:k'=k2:=Int.ofNat.inj p1
 subst this
 rw[q2']at p2
 cases p2
 obtain⟨y,y1,y2⟩:=p3 _ z
 rw[h3]at y2
 cases y2
 rw[xB_ hlt,ex,e1]at b1
 rw[xY_]at y1
 have y1:mkO es (JA W ws v (hi-1)++(x:Int)::v.drop hi)=some mk:=y1
 rw[b1]at y1
 exact b2 (jt_ y1)
theorem EP_ {B:Nat}{A W0 E0:α1}{st:Prop}  (o:OkX none B s)(j:J59 A W0 E0 st s):(∀s',EV s=(s',none)->J59 A W0 E0 st s')/\∀s' x,EV s=(s',some x)->J59 A W0 E0 st s'/\JX59 s' x:=by
 have no:=OQ o
 revert no
 unfold EV
 cases hG:s.G with
 |cons c r=>
  refine fun _=>⟨fun s' z=>(by cases z),fun s' x z=>?_⟩
  cases z
  have hwr:s.wr=none:=by
   cases h:s.wr with
   |none=>rfl
   |some v=>have:=(o.wr v h).1;rw[hG]at this;cases this
  refine⟨⟨fun b hb=>j.gc b (by rw[hG];exact ju_ _ hb),j.n0,j.n1,j.ac,j.en,j.gw,j.ge,j.gs⟩,fun _=>j.gc c (by rw[hG];exact jG_ ..),fun v m ws hv=>?_⟩
  rw[show s.wr=some v from hv]at hwr;cases hwr
 |nil=>
  cases hw:s.wr with
  |none=>exact fun _=>Jf_ o j hG hw
  |some v=>
   obtain⟨_,hE,hvW,hvl,m,ws,t,e1,g,ht,hne⟩:=o.wr v hw
   obtain⟨hvn,a0,aL,hv1⟩:=Vv o g hvW ht hne
   have key:=YG o.tb g hvW (mk:=lsay m ws v) v.length 0 (v.length-1) s!"" hv1 s!"" ⟨t,by rw[a0];exact ht,hne⟩ aL
   rw[e1]
   dsimp only
   unfold P4
   cases hh:Kw s.es s.W ws v (lsay m ws v) v.length 0 (v.length-1) with
   |ask c=>
    refine fun _=>⟨fun s' z=>(by cases z),fun s' x z=>?_⟩
    cases z
    refine⟨j,fun z=>(by rw[hw]at z;cases z),fun v' m' ws' hv' hg'=>?_⟩
    rw[hw]at hv'
    rw[e1]at hg'
    cases hv';cases hg'
    exact hh
   |fin hi=>
    rw[hh]at key
    obtain⟨h0,h1,⟨b,b1,b2⟩,h3⟩:=key
    refine fun no=>⟨fun s' z=>?_,fun s' x z=>(by cases z)⟩
    obtain⟨_,_,hmu⟩:=no.1 s' z
    cases z
    refine⟨fun c hc=>Rz hc,fun _=>?_,fun v m ws hv=>(by cases hv),j.ac,?_,j.gw,j.ge.trans (List.prefix_append _ _),fun _=>.inr (.inr ?_)⟩
    ·have h1:=Br_ (A:=A) (s:=s) (s':={s with wr:=none,E:=s.E++[v.drop hi],G:=Lr s.L s.W (s.E++[v.drop hi]) s.es}) (fun c hc=>by
      obtain⟨q,hq,e,he,rfl⟩:=B5.mp hc
      exact B5.mpr ⟨q,hq,e,j9_ _ he,rfl⟩)
     have h2:=j.n1 v m ws hw e1
     show nonA A _+10*s.L<=10*(s.E++[v.drop hi]).length
     rw[jj_,jp_]
     lia
    ·show (s.E++[v.drop hi]).Nodup
     rw[qA_]
     have hnew:=Lx_ o.tb g hvW h0 h1 b1 b2 h3
     exact⟨j.en,by simp,fun a ha b hb=>by rw[js_.mp hb];intro z;subst z;exact hnew ha⟩
    ·unfold mu at hmu
     rw[hw]at hmu
     simp only[q4_,q7_,xQ_,j5_,qM_]at hmu
     refine xz_ fun hp=>?_
     rw[if_neg hp]at hmu
     lia
theorem Goes.J59 {B:Nat}{A W0 E0:α1}{st:Prop}   (g:Goes s s' x)(o:OkX none B s)(j:J59 A W0 E0 st s):Mine.J59 A W0 E0 st s'/\JX59 s' x:=by
 induction g with
 |stop h=>exact (EP_ o j).2 _ _ h
 |more h _ ih=>
  obtain⟨o1,_,_⟩:=(OQ o).1 _ h
  exact ih o1 ((EP_ o j).1 _ h)
theorem J59.told {B:Nat}{A W0 E0:α1}{st:Prop}    (o:OkX (some c) B s)(hB:B+(s.most+1)*(s.most+s.L)<=1024)(j:J59 A W0 E0 st s)(x:JX59 s (.ask c))(hn:c∉s.es.map (·.1)):J59 (A++[c]) W0 E0 st {s with es:=s.es++[(c,m)]}:=by
 obtain⟨x1,x2⟩:=x
 have nd:((s.es++[(c,m)]).map (·.1)).Nodup:=by
  rw[jn_,qA_]
  exact⟨o.tb.nd,by simp,fun a ha b hb=>by rw[js_.mp hb];intro z;subst z;exact hn ha⟩
 have h2:nonA (A++[c]) {s with es:=s.es++[(c,m)]}<=nonA A s+1:=by
  show List.countP (fun c=>decide (c∉Im s)) (A++[c])<=List.countP (fun c=>decide (c∉Im s)) A+1
  rw[List.countP_append,List.countP_singleton]
  split<;>lia
 refine⟨j.gc,fun hw=>?_,fun v m' ws hv hg=>?_,j.ac,j.en,j.gw,j.ge,fun z=>?_⟩
 ·have h1:=j.n0 hw
  have h2:nonA (A++[c]) {s with es:=s.es++[(c,m)]}=nonA A s:=by
   show List.countP (fun c=>decide (c∉Im s)) (A++[c])=_
   rw[List.countP_append,List.countP_singleton,if_neg (by simp[x1 hw])]
   rfl
  rw[h2]
  exact h1
 ·have h1:=j.n1 v m' ws hv hg
  obtain⟨_,_,_,hvl,_⟩:=o.wr v hv
  have h4:=o.lens
  have h3:=Ry (W:=s.W) (ws:=ws) (v:=v) (mk:=lsay m' ws v) nd v.length 0 (v.length-1) s!"" (x2 v m' ws hv hg)
  have h5:nonA (A++[c]) {s with es:=s.es++[(c,m)]}+10*s.L+Vx (s.es++[(c,m)]) s.W ws v (lsay m' ws v) v.length 0 (v.length-1)<=10*s.E.length+10:=by lia
  exact h5
 ·rcases j.gs z with h|h|h
  ·exact .inl h
  ·exact .inr (.inl h)
  ·exact .inr (.inr (h.mono (Grow.snoc s.es c m)))
theorem UU    (f:Full L W E es)(g:Grow es es')  (hr:r∈B7 L W):gOf E es' r=gOf E es r:=by
 unfold gOf
 refine jZ_ fun e he=>?_
 obtain⟨m,hm⟩:=f (r++e) (B5.mpr ⟨r,hr,e,he,rfl⟩)
 rw[hm,g _ _ hm]
theorem NA_ {B:Nat}{A W0 E0:α1}{st:Prop}{s:AS}{m ws:α1}{w:α2}{n:Int}(o:OkX none B s)(hG:s.G=[])(hwr:s.wr=none)(j:J59 A W0 E0 st s)(x:JX59 s (.shown m ws))(hne:lsay m ws w≠n){s':AS}{y:Wish}(g:Goes {s with es:=s.es++[(w,n)]} s' y):∃s2,Goes s2 s' y/\J59 A s.W s.E True s2/\EV {s with es:=s.es++[(w,n)]}=(s2,none):=by
 obtain⟨hst,rfl,rfl⟩:=x
 have full:=o.full hG
 have gr:=Grow.snoc s.es w n
 have eW:s.W.map (gOf s.E (s.es++[(w,n)]))=s.W.map (gOf s.E s.es):=jZ_ fun v hv=>UU full gr (AV.mpr (.inl hv))
 have eS:E4 s.L s.W s.E (s.es++[(w,n)])=none:=by
  unfold E4 at hst ⊢
  rw[qs_]at hst ⊢
  intro v hv
  have:=hst v hv
  rw[eW,UU full gr hv]
  exact this
 have eM:Cb s.L s.W s.E (s.es++[(w,n)])=Cb s.L s.W s.E s.es:=by
  unfold Cb
  refine jZ_ fun v hv=>?_
  rw[UU full gr (AV.mpr (.inl hv))]
 have eY:EM s.L s.W s.E (s.es++[(w,n)])=EM s.L s.W s.E s.es:=by
  unfold EM
  rw[eW]
  refine jZ_ fun v hv=>jZ_ fun y hy=>?_
  rw[UU full gr (AV.mpr (.inr ⟨v,hv,y,qt_.mp hy,rfl⟩))]
 obtain⟨u,hu⟩:∃u,D9 (s.es++[(w,n)]) (Cb s.L s.W s.E s.es) (EM s.L s.W s.E s.es)=some u:=by
  unfold D9
  cases hf:(s.es++[(w,n)]).find? (fun e=>decide (lsay (Cb s.L s.W s.E s.es) (EM s.L s.W s.E s.es) e.1≠e.2)) with
  |some e=>exact⟨e.1,rfl⟩
  |none=>
   have:=qs_.mp hf (w,n) (by simp)
   simp[hne]at this
 have en:EV {s with es:=s.es++[(w,n)]}=({s with es:=s.es++[(w,n)],gs:=some (Cb s.L s.W s.E s.es,EM s.L s.W s.E s.es),wr:=some u},none):=by
  unfold EV
  rw[show ({s with es:=s.es++[(w,n)]}:AS).G=[] from hG]
  dsimp only
  rw[hwr]
  dsimp only
  unfold Jd
  dsimp only
  rw[eS]
  dsimp only
  rw[eM,eY,hu]
 have h7:=j.n0 hwr
 refine⟨{s with es:=s.es++[(w,n)],gs:=some (Cb s.L s.W s.E s.es,EM s.L s.W s.E s.es),wr:=some u},?_,⟨j.gc,fun z=>(by cases z),fun v m ws hv hg=>?_,j.ac,j.en,xD_ _,xD_ _,fun _=>.inr (.inl rfl)⟩,en⟩
 ·cases g with
  |stop h=>rw[en]at h;cases h
  |more h g=>rw[en]at h;cases h;exact g
 ·have h1:=Og (s.es++[(w,n)]) s.W ws v (lsay m ws v) v.length 0 (v.length-1)
  have h3:=Lw_ 10 (v.length-1-0)
  have h5:nonA A s+10*s.L+Vx (s.es++[(w,n)]) s.W ws v (lsay m ws v) v.length 0 (v.length-1)<=10*s.E.length+10:=by lia
  exact h5
theorem J59.start (L most:Nat):J59 [] [[]] [] False (s039 L most):=by
 refine⟨fun c hc=>Rz hc,fun _=>?_,fun v m ws hv=>(by cases hv),fun k v hk k0=>?_,?_,xD_ _,List.nil_prefix,fun z=>z.elim⟩
 ·show 0+10*L<=10*(fE57 L).length
  unfold fE57;rw[List.length_map,List.length_range];lia
 ·have h1:=(jc_.mp hk).1
  have h1:k<1:=h1
  lia
 ·show (fE57 L).Nodup
  unfold fE57
  rw[qe_,zo_]
  refine List.Pairwise.imp ?_ (qe_.mp List.nodup_range)
  intro a b h z
  injection z with z
  lia
theorem J59.rows {A W0 E0:α1}{st:Prop}  (w0:s.W[0]?=some [])(j:J59 A W0 E0 st s):(B7 s.L s.W).length<=1+s.W.length*s.L:=by
 have h:=OS (l:=B7 s.L s.W) (k:=[]::s.W.flatMap (extW s.L)) (GA (GA xw_)) fun v hv=>by
  have key:∀a∈s.W,∀x:Nat,x<s.L->a++[(x:Int)]∈s.W.flatMap (extW s.L):=fun a ha x hx=>xl_.mpr ⟨a,ha,jH_.mpr ⟨x,qt_.mpr hx,rfl⟩⟩
  rcases AV.mp hv with h|⟨a,ha,x,hx,rfl⟩
  ·obtain⟨k,hk⟩:=jW_.mp h
   by_cases k0:0<k
   ·obtain⟨i,u,x,_,hu,hx,rfl⟩:=j.ac k v hk k0
    exact ju_ _ (key u (jf_ hu) x hx)
   ·rw[show k=0 by lia,w0]at hk
    cases hk
    exact jG_
  ·exact ju_ _ (key a ha x hx)
 have e:(s.W.flatMap (extW s.L)).length=s.W.length*s.L:=by
  rw[q1_]
  generalize s.W=l
  induction l with
  |nil=>simp
  |cons a l ih=>rw[jQ_,List.sum_cons,ih,extW,jb_,j4_,jL_,Nat.succ_mul];lia
 rw[jL_,e]at h
 lia
theorem Dz_ (R E:α1):(IA R E).length<=R.length*E.length:=by
 unfold IA
 have a1:=C4 (R.flatMap fun r=>E.map (r ++ ·)) []
 have a2:(R.flatMap fun r=>E.map (r ++ ·)).length=R.length*E.length:=by
  rw[q1_]
  generalize R=l
  induction l with
  |nil=>simp
  |cons a l ih=>rw[jQ_,List.sum_cons,ih,jb_,jL_,Nat.succ_mul];lia
 rw[a2,xd_]at a1
 lia
theorem J59.few {A W0 E0:α1}{st:Prop}  (w0:s.W[0]?=some [])(j:J59 A W0 E0 st s)(nd:A.Nodup):A.length<=(1+s.W.length*s.L)*s.E.length+nonA A s:=by
 have h1:=List.length_eq_countP_add_countP (l:=A) (fun c=>decide (c∉Im s))
 have h3:A.countP (fun p=>decide (¬ decide (p∉Im s)=true))<=(Im s).length:=by
  rw[List.countP_eq_length_filter]
  refine OS (nd.filter _) fun c hc=>?_
  have:=(xb_.mp hc).2
  simpa using this
 have h4:(Im s).length<=(1+s.W.length*s.L)*s.E.length:=qi_ (Dz_ _ _) (Nat.mul_le_mul_right _ (j.rows w0))
 unfold nonA
 lia
noncomputable def Vy (marks ways:α1)(tr:α2×Int):Bool:=decide (lsay marks ways tr.1≠tr.2)
noncomputable def MQ (K:α3)(fm:Addr):Sp:=fun vs H Q _=>∃(l h:Addr) (L:Int) (marks ways:α1) (rs:List V) (es:List (α2×Int)),vs=[.ref l,.ref fm,.ref h]/\SqL K H l rs/\Hs H rs es/\TF K H h L marks ways/\WfS L marks ways/\(∀e∈es,(isW L e.1=true/\e.1 ≠ [])/\e.1.length<=600) /\
 ∀H',Same H H'->((∀e∈es,Vy marks ways e=false)->Q .non H')/\∀(i:Nat) (e:α2×Int) (t:Addr),(∀j,j<i->∀e',es[j]?=some e'->Vy marks ways e'=false)->es[i]?=some e->Vy marks ways e=true->H' t=some (.tup (e.1.map V.int))->Q (.ref t) H'
theorem Vz   (F:Fun K "first_unlike" "first_unlike" DW f fd)(T:Txt mg)
  (W:Own K mg C_j7 C_j9 C_ji C_ja C_j1 C_j4)
  (Z:Exs K mg C_j8 C_j5 C_j6 C_j3 C_j2 C_j0)
   (Fn:FnOk P w K mg base (CXe P w) 5 BK Ew ["house","word"] (JH K C_j5)) (D1:Fun K "last_said" "last_said" EF BK Ew) (Fo:Binds K Ew ["house","word"] []) (Fp:mg "last_said"=some (.ref BK))
  : FnOk P w K mg base CX0 6 f fd ["heard","answer","house"] (MQ K BK):=by
 refine F.ok I0 (fun vs H Q E h=>?_) (fun cdv A outer s H vs Q E hr h=>?_)
 ·obtain⟨l,h,L,marks,ways,rs,es,rfl,_⟩:=h;rfl
 ·obtain⟨l,h,L,marks,ways,rs,es,rfl,hl1,ht,hh,wf,hes,k⟩:=h
  refine⟨_,(Ac (E6 jz_ rfl (Ge (pvD 0)) (Eq_ rfl (JC (Bl (i:=3) I0.nd rfl (Or.inl rfl)) (JC (Bl (i:=4) I0.nd rfl (Or.inl rfl)) X1)))
   (Af (B6 (ptT (AE (opN Ra) (IP_ 1 Fn (hr.mono (by decide)) D1.kp Fo .nil (Rb (P:=P) (w:=w)) (Aa (pvD 2) (Aa (pvD 3) Ae))) (pvD 4) (AZ _)))
   (Af (An (pvD 3)))
   AK)))
   (Af (An Gk))),?_⟩
  walk_at "rd"
  refine⟨⟨_,hl1⟩,?_⟩
  obtain⟨Pv,hPv⟩:∃Pv:Nat->St->Hp->Prop,∀i σ' H',Pv i σ' H'↔(Same H H'/\(∀j,j<i->∀e,es[j]?=some e->Vy marks ways e=false)/\∃o o',σ'=[some (.ref l),some (.ref BK),some (.ref h),o,o']):=⟨_,fun _ _ _=>qG_⟩
  refine forL (xs:=rs) Pv ((hPv _ _ _).mpr ⟨Same.refl _,fun j hj=>absurd hj (Nat.not_lt_zero _),none,none,rfl⟩) (fun i σ2 H2 _ h2=>((hPv _ _ _).mp h2).1.seq hl1) (fun i x σ2 H2 hx h2=>?_) (fun σ2 H2 h2=>?_)
  ·obtain⟨s2,hall,o,o',rfl⟩:=(hPv _ _ _).mp h2
   have hi:i<es.length:=by rw[<-ht.1];exact (jc_.mp hx).1
   have hei:es[i]?=some es[i]:=by simp[hi]
   obtain⟨t,wt,e1,e2,e3⟩:=ht.2 i _ hei
   rw[hx]at e1
   cases e1
   have hok:=hes _ (jf_ hei)
   generalize es[i]=e at hei e2 e3 hok
   walk_at "rd"
   refine⟨_,SqT.of (s2 _ _ e2),rfl,_,_,rfl,_,_,rfl,rfl,h,wt,L,marks,ways,e.1,rfl,hh.mono s2,wf,SqT.of (s2 _ _ e3),hok.2,fun _ hne H3 x s3 hx3=>?_,fun z=>by rcases z with z|z;(rw[hok.1.1]at z;cases z);exact absurd z hok.1.2⟩
   have hlx:x=lsay marks ways e.1:=by
    unfold lsay
    rw[jq_,hx3];rfl
   subst hlx
   refine⟨rfl,?_⟩
   by_cases hw:lsay marks ways e.1=e.2
   ·rw[if_neg (by rw[hw];simp)]
    refine (hPv _ _ _).mpr ⟨s2.trans s3,fun j hj e' hj'=>?_,_,_,rfl⟩
    by_cases hji:j<i
    ·exact hall j hji e' hj'
    ·have ej:j=i:=by lia
     subst ej
     rw[hei]at hj'
     cases hj'
     exact jY_ fun z=>z hw
   ·rw[if_pos (by simp[hw])]
    exact (k _ (s2.trans s3)).2 i e wt hall hei (jR_ hw) ((s2.trans s3) _ _ e3)
  ·obtain⟨s2,hall,o,o',rfl⟩:=(hPv _ _ _).mp h2
   walk_at "rd"
   refine (k _ s2).1 fun e he=>?_
   obtain⟨j,hj,ej⟩:=j6_ he
   exact hall j (by rw[ht.1];exact hj) e (by rw[jh_ hj,ej])
theorem EQ_ (f:Str)(v:V):∀fs:List (Str×V),(putF f v fs).length<=fs.length+1
 |[]=>by simp[putF]
 | (g,x)::r=>by
  unfold putF
  split
  ·simp
  ·have:=EQ_ f v r
   rw[jL_,jL_];lia
theorem HX_   (hW:W.length<=100)(hL:L<=6)(hE:E.length<=100):(IA (B7 L W) E).length<=100000:=by
 unfold IA
 have h1:=C4 ((B7 L W).flatMap fun r=>E.map (r ++ ·)) []
 have h2:((B7 L W).flatMap fun r=>E.map (r ++ ·)).length=(B7 L W).length*E.length:=by
  rw[q1_]
  generalize B7 L W=l
  induction l with
  |nil=>simp
  |cons a l ih=>rw[jQ_,List.sum_cons,ih,jb_,jL_,Nat.succ_mul];lia
 have h3:=Bp_ L W
 have h4:W.length*L<=100*6:=j8_ hW hL
 have h5:(B7 L W).length*E.length<=700*100:=j8_ s!"" hE
 rw[h2,xd_]at h1
 lia
noncomputable def ER_ (CA:Addr):Sp:=fun vs H Q _=>∃(a dx:Addr) (fs:List (Str×V)),vs=[.ref a]/\H a=some (.ins CA dx fs)/\fs.length<1000/\Q .non (upd H a (.ins CA dx (putF "wish" .non fs)))
theorem YI   (F:Fun K "__init__" "Turns.__init__" Fb f fd)(T:Txt mg)
  (W:Own K mg C_j7 C_j9 C_ji C_ja C_j1 C_j4)
  (Z:Exs K mg C_j8 C_j5 C_j6 C_j3 C_j2 C_j0)
  : FnOk P w K mg base CX0 1 f fd ["self"] (ER_ C_j1):=by
 refine F.ok Yp (fun vs H Q E h=>?_) (fun cdv A outer s H vs Q E hr h=>?_)
 ·obtain⟨a,dx,fs,rfl,_⟩:=h;rfl
 ·obtain⟨a,dx,fs,rfl,ha,hz,k⟩:=h
  refine⟨_,(Af (Gm (pvD 0) Gk rfl)),?_⟩
  walk_at "rd"
  exact⟨_,_,_,ha,W.cl_j1,W.n_SayHunt_wish,hz,k⟩
noncomputable def ES_ (CA:Addr):Sp:=fun vs H Q _=>∃(a dx b pw pe:Addr) (L most:Int),vs=[.ref a,.int L,.int most,.ref b,.ref pw,.ref pe]/\H a=some (.ins CA dx [])/\∀(pg:Addr) (H':Hp),H pg=none->H' a=some (.ins CA dx (afl .non L most b pw pe pg .non .non))->H' pg=some (.lst [])->(∀x o,H x=some o->x≠a->H' x=some o)->(∀x,H' x=none->H x=none)->Q .non H'
theorem Bs_   (F:Fun K "__init__" "Hunt.__init__" Gh f fd)(T:Txt mg)
  (W:Own K mg C_j7 C_j9 C_ji C_ja C_j1 C_j4)
  (Z:Exs K mg C_j8 C_j5 C_j6 C_j3 C_j2 C_j0)
   (MR:FnOk P w K mg base CX0 1 Fq P6 ["self"] (ER_ C_j1)) (JJ:Fun K "__init__" "Turns.__init__" Fb Fq P6) (MS:Binds K P6 ["self"] []) (MT:CMeth K C_j9 "__init__" Fq)
  : FnOk P w K mg base CX0 3 f fd ["self","letters","most","book","ways","ends"] (ES_ C_j1):=by
 refine F.ok Bi_ (fun vs H Q E h=>?_) (fun cdv A outer s H vs Q E hr h=>?_)
 ·obtain⟨a,dx,b,pw,pe,L,most,rfl,_⟩:=h;rfl
 ·obtain⟨a,dx,b,pw,pe,L,most,rfl,ha,k⟩:=h
  have hl:=Aq
  refine⟨_,(Ac (Bb (MS_ rfl W.m_j9 MT MR (hr.mono (by decide)) MS .nil AM (Aa (pvD 0) Ae)))
   (Ac (Gm (pvD 0) (pvD 1) rfl)
   (Ac (Gm (pvD 0) (pvD 2) rfl)
   (Ac (Gm (pvD 0) (pvD 3) rfl)
   (Ac (Gm (pvD 0) (pvD 4) rfl)
   (Ac (Gm (pvD 0) (pvD 5) rfl)
   (Ac (Gm (pvD 0) (JD Ae) rfl)
   (Ac (Gm (pvD 0) Gk rfl)
   (Af (Gm (pvD 0) Gk rfl)))))))))),?_⟩
  walk_at "rd"
  have pl:∀(f:Str) (v:V) (fs:List (Str×V)) (n:Nat),fs.length<n->(putF f v fs).length<n+1:=fun f v fs n h=>by have:=EQ_ f v fs;lia
  have z1:=pl "wish" .non [] 1 (by simp)
  have z2:=pl "letters" (.int L) _ _ z1
  have z3:=pl "most" (.int most) _ _ z2
  have z4:=pl "book" (.ref b) _ _ z3
  have z5:=pl "ways" (.ref pw) _ _ z4
  have z6:=pl "ends" (.ref pe) _ _ z5
  refine⟨a,dx,[],rfl,ha,by simp,_,_,_,Ab,W.cl_j1,W.n_SayHunt_letters,by lia,_,_,_,Ab,W.cl_j1,W.n_SayHunt_most,by lia,_,_,_,Ab,W.cl_j1,W.n_SayHunt_book,by lia,_,_,_,Ab,W.cl_j1,W.n_SayHunt_ways,by lia,_,_,_,Ab,W.cl_j1,W.n_SayHunt_ends,by lia,by lia,fun pg hpg=>?_⟩
  have hga:pg≠a:=fun z=>by rw[z,Ab]at hpg;cases hpg
  have z7:=pl "gaps" (.ref pg) _ _ z6
  have z8:=pl "guess" .non _ _ z7
  refine⟨_,_,_,by rw[Ag (qj_ hga)];exact Ab,W.cl_j1,W.n_SayHunt_gaps,by lia,_,_,_,Ab,W.cl_j1,W.n_SayHunt_guess,by lia,_,_,_,Ab,W.cl_j1,W.n_SayHunt_wrong,by lia,?_⟩
  have hpgH:H pg=none:=by
   simp only[Ag hga]at hpg
   exact hpg
  refine k pg _ hpgH (by rw[Ab,Je_]) (by simp only[Ag hga];exact Ab) (fun y o hy hya=>?_) (fun y hy=>?_)
  ·have hyg:y≠pg:=fun z=>by rw[z,hpgH]at hy;cases hy
   simp only[Ag hya,Ag hyg]
   exact hy
  ·by_cases hya:y=a
   ·rw[hya,Ab]at hy;cases hy
   ·by_cases hyg:y=pg
    ·rw[hyg];exact hpgH
    ·simp only[Ag hya,Ag hyg]at hy
     exact hy
noncomputable def ET_ (K:α3)(CA CB:Addr):Sp:=fun vs H Q _=>∃(a:Addr) (ad:AD) (s:AS) (wv:V),vs=[.ref a]/\Asks K CA CB H a ad s wv/\Q wv H
theorem WZ   (F:Fun K "wants" "Turns.wants" EI f fd)(T:Txt mg)
  (W:Own K mg C_j7 C_j9 C_ji C_ja C_j1 C_j4)
  (Z:Exs K mg C_j8 C_j5 C_j6 C_j3 C_j2 C_j0)
  : FnOk P w K mg base CX0 1 f fd ["self"] (ET_ K C_j1 C_j7):=by
 refine F.ok WX (fun vs H Q E h=>?_) (fun cdv A outer s H vs Q E hr h=>?_)
 ·obtain⟨a,ad,s,wv,rfl,_⟩:=h;rfl
 ·obtain⟨a,ad,s,wv,rfl,⟨gv,rv,zs,ys,us,x⟩,k⟩:=h
  refine⟨_,(Af (An (AX (pvD 0) rfl))),?_⟩
  walk_at "rd"
  exact⟨_,_,_,x.ob,W.cl_j1,W.n_SayHunt_wish,_,OR ..,k⟩
noncomputable def MU (K:α3)(CA CB OT:Addr):Sp:=fun vs H Q E=>∃(a:Addr) (ad:AD) (s:AS) (wv:V) (x:Wish) (d:Str),vs=[.ref a,.str d]/\Asks K CA CB H a ad s wv/\CL K H s.L wv x/\(x.tag=d->Q .non H)/\(x.tag≠d->E (.ref OT) none H)
theorem Oo   (F:Fun K "check_wants" "Turns.check_wants" A9 f fd)(T:Txt mg)
  (W:Own K mg C_j7 C_j9 C_ji C_ja C_j1 C_j4)
  (Z:Exs K mg C_j8 C_j5 C_j6 C_j3 C_j2 C_j0)
  : FnOk P w K mg base (CXe P w) 1 f fd ["self","deed"] (MU K C_j1 C_j7 C_j3):=by
 refine F.okE Oj (fun vs H Q E h=>?_) (fun cdv A outer s H vs Q E hr h=>?_)
 ·obtain⟨a,ad,s,wv,x,d,rfl,_⟩:=h;rfl
 ·obtain⟨a,ad,s,wv,x,d,rfl,⟨gv,rv,zs,ys,us,A'⟩,hw,k,kE⟩:=h
  have hl:=Aq
  refine⟨_,(Af (B6 (ptT (AE (opN Ra) (Ar (ixTD AY) (AX (pvD 0) rfl) Ah) (pvD 1) (AZ _)))
   (Af (Oc Z.m_j3 Z.x_j3 rfl rfl (Aa Ek Ae)))
   AK)),?_⟩
  walk_at "rd"
  obtain⟨t,u,rfl,ht,_⟩:=hw
  refine⟨_,_,_,A'.ob,W.cl_j1,W.n_SayHunt_wish,_,OR ..,t,rfl,_,SqT.of ht,V.str x.tag,rfl,rfl,?_⟩
  by_cases hd:x.tag=d
  ·rw[if_neg (by simp[hd])];exact k hd
  ·rw[if_pos (by simp[hd])];exact⟨by lia,kE hd⟩
noncomputable def P7 (K:α3)(CA CB:Addr)(f:AS->α1):Sp:=fun vs H Q _=>∃(a:Addr) (ad:AD) (s:AS) (wv:V),vs=[.ref a]/\Asks K CA CB H a ad s wv/\∀l ts H',Same H H'->H l=none->H' l=some (.lst ts)->Am K H' ts (f s)->Q (.ref l) H'
theorem W2   (F:Fun K "access" "Hunt.access" EH f fd)(T:Txt mg)
  (W:Own K mg C_j7 C_j9 C_ji C_ja C_j1 C_j4)
  (Z:Exs K mg C_j8 C_j5 C_j6 C_j3 C_j2 C_j0)
  : FnOk P w K mg base CX0 1 f fd ["self"] (P7 K C_j1 C_j7 AS.W):=by
 refine F.ok WW (fun vs H Q E h=>?_) (fun cdv A outer s H vs Q E hr h=>?_)
 ·obtain⟨a,ad,s,wv,rfl,_⟩:=h;rfl
 ·obtain⟨a,ad,s,wv,rfl,⟨gv,rv,zs,ys,us,x⟩,k⟩:=h
  refine⟨_,(Af (An (Cg Mn rfl T.list j0_ (Aa (AX (pvD 0) rfl) Ae)))),?_⟩
  walk_at "rd"
  exact⟨_,_,_,x.ob,W.cl_j1,W.n_SayHunt_ways,_,La ..,ad.pw,rfl,zs,.inl (SqL.of x.w),fun l hl=>k l zs _ (Same.new hl) hl Ab (x.wW.mono (TK.new hl))⟩
theorem VA   (F:Fun K "tellers" "Hunt.tellers" DX f fd)(T:Txt mg)
  (W:Own K mg C_j7 C_j9 C_ji C_ja C_j1 C_j4)
  (Z:Exs K mg C_j8 C_j5 C_j6 C_j3 C_j2 C_j0)
  : FnOk P w K mg base CX0 1 f fd ["self"] (P7 K C_j1 C_j7 AS.E):=by
 refine F.ok Vc (fun vs H Q E h=>?_) (fun cdv A outer s H vs Q E hr h=>?_)
 ·obtain⟨a,ad,s,wv,rfl,_⟩:=h;rfl
 ·obtain⟨a,ad,s,wv,rfl,⟨gv,rv,zs,ys,us,x⟩,k⟩:=h
  refine⟨_,(Af (An (Cg Mn rfl T.list j0_ (Aa (AX (pvD 0) rfl) Ae)))),?_⟩
  walk_at "rd"
  exact⟨_,_,_,x.ob,W.cl_j1,W.n_SayHunt_ends,_,Rv ..,ad.pe,rfl,ys,.inl (SqL.of x.e),fun l hl=>k l ys _ (Same.new hl) hl Ab (x.eW.mono (TK.new hl))⟩
noncomputable def XU (K:α3)(CA CB:Addr):Sp:=fun vs H Q _=>∃(a:Addr) (ad:AD) (s:AS) (wv:V),vs=[.ref a]/\Asks K CA CB H a ad s wv/\∀l rs H',Same H H'->H l=none->H' l=some (.lst rs)->Hs H' rs s.es->Q (.ref l) H'
theorem YJ   (F:Fun K "heard" "Hunt.heard" Fd f fd)(T:Txt mg)
  (W:Own K mg C_j7 C_j9 C_ji C_ja C_j1 C_j4)
  (Z:Exs K mg C_j8 C_j5 C_j6 C_j3 C_j2 C_j0)
   (GC:FnOk P w K mg base CX0 1 Ct GX ["self"] (K5 K C_j7)) (GD:Fun K "heard" "Book.heard" Eo Ct GX) (GF:Binds K GX ["self"] []) (GG:Meth K C_j7 "heard" Ct)
  : FnOk P w K mg base CX0 2 f fd ["self"] (XU K C_j1 C_j7):=by
 refine F.ok Yr (fun vs H Q E h=>?_) (fun cdv A outer s H vs Q E hr h=>?_)
 ·obtain⟨a,ad,s,wv,rfl,_⟩:=h;rfl
 ·obtain⟨a,ad,s,wv,rfl,⟨gv,rv,zs,ys,us,x⟩,k⟩:=h
  refine⟨_,(Af (An (AL (AX (pvD 0) rfl) W.cl_j7 GG GC (hr.mono (by decide)) GF .nil AM))),?_⟩
  walk_at "rd"
  obtain⟨dxb,hb⟩:=x.bk.ob
  exact⟨_,_,_,x.ob,W.cl_j1,W.n_SayHunt_book,_,K9 ..,ad.b,rfl,_,_,hb,HK _ _ (by decide +kernel) (by decide +kernel),ad.b,ad.d,_,s.es,rfl,x.bk,k⟩
noncomputable def Bt_ (K:α3)(CA CB:Addr):Sp:=fun vs H Q _=>∃(a l:Addr) (ad:AD) (s:AS) (wv:V) (ts:List V) (ws:α1),vs=[.ref a,.ref l]/\Asks K CA CB H a ad s wv/\SqL K H l ts/\Am K H ts ws/\ws.Nodup/\ws.length<=100000/\∀ad' H',Asks K CA CB H' a ad' {s with G:=ws.filter fun c=>(mkO s.es c).isNone} wv->Frm H H' a ad->AdOk H ad ad'->Q .non H'
theorem VB   (F:Fun K "ask_for" "Hunt.ask_for" DV f fd)(T:Txt mg)
  (W:Own K mg C_j7 C_j9 C_ji C_ja C_j1 C_j4)
  (Z:Exs K mg C_j8 C_j5 C_j6 C_j3 C_j2 C_j0)
   (EJ:FnOk P w K mg base CX0 1 B4 Eu ["self","word"] (JI C_j7)) (Fl:Fun K "told" "Book.told" EE B4 Eu) (EK:Binds K Eu ["self","word"] []) (EL:Meth K C_j7 "told" B4)
  : FnOk P w K mg base CX0 2 f fd ["self","words"] (Bt_ K C_j1 C_j7):=by
 refine F.ok IY (fun vs H Q E h=>?_) (fun cdv A outer s H vs Q E hr h=>?_)
 ·obtain⟨a,l,ad,s,wv,ts,ws,rfl,_⟩:=h;rfl
 ·obtain⟨a,l,ad,s,wv,ts,ws,rfl,⟨gv,rv,zs,ys,us,x⟩,hl',hW,nd,hz,k⟩:=h
  have hl:=Aq
  refine⟨_,(Ac (Kh (i:=2) IY.nd rfl (Or.inl rfl) KU)
   (Ac (E6 jz_ rfl (Ge (pvD 1)) (Bl (i:=3) IY.nd rfl (Or.inl rfl))
   (Af (B6 (ptT (AE XD (DU (AX (pvD 0) rfl) W.cl_j7 EL EJ (hr.mono (by decide)) EK .nil AM (Aa (pvD 3) Ae)) Gk (AZ _)))
   (Af (KS (IU hr) (pvD 2) (pvD 3) Ej rfl))
   AK)))
   (Af (Gm (pvD 0) (Cg (IV rfl) rfl T.list j0_ (Aa (pvD 2) Ae)) rfl)))),?_⟩
  walk_at "rd"
  intro p hp
  have sp:=Same.new (o:=.dT []) hp
  obtain⟨dxb,hb⟩:=x.bk.ob
  obtain⟨Pv,hPv⟩:∃Pv:Nat->St->Hp->Prop,∀i σ' H',Pv i σ' H'↔(∃(kvs:List (List Key×V)) (o:Option V),Same H H'/\H' p=some (.dT kvs)/\Ik ((ws.take i).filter fun c=>(mkO s.es c).isNone) kvs/\σ'=[some (.ref a),some (.ref l),some (.ref p),o]):=⟨_,fun _ _ _=>qG_⟩
  refine⟨⟨_,sp.seq hl'⟩,forL (xs:=ts) Pv ((hPv _ _ _).mpr ⟨[],none,sp,Ab,by rw[xm_];exact Ik.nil,rfl⟩) (fun i σ' H' _ h'=>by obtain⟨_,_,s',_⟩:=(hPv _ _ _).mp h';exact s'.seq hl') (fun i y σ' H' hy h'=>?_) (fun σ' H' h'=>?_)⟩
  ·obtain⟨kvs,o,s',hd,hk,rfl⟩:=(hPv _ _ _).mp h'
   obtain⟨t,c,hci,rfl,ht⟩:=hW.at hy
   have hil:i<ws.length:=(jc_.mp hci).1
   have hlen:kvs.length<=100000:=by
    rw[hk.len]
    have h1:=List.length_filter_le (fun c=>(mkO s.es c).isNone) (ws.take i)
    rw[jx_]at h1
    lia
   have ht':=s' _ _ ht
   have hnot:c∉ws.take i:=fun z=>by
    obtain⟨j,hj⟩:=jW_.mp z
    rw[ql_]at hj
    split at hj
    ·rename_i hji
     have h1:=jc_.mp hj
     have h2:=jc_.mp hci
     have:=(xA_.mp (qe_.mp nd)) j i h1.1 h2.1 hji
     exact this (h1.2.trans h2.2.symm)
    ·cases hj
   have etk:(ws.take (i+1)).filter (fun c=>(mkO s.es c).isNone)=(ws.take i).filter (fun c=>(mkO s.es c).isNone)++(if (mkO s.es c).isNone then [c] else []):=by
    rw[jD_,hci,List.filter_append]
    congr 1
    show List.filter _ [c]=_
    rw[List.filter_cons]
    rfl
   walk_at "rd"
   refine⟨_,_,_,s' _ _ x.ob,W.cl_j1,W.n_SayHunt_book,_,K9 ..,ad.b,rfl,_,_,s' _ _ hb,HK _ _ (by decide +kernel) (by decide +kernel),ad.b,ad.d,t,_,c,s.es,rfl,x.bk.mono s',ht',fun hn=>?_,fun m hm=>?_⟩
   ·dsimp only
    rw[if_pos rfl]
    have hno:(mkO s.es c).isNone=true:=by rw[US hn];rfl
    refine⟨_,DPut.t (k:=wkey c) hd (by rw[Cj];exact ht') s!"",(hPv _ _ _).mpr ⟨_,_,s'.over hp,Ab,?_,rfl⟩⟩
    rw[etk,if_pos hno]
    have:=hk.put c (.bl true)
    unfold ins at this
    rw[if_neg (fun z=>hnot (xb_.mp z).1)]at this
    exact this
   ·dsimp only
    rw[if_neg (by simp)]
    have hso:(mkO s.es c).isNone=false:=by rw[K6 x.bk.nd hm];rfl
    refine (hPv _ _ _).mpr ⟨kvs,_,s',hd,?_,rfl⟩
    rw[etk,hso]
    simpa using hk
  ·obtain⟨kvs,o,s',hd,hk,rfl⟩:=(hPv _ _ _).mp h'
   rw[hW.1,jO_]at hk
   walk_at "rd"
   refine⟨kvs,.inl hd,fun q rs hq hrl hrs=>?_⟩
   have x1:=x.same (s'.newT hq (o:=.lst rs))
   have uq:upd H' q (.lst rs) q=some (.lst rs):=Ab
   have hwd:=(hk.words (K:=K) hrl hrs).mono (TK.new hq (o:=.lst rs))
   have s1:=s'.newT hq (o:=.lst rs)
   have hqH:H q=none:=s'.none hq
   generalize upd H' q (.lst rs)=H1 at x1 uq hwd s1 ⊢
   obtain⟨n1,n2,n3,n4,n5,n6,n7,n8,n9,n10,n11⟩:=x1.na
   have hqa:q≠a:=fun z=>by rw[z,x1.ob]at uq;cases uq
   refine⟨_,_,_,x1.ob,W.cl_j1,W.n_SayHunt_gaps,by unfold afl;simp,?_⟩
   rw[Jd_]
   refine k {ad with pg:=q} _ ⟨gv,rv,zs,ys,rs,?_⟩ ⟨fun y o hy m1 m2 m3 m4 m5=>by rw[Ag m1];exact s1 _ _ hy,fun y hy=>?_⟩ ⟨rfl,rfl,rfl,rfl,rfl,.inr hqH⟩
   ·have tk:=x1.tkob (.ins C_j1 ad.dx (afl wv s.L s.most ad.b ad.pw ad.pe q gv rv))
    refine⟨Ab,BookAt.tk x1.bk (fun o h=>by rw[Ag x1.nb];exact h) (fun o h=>by rw[Ag n4];exact h),by rw[Ag n1];exact x1.w,x1.wW.mono tk,by rw[Ag n2];exact x1.e,x1.eW.mono tk,by rw[Ag hqa];exact uq,hwd.mono tk,x.we,fun z=>?_,fun z=>?_,x1.gv.mono tk,x1.rv.mono tk⟩
    ·rw[show q=ad.pw from z.symm,x.w]at hqH;cases hqH
    ·rw[show q=ad.pe from z.symm,x.e]at hqH;cases hqH
   ·by_cases hya:y=a
    ·rw[hya,Ab]at hy;cases hy
    ·rw[Ag hya]at hy;exact s1.none hy
noncomputable def UW (K:α3)(CA CB:Addr):Sp:=fun vs H Q _=>∃(a:Addr) (ad:AD) (s:AS) (wv:V),vs=[.ref a]/\Asks K CA CB H a ad s wv/\Sz s/\∀ad' H',Asks K CA CB H' a ad' {s with G:=Lr s.L s.W s.E s.es} wv->Frm H H' a ad->AdOk H ad ad'->Q .non H'
theorem LM   (F:Fun K "look_for_gaps" "Asker.look_for_gaps" A4 f fd)(T:Txt mg)
  (W:Own K mg C_j7 C_j9 C_ji C_ja C_j1 C_j4)
  (Z:Exs K mg C_j8 C_j5 C_j6 C_j3 C_j2 C_j0)
   (J2:FnOk P w K mg base CX0 2 CY MV ["self","words"] (Bt_ K C_j1 C_j7)) (HN:Fun K "ask_for" "Hunt.ask_for" DV CY MV) (J3:Binds K MV ["self","words"] []) (J4:Meth K C_j1 "ask_for" CY)
   (DA_:FnOk P w K mg base CX0 2 RA EU_ ["letters","access","ends"] (EM_ K)) (VC:Fun K "cells" "cells" OL RA EU_) (DB_:Binds K EU_ ["letters","access","ends"] []) (DC_:mg "cells"=some (.ref RA))
  : FnOk P w K mg base CX0 3 f fd ["self"] (UW K C_j1 C_j7):=by
 refine F.ok LK (fun vs H Q E h=>?_) (fun cdv A outer s H vs Q E hr h=>?_)
 ·obtain⟨a,ad,s,wv,rfl,_⟩:=h;rfl
 ·obtain⟨a,ad,s,wv,rfl,⟨gv,rv,zs,ys,us,x⟩,sz,k⟩:=h
  have hl:=Aq
  refine⟨_,(Af (Bb (DU (pvD 0) W.cl_j1 J4 J2 (hr.mono (by decide)) J3 .nil AM (Aa (Ax DA_ (hr.mono (by decide)) rfl DC_ VC.kp DB_ .nil AM (Aa (AX (pvD 0) rfl) (Aa (AX (pvD 0) rfl) (Aa (AX (pvD 0) rfl) Ae)))) Ae)))),?_⟩
  walk_at "rd"
  have w1:=sz.w.1
  have e1:=sz.e.1
  refine⟨_,_,x.ob,by kernel_rfl,_,_,_,x.ob,W.cl_j1,W.n_SayHunt_letters,_,IJ ..,_,_,_,x.ob,W.cl_j1,W.n_SayHunt_ways,_,La ..,_,_,_,x.ob,W.cl_j1,W.n_SayHunt_ends,_,Rv ..,s.L,ad.pw,ad.pe,zs,ys,s.W,s.E,rfl,sz.l6,SqL.of x.w,x.wW,by lia,fun v hv=>by have:=sz.w.2 v hv;lia,SqL.of x.e,x.eW,by lia,sz.e.2,fun l rs H1 s1 hlN hl1 hw=>?_⟩
  have hcl:(IA (B7 s.L s.W) s.E).length<=100000:=HX_ s!"" sz.l6 s!""
  exact⟨a,l,ad,s,wv,rs,_,rfl,⟨_,_,_,_,_,x.same s1⟩,SqL.of hl1,hw,Vu _ _,hcl,fun ad' H2 x2 f2 k2=>k ad' H2 x2 ((Frm.of s1 a ad).trans (AdOk.refl H ad) f2) (AdOk.trans (Frm.of s1 a ad) (AdOk.refl H ad) k2)⟩
noncomputable def EV_ (K:α3):Sp:=fun vs H Q _=>∃(a:Addr) (L:Nat),vs=[.ref a,.int L]/\L<=6/\∀l ts H',Same H H'->H l=none->H' l=some (.lst ts)->Am K H' ts (fE57 L)->Q (.ref l) H'
theorem MW   (F:Fun K "first_ends" "SayHunt.first_ends" BJ f fd)(T:Txt mg)
  (W:Own K mg C_j7 C_j9 C_ji C_ja C_j1 C_j4)
  (Z:Exs K mg C_j8 C_j5 C_j6 C_j3 C_j2 C_j0)
  : FnOk P w K mg base CX0 1 f fd ["self","letters"] (EV_ K):=by
 refine F.ok My (fun vs H Q E h=>?_) (fun cdv A outer s H vs Q E hr h=>?_)
 ·obtain⟨a,L,rfl,_⟩:=h;rfl
 ·obtain⟨a,L,rfl,hL,k⟩:=h
  have hl:=Aq
  refine⟨_,(Af (An (KW rfl (Ki rfl) (cp:=He) True.intro (EU rfl T.range (Aa (pvD 1) Ae)) (fun _ _ _ _=>(Bl (i:=0) JZ rfl (Or.inl rfl))) (fun _ _ _ _=>Ln) (fun _ _ _ _=>(F3 (Aa (pvD 0) Ae)))))),?_⟩
  walk_at "rd"
  refine⟨by lia,by lia,?_⟩
  rw[jB_]
  obtain⟨Pc,hPc⟩:∃Pc:Nat->List V->St->Hp->Prop,∀i us σ' H',Pc i us σ' H'↔(Same H H'/\Am K H' us (fE57 i)/\∃o,σ'=[o]):=⟨_,fun _ _ _ _=>qG_⟩
  refine II_ Pc ((hPc _ _ _ _).mpr ⟨Same.refl _,Am.nil,none,rfl⟩) s!"" (fun i us σ' H' hi h'=>?_) (fun i us σ' H' hi h'=>?_) (fun us σ' H1 h' D hD=>?_)
  ·obtain⟨_,hR,_⟩:=(hPc _ _ _ _).mp h'
   rw[hR.1];unfold fE57;rw[jb_,j4_];exact jl_ _
  ·obtain⟨s1,hR,o,rfl⟩:=(hPc _ _ _ _).mp h'
   rw[q6_]
   walk_at "rd"
   refine⟨by lia,fun t ht=>(hPc _ _ _ _).mpr ⟨s1.newT ht,?_,_,rfl⟩⟩
   have e:fE57 (i+1)=fE57 i++[[(i:Int)]]:=by unfold fE57;rw[qF_,jn_];rfl
   rw[e]
   exact (hR.mono (TK.new ht)).snoc Ab
  ·obtain⟨s1,hR,o,rfl⟩:=(hPc _ _ _ _).mp h'
   exact k D us _ (s1.newT hD) (s1.none hD) Ab (hR.mono (TK.new hD))
noncomputable def OU (K:α3):Sp:=fun vs H Q _=>∃(a h t:Addr) (L:Int) (m ws:α1) (v:α2),vs=[.ref a,.ref h,.ref t]/\TF K H h L m ws/\WfS L m ws/\SqT K H t (v.map V.int)/\v.length<=600/\isW L v=true/\v ≠ []/\∀H',Same H H'->Q (.int (lsay m ws v)) H'
theorem RC   (F:Fun K "answer" "SayHunt.answer" B8 f fd)(T:Txt mg)
  (W:Own K mg C_j7 C_j9 C_ji C_ja C_j1 C_j4)
  (Z:Exs K mg C_j8 C_j5 C_j6 C_j3 C_j2 C_j0)
   (Fn:FnOk P w K mg base (CXe P w) 5 BK Ew ["house","word"] (JH K C_j5)) (D1:Fun K "last_said" "last_said" EF BK Ew) (Fo:Binds K Ew ["house","word"] []) (Fp:mg "last_said"=some (.ref BK))
  : FnOk P w K mg base CX0 6 f fd ["self","house","word"] (OU K):=by
 refine F.ok Rf (fun vs H Q E h=>?_) (fun cdv A outer s H vs Q E hr h=>?_)
 ·obtain⟨a,h,t,L,m,ws,v,rfl,_⟩:=h;rfl
 ·obtain⟨a,h,t,L,m,ws,v,rfl,hh,wf,ht,hz,hv,hne,k⟩:=h
  refine⟨_,(Af (An (Ax Fn (hr.mono (by decide)) rfl Fp D1.kp Fo .nil (Rb (P:=P) (w:=w)) (Aa (pvD 1) (Aa (pvD 2) Ae))))),?_⟩
  walk_at "rd"
  refine⟨h,t,L,m,ws,v,rfl,hh,wf,ht,hz,fun _ _ H' x s' hx=>?_,fun z=>?_⟩
  ·have hlx:x=lsay m ws v:=by
    unfold lsay
    rw[jq_,hx];rfl
   subst hlx
   exact k H' s'
  ·rcases z with z|z
   ·rw[hv]at z;cases z
   ·exact absurd z hne
theorem Ly_  {K:α3}     (hK:X.K=K)(he:PE X e ta)(hb:attributeBase e f X.env (eval e X.env)=eval e X.env):PE X (.Attribute e f pos) (tFld K ta f):=by subst hK;exact AX he hb
noncomputable def HY_ (_K:α3):V->Option Int->Option Int->Hp->VK->Prop:=fun x lo hi H Q=>∃a xs,x=.ref a/\H a=some (.tup xs)/\∀p H',Same H H'->H' p=some (.tup (cutV xs lo hi))->Q (.ref p) H'
theorem DD_  : SlR X (HY_ X.K):=by
 intro pins s σ H x v vl vu lo hi sl Q I rx hs pl pu h
 obtain⟨a,xs,rfl,hx,q⟩:=h
 by_cases hw:HT.sIx xs.length 0 lo=0/\HT.sIx xs.length xs.length hi=xs.length
 ·cases rx
  obtain⟨its,r,ht,hz⟩:=I.tuple (SqT.of hx)
  have hlen:its.toArray.size=xs.length:=by rw[jg_];exact r.length.symm
  refine⟨"tuple",_,qc_.lookup,ht.typeIs,?_⟩
  refine HT.getItem_tuple_whole ht hs pl pu (by rw[hlen];exact hw) ⟨.ref a,H,I,rfl,q a H (Same.refl _) ?_⟩
  unfold cutV
  rw[hw.1,hw.2,xZ_,zj_,jO_]
  exact hx
 ·exact GH_ pins s σ H (.ref a) v vl vu lo hi sl Q I rx hs pl pu ⟨a,xs,rfl,SqT.of hx,hw,fun p hp=>q p _ (Same.new hp) Ab⟩
theorem Jg_  {K:α3}(h:X.K=K):SlR X (HY_ K):=by subst h;exact DD_
theorem HY_.of {K:α3}{a:Addr}{xs:List V}{m:Nat}{H:Hp}{Q:VK}(ha:H a=some (.tup xs))(q:∀p H',Same H H'->H' p=some (.tup (xs.take m))->Q (.ref p) H'):HY_ K (.ref a) none (some (m:Int)) H Q:=by
 refine⟨a,xs,rfl,ha,fun p H' s' h=>q p H' s' ?_⟩
 rw[h]
 unfold cutV
 rw[HT.sIx_nat,HT.sIx_none,xZ_,zj_]
 congr 2
 rw[List.take_eq_take_iff]
 lia
noncomputable def KC_ (K:α3)(CA CB:Addr):Sp:=fun vs H Q _=>∃(a:Addr) (ad:AD) (s:AS) (wv:V),vs=[.ref a]/\Asks K CA CB H a ad s wv/\Sz s/\Tb s.L s.most s.W s.E s.es/\Full s.L s.W s.E s.es/\E4 s.L s.W s.E s.es=none/\∀h H',Same H H'->HouT K H' h s.L (Cb s.L s.W s.E s.es) (EM s.L s.W s.E s.es)->Q (.ref h) H'
theorem MX   (F:Fun K "make_guess" "SayHunt.make_guess" BG f fd)(T:Txt mg)
  (W:Own K mg C_j7 C_j9 C_ji C_ja C_j1 C_j4)
  (Z:Exs K mg C_j8 C_j5 C_j6 C_j3 C_j2 C_j0)
   (EY:FnOk P w K mg base CX0 3 Cn Fm ["book","letters","access","ends"] (HN_ K C_j7)) (CW:Fun K "marks_by_row" "marks_by_row" CU Cn Fm) (EZ:Binds K Fm ["book","letters","access","ends"] []) (E1:mg "marks_by_row"=some (.ref Cn))
   (Je:FnOk P w K mg base CX0 1 Ea Ls ["letters","access","marks"] (EN_ K)) (Fs:Fun K "ways_by_marks" "ways_by_marks" De Ea Ls) (Jf:Binds K Ls ["letters","access","marks"] []) (Jg:mg "ways_by_marks"=some (.ref Ea))
  : FnOk P w K mg base CX0 4 f fd ["self"] (KC_ K C_j1 C_j7):=by
 refine F.ok E9 (fun vs H Q E h=>?_) (fun cdv A outer s H vs Q E hr h=>?_)
 ·obtain⟨a,ad,s,wv,rfl,_⟩:=h;rfl
 ·obtain⟨a,ad,s,wv,rfl,⟨gv,rv,zs,ys,us,x⟩,sz,tb,fu,hs,k⟩:=h
  have hl:=Aq
  refine⟨_,(Ac (Kh (i:=1) E9.nd rfl (Or.inr rfl) (Ax EY (hr.mono (by decide)) rfl E1 CW.kp EZ .nil AM (Aa (AX (pvD 0) rfl) (Aa (AX (pvD 0) rfl) (Aa (AX (pvD 0) rfl) (Aa (AX (pvD 0) rfl) Ae))))))
   (Ac (AW (i:=2) E9.nd (Cg DA rfl T.tuple jE_ (Aa (KW rfl (Ki rfl) (cp:=Hd) ⟨⟨rfl,rfl⟩,⟨⟨rfl,rfl⟩,True.intro⟩⟩ (Ge (AX (pvD 0) rfl)) (fun _ _ _ _=>(Bl (i:=0) JY rfl (Or.inl rfl))) (fun _ _ _ _=>Ln) (fun _ _ _ _=>(FK (Jg_ (K:=K) rfl) (Mo (IU hr) (pvD 1) (pvD 0) (fun _ _=>rfl)) Hk (Hl (Ly_ (K:=K) rfl (pvD 2) rfl))))) Ae)))
   (Af (An (F3 (Aa (AX (pvD 0) rfl) (Aa (pvD 2) (Aa (Ax Je (hr.mono (by decide)) rfl Jg Fs.kp Jf .nil AM (Aa (AX (pvD 0) rfl) (Aa (AX (pvD 0) rfl) (Aa (pvD 1) Ae)))) Ae)))))))),?_⟩
  walk_at "rd"
  have w1:=sz.w.1
  have e1:=sz.e.1
  obtain⟨np,cl⟩:=tb.none fu hs
  refine⟨_,_,_,x.ob,W.cl_j1,W.n_SayHunt_book,_,K9 ..,_,_,_,x.ob,W.cl_j1,W.n_SayHunt_letters,_,IJ ..,_,_,_,x.ob,W.cl_j1,W.n_SayHunt_ways,_,La ..,_,_,_,x.ob,W.cl_j1,W.n_SayHunt_ends,_,Rv ..,ad.b,ad.d,ad.pw,ad.pe,s.L,s.L,s.es,zs,ys,s.W,s.E,rfl,x.bk,sz.l6,SqL.of x.w,x.wW,by lia,fun v hv=>by have:=sz.w.2 v hv;lia,SqL.of x.e,x.eW,by lia,sz.e.2,fun m kvs H1 s1 hm0 hm hM=>?_⟩
  have hA1:Am K H1 zs s.W:=x.wW.mono (TK.of s1)
  have hob1:=s1 _ _ x.ob
  refine⟨_,_,_,hob1,W.cl_j1,W.n_SayHunt_ways,_,La ..,_,rfl,⟨_,s1.seq (SqL.of x.w)⟩,Df_ (xs:=zs) (fun i us σ' H'=>Same H1 H'/\Am K H' us ((s.W.take i).map fun v=>(gOf s.E s.es v).take s.L)/\∃o,σ'=[o,some (.ref m),some (.ref a)]) ⟨Same.refl _,Am.nil,none,rfl⟩ (by rw[x.wW.1];lia) (fun i us σ' H' hi h'=>⟨(s1.trans h'.1).seq (SqL.of x.w),by rw[h'.2.1.1,jb_,jx_];lia⟩) (fun i y us σ' H' hx h'=>?_) (fun us σ' H' h' D hD=>?_)⟩
  ·obtain⟨s2,hus,o,rfl⟩:=h'
   obtain⟨t,w,hwi,rfl,ht⟩:=(hA1.mono (TK.of s2)).at hx
   have hwm:=jf_ hwi
   have et:s.W.take (i+1)=s.W.take i++[w]:=by rw[jD_,hwi];rfl
   obtain⟨u,hu1,hu2⟩:=hM.get (K8 (n:=s.L) hwm)
   have hdg:DGet H' m (.ref t) (some (.ref u)):=by rw[<-hu1];exact DGet.t (k:=wkey w) (s2 _ _ hm) (by rw[Cj];exact ht)
   walk_at "rd"
   refine⟨_,hdg,_,_,_,s2 _ _ hob1,W.cl_j1,W.n_SayHunt_letters,_,IJ ..,_,rfl,HY_.of (s2 _ _ hu2) fun p H4 s4 hp=>⟨s2.trans s4,?_,_,rfl⟩⟩
   rw[et,jn_]
   refine (hus.mono (TK.of s4)).snoc ?_
   rw[hp,HP_ fu (K8 (n:=s.L) hwm),List.map_take]
  ·obtain⟨s2,hus,o,rfl⟩:=h'
   rw[x.wW.1,jO_]at hus
   refine⟨D,rfl,_,.inl ⟨SqL.of Ab,fun tm htm=>?_⟩⟩
   have sD:=(s2.newT hD (o:=.lst us)).newT htm (o:=.tup us)
   have s3:=s1.trans sD
   have hob3:=s3 _ _ x.ob
   refine⟨_,_,_,hob3,W.cl_j1,W.n_SayHunt_letters,_,IJ ..,_,_,_,hob3,W.cl_j1,W.n_SayHunt_letters,_,IJ ..,_,_,_,hob3,W.cl_j1,W.n_SayHunt_ways,_,La ..,s.L,ad.pw,m,zs,s.W,kvs,gOf s.E s.es,rfl,sz.l6,s3.seq (SqL.of x.w),x.wW.mono (TK.of s3),by lia,fun v hv=>by have:=sz.w.2 v hv;lia,sD _ _ hm,⟨hM.1,fun i w hi=>?_⟩,tb.nodup fu,cl,fun tw zs' H3 s4 htw hz=>⟨by lia,fun h hh=>?_⟩⟩
   ·obtain⟨t,e1,e2⟩:=hM.2 i w hi
    refine⟨t,e1,?_⟩
    have:=sD _ _ e2
    show _=some (HO.tup ((gOf s.E s.es w).map V.int))
    rw[<-HP_ fu (jf_ hi)]
    exact this
   ·have sh:=Same.new hh (o:=.tup [.int s.L,.ref tm,.ref tw])
    have s5:=s4.trans sh
    refine k h _ (s3.trans s5) ⟨tm,tw,us,zs',Ab,s5 _ _ Ab,hus.mono (TK.of (((Same.new hD (o:=.lst us)).newT htm (o:=.tup us)).trans s5)),sh _ _ htw,hz.mono (TK.of sh)⟩
noncomputable def KD_ (K:α3)(CA CB:Addr):Sp:=fun vs H Q _=>∃(a:Addr) (ad:AD) (s:AS) (wv:V) (m ws:α1),vs=[.ref a]/\Asks K CA CB H a ad s wv/\s.gs=some (m,ws)/\WfS s.L m ws/\(∀e∈s.es,(isW s.L e.1=true/\e.1 ≠ [])/\e.1.length<=600)/\∀H',Same H H'->(D9 s.es m ws=none->Q .non H')/\∀v t,D9 s.es m ws=some v->H' t=some (.tup (v.map V.int))->Q (.ref t) H'
theorem MY   (F:Fun K "wrong_word" "SayHunt.wrong_word" BH f fd)(T:Txt mg)
  (W:Own K mg C_j7 C_j9 C_ji C_ja C_j1 C_j4)
  (Z:Exs K mg C_j8 C_j5 C_j6 C_j3 C_j2 C_j0)
   (Fn:FnOk P w K mg base (CXe P w) 5 BK Ew ["house","word"] (JH K C_j5)) (D1:Fun K "last_said" "last_said" EF BK Ew) (Fo:Binds K Ew ["house","word"] []) (Fp:mg "last_said"=some (.ref BK))
   (GC:FnOk P w K mg base CX0 1 Ct GX ["self"] (K5 K C_j7)) (GD:Fun K "heard" "Book.heard" Eo Ct GX) (GF:Binds K GX ["self"] []) (GG:Meth K C_j7 "heard" Ct)
   (J5:FnOk P w K mg base CX0 6 E2 MZ ["heard","answer","house"] (MQ K BK)) (F4:Fun K "first_unlike" "first_unlike" DW E2 MZ) (J6:Binds K MZ ["heard","answer","house"] []) (J7:mg "first_unlike"=some (.ref E2))
  : FnOk P w K mg base CX0 7 f fd ["self"] (KD_ K C_j1 C_j7):=by
 refine F.ok Mw (fun vs H Q E h=>?_) (fun cdv A outer s H vs Q E hr h=>?_)
 ·obtain⟨a,ad,s,wv,m,ws,rfl,_⟩:=h;rfl
 ·obtain⟨a,ad,s,wv,m,ws,rfl,⟨gv,rv,zs,ys,us,x⟩,hg,wf,hb,k⟩:=h
  refine⟨_,(Af (An (Ax J5 (hr.mono (by decide)) rfl J7 F4.kp J6 .nil AM (Aa (AL (AX (pvD 0) rfl) W.cl_j7 GG GC (hr.mono (by decide)) GF .nil AM) (Aa (Gm_ (v:=.ref BK) rfl Fp rfl) (Aa (AX (pvD 0) rfl) Ae)))))),?_⟩
  walk_at "rd"
  have hgv:=x.gv
  rw[hg]at hgv
  obtain⟨h,rfl,hh⟩:=hgv
  obtain⟨⟨dx,hob⟩,hdc,nd⟩:=id x.bk
  refine⟨_,_,_,x.ob,W.cl_j1,W.n_SayHunt_book,_,K9 ..,_,rfl,_,_,hob,HK _ _ (by decide +kernel) (by decide +kernel),ad.b,ad.d,s.L,s.es,rfl,x.bk,fun l rs H1 s1 hl0 hl1 htr=>?_⟩
  refine⟨_,_,_,s1 _ _ x.ob,W.cl_j1,W.n_SayHunt_guess,_,UT ..,l,h,s.L,m,ws,rs,s.es,rfl,SqL.of hl1,htr,(hh.mono (TK.of s1)).house,wf,hb,fun H' s'=>⟨fun hno=>(k H' (s1.trans s')).1 ?_,fun i e t hno hi hw' ht=>?_⟩⟩
  ·unfold D9
   rw[xW_,qs_]
   intro e he
   have:=hno e he
   unfold Vy at this
   rw[this];simp
  ·refine (k H' (s1.trans s')).2 e.1 t ?_ ht
   ·unfold D9
    have hil:=(jc_.mp hi).1
    have e':s.es=s.es.take i++(e::s.es.drop (i+1)):=by
     have h1:=(List.take_append_drop (i+1) s.es).symm
     rw[jD_,hi,xY_]at h1
     exact h1
    rw[e',List.find?_append,qs_.mpr fun p hp=>?_,qS_]
    ·unfold Vy at hw'
     rw[hw'];rfl
    ·obtain⟨j,hj⟩:=jW_.mp hp
     rw[ql_]at hj
     split at hj
     ·rename_i hji
      have:=hno j hji p hj
      unfold Vy at this
      rw[this];simp
     ·cases hj
theorem Tb.ends0    (t:Tb L most W E es):E[0]?=some [0]:=by
 have h1:=t.l1
 have h:=qU_ (fun l=>l[0]?) t.e0
 simp only[ql_,ji_,qy_ h1]at h
 rw[if_pos s!""]at h
 exact h
noncomputable def Bu_ (K:α3)(CB:Addr):Sp:=fun vs H Q _=>∃(b d pw h t:Addr) (L:Nat) (es:Bk) (zs:List V) (W:α1) (m ws:α1) (v:α2) (mk:Int) (n:Nat),vs=[.ref b,.ref pw,.ref h,.ref t,.int mk,.int n]/\BookAt CB H b d L es/\H pw=some (.lst zs)/\Am K H zs W/\TF K H h L m ws/\WfS L m ws/\H t=some (.tup (v.map V.int))/\isW L v=true/\0<n/\n<v.length/\v.length<=600/\(∀u∈W,u.length<=50)/\(∀i,i<=v.length->∃k:Nat,FO ws (v.take i)=(k:Int)/\W[k]?=some (JA W ws v i))/\∀H',Same H H'->(∀c u t',Kw es W ws v mk v.length 0 n=.ask c->H' u=some (.tup (c.map V.int))->H' t'=some (.tup [.str "ask",.ref u])->Q (.ref t') H')/\(∀hi u t',Kw es W ws v mk v.length 0 n=.fin hi->H' u=some (.tup ((v.drop hi).map V.int))->H' t'=some (.tup [.str "end",.ref u])->Q (.ref t') H')
theorem HZ_   (F:Fun K "halved" "halved" K0 f fd)(T:Txt mg)
  (W:Own K mg C_j7 C_j9 C_ji C_ja C_j1 C_j4)
  (Z:Exs K mg C_j8 C_j5 C_j6 C_j3 C_j2 C_j0)
   (Ro:FnOk P w K mg base (CXe P w) 3 K4 PY ["house","word"] (Vp K C_j5)) (MF:Fun K "trail" "trail" Mv K4 PY) (Rp:Binds K PY ["house","word"] []) (Rq:mg "trail"=some (.ref K4))
   (EJ:FnOk P w K mg base CX0 1 B4 Eu ["self","word"] (JI C_j7)) (Fl:Fun K "told" "Book.told" EE B4 Eu) (EK:Binds K Eu ["self","word"] []) (EL:Meth K C_j7 "told" B4)
  : FnOk P w K mg base CX0 4 f fd ["book","access","guess","word","mark","last"] (Bu_ K C_j7):=by
 refine F.ok GQ (fun vs H Q E h=>?_) (fun cdv A outer s H vs Q E hr h=>?_)
 ·obtain⟨b,d,pw,h,t,L,es,zs,W',m,ws,v,mk,N,rfl,_⟩:=h;rfl
 ·obtain⟨b,d,pw,h,t,L,es,zs,W',m,ws,v,mk,N,rfl,bk,hpw,hW,hh,wf,ht,hv,hv0,hvN,hz,hz2,hacc,k⟩:=h
  have hl:=Aq
  refine⟨_,(Ac (AW (i:=6) GQ.nd (Ax Ro (hr.mono (by decide)) rfl Rq MF.kp Rp .nil (Rb (P:=P) (w:=w)) (Aa (pvD 2) (Aa (pvD 3) Ae))))
   (Ac (AW (i:=7) GQ.nd Ah)
   (Ac (AW (i:=8) GQ.nd (pvD 5))
   (Ac (X2 jz_ (ptT (AE (opD0 Gz_) (BS (opD0 AL_) (pvD 8) (pvD 7)) Ah (AZ _)))
   (Ac (AW (i:=9) GQ.nd (BS (opD OK) (BS (opD0 Hb) (pvD 7) (pvD 8)) Ah))
   (Ac (AW (i:=10) GQ.nd (BS Od (Ar (ixLD Ci) (pvD 1) (Ar (ixLD Ci) (pvD 6) (pvD 9))) (FK GH_ (pvD 3) (Hl (pvD 9)) Hk)))
   (Ac (AW (i:=11) GQ.nd (DU (pvD 0) W.cl_j7 EL EJ (hr.mono (by decide)) EK .nil AM (Aa (pvD 10) Ae)))
   (Ac (B6 (ptT (AE XD (pvD 11) Gk (AZ _)))
   (Af (An (F3 (Aa Ek (Aa (pvD 10) Ae)))))
   AK)
   (Af (B6 (ptT (AE (opE KQ) (pvD 11) (pvD 4) (AZ _)))
   (Af (AW (i:=8) GQ.nd (pvD 9)))
   (Af (AW (i:=7) GQ.nd (pvD 9))))))))))
   (Af (An (F3 (Aa Ek (Aa (FK GH_ (pvD 3) (Hl (pvD 8)) Hk) Ae))))))))),?_⟩
  obtain⟨⟨dxb,hb⟩,hd,nd⟩:=id bk
  walk_at "rd"
  obtain⟨tm,tw,h1,_,h3⟩:=id hh
  refine⟨h,t,tm,tw,L,_,ws,v,rfl,h1,h3,wf.wf,SqT.of ht,hz,fun _ p H1 s1 hpN hp=>?_,fun z=>by rw[hv]at z;cases z⟩
  obtain⟨Pv,hPv⟩:∃Pv:Nat->St->Hp->Prop,∀n σ' H',Pv n σ' H'↔(∃(lo hi:Nat) (f:Nat) (o1 o2 o3:Option V),Same H1 H'/\n=hi-lo/\hi-lo<=f+1/\lo<hi/\hi<=N/\Kw es W' ws v mk v.length 0 N=Kw es W' ws v mk f lo hi/\σ'=[some (.ref b),some (.ref pw),some (.ref h),some (.ref t),some (.int mk),some (.int N),some (.ref p),some (.int lo),some (.int hi),o1,o2,o3]):=⟨_,fun _ _ _=>qG_⟩
  refine Hc_ Pv ⟨N,(hPv _ _ _).mpr ⟨0,N,v.length,none,none,none,Same.refl _,by lia,by lia,by lia,by lia,rfl,rfl⟩⟩ fun n σ' H' h'=>?_
  obtain⟨lo,hi,f,o1,o2,o3,s',hn,hf,hlo,hhi,e,rfl⟩:=(hPv _ _ _).mp h'
  walk_at "rd"
  by_cases hg:hi-lo > 1
  ·rw[if_pos s!""]
   refine⟨fun σ2 H2=>∃m',m'<n/\Pv m' σ2 H2,fun _ _ z=>z,?_⟩
   have em:((lo:Int)+(hi:Int)) / 2=(((lo+hi) / 2:Nat):Int):=by lia
   simp only[em]
   have hmid:(lo+hi) / 2<=v.length:=by lia
   obtain⟨kk,k1,k2⟩:=hacc _ hmid
   obtain⟨ta,a1,a2⟩:=(hW.mono (TK.of (s1.trans s'))).2 kk _ k2
   have ht':=(s1.trans s') _ _ ht
   refine⟨by show CDiv _ _;unfold CDiv;lia,_,SqL.of (s' _ _ hp),_,Cq (HT_ ws v hmid),zs,_,rfl,SqL.of ((s1.trans s') _ _ hpw),_,(by rw[k1];exact Cq a1),_,SqT.of ht',?_,fun q hq=>?_⟩
   ·rw[HT.sIx_nat,HT.sIx_none,jb_];lia
   rw[XT]
   have sq:=Same.new (o:=.tup ((v.drop ((lo+hi) / 2)).map V.int)) hq
   have hlen:=hz2 _ (jf_ k2)
   refine Kk.ofS (sq _ _ a2) Ab (by rw[jb_,jb_,qI_];lia) fun u H2 s2 hu=>?_
   rw[<-jn_]at hu
   have s3:=(s1.trans s').trans (sq.trans s2)
   have s4:=s'.trans (sq.trans s2)
   refine⟨_,_,s3 _ _ hb,HK _ _ (by decide +kernel) (by decide +kernel),b,d,u,L,_,es,rfl,bk.mono s3,hu,fun hn2=>?_,fun t' hm=>?_⟩
   ·dsimp only
    rw[if_pos rfl]
    refine⟨by lia,fun x hx=>?_⟩
    obtain⟨f',rfl⟩:∃f',f=f'+1:=⟨f-1,by lia⟩
    refine (k _ (s3.newT hx)).1 _ u x ?_ (Same.new hx _ _ hu) Ab
    rw[e]
    unfold Kw
    rw[if_pos hg,US hn2]
   ·dsimp only
    rw[if_neg (by simp)]
    obtain⟨f',rfl⟩:∃f',f=f'+1:=⟨f-1,by lia⟩
    have e2:Kw es W' ws v mk (f'+1) lo hi=if t'=mk then Kw es W' ws v mk f' lo ((lo+hi) / 2) else Kw es W' ws v mk f' ((lo+hi) / 2) hi:=by
     conv=>lhs;unfold Kw
     rw[if_pos hg,K6 nd hm]
    rw[e2]at e
    refine⟨rfl,?_⟩
    by_cases htm:t'=mk
    ·rw[if_pos (by rw[htm])]
     rw[if_pos htm]at e
     exact⟨_,by lia,(hPv _ _ _).mpr ⟨lo,(lo+hi) / 2,f',_,_,_,s4,rfl,by lia,by lia,by lia,e,rfl⟩⟩
    ·rw[if_neg (fun z=>htm (V.int.inj z))]
     rw[if_neg htm]at e
     exact⟨_,by lia,(hPv _ _ _).mpr ⟨(lo+hi) / 2,hi,f',_,_,_,s4,rfl,by lia,by lia,by lia,e,rfl⟩⟩
  ·rw[if_neg s!""]
   have ht':=(s1.trans s') _ _ ht
   refine⟨_,SqT.of ht',?_,fun q hq=>⟨by lia,fun x hx=>?_⟩⟩
   ·rw[HT.sIx_nat,HT.sIx_none,jb_];lia
   rw[XT]at hx ⊢
   have sq:=Same.new (o:=.tup ((v.drop hi).map V.int)) hq
   refine (k _ (((s1.trans s').trans sq).newT hx)).2 hi q x ?_ (Same.new hx _ _ Ab) Ab
   rw[e]
   cases f with
   |zero=>rfl
   |succ f=>unfold Kw;rw[if_neg hg]
noncomputable def Bv_ (K:α3)(CA CB:Addr):Sp:=fun vs H Q _=>∃(a:Addr) (ad:AD) (s:AS) (wv:V) (B:Nat),vs=[.ref a]/\Asks K CA CB H a ad s wv/\OkX none B s/\s.G=[]/\Bd B s/\E4 s.L s.W s.E s.es=none/\∀H' r,Asks K CA CB H' a ad (Jd s).1 wv->Frm H H' a ad->((Jd s).2=none->r=.non)->(∀x,(Jd s).2=some x->CL K H' s.L r x)->Q r H'
theorem M0   (F:Fun K "look_at_guess" "Hunt.look_at_guess" BI f fd)(T:Txt mg)
  (W:Own K mg C_j7 C_j9 C_ji C_ja C_j1 C_j4)
  (Z:Exs K mg C_j8 C_j5 C_j6 C_j3 C_j2 C_j0)
   (FP:FnOk P w K mg base CX0 4 Bq HX ["self"] (KC_ K C_j1 C_j7)) (D5:Fun K "make_guess" "SayHunt.make_guess" BG Bq HX) (FQ:Binds K HX ["self"] []) (FT:Meth K C_j1 "make_guess" Bq)
   (FU:FnOk P w K mg base CX0 7 Br HY ["self"] (KD_ K C_j1 C_j7)) (D6:Fun K "wrong_word" "SayHunt.wrong_word" BH Br HY) (FV:Binds K HY ["self"] []) (FW:Meth K C_j1 "wrong_word" Br)
  : FnOk P w K mg base CX0 8 f fd ["self"] (Bv_ K C_j1 C_j7):=by
 refine F.ok Mx (fun vs H Q E h=>?_) (fun cdv A outer s H vs Q E hr h=>?_)
 ·obtain⟨a,ad,s,wv,B,rfl,_⟩:=h;rfl
 ·obtain⟨a,ad,s,wv,B,rfl,⟨gv,rv,zs,ys,us,x⟩,ok,hG,bd,hst,k⟩:=h
  have hl:=Aq
  have sz:=ok.sz bd
  have tb:=ok.tb
  obtain⟨np,cl⟩:=tb.none (ok.full hG) hst
  have g:GuessOk s.L s.W s.E s.es (Cb s.L s.W s.E s.es) (EM s.L s.W s.E s.es):=tb.guess (ok.full hG) cl
  have wf:=tb.wf g
  refine⟨_,(Ac (Gm (pvD 0) (AL (pvD 0) W.cl_j1 FT FP (hr.mono (by decide)) FQ .nil AM) rfl)
   (Ac (Gm (pvD 0) (AL (pvD 0) W.cl_j1 FW FU (hr.mono (by decide)) FV .nil AM) rfl)
   (Ac (B6 (ptT (AE XD (AX (pvD 0) rfl) Gk (AZ _)))
   (Af (An (F3 (Aa Ek (Aa (AX (pvD 0) rfl) Ae)))))
   AK)
   (Af (An Gk))))),?_⟩
  walk_at "rd"
  refine⟨_,_,x.ob,by kernel_rfl,a,ad,s,wv,rfl,⟨_,_,_,_,_,x⟩,sz,tb,ok.full hG,hst,fun h H1 s1 hh=>?_⟩
  have x1:=x.same s1
  refine⟨_,_,_,x1.ob,W.cl_j1,W.n_SayHunt_guess,Rw ..,?_⟩
  rw[HS_]
  have x2:=x1.put (wv':=wv) (gv':=.ref h) (rv':=rv) (s':={s with gs:=some (Cb s.L s.W s.E s.es,EM s.L s.W s.E s.es)}) rfl rfl rfl rfl rfl rfl ⟨h,rfl,hh⟩ x1.rv
  have f2:=(Frm.of s1 a ad).seq (x1.putF (.ins C_j1 ad.dx (afl wv s.L s.most ad.b ad.pw ad.pe ad.pg (.ref h) rv)))
  refine⟨_,_,x2.ob,by kernel_rfl,a,ad,_,wv,_,_,rfl,⟨_,_,_,_,_,x2⟩,rfl,wf,fun e he=>⟨⟨(tb.bW e he).1,ok.ne e he⟩,sz.b e he⟩,fun H3 s3=>⟨fun hno=>?_,fun v t hv ht=>?_⟩⟩
  ·have el:Jd s=({s with gs:=some (Cb s.L s.W s.E s.es,EM s.L s.W s.E s.es),wr:=none},some (.shown (Cb s.L s.W s.E s.es) (EM s.L s.W s.E s.es))):=by
    unfold Jd
    rw[hst]
    dsimp only
    rw[hno]
   have x3:=x2.same s3
   refine⟨_,_,_,x3.ob,W.cl_j1,W.n_SayHunt_wrong,Rw ..,?_⟩
   rw[Vw]
   have x4:=x3.put (wv':=wv) (gv':=.ref h) (rv':=.non) (s':={s with gs:=some (Cb s.L s.W s.E s.es,EM s.L s.W s.E s.es),wr:=none}) rfl rfl rfl rfl rfl rfl x3.gv rfl
   have f4:=(f2.seq (Frm.of s3 a ad)).seq (x3.putF (.ins C_j1 ad.dx (afl wv s.L s.most ad.b ad.pw ad.pe ad.pg (.ref h) .non)))
   refine⟨_,_,_,x4.ob,W.cl_j1,W.n_SayHunt_wrong,_,Of ..,?_⟩
   rw[if_pos rfl]
   refine⟨_,_,_,x4.ob,W.cl_j1,W.n_SayHunt_guess,_,UT ..,by lia,fun p hp=>?_⟩
   refine k _ _ ?_ (f4.seq (Frm.of (Same.new hp) a ad)) ?_ ?_
   ·rw[el];exact⟨_,_,_,_,_,x4.same (Same.new hp)⟩
   ·rw[el];exact fun z=>by cases z
   ·rw[el]
    intro y z
    cases z
    refine⟨p,h,rfl,Ab,?_⟩
    obtain⟨h',e',hh'⟩:=(x4.same (Same.new hp)).gv
    cases e'
    exact hh'
  ·have el:Jd s=({s with gs:=some (Cb s.L s.W s.E s.es,EM s.L s.W s.E s.es),wr:=some v},none):=by
    unfold Jd
    rw[hst]
    dsimp only
    rw[hv]
   have x3:=x2.same s3
   refine⟨_,_,_,x3.ob,W.cl_j1,W.n_SayHunt_wrong,Rw ..,?_⟩
   rw[Vw]
   have x4:=x3.put (wv':=wv) (gv':=.ref h) (rv':=.ref t) (s':={s with gs:=some (Cb s.L s.W s.E s.es,EM s.L s.W s.E s.es),wr:=some v}) rfl rfl rfl rfl rfl rfl x3.gv ⟨t,rfl,ht⟩
   have f4:=(f2.seq (Frm.of s3 a ad)).seq (x3.putF (.ins C_j1 ad.dx (afl wv s.L s.most ad.b ad.pw ad.pe ad.pg (.ref h) (.ref t))))
   refine⟨_,_,_,x4.ob,W.cl_j1,W.n_SayHunt_wrong,_,Of ..,?_⟩
   rw[if_neg (by simp)]
   refine k _ _ ?_ f4 ?_ ?_
   ·rw[el];exact⟨_,_,_,_,_,x4⟩
   ·rw[el];exact fun _=>rfl
   ·rw[el];exact fun y z=>by cases z
noncomputable def OV (K:α3)(CA CB:Addr)(pre:AS->Prop)(f:AS->AS×Option Wish):Sp:=fun vs H Q _=>∃(a:Addr) (ad:AD) (s:AS) (wv:V) (B:Nat),vs=[.ref a]/\Asks K CA CB H a ad s wv/\OkX none B s/\Bd B s/\pre s/\∀ad' H' r,Asks K CA CB H' a ad' (f s).1 wv->Frm H H' a ad->AdOk H ad ad'->((f s).2=none->r=.non)->(∀x,(f s).2=some x->CL K H' s.L r x)->Q r H'
theorem LN   (F:Fun K "look_at_words" "Asker.look_at_words" By f fd)(T:Txt mg)
  (W:Own K mg C_j7 C_j9 C_ji C_ja C_j1 C_j4)
  (Z:Exs K mg C_j8 C_j5 C_j6 C_j3 C_j2 C_j0)
   (A6:FnOk P w K mg base CX0 3 As Bc ["self"] (UW K C_j1 C_j7)) (Bm:Fun K "look_for_gaps" "Asker.look_for_gaps" A4 As Bc) (A7:Binds K Bc ["self"] []) (A8:Meth K C_j1 "look_for_gaps" As)
   (FX:FnOk P w K mg base CX0 8 Bs HZ ["self"] (Bv_ K C_j1 C_j7)) (D7:Fun K "look_at_guess" "Hunt.look_at_guess" BI Bs HZ) (FY:Binds K HZ ["self"] []) (FZ:Meth K C_j1 "look_at_guess" Bs)
   (RD:FnOk P w K mg base CX0 4 IK VD ["book","letters","access","ends"] (XS K C_j7)) (Kx:Fun K "stranger" "stranger" Hq IK VD) (RE:Binds K VD ["book","letters","access","ends"] []) (RF:mg "stranger"=some (.ref IK))
  : FnOk P w K mg base CX0 9 f fd ["self"] (OV K C_j1 C_j7 (fun s=>s.G=[]/\s.wr=none) Jd):=by
 refine F.ok Hc (fun vs H Q E h=>?_) (fun cdv A outer s H vs Q E hr h=>?_)
 ·obtain⟨a,ad,s,wv,B,rfl,_⟩:=h;rfl
 ·obtain⟨a,ad,s,wv,B,rfl,⟨gv,rv,zs,ys,us,x⟩,ok,bd,⟨hG,hwr⟩,k⟩:=h
  have hl:=Aq
  have sz:=ok.sz bd
  have tb:=ok.tb
  have w1:=sz.w.1
  have e1:=sz.e.1
  refine⟨_,(Ac (AW (i:=1) Hc.nd (Ax RD (hr.mono (by decide)) rfl RF Kx.kp RE .nil AM (Aa (AX (pvD 0) rfl) (Aa (AX (pvD 0) rfl) (Aa (AX (pvD 0) rfl) (Aa (AX (pvD 0) rfl) Ae))))))
   (Ac (B6 (ptT (AE XD (pvD 1) Gk (AZ _)))
   (Af (An (AL (pvD 0) W.cl_j1 FZ FX (hr.mono (by decide)) FY .nil AM)))
   AK)
   (Ac (B6 (ptT (AE (opE KQ) (AF (lenD Aj) (by rfl) T.len jv_ (Aa (AX (pvD 0) rfl) Ae)) (AX (pvD 0) rfl) (AZ _)))
   (Af (An (F3 (Aa Ek (Aa (pvD 1) Ae)))))
   AK)
   (Ac (Bb (U3 jI_ j2_ j3_ GO (AX (pvD 0) rfl) (Aa (pvD 1) Ae)))
   (Ac (Bb (AL (pvD 0) W.cl_j1 A8 A6 (hr.mono (by decide)) A7 .nil AM))
   (Af (An Gk))))))),?_⟩
  walk_at "rd"
  refine⟨_,_,_,x.ob,W.cl_j1,W.n_SayHunt_book,_,K9 ..,_,_,_,x.ob,W.cl_j1,W.n_SayHunt_letters,_,IJ ..,_,_,_,x.ob,W.cl_j1,W.n_SayHunt_ways,_,La ..,_,_,_,x.ob,W.cl_j1,W.n_SayHunt_ends,_,Rv ..,ad.b,ad.d,ad.pw,ad.pe,s.L,s.L,s.es,zs,ys,s.W,s.E,gOf s.E s.es,rfl,x.bk,sz.l6,SqL.of x.w,x.wW,by lia,fun v hv=>by have:=sz.w.2 v hv;lia,SqL.of x.e,x.eW,by lia,sz.e.2,fun v hv=>HP_ (ok.full hG) hv,fun r t H1 hst s1 ht=>?_,fun H1 hst s1=>?_⟩
  ·dsimp only
   rw[if_neg (by simp)]
   have x1:=x.same s1
   have f1:=Frm.of s1 a ad
   have k1:=AdOk.refl H ad
   refine⟨_,_,_,x1.ob,W.cl_j1,W.n_SayHunt_ways,_,La ..,ad.pw,rfl,_,.inl (SqL.of x1.w),_,_,_,x1.ob,W.cl_j1,W.n_SayHunt_most,_,Lv_ ..,rfl,?_⟩
   rw[x1.wW.1]
   by_cases hm:s.W.length=s.most
   ·rw[if_pos (by rw[hm])]
    have el:Jd s=(s,some (.spent r)):=by
     unfold Jd
     rw[show E4 s.L s.W s.E s.es=some r from hst]
     dsimp only
     rw[if_pos hm]
    refine⟨by lia,fun p hp=>?_⟩
    refine k ad _ _ ?_ (f1.seq (Frm.of (Same.new hp) a ad)) k1 ?_ ?_
    ·rw[el];exact⟨_,_,_,_,_,x1.same (Same.new hp)⟩
    ·rw[el];exact fun z=>by cases z
    ·rw[el]
     intro y z
     cases z
     exact⟨p,t,rfl,Ab,Same.new hp _ _ ht⟩
   ·rw[if_neg (fun z=>hm (by have:=V.int.inj z;lia))]
    have el:Jd s=({s with W:=s.W++[r],G:=Lr s.L (s.W++[r]) s.E s.es},none):=by
     unfold Jd
     rw[show E4 s.L s.W s.E s.es=some r from hst]
     dsimp only
     rw[if_neg hm]
    have x2:=x1.putW (x1.wW.snoc ht)
    have f2:=f1.seq (Frm.put (a:=a) (o:=.lst (zs++[.ref t])) (.inl rfl) ⟨_,x1.w⟩)
    obtain⟨o2,kp,_⟩:=(HQ_ ok hG hwr).1 _ el
    have sz2:=o2.sz (B:=B) bd
    refine⟨_,_,_,x1.ob,W.cl_j1,W.n_SayHunt_ways,_,La ..,.inl ⟨rfl,_,SqL.of x1.w⟩,ad.pw,rfl,_,x1.w,by rw[x1.wW.1];lia,_,_,x2.ob,by kernel_rfl,a,ad,_,wv,rfl,⟨_,_,_,_,_,x2⟩,⟨sz2.l6,sz2.w,sz2.e,sz2.b⟩,fun ad' H3 x3 f3 k3=>?_⟩
    refine k ad' H3 _ ?_ (f2.trans k1 f3) (AdOk.trans f2 k1 k3) ?_ ?_
    ·rw[el];exact x3
    ·rw[el];exact fun _=>rfl
    ·rw[el];exact fun y z=>by cases z
  ·dsimp only
   rw[if_pos rfl]
   have x1:=x.same s1
   have f1:=Frm.of s1 a ad
   have k1:=AdOk.refl H ad
   exact⟨_,_,x1.ob,by kernel_rfl,a,ad,s,wv,B,rfl,⟨_,_,_,_,_,x1⟩,ok,hG,bd,hst,fun H3 r x3 f3=>k ad H3 r x3 (f1.seq f3) k1⟩
theorem W3   (F:Fun K "halve" "Asker.halve" EG f fd)(T:Txt mg)
  (W:Own K mg C_j7 C_j9 C_ji C_ja C_j1 C_j4)
  (Z:Exs K mg C_j8 C_j5 C_j6 C_j3 C_j2 C_j0)
   (YK:FnOk P w K mg base CX0 4 Oh Bw_ ["book","access","guess","word","mark","last"] (Bu_ K C_j7)) (P8:Fun K "halved" "halved" K0 Oh Bw_) (YL:Binds K Bw_ ["book","access","guess","word","mark","last"] []) (YM:mg "halved"=some (.ref Oh))
   (A6:FnOk P w K mg base CX0 3 As Bc ["self"] (UW K C_j1 C_j7)) (Bm:Fun K "look_for_gaps" "Asker.look_for_gaps" A4 As Bc) (A7:Binds K Bc ["self"] []) (A8:Meth K C_j1 "look_for_gaps" As)
   (Dp:FnOk P w K mg base CX0 6 Bp Eb ["self","house","word"] (OU K)) (Dq:Fun K "answer" "SayHunt.answer" B8 Bp Eb) (Dr:Binds K Eb ["self","house","word"] []) (Ds:Meth K C_j1 "answer" Bp)
  : FnOk P w K mg base CX0 7 f fd ["self"] (OV K C_j1 C_j7 (fun s=>s.G=[]/\s.wr≠none) EV):=by
 refine F.ok HM (fun vs H Q E h=>?_) (fun cdv A outer s H vs Q E hr h=>?_)
 ·obtain⟨a,ad,s,wv,B,rfl,_⟩:=h;rfl
 ·obtain⟨a,ad,s,wv,B,rfl,⟨gv,rv,zs,ys,us,x⟩,ok,bd,⟨hG,hwr⟩,k⟩:=h
  have hl:=Aq
  have sz:=ok.sz bd
  have tb:=ok.tb
  have w1:=sz.w.1
  have e1:=sz.e.1
  obtain⟨v,hv⟩:=Option.ne_none_iff_exists'.mp hwr
  obtain⟨_,hEW,hvW,hvl,m,ws,tt,hgs,g,htt,hne⟩:=ok.wr v hv
  have en:EV s=P4 s v m ws:=by
   unfold EV
   rw[hG,hv,hgs]
  have wf:=tb.wf g
  have hgv:=x.gv
  rw[hgs]at hgv
  obtain⟨h,rfl,hh⟩:=hgv
  have hrv:=x.rv
  rw[hv]at hrv
  obtain⟨t,rfl,ht⟩:=hrv
  refine⟨_,(Ac (AW (i:=1) HM.nd (DU (pvD 0) W.cl_j1 Ds Dp (hr.mono (by decide)) Dr .nil AM (Aa (AX (pvD 0) rfl) (Aa (AX (pvD 0) rfl) Ae))))
   (Ac (AW (i:=2) HM.nd (BS (opD0 AL_) (AF (lenD Aj) (by rfl) T.len jv_ (Aa (AX (pvD 0) rfl) Ae)) (AF (lenD Aj) (by rfl) T.len jv_ (Aa (Ar (ixLD Ci) (AX (pvD 0) rfl) Ah) Ae))))
   (Ac (AW (i:=3) HM.nd (Ax YK (hr.mono (by decide)) rfl YM P8.kp YL .nil AM (Aa (AX (pvD 0) rfl) (Aa (AX (pvD 0) rfl) (Aa (AX (pvD 0) rfl) (Aa (AX (pvD 0) rfl) (Aa (pvD 1) (Aa (pvD 2) Ae))))))))
   (Ac (B6 (ptT (AE (opE KQ) (Ar (ixTD AY) (pvD 3) Ah) Ek (AZ _)))
   (Af (An (pvD 3)))
   AK)
   (Ac (Gm (pvD 0) Gk rfl)
   (Ac (Bb (U3 jI_ j2_ j3_ GO (AX (pvD 0) rfl) (Aa (Ar (ixTD AY) (pvD 3) Ah) Ae)))
   (Ac (Bb (AL (pvD 0) W.cl_j1 A8 A6 (hr.mono (by decide)) A7 .nil AM))
   (Af (An Gk))))))))),?_⟩
  walk_at "rd"
  obtain⟨hvn,_,_,hv1⟩:=Vv ok g hvW htt hne
  have hvl2:v.length<=600:=by
   have:=ok.lens
   unfold Bd at bd
   lia
  refine⟨_,_,x.ob,by kernel_rfl,_,_,_,x.ob,W.cl_j1,W.n_SayHunt_guess,_,UT ..,_,_,_,x.ob,W.cl_j1,W.n_SayHunt_wrong,_,Of ..,a,h,t,s.L,m,ws,v,rfl,hh.house,wf,SqT.of ht,hvl2,hvW,hvn,fun H1 s1=>?_⟩
  have x1:=x.same s1
  have f1:=Frm.of s1 a ad
  have k1:=AdOk.refl H ad
  obtain⟨t0,q1,q2⟩:=x1.eW.2 0 [0] tb.ends0
  have ht1:=s1 _ _ ht
  refine⟨_,_,_,x1.ob,W.cl_j1,W.n_SayHunt_wrong,_,Of ..,t,rfl,_,.inr (SqT.of ht1),_,_,_,x1.ob,W.cl_j1,W.n_SayHunt_ends,_,Rv ..,ad.pe,rfl,_,SqL.of x1.e,_,Cq (j:=0) q1,t0,rfl,_,.inr (SqT.of q2),_,_,_,x1.ob,W.cl_j1,W.n_SayHunt_book,_,K9 ..,_,_,_,x1.ob,W.cl_j1,W.n_SayHunt_ways,_,La ..,_,_,_,x1.ob,W.cl_j1,W.n_SayHunt_guess,_,UT ..,_,_,_,x1.ob,W.cl_j1,W.n_SayHunt_wrong,_,Of ..,ad.b,ad.d,ad.pw,h,t,s.L,s.es,zs,s.W,m,ws,v,lsay m ws v,v.length-1,by simp;lia,x1.bk,x1.w,x1.wW,(hh.mono (TK.of s1)).house,wf,ht1,hvW,hv1,by lia,hvl2,sz.w.2,fun i _=>P5 tb g hvW i,fun H2 s2=>⟨fun c u t' hc hu ht'=>?_,fun hi u t' hc hu ht'=>?_⟩⟩
  ·have el:EV s=(s,some (.ask c)):=by
    rw[en]
    unfold P4
    rw[hc]
   refine⟨t',rfl,_,SqT.of ht',_,rfl,rfl,?_⟩
   rw[if_pos rfl]
   refine k ad H2 _ ?_ (f1.seq (Frm.of s2 a ad)) k1 ?_ ?_
   ·rw[el];exact⟨_,_,_,_,_,x1.same s2⟩
   ·rw[el];exact fun z=>by cases z
   ·rw[el]
    intro y z
    cases z
    exact⟨t',u,rfl,ht',hu⟩
  ·have el:EV s=({s with wr:=none,E:=s.E++[v.drop hi],G:=Lr s.L s.W (s.E++[v.drop hi]) s.es},none):=by
    rw[en]
    unfold P4
    rw[hc]
   have x2:=x1.same s2
   have f2:=f1.seq (Frm.of s2 a ad)
   refine⟨t',rfl,_,SqT.of ht',_,rfl,rfl,?_⟩
   rw[if_neg (fun z=>absurd (V.str.inj z) (by decide +kernel))]
   refine⟨_,_,_,x2.ob,W.cl_j1,W.n_SayHunt_wrong,Rw ..,?_⟩
   rw[Vw]
   have x3:=x2.put (wv':=wv) (gv':=.ref h) (rv':=.non) (s':={s with wr:=none}) rfl rfl rfl rfl rfl rfl x2.gv rfl
   have f3:=f2.seq (x2.putF (.ins C_j1 ad.dx (afl wv s.L s.most ad.b ad.pw ad.pe ad.pg (.ref h) .non)))
   have tk3:=x2.tkob (.ins C_j1 ad.dx (afl wv s.L s.most ad.b ad.pw ad.pe ad.pg (.ref h) .non))
   have ht3:=tk3 _ _ ht'
   have hu3:=tk3 _ _ hu
   have x4:=x3.putE (x3.eW.snoc hu3)
   have f4:=f3.seq (Frm.put (a:=a) (o:=.lst (ys++[.ref u])) (.inr (.inl rfl)) ⟨_,x3.e⟩)
   obtain⟨o2,kp,_⟩:=(OQ ok).1 _ el
   have sz2:=o2.sz (B:=B) bd
   refine⟨_,_,_,x3.ob,W.cl_j1,W.n_SayHunt_ends,_,Rv ..,.inl ⟨rfl,_,SqL.of x3.e⟩,t',rfl,_,SqT.of ht3,_,rfl,ad.pe,rfl,_,x3.e,by rw[x3.eW.1];show s.E.length<_;lia,_,_,x4.ob,by kernel_rfl,a,ad,_,wv,rfl,⟨_,_,_,_,_,x4⟩,⟨sz2.l6,sz2.w,sz2.e,sz2.b⟩,fun ad' H3 x5 f5 k5=>?_⟩
   refine k ad' H3 _ ?_ (f4.trans k1 f5) (AdOk.trans f4 k1 k5) ?_ ?_
   ·rw[el];exact x5
   ·rw[el];exact fun _=>rfl
   ·rw[el];exact fun y z=>by cases z
theorem RG   (F:Fun K "next_wish" "Hunt.next_wish" CH f fd)(T:Txt mg)
  (W:Own K mg C_j7 C_j9 C_ji C_ja C_j1 C_j4)
  (Z:Exs K mg C_j8 C_j5 C_j6 C_j3 C_j2 C_j0)
   (Lb:FnOk P w K mg base CX0 7 DE OD ["self"] (OV K C_j1 C_j7 (fun s=>s.G=[]/\s.wr≠none) EV)) (IF:Fun K "halve" "Asker.halve" EG DE OD) (Lc:Binds K OD ["self"] []) (Ld:Meth K C_j1 "halve" DE)
   (Ft:FnOk P w K mg base CX0 9 Bn Hf ["self"] (OV K C_j1 C_j7 (fun s=>s.G=[]/\s.wr=none) Jd)) (DF:Fun K "look_at_words" "Asker.look_at_words" By Bn Hf) (Fu:Binds K Hf ["self"] []) (Fv:Meth K C_j1 "look_at_words" Bn)
  : FnOk P w K mg base CX0 10 f fd ["self"] (OV K C_j1 C_j7 (fun _=>True) EV):=by
 refine F.ok Rg (fun vs H Q E h=>?_) (fun cdv A outer s H vs Q E hr h=>?_)
 ·obtain⟨a,ad,s,wv,B,rfl,_⟩:=h;rfl
 ·obtain⟨a,ad,s,wv,B,rfl,⟨gv,rv,zs,ys,us,x⟩,ok,bd,_,k⟩:=h
  have hl:=Aq
  refine⟨_,(Ac (B6 (ptT (AE (opD0 Gz_) (AF (lenD Aj) (by rfl) T.len jv_ (Aa (AX (pvD 0) rfl) Ae)) Ah (AZ _)))
   (Af (An (F3 (Aa Ek (Aa (U3 jI_ PySem.F.slot_list_pop PySem.F.type_list_pop IA_ (AX (pvD 0) rfl) (Aa Ah Ae)) Ae)))))
   AK)
   (Ac (B6 (ptT (AE GA_ (AX (pvD 0) rfl) Gk (AZ _)))
   (Af (An (AL (pvD 0) W.cl_j1 Ld Lb (hr.mono (by decide)) Lc .nil AM)))
   AK)
   (Af (An (AL (pvD 0) W.cl_j1 Fv Ft (hr.mono (by decide)) Fu .nil AM))))),?_⟩
  walk_at "rd"
  refine⟨_,_,_,x.ob,W.cl_j1,W.n_SayHunt_gaps,_,HR_ ..,ad.pg,rfl,_,.inl (SqL.of x.g),?_⟩
  cases hG:s.G with
  |cons c r=>
   have hgl:us.length=r.length+1:=by rw[x.gW.1,hG];rfl
   have hgW:=x.gW
   rw[hG]at hgW
   obtain⟨tc,g1,g2⟩:=hgW.2 0 c rfl
   rw[if_pos s!""]
   have el:EV s=({s with G:=r},some (.ask c)):=by
    unfold EV
    rw[hG]
   have x2:=x.putG (Am.tail39 hgW)
   have f2:Frm H (upd H ad.pg (.lst (us.eraseIdx 0))) a ad:=Frm.put (.inr (.inr (.inl rfl))) ⟨_,x.g⟩
   have tk2:=TK.lst x.g (o:=.lst (us.eraseIdx 0))
   refine⟨_,_,_,x.ob,W.cl_j1,W.n_SayHunt_gaps,_,HR_ ..,.inl ⟨rfl,_,SqL.of x.g⟩,ad.pg,rfl,_,x.g,by decide,by decide,0,Ne_ (i:=0) s!"",_,g1,by lia,fun p hp=>?_⟩
   refine k ad _ _ ?_ (f2.seq (Frm.of (Same.new hp) a ad)) (AdOk.refl H ad) ?_ ?_
   ·rw[el];exact⟨_,_,_,_,_,x2.same (Same.new hp)⟩
   ·rw[el];exact fun z=>by cases z
   ·rw[el]
    intro y z
    cases z
    exact⟨p,tc,rfl,Ab,Same.new hp _ _ (tk2 _ _ g2)⟩
  |nil=>
   rw[if_neg (by rw[x.gW.1,hG];simp)]
   refine⟨_,_,_,x.ob,W.cl_j1,W.n_SayHunt_wrong,_,Of ..,?_⟩
   cases hwr:s.wr with
   |none=>
    have hrv:=x.rv
    rw[hwr]at hrv
    have hrv:rv=.non:=hrv
    subst hrv
    have en:EV s=Jd s:=by
     unfold EV
     rw[hG,hwr]
    rw[en]at k
    rw[if_neg (by simp)]
    exact⟨_,_,x.ob,by kernel_rfl,a,ad,s,wv,B,rfl,⟨_,_,_,_,_,x⟩,ok,bd,⟨hG,hwr⟩,k⟩
   |some v=>
    have hrv:=x.rv
    rw[hwr]at hrv
    obtain⟨t,rfl,ht⟩:=hrv
    rw[if_pos (by simp)]
    exact⟨_,_,x.ob,by kernel_rfl,a,ad,s,wv,B,rfl,⟨_,_,_,_,_,x⟩,ok,bd,⟨hG,by rw[hwr];simp⟩,k⟩
noncomputable def YN (K:α3)(CA CB:Addr):Sp:=fun vs H Q _=>∃(a:Addr) (ad:AD) (s:AS) (wv:V) (B:Nat),vs=[.ref a]/\Asks K CA CB H a ad s wv/\OkX none B s/\Bd B s/\∀ad' H' s' x wv',Goes s s' x->Asks K CA CB H' a ad' s' wv'->CL K H' s.L wv' x->Frm H H' a ad->AdOk H ad ad'->Q .non H'
theorem W4   (F:Fun K "go_on" "Turns.go_on" CM f fd)(T:Txt mg)
  (W:Own K mg C_j7 C_j9 C_ji C_ja C_j1 C_j4)
  (Z:Exs K mg C_j8 C_j5 C_j6 C_j3 C_j2 C_j0)
   (F7:FnOk P w K mg base CX0 10 Cc Ky ["self"] (OV K C_j1 C_j7 (fun _=>True) EV)) (F8:Fun K "next_wish" "Hunt.next_wish" CH Cc Ky) (F9:Binds K Ky ["self"] []) (Ga:Meth K C_j1 "next_wish" Cc)
  : FnOk P w K mg base CX0 11 f fd ["self"] (YN K C_j1 C_j7):=by
 refine F.ok WV (fun vs H Q E h=>?_) (fun cdv A outer s H vs Q E hr h=>?_)
 ·obtain⟨a,ad,s,wv,B,rfl,_⟩:=h;rfl
 ·obtain⟨a,ad,s,wv,B,rfl,⟨gv,rv,zs,ys,us,x⟩,ok,bd,k⟩:=h
  have hl:=Aq
  refine⟨_,(Ac (Gm (pvD 0) (AL (pvD 0) W.cl_j1 Ga F7 (hr.mono (by decide)) F9 .nil AM) rfl)
   (Af (X2 jz_ (ptT (AE XD (AX (pvD 0) rfl) Gk (AZ _)))
   (Af (Gm (pvD 0) (AL (pvD 0) W.cl_j1 Ga F7 (hr.mono (by decide)) F9 .nil AM) rfl))))),?_⟩
  walk_at "rd"
  obtain⟨Pv,hPv⟩:∃Pv:Nat->St->Hp->Prop,∀n σ' H',Pv n σ' H'↔(∃(ad1:AD) (s1:AS) (wv1:V),Asks K C_j1 C_j7 H' a ad1 s1 wv1/\Frm H H' a ad/\AdOk H ad ad1/\σ'=[some (.ref a)]/\((wv1=.non/\OkX none B s1/\Kept s s1/\(∀s' y,Goes s1 s' y->Goes s s' y)/\n=mu s1+1) \/ ∃y,CL K H' s.L wv1 y/\Goes s s1 y/\n=0)):=⟨_,fun _ _ _=>qG_⟩
  have step:∀(s1:AS) (ad1:AD) (wv1:V) (H1:Hp) (M:Nat),Asks K C_j1 C_j7 H1 a ad1 s1 wv1->Frm H H1 a ad->AdOk H ad ad1->OkX none B s1->Kept s s1->(∀s' y,Goes s1 s' y->Goes s s' y)->mu s1<=M->∃x x_1,H1 a=some (HO.ins C_j1 x x_1)/\List.lookup ("next_wish" : Str) x_1=none/\OV K C_j1 C_j7 (fun x=>True) EV [V.ref a] H1 (fun y H1=>∃x x_2 x_3,H1 a=some (HO.ins x x_2 x_3)/\Cls K x/\FN K x ("wish" : Str)/\x_3.length<1000/\∃m',m'<M+1/\Pv m' [some (V.ref a)] (upd H1 a (HO.ins x x_2 (putF ("wish" : Str) y x_3)))) E0:=by
   rintro s1 ad1 wv1 H1 M ⟨gv,rv,zs,ys,us,x1⟩ f1 k1 ok1 kp1 go1 hM
   refine⟨_,_,x1.ob,by kernel_rfl,a,ad1,s1,wv1,B,rfl,⟨_,_,_,_,_,x1⟩,ok1,by unfold Bd at bd ⊢;rw[kp1.m,kp1.l];exact bd,trivial,fun ad2 H2 r x2 f2 k2 hN hS=>?_⟩
   obtain⟨gv2,rv2,zs2,ys2,us2,x2⟩:=x2
   refine⟨_,_,_,x2.ob,W.cl_j1,W.n_SayHunt_wish,Rw ..,?_⟩
   rw[EO_]
   have x3:=x2.put (wv':=r) (gv':=gv2) (rv':=rv2) (s':=(EV s1).1) rfl rfl rfl rfl rfl rfl x2.gv x2.rv
   have f3:=(f1.trans k1 f2).trans (AdOk.trans f1 k1 k2) (x2.putF (.ins C_j1 ad2.dx (afl r (EV s1).1.L (EV s1).1.most ad2.b ad2.pw ad2.pe ad2.pg gv2 rv2)))
   have tk:=x2.tkob (.ins C_j1 ad2.dx (afl r (EV s1).1.L (EV s1).1.most ad2.b ad2.pw ad2.pe ad2.pg gv2 rv2))
   have k3:=AdOk.trans f1 k1 k2
   cases hn:(EV s1).2 with
   |none=>
    have e1:EV s1=((EV s1).1,none):=by rw[<-hn]
    obtain⟨ok2,kp2,hmu⟩:=(OQ ok1).1 _ e1
    refine⟨mu (EV s1).1+1,by lia,(hPv _ _ _).mpr ⟨ad2,_,r,⟨_,_,_,_,_,x3⟩,f3,k3,rfl,.inl ⟨hN hn,ok2,⟨kp2.l.trans kp1.l,kp2.m.trans kp1.m,kp2.e.trans kp1.e⟩,fun s' y hy=>go1 s' y (.more e1 hy),rfl⟩⟩⟩
   |some y=>
    have e1:EV s1=((EV s1).1,some y):=by rw[<-hn]
    have hw:=(hS y hn).mono tk
    rw[kp1.l]at hw
    exact⟨0,by lia,(hPv _ _ _).mpr ⟨ad2,_,r,⟨_,_,_,_,_,x3⟩,f3,k3,rfl,.inr ⟨y,hw,go1 _ _ (.stop e1),rfl⟩⟩⟩
  obtain⟨c1,c2,c3,c4,c5⟩:=step s ad wv H (mu s+1) ⟨_,_,_,_,_,x⟩ (Frm.of (Same.refl _) a ad) (AdOk.refl H ad) ok ⟨rfl,rfl,rfl⟩ (fun _ _ z=>z) s!""
  refine⟨c1,c2,c3,c4,?_⟩
  obtain⟨a',ad',s',wv',B',e1,e2,e3,e4,e5,e6⟩:=c5
  refine⟨a',ad',s',wv',B',e1,e2,e3,e4,e5,fun ad2 H2 r x2 f2 k2 hN hS=>?_⟩
  obtain⟨d1,d2,d3,d4,d5,d6,d7,m',_,d8⟩:=e6 ad2 H2 r x2 f2 k2 hN hS
  refine⟨d1,d2,d3,d4,d5,d6,d7,Hc_ Pv ⟨m',d8⟩ fun n σ' H' h'=>?_⟩
  obtain⟨ad1,s1,wv1,⟨gv,rv,zs,ys,us,x1⟩,f1,k1,rfl,hh⟩:=(hPv _ _ _).mp h'
  walk_at "rd"
  refine⟨_,_,_,x1.ob,W.cl_j1,W.n_SayHunt_wish,_,OR ..,?_⟩
  rcases hh with ⟨rfl,ok1,kp1,go1,hn⟩|⟨y,hw,go1,hn⟩
  ·rw[if_pos rfl]
   refine⟨fun σ2 H2=>∃m',m'<n/\Pv m' σ2 H2,fun _ _ z=>z,?_⟩
   subst hn
   exact step s1 ad1 _ H' (mu s1) ⟨_,_,_,_,_,x1⟩ f1 k1 ok1 kp1 go1 s!""
  ·obtain⟨t,u,e,_⟩:=id hw
   rw[if_neg (by rw[e];simp)]
   exact k ad1 _ s1 y wv1 go1 ⟨_,_,_,_,_,x1⟩ hw f1 k1
noncomputable def KE_ (K:α3)(CA CB:Addr)(H:Hp)(a:Addr)(ad:AD)(s:AS)(Q:VK):Prop:=∀ad' H' s' x' wv',Goes s s' x'->Asks K CA CB H' a ad' s' wv'->CL K H' s.L wv' x'->Frm H H' a ad->AdOk H ad ad'->Q .non H'
noncomputable def YO (K:α3)(CA CB OT BM:Addr):Sp:=fun vs H Q E=>∃(a:Addr) (ad:AD) (s:AS) (wv:V) (x:Wish) (B:Nat) (m:Int),vs=[.ref a,.int m]/\Asks K CA CB H a ad s wv/\CL K H s.L wv x/\WOk B s x/\Bd B s/\s.es.length<=100000/\(x.tag ≠ "ask" -> E (.ref OT) none H)/\∀c,x=.ask c->(¬ (0<=m/\m<=1000000000)->∀H',Same H H'->E (.ref BM) none H')/\(0<=m->m<=1000000000->KE_ K CA CB H a ad {s with es:=s.es++[(c,m)]} Q)
theorem OW   (F:Fun K "keep_answer" "Hunt.keep_answer" B3 f fd)(T:Txt mg)
  (W:Own K mg C_j7 C_j9 C_ji C_ja C_j1 C_j4)
  (Z:Exs K mg C_j8 C_j5 C_j6 C_j3 C_j2 C_j0)
   (CN:FnOk P w K mg base CX0 11 Bw CZ ["self"] (YN K C_j1 C_j7)) (DG:Fun K "go_on" "Turns.go_on" CM Bw CZ) (CP:Binds K CZ ["self"] []) (CQ:Meth K C_j1 "go_on" Bw)
   (IL:FnOk P w K mg base (CXe P w) 4 Ec Jh ["self","word","mark"] (MN C_j7 C_j5 C_j6 C_j0)) (IM:Fun K "put" "Book.put" Gp Ec Jh) (IP:Binds K Jh ["self","word","mark"] []) (IQ:Meth K C_j7 "put" Ec)
   (AN:FnOk P w K mg base (CXe P w) 1 Ap AR ["self","deed"] (MU K C_j1 C_j7 C_j3)) (Ba:Fun K "check_wants" "Turns.check_wants" A9 Ap AR) (AO:Binds K AR ["self","deed"] []) (AQ:Meth K C_j1 "check_wants" Ap)
  : FnOk P w K mg base (CXe P w) 12 f fd ["self","number"] (YO K C_j1 C_j7 C_j3 C_j6):=by
 refine F.okE ON (fun vs H Q E h=>?_) (fun cdv A outer s H vs Q E hr h=>?_)
 ·obtain⟨a,ad,s,wv,x,B,m,rfl,_⟩:=h;rfl
 ·obtain⟨a,ad,s,wv,y,B,m,rfl,⟨gv,rv,zs,ys,us,x⟩,hw,ok,bd,hz,kE,k⟩:=h
  have hl:=Aq
  refine⟨_,(Ac (Bb (DU (pvD 0) W.cl_j1 AQ AN (hr.mono (by decide)) AO .nil (Kj fun _ _ _ h=>h) (Aa Ek Ae)))
   (Ac (Bb (DU (AX (pvD 0) rfl) W.cl_j7 IQ IL (hr.mono (by decide)) IP .nil (Kj fun _ _ _ h=>h) (Aa (Ar (ixTD AY) (AX (pvD 0) rfl) Ah) (Aa (pvD 1) Ae))))
   (Af (Bb (AL (pvD 0) W.cl_j1 CQ CN (hr.mono (by decide)) CP .nil AM))))),?_⟩
  walk_at "rd"
  refine⟨_,_,x.ob,by kernel_rfl,a,ad,s,wv,y,"ask",rfl,⟨_,_,_,_,_,x⟩,hw,fun htag=>?_,kE⟩
  cases y with
  |shown mm ws=>exact absurd htag (show ¬ ("show" : Str) = "ask" by decide +kernel)
  |done mm ws=>exact absurd htag (show ¬ ("done" : Str) = "ask" by decide +kernel)
  |spent c=>exact absurd htag (show ¬ ("spent" : Str) = "ask" by decide +kernel)
  |ask c=>
   obtain⟨t,u,rfl,ht,hu⟩:=hw
   obtain⟨kM,kk⟩:=k c rfl
   obtain⟨okc,hn,hc,hlen,hg⟩:=ok
   have hcw:=hc.1
   obtain⟨dxb,hb⟩:=x.bk.ob
   have hnk:c∉s.es.map (·.1):=fun z=>by
    obtain⟨n,hn'⟩:=Vt.mp z
    rw[hn]at hn';cases hn'
   have hcl:c.length<=900:=by
    have h1:=okc.lens
    unfold Bd at bd
    split at hlen<;>lia
   refine⟨_,_,_,x.ob,W.cl_j1,W.n_SayHunt_book,_,K9 ..,ad.b,rfl,_,_,hb,HK _ _ (by decide +kernel) (by decide +kernel),_,_,_,x.ob,W.cl_j1,W.n_SayHunt_wish,_,OR ..,t,rfl,_,SqT.of ht,_,rfl,ad.b,ad.d,u,s.L,m,c,s.es,rfl,x.bk,hu,hcl,hz,fun z=>(by rw[hcw]at z;cases z),fun _ hm H' s'=>kM hm H' s',fun _ _ _ n hin _ _ _=>absurd (jH_.mpr ⟨_,hin,rfl⟩) hnk,fun _ h0 h9 _ H' hb' hf=>?_⟩
   unfold putE at hb'
   rw[if_neg hnk]at hb'
   obtain⟨x2,f2,tk2⟩:=x.putB hb' hf
   exact⟨_,_,x2.ob,by kernel_rfl,a,ad,_,_,B,rfl,⟨_,_,_,_,_,x2⟩,okc.told (fun b hb=>(jt_ hb).symm) hnk hc h0 h9 hlen hg,bd,fun ad' H3 s' y' wv' go x3 hw3 f3 k3=>kk h0 h9 ad' H3 s' y' wv' go x3 hw3 (f2.trans (AdOk.refl H ad) f3) (AdOk.trans f2 (AdOk.refl H ad) k3)⟩
noncomputable def EW_ (K:α3)(CA CB OT:Addr):Sp:=fun vs H Q E=>∃(a:Addr) (ad:AD) (s:AS) (wv:V) (x:Wish),vs=[.ref a]/\Asks K CA CB H a ad s wv/\CL K H s.L wv x/\(x.tag ≠ "show" -> E (.ref OT) none H)/\∀mm ws,x=.shown mm ws->∀H' wv',Asks K CA CB H' a ad s wv'->CL K H' s.L wv' (.done mm ws)->Frm H H' a ad->Q .non H'
theorem YQ   (F:Fun K "agree" "Hunt.agree" Fh f fd)(T:Txt mg)
  (W:Own K mg C_j7 C_j9 C_ji C_ja C_j1 C_j4)
  (Z:Exs K mg C_j8 C_j5 C_j6 C_j3 C_j2 C_j0)
   (AN:FnOk P w K mg base (CXe P w) 1 Ap AR ["self","deed"] (MU K C_j1 C_j7 C_j3)) (Ba:Fun K "check_wants" "Turns.check_wants" A9 Ap AR) (AO:Binds K AR ["self","deed"] []) (AQ:Meth K C_j1 "check_wants" Ap)
  : FnOk P w K mg base (CXe P w) 2 f fd ["self"] (EW_ K C_j1 C_j7 C_j3):=by
 refine F.okE Yx (fun vs H Q E h=>?_) (fun cdv A outer s H vs Q E hr h=>?_)
 ·obtain⟨a,ad,s,wv,x,rfl,_⟩:=h;rfl
 ·obtain⟨a,ad,s,wv,y,rfl,⟨gv,rv,zs,ys,us,x⟩,hw,kE,k⟩:=h
  have hl:=Aq
  refine⟨_,(Ac (Bb (DU (pvD 0) W.cl_j1 AQ AN (hr.mono (by decide)) AO .nil (Kj fun _ _ _ h=>h) (Aa Ek Ae)))
   (Af (Gm (pvD 0) (F3 (Aa Ek (Aa (Ar (ixTD AY) (AX (pvD 0) rfl) Ah) Ae))) rfl))),?_⟩
  walk_at "rd"
  refine⟨_,_,x.ob,by kernel_rfl,a,ad,s,wv,y,"show",rfl,⟨_,_,_,_,_,x⟩,hw,fun htag=>?_,kE⟩
  cases y with
  |ask c=>exact absurd htag (show ¬ ("ask" : Str) = "show" by decide +kernel)
  |done mm ws=>exact absurd htag (show ¬ ("done" : Str) = "show" by decide +kernel)
  |spent c=>exact absurd htag (show ¬ ("spent" : Str) = "show" by decide +kernel)
  |shown mm ws=>
   obtain⟨t,u,rfl,ht,hu⟩:=hw
   refine⟨_,_,_,x.ob,W.cl_j1,W.n_SayHunt_wish,_,OR ..,t,rfl,_,SqT.of ht,_,rfl,by lia,fun p hp=>?_⟩
   have x1:=x.same (Same.new hp (o:=.tup [.str "done",.ref u]))
   refine⟨_,_,_,x1.ob,W.cl_j1,W.n_SayHunt_wish,Rw ..,?_⟩
   rw[EO_]
   have x2:=x1.put (wv':=.ref p) (gv':=gv) (rv':=rv) (s':=s) rfl rfl rfl rfl rfl rfl x1.gv x1.rv
   have tk:=x1.tkob (.ins C_j1 ad.dx (afl (.ref p) s.L s.most ad.b ad.pw ad.pe ad.pg gv rv))
   exact k mm ws rfl _ _ ⟨_,_,_,_,_,x2⟩ ⟨p,u,rfl,tk _ _ Ab,HouT.mono hu (TK.trans (TK.new hp) tk)⟩ ((Frm.of (Same.new hp) a ad).seq (x1.putF _))
noncomputable def EX_ (K:α3)(CA CB OT BW BM ND CO:Addr):Sp:=fun vs H Q E=>∃(a t:Addr) (ad:AD) (s:AS) (wv:V) (x:Wish) (B:Nat) (w:α2) (m:Int),vs=[.ref a,.ref t,.int m]/\Asks K CA CB H a ad s wv/\CL K H s.L wv x/\WOk B s x/\Bd B s/\s.es.length<=100000/\H t=some (.tup (w.map V.int))/\w ≠ []/\w.length<=600/\(x.tag ≠ "show" -> E (.ref OT) none H)/\∀mm ws,x=.shown mm ws->(isW s.L w=false->∀H',Same H H'->E (.ref BW) none H')/\(isW s.L w=true->¬ (0<=m/\m<=1000000000)->∀H',Same H H'->E (.ref BM) none H')/\(isW s.L w=true->0<=m->m<=1000000000->(lsay mm ws w=m->∀H',Same H H'->E (.ref ND) none H')/\(lsay mm ws w≠m->w∈s.es.map (·.1)->∀H',Same H H'->E (.ref CO) none H')/\(lsay mm ws w≠m->w∉s.es.map (·.1)->w.length<=B+(s.most+1)*s.E.length/\KE_ K CA CB H a ad {s with es:=s.es++[(w,m)]} Q))
theorem LO   (F:Fun K "keep_objection" "Hunt.keep_objection" Bz f fd)(T:Txt mg)
  (W:Own K mg C_j7 C_j9 C_ji C_ja C_j1 C_j4)
  (Z:Exs K mg C_j8 C_j5 C_j6 C_j3 C_j2 C_j0)
   (Dp:FnOk P w K mg base CX0 6 Bp Eb ["self","house","word"] (OU K)) (Dq:Fun K "answer" "SayHunt.answer" B8 Bp Eb) (Dr:Binds K Eb ["self","house","word"] []) (Ds:Meth K C_j1 "answer" Bp)
   (CN:FnOk P w K mg base CX0 11 Bw CZ ["self"] (YN K C_j1 C_j7)) (DG:Fun K "go_on" "Turns.go_on" CM Bw CZ) (CP:Binds K CZ ["self"] []) (CQ:Meth K C_j1 "go_on" Bw)
   (Gw:FnOk P w K mg base (CXe P w) 3 Cs GS ["self","word","mark"] (J1 C_j7 C_j5 C_j6)) (Gx:Fun K "check" "Book.check" Ep Cs GS) (Gy:Binds K GS ["self","word","mark"] []) (Gz:Meth K C_j7 "check" Cs)
   (IL:FnOk P w K mg base (CXe P w) 4 Ec Jh ["self","word","mark"] (MN C_j7 C_j5 C_j6 C_j0)) (IM:Fun K "put" "Book.put" Gp Ec Jh) (IP:Binds K Jh ["self","word","mark"] []) (IQ:Meth K C_j7 "put" Ec)
   (AN:FnOk P w K mg base (CXe P w) 1 Ap AR ["self","deed"] (MU K C_j1 C_j7 C_j3)) (Ba:Fun K "check_wants" "Turns.check_wants" A9 Ap AR) (AO:Binds K AR ["self","deed"] []) (AQ:Meth K C_j1 "check_wants" Ap)
  : FnOk P w K mg base (CXe P w) 12 f fd ["self","word","number"] (EX_ K C_j1 C_j7 C_j3 C_j5 C_j6 C_j2 C_j0):=by
 refine F.okE LL (fun vs H Q E h=>?_) (fun cdv A outer s H vs Q E hr h=>?_)
 ·obtain⟨a,t,ad,s,wv,x,B,wd,m,rfl,_⟩:=h;rfl
 ·obtain⟨a,t,ad,s,wv,y,B,wd,m,rfl,⟨gv,rv,zs,ys,us,x⟩,hw,ok,bd,hz,ht,hwn,hz2,kE,k⟩:=h
  have hl:=Aq
  refine⟨_,(Ac (Bb (DU (pvD 0) W.cl_j1 AQ AN (hr.mono (by decide)) AO .nil (Kj fun _ _ _ h=>h) (Aa Ek Ae)))
   (Ac (Bb (DU (AX (pvD 0) rfl) W.cl_j7 Gz Gw (hr.mono (by decide)) Gy .nil (Kj fun _ _ _ h=>h) (Aa (pvD 1) (Aa (pvD 2) Ae))))
   (Ac (B6 (ptT (AE (opE KQ) (DU (pvD 0) W.cl_j1 Ds Dp (hr.mono (by decide)) Dr .nil AM (Aa (Ar (ixTD AY) (AX (pvD 0) rfl) Ah) (Aa (pvD 1) Ae))) (pvD 2) (AZ _)))
   (Af (Oc Z.m_j2 Z.x_j2 rfl rfl (Aa Ek Ae)))
   AK)
   (Ac (Bb (DU (AX (pvD 0) rfl) W.cl_j7 IQ IL (hr.mono (by decide)) IP .nil (Kj fun _ _ _ h=>h) (Aa (pvD 1) (Aa (pvD 2) Ae))))
   (Af (Bb (AL (pvD 0) W.cl_j1 CQ CN (hr.mono (by decide)) CP .nil AM))))))),?_⟩
  walk_at "rd"
  refine⟨_,_,x.ob,by kernel_rfl,a,ad,s,wv,y,"show",rfl,⟨_,_,_,_,_,x⟩,hw,fun htag=>?_,kE⟩
  cases y with
  |ask c=>exact absurd htag (show ¬ ("ask" : Str) = "show" by decide +kernel)
  |done mm ws=>exact absurd htag (show ¬ ("done" : Str) = "show" by decide +kernel)
  |spent c=>exact absurd htag (show ¬ ("spent" : Str) = "show" by decide +kernel)
  |shown mm ws=>
   obtain⟨tw,u,rfl,htw,hu⟩:=hw
   obtain⟨kW,kM,kk⟩:=k mm ws rfl
   obtain⟨ok0,hG,hwr,hgs,g,hall⟩:=ok
   obtain⟨dxb,hb⟩:=x.bk.ob
   have wf:=ok0.tb.wf g
   refine⟨_,_,_,x.ob,W.cl_j1,W.n_SayHunt_book,_,K9 ..,ad.b,rfl,_,_,hb,HK _ _ (by decide +kernel) (by decide +kernel),ad.b,ad.d,t,s.L,m,wd,s.es,rfl,x.bk,ht,by lia,kW,kM,fun hc h0 h9 H1 s1=>?_⟩
   obtain⟨kN,kC,kG⟩:=kk hc h0 h9
   have x1:=x.same s1
   have ht1:=s1 _ _ ht
   refine⟨_,_,x1.ob,by kernel_rfl,_,_,_,x1.ob,W.cl_j1,W.n_SayHunt_wish,_,OR ..,tw,rfl,_,SqT.of (s1 _ _ htw),_,rfl,a,u,t,s.L,mm,ws,wd,rfl,HouT.house (HouT.mono hu (TK.of s1)),wf,SqT.of ht1,hz2,hc,hwn,fun H2 s2=>⟨rfl,?_⟩⟩
   by_cases he:lsay mm ws wd=m
   ·rw[if_pos (by rw[he])]
    exact⟨by lia,kN he _ (s1.trans s2)⟩
   ·rw[if_neg (fun z=>he (V.int.inj z))]
    have x2:=x1.same s2
    have s12:=s1.trans s2
    refine⟨_,_,_,x2.ob,W.cl_j1,W.n_SayHunt_book,_,K9 ..,ad.b,rfl,_,_,s12 _ _ hb,HK _ _ (by decide +kernel) (by decide +kernel),ad.b,ad.d,t,s.L,m,wd,s.es,rfl,x2.bk,s12 _ _ ht,by lia,hz,fun z=>(by rw[hc]at z;cases z),fun _ z=>absurd ⟨h0,h9⟩ z,fun _ _ _ n hin _ H3 s3=>kC he (jH_.mpr ⟨_,hin,rfl⟩) H3 (s12.trans s3),fun _ _ _ hsame H3 hb' hf=>?_⟩
    have hnk:wd∉s.es.map (·.1):=fun z=>by
     obtain⟨p,hp,rfl⟩:=jH_.mp z
     have h1:=hsame p.2 hp
     exact he ((hall p hp).trans h1)
    unfold putE at hb'
    rw[if_neg hnk]at hb'
    obtain⟨hlen,kT⟩:=kG he hnk
    obtain⟨x3,f3,tk3⟩:=x2.putB hb' hf
    have f3':=(Frm.of s12 a ad).seq f3
    exact⟨_,_,x3.ob,by kernel_rfl,a,ad,_,_,B,rfl,⟨_,_,_,_,_,x3⟩,ok0.told (fun b hb=>(by cases hb)) hnk ⟨hc,hwn⟩ h0 h9 s!"" (by rw[hG];simp),bd,fun ad' H4 s' y' wv' go x4 hw4 f4 k4=>kT ad' H4 s' y' wv' go x4 hw4 (f3'.trans (AdOk.refl H ad) f4) (AdOk.trans f3' (AdOk.refl H ad) k4)⟩
theorem YR   (F:Fun K "hear" "Asker.hear" Ff f fd)(T:Txt mg)
  (W:Own K mg C_j7 C_j9 C_ji C_ja C_j1 C_j4)
  (Z:Exs K mg C_j8 C_j5 C_j6 C_j3 C_j2 C_j0)
   (GY:FnOk P w K mg base (CXe P w) 12 BQ Ji ["self","number"] (YO K C_j1 C_j7 C_j3 C_j6)) (E5:Fun K "keep_answer" "Hunt.keep_answer" B3 BQ Ji) (GZ:Binds K Ji ["self","number"] []) (G0:Meth K C_j1 "keep_answer" BQ)
  : FnOk P w K mg base (CXe P w) 13 f fd ["self","mark"] (YO K C_j1 C_j7 C_j3 C_j6):=by
 refine F.okE Yu (fun vs H Q E h=>?_) (fun cdv A outer s H vs Q E hr h=>?_)
 ·obtain⟨a,ad,s,wv,x,B,m,rfl,_⟩:=h;rfl
 ·obtain⟨a,ad,s,wv,y,B,m,rfl,⟨gv,rv,zs,ys,us,x⟩,hw,ok,bd,hz,kE,k⟩:=h
  have hl:=Aq
  refine⟨_,(Af (Bb (DU (pvD 0) W.cl_j1 G0 GY (hr.mono (by decide)) GZ .nil (Kj fun _ _ _ h=>h) (Aa (pvD 1) Ae)))),?_⟩
  walk_at "rd"
  exact⟨_,_,x.ob,by kernel_rfl,a,ad,s,wv,y,B,m,rfl,⟨_,_,_,_,_,x⟩,hw,ok,bd,hz,kE,k⟩
theorem VE   (F:Fun K "differ" "Asker.differ" DZ f fd)(T:Txt mg)
  (W:Own K mg C_j7 C_j9 C_ji C_ja C_j1 C_j4)
  (Z:Exs K mg C_j8 C_j5 C_j6 C_j3 C_j2 C_j0)
   (Fw:FnOk P w K mg base (CXe P w) 12 Bo Hg ["self","word","number"] (EX_ K C_j1 C_j7 C_j3 C_j5 C_j6 C_j2 C_j0)) (DH:Fun K "keep_objection" "Hunt.keep_objection" Bz Bo Hg) (Fx:Binds K Hg ["self","word","number"] []) (Fy:Meth K C_j1 "keep_objection" Bo)
  : FnOk P w K mg base (CXe P w) 13 f fd ["self","word","mark"] (EX_ K C_j1 C_j7 C_j3 C_j5 C_j6 C_j2 C_j0):=by
 refine F.okE Ve (fun vs H Q E h=>?_) (fun cdv A outer s H vs Q E hr h=>?_)
 ·obtain⟨a,t,ad,s,wv,x,B,wd,m,rfl,_⟩:=h;rfl
 ·obtain⟨a,t,ad,s,wv,y,B,wd,m,rfl,⟨gv,rv,zs,ys,us,x⟩,hw,ok,bd,hz,ht,hwn,hz2,kE,k⟩:=h
  have hl:=Aq
  refine⟨_,(Af (Bb (DU (pvD 0) W.cl_j1 Fy Fw (hr.mono (by decide)) Fx .nil (Kj fun _ _ _ h=>h) (Aa (pvD 1) (Aa (pvD 2) Ae))))),?_⟩
  walk_at "rd"
  exact⟨_,_,x.ob,by kernel_rfl,a,t,ad,s,wv,y,B,wd,m,rfl,⟨_,_,_,_,_,x⟩,hw,ok,bd,hz,ht,hwn,hz2,kE,k⟩
noncomputable def EY_ (K:α3)(CA CB:Addr):Sp:=fun vs H Q _=>∃(a dx:Addr) (L most:Nat),vs=[.ref a,.int L,.int most]/\H a=some (.ins CA dx [])/\1<=L/\L<=6/\1<=most/\most<=12/\∀ad H' s x wv,Goes (s039 L most) s x->Asks K CA CB H' a ad s wv->CL K H' L wv x->(∀y o,H y=some o->y≠a->H' y=some o)->(∀y,H' y=none->H y=none)->(H ad.d=none/\H ad.pw=none/\H ad.pe=none/\H ad.pg=none)->Q .non H'
theorem YS   (F:Fun K "__init__" "Asker.__init__" Fc f fd)(T:Txt mg)
  (W:Own K mg C_j7 C_j9 C_ji C_ja C_j1 C_j4)
  (Z:Exs K mg C_j8 C_j5 C_j6 C_j3 C_j2 C_j0)
   (OX:FnOk P w K mg base CX0 1 Fz Tn ["self","letters"] (Tj C_j7)) (Le:Fun K "__init__" "Book.__init__" Gg Fz Tn) (OY:Binds K Tn ["self","letters"] []) (OZ:Mk K C_j7 Fz)
   (A6:FnOk P w K mg base CX0 3 As Bc ["self"] (UW K C_j1 C_j7)) (Bm:Fun K "look_for_gaps" "Asker.look_for_gaps" A4 As Bc) (A7:Binds K Bc ["self"] []) (A8:Meth K C_j1 "look_for_gaps" As)
   (CN:FnOk P w K mg base CX0 11 Bw CZ ["self"] (YN K C_j1 C_j7)) (DG:Fun K "go_on" "Turns.go_on" CM Bw CZ) (CP:Binds K CZ ["self"] []) (CQ:Meth K C_j1 "go_on" Bw)
   (O0:FnOk P w K mg base CX0 3 Gj To ["self","letters","most","book","ways","ends"] (ES_ C_j1)) (Lf:Fun K "__init__" "Hunt.__init__" Gh Gj To) (O1:Binds K To ["self","letters","most","book","ways","ends"] []) (O2:CMeth K C_ji "__init__" Gj)
   (F0:FnOk P w K mg base CX0 1 Bt Ia ["self","letters"] (EV_ K)) (D8:Fun K "first_ends" "SayHunt.first_ends" BJ Bt Ia) (F1:Binds K Ia ["self","letters"] []) (F2:Meth K C_j1 "first_ends" Bt)
  : FnOk P w K mg base CX0 12 f fd ["self","letters","most"] (EY_ K C_j1 C_j7):=by
 refine F.ok Yq (fun vs H Q E h=>?_) (fun cdv A outer s H vs Q E hr h=>?_)
 ·obtain⟨a,dx,L,most,rfl,_⟩:=h;rfl
 ·obtain⟨a,dx,L,most,rfl,ha,l1,l6,m1,m12,k⟩:=h
  have hl:=Aq
  refine⟨_,(Ac (Bb (MS_ rfl W.m_ji O2 O0 (hr.mono (by decide)) O1 .nil AM (Aa (pvD 0) (Aa (pvD 1) (Aa (pvD 2) (Aa (CX_ OZ OX (hr.mono (by decide)) rfl W.m_j7 OY .nil AM (Aa (pvD 1) Ae)) (Aa (JD (Aa (F3 Ae) Ae)) (Aa (DU (pvD 0) W.cl_j1 F2 F0 (hr.mono (by decide)) F1 .nil AM (Aa (pvD 1) Ae)) Ae))))))))
   (Ac (Bb (AL (pvD 0) W.cl_j1 A8 A6 (hr.mono (by decide)) A7 .nil AM))
   (Af (Bb (AL (pvD 0) W.cl_j1 CQ CN (hr.mono (by decide)) CP .nil AM))))),?_⟩
  walk_at "rd"
  intro b dxb hbN hdN hne
  have hab:a≠b:=fun z=>by rw[<-z,ha]at hbN;cases hbN
  refine⟨b,dxb,L,rfl,Ab,fun d H2 hd bk hf=>⟨rfl,by lia,fun p hp=>⟨by lia,fun pw hpw=>?_⟩⟩⟩
  have s2:Same H H2:=fun y o hy=>by
   have y1:y≠b:=fun z=>by rw[z,hbN]at hy;cases hy
   have y2:y≠dxb:=fun z=>by rw[z,hdN]at hy;cases hy
   exact hf y o (by rw[Ag y1,Ag y2];exact hy) y1
  have hdH:H d=none:=by
   cases h:H d with
   |none=>rfl
   |some o=>
    have y1:d≠b:=fun z=>by rw[z,hbN]at h;cases h
    have y2:d≠dxb:=fun z=>by rw[z,hdN]at h;cases h
    rw[Ag y1,Ag y2,h]at hd;cases hd
  have sp:=Same.new (o:=.tup []) hp
  have s3:=sp.trans (Same.new (o:=.lst [.ref p]) hpw)
  have hp3:=(Same.new (o:=.lst [.ref p]) hpw) _ _ (show upd H2 p (.tup []) p=some (.tup []) from Ab)
  have hw3:upd (upd H2 p (.tup [])) pw (.lst [.ref p]) pw=some (.lst [.ref p]):=Ab
  generalize upd (upd H2 p (.tup [])) pw (.lst [.ref p])=H3 at s3 hp3 hw3 ⊢
  have hpwH:H pw=none:=s2.none (sp.none hpw)
  refine⟨_,_,s3 _ _ (s2 _ _ ha),by kernel_rfl,a,L,rfl,l6,fun pe ts H4 s4 hpe hpe4 hts=>?_⟩
  refine⟨a,dx,b,pw,pe,L,most,rfl,s4 _ _ (s3 _ _ (s2 _ _ ha)),fun pg H5 hpg hob hpg5 hf5 hn5=>?_⟩
  have s34:=s3.trans s4
  have s04:=s2.trans s34
  have bk4:=bk.mono s34
  have ne:∀y,H y=none->y≠a:=fun y hy z=>by rw[z,ha]at hy;cases hy
  have hpeH:H pe=none:=s2.none (s3.none hpe)
  have hpgH:H pg=none:=s04.none hpg
  have hp4:=s4 _ _ hp3
  have hpH:H p=none:=s2.none hp
  have hts5:Am K H5 ts (fE57 L):=hts.mono fun y o hy=>hf5 _ _ hy fun z=>by
   have:=s04 _ _ ha
   rw[z,this]at hy;cases hy
  have x5:AskAt K C_j1 C_j7 H5 a ⟨dx,b,d,pw,pe,pg⟩ {s039 L most with G:=[]} .non .non .non [.ref p] ts []:=
   ⟨hob,BookAt.tk bk4 (fun o h=>hf5 _ _ h (qj_ hab)) (fun o h=>hf5 _ _ h (ne _ hdH)),hf5 _ _ (s4 _ _ hw3) (ne _ hpwH),Am.nil.snoc (w:=[]) (hf5 _ _ hp4 (ne _ hpH)),hf5 _ _ hpe4 (ne _ hpeH),hts5,hpg5,Am.nil,fun z=>(by rw[show pe=pw from z.symm,hw3]at hpe;cases hpe),fun z=>(by rw[show pg=pw from z.symm,s4 _ _ hw3]at hpg;cases hpg),fun z=>(by rw[show pg=pe from z.symm,hpe4]at hpg;cases hpg),rfl,rfl⟩
  have hmm:(most+1)*(most+L)<=13*18:=j8_ s!"" s!""
  have bd:Bd 1 (s039 L most):=by
   show 1+(most+1)*(most+L)+most<=500
   lia
  have ok:=HU_ 1 s!"" l1 l6 m1 m12
  have sz:=ok.sz bd
  refine⟨_,_,x5.ob,by kernel_rfl,a,_,_,.non,rfl,⟨_,_,_,_,_,x5⟩,⟨sz.l6,sz.w,sz.e,sz.b⟩,fun ad6 H6 x6 f6 k6=>?_⟩
  obtain⟨gv6,rv6,zs6,ys6,us6,x6⟩:=x6
  refine⟨_,_,x6.ob,by kernel_rfl,a,ad6,s039 L most,.non,1,rfl,⟨_,_,_,_,_,x6⟩,ok,bd,fun ad7 H7 s' y wv' go x7 hw7 f7 k7=>?_⟩
  have f57:=f6.trans k6 f7
  obtain⟨q1,q2,q3,q4,q5,q6⟩:=AdOk.trans f6 k6 k7
  have hn:∀y,H7 y=none->H y=none:=fun y hy=>s04.none (hn5 y (f57.2 y hy))
  refine k ad7 H7 s' y wv' go x7 hw7 (fun z o hz hza=>?_) hn ⟨by rw[q3];exact hdH,by rw[q4];exact hpwH,by rw[q5];exact hpeH,?_⟩
  ·exact f57.1 z o (hf5 _ _ (s04 _ _ hz) hza) hza (fun e=>by rw[e]at hz;rw[show H d=none from hdH]at hz;cases hz) (fun e=>by rw[e]at hz;rw[show H pw=none from hpwH]at hz;cases hz) (fun e=>by rw[e]at hz;rw[show H pe=none from hpeH]at hz;cases hz) (fun e=>by rw[e]at hz;rw[show H pg=none from hpgH]at hz;cases hz)
  ·rcases q6 with q6|q6
   ·rw[q6];exact hpgH
   ·exact s04.none (hn5 _ q6)
noncomputable def sfl (L:Int)(a:Addr):List (Str×V):=[("letters",.int L),("hunt",.ref a)]
theorem M3 (L:Int)(a:Addr):(sfl L a).lookup ("hunt" : Str)=some (.ref a):=by kernel_rfl
theorem AskAt.keep {K:α3}    {ad:AD}  {wv gv rv:V}  (x:AskAt K CA CB H a ad s wv gv rv zs ys us)(k:∀y o,H y=some o->(y=a\/y=ad.b\/y=ad.d\/y=ad.pw\/y=ad.pe\/y=ad.pg)->H' y=some o)(tk:TK H H'):AskAt K CA CB H' a ad s wv gv rv zs ys us:=
 ⟨k _ _ x.ob (.inl rfl),BookAt.tk x.bk (fun o h=>k _ _ h (.inr (.inl rfl))) (fun o h=>k _ _ h (.inr (.inr (.inl rfl)))),k _ _ x.w (.inr (.inr (.inr (.inl rfl)))),x.wW.mono tk,k _ _ x.e (.inr (.inr (.inr (.inr (.inl rfl))))),x.eW.mono tk,k _ _ x.g (.inr (.inr (.inr (.inr (.inr rfl))))),x.gW.mono tk,x.we,x.wg,x.eg,x.gv.mono tk,x.rv.mono tk⟩
noncomputable def SAt (K:α3)(CS CA CB:Addr)(H:Hp)(p a:Addr)(ad:AD)(s:AS)(wv:V):Prop:=(∃dx L,H p=some (.ins CS dx (sfl L a)))/\Asks K CA CB H a ad s wv
theorem SAt.same {K:α3}    {ad:AD}  {wv:V}(x:SAt K CS CA CB H p a ad s wv)(e:Same H H'):SAt K CS CA CB H' p a ad s wv:=by
 obtain⟨⟨dx,L,h⟩,gv,rv,zs,ys,us,x⟩:=x
 exact⟨⟨dx,L,e _ _ h⟩,_,_,_,_,_,x.same e⟩
theorem SAt.np {K:α3}    {ad:AD}  {wv:V}(x:SAt K CS CA CB H p a ad s wv):p≠a/\p≠ad.d/\p≠ad.pw/\p≠ad.pe/\p≠ad.pg:=by
 obtain⟨⟨dx,L,h⟩,gv,rv,zs,ys,us,x⟩:=x
 refine⟨fun z=>?_,fun z=>?_,fun z=>?_,fun z=>?_,fun z=>?_⟩
 ·rw[z,x.ob]at h
  injection h with h
  injection h with _ _ h
  have:=qU_ List.length h
  simp[afl,sfl]at this
 ·rw[z,x.bk.dc]at h;cases h
 ·rw[z,x.w]at h;cases h
 ·rw[z,x.e]at h;cases h
 ·rw[z,x.g]at h;cases h
theorem SAt.frm {K:α3}    {ad ad':AD}  {wv wv':V}(x:SAt K CS CA CB H p a ad s wv)(f:Frm H H' a ad)(y:Asks K CA CB H' a ad' s' wv'):SAt K CS CA CB H' p a ad' s' wv':=by
 obtain⟨n1,n2,n3,n4,n5⟩:=x.np
 obtain⟨⟨dx,L,h⟩,_⟩:=x
 exact⟨⟨dx,L,f.1 _ _ h n1 n2 n3 n4 n5⟩,y⟩
noncomputable def M4 (K:α3)(CS CA CB:Addr):Sp:=fun vs H Q _=>∃(p a:Addr) (ad:AD) (s:AS) (wv:V),vs=[.ref p]/\SAt K CS CA CB H p a ad s wv/\Q wv H
theorem RH   (F:Fun K "wants" "SayAsker.wants" BB f fd)(T:Txt mg)
  (W:Own K mg C_j7 C_j9 C_ji C_ja C_j1 C_j4)
  (Z:Exs K mg C_j8 C_j5 C_j6 C_j3 C_j2 C_j0)
   (Lg:FnOk P w K mg base CX0 1 DI OE ["self"] (ET_ K C_j1 C_j7)) (IG:Fun K "wants" "Turns.wants" EI DI OE) (Lh:Binds K OE ["self"] []) (Li:Meth K C_j1 "wants" DI)
  : FnOk P w K mg base CX0 2 f fd ["self"] (M4 K C_j4 C_j1 C_j7):=by
 refine F.ok Ri (fun vs H Q E h=>?_) (fun cdv A outer s H vs Q E hr h=>?_)
 ·obtain⟨p,a,ad,s,wv,rfl,_⟩:=h;rfl
 ·obtain⟨p,a,ad,s,wv,rfl,⟨⟨dx,L,hp⟩,gv,rv,zs,ys,us,x⟩,k⟩:=h
  refine⟨_,(Af (An (AL (AX (pvD 0) rfl) W.cl_j1 Li Lg (hr.mono (by decide)) Lh .nil AM))),?_⟩
  walk_at "rd"
  exact⟨_,_,_,hp,W.cl_j4,W.n_SayAsker_hunt,_,M3 ..,a,rfl,_,_,x.ob,by kernel_rfl,a,ad,s,wv,rfl,⟨_,_,_,_,_,x⟩,k⟩
noncomputable def Gb (K:α3)(CS CA CB:Addr)(f:AS->α1):Sp:=fun vs H Q _=>∃(p a:Addr) (ad:AD) (s:AS) (wv:V),vs=[.ref p]/\SAt K CS CA CB H p a ad s wv/\∀l ts H',Same H H'->H l=none->H' l=some (.lst ts)->Am K H' ts (f s)->Q (.ref l) H'
theorem P9   (F:Fun K "access" "SayAsker.access" Bh f fd)(T:Txt mg)
  (W:Own K mg C_j7 C_j9 C_ji C_ja C_j1 C_j4)
  (Z:Exs K mg C_j8 C_j5 C_j6 C_j3 C_j2 C_j0)
   (Lj:FnOk P w K mg base CX0 1 DJ OF ["self"] (P7 K C_j1 C_j7 AS.W)) (IH:Fun K "access" "Hunt.access" EH DJ OF) (Lk:Binds K OF ["self"] []) (Ll:Meth K C_j1 "access" DJ)
  : FnOk P w K mg base CX0 2 f fd ["self"] (Gb K C_j4 C_j1 C_j7 AS.W):=by
 refine F.ok PV (fun vs H Q E h=>?_) (fun cdv A outer s H vs Q E hr h=>?_)
 ·obtain⟨p,a,ad,s,wv,rfl,_⟩:=h;rfl
 ·obtain⟨p,a,ad,s,wv,rfl,⟨⟨dx,L,hp⟩,gv,rv,zs,ys,us,x⟩,k⟩:=h
  refine⟨_,(Af (An (AL (AX (pvD 0) rfl) W.cl_j1 Ll Lj (hr.mono (by decide)) Lk .nil AM))),?_⟩
  walk_at "rd"
  exact⟨_,_,_,hp,W.cl_j4,W.n_SayAsker_hunt,_,M3 ..,a,rfl,_,_,x.ob,by kernel_rfl,a,ad,s,wv,rfl,⟨_,_,_,_,_,x⟩,k⟩
theorem O3   (F:Fun K "tellers" "SayAsker.tellers" A5 f fd)(T:Txt mg)
  (W:Own K mg C_j7 C_j9 C_ji C_ja C_j1 C_j4)
  (Z:Exs K mg C_j8 C_j5 C_j6 C_j3 C_j2 C_j0)
   (J8:FnOk P w K mg base CX0 1 C0 M5 ["self"] (P7 K C_j1 C_j7 AS.E)) (HP:Fun K "tellers" "Hunt.tellers" DX C0 M5) (J9:Binds K M5 ["self"] []) (Ka:Meth K C_j1 "tellers" C0)
  : FnOk P w K mg base CX0 2 f fd ["self"] (Gb K C_j4 C_j1 C_j7 AS.E):=by
 refine F.ok OM (fun vs H Q E h=>?_) (fun cdv A outer s H vs Q E hr h=>?_)
 ·obtain⟨p,a,ad,s,wv,rfl,_⟩:=h;rfl
 ·obtain⟨p,a,ad,s,wv,rfl,⟨⟨dx,L,hp⟩,gv,rv,zs,ys,us,x⟩,k⟩:=h
  refine⟨_,(Af (An (AL (AX (pvD 0) rfl) W.cl_j1 Ka J8 (hr.mono (by decide)) J9 .nil AM))),?_⟩
  walk_at "rd"
  exact⟨_,_,_,hp,W.cl_j4,W.n_SayAsker_hunt,_,M3 ..,a,rfl,_,_,x.ob,by kernel_rfl,a,ad,s,wv,rfl,⟨_,_,_,_,_,x⟩,k⟩
noncomputable def M6 (K:α3)(CS CA CB:Addr):Sp:=fun vs H Q _=>∃(p a:Addr) (ad:AD) (s:AS) (wv:V),vs=[.ref p]/\SAt K CS CA CB H p a ad s wv/\∀l rs H',Same H H'->H l=none->H' l=some (.lst rs)->Hs H' rs s.es->Q (.ref l) H'
theorem RI   (F:Fun K "heard" "SayAsker.heard" BA f fd)(T:Txt mg)
  (W:Own K mg C_j7 C_j9 C_ji C_ja C_j1 C_j4)
  (Z:Exs K mg C_j8 C_j5 C_j6 C_j3 C_j2 C_j0)
   (M7:FnOk P w K mg base CX0 2 Ex Qa ["self"] (XU K C_j1 C_j7)) (JK:Fun K "heard" "Hunt.heard" Fd Ex Qa) (M8:Binds K Qa ["self"] []) (M9:Meth K C_j1 "heard" Ex)
  : FnOk P w K mg base CX0 3 f fd ["self"] (M6 K C_j4 C_j1 C_j7):=by
 refine F.ok Rh (fun vs H Q E h=>?_) (fun cdv A outer s H vs Q E hr h=>?_)
 ·obtain⟨p,a,ad,s,wv,rfl,_⟩:=h;rfl
 ·obtain⟨p,a,ad,s,wv,rfl,⟨⟨dx,L,hp⟩,gv,rv,zs,ys,us,x⟩,k⟩:=h
  refine⟨_,(Af (An (AL (AX (pvD 0) rfl) W.cl_j1 M9 M7 (hr.mono (by decide)) M8 .nil AM))),?_⟩
  walk_at "rd"
  exact⟨_,_,_,hp,W.cl_j4,W.n_SayAsker_hunt,_,M3 ..,a,rfl,_,_,x.ob,by kernel_rfl,a,ad,s,wv,rfl,⟨_,_,_,_,_,x⟩,k⟩
noncomputable def Nf_ (K:α3)(CS CA CB:Addr)(H:Hp)(p a:Addr)(ad:AD)(s:AS)(Q:VK):Prop:=∀ad' H' s' x' wv',Goes s s' x'->SAt K CS CA CB H' p a ad' s' wv'->CL K H' s.L wv' x'->Frm H H' a ad->AdOk H ad ad'->Q .non H'
noncomputable def EZ_ (K:α3)(CS CA CB OT BM:Addr):Sp:=fun vs H Q E=>∃(p a:Addr) (ad:AD) (s:AS) (wv:V) (x:Wish) (B:Nat) (m:Int),vs=[.ref p,.int m]/\SAt K CS CA CB H p a ad s wv/\CL K H s.L wv x/\WOk B s x/\Bd B s/\s.es.length<=100000/\(x.tag ≠ "ask" -> E (.ref OT) none H)/\∀c,x=.ask c->(¬ (0<=m/\m<=1000000000)->∀H',Same H H'->E (.ref BM) none H')/\(0<=m->m<=1000000000->Nf_ K CS CA CB H p a ad {s with es:=s.es++[(c,m)]} Q)
theorem TL   (F:Fun K "hear" "SayAsker.hear" Dh f fd)(T:Txt mg)
  (W:Own K mg C_j7 C_j9 C_ji C_ja C_j1 C_j4)
  (Z:Exs K mg C_j8 C_j5 C_j6 C_j3 C_j2 C_j0)
   (Na:FnOk P w K mg base (CXe P w) 13 Ey Qb ["self","mark"] (YO K C_j1 C_j7 C_j3 C_j6)) (JL:Fun K "hear" "Asker.hear" Ff Ey Qb) (Nb:Binds K Qb ["self","mark"] []) (Nd:Meth K C_j1 "hear" Ey)
  : FnOk P w K mg base (CXe P w) 14 f fd ["self","mark"] (EZ_ K C_j4 C_j1 C_j7 C_j3 C_j6):=by
 refine F.okE TB (fun vs H Q E h=>?_) (fun cdv A outer s H vs Q E hr h=>?_)
 ·obtain⟨p,a,ad,s,wv,x,B,m,rfl,_⟩:=h;rfl
 ·obtain⟨p,a,ad,s,wv,y,B,m,rfl,S,hw,ok,bd,hz,kE,k⟩:=h
  obtain⟨⟨dx,L,hp⟩,gv,rv,zs,ys,us,x⟩:=id S
  have hl:=Aq
  refine⟨_,(Af (Bb (DU (AX (pvD 0) rfl) W.cl_j1 Nd Na (hr.mono (by decide)) Nb .nil (Kj fun _ _ _ h=>h) (Aa (pvD 1) Ae)))),?_⟩
  walk_at "rd"
  exact⟨_,_,_,hp,W.cl_j4,W.n_SayAsker_hunt,_,M3 ..,a,rfl,_,_,x.ob,by kernel_rfl,a,ad,s,wv,y,B,m,rfl,⟨_,_,_,_,_,x⟩,hw,ok,bd,hz,kE,fun c hc=>⟨(k c hc).1,fun h0 h9 ad' H' s' x' wv' go x3 hw3 f3 k3=>(k c hc).2 h0 h9 ad' H' s' x' wv' go (S.frm f3 x3) hw3 f3 k3⟩⟩
noncomputable def Bx_ (K:α3)(CS CA CB OT:Addr):Sp:=fun vs H Q E=>∃(p a:Addr) (ad:AD) (s:AS) (wv:V) (x:Wish),vs=[.ref p]/\SAt K CS CA CB H p a ad s wv/\CL K H s.L wv x/\(x.tag ≠ "show" -> E (.ref OT) none H)/\∀mm ws,x=.shown mm ws->∀H' wv',SAt K CS CA CB H' p a ad s wv'->CL K H' s.L wv' (.done mm ws)->Frm H H' a ad->Q .non H'
theorem RJ   (F:Fun K "agree" "SayAsker.agree" CJ f fd)(T:Txt mg)
  (W:Own K mg C_j7 C_j9 C_ji C_ja C_j1 C_j4)
  (Z:Exs K mg C_j8 C_j5 C_j6 C_j3 C_j2 C_j0)
   (Nf:FnOk P w K mg base (CXe P w) 2 Ez Qc ["self"] (EW_ K C_j1 C_j7 C_j3)) (JN:Fun K "agree" "Hunt.agree" Fh Ez Qc) (Ng:Binds K Qc ["self"] []) (Nh:Meth K C_j1 "agree" Ez)
  : FnOk P w K mg base (CXe P w) 3 f fd ["self"] (Bx_ K C_j4 C_j1 C_j7 C_j3):=by
 refine F.okE Rl (fun vs H Q E h=>?_) (fun cdv A outer s H vs Q E hr h=>?_)
 ·obtain⟨p,a,ad,s,wv,x,rfl,_⟩:=h;rfl
 ·obtain⟨p,a,ad,s,wv,y,rfl,S,hw,kE,k⟩:=h
  obtain⟨⟨dx,L,hp⟩,gv,rv,zs,ys,us,x⟩:=id S
  have hl:=Aq
  refine⟨_,(Af (Bb (AL (AX (pvD 0) rfl) W.cl_j1 Nh Nf (hr.mono (by decide)) Ng .nil (Kj fun _ _ _ h=>h)))),?_⟩
  walk_at "rd"
  exact⟨_,_,_,hp,W.cl_j4,W.n_SayAsker_hunt,_,M3 ..,a,rfl,_,_,x.ob,by kernel_rfl,a,ad,s,wv,y,rfl,⟨_,_,_,_,_,x⟩,hw,kE,fun mm ws hy H' wv' x3 hw3 f3=>k mm ws hy H' wv' (S.frm f3 x3) hw3 f3⟩
noncomputable def Fa_ (K:α3)(CS CA CB OT BW BM ND CO:Addr):Sp:=fun vs H Q E=>∃(p a t:Addr) (ad:AD) (s:AS) (wv:V) (x:Wish) (B:Nat) (w:α2) (m:Int),vs=[.ref p,.ref t,.int m]/\SAt K CS CA CB H p a ad s wv/\CL K H s.L wv x/\WOk B s x/\Bd B s/\s.es.length<=100000/\H t=some (.tup (w.map V.int))/\w.length<=600/\(x.tag ≠ "show" -> E (.ref OT) none H)/\∀mm ws,x=.shown mm ws->(w=[]\/isW s.L w=false->∀H',Same H H'->E (.ref BW) none H')/\(w ≠ []->isW s.L w=true->¬ (0<=m/\m<=1000000000)->∀H',Same H H'->E (.ref BM) none H')/\(w ≠ []->isW s.L w=true->0<=m->m<=1000000000->(lsay mm ws w=m->∀H',Same H H'->E (.ref ND) none H')/\(lsay mm ws w≠m->w∈s.es.map (·.1)->∀H',Same H H'->E (.ref CO) none H')/\(lsay mm ws w≠m->w∉s.es.map (·.1)->w.length<=B+(s.most+1)*s.E.length/\Nf_ K CS CA CB H p a ad {s with es:=s.es++[(w,m)]} Q))
theorem Qd   (F:Fun K "differ" "SayAsker.differ" Cm f fd)(T:Txt mg)
  (W:Own K mg C_j7 C_j9 C_ji C_ja C_j1 C_j4)
  (Z:Exs K mg C_j8 C_j5 C_j6 C_j3 C_j2 C_j0)
   (C5:FnOk P w K mg base (CXe P w) 1 BE DD ["word"] (MG K C_j5)) (B0:Fun K "check_not_empty" "check_not_empty" BX BE DD) (C6:Binds K DD ["word"] []) (C7:mg "check_not_empty"=some (.ref BE))
   (AN:FnOk P w K mg base (CXe P w) 1 Ap AR ["self","deed"] (MU K C_j1 C_j7 C_j3)) (Ba:Fun K "check_wants" "Turns.check_wants" A9 Ap AR) (AO:Binds K AR ["self","deed"] []) (AQ:Meth K C_j1 "check_wants" Ap)
   (Kb:FnOk P w K mg base (CXe P w) 13 C1 Ni ["self","word","mark"] (EX_ K C_j1 C_j7 C_j3 C_j5 C_j6 C_j2 C_j0)) (HQ:Fun K "differ" "Asker.differ" DZ C1 Ni) (Kc:Binds K Ni ["self","word","mark"] []) (Kd:Meth K C_j1 "differ" C1)
  : FnOk P w K mg base (CXe P w) 14 f fd ["self","word","mark"] (Fa_ K C_j4 C_j1 C_j7 C_j3 C_j5 C_j6 C_j2 C_j0):=by
 refine F.okE PX (fun vs H Q E h=>?_) (fun cdv A outer s H vs Q E hr h=>?_)
 ·obtain⟨p,a,t,ad,s,wv,x,B,wd,m,rfl,_⟩:=h;rfl
 ·obtain⟨p,a,t,ad,s,wv,y,B,wd,m,rfl,S,hw,ok,bd,hz,ht,hz2,kE,k⟩:=h
  obtain⟨⟨dx,L,hp⟩,gv,rv,zs,ys,us,x⟩:=id S
  have hl:=Aq
  refine⟨_,(Ac (Bb (DU (AX (pvD 0) rfl) W.cl_j1 AQ AN (hr.mono (by decide)) AO .nil (Kj fun _ _ _ h=>h) (Aa Ek Ae)))
   (Ac (Bb (Ax C5 (hr.mono (by decide)) rfl C7 B0.kp C6 .nil (Kj fun _ _ _ h=>h) (Aa (pvD 1) Ae)))
   (Af (Bb (DU (AX (pvD 0) rfl) W.cl_j1 Kd Kb (hr.mono (by decide)) Kc .nil (Kj fun _ _ _ h=>h) (Aa (pvD 1) (Aa (pvD 2) Ae))))))),?_⟩
  walk_at "rd"
  refine⟨_,_,_,hp,W.cl_j4,W.n_SayAsker_hunt,_,M3 ..,a,rfl,_,_,x.ob,by kernel_rfl,a,ad,s,wv,y,"show",rfl,⟨_,_,_,_,_,x⟩,hw,fun htag=>?_,kE⟩
  cases y with
  |ask c=>exact absurd htag (show ¬ ("ask" : Str) = "show" by decide +kernel)
  |done mm ws=>exact absurd htag (show ¬ ("done" : Str) = "show" by decide +kernel)
  |spent c=>exact absurd htag (show ¬ ("spent" : Str) = "show" by decide +kernel)
  |shown mm ws=>
   obtain⟨kW,kM,kk⟩:=k mm ws rfl
   refine⟨t,wd,rfl,SqT.of ht,fun hne=>?_,fun z=>kW (.inl z) H (Same.refl _)⟩
   refine⟨_,_,_,hp,W.cl_j4,W.n_SayAsker_hunt,_,M3 ..,a,rfl,_,_,x.ob,by kernel_rfl,a,t,ad,s,wv,_,B,wd,m,rfl,⟨_,_,_,_,_,x⟩,hw,ok,bd,hz,ht,hne,hz2,kE,fun mm' ws' e=>?_⟩
   cases e
   refine⟨fun z=>kW (.inr z),kM hne,fun hc h0 h9=>?_⟩
   obtain⟨kN,kC,kG⟩:=kk hne hc h0 h9
   exact⟨kN,kC,fun h1 h2=>⟨(kG h1 h2).1,fun ad' H' s' x' wv' go x3 hw3 f3 k3=>(kG h1 h2).2 ad' H' s' x' wv' go (S.frm f3 x3) hw3 f3 k3⟩⟩
noncomputable def Fb_ (K:α3)(CS CA CB:Addr):Sp:=fun vs H Q _=>∃(p dx:Addr) (L most:Nat),vs=[.ref p,.int L,.int most]/\H p=some (.ins CS dx [])/\1<=L/\L<=6/\1<=most/\most<=12/\∀a ad H' s x wv,Goes (s039 L most) s x->SAt K CS CA CB H' p a ad s wv->CL K H' L wv x->(∀y o,H y=some o->y≠p->H' y=some o)->(∀y,H' y=none->H y=none)->(H a=none/\H ad.d=none/\H ad.pw=none/\H ad.pe=none/\H ad.pg=none)->Q .non H'
theorem TM   (F:Fun K "__init__" "SayAsker.__init__" Df f fd)(T:Txt mg)
  (W:Own K mg C_j7 C_j9 C_ji C_ja C_j1 C_j4)
  (Z:Exs K mg C_j8 C_j5 C_j6 C_j3 C_j2 C_j0)
   (Nj:FnOk P w K mg base CX0 12 EA Qe ["self","letters","most"] (EY_ K C_j1 C_j7)) (JO:Fun K "__init__" "Asker.__init__" Fc EA Qe) (Nk:Binds K Qe ["self","letters","most"] []) (Nl:Mk K C_j1 EA)
  : FnOk P w K mg base CX0 14 f fd ["self","letters","most"] (Fb_ K C_j4 C_j1 C_j7):=by
 refine F.ok Tz (fun vs H Q E h=>?_) (fun cdv A outer s H vs Q E hr h=>?_)
 ·obtain⟨p,dx,L,most,rfl,_⟩:=h;rfl
 ·obtain⟨p,dx,L,most,rfl,hp,l1,l6,m1,m12,k⟩:=h
  have hl:=Aq
  refine⟨_,(Ac (Gm (pvD 0) (pvD 1) rfl)
   (Af (Gm (pvD 0) (CX_ Nl Nj (hr.mono (by decide)) rfl W.m_j1 Nk .nil AM (Aa (pvD 1) (Aa (pvD 2) Ae))) rfl))),?_⟩
  walk_at "rd"
  refine⟨_,_,_,hp,W.cl_j4,W.n_SayAsker_letters,by decide,fun a dxa haN hdN hne=>?_⟩
  have hpa:p≠a:=fun z=>by rw[<-z,Ab]at haN;cases haN
  have hpd:p≠dxa:=fun z=>by rw[<-z,Ab]at hdN;cases hdN
  rw[Ag hpa.symm]at haN
  rw[Ag hpd.symm]at hdN
  refine⟨a,dxa,L,most,rfl,Ab,l1,l6,m1,m12,fun ad H' s x wv go xA hw hf hn hfr=>⟨rfl,?_⟩⟩
  have hp2:H' p=some (.ins C_j4 dx [("letters",.int L)]):=hf _ _ (by rw[Ag hpa,Ag hpd,Ab];rfl) hpa
  obtain⟨gv,rv,zs,ys,us,xA⟩:=xA
  refine⟨_,_,_,hp2,W.cl_j4,W.n_SayAsker_hunt,(by show 1<1000;decide),?_⟩
  have tk:TK H' (upd H' p (.ins C_j4 dx (putF ("hunt" : Str) (.ref a) [("letters",.int L)]))):=fun t ts h=>by rw[Ag (fun z=>by rw[z,hp2]at h;cases h)];exact h
  have nz:∀y,upd (upd (upd H p (HO.ins C_j4 dx (putF ("letters" : Str) (V.int L) []))) dxa (HO.own a)) a (HO.ins C_j1 dxa []) y=none->H y=none:=fun y hy=>by
   by_cases z1:y=a
   ·rw[z1,Ab]at hy;cases hy
   ·by_cases z2:y=dxa
    ·rw[z2,Ag (by rw[<-z2];exact z1),Ab]at hy;cases hy
    ·by_cases z3:y=p
     ·rw[z3,Ag hpa,Ag hpd,Ab]at hy;cases hy
     ·rw[Ag z1,Ag z2,Ag z3]at hy;exact hy
  refine k a ad _ s x wv go ⟨⟨dx,L,Ab⟩,_,_,_,_,_,xA.keep (fun y o hy hc=>?_) tk⟩ (hw.mono tk) (fun y o hy hyp=>?_) (fun y hy=>?_) ⟨haN,nz _ hfr.1,nz _ hfr.2.1,nz _ hfr.2.2.1,nz _ hfr.2.2.2⟩
  ·rw[Ag (fun z=>?_)]
   ·exact hy
   ·obtain⟨dxb,hb⟩:=xA.bk.ob
    rcases hc with hc|hc|hc|hc|hc|hc
    ·exact hpa (z.symm.trans hc)
    ·rw[<-hc,z,hp2]at hb;cases hb
    ·have:=xA.bk.dc
     rw[<-hc,z,hp2]at this;cases this
    ·have:=xA.w
     rw[<-hc,z,hp2]at this;cases this
    ·have:=xA.e
     rw[<-hc,z,hp2]at this;cases this
    ·have:=xA.g
     rw[<-hc,z,hp2]at this;cases this
  ·rw[Ag hyp]
   have y1:y≠a:=fun z=>by rw[z,haN]at hy;cases hy
   have y2:y≠dxa:=fun z=>by rw[z,hdN]at hy;cases hy
   exact hf _ _ (by rw[Ag y1,Ag y2,Ag hyp];exact hy) y1
  ·by_cases z:y=p
   ·rw[z,Ab]at hy;cases hy
   ·rw[Ag z]at hy
    exact nz y (hn y hy)
noncomputable def cell (ns:α2)(k:Nat):Int:=ns.getD k 0
noncomputable def VF (K:α3):Sp:=fun vs H Q _=>∃(a:Addr) (ns:α2) (k:Nat),vs=[.ref a,.int k]/\SqL K H a (ns.map V.int)/\Q (.int (cell ns k)) H
theorem By_   (F:Fun K "_law_cell" "_law_cell" DY f fd)(T:Txt mg)
  (W:Own K mg C_j7 C_j9 C_ji C_ja C_j1 C_j4)
  (Z:Exs K mg C_j8 C_j5 C_j6 C_j3 C_j2 C_j0)
  : FnOk P w K mg base CX0 1 f fd ["script","k"] (VF K):=by
 refine F.ok Bj_ (fun vs H Q E h=>?_) (fun cdv A outer s H vs Q E hr h=>?_)
 ·obtain⟨a,ns,k,rfl,_⟩:=h;rfl
 ·obtain⟨a,ns,k,rfl,hs,q⟩:=h
  refine⟨_,(Ac (B6 (ptT (AE (opD0 Gy_) (pvD 1) (AF (lenD Aj) (by rfl) T.len jv_ (Aa (pvD 0) Ae)) (AZ _)))
   (Af (An (Ar (ixLD Ci) (pvD 0) (pvD 1))))
   AK)
   (Af (An Ah))),?_⟩
  walk_at "rd"
  refine⟨_,.inl hs,?_⟩
  rw[jb_]
  refine ite2 (fun hk=>?_) (fun hk=>?_)
  ·have hk':k<ns.length:=by simpa using hk
   refine⟨_,hs,V.int (cell ns k),?_,q⟩
   refine Cq ?_
   rw[ji_]
   unfold cell
   rw[jq_]
   simp[hk']
  ·have hk':¬ k<ns.length:=by simpa using hk
   have:cell ns k=0:=by
    unfold cell
    rw[jq_,jV_ s!""];rfl
   rw[<-this]
   exact q
noncomputable def UX:Sp:=fun vs H Q _=>∃n:Int,vs=[.int n]/\Q (.bl true) H
theorem YT   (F:Fun K "_law_whole" "_law_whole" DB f fd)(T:Txt mg)
  (W:Own K mg C_j7 C_j9 C_ji C_ja C_j1 C_j4)
  (Z:Exs K mg C_j8 C_j5 C_j6 C_j3 C_j2 C_j0)
  : FnOk P w K mg base CX0 1 f fd ["found"] (UX):=by
 refine F.ok Yv (fun vs H Q E h=>?_) (fun cdv A outer s H vs Q E hr h=>?_)
 ·obtain⟨n,rfl,_⟩:=h;rfl
 ·obtain⟨n,rfl,q⟩:=h
  refine⟨_,(Af (An (Ep_ (AF El rfl T.isinstance jT_ (Aa (pvD 0) (Aa (Mj (v:=.ty "int") rfl T.int PyProof.Rows.boot_int rfl) Ae))) (XB (JA_ (AF El rfl T.isinstance jT_ (Aa (pvD 0) (Aa (Mj (v:=.ty "bool") rfl T.bool PyProof.Rows.boot_bool rfl) Ae)))))))),?_⟩
  walk_at "rd"
  refine⟨_,_,.int _,Tg,_,KZ,?_⟩
  rw[if_pos rfl]
  refine⟨_,_,.int _,Tg,_,AY_,?_⟩
  exact q
noncomputable def Lz_ (K:α3)(H:Hp)(zs:List V)(ws:α1):Prop:=zs.length=ws.length/\∀(i:Nat) (r:α2),ws[i]?=some r->∃c,zs[i]?=some (.ref c)/\SqT K H c (r.map V.int)
theorem Rows.T {K:α3}{H:Hp}{w:Addr}{ws:α1}(h:Rows K H w ws):∃zs,SqT K H w zs/\Lz_ K H zs ws:=by
 obtain⟨ts,a,b,c⟩:=h
 refine⟨_,a,by rw[jb_];exact b,fun i r hi=>?_⟩
 have hl:i<ts.length:=by rw[b];exact (jc_.mp hi).1
 exact⟨ts[i],by simp[hl],c i _ r (by simp[hl]) hi⟩
noncomputable def Ia_ (K:α3):Sp:=fun vs H Q _=>∃(a b:Addr) (us zs:List V) (ws:α1),vs=[.ref a,.ref b]/\SqT K H a us/\Lz_ K H us ws/\SqT K H b zs/\Lz_ K H zs ws/\ws.length<=900/\(∀r∈ws,r.length<=900)/\Q (.bl true) H
theorem TN   (F:Fun K "_law_rows_are" "_law_rows_are" Dj f fd)(T:Txt mg)
  (W:Own K mg C_j7 C_j9 C_ji C_ja C_j1 C_j4)
  (Z:Exs K mg C_j8 C_j5 C_j6 C_j3 C_j2 C_j0)
   (DK:FnOk P w K mg base CX0 1 Cd DL ["found"] (UX)) (Cu:Fun K "_law_whole" "_law_whole" DB Cd DL) (DM:Binds K DL ["found"] []) (DO:mg "_law_whole"=some (.ref Cd))
  : FnOk P w K mg base CX0 2 f fd ["found","due"] (Ia_ K):=by
 refine F.ok Il (fun vs H Q E h=>?_) (fun cdv A outer s H vs Q E hr h=>?_)
 ·obtain⟨a,b,us,zs,ws,rfl,_⟩:=h;rfl
 ·obtain⟨a,b,us,zs,ws,rfl,ha,hU,hb,hZ,hz1,hz2,k⟩:=h
  have hl:=Aq
  refine⟨_,(Ac (B6 (PW.pt (Jz (ET (ptB (ES (AF El rfl T.isinstance jT_ (Aa (pvD 0) (Aa (Mj (v:=.ty "tuple") rfl T.tuple jE_ rfl) Ae)))))) (GN (ptT (AE (opN Ra) (AF (lenD Aj) (by rfl) T.len jv_ (Aa (pvD 0) Ae)) (AF (lenD Aj) (by rfl) T.len jv_ (Aa (pvD 1) Ae)) (AZ _))))))
   (Af (An Ej))
   AK)
   (Ac (E6 jz_ rfl (EU rfl T.range (Aa (AF (lenD Aj) (by rfl) T.len jv_ (Aa (pvD 1) Ae)) Ae)) (Bl (i:=2) Il.nd rfl (Or.inl rfl))
   (Ac (B6 (PW.pt (Jz (ET (ptB (ES (AF El rfl T.isinstance jT_ (Aa (Ar (ixTD AY) (pvD 0) (pvD 2)) (Aa (Mj (v:=.ty "tuple") rfl T.tuple jE_ rfl) Ae)))))) (GN (ptT (AE (opN Ra) (AF (lenD Aj) (by rfl) T.len jv_ (Aa (Ar (ixTD AY) (pvD 0) (pvD 2)) Ae)) (AF (lenD Aj) (by rfl) T.len jv_ (Aa (Ar (ixTD AY) (pvD 1) (pvD 2)) Ae)) (AZ _))))))
   (Af (An Ej))
   AK)
   (Af (E6 jz_ rfl (EU rfl T.range (Aa (AF (lenD Aj) (by rfl) T.len jv_ (Aa (Ar (ixTD AY) (pvD 1) (pvD 2)) Ae)) Ae)) (Bl (i:=3) Il.nd rfl (Or.inl rfl))
   (Af (B6 (PW.pt (Jz (ET (ptB (ES (Ax DK (hr.mono (by decide)) rfl DO Cu.kp DM .nil AM (Aa (Ar (ixTD AY) (Ar (ixTD AY) (pvD 0) (pvD 2)) (pvD 3)) Ae))))) (GN (ptT (AE (opN Ra) (Ar (ixTD AY) (Ar (ixTD AY) (pvD 0) (pvD 2)) (pvD 3)) (Ar (ixTD AY) (Ar (ixTD AY) (pvD 1) (pvD 2)) (pvD 3)) (AZ _))))))
   (Af (An Ej))
   AK))))))
   (Af (An Ej)))),?_⟩
  walk_at "rd"
  refine⟨_,_,.tup ha,Tg,_,KZ,?_⟩
  rw[if_neg (by decide)]
  refine⟨_,.inr ha,_,.inr hb,?_⟩
  rw[hU.1,hZ.1,if_neg (by simp)]
  refine⟨_,.inr hb,by rw[hZ.1];lia,by rw[hZ.1];lia,?_⟩
  rw[jB_,hZ.1]
  obtain⟨Pv,hPv⟩:∃Pv:Nat->St->Hp->Prop,∀i σ' H',Pv i σ' H'↔(H'=H/\∃o1 o2,σ'=[some (.ref a),some (.ref b),o1,o2]):=⟨_,fun _ _ _=>qG_⟩
  refine forR Pv ((hPv _ _ _).mpr ⟨rfl,none,none,rfl⟩) (fun i σ' H' hi h'=>?_) (fun σ' H' h'=>?_)
  ·obtain⟨rfl,o1,o2,rfl⟩:=(hPv _ _ _).mp h'
   rw[q6_]
   have hri:ws[i]?=some ws[i]:=by simp[hi]
   obtain⟨c,hc1,hc2⟩:=hU.2 i _ hri
   obtain⟨d,hd1,hd2⟩:=hZ.2 i _ hri
   have hzi:=hz2 _ (jf_ hri)
   generalize ws[i]=r at hc2 hd2 hzi
   walk_at "rd"
   refine⟨_,ha,_,Cq hc1,_,_,.tup hc2,Tg,_,KZ,?_⟩
   rw[if_neg (by decide)]
   refine⟨_,ha,_,Cq hc1,c,rfl,_,.inr hc2,_,hb,_,Cq hd1,d,rfl,_,.inr hd2,?_⟩
   rw[if_neg (by simp)]
   refine⟨_,hb,_,Cq hd1,d,rfl,_,.inr hd2,by rw[jb_];lia,by rw[jb_];lia,?_⟩
   rw[jB_,jb_]
   obtain⟨Pw,hPw⟩:∃Pv:Nat->St->Hp->Prop,∀j σ2 H2,Pv j σ2 H2↔(H2=H'/\∃o2,σ2=[some (.ref a),some (.ref b),some (.int i),o2]):=⟨_,fun _ _ _=>qG_⟩
   refine forR Pw ((hPw _ _ _).mpr ⟨rfl,_,rfl⟩) (fun j σ2 H2 hj h2=>?_) (fun σ2 H2 h2=>?_)
   ·obtain⟨rfl,o2,rfl⟩:=(hPw _ _ _).mp h2
    rw[q6_]
    have hx:(r.map V.int)[j]?=some (V.int r[j]):=by simp[hj]
    walk_at "rd"
    refine⟨_,ha,_,Cq hc1,c,rfl,_,hc2,_,Cq hx,r[j],rfl,_,rfl,?_⟩
    rw[if_neg (by decide)]
    refine⟨_,ha,_,Cq hc1,c,rfl,_,hc2,_,Cq hx,_,hb,_,Cq hd1,d,rfl,_,hd2,_,Cq hx,rfl,?_⟩
    rw[if_neg (by simp)]
    exact (hPw _ _ _).mpr ⟨rfl,_,rfl⟩
   ·obtain⟨rfl,o2,rfl⟩:=(hPw _ _ _).mp h2
    exact (hPv _ _ _).mpr ⟨rfl,_,_,rfl⟩
  ·obtain⟨rfl,o1,o2,rfl⟩:=(hPv _ _ _).mp h'
   exact k
noncomputable def KF_ (K:α3):Sp:=fun vs H Q _=>∃(a b:Addr) (L:Int) (ss ws:α1),vs=[.ref a,.ref b]/\TF K H a L ss ws/\TF K H b L ss ws/\ss.length<=900/\ws.length<=900/\(∀r∈ss,r.length<=900)/\(∀r∈ws,r.length<=900)/\Q (.bl true) H
theorem TQ   (F:Fun K "_law_house_is" "_law_house_is" Dk f fd)(T:Txt mg)
  (W:Own K mg C_j7 C_j9 C_ji C_ja C_j1 C_j4)
  (Z:Exs K mg C_j8 C_j5 C_j6 C_j3 C_j2 C_j0)
   (DK:FnOk P w K mg base CX0 1 Cd DL ["found"] (UX)) (Cu:Fun K "_law_whole" "_law_whole" DB Cd DL) (DM:Binds K DL ["found"] []) (DO:mg "_law_whole"=some (.ref Cd))
   (G1:FnOk P w K mg base CX0 2 Ed Lu ["found","due"] (Ia_ K)) (Ee:Fun K "_law_rows_are" "_law_rows_are" Dj Ed Lu) (G2:Binds K Lu ["found","due"] []) (G3:mg "_law_rows_are"=some (.ref Ed))
  : FnOk P w K mg base CX0 3 f fd ["found","due"] (KF_ K):=by
 refine F.ok TC (fun vs H Q E h=>?_) (fun cdv A outer s H vs Q E hr h=>?_)
 ·obtain⟨a,b,L,ss,ws,rfl,_⟩:=h;rfl
 ·obtain⟨a,b,L,ss,ws,rfl,⟨m1,y1,h1,hm1,hy1⟩,⟨m2,y2,h2,hm2,hy2⟩,hz1,hz2,hz3,hz4,k⟩:=h
  obtain⟨us1,e1,t1⟩:=Rows.T hm1
  obtain⟨us2,e2,t2⟩:=Rows.T hm2
  obtain⟨vs1,e3,t3⟩:=Rows.T hy1
  obtain⟨vs2,e4,t4⟩:=Rows.T hy2
  refine⟨_,(Ac (B6 (PW.pt (Jz (ET (ptB (ES (AF El rfl T.isinstance jT_ (Aa (pvD 0) (Aa (Mj (v:=.ty "tuple") rfl T.tuple jE_ rfl) Ae)))))) (GN (ptT (AE (opN Ra) (AF (lenD Aj) (by rfl) T.len jv_ (Aa (pvD 0) Ae)) Ah (AZ _))))))
   (Af (An Ej))
   AK)
   (Ac (B6 (PW.pt (Jz (ET (ptB (ES (Ax DK (hr.mono (by decide)) rfl DO Cu.kp DM .nil AM (Aa (Ar (ixTD AY) (pvD 0) Ah) Ae))))) (GN (ptT (AE (opN Ra) (Ar (ixTD AY) (pvD 0) Ah) (Ar (ixTD AY) (pvD 1) Ah) (AZ _))))))
   (Af (An Ej))
   AK)
   (Af (An (Ep_ (Ax G1 (hr.mono (by decide)) rfl G3 Ee.kp G2 .nil AM (Aa (Ar (ixTD AY) (pvD 0) Ah) (Aa (Ar (ixTD AY) (pvD 1) Ah) Ae))) (XB (Ax G1 (hr.mono (by decide)) rfl G3 Ee.kp G2 .nil AM (Aa (Ar (ixTD AY) (pvD 0) Ah) (Aa (Ar (ixTD AY) (pvD 1) Ah) Ae))))))))),?_⟩
  walk_at "rd"
  refine⟨_,_,.tup h1,Tg,_,KZ,?_⟩
  rw[if_neg (by decide)]
  refine⟨_,.inr h1,?_⟩
  rw[if_neg (by simp)]
  refine⟨_,h1,_,rfl,L,rfl,_,rfl,?_⟩
  rw[if_neg (by decide)]
  refine⟨_,h1,_,rfl,_,h2,_,rfl,rfl,?_⟩
  rw[if_neg (by simp)]
  refine⟨_,h1,_,rfl,_,h2,_,rfl,m1,m2,us1,us2,ss,rfl,e1,t1,e2,t2,hz1,hz3,?_⟩
  refine⟨true,rfl,?_⟩
  rw[if_pos rfl]
  exact⟨_,h1,_,rfl,_,h2,_,rfl,y1,y2,vs1,vs2,ws,rfl,e3,t3,e4,t4,hz2,hz4,k⟩
noncomputable def O4 (K:α3):Sp:=fun vs H Q _=>∃(a:Addr) (L:Int) (ws:α2),vs=[.ref a,.int L]/\SqT K H a (ws.map V.int)/\isW L ws=true/\Q (.bl true) H
theorem VG   (F:Fun K "_law_is_word" "_law_is_word" CV f fd)(T:Txt mg)
  (W:Own K mg C_j7 C_j9 C_ji C_ja C_j1 C_j4)
  (Z:Exs K mg C_j8 C_j5 C_j6 C_j3 C_j2 C_j0)
   (DK:FnOk P w K mg base CX0 1 Cd DL ["found"] (UX)) (Cu:Fun K "_law_whole" "_law_whole" DB Cd DL) (DM:Binds K DL ["found"] []) (DO:mg "_law_whole"=some (.ref Cd))
  : FnOk P w K mg base CX0 2 f fd ["found","letters"] (O4 K):=by
 refine F.ok Mz (fun vs H Q E h=>?_) (fun cdv A outer s H vs Q E hr h=>?_)
 ·obtain⟨a,L,ws,rfl,_⟩:=h;rfl
 ·obtain⟨a,L,ws,rfl,ha,hw,k⟩:=h
  have hl:=Aq
  refine⟨_,(Ac (B6 (ET (ptB (ES (AF El rfl T.isinstance jT_ (Aa (pvD 0) (Aa (Mj (v:=.ty "tuple") rfl T.tuple jE_ rfl) Ae))))))
   (Af (An Ej))
   AK)
   (Ac (E6 jz_ rfl (Er_ (pvD 0)) (Bl (i:=2) Mz.nd rfl (Or.inl rfl))
   (Af (B6 (PW.pt (Jz (ET (ptB (ES (Ax DK (hr.mono (by decide)) rfl DO Cu.kp DM .nil AM (Aa (pvD 2) Ae))))) (Jz (ptT (AE (opD0 Gy_) (pvD 2) Ah (AZ _))) (GN (ptT (AE (opD0 Nn_) (pvD 2) (pvD 1) (AZ _)))))))
   (Af (An Ej))
   AK)))
   (Af (An Ej)))),?_⟩
  walk_at "rd"
  refine⟨_,_,.tup ha,Tg,_,KZ,?_⟩
  rw[if_neg (by decide)]
  refine⟨⟨_,ha⟩,?_⟩
  obtain⟨Pv,hPv⟩:∃Pv:Nat->St->Hp->Prop,∀m σ' H',Pv m σ' H'↔(H'=H/\∃o,σ'=[some (.ref a),some (.int L),o]):=⟨_,fun _ _ _=>qG_⟩
  refine forT (xs:=ws.map V.int) Pv ((hPv _ _ _).mpr ⟨rfl,none,rfl⟩) (fun i σ' H' _ h'=>by obtain⟨rfl,_⟩:=(hPv _ _ _).mp h';exact ha) (fun i x σ' H' hx h'=>?_) (fun σ' H' h'=>?_)
  ·obtain⟨rfl,o,rfl⟩:=(hPv _ _ _).mp h'
   obtain⟨g,hg,rfl⟩:=PQ hx
   have hb:=CG.mp hw g (jf_ hg)
   walk_at "rd"
   refine⟨g,rfl,_,rfl,?_⟩
   rw[if_neg (by decide),if_neg s!"",if_neg s!""]
   exact (hPv _ _ _).mpr ⟨rfl,_,rfl⟩
  ·obtain⟨rfl,o,rfl⟩:=(hPv _ _ _).mp h'
   walk_at "rd"
   exact k
theorem EqD.all43 {K:α3}     (hq:(SqL K H a xs/\SqL K H c ys)\/(SqT K H a xs/\SqT K H c ys))(hl:xs.length=ys.length)(h:∀(i:Nat) (x y:V),xs[i]?=some x->ys[i]?=some y->EqD K H n x y true):EqD K H (n+1) (.ref a) (.ref c) true:=
 .inr ⟨a,c,xs,ys,rfl,rfl,hq,fun _=>true,h,by simp[hl]⟩
theorem EqD.int43 {K:α3}  (n:Nat)(i:Int):EqD K H n (.int i) (.int i) true:=by
 cases n with
 |zero=>exact⟨rfl,rfl,by simp[eqV]⟩
 |succ n=>exact .inl ⟨rfl,rfl,by simp[eqV]⟩
theorem EqD.str43 {K:α3}  (n:Nat)(i:Str):EqD K H n (.str i) (.str i) true:=by
 cases n with
 |zero=>exact⟨rfl,rfl,by simp[eqV]⟩
 |succ n=>exact .inl ⟨rfl,rfl,by simp[eqV]⟩
theorem EqD.word43 {K:α3}{H:Hp}(n:Nat){a b:Addr}{w:α2}(h:SqT K H a (w.map V.int))(g:SqT K H b (w.map V.int)):EqD K H (n+1) (.ref a) (.ref b) true:=by
 have:=EqD.ints (K:=K) (H:=H) (a:=a) (c:=b) (xs:=w) (ys:=w) (.inr ⟨h,g⟩) n
 rw[jR_ rfl]at this
 exact this
theorem Ng_ {α:Type}{P:Nat->α->α->Prop}{a b c d:α}(h0:P 0 a c)(h1:P 1 b d):∀i x y,[a,b][i]?=some x->[c,d][i]?=some y->P i x y:=by
 intro i x y hx hy
 match i with
 |0=>simp at hx hy;subst hx hy;exact h0
 |1=>simp at hx hy;subst hx hy;exact h1
 |i+2=>simp at hx
theorem Ib_ {α:Type}{P:Nat->α->α->Prop}{a b e c d f:α}(h0:P 0 a c)(h1:P 1 b d)(h2:P 2 e f):∀i x y,[a,b,e][i]?=some x->[c,d,f][i]?=some y->P i x y:=by
 intro i x y hx hy
 match i with
 |0=>simp at hx hy;subst hx hy;exact h0
 |1=>simp at hx hy;subst hx hy;exact h1
 |2=>simp at hx hy;subst hx hy;exact h2
 |i+3=>simp at hx
theorem Am.eqT57 {K:α3}     (h3:SqT K H a zs)(h4:Am K H zs ws)(g3:SqT K H b zs')(g4:Am K H zs' ws)(n:Nat):EqD K H (n+2) (.ref a) (.ref b) true:=by
 refine EqD.all43 (.inr ⟨h3,g3⟩) (by rw[h4.1,g4.1]) fun i x y hx hy=>?_
 obtain⟨t,w,e1,rfl,e2⟩:=h4.at hx
 obtain⟨u,w',f1,rfl,f2⟩:=g4.at hy
 rw[e1]at f1
 cases f1
 exact EqD.word43 _ (SqT.of e2) (SqT.of f2)
theorem HouT.eq57 {K:α3}     (h:HouT K H a L m ws)(g:HouT K H b L m ws)(n:Nat):EqD K H (n+3) (.ref a) (.ref b) true:=by
 obtain⟨tm,tw,us,zs,h1,h2,h2',h3,h4⟩:=h
 obtain⟨tm',tw',us',zs',g1,g2,g2',g3,g4⟩:=g
 exact EqD.all43 (.inr ⟨SqT.of h1,SqT.of g1⟩) rfl (Ib_ (P:=fun _ x y=>EqD K H (n+2) x y true) (EqD.int43 _ _) (Am.eqT57 (SqT.of h2) h2' (SqT.of g2) g2' n) (Am.eqT57 (SqT.of h3) h4 (SqT.of g3) g4 n))
theorem CL.eq57 {K:α3}     (h:CL K H L v x)(g:CL K H L v' x)(n:Nat):EqD K H (n+4) v v' true:=by
 obtain⟨t,u,rfl,h1,h2⟩:=h
 obtain⟨t',u',rfl,g1,g2⟩:=g
 refine EqD.all43 (.inr ⟨SqT.of h1,SqT.of g1⟩) rfl (Ng_ (P:=fun _ x y=>EqD K H (n+3) x y true) (EqD.str43 _ _) ?_)
 cases x with
 |ask c=>exact EqD.word43 _ (SqT.of h2) (SqT.of g2)
 |spent c=>exact EqD.word43 _ (SqT.of h2) (SqT.of g2)
 |shown m ws=>exact HouT.eq57 h2 g2 n
 |done m ws=>exact HouT.eq57 h2 g2 n
theorem Hs.eq43 {K:α3}     (h:Hs H xs es)(g:Hs H ys es)(ha:H a=some (.lst xs))(hb:H b=some (.lst ys))(n:Nat):EqD K H (n+3) (.ref a) (.ref b) true:=by
 refine EqD.all43 (.inl ⟨SqL.of ha,SqL.of hb⟩) (by rw[h.1,g.1]) fun i x y hx hy=>?_
 have hi:i<es.length:=by rw[<-h.1];exact (jc_.mp hx).1
 obtain⟨t,wt,e1,e2,e3⟩:=h.2 i es[i] (by simp[hi])
 obtain⟨u,wu,f1,f2,f3⟩:=g.2 i es[i] (by simp[hi])
 rw[hx]at e1
 cases e1
 rw[hy]at f1
 cases f1
 exact EqD.all43 (.inr ⟨SqT.of e2,SqT.of f2⟩) rfl (Ng_ (P:=fun _ x y=>EqD K H (n+1) x y true) (EqD.word43 _ (SqT.of e3) (SqT.of f3)) (EqD.int43 _ _))
noncomputable def DE_ (K:α3):Sp:=fun vs H Q _=>∃(h a:Addr) (L:Int) (says ways:α1) (ws:α2),vs=[.ref h,.ref a]/\TF K H h L says ways/\WfS L says ways/\SqT K H a (ws.map V.int)/\ws.length<=600/\isW L ws=true/\∀p H',Same H H'->H' p=some (.lst ((sayW says ways ws).map V.int))->Q (.ref p) H'
theorem Bz_   (F:Fun K "_law_talk" "_law_talk" Fi f fd)(T:Txt mg)
  (W:Own K mg C_j7 C_j9 C_ji C_ja C_j1 C_j4)
  (Z:Exs K mg C_j8 C_j5 C_j6 C_j3 C_j2 C_j0)
  : FnOk P w K mg base CX0 1 f fd ["house","word"] (DE_ K):=by
 refine F.ok HU (fun vs H Q E h=>?_) (fun cdv A outer s H vs Q E hr h=>?_)
 ·obtain⟨h,a,L,says,ways,ws,rfl,_⟩:=h;rfl
 ·obtain⟨h,a,L,says,ways,ws,rfl,hh,wf,hw,hz,hv,k⟩:=h
  have hl:=Aq
  refine⟨_,(Ac (AW (i:=2) HU.nd Ah)
   (Ac (AW (i:=3) HU.nd (JD Ae))
   (Ac (E6 jz_ rfl (Er_ (pvD 1)) (Bl (i:=4) HU.nd rfl (Or.inl rfl))
   (Ac (Bb (U3 jI_ j2_ j3_ GO (pvD 3) (Aa (Ar (ixTD AY) (Ar (ixTD AY) (Ar (ixTD AY) (pvD 0) Ah) (pvD 2)) (pvD 4)) Ae)))
   (Af (AW (i:=2) HU.nd (Ar (ixTD AY) (Ar (ixTD AY) (Ar (ixTD AY) (pvD 0) Ah) (pvD 2)) (pvD 4))))))
   (Af (An (pvD 3)))))),?_⟩
  walk_at "rd"
  refine⟨by lia,fun p hp=>?_⟩
  have s0:=Same.new hp (o:=.lst [])
  obtain⟨Pv,hPv⟩:∃Pv:Nat->St->Hp->Prop,∀i σ2 H2,Pv i σ2 H2↔(Same H H2/\H2 p=some (.lst (((List.range i).map fun j=>LH says (FO ways (ws.take j)) (ws.getD j 0)).map V.int))/\∃o,σ2=[some (.ref h),some (.ref a),some (.int (FO ways (ws.take i))),some (.ref p),o]):=⟨_,fun _ _ _=>qG_⟩
  refine⟨⟨_,s0.seqT hw⟩,forT (xs:=ws.map V.int) Pv ((hPv _ _ _).mpr ⟨s0,by rw[Ab];rfl,none,rfl⟩) (fun i σ2 H2 _ h=>((hPv _ _ _).mp h).1.seqT hw) (fun i x σ2 H2 hx h=>?_) (fun σ2 H2 h=>?_)⟩
  ·obtain⟨s3,hp3,o,rfl⟩:=(hPv _ _ _).mp h
   obtain⟨n,hn,rfl⟩:=PQ hx
   have hi:=(jc_.mp hn).1
   have hx:=CG.mp hv n (jf_ hn)
   have hwk:=wf.walk hv i
   obtain⟨row,g,r1,r2,r3,r4,r5⟩:=wf.wf.step hwk.1 (by rw[qm_];exact hwk.2) hx.1 hx.2
   obtain⟨srow,s1,s2⟩:=wf.at hwk.1 hwk.2 hx.1 hx.2
   obtain⟨m,wv,h1,h2,h3⟩:=hh.mono s3
   obtain⟨xs,t,q1,q2,q3⟩:=h2.atZ hwk.1 s1
   walk_at "rd"
   refine⟨.inl ⟨rfl,_,SqL.of hp3⟩,_,h1,_,rfl,?_⟩
   walk_at "rd"
   refine⟨_,q1,_,q2,?_⟩
   walk_at "rd"
   refine⟨_,q3,_,U8 hx.1 s2,_,hp3,by simp;lia,?_⟩
   have s4:Same H (upd H2 p (.lst ((((List.range i).map fun j=>LH says (FO ways (ws.take j)) (ws.getD j 0)).map V.int)++[V.int (LH says (FO ways (ws.take i)) n)]))):=s3.over hp
   obtain⟨m,wv,h1,h2,h3⟩:=hh.mono s4
   obtain⟨xs,t,q1,q2,q3⟩:=h3.atZ hwk.1 r1
   refine⟨_,h1,_,rfl,?_⟩
   walk_at "rd"
   refine⟨_,q1,_,q2,?_⟩
   walk_at "rd"
   refine⟨_,q3,_,U8 hx.1 r2,(hPv _ _ _).mpr ⟨s4,?_,some (.int n),?_⟩⟩
   ·rw[Ab,qF_,jn_,jn_,qr_,qr_,show ws.getD i 0=n from by rw[jq_,hn];rfl]
   ·rw[<-r3,<-Oe hn]
  ·obtain⟨s3,hp3,o,rfl⟩:=(hPv _ _ _).mp h
   walk_at "rd"
   rw[jb_]at hp3
   exact k p H2 s3 hp3
theorem BA_ {α:Type}[DecidableEq α]{l k:List α}(h:l.Nodup)(hs:∀x∈l,x∈k):l.length<=k.length:=by
 induction l generalizing k with
 |nil=>exact qp_ _
 |cons a l ih=>
  obtain⟨h1,h2⟩:=qE_.mp h
  have h3:=ih (k:=k.erase a) h2 fun x hx=>(List.mem_erase_of_ne (fun z=>h1 (by rw[<-z];exact hx))).mpr (hs x (ju_ _ hx))
  have h4:=hs a jG_
  rw[List.length_erase_of_mem h4]at h3
  have:=List.length_pos_of_mem h4
  rw[jL_]
  lia
theorem LA_ {v:α2}{ks:α1}{n:Nat}(h:∀j,j<n->v++List.replicate j 0∈ks):n<=ks.length:=by
 have:=BA_ (l:=(List.range n).map fun j=>v++List.replicate j 0) (k:=ks) (by
  rw[qe_,zo_]
  refine (qe_.mp List.nodup_range).imp fun hab z=>hab ?_
  have:=qU_ List.length z
  simpa using this) (fun x hx=>by
  obtain⟨j,hj,rfl⟩:=jH_.mp hx
  exact h j (qt_.mp hj))
 rwa [jb_,j4_]at this
noncomputable def bigF (ns:α2)(k:Int):Int:=if k<ns.length then ns.getD k.toNat 0 else (cell ns (k%if (ns.length:Int) > 1 then (ns.length:Int) else 1).toNat%2147483647*48271+k*k*31+7*k)%2147483647
noncomputable def Fc_ (K:α3):Sp:=fun vs H Q _=>∃(a:Addr) (ns:α2) (k:Int),vs=[.ref a,.int k]/\SqL K H a (ns.map V.int)/\ns.length<=63/\0<=k/\k<=100000/\Q (.int (bigF ns k)) H
theorem DF_   (F:Fun K "_law_big" "_law_big" Hr f fd)(T:Txt mg)
  (W:Own K mg C_j7 C_j9 C_ji C_ja C_j1 C_j4)
  (Z:Exs K mg C_j8 C_j5 C_j6 C_j3 C_j2 C_j0)
   (BL:FnOk P w K mg base CX0 1 BV Cv ["script","k"] (VF K)) (Bv:Fun K "_law_cell" "_law_cell" DY BV Cv) (BN:Binds K Cv ["script","k"] []) (BO:mg "_law_cell"=some (.ref BV))
  : FnOk P w K mg base CX0 2 f fd ["script","k"] (Fc_ K):=by
 refine F.ok Vd (fun vs H Q E h=>?_) (fun cdv A outer s H vs Q E hr h=>?_)
 ·obtain⟨a,ns,k,rfl,_⟩:=h;rfl
 ·obtain⟨a,ns,k,rfl,hs,hz,k0,k1,q⟩:=h
  refine⟨_,(Ac (B6 (ptT (AE (opD0 Gy_) (pvD 1) (AF (lenD Aj) (by rfl) T.len jv_ (Aa (pvD 0) Ae)) (AZ _)))
   (Af (An (Ar (ixLD Ci) (pvD 0) (pvD 1))))
   AK)
   (Ac (AW (i:=2) Vd.nd (AF (AM_ rfl) rfl T.max PyProof.Rows.boot_max (Aa Ah (Aa (AF (lenD Aj) (by rfl) T.len jv_ (Aa (pvD 0) Ae)) Ae))))
   (Af (An (BS (opD IT) (BS (opD0 Hb) (BS (opD0 Hb) (BS (opD OA) (BS (opD IT) (Ax BL (hr.mono (by decide)) rfl BO Bv.kp BN .nil AM (Aa (pvD 0) (Aa (BS (opD IT) (pvD 1) (pvD 2)) Ae))) Ah) Ah) (BS (opD OA) (BS (opD OA) (pvD 1) (pvD 1)) Ah)) (BS (opD OA) Ah (pvD 1))) Ah))))),?_⟩
  walk_at "rd"
  refine⟨_,.inl hs,?_⟩
  rw[jb_]
  unfold bigF at q
  refine ite2 (fun hk=>?_) (fun hk=>?_)
  ·have hk2:k<(ns.length:Int):=by simpa using hk
   have hk':k.toNat<ns.length:=by lia
   rw[if_pos hk2]at q
   refine⟨_,hs,_,U8 k0 (v:=ns[k.toNat]) (by simp[hk']),?_⟩
   rw[jq_,jh_ hk']at q
   exact q
  ·have hk2:¬ k<(ns.length:Int):=by simpa using hk
   rw[if_neg hk2]at q
   have e0:((ns.map V.int).length:Int)=(ns.length:Int):=by rw[jb_]
   have hm:(0:Int)<if (ns.length:Int) > 1 then (ns.length:Int) else 1:=by split<;>lia
   have r0:=xR_ k (show (if (ns.length:Int) > 1 then (ns.length:Int) else 1)≠0 by lia)
   refine⟨_,.inl hs,?_⟩
   rw[jb_]
   exact⟨hm,a,ns,(k%if (ns.length:Int) > 1 then (ns.length:Int) else 1).toNat,by rw[Int.toNat_of_nonneg r0],hs,_,rfl,by decide,.inr ⟨by decide,by decide⟩,.inl ⟨by lia,by lia⟩,.inr ⟨by decide,by decide⟩,.inl ⟨by decide,by decide⟩,by decide,q⟩
noncomputable def DG_ (c:Int):Int:=if c%8=3 then 1000000000 else if c%4=0 then c / 4%1000000001 else c / 4%2
theorem Fd_ (c:Int):0<=DG_ c/\DG_ c<=1000000000:=by
 unfold DG_
 split
 ·lia
 ·split<;>lia
noncomputable def VH:Sp:=fun vs H Q _=>∃c:Int,vs=[.int c]/\Q (.int (DG_ c)) H
theorem BB_   (F:Fun K "_law_mark" "_law_mark" Fg f fd)(T:Txt mg)
  (W:Own K mg C_j7 C_j9 C_ji C_ja C_j1 C_j4)
  (Z:Exs K mg C_j8 C_j5 C_j6 C_j3 C_j2 C_j0)
  : FnOk P w K mg base CX0 1 f fd ["cell"] (VH):=by
 refine F.ok Bk_ (fun vs H Q E h=>?_) (fun cdv A outer s H vs Q E hr h=>?_)
 ·obtain⟨c,rfl,_⟩:=h;rfl
 ·obtain⟨c,rfl,k⟩:=h
  refine⟨_,(Ac (B6 (ptT (AE (opE KQ) (BS (opD IT) (pvD 0) Ah) Ah (AZ _)))
   (Af (An Ah))
   AK)
   (Ac (B6 (ptT (AE (opE KQ) (BS (opD IT) (pvD 0) Ah) Ah (AZ _)))
   (Af (An (BS (opD IT) (BS (opD OK) (pvD 0) Ah) Ah)))
   AK)
   (Af (An (BS (opD IT) (BS (opD OK) (pvD 0) Ah) Ah))))),?_⟩
  walk_at "rd"
  unfold DG_ at k
  refine⟨by decide,ite2 (fun e=>?_) (fun e=>⟨by decide,ite2 (fun e2=>⟨⟨by decide,by decide⟩,by decide,?_⟩) (fun e2=>⟨⟨by decide,by decide⟩,by decide,?_⟩)⟩)⟩
  ·rw[if_pos (by simpa using e)]at k;exact k
  ·rw[if_neg (by simpa using e),if_pos (by simpa using e2)]at k;exact k
  ·rw[if_neg (by simpa using e),if_neg (by simpa using e2)]at k;exact k
theorem Nm {l:α1}{i:Nat}(hi:i<l.length)(nd:l.Nodup):l[i]∉l.take i:=fun z=>by
 obtain⟨j,hj,ej⟩:=j6_ z
 rw[jx_]at hj
 rw[zn_]at ej
 have:=(x3_ (h₀:=(show j<l.length by lia)) (h₁:=hi) nd).mp ej
 lia
theorem GH (xs:List V)(m:Nat):cutV xs none (some (m:Int))=xs.take m:=by
 unfold cutV
 rw[HT.sIx_nat,HT.sIx_none,xZ_,zj_,List.take_eq_take_iff]
 lia
theorem Am.take17 {K:α3}    (h:Am K H xs ws)(n:Nat):Am K H (xs.take n) (ws.take n):=⟨by rw[jx_,jx_,h.1],fun i w hi=>by
 rw[ql_]at hi ⊢
 split at hi
 ·rename_i hk
  rw[if_pos hk];exact h.2 i w hi
 ·cases hi⟩
noncomputable def YU (K:α3):Sp:=fun vs H Q _=>∃(pw:Addr) (L:Nat) (xs:List V) (words:α1),vs=[.ref pw,.int L]/\SqL K H pw xs/\Am K H xs words/\words.Nodup/\(∀v∈words,isW L v=true)/\words.length<=100/\∀H',Same H H'->Q (.bl true) H'
theorem Qf   (F:Fun K "_law_words_good" "_law_words_good" BY f fd)(T:Txt mg)
  (W:Own K mg C_j7 C_j9 C_ji C_ja C_j1 C_j4)
  (Z:Exs K mg C_j8 C_j5 C_j6 C_j3 C_j2 C_j0)
   (D2:FnOk P w K mg base CX0 2 Co FA ["found","letters"] (O4 K)) (Cp:Fun K "_law_is_word" "_law_is_word" CV Co FA) (D3:Binds K FA ["found","letters"] []) (D4:mg "_law_is_word"=some (.ref Co))
  : FnOk P w K mg base CX0 3 f fd ["words","letters"] (YU K):=by
 refine F.ok JE (fun vs H Q E h=>?_) (fun cdv A outer s H vs Q E hr h=>?_)
 ·obtain⟨pw,L,xs,words,rfl,_⟩:=h;rfl
 ·obtain⟨pw,L,xs,words,rfl,hp,hW,nd,ok,hwl,k⟩:=h
  have hl:=Aq
  refine⟨_,(Ac (B6 (ET (ptB (ES (AF El rfl T.isinstance jT_ (Aa (pvD 0) (Aa (Mj (v:=.ty "list") rfl T.list j0_ rfl) Ae))))))
   (Af (An Ej))
   AK)
   (Ac (E6 jz_ rfl (EU rfl T.range (Aa (AF (lenD Aj) (by rfl) T.len jv_ (Aa (pvD 0) Ae)) Ae)) (Bl (i:=2) JE.nd rfl (Or.inl rfl))
   (Af (B6 (PW.pt (Jz (ET (ptB (ES (Ax D2 (hr.mono (by decide)) rfl D4 Cp.kp D3 .nil AM (Aa (Ar (ixLD Ci) (pvD 0) (pvD 2)) (Aa (pvD 1) Ae)))))) (GN (ptT (AE (Kj_ (hu9 hr)) (Ar (ixLD Ci) (pvD 0) (pvD 2)) (FK Mm (pvD 0) Hk (Hl (pvD 2))) rfl)))))
   (Af (An Ej))
   AK)))
   (Af (An Ej)))),?_⟩
  walk_at "rd"
  refine⟨_,_,.lst hp,Tg,_,KZ,?_⟩
  rw[if_neg (by decide)]
  refine⟨_,.inl hp,by lia,by rw[hW.1];lia,?_⟩
  rw[hW.1,jB_]
  obtain⟨Pv,hPv⟩:∃Pv:Nat->St->Hp->Prop,∀i σ' H',Pv i σ' H'↔(∃o:Option V,Same H H'/\σ'=[some (.ref pw),some (.int L),o]):=⟨_,fun _ _ _=>qG_⟩
  refine forR Pv ((hPv _ _ _).mpr ⟨none,Same.refl _,rfl⟩) (fun i σ' H' hi h'=>?_) (fun σ' H' h'=>?_)
  ·obtain⟨o,s',rfl⟩:=(hPv _ _ _).mp h'
   rw[q6_]
   have hwi:words[i]?=some words[i]:=by simp[hi]
   have hnot:=Nm hi nd
   generalize words[i]=w at hwi hnot
   obtain⟨t,hxi,ht⟩:=hW.2 i w hwi
   walk_at "rd"
   refine⟨_,s'.seq hp,_,Cq hxi,t,L,w,rfl,SqT.of (s' _ _ ht),ok w (jf_ hwi),_,rfl,?_⟩
   rw[if_neg (by decide)]
   refine⟨_,s'.seq hp,_,Cq hxi,_,s'.seq hp,fun p3 hp3=>?_⟩
   rw[GH]
   have s3:=s'.newT hp3 (o:=.lst (xs.take i))
   have hW3:=(Am.take17 hW i).mono (TK.of s3)
   refine⟨t,rfl,_,SqL.of Ab,w,words.take i,hW3,SqT.of (s3 _ _ ht),?_⟩
   rw[if_neg hnot]
   exact (hPv _ _ _).mpr ⟨_,s3,rfl⟩
  ·obtain⟨o,s',rfl⟩:=(hPv _ _ _).mp h'
   walk_at "rd"
   exact k _ s'
theorem XW (u:α2)(x:Int):cutV ((u++[x]).map V.int) none (some (-1))=u.map V.int:=by
 rw[EC_]
 unfold cutI
 rw[HT.sIx_none]
 have e:HT.sIx (u++[x]).length (u++[x]).length (some (-1))=u.length:=by
  show (if (-1:Int)<0 then ((-1:Int)+((u++[x]).length:Int)).toNat else min ((-1:Int)).toNat (u++[x]).length)=_
  rw[if_pos (by decide),jj_,jp_]
  lia
 rw[e,xZ_,zj_,List.take_left]
noncomputable def YV (K:α3):Sp:=fun vs H Q _=>∃(pw:Addr) (L:Nat) (xs:List V) (words:α1),vs=[.ref pw,.int L]/\SqL K H pw xs/\Am K H xs words/\words.Nodup/\(∀v∈words,isW L v=true)/\words.length<=100/\words[0]?=some []/\(∀(k:Nat) (v:α2),words[k]?=some v->0<k->∃(j:Nat) (u:α2) (x:Nat),j<k/\words[j]?=some u/\x<L/\v=u++[(x:Int)])/\∀H',Same H H'->Q (.bl true) H'
theorem O5   (F:Fun K "_law_access_good" "_law_access_good" BP f fd)(T:Txt mg)
  (W:Own K mg C_j7 C_j9 C_ji C_ja C_j1 C_j4)
  (Z:Exs K mg C_j8 C_j5 C_j6 C_j3 C_j2 C_j0)
   (C8:FnOk P w K mg base CX0 3 BF DQ ["words","letters"] (YU K)) (B1:Fun K "_law_words_good" "_law_words_good" BY BF DQ) (C9:Binds K DQ ["words","letters"] []) (Dc:mg "_law_words_good"=some (.ref BF))
  : FnOk P w K mg base CX0 4 f fd ["access","letters"] (YV K):=by
 refine F.ok Jb (fun vs H Q E h=>?_) (fun cdv A outer s H vs Q E hr h=>?_)
 ·obtain⟨pw,L,xs,words,rfl,_⟩:=h;rfl
 ·obtain⟨pw,L,xs,words,rfl,hp,hW,nd,ok,hwl,w0,ac,k⟩:=h
  have hl:=Aq
  refine⟨_,(Ac (B6 (PW.pt (Jz (ET (ptB (ES (Ax C8 (hr.mono (by decide)) rfl Dc B1.kp C9 .nil AM (Aa (pvD 0) (Aa (pvD 1) Ae)))))) (Jz (ptT (AE (opE KQ) (AF (lenD Aj) (by rfl) T.len jv_ (Aa (pvD 0) Ae)) Ah (AZ _))) (GN (ptT (AE (Bb_ 8 (hu9 hr)) (Ar (ixLD Ci) (pvD 0) Ah) (F3 Ae) (AZ _)))))))
   (Af (An Ej))
   AK)
   (Ac (E6 jz_ rfl (Gs_ rfl T.range (Aa Ah (Aa (AF (lenD Aj) (by rfl) T.len jv_ (Aa (pvD 0) Ae)) Ae))) (Bl (i:=2) Jb.nd rfl (Or.inl rfl))
   (Af (B6 (ptT (AE (Va (hu9 hr)) (FK DD_ (Ar (ixLD Ci) (pvD 0) (pvD 2)) Hk (Hl (Fm_ XC Ah))) (FK Mm (pvD 0) Hk (Hl (pvD 2))) rfl))
   (Af (An Ej))
   AK)))
   (Af (An Ej)))),?_⟩
  walk_at "rd"
  refine⟨pw,L,xs,words,rfl,hp,hW,nd,ok,hwl,fun H1 s1=>⟨_,rfl,?_⟩⟩
  rw[if_neg (by decide)]
  obtain⟨t0,hx0,ht0⟩:=hW.2 0 _ w0
  have hl0:=(jc_.mp w0).1
  refine⟨_,.inl (s1.seq hp),?_⟩
  rw[hW.1,if_neg s!""]
  refine⟨_,s1.seq hp,_,show atI xs ((0:Nat):Int)=_ from Cq hx0,by lia,fun p2 hp2=>⟨_,rfl,true,?_,?_⟩⟩
  ·exact EqD.word43 7 (w:=[]) (SqT.of ((s1.newT hp2) _ _ ht0)) (SqT.of Ab)
  rw[if_neg (by decide)]
  have s2:=s1.newT hp2 (o:=.tup [])
  generalize upd H1 p2 (.tup [])=H2 at s2 ⊢
  refine⟨_,.inl (s2.seq hp),by lia,by lia,by rw[hW.1];lia,by rw[hW.1];lia,?_⟩
  rw[hW.1]
  obtain⟨Pv,hPv⟩:∃Pv:Nat->St->Hp->Prop,∀i σ' H',Pv i σ' H'↔(∃o:Option V,Same H H'/\σ'=[some (.ref pw),some (.int L),o]):=⟨_,fun _ _ _=>qG_⟩
  refine forR Pv ((hPv _ _ _).mpr ⟨none,s2,rfl⟩) (fun i σ' H' hi h'=>?_) (fun σ' H' h'=>?_)
  ·obtain⟨o,s',rfl⟩:=(hPv _ _ _).mp h'
   have hi1:i+1<words.length:=by lia
   have hwi:words[i+1]?=some words[i+1]:=by simp[hi1]
   obtain⟨j,u,x,hj,hu,hx,e⟩:=ac (i+1) _ hwi s!""
   rw[e]at hwi
   obtain⟨t,hxi,ht⟩:=hW.2 (i+1) _ hwi
   rw[show (1:Int)+(i:Int)=((i+1:Nat):Int) by lia]
   walk_at "rd"
   refine⟨_,s'.seq hp,_,Cq hxi,t,_,rfl,s' _ _ ht,fun p4 H5 s5 hp5=>?_⟩
   rw[XW]at hp5
   have s6:=s'.trans s5
   refine⟨_,s6.seq hp,fun p6 hp6=>?_⟩
   rw[GH]
   have s7:=s6.newT hp6 (o:=.lst (xs.take (i+1)))
   refine⟨p4,rfl,_,SqL.of Ab,u,words.take (i+1),(Am.take17 hW (i+1)).mono (TK.of s7),SqT.of ((Same.new hp6) _ _ hp5),?_⟩
   have hin:u∈words.take (i+1):=jf_ (i:=j) (by rw[ql_,if_pos hj];exact hu)
   rw[jR_ hin,if_neg (by decide)]
   exact (hPv _ _ _).mpr ⟨_,s7,rfl⟩
  ·obtain⟨o,s',rfl⟩:=(hPv _ _ _).mp h'
   walk_at "rd"
   exact k _ s'
theorem Am.eqL59 {K:α3}     (h3:SqL K H a zs)(h4:Am K H zs ws)(g3:SqL K H b zs')(g4:Am K H zs' ws)(n:Nat):EqD K H (n+2) (.ref a) (.ref b) true:=by
 refine EqD.all43 (.inl ⟨h3,g3⟩) (h4.1.trans g4.1.symm) fun i x y hx hy=>?_
 have hi:=(jc_.mp hx).1
 rw[h4.1]at hi
 obtain⟨t,a1,a2⟩:=h4.2 i ws[i] (by simp[hi])
 obtain⟨t',b1,b2⟩:=g4.2 i ws[i] (by simp[hi])
 rw[a1]at hx
 rw[b1]at hy
 cases hx
 cases hy
 exact EqD.word43 n (SqT.of a2) (SqT.of b2)
noncomputable def YW (K:α3):Sp:=fun vs H Q _=>∃(pw:Addr) (L:Nat) (xs:List V) (words:α1),vs=[.ref pw,.int L]/\SqL K H pw xs/\Am K H xs words/\words.Nodup/\(∀v∈words,isW L v=true/\v ≠ [])/\words.length<=100/\L<=6/\words.take L=fE57 L/\∀H',Same H H'->Q (.bl true) H'
theorem RK   (F:Fun K "_law_ends_good" "_law_ends_good" B9 f fd)(T:Txt mg)
  (W:Own K mg C_j7 C_j9 C_ji C_ja C_j1 C_j4)
  (Z:Exs K mg C_j8 C_j5 C_j6 C_j3 C_j2 C_j0)
   (C8:FnOk P w K mg base CX0 3 BF DQ ["words","letters"] (YU K)) (B1:Fun K "_law_words_good" "_law_words_good" BY BF DQ) (C9:Binds K DQ ["words","letters"] []) (Dc:mg "_law_words_good"=some (.ref BF))
  : FnOk P w K mg base CX0 4 f fd ["ends","letters"] (YW K):=by
 refine F.ok Rk (fun vs H Q E h=>?_) (fun cdv A outer s H vs Q E hr h=>?_)
 ·obtain⟨pw,L,xs,words,rfl,_⟩:=h;rfl
 ·obtain⟨pw,L,xs,words,rfl,hp,hW,nd,ok,hwl,hL,e0,k⟩:=h
  have hl:=Aq
  refine⟨_,(Ac (B6 (PW.pt (Jz (ET (ptB (ES (Ax C8 (hr.mono (by decide)) rfl Dc B1.kp C9 .nil AM (Aa (pvD 0) (Aa (pvD 1) Ae)))))) (GN (ptT (AE (Kj_ (hu9 hr)) (F3 Ae) (pvD 0) rfl)))))
   (Af (An Ej))
   AK)
   (Af (An (JX (Ez_ 8 (hu9 hr)) (FK Mm (pvD 0) Hk (Hl (pvD 1))) (KW rfl (Ki rfl) (cp:=JF) True.intro (EU rfl T.range (Aa (pvD 1) Ae)) (fun _ _ _ _=>(Bl (i:=0) MA rfl (Or.inl rfl))) (fun _ _ _ _=>Ln) (fun _ _ _ _=>(F3 (Aa (pvD 0) Ae)))) (AZ _))))),?_⟩
  walk_at "rd"
  refine⟨pw,L,xs,words,rfl,hp,hW,nd,fun v hv=>(ok v hv).1,hwl,fun H1 s1=>⟨_,rfl,?_⟩⟩
  rw[if_neg (by decide)]
  refine⟨by lia,fun p2 hp2=>?_⟩
  have s2:=s1.newT hp2 (o:=.tup [])
  have hp2':upd H1 p2 (.tup []) p2=some (.tup []):=Ab
  generalize upd H1 p2 (.tup [])=H2 at s2 hp2' ⊢
  refine⟨_,s2.seq hp,[],words,hW.mono (TK.of s2),SqT.of hp2',?_⟩
  rw[if_neg (fun z=>(ok _ z).2 rfl)]
  refine⟨_,s2.seq hp,fun p3 hp3=>?_⟩
  rw[GH,jB_]
  have s3:=s2.newT hp3 (o:=.lst (xs.take L))
  have w3:=(Am.take17 hW L).mono (TK.of s3)
  rw[e0]at w3
  have hp3':upd H2 p3 (.lst (xs.take L)) p3=some (.lst (xs.take L)):=Ab
  generalize upd H2 p3 (.lst (xs.take L))=H3 at s3 w3 hp3' ⊢
  refine⟨by lia,by lia,?_⟩
  obtain⟨Pc,hPc⟩:∃Pc:Nat->List V->St->Hp->Prop,∀i us σ' H',Pc i us σ' H'↔(Same H3 H'/\Am K H' us (fE57 i)/\∃o,σ'=[o]):=⟨_,fun _ _ _ _=>qG_⟩
  refine II_ Pc ((hPc _ _ _ _).mpr ⟨Same.refl _,Am.nil,none,rfl⟩) s!"" (fun i us σ' H' hi h'=>?_) (fun i us σ' H' hi h'=>?_) (fun us σ' H4 h' D hD=>?_)
  ·obtain⟨_,hR,_⟩:=(hPc _ _ _ _).mp h'
   rw[hR.1];unfold fE57;rw[jb_,j4_];exact jl_ _
  ·obtain⟨s4,hR,o,rfl⟩:=(hPc _ _ _ _).mp h'
   rw[q6_]
   walk_at "rd"
   refine⟨by lia,fun t ht=>(hPc _ _ _ _).mpr ⟨s4.newT ht,?_,_,rfl⟩⟩
   have e:fE57 (i+1)=fE57 i++[[(i:Int)]]:=by unfold fE57;rw[qF_,jn_];rfl
   rw[e]
   exact (hR.mono (TK.new ht)).snoc Ab
  ·obtain⟨s4,hR,o,rfl⟩:=(hPc _ _ _ _).mp h'
   have s5:=s4.newT hD (o:=.lst us)
   exact⟨_,rfl,_,Am.eqL59 (SqL.of (s5 _ _ hp3')) (w3.mono (TK.of s5)) (SqL.of Ab) (hR.mono (TK.new hD)) 6,k _ (s3.trans s5)⟩
noncomputable def RL (K:α3):Sp:=fun vs H Q _=>∃(d t pe:Addr) (es:Bk) (v:α2) (ys:List V) (E:α1),vs=[.ref d,.ref t,.ref pe]/\H d=some (.dT (ents es))/\(es.map (·.1)).Nodup/\H t=some (.tup (v.map V.int))/\SqL K H pe ys/\Am K H ys E/\v.length<=600/\(∀e∈E,e.length<=600)/\E.length<=100/\(∀e∈E,∃m,mkO es (v++e)=some m)/\∀l H',Same H H'->H l=none->H' l=some (.lst ((gOf E es v).map V.int))->Q (.ref l) H'
theorem YX   (F:Fun K "_law_marks" "_law_marks" Es f fd)(T:Txt mg)
  (W:Own K mg C_j7 C_j9 C_ji C_ja C_j1 C_j4)
  (Z:Exs K mg C_j8 C_j5 C_j6 C_j3 C_j2 C_j0)
  : FnOk P w K mg base CX0 1 f fd ["told","word","ends"] (RL K):=by
 refine F.ok Yw (fun vs H Q E h=>?_) (fun cdv A outer s H vs Q E hr h=>?_)
 ·obtain⟨d,t,pe,es,v,ys,E,rfl,_⟩:=h;rfl
 ·obtain⟨d,t,pe,es,v,ys,E,rfl,hd,nd,ht,hpe,hE,hvl,hel,hen,hall,k⟩:=h
  have hl:=Aq
  refine⟨_,(Af (An (KW rfl (Ki rfl) (cp:=OB) ⟨⟨rfl,rfl⟩,⟨⟨rfl,rfl⟩,True.intro⟩⟩ (Ge (pvD 2)) (fun _ _ _ _=>(Bl (i:=0) Rm rfl (Or.inl rfl))) (fun _ _ _ _=>(Ml_ (Gn_ (GQ_ (IU hr) (BS (PR (K:=K) rfl) (pvD 2) (pvD 0)) (pvD 1))))) (fun _ _ _ _=>(Mo (IU hr) (pvD 1) (BS (PR (K:=K) rfl) (pvD 2) (pvD 0)) (fun _ _=>rfl)))))),?_⟩
  walk_at "rd"
  refine⟨⟨_,hpe⟩,Df_ (xs:=ys) (fun i us σ' H'=>Same H H'/\us=(gOf (E.take i) es v).map V.int/\∃o,σ'=[o,some (.ref d),some (.ref t)]) ⟨Same.refl _,rfl,none,rfl⟩ (by rw[hE.1];lia) (fun i us σ' H' hi h'=>⟨h'.1.seq hpe,by rw[h'.2.1,jb_];unfold gOf;rw[jb_,jx_];lia⟩) (fun i x us σ' H' hx h'=>?_) (fun us σ' H' h' D hD=>?_)⟩
  ·obtain⟨s1,rfl,o,rfl⟩:=h'
   obtain⟨te,e,hei,rfl,hte⟩:=hE.at hx
   have heE:=jf_ hei
   have hel':=hel e heE
   obtain⟨m,hm⟩:=hall e heE
   have et:E.take (i+1)=E.take i++[e]:=by rw[jD_,hei];rfl
   have hval:valV (ents es) (wkey (v++e))=some (.int m):=F6 nd (YF hm)
   walk_at "rd"
   refine Kk.ofS (s1 _ _ ht) (s1 _ _ hte) (by simp;lia) fun q H2 s2 hq=>?_
   have s12:=s1.trans s2
   rw[<-jn_,<-Cj]at hq
   refine⟨_,DGet.t (s12 _ _ hd) hq,?_⟩
   rw[hval,if_pos (show (some (V.int m)).isSome=true from rfl)]
   refine Kk.ofS (s12 _ _ ht) (s12 _ _ hte) (by simp;lia) fun q2 H3 s3 hq2=>?_
   have s13:=s12.trans s3
   rw[<-jn_,<-Cj]at hq2
   refine⟨_,by rw[<-hval];exact DGet.t (s13 _ _ hd) hq2,s13,?_,_,rfl⟩
   rw[et]
   unfold gOf
   rw[jn_,jn_,qr_,hm];rfl
  ·obtain⟨s1,rfl,o,rfl⟩:=h'
   rw[hE.1,jO_]
   exact k D _ (s1.newT hD) (s1.none hD) Ab
theorem Dz.mono59 {K:α3}    (h:Dz K H xs ws)(s:Same H H'):Dz K H' xs ws:=⟨h.1,fun i w hi=>by
 obtain⟨t,a,b⟩:=h.2 i w hi
 exact⟨t,a,s _ _ b⟩⟩
theorem Dz.snoc59 {K:α3}{H:Hp}{xs:List V}{ws:α1}{t:Addr}{w:α2}(h:Dz K H xs ws)(ht:H t=some (.lst (w.map V.int))):Dz K H (xs++[.ref t]) (ws++[w]):=⟨by simp[h.1],fun i u hi=>by
 by_cases hl:i<ws.length
 ·rw[jw_ hl]at hi
  obtain⟨q,a,b⟩:=h.2 i u hi
  exact⟨q,by rw[jw_ (by rw[h.1];exact hl)];exact a,b⟩
 ·have hlt:=(jc_.mp hi).1
  rw[jj_,jp_]at hlt
  rw[jJ_ s!"",show i-ws.length=0 by lia]at hi
  cases hi
  exact⟨t,by rw[jJ_ (by rw[h.1];lia),h.1,show i-ws.length=0 by lia];rfl,ht⟩⟩
theorem Dz.take59 {K:α3}    (h:Dz K H xs ws)(n:Nat):Dz K H (xs.take n) (ws.take n):=⟨by rw[jx_,jx_,h.1],fun i w hi=>by
 rw[ql_]at hi ⊢
 split at hi
 ·rename_i hk
  rw[if_pos hk];exact h.2 i w hi
 ·cases hi⟩
theorem Ic_ (E:α1)(es:Bk)(v:α2):(gOf E es v).length=E.length:=by unfold gOf;rw[jb_]
noncomputable def Fe_ (K:α3):Sp:=fun vs H Q _=>∃(pw pe d:Addr) (L most:Nat) (zs ys:List V) (W E:α1) (es:Bk),vs=[.int L,.ref pw,.ref pe,.ref d]/\H pw=some (.lst zs)/\Am K H zs W/\H pe=some (.lst ys)/\Am K H ys E/\H d=some (.dT (ents es))/\Tb L most W E es/\Full L W E es/\E4 L W E es=none/\(∀e∈E,e.length<=500)/\∀h H',Same H H'->HouT K H' h L (Cb L W E es) (EM L W E es)->Q (.ref h) H'
theorem RM   (F:Fun K "_law_due_guess" "_law_due_guess" CK f fd)(T:Txt mg)
  (W:Own K mg C_j7 C_j9 C_ji C_ja C_j1 C_j4)
  (Z:Exs K mg C_j8 C_j5 C_j6 C_j3 C_j2 C_j0)
   (FC:FnOk P w K mg base CX0 1 DR G4 ["told","word","ends"] (RL K)) (DS:Fun K "_law_marks" "_law_marks" Es DR G4) (FD:Binds K G4 ["told","word","ends"] []) (FE:mg "_law_marks"=some (.ref DR))
  : FnOk P w K mg base CX0 2 f fd ["letters","access","ends","told"] (Fe_ K):=by
 refine F.ok BZ (fun vs H Q E h=>?_) (fun cdv A outer s H vs Q E hr h=>?_)
 ·obtain⟨pw,pe,d,L,most,zs,ys,W,E,es,rfl,_⟩:=h;rfl
 ·obtain⟨pw,pe,d,L,most,zs,ys,W,E,es,rfl,hpw,hW,hpe,hE,hd,tb,full,hst,hel,k⟩:=h
  have hl:=Aq
  have hwn:=tb.wn
  have hm12:=tb.m12
  have hen:=tb.en
  have hl6:=tb.l6
  obtain⟨np,cl⟩:=tb.none full hst
  have nd:=tb.nodup full
  have hwl:∀v∈W,v.length<=12:=fun v hv=>by have:=(tb.wW v hv).2;lia
  have hrow:∀v∈B7 L W,∀e∈E,∃m,mkO es (v++e)=some m:=fun v hv e he=>full _ (B5.mpr ⟨v,hv,e,he,rfl⟩)
  refine⟨_,(Ac (Yb (i:=4) BZ.nd rfl rfl rfl (Ki rfl) (cp:=JG) ⟨⟨rfl,rfl⟩,⟨⟨rfl,rfl⟩,True.intro⟩⟩ (Ge (pvD 1)) (fun _ _ _ _=>(Bl (i:=0) MB rfl (Or.inl rfl))) (fun _ _ _ _=>Ln) (fun _ _ _ _=>(Ax FC (hr.mono (by decide)) rfl FE DS.kp FD .nil AM (Aa (pvD 1) (Aa (pvD 0) (Aa (pvD 2) Ae))))))
   (Ac (AW (i:=5) BZ.nd (JD Ae))
   (Ac (AW (i:=6) BZ.nd (JD Ae))
   (Ac (E6 jz_ rfl (EU rfl T.range (Aa (AF (lenD Aj) (by rfl) T.len jv_ (Aa (pvD 1) Ae)) Ae)) (Bl (i:=7) BZ.nd rfl (Or.inl rfl))
   (Ac (B6 (PW.pt (Jz (ptT (AE (opN Ra) (AF (lenD Aj) (by rfl) T.len jv_ (Aa (Ar (ixLD Ci) (pvD 4) (pvD 7)) Ae)) (AF (lenD Aj) (by rfl) T.len jv_ (Aa (pvD 2) Ae)) (AZ _))) (GN (ptT (AE (Kp_ (hu9 hr)) (Ar (ixLD Ci) (pvD 4) (pvD 7)) (FK Mm (pvD 4) Hk (Hl (pvD 7))) rfl)))))
   (Af (An Gk))
   AK)
   (Ac (Bb (U3 jI_ j2_ j3_ GO (pvD 5) (Aa (Cg DA rfl T.tuple jE_ (Aa (FK Mm (Ar (ixLD Ci) (pvD 4) (pvD 7)) Hk (Hl (pvD 0))) Ae)) Ae)))
   (Ac (AW (i:=8) BZ.nd (JD Ae))
   (Ac (E6 jz_ rfl (EU rfl T.range (Aa (pvD 0) Ae)) (Bl (i:=9) BZ.nd rfl (Or.inl rfl))
   (Ac (AW (i:=10) BZ.nd (Ax FC (hr.mono (by decide)) rfl FE DS.kp FD .nil AM (Aa (pvD 3) (Aa (BS Od (Ar (ixLD Ci) (pvD 1) (pvD 7)) (F3 (Aa (pvD 9) Ae))) (Aa (pvD 2) Ae)))))
   (Ac (B6 (ptT (AE (Hw_ (hu9 hr)) (pvD 10) (pvD 4) rfl))
   (Af (An Gk))
   AK)
   (Af (Bb (U3 jI_ j2_ j3_ GO (pvD 8) (Aa (U3 jI_ PySem.F.slot_list_index PySem.F.type_list_index (FB_ (hu9 hr)) (pvD 4) (Aa (pvD 10) Ae)) Ae)))))))
   (Af (Bb (U3 jI_ j2_ j3_ GO (pvD 6) (Aa (Cg DA rfl T.tuple jE_ (Aa (pvD 8) Ae)) Ae)))))))))
   (Af (An (F3 (Aa (pvD 0) (Aa (Cg DA rfl T.tuple jE_ (Aa (pvD 5) Ae)) (Aa (Cg DA rfl T.tuple jE_ (Aa (pvD 6) Ae)) Ae)))))))))),?_⟩
  walk_at "rd"
  refine⟨⟨_,SqL.of hpw⟩,Df_ (xs:=zs) (fun i us σ' H'=>Same H H'/\Dz K H' us ((W.take i).map (gOf E es))/\∃o,σ'=[o,some (.ref d),some (.ref pe)]) ⟨Same.refl _,⟨rfl,fun i w z=>by cases z⟩,none,rfl⟩ (by rw[hW.1];lia) (fun i us σ' H' hi h'=>⟨h'.1.seq (SqL.of hpw),by rw[h'.2.1.1,jb_,jx_];lia⟩) (fun i x us σ' H' hx h'=>?_) (fun us σ' H1 h' D hD=>?_)⟩
  ·obtain⟨s1,hR,o,rfl⟩:=h'
   obtain⟨t,v,hvi,rfl,ht⟩:=hW.at hx
   have hvW:=jf_ hvi
   walk_at "rd"
   refine⟨d,t,pe,es,v,ys,E,rfl,s1 _ _ hd,tb.nd,s1 _ _ ht,SqL.of (s1 _ _ hpe),hE.mono (TK.of s1),by have:=hwl v hvW;lia,fun e he=>by have:=hel e he;lia,by lia,hrow v (AV.mpr (.inl hvW)),fun l H2 s2 hl2 hl2'=>⟨s1.trans s2,?_,_,rfl⟩⟩
   rw[jD_,hvi,jn_]
   exact Dz.snoc59 (Dz.mono59 hR s2) hl2'
  obtain⟨s1,hR,o,rfl⟩:=h'
  rw[hW.1,jO_]at hR
  have s1':=s1.newT hD (o:=.lst us)
  have hR1:=Dz.mono59 hR (Same.new hD (o:=.lst us))
  have hDs:upd H1 D (.lst us) D=some (.lst us):=Ab
  generalize upd H1 D (.lst us)=H2 at s1' hR1 hDs ⊢
  refine⟨by lia,fun p hp=>⟨by lia,fun q hq=>?_⟩⟩
  have hpq:p≠q:=fun z=>by rw[z,Ab]at hq;cases hq
  have hq2:H2 q=none:=by rwa [Ag (qj_ hpq)]at hq
  have s2:=(Same.new hp (o:=.lst [])).newT hq (o:=.lst [])
  have hp2:upd (upd H2 p (.lst [])) q (.lst []) p=some (.lst []):=by rw[Ag hpq,Ab]
  have hq2':upd (upd H2 p (.lst [])) q (.lst []) q=some (.lst []):=Ab
  generalize upd (upd H2 p (.lst [])) q (.lst [])=H3 at s2 hp2 hq2' ⊢
  refine⟨_,.inl (SqL.of (s2 _ _ (s1' _ _ hpw))),by lia,by rw[hW.1];lia,?_⟩
  rw[hW.1,jB_]
  obtain⟨Pv,hPv⟩:∃Pv:Nat->St->Hp->Prop,∀i σ' H',Pv i σ' H'↔(∃(o1 o2 o3 o4:Option V) (us' vs':List V),Same H2 H'/\H' p=some (.lst us')/\Am K H' us' (Cb L (W.take i) E es)/\H' q=some (.lst vs')/\Am K H' vs' ((EM L W E es).take i)/\σ'=[some (.int L),some (.ref pw),some (.ref pe),some (.ref d),some (.ref D),some (.ref p),some (.ref q),o1,o2,o3,o4]):=⟨_,fun _ _ _=>qG_⟩
  refine forR Pv ((hPv _ _ _).mpr ⟨none,none,none,none,[],[],s2,hp2,Am.nil,hq2',Am.nil,rfl⟩) (fun i σ' H' hi h'=>?_) (fun σ' H' h'=>?_)
  ·obtain⟨o1,o2,o3,o4,us',vs',s3,hp3,hM,hq3,hY,rfl⟩:=(hPv _ _ _).mp h'
   rw[q6_]
   have hwi:W[i]?=some W[i]:=by simp[hi]
   have hri:(W.map (gOf E es))[i]?=some (gOf E es W[i]):=by rw[ji_,hwi];rfl
   obtain⟨ti,hti,hgi⟩:=hR1.2 i _ hri
   have hnot:=Nm (l:=W.map (gOf E es)) (i:=i) (by rw[jb_];exact hi) nd
   rw[x6_]at hnot
   walk_at "rd"
   refine⟨_,SqL.of (s3 _ _ hDs),_,Cq hti,ti,rfl,_,.inl (SqL.of (s3 _ _ hgi)),_,.inl (SqL.of (s3 _ _ (s1' _ _ hpe))),?_⟩
   rw[if_neg (by rw[jb_,Ic_,hE.1];simp)]
   refine⟨_,SqL.of (s3 _ _ hDs),_,Cq hti,_,SqL.of (s3 _ _ hDs),fun p1 hp1=>⟨ti,rfl,_,SqL.of Ab,gOf E es W[i],(W.map (gOf E es)).take i,?_,SqL.of ((Same.new hp1) _ _ (s3 _ _ hgi)),?_⟩⟩
   ·rw[GH]
    exact Dz.take59 (Dz.mono59 hR1 (s3.newT hp1)) i
   rw[if_neg hnot]
   have a4:=Same.new hp1 (o:=.lst (cutV us none (some (i:Int))))
   have s4:=s3.trans a4
   have hp4:=a4 _ _ hp3
   have hq4:=a4 _ _ hq3
   have hM4:=hM.mono (TK.of a4)
   have hY4:=hY.mono (TK.of a4)
   generalize upd H' p1 (.lst (cutV us none (some (i:Int))))=H4 at a4 s4 hp4 hq4 hM4 hY4 ⊢
   refine⟨.inl ⟨rfl,_,SqL.of hp4⟩,_,SqL.of (s4 _ _ hDs),_,Cq hti,ti,rfl,_,SqL.of (s4 _ _ hgi),fun p5 hp5=>⟨_,.inl ⟨SqL.of Ab,fun t5 ht5=>?_⟩⟩⟩
   rw[GH,<-List.map_take]at ht5 ⊢
   have a5:=(Same.new hp5 (o:=.lst (((gOf E es W[i]).take L).map V.int))).newT ht5 (o:=.tup (((gOf E es W[i]).take L).map V.int))
   have ht5':upd (upd H4 p5 (.lst (((gOf E es W[i]).take L).map V.int))) t5 (.tup (((gOf E es W[i]).take L).map V.int)) t5=some (.tup (((gOf E es W[i]).take L).map V.int)):=Ab
   have s5:=s4.trans a5
   have hp5':=a5 _ _ hp4
   have hq5:=a5 _ _ hq4
   have hM5:=hM4.mono (TK.of a5)
   have hY5:=hY4.mono (TK.of a5)
   generalize upd (upd H4 p5 (.lst (((gOf E es W[i]).take L).map V.int))) t5 (.tup (((gOf E es W[i]).take L).map V.int))=H5 at a5 s5 hp5' hq5 hM5 hY5 ht5' ⊢
   have hlu:us'.length=i:=by rw[hM.1];unfold Cb;rw[jb_,jx_];lia
   refine⟨_,hp5',by lia,by lia,fun r hr=>⟨by lia,by lia,?_⟩⟩
   rw[jB_]
   have hM6:Am K (upd H5 p (.lst (us'++[V.ref t5]))) (us'++[V.ref t5]) (Cb L (W.take (i+1)) E es):=by
    have e:Cb L (W.take (i+1)) E es=Cb L (W.take i) E es++[(gOf E es W[i]).take L]:=by
     unfold Cb
     rw[jD_,hwi,jn_];rfl
    rw[e]
    exact (hM5.snoc ht5').mono (TK.lst hp5')
   have s6:Same H2 (upd H5 p (.lst (us'++[V.ref t5]))):=s5.over hp
   have hp6:upd H5 p (.lst (us'++[V.ref t5])) p=some (.lst (us'++[V.ref t5])):=Ab
   have hq6:upd H5 p (.lst (us'++[V.ref t5])) q=some (.lst vs'):=by rw[Ag (qj_ hpq)];exact hq5
   have hY6:=hY5.mono (TK.lst hp5' (o:=.lst (us'++[V.ref t5])))
   generalize upd H5 p (.lst (us'++[V.ref t5]))=H6 at hr hM6 s6 hp6 hq6 hY6 ⊢
   have a7:=Same.new hr (o:=.lst [])
   have hr7:upd H6 r (.lst []) r=some (.lst []):=Ab
   obtain⟨Pw,hPw⟩:∃Pw:Nat->St->Hp->Prop,∀j σ2 H',Pw j σ2 H'↔(∃(o3 o4:Option V),Same H6 H'/\H' r=some (.lst (((List.range j).map fun x:Nat=>(((W.map (gOf E es)).idxOf (gOf E es (W[i]++[(x:Int)])):Nat):Int)).map V.int))/\σ2=[some (.int L),some (.ref pw),some (.ref pe),some (.ref d),some (.ref D),some (.ref p),some (.ref q),some (.int i),some (.ref r),o3,o4]):=⟨_,fun _ _ _=>qG_⟩
   refine forR Pw ((hPw _ _ _).mpr ⟨o3,o4,a7,hr7,rfl⟩) (fun j σ2 H8 hj h8=>?_) (fun σ2 H8 h8=>?_)
   ·obtain⟨o3,o4,s8,hr8,rfl⟩:=(hPw _ _ _).mp h8
    rw[q6_]
    obtain⟨tw,htw,hti'⟩:=hW.2 i _ hwi
    have t8:=s6.trans s8
    have t18:=s1'.trans t8
    walk_at "rd"
    refine⟨_,SqL.of (t18 _ _ hpw),_,Cq htw,by lia,fun p9 hp9=>?_⟩
    have a9:=Same.new hp9 (o:=.tup [V.int (j:Int)])
    refine Kk.ofS (a9 _ _ (t18 _ _ hti')) Ab (by have:=hwl _ (jf_ hwi);simp;lia) fun t10 H10 s10 ht10=>?_
    have a10:=a9.trans s10
    have t10':=t18.trans a10
    rw[show [V.int (j:Int)]=[(j:Int)].map V.int from rfl,<-jn_]at ht10
    have hrw:W[i]++[(j:Int)]∈B7 L W:=AV.mpr (.inr ⟨_,jf_ hwi,j,hj,rfl⟩)
    refine⟨d,t10,pe,es,W[i]++[(j:Int)],ys,E,rfl,t10' _ _ hd,tb.nd,ht10,SqL.of (t10' _ _ hpe),hE.mono (TK.of t10'),by have:=hwl _ (jf_ hwi);simp;lia,fun e he=>by have:=hel e he;lia,by lia,hrow _ hrw,fun l H11 s11 hl11 hl11'=>?_⟩
    have a11:=a10.trans s11
    have t11:=t8.trans a11
    have hR11:=Dz.mono59 hR1 t11
    have hin:=cl _ (jf_ hwi) j hj
    refine⟨l,rfl,_,SqL.of (t11 _ _ hDs),_,_,hR11,SqL.of hl11',?_⟩
    rw[jR_ hin,if_neg (by decide)]
    have hr11:=a11 _ _ hr8
    refine⟨.inl ⟨rfl,_,SqL.of hr11⟩,.inl ⟨rfl,_,SqL.of (t11 _ _ hDs)⟩,_,l,rfl,t11 _ _ hDs,_,_,hR11,SqL.of hl11',hin,by rw[hR1.1,jb_];lia,_,hr11,by simp;lia,(hPw _ _ _).mpr ⟨_,_,(s8.trans a11).over hr,?_,rfl⟩⟩
    rw[Ab,qF_,jn_,jn_];rfl
   ·obtain⟨o3,o4,s8,hr8,rfl⟩:=(hPw _ _ _).mp h8
    have t8:=s6.trans s8
    have hq8:=s8 _ _ hq6
    walk_at "rd"
    refine⟨.inl ⟨rfl,_,SqL.of hq8⟩,_,.inl ⟨SqL.of hr8,fun t9 ht9=>?_⟩⟩
    have a9:=Same.new ht9 (o:=.tup (((List.range L).map fun x:Nat=>(((W.map (gOf E es)).idxOf (gOf E es (W[i]++[(x:Int)])):Nat):Int)).map V.int))
    have ht9':upd H8 t9 (.tup (((List.range L).map fun x:Nat=>(((W.map (gOf E es)).idxOf (gOf E es (W[i]++[(x:Int)])):Nat):Int)).map V.int)) t9=some (.tup (((List.range L).map fun x:Nat=>(((W.map (gOf E es)).idxOf (gOf E es (W[i]++[(x:Int)])):Nat):Int)).map V.int)):=Ab
    generalize upd H8 t9 (.tup (((List.range L).map fun x:Nat=>(((W.map (gOf E es)).idxOf (gOf E es (W[i]++[(x:Int)])):Nat):Int)).map V.int))=H9 at a9 ht9' ⊢
    have hq9:=a9 _ _ hq8
    have s89:=s8.trans a9
    have hgl:(EM L W E es).length=W.length:=by unfold EM;rw[jb_]
    refine⟨_,hq9,by rw[hY6.1,jx_];lia,(hPv _ _ _).mpr ⟨_,_,_,_,us'++[V.ref t5],_,(t8.trans a9).over hq2,by rw[Ag hpq];exact s89 _ _ hp6,(hM6.mono (TK.of s89)).mono (TK.lst hq9),Ab,?_,rfl⟩⟩
    have e:(EM L W E es).take (i+1)=(EM L W E es).take i++[(List.range L).map fun x:Nat=>(((W.map (gOf E es)).idxOf (gOf E es (W[i]++[(x:Int)])):Nat):Int)]:=by
     rw[jD_]
     congr 1
     unfold EM
     rw[ji_,hwi];rfl
    rw[e]
    exact ((hY6.mono (TK.of s89)).snoc ht9').mono (TK.lst hq9)
  ·obtain⟨o1,o2,o3,o4,us',vs',s3,hp3,hM,hq3,hY,rfl⟩:=(hPv _ _ _).mp h'
   rw[jO_]at hM
   rw[q2_ (by unfold EM;rw[jb_];exact jl_ _)]at hY
   walk_at "rd"
   refine⟨_,.inl ⟨SqL.of hp3,fun l1 h1=>⟨_,.inl ⟨SqL.of ((Same.new h1) _ _ hq3),fun l2 h2=>⟨by lia,fun l3 h3=>?_⟩⟩⟩⟩⟩
   have a1:=Same.new h1 (o:=.tup us')
   have a2:=Same.new h2 (o:=.tup vs')
   have a3:=Same.new h3 (o:=.tup [V.int (L:Int),V.ref l1,V.ref l2])
   have a:=(a1.trans a2).trans a3
   exact k l3 _ ((s1'.trans s3).trans a) ⟨l1,l2,us',vs',Ab,a3 _ _ (a2 _ _ Ab),hM.mono (TK.of a),a3 _ _ Ab,hY.mono (TK.of a)⟩
theorem Tb.wnd    (t:Tb L most W E es):W.Nodup:=by
 rw[qe_,xA_]
 intro i j hi hj hij z
 obtain⟨e,he,m,n,h1,h2,h3⟩:=t.dist i j _ _ (jh_ hi) (jh_ hj) s!""
 rw[z,h2]at h1
 exact h3 (jt_ h1).symm
theorem KG_   (h:v ≠ []):atI ((sayW mm ws v).map V.int) (-1)=some (V.int (lsay mm ws v)):=by
 have hv0:0<v.length:=xk_.mpr h
 have hl:((sayW mm ws v).map V.int).length=v.length:=by rw[jb_,Jc]
 have hlt:v.length-1<(sayW mm ws v).length:=by rw[Jc];lia
 unfold lsay
 rw[jq_,jh_ hlt]
 refine Dg_ ?_
 rw[jb_,Jc,ji_,jh_ hlt];rfl
structure G59 (s:AS):Prop where
 tb:Tb s.L s.most s.W s.E s.es
 ac:∀(k:Nat) (v:α2),s.W[k]?=some v->0<k->∃(j:Nat) (u:α2) (x:Nat),j<k/\s.W[j]?=some u/\x<s.L/\v=u++[(x:Int)]
 en:s.E.Nodup
 el:∀e∈s.E,e.length<=500
 bl:∀p∈s.es,p.1 ≠ []/\p.1.length<=600
 bn:s.es.length<=100000
noncomputable def Id_ (K:α3)(CS CA CB:Addr):Sp:=fun vs H Q _=>∃(h p d a:Addr) (ad:AD) (s:AS) (wv:V),vs=[.ref h,.int s.L,.ref p,.ref d]/\SAt K CS CA CB H p a ad s wv/\HouT K H h s.L (Cb s.L s.W s.E s.es) (EM s.L s.W s.E s.es)/\G59 s/\Full s.L s.W s.E s.es/\E4 s.L s.W s.E s.es=none/\(∀p∈s.es,lsay (Cb s.L s.W s.E s.es) (EM s.L s.W s.E s.es) p.1=p.2)/\H d=some (.dT (ents s.es))/\∀H',Same H H'->Q (.bl true) H'
theorem Qg   (F:Fun K "_law_guess_good" "_law_guess_good" Ck f fd)(T:Txt mg)
  (W:Own K mg C_j7 C_j9 C_ji C_ja C_j1 C_j4)
  (Z:Exs K mg C_j8 C_j5 C_j6 C_j3 C_j2 C_j0)
   (Az:FnOk P w K mg base CX0 2 Ao AJ ["self"] (Gb K C_j4 C_j1 C_j7 AS.W)) (A0:Fun K "access" "SayAsker.access" Bh Ao AJ) (AA:Binds K AJ ["self"] []) (AB:Meth K C_j4 "access" Ao)
   (Au:FnOk P w K mg base CX0 2 Al Ay ["self"] (Gb K C_j4 C_j1 C_j7 AS.E)) (AU:Fun K "tellers" "SayAsker.tellers" A5 Al Ay) (Av:Binds K Ay ["self"] []) (Aw:Meth K C_j4 "tellers" Al)
   (Be:FnOk P w K mg base CX0 3 AG Bi ["self"] (M6 K C_j4 C_j1 C_j7)) (BC:Fun K "heard" "SayAsker.heard" BA AG Bi) (Bf:Binds K Bi ["self"] []) (Bg:Meth K C_j4 "heard" AG)
   (CC:FnOk P w K mg base CX0 4 Bx Dm ["access","letters"] (YV K)) (BR:Fun K "_law_access_good" "_law_access_good" BP Bx Dm) (CD:Binds K Dm ["access","letters"] []) (CF:mg "_law_access_good"=some (.ref Bx))
   (Dt:FnOk P w K mg base CX0 4 BU Ef ["ends","letters"] (YW K)) (Ce:Fun K "_law_ends_good" "_law_ends_good" B9 BU Ef) (Du:Binds K Ef ["ends","letters"] []) (Dv:mg "_law_ends_good"=some (.ref BU))
   (Jj:FnOk P w K mg base CX0 3 Eg Lv ["found","due"] (KF_ K)) (FF:Fun K "_law_house_is" "_law_house_is" Dk Eg Lv) (Jk:Binds K Lv ["found","due"] []) (Jl:mg "_law_house_is"=some (.ref Eg))
   (Ht:FnOk P w K mg base CX0 1 EO Ib ["house","word"] (DE_ K)) (FG:Fun K "_law_talk" "_law_talk" Fi EO Ib) (Hu:Binds K Ib ["house","word"] []) (Hv:mg "_law_talk"=some (.ref EO))
   (Io:FnOk P w K mg base CX0 2 Dx Kz ["letters","access","ends","told"] (Fe_ K)) (EW:Fun K "_law_due_guess" "_law_due_guess" CK Dx Kz) (Ip:Binds K Kz ["letters","access","ends","told"] []) (Iq:mg "_law_due_guess"=some (.ref Dx))
  : FnOk P w K mg base CX0 5 f fd ["house","letters","asker","told"] (Id_ K C_j4 C_j1 C_j7):=by
 refine F.ok Cz (fun vs H Q E h=>?_) (fun cdv A outer s H vs Q E hr h=>?_)
 ·obtain⟨h,p,d,a,ad,s,wv,rfl,_⟩:=h;rfl
 ·obtain⟨h,p,d,a,ad,s,wv,rfl,S,hh,g,full,hst,hall,hd,k⟩:=h
  obtain⟨⟨dx,L',hp⟩,_⟩:=id S
  have hl:=Aq
  have tb:=g.tb
  have hwn:=tb.wn
  have hm12:=tb.m12
  have hen:=tb.en
  have hl6:=tb.l6
  obtain⟨np,cl⟩:=tb.none full hst
  have gu:GuessOk s.L s.W s.E s.es (Cb s.L s.W s.E s.es) (EM s.L s.W s.E s.es):=tb.guess full cl
  have wf:=tb.wf gu
  refine⟨_,(Ac (AW (i:=4) Cz.nd (AL (pvD 2) W.cl_j4 AB Az (hr.mono (by decide)) AA .nil AM))
   (Ac (AW (i:=5) Cz.nd (AL (pvD 2) W.cl_j4 Aw Au (hr.mono (by decide)) Av .nil AM))
   (Ac (B6 (PW.pt (Jz (ET (ptB (ES (Ax CC (hr.mono (by decide)) rfl CF BR.kp CD .nil AM (Aa (pvD 4) (Aa (pvD 1) Ae)))))) (GN (ET (ptB (ES (Ax Dt (hr.mono (by decide)) rfl Dv Ce.kp Du .nil AM (Aa (pvD 5) (Aa (pvD 1) Ae)))))))))
   (Af (An Ej))
   AK)
   (Ac (AW (i:=6) Cz.nd (Ax Io (hr.mono (by decide)) rfl Iq EW.kp Ip .nil AM (Aa (pvD 1) (Aa (pvD 4) (Aa (pvD 5) (Aa (pvD 3) Ae))))))
   (Ac (B6 (PW.pt (Jz (ptT (AE XD (pvD 6) Gk (AZ _))) (GN (ET (ptB (ES (Ax Jj (hr.mono (by decide)) rfl Jl FF.kp Jk .nil AM (Aa (pvD 0) (Aa (pvD 6) Ae)))))))))
   (Af (An Ej))
   AK)
   (Ac (IX_ (E6 jz_ rfl (HD_ (pvD 3)) (Eq_ rfl (JC (Bl (i:=7) Cz.nd rfl (Or.inl rfl)) (JC (Bl (i:=8) Cz.nd rfl (Or.inl rfl)) X1)))
   (Af (B6 (ptT (AE (opN Ra) (Ar (ixLD Ci) (Ax Ht (hr.mono (by decide)) rfl Hv FG.kp Hu .nil AM (Aa (pvD 0) (Aa (pvD 7) Ae))) (Fm_ XC Ah)) (pvD 8) (AZ _)))
   (Af (An Ej))
   AK))))
   (Af (An (JX (Ez_ 8 (hu9 hr)) (AL (pvD 2) W.cl_j4 Bg Be (hr.mono (by decide)) Bf .nil AM) (Cg (IW rfl) rfl T.list j0_ (Aa (Yj (pvD 3)) Ae)) (AZ _)))))))))),?_⟩
  walk_at "rd"
  refine⟨_,_,hp,by kernel_rfl,p,a,ad,s,wv,rfl,S,fun l1 ts1 H1 s1 hn1 hl1 hW1=>?_⟩
  refine⟨_,_,s1 _ _ hp,by kernel_rfl,p,a,ad,s,wv,rfl,S.same s1,fun l2 ts2 H2 s2 hn2 hl2 hE2=>?_⟩
  have s12:=s1.trans s2
  have hl1':=s2 _ _ hl1
  have hW2:=hW1.mono (TK.of s2)
  refine⟨l1,s.L,ts1,s.W,rfl,SqL.of hl1',hW2,tb.wnd,fun v hv=>(tb.wW v hv).1,by lia,tb.w0,g.ac,fun H3 s3=>⟨_,rfl,?_⟩⟩
  rw[if_neg (by decide)]
  refine⟨l2,s.L,ts2,s.E,rfl,SqL.of (s3 _ _ hl2),hE2.mono (TK.of s3),g.en,tb.eW,by lia,hl6,tb.e0,fun H4 s4=>⟨_,rfl,?_⟩⟩
  rw[if_neg (by decide)]
  have s24:=s3.trans s4
  have s14:=s12.trans s24
  refine⟨l1,l2,d,s.L,s.most,ts1,ts2,s.W,s.E,s.es,rfl,s24 _ _ hl1',hW2.mono (TK.of s24),s24 _ _ hl2,hE2.mono (TK.of s24),s14 _ _ hd,tb,full,hst,g.el,fun h5 H5 s5 hh5=>?_⟩
  have ml:(Cb s.L s.W s.E s.es).length<=12:=by rw[gu.ml];lia
  have wl:(EM s.L s.W s.E s.es).length<=12:=by rw[gu.wl];lia
  show (if V.ref h5=V.non then _ else _)
  rw[if_neg (by simp)]
  have s15:=s14.trans s5
  refine⟨h,h5,s.L,_,_,rfl,(hh.mono (TK.of s15)).house,hh5.house,by lia,by lia,fun r hr=>by rw[gu.sl r hr];lia,fun r hr=>by rw[gu.rl r hr];lia,_,rfl,?_⟩
  rw[if_neg (by decide)]
  refine⟨_,s15 _ _ hd,fun o=>?_⟩
  have hd5:=s15 _ _ hd
  have tk5:TK H5 (upd H5 d (.frz o (.dT (ents s.es)))):=fun t ts h=>by rw[Ag (fun z=>by rw[z,hd5]at h;cases h)];exact h
  have hh6:=(hh.mono (TK.of s15)).mono tk5
  obtain⟨Pv,hPv⟩:∃Pv:Nat->St->Hp->Prop,∀i σ' H',Pv i σ' H'↔(Same (upd H5 d (.frz o (.dT (ents s.es)))) H'/\∃o1 o2,σ'=[some (.ref h),some (.int s.L),some (.ref p),some (.ref d),some (.ref l1),some (.ref l2),some (.ref h5),o1,o2]):=⟨_,fun _ _ _=>qG_⟩
  refine Ny_ Pv ((hPv _ _ _).mpr ⟨Same.refl _,none,none,rfl⟩) (fun i σ' H' _ h'=>((hPv _ _ _).mp h').1 _ _ Ab) (fun i kk v t b σ' H' hi h' ht hb=>?_) (fun σ' H' h'=>?_)
  ·obtain⟨s6,o1,o2,rfl⟩:=(hPv _ _ _).mp h'
   obtain⟨e,hei,e1,e2⟩:∃e,s.es[i]?=some e/\kk=wkey e.1/\v=V.int e.2:=by
    unfold ents at hi
    rw[ji_]at hi
    cases he:s.es[i]? with
    |none=>rw[he]at hi;cases hi
    |some e=>rw[he]at hi;cases hi;exact⟨e,rfl,rfl,rfl⟩
   subst e1 e2
   have hee:=jf_ hei
   have hbl:=g.bl e hee
   have a7:=Same.new ht (o:=.tup [.ref b,.int e.2])
   have hb7:=a7 _ _ hb
   rw[Cj]at hb7
   have s7:=s6.trans a7
   walk_at "rd"
   refine⟨_,SqT.of Ab,rfl,_,_,rfl,_,_,rfl,rfl,h,b,s.L,_,_,e.1,rfl,(hh6.mono (TK.of s7)).house,wf,SqT.of hb7,hbl.2,(tb.bW e hee).1,fun p8 H8 s8 hp8=>?_⟩
   refine⟨p8,rfl,_,SqL.of hp8,_,KG_ hbl.1,?_⟩
   rw[hall e hee,if_neg (by simp)]
   exact⟨rfl,(hPv _ _ _).mpr ⟨s7.trans s8,_,_,rfl⟩⟩
  ·obtain⟨s6,o1,o2,rfl⟩:=(hPv _ _ _).mp h'
   refine .inr ⟨d,o,ents s.es,s6 _ _ Ab,ents s.es,hd,?_⟩
   have s7:Same H5 (upd H' d (.dT (ents s.es))):=fun x u hx=>by
    by_cases hxd:x=d
    ·subst hxd
     rw[Ab,<-hx,hd5]
    ·rw[Ag hxd]
     exact s6 _ _ (by rw[Ag hxd];exact hx)
   have s8:=s15.trans s7
   generalize upd H' d (.dT (ents s.es))=H8 at s7 s8 ⊢
   walk_at "rd"
   refine⟨_,_,s8 _ _ hp,by kernel_rfl,p,a,ad,s,wv,rfl,S.same s8,fun l9 rs9 H9 s9 hn9 hl9 htr9=>?_⟩
   have hd9:=(s8.trans s9) _ _ hd
   refine⟨_,.inl hd9,fun vw hvw=>?_⟩
   have sv:=Same.new (o:=Yi vw d) hvw
   refine⟨d,Ab,_,.inl (sv _ _ hd9),fun l rs H10 s10 hl10 hlen hr=>?_⟩
   have s11:=sv.trans (s10.newT (o:=.lst rs) hl10)
   refine⟨l9,rfl,true,?_,k _ (s8.trans (s9.trans s11))⟩
   refine Hs.eq43 (n:=5) (htr9.mono fun b xs hb=>s11 _ _ hb) ⟨by rw[hlen];unfold ents;rw[jb_],fun i tr hi=>?_⟩ (s11 _ _ hl9) Ab
   obtain⟨t,e1,b,e2,e3⟩:=hr i (wkey tr.1) (.int tr.2) (by unfold ents;rw[ji_,hi];rfl)
   rw[Cj]at e3
   exact⟨t,b,e1,(Same.new hl10) _ _ e2,(s10.newT hl10) _ _ e3⟩
noncomputable def Qh (K:α3)(H:Hp)(t:Addr)(W E:α1):Prop:=∃p q zs ys,H t=some (.tup [.ref p,.ref q])/\H p=some (.lst zs)/\Am K H zs W/\H q=some (.lst ys)/\Am K H ys E
noncomputable def YY (K:α3)(CS CA CB:Addr):Sp:=fun vs H Q _=>∃(t p a:Addr) (ad:AD) (s:AS) (wv:V) (W0 E0:α1) (b:Bool),vs=[.ref t,.ref p,.bl b]/\SAt K CS CA CB H p a ad s wv/\Qh K H t W0 E0/\W0 <+: s.W/\E0 <+: s.E/\(b=true->W0.length<s.W.length)/\s.W.length<=100/\s.E.length<=100/\∀H',Same H H'->Q (.bl true) H'
theorem YZ   (F:Fun K "_law_grows" "_law_grows" Er f fd)(T:Txt mg)
  (W:Own K mg C_j7 C_j9 C_ji C_ja C_j1 C_j4)
  (Z:Exs K mg C_j8 C_j5 C_j6 C_j3 C_j2 C_j0)
   (Az:FnOk P w K mg base CX0 2 Ao AJ ["self"] (Gb K C_j4 C_j1 C_j7 AS.W)) (A0:Fun K "access" "SayAsker.access" Bh Ao AJ) (AA:Binds K AJ ["self"] []) (AB:Meth K C_j4 "access" Ao)
   (Au:FnOk P w K mg base CX0 2 Al Ay ["self"] (Gb K C_j4 C_j1 C_j7 AS.E)) (AU:Fun K "tellers" "SayAsker.tellers" A5 Al Ay) (Av:Binds K Ay ["self"] []) (Aw:Meth K C_j4 "tellers" Al)
  : FnOk P w K mg base CX0 3 f fd ["kept","asker","strictly"] (YY K C_j4 C_j1 C_j7):=by
 refine F.ok K2 (fun vs H Q E h=>?_) (fun cdv A outer s H vs Q E hr h=>?_)
 ·obtain⟨t,p,a,ad,s,wv,W0,E0,b,rfl,_⟩:=h;rfl
 ·obtain⟨t,p,a,ad,s,wv,W0,E0,b,rfl,S,⟨pw,pe,zs,ys,ht,hpw,hW0,hpe,hE0⟩,hw,he,hb,hwl,hel,k⟩:=h
  obtain⟨⟨dx,L',hp⟩,_⟩:=id S
  have hl:=Aq
  refine⟨_,(Ac (AW (i:=3) K2.nd (AL (pvD 1) W.cl_j4 AB Az (hr.mono (by decide)) AA .nil AM))
   (Ac (AW (i:=4) K2.nd (AL (pvD 1) W.cl_j4 Aw Au (hr.mono (by decide)) Av .nil AM))
   (Ac (B6 (ptT (AE (Bb_ 8 (hu9 hr)) (FK Mm (pvD 3) Hk (Hl (AF (lenD Aj) (by rfl) T.len jv_ (Aa (Ar (ixTD AY) (pvD 0) Ah) Ae)))) (Ar (ixTD AY) (pvD 0) Ah) (AZ _)))
   (Af (An Ej))
   AK)
   (Ac (B6 (ptT (AE (Bb_ 8 (hu9 hr)) (FK Mm (pvD 4) Hk (Hl (AF (lenD Aj) (by rfl) T.len jv_ (Aa (Ar (ixTD AY) (pvD 0) Ah) Ae)))) (Ar (ixTD AY) (pvD 0) Ah) (AZ _)))
   (Af (An Ej))
   AK)
   (Af (An (LR_ (JA_ (pvD 2)) (XB (JX (opD0 Gz_) (AF (lenD Aj) (by rfl) T.len jv_ (Aa (pvD 3) Ae)) (AF (lenD Aj) (by rfl) T.len jv_ (Aa (Ar (ixTD AY) (pvD 0) Ah) Ae)) (AZ _)))))))))),?_⟩
  walk_at "rd"
  refine⟨_,_,hp,by kernel_rfl,p,a,ad,s,wv,rfl,S,fun l1 ts1 H1 s1 hn1 hl1 hW1=>?_⟩
  refine⟨_,_,s1 _ _ hp,by kernel_rfl,p,a,ad,s,wv,rfl,S.same s1,fun l2 ts2 H2 s2 hn2 hl2 hE2=>?_⟩
  have s12:=s1.trans s2
  have hl1':=s2 _ _ hl1
  have hW2:=hW1.mono (TK.of s2)
  have eW:s.W.take W0.length=W0:=by obtain⟨r,e⟩:=hw;rw[<-e,List.take_left]
  have eE:s.E.take E0.length=E0:=by obtain⟨r,e⟩:=he;rw[<-e,List.take_left]
  refine⟨_,SqT.of (s12 _ _ ht),_,rfl,pw,rfl,_,.inl (SqL.of (s12 _ _ hpw)),l1,rfl,_,SqL.of hl1',fun p3 hp3=>?_⟩
  rw[GH,hW0.1]
  have a3:=Same.new hp3 (o:=.lst (ts1.take W0.length))
  have s13:=s12.trans a3
  have hW3:=(Am.take17 hW2 W0.length).mono (TK.of a3)
  rw[eW]at hW3
  refine⟨_,SqT.of (s13 _ _ ht),_,rfl,pw,rfl,true,Am.eqL59 (SqL.of Ab) hW3 (SqL.of (s13 _ _ hpw)) (hW0.mono (TK.of s13)) 6,?_⟩
  rw[if_neg (by decide)]
  have hl13:=a3 _ _ hl1'
  have hl23:=a3 _ _ hl2
  have hE3:=hE2.mono (TK.of a3)
  generalize upd H2 p3 (.lst (ts1.take W0.length))=H3 at a3 s13 hl13 hl23 hE3 ⊢
  refine⟨_,SqT.of (s13 _ _ ht),_,rfl,pe,rfl,_,.inl (SqL.of (s13 _ _ hpe)),l2,rfl,_,SqL.of hl23,fun p4 hp4=>?_⟩
  rw[GH,hE0.1]
  have a4:=Same.new hp4 (o:=.lst (ts2.take E0.length))
  have s14:=s13.trans a4
  have hE4:=(Am.take17 hE3 E0.length).mono (TK.of a4)
  rw[eE]at hE4
  refine⟨_,SqT.of (s14 _ _ ht),_,rfl,pe,rfl,true,Am.eqL59 (SqL.of Ab) hE4 (SqL.of (s14 _ _ hpe)) (hE0.mono (TK.of s14)) 6,?_⟩
  rw[if_neg (by decide)]
  have hl14:=a4 _ _ hl13
  generalize upd H3 p4 (.lst (ts2.take E0.length))=H4 at a4 s14 hl14 ⊢
  cases b with
  |false=>rw[if_pos (by decide)];exact k _ s14
  |true=>
   rw[if_neg (by decide)]
   refine⟨l1,rfl,_,.inl (SqL.of hl14),_,SqT.of (s14 _ _ ht),_,rfl,pw,rfl,_,.inl (SqL.of (s14 _ _ hpw)),?_⟩
   have h1:=hb rfl
   rw[hW0.1,hW1.1,jR_ (show (W0.length:Int)<(s.W.length:Int) by lia)]
   exact k _ s14
noncomputable def BC_ (K:α3):Sp:=fun vs H Q _=>∃(t d:Addr) (L:Nat) (es:Bk) (x:Wish),vs=[.ref t,.int L,.ref d]/\CL K H L (.ref t) x/\H d=some (.dT (ents es))/\(∀c,x=.ask c->isW L c=true/\c∉es.map (·.1)/\c ≠ []/\c.length<=600)/\(∀c,x=.spent c->isW L c=true)/\Q (.bl true) H
theorem RO   (F:Fun K "_law_wish_good" "_law_wish_good" CI f fd)(T:Txt mg)
  (W:Own K mg C_j7 C_j9 C_ji C_ja C_j1 C_j4)
  (Z:Exs K mg C_j8 C_j5 C_j6 C_j3 C_j2 C_j0)
   (D2:FnOk P w K mg base CX0 2 Co FA ["found","letters"] (O4 K)) (Cp:Fun K "_law_is_word" "_law_is_word" CV Co FA) (D3:Binds K FA ["found","letters"] []) (D4:mg "_law_is_word"=some (.ref Co))
  : FnOk P w K mg base CX0 3 f fd ["wish","letters","told"] (BC_ K):=by
 refine F.ok Rj (fun vs H Q E h=>?_) (fun cdv A outer s H vs Q E hr h=>?_)
 ·obtain⟨t,d,L,es,x,rfl,_⟩:=h;rfl
 ·obtain⟨t,d,L,es,x,rfl,hw,hd,ha,hs,k⟩:=h
  obtain⟨t',u,e,ht,hu⟩:=id hw
  cases e
  have hl:=Aq
  refine⟨_,(Ac (B6 (PW.pt (Jz (ET (ptB (ES (AF El rfl T.isinstance jT_ (Aa (pvD 0) (Aa (Mj (v:=.ty "tuple") rfl T.tuple jE_ rfl) Ae)))))) (GN (ptT (AE (opN Ra) (AF (lenD Aj) (by rfl) T.len jv_ (Aa (pvD 0) Ae)) Ah (AZ _))))))
   (Af (An Ej))
   AK)
   (Ac (B6 (ptT (AE (opE KQ) (Ar (ixTD AY) (pvD 0) Ah) Ek (AZ _)))
   (Ac (B6 (PW.pt (Jz (ET (ptB (ES (Ax D2 (hr.mono (by decide)) rfl D4 Cp.kp D3 .nil AM (Aa (Ar (ixTD AY) (pvD 0) Ah) (Aa (pvD 1) Ae)))))) (GN (Gn_ (GQ_ (IU hr) (Ar (ixTD AY) (pvD 0) Ah) (pvD 2))))))
   (Af (An Ej))
   AK)
   (Af (An (Ep_ (JX (opD0 Gy_) Ah (AF (lenD Aj) (by rfl) T.len jv_ (Aa (Ar (ixTD AY) (pvD 0) Ah) Ae)) (AZ _)) (XB (JX (opD0 Iu_) (AF (lenD Aj) (by rfl) T.len jv_ (Aa (Ar (ixTD AY) (pvD 0) Ah) Ae)) Ah (AZ _)))))))
   AK)
   (Ac (B6 (ptT (AE (opE KQ) (Ar (ixTD AY) (pvD 0) Ah) Ek (AZ _)))
   (Af (An (Ax D2 (hr.mono (by decide)) rfl D4 Cp.kp D3 .nil AM (Aa (Ar (ixTD AY) (pvD 0) Ah) (Aa (pvD 1) Ae)))))
   AK)
   (Af (An (LR_ (JX (opE KQ) (Ar (ixTD AY) (pvD 0) Ah) Ek (AZ _)) (XB (JX (opE KQ) (Ar (ixTD AY) (pvD 0) Ah) Ek (AZ _))))))))),?_⟩
  walk_at "rd"
  refine⟨_,_,.tup (SqT.of ht),Tg,_,KZ,?_⟩
  rw[if_neg (by decide)]
  refine⟨_,.inr (SqT.of ht),?_⟩
  rw[if_neg (by simp)]
  cases x with
  |ask c=>
   obtain⟨a1,a2,a3,a4⟩:=ha c rfl
   have ht:H t=some (.tup [.str ("ask" : Str),.ref u]):=ht
   have hu:H u=some (.tup (c.map V.int)):=hu
   refine⟨_,SqT.of ht,_,rfl,rfl,?_⟩
   rw[if_pos rfl]
   refine⟨_,SqT.of ht,_,rfl,u,L,c,rfl,SqT.of hu,a1,_,rfl,?_⟩
   rw[if_neg (by decide)]
   refine⟨_,SqT.of ht,_,rfl,_,DGet.t hd (k:=wkey c) (by rw[Cj];exact hu),?_⟩
   rw[Ms a2,if_neg (by simp)]
   refine⟨_,SqT.of ht,_,rfl,u,rfl,_,.inr (SqT.of hu),?_⟩
   rw[jb_,if_pos (by have:=xk_.mpr a3;lia)]
   refine⟨_,SqT.of ht,_,rfl,u,rfl,_,.inr (SqT.of hu),?_⟩
   rw[jb_,jR_ s!""]
   exact k
  |shown m ws=>
   have ht:H t=some (.tup [.str ("show" : Str),.ref u]):=ht
   refine⟨_,SqT.of ht,_,rfl,rfl,?_⟩
   rw[if_neg (fun z=>absurd (V.str.inj z) (by decide +kernel))]
   refine⟨_,SqT.of ht,_,rfl,rfl,?_⟩
   rw[if_neg (fun z=>absurd (V.str.inj z) (by decide +kernel))]
   refine⟨_,SqT.of ht,_,rfl,rfl,?_⟩
   rw[if_pos rfl]
   exact k
  |done m ws=>
   have ht:H t=some (.tup [.str ("done" : Str),.ref u]):=ht
   refine⟨_,SqT.of ht,_,rfl,rfl,?_⟩
   rw[if_neg (fun z=>absurd (V.str.inj z) (by decide +kernel))]
   refine⟨_,SqT.of ht,_,rfl,rfl,?_⟩
   rw[if_neg (fun z=>absurd (V.str.inj z) (by decide +kernel))]
   refine⟨_,SqT.of ht,_,rfl,rfl,?_⟩
   rw[if_neg (fun z=>absurd (V.str.inj z) (by decide +kernel))]
   refine⟨_,SqT.of ht,_,rfl,rfl,?_⟩
   rw[jR_ rfl]
   exact k
  |spent c=>
   have a1:=hs c rfl
   have ht:H t=some (.tup [.str ("spent" : Str),.ref u]):=ht
   have hu:H u=some (.tup (c.map V.int)):=hu
   refine⟨_,SqT.of ht,_,rfl,rfl,?_⟩
   rw[if_neg (fun z=>absurd (V.str.inj z) (by decide +kernel))]
   refine⟨_,SqT.of ht,_,rfl,rfl,?_⟩
   rw[if_pos rfl]
   exact⟨_,SqT.of ht,_,rfl,u,L,c,rfl,SqT.of hu,a1,k⟩
noncomputable def accX (s:AS):Wish->α1
 |.spent c=>s.W++[c]
 |_=>s.W
structure End59 (s:AS)(x:Wish)(n:Nat):Prop where
 g:G59 s
 fu:Full s.L s.W s.E s.es
 nd:((accX s x).map (gOf s.E s.es)).Nodup
 ro:∀v∈accX s x,v∈B7 s.L s.W/\v.length<=13
 xs:∀c,x=.spent c->s.W.length=s.most/\∃a∈s.W,∃y:Nat,c=a++[(y:Int)]
 na:∀c,x ≠ .ask c
 ns:∀m ws,x ≠ .shown m ws
 n:n<=(1+(accX s x).length*s.L)*((accX s x).length+s.L)+10*((accX s x).length-1)
noncomputable def Ie_ (K:α3)(CS CA CB:Addr):Sp:=fun vs H Q _=>∃(p d a:Addr) (ad:AD) (s:AS) (wv:V) (x:Wish) (n:Nat),vs=[.ref p,.int s.L,.int s.most,.int n,.ref d]/\SAt K CS CA CB H p a ad s wv/\CL K H s.L wv x/\End59 s x n/\H d=some (.dT (ents s.es))/\∀H',Same H H'->Q (.bl true) H'
theorem TR   (F:Fun K "_law_end_good" "_law_end_good" Di f fd)(T:Txt mg)
  (W:Own K mg C_j7 C_j9 C_ji C_ja C_j1 C_j4)
  (Z:Exs K mg C_j8 C_j5 C_j6 C_j3 C_j2 C_j0)
   (Az:FnOk P w K mg base CX0 2 Ao AJ ["self"] (Gb K C_j4 C_j1 C_j7 AS.W)) (A0:Fun K "access" "SayAsker.access" Bh Ao AJ) (AA:Binds K AJ ["self"] []) (AB:Meth K C_j4 "access" Ao)
   (Au:FnOk P w K mg base CX0 2 Al Ay ["self"] (Gb K C_j4 C_j1 C_j7 AS.E)) (AU:Fun K "tellers" "SayAsker.tellers" A5 Al Ay) (Av:Binds K Ay ["self"] []) (Aw:Meth K C_j4 "tellers" Al)
   (Be:FnOk P w K mg base CX0 3 AG Bi ["self"] (M6 K C_j4 C_j1 C_j7)) (BC:Fun K "heard" "SayAsker.heard" BA AG Bi) (Bf:Binds K Bi ["self"] []) (Bg:Meth K C_j4 "heard" AG)
   (A1:FnOk P w K mg base CX0 2 AH Bj ["self"] (M4 K C_j4 C_j1 C_j7)) (BD:Fun K "wants" "SayAsker.wants" BB AH Bj) (A2:Binds K Bj ["self"] []) (A3:Meth K C_j4 "wants" AH)
   (CC:FnOk P w K mg base CX0 4 Bx Dm ["access","letters"] (YV K)) (BR:Fun K "_law_access_good" "_law_access_good" BP Bx Dm) (CD:Binds K Dm ["access","letters"] []) (CF:mg "_law_access_good"=some (.ref Bx))
   (Dt:FnOk P w K mg base CX0 4 BU Ef ["ends","letters"] (YW K)) (Ce:Fun K "_law_ends_good" "_law_ends_good" B9 BU Ef) (Du:Binds K Ef ["ends","letters"] []) (Dv:mg "_law_ends_good"=some (.ref BU))
   (FC:FnOk P w K mg base CX0 1 DR G4 ["told","word","ends"] (RL K)) (DS:Fun K "_law_marks" "_law_marks" Es DR G4) (FD:Binds K G4 ["told","word","ends"] []) (FE:mg "_law_marks"=some (.ref DR))
  : FnOk P w K mg base CX0 5 f fd ["asker","letters","most","asked","told"] (Ie_ K C_j4 C_j1 C_j7):=by
 refine F.ok Ca (fun vs H Q E h=>?_) (fun cdv A outer s H vs Q E hr h=>?_)
 ·obtain⟨p,d,a,ad,s,wv,x,n,rfl,_⟩:=h;rfl
 ·obtain⟨p,d,a,ad,s,wv,x,n,rfl,S,hw,en,hd,k⟩:=h
  obtain⟨⟨dx,L',hp⟩,_⟩:=id S
  have hl:=Aq
  have g:=en.g
  have tb:=g.tb
  have hwn:=tb.wn
  have hm12:=tb.m12
  have hen:=tb.en
  have hl6:=tb.l6
  have hL1:=tb.l1
  have full:=en.fu
  obtain⟨t,u,rfl,ht,hu⟩:=id hw
  refine⟨_,(Ac (AW (i:=5) Ca.nd (AL (pvD 0) W.cl_j4 AB Az (hr.mono (by decide)) AA .nil AM))
   (Ac (Kh (i:=6) Ca.nd rfl (Or.inr rfl) (AL (pvD 0) W.cl_j4 Aw Au (hr.mono (by decide)) Av .nil AM))
   (Ac (AW (i:=7) Ca.nd (AL (pvD 0) W.cl_j4 A3 A1 (hr.mono (by decide)) A2 .nil AM))
   (Ac (B6 (PW.pt (Jz (ET (ptB (ES (Ax CC (hr.mono (by decide)) rfl CF BR.kp CD .nil AM (Aa (pvD 5) (Aa (pvD 1) Ae)))))) (GN (ET (ptB (ES (Ax Dt (hr.mono (by decide)) rfl Dv Ce.kp Du .nil AM (Aa (pvD 6) (Aa (pvD 1) Ae)))))))))
   (Af (An Ej))
   AK)
   (GY_ (B6 (ptT (AE (opE KQ) (Ar (ixTD AY) (pvD 7) Ah) Ek (AZ _)))
   (Ac (B6 (PW.pt (Jz (ptT (AE (opN Ra) (AF (lenD Aj) (by rfl) T.len jv_ (Aa (pvD 5) Ae)) (pvD 2) (AZ _))) (Jz (ptT (AE (opE KQ) (AF (lenD Aj) (by rfl) T.len jv_ (Aa (Ar (ixTD AY) (pvD 7) Ah) Ae)) Ah (AZ _))) (GN (ptT (AE (Va (hu9 hr)) (FK DD_ (Ar (ixTD AY) (pvD 7) Ah) Hk (Hl (Fm_ XC Ah))) (pvD 5) rfl))))))
   (Af (An Ej))
   AK)
   (Af (AW (i:=5) Ca.nd (BS Me_ (pvD 5) (JD (Aa (Ar (ixTD AY) (pvD 7) Ah) Ae))))))
   AK)
   (Ac (Yb (i:=8) Ca.nd rfl rfl rfl (Ki rfl) (cp:=Kn) ⟨⟨rfl,rfl⟩,⟨⟨rfl,rfl⟩,True.intro⟩⟩ (Ge (pvD 5)) (fun _ _ _ _=>(Bl (i:=0) Om rfl (Or.inl rfl))) (fun _ _ _ _=>Ln) (fun _ _ _ _=>(Ax FC (hr.mono (by decide)) rfl FE DS.kp FD .nil AM (Aa (pvD 1) (Aa (pvD 0) (Aa (pvD 2) Ae))))))
   (Ac (E6 jz_ rfl (EU rfl T.range (Aa (AF (lenD Aj) (by rfl) T.len jv_ (Aa (pvD 8) Ae)) Ae)) (Bl (i:=9) Ca.nd rfl (Or.inl rfl))
   (Af (B6 (PW.pt (Jz (ptT (AE (opN Ra) (AF (lenD Aj) (by rfl) T.len jv_ (Aa (Ar (ixLD Ci) (pvD 8) (pvD 9)) Ae)) (AF (lenD Aj) (by rfl) T.len jv_ (Aa (pvD 6) Ae)) (AZ _))) (GN (ptT (AE (Kp_ (hu9 hr)) (Ar (ixLD Ci) (pvD 8) (pvD 9)) (FK Mm (pvD 8) Hk (Hl (pvD 9))) rfl)))))
   (Af (An Ej))
   AK)))
   (Ac (AW (i:=10) Ca.nd (AF (lenD Aj) (by rfl) T.len jv_ (Aa (pvD 5) Ae)))
   (Ac (B6 (ptT (AE (opD0 Gz_) (pvD 3) (BS (opD0 Hb) (BS (opD OA) (BS (opD0 Hb) Ah (BS (opD OA) (pvD 10) (pvD 1))) (BS (opD0 Hb) (pvD 10) (pvD 1))) (BS (opD OA) Ah (BS (opD0 AL_) (pvD 10) Ah))) (AZ _)))
   (Af (An Ej))
   AK)
   (Af (An (JX (Ez_ 8 (hu9 hr)) (AL (pvD 0) W.cl_j4 Bg Be (hr.mono (by decide)) Bf .nil AM) (Cg (IW rfl) rfl T.list j0_ (Aa (Yj (pvD 4)) Ae)) (AZ _))))))))))))),?_⟩
  walk_at "rd"
  refine⟨_,_,hp,by kernel_rfl,p,a,ad,s,_,rfl,S,fun l1 ts1 H1 s1 hn1 hl1 hW1=>?_⟩
  refine⟨_,_,s1 _ _ hp,by kernel_rfl,p,a,ad,s,_,rfl,S.same s1,fun l2 ts2 H2 s2 hn2 hl2 hE2=>?_⟩
  have s12:=s1.trans s2
  have hl1':=s2 _ _ hl1
  have hW2:=hW1.mono (TK.of s2)
  refine⟨_,_,s12 _ _ hp,by kernel_rfl,p,a,ad,s,_,rfl,S.same s12,?_⟩
  refine⟨l1,s.L,ts1,s.W,rfl,SqL.of hl1',hW2,tb.wnd,fun v hv=>(tb.wW v hv).1,by lia,tb.w0,g.ac,fun H3 s3=>⟨_,rfl,?_⟩⟩
  rw[if_neg (by decide)]
  refine⟨l2,s.L,ts2,s.E,rfl,SqL.of (s3 _ _ hl2),hE2.mono (TK.of s3),g.en,tb.eW,by lia,hl6,tb.e0,fun H4 s4=>⟨_,rfl,?_⟩⟩
  rw[if_neg (by decide)]
  have s24:=s3.trans s4
  have s14:=s12.trans s24
  have hl14:=s24 _ _ hl1'
  have hl24:=s24 _ _ hl2
  have hW4:=hW2.mono (TK.of s24)
  have hE4:=hE2.mono (TK.of s24)
  have ht4:=s14 _ _ ht
  refine⟨fun σ' H'=>∃(l:Addr) (zs:List V),Same H4 H'/\H' l=some (.lst zs)/\Am K H' zs (accX s x)/\σ'=[some (.ref p),some (.int s.L),some (.int s.most),some (.int n),some (.ref d),some (.ref l),some (.ref l2),some (.ref t),none,none,none],?_,fun σ' H' hh=>?_⟩
  ·cases x with
   |ask c=>exact absurd rfl (en.na c)
   |shown m ws=>exact absurd rfl (en.ns m ws)
   |done m ws=>
    have ht4:H4 t=some (.tup [.str ("done" : Str),.ref u]):=ht4
    walk_at "rd"
    refine⟨_,SqT.of ht4,_,rfl,rfl,?_⟩
    rw[if_neg (fun z=>absurd (V.str.inj z) (by decide +kernel))]
    exact⟨Same.refl _,l1,ts1,hl14,hW4,rfl⟩
   |spent c=>
    obtain⟨hWm,b,hb,y,ec⟩:=en.xs c rfl
    have hu4:H4 u=some (.tup (c.map V.int)):=s14 _ _ hu
    have ht4:H4 t=some (.tup [.str ("spent" : Str),.ref u]):=ht4
    walk_at "rd"
    refine⟨_,SqT.of ht4,_,rfl,rfl,?_⟩
    rw[if_pos rfl]
    refine⟨_,.inl (SqL.of hl14),?_⟩
    rw[if_neg (by rw[hW1.1,hWm];simp)]
    refine⟨_,SqT.of ht4,_,rfl,u,rfl,_,.inr (SqT.of hu4),?_⟩
    rw[if_neg (by rw[ec];simp;lia)]
    refine⟨_,SqT.of ht4,_,rfl,u,_,rfl,hu4,fun p5 H5 s5 hp5=>?_⟩
    rw[ec,XW]at hp5
    refine⟨p5,rfl,_,SqL.of (s5 _ _ hl14),b,s.W,hW4.mono (TK.of s5),SqT.of hp5,?_⟩
    rw[jR_ hb,if_neg (by decide)]
    refine⟨_,SqT.of (s5 _ _ ht4),_,rfl,by lia,fun p6 hp6=>?_⟩
    have a6:=Same.new hp6 (o:=.lst [V.ref u])
    have s6:=s5.trans a6
    refine⟨_,s6 _ _ hl14,_,Ab,by rw[hW1.1];simp;lia,fun p7 hp7=>?_⟩
    have s7:=s6.newT hp7 (o:=.lst (ts1++[V.ref u]))
    exact⟨s7,p7,_,Ab,(hW4.mono (TK.of s7)).snoc (s7 _ _ hu4),rfl⟩
  ·obtain⟨l,zs,s5,hl5,hZ,rfl⟩:=hh
   have s15:=s14.trans s5
   have hl25:=s5 _ _ hl24
   have hE5:=hE4.mono (TK.of s5)
   have hro:=en.ro
   have hxl:(accX s x).length<=13:=by
    cases x with
    |spent c=>show (s.W++[c]).length<=13;rw[jj_,jp_];lia
    |ask c=>show s.W.length<=13;lia
    |done c=>show s.W.length<=13;lia
    |shown c=>show s.W.length<=13;lia
   have hx0:1<=(accX s x).length:=by
    have h0:=(jc_.mp tb.w0).1
    cases x with
    |spent c=>show 1<=(s.W++[c]).length;rw[jj_,jp_];lia
    |ask c=>show 1<=s.W.length;lia
    |done c=>show 1<=s.W.length;lia
    |shown c=>show 1<=s.W.length;lia
   have hnn:=en.n
   have hnd:=en.nd
   generalize accX s x=Wx at hZ hro hxl hx0 hnn hnd
   walk_at "rd"
   refine⟨⟨_,SqL.of hl5⟩,Df_ (xs:=zs) (fun i us σ' H6=>Same H' H6/\Dz K H6 us ((Wx.take i).map (gOf s.E s.es))/\∃o,σ'=[o,some (.ref d),some (.ref l2)]) ⟨Same.refl _,⟨rfl,fun i w z=>by cases z⟩,none,rfl⟩ (by rw[hZ.1];lia) (fun i us σ' H6 hi h'=>⟨h'.1.seq (SqL.of hl5),by rw[h'.2.1.1,jb_,jx_];lia⟩) (fun i xv us σ' H6 hx h'=>?_) (fun us σ' H6 h' D hD=>?_)⟩
   ·obtain⟨s6,hR,o,rfl⟩:=h'
    obtain⟨tv,v,hvi,rfl,htv⟩:=hZ.at hx
    have hvW:=jf_ hvi
    have hv:=hro v hvW
    have s16:=s15.trans s6
    walk_at "rd"
    refine⟨d,tv,l2,s.es,v,ts2,s.E,rfl,s16 _ _ hd,tb.nd,s6 _ _ htv,SqL.of (s6 _ _ hl25),hE5.mono (TK.of s6),by lia,fun e he=>by have:=g.el e he;lia,by lia,fun e he=>full _ (B5.mpr ⟨v,hv.1,e,he,rfl⟩),fun l7 H7 s7 hl7 hl7'=>⟨s6.trans s7,?_,_,rfl⟩⟩
    rw[jD_,hvi,jn_]
    exact Dz.snoc59 (Dz.mono59 hR s7) hl7'
   obtain⟨s6,hR,o,rfl⟩:=h'
   rw[hZ.1,jO_]at hR
   have s6':=s6.newT hD (o:=.lst us)
   have hR1:=Dz.mono59 hR (Same.new hD (o:=.lst us))
   have hDs:upd H6 D (.lst us) D=some (.lst us):=Ab
   generalize upd H6 D (.lst us)=H7 at s6' hR1 hDs ⊢
   have hul:us.length=Wx.length:=by rw[hR1.1,jb_]
   refine⟨D,rfl,_,.inl (SqL.of hDs),by lia,by lia,?_⟩
   rw[hul,jB_]
   obtain⟨Pv,hPv⟩:∃Pv:Nat->St->Hp->Prop,∀i σ' H8,Pv i σ' H8↔(∃(o1:Option V),Same H7 H8/\σ'=[some (.ref p),some (.int s.L),some (.int s.most),some (.int n),some (.ref d),some (.ref l),some (.ref l2),some (.ref t),some (.ref D),o1,none]):=⟨_,fun _ _ _=>qG_⟩
   refine forR Pv ((hPv _ _ _).mpr ⟨none,Same.refl _,rfl⟩) (fun i σ' H8 hi h'=>?_) (fun σ' H8 h'=>?_)
   ·obtain⟨o1,s8,rfl⟩:=(hPv _ _ _).mp h'
    rw[q6_]
    have hwi:Wx[i]?=some Wx[i]:=by simp[hi]
    have hri:(Wx.map (gOf s.E s.es))[i]?=some (gOf s.E s.es Wx[i]):=by rw[ji_,hwi];rfl
    obtain⟨ti,hti,hgi⟩:=hR1.2 i _ hri
    have hnot:=Nm (l:=Wx.map (gOf s.E s.es)) (i:=i) (by rw[jb_];exact hi) hnd
    rw[x6_]at hnot
    walk_at "rd"
    refine⟨_,SqL.of (s8 _ _ hDs),_,Cq hti,ti,rfl,_,.inl (SqL.of (s8 _ _ hgi)),_,.inl (SqL.of (s8 _ _ (s6' _ _ hl25))),?_⟩
    rw[if_neg (by rw[jb_,Ic_,hE2.1];simp)]
    refine⟨_,SqL.of (s8 _ _ hDs),_,Cq hti,_,SqL.of (s8 _ _ hDs),fun p1 hp1=>⟨ti,rfl,_,SqL.of Ab,gOf s.E s.es Wx[i],(Wx.map (gOf s.E s.es)).take i,?_,SqL.of ((Same.new hp1) _ _ (s8 _ _ hgi)),?_⟩⟩
    ·rw[GH]
     exact Dz.take59 (Dz.mono59 hR1 (s8.newT hp1)) i
    rw[if_neg hnot]
    exact (hPv _ _ _).mpr ⟨_,s8.newT hp1,rfl⟩
   ·obtain⟨o1,s8,rfl⟩:=(hPv _ _ _).mp h'
    have s18:=s15.trans (s6'.trans s8)
    have hl8:=s8 _ _ (s6' _ _ hl5)
    walk_at "rd"
    have m1:Wx.length*s.L<=13*6:=j8_ hxl hl6
    have m2:(1+Wx.length*s.L)*(Wx.length+s.L)<=79*19:=j8_ s!"" s!""
    refine⟨_,.inl (SqL.of hl8),?_⟩
    rw[hZ.1]
    have c1:CMul (Wx.length:Int) (s.L:Int):=.inl ⟨by lia,by lia⟩
    have c2:CMul (1+(Wx.length:Int)*(s.L:Int)) ((Wx.length:Int)+(s.L:Int)):=by
     rw[show (Wx.length:Int)*(s.L:Int)=((Wx.length*s.L:Nat):Int) by push_cast;rfl]
     exact .inl ⟨by lia,by lia⟩
    refine⟨c1,c2,.inl ⟨by lia,by lia⟩,?_⟩
    have e3:(1+(Wx.length:Int)*(s.L:Int))*((Wx.length:Int)+(s.L:Int))+10*((Wx.length:Int)-1)=(((1+Wx.length*s.L)*(Wx.length+s.L)+10*(Wx.length-1):Nat):Int):=by
     rw[show ((Wx.length:Int)-1)=((Wx.length-1:Nat):Int) by lia]
     push_cast
     rfl
    rw[if_neg (by rw[e3];lia)]
    refine⟨_,_,s18 _ _ hp,by kernel_rfl,p,a,ad,s,_,rfl,S.same s18,fun l9 rs9 H9 s9 hn9 hl9 htr9=>?_⟩
    have hd9:=(s18.trans s9) _ _ hd
    refine⟨_,.inl hd9,fun vw hvw=>?_⟩
    have sv:=Same.new (o:=Yi vw d) hvw
    refine⟨d,Ab,_,.inl (sv _ _ hd9),fun l rs H10 s10 hl10 hlen hr=>?_⟩
    have s11:=sv.trans (s10.newT (o:=.lst rs) hl10)
    refine⟨l9,rfl,true,?_,k _ (s18.trans (s9.trans s11))⟩
    refine Hs.eq43 (n:=5) (htr9.mono fun b xs hb=>s11 _ _ hb) ⟨by rw[hlen];unfold ents;rw[jb_],fun i tr hi=>?_⟩ (s11 _ _ hl9) Ab
    obtain⟨t,e1,b,e2,e3⟩:=hr i (wkey tr.1) (.int tr.2) (by unfold ents;rw[ji_,hi];rfl)
    rw[Cj]at e3
    exact⟨t,b,e1,(Same.new hl10) _ _ e2,(s10.newT hl10) _ _ e3⟩
noncomputable def Fps (a:Addr)(ad:AD)(y:Addr):Prop:=y=a\/y=ad.d\/y=ad.pw\/y=ad.pe\/y=ad.pg
theorem Fps.next   {ad ad':AD}(n:¬ Fps a ad q)(o:AdOk H ad ad')(h:H q≠none):¬ Fps a ad' q:=by
 obtain⟨_,_,q3,q4,q5,q6⟩:=o
 rintro (z|z|z|z|z)
 ·exact n (.inl z)
 ·exact n (.inr (.inl (z.trans q3)))
 ·exact n (.inr (.inr (.inl (z.trans q4))))
 ·exact n (.inr (.inr (.inr (.inl (z.trans q5)))))
 ·rcases q6 with q6|q6
  ·exact n (.inr (.inr (.inr (.inr (z.trans q6)))))
  ·rw[z]at h;exact h q6
noncomputable def Fr2 (H H':Hp)(a:Addr)(ad:AD)(d st:Addr):Prop:=(∀x o,H x=some o->¬ Fps a ad x->x≠d->x≠st->H' x=some o)/\∀x,H' x=none->H x=none
theorem Fr2.frm   {ad:AD}(f:Frm H H' a ad)(d st:Addr):Fr2 H H' a ad d st:=⟨fun x o h n _ _=>f.1 x o h (fun z=>n (.inl z)) (fun z=>n (.inr (.inl z))) (fun z=>n (.inr (.inr (.inl z)))) (fun z=>n (.inr (.inr (.inr (.inl z))))) (fun z=>n (.inr (.inr (.inr (.inr z))))),f.2⟩
theorem Fr2.of  (s:Same H H')(a:Addr)(ad:AD)(d st:Addr):Fr2 H H' a ad d st:=⟨fun x o h _ _ _=>s _ _ h,fun x h=>s.none h⟩
theorem Fr2.seq {H H1 H2:Hp}  {ad ad1:AD}{d st:Addr}(f:Fr2 H H1 a ad d st)(k:AdOk H ad ad1)(g:Fr2 H1 H2 a ad1 d st):Fr2 H H2 a ad d st:=
 ⟨fun x o h n nd ns=>g.1 x o (f.1 x o h n nd ns) (Fps.next n k (by rw[h];simp)) nd ns,fun x h=>f.2 x (g.2 x h)⟩
theorem Fr2.put   {ad:AD}{d st y:Addr}  (h:y=d\/y=st)(hy:H y=some o):Fr2 H (upd H y o') a ad d st:=⟨fun x u hx _ nd ns=>by
 rw[Ag (fun z=>by rcases h with h|h;exact nd (z.trans h);exact ns (z.trans h))];exact hx,fun x hx=>by
 by_cases z:x=y
 ·rw[z,Ab]at hx;cases hx
 ·rwa [Ag z]at hx⟩
theorem AdOk.mono {H H1:Hp}{ad ad1:AD}(k:AdOk H1 ad ad1)(h:∀x,H1 x=none->H x=none):AdOk H ad ad1:=by
 obtain⟨k1,k2,k3,k4,k5,k6⟩:=k
 exact⟨k1,k2,k3,k4,k5,k6.imp id (h _)⟩
theorem AdOk.seq {H H1:Hp}{ad ad1 ad2:AD}(f:∀x,H1 x=none->H x=none)(k:AdOk H ad ad1)(g:AdOk H1 ad1 ad2):AdOk H ad ad2:=by
 obtain⟨k1,k2,k3,k4,k5,k6⟩:=k
 obtain⟨g1,g2,g3,g4,g5,g6⟩:=g
 refine⟨g1.trans k1,g2.trans k2,g3.trans k3,g4.trans k4,g5.trans k5,?_⟩
 rcases g6 with g6|g6
 ·rw[g6];exact k6
 ·exact .inr (f _ g6)
noncomputable def KP2 (P:Hp->Prop)(H:Hp)(a:Addr)(ad:AD)(d st:Addr):Prop:=∀H',Fr2 H H' a ad d st->P H'
theorem KP2.now {P:Hp->Prop}{H:Hp}{a:Addr}{ad:AD}{d st:Addr}(k:KP2 P H a ad d st):P H:=k H (Fr2.of (Same.refl _) a ad d st)
theorem KP2.next {P:Hp->Prop}{H H':Hp}{a:Addr}{ad ad':AD}{d st:Addr}(k:KP2 P H a ad d st)(f:Fr2 H H' a ad d st)(o:AdOk H ad ad'):KP2 P H' a ad' d st:=fun H2 f2=>k H2 (f.seq o f2)
theorem SAt.put59 {K:α3}    {ad:AD}  {wv:V}  (x:SAt K CS CA CB H p a ad s wv)(hd:H d=some (.dT kvs))(n:d≠ad.d):SAt K CS CA CB (upd H d (.dT kvs')) p a ad s wv:=by
 obtain⟨⟨dx,L,hp⟩,gv,rv,zs,ys,us,y⟩:=x
 have tk:TK H (upd H d (.dT kvs')):=fun t ts h=>by rw[Ag (fun z=>by rw[z,hd]at h;cases h)];exact h
 refine⟨⟨dx,L,by rw[Ag (fun z=>by rw[z,hd]at hp;cases hp)];exact hp⟩,gv,rv,zs,ys,us,y.keep (fun z o hz h=>?_) tk⟩
 rw[Ag fun e=>?_]
 ·exact hz
 ·subst e
  obtain⟨dx',hb⟩:=y.bk.ob
  rcases h with h|h|h|h|h|h
  ·have:=y.ob;rw[<-h,hd]at this;cases this
  ·rw[<-h,hd]at hb;cases hb
  ·exact n h
  ·have:=y.w;rw[<-h,hd]at this;cases this
  ·have:=y.e;rw[<-h,hd]at this;cases this
  ·have:=y.g;rw[<-h,hd]at this;cases this
theorem If_ {B:Nat}  (o:OkX none B s)  (g:GuessOk s.L s.W s.E s.es m ws)  (hv:isW s.L v=true)(hne:v ≠ []):0<=lsay m ws v/\lsay m ws v<=1000000000:=by
 have tb:=o.tb
 have hv0:0<v.length:=xk_.mpr hne
 obtain⟨k,k1,k2⟩:=P5 tb g hv (v.length-1)
 have hlt:v.length-1<v.length:=by lia
 have hx:=CG.mp hv _ (qw_ hlt)
 obtain⟨x,hxe⟩:∃x:Nat,v[v.length-1]=(x:Int):=⟨(v[v.length-1]).toNat,by lia⟩
 obtain⟨row,y,y1,y2,y3⟩:=g.m k _ x k2 s!""
 have e:lsay m ws v=LH m (FO ws (v.take (v.length-1))) (v.getD (v.length-1) 0):=by
  unfold lsay sayW
  rw[jq_,ji_,qy_ hlt];rfl
 have e2:lsay m ws v=y:=by
  rw[e,k1,jq_,jh_ hlt]
  show LH m (k:Int) v[v.length-1]=y
  rw[hxe,UN (by rw[show ((k:Int)).toNat=k by lia];exact y1) (by rw[show ((x:Int)).toNat=x by lia];exact y2)]
 rw[e2]
 exact (tb.bW _ (YF y3)).2
noncomputable def objF (c st:Int)(L n:Nat):α2:=(List.range n).map fun k:Nat=>(c / 5+(k:Int)*st)%(L:Int)
theorem Ff_ (c st:Int)(L n:Nat):(objF c st L n).length=n:=by unfold objF;rw[jb_,j4_]
theorem Jh_ (c st:Int)(n m:Nat){L:Nat}(l1:1<=L):isW (L:Int) (objF c st L n++List.replicate m 0)=true:=by
 refine CG.mpr fun x hx=>?_
 rcases jK_.mp hx with hx|hx
 ·unfold objF at hx
  obtain⟨k,_,rfl⟩:=jH_.mp hx
  exact⟨xR_ _ s!"",xS_ _ s!""⟩
 ·rw[(List.mem_replicate.mp hx).2];lia
structure Ob59 (s:AS)(mm ws:α1)(w:α2)(n:Int):Prop where
 wW:isW s.L w=true
 ne:w ≠ []
 wl:w.length<=6+s.es.length
 nw:w∉s.es.map (·.1)
 n0:0<=n
 n9:n<=1000000000
 un:lsay mm ws w≠n
noncomputable def Fg_ (K:α3)(CS CA CB:Addr):Sp:=fun vs H Q _=>∃(p q d a:Addr) (at_:Nat) (ns:α2) (ad:AD) (s:AS) (wv:V) (mm ws:α1),vs=[.ref p,.ref q,.int at_,.ref d]/\SAt K CS CA CB H p a ad s wv/\CL K H s.L wv (.shown mm ws)/\WOk 200 s (.shown mm ws)/\Bd 200 s/\s.es.length<=190/\SqL K H q (ns.map V.int)/\H d=some (.dT (ents s.es))/\d≠ad.d/\∀ad' H' s' x' wv' w n,Ob59 s mm ws w n->Goes {s with es:=s.es++[(w,n)]} s' x'->SAt K CS CA CB H' p a ad' s' wv'->CL K H' s.L wv' x'->(∀st,Fr2 H H' a ad d st)->AdOk H ad ad'->H' d=some (.dT (ents (s.es++[(w,n)])))->Q .non H'
theorem VI   (F:Fun K "_law_objects" "_law_objects" D0 f fd)(T:Txt mg)
  (W:Own K mg C_j7 C_j9 C_ji C_ja C_j1 C_j4)
  (Z:Exs K mg C_j8 C_j5 C_j6 C_j3 C_j2 C_j0)
   (BL:FnOk P w K mg base CX0 1 BV Cv ["script","k"] (VF K)) (Bv:Fun K "_law_cell" "_law_cell" DY BV Cv) (BN:Binds K Cv ["script","k"] []) (BO:mg "_law_cell"=some (.ref BV))
   (A1:FnOk P w K mg base CX0 2 AH Bj ["self"] (M4 K C_j4 C_j1 C_j7)) (BD:Fun K "wants" "SayAsker.wants" BB AH Bj) (A2:Binds K Bj ["self"] []) (A3:Meth K C_j4 "wants" AH)
   (Hw:FnOk P w K mg base CX0 1 ER Ic ["cell"] (VH)) (FH:Fun K "_law_mark" "_law_mark" Fg ER Ic) (Hx:Binds K Ic ["cell"] []) (Hy:mg "_law_mark"=some (.ref ER))
   (Ht:FnOk P w K mg base CX0 1 EO Ib ["house","word"] (DE_ K)) (FG:Fun K "_law_talk" "_law_talk" Fi EO Ib) (Hu:Binds K Ib ["house","word"] []) (Hv:mg "_law_talk"=some (.ref EO))
   (Hz:FnOk P w K mg base (CXe P w) 14 B2 JQ ["self","word","mark"] (Fa_ K C_j4 C_j1 C_j7 C_j3 C_j5 C_j6 C_j2 C_j0)) (FL:Fun K "differ" "SayAsker.differ" Cm B2 JQ) (HD:Binds K JQ ["self","word","mark"] []) (HE:Meth K C_j4 "differ" B2)
  : FnOk P w K mg base CX0 15 f fd ["asker","script","at","told"] (Fg_ K C_j4 C_j1 C_j7):=by
 refine F.ok Cr (fun vs H Q E h=>?_) (fun cdv A outer s H vs Q E hr h=>?_)
 ·obtain⟨p,q,d,a,at_,ns,ad,s,wv,mm,ws,rfl,_⟩:=h;rfl
 ·obtain⟨p,q,d,a,at_,ns,ad,s,wv,mm,ws,rfl,S,hw,ok,bd,hel,hq,hd,hdd,k⟩:=h
  obtain⟨⟨dx,L',hp⟩,_⟩:=id S
  have hl:=Aq
  obtain⟨ok0,hG,hwr,hgs,gu,hall⟩:=id ok
  have tb:=ok0.tb
  have wf:=tb.wf gu
  have hL1:=tb.l1
  have hL6:=tb.l6
  obtain⟨t,u,rfl,ht,hu⟩:=id hw
  have ht:H t=some (.tup [.str ("show" : Str),.ref u]):=ht
  have hu:HouT K H u s.L mm ws:=hu
  obtain⟨tm,tw,us,zs,hu1,hu2⟩:=id hu
  refine⟨_,(Ac (Kh (i:=4) Cr.nd rfl (Or.inr rfl) (Ar (ixTD AY) (AL (pvD 0) W.cl_j4 A3 A1 (hr.mono (by decide)) A2 .nil AM) Ah))
   (Ac (Kh (i:=5) Cr.nd rfl (Or.inr rfl) (Ax BL (hr.mono (by decide)) rfl BO Bv.kp BN .nil AM (Aa (pvD 1) (Aa (pvD 2) Ae))))
   (Ac (Kh (i:=6) Cr.nd rfl (Or.inr rfl) (Ax BL (hr.mono (by decide)) rfl BO Bv.kp BN .nil AM (Aa (pvD 1) (Aa (BS (opD0 Hb) (pvD 2) Ah) Ae))))
   (Ac (AW (i:=7) Cr.nd (Cg DA rfl T.tuple jE_ (Aa (KW rfl (Ki rfl) (cp:=Lq) ⟨⟨rfl,rfl⟩,⟨⟨rfl,rfl⟩,⟨⟨rfl,rfl⟩,True.intro⟩⟩⟩ (EU rfl T.range (Aa (BS (opD0 Hb) Ah (BS (opD IT) (BS (opD OK) (pvD 5) Ah) Ah)) Ae)) (fun _ _ _ _=>(Bl (i:=0) OO rfl (Or.inl rfl))) (fun _ _ _ _=>Ln) (fun _ _ _ _=>(BS (opD IT) (BS (opD0 Hb) (BS (opD OK) (pvD 2) Ah) (BS (opD OA) (pvD 0) (pvD 3))) (Ar (ixTD (Yd (K:=K) rfl)) (pvD 1) Ah)))) Ae)))
   (Ac (X2 jz_ (Gn_ (GQ_ (IU hr) (pvD 7) (pvD 3)))
   (Af (AW (i:=7) Cr.nd (BS Od (pvD 7) (F3 (Aa Ah Ae))))))
   (Ac (AW (i:=8) Cr.nd (Ar (ixLD Ci) (Ax Ht (hr.mono (by decide)) rfl Hv FG.kp Hu .nil AM (Aa (pvD 4) (Aa (pvD 7) Ae))) (Fm_ XC Ah)))
   (Ac (AW (i:=9) Cr.nd (Ax Hw (hr.mono (by decide)) rfl Hy FH.kp Hx .nil AM (Aa (Ax BL (hr.mono (by decide)) rfl BO Bv.kp BN .nil AM (Aa (pvD 1) (Aa (BS (opD0 Hb) (pvD 2) Ah) Ae))) Ae)))
   (Ac (KS (IU hr) (pvD 3) (pvD 7) (BS (opD IT) (BS (opD0 Hb) (BS (opD0 Hb) (pvD 8) Ah) (BS (opD IT) (pvD 9) Ah)) Ah) rfl)
   (Af (Bb (DU (pvD 0) W.cl_j4 HE Hz (hr.mono (by decide)) HD .nil (Rb (P:=P) (w:=w)) (Aa (pvD 7) (Aa (Mo (IU hr) (pvD 3) (pvD 7) (fun _ _=>rfl)) Ae))))))))))))),?_⟩
  walk_at "rd"
  refine⟨_,_,hp,by kernel_rfl,p,a,ad,s,_,rfl,S,?_⟩
  have c0:=xR_ (cell ns at_ / 7) (show (6:Int)≠0 by decide)
  have c1:=xS_ (cell ns at_ / 7) (show (0:Int)<6 by decide)
  obtain⟨n0,hn0⟩:∃n0:Nat,1+cell ns at_ / 7%6=(n0:Int):=⟨(1+cell ns at_ / 7%6).toNat,by lia⟩
  refine⟨t,rfl,_,SqT.of ht,_,rfl,q,ns,at_,rfl,hq,q,ns,at_+1,by push_cast;rfl,hq,_,rfl,by show CDiv _ _;unfold CDiv;lia,by decide,by lia,by lia,?_⟩
  rw[hn0,jB_]
  obtain⟨Pc,hPc⟩:∃Pc:Nat->List V->St->Hp->Prop,∀j us σ4 H4,Pc j us σ4 H4↔(H4=H/\us=(objF (cell ns at_) (cell ns (at_+1)) s.L j).map V.int/\∃o,σ4=[o,some (.ref u),some (.int (cell ns at_)),some (.int (cell ns (at_+1)))]):=⟨_,fun _ _ _ _=>qG_⟩
  refine II_ Pc ((hPc _ _ _ _).mpr ⟨rfl,rfl,none,rfl⟩) s!"" (fun j us σ4 H4 _ h4=>?_) (fun j us σ4 H4 hj h4=>?_) (fun us σ4 H4 h4 D hD=>?_)
  ·obtain⟨_,rfl,_⟩:=(hPc _ _ _ _).mp h4
   rw[jb_,Ff_];exact jl_ _
  ·obtain⟨rfl,rfl,o4,rfl⟩:=(hPc _ _ _ _).mp h4
   rw[q6_]
   walk_at "rd"
   refine⟨by show CDiv _ _;unfold CDiv;lia,.inl ⟨by lia,by lia⟩,_,SqT.of hu1,_,rfl,_,rfl,by lia,(hPc _ _ _ _).mpr ⟨rfl,?_,_,rfl⟩⟩
   unfold objF
   rw[qF_,jn_,jn_]
   rfl
  obtain⟨rfl,rfl,o4,rfl⟩:=(hPc _ _ _ _).mp h4
  have hwl:=Ff_ (cell ns at_) (cell ns (at_+1)) s.L n0
  have hwW:=fun m=>Jh_ (cell ns at_) (cell ns (at_+1)) n0 m hL1
  generalize objF (cell ns at_) (cell ns (at_+1)) s.L n0=v at hwl hwW hD ⊢
  refine⟨D,rfl,_,.inl ⟨SqL.of Ab,fun t1 ht1=>?_⟩⟩
  have s1:=(Same.new hD (o:=.lst (v.map V.int))).newT ht1 (o:=.tup (v.map V.int))
  have ht1':upd (upd H4 D (.lst (v.map V.int))) t1 (.tup (v.map V.int)) t1=some (.tup (v.map V.int)):=Ab
  generalize upd (upd H4 D (.lst (v.map V.int))) t1 (.tup (v.map V.int))=H1 at s1 ht1' ⊢
  obtain⟨Pv,hPv⟩:∃Pv:Nat->St->Hp->Prop,∀m σ' H',Pv m σ' H'↔(∃(n:Nat) (t2:Addr),Same H4 H'/\m=s.es.length+1-n/\n<=s.es.length/\(∀j,j<n->v++List.replicate j 0∈s.es.map (·.1))/\H' t2=some (.tup ((v++List.replicate n 0).map V.int))/\σ'=[some (.ref p),some (.ref q),some (.int at_),some (.ref d),some (.ref u),some (.int (cell ns at_)),some (.int (cell ns (at_+1))),some (.ref t2),none,none]):=⟨_,fun _ _ _=>qG_⟩
  refine Hc_ Pv ⟨_,(hPv _ _ _).mpr ⟨0,t1,s1,rfl,by lia,fun j hj=>absurd hj (Nat.not_lt_zero _),by simpa using ht1',rfl⟩⟩ fun m σ' H' h'=>?_
  obtain⟨n,t2,s2,hm,hn,hal,ht2,rfl⟩:=(hPv _ _ _).mp h'
  walk_at "rd"
  have ht2k:H' t2=some (.tup ((wkey (v++List.replicate n 0)).map kV)):=by rw[Cj];exact ht2
  refine⟨_,DGet.t (s2 _ _ hd) ht2k,?_⟩
  by_cases hin:v++List.replicate n 0∈s.es.map (·.1)
  ·have hsm:(valV (ents s.es) (wkey (v++List.replicate n 0))).isSome=true:=by
    obtain⟨e,he,ee⟩:=jH_.mp hin
    rw[<-ee,F6 tb.nd (show (e.1,e.2)∈s.es from he)];rfl
   rw[if_pos hsm]
   refine⟨fun σ2 H2=>∃m',m'<m/\Pv m' σ2 H2,fun _ _ z=>z,by lia,fun q3 hq3=>?_⟩
   have sq:=Same.new hq3 (o:=.tup [V.int 0])
   refine Kk.ofS (sq _ _ ht2) Ab (by simp;lia) fun t3 H3 s3 ht3=>?_
   have hall':∀j,j<n+1->v++List.replicate j 0∈s.es.map (·.1):=fun j hj=>by
    by_cases z:j<n
    ·exact hal j z
    ·rw[show j=n by lia];exact hin
   have hle:=LA_ hall'
   rw[jb_]at hle
   refine⟨s.es.length+1-(n+1),by lia,(hPv _ _ _).mpr ⟨n+1,t3,s2.trans (sq.trans s3),rfl,hle,hall',?_,rfl⟩⟩
   rw[ht3,List.replicate_succ',<-xY_]
   simp only[jn_,jQ_,zi_]
  ·rw[Ms hin,if_neg (by simp)]
   have hwv:=hwW n
   have hwl2:(v++List.replicate n 0).length=n0+n:=by rw[jj_,hwl,qm_]
   have hne:v++List.replicate n 0 ≠ []:=fun z=>by rw[z]at hwl2;simp at hwl2;lia
   generalize v++List.replicate n 0=w9 at hin hwv hwl2 hne ht2 ht2k
   have lr:=If_ ok0 gu hwv hne
   refine⟨u,t2,s.L,mm,ws,w9,rfl,(hu.mono (TK.of s2)).house,wf,SqT.of ht2,by lia,hwv,fun p5 H5 s5 hp5=>?_⟩
   have s25:=s2.trans s5
   refine⟨p5,rfl,_,SqL.of hp5,_,KG_ hne,q,ns,at_+2,by push_cast;rfl,s25.seq hq,cell ns (at_+2),rfl,_,rfl,_,rfl,by decide,by decide,?_⟩
   have mk:=Fd_ (cell ns (at_+2))
   obtain⟨n9,hn9,r0,r9,rne⟩:∃n9:Int,(lsay mm ws w9+1+DG_ (cell ns (at_+2))%1000000000)%1000000001=n9/\0<=n9/\n9<=1000000000/\lsay mm ws w9≠n9:=⟨_,rfl,by lia,by lia,by lia⟩
   rw[hn9]
   have hd5:=s25 _ _ hd
   have ht5:=s5 _ _ ht2
   have hlen:(ents s.es).length=s.es.length:=by unfold ents;rw[jb_]
   have S6:=(S.same s25).put59 hd5 hdd (kvs':=ents (s.es++[(w9,n9)]))
   have tk6:TK H5 (upd H5 d (.dT (ents (s.es++[(w9,n9)])))):=fun t ts h=>by rw[Ag (fun z=>by rw[z,hd5]at h;cases h)];exact h
   have hd6:upd H5 d (.dT (ents (s.es++[(w9,n9)]))) d=some (.dT (ents (s.es++[(w9,n9)]))):=Ab
   have ht6:=tk6 _ _ ht5
   have hw6:=(hw.mono (TK.of s25)).mono tk6
   have f6:∀st,Fr2 H4 (upd H5 d (.dT (ents (s.es++[(w9,n9)])))) a ad d st:=fun st=>(Fr2.of s25 a ad d st).seq (AdOk.refl _ _) (Fr2.put (.inl rfl) hd5)
   refine⟨_,DPut.t hd5 (s5 _ _ ht2k) s!"",?_⟩
   rw[UP hin]
   generalize upd H5 d (.dT (ents (s.es++[(w9,n9)])))=H6 at S6 tk6 hd6 ht6 hw6 f6 ⊢
   obtain⟨⟨dx6,L6,hp6⟩,_⟩:=id S6
   have nd6:((s.es++[(w9,n9)]).map (·.1)).Nodup:=by
    rw[jn_,qA_]
    exact⟨tb.nd,by simp,fun a ha b hb=>by rw[js_.mp hb];intro z;subst z;exact hin ha⟩
   have hval:valV (ents (s.es++[(w9,n9)])) (wkey w9)=some (.int n9):=F6 nd6 (by simp)
   refine⟨_,_,hp6,by kernel_rfl,_,by rw[<-hval];exact DGet.t hd6 (by rw[Cj];exact ht6),?_⟩
   refine⟨p,a,t2,ad,s,_,.shown mm ws,200,w9,n9,rfl,S6,hw6,ok,bd,by lia,ht6,by lia,fun z=>absurd rfl z,fun m' ws' e=>?_⟩
   cases e
   refine⟨fun z=>(by rcases z with z|z;exact absurd z hne;rw[hwv]at z;cases z),fun _ _ z=>absurd ⟨r0,r9⟩ z,fun _ _ _ _=>⟨fun z=>absurd z rne,fun _ z=>absurd z hin,fun _ _=>⟨by lia,fun ad' H' s' x' wv' go S' hw' f o=>?_⟩⟩⟩
   have hd':H' d=some (.dT (ents (s.es++[(w9,n9)]))):=by
    obtain⟨gv,rv,zs,ys,us,y⟩:=S6.2
    exact f.1 d _ hd6 (fun z=>by have:=y.ob;rw[<-z,hd6]at this;cases this) hdd (fun z=>by have:=y.w;rw[<-z,hd6]at this;cases this) (fun z=>by have:=y.e;rw[<-z,hd6]at this;cases this) (fun z=>by have:=y.g;rw[<-z,hd6]at this;cases this)
   exact k ad' H' s' x' wv' w9 n9 ⟨hwv,hne,by lia,hin,r0,r9,rne⟩ go S' hw' (fun st=>(f6 st).seq (AdOk.refl _ _) (Fr2.frm f d st)) (AdOk.mono o (f6 d).2) hd'
theorem WOk.okx {B:Nat}   (o:WOk B s x):∃y,OkX y B s:=by
 cases x with
 |ask c=>exact⟨_,o.1⟩
 |shown m ws=>exact⟨_,o.1⟩
 |done m ws=>exact⟨_,o.1⟩
 |spent c=>exact⟨_,o.1⟩
theorem J59.mono {A W0 E0:α1}{st st':Prop}  (j:J59 A W0 E0 st s)(h:st'->st):J59 A W0 E0 st' s:=⟨j.gc,j.n0,j.n1,j.ac,j.en,j.gw,j.ge,fun z=>j.gs (h z)⟩
structure Led59 (A W0 E0:α1)(n:Nat)(s:AS)(x:Wish):Prop where
 ok:WOk 200 s x
 j:J59 A W0 E0 (0<n/\∀m ws,x ≠ .done m ws) s
 jx:JX59 s x
 an:A.Nodup
 asub:∀c∈A,c∈s.es.map (·.1)
 el:s.es.length<=A.length+n
 nw:n<=W0.length
 sm:(s.L<=3/\s.most<=4)\/(s.L<=6/\s.most<=2)
section
variable {A W0 E0:α1} {n:Nat} {s:AS} {x:Wish}
theorem Led59.bd (l:Led59 A W0 E0 n s x):Bd 200 s:=by
 unfold Bd
 rcases l.sm with ⟨h1,h2⟩|⟨h1,h2⟩
 ·have:(s.most+1)*(s.most+s.L)<=5*7:=j8_ s!"" s!""
  lia
 ·have:(s.most+1)*(s.most+s.L)<=3*8:=j8_ s!"" s!""
  lia
theorem Led59.non (l:Led59 A W0 E0 n s x):nonA A s+10*s.L<=10*s.E.length+(if s.wr.isSome then 10 else 0):=by
 obtain⟨y,o⟩:=WOk.okx l.ok
 cases hw:s.wr with
 |none=>have:=l.j.n0 hw;simp;lia
 |some v=>
  obtain⟨_,_,_,_,m,ws,t,e1,_⟩:=o.wr v hw
  have:=l.j.n1 v m ws hw e1
  simp;lia
theorem Led59.few (l:Led59 A W0 E0 n s x):s.es.length<=190:=by
 obtain⟨y,o⟩:=WOk.okx l.ok
 have h1:=l.j.few o.tb.w0 l.an
 have h2:=l.non
 have h3:=o.tb.en
 have h4:=o.tb.wn
 have h5:=l.j.gw.length_le
 have h6:=l.nw
 have h7:=l.el
 have h8:(if s.wr.isSome then 10 else 0)<=10:=by split<;>lia
 rcases l.sm with ⟨h9,h10⟩|⟨h9,h10⟩
 ·have a1:s.W.length*s.L<=4*3:=j8_ s!"" h9
  have a2:(1+s.W.length*s.L)*s.E.length<=13*7:=j8_ s!"" s!""
  lia
 ·have a1:s.W.length*s.L<=2*6:=j8_ s!"" h9
  have a2:(1+s.W.length*s.L)*s.E.length<=13*8:=j8_ s!"" s!""
  lia
theorem Led59.g (l:Led59 A W0 E0 n s x):G59 s:=by
 obtain⟨y,o⟩:=WOk.okx l.ok
 have sz:=o.sz l.bd
 have:=l.few
 exact⟨o.tb,l.j.ac,l.j.en,sz.e.2,fun p hp=>⟨o.ne p hp,sz.b p hp⟩,by lia⟩
theorem Led59.ask     (l:Led59 A W0 E0 n s (.ask c))(h0:0<=m)(h9:m<=1000000000)(g:Goes {s with es:=s.es++[(c,m)]} s' y):Led59 (A++[c]) W0 E0 n s' y/\s'.es=s.es++[(c,m)]/\s'.L=s.L/\s'.most=s.most:=by
 obtain⟨okc,hn,hc,hlen,hg⟩:=id l.ok
 have hnk:c∉s.es.map (·.1):=fun z=>by
  obtain⟨q,hq⟩:=Vt.mp z
  rw[hn]at hq;cases hq
 have ok1:=okc.told (m:=m) (fun b hb=>(jt_ hb).symm) hnk hc h0 h9 hlen hg
 have hbd:=l.bd
 unfold Bd at hbd
 have j1:=J59.told (m:=m) okc s!"" l.j l.jx hnk
 obtain⟨ok2,kp⟩:=g.ok ok1
 obtain⟨j2,jx2⟩:=g.J59 ok1 j1
 have e:s'.es=s.es++[(c,m)]:=kp.e
 have eL:s'.L=s.L:=kp.l
 have em:s'.most=s.most:=kp.m
 refine⟨⟨ok2,j2.mono fun z=>⟨z.1,fun _ _ w=>by cases w⟩,jx2,?_,fun b hb=>?_,?_,l.nw,by rw[eL,em];exact l.sm⟩,e,eL,em⟩
 ·rw[qA_]
  exact⟨l.an,by simp,fun a ha b hb=>by rw[js_.mp hb];intro z;subst z;exact hnk (l.asub a ha)⟩
 ·rw[e,jn_]
  rcases jK_.mp hb with hb|hb
  ·exact j9_ _ (l.asub b hb)
  ·exact jU_ _ hb
 ·have:=l.el
  rw[e,jj_,jj_,jp_,jp_];lia
theorem Led59.show  (l:Led59 A W0 E0 n s (.shown mm ws)):Full s.L s.W s.E s.es/\E4 s.L s.W s.E s.es=none/\mm=Cb s.L s.W s.E s.es/\ws=EM s.L s.W s.E s.es/\(0<n->W0.length<s.W.length):=by
 obtain⟨ok0,hG,hwr,hgs,gu,hall⟩:=id l.ok
 obtain⟨hst,h1,h2⟩:=l.jx
 refine⟨ok0.full hG,hst,h1,h2,fun hn=>?_⟩
 obtain⟨np,_⟩:=ok0.tb.none (ok0.full hG) hst
 rcases l.j.gs ⟨hn,fun _ _ w=>by cases w⟩ with h|h|h
 ·exact h
 ·rw[hwr]at h;cases h
 ·exact absurd h np
theorem Led59.obj {mm ws:α1}{w:α2}{m:Int}{s':AS}{y:Wish}(l:Led59 A W0 E0 n s (.shown mm ws))(o:Ob59 s mm ws w m)(g:Goes {s with es:=s.es++[(w,m)]} s' y):Led59 A s.W s.E (n+1) s' y/\s'.es=s.es++[(w,m)]/\s'.L=s.L/\s'.most=s.most:=by
 obtain⟨ok0,hG,hwr,hgs,gu,hall⟩:=id l.ok
 have hf:=l.few
 have hwl:=o.wl
 have ok1:=ok0.told (m:=m) (fun b hb=>(by cases hb)) o.nw ⟨o.wW,o.ne⟩ o.n0 o.n9 s!"" (by rw[hG];simp)
 obtain⟨s2,g2,j2,e2⟩:=NA_ ok0 hG hwr l.j l.jx o.un g
 obtain⟨ok2,kp2,_⟩:=(OQ ok1).1 _ e2
 obtain⟨ok3,kp⟩:=g2.ok ok2
 have j2':J59 A s.W s.E (0<n+1/\∀m ws,y ≠ .done m ws) s2:=j2.mono fun _=>trivial
 obtain⟨j3,jx3⟩:=g2.J59 ok2 j2'
 have e:s'.es=s.es++[(w,m)]:=kp.e.trans kp2.e
 have eL:s'.L=s.L:=kp.l.trans kp2.l
 have em:s'.most=s.most:=kp.m.trans kp2.m
 obtain⟨_,_,_,_,hgr⟩:=l.show
 have hle:=l.j.gw.length_le
 have hnw:=l.nw
 have h0:=(jc_.mp ok0.tb.w0).1
 refine⟨⟨ok3,j3,jx3,l.an,fun b hb=>?_,?_,?_,by rw[eL,em];exact l.sm⟩,e,eL,em⟩
 ·rw[e,jn_]
  exact j9_ _ (l.asub b hb)
 ·have:=l.el
  rw[e,jj_,jp_];lia
 ·by_cases hn:0<n
  ·have:=hgr hn;lia
  ·lia
theorem Led59.agree  (l:Led59 A W0 E0 n s (.shown mm ws)):Led59 A s.W s.E (n+1) s (.done mm ws):=by
 obtain⟨ok0,hG,hwr,hgs,gu,hall⟩:=id l.ok
 obtain⟨_,_,_,_,hgr⟩:=l.show
 have hle:=l.j.gw.length_le
 have hnw:=l.nw
 have hel:=l.el
 have h0:=(jc_.mp ok0.tb.w0).1
 refine⟨l.ok,⟨l.j.gc,l.j.n0,l.j.n1,l.j.ac,l.j.en,xD_ _,xD_ _,fun z=>absurd rfl (z.2 mm ws)⟩,l.jx.1,l.an,l.asub,by lia,?_,l.sm⟩
 by_cases hn:0<n
 ·have:=hgr hn;lia
 ·lia
end
theorem Fr2.tk {K:α3}   {p a d st:Addr}{ad:AD}  {wv:V}   (f:Fr2 H H' a ad d st)(S:SAt K CS CA CB H p a ad s wv)(hd:H d=some (.dT kvs))(hs:H st=some (.lst xs)):TK H H':=fun t ts h=>by
 obtain⟨_,gv,rv,zs,ys,us,y⟩:=S
 refine f.1 t _ h (fun z=>?_) (fun z=>by rw[z,hd]at h;cases h) (fun z=>by rw[z,hs]at h;cases h)
 rcases z with z|z|z|z|z
 ·rw[z,y.ob]at h;cases h
 ·rw[z,y.bk.dc]at h;cases h
 ·rw[z,y.w]at h;cases h
 ·rw[z,y.e]at h;cases h
 ·rw[z,y.g]at h;cases h
theorem Qh.kp {K:α3}   {p a d st:Addr}{ad:AD}  {wv:V}   (S:SAt K CS CA CB H p a ad s wv)(hd:H d=some (.dT kvs))(hs:H st=some (.lst xs))    (ht:H t=some (.tup [.ref l1,.ref l2]))(h1:H l1=some (.lst zs))(hW:Am K H zs W)(h2:H l2=some (.lst ys))(hE:Am K H ys E)(n1:¬ Fps a ad l1)(n2:¬ Fps a ad l2)(s1:l1≠st)(s2:l2≠st):KP2 (fun H'=>Qh K H' t W E) H a ad d st:=fun H' f=>by
 have tk:=f.tk S hd hs
 exact⟨l1,l2,zs,ys,tk _ _ ht,f.1 _ _ h1 n1 (fun z=>by rw[z,hd]at h1;cases h1) s1,hW.mono tk,f.1 _ _ h2 n2 (fun z=>by rw[z,hd]at h2;cases h2) s2,hE.mono tk⟩
theorem SAt.out {K:α3}    {ad:AD}  {wv:V}(S:SAt K CS CA CB H p a ad s wv)(h:H l=none):¬ Fps a ad l:=by
 obtain⟨_,gv,rv,zs,ys,us,y⟩:=S
 rintro (z|z|z|z|z)
 ·rw[z,y.ob]at h;cases h
 ·rw[z,y.bk.dc]at h;cases h
 ·rw[z,y.w]at h;cases h
 ·rw[z,y.e]at h;cases h
 ·rw[z,y.g]at h;cases h
theorem SAt.outD {K:α3}    {ad:AD}  {wv:V}  (S:SAt K CS CA CB H p a ad s wv)(h:H d=some (.dT kvs))(n:d≠ad.d):¬ Fps a ad d:=by
 obtain⟨_,gv,rv,zs,ys,us,y⟩:=S
 rintro (z|z|z|z|z)
 ·rw[z,y.ob]at h;cases h
 ·exact n z
 ·rw[z,y.w]at h;cases h
 ·rw[z,y.e]at h;cases h
 ·rw[z,y.g]at h;cases h
theorem SAt.putL59 {K:α3}    {ad:AD}  {wv:V}  (x:SAt K CS CA CB H p a ad s wv)(hl:H l=some (.lst xs))(n:¬ Fps a ad l):SAt K CS CA CB (upd H l (.lst xs')) p a ad s wv:=by
 obtain⟨⟨dx,L,hp⟩,gv,rv,zs,ys,us,y⟩:=x
 have tk:TK H (upd H l (.lst xs')):=TK.lst hl
 refine⟨⟨dx,L,by rw[Ag (fun z=>by rw[z,hl]at hp;cases hp)];exact hp⟩,gv,rv,zs,ys,us,y.keep (fun z o hz h=>?_) tk⟩
 rw[Ag fun e=>?_]
 ·exact hz
 ·subst e
  obtain⟨dx',hb⟩:=y.bk.ob
  rcases h with h|h|h|h|h|h
  ·exact n (.inl h)
  ·rw[<-h,hl]at hb;cases hb
  ·exact n (.inr (.inl h))
  ·exact n (.inr (.inr (.inl h)))
  ·exact n (.inr (.inr (.inr (.inl h))))
  ·exact n (.inr (.inr (.inr (.inr h))))
noncomputable def XX (K:α3)(CS CA CB:Addr):Sp:=fun vs H Q _=>∃(p q st d a t0:Addr) (ns:α2) (hv:V) (ad:AD) (s:AS) (wv:V) (mm ws A W0 E0:α1) (n:Nat),vs=[.ref p,.int s.L,.ref q,.ref st,.ref d]/\SAt K CS CA CB H p a ad s wv/\CL K H s.L wv (.shown mm ws)/\Led59 A W0 E0 n s (.shown mm ws)/\KP2 (fun H'=>SqL K H' q (ns.map V.int)) H a ad d st/\ns.length<=63/\H st=some (.lst [.ref t0,.int n,hv])/\¬ Fps a ad st/\Qh K H t0 W0 E0/\H d=some (.dT (ents s.es))/\d≠ad.d /\
 (∀H' wv' t1 u,SAt K CS CA CB H' p a ad s wv'->CL K H' s.L wv' (.done mm ws)->HouT K H' u s.L mm ws->H' st=some (.lst [.ref t1,.int (n+1),.ref u])->KP2 (fun H'=>Qh K H' t1 s.W s.E) H' a ad d st->H' d=some (.dT (ents s.es))->Fr2 H H' a ad d st->Q (.bl true) H') /\
 (∀ad' H' s' x' wv' t1 w m,Ob59 s mm ws w m->Goes {s with es:=s.es++[(w,m)]} s' x'->SAt K CS CA CB H' p a ad' s' wv'->CL K H' s.L wv' x'->H' st=some (.lst [.ref t1,.int (n+1),hv])->KP2 (fun H'=>Qh K H' t1 s.W s.E) H' a ad' d st->H' d=some (.dT (ents (s.es++[(w,m)])))->Fr2 H H' a ad d st->AdOk H ad ad'->Q (.bl true) H')
theorem Y0   (F:Fun K "_law_shown" "_law_shown" Fj f fd)(T:Txt mg)
  (W:Own K mg C_j7 C_j9 C_ji C_ja C_j1 C_j4)
  (Z:Exs K mg C_j8 C_j5 C_j6 C_j3 C_j2 C_j0)
   (Az:FnOk P w K mg base CX0 2 Ao AJ ["self"] (Gb K C_j4 C_j1 C_j7 AS.W)) (A0:Fun K "access" "SayAsker.access" Bh Ao AJ) (AA:Binds K AJ ["self"] []) (AB:Meth K C_j4 "access" Ao)
   (Au:FnOk P w K mg base CX0 2 Al Ay ["self"] (Gb K C_j4 C_j1 C_j7 AS.E)) (AU:Fun K "tellers" "SayAsker.tellers" A5 Al Ay) (Av:Binds K Ay ["self"] []) (Aw:Meth K C_j4 "tellers" Al)
   (Be:FnOk P w K mg base CX0 3 AG Bi ["self"] (M6 K C_j4 C_j1 C_j7)) (BC:Fun K "heard" "SayAsker.heard" BA AG Bi) (Bf:Binds K Bi ["self"] []) (Bg:Meth K C_j4 "heard" AG)
   (BL:FnOk P w K mg base CX0 1 BV Cv ["script","k"] (VF K)) (Bv:Fun K "_law_cell" "_law_cell" DY BV Cv) (BN:Binds K Cv ["script","k"] []) (BO:mg "_law_cell"=some (.ref BV))
   (A1:FnOk P w K mg base CX0 2 AH Bj ["self"] (M4 K C_j4 C_j1 C_j7)) (BD:Fun K "wants" "SayAsker.wants" BB AH Bj) (A2:Binds K Bj ["self"] []) (A3:Meth K C_j4 "wants" AH)
   (GI:FnOk P w K mg base CX0 3 DT G8 ["kept","asker","strictly"] (YY K C_j4 C_j1 C_j7)) (EB:Fun K "_law_grows" "_law_grows" Er DT G8) (GJ:Binds K G8 ["kept","asker","strictly"] []) (GK:mg "_law_grows"=some (.ref DT))
   (Ir:FnOk P w K mg base (CXe P w) 3 Cf KA ["self"] (Bx_ K C_j4 C_j1 C_j7 C_j3)) (Gd:Fun K "agree" "SayAsker.agree" CJ Cf KA) (Iu:Binds K KA ["self"] []) (Iv:Meth K C_j4 "agree" Cf)
   (HG:FnOk P w K mg base CX0 5 Dd JR ["house","letters","asker","told"] (Id_ K C_j4 C_j1 C_j7)) (Eh:Fun K "_law_guess_good" "_law_guess_good" Ck Dd JR) (HH:Binds K JR ["house","letters","asker","told"] []) (HI:mg "_law_guess_good"=some (.ref Dd))
   (Ke:FnOk P w K mg base CX0 15 E3 Nn ["asker","script","at","told"] (Fg_ K C_j4 C_j1 C_j7)) (F5:Fun K "_law_objects" "_law_objects" D0 E3 Nn) (Kf:Binds K Nn ["asker","script","at","told"] []) (Kg:mg "_law_objects"=some (.ref E3))
  : FnOk P w K mg base CX0 16 f fd ["asker","letters","script","state","told"] (XX K C_j4 C_j1 C_j7):=by
 refine F.ok K3 (fun vs H Q E h=>?_) (fun cdv A outer s H vs Q E hr h=>?_)
 ·obtain⟨p,q,st,d,a,t0,ns,hv,ad,s,wv,mm,ws,A,W0,E0,n,rfl,_⟩:=h;rfl
 ·obtain⟨p,q,st,d,a,t0,ns,hv,ad,s,wv,mm,ws,A,W0,E0,n,rfl,S,hw,led,kq,hz,hst,nst,hk0,hd,hdd,kA,kO⟩:=h
  obtain⟨⟨dx,L',hp⟩,_⟩:=id S
  have hl:=Aq
  obtain⟨full,hstr,em,ew,hgr⟩:=led.show
  obtain⟨ok0,hG,hwr,hgs,gu,hall⟩:=id led.ok
  have tb:=ok0.tb
  have hwn:=tb.wn
  have hm12:=tb.m12
  have hen:=tb.en
  have hl6:=tb.l6
  have few:=led.few
  obtain⟨t,u,rfl,ht,hu⟩:=id hw
  have ht:H t=some (.tup [.str ("show" : Str),.ref u]):=ht
  have hu:HouT K H u s.L mm ws:=hu
  refine⟨_,(Ac (AW (i:=5) K3.nd (Ar (ixTD AY) (AL (pvD 0) W.cl_j4 A3 A1 (hr.mono (by decide)) A2 .nil AM) Ah))
   (Ac (Bb (U3 jI_ j2_ j3_ GO (AL (pvD 0) W.cl_j4 AB Az (hr.mono (by decide)) AA .nil AM) (Aa (F3 (Aa Ah Ae)) Ae)))
   (Ac (Bb (JG_ jI_ PySem.F.slot_list_clear PySem.F.type_list_clear Ew_ (AL (pvD 0) W.cl_j4 Aw Au (hr.mono (by decide)) Av .nil AM)))
   (Ac (Bb (JG_ jI_ PySem.F.slot_list_clear PySem.F.type_list_clear Ew_ (AL (pvD 0) W.cl_j4 Bg Be (hr.mono (by decide)) Bf .nil AM)))
   (Ac (B6 (PW.pt (Jz (ET (ptB (ES (Ax HG (hr.mono (by decide)) rfl HI Eh.kp HH .nil AM (Aa (pvD 5) (Aa (pvD 1) (Aa (pvD 0) (Aa (pvD 4) Ae)))))))) (GN (ET (ptB (ES (Ax GI (hr.mono (by decide)) rfl GK EB.kp GJ .nil AM (Aa (Ar (ixLD Ci) (pvD 3) Ah) (Aa (pvD 0) (Aa (JX (opD0 Gz_) (Ar (ixLD Ci) (pvD 3) Ah) Ah (AZ _)) Ae))))))))))
   (Af (An Ej))
   AK)
   (Ac (Gq_ (F3 (Aa (AL (pvD 0) W.cl_j4 AB Az (hr.mono (by decide)) AA .nil AM) (Aa (AL (pvD 0) W.cl_j4 Aw Au (hr.mono (by decide)) Av .nil AM) Ae))) (Gp_ (pvD 3) Ah set_list))
   (Ac (Gq_ (BS (opD0 Hb) (Ar (ixLD Ci) (pvD 3) Ah) Ah) (Gp_ (pvD 3) Ah set_list))
   (Ac (AW (i:=6) K3.nd (AF (AM_ rfl) rfl T.max PyProof.Rows.boot_max (Aa Ah (Aa (BS (opD0 AL_) (AF (lenD Aj) (by rfl) T.len jv_ (Aa (pvD 2) Ae)) (BS (opD OA) Ah (Ar (ixLD Ci) (pvD 3) Ah))) Ae))))
   (GY_ (B6 (ptT (AE (opE KQ) (BS (opD IT) (Ax BL (hr.mono (by decide)) rfl BO Bv.kp BN .nil AM (Aa (pvD 2) (Aa (pvD 6) Ae))) Ah) Ah (AZ _)))
   (Ac (Gq_ (pvD 5) (Gp_ (pvD 3) Ah set_list))
   (Af (Bb (AL (pvD 0) W.cl_j4 Iv Ir (hr.mono (by decide)) Iu .nil (Rb (P:=P) (w:=w))))))
   (Af (Bb (Ax Ke (hr.mono (by decide)) rfl Kg F5.kp Kf .nil AM (Aa (pvD 0) (Aa (pvD 2) (Aa (pvD 6) (Aa (pvD 4) Ae))))))))
   (Af (An Ej))))))))))),?_⟩
  walk_at "rd"
  refine⟨_,_,hp,by kernel_rfl,p,a,ad,s,_,rfl,S,t,rfl,_,SqT.of ht,_,rfl,?_⟩
  refine⟨_,_,hp,by kernel_rfl,p,a,ad,s,_,rfl,S,fun l1 ts1 H1 s1 hn1 hl1 hW1=>?_⟩
  refine⟨.inl ⟨rfl,_,SqL.of hl1⟩,by lia,fun p2 hp2=>⟨l1,rfl,_,(Same.new hp2) _ _ hl1,by rw[hW1.1];lia,?_⟩⟩
  have s2:Same H (upd (upd H1 p2 (.tup [V.int 0])) l1 (.lst (ts1++[V.ref p2]))):=(s1.newT hp2).over hn1
  generalize upd (upd H1 p2 (.tup [V.int 0])) l1 (.lst (ts1++[V.ref p2]))=H2 at s2 ⊢
  clear hl1 hW1 hp2 s1 hn1
  refine⟨_,_,s2 _ _ hp,by kernel_rfl,p,a,ad,s,_,rfl,S.same s2,fun l3 ts3 H3 s3 hn3 hl3 _=>⟨.inl ⟨rfl,_,SqL.of hl3⟩,l3,rfl,_,hl3,?_⟩⟩
  have s4:Same H (upd H3 l3 (.lst [])):=(s2.trans s3).over (s2.none hn3)
  generalize upd H3 l3 (.lst [])=H4 at s4 ⊢
  clear hl3 hn3 s3 s2
  refine⟨_,_,s4 _ _ hp,by kernel_rfl,p,a,ad,s,_,rfl,S.same s4,fun l5 ts5 H5 s5 hn5 hl5 _=>⟨.inl ⟨rfl,_,SqL.of hl5⟩,l5,rfl,_,hl5,?_⟩⟩
  have s6:Same H (upd H5 l5 (.lst [])):=(s4.trans s5).over (s4.none hn5)
  generalize upd H5 l5 (.lst [])=H6 at s6 ⊢
  clear hl5 hn5 s5 s4
  have hu':HouT K H u s.L (Cb s.L s.W s.E s.es) (EM s.L s.W s.E s.es):=by rw[<-em,<-ew];exact hu
  refine⟨u,p,d,a,ad,s,_,rfl,S.same s6,hu'.mono (TK.of s6),led.g,full,hstr,fun e he=>by rw[<-em,<-ew];exact hall e he,s6 _ _ hd,fun H7 s7=>⟨_,rfl,?_⟩⟩
  rw[if_neg (by decide)]
  have s17:=s6.trans s7
  obtain⟨kp,kq',zs0,ys0,k1,k2,k3,k4,k5⟩:=hk0
  refine⟨_,SqL.of (s17 _ _ hst),_,rfl,_,SqL.of (s17 _ _ hst),_,rfl,_,rfl,?_⟩
  refine⟨t0,p,a,ad,s,_,W0,E0,_,rfl,S.same s17,⟨kp,kq',zs0,ys0,s17 _ _ k1,s17 _ _ k2,k3.mono (TK.of s17),s17 _ _ k4,k5.mono (TK.of s17)⟩,led.j.gw,led.j.ge,fun z=>hgr (by have:=xg_ z;lia),by lia,by lia,fun H8 s8=>⟨_,rfl,?_⟩⟩
  rw[if_neg (by decide)]
  have s18:=s17.trans s8
  refine⟨_,_,s18 _ _ hp,by kernel_rfl,p,a,ad,s,_,rfl,S.same s18,fun l9 ts9 H9 s9 hn9 hl9 hW9=>?_⟩
  have s19:=s18.trans s9
  refine⟨_,_,s19 _ _ hp,by kernel_rfl,p,a,ad,s,_,rfl,S.same s19,fun l10 ts10 H10 s10 hn10 hl10 hE10=>⟨by lia,fun t1 ht1=>?_⟩⟩
  have a10:=s10.newT ht1 (o:=.tup [V.ref l9,V.ref l10])
  have s110:=s19.trans a10
  have hst10:=s110 _ _ hst
  have hd10:=s110 _ _ hd
  have S10:=S.same s110
  have hl9':=a10 _ _ hl9
  have hl10':=(Same.new ht1 (o:=.tup [V.ref l9,V.ref l10])) _ _ hl10
  have hW10:=hW9.mono (TK.of a10)
  have hE10':=hE10.mono (TK.new ht1 (o:=.tup [V.ref l9,V.ref l10]))
  have ht1':upd H10 t1 (.tup [V.ref l9,V.ref l10]) t1=some (.tup [V.ref l9,V.ref l10]):=Ab
  have o9:=S.out (s18.none hn9)
  have o10:=S.out (s19.none hn10)
  have ns9:l9≠st:=fun z=>by have:=s18.none hn9;rw[z,hst]at this;cases this
  have ns10:l10≠st:=fun z=>by have:=s19.none hn10;rw[z,hst]at this;cases this
  generalize upd H10 t1 (.tup [V.ref l9,V.ref l10])=H11 at a10 s110 hst10 hd10 S10 hl9' hl10' hW10 hE10' ht1' ⊢
  refine⟨_,hst10,0,rfl,?_⟩
  refine⟨_,SqL.of Ab,_,rfl,_,rfl,_,Ab,1,rfl,?_⟩
  have eupd:∀(xs ys:List V),upd (upd H11 st (.lst xs)) st (.lst ys)=upd H11 st (.lst ys):=fun xs ys=>by
   funext x
   by_cases z:x=st
   ·rw[z,Ab,Ab]
   ·rw[Ag z,Ag z,Ag z]
  rw[eupd]
  have f12:Fr2 H (upd H11 st (.lst [V.ref t1,V.int ((n:Int)+1),hv])) a ad d st:=(Fr2.of s110 a ad d st).seq (AdOk.refl _ _) (Fr2.put (.inr rfl) hst10)
  have S12:=S10.putL59 hst10 nst (xs':=[V.ref t1,V.int ((n:Int)+1),hv])
  have tk12:TK H11 (upd H11 st (.lst [V.ref t1,V.int ((n:Int)+1),hv])):=TK.lst hst10
  have hst12:upd H11 st (.lst [V.ref t1,V.int ((n:Int)+1),hv]) st=some (.lst [V.ref t1,V.int ((n:Int)+1),hv]):=Ab
  have hd12:upd H11 st (.lst [V.ref t1,V.int ((n:Int)+1),hv]) d=some (.dT (ents s.es)):=by rw[Ag (fun z=>by rw[z,hst10]at hd10;cases hd10)];exact hd10
  have kk12:=Qh.kp S12 hd12 hst12 (tk12 _ _ ht1') (by rw[Ag ns9];exact hl9') (hW10.mono tk12) (by rw[Ag ns10];exact hl10') (hE10'.mono tk12) o9 o10 ns9 ns10
  have hw12:=(hw.mono (TK.of s110)).mono tk12
  have hu12:=(hu.mono (TK.of s110)).mono tk12
  have kq12:=kq.next f12 (AdOk.refl _ _)
  rw[show ([V.ref t0,V.int (n:Int),hv].set 0 (V.ref t1)).set 1 (V.int ((n:Int)+1))=[V.ref t1,V.int ((n:Int)+1),hv] from rfl]
  generalize upd H11 st (.lst [V.ref t1,V.int ((n:Int)+1),hv])=H12 at f12 S12 tk12 hst12 hd12 kk12 hw12 hu12 kq12 ⊢
  refine⟨_,.inl kq12.now,_,SqL.of hst12,_,rfl,_,rfl,.inl ⟨by lia,by lia⟩,?_⟩
  rw[jb_]
  obtain⟨at_,hat,hat6⟩:∃at_:Nat,(if (ns.length:Int)-3*((n:Int)+1) > 0 then (ns.length:Int)-3*((n:Int)+1) else 0)=(at_:Int)/\at_<=63:=⟨((if (ns.length:Int)-3*((n:Int)+1) > 0 then (ns.length:Int)-3*((n:Int)+1) else 0)).toNat,by split<;>lia,by split<;>lia⟩
  rw[hat]
  refine⟨fun σ' H'=>Q (.bl true) H',?_,fun σ' H' hh=>hh⟩
  obtain⟨⟨dx12,L12,hp12⟩,_⟩:=id S12
  walk_at "rd"
  refine⟨q,ns,at_,rfl,kq12.now,_,rfl,by decide,?_⟩
  by_cases hc:cell ns at_%5=4
  ·rw[if_pos hc]
   have S13:=S12.putL59 hst12 nst (xs':=[V.ref t1,V.int ((n:Int)+1),V.ref u])
   have tk13:TK H12 (upd H12 st (.lst [V.ref t1,V.int ((n:Int)+1),V.ref u])):=TK.lst hst12
   have hst13:upd H12 st (.lst [V.ref t1,V.int ((n:Int)+1),V.ref u]) st=some (.lst [V.ref t1,V.int ((n:Int)+1),V.ref u]):=Ab
   have hd13:upd H12 st (.lst [V.ref t1,V.int ((n:Int)+1),V.ref u]) d=some (.dT (ents s.es)):=by rw[Ag (fun z=>by rw[z,hst12]at hd12;cases hd12)];exact hd12
   have f13:Fr2 H12 (upd H12 st (.lst [V.ref t1,V.int ((n:Int)+1),V.ref u])) a ad d st:=Fr2.put (.inr rfl) hst12
   have kk13:=kk12.next f13 (AdOk.refl _ _)
   refine⟨_,hst12,2,rfl,?_⟩
   rw[show [V.ref t1,V.int ((n:Int)+1),hv].set 2 (V.ref u)=[V.ref t1,V.int ((n:Int)+1),V.ref u] from rfl]
   have hw13:=hw12.mono tk13
   have hu13:=hu12.mono tk13
   generalize upd H12 st (.lst [V.ref t1,V.int ((n:Int)+1),V.ref u])=H13 at S13 tk13 hst13 hd13 f13 kk13 hw13 hu13 ⊢
   obtain⟨⟨dx13,L13,hp13⟩,_⟩:=id S13
   refine⟨_,_,hp13,by kernel_rfl,p,a,ad,s,_,_,rfl,S13,hw13,fun z=>absurd rfl z,fun mm' ws' e H' wv' S' hw' f=>?_⟩
   cases e
   have f2:=Fr2.frm f d st
   have tkf:=f2.tk S13 hd13 hst13
   have hf:∀x o,H13 x=some o->¬ Fps a ad x->H' x=some o:=fun x o hx nx=>f.1 x o hx (fun z=>nx (.inl z)) (fun z=>nx (.inr (.inl z))) (fun z=>nx (.inr (.inr (.inl z)))) (fun z=>nx (.inr (.inr (.inr (.inl z))))) (fun z=>nx (.inr (.inr (.inr (.inr z)))))
   exact kA H' wv' t1 u S' hw' (hu13.mono tkf) (hf _ _ hst13 nst) (kk13.next f2 (AdOk.refl _ _)) (hf _ _ hd13 (S13.outD hd13 hdd)) ((f12.seq (AdOk.refl _ _) f13).seq (AdOk.refl _ _) f2)
  ·rw[if_neg hc]
   refine⟨p,q,d,a,at_,ns,ad,s,_,mm,ws,rfl,S12,hw12,led.ok,led.bd,few,kq12.now,hd12,hdd,fun ad' H' s' x' wv' w m ob go S' hw' f o hd'=>?_⟩
   have nn:d≠st:=fun z=>by rw[z,hst12]at hd12;cases hd12
   exact kO ad' H' s' x' wv' t1 w m ob go S' hw' ((f d).1 _ _ hst12 nst (qj_ nn) (qj_ nn)) (kk12.next (f st) o) hd' (f12.seq (AdOk.refl _ _) (f st)) (AdOk.mono o f12.2)
theorem BD_   (h:EV s=(s',some (.done m ws))):False:=by
 unfold EV P4 Jd at h
 repeat' split at h
 all_goals cases h
theorem Goes.notDone   (g:Goes s s' (.done m ws)):False:=by
 generalize hx:Wish.done m ws=x at g
 induction g with
 |stop h=>subst hx;exact BD_ h
 |more h _ ih=>exact ih hx
theorem Led59.end {A W0 E0:α1}    (l:Led59 A W0 E0 n s x)(na:∀c,x ≠ .ask c)(ns:∀m ws,x ≠ .shown m ws):End59 s x A.length:=by
 have g:=l.g
 have tb:=g.tb
 have few:=l.j.few tb.w0 l.an
 have non:=l.non
 have h0:=(jc_.mp tb.w0).1
 have hwn:=tb.wn
 have hm:=tb.m12
 cases x with
 |ask c=>exact absurd rfl (na c)
 |shown m ws=>exact absurd rfl (ns m ws)
 |done m ws=>
  obtain⟨ok0,hG,hwr,_⟩:=id l.ok
  have full:=ok0.full hG
  obtain⟨np,_⟩:=tb.none full l.jx
  have hE:s.E.length+1<=s.W.length+s.L:=by
   rcases tb.jj with h|h
   ·exact h
   ·exact absurd h.2 np
  rw[hwr]at non
  simp at non
  refine⟨g,full,tb.nodup full,fun v hv=>⟨AV.mpr (.inl hv),by have:=(tb.wW v hv).2;lia⟩,fun c z=>(by cases z),na,ns,?_⟩
  show A.length<=(1+s.W.length*s.L)*(s.W.length+s.L)+10*(s.W.length-1)
  have m1:(1+s.W.length*s.L)*s.E.length<=(1+s.W.length*s.L)*(s.W.length+s.L):=zg_ _ s!""
  lia
 |spent c=>
  obtain⟨ok0,hG,hwr,hWm,hcr,hcW,hcw,hcl,hap⟩:=id l.ok
  have full:=ok0.full hG
  have hE:s.E.length<=s.W.length+s.L:=by
   rcases tb.jj with h|h
   ·lia
   ·lia
  rw[hwr]at non
  simp at non
  refine⟨g,full,?_,fun v hv=>?_,fun c' z=>?_,na,ns,?_⟩
  ·show ((s.W++[c]).map (gOf s.E s.es)).Nodup
   rw[jn_,qA_]
   refine⟨tb.nodup full,by simp,fun a ha b hb z=>?_⟩
   rw[qr_,js_]at hb
   obtain⟨u,hu,rfl⟩:=jH_.mp ha
   exact (MO full hcr (AV.mpr (.inl hu))).mpr (hap u hu) (z.trans hb).symm
  ·have hv:v∈s.W++[c]:=hv
   rcases jK_.mp hv with hv|hv
   ·exact⟨AV.mpr (.inl hv),by have:=(tb.wW v hv).2;lia⟩
   ·rw[js_.mp hv];exact⟨hcr,by lia⟩
  ·cases z
   refine⟨hWm,?_⟩
   rcases AV.mp hcr with h|⟨a,ha,y,hy,e⟩
   ·exact absurd h hcW
   ·exact⟨a,ha,y,e⟩
  ·show A.length<=(1+(s.W++[c]).length*s.L)*((s.W++[c]).length+s.L)+10*((s.W++[c]).length-1)
   rw[jj_,jp_]
   have m0:s.W.length*s.L<=(s.W.length+1)*s.L:=Nat.mul_le_mul_right _ s!""
   have m1:(1+s.W.length*s.L)*s.E.length<=(1+(s.W.length+1)*s.L)*(s.W.length+1+s.L):=j8_ s!"" s!""
   lia
noncomputable def BE_ (K:α3)(CS CA CB:Addr):Sp:=fun vs H Q _=>∃(p q st a t0:Addr) (ns:α2) (ad:AD) (s:AS) (wv:V) (x:Wish),vs=[.ref p,.int s.L,.int s.most,.ref q,.ref st]/\SAt K CS CA CB H p a ad s wv/\CL K H s.L wv x/\Led59 [] [[]] [] 0 s x/\s.es=[]/\(∀m ws,x ≠ .done m ws)/\(∀d,H d=none->KP2 (fun H'=>SqL K H' q (ns.map V.int)) H a ad d st)/\ns.length<=63/\H st=some (.lst [.ref t0,.int 0,.non])/\¬ Fps a ad st/\(∀d,H d=none->KP2 (fun H'=>Qh K H' t0 [[]] []) H a ad d st)/\∀H',(∀x o,H x=some o->¬ Fps a ad x->x≠st->H' x=some o)->Q (.bl true) H'
theorem BF_   (F:Fun K "_law_hunt" "_law_hunt" Gi f fd)(T:Txt mg)
  (W:Own K mg C_j7 C_j9 C_ji C_ja C_j1 C_j4)
  (Z:Exs K mg C_j8 C_j5 C_j6 C_j3 C_j2 C_j0)
   (A1:FnOk P w K mg base CX0 2 AH Bj ["self"] (M4 K C_j4 C_j1 C_j7)) (BD:Fun K "wants" "SayAsker.wants" BB AH Bj) (A2:Binds K Bj ["self"] []) (A3:Meth K C_j4 "wants" AH)
   (Jm:FnOk P w K mg base (CXe P w) 14 Cw Lw ["self","mark"] (EZ_ K C_j4 C_j1 C_j7 C_j3 C_j6)) (G9:Fun K "hear" "SayAsker.hear" Dh Cw Lw) (Jn:Binds K Lw ["self","mark"] []) (Jo:Meth K C_j4 "hear" Cw)
   (RP:FnOk P w K mg base CX0 2 IS VJ ["script","k"] (Fc_ K)) (KC:Fun K "_law_big" "_law_big" Hr IS VJ) (RQ:Binds K VJ ["script","k"] []) (RS:mg "_law_big"=some (.ref IS))
   (Hw:FnOk P w K mg base CX0 1 ER Ic ["cell"] (VH)) (FH:Fun K "_law_mark" "_law_mark" Fg ER Ic) (Hx:Binds K Ic ["cell"] []) (Hy:mg "_law_mark"=some (.ref ER))
   (GI:FnOk P w K mg base CX0 3 DT G8 ["kept","asker","strictly"] (YY K C_j4 C_j1 C_j7)) (EB:Fun K "_law_grows" "_law_grows" Er DT G8) (GJ:Binds K G8 ["kept","asker","strictly"] []) (GK:mg "_law_grows"=some (.ref DT))
   (Iw:FnOk P w K mg base CX0 3 Dy KD ["wish","letters","told"] (BC_ K)) (EX:Fun K "_law_wish_good" "_law_wish_good" CI Dy KD) (Iy:Binds K KD ["wish","letters","told"] []) (Iz:mg "_law_wish_good"=some (.ref Dy))
   (Jp:FnOk P w K mg base CX0 5 Ei Lx ["asker","letters","most","asked","told"] (Ie_ K C_j4 C_j1 C_j7)) (FJ:Fun K "_law_end_good" "_law_end_good" Di Ei Lx) (Jq:Binds K Lx ["asker","letters","most","asked","told"] []) (Jr:mg "_law_end_good"=some (.ref Ei))
   (Np:FnOk P w K mg base CX0 16 GL Qi ["asker","letters","script","state","told"] (XX K C_j4 C_j1 C_j7)) (Ie:Fun K "_law_shown" "_law_shown" Fj GL Qi) (Nq:Binds K Qi ["asker","letters","script","state","told"] []) (Nr:mg "_law_shown"=some (.ref GL))
  : FnOk P w K mg base CX0 17 f fd ["asker","letters","most","script","state"] (BE_ K C_j4 C_j1 C_j7):=by
 refine F.ok Gq (fun vs H Q E h=>?_) (fun cdv A outer s H vs Q E hr h=>?_)
 ·obtain⟨p,q,st,a,t0,ns,ad,s,wv,x,rfl,_⟩:=h;rfl
 ·obtain⟨p,q,st,a,t0,ns,ad,s,wv,x,rfl,S,hw,led,hes,hnd,kq,hz,hst,nst,kk,k⟩:=h
  have hl:=Aq
  refine⟨_,(Ac (Kh (i:=5) Gq.nd rfl (Or.inl rfl) KU)
   (Ac (AW (i:=6) Gq.nd Ah)
   (Ac (E6 jz_ rfl (EU rfl T.range (Aa Ah Ae)) (Bl (i:=7) Gq.nd rfl (Or.inl rfl))
   (Ac (AW (i:=8) Gq.nd (AL (pvD 0) W.cl_j4 A3 A1 (hr.mono (by decide)) A2 .nil AM))
   (Ac (B6 (PW.pt (Jz (ET (ptB (ES (Ax Iw (hr.mono (by decide)) rfl Iz EX.kp Iy .nil AM (Aa (pvD 8) (Aa (pvD 1) (Aa (pvD 5) Ae))))))) (GN (ptT (AE (Bb_ 8 (hu9 hr)) (AL (pvD 0) W.cl_j4 A3 A1 (hr.mono (by decide)) A2 .nil AM) (pvD 8) (AZ _))))))
   (Af (An Ej))
   AK)
   (Af (B6 (ptT (AE (opE KQ) (Ar (ixTD AY) (pvD 8) Ah) Ek (AZ _)))
   (Ac (KS (IU hr) (pvD 5) (Ar (ixTD AY) (pvD 8) Ah) (Ax Hw (hr.mono (by decide)) rfl Hy FH.kp Hx .nil AM (Aa (Ax RP (hr.mono (by decide)) rfl RS KC.kp RQ .nil AM (Aa (pvD 3) (Aa (BS (opD0 Hb) Ah (pvD 6)) Ae))) Ae)) rfl)
   (Ac (AW (i:=6) Gq.nd (BS (opD0 Hb) (pvD 6) Ah))
   (Af (Bb (DU (pvD 0) W.cl_j4 Jo Jm (hr.mono (by decide)) Jn .nil (Rb (P:=P) (w:=w)) (Aa (Mo (IU hr) (pvD 5) (Ar (ixTD AY) (pvD 8) Ah) (fun _ _=>rfl)) Ae))))))
   (Af (B6 (ptT (AE (opE KQ) (Ar (ixTD AY) (pvD 8) Ah) Ek (AZ _)))
   (Af (B6 (ET (ptB (ES (Ax Np (hr.mono (by decide)) rfl Nr Ie.kp Nq .nil AM (Aa (pvD 0) (Aa (pvD 1) (Aa (pvD 3) (Aa (pvD 4) (Aa (pvD 5) Ae)))))))))
   (Af (An Ej))
   AK))
   (Ac (B6 (PW.pt (Jz_ (ptT (AE (opE KQ) (Ar (ixTD AY) (pvD 8) Ah) Ek (AZ _))) (Go_ (ptT (AE (Bb_ 8 (hu9 hr)) (Ar (ixTD AY) (pvD 8) Ah) (Ar (ixLD Ci) (pvD 4) Ah) (AZ _))))))
   (Af (An Ej))
   AK)
   (Ac (B6 (PW.pt (Jz_ (ptT (AE (opE KQ) (Ar (ixTD AY) (pvD 8) Ah) Ek (AZ _))) (Go_ (ptT (AE GA_ (Ar (ixLD Ci) (pvD 4) Ah) Gk (AZ _))))))
   (Af (An Ej))
   AK)
   (Af (An (Ep_ (Ax GI (hr.mono (by decide)) rfl GK EB.kp GJ .nil AM (Aa (Ar (ixLD Ci) (pvD 4) Ah) (Aa (pvD 0) (Aa Ej Ae)))) (XB (Ax Jp (hr.mono (by decide)) rfl Jr FJ.kp Jq .nil AM (Aa (pvD 0) (Aa (pvD 1) (Aa (pvD 2) (Aa (pvD 6) (Aa (pvD 5) Ae)))))))))))))))))))
   (Af (An Ej))))),?_⟩
  walk_at "rd"
  refine fun d hd0=>⟨by lia,by lia,?_⟩
  have s0:=Same.new hd0 (o:=.dT [])
  have hd1:upd H d (.dT []) d=some (.dT (ents s.es)):=by rw[hes];exact Ab
  have nd:¬ Fps a ad d:=S.out hd0
  have kq1:=(kq d hd0).next (Fr2.of s0 a ad d st) (AdOk.refl _ _)
  have kk1:=(kk d hd0).next (Fr2.of s0 a ad d st) (AdOk.refl _ _)
  have fin:∀H',Fr2 (upd H d (.dT [])) H' a ad d st->Q (.bl true) H':=fun H' f=>k H' fun y o hy n1 n2=>f.1 y o (s0 _ _ hy) n1 (fun z=>by rw[z,hd0]at hy;cases hy) n2
  have S1:=S.same s0
  have hw1:=hw.mono (TK.of s0)
  have hst1:=s0 _ _ hst
  generalize upd H d (.dT [])=H1 at s0 hd1 kq1 kk1 fin S1 hw1 hst1 ⊢
  obtain⟨Pv,hPv⟩:∃Pv:Nat->St->Hp->Prop,∀i σ' H',Pv i σ' H'↔(∃(ad1:AD) (s1:AS) (wv1:V) (x1:Wish) (A W0 E0:α1) (n:Nat) (t1:Addr) (hv:V) (o1 o2:Option V),SAt K C_j4 C_j1 C_j7 H' p a ad1 s1 wv1/\CL K H' s1.L wv1 x1/\Led59 A W0 E0 n s1 x1/\s1.L=s.L/\s1.most=s.most/\Fr2 H1 H' a ad d st/\AdOk H1 ad ad1/\H' st=some (.lst [.ref t1,.int n,hv])/\KP2 (fun H'=>Qh K H' t1 W0 E0) H' a ad1 d st/\H' d=some (.dT (ents s1.es))/\(∀m ws,x1=.done m ws->∃u,hv=.ref u/\HouT K H' u s1.L m ws)/\((∀m ws,x1 ≠ .done m ws)->hv=.non)/\(i=s1.es.length\/(∃m ws,x1=.done m ws)/\i=s1.es.length+1)/\σ'=[some (.ref p),some (.int s.L),some (.int s.most),some (.ref q),some (.ref st),some (.ref d),some (.int A.length),o1,o2]):=⟨_,fun _ _ _=>qG_⟩
  refine forR Pv ((hPv _ _ _).mpr ⟨ad,s,wv,x,[],[[]],[],0,t0,.non,none,none,S1,hw1,led,rfl,rfl,Fr2.of (Same.refl _) a ad d st,AdOk.refl _ _,hst1,kk1,hd1,fun m ws z=>absurd z (hnd m ws),fun _=>rfl,.inl (by rw[hes];rfl),rfl⟩) (fun i σ2 H2 hi h2=>?_) (fun σ2 H2 h2=>?_)
  ·obtain⟨ad1,s1,wv1,x1,A,W0,E0,n,t1,hv,o1,o2,S2,hw2,led2,eL,em,f2,ao2,hst2,kk2,hd2,hdn,hvn,hlen,rfl⟩:=(hPv _ _ _).mp h2
   obtain⟨⟨dx2,L2',hp2⟩,_⟩:=id S2
   have few:=led2.few
   have hdd:d≠ad1.d:=fun z=>nd (.inr (.inl (z.trans ao2.2.2.1)))
   have nst2:¬ Fps a ad1 st:=Fps.next nst ao2 (by rw[hst1];simp)
   have kq2:=kq1.next f2 ao2
   obtain⟨y0,okx⟩:=WOk.okx led2.ok
   have sz:=okx.sz led2.bd
   have tb:=okx.tb
   have g2:=led2.g
   have hwn:=tb.wn
   have hm12:=tb.m12
   have hen:=tb.en
   have hl6:=tb.l6
   obtain⟨t,u,rfl,ht,hu⟩:=id hw2
   walk_at "rd"
   refine⟨_,_,hp2,by kernel_rfl,p,a,ad1,s1,_,rfl,S2,?_⟩
   have bd:=led2.bd
   unfold Bd at bd
   have lens:=okx.lens
   refine⟨t,d,s.L,s1.es,x1,rfl,by rw[<-eL];exact hw2,hd2,fun c z=>?_,fun c z=>?_,_,rfl,?_⟩
   ·subst z
    obtain⟨_,hn,hc,hcl,_⟩:=id led2.ok
    refine⟨by rw[<-eL];exact hc.1,fun w=>?_,hc.2,?_⟩
    ·obtain⟨m,hm⟩:=Vt.mp w
     rw[hn]at hm;cases hm
    ·split at hcl<;>lia
   ·subst z
    obtain⟨_,_,_,_,_,_,hcw,_⟩:=id led2.ok
    rw[<-eL];exact hcw
   rw[if_neg (by decide)]
   refine⟨_,_,hp2,by kernel_rfl,p,a,ad1,s1,_,rfl,S2,t,rfl,t,rfl,true,CL.eq57 hw2 hw2 4,?_⟩
   rw[if_neg (by decide)]
   have nn:d≠st:=fun z=>by rw[z,hst2]at hd2;cases hd2
   cases x1 with
   |ask c=>
    have ht:H2 t=some (.tup [.str ("ask" : Str),.ref u]):=ht
    have hu:H2 u=some (.tup (c.map V.int)):=hu
    have hli:i=s1.es.length:=by
     rcases hlen with z|⟨⟨m,ws,z⟩,_⟩
     ·exact z
     ·cases z
    obtain⟨okc,hn,hc,hcl,hg⟩:=id led2.ok
    have hnk:c∉s1.es.map (·.1):=fun z=>by
     obtain⟨m,hm⟩:=Vt.mp z
     rw[hn]at hm;cases hm
    refine⟨t,rfl,_,SqT.of ht,_,rfl,rfl,?_⟩
    rw[if_pos rfl]
    have hal:A.length<=s1.es.length:=by
     have:=OS led2.an led2.asub
     rwa [jb_]at this
    refine⟨q,ns,2+(A.length:Int),rfl,kq2.now,hz,by lia,by lia,_,rfl,?_⟩
    have mk:=Fd_ (bigF ns (2+(A.length:Int)))
    generalize DG_ (bigF ns (2+(A.length:Int)))=m9 at mk ⊢
    have huk:H2 u=some (.tup ((wkey c).map kV)):=by rw[Cj];exact hu
    have hle:(ents s1.es).length=s1.es.length:=by unfold ents;rw[jb_]
    refine⟨t,rfl,_,SqT.of ht,_,rfl,_,DPut.t hd2 huk s!"",?_⟩
    rw[UP hnk]
    have S3:=S2.put59 hd2 hdd (kvs':=ents (s1.es++[(c,m9)]))
    have tk3:TK H2 (upd H2 d (.dT (ents (s1.es++[(c,m9)])))):=fun t ts h=>by rw[Ag (fun z=>by rw[z,hd2]at h;cases h)];exact h
    have hd3:upd H2 d (.dT (ents (s1.es++[(c,m9)]))) d=some (.dT (ents (s1.es++[(c,m9)]))):=Ab
    have f3:Fr2 H2 (upd H2 d (.dT (ents (s1.es++[(c,m9)])))) a ad1 d st:=Fr2.put (.inl rfl) hd2
    have hst3:upd H2 d (.dT (ents (s1.es++[(c,m9)]))) st=some (.lst [.ref t1,.int n,hv]):=by rw[Ag (qj_ nn)];exact hst2
    have ht3:=tk3 _ _ ht
    have hu3:=tk3 _ _ hu
    have hw3:=hw2.mono tk3
    generalize upd H2 d (.dT (ents (s1.es++[(c,m9)])))=H3 at S3 tk3 hd3 f3 hst3 ht3 hu3 hw3 ⊢
    obtain⟨⟨dx3,L3,hp3⟩,_⟩:=id S3
    have nd3:((s1.es++[(c,m9)]).map (·.1)).Nodup:=by
     rw[jn_,qA_]
     exact⟨tb.nd,by simp,fun a ha b hb=>by rw[js_.mp hb];intro z;subst z;exact hnk ha⟩
    have hval:valV (ents (s1.es++[(c,m9)])) (wkey c)=some (.int m9):=F6 nd3 (by simp)
    refine⟨_,_,hp3,by kernel_rfl,t,rfl,_,SqT.of ht3,_,rfl,_,by rw[<-hval];exact DGet.t hd3 (by rw[Cj];exact hu3),?_⟩
    refine⟨p,a,ad1,s1,_,.ask c,200,m9,rfl,S3,hw3,led2.ok,led2.bd,by lia,fun z=>absurd rfl z,fun c' e=>?_⟩
    cases e
    refine⟨fun z=>absurd mk z,fun h0 h9 ad' H' s' x' wv' go S' hw' f o=>?_⟩
    obtain⟨led',es',eL',em'⟩:=led2.ask h0 h9 go
    have f4:=Fr2.frm f d st
    have f24:=f3.seq (AdOk.refl _ _) f4
    have o24:=AdOk.mono o f3.2
    have hf:∀x o,H3 x=some o->¬ Fps a ad1 x->H' x=some o:=fun x o hx nx=>f.1 x o hx (fun z=>nx (.inl z)) (fun z=>nx (.inr (.inl z))) (fun z=>nx (.inr (.inr (.inl z)))) (fun z=>nx (.inr (.inr (.inr (.inl z))))) (fun z=>nx (.inr (.inr (.inr (.inr z)))))
    have ex':∀m ws,x' ≠ .done m ws:=fun m ws z=>by subst z;exact go.notDone
    refine (hPv _ _ _).mpr ⟨ad',s',wv',x',A++[c],W0,E0,n,t1,hv,some (V.int (0+(i:Int))),some (V.ref t),S',by rw[eL'];exact hw',led',eL'.trans eL,em'.trans em,f2.seq ao2 f24,AdOk.seq f2.2 ao2 o24,hf _ _ hst3 nst2,kk2.next f24 o24,by rw[es'];exact hf _ _ hd3 (S3.outD hd3 hdd),fun m ws z=>absurd z (ex' m ws),fun _=>hvn fun m ws z=>(by cases z),.inl ?_,?_⟩
    ·rw[es',jj_,jp_,hli]
    ·rw[jj_,jp_];push_cast;rfl
   |shown mm ws=>
    have ht:H2 t=some (.tup [.str ("show" : Str),.ref u]):=ht
    have hli:i=s1.es.length:=by
     rcases hlen with z|⟨⟨m,ws,z⟩,_⟩
     ·exact z
     ·cases z
    refine⟨t,rfl,_,SqT.of ht,_,rfl,rfl,?_⟩
    rw[if_neg (fun z=>absurd (V.str.inj z) (by decide +kernel))]
    refine⟨t,rfl,_,SqT.of ht,_,rfl,rfl,?_⟩
    rw[if_pos rfl]
    refine⟨p,q,st,d,a,t1,ns,hv,ad1,s1,_,mm,ws,A,W0,E0,n,by rw[eL],S2,hw2,led2,kq2,hz,hst2,nst2,kk2.now,hd2,hdd,fun H' wv' t2 u2 S' hw' hu' hst' kk' hd' f'=>⟨_,rfl,?_⟩,fun ad' H' s' x' wv' t2 w m ob go S' hw' hst' kk' hd' f' o'=>⟨_,rfl,?_⟩⟩
    ·rw[if_neg (by decide)]
     exact (hPv _ _ _).mpr ⟨ad1,s1,wv',.done mm ws,A,s1.W,s1.E,n+1,t2,.ref u2,_,_,S',hw',led2.agree,eL,em,f2.seq ao2 f',ao2,by push_cast;exact hst',kk',hd',fun m ws' z=>(by cases z;exact⟨u2,rfl,hu'⟩),fun z=>absurd rfl (z mm ws),.inr ⟨⟨mm,ws,rfl⟩,by lia⟩,rfl⟩
    ·rw[if_neg (by decide)]
     obtain⟨led',es',eL',em'⟩:=led2.obj ob go
     have ex':∀m ws,x' ≠ .done m ws:=fun m ws z=>by subst z;exact go.notDone
     refine (hPv _ _ _).mpr ⟨ad',s',wv',x',A,s1.W,s1.E,n+1,t2,hv,_,_,S',by rw[eL'];exact hw',led',eL'.trans eL,em'.trans em,f2.seq ao2 f',AdOk.seq f2.2 ao2 o',by push_cast;exact hst',kk',by rw[es'];exact hd',fun m ws z=>absurd z (ex' m ws),fun _=>hvn fun m ws z=>(by cases z),.inl ?_,rfl⟩
     rw[es',jj_,jp_,hli]
   |done mm ws=>
    have ht:H2 t=some (.tup [.str ("done" : Str),.ref u]):=ht
    have hu:HouT K H2 u s1.L mm ws:=hu
    obtain⟨u2,hv2,hu2⟩:=hdn mm ws rfl
    subst hv2
    refine⟨t,rfl,_,SqT.of ht,_,rfl,rfl,?_⟩
    rw[if_neg (fun z=>absurd (V.str.inj z) (by decide +kernel))]
    refine⟨t,rfl,_,SqT.of ht,_,rfl,rfl,?_⟩
    rw[if_neg (fun z=>absurd (V.str.inj z) (by decide +kernel))]
    refine⟨t,rfl,_,SqT.of ht,_,rfl,rfl,?_⟩
    rw[if_pos rfl]
    refine⟨t,rfl,_,SqT.of ht,_,rfl,_,SqL.of hst2,_,rfl,u,rfl,u2,rfl,true,HouT.eq57 hu hu2 5,?_⟩
    rw[if_neg (by decide)]
    refine⟨t,rfl,_,SqT.of ht,_,rfl,rfl,?_⟩
    rw[if_neg (fun z=>absurd (V.str.inj z) (by decide +kernel))]
    refine⟨_,SqL.of hst2,_,rfl,t1,p,a,ad1,s1,_,W0,E0,false,rfl,S2,kk2.now,led2.j.gw,led2.j.ge,fun z=>(by cases z),by lia,by lia,fun H3 s3=>⟨_,rfl,?_⟩⟩
    rw[if_pos rfl]
    exact⟨p,d,a,ad1,s1,_,_,A.length,by rw[eL,em],S2.same s3,hw2.mono (TK.of s3),led2.end (fun _ z=>by cases z) (fun _ _ z=>by cases z),s3 _ _ hd2,fun H4 s4=>fin H4 (f2.seq ao2 (Fr2.of (s3.trans s4) a ad1 d st))⟩
   |spent c=>
    have ht:H2 t=some (.tup [.str ("spent" : Str),.ref u]):=ht
    refine⟨t,rfl,_,SqT.of ht,_,rfl,rfl,?_⟩
    rw[if_neg (fun z=>absurd (V.str.inj z) (by decide +kernel))]
    refine⟨t,rfl,_,SqT.of ht,_,rfl,rfl,?_⟩
    rw[if_neg (fun z=>absurd (V.str.inj z) (by decide +kernel))]
    refine⟨t,rfl,_,SqT.of ht,_,rfl,rfl,?_⟩
    rw[if_neg (fun z=>absurd (V.str.inj z) (by decide +kernel))]
    refine⟨t,rfl,_,SqT.of ht,_,rfl,rfl,?_⟩
    rw[if_pos rfl]
    refine⟨_,SqL.of hst2,_,rfl,?_⟩
    rw[hvn fun m ws z=>(by cases z),if_neg (by simp)]
    rw[hvn fun m ws z=>(by cases z)]at hst2
    refine⟨_,SqL.of hst2,_,rfl,t1,p,a,ad1,s1,_,W0,E0,false,rfl,S2,kk2.now,led2.j.gw,led2.j.ge,fun z=>(by cases z),by lia,by lia,fun H3 s3=>⟨_,rfl,?_⟩⟩
    rw[if_pos rfl]
    exact⟨p,d,a,ad1,s1,_,_,A.length,by rw[eL,em],S2.same s3,hw2.mono (TK.of s3),led2.end (fun _ z=>by cases z) (fun _ _ z=>by cases z),s3 _ _ hd2,fun H4 s4=>fin H4 (f2.seq ao2 (Fr2.of (s3.trans s4) a ad1 d st))⟩
  ·exfalso
   obtain⟨ad1,s1,wv1,x1,A,W0,E0,n,t1,hv,o1,o2,S2,hw2,led2,eL,em,f2,ao2,hst2,kk2,hd2,hdn,hvn,hlen,rfl⟩:=(hPv _ _ _).mp h2
   have few:=led2.few
   have h9:Int.toNat 900=900:=rfl
   rcases hlen with h|h
   ·lia
   ·lia
theorem NB_ {K:α3}  {q a d st:Addr}  {ad:AD}(h:SqL K H0 q xs)(s:Same H0 H)(n:∀o,H0 q=some o->¬ Fps a ad q/\q≠st)(hd:H d=none):KP2 (fun H'=>SqL K H' q xs) H a ad d st:=fun H' f=>by
 rcases h with h|h
 ·have g:∀o,H0 q=some o->H' q=some o:=fun o ho=>f.1 q o (s _ _ ho) (n o ho).1 (fun z=>by have:=s _ _ ho;rw[z,hd]at this;cases this) (n o ho).2
  rcases h with h|⟨o,h⟩
  ·exact .inl (.inl (g _ h))
  ·exact .inl (.inr ⟨o,g _ h⟩)
 ·exact .inr h
noncomputable def BG_ (H0 H:Hp)(us:List V)(its:List (List V)):Prop:=us.length=its.length/\∀(j:Nat) (xs:List V),its[j]?=some xs->∃m,us[j]?=some (.ref m)/\H0 m=none/\H m=some (.lst xs)
theorem BG_.snoc    (h:BG_ H0 H us its)(s:Same H H')   (h0:H0 m=none)(hm:H' m=some (.lst xs)):BG_ H0 H' (us++[.ref m]) (its++[xs]):=⟨by simp[h.1],fun j ys hj=>by
 by_cases hl:j<its.length
 ·rw[jw_ hl]at hj
  obtain⟨q,a,b,c⟩:=h.2 j ys hj
  exact⟨q,by rw[jw_ (by rw[h.1];exact hl)];exact a,b,s _ _ c⟩
 ·have hlt:=(jc_.mp hj).1
  rw[jj_,jp_]at hlt
  rw[jJ_ s!"",show j-its.length=0 by lia]at hj
  cases hj
  exact⟨m,by rw[jJ_ (by rw[h.1];lia),h.1,show j-its.length=0 by lia];rfl,h0,hm⟩⟩
noncomputable def Ji_ (K:α3):Sp:=fun vs H Q _=>∃(a:Addr) (ns:α2),vs=[.ref a]/\SqL K H a (ns.map V.int)/\ns.length<=63/\∀H',Q (.bl true) H'
theorem Nh_   (F:Fun K "law" "law" Yy f fd)(T:Txt mg)
  (W:Own K mg C_j7 C_j9 C_ji C_ja C_j1 C_j4)
  (Z:Exs K mg C_j8 C_j5 C_j6 C_j3 C_j2 C_j0)
   (Js:FnOk P w K mg base CX0 14 Cy Lz ["self","letters","most"] (Fb_ K C_j4 C_j1 C_j7)) (Ha:Fun K "__init__" "SayAsker.__init__" Df Cy Lz) (Jt:Binds K Lz ["self","letters","most"] []) (Ju:Mk K C_j4 Cy)
   (Az:FnOk P w K mg base CX0 2 Ao AJ ["self"] (Gb K C_j4 C_j1 C_j7 AS.W)) (A0:Fun K "access" "SayAsker.access" Bh Ao AJ) (AA:Binds K AJ ["self"] []) (AB:Meth K C_j4 "access" Ao)
   (Au:FnOk P w K mg base CX0 2 Al Ay ["self"] (Gb K C_j4 C_j1 C_j7 AS.E)) (AU:Fun K "tellers" "SayAsker.tellers" A5 Al Ay) (Av:Binds K Ay ["self"] []) (Aw:Meth K C_j4 "tellers" Al)
   (Be:FnOk P w K mg base CX0 3 AG Bi ["self"] (M6 K C_j4 C_j1 C_j7)) (BC:Fun K "heard" "SayAsker.heard" BA AG Bi) (Bf:Binds K Bi ["self"] []) (Bg:Meth K C_j4 "heard" AG)
   (BL:FnOk P w K mg base CX0 1 BV Cv ["script","k"] (VF K)) (Bv:Fun K "_law_cell" "_law_cell" DY BV Cv) (BN:Binds K Cv ["script","k"] []) (BO:mg "_law_cell"=some (.ref BV))
   (O6:FnOk P w K mg base CX0 17 HJ Tp ["asker","letters","most","script","state"] (BE_ K C_j4 C_j1 C_j7)) (Jv:Fun K "_law_hunt" "_law_hunt" Gi HJ Tp) (O7:Binds K Tp ["asker","letters","most","script","state"] []) (O8:mg "_law_hunt"=some (.ref HJ))
  : FnOk P w K mg base CX0 18 f fd ["script"] (Ji_ K):=by
 refine F.ok XI (fun vs H Q E h=>?_) (fun cdv A outer s H vs Q E hr h=>?_)
 ·obtain⟨a,ns,rfl,_⟩:=h;rfl
 ·obtain⟨q,ns,rfl,hq,hz,k⟩:=h
  have hl:=Aq
  have a0:=xR_ (cell ns 0) (show (3:Int)≠0 by decide)
  have a1:=xS_ (cell ns 0) (show (0:Int)<3 by decide)
  obtain⟨L,hL,l1,l6⟩:∃L:Nat,1+cell ns 0%3+cell ns 0 / 3%4 / 3*3=(L:Int)/\1<=L/\L<=6:=⟨(1+cell ns 0%3+cell ns 0 / 3%4 / 3*3).toNat,by lia,by lia,by lia⟩
  refine⟨_,(Ac (AW (i:=1) XI.nd (BS (opD0 Hb) (BS (opD0 Hb) Ah (BS (opD IT) (Ax BL (hr.mono (by decide)) rfl BO Bv.kp BN .nil AM (Aa (pvD 0) (Aa Ah Ae))) Ah)) (BS (opD OA) (BS (opD OK) (BS (opD IT) (BS (opD OK) (Ax BL (hr.mono (by decide)) rfl BO Bv.kp BN .nil AM (Aa (pvD 0) (Aa Ah Ae))) Ah) Ah) Ah) Ah)))
   (Ac (AW (i:=2) XI.nd (BS (opD0 Hb) Ah (BS (opD IT) (Ax BL (hr.mono (by decide)) rfl BO Bv.kp BN .nil AM (Aa (pvD 0) (Aa Ah Ae))) (Ar (ixLD Ci) (JD (Aa Ah (Aa Ah (Aa Ah (Aa Ah (Aa Ah (Aa Ah Ae))))))) (BS (opD0 AL_) (pvD 1) Ah)))))
   (Ac (AW (i:=3) XI.nd (CX_ Ju Js (hr.mono (by decide)) rfl W.m_j4 Jt .nil AM (Aa (pvD 1) (Aa (pvD 2) Ae))))
   (Ac (AW (i:=4) XI.nd (JD (Aa (AL (pvD 3) W.cl_j4 AB Az (hr.mono (by decide)) AA .nil AM) (Aa (AL (pvD 3) W.cl_j4 Aw Au (hr.mono (by decide)) Av .nil AM) (Aa (AL (pvD 3) W.cl_j4 Bg Be (hr.mono (by decide)) Bf .nil AM) Ae)))))
   (Ac (Yb (i:=5) XI.nd rfl rfl rfl (Ki rfl) (cp:=HF_) True.intro (Ge (pvD 4)) (fun _ _ _ _=>(Bl (i:=0) FE_ rfl (Or.inl rfl))) (fun _ _ _ _=>Ln) (fun _ _ _ _=>(Cg (Ye (K:=K) rfl) rfl T.list j0_ (Aa (pvD 0) Ae))))
   (Ac (B6 (ET (ptB (ES (Ax O6 (hr.mono (by decide)) rfl O8 Jv.kp O7 .nil AM (Aa (pvD 3) (Aa (pvD 1) (Aa (pvD 2) (Aa (pvD 0) (Aa (JD (Aa (F3 (Aa (JD (Aa (F3 Ae) Ae)) (Aa (JD Ae) Ae))) (Aa Ah (Aa Gk Ae)))) Ae)))))))))
   (Af (An Ej))
   AK)
   (Af (An (JX (Ez_ 8 (hu9 hr)) (pvD 4) (pvD 5) (AZ _)))))))))),?_⟩
  walk_at "rd"
  refine⟨q,ns,0,rfl,hq,_,rfl,by decide,q,ns,0,rfl,hq,_,rfl,⟨by decide,by decide⟩,by decide,⟨by decide,by decide⟩,.inr ⟨by decide,by decide⟩,?_⟩
  rw[hL]
  obtain⟨y,hy,hy4,hyL⟩:∃y:Int,atI [V.int 4,V.int 4,V.int 4,V.int 2,V.int 2,V.int 2] ((L:Int)-1)=some (V.int y)/\(y=4\/y=2)/\(3<L->y=2):=by
   have:L=1\/L=2\/L=3\/L=4\/L=5\/L=6:=by lia
   rcases this with e|e|e|e|e|e<;>subst e
   ·exact⟨4,rfl,.inl rfl,fun z=>by lia⟩
   ·exact⟨4,rfl,.inl rfl,fun z=>by lia⟩
   ·exact⟨4,rfl,.inl rfl,fun z=>by lia⟩
   ·exact⟨2,rfl,.inr rfl,fun z=>rfl⟩
   ·exact⟨2,rfl,.inr rfl,fun z=>rfl⟩
   ·exact⟨2,rfl,.inr rfl,fun z=>rfl⟩
  have b0:=xR_ (cell ns 1) (show y≠0 by lia)
  have b1:=xS_ (cell ns 1) (show 0<y by lia)
  obtain⟨most,hm⟩:∃most:Nat,1+cell ns 1%y=(most:Int):=⟨(1+cell ns 1%y).toNat,by lia⟩
  have m1:1<=most:=by lia
  have m4:most<=4:=by lia
  have m2:3<L->most<=2:=fun z=>by have:=hyL z;lia
  refine⟨q,ns,1,rfl,hq,by lia,fun pl hpl=>⟨_,SqL.of Ab,_,hy,_,rfl,_,rfl,by lia,?_⟩⟩
  rw[hm]
  have sl:=Same.new hpl (o:=.lst [V.int 4,V.int 4,V.int 4,V.int 2,V.int 2,V.int 2])
  have hq0:=sl.seq hq
  generalize upd H pl (.lst [V.int 4,V.int 4,V.int 4,V.int 2,V.int 2,V.int 2])=H0 at sl hq0 ⊢
  intro p dx hpN hdN hne
  refine⟨p,dx,L,most,rfl,Ab,l1,l6,m1,by lia,fun a ad H1 s x wv go S hw hf hno hfr=>⟨rfl,?_⟩⟩
  have nz:∀y,upd (upd H0 dx (HO.own p)) p (HO.ins C_j4 dx []) y=none->H0 y=none:=fun y hy=>by
   by_cases z1:y=p
   ·rw[z1,Ab]at hy;cases hy
   ·by_cases z2:y=dx
    ·rw[z2,Ag (by rw[<-z2];exact z1),Ab]at hy;cases hy
    ·rw[Ag z1,Ag z2]at hy;exact hy
  have hfr':H0 a=none/\H0 ad.d=none/\H0 ad.pw=none/\H0 ad.pe=none/\H0 ad.pg=none:=⟨nz _ hfr.1,nz _ hfr.2.1,nz _ hfr.2.2.1,nz _ hfr.2.2.2.1,nz _ hfr.2.2.2.2⟩
  have s1:Same H0 H1:=fun y o hy=>by
   have y1:y≠p:=fun z=>by rw[z,hpN]at hy;cases hy
   have y2:y≠dx:=fun z=>by rw[z,hdN]at hy;cases hy
   exact hf _ _ (by rw[Ag y1,Ag y2];exact hy) y1
  have ok0:=HU_ (L:=L) (most:=most) 200 s!"" l1 l6 m1 s!""
  obtain⟨ok1,kp⟩:=go.ok ok0
  obtain⟨j1,jx1⟩:=go.J59 ok0 (J59.start L most)
  have es0:s.es=[]:=kp.e
  have eL:s.L=L:=kp.l
  have em:s.most=most:=kp.m
  have led:Led59 [] [[]] [] 0 s x:=⟨ok1,j1.mono fun z=>absurd z.1 (qf_ 0),jx1,xw_,fun c z=>(by cases z),by rw[es0];exact jl_ _,qp_ _,by rw[eL,em];by_cases z:3<L;exact .inr ⟨l6,m2 z⟩;exact .inl ⟨by lia,m4⟩⟩
  have hndn:∀m ws,x ≠ .done m ws:=fun m ws z=>by subst z;exact go.notDone
  have tb:=led.g.tb
  obtain⟨⟨dx1,L1,hp1⟩,_⟩:=id S
  refine⟨_,_,hp1,by kernel_rfl,p,a,ad,s,wv,rfl,S,fun e1 ts1 H2 s2 n2 h2 hW2=>?_⟩
  refine⟨_,_,s2 _ _ hp1,by kernel_rfl,p,a,ad,s,wv,rfl,S.same s2,fun e2 ts2 H3 s3 n3 h3 hE3=>?_⟩
  have s13:=s2.trans s3
  refine⟨_,_,s13 _ _ hp1,by kernel_rfl,p,a,ad,s,wv,rfl,S.same s13,fun e3 rs3 H4 s4 n4 h4 hT4=>⟨by lia,fun ph hph=>?_⟩⟩
  have s14:=s13.trans s4
  have a5:=Same.new hph (o:=.lst [V.ref e1,V.ref e2,V.ref e3])
  have s15:=s14.trans a5
  have hph5:upd H4 ph (.lst [V.ref e1,V.ref e2,V.ref e3]) ph=some (.lst [V.ref e1,V.ref e2,V.ref e3]):=Ab
  have h25:=(s3.trans (s4.trans a5)) _ _ h2
  have h35:=(s4.trans a5) _ _ h3
  have h45:=a5 _ _ h4
  have hW5:=hW2.mono (TK.of (s3.trans (s4.trans a5)))
  have hE5:=hE3.mono (TK.of (s4.trans a5))
  have hT5:=hT4.mono fun b xs hb=>a5 _ _ hb
  have o1:=S.out n2
  have o2:=S.out (s2.none n3)
  have o3:=S.out (s13.none n4)
  have oh:=S.out (s14.none hph)
  generalize upd H4 ph (.lst [V.ref e1,V.ref e2,V.ref e3])=H5 at a5 s15 hph5 h25 h35 h45 hW5 hE5 hT5 ⊢
  refine⟨⟨_,SqL.of hph5⟩,Df_ (xs:=[V.ref e1,V.ref e2,V.ref e3]) (fun i us σ' H'=>Same H5 H'/\BG_ H5 H' us ([ts1,ts2,rs3].take i)/\∃o,σ'=[o]) ⟨Same.refl _,⟨rfl,fun j xs z=>by simp at z⟩,none,rfl⟩ (by show 3<sizeLine;lia) (fun i us σ' H' hi h'=>⟨h'.1.seq (SqL.of hph5),by rw[h'.2.1.1,jx_];lia⟩) (fun i x us σ' H' hx h'=>?_) (fun us σ' H6 h' D hD=>?_)⟩
  ·obtain⟨s6,hC,o,rfl⟩:=h'
   obtain⟨e,xs,he,hxs,hex⟩:∃e xs,x=.ref e/\[ts1,ts2,rs3][i]?=some xs/\H5 e=some (.lst xs):=by
    match i,hx with
    |0,hx=>cases hx;exact⟨_,_,rfl,rfl,h25⟩
    |1,hx=>cases hx;exact⟨_,_,rfl,rfl,h35⟩
    |2,hx=>cases hx;exact⟨_,_,rfl,rfl,h45⟩
    |i+3,hx=>simp at hx
   subst he
   walk_at "rd"
   refine⟨_,.inl (SqL.of (s6 _ _ hex)),fun l hl=>⟨s6.newT hl,?_,_,rfl⟩⟩
   rw[jD_,hxs]
   exact hC.snoc (Same.new hl) (s6.none hl) Ab
  obtain⟨s6,hC,o,rfl⟩:=h'
  have hC:BG_ H5 H6 us [ts1,ts2,rs3]:=hC
  obtain⟨c1,u1,f1,g1⟩:=hC.2 0 ts1 rfl
  obtain⟨c2,u2,f2,g2⟩:=hC.2 1 ts2 rfl
  obtain⟨c3,u3,f3,g3⟩:=hC.2 2 rs3 rfl
  have hus:us=[V.ref c1,V.ref c2,V.ref c3]:=by
   have hl3:us.length=3:=hC.1
   match us,hl3,u1,u2,u3 with
   |[x1,x2,x3],_,u1,u2,u3=>simp at u1 u2 u3;subst u1 u2 u3;rfl
  subst hus
  have a7:=Same.new hD (o:=.lst [V.ref c1,V.ref c2,V.ref c3])
  have hD7:upd H6 D (.lst [V.ref c1,V.ref c2,V.ref c3]) D=some (.lst [V.ref c1,V.ref c2,V.ref c3]):=Ab
  have s57:=s6.trans a7
  have g17:=a7 _ _ g1
  have g27:=a7 _ _ g2
  have g37:=a7 _ _ g3
  have oD:=S.out (s15.none (s6.none hD))
  have oc1:=S.out (s15.none f1)
  have oc2:=S.out (s15.none f2)
  have oc3:=S.out (s15.none f3)
  generalize upd H6 D (.lst [V.ref c1,V.ref c2,V.ref c3])=H7 at a7 hD7 s57 g17 g27 g37 ⊢
  have s17:=s15.trans s57
  refine⟨by lia,fun p1 r1=>⟨by lia,fun p2 r2=>⟨by lia,fun p3 r3=>⟨by lia,fun p4 r4=>⟨by lia,fun st r5=>?_⟩⟩⟩⟩⟩
  have a8:=Same.new r1 (o:=.tup [])
  have b1:upd H7 p1 (.tup []) p1=some (.tup []):=Ab
  have n1:=S.out (s17.none r1)
  generalize upd H7 p1 (.tup [])=H8 at a8 b1 r2 r3 r4 r5 ⊢
  have s18:=s17.trans a8
  have a9:=Same.new r2 (o:=.lst [V.ref p1])
  have b2:upd H8 p2 (.lst [V.ref p1]) p2=some (.lst [V.ref p1]):=Ab
  have n2':=S.out (s18.none r2)
  generalize upd H8 p2 (.lst [V.ref p1])=H9 at a9 b2 r3 r4 r5 ⊢
  have s19:=s18.trans a9
  have a10:=Same.new r3 (o:=.lst [])
  have b3:upd H9 p3 (.lst []) p3=some (.lst []):=Ab
  have n3':=S.out (s19.none r3)
  generalize upd H9 p3 (.lst [])=H10 at a10 b3 r4 r5 ⊢
  have s110:=s19.trans a10
  have a11:=Same.new r4 (o:=.tup [V.ref p2,V.ref p3])
  have b4:upd H10 p4 (.tup [V.ref p2,V.ref p3]) p4=some (.tup [V.ref p2,V.ref p3]):=Ab
  have n4':=S.out (s110.none r4)
  generalize upd H10 p4 (.tup [V.ref p2,V.ref p3])=H11 at a11 b4 r5 ⊢
  have s111:=s110.trans a11
  have a12:=Same.new r5 (o:=.lst [V.ref p4,V.int 0,V.non])
  have b5:upd H11 st (.lst [V.ref p4,V.int 0,V.non]) st=some (.lst [V.ref p4,V.int 0,V.non]):=Ab
  have n5':=S.out (s111.none r5)
  have ne:∀x o,H11 x=some o->x≠st:=fun x o hx z=>by rw[z,r5]at hx;cases hx
  generalize upd H11 st (.lst [V.ref p4,V.int 0,V.non])=H12 at a12 b5 ⊢
  have s112:=s111.trans a12
  have t1:=(a9.trans (a10.trans a11)) _ _ b1
  have t2:=(a10.trans a11) _ _ b2
  have t3:=a11 _ _ b3
  have S12:=S.same s112
  refine⟨p,q,st,a,p4,ns,ad,s,wv,x,by rw[eL,em],S12,by rw[eL];exact hw.mono (TK.of s112),led,es0,hndn,fun d hd=>?_,hz,b5,n5',fun d hd H' f=>?_,fun H' f=>⟨_,rfl,?_⟩⟩
  ·refine NB_ hq0 (s1.trans s112) (fun o ho=>⟨?_,ne _ _ ((s1.trans s111) _ _ ho)⟩) hd
   rintro (z|z|z|z|z)
   ·rw[z,hfr'.1]at ho;cases ho
   ·rw[z,hfr'.2.1]at ho;cases ho
   ·rw[z,hfr'.2.2.1]at ho;cases ho
   ·rw[z,hfr'.2.2.2.1]at ho;cases ho
   ·rw[z,hfr'.2.2.2.2]at ho;cases ho
  ·have go:∀x o,H11 x=some o->¬ Fps a ad x->H' x=some o:=fun x o hx nx=>f.1 x o (a12 _ _ hx) nx (fun z=>by have:=a12 _ _ hx;rw[z,hd]at this;cases this) (ne _ _ hx)
   refine⟨p2,p3,[V.ref p1],[],go _ _ b4 n4',go _ _ t2 n2',⟨rfl,fun i w hi=>?_⟩,go _ _ t3 n3',Am.nil⟩
   match i,hi with
   |0,hi=>cases hi;exact⟨p1,rfl,go _ _ t1 n1⟩
  ·rw[if_neg (by decide)]
   have go:∀x o,H7 x=some o->¬ Fps a ad x->H' x=some o:=fun x o hx nx=>by
    have h11:=(a8.trans (a9.trans (a10.trans a11))) _ _ hx
    exact f x o (a12 _ _ h11) nx (ne _ _ h11)
   have tk:TK H7 H':=fun t ts ht=>go _ _ ht fun z=>by
    obtain⟨_,gv,rv,zs,ys,us,y⟩:=S.same s17
    rcases z with z|z|z|z|z
    ·rw[z,y.ob]at ht;cases ht
    ·rw[z,y.bk.dc]at ht;cases ht
    ·rw[z,y.w]at ht;cases ht
    ·rw[z,y.e]at ht;cases ht
    ·rw[z,y.g]at ht;cases ht
   have hW':=(hW5.mono (TK.of s57)).mono tk
   have hE':=(hE5.mono (TK.of s57)).mono tk
   have hT':=(hT5.mono fun b xs hb=>s57 _ _ hb).mono tk
   refine⟨D,rfl,true,EqD.all43 (.inl ⟨SqL.of (go _ _ (s57 _ _ hph5) oh),SqL.of (go _ _ hD7 oD)⟩) rfl (Ib_ (P:=fun _ x y=>EqD K H' 7 x y true) ?_ ?_ ?_),k _⟩
   ·exact Am.eqL59 (SqL.of (go _ _ (s57 _ _ h25) o1)) hW' (SqL.of (go _ _ g17 oc1)) hW' 5
   ·exact Am.eqL59 (SqL.of (go _ _ (s57 _ _ h35) o2)) hE' (SqL.of (go _ _ g27 oc2)) hE' 5
   ·exact Hs.eq43 (n:=4) hT' hT' (go _ _ (s57 _ _ h45) o3) (go _ _ g37 oc3)
end
theorem all_mk {l:PySem.W.OpenLaw}{w:World}{K:α3}{h:Heap}{mg:Str->α5}{fa Fz Ko DC K4 B4 Oh CY GU RA As BE XQ BK Bp DE II Cn Ea Bq Ct E2 Br Bs IK Bn Cc Bw Fq Gj Bt EA Cy DJ Ao C0 Al Ex AG BV DI AH Kp Gv Cs Ec Ap BQ Ey Cw IS ER DT Cd Co Dy BF Bx BU DR Ei Ez Cf Ed Eg EO Dx Dd Bo C1 B2 E3 GL HJ LB_:Addr}(X:K.In h)(G:h.Ns mainGlobals mg)(hfa:mg "law"=some (.ref fa))
  {C_j8 C_j5 C_j6 C_j3 C_j2 C_j0 C_j7 C_j9 C_ji C_ja C_j1 C_j4:Addr}
  {BH_ BI_:Option Addr} {BJ_:Array (α5)} {BK_ BL_ BM_ BN_ Tq BO_:Value}
  {FL_ FM_:Option Addr} {FN_:Array (α5)} {FO_ FP_ FQ_ FR_ XY FS_:Value}
  {Y1 Y2:Option Addr} {Y3:Array (α5)} {Y4 Y5 Y6 Y7 Qj Y8:Value}
  {Jj_ Jk_:Option Addr} {Jl_:Array (α5)} {Jm_ Jn_ Jo_ Jp_ Fh_ Jq_:Value}
  {BP_ BQ_:Option Addr} {BR_:Array (α5)} {BS_ BT_ BU_ BV_ Tr BW_:Value}
  {Ig_ Ih_:Option Addr} {Ii_:Array (α5)} {Ij_ Ik_ Il_ Im_ BX_ In_:Value}
  {VL VM:Option Addr} {VN:Array (α5)} {VO VP VQ VR Nt VS:Value}
  {FT_ FU_:Option Addr} {FV_:Array (α5)} {FW_ FX_ FY_ FZ_ XZ Ga_:Value}
  {Jr_ Js_:Option Addr} {Jt_:Array (α5)} {Ju_ Jv_ Jw_ Jx_ Fi_ Jy_:Value}
  {LP LQ:Option Addr} {LR:Array (α5)} {LS LU LV LW Hh LX:Value}
  {Qk Ql:Option Addr} {Qm:Array (α5)} {Qn Qo Qp Qq JS Qr:Value}
  {LC_ LD_:Option Addr} {LE_:Array (α5)} {LF_ LG_ LH_ LI_ Io_ LJ_:Value}
  {BY_ BZ_:Option Addr} {Ca_:Array (α5)} {Cb_ Cc_ Cd_ Ce_ Ts Cf_:Value}
  {RT RU:Option Addr} {RW:Array (α5)} {RX RY RZ R0 KG R1:Value}
  {W5 W6:Option Addr} {W7:Array (α5)} {W8 W9 Xa Xb OG Xc:Value}
  {DH_ DI_:Option Addr} {DJ_:Array (α5)} {DK_ DL_ DM_ DN_ VT DO_:Value}
  {VU VW:Option Addr} {VX:Array (α5)} {VY VZ V0 V1 Nu V2:Value}
  {TU TV:Option Addr} {TX:Array (α5)} {TY TZ T1 T2 LA T3:Value}
  {Nv Nw:Option Addr} {Nx:Array (α5)} {Ny Nz NA NB Ig NC:Value}
  {Y9 Za:Option Addr} {Zb:Array (α5)} {Zc Zd Ze Zf Qs Zg:Value}
  {V3 V4:Option Addr} {V5:Array (α5)} {V6 V7 V8 V9 NF Wa:Value}
  {NG NH:Option Addr} {NJ:Array (α5)} {NL NM NN NO Ih NQ:Value}
  {NR NS:Option Addr} {NT:Array (α5)} {NU NV NW NX Ii NY:Value}
  {DP_ DQ_:Option Addr} {DR_:Array (α5)} {DS_ DT_ DU_ DV_ Wb DW_:Value}
  {LY LZ:Option Addr} {L4:Array (α5)} {L5 L7 L8 L9 Hi Ma:Value}
  {R3 R4:Option Addr} {R5:Array (α5)} {R6 R7 R8 R9 KH Sa:Value}
  {Xd Xe:Option Addr} {Xf:Array (α5)} {Xg Xh Xi Xj OH Xk:Value}
  {Zh Zi:Option Addr} {Zj:Array (α5)} {Zk Zl Zm Zn Qt Zo:Value}
  {Cg_ Ch_:Option Addr} {Ci_:Array (α5)} {Cj_ Ck_ Cl_ Cm_ Tt Cn_:Value}
  {NZ N0:Option Addr} {N1:Array (α5)} {N2 N3 N4 N5 Ij N6:Value}
  {Zp Zq:Option Addr} {Zr:Array (α5)} {Zs Zt Zu Zv Qu Zw:Value}
  {T4 T5:Option Addr} {T6:Array (α5)} {T7 T8 T9 Ua LB Ub:Value}
  {Xl Xm:Option Addr} {Xn:Array (α5)} {Xo Xp Xq Xr OI Xs:Value}
  {Qv Qw:Option Addr} {Qx:Array (α5)} {Qy Qz QA QB JT QC:Value}
  {Wc We:Option Addr} {Wg:Array (α5)} {Wi Wj Wk Wl N7 Wm:Value}
  {O9 Pb:Option Addr} {Pd:Array (α5)} {Pe Pf Pg Ph Jw Pj:Value}
  {Zx Zy:Option Addr} {Zz:Array (α5)} {ZA ZC ZD ZE QD ZF:Value}
  {Sb Sd:Option Addr} {Se:Array (α5)} {Sf Sg Sh Si KI Sj:Value}
  {Co_ Cp_:Option Addr} {Cq_:Array (α5)} {Cr_ Cs_ Ct_ Cu_ Tu Cv_:Value}
  {Xt Xu:Option Addr} {Xv:Array (α5)} {Xw Xx Xy Xz OJ XA:Value}
  {Sk Sl:Option Addr} {Sm:Array (α5)} {Sn So Sq Sr KJ Ss:Value}
  {Gb_ Gc_:Option Addr} {Gd_:Array (α5)} {Ge_ Gf_ Gg_ Gh_ X0 Gi_:Value}
  {ZH ZI:Option Addr} {ZJ:Array (α5)} {ZK ZL ZM ZN QE ZO:Value}
  {ZP ZQ:Option Addr} {ZR:Array (α5)} {ZS ZT ZU ZV QF ZW:Value}
  {DX_ DY_:Option Addr} {DZ_:Array (α5)} {Ea_ Eb_ Ec_ Ed_ Wn Ee_:Value}
  {Oq Ot:Option Addr} {Ou:Array (α5)} {Ov Ow Ox Oy ID Oz:Value}
  {Pk Pl:Option Addr} {Pm:Array (α5)} {Pn Po Pp Pq Jx Pt:Value}
  {ZX ZY:Option Addr} {ZZ:Array (α5)} {Z0 Z1 Z2 Z3 QG Z4:Value}
  {Uc Ud:Option Addr} {Ue:Array (α5)} {Ug Uh Ui Uj LC Uk:Value}
  {Ef_ Eg_:Option Addr} {Eh_:Array (α5)} {Ei_ Ej_ Ek_ El_ Wo Em_:Value}
  {Cw_ Cx_:Option Addr} {Cy_:Array (α5)} {Cz_ CA_ CB_ CC_ Tv CD_:Value}
  {Z5 Z6:Option Addr} {Z7:Array (α5)} {Z8 Z9 Aa_ Ab_ QH Ac_:Value}
  {Ad_ Ae_:Option Addr} {Af_:Array (α5)} {Ag_ Ah_ Ai_ Aj_ QI Ak_:Value}
  {Wq Wr:Option Addr} {Ws:Array (α5)} {Wt Wu Wv Ww N8 Wy:Value}
  {Su Sv:Option Addr} {Sw:Array (α5)} {Sx Sy SA SD KL SE:Value}
  {QJ QK:Option Addr} {QL:Array (α5)} {QM QN QO QP JU QQ:Value}
  {Pu Px:Option Addr} {Pz:Array (α5)} {PD PH PJ PL Jy PM:Value}
  {SF SH:Option Addr} {SI:Array (α5)} {SJ SK SM SN KN SR:Value}
  {Al_ Am_:Option Addr} {An_:Array (α5)} {Ao_ Ap_ Aq_ Ar_ QR As_:Value}
  {Ul Um:Option Addr} {Uo:Array (α5)} {Uq Ur Us Ut LD Uu:Value}
  {At_ Au_:Option Addr} {Av_:Array (α5)} {Aw_ Ax_ Ay_ Az_ QS AA_:Value}
  {SS SU:Option Addr} {SV:Array (α5)} {SW SX SY S0 KO S4:Value}
  {Uv Uw:Option Addr} {Ux:Array (α5)} {Uy Uz UA UB LF UC:Value}
  {UD UE:Option Addr} {UG:Array (α5)} {UH UI UJ UK LG UL:Value}
  {CE_ CF_:Option Addr} {CG_:Array (α5)} {CH_ CI_ CJ_ CK_ Tw CL_:Value}
  {S5 S7:Option Addr} {S8:Array (α5)} {S9 Ta Tc Td KP Te:Value}
  {QT QU:Option Addr} {QV:Array (α5)} {QW QX QY QZ JV Q0:Value}
  {Mb Mc:Option Addr} {Md:Array (α5)} {Me Mf Mg Mh Hj Mi:Value}
  {Wz WA:Option Addr} {WB:Array (α5)} {WD WE WG WH N9 WI:Value}
  {Q1 Q2:Option Addr} {Q3:Array (α5)} {Q4 Q5 Q6 Q7 JW Q8:Value}
  {WJ WK:Option Addr} {WL:Array (α5)} {WM WN WO WQ Oa WR:Value}
  {AB_ AC_:Option Addr} {AD_:Array (α5)} {AE_ AF_ AG_ AH_ Q9 AI_:Value}
  {CM_ CN_:Option Addr} {CO_:Array (α5)} {CP_ CQ_ CR_ CS_ Tx CT_:Value}
  {Ni_ KH_:Option Addr} {Nj_:Array (α5)} {Nk_ KI_ KJ_ KK_ Ip_ KL_:Value}
  (aC_j7:nsIn K mainGlobals "Book"=some (some (.ref C_j7)))
  (pg_j7:PySem.W.plainGet K C_j7 Str.empty=true)
  (hd_j7:PySem.W.hasDictIn K C_j7=true)
  (po_j7:PySem.W.plainOver K C_j7=true)
  (sa_j7:PySem.W.findIn K (.ref C_j7) "__setattr__"=some (some (.builtin "object.__setattr__")))
  (mk_j7:PySem.W.makesIn K C_j7=true)
  (kc_j7:keepIn K (.ref C_j7)=true)
  (n_letters_Book:PySem.W.findIn K (.ref C_j7) "letters"=some none)
  (n_marks_Book:PySem.W.findIn K (.ref C_j7) "marks"=some none)
  (aC_j9:nsIn K mainGlobals "Turns"=some (some (.ref C_j9)))
  (aC_ji:nsIn K mainGlobals "Hunt"=some (some (.ref C_ji)))
  (aC_ja:nsIn K mainGlobals "Asker"=some (some (.ref C_ja)))
  (aC_j1:nsIn K mainGlobals "SayHunt"=some (some (.ref C_j1)))
  (pg_j1:PySem.W.plainGet K C_j1 Str.empty=true)
  (hd_j1:PySem.W.hasDictIn K C_j1=true)
  (po_j1:PySem.W.plainOver K C_j1=true)
  (sa_j1:PySem.W.findIn K (.ref C_j1) "__setattr__"=some (some (.builtin "object.__setattr__")))
  (mk_j1:PySem.W.makesIn K C_j1=true)
  (kc_j1:keepIn K (.ref C_j1)=true)
  (n_book_SayHunt:PySem.W.findIn K (.ref C_j1) "book"=some none)
  (n_ends_SayHunt:PySem.W.findIn K (.ref C_j1) "ends"=some none)
  (n_gaps_SayHunt:PySem.W.findIn K (.ref C_j1) "gaps"=some none)
  (n_guess_SayHunt:PySem.W.findIn K (.ref C_j1) "guess"=some none)
  (n_letters_SayHunt:PySem.W.findIn K (.ref C_j1) "letters"=some none)
  (n_most_SayHunt:PySem.W.findIn K (.ref C_j1) "most"=some none)
  (n_ways_SayHunt:PySem.W.findIn K (.ref C_j1) "ways"=some none)
  (n_wish_SayHunt:PySem.W.findIn K (.ref C_j1) "wish"=some none)
  (n_wrong_SayHunt:PySem.W.findIn K (.ref C_j1) "wrong"=some none)
  (aC_j4:nsIn K mainGlobals "SayAsker"=some (some (.ref C_j4)))
  (pg_j4:PySem.W.plainGet K C_j4 Str.empty=true)
  (hd_j4:PySem.W.hasDictIn K C_j4=true)
  (po_j4:PySem.W.plainOver K C_j4=true)
  (sa_j4:PySem.W.findIn K (.ref C_j4) "__setattr__"=some (some (.builtin "object.__setattr__")))
  (mk_j4:PySem.W.makesIn K C_j4=true)
  (kc_j4:keepIn K (.ref C_j4)=true)
  (n_hunt_SayAsker:PySem.W.findIn K (.ref C_j4) "hunt"=some none)
  (n_letters_SayAsker:PySem.W.findIn K (.ref C_j4) "letters"=some none)
  {tk_j2d:Tok} (q_j2d:nsIn K mainGlobals "MOST_MARK"=some (some (.int 1000000000 tk_j2d)))
  (a_j1q:PySem.W.findIn K (.ref C_j7) "__init__"=some (some (.ref Fz)))
  (i_j1q:PySem.W.isFn K (.ref Fz)=true)
  (l_j1q:K.lookup Fz=some ⟨BK_,BH_,.func (fnOf "__init__" "Book.__init__" (Ak Gg) (Ai Gg) (Ad Gg) .none BL_ BM_ BN_ BI_ Tq BO_),BJ_⟩)
  (c_j1q:codeIn K Tq "Book.__init__"=true)
  (k_j1q:keepIn K (.ref Fz)=true)
  (a_j26:nsIn K mainGlobals "is_word"=some (some (.ref Ko)))
  (l_j26:K.lookup Ko=some ⟨FO_,FL_,.func (fnOf "is_word" "is_word" (Ak IX) (Ai IX) (Ad IX) .none FP_ FQ_ FR_ FM_ XY FS_),FN_⟩)
  (c_j26:codeIn K XY "is_word"=true)
  (k_j26:keepIn K (.ref Ko)=true)
  (a_j1s:nsIn K mainGlobals "check_word"=some (some (.ref DC)))
  (l_j1s:K.lookup DC=some ⟨Y4,Y1,.func (fnOf "check_word" "check_word" (Ak Em) (Ai Em) (Ad Em) .none Y5 Y6 Y7 Y2 Qj Y8),Y3⟩)
  (c_j1s:codeIn K Qj "check_word"=true)
  (k_j1s:keepIn K (.ref DC)=true)
  (a_j2a:nsIn K mainGlobals "trail"=some (some (.ref K4)))
  (l_j2a:K.lookup K4=some ⟨Jm_,Jj_,.func (fnOf "trail" "trail" (Ak Mv) (Ai Mv) (Ad Mv) .none Jn_ Jo_ Jp_ Jk_ Fh_ Jq_),Jl_⟩)
  (c_j2a:codeIn K Fh_ "trail"=true)
  (k_j2a:keepIn K (.ref K4)=true)
  (a_j1p:PySem.W.findIn K (.ref C_j7) "told"=some (some (.ref B4)))
  (i_j1p:PySem.W.isFn K (.ref B4)=true)
  (l_j1p:K.lookup B4=some ⟨BS_,BP_,.func (fnOf "told" "Book.told" (Ak EE) (Ai EE) (Ad EE) .none BT_ BU_ BV_ BQ_ Tr BW_),BR_⟩)
  (c_j1p:codeIn K Tr "Book.told"=true)
  (k_j1p:keepIn K (.ref B4)=true)
  (a_j29:nsIn K mainGlobals "halved"=some (some (.ref Oh)))
  (l_j29:K.lookup Oh=some ⟨Ij_,Ig_,.func (fnOf "halved" "halved" (Ak K0) (Ai K0) (Ad K0) .none Ik_ Il_ Im_ Ih_ BX_ In_),Ii_⟩)
  (c_j29:codeIn K BX_ "halved"=true)
  (k_j29:keepIn K (.ref Oh)=true)
  (a_jx:PySem.W.findIn K (.ref C_j1) "ask_for"=some (some (.ref CY)))
  (i_jx:PySem.W.isFn K (.ref CY)=true)
  (l_jx:K.lookup CY=some ⟨VO,VL,.func (fnOf "ask_for" "Hunt.ask_for" (Ak DV) (Ai DV) (Ad DV) .none VP VQ VR VM Nt VS),VN⟩)
  (c_jx:codeIn K Nt "Hunt.ask_for"=true)
  (k_jx:keepIn K (.ref CY)=true)
  (a_j28:nsIn K mainGlobals "rows_of"=some (some (.ref GU)))
  (l_j28:K.lookup GU=some ⟨FW_,FT_,.func (fnOf "rows_of" "rows_of" (Ak HS) (Ai HS) (Ad HS) .none FX_ FY_ FZ_ FU_ XZ Ga_),FV_⟩)
  (c_j28:codeIn K XZ "rows_of"=true)
  (k_j28:keepIn K (.ref GU)=true)
  (a_j2b:nsIn K mainGlobals "cells"=some (some (.ref RA)))
  (l_j2b:K.lookup RA=some ⟨Ju_,Jr_,.func (fnOf "cells" "cells" (Ak OL) (Ai OL) (Ad OL) .none Jv_ Jw_ Jx_ Js_ Fi_ Jy_),Jt_⟩)
  (c_j2b:codeIn K Fi_ "cells"=true)
  (k_j2b:keepIn K (.ref RA)=true)
  (a_jc:PySem.W.findIn K (.ref C_j1) "look_for_gaps"=some (some (.ref As)))
  (i_jc:PySem.W.isFn K (.ref As)=true)
  (l_jc:K.lookup As=some ⟨LS,LP,.func (fnOf "look_for_gaps" "Asker.look_for_gaps" (Ak A4) (Ai A4) (Ad A4) .none LU LV LW LQ Hh LX),LR⟩)
  (c_jc:codeIn K Hh "Asker.look_for_gaps"=true)
  (k_jc:keepIn K (.ref As)=true)
  (a_j10:nsIn K mainGlobals "check_not_empty"=some (some (.ref BE)))
  (l_j10:K.lookup BE=some ⟨Qn,Qk,.func (fnOf "check_not_empty" "check_not_empty" (Ak BX) (Ai BX) (Ad BX) .none Qo Qp Qq Ql JS Qr),Qm⟩)
  (c_j10:codeIn K JS "check_not_empty"=true)
  (k_j10:keepIn K (.ref BE)=true)
  (a_j2c:nsIn K mainGlobals "said"=some (some (.ref XQ)))
  (l_j2c:K.lookup XQ=some ⟨LF_,LC_,.func (fnOf "said" "said" (Ak Vb) (Ai Vb) (Ad Vb) .none LG_ LH_ LI_ LD_ Io_ LJ_),LE_⟩)
  (c_j2c:codeIn K Io_ "said"=true)
  (k_j2c:keepIn K (.ref XQ)=true)
  (a_j1y:nsIn K mainGlobals "last_said"=some (some (.ref BK)))
  (l_j1y:K.lookup BK=some ⟨Cb_,BY_,.func (fnOf "last_said" "last_said" (Ak EF) (Ai EF) (Ad EF) .none Cc_ Cd_ Ce_ BZ_ Ts Cf_),Ca_⟩)
  (c_j1y:codeIn K Ts "last_said"=true)
  (k_j1y:keepIn K (.ref BK)=true)
  (a_jp:PySem.W.findIn K (.ref C_j1) "answer"=some (some (.ref Bp)))
  (i_jp:PySem.W.isFn K (.ref Bp)=true)
  (l_jp:K.lookup Bp=some ⟨RX,RT,.func (fnOf "answer" "SayHunt.answer" (Ak B8) (Ai B8) (Ad B8) .none RY RZ R0 RU KG R1),RW⟩)
  (c_jp:codeIn K KG "SayHunt.answer"=true)
  (k_jp:keepIn K (.ref Bp)=true)
  (a_j16:PySem.W.findIn K (.ref C_j1) "halve"=some (some (.ref DE)))
  (i_j16:PySem.W.isFn K (.ref DE)=true)
  (l_j16:K.lookup DE=some ⟨W8,W5,.func (fnOf "halve" "Asker.halve" (Ak EG) (Ai EG) (Ad EG) .none W9 Xa Xb W6 OG Xc),W7⟩)
  (c_j16:codeIn K OG "Asker.halve"=true)
  (k_j16:keepIn K (.ref DE)=true)
  (a_j23:nsIn K mainGlobals "marks_of"=some (some (.ref II)))
  (l_j23:K.lookup II=some ⟨DK_,DH_,.func (fnOf "marks_of" "marks_of" (Ak Ho) (Ai Ho) (Ad Ho) .none DL_ DM_ DN_ DI_ VT DO_),DJ_⟩)
  (c_j23:codeIn K VT "marks_of"=true)
  (k_j23:keepIn K (.ref II)=true)
  (a_j1l:nsIn K mainGlobals "marks_by_row"=some (some (.ref Cn)))
  (l_j1l:K.lookup Cn=some ⟨VY,VU,.func (fnOf "marks_by_row" "marks_by_row" (Ak CU) (Ai CU) (Ad CU) .none VZ V0 V1 VW Nu V2),VX⟩)
  (c_j1l:codeIn K Nu "marks_by_row"=true)
  (k_j1l:keepIn K (.ref Cn)=true)
  (a_j1g:nsIn K mainGlobals "ways_by_marks"=some (some (.ref Ea)))
  (l_j1g:K.lookup Ea=some ⟨TY,TU,.func (fnOf "ways_by_marks" "ways_by_marks" (Ak De) (Ai De) (Ad De) .none TZ T1 T2 TV LA T3),TX⟩)
  (c_j1g:codeIn K LA "ways_by_marks"=true)
  (k_j1g:keepIn K (.ref Ea)=true)
  (a_jg:PySem.W.findIn K (.ref C_j1) "make_guess"=some (some (.ref Bq)))
  (i_jg:PySem.W.isFn K (.ref Bq)=true)
  (l_jg:K.lookup Bq=some ⟨Ny,Nv,.func (fnOf "make_guess" "SayHunt.make_guess" (Ak BG) (Ai BG) (Ad BG) .none Nz NA NB Nw Ig NC),Nx⟩)
  (c_jg:codeIn K Ig "SayHunt.make_guess"=true)
  (k_jg:keepIn K (.ref Bq)=true)
  (a_j1c:PySem.W.findIn K (.ref C_j7) "heard"=some (some (.ref Ct)))
  (i_j1c:PySem.W.isFn K (.ref Ct)=true)
  (l_j1c:K.lookup Ct=some ⟨Zc,Y9,.func (fnOf "heard" "Book.heard" (Ak Eo) (Ai Eo) (Ad Eo) .none Zd Ze Zf Za Qs Zg),Zb⟩)
  (c_j1c:codeIn K Qs "Book.heard"=true)
  (k_j1c:keepIn K (.ref Ct)=true)
  (a_j1m:nsIn K mainGlobals "first_unlike"=some (some (.ref E2)))
  (l_j1m:K.lookup E2=some ⟨V6,V3,.func (fnOf "first_unlike" "first_unlike" (Ak DW) (Ai DW) (Ad DW) .none V7 V8 V9 V4 NF Wa),V5⟩)
  (c_j1m:codeIn K NF "first_unlike"=true)
  (k_j1m:keepIn K (.ref E2)=true)
  (a_jh:PySem.W.findIn K (.ref C_j1) "wrong_word"=some (some (.ref Br)))
  (i_jh:PySem.W.isFn K (.ref Br)=true)
  (l_jh:K.lookup Br=some ⟨NL,NG,.func (fnOf "wrong_word" "SayHunt.wrong_word" (Ak BH) (Ai BH) (Ad BH) .none NM NN NO NH Ih NQ),NJ⟩)
  (c_jh:codeIn K Ih "SayHunt.wrong_word"=true)
  (k_jh:keepIn K (.ref Br)=true)
  (a_je:PySem.W.findIn K (.ref C_j1) "look_at_guess"=some (some (.ref Bs)))
  (i_je:PySem.W.isFn K (.ref Bs)=true)
  (l_je:K.lookup Bs=some ⟨NU,NR,.func (fnOf "look_at_guess" "Hunt.look_at_guess" (Ak BI) (Ai BI) (Ad BI) .none NV NW NX NS Ii NY),NT⟩)
  (c_je:codeIn K Ii "Hunt.look_at_guess"=true)
  (k_je:keepIn K (.ref Bs)=true)
  (a_j24:nsIn K mainGlobals "stranger"=some (some (.ref IK)))
  (l_j24:K.lookup IK=some ⟨DS_,DP_,.func (fnOf "stranger" "stranger" (Ak Hq) (Ai Hq) (Ad Hq) .none DT_ DU_ DV_ DQ_ Wb DW_),DR_⟩)
  (c_j24:codeIn K Wb "stranger"=true)
  (k_j24:keepIn K (.ref IK)=true)
  (a_jd:PySem.W.findIn K (.ref C_j1) "look_at_words"=some (some (.ref Bn)))
  (i_jd:PySem.W.isFn K (.ref Bn)=true)
  (l_jd:K.lookup Bn=some ⟨L5,LY,.func (fnOf "look_at_words" "Asker.look_at_words" (Ak By) (Ai By) (Ad By) .none L7 L8 L9 LZ Hi Ma),L4⟩)
  (c_jd:codeIn K Hi "Asker.look_at_words"=true)
  (k_jd:keepIn K (.ref Bn)=true)
  (a_jo:PySem.W.findIn K (.ref C_j1) "next_wish"=some (some (.ref Cc)))
  (i_jo:PySem.W.isFn K (.ref Cc)=true)
  (l_jo:K.lookup Cc=some ⟨R6,R3,.func (fnOf "next_wish" "Hunt.next_wish" (Ak CH) (Ai CH) (Ad CH) .none R7 R8 R9 R4 KH Sa),R5⟩)
  (c_jo:codeIn K KH "Hunt.next_wish"=true)
  (k_jo:keepIn K (.ref Cc)=true)
  (a_j14:PySem.W.findIn K (.ref C_j1) "go_on"=some (some (.ref Bw)))
  (i_j14:PySem.W.isFn K (.ref Bw)=true)
  (l_j14:K.lookup Bw=some ⟨Xg,Xd,.func (fnOf "go_on" "Turns.go_on" (Ak CM) (Ai CM) (Ad CM) .none Xh Xi Xj Xe OH Xk),Xf⟩)
  (c_j14:codeIn K OH "Turns.go_on"=true)
  (k_j14:keepIn K (.ref Bw)=true)
  (sg_jz:PySem.W.specialIn K (.ref C_j9) "__getattribute__"=some (some (.builtin "type.__getattribute__")))
  (rd_jz:PySem.W.readsIn K C_j9 (.type "type")=true)
  (a_jz:PySem.W.findCls K (.ref C_j9) (.type "type") "__init__"=some (.val (.ref Fq)))
  (l_jz:K.lookup Fq=some ⟨Zk,Zh,.func (fnOf "__init__" "Turns.__init__" (Ak Fb) (Ai Fb) (Ad Fb) .none Zl Zm Zn Zi Qt Zo),Zj⟩)
  (c_jz:codeIn K Qt "Turns.__init__"=true)
  (k_jz:keepIn K (.ref Fq)=true)
  (sg_j17:PySem.W.specialIn K (.ref C_ji) "__getattribute__"=some (some (.builtin "type.__getattribute__")))
  (rd_j17:PySem.W.readsIn K C_ji (.type "type")=true)
  (a_j17:PySem.W.findCls K (.ref C_ji) (.type "type") "__init__"=some (.val (.ref Gj)))
  (l_j17:K.lookup Gj=some ⟨Cj_,Cg_,.func (fnOf "__init__" "Hunt.__init__" (Ak Gh) (Ai Gh) (Ad Gh) .none Ck_ Cl_ Cm_ Ch_ Tt Cn_),Ci_⟩)
  (c_j17:codeIn K Tt "Hunt.__init__"=true)
  (k_j17:keepIn K (.ref Gj)=true)
  (a_jf:PySem.W.findIn K (.ref C_j1) "first_ends"=some (some (.ref Bt)))
  (i_jf:PySem.W.isFn K (.ref Bt)=true)
  (l_jf:K.lookup Bt=some ⟨N2,NZ,.func (fnOf "first_ends" "SayHunt.first_ends" (Ak BJ) (Ai BJ) (Ad BJ) .none N3 N4 N5 N0 Ij N6),N1⟩)
  (c_jf:codeIn K Ij "SayHunt.first_ends"=true)
  (k_jf:keepIn K (.ref Bt)=true)
  (a_j1k:PySem.W.findIn K (.ref C_j1) "__init__"=some (some (.ref EA)))
  (i_j1k:PySem.W.isFn K (.ref EA)=true)
  (l_j1k:K.lookup EA=some ⟨Zs,Zp,.func (fnOf "__init__" "Asker.__init__" (Ak Fc) (Ai Fc) (Ad Fc) .none Zt Zu Zv Zq Qu Zw),Zr⟩)
  (c_j1k:codeIn K Qu "Asker.__init__"=true)
  (k_j1k:keepIn K (.ref EA)=true)
  (a_ju:PySem.W.findIn K (.ref C_j4) "__init__"=some (some (.ref Cy)))
  (i_ju:PySem.W.isFn K (.ref Cy)=true)
  (l_ju:K.lookup Cy=some ⟨T7,T4,.func (fnOf "__init__" "SayAsker.__init__" (Ak Df) (Ai Df) (Ad Df) .none T8 T9 Ua T5 LB Ub),T6⟩)
  (c_ju:codeIn K LB "SayAsker.__init__"=true)
  (k_ju:keepIn K (.ref Cy)=true)
  (a_j15:PySem.W.findIn K (.ref C_j1) "access"=some (some (.ref DJ)))
  (i_j15:PySem.W.isFn K (.ref DJ)=true)
  (l_j15:K.lookup DJ=some ⟨Xo,Xl,.func (fnOf "access" "Hunt.access" (Ak EH) (Ai EH) (Ad EH) .none Xp Xq Xr Xm OI Xs),Xn⟩)
  (c_j15:codeIn K OI "Hunt.access"=true)
  (k_j15:keepIn K (.ref DJ)=true)
  (a_jn:PySem.W.findIn K (.ref C_j4) "access"=some (some (.ref Ao)))
  (i_jn:PySem.W.isFn K (.ref Ao)=true)
  (l_jn:K.lookup Ao=some ⟨Qy,Qv,.func (fnOf "access" "SayAsker.access" (Ak Bh) (Ai Bh) (Ad Bh) .none Qz QA QB Qw JT QC),Qx⟩)
  (c_jn:codeIn K JT "SayAsker.access"=true)
  (k_jn:keepIn K (.ref Ao)=true)
  (a_jw:PySem.W.findIn K (.ref C_j1) "tellers"=some (some (.ref C0)))
  (i_jw:PySem.W.isFn K (.ref C0)=true)
  (l_jw:K.lookup C0=some ⟨Wi,Wc,.func (fnOf "tellers" "Hunt.tellers" (Ak DX) (Ai DX) (Ad DX) .none Wj Wk Wl We N7 Wm),Wg⟩)
  (c_jw:codeIn K N7 "Hunt.tellers"=true)
  (k_jw:keepIn K (.ref C0)=true)
  (a_jl:PySem.W.findIn K (.ref C_j4) "tellers"=some (some (.ref Al)))
  (i_jl:PySem.W.isFn K (.ref Al)=true)
  (l_jl:K.lookup Al=some ⟨Pe,O9,.func (fnOf "tellers" "SayAsker.tellers" (Ak A5) (Ai A5) (Ad A5) .none Pf Pg Ph Pb Jw Pj),Pd⟩)
  (c_jl:codeIn K Jw "SayAsker.tellers"=true)
  (k_jl:keepIn K (.ref Al)=true)
  (a_j1e:PySem.W.findIn K (.ref C_j1) "heard"=some (some (.ref Ex)))
  (i_j1e:PySem.W.isFn K (.ref Ex)=true)
  (l_j1e:K.lookup Ex=some ⟨ZA,Zx,.func (fnOf "heard" "Hunt.heard" (Ak Fd) (Ai Fd) (Ad Fd) .none ZC ZD ZE Zy QD ZF),Zz⟩)
  (c_j1e:codeIn K QD "Hunt.heard"=true)
  (k_j1e:keepIn K (.ref Ex)=true)
  (a_js:PySem.W.findIn K (.ref C_j4) "heard"=some (some (.ref AG)))
  (i_js:PySem.W.isFn K (.ref AG)=true)
  (l_js:K.lookup AG=some ⟨Sf,Sb,.func (fnOf "heard" "SayAsker.heard" (Ak BA) (Ai BA) (Ad BA) .none Sg Sh Si Sd KI Sj),Se⟩)
  (c_js:codeIn K KI "SayAsker.heard"=true)
  (k_js:keepIn K (.ref AG)=true)
  (a_j1z:nsIn K mainGlobals "_law_cell"=some (some (.ref BV)))
  (l_j1z:K.lookup BV=some ⟨Cr_,Co_,.func (fnOf "_law_cell" "_law_cell" (Ak DY) (Ai DY) (Ad DY) .none Cs_ Ct_ Cu_ Cp_ Tu Cv_),Cq_⟩)
  (c_j1z:codeIn K Tu "_law_cell"=true)
  (k_j1z:keepIn K (.ref BV)=true)
  (a_j13:PySem.W.findIn K (.ref C_j1) "wants"=some (some (.ref DI)))
  (i_j13:PySem.W.isFn K (.ref DI)=true)
  (l_j13:K.lookup DI=some ⟨Xw,Xt,.func (fnOf "wants" "Turns.wants" (Ak EI) (Ai EI) (Ad EI) .none Xx Xy Xz Xu OJ XA),Xv⟩)
  (c_j13:codeIn K OJ "Turns.wants"=true)
  (k_j13:keepIn K (.ref DI)=true)
  (a_jq:PySem.W.findIn K (.ref C_j4) "wants"=some (some (.ref AH)))
  (i_jq:PySem.W.isFn K (.ref AH)=true)
  (l_jq:K.lookup AH=some ⟨Sn,Sk,.func (fnOf "wants" "SayAsker.wants" (Ak BB) (Ai BB) (Ad BB) .none So Sq Sr Sl KJ Ss),Sm⟩)
  (c_jq:codeIn K KJ "SayAsker.wants"=true)
  (k_jq:keepIn K (.ref AH)=true)
  (a_j27:nsIn K mainGlobals "is_mark"=some (some (.ref Kp)))
  (l_j27:K.lookup Kp=some ⟨Ge_,Gb_,.func (fnOf "is_mark" "is_mark" (Ak Ja) (Ai Ja) (Ad Ja) .none Gf_ Gg_ Gh_ Gc_ X0 Gi_),Gd_⟩)
  (c_j27:codeIn K X0 "is_mark"=true)
  (k_j27:keepIn K (.ref Kp)=true)
  (a_j1t:nsIn K mainGlobals "check_mark"=some (some (.ref Gv)))
  (l_j1t:K.lookup Gv=some ⟨ZK,ZH,.func (fnOf "check_mark" "check_mark" (Ak Fe) (Ai Fe) (Ad Fe) .none ZL ZM ZN ZI QE ZO),ZJ⟩)
  (c_j1t:codeIn K QE "check_mark"=true)
  (k_j1t:keepIn K (.ref Gv)=true)
  (a_j1b:PySem.W.findIn K (.ref C_j7) "check"=some (some (.ref Cs)))
  (i_j1b:PySem.W.isFn K (.ref Cs)=true)
  (l_j1b:K.lookup Cs=some ⟨ZS,ZP,.func (fnOf "check" "Book.check" (Ak Ep) (Ai Ep) (Ad Ep) .none ZT ZU ZV ZQ QF ZW),ZR⟩)
  (c_j1b:codeIn K QF "Book.check"=true)
  (k_j1b:keepIn K (.ref Cs)=true)
  (a_j1r:PySem.W.findIn K (.ref C_j7) "put"=some (some (.ref Ec)))
  (i_j1r:PySem.W.isFn K (.ref Ec)=true)
  (l_j1r:K.lookup Ec=some ⟨Ea_,DX_,.func (fnOf "put" "Book.put" (Ak Gp) (Ai Gp) (Ad Gp) .none Eb_ Ec_ Ed_ DY_ Wn Ee_),DZ_⟩)
  (c_j1r:codeIn K Wn "Book.put"=true)
  (k_j1r:keepIn K (.ref Ec)=true)
  (a_jj:PySem.W.findIn K (.ref C_j1) "check_wants"=some (some (.ref Ap)))
  (i_jj:PySem.W.isFn K (.ref Ap)=true)
  (l_jj:K.lookup Ap=some ⟨Ov,Oq,.func (fnOf "check_wants" "Turns.check_wants" (Ak A9) (Ai A9) (Ad A9) .none Ow Ox Oy Ot ID Oz),Ou⟩)
  (c_jj:codeIn K ID "Turns.check_wants"=true)
  (k_jj:keepIn K (.ref Ap)=true)
  (a_jk:PySem.W.findIn K (.ref C_j1) "keep_answer"=some (some (.ref BQ)))
  (i_jk:PySem.W.isFn K (.ref BQ)=true)
  (l_jk:K.lookup BQ=some ⟨Pn,Pk,.func (fnOf "keep_answer" "Hunt.keep_answer" (Ak B3) (Ai B3) (Ad B3) .none Po Pp Pq Pl Jx Pt),Pm⟩)
  (c_jk:codeIn K Jx "Hunt.keep_answer"=true)
  (k_jk:keepIn K (.ref BQ)=true)
  (a_j1f:PySem.W.findIn K (.ref C_j1) "hear"=some (some (.ref Ey)))
  (i_j1f:PySem.W.isFn K (.ref Ey)=true)
  (l_j1f:K.lookup Ey=some ⟨Z0,ZX,.func (fnOf "hear" "Asker.hear" (Ak Ff) (Ai Ff) (Ad Ff) .none Z1 Z2 Z3 ZY QG Z4),ZZ⟩)
  (c_j1f:codeIn K QG "Asker.hear"=true)
  (k_j1f:keepIn K (.ref Ey)=true)
  (a_jt:PySem.W.findIn K (.ref C_j4) "hear"=some (some (.ref Cw)))
  (i_jt:PySem.W.isFn K (.ref Cw)=true)
  (l_jt:K.lookup Cw=some ⟨Ug,Uc,.func (fnOf "hear" "SayAsker.hear" (Ak Dh) (Ai Dh) (Ad Dh) .none Uh Ui Uj Ud LC Uk),Ue⟩)
  (c_jt:codeIn K LC "SayAsker.hear"=true)
  (k_jt:keepIn K (.ref Cw)=true)
  (a_j25:nsIn K mainGlobals "_law_big"=some (some (.ref IS)))
  (l_j25:K.lookup IS=some ⟨Ei_,Ef_,.func (fnOf "_law_big" "_law_big" (Ak Hr) (Ai Hr) (Ad Hr) .none Ej_ Ek_ El_ Eg_ Wo Em_),Eh_⟩)
  (c_j25:codeIn K Wo "_law_big"=true)
  (k_j25:keepIn K (.ref IS)=true)
  (a_j20:nsIn K mainGlobals "_law_mark"=some (some (.ref ER)))
  (l_j20:K.lookup ER=some ⟨Cz_,Cw_,.func (fnOf "_law_mark" "_law_mark" (Ak Fg) (Ai Fg) (Ad Fg) .none CA_ CB_ CC_ Cx_ Tv CD_),Cy_⟩)
  (c_j20:codeIn K Tv "_law_mark"=true)
  (k_j20:keepIn K (.ref ER)=true)
  (a_j1w:nsIn K mainGlobals "_law_grows"=some (some (.ref DT)))
  (l_j1w:K.lookup DT=some ⟨Z8,Z5,.func (fnOf "_law_grows" "_law_grows" (Ak Er) (Ai Er) (Ad Er) .none Z9 Aa_ Ab_ Z6 QH Ac_),Z7⟩)
  (c_j1w:codeIn K QH "_law_grows"=true)
  (k_j1w:keepIn K (.ref DT)=true)
  (a_j1u:nsIn K mainGlobals "_law_whole"=some (some (.ref Cd)))
  (l_j1u:K.lookup Cd=some ⟨Ag_,Ad_,.func (fnOf "_law_whole" "_law_whole" (Ak DB) (Ai DB) (Ad DB) .none Ah_ Ai_ Aj_ Ae_ QI Ak_),Af_⟩)
  (c_j1u:codeIn K QI "_law_whole"=true)
  (k_j1u:keepIn K (.ref Cd)=true)
  (a_j1n:nsIn K mainGlobals "_law_is_word"=some (some (.ref Co)))
  (l_j1n:K.lookup Co=some ⟨Wt,Wq,.func (fnOf "_law_is_word" "_law_is_word" (Ak CV) (Ai CV) (Ad CV) .none Wu Wv Ww Wr N8 Wy),Ws⟩)
  (c_j1n:codeIn K N8 "_law_is_word"=true)
  (k_j1n:keepIn K (.ref Co)=true)
  (a_j1a:nsIn K mainGlobals "_law_wish_good"=some (some (.ref Dy)))
  (l_j1a:K.lookup Dy=some ⟨Sx,Su,.func (fnOf "_law_wish_good" "_law_wish_good" (Ak CI) (Ai CI) (Ad CI) .none Sy SA SD Sv KL SE),Sw⟩)
  (c_j1a:codeIn K KL "_law_wish_good"=true)
  (k_j1a:keepIn K (.ref Dy)=true)
  (a_j11:nsIn K mainGlobals "_law_words_good"=some (some (.ref BF)))
  (l_j11:K.lookup BF=some ⟨QM,QJ,.func (fnOf "_law_words_good" "_law_words_good" (Ak BY) (Ai BY) (Ad BY) .none QN QO QP QK JU QQ),QL⟩)
  (c_j11:codeIn K JU "_law_words_good"=true)
  (k_j11:keepIn K (.ref BF)=true)
  (a_jv:nsIn K mainGlobals "_law_access_good"=some (some (.ref Bx)))
  (l_jv:K.lookup Bx=some ⟨PD,Pu,.func (fnOf "_law_access_good" "_law_access_good" (Ak BP) (Ai BP) (Ad BP) .none PH PJ PL Px Jy PM),Pz⟩)
  (c_jv:codeIn K Jy "_law_access_good"=true)
  (k_jv:keepIn K (.ref Bx)=true)
  (a_j18:nsIn K mainGlobals "_law_ends_good"=some (some (.ref BU)))
  (l_j18:K.lookup BU=some ⟨SJ,SF,.func (fnOf "_law_ends_good" "_law_ends_good" (Ak B9) (Ai B9) (Ad B9) .none SK SM SN SH KN SR),SI⟩)
  (c_j18:codeIn K KN "_law_ends_good"=true)
  (k_j18:keepIn K (.ref BU)=true)
  (a_j1v:nsIn K mainGlobals "_law_marks"=some (some (.ref DR)))
  (l_j1v:K.lookup DR=some ⟨Ao_,Al_,.func (fnOf "_law_marks" "_law_marks" (Ak Es) (Ai Es) (Ad Es) .none Ap_ Aq_ Ar_ Am_ QR As_),An_⟩)
  (c_j1v:codeIn K QR "_law_marks"=true)
  (k_j1v:keepIn K (.ref DR)=true)
  (a_j1j:nsIn K mainGlobals "_law_end_good"=some (some (.ref Ei)))
  (l_j1j:K.lookup Ei=some ⟨Uq,Ul,.func (fnOf "_law_end_good" "_law_end_good" (Ak Di) (Ai Di) (Ad Di) .none Ur Us Ut Um LD Uu),Uo⟩)
  (c_j1j:codeIn K LD "_law_end_good"=true)
  (k_j1j:keepIn K (.ref Ei)=true)
  (a_j1d:PySem.W.findIn K (.ref C_j1) "agree"=some (some (.ref Ez)))
  (i_j1d:PySem.W.isFn K (.ref Ez)=true)
  (l_j1d:K.lookup Ez=some ⟨Aw_,At_,.func (fnOf "agree" "Hunt.agree" (Ak Fh) (Ai Fh) (Ad Fh) .none Ax_ Ay_ Az_ Au_ QS AA_),Av_⟩)
  (c_j1d:codeIn K QS "Hunt.agree"=true)
  (k_j1d:keepIn K (.ref Ez)=true)
  (a_jr:PySem.W.findIn K (.ref C_j4) "agree"=some (some (.ref Cf)))
  (i_jr:PySem.W.isFn K (.ref Cf)=true)
  (l_jr:K.lookup Cf=some ⟨SW,SS,.func (fnOf "agree" "SayAsker.agree" (Ak CJ) (Ai CJ) (Ad CJ) .none SX SY S0 SU KO S4),SV⟩)
  (c_jr:codeIn K KO "SayAsker.agree"=true)
  (k_jr:keepIn K (.ref Cf)=true)
  (a_j1h:nsIn K mainGlobals "_law_rows_are"=some (some (.ref Ed)))
  (l_j1h:K.lookup Ed=some ⟨Uy,Uv,.func (fnOf "_law_rows_are" "_law_rows_are" (Ak Dj) (Ai Dj) (Ad Dj) .none Uz UA UB Uw LF UC),Ux⟩)
  (c_j1h:codeIn K LF "_law_rows_are"=true)
  (k_j1h:keepIn K (.ref Ed)=true)
  (a_j1i:nsIn K mainGlobals "_law_house_is"=some (some (.ref Eg)))
  (l_j1i:K.lookup Eg=some ⟨UH,UD,.func (fnOf "_law_house_is" "_law_house_is" (Ak Dk) (Ai Dk) (Ad Dk) .none UI UJ UK UE LG UL),UG⟩)
  (c_j1i:codeIn K LG "_law_house_is"=true)
  (k_j1i:keepIn K (.ref Eg)=true)
  (a_j21:nsIn K mainGlobals "_law_talk"=some (some (.ref EO)))
  (l_j21:K.lookup EO=some ⟨CH_,CE_,.func (fnOf "_law_talk" "_law_talk" (Ak Fi) (Ai Fi) (Ad Fi) .none CI_ CJ_ CK_ CF_ Tw CL_),CG_⟩)
  (c_j21:codeIn K Tw "_law_talk"=true)
  (k_j21:keepIn K (.ref EO)=true)
  (a_j19:nsIn K mainGlobals "_law_due_guess"=some (some (.ref Dx)))
  (l_j19:K.lookup Dx=some ⟨S9,S5,.func (fnOf "_law_due_guess" "_law_due_guess" (Ak CK) (Ai CK) (Ad CK) .none Ta Tc Td S7 KP Te),S8⟩)
  (c_j19:codeIn K KP "_law_due_guess"=true)
  (k_j19:keepIn K (.ref Dx)=true)
  (a_j12:nsIn K mainGlobals "_law_guess_good"=some (some (.ref Dd)))
  (l_j12:K.lookup Dd=some ⟨QW,QT,.func (fnOf "_law_guess_good" "_law_guess_good" (Ak Ck) (Ai Ck) (Ad Ck) .none QX QY QZ QU JV Q0),QV⟩)
  (c_j12:codeIn K JV "_law_guess_good"=true)
  (k_j12:keepIn K (.ref Dd)=true)
  (a_jb:PySem.W.findIn K (.ref C_j1) "keep_objection"=some (some (.ref Bo)))
  (i_jb:PySem.W.isFn K (.ref Bo)=true)
  (l_jb:K.lookup Bo=some ⟨Me,Mb,.func (fnOf "keep_objection" "Hunt.keep_objection" (Ak Bz) (Ai Bz) (Ad Bz) .none Mf Mg Mh Mc Hj Mi),Md⟩)
  (c_jb:codeIn K Hj "Hunt.keep_objection"=true)
  (k_jb:keepIn K (.ref Bo)=true)
  (a_jy:PySem.W.findIn K (.ref C_j1) "differ"=some (some (.ref C1)))
  (i_jy:PySem.W.isFn K (.ref C1)=true)
  (l_jy:K.lookup C1=some ⟨WD,Wz,.func (fnOf "differ" "Asker.differ" (Ak DZ) (Ai DZ) (Ad DZ) .none WE WG WH WA N9 WI),WB⟩)
  (c_jy:codeIn K N9 "Asker.differ"=true)
  (k_jy:keepIn K (.ref C1)=true)
  (a_jm:PySem.W.findIn K (.ref C_j4) "differ"=some (some (.ref B2)))
  (i_jm:PySem.W.isFn K (.ref B2)=true)
  (l_jm:K.lookup B2=some ⟨Q4,Q1,.func (fnOf "differ" "SayAsker.differ" (Ak Cm) (Ai Cm) (Ad Cm) .none Q5 Q6 Q7 Q2 JW Q8),Q3⟩)
  (c_jm:codeIn K JW "SayAsker.differ"=true)
  (k_jm:keepIn K (.ref B2)=true)
  (a_j1o:nsIn K mainGlobals "_law_objects"=some (some (.ref E3)))
  (l_j1o:K.lookup E3=some ⟨WM,WJ,.func (fnOf "_law_objects" "_law_objects" (Ak D0) (Ai D0) (Ad D0) .none WN WO WQ WK Oa WR),WL⟩)
  (c_j1o:codeIn K Oa "_law_objects"=true)
  (k_j1o:keepIn K (.ref E3)=true)
  (a_j1x:nsIn K mainGlobals "_law_shown"=some (some (.ref GL)))
  (l_j1x:K.lookup GL=some ⟨AE_,AB_,.func (fnOf "_law_shown" "_law_shown" (Ak Fj) (Ai Fj) (Ad Fj) .none AF_ AG_ AH_ AC_ Q9 AI_),AD_⟩)
  (c_j1x:codeIn K Q9 "_law_shown"=true)
  (k_j1x:keepIn K (.ref GL)=true)
  (a_j22:nsIn K mainGlobals "_law_hunt"=some (some (.ref HJ)))
  (l_j22:K.lookup HJ=some ⟨CP_,CM_,.func (fnOf "_law_hunt" "_law_hunt" (Ak Gi) (Ai Gi) (Ad Gi) .none CQ_ CR_ CS_ CN_ Tx CT_),CO_⟩)
  (c_j22:codeIn K Tx "_law_hunt"=true)
  (k_j22:keepIn K (.ref HJ)=true)
  (a_j2e:nsIn K mainGlobals "law"=some (some (.ref LB_)))
  (l_j2e:K.lookup LB_=some ⟨Nk_,Ni_,.func (fnOf "law" "law" (Ak Yy) (Ai Yy) (Ad Yy) .none KI_ KJ_ KK_ KH_ Ip_ KL_),Nj_⟩)
  (c_j2e:codeIn K Ip_ "law"=true)
  (k_j2e:keepIn K (.ref LB_)=true)
  (z_all:nsIn K mainGlobals "all"=some none)
  (z_bool:nsIn K mainGlobals "bool"=some none)
  (z_enumerate:nsIn K mainGlobals "enumerate"=some none)
  (z_int:nsIn K mainGlobals "int"=some none)
  (z_isinstance:nsIn K mainGlobals "isinstance"=some none)
  (z_len:nsIn K mainGlobals "len"=some none)
  (z_list:nsIn K mainGlobals "list"=some none)
  (z_max:nsIn K mainGlobals "max"=some none)
  (z_range:nsIn K mainGlobals "range"=some none)
  (z_tuple:nsIn K mainGlobals "tuple"=some none)
  (z_zip:nsIn K mainGlobals "zip"=some none)
  (m_j8:nsIn K mainGlobals "AskError"=some (some (.ref C_j8)))
  (m_j5:nsIn K mainGlobals "BadWord"=some (some (.ref C_j5)))
  (m_j6:nsIn K mainGlobals "BadMark"=some (some (.ref C_j6)))
  (m_j3:nsIn K mainGlobals "OutOfTurn"=some (some (.ref C_j3)))
  (m_j2:nsIn K mainGlobals "NoDifference"=some (some (.ref C_j2)))
  (m_j0:nsIn K mainGlobals "Contradiction"=some (some (.ref C_j0)))
  (x_j5:PySem.W.excIn K C_j5 bmV "ValueError.__new__"=true)
  (ga_j5:PySem.W.findIn K (.ref C_j5) "__getattribute__"=some (some (.builtin "BaseException.__getattribute__")))
  (hk_j5:PySem.W.findIn K (.ref C_j5) "__getattr__"=some none)
  {cd_j5:ClassData}
  (cl_j5:PySem.W.clsIn K C_j5=some cd_j5)
  (ca_j5:PySem.W.findIn K (.ref C_j5) "__class__"=some (some (.builtin "object.__class__")))
  (mo_j5:PySem.W.mroIn K C_j5 (.type "object")=some true)
  (mb_j5:PySem.W.mroIn K C_j5 (.type "BaseException")=some true)
  (e_j5:exmOne K (.ref C_j5) (.ref C_j8)=some true)
  (v_j5:kitOne K (.ref C_j5) (.type "ValueError")=some true)
  (ee_j5:exmOne K (.ref C_j5) (.ref C_j5)=some true)
  (k_j5_j8:kitOne K (.ref C_j5) (.ref C_j8)=some true)
  (k_j5_j5:kitOne K (.ref C_j5) (.ref C_j5)=some true)
  (k_j5_j6:kitOne K (.ref C_j5) (.ref C_j6)=some false)
  (k_j5_j3:kitOne K (.ref C_j5) (.ref C_j3)=some false)
  (k_j5_j2:kitOne K (.ref C_j5) (.ref C_j2)=some false)
  (k_j5_j0:kitOne K (.ref C_j5) (.ref C_j0)=some false)
  (x_j6:PySem.W.excIn K C_j6 bmV "ValueError.__new__"=true)
  (ga_j6:PySem.W.findIn K (.ref C_j6) "__getattribute__"=some (some (.builtin "BaseException.__getattribute__")))
  (hk_j6:PySem.W.findIn K (.ref C_j6) "__getattr__"=some none)
  {cd_j6:ClassData}
  (cl_j6:PySem.W.clsIn K C_j6=some cd_j6)
  (ca_j6:PySem.W.findIn K (.ref C_j6) "__class__"=some (some (.builtin "object.__class__")))
  (mo_j6:PySem.W.mroIn K C_j6 (.type "object")=some true)
  (mb_j6:PySem.W.mroIn K C_j6 (.type "BaseException")=some true)
  (e_j6:exmOne K (.ref C_j6) (.ref C_j8)=some true)
  (v_j6:kitOne K (.ref C_j6) (.type "ValueError")=some true)
  (ee_j6:exmOne K (.ref C_j6) (.ref C_j6)=some true)
  (k_j6_j8:kitOne K (.ref C_j6) (.ref C_j8)=some true)
  (k_j6_j5:kitOne K (.ref C_j6) (.ref C_j5)=some false)
  (k_j6_j6:kitOne K (.ref C_j6) (.ref C_j6)=some true)
  (k_j6_j3:kitOne K (.ref C_j6) (.ref C_j3)=some false)
  (k_j6_j2:kitOne K (.ref C_j6) (.ref C_j2)=some false)
  (k_j6_j0:kitOne K (.ref C_j6) (.ref C_j0)=some false)
  (x_j3:PySem.W.excIn K C_j3 bmV "ValueError.__new__"=true)
  (ga_j3:PySem.W.findIn K (.ref C_j3) "__getattribute__"=some (some (.builtin "BaseException.__getattribute__")))
  (hk_j3:PySem.W.findIn K (.ref C_j3) "__getattr__"=some none)
  {cd_j3:ClassData}
  (cl_j3:PySem.W.clsIn K C_j3=some cd_j3)
  (ca_j3:PySem.W.findIn K (.ref C_j3) "__class__"=some (some (.builtin "object.__class__")))
  (mo_j3:PySem.W.mroIn K C_j3 (.type "object")=some true)
  (mb_j3:PySem.W.mroIn K C_j3 (.type "BaseException")=some true)
  (e_j3:exmOne K (.ref C_j3) (.ref C_j8)=some true)
  (v_j3:kitOne K (.ref C_j3) (.type "ValueError")=some true)
  (ee_j3:exmOne K (.ref C_j3) (.ref C_j3)=some true)
  (k_j3_j8:kitOne K (.ref C_j3) (.ref C_j8)=some true)
  (k_j3_j5:kitOne K (.ref C_j3) (.ref C_j5)=some false)
  (k_j3_j6:kitOne K (.ref C_j3) (.ref C_j6)=some false)
  (k_j3_j3:kitOne K (.ref C_j3) (.ref C_j3)=some true)
  (k_j3_j2:kitOne K (.ref C_j3) (.ref C_j2)=some false)
  (k_j3_j0:kitOne K (.ref C_j3) (.ref C_j0)=some false)
  (x_j2:PySem.W.excIn K C_j2 bmV "ValueError.__new__"=true)
  (ga_j2:PySem.W.findIn K (.ref C_j2) "__getattribute__"=some (some (.builtin "BaseException.__getattribute__")))
  (hk_j2:PySem.W.findIn K (.ref C_j2) "__getattr__"=some none)
  {cd_j2:ClassData}
  (cl_j2:PySem.W.clsIn K C_j2=some cd_j2)
  (ca_j2:PySem.W.findIn K (.ref C_j2) "__class__"=some (some (.builtin "object.__class__")))
  (mo_j2:PySem.W.mroIn K C_j2 (.type "object")=some true)
  (mb_j2:PySem.W.mroIn K C_j2 (.type "BaseException")=some true)
  (e_j2:exmOne K (.ref C_j2) (.ref C_j8)=some true)
  (v_j2:kitOne K (.ref C_j2) (.type "ValueError")=some true)
  (ee_j2:exmOne K (.ref C_j2) (.ref C_j2)=some true)
  (k_j2_j8:kitOne K (.ref C_j2) (.ref C_j8)=some true)
  (k_j2_j5:kitOne K (.ref C_j2) (.ref C_j5)=some false)
  (k_j2_j6:kitOne K (.ref C_j2) (.ref C_j6)=some false)
  (k_j2_j3:kitOne K (.ref C_j2) (.ref C_j3)=some false)
  (k_j2_j2:kitOne K (.ref C_j2) (.ref C_j2)=some true)
  (k_j2_j0:kitOne K (.ref C_j2) (.ref C_j0)=some false)
  (x_j0:PySem.W.excIn K C_j0 bmV "ValueError.__new__"=true)
  (ga_j0:PySem.W.findIn K (.ref C_j0) "__getattribute__"=some (some (.builtin "BaseException.__getattribute__")))
  (hk_j0:PySem.W.findIn K (.ref C_j0) "__getattr__"=some none)
  {cd_j0:ClassData}
  (cl_j0:PySem.W.clsIn K C_j0=some cd_j0)
  (ca_j0:PySem.W.findIn K (.ref C_j0) "__class__"=some (some (.builtin "object.__class__")))
  (mo_j0:PySem.W.mroIn K C_j0 (.type "object")=some true)
  (mb_j0:PySem.W.mroIn K C_j0 (.type "BaseException")=some true)
  (e_j0:exmOne K (.ref C_j0) (.ref C_j8)=some true)
  (v_j0:kitOne K (.ref C_j0) (.type "ValueError")=some true)
  (ee_j0:exmOne K (.ref C_j0) (.ref C_j0)=some true)
  (k_j0_j8:kitOne K (.ref C_j0) (.ref C_j8)=some true)
  (k_j0_j5:kitOne K (.ref C_j0) (.ref C_j5)=some false)
  (k_j0_j6:kitOne K (.ref C_j0) (.ref C_j6)=some false)
  (k_j0_j3:kitOne K (.ref C_j0) (.ref C_j3)=some false)
  (k_j0_j2:kitOne K (.ref C_j0) (.ref C_j2)=some false)
  (k_j0_j0:kitOne K (.ref C_j0) (.ref C_j0)=some true)
  (gs:PySem.W.specialIn K (.builtin "object.__class__") "__get__"=some (some (.builtin "getset_descriptor.__get__")))
  (tk:PySem.W.takesIn K (.builtin "object.__class__")=some true)
  : ∃fd:α6,(∀(s:Shared) (v:Value),BindsTo s fd ⟨[v],[]⟩ [("script",v)])/\∀base:Heap,K.In base->base.Ns mainGlobals mg->FnOk l.prog w K mg base CX0 18 fa fd ["script"] (Ji_ K):=by
 have e:=hfa.symm.trans (jr_ X G a_j2e)
 cases e
 have T:Txt mg:=⟨qd_ X G z_all,qd_ X G z_bool,qd_ X G z_enumerate,qd_ X G z_int,qd_ X G z_isinstance,qd_ X G z_len,qd_ X G z_list,qd_ X G z_max,qd_ X G z_range,qd_ X G z_tuple,qd_ X G z_zip⟩
 have Z:Exs K mg C_j8 C_j5 C_j6 C_j3 C_j2 C_j0:=⟨jr_ X G m_j8,jr_ X G m_j5,jr_ X G m_j6,jr_ X G m_j3,jr_ X G m_j2,jr_ X G m_j0,x_j5,⟨ga_j5,hk_j5,by rw[cl_j5];rfl,ca_j5,gs,tk,mo_j5,mb_j5⟩,e_j5,v_j5,ee_j5,k_j5_j8,k_j5_j5,k_j5_j6,k_j5_j3,k_j5_j2,k_j5_j0,x_j6,⟨ga_j6,hk_j6,by rw[cl_j6];rfl,ca_j6,gs,tk,mo_j6,mb_j6⟩,e_j6,v_j6,ee_j6,k_j6_j8,k_j6_j5,k_j6_j6,k_j6_j3,k_j6_j2,k_j6_j0,x_j3,⟨ga_j3,hk_j3,by rw[cl_j3];rfl,ca_j3,gs,tk,mo_j3,mb_j3⟩,e_j3,v_j3,ee_j3,k_j3_j8,k_j3_j5,k_j3_j6,k_j3_j3,k_j3_j2,k_j3_j0,x_j2,⟨ga_j2,hk_j2,by rw[cl_j2];rfl,ca_j2,gs,tk,mo_j2,mb_j2⟩,e_j2,v_j2,ee_j2,k_j2_j8,k_j2_j5,k_j2_j6,k_j2_j3,k_j2_j2,k_j2_j0,x_j0,⟨ga_j0,hk_j0,by rw[cl_j0];rfl,ca_j0,gs,tk,mo_j0,mb_j0⟩,e_j0,v_j0,ee_j0,k_j0_j8,k_j0_j5,k_j0_j6,k_j0_j3,k_j0_j2,k_j0_j0⟩
 have W:Own K mg C_j7 C_j9 C_ji C_ja C_j1 C_j4:=⟨jr_ X G aC_j7,⟨pg_j7,hd_j7,po_j7,sa_j7⟩,n_letters_Book,n_marks_Book,jr_ X G aC_j9,jr_ X G aC_ji,jr_ X G aC_ja,jr_ X G aC_j1,⟨pg_j1,hd_j1,po_j1,sa_j1⟩,n_book_SayHunt,n_ends_SayHunt,n_gaps_SayHunt,n_guess_SayHunt,n_letters_SayHunt,n_most_SayHunt,n_ways_SayHunt,n_wish_SayHunt,n_wrong_SayHunt,jr_ X G aC_j4,⟨pg_j4,hd_j4,po_j4,sa_j4⟩,n_hunt_SayAsker,n_letters_SayAsker,⟨_,jr_ X G q_j2d⟩⟩
 have Le:=AI (st:=Gg) l_j1q c_j1q k_j1q
 have OY:=Le.binds (ps:=["self","letters"]) fun _ _ _ _ _ _ us hl=>(by obtain⟨y0,y1,rfl⟩:=len2 hl;rfl)
 have OZ:Mk K C_j7 Fz:=⟨mk_j7,a_j1q,i_j1q,kc_j7⟩
 have MC:=AI (st:=IX) l_j26 c_j26 k_j26
 have Vk:=MC.binds (ps:=["letters","word"]) fun _ _ _ _ _ _ us hl=>(by obtain⟨y0,y1,rfl⟩:=len2 hl;rfl)
 have Vl:=jr_ X G a_j26
 have Et:=AI (st:=Em) l_j1s c_j1s k_j1s
 have Gs:=Et.binds (ps:=["letters","word"]) fun _ _ _ _ _ _ us hl=>(by obtain⟨y0,y1,rfl⟩:=len2 hl;rfl)
 have Gu:=jr_ X G a_j1s
 have MF:=AI (st:=Mv) l_j2a c_j2a k_j2a
 have Rp:=MF.binds (ps:=["house","word"]) fun _ _ _ _ _ _ us hl=>(by obtain⟨y0,y1,rfl⟩:=len2 hl;rfl)
 have Rq:=jr_ X G a_j2a
 have Fl:=AI (st:=EE) l_j1p c_j1p k_j1p
 have EK:=Fl.binds (ps:=["self","word"]) fun _ _ _ _ _ _ us hl=>(by obtain⟨y0,y1,rfl⟩:=len2 hl;rfl)
 have EL:Meth K C_j7 "told" B4:=⟨a_j1p,i_j1p,k_j1p⟩
 have P8:=AI (st:=K0) l_j29 c_j29 k_j29
 have YL:=P8.binds (ps:=["book","access","guess","word","mark","last"]) fun _ _ _ _ _ _ us hl=>(by obtain⟨y0,y1,y2,y3,y4,y5,rfl⟩:=len6 hl;rfl)
 have YM:=jr_ X G a_j29
 have HN:=AI (st:=DV) l_jx c_jx k_jx
 have J3:=HN.binds (ps:=["self","words"]) fun _ _ _ _ _ _ us hl=>(by obtain⟨y0,y1,rfl⟩:=len2 hl;rfl)
 have J4:Meth K C_j1 "ask_for" CY:=⟨a_jx,i_jx,k_jx⟩
 have HW:=AI (st:=HS) l_j28 c_j28 k_j28
 have Kt:=HW.binds (ps:=["letters","access"]) fun _ _ _ _ _ _ us hl=>(by obtain⟨y0,y1,rfl⟩:=len2 hl;rfl)
 have Ku:=jr_ X G a_j28
 have VC:=AI (st:=OL) l_j2b c_j2b k_j2b
 have DB_:=VC.binds (ps:=["letters","access","ends"]) fun _ _ _ _ _ _ us hl=>(by obtain⟨y0,y1,y2,rfl⟩:=len3 hl;rfl)
 have DC_:=jr_ X G a_j2b
 have Bm:=AI (st:=A4) l_jc c_jc k_jc
 have A7:=Bm.binds (ps:=["self"]) fun _ _ _ _ _ _ us hl=>(by obtain⟨y0,rfl⟩:=len1 hl;rfl)
 have A8:Meth K C_j1 "look_for_gaps" As:=⟨a_jc,i_jc,k_jc⟩
 have B0:=AI (st:=BX) l_j10 c_j10 k_j10
 have C6:=B0.binds (ps:=["word"]) fun _ _ _ _ _ _ us hl=>(by obtain⟨y0,rfl⟩:=len1 hl;rfl)
 have C7:=jr_ X G a_j10
 have Bm_:=AI (st:=Vb) l_j2c c_j2c k_j2c
 have HJ_:=Bm_.binds (ps:=["house","word"]) fun _ _ _ _ _ _ us hl=>(by obtain⟨y0,y1,rfl⟩:=len2 hl;rfl)
 have HK_:=jr_ X G a_j2c
 have D1:=AI (st:=EF) l_j1y c_j1y k_j1y
 have Fo:=D1.binds (ps:=["house","word"]) fun _ _ _ _ _ _ us hl=>(by obtain⟨y0,y1,rfl⟩:=len2 hl;rfl)
 have Fp:=jr_ X G a_j1y
 have Dq:=AI (st:=B8) l_jp c_jp k_jp
 have Dr:=Dq.binds (ps:=["self","house","word"]) fun _ _ _ _ _ _ us hl=>(by obtain⟨y0,y1,y2,rfl⟩:=len3 hl;rfl)
 have Ds:Meth K C_j1 "answer" Bp:=⟨a_jp,i_jp,k_jp⟩
 have IF:=AI (st:=EG) l_j16 c_j16 k_j16
 have Lc:=IF.binds (ps:=["self"]) fun _ _ _ _ _ _ us hl=>(by obtain⟨y0,rfl⟩:=len1 hl;rfl)
 have Ld:Meth K C_j1 "halve" DE:=⟨a_j16,i_j16,k_j16⟩
 have Kv:=AI (st:=Ho) l_j23 c_j23 k_j23
 have Rt:=Kv.binds (ps:=["book","word","ends"]) fun _ _ _ _ _ _ us hl=>(by obtain⟨y0,y1,y2,rfl⟩:=len3 hl;rfl)
 have Ru:=jr_ X G a_j23
 have CW:=AI (st:=CU) l_j1l c_j1l k_j1l
 have EZ:=CW.binds (ps:=["book","letters","access","ends"]) fun _ _ _ _ _ _ us hl=>(by obtain⟨y0,y1,y2,y3,rfl⟩:=len4 hl;rfl)
 have E1:=jr_ X G a_j1l
 have Fs:=AI (st:=De) l_j1g c_j1g k_j1g
 have Jf:=Fs.binds (ps:=["letters","access","marks"]) fun _ _ _ _ _ _ us hl=>(by obtain⟨y0,y1,y2,rfl⟩:=len3 hl;rfl)
 have Jg:=jr_ X G a_j1g
 have D5:=AI (st:=BG) l_jg c_jg k_jg
 have FQ:=D5.binds (ps:=["self"]) fun _ _ _ _ _ _ us hl=>(by obtain⟨y0,rfl⟩:=len1 hl;rfl)
 have FT:Meth K C_j1 "make_guess" Bq:=⟨a_jg,i_jg,k_jg⟩
 have GD:=AI (st:=Eo) l_j1c c_j1c k_j1c
 have GF:=GD.binds (ps:=["self"]) fun _ _ _ _ _ _ us hl=>(by obtain⟨y0,rfl⟩:=len1 hl;rfl)
 have GG:Meth K C_j7 "heard" Ct:=⟨a_j1c,i_j1c,k_j1c⟩
 have F4:=AI (st:=DW) l_j1m c_j1m k_j1m
 have J6:=F4.binds (ps:=["heard","answer","house"]) fun _ _ _ _ _ _ us hl=>(by obtain⟨y0,y1,y2,rfl⟩:=len3 hl;rfl)
 have J7:=jr_ X G a_j1m
 have D6:=AI (st:=BH) l_jh c_jh k_jh
 have FV:=D6.binds (ps:=["self"]) fun _ _ _ _ _ _ us hl=>(by obtain⟨y0,rfl⟩:=len1 hl;rfl)
 have FW:Meth K C_j1 "wrong_word" Br:=⟨a_jh,i_jh,k_jh⟩
 have D7:=AI (st:=BI) l_je c_je k_je
 have FY:=D7.binds (ps:=["self"]) fun _ _ _ _ _ _ us hl=>(by obtain⟨y0,rfl⟩:=len1 hl;rfl)
 have FZ:Meth K C_j1 "look_at_guess" Bs:=⟨a_je,i_je,k_je⟩
 have Kx:=AI (st:=Hq) l_j24 c_j24 k_j24
 have RE:=Kx.binds (ps:=["book","letters","access","ends"]) fun _ _ _ _ _ _ us hl=>(by obtain⟨y0,y1,y2,y3,rfl⟩:=len4 hl;rfl)
 have RF:=jr_ X G a_j24
 have DF:=AI (st:=By) l_jd c_jd k_jd
 have Fu:=DF.binds (ps:=["self"]) fun _ _ _ _ _ _ us hl=>(by obtain⟨y0,rfl⟩:=len1 hl;rfl)
 have Fv:Meth K C_j1 "look_at_words" Bn:=⟨a_jd,i_jd,k_jd⟩
 have F8:=AI (st:=CH) l_jo c_jo k_jo
 have F9:=F8.binds (ps:=["self"]) fun _ _ _ _ _ _ us hl=>(by obtain⟨y0,rfl⟩:=len1 hl;rfl)
 have Ga:Meth K C_j1 "next_wish" Cc:=⟨a_jo,i_jo,k_jo⟩
 have DG:=AI (st:=CM) l_j14 c_j14 k_j14
 have CP:=DG.binds (ps:=["self"]) fun _ _ _ _ _ _ us hl=>(by obtain⟨y0,rfl⟩:=len1 hl;rfl)
 have CQ:Meth K C_j1 "go_on" Bw:=⟨a_j14,i_j14,k_j14⟩
 have JJ:=AI (st:=Fb) l_jz c_jz k_jz
 have MS:=JJ.binds (ps:=["self"]) fun _ _ _ _ _ _ us hl=>(by obtain⟨y0,rfl⟩:=len1 hl;rfl)
 have MT:CMeth K C_j9 "__init__" Fq:=⟨sg_jz,rd_jz,a_jz,k_jz⟩
 have Lf:=AI (st:=Gh) l_j17 c_j17 k_j17
 have O1:=Lf.binds (ps:=["self","letters","most","book","ways","ends"]) fun _ _ _ _ _ _ us hl=>(by obtain⟨y0,y1,y2,y3,y4,y5,rfl⟩:=len6 hl;rfl)
 have O2:CMeth K C_ji "__init__" Gj:=⟨sg_j17,rd_j17,a_j17,k_j17⟩
 have D8:=AI (st:=BJ) l_jf c_jf k_jf
 have F1:=D8.binds (ps:=["self","letters"]) fun _ _ _ _ _ _ us hl=>(by obtain⟨y0,y1,rfl⟩:=len2 hl;rfl)
 have F2:Meth K C_j1 "first_ends" Bt:=⟨a_jf,i_jf,k_jf⟩
 have JO:=AI (st:=Fc) l_j1k c_j1k k_j1k
 have Nk:=JO.binds (ps:=["self","letters","most"]) fun _ _ _ _ _ _ us hl=>(by obtain⟨y0,y1,y2,rfl⟩:=len3 hl;rfl)
 have Nl:Mk K C_j1 EA:=⟨mk_j1,a_j1k,i_j1k,kc_j1⟩
 have Ha:=AI (st:=Df) l_ju c_ju k_ju
 have Jt:=Ha.binds (ps:=["self","letters","most"]) fun _ _ _ _ _ _ us hl=>(by obtain⟨y0,y1,y2,rfl⟩:=len3 hl;rfl)
 have Ju:Mk K C_j4 Cy:=⟨mk_j4,a_ju,i_ju,kc_j4⟩
 have IH:=AI (st:=EH) l_j15 c_j15 k_j15
 have Lk:=IH.binds (ps:=["self"]) fun _ _ _ _ _ _ us hl=>(by obtain⟨y0,rfl⟩:=len1 hl;rfl)
 have Ll:Meth K C_j1 "access" DJ:=⟨a_j15,i_j15,k_j15⟩
 have A0:=AI (st:=Bh) l_jn c_jn k_jn
 have AA:=A0.binds (ps:=["self"]) fun _ _ _ _ _ _ us hl=>(by obtain⟨y0,rfl⟩:=len1 hl;rfl)
 have AB:Meth K C_j4 "access" Ao:=⟨a_jn,i_jn,k_jn⟩
 have HP:=AI (st:=DX) l_jw c_jw k_jw
 have J9:=HP.binds (ps:=["self"]) fun _ _ _ _ _ _ us hl=>(by obtain⟨y0,rfl⟩:=len1 hl;rfl)
 have Ka:Meth K C_j1 "tellers" C0:=⟨a_jw,i_jw,k_jw⟩
 have AU:=AI (st:=A5) l_jl c_jl k_jl
 have Av:=AU.binds (ps:=["self"]) fun _ _ _ _ _ _ us hl=>(by obtain⟨y0,rfl⟩:=len1 hl;rfl)
 have Aw:Meth K C_j4 "tellers" Al:=⟨a_jl,i_jl,k_jl⟩
 have JK:=AI (st:=Fd) l_j1e c_j1e k_j1e
 have M8:=JK.binds (ps:=["self"]) fun _ _ _ _ _ _ us hl=>(by obtain⟨y0,rfl⟩:=len1 hl;rfl)
 have M9:Meth K C_j1 "heard" Ex:=⟨a_j1e,i_j1e,k_j1e⟩
 have BC:=AI (st:=BA) l_js c_js k_js
 have Bf:=BC.binds (ps:=["self"]) fun _ _ _ _ _ _ us hl=>(by obtain⟨y0,rfl⟩:=len1 hl;rfl)
 have Bg:Meth K C_j4 "heard" AG:=⟨a_js,i_js,k_js⟩
 have Bv:=AI (st:=DY) l_j1z c_j1z k_j1z
 have BN:=Bv.binds (ps:=["script","k"]) fun _ _ _ _ _ _ us hl=>(by obtain⟨y0,y1,rfl⟩:=len2 hl;rfl)
 have BO:=jr_ X G a_j1z
 have IG:=AI (st:=EI) l_j13 c_j13 k_j13
 have Lh:=IG.binds (ps:=["self"]) fun _ _ _ _ _ _ us hl=>(by obtain⟨y0,rfl⟩:=len1 hl;rfl)
 have Li:Meth K C_j1 "wants" DI:=⟨a_j13,i_j13,k_j13⟩
 have BD:=AI (st:=BB) l_jq c_jq k_jq
 have A2:=BD.binds (ps:=["self"]) fun _ _ _ _ _ _ us hl=>(by obtain⟨y0,rfl⟩:=len1 hl;rfl)
 have A3:Meth K C_j4 "wants" AH:=⟨a_jq,i_jq,k_jq⟩
 have ME:=AI (st:=Ja) l_j27 c_j27 k_j27
 have Vn:=ME.binds (ps:=["number"]) fun _ _ _ _ _ _ us hl=>(by obtain⟨y0,rfl⟩:=len1 hl;rfl)
 have Vo:=jr_ X G a_j27
 have HV:=AI (st:=Fe) l_j1t c_j1t k_j1t
 have ML:=HV.binds (ps:=["mark"]) fun _ _ _ _ _ _ us hl=>(by obtain⟨y0,rfl⟩:=len1 hl;rfl)
 have MM:=jr_ X G a_j1t
 have Gx:=AI (st:=Ep) l_j1b c_j1b k_j1b
 have Gy:=Gx.binds (ps:=["self","word","mark"]) fun _ _ _ _ _ _ us hl=>(by obtain⟨y0,y1,y2,rfl⟩:=len3 hl;rfl)
 have Gz:Meth K C_j7 "check" Cs:=⟨a_j1b,i_j1b,k_j1b⟩
 have IM:=AI (st:=Gp) l_j1r c_j1r k_j1r
 have IP:=IM.binds (ps:=["self","word","mark"]) fun _ _ _ _ _ _ us hl=>(by obtain⟨y0,y1,y2,rfl⟩:=len3 hl;rfl)
 have IQ:Meth K C_j7 "put" Ec:=⟨a_j1r,i_j1r,k_j1r⟩
 have Ba:=AI (st:=A9) l_jj c_jj k_jj
 have AO:=Ba.binds (ps:=["self","deed"]) fun _ _ _ _ _ _ us hl=>(by obtain⟨y0,y1,rfl⟩:=len2 hl;rfl)
 have AQ:Meth K C_j1 "check_wants" Ap:=⟨a_jj,i_jj,k_jj⟩
 have E5:=AI (st:=B3) l_jk c_jk k_jk
 have GZ:=E5.binds (ps:=["self","number"]) fun _ _ _ _ _ _ us hl=>(by obtain⟨y0,y1,rfl⟩:=len2 hl;rfl)
 have G0:Meth K C_j1 "keep_answer" BQ:=⟨a_jk,i_jk,k_jk⟩
 have JL:=AI (st:=Ff) l_j1f c_j1f k_j1f
 have Nb:=JL.binds (ps:=["self","mark"]) fun _ _ _ _ _ _ us hl=>(by obtain⟨y0,y1,rfl⟩:=len2 hl;rfl)
 have Nd:Meth K C_j1 "hear" Ey:=⟨a_j1f,i_j1f,k_j1f⟩
 have G9:=AI (st:=Dh) l_jt c_jt k_jt
 have Jn:=G9.binds (ps:=["self","mark"]) fun _ _ _ _ _ _ us hl=>(by obtain⟨y0,y1,rfl⟩:=len2 hl;rfl)
 have Jo:Meth K C_j4 "hear" Cw:=⟨a_jt,i_jt,k_jt⟩
 have KC:=AI (st:=Hr) l_j25 c_j25 k_j25
 have RQ:=KC.binds (ps:=["script","k"]) fun _ _ _ _ _ _ us hl=>(by obtain⟨y0,y1,rfl⟩:=len2 hl;rfl)
 have RS:=jr_ X G a_j25
 have FH:=AI (st:=Fg) l_j20 c_j20 k_j20
 have Hx:=FH.binds (ps:=["cell"]) fun _ _ _ _ _ _ us hl=>(by obtain⟨y0,rfl⟩:=len1 hl;rfl)
 have Hy:=jr_ X G a_j20
 have EB:=AI (st:=Er) l_j1w c_j1w k_j1w
 have GJ:=EB.binds (ps:=["kept","asker","strictly"]) fun _ _ _ _ _ _ us hl=>(by obtain⟨y0,y1,y2,rfl⟩:=len3 hl;rfl)
 have GK:=jr_ X G a_j1w
 have Cu:=AI (st:=DB) l_j1u c_j1u k_j1u
 have DM:=Cu.binds (ps:=["found"]) fun _ _ _ _ _ _ us hl=>(by obtain⟨y0,rfl⟩:=len1 hl;rfl)
 have DO:=jr_ X G a_j1u
 have Cp:=AI (st:=CV) l_j1n c_j1n k_j1n
 have D3:=Cp.binds (ps:=["found","letters"]) fun _ _ _ _ _ _ us hl=>(by obtain⟨y0,y1,rfl⟩:=len2 hl;rfl)
 have D4:=jr_ X G a_j1n
 have EX:=AI (st:=CI) l_j1a c_j1a k_j1a
 have Iy:=EX.binds (ps:=["wish","letters","told"]) fun _ _ _ _ _ _ us hl=>(by obtain⟨y0,y1,y2,rfl⟩:=len3 hl;rfl)
 have Iz:=jr_ X G a_j1a
 have B1:=AI (st:=BY) l_j11 c_j11 k_j11
 have C9:=B1.binds (ps:=["words","letters"]) fun _ _ _ _ _ _ us hl=>(by obtain⟨y0,y1,rfl⟩:=len2 hl;rfl)
 have Dc:=jr_ X G a_j11
 have BR:=AI (st:=BP) l_jv c_jv k_jv
 have CD:=BR.binds (ps:=["access","letters"]) fun _ _ _ _ _ _ us hl=>(by obtain⟨y0,y1,rfl⟩:=len2 hl;rfl)
 have CF:=jr_ X G a_jv
 have Ce:=AI (st:=B9) l_j18 c_j18 k_j18
 have Du:=Ce.binds (ps:=["ends","letters"]) fun _ _ _ _ _ _ us hl=>(by obtain⟨y0,y1,rfl⟩:=len2 hl;rfl)
 have Dv:=jr_ X G a_j18
 have DS:=AI (st:=Es) l_j1v c_j1v k_j1v
 have FD:=DS.binds (ps:=["told","word","ends"]) fun _ _ _ _ _ _ us hl=>(by obtain⟨y0,y1,y2,rfl⟩:=len3 hl;rfl)
 have FE:=jr_ X G a_j1v
 have FJ:=AI (st:=Di) l_j1j c_j1j k_j1j
 have Jq:=FJ.binds (ps:=["asker","letters","most","asked","told"]) fun _ _ _ _ _ _ us hl=>(by obtain⟨y0,y1,y2,y3,y4,rfl⟩:=len5 hl;rfl)
 have Jr:=jr_ X G a_j1j
 have JN:=AI (st:=Fh) l_j1d c_j1d k_j1d
 have Ng:=JN.binds (ps:=["self"]) fun _ _ _ _ _ _ us hl=>(by obtain⟨y0,rfl⟩:=len1 hl;rfl)
 have Nh:Meth K C_j1 "agree" Ez:=⟨a_j1d,i_j1d,k_j1d⟩
 have Gd:=AI (st:=CJ) l_jr c_jr k_jr
 have Iu:=Gd.binds (ps:=["self"]) fun _ _ _ _ _ _ us hl=>(by obtain⟨y0,rfl⟩:=len1 hl;rfl)
 have Iv:Meth K C_j4 "agree" Cf:=⟨a_jr,i_jr,k_jr⟩
 have Ee:=AI (st:=Dj) l_j1h c_j1h k_j1h
 have G2:=Ee.binds (ps:=["found","due"]) fun _ _ _ _ _ _ us hl=>(by obtain⟨y0,y1,rfl⟩:=len2 hl;rfl)
 have G3:=jr_ X G a_j1h
 have FF:=AI (st:=Dk) l_j1i c_j1i k_j1i
 have Jk:=FF.binds (ps:=["found","due"]) fun _ _ _ _ _ _ us hl=>(by obtain⟨y0,y1,rfl⟩:=len2 hl;rfl)
 have Jl:=jr_ X G a_j1i
 have FG:=AI (st:=Fi) l_j21 c_j21 k_j21
 have Hu:=FG.binds (ps:=["house","word"]) fun _ _ _ _ _ _ us hl=>(by obtain⟨y0,y1,rfl⟩:=len2 hl;rfl)
 have Hv:=jr_ X G a_j21
 have EW:=AI (st:=CK) l_j19 c_j19 k_j19
 have Ip:=EW.binds (ps:=["letters","access","ends","told"]) fun _ _ _ _ _ _ us hl=>(by obtain⟨y0,y1,y2,y3,rfl⟩:=len4 hl;rfl)
 have Iq:=jr_ X G a_j19
 have Eh:=AI (st:=Ck) l_j12 c_j12 k_j12
 have HH:=Eh.binds (ps:=["house","letters","asker","told"]) fun _ _ _ _ _ _ us hl=>(by obtain⟨y0,y1,y2,y3,rfl⟩:=len4 hl;rfl)
 have HI:=jr_ X G a_j12
 have DH:=AI (st:=Bz) l_jb c_jb k_jb
 have Fx:=DH.binds (ps:=["self","word","number"]) fun _ _ _ _ _ _ us hl=>(by obtain⟨y0,y1,y2,rfl⟩:=len3 hl;rfl)
 have Fy:Meth K C_j1 "keep_objection" Bo:=⟨a_jb,i_jb,k_jb⟩
 have HQ:=AI (st:=DZ) l_jy c_jy k_jy
 have Kc:=HQ.binds (ps:=["self","word","mark"]) fun _ _ _ _ _ _ us hl=>(by obtain⟨y0,y1,y2,rfl⟩:=len3 hl;rfl)
 have Kd:Meth K C_j1 "differ" C1:=⟨a_jy,i_jy,k_jy⟩
 have FL:=AI (st:=Cm) l_jm c_jm k_jm
 have HD:=FL.binds (ps:=["self","word","mark"]) fun _ _ _ _ _ _ us hl=>(by obtain⟨y0,y1,y2,rfl⟩:=len3 hl;rfl)
 have HE:Meth K C_j4 "differ" B2:=⟨a_jm,i_jm,k_jm⟩
 have F5:=AI (st:=D0) l_j1o c_j1o k_j1o
 have Kf:=F5.binds (ps:=["asker","script","at","told"]) fun _ _ _ _ _ _ us hl=>(by obtain⟨y0,y1,y2,y3,rfl⟩:=len4 hl;rfl)
 have Kg:=jr_ X G a_j1o
 have Ie:=AI (st:=Fj) l_j1x c_j1x k_j1x
 have Nq:=Ie.binds (ps:=["asker","letters","script","state","told"]) fun _ _ _ _ _ _ us hl=>(by obtain⟨y0,y1,y2,y3,y4,rfl⟩:=len5 hl;rfl)
 have Nr:=jr_ X G a_j1x
 have Jv:=AI (st:=Gi) l_j22 c_j22 k_j22
 have O7:=Jv.binds (ps:=["asker","letters","most","script","state"]) fun _ _ _ _ _ _ us hl=>(by obtain⟨y0,y1,y2,y3,y4,rfl⟩:=len5 hl;rfl)
 have O8:=jr_ X G a_j22
 have Nl_:=AI (st:=Yy) l_j2e c_j2e k_j2e
 have ND_:=Nl_.binds (ps:=["script"]) fun _ _ _ _ _ _ us hl=>(by obtain⟨y0,rfl⟩:=len1 hl;rfl)
 have NE_:=jr_ X G a_j2e
 refine⟨fnOf "law" "law" (Ak Yy) (Ai Yy) (Ad Yy) .none KI_ KJ_ KK_ KH_ Ip_ KL_,fun s v=>.of_eq rfl,fun base _ _=>?_⟩
 have OX:=Bn_ (P:=l.prog) (w:=w) (base:=base) Le T W Z
 have Vj:=FF_ (P:=l.prog) (w:=w) (base:=base) MC T W Z
 have Gr:=YA (P:=l.prog) (w:=w) (base:=base) Et T W Z Vj MC Vk Vl
 have Ro:=IY_ (P:=l.prog) (w:=w) (base:=base) MF T W Z Gr Et Gs Gu
 have EJ:=Bo_ (P:=l.prog) (w:=w) (base:=base) Fl T W Z
 have YK:=HZ_ (P:=l.prog) (w:=w) (base:=base) P8 T W Z Ro MF Rp Rq EJ Fl EK EL
 have J2:=VB (P:=l.prog) (w:=w) (base:=base) HN T W Z EJ Fl EK EL
 have Kq:=FI_ (P:=l.prog) (w:=w) (base:=base) HW T W Z
 have DA_:=IZ_ (P:=l.prog) (w:=w) (base:=base) VC T W Z Kq HW Kt Ku
 have A6:=LM (P:=l.prog) (w:=w) (base:=base) Bm T W Z J2 HN J3 J4 DA_ VC DB_ DC_
 have C5:=PZ (P:=l.prog) (w:=w) (base:=base) B0 T W Z
 have HH_:=Lt_ (P:=l.prog) (w:=w) (base:=base) Bm_ T W Z Ro MF Rp Rq
 have Fn:=Bl_ (P:=l.prog) (w:=w) (base:=base) D1 T W Z C5 B0 C6 C7 HH_ Bm_ HJ_ HK_
 have Dp:=RC (P:=l.prog) (w:=w) (base:=base) Dq T W Z Fn D1 Fo Fp
 have Lb:=W3 (P:=l.prog) (w:=w) (base:=base) IF T W Z YK P8 YL YM A6 Bm A7 A8 Dp Dq Dr Ds
 have Rr:=Dt_ (P:=l.prog) (w:=w) (base:=base) Kv T W Z EJ Fl EK EL
 have EY:=Vr (P:=l.prog) (w:=w) (base:=base) CW T W Z Kq HW Kt Ku Rr Kv Rt Ru
 have Je:=TH (P:=l.prog) (w:=w) (base:=base) Fs T W Z
 have FP:=MX (P:=l.prog) (w:=w) (base:=base) D5 T W Z EY CW EZ E1 Je Fs Jf Jg
 have GC:=YD (P:=l.prog) (w:=w) (base:=base) GD T W Z
 have J5:=Vz (P:=l.prog) (w:=w) (base:=base) F4 T W Z Fn D1 Fo Fp
 have FU:=MY (P:=l.prog) (w:=w) (base:=base) D6 T W Z Fn D1 Fo Fp GC GD GF GG J5 F4 J6 J7
 have FX:=M0 (P:=l.prog) (w:=w) (base:=base) D7 T W Z FP D5 FQ FT FU D6 FV FW
 have RD:=Dv_ (P:=l.prog) (w:=w) (base:=base) Kx T W Z EY CW EZ E1
 have Ft:=LN (P:=l.prog) (w:=w) (base:=base) DF T W Z A6 Bm A7 A8 FX D7 FY FZ RD Kx RE RF
 have F7:=RG (P:=l.prog) (w:=w) (base:=base) F8 T W Z Lb IF Lc Ld Ft DF Fu Fv
 have CN:=W4 (P:=l.prog) (w:=w) (base:=base) DG T W Z F7 F8 F9 Ga
 have MR:=YI (P:=l.prog) (w:=w) (base:=base) JJ T W Z
 have O0:=Bs_ (P:=l.prog) (w:=w) (base:=base) Lf T W Z MR JJ MS MT
 have F0:=MW (P:=l.prog) (w:=w) (base:=base) D8 T W Z
 have Nj:=YS (P:=l.prog) (w:=w) (base:=base) JO T W Z OX Le OY OZ A6 Bm A7 A8 CN DG CP CQ O0 Lf O1 O2 F0 D8 F1 F2
 have Js:=TM (P:=l.prog) (w:=w) (base:=base) Ha T W Z Nj JO Nk Nl
 have Lj:=W2 (P:=l.prog) (w:=w) (base:=base) IH T W Z
 have Az:=P9 (P:=l.prog) (w:=w) (base:=base) A0 T W Z Lj IH Lk Ll
 have J8:=VA (P:=l.prog) (w:=w) (base:=base) HP T W Z
 have Au:=O3 (P:=l.prog) (w:=w) (base:=base) AU T W Z J8 HP J9 Ka
 have M7:=YJ (P:=l.prog) (w:=w) (base:=base) JK T W Z GC GD GF GG
 have Be:=RI (P:=l.prog) (w:=w) (base:=base) BC T W Z M7 JK M8 M9
 have BL:=By_ (P:=l.prog) (w:=w) (base:=base) Bv T W Z
 have Lg:=WZ (P:=l.prog) (w:=w) (base:=base) IG T W Z
 have A1:=RH (P:=l.prog) (w:=w) (base:=base) BD T W Z Lg IG Lh Li
 have Vm:=FG_ (P:=l.prog) (w:=w) (base:=base) ME T W Z
 have MK:=YB (P:=l.prog) (w:=w) (base:=base) HV T W Z Vm ME Vn Vo
 have Gw:=YC (P:=l.prog) (w:=w) (base:=base) Gx T W Z Gr Et Gs Gu MK HV ML MM
 have IL:=Dr_ (P:=l.prog) (w:=w) (base:=base) IM T W Z Gw Gx Gy Gz
 have AN:=Oo (P:=l.prog) (w:=w) (base:=base) Ba T W Z
 have GY:=OW (P:=l.prog) (w:=w) (base:=base) E5 T W Z CN DG CP CQ IL IM IP IQ AN Ba AO AQ
 have Na:=YR (P:=l.prog) (w:=w) (base:=base) JL T W Z GY E5 GZ G0
 have Jm:=TL (P:=l.prog) (w:=w) (base:=base) G9 T W Z Na JL Nb Nd
 have RP:=DF_ (P:=l.prog) (w:=w) (base:=base) KC T W Z BL Bv BN BO
 have Hw:=BB_ (P:=l.prog) (w:=w) (base:=base) FH T W Z
 have GI:=YZ (P:=l.prog) (w:=w) (base:=base) EB T W Z Az A0 AA AB Au AU Av Aw
 have DK:=YT (P:=l.prog) (w:=w) (base:=base) Cu T W Z
 have D2:=VG (P:=l.prog) (w:=w) (base:=base) Cp T W Z DK Cu DM DO
 have Iw:=RO (P:=l.prog) (w:=w) (base:=base) EX T W Z D2 Cp D3 D4
 have C8:=Qf (P:=l.prog) (w:=w) (base:=base) B1 T W Z D2 Cp D3 D4
 have CC:=O5 (P:=l.prog) (w:=w) (base:=base) BR T W Z C8 B1 C9 Dc
 have Dt:=RK (P:=l.prog) (w:=w) (base:=base) Ce T W Z C8 B1 C9 Dc
 have FC:=YX (P:=l.prog) (w:=w) (base:=base) DS T W Z
 have Jp:=TR (P:=l.prog) (w:=w) (base:=base) FJ T W Z Az A0 AA AB Au AU Av Aw Be BC Bf Bg A1 BD A2 A3 CC BR CD CF Dt Ce Du Dv FC DS FD FE
 have Nf:=YQ (P:=l.prog) (w:=w) (base:=base) JN T W Z AN Ba AO AQ
 have Ir:=RJ (P:=l.prog) (w:=w) (base:=base) Gd T W Z Nf JN Ng Nh
 have G1:=TN (P:=l.prog) (w:=w) (base:=base) Ee T W Z DK Cu DM DO
 have Jj:=TQ (P:=l.prog) (w:=w) (base:=base) FF T W Z DK Cu DM DO G1 Ee G2 G3
 have Ht:=Bz_ (P:=l.prog) (w:=w) (base:=base) FG T W Z
 have Io:=RM (P:=l.prog) (w:=w) (base:=base) EW T W Z FC DS FD FE
 have HG:=Qg (P:=l.prog) (w:=w) (base:=base) Eh T W Z Az A0 AA AB Au AU Av Aw Be BC Bf Bg CC BR CD CF Dt Ce Du Dv Jj FF Jk Jl Ht FG Hu Hv Io EW Ip Iq
 have Fw:=LO (P:=l.prog) (w:=w) (base:=base) DH T W Z Dp Dq Dr Ds CN DG CP CQ Gw Gx Gy Gz IL IM IP IQ AN Ba AO AQ
 have Kb:=VE (P:=l.prog) (w:=w) (base:=base) HQ T W Z Fw DH Fx Fy
 have Hz:=Qd (P:=l.prog) (w:=w) (base:=base) FL T W Z C5 B0 C6 C7 AN Ba AO AQ Kb HQ Kc Kd
 have Ke:=VI (P:=l.prog) (w:=w) (base:=base) F5 T W Z BL Bv BN BO A1 BD A2 A3 Hw FH Hx Hy Ht FG Hu Hv Hz FL HD HE
 have Np:=Y0 (P:=l.prog) (w:=w) (base:=base) Ie T W Z Az A0 AA AB Au AU Av Aw Be BC Bf Bg BL Bv BN BO A1 BD A2 A3 GI EB GJ GK Ir Gd Iu Iv HG Eh HH HI Ke F5 Kf Kg
 have O6:=BF_ (P:=l.prog) (w:=w) (base:=base) Jv T W Z A1 BD A2 A3 Jm G9 Jn Jo RP KC RQ RS Hw FH Hx Hy GI EB GJ GK Iw EX Iy Iz Jp FJ Jq Jr Np Ie Nq Nr
 have NC_:=Nh_ (P:=l.prog) (w:=w) (base:=base) Nl_ T W Z Js Ha Jt Ju Az A0 AA AB Au AU Av Aw Be BC Bf Bg BL Bv BN BO O6 Jv O7 O8
 exact NC_
theorem walk {l:PySem.W.OpenLaw}{q:Program}{loose:List Str}{XP:(Str->α5)->Heap->Prop}{YP:World->Heap->Prop}{d:DefRec}{K:Params->α3}(hn:l.most=some 63)(hdf:d.params.defaults=[])
  (hY:∀(w:World) (h:Heap),YP w h->(K w.params).In h)
  (F:∀(w:World) (mg:Str->α5) (fa:Addr) (h:Heap),(K w.params).In h->h.Ns mainGlobals mg->mg d.name=some (.ref fa) ->
   ∃fd:α6,(∀(s:Shared) (u:Value),BindsTo s fd ⟨[u],[]⟩ [("script",u)])/\∀base:Heap,(K w.params).In base->base.Ns mainGlobals mg->FnOk l.prog w (K w.params) mg base CX0 18 fa fd ["script"] (Ji_ (K w.params))):
  PySem.W.WalkO q loose XP YP l.row.toRowW d [] (fun f vs=>PySem.call f vs):=
 L2.walk_of (n:=63) (k:=18) (x := "script") (CX:=fun _=>CX0) (sp:=fun w=>Ji_ (K w.params)) hn (by decide) hdf ⟨rfl,by decide,by decide⟩ hY F (fun _ _ a ns hl _ hS=>⟨a,ns,rfl,hS,hl,fun _=>rfl⟩) fun _ _ _ _ _ z=>z
end Mine
namespace PySem.W.Fast
noncomputable def tw2258724109390493701:=0
noncomputable def tw16427759368199518531:=0
noncomputable def tw12470953399278101780:=0
noncomputable def tw2410820938672778132:=0
noncomputable def tw6345501628845722109:=0
noncomputable def tw15989069223482284113:=0
noncomputable def tw16978936079518688471:=0
noncomputable def tw5434807786005256492:=0
noncomputable def tw995847001814050199:=0
noncomputable def tw298390090923685203:=0
noncomputable def tw5062133147540865832:=0
noncomputable def tw12463322050846086471:=0
noncomputable def tw12654524725265822224:=0
noncomputable def tw13094370488708058178:=0
noncomputable def tw9233743070330251265:=0
noncomputable def tw2755608788731581794:=0
noncomputable def tw3675769469667977459:=0
noncomputable def tw13644538718457418976:=0
noncomputable def tw1507041061767611978:=0
noncomputable def tw12579037619004902005:=0
noncomputable def tw9624628256106237332:=0
noncomputable def tw6412283353446329670:=0
noncomputable def tw5225047357519860338:=0
noncomputable def tw1715134501894745987:=0
noncomputable def tw551188681700481937:=0
noncomputable def tw5169177723683006687:=0
noncomputable def tw11554396509167497698:=0
noncomputable def tw9427968390620399447:=0
noncomputable def tw11513728861522980173:=0
noncomputable def tw13030862912457127076:=0
noncomputable def tw9153225573488644209:=0
noncomputable def tw9445561825151820251:=0
noncomputable def tw17268853700788831267:=0
noncomputable def tw12389325023373428701:=0
noncomputable def tw17480476011451022047:=0
noncomputable def tw12627582014220304:=0
noncomputable def tw18044659030208759536:=0
noncomputable def tw2247200423741889636:=0
noncomputable def tw13282894178320599520:=0
noncomputable def tw7553445322011423904:=0
noncomputable def tw11900743088685891585:=0
noncomputable def tw13979600513923555550:=0
noncomputable def tw13195636914202083502:=0
noncomputable def tw2853905898679614236:=0
noncomputable def tw5473371109198103832:=0
noncomputable def tw16396870025563384974:=0
noncomputable def tw788139235138189674:=0
noncomputable def tw395583235181443850:=0
noncomputable def tw11328181577416289062:=0
noncomputable def tw13732940332343866439:=0
noncomputable def tw14265957261046292191:=0
noncomputable def tw11175026175411788412:=0
noncomputable def tw17807210237464327959:=0
noncomputable def tw5241537038169621353:=0
noncomputable def tw14550401394339692687:=0
noncomputable def tw3078925865823325825:=0
noncomputable def tw12082970949681442906:=0
noncomputable def tw6489625863121380131:=0
noncomputable def tw8605591760879553080:=0
noncomputable def tw1501852525778505022:=0
noncomputable def tw959788224420430219:=0
noncomputable def tw12871044678325003627:=0
noncomputable def tw17846509036304044729:=0
noncomputable def tw7557199605837956968:=0
noncomputable def tw5232393842905725971:=0
noncomputable def tw2578542414786723612:=0
noncomputable def tw6686623926078042917:=0
noncomputable def tw12665654263447731830:=0
noncomputable def tw3996577524681468882:=0
noncomputable def tw4847131915265677061:=0
noncomputable def tw6817307682662058495:=0
noncomputable def tw6586360479983332719:=0
noncomputable def tw1050502780401454421:=0
noncomputable def tw1404399965864700099:=0
noncomputable def tw14901159656245921144:=0
noncomputable def tw7522715119081253752:=0
noncomputable def tw4418636764296168422:=0
noncomputable def tw11684321982178469311:=0
noncomputable def tw5190218603652480810:=0
noncomputable def tw17071657178967454268:=0
noncomputable def tw10013193564287759212:=0
noncomputable def tw18316741414133081224:=0
noncomputable def tw1621607089216306287:=0
noncomputable def tw4616271701861647718:=0
noncomputable def tw10491060359370524730:=0
noncomputable def tw16443571367254380134:=0
noncomputable def tw17092802613046314245:=0
noncomputable def tw8853204441423505011:=0
noncomputable def tw4672476627549723052:=0
noncomputable def tw9053336708836704115:=0
noncomputable def tw3914386607413812567:=0
noncomputable def tw5022402037413439978:=0
noncomputable def tw13018826307423819512:=0
noncomputable def tw7786351778371409864:=0
noncomputable def tw18367643170315053740:=0
noncomputable def tw4801317139211324537:=0
noncomputable def tw13020557649459099138:=0
noncomputable def tw9478030268310118382:=0
noncomputable def tw6418484333186406959:=0
noncomputable def tw16025335892724058090:=0
noncomputable def tw1223515013379478568:=0
noncomputable def tw14642732652341260430:=0
noncomputable def tw15465294718714581590:=0
noncomputable def tw15948398772982836027:=0
noncomputable def tw12541756431871433788:=0
noncomputable def tw8682678099862911340:=0
noncomputable def tw14303732008586206848:=0
noncomputable def tw5880602840761495829:=0
noncomputable def tw15602374336898185980:=0
noncomputable def tw2783531215094056832:=0
noncomputable def tw10012400936543649481:=0
noncomputable def tw17254373828523899330:=0
noncomputable def tw10193456001618733460:=0
noncomputable def tw5957716141592561337:=0
noncomputable def tw3642358230428763987:=0
noncomputable def tw15434331379817420143:=0
noncomputable def tw17046834435898056273:=0
noncomputable def tw11994875339569705576:=0
noncomputable def tw6122099201042885785:=0
noncomputable def tw11328474706182218744:=0
noncomputable def tw17198200038491034276:=0
noncomputable def tw11638615913722562187:=0
noncomputable def tw17759761746586964789:=0
noncomputable def tw17467229111895080230:=0
noncomputable def tw10115206902296549202:=0
noncomputable def tw460515607221574133:=0
noncomputable def tw16211012647508167851:=0
noncomputable def tw619938670003606397:=0
noncomputable def tw2178238849645931814:=0
noncomputable def tw10218309291384056183:=0
noncomputable def tw929657532847049256:=0
noncomputable def tw13592809087357775336:=0
noncomputable def tw3172476832459685148:=0
noncomputable def tw17708944018677837157:=0
noncomputable def tw892584632939172789:=0
noncomputable def tw2578597165102197472:=0
noncomputable def tw13832806594135722951:=0
noncomputable def tw3601450997790098144:=0
noncomputable def tw10386532035291098893:=0
noncomputable def tw12550790471041996130:=0
noncomputable def tw17746208358256291681:=0
noncomputable def tw13445702485057562110:=0
noncomputable def tw5552723985923734400:=0
noncomputable def tw15154594102497419895:=0
noncomputable def tw16929962622494669997:=0
noncomputable def tw8759990535811868115:=0
noncomputable def tw15839028049824340082:=0
noncomputable def tw7187052634693811705:=0
noncomputable def tw3283703113984574769:=0
noncomputable def tw14767942622525945162:=0
noncomputable def tw1060136870962958988:=0
noncomputable def tw11872035991874625763:=0
noncomputable def tw18246580628765180864:=0
noncomputable def tw750888214478400294:=0
noncomputable def tw4349967011020783673:=0
noncomputable def tw256647195226178485:=0
noncomputable def tw17075494127366973969:=0
noncomputable def tw716674924715759590:=0
noncomputable def tw18081761073838974750:=0
noncomputable def tw3505935028346544485:=0
noncomputable def tw3365023081345593152:=0
noncomputable def tw15722601750506457145:=0
noncomputable def tw15297356760121362650:=0
noncomputable def tw17629857167984414076:=0
noncomputable def tw4273022377758645586:=0
noncomputable def tw15767904214728465344:=0
noncomputable def tw3456999175876874337:=0
noncomputable def tw12577082716242135947:=0
noncomputable def tw9695124450433687031:=0
noncomputable def tw339385606445452773:=0
noncomputable def tw1618222421501918655:=0
noncomputable def tw5765500513520695160:=0
noncomputable def tw8961183015851444470:=0
noncomputable def tw10503492122660810909:=0
noncomputable def tw9279136040836478175:=0
noncomputable def tw2257570951999137578:=0
noncomputable def tw15049566797602570856:=0
noncomputable def tw17117951430003381783:=0
noncomputable def tw2923180510858289817:=0
noncomputable def tw15338163011329312520:=0
noncomputable def tw15417796043468973196:=0
noncomputable def tw13115733234960083716:=0
noncomputable def tw17225118991294249167:=0
noncomputable def tw13272005754717870005:=0
noncomputable def tw6217041251015888957:=0
noncomputable def tw9010020383674642789:=0
noncomputable def tw17359493965100045510:=0
noncomputable def tw15799403382163850408:=0
noncomputable def tw11021469052941012489:=0
noncomputable def tw10730820983674642156:=0
noncomputable def tw8491193335374709933:=0
noncomputable def tw12679182734552442439:=0
noncomputable def tw12059855924165017620:=0
noncomputable def tw3457808564842584403:=0
noncomputable def tw10729974714603441744:=0
noncomputable def tw8764919185234956767:=0
noncomputable def tw11425390606976093461:=0
noncomputable def tw11683029953581318560:=0
noncomputable def tw12899861776641192261:=0
noncomputable def tw9603557279318360739:=0
noncomputable def tw11089887189760219723:=0
noncomputable def tw10687884582568004445:=0
noncomputable def tw6769172095429805399:=0
noncomputable def tw17641872941302911358:=0
noncomputable def tw16754563331254354627:=0
noncomputable def tw11672809851625031695:=0
noncomputable def tw4333483699141517424:=0
noncomputable def tw18403679500072890467:=0
noncomputable def tw9083035126922488823:=0
noncomputable def tw6796393642128843081:=0
noncomputable def tw18197132586267352626:=0
noncomputable def tw10744905612992655447:=0
noncomputable def tw18201906587456717907:=0
noncomputable def tw16452518139018876307:=0
noncomputable def tw6507753279194348038:=0
noncomputable def tw6623666270512957156:=0
noncomputable def tw4661113959266948910:=0
noncomputable def tw13170300158473529505:=0
noncomputable def tw5776930936991771142:=0
noncomputable def tw7093190135359772489:=0
noncomputable def tw18078562008089462279:=0
noncomputable def tw7916442948286514954:=0
noncomputable def tw9959267723816515876:=0
noncomputable def tw3238214380752928195:=0
noncomputable def tw6135089376504853048:=0
noncomputable def tw4994979104474409693:=0
noncomputable def tw6323936997495194134:=0
noncomputable def tw10011956076637116741:=0
noncomputable def tw3794283399763091376:=0
noncomputable def tw10286239581468777682:=0
noncomputable def tw15431757323271030992:=0
noncomputable def tw6611729084265781747:=0
noncomputable def tw2136635650990888347:=0
noncomputable def tw15042722044305816291:=0
noncomputable def tw15729138275586238119:=0
noncomputable def tw10892509831486636651:=0
noncomputable def tw5405942122247757051:=0
noncomputable def tw11100569770881017222:=0
noncomputable def tw1850115698587889619:=0
noncomputable def tw13901749420113344336:=0
noncomputable def tw565745920140365866:=0
noncomputable def tw15062653456086878221:=0
noncomputable def tw10853529131368774789:=0
noncomputable def tw16480541171588954857:=0
noncomputable def tw9877618023949537664:=0
noncomputable def tw15221905441356432472:=0
noncomputable def tw11871758206549381768:=0
noncomputable def tw12863899108928425635:=0
noncomputable def tw15005012531143862415:=0
noncomputable def tw11483322333230979435:=0
noncomputable def tw16977775219062423978:=0
noncomputable def tw5283112340558643817:=0
noncomputable def tw13808063098066472191:=0
noncomputable def tw17366323407078371476:=0
noncomputable def tw12792444129618122034:=0
noncomputable def tw6613923040285364933:=0
noncomputable def tw16698105924704922281:=0
noncomputable def tw12893596695237674101:=0
noncomputable def tw14917557359573233529:=0
noncomputable def tw6874249439257774030:=0
noncomputable def tw8558781398470083915:=0
noncomputable def tw7008520644608600126:=0
noncomputable def tw16766513006180156842:=0
noncomputable def tw17982835474235774609:=0
noncomputable def tw13941599431453293059:=0
noncomputable def tw425106815505130104:=0
noncomputable def tw294263417387446147:=0
noncomputable def tw15003002804905093659:=0
noncomputable def tw11490008928430767310:=0
noncomputable def tw7035924647738628761:=0
noncomputable def tw6782842943485870622:=0
noncomputable def tw11261818595858446918:=0
noncomputable def tw16010218839677540401:=0
noncomputable def tw13552699920639894372:=0
noncomputable def tw10046817703430219335:=0
noncomputable def tw3743952748042791630:=0
noncomputable def tw355513320489433776:=0
noncomputable def tw1776470385694673870:=0
noncomputable def tw945953110383273213:=0
noncomputable def tw12786605985907300873:=0
noncomputable def tw8662838296437956366:=0
noncomputable def tw4466486155270381670:=0
noncomputable def tw10756632227999104423:=0
noncomputable def tw8999443132630710533:=0
noncomputable def tw14273385265795315955:=0
noncomputable def tw6489892223891696807:=0
noncomputable def tw1081013344741953749:=0
noncomputable def tw16369350682505486433:=0
noncomputable def tw12506984731660615603:=0
noncomputable def tw7038286141892367815:=0
noncomputable def tw18287699757397060267:=0
noncomputable def tw7059581857436160277:=0
noncomputable def tw12578340227238721946:=0
noncomputable def tw17979247439495759744:=0
noncomputable def tw6885473333395012418:=0
noncomputable def tw797870865021987552:=0
noncomputable def tw8485224666043313302:=0
noncomputable def tw2569602535393914368:=0
noncomputable def tw8511239993210299579:=0
noncomputable def tw3377462549985491213:=0
noncomputable def tw1474711743509221066:=0
noncomputable def tw13226205858353829137:=0
noncomputable def tw4154409218943663915:=0
noncomputable def tw17665635133886257648:=0
noncomputable def tw718683834296524393:=0
noncomputable def tw14609146585837317134:=0
noncomputable def tw14506376380008226383:=0
noncomputable def tw993231290909449857:=0
noncomputable def tw13211920853872897829:=0
noncomputable def tw13753429763733105217:=0
noncomputable def tw5042580748941808547:=0
noncomputable def tw1895574028960304012:=0
noncomputable def tw6733753973020899747:=0
noncomputable def tw10304424281873835070:=0
noncomputable def tw16951066797772787470:=0
noncomputable def tw1584444048345618423:=0
noncomputable def tw2625821516757269937:=0
noncomputable def tw3826077207518772982:=0
noncomputable def tw7485280463780117959:=0
noncomputable def tw5670848000695559458:=0
noncomputable def tw11188128142050317556:=0
noncomputable def tw16329922382587865772:=0
noncomputable def tw1241704004912162131:=0
noncomputable def tw16113368041967298339:=0
noncomputable def tw14387318014497190068:=0
noncomputable def tw4225981995845177730:=0
noncomputable def tw2500529388802369465:=0
noncomputable def tw15841571598471629716:=0
noncomputable def tw3376449167701139029:=0
noncomputable def tw5756236897496192745:=0
noncomputable def tw11225360065266441972:=0
noncomputable def tw604858407913432662:=0
noncomputable def tw723681735942424335:=0
noncomputable def tw3341006121676990100:=0
noncomputable def tw9843091187655233354:=0
noncomputable def tw9149637330981670275:=0
noncomputable def tw9156999759740924898:=0
noncomputable def tw5078827883768619081:=0
noncomputable def tw11878146727451209002:=0
noncomputable def tw16996160003985478207:=0
noncomputable def tw8003849634360557101:=0
noncomputable def tw15975222494457117890:=0
noncomputable def tw10170526163688679015:=0
noncomputable def tw14476148570136121231:=0
noncomputable def tw18201558051509683883:=0
noncomputable def tw10223118308375714300:=0
noncomputable def tw7782780784227941307:=0
noncomputable def tw3482997485493999605:=0
noncomputable def tw10270035442721234158:=0
noncomputable def tw12228000628958144598:=0
noncomputable def tw11234318875234457081:=0
noncomputable def tw15155821506241385641:=0
noncomputable def tw1378061050063102101:=0
noncomputable def tw8693179687775285366:=0
noncomputable def tw16531705004461316173:=0
noncomputable def tw9267734781499914708:=0
noncomputable def tw1813008019663875212:=0
noncomputable def tw11434270796238673664:=0
noncomputable def tw418008417820156753:=0
noncomputable def tw4062900769256210814:=0
noncomputable def tw17187952370678259735:=0
noncomputable def tw4276972347090290983:=0
noncomputable def tw10364134291939047461:=0
noncomputable def tw8607720768666378948:=0
noncomputable def tw5486522419458926863:=0
noncomputable def tw14754626192907461131:=0
noncomputable def tw15667554123268393694:=0
noncomputable def tw6916153628758162103:=0
noncomputable def tw16947839745375946266:=0
noncomputable def tw3484791768407155655:=0
noncomputable def tw13106888684862598413:=0
noncomputable def tw5834717646827249866:=0
noncomputable def tw15687675314185893270:=0
noncomputable def tw3874351448366915175:=0
noncomputable def tw5113254938609452765:=0
noncomputable def tw14213421735425142074:=0
noncomputable def tw11360297532374304071:=0
noncomputable def tw17313422149245252757:=0
noncomputable def tw5494639253829553184:=0
noncomputable def tw893555553953579446:=0
noncomputable def tw17875132286251108986:=0
noncomputable def tw14795011114043008674:=0
noncomputable def tw11321936097125905658:=0
noncomputable def tw13121273932476888780:=0
noncomputable def tw7396844152241070407:=0
noncomputable def tw1380151778288000897:=0
noncomputable def tw5680083591602255792:=0
noncomputable def tw12448243409626053214:=0
noncomputable def tw11340540771167729695:=0
noncomputable def tw2668774689850980086:=0
noncomputable def tw8506148910667005900:=0
noncomputable def tw638238977604388895:=0
noncomputable def tw9907922213216271432:=0
noncomputable def tw7868500134075270238:=0
noncomputable def tw11105120190232517792:=0
noncomputable def tw6291898861098835304:=0
noncomputable def tw12282718277196687025:=0
noncomputable def tw16475157592629201664:=0
noncomputable def tw12321940755532879710:=0
noncomputable def tw14133198410106701977:=0
noncomputable def tw3320660754382612990:=0
noncomputable def tw4908039377244128018:=0
noncomputable def tw8149516771638650845:=0
noncomputable def tw10632065867282176589:=0
noncomputable def tw487721105856945635:=0
noncomputable def tw6097349922062564299:=0
noncomputable def tw10881316233948677374:=0
noncomputable def tw3113188913911512055:=0
noncomputable def tw6503391795438072046:=0
noncomputable def tw15521500039642669987:=0
noncomputable def tw3229412808682644878:=0
noncomputable def tw3968289579060763330:=0
noncomputable def tw4938962579737374165:=0
noncomputable def tw8095844498347704619:=0
noncomputable def tw10364064826580242069:=0
noncomputable def tw14540485667304902792:=0
noncomputable def tw13550253917518026947:=0
noncomputable def tw11634269144973110981:=0
noncomputable def tw3718462427001705913:=0
noncomputable def tw1609889849929008396:=0
noncomputable def tw16711721726931451097:=0
noncomputable def tw6716615961218064037:=0
noncomputable def tw5316593524199935734:=0
noncomputable def tw12321665570174551040:=0
noncomputable def tw11740503941008804436:=0
noncomputable def tw6660020125888019342:=0
noncomputable def tw6090221243744164371:=0
noncomputable def tw9259904451094831412:=0
noncomputable def tw1931694961076713628:=0
noncomputable def tw5068884984761794866:=0
noncomputable def tw16058247967693381719:=0
noncomputable def tw2119184335938278160:=0
noncomputable def tw13445532916808659883:=0
noncomputable def tw3492338179094939443:=0
noncomputable def tw14509427074948635526:=0
noncomputable def tw9856136763971093758:=0
noncomputable def tw13707785967112739341:=0
noncomputable def tw1490658927508063986:=0
noncomputable def tw14945413494077650900:=0
noncomputable def tw16327652263453967200:=0
noncomputable def tw1994762671343466444:=0
noncomputable def tw11039829564710858464:=0
noncomputable def tw10160602339362677634:=0
noncomputable def tw8528098553686545825:=0
noncomputable def tw11315680709480780372:=0
noncomputable def tw13426780689615534937:=0
noncomputable def tw16599574096014276683:=0
noncomputable def tw10630509842097237933:=0
noncomputable def tw6226724101131959716:=0
noncomputable def tw16863462837803391872:=0
noncomputable def tw16984257659309305100:=0
noncomputable def tw14945298269805711360:=0
noncomputable def tw867622297849081379:=0
noncomputable def tw13373784431754747598:=0
noncomputable def tw11797179369263311154:=0
noncomputable def tw8662874613634577988:=0
noncomputable def tw14526341581258863919:=0
noncomputable def tw9116541557033563977:=0
noncomputable def tw9806478328826869570:=0
noncomputable def tw12382498131357385108:=0
noncomputable def tw10814419761998666283:=0
noncomputable def tw15809338017769084313:=0
noncomputable def tw16646098965525870441:=0
noncomputable def tw14434989354261489755:=0
noncomputable def tw12338820200218281910:=0
noncomputable def tw15816790416595641835:=0
noncomputable def tw4538664999969678341:=0
noncomputable def tw7725956555985429008:=0
noncomputable def tw12773290049825773439:=0
noncomputable def tw9423900680062299128:=0
noncomputable def tw18135810702434742947:=0
noncomputable def tw16086177160512039654:=0
noncomputable def tw662323139594353827:=0
noncomputable def tw8239900709937126133:=0
noncomputable def tw9147319126471952185:=0
noncomputable def tw16525926179479453481:=0
noncomputable def tw10983798592578774300:=0
noncomputable def tw7339723609427838408:=0
noncomputable def tw9549606179844901298:=0
noncomputable def tw18245986511701974484:=0
noncomputable def tw2704661955845156936:=0
noncomputable def tw11156190664981897214:=0
noncomputable def tw3805569736703091758:=0
noncomputable def tw3652198180915996253:=0
noncomputable def tw12700217179063552654:=0
noncomputable def tw6421743160389979205:=0
noncomputable def tw7874836863657684629:=0
noncomputable def tw3809716414191981632:=0
noncomputable def tw8240253779695706230:=0
noncomputable def tw13444536819905215733:=0
noncomputable def tw4450459241987419329:=0
noncomputable def tw2459860500859438109:=0
noncomputable def tw4173402483122572478:=0
noncomputable def tw2602796315266133120:=0
noncomputable def tw10307268405304151699:=0
noncomputable def tw9781286479198008245:=0
noncomputable def tw17074947856349325447:=0
noncomputable def tw2749271087196019674:=0
noncomputable def tw342342812175489726:=0
noncomputable def tw16855307005934985262:=0
noncomputable def tw6061997872174007677:=0
noncomputable def tw17344331395547833752:=0
noncomputable def tw17275189393449886306:=0
noncomputable def tw1305244156752406450:=0
noncomputable def tw3514112806578785919:=0
noncomputable def tw16107155865971902894:=0
noncomputable def tw10510394618819713801:=0
noncomputable def tw4498786287180709235:=0
noncomputable def tw7492967070129988593:=0
noncomputable def tw1036378631371751367:=0
noncomputable def tw4924464985422072563:=0
noncomputable def tw9047227189639397963:=0
noncomputable def tw4964184376676868728:=0
noncomputable def tw13549757427066608330:=0
noncomputable def tw11137804610141448459:=0
noncomputable def tw9853625816360902095:=0
noncomputable def tw12050972030018952757:=0
noncomputable def tw496628151917600717:=0
noncomputable def tw9186211340475784283:=0
noncomputable def tw7818002447467059000:=0
noncomputable def tw8351946097225891537:=0
noncomputable def tw13021864508119494447:=0
noncomputable def tw16799572284542218825:=0
noncomputable def tw6808988127565478291:=0
noncomputable def tw16708078568891657671:=0
noncomputable def tw3830270287482826274:=0
noncomputable def tw14730099478859057319:=0
noncomputable def tw6653041669283787223:=0
noncomputable def tw7039640491783180875:=0
noncomputable def tw12047885792209768578:=0
noncomputable def tw6300431628025633572:=0
noncomputable def tw3761555085932523863:=0
noncomputable def tw13669637806042263270:=0
noncomputable def tw16809252498095922764:=0
noncomputable def tw4709186121033301253:=0
noncomputable def tw398004464606015424:=0
noncomputable def tw7440982759300713751:=0
noncomputable def tw8717251375690644297:=0
noncomputable def tw9903084073624742564:=0
noncomputable def tw2900389026229502708:=0
noncomputable def tw996591159648140288:=0
noncomputable def tw7136161056726866898:=0
noncomputable def tw6492770411634895197:=0
noncomputable def tw9566687512304452352:=0
noncomputable def tw8753983642088990704:=0
noncomputable def tw8888573466167025501:=0
noncomputable def tw8587272098282410063:=0
noncomputable def tw2547997065467790561:=0
noncomputable def tw1239948618984359054:=0
noncomputable def tw9222174423569109701:=0
noncomputable def tw3765587743166529374:=0
noncomputable def tw15269031319910894881:=0
noncomputable def tw10664430740148881885:=0
noncomputable def tw10885887170860333165:=0
noncomputable def tw5114133641211989240:=0
noncomputable def tw14223170569156598321:=0
noncomputable def tw371801490368382328:=0
noncomputable def tw5573240539802537920:=0
noncomputable def tw6292057226056002811:=0
noncomputable def tw13363510452229444125:=0
noncomputable def tw7946610257072907265:=0
noncomputable def tw16161370213251958639:=0
noncomputable def tw13666420813607282890:=0
noncomputable def tw4614385801481092638:=0
noncomputable def tw2753697691571181536:=0
noncomputable def tw13188192291285469086:=0
noncomputable def tw541642220976315121:=0
noncomputable def tw9228116150118091511:=0
noncomputable def tw5059216427371182337:=0
noncomputable def tw17081916177253831239:=0
noncomputable def tw8518546363435481682:=0
noncomputable def tw16495909703955310442:=0
noncomputable def tw13362507776405584486:=0
noncomputable def tw6104914504173707510:=0
noncomputable def tw665905192334000402:=0
noncomputable def tw13883787419374821932:=0
noncomputable def tw6365055687820745084:=0
noncomputable def tw2151947407890455146:=0
noncomputable def tw12436724707452613885:=0
noncomputable def tw2132044056762240335:=0
noncomputable def tw15101948141950021972:=0
noncomputable def tw10130404340278410320:=0
noncomputable def tw2626845027742876486:=0
noncomputable def tw16596290535676040197:=0
noncomputable def tw2352329735131892552:=0
noncomputable def tw1755023253885794009:=0
noncomputable def tw11680816991394586109:=0
noncomputable def tw15760255473638839937:=0
noncomputable def tw13189423574679397685:=0
noncomputable def tw10191257071699768515:=0
noncomputable def tw13187263885072911749:=0
noncomputable def tw7578971848494003696:=0
noncomputable def tw13927785340003369598:=0
noncomputable def tw8458659075573802330:=0
noncomputable def tw8516373812245667906:=0
noncomputable def tw2752407467767585013:=0
noncomputable def tw14828746844594592899:=0
noncomputable def tw11469092069768297937:=0
noncomputable def tw14271634664378133004:=0
noncomputable def tw10204072183117980288:=0
noncomputable def tw11600920574913262761:=0
noncomputable def tw10436989953592029173:=0
noncomputable def tw10305432033196390354:=0
noncomputable def tw11460632045432659985:=0
noncomputable def tw17635580166513903258:=0
noncomputable def tw2095686143912670874:=0
noncomputable def tw1588577772271377656:=0
noncomputable def tw5047831340750022324:=0
noncomputable def tw5687739898794030576:=0
noncomputable def tw6199051901674678530:=0
noncomputable def tw10857657656940588052:=0
noncomputable def tw10949601355983169102:=0
noncomputable def tw7502040669519426558:=0
noncomputable def tw16650129669834293066:=0
noncomputable def tw16090114051238812670:=0
noncomputable def tw14933908963858017392:=0
noncomputable def tw6915854078999454987:=0
noncomputable def tw13436456073976832941:=0
noncomputable def tw15526988733292936210:=0
noncomputable def tw17064438519765793714:=0
noncomputable def tw3714164751882689868:=0
noncomputable def tw5552789594377044833:=0
noncomputable def tw3578738621321479177:=0
noncomputable def tw11616291177698825808:=0
noncomputable def tw1797945421742108115:=0
noncomputable def tw1202561940789580475:=0
noncomputable def tw8951699624504582083:=0
noncomputable def tw12399012621226337199:=0
noncomputable def tw15173654737619259579:=0
noncomputable def tw9422309372020507777:=0
noncomputable def tw2656179730760635644:=0
noncomputable def tw8701530150751167960:=0
noncomputable def tw12303170643569063815:=0
noncomputable def tw13252291220997384391:=0
noncomputable def tw13680117329217606424:=0
noncomputable def tw3581264103366535801:=0
noncomputable def tw15065249140314742767:=0
noncomputable def tw8295226165085198116:=0
noncomputable def tw2333555826100723586:=0
noncomputable def tw9559279007587477227:=0
noncomputable def tw1839541348366488669:=0
noncomputable def tw278067047997790430:=0
noncomputable def tw119482061793372049:=0
noncomputable def tw8318407138908330273:=0
noncomputable def tw78572572224856910:=0
noncomputable def tw16012096253253830024:=0
noncomputable def tw10920360432624773634:=0
noncomputable def tw8576333923717099916:=0
noncomputable def tw11022645973962233858:=0
noncomputable def tw11976158034235247294:=0
noncomputable def tw7317656968937561343:=0
noncomputable def tw16237750733931714360:=0
noncomputable def tw9767223178511991430:=0
noncomputable def tw4895693974641524249:=0
noncomputable def tw1293847354560487959:=0
noncomputable def tw4731127890636910218:=0
noncomputable def tw1533587257677116805:=0
noncomputable def tw6352214602573251344:=0
noncomputable def tw896369637753873334:=0
noncomputable def tw4864799414113631556:=0
noncomputable def tw9646627066366859777:=0
noncomputable def tw7334280532693158833:=0
noncomputable def tw4454425495140741834:=0
noncomputable def tw8608044469518797344:=0
noncomputable def tw13456857709870984138:=0
noncomputable def tw3963034760070912948:=0
noncomputable def tw14356483908075042872:=0
noncomputable def tw12250316178746333020:=0
noncomputable def tw13632717406319996474:=0
noncomputable def tw1397962697765627621:=0
noncomputable def tw8716122186298576436:=0
noncomputable def tw2632174409720553137:=0
noncomputable def tw17902718417298960183:=0
noncomputable def tw2214913762126030645:=0
noncomputable def tw11020534327863277897:=0
noncomputable def tw7744072183060338879:=0
noncomputable def tw14823707015477986726:=0
noncomputable def tw4366463891775156701:=0
noncomputable def tw8924514372270599951:=0
noncomputable def tw11329103799773387143:=0
noncomputable def tw12514280721954973966:=0
noncomputable def tw17326943002618429604:=0
noncomputable def tw3134952917519148625:=0
noncomputable def tw10285313460962629580:=0
noncomputable def tw2312655865872925527:=0
noncomputable def tw11897612687367079714:=0
noncomputable def tw3411185519841987089:=0
noncomputable def tw17039465141625774759:=0
noncomputable def tw6609771259341822201:=0
noncomputable def tw12157099078068004758:=0
noncomputable def tw11648888301977669346:=0
noncomputable def tw11239089009327867673:=0
noncomputable def tw13290414031208262870:=0
noncomputable def tw17703660731756321001:=0
noncomputable def tw12609649341106704897:=0
noncomputable def tw891955969514753972:=0
noncomputable def tw13649813495873357323:=0
noncomputable def tw13988198125976158511:=0
noncomputable def tw2485144314442057097:=0
noncomputable def tw9236964068478966872:=0
noncomputable def tw13656211842567567006:=0
noncomputable def tw2783585913635905045:=0
noncomputable def tw307063714471652753:=0
noncomputable def tw3435919679391959981:=0
noncomputable def tw14241121923700601442:=0
noncomputable def tw16077537915971662965:=0
noncomputable def tw1103417770512712956:=0
noncomputable def tw16671779640569784328:=0
noncomputable def tw17838763969474455348:=0
noncomputable def tw15309866184193913423:=0
noncomputable def tw3302108554867064921:=0
noncomputable def tw12224376334596012208:=0
noncomputable def tw8939640298588168608:=0
noncomputable def tw10380429687332376027:=0
noncomputable def tw12379555570847328865:=0
noncomputable def tw7927502970243602099:=0
noncomputable def tw1813489112814554733:=0
noncomputable def tw7253333968899522870:=0
noncomputable def tw3618856926018129971:=0
noncomputable def tw18276843879457536104:=0
noncomputable def tw3750710529626839072:=0
noncomputable def tw15826090434698509957:=0
noncomputable def tw2666532756967988851:=0
noncomputable def tw16591247826919353723:=0
noncomputable def tw1727733821718497544:=0
noncomputable def tw11926816036351170490:=0
noncomputable def tw11454072984020078168:=0
noncomputable def tw15714556885586769018:=0
noncomputable def tw16406794120533477397:=0
noncomputable def tw7017365304940222424:=0
noncomputable def tw10060980294778102345:=0
noncomputable def tw2222443674719377563:=0
noncomputable def tw13892372871746946136:=0
noncomputable def tw18027538467247375617:=0
noncomputable def tw17041212860182447952:=0
noncomputable def tw16302902421147977270:=0
noncomputable def tw3111752458025463228:=0
noncomputable def tw14354881385567123482:=0
noncomputable def tw17404904339246200890:=0
noncomputable def tw1172887916832135982:=0
noncomputable def tw5987363308143712764:=0
noncomputable def tw10283676112772467618:=0
noncomputable def tw5998382873393011458:=0
noncomputable def tw4318305006485020944:=0
noncomputable def tw10696271351615862568:=0
noncomputable def tw12530691549381041788:=0
noncomputable def tw16082998453310617417:=0
noncomputable def tw9283209745810814395:=0
noncomputable def tw6547485865996076645:=0
noncomputable def tw15794235003944203535:=0
noncomputable def tw6493809012169365506:=0
noncomputable def tw17167880030686211404:=0
noncomputable def tw10369366413757953369:=0
noncomputable def tw2709626163901649685:=0
noncomputable def tw6770454874074920408:=0
noncomputable def tw2536460969638126750:=0
noncomputable def tw4809265909232289225:=0
noncomputable def tw2128670900283905613:=0
noncomputable def tw13647193591750030646:=0
noncomputable def tw18376147716220008176:=0
noncomputable def tw8845285726142543077:=0
noncomputable def tw2785439748089050107:=0
noncomputable def tw604189587629634232:=0
noncomputable def tw16143945511963847758:=0
noncomputable def tw3252051108353146890:=0
noncomputable def tw6899966369302072216:=0
noncomputable def tw13158053151132446325:=0
noncomputable def tw7284465977613239816:=0
noncomputable def tw13099734742876768476:=0
noncomputable def tw12582420773878439757:=0
noncomputable def tw8550940191287180415:=0
noncomputable def tw10061233678269739028:=0
noncomputable def tw7803865637924660581:=0
noncomputable def tw8967045197729336279:=0
noncomputable def tw15656506640515865743:=0
noncomputable def tw15707017588330661201:=0
noncomputable def tw12027796560314817974:=0
noncomputable def tw7488192487265161519:=0
noncomputable def tw15566066135277747223:=0
noncomputable def tw11721046281233825897:=0
noncomputable def tw14576767805797078033:=0
noncomputable def tw2871346053232419693:=0
noncomputable def tw16201618240923494661:=0
noncomputable def tw16637998301240919016:=0
noncomputable def tw5553445048948310858:=0
noncomputable def tw8184486971465475751:=0
end PySem.W.Fast
open PySem PySem.W PyProof.Rows
set_option maxRecDepth 100000 in
set_option maxHeartbeats 0 in
theorem PySem.Challenge.cw_guessroom_k59_whole_any_say_teacher_holds : PySem.Challenge.rw_guessroom_k59_whole_any_say_teacher.Holds := by
  w_on; o_law; k_head; (case hw => w_witness2)
  k_fill
  refine Mine.walk (l := PySem.Challenge.rw_guessroom_k59_whole_any_say_teacher) rfl rfl (fun w h Y => PySem.W.kIn_of Y) ?F
  case F =>
    intro w mg fa h KX G hmg
    refine' Mine.all_mk KX G hmg ?aC_j7 ?pg_j7 ?hd_j7 ?po_j7 ?sa_j7 ?mk_j7 ?kc_j7 ?n_letters_Book ?n_marks_Book ?aC_j9 ?aC_ji ?aC_ja ?aC_j1 ?pg_j1 ?hd_j1 ?po_j1 ?sa_j1 ?mk_j1 ?kc_j1 ?n_book_SayHunt ?n_ends_SayHunt ?n_gaps_SayHunt ?n_guess_SayHunt ?n_letters_SayHunt ?n_most_SayHunt ?n_ways_SayHunt ?n_wish_SayHunt ?n_wrong_SayHunt ?aC_j4 ?pg_j4 ?hd_j4 ?po_j4 ?sa_j4 ?mk_j4 ?kc_j4 ?n_hunt_SayAsker ?n_letters_SayAsker ?q_j2d ?a_j1q ?i_j1q ?l_j1q ?c_j1q ?k_j1q ?a_j26 ?l_j26 ?c_j26 ?k_j26 ?a_j1s ?l_j1s ?c_j1s ?k_j1s ?a_j2a ?l_j2a ?c_j2a ?k_j2a ?a_j1p ?i_j1p ?l_j1p ?c_j1p ?k_j1p ?a_j29 ?l_j29 ?c_j29 ?k_j29 ?a_jx ?i_jx ?l_jx ?c_jx ?k_jx ?a_j28 ?l_j28 ?c_j28 ?k_j28 ?a_j2b ?l_j2b ?c_j2b ?k_j2b ?a_jc ?i_jc ?l_jc ?c_jc ?k_jc ?a_j10 ?l_j10 ?c_j10 ?k_j10 ?a_j2c ?l_j2c ?c_j2c ?k_j2c ?a_j1y ?l_j1y ?c_j1y ?k_j1y ?a_jp ?i_jp ?l_jp ?c_jp ?k_jp ?a_j16 ?i_j16 ?l_j16 ?c_j16 ?k_j16 ?a_j23 ?l_j23 ?c_j23 ?k_j23 ?a_j1l ?l_j1l ?c_j1l ?k_j1l ?a_j1g ?l_j1g ?c_j1g ?k_j1g ?a_jg ?i_jg ?l_jg ?c_jg ?k_jg ?a_j1c ?i_j1c ?l_j1c ?c_j1c ?k_j1c ?a_j1m ?l_j1m ?c_j1m ?k_j1m ?a_jh ?i_jh ?l_jh ?c_jh ?k_jh ?a_je ?i_je ?l_je ?c_je ?k_je ?a_j24 ?l_j24 ?c_j24 ?k_j24 ?a_jd ?i_jd ?l_jd ?c_jd ?k_jd ?a_jo ?i_jo ?l_jo ?c_jo ?k_jo ?a_j14 ?i_j14 ?l_j14 ?c_j14 ?k_j14 ?sg_jz ?rd_jz ?a_jz ?l_jz ?c_jz ?k_jz ?sg_j17 ?rd_j17 ?a_j17 ?l_j17 ?c_j17 ?k_j17 ?a_jf ?i_jf ?l_jf ?c_jf ?k_jf ?a_j1k ?i_j1k ?l_j1k ?c_j1k ?k_j1k ?a_ju ?i_ju ?l_ju ?c_ju ?k_ju ?a_j15 ?i_j15 ?l_j15 ?c_j15 ?k_j15 ?a_jn ?i_jn ?l_jn ?c_jn ?k_jn ?a_jw ?i_jw ?l_jw ?c_jw ?k_jw ?a_jl ?i_jl ?l_jl ?c_jl ?k_jl ?a_j1e ?i_j1e ?l_j1e ?c_j1e ?k_j1e ?a_js ?i_js ?l_js ?c_js ?k_js ?a_j1z ?l_j1z ?c_j1z ?k_j1z ?a_j13 ?i_j13 ?l_j13 ?c_j13 ?k_j13 ?a_jq ?i_jq ?l_jq ?c_jq ?k_jq ?a_j27 ?l_j27 ?c_j27 ?k_j27 ?a_j1t ?l_j1t ?c_j1t ?k_j1t ?a_j1b ?i_j1b ?l_j1b ?c_j1b ?k_j1b ?a_j1r ?i_j1r ?l_j1r ?c_j1r ?k_j1r ?a_jj ?i_jj ?l_jj ?c_jj ?k_jj ?a_jk ?i_jk ?l_jk ?c_jk ?k_jk ?a_j1f ?i_j1f ?l_j1f ?c_j1f ?k_j1f ?a_jt ?i_jt ?l_jt ?c_jt ?k_jt ?a_j25 ?l_j25 ?c_j25 ?k_j25 ?a_j20 ?l_j20 ?c_j20 ?k_j20 ?a_j1w ?l_j1w ?c_j1w ?k_j1w ?a_j1u ?l_j1u ?c_j1u ?k_j1u ?a_j1n ?l_j1n ?c_j1n ?k_j1n ?a_j1a ?l_j1a ?c_j1a ?k_j1a ?a_j11 ?l_j11 ?c_j11 ?k_j11 ?a_jv ?l_jv ?c_jv ?k_jv ?a_j18 ?l_j18 ?c_j18 ?k_j18 ?a_j1v ?l_j1v ?c_j1v ?k_j1v ?a_j1j ?l_j1j ?c_j1j ?k_j1j ?a_j1d ?i_j1d ?l_j1d ?c_j1d ?k_j1d ?a_jr ?i_jr ?l_jr ?c_jr ?k_jr ?a_j1h ?l_j1h ?c_j1h ?k_j1h ?a_j1i ?l_j1i ?c_j1i ?k_j1i ?a_j21 ?l_j21 ?c_j21 ?k_j21 ?a_j19 ?l_j19 ?c_j19 ?k_j19 ?a_j12 ?l_j12 ?c_j12 ?k_j12 ?a_jb ?i_jb ?l_jb ?c_jb ?k_jb ?a_jy ?i_jy ?l_jy ?c_jy ?k_jy ?a_jm ?i_jm ?l_jm ?c_jm ?k_jm ?a_j1o ?l_j1o ?c_j1o ?k_j1o ?a_j1x ?l_j1x ?c_j1x ?k_j1x ?a_j22 ?l_j22 ?c_j22 ?k_j22 ?a_j2e ?l_j2e ?c_j2e ?k_j2e ?z_all ?z_bool ?z_enumerate ?z_int ?z_isinstance ?z_len ?z_list ?z_max ?z_range ?z_tuple ?z_zip ?m_j8 ?m_j5 ?m_j6 ?m_j3 ?m_j2 ?m_j0 ?x_j5 ?ga_j5 ?hk_j5 ?cl_j5 ?ca_j5 ?mo_j5 ?mb_j5 ?e_j5 ?v_j5 ?ee_j5 ?k_j5_j8 ?k_j5_j5 ?k_j5_j6 ?k_j5_j3 ?k_j5_j2 ?k_j5_j0 ?x_j6 ?ga_j6 ?hk_j6 ?cl_j6 ?ca_j6 ?mo_j6 ?mb_j6 ?e_j6 ?v_j6 ?ee_j6 ?k_j6_j8 ?k_j6_j5 ?k_j6_j6 ?k_j6_j3 ?k_j6_j2 ?k_j6_j0 ?x_j3 ?ga_j3 ?hk_j3 ?cl_j3 ?ca_j3 ?mo_j3 ?mb_j3 ?e_j3 ?v_j3 ?ee_j3 ?k_j3_j8 ?k_j3_j5 ?k_j3_j6 ?k_j3_j3 ?k_j3_j2 ?k_j3_j0 ?x_j2 ?ga_j2 ?hk_j2 ?cl_j2 ?ca_j2 ?mo_j2 ?mb_j2 ?e_j2 ?v_j2 ?ee_j2 ?k_j2_j8 ?k_j2_j5 ?k_j2_j6 ?k_j2_j3 ?k_j2_j2 ?k_j2_j0 ?x_j0 ?ga_j0 ?hk_j0 ?cl_j0 ?ca_j0 ?mo_j0 ?mb_j0 ?e_j0 ?v_j0 ?ee_j0 ?k_j0_j8 ?k_j0_j5 ?k_j0_j6 ?k_j0_j3 ?k_j0_j2 ?k_j0_j0 ?gs ?tk
    (case aC_j7|pg_j7|hd_j7|po_j7|sa_j7|mk_j7|kc_j7|n_letters_Book|n_marks_Book|aC_j9|aC_ji|aC_ja|aC_j1|pg_j1|hd_j1|po_j1|sa_j1|mk_j1|kc_j1|n_book_SayHunt|n_ends_SayHunt|n_gaps_SayHunt|n_guess_SayHunt|n_letters_SayHunt|n_most_SayHunt|n_ways_SayHunt|n_wish_SayHunt|n_wrong_SayHunt|aC_j4|pg_j4|hd_j4|po_j4|sa_j4|mk_j4|kc_j4|n_hunt_SayAsker|n_letters_SayAsker|q_j2d|a_j1q|i_j1q=>k_is)
    (case l_j1q|c_j1q|k_j1q|a_j26|l_j26|c_j26|k_j26|a_j1s|l_j1s|c_j1s|k_j1s|a_j2a|l_j2a|c_j2a|k_j2a|a_j1p|i_j1p|l_j1p|c_j1p|k_j1p|a_j29|l_j29|c_j29|k_j29|a_jx|i_jx|l_jx|c_jx|k_jx|a_j28|l_j28|c_j28|k_j28|a_j2b|l_j2b|c_j2b|k_j2b|a_jc|i_jc|l_jc=>k_is)
    (case c_jc|k_jc|a_j10|l_j10|c_j10|k_j10|a_j2c|l_j2c|c_j2c|k_j2c|a_j1y|l_j1y|c_j1y|k_j1y|a_jp|i_jp|l_jp|c_jp|k_jp|a_j16|i_j16|l_j16|c_j16|k_j16|a_j23|l_j23|c_j23|k_j23|a_j1l|l_j1l|c_j1l|k_j1l|a_j1g|l_j1g|c_j1g|k_j1g|a_jg|i_jg|l_jg|c_jg=>k_is)
    (case k_jg|a_j1c|i_j1c|l_j1c|c_j1c|k_j1c|a_j1m|l_j1m|c_j1m|k_j1m|a_jh|i_jh|l_jh|c_jh|k_jh|a_je|i_je|l_je|c_je|k_je|a_j24|l_j24|c_j24|k_j24|a_jd|i_jd|l_jd|c_jd|k_jd|a_jo|i_jo|l_jo|c_jo|k_jo|a_j14|i_j14|l_j14|c_j14|k_j14|sg_jz=>k_is)
    (case rd_jz|a_jz|l_jz|c_jz|k_jz|sg_j17|rd_j17|a_j17|l_j17|c_j17|k_j17|a_jf|i_jf|l_jf|c_jf|k_jf|a_j1k|i_j1k|l_j1k|c_j1k|k_j1k|a_ju|i_ju|l_ju|c_ju|k_ju|a_j15|i_j15|l_j15|c_j15|k_j15|a_jn|i_jn|l_jn|c_jn|k_jn|a_jw|i_jw|l_jw|c_jw=>k_is)
    (case k_jw|a_jl|i_jl|l_jl|c_jl|k_jl|a_j1e|i_j1e|l_j1e|c_j1e|k_j1e|a_js|i_js|l_js|c_js|k_js|a_j1z|l_j1z|c_j1z|k_j1z|a_j13|i_j13|l_j13|c_j13|k_j13|a_jq|i_jq|l_jq|c_jq|k_jq|a_j27|l_j27|c_j27|k_j27|a_j1t|l_j1t|c_j1t|k_j1t|a_j1b|i_j1b=>k_is)
    (case l_j1b|c_j1b|k_j1b|a_j1r|i_j1r|l_j1r|c_j1r|k_j1r|a_jj|i_jj|l_jj|c_jj|k_jj|a_jk|i_jk|l_jk|c_jk|k_jk|a_j1f|i_j1f|l_j1f|c_j1f|k_j1f|a_jt|i_jt|l_jt|c_jt|k_jt|a_j25|l_j25|c_j25|k_j25|a_j20|l_j20|c_j20|k_j20|a_j1w|l_j1w|c_j1w|k_j1w=>k_is)
    (case a_j1u|l_j1u|c_j1u|k_j1u|a_j1n|l_j1n|c_j1n|k_j1n|a_j1a|l_j1a|c_j1a|k_j1a|a_j11|l_j11|c_j11|k_j11|a_jv|l_jv|c_jv|k_jv|a_j18|l_j18|c_j18|k_j18|a_j1v|l_j1v|c_j1v|k_j1v|a_j1j|l_j1j|c_j1j|k_j1j|a_j1d|i_j1d|l_j1d|c_j1d|k_j1d|a_jr|i_jr|l_jr=>k_is)
    (case c_jr|k_jr|a_j1h|l_j1h|c_j1h|k_j1h|a_j1i|l_j1i|c_j1i|k_j1i|a_j21|l_j21|c_j21|k_j21|a_j19|l_j19|c_j19|k_j19|a_j12|l_j12|c_j12|k_j12|a_jb|i_jb|l_jb|c_jb|k_jb|a_jy|i_jy|l_jy|c_jy|k_jy|a_jm|i_jm|l_jm|c_jm|k_jm|a_j1o|l_j1o|c_j1o=>k_is)
    (case k_j1o|a_j1x|l_j1x|c_j1x|k_j1x|a_j22|l_j22|c_j22|k_j22|a_j2e|l_j2e|c_j2e|k_j2e|z_all|z_bool|z_enumerate|z_int|z_isinstance|z_len|z_list|z_max|z_range|z_tuple|z_zip|m_j8|m_j5|m_j6|m_j3|m_j2|m_j0=>k_is)
    (case x_j5=>k_exc)
    (case ga_j5|hk_j5|cl_j5|ca_j5|mo_j5|mb_j5=>k_is)
    (case e_j5=>kts_exm)
    (case v_j5=>kit_is)
    (case ee_j5=>kts_exm)
    (case k_j5_j8|k_j5_j5|k_j5_j6|k_j5_j3|k_j5_j2|k_j5_j0=>kit_is)
    (case x_j6=>k_exc)
    (case ga_j6|hk_j6|cl_j6|ca_j6|mo_j6|mb_j6=>k_is)
    (case e_j6=>kts_exm)
    (case v_j6=>kit_is)
    (case ee_j6=>kts_exm)
    (case k_j6_j8|k_j6_j5|k_j6_j6|k_j6_j3|k_j6_j2|k_j6_j0=>kit_is)
    (case x_j3=>k_exc)
    (case ga_j3|hk_j3|cl_j3|ca_j3|mo_j3|mb_j3=>k_is)
    (case e_j3=>kts_exm)
    (case v_j3=>kit_is)
    (case ee_j3=>kts_exm)
    (case k_j3_j8|k_j3_j5|k_j3_j6|k_j3_j3|k_j3_j2|k_j3_j0=>kit_is)
    (case x_j2=>k_exc)
    (case ga_j2|hk_j2|cl_j2|ca_j2|mo_j2|mb_j2=>k_is)
    (case e_j2=>kts_exm)
    (case v_j2=>kit_is)
    (case ee_j2=>kts_exm)
    (case k_j2_j8|k_j2_j5|k_j2_j6|k_j2_j3|k_j2_j2|k_j2_j0=>kit_is)
    (case x_j0=>k_exc)
    (case ga_j0|hk_j0|cl_j0|ca_j0|mo_j0|mb_j0=>k_is)
    (case e_j0=>kts_exm)
    (case v_j0=>kit_is)
    (case ee_j0=>kts_exm)
    (case k_j0_j8|k_j0_j5|k_j0_j6|k_j0_j3|k_j0_j2|k_j0_j0=>kit_is)
    (case gs|tk=>k_is)
